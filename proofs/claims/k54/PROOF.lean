import PyProof.Rows.All
import Wide.All
import OpenK.AllK
import Wide.FinOn
import Lean
import PyProof.EqAt
import PyProof.EqKinds
import PyProof.TupleCall
import PySem.Challenge.RW_asktally_k54_whole_weighed
set_option Elab.async false
set_option linter.all false
set_option maxRecDepth 100000
set_option bootstrap.genMatcherCode false
set_option compiler.extract_closed false
local macro_rules|`(%[$xs,*|$y])=>do
 if y.raw.isIdent then if y.raw.getId==`List.nil then Lean.Macro.throwUnsupported
 if y.raw.isIdent then if y.raw.getId==`aO then return←xs.getElems.foldrM (fun x a=>do match x.raw.isNatLit? with|some _=>`($(Lean.mkIdent `af) ($(Lean.mkIdent `pv) $x) $a)|_=>`($(Lean.mkIdent `af) $x $a)) y
 let h←`(_);let r←`(rfl);let q←`(?_);let a←`(by omega);let b←`(by decide)
 let o:=(xs.getElems.push y).flatMap fun x=>match x.raw.isNatLit? with|some 0=>#[h,r]|some 1=>#[r]|some 2=>#[h,h,r,r]|some 3=>#[a]|some 4=>#[b]|some 6=>#[q]|_=>#[x]
 `(⟨$o,*⟩)
local macro_rules|`(tactic|let%[$xs,*|$y]:=$e)=>do
 let g:=fun(f:Lean.Term->Lean.MacroM (Lean.TSyntax `rcasesPat))(t:Lean.Term)=>show Lean.MacroM (Lean.TSyntax `rcasesPat) from do
  match t with
  |`(%[$xs,*|$y])=>
   let p←(xs.getElems.push y).mapM fun x=>do let p←f x;`(Lean.Parser.Tactic.rcasesPatLo|$p:rcasesPat)
   `(rcasesPat|⟨$p,*⟩)
  |`($i:ident)=>`(rcasesPat|$i:ident)
  |_=>if t.raw.isNatLit?==some 1 then`(rcasesPat|$(Lean.mkIdent `rfl):ident)else`(rcasesPat|_)
 let p←g (g (g (g (g (g fun _=>`(rcasesPat|_)))))) (←`(%[$xs,*|$y]))
 `(tactic|obtain $p:rcasesPat:=$e)
local macro_rules|`(tactic|erw[$xs,*]$[at $h:ident]?)=>do
 let o:Array Lean.Term:=xs.getElems.map fun x=>⟨x.raw[1]⟩
 let l:=o.back!;let o:=o.pop
 match h with|some h=>`(tactic|let%[$o,*|$l]:=$h)|_=>`(tactic|refine %[$o,*|$l])
local macro_rules|`(⋯)=>`(by decide)
local macro_rules|`(#[0])=>`(by omega)|`(#[$f:ident,$i:num,$s:ident,$e])=>`($f (i:=$i) ($s).nd rfl (Or.inl rfl) $e)
local macro_rules|`(tactic|exists $x:ident)=>do
 let i:=Lean.mkIdent
 `(tactic|refine $(i `F.ok) $x (fun _ _ _ _ h=>by cases h;subst_vars;rfl) (fun $(i `cdv) $(i `A) $(i `outer) $(i `s) $(i `H) $(i `vs) $(i `Q) $(i `E) $(i `hr) $(i `h)=>?_))
local macro_rules | `(tactic|omega)=>`(tactic|first | lia | omega +splitDisjunctions)
local macro_rules | `(command|def $n:declId $s:optDeclSig $b:declVal)=>`(command|noncomputable def $n:declId $s:optDeclSig $b:declVal)
local macro_rules | `(tactic|decide)=>`(tactic|decide +kernel)
local macro_rules | `(tactic|rfl')=>`(tactic|with_unfolding_all rfl)
local macro_rules | `(tactic|ac_rfl)=>`(tactic|(intro _ _ _ _ _ _ us hl;rcases us with _|⟨a,_|⟨b,_|⟨c,_|⟨d,_|⟨e,_|⟨f,_|⟨g,_|⟨h,us⟩⟩⟩⟩⟩⟩⟩⟩<;>first|rfl|(simp at hl)))
noncomputable section
section
open PySem PySem.Spec PyProof.Rows
theorem zA0.{u}{c:Prop}{h:Decidable c}(hc:¬c){α:Sort u}{t e:α}:ite c t e=e:=if_neg hc
theorem zD0.{u}{c:Prop}{h:Decidable c}(hc:c){α:Sort u}{t e:α}:ite c t e=t:=if_pos hc
abbrev zE0:=@List.length_map
abbrev zF0:=@wpAny_bind
abbrev zH0:=@Nat.le_refl
abbrev zJ0:=@List.length_append
abbrev zK0:=@List.map_append
abbrev zL0:=@wpAny_pure
abbrev zM0:=@List.length_cons
theorem zN0.{u}{α:Type u}{a b:α}(h:a∈[b]):a=b:=List.mem_singleton.mp h
abbrev zO0:=@Heap.lt_size
abbrev zP0:=@Nat.le_trans
abbrev zQ0:=@List.getElem?_eq_getElem
abbrev zR0:=@List.size_toArray
abbrev zS0:=@Heap.get?_push_of_some
abbrev zT0:=@Nat.zero_le
abbrev zU0:=@Option.some.inj
abbrev zV0:=@Nat.ne_of_lt
theorem zW0.{u}{α:Type u}{l:List α}{i:Nat}{a:α}(h:l[i]?=some a):∃h:i<l.length,l[i]=a:=List.getElem?_eq_some_iff.mp h
theorem zX0.{u}{α:Type u}{a b:α}{l:List α}(h:a∈b::l):a=b∨a∈l:=List.mem_cons.mp h
abbrev zY0:=@List.getElem?_map
abbrev zZ0:=@List.map_cons
abbrev qA0:=@Heap.get?_push_size
abbrev qB0:=@Int.emod_nonneg
abbrev qC0:=@List.mem_cons_self
abbrev qD0:=@Bool.false_ne_true
abbrev qE0:=@Int.emod_lt_of_pos
abbrev qF0:=@List.mem_of_getElem?
abbrev qG0:=@List.take_length
theorem qH0.{u}{α:Type u}{a:α}{s t:List α}(h:a∈s++t):a∈s∨a∈t:=List.mem_append.mp h
abbrev qI0:=@List.take_add_one
abbrev qJ0:=@Nat.le_succ
abbrev qK0:=@List.mem_cons_of_mem
abbrev qL0:=@List.length_take
abbrev qM0:=@List.length_singleton
abbrev qN0:=@Nat.lt_of_lt_of_le
abbrev qO0:=@Int.toNat_natCast
abbrev qP0:=@List.getD_eq_getElem?_getD
abbrev qQ0:=@List.length_range
abbrev qR0:=@List.getElem_mem
abbrev qS0:=@List.mem_append_right
abbrev qT0:=@Nat.lt_irrefl
abbrev qU0:=@Int.emod_eq_of_lt
theorem qV0{α β:Type}{f:α->β}{x:Option α}{b:β}(h:x.map f=some b):∃a,x=some a/\f a=b:=Option.map_eq_some_iff.mp h
abbrev qX0:=@Int.mul_le_mul_of_nonneg_left
end
namespace L2
open PySem PySem.Spec PyProof.Rows
abbrev Key:=Sum Int Str
def sF:Key->Value->Bool
 | .inl k,v=>Value.isInt k v
 | .inr x,v=>Value.isStrOf x v
def keyH(w:World):Key->Int
 | .inl k=>hashInt k
 | .inr x=>hashStr w x
theorem cM:∀{k:Key}{v:Value},sF k v=true->(∃i t,k=Sum.inl i/\v=Value.int i t)∨(∃x t,k=Sum.inr x/\v=Value.str x t)
 | .inl i,v,h=>by
   let%[t|e]:=Value.isInt_shape (k:=i) (v:=v) h;exact .inl %[i,t,1|e]
 | .inr x,v,h=>by
   let%[t|e]:=Value.isStrOf_shape (x:=x) (v:=v) h;exact .inr %[x,t,1|e]
theorem Ar(i:Int)(t:Tok):sF (.inl i) (.int i t)=true:=by simp [sF,Value.isInt]
theorem Aq(x:Str)(t:Tok):sF (.inr x) (.str x t)=true:=by simp [sF,Value.isStrOf]
theorem Hg(a b:Int):decide ((Sum.inl a:Key)=Sum.inl b)=(a==b):=by
 by_cases e:a=b
 . subst e;simp
 . have h:¬ (Sum.inl a:Key)=Sum.inl b:=λq=>e (Sum.inl.inj q)
   rw[decide_eq_false h];exact(beq_eq_false_iff_ne.mpr e).symm
theorem Hd(a b:Str):decide ((Sum.inr a:Key)=Sum.inr b)=decide (a=b):=by
 by_cases e:a=b
 . subst e;simp
 . have h:¬ (Sum.inr a:Key)=Sum.inr b:=λq=>e (Sum.inr.inj q)
   rw[decide_eq_false h,decide_eq_false e]
theorem Hf(a:Int)(b:Str):decide ((Sum.inl a:Key)=Sum.inr b)=false:=decide_eq_false (λq=>nomatch q)
theorem He(a:Str)(b:Int):decide ((Sum.inr a:Key)=Sum.inl b)=false:=decide_eq_false (λq=>nomatch q)
def dA(prog:Program)(w:World):PySem.KeyKind prog w Key where
 is:=sF
 hash:=keyH w
 inj:=λv a b ha hb=>by
  rcases cM ha with⟨i,t,rfl,rfl⟩ | ⟨x,t,rfl,rfl⟩
  . rcases cM hb with⟨j,u,rfl,e⟩ | ⟨y,u,rfl,e⟩
    . injection e with e1 _;rw[e1]
    . exact nomatch e
  . rcases cM hb with⟨j,u,rfl,e⟩ | ⟨y,u,rfl,e⟩
    . exact nomatch e
    . injection e with e1 _;rw[e1]
 byValue:=λk v h=>by
  rcases cM h with⟨i,t,rfl,rfl⟩ | ⟨x,t,rfl,rfl⟩ <;> rfl
 pyHash:=λhv h=>by
  rcases cM hv with⟨i,t,rfl,rfl⟩ | ⟨x,t,rfl,rfl⟩
  . exact wpAny_pyHash_int h
  . exact wpAny_pyHash_str h
 eqBool:=λhu hv h=>by
  rcases cM hu with⟨i,t,rfl,rfl⟩ | ⟨x,t,rfl,rfl⟩
  . rcases cM hv with⟨j,u,rfl,rfl⟩ | ⟨y,u,rfl,rfl⟩
    . rw[Hg]at h;exact wpAny_eqBool_int h
    . rw[Hf]at h;exact SeqAt.EqAt.int_str i t y u _ _ _ _ h
  . rcases cM hv with⟨j,u,rfl,rfl⟩ | ⟨y,u,rfl,rfl⟩
    . rw[He]at h;exact SeqAt.EqAt.str_int x t j u _ _ _ _ h
    . rw[Hd]at h;exact wpAny_eqBool_str h
 «strs»:=λk x t v h=>by
  rcases cM h with⟨i,u,rfl,e⟩ | ⟨y,u,rfl,e⟩
  . exact nomatch e
  . injection e with e1 _;subst e1;cases v <;> rfl
theorem vK(prog:Program)(w:World)(i:Int)(t:Tok):(dA prog w).is (.inl i) (.int i t)=true:=Ar i t
theorem vJ(prog:Program)(w:World)(x:Str)(t:Tok):(dA prog w).is (.inr x) (.str x t)=true:=Aq x t
inductive V where
 | non | bl (b:Bool) | int (i:Int) | str (x:Str) | byt (b:Array UInt8) | flt (b:UInt64) | ref (a:Addr) | ty (n:String)
 deriving DecidableEq
def RelV:V->Value->Prop
 | .non,u=>u=Value.none
 | .bl b,u=>u=Value.bool b
 | .int i,u=>∃t,u=Value.int i t
 | .str x,u=>∃t,u=Value.str x t
 | .byt b,u=>∃t,u=Value.bytes b t
 | .flt b,u=>∃t,u=Value.float b t
 | .ref a,u=>u=Value.ref a
 | .ty n,u=>u=Value.type n
abbrev Vals:List V->List Value->Prop:=Paired RelV
theorem Vals.length(r:Vals xs us):xs.length=us.length:=Paired.length r
theorem Vals.get:∀{xs:List V}{us:List Value}{i:Nat}{x:V},Vals xs us->xs[i]?=some x->∃u,us[i]?=some u/\RelV x u
 | _,_,_,_,.nil,e=>by simp at e
 | _,_,0,_,.cons r _,e=>by simp at e;subst e;erw[0,r]
 | _,_,i+1,x,.cons _ t,e=>by
   let%[u,h1|h2]:=Vals.get (i:=i) (x:=x) t (by simpa using e);erw[u,by simpa using h1,h2]
theorem Vals.set{x:V}{u:Value}(r:RelV x u):∀{xs:List V}{us:List Value}(i:Nat),Vals xs us->Vals (xs.set i x) (us.set i u)
 | _,_,_,.nil=>.nil
 | _,_,0,.cons _ t=>.cons r t
 | _,_,i+1,.cons q t=>.cons q (Vals.set r i t)
theorem Vals.append:∀{xs ys:List V}{us ws:List Value},Vals xs us->Vals ys ws->Vals (xs++ys) (us++ws)
 | _,_,_,_,.nil,s=>s
 | _,_,_,_,.cons r t,s=>.cons r (Vals.append t s)
theorem Vals.take:∀{xs:List V}{us:List Value}(n:Nat),Vals xs us->Vals (xs.take n) (us.take n)
 | _,_,0,_=>.nil
 | _,_,_+1,.nil=>.nil
 | _,_,n+1,.cons r t=>.cons r (Vals.take n t)
theorem Vals.drop:∀{xs:List V}{us:List Value}(n:Nat),Vals xs us->Vals (xs.drop n) (us.drop n)
 | _,_,0,r=>r
 | _,_,_+1,.nil=>.nil
 | _,_,n+1,.cons _ t=>Vals.drop n t
def RelO:Option V->Option Value->Prop
 | some v,some u=>RelV v u
 | none,none=>True
 | _,_=>False
def KV{κ:Type}:List (κ×V)->List (κ×Value)->Prop:=Paired fun(p:κ×V)(q:κ×Value)=>p.1=q.1/\RelV p.2 q.2
def kV:Key->V
 | .inl i=>.int i
 | .inr x=>.str x
inductive HO where
 | lst (xs:List V)
 | tup (xs:List V)
 | dK (kvs:List (Key×V)) | dT (kvs:List (List Key×V))
 | set (S:Int->Bool) (n:Nat)
 | ins (C dx:Addr) (fs:List (Str×V))
 | own (x:Addr)
 | xd (fs:List (Str×V))
 | met (f x:Addr)
 | rng (lo hi:Int)
 | frz (o:Obj) (u:HO)
 | tbl (ps:Array Value)
 | ext (φ:Heap->Prop)
abbrev Hp:=Addr->Option HO
def upd(H:Hp)(a:Addr)(o:HO):Hp:=λb=>if b=a then some o else H b
theorem aI:upd H a o a=some o:=by unfold upd;rw[zD0 rfl]
theorem bh{a b:Addr}(h:b≠a):upd H a o b=H b:=by unfold upd;rw[zA0 h]
theorem bn{H:Hp}{a b:Addr}{o u:HO}(h:H a=some o)(h':H b=some u)(d:o≠u):a≠b:=by
 intro e;subst e;rw[h]at h';exact d (zU0 h')
theorem aV{H:Hp}{a b:Addr}{o:HO}(h:H a=some o)(h':H b=none):a≠b:=by
 intro e;subst e;rw[h]at h';cases h'
section
variable (P:Program) (w:World)
def ObjOk(H:Hp)(h:Heap)(a:Addr):HO->Prop
 | .lst xs=>xs.length<=sizeLine/\∃(its:List Value) (n:Nat),Vals xs its/\h.get? a=some { cls:=.type "list",data:=.seq its.toArray n }
 | .tup xs=>xs.length<=sizeLine/\∃its:List Value,Vals xs its/\IsTup h a its.toArray/\∃o,h.get? a=some o/\o.dict=none
 | .dK kvs=>kvs.length<=sizeLine/\(a==sysModules)=false/\∃vs,KV kvs vs/\h.DictOf (dA P w) a vs
 | .dT kvs=>kvs.length<=sizeLine/\(a==sysModules)=false/\∃xs:List (List Key×Addr×Value),
  Paired (fun(p:List Key×V)(q:List Key×Addr×Value)=>p.1=q.1/\H q.2.1=some (.tup (p.1.map kV))/\RelV p.2 q.2.2) kvs xs/\
  ∃o es ep,h.get? a=some o/\o.ExactDict/\o.data=.dict es ep/\es.toList=xs.map (entryOfKey (tupleKind (dA P w)))/\(xs.map (·.1)).Nodup
 | .set S n=>h.SetOf (intKind P w) a S n
 | .ins C dx fs=>H dx=some (.own a)/\fs.length<=1000/\dx≠a/\h.get? a=some (PySem.W.instObj C dx)/\
  ∃mA,h.Ns1 dx mA/\(∀f,RelO (fs.lookup f) (mA f))/\PySem.Within mA (fs.map (·.1))
 | .own _=>∃o,h.get? a=some o
 | .xd fs=>∃mA,h.Ns1 a mA/\∀f,RelO (fs.lookup f) (mA f)
 | .rng lo hi=>∃t u v,h.get? a=some { cls:=.type "range",data:=.fields #[.int lo t,.int hi u,.int 1 v] }
 | .frz o u=>h.get? a=some o/\ObjOk H h a u
 | .tbl ps=>h.get? a=some { cls:=.none,data:=.fields ps }
 | .met f x=>h.get? a=some (PySem.W.methodObj (.ref f) (.ref x))
 | .ext φ=>φ h/\(∃o,h.get? a=some o)/\∀h1 h2:Heap,φ h1->(∀o,h1.get? a=some o->h2.get? a=some o)->φ h2
def HOk(H:Hp)(h:Heap):Prop:=∀a o,H a=some o->ObjOk P w H h a o
end
section
variable {P:Program} {w:World} {H H':Hp} {h h':Heap} {a:Addr} {o:HO}
theorem ObjOk.lt(x:ObjOk P w H h a o):a<h.objs.size:=by
 cases o with
 | lst xs=>erw[_,_,_,_,e]at x;exact zO0 e
 | tup xs=>erw[_,_,_,p,_]at x;exact p.lt
 | dK kvs=>erw[_,_,_,_,o,_,_,e,_]at x;exact zO0 e
 | dT kvs=>erw[_,_,_,_,o,_,_,e,_]at x;exact zO0 e
 | set S n=>erw[o,_,_,_,e,_]at x;exact zO0 e
 | ins C dx fs=>erw[_,_,_,e,_]at x;exact zO0 e
 | own y=>erw[_,e]at x;exact zO0 e
 | xd fs=>erw[_,%[_,_,_,e|_],_]at x;exact zO0 e
 | rng lo hi=>erw[_,_,_,e]at x;exact zO0 e
 | frz ob u=>erw[e,_]at x;exact zO0 e
 | tbl ps=>exact zO0 (show h.get? a=some _ from x)
 | met f y=>exact zO0 (show h.get? a=some _ from x)
 | ext φ=>erw[_,%[_|e],_]at x;exact zO0 e
theorem Paired.mapP{α β:Type}{F G:α->β->Prop}:∀{l₁:List α}{l₂:List β},Paired F l₁ l₂->(∀a b,F a b->G a b)->Paired G l₁ l₂
 | _,_,.nil,_=>.nil
 | _,_,.cons r t,f=>.cons (f _ _ r) (Paired.mapP t f)
theorem ObjOk.stay(x:ObjOk P w H h a o)(k:∀b u,(b=a∨H b=some (.own a))->h.get? b=some u->h'.get? b=some u)
 (ho:∀b,H b=some (.own a)->H' b=some (.own a)) (ht:∀b xs,H b=some (.tup xs)->H' b=some (.tup xs)):ObjOk P w H' h' a o:=by
 induction o with
 | lst xs=>erw[z,its,n,r,e]at x;erw[z,its,n,r,k _ _ (.inl rfl) e]
 | tup xs=>erw[z,its,r,%[ob,e|c],od,e2,d]at x;erw[z,its,r,%[ob,k _ _ (.inl rfl) e|c],od,k _ _ (.inl rfl) e2,d]
 | dK kvs=>erw[z,y,vs,r,ob,es,ep,e,c]at x;erw[z,y,vs,r,ob,es,ep,k _ _ (.inl rfl) e,c]
 | dT kvs=>
   erw[z,y,xs,r,ob,es,ep,e,c]at x;erw[z,y,xs,Paired.mapP r λp q z=>%[z.1,ht _ _ z.2.1|z.2.2],ob,es,ep,k _ _ (.inl rfl) e,c]
 | set S n=>erw[ob,es,ep,t,e,c]at x;erw[ob,es,ep,t,k _ _ (.inl rfl) e,c]
 | ins C dx fs=>
   erw[d,z,ne,e,mA,%[od,es,ep,e2|c],r]at x;erw[ho _ d,z,ne,k _ _ (.inl rfl) e,mA,%[od,es,ep,k _ _ (.inr d) e2|c],r]
 | own y=>erw[ob,e]at x;erw[ob,k _ _ (.inl rfl) e]
 | xd fs=>erw[mA,%[od,es,ep,e|c],r]at x;erw[mA,%[od,es,ep,k _ _ (.inl rfl) e|c],r]
 | rng lo hi=>erw[t,u,v,e]at x;erw[t,u,v,k _ _ (.inl rfl) e]
 | frz ob u ih=>erw[e,q]at x;erw[k _ _ (.inl rfl) e,ih q]
 | tbl ps=>
   have e:h.get? a=some { cls:=.none,data:=.fields ps }:=x;show h'.get? a=some { cls:=.none,data:=.fields ps };exact k a _ (.inl rfl) e
 | met f y=>
   have e:h.get? a=some (PySem.W.methodObj (.ref f) (.ref y)):=x;show h'.get? a=some (PySem.W.methodObj (.ref f) (.ref y));exact k a _ (.inl rfl) e
 | ext φ=>erw[p,%[o|e],st]at x;erw[st _ _ p λo q=>k _ _ (.inl rfl) q,%[o|k _ _ (.inl rfl) e],st]
theorem HOk.lt(x:HOk P w H h)(e:H a=some o):a<h.objs.size:=(x a o e).lt
theorem HOk.fresh(x:HOk P w H h)(e:h.objs.size<=a):H a=none:=by
 cases q:H a with
 | none=>rfl
 | some u=>exact absurd (qN0 (x.lt q) e) (qT0 _)
theorem HOk.kept(x:HOk P w H h)(k:∀b u,h.get? b=some u->h'.get? b=some u):HOk P w H h':=λa o e=>
 (x a o e).stay (λb u _ q=>k b u q) (λ_ q=>q) λ_ _ q=>q
theorem HOk.laid(x:HOk P w H h)(k:∀b u,h.get? b=some u->h'.get? b=some u)(hp:h.objs.size<=a)(new:ObjOk P w (upd H a o) h' a o):HOk P w (upd H a o) h':=λb u e=>by
 have hn:=x.fresh hp
 by_cases hb:b=a
 . subst hb;rw[aI]at e;cases e;exact new
 . rw[bh hb]at e;exact(x b u e).stay (λc v _ q=>k c v q) (λc q=>by rw[bh (aV q hn)];exact q) λc xs q=>by rw[bh (aV q hn)];exact q
end
def Rd(H:Hp)(a:Addr)(u:HO):Prop:=H a=some u∨∃o,H a=some (.frz o u)
theorem Rd.ok{P:Program}{w:World}{h:Heap}(r:Rd H a u)(x:HOk P w H h):ObjOk P w H h a u:=by
 rcases r with r | ⟨o,r⟩
 . exact x a u r
 . let%[_|q]:=x a _ r;exact q
def Mut:Option HO->Prop
 | some (.lst _)=>True
 | some (.dK _)=>True
 | some (.dT _)=>True
 | some (.set _ _)=>True
 | some (.ins _ _ _)=>True
 | some (.ext _)=>True
 | _=>False
section
variable {P:Program} {w:World} {H:Hp} {h h':Heap} {x e:Addr} {o':HO}
theorem HOk.write(ok:HOk P w H h)(mu:Mut (H x))(he:e=x∨H e=some (.own x))(k:∀b u,b≠e->h.get? b=some u->h'.get? b=some u)(heo:∃u,h'.get? e=some u)
 (new:ObjOk P w (upd H x o') h' x o'):HOk P w (upd H x o') h':=λb u q=>by
 have nown:∀c y,H c=some (.own y)->c≠x:=λc y r z=>by subst z;rw[r]at mu;exact mu
 have ntup:∀c xs,H c=some (.tup xs)->c≠x:=λc xs r z=>by subst z;rw[r]at mu;exact mu
 by_cases hb:b=x
 . subst hb;rw[aI]at q;cases q;exact new
 . rw [bh hb]at q
   by_cases hbe:b=e
   . have q':H b=some (.own x):=by
      rcases he with z | z
      . exact absurd (hbe.trans z) hb
      . rw[hbe];exact z
     rw[q]at q';cases q';erw[v,hv]at heo;erw[v,by rw[hbe];exact hv]
   . refine (ok b u q).stay (λc v hc r=>k c v ?_ r) (λc r=>by rw[bh (nown c b r)];exact r) λc xs r=>by rw[bh (ntup c xs r)];exact r
     rcases hc with rfl | hc
     . exact hbe
     . rintro rfl;rcases he with z | z
       . exact nown c b hc z
       . rw[hc]at z;cases z;exact hb rfl
end
structure Un(fs ex:List Addr)(H H':Hp)(h h':Heap):Prop where
 keep:∀b o,h.get? b=some o->H b=none->b∉fs->b∉ex->h'.get? b=some o
 slot:∀b o,h.get? b=some o->H b=none->b∈fs->b∉ex->∃sl,h'.get? b=some { o with slots:=sl }
 free:∀b o,h.get? b=some o->H b=none->b∉ex->H' b=none
 there:∀b o,h.get? b=some o->b∉ex->∃o',h'.get? b=some o'
 tups:∀b xs,H b=some (.tup xs)->H' b=some (.tup xs)
 frzs:∀b o u,H b=some (.frz o u)->H' b=some (.frz o u)
 tbls:∀b ps,H b=some (.tbl ps)->∃more,H' b=some (.tbl (ps++more))
section
variable {fs fs' ex ex':List Addr} {H H1 H2:Hp} {h h1 h2 h':Heap} {a x e:Addr} {o:HO}
theorem Un.any(u:Un fs ex H H1 h h1){b:Addr}{ob:Obj}(q:h.get? b=some ob)(n:H b=none)(hx:b∉ex):∃sl,h1.get? b=some { ob with slots:=sl }:=by
 by_cases hb:b∈fs
 . exact u.slot b ob q n hb hx
 . erw[ob.slots,u.keep b ob q n hb hx]
theorem Un.kept(k:∀b u,h.get? b=some u->h'.get? b=some u):Un fs ex H H h h':=
 %[λb ob q _ _ _=>k b ob q,λb ob q _ _ _=>%[ob.slots|k b ob q],λ_ _ _ n _=>n,λb ob q _=>%[ob|k b ob q],λ_ _ q=>q,λ_ _ _ q=>q|λ_ ps q=>%[#[]|by rw[q];simp]]
theorem Un.refl:Un fs ex H H h h:=Un.kept λ_ _ q=>q
theorem Un.laid(k:∀b u,h.get? b=some u->h'.get? b=some u)(hp:h.objs.size<=a)(hn:H a=none):Un fs ex H (upd H a o) h h' where
 keep:=λb u q _ _ _=>k b u q
 slot:=λb u q _ _ _=>%[u.slots|k b u q]
 free:=λb u q n _=>by rw[bh (zV0 (qN0 (zO0 q) hp))];exact n
 there:=λb u q _=>%[u|k b u q]
 tups:=λb xs q=>by rw[bh (aV q hn)];exact q
 frzs:=λb u xs q=>by rw[bh (aV q hn)];exact q
 tbls:=λb ps q=>%[#[]|by rw[bh (aV q hn),q];simp]
theorem Un.write(mu:Mut (H x))(he:e=x∨H e=some (.own x))(k:∀b u,b≠e->h.get? b=some u->h'.get? b=some u)(heo:∃u,h'.get? e=some u):Un fs ex H (upd H x o) h h':=by
 have hx:∀b,H b=none->b≠x:=λb n z=>by subst z;rw[n]at mu;exact mu
 have hb:∀b,H b=none->b≠e:=λb n z=>by
  subst z;rcases he with r | r
  . exact hx b n r
  . rw[n]at r;cases r
 have hm:∀b u,H b=some u->¬ Mut (some u)->b≠x:=λb u q nm z=>by subst z;rw[q]at mu;exact nm mu
 erw[λb u q n _ _=>k b u (hb b n) q,λb u q n _ _=>%[u.slots|k b u (hb b n) q],λb u q n _=>by rw[bh (hx b n)];exact n,λb u q _=>?_,λb xs q=>by rw[bh (hm b _ q λz=>z)];exact q,λb u xs q=>by rw[bh (hm b _ q λz=>z)];exact q,λb ps q=>%[#[]|by rw[bh (hm b _ q λz=>z),q];simp]]
 by_cases hbe:b=e
 . subst hbe;exact heo
 . erw[u,k b u hbe q]
end
def trk(h:Heap)(H:Hp):List Addr:=(List.range h.objs.size).filter λa=>(H a).isSome
def uG(h:Heap)(H:Hp):Heap:=PySem.W.hideAll h (trk h H)
theorem AA(h:Heap)(H:Hp):(uG h H).objs.size=h.objs.size:=PySem.W.hideAll_size _ _
theorem Dr{h:Heap}{H:Hp}{b:Addr}{o:Obj}(e:h.get? b=some o)(n:H b=none):(uG h H).get? b=some o:=
 PySem.W.hideAll_get _ e λhm=>by
  have q:(H b).isSome=true:=(List.mem_filter.mp hm).2;rw[n]at q;simp at q
theorem ET{b:Addr}{o:Obj}(e:(uG h H).get? b=some o):h.get? b=some o/\H b=none:=by
 have e':h.get? b=some o:=PySem.W.of_hideAll (trk h H) e;erw[e',6];cases q:H b with
 | none=>rfl
 | some x=>
   have hm:b∈trk h H:=List.mem_filter.mpr %[List.mem_range.mpr (zO0 e')|by simp [q]];have z:(uG h H).get? b=none:=PySem.W.hideAll_none (trk h H) hm;rw[z]at e;cases e
structure Mod(K:W.Frag)(mg:Str->Option Value)(base:Heap):Prop where
 kin:K.In base
 glob:base.Ns mainGlobals mg
 blt:∃mb,base.Ns builtinsNs mb/\∀x:Str,x≠"__name__" -> mb x=bootBuiltins x
 nolimit:base.NoLimit
structure Cx where
 prog:Program
 w:World
 K:W.Frag
 mg:Str->Option Value
 base:Heap
 A:Around
 N:List Str
 s₀:Shared
 H₀:Hp
 env:Env
 outer:List Env
 stack:List Env
 ex:List Addr
 fn:Str->Bool
 calm:Bool
 pn:List (Addr×Obj)
 xe:Value->Shared->Prop
def frs(l:List Env):List Addr:=l.filterMap (·.frame)
abbrev Cx.fs(X:Cx):List Addr:=frs X.outer
def Vis(sc:Scope)(x:Str):Prop:=sc.names.lookup x=some .local∨sc.names.lookup x=some .cell∨sc.names.lookup x=some .free
def Loc(sc:Scope)(x:Str):Prop:=sc.names.lookup x=some .local∨sc.names.lookup x=some .cell
def Look(env:Env)(h:Heap)(m:Str->Option Value)(x:Str)(u:Value):Prop:=
 (env.kindOf x=some .local/\m x=some u)∨((env.kindOf x=some .cell∨env.kindOf x=some .free)/\∃c,env.cells.lookup x=some c/\h.IsCell c (some u))
structure Cx.Ok(X:Cx):Prop where
 mod:Mod X.K X.mg X.base
 kind:X.env.scope.kind=.function
 glob:X.env.globals=mainGlobals
 blt:X.env.builtins=builtinsNs
 above:X.s₀.heap.objs.size<=X.env.locals
 inj:∀x y c,X.env.cells.lookup x=some c->X.env.cells.lookup y=some c->x=y
 has:∀x,(X.env.kindOf x=some .cell∨X.env.kindOf x=some .free)->∃c,X.env.cells.lookup x=some c
 cab:∀x c,X.fn x=true->X.env.cells.lookup x=some c->X.s₀.heap.objs.size<=c
 hd:X.calm=true->X.A.handled=none
 frames:X.A.frames=some X.stack
 stk:X.stack=X.outer∨(X.stack=X.env::X.outer/\X.env.frame=some X.env.locals)
 exf:∀b∈X.ex,b≠X.env.locals/\∀x c,X.env.cells.lookup x=some c->c≠b
 bs:∀b o,X.base.get? b=some o->X.s₀.heap.get? b=some o/\X.H₀ b=none
 bsz:X.base.objs.size<=X.s₀.heap.objs.size
 noex:∀b o,X.base.get? b=some o->b∉X.ex
 exfs:∀b∈X.ex,b∉X.fs
 funs:X.s₀.heap.FunFrames X.base X.outer
 frf:∀b∈X.fs,X.H₀ b=none
structure Inv(X:Cx)(pins:List (Addr×Obj))(σ:List (Option V))(H:Hp)(s:Shared):Prop where
 ok:X.Ok
 os:s.os=X.s₀.os
 bare:AllBare s.gens
 base:Un X.fs X.ex X.H₀ H X.s₀.heap s.heap
 loc:∃m,s.heap.Ns X.env.locals m/\∀(i:Nat)(x:Str)(v:V),X.N[i]?=some x->σ[i]?=some (some v)->Vis X.env.scope x->∃u,RelV v u/\Look X.env s.heap m x u
 cell:∀x c,X.env.cells.lookup x=some c->∃v,s.heap.IsCell c v
 free:H X.env.locals=none
 freeC:∀x c,X.env.cells.lookup x=some c->H c=none
 pin:∀p∈X.pn++pins,s.heap.get? p.1=some p.2/\H p.1=none/\p.1≠X.env.locals/\p.1∉X.fs/\∀v,p.2.data≠.cell v
 hok:HOk X.prog X.w H s.heap
 len:σ.length=X.N.length
section
variable {X:Cx} {pins:List (Addr×Obj)} {σ:List (Option V)} {H H':Hp} {s:Shared} {h':Heap}
theorem Cx.Ok.nofr(ok:X.Ok){b:Addr}{o:Obj}(e:X.base.get? b=some o):b∉X.fs:=λhb=>by
 have:=(ok.funs.mem hb).1
 rw[e]at this;cases this
theorem Inv.bs(I:Inv X pins σ H s):∀b o,X.base.get? b=some o->s.heap.get? b=some o/\H b=none:=λb o e=>
 %[I.base.keep b o (I.ok.bs b o e).1 (I.ok.bs b o e).2 (I.ok.nofr e) (I.ok.noex b o e)|I.base.free b o (I.ok.bs b o e).1 (I.ok.bs b o e).2 (I.ok.noex b o e)]
theorem Inv.bk(I:Inv X pins σ H s):∀b o,X.base.get? b=some o->s.heap.get? b=some o:=λb o e=>(I.bs b o e).1
theorem Inv.mod(I:Inv X pins σ H s):Mod X.K X.mg X.base:=I.ok.mod
theorem Inv.kIn(I:Inv X pins σ H s):X.K.In s.heap:=I.ok.mod.kin.keeps I.bk
theorem Inv.lt(I:Inv X pins σ H s):X.env.locals<s.heap.objs.size:=let⟨_,hn,_⟩:=I.loc;hn.lt
theorem Inv.sz(I:Inv X pins σ H s):X.s₀.heap.objs.size<=s.heap.objs.size:=zP0 I.ok.above (Nat.le_of_lt I.lt)
theorem Inv.nofs(I:Inv X pins σ H s){a:Addr}(h:s.heap.objs.size<=a):a∉X.fs:=λhb=>by
 let%[_,o,ho|_]:=I.ok.funs.mem hb;exact absurd (qN0 (zO0 ho) (zP0 I.sz h)) (qT0 _)
theorem Inv.cne(I:Inv X pins σ H s):∀x c,X.env.cells.lookup x=some c->c≠X.env.locals:=λx c e z=>by
 let%[v,o,ho|hd]:=I.cell x c e;erw[m,%[o',es,ep,ho',hd'|_],_]at I.loc;rw[z,ho']at ho;cases ho;rw[hd']at hd;cases hd
theorem Inv.funs(I:Inv X pins σ H s):s.heap.FunFrames X.base X.outer:=by
 have all:∀(l:List Env),(∀b∈frs l,b∈X.fs)->X.s₀.heap.FunFrames X.base l->s.heap.FunFrames X.base l:=by
  intro l
  induction l with
  | nil=>intro _ _;trivial
  | cons env r ih=>
    intro hs hl;erw[hk,%[L,o,hf,hn,ho|hd],hr]at hl;have hL:L∈X.fs:=hs L (by unfold frs;rw[List.filterMap_cons,hf];exact qC0);let%[sl|e]:=I.base.slot L o ho (I.ok.frf L hL) hL λz=>I.ok.exfs L z hL
    erw[hk,%[L,_,hf,hn,e|hd],ih (λb hb=>hs b (by unfold frs;rw[List.filterMap_cons,hf];exact qK0 _ hb)) hr]
 exact all X.outer (λ_ hb=>hb) I.ok.funs
theorem Inv.stack(I:Inv X pins σ H s):s.heap.FunFrames X.base X.stack:=by
 rcases I.ok.stk with e | ⟨e,hf⟩
 . rw[e];exact I.funs
 . rw[e];erw[m,hn,_]at I.loc;refine .cons (by rw[I.ok.kind];decide) hf hn ?_ I.funs;exact Heap.get?_none_of_le (zP0 I.ok.bsz I.ok.above)
theorem Inv.stkSub(I:Inv X pins σ H s):∀b∈frs X.stack,b∈X.env.locals::X.fs:=λb hb=>by
 rcases I.ok.stk with e | ⟨e,hf⟩
 . rw[e]at hb;exact qK0 _ hb
 . rw[e]at hb;unfold frs at hb;rw[List.filterMap_cons,hf]at hb;exact hb
theorem Inv.stkFree(I:Inv X pins σ H s):∀b∈frs X.stack,H b=none:=λb hb=>by
 rcases zX0 (I.stkSub b hb)with e | hb
 . rw[e];exact I.free
 . let%[_,o,ho|_]:=I.ok.funs.mem hb;exact I.base.free b o ho (I.ok.frf b hb) λz=>I.ok.exfs b z hb
theorem Inv.step{g':Array GenState}{t':Nat}{d':Drawn}{ch:List Addr}(I:Inv X pins σ H s)
 (hch:∀b∈ch,(b∈X.ex∨X.s₀.heap.objs.size<=b)/\b≠X.env.locals/\(∀x c,X.env.cells.lookup x=some c->c≠b)/\∀p∈X.pn++pins,p.1≠b)
 (keep:∀b o,b≠X.env.locals->b∉X.fs->b∉ch->s.heap.get? b=some o->H b=none->h'.get? b=some o)
 (slot:∀b o,b≠X.env.locals->b∈X.fs->b∉ch->s.heap.get? b=some o->H b=none->∃sl,h'.get? b=some { o with slots:=sl }) (free:∀b o,b∉ch->s.heap.get? b=some o->H b=none->H' b=none)
 (there:∀b o,b∉ch->s.heap.get? b=some o->∃o',h'.get? b=some o')
 (tups:∀b xs,H b=some (.tup xs)->H' b=some (.tup xs)) (frzs:∀b o u,H b=some (.frz o u)->H' b=some (.frz o u)) (tbls:∀b ps,H b=some (.tbl ps)->∃more,H' b=some (.tbl (ps++more)))
 (ns:∀m,s.heap.Ns X.env.locals m->h'.Ns X.env.locals m) (hok:HOk X.prog X.w H' h') (hg:AllBare g') :
 Inv X pins σ H' { s with heap:=h',gens:=g',drawn:=d',toks:=t' }:=by
 have neL:∀b o,X.s₀.heap.get? b=some o->b≠X.env.locals:=λb o e=>zV0 (qN0 (zO0 e) I.ok.above)
 have neC:∀b o,X.s₀.heap.get? b=some o->b∉X.ex->b∉ch:=λb o e hx hb=>by
  rcases(hch b hb).1 with z | z
  . exact hx z
  . exact absurd (qN0 (zO0 e) z) (qT0 _)
 have cellK:∀x c,X.env.cells.lookup x=some c->∀v,s.heap.IsCell c v->h'.IsCell c v:=λx c e v ⟨o,ho,hd⟩=>by
  have nch:c∉ch:=λz=>(hch c z).2.2.1 x c e rfl
  by_cases hc:c∈X.fs
  . let%[sl|q]:=slot c o (I.cne x c e) hc nch ho (I.freeC x c e);erw[_,q,hd]
  . erw[o,keep c o (I.cne x c e) hc nch ho (I.freeC x c e),hd]
 erw[I.ok,I.os,hg,%[λb o e n hb hx=>?_,λb o e n hb hx=>?_,λb o e n hx=>?_,λb o e hx=>?_,λb xs e=>tups b xs (I.base.tups b xs e),λb o xs e=>frzs b o xs (I.base.frzs b o xs e)|λb ps e=>?_],6,λx c e=>?_,6,λx c e=>?_,λp hp=>?_,hok,I.len]
 . exact keep b o (neL b o e) hb (neC b o e hx) (I.base.keep b o e n hb hx) (I.base.free b o e n hx)
 . let%[sl|e1]:=I.base.slot b o e n hb hx;let%[sl'|e2]:=slot b _ (neL b o e) hb (neC b o e hx) e1 (I.base.free b o e n hx);erw[sl',e2]
 . let%[o'|e1]:=I.base.there b o e hx;exact free b o' (neC b o e hx) e1 (I.base.free b o e n hx)
 . let%[o'|e1]:=I.base.there b o e hx;exact there b o' (neC b o e hx) e1
 . let%[m1|e1]:=I.base.tbls b ps e;let%[m2|e2]:=tbls b _ e1;erw[m1++m2,by rw[e2,Array.append_assoc]]
 . erw[m,hn,hl]at I.loc;erw[m,ns m hn,λi x v e1 e2 e3=>?_];let%[u,r|l]:=hl i x v e1 e2 e3;erw[u,r,6];rcases l with l | ⟨k,c,e,z⟩
   . exact .inl l
   . exact .inr %[k,c,e|cellK x c e _ z]
 . let%[v|z]:=I.cell x c e;erw[v,cellK x c e v z]
 . erw[m,%[o,_,_,ho|_],_]at I.loc;exact free _ o (λz=>(hch _ z).2.1 rfl) ho I.free
 . let%[v,o,ho|hd]:=I.cell x c e;exact free c o (λz=>(hch c z).2.2.1 x c e rfl) ho (I.freeC x c e)
 . let%[e,n,ne,nf|d]:=I.pin p hp;have nch:p.1∉ch:=λz=>(hch p.1 z).2.2.2 p hp rfl
   erw[keep p.1 p.2 ne nf nch e n,free p.1 p.2 nch e n,ne,nf,d]
theorem Inv.un{t':Nat}(I:Inv X pins σ H s)(u:Un X.fs [] H H' s.heap h')(hok:HOk X.prog X.w H' h'):Inv X pins σ H' { s with heap:=h',toks:=t' }:=by
 let%[m,%[o,es,ep,ho|r]|_]:=id I.loc;let%[sl|hL]:=u.any ho I.free (by simp);exact I.step (g':=s.gens) (d':=s.drawn) (ch:=[]) (λ_ z=>nomatch z) (λb o _ hb _ e n=>u.keep b o e n hb (by simp)) (λb o _ hb _ e n=>u.slot b o e n hb (by simp)) (λb o _ e n=>u.free b o e n (by simp)) (λb o _ e=>u.there b o e (by simp)) u.tups u.frzs u.tbls (λm' hm=>by
  erw[o',es',ep',ho',r']at hm;rw[ho]at ho';cases ho';erw[_,es',ep',hL,r']) hok I.bare
theorem Inv.call{g':Array GenState}{t':Nat}{d':Drawn}{ch:List Addr}(I:Inv X pins σ H s)(u:Un (frs X.stack) ch H H' s.heap h')(hok:HOk X.prog X.w H' h')(hg:AllBare g')
 (hch:∀b∈ch,(b∈X.ex∨X.s₀.heap.objs.size<=b)/\b≠X.env.locals/\(∀x c,X.env.cells.lookup x=some c->c≠b)/\∀p∈X.pn++pins,p.1≠b) :
 Inv X pins σ H' { s with heap:=h',gens:=g',drawn:=d',toks:=t' }:=by
 let%[m,%[o,es,ep,ho|r]|_]:=id I.loc;let%[sl|hL]:=u.any ho I.free λz=>(hch _ z).2.1 rfl
 exact I.step (ch:=ch) hch (λb o hL hb hc e n=>u.keep b o e n (λz=>(zX0 (I.stkSub b z)).elim hL hb) hc) (λb o _ _ hc e n=>u.any e n hc) (λb o hc e n=>u.free b o e n hc) (λb o hc e=>u.there b o e hc) u.tups u.frzs u.tbls (λm' hm=>by
  erw[o',es',ep',ho',r']at hm;rw[ho]at ho';cases ho';erw[_,es',ep',hL,r']) hok hg
theorem Inv.turned{t':Nat}{it:Addr}(I:Inv X pins σ H s)(k:∀b o,b≠it->s.heap.get? b=some o->h'.get? b=some o)(hn:H it=none)(hL:it≠X.env.locals)
 (h1:it∈X.ex∨X.s₀.heap.objs.size<=it) (h2:∀x c,X.env.cells.lookup x=some c->c≠it) (h3:∀p∈X.pn++pins,p.1≠it):Inv X pins σ H { s with heap:=h',toks:=t' }:=by
 have nit:∀b u,H b=some u->b≠it:=λb u e z=>by rw[z,hn]at e;cases e
 refine I.step (g':=s.gens) (d':=s.drawn) (ch:=[it]) (λb hb=>?_) (λb o _ _ hc e _=>k b o (λz=>hc (by simp [z])) e) (λb o _ _ hc e _=>%[o.slots|k b o (λz=>hc (by simp [z])) e]) (λ_ _ _ _ n=>n)
  (λb o hc e=>%[o|k b o (λz=>hc (by simp [z])) e]) (λ_ _ e=>e) (λ_ _ _ e=>e) (λb ps e=>%[#[]|by rw[e];simp]) (λm hm=>?_) (λb u e=>?_) I.bare
 . have e:b=it:=by simpa using hb
   subst e;erw[h1,hL,h2,h3]
 . erw[o,es,ep,ho,r]at hm;erw[o,es,ep,k _ o (Ne.symm hL) ho,r]
 . refine (I.hok b u e).stay (λc v hc q=>k c v ?_ q) (λ_ q=>q) λ_ _ q=>q
   rcases hc with z | z
   . rw[z];exact nit b u e
   . exact nit c _ z
theorem Inv.tok(I:Inv X pins σ H s)(t:Nat):Inv X pins σ H { s with toks:=t }:=I.un (h':=s.heap) (t':=t) Un.refl I.hok
theorem Inv.kept{t':Nat}(I:Inv X pins σ H s)(k:∀b u,s.heap.get? b=some u->h'.get? b=some u):Inv X pins σ H { s with heap:=h',toks:=t' }:=I.un (Un.kept k) (I.hok.kept k)
theorem Inv.laid{a:Addr}{t':Nat}(I:Inv X pins σ H s)(k:∀b u,s.heap.get? b=some u->h'.get? b=some u)(hp:s.heap.objs.size<=a)(new:ObjOk X.prog X.w (upd H a o) h' a o) :
 Inv X pins σ (upd H a o) { s with heap:=h',toks:=t' }:=I.un (Un.laid k hp (I.hok.fresh hp)) (I.hok.laid k hp new)
theorem Inv.write{x e:Addr}{t':Nat}(I:Inv X pins σ H s)(mu:Mut (H x))(he:e=x∨H e=some (.own x))(k:∀b u,b≠e->s.heap.get? b=some u->h'.get? b=some u)(heo:∃u,h'.get? e=some u)
 (new:ObjOk X.prog X.w (upd H x o) h' x o):Inv X pins σ (upd H x o) { s with heap:=h',toks:=t' }:=I.un (Un.write mu he k heo) (I.hok.write mu he k heo new)
theorem Inv.pins_of{pins':List (Addr×Obj)}(I:Inv X pins σ H s)(h:∀p∈pins',s.heap.get? p.1=some p.2/\H p.1=none/\p.1≠X.env.locals/\p.1∉X.fs/\∀v,p.2.data≠.cell v):Inv X pins' σ H s:=
 %[I.ok,I.os,I.bare,I.base,I.loc,I.cell,I.free,I.freeC,λp hp=>(qH0 hp).elim (λz=>I.pin p (List.mem_append_left _ z)) (h p),I.hok|I.len]
theorem vF{N:List Str}(hN:N.Nodup){i j:Nat}{x:Str}(a:N[i]?=some x)(b:N[j]?=some x):i=j:=by
 let%[h1|e1]:=zW0 a;let%[h2|e2]:=zW0 b;exact(List.getElem_inj hN).mp (e1.trans e2.symm)
theorem sw{M:Model}{A:Around}{E:Value->Shared->Prop}{i:Nat}{x:Str}{Q:Unit->Shared->Prop}(I:Inv X pins σ H s)(hN:X.N.Nodup)(hi:X.N[i]?=some x)(hx:Loc X.env.scope x)(r:RelV v u)
 (h:∀s',Inv X pins (σ.set i (some v)) H s'->(∃a,Heap.SameBut a s.heap s'.heap/\(a=X.env.locals∨X.env.cells.lookup x=some a))->Q () s') (hf:X.fn x=true∨X.env.scope.names.lookup x=some .local:=by first | exact .inl rfl | exact .inr rfl | assumption):wpAny M A (storeName X.env x u) Q E s:=by
 let%[m,hn|hl]:=id I.loc;have hcls:(X.env.scope.kind==.class||(X.env.scope.kind==.module&&X.env.locals != X.env.globals))=false:=by rw[I.ok.kind];rfl
 have hiσ:i<σ.length:=by rw[I.len];exact(zW0 hi).1
 have cne:=I.cne;have tracked:∀{a:Addr}{h':Heap},(∃o,s.heap.get? a=some o/\H a=none)->Heap.SameBut a s.heap h'->HOk X.prog X.w H h':=fun{a h'} ha hs b ob e=>by
  erw[_,_,hfree]at ha;refine(I.hok b ob e).stay (λc w' hc q=>(hs.2 c ?_).trans q) (λ_ q=>q) λ_ _ q=>q
  rintro rfl;rcases hc with rfl | hc
  . rw[hfree]at e;cases e
  . rw[hfree]at hc;cases hc
 rcases hx with hk | hk
 . refine wpAny_storeName_local hk hn (λh' hn' hs=>?_) hcls;let%[oL,_,_,hoL|_]:=id hn;refine h _ %[I.ok,I.os,I.bare,%[λb o e n hb hx=>?_,λb o e n hb hx=>?_,I.base.free,λb o e hx=>?_,I.base.tups,I.base.frzs|I.base.tbls],%[_,hn'|λj y v' e1 e2 e3=>?_],λy c e=>?_,I.free,I.freeC,λp hp=>?_,tracked %[oL,hoL|I.free] hs|by simpa using I.len] ⟨_,hs,.inl rfl⟩
   . exact(hs.2 b (zV0 (qN0 (zO0 e) I.ok.above))).trans (I.base.keep b o e n hb hx)
   . let%[sl|e1]:=I.base.slot b o e n hb hx;erw[sl,(hs.2 b (zV0 (qN0 (zO0 e) I.ok.above))).trans e1]
   . let%[o'|e1]:=I.base.there b o e hx;erw[o',(hs.2 b (zV0 (qN0 (zO0 e) I.ok.above))).trans e1]
   . by_cases hj:j=i
     . subst hj;rw[hi]at e1;cases e1;rw[List.getElem?_set_self hiσ]at e2;cases e2;erw[u,r,.inl %[hk|by simp]]
     . rw [List.getElem?_set_ne (Ne.symm hj)]at e2;let%[u',r'|q]:=hl j y v' e1 e2 e3;erw[u',r',6];rcases q with⟨k,e⟩ | ⟨k,c,e,z⟩
       . refine .inl %[k|6]
         have:y≠x:=λe=>hj (vF hN e1 (e▸hi))
         simp [this,e]
       . exact .inr %[k,c,e|z.sameBut hs (cne y c e)]
   . let%[w'|z]:=I.cell y c e;erw[w',z.sameBut hs (cne y c e)]
   . let%[e,n,ne,nf|d]:=I.pin p hp;erw[(hs.2 p.1 ne).trans e,n,ne,nf,d]
 . have hfn:X.fn x=true:=by
    rcases hf with z | z
    . exact z
    . rw[z]at hk;cases hk
   let%[c|hc]:=I.ok.has x (.inl hk);let%[w'|z]:=I.cell x c hc;refine wpAny_storeName_cell I.ok.kind hk hc z (λh' hc' hs=>?_);let%[oc,hoc|hocd]:=id z;refine h { s with heap:=h' } ⟨I.ok,I.os,I.bare,⟨λb o e n hb hx=>?_,λb o e n hb hx=>?_,I.base.free,λb o e hx=>?_,I.base.tups,I.base.frzs,I.base.tbls⟩,%[m,hn.sameBut hs (Ne.symm (cne x c hc))|λj y v' e1 e2 e3=>?_],λy c' e=>?_,I.free,I.freeC,λp hp=>?_,tracked %[oc,hoc|I.freeC x c hc] hs,by simpa using I.len⟩ ⟨c,hs,.inr hc⟩
   . exact(hs.2 b (zV0 (qN0 (zO0 e) (I.ok.cab x c hfn hc)))).trans (I.base.keep b o e n hb hx)
   . let%[sl|e1]:=I.base.slot b o e n hb hx;erw[sl,(hs.2 b (zV0 (qN0 (zO0 e) (I.ok.cab x c hfn hc)))).trans e1]
   . let%[o'|e1]:=I.base.there b o e hx;erw[o',(hs.2 b (zV0 (qN0 (zO0 e) (I.ok.cab x c hfn hc)))).trans e1]
   . by_cases hj:j=i
     . subst hj;rw[hi]at e1;cases e1;rw[List.getElem?_set_self hiσ]at e2;cases e2;erw[u,r,.inr %[.inl hk,c,hc|hc']]
     . rw [List.getElem?_set_ne (Ne.symm hj)]at e2;let%[u',r'|q]:=hl j y v' e1 e2 e3;erw[u',r',6];rcases q with q | ⟨k,c',e,z'⟩
       . exact .inl q
       . refine .inr %[k,c',e|z'.sameBut hs ?_];rintro rfl;exact hj (vF hN e1 (I.ok.inj _ _ _ e hc▸hi))
   . by_cases hcc:c'=c
     . subst hcc;erw[_,hc']
     . let%[w2|z2]:=I.cell y c' e;erw[w2,z2.sameBut hs hcc]
   . let%[e,n,ne,nf|d]:=I.pin p hp;erw[(hs.2 p.1 ?_).trans e,n,ne,nf,d];intro q;rw[q,hoc]at e;have q':oc=p.2:=zU0 e;exact d w' (by rw[←q'];exact hocd)
theorem lP{M:Model}{A:Around}{E:Value->Shared->Prop}{i:Nat}{x:Str}{Q:Unit->Shared->Prop}(I:Inv X pins σ H s)(hN:X.N.Nodup)(hi:X.N[i]?=some x)(hx:Loc X.env.scope x)(r:RelV v u)
 (h:∀s',Inv X pins (σ.set i (some v)) H s'->Q () s') (hf:X.fn x=true∨X.env.scope.names.lookup x=some .local:=by first | exact .inl rfl | exact .inr rfl | assumption):wpAny M A (storeName X.env x u) Q E s:=
 sw I hN hi hx r (λs' I' _=>h s' I') hf
theorem Inv.call'{s':Shared}{ch:List Addr}(I:Inv X pins σ H s)(ho:s'.os=s.os)(u:Un (frs X.stack) ch H H' s.heap s'.heap)(hok:HOk X.prog X.w H' s'.heap)(hg:AllBare s'.gens)
 (hch:∀b∈ch,(b∈X.ex∨X.s₀.heap.objs.size<=b)/\b≠X.env.locals/\(∀x c,X.env.cells.lookup x=some c->c≠b)/\∀p∈X.pn++pins,p.1≠b):Inv X pins σ H' s':=by
 erw[h',g',d',t',o']at s';have e:o'=s.os:=ho;subst e;exact I.call (g':=g') (t':=t') (d':=d') u hok hg hch
end
abbrev XK:=Value->Option Addr->Hp->Prop
abbrev St:=List (Option V)
abbrev VK:=V->Hp->Prop
abbrev TE:=St->Hp->VK->Prop
abbrev TT:=St->Hp->(Bool->Hp->Prop)->Prop
abbrev TA:=St->Hp->(List V->Hp->Prop)->Prop
structure Ends where
 nx:St->Hp->Prop
 rt:VK
 bk:St->Hp->Prop:=λ_ _=>False
 ct:St->Hp->Prop:=λ_ _=>False
abbrev TS:=Ends->St->Hp->Prop
def EP(X:Cx)(pins:List (Addr×Obj))(σ:St)(Q:VK)(u:Value)(s':Shared):Prop:=∃v H',Inv X pins σ H' s'/\RelV v u/\Q v H'
def TP(X:Cx)(pins:List (Addr×Obj))(σ:St)(Q:Bool->Hp->Prop)(b:Bool)(s':Shared):Prop:=∃H',Inv X pins σ H' s'/\Q b H'
def AP(X:Cx)(pins:List (Addr×Obj))(σ:St)(Q:List V->Hp->Prop)(us:List Value)(s':Shared):Prop:=∃vs H',Inv X pins σ H' s'/\Vals vs us/\Q vs H'
def SP(X:Cx)(pins:List (Addr×Obj))(D:Ends)(f:Flow)(s':Shared):Prop:=
 match f with
 | .next=>∃ σ' H',Inv X pins σ' H' s'/\D.nx σ' H'
 | .brk=>∃ σ' H',Inv X pins σ' H' s'/\D.bk σ' H'
 | .cont=>∃ σ' H',Inv X pins σ' H' s'/\D.ct σ' H'
 | .ret u=>∃v σ' H',Inv X pins σ' H' s'/\RelV v u/\D.rt v H'
def PE(X:Cx)(e:Expr)(t:TE):Prop:=
 ∀(pins:List (Addr×Obj))(s:Shared)(σ:St)(H:Hp)(Q:VK),Inv X pins σ H s->t σ H Q->wpAny (model X.prog X.w) X.A (eval e X.env) (EP X pins σ Q) X.xe s
def PT(X:Cx)(e:Expr)(t:TT):Prop:=
 ∀(pins:List (Addr×Obj))(s:Shared)(σ:St)(H:Hp)(Q:Bool->Hp->Prop),Inv X pins σ H s->t σ H Q->wpAny (model X.prog X.w) X.A (isTrue e X.env (eval e X.env)) (TP X pins σ Q) X.xe s
def PW(X:Cx)(e:Expr)(t:TT):Prop:=
 ∀(whole:Sem Value)(pins:List (Addr×Obj))(s:Shared)(σ:St)(H:Hp)(Q:Bool->Hp->Prop),Inv X pins σ H s->t σ H Q->wpAny (model X.prog X.w) X.A (isTrue e X.env whole) (TP X pins σ Q) X.xe s
theorem PW.pt(h:PW X e t):PT X e t:=h _
def PA(X:Cx)(es:List Expr)(t:TA):Prop:=
 ∀(pos:Pos)(pins:List (Addr×Obj))(s:Shared)(σ:St)(H:Hp)(Q:List V->Hp->Prop),Inv X pins σ H s->t σ H Q->wpAny (model X.prog X.w) X.A (spliced (backTo pos (starEach es X.env))) (AP X pins σ Q) X.xe s
def PS(X:Cx)(st:Stmt)(t:TS):Prop:=
 ∀(pins:List (Addr×Obj))(s:Shared)(σ:St)(H:Hp)(D:Ends),Inv X pins σ H s->t D σ H->wpAny (model X.prog X.w) X.A (exec st X.env) (SP X pins D) X.xe s
def PSs(X:Cx)(st:List Stmt)(t:TS):Prop:=
 ∀(pins:List (Addr×Obj))(s:Shared)(σ:St)(H:Hp)(D:Ends),Inv X pins σ H s->t D σ H->wpAny (model X.prog X.w) X.A (execs st X.env) (SP X pins D) X.xe s
theorem thn{α:Type}{t:Sem α}{Q Q':α->Shared->Prop}{M:Model}{A:Around}{E:Value->Shared->Prop}{s:Shared}(h:wpAny M A t Q E s)(hQ:∀a s,Q a s->Q' a s):wpAny M A t Q' E s:=wpAny_mono h hQ λ_ _ x=>x
section
variable {X:Cx}
inductive tVar(i:Nat)(σ:St)(H:Hp)(Q:VK):Prop
 |mk:∀v,σ[i]?=some (some v)->Q v H->tVar i σ H Q
def tC(v:V):TE:=λ_ H Q=>Q v H
theorem GJ {i:Nat} {x:Str} {pos:Pos} (hN:X.N[i]?=some x) (hv:Vis X.env.scope x) (hd:(x==("__debug__":Str))=false:=by decide) (hcd:(x==("__classdict__":Str))=false:=by decide):PE X (.Name x pos) (tVar i):=by
 intro pins s σ H Q I h;erw[v,e,h]at h;erw[m,hn,hl]at I.loc;let%[u,r|l]:=hl i x v hN e hv;have fin:EP X pins σ Q u s:=%[v,H,I,r|h]
 rcases l with⟨hk,hm⟩ | ⟨hk,c,hc,hcell⟩
 . exact wpAny_Name (wpAny_loadName_local I.ok.kind hk hn hm fin) hd
 . rcases hk with hk | hk
   . exact wpAny_Name (wpAny_loadName_cell I.ok.kind hk hc hcell fin) hd
   . exact wpAny_Name (wpAny_loadName_free I.ok.kind hk hc hcell fin hcd) hd
theorem ae{i j pos}:PE X (.Constant (.int i) j pos) (tC (.int i)):=λ_ _ _ H _ I h=>wpAny_Constant_int %[.int i,H,I.tok _,%[|0]|h]
theorem jD{b j pos}:PE X (.Constant (.bool b) j pos) (tC (.bl b)):=λ_ _ _ H _ I h=>Constant_bool %[.bl b,H,I,1|h]
theorem ju{j pos}:PE X (.Constant .none j pos) (tC .non):=λ_ _ _ H _ I h=>Constant_none %[.non,H,I,1|h]
theorem au{x j pos}:PE X (.Constant (.str x) j pos) (tC (.str x)):=λ_ _ _ H _ I h=>Calls.Constant_str %[.str x,H,I.tok _,%[|0]|h]
def Gl(X:Cx)(x:Str):Prop:=X.env.kindOf x=some .globalImplicit
theorem pM{E:Value->Shared->Prop}{σ:St}{u:Value}{pos:Pos}{Q:Value->Shared->Prop}(I:Inv X pins σ H s)(hg:Gl X x)(hm:X.mg x=some u)(h:Q u s)
 (hd:(x==("__debug__":Str))=false:=by decide):wpAny (model X.prog X.w) X.A (eval (.Name x pos) X.env) Q E s:=
 Calls.Name_function_global I.ok.kind hg (Calls.loadGlobal_global (by rw[I.ok.glob];exact I.mod.glob.keeps I.bk) hm h) hd
theorem iF{E:Value->Shared->Prop}{σ:St}{u:Value}{pos:Pos}{Q:Value->Shared->Prop}(I:Inv X pins σ H s)(hg:Gl X x)(hm:X.mg x=none)(hv:bootBuiltins x=some u)(h:Q u s)
 (hn:x≠"__name__":=by decide) (hd:(x==("__debug__":Str))=false:=by decide):wpAny (model X.prog X.w) X.A (eval (.Name x pos) X.env) Q E s:=by
 erw[mb,h1,h2]at I.mod.blt;exact Calls.Name_function_global I.ok.kind hg (Calls.loadGlobal_builtin (by rw[I.ok.glob];exact I.mod.glob.keeps I.bk) hm (by rw[I.ok.blt];exact h1.keeps I.bk) ((h2 x hn).trans hv) h) hd
theorem cX   {u:Value} {pos:Pos} (hg:Gl X x) (hm:X.mg x=some u) (r:RelV v u) (hd:(x==("__debug__":Str))=false:=by decide):PE X (.Name x pos) (tC v):=
 λ_ _ _ H _ I h=>pM I hg hm %[v,H,I,r|h] hd
theorem jv   {u:Value} {pos:Pos} (hg:Gl X x) (hm:X.mg x=none) (hv:bootBuiltins x=some u) (r:RelV v u) (hn:x≠"__name__":=by decide) (hd:(x==("__debug__":Str))=false:=by decide):PE X (.Name x pos) (tC v):=
 λ_ _ _ H _ I h=>iF I hg hm hv %[v,H,I,r|h] hn hd
variable {a b:Expr} {ta tb:TE} {pos:Pos}
inductive ZtB(Q:(Bool->Hp->Prop))(x:V)(H1:Hp):Prop
 |mk:∀c,x=.bl c->Q c H1->ZtB Q x H1
def tB(t:TE):TT:=λσ H Q=>t σ H λx H1=>ZtB Q x H1
theorem dN(h:PE X e t)(he:∀whole,isTrue e X.env whole=(do let v ←whole;standAt e.pos;holding [v] (truthy v)):=by intro _;rfl):PT X e (tB t):=by
 intro pins s σ H Q I hw;refine isTrue_plain (thn (h pins s σ H _ I hw) λv s1 ⟨x,H1,I1,r1,q1⟩=>?_) (he _);erw[d,1,q]at q1;cases r1;exact wpAny_truthy_bool %[H1,I1|q]
variable {tA tB':TT} {rest:List Expr}
def tAnd(t u:TT):TT:=λσ H Q=>t σ H λc H1=>if c=true then u σ H1 Q else Q false H1
def tOr(t u:TT):TT:=λσ H Q=>t σ H λc H1=>if c=true then Q true H1 else u σ H1 Q
def tNot(t:TT):TT:=λσ H Q=>t σ H λc H1=>Q (!c) H1
theorem kE(ha:PT X a tA):PW X (.BoolOp .And [a] pos) tA:=by
 intro wh pins s σ H Q I h;refine isTrue_and (thn (ha pins s σ H Q I h) λc s1 e=>?_);cases c with
 | true=>exact isTrue_and_nil e
 | false=>exact e
theorem eN(ha:PT X a tA):PW X (.BoolOp .Or [a] pos) tA:=by
 intro wh pins s σ H Q I h;refine isTrue_or (thn (ha pins s σ H Q I h) λc s1 e=>?_);cases c with
 | false=>exact isTrue_or_nil e
 | true=>exact e
theorem lG(ha:PT X a tA)(hb:PW X (.BoolOp .And (b::rest) pos) tB'):PW X (.BoolOp .And (a::b::rest) pos) (tAnd tA tB'):=by
 intro wh pins s σ H Q I h;refine isTrue_and (thn (ha pins s σ H _ I h) λc s1 ⟨H1,I1,q1⟩=>?_);cases c with
 | true=>exact hb wh pins s1 σ H1 Q I1 q1
 | false=>erw[H1,I1,q1]
theorem fK(ha:PT X a tA)(hb:PW X (.BoolOp .Or (b::rest) pos) tB'):PW X (.BoolOp .Or (a::b::rest) pos) (tOr tA tB'):=by
 intro wh pins s σ H Q I h;refine isTrue_or (thn (ha pins s σ H _ I h) λc s1 ⟨H1,I1,q1⟩=>?_);cases c with
 | true=>erw[H1,I1,q1]
 | false=>exact hb wh pins s1 σ H1 Q I1 q1
theorem gI(ha:PT X a tA):PT X (.UnaryOp .Not a pos) (tNot tA):=by
 intro pins s σ H Q I h;exact isTrue_not (ha pins s σ H (λc H1=>Q (!c) H1) I h)
inductive ZtAndV(tb:TE)(σ:St)(Q:VK)(x:V)(H1:Hp):Prop
 |mk:∀c,x=.bl c->(if c=true then tb σ H1 Q else Q (.bl false) H1)->ZtAndV tb σ Q x H1
def tAndV(ta tb:TE):TE:=λσ H Q=>ta σ H λx H1=>ZtAndV tb σ Q x H1
inductive ZtOrV(tb:TE)(σ:St)(Q:VK)(x:V)(H1:Hp):Prop
 |mk:∀c,x=.bl c->(if c=true then Q (.bl true) H1 else tb σ H1 Q)->ZtOrV tb σ Q x H1
def tOrV(ta tb:TE):TE:=λσ H Q=>ta σ H λx H1=>ZtOrV tb σ Q x H1
inductive ZtNotV(Q:VK)(x:V)(H1:Hp):Prop
 |mk:∀c,x=.bl c->Q (.bl (!c)) H1->ZtNotV Q x H1
def tNotV(ta:TE):TE:=λσ H Q=>ta σ H λx H1=>ZtNotV Q x H1
theorem oo{op}(h:PE X a t):PE X (.BoolOp op [a] pos) t:=λpins s σ H Q I hw=>BoolOp_one (h pins s σ H Q I hw)
theorem qR(ha:PE X a ta)(hb:PE X (.BoolOp .And (b::rest) pos) tb):PE X (.BoolOp .And (a::b::rest) pos) (tAndV ta tb):=by
 intro pins s σ H Q I h;refine BoolOp_and (thn (ha pins s σ H _ I h) λv s1 ⟨x,H1,I1,r1,q1⟩=>?_);erw[c,1,q1]at q1;cases r1;refine wpAny_truthy_bool ?_;cases c with
 | true=>exact hb pins s1 σ H1 Q I1 q1
 | false=>erw[.bl false,H1,I1,1,q1]
theorem FO(ha:PE X a ta)(hb:PE X (.BoolOp .Or (b::rest) pos) tb):PE X (.BoolOp .Or (a::b::rest) pos) (tOrV ta tb):=by
 intro pins s σ H Q I h;refine BoolOp_or (thn (ha pins s σ H _ I h) λv s1 ⟨x,H1,I1,r1,q1⟩=>?_);erw[c,1,q1]at q1;cases r1;refine wpAny_truthy_bool ?_;cases c with
 | false=>exact hb pins s1 σ H1 Q I1 q1
 | true=>erw[.bl true,H1,I1,1,q1]
theorem Cc(ha:PE X a ta):PE X (.UnaryOp .Not a pos) (tNotV ta):=by
 intro pins s σ H Q I h;refine UnaryOp_ (thn (ha pins s σ H _ I h) λv s1 ⟨x,H1,I1,r1,q1⟩=>?_);erw[c,1,q1]at q1;cases r1;exact not_of (wpAny_truthy_bool %[.bl (!c),H1,I1,1|q1])
def tIf(t:TT)(ta tb:TE):TE:=λσ H Q=>t σ H λc H1=>if c=true then ta σ H1 Q else tb σ H1 Q
theorem vo(hc:PT X c tA)(ha:PE X a ta)(hb:PE X b tb):PE X (.IfExp c a b pos) (tIf tA ta tb):=by
 intro pins s σ H Q I h;refine wpAny_IfExp (thn (hc pins s σ H _ I h) λd s1 ⟨H1,I1,q1⟩=>?_);cases d with
 | true=>exact ha pins s1 σ H1 Q I1 q1
 | false=>exact hb pins s1 σ H1 Q I1 q1
end
def SqL(K:W.Frag)(H:Hp)(a:Addr)(xs:List V):Prop:=
 Rd H a (.lst xs)∨
  ∃(o:Obj) (its:Array Value) (n:Nat),K.lookup a=some o/\o.cls=.type "list"/\o.dict=none/\o.data=.seq its n/\its.size<=sizeLine/\Vals xs its.toList
def SqT(K:W.Frag)(H:Hp)(a:Addr)(xs:List V):Prop:=
 Rd H a (.tup xs)∨
  ∃(o:Obj) (its:Array Value) (n:Nat),K.lookup a=some o/\o.cls=.type "tuple"/\o.data=.seq its n/\its.size<=sizeLine/\Vals xs its.toList
def absV:Value->Option V
 | .none=>some .non
 | .bool b=>some (.bl b)
 | .int i _=>some (.int i)
 | .str x _=>some (.str x)
 | .bytes b _=>some (.byt b)
 | .float b _=>some (.flt b)
 | .ref a=>some (.ref a)
 | .type n=>some (.ty n)
 | _=>none
theorem RelV.abs(r:RelV x u):absV u=some x:=by
 cases x with
 | non=>cases r;rfl
 | bl _=>cases r;rfl
 | int _=>erw[t,1]at r;rfl
 | str _=>erw[t,1]at r;rfl
 | byt _=>erw[t,1]at r;rfl
 | flt _=>erw[t,1]at r;rfl
 | ref _=>cases r;rfl
 | ty _=>cases r;rfl
theorem RelV.inj(r:RelV x u)(q:RelV y u):x=y:=zU0 (r.abs.symm.trans q.abs)
theorem Vals.inj:∀{xs ys:List V}{us:List Value},Vals xs us->Vals ys us->xs=ys
 | _,_,_,.nil,.nil=>rfl
 | _,_,_,.cons r t,.cons r' t'=>by rw[r.inj r',Vals.inj t t']
section
variable {X:Cx} {pins:List (Addr×Obj)} {σ:St} {H:Hp} {s:Shared} {a:Addr} {xs ys:List V}
theorem zG0{K:W.Frag}(h:H a=some (.lst xs)):SqL K H a xs:=.inl (.inl h)
abbrev SqL.of:=@zG0
theorem zC0{K:W.Frag}(h:H a=some (.tup xs)):SqT K H a xs:=.inl (.inl h)
abbrev SqT.of:=@zC0
theorem Inv.list(I:Inv X pins σ H s)(h:SqL X.K H a xs):∃its:List Value,Vals xs its/\PlainL s.heap a its.toArray/\xs.length<=sizeLine:=by
 rcases h with h | ⟨o,its,n,hk,hc,hd,hs,hz,r⟩
 . let%[z,its,n,r|e]:=h.ok I.hok;erw[its,r,%[_,n,e,1,1|1],z]
 . erw[its.toList,r,%[o,n,I.kIn a o hk,hc,hd|by simpa using hs],6];have e:=r.length;simp only[Array.length_toList]at e;omega
theorem Inv.tuple(I:Inv X pins σ H s)(h:SqT X.K H a xs):∃its:List Value,Vals xs its/\IsTup s.heap a its.toArray/\xs.length<=sizeLine:=by
 rcases h with h | ⟨o,its,n,hk,hc,hs,hz,r⟩
 . let%[z,its,r,p|_]:=h.ok I.hok;erw[its,r,p,z]
 . erw[its.toList,r,%[o,I.kIn a o hk,hc,n|by simpa using hs],6];have e:=r.length;simp only[Array.length_toList]at e;omega
theorem Inv.list_inj(I:Inv X pins σ H s)(h:SqL X.K H a xs)(h':SqL X.K H a ys):xs=ys:=by
 let%[its,r,%[o,n,e,_,_|d]|_]:=I.list h;let%[its',r',%[o',n',e',_,_|d']|_]:=I.list h';rw[e]at e';cases e';rw[d]at d';injection d' with d1 _
 have:its=its':=by simpa using congrArg Array.toList d1
 subst this;exact r.inj r'
theorem Inv.tuple_inj(I:Inv X pins σ H s)(h:SqT X.K H a xs)(h':SqT X.K H a ys):xs=ys:=by
 let%[its,r,%[o,e,_,n|d]|_]:=I.tuple h;let%[its',r',%[o',e',_,n'|d']|_]:=I.tuple h';rw[e]at e';cases e';rw[d]at d';injection d' with d1 _
 have:its=its':=by simpa using congrArg Array.toList d1
 subst this;exact r.inj r'
end
abbrev Cx.wish(X:Cx)(E:Value->Shared->Prop):Cx:={ X with xe:=E }
abbrev Cx.nox(X:Cx):Cx:=X.wish λ_ _=>False
theorem Cx.Ok.wish{X:Cx}(ok:X.Ok)(E:Value->Shared->Prop):(X.wish E).Ok:=
 %[ok.mod,ok.kind,ok.glob,ok.blt,ok.above,ok.inj,ok.has,ok.cab,ok.hd,ok.frames,ok.stk,ok.exf,ok.bs,ok.bsz,ok.noex,ok.exfs,ok.funs|ok.frf]
theorem Cx.Ok.unwish{X:Cx}{E:Value->Shared->Prop}(ok:(X.wish E).Ok):X.Ok:=
 %[ok.mod,ok.kind,ok.glob,ok.blt,ok.above,ok.inj,ok.has,ok.cab,ok.hd,ok.frames,ok.stk,ok.exf,ok.bs,ok.bsz,ok.noex,ok.exfs,ok.funs|ok.frf]
section
variable {X:Cx} {pins:List (Addr×Obj)} {σ:St} {H:Hp} {s:Shared} {E:Value->Shared->Prop}
theorem Inv.wish(I:Inv X pins σ H s)(E:Value->Shared->Prop):Inv (X.wish E) pins σ H s:=%[I.ok.wish E,I.os,I.bare,I.base,I.loc,I.cell,I.free,I.freeC,I.pin,I.hok|I.len]
theorem Inv.unwish(I:Inv (X.wish E) pins σ H s):Inv X pins σ H s:=%[I.ok.unwish,I.os,I.bare,I.base,I.loc,I.cell,I.free,I.freeC,I.pin,I.hok|I.len]
theorem SP.unwish(h:SP (X.wish E) pins D f s'):SP X pins D f s':=by
 cases f with
 | next=>erw[σ',H',I,q]at h;erw[σ',H',I.unwish,q]
 | brk=>erw[σ',H',I,q]at h;erw[σ',H',I.unwish,q]
 | cont=>erw[σ',H',I,q]at h;erw[σ',H',I.unwish,q]
 | ret u=>erw[v,σ',H',I,r,q]at h;erw[v,σ',H',I.unwish,r,q]
theorem PSs.nox{st:List Stmt}(h:PSs X.nox st t):PSs X st t:=λpins s σ H D I hw=>
 wpAny_mono (h pins s σ H D (I.wish _) hw) (λ_ _ q=>q.unwish) λ_ _ z=>False.elim z
end
section
variable {X:Cx} {st:Stmt} {rest:List Stmt} {t u:TS} {e:Expr} {te:TE} {pos:Pos}
def FD:TS:=λD σ H=>D.nx σ H
def Gj(t u:TS):TS:=λD σ H=>t { D with nx:=u D } σ H
theorem az:PSs X [] FD:=λ_ _ σ H _ I h=>wpAny_execs_nil %[σ,H,I|h]
theorem aa(h1:PS X st t)(h2:PSs X rest u):PSs X (st::rest) (Gj t u):=by
 intro pins s σ H D I h;refine wpAny_execs_cons (thn (h1 pins s σ H { D with nx:=u D } I h) λf s1 q=>?_);cases f with
 | next=>
   erw[σ',H',I',q]at q;exact h2 pins s1 σ' H' D I' q
 | ret v=>exact q
 | brk=>exact q
 | cont=>exact q
theorem ad(h1:PS X st t):PSs X [st] t:=by
 intro pins s σ H D I h;refine wpAny_execs_cons (thn (h1 pins s σ H D I h) λf s1 q=>?_);cases f with
 | next=>exact wpAny_execs_nil q
 | ret v=>exact q
 | brk=>exact q
 | cont=>exact q
theorem Inv.quiet{σ:St}(I:Inv X pins σ H s):interactive X.env=false:=by simp [interactive,I.ok.kind]
def tDrop(te:TE):TS:=λD σ H=>te σ H λ_ H1=>D.nx σ H1
theorem aR(he:PE X e te)(hs:swapsWith e none pos.line X.env=pure false:=by rfl):PS X (.Expr e pos) (tDrop te):=by
 intro pins s σ H D I h;exact wpAny_Expr_any (thn (he pins s σ H _ I h) λv s1 ⟨x,H1,I1,r1,q1⟩=>%[σ,H1,I1|q1]) I.quiet hs
def tRet(te:TE):TS:=λD σ H=>te σ H D.rt
theorem aq(he:PE X e te):PS X (.Return (some e) pos) (tRet te):=by
 intro pins s σ H D I h;exact wpAny_Return_some (thn (he pins s σ H _ I h) λv s1 ⟨x,H1,I1,r1,q1⟩=>%[x,σ,H1,I1,r1|q1])
def Go(c:TT)(t u:TS):TS:=λD σ H=>c σ H λb H1=>if b=true then t D σ H1 else u D σ H1
theorem aG(hc:PT X c tc)(ha:PSs X a t)(hb:PSs X b u):PS X (.If c a b pos) (Go tc t u):=by
 intro pins s σ H D I h;refine wpAny_If (thn (hc pins s σ H _ I h) λd s1 ⟨H1,I1,q1⟩=>?_);cases d with
 | true=>exact ha pins s1 σ H1 D I1 q1
 | false=>exact hb pins s1 σ H1 D I1 q1
def Gk:TS:=λ_ _ _=>False
theorem bw:PSs X sts Gk:=λ_ _ _ _ _ _ h=>h.elim
end
abbrev TG:=V->St->Hp->(St->Hp->Prop)->Prop
abbrev TGs:=List V->St->Hp->(St->Hp->Prop)->Prop
def PG(X:Cx)(target:Expr)(t:TG):Prop:=
 ∀(pins:List (Addr×Obj))(s:Shared)(σ:St)(H:Hp)(v:V)(u:Value)(Q:St->Hp->Prop),Inv X pins σ H s->RelV v u->t v σ H Q ->
  wpAny (model X.prog X.w) X.A (assign target X.env u) (λ_ s'=>∃ σ' H',Inv X pins σ' H' s'/\Q σ' H') X.xe s
def PGs(X:Cx)(ts:List Expr)(t:TGs):Prop:=
 ∀(pins:List (Addr×Obj))(s:Shared)(σ:St)(H:Hp)(vs:List V)(us:List Value)(Q:St->Hp->Prop),Inv X pins σ H s->Vals vs us->t vs σ H Q ->
  wpAny (model X.prog X.w) X.A (assignInOrder ((assignEach ts X.env).map (·.2)) us) (λ_ s'=>∃ σ' H',Inv X pins σ' H' s'/\Q σ' H') X.xe s
abbrev HP:=V->V->V->Hp->(Hp->Prop)->Prop
def PSet(X:Cx)(t:HP):Prop:=
 ∀(pins:List (Addr×Obj))(s:Shared)(σ:St)(H:Hp)(o i v:V)(ov iv u:Value)(Q:Hp->Prop),Inv X pins σ H s->RelV o ov->RelV i iv->RelV v u->t o i v H Q ->
  wpAny (model X.prog X.w) X.A (setItem ov iv u) (λ_ s'=>∃H',Inv X pins σ H' s'/\Q H') X.xe s
section
variable {X:Cx} {pos:Pos}
def yW(i:Nat):TG:=λv σ H Q=>Q (σ.set i (some v)) H
theorem bb{i:Nat}{x:Str}(hN:X.N.Nodup)(hi:X.N[i]?=some x)(hx:Loc X.env.scope x)(hf:X.fn x=true∨X.env.scope.names.lookup x=some .local:=by first | exact .inl rfl | exact .inr rfl | assumption):PG X (.Name x pos) (yW i):=by
 intro pins s σ H v u Q I r h;exact wpAny_assign_Name (lP I hN hi hx r (λs' I'=>%[_,H,I'|h]) hf)
inductive gNil(vs:List V)(σ:St)(H:Hp)(Q:(St->Hp->Prop)):Prop
 |mk:vs=[]->Q σ H->gNil vs σ H Q
inductive gCons(t:TG)(u:TGs)(vs:List V)(σ:St)(H:Hp)(Q:(St->Hp->Prop)):Prop
 |mk:∀v r,vs=v::r->(t v σ H λσ' H'=>u r σ' H' Q)->gCons t u vs σ H Q
theorem kF:PGs X [] gNil:=by
 intro pins s σ H vs us Q I r h;erw[e,h]at h;subst e;cases r;exact assignInOrder_nil %[σ,H,I|h]
theorem cK(h1:PG X e t)(h2:PGs X es u)
 (hs:(assignEach (e::es) X.env).map (·.2)=assign e X.env::(assignEach es X.env).map (·.2):=by rfl):PGs X (e::es) (gCons t u):=by
 intro pins s σ H vs us Q I r h;erw[v,vr,e1,h]at h;subst e1;cases r with
 | cons r rr=>
   rw[hs];refine assignInOrder_cons (thn (h1 pins s σ H _ _ _ I r h) λ_ s1 ⟨σ1,H1,I1,q1⟩=>?_);exact h2 pins s1 σ1 H1 _ _ Q I1 rr q1
inductive gTup(K:W.Frag)(n:Nat)(t:TGs)(v:V)(σ:St)(H:Hp)(Q:(St->Hp->Prop)):Prop
 |mk:∀a xs,v=.ref a->SqT K H a xs->xs.length=n->t xs σ H Q->gTup K n t v σ H Q
theorem oj{k:Nat}{n:Nat}(hc:X.calm=true)(h:PGs X es t)
 (hn:(assignEach es X.env).length=n:=by rfl) (hst:(assignEach es X.env).findIdx? (·.1)=none:=by rfl):PG X (.Tuple es k pos) (gTup X.K n t):=by
 intro pins s σ H v u Q I r hw;erw[a,xs,e1,hq,hl,hw]at hw;subst e1;cases r;let%[its,rv,ht|hz]:=I.tuple hq;refine assign_Tuple_tuple (I.ok.hd hc) ht (by simp [hn,←hl,rv.length]) hst λh' hx=>?_
 have I1:Inv X pins σ H { s with heap:=h' }:=I.kept (t':=s.toks) λb o e=>hx b o (zV0 (zO0 e)) e
 exact h pins _ σ H xs _ Q I1 (by simpa using rv) hw
def gSub(to ti:TE)(t:HP):TG:=λv σ H Q=>to σ H λo H1=>ti σ H1 λi H2=>t o i v H2 λH3=>Q σ H3
theorem qQ(ho:PE X o to)(hi:PE X i ti)(hs:PSet X t)
 (ha:∀v,assign (.Subscript o i pos) X.env v=(do
  let ov ←holding [v] (eval o X.env)
  let iv ←holding [v,ov] (eval i X.env)
  standAt pos
  holding [v,ov,iv] (setItem ov iv v)
  release [v,ov,iv] []):=by intro _;rfl):PG X (.Subscript o i pos) (gSub to ti t):=by
 intro pins s σ H v u Q I r h;rw[ha];refine zF0 (wpAny_holding (thn (ho pins s σ H _ I h) λov s1 ⟨x,H1,I1,r1,q1⟩=>?_));refine zF0 (wpAny_holding (thn (hi pins s1 σ H1 _ I1 q1) λiv s2 ⟨y,H2,I2,r2,q2⟩=>?_));refine zF0 (wpAny_standAt (zF0 (wpAny_holding (thn (hs pins s2 σ H2 x y v ov iv u _ I2 r1 r2 r q2) λ_ s3 ⟨H3,I3,q3⟩=>?_))));exact wpAny_release %[σ,H3,I3|q3]
def El(te:TE)(g:TG):TS:=λD σ H=>te σ H λx H1=>g x σ H1 D.nx
theorem kc(he:PE X e te)(hg:PG X tg g)(hs:swapsWithSole [tg] e pos.line X.env=pure false:=by rfl)(hw:swappedStores [tg] e X.env=pure none:=by rfl)
 (h1:(assignEach [tg] X.env).map (·.2)=[assign tg X.env]:=by rfl):PS X (.Assign [tg] e pos) (El te g):=by
 intro pins s σ H D I h;refine wpAny_Assign_stores (thn (he pins s σ H _ I h) λv s1 ⟨x,H1,I1,r1,q1⟩=>?_) hs hw;rw[h1];exact thn (hg pins s1 σ H1 x v _ I1 r1 q1) λ_ s2 q=>q
theorem aj{i:Nat}{x:Str}{pos':Pos}(hN:X.N.Nodup)(hi:X.N[i]?=some x)(hx:Loc X.env.scope x)(he:PE X e te)(hs:swapsWith e (some (.Name x pos')) pos.line X.env=pure false:=by rfl)(hf:X.fn x=true∨X.env.scope.names.lookup x=some .local:=by first | exact .inl rfl | exact .inr rfl | assumption) :
 PS X (.Assign [.Name x pos'] e pos) (El te (yW i)):=by
 intro pins s σ H D I h;refine wpAny_Assign_Name (thn (he pins s σ H _ I h) λv s1 ⟨y,H1,I1,r1,q1⟩=>?_) hs;exact lP I1 hN hi hx r1 (λs2 I2=>%[_,H1,I2|q1]) hf
end
section
variable {X:Cx} {pos:Pos}
def Gi(c:TT)(tb:TS):TS:=λD σ H=>∃W:Nat->St->Hp->Prop,(∃m,W m σ H)/\∀m σ H,W m σ H ->
 c σ H λb H1=>if b=true then ∃N:St->Hp->Prop,(∀ σ' H',N σ' H'->∃m',m'<m/\W m' σ' H')/\tb { D with nx:=N,ct:=N,bk:=D.nx } σ H1 else D.nx σ H1
theorem gt(hp:PassesOwn (model X.prog X.w) X.A X.env X.xe)(hc:PT X c tc)(hb:PSs X body tb):PS X (.While c body [] pos) (Gi tc tb):=by
 intro pins s σ H D I h;erw[W,%[m0|w0],turn]at h;refine wpAny_While (codeAny_whileLoop (λn s'=>∃ σ' H',Inv X pins σ' H' s'/\W n σ' H') ?_ m0 %[σ,H,I|w0]);rintro n s1 ⟨σ1,H1,I1,w1⟩;refine wpAny_passesOwn hp (thn (hc pins s1 σ1 H1 _ I1 (turn n σ1 H1 w1)) λb s2 ⟨H2,I2,q2⟩=>?_);cases b with
 | true=>
   erw[N,hN,q2]at q2;rw[zD0 rfl];refine wpAny_passesOwn hp (thn (hb pins s2 σ1 H2 _ I2 q2) λf s3 q3=>?_);cases f with
   | next=>
     erw[σ3,H3,I3,n3]at q3;let%[m',hm|w3]:=hN σ3 H3 n3;erw[m',hm,σ3,H3,I3,w3]
   | cont=>
     erw[σ3,H3,I3,n3]at q3;let%[m',hm|w3]:=hN σ3 H3 n3;erw[m',hm,σ3,H3,I3,w3]
   | brk=>exact q3
   | ret v=>exact q3
 | false=>
   rw[zA0 qD0];exact wpAny_execs_nil %[σ1,H2,I2|q2]
end
structure It where
 go:Nat->Hp->Prop
 yld:Nat->Hp->V->Hp->Prop
 stop:Nat->Hp->Prop
def iS(X:Cx)(pins:List (Addr×Obj))(H:Hp)(b:Addr):Prop:=
 H b=none/\b≠X.env.locals/\b∉X.fs/\(b∈X.ex∨X.s₀.heap.objs.size<=b)/\(∀x c,X.env.cells.lookup x=some c->c≠b)/\∀p∈X.pn++pins,p.1≠b
theorem Inv.fpOk{σ:St}{H':Hp}{b:Addr}(I:Inv X pins σ H s)(hb:s.heap.objs.size<=b)(hn:H' b=none):iS X pins H' b:=by
 erw[hn,Nat.ne_of_gt (qN0 I.lt hb),I.nofs hb,.inr (zP0 I.sz hb),λx c e z=>?_,λp hp z=>?_]
 . let%[v|q]:=I.cell x c e;exact absurd (qN0 q.lt (by rw[z];exact hb)) (qT0 _)
 . exact absurd (qN0 (zO0 (I.pin p hp).1) (by rw[z];exact hb)) (qT0 _)
structure Turn(P:Program)(w:World)(K:W.Frag)(tg:Expr)(J:It)(fp:List Addr)(it:Addr)(tn:Nat->Heap->Prop):Prop where
 mem:it∈fp
 obj:∀i h,tn i h->∀b∈fp,∃o,h.get? b=some o/\∀v,o.data≠.cell v
 keep:∀i h h',tn i h->(∀b∈fp,∀o,h.get? b=some o->h'.get? b=some o)->tn i h'
 item:∀(X:Cx),X.prog=P->X.w=w->X.K=K->X.calm=true->∀(i:Nat)(pins:List (Addr×Obj))(s:Shared)(σ:St)(H:Hp)(E:Value->Shared->Prop),Inv X pins σ H s->(∀b∈fp,iS X pins H b)->tn i s.heap->J.go i H ->
  wpAny (model P w) X.A (pyNext (.ref it)) (λr s1=>∃u,r=some u/\
   wpAny (model P w) X.A (letOwnedTupleGo tg (.ref it) u) (λ_ s2=>∃x H',Inv X pins σ H' s2/\RelV x u/\J.yld i H x H'/\tn (i+1) s2.heap/\∀b∈fp,H' b=none) E s1) E s
 done:∀(X:Cx),X.prog=P->X.w=w->X.K=K->X.calm=true->∀(i:Nat)(pins:List (Addr×Obj))(s:Shared)(σ:St)(H:Hp)(E:Value->Shared->Prop),Inv X pins σ H s->(∀b∈fp,iS X pins H b)->tn i s.heap->J.stop i H ->
  wpAny (model P w) X.A (pyNext (.ref it)) (λr s1=>r=none/\Inv X pins σ H s1) E s
 self:∀(A:Around)(i:Nat)(s:Shared)(Q:Value->Shared->Prop)(E:Value->Shared->Prop),tn i s.heap->Q (.ref it) s->wpAny (model P w) A (pyIter (.ref it)) Q E s
abbrev TI:=St->Hp->(It->Hp->Prop)->Prop
def PIE(X:Cx)(pins:List (Addr×Obj))(σ:St)(tg:Expr)(R:It->Hp->Prop)(itv:Value)(s2:Shared):Prop:=
 ∃(it:Addr)(fp:List Addr)(tn:Nat->Heap->Prop)(J:It)(H':Hp),itv=.ref it/\Inv X pins σ H' s2/\Turn X.prog X.w X.K tg J fp it tn/\tn 0 s2.heap/\(∀b∈fp,iS X pins H' b)/\R J H'
def PI(X:Cx)(tg iter:Expr)(wi:TI):Prop:=
 ∀(pins:List (Addr×Obj))(s:Shared)(σ:St)(H:Hp)(R:It->Hp->Prop),Inv X pins σ H s->wi σ H R ->
  wpAny (model X.prog X.w) X.A (eval iter X.env) (λv s1=>wpAny (model X.prog X.w) X.A (pyIter v) (PIE X pins σ tg R) X.xe s1) X.xe s
theorem vU{M:Model}{A:Around}{E:Value->Shared->Prop}{s:Shared}{tg:Expr}{it:Addr}{u:Value}{o:Obj}{n:String}{vs:Array Value}{Q:Unit->Shared->Prop}(ho:s.heap.get? it=some o)(hc:o.cls=.type n)(hd:o.data=.fields vs)
 (hn:["enumerate","zip","dict_itemiterator","dict_reverseitemiterator","odict_iterator","itertools.zip_longest","itertools.pairwise"].contains n=false) (hQ:Q () s):wpAny M A (letOwnedTupleGo tg (.ref it) u) Q E s:=by
 unfold letOwnedTupleGo;cases tg <;> first
  | exact zL0 hQ
  | (cases u <;> first
   | exact zL0 hQ
   | (refine zF0 (wpAny_load ho ?_)
      rw[hc,hd];show wpAny M A (if(["enumerate","zip","dict_itemiterator","dict_reverseitemiterator","odict_iterator","itertools.zip_longest","itertools.pairwise"].contains n&&vs[0]?==some (rawInt _))=true then _ else _) Q E s;rw[zA0 (by intro h;rw[hn,Bool.false_and]at h;cases h)];exact zL0 hQ))
def Itl(K:W.Frag)(a:Addr):It:=
 ⟨λi H=>∃xs x,SqL K H a xs/\xs[i]?=some x,λi H x H'=>H'=H/\∀xs,SqL K H a xs->xs[i]?=some x,λi H=>∃xs,SqL K H a xs/\xs.length<=i⟩
def Itt(K:W.Frag)(a:Addr):It:=
 ⟨λi H=>∃xs x,SqT K H a xs/\xs[i]?=some x,λi H x H'=>H'=H/\∀xs,SqT K H a xs->xs[i]?=some x,λi H=>∃xs,SqT K H a xs/\xs.length<=i⟩
def Itr(lo:Int)(n:Nat):It:=%[λi _=>i<n,λi H x H'=>H'=H/\x=.int (lo+i)|λi _=>n<=i]
theorem zn{K:W.Frag}(a it:Addr):Turn P w K tg (Itl K a) [it] it (λi h=>h.IsListIter it a i) where
 mem:=by simp
 obj:=λi h st b hb=>by
  have e:b=it:=by simpa using hb
  subst e;erw[o,e,c,d]at st;erw[o,e,λv z=>by rw[d]at z;cases z]
 keep:=λi h h' st k=>st.at λo e=>k it (by simp) o e
 item:=by
  intro X hP hw hK hc i pins s σ H E I hf st hg;subst hP hw hK;erw[xs,x,hq,hx]at hg;let%[its,rv,p|hz]:=I.list hq;let%[u,hu|ru]:=rv.get hx;let%[f0,f1,f2,f3,f4|f5]:=hf it (by simp);refine wpAny_pyNext_list_item st p.isList (x:=u) (by simpa using hu) λh' st' sb=>?_
  have I1:Inv X pins σ H { s with heap:=h' }:=I.turned (t':=s.toks) (λb o hb e=>(sb.2 b hb).trans e) f0 f1 f3 f4 f5;let%[o,e,c|d]:=id st';erw[u,1,vU (s:={ s with heap:=h' }) e c d ⋯ ⟨x,H,I1,ru,⟨rfl,λys hy=>by rw[I.list_inj hy hq];exact hx⟩,st',λb hb=>(hf b hb).1⟩]
 done:=by
  intro X hP hw hK hc i pins s σ H E I hf st hg;subst hP hw hK;erw[xs,hq,hx]at hg;let%[its,rv,p|hz]:=I.list hq;let%[f0,f1,f2,f3,f4|f5]:=hf it (by simp);have hl:=rv.length;exact wpAny_pyNext_list_end (I.ok.hd hc) st p.isList (by simp;omega) λh' eb=>%[1|I.turned (t':=s.toks) (λb o hb e=>eb b o hb e) f0 f1 f3 f4 f5]
 self:=λ_ _ _ _ _ st h=>wpAny_pyIter_listiter st h
theorem wD{K:W.Frag}(a it:Addr):Turn P w K tg (Itt K a) [it] it (λi h=>h.IsTupleIter it a i) where
 mem:=by simp
 obj:=λi h st b hb=>by
  have e:b=it:=by simpa using hb
  subst e;erw[o,e,c,d]at st;erw[o,e,λv z=>by rw[d]at z;cases z]
 keep:=λi h h' st k=>st.at λo e=>k it (by simp) o e
 item:=by
  intro X hP hw hK hc i pins s σ H E I hf st hg;subst hP hw hK;erw[xs,x,hq,hx]at hg;let%[its,rv,p|hz]:=I.tuple hq;let%[u,hu|ru]:=rv.get hx;let%[f0,f1,f2,f3,f4|f5]:=hf it (by simp);refine wpAny_pyNext_tuple_item st (show s.heap.IsTuple a its.toArray from p) (x:=u) (by simpa using hu) λh' st' sb=>?_
  have I1:Inv X pins σ H { s with heap:=h' }:=I.turned (t':=s.toks) (λb o hb e=>(sb.2 b hb).trans e) f0 f1 f3 f4 f5;let%[o,e,c|d]:=id st';erw[u,1,vU (s:={ s with heap:=h' }) e c d ⋯ ⟨x,H,I1,ru,⟨rfl,λys hy=>by rw[I.tuple_inj hy hq];exact hx⟩,st',λb hb=>(hf b hb).1⟩]
 done:=by
  intro X hP hw hK hc i pins s σ H E I hf st hg;subst hP hw hK;erw[xs,hq,hx]at hg;let%[its,rv,p|hz]:=I.tuple hq;let%[f0,f1,f2,f3,f4|f5]:=hf it (by simp);have hl:=rv.length;exact wpAny_pyNext_tuple_end (I.ok.hd hc) st (show s.heap.IsTuple a its.toArray from p) (by simp;omega) λh' eb=>%[1|I.turned (t':=s.toks) (λb o hb e=>eb b o hb e) f0 f1 f3 f4 f5]
 self:=λ_ _ _ _ _ st h=>wpAny_pyIter_tupleiter st h
theorem wE{K:W.Frag}(it:Addr)(lo:Int)(n:Nat):Turn P w K tg (Itr lo n) [it] it (λi h=>IsRangeIter h it (lo+(i:Nat)*1) ((n:Int)-(i:Nat)) 1) where
 mem:=by simp
 obj:=λi h st b hb=>by
  have e:b=it:=by simpa using hb
  subst e;exact⟨_,st,λv z=>by
   have z':Data.fields _=Data.cell v:=z;cases z'⟩
 keep:=λi h h' st k=>k it (by simp) _ st
 item:=by
  intro X hP hw hK hc i pins s σ H E I hf st hg;subst hP hw hK;let%[f0,f1,f2,f3,f4|f5]:=hf it (by simp);have W:=Walks.range (prog:=X.prog) (w:=X.w) (I.ok.hd hc) it lo 1 n;refine W.item i s _ _ hg st λv h' tk hv st' kk=>?_
  erw[t,1]at hv;have I1:Inv X pins σ H { s with heap:=h',toks:=tk }:=I.turned (λb o hb e=>kk b o (by simpa using hb) e) f0 f1 f3 f4 f5;erw[0,vU (s:={ s with heap:=h',toks:=tk }) (n:="range_iterator") st' rfl rfl ⋯ ⟨.int (lo+i),H,I1,⟨t,?_⟩,⟨rfl,rfl⟩,st',λb hb=>(hf b hb).1⟩];rw[Int.mul_one]
 done:=by
  intro X hP hw hK hc i pins s σ H E I hf st hg;subst hP hw hK;let%[f0,f1,f2,f3,f4|f5]:=hf it (by simp);exact wpAny_pyNext_range_end (I.ok.hd hc) st (by have:n<=i:=hg;omega) λh' eb=>%[1|I.turned (t':=s.toks) (λb o hb e=>eb b o hb e) f0 f1 f3 f4 f5]
 self:=λ_ _ _ _ _ st h=>wpAny_pyIter_rangeiter st h
section
variable {X:Cx} {tg:Expr}
inductive ZiList(K:W.Frag)(R:(It->Hp->Prop))(x:V)(H1:Hp):Prop
 |mk:∀a,x=.ref a->(∃xs,SqL K H1 a xs)->R (Itl K a) H1->ZiList K R x H1
def FS(K:W.Frag)(tl:TE):TI:=λσ H R=>tl σ H λx H1=>ZiList K R x H1
inductive ZiTup(K:W.Frag)(R:(It->Hp->Prop))(x:V)(H1:Hp):Prop
 |mk:∀a,x=.ref a->(∃xs,SqT K H1 a xs)->R (Itt K a) H1->ZiTup K R x H1
def iTup(K:W.Frag)(tl:TE):TI:=λσ H R=>tl σ H λx H1=>ZiTup K R x H1
theorem eQ(hl:PE X l tl):PI X tg l (FS X.K tl):=by
 intro pins s σ H R I h;refine thn (hl pins s σ H _ I h) λv s1 ⟨x,H1,I1,r1,q1⟩=>?_
 erw[a,e,%[xs|hq],q]at q1;subst e;cases r1;let%[its,rv,p|hz]:=I1.list hq;refine wpAny_pyIter_list p.isList ?_;erw[s1.heap.objs.size,[s1.heap.objs.size],_,_,H1,1,I1.kept (t':=s1.toks) λb o e=>zS0 _ e,zn a _,%[_,qA0 _ rfl,1|1],λb hb=>?_,q];have e:b=s1.heap.objs.size:=by simpa using hb
 subst e;exact I1.fpOk (zH0 _) (I1.hok.fresh (zH0 _))
theorem ii(hl:PE X l tl):PI X tg l (iTup X.K tl):=by
 intro pins s σ H R I h;refine thn (hl pins s σ H _ I h) λv s1 ⟨x,H1,I1,r1,q1⟩=>?_
 erw[a,e,%[xs|hq],q]at q1;subst e;cases r1;let%[its,rv,p|hz]:=I1.tuple hq;refine wpAny_pyIter_tuple (show s1.heap.IsTuple a its.toArray from p) ?_;erw[s1.heap.objs.size,[s1.heap.objs.size],_,_,H1,1,I1.kept (t':=s1.toks) λb o e=>zS0 _ e,wD a _,%[_,qA0 _ rfl,1|1],λb hb=>?_,q];have e:b=s1.heap.objs.size:=by simpa using hb
 subst e;exact I1.fpOk (zH0 _) (I1.hok.fresh (zH0 _))
theorem vf{σ:St}{R:It->Hp->Prop}{E:Value->Shared->Prop}{lo hi:Int}{t u v:Tok}{tk:Nat}(I:Inv X pins σ H s)(h1:-(2 ^ 62)<=lo)(h2:lo<2 ^ 62)(h3:-(2 ^ 62)<=hi)(h4:hi<2 ^ 62)
 (q:R (Itr lo (hi-lo).toNat) H):wpAny (model X.prog X.w) X.A (pyIter (.ref s.heap.objs.size)) (PIE X pins σ tg R) E { s with heap:=s.heap.push { cls:=.type "range",data:=.fields #[.int lo t,.int hi u,.int 1 v] },toks:=tk }:=by
 refine wpAny_pyIter_range (IsRange.new ..) (small_one h1 h2 h3 h4) ?_;have I1:Inv X pins σ H { s with heap:=s.heap.push { cls:=.type "range",data:=.fields #[.int lo t,.int hi u,.int 1 v] },toks:=tk }:=I.kept λb o e=>zS0 _ e
 erw[(s.heap.push { cls:=.type "range",data:=.fields #[.int lo t,.int hi u,.int 1 v] }).objs.size,[(s.heap.push { cls:=.type "range",data:=.fields #[.int lo t,.int hi u,.int 1 v] }).objs.size],_,_,H,1,I1.kept (t':=tk) λb o e=>zS0 _ e,wE _ lo (hi-lo).toNat,6,λb hb=>?_,q]
 . have e1:lo+((0:Nat):Int)*1=lo:=by simp
   have e2:(((hi-lo).toNat:Nat):Int)-((0:Nat):Int)=Builtin.Range.rangeSize lo hi 1:=by rw[rangeSize_one];split <;> omega
   show IsRangeIter _ _ (lo+((0:Nat):Int)*1) ((((hi-lo).toNat:Nat):Int)-((0:Nat):Int)) 1;rw[e1,e2];exact qA0 _ rfl
 . have e:b=(s.heap.push { cls:=.type "range",data:=.fields #[.int lo t,.int hi u,.int 1 v] }).objs.size:=by simpa using hb
   subst e;exact I1.fpOk (zH0 _) (I1.hok.fresh (zH0 _))
inductive ZiRng1(R:(It->Hp->Prop))(vs:(List V))(H1:Hp):Prop
 |mk:∀j:Int,vs=[.int j]->-(2 ^ 62)<=j->j<2 ^ 62->R (Itr 0 j.toNat) H1->ZiRng1 R vs H1
def iRng1(ta:TA):TI:=λσ H R=>ta σ H λvs H1=>ZiRng1 R vs H1
inductive ZiRng2(R:(It->Hp->Prop))(vs:(List V))(H1:Hp):Prop
 |mk:∀i j:Int,vs=[.int i,.int j]->-(2 ^ 62)<=i/\i<2 ^ 62/\-(2 ^ 62)<=j/\j<2 ^ 62->R (Itr i (j-i).toNat) H1->ZiRng2 R vs H1
def iRng2(ta:TA):TI:=λσ H R=>ta σ H λvs H1=>ZiRng2 R vs H1
theorem bO {a:Expr}  {p pos:Pos} (hg:Gl X "range") (hm:X.mg "range"=none) (ha:PA X [a] ta) (hs:starEach [a] X.env=[(false,eval a X.env)]:=by rfl):PI X tg (.Call (.Name "range" p) [a] [] pos) (iRng1 ta):=by
 intro pins s σ H R I h;refine Call_ (iF I hg hm boot_range (PyProof.Rows.callWith_type1 (thn (ha pos pins s σ H _ I h) λus s1 ⟨vs,H1,I1,r1,q1⟩=>?_) hs rfl));erw[j,e,q1,q2,q]at q1;subst e;cases r1 with
 | cons r rr=>
   cases rr;erw[t,1]at r;exact call_range_1 (vf I1 #[0] #[0] q1 q2 (by simpa using q))
theorem zS {a b:Expr}  {p pos:Pos} (hg:Gl X "range") (hm:X.mg "range"=none) (ha:PA X [a,b] ta) (hs:starEach [a,b] X.env=[(false,eval a X.env),(false,eval b X.env)]:=by rfl) (hs2:starEach [b] X.env=[(false,eval b X.env)]:=by rfl) :
 PI X tg (.Call (.Name "range" p) [a,b] [] pos) (iRng2 ta):=by
 intro pins s σ H R I h;refine Call_ (iF I hg hm boot_range (PyProof.Rows.callWith_type1 (thn (ha pos pins s σ H _ I h) λus s1 ⟨vs,H1,I1,r1,q1⟩=>?_) (by rw[hs,hs2]) (by rw[hs2];rfl)));erw[i,j,e,%[q1,q2,q3|q4],q]at q1;subst e;cases r1 with
 | cons r rr=>
   cases rr with
   | cons r' rr=>
     cases rr;erw[t,1]at r;erw[t',1]at r';exact call_range_2 (vf I1 q1 q2 q3 q4 q)
def tFor(wi:TI)(g:TG)(tb:TS):TS:=λD σ H=>wi σ H λJ H1=>∃W:Nat->Nat->St->Hp->Prop,(∃m,W 0 m σ H1)/\∀i m σ H,W i m σ H ->
 (J.stop i H/\D.nx σ H)∨(J.go i H/\∃N:St->Hp->Prop,(∀ σ' H',N σ' H'->∃m',m'<m/\W (i+1) m' σ' H')/\∀x H',J.yld i H x H'->g x σ H' λσ2 H2=>tb { D with nx:=N,ct:=N,bk:=D.nx } σ2 H2)
def ke(fp:List Addr)(h:Heap):List (Addr×Obj):=fp.filterMap λb=>(h.get? b).map λo=>(b,o)
theorem fV{fp:List Addr}{h:Heap}{b:Addr}{o:Obj}(hb:b∈fp)(e:h.get? b=some o):(b,o)∈ke fp h:=List.mem_filterMap.mpr %[b,hb|by rw[e];rfl]
theorem Ah{p:Addr×Obj}(hp:p∈ke fp h):p.1∈fp/\h.get? p.1=some p.2:=by
 let%[b,hb|e]:=List.mem_filterMap.mp hp;cases q:h.get? b with
 | none=>rw[q]at e;cases e
 | some o=>
   rw[q]at e;have e':(b,o)=p:=zU0 e;subst e';erw[hb,q]
theorem Inv.pinned{σ:St}{fp:List Addr}(I:Inv X pins σ H s)(hf:∀b∈fp,iS X pins H b)(ho:∀b∈fp,∃o,s.heap.get? b=some o/\∀v,o.data≠.cell v):Inv X (pins++ke fp s.heap) σ H s:=
 I.pins_of λp hp=>(qH0 hp).elim (λz=>I.pin p (qS0 _ z)) λz=>by
  let%[hb|e]:=Ah z;let%[f0,f1,f2|_]:=hf p.1 hb;let%[o,e'|d]:=ho p.1 hb;rw[e]at e';cases e';erw[e,f0,f1,f2,d]
theorem Inv.unpinned{pins pl:List (Addr×Obj)}{σ:St}(I:Inv X (pins++pl) σ H s):Inv X pins σ H s:=I.pins_of λp hp=>I.pin p (qS0 _ (List.mem_append_left _ hp))
theorem cv{iter:Expr}{pos:Pos}(hp:PassesOwn (model X.prog X.w) X.A X.env X.xe)(hc:X.calm=true)(hi:PI X tg iter wi)(hg:PG X tg g)(hb:PSs X body tb)
 (hs:∀x,foldedSetIterable iter X.env x=pure x:=by intro _;rfl):PS X (.For tg iter body [] pos) (tFor wi g tb):=by
 intro pins s σ H D I h;refine wpAny_For (thn (hi pins s σ H _ I h) λv s1 h1=>thn h1 λitv s2 h2=>?_) hs;erw[it,fp,tn,J,H2,e,I2,T,st2,f2,W,%[m0|w0],turn]at h2;subst e;have stat:∀{H':Hp},(∀b∈fp,H' b=none)->∀b∈fp,iS X pins H' b:=λhn b hb=>%[hn b hb|(f2 b hb).2]
 refine codeAny_forLoop_any (λn s'=>∃i σ' H',Inv X pins σ' H' s'/\tn i s'.heap/\(∀b∈fp,H' b=none)/\W i n σ' H') ?_ m0 %[(0),σ,H2,I2,st2,λb hb=>(f2 b hb).1|w0];rintro n s3 ⟨i,σ3,H3,I3,st3,fr3,w3⟩;rcases turn i n σ3 H3 w3 with⟨stop,qn⟩ | ⟨go,N,hN,step⟩
 . refine wpAny_passesOwn hp (thn (T.done X rfl rfl rfl hc i pins s3 σ3 H3 X.xe I3 (stat fr3) st3 stop) λr s4 ⟨hr,I4⟩=>?_);subst hr;exact wpAny_execs_nil %[σ3,H3,I4|qn]
 . refine wpAny_passesOwn hp (thn (T.item X rfl rfl rfl hc i pins s3 σ3 H3 X.xe I3 (stat fr3) st3 go) λr s4 ⟨u,hr,h4⟩=>?_);subst hr;refine wpAny_passesOwn hp (thn h4 λ_ s5 ⟨x,H5,I5,r5,y5,st5,fr5⟩=>?_);have I5':=I5.pinned (stat fr5) (T.obj _ _ st5);refine wpAny_passesOwn hp (thn (hg _ s5 σ3 H5 x u _ I5' r5 (step x H5 y5)) λ_ s6 ⟨σ6,H6,I6,q6⟩=>?_);refine wpAny_passesOwn hp (thn (hb _ s6 σ6 H6 _ I6 q6) λf s7 q7=>?_);have again:∀{σ7:St}{H7:Hp},Inv X (pins++ke fp s5.heap) σ7 H7 s7->N σ7 H7->∃m,m<n/\∃i σ' H',Inv X pins σ' H' s7/\tn i s7.heap/\(∀b∈fp,H' b=none)/\W i m σ' H':=fun{σ7 H7} I7 n7=>by
    let%[m',hm|w7]:=hN σ7 H7 n7;erw[m',hm,i+1,σ7,H7,I7.unpinned,T.keep _ _ _ st5 λb hb o e=>(I7.pin (b,o) (qS0 _ (qS0 _ (fV hb e)))).1,λb hb=>?_,w7];let%[o,e|d]:=T.obj _ _ st5 b hb;exact(I7.pin (b,o) (qS0 _ (qS0 _ (fV hb e)))).2.1
   cases f with
   | next=>erw[σ7,H7,I7,n7]at q7;exact again I7 n7
   | cont=>erw[σ7,H7,I7,n7]at q7;exact again I7 n7
   | brk=>erw[σ7,H7,I7,q7]at q7;erw[σ7,H7,I7.unpinned,q7]
   | ret v=>erw[x7,σ7,H7,I7,r7,q7]at q7;erw[x7,σ7,H7,I7.unpinned,r7,q7]
end
theorem ki{K:W.Frag}{xs:List V}{g:TG}{tb:TS}{D:Ends}{σ:St}{H:Hp}(Pv:Nat->St->Hp->Prop)(h0:Pv 0 σ H)(hl:∀i σ H,i<=xs.length->Pv i σ H->SqL K H a xs)
 (hs:∀i x σ H,xs[i]?=some x->Pv i σ H->g x σ H λσ2 H2=>tb { D with nx:=Pv (i+1),ct:=Pv (i+1),bk:=D.nx } σ2 H2) (hd:∀ σ H,Pv xs.length σ H->D.nx σ H) :
 ∃ W:Nat->Nat->St->Hp->Prop,(∃m,W 0 m σ H)/\∀i m σ H,W i m σ H ->
  ((Itl K a).stop i H/\D.nx σ H)∨((Itl K a).go i H/\∃N:St->Hp->Prop,(∀ σ' H',N σ' H'->∃m',m'<m/\W (i+1) m' σ' H')/\∀x H',(Itl K a).yld i H x H'->g x σ H' λσ2 H2=>tb { D with nx:=N,ct:=N,bk:=D.nx } σ2 H2):=by
 erw[λi m σ H=>m=xs.length-i/\i<=xs.length/\Pv i σ H,%[xs.length,by simp,zT0 _|h0],6];rintro i m σ H ⟨rfl,hi,p⟩;have q:=hl i σ H hi p
 by_cases hlt:i<xs.length
 . refine .inr %[%[xs,xs[i],q|by simp [hlt]],Pv (i+1),λσ' H' p'=>%[xs.length-(i+1),3,1,hlt|p']|λx H' y=>?_];erw[e,y]at y;subst e;exact hs i x σ _ (y xs q) p
 . have e:i=xs.length:=by omega
   subst e;exact .inl %[%[xs,q|zH0 _]|hd σ H p]
theorem uK{K:W.Frag}{xs:List V}{g:TG}{tb:TS}{D:Ends}{σ:St}{H:Hp}(Pv:Nat->St->Hp->Prop)(h0:Pv 0 σ H)(hl:∀i σ H,i<=xs.length->Pv i σ H->SqT K H a xs)
 (hs:∀i x σ H,xs[i]?=some x->Pv i σ H->g x σ H λσ2 H2=>tb { D with nx:=Pv (i+1),ct:=Pv (i+1),bk:=D.nx } σ2 H2) (hd:∀ σ H,Pv xs.length σ H->D.nx σ H) :
 ∃ W:Nat->Nat->St->Hp->Prop,(∃m,W 0 m σ H)/\∀i m σ H,W i m σ H ->
  ((Itt K a).stop i H/\D.nx σ H)∨((Itt K a).go i H/\∃N:St->Hp->Prop,(∀ σ' H',N σ' H'->∃m',m'<m/\W (i+1) m' σ' H')/\∀x H',(Itt K a).yld i H x H'->g x σ H' λσ2 H2=>tb { D with nx:=N,ct:=N,bk:=D.nx } σ2 H2):=by
 erw[λi m σ H=>m=xs.length-i/\i<=xs.length/\Pv i σ H,%[xs.length,by simp,zT0 _|h0],6];rintro i m σ H ⟨rfl,hi,p⟩;have q:=hl i σ H hi p
 by_cases hlt:i<xs.length
 . refine .inr %[%[xs,xs[i],q|by simp [hlt]],Pv (i+1),λσ' H' p'=>%[xs.length-(i+1),3,1,hlt|p']|λx H' y=>?_];erw[e,y]at y;subst e;exact hs i x σ _ (y xs q) p
 . have e:i=xs.length:=by omega
   subst e;exact .inl %[%[xs,q|zH0 _]|hd σ H p]
theorem dj{lo:Int}{n:Nat}{g:TG}{tb:TS}{D:Ends}{σ:St}{H:Hp}(Pv:Nat->St->Hp->Prop)(h0:Pv 0 σ H)
 (hs:∀i σ H,i<n->Pv i σ H->g (.int (lo+i)) σ H λσ2 H2=>tb { D with nx:=Pv (i+1),ct:=Pv (i+1),bk:=D.nx } σ2 H2) (hd:∀ σ H,Pv n σ H->D.nx σ H) :
 ∃ W:Nat->Nat->St->Hp->Prop,(∃m,W 0 m σ H)/\∀i m σ H,W i m σ H ->
  ((Itr lo n).stop i H/\D.nx σ H)∨((Itr lo n).go i H/\∃N:St->Hp->Prop,(∀ σ' H',N σ' H'->∃m',m'<m/\W (i+1) m' σ' H')/\∀x H',(Itr lo n).yld i H x H'->g x σ H' λσ2 H2=>tb { D with nx:=N,ct:=N,bk:=D.nx } σ2 H2):=by
 erw[λi m σ H=>m=n-i/\i<=n/\Pv i σ H,%[n,by simp,zT0 _|h0],6];rintro i m σ H ⟨rfl,hi,p⟩
 by_cases hlt:i<n
 . refine .inr %[hlt,Pv (i+1),λσ' H' p'=>%[n-(i+1),3,1,hlt|p']|λx H' y=>?_];erw[e,y]at y;subst e y;exact hs i σ _ hlt p
 . have e:i=n:=by omega
   subst e;exact .inl %[zH0 _|hd σ H p]
abbrev R2:=V->V->Hp->VK->Prop
def OpR(X:Cx)(f:Value->Value->Sem Value)(r:R2):Prop:=
 ∀(pins:List (Addr×Obj))(s:Shared)(σ:St)(H:Hp)(x y:V)(v u:Value)(Q:VK),Inv X pins σ H s->RelV x v->RelV y u->r x y H Q ->
  wpAny (model X.prog X.w) X.A (f v u) (EP X pins σ Q) X.xe s
def UnR(X:Cx)(f:Value->Sem Value)(r:V->Hp->VK->Prop):Prop:=
 ∀(pins:List (Addr×Obj))(s:Shared)(σ:St)(H:Hp)(x:V)(v:Value)(Q:VK),Inv X pins σ H s->RelV x v->r x H Q ->
  wpAny (model X.prog X.w) X.A (f v) (EP X pins σ Q) X.xe s
def ip(X:Cx)(f:Value)(r:List V->Hp->VK->Prop):Prop:=
 ∀(pins:List (Addr×Obj))(s:Shared)(σ:St)(H:Hp)(xs:List V)(us:List Value)(Q:VK),Inv X pins σ H s->Vals xs us->r xs H Q ->
  wpAny (model X.prog X.w) X.A (call f us) (EP X pins σ Q) X.xe s
def tOp(r:R2)(ta tb:TE):TE:=λσ H Q=>ta σ H λx H1=>tb σ H1 λy H2=>r x y H2 Q
def tUn(r:V->Hp->VK->Prop)(ta:TE):TE:=λσ H Q=>ta σ H λx H1=>r x H1 Q
inductive rI(C:Int->Int->Prop)(g:Int->Int->V)(x:V)(y:V)(H:Hp)(Q:VK):Prop
 |mk:∀i j,x=.int i->y=.int j->C i j->Q (g i j) H->rI C g x y H Q
inductive rI0(g:Int->Int->V)(x:V)(y:V)(H:Hp)(Q:VK):Prop
 |mk:∀i j,x=.int i->y=.int j->Q (g i j) H->rI0 g x y H Q
inductive rU(g:Int->V)(x:V)(H:Hp)(Q:VK):Prop
 |mk:∀i,x=.int i->Q (g i) H->rU g x H Q
section
variable {X:Cx} {a b c:Expr} {ta tb tc:TE} {pos:Pos}
theorem HL(ha:PE X a ta)(hb:PE X b tb){σ:St}{R:V->V->Hp->Prop}(I:Inv X pins σ H s)
 (h:ta σ H λx H1=>tb σ H1 λy H2=>R x y H2) {Q:Value->Shared->Prop} {f:Value->Value->Sem Value}
 (hf:∀v u s2 x y H2,Inv X pins σ H2 s2->RelV x v->RelV y u->R x y H2->wpAny (model X.prog X.w) X.A (f v u) Q X.xe s2) :
 wpAny (model X.prog X.w) X.A (eval a X.env) (λv s₁=>wpAny (model X.prog X.w) X.A (eval b X.env) (λu s₂=>wpAny (model X.prog X.w) X.A (f v u) Q X.xe s₂) X.xe s₁) X.xe s:=by
 refine thn (ha pins s σ H _ I h) λv s1 ⟨x,H1,I1,r1,q1⟩=>?_
 refine thn (hb pins s1 σ H1 _ I1 q1) λu s2 ⟨y,H2,I2,r2,q2⟩=>?_
 exact hf v u s2 x y H2 I2 r1 r2 q2
theorem ao{op:Operator}(ho:OpR X (binaryOp op) r)(ha:PE X a ta)(hb:PE X b tb):PE X (.BinOp a op b pos) (tOp r ta tb):=by
 intro pins s σ H Q I h;exact wpAny_BinOp (HL ha hb I h λv u s2 x y H2 I2 rx ry q=>ho pins s2 σ H2 x y v u Q I2 rx ry q)
theorem vk{op:UnaryOp}(ho:UnR X (unaryOp op) r)(ha:PE X a ta):PE X (.UnaryOp op a pos) (tUn r ta):=by
 intro pins s σ H Q I h;exact UnaryOp_ (thn (ha pins s σ H _ I h) λv s1 ⟨x,H1,I1,r1,q1⟩=>ho pins s1 σ H1 x v Q I1 r1 q1)
theorem opI{f:Value->Value->Sem Value}{C:Int->Int->Prop}{g:Int->Int->Int}
 (rule:∀(i j:Int)(t u:Tok)(s:Shared)(Q:Value->Shared->Prop)(E:Value->Shared->Prop),C i j->Q (.int (g i j) s.toks) { s with toks:=s.toks+1 }->wpAny (model X.prog X.w) X.A (f (.int i t) (.int j u)) Q E s) :
 OpR X f (rI C λi j=>.int (g i j)):=by
 intro pins s σ H x y v u Q I rx ry h;erw[i,j,1,1,hc,q]at h;erw[t,1]at rx;erw[t',1]at ry;exact rule i j t t' s _ _ hc %[.int (g i j),H,I.tok _,%[|0]|q]
theorem opI0{f:Value->Value->Sem Value}{g:Int->Int->Int}
 (rule:∀(i j:Int)(t u:Tok)(s:Shared)(Q:Value->Shared->Prop)(E:Value->Shared->Prop),Q (.int (g i j) s.toks) { s with toks:=s.toks+1 }->wpAny (model X.prog X.w) X.A (f (.int i t) (.int j u)) Q E s) :
 OpR X f (rI0 λi j=>.int (g i j)):=by
 intro pins s σ H x y v u Q I rx ry h;erw[i,j,1,1,q]at h;erw[t,1]at rx;erw[t',1]at ry;exact rule i j t t' s _ _ %[.int (g i j),H,I.tok _,%[|0]|q]
theorem EM{f:Value->Value->Sem Value}{g:Int->Int->Bool}
 (rule:∀(i j:Int)(t u:Tok)(s:Shared)(Q:Value->Shared->Prop)(E:Value->Shared->Prop),Q (.bool (g i j)) s->wpAny (model X.prog X.w) X.A (f (.int i t) (.int j u)) Q E s) :
 OpR X f (rI0 λi j=>.bl (g i j)):=by
 intro pins s σ H x y v u Q I rx ry h;erw[i,j,1,1,q]at h;erw[t,1]at rx;erw[t',1]at ry;exact rule i j t t' s _ _ %[.bl (g i j),H,I,1|q]
def CDiv(i j:Int):Prop:=0<j/\j<1073741824
def CPow(i j:Int):Prop:=0<=j/\j<=1000000/\i.natAbs<2 ^ 64
def CMul(i j:Int):Prop:=(-(2 ^ 64)<i/\i<2 ^ 64)∨(-(2 ^ 64)<j/\j<2 ^ 64)
theorem CMul.ok(h:CMul i j):IntMulOk i j:=by
 rcases h with⟨h1,h2⟩ | ⟨h1,h2⟩
 . exact .of_left (intBits_le_64 h1 h2)
 . exact .of_right (intBits_le_64 h1 h2)
theorem aQ:OpR X (binaryOp .Add) (rI0 λi j=>.int (i+j)):=opI0 λ_ _ _ _ _ _ _ q=>add_int q
theorem bm:OpR X (binaryOp .Sub) (rI0 λi j=>.int (i-j)):=opI0 λ_ _ _ _ _ _ _ q=>sub_int q
theorem cq:OpR X (binaryOp .Mult) (rI CMul λi j=>.int (i*j)):=opI λ_ _ _ _ _ _ _ hc q=>mul_int q hc.ok
theorem yJ:OpR X (binaryOp .FloorDiv) (rI CDiv λi j=>.int (i / j)):=opI λi j _ _ _ _ _ hc q=>by
 have h1:(0:Int)<j:=hc.1;have h2:j<1073741824:=hc.2;exact floordiv_int #[0] (by rw[Int.fdiv_eq_ediv_of_nonneg i #[0]];exact q) (.inl (PyProof.noPylong_small #[0]))
theorem bc:OpR X (binaryOp .Mod) (rI (λ_ j=>0<j) λi j=>.int (i % j)):=opI λi j _ _ _ _ _ hc q=>by
 have h1:(0:Int)<j:=hc;exact mod_int' #[0] (by rw[Int.fmod_eq_emod_of_nonneg i #[0]];exact q)
theorem Ck:OpR X (binaryOp .Pow) (rI CPow λi j=>.int (i ^ j.toNat)):=opI λ_ _ _ _ _ _ _ hc q=>pow_int_small hc.1 hc.2.1 hc.2.2 q
theorem unI{f:Value->Sem Value}{g:Int->Int}
 (rule:∀(i:Int)(t:Tok)(s:Shared)(Q:Value->Shared->Prop)(E:Value->Shared->Prop),Q (.int (g i) s.toks) { s with toks:=s.toks+1 }->wpAny (model X.prog X.w) X.A (f (.int i t)) Q E s) :
 UnR X f (rU λi=>.int (g i)):=by
 intro pins s σ H x v Q I rx h;erw[i,1,q]at h;erw[t,1]at rx;exact rule i t s _ _ %[.int (g i),H,I.tok _,%[|0]|q]
theorem pX:UnR X (unaryOp .USub) (rU λi=>.int (-i)):=unI λ_ _ _ _ _ q=>neg_int q
end
def scal:V->V->Bool
 | .non,.non=>true | .non,.int _=>true | .int _,.non=>true | .non,.bl _=>true | .bl _,.non=>true | .non,.str _=>true | .str _,.non=>true
 | .int _,.int _=>true | .bl _,.bl _=>true | .str _,.str _=>true | .byt _,.byt _=>true
 | .int _,.str _=>true | .str _,.int _=>true | .bl _,.str _=>true | .str _,.bl _=>true
 | _,_=>false
inductive rEq(x:V)(y:V)(H:Hp)(Q:VK):Prop
 |mk:scal x y=true->Q (.bl (decide (x=y))) H->rEq x y H Q
inductive rNe(x:V)(y:V)(H:Hp)(Q:VK):Prop
 |mk:scal x y=true->Q (.bl (!decide (x=y))) H->rNe x y H Q
theorem zf{i j:Int}:decide (V.int i=V.int j)=(i==j):=by
 rw[Bool.eq_iff_iff]
 simp
theorem DL{i j:Bool}:decide (V.bl i=V.bl j)=(i==j):=by
 rw[Bool.eq_iff_iff]
 simp
theorem ze{i j:Str}:decide (V.str i=V.str j)=(i==j):=by
 rw[Bool.eq_iff_iff]
 simp
theorem zg{i j:Array UInt8}:decide (V.byt i=V.byt j)=(i.toList==j.toList):=by
 rw[Bool.eq_iff_iff];cases i;cases j
 simp
section
variable {X:Cx} {a b c:Expr} {ta tb tc:TE} {pos:Pos}
theorem bK{σ:St}{Q:VK}{k k':Bool}(I:Inv X pins σ H s)(q:Q (.bl k) H)(e:k=k'):EP X pins σ Q (.bool k') s:=by
 subst e;erw[.bl k,H,I,1,q]
theorem aP:OpR X (compareOp .Eq) rEq:=by
 intro pins s σ H x y v u Q I rx ry h;erw[hs,q]at h;cases x with
 | non=>
   cases rx;cases y with
   | non=>cases ry;exact PySem.EqNone.eq_none_none (bK I q (by simp))
   | bl j=>cases ry;exact PySem.EqNone.eq_none_bool (bK I q (by simp))
   | int j=>erw[t',1]at ry;exact PySem.EqNone.eq_none_int (bK I q (by simp))
   | str j=>erw[t',1]at ry;exact PySem.EqNone.eq_none_str (bK I q (by simp))
   | _=>exact absurd (show false=true from hs) qD0
 | bl i=>
   cases rx;cases y with
   | non=>cases ry;exact PySem.EqNone.eq_bool_none (bK I q (by simp))
   | bl j=>cases ry;exact eq_bool (bK I q DL)
   | str j=>erw[t',1]at ry;exact PySem.EqMixed.eq_bool_str (bK I q (by simp))
   | _=>exact absurd (show false=true from hs) qD0
 | int i=>
   erw[t,1]at rx;cases y with
   | non=>cases ry;exact PySem.EqNone.eq_int_none (bK I q (by simp))
   | int j=>erw[t',1]at ry;exact eq_int (bK I q zf)
   | str j=>erw[t',1]at ry;exact PySem.EqMixed.eq_int_str (bK I q (by simp))
   | _=>exact absurd (show false=true from hs) qD0
 | str i=>
   erw[t,1]at rx;cases y with
   | non=>cases ry;exact PySem.EqNone.eq_str_none (bK I q (by simp))
   | bl j=>cases ry;exact PySem.EqMixed.eq_str_bool (bK I q (by simp))
   | int j=>erw[t',1]at ry;exact PySem.EqMixed.eq_str_int (bK I q (by simp))
   | str j=>erw[t',1]at ry;exact eq_str (bK I q ze)
   | _=>exact absurd (show false=true from hs) qD0
 | byt i=>
   erw[t,1]at rx;cases y with
   | byt j=>erw[t',1]at ry;exact PySem.W.eq_bytes (bK I q zg)
   | _=>exact absurd (show false=true from hs) qD0
 | _=>cases y <;> exact absurd (show false=true from hs) qD0
theorem mr:OpR X (compareOp .NotEq) rNe:=by
 intro pins s σ H x y v u Q I rx ry h;erw[hs,q]at h;cases x with
 | non=>
   cases rx;cases y with
   | non=>cases ry;exact PySem.EqNone.ne_none_none (bK I q (by simp))
   | bl j=>cases ry;exact PySem.EqNone.ne_none_bool (bK I q (by simp))
   | int j=>erw[t',1]at ry;exact PySem.EqNone.ne_none_int (bK I q (by simp))
   | str j=>erw[t',1]at ry;exact PySem.EqNone.ne_none_str (bK I q (by simp))
   | _=>exact absurd (show false=true from hs) qD0
 | bl i=>
   cases rx;cases y with
   | non=>cases ry;exact PySem.EqNone.ne_bool_none (bK I q (by simp))
   | bl j=>cases ry;exact ne_bool (bK I q (congrArg not DL))
   | str j=>erw[t',1]at ry;exact PySem.EqMixed.ne_bool_str (bK I q (by simp))
   | _=>exact absurd (show false=true from hs) qD0
 | int i=>
   erw[t,1]at rx;cases y with
   | non=>cases ry;exact PySem.EqNone.ne_int_none (bK I q (by simp))
   | int j=>erw[t',1]at ry;exact ne_int (bK I q (congrArg not zf))
   | str j=>erw[t',1]at ry;exact PySem.EqMixed.ne_int_str (bK I q (by simp))
   | _=>exact absurd (show false=true from hs) qD0
 | str i=>
   erw[t,1]at rx;cases y with
   | non=>cases ry;exact PySem.EqNone.ne_str_none (bK I q (by simp))
   | bl j=>cases ry;exact PySem.EqMixed.ne_str_bool (bK I q (by simp))
   | int j=>erw[t',1]at ry;exact PySem.EqMixed.ne_str_int (bK I q (by simp))
   | str j=>erw[t',1]at ry;exact ne_str (bK I q (congrArg not ze))
   | _=>exact absurd (show false=true from hs) qD0
 | byt i=>
   erw[t,1]at rx;cases y with
   | byt j=>erw[t',1]at ry;exact PySem.W.ne_bytes (bK I q (congrArg not zg))
   | _=>exact absurd (show false=true from hs) qD0
 | _=>cases y <;> exact absurd (show false=true from hs) qD0
theorem dP:OpR X (compareOp .Lt) (rI0 λi j=>.bl (decide (i<j))):=EM λ_ _ _ _ _ _ _ q=>lt_int q
theorem oN:OpR X (compareOp .LtE) (rI0 λi j=>.bl (decide (i<=j))):=EM λ_ _ _ _ _ _ _ q=>le_int q
theorem gK:OpR X (compareOp .Gt) (rI0 λi j=>.bl (decide (j<i))):=EM λ_ _ _ _ _ _ _ q=>gt_int q
theorem FP:OpR X (compareOp .GtE) (rI0 λi j=>.bl (decide (j<=i))):=EM λ_ _ _ _ _ _ _ q=>ge_int q
theorem sB:OpR X (compareOp .In) (λx y H Q=>∃i j,x=.str i/\y=.str j/\Q (.bl (!(Builtin.Str.occurrences j i 0 j.length 1).isEmpty)) H):=by
 intro pins s σ H x y v u Q I rx ry h;erw[i,j,1,1,q]at h;erw[t,1]at rx;erw[t',1]at ry;exact in_str (bK I q rfl)
theorem ug:OpR X (compareOp .Is) (λx y H Q=>y=.non/\Q (.bl (decide (x=.non))) H):=by
 intro pins s σ H x y v u Q I rx ry h;erw[1,q]at h;cases ry;refine is_none_gen (bK I q ?_);cases x <;> first
  | (cases rx;rfl)
  | (erw[t,1]at rx;rfl)
theorem OpR.or(h:OpR X f r)(h':OpR X f r'):OpR X f (λx y H Q=>r x y H Q∨r' x y H Q):=by
 intro pins s σ H x y v u Q I rx ry q;rcases q with q | q
 . exact h pins s σ H x y v u Q I rx ry q
 . exact h' pins s σ H x y v u Q I rx ry q
theorem ax(b:Expr){op:CmpOp}(h:op≠.In:=by decide)(h2:op≠.NotIn:=by decide):behindInMarks op b=false:=by
 have e1:(op==CmpOp.In)=false:=by cases op <;> first | rfl | exact absurd rfl h
 have e2:(op==CmpOp.NotIn)=false:=by cases op <;> first | rfl | exact absurd rfl h2
 cases b <;> simp [behindInMarks,e1,e2]
theorem eU{op:CmpOp}(ho:OpR X (compareOp op) r)(ha:PE X a ta)(hb:PE X b tb)(hm:behindInMarks op b=false):PE X (.Compare a [op] [b] pos) (tOp r ta tb):=by
 intro pins s σ H Q I h;exact wpAny_Compare1 (HL ha hb I h λv u s2 x y H2 I2 rx ry q=>ho pins s2 σ H2 x y v u Q I2 rx ry q) hm
inductive ZtTest(Q:(Bool->Hp->Prop))(x:V)(H':Hp):Prop
 |mk:∀k,x=.bl k->Q k H'->ZtTest Q x H'
def FC(t:TE):TT:=λσ H Q=>t σ H λx H'=>ZtTest Q x H'
theorem ah{op:CmpOp}(ho:OpR X (compareOp op) r)(ha:PE X a ta)(hb:PE X b tb)(hm:behindInMarks op b=false):PT X (.Compare a [op] [b] pos) (FC (tOp r ta tb)):=by
 intro pins s σ H Q I h;refine wpAny_isTrue_Compare1 (thn (ha pins s σ H _ I h) λv s1 ⟨x,H1,I1,r1,q1⟩=>thn (hb pins s1 σ H1 _ I1 q1) λu s2 ⟨y,H2,I2,r2,q2⟩=>
  thn (ho pins s2 σ H2 x y v u _ I2 r1 r2 q2) λc s3 ⟨z,H3,I3,r3,k,e,q3⟩=>?_) hm
 subst e;cases r3;exact wpAny_truthy_bool %[H3,I3|q3]
inductive ZtChain(r':R2)(tc:TE)(σ:St)(Q:VK)(y:V)(z:V)(H3:Hp):Prop
 |mk:∀k,z=.bl k->(if k=true then tc σ H3 λw' H4=>r' y w' H4 Q else Q (.bl false) H3)->ZtChain r' tc σ Q y z H3
def Bm(r r':R2)(ta tb tc:TE):TE:=λσ H Q=>ta σ H λx H1=>tb σ H1 λy H2=>r x y H2 λz H3=>ZtChain r' tc σ Q y z H3
theorem Cg{op op':CmpOp}(ho:OpR X (compareOp op) r)(ho':OpR X (compareOp op') r')(ha:PE X a ta)(hb:PE X b tb)(hc:PE X c tc)
 (hm:lastMarks [op,op'] [b,c]=false:=by rfl'):PE X (.Compare a [op,op'] [b,c] pos) (Bm r r' ta tb tc):=by
 intro pins s σ H Q I h;refine Compare_chain (thn (ha pins s σ H _ I h) λv s1 ⟨x,H1,I1,r1,q1⟩=>chain_link (thn (hb pins s1 σ H1 _ I1 q1) λu s2 ⟨y,H2,I2,r2,q2⟩=>
  thn (ho pins s2 σ H2 x y v u _ I2 r1 r2 q2) λd s3 ⟨z,H3,I3,r3,k,e,q3⟩=>?_)) hm
 subst e;cases r3;refine wpAny_truthy_bool ?_;cases k with
 | false=>exact ite_ff %[.bl false,H3,I3,1|q3]
 | true=>exact ite_tt (chain_last (thn (hc pins s3 σ H3 _ I3 q3) λw' s4 ⟨z',H4,I4,r4,q4⟩=>ho' pins s4 σ H4 y z' u w' Q I4 r2 r4 q4))
theorem BV{op op':CmpOp}(ho:OpR X (compareOp op) r)(ho':OpR X (compareOp op') r')(ha:PE X a ta)(hb:PE X b tb)(hc:PE X c tc)
 (hm:lastMarks [op,op'] [b,c]=false:=by rfl'):PT X (.Compare a [op,op'] [b,c] pos) (FC (Bm r r' ta tb tc)):=by
 intro pins s σ H Q I h;refine isTrue_chain (thn (ha pins s σ H _ I h) λv s1 ⟨x,H1,I1,r1,q1⟩=>test_link (thn (hb pins s1 σ H1 _ I1 q1) λu s2 ⟨y,H2,I2,r2,q2⟩=>
  thn (ho pins s2 σ H2 x y v u _ I2 r1 r2 q2) λd s3 ⟨z,H3,I3,r3,k,e,q3⟩=>?_)) hm
 subst e;cases r3;refine wpAny_truthy_bool ?_;cases k with
 | false=>
   erw[k',e',q']at q3;cases e';exact ite_ff %[H3,I3|q']
 | true=>
   refine ite_tt (test_last (thn (hc pins s3 σ H3 _ I3 q3) λw' s4 ⟨z',H4,I4,r4,q4⟩=>thn (ho' pins s4 σ H4 y z' u w' _ I4 r2 r4 q4) λd' s5 ⟨z2,H5,I5,r5,k2,e2,q5⟩=>?_));subst e2;cases r5;exact wpAny_truthy_bool %[H5,I5|q5]
theorem jx:(sizeLine:Nat)<2 ^ 63:=by rw[sizeLine_eq];decide
theorem qU:OpR X (binaryOp .Add) (λx y H Q=>∃i j,x=.str i/\y=.str j/\i.length+j.length<=sizeLine/\Q (.str (i++j)) H):=by
 intro pins s σ H x y v u Q I rx ry h;erw[i,j,1,1,hz,q]at h;erw[t,1]at rx;erw[t',1]at ry;exact add_str (λt' tk=>%[.str (i++j),H,I.tok _,%[|0]|q]) hz
theorem kW{x:V}(r:Vals [x] us):∃u,us=[u]/\RelV x u:=by
 cases r with
 | cons r1 r2=>cases r2;erw[0,r1]
theorem vals2{x y:V}(r:Vals [x,y] us):∃u w',us=[u,w']/\RelV x u/\RelV y w':=by
 cases r with
 | cons r1 r2=>
   cases r2 with
   | cons r3 r4=>cases r4;erw[_,0,r1,r3]
theorem sM:ip X (.type "int") (λxs H Q=>(∃i,xs=[.int i]/\Q (.int i) H)∨∃k,xs=[.bl k]/\Q (.int (if k then 1 else 0)) H):=by
 intro pins s σ H xs us Q I r h;rcases h with⟨i,rfl,q⟩ | ⟨k,rfl,q⟩
 . let%[u,1,t|1]:=kW r;exact call_int_int %[.int i,H,I,%[|0]|q]
 . let%[u,1|r1]:=kW r;cases r1;exact call_int_bool %[.int (if k then 1 else 0),H,I.tok _,%[|0]|q]
end
structure ObjM(h:Heap)(x dx C:Addr)(mA:Str->Option Value):Prop where
 obj:h.get? x=some (PySem.W.instObj C dx)
 ns:h.Ns1 dx mA
 ne:dx≠x
theorem Ao{h:Heap}{dx:Addr}{mA:Str->Option Value}(n:h.Ns1 dx mA):∃od,h.get? dx=some od/\∀name,PySem.W.lookIn name od=some (mA name):=by
 erw[o,es,ep,ho,hd,hk,_,hm]at n;erw[o,ho,λname=>?_];have e:=hm name;unfold nsFind findBy at e;rw[←Array.find?_toList]at e;unfold PySem.W.lookIn;rw[hd]
 dsimp only
 split
 . rename_i y q;rw[q]at e;exact congrArg some e
 . rename_i q;rw[q]at e;have a:es.toList.any (·.refKey)=false:=by
    rw[List.any_eq_false];intro y hy;let%[z,t|hkey]:=hk y (Array.mem_toList_iff.mp hy)
    simp [DictEntry.refKey,hkey]
   have a':¬ es.toList.any (·.refKey)=true:=by rw[a];exact qD0
   rw[zA0 a'];exact congrArg some e
theorem ObjM.look(I:ObjM h x dx C mA):∃od,PySem.W.InstAt h x (PySem.W.instObj C dx) C (some od)/\∀name,PySem.W.lookIn name od=some (mA name):=
 let⟨od,ho,hl⟩:=Ao I.ns
 %[od,%[I.obj,1,1|ho]|hl]
section
variable {prog:Program} {w:World} {A:Around} {E:Value->Shared->Prop} {s:Shared} {K:W.Frag} {x dx C f:Addr} {mA:Str->Option Value} {name:Str} {v:Value}
theorem Fr{expr:Bool}{Q:Value->Shared->Prop}(X:K.In s.heap)(I:ObjM s.heap x dx C mA)(hg:PySem.W.plainGet K C name=true)(hh:PySem.W.hasDictIn K C=true)
 (ha:PySem.W.findIn K (.ref C) name=some none) (hv:mA name=some v) (hv':PySem.W.handedIn v=true) (h:Q v { s with toks:=s.toks+1 }) :
 wpAny (model prog w) A (getAttr (.ref x) name expr) Q E s:=by
 erw[od,J,hl]at I.look;exact PySem.W.get_value X J (PySem.W.plainGet_of hg).1 (PySem.W.findObj_own hh ha rfl (by rw[hl,hv])) hv' h
theorem Dw{pl:Sem Bool}{Q:Value×List Value->Shared->Prop}(X:K.In s.heap)(I:ObjM s.heap x dx C mA)(hg:PySem.W.plainGet K C name=true)
 (hf:PySem.W.findIn K (.ref C) name=some (some (.ref f))) (ht:PySem.W.isFn K (.ref f)=true) (hv:mA name=none) (h:Q (.ref f,[.ref x]) s) :
 wpAny (model prog w) A (getMethod (.ref x) name pl) Q E s:=by
 erw[od,J,hl]at I.look;exact PySem.W.method_fn X J (PySem.W.plainGet_of hg).1 (PySem.W.plainGet_of hg).2 hf (beq_iff_eq.mp ht) (by show(PySem.W.lookIn name od).map (·.isSome)=some false;rw[hl,hv];rfl) h
theorem Ew{ns:List Str}{Q:Unit->Shared->Prop}(X:K.In s.heap)(I:ObjM s.heap x dx C mA)
 (hs:PySem.W.findIn K (.ref C) "__setattr__"=some (some (.builtin "object.__setattr__"))) (hp:PySem.W.plainOver K C=true) (ht:PySem.W.takerIn K C name=some none) (hh:PySem.W.hasDictIn K C=true)
 (hw:PySem.Within mA ns) (hsz:ns.length<=sizeLine)
 (h:∀h',ObjM h' x dx C (λy=>if y=name then some v else mA y)->Heap.SameBut dx s.heap h'->Q () { s with heap:=h',toks:=s.toks+2 }) :
 wpAny (model prog w) A (setAttr (.ref x) name v) Q E s:=by
 erw[od,J,hl]at I.look;refine PySem.W.set_plain X J hs (PySem.W.osa_open (s:={ s with toks:=s.toks+1 }) (r:=none) X J hp ht λb=>?_);let%[cd,hc|hd']:=PySem.W.any_some hh;have hx:s.heap.get? x=some %[.ref C,some dx,.plain|#[]]:=I.obj;refine zF0 (zL0 (zF0 (zF0 (wpAny_loadPart hx (zF0 (PySem.W.Looks.here (s:={ s with toks:=s.toks+1 }) (PySem.W.looks_clsIn X hc) ?_))))));rw[hd'];refine zL0 (a:=some dx) (zF0 (zL0 (zF0 ?_)));refine wpAny_nsSet1 (s:={ s with toks:=s.toks+1 }) I.ns λh' hn2 hs2=>?_
 let%[oD,esD,epD,hoD,hdD|hcD]:=hn2.count (PySem.Within.cons name v hw);refine zF0 (wpAny_lookBehind hoD (by rw[hdD];exact pastItsLine_dict (zP0 hcD (by rw[zM0];omega))) ?_);exact zL0 (h _ %[(hs2.2 _ (Ne.symm I.ne)).trans I.obj,hn2|I.ne] hs2)
theorem Dd{R:Result->Shared->Prop}{vs:List Value}{kw:List (Str×Value)}(X:K.In s.heap)(hm:PySem.W.makesIn K C=true)
 (hi:PySem.W.findIn K (.ref C) "__init__"=some (some (.ref f))) (hf:PySem.W.typeIn K (.ref f)=some (.type "function"))
 (h:codeAny (model prog w) (A.under (.builtin "type.__call__" %[.ref C::vs|kw])) (.call (.ref f) ⟨.ref (s.heap.objs.size+1)::vs,kw⟩) (PySem.W.InitBack (s.heap.objs.size+1) R)
  { s with heap:=(s.heap.push PySem.W.emptyDict).push (PySem.W.instObj C s.heap.objs.size) }) :
 codeAny (model prog w) A (.call (.ref C) %[vs|kw]) R s:=by
 erw[hh,g,d,t,os]at s;exact PySem.W.make_core (PySem.W.makes_of X hm) (PySem.W.looks_findIn X hi) (λself=>PySem.W.bind_fn X self hf) (.inl rfl) h
end
def cu(f:Str)(v:V):List (Str×V)->List (Str×V)
 | []=>[(f,v)]
 | (g,x)::r=>if g=f then(g,v)::r else(g,x)::cu f v r
theorem am(f g:Str)(v:V):∀fs:List (Str×V),(cu f v fs).lookup g=if g=f then some v else fs.lookup g
 | []=>by
   show List.lookup g [(f,v)]=_
   by_cases h:g=f
   . have hb:(g==f)=true:=beq_iff_eq.mpr h;simp only[List.lookup,hb,zD0 h]
   . have hb:(g==f)=false:=beq_eq_false_iff_ne.mpr h;simp only[List.lookup,hb,zA0 h]
 | (k,x)::r=>by
   have ih:=am f g v r;rw[show cu f v ((k,x)::r)=(if k=f then(k,v)::r else(k,x)::cu f v r)from rfl]
   by_cases hk:k=f
   . rw [zD0 hk]
     by_cases h:g=k
     . have hb:(g==k)=true:=beq_iff_eq.mpr h;simp only[List.lookup,hb,zD0 (h.trans hk)]
     . have hb:(g==k)=false:=beq_eq_false_iff_ne.mpr h;simp only[List.lookup,hb,zA0 (λe:g=f=>h (e.trans hk.symm))]
   . rw [zA0 hk]
     by_cases h:g=k
     . have hb:(g==k)=true:=beq_iff_eq.mpr h;simp only[List.lookup,hb,zA0 (λe:g=f=>hk (h.symm.trans e))]
     . have hb:(g==k)=false:=beq_eq_false_iff_ne.mpr h;simp only[List.lookup,hb];exact ih
theorem ox(f:Str)(v:V):∀fs:List (Str×V),f∈(cu f v fs).map (·.1)/\∀g,g∈fs.map (·.1)->g∈(cu f v fs).map (·.1)
 | []=>%[by simp [cu]|λg h=>by simp at h]
 | (k,x)::r=>by
   let%[i1|i2]:=ox f v r;rw[show cu f v ((k,x)::r)=(if k=f then(k,v)::r else(k,x)::cu f v r)from rfl]
   by_cases hk:k=f
   . rw[zD0 hk];subst hk;erw[by simp,λg h=>by simpa using h]
   . rw [zA0 hk];erw[6,λg h=>?_]
     . rw[zZ0];exact qK0 _ i1
     . rw [zZ0]at h ⊢;rcases zX0 h with e | e
       . exact List.mem_cons.mpr (.inl e)
       . exact qK0 _ (i2 g e)
theorem oT(f:Str)(v:V):∀fs:List (Str×V),(cu f v fs).length<=fs.length+1
 | []=>by simp [cu]
 | (k,x)::r=>by
   have ih:=oT f v r;rw[show cu f v ((k,x)::r)=(if k=f then(k,v)::r else(k,x)::cu f v r)from rfl]
   by_cases hk:k=f
   . rw[zD0 hk,zM0,zM0];omega
   . rw[zA0 hk,zM0,zM0];omega
theorem RelO.some_of{v:V}(r:RelO (some v) o):∃u,o=some u/\RelV v u:=by
 cases o with
 | none=>exact(show False from r).elim
 | some u=>erw[u,1,r]
theorem RelO.none_of(r:RelO none o):o=none:=by
 cases o with
 | none=>rfl
 | some u=>exact(show False from r).elim
theorem AC(r:RelV v u):PySem.W.handedIn u=true:=by
 cases v with
 | non=>cases(show u=Value.none from r);rfl
 | bl b=>cases(show u=Value.bool b from r);rfl
 | int i=>let%[t|e]:=(show ∃t,u=Value.int i t from r);cases e;rfl
 | str x=>let%[t|e]:=(show ∃t,u=Value.str x t from r);cases e;rfl
 | byt b=>let%[t|e]:=(show ∃t,u=Value.bytes b t from r);cases e;rfl
 | flt b=>let%[t|e]:=(show ∃t,u=Value.float b t from r);cases e;rfl
 | ref a=>cases(show u=Value.ref a from r);rfl
 | ty n=>cases(show u=Value.type n from r);rfl
section
variable {P:Program} {w:World} {H H':Hp} {h h':Heap} {a C dx:Addr} {fs fs':List (Str×V)}
theorem pN(hok:HOk P w H h)(e:H a=some (.ins C dx fs)):∃mA,ObjM h a dx C mA/\(∀f,RelO (fs.lookup f) (mA f))/\PySem.Within mA (fs.map (·.1))/\fs.length<=1000/\H dx=some (.own a):=by
 let%[d,z,ne,ob,mA,n,r|q]:=(show ObjOk P w H h a (.ins C dx fs)from hok a _ e)
 erw[mA,%[ob,n|ne],r,q,z,d]
end
structure Cls(K:W.Frag)(C:Addr):Prop where
 pg:PySem.W.plainGet K C Str.empty=true
 hd:PySem.W.hasDictIn K C=true
 po:PySem.W.plainOver K C=true
 sa:PySem.W.findIn K (.ref C) "__setattr__"=some (some (.builtin "object.__setattr__"))
theorem Cls.get{K:W.Frag}(c:Cls K C)(f:Str):PySem.W.plainGet K C f=true:=c.pg
def NoAttr(K:W.Frag)(C:Addr)(f:Str):Prop:=PySem.W.findIn K (.ref C) f=some none
theorem NoAttr.taker{K:W.Frag}(n:NoAttr K C f):PySem.W.takerIn K C f=some none:=by
 unfold PySem.W.takerIn;rw[show PySem.W.findIn K (.ref C) f=some none from n];rfl
structure Meth(K:W.Frag)(C:Addr)(m:Str)(f:Addr):Prop where
 at_:PySem.W.findIn K (.ref C) m=some (some (.ref f))
 fn:PySem.W.isFn K (.ref f)=true
 kp:PySem.W.keepIn K (.ref f)=true
section
variable {X:Cx} {pins:List (Addr×Obj)} {σ:St} {H:Hp} {s:Shared} {a C dx:Addr} {fs:List (Str×V)} {f:Str} {v:V} {A:Around} {E:Value->Shared->Prop}
theorem yc{b:Bool}{Q:Value->Shared->Prop}(I:Inv X pins σ H s)(e:H a=some (.ins C dx fs))(c:Cls X.K C)(n:NoAttr X.K C f)(l:fs.lookup f=some v)
 (h:∀u s',Inv X pins σ H s'->RelV v u->Q u s'):wpAny (model X.prog X.w) A (getAttr (.ref a) f b) Q E s:=by
 let%[mA,O,r,_,_|_]:=pN I.hok e;let%[u,hu|ru]:=RelO.some_of (v:=v) (o:=mA f) (by rw[←l];exact r f);exact Fr I.kIn O (c.get f) c.hd n hu (AC ru) (h u _ (I.tok _) ru)
theorem rm{pl:Sem Bool}{Q:Value×List Value->Shared->Prop}(I:Inv X pins σ H s)(e:H a=some (.ins C dx fs))(c:Cls X.K C)(k:Meth X.K C m g)(l:fs.lookup m=none)
 (h:Q (.ref g,[.ref a]) s):wpAny (model X.prog X.w) A (getMethod (.ref a) m pl) Q E s:=by
 let%[mA,O,r,_,_|_]:=pN I.hok e;have hn:mA m=none:=RelO.none_of (by rw[←l];exact r m);exact Dw I.kIn O (c.get m) k.at_ k.fn hn h
theorem wQ{Q:Unit->Shared->Prop}(I:Inv X pins σ H s)(e:H a=some (.ins C dx fs))(c:Cls X.K C)(n:NoAttr X.K C f)(hl:fs.length<1000)(ry:RelV y u)
 (h:∀s',Inv X pins σ (upd H a (.ins C dx (cu f y fs))) s'->Q () s'):wpAny (model X.prog X.w) A (setAttr (.ref a) f u) Q E s:=by
 let%[mA,O,r,wi,_|ho]:=pN I.hok e;have hz:(fs.map (·.1)).length<=sizeLine:=by rw[zE0,sizeLine_eq];omega
 refine Ew I.kIn O c.sa c.po n.taker c.hd wi hz λh' O' sb=>h _ ?_
 have hd:∃o,h'.get? dx=some o:=let⟨o,_,_,e',_⟩:=O'.ns;%[o|e']
 refine I.write (x:=a) (e:=dx) (by rw[e];exact True.intro) (.inr ho) (λb q hb z=>(sb.2 b hb).trans z) hd ?_;erw[by rw[bh O.ne];exact ho,6,O.ne,O'.obj,_,O'.ns,λg=>?_,λg hg=>?_]
 . have:=oT f y fs;omega
 . show RelO ((cu f y fs).lookup g) (if g=f then some u else mA g);rw[am]
   by_cases q:g=f
   . rw[zD0 q,zD0 q];exact ry
   . rw[zA0 q,zA0 q];exact r g
 . by_cases q:g=f
   . rw[q];exact(ox f y fs).1
   . refine(ox f y fs).2 g (wi g λz=>hg ?_);show(if g=f then some u else mA g)=none;rw[zA0 q];exact z
theorem Inv.made(I:Inv X pins σ H s):Inv X pins σ (upd (upd H s.heap.objs.size (.own (s.heap.objs.size+1))) (s.heap.objs.size+1) (.ins C s.heap.objs.size []))
 { s with heap:=(s.heap.push PySem.W.emptyDict).push (PySem.W.instObj C s.heap.objs.size) }:=by
 have e1:(s.heap.push PySem.W.emptyDict).get? s.heap.objs.size=some PySem.W.emptyDict:=qA0 s.heap rfl;have e2:((s.heap.push PySem.W.emptyDict).push (PySem.W.instObj C s.heap.objs.size)).get? (s.heap.objs.size+1)=some (PySem.W.instObj C s.heap.objs.size):=by
  have:=qA0 (s.heap.push PySem.W.emptyDict) (o:=PySem.W.instObj C s.heap.objs.size) rfl
  rwa [Heap.size_push]at this
 have e3:(s.heap.push PySem.W.emptyDict).Ns s.heap.objs.size (λ_=>none):=%[PySem.W.emptyDict,#[],_,e1,1,(λe he=>absurd he (by simp))|λ_=>rfl]
 have I1:=I.laid (a:=s.heap.objs.size) (o:=.own (s.heap.objs.size+1)) (h':=s.heap.push PySem.W.emptyDict) (t':=s.toks) (λb u q=>zS0 _ q) (zH0 _) %[_|e1];refine I1.laid (a:=s.heap.objs.size+1) (o:=.ins C s.heap.objs.size []) (t':=s.toks) (λb u q=>zS0 _ q) (Nat.le_of_eq (Heap.size_push _ _)) ?_;have ne:s.heap.objs.size≠s.heap.objs.size+1:=zV0 (Nat.lt_succ_self _);erw[by rw[bh ne,aI],zT0 _,ne,e2,λ_=>none,(Heap.Ns1.of_empty e3).at λo q=>zS0 _ q,λ_=>True.intro,λy hy=>absurd rfl hy]
theorem Fv{prog:Program}{w:World}{env:Env}{e:Expr}{f:Str}{pos:Pos}{s:Shared}{Q:Value->Shared->Prop}(hb:attributeBase e f env (eval e env)=eval e env)
 (h:wpAny (model prog w) A (eval e env) (λo s₁=>wpAny (model prog w) A (getAttr o f true) Q E s₁) E s):wpAny (model prog w) A (eval (.Attribute e f pos) env) Q E s:=
 Attribute_any_ h (by rw[arm_eval_Attribute,hb])
end
inductive ZtFld(K:W.Frag)(f:Str)(Q:VK)(x:V)(H1:Hp):Prop
 |mk:∀a C dx fs v,x=.ref a->H1 a=some (.ins C dx fs)->Cls K C->NoAttr K C f->fs.lookup f=some v->Q v H1->ZtFld K f Q x H1
def tFld(K:W.Frag)(ta:TE)(f:Str):TE:=λσ H Q=>ta σ H λx H1=>ZtFld K f Q x H1
inductive ZsFld(K:W.Frag)(f:Str)(D:Ends)(σ:St)(y:V)(x:V)(H2:Hp):Prop
 |mk:∀a C dx fs,x=.ref a->H2 a=some (.ins C dx fs)->Cls K C->NoAttr K C f->fs.length<1000->D.nx σ (upd H2 a (.ins C dx (cu f y fs)))->ZsFld K f D σ y x H2
def sFld(K:W.Frag)(ta tv:TE)(f:Str):TS:=λD σ H=>tv σ H λy H1=>ta σ H1 λx H2=>ZsFld K f D σ y x H2
section
variable {X:Cx} {o e value:Expr} {f:Str} {pos pos' tpos:Pos} {ta tv:TE}
theorem ay(he:PE X e ta)(hb:attributeBase e f X.env (eval e X.env)=eval e X.env):PE X (.Attribute e f pos) (tFld X.K ta f):=by
 intro pins s σ H Q I h;refine Fv hb (thn (he pins s σ H _ I h) λu s1 ⟨x,H1,I1,rx,a,C,dx,fs,v,ex,ea,c,n,l,q⟩=>?_);subst ex;obtain rfl:u=Value.ref a:=rx;exact yc I1 ea c n l λu' s2 I2 ru=>%[v,H1,I2,ru|q]
theorem aN(ha:PE X o ta)(hv:PE X value tv)(hs:swapsWith value (some (.Attribute o f pos')) pos.line X.env=pure false):PS X (.Assign [.Attribute o f pos'] value pos) (sFld X.K ta tv f):=by
 intro pins s σ H D I h;refine plainObj_wpAny_Assign_Attribute (thn (hv pins s σ H _ I h) λu s1 ⟨y,H1,I1,ry,q⟩=>thn (ha pins s1 σ H1 _ I1 q) λov s2 ⟨x,H2,I2,rx,a,C,dx,fs,ex,ea,c,n,l,q2⟩=>?_) hs;subst ex;obtain rfl:ov=Value.ref a:=rx;exact wQ I2 ea c n l ry λs3 I3=>%[σ,_,I3|q2]
end
section
variable {X:Cx} {pins:List (Addr×Obj)} {σ:St} {H:Hp} {s:Shared} {A:Around} {E:Value->Shared->Prop} {Q:Value->Shared->Prop} {c:Value} {b:Bool}
inductive TyOf(K:W.Frag)(H:Hp):V->Value->Prop where
 | non:TyOf K H .non (.type "NoneType")
 | bl (x:Bool):TyOf K H (.bl x) (.type "bool")
 | int (i:Int):TyOf K H (.int i) (.type "int")
 | str (x:Str):TyOf K H (.str x) (.type "str")
 | flt (x:UInt64):TyOf K H (.flt x) (.type "float")
 | lst {a:Addr} {xs:List V} (e:H a=some (.lst xs)):TyOf K H (.ref a) (.type "list")
 | frz {a:Addr} {o:Obj} {xs:List V} (e:H a=some (.frz o (.lst xs))):TyOf K H (.ref a) (.type "list")
 | tup {a:Addr} {xs:List V} (e:H a=some (.tup xs)):TyOf K H (.ref a) (.type "tuple")
 | dK {a:Addr} {kvs:List (Key×V)} (e:H a=some (.dK kvs)):TyOf K H (.ref a) (.type "dict")
 | dT {a:Addr} {kvs:List (List Key×V)} (e:H a=some (.dT kvs)):TyOf K H (.ref a) (.type "dict")
 | ins {a C dx:Addr} {fs:List (Str×V)} (e:H a=some (.ins C dx fs)) (cl:Cls K C) (ha:PySem.W.findIn K (.ref C) "__class__"=some (some (.builtin "object.__class__")))
  (hn:PySem.W.specialIn K (.builtin "object.__class__") "__get__"=some (some (.builtin "getset_descriptor.__get__"))) (htk:PySem.W.takesIn K (.builtin "object.__class__")=some true)
  (hm:PySem.W.mroIn K C (.type "object")=some true):TyOf K H (.ref a) (.ref C)
theorem Av(I:Inv X pins σ H s)(rx:RelV x u)(ty:TyOf X.K H x t)(e:PySem.W.kitOne X.K t c=some b)(h:∀tk,Q (.bool b) { s with toks:=tk }) :
 wpAny (model X.prog X.w) A (call (.builtin "isinstance") [u,c]) Q E s:=by
 cases ty with
 | non=>cases(show u=Value.none from rx);exact PySem.W.kia_one PySem.W.kitx_none I.kIn True.intro e (λz=>nomatch z) h
 | bl y=>cases(show u=Value.bool y from rx);exact PySem.W.kia_one PySem.W.kitx_bool I.kIn True.intro e (λz=>nomatch z) h
 | int i=>let%[t|q]:=(show ∃t,u=Value.int i t from rx);cases q;exact PySem.W.kia_one PySem.W.kitx_int I.kIn True.intro e (λz=>nomatch z) h
 | str y=>let%[t|q]:=(show ∃t,u=Value.str y t from rx);cases q;exact PySem.W.kia_one PySem.W.kitx_str I.kIn True.intro e (λz=>nomatch z) h
 | flt y=>let%[t|q]:=(show ∃t,u=Value.float y t from rx);cases q;exact PySem.W.kia_one PySem.W.kitx_float I.kIn True.intro e (λz=>nomatch z) h
 | @lst a xs ea=>
   cases(show u=Value.ref a from rx);let%[_,_,n,_|h1]:=(show ObjOk X.prog X.w H s.heap a (.lst xs)from I.hok a _ ea)
   exact PySem.W.kia_one PySem.W.kitx_list I.kIn %[_,h1|1] e (λz=>nomatch z) h
 | @frz a ob xs ea=>
   cases(show u=Value.ref a from rx);let%[_,_,_,n,_|h1]:=(show ObjOk X.prog X.w H s.heap a (.frz ob (.lst xs))from I.hok a _ ea)
   exact PySem.W.kia_one PySem.W.kitx_list I.kIn %[_,h1|1] e (λz=>nomatch z) h
 | @tup a xs ea=>
   cases(show u=Value.ref a from rx);let%[_,_,_,p|_]:=(show ObjOk X.prog X.w H s.heap a (.tup xs)from I.hok a _ ea)
   erw[o,h1,h2,_]at p;exact PySem.W.kia_one PySem.W.kitx_tuple I.kIn %[o,h1|h2] e (λz=>nomatch z) h
 | @dK a kvs ea=>
   cases(show u=Value.ref a from rx);let%[_,_,vs,_|p]:=(show ObjOk X.prog X.w H s.heap a (.dK kvs)from I.hok a _ ea)
   erw[o,es,ep,h1,h2,_]at p;exact PySem.W.kia_one PySem.W.kitx_dict I.kIn %[o,h1|h2.1] e (λz=>nomatch z) h
 | @dT a kvs ea=>
   cases(show u=Value.ref a from rx);let%[_,_,xs,_,o,es,ep,h1,h2|_]:=(show ObjOk X.prog X.w H s.heap a (.dT kvs)from I.hok a _ ea)
   exact PySem.W.kia_one PySem.W.kitx_dict I.kIn %[o,h1|h2.1] e (λz=>nomatch z) h
 | @ins a C dx fs ea cl ha hn htk hm=>
   cases(show u=Value.ref a from rx);let%[mA,O|_]:=pN I.hok ea;erw[od,J,_]at O.look;exact PySem.W.kia_one (PySem.W.kitx_own (cl.get _) cl.hd ha hn htk hm) I.kIn J e (λz=>nomatch z) h
end
structure Room(k:Nat)(A:Around):Prop where
 hd:A.handled=none
 gd:A.guards=some []
 dp:A.depth+3*k+5<recursionLimit
 un:A.units+16*k+200<cLine
theorem Room.mono{j:Nat}(r:Room k A)(h:j<=k):Room j A:=%[r.hd,r.gd,by have:=r.dp;omega|by have:=r.un;omega]
theorem Room.deeper{k:Nat}(r:Room (k+1) A)(env:Env):Room k (A.deeper env):=
 %[r.hd,r.gd,by have:=r.dp;show A.depth+1+3*k+5<_;omega|by have:=r.un;show A.units+3+16*k+200<_;omega]
theorem xT {A:Around} {C:Addr} {us:List Value} {kw:List (Str×Value)}:(A.under (.builtin "type.__call__" %[.ref C::us|kw])).depth=A.depth+1:=by
 first | rfl | simp [Around.under,Code.weight,Code.isCreation,Code.isGuard,Code.isCaller,Code.frames,Code.isFrame,guardIds]
theorem xS {A:Around} {C:Addr} {us:List Value} {kw:List (Str×Value)}:(A.under (.builtin "type.__call__" %[.ref C::us|kw])).units=A.units+1:=by
 first | rfl | simp [Around.under,Code.cUnits,Code.frames,Code.isFrame]
theorem Room.make {k:Nat}  (r:Room (k+1) A) (C:Addr) (us:List Value) (kw:List (Str×Value)):Room k (A.under (.builtin "type.__call__" %[.ref C::us|kw])):=
 %[r.hd,by simp [Around.under,Code.guards,Code.isGuard,guardIds,pushGuards,r.gd],by have:=r.dp;rw[xT];omega|by have:=r.un;rw[xS];omega]
theorem Room.depth(r:Room k A):A.depth<recursionLimit:=by have:=r.dp;omega
theorem Room.units(r:Room k A):A.units+64<cLine:=by have:=r.un;omega
def Bj:TA:=λ_ H Q=>Q [] H
def sv(ta:TE)(tr:TA):TA:=λσ H Q=>ta σ H λx H1=>tr σ H1 λxs H2=>Q (x::xs) H2
section
variable {X:Cx} {e:Expr} {es:List Expr} {te:TE} {t:TA} {pos:Pos}
theorem aO:PA X [] Bj:=λ_ _ _ _ H Q I h=>Calls.spliced_nil %[[],H,I,.nil|h]
theorem af(ha:PE X e te)(hr:PA X es t)(hs:starEach (e::es) X.env=(false,eval e X.env)::starEach es X.env:=by rfl):PA X (e::es) (sv te t):=by
 intro pos pins s σ H Q I h;rw[hs];show wpAny _ _ (spliced ((false,eval e X.env)::backTo pos (starEach es X.env))) _ _ s;refine Calls.spliced_cons (thn (ha pins s σ H _ I h) λu s1 ⟨x,H1,I1,r1,q1⟩=>?_);exact thn (hr pos pins s1 σ H1 _ I1 q1) λus s2 ⟨xs,H2,I2,r2,q2⟩=>%[x::xs,H2,I2,.cons r1 r2|q2]
inductive ZtTup(Q:VK)(xs:(List V))(H1:Hp):Prop
 |mk:xs.length<=sizeLine->(∀p,H1 p=none->Q (.ref p) (upd H1 p (.tup xs)))->ZtTup Q xs H1
def tTup(t:TA):TE:=λσ H Q=>t σ H λxs H1=>ZtTup Q xs H1
inductive ZtLst(Q:VK)(xs:(List V))(H1:Hp):Prop
 |mk:xs.length<=sizeLine->(∀p,H1 p=none->Q (.ref p) (upd H1 p (.lst xs)))->ZtLst Q xs H1
def tLst(t:TA):TE:=λσ H Q=>t σ H λxs H1=>ZtLst Q xs H1
theorem aF{x1}(h:PA X es t):PE X (.Tuple es x1 pos) (tTup t):=by
 intro pins s σ H Q I hq;refine wpAny_Tuple_spliced (thn (h pos pins s σ H _ I hq) λus s1 ⟨xs,H1,I1,r,z,q⟩=>%[by rw[←r.length];exact z|6]);have hf:H1 s1.heap.objs.size=none:=I1.hok.fresh (zH0 _);erw[.ref s1.heap.objs.size,upd H1 s1.heap.objs.size (.tup xs),I1.laid (t':=s1.toks) (λb u e=>zS0 _ e) (zH0 _) ?_,1,q _ hf];erw[z,us,r,%[_,qA0 _ rfl,1|0],_,qA0 _ rfl,1]
theorem dy(h:PA X es t):PE X (.List es pos) (tLst t):=by
 intro pins s σ H Q I hq;refine wpAny_List_spliced (thn (h pos pins s σ H _ I hq) λus s1 ⟨xs,H1,I1,r,z,q⟩=>%[by rw[←r.length];exact z|6]);have hf:H1 s1.heap.objs.size=none:=I1.hok.fresh (zH0 _);erw[.ref s1.heap.objs.size,upd H1 s1.heap.objs.size (.lst xs),I1.laid (t':=s1.toks) (λb u e=>zS0 _ e) (zH0 _) ?_,1,q _ hf];erw[z,us,(0),r,qA0 _ rfl]
end
abbrev Sp:=List V->Hp->VK->XK->Prop
abbrev CXT:=List Env->Hp->Shared->XK->Value->Shared->Prop
structure Env0(P:Program)(w:World)(K:W.Frag)(mg:Str->Option Value)(base:Heap)(A:Around)(outer:List Env)(s:Shared)(H:Hp):Prop where
 frames:A.frames=some outer
 mod:Mod K mg base
 bs:∀b o,base.get? b=some o->s.heap.get? b=some o/\H b=none
 bsz:base.objs.size<=s.heap.objs.size
 funs:s.heap.FunFrames base outer
 frf:∀b∈frs outer,H b=none
 hok:HOk P w H s.heap
 bare:AllBare s.gens
def CE(outer:List Env)(P:Program)(w:World)(H:Hp)(s:Shared)(Q:VK)(u:Value)(s':Shared):Prop:=
 ∃v H',s'.os=s.os/\AllBare s'.gens/\Un (frs outer) [] H H' s.heap s'.heap/\HOk P w H' s'.heap/\RelV v u/\Q v H'
def CR(CX:CXT)(outer:List Env)(P:Program)(w:World)(H:Hp)(s:Shared)(Q:VK)(E:XK)(r:Result)(s':Shared):Prop:=
 match r with
 | .ok (.ret u)=>CE outer P w H s Q u s'
 | .ok _=>False
 | .error e=>CX outer H s E e s'
structure FnOk(P:Program)(w:World)(K:W.Frag)(mg:Str->Option Value)(base:Heap)(CX:CXT)(k:Nat)(f:Addr)(fd:FuncData)(ps:List Str)(sp:Sp):Prop where
 len:∀vs H Q E,sp vs H Q E->vs.length=ps.length
 run:∀(A:Around)(outer:List Env)(s:Shared)(H:Hp)(args:Args)(us:List Value)(vs:List V)(Q:VK)(E:XK),Room k A->Env0 P w K mg base A outer s H->BindsTo s fd args (ps.zip us)->Vals vs us->sp vs H Q E ->
  codeAny (model P w) A (.call (.ref f) args) (CR CX outer P w H s Q E) s
theorem Env0.make{K:W.Frag}(e:Env0 P w K mg base A outer s H)(C:Addr)(us:List Value)(kw:List (Str×Value)) :
 Env0 P w K mg base (A.under (.builtin "type.__call__" %[.ref C::us|kw])) outer s H:=⟨by first | exact e.frames | (simpa [Around.under,Code.envs,Code.isFrame,pushEnvs]using e.frames),e.mod,e.bs,e.bsz,e.funs,e.frf,e.hok,e.bare⟩
section
variable {X:Cx} {pins:List (Addr×Obj)} {σ:St} {H:Hp} {s s':Shared}
theorem Inv.env0(I:Inv X pins σ H s):Env0 X.prog X.w X.K X.mg X.base X.A X.stack s H:=
 %[I.ok.frames,I.ok.mod,I.bs,zP0 I.ok.bsz I.sz,I.stack,I.stkFree,I.hok|I.bare]
theorem Inv.after(I:Inv X pins σ H s)(h:CE X.stack X.prog X.w H s Q u s'):EP X pins σ Q u s':=by
 erw[v,H',os,bare,un,hok,r,q]at h;erw[hh,g,d,t,os']at s';obtain rfl:os'=s.os:=os;erw[v,H',I.call (h':=hh) (g':=g) (d':=d) (t':=t) (ch:=[]) un hok bare (λb z=>absurd z (by simp)),r,q]
end
def yw(sp:Sp)(dvs:List V)(E:XK)(t:TA):TE:=λσ H Q=>t σ H λvs H1=>sp (vs++dvs) H1 Q E
inductive ZtMeth(C:Addr)(m:Str)(sp:Sp)(dvs:List V)(E:XK)(t:TA)(σ:St)(Q:VK)(x:V)(H1:Hp):Prop
 |mk:∀a dx fs,x=.ref a->H1 a=some (.ins C dx fs)->fs.lookup m=none->(t σ H1 λvs H2=>sp (x::(vs++dvs)) H2 Q E)->ZtMeth C m sp dvs E t σ Q x H1
def FE(C:Addr)(m:Str)(sp:Sp)(dvs:List V)(E:XK)(ta:TE)(t:TA):TE:=λσ H Q=>ta σ H λx H1=>ZtMeth C m sp dvs E t σ Q x H1
def tMake(C:Addr)(sp:Sp)(dvs:List V)(E:XK)(t:TA):TE:=λσ H Q=>t σ H λvs H1=>∀x dx,H1 x=none->H1 dx=none->dx≠x ->
 sp (.ref x::(vs++dvs)) (upd (upd H1 dx (.own x)) x (.ins C dx [])) (λv H2=>v=.non/\Q (.ref x) H2) E
def Binds(K:W.Frag)(fd:FuncData)(ps:List Str)(ds:List Value):Prop:=
 ∀(s:Shared)(us:List Value),K.In s.heap->(us++ds).length=ps.length->BindsTo s fd %[us|[]] (ps.zip (us++ds))
theorem Binds.all{K:W.Frag}{fd:FuncData}{ps:List Str}(h:∀us:List Value,us.length=ps.length->bindArgs fd %[us|[]]=pure (ps.zip us)):Binds K fd ps []:=λs us _ hl=>by
 rw[List.append_nil]at hl ⊢;exact .of_eq (h us hl)
def kq(CX:CXT)(X:Cx)(E:XK):Prop:=∀(pins:List (Addr×Obj))(σ:St)(H:Hp)(s:Shared)(e:Value)(s':Shared),Inv X pins σ H s->CX X.stack H s E e s'->X.xe e s'
section
variable {X:Cx} {CX:CXT} {k:Nat} {f C:Addr} {fd:FuncData} {ps:List Str} {sp:Sp} {dvs:List V} {ds:List Value} {E:XK} {x m:Str} {p pos apos:Pos} {e o:Expr} {es:List Expr} {ta:TE} {t:TA}
theorem tZ{σ:St}{Q:VK}(F:FnOk X.prog X.w X.K X.mg X.base CX k f fd ps sp)(hr:Room k X.A)(hb:Binds X.K fd ps ds)(hd:Vals dvs ds)(hx:kq CX X E)
 (I:Inv X pins σ H s) (r:Vals vs us) (h:sp (vs++dvs) H Q E):wpAny (model X.prog X.w) X.A (call (.ref f) us) (EP X pins σ Q) X.xe s:=by
 have r2:Vals (vs++dvs) (us++ds):=r.append hd;have hl:(us++ds).length=ps.length:=by rw[←r2.length];exact F.len _ _ _ _ h
 refine wpAny_call (codeAny_mono (F.run X.A X.stack s H %[us|[]] (us++ds) (vs++dvs) Q E hr I.env0 (hb s us I.kIn hl) r2 h) λr s' hq=>?_);cases r with
 | error e=>exact hx pins σ H s e s' I hq
 | ok fl=>
   cases fl with
   | ret u=>exact I.after hq
   | next=>exact False.elim hq
   | brk=>exact False.elim hq
   | cont=>exact False.elim hq
theorem EH(F:FnOk X.prog X.w X.K X.mg X.base CX k f fd ps sp)(hr:Room k X.A)(hg:Gl X x)(hm:X.mg x=some (.ref f))(hk:PySem.W.keepIn X.K (.ref f)=true)(hb:Binds X.K fd ps ds)(hd:Vals dvs ds)(hx:kq CX X E)
 (ha:PA X (e::es) t) (hdb:(x==("__debug__":Str))=false:=by decide) (he:starEach (e::es) X.env=(false,eval e X.env)::starEach es X.env:=by rfl) (hpl:(backTo pos (starEach es X.env)).any (·.1)=false:=by rfl) :
 PE X (.Call (.Name x p) (e::es) [] pos) (yw sp dvs E t):=by
 intro pins s σ H Q I h;refine wpAny_Call_Name_kw (pM I hg hm ?_ hdb);refine PySem.W.callWith_K (h₀:=X.base) I.ok.mod.kin hk (thn (ha pos pins s σ H _ I h) λus s1 ⟨vs,H1,I1,r,q⟩=>%[I1.kIn|6]) he hpl;exact tZ F hr hb hd hx I1 r q
theorem Ch(F:FnOk X.prog X.w X.K X.mg X.base CX k f fd ps sp)(hr:Room k X.A)(hg:Gl X x)(hm:X.mg x=some (.ref f))(hk:PySem.W.keepIn X.K (.ref f)=true)(hb:Binds X.K fd ps ds)(hd:Vals dvs ds)(hx:kq CX X E)
 (hdb:(x==("__debug__":Str))=false:=by decide):PE X (.Call (.Name x p) [] [] pos) (yw sp dvs E Bj):=by
 intro pins s σ H Q I h;refine wpAny_Call_Name_kw (pM I hg hm ?_ hdb);exact PySem.W.callWith_K0 I.kIn hk (tZ (us:=[]) F hr hb hd hx I .nil h)
theorem bQ{pl:Sem Bool}(he:PE X o ta)(c:Cls X.K C)(hm:Meth X.K C m f)(F:FnOk X.prog X.w X.K X.mg X.base CX k f fd ps sp)(hr:Room k X.A)(hb:Binds X.K fd ps ds)(hd:Vals dvs ds)(hx:kq CX X E)(ha:PA X (e::es) t)
 (hst:starEach (e::es) X.env=(false,eval e X.env)::starEach es X.env:=by rfl) (hpl:(backTo pos (starEach es X.env)).any (·.1)=false:=by rfl)
 (ht:eval (.Call (.Attribute o m apos) (e::es) [] pos) X.env=(do
  let ov ←eval o X.env
  standAt apos.atName
  let(f,first) ←holding [ov] (getMethod ov m pl)
  callWith pos f first (backTo pos (starEach (e::es) X.env)) (backToKw pos (keywordEach [] X.env))):=by rfl) :
 PE X (.Call (.Attribute o m apos) (e::es) [] pos) (FE C m sp dvs E ta t):=by
 intro pins s σ H Q I h;refine PySem.W.methodCall_KW (pl:=pl) (thn (he pins s σ H _ I h) λu s1 ⟨x,H1,I1,rx,a,dx,fs,ex,ea,l,q⟩=>?_) ht;subst ex;obtain rfl:u=Value.ref a:=rx;refine rm I1 ea c hm l ?_;refine PySem.W.callWith_K (first:=[.ref a]) (h₀:=X.base) I.ok.mod.kin hm.kp (thn (ha pos pins s1 σ H1 _ I1 q) λus s2 ⟨vs,H2,I2,r,q2⟩=>%[I2.kIn|6]) hst hpl;exact tZ (us:=.ref a::us) (vs:=.ref a::vs) F hr hb hd hx I2 (.cons rfl r) q2
theorem bq{pl:Sem Bool}(he:PE X o ta)(c:Cls X.K C)(hm:Meth X.K C m f)(F:FnOk X.prog X.w X.K X.mg X.base CX k f fd ps sp)(hr:Room k X.A)(hb:Binds X.K fd ps ds)(hd:Vals dvs ds)(hx:kq CX X E)
 (ht:eval (.Call (.Attribute o m apos) [] [] pos) X.env=(do
  let ov ←eval o X.env
  standAt apos.atName
  let(f,first) ←holding [ov] (getMethod ov m pl)
  callWith pos f first (backTo pos (starEach [] X.env)) (backToKw pos (keywordEach [] X.env))):=by rfl) :
 PE X (.Call (.Attribute o m apos) [] [] pos) (FE C m sp dvs E ta Bj):=by
 intro pins s σ H Q I h;refine PySem.W.methodCall_KW (pl:=pl) (thn (he pins s σ H _ I h) λu s1 ⟨x,H1,I1,rx,a,dx,fs,ex,ea,l,q⟩=>?_) ht;subst ex;obtain rfl:u=Value.ref a:=rx;refine rm I1 ea c hm l ?_;exact PySem.W.callWith_K0 (first:=[.ref a]) I1.kIn hm.kp (tZ (us:=[.ref a]) (vs:=[.ref a]) F hr hb hd hx I1 (.cons rfl .nil) q)
structure Mk(K:W.Frag)(C f:Addr):Prop where
 makes:PySem.W.makesIn K C=true
 init:PySem.W.findIn K (.ref C) "__init__"=some (some (.ref f))
 fn:PySem.W.isFn K (.ref f)=true
 kp:PySem.W.keepIn K (.ref C)=true
theorem BM{σ:St}{Q:VK}(M:Mk X.K C f)(F:FnOk X.prog X.w X.K X.mg X.base CX k f fd ps sp)(hr:Room (k+1) X.A)(hb:Binds X.K fd ps ds)(hd:Vals dvs ds)
 (hx:kq CX X E) (I:Inv X pins σ H s) (r:Vals vs us)
 (h:∀x dx,H x=none->H dx=none->dx≠x->sp (.ref x::(vs++dvs)) (upd (upd H dx (.own x)) x (.ins C dx [])) (λv H2=>v=.non/\Q (.ref x) H2) E) :
 wpAny (model X.prog X.w) X.A (call (.ref C) us) (EP X pins σ Q) X.xe s:=by
 have hq:=h (s.heap.objs.size+1) s.heap.objs.size (I.hok.fresh (qJ0 _)) (I.hok.fresh (zH0 _)) (zV0 (Nat.lt_succ_self _));have I2:=Inv.made (C:=C) I;have r2:Vals (V.ref (s.heap.objs.size+1)::(vs++dvs)) (Value.ref (s.heap.objs.size+1)::(us++ds)):=.cons rfl (r.append hd);have hl:(Value.ref (s.heap.objs.size+1)::us++ds).length=ps.length:=by
  have e:=r2.length;rw[F.len _ _ _ _ hq]at e;exact e.symm
 refine wpAny_call (Dd (f:=f) I.kIn M.makes M.init (beq_iff_eq.mp M.fn) (codeAny_mono (F.run _ X.stack _ _ %[Value.ref (s.heap.objs.size+1)::us|[]] (Value.ref (s.heap.objs.size+1)::(us++ds)) _ _ E (hr.make C us [])
  (I2.env0.make C us []) (hb _ (Value.ref (s.heap.objs.size+1)::us) I2.kIn hl) r2 hq) λr s' hq'=>?_))
 cases r with
 | error e=>exact hx pins σ _ _ e s' I2 hq'
 | ok fl=>
   cases fl with
   | ret u=>
     let%[v,H',I3,rv,ev|q3]:=I2.after hq';subst ev;erw[rv,%[V.ref (s.heap.objs.size+1),H',I3,1|q3]]
   | next=>exact False.elim hq'
   | brk=>exact False.elim hq'
   | cont=>exact False.elim hq'
theorem eT(M:Mk X.K C f)(F:FnOk X.prog X.w X.K X.mg X.base CX k f fd ps sp)(hr:Room (k+1) X.A)(hg:Gl X x)(hm:X.mg x=some (.ref C))(hb:Binds X.K fd ps ds)(hd:Vals dvs ds)(hx:kq CX X E)
 (ha:PA X (e::es) t) (hdb:(x==("__debug__":Str))=false:=by decide) (he:starEach (e::es) X.env=(false,eval e X.env)::starEach es X.env:=by rfl) (hpl:(backTo pos (starEach es X.env)).any (·.1)=false:=by rfl) :
 PE X (.Call (.Name x p) (e::es) [] pos) (tMake C sp dvs E t):=by
 intro pins s σ H Q I h;refine wpAny_Call_Name_kw (pM I hg hm ?_ hdb);refine PySem.W.callWith_K (h₀:=X.base) I.ok.mod.kin M.kp (thn (ha pos pins s σ H _ I h) λus s1 ⟨vs,H1,I1,r,q⟩=>%[I1.kIn|6]) he hpl;exact BM M F hr hb hd hx I1 r q
end
structure FnScope(N P:List Str)(sc:Scope):Prop where
 kind:sc.kind=.function
 co:sc.isCoroutine=false
 gen:sc.isGenerator=false
 nd:N.Nodup
 pre:N.take P.length=P
 par:∀x∈P,sc.names.lookup x=some .local∨sc.names.lookup x=some .cell
 nofree:∀y∈sc.names,y.2≠.free
theorem sO{kindOf:Str->Option NameKind}{x:Str}:∀{binds:List (Str×Value)}{m:Str->Option Value},(∀v,(x,v)∉binds)->bindL kindOf binds m x=m x
 | [],_,_=>rfl
 | (n,v)::r,m,h=>by
   unfold bindL;rw[sO λw hw=>h w (qK0 _ hw)]
   split
   . have:x≠n:=by rintro rfl;exact h v qC0
     simp [this]
   . rfl
theorem sQ{kindOf:Str->Option NameKind}{x:Str}:∀{binds:List (Str×Value)}{m:Str->Option Value},(∀v,(x,v)∉binds)->bindC kindOf binds m x=m x
 | [],_,_=>rfl
 | (n,v)::r,m,h=>by
   unfold bindC;rw[sQ λw hw=>h w (qK0 _ hw)]
   split
   . rfl
   . have:x≠n:=by rintro rfl;exact h v qC0
     simp [this]
theorem sP{kindOf:Str->Option NameKind}{x:Str}{v:Value}:∀{P:List Str}{vs:List Value}{i:Nat}{m:Str->Option Value},P.Nodup->P[i]?=some x->vs[i]?=some v->kindOf x=some .local ->
 bindL kindOf (P.zip vs) m x=some v
 | [],_,_,_,_,h,_,_=>by simp at h
 | _::_,[],_,_,_,_,h,_=>by simp at h
 | p::P,w::vs,0,m,nd,h1,h2,hk=>by
   simp at h1 h2;subst h1;subst h2
   show bindL kindOf ((p,w)::P.zip vs) m p=_;unfold bindL;rw[sO λv hv=>(List.nodup_cons.mp nd).1 (List.of_mem_zip hv).1,zD0 hk]
   simp
 | p::P,w::vs,i+1,m,nd,h1,h2,hk=>by
   show bindL kindOf ((p,w)::P.zip vs) m x=_;unfold bindL;exact sP (i:=i) (List.nodup_cons.mp nd).2 (by simpa using h1) (by simpa using h2) hk
theorem sR{kindOf:Str->Option NameKind}{x:Str}{v:Value}:∀{P:List Str}{vs:List Value}{i:Nat}{m:Str->Option Value},P.Nodup->P[i]?=some x->vs[i]?=some v->kindOf x≠some .local ->
 bindC kindOf (P.zip vs) m x=some v
 | [],_,_,_,_,h,_,_=>by simp at h
 | _::_,[],_,_,_,_,h,_=>by simp at h
 | p::P,w::vs,0,m,nd,h1,h2,hk=>by
   simp at h1 h2;subst h1;subst h2
   show bindC kindOf ((p,w)::P.zip vs) m p=_;unfold bindC;rw[sQ λv hv=>(List.nodup_cons.mp nd).1 (List.of_mem_zip hv).1,zA0 hk]
   simp
 | p::P,w::vs,i+1,m,nd,h1,h2,hk=>by
   show bindC kindOf ((p,w)::P.zip vs) m x=_;unfold bindC;exact sR (i:=i) (List.nodup_cons.mp nd).2 (by simpa using h1) (by simpa using h2) hk
def oG(N:List Str)(vs:List V):St:=vs.map some++List.replicate (N.length-vs.length) none
def AN(CX:CXT)(P:Program)(w:World)(K:W.Frag)(mg:Str->Option Value)(base:Heap)(N:List Str)(qual:Str)(scope:Scope)(f:Addr)(cd:Value)(A:Around)(outer:List Env)(s:Shared)(H:Hp)(E:XK):Cx where
 prog:=P
 w:=w
 K:=K
 mg:=mg
 base:=base
 A:=A.deeper (envOfC qual scope s.heap.objs.size f cd)
 N:=N
 s₀:=s
 H₀:=H
 env:=envOfC qual scope s.heap.objs.size f cd
 outer:=outer
 stack:=envOfC qual scope s.heap.objs.size f cd::outer
 ex:=[]
 calm:=true
 fn:=λ_=>true
 pn:=[]
 xe:=λe s'=>wpAny (model P w) (A.deeper (envOfC qual scope s.heap.objs.size f cd)) (leaving (envOfC qual scope s.heap.objs.size f cd) e) (λ_ s''=>CX outer H s E e s'') (λe' s''=>CX outer H s E e' s'') s'
theorem wg{sc:Scope}{n:Nat}{x:Str}(h:sc.names.lookup x=some .cell):∃c,(cellsFrom n sc.names []).lookup x=some c:=by
 have q:=PySem.W.cellsFrom_some sc.names n [] (.inl h);exact Option.isSome_iff_exists.mp q
theorem Ax{K:W.Frag}{qual:Str}{f:Addr}{cd:Value}{A:Around}{s1:Shared}{vs:List V}
 (S:FnScope N ps scope) (hd:A.handled=none) (e0:Env0 P w K mg base A outer s H) (hl:vs.length=ps.length) (r:Vals vs us)
 (x:InCallC s s.heap.objs.size (bindL (envOfC qual scope s.heap.objs.size f cd).kindOf (ps.zip us) λ_=>none) (cellsFrom (s.heap.objs.size+1) scope.names []) (bindC (envOfC qual scope s.heap.objs.size f cd).kindOf (ps.zip us) λ_=>none) s1) :
 Inv (AN CX P w K mg base N qual scope f cd A outer s H E) [] (oG N vs) H s1:=by
 have hpl:ps.length<=N.length:=by have:=congrArg List.length S.pre;rw[qL0]at this;omega
 erw[h1,tk,1,hk]at x.done;have noA:∀b:Addr,b∉(AN CX P w K mg base N qual scope f cd A outer s H E).ex:=λb z=>absurd (show b∈([]:List Addr)from z) (by simp)
 erw[%[e0.mod,S.kind,1,1,zH0 _,λy z c h1 h2=>?_,λy hy=>?_,λy c _ h=>?_,λ_=>hd,Around.frames_deeper e0.frames,.inr %[1|1],λb z=>absurd z (noA b),e0.bs,e0.bsz,λb _ _=>noA b,λb z=>absurd z (noA b),e0.funs|e0.frf],1,e0.bare,Un.kept hk,%[_,x.toInCall.ns|λi y v h1 h2 h3=>?_],λy c h=>%[_|x.cell y c h],e0.hok.fresh (zH0 _),λy c h=>?_,λp hp=>absurd (show p∈([]:List (Addr×Obj))from hp) (by simp),e0.hok.kept hk,6]
 . exact name_of_addr x.apart (PySem.mem_of_lookup h1) (PySem.mem_of_lookup h2)
 . have hy:scope.names.lookup y=some .cell∨scope.names.lookup y=some .free:=hy;rcases hy with hy | hy
   . exact wg hy
   . exact absurd rfl (S.nofree _ (PySem.mem_of_lookup hy))
 . exact Nat.le_of_lt (x.above y c (PySem.mem_of_lookup h))
 . have hi:i<vs.length:=by
    unfold oG at h2
    by_cases hi:i<vs.length
    . exact hi
    . rw [List.getElem?_append_right (by simpa using hi)]at h2;rw[List.getElem?_replicate]at h2
      split at h2 <;> cases h2
   have ha:vs[i]?=some v:=by
    unfold oG at h2;rw[List.getElem?_append_left (by simpa using hi),zY0]at h2;cases e:vs[i]? with
    | none=>rw[e]at h2;cases h2
    | some a=>rw[e]at h2;cases h2;rfl
   let%[u,hu|rv]:=r.get ha;have hp:ps[i]?=some y:=by
    rw[←S.pre,List.getElem?_take_of_lt #[0]];exact h1
   have ndP:ps.Nodup:=by rw[←S.pre];exact S.nd.sublist (List.take_sublist _ _)
   erw[u,rv,6];rcases S.par y (qF0 hp)with k | k
   . exact .inl %[k|sP ndP hp hu k]
   . let%[c|e]:=wg (n:=s.heap.objs.size+1) k;refine .inr %[.inl k,c,e|6];have q:=x.cell y c e;rw[sR ndP hp hu (by show scope.names.lookup y≠_;rw[k];decide)]at q;exact q
 . exact e0.hok.fresh (Nat.le_of_lt (x.above y c (PySem.mem_of_lookup h)))
 . unfold oG;show _=N.length;rw[zJ0,zE0,List.length_replicate];omega
theorem fn_of{K:W.Frag}{f:Addr}{name qual:Str}{params:Arguments}{body:List Stmt}{scope:Scope}{dV kV doc pm cdv ct oc:Value}{an od:Option Addr}
 {osl:Array (Option Value)}  {sp:Sp} (lk:K.lookup f=some %[oc,od,.func (PySem.W.fnOf name qual params body scope dV kV doc pm an cdv ct)|osl]) (hcd:PySem.W.codeIn K cdv qual=true) (S:FnScope N ps scope)
 (len:∀vs H Q E,sp vs H Q E->vs.length=ps.length)
 (hbody:∀(A:Around)(outer:List Env)(s:Shared)(H:Hp)(vs:List V)(Q:VK)(E:XK),Room k (A.deeper (envOfC qual scope s.heap.objs.size f cdv))->sp vs H Q E ->
  ∃t,PSs (AN CX P w K mg base N qual scope f cdv A outer s H E) body t/\t { nx:=λ_ H'=>Q .non H',rt:=Q } (oG N vs) H) :
 FnOk P w K mg base CX (k+1) f (PySem.W.fnOf name qual params body scope dV kV doc pm an cdv ct) ps sp:=by
 erw[len,λA outer s H args us vs Q E hr e0 hb r hsp=>?_];have hl:=len _ _ _ _ hsp;have KX:K.In s.heap:=e0.mod.kin.keeps λb o e=>(e0.bs b o e).1
 have lim:s.heap.NoLimit:=e0.mod.nolimit.keeps λb o e=>(e0.bs b o e).1
 have hkind:∀y∈ps.zip us,scope.names.lookup y.1=some .local∨(scope.names.lookup y.1=some .cell/\((cellsFrom (s.heap.objs.size+1) scope.names []).lookup y.1).isSome=true):=fun⟨n,v⟩ hy=>by
  rcases S.par n (List.of_mem_zip hy).1 with q | q
  . exact .inl q
  . exact .inr %[q|PySem.W.cellsFrom_some _ _ _ (.inl q)]
 refine codeAny_call_function hr.depth (KX _ _ lk) rfl S.co S.gen rfl (PySem.W.codeRec_of KX hcd) (hb _ _ _ _ ?_);refine wpAny_newFunctionEnv_cells S.kind hkind λenv he s1 x=>?_
 subst he;erw[lim.keeps x.toInCall.keep,codeAny_func ?_];let%[t,ht|hq]:=hbody A outer s H vs Q E (hr.deeper _) hsp;have I:Inv (AN CX P w K mg base N qual scope f cdv A outer s H E) [] (oG N vs) H s1:=Ax S hr.hd e0 hl r x;refine wpAny_mono (ht [] s1 (oG N vs) H _ I hq) (λfl s' hs=>?_) λe s' hs=>hs
 have fin:∀{σ':St}{H':Hp}{v:V}{u:Value},Inv (AN CX P w K mg base N qual scope f cdv A outer s H E) [] σ' H' s'->RelV v u->Q v H'->CE outer P w H s Q u s':=
  fun{σ' H' v u} J rv q=>%[v,H',J.os,J.bare,J.base,J.hok,rv|q]
 cases fl with
 | ret u=>
   erw[v,σ',H',J,rv,q]at hs;exact fin J rv q
 | next=>
   erw[σ',H',J,q]at hs;exact fin (v:=V.non) (u:=Value.none) J rfl q
 | brk=>
   erw[_,_,_,q]at hs;exact False.elim q
 | cont=>
   erw[_,_,_,q]at hs;exact False.elim q
section
variable {X:Cx} {x:Str} {p pos:Pos} {e:Expr} {es:List Expr} {t:TA} {id T:String} {r:List V->Hp->VK->Prop}
def tCB(r:List V->Hp->VK->Prop)(t:TA):TE:=λσ H Q=>t σ H λvs H1=>r vs H1 Q
theorem aE (hc:ip X (.builtin id) r) (hg:Gl X x) (hm:X.mg x=none) (hv:bootBuiltins x=some (.builtin id)) (ha:PA X (e::es) t) (hn:x≠"__name__":=by decide) (hdb:(x==("__debug__":Str))=false:=by decide)
 (he:starEach (e::es) X.env=(false,eval e X.env)::starEach es X.env:=by rfl) (hpl:(backTo pos (starEach es X.env)).any (·.1)=false:=by rfl):PE X (.Call (.Name x p) (e::es) [] pos) (tCB r t):=by
 intro pins s σ H Q I h;refine wpAny_Call_Name_kw (iF I hg hm hv ?_ hn hdb);exact PyProof.Rows.callWith_builtin1 (thn (ha pos pins s σ H _ I h) λus s1 ⟨vs,H1,I1,r1,q1⟩=>hc pins s1 σ H1 vs us Q I1 r1 q1) he hpl
theorem bi (hc:ip X (.type T) r) (hg:Gl X x) (hm:X.mg x=none) (hv:bootBuiltins x=some (.type T)) (ha:PA X (e::es) t) (hn:x≠"__name__":=by decide) (hdb:(x==("__debug__":Str))=false:=by decide)
 (he:starEach (e::es) X.env=(false,eval e X.env)::starEach es X.env:=by rfl) (hpl:(backTo pos (starEach es X.env)).any (·.1)=false:=by rfl):PE X (.Call (.Name x p) (e::es) [] pos) (tCB r t):=by
 intro pins s σ H Q I h;refine wpAny_Call_Name_kw (iF I hg hm hv ?_ hn hdb);exact PyProof.Rows.callWith_type1 (thn (ha pos pins s σ H _ I h) λus s1 ⟨vs,H1,I1,r1,q1⟩=>hc pins s1 σ H1 vs us Q I1 r1 q1) he hpl
end
end L2
namespace HT
open PySem PyProof.Rows
section
variable {prog:Program} {w:World} {A:Around} {E:Value->Shared->Prop} {s:Shared}
theorem cat_tup{t b:Addr}{vs ws:List Value}{Q:Value->Shared->Prop}(ht:IsTup s.heap t vs.toArray)(hb:IsTup s.heap b ws.toArray)(hv:vs≠[])
 (h1:ws=[]->Q (.ref t) s) (h2:ws≠[]->Q (.ref s.heap.objs.size) { s with heap:=s.heap.push { cls:=.type "tuple",data:=.seq (vs++ws).toArray } })
 (hsz:vs.length+ws.length<=sizeLine):wpAny (model prog w) A (binaryOp .Add (.ref t) (.ref b)) Q E s:=by
 let%[%[cls,dd,data|sl],ho,hc,n|hd]:=id ht;let%[%[cls2,dd2,data2|sl2],ho2,hc2,n2|hd2]:=id hb;simp only at hc hd hc2 hd2;subst hc hd hc2 hd2;have e:vs.toArray++ws.toArray=(vs++ws).toArray:=by simp
 by_cases hw:ws=[]
 . exact concat_meets %[_,ho|1] ⟨_,ho2,rfl⟩ noFill_tuple_add seq_tuple_add PySem.F.slot_tuple_add PySem.F.entry_tuple_add (PySem.F.args_tuple_add_2 _ _)
    (tuple_addW1 t b vs.toArray ws.toArray n n2 dd dd2 sl sl2 (by simpa using hv) (by simp [hw])) %[ho,ho2|h1 hw]
 . refine concat_meets %[_,ho|1] ⟨_,ho2,rfl⟩ noFill_tuple_add seq_tuple_add PySem.F.slot_tuple_add PySem.F.entry_tuple_add (PySem.F.args_tuple_add_2 _ _)
    (tuple_addW2 t b vs.toArray ws.toArray n n2 dd dd2 sl sl2 (by simpa using hv) (by simpa using hw) (by rw[zR0,zR0];exact hsz)) %[ho,ho2|6]
   rw[e];exact h2 hw
def sIx(n d:Nat):Option Int->Nat
 | none=>d
 | some v=>if v<0 then(v+(n:Int)).toNat else min v.toNat n
theorem sIx_none(n d:Nat):sIx n d none=d:=rfl
theorem sIx_nat(n d k:Nat):sIx n d (some (k:Int))=min k n:=by
 show(if(k:Int)<0 then((k:Int)+(n:Int)).toNat else min (k:Int).toNat n)=min k n;rw[zA0 #[0],qO0]
theorem Gy(n d:Nat)(hd:d<=n)(o:Option Int):sIx n d o<=n:=by
 cases o with
 | none=>exact hd
 | some v=>
   show(if v<0 then(v+(n:Int)).toNat else min v.toNat n)<=n
   by_cases hv:v<0
   . rw[zD0 hv];omega
   . rw[zA0 hv];exact Nat.min_le_right _ _
theorem zi(v:Int)(n d:Nat):(if v<0 then max (v+(n:Int)) 0 else min v (n:Int))=((sIx n d (some v):Nat):Int):=by
 show(if v<0 then max (v+(n:Int)) 0 else min v (n:Int))=(((if v<0 then(v+(n:Int)).toNat else min v.toNat n):Nat):Int)
 by_cases hv:v<0
 . simp only[zD0 hv];omega
 . simp only[zA0 hv];omega
theorem yt(lo hi:Option Int)(n:Nat):Builtin.Slice.sliceAdjust lo hi 1 (n:Int)=(((sIx n 0 lo:Nat):Int),((sIx n n hi:Nat):Int)):=by
 have h1:¬ ((1:Int)<0):=by omega
 unfold Builtin.Slice.sliceAdjust;simp only[h1,if_false];refine Prod.ext ?_ ?_
 . cases lo with
   | none=>rfl
   | some v=>exact zi v n 0
 . cases hi with
   | none=>rfl
   | some v=>exact zi v n n
theorem xr(i j:Nat):Builtin.Slice.slicePlaces (i:Int) (j:Int) 1=j-i:=by
 unfold Builtin.Slice.slicePlaces;have h1:(1:Int)>0:=by omega
 simp only[h1,if_true,Int.ediv_one]
 split <;> omega
theorem qj{v:Value}{o:Option Int}{Q:Option Int->Shared->Prop}(p:IsPart v o)(h:Q o s):wpAny (model prog w) A (Builtin.Slice.slicePartIndex v) Q E s:=by
 cases p with
 | none=>exact slicePart_none h
 | int i t=>exact slicePart_int h
theorem nu{sl:Addr}{vl vu:Value}{lo hi:Option Int}{Q:Int×Int×Nat->Shared->Prop}(hs:s.heap.IsSliceOf sl vl vu .none)(pl:IsPart vl lo)(pu:IsPart vu hi)
 (h:Q (((sIx n 0 lo:Nat):Int),1,sIx n n hi-sIx n 0 lo) s):wpAny (model prog w) A (Builtin.Slice.sliceApplied (.ref sl) (pure (n:Int))) Q E s:=by
 let%[os,hos,hcs|hds]:=id hs;unfold Builtin.Slice.sliceApplied Builtin.Slice.sliceFields;refine zF0 (zF0 (wpAny_field hos hds (x:=vl) rfl (zF0 (wpAny_field hos hds (x:=vu) rfl (zF0 (wpAny_field hos hds (x:=.none) rfl (zL0 ?_)))))));refine zF0 (slicePart_none ?_);show wpAny _ _ (if((1:Int)==0)=true then _ else _) _ _ s;rw[zA0 ⋯];refine zF0 (qj pl (zF0 (qj pu (zF0 (zL0 ?_)))));show wpAny _ _ (match Builtin.Slice.sliceAdjust lo hi 1 (n:Int)with | (lo,hi)=>pure (lo,(1:Int),Builtin.Slice.slicePlaces lo hi 1)) _ _ s;rw[yt lo hi n];show wpAny _ _ (pure (((sIx n 0 lo:Nat):Int),(1:Int),Builtin.Slice.slicePlaces ((sIx n 0 lo:Nat):Int) ((sIx n n hi:Nat):Int) 1)) _ _ s;rw[xr];exact zL0 h
theorem BZ(xs:Array Value)(i k:Nat):((List.range k).filterMap fun(m:Nat)=>xs[((i:Int)+(m:Int)*1).toNat]?).toArray=((xs.toList.drop i).take k).toArray:=by
 have e:(fun(m:Nat)=>xs[((i:Int)+(m:Int)*1).toNat]?)=λm=>xs[i+m]?:=by
  funext m
  have:((i:Int)+(m:Int)*1).toNat=i+m:=by omega
  rw[this]
 rw[e]
 have:=pick_run xs i k
 rw[List.filterMap_map]at this;have e2:((λx=>xs[x]?) ∘ λx=>i+x)=λm=>xs[i+m]?:=rfl
 rw[e2]at this;rw[this]
theorem getItem_tuple_cut{t sl:Addr}{items:Array Value}{vl vu:Value}{lo hi:Option Int}{Q:Value->Shared->Prop}(ht:IsTup s.heap t items)(hs:s.heap.IsSliceOf sl vl vu .none)(pl:IsPart vl lo)(pu:IsPart vu hi)
 (hw:¬ (sIx items.size 0 lo=0/\sIx items.size items.size hi=items.size))
 (h:Q (.ref s.heap.objs.size) { s with heap:=s.heap.push { cls:=.type "tuple",data:=.seq ((items.toList.drop (sIx items.size 0 lo)).take (sIx items.size items.size hi-sIx items.size 0 lo)).toArray } })
 (hsz:items.size<=sizeLine):wpAny (model prog w) A (getItem (.ref t) (.ref sl)) Q E s:=by
 have htake:sizeOk (.seq ((items.toList.drop (sIx items.size 0 lo)).take (sIx items.size items.size hi-sIx items.size 0 lo)).toArray):=by
  show((items.toList.drop (sIx items.size 0 lo)).take (sIx items.size items.size hi-sIx items.size 0 lo)).toArray.size<=sizeLine;rw[zR0,qL0,List.length_drop,Array.length_toList];omega
 have hj:sIx items.size items.size hi<=items.size:=Gy _ _ (zH0 _) hi;let%[os,hos,hcs|hds]:=id hs;have hTs:s.TypeIs (.ref sl) "slice":=%[os,hos|hcs]
 unfold getItem
 try with_reducible refine wpAny_holding ?_
 first | refine zF0 (zL0 ?_) | skip
 refine zF0 (wpAny_sequenceKey ht.typeIs ⋯ ?_);refine zF0 (wpAny_callSpecial?_slot (name:=Str.ofString "__getitem__") ht.typeIs PyProof.Rows.slot_tuple_getitem
  (wpAny_call_entry PyProof.Rows.slot_tuple_getitem ht.typeIs entry_tuple_getitem ?_ (args_tuple_getitem _ _)))
 show wpAny _ _ (Builtin.Tuple.tupleItemsOf (.ref t) >>= _) _ _ s;refine zF0 (tupleItemsOf_ ht ?_);refine zF0 (wpAny_typeOf hTs ?_);rw[zD0 ⋯];refine zF0 (nu hs pl pu ?_);have hno:¬ ((((sIx items.size 0 lo:Nat):Int)==0&&(1:Int)==1&&(sIx items.size items.size hi-sIx items.size 0 lo)==items.size)=true):=by
  intro q;rw[Bool.and_eq_true,Bool.and_eq_true]at q;have q1:((sIx items.size 0 lo:Nat):Int)=0:=eq_of_beq q.1.1;have q2:sIx items.size items.size hi-sIx items.size 0 lo=items.size:=eq_of_beq q.2;exact hw %[3|3]
 show wpAny _ _ (if(((sIx items.size 0 lo:Nat):Int)==0&&(1:Int)==1&&(sIx items.size items.size hi-sIx items.size 0 lo)==items.size)=true then _ else _) _ _ s;rw[zA0 hno,BZ]
 first
  | exact zF0 (m:=Builtin.Tuple.tupleExact _) (wpAny_newObj_type (zL0 ⟨_,rfl,zL0 h⟩) htake)
  | exact zF0 (m:=Builtin.Tuple.tupleExact _) (wpAny_newObj_type (zF0 (zL0 (zL0 ⟨_,rfl,zL0 h⟩))) htake)
  | exact zF0 (zF0 (m:=Builtin.Tuple.tupleExact _) (wpAny_newObj_type (zL0 (zL0 ⟨_,rfl,zL0 h⟩)) htake))
  | exact zF0 (zF0 (m:=Builtin.Tuple.tupleExact _) (wpAny_newObj_type (zL0 ⟨_,rfl,zL0 h⟩) htake))
end
end HT
namespace L2
open PySem PySem.Spec PyProof.Rows
abbrev TO:=St->Hp->(Option Int->Hp->Prop)->Prop
def PO(X:Cx)(e:Option Expr)(t:TO):Prop:=
 ∀(pins:List (Addr×Obj))(s:Shared)(σ:St)(H:Hp)(Q:Option Int->Hp->Prop),Inv X pins σ H s->t σ H Q ->
  wpAny (model X.prog X.w) X.A (evalPart e X.env) (λu s'=>∃o H',Inv X pins σ H' s'/\IsPart u o/\Q o H') X.xe s
def Ek:TO:=λ_ H Q=>Q none H
inductive ZtPart(Q:(Option Int->Hp->Prop))(x:V)(H1:Hp):Prop
 |mk:∀i,x=.int i->Q (some i) H1->ZtPart Q x H1
def tPart(t:TE):TO:=λσ H Q=>t σ H λx H1=>ZtPart Q x H1
section
variable {X:Cx} {e:Expr} {te:TE} {lo hi:Option Expr} {tl th:TO} {pos p2:Pos}
theorem jt:PO X none Ek:=by
 intro pins s σ H Q I h;rw[evalPart_none];exact zL0 %[none,H,I,.none|h]
theorem eP(h:PE X e te):PO X (some e) (tPart te):=by
 intro pins s σ H Q I hw;rw[evalPart_some];refine thn (h pins s σ H _ I hw) λu s1 ⟨x,H1,I1,r1,q1⟩=>?_
 erw[i,1,q]at q1;erw[t,1]at r1;erw[some i,H1,I1,.int i t,q]
def SlR(X:Cx)(r:V->Option Int->Option Int->Hp->VK->Prop):Prop:=
 ∀(pins:List (Addr×Obj))(s:Shared)(σ:St)(H:Hp)(x:V)(v vl vu:Value)(lo hi:Option Int)(sl:Addr)(Q:VK),Inv X pins σ H s->RelV x v->s.heap.IsSliceOf sl vl vu .none->IsPart vl lo->IsPart vu hi->r x lo hi H Q ->
  ∃T id,typeLookup (.type T) "__getitem__"=pure (some (.builtin id))/\s.TypeIs v T/\wpAny (model X.prog X.w) X.A (getItem v (.ref sl)) (EP X pins σ Q) X.xe s
def tSl(r:V->Option Int->Option Int->Hp->VK->Prop)(te:TE)(tl th:TO):TE:=λσ H Q=>te σ H λx H1=>tl σ H1 λl H2=>th σ H2 λu H3=>r x l u H3 Q
theorem eR(hr:SlR X r)(he:PE X e te)(hl:PO X lo tl)(hu:PO X hi th):PE X (.Subscript e (.Slice lo hi none p2) pos) (tSl r te tl th):=by
 intro pins s σ H Q I h;refine Subscript_ (thn (he pins s σ H _ I h) λv s1 ⟨x,H1,I1,r1,q1⟩=>?_);refine wpAny_Slice (thn (hl pins s1 σ H1 _ I1 q1) λvl s2 ⟨l,H2,I2,pl,q2⟩=>thn (hu pins s2 σ H2 _ I2 q2) λvu s3 ⟨u,H3,I3,pu,q3⟩=>?_);rw[evalPart_none];refine zL0 ?_;have I4:Inv X pins σ H3 { s3 with heap:=s3.heap.push { cls:=.type "slice",data:=.fields #[vl,vu,.none] } }:=I3.kept (t':=s3.toks) λb ob q=>zS0 _ q
 let%[T,id,hT,ht|hg]:=hr pins { s3 with heap:=s3.heap.push { cls:=.type "slice",data:=.fields #[vl,vu,.none] } } σ H3 x v vl vu l u s3.heap.objs.size Q I4 r1 (Heap.IsSliceOf.new ..) pl pu q3;show wpAny (model X.prog X.w) X.A (subscriptTail e (.Slice lo hi none p2) v (.ref s3.heap.objs.size)) (EP X pins σ Q) X.xe { s3 with heap:=s3.heap.push { cls:=.type "slice",data:=.fields #[vl,vu,.none] } };exact tail_any (ops:=[.ref s3.heap.objs.size,v]) ht hT hg (by rfl')
def kR(xs:List V)(lo hi:Option Int):List V:=(xs.drop (HT.sIx xs.length 0 lo)).take (HT.sIx xs.length xs.length hi-HT.sIx xs.length 0 lo)
theorem oZ(xs:List V)(lo hi:Option Int):(kR xs lo hi).length<=xs.length:=by
 unfold kR;rw[qL0,List.length_drop];omega
inductive rSlT(K:W.Frag)(x:V)(lo:Option Int)(hi:Option Int)(H:Hp)(Q:VK):Prop
 |mk:∀a xs,x=.ref a->SqT K H a xs->(¬ (HT.sIx xs.length 0 lo=0/\HT.sIx xs.length xs.length hi=xs.length))->(∀p,H p=none->Q (.ref p) (upd H p (.tup (kR xs lo hi))))->rSlT K x lo hi H Q
theorem qk:SlR X (rSlT X.K):=by
 intro pins s σ H x v vl vu lo hi sl Q I rx hs pl pu h;erw[a,xs,1,hx,hw,q]at h;cases rx;let%[its,r,ht|hz]:=I.tuple hx;have hlen:its.toArray.size=xs.length:=by rw[zR0];exact r.length.symm
 erw["tuple",_,PyProof.Rows.slot_tuple_getitem.lookup,ht.typeIs,6];refine HT.getItem_tuple_cut ht hs pl pu (by rw[hlen];exact hw) ?_ (by rw[hlen];exact hz);rw[hlen];erw[.ref s.heap.objs.size,_,I.laid (t':=s.toks) (o:=.tup (kR xs lo hi)) (λb ob q=>zS0 _ q) (zH0 _) ?_,1,q _ (I.hok.fresh (zH0 _))];erw[zP0 (oZ xs lo hi) hz,_,(r.drop (HT.sIx xs.length 0 lo)).take (HT.sIx xs.length xs.length hi-HT.sIx xs.length 0 lo),IsTup.new _ _,_,qA0 _ rfl,1]
inductive rCatT(K:W.Frag)(x:V)(y:V)(H:Hp)(Q:VK):Prop
 |mk:∀a b xs ys,x=.ref a->y=.ref b->SqT K H a xs->SqT K H b ys->xs≠[]->xs.length+ys.length<=sizeLine->(ys=[]->Q (.ref a) H)->(ys≠[]->∀p,H p=none->Q (.ref p) (upd H p (.tup (xs++ys))))->rCatT K x y H Q
theorem Vals.nil_iff(r:Vals xs us):us=[]↔xs=[]:=by
 cases r with
 | nil=>simp
 | cons _ _=>simp
theorem op_catT:OpR X (binaryOp .Add) (rCatT X.K):=by
 intro pins s σ H x y v u Q I rx ry h;erw[a,b,xs,ys,1,1,ha,hb,hx,hz,q1,q2]at h;cases rx;cases ry;let%[its,r1,p1|_]:=I.tuple ha;let%[its2,r2,p2|_]:=I.tuple hb;refine HT.cat_tup p1 p2 (λz=>hx (r1.nil_iff.mp z)) (λz=>%[.ref a,H,I,1|q1 (r2.nil_iff.mp z)]) (λz=>?_) (by rw[←r1.length,←r2.length];exact hz);erw[.ref s.heap.objs.size,_,I.laid (t':=s.toks) (o:=.tup (xs++ys)) (λb ob q=>zS0 _ q) (zH0 _) ?_,1,q2 (λw=>z (r2.nil_iff.mpr w)) _ (I.hok.fresh (zH0 _))];erw[by rw[zJ0];exact hz,_,r1.append r2,IsTup.new _ _,_,qA0 _ rfl,1]
end
def ixN(n:Nat)(i:Int):Option Nat:=if 0<=i then(if i<n then some i.toNat else none)else if -(n:Int)<=i then some (i+n).toNat else none
def atI{α:Type}(xs:List α)(i:Int):Option α:=(ixN xs.length i).bind λj=>xs[j]?
theorem uE{j:Nat}(h:ixN n i=some j):seqIndex? i n=some j/\j<n/\-(n:Int)<=i/\i<n:=by
 unfold ixN at h
 by_cases h0:0<=i
 . rw [zD0 h0]at h
   by_cases h1:i<n
   . rw[zD0 h1]at h;have e:i.toNat=j:=zU0 h;erw[by rw[seqIndex_of h0 h1,e],3,3,h1]
   . rw[zA0 h1]at h;cases h
 . rw [zA0 h0]at h
   by_cases h1:-(n:Int)<=i
   . rw[zD0 h1]at h;have e:(i+n).toNat=j:=zU0 h;erw[by rw[seqIndex_neg #[0] h1,e],3,h1,3]
   . rw[zA0 h1]at h;cases h
theorem uP{α:Type}{xs:List α}{v:α}(h:atI xs i=some v):∃j,seqIndex? i xs.length=some j/\xs[j]?=some v/\j<xs.length/\-(xs.length:Int)<=i/\i<xs.length:=by
 unfold atI at h;cases e:ixN xs.length i with
 | none=>rw[e]at h;cases h
 | some j=>
   rw[e]at h;let%[h1,h2,h3|h4]:=uE e;erw[j,h1,h,h2,h3,h4]
theorem cD{α:Type}{xs:List α}{j:Nat}{v:α}(h:xs[j]?=some v):atI xs (j:Int)=some v:=by
 have hj:j<xs.length:=(zW0 h).1;have e:ixN xs.length (j:Int)=some j:=by
  unfold ixN;rw[zD0 #[0],zD0 #[0]];simp
 unfold atI;rw[e];exact h
theorem wp{α:Type}(xs:List α)(v:α):atI (xs++[v]) (-1)=some v:=by
 have hl:(xs++[v]).length=xs.length+1:=by simp
 have e:ixN (xs++[v]).length (-1)=some xs.length:=by
  unfold ixN;rw[hl,zA0 ⋯,zD0 #[0]]
  congr 1
  omega
 unfold atI;rw[e];show(xs++[v])[xs.length]?=some v
 simp
def Fy(b:Expr):Prop:=∀o i,subscripted b false o i=operate [o,i] (getItem o i)
def IxR(X:Cx)(r:R2):Prop:=
 ∀(value slice:Expr)(pins:List (Addr×Obj))(s:Shared)(σ:St)(H:Hp)(x y:V)(v u:Value)(Q:VK),Inv X pins σ H s->RelV x v->RelV y u->r x y H Q ->
  subscripted slice false v u=operate [v,u] (getItem v u)->wpAny (model X.prog X.w) X.A (subscriptTail value slice v u) (EP X pins σ Q) X.xe s
def MtR(X:Cx)(id:String)(r:V->List V->Hp->VK->Prop):Prop:=
 ∀(pins:List (Addr×Obj))(s:Shared)(σ:St)(H:Hp)(x:V)(xs:List V)(v:Value)(us:List Value)(Q:VK),Inv X pins σ H s->RelV x v->Vals xs us->r x xs H Q ->
  wpAny (model X.prog X.w) X.A (call (.builtin id) (v::us)) (EP X pins σ Q) X.xe s
section
variable {X:Cx} {a b:Expr} {ta tb:TE} {pos:Pos}
theorem IxR.or(h:IxR X r)(h':IxR X r'):IxR X (λx y H Q=>r x y H Q∨r' x y H Q):=by
 intro value slice pins s σ H x y v u Q I rx ry q hs;rcases q with q | q
 . exact h value slice pins s σ H x y v u Q I rx ry q hs
 . exact h' value slice pins s σ H x y v u Q I rx ry q hs
theorem aJ(hr:IxR X r)(ha:PE X a ta)(hb:PE X b tb)(hs:Fy b):PE X (.Subscript a b pos) (tOp r ta tb):=by
 intro pins s σ H Q I h;exact Subscript_ (HL ha hb I h λv u s2 x y H2 I2 rx ry q=>hr a b pins s2 σ H2 x y v u Q I2 rx ry q (hs _ _))
inductive rIxL(K:W.Frag)(x:V)(y:V)(H:Hp)(Q:VK):Prop
 |mk:∀p xs i v,x=.ref p->y=.int i->SqL K H p xs->atI xs i=some v->Q v H->rIxL K x y H Q
inductive rIxT(K:W.Frag)(x:V)(y:V)(H:Hp)(Q:VK):Prop
 |mk:∀p xs i v,x=.ref p->y=.int i->SqT K H p xs->atI xs i=some v->Q v H->rIxT K x y H Q
inductive rIxS(x:V)(y:V)(H:Hp)(Q:VK):Prop
 |mk:∀z i c,x=.str z->y=.int i->z.length<=sizeLine->atI z.cps.toList i=some c->Q (.str ⟨#[c]⟩) H->rIxS x y H Q
theorem ix_list:IxR X (rIxL X.K):=by
 intro value slice pins s σ H x y v u Q I rx ry h hs;erw[p,xs,i,z,1,1,hq,he,q]at h;cases rx;erw[t,1]at ry;let%[its,r,pl|hz]:=I.list hq;let%[j,h1,h2,h3,h4|h5]:=uP he;let%[w,ew|rw']:=r.get h2;have hl:=r.length;have hn:=jx;have fin:EP X pins σ Q w s:=%[z,H,I,rw'|q]
 by_cases h0:0<=i
 . have hj:i.toNat=j:=by
    rw[seqIndex_of h0 h5]at h1;exact zU0 h1
   exact item_listR pl.isList h0 #[0] (by rw[hj];simpa using ew) fin hs
 . have hj:(i+(its.toArray.size:Int)).toNat=j:=by
    rw[seqIndex_neg #[0] h4]at h1;rw[zR0,←hl];exact zU0 h1
   exact subscriptTail_builtinR (x:=w) pl.isList.typeIs slot_list_getitem.lookup
    (wpAny_getItem_list_neg (Q:=λr s'=>r=w/\EP X pins σ Q r s') pl.isList #[0] (by rw[zR0] <;> omega) #[0] (by rw[hj];simpa using ew) %[1|fin]) hs
theorem ix_tup:IxR X (rIxT X.K):=by
 intro value slice pins s σ H x y v u Q I rx ry h hs;erw[p,xs,i,z,1,1,hq,he,q]at h;cases rx;erw[t,1]at ry;let%[its,r,pl|hz]:=I.tuple hq;let%[j,h1,h2,h3,h4|h5]:=uP he;let%[w,ew|rw']:=r.get h2;have hl:=r.length;have hn:=jx;have fin:EP X pins σ Q w s:=%[z,H,I,rw'|q]
 exact subscriptTail_builtinR (x:=w) pl.typeIs slot_tuple_getitem.lookup
  (getItem_tuple (j:=j) (Q:=λr s'=>r=w/\EP X pins σ Q r s') pl #[0] #[0] (by rw[zR0,←hl];exact h1) (by simpa using ew) %[1|fin]) hs
theorem re:IxR X rIxS:=by
 intro value slice pins s σ H x y v u Q I rx ry h hs;erw[z,i,c,1,1,hz,he,q]at h;erw[t,1]at rx;erw[t',1]at ry;let%[j,h1,h2,h3,h4|h5]:=uP he;have hl:z.cps.toList.length=z.length:=by simp [Str.length]
 rw [hl]at h1 h4 h5;have hn:=jx;exact tail_any (typeIs_str s z t) slot_str_getitem.lookup (getItem_str (c:=c) (by
  have e1:decide (i < -(2 ^ 63:Int))=false:=decide_eq_false #[0];have e2:decide (i≥2 ^ 63)=false:=decide_eq_false #[0];rw[e1,e2,Bool.or_false]) (by rw[h1];simpa using h2) %[.str %[|#[c]],H,I.tok _,%[|0]|q]) hs
def rIx(K:W.Frag):R2:=λx y H Q=>rIxL K x y H Q∨rIxT K x y H Q∨rIxS x y H Q
theorem Dm:IxR X (rIx X.K):=ix_list.or (ix_tup.or re)
theorem xR (its:List Value) (n j:Nat) (u:Value):Obj.mapSeq (·.setIfInBounds j u) { cls:=.type "list",data:=.seq its.toArray n }={ cls:=.type "list",data:=.seq (its.set j u).toArray n }:=by
 simp [Obj.mapSeq]
theorem Inv.lst{pins:List (Addr×Obj)}{σ:St}{H:Hp}{s:Shared}{p:Addr}{xs:List V}(I:Inv X pins σ H s)(h:H p=some (.lst xs)) :
 ∃(its:List Value) (n:Nat),Vals xs its/\s.heap.get? p=some { cls:=.type "list",data:=.seq its.toArray n }/\xs.length<=sizeLine:=by
 let%[z,its,n,r|e]:=I.hok p _ h;erw[its,n,r,e,z]
theorem Inv.lstUpd{σ:St}{p:Addr}{xs:List V}{its its':List Value}{n n':Nat}{f:Obj->Obj}(I:Inv X pins σ H s)(h:H p=some (.lst xs))
 (ho:s.heap.get? p=some { cls:=.type "list",data:=.seq its.toArray n }) (hf:f { cls:=.type "list",data:=.seq its.toArray n }={ cls:=.type "list",data:=.seq its'.toArray n' }) (r:Vals ys its') (hz:ys.length<=sizeLine) (t:Nat) :
 Inv X pins σ (upd H p (.lst ys)) { s with heap:=s.heap.update p f,toks:=t }:=by
 have e:(s.heap.update p f).get? p=some { cls:=.type "list",data:=.seq its'.toArray n' }:=by
  rw[Heap.get?_update_self f ho (by rw[hf] <;> rfl),hf]
 refine I.write (x:=p) (e:=p) (by rw[h];trivial) (.inl rfl) (λb u hb q=>(Heap.get?_update_other _ _ (Ne.symm hb)).trans q) %[_|e] ?_;erw[hz,its',n',r,e]
inductive rSetL(o:V)(i:V)(v:V)(H:Hp)(Q:(Hp->Prop)):Prop
 |mk:∀p xs k j,o=.ref p->i=.int k->H p=some (.lst xs)->ixN xs.length k=some j->Q (upd H p (.lst (xs.set j v)))->rSetL o i v H Q
theorem jJ:PSet X rSetL:=by
 intro pins s σ H o i v ov iv u Q I ro ri rv h;erw[p,xs,k,j,1,1,hp,hj,q]at h;cases ro;erw[t,1]at ri;let%[its,n,r,ho|hz]:=I.lst hp;let%[h1,h2,h3|h4]:=uE hj;have hl:=r.length;have hn:=jx;have I':Inv X pins σ (upd H p (.lst (xs.set j v))) { s with heap:=s.heap.update p (Obj.mapSeq (·.setIfInBounds j u)) }:=
  I.lstUpd hp ho (xR its n j u) (r.set rv j) (by rw[List.length_set];exact hz) s.toks
 by_cases h0:0<=k
 . have hk:k.toNat=j:=by
    rw[seqIndex_of h0 h4]at h1;exact zU0 h1
   exact PySem.W.ki_setAt ho h0 #[0] (by rw[zR0,←hl];exact h4) (by rw[hk];erw[_,I',q])
 . have hk:(k+(its.toArray.size:Int)).toNat=j:=by
    rw[seqIndex_neg #[0] h3]at h1;rw[zR0,←hl];exact zU0 h1
   exact PySem.W.ki_setBack ho #[0] (by rw[zR0,←hl];exact h3) #[0] (by rw[hk];erw[_,I',q])
theorem sW(lo hi:Option Int)(n:Nat):(sliceBounds lo hi none n).1=((HT.sIx n 0 lo:Nat):Int)/\(sliceBounds lo hi none n).2.1=((HT.sIx n n hi:Nat):Int)/\(sliceBounds lo hi none n).2.2=1:=by
 erw[6,6,1]
 . cases lo with
   | none=>simp [sliceBounds,HT.sIx]
   | some i=>
     simp only[sliceBounds,HT.sIx,Option.getD_none,show(1:Int)>0 by decide,if_true]
     by_cases h:i<0
     . simp only[h,if_true] <;> omega
     . simp only[h,if_false] <;> omega
 . cases hi with
   | none=>simp [sliceBounds,HT.sIx]
   | some i=>
     simp only[sliceBounds,HT.sIx,Option.getD_none,show(1:Int)>0 by decide,if_true]
     by_cases h:i<0
     . simp only[h,if_true] <;> omega
     . simp only[h,if_false] <;> omega
theorem rQ(its:List Value)(lo hi:Option Int):slicePick its.toArray lo hi none=((its.drop (HT.sIx its.length 0 lo)).take (HT.sIx its.length its.length hi-HT.sIx its.length 0 lo)).toArray:=by
 let%[h1,h2|h3]:=sW lo hi its.toArray.size;unfold slicePick;rw[h1,h2,h3];simp only[sliceRange_one,pick_run,zR0] <;> rfl
inductive rSlL(K:W.Frag)(x:V)(lo:Option Int)(hi:Option Int)(H:Hp)(Q:VK):Prop
 |mk:∀a xs,x=.ref a->SqL K H a xs->(∀p,H p=none->Q (.ref p) (upd H p (.lst (kR xs lo hi))))->rSlL K x lo hi H Q
theorem Et:SlR X (rSlL X.K):=by
 intro pins s σ H x v vl vu lo hi sl Q I rx hs pl pu h;erw[a,xs,1,hx,q]at h;cases rx;let%[its,r,ht|hz]:=I.list hx;have hlen:=r.length;erw["list",_,slot_list_getitem.lookup,ht.isList.typeIs,6];refine wpAny_getItem_list_slice ht.isList hs pl pu .none (by simp) ?_ (by rw[zR0] <;> omega);rw[rQ,←hlen];erw[.ref s.heap.objs.size,_,I.laid (t':=s.toks) (o:=.lst (kR xs lo hi)) (λb ob q=>zS0 _ q) (zH0 _) ?_,1,q _ (I.hok.fresh (zH0 _))];erw[zP0 (oZ xs lo hi) hz,_,(0),(r.drop (HT.sIx xs.length 0 lo)).take (HT.sIx xs.length xs.length hi-HT.sIx xs.length 0 lo),qA0 _ rfl]
def jG:V->Bool
 | .non=>true
 | .bl _=>true
 | .int _=>true
 | .str _=>true
 | _=>false
def eqV:V->V->Bool
 | .non,.non=>true
 | .bl a,.bl b=>a==b
 | .bl a,.int b=>(if a then 1 else 0)==b
 | .int a,.bl b=>a==(if b then 1 else 0)
 | .int a,.int b=>a==b
 | .str a,.str b=>a==b
 | _,_=>false
theorem Hx{A:Around}{s:Shared}(ry:RelV y u)(rx:RelV x v)(fy:jG y=true)(fx:jG x=true):SeqAt.EqAt A s u v (eqV y x):=by
 cases y with
 | non=>
   cases ry;cases x with
   | non=>cases rx;exact SeqAt.EqAt.same _
   | bl b=>cases rx;exact SeqAt.EqAt.none_bool b
   | int b=>erw[t,1]at rx;exact SeqAt.EqAt.none_int b t
   | str b=>erw[t,1]at rx;exact SeqAt.EqAt.none_str b t
   | _=>exact absurd (show false=true from fx) qD0
 | bl a=>
   cases ry;cases x with
   | non=>cases rx;exact SeqAt.EqAt.bool_none a
   | bl b=>cases rx;exact SeqAt.EqAt.bool_bool a b
   | int b=>erw[t,1]at rx;exact SeqAt.EqAt.bool_int a b t
   | str b=>erw[t,1]at rx;exact SeqAt.EqAt.bool_str a b t
   | _=>exact absurd (show false=true from fx) qD0
 | int a=>
   erw[t',1]at ry;cases x with
   | non=>cases rx;exact SeqAt.EqAt.int_none a t'
   | bl b=>cases rx;exact SeqAt.EqAt.int_bool a t' b
   | int b=>erw[t,1]at rx;exact SeqAt.EqAt.int_int a t' b t
   | str b=>erw[t,1]at rx;exact SeqAt.EqAt.int_str a t' b t
   | _=>exact absurd (show false=true from fx) qD0
 | str a=>
   erw[t',1]at ry;cases x with
   | non=>cases rx;exact SeqAt.EqAt.str_none a t'
   | bl b=>cases rx;exact SeqAt.EqAt.str_bool a t' b
   | int b=>erw[t,1]at rx;exact SeqAt.EqAt.str_int a t' b t
   | str b=>erw[t,1]at rx;exact SeqAt.EqAt.str_str a t' b t
   | _=>exact absurd (show false=true from fx) qD0
 | _=>exact absurd (show false=true from fy) qD0
def eqU(x:V)(u:Value):Bool:=match u with
 | .none=>eqV .non x
 | .bool b=>eqV (.bl b) x
 | .int i _=>eqV (.int i) x
 | .str z _=>eqV (.str z) x
 | _=>false
theorem ye(r:RelV y u)(f:jG y=true):eqU x u=eqV y x:=by
 cases y with
 | non=>cases r;rfl
 | bl b=>cases r;rfl
 | int i=>erw[t,1]at r;rfl
 | str z=>erw[t,1]at r;rfl
 | _=>exact absurd (show false=true from f) qD0
theorem nn:∀{xs:List V}{us:List Value},Vals xs us->xs.all jG=true->us.any (eqU x)=xs.any λy=>eqV y x
 | _,_,.nil,_=>rfl
 | y::xs,u::us,.cons r t,f=>by
   rw[List.all_cons,Bool.and_eq_true]at f;rw[List.any_cons,List.any_cons,ye r f.1,nn t f.2]
theorem gu{A:Around}{s:Shared}(rx:RelV x v)(fx:jG x=true):∀{xs:List V}{us:List Value},Vals xs us->xs.all jG=true->∀u∈us,SeqAt.EqAt A s u v (eqU x u)
 | _,_,.nil,_=>λu hu=>by cases hu
 | y::xs,u::us,.cons r t,f=>λu' hu=>by
   rw[List.all_cons,Bool.and_eq_true]at f;rcases zX0 hu with rfl | hu
   . rw[ye r f.1];exact Hx r rx f.1 fx
   . exact gu rx fx t f.2 u' hu
def inV(x:V)(xs:List V):Bool:=xs.any λy=>eqV y x
inductive rIn(K:W.Frag)(neg:Bool)(x:V)(y:V)(H:Hp)(Q:VK):Prop
 |mk:∀p xs,y=.ref p->SqL K H p xs∨SqT K H p xs->jG x=true->xs.all jG=true->Q (.bl (if neg then !inV x xs else inV x xs)) H->rIn K neg x y H Q
theorem fQ:OpR X (compareOp .In) (rIn X.K false):=by
 intro pins s σ H x y v u Q I rx ry h;erw[p,xs,1,hq,fx,fs,q]at h;cases ry;rcases hq with hq | hq
 . let%[its,r,pl|hz]:=I.list hq;refine SeqAt.in_listAt (eqU x) pl.isList (λw hw=>gu rx fx r fs w (by simpa using hw)) %[.bl _,H,I,1|6];rw[show its.toArray.any (eqU x)=its.any (eqU x) by simp,nn r fs];exact q
 . let%[its,r,pl|hz]:=I.tuple hq;refine SeqAt.in_tupleAt (eqU x) pl (λw hw=>gu rx fx r fs w (by simpa using hw)) %[.bl _,H,I,1|6];rw[show its.toArray.any (eqU x)=its.any (eqU x) by simp,nn r fs];exact q
theorem mq:OpR X (compareOp .NotIn) (rIn X.K true):=by
 intro pins s σ H x y v u Q I rx ry h;erw[p,xs,1,hq,fx,fs,q]at h;cases ry;rcases hq with hq | hq
 . let%[its,r,pl|hz]:=I.list hq;refine SeqAt.notIn_listAt (eqU x) pl.isList (λw hw=>gu rx fx r fs w (by simpa using hw)) %[.bl _,H,I,1|6];rw[show its.toArray.any (eqU x)=its.any (eqU x) by simp,nn r fs];exact q
 . let%[its,r,pl|hz]:=I.tuple hq;refine SeqAt.notIn_tupleAt (eqU x) pl (λw hw=>gu rx fx r fs w (by simpa using hw)) %[.bl _,H,I,1|6];rw[show its.toArray.any (eqU x)=its.any (eqU x) by simp,nn r fs];exact q
theorem uf:OpR X (compareOp .NotIn) (λx y H Q=>∃i j,x=.str i/\y=.str j/\Q (.bl (!(!(Builtin.Str.occurrences j i 0 j.length 1).isEmpty))) H):=by
 intro pins s σ H x y v u Q I rx ry h;erw[i,j,1,1,q]at h;erw[t,1]at rx;erw[t',1]at ry;exact notIn_str %[.bl _,H,I,1|q]
inductive rLen(K:W.Frag)(xs:List V)(H:Hp)(Q:VK):Prop
 |mk:∀p ys,xs=[.ref p]->SqL K H p ys∨SqT K H p ys->Q (.int ys.length) H->rLen K xs H Q
theorem aD:ip X (.builtin "len") (rLen X.K):=by
 intro pins s σ H xs us Q I r h;erw[p,ys,1,hq,q]at h;let%[u,1|rx]:=kW r;cases rx;have hn:=jx;rcases hq with hq | hq
 . let%[its,r',pl|hz]:=I.list hq;have hlen:=r'.length;exact Calls.call_len_list pl.isList (by simp only[zR0] <;> omega) %[.int ys.length,H,I.tok _,%[s.toks+1|by rw[zR0,hlen]]|q]
 . let%[its,r',pl|hz]:=I.tuple hq;have hlen:=r'.length;exact len_tuple pl (by simp only[zR0] <;> omega) %[.int ys.length,H,I.tok _,%[s.toks+1|by rw[zR0,hlen]]|q]
theorem cO:ip X (.builtin "len") (λxs H Q=>∃z,xs=[.str z]/\z.length<=sizeLine/\Q (.int z.length) H):=by
 intro pins s σ H xs us Q I r h;erw[z,1,hz,q]at h;let%[u,1,t|1]:=kW r;have hn:=jx;exact len_str #[0] %[.int z.length,H,I.tok _,%[|0]|q]
inductive rListOf(K:W.Frag)(xs:List V)(H:Hp)(Q:VK):Prop
 |mk:∀p ys,xs=[.ref p]->SqL K H p ys∨SqT K H p ys->(∀l,H l=none->Q (.ref l) (upd H l (.lst ys)))->rListOf K xs H Q
theorem mZ:ip X (.type "list") (rListOf X.K):=by
 intro pins s σ H xs us Q I r h;erw[p,ys,1,hq,q]at h;let%[u,1|rx]:=kW r;cases rx;have fin:∀(its:List Value),Vals ys its->ys.length<=sizeLine->∀(h':Heap)(c':Nat),(∀b o',s.heap.get? b=some o'->h'.get? b=some o') ->
  h'.get? s.heap.objs.size=some { cls:=.type "list",dict:=none,data:=.seq its.toArray c',slots:=#[] }->EP X pins σ Q (.ref s.heap.objs.size) { s with heap:=h' }:=λits r' hz h' c' kp e=>
  %[.ref s.heap.objs.size,_,I.laid (t':=s.toks) kp (zH0 _) (show ObjOk X.prog X.w _ h' _ (.lst ys)from%[hz,its,c',r'|e]),1|q _ (I.hok.fresh (zH0 _))]
 rcases hq with hq | hq
 . let%[its,r',pl|hz]:=I.list hq;have hlen:=r'.length;erw[o,ho,hc,n,hd]at pl.isList;exact call_list_seq p (.inl rfl) ho hc hd (λh' c' kp e=>fin its r' hz h' c' kp e) (by simp only[zR0] <;> omega)
 . let%[its,r',pl|hz]:=I.tuple hq;have hlen:=r'.length;erw[o,ho,hc,n,hd]at pl;exact call_list_seq p (.inr rfl) ho hc hd (λh' c' kp e=>fin its r' hz h' c' kp e) (by simp only[zR0] <;> omega)
inductive rTupOf(K:W.Frag)(xs:List V)(H:Hp)(Q:VK):Prop
 |mk:∀p ys,xs=[.ref p]->(SqL K H p ys/\∀l,H l=none->Q (.ref l) (upd H l (.tup ys)))∨(SqT K H p ys/\Q (.ref p) H)->rTupOf K xs H Q
theorem ba:ip X (.type "tuple") (rTupOf X.K):=by
 intro pins s σ H xs us Q I r h;erw[p,ys,1,h]at h;let%[u,1|rx]:=kW r;cases rx;rcases h with⟨hq,q⟩ | ⟨hq,q⟩
 . let%[its,r',pl|hz]:=I.list hq;have hlen:=r'.length;refine call_tuple_list pl.isList (λh' kp=>?_) (by simp only[zR0] <;> omega);have I1:Inv X pins σ H { s with heap:=h' }:=I.kept (t':=s.toks) kp;have I2:Inv X pins σ (upd H h'.objs.size (.tup ys)) { s with heap:=h'.push { cls:=.type "tuple",data:=.seq its.toArray } }:=
    I1.laid (t':=s.toks) (λb o e=>zS0 _ e) (zH0 _) (show ObjOk X.prog X.w _ _ _ (.tup ys)from%[hz,its,r',IsTup.new _ _,_,qA0 _ rfl|1])
   erw[.ref h'.objs.size,_,I2,1,q _ (I1.hok.fresh (zH0 _))]
 . let%[its,r',pl|hz]:=I.tuple hq;exact call_tuple_same pl %[.ref p,H,I,1|q]
def tyV(K:W.Frag)(T:String)(x:V)(H:Hp):Prop:=match x with
 | .str _=>T="str"
 | .int _=>T="int"
 | .ref p=>(T="list"/\∃xs,SqL K H p xs)∨(T="tuple"/\∃o,K.lookup p=some o/\o.cls=.type "tuple"/\o.dict=none)∨
  (T="dict"/\((∃kvs,H p=some (.dK kvs))∨∃kvs,H p=some (.dT kvs)))∨(T="set"/\∃S n,H p=some (.set S n))
 | _=>False
theorem Bc{σ:St}(I:Inv X pins σ H s)(r:RelV x v)(ty:tyV X.K T x H) :
 s.TypeIs v T/\∀a,v=.ref a->∃ob,s.heap.get? a=some ob/\ob.dict=none:=by
 cases x with
 | str z=>
   erw[t,1]at r;cases(show T="str" from ty);erw[typeIs_str s z t,λ_ e=>nomatch e]
 | int i=>
   erw[t,1]at r;cases(show T="int" from ty);erw[typeIs_int s i t,λ_ e=>nomatch e]
 | ref p=>
   cases r;rcases ty with⟨rfl,xs,hq⟩ | ⟨rfl,o,hk,hc,hd⟩ | ⟨rfl,hk⟩ | ⟨rfl,S,n,hk⟩
   . let%[its,_,pl|_]:=I.list hq;erw[pl.isList.typeIs,λa e=>?_];cases e;erw[o,n,e,c,hd,_]at pl;erw[o,e,hd]
   . erw[%[o,I.kIn p o hk|hc],λa e=>?_];cases e;erw[o,I.kIn _ o hk,hd]
   . have z:∃o,s.heap.get? p=some o/\o.ExactDict:=by
      rcases hk with⟨kvs,hk⟩ | ⟨kvs,hk⟩
      . let%[_,_,_,_,o,_,_,e,ex|_]:=I.hok p _ hk;erw[o,e,ex]
      . let%[_,_,_,_,o,_,_,e,ex|_]:=I.hok p _ hk;erw[o,e,ex]
     erw[o,e,ex]at z;erw[%[o,e|ex.1],λa e2=>?_];cases e2;erw[o,e,ex.2.1]
   . let%[o,_,_,_,e,ex|_]:=I.hok p _ hk;erw[%[o,e|ex.1],λa e2=>?_];cases e2;erw[o,e,ex.2.1]
 | _=>exact False.elim ty
inductive ZtBM0(K:W.Frag)(T:String)(r:V->List V->Hp->VK->Prop)(Q:VK)(x:V)(H1:Hp):Prop
 |mk:tyV K T x H1->r x [] H1 Q->ZtBM0 K T r Q x H1
def tBM0(K:W.Frag)(T:String)(r:V->List V->Hp->VK->Prop)(to:TE):TE:=λσ H Q=>to σ H λx H1=>ZtBM0 K T r Q x H1
inductive ZtBM(K:W.Frag)(T:String)(r:V->List V->Hp->VK->Prop)(t:TA)(σ:St)(Q:VK)(x:V)(H1:Hp):Prop
 |mk:tyV K T x H1->(t σ H1 λxs H2=>r x xs H2 Q)->ZtBM K T r t σ Q x H1
def tBM(K:W.Frag)(T:String)(r:V->List V->Hp->VK->Prop)(to:TE)(t:TA):TE:=λσ H Q=>to σ H λx H1=>ZtBM K T r t σ Q x H1
variable {o e:Expr} {es:List Expr} {to:TE} {t:TA} {name:Str} {apos cpos:Pos} {T id:String} {r:V->List V->Hp->VK->Prop}
theorem GK (pa:PlainAttrs T) (slot:Slot T name id) (hty:typeOf (.builtin id)=pure (.type "method_descriptor")) (hm:MtR X id r) (ho:PE X o to)
 (hbase:attributeBase o name X.env (eval o X.env)=eval o X.env:=by rfl) (hline:(apos.endLine==cpos.line)=true:=by rfl):PE X (.Call (.Attribute o name apos) [] [] cpos) (tBM0 X.K T r to):=by
 intro pins s σ H Q I h;refine wpAny_Call_method0_late hbase hline (thn (ho pins s σ H _ I h) λv s1 ⟨x,H1,I1,r1,ty,q1⟩=>?_);let%[h1|h2]:=Bc I1 r1 ty;erw[T,id,pa,slot,hty,h1,h2,Calls.callWith_builtin rfl (PySem.evalArgs_none (hm pins s1 σ H1 x [] v [] Q I1 r1 .nil q1))]
theorem eA (pa:PlainAttrs T) (slot:Slot T name id) (hty:typeOf (.builtin id)=pure (.type "method_descriptor")) (hm:MtR X id r) (ho:PE X o to) (ha:PA X (e::es) t)
 (hbase:attributeBase o name X.env (eval o X.env)=eval o X.env:=by rfl)
 (hfew:((backTo cpos (starEach (e::es) X.env)).all (λx=>!x.1)&&(backToKw cpos (keywordEach [] X.env)).all (λx=>x.1.isSome)
  &&decide ((e::es).length+([]:List Keyword).length+(if([]:List Keyword).isEmpty then 0 else 1)<30))=true:=by rfl)
 (hline:(apos.endLine==cpos.line)=true:=by rfl) (hs:starEach (e::es) X.env=(false,eval e X.env)::starEach es X.env:=by rfl) (hplain:(backTo cpos (starEach es X.env)).any (·.1)=false:=by rfl) :
 PE X (.Call (.Attribute o name apos) (e::es) [] cpos) (tBM X.K T r to t):=by
 intro pins s σ H Q I h;refine wpAny_Call_method_late hbase hfew hline rfl (thn (ho pins s σ H _ I h) λv s1 ⟨x,H1,I1,r1,ty,q1⟩=>?_);let%[h1|h2]:=Bc I1 r1 ty;erw[T,id,pa,slot,hty,h1,h2,6];have hA:=ha cpos pins s1 σ H1 _ I1 q1;rw[hs]at hA ⊢;refine Calls.callWith_builtin (by show(false||(backTo cpos (starEach es X.env)).any (·.1))=false;rw[hplain] <;> rfl) (Calls.evalArgs_plain ?_);exact thn hA λus s2 ⟨vs,H2,I2,r2,q2⟩=>hm pins s2 σ H2 x vs v us Q I2 r1 r2 q2
/- xs.append(e),list.index on a module's tuple .. are MtR facts of 06m -/
end
def MtM(X:Cx)(id:String)(r:V->List V->Hp->VK->Prop):Prop:=
 ∀(pins:List (Addr×Obj))(s:Shared)(σ:St)(H:Hp)(x:V)(xs:List V)(v:Value)(us:List Value)(Q:VK),Inv X pins σ H s->RelV x v->Vals xs us->r x xs H Q ->
  wpAny (model X.prog X.w) X.A (call (.builtin id) (v::us)) (EP X pins σ Q) X.xe s
theorem Vals.one:∀{x:V}{us:List Value},Vals [x] us->∃u,us=[u]/\RelV x u
 | _,_,.cons r .nil=>%[0|r]
theorem Vals.zero:∀{us:List Value},Vals [] us->us=[]
 | _,.nil=>rfl
theorem Vals.rep(h:Vals xs us):∀k:Nat,Vals (List.replicate k xs).flatten (List.replicate k us).flatten
 | 0=>.nil
 | k+1=>by
   rw[List.replicate_succ,List.replicate_succ,List.flatten_cons,List.flatten_cons];exact Vals.append h (Vals.rep h k)
theorem kO(its:List Value):∀(k:Nat)(acc:List Value),
 List.foldl (λx1 x2=>x1++x2) acc.toArray (List.replicate k its.toArray)=(acc++(List.replicate k its).flatten).toArray
 | 0,acc=>by simp
 | k+1,acc=>by
   have e:acc.toArray++its.toArray=(acc++its).toArray:=by simp
   have e2:(acc++its)++(List.replicate k its).flatten=acc++(List.replicate (k+1) its).flatten:=by
    rw[List.replicate_succ,List.flatten_cons,List.append_assoc]
   rw[←e2,←kO its k (acc++its),←e,List.replicate_succ,List.foldl_cons]
section
variable {X:Cx} {pins:List (Addr×Obj)} {σ:St} {H:Hp} {s:Shared} {l b:Addr} {xs ys zs:List V}
theorem Inv.lset{its its':List Value}{n:Nat}{f:Array Value->Array Value}{t':Nat}(I:Inv X pins σ H s)(hH:H l=some (.lst xs))
 (e:s.heap.get? l=some { cls:=.type "list",data:=.seq its.toArray n }) (hf:f its.toArray=its'.toArray) (hv:Vals ys its') (hz:ys.length<=sizeLine) :
 Inv X pins σ (upd H l (.lst ys)) { s with heap:=s.heap.update l (Obj.mapSeq f),toks:=t' }:=by
 have q:=PySem.IsL.update e f;rw[hf]at q;refine I.write (x:=l) (e:=l) (by rw[hH];exact trivial) (.inl rfl) (λb' u hb hu=>(Heap.get?_update_other s.heap (Obj.mapSeq f) (Ne.symm hb)).trans hu) %[_|q] ?_;erw[hz,its',_,hv,q]
theorem Inv.lnew{t':Nat}(I:Inv X pins σ H s)(hv:Vals ys its)(hz:ys.length<=sizeLine) :
 Inv X pins σ (upd H s.heap.objs.size (.lst ys)) { s with heap:=s.heap.push { cls:=.type "list",data:=.seq its.toArray },toks:=t' }:=
 I.laid (λ_ _ q=>zS0 _ q) (zH0 _) %[hz,its,(0),hv|qA0 _ rfl]
theorem Inv.fresh(I:Inv X pins σ H s):H s.heap.objs.size=none:=I.hok.fresh (zH0 _)
theorem Inv.lstM (I:Inv X pins σ H s) (hH:H l=some (.lst xs)):xs.length<=sizeLine/\∃(its:List Value) (n:Nat),Vals xs its/\xs.length=its.length/\s.heap.get? l=some { cls:=.type "list",data:=.seq its.toArray n }:=by
 let%[z,its,n,r|e]:=I.hok l _ hH;erw[z,its,n,r,r.length,e]
theorem vE{n:Nat}(h:n<=sizeLine):Builtin.List.listTooLong n=false:=by
 unfold Builtin.List.listTooLong;exact decide_eq_false #[0]
end
section
variable {X:Cx}
inductive rAppend(x:V)(vs:List V)(H:Hp)(Q:VK):Prop
 |mk:∀l xs y,x=.ref l->vs=[y]->H l=some (.lst xs)->xs.length<sizeLine->Q .non (upd H l (.lst (xs++[y])))->rAppend x vs H Q
theorem bZ:MtM X "list.append" rAppend:=by
 intro pins s σ H x vs v us Q I rx rv h;erw[l,xs,y,1,1,hH,hz,q]at h;cases rx;erw[u,1,ru]at rv.one;let%[z,its,n,r,hl|e]:=I.lstM hH;refine call_meets F.slot_list_append %[_,e|1] F.entry_list_append (F.args_list_append_2 _ _) (PySem.list_append l its.toArray n u (by rw[zR0];omega)) ⟨e,?_⟩;erw[.non,_,I.lset (its':=its++[u]) hH e (by simp) (r.append (.cons ru .nil)) ?_,1,q];rw[zJ0,qM0];omega
inductive rExtend(x:V)(vs:List V)(H:Hp)(Q:VK):Prop
 |mk:∀l b xs zs,x=.ref l->vs=[.ref b]->H l=some (.lst xs)->H b=some (.lst zs)->xs.length+zs.length<=sizeLine->Q .non (upd H l (.lst (xs++zs)))->rExtend x vs H Q
theorem Am:MtM X "list.extend" rExtend:=by
 intro pins s σ H x vs v us Q I rx rv h;erw[l,b,xs,zs,1,1,hH,hB,hz,q]at h;cases rx;erw[u,1,ru]at rv.one;cases ru;let%[z,its,n,r,hl|e]:=I.lstM hH;let%[z2,its2,n2,r2,hl2|e2]:=I.lstM hB;have hsz:its.toArray.size+its2.toArray.size<=sizeLine:=by rw[zR0,zR0];omega
 have hlong:¬ (!its.toArray.isEmpty&&Builtin.List.listTooLong (its.toArray.size+its2.toArray.size))=true:=by
  rw[vE hsz,Bool.and_false];exact qD0
 refine call_meets F.slot_list_extend %[_,e|1] F.entry_list_extend (F.args_list_extend_2 _ _)
  (AutoSeq1.list_extend_list_list_0 l its.toArray n b its2.toArray n2 hlong (by rw[zR0];omega) #[0]) %[e,e2|6]
 erw[.non,_,I.lset (its':=its++its2) hH e (by simp) (r.append r2) ?_,1,q];rw[zJ0];omega
inductive rClear(x:V)(vs:List V)(H:Hp)(Q:VK):Prop
 |mk:∀l xs,x=.ref l->vs=[]->H l=some (.lst xs)->Q .non (upd H l (.lst []))->rClear x vs H Q
theorem CZ:MtM X "list.clear" rClear:=by
 intro pins s σ H x vs v us Q I rx rv h;erw[l,xs,1,1,hH,q]at h;cases rx;have hus:=rv.zero;subst hus;let%[z,its,n,r,hl|e]:=I.lstM hH;refine call_meets F.slot_list_clear %[_,e|1] F.entry_list_clear (F.args_list_clear_1 _) (AutoSeq1.list_clear_list_0 l its.toArray n (by rw[zR0];omega)) ⟨e,?_⟩;erw[.non,_,I.lset (its':=[]) (ys:=[]) hH e rfl .nil (zT0 _),1,q]
inductive rCat(x:V)(y:V)(H:Hp)(Q:VK):Prop
 |mk:∀l b xs zs,x=.ref l->y=.ref b->H l=some (.lst xs)->H b=some (.lst zs)->xs.length+zs.length<=sizeLine->(∀p,H p=none->Q (.ref p) (upd H p (.lst (xs++zs))))->rCat x y H Q
theorem kf:OpR X (binaryOp .Add) rCat:=by
 intro pins s σ H x y v u Q I rx ry h;erw[l,b,xs,zs,1,1,hH,hB,hz,q]at h;cases rx;cases ry;let%[z,its,n,r,hl|e]:=I.lstM hH;let%[z2,its2,n2,r2,hl2|e2]:=I.lstM hB;refine PySem.P.add_list e e2 ?_ (by rw[zR0,zR0];omega);have ea:its.toArray++its2.toArray=(its++its2).toArray:=by simp
 rw[ea];erw[.ref _,_,I.lnew (t':=s.toks) (r.append r2) (by rw[zJ0];omega),1,q _ I.fresh]
inductive rRep(x:V)(y:V)(H:Hp)(Q:VK):Prop
 |mk:∀l k xs,x=.ref l->y=.int k->H l=some (.lst xs)->-(2 ^ 63)<=k->k<2 ^ 63->xs.length*k.toNat<=sizeLine->(∀p,H p=none->Q (.ref p) (upd H p (.lst (List.replicate k.toNat xs).flatten)))->rRep x y H Q
theorem yS{α:Type}(xs:List α)(k:Nat):(List.replicate k xs).flatten.length=k*xs.length:=by
 induction k with
 | zero=>simp
 | succ k ih=>rw[List.replicate_succ,List.flatten_cons,zJ0,ih,Nat.succ_mul,Nat.add_comm]
theorem GQ:OpR X (binaryOp .Mult) rRep:=by
 intro pins s σ H x y v u Q I rx ry h;erw[l,k,xs,1,1,hH,h1,h2,hz,q]at h;cases rx;erw[t,1]at ry;let%[z,its,n,r,hl|e]:=I.lstM hH;have hlen:its.toArray.size*k.toNat<=sizeLine:=by rw[zR0,←hl];exact hz
 have hcap:¬ its.toArray.size*k.toNat>(2 ^ 63-1) / 8:=by
  have:(sizeLine:Nat)<=(2 ^ 63-1) / 8:=by decide
  omega
 have hfit:¬ (!Builtin.List.listFitsIndex k)=true:=by
  rw[fitsIndex_both h1 h2];exact qD0
 have hlong:¬ Builtin.List.listTooLong (its.toArray.size*k.toNat)=true:=by
  rw[vE hlen];exact qD0
 have hnew:List.foldl (λx1 x2=>x1++x2) #[] (List.replicate (if its.toArray.isEmpty=true then 0 else k.toNat) its.toArray)=(List.replicate k.toNat its).flatten.toArray:=by
  have f0:∀m:Nat,List.foldl (λx1 x2=>x1++x2) #[] (List.replicate m its.toArray)=(List.replicate m its).flatten.toArray:=λm=>by
   have:=kO its m []
   rw[List.nil_append]at this;exact this
  rw[f0];cases its with
  | nil=>simp
  | cons a r'=>rw[zA0 (by simp)]
 refine wpAny_binaryOp_repeat_ref (T:="list") (U:="int") ⋯ %[_,e|1] (λs'=>typeIs_int s' k t) noFill_list_mul F.fills_int_mul F.slot_int_rmul repeat_list F.slot_int_index.lookup
  (call_meets F.slot_int_rmul (typeIs_int s k t) F.entry_int_rmul (F.args_int_rmul_2 _ _) (int___rmul___int_list k t l its.toArray n)
   %[e,1,%[_,e|1]|call_meets F.slot_list_mul ⟨_,e,rfl⟩ F.entry_list_mul (F.args_list_mul_2 _ _) (AutoListH.list___mul___list_int_3 l its.toArray n k t hfit hcap hlong) ⟨e,?_⟩])
 rw[hnew];erw[.ref _,_,I.lnew (t':=s.toks) (r.rep k.toNat) (by rw[yS,Nat.mul_comm];exact hz),1,q _ I.fresh]
end
end L2
namespace Att
open PySem PySem.W PySem.Calls PyProof.Rows
theorem pE{P:Params}{h:Heap}:∀(ns:List Int)(vs:List Value),WellAll P h vs (ns.map WData.int)->IntsAre vs ns:=by
 intro ns
 induction ns with
 | nil=>
   intro vs w;rw[List.map_nil]at w;cases w;exact .nil
 | cons n ns ih=>
   intro vs w;rw[zZ0]at w;cases w with
   | cons a b=>
     cases a;exact .cons _ _ (ih _ b)
theorem zB{l:OpenLaw}{n:Nat}(hn:l.most=some n){P:Params}{h:Heap}{args:List WData}{vals:List Value}
 (hpre:l.row.toRowW.claim.pre args=true) (hwl:WellAll P h vals args) :
 ∃a vs ns,vals=[Value.ref a]/\args=[WData.list (ns.map WData.int)]/\h.get? a=some { cls:=.type "list",data:=.seq vs.toArray }/\IntsAre vs ns/\ns.length<=n:=by
 have hsh:WShape.hasAll [] args [.list .int]=true:=(pre_splitW hpre).1;have hc:l.pre.holds [] { args:=args }=true:=(pre_splitW hpre).2;let%[d,r,1,h1|h2]:=hasAllW_cons hsh;obtain rfl:=hasAllW_nil h2;let%[xs,1|h3]:=hasW_list h1;let%[ns|1]:=items_int h3;have hlen:ns.length<=n:=by
  unfold OpenLaw.pre at hc;have h4:(WTm.not (.lt (.lit (.int (n:Int))) (.len (.arg 0)))).holds [] { args:=[.list (ns.map .int)] }=true:=by
   have h4:=(holds_andW hc).1;rw[hn]at h4;exact h4
  have h5:=condW_of h4 (w_not (w_lt w_lit (w_len_list (w_arg rfl))));rw[zE0]at h5;refine Nat.le_of_not_lt λq=>?_
  have q':(n:Int)<((ns.length:Nat):Int):=by omega
  first
   | (rw[decide_eq_true q']at h5;exact absurd h5 ⋯)
   | (simp at h5;omega)
 cases hwl with
 | cons w1 w2=>
   cases w2;cases w1 with
   | list ho hall=>erw[_,_,ns,1,1,ho,pE ns _ hall,hlen]
theorem zQ(l:OpenLaw)(args:List WData):l.row.toRowW.claim.post args (.bool true) args=true:=
 postW_of (r:=l.row.toRowW) (X:=(true==true))
  (show WShape.has [] (.bool true) .bool=true by first | rfl | decide | simp [WShape.has,WShape.arms,WShape.armsAll])
  (show(WTm.eq .res (.lit (.bool true))).value [] { args:=args,res:=some (.bool true),after:=args }=some (.bool (true==true))from w_eq_bool (w_res rfl) w_lit) rfl
theorem attach_call{l:OpenLaw}{n:Nat}{q:Program}{loose:List Str}{XP:(Str->Option Value)->Heap->Prop}{YP:World->Heap->Prop}{d:DefRec}
 (hn:l.most=some n) (hdf:d.params.defaults=[])
 (call:∀(w:World)(s₀ s₁:Shared)(mg mb:Str->Option Value)(fa:Addr)(o:Obj)(pm cd doc:Value)(a:Addr)(vs:List Value)(ns:List Int),
  Ground q loose [] XP w s₀ mg mb s₁.heap->YP w s₁.heap ->
  s₁.heap.get? fa=some o->o.data=.func (docDef d.name d.params d.body d.scope pm cd doc)->s₁.heap.CodeRec cd d.name->mg d.name=some (.ref fa) ->
  s₁.heap.get? a=some { cls:=.type "list",data:=.seq vs.toArray }->IntsAre vs ns->ns.length<=n->s₁.gens=#[] ->
  codeAny (model l.prog w) callerA (.call (.ref fa) %[[.ref a]|[]]) (λr s'=>r=.ok (.ret (.bool true))/\OldK s₁.heap s'.heap/\s'.os=s₁.os/\AllBare s'.gens) s₁) :
 WalkO q loose XP YP l.row.toRowW d [] (λf vs=>PySem.call f vs):=by
 intro w s₀ s₁ mg mb G Y fa o pm cd doc dV kV ho hd hcd hD hmg hg args vals as hpre hlay hrd hwl hlo;obtain rfl:dV=.none:=Dflts.none hD hdf;obtain rfl:kV=.none:=Dflts.noKw hD;let%[a,vs,ns,1,1,hobj,hints|hlen]:=zB hn hpre hwl;refine enter_call (codeAny_mono (call w s₀ s₁ mg mb fa o pm cd doc a vs ns G Y ho (fd_plain hd) hcd hmg hobj hints hlen hg) λr s' hq=>?_);erw[1,h2,h3,h4]at hq;erw[.inl %[.bool true,.bool true,[],1,λ_=>rfl,.bool true,zQ l _|λ_=>%[List.Pairwise.nil|λ_ hm=>(nomatch hm)]],h2,h3,h4]
end Att
namespace L2
open PySem PySem.Spec PyProof.Rows
theorem sq:∀{vs:List Value}{ns:List Int},IntsAre vs ns->Vals (ns.map V.int) vs
 | _,_,.nil=>.nil
 | _,_,.cons n t h=>.cons %[t|1] (sq h)
def HQ(H:Hp):Prop:=∀b,H b=none∨∃o xs,H b=some (.frz o (.lst xs))
theorem Dh{K:W.Frag}{mg mb:Str->Option Value}{a:Addr}{x:Str}{s₁:Shared}{vs:List Value}{ns:List Int}
 (KX:K.In s₁.heap) (hns:s₁.heap.Ns mainGlobals mg) (hb:s₁.heap.Ns builtinsNs mb) (hbb:∀x:Str,x≠"__name__" -> mb x=bootBuiltins x) (hlim:s₁.heap.NoLimit) (hg:s₁.gens=#[])
 (ha:s₁.heap.get? a=some { cls:=.type "list",data:=.seq vs.toArray }) (hi:IntsAre vs ns) (hl:ns.length<=sizeLine) (hr:Room k callerA)
 (F:∀base:Heap,K.In base->base.Ns mainGlobals mg->FnOk P w K mg base CX k fa fd [x] sp) (hbind:∀(s:Shared)(u:Value),BindsTo s fd %[[u]|[]] [(x,u)])
 (hsp:∀H:Hp,HQ H->SqL K H a (ns.map V.int)->sp [.ref a] H (λv _=>v=.bl true) λ_ _ _=>False)
 (hCX:∀H e s',CX [] H s₁ (λ_ _ _=>False) e s'->False) :
 codeAny (model P w) callerA (.call (.ref fa) %[[.ref a]|[]]) (λr s'=>r=.ok (.ret (.bool true))/\OldK s₁.heap s'.heap/\s'.os=s₁.os/\AllBare s'.gens) s₁:=by
 have rv:=sq hi;have lenV:=hi.length;have core:∀H:Hp,HQ H->SqL K H a (ns.map V.int)->HOk P w H s₁.heap->(∀b,H b≠none->b=a)->(H a≠none->K.lookup a=none) ->
  codeAny (model P w) callerA (.call (.ref fa) %[[.ref a]|[]]) (λr s'=>r=.ok (.ret (.bool true))/\OldK s₁.heap s'.heap/\s'.os=s₁.os/\AllBare s'.gens) s₁:=by
  intro H hO hS hok hA hK;have base_of:∀{b:Addr}{o:Obj},s₁.heap.get? b=some o->H b=none->(uG s₁.heap H).get? b=some o:=λe n=>Dr e n
  have noA:∀{b:Addr}{o:Obj}{es:Array DictEntry}{ep:Nat},s₁.heap.get? b=some o->o.data=.dict es ep->H b=none:=fun{b o es ep} e d=>by
   cases q:H b with
   | none=>rfl
   | some u=>
     have e':b=a:=hA b (by rw[q];simp);subst e';rw[ha]at e;cases e;have d':Data.seq vs.toArray _=Data.dict es ep:=d;cases d'
  have nsK:∀{b:Addr}{m:Str->Option Value},s₁.heap.Ns b m->(uG s₁.heap H).Ns b m:=fun{b m} ⟨o,es,ep,e,d,r⟩=>%[o,es,ep,base_of e (noA e d),d|r]
  have hKb:K.In (uG s₁.heap H):=λb o e=>base_of (KX b o e) (by
   cases q:H b with
   | none=>rfl
   | some u=>
     have e':b=a:=hA b (by rw[q];simp);subst e';rw[hK (by rw[q];simp)]at e;cases e)
  have hM:Mod K mg (uG s₁.heap H):=%[hKb,nsK hns,%[mb,nsK hb|hbb]|let⟨mc,h1,h2⟩:=hlim;⟨mc,nsK h1,h2⟩]
  have e0:Env0 P w K mg (uG s₁.heap H) callerA [] s₁ H:=%[1,hM,λb o e=>ET e,Nat.le_of_eq (AA _ _),trivial,λb hb=>absurd (show b∈([]:List Addr)from hb) (by simp),hok|.of_eq hg]
  refine codeAny_mono ((F _ hKb (nsK hns)).run callerA [] s₁ H %[[.ref a]|[]] [.ref a] [.ref a] _ _ hr e0 (hbind s₁ (.ref a)) (.cons rfl .nil) (hsp H hO hS)) λr s' h=>?_
  cases r with
  | error e=>exact(hCX H e s' h).elim
  | ok fl=>
    cases fl with
    | next=>exact False.elim h
    | brk=>exact False.elim h
    | cont=>exact False.elim h
    | ret u=>
      erw[v,H',os,bare,un,hok',r',q]at h;have q':v=.bl true:=q;subst q';obtain rfl:u=Value.bool true:=r';erw[1,OldK.of_keep λb o e=>?_,os,bare];cases q:H b with
      | none=>exact un.keep b o e q (by intro z;exact absurd (show b∈([]:List Addr)from z) (by simp)) (by simp)
      | some u=>
        rcases hO b with z | ⟨ob,xs,z⟩
        . rw[q]at z;cases z
        . have z2:=un.frzs b ob _ z;let%[e1|_]:=hok b _ z;let%[e2|_]:=hok' b _ z2;rw[e]at e1;cases e1;exact e2
 cases hk:K.lookup a with
 | some o=>
   have e:=KX a o hk;rw[ha]at e;cases e;refine core (λ_=>none) (λ_=>.inl rfl) (.inr %[_,vs.toArray,_,hk,1,1,1,by rw[zR0,lenV];exact hl|by simpa using rv]) (λb u z=>by have z':(none:Option HO)=some u:=z;cases z') (λb z=>absurd rfl z) λz=>absurd rfl z
 | none=>
   refine core (λb=>if b=a then some (.frz { cls:=.type "list",data:=.seq vs.toArray } (.lst (ns.map V.int)))else none) (λb=>?_) (.inl (.inr %[{ cls:=.type "list",data:=.seq vs.toArray }|zD0 rfl])) (λb u z=>?_) (λb z=>?_) λ_=>hk
   . by_cases hb:b=a
     . exact .inr %[_,_|zD0 hb]
     . exact .inl (zA0 hb)
   . by_cases hb:b=a
     . have z':=(zD0 hb).symm.trans z;cases z';subst hb;erw[ha,by rw[zE0];exact hl,vs,_,rv,ha]
     . have z':=(zA0 hb).symm.trans z;cases z'
   . by_cases hb:b=a
     . exact hb
     . exact absurd (zA0 hb) z
theorem walk_of{l:PySem.W.OpenLaw}{n:Nat}{q:Program}{loose:List Str}{XP:(Str->Option Value)->Heap->Prop}{YP:World->Heap->Prop}{d:DefRec}{K:Params->PySem.W.Frag}{CX:World->CXT}{sp:World->Sp}{x:Str}
 (hn:l.most=some n) (hn2:n<=sizeLine) (hdf:d.params.defaults=[]) (hr:Room k callerA)
 (hY:∀(w:World)(h:Heap),YP w h->(K w.params).In h)
 (F:∀(w:World)(mg:Str->Option Value)(fa:Addr)(h:Heap),(K w.params).In h->h.Ns mainGlobals mg->mg d.name=some (.ref fa) ->
  ∃ fd:FuncData,(∀(s:Shared)(u:Value),BindsTo s fd %[[u]|[]] [(x,u)])/\
   ∀base:Heap,(K w.params).In base->base.Ns mainGlobals mg->FnOk l.prog w (K w.params) mg base (CX w) k fa fd [x] (sp w))
 (hsp:∀(w:World)(H:Hp)(a:Addr)(ns:List Int),ns.length<=n->HQ H->SqL (K w.params) H a (ns.map V.int)->sp w [.ref a] H (λv _=>v=.bl true) λ_ _ _=>False)
 (hCX:∀(w:World)(H:Hp)(s:Shared)(e:Value)(s':Shared),CX w [] H s (λ_ _ _=>False) e s'->False) :
 PySem.W.WalkO q loose XP YP l.row.toRowW d [] (λf vs=>PySem.call f vs):=by
 refine Att.attach_call hn hdf λw s₀ s₁ mg mb fa o pm cd doc a vs ns G Y ho hd hcd hmg hobj hints hlen hg=>?_
 have KX:=hY w _ Y;let%[fd,hb|hF]:=F w mg fa _ KX G.T.g hmg;exact Dh KX G.T.g G.T.b G.T.builtins G.T.nolimit hg hobj hints (zP0 hlen hn2) hr hF hb (λH hO hS=>hsp w H a ns hlen hO hS) λH e s'=>hCX w H s₁ e s'
end L2
/- THE LAST THEOREM (shape;LID,My.* are yours):
 My.Adr: a structure of the addresses that your layer names (classes,functions);My.Txt K t: a structure (Prop) of the equations over K;
 My.txt_mk:{K} {implicit addresses ..} (e1:nsIn K mainGlobals "law"=some (some (.ref f))) (e2:K.lookup f=some %[oc,od,.func (fnOf "law" "law" params body scope dV kV doc pm an cdv ct)|sl]) (e3:codeIn K cdv "law"=true) ..:∃t,My.Txt K t
set_option maxRecDepth 100000 in
set_option maxHeartbeats 0 in
theorem PySem.Challenge.cw_LID_holds : PySem.Challenge.rw_LID.Holds:=by
 w_on;o_law;k_head;(case hw=>w_witness2)
 k_fill
 refine L2.walk_of (l:=PySem.Challenge.rw_LID) (n:=63) (k:=40) (x:="script") (CX:=λw=>..) (sp:=λ_=>My.sp_law) rfl ⋯ rfl %[1,4|4] (λw h Y=>PySem.W.kIn_of Y) ?F ?S ?C
 case F=>
  intro w mg fa h KX G hmg;have T:∃t,My.Txt (L2.KOf KX) t:=by
   dsimp only [L2.KOf]                          -- K must stand as «<heap const> w.params» for k_is
   refine' My.txt_mk ?e1 ?e2 ?e3 ..
   (case e1=>PySem.W.k_is)                    -- in the order: a name -> its address -> its object -> its parts
   (case e2=>PySem.W.k_is)
   ..
  erw[t,T]at T;have e0:=hmg.symm.trans (PySem.W.mg_of KX G T.law);cases e0                                       -- fa is the law's own address;exact%[_,λs u=>.of_eq rfl|λbase kb nb=>My.law_fn T kb nb]     -- if «.of_eq rfl» comes too early: refine' %[_,?b|λbase kb nb=>My.law_fn T kb nb];exact λs u=>.of_eq rfl
 case S=>exact λw H a ns hl hO hS=>..
 case C=>exact ..
(the tactic k_is has no namespace: write k_is) -/
namespace L2
open PySem PySem.Spec PyProof.Rows
def bp(s:Stmt)(j:Nat):Stmt:=match s with
 | .ClassDef _ _ _ body _ _ _ _ _ _ _=>body.getD j (.Pass %[(0),(0),(0)|(0)])
 | _=>.Pass %[(0),(0),(0)|(0)]
def jA(s:Stmt):Arguments:=match s with
 | .FunctionDef _ a _ _ _ _ _ _ _ _=>a
 | _=>{ posonlyargs:=[],args:=[],vararg:=none,kwonlyargs:=[],kw_defaults:=[],kwarg:=none,defaults:=[] }
def gh(s:Stmt):List Stmt:=match s with
 | .FunctionDef _ _ b _ _ _ _ _ _ _=>b
 | _=>[]
def ai(s:Stmt):Scope:=match s with
 | .FunctionDef _ _ _ _ _ _ sc _ _ _=>sc
 | _=>{ kind:=.function,names:=[],isGenerator:=false,isCoroutine:=false }
abbrev CX0:CXT:=λ_ _ _ _ _ _=>False
abbrev E0:XK:=λ_ _ _=>False
theorem aY:kq CX0 X E0:=λ_ _ _ _ _ _ _ h=>h.elim
structure Fun(K:W.Frag)(x qual:Str)(st:Stmt)(f:Addr)(fd:FuncData):Prop where
 ex:∃(oc:Value)(od:Option Addr)(kV doc pm:Value)(an:Option Addr)(cdv ct:Value)(osl:Array (Option Value)),
  fd=PySem.W.fnOf x qual (jA st) (gh st) (ai st) .none kV doc pm an cdv ct/\K.lookup f=some %[oc,od,.func fd|osl]/\PySem.W.codeIn K cdv qual=true
 kp:PySem.W.keepIn K (.ref f)=true
section
variable {P:Program} {w:World} {K:W.Frag} {mg:Str->Option Value} {base:Heap}
theorem Fun.ok{st:Stmt}{sp:Sp}(F:Fun K x qual st f fd)(S:FnScope N ps (ai st))(len:∀vs H Q E,sp vs H Q E->vs.length=ps.length)
 (hbody:∀(cdv:Value)(A:Around)(outer:List Env)(s:Shared)(H:Hp)(vs:List V)(Q:VK)(E:XK),Room k (A.deeper (envOfC qual (ai st) s.heap.objs.size f cdv))->sp vs H Q E ->
  ∃t,PSs (AN CX0 P w K mg base N qual (ai st) f cdv A outer s H E).nox (gh st) t/\t { nx:=λ_ H'=>Q .non H',rt:=Q } (oG N vs) H):FnOk P w K mg base CX0 (k+1) f fd ps sp:=by
 erw[oc,od,kV,doc,pm,an,cdv,ct,osl,1,lk,hcd]at F.ex;refine fn_of lk hcd S len λA outer s H vs Q E hr hsp=>?_
 let%[t,h|q]:=hbody cdv A outer s H vs Q E hr hsp;erw[t,h.nox,q]
theorem Fun.binds{st:Stmt}{ps:List Str}(F:Fun K x qual st f fd)
 (h:∀(kV doc pm:Value)(an:Option Addr)(cdv ct:Value)(us:List Value),us.length=ps.length->bindArgs (PySem.W.fnOf x qual (jA st) (gh st) (ai st) .none kV doc pm an cdv ct) %[us|[]]=pure (ps.zip us)):Binds K fd ps []:=by
 erw[oc,od,kV,doc,pm,an,cdv,ct,osl,1,lk,hcd]at F.ex;exact .all (h kV doc pm an cdv ct)
theorem Hq{x qual:Str}{st:Stmt}{f:Addr}{oc:Value}{od an:Option Addr}{osl:Array (Option Value)}{kV doc pm cdv ct:Value}(l:K.lookup f=some %[oc,od,.func (PySem.W.fnOf x qual (jA st) (gh st) (ai st) .none kV doc pm an cdv ct)|osl])
 (c:PySem.W.codeIn K cdv qual=true) (k:PySem.W.keepIn K (.ref f)=true):Fun K x qual st f (PySem.W.fnOf x qual (jA st) (gh st) (ai st) .none kV doc pm an cdv ct):=%[%[oc,od,kV,doc,pm,an,cdv,ct,osl,1,l|c]|k]
end
theorem FT(hr:Room k A):A.units+1<cLine:=Nat.lt_of_le_of_lt (Nat.add_le_add_left (by decide:1<=64) _) hr.units
theorem aM{n:Nat}(h:n<=1000):n<sizeLine:=Nat.lt_of_le_of_lt h ⋯
section
variable {X:Cx}
theorem pv (i:Nat) {x:Str} {pos:Pos} (hN:X.N[i]?=some x:=by rfl) (hv:Vis X.env.scope x:=by first | exact Or.inl rfl | exact Or.inr (.inl rfl) | exact Or.inr (Or.inr rfl)) (hd:(x==("__debug__":Str))=false:=by decide)
 (hcd:(x==("__classdict__":Str))=false:=by decide):PE X (.Name x pos) (tVar i):=GJ hN hv hd hcd
end
theorem cW{A B:Prop}(h:B):if false=true then A else B:=by
 rw[zA0 qD0];exact h
theorem ei{A B:Prop}(h:A):if true=true then A else B:=by
 rw[zD0 rfl];exact h
theorem rf{c A B:Prop}[Decidable c](h1:c->A)(h2:¬ c->B):if c then A else B:=by
 by_cases h:c
 . rw[zD0 h];exact h1 h
 . rw[zA0 h];exact h2 h
theorem vR{c A B:Prop}[Decidable c](hc:c)(h:B):if(!decide c)=true then A else B:=by
 rw[decide_eq_true hc];exact cW h
def Same(H H':Hp):Prop:=∀b o,H b=some o->H' b=some o
theorem Same.refl(H:Hp):Same H H:=λ_ _ h=>h
theorem Same.trans(a:Same H H1)(b:Same H1 H2):Same H H2:=λc o h=>b c o (a c o h)
theorem Same.free(e:Same H H'){l:Addr}(h:H' l=Option.none):H l=Option.none:=by
 cases q:H l with
 | none=>rfl
 | some o=>
   rw[e l o q]at h;cases h
theorem Same.seq{K:W.Frag}(e:Same H H')(h:SqL K H a xs):SqL K H' a xs:=by
 rcases h with(h | ⟨o,h⟩) | h
 . exact .inl (.inl (e _ _ h))
 . exact .inl (.inr %[o|e _ _ h])
 . exact .inr h
end L2
set_option maxHeartbeats 4000000
namespace L2
open PySem PySem.Spec PyProof.Rows
section
variable {X:Cx}
inductive rIsi(K:W.Frag)(xs:List V)(H:Hp)(Q:VK):Prop
 |mk:∀x t n b,xs=[x,.ty n]->TyOf K H x t->PySem.W.kitOne K t (.type n)=some b->Q (.bl b) H->rIsi K xs H Q
theorem dQ:ip X (.builtin "isinstance") (rIsi X.K):=by
 intro pins s σ H xs us Q I r h;erw[x,t,n,b,1,ty,e,q]at h;let%[u,w',1,r1|r2]:=vals2 r;cases r2;exact Av I r1 ty e (λtk=>%[.bl b,H,I.tok tk,1|q])
theorem mJ(K:W.Frag)(n:String):PySem.W.kitOne K (.type n) (.type n)=some true:=by
 unfold PySem.W.kitOne;rw[zD0 (by simp)]
theorem jy (K:W.Frag):PySem.W.kitOne K (.type "int") (.type "bool")=some false:=by
 show(if((Value.type "int"==Value.type "bool")=true)then some true else if PySem.W.kitMeta "bool"=true then((fastBuiltinMro "int").map (·.contains (.type "bool")))else none)=some false;decide
def CDivL(_ j:Int):Prop:=0<j/\j<2 ^ 63
theorem Cm:OpR X (binaryOp .FloorDiv) (rI CDivL λi j=>.int (i / j)):=opI λi j _ _ _ _ _ hc q=>by
 have e:Int.fdiv i j=i / j:=Int.fdiv_eq_ediv_of_nonneg i (Int.le_of_lt hc.1);rw[←e]at q;refine floordiv_int (by have:=hc.1;omega) q (.inl (PyProof.noPylong_of_log2 ?_));have h1:=hc.1;have h2:=hc.2;have h3:j.natAbs<2 ^ 63:=by omega
 have h4:=(Nat.log2_lt (n:=j.natAbs) (k:=63) #[0]).mpr h3;omega
end
theorem gZ:bootBuiltins "int"=some (.type "int"):=by decide
theorem lJ:bootBuiltins "bool"=some (.type "bool"):=by decide
theorem lI:bootBuiltins "list"=some (.type "list"):=by decide
theorem bd:bootBuiltins "tuple"=some (.type "tuple"):=by decide
theorem rJ:bootBuiltins "reversed"=some (.type "reversed"):=by decide
structure Cal(P:Program)(w:World)(K:W.Frag)(mg:Str->Option Value)(base:Heap)(n:Nat)(x:Str)(ps:List Str)(sp:Sp):Prop where
 ex:∃(f:Addr)(fd:FuncData),FnOk P w K mg base CX0 n f fd ps sp/\Binds K fd ps []/\PySem.W.keepIn K (.ref f)=true/\mg x=some (.ref f)
theorem ag{X:Cx}{e:Expr}{es:List Expr}{p pos:Pos}(C:Cal X.prog X.w X.K X.mg X.base n x ps sp)(hr:Room k X.A)(hk:n<=k)(hg:Gl X x)
 (ha:PA X (e::es) t) (hdb:(x==("__debug__":Str))=false:=by decide) (he:starEach (e::es) X.env=(false,eval e X.env)::starEach es X.env:=by rfl) (hpl:(backTo pos (starEach es X.env)).any (·.1)=false:=by rfl) :
 PE X (.Call (.Name x p) (e::es) [] pos) (yw sp [] E0 t):=by
 erw[f,fd,F,b,kp,m]at C.ex;exact EH F (hr.mono hk) hg m kp b .nil aY ha hdb he hpl
theorem Cal.of{P:Program}{w:World}{K:W.Frag}{mg:Str->Option Value}{base:Heap}{n:Nat}{x qual:Str}{ps:List Str}{sp:Sp}{st:Stmt}{f:Addr}{fd:FuncData}(F:Fun K x qual st f fd)(O:FnOk P w K mg base CX0 n f fd ps sp)(m:mg x=some (.ref f))
 (h:∀(kV doc pm:Value)(an:Option Addr)(cdv ct:Value)(us:List Value),us.length=ps.length->bindArgs (PySem.W.fnOf x qual (jA st) (gh st) (ai st) .none kV doc pm an cdv ct) %[us|[]]=pure (ps.zip us)):Cal P w K mg base n x ps sp:=
 %[f,fd,O,F.binds h,F.kp|m]
theorem iteN{c A B:Prop}[Decidable c](hc:¬ c)(h:A):if(!decide c)=true then A else B:=by
 rw[decide_eq_false hc];exact ei h
theorem aS{c A B:Prop}[Decidable c](hc:c)(h:A):if decide c=true then A else B:=by
 rw[decide_eq_true hc];exact ei h
theorem aB{c A B:Prop}[Decidable c](hc:¬ c)(h:B):if decide c=true then A else B:=by
 rw[decide_eq_false hc];exact cW h
def SameBut(f:Addr)(H H':Hp):Prop:=∀b o,b≠f->H b=some o->H' b=some o
theorem SameBut.trans(a:SameBut f H H1)(b:SameBut f H1 H2):SameBut f H H2:=λc o h e=>b c o h (a c o h e)
theorem SameBut.refl(f:Addr)(H:Hp):SameBut f H H:=λ_ _ _ h=>h
theorem zI0{f:Addr}{H H':Hp}(h:Same H H'):SameBut f H H':=λb o _ e=>h b o e
abbrev SameBut.of:=@zI0
theorem SameBut.upd(o:HO):SameBut f H (upd H f o):=λb u h e=>by rw[bh h];exact e
theorem zB0{H:Hp}{p:Addr}(h:H p=none)(o:HO):Same H (upd H p o):=λb u q=>by rw[bh (aV q h)];exact q
abbrev Same.new:=@zB0
theorem Same.but{f:Addr}(a:Same H0 H)(n:H0 f=none)(b:SameBut f H H'):Same H0 H':=λc o e=>b c o (aV e n) (a c o e)
def FeedAt(H:Hp)(f:Addr):Prop:=∃own st:Int,H f=some (.lst [.int own,.int st])/\0<=own/\0<=st/\st<=2147483646
theorem FeedAt.ne{b:Addr}(F:FeedAt H f)(h:H b=none):b≠f:=by
 erw[o,s,e,_]at F;intro z;subst z;rw[h]at e;cases e
theorem FeedAt.same(F:FeedAt H f)(s:Same H H'):FeedAt H' f:=by
 erw[o,t,e,h]at F;erw[o,t,s _ _ e,h]
inductive spTake(vs:List V)(H:Hp)(Q:VK)(u_3:XK):Prop
 |mk:∀(f:Addr)(m:Int),vs=[.ref f,.int m]->FeedAt H f->0<m->m<2 ^ 63->(∀(d:Int)(H':Hp),0<=d->d<m->FeedAt H' f->SameBut f H H'->Q (.int d) H')->spTake vs H Q u_3
inductive spFeed(K:W.Frag)(vs:List V)(H:Hp)(Q:VK)(u_3:XK):Prop
 |mk:∀(a:Addr)(ns:List Int)(k:Int),vs=[.ref a,.int k]->SqL K H a (ns.map V.int)->ns.length<=63->0<=k->k<1000000->(∀(p:Addr)(H':Hp),H p=none->Same H H'->FeedAt H' p->Q (.ref p) H')->spFeed K vs H Q u_3
inductive spLaw(K:W.Frag)(vs:List V)(H:Hp)(Q:VK)(u_3:XK):Prop
 |mk:∀(a:Addr)(ns:List Int),vs=[.ref a]->SqL K H a (ns.map V.int)->ns.length<=63->(∀H',Q (.bl true) H')->spLaw K vs H Q u_3
theorem ca{n:Nat}(h:n<=1000):n<=sizeLine:=Nat.le_of_lt (aM h)
theorem DS{ns:List Int}{k:Int}(h0:0<=k)(h:k<(ns.length:Int)):∃v:Int,atI (ns.map V.int) k=some (.int v):=by
 have hk:k.toNat<ns.length:=by omega
 have q:atI (ns.map V.int) ((k.toNat:Nat):Int)=some (.int ns[k.toNat]):=cD (by rw[zY0,zQ0 hk] <;> rfl);have ek:((k.toNat:Nat):Int)=k:=by omega
 rw[ek]at q;erw[_,q]
@[reducible] def eV (X:Cx) (N:List Str) (scope:Scope) (cl:List (Str×Addr)) (s:Shared) (H:Hp) (fp:List Addr):Cx where
 prog:=X.prog
 w:=X.w
 K:=X.K
 mg:=X.mg
 base:=X.base
 A:=X.A
 N:=N
 s₀:=s
 H₀:=H
 env:=compEnvC scope cl s.heap.objs.size X.env
 outer:=X.stack
 stack:=X.stack
 ex:=fp
 fn:=λ_=>false
 calm:=X.calm
 pn:=[]
 xe:=λ_ _=>False
structure CompScope(X:Cx)(x:Str)(N:List Str)(ix:List Nat)(scope:Scope)(cl:List (Str×Addr)):Prop where
 clos:closureFor scope X.env=pure cl
 nocell:∀y∈scope.names,y.2≠.cell
 kind:scope.kind=.function
 names:∀y∈scope.names,y.2=.local->scope.names.lookup y.1=some .local
 own:scope.names.lookup x=some .local
 nd:(x::N).Nodup
 sub:∀p∈cl,X.env.cells.lookup p.1=some p.2
 has:((relabel scope X.env).names.all λp=>!(p.2==.cell||p.2==.free)||(cl.lookup p.1).isSome)=true
 outs:∀(j:Nat)(y:Str),N[j]?=some y->(relabel scope X.env).names.lookup y=some .cell/\∃k c,ix[j]?=some k/\X.N[k]?=some y/\cl.lookup y=some c/\X.env.scope.names.lookup y=some .cell
def outs(ix:List Nat)(σ:St):St:=ix.map λk=>(σ[k]?).join
section
variable {X:Cx} {pins:List (Addr×Obj)} {σ:St} {x:Str} {N:List Str} {ix:List Nat} {scope:Scope} {cl:List (Str×Addr)} {fp:List Addr} {H3:Hp} {s3:Shared}
theorem CompScope.cells(S:CompScope X x N ix scope cl){y:Str}{c:Addr}(h:cl.lookup y=some c):X.env.cells.lookup y=some c:=S.sub _ (PySem.mem_of_lookup h)
theorem pS(S:CompScope X x N ix scope cl)(I3:Inv X pins σ H3 s3)(hf:∀b∈fp,iS X pins H3 b)(hlt:∀b∈fp,b<s3.heap.objs.size):(eV X (x::N) scope cl s3 H3 fp).Ok where
 mod:=I3.ok.mod
 kind:=S.kind
 glob:=I3.ok.glob
 blt:=I3.ok.blt
 above:=zH0 _
 inj:=λy z c h1 h2=>I3.ok.inj y z c (S.cells h1) (S.cells h2)
 has:=λy hy=>by
  have q:=List.all_eq_true.mp S.has;have hy:(relabel scope X.env).names.lookup y=some .cell∨(relabel scope X.env).names.lookup y=some .free:=hy;have z:∀k:NameKind,(k==.cell||k==.free)=true->(relabel scope X.env).names.lookup y=some k->∃c,cl.lookup y=some c:=λk hk e=>by
   have r:=q _ (PySem.mem_of_lookup e);rw[hk]at r;exact Option.isSome_iff_exists.mp (by simpa using r)
  rcases hy with e | e
  . exact z _ (by rfl) e
  . exact z _ (by rfl) e
 cab:=λ_ _ h _=>nomatch h
 hd:=I3.ok.hd
 frames:=I3.ok.frames
 stk:=.inl rfl
 exf:=λb hb=>%[zV0 (hlt b hb)|λy c e=>(hf b hb).2.2.2.2.1 y c (S.cells e)]
 bs:=λb o e=>I3.bs b o e
 bsz:=zP0 I3.ok.bsz I3.sz
 noex:=λb o e hb=>by
  rcases(hf b hb).2.2.2.1 with z | z
  . exact I3.ok.noex b o e z
  . exact absurd (qN0 (zO0 e) (zP0 I3.ok.bsz z)) (qT0 _)
 exfs:=λb hb z=>by
  rcases zX0 (I3.stkSub b z)with e | e
  . exact(hf b hb).2.1 e
  . exact(hf b hb).2.2.1 e
 funs:=I3.stack
 frf:=I3.stkFree
theorem yi(S:CompScope X x N ix scope cl)(I3:Inv X pins σ H3 s3)(hf:∀b∈fp,iS X pins H3 b)(hlt:∀b∈fp,b<s3.heap.objs.size)(hix:ix.length=N.length){h1:Heap}{t':Nat}{m:Str->Option Value}
 (hn:h1.Ns s3.heap.objs.size m) (hk:∀b o,s3.heap.get? b=some o->h1.get? b=some o):Inv (eV X (x::N) scope cl s3 H3 fp) [] (none::outs ix σ) H3 { s3 with heap:=h1,toks:=t' } where
 ok:=pS S I3 hf hlt
 os:=rfl
 bare:=I3.bare
 base:=Un.kept hk
 loc:=by
  erw[m,hn,λi y v h1' h2 h3=>?_];cases i with
  | zero=>
    have h2':(some (none:Option V))=some (some v):=h2;cases h2'
  | succ j=>
    have h1'':N[j]?=some y:=h1';have h2':(outs ix σ)[j]?=some (some v):=h2;let%[hr,k,c,e1,e2,e3|e4]:=S.outs j y h1'';unfold outs at h2';rw[zY0,e1]at h2';have h2'':(σ[k]?).join=some v:=zU0 h2';have e5:σ[k]?=some (some v):=by
     cases q:σ[k]? with
     | none=>rw[q]at h2'';cases h2''
     | some o=>rw[q]at h2'';exact congrArg some h2''
    erw[m0,_,hl]at I3.loc;let%[u,r|l]:=hl k y v e2 e5 (.inr (.inl e4));erw[u,r,.inr %[.inl hr,c,e3|6]];rcases l with⟨kk,_⟩ | ⟨_,c',ec,z⟩
    . have kk':X.env.scope.names.lookup y=some .local:=kk;rw[e4]at kk';cases kk'
    . rw[S.cells e3]at ec;cases ec;erw[o,ho,hd]at z;erw[o,hk _ _ ho,hd]
 cell:=λy c e=>by
  let%[v,o,ho|hd]:=I3.cell y c (S.cells e);erw[v,o,hk _ _ ho,hd]
 free:=I3.hok.fresh (zH0 _)
 freeC:=λy c e=>I3.freeC y c (S.cells e)
 pin:=λp hp=>absurd (show p∈([]:List (Addr×Obj))from hp) (by simp)
 hok:=I3.hok.kept hk
 len:=by
  show(none::outs ix σ).length=(x::N).length;rw[zM0,zM0];unfold outs;rw[zE0,hix]
theorem AO(I3:Inv X pins σ H3 s3)(hf:∀b∈fp,iS X pins H3 b){σ':St}{h'':Heap}{N':List Str}(J:Inv (eV X N' scope cl s3 H3 fp) [] σ' H' s')(hb:Heap.SameBut s3.heap.objs.size s'.heap h'') :
 Inv X pins σ H' { s' with heap:=h'' }:=by
 have ne:∀b o,s3.heap.get? b=some o->b≠s3.heap.objs.size:=λb o e=>zV0 (zO0 e)
 have B:Un (frs X.stack) fp H3 H' s3.heap s'.heap:=J.base;refine I3.call' (s':={ s' with heap:=h'' }) (ch:=fp) J.os ⟨λb o e n h1 h2=>(hb.2 b (ne b o e)).trans (B.keep b o e n h1 h2),λb o e n h1 h2=>?_,B.free,λb o e h2=>?_,B.tups,B.frzs,B.tbls⟩ (λb ob e=>?_) J.bare (λb z=>?_)
 . let%[sl|q]:=B.slot b o e n h1 h2;erw[sl,(hb.2 b (ne b o e)).trans q]
 . let%[o'|q]:=B.there b o e h2;erw[o',(hb.2 b (ne b o e)).trans q]
 . have fr:H' s3.heap.objs.size=none:=J.free;refine(J.hok b ob e).stay (λc w' hc q=>(hb.2 c ?_).trans q) (λ_ q=>q) λ_ _ q=>q
   rintro rfl;rcases hc with rfl | hc
   . rw[fr]at e;cases e
   . rw[fr]at hc;cases hc
 . let%[_,h2,_,h4,h5|h6]:=hf b z;erw[h4,h2,h5,h6]
end
abbrev TBl:=St->Hp->(Hp->Prop)->VK->Prop
def PB(X:Cx)(ifs:List Expr)(elt:Expr)(tb:TBl):Prop:=
 ∀(pins:List (Addr×Obj))(s:Shared)(σ:St)(H:Hp)(skip:Hp->Prop)(keep:VK),Inv X pins σ H s->tb σ H skip keep ->
  wpAny (model X.prog X.w) X.A (forIn ifs true λc r=>if r=true then do let ok ←isTrue c X.env (eval c X.env);pure (ForInStep.yield ok)else pure (ForInStep.yield r))
   (λok s3=>if ok=true then wpAny (model X.prog X.w) X.A (eval elt X.env) (EP X pins σ keep) X.xe s3 else ∃H',Inv X pins σ H' s3/\skip H') X.xe s
def tB0(te:TE):TBl:=λσ H _ keep=>te σ H keep
def tB1(tc:TT)(te:TE):TBl:=λσ H skip keep=>tc σ H λb H1=>if b=true then te σ H1 keep else skip H1
theorem cG(he:PE X elt te):PB X [] elt (tB0 te):=by
 intro pins s σ H skip keep I h;refine wpAny_tests_nil ?_;rw[zD0 rfl];exact he pins s σ H keep I h
theorem pb_if(hc:PT X c tc)(he:PE X elt te):PB X [c] elt (tB1 tc te):=by
 intro pins s σ H skip keep I h;refine wpAny_tests_one (thn (hc pins s σ H _ I h) λb s1 ⟨H1,I1,q1⟩=>?_);cases b with
 | true=>
   rw[zD0 rfl]at q1 ⊢;exact he pins s1 σ H1 keep I1 q1
 | false=>
   rw[zA0 ⋯]at q1 ⊢;erw[H1,I1,q1]
def rO(J:It)(D:Addr)(ix:List Nat)(tb:TBl)(σ:St)(H:Hp)(Q:VK):Prop:=∃W:Nat->Nat->Hp->Prop,(∃m,W 0 m (upd H D (.lst [])))/\∀i m H2,W i m H2 ->
 (J.stop i H2/\Q (.ref D) H2)∨(J.go i H2/\∀y H3,J.yld i H2 y H3->tb (some y::outs ix σ) H3 (λH4=>∃m',m'<m/\W (i+1) m' H4)
  λz H4=>∃ys,H4 D=some (.lst ys)/\ys.length<sizeLine/\∃m',m'<m/\W (i+1) m' (upd H4 D (.lst (ys++[z]))))
def wH(wi:TI)(ix:List Nat)(tb:TBl):TE:=λσ H Q=>wi σ H λJ H1=>∀D,H1 D=none->rO J D ix tb σ H1 Q
section
variable {prog:Program} {w:World} {A:Around} {E:Value->Shared->Prop} {R:Result->Shared->Prop} {s:Shared}
theorem pe{elt target iter:Expr}{ifs:List Expr}{scope:Scope}{pos:Pos}{it acc:Value}{env:Env}(I:Nat->Shared->Prop)
 (turn:∀n s,I n s->wpAny (model prog w) A (pyNext it) (λr s1=>match r with
  | none=>R (.ok .next) s1
  | some v=>wpAny (model prog w) A (letOwnedTupleGo target it v) (λ_ s1'=>wpAny (model prog w) A (assign target env v) (λ_ s2=>
   wpAny (model prog w) A (forIn ifs true λc r=>if r=true then do let ok ←isTrue c env (eval c env);pure (ForInStep.yield ok)else pure (ForInStep.yield r)) (λok s3=>
    if ok=true then wpAny (model prog w) A (eval elt env) (λx s4=>
     wpAny (model prog w) A (call (.builtin "list.append") [acc,x]) (λ_ s5=>∃m,m<n/\I m s5) (λ_ _=>False) s4) (λ_ _=>False) s3
    else ∃m,m<n/\I m s3) (λ_ _=>False) s2) (λ_ _=>False) s1') (λ_ _=>False) s1) (λ_ _=>False) s)
 (n:Nat) (h:I n s) :
 codeAny (model prog w) A (.compLoop (.ListComp elt [%[target,iter,ifs|(0)]] scope pos) 0 it acc env) R s:=by
 have up:∀{α:Type}{t:Sem α}{Q Q':α->Shared->Prop}{E':Value->Shared->Prop}{s:Shared},wpAny (model prog w) A t Q (λ_ _=>False) s->(∀a s,Q a s->Q' a s)->wpAny (model prog w) A t Q' E' s:=
  λh q=>wpAny_mono h q λ_ _ f=>f.elim
 refine codeAny_loop rfl I (λn s hI=>?_) n h;show wpAny _ A ((compTurn (.ListComp elt [%[target,iter,ifs|(0)]] scope pos) 0 it acc env).onRaise (λx=>do noteFrame x env;theTreesLotGoes x)) _ _ s;refine wpAny_noted ?_;rw[compTurn_list];refine zF0 (wpAny_standAt (zF0 (up (turn n s hI) λr s1 h1=>?_)));cases r with
 | none=>exact zL0 h1
 | some v=>
   refine zF0 (up h1 λ_ s1' h1'=>?_);refine zF0 (up h1' λ_ s2 h2=>zF0 (up h2 λok s3 h3=>?_));cases ok with
   | false=>exact zL0 %[1|h3]
   | true=>
     exact zF0 (zF0 (up h3 λx s4 h4=>zF0 (up h4 λ_ s5 h5=>zL0 (zL0 %[1|h5]))))
end
structure Apart(X:Cx)(pins:List (Addr×Obj))(H:Hp)(C:Addr):Prop where
 fr:H C=none
 lo:C≠X.env.locals
 sz:X.s₀.heap.objs.size<=C
 ce:∀y c,X.env.cells.lookup y=some c->c≠C
 pi:∀p∈X.pn++pins,p.1≠C
theorem Apart.turn{σ:St}{h':Heap}(a:Apart X pins H C)(I:Inv X pins σ H s)(hs:Heap.SameBut C s.heap h'):Inv X pins σ H { s with heap:=h' }:=
 I.turned (t':=s.toks) (λb o ne e=>(hs.2 b ne).trans e) a.fr a.lo (.inr a.sz) a.ce a.pi
section
variable {X:Cx} {x:Str} {N:List Str} {ix:List Nat} {scope:Scope} {cl:List (Str×Addr)} {elt iter:Expr} {ifs:List Expr} {px pos:Pos} {wi:TI} {tb:TBl}
theorem wb(hc:X.calm=true)(S:CompScope X x N ix scope cl)(hix:ix.length=N.length)(hb:∀s3 H3 fp,PB (eV X (x::N) scope cl s3 H3 fp) ifs elt tb)
   {σ:St}  {Q:VK}  {fp:List Addr}   {RR:Value->Addr->Result->Shared->Prop} {E:Value->Shared->Prop}
 (I2:Inv X pins σ H2 s2) (T:Turn X.prog X.w X.K (.Name x px) J fp it tn) (st2:tn 0 s2.heap) (f2:∀b∈fp,iS X pins H2 b)
 (h:∀D,H2 D=none->∃W:Nat->Nat->Hp->Prop,(∃m,W 0 m (upd H2 D (.lst [])))/\∀i m H3,W i m H3 ->
  (J.stop i H3/\Q (.ref D) H3)∨(J.go i H3/\∀y H4,J.yld i H3 y H4->tb (some y::outs ix σ) H4 (λH5=>∃m',m'<m/\W (i+1) m' H5)
   λz H5=>∃ys,H5 D=some (.lst ys)/\ys.length<sizeLine/\∃m',m'<m/\W (i+1) m' (upd H5 D (.lst (ys++[z])))))
 (hRR:∀(D C:Addr)(H':Hp)(s':Shared)(m:Str->Option Value),s'.heap.Ns C m->Apart X pins H' C->Inv X pins σ H' s'->Q (.ref D) H'->RR (.ref D) C (.ok .next) s') :
 wpAny (model X.prog X.w) X.A (newList []) (λacc s3=>wpAny (model X.prog X.w) X.A (newFunctionEnv scope X.env.globals cl [] X.env.qual none .none (some X.env)) (λcenv s4=>
  codeAny (model X.prog X.w) X.A (.compStart (.ListComp elt [%[.Name x px,iter,ifs|(0)]] scope pos) 0 (.ref it) acc { cenv with scope:=relabel scope X.env }) (RR acc cenv.locals) s4) E s3) E s2:=by
 refine wpAny_newObj_type (wpAny_newFunctionEnv S.nocell (by intro y hy;simp at hy) (λh1 hns1 hsb1=>?_) S.kind)
 dsimp only at hns1 hsb1 ⊢
 have I3:Inv X pins σ (upd H2 s2.heap.objs.size (.lst [])) { s2 with heap:=s2.heap.push { cls:=.type "list",dict:=none,data:=.seq ([]:List Value).toArray } }:=I2.lnew (its:=[]) (ys:=[]) (t':=s2.toks) .nil (zT0 _);have hD:H2 s2.heap.objs.size=none:=I2.fresh;let%[W,%[m0|w0]|turn]:=h s2.heap.objs.size hD;have hltF:∀b∈fp,b<s2.heap.objs.size:=λb hb=>by
  let%[o,e|_]:=T.obj 0 _ st2 b hb;exact zO0 e
 generalize hs3:({ s2 with heap:=s2.heap.push { cls:=.type "list",dict:=none,data:=.seq ([]:List Value).toArray } }:Shared)=s3 at I3;have eh:s2.heap.push { cls:=.type "list",dict:=none,data:=.seq ([]:List Value).toArray }=s3.heap:=by rw[←hs3]
 have et:s2.toks=s3.toks:=by rw[←hs3]
 rw[eh]at hns1 hsb1 ⊢;have sz3:s3.heap.objs.size=s2.heap.objs.size+1:=by rw[←eh,Heap.size_push]
 have hlt3:∀b∈fp,b<s3.heap.objs.size:=λb hb=>qN0 (hltF b hb) (by rw[sz3];exact qJ0 _)
 have f3:∀b∈fp,iS X pins (upd H2 s2.heap.objs.size (.lst [])) b:=λb hb=>by
  let%[q1|q2]:=f2 b hb;erw[by rw[bh (zV0 (hltF b hb))];exact q1,q2]
 have up:∀b o,s3.heap.get? b=some o->h1.get? b=some o:=λb o e=>hsb1.extBut b o (zV0 (zO0 e)) (zS0 _ e)
 have old:∀b o,s2.heap.get? b=some o->h1.get? b=some o:=λb o e=>up b o (by rw[←eh];exact zS0 _ e)
 have es:({ s2 with heap:=h1,toks:=s2.toks+([]:List (Str×Value)).length }:Shared)={ s3 with heap:=h1,toks:=s2.toks+([]:List (Str×Value)).length }:=by rw[←hs3]
 rw [es];have I4:Inv (eV X (x::N) scope cl s3 (upd H2 s2.heap.objs.size (.lst [])) fp) [] (none::outs ix σ) (upd H2 s2.heap.objs.size (.lst [])) { s3 with heap:=h1,toks:=s2.toks+([]:List (Str×Value)).length }:=
  yi S I3 f3 hlt3 hix hns1 up
 have st4:tn 0 h1:=T.keep 0 _ _ st2 λb _ o e=>old b o e
 have loop:codeAny (model X.prog X.w) X.A (.compLoop (.ListComp elt [%[.Name x px,iter,ifs|(0)]] scope pos) 0 (.ref it) (.ref s2.heap.objs.size) (compEnvC scope cl s3.heap.objs.size X.env)) (RR (.ref s2.heap.objs.size) s3.heap.objs.size)
  { s3 with heap:=h1,toks:=s2.toks+([]:List (Str×Value)).length }:=by
  refine pe (λn s'=>∃i v0 H',Inv (eV X (x::N) scope cl s3 (upd H2 s2.heap.objs.size (.lst [])) fp) [] (v0::outs ix σ) H' s'/\tn i s'.heap/\(∀b∈fp,H' b=none)/\W i n H') ?_ m0 %[(0),none,_,I4,st4,λb hb=>(f3 b hb).1|w0];rintro n s5 ⟨i,v0,H5,I5,st5,fr5,w5⟩;have stat:∀{H':Hp},(∀b∈fp,H' b=none)->∀b∈fp,iS (eV X (x::N) scope cl s3 (upd H2 s2.heap.objs.size (.lst [])) fp) [] H' b:=λhn b hb=>
   %[hn b hb,((pS S I3 f3 hlt3).exf b hb).1,(pS S I3 f3 hlt3).exfs b hb,.inl hb,((pS S I3 f3 hlt3).exf b hb).2|λp hp=>absurd (show p∈([]:List (Addr×Obj))from hp) (by simp)]
  rcases turn i n H5 w5 with⟨stop,qn⟩ | ⟨go,step⟩
  . refine thn (T.done (eV X (x::N) scope cl s3 (upd H2 s2.heap.objs.size (.lst [])) fp) rfl rfl rfl hc i [] s5 _ H5 _ I5 (stat fr5) st5 stop) λr s6 ⟨hr,I6⟩=>?_
    subst hr;erw[m6,hn6,_]at I6.loc;exact hRR _ _ H5 s6 m6 hn6 ⟨I6.free,Ne.symm (zV0 I3.lt),I3.sz,λy c e z=>by
     let%[v|q]:=I3.cell y c e;exact absurd q.lt (by rw[z];exact qT0 _),λp hp z=>absurd (zO0 (I3.pin p hp).1) (by rw[z];exact qT0 _)⟩ (AO I3 f3 I6 (Heap.SameBut.refl _ _)) qn
  . refine thn (T.item (eV X (x::N) scope cl s3 (upd H2 s2.heap.objs.size (.lst [])) fp) rfl rfl rfl hc i [] s5 _ H5 _ I5 (stat fr5) st5 go) λr s6 ⟨u,hr,h6⟩=>?_
    subst hr;refine thn h6 λ_ s7 ⟨y,H7,I7,r7,y7,st7,fr7⟩=>?_
    have I7':=I7.pinned (stat fr7) (T.obj _ _ st7);refine wpAny_assign_Name (lP (i:=0) I7' S.nd rfl (.inl (lookup_relabel_local S.own)) r7 (λs8 I8=>?_) (.inr (lookup_relabel_local S.own)));have I8':Inv (eV X (x::N) scope cl s3 (upd H2 s2.heap.objs.size (.lst [])) fp) ([]++ke fp s7.heap) (some y::outs ix σ) H7 s8:=I8;have again:∀{v9:Option V}{H9:Hp}{s9:Shared},Inv (eV X (x::N) scope cl s3 (upd H2 s2.heap.objs.size (.lst [])) fp) ([]++ke fp s7.heap) (v9::outs ix σ) H9 s9->(∃m',m'<n/\W (i+1) m' H9) ->
     ∃m,m<n/\∃i v0 H',Inv (eV X (x::N) scope cl s3 (upd H2 s2.heap.objs.size (.lst [])) fp) [] (v0::outs ix σ) H' s9/\tn i s9.heap/\(∀b∈fp,H' b=none)/\W i m H':=fun{v9 H9 s9} I9 ⟨m',hm,w9⟩=>by
     erw[m',hm,i+1,v9,H9,I9.unpinned,T.keep _ _ _ st7 λb hb o e=>(I9.pin (b,o) (qS0 _ (qS0 _ (fV hb e)))).1,λb hb=>?_,w9];let%[o,e|d]:=T.obj _ _ st7 b hb;exact(I9.pin (b,o) (qS0 _ (qS0 _ (fV hb e)))).2.1
    refine thn (hb s3 (upd H2 s2.heap.objs.size (.lst [])) fp _ s8 _ H7 _ _ I8' (step y H7 y7)) λok s9 q9=>?_
    cases ok with
    | false=>
      rw[zA0 ⋯]at q9 ⊢;erw[H9,I9,q9]at q9;exact again I9 q9
    | true=>
      rw[zD0 rfl]at q9 ⊢;refine thn q9 λu s10 ⟨z,H10,I10,r10,ys,hy,hz,q10⟩=>?_
      refine thn (bZ _ s10 _ H10 (.ref s2.heap.objs.size) [z] (.ref s2.heap.objs.size) [u] (λ_ H'=>∃m',m'<n/\W (i+1) m' H') I10 rfl (.cons r10 .nil) %[_,ys,z,1,1,hy,hz|q10]) λ_ s11 ⟨_,H11,I11,_,q11⟩=>?_
      exact again I11 q11
 exact codeAny_compStart_list loop (T.self _ 0 _ _ _ st4 loop)
theorem cz(hc:X.calm=true)(S:CompScope X x N ix scope cl)(hix:ix.length=N.length)(hi:PI X (.Name x px) iter wi)(hb:∀s3 H3 fp,PB (eV X (x::N) scope cl s3 H3 fp) ifs elt tb)
 (hs:∀x,foldedSetIterable iter X.env x=pure x:=by intro _;rfl):PE X (.ListComp elt [%[.Name x px,iter,ifs|(0)]] scope pos) (wH wi ix tb):=by
 intro pins s σ H Q I h;rw[eval_ListComp];refine wpAny_comprehension_free (use:=none) rfl hs S.clos S.kind S.names (thn (hi pins s σ H _ I h) λxv s1 h1=>thn h1 λitv s2 h2=>?_);erw[it,fp,tn,J,H2,1,I2,T,st2,f2,R]at h2;refine wb hc S hix hb (RR:=λacc C=>compPost (model X.prog X.w) X.A X.xe none (EP X pins σ Q) acc C) I2 T st2 f2 R ?_;intro D C H' s' m hn ap I' q;erw[m,hn,λh'' hb''=>%[.ref D,H',ap.turn I' hb'',1|q]]
theorem pJ{i:Nat}{y:Str}{py spos:Pos}(hN:X.N.Nodup)(hi0:X.N[i]?=some y)(hx:Loc X.env.scope y)(hc:X.calm=true)(S:CompScope X x N ix scope cl)(hix:ix.length=N.length)(hi:PI X (.Name x px) iter wi)(hb:∀s3 H3 fp,PB (eV X (x::N) scope cl s3 H3 fp) ifs elt tb)
 (hsw:swapsWith (.ListComp elt [%[.Name x px,iter,ifs|(0)]] scope pos) (some (.Name y py)) spos.line X.env=pure true:=by rfl')
 (hs:∀x,foldedSetIterable iter X.env x=pure x:=by intro _;rfl) (hf:X.fn y=true∨X.env.scope.names.lookup y=some .local:=by first | exact .inl rfl | exact .inr rfl | assumption) :
 PS X (.Assign [.Name y py] (.ListComp elt [%[.Name x px,iter,ifs|(0)]] scope pos) spos) (λD σ H=>wH wi ix tb σ H λv H'=>D.nx (σ.set i (some v)) H'):=by
 intro pins s σ H Dn I h;rw[exec_Assign_Name_used _ _ _ _ hsw];refine zF0 (wpAny_standAt (zF0 ?_));show wpAny _ X.A (do let _ ←comprehension (.ListComp elt [%[.Name x px,iter,ifs|(0)]] scope pos) scope X.env _ (newList []) false (eval iter X.env) (some (assign (.Name y py) X.env))) _ _ s;refine zF0 (wpAny_mono (wpAny_comprehension_free (use:=some (assign (.Name y py) X.env)) (Q:=λ_ s'=>SP X pins Dn .next s') rfl hs S.clos S.kind S.names
  (thn (hi pins s σ H _ I h) λxv s1 h1=>thn h1 λitv s2 h2=>?_)) (λ_ s' hq=>zL0 (zL0 hq)) λ_ _ e=>e)
 erw[it,fp,tn,J,H2,1,I2,T,st2,f2,R]at h2;refine wb hc S hix hb (RR:=λacc C=>compPost (model X.prog X.w) X.A X.xe (some (assign (.Name y py) X.env)) (λ_ s'=>SP X pins Dn .next s') acc C) (Q:=λv H'=>Dn.nx (σ.set i (some v)) H') I2 T st2 f2 R ?_;intro D C H' s' m hn ap I' q;show wpAny _ X.A (assign (.Name y py) X.env (.ref D)) _ _ _;refine wpAny_assign_Name (sw I' hN hi0 hx (v:=.ref D) rfl (λs'' I'' hsb=>?_) hf);erw[a,hsb,ha]at hsb;have ne:C≠a:=by
  rcases ha with z | z
  . rw[z];exact ap.lo
  . exact Ne.symm (ap.ce y a z)
 erw[m,hn.sameBut hsb ne,λh'' hb''=>%[_,H',ap.turn I'' hb''|q]]
end
section
variable {X:Cx} {pins:List (Addr×Obj)} {σ:St} {H:Hp} {s:Shared} {h':Heap}
theorem Inv.turnedNew{t':Nat}{ch:List Addr}{T:Addr}(I:Inv X pins σ H s)(k:∀b u,b∉ch->s.heap.get? b=some u->h'.get? b=some u)(hf:∀b∈ch,iS X pins H b)(hT:s.heap.objs.size<=T)
 (new:ObjOk X.prog X.w (upd H T o) h' T o):Inv X pins σ (upd H T o) { s with heap:=h',toks:=t' }:=by
 have nit:∀b u,H b=some u->b∉ch:=λb u e z=>by rw[(hf b z).1]at e;cases e
 have hn:H T=none:=I.hok.fresh hT;have lt:∀b u,s.heap.get? b=some u->b≠T:=λb u e=>zV0 (qN0 (zO0 e) hT)
 refine I.step (g':=s.gens) (d':=s.drawn) (ch:=ch) (λb hb=>?_) (λb u _ _ hc e _=>k b u hc e) (λb u _ _ hc e _=>%[u.slots|k b u hc e]) (λb u _ e n=>by rw[bh (lt b u e)];exact n) (λb u hc e=>%[u|k b u hc e])
  (λb xs e=>by rw[bh (aV e hn)];exact e) (λb ob u e=>by rw[bh (aV e hn)];exact e) (λb ps e=>%[#[]|by rw[bh (aV e hn),e];simp]) (λm hm=>?_) (λb u e=>?_) I.bare
 . let%[_,h2,_,h4,h5|h6]:=hf b hb;erw[h4,h2,h5,h6]
 . erw[ob,es,ep,ho,r]at hm;erw[ob,es,ep,k _ ob (λz=>(hf _ z).2.1 rfl) ho,r]
 . by_cases hb:b=T
   . subst hb;rw[aI]at e;cases e;exact new
   . rw [bh hb]at e;refine(I.hok b u e).stay (λc v hc q=>k c v ?_ q) (λc q=>by rw[bh (aV q hn)];exact q) λc xs q=>by rw[bh (aV q hn)];exact q
     rcases hc with z | z
     . rw[z];exact nit b u e
     . exact nit c _ z
theorem Inv.turnedL{t':Nat}{ch:List Addr}(I:Inv X pins σ H s)(k:∀b u,b∉ch->s.heap.get? b=some u->h'.get? b=some u)(hf:∀b∈ch,iS X pins H b):Inv X pins σ H { s with heap:=h',toks:=t' }:=by
 have nit:∀b u,H b=some u->b∉ch:=λb u e z=>by rw[(hf b z).1]at e;cases e
 refine I.step (g':=s.gens) (d':=s.drawn) (ch:=ch) (λb hb=>?_) (λb u _ _ hc e _=>k b u hc e) (λb u _ _ hc e _=>%[u.slots|k b u hc e]) (λ_ _ _ _ n=>n) (λb u hc e=>%[u|k b u hc e])
  (λ_ _ e=>e) (λ_ _ _ e=>e) (λb ps e=>%[#[]|by rw[e];simp]) (λm hm=>?_) (λb u e=>?_) I.bare
 . let%[_,h2,_,h4,h5|h6]:=hf b hb;erw[h4,h2,h5,h6]
 . erw[ob,es,ep,ho,r]at hm;erw[ob,es,ep,k _ ob (λz=>(hf _ z).2.1 rfl) ho,r]
 . refine (I.hok b u e).stay (λc v hc q=>k c v ?_ q) (λ_ q=>q) λ_ _ q=>q
   rcases hc with z | z
   . rw[z];exact nit b u e
   . exact nit c _ z
end
def Ite(K:W.Frag)(a:Addr):It:=
 ⟨λi H=>∃xs x,SqL K H a xs/\xs[i]?=some x,λi H y H'=>∃t,y=.ref t/\H t=none/\∀xs x,SqL K H a xs->xs[i]?=some x->H'=upd H t (.tup [.int i,x]),λi H=>∃xs,SqL K H a xs/\xs.length<=i⟩
theorem zo{K:W.Frag}{elts:List Expr}{k:Nat}{pos:Pos}(a e it:Addr)(hei:e≠it) :
 Turn P w K (.Tuple elts k pos) (Ite K a) [e,it] e (λi h=>(∃old,IsEnum h e it i old)/\h.IsListIter it a i) where
 mem:=by simp
 obj:=λi h st b hb=>by
  erw[%[old|he],o,e2,c,d]at st;rcases zX0 hb with z | z
  . subst z;erw[_,he,λv z=>nomatch z]
  . have z':=zN0 z;subst z';erw[o,e2,λv z=>by rw[d]at z;cases z]
 keep:=λi h h' st k=>by
  erw[%[old|he],hit]at st;erw[%[old|k e (by simp) _ he],hit.at λo x=>k it (by simp) o x]
 item:=by
  intro X hP hw hK hc i pins s σ H E I hf st hg;subst hP hw hK;erw[xs,x,hq,hx]at hg;let%[its,rv,p|hz]:=I.list hq;let%[u,hu|ru]:=rv.get hx;erw[%[old|he],hit]at st;refine wpAny_pyNext_enum_item he hit p.isList (x:=u) (by simpa using hu) hei λh1 ho hit1 hT hsz hk=>?_
  erw[0,wpAny_letOwnedTupleGo_enum ho λh2 he2 hs2=>?_];have elt:e<s.heap.objs.size:=zO0 he;have hT2:h2.get? s.heap.objs.size=some { cls:=.type "tuple",data:=.seq #[.int i s.toks,u] }:=(hs2.2 _ (Ne.symm (zV0 elt))).trans hT;have I2:Inv X pins σ (upd H s.heap.objs.size (.tup [.int i,x])) { s with heap:=h2,toks:=s.toks+1 }:=by
   refine I.turnedNew (ch:=[e,it]) (λb ob hb eb=>?_) hf (zH0 _) %[by show 2<=sizeLine;decide,[.int i s.toks,u],.cons %[|0] (.cons ru .nil),%[_,hT2,1|0],_,hT2|1];have b1:b≠e:=λz=>hb (by simp [z])
   have b2:b≠it:=λz=>hb (by simp [z])
   exact(hs2.2 b b1).trans (hk b ob b1 b2 eb)
  erw[.ref s.heap.objs.size,_,I2,1,%[0,I.hok.fresh (zH0 _)|λys y hy hyi=>?_],%[%[u|by simpa using he2]|hit1.at λo z=>(hs2.2 it (Ne.symm hei)).trans z],λb hb=>?_]
  . have e1:=I.list_inj hy hq;subst e1;rw[hx]at hyi;cases hyi;rfl
  . have z:=hf b hb;have hlt:b<s.heap.objs.size:=by
     rcases zX0 hb with y | y
     . rw[y];exact elt
     . rw[zN0 y];erw[o,e2,_]at hit;exact zO0 e2
    rw[bh (zV0 hlt)];exact z.1
 done:=by
  intro X hP hw hK hc i pins s σ H E I hf st hg;subst hP hw hK;erw[xs,hq,hx]at hg;let%[its,rv,p|hz]:=I.list hq;erw[%[old|he],hit]at st;have hl:=rv.length;exact wpAny_pyNext_enum_end (I.ok.hd hc) he hit p.isList (Array.getElem?_eq_none (by simp;omega)) λh' eb=>%[1|I.turnedL (t':=s.toks) (ch:=[e,it]) (λb o hb eo=>eb b o (λz=>hb (by simp [z])) eo) hf]
 self:=λ_ _ _ _ _ st h=>by
  erw[%[old|he],_]at st;exact wpAny_pyIter_enum he h
section
variable {X:Cx} {elts:List Expr} {k:Nat} {tpos:Pos}
inductive ZiEnum(K:W.Frag)(R:(It->Hp->Prop))(x:V)(H1:Hp):Prop
 |mk:∀a,x=.ref a->(∃xs,SqL K H1 a xs)->R (Ite K a) H1->ZiEnum K R x H1
def iEnum(K:W.Frag)(tl:TE):TI:=λσ H R=>tl σ H λx H1=>ZiEnum K R x H1
theorem EG   {p pos:Pos} (hg:Gl X "enumerate") (hm:X.mg "enumerate"=none) (hl:PE X l tl) (hs:starEach [l] X.env=[(false,eval l X.env)]:=by rfl) :
 PI X (.Tuple elts k tpos) (.Call (.Name "enumerate" p) [l] [] pos) (iEnum X.K tl):=by
 intro pins s σ H R I h;refine Call_ (iF I hg hm boot_enumerate (PyProof.Rows.callWith_type1 ?_ hs rfl));rw[hs];show wpAny _ _ (spliced ((false,eval l X.env)::backTo pos (starEach [] X.env))) _ _ s;refine Calls.spliced_cons (thn (hl pins s σ H _ I h) λu s1 ⟨x,H1,I1,r1,a,ex,⟨xs,hq⟩,q⟩=>?_);subst ex;cases r1;let%[its,rv,p|hz]:=I1.list hq;refine Calls.spliced_nil ?_;refine call_enumerate_list p.isList λh' he hit hsz hk=>?_
 refine wpAny_pyIter_enum he ?_;have I2:Inv X pins σ H1 { s1 with heap:=h' }:=I1.kept (t':=s1.toks) hk;erw[s1.heap.objs.size+1,[s1.heap.objs.size+1,s1.heap.objs.size],_,_,H1,1,I2,zo a _ _ (Nat.ne_of_gt (Nat.lt_succ_self _)),%[%[_|he]|hit],λb hb=>?_,q];rcases zX0 hb with z | z
 . rw[z];exact I1.fpOk (qJ0 _) (I1.hok.fresh (qJ0 _))
 . rw[zN0 z];exact I1.fpOk (zH0 _) (I1.hok.fresh (zH0 _))
end
theorem Dz{K:W.Frag}{xs:List V}{g:TG}{tb:TS}{D:Ends}{σ:St}{H:Hp}(Pv:Nat->St->Hp->Prop)(h0:Pv 0 σ H)(hl:∀i σ H,i<=xs.length->Pv i σ H->SqL K H a xs)
 (hs:∀i x σ H t,xs[i]?=some x->Pv i σ H->H t=none->g (.ref t) σ (upd H t (.tup [.int i,x])) λσ2 H2=>tb { D with nx:=Pv (i+1),ct:=Pv (i+1),bk:=D.nx } σ2 H2) (hd:∀ σ H,Pv xs.length σ H->D.nx σ H) :
 ∃ W:Nat->Nat->St->Hp->Prop,(∃m,W 0 m σ H)/\∀i m σ H,W i m σ H ->
  ((Ite K a).stop i H/\D.nx σ H)∨((Ite K a).go i H/\∃N:St->Hp->Prop,(∀ σ' H',N σ' H'->∃m',m'<m/\W (i+1) m' σ' H')/\∀x H',(Ite K a).yld i H x H'->g x σ H' λσ2 H2=>tb { D with nx:=N,ct:=N,bk:=D.nx } σ2 H2):=by
 erw[λi m σ H=>m=xs.length-i/\i<=xs.length/\Pv i σ H,%[xs.length,by simp,zT0 _|h0],6];rintro i m σ H ⟨rfl,hi,p⟩;have q:=hl i σ H hi p
 by_cases hlt:i<xs.length
 . refine .inr %[%[xs,xs[i],q|by simp [hlt]],Pv (i+1),λσ' H' p'=>%[xs.length-(i+1),3,1,hlt|p']|λx H' y=>?_];erw[t,1,ht,e]at y;have e':=e xs xs[i] q (by simp [hlt]);subst e';exact hs i xs[i] σ H t (by simp [hlt]) p ht
 . have e:i=xs.length:=by omega
   subst e;exact .inl %[%[xs,q|zH0 _]|hd σ H p]
mutual
inductive Rep(K:W.Frag)(H:Hp):V->PyData->Prop
 | non:Rep K H .non .none
 | bl (b:Bool):Rep K H (.bl b) (.bool b)
 | int (i:Int):Rep K H (.int i) (.int i)
 | str (x:Str):Rep K H (.str x) (.str x)
 | tup {a:Addr} {xs:List V} {ds:List PyData}:SqT K H a xs->RepAll K H xs ds->Rep K H (.ref a) (.tuple ds)
 | lst {a:Addr} {xs:List V} {ds:List PyData}:SqL K H a xs->RepAll K H xs ds->Rep K H (.ref a) (.list ds)
inductive RepAll(K:W.Frag)(H:Hp):List V->List PyData->Prop
 | nil:RepAll K H [] []
 | cons {x:V} {d:PyData} {xs:List V} {ds:List PyData}:Rep K H x d->RepAll K H xs ds->RepAll K H (x::xs) (d::ds)
end
section
variable {X:Cx} {pins:List (Addr×Obj)} {σ:St} {H:Hp} {s:Shared}
mutual
theorem Rep.reads(I:Inv X pins σ H s):∀{x:V}{d:PyData}{v:Value},Rep X.K H x d->RelV x v->∃as,Reads s.heap v d as
 | _,_,v,.non,r=>by cases(show v=Value.none from r);erw[_,Reads.none]
 | _,_,v,.bl b,r=>by cases(show v=Value.bool b from r);erw[_,Reads.bool b]
 | _,_,v,.int i,r=>by let%[t|e]:=(show ∃t,v=Value.int i t from r);cases e;erw[_,Reads.int i t]
 | _,_,v,.str x,r=>by let%[t|e]:=(show ∃t,v=Value.str x t from r);cases e;erw[_,Reads.str x t]
 | _,_,v,.tup (a:=a) h q,r=>by
   cases(show v=Value.ref a from r);let%[its,rv,%[o,ho,hc,n|hd]|_]:=I.tuple h;let%[as|z]:=RepAll.reads I q rv;erw[_,reads_tuple_at ho hc hd (by simpa using z)]
 | _,_,v,.lst (a:=a) h q,r=>by
   cases(show v=Value.ref a from r);let%[its,rv,%[o,n,ho,hc,_|hd]|_]:=I.list h;let%[as|z]:=RepAll.reads I q rv;erw[_,reads_list_at ho hc hd (by simpa using z)]
theorem RepAll.reads(I:Inv X pins σ H s):∀{xs:List V}{ds:List PyData}{vs:List Value},RepAll X.K H xs ds->Vals xs vs->∃as,ReadsAll s.heap vs ds as
 | _,_,_,.nil,.nil=>%[_|ReadsAll.nil]
 | _,_,_,.cons h q,.cons r rs=>by
   let%[as|z]:=Rep.reads I h r;let%[bs|y]:=RepAll.reads I q rs;erw[_,ReadsAll.cons z y]
end
end
theorem qF{K:W.Frag}:∀ns:List Int,RepAll K H (ns.map V.int) (ns.map PyData.int)
 | []=>.nil
 | n::r=>.cons (.int n) (qF r)
section
variable {X:Cx}
inductive rEqD(K:W.Frag)(x:V)(y:V)(H:Hp)(Q:VK):Prop
 |mk:∀d e,Rep K H x d->Rep K H y e->SeqAt.shaped d=true->SeqAt.shaped e=true->Q (.bl (PyData.eqv d e)) H->rEqD K x y H Q
inductive rNeD(K:W.Frag)(x:V)(y:V)(H:Hp)(Q:VK):Prop
 |mk:∀d e,Rep K H x d->Rep K H y e->SeqAt.shaped d=true->SeqAt.shaped e=true->Q (.bl (!PyData.eqv d e)) H->rNeD K x y H Q
theorem ui(hu:X.A.units+64<cLine):OpR X (compareOp .Eq) (rEqD X.K):=by
 intro pins s σ H x y v u Q I rx ry h;erw[d,e,hd,he,sd,se,q]at h;let%[as|r1]:=Rep.reads I hd rx;let%[bs|r2]:=Rep.reads I he ry;exact eq_dataH r1 r2 sd se hu %[.bl _,H,I,1|q]
theorem Cl(hu:X.A.units+64<cLine):OpR X (compareOp .NotEq) (rNeD X.K):=by
 intro pins s σ H x y v u Q I rx ry h;erw[d,e,hd,he,sd,se,q]at h;let%[as|r1]:=Rep.reads I hd rx;let%[bs|r2]:=Rep.reads I he ry;exact ne_dataH r1 r2 sd se hu %[.bl _,H,I,1|q]
inductive rCatT0(K:W.Frag)(x:V)(y:V)(H:Hp)(Q:VK):Prop
 |mk:∀a b ys,x=.ref a->y=.ref b->SqT K H a []->SqT K H b ys->Q (.ref b) H->rCatT0 K x y H Q
theorem ms:OpR X (binaryOp .Add) (rCatT0 X.K):=by
 intro pins s σ H x y v u Q I rx ry h;erw[a,b,ys,1,1,ha,hb,q]at h;cases rx;cases ry;let%[its,r1,p1|_]:=I.tuple ha;let%[its2,r2,p2|_]:=I.tuple hb;let%[%[cls,dd,data|sl],ho,hc,n|hd]:=id p1;let%[%[cls2,dd2,data2|sl2],ho2,hc2,n2|hd2]:=id p2;simp only at hc hd hc2 hd2;subst hc hd hc2 hd2;have e:its=[]:=r1.nil_iff.mpr rfl;exact concat_meets %[_,ho|1] ⟨_,ho2,rfl⟩ noFill_tuple_add seq_tuple_add PySem.F.slot_tuple_add PySem.F.entry_tuple_add (PySem.F.args_tuple_add_2 _ _)
  (tuple_addW0 a b its.toArray its2.toArray n n2 dd dd2 sl sl2 (by simp [e])) %[ho,ho2|%[.ref b,H,I,1|q]]
end
def Nx(n i:Nat)(Pv:Nat->Hp->Prop)(H:Hp):Prop:=∃m',m'<n-i/\(m'=n-(i+1)/\i+1<=n/\Pv (i+1) H)
theorem Nx.of{n i:Nat}{Pv:Nat->Hp->Prop}{H:Hp}(h:i<n)(p:Pv (i+1) H):Nx n i Pv H:=%[n-(i+1),3,1,h|p]
theorem gy{K:W.Frag}{xs:List V}{tb:TBl}{Q:VK}(Pv:Nat->Hp->Prop)(h0:Pv 0 (upd H D (.lst [])))(hl:∀i H,i<=xs.length->Pv i H->SqT K H a xs)
 (hs:∀i x H,xs[i]?=some x->Pv i H->tb (some x::outs ix σ) H (Nx xs.length i Pv) λz H'=>∃ys,H' D=some (.lst ys)/\ys.length<sizeLine/\Nx xs.length i Pv (upd H' D (.lst (ys++[z])))) (hd:∀H,Pv xs.length H->Q (.ref D) H) :
 rO (Itt K a) D ix tb σ H Q:=by
 erw[λi m H=>m=xs.length-i/\i<=xs.length/\Pv i H,%[xs.length,by simp,zT0 _|h0],6];rintro i m H ⟨rfl,hi,p⟩;have q:=hl i H hi p
 by_cases hlt:i<xs.length
 . refine .inr %[%[xs,xs[i],q|by simp [hlt]]|λx H' y=>?_];erw[e,y]at y;subst e;exact hs i x _ (y xs q) p
 . have e:i=xs.length:=by omega
   subst e;exact .inl %[%[xs,q|zH0 _]|hd H p]
theorem gY{K:W.Frag}{xs:List V}{tb:TBl}{Q:VK}(Pv:Nat->Hp->Prop)(h0:Pv 0 (upd H D (.lst [])))(hl:∀i H,i<=xs.length->Pv i H->SqL K H a xs)
 (hs:∀i x H,xs[i]?=some x->Pv i H->tb (some x::outs ix σ) H (Nx xs.length i Pv) λz H'=>∃ys,H' D=some (.lst ys)/\ys.length<sizeLine/\Nx xs.length i Pv (upd H' D (.lst (ys++[z])))) (hd:∀H,Pv xs.length H->Q (.ref D) H) :
 rO (Itl K a) D ix tb σ H Q:=by
 erw[λi m H=>m=xs.length-i/\i<=xs.length/\Pv i H,%[xs.length,by simp,zT0 _|h0],6];rintro i m H ⟨rfl,hi,p⟩;have q:=hl i H hi p
 by_cases hlt:i<xs.length
 . refine .inr %[%[xs,xs[i],q|by simp [hlt]]|λx H' y=>?_];erw[e,y]at y;subst e;exact hs i x _ (y xs q) p
 . have e:i=xs.length:=by omega
   subst e;exact .inl %[%[xs,q|zH0 _]|hd H p]
theorem eC{lo:Int}{n:Nat}{tb:TBl}{Q:VK}(Pv:Nat->Hp->Prop)(h0:Pv 0 (upd H D (.lst [])))
 (hs:∀i H,i<n->Pv i H->tb (some (.int (lo+i))::outs ix σ) H (Nx n i Pv) λz H'=>∃ys,H' D=some (.lst ys)/\ys.length<sizeLine/\Nx n i Pv (upd H' D (.lst (ys++[z])))) (hd:∀H,Pv n H->Q (.ref D) H) :
 rO (Itr lo n) D ix tb σ H Q:=by
 erw[λi m H=>m=n-i/\i<=n/\Pv i H,%[n,by simp,zT0 _|h0],6];rintro i m H ⟨rfl,hi,p⟩
 by_cases hlt:i<n
 . refine .inr %[hlt|λx H' y=>?_];erw[e,y]at y;subst e y;exact hs i _ hlt p
 . have e:i=n:=by omega
   subst e;exact .inl %[zH0 _|hd H p]
theorem CompScope.closed{X:Cx}{x:Str}{scope:Scope}(c1:closureFor scope X.env=pure [])(c2:∀y∈scope.names,y.2≠.cell)(c3:scope.kind=.function)(c4:∀y∈scope.names,y.2=.local->scope.names.lookup y.1=some .local)
 (c5:scope.names.lookup x=some .local) (c6:((relabel scope X.env).names.all λp=>!(p.2==.cell||p.2==.free)||((([]:List (Str×Addr))).lookup p.1).isSome)=true):CompScope X x [] [] scope [] where
 clos:=c1
 nocell:=c2
 kind:=c3
 names:=c4
 own:=c5
 nd:=by simp
 sub:=λp hp=>absurd hp (by simp)
 has:=c6
 outs:=λj y h=>by simp at h
section
variable {X:Cx}
theorem uO (K:W.Frag) (hK:X.K=K:=by rfl):ip X (.builtin "isinstance") (rIsi K):=by subst hK;exact dQ
theorem vQ(K:W.Frag)(hK:X.K=K:=by rfl):IxR X (rIxL K):=by subst hK;exact ix_list
end
def Its(z:Str):It:=⟨λi _=>i<z.cps.size,λi H x H'=>H'=H/\∃c,z.cps[i]?=some c/\x=.str %[|#[c]],λi _=>z.cps.size<=i⟩
theorem pV{prog:Program}{w:World}{A:Around}(hh:A.handled=none)(I:Addr)(x:Str)(t:Tok):Walks prog w A I [I] [I] x.cps.size (SignAt x) (λi h=>h.IsStrIter I (strIterType x) x t i):=by
 unfold strIterType
 split
 . exact Walks.strAscii hh I x t
 . exact Walks.strWide hh I x t
theorem Bd{K:W.Frag}{y:Str}{py:Pos}(z:Str)(t:Tok)(it:Addr):Turn P w K (.Name y py) (Its z) [it] it (λi h=>i<=z.cps.size/\h.IsStrIter it (strIterType z) z t i) where
 mem:=by simp
 obj:=λi h st b hb=>by
  have e:b=it:=by simpa using hb
  subst e;erw[_,o,e,c,d]at st;erw[o,e,λv z=>by rw[d]at z;cases z]
 keep:=λi h h' st k=>by
  erw[hi,o,e,r]at st;erw[hi,o,k it (by simp) o e,r]
 item:=by
  intro X hP hw hK hc i pins s σ H E I hf st hg;subst hP hw hK;let%[f0,f1,f2,f3,f4|f5]:=hf it (by simp);refine(pV (I.ok.hd hc) it z t).item i s _ E hg st.2 λv h' tk hP hst hk=>?_
  erw[c,u,hcx,1]at hP;have I1:Inv X pins σ H { s with heap:=h',toks:=tk }:=I.turned (λb o hb e=>hk b o (by simpa using hb) e) f0 f1 f3 f4 f5;erw[0,wpAny_of_eq (a:=()) rfl %[.str %[|#[c]],H,I1,%[|0],%[1,c,hcx|1],%[hg|hst]|λb hb=>(hf b hb).1]]
 done:=by
  intro X hP hw hK hc i pins s σ H E I hf st hg;subst hP hw hK;let%[f0,f1,f2,f3,f4|f5]:=hf it (by simp);have e:i=z.cps.size:=Nat.le_antisymm st.1 hg;subst e;refine(pV (I.ok.hd hc) it z t).done s _ E st.2 λh' tk hk=>?_
  erw[1,I.turned (λb o hb e=>hk b o (by simpa using hb) e) f0 f1 f3 f4 f5]
 self:=λA i s Q E st h=>by
  erw[_,st]at st;unfold strIterType at st
  split at st
  . exact wpAny_pyIter_striter_ascii st h
  . exact wpAny_pyIter_striter_wide st h
section
variable {X:Cx} {y:Str} {py:Pos}
inductive ZiStr(R:(It->Hp->Prop))(x:V)(H1:Hp):Prop
 |mk:∀z,x=.str z->R (Its z) H1->ZiStr R x H1
def iStr(tl:TE):TI:=λσ H R=>tl σ H λx H1=>ZiStr R x H1
theorem Ca(hl:PE X l tl):PI X (.Name y py) l (iStr tl):=by
 intro pins s σ H R I h;refine thn (hl pins s σ H _ I h) λv s1 ⟨x,H1,I1,r1,q1⟩=>?_
 erw[z,e,q]at q1;subst e;erw[t,1]at r1;refine wpAny_pyIter_strU ?_;erw[s1.heap.objs.size,[s1.heap.objs.size],_,_,H1,1,I1.kept (t':=s1.toks) λb o e=>zS0 _ e,Bd z t _,%[zT0 _,_,qA0 _ rfl,1|1],λb hb=>?_,q];have e:b=s1.heap.objs.size:=by simpa using hb
 subst e;exact I1.fpOk (zH0 _) (I1.hok.fresh (zH0 _))
end
theorem rE{z:Str}{tb:TBl}{Q:VK}(Pv:Nat->Hp->Prop)(h0:Pv 0 (upd H D (.lst [])))
 (hs:∀i c H,z.cps[i]?=some c->Pv i H->tb (some (.str %[|#[c]])::outs ix σ) H (Nx z.cps.size i Pv) λu H'=>∃ys,H' D=some (.lst ys)/\ys.length<sizeLine/\Nx z.cps.size i Pv (upd H' D (.lst (ys++[u])))) (hd:∀H,Pv z.cps.size H->Q (.ref D) H) :
 rO (Its z) D ix tb σ H Q:=by
 erw[λi m H=>m=z.cps.size-i/\i<=z.cps.size/\Pv i H,%[z.cps.size,by simp,zT0 _|h0],6];rintro i m H ⟨rfl,hi,p⟩
 by_cases hlt:i<z.cps.size
 . refine .inr %[hlt|λx H' y=>?_];erw[e,c,hc,1]at y;subst e;exact hs i c _ hc p
 . have e:i=z.cps.size:=by omega
   subst e;exact .inl %[zH0 _|hd H p]
section
variable {X:Cx}
inductive rSlS(x:V)(lo:Option Int)(hi:Option Int)(H:Hp)(Q:VK):Prop
 |mk:∀z,x=.str z->z.length<=sizeLine->Q (.str (Txt.slice z lo hi)) H->rSlS x lo hi H Q
theorem wN:SlR X rSlS:=by
 intro pins s σ H x v vl vu lo hi sl Q I rx hs pl pu h;erw[z,1,hz,q]at h;erw[t,1]at rx;erw["str",_,F.slot_str_getitem.lookup,typeIs_str _ _ _,6];have fin:∀t' k,EP X pins σ Q (.str (Txt.slice z lo hi) t') { s with toks:=k }:=λt' k=>%[.str _,H,I.tok k,%[|0]|q]
 erw[o,ho,hc,hd]at hs;cases pl with
 | none=>
   cases pu with
   | none=>exact wpAny_getItem_str_slice (l:=none) (u:=none) (st:=none) %[o,ho,hc|hd] rfl (post_val_or_str ⟨zP0 (Txt.slice_le z _ _) hz,fin⟩)
   | int j u=>exact wpAny_getItem_str_slice (l:=none) (u:=some (j,u)) (st:=none) %[o,ho,hc|hd] rfl (post_val_or_str ⟨zP0 (Txt.slice_le z _ _) hz,fin⟩)
 | int i u'=>
   cases pu with
   | none=>exact wpAny_getItem_str_slice (l:=some (i,u')) (u:=none) (st:=none) %[o,ho,hc|hd] rfl (post_val_or_str ⟨zP0 (Txt.slice_le z _ _) hz,fin⟩)
   | int j u=>exact wpAny_getItem_str_slice (l:=some (i,u')) (u:=some (j,u)) (st:=none) %[o,ho,hc|hd] rfl (post_val_or_str ⟨zP0 (Txt.slice_le z _ _) hz,fin⟩)
inductive rStarts(x:V)(vs:List V)(H:Hp)(Q:VK):Prop
 |mk:∀z u,x=.str z->vs=[.str u]->Q (.bl (Txt.startswith z u)) H->rStarts x vs H Q
theorem sk:MtR X "str.startswith" rStarts:=by
 intro pins s σ H x vs v us Q I rx rv h;erw[z,u,1,1,q]at h;erw[t,1]at rx;erw[w',1,t',1]at rv.one;exact SC.startswith %[.bl _,H,I,1|q]
theorem qg:∀{zs:List Str}{us:List Value},Vals (zs.map V.str) us->StrsAre us zs
 | [],_,.nil=>.nil
 | _::_,_,.cons ⟨t,e⟩ r=>by subst e;exact .cons _ t (qg r)
inductive rJoin(K:W.Frag)(x:V)(vs:List V)(H:Hp)(Q:VK):Prop
 |mk:∀z a ys,x=.str z->vs=[.ref a]->SqL K H a (ys.map V.str)->z.length<=16->(ys.map (·.length)).sum+ys.length<=1048576->Q (.str (Txt.join z ys)) H->rJoin K x vs H Q
theorem Fa:MtR X "str.join" (rJoin X.K):=by
 intro pins s σ H x vs v us Q I rx rv h;erw[z,a,ys,1,1,hq,hz,hw,q]at h;erw[t,1]at rx;erw[w',1,ra]at rv.one;cases ra;let%[its,r',p|_]:=I.list hq;exact join_listW p.isList (by simpa using qg r') hz hw λt' k=>%[.str _,H,I.tok k,%[|0]|q]
inductive rAll(K:W.Frag)(xs:List V)(H:Hp)(Q:VK):Prop
 |mk:∀(a:Addr)(bs:List Bool),xs=[.ref a]->SqL K H a (bs.map V.bl)->Q (.bl (bs.all id)) H->rAll K xs H Q
theorem sN:∀{bs:List Bool}{us:List Value}{i:Nat}{v:Value},Vals (bs.map V.bl) us->us[i]?=some v->∃b,bs[i]?=some b/\v=.bool b
 | [],_,_,_,.nil,h=>by simp at h
 | b::_,_,0,_,.cons r _,h=>by
   simp at h
   subst h;erw[b,1,r]
 | _::_,_,i+1,_,.cons _ t,h=>by
   let%[b,h1|h2]:=sN (i:=i) t (by simpa using h);erw[b,by simpa using h1,h2]
theorem rH (hc:X.calm=true):ip X (.builtin "all") (rAll X.K):=by
 intro pins s σ H xs us Q I r h;erw[a,bs,1,hq,q]at h;let%[u,1|ru]:=kW r;cases ru;let%[its,r',p|hz]:=I.list hq;have hl:=r'.length;rw[zE0]at hl;have hlt:a<s.heap.objs.size:=by erw[o,n,e,_]at p;exact zO0 e
 refine call_all_walk (wpAny_pyIter_list p.isList ?_);erw[s.heap.objs.size,_,_,_,_,_,λi=>bs[i]?.getD true,1,Walks.list (A:=X.A.in1) (I.ok.hd hc) s.heap.objs.size a (zV0 hlt) its.toArray,%[%[_,qA0 _ rfl,1|1]|p.isList.push _],6,6]
 . intro i v s' Q' E' hP hQ;let%[b,hb|1]:=sN r' (i:=i) (v:=v) (by simpa using hP);have hQ':Q' b s':=by simpa [hb]using hQ
   exact wpAny_truthy_bool hQ'
 . intro h' tk hk;have e:(List.range its.toArray.size).all (λi=>bs[i]?.getD true)=bs.all id:=by
    rw[zR0,←hl];rw[Bool.eq_iff_iff,List.all_eq_true,List.all_eq_true]
    constructor
    . intro h b hb;let%[i,hi|e]:=List.getElem_of_mem hb
      have:=h i (List.mem_range.mpr hi)
      rw[zQ0 hi]at this
      simpa [e]using this
    . intro h i hi;have hi':=List.mem_range.mp hi;rw[zQ0 hi'];exact h _ (qR0 hi')
   rw[e];erw[.bl _,H,6,1,q];have I1:Inv X pins σ H { s with heap:=s.heap.push { cls:=.type "list_iterator",data:=.fields #[.ref a,.int 0 0] } }:=I.kept (t':=s.toks) λb o e=>zS0 _ e
   refine I1.turnedL (t':=tk) (ch:=[s.heap.objs.size]) (λb o hb e=>hk b o (by simpa using hb) e) λb hb=>?_
   rw[zN0 hb];exact I.fpOk (zH0 _) (I.hok.fresh (zH0 _))
end
theorem EI {X:Cx}    {p pos:Pos} (C:Cal X.prog X.w X.K X.mg X.base n x [] sp) (hr:Room k X.A) (hk:n<=k) (hg:Gl X x) (hdb:(x==("__debug__":Str))=false:=by decide) :
 PE X (.Call (.Name x p) [] [] pos) (yw sp [] E0 Bj):=by
 erw[f,fd,F,b,kp,m]at C.ex;exact Ch F (hr.mono hk) hg m kp b .nil aY hdb
inductive Consts:List Expr->List Str->Prop
 | nil:Consts [] []
 | cons {x:Str} {j:Nat} {pos:Pos} {es:List Expr} {zs:List Str}:Consts es zs->Consts (.Constant (.str x) j pos::es) (x::zs)
theorem kH:∀{es:List Expr}{zs:List Str},Consts es zs->PA X es (λ_ H Q=>Q (zs.map V.str) H)
 | _,_,.nil=>aO
 | _,_,.cons h=>λpos pins s σ H Q I q=>af au (kH h) (by rfl) pos pins s σ H Q I q
theorem CompScope.one{X:Cx}{x y:Str}{scope:Scope}{k:Nat}{c:Addr}(c1:closureFor scope X.env=pure [(y,c)])(c2:∀y∈scope.names,y.2≠.cell)(c3:scope.kind=.function)(c4:∀y∈scope.names,y.2=.local->scope.names.lookup y.1=some .local)
 (c5:scope.names.lookup x=some .local) (nd:[x,y].Nodup) (hc:X.env.cells.lookup y=some c) (c6:((relabel scope X.env).names.all λp=>!(p.2==.cell||p.2==.free)||(([(y,c)]:List (Str×Addr)).lookup p.1).isSome)=true)
 (hr:(relabel scope X.env).names.lookup y=some .cell) (hk:X.N[k]?=some y) (hs:X.env.scope.names.lookup y=some .cell):CompScope X x [y] [k] scope [(y,c)] where
 clos:=c1
 nocell:=c2
 kind:=c3
 names:=c4
 own:=c5
 nd:=nd
 sub:=λp hp=>by
  rw[zN0 hp];exact hc
 has:=c6
 outs:=λj z h=>by
  cases j with
  | zero=>
    have e:y=z:=zU0 h;subst e;erw[hr,k,c,1,hk,by simp [List.lookup],hs]
  | succ j=>simp at h
theorem CompScope.two{X:Cx}{x y z:Str}{scope:Scope}{k l:Nat}{c d:Addr}{cl:List (Str×Addr)}(c1:closureFor scope X.env=pure cl)(c2:∀y∈scope.names,y.2≠.cell)(c3:scope.kind=.function)(c4:∀y∈scope.names,y.2=.local->scope.names.lookup y.1=some .local)
 (c5:scope.names.lookup x=some .local) (nd:[x,y,z].Nodup) (hcl:cl=[(z,d),(y,c)]∨cl=[(y,c),(z,d)]) (hc:X.env.cells.lookup y=some c) (hd:X.env.cells.lookup z=some d) (c6:((relabel scope X.env).names.all λp=>!(p.2==.cell||p.2==.free)||(cl.lookup p.1).isSome)=true)
 (hr:(relabel scope X.env).names.lookup y=some .cell) (hk:X.N[k]?=some y) (hs:X.env.scope.names.lookup y=some .cell)
 (hr2:(relabel scope X.env).names.lookup z=some .cell) (hk2:X.N[l]?=some z) (hs2:X.env.scope.names.lookup z=some .cell):CompScope X x [y,z] [k,l] scope cl where
 clos:=c1
 nocell:=c2
 kind:=c3
 names:=c4
 own:=c5
 nd:=nd
 sub:=λp hp=>by
  rcases hcl with rfl | rfl
  all_goals
   rcases zX0 hp with e | e
   . rw[e];assumption
   . rw[zN0 e];assumption
 has:=c6
 outs:=λj w h=>by
  have nyz:y≠z:=λe=>by simp [e]at nd
  match j,h with
  | 0,h=>
    have e:y=w:=zU0 h;subst e;erw[hr,k,c,1,hk,6,hs];rcases hcl with rfl | rfl
    . have:(y==z)=false:=by simpa using nyz
      simp [List.lookup,this]
    . simp [List.lookup]
  | 1,h=>
    have e:z=w:=zU0 h;subst e;erw[hr2,l,d,1,hk2,6,hs2];rcases hcl with rfl | rfl
    . simp [List.lookup]
    . have:(z==y)=false:=by simpa using Ne.symm nyz
      simp [List.lookup,this]
  | j+2,h=>simp at h
end L2
namespace Mine
open PySem L2
def oE (x:Str):Prop:=x.length<=20/\(∀c∈x.cps.toList,97<=c/\c<=122)/\x≠"aa"
theorem kK{x:Str}{l u:Option Int}{c:Nat}(h:c∈(Txt.slice x l u).cps.toList):c∈x.cps.toList:=by
 have e:Txt.slice x l u=StrLaws.sliceText x l u:=rfl;rw[e]at h;unfold StrLaws.sliceText at h
 split at h
 . exact h
 . let%[i,_|hi]:=List.mem_filterMap.mp (show c∈(List.filterMap _ _) by simpa using h)
   have:=Array.mem_of_getElem? hi
   simpa using this
theorem mem_append{x y:Str}{c:Nat}(h:c∈(x++y).cps.toList):c∈x.cps.toList∨c∈y.cps.toList:=by
 have e:(x++y).cps.toList=x.cps.toList++y.cps.toList:=by simp [Str.cps_append]
 rw[e]at h;exact qH0 h
theorem An {zs:List Str} {c:Nat} (h:c∈(Txt.join "" zs).cps.toList):∃z∈zs,c∈z.cps.toList:=by
 have e:Txt.join "" zs=Str.join "" zs:=by
  cases zs with
  | nil=>rfl
  | cons a r=>exact StrLaws.glued_cons "" r a
 rw[e]at h;rcases(PyProof.Rows.mem_join "" c zs).mp h with h | ⟨_,h⟩
 . exact h
 . have e0:(("":Str)).cps.toList=[]:=by decide
   rw[e0]at h;cases h
inductive Tr where
 | is (x:Str) | yes | no | not (a:Tr) | bin (w:Str) (a b:Tr)
def Tr.size:Tr->Nat
 | .is _=>1 | .yes=>1 | .no=>1 | .not a=>a.size+1 | .bin _ a b=>a.size+b.size+1
def Tr.depth:Tr->Nat
 | .is _=>1 | .yes=>1 | .no=>1 | .not a=>a.depth+1 | .bin _ a b=>max a.depth b.depth+1
def Tr.names:Tr->List Str
 | .is x=>[x] | .yes=>[] | .no=>[] | .not a=>a.names | .bin _ a b=>a.names++b.names
def joinW:List Str:=["and","or","odd","same"]
def Tr.ok(ns:List Str):Tr->Prop
 | .is x=>x∈ns | .yes=>True | .no=>True | .not a=>a.ok ns | .bin w a b=>w∈joinW/\a.ok ns/\b.ok ns
inductive TreeAt(H:Hp):V->Tr->Prop
 | is {a:Addr} {x:Str}:H a=some (.tup [.str "is",.str x])->TreeAt H (.ref a) (.is x)
 | yes {a:Addr}:H a=some (.tup [.str "yes"])->TreeAt H (.ref a) .yes
 | no {a:Addr}:H a=some (.tup [.str "no"])->TreeAt H (.ref a) .no
 | not {a:Addr} {v:V} {t:Tr}:H a=some (.tup [.str "not",v])->TreeAt H v t->TreeAt H (.ref a) (.not t)
 | bin {a:Addr} {w:Str} {v u:V} {t r:Tr}:H a=some (.tup [.str w,v,u])->TreeAt H v t->TreeAt H u r->TreeAt H (.ref a) (.bin w t r)
abbrev bJ(H H':Hp):Prop:=∀a xs,H a=some (.tup xs)->H' a=some (.tup xs)
theorem TreeAt.mono(k:bJ H H')(h:TreeAt H v t):TreeAt H' v t:=by
 induction h with
 | is e=>exact .is (k _ _ e)
 | yes e=>exact .yes (k _ _ e)
 | no e=>exact .no (k _ _ e)
 | not e _ ih=>exact .not (k _ _ e) ih
 | bin e _ _ i1 i2=>exact .bin (k _ _ e) i1 i2
theorem aX(s:Same H H'):bJ H H':=λa _ h=>s a _ h
theorem aZ(F:FeedAt H f)(s:SameBut f H H'):bJ H H':=λa xs h=>s a _ (λz=>by
 erw[o,t,e,_]at F;rw[z,e]at h;cases h) h
def NamesAt(H:Hp)(a:Addr)(ns:List Str):Prop:=H a=some (.lst (ns.map V.str))∨H a=some (.tup (ns.map V.str))
theorem NamesAt.ne(F:FeedAt H f)(h:NamesAt H a ns):a≠f:=λz=>by
 erw[o,t,e,_]at F;subst z;rcases h with h | h
 . rw [e]at h;have h':=HO.lst.inj (zU0 h);cases ns with
   | nil=>cases h'
   | cons x r=>simp at h'
 . rw[e]at h;cases h
theorem NamesAt.feed(F:FeedAt H f)(s:SameBut f H H')(h:NamesAt H a ns):NamesAt H' a ns:=by
 have ne:=h.ne F;rcases h with h | h
 . exact .inl (s _ _ ne h)
 . exact .inr (s _ _ ne h)
theorem NamesAt.same(s:Same H H')(h:NamesAt H a ns):NamesAt H' a ns:=by
 rcases h with h | h
 . exact .inl (s _ _ h)
 . exact .inr (s _ _ h)
theorem NamesAt.seq{K:W.Frag}(h:NamesAt H a ns):SqL K H a (ns.map V.str)∨SqT K H a (ns.map V.str):=by
 rcases h with h | h
 . exact .inl (zG0 h)
 . exact .inr (zC0 h)
theorem NamesAt.ix{K:W.Frag}{x:V}{Q:VK}(h:NamesAt H a ns)(hx:atI (ns.map V.str) i=some x)(q:Q x H):rIxL K (.ref a) (.int i) H Q∨rIxT K (.ref a) (.int i) H Q:=by
 rcases h with h | h
 . exact .inl %[a,_,i,x,1,1,zG0 h,hx|q]
 . exact .inr %[a,_,i,x,1,1,zC0 h,hx|q]
inductive spTree(n:Nat)(vs:List V)(H:Hp)(Q:VK)(u_3:XK):Prop
 |mk:∀(f a:Addr)(room deep:Int)(ns:List Str),vs=[.ref f,.ref a,.int room,.int deep]->FeedAt H f->NamesAt H a ns->ns.length<=6->1<=room->room<=100->1<=deep->deep+1<=(n:Int)+1->(∀(v:V)(t:Tr)(H':Hp),FeedAt H' f->SameBut f H H'->TreeAt H' v t->t.ok ns->(t.size:Int)<=room->(t.depth:Int)<=deep->Q v H')->spTree n vs H Q u_3
theorem nj{α:Type}{l:List α}{i:Int}(h0:0<=i)(h:i<(l.length:Int)):∃v,atI l i=some v/\v∈l:=by
 have hk:i.toNat<l.length:=by omega
 have q:atI l ((i.toNat:Nat):Int)=some l[i.toNat]:=cD (zQ0 hk);have ek:((i.toNat:Nat):Int)=i:=by omega
 rw[ek]at q;erw[_,q,qR0 hk]
end Mine
namespace L2
open PySem PySem.Spec PyProof.Rows
section
variable {X:Cx}
def ua(lo:Int)(n:Nat):List Int:=(List.range n).map λi:Nat=>lo+(i:Int)
theorem BP(lo:Int)(n:Nat):(ua lo n).length=n:=by unfold ua;rw[zE0,qQ0]
theorem zO{lo:Int}{n:Nat}{acc:List Value}(h:ItemsOf (λi v=>∃t,v=Value.int (lo+(i:Int)*1) t) acc.toArray n):Vals ((ua lo n).map V.int) acc:=by
 erw[h1,h2]at h;have l1:acc.length=n:=by simpa using h1
 have key:∀(k:Nat)(l:List Value),(∀i v,l[i]?=some v->∃t,v=Value.int (lo+((k+i:Nat):Int)) t)->Vals (((List.range' k l.length).map λi:Nat=>lo+(i:Int)).map V.int) l:=by
  intro k l
  induction l generalizing k with
  | nil=>intro _;exact .nil
  | cons a r ih=>
    intro h;let%[t|e]:=h 0 a rfl;rw[zM0,List.range'_succ,zZ0,zZ0];refine .cons %[t|by simpa using e] (ih (k+1) λi v hv=>?_);let%[t|e]:=h (i+1) v (by simpa using hv);erw[t,by rw[e];congr 2;omega]
 have:=key 0 acc λi v hv=>by
  let%[t|e]:=h2 i v (by simpa using hv);erw[t,by simpa using e]
 unfold ua;rw[←l1,List.range_eq_range'];exact this
inductive ZtListRng(Q:VK)(vs:(List V))(H1:Hp):Prop
 |mk:∀i j:Int,vs=[.int i,.int j]->-(2 ^ 62)<=i/\i<2 ^ 62/\-(2 ^ 62)<=j/\j<2 ^ 62->j-i<=1000->(∀p,H1 p=none->Q (.ref p) (upd H1 p (.lst ((ua i (j-i).toNat).map V.int))))->ZtListRng Q vs H1
def Bk(ta:TA):TE:=λσ H Q=>ta σ H λvs H1=>ZtListRng Q vs H1
theorem xt {a b:Expr}  {p1 p2 pos1 pos2:Pos} (hc:X.calm=true) (hg1:Gl X "list") (hm1:X.mg "list"=none) (hg2:Gl X "range") (hm2:X.mg "range"=none) (ha:PA X [a,b] ta)
 (hs1:starEach [(.Call (.Name "range" p2) [a,b] [] pos2:Expr)] X.env=[(false,eval (.Call (.Name "range" p2) [a,b] [] pos2) X.env)]:=by rfl) (hs:starEach [a,b] X.env=[(false,eval a X.env),(false,eval b X.env)]:=by rfl) (hs2:starEach [b] X.env=[(false,eval b X.env)]:=by rfl) :
 PE X (.Call (.Name "list" p1) [.Call (.Name "range" p2) [a,b] [] pos2] [] pos1) (Bk ta):=by
 intro pins s σ H Q I h;refine wpAny_Call_Name_kw (iF I hg1 hm1 lI ?_);refine PyProof.Rows.callWith_type1 ?_ hs1 rfl;rw[hs1];show wpAny _ _ (spliced ((false,eval (.Call (.Name "range" p2) [a,b] [] pos2) X.env)::backTo pos1 (starEach [] X.env))) _ _ s;have step:wpAny (model X.prog X.w) X.A (eval (.Call (.Name "range" p2) [a,b] [] pos2) X.env) (λv s1=>∃(r:Addr) (i j:Int) (t u k:Tok) (H1:Hp),v=.ref r/\Inv X pins σ H1 s1/\IsRange s1.heap r i j 1 t u k/\(-(2 ^ 62)<=i/\i<2 ^ 62/\-(2 ^ 62)<=j/\j<2 ^ 62)/\j-i<=1000/\
  ∀p,H1 p=none->Q (.ref p) (upd H1 p (.lst ((ua i (j-i).toNat).map V.int)))) X.xe s:=by
  refine Call_ (iF I hg2 hm2 boot_range (PyProof.Rows.callWith_type1 (thn (ha pos2 pins s σ H _ I h) λus s1 ⟨vs,H1,I1,r1,q1⟩=>?_) (by rw[hs,hs2]) (by rw[hs2];rfl)));erw[i,j,e,q1,q2,q]at q1;subst e;cases r1 with
  | cons r rr=>
    cases rr with
    | cons r' rr=>
      cases rr;erw[t,1]at r;erw[t',1]at r';refine call_range_2 %[_,i,j,_,_,_,H1,1,I1.kept λb o e=>zS0 _ e,IsRange.new ..,q1,q2|q]
 refine Calls.spliced_cons (thn step λv s1 hv=>?_);erw[r,i,j,t,u,k,H1,1,I1,hr,%[a1,a2,a3|a4],hle,q]at hv;refine Calls.spliced_nil ?_;have e2:Builtin.Range.rangeSize i j 1=(((j-i).toNat:Nat):Int):=by rw[rangeSize_one];split <;> omega
 refine call_list_range (I1.ok.hd hc) hr (small_one a1 a2 a3 a4) e2 #[0] λh' tk acc' c' hk hS hacc=>?_
 obtain⟨acc,rfl⟩:∃acc:List Value,acc'=acc.toArray:=%[acc'.toList|by simp]
 have rr:=zO hacc;have I2:Inv X pins σ (upd H1 s1.heap.objs.size (.lst ((ua i (j-i).toNat).map V.int))) { s1 with heap:=h',toks:=tk }:=by
  refine I1.turnedNew (ch:=[]) (λb ob _ eb=>hk b ob eb) (λb hb=>absurd hb (by simp)) (zH0 _) %[6,acc,c',rr|hS];rw[zE0,BP];exact ca #[0]
 erw[.ref s1.heap.objs.size,_,I2,1,q _ (I1.hok.fresh (zH0 _))]
inductive rSum(K:W.Frag)(xs:List V)(H:Hp)(Q:VK):Prop
 |mk:∀(a:Addr)(ns:List Int),xs=[.ref a]->SqL K H a (ns.map V.int)->(∀n∈ns,0<=n)->ns.sum<2 ^ 63->Q (.int ns.sum) H->rSum K xs H Q
theorem rh:∀{bs:List Int}{us:List Value}{i:Nat}{v:Value},Vals (bs.map V.int) us->us[i]?=some v->∃b t,bs[i]?=some b/\v=.int b t
 | [],_,_,_,.nil,h=>by simp at h
 | b::_,_,0,_,.cons r _,h=>by
   simp at h
   subst h;erw[t,e]at r;erw[b,t,1,e]
 | _::_,_,i+1,_,.cons _ t,h=>by
   let%[b,t,h1|h2]:=rh (i:=i) t (by simpa using h);erw[b,t,by simpa using h1,h2]
theorem oF{ns:List Int}(h:∀n∈ns,0<=n)(j:Nat):0<=(ns.take j).sum/\(ns.take j).sum<=ns.sum:=by
 induction ns generalizing j with
 | nil=>simp
 | cons a r ih=>
   cases j with
   | zero=>
     have:=ih (λn hn=>h n (qK0 _ hn)) r.length
     rw[qG0]at this;have a0:=h a qC0;simp only[List.take_zero,List.sum_nil,List.sum_cons];omega
   | succ j=>
     have:=ih (λn hn=>h n (qK0 _ hn)) j
     have a0:=h a qC0;simp only[List.take_succ_cons,List.sum_cons];omega
theorem oM(ns:List Int)(j:Nat):preSum (λi=>ns[i]?.getD 0) j=(ns.take j).sum:=by
 induction j with
 | zero=>simp;rfl
 | succ j ih=>
   show preSum (λi=>ns[i]?.getD 0) j+(λi=>ns[i]?.getD 0) j=_;rw[ih,qI0,List.sum_append];cases e:ns[j]? with
   | none=>simp [e]
   | some x=>simp [e]
theorem rG (hc:X.calm=true):ip X (.builtin "sum") (rSum X.K):=by
 intro pins s σ H xs us Q I r h;erw[a,ns,1,hq,n0,nb,q]at h;let%[u,1|ru]:=kW r;cases ru;let%[its,r',p|hz]:=I.list hq;have hl:=r'.length;rw[zE0]at hl;have hlt:a<s.heap.objs.size:=by erw[o,n,e,_]at p;exact zO0 e
 refine call_sum_walk (wpAny_pyIter_list p.isList ?_);erw[s.heap.objs.size,_,_,_,_,_,λi=>ns[i]?.getD 0,1,Walks.list (A:=X.A.in1) (I.ok.hd hc) s.heap.objs.size a (zV0 hlt) its.toArray,%[%[_,qA0 _ rfl,1|1]|p.isList.push _],6,6,6,6]
 . intro b hb;have hpz:∀o:Obj,(s.heap.push o).objs.size=s.heap.objs.size+1:=λo=>by simp [Heap.push]
   show b<(s.heap.push _).objs.size;rw[hpz];rcases zX0 hb with e | e
   . rw[e];exact Nat.lt_succ_self _
   . rw[zN0 e];exact Nat.lt_succ_of_lt hlt
 . intro i v hP;let%[b,t,hb|1]:=rh r' (i:=i) (v:=v) (by simpa using hP);erw[t,by simp [hb]]
 . intro j hj;have hj':j<ns.length:=by rw[hl];simpa using hj
   have s1:=oF n0 (j+1);rw[oM];erw[6,by unfold InLong;omega];have s2:=oF n0 j;have e:(ns.take (j+1)).sum=(ns.take j).sum+ns[j]:=by rw[qI0,List.sum_append,zQ0 hj'];simp
   have n1:=n0 _ (qR0 hj');show InLong (ns[j]?.getD 0);rw[zQ0 hj'];show InLong ns[j];unfold InLong;omega
 . intro h' tk t' hk;rw[oM,zR0,←hl,qG0];erw[.int _,H,6,%[|0],q];have I1:Inv X pins σ H { s with heap:=s.heap.push { cls:=.type "list_iterator",data:=.fields #[.ref a,.int 0 0] } }:=I.kept (t':=s.toks) λb o e=>zS0 _ e
   refine I1.turnedL (t':=tk) (ch:=[s.heap.objs.size]) (λb o hb e=>hk b o (by simpa using hb) e) λb hb=>?_
   rw[zN0 hb];exact I.fpOk (zH0 _) (I.hok.fresh (zH0 _))
end
theorem yE:Slot "reversed" "__iter__" "reversed.__iter__":=Slot.of (owner:="reversed") (n:="__iter__") (by rw[typeLookup_type,builtinLookup_eq_fast];kernel_rfl) ⋯ ⋯ ⋯ (by first | exact .inl ⋯ | exact .inr ⋯) (by rw[isSubtype_type];kernel_rfl) ⋯
theorem rv_next:Slot "reversed" "__next__" "reversed.__next__":=Slot.of (owner:="reversed") (n:="__next__") (by rw[typeLookup_type,builtinLookup_eq_fast];kernel_rfl) ⋯ ⋯ ⋯ (by first | exact .inl ⋯ | exact .inr ⋯) (by rw[isSubtype_type];kernel_rfl) ⋯
theorem Bg:typeLookup (.type "tuple") "__reversed__"=pure none:=by rw[typeLookup_type,builtinLookup_eq_fast];kernel_rfl
theorem zL:entryFor table "reversed.__iter__"=some Builtin.«dict_keyiterator.__iter__»:=entryFor_alias (by kernel_rfl) rfl (show _="dict_keyiterator.__iter__" by decide) (by kernel_rfl)
theorem sy:entryFor table "reversed.__next__"=some Builtin.«reversed.__next__»:=entryFor_of_tree (by kernel_rfl)
def RevT (h:Heap) (it t:Addr) (i:Int):Prop:=h.get? it=some { cls:=.type "reversed",data:=.fields #[.ref t,rawInt i] }
section
variable {prog:Program} {w:World} {A:Around} {E:Value->Shared->Prop} {s:Shared} {R:Result->Shared->Prop} {it t:Addr}
theorem RevT.typeIs  (h:RevT s.heap it t i):s.TypeIs (.ref it) "reversed":=%[_,h|1]
theorem sG{Q:Value->Shared->Prop}(h:RevT s.heap it t i)(q:Q (.ref it) s):wpAny (model prog w) A (pyIter (.ref it)) Q E s:=
 wpAny_pyIter_slot h.typeIs yE (wpAny_call_entry yE h.typeIs zL (zL0 %[0,"reversed",_,h.typeIs,rv_next.lookup|q]) (by rfl))
theorem qX{i:Nat}{items:Array Value}{x:Value}{Q:Option Value->Shared->Prop}(h:RevT s.heap it t (i:Int))(ht:IsTup s.heap t items)(hx:items[i]?=some x)(hi:(i:Int)<2 ^ 63)
 (q:∀h' tk,RevT h' it t ((i:Int)-1)->Heap.SameBut it s.heap h'->Q (some x) { s with heap:=h',toks:=tk }):wpAny (model prog w) A (pyNext (.ref it)) Q E s:=by
 have hT:=h.typeIs;have hs:i<items.size:=(Array.getElem?_eq_some_iff.mp hx).1;unfold pyNext;refine zF0 (wpAny_attempt (wpAny_callSpecial?_slot hT rv_next (wpAny_call_entry rv_next hT sy ?_ (by rfl))));unfold Builtin.«reversed.__next__»;refine zF0 (wpAny_of_eq (show slotArgs "__next__" 0 %[[.ref it]|[]]=pure (.ref it,[])from rfl) ?_);refine zF0 (wpAny_field h rfl rfl ?_);refine zF0 (wpAny_field h rfl rfl ?_);refine wpAny_ite_split (λhab=>absurd hab #[0]) (λ_=>?_);refine zF0 (wpAny_specialOf (show s.TypeIs (.ref t) "tuple" from ht.typeIs) PyProof.Rows.slot_tuple_getitem.lookup ?_);refine wpAny_ite_split (λhab=>absurd hab (by simp)) (λ_=>?_);refine zF0 (wpAny_mkInt ?_);have e1:seqIndex? (i:Int) items.size=some i:=(uE (by unfold ixN;rw[zD0 #[0],zD0 #[0]];simp)).1;refine zF0 (wpAny_attempt (PyProof.Rows.getItem_tuple (items:=items) (x:=x) ht #[0] hi e1 hx ?_));refine zF0 (wpAny_field h rfl rfl ?_);refine zF0 (wpAny_setField_rec h (by simp) λh' e hb=>?_);refine zL0 %[0|zL0 (q h' _ ?_ hb)];exact e
theorem sj{Q:Option Value->Shared->Prop}(hh:A.handled=none)(h:RevT s.heap it t (-1))
 (q:∀h' tk,Heap.ExtBut it s.heap h'->Q none { s with heap:=h',toks:=tk }):wpAny (model prog w) A (pyNext (.ref it)) Q E s:=by
 have hT:=h.typeIs;unfold pyNext;refine zF0 (wpAny_attempt (wpAny_callSpecial?_slot hT rv_next (wpAny_call_entry rv_next hT sy ?_ (by rfl))));unfold Builtin.«reversed.__next__»;refine zF0 (wpAny_of_eq (show slotArgs "__next__" 0 %[[.ref it]|[]]=pure (.ref it,[])from rfl) ?_);refine zF0 (wpAny_field h rfl rfl ?_);refine zF0 (wpAny_field h rfl rfl ?_);refine wpAny_ite_split (λ_=>?_) (λhab=>absurd ⋯ hab);refine zF0 (wpAny_rule ?_);refine zF0 ?_;show wpAny _ _ (setField (.ref it) 1 (rawInt (-1)) >>= λ_=>setField (.ref it) 0 Value.none) _ _ _;refine zF0 (wpAny_setField_rec h (by simp) λh1 e1 b1=>?_);refine wpAny_setField_rec e1 (by simp) λh2 e2 b2=>?_
 refine zF0 ?_;unfold Builtin.SmallTypes.stopIteration newExc newTuple;refine zF0 (zF0 (wpAny_newObj_type ?_ (by show 0<=sizeLine;decide)));refine zF0 (wpAny_of_eq (show firstArgMember (.type "StopIteration") []=pure .none by rfl') ?_);refine wpAny_newObj_type ?_ (sizeOk_excFields ..);refine wpAny_raiseNew_none hh ?_;refine zF0 (wpAny_isInstance (T:="StopIteration") %[_,qA0 _ rfl|1] isSubtype_stop ?_);refine wpAny_ite_split (λ_=>?_) (λhab=>absurd rfl hab);refine zL0 (q _ _ ?_);exact(b1.extBut.trans b2.extBut).trans λb o hb e=>zS0 _ (zS0 _ e)
theorem Ez:Slot "reversed" "__init__" "object.__init__":=Slot.of (owner:="object") (n:="__init__") (by rw[typeLookup_type,builtinLookup_eq_fast];kernel_rfl) ⋯ ⋯ ⋯ (by first | exact .inl ⋯ | exact .inr ⋯) (by rw[isSubtype_type];kernel_rfl) ⋯
theorem zM:TypeCalled "reversed" "reversed.__new__" "object.__init__":=%[4,F.create_reversed,%[_,_|F.mro_reversed],F.made_reversed,F.plain_reversed_new,F.sub_reversed_self|Ez]
theorem zw:isSubtype (.type "tuple") (.type "dict")=pure false:=by rw[isSubtype_type];kernel_rfl
theorem mY{items:Array Value}{Q:Value->Shared->Prop}(ht:IsTup s.heap t items)(hz:items.size<=sizeLine)
 (q:∀tk,Q (.ref s.heap.objs.size) { s with heap:=s.heap.push { cls:=.type "reversed",data:=.fields #[.ref t,rawInt ((items.size:Int)-1)] },toks:=tk }):wpAny (model prog w) A (call (.type "reversed") [.ref t]) Q E s:=by
 have h63:=jx;refine callType_newIn zM ⋯ (F.typeCall_reversed_1 _) (F.newCall_reversed_1 _) (λ_=>by rfl) F.entry_reversed_new
  (S:=λA R s=>wpAny (model prog w) A.in1 (Builtin.«reversed.__new__» %[[.type "reversed",.ref t]|[]]) (λfin s'=>match fin with | .done f=>R (.ok f) s' | .again c'=>c'.quiet=true/\codeAny (model prog w) A c' R s') (λe s'=>R (.error e) s') s) (λA R s h=>h) ?_
 unfold Builtin.«reversed.__new__»;refine zF0 (wpAny_of_eq (newClass_reversed _) ?_);refine zF0 (wpAny_of_eq (a:=()) rfl ?_);refine zF0 (wpAny_of_eq (a:=()) rfl ?_);refine zF0 (wpAny_specialOf ht.typeIs Bg ?_);refine zF0 ?_;refine zF0 (wpAny_isInstance ht.typeIs zw ?_);refine wpAny_ite_split (λhab=>absurd hab ⋯) (λ_=>?_);refine zF0 (wpAny_specialOf ht.typeIs PyProof.Rows.slot_tuple_getitem.lookup ?_);refine wpAny_ite_split (λ_=>?_) (λhab=>absurd ⋯ hab);refine zL0 ?_;refine wpAny_ite_split (λhab=>absurd hab ⋯) (λ_=>?_);refine zF0 (len_tuple ht #[0] ?_);refine zF0 (zL0 ?_);refine zF0 (wpAny_newObj_type (data:=.fields #[.ref t,rawInt ((items.size:Int)-1)]) ?_ (by show 2<=sizeLine+2;decide));refine zL0 ?_;erw[%[_,qA0 _ rfl|1],q _]
end
end L2
namespace Mine
open PySem L2
def Tr.wf:Tr->Prop
 | .is x=>oE x | .yes=>True | .no=>True | .not a=>a.wf | .bin w a b=>w∈joinW/\a.wf/\b.wf
def Tr.parts:Tr->List Tr
 | .is _=>[] | .yes=>[] | .no=>[] | .not a=>[a] | .bin _ a b=>[a,b]
theorem Tr.ok_wf{ns:List Str}(hn:∀x∈ns,oE x):∀t:Tr,t.ok ns->t.wf
 | .is _,h=>hn _ h
 | .yes,_=>trivial
 | .no,_=>trivial
 | .not a,h=>Tr.ok_wf hn a h
 | .bin _ a b,⟨h,h1,h2⟩=>%[h,Tr.ok_wf hn a h1|Tr.ok_wf hn b h2]
theorem Tr.depth_pos:∀t:Tr,1<=t.depth
 | .is _=>zH0 _ | .yes=>zH0 _ | .no=>zH0 _ | .not a=>Nat.le_add_left .. | .bin _ a b=>Nat.le_add_left ..
def iI(ts:List Tr):Nat:=(ts.map Tr.size).sum
def ik(ts:List Tr):List Str:=(ts.map Tr.names).flatten
theorem Tr.size_parts(t:Tr):t.size=iI t.parts+1:=by
 cases t <;> simp [Tr.size,Tr.parts,iI]
theorem Tr.names_parts(t:Tr)(h:∀x,t≠.is x):t.names=ik t.parts:=by
 cases t with
 | is x=>exact absurd rfl (h x)
 | _=>simp [Tr.names,Tr.parts,ik]
theorem Tr.parts_mem{t u:Tr}(h:u∈t.parts)(w:t.wf):u.wf/\u.depth+1<=t.depth/\u.size+1<=t.size:=by
 cases t with
 | is x=>simp [Tr.parts]at h
 | yes=>simp [Tr.parts]at h
 | no=>simp [Tr.parts]at h
 | not a=>
   rw[zN0 h];erw[w,zH0 _,zH0 _]
 | bin o a b=>
   erw[_,w1,w2]at w;rcases zX0 h with e | e
   . rw [e];erw[w1,6,6]
     . show a.depth+1<=max a.depth b.depth+1;omega
     . show a.size+1<=a.size+b.size+1;omega
   . rw [zN0 e];erw[w2,6,6]
     . show b.depth+1<=max a.depth b.depth+1;omega
     . show b.size+1<=a.size+b.size+1;omega
inductive TreesAt(H:Hp):List V->List Tr->Prop
 | nil:TreesAt H [] []
 | cons {v:V} {t:Tr} {vs:List V} {ts:List Tr}:TreeAt H v t->TreesAt H vs ts->TreesAt H (v::vs) (t::ts)
theorem TreesAt.mono(k:bJ H H')(h:TreesAt H vs ts):TreesAt H' vs ts:=by
 induction h with
 | nil=>exact .nil
 | cons a _ ih=>exact .cons (a.mono k) ih
theorem TreesAt.append(h:TreesAt H vs ts)(g:TreesAt H us rs):TreesAt H (vs++us) (ts++rs):=by
 induction h with
 | nil=>exact g
 | cons a _ ih=>exact .cons a ih
theorem TreesAt.length(h:TreesAt H vs ts):vs.length=ts.length:=by
 induction h with
 | nil=>rfl
 | cons _ _ ih=>rw[zM0,zM0,ih]
theorem TreesAt.get(h:TreesAt H vs ts):∀{i:Nat}{v:V},vs[i]?=some v->∃t,ts[i]?=some t/\TreeAt H v t:=by
 induction h with
 | nil=>intro i v e;simp at e
 | cons a _ ih=>
   intro i v e;cases i with
   | zero=>cases(zU0 e);erw[0,a]
   | succ i=>exact ih (i:=i) (by simpa using e)
theorem xX {w:Str} (h:w∈joinW):w≠"is":=(by decide:∀w∈joinW,w≠("is":Str)) w h
theorem TreeAt.view    (h:TreeAt H v t) (w:t.wf):(∃(a:Addr) (x:Str),v=.ref a/\t=.is x/\oE x/\H a=some (.tup [.str "is",.str x]))∨
 ∃(a:Addr) (o:Str) (xs:List V),v=.ref a/\o≠"is"/\xs.length<=2/\H a=some (.tup (.str o::xs))/\TreesAt H xs t.parts/\(∀x,t≠.is x):=by
 cases h with
 | is e=>exact .inl %[2,w|e]
 | yes e=>exact .inr %[_,_,[],1,4,by simp,e,.nil|λx z=>by cases z]
 | no e=>exact .inr %[_,_,[],1,4,by simp,e,.nil|λx z=>by cases z]
 | not e g=>exact .inr %[_,_,[_],1,4,by simp,e,.cons g .nil|λx z=>by cases z]
 | bin e g g2=>exact .inr %[_,_,[_,_],1,xX w.1,by simp,e,.cons g (.cons g2 .nil)|λx z=>by cases z]
theorem HG(o:V):∀xs:List V,xs.length<=2->kR (o::xs) (some 1) none=xs/\¬ (HT.sIx (o::xs).length 0 (some 1)=0/\HT.sIx (o::xs).length (o::xs).length none=(o::xs).length)
 | [],_=>%[1|λh=>absurd h.1 (show ¬ HT.sIx 1 0 (some 1)=0 by decide)]
 | [_],_=>%[1|λh=>absurd h.1 (show ¬ HT.sIx 2 0 (some 1)=0 by decide)]
 | [_,_],_=>%[1|λh=>absurd h.1 (show ¬ HT.sIx 3 0 (some 1)=0 by decide)]
 | _::_::_::_,h=>absurd h (by simp)
def Tr.data:Tr->PyData
 | .is x=>.tuple [.str "is",.str x] | .yes=>.tuple [.str "yes"] | .no=>.tuple [.str "no"] | .not a=>.tuple [.str "not",a.data] | .bin w a b=>.tuple [.str w,a.data,b.data]
theorem BR{K:W.Frag}(h:TreeAt H v t):Rep K H v t.data:=by
 induction h with
 | is e=>exact .tup (zC0 e) (.cons (.str _) (.cons (.str _) .nil))
 | yes e=>exact .tup (zC0 e) (.cons (.str _) .nil)
 | no e=>exact .tup (zC0 e) (.cons (.str _) .nil)
 | not e _ ih=>exact .tup (zC0 e) (.cons (.str _) (.cons ih .nil))
 | bin e _ _ i1 i2=>exact .tup (zC0 e) (.cons (.str _) (.cons i1 (.cons i2 .nil)))
theorem Bp(h:oE x):PyData.strOk x=true:=by
 unfold PyData.strOk;rw[←Array.all_toList,List.all_eq_true];intro c hc
 have:=h.2.1 c hc
 exact decide_eq_true #[0]
theorem pR:∀t:Tr,t.wf->PyData.canLay0 t.data=true/\PyData.depth t.data<=t.depth+1
 | .is x,h=>by
   have:=Bp h
   simp [Tr.data,PyData.canLay0,PyData.canLayAll0,PyData.depth,PyData.depthAll,Tr.depth,this]
   decide
 | .yes,_=>by
   simp [Tr.data,PyData.canLay0,PyData.canLayAll0,PyData.depth,PyData.depthAll,Tr.depth]
   decide
 | .no,_=>by
   simp [Tr.data,PyData.canLay0,PyData.canLayAll0,PyData.depth,PyData.depthAll,Tr.depth]
   decide
 | .not a,h=>by
   have ih:=pR a h;have w0:PyData.strOk "not"=true:=by decide
   simp [Tr.data,PyData.canLay0,PyData.canLayAll0,PyData.depth,PyData.depthAll,Tr.depth,ih.1,w0]
   omega
 | .bin w a b,⟨hw,h1,h2⟩=>by
   have i1:=pR a h1;have i2:=pR b h2;have w0:PyData.strOk w=true:=(by decide:∀w∈joinW,PyData.strOk w=true) w hw
   simp [Tr.data,PyData.canLay0,PyData.canLayAll0,PyData.depth,PyData.depthAll,Tr.depth,i1.1,i2.1,w0]
   omega
theorem Tr.names_len:∀t:Tr,t.names.length<=t.size
 | .is _=>zH0 _
 | .yes=>zT0 _
 | .no=>zT0 _
 | .not a=>Nat.le_succ_of_le (Tr.names_len a)
 | .bin _ a b=>by
   have:=Tr.names_len a
   have:=Tr.names_len b
   show(a.names++b.names).length<=a.size+b.size+1;rw[zJ0];omega
end Mine
namespace L2
open PySem PySem.Spec PyProof.Rows
section
variable {prog:Program} {w:World} {A:Around} {E:Value->Shared->Prop} {s:Shared}
def Hl(xs:Array Value)(x:Value):Nat->Option PySem.Fin×Unit->Sem (ForInStep (Option PySem.Fin×Unit)):=λi _=>match xs[i]? with
 | some y=>do
   let b ←eqBool y x
   if b=true then do
    let r ←retInt (i:Int)
    pure (ForInStep.done (some r,()))
    else pure (ForInStep.yield (none,()))
 | _=>pure (ForInStep.yield (none,()))
theorem vS{xs:Array Value}{x:Value}{e:Value->Bool}(he:∀y∈xs,SeqAt.EqAt A s y x (e y)){j:Nat}(hj:j<xs.size)(ej:e xs[j]=true)(bf:∀(m:Nat) (hm:m<xs.size),m<j->e xs[m]=false){Q:Option PySem.Fin×Unit->Shared->Prop}
 (q:Q (some (.done (.ret (.int (j:Int) s.toks))),()) { s with toks:=s.toks+1 }):∀(n k:Nat),k<=j->j<k+n->k+n<=xs.size->wpAny (model prog w) A (forIn (List.range' k n 1) ((none:Option PySem.Fin),()) (Hl xs x)) Q E s
 | 0,k,h1,h2,_=>absurd h2 #[0]
 | n+1,k,h1,h2,h3=>by
   have hk:k<xs.size:=by omega
   rw [List.range'_succ,List.forIn_cons];refine zF0 ?_;have e1:Hl xs x k ((none:Option PySem.Fin),())=(do
    let b ←eqBool xs[k] x
    if b=true then do
     let r ←retInt (k:Int)
     pure (ForInStep.done (some r,()))
     else pure (ForInStep.yield (none,()))):=by
    unfold Hl;rw[Array.getElem?_eq_getElem hk]
   rw[e1];refine zF0 (he _ (Array.getElem_mem hk) prog w _ _ ?_)
   by_cases c:k=j
   . subst c;rw[ej];refine wpAny_ite_split (λ_=>?_) (λhab=>absurd rfl hab);refine zF0 ?_;refine zF0 (wpAny_mkInt ?_);refine zL0 ?_;refine zL0 ?_;exact zL0 q
   . rw[bf k hk #[0]];refine wpAny_ite_split (λhab=>absurd hab ⋯) (λ_=>?_);refine zL0 ?_;exact vS he hj ej bf q n (k+1) #[0] #[0] #[0]
theorem qZ(l:Addr)(items:Array Value)(n:Nat)(dd:Option Addr)(sl:Array (Option Value))(x:Value)(e:Value->Bool)(j:Nat)(hj:j<items.size)(ej:e items[j]=true)(bf:∀(m:Nat) (hm:m<items.size),m<j->e items[m]=false) :
 Meets (Builtin.«tuple.index» { pos:=[.ref l,x] }) λA R s=>s.heap.get? l=some { cls:=.type "tuple",dict:=dd,data:=.seq items n,slots:=sl }/\(∀y∈items,SeqAt.EqAt A.in1 s y x (e y))/\R (.ok (.ret (.int (j:Int) s.toks))) { s with toks:=s.toks+1 }:=by
 intro prog w A R s ⟨hl,he,q⟩;unfold Builtin.«tuple.index»;refine zF0 (wpAny_of_eq (a:=(Value.ref l,[x])) rfl ?_);refine zF0 (wpAny_tupleItemsOf hl rfl ?_);refine zF0 (zL0 ?_);refine zF0 (zL0 ?_);refine zF0 ?_;rw[Std.Legacy.Range.forIn_eq_forIn_range'];have e1:Std.Legacy.Range.size [0:min items.size items.size]=items.size:=by simp [Std.Legacy.Range.size]
 rw[e1];refine vS he hj ej bf ?_ items.size 0 (zT0 _) #[0] #[0];exact zL0 q
end
section
variable {X:Cx}
def eO(z:Str):List Str->Option Nat
 | []=>none
 | a::r=>if a=z then some 0 else(eO z r).map (·+1)
theorem qM:∀{ns:List Str}{j:Nat},eO z ns=some j->ns[j]?=some z/\∀m,m<j->∀y,ns[m]?=some y->y≠z
 | [],_,h=>by simp [eO]at h
 | a::r,j,h=>by
   unfold eO at h
   by_cases c:a=z
   . rw[zD0 c]at h;cases h;erw[by simp [c],λm hm=>absurd hm #[0]]
   . rw [zA0 c]at h;let%[i,hi|1]:=qV0 h;let%[h1|h2]:=qM hi;erw[by simpa using h1,λm hm y hy=>?_];cases m with
     | zero=>cases(zU0 hy);exact c
     | succ m=>exact h2 m #[0] y (by simpa using hy)
theorem qf:∀{bs:List Str}{us:List Value}{i:Nat}{v:Value},Vals (bs.map V.str) us->us[i]?=some v->∃b t,bs[i]?=some b/\v=.str b t
 | [],_,_,_,.nil,h=>by simp at h
 | b::_,_,0,_,.cons r _,h=>by
   simp at h
   subst h;erw[t,e]at r;erw[b,t,1,e]
 | _::_,_,i+1,_,.cons _ t,h=>by
   let%[b,t,h1|h2]:=qf (i:=i) t (by simpa using h);erw[b,t,by simpa using h1,h2]
theorem gX(ns:List Str):(ns.map V.str).all jG=true:=by
 induction ns with
 | nil=>rfl
 | cons a r ih=>rw[zZ0,List.all_cons,ih];rfl
theorem oU{ns:List Str}{j:Nat}(r:Vals (ns.map V.str) its)(h:eO z ns=some j) :
 ∃hj:j<its.toArray.size,eqU (.str z) its.toArray[j]=true/\∀(m:Nat)(hm:m<its.toArray.size),m<j->eqU (.str z) its.toArray[m]=false:=by
 let%[h1|h2]:=qM h;have hl:=r.length;rw[zE0]at hl;have jl:j<ns.length:=(zW0 h1).1;have hj:j<its.toArray.size:=by rw[zR0,←hl];exact jl
 erw[hj,6,λm hm mj=>?_]
 . let%[b,t,e1|e2]:=qf r (i:=j) (v:=its.toArray[j]) (by simp);rw[e2];rw[h1]at e1;cases e1;show(z==z)=true
   simp
 . let%[b,t,e1|e2]:=qf r (i:=m) (v:=its.toArray[m]) (by simp);rw[e2];show(b==z)=false
   have:=h2 m mj b e1
   simpa using this
inductive rIndexT(K:W.Frag)(x:V)(vs:List V)(H:Hp)(Q:VK):Prop
 |mk:∀(a:Addr)(ns:List Str)(z:Str)(j:Nat),x=.ref a->vs=[.str z]->SqT K H a (ns.map V.str)->eO z ns=some j->Q (.int (j:Int)) H->rIndexT K x vs H Q
theorem Aj:MtR X "tuple.index" (rIndexT X.K):=by
 intro pins s σ H x vs v us Q I rx rv h;erw[a,ns,z,j,1,1,hq,hp,q]at h;cases rx;erw[u,1,ru]at rv.one;let%[its,r,%[%[cls,dd,data|sl],ho,hc,n|hd]|hz]:=I.tuple hq;simp only at hc hd;subst hc hd;let%[hj,e1|e2]:=oU r hp;refine call_meets F.slot_tuple_index %[_,ho|1] F.entry_tuple_index (F.args_tuple_index_2 _ _) (qZ a its.toArray n dd sl u (eqU (.str z)) j hj e1 e2) ⟨ho,λy hy=>?_,?_⟩
 . exact gu ru rfl r (gX ns) y (by simpa using hy)
 . erw[.int (j:Int),H,I.tok _,%[|0],q]
inductive rIndexL(K:W.Frag)(x:V)(vs:List V)(H:Hp)(Q:VK):Prop
 |mk:∀(a:Addr)(ns:List Str)(z:Str)(j:Nat),x=.ref a->vs=[.str z]->SqL K H a (ns.map V.str)->eO z ns=some j->Q (.int (j:Int)) H->rIndexL K x vs H Q
theorem Al:MtR X "list.index" (rIndexL X.K):=by
 intro pins s σ H x vs v us Q I rx rv h;erw[a,ns,z,j,1,1,hq,hp,q]at h;cases rx;erw[u,1,ru]at rv.one;let%[its,r,%[%[cls,dd,data|sl],n,ho,hc,hdd|hd]|hz]:=I.list hq;simp only at hc hd;subst hc hd;let%[hj,e1|e2]:=oU r hp;have h63:=jx;have hl:=r.length;refine call_meets F.slot_list_index %[_,ho|1] F.entry_list_index (F.args_list_index_2 _ _) (SeqAt.list_indexAt a its.toArray n dd sl u (eqU (.str z)) j hj (by rw[zR0]at hj;omega) e1 e2) ⟨ho,λy hy=>?_,?_⟩
 . exact gu ru rfl r (gX ns) y (by simpa using hy)
 . erw[.int (j:Int),H,I.tok _,%[|0],q]
end
section
variable {κ:Type} [DecidableEq κ]
def hE(kvs:List (κ×V))(k:κ):Option V:=(kvs.find? λkv=>decide (kv.1=k)).map (·.2)
def mf(kvs:List (κ×V))(k:κ)(v:V):List (κ×V):=
 if(kvs.any λkv=>decide (kv.1=k))=true then kvs.map (λkv=>if kv.1=k then(kv.1,v)else kv)else kvs++[(k,v)]
theorem dH{p:κ×V}{r:List (κ×V)}{k:κ}(e:p.1=k):hE (p::r) k=some p.2:=by simp [hE,List.find?_cons,e]
theorem dI{p:κ×V}{r:List (κ×V)}{k:κ}(e:¬ p.1=k):hE (p::r) k=hE r k:=by simp [hE,List.find?_cons,e]
theorem lN(k:κ):∀kvs:List (κ×V),(kvs.any λkv=>decide (kv.1=k))=(hE kvs k).isSome
 | []=>rfl
 | p::r=>by
   rw[List.any_cons]
   by_cases e:p.1=k
   . simp only[dH e,decide_eq_true e,Bool.true_or,Option.isSome_some]
   . rw[dI e,decide_eq_false e,Bool.false_or];exact lN k r
theorem uT(k j:κ)(y:V):∀kvs:List (κ×V),hE (kvs.map λkv=>if kv.1=k then(kv.1,y)else kv) j=(hE kvs j).map λx=>if j=k then y else x
 | []=>rfl
 | p::r=>by
   have ih:=uT k j y r;rw[zZ0]
   by_cases h:p.1=k
   . rw [zD0 h]
     by_cases e:p.1=j
     . rw[dH (p:=(p.1,y)) e,dH e,Option.map_some,zD0 (e.symm.trans h)]
     . rw[dI (p:=(p.1,y)) e,dI e,ih]
   . rw [zA0 h]
     by_cases e:p.1=j
     . rw[dH (p:=p) e,dH e,Option.map_some,zA0 (λz=>h (e.trans z))]
     . rw[dI (p:=p) e,dI e,ih]
theorem su(k j:κ)(y:V):∀kvs:List (κ×V),hE kvs k=none->hE (kvs++[(k,y)]) j=if j=k then some y else hE kvs j
 | [],_=>by
   by_cases e:k=j
   . rw[zD0 e.symm];exact dH (p:=(k,y)) e
   . rw[zA0 (λz=>e z.symm)];exact dI (p:=(k,y)) e
 | p::r,hn=>by
   rw[List.cons_append];have hk:¬ p.1=k:=λz=>by rw[dH z]at hn;cases hn
   rw[dI hk]at hn;have ih:=su k j y r hn
   by_cases e:p.1=j
   . rw[dH e,dH e,zA0 (λz=>hk (e.trans z))]
   . rw[dI e,dI e,ih]
theorem Ba(kvs:List (κ×V))(k j:κ)(y:V):hE (mf kvs k y) j=if j=k then some y else hE kvs j:=by
 unfold mf
 by_cases a:(kvs.any λkv=>decide (kv.1=k))=true
 . rw [zD0 a,uT];rw[lN]at a
   by_cases e:j=k
   . let%[x|hx]:=Option.isSome_iff_exists.mp a;rw[zD0 e,e,hx,Option.map_some,zD0 rfl]
   . rw [zA0 e];cases hE kvs j with
     | none=>rfl
     | some x=>rw[Option.map_some,zA0 e]
 . rw [zA0 a];refine su k j y kvs ?_;rw[lN]at a;cases q:hE kvs k with
   | none=>rfl
   | some x=>rw[q]at a;exact(a rfl).elim
theorem kg(kvs:List (κ×V))(k:κ)(v:V):(mf kvs k v).length<=kvs.length+1:=by
 unfold mf
 split
 . rw[zE0];omega
 . rw[zJ0,zM0,List.length_nil];omega
theorem RelO.isSome_eq(r:RelO o u):o.isSome=u.isSome:=by
 cases o with
 | none=>cases u with
   | none=>rfl
   | some _=>exact(show False from r).elim
 | some _=>cases u with
   | none=>exact(show False from r).elim
   | some _=>rfl
theorem RelO.getD(r:RelO o u)(rd:RelV d d'):RelV (o.getD d) (u.getD d'):=by
 cases o with
 | none=>cases u with
   | none=>exact rd
   | some _=>exact(show False from r).elim
 | some _=>cases u with
   | none=>exact(show False from r).elim
   | some _=>exact r
theorem KV.val{kvs:List (κ×V)}{vs:List (κ×Value)}(r:KV kvs vs)(k:κ):RelO (hE kvs k) (valueAt vs k):=by
 unfold KV at r
 induction r with
 | nil=>exact True.intro
 | @cons p q ps qs h t ih=>
   erw[h1,h2]at h
   by_cases e:p.1=k
   . have e':q.1=k:=h1.symm.trans e;have b:valueAt (q::qs) k=some q.2:=by simp [valueAt,List.find?_cons,e']
     rw[dH e,b];exact h2
   . have e':¬ q.1=k:=λz=>e (h1.trans z)
     have b:valueAt (q::qs) k=valueAt qs k:=by simp [valueAt,List.find?_cons,e']
     rw[dI e,b];exact ih
theorem KV.any{kvs:List (κ×V)}{vs:List (κ×Value)}(r:KV kvs vs)(k:κ):(kvs.any λkv=>decide (kv.1=k))=vs.any λkv=>decide (kv.1=k):=by
 unfold KV at r
 induction r with
 | nil=>rfl
 | cons h t ih=>rw[List.any_cons,List.any_cons,ih,h.1]
theorem KV.repl{kvs:List (κ×V)}{vs:List (κ×Value)}(r:KV kvs vs)(k:κ)(ry:RelV y u) :
 KV (kvs.map λkv=>if kv.1=k then(kv.1,y)else kv) (vs.map λkv=>if kv.1=k then(kv.1,u)else kv):=by
 unfold KV at r ⊢
 induction r with
 | nil=>exact .nil
 | @cons p q ps qs h t ih=>
   rw[zZ0,zZ0];refine .cons ?_ ih;erw[h1,h2]at h
   by_cases e:p.1=k
   . rw[zD0 e,zD0 (h1.symm.trans e)];erw[h1,ry]
   . rw[zA0 e,zA0 (λz=>e (h1.trans z))];erw[h1,h2]
theorem KV.put{kvs:List (κ×V)}{vs:List (κ×Value)}(r:KV kvs vs)(k:κ)(ry:RelV y u):KV (mf kvs k y) (stored vs k u):=by
 unfold mf stored;rw[r.any k]
 by_cases e:(vs.any λkv=>decide (kv.1=k))=true
 . rw[zD0 e,zD0 e];exact r.repl k ry
 . rw[zA0 e,zA0 e];exact Paired.snoc r %[1|ry]
theorem KV.length{kvs:List (κ×V)}{vs:List (κ×Value)}(r:KV kvs vs):kvs.length=vs.length:=Paired.length r
end
theorem Dk(r:RelV (kV k) u):(dA P w).is k u=true:=by
 cases k with
 | inl i=>let%[t|e]:=(show ∃t,u=Value.int i t from r);subst e;exact vK P w i t
 | inr x=>let%[t|e]:=(show ∃t,u=Value.str x t from r);subst e;exact vJ P w x t
theorem sH:∀{ks:List Key}{us:List Value},Vals (ks.map kV) us->ItemsAre (dA P w) ks us
 | [],_,r=>by rw[List.map_nil]at r;cases r;exact .nil
 | k::ks,_,r=>by
   rw[zZ0]at r;cases r with
   | cons h t=>exact .cons (Dk h) (sH t)
abbrev KT(H:Hp):List (List Key×V)->List (List Key×Addr×Value)->Prop:=Paired λp q=>p.1=q.1/\H q.2.1=some (.tup (p.1.map kV))/\RelV p.2 q.2.2
theorem KT.val{kvs:List (List Key×V)}{xs:List (List Key×Addr×Value)}(r:KT H kvs xs)(k:List Key):RelO (hE kvs k) ((atKey xs k).map (·.2)):=by
 induction r with
 | nil=>exact True.intro
 | @cons p q ps qs h t ih=>
   erw[h1,_,h2]at h
   by_cases e:p.1=k
   . have e':q.1=k:=h1.symm.trans e;have b:atKey (q::qs) k=some q.2:=by simp [atKey,List.find?_cons,e']
     rw[dH e,b];exact h2
   . have e':¬ q.1=k:=λz=>e (h1.trans z)
     have b:atKey (q::qs) k=atKey qs k:=by simp [atKey,List.find?_cons,e']
     rw[dI e,b];exact ih
theorem KT.repl{kvs:List (List Key×V)}{xs:List (List Key×Addr×Value)}(r:KT H kvs xs)(k:List Key)(ry:RelV y u) :
 KT H (kvs.map λkv=>if kv.1=k then(kv.1,y)else kv) (xs.map (putAt k u)):=by
 induction r with
 | nil=>exact .nil
 | @cons p q ps qs h t ih=>
   rw[zZ0,zZ0];refine .cons ?_ ih;erw[h1,h2,h3]at h;unfold putAt
   by_cases e:p.1=k
   . rw[zD0 e,zD0 (h1.symm.trans e)];erw[h1,h2,ry]
   . rw[zA0 e,zA0 (λz=>e (h1.trans z))];erw[h1,h2,h3]
theorem KT.put{kvs:List (List Key×V)}{xs:List (List Key×Addr×Value)}(r:KT H kvs xs)(k:List Key){b:Addr}(hb:H b=some (.tup (k.map kV)))(ry:RelV y u) :
 KT H (mf kvs k y) (storedH xs k b u):=by
 have e:(kvs.any λkv=>decide (kv.1=k))=(atKey xs k).isSome:=by
  rw[lN,(r.val k).isSome_eq,Option.isSome_map]
 unfold mf storedH;rw[e]
 by_cases q:(atKey xs k).isSome=true
 . rw[zD0 q,zD0 q];exact r.repl k ry
 . rw[zA0 q,zA0 q];exact Paired.snoc r %[1,hb|ry]
theorem KT.keeps{H':Hp}{kvs:List (List Key×V)}{xs:List (List Key×Addr×Value)}(r:KT H kvs xs)(ht:∀b ys,H b=some (.tup ys)->H' b=some (.tup ys)):KT H' kvs xs:=
 Paired.mapP r λ_ _ z=>%[z.1,ht _ _ z.2.1|z.2.2]
section
variable {P:Program} {w:World} {H:Hp} {h:Heap} {a:Addr}
theorem FI(ok:HOk P w H h)(e:Rd H a u):ObjOk P w H h a u:=e.ok ok
theorem zd{kvs:List (Key×V)}(ok:HOk P w H h)(e:Rd H a (.dK kvs)):kvs.length<=sizeLine/\(a==sysModules)=false/\∃vs,KV kvs vs/\h.DictOf (dA P w) a vs:=
 show ObjOk P w H h a (.dK kvs)from FI ok e
theorem dk_of{kvs:List (Key×V)}(ok:HOk P w H h)(e:H a=some (.dK kvs)):kvs.length<=sizeLine/\(a==sysModules)=false/\∃vs,KV kvs vs/\h.DictOf (dA P w) a vs:=zd ok (.inl e)
theorem xW{ks:List Key}(ok:HOk P w H h)(e:H a=some (.tup (ks.map kV))):(tupleKind (dA P w)).is h ks a:=by
 let%[_,its,r,%[o,h1,h2,n|h3]|_]:=(show ObjOk P w H h a (.tup (ks.map kV))from ok a _ e)
 erw[o,its.toArray,n,h1,h2,h3,by simpa using sH r]
theorem DF{kvs:List (List Key×V)}(ok:HOk P w H h)(e:Rd H a (.dT kvs)):kvs.length<=sizeLine/\(a==sysModules)=false/\
 ∃xs,KT H kvs xs/\h.DictOfH (tupleKind (dA P w)) a xs:=by
 let%[z,y,xs,r,o,es,ep,h1,h2,h3,h4|h5]:=(show ObjOk P w H h a (.dT kvs)from FI ok e)
 erw[z,y,xs,r,o,es,ep,h1,h2,h3,h4,λx hx=>?_,h5];have all:∀{l:List (List Key×V)}{m:List (List Key×Addr×Value)},KT H l m->∀x∈m,(tupleKind (dA P w)).is h x.1 x.2.1:=by
  intro l m q
  induction q with
  | nil=>intro x hx;exact nomatch hx
  | @cons p q ps qs hq t ih=>
    intro x hx;rcases zX0 hx with e | hx
    . subst e;exact xW ok (by rw[←hq.1];exact hq.2.1)
    . exact ih x hx
 exact all r x hx
theorem dt_of{kvs:List (List Key×V)}(ok:HOk P w H h)(e:H a=some (.dT kvs)):kvs.length<=sizeLine/\(a==sysModules)=false/\
 ∃xs,KT H kvs xs/\h.DictOfH (tupleKind (dA P w)) a xs:=DF ok (.inl e)
end
def DGet(H:Hp)(a:Addr)(y:V)(r:Option V):Prop:=
 (∃kvs k,Rd H a (.dK kvs)/\y=kV k/\r=hE kvs k)∨∃kvs k b,Rd H a (.dT kvs)/\y=.ref b/\H b=some (.tup (k.map kV))/\r=hE kvs k
def DPut(H:Hp)(a:Addr)(y v:V)(H':Hp):Prop:=
 (∃kvs k,H a=some (.dK kvs)/\y=kV k/\kvs.length<sizeLine/\H'=upd H a (.dK (mf kvs k v)))∨
 ∃kvs k b,H a=some (.dT kvs)/\y=.ref b/\H b=some (.tup (k.map kV))/\kvs.length<sizeLine/\H'=upd H a (.dT (mf kvs k v))
theorem DGet.k{H:Hp}{a:Addr}{kvs:List (Key×V)}{k:Key}(e:H a=some (.dK kvs)):DGet H a (kV k) (hE kvs k):=.inl %[kvs,k,.inl e,1|1]
theorem DPut.k{H:Hp}{a:Addr}{kvs:List (Key×V)}{k:Key}(e:H a=some (.dK kvs))(hl:kvs.length<sizeLine):DPut H a (kV k) v (upd H a (.dK (mf kvs k v))):=.inl %[kvs,k,e,1,hl|1]
section
variable {X:Cx} {pins:List (Addr×Obj)} {σ:St} {H:Hp} {s:Shared} {a:Addr} {y v:V} {u r:Value} {o:Option V} {A:Around} {E:Value->Shared->Prop}
theorem Inv.big(I:Inv X pins σ H s):sysModules<s.heap.objs.size:=by
 have h:mainGlobals<s.heap.objs.size:=(I.mod.glob.keeps I.bk).lt;exact Nat.lt_trans ⋯ h
theorem zh{h':Heap}{t':Nat}(I:Inv X pins σ H s)(mu:Mut (H a))(hs:Heap.SameBut a s.heap h')(he:∃q,h'.get? a=some q)(new:ObjOk X.prog X.w (upd H a ob) h' a ob) :
 Inv X pins σ (upd H a ob) { s with heap:=h',toks:=t' }:=
 I.write (x:=a) (e:=a) mu (.inl rfl) (λb q hb z=>(hs.2 b hb).trans z) he new
theorem DI{H':Hp}{h':Heap}{kvs:List (Key×V)}{vs:List (Key×Value)}(z:kvs.length<=sizeLine)(hd:(a==sysModules)=false)(rel:KV kvs vs)(dd:h'.DictOf (dA P w) a vs) :
 ObjOk P w H' h' a (.dK kvs):=%[z,hd,vs,rel|dd]
theorem AM{Q:Unit->Shared->Prop}(hu:A.units+1<cLine)(I:Inv X pins σ H s)(g:DPut H a y v H')(ry:RelV y u)(rv:RelV v r)(h:∀s',Inv X pins σ H' s'->Q () s') :
 wpAny (model X.prog X.w) A (setItem (.ref a) u r) Q E s:=by
 rcases g with⟨kvs,k,e,ey,l,eH⟩ | ⟨kvs,k,b,e,ey,eb,l,eH⟩
 . subst ey eH;let%[z,hd,vs,rel|dd]:=dk_of I.hok e;have hz:vs.length<=sizeLine:=by rw[←rel.length];exact z
   have hl:(mf kvs k v).length<=sizeLine:=by have:=kg kvs k v;omega
   refine wpAny_setItem_pairs (hsz:=hz) (Dk ry) dd λh' dd' hs=>h _ ?_
   have he:∃q,h'.get? a=some q:=let⟨q,_,_,hq,_⟩:=dd';%[q|hq]
   exact zh I (by rw[e];exact True.intro) hs he (DI hl hd (rel.put k rv) dd')
 . subst ey eH;cases(show u=Value.ref b from ry);let%[z,hd,xs,rel|dd]:=dt_of I.hok e;have hz:xs.length<=sizeLine:=by rw[←Paired.length rel];exact z
   have hl:(mf kvs k v).length<=sizeLine:=by have:=kg kvs k v;omega
   refine wpAny_setItem_heap (hsz:=hz) (tupleKind_room_in1 hu) (xW I.hok eb) dd λh' dd' hs=>h _ ?_
   erw[q,es,ep,hq,h2,h3,h4,_,h5]at dd';refine zh I (by rw[e];exact True.intro) hs ⟨q,hq⟩ ⟨hl,hd,_,(rel.put k eb rv).keeps λc ys ec=>?_,q,es,ep,hq,h2,h3,h4,h5⟩;rw[bh (bn ec e (λz=>nomatch z))];exact ec
end
inductive ZsDPut(D:Ends)(σ:St)(v:V)(x:V)(y:V)(H3:Hp):Prop
 |mk:∀a H4,x=.ref a->DPut H3 a y v H4->D.nx σ H4->ZsDPut D σ v x y H3
def sDPut(td ty tv:TE):TS:=λD σ H=>tv σ H λv H1=>td σ H1 λx H2=>ty σ H2 λy H3=>ZsDPut D σ v x y H3
section
variable {X:Cx} {o i e value:Expr} {pos pos' tpos:Pos} {td ty tv:TE}
theorem EC(hu:X.A.units+1<cLine)(ho:PE X o td)(hi:PE X i ty)(hv:PE X value tv)(hs:swapsWith value (some (.Subscript o i pos')) pos.line X.env=pure false) :
 PS X (.Assign [.Subscript o i pos'] value pos) (sDPut td ty tv):=by
 intro pins s σ H D I h;refine wpAny_Assign_Subscript (thn (hv pins s σ H _ I h) λr s1 ⟨v,H1,I1,rv,q1⟩=>thn (ho pins s1 σ H1 _ I1 q1) λu s2 ⟨x,H2,I2,rx,q2⟩=>thn (hi pins s2 σ H2 _ I2 q2) λiv s3 ⟨y,H3,I3,ry,a,H4,ex,g,q3⟩=>?_) hs;subst ex;obtain rfl:u=Value.ref a:=rx;exact AM hu I3 g ry rv λs4 I4=>%[σ,H4,I4|q3]
end
theorem DJ {P:Program} {w:World} {H:Hp} (h:Heap) (hb:sysModules<h.objs.size):ObjOk P w H (h.push { cls:=.type "dict",data:=.dict #[] }) h.objs.size (.dK []):=
 %[zT0 _,beq_eq_false_iff_ne.mpr (Ne.symm (zV0 hb)),[],.nil|Heap.DictOf.new h]
def Gq:TE:=λ_ H Q=>∀p,H p=none->Q (.ref p) (upd H p (.dK []))
section
variable {X:Cx} {pos:Pos}
theorem Cd:PE X (.Dict [] [] pos) Gq:=λpins s σ H Q I h=>
 wpAny_Dict_empty %[.ref s.heap.objs.size,_,I.laid (a:=s.heap.objs.size) (o:=.dK []) (t':=s.toks) (λ_ _ q=>zS0 _ q) (zH0 _) (DJ s.heap I.big),1|h _ (I.hok.fresh (zH0 _))]
end
structure M2(X:Cx)(o:Expr)(m:Str)(apos:Pos)(e f:Expr)(cpos:Pos):Prop where
 base:attributeBase o m X.env (eval o X.env)=eval o X.env
 few:((backTo cpos (starEach [e,f] X.env)).all (λx=>!x.1)&&(backToKw cpos (keywordEach [] X.env)).all (λx=>x.1.isSome)
  &&decide (([e,f]:List Expr).length+([]:List Keyword).length+(if([]:List Keyword).isEmpty then 0 else 1)<30))=true
 line:(apos.endLine==cpos.line)=true
 trees:backTo cpos (starEach [e,f] X.env)=[(false,eval e X.env),(false,eval f X.env)]
def IsD(H:Hp)(a:Addr):Prop:=(∃kvs,Rd H a (.dK kvs))∨∃kvs,Rd H a (.dT kvs)
theorem Hh{σ:St}(I:Inv X pins σ H s)(d:IsD H a) :
 s.TypeIs (.ref a) "dict"/\(∀b,Value.ref a=.ref b->∃ob,s.heap.get? b=some ob/\ob.dict=none)/\(a==sysModules)=false:=by
 rcases d with⟨kvs,e⟩ | ⟨kvs,e⟩
 . let%[_,hd,vs,_|dd]:=zd I.hok e;erw[dd.typeIs,λb q=>?_,hd];cases q;erw[ob,_,_,h1,h2,_]at dd;erw[ob,h1,h2.2.1]
 . let%[_,hd,xs,_|dd]:=DF I.hok e;erw[dd.typeIs,λb q=>?_,hd];cases q;erw[ob,_,_,h1,h2,_]at dd;erw[ob,h1,h2.2.1]
section
variable {X:Cx} {pins:List (Addr×Obj)} {σ:St} {H:Hp} {s:Shared} {a:Addr} {y d:V} {u r:Value} {o:Option V} {A:Around} {E:Value->Shared->Prop}
theorem HE{Q:Value->Shared->Prop}(hu:A.units+1<cLine)(I:Inv X pins σ H s)(g:DGet H a y o)(ry:RelV y u)(rd:RelV d r)(h:∀w' s',Inv X pins σ H s'->RelV (o.getD d) w'->Q w' s') :
 wpAny (model X.prog X.w) A (call (.builtin "dict.get") [.ref a,u,r]) Q E s:=by
 rcases g with⟨kvs,k,e,ey,l⟩ | ⟨kvs,k,b,e,ey,eb,l⟩
 . subst ey;let%[z,hd,vs,rel|dd]:=zd I.hok e;refine call_meetsIn PySem.F.slot_dict_get dd.typeIs PySem.F.entry_dict_get (PySem.F.args_dict_get_3 _ _ _) (meets_dict_get_default (dA X.prog X.w) a (Dk ry) hd r) %[_,dd.mapOf|h _ _ (I.tok _) ?_];rw[l];exact(rel.val k).getD rd
 . subst ey;cases(show u=Value.ref b from ry);let%[z,hd,xs,rel|dd]:=DF I.hok e;refine call_meetsIn PySem.F.slot_dict_get dd.typeIs PySem.F.entry_dict_get (PySem.F.args_dict_get_3 _ _ _) (meetsH_dict_get_default (tupleKind (dA X.prog X.w)) a b hd r) %[tupleKind_room_in1 hu,k,xs,xW I.hok eb,dd|h _ _ (I.tok _) ?_];rw[l];exact(rel.val k).getD rd
end
inductive ZtDGet2(ty:TE)(tx:TE)(σ:St)(Q:VK)(x:V)(H1:Hp):Prop
 |mk:∀a,x=.ref a->IsD H1 a->(ty σ H1 λy H2=>tx σ H2 λz H3=>∃o,DGet H3 a y o/\Q (o.getD z) H3)->ZtDGet2 ty tx σ Q x H1
def Gs(td ty tx:TE):TE:=λσ H Q=>td σ H λx H1=>ZtDGet2 ty tx σ Q x H1
section
variable {X:Cx} {o e f:Expr} {apos cpos:Pos} {td ty tx:TE}
theorem Ce (hu:X.A.units+1<cLine) (ho:PE X o td) (he:PE X e ty) (hf:PE X f tx) (m:M2 X o "get" apos e f cpos):PE X (.Call (.Attribute o "get" apos) [e,f] [] cpos) (Gs td ty tx):=by
 intro pins s σ H Q I h;refine wpAny_Call_method m.base m.few m.line PySem.F.plainAttrs_dict PySem.F.slot_dict_get PySem.F.type_dict_get (thn (ho pins s σ H _ I h) λu s1 ⟨x,H1,I1,rx,a,ex,d,q1⟩=>?_);subst ex;obtain rfl:u=Value.ref a:=rx;let%[t1,t2|_]:=Hh I1 d;erw[t1,t2,6];rw[m.trees];refine Calls.callWith_builtin rfl (Calls.evalArgs_plain (Calls.spliced_cons (thn (he pins s1 σ H1 _ I1 q1) λiv s2 ⟨y,H2,I2,ry,q2⟩=>
  Calls.spliced_cons (thn (hf pins s2 σ H2 _ I2 q2) λfv s3 ⟨z,H3,I3,rz,ov,g,q3⟩=>Calls.spliced_nil ?_))))
 exact HE hu I3 g ry rz λw' s4 I4 rw'=>%[_,H3,I4,rw'|q3]
end
section
variable {X:Cx} {pins:List (Addr×Obj)} {σ:St} {H:Hp} {s:Shared} {a:Addr} {kvs:List (Key×V)} {A:Around} {E:Value->Shared->Prop}
theorem DM {Q:Value->Shared->Prop} (I:Inv X pins σ H s) (e:Rd H a (.dK kvs)) (h:∀p s',H p=none->Inv X pins σ (upd H p (.dK kvs)) s'->Q (.ref p) s'):wpAny (model X.prog X.w) A (call (.type "dict") [.ref a]) Q E s:=by
 let%[z,hd,vs,rel|dd]:=zd I.hok e;refine kt_call_dict hd dd (by rw[←rel.length];exact z) λh' dd' hs=>?_
 refine h _ _ (I.hok.fresh (zH0 _)) (I.laid (a:=s.heap.objs.size) (o:=.dK kvs) (t':=s.toks) (λb q hq=>?_) (zH0 _) (DI z (beq_eq_false_iff_ne.mpr (Ne.symm (zV0 I.big))) rel dd'));exact(hs.2 b (zV0 (zO0 hq))).trans (zS0 _ hq)
end
section
variable {X:Cx}
theorem Inv.tupD{σ:St}{a:Addr}{xs:List V}(I:Inv X pins σ H s)(h:H a=some (.tup xs)):∃ob,s.heap.get? a=some ob/\ob.dict=none:=by
 let%[_,_,_,_,o,e|d]:=(show ObjOk X.prog X.w H s.heap a (.tup xs)from I.hok a _ h)
 erw[o,e,d]
inductive ZtIndex(t:TA)(σ:St)(Q:VK)(x:V)(H1:Hp):Prop
 |mk:∀(a:Addr)(ns:List Str),x=.ref a->H1 a=some (.lst (ns.map V.str))∨H1 a=some (.tup (ns.map V.str))->(t σ H1 λvs H2=>(H2 a=H1 a)/\∃(z:Str)(j:Nat),vs=[.str z]/\eO z ns=some j/\Q (.int (j:Int)) H2)->ZtIndex t σ Q x H1
def Gn(K:W.Frag)(to:TE)(t:TA):TE:=λσ H Q=>to σ H λx H1=>ZtIndex t σ Q x H1
variable {o e:Expr} {es:List Expr} {to:TE} {t:TA} {apos cpos:Pos}
theorem vn (pl:PlainAttrs "list") (pt:PlainAttrs "tuple") (ho:PE X o to) (ha:PA X (e::es) t)
 (hbase:attributeBase o "index" X.env (eval o X.env)=eval o X.env:=by rfl)
 (hfew:((backTo cpos (starEach (e::es) X.env)).all (λx=>!x.1)&&(backToKw cpos (keywordEach [] X.env)).all (λx=>x.1.isSome)
  &&decide ((e::es).length+([]:List Keyword).length+(if([]:List Keyword).isEmpty then 0 else 1)<30))=true:=by rfl)
 (hline:(apos.endLine==cpos.line)=true:=by rfl) (hs:starEach (e::es) X.env=(false,eval e X.env)::starEach es X.env:=by rfl) (hplain:(backTo cpos (starEach es X.env)).any (·.1)=false:=by rfl) :
 PE X (.Call (.Attribute o "index" apos) (e::es) [] cpos) (Gn X.K to t):=by
 intro pins s σ H Q I h;refine wpAny_Call_method_late hbase hfew hline rfl (thn (ho pins s σ H _ I h) λv s1 ⟨x,H1,I1,r1,a,ns,ex,hh,q1⟩=>?_);subst ex;cases r1;have hA:=ha cpos pins s1 σ H1 _ I1 q1;rw[hs]at hA ⊢;rcases hh with hh | hh
 . let%[its,_,p|_]:=I1.list (zG0 hh);let%[ob,n,e1,c,d|_]:=id p;erw["list","list.index",pl,F.slot_list_index,F.type_list_index,p.isList.typeIs,λb eb=>?_,6]
   . cases eb;erw[ob,e1,d]
   . refine Calls.callWith_builtin (by show(false||(backTo cpos (starEach es X.env)).any (·.1))=false;rw[hplain] <;> rfl) (Calls.evalArgs_plain ?_);exact thn hA λus s2 ⟨vs,H2,I2,r2,ek,z,j,ez,hp,q2⟩=>Al pins s2 σ H2 (.ref a) vs (.ref a) us Q I2 rfl r2 %[a,ns,z,j,1,ez,zG0 (ek.trans hh),hp|q2]
 . let%[its,_,p|_]:=I1.tuple (zC0 hh);erw["tuple","tuple.index",pt,F.slot_tuple_index,F.type_tuple_index,p.typeIs,λb eb=>?_,6]
   . cases eb;exact I1.tupD hh
   . refine Calls.callWith_builtin (by show(false||(backTo cpos (starEach es X.env)).any (·.1))=false;rw[hplain] <;> rfl) (Calls.evalArgs_plain ?_);exact thn hA λus s2 ⟨vs,H2,I2,r2,ek,z,j,ez,hp,q2⟩=>Aj pins s2 σ H2 (.ref a) vs (.ref a) us Q I2 rfl r2 %[a,ns,z,j,1,ez,zC0 (ek.trans hh),hp|q2]
end
section
variable {X:Cx}
theorem sK:∀{xs:List V}{us:List Value},Vals xs us->xs.all jG=true->us.countP (eqU x)=xs.countP λy=>eqV y x
 | _,_,.nil,_=>rfl
 | y::xs,u::us,.cons r t,f=>by
   rw[List.all_cons,Bool.and_eq_true]at f;rw[List.countP_cons,List.countP_cons,ye r f.1,sK t f.2]
inductive rCountL(K:W.Frag)(x:V)(vs:List V)(H:Hp)(Q:VK):Prop
 |mk:∀(a:Addr)(xs:List V)(z:V),x=.ref a->vs=[z]->SqL K H a xs->xs.all jG=true->jG z=true->Q (.int ((xs.countP λy=>eqV y z:Nat):Int)) H->rCountL K x vs H Q
theorem CY:MtR X "list.count" (rCountL X.K):=by
 intro pins s σ H x vs v us Q I rx rv h;erw[a,xs,z,1,1,hq,fs,fz,q]at h;cases rx;erw[u,1,ru]at rv.one;let%[its,r,%[%[cls,dd,data|sl],n,ho,hc,hdd|hd]|hz]:=I.list hq;simp only at hc hd;subst hc hd;refine call_meets F.slot_list_count %[_,ho|1] F.entry_list_count (F.args_list_count_2 _ _) (SeqAt.list_countAt a its.toArray n dd sl u (eqU z)) ⟨ho,λy hy=>?_,?_⟩
 . exact gu ru fz r fs y (by simpa using hy)
 . rw[show its.toArray.toList=its from rfl,sK r fs];erw[.int ((xs.countP λy=>eqV y z:Nat):Int),H,I.tok _,%[|0],q]
end
def dY(g:Nat->Int):Nat->Int
 | 0=>g 0
 | k+1=>if dY g k<g (k+1)then g (k+1)else dY g k
theorem wj(g:Nat->Int):∀n k,k<=n->g k<=dY g n
 | 0,k,h=>by
   have e:k=0:=by omega
   subst e;exact Int.le_refl _
 | n+1,k,h=>by
   unfold dY
   by_cases c:k=n+1
   . subst c
     split <;> omega
   . have:=wj g n k #[0]
     split <;> omega
def xP(ns:List Int)(d:Int):Int:=match ns with | []=>d | _::_=>dY (λi=>ns[i]?.getD 0) (ns.length-1)
theorem uB{ns:List Int}{x:Int}(h:x∈ns):x<=xP ns d:=by
 let%[i,hi|e]:=List.getElem_of_mem h;cases ns with
 | nil=>cases h
 | cons a r=>
   have:=wj (λi=>(a::r)[i]?.getD 0) ((a::r).length-1) i #[0]
   simp only[zQ0 hi,Option.getD_some,e]at this;exact this
section
variable {prog:Program} {w:World} {A:Around} {R:Result->Shared->Prop} {I S:Addr} {fp wr:List Addr} {n:Nat} {P:Nat->Value->Prop} {St:Nat->Heap->Prop} {g:Nat->Int} {kw:List (Str×Value)}
theorem pK:(toString "max"++toString ".loop":String)="max.loop":=by decide
theorem CU(W:Walks prog w A.in1 I fp wr n P St)(gv:∀i v,P i v->∃t,v=Value.int (g i) t)(nS:S∉fp):∀(k j:Nat)(s:Shared)(t:Tok)(c:Nat),j+1+k=n->St (j+1) s.heap ->
 s.heap.get? S=some { cls:=.type "list",dict:=none,data:=.seq #[.int (dY g j) t,.int (dY g j) t] c,slots:=#[] } ->
 (∀t' h' tk,(∀b o,b∉wr->b≠S->s.heap.get? b=some o->h'.get? b=some o)->R (.ok (.ret (.int (dY g (n-1)) t'))) { s with heap:=h',toks:=tk }) ->
 codeAny (model prog w) A (.builtin "max.loop" %[[.ref I,.none,.ref S]|kw]) R s:=by
 have nw:S∉wr:=λz=>nS (W.sub _ z)
 intro k
 induction k with
 | zero=>
   intro j s t c ek st eS q;refine codeAny_builtin F.entry_max_loop ?_;rw[Around.under_plainId F.plain_max_loop _];show wpAny _ A.in1 (seqItems? (.ref S) >>= _) _ _ s;refine zF0 (wpAny_seqItems eS rfl ?_);show wpAny _ A.in1 (tryCatch (pyNext (.ref I)) _ >>= _) _ _ s;refine zF0 (wpAny_tryCatch (W.done s _ _ (by rw[←ek];exact st) λh' tk kp=>?_));show wpAny _ A.in1 (updateSeq S (λ_=>#[]) >>= _) _ _ _;refine zF0 ?_;refine wpAny_updateSeq (kp S _ nw eS) rfl (zF0 (wpAny_letGo (zL0 ?_)));have e:n-1=j:=by omega
   rw[e]at q;exact q t _ tk λb o h1 h2 eb=>(Heap.get?_update_other _ _ (Ne.symm h2)).trans (kp b o h1 eb)
 | succ k ih=>
   intro j s t c ek st eS q;refine codeAny_builtin F.entry_max_loop ?_;rw[Around.under_plainId F.plain_max_loop _];show wpAny _ A.in1 (seqItems? (.ref S) >>= _) _ _ s;refine zF0 (wpAny_seqItems eS rfl ?_);show wpAny _ A.in1 (tryCatch (pyNext (.ref I)) _ >>= _) _ _ s;refine zF0 (wpAny_tryCatch (W.item (j+1) s _ _ #[0] st λv h' tk pv st' kp=>?_));let%[tv|1]:=gv _ _ pv;have eS':=kp S _ nw eS;show wpAny _ A.in1 (tryCatch (holding [Value.int (g (j+1)) tv,Value.int (g (j+1)) tv] (richCompare .Gt (Value.int (g (j+1)) tv) (Value.int (dY g j) t) >>= _)) _ >>= _) _ _ _;refine zF0 (wpAny_tryCatch (wpAny_holding (zF0 (CmpOf.ints_gt (prog:=prog) (w:=w) (A:=A.in1) (P:=λi v=>∃t,v=Value.int (if i=0 then dY g j else g (j+1)) t) (λi=>if i=0 then dY g j else g (j+1)) (λi v h=>h) 1 0 _ _ _ _ _ %[tv|1] ⟨t,rfl⟩ ?_))));refine zF0 (wpAny_holding (wpAny_truthy_bool ?_));refine zF0 (wpAny_letGo (zL0 ?_))
   by_cases c1:dY g j<g (j+1)
   . have e1:dY g (j+1)=g (j+1):=by unfold dY;rw[zD0 c1]
     refine wpAny_ite_split (λ_=>?_) (λhab=>absurd (decide_eq_true c1) hab);refine zF0 ?_;refine wpAny_updateSeq eS' rfl (zF0 (wpAny_letGo ?_));rw[pK];refine zL0 %[plainId_quiet F.plain_max_loop _|ih (j+1) _ tv _ #[0] (W.frame _ _ _ st' λb hb o eb=>?_) (by rw[e1];exact Heap.get?_update_self _ eS' rfl) λt' h2 tk2 kp2=>?_]
     . exact(Heap.get?_update_other _ _ (λz:S=b=>nS (by rw[z];exact hb))).trans eb
     . exact q t' h2 tk2 λb o h1 h3 eb=>kp2 b o h1 h3 ((Heap.get?_update_other _ _ (Ne.symm h3)).trans (kp b o h1 eb))
   . have e1:dY g (j+1)=dY g j:=by unfold dY;rw[zA0 c1];cases j <;> rfl
     refine wpAny_ite_split (λhab=>absurd (of_decide_eq_true hab) c1) (λ_=>?_);refine zF0 (wpAny_letGo ?_);rw[pK];refine zL0 %[plainId_quiet F.plain_max_loop _|ih (j+1) _ t c #[0] st' (by rw[e1];exact eS') λt' h2 tk2 kp2=>?_];exact q t' h2 tk2 λb o h1 h3 eb=>kp2 b o h1 h3 (kp b o h1 eb)
theorem CV (W:Walks prog w A.in1 I fp wr n P St) (gv:∀i v,P i v->∃t,v=Value.int (g i) t) (nS:S∉fp) (hn:0<n) {s:Shared} {c:Nat} (st:St 0 s.heap) (eS:s.heap.get? S=some { cls:=.type "list",dict:=none,data:=.seq #[] c,slots:=#[] })
 (q:∀t' h' tk,(∀b o,b∉wr->b≠S->s.heap.get? b=some o->h'.get? b=some o)->R (.ok (.ret (.int (dY g (n-1)) t'))) { s with heap:=h',toks:=tk }) :
 codeAny (model prog w) A (.builtin "max.loop" %[[.ref I,.none,.ref S]|kw]) R s:=by
 have nw:S∉wr:=λz=>nS (W.sub _ z)
 refine codeAny_builtin F.entry_max_loop ?_;rw[Around.under_plainId F.plain_max_loop _];show wpAny _ A.in1 (seqItems? (.ref S) >>= _) _ _ s;refine zF0 (wpAny_seqItems eS rfl ?_);show wpAny _ A.in1 (tryCatch (pyNext (.ref I)) _ >>= _) _ _ s;refine zF0 (wpAny_tryCatch (W.item 0 s _ _ hn st λv h' tk pv st' kp=>?_));let%[tv|1]:=gv _ _ pv;have eS':=kp S _ nw eS;show wpAny _ A.in1 (updateSeq S (λ_=>#[Value.int (g 0) tv,Value.int (g 0) tv]) >>= _) _ _ _;refine zF0 ?_;refine wpAny_updateSeq eS' rfl ?_;rw[pK];refine zL0 %[plainId_quiet F.plain_max_loop _|CU W gv nS (n-1) 0 _ tv _ #[0] (W.frame _ _ _ st' λb hb o eb=>?_) (Heap.get?_update_self _ eS' rfl) λt' h2 tk2 kp2=>?_]
 . exact(Heap.get?_update_other _ _ (λz:S=b=>nS (by rw[z];exact hb))).trans eb
 . exact q t' h2 tk2 λb o h1 h3 eb=>kp2 b o h1 h3 ((Heap.get?_update_other _ _ (Ne.symm h3)).trans (kp b o h1 eb))
end
section
variable {X:Cx} {e k:Expr} {te tk:TE} {pos p1 kp:Pos}
inductive rMax1(K:W.Frag)(xs:List V)(H:Hp)(Q:VK):Prop
 |mk:∀a ns,xs=[.ref a]->SqL K H a (ns.map V.int)->ns≠[]->Q (.int (xP ns 0)) H->rMax1 K xs H Q
theorem iR (hc:X.calm=true):ip X (.builtin "max") (rMax1 X.K):=by
 intro pins s2 σ H2 xs us Q I2 r h;erw[a,ns,1,hq,hn,q]at h;let%[u,1|ru]:=kW r;cases ru;let%[its,r',p|hz]:=I2.list hq;have hl:=r'.length;rw[zE0]at hl;have hlt:a<s2.heap.objs.size:=by erw[o,n,e,_]at p;exact zO0 e
 refine call_function_tree F.kind_max F.plain_max F.entry_max (F.args_max1 _) ?_;show wpAny _ X.A.in1 (Builtin.Builtins.bindParams "max" ["key","default"] 0 %[[]|[]] >>= λ_=>_) _ _ s2;refine zF0 (wpAny_of_eq (a:=[none,none]) rfl ?_);refine zF0 (zL0 ?_);refine zF0 (wpAny_pyIter_list p.isList ?_);refine zF0 (wpAny_newObj_type ?_);rw[pK];have hne:a≠s2.heap.objs.size:=zV0 hlt;have W:=Walks.list (prog:=X.prog) (w:=X.w) (A:=X.A.in1) (I2.ok.hd hc) s2.heap.objs.size a hne its.toArray;have I3:Inv X pins σ H2 { s2 with heap:=s2.heap.push { cls:=.type "list_iterator",data:=.fields #[.ref a,.int 0 0] } }:=I2.kept (t':=s2.toks) λb o eb=>zS0 _ eb
 have I4:Inv X pins σ H2 { s2 with heap:=(s2.heap.push { cls:=.type "list_iterator",data:=.fields #[.ref a,.int 0 0] }).push { cls:=.type "list",data:=.seq #[] } }:=I3.kept (t':=s2.toks) λb o eb=>zS0 _ eb
 have hz1:∀o:Obj,(s2.heap.push o).objs.size=s2.heap.objs.size+1:=λo=>by simp [Heap.push]
 have nS:(s2.heap.push { cls:=.type "list_iterator",data:=.fields #[.ref a,.int 0 0] }).objs.size∉[s2.heap.objs.size,a]:=by
  intro hm;rcases zX0 hm with z | z
  . rw[hz1]at z;exact absurd z (Nat.succ_ne_self _)
  . have z:=zN0 z;rw[hz1]at z;exact absurd z (Nat.ne_of_gt (Nat.lt_succ_of_lt hlt))
 have gv:∀i v,its.toArray[i]?=some v->∃t,v=Value.int (ns[i]?.getD 0) t:=λi v hv=>by
  let%[b,t,hb|1]:=rh r' (i:=i) (v:=v) (by first | exact hv | simpa using hv | (rw[List.getElem?_toArray]at hv;exact hv));erw[t,by rw[hb];rfl]
 have n0:0<ns.length:=List.length_pos_iff.mpr hn;refine zL0 %[plainId_quiet F.plain_max_loop _|CV (g:=λi=>ns[i]?.getD 0) W gv nS (by rw[zR0,←hl];exact n0) %[%[_,zS0 _ (qA0 _ rfl),1|1]|(p.isList.push _).push _] (qA0 _ rfl) λt' h' tk kp=>?_];rw[zR0,←hl];have em:dY (λi=>ns[i]?.getD 0) (ns.length-1)=xP ns 0:=by
  cases ns with
  | nil=>exact absurd rfl hn
  | cons _ _=>rfl
 rw[em];erw[.int _,H2,6,%[|0],q];have J:=Inv.turnedL (h':=h') (t':=tk) (ch:=[s2.heap.objs.size,s2.heap.objs.size+1]) I4 (λb o hb eb=>kp b o (λz=>hb (by rw[zN0 z];exact qC0)) (λz=>hb (by rw[z,hz1];exact qK0 _ qC0)) eb);refine J λb hb=>?_
 rcases zX0 hb with h | h
 . rw[h];exact I2.fpOk (zH0 _) (I2.hok.fresh (zH0 _))
 . rw[zN0 h];exact I2.fpOk (qJ0 _) (I2.hok.fresh (qJ0 _))
end
section
variable {prog:Program} {w:World} {A:Around} {E:Value->Shared->Prop} {s:Shared}
theorem Eg{it t:Addr}{i:Nat}{items:Array Value}{x:Value}{Q:Value->Shared->Prop}(hit:s.heap.IsTupleIter it t i)(ht:s.heap.IsTuple t items)(hx:items[i]?=some x)
 (q:∀h',h'.IsTupleIter it t (i+1)->Heap.SameBut it s.heap h'->Q x { s with heap:=h' }):wpAny (model prog w) A (Builtin.SmallTypes.nextOf (.ref it)) Q E s:=by
 let%[o,ho,hc|hd]:=id hit;erw[ol,hol,_,nl,hdl]at ht;unfold Builtin.SmallTypes.nextOf;refine zF0 (wpAny_callSpecial?_slot (name:=Str.ofString "__next__") hit.typeIs F.slot_tuple_iterator_next (wpAny_call_entry F.slot_tuple_iterator_next hit.typeIs F.entry_tuple_iterator_next ?_ (F.args_tuple_iterator_next_1 _)));show wpAny _ _ (field (.ref it) 0 >>= _) _ _ s;refine zF0 (wpAny_field ho hd (x:=.ref t) rfl ?_);show wpAny _ _ (if(Value.ref t==Value.none)=true then _ else _) _ _ s;rw[zA0 (show ¬ ((Value.ref t==Value.none)=true)from qD0)];show wpAny _ _ (field (.ref it) 1 >>= _) _ _ s;refine zF0 (wpAny_field ho hd (x:=.int i 0) rfl ?_);show wpAny _ _ (seqItems? (.ref t) >>= _) _ _ s;refine zF0 (wpAny_seqItems hol hdl ?_);simp only[qO0,hx];refine zF0 (wpAny_setField ho hd (by simp) (zL0 %[x,1|zL0 (q _ ?_ (Heap.SameBut.update ..))]));erw[_,Heap.get?_update_self _ ho (Obj.isFreed_of_fields (Obj.data_mapFields hd _)),(Obj.cls_mapFields ..).trans hc,by rw[Obj.data_mapFields hd];simp [rawInt]]
theorem Bh{it t:Addr}{i:Nat}{items:Array Value}{Q:Value->Shared->Prop}(hh:A.handled=none)(hit:s.heap.IsTupleIter it t i)(ht:s.heap.IsTuple t items)(hx:items[i]?=none)
 (q:∀h' e,Heap.ExtBut it s.heap h'->(∃o,h'.get? e=some o/\o.cls=.type "StopIteration")->E (.ref e) { s with heap:=h' }):wpAny (model prog w) A (Builtin.SmallTypes.nextOf (.ref it)) Q E s:=by
 let%[o,ho,hc|hd]:=id hit;erw[ol,hol,_,nl,hdl]at ht;unfold Builtin.SmallTypes.nextOf;refine zF0 (wpAny_callSpecial?_slot (name:=Str.ofString "__next__") hit.typeIs F.slot_tuple_iterator_next (wpAny_call_entry F.slot_tuple_iterator_next hit.typeIs F.entry_tuple_iterator_next ?_ (F.args_tuple_iterator_next_1 _)));show wpAny _ _ (field (.ref it) 0 >>= _) _ _ s;refine zF0 (wpAny_field ho hd (x:=.ref t) rfl ?_);show wpAny _ _ (if(Value.ref t==Value.none)=true then _ else _) _ _ s;rw[zA0 (show ¬ ((Value.ref t==Value.none)=true)from qD0)];show wpAny _ _ (field (.ref it) 1 >>= _) _ _ s;refine zF0 (wpAny_field ho hd (x:=.int i 0) rfl ?_);show wpAny _ _ (seqItems? (.ref t) >>= _) _ _ s;refine zF0 (wpAny_seqItems hol hdl ?_);simp only[qO0,hx]
 first
  | refine zF0 (wpAny_rule (zF0 (wpAny_setField ho hd (by simp) (zF0 (wpAny_letGo ?_)))))
  | refine zF0 (wpAny_rule (zF0 (wpAny_setField ho hd (by simp) ?_)))
 show wpAny _ _ (newExc (.type "StopIteration") [] >>= _) _ _ _;refine zF0 ?_;simp only[newExc,newTuple];refine zF0 (wpAny_newObj_type ?_ (by size_fits));refine zF0 (m:=firstArgMember _ _) (wpAny_of_eq (a:=Value.none) (by first | rfl | (simp only[firstArgMember];rfl)) ?_);refine wpAny_newObj_type ?_ (by size_fits);simp only[raiseNew];refine zF0 (wpAny_handled ?_)
 first | rw[show A.in1.handled=none from hh] | rw[hh]
 refine zF0 (zL0 (wpAny_throw ?_));exact q _ _ (((Heap.SameBut.update ..).extBut.push _).push _) %[_,qA0 _ rfl|1]
theorem AI{e it t:Addr}{j:Nat}{i:Int}{old:Value}{items:Array Value}{Q:Option Value->Shared->Prop}(hh:A.handled=none)(he:IsEnum s.heap e it i old)(hit:s.heap.IsTupleIter it t j)(ht:s.heap.IsTuple t items)(hx:items[j]?=none)
 (q:∀h',Heap.ExtBut it s.heap h'->Q none { s with heap:=h' }):wpAny (model prog w) A (pyNext (.ref e)) Q E s:=by
 have hT:s.TypeIs (.ref e) "enumerate":=%[_,he|1]
 unfold pyNext;refine zF0 (wpAny_attempt (wpAny_callSpecial?_slot (name:=Str.ofString "__next__") hT F.slot_enumerate_next (wpAny_call_entry F.slot_enumerate_next hT F.entry_enumerate_next ?_ (F.args_enumerate_next_1 _))));show wpAny _ _ (field (.ref e) 2 >>= _) _ _ _;refine zF0 (wpAny_field he rfl (x:=.ref it) rfl ?_);refine zF0 (Bh hh hit ht hx λh' x he' hx'=>?_);erw[o,ho,hc]at hx';refine zF0 (wpAny_isInstance (T:="StopIteration") (b:=true) %[o,ho|hc] isSubtype_stop ?_);exact zL0 (q h' he')
end
theorem AL{prog:Program}{w:World}{A:Around}(hh:A.handled=none)(it l:Addr)(hne:l≠it)(items:Array Value):Draws prog w A it [it,l] items.size (λi v=>items[i]?=some v) (λi h=>h.IsTupleIter it l i/\h.IsTuple l items) where
 live:=λ_ _ st=>let⟨o,ho,_⟩:=st.1;%[o|ho]
 frame:=λ_ _ _ st k=>%[st.1.at λo e=>k it (by simp) o e|st.2.at λo e=>k l (by simp) o e]
 item:=λi s Q E hi st q=>by
  refine Eg st.1 st.2 (x:=items[i]) (by simp [hi]) λh' a b=>?_
  exact q _ h' s.toks (by simp [hi]) %[a|st.2.extBut b.extBut hne] b
 done:=λs Q E st q=>Bh hh st.1 st.2 (by simp) q
open AutoSeq1 (wpAny_loadPart') in
set_option maxHeartbeats 1000000 in
theorem vL(l:Addr)(items:Array Value)(n:Nat)(dct:Option Addr)(sl:Array (Option Value)) :
 Meets (Builtin.«enumerate.__new__» %[[.type "enumerate",.ref l]|[]]) (λ_ R s=>s.heap.get? l=some { cls:=.type "tuple",dict:=dct,data:=.seq items n,slots:=sl }/\
  R (.ok (.ret (.ref (s.heap.push { cls:=.type "tuple_iterator",data:=.fields #[.ref l,.int 0 0] }).objs.size)))
   { s with heap:=(s.heap.push { cls:=.type "tuple_iterator",data:=.fields #[.ref l,.int 0 0] }).push { cls:=.type "enumerate",data:=.fields #[.none,.bool false,.ref s.heap.objs.size,rawInt 0,.none,.none] } }):=
 .of_wp λprog w A R s h=>by
  erw[hp,g,d,tk,os]at s;erw[hl,h]at h;have hsub:=sub_enumerate;have hL:Heap.IsTuple (Shared.heap %[hp,g,d,tk|os]) l items:=⟨_,hl,rfl,n,rfl⟩
  wp_walk using wpAny_loadPart' hl
  refine wpAny_stack_any λst=>zL0 ?_
  split
  . rename_i c _ _ _ _ _;cases(c==Value.type "enumerate")
    . wp_walk using wpAny_loadPart' hl,wpAny_pyIter_tuple hL
      erw[0,h]
    . wp_walk using wpAny_loadPart' hl,wpAny_pyIter_tuple hL
      erw[0,h]
  . wp_walk using wpAny_loadPart' hl,wpAny_pyIter_tuple hL
    erw[0,h]
section
variable {prog:Program} {w:World} {A:Around} {E:Value->Shared->Prop} {s:Shared}
theorem ym{l:Addr}{items:Array Value}{Q:Value->Shared->Prop}(hL:s.heap.IsTuple l items)
 (q:∀h',IsEnum h' (s.heap.objs.size+1) s.heap.objs.size 0 .none->h'.IsTupleIter s.heap.objs.size l 0->(∀b o,s.heap.get? b=some o->h'.get? b=some o)->Q (.ref (s.heap.objs.size+1)) { s with heap:=h' }) :
 wpAny (model prog w) A (call (.type "enumerate") [.ref l]) Q E s:=by
 erw[%[c,dct,dt|sl],hl,hc,n,hd]at hL
 replace hc:c=.type "tuple":=hc
 replace hd:dt=.seq items n:=hd
 subst hc hd;refine callType_new F.called_enumerate ⋯ (F.typeCall_enumerate_1 _) (F.newCall_enumerate_1 _) (λobj=>F.args_object_init_2 obj _) F.entry_enumerate_new (vL l items n dct sl) %[hl|6];have hz:(s.heap.push { cls:=.type "tuple_iterator",data:=.fields #[.ref l,.int 0 0] }).objs.size=s.heap.objs.size+1:=Heap.size_push ..;show _/\_;rw[hz];have he:IsEnum ((s.heap.push { cls:=.type "tuple_iterator",data:=.fields #[.ref l,.int 0 0] }).push { cls:=.type "enumerate",data:=.fields #[.none,.bool false,.ref s.heap.objs.size,rawInt 0,.none,.none] }) (s.heap.objs.size+1) s.heap.objs.size 0 .none:=by
  have:=qA0 (s.heap.push { cls:=.type "tuple_iterator",data:=.fields #[.ref l,.int 0 0] }) (o:={ cls:=.type "enumerate",data:=.fields #[.none,.bool false,.ref s.heap.objs.size,rawInt 0,.none,.none] }) rfl
  rw[hz]at this;exact this
 erw[%[_,he|1],q _ he ⟨_,zS0 _ (qA0 _ rfl),rfl,rfl⟩ λb o x=>zS0 _ (zS0 _ x)]
end
def DV(K:W.Frag)(a:Addr):It:=
 ⟨λi H=>∃xs x,SqT K H a xs/\xs[i]?=some x,λi H y H'=>∃t,y=.ref t/\H t=none/\∀xs x,SqT K H a xs->xs[i]?=some x->H'=upd H t (.tup [.int i,x]),λi H=>∃xs,SqT K H a xs/\xs.length<=i⟩
theorem wF{K:W.Frag}{elts:List Expr}{k:Nat}{pos:Pos}(a e it:Addr)(hei:e≠it)(hai:a≠it)(hae:a≠e) :
 Turn P w K (.Tuple elts k pos) (DV K a) [e,it] e (λi h=>(∃old,IsEnum h e it i old)/\h.IsTupleIter it a i) where
 mem:=by simp
 obj:=λi h st b hb=>by
  erw[%[old|he],o,e2,c,d]at st;rcases zX0 hb with z | z
  . subst z;erw[_,he,λv z=>nomatch z]
  . have z':=zN0 z;subst z';erw[o,e2,λv z=>by rw[d]at z;cases z]
 keep:=λi h h' st k=>by
  erw[%[old|he],hit]at st;erw[%[old|k e (by simp) _ he],hit.at λo x=>k it (by simp) o x]
 item:=by
  intro X hP hw hK hc i pins s σ H E I hf st hg;subst hP hw hK;erw[xs,x,hq,hx]at hg;let%[its,rv,p|hz]:=I.tuple hq;let%[u,hu|ru]:=rv.get hx;erw[%[old|he],hit]at st;have hi:i<its.toArray.size:=by
   rw[zR0];exact(zW0 hu).1
  refine wpAny_pyNext_enum_itemD (AL (prog:=X.prog) (w:=X.w) (A:=X.A.in1) (I.ok.hd hc) it a hai its.toArray) he %[hit|p] hi hei (by simp [hei,Ne.symm hae]) λy h1 tk hy ho hst1 hT hsz hk=>?_
  have ey:y=u:=by
   have h1:its.toArray[i]?=some u:=by simpa using hu
   rw[h1]at hy;exact(zU0 hy).symm
  subst ey;erw[0,wpAny_letOwnedTupleGo_enum ho λh2 he2 hs2=>?_];have elt:e<s.heap.objs.size:=zO0 he;have hT2:h2.get? s.heap.objs.size=some { cls:=.type "tuple",data:=.seq #[.int i tk,y] }:=(hs2.2 _ (Ne.symm (zV0 elt))).trans hT;have I2:Inv X pins σ (upd H s.heap.objs.size (.tup [.int i,x])) { s with heap:=h2,toks:=tk+1 }:=by
   refine I.turnedNew (ch:=[e,it]) (λb ob hb eb=>?_) hf (zH0 _) %[by show 2<=sizeLine;decide,[.int i tk,y],.cons %[|0] (.cons ru .nil),%[_,hT2,1|0],_,hT2|1];have b1:b≠e:=λz=>hb (by simp [z])
   have b2:b≠it:=λz=>hb (by simp [z])
   exact(hs2.2 b b1).trans (hk b ob b1 b2 eb)
  erw[.ref s.heap.objs.size,_,I2,1,%[0,I.hok.fresh (zH0 _)|λys z hy hyi=>?_],%[%[y|by simpa using he2]|hst1.1.at λo z=>(hs2.2 it (Ne.symm hei)).trans z],λb hb=>?_]
  . have e1:=I.tuple_inj hy hq;subst e1;rw[hx]at hyi;cases hyi;rfl
  . have z:=hf b hb;have hlt:b<s.heap.objs.size:=by
     rcases zX0 hb with y | y
     . rw[y];exact elt
     . rw[zN0 y];erw[o,e2,_]at hit;exact zO0 e2
    rw[bh (zV0 hlt)];exact z.1
 done:=by
  intro X hP hw hK hc i pins s σ H E I hf st hg;subst hP hw hK;erw[xs,hq,hx]at hg;let%[its,rv,p|hz]:=I.tuple hq;erw[%[old|he],hit]at st;have hl:=rv.length;exact AI (I.ok.hd hc) he hit p (Array.getElem?_eq_none (by simp;omega)) λh' eb=>%[1|I.turnedL (t':=s.toks) (ch:=[e,it]) (λb o hb eo=>eb b o (λz=>hb (by simp [z])) eo) hf]
 self:=λ_ _ _ _ _ st h=>by
  erw[%[old|he],_]at st;exact wpAny_pyIter_enum he h
section
variable {X:Cx} {elts:List Expr} {k:Nat} {tpos:Pos}
inductive ZiEnumT(K:W.Frag)(R:(It->Hp->Prop))(x:V)(H1:Hp):Prop
 |mk:∀a,x=.ref a->(∃xs,SqT K H1 a xs)->R (DV K a) H1->ZiEnumT K R x H1
def Hm(K:W.Frag)(tl:TE):TI:=λσ H R=>tl σ H λx H1=>ZiEnumT K R x H1
theorem vi   {p pos:Pos} (hg:Gl X "enumerate") (hm:X.mg "enumerate"=none) (hl:PE X l tl) (hs:starEach [l] X.env=[(false,eval l X.env)]:=by rfl) :
 PI X (.Tuple elts k tpos) (.Call (.Name "enumerate" p) [l] [] pos) (Hm X.K tl):=by
 intro pins s σ H R I h;refine Call_ (iF I hg hm boot_enumerate (PyProof.Rows.callWith_type1 ?_ hs rfl));rw[hs];show wpAny _ _ (spliced ((false,eval l X.env)::backTo pos (starEach [] X.env))) _ _ s;refine Calls.spliced_cons (thn (hl pins s σ H _ I h) λu s1 ⟨x,H1,I1,r1,a,ex,⟨xs,hq⟩,q⟩=>?_);subst ex;cases r1;let%[its,rv,p|hz]:=I1.tuple hq;have alt:=p.lt;refine Calls.spliced_nil ?_;refine ym p λh' he hit hk=>?_
 refine wpAny_pyIter_enum he ?_;have I2:Inv X pins σ H1 { s1 with heap:=h' }:=I1.kept (t':=s1.toks) hk;erw[s1.heap.objs.size+1,[s1.heap.objs.size+1,s1.heap.objs.size],_,_,H1,1,I2,wF a _ _ (Nat.ne_of_gt (Nat.lt_succ_self _)) (zV0 alt) (zV0 (Nat.lt_succ_of_lt alt)),%[%[_|he]|hit],λb hb=>?_,q];rcases zX0 hb with z | z
 . rw[z];exact I1.fpOk (qJ0 _) (I1.hok.fresh (qJ0 _))
 . rw[zN0 z];exact I1.fpOk (zH0 _) (I1.hok.fresh (zH0 _))
end
theorem sI{K:W.Frag}{xs:List V}{g:TG}{tb:TS}{D:Ends}{σ:St}{H:Hp}(Pv:Nat->St->Hp->Prop)(h0:Pv 0 σ H)(hl:∀i σ H,i<=xs.length->Pv i σ H->SqT K H a xs)
 (hs:∀i x σ H t,xs[i]?=some x->Pv i σ H->H t=none->g (.ref t) σ (upd H t (.tup [.int i,x])) λσ2 H2=>tb { D with nx:=Pv (i+1),ct:=Pv (i+1),bk:=D.nx } σ2 H2) (hd:∀ σ H,Pv xs.length σ H->D.nx σ H) :
 ∃ W:Nat->Nat->St->Hp->Prop,(∃m,W 0 m σ H)/\∀i m σ H,W i m σ H ->
  ((DV K a).stop i H/\D.nx σ H)∨((DV K a).go i H/\∃N:St->Hp->Prop,(∀ σ' H',N σ' H'->∃m',m'<m/\W (i+1) m' σ' H')/\∀x H',(DV K a).yld i H x H'->g x σ H' λσ2 H2=>tb { D with nx:=N,ct:=N,bk:=D.nx } σ2 H2):=by
 erw[λi m σ H=>m=xs.length-i/\i<=xs.length/\Pv i σ H,%[xs.length,by simp,zT0 _|h0],6];rintro i m σ H ⟨rfl,hi,p⟩;have q:=hl i σ H hi p
 by_cases hlt:i<xs.length
 . refine .inr %[%[xs,xs[i],q|by simp [hlt]],Pv (i+1),λσ' H' p'=>%[xs.length-(i+1),3,1,hlt|p']|λx H' y=>?_];erw[t,1,ht,e]at y;have e':=e xs xs[i] q (by simp [hlt]);subst e';exact hs i xs[i] σ H t (by simp [hlt]) p ht
 . have e:i=xs.length:=by omega
   subst e;exact .inl %[%[xs,q|zH0 _]|hd σ H p]
def ItV(K:W.Frag)(a:Addr)(xs:List V):It:=%[λi H=>SqL K H a xs/\i<xs.length,λi H y H'=>H'=H/\xs.reverse[i]?=some y|λi _=>xs.length<=i]
theorem zk{K:W.Frag}(a it:Addr)(xs:List V):Turn P w K tg (ItV K a xs) [it] it (λi h=>i<=xs.length/\h.IsRevIter it a ((xs.length:Int)-1-(i:Int))) where
 mem:=by simp
 obj:=λi h st b hb=>by
  have e:b=it:=by simpa using hb
  subst e;erw[_,o,e,c,d]at st;erw[o,e,λv z=>by rw[d]at z;cases z]
 keep:=λi h h' st k=>%[st.1|st.2.at λo e=>k it (by simp) o e]
 item:=by
  intro X hP hw hK hc i pins s σ H E I hf st hg;subst hP hw hK;erw[hq,hi]at hg;let%[its,rv,p|hz]:=I.list hq;have hj:xs.length-1-i<xs.length:=by omega
  have hx:xs[xs.length-1-i]?=some xs[xs.length-1-i]:=zQ0 hj;let%[u,hu|ru]:=rv.get hx;let%[f0,f1,f2,f3,f4|f5]:=hf it (by simp);erw[_,hit]at st;have e1:((xs.length:Int)-1-(i:Int))=((xs.length-1-i:Nat):Int):=by omega
  rw[e1]at hit;refine wpAny_pyNext_rev_item hit p.isList (x:=u) (by simpa using hu) λh' st' sb=>?_
  have I1:Inv X pins σ H { s with heap:=h' }:=I.turned (t':=s.toks) (λb o hb e=>(sb.2 b hb).trans e) f0 f1 f3 f4 f5;have e2:((xs.length-1-i:Nat):Int)-1=(xs.length:Int)-1-((i+1:Nat):Int):=by omega
  rw[e2]at st';let%[o,e,c|d]:=id st';erw[u,1,vU (s:={ s with heap:=h' }) e c d ⋯ ⟨xs[xs.length-1-i],H,I1,ru,⟨rfl,?_⟩,⟨by omega,st'⟩,λb hb=>(hf b hb).1⟩];rw[List.getElem?_reverse hi,hx]
 done:=by
  intro X hP hw hK hc i pins s σ H E I hf st hg;subst hP hw hK;have hg:xs.length<=i:=hg;let%[f0,f1,f2,f3,f4|f5]:=hf it (by simp);erw[hi,hit]at st;have e1:(xs.length:Int)-1-(i:Int)=-1:=by omega
  rw[e1]at hit;exact wpAny_pyNext_rev_end (I.ok.hd hc) hit λh' eb=>%[1|I.turned (t':=s.toks) (λb o hb e=>eb b o hb e) f0 f1 f3 f4 f5]
 self:=λ_ _ _ _ _ st h=>wpAny_pyIter_revIter st.2 h
theorem Dx{K:W.Frag}{xs:List V}{g:TG}{tb:TS}{D:Ends}{σ:St}{H:Hp}(Pv:Nat->St->Hp->Prop)(h0:Pv 0 σ H)(hl:∀i σ H,i<=xs.length->Pv i σ H->SqL K H a xs)
 (hs:∀i x σ H,i<xs.length->xs.reverse[i]?=some x->Pv i σ H->g x σ H λσ2 H2=>tb { D with nx:=Pv (i+1),ct:=Pv (i+1),bk:=D.nx } σ2 H2) (hd:∀ σ H,Pv xs.length σ H->D.nx σ H) :
 ∃ W:Nat->Nat->St->Hp->Prop,(∃m,W 0 m σ H)/\∀i m σ H,W i m σ H ->
  ((ItV K a xs).stop i H/\D.nx σ H)∨((ItV K a xs).go i H/\∃N:St->Hp->Prop,(∀ σ' H',N σ' H'->∃m',m'<m/\W (i+1) m' σ' H')/\∀x H',(ItV K a xs).yld i H x H'->g x σ H' λσ2 H2=>tb { D with nx:=N,ct:=N,bk:=D.nx } σ2 H2):=by
 erw[λi m σ H=>m=xs.length-i/\i<=xs.length/\Pv i σ H,%[xs.length,by simp,zT0 _|h0],6];rintro i m σ H ⟨rfl,hi,p⟩;have q:=hl i σ H hi p
 by_cases hlt:i<xs.length
 . refine .inr %[%[q|hlt],Pv (i+1),λσ' H' p'=>%[xs.length-(i+1),3,1,hlt|p']|λx H' y=>?_];erw[e,ex]at y;subst e;exact hs i x σ _ hlt ex p
 . have e:i=xs.length:=by omega
   subst e;exact .inl %[zH0 _|hd σ H p]
theorem sE {X:Cx} (K:W.Frag) (h:X.K=K:=by rfl):MtR X "list.count" (rCountL K):=by subst h;exact CY
section
variable {X:Cx} {o e:Expr} {es:List Expr} {to ta:TE} {t:TA} {T id:String} {name f:Str} {r:V->List V->Hp->VK->Prop} {apos cpos pos:Pos}
theorem Ci (K:W.Frag) (pa:PlainAttrs T) (slot:Slot T name id) (hty:typeOf (.builtin id)=pure (.type "method_descriptor")) (hm:MtR X id r) (ho:PE X o to) (ha:PA X (e::es) t) (hK:X.K=K:=by rfl)
 (hbase:attributeBase o name X.env (eval o X.env)=eval o X.env:=by rfl)
 (hfew:((backTo cpos (starEach (e::es) X.env)).all (λx=>!x.1)&&(backToKw cpos (keywordEach [] X.env)).all (λx=>x.1.isSome)&&decide ((e::es).length+([]:List Keyword).length+(if([]:List Keyword).isEmpty then 0 else 1)<30))=true:=by rfl)
 (hline:(apos.endLine==cpos.line)=true:=by rfl) (hs:starEach (e::es) X.env=(false,eval e X.env)::starEach es X.env:=by rfl) (hplain:(backTo cpos (starEach es X.env)).any (·.1)=false:=by rfl) :
 PE X (.Call (.Attribute o name apos) (e::es) [] cpos) (tBM K T r to t):=by subst hK;exact eA pa slot hty hm ho ha hbase hfew hline hs hplain
theorem kG(K:W.Frag)(he:PE X e ta)(hK:X.K=K:=by rfl)(hb:attributeBase e f X.env (eval e X.env)=eval e X.env:=by rfl):PE X (.Attribute e f pos) (tFld K ta f):=by subst hK;exact ay he hb
end
@[reducible] def dX (X:Cx) (x:Str) (N:List Str) (scope:Scope) (cl:List (Str×Addr)) (s:Shared) (H:Hp) (fp:List Addr):Cx where
 prog:=X.prog
 w:=X.w
 K:=X.K
 mg:=X.mg
 base:=X.base
 A:=X.A
 N:=x::N
 s₀:=s
 H₀:=H
 env:=compEnvC scope ((x,s.heap.objs.size+1)::cl) s.heap.objs.size X.env
 outer:=X.stack
 stack:=X.stack
 ex:=fp
 fn:=λy=>y==x
 calm:=X.calm
 pn:=[]
 xe:=λ_ _=>False
structure CompScopeO(X:Cx)(x:Str)(N:List Str)(ix:List Nat)(scope:Scope)(cl:List (Str×Addr)):Prop where
 clos:closureFor scope X.env=pure cl
 lay:∀(n:Addr) (h:Heap),cellsFrom n scope.names cl=(x,n)::cl/\pushCells h scope.names=h.push { cls:=.type "cell",data:=.cell none }
 kind:scope.kind=.function
 names:∀y∈scope.names,y.2=.local->scope.names.lookup y.1=some .local
 own:(relabel scope X.env).names.lookup x=some .cell
 nd:(x::N).Nodup
 sub:∀p∈cl,X.env.cells.lookup p.1=some p.2
 has:((relabel scope X.env).names.all λp=>!(p.2==.cell||p.2==.free)||(p.1==x||(cl.lookup p.1).isSome))=true
 outs:∀(j:Nat)(y:Str),N[j]?=some y->(relabel scope X.env).names.lookup y=some .cell/\∃k c,ix[j]?=some k/\X.N[k]?=some y/\cl.lookup y=some c/\X.env.scope.names.lookup y=some .cell
section
variable {X:Cx} {pins:List (Addr×Obj)} {σ:St} {x:Str} {N:List Str} {ix:List Nat} {scope:Scope} {cl:List (Str×Addr)} {fp:List Addr} {H3:Hp} {s3:Shared}
theorem CompScopeO.cells(S:CompScopeO X x N ix scope cl){y:Str}{c:Addr}(h:cl.lookup y=some c):X.env.cells.lookup y=some c:=S.sub _ (PySem.mem_of_lookup h)
theorem eF{x y:Str}{n c:Addr}{cl:List (Str×Addr)}(h:((x,n)::cl).lookup y=some c):(y=x/\c=n)∨(y≠x/\cl.lookup y=some c):=by
 by_cases e:y=x
 . subst e
   simp [List.lookup]at h
   exact .inl %[1|h.symm]
 . have e':(y==x)=false:=by simpa using e
   simp only[List.lookup,e']at h;exact .inr %[e|h]
theorem km{x y:Str}{n:Addr}{cl:List (Str×Addr)}(e:y≠x):((x,n)::cl).lookup y=cl.lookup y:=by
 have e':(y==x)=false:=by simpa using e
 simp only[List.lookup,e']
theorem mV(S:CompScopeO X x N ix scope cl)(I3:Inv X pins σ H3 s3)(hf:∀b∈fp,iS X pins H3 b)(hlt:∀b∈fp,b<s3.heap.objs.size):(dX X x N scope cl s3 H3 fp).Ok where
 mod:=I3.ok.mod
 kind:=S.kind
 glob:=I3.ok.glob
 blt:=I3.ok.blt
 above:=zH0 _
 inj:=λy z c h1 h2=>by
  have lt:∀y c,cl.lookup y=some c->c<s3.heap.objs.size:=λy c e=>by
   let%[v|q]:=I3.cell y c (S.cells e);exact q.lt
  rcases eF h1 with⟨e1,c1⟩ | ⟨e1,l1⟩ <;> rcases eF h2 with⟨e2,c2⟩ | ⟨e2,l2⟩
  . rw[e1,e2]
  . exact absurd (lt z c l2) (by rw[c1];exact Nat.not_lt.mpr (qJ0 _))
  . exact absurd (lt y c l1) (by rw[c2];exact Nat.not_lt.mpr (qJ0 _))
  . exact I3.ok.inj y z c (S.cells l1) (S.cells l2)
 has:=λy hy=>by
  by_cases e:y=x
  . subst e;erw[s3.heap.objs.size+1,by show((y,s3.heap.objs.size+1)::cl).lookup y=_;simp [List.lookup]]
  have q:=List.all_eq_true.mp S.has;have hy:(relabel scope X.env).names.lookup y=some .cell∨(relabel scope X.env).names.lookup y=some .free:=hy;have z:∀k:NameKind,(k==.cell||k==.free)=true->(relabel scope X.env).names.lookup y=some k->∃c,((x,s3.heap.objs.size+1)::cl).lookup y=some c:=λk hk e2=>by
   have r:=q _ (PySem.mem_of_lookup e2);have ey:(y==x)=false:=by simpa using e
   rw[hk]at r;rw[km e];have r':(cl.lookup y).isSome=true:=by simpa [ey]using r
   exact Option.isSome_iff_exists.mp r'
  rcases hy with e | e
  . exact z _ (by rfl) e
  . exact z _ (by rfl) e
 cab:=λy c h e=>by
  have ey:y=x:=by simpa using(show(y==x)=true from h)
  rcases eF e with⟨_,c1⟩ | ⟨n,_⟩
  . rw[c1];exact qJ0 _
  . exact absurd ey n
 hd:=I3.ok.hd
 frames:=I3.ok.frames
 stk:=.inl rfl
 exf:=λb hb=>⟨zV0 (hlt b hb),λy c e=>by
  rcases eF e with⟨_,c1⟩ | ⟨_,l⟩
  . rw[c1];exact Nat.ne_of_gt (Nat.lt_succ_of_lt (hlt b hb))
  . exact(hf b hb).2.2.2.2.1 y c (S.cells l)⟩
 bs:=λb o e=>I3.bs b o e
 bsz:=zP0 I3.ok.bsz I3.sz
 noex:=λb o e hb=>by
  rcases(hf b hb).2.2.2.1 with z | z
  . exact I3.ok.noex b o e z
  . exact absurd (qN0 (zO0 e) (zP0 I3.ok.bsz z)) (qT0 _)
 exfs:=λb hb z=>by
  rcases zX0 (I3.stkSub b z)with e | e
  . exact(hf b hb).2.1 e
  . exact(hf b hb).2.2.1 e
 funs:=I3.stack
 frf:=I3.stkFree
theorem wc(S:CompScopeO X x N ix scope cl)(I3:Inv X pins σ H3 s3)(hf:∀b∈fp,iS X pins H3 b)(hlt:∀b∈fp,b<s3.heap.objs.size)(hix:ix.length=N.length){h1:Heap}{t':Nat}{m:Str->Option Value}
 (hn:h1.Ns s3.heap.objs.size m) (hc:h1.IsCell (s3.heap.objs.size+1) none) (hk:∀b o,s3.heap.get? b=some o->h1.get? b=some o):Inv (dX X x N scope cl s3 H3 fp) [] (none::outs ix σ) H3 { s3 with heap:=h1,toks:=t' } where
 ok:=mV S I3 hf hlt
 os:=rfl
 bare:=I3.bare
 base:=Un.kept hk
 loc:=by
  erw[m,hn,λi y v h1' h2 h3=>?_];cases i with
  | zero=>
    have h2':(some (none:Option V))=some (some v):=h2;cases h2'
  | succ j=>
    have h1'':N[j]?=some y:=h1';have h2':(outs ix σ)[j]?=some (some v):=h2;have nyx:y≠x:=λz=>(List.nodup_cons.mp S.nd).1 (z▸qF0 h1'')
    let%[hr,k,c,e1,e2,e3|e4]:=S.outs j y h1'';unfold outs at h2';rw[zY0,e1]at h2';have h2'':(σ[k]?).join=some v:=zU0 h2';have e5:σ[k]?=some (some v):=by
     cases q:σ[k]? with
     | none=>rw[q]at h2'';cases h2''
     | some o=>rw[q]at h2'';exact congrArg some h2''
    erw[m0,_,hl]at I3.loc;let%[u,r|l]:=hl k y v e2 e5 (.inr (.inl e4));erw[u,r,.inr %[.inl hr,c,(km nyx).trans e3|6]];rcases l with⟨kk,_⟩ | ⟨_,c',ec,z⟩
    . have kk':X.env.scope.names.lookup y=some .local:=kk;rw[e4]at kk';cases kk'
    . rw[S.cells e3]at ec;cases ec;erw[o,ho,hd]at z;erw[o,hk _ _ ho,hd]
 cell:=λy c e=>by
  rcases eF e with⟨_,c1⟩ | ⟨_,l⟩
  . rw[c1];erw[none,hc]
  . let%[v,o,ho|hd]:=I3.cell y c (S.cells l);erw[v,o,hk _ _ ho,hd]
 free:=I3.hok.fresh (zH0 _)
 freeC:=λy c e=>by
  rcases eF e with⟨_,c1⟩ | ⟨_,l⟩
  . rw[c1];exact I3.hok.fresh (qJ0 _)
  . exact I3.freeC y c (S.cells l)
 pin:=λp hp=>absurd (show p∈([]:List (Addr×Obj))from hp) (by simp)
 hok:=I3.hok.kept hk
 len:=by
  show(none::outs ix σ).length=(x::N).length;rw[zM0,zM0];unfold outs;rw[zE0,hix]
theorem yj(I3:Inv X pins σ H3 s3)(hf:∀b∈fp,iS X pins H3 b){σ':St}{h'':Heap}(J:Inv (dX X x N scope cl s3 H3 fp) [] σ' H' s')(hb:Heap.SameBut s3.heap.objs.size s'.heap h'') :
 Inv X pins σ H' { s' with heap:=h'' }:=by
 have ne:∀b o,s3.heap.get? b=some o->b≠s3.heap.objs.size:=λb o e=>zV0 (zO0 e)
 have B:Un (frs X.stack) fp H3 H' s3.heap s'.heap:=J.base;refine I3.call' (s':={ s' with heap:=h'' }) (ch:=fp) J.os ⟨λb o e n h1 h2=>(hb.2 b (ne b o e)).trans (B.keep b o e n h1 h2),λb o e n h1 h2=>?_,B.free,λb o e h2=>?_,B.tups,B.frzs,B.tbls⟩ (λb ob e=>?_) J.bare (λb z=>?_)
 . let%[sl|q]:=B.slot b o e n h1 h2;erw[sl,(hb.2 b (ne b o e)).trans q]
 . let%[o'|q]:=B.there b o e h2;erw[o',(hb.2 b (ne b o e)).trans q]
 . have fr:H' s3.heap.objs.size=none:=J.free;refine(J.hok b ob e).stay (λc w' hc q=>(hb.2 c ?_).trans q) (λ_ q=>q) λ_ _ q=>q
   rintro rfl;rcases hc with rfl | hc
   . rw[fr]at e;cases e
   . rw[fr]at hc;cases hc
 . let%[_,h2,_,h4,h5|h6]:=hf b z;erw[h4,h2,h5,h6]
end
section
variable {M:Model} {A:Around} {E:Value->Shared->Prop} {s:Shared}
theorem CK {scope:Scope} {globals:Addr} {cl:List (Str×Addr)} {x qual:Str} {env:Env} {Q:Env->Shared->Prop} (lay:∀(n:Addr) (h:Heap),cellsFrom n scope.names cl=(x,n)::cl/\pushCells h scope.names=h.push { cls:=.type "cell",data:=.cell none })
 (q:∀h',h'.Ns s.heap.objs.size (λ_=>none)->h'.IsCell (s.heap.objs.size+1) none->(∀b o,s.heap.get? b=some o->h'.get? b=some o) ->
  Q { scope:=scope,locals:=s.heap.objs.size,globals:=globals,cells:=(x,s.heap.objs.size+1)::cl,qual:=qual,func:=none,code:=env.code,frame:=env.frame,builtins:=env.builtins } { s with heap:=h' }) :
 wpAny M A (newFunctionEnv scope globals cl [] qual none .none (some env)) Q E s:=by
 simp only[newFunctionEnv,Option.isSome_some,if_true];refine zF0 (wpAny_alloc ?_);refine zF0 (wpAny_layCells _ (λname kind cells=>by cases hkc:kind==NameKind.cell <;> simp [hkc]) _ _ _ _ ?_);have hz:(s.heap.push { cls:=.type "dict",data:=.dict #[] }).objs.size=s.heap.objs.size+1:=Heap.size_push ..;rw[show({ s with heap:=s.heap.push { cls:=.type "dict",data:=.dict #[] } }:Shared).heap.objs.size=s.heap.objs.size+1 from hz,(lay _ s.heap).1];show wpAny M A (do let _ ←(forIn [] PUnit.unit λ_ _=>_:Sem PUnit);pure _) Q E _;rw[List.forIn_nil];refine zF0 (zL0 (zL0 ?_));rw[(lay 0 _).2];refine q _ ((Heap.Ns.new s.heap (.type "dict")).keeps λb o e=>zS0 _ e) ?_ λb o e=>zS0 _ (zS0 _ e)
 rw[←hz];erw[_,qA0 _ rfl,1]
end
section
variable {X:Cx} {x:Str} {N:List Str} {ix:List Nat} {scope:Scope} {cl:List (Str×Addr)} {elt iter:Expr} {ifs:List Expr} {px pos:Pos} {wi:TI} {tb:TBl}
theorem AQ(hc:X.calm=true)(S:CompScopeO X x N ix scope cl)(hix:ix.length=N.length)(hb:∀s3 H3 fp,PB (dX X x N scope cl s3 H3 fp) ifs elt tb)
   {σ:St}  {Q:VK}  {fp:List Addr}   {RR:Value->Addr->Result->Shared->Prop} {E:Value->Shared->Prop}
 (I2:Inv X pins σ H2 s2) (T:Turn X.prog X.w X.K (.Name x px) J fp it tn) (st2:tn 0 s2.heap) (f2:∀b∈fp,iS X pins H2 b)
 (h:∀D,H2 D=none->∃W:Nat->Nat->Hp->Prop,(∃m,W 0 m (upd H2 D (.lst [])))/\∀i m H3,W i m H3 ->
  (J.stop i H3/\Q (.ref D) H3)∨(J.go i H3/\∀y H4,J.yld i H3 y H4->tb (some y::outs ix σ) H4 (λH5=>∃m',m'<m/\W (i+1) m' H5)
   λz H5=>∃ys,H5 D=some (.lst ys)/\ys.length<sizeLine/\∃m',m'<m/\W (i+1) m' (upd H5 D (.lst (ys++[z])))))
 (hRR:∀(D C:Addr)(H':Hp)(s':Shared)(m:Str->Option Value),s'.heap.Ns C m->Apart X pins H' C->Inv X pins σ H' s'->Q (.ref D) H'->RR (.ref D) C (.ok .next) s') :
 wpAny (model X.prog X.w) X.A (newList []) (λacc s3=>wpAny (model X.prog X.w) X.A (newFunctionEnv scope X.env.globals cl [] X.env.qual none .none (some X.env)) (λcenv s4=>
  codeAny (model X.prog X.w) X.A (.compStart (.ListComp elt [%[.Name x px,iter,ifs|(0)]] scope pos) 0 (.ref it) acc { cenv with scope:=relabel scope X.env }) (RR acc cenv.locals) s4) E s3) E s2:=by
 refine wpAny_newObj_type (CK S.lay λh1 hns1 hcl1 up1=>?_)
 dsimp only at hns1 hcl1 up1 ⊢
 have I3:Inv X pins σ (upd H2 s2.heap.objs.size (.lst [])) { s2 with heap:=s2.heap.push { cls:=.type "list",dict:=none,data:=.seq ([]:List Value).toArray } }:=I2.lnew (its:=[]) (ys:=[]) (t':=s2.toks) .nil (zT0 _);have hD:H2 s2.heap.objs.size=none:=I2.fresh;let%[W,%[m0|w0]|turn]:=h s2.heap.objs.size hD;have hltF:∀b∈fp,b<s2.heap.objs.size:=λb hb=>by
  let%[o,e|_]:=T.obj 0 _ st2 b hb;exact zO0 e
 generalize hs3:({ s2 with heap:=s2.heap.push { cls:=.type "list",dict:=none,data:=.seq ([]:List Value).toArray } }:Shared)=s3 at I3;have eh:s2.heap.push { cls:=.type "list",dict:=none,data:=.seq ([]:List Value).toArray }=s3.heap:=by rw[←hs3]
 have et:s2.toks=s3.toks:=by rw[←hs3]
 rw[eh]at hns1 hcl1 up1 ⊢;have sz3:s3.heap.objs.size=s2.heap.objs.size+1:=by rw[←eh,Heap.size_push]
 have hlt3:∀b∈fp,b<s3.heap.objs.size:=λb hb=>qN0 (hltF b hb) (by rw[sz3];exact qJ0 _)
 have f3:∀b∈fp,iS X pins (upd H2 s2.heap.objs.size (.lst [])) b:=λb hb=>by
  let%[q1|q2]:=f2 b hb;erw[by rw[bh (zV0 (hltF b hb))];exact q1,q2]
 have up:∀b o,s3.heap.get? b=some o->h1.get? b=some o:=up1
 have old:∀b o,s2.heap.get? b=some o->h1.get? b=some o:=λb o e=>up b o (by rw[←eh];exact zS0 _ e)
 have es:({ s2 with heap:=h1 }:Shared)={ s3 with heap:=h1,toks:=s3.toks }:=by rw[←hs3]
 rw [es];have I4:Inv (dX X x N scope cl s3 (upd H2 s2.heap.objs.size (.lst [])) fp) [] (none::outs ix σ) (upd H2 s2.heap.objs.size (.lst [])) { s3 with heap:=h1,toks:=s3.toks }:=
  wc S I3 f3 hlt3 hix hns1 hcl1 up
 have st4:tn 0 h1:=T.keep 0 _ _ st2 λb _ o e=>old b o e
 have loop:codeAny (model X.prog X.w) X.A (.compLoop (.ListComp elt [%[.Name x px,iter,ifs|(0)]] scope pos) 0 (.ref it) (.ref s2.heap.objs.size) (compEnvC scope ((x,s3.heap.objs.size+1)::cl) s3.heap.objs.size X.env)) (RR (.ref s2.heap.objs.size) s3.heap.objs.size)
  { s3 with heap:=h1,toks:=s3.toks }:=by
  refine pe (λn s'=>∃i v0 H',Inv (dX X x N scope cl s3 (upd H2 s2.heap.objs.size (.lst [])) fp) [] (v0::outs ix σ) H' s'/\tn i s'.heap/\(∀b∈fp,H' b=none)/\W i n H') ?_ m0 %[(0),none,_,I4,st4,λb hb=>(f3 b hb).1|w0];rintro n s5 ⟨i,v0,H5,I5,st5,fr5,w5⟩;have stat:∀{H':Hp},(∀b∈fp,H' b=none)->∀b∈fp,iS (dX X x N scope cl s3 (upd H2 s2.heap.objs.size (.lst [])) fp) [] H' b:=λhn b hb=>
   %[hn b hb,((mV S I3 f3 hlt3).exf b hb).1,(mV S I3 f3 hlt3).exfs b hb,.inl hb,((mV S I3 f3 hlt3).exf b hb).2|λp hp=>absurd (show p∈([]:List (Addr×Obj))from hp) (by simp)]
  rcases turn i n H5 w5 with⟨stop,qn⟩ | ⟨go,step⟩
  . refine thn (T.done (dX X x N scope cl s3 (upd H2 s2.heap.objs.size (.lst [])) fp) rfl rfl rfl hc i [] s5 _ H5 _ I5 (stat fr5) st5 stop) λr s6 ⟨hr,I6⟩=>?_
    subst hr;erw[m6,hn6,_]at I6.loc;exact hRR _ _ H5 s6 m6 hn6 ⟨I6.free,Ne.symm (zV0 I3.lt),I3.sz,λy c e z=>by
     let%[v|q]:=I3.cell y c e;exact absurd q.lt (by rw[z];exact qT0 _),λp hp z=>absurd (zO0 (I3.pin p hp).1) (by rw[z];exact qT0 _)⟩ (yj I3 f3 I6 (Heap.SameBut.refl _ _)) qn
  . refine thn (T.item (dX X x N scope cl s3 (upd H2 s2.heap.objs.size (.lst [])) fp) rfl rfl rfl hc i [] s5 _ H5 _ I5 (stat fr5) st5 go) λr s6 ⟨u,hr,h6⟩=>?_
    subst hr;refine thn h6 λ_ s7 ⟨y,H7,I7,r7,y7,st7,fr7⟩=>?_
    have I7':=I7.pinned (stat fr7) (T.obj _ _ st7);refine wpAny_assign_Name (lP (i:=0) I7' S.nd rfl (.inr S.own) r7 (λs8 I8=>?_) (.inl (by show(x==x)=true;simp)));have I8':Inv (dX X x N scope cl s3 (upd H2 s2.heap.objs.size (.lst [])) fp) ([]++ke fp s7.heap) (some y::outs ix σ) H7 s8:=I8;have again:∀{v9:Option V}{H9:Hp}{s9:Shared},Inv (dX X x N scope cl s3 (upd H2 s2.heap.objs.size (.lst [])) fp) ([]++ke fp s7.heap) (v9::outs ix σ) H9 s9->(∃m',m'<n/\W (i+1) m' H9) ->
     ∃m,m<n/\∃i v0 H',Inv (dX X x N scope cl s3 (upd H2 s2.heap.objs.size (.lst [])) fp) [] (v0::outs ix σ) H' s9/\tn i s9.heap/\(∀b∈fp,H' b=none)/\W i m H':=fun{v9 H9 s9} I9 ⟨m',hm,w9⟩=>by
     erw[m',hm,i+1,v9,H9,I9.unpinned,T.keep _ _ _ st7 λb hb o e=>(I9.pin (b,o) (qS0 _ (qS0 _ (fV hb e)))).1,λb hb=>?_,w9];let%[o,e|d]:=T.obj _ _ st7 b hb;exact(I9.pin (b,o) (qS0 _ (qS0 _ (fV hb e)))).2.1
    refine thn (hb s3 (upd H2 s2.heap.objs.size (.lst [])) fp _ s8 _ H7 _ _ I8' (step y H7 y7)) λok s9 q9=>?_
    cases ok with
    | false=>
      rw[zA0 ⋯]at q9 ⊢;erw[H9,I9,q9]at q9;exact again I9 q9
    | true=>
      rw[zD0 rfl]at q9 ⊢;refine thn q9 λu s10 ⟨z,H10,I10,r10,ys,hy,hz,q10⟩=>?_
      refine thn (bZ _ s10 _ H10 (.ref s2.heap.objs.size) [z] (.ref s2.heap.objs.size) [u] (λ_ H'=>∃m',m'<n/\W (i+1) m' H') I10 rfl (.cons r10 .nil) %[_,ys,z,1,1,hy,hz|q10]) λ_ s11 ⟨_,H11,I11,_,q11⟩=>?_
      exact again I11 q11
 exact codeAny_compStart_list loop (T.self _ 0 _ _ _ st4 loop)
theorem Cf(hc:X.calm=true)(S:CompScopeO X x N ix scope cl)(hix:ix.length=N.length)(hi:PI X (.Name x px) iter wi)(hb:∀s3 H3 fp,PB (dX X x N scope cl s3 H3 fp) ifs elt tb)
 (hs:∀x,foldedSetIterable iter X.env x=pure x:=by intro _;rfl):PE X (.ListComp elt [%[.Name x px,iter,ifs|(0)]] scope pos) (wH wi ix tb):=by
 intro pins s σ H Q I h;rw[eval_ListComp];refine wpAny_comprehension_free (use:=none) rfl hs S.clos S.kind S.names (thn (hi pins s σ H _ I h) λxv s1 h1=>thn h1 λitv s2 h2=>?_);erw[it,fp,tn,J,H2,1,I2,T,st2,f2,R]at h2;refine AQ hc S hix hb (RR:=λacc C=>compPost (model X.prog X.w) X.A X.xe none (EP X pins σ Q) acc C) I2 T st2 f2 R ?_;intro D C H' s' m hn ap I' q;erw[m,hn,λh'' hb''=>%[.ref D,H',ap.turn I' hb'',1|q]]
theorem CompScopeO.one {y:Str} {k:Nat} {c:Addr} (c1:closureFor scope X.env=pure [(y,c)]) (c2:∀(n:Addr) (h:Heap),cellsFrom n scope.names [(y,c)]=(x,n)::[(y,c)]/\pushCells h scope.names=h.push { cls:=.type "cell",data:=.cell none }) (c3:scope.kind=.function) (c4:∀y∈scope.names,y.2=.local->scope.names.lookup y.1=some .local)
 (c5:(relabel scope X.env).names.lookup x=some .cell) (nd:[x,y].Nodup) (hc:X.env.cells.lookup y=some c) (c6:((relabel scope X.env).names.all λp=>!(p.2==.cell||p.2==.free)||(p.1==x||(([(y,c)]:List (Str×Addr)).lookup p.1).isSome))=true)
 (hr:(relabel scope X.env).names.lookup y=some .cell) (hk:X.N[k]?=some y) (hs:X.env.scope.names.lookup y=some .cell):CompScopeO X x [y] [k] scope [(y,c)] where
 clos:=c1
 lay:=c2
 kind:=c3
 names:=c4
 own:=c5
 nd:=nd
 sub:=λp hp=>by
  rw[zN0 hp];exact hc
 has:=c6
 outs:=λj z h=>by
  cases j with
  | zero=>
    have e:y=z:=zU0 h;subst e;erw[hr,k,c,1,hk,by simp [List.lookup],hs]
  | succ j=>simp at h
end
theorem CompScope.four{X:Cx}{x y z u v:Str}{scope:Scope}{k l m n:Nat}{c d e g:Addr}{cl:List (Str×Addr)}(c1:closureFor scope X.env=pure cl)(c2:∀y∈scope.names,y.2≠.cell)(c3:scope.kind=.function)(c4:∀y∈scope.names,y.2=.local->scope.names.lookup y.1=some .local)
 (c5:scope.names.lookup x=some .local) (nd:[x,y,z,u,v].Nodup) (hcl:cl=[(y,c),(z,d),(u,e),(v,g)]) (hc:X.env.cells.lookup y=some c) (hd:X.env.cells.lookup z=some d) (he:X.env.cells.lookup u=some e) (hg:X.env.cells.lookup v=some g) (c6:((relabel scope X.env).names.all λp=>!(p.2==.cell||p.2==.free)||(cl.lookup p.1).isSome)=true)
 (hr:(relabel scope X.env).names.lookup y=some .cell) (hk:X.N[k]?=some y) (hs:X.env.scope.names.lookup y=some .cell)
 (hr2:(relabel scope X.env).names.lookup z=some .cell) (hk2:X.N[l]?=some z) (hs2:X.env.scope.names.lookup z=some .cell)
 (hr3:(relabel scope X.env).names.lookup u=some .cell) (hk3:X.N[m]?=some u) (hs3:X.env.scope.names.lookup u=some .cell)
 (hr4:(relabel scope X.env).names.lookup v=some .cell) (hk4:X.N[n]?=some v) (hs4:X.env.scope.names.lookup v=some .cell):CompScope X x [y,z,u,v] [k,l,m,n] scope cl where
 clos:=c1
 nocell:=c2
 kind:=c3
 names:=c4
 own:=c5
 nd:=nd
 sub:=λp hp=>by
  subst hcl;rcases zX0 hp with h | h
  . rw[h];assumption
  . rcases zX0 h with h | h
    . rw[h];assumption
    . rcases zX0 h with h | h
      . rw[h];assumption
      . rw[zN0 h];assumption
 has:=c6
 outs:=λj w h=>by
  have nyz:y≠z:=λe=>by simp [e]at nd
  have nyu:y≠u:=λe=>by simp [e]at nd
  have nyv:y≠v:=λe=>by simp [e]at nd
  have nzu:z≠u:=λe=>by simp [e]at nd
  have nzv:z≠v:=λe=>by simp [e]at nd
  have nuv:u≠v:=λe=>by simp [e]at nd
  subst hcl
  match j,h with
  | 0,h=>
    have e:y=w:=zU0 h;subst e;erw[hr,k,c,1,hk,by simp [List.lookup],hs]
  | 1,h=>
    have e:z=w:=zU0 h;subst e
    have:(z==y)=false:=by simpa using Ne.symm nyz
    erw[hr2,l,d,1,hk2,by simp [List.lookup,this],hs2]
  | 2,h=>
    have ew:u=w:=zU0 h;subst ew;have h1:(u==y)=false:=by simpa using Ne.symm nyu
    have h2:(u==z)=false:=by simpa using Ne.symm nzu
    erw[hr3,m,e,1,hk3,by simp [List.lookup,h1,h2],hs3]
  | 3,h=>
    have ew:v=w:=zU0 h;subst ew;have h1:(v==y)=false:=by simpa using Ne.symm nyv
    have h2:(v==z)=false:=by simpa using Ne.symm nzv
    have h3:(v==u)=false:=by simpa using Ne.symm nuv
    erw[hr4,n,g,1,hk4,by simp [List.lookup,h1,h2,h3],hs4]
  | j+4,h=>simp at h
end L2
namespace L2
open PySem PySem.Spec PyProof.Rows PySem.Builtin PySem.Builtin.Str
section
variable {prog:Program} {w:World} {A:Around} {E:Value->Shared->Prop} {s:Shared} {Q:Value->Shared->Prop} {x:PySem.Str} {t:Tok}
theorem wJ{y:PySem.Str}{u:Tok}(hy:(y.length==0)=false)
 (h:∀l k,l.map (·.1)=Txt.split x y->Q (.ref s.heap.objs.size) { s with heap:=s.heap.push { cls:=.type "list",data:=.seq (strValues l).toArray },toks:=k })
 (hsz:x.length+2<=sizeLine):wpAny (model prog w) A (call (.builtin "str.split") [.str x t,.str y u]) Q E s:=by
 have hn:(partsBetween x (occurrences x y 0 x.length (x.length+1)) y.length).length<=sizeLine:=by
  have e1:=StrLaws.occ_length_le x y 0 x.length (x.length+1);rw[length_partsBetween];omega
 cases h1:(decide (x.length<y.length)||decide (strKind x<strKind y))
 . cases hf:(occurrences x y 0 x.length (x.length+1)).isEmpty
   . refine call_meets F.slot_str_split (typeIs_str _ _ _) F.entry_str_split (F.args_str_split_2 _ _) (meets_str_split_sep x y t u h1 hy hf #[0] hn) ?_;show wants Q E _ { s with toks:=_,heap:=s.heap.push { cls:=.type "list",data:=.seq (strsFrom s.toks (partsBetween x (occurrences x y 0 x.length (x.length+1)) y.length)).toArray } };rw[strsFrom_eq];exact h (numbered s.toks _) _ ((numbered_texts _ _).trans ((zA0 (ne_true_of_eq_false h1)).trans (zA0 (ne_true_of_eq_false hf))).symm)
   . exact call_meets F.slot_str_split (typeIs_str _ _ _) F.entry_str_split (F.args_str_split_2 _ _) (meets_str_split_not_found x y t u h1 hy hf)
      (h [(x,t)] s.toks ((zA0 (ne_true_of_eq_false h1)).trans (zD0 hf)).symm)
 . exact call_meets F.slot_str_split (typeIs_str _ _ _) F.entry_str_split (F.args_str_split_2 _ _) (meets_str_split_cannot_occur x y t u h1)
    (h [(x,t)] s.toks (zD0 h1).symm)
end
theorem yB:∀l:List (PySem.Str×Tok),Vals ((l.map (·.1)).map V.str) (strValues l)
 | []=>.nil
 | (x,t)::r=>.cons %[t|1] (yB r)
section
variable {X:Cx}
inductive rSplit(x:V)(vs:List V)(H:Hp)(Q:VK):Prop
 |mk:∀z u,x=.str z->vs=[.str u]->0<u.length->z.length<=100000->(Txt.split z u).length<=100000->(∀p,H p=none->Q (.ref p) (upd H p (.lst ((Txt.split z u).map V.str))))->rSplit x vs H Q
theorem CW:MtR X "str.split" rSplit:=by
 intro pins s σ H x vs v us Q I rx rv h;erw[z,u,1,1,hu,hz,hl,q]at h;erw[t,1]at rx;erw[w',1,t',1]at rv.one;have sl:sizeLine=16777216:=sizeLine_eq;refine wJ (by rw[beq_eq_false_iff_ne];omega) (λl k e=>?_) #[0];have r:=yB l;rw[e]at r;erw[.ref _,_,I.lnew (t':=k) r (by rw[zE0];omega),1,q _ I.fresh]
theorem lh:ip X (.type "int") (λxs H Q=>∃x n,xs=[.str x]/\PySem.intText? x=some n/\x.length<=640/\Q (.int n) H):=by
 intro pins s σ H xs us Q I r h;erw[x,n,1,e,hl,q]at h;let%[u,1,t|1]:=kW r;exact PySem.W.KIN.call_text e hl %[.int n,H,I.tok _,%[|0]|q]
end
end L2
namespace L2
open PySem PySem.Spec PyProof.Rows
def SqB(K:W.Frag)(b:Bool)(H:Hp)(a:Addr)(xs:List V):Prop:=if b=true then SqL K H a xs else SqT K H a xs
end L2
namespace L2
open PySem PyProof.Rows HT
section
variable {X:Cx}
theorem Cb(K:W.Frag)(hl:PE X l tl)(hK:X.K=K:=by rfl):PI X tg l (FS K tl):=by subst hK;exact eQ hl
end
end L2
namespace L2
open PySem PySem.Spec PyProof.Rows
section
variable {X:Cx}
def gn(z u:Str)(i:Int):Bool:=decide (PySem.fromIndex z.length i+u.length<=z.length)&&Builtin.Str.subAt z u (PySem.fromIndex z.length i)
inductive rStartsAt(x:V)(vs:List V)(H:Hp)(Q:VK):Prop
 |mk:∀z u i,x=.str z->vs=[.str u,.int i]->Q (.bl (gn z u i)) H->rStartsAt x vs H Q
theorem vG:MtR X "str.startswith" rStartsAt:=by
 intro pins s σ H x vs v us Q I rx rv h;erw[z,u,i,1,1,q]at h;erw[t,1]at rx;cases rv with
 | cons r1 rv1=>
   cases rv1 with
   | cons r2 rv2=>
     cases rv2;erw[t1,1]at r1;erw[t2,1]at r2;exact call_gives F.slot_str_startswith (typeIs_str _ _ _) F.entry_str_startswith (F.args_str_startswith_3 _ _ _) (gives_str_startswith_from z u i t t1 t2) %[.bl _,H,I,1|q]
end
def HR(K:W.Frag)(a:Addr)(xs:List V):It:=%[λi H=>SqT K H a xs/\i<xs.length,λi H y H'=>H'=H/\xs.reverse[i]?=some y|λi _=>xs.length<=i]
theorem RevT.keep{h':Heap}(x:RevT h it t i)(k:∀o,h.get? it=some o->h'.get? it=some o):RevT h' it t i:=k _ x
theorem zm{K:W.Frag}(a it:Addr)(xs:List V):Turn P w K tg (HR K a xs) [it] it (λi h=>i<=xs.length/\RevT h it a ((xs.length:Int)-1-(i:Int))) where
 mem:=by simp
 obj:=λi h st b hb=>by
  have e:b=it:=by simpa using hb
  subst e;erw[_,st.2,λv z=>by cases z]
 keep:=λi h h' st k=>%[st.1|st.2.keep λo e=>k it (by simp) o e]
 item:=by
  intro X hP hw hK hc i pins s σ H E I hf st hg;subst hP hw hK;erw[hq,hi]at hg;let%[its,rv,p|hz]:=I.tuple hq;have hj:xs.length-1-i<xs.length:=by omega
  have hx:xs[xs.length-1-i]?=some xs[xs.length-1-i]:=zQ0 hj;let%[u,hu|ru]:=rv.get hx;let%[f0,f1,f2,f3,f4|f5]:=hf it (by simp);erw[_,hit]at st;have e1:((xs.length:Int)-1-(i:Int))=((xs.length-1-i:Nat):Int):=by omega
  rw[e1]at hit;have h63:=jx;refine qX hit p (x:=u) (by simpa using hu) #[0] λh' tk st' sb=>?_
  have I1:Inv X pins σ H { s with heap:=h',toks:=tk }:=I.turned (t':=tk) (λb o hb e=>(sb.2 b hb).trans e) f0 f1 f3 f4 f5;have e2:((xs.length-1-i:Nat):Int)-1=(xs.length:Int)-1-((i+1:Nat):Int):=by omega
  rw[e2]at st';erw[u,1,vU (s:={ s with heap:=h',toks:=tk }) st' rfl rfl ⋯ ⟨xs[xs.length-1-i],H,I1,ru,⟨rfl,?_⟩,⟨by omega,st'⟩,λb hb=>(hf b hb).1⟩];rw[List.getElem?_reverse hi,hx]
 done:=by
  intro X hP hw hK hc i pins s σ H E I hf st hg;subst hP hw hK;have hg:xs.length<=i:=hg;let%[f0,f1,f2,f3,f4|f5]:=hf it (by simp);erw[hi,hit]at st;have e1:(xs.length:Int)-1-(i:Int)=-1:=by omega
  rw[e1]at hit;exact sj (I.ok.hd hc) hit λh' tk eb=>%[1|I.turned (t':=tk) (λb o hb e=>eb b o hb e) f0 f1 f3 f4 f5]
 self:=λ_ _ _ _ _ st h=>sG st.2 h
def Fz(K:W.Frag)(c:Bool)(a:Addr)(xs:List V):It:=if c=true then ItV K a xs else HR K a xs
section
variable {X:Cx} {tg:Expr}
inductive ZiRevB(K:W.Frag)(R:(It->Hp->Prop))(x:V)(H1:Hp):Prop
 |mk:∀c a xs,x=.ref a->SqB K c H1 a xs->R (Fz K c a xs) H1->ZiRevB K R x H1
def iRevB(K:W.Frag)(tl:TE):TI:=λσ H R=>tl σ H λx H1=>ZiRevB K R x H1
theorem EF   {p pos:Pos} (hg:Gl X "reversed") (hm:X.mg "reversed"=none) (hl:PE X l tl) (hs:starEach [l] X.env=[(false,eval l X.env)]:=by rfl) :
 PI X tg (.Call (.Name "reversed" p) [l] [] pos) (iRevB X.K tl):=by
 intro pins s σ H R I h;refine wpAny_Call_Name_kw (iF I hg hm rJ ?_);refine PyProof.Rows.callWith_type1 ?_ hs rfl;rw[hs];show wpAny _ _ (spliced ((false,eval l X.env)::backTo pos (starEach [] X.env))) _ _ s;refine Calls.spliced_cons (thn (hl pins s σ H _ I h) λu s1 ⟨x,H1,I1,r1,c,a,xs,ex,hq,q⟩=>?_);subst ex;cases r1;refine Calls.spliced_nil ?_;cases c with
 | true=>
   have hq:SqL X.K H1 a xs:=hq;have q:R (ItV X.K a xs) H1:=q;let%[its,rv,p|hz]:=I1.list hq;have hlen:=rv.length;refine call_reversed_list p.isList ?_;have hr:(s1.heap.push (revObj a ((its.toArray.size:Int)-1))).IsRevIter s1.heap.objs.size a ((xs.length:Int)-1-((0:Nat):Int)):=by
    have e:(xs.length:Int)-1-((0:Nat):Int)=(its.toArray.size:Int)-1:=by rw[zR0];omega
    rw[e];erw[_,qA0 _ rfl,1,1]
   refine wpAny_pyIter_revIter hr ?_;erw[s1.heap.objs.size,[s1.heap.objs.size],_,_,H1,1,I1.kept (t':=s1.toks) λb o e=>zS0 _ e,zk a _ xs,%[zT0 _|hr],λb hb=>?_,q];have e:b=s1.heap.objs.size:=by simpa using hb
   subst e;exact I1.fpOk (zH0 _) (I1.hok.fresh (zH0 _))
 | false=>
   have hq:SqT X.K H1 a xs:=hq;have q:R (HR X.K a xs) H1:=q;let%[its,rv,p|hz]:=I1.tuple hq;have hlen:=rv.length;refine mY p (by rw[zR0,←rv.length];exact hz) λtk=>?_
   have hr:RevT (s1.heap.push { cls:=.type "reversed",data:=.fields #[.ref a,rawInt ((its.toArray.size:Int)-1)] }) s1.heap.objs.size a ((xs.length:Int)-1-((0:Nat):Int)):=by
    have e:(xs.length:Int)-1-((0:Nat):Int)=(its.toArray.size:Int)-1:=by rw[zR0];omega
    rw[e];exact qA0 _ rfl
   refine sG hr ?_;erw[s1.heap.objs.size,[s1.heap.objs.size],_,_,H1,1,I1.kept (t':=tk) λb o e=>zS0 _ e,zm a _ xs,%[zT0 _|hr],λb hb=>?_,q];have e:b=s1.heap.objs.size:=by simpa using hb
   subst e;exact I1.fpOk (zH0 _) (I1.hok.fresh (zH0 _))
end
theorem Dy{K:W.Frag}{xs:List V}{g:TG}{tb:TS}{D:Ends}{σ:St}{H:Hp}(Pv:Nat->St->Hp->Prop)(h0:Pv 0 σ H)(hl:∀i σ H,i<=xs.length->Pv i σ H->SqB K c H a xs)
 (hs:∀i x σ H,i<xs.length->xs.reverse[i]?=some x->Pv i σ H->g x σ H λσ2 H2=>tb { D with nx:=Pv (i+1),ct:=Pv (i+1),bk:=D.nx } σ2 H2) (hd:∀ σ H,Pv xs.length σ H->D.nx σ H) :
 ∃ W:Nat->Nat->St->Hp->Prop,(∃m,W 0 m σ H)/\∀i m σ H,W i m σ H ->
  ((Fz K c a xs).stop i H/\D.nx σ H)∨((Fz K c a xs).go i H/\∃N:St->Hp->Prop,(∀ σ' H',N σ' H'->∃m',m'<m/\W (i+1) m' σ' H')/\∀x H',(Fz K c a xs).yld i H x H'->g x σ H' λσ2 H2=>tb { D with nx:=N,ct:=N,bk:=D.nx } σ2 H2):=by
 cases c with
 | true=>exact Dx Pv h0 hl hs hd
 | false=>
   erw[λi m σ H=>m=xs.length-i/\i<=xs.length/\Pv i σ H,%[xs.length,by simp,zT0 _|h0],6];rintro i m σ H ⟨rfl,hi,p⟩;have q:=hl i σ H hi p
   by_cases hlt:i<xs.length
   . refine .inr %[%[q|hlt],Pv (i+1),λσ' H' p'=>%[xs.length-(i+1),3,1,hlt|p']|λx H' y=>?_];erw[e,ex]at y;subst e;exact hs i x σ _ hlt ex p
   . have e:i=xs.length:=by omega
     subst e;exact .inl %[zH0 _|hd σ H p]
set_option maxRecDepth 100000
theorem ow:fillsNumberSlot (.type "tuple") "mul"=pure false:=
 PySem.fillsNumberSlot_seq (id:="tuple.__mul__") (r:=some (.builtin "tuple.__rmul__")) F.slot_tuple_mul.lookup ⋯ F.slot_tuple_rmul.lookup ⋯
theorem ub:seqRepeat? (.type "tuple")=pure (some (.builtin "tuple.__mul__")):=by
 unfold seqRepeat?;rw[PySem.seqSlot_of (T:="tuple") (name:="__mul__") (id:="tuple.__mul__") F.slot_tuple_mul.lookup ⋯,PySem.seqSlot_of (T:="tuple") (name:="__rmul__") (id:="tuple.__rmul__") F.slot_tuple_rmul.lookup ⋯];rfl
theorem rj(a:Int)(t:Tok)(l:Addr)(items:Array Value)(n:Nat)(dd:Option Addr)(sl:Array (Option Value)) :
 Meets (Builtin.«int.__rmul__» %[[.int a t,.ref l]|[]]) (λ_ R s=>s.heap.get? l=some { cls:=.type "tuple",dict:=dd,data:=.seq items n,slots:=sl }/\R (.ok (.ret Value.notImplemented)) s):=
 .of_wp λprog w A R s h=>by erw[hp,g,d,tk,os]at s;erw[hl,h]at h;wp_walk;erw[0,h]
theorem rP(l:Addr)(items:Array Value)(n:Nat)(dd:Option Addr)(sl:Array (Option Value))(u:Tok) :
 Meets (Builtin.«tuple.__mul__» %[[.ref l,.int 1 u]|[]]) (λ_ R s=>s.heap.get? l=some { cls:=.type "tuple",dict:=dd,data:=.seq items n,slots:=sl }/\R (.ok (.ret (.ref l))) s):=
 .of_wp λprog w A R s h=>by erw[hp,g,d,tk,os]at s;erw[hl,h]at h;wp_walk;erw[0,h]
theorem pY(l:Addr)(v:Value)(n:Nat)(dd:Option Addr)(sl:Array (Option Value))(u:Tok) :
 Meets (Builtin.«tuple.__mul__» %[[.ref l,.int 0 u]|[]]) (λ_ R s=>s.heap.get? l=some { cls:=.type "tuple",dict:=dd,data:=.seq #[v] n,slots:=sl }/\R (.ok (.ret (.ref s.heap.objs.size))) { s with heap:=s.heap.push { cls:=.type "tuple",data:=.seq #[] },toks:=s.toks }):=
 .of_wp λprog w A R s h=>by erw[hp,g,d,tk,os]at s;erw[hl,h]at h;wp_walk;erw[0,h]
theorem pZ(l:Addr)(v:Value)(n:Nat)(dd:Option Addr)(sl:Array (Option Value))(x:Int)(u:Tok)(h2:2<=x)(hx:x<=1000) :
 Meets (Builtin.«tuple.__mul__» %[[.ref l,.int x u]|[]]) (λ_ R s=>s.heap.get? l=some { cls:=.type "tuple",dict:=dd,data:=.seq #[v] n,slots:=sl }/\R (.ok (.ret (.ref s.heap.objs.size))) { s with heap:=s.heap.push { cls:=.type "tuple",data:=.seq ((List.replicate x.toNat #[v]).foldl (·++·) #[]) },toks:=s.toks }):=
 .of_wp λprog w A R s h=>by
  erw[hp,g,d,tk,os]at s;erw[hl,h]at h;have c1:(decide (x < -(2 ^ 63))||decide (x≥2 ^ 63))=false:=by
   rw[decide_eq_false #[0],decide_eq_false #[0]];rfl
  have c2:(x==1)=false:=by simpa using(show x≠1 by omega)
  have c3:decide (x<=0)=false:=decide_eq_false #[0];have c4:¬ ((1:Int)*x>(2 ^ 63-1) / 8):=by omega
  have c5:Builtin.Tuple.tupleTooMany (1*x)=false:=by
   unfold Builtin.Tuple.tupleTooMany
   have:(sizeLine:Int)≥1000:=by decide
   exact decide_eq_false #[0]
  wp_walk
  refine wpAny_ite_split (λhab=>by rw[c1]at hab;cases hab) (λ_=>?_);show wpAny _ _ (do let xs ←Builtin.Tuple.tupleItemsOf (Value.ref l);_) _ _ _
  wp_walk
  refine wpAny_ite_split (λhab=>absurd hab c4) (λ_=>?_);refine wpAny_ite_split (λhab=>by rw[show Builtin.Tuple.tupleTooMany (((#[v]:Array Value).size:Int)*x)=false from c5]at hab;cases hab) (λ_=>?_);have sz:((List.replicate x.toNat #[v]).foldl (·++·) #[]).size<=sizeLine:=by
   have e:(List.replicate x.toNat (#[v]:Array Value)).foldl (·++·) #[]=(List.replicate x.toNat [v]).flatten.toArray:=by
    have:=kO [v] x.toNat []
    rw[List.nil_append]at this;exact this
   rw[e,zR0,yS];exact ca (by show x.toNat*1<=1000;omega)
  refine zF0 (wpAny_newObj_type ?_ sz);exact zL0 %[0|h]
section
variable {X:Cx}
inductive rRepT(K:W.Frag)(x:V)(y:V)(H:Hp)(Q:VK):Prop
 |mk:∀a v k,x=.ref a->y=.int k->SqT K H a [v]->0<=k->k<=1000->(k=1->Q (.ref a) H)->(k≠1->∀p,H p=none->Q (.ref p) (upd H p (.tup (List.replicate k.toNat v))))->rRepT K x y H Q
theorem uS(r:RelV v u):∀n,Vals (List.replicate n v) (List.replicate n u)
 | 0=>.nil
 | n+1=>.cons r (uS r n)
theorem EJ:OpR X (binaryOp .Mult) (rRepT X.K):=by
 intro pins s σ H x y vv u Q I rx ry h;erw[a,v,k,1,1,hq,k0,k1,q1,q2]at h;cases rx;erw[t,1]at ry;let%[its,r,p|hz]:=I.tuple hq;obtain⟨w,rfl,rw'⟩:∃w,its=[w]/\RelV v w:=by
  cases r with
  | cons h1 h2=>cases h2;erw[0,h1]
 erw[o,e,hc,n,hd]at p;erw[cls,dd,data,sl]at o;cases hc;cases hd;have e:s.heap.get? a=some { cls:=.type "tuple",dict:=dd,data:=.seq #[w] n,slots:=sl }:=e;refine wpAny_binaryOp_repeat_ref (T:="tuple") (U:="int") ⋯ %[_,e|1] (λs'=>typeIs_int s' k t) ow F.fills_int_mul F.slot_int_rmul ub F.slot_int_index.lookup
  (call_meets F.slot_int_rmul (typeIs_int s k t) F.entry_int_rmul (F.args_int_rmul_2 _ _) (rj k t a #[w] n dd sl)
   %[e,1,%[_,e|1]|6])
 by_cases c1:k=1
 . subst c1;exact call_meets F.slot_tuple_mul %[_,e|1] F.entry_tuple_mul (F.args_tuple_mul_2 _ _) (rP a #[w] n dd sl t) ⟨e,.ref a,H,I,rfl,q1 rfl⟩
 have laid:∀m:Nat,m<=1000->Inv X pins σ (upd H s.heap.objs.size (.tup (List.replicate m v))) { s with heap:=s.heap.push { cls:=.type "tuple",data:=.seq (List.replicate m w).toArray },toks:=s.toks }:=λm hm=>
  I.laid (t':=s.toks) (o:=.tup (List.replicate m v)) (λb ob q=>zS0 _ q) (zH0 _) %[by rw[List.length_replicate];exact ca hm,_,uS rw' m,IsTup.new _ _,_,qA0 _ rfl|1]
 by_cases c0:k=0
 . subst c0;exact call_meets F.slot_tuple_mul %[_,e|1] F.entry_tuple_mul (F.args_tuple_mul_2 _ _) (pY a w n dd sl t) ⟨e,.ref _,_,laid 0 ⋯,rfl,q2 ⋯ _ (I.hok.fresh (zH0 _))⟩
 . have ef:(List.replicate k.toNat (#[w]:Array Value)).foldl (·++·) #[]=(List.replicate k.toNat w).toArray:=by
    have:=kO [w] k.toNat []
    rw [List.nil_append]at this;rw[show(List.replicate k.toNat w)=(List.replicate k.toNat [w]).flatten by
     induction k.toNat with
     | zero=>rfl
     | succ m ih=>rw[List.replicate_succ,List.replicate_succ,List.flatten_cons,ih];rfl]
    exact this
   refine call_meets F.slot_tuple_mul %[_,e|1] F.entry_tuple_mul (F.args_tuple_mul_2 _ _) (pZ a w n dd sl k t #[0] k1) ⟨e,?_⟩;rw[ef];erw[.ref _,_,laid k.toNat #[0],1,q2 c1 _ (I.hok.fresh (zH0 _))]
theorem Cj(K:W.Frag)(hK:X.K=K:=by rfl):OpR X (binaryOp .Mult) (rRepT K):=by subst hK;exact EJ
end
section
variable {X:Cx}
inductive rDictD(xs:List V)(H:Hp)(Q:VK):Prop
 |mk:∀(a:Addr)(kvs:List (Key×V)),xs=[.ref a]->H a=some (.dK kvs)->(∀p,H p=none->Q (.ref p) (upd H p (.dK kvs)))->rDictD xs H Q
theorem yo:ip X (.type "dict") rDictD:=by
 intro pins s σ H xs us Q I r h;erw[a,kvs,1,ha,q]at h;cases r with
 | cons ra rr=>
   cases rr;cases ra;exact DM I (.inl ha) λp s' hp I'=>%[.ref p,_,I',1|q p hp]
end
theorem yp:bootBuiltins ("dict":Str)=some (.type "dict"):=by decide
end L2
namespace Mine
def Pr(n:Int):Prop:=2<=n/\∀k:Int,2<=k->k<=1000->k*k<=n->n % k≠0
theorem uY{a b:Int}(h0:0<=a)(h:a<=b):a*a<=b*b:=Int.mul_le_mul h h h0 (Int.le_trans h0 h)
def prB(n:Int):Bool:=decide (2<=n)&&(List.range 999).all λi=>decide (n<((i:Int)+2)*((i:Int)+2))||decide (n % ((i:Int)+2)≠0)
theorem jr(h:prB n=true):Pr n:=by
 unfold prB at h;rw[Bool.and_eq_true]at h;erw[of_decide_eq_true h.1,λk k2 k3 ks=>?_];have q:=List.all_eq_true.mp h.2 (k.toNat-2) (List.mem_range.mpr #[0]);have e:(((k.toNat-2:Nat):Int)+2)=k:=by omega
 rw[e,Bool.or_eq_true]at q;rcases q with q | q
 . have:=of_decide_eq_true q;omega
 . exact of_decide_eq_true q
theorem sA:Pr 999983:=jr ⋯
theorem BY{d:Int}(h:Pr p)(hp:p<1002001)(d0:1<d)(d1:d<p)(hd:d ∣ p):False:=by
 erw[e,he]at hd;have e0:1<e:=by
  by_cases c:e<=1
  . have:d*e<=d*1:=qX0 c #[0]
    omega
  . omega
 by_cases c:d<=e
 . have s:d*d<=p:=by
    have:=qX0 c (show(0:Int)<=d by omega)
    omega
   have t:d<=1000:=by
    by_cases c2:1001<=d
    . have:=uY (a:=1001) (b:=d) #[0] c2
      omega
    . omega
   refine h.2 d #[0] t s ?_;rw[he];exact Int.mul_emod_right d e
 . have c':e<=d:=by omega
   have s:e*e<=p:=by
    have:=Int.mul_le_mul_of_nonneg_right c' (show(0:Int)<=e by omega)
    omega
   have t:e<=1000:=by
    by_cases c2:1001<=e
    . have:=uY (a:=1001) (b:=e) #[0] c2
      omega
    . omega
   refine h.2 e #[0] t s ?_;rw[he,Int.mul_comm];exact Int.mul_emod_right e d
def Cop(x y:Int):Prop:=∀d:Int,0<d->d ∣ x->d ∣ y->d=1
theorem HH{a:Int}(h:Pr p)(hp:p<1002001)(a0:0<a)(a1:a<p):Cop p a:=λd d0 h1 h2=>by
 have:=Int.le_of_dvd a0 h2
 by_cases c:1<d
 . exact(BY h hp c #[0] h1).elim
 . omega
structure Eu(a p former ff rest f:Int):Prop where
 r0:0<rest
 rp:rest<p
 fr:rest<former
 f0:0<=f
 f1:f<p
 g0:0<=ff
 g1:ff<p
 cop:Cop former rest
 d1:p ∣ former-a*ff
 d2:p ∣ rest-a*f
theorem vZ{a:Int}(h:Pr p)(hp:p<1002001)(a0:0<a)(a1:a<p):Eu a p p 0 (a % p) 1:=by
 have e:a % p=a:=qU0 #[0] a1;rw[e];erw[a0,a1,a1,3,3,3,3,HH h hp a0 a1,by rw[Int.mul_zero,Int.sub_zero];exact Int.dvd_refl p,by rw[Int.mul_one,Int.sub_self];exact Int.dvd_zero p]
theorem yZ(E:Eu a p former ff rest f)(h1:rest≠1):Eu a p rest f (former-former / rest*rest) ((ff-former / rest*f) % p)/\(former-former / rest*rest).toNat<rest.toNat:=by
 have r0:=E.r0;have rp:=E.rp;have em:former-former / rest*rest=former % rest:=by
  have:=Int.emod_add_mul_ediv former rest
  rw[Int.mul_comm]at this;omega
 have l0:0<=former % rest:=qB0 _ #[0];have l1:former % rest<rest:=qE0 _ r0;have cop':Cop rest (former % rest):=λd d0 x y=>by
  refine E.cop d d0 ?_ x
  have:=Int.emod_add_mul_ediv former rest
  rw[←this];exact Int.dvd_add y (Int.dvd_trans x (Int.dvd_mul_right _ _))
 have lz:former % rest≠0:=λz=>by
  have:=cop' rest r0 (Int.dvd_refl _) (by rw[z];exact Int.dvd_zero _)
  exact h1 this
 rw [em];erw[%[3,3,l1,qB0 _ #[0],qE0 _ #[0],E.f0,E.f1,cop',E.d2|6],3];have q:p ∣ (former-a*ff)-former / rest*(rest-a*f):=Int.dvd_sub E.d1 (Int.dvd_trans E.d2 (Int.dvd_mul_left _ _));have q2:p ∣ (ff-former / rest*f)-(ff-former / rest*f) % p:=Int.dvd_self_sub_emod;have q3:p ∣ a*((ff-former / rest*f)-(ff-former / rest*f) % p):=Int.dvd_trans q2 (Int.dvd_mul_left _ _);have q4:=Int.dvd_add q q3;have e2:former-a*ff-former / rest*(rest-a*f)+a*(ff-former / rest*f-(ff-former / rest*f) % p)=former % rest-a*((ff-former / rest*f) % p):=by
  rw[←em];generalize former / rest=t;generalize (ff-t*f) % p=u;rw[Int.mul_sub,Int.mul_sub,Int.mul_sub,Int.mul_left_comm t a f];omega
 rw[e2]at q4;exact q4
theorem DD(E:Eu a p former ff rest f)(h1:rest=1)(hp:1<p):0<f/\f<p/\f*a % p=1:=by
 subst h1;have d2:=E.d2;have f0:=E.f0;have hm:f*a % p=1:=by
  erw[c,hc]at d2;have e:f*a=1+p*(-c):=by
   rw[Int.mul_comm f a,Int.mul_neg];omega
  rw[e,Int.add_mul_emod_self_left];exact qU0 #[0] hp
 erw[6,E.f1,hm]
 by_cases c:f=0
 . subst c;simp at hm
 . omega
end Mine
namespace Mine
def wu(n d:Int):Prop:=∀k:Int,3<=k->k % 2=1->k<d->n % k≠0
theorem Ai(n:Int):wu n 3:=λk a _ c=>by omega
theorem CI(u:wu n d)(hd:d % 2=1)(h:n % d≠0):wu n (d+2):=λk a b c=>by
 by_cases e:k<d
 . exact u k a b e
 . have:k=d:=by omega
   subst this;exact h
theorem AE{n d:Int}(h3:3<=n)(h2:n % 2≠0)(h0:3<=d)(u:wu n d)(hd:n<d*d):Pr n:=by
 erw[3,λk k2 k3 ks z=>?_];let%[q|hq]:=Int.dvd_of_emod_eq_zero z
 by_cases e:k % 2=1
 . by_cases c:k<d
   . exact u k #[0] e c z
   . have:=uY (a:=d) (b:=k) #[0] #[0]
     omega
 . obtain ⟨j,hj⟩:∃j,k=2*j:=%[k / 2|3]
   rw[hj,Int.mul_assoc]at hq;omega
theorem AH{n:Int}(h2:n % 2=0)(h3:2<n):¬ Pr n:=λp=>p.2 2 #[0] #[0] #[0] h2
theorem AG{n d:Int}(h9:n<=999999)(h0:3<=d)(hs:d*d<=n)(h:n % d=0):¬ Pr n:=λp=>by
 have t:d<=1000:=by
  by_cases c2:1001<=d
  . have:=uY (a:=1001) (b:=d) #[0] c2
    omega
  . omega
 exact p.2 d #[0] t hs h
theorem wM{n d:Int}(h9:n<=999999)(h0:3<=d)(hs:d*d<=n):d<=999:=by
 by_cases c2:1000<=d
 . have:=uY (a:=1000) (b:=d) #[0] c2
   omega
 . omega
theorem EB{n d:Int}(h0:3<=d)(hs:d*d<=n):d<=n:=by
 have:=qX0 (show(1:Int)<=d by omega) (show(0:Int)<=d by omega)
 omega
end Mine
namespace Mine
def cP:Nat->List (List Int)
 | 0=>[[]]
 | n+1=>(cP n).flatMap λs=>[s++[0],s++[1]]
theorem oA{α β:Type}(f g:α->β):∀l:List α,(l.flatMap λs=>[f s,g s]).length=2*l.length
 | []=>rfl
 | x::r=>by
   have ih:=oA f g r;simp only[List.flatMap_cons,zJ0,zM0,List.length_nil];omega
theorem ky:∀n:Nat,(cP n).length=2 ^ n
 | 0=>rfl
 | n+1=>by rw[cP,oA,ky n,Nat.pow_succ];omega
theorem fY:∀(n:Nat)(s:List Int),s∈cP n->s.length=n
 | 0,s,h=>by
   have:s=[]:=by simpa [cP]using h
   subst this;rfl
 | n+1,s,h=>by
   rw[cP,List.mem_flatMap]at h;erw[t,ht,hs]at h
   have:=fY n t ht
   simp at hs
   rcases hs with rfl | rfl <;> simp [this]
theorem oh{n:Nat}(h:n<=6):2 ^ n<=64:=Nat.pow_le_pow_right ⋯ h
end Mine
namespace Mine
def Pm(p:Int):Prop:=1<p/\∀a:Int,¬ p ∣ a->∃f:Int,p ∣ f*a-1
theorem DC{p:Int}(hp:1<p):∀(n:Nat){former ff rest f:Int},rest.toNat<=n->Eu a p former ff rest f->∃g:Int,g*a % p=1
 | 0,former,ff,rest,f,hn,E=>by
   have:=E.r0
   omega
 | n+1,former,ff,rest,f,hn,E=>by
   by_cases c:rest=1
   . erw[f,(DD E c hp).2.2]
   . let%[E2|lt]:=yZ E c;exact DC hp n #[0] E2
theorem vh(h:Pr p)(hp:p<1002001):Pm p:=by
 have p1:1<p:=by have:=h.1;omega
 erw[p1,λa ha=>?_];have a0:0<a % p:=by
  have:=qB0 a (show p≠0 by omega)
  by_cases c:a % p=0
  . exact absurd (Int.dvd_of_emod_eq_zero c) ha
  . omega
 have a1:a % p<p:=qE0 _ #[0];let%[g|hg]:=DC p1 _ (zH0 _) (vZ h hp a0 a1);erw[g,6];have e1:g*a % p=1:=by rw[←hg,Int.mul_emod g (a % p),Int.emod_emod,←Int.mul_emod]
 have:=Int.emod_add_mul_ediv (g*a) p
 erw[g*a / p,3]
theorem Pm.mul{a b:Int}(h:Pm p)(hd:p ∣ a*b)(ha:¬ p ∣ a):p ∣ b:=by
 let%[f,k|hk]:=h.2 a ha;erw[m,hm]at hd;erw[f*m-k*b,by grind]
theorem Pm.not_mul{a b:Int}(h:Pm p)(ha:¬ p ∣ a)(hb:¬ p ∣ b):¬ p ∣ a*b:=λz=>hb (h.mul z ha)
def ch:Nat->Nat->Nat
 | _,0=>1
 | 0,_+1=>0
 | n+1,k+1=>ch n k+ch n (k+1)
theorem mX(n:Nat):ch n 0=1:=by cases n <;> rfl
theorem oB:∀(n k:Nat),n<k->ch n k=0
 | 0,k+1,_=>rfl
 | n+1,k+1,h=>by
   show ch n k+ch n (k+1)=0;rw[oB n k #[0],oB n (k+1) #[0]]
theorem Fu(n:Nat):ch n n=1:=by
 induction n with
 | zero=>rfl
 | succ n ih=>
   show ch n n+ch n (n+1)=1;rw[ih,oB n (n+1) #[0]]
theorem uM:∀(n k:Nat),(k+1)*ch (n+1) (k+1)=(n+1)*ch n k
 | 0,0=>rfl
 | 0,k+1=>by
   show(k+2)*(ch 0 (k+1)+ch 0 (k+2))=1*ch 0 (k+1);rw[oB 0 (k+1) #[0],oB 0 (k+2) #[0]]
   simp
 | n+1,0=>by
   have h:=uM n 0;rw[mX n]at h;show(0+1)*(ch (n+1) 0+ch (n+1) (0+1))=(n+1+1)*ch (n+1) 0;rw[mX (n+1)];omega
 | n+1,k+1=>by
   have h1:=uM n k;have h2:=uM n (k+1);show(k+2)*(ch (n+1) (k+1)+ch (n+1) (k+2))=(n+2)*ch (n+1) (k+1);have e:ch (n+1) (k+1)=ch n k+ch n (k+1):=rfl
   grind
def sm(f:Nat->Int):Nat->Int
 | 0=>0
 | n+1=>sm f n+f n
theorem qi{f g:Nat->Int}:∀n,(∀k,k<n->f k=g k)->sm f n=sm g n
 | 0,_=>rfl
 | n+1,h=>by
   show sm f n+f n=sm g n+g n;rw[qi n (λk hk=>h k #[0]),h n #[0]]
theorem Bw(f g:Nat->Int):∀n,sm (λk=>f k+g k) n=sm f n+sm g n
 | 0=>rfl
 | n+1=>by
   show sm (λk=>f k+g k) n+(f n+g n)=(sm f n+f n)+(sm g n+g n)
   rw[Bw f g n];omega
theorem Bu(c:Int)(f:Nat->Int):∀n,sm (λk=>c*f k) n=c*sm f n
 | 0=>by simp [sm]
 | n+1=>by
   show sm (λk=>c*f k) n+c*f n=c*(sm f n+f n)
   rw[Bu c f n]
   grind
theorem lQ(f:Nat->Int):∀n,sm f (n+1)=f 0+sm (λk=>f (k+1)) n
 | 0=>by simp [sm]
 | n+1=>by
   show sm f (n+1)+f (n+1)=f 0+(sm (λk=>f (k+1)) n+f (n+1))
   rw[lQ f n];omega
theorem Bv{p:Int}{f:Nat->Int}:∀n,(∀k,k<n->p ∣ f k)->p ∣ sm f n
 | 0,_=>%[(0)|by simp [sm]]
 | n+1,h=>Int.dvd_add (Bv n λk hk=>h k #[0]) (h n #[0])
theorem FW(a:Int):∀n:Nat,(a+1) ^ n=sm (λk=>(ch n k:Int)*a ^ k) (n+1)
 | 0=>by simp [sm,ch]
 | n+1=>by
   have ih:=FW a n;rw[Int.pow_succ,ih,lQ (λk=>((ch (n+1) k:Nat):Int)*a ^ k) (n+1)];have e1:sm (λk=>((ch (n+1) (k+1):Nat):Int)*a ^ (k+1)) (n+1)=a*sm (λk=>(ch n k:Int)*a ^ k) (n+1)+sm (λk=>(ch n (k+1):Int)*a ^ (k+1)) (n+1):=by
    rw[←Bu,←Bw];refine qi _ λk _=>?_
    have:ch (n+1) (k+1)=ch n k+ch n (k+1):=rfl
    rw[this,Int.natCast_add,Int.pow_succ]
    grind
   have e2:sm (λk=>(ch n k:Int)*a ^ k) (n+1)=1+sm (λk=>(ch n (k+1):Int)*a ^ (k+1)) (n+1):=by
    rw[lQ]
    have:sm (λk=>(ch n (k+1):Int)*a ^ (k+1)) (n+1)=sm (λk=>(ch n (k+1):Int)*a ^ (k+1)) n:=by
     show _+(ch n (n+1):Int)*a ^ (n+1)=_;rw[oB n (n+1) #[0]]
     simp
    rw[this,mX]
    simp
   rw[e1,mX]
   grind
theorem HI(h:Pm p){n k:Nat}(hn:(n:Int)+1=p)(hk:k<n):p ∣ ((ch (n+1) (k+1):Nat):Int):=by
 have e:((k:Int)+1)*((ch (n+1) (k+1):Nat):Int)=p*((ch n k:Nat):Int):=by
  have:=uM n k
  rw[←hn];exact_mod_cast this
 refine h.mul (a:=(k:Int)+1) %[_|e] λhd=>?_
 have:=Int.le_of_dvd #[0] hd
 omega
theorem rB(h:Pm p):∀a:Nat,p ∣ (a:Int) ^ p.toNat-a
 | 0=>by
   have:p.toNat≠0:=by have:=h.1;omega
   simp [Int.zero_pow this]
 | a+1=>by
   have ih:=rB h a;obtain⟨n,hn⟩:∃n:Nat,p.toNat=n+1:=%[p.toNat-1|by have:=h.1;omega]
   have hp:(n:Int)+1=p:=by have:=h.1;omega
   rw [hn]at ih ⊢;have b:=FW (a:Int) (n+1);have e:sm (λk=>(ch (n+1) k:Int)*(a:Int) ^ k) (n+1+1)=sm (λk=>(ch (n+1) (k+1):Int)*(a:Int) ^ (k+1)) n+(a:Int) ^ (n+1)+1:=by
    rw[lQ];show _+(sm _ n+(ch (n+1) (n+1):Int)*(a:Int) ^ (n+1))=_;rw[Fu,mX]
    simp
    omega
   have d:p ∣ sm (λk=>(ch (n+1) (k+1):Int)*(a:Int) ^ (k+1)) n:=Bv n λk hk=>Int.dvd_mul_of_dvd_left (HI h hp hk)
   erw[u,hu]at ih;erw[v,hv]at d;erw[u+v,6];rw[Int.natCast_add];show((a:Int)+1) ^ (n+1)-((a:Int)+1)=_;rw[b,e]
   grind
theorem Hu{a:Int}(h:Pm p)(ha:¬ p ∣ a)(a0:0<=a):p ∣ a*a ^ (p-2).toNat-1:=by
 obtain⟨n,hn⟩:∃n:Nat,p.toNat=n+2:=%[p.toNat-2|by have:=h.1;omega]
 have e:(p-2).toNat=n:=by omega
 have f:=rB h a.toNat;rw[Int.toNat_of_nonneg a0,hn]at f;rw[e];have g:a ^ (n+2)-a=a*(a*a ^ n-1):=by
  rw[Int.pow_succ,Int.pow_succ]
  grind
 rw[g]at f;exact h.mul f ha
def IsPoly:Nat->(Int->Int)->Prop
 | 0,f=>∀x,f x=0
 | n+1,f=>∃(a:Int)(g:Int->Int),IsPoly n g/\∀x,f x=a+x*g x
theorem IsPoly.congr:∀{n:Nat}{f g:Int->Int},IsPoly n f->(∀x,g x=f x)->IsPoly n g
 | 0,_,_,h,e=>λx=>(e x).trans (h x)
 | _+1,_,_,⟨a,k,hk,h⟩,e=>%[a,k,hk|λx=>(e x).trans (h x)]
theorem IsPoly.zero:∀n:Nat,IsPoly n λ_=>0
 | 0=>λ_=>rfl
 | n+1=>%[(0),λ_=>0,IsPoly.zero n|λx=>by simp]
theorem IsPoly.up:∀{n:Nat}{f:Int->Int},IsPoly n f->IsPoly (n+1) f
 | 0,f,h=>%[(0),λ_=>0,λ_=>rfl|λx=>by rw[h x];simp]
 | n+1,f,⟨a,g,hg,h⟩=>%[a,g,hg.up|h]
theorem IsPoly.upTo{n:Nat}{f:Int->Int}(h:IsPoly n f):∀m,n<=m->IsPoly m f:=λm hm=>by
 obtain⟨k,rfl⟩:∃k,m=n+k:=%[m-n|3]
 clear hm
 induction k with
 | zero=>exact h
 | succ k ih=>exact ih.up
theorem IsPoly.add:∀{n:Nat}{f g:Int->Int},IsPoly n f->IsPoly n g->IsPoly n λx=>f x+g x
 | 0,f,g,h,k=>λx=>by show f x+g x=0;rw[h x,k x];rfl
 | n+1,f,g,⟨a,u,hu,h⟩,⟨b,v,hv,k⟩=>%[a+b,λx=>u x+v x,hu.add hv|λx=>by show f x+g x=a+b+x*(u x+v x);rw[h x,k x];grind]
theorem IsPoly.mul(c:Int):∀{n:Nat}{f:Int->Int},IsPoly n f->IsPoly n λx=>c*f x
 | 0,f,h=>λx=>by show c*f x=0;rw[h x];simp
 | n+1,f,⟨a,u,hu,h⟩=>%[c*a,λx=>c*u x,hu.mul c|λx=>by show c*f x=c*a+x*(c*u x);rw[h x];grind]
theorem IsPoly.lin{n:Nat}{f:Int->Int}(h:IsPoly n f)(r:Int):IsPoly (n+1) λx=>(x-r)*f x:=by
 have h1:IsPoly (n+1) λx=>x*f x:=%[(0),f,h|λx=>by simp]
 exact(h1.add (h.up.mul (-r))).congr λx=>by grind
theorem IsPoly.div:∀{n:Nat}{f:Int->Int},IsPoly (n+1) f->∀r:Int,∃q,IsPoly n q/\∀x,f x-f r=(x-r)*q x
 | 0,f,⟨a,g,hg,h⟩,r=>%[λ_=>0,λ_=>rfl|λx=>by rw[h x,h r,hg x,hg r];simp]
 | n+1,f,⟨a,g,hg,h⟩,r=>by
   let%[q,hq|e]:=IsPoly.div hg r;erw[λx=>g x+r*q x,hg.add (hq.up.mul r),λx=>?_]
   have:=e x
   rw[h x,h r]
   grind
theorem IsPoly.roots(hp:Pm p):∀{n:Nat}{f:Int->Int}(rs:List Int),IsPoly n f->rs.length=n->rs.Pairwise (λa b=>¬ p ∣ b-a)->(∀r∈rs,p ∣ f r)->∀x,p ∣ f x
 | 0,f,_,h,_,_,_,x=>%[(0)|by rw[h x];simp]
 | n+1,f,[],_,hl,_,_,_=>by simp at hl
 | n+1,f,r::rs,h,hl,hd,hr,x=>by
   let%[q,hq|e]:=h.div r;have hd':=List.pairwise_cons.mp hd;have z:=IsPoly.roots hp rs hq (by simpa using hl) hd'.2 (λs hs=>by
    have h1:p ∣ (s-r)*q s:=by
     rw[←e s];exact Int.dvd_sub (hr s (qK0 _ hs)) (hr r qC0)
    exact hp.mul h1 (hd'.1 s hs)) x
   have:f x=f r+(x-r)*q x:=by have:=e x;omega
   rw[this];exact Int.dvd_add (hr r qC0) (Int.dvd_mul_of_dvd_right z)
end Mine
namespace Mine
def pr(g:Nat->Int):Nat->Int
 | 0=>1
 | n+1=>pr g n*g n
theorem qK{f g:Nat->Int}:∀n,(∀k,k<n->f k=g k)->pr f n=pr g n
 | 0,_=>rfl
 | n+1,h=>by
   show pr f n*f n=pr g n*g n;rw[qK n (λk hk=>h k #[0]),h n #[0]]
theorem qJ(g:Nat->Int):∀n,pr g (n+1)=g 0*pr (λk=>g (k+1)) n
 | 0=>by simp [pr]
 | n+1=>by
   show pr g (n+1)*g (n+1)=g 0*(pr (λk=>g (k+1)) n*g (n+1))
   rw[qJ g n,Int.mul_assoc]
def px(x:Int)(i:Nat):Nat->Int
 | 0=>1
 | n+1=>if n=i then px x i n else px x i n*(x-n)
theorem yG(i:Nat):∀n,IsPoly (if i<n then n else n+1) λx=>px x i n
 | 0=>%[(1),λ_=>0,λ_=>rfl|λx=>by simp [px]]
 | n+1=>by
   have ih:=yG i n
   by_cases c:n=i
   . subst c;rw[zA0 (qT0 n)]at ih;rw[zD0 (Nat.lt_succ_self n)];exact ih.congr λx=>by simp [px]
   . have e:∀x,px x i (n+1)=(x-n)*px x i n:=λx=>by
      show(if n=i then px x i n else px x i n*(x-n))=_;rw[zA0 c,Int.mul_comm]
     by_cases c2:i<n
     . rw[zD0 c2]at ih;rw[zD0 #[0]];exact(ih.lin n).congr e
     . rw[zA0 c2]at ih;rw[zA0 #[0]];exact(ih.lin n).congr e
theorem uc{k i:Nat}(h:k≠i):∀n,k<n->px (k:Int) i n=0
 | n+1,hk=>by
   show(if n=i then px (k:Int) i n else px (k:Int) i n*((k:Int)-n))=0
   by_cases c:n=i
   . rw[zD0 c];exact uc h n #[0]
   . rw [zA0 c]
     by_cases c2:k=n
     . subst c2
       simp
     . rw [uc h n #[0]]
       simp
def lag(v u:Nat->Int)(n:Nat)(x:Int):Int:=sm (λi=>v i*px x i n*u i) n
theorem Es{n m:Nat}{f:Nat->Int->Int}:(∀i,i<m->IsPoly n (f i))->IsPoly n λx=>sm (λi=>f i x) m:=by
 induction m with
 | zero=>exact λ_=>IsPoly.zero n
 | succ m ih=>exact λh=>(ih λi hi=>h i #[0]).add (h m #[0])
theorem vO(v u:Nat->Int)(n:Nat):IsPoly n (lag v u n):=Es λi hi=>by
 have h:=yG i n;rw[zD0 hi]at h;exact(h.mul (v i*u i)).congr λx=>by grind
theorem Bt{f:Nat->Int}{k:Nat}:∀n,k<n->(∀i,i<n->i≠k->f i=0)->sm f n=f k
 | n+1,hk,h=>by
   show sm f n+f n=f k
   by_cases c:k=n
   . subst c;have z:sm f k=0:=by
      have:sm f k=sm (λ_=>0) k:=qi k λi hi=>h i #[0] #[0]
      rw[this];clear this h hk
      induction k with
      | zero=>rfl
      | succ k ih=>show sm (λ_=>0) k+0=0;rw[ih];rfl
     rw[z]
     simp
   . rw [Bt n #[0] (λi hi=>h i #[0]),h n #[0] #[0]]
     simp
def Wgt(p:Int)(n:Nat)(u:Nat->Int):Prop:=∀i,i<n->p ∣ px (i:Int) i n*u i-1
theorem xV{k:Nat}(hu:Wgt p n u)(hk:k<n):p ∣ lag v u n k-v k:=by
 unfold lag;rw[Bt n hk λi hi hne=>by rw[uc (Ne.symm hne) n hk];simp];let%[m|hm]:=hu k hk;erw[v k*m,by grind]
theorem far{p:Int}{n:Nat}(hn:(n:Int)<=p):((List.range n).map λk:Nat=>(k:Int)).Pairwise λa b=>¬ p ∣ b-a:=by
 rw[List.pairwise_map];refine List.Pairwise.imp_of_mem (fun{a b} ha hb h=>?_) List.pairwise_lt_range;intro d
 have:=Int.le_of_dvd #[0] d
 have hb':=List.mem_range.mp hb;omega
theorem alike(hp:Pm p){n:Nat}(hn:(n:Int)<=p){f g:Int->Int}(hf:IsPoly n f)(hg:IsPoly n g)(h:∀k:Nat,k<n->p ∣ f k-g k)(x:Int):p ∣ f x-g x:=by
 have hd:IsPoly n λx=>f x-g x:=(hf.add (hg.mul (-1))).congr λx=>by grind
 refine hd.roots hp ((List.range n).map λk:Nat=>(k:Int)) (by simp) (far hn) (λr hr=>?_) x;let%[k,hk|1]:=List.mem_map.mp hr;exact h k (List.mem_range.mp hk)
theorem vN(hp:Pm p){n:Nat}(hn:(n:Int)<=p){v:Nat->Int}{P:Int->Int}(hu:Wgt p n u)(hP:IsPoly n P)(h:∀k:Nat,k<n->p ∣ v k-P k)(x:Int):p ∣ lag v u n x-P x:=
 alike hp hn (vO v u n) hP (λk hk=>by
  have h1:=xV (v:=v) hu hk;have h2:=h k hk
  have:lag v u n k-P k=(lag v u n k-v k)+(v k-P k):=by omega
  rw[this];exact Int.dvd_add h1 h2) x
theorem Di(hp:Pm p){n:Nat}(hn:(n:Int)<=p)(hu:Wgt p n u)(hu':Wgt p n u')(x:Int):p ∣ lag v u n x-lag v u' n x:=
 vN hp hn hu (vO v u' n) (λk hk=>by
  let%[m|hm]:=xV (v:=v) hu' hk;erw[-m,by grind]) x
theorem qG(x:Int)(i:Nat):∀m,px x i (i+1+m)=pr (λj=>x-j) i*pr (λj=>x-(i+1+j:Nat)) m
 | 0=>by
   have h:∀k,k<=i->px x i k=pr (λj=>x-j) k:=λk=>by
    induction k with
    | zero=>exact λ_=>rfl
    | succ k ih=>
      intro hk;show(if k=i then px x i k else px x i k*(x-k))=pr (λj=>x-j) k*(x-k)
      rw[zA0 #[0],ih #[0]]
   show(if i=i then px x i i else _)=_*1;rw[zD0 rfl,h i (zH0 _),Int.mul_one]
 | m+1=>by
   show(if i+1+m=i then _ else px x i (i+1+m)*(x-(i+1+m:Nat)))=pr (λj=>x-j) i*(pr (λj=>x-(i+1+j:Nat)) m*(x-(i+1+m:Nat)))
   rw[zA0 #[0],qG x i m,Int.mul_assoc]
theorem yH(x:Int)(i:Nat):∀m,pr (λj=>x-(i+m:Nat)+j) m=pr (λj=>x-(i+1+j:Nat)) m
 | 0=>rfl
 | m+1=>by
   rw[qJ];show _=pr (λj=>x-(i+1+j:Nat)) m*(x-(i+1+m:Nat))
   have e:pr (λk=>x-(i+(m+1):Nat)+(k+1:Nat)) m=pr (λj=>x-(i+m:Nat)+j) m:=qK m λk _=>by omega
   rw[e,yH x i m,Int.mul_comm]
   congr 1
   omega
def fac:Nat->Int
 | 0=>1
 | n+1=>fac n*((n:Int)+1)
theorem vY:∀n:Nat,pr (λj=>(n:Int)-j) n=fac n
 | 0=>rfl
 | n+1=>by
   rw[qJ];have e:pr (λk=>((n+1:Nat):Int)-(k+1:Nat)) n=pr (λj=>(n:Int)-j) n:=qK n λk _=>by omega
   rw[e,vY n];show((n+1:Nat)-(0:Nat):Int)*fac n=fac n*((n:Int)+1)
   rw[Int.mul_comm]
   congr 1
theorem yY(i:Nat):∀m:Nat,pr (λj=>(i:Int)-(i+1+j:Nat)) m=(-1) ^ m*fac m
 | 0=>rfl
 | m+1=>by
   show pr _ m*((i:Int)-(i+1+m:Nat))=(-1) ^ (m+1)*(fac m*((m:Int)+1))
   rw[yY i m,Int.pow_succ]
   have:((i:Int)-(i+1+m:Nat))=-((m:Int)+1):=by omega
   rw[this]
   grind
theorem BT(i m:Nat):px (i:Int) i (i+1+m)=fac i*((-1) ^ m*fac m):=by rw[qG,vY,yY]
theorem vX:∀(k d:Nat),fac d*pr (λj=>((d+k:Nat):Int)-j) k=fac (d+k)
 | 0,d=>by simp [pr]
 | k+1,d=>by
   have ih:=vX k (d+1);rw[show d+1+k=d+(k+1) by omega]at ih;rw[←ih];show fac d*(pr (λj=>((d+(k+1):Nat):Int)-j) k*(((d+(k+1):Nat):Int)-k))=fac d*((d:Int)+1)*pr (λj=>((d+(k+1):Nat):Int)-j) k
   have:(((d+(k+1):Nat):Int)-k)=(d:Int)+1:=by omega
   rw[this]
   grind
theorem uL(hp:Pm p):∀n:Nat,(n:Int)<p->¬ p ∣ fac n
 | 0,_=>λd=>by
   have:=Int.le_of_dvd ⋯ (show p ∣ 1 from d)
   have:=hp.1
   omega
 | n+1,h=>hp.not_mul (uL hp n #[0]) λd=>by
   have:=Int.le_of_dvd #[0] d
   omega
theorem yC(m:Nat):((-1:Int) ^ m)*(-1) ^ m=1:=by
 induction m with
 | zero=>rfl
 | succ m ih=>rw[Int.pow_succ];grind
theorem GN(hp:Pm p){n i:Nat}(hn:(n:Int)<=p)(hi:i<n):¬ p ∣ px (i:Int) i n:=by
 obtain⟨m,rfl⟩:∃m,n=i+1+m:=%[n-(i+1)|3]
 rw[BT];refine hp.not_mul (uL hp i #[0]) (hp.not_mul (λd=>?_) (uL hp m #[0]));erw[k,hk]at d;have s:=yC m
 have:p ∣ 1:=%[k*(-1) ^ m|by grind]
 have:=Int.le_of_dvd ⋯ this
 have:=hp.1
 omega
theorem Eb{p:Int}{last:Nat}{sh:Nat->Int}(h:∀k,k<=last->p ∣ sh k*fac k-1):Wgt p (last+1) λi=>(-1) ^ (last-i)*(sh i*sh (last-i)):=λi hi=>by
 obtain⟨m,rfl⟩:∃m,last=i+m:=%[last-i|3]
 show p ∣ px (i:Int) i (i+m+1)*((-1) ^ (i+m-i)*(sh i*sh (i+m-i)))-1;rw[show i+m+1=i+1+m by omega,BT,show i+m-i=m by omega];let%[a|ha]:=h i #[0];let%[b|hb]:=h m #[0];have s:=yC m;erw[a*(sh m*fac m)+b,6];have e:fac i*((-1) ^ m*fac m)*((-1) ^ m*(sh i*sh m))=((-1) ^ m*(-1) ^ m)*((sh i*fac i)*(sh m*fac m)):=by grind
 rw[e,s]
 grind
end Mine
namespace Mine
theorem IsPoly.prod:∀{m n:Nat}{f g:Int->Int},IsPoly (m+1) f->IsPoly (n+1) g->IsPoly (m+n+1) λx=>f x*g x
 | 0,n,f,g,⟨a,u,hu,e⟩,hg=>by
   rw[Nat.zero_add];exact(hg.mul a).congr λx=>by rw[e x,hu x];simp
 | m+1,n,f,g,⟨a,u,hu,e⟩,hg=>by
   have ih:=IsPoly.prod hu hg;have h1:IsPoly (m+n+1+1) λx=>x*(u x*g x):=%[(0),_,ih|λx=>by simp]
   have h2:IsPoly (m+n+1+1) λx=>a*g x:=(hg.mul a).upTo _ #[0]
   rw[show m+1+n+1=m+n+1+1 by omega];exact(h2.add h1).congr λx=>by rw[e x];grind
theorem IsPoly.const(c:Int)(n:Nat):IsPoly (n+1) λ_=>c:=%[c,λ_=>0,IsPoly.zero n|λx=>by simp]
theorem IsPoly.self:IsPoly 2 λx=>x:=%[(0),λ_=>1,IsPoly.const 1 0|λx=>by simp]
theorem rC(p x:Int):p ∣ x % p-x:=⟨-(x / p),by
 have:=Int.emod_add_mul_ediv x p
 rw[Int.mul_neg];omega⟩
end Mine
namespace Mine
open PySem L2
theorem Fk{us:List Value}(h:us.length=1):∃a,us=[a]:=by
 cases us with
 | nil=>cases h
 | cons a r=>
   cases r with
   | nil=>erw[a,1]
   | cons _ _=>cases h
theorem Ap{us:List Value}{n:Nat}(h:us.length=n+1):∃a r,us=a::r/\r.length=n:=by
 cases us with
 | nil=>cases h
 | cons a r=>erw[a,r,1,Nat.succ.inj h]
theorem Fi{us:List Value}(h:us.length=2):∃a b,us=[a,b]:=by
 let%[a,r,1|h1]:=Ap h;let%[b|1]:=Fk h1;erw[a,b,1]
theorem Fh{us:List Value}(h:us.length=3):∃a b c,us=[a,b,c]:=by
 let%[a,r,1|h1]:=Ap h;let%[b,c|1]:=Fi h1;erw[a,b,c,1]
theorem Fg{us:List Value}(h:us.length=4):∃a b c d,us=[a,b,c,d]:=by
 let%[a,r,1|h1]:=Ap h;let%[b,c,d|1]:=Fh h1;erw[a,b,c,d,1]
theorem len5{us:List Value}(h:us.length=5):∃a b c d e,us=[a,b,c,d,e]:=by
 let%[a,r,1|h1]:=Ap h;let%[b,c,d,e|1]:=Fg h1;erw[a,b,c,d,e,1]
theorem len6{us:List Value}(h:us.length=6):∃a b c d e f,us=[a,b,c,d,e,f]:=by
 let%[a,r,1|h1]:=Ap h;let%[b,c,d,e,f|1]:=len5 h1;erw[a,b,c,d,e,f,1]
theorem len7{us:List Value}(h:us.length=7):∃a b c d e f g,us=[a,b,c,d,e,f,g]:=by
 let%[a,r,1|h1]:=Ap h;let%[b,c,d,e,f,g|1]:=len6 h1;erw[a,b,c,d,e,f,g,1]
def top(i:Nat):Stmt:=PySem.Challenge.pw_asktally_k54_whole_weighed.main.body.getD i (.Pass %[(0),(0),(0)|(0)])
abbrev lD:Stmt:=top 13
abbrev jk:Stmt:=top 14
abbrev jT:Stmt:=top 15
abbrev lu:Stmt:=top 17
abbrev jX:Stmt:=top 18
abbrev hU:Stmt:=top 19
abbrev ly:Stmt:=top 20
abbrev dM:Stmt:=top 21
abbrev ic:Stmt:=top 23
abbrev jm:Stmt:=top 24
abbrev qx:Stmt:=top 25
abbrev lE:Stmt:=top 26
abbrev hV:Stmt:=top 27
abbrev kA:Stmt:=top 28
abbrev je:Stmt:=top 29
abbrev jZ:Stmt:=top 32
abbrev jW:Stmt:=top 34
abbrev lx:Stmt:=top 35
abbrev jb:Stmt:=top 39
abbrev lA:Stmt:=top 40
abbrev oa:Stmt:=top 41
abbrev tL:Stmt:=top 46
abbrev gG:Stmt:=top 47
abbrev jp:Stmt:=top 49
abbrev qp:Stmt:=top 50
abbrev nK:Stmt:=top 53
abbrev dU:Stmt:=top 54
abbrev jU:Stmt:=top 55
abbrev iZ:Stmt:=top 57
abbrev ib:Stmt:=top 58
abbrev jV:Stmt:=top 62
abbrev gH:Stmt:=top 63
abbrev jf:Stmt:=top 64
abbrev jg:Stmt:=top 65
abbrev jQ:Stmt:=top 66
abbrev nZ:Stmt:=top 76
abbrev jj:Stmt:=top 77
abbrev iE:Stmt:=top 85
abbrev jo:Stmt:=top 86
abbrev jP:Stmt:=top 87
abbrev hZ:Stmt:=top 88
abbrev iy:Stmt:=top 89
abbrev dG:Stmt:=top 90
abbrev qy:Stmt:=top 93
abbrev qw:Stmt:=top 95
abbrev qu:Stmt:=top 96
abbrev bY:Stmt:=top 97
abbrev lX:Stmt:=top 98
abbrev gP:Stmt:=top 99
abbrev jS:Stmt:=top 100
abbrev jh:Stmt:=top 101
abbrev nY:Stmt:=top 102
abbrev jR:Stmt:=top 103
abbrev iz:Stmt:=top 104
abbrev nU:Stmt:=top 105
abbrev lY:Stmt:=top 106
abbrev lC:Stmt:=top 107
abbrev qv:Stmt:=top 108
abbrev lB:Stmt:=top 109
abbrev ia:Stmt:=top 110
abbrev ji:Stmt:=top 111
abbrev tO:Stmt:=top 112
abbrev nV:Stmt:=top 113
abbrev qt:Stmt:=top 114
abbrev lW:Stmt:=top 115
section
variable {P:Program} {w:World} {K:W.Frag} {mg:Str->Option Value} {base:Heap}
abbrev df:Stmt:=top 31
abbrev jY:Stmt:=top 37
abbrev kC:Stmt:=top 44
abbrev tQ:Stmt:=top 61
structure Bl(mg:Str->Option Value):Prop where
 len:mg "len"=none
 range:mg "range"=none
 isinstance:mg "isinstance"=none
 int:mg "int"=none
 bool:mg "bool"=none
 list:mg "list"=none
 tuple:mg "tuple"=none
 max:mg "max"=none
 reversed:mg "reversed"=none
 enumerate:mg "enumerate"=none
 sum:mg "sum"=none
 all:mg "all"=none
 dict:mg "dict"=none
theorem yX(z:Int):0<=z % 2147483646+1/\z % 2147483646+1<=2147483646:=by omega
theorem gC:FnScope ["_law_script","_law_k","_law_cell","_law_own"] ["_law_script","_law_k"] (ai qw):=%[1,1,1,4,1,4|4]
theorem zY   (F:Fun K "_law_feed" "_law_feed" qw f fd) (hlen:mg "len"=none):FnOk P w K mg base CX0 1 f fd ["_law_script","_law_k"] (spFeed K):=by
 exists gC
 erw[a,ns,k,1,hS,h63,k0,k1,q]at h;refine⟨_,(aa #[aj,2,gC,ao aQ (ao cq ae (pv 1)) ae]
  (aa (aG (ah dP (pv 1) (aE aD rfl hlen PySem.boot_len %[0|aO]) (ax _)) (ad #[aj,2,gC,aJ ix_list (pv 0) (pv 1) (λ_ _=>rfl)]) (ad (aG (ah gK (aE aD rfl hlen PySem.boot_len %[0|aO]) ae (ax _)) (ad #[aj,2,gC,ao aQ (ao cq (ao bc (aJ ix_list (pv 0) (ao bc (pv 1) (aE aD rfl hlen PySem.boot_len %[0|aO])) (λ_ _=>rfl)) ae) ae) (ao cq ae (pv 1))]) az)))
  (aa #[aj,3,gC,ae]
  (aa (aG (ah FP (pv 2) (ao Ck ae ae) (ax _)) (ad #[aj,3,gC,pv 2]) az)
  (ad (aq (dy %[3,ao aQ (ao bc (ao aQ (ao cq (ao bc (pv 2) ae) ae) (ao cq ae (pv 1))) ae) ae|aO]))))))),?_⟩
 have hl:(ns.map V.int).length=ns.length:=zE0 _;have hp:(10:Int) ^ (18:Int).toNat=1000000000000000000:=by decide
 erw[0,2,.inl %[4|4],2,6];erw[0,0,a,0,.inl hS,2,0,6];refine rf (λc=>?b1) (λc=>?b2)
 case' b1=>
  have c':k<(((ns.map V.int).length:Nat):Int):=of_decide_eq_true c;rw[hl]at c';let%[v|hv]:=DS (ns:=ns) k0 c';erw[0,0,a,_,2,hS,hv,6]
 case' b2=>
  erw[0,a,0,.inl hS,2,0,6];refine rf (λc2=>?b3) (λc2=>?b4)
  case' b3=>
   have c':(0:Int)<(((ns.map V.int).length:Nat):Int):=of_decide_eq_true c2;have m0:=qB0 k (b:=(((ns.map V.int).length:Nat):Int)) #[0];have m1:=qE0 k c';let%[v|hv]:=DS (ns:=ns) m0 (by rw[hl]at m1 ⊢;exact m1);have n0:=qB0 v (b:=2147483629) ⋯;have n1:=qE0 v (b:=2147483629) ⋯;erw[0,0,0,a,0,.inl hS,2,c',a,_,2,hS,hv,2,(by show(0:Int)<_;decide),2,.inr %[4|4],0,2,.inl %[4|4],2,6]
 all_goals
  erw[0,2,%[4,4|4],2,0,6];refine rf (λc3=>?_) (λc3=>?_)
  . have c4:=of_decide_eq_true c3;rw[hp]at c4;erw[0,0,0,2,(by show(0:Int)<_;decide),2,.inr %[4|4],0,2,.inl %[4|4],2,2,(by show(0:Int)<_;decide),2,(by show 2<=sizeLine;decide),λp hp=>?_];refine q p _ hp (zB0 hp _) %[_,_,aI,Int.le_trans ⋯ c4,(yX _).1|(yX _).2]
  . erw[0,0,2,(by show(0:Int)<_;decide),2,.inr %[4|4],0,2,.inl %[4|4],2,2,(by show(0:Int)<_;decide),2,(by show 2<=sizeLine;decide),λp hp=>?_];refine q p _ hp (zB0 hp _) %[_,_,aI,Int.le_refl 0,(yX _).1|(yX _).2]
theorem pP:FnScope ["_law_feed_here","_law_many","_law_digit","_law_one"] ["_law_feed_here","_law_many"] (ai qu):=%[1,1,1,4,1,4|4]
theorem zW   (F:Fun K "_law_take" "_law_take" qu f fd):FnOk P w K mg base CX0 1 f fd ["_law_feed_here","_law_many"] spTake:=by
 exists pP
 erw[f,m,1,%[own,st,hf,o0,s0|s1],m0,m1,q]at h;refine⟨_,(aa (aG (ah gK (aJ ix_list (pv 0) ae (λ_ _=>rfl)) ae (ax _)) (aa #[aj,2,pP,ao bc (aJ ix_list (pv 0) ae (λ_ _=>rfl)) (pv 1)]
  (aa (kc (ao Cm (aJ ix_list (pv 0) ae (λ_ _=>rfl)) (pv 1)) (qQ (pv 0) ae jJ))
  (ad (aq (pv 2))))) az)
  (aa #[aj,3,pP,ao bc (ao cq (aJ ix_list (pv 0) ae (λ_ _=>rfl)) ae) ae]
  (aa (kc (ao aQ (ao bc (ao aQ (ao cq (pv 3) ae) ae) ae) ae) (qQ (pv 0) ae jJ))
  (ad (aq (ao bc (ao yJ (ao aQ (ao cq (pv 3) ae) (aJ ix_list (pv 0) ae (λ_ _=>rfl))) ae) (pv 1))))))),?_⟩
 erw[0,f,_,(0),0,1,zG0 hf,1,2,0,6];refine rf (λc=>?_) (λc=>?_)
 . erw[0,f,_,(0),0,1,zG0 hf,1,0,2,m0,6];erw[0,f,_,(0),0,1,zG0 hf,1,0,2,%[m0|m1],0,f,_,(0),(0),1,1,hf,1,6];erw[0,6];exact q _ _ (qB0 _ #[0]) (qE0 _ m0) ⟨_,_,aI,Int.ediv_nonneg o0 #[0],s0,s1⟩ (SameBut.upd _)
 . have a0:=qB0 (st*69621) (b:=2147483647) ⋯;have a1:=qE0 (st*69621) (b:=2147483647) ⋯;erw[0,f,_,(1),0,1,zG0 hf,1,2,.inr %[4|4],2,(by show(0:Int)<_;decide),6];erw[0,2,.inr %[4|4],2,2,(by show(0:Int)<_;decide),2,0,f,_,(1),(1),1,1,hf,1,6];have b0:=qB0 (st*69621 % 2147483647*48271+30103) (b:=2147483646) ⋯;have b1:=qE0 (st*69621 % 2147483647*48271+30103) (b:=2147483646) ⋯;erw[0,2,.inr %[4|4],0,f,_,(1),0,1,zG0 aI,1,2,2,%[4|4],0,2,m0,6];exact q _ _ (qB0 _ #[0]) (qE0 _ m0) ⟨_,_,aI,o0,by omega,by omega⟩ (SameBut.upd _)
theorem iY:FnScope ["_law_feed_here","_law_names_here","_law_room","_law_deep","_law_form","_law_more","_law_one","_law_word"] ["_law_feed_here","_law_names_here","_law_room","_law_deep"] (ai lX):=%[1,1,1,4,1,4|4]
theorem lf{a X Y B:Prop}[Decidable a](x:X)(h:¬ a->X->B):if decide a=true then(if true=true then X else Y)else B:=by
 by_cases c:a
 . rw[decide_eq_true c];exact ei (ei x)
 . rw[decide_eq_false c];exact cW (h c x)
theorem zv {n:Nat}   (F:Fun K "_law_tree" "_law_tree" lX f fd) (hlen:mg "len"=none) (aW:Cal P w K mg base 1 "_law_take" ["_law_feed_here","_law_many"] spTake)
 (e9:Cal P w K mg base (n+2) "_law_tree" ["_law_feed_here","_law_names_here","_law_room","_law_deep"] (spTree n)):FnOk P w K mg base CX0 (n+3) f fd ["_law_feed_here","_law_names_here","_law_room","_law_deep"] (spTree (n+1)):=by
 exists iY
 erw[f,a,room,deep,ns,1,hF,hN,nl,r1,r100,d1,dn,q]at h;refine⟨_,(aa #[aj,4,iY,ag aW hr (Nat.succ_le_succ (zT0 _)) rfl %[0,ae|aO]]
  (aa (aG (PW.pt (fK (ah dP (pv 2) ae (ax _)) (fK (ah dP (pv 3) ae (ax _)) (eN (ah aP (pv 4) ae (ax _)))))) (aa (aG (PW.pt (fK (ah aP (ao bc (pv 4) ae) ae (ax _)) (eN (ah aP (aE aD rfl hlen PySem.boot_len %[1|aO]) ae (ax _))))) (ad (aq (aJ ix_list (dy %[aF %[au|aO],aF %[au|aO]|aO]) (ag aW hr (Nat.succ_le_succ (zT0 _)) rfl %[0,ae|aO]) (λ_ _=>rfl)))) az)
   (ad (aq (aF %[au,aJ (ix_list.or ix_tup) (pv 1) (ag aW hr (Nat.succ_le_succ (zT0 _)) rfl %[0,aE aD rfl hlen PySem.boot_len %[1|aO]|aO]) (λ_ _=>rfl)|aO])))) az)
  (aa (aG (PW.pt (fK (ah dP (pv 2) ae (ax _)) (eN (ah aP (pv 4) ae (ax _))))) (ad (aq (aF %[au,ag e9 hr (zH0 _) rfl %[0,1,ao bm (pv 2) ae,ao bm (pv 3) ae|aO]|aO]))) az)
  (aa #[aj,5,iY,ao aQ ae (ag aW hr (Nat.succ_le_succ (zT0 _)) rfl %[0,ao bm (pv 2) ae|aO])]
  (aa #[aj,6,iY,ag e9 hr (zH0 _) rfl %[0,1,5,ao bm (pv 3) ae|aO]]
  (aa #[aj,7,iY,aJ ix_list (dy %[au,au,au,au|aO]) (ao bc (pv 4) ae) (λ_ _=>rfl)]
  (ad (aq (aF %[7,6,ag e9 hr (zH0 _) rfl %[0,1,ao bm (ao bm (pv 2) ae) (pv 5),ao bm (pv 3) ae|aO]|aO]))))))))),?_⟩
 erw[0,f,(10),1,hF,4,4,λfm H1 f0 f10 F1 S1=>?_];have N1:=hN.feed hF S1;erw[0,2,0,6];refine lf ?leaf λc1 hX=>?_
 case leaf=>
  erw[0,2,(by show(0:Int)<_;decide),1,0,6];refine lf ?yn λc6 hY=>?_
  case yn=>
   erw[(by show 1<=sizeLine;decide),λp1 h1=>?_];erw[(by show 1<=sizeLine;decide),λp2 h2=>?_];erw[(by show 2<=sizeLine;decide),λl hl=>?_];have ga:=zB0 h1 (.tup [.str "yes"]);have gb:=zB0 h2 (.tup [.str "no"]);have gc:=zB0 hl (.lst [.ref p1,.ref p2]);have G:=ga.trans (gb.trans gc);have nlf:=(F1.same (ga.trans gb)).ne hl;erw[0,f,(2),1,F1.same G,4,4,λd H2 d0 d2 F2 S2=>?_];have y2:H2 p1=some (.tup [.str "yes"]):=aZ (F1.same G) S2 _ _ (gc _ _ (gb _ _ aI));have n2:H2 p2=some (.tup [.str "no"]):=aZ (F1.same G) S2 _ _ (gc _ _ aI);have l2:=S2 l _ nlf aI
   have:d=0∨d=1:=by omega
   rcases this with rfl | rfl
   . erw[l,_,(0),0,1,zG0 l2,1,q (.ref p1) .yes H2 F2 (S1.trans ((zI0 G).trans S2)) (.yes y2) trivial (show(1:Int)<=room from r1) (show(1:Int)<=deep from d1)]
   . erw[l,_,(1),0,1,zG0 l2,1,q (.ref p2) .no H2 F2 (S1.trans ((zI0 G).trans S2)) (.no n2) trivial (show(1:Int)<=room from r1) (show(1:Int)<=deep from d1)]
  erw[0,a,0,N1.seq,1,0,6]
  by_cases c7:V.int ((ns.map V.str).length:Int)=V.int 0
  . exact aS c7 hY
  refine aB c7 ?_;have nz:0<ns.length:=by
   have z:¬ ((ns.map V.str).length:Int)=0:=λz=>c7 (congrArg V.int z)
   rw[zE0]at z;omega
  erw[0,0,0,a,0,N1.seq,f,0,F1,(show(0:Int)<((ns.map V.str).length:Int) by rw[zE0];omega),by rw[zE0];omega,λd H2 d0 d9 F2 S2=>?_];let%[v,hv|vm]:=nj (l:=ns.map V.str) (i:=d) d0 d9;let%[x,hx|1]:=List.mem_map.mp vm;refine(N1.feed F1 S2).ix hv ?_;erw[(by show 2<=sizeLine;decide),λp hp=>?_];have G:=zB0 hp (.tup [.str "is",.str x]);exact q (.ref p) (.is x) _ (F2.same G) (S1.trans (S2.trans (zI0 G))) (.is aI) hx (show(1:Int)<=room from r1) (show(1:Int)<=deep from d1)
 erw[0,2,0,6]
 by_cases c2:deep<2
 . exact aS c2 (ei hX)
 refine aB c2 ?_;erw[0,1,0,6]
 by_cases c3:V.int fm=V.int 9
 . exact aS c3 hX
 refine aB c3 ?_;erw[0,2,0,6];have d2:2<=deep:=by omega
 have dd:1<=deep-1:=by omega
 have ddn:deep-1+1<=(n:Int)+1:=by omega
 refine lf ?nt λc4 hN=>?_
 case nt=>
  erw[0,0,0,2,0,2,f,a,_,_,ns,1,F1,N1,nl,(show 1<=room-1 by omega),3,dd,ddn,λv1 t1 H3 F3 S3 T1 o1 z1 p1=>?_];erw[(by show 2<=sizeLine;decide),λp hp=>?_];have G5:=zB0 hp (.tup [.str "not",v1]);refine q (.ref p) (.not t1) _ (F3.same G5) (S1.trans (S3.trans (zI0 G5))) (.not aI (T1.mono (aX G5))) o1 ?_ ?_
  . show((t1.size+1:Nat):Int)<=room;omega
  . show((t1.depth+1:Nat):Int)<=deep;omega
 erw[0,1,0,6]
 by_cases c5:V.int fm=V.int 8
 . exact aS c5 hN
 refine aB c5 ?_;erw[0,0,2,f,0,F1,(show(0:Int)<room-2 by omega),(show room-2<2 ^ 63 by omega),λe H2 e0 e1 F2 S2=>?_];erw[2,6];have N2:=N1.feed F1 S2;erw[0,0,0,0,2,f,a,_,_,ns,1,F2,N2,nl,3,3,dd,ddn,λv1 t1 H3 F3 S3 T1 o1 z1 p1=>?_];have N3:=N2.feed F2 S3;erw[(by show 4<=sizeLine;decide),λl hl=>?_];let%[wd,hw|wm]:=nj (l:=joinW.map V.str) (i:=fm % 4) #[0] (by
  have:(joinW.map V.str).length=4:=by rfl
  omega)
 let%[x,hx|1]:=List.mem_map.mp wm;erw[0,2,(by show(0:Int)<_;decide),l,_,2,zG0 aI,hw,6];have G:=zB0 hl (.lst [.str "and",.str "or",.str "odd",.str "same"]);erw[0,0,0,0,0,2,0,2,0,2,f,a,_,_,ns,1,F3.same G,N3.same G,nl,(show 1<=room-1-(1+e) by omega),3,dd,ddn,λv2 t2 H4 F4 S4 T2 o2 z2 p2=>?_];erw[(by show 3<=sizeLine;decide),λp hp=>?_];have G5:=zB0 hp (.tup [.str x,v1,v2]);have T1':TreeAt H4 v1 t1:=(T1.mono (aX G)).mono (aZ (F3.same G) S4);refine q (.ref p) (.bin x t1 t2) _ (F4.same G5) (S1.trans (S2.trans (S3.trans ((zI0 G).trans (S4.trans (zI0 G5)))))) (.bin aI (T1'.mono (aX G5)) (T2.mono (aX G5))) %[hx,o1|o2] ?_ ?_
 . show((t1.size+t2.size+1:Nat):Int)<=room;omega
 . show((max t1.depth t2.depth+1:Nat):Int)<=deep;omega
theorem zu  :FnOk P w K mg base CX0 2 f fd ["_law_feed_here","_law_names_here","_law_room","_law_deep"] (spTree 0):=by
 have no:∀vs H Q E,¬ spTree 0 vs H Q E:=λvs H Q E h=>by
  erw[f,a,room,deep,ns,_,_,_,_,_,_,h1,h2,_]at h;omega
 erw[λvs H Q E h=>absurd h (no vs H Q E),λA outer s H args us vs Q E _ _ _ _ h=>absurd h (no vs H Q E)]
theorem sC   (F:Fun K "_law_tree" "_law_tree" lX f fd) (hlen:mg "len"=none) (m:mg "_law_tree"=some (.ref f)) (aW:Cal P w K mg base 1 "_law_take" ["_law_feed_here","_law_many"] spTake) :
 ∀n:Nat,FnOk P w K mg base CX0 (n+2) f fd ["_law_feed_here","_law_names_here","_law_room","_law_deep"] (spTree n)
 | 0=>zu
 | n+1=>zv F hlen aW (Cal.of F (sC F hlen m aW n) m (λ_ _ _ _ _ _ us hl=>by let%[u0,u1,u2,u3|1]:=Fg hl;rfl))
def Hk:Stmt->List Stmt
 | .If _ b _ _=>b
 | _=>[]
def Hj:Stmt->Expr
 | .If c _ _ _=>c
 | _=>.Constant .none 0 %[(0),(0),(0)|(0)]
def Bb:Stmt->Expr
 | .Assign _ v _=>v
 | .Return (some v) _=>v
 | _=>.Constant .none 0 %[(0),(0),(0)|(0)]
def yf:Expr->List Expr
 | .List es _=>es
 | .BinOp _ _ (.List es _) _=>es
 | .Subscript (.List es _) _ _=>es
 | _=>[]
abbrev stm(s:Stmt)(i:Nat):Stmt:=(gh s).getD i (.Pass %[(0),(0),(0)|(0)])
abbrev Ep(s:Stmt)(i j:Nat):Stmt:=(Hk (stm s i)).getD j (.Pass %[(0),(0),(0)|(0)])
def wordsA:List Str:=["is","set","say","if","go","end","num","box","op","field","holds","claims"]
def wordsB:List Str:=["nota","nob","yesx","andy","ors","oddly"]
def wordsC:List Str:=["samey","rounds","dues","coins","truex","asks"]
@[irreducible] def xM:List Expr:=yf (Bb (Ep bY 6 0))
@[irreducible] def xL:List Expr:=yf (Bb (Ep bY 6 1))
@[irreducible] def xK:List Expr:=yf (Bb (Ep bY 6 2))
theorem CT:Consts xM wordsA:=by
 unfold xM;exact .cons (.cons (.cons (.cons (.cons (.cons (.cons (.cons (.cons (.cons (.cons (.cons .nil)))))))))))
theorem CQ:Consts xL wordsB:=by
 unfold xL;exact .cons (.cons (.cons (.cons (.cons (.cons .nil)))))
theorem CP:Consts xK wordsC:=by
 unfold xK;exact .cons (.cons (.cons (.cons (.cons (.cons .nil)))))
theorem xJ:∃p1 p2 p3 p4 p5 p6 p7 p8 p9 q1 q2 q3 q4 q5,gh bY=[stm bY 0,stm bY 1,stm bY 2,stm bY 3,stm bY 4,stm bY 5,
 .If (Hj (stm bY 6)) [.Assign [.Name "_law_words" p1] (.List xM p2) p3,.Assign [.Name "_law_words" p4] (.BinOp (.Name "_law_words" p5) .Add (.List xL p6) p7) p8,.Assign [.Name "_law_words" p9] (.BinOp (.Name "_law_words" q1) .Add (.List xK q2) q3) q4,Ep bY 6 3] [] q5,stm bY 7]:=
 %[_,_,_,_,_,_,_,_,_,_,_,_,_,_|by rfl']
def LTR:Str:="bcdfghjklmnpqrstvwxz"
theorem Hb:∀c∈LTR.cps.toList,c≠97:=by decide
theorem xU:∀c∈LTR.cps.toList,97<=c/\c<=122:=by decide
theorem AW:∀x∈(wordsA++wordsB)++wordsC,x.length<=20/\(∀c∈x.cps.toList,97<=c/\c<=122)/\x≠"aa":=by decide
inductive spNamesN(vs:List V)(H:Hp)(Q:VK)(u_3:XK):Prop
 |mk:∀(f:Addr)(m:Int),vs=[.ref f,.int m]->FeedAt H f->0<=m->m<=6->(∀(l:Addr)(ns:List Str)(H':Hp),H l=none->l≠f->H' l=some (.lst (ns.map V.str))->ns.length=m.toNat->(∀x∈ns,oE x)->ns.Nodup->FeedAt H' f->SameBut f H H'->Q (.ref l) H')->spNamesN vs H Q u_3
theorem zj:∀x∈(wordsA++wordsB)++wordsC,∃c∈x.cps.toList,c∉LTR.cps.toList:=by decide
theorem Fe:∀a b:Fin 20,LTR.cps.toList[a.val]?=LTR.cps.toList[b.val]?->a=b:=by decide
theorem CO{ns:List Str}{t:Nat}{u:Int}(u0:0<=u)(u20:u<20)(hl:ns.length<=6)(h:∀(k:Nat) x,ns[k]?=some x->x.cps.toList[t]?=LTR.cps.toList[((u+7*(k:Int)) % 20).toNat]?):ns.Nodup:=by
 refine List.pairwise_iff_getElem.mpr λi j hi hj ij e=>?_
 have h1:=h i _ (zQ0 hi);have h2:=h j _ (zQ0 hj);rw[e]at h1;have h3:=h1.symm.trans h2;have h4:=Fe %[((u+7*(i:Int)) % 20).toNat|3] ⟨((u+7*(j:Int)) % 20).toNat,by omega⟩ h3;have h5:=congrArg Fin.val h4;simp only at h5;omega
theorem GZ{ns:List Str}{x:Str}{j:Nat}(h:ns.Nodup)(hx:x∉ns):(ns.set j x).Nodup:=by
 refine List.pairwise_iff_getElem.mpr λa b ha hb ab=>?_
 rw[List.length_set]at ha hb;rw[List.getElem_set,List.getElem_set]
 split
 . split
   . omega
   . intro e;exact hx (e▸qR0 hb)
 . split
   . intro e;exact hx (e▸qR0 ha)
   . exact List.pairwise_iff_getElem.mp h a b ha hb ab
theorem HM{α:Type}{l:List α}{i:Int}{v:α}(h0:0<=i)(h:atI l i=some v):l[i.toNat]?=some v:=by
 have ek:((i.toNat:Nat):Int)=i:=by omega
 by_cases c:i.toNat<l.length
 . have q:atI l ((i.toNat:Nat):Int)=some l[i.toNat]:=cD (zQ0 c);rw[ek,h]at q;rw[zQ0 c];exact q.symm
 . exfalso
   unfold atI ixN at h;rw[zD0 h0,zA0 #[0]]at h;cases h
theorem Bn{zs:List Str}(h:∀z∈zs,z.length=1/\∀c∈z.cps.toList,c∈LTR.cps.toList):(zs.map (·.length)).sum=zs.length:=by
 induction zs with
 | nil=>rfl
 | cons a r ih=>
   rw[zZ0,List.sum_cons,ih λz hz=>h z (qK0 _ hz),(h a qC0).1,zM0];omega
theorem b9:FnScope ["_law_feed_here","_law_many","_law_letters","_law_common","_law_at","_law_first","_law_found","_law_k","_law_tail","_law_sign","_law_words"] ["_law_feed_here","_law_many"] (ai bY):=%[1,1,1,4,1,4|4]
theorem mQ{p:Addr}(F:FeedAt H f)(h:p≠f):FeedAt (upd H p o) f:=by
 erw[x,t,e,r]at F;erw[x,t,by rw[bh (Ne.symm h)];exact e,r]
theorem xA   (F:Fun K "_law_names" "_law_names" bY f fd) (hrange:mg "range"=none) (aW:Cal P w K mg base 1 "_law_take" ["_law_feed_here","_law_many"] spTake):FnOk P w K mg base CX0 2 f fd ["_law_feed_here","_law_many"] spNamesN:=by
 exists b9
 erw[f,m,1,hF,m0,m6,q]at h;erw[p1,p2,p3,p4,p5,p6,p7,p8,p9,q1,q2,q3,q4,q5,ebody]at xJ;rw[ebody];refine⟨_,(aa (aj (i:=2) b9.nd rfl (Or.inr rfl) au)
  (aa (aj (i:=3) b9.nd rfl (.inl rfl) (eA PySem.F.plainAttrs_str PySem.F.slot_str_join PySem.F.type_str_join Fa au (af (cz (N:=["_law_letters","_law_feed_here"]) (ix:=[2,0]) rfl
   (CompScope.two (by rfl') ⋯ rfl ⋯ rfl ⋯ (by first | exact Or.inl rfl | exact Or.inr rfl) (by rfl') (by rfl') (by rfl') (by rfl') rfl rfl (by rfl') rfl rfl) rfl
   (bO rfl hrange %[ae|aO])
   (λ_ _ _=>cG (aJ re (pv 1) (ag aW hr ⋯ rfl %[2,ae|aO]) (λ_ _=>rfl)))) aO)))
  (aa #[aj,4,b9,ag aW hr ⋯ rfl %[0,ae|aO]]
  (aa #[aj,5,b9,ag aW hr ⋯ rfl %[0,ae|aO]]
  (aa #[aj,6,b9,dy aO]
  (aa (cv PassesOwn.never rfl (bO rfl hrange %[1|aO]) (bb (i:=7) b9.nd rfl (.inl rfl)) (aa #[aj,8,b9,ao bc (ag aW hr ⋯ rfl %[0,ao bm ae (pv 4)|aO]) ae]
   (aa #[aj,9,b9,aJ re (pv 2) (ao bc (ao aQ (pv 5) (ao cq ae (pv 7))) ae) (λ_ _=>rfl)]
   (ad (aR (eA PySem.F.plainAttrs_list PySem.F.slot_list_append PySem.F.type_list_append bZ (pv 6) %[ao qU (ao qU (eR wN (pv 3) jt (eP (pv 4))) (pv 9)) (eR wN (pv 3) (eP (pv 4)) (eP (ao aQ (pv 4) (pv 8))))|aO]))))))
  (aa (aG (PW.pt (lG (ah gK (pv 1) ae (ax _)) (kE (ah aP (ag aW hr ⋯ rfl %[0,ae|aO]) ae (ax _))))) (aa #[aj,10,b9,dy (kH CT)]
   (aa #[aj,10,b9,ao kf (pv 10) (dy (kH CQ))]
   (aa #[aj,10,b9,ao kf (pv 10) (dy (kH CP))]
   (ad (kc (aJ ix_list (pv 10) (ag aW hr ⋯ rfl %[0,ae|aO]) (λ_ _=>rfl)) (qQ (pv 6) (ag aW hr ⋯ rfl %[0,1|aO]) jJ)))))) az)
  (ad (aq (pv 6)))))))))),?_⟩
 erw[1,(5),1,4,4,λD hD=>?_];have Df:=hF.ne hD;have L20:LTR.cps.toList.length=20:=by decide
 refine eC (λi H'=>∃zs:List Str,H' D=some (.lst (zs.map V.str))/\zs.length=i/\(∀z∈zs,z.length=1/\∀c∈z.cps.toList,c∈LTR.cps.toList)/\FeedAt H' f/\SameBut f H H') %[[],by rw[aI];rfl,1,by simp,hF.same (zB0 hD _)|zI0 (zB0 hD _)] ?_ ?_
 . rintro i H3 hi ⟨zs,hl,zl,z1,F3,S3⟩;have i5:i<5:=hi;erw[0,0,f,(20),1,F3,4,4,λd H4 d0 d26 F4 S4=>?_];let%[c,hc|hm]:=nj (l:=LTR.cps.toList) (i:=d) d0 (by rw[L20];exact d26);have hD4:H4 D=some (.lst (zs.map V.str)):=S4 D _ Df hl;erw[_,d,c,1,1,ca ⋯,hc,_,hD4,6,Nx.of hi %[zs++[⟨#[c]⟩],6,6,6,mQ F4 Df|6]]
   . rw[zE0,zl];exact aM (Nat.le_of_lt (Nat.lt_trans i5 ⋯))
   . rw[aI,zK0];rfl
   . rw[zJ0,qM0,zl]
   . intro z hz;rcases qH0 hz with h | h
     . exact z1 z h
     . rw [zN0 h];erw[1,λc' hc'=>?_]
       have:c'=c:=by simpa using hc'
       subst this;exact hm
   . intro b o hb e;rw[bh (aV e hD)];exact S4 b o hb (S3 b o hb e)
 rintro H3 ⟨zs,hl,zl,z1,F3,S3⟩;have sl:=Bn z1;have zl5:zs.length=5:=zl;erw[_,D,zs,1,1,zG0 hl,⋯,3,6];have jl:(Txt.join "" zs).length=5:=by
  have:=size_glued "" zs
  have e0:(("":Str)).length=0:=by decide
  rw[e0,Nat.mul_zero]at this;show(Builtin.Str.glued "" zs).length=5;omega
 have jc:∀c∈(Txt.join "" zs).cps.toList,c∈LTR.cps.toList:=λc hc=>by
  let%[z,hz|h]:=An hc;exact(z1 z hz).2 c h
 generalize Txt.join "" zs=cm at jl jc;erw[0,f,(6),1,F3,4,4,λt H4 t0 t6 F4 S4=>?_];erw[0,f,(20),1,F4,4,4,λu H5 u0 u20 F5 S5=>?_];erw[(by show 0<=sizeLine;decide),λL hL=>?_];have S05:SameBut f H H5:=S3.trans (S4.trans S5);have Lf:=F5.ne hL;have L0:H L=none:=by
  cases e:H L with
  | none=>rfl
  | some o=>rw[S05 L o Lf e]at hL;cases hL
 refine⟨_,rfl,m,rfl,by omega,by omega,dj (λi σ H'=>∃(x7 x8 x9:Option V)(ns:List Str),σ=[some (.ref f),some (.int m),some (.str LTR),some (.str cm),some (.int t),some (.int u),some (.ref L),x7,x8,x9,none]/\H' L=some (.lst (ns.map V.str))/\ns.length=i/\(∀x∈ns,oE x)/\(∀x∈ns,∀c∈x.cps.toList,c∈LTR.cps.toList)/\(∀(k:Nat) x,ns[k]?=some x->x.cps.toList[t.toNat]?=LTR.cps.toList[((u+7*(k:Int)) % 20).toNat]?)/\FeedAt H' f/\SameBut f H H')
  %[_,_,_,[],1,by rw[aI];rfl,1,by simp,by simp,by simp,F5.same (zB0 hL _)|S05.trans (zI0 (zB0 hL _))] ?_ ?_⟩
 . rintro i σ H6 hi ⟨x7,x8,x9,ns,rfl,hns,nl,nok,nlt,nat,F6,S6⟩;erw[0,0,2,f,0,F6,(Int.sub_pos_of_lt t6),(Int.lt_of_le_of_lt (Int.sub_le_self 6 t0) ⋯),λd H7 d0 d1 F7 S7=>?_];erw[2,(by show(0:Int)<_;decide),6];let%[c,hc|hm]:=nj (l:=LTR.cps.toList) (i:=(u+7*(0+(i:Int))) % 20) (qB0 _ ⋯) (by rw[L20];exact qE0 _ ⋯);erw[0,0,0,2,6,2,2,(by show(0:Int)<_;decide),_,_,c,1,1,ca ⋯,hc,6]
   . exact .inl %[4|4]
   have hL7:=S7 L _ Lf hns;have z1:(Txt.slice cm none (some t)).length<=cm.length:=Txt.slice_le cm none (some t);have z2:(Txt.slice cm (some t) (some (t+d % 3))).length<=cm.length:=Txt.slice_le cm _ _;have z3:((%[|#[c]]:Str)).length=1:=rfl;erw[0,.inl %[1,_|zG0 hL7],6];erw[0,0,0,0,ca (by rw[jl];decide),0,2,ca (by rw[z3];omega),6];erw[0,0,0,0,0,2,0,0,ca (by rw[jl];decide),2,ca (by rw[Str.length_append,z3];omega),6];erw[L,2,hL7,6,6]
   . rw[zE0];exact aM #[0]
   erw[_,_,_,ns++[(Txt.slice cm none (some t)++%[|#[c]])++Txt.slice cm (some t) (some (t+d % 3))],1,6,6,6,6,6,mQ F7 Lf,6]
   . rw[aI,zK0];rfl
   . rw[zJ0,qM0,nl]
   . intro x hx;rcases qH0 hx with h | h
     . exact nok x h
     . rw [zN0 h];erw[6,λc' hc'=>?_,λea=>?_]
       . rw[Str.length_append,Str.length_append,z3];omega
       rotate_left
       . have cm1:c∈(((Txt.slice cm none (some t)++%[|#[c]])++Txt.slice cm (some t) (some (t+d % 3)):Str)).cps.toList:=by
          rw[Str.cps_append,Str.cps_append]
          simp
         rw[ea]at cm1;exact Hb c hm ((by decide:∀c∈(("aa":Str)).cps.toList,c=97) c cm1)
       . rcases mem_append hc' with h | h
         . rcases mem_append h with h | h
           . exact xU _ (jc _ (kK h))
           . have:c'=c:=by simpa using h
             subst this;exact xU _ hm
         . exact xU _ (jc _ (kK h))
   . intro x hx c' hc';rcases qH0 hx with h | h
     . exact nlt x h c' hc'
     . rw [zN0 h]at hc';rcases mem_append hc' with h | h
       . rcases mem_append h with h | h
         . exact jc _ (kK h)
         . have:c'=c:=by simpa using h
           subst this;exact hm
       . exact jc _ (kK h)
   . intro k x hx
     by_cases ck:k<ns.length
     . rw[List.getElem?_append_left ck]at hx;exact nat k x hx
     . have kl:k<(ns++[(Txt.slice cm none (some t)++%[|#[c]])++Txt.slice cm (some t) (some (t+d % 3))]).length:=(zW0 hx).1;rw[zJ0,qM0]at kl;have ek:k=i:=by omega
       subst ek;rw[List.getElem?_append_right #[0],nl,Nat.sub_self]at hx;have ex:(Txt.slice cm none (some t)++%[|#[c]])++Txt.slice cm (some t) (some (t+d % 3))=x:=zU0 hx;rw[←ex];have cl:cm.cps.toList.length=5:=jl;have es:Txt.slice cm none (some t)=⟨((cm.cps.toList.drop 0).take (t-0).toNat).toArray⟩:=StrLaws.sliceText_to ⟨t0,by omega⟩;have el:(Txt.slice cm none (some t)).cps.toList.length=t.toNat:=by
        rw[es];simp only[List.drop_zero,Int.sub_zero,qL0];omega
       have ea:((Txt.slice cm none (some t)++%[|#[c]])++Txt.slice cm (some t) (some (t+d % 3))).cps.toList=(Txt.slice cm none (some t)).cps.toList++([c]++(Txt.slice cm (some t) (some (t+d % 3))).cps.toList):=by
        rw[Str.cps_append,Str.cps_append]
        simp
       rw[ea,List.getElem?_append_right #[0],el,Nat.sub_self];have hc2:LTR.cps.toList[((u+7*(0+(k:Int))) % 20).toNat]?=some c:=HM (qB0 _ ⋯) hc;rw[Int.zero_add]at hc2;rw[hc2];rfl
   . intro b o hb e;rw[bh (aV e L0)];exact S7 b o hb (S6 b o hb e)
 . rintro σ H6 ⟨x7,x8,x9,ns,rfl,hns,nl,nok,nlt,nat,F6,S6⟩;have nnd:ns.Nodup:=CO u0 u20 #[0] nat;erw[0,2,0,6];have fin:∀H':Hp,∀ns:List Str,H' L=some (.lst (ns.map V.str))->ns.length=m.toNat->(∀x∈ns,oE x)->ns.Nodup->FeedAt H' f->SameBut f H H'->Q (.ref L) H':=λH' ns a b c nd d e=>q L ns H' L0 Lf a b c nd d e
   by_cases c1:(0:Int)<m
   . refine aS c1 ?_;erw[0,f,(3),1,F6,4,4,λd H7 d0 d1 F7 S7=>?_];erw[1,0,6];have hL7:=S7 L _ Lf hns;refine rf (λ_=>?_) (λ_=>?_)
     . erw[(by show 12<=sizeLine;decide),λl1 h1=>?_];erw[0,(by show 6<=sizeLine;decide),λl2 h2=>?_];erw[l1,l2,wordsA.map V.str,wordsB.map V.str,1,1,zB0 h2 _ _ _ aI,aI,(by show 18<=sizeLine;decide),λl3 h3=>?_];erw[0,(by show 6<=sizeLine;decide),λl4 h4=>?_];erw[l3,l4,wordsA.map V.str++wordsB.map V.str,wordsC.map V.str,1,1,zB0 h4 _ _ _ aI,aI,(by show 24<=sizeLine;decide),λl5 h5=>?_];have G:=(zB0 h1 (.lst (wordsA.map V.str))).trans ((zB0 h2 (.lst (wordsB.map V.str))).trans ((zB0 h3 (.lst (wordsA.map V.str++wordsB.map V.str))).trans ((zB0 h4 (.lst (wordsC.map V.str))).trans (zB0 h5 (.lst ((wordsA.map V.str++wordsB.map V.str)++wordsC.map V.str))))));have F8:=F7.same G;have n5:=(F7.same ((zB0 h1 (.lst (wordsA.map V.str))).trans ((zB0 h2 (.lst (wordsB.map V.str))).trans ((zB0 h3 (.lst (wordsA.map V.str++wordsB.map V.str))).trans (zB0 h4 (.lst (wordsC.map V.str))))))).ne h5;erw[0,0,f,(24),1,F8,4,4,λe H9 e0 e1 F9 S9=>?_];let%[v,hv|vm]:=nj (l:=(wordsA.map V.str++wordsB.map V.str)++wordsC.map V.str) (i:=e) e0 (by
        have:((wordsA.map V.str++wordsB.map V.str)++wordsC.map V.str).length=24:=by rfl
        omega)
       rw[←zK0,←zK0]at vm;let%[x,hx|1]:=List.mem_map.mp vm;erw[l5,_,e,0,1,zG0 (S9 l5 _ n5 aI),hv,6];erw[0,0,0,f,m,1,F9,c1,3,λj H10 j0 j1 F10 S10=>?_];have hL10:=S10 L _ Lf (S9 L _ Lf (G L _ hL7));erw[L,_,j,j.toNat,1,1,hL10,6,6]
       . have jl:j<((ns.map V.str).length:Int):=by rw[zE0];omega
         unfold ixN;rw[zD0 j0,zD0 jl]
       erw[0,6];refine fin _ (ns.set j.toNat x) (by rw[aI,List.map_set]) (by rw[List.length_set];exact nl) ?_ ?_ (mQ F10 Lf) ?_
       . intro y hy;rcases List.mem_or_eq_of_mem_set hy with h | h
         . exact nok y h
         . rw[h];exact AW x hx
       . refine GZ nnd λhm=>?_
         let%[c,c1|c2]:=zj x hx;exact c2 (nlt x hm c c1)
       . intro b o hb e';rw[bh (aV e' L0)];exact S10 b o hb (S9 b o hb (G b o (S7 b o hb (S6 b o hb e'))))
     . erw[0,6];exact fin H7 ns hL7 nl nok nnd F7 (S6.trans S7)
   . refine aB c1 ?_;refine cW ?_;erw[0,6];exact fin H6 ns hns nl nok nnd F6 S6
theorem gV{x:Str}:∀{ns:List Str},x∈ns->∃j,eO x ns=some j/\j<ns.length
 | [],h=>by cases h
 | a::r,h=>by
   unfold eO
   by_cases c:a=x
   . erw[(0),by rw[zD0 c],by simp]
   . rw [zA0 c];rcases zX0 h with e | e
     . exact absurd e.symm c
     . let%[j,h1|h2]:=gV e;erw[j+1,by rw[h1];rfl,by simpa using h2]
theorem ir{a b:Str}(h:V.str a=V.str b):a=b:=by injection h
def eB (p:Int) (o:Str) (x y:Int):Int:=if o="and" then x*y % p else if o="or" then(x+y-x*y) % p else if o="odd" then(x+y-2*(x*y)) % p else(1-(x+y-2*(x*y))) % p
def Tr.worth(ns:List Str)(pt:List Int)(p:Int):Tr->Int
 | .is x=>match eO x ns with | some j=>pt.getD j 0 | none=>0
 | .yes=>1
 | .no=>0
 | .not a=>(1-a.worth ns pt p) % p
 | .bin o a b=>eB p o (a.worth ns pt p) (b.worth ns pt p)
def ci(pt:List Int)(p:Int):Prop:=∀x∈pt,0<=x/\x<p
theorem Au{p:Int}(hp:0<p)(o:Str)(x y:Int):0<=eB p o x y/\eB p o x y<p:=by
 have key:∀z:Int,0<=z % p/\z % p<p:=λz=>%[qB0 _ #[0]|qE0 _ hp]
 unfold eB
 repeat' split
 all_goals exact key _
theorem rA{l:List Int}{j:Nat}(h:j<l.length):l.getD j 0=l[j]:=by
 rw[qP0,zQ0 h];rfl
theorem worth_rng{ns:List Str}{p:Int}(hp:1<p)(h:ci pt p)(hl:pt.length=ns.length):∀t:Tr,t.ok ns->0<=t.worth ns pt p/\t.worth ns pt p<p
 | .is x,ok=>by
   let%[j,hj|jl]:=gV ok;show 0<=(match eO x ns with | some j=>pt.getD j 0 | none=>0)/\(match eO x ns with | some j=>pt.getD j 0 | none=>0)<p;rw[hj];show 0<=pt.getD j 0/\pt.getD j 0<p;rw[rA #[0]];exact h _ (qR0 _)
 | .yes,_=>%[by show(0:Int)<=1;decide|hp]
 | .no,_=>%[Int.le_refl 0|by show(0:Int)<p;omega]
 | .not a,_=>%[qB0 _ #[0]|qE0 _ #[0]]
 | .bin o a b,_=>Au #[0] _ _ _
inductive spJW(vs:List V)(H:Hp)(Q:VK)(u_3:XK):Prop
 |mk:∀(o:Str)(x y p:Int),vs=[.str o,.int x,.int y,.int p]->0<=x->x<p->p<2 ^ 40->Q (.int (eB p o x y)) H->spJW vs H Q u_3
theorem gU:FnScope ["word","first","second","p","both","odd"] ["word","first","second","p"] (ai ib):=%[1,1,1,4,1,4|4]
theorem pB   (F:Fun K "joined_worth" "joined_worth" ib f fd):FnOk P w K mg base CX0 1 f fd ["word","first","second","p"] spJW:=by
 exists gU
 erw[o,x,y,p,1,x0,xp,pb,k]at h;refine⟨_,(aa #[aj,4,gU,ao cq (pv 1) (pv 2)]
  (aa (aG (ah aP (pv 0) au (ax _)) (ad (aq (ao bc (pv 4) (pv 3)))) az)
  (aa (aG (ah aP (pv 0) au (ax _)) (ad (aq (ao bc (ao bm (ao aQ (pv 1) (pv 2)) (pv 4)) (pv 3)))) az)
  (aa #[aj,5,gU,ao bm (ao aQ (pv 1) (pv 2)) (ao cq ae (pv 4))]
  (aa (aG (ah aP (pv 0) au (ax _)) (ad (aq (ao bc (pv 5) (pv 3)))) az)
  (ad (aq (ao bc (ao bm ae (pv 5)) (pv 3))))))))),?_⟩
 erw[0,0,2,.inl %[3|3],6];erw[0,1,0,6]
 by_cases c1:V.str o=V.str "and"
 . refine aS c1 ?_;have e:eB p o x y=x*y % p:=by unfold eB;rw[zD0 (ir c1)]
   rw[e]at k;erw[0,0,2,(show(0:Int)<p by omega),k]
 refine aB c1 ?_;have n1:¬ o="and":=λz=>c1 (by rw[z])
 erw[0,1,0,6]
 by_cases c2:V.str o=V.str "or"
 . refine aS c2 ?_;have e:eB p o x y=(x+y-x*y) % p:=by unfold eB;rw[zA0 n1,zD0 (ir c2)]
   rw[e]at k;erw[0,0,2,0,2,0,2,(show(0:Int)<p by omega),k]
 refine aB c2 ?_;have n2:¬ o="or":=λz=>c2 (by rw[z])
 erw[0,0,2,0,2,.inl %[4|4],2,6];erw[0,1,0,6]
 by_cases c3:V.str o=V.str "odd"
 . refine aS c3 ?_;have e:eB p o x y=(x+y-2*(x*y)) % p:=by unfold eB;rw[zA0 n1,zA0 n2,zD0 (ir c3)]
   rw[e]at k;erw[0,0,2,(show(0:Int)<p by omega),k]
 refine aB c3 ?_;have n3:¬ o="odd":=λz=>c3 (by rw[z])
 have e:eB p o x y=(1-(x+y-2*(x*y))) % p:=by unfold eB;rw[zA0 n1,zA0 n2,zA0 n3]
 rw[e]at k;erw[0,2,0,2,(show(0:Int)<p by omega),k]
inductive spWorth(n:Nat)(vs:List V)(H:Hp)(Q:VK)(u_3:XK):Prop
 |mk:∀(v:V)(t:Tr)(a b:Addr)(ns:List Str)(pt:List Int)(p:Int),vs=[v,.ref a,.ref b,.int p]->TreeAt H v t->t.ok ns->t.depth<=n->NamesAt H a ns->H b=some (.tup (pt.map V.int))->pt.length=ns.length->1<p->p<2 ^ 40->ci pt p->Q (.int (t.worth ns pt p)) H->spWorth n vs H Q u_3
theorem kX:FnScope ["tree","switches","point","p","word","first"] ["tree","switches","point","p"] (ai iZ):=%[1,1,1,4,1,4|4]
theorem wA {n:Nat}   (F:Fun K "worth_of" "worth_of" iZ f fd) (dO:Cal P w K mg base 1 "joined_worth" ["word","first","second","p"] spJW) (fO:Cal P w K mg base (n+2) "worth_of" ["tree","switches","point","p"] (spWorth n)):FnOk P w K mg base CX0 (n+3) f fd ["tree","switches","point","p"] (spWorth (n+1)):=by
 exists kX
 erw[v,t,a,b,ns,pt,p,1,T,ok,dn,hN,hb,sl,p1,p40,po,k]at h;have p0:(0:Int)<p:=by omega
 refine⟨_,(aa #[aj,4,kX,aJ ix_tup (pv 0) ae (λ_ _=>rfl)]
  (aa (aG (ah aP (pv 4) au (ax _)) (ad (aq (ao bc (aJ ix_tup (pv 2) (vn PySem.F.plainAttrs_list PySem.F.plainAttrs_tuple (pv 1) %[aJ ix_tup (pv 0) ae (λ_ _=>rfl)|aO]) (λ_ _=>rfl)) (pv 3)))) az)
  (aa (aG (ah aP (pv 4) au (ax _)) (ad (aq ae)) az)
  (aa (aG (ah aP (pv 4) au (ax _)) (ad (aq ae)) az)
  (aa #[aj,5,kX,ag fO hr (zH0 _) rfl %[aJ ix_tup (pv 0) ae (λ_ _=>rfl),1,2,3|aO]]
  (aa (aG (ah aP (pv 4) au (ax _)) (ad (aq (ao bc (ao bm ae (pv 5)) (pv 3)))) az)
  (ad (aq (ag dO hr #[0] rfl %[4,5,ag fO hr (zH0 _) rfl %[aJ ix_tup (pv 0) ae (λ_ _=>rfl),1,2,3|aO],3|aO]))))))))),?_⟩
 cases T with
 | @is q x e=>
   erw[0,q,_,(0),0,1,zC0 e,1,6];erw[0,1,0,6];refine aS rfl ?_;let%[j,hj|jl]:=gV ok;have jl':j<pt.length:=by omega
   erw[0,0,a,ns,1,hN,0,q,_,(1),0,1,zC0 e,1,1,x,j,1,hj,b,_,(j:Int),.int pt[j],1,1,zC0 hb,6,0,2,p0,6]
   . refine cD ?_;rw[zY0,zQ0 jl'];rfl
   . have e1:(Tr.is x).worth ns pt p=pt[j] % p:=by
      show(match eO x ns with | some j=>pt.getD j 0 | none=>0)=_;rw[hj];show pt.getD j 0=_;rw[rA jl']
      have:=po _ (qR0 jl')
      rw[qU0 this.1 this.2]
     rw[e1]at k;exact k
 | @yes q e=>
   erw[0,q,_,(0),0,1,zC0 e,1,6];erw[0,1,0,6];refine aB ⋯ ?_;erw[0,1,0,6];exact aS rfl k
 | @no q e=>
   erw[0,q,_,(0),0,1,zC0 e,1,6];erw[0,1,0,6];refine aB ⋯ ?_;erw[0,1,0,6];refine aB ⋯ ?_;erw[0,1,0,6];exact aS rfl k
 | @not q u r e T1=>
   have dp:r.depth+1<=n+1:=dn;erw[0,q,_,(0),0,1,zC0 e,1,6];erw[0,1,0,6];refine aB ⋯ ?_;erw[0,1,0,6];refine aB ⋯ ?_;erw[0,1,0,6];refine aB ⋯ ?_;erw[0,q,_,(1),0,1,zC0 e,1,0,0,0,u,r,a,b,ns,pt,p,1,T1,ok,3,hN,hb,sl,p1,p40,po,6];erw[0,1,0,6];refine aS rfl ?_;erw[0,2,0,2,p0,k]
 | @bin q o u u2 r r2 e T1 T2=>
   erw[ho,ok1,ok2]at ok;have dp:max r.depth r2.depth+1<=n+1:=dn;have ne:∀z:Str,z∉joinW->¬ V.str o=V.str z:=λz hz h=>hz (ir h▸ho)
   erw[0,q,_,(0),0,1,zC0 e,1,6];erw[0,1,0,6];refine aB (ne _ ⋯) ?_;erw[0,1,0,6];refine aB (ne _ ⋯) ?_;erw[0,1,0,6];refine aB (ne _ ⋯) ?_;erw[0,q,_,(1),0,1,zC0 e,1,0,0,0,u,r,a,b,ns,pt,p,1,T1,ok1,3,hN,hb,sl,p1,p40,po,6];erw[0,1,0,6];refine aB (ne _ ⋯) ?_;have wr:=worth_rng p1 po sl r ok1;erw[0,0,0,q,_,(2),0,1,zC0 e,1,0,0,0,u2,r2,a,b,ns,pt,p,1,T2,ok2,3,hN,hb,sl,p1,p40,po,6];erw[0,o,_,_,p,1,wr.1,wr.2,p40,k]
theorem wz  :FnOk P w K mg base CX0 2 f fd ["tree","switches","point","p"] (spWorth 0):=by
 have no:∀vs H Q E,¬ spWorth 0 vs H Q E:=λvs H Q E h=>by
  erw[v,t,_,_,_,_,_,_,_,_,h1,_]at h
  have:=t.depth_pos
  omega
 erw[λvs H Q E h=>absurd h (no vs H Q E),λA outer s H args us vs Q E _ _ _ _ h=>absurd h (no vs H Q E)]
theorem oO   (F:Fun K "worth_of" "worth_of" iZ f fd) (m:mg "worth_of"=some (.ref f)) (dO:Cal P w K mg base 1 "joined_worth" ["word","first","second","p"] spJW) :
 ∀n:Nat,FnOk P w K mg base CX0 (n+2) f fd ["tree","switches","point","p"] (spWorth n)
 | 0=>wz
 | n+1=>wA F dO (Cal.of F (oO F m dO n) m (λ_ _ _ _ _ _ us hl=>by let%[u0,u1,u2,u3|1]:=Fg hl;rfl))
theorem di{H:Hp}{b:Addr}{ys zs:List V}(h:H b=some (.lst ys)):∀a xs,H a=some (.tup xs)->(upd H b (.lst zs)) a=some (.tup xs):=λa xs e=>by
 rw[bh]
 . exact e
 . intro z;rw[z,h]at e;cases e
theorem at0(x:V)(xs:List V):atI (x::xs) 0=some x:=cD (j:=0) rfl
theorem oS{ts:List Tr}{i:Nat}{u:Tr}(h:ts[i]?=some u):ik (ts.take (i+1))=ik (ts.take i)++u.names:=by
 unfold ik;rw[qI0,h,zK0,List.flatten_append]
 simp
theorem qY(ts:List Tr):(ik ts).length<=iI ts:=by
 induction ts with
 | nil=>simp [ik,iI]
 | cons a r ih=>
   have:=a.names_len
   simp only[ik,iI,zZ0,List.flatten_cons,zJ0,List.sum_cons]at ih ⊢;omega
theorem ql(ts:List Tr)(i:Nat):iI (ts.take i)<=iI ts:=by
 induction ts generalizing i with
 | nil=>simp
 | cons a r ih=>
   cases i with
   | zero=>simp [iI]
   | succ i=>
     have:=ih i
     simp only[iI,List.take_succ_cons,zZ0,List.sum_cons]at this ⊢;omega
inductive spNO(n:Nat)(vs:List V)(H:Hp)(Q:VK)(u_3:XK):Prop
 |mk:∀(v:V)(t:Tr),vs=[v]->TreeAt H v t->t.wf->t.depth<=n->t.size<=400->(∀(l:Addr)(H':Hp),H l=none->Same H H'->H' l=some (.lst (t.names.map V.str))->Q (.ref l) H')->spNO n vs H Q u_3
theorem gA:FnScope ["_law_tree_here","_law_found","_law_part"] ["_law_tree_here"] (ai gP):=%[1,1,1,4,1,4|4]
theorem EY {n:Nat}   (F:Fun K "_law_names_of" "_law_names_of" gP f fd) (fq:Cal P w K mg base (n+2) "_law_names_of" ["_law_tree_here"] (spNO n)):FnOk P w K mg base CX0 (n+3) f fd ["_law_tree_here"] (spNO (n+1)):=by
 exists gA
 erw[v,t,1,T,wf,dn,sz,q]at h;refine⟨_,(aa (aG (ah aP (aJ ix_tup (pv 0) ae (λ_ _=>rfl)) au (ax _)) (ad (aq (dy %[aJ ix_tup (pv 0) ae (λ_ _=>rfl)|aO]))) az)
  (aa #[aj,1,gA,dy aO]
  (aa (cv PassesOwn.never rfl (ii (eR qk (pv 0) (eP ae) jt)) (bb (i:=2) gA.nd rfl (.inl rfl)) (ad #[aj,1,gA,ao kf (pv 1) (ag fq hr (zH0 _) rfl %[2|aO])]))
  (ad (aq (pv 1)))))),?_⟩
 rcases T.view wf with⟨a,x,rfl,rfl,_,e⟩ | ⟨a,o,xs,rfl,no,xl0,e,TS0,nis⟩
 . erw[0,a,_,(0),0,1,zC0 e,1,1,0,6];refine aS rfl ?_;erw[0,a,_,(1),0,1,zC0 e,1,(by show 1<=sizeLine;decide),λp hp=>?_];exact q p _ hp (zB0 hp _) aI
 . erw[0,a,_,(0),.str o,1,1,zC0 e,at0 ..,1,0,6];refine aB (λz=>no (by injection z)) ?_;erw[(by show 0<=sizeLine;decide),λL hL=>?_];have G0:=zB0 hL (.lst []);let%[c1|c2]:=HG (.str o) xs xl0;erw[0,(1),1,a,0,zC0 (G0 _ _ e),c2,λp hp=>?_];rw[c1];have G1:=zB0 hp (.tup xs);have hp1:upd (upd H L (.lst [])) p (.tup xs) p=some (.tup xs):=aI;have hL1:upd (upd H L (.lst [])) p (.tup xs) L=some (.lst []):=G1 _ _ aI;have S1:Same H (upd (upd H L (.lst [])) p (.tup xs)):=G0.trans G1;generalize upd (upd H L (.lst [])) p (.tup xs)=H1 at hp1 hL1 S1;have TS:=TS0.mono (aX S1);have xl:=TS.length;have sp:=t.size_parts;erw[p,1,%[_|zC0 hp1],uK (K:=K) (xs:=xs) (λi σ H'=>∃(M:Addr)(x2:Option V),σ=[some (.ref a),some (.ref M),x2]/\H M=none/\H' M=some (.lst ((ik (t.parts.take i)).map V.str))/\Same H1 H') %[L,0,hL,hL1|Same.refl _] (λi σ H' _ hst=>by erw[_,_,_,_,_,h]at hst;exact zC0 (h _ _ hp1)) ?_ ?_]
   . rintro i x σ H2 hx ⟨M,x2,rfl,M0,hM,S2⟩;let%[u,hu|Tu]:=TS.get hx;have um:=qF0 hu;let%[uw,ud|us]:=Tr.parts_mem um wf;erw[0,0,x,u,1,Tu.mono (aX S2),uw,3,3,λl H3 l0 S3 hl3=>?_];have nl:=u.names_len;have nl2:=qY (t.parts.take i);have nl3:=ql t.parts i;erw[M,l,2,S3 _ _ hM,hl3,6,λr hr0=>?_]
     . rw[zE0,zE0];exact ca #[0]
     . have S4:=(S2.trans S3).trans (zB0 hr0 (.lst ((ik (t.parts.take i)).map V.str++u.names.map V.str)));erw[r,0,(S1.trans (S2.trans S3)).free hr0,6,S4];rw[aI,oS hu,zK0]
   . rintro σ H2 ⟨M,x2,rfl,M0,hM,S2⟩;rw[xl,qG0,←t.names_parts nis]at hM;erw[0,q M H2 M0 (S1.trans S2) hM]
theorem EW  :FnOk P w K mg base CX0 2 f fd ["_law_tree_here"] (spNO 0):=by
 have no:∀vs H Q E,¬ spNO 0 vs H Q E:=λvs H Q E h=>by
  erw[v,t,_,_,_,h1,_]at h
  have:=t.depth_pos
  omega
 erw[λvs H Q E h=>absurd h (no vs H Q E),λA outer s H args us vs Q E _ _ _ _ h=>absurd h (no vs H Q E)]
theorem kZ   (F:Fun K "_law_names_of" "_law_names_of" gP f fd) (m:mg "_law_names_of"=some (.ref f)) :
 ∀n:Nat,FnOk P w K mg base CX0 (n+2) f fd ["_law_tree_here"] (spNO n)
 | 0=>EW
 | n+1=>EY F (Cal.of F (kZ F m n) m (λ_ _ _ _ _ _ us hl=>by let%[u0|1]:=Fk hl;rfl))
theorem rD(ns:List Str)(z:Str):((ns.map V.str).countP λy=>eqV y (.str z))=ns.count z:=by
 rw[List.countP_map];rfl
inductive spWithin(vs:List V)(H:Hp)(Q:VK)(u_3:XK):Prop
 |mk:∀(v:V)(t:Tr),vs=[v]->TreeAt H v t->t.wf->(∀(p:Addr)(xs:List V)(H':Hp),Same H H'->H' p=some (.tup xs)->TreesAt H' xs t.parts->Q (.ref p) H')->spWithin vs H Q u_3
theorem pf:FnScope ["tree"] ["tree"] (ai hV):=%[1,1,1,4,1,4|4]
theorem pq   (F:Fun K "trees_within" "trees_within" hV f fd):FnOk P w K mg base CX0 1 f fd ["tree"] spWithin:=by
 exists pf
 erw[v,t,1,T,wf,q]at h;refine⟨_,(aa (aG (ah aP (aJ ix_tup (pv 0) ae (λ_ _=>rfl)) au (ax _)) (ad (aq (aF aO))) az)
  (ad (aq (eR qk (pv 0) (eP ae) jt)))),?_⟩
 rcases T.view wf with⟨a,x,rfl,rfl,_,e⟩ | ⟨a,o,xs,rfl,no,xl,e,TS,_⟩
 . erw[0,a,_,(0),0,1,zC0 e,1,1,0,6];refine aS rfl ?_;erw[(by show 0<=sizeLine;decide),λp hp=>?_];exact q p [] _ (zB0 hp _) aI .nil
 . erw[0,a,_,(0),.str o,1,1,zC0 e,at0 ..,1,0,6];refine aB (λz=>no (by injection z)) ?_;let%[c1|c2]:=HG (.str o) xs xl;erw[0,(1),1,a,0,zC0 e,c2,λp hp=>?_];rw[c1];exact q p xs _ (zB0 hp _) aI (TS.mono (aX (zB0 hp _)))
inductive spNamesIn(n:Nat)(vs:List V)(H:Hp)(Q:VK)(u_3:XK):Prop
 |mk:∀(v:V)(t:Tr),vs=[v]->TreeAt H v t->t.wf->t.depth<=n->t.size<=400->(∀(l:Addr)(H':Hp),H l=none->Same H H'->H' l=some (.lst (t.names.map V.str))->Q (.ref l) H')->spNamesIn n vs H Q u_3
theorem kY:FnScope ["tree","names","part"] ["tree"] (ai je):=%[1,1,1,4,1,4|4]
theorem xI {n:Nat}   (F:Fun K "names_in" "names_in" je f fd) (bj:Cal P w K mg base 1 "trees_within" ["tree"] spWithin) (eM:Cal P w K mg base (n+2) "names_in" ["tree"] (spNamesIn n)):FnOk P w K mg base CX0 (n+3) f fd ["tree"] (spNamesIn (n+1)):=by
 exists kY
 erw[v,t,1,T,wf,dn,sz,q]at h;refine⟨_,(aa (aG (ah aP (aJ ix_tup (pv 0) ae (λ_ _=>rfl)) au (ax _)) (ad (aq (dy %[aJ ix_tup (pv 0) ae (λ_ _=>rfl)|aO]))) az)
  (aa #[aj,1,kY,dy aO]
  (aa (cv PassesOwn.never rfl (ii (ag bj hr #[0] rfl %[0|aO])) (bb (i:=2) kY.nd rfl (.inl rfl)) (ad (aR (eA PySem.F.plainAttrs_list PySem.F.slot_list_extend PySem.F.type_list_extend Am (pv 1) %[ag eM hr (zH0 _) rfl %[2|aO]|aO]))))
  (ad (aq (pv 1)))))),?_⟩
 have wf':=wf;rcases T.view wf with⟨a,x,rfl,rfl,_,e⟩ | ⟨a,o,xs0,rfl,no,xl0,e,_,nis⟩
 . erw[0,a,_,(0),0,1,zC0 e,1,1,0,6];refine aS rfl ?_;erw[0,a,_,(1),0,1,zC0 e,1,(by show 1<=sizeLine;decide),λp hp=>?_];exact q p _ hp (zB0 hp _) aI
 . erw[0,a,_,(0),.str o,1,1,zC0 e,at0 ..,1,0,6];refine aB (λz=>no (by injection z)) ?_;erw[(by show 0<=sizeLine;decide),λL hL=>?_];have G0:=zB0 hL (.lst []);erw[0,_,t,1,T.mono (aX G0),wf,λp xs H1 S1 hp TS=>?_];have hL1:H1 L=some (.lst []):=S1 _ _ aI;have pL:p≠L:=λz=>by rw[z,hL1]at hp;cases hp
   have xl:=TS.length;have sp:=t.size_parts;erw[p,1,%[_|zC0 hp],uK (K:=K) (xs:=xs) (λi σ H'=>∃x2,σ=[some (.ref a),some (.ref L),x2]/\H' L=some (.lst ((ik (t.parts.take i)).map V.str))/\SameBut L H1 H') %[0,hL1|SameBut.refl _ _] (λi σ H' _ hst=>by erw[_,_,_,h]at hst;exact zC0 (h _ _ pL hp)) ?_ ?_]
   . rintro i x σ H2 hx ⟨x2,rfl,hl,S2⟩;let%[u,hu|Tu]:=TS.get hx;have um:=qF0 hu;let%[uw,ud|us]:=Tr.parts_mem um wf;have Tu2:TreeAt H2 x u:=Tu.mono λb ys h=>S2 b _ (λz=>by rw[z,hL1]at h;cases h) h
     erw[0,.inl %[1,_|zG0 hl],0,x,u,1,Tu2,uw,3,3,λl H3 l0 S3 hl3=>?_];have nl:=u.names_len;have nl2:=qY (t.parts.take i);have nl3:=ql t.parts i;erw[L,l,2,S3 _ _ hl,hl3,6,6]
     . rw[zE0,zE0];exact ca #[0]
     erw[0,6,λb o hb h=>?_]
     . rw[aI,oS hu,zK0]
     . rw[bh hb];exact S3 _ _ (S2 _ _ hb h)
   . rintro σ H2 ⟨x2,rfl,hl,S2⟩;rw[xl,qG0,←t.names_parts nis]at hl;erw[0,6];refine q L H2 hL (λb o h=>?_) hl;exact S2 b o (aV h hL) (S1 _ _ (G0 _ _ h))
theorem xH  :FnOk P w K mg base CX0 2 f fd ["tree"] (spNamesIn 0):=by
 have no:∀vs H Q E,¬ spNamesIn 0 vs H Q E:=λvs H Q E h=>by
  erw[v,t,_,_,_,h1,_]at h
  have:=t.depth_pos
  omega
 erw[λvs H Q E h=>absurd h (no vs H Q E),λA outer s H args us vs Q E _ _ _ _ h=>absurd h (no vs H Q E)]
theorem oQ   (F:Fun K "names_in" "names_in" je f fd) (m:mg "names_in"=some (.ref f)) (bj:Cal P w K mg base 1 "trees_within" ["tree"] spWithin) :
 ∀n:Nat,FnOk P w K mg base CX0 (n+2) f fd ["tree"] (spNamesIn n)
 | 0=>xH
 | n+1=>xI F bj (Cal.of F (oQ F m bj n) m (λ_ _ _ _ _ _ us hl=>by let%[u0|1]:=Fk hl;rfl))
inductive spField(vs:List V)(H:Hp)(Q:VK)(u_3:XK):Prop
 |mk:∀n:Int,vs=[.int n]->n<=999999->(∀b:Bool,(b=true↔2<n/\Pr n)->Q (.bl b) H)->spField vs H Q u_3
theorem lc:FnScope ["number","divisor"] ["number"] (ai lD):=%[1,1,1,4,1,4|4]
theorem vB   (F:Fun K "is_field" "is_field" lD f fd):FnOk P w K mg base CX0 1 f fd ["number"] spField:=by
 exists lc
 erw[n,1,n9,q]at h;refine⟨_,(aa (aG (PW.pt (fK (ah dP (pv 0) ae (ax _)) (eN (ah aP (ao bc (pv 0) ae) ae (ax _))))) (ad (aq jD)) az)
  (aa #[aj,1,lc,ae]
  (aa (gt PassesOwn.never (ah oN (ao cq (pv 1) (pv 1)) (pv 0) (ax _)) (aa (aG (ah aP (ao bc (pv 0) (pv 1)) ae (ax _)) (ad (aq jD)) az)
   (ad #[aj,1,lc,ao aQ (pv 1) ae])))
  (ad (aq jD))))),?_⟩
 erw[0,2,0,6]
 by_cases c:n<3
 . refine aS c ?_;refine ei ?_;exact q false %[λz=>(nomatch z)|λz=>by omega]
 refine aB c ?_;erw[0,2,(by show(0:Int)<_;decide),1,0,6]
 by_cases c2:n % 2=0
 . refine aS (congrArg V.int c2) ?_;exact q false %[λz=>(nomatch z)|λz=>absurd z.2 (AH c2 #[0])]
 refine aB (λz=>c2 (V.int.inj z)) ?_;erw[λm σ H'=>∃d:Int,σ=[some (.int n),some (.int d)]/\H'=H/\3<=d/\d<=1001/\d % 2=1/\wu n d/\m=(n+3-d).toNat,%[_,(3),1,1,3,3,3,Ai n|1],6];rintro m σ H' ⟨d,rfl,rfl,d3,d9,d2,u,rfl⟩;erw[0,0,2,.inl %[3|3],0,2,0,6]
 by_cases c3:d*d<=n
 . refine aS c3 ?_;have r1:=wM n9 d3 c3;have r2:=EB d3 c3;erw[_,λ_ _ h=>h,6];erw[0,0,2,(show 0<d by omega),1,0,6]
   by_cases c4:n % d=0
   . refine aS (congrArg V.int c4) ?_;exact q false %[λz=>(nomatch z)|λz=>absurd z.2 (AG n9 d3 c3 c4)]
   refine aB (λz=>c4 (V.int.inj z)) ?_;erw[0,2,6];erw[_,3,d+2,1,1,3,3,3,CI u d2 c4,1]
 . refine aB c3 ?_;exact q true %[λ_=>%[3|AE #[0] c2 d3 u #[0]]|λ_=>rfl]
abbrev tP:Stmt:=bp tQ 0
abbrev xa:Stmt:=bp tQ 1
abbrev qz:Stmt:=bp tQ 2
abbrev qA:Stmt:=bp tQ 3
def gf (a b:Addr) (p:Int) (d:Addr):List (Str×V):=cu "degrees" (.ref d) (cu "field" (.int p) (cu "trees" (.ref b) (cu "switches" (.ref a) [])))
theorem oW (a b:Addr) (p:Int) (d:Addr):(gf a b p d).lookup ("switches":Str)=some (.ref a):=by
 unfold gf;rw[am,zA0 ⋯,am,zA0 ⋯,am,zA0 ⋯,am,zD0 rfl]
theorem mN (a b:Addr) (p:Int) (d:Addr):(gf a b p d).lookup ("trees":Str)=some (.ref b):=by
 unfold gf;rw[am,zA0 ⋯,am,zA0 ⋯,am,zD0 rfl]
theorem gN (a b:Addr) (p:Int) (d:Addr):(gf a b p d).lookup ("field":Str)=some (.int p):=by
 unfold gf;rw[am,zA0 ⋯,am,zD0 rfl]
theorem Dv (a b:Addr) (p:Int) (d:Addr):(gf a b p d).lookup ("degrees":Str)=some (.ref d):=by
 unfold gf;rw[am,zD0 rfl]
theorem oX (a b:Addr) (p:Int) (d:Addr) {m:Str} (h1:¬ m="degrees") (h2:¬ m="field") (h3:¬ m="trees") (h4:¬ m="switches"):(gf a b p d).lookup m=none:=by
 unfold gf;rw[am,zA0 h1,am,zA0 h2,am,zA0 h3,am,zA0 h4]
 all_goals rfl
structure GTxt(K:W.Frag)(mg:Str->Option Value)(C:Addr):Prop where
 cl:Cls K C
 nS:NoAttr K C "switches"
 nT:NoAttr K C "trees"
 nF:NoAttr K C "field"
 nD:NoAttr K C "degrees"
 mgC:mg "Game"=some (.ref C)
theorem wk(g:Nat->Int):∀n,∃k,k<=n/\dY g n=g k
 | 0=>%[(0),zH0 _|1]
 | n+1=>by
   let%[k,hk|e]:=wk g n;unfold dY
   split
   . erw[n+1,zH0 _,1]
   . erw[k,3,e]
theorem iL{ns:List Int}(h:ns≠[]):xP ns 0∈ns:=by
 cases ns with
 | nil=>exact absurd rfl h
 | cons a r=>
   let%[k,hk|e]:=wk (λi=>(a::r)[i]?.getD 0) ((a::r).length-1);have e1:xP (a::r) 0=dY (λi=>(a::r)[i]?.getD 0) ((a::r).length-1):=rfl;have hl:k<(a::r).length:=by
    rw[zM0]at hk ⊢;omega
   rw[e1,e];show(a::r)[k]?.getD 0∈a::r;rw[zQ0 hl];exact qR0 hl
def bz(ts:List Tr)(x:Str):Int:=xP (ts.map λt=>(t.names.count x:Int)) 0
theorem kj{ts:List Tr}{x:Str}{p:Int}(h0:ts≠[])(h:∀t∈ts,(t.names.count x:Int)<p):bz ts x<p:=by
 have:=iL (ns:=ts.map λt=>(t.names.count x:Int)) (by simpa using h0)
 let%[t,ht|e]:=List.mem_map.mp this;unfold bz;rw[←e];exact h t ht
inductive spDeg(vs:List V)(H:Hp)(Q:VK)(u_3:XK):Prop
 |mk:∀(x:Str)(b:Addr)(tv:List V)(ts:List Tr),vs=[.str x,.ref b]->H b=some (.tup tv)->TreesAt H tv ts->ts≠[]->ts.length<=10->(∀t∈ts,t.wf/\t.depth<=10/\t.size<=400)->(∀H',Same H H'->Q (.int (bz ts x)) H')->spDeg vs H Q u_3
theorem tD:FnScope ["name","trees"] ["name","trees"] (ai jV):=%[1,1,1,4,1,4|4]
theorem uu   (F:Fun K "degree_of" "degree_of" jV f fd) (hmax:mg "max"=none) (eM:Cal P w K mg base 12 "names_in" ["tree"] (spNamesIn 10)):FnOk P w K mg base CX0 13 f fd ["name","trees"] spDeg:=by
 exists tD
 erw[x,b,tv,ts,1,hb,TS,t0,tl,tok,q]at h;refine⟨_,(ad (aq (aE (iR rfl) rfl hmax PyProof.Rows.boot_max (af (cz (N:=["name"]) (ix:=[0]) rfl
  (CompScope.one (by rfl') ⋯ rfl ⋯ rfl ⋯ (by rfl') (by rfl') (by rfl') rfl rfl) rfl
  (ii (pv 1)) (λ_ _ _=>cG (Ci K PySem.F.plainAttrs_list PySem.F.slot_list_count PySem.F.type_list_count (sE K) (ag eM hr ⋯ rfl %[0|aO]) %[1|aO]))) aO)))),?_⟩
 have vl:=TS.length;erw[0,b,1,%[_|zC0 hb],λD hD=>?_];refine gy (K:=K) (xs:=tv) (λi H'=>H' D=some (.lst (((ts.take i).map λt=>(t.names.count x:Int)).map V.int))/\Same H H') %[by rw[aI];rfl|zB0 hD _] (λi H' _ h=>zC0 (h.2 _ _ hb)) ?_ ?_
 . rintro i z H2 hz ⟨hl,S2⟩;let%[t,ht|T]:=TS.get hz;let%[tw,td|tz]:=tok t (qF0 ht);have hi:i<tv.length:=(zW0 hz).1;erw[0,z,t,1,T.mono (aX S2),tw,3,tz,λl H3 l0 S3 hl3=>?_];erw[.inl %[1,_|zG0 hl3],0,l,2,zG0 hl3,gX _,1,6];rw[rD];erw[_,S3 _ _ hl,6,Nx.of hi %[6|λb' o' e'=>?_]]
   . rw[zE0,zE0,qL0];exact aM #[0]
   . rw[aI,qI0,ht,zK0,zK0];rfl
   . rw[bh (aV e' hD)];exact S3 _ _ (S2 _ _ e')
 . rintro H2 ⟨hl,S2⟩;rw[vl,qG0]at hl;erw[D,0,zG0 hl,by simpa using t0,q H2 S2]
inductive spLookS(vs:List V)(H:Hp)(Q:VK)(u_3:XK):Prop
 |mk:∀(a:Addr)(ns:List Str),vs=[.ref a]->H a=some (.tup (ns.map V.str))->ns.Nodup->ns.length<=10->(∀H',Same H H'->Q .non H')->spLookS vs H Q u_3
theorem jz(x:Str)(ns:List Str):inV (.str x) (ns.map V.str)=decide (x∈ns):=by
 unfold inV
 induction ns with
 | nil=>rfl
 | cons a r ih=>
   rw [zZ0,List.any_cons,ih];have e:eqV (.str a) (.str x)=decide (x=a):=by
    show(a==x)=_
    by_cases c:x=a
    . subst c;simp
    . rw[decide_eq_false c];simpa using λh=>c h.symm
   rw[e]
   by_cases c1:x=a <;> by_cases c2:x∈r <;> simp [c1,c2]
theorem gB:FnScope ["switches","place","name"] ["switches"] (ai gH):=%[1,1,1,4,1,4|4]
theorem ou   (F:Fun K "look_switches" "look_switches" gH f fd) (henum:mg "enumerate"=none):FnOk P w K mg base CX0 1 f fd ["switches"] spLookS:=by
 exists gB
 erw[a,ns,1,ha,nd,nl,q]at h;refine⟨_,(ad (cv PassesOwn.never rfl (vi rfl henum (pv 0)) (oj rfl (cK (bb (i:=1) gB.nd rfl (.inl rfl)) (cK (bb (i:=2) gB.nd rfl (.inl rfl)) kF)))
  (ad (aG (ah fQ (pv 2) (eR qk (pv 0) jt (eP (pv 1))) (by rfl')) bw az)))),?_⟩
 erw[0,a,1,%[_|zC0 ha],sI (K:=K) (xs:=ns.map V.str) (λi σ H'=>∃x1 x2:Option V,σ=[some (.ref a),x1,x2]/\Same H H') %[_,0|Same.refl _] (λi σ H' _ hst=>by erw[_,_,_,h]at hst;exact zC0 (h _ _ ha)) ?_ ?_]
 . rintro i z σ H1 t hz ⟨x1,x2,rfl,S1⟩ ht;have hi:i<(ns.map V.str).length:=(zW0 hz).1;rw[zY0]at hz;let%[x,hx|1]:=qV0 hz;have G:=zB0 ht (.tup [.int (i:Int),.str x]);have S2:=S1.trans G;have hi':i<ns.length:=by rw[zE0]at hi;exact hi
   erw[t,0,zC0 aI,1,_,0,2,6];erw[0,0,0,(i:Int),1,a,0,zC0 (S2 _ _ ha),6,λc hc=>?_]
   . rintro⟨_,h⟩;rw[HT.sIx_nat]at h;omega
   . erw[c,0,.inr (zC0 aI),1,6,0,6]
     . have ec:kR (ns.map V.str) none (some (i:Int))=(ns.take i).map V.str:=by
        unfold kR;rw[HT.sIx_none,HT.sIx_nat,List.drop_zero,Nat.sub_zero,List.map_take]
        congr 1
        omega
       rw[ec];exact gX _
     . have ec:kR (ns.map V.str) none (some (i:Int))=(ns.take i).map V.str:=by
        unfold kR;rw[HT.sIx_none,HT.sIx_nat,List.drop_zero,Nat.sub_zero,List.map_take]
        congr 1
        omega
       show if inV (.str x) (kR (ns.map V.str) none (some (i:Int)))=true then _ else _
       rw[ec,jz,decide_eq_false ?_]
       . refine cW ?_;erw[_,0,S2.trans (zB0 hc _)]
       . intro hm;let%[j,hj|e]:=List.getElem_of_mem hm;rw[qL0]at hj;rw[List.getElem_take]at e;have ex:ns[i]=x:=by
          rw[zQ0 hi']at hx;exact zU0 hx
         exact List.pairwise_iff_getElem.mp nd j i #[0] hi' #[0] (e.trans ex.symm)
 . rintro σ H1 ⟨x1,x2,rfl,S1⟩;exact q H1 S1
theorem mz{ns:List Str}:∀t:Tr,t.ok ns->∀x∈t.names,x∈ns
 | .is y,h,x,hx=>by rw[zN0 hx];exact h
 | .yes,_,x,hx=>by cases hx
 | .no,_,x,hx=>by cases hx
 | .not a,h,x,hx=>mz a h x hx
 | .bin _ a b,⟨_,h1,h2⟩,x,hx=>by
   rcases qH0 hx with h | h
   . exact mz a h1 x h
   . exact mz b h2 x h
inductive spLookN(vs:List V)(H:Hp)(Q:VK)(u_3:XK):Prop
 |mk:∀(a b:Addr)(ns:List Str)(tv:List V)(ts:List Tr),vs=[.ref b,.ref a]->H a=some (.tup (ns.map V.str))->H b=some (.tup tv)->TreesAt H tv ts->(∀t∈ts,t.ok ns/\t.wf/\t.depth<=10/\t.size<=400)->(∀H',Same H H'->Q .non H')->spLookN vs H Q u_3
theorem i7:FnScope ["trees","switches","tree","name"] ["trees","switches"] (ai jf):=%[1,1,1,4,1,4|4]
theorem rT   (F:Fun K "look_names" "look_names" jf f fd) (eM:Cal P w K mg base 12 "names_in" ["tree"] (spNamesIn 10)):FnOk P w K mg base CX0 13 f fd ["trees","switches"] spLookN:=by
 exists i7
 erw[a,b,ns,tv,ts,1,ha,hb,TS,tok,q]at h;refine⟨_,(ad (cv PassesOwn.never rfl (ii (pv 0)) (bb (i:=2) i7.nd rfl (.inl rfl))
  (ad (cv PassesOwn.never rfl (eQ (ag eM hr ⋯ rfl %[2|aO])) (bb (i:=3) i7.nd rfl (.inl rfl))
   (ad (aG (ah mq (pv 3) (pv 1) (by rfl')) bw az)))))),?_⟩
 erw[0,b,1,%[_|zC0 hb],uK (K:=K) (xs:=tv) (λi σ H'=>∃x2 x3:Option V,σ=[some (.ref b),some (.ref a),x2,x3]/\Same H H') %[_,0|Same.refl _] (λi σ H' _ hst=>by erw[_,_,_,h]at hst;exact zC0 (h _ _ hb)) ?_ ?_]
 . rintro i z σ H1 hz ⟨x2,x3,rfl,S1⟩;let%[t,ht|T]:=TS.get hz;let%[tk,tw,td|tz]:=tok t (qF0 ht);erw[0,z,t,1,T.mono (aX S1),tw,3,tz,λl H2 l0 S2 hl=>?_];have S12:=S1.trans S2;erw[l,1,%[_|zG0 hl],ki (K:=K) (xs:=t.names.map V.str) (λj σ H'=>∃x3:Option V,σ=[some (.ref b),some (.ref a),some z,x3]/\H'=H2) %[0|1] (λj σ H' _ hst=>by erw[_,_,h]at hst;subst h;exact zG0 hl) ?_ ?_]
   . rintro j y σ H3 hy ⟨y3,rfl,rfl⟩;rw[zY0]at hy;let%[x,hx|1]:=qV0 hy;erw[0,0,a,0,.inr (zC0 (S12 _ _ ha)),1,gX _,0,6];show if(!inV (.str x) (ns.map V.str))=true then _ else _
     rw[jz,decide_eq_true (mz t tk x (qF0 hx))];refine cW ?_;erw[0,1]
   . rintro σ H3 ⟨y3,rfl,rfl⟩;erw[_,0,S12]
 . rintro σ H1 ⟨x2,x3,rfl,S1⟩;exact q H1 S1
inductive spLookF(vs:List V)(H:Hp)(Q:VK)(u_3:XK):Prop
 |mk:∀p:Int,vs=[.int p]->Pr p->2<p->p<=999983->Q .non H->spLookF vs H Q u_3
theorem rR:FnScope ["field"] ["field"] (ai jg):=%[1,1,1,4,1,4|4]
theorem rV   (F:Fun K "look_field" "look_field" jg f fd) (hend:∃t,mg "FIELDS_END"=some (.int 1000000 t)) (nJ:Cal P w K mg base 1 "is_field" ["number"] spField):FnOk P w K mg base CX0 2 f fd ["field"] spLookF:=by
 exists rR
 erw[p,1,pp,p2,p9,q]at h;erw[te,ge]at hend;erw[_,(ad (aG (PW.pt (fK (ah FP (pv 0) (cX (v:=.int 1000000) rfl ge %[|0]) (ax _)) (eN (gI (dN (ag nJ hr ⋯ rfl %[0|aO])))))) bw az)),6];erw[0,2,0,6];refine aB #[0] ?_;erw[0,p,1,3,λb hb=>%[b,1|6]];rw[hb.mpr ⟨p2,pp⟩];exact cW q
inductive spLookZ(vs:List V)(H:Hp)(Q:VK)(u_3:XK):Prop
 |mk:∀(p:Int)(d:Addr)(ns:List Int),vs=[.int p,.ref d]->H d=some (.lst (ns.map V.int))->ns≠[]->(∀n∈ns,n<p)->Q .non H->spLookZ vs H Q u_3
theorem qm:FnScope ["field","degrees","greatest"] ["field","degrees"] (ai jQ):=%[1,1,1,4,1,4|4]
theorem uk   (F:Fun K "look_size" "look_size" jQ f fd) (hmax:mg "max"=none):FnOk P w K mg base CX0 1 f fd ["field","degrees"] spLookZ:=by
 exists qm
 erw[p,d,ns,1,hd,n0,nl,q]at h;refine⟨_,(aa #[aj,2,qm,aE (iR rfl) rfl hmax PyProof.Rows.boot_max %[1|aO]]
  (ad (aG (ah oN (pv 0) (pv 2) (ax _)) bw az))),?_⟩
 erw[0,d,ns,1,zG0 hd,n0,6];erw[0,0,2,0,6]
 have:=nl _ (iL n0)
 exact aB #[0] q
theorem ie(f:Str)(v:V):∀fs:List (Str×V),(cu f v fs).length<=fs.length+1
 | []=>zH0 _
 | (g,u)::r=>by
   have:=ie f v r
   unfold cu
   split
   . simp
   . simp only[zM0];omega
def gf3 (a b:Addr) (p:Int):List (Str×V):=cu "field" (.int p) (cu "trees" (.ref b) (cu "switches" (.ref a) []))
theorem Ho (a b:Addr) (p:Int):(gf3 a b p).lookup ("switches":Str)=some (.ref a):=by
 unfold gf3;rw[am,zA0 ⋯,am,zA0 ⋯,am,zD0 rfl]
theorem Hn (a b:Addr) (p:Int):(gf3 a b p).lookup ("trees":Str)=some (.ref b):=by
 unfold gf3;rw[am,zA0 ⋯,am,zD0 rfl]
def GameAt(C:Addr)(H:Hp)(g a b d:Addr)(p:Int):Prop:=∃dx,H g=some (.ins C dx (gf a b p d))
theorem GameAt.same(h:GameAt C H g a b d p)(s:Same H H'):GameAt C H' g a b d p:=by
 erw[dx,e]at h;erw[dx,s _ _ e]
inductive spGInit(C:Addr)(vs:List V)(H:Hp)(Q:VK)(u_3:XK):Prop
 |mk:∀(g dx a b:Addr)(ns:List Str)(tv:List V)(ts:List Tr)(p:Int),vs=[.ref g,.ref a,.ref b,.int p]->H g=some (.ins C dx [])->H a=some (.tup (ns.map V.str))->ns.Nodup->ns.length<=10->H b=some (.tup tv)->TreesAt H tv ts->1<=ts.length->ts.length<=10->(∀t∈ts,t.ok ns/\t.wf/\t.depth<=10/\t.size<=400)->Pr p->2<p->p<=999983->(ts.length:Int)<=p->(∀t∈ts,∀x∈ns,(t.names.count x:Int)<p)->(∀(d:Addr)(H':Hp),H d=none->GameAt C H' g a b d p->H' d=some (.lst ((ns.map (bz ts)).map V.int))->SameBut g H H'->Q .non H')->spGInit C vs H Q u_3
theorem BF:FnScope ["self","switches","trees","field"] ["self","switches","trees","field"] (ai tP):=%[1,1,1,4,1,4|4]
theorem Cv   (F:Fun K "__init__" "Game.__init__" tP f fd) (T:GTxt K mg C) (htuple:mg "tuple"=none) (hlen:mg "len"=none) (lj:Cal P w K mg base 13 "degree_of" ["name","trees"] spDeg) (g9:Cal P w K mg base 1 "look_switches" ["switches"] spLookS)
 (i9:Cal P w K mg base 13 "look_names" ["trees","switches"] spLookN) (jC:Cal P w K mg base 2 "look_field" ["field"] spLookF) (lr:Cal P w K mg base 1 "look_size" ["field","degrees"] spLookZ):FnOk P w K mg base CX0 14 f fd ["self","switches","trees","field"] (spGInit C):=by
 exists BF
 erw[g,dx,a,b,ns,tv,ts,p,1,hg,ha,nd,nl,hb,TS,t1,t10,tok,pp,p2,p9,tp,tc,q]at h;refine⟨_,(aa (aN (pv 0) (bi ba rfl htuple bd %[1|aO]) rfl)
  (aa (aN (pv 0) (bi ba rfl htuple bd %[2|aO]) rfl)
  (aa (aN (pv 0) (pv 3) rfl)
  (aa (aN (pv 0) (cz (N:=["self"]) (ix:=[0]) rfl
   (CompScope.one (by rfl') ⋯ rfl ⋯ rfl ⋯ (by rfl') (by rfl') (by rfl') rfl rfl) rfl
   (ii (ay (pv 0) rfl)) (λ_ _ _=>cG (ag lj hr ⋯ rfl %[0,kG K (pv 1)|aO]))) rfl)
  (aa (aR (ag g9 hr ⋯ rfl %[ay (pv 0) rfl|aO]))
  (aa (aR (ag i9 hr ⋯ rfl %[ay (pv 0) rfl,ay (pv 0) rfl|aO]))
  (aa (aR (ag jC hr ⋯ rfl %[3|aO]))
  (ad (aR (ag lr hr ⋯ rfl %[3,ao kf (ay (pv 0) rfl) (dy %[ao bm (aE aD rfl hlen PySem.boot_len %[ay (pv 0) rfl|aO]) ae|aO])|aO])))))))))),?_⟩
 have nag:a≠g:=bn ha hg (by intro z;cases z);have nbg:b≠g:=bn hb hg (by intro z;cases z);have vl:=TS.length;erw[0,a,0,.inr %[zC0 ha,0,g,C,dx,[],1,hg,T.cl,T.nS,(by show 0<1000;decide)|6]];erw[0,b,0,.inr %[zC0 (by rw[bh nbg];exact hb),0,g,C,dx,0,aI,T.cl,T.nT,(Nat.lt_of_le_of_lt (ie _ _ _) (by show 1<1000;decide))|6]];erw[0,0,g,C,dx,0,aI,T.cl,T.nF,(Nat.lt_of_le_of_lt (ie _ _ _) (Nat.lt_of_le_of_lt (Nat.succ_le_succ (ie _ _ _)) (by show 2<1000;decide))),6];have S3:SameBut g H (upd (upd (upd H g (.ins C dx (cu "switches" (.ref a) []))) g (.ins C dx (cu "trees" (.ref b) (cu "switches" (.ref a) [])))) g (.ins C dx (cu "field" (.int p) (cu "trees" (.ref b) (cu "switches" (.ref a) []))))):=
  (SameBut.upd _).trans ((SameBut.upd _).trans (SameBut.upd _))
 have hg3:upd (upd (upd H g (.ins C dx (cu "switches" (.ref a) []))) g (.ins C dx (cu "trees" (.ref b) (cu "switches" (.ref a) [])))) g (.ins C dx (cu "field" (.int p) (cu "trees" (.ref b) (cu "switches" (.ref a) [])))) g=some (.ins C dx (gf3 a b p)):=aI;generalize upd (upd (upd H g (.ins C dx (cu "switches" (.ref a) []))) g (.ins C dx (cu "trees" (.ref b) (cu "switches" (.ref a) [])))) g (.ins C dx (cu "field" (.int p) (cu "trees" (.ref b) (cu "switches" (.ref a) []))))=H3 at S3 hg3;have kT:bJ H H3:=λc xs h=>S3 c _ (bn h hg (by intro z;cases z)) h
 have ha3:=kT _ _ ha;have hb3:=kT _ _ hb;have TS3:=TS.mono kT;erw[0,g,C,dx,_,0,hg3,T.cl,T.nS,Ho ..,a,1,%[_|zC0 ha3],λD hD=>?_];have D0:H D=none:=by
  cases e:H D with
  | none=>rfl
  | some o=>
    by_cases c:D=g
    . rw[c,hg3]at hD;cases hD
    . rw[S3 D o c e]at hD;cases hD
 refine gy (K:=K) (xs:=ns.map V.str) (λi H'=>H' D=some (.lst (((ns.take i).map (bz ts)).map V.int))/\Same H3 H') %[by rw[aI];rfl|zB0 hD _] (λi H' _ h=>zC0 (h.2 _ _ ha3)) ?_ ?_
 . rintro i z H4 hz ⟨hl,S4⟩;have hi:i<(ns.map V.str).length:=(zW0 hz).1;rw[zY0]at hz;let%[x,hx|1]:=qV0 hz;erw[0,0,g,C,dx,_,0,S4 _ _ hg3,T.cl,T.nT,Hn ..,x,b,tv,ts,1,S4 _ _ hb3,TS3.mono (aX S4),6,t10,λt ht=>(tok t ht).2,λH5 S5=>?_]
   . intro e;rw[e]at t1;exact absurd t1 ⋯
   erw[_,S5 _ _ hl,6,Nx.of hi %[6|λb' o' e'=>?_]]
   . rw[zE0,zE0,qL0];exact aM #[0]
   . rw[aI,qI0,hx,zK0,zK0];rfl
   . rw[bh (aV e' hD)];exact S5 _ _ (S4 _ _ e')
 rintro H4 ⟨hl,S4⟩;rw[zE0,qG0]at hl;erw[0,g,C,dx,0,S4 _ _ hg3,T.cl,T.nD,6,6]
 . exact Nat.lt_of_le_of_lt (zP0 (ie _ _ _) (Nat.succ_le_succ (zP0 (ie _ _ _) (Nat.succ_le_succ (ie _ _ _))))) (by show 3<1000;decide)
 have nDg:D≠g:=λz=>by rw[z,hg3]at hD;cases hD
 have hg5:upd H4 g (.ins C dx (gf a b p D)) g=some (.ins C dx (gf a b p D)):=aI;have S5:SameBut g H (upd H4 g (.ins C dx (gf a b p D))):=S3.trans ((zI0 S4).trans (SameBut.upd _));have hD5:upd H4 g (.ins C dx (gf a b p D)) D=some (.lst ((ns.map (bz ts)).map V.int)):=by rw[bh nDg];exact hl
 show _;generalize he5:upd H4 g (.ins C dx (gf a b p D))=H5 at hg5 S5 hD5;have kT5:bJ H H5:=λc xs h=>S5 c _ (bn h hg (by intro z;cases z)) h
 rw[show upd H4 g (.ins C dx (cu "degrees" (.ref D) (gf3 a b p)))=H5 from he5];erw[0,g,C,dx,_,0,hg5,T.cl,T.nS,oW ..,a,ns,1,kT5 _ _ ha,nd,nl,λH6 S6=>?_];have kT6:bJ H H6:=λc xs h=>S6 _ _ (kT5 c xs h)
 erw[0,g,C,dx,_,0,S6 _ _ hg5,T.cl,T.nT,mN ..,0,g,C,dx,_,0,S6 _ _ hg5,T.cl,T.nS,oW ..,a,b,ns,tv,ts,1,kT6 _ _ ha,kT6 _ _ hb,TS.mono kT6,tok,λH7 S7=>?_];have S57:=S6.trans S7;erw[0,p,1,pp,p2,p9,6];erw[0,0,g,C,dx,_,0,S57 _ _ hg5,T.cl,T.nD,Dv ..,0,g,C,dx,_,0,S57 _ _ hg5,T.cl,T.nT,mN ..,b,0,.inr (zC0 (S57 _ _ (kT5 _ _ hb))),2,(by show 1<=sizeLine;decide),λl hl2=>?_];have Gl:=zB0 hl2 (.lst [.int ((tv.length:Int)-1)]);erw[D,l,2,Gl _ _ (S57 _ _ hD5),aI,6,λr hr0=>?_]
 . rw[zE0,zE0];exact ca (by simp;omega)
 have Gr:=zB0 hr0 (.lst ((ns.map (bz ts)).map V.int++[.int ((tv.length:Int)-1)]));erw[p,r,ns.map (bz ts)++[(tv.length:Int)-1],1,6,by simp,λn hn=>?_,6]
 . rw[aI,zK0];rfl
 . rcases qH0 hn with h | h
   . let%[x,hx|1]:=List.mem_map.mp h;refine kj ?_ λt ht=>tc t ht x hx
     intro e;rw[e]at t1;exact absurd t1 ⋯
   . rw[zN0 h];omega
 . have S59:=S57.trans (Gl.trans Gr);exact q D _ D0 %[dx|S59 _ _ hg5] (S59 _ _ hD5) (S5.trans (zI0 S59))
inductive spInv(vs:List V)(H:Hp)(Q:VK)(u_3:XK):Prop
 |mk:∀a p:Int,vs=[.int a,.int p]->Pr p->p<=999983->0<a->a<p->(∀g:Int,0<g->g<p->g*a % p=1->Q (.int g) H)->spInv vs H Q u_3
theorem bN:FnScope ["a","p","former","former_factor","rest","factor","times","lesser","lesser_factor"] ["a","p"] (ai jk):=%[1,1,1,4,1,4|4]
theorem rZ   (F:Fun K "inverse_of" "inverse_of" jk f fd):FnOk P w K mg base CX0 1 f fd ["a","p"] spInv:=by
 exists bN
 erw[a,p,1,pr,p1,a0,a1,q]at h;have p2:2<=p:=pr.1;refine⟨_,(aa #[aj,2,bN,pv 1]
  (aa #[aj,3,bN,ae]
  (aa #[aj,4,bN,ao bc (pv 0) (pv 1)]
  (aa #[aj,5,bN,ae]
  (aa (gt PassesOwn.never (ah mr (pv 4) ae (ax _)) (aa #[aj,6,bN,ao yJ (pv 2) (pv 4)]
   (aa #[aj,7,bN,ao bm (pv 2) (ao cq (pv 6) (pv 4))]
   (aa #[aj,8,bN,ao bc (ao bm (pv 3) (ao cq (pv 6) (pv 5))) (pv 1)]
   (aa #[aj,2,bN,pv 4]
   (aa #[aj,3,bN,pv 5]
   (aa #[aj,4,bN,pv 7]
   (ad #[aj,5,bN,pv 8]))))))))
  (ad (aq (pv 5)))))))),?_⟩
 erw[0,6];erw[0,0,2,(show 0<p by omega),6];erw[λm σ H'=>∃(former ff rest g:Int)(x6 x7 x8:Option V),σ=[some (.int a),some (.int p),some (.int former),some (.int ff),some (.int rest),some (.int g),x6,x7,x8]/\H'=H/\Eu a p former ff rest g/\m=rest.toNat,%[_,_,_,_,_,_,2,vZ pr #[0] a0 a1|1],6]
 rintro m σ H' ⟨former,ff,rest,g,x6,x7,x8,rfl,rfl,eu,rfl⟩;erw[0,1,0,6]
 by_cases c:rest=1
 . refine vR (congrArg V.int c) ?_;let%[g0,g1|g2]:=DD eu c #[0];erw[0,q g g0 g1 g2]
 . refine iteN (λz=>c (V.int.inj z)) ?_;erw[_,λ_ _ h=>h,6];have r0:=eu.r0;have rp:=eu.rp;have f0:=eu.f0;have f1:=eu.f1;let%[nx|lt]:=yZ eu c;erw[0,0,2,%[r0|3],6];erw[0,0,0,2,.inr %[3|3],2,6];erw[0,0,0,2,.inr %[3|3],2,0,2,(show 0<p by omega),6];erw[0,0,0,0,6];erw[_,lt,_,_,_,_,_,2,nx,1]
theorem md{p x y:Int}(h:p ∣ x-y):x % p=y % p:=by
 erw[k,hk]at h
 have:x=y+p*k:=by omega
 rw[this,Int.add_mul_emod_self_left]
theorem dm(p x:Int):p ∣ x % p-x:=⟨-(x / p),by
 have:=Int.emod_add_mul_ediv x p
 rw[Int.mul_neg];omega⟩
def pmd(p:Int)(g:Nat->Int):Nat->Int
 | 0=>1
 | k+1=>pmd p g k*g k % p
theorem mi(p:Int)(g:Nat->Int):∀k,p ∣ pmd p g k-pr g k
 | 0=>%[(0)|by simp [pmd,pr]]
 | k+1=>by
   let%[a|ha]:=mi p g k;let%[b|hb]:=dm p (pmd p g k*g k);erw[b+a*g k,by show pmd p g k*g k % p-pr g k*g k=_;grind]
theorem mh{p:Int}(hp:1<p)(g:Nat->Int):∀k,0<=pmd p g k/\pmd p g k<p
 | 0=>%[by show(0:Int)<=1;decide|hp]
 | k+1=>%[qB0 _ #[0]|qE0 _ #[0]]
def prL(p:Int)(g:Nat->Int)(n:Nat):List V:=((List.range n).map (pmd p g)).map V.int
theorem qL(p:Int)(g:Nat->Int)(n:Nat):prL p g (n+1)=prL p g n++[.int (pmd p g n)]:=by
 unfold prL;rw[List.range_succ,zK0,zK0];rfl
theorem ED(p:Int)(g:Nat->Int)(n:Nat):(prL p g n).length=n:=by
 unfold prL;rw[zE0,zE0,qQ0]
theorem xQ{f:Nat->Int}{n k:Nat}(h:k<n):atI (((List.range n).map f).map V.int) (k:Int)=some (.int (f k)):=by
 refine cD ?_;rw[zY0,zY0,List.getElem?_range h];rfl
theorem xh{n k:Nat}(h:k<n):atI (prL p g n) (k:Int)=some (.int (pmd p g k)):=xQ h
inductive spProd(vs:List V)(H:Hp)(Q:VK)(u_3:XK):Prop
 |mk:∀(a:Addr)(g:Nat->Int)(n:Nat)(p:Int),vs=[.ref a,.int p]->H a=some (.lst (((List.range n).map g).map V.int))->n<=500->1<p->p<2 ^ 40->(∀(l:Addr)(H':Hp),H l=none->Same H H'->H' l=some (.lst (prL p g (n+1)))->Q (.ref l) H')->spProd vs H Q u_3
theorem lS:FnScope ["numbers","p","told","number"] ["numbers","p"] (ai ly):=%[1,1,1,4,1,4|4]
theorem vx   (F:Fun K "products" "products" ly f fd):FnOk P w K mg base CX0 1 f fd ["numbers","p"] spProd:=by
 exists lS
 erw[a,g,n,p,1,ha,n5,p1,p40,q]at h;refine⟨_,(aa #[aj,2,lS,dy %[ae|aO]]
  (aa (cv PassesOwn.never rfl (eQ (pv 0)) (bb (i:=3) lS.nd rfl (.inl rfl)) (ad (aR (eA PySem.F.plainAttrs_list PySem.F.slot_list_append PySem.F.type_list_append bZ (pv 2) %[ao bc (ao cq (aJ ix_list (pv 2) (vk pX ae) (λ_ _=>rfl)) (pv 3)) (pv 1)|aO]))))
  (ad (aq (pv 2))))),?_⟩
 erw[(by show 1<=sizeLine;decide),λL hL=>?_];have aL:a≠L:=aV ha hL;refine⟨_,rfl,a,rfl,%[_|zG0 ((zB0 hL _) _ _ ha)],ki (K:=K) (xs:=((List.range n).map g).map V.int) (λi σ H'=>∃x3:Option V,σ=[some (.ref a),some (.int p),some (.ref L),x3]/\H' L=some (.lst (prL p g (i+1)))/\SameBut L H H')
  %[0,by rw[aI];rfl|SameBut.upd _] (λi σ H' _ hst=>by erw[_,_,_,h]at hst;exact zG0 (h _ _ aL ha)) ?_ ?_⟩
 . rintro i z σ H1 hz ⟨x3,rfl,hL1,S1⟩;have hi:=(zW0 hz).1;rw[zE0,zE0,qQ0]at hi;rw[zY0,zY0,List.getElem?_range hi]at hz;obtain rfl:V.int (g i)=z:=zU0 hz;have rg:=mh p1 g i;erw[0,.inl %[1,_|zG0 hL1],6];erw[0,0,L,_,_,.int (pmd p g i),1,1,zG0 hL1,6,0,2,.inl %[3|3],0,2,#[0],L,2,hL1,6,6]
   . rw[qL];exact wp _ _
   . rw[ED];exact aM #[0]
   . erw[0,6,λc o hc e=>?_]
     . rw[aI,qL p g (i+1)];rfl
     . rw[bh hc];exact S1 c o hc e
 . rintro σ H1 ⟨x3,rfl,hL1,S1⟩;rw[zE0,zE0,qQ0]at hL1;erw[0,q L H1 hL (λb o e=>S1 b o (aV e hL) e) hL1]
theorem BW:∀n:Nat,pr (λk=>1+(k:Int)) n=fac n
 | 0=>rfl
 | n+1=>by
   show pr (λk=>1+(k:Int)) n*(1+(n:Int))=fac n*((n:Int)+1)
   rw[BW n,Int.add_comm]
theorem By{p g a t s:Int}{k m:Nat}(hg:g*a % p=1)(p1:1<p)(ha:p ∣ a-fac (k+m))(ht:p ∣ t-pr (λj=>((k+m:Nat):Int)-j) m)(hs:p ∣ s-g*t):p ∣ s*fac k-1:=by
 have f:=vX m k;erw[x,hx]at ha;erw[y,hy]at ht;erw[z,hz]at hs;let%[e|he]:=dm p (g*a);rw[hg]at he;erw[z*fac k+g*y*fac k-g*x-e,by grind]
inductive spFacs(vs:List V)(H:Hp)(Q:VK)(u_3:XK):Prop
 |mk:∀(L:Nat)(p:Int),vs=[.int (L:Int),.int p]->L<=500->(L:Int)<p->Pr p->p<=999983->(∀(l:Addr)(H':Hp)(sh:Nat->Int),H l=none->Same H H'->(∀k,k<=L->p ∣ sh k*fac k-1)->(∀k,0<=sh k/\sh k<p)->H' l=some (.lst (((List.range (L+1)).map sh).map V.int))->Q (.ref l) H')->spFacs vs H Q u_3
theorem cU:FnScope ["last","p","numbers","whole","told"] ["last","p"] (ai dM):=%[1,1,1,4,1,4|4]
theorem jI   (F:Fun K "inverse_factorials" "inverse_factorials" dM f fd) (B:Bl mg) (eW:Cal P w K mg base 1 "products" ["numbers","p"] spProd) (fc:Cal P w K mg base 1 "inverse_of" ["a","p"] spInv):FnOk P w K mg base CX0 2 f fd ["last","p"] spFacs:=by
 exists cU
 erw[L,p,1,L5,Lp,pp,p9,q]at h;refine⟨_,(aa #[aj,2,cU,xt rfl rfl B.list rfl B.range %[ae,ao aQ (pv 0) ae|aO]]
  (aa (aj (i:=3) cU.nd rfl (Or.inr rfl) (ag fc hr ⋯ rfl %[aJ ix_list (ag eW hr ⋯ rfl %[2,1|aO]) (vk pX ae) (λ_ _=>rfl),1|aO]))
  (aa (aj (i:=4) cU.nd rfl (Or.inr rfl) (ag eW hr ⋯ rfl (af (cz (N:=["last"]) (ix:=[0]) rfl
   (CompScope.one (by rfl') ⋯ rfl ⋯ rfl ⋯ (by rfl') (by rfl') (by rfl') rfl rfl) rfl
   (bO rfl B.range %[0|aO]) (λ_ _ _=>cG (ao bm (pv 1) (pv 0)))) %[1|aO])))
  (ad (aq (cz (N:=["whole","told","p","last"]) (ix:=[3,4,1,0]) rfl
   (CompScope.four (by rfl') ⋯ rfl ⋯ rfl ⋯ rfl (by rfl') (by rfl') (by rfl') (by rfl') (by rfl') (by rfl') rfl rfl (by rfl') rfl rfl (by rfl') rfl rfl (by rfl') rfl rfl) rfl
   (bO rfl B.range %[ao aQ (pv 0) ae|aO]) (λ_ _ _=>cG (ao bc (ao cq (pv 1) (aJ (vQ K) (pv 2) (ao bm (pv 4) (pv 0)) (λ_ _=>rfl))) (pv 3))))))))),?_⟩
 have p2:=pp.1;have hP:=vh pp #[0];erw[0,2,(1),0,%[4,4,3|3],3,λa ha=>?_];have e1:ua 1 ((L:Int)+1-1).toNat=(List.range L).map λk:Nat=>1+(k:Int):=by
  unfold ua;rw[show((L:Int)+1-1).toNat=L by omega]
 rw [e1];have Ga:=zB0 ha (.lst (((List.range L).map λk:Nat=>1+(k:Int)).map V.int));erw[0,0,a,_,L,p,1,aI,L5,3,3,λl H2 l0 S2 hl2=>?_];have rg:=mh (show 1<p by omega) (λk:Nat=>1+(k:Int)) L;have dv:=mi p (λk:Nat=>1+(k:Int)) L;rw[BW]at dv;have ne0:pmd p (λk:Nat=>1+(k:Int)) L≠0:=λz=>by
  rw[z]at dv;erw[m,hm]at dv;exact uL hP L Lp %[-m|by rw[Int.mul_neg];omega]
 erw[0,l,_,_,.int (pmd p (λk:Nat=>1+(k:Int)) L),1,1,zG0 hl2,by rw[qL];exact wp _ _,0,_,p,1,pp,p9,3,rg.2,λg g0 g1 hg=>?_];have SH2:=Ga.trans S2;erw[0,0,3,3,λD hD=>?_];refine eC (λi H'=>H' D=some (.lst (((List.range i).map λj:Nat=>(L:Int)-j).map V.int))/\Same H2 H') %[by rw[aI];rfl|zB0 hD _] ?_ ?_
 . rintro i H3 hi ⟨hD3,S3⟩;erw[0,0,2,_,hD3,6,Nx.of hi %[6|λb o e=>?_]]
   . rw[zE0,zE0,qQ0];exact aM #[0]
   . rw[aI,List.range_succ,zK0,zK0,Int.zero_add];rfl
   . rw[bh (aV e hD)];exact S3 _ _ e
 rintro H3 ⟨hD3,S3⟩;rw[show((L:Int)).toNat=L from qO0 L]at hD3;erw[0,D,_,L,p,1,hD3,L5,3,3,λt H4 t0 S4 ht4=>?_];erw[0,2,0,3,3,λD2 hD2=>?_];refine eC (λi H'=>H' D2=some (.lst (((List.range i).map λk:Nat=>g*pmd p (λj:Nat=>(L:Int)-j) (L-k) % p).map V.int))/\Same H4 H') %[by rw[aI];rfl|zB0 hD2 _] ?_ ?_
 . rintro i H5 hi ⟨hD5,S5⟩;have hi':i<L+1:=by omega
   have rg2:=mh (show 1<p by omega) (λj:Nat=>(L:Int)-j) (L-i);have e2:(L:Int)-(0+(i:Int))=((L-i:Nat):Int):=by omega
   erw[0,0,0,0,2,t,_,_,.int (pmd p (λj:Nat=>(L:Int)-j) (L-i)),1,1,zG0 (S5 _ _ ht4),by rw[e2];exact xh #[0],2,.inl %[3|3],0,2,#[0],_,hD5,6,Nx.of hi ⟨?_,λb o e=>?_⟩]
   . rw[zE0,zE0,qQ0];exact aM #[0]
   . rw[aI,List.range_succ,zK0,zK0];rfl
   . rw[bh (aV e hD2)];exact S5 _ _ e
 rintro H5 ⟨hD5,S5⟩;rw[show((L:Int)+1).toNat=L+1 by omega]at hD5;have S05:=SH2.trans (S3.trans (S4.trans S5));refine q D2 H5 (λk=>g*pmd p (λj:Nat=>(L:Int)-j) (L-k) % p) ((SH2.trans (S3.trans S4)).free hD2) S05 (λk hk=>?_) (λk=>%[qB0 _ #[0]|qE0 _ #[0]]) hD5;obtain⟨m,rfl⟩:∃m,L=k+m:=⟨L-k,by omega⟩
 rw[show k+m-k=m by omega];exact By hg #[0] dv (mi p _ m) (dm p _)
def wt(p:Int)(n i:Nat):Int:=(px (i:Int) i n % p) ^ (p-2).toNat
theorem wC(hp:Pm p){n:Nat}(hn:(n:Int)<=p):Wgt p n (wt p n):=λi hi=>by
 have h1:=GN hp hn hi;let%[k|hk]:=dm p (px (i:Int) i n);have h2:¬ p ∣ px (i:Int) i n % p:=fun⟨m,hm⟩=>h1 %[m-k|by grind]
 let%[m|hm]:=Hu hp h2 (qB0 _ (by have:=hp.1;omega));erw[m-k*(px (i:Int) i n % p) ^ (p-2).toNat,by unfold wt;grind]
def val(p:Int)(xs:List Int)(r:Int):Int:=lag (λi=>xs.getD i 0) (wt p xs.length) xs.length r % p
theorem Gf{t:Int}{xs:List Int}(hp:Pm p)(hn:(xs.length:Int)<=p)(hu:Wgt p xs.length u)(t0:0<=t)(t1:t<p)(h:p ∣ t-lag (λi=>xs.getD i 0) u xs.length r):t=val p xs r:=by
 have e:p ∣ t-lag (λi=>xs.getD i 0) (wt p xs.length) xs.length r:=by
  have:=Di hp hn (v:=λi=>xs.getD i 0) hu (wC hp hn) r
  have z:=Int.dvd_add h this;have e2:t-lag (λi=>xs.getD i 0) u xs.length r+(lag (λi=>xs.getD i 0) u xs.length r-lag (λi=>xs.getD i 0) (wt p xs.length) xs.length r)=t-lag (λi=>xs.getD i 0) (wt p xs.length) xs.length r:=by omega
  rw[e2]at z;exact z
 have:=md e
 rw[qU0 t0 t1]at this;exact this
theorem Ef{p:Int}(hp:1<p)(xs:List Int)(r:Int):0<=val p xs r/\val p xs r<p:=%[qB0 _ #[0]|qE0 _ #[0]]
theorem Gh{xs:List Int}{k:Nat}(hp:Pm p)(hn:(xs.length:Int)<=p)(hk:k<xs.length):val p xs k=xs.getD k 0 % p:=md (xV (wC hp hn) hk)
theorem sgn(m:Nat):(-1:Int) ^ m=if m % 2=1 then -1 else 1:=by
 induction m with
 | zero=>rfl
 | succ m ih=>
   rw[Int.pow_succ,ih]
   by_cases c:m % 2=1
   . rw[zD0 c,zA0 #[0]];rfl
   . rw[zA0 c,zD0 #[0]];rfl
theorem Ee{p r v t s a b c d e:Int}{m:Nat}{x y:Int}(ht:p ∣ t-s)(ha:p ∣ a-pr (λj=>r-j) i)(hb:p ∣ b-pr (λj=>r-(i+m:Nat)+j) m)(hc:p ∣ c-v*a*b)(hd:p ∣ d-x*y)(he:p ∣ e-(t+(if m % 2=1 then -(c*d)else c*d))) :
 p ∣ e-(s+v*px r i (i+m+1)*((-1) ^ m*(x*y))):=by
 rw[show i+m+1=i+1+m by omega,qG,sgn];rw[yH]at hb;generalize pr (λj=>r-j) i=A at *
 generalize pr (λj=>r-(i+1+j:Nat)) m=B at *
 erw[t',ht]at ht;erw[a',ha]at ha;erw[b',hb]at hb;erw[c',hc]at hc;erw[d',hd]at hd;erw[e',he]at he;have e1:c*d-v*(A*B)*(x*y)=p*(c'*d+v*(a'*b+A*b')*d+v*A*B*d'):=by grind
 by_cases z:m % 2=1
 . rw [zD0 z]at *
   erw[e'+t'-(c'*d+v*(a'*b+A*b')*d+v*A*B*d'),by grind]
 . rw [zA0 z]at *
   erw[e'+t'+(c'*d+v*(a'*b+A*b')*d+v*A*B*d'),by grind]
def IntsAt(H:Hp)(a:Addr)(xs:List Int):Prop:=H a=some (.lst (xs.map V.int))∨H a=some (.tup (xs.map V.int))
theorem IntsAt.same(h:IntsAt H a xs)(s:Same H H'):IntsAt H' a xs:=h.elim (λe=>.inl (s _ _ e)) (λe=>.inr (s _ _ e))
theorem IntsAt.seq{K:W.Frag}(h:IntsAt H a xs):SqL K H a (xs.map V.int)∨SqT K H a (xs.map V.int):=h.elim (λe=>.inl (zG0 e)) (λe=>.inr (zC0 e))
theorem IntsAt.ix{K:W.Frag}{k:Nat}{Q:VK}(h:IntsAt H a xs)(hk:k<xs.length)(q:Q (.int (xs.getD k 0)) H):rIxL K (.ref a) (.int (k:Int)) H Q∨rIxT K (.ref a) (.int (k:Int)) H Q:=by
 have e:atI (xs.map V.int) (k:Int)=some (.int (xs.getD k 0)):=cD (by rw[zY0,zQ0 hk,qP0,zQ0 hk];rfl);rcases h with h | h
 . exact .inl %[a,_,2,zG0 h,e|q]
 . exact .inr %[a,_,2,zC0 h,e|q]
def li(xs:List Int)(p:Int):Prop:=1<=xs.length/\xs.length<=500/\(xs.length:Int)<=p/\∀k,0<=xs.getD k 0/\xs.getD k 0<2 ^ 40
inductive spVal(vs:List V)(H:Hp)(Q:VK)(u_3:XK):Prop
 |mk:∀(a:Addr)(xs:List Int)(r p:Int),vs=[.ref a,.int r,.int p]->IntsAt H a xs->li xs p->Pr p->p<=999983->0<=r->r<p->(∀H',Same H H'->Q (.int (val p xs r)) H')->spVal vs H Q u_3
theorem bt:FnScope ["values","r","p","last","ahead","behind","shares","total","place","share","part"] ["values","r","p"] (ai hU):=%[1,1,1,4,1,4|4]
theorem pk   (F:Fun K "value_behind" "value_behind" hU f fd) (B:Bl mg) (eW:Cal P w K mg base 1 "products" ["numbers","p"] spProd) (fe:Cal P w K mg base 2 "inverse_factorials" ["last","p"] spFacs):FnOk P w K mg base CX0 3 f fd ["values","r","p"] spVal:=by
 exists bt
 erw[a,xs,r,p,1,ha,%[x1,x5,xp|xb],pp,p9,r0,r1,q]at h;refine⟨_,(aa (aj (i:=3) bt.nd rfl (Or.inr rfl) (ao bm (aE aD rfl B.len PySem.boot_len %[0|aO]) ae))
  (aa (aj (i:=4) bt.nd rfl (.inl rfl) (ag eW hr ⋯ rfl (af (cz (N:=["r"]) (ix:=[1]) rfl
   (CompScope.one (by rfl') ⋯ rfl ⋯ rfl ⋯ (by rfl') (by rfl') (by rfl') rfl rfl) rfl
   (bO rfl B.range %[3|aO]) (λ_ _ _=>cG (ao bm (pv 1) (pv 0)))) %[2|aO])))
  (aa (aj (i:=5) bt.nd rfl (.inl rfl) (ag eW hr ⋯ rfl (af (cz (N:=["r","last"]) (ix:=[1,3]) rfl
   (CompScope.two (by rfl') ⋯ rfl ⋯ rfl ⋯ (by first | exact Or.inl rfl | exact Or.inr rfl) (by rfl') (by rfl') (by rfl') (by rfl') rfl rfl (by rfl') rfl rfl) rfl
   (bO rfl B.range %[3|aO]) (λ_ _ _=>cG (ao aQ (ao bm (pv 1) (pv 2)) (pv 0)))) %[2|aO])))
  (aa #[aj,6,bt,ag fe hr ⋯ rfl %[3,2|aO]]
  (aa #[aj,7,bt,ae]
  (aa (cv PassesOwn.never rfl (bO rfl B.range %[ao aQ (pv 3) ae|aO]) (bb (i:=8) bt.nd rfl (.inl rfl)) (aa #[aj,9,bt,ao bc (ao cq (aJ ix_list (pv 6) (pv 8) (λ_ _=>rfl)) (aJ ix_list (pv 6) (ao bm (pv 3) (pv 8)) (λ_ _=>rfl))) (pv 2)]
   (aa #[aj,10,bt,ao cq (ao bc (ao cq (ao cq (aJ (ix_list.or ix_tup) (pv 0) (pv 8) (λ_ _=>rfl)) (aJ ix_list (pv 4) (pv 8) (λ_ _=>rfl))) (aJ ix_list (pv 5) (ao bm (pv 3) (pv 8)) (λ_ _=>rfl))) (pv 2)) (pv 9)]
   (aa (aG (ah aP (ao bc (ao bm (pv 3) (pv 8)) ae) ae (ax _)) (ad #[aj,10,bt,vk pX (pv 10)]) az)
   (ad #[aj,7,bt,ao bc (ao aQ (pv 7) (pv 10)) (pv 2)])))))
  (ad (aq (pv 7))))))))),?_⟩
 have p2:=pp.1;have p1:1<p:=by omega
 have p0:0<p:=by omega
 have hP:=vh pp #[0];obtain⟨L,hL⟩:∃L,xs.length=L+1:=%[xs.length-1|3]
 have eL:(((xs.map V.int).length:Nat):Int)-1=(L:Int):=by rw[zE0];omega
 erw[0,a,0,ha.seq,2,6]
 dsimp only
 rw[eL];erw[0,(L:Int),1,3,3,λD hD=>?_];refine eC (λi H'=>H' D=some (.lst (((List.range i).map λj:Nat=>r-j).map V.int))/\Same H H') %[by rw[aI];rfl|zB0 hD _] ?_ ?_
 . rintro i H3 hi ⟨hD3,S3⟩;erw[0,0,2,_,hD3,6,Nx.of hi %[6|λb o e=>?_]]
   . rw[zE0,zE0,qQ0];exact aM #[0]
   . rw[aI,List.range_succ,zK0,zK0,Int.zero_add];rfl
   . rw[bh (aV e hD)];exact S3 _ _ e
 rintro H1 ⟨hD1,S1⟩;rw[show((L:Int)).toNat=L from qO0 L]at hD1;erw[0,D,_,L,p,1,hD1,3,p1,3,λla H2 la0 S2 hla=>?_];erw[0,(L:Int),1,3,3,λD2 hD2=>?_];refine eC (λi H'=>H' D2=some (.lst (((List.range i).map λj:Nat=>r-(L:Int)+j).map V.int))/\Same H2 H') %[by rw[aI];rfl|zB0 hD2 _] ?_ ?_
 . rintro i H3 hi ⟨hD3,S3⟩;erw[0,0,2,0,2,_,hD3,6,Nx.of hi %[6|λb o e=>?_]]
   . rw[zE0,zE0,qQ0];exact aM #[0]
   . rw[aI,List.range_succ,zK0,zK0,Int.zero_add];rfl
   . rw[bh (aV e hD2)];exact S3 _ _ e
 rintro H3 ⟨hD3,S3⟩;rw[show((L:Int)).toNat=L from qO0 L]at hD3;erw[0,D2,_,L,p,1,hD3,3,p1,3,λlb H4 lb0 S4 hlb=>?_];erw[0,0,L,p,1,3,3,pp,p9,λls H5 sh ls0 S5 hsh hsr hls=>?_];have S25:=S3.trans (S4.trans S5);have S05:=S1.trans (S2.trans S25);have hla5:=S25 _ _ hla;have hlb5:=S5 _ _ hlb;have ha5:=ha.same S05;have hW:=Eb hsh;refine⟨_,rfl,_,_,rfl,rfl,_,rfl,by omega,by omega,dj (λi σ H'=>∃(t:Int)(x8 x9 x10:Option V),σ=[some (.ref a),some (.int r),some (.int p),some (.int L),some (.ref la),some (.ref lb),some (.ref ls),some (.int t),x8,x9,x10]/\0<=t/\t<p/\p ∣ t-sm (λi=>xs.getD i 0*px r i (L+1)*((-1) ^ (L-i)*(sh i*sh (L-i)))) i/\H'=H5)
  %[(0),_,_,0,4,p0,%[(0)|by simp [sm]]|1] ?_ ?_⟩
 . rintro i σ H6 hi ⟨t,x8,x9,x10,rfl,t0,t1,td,rfl⟩;have hi':i<L+1:=by omega
   obtain⟨m,hm⟩:∃m,L=i+m:=%[L-i|3]
   have e0:(0:Int)+(i:Int)=(i:Int):=Int.zero_add _;have e1:(L:Int)-(0+(i:Int))=(m:Int):=by omega
   have r1':=hsr i;have r2':=hsr m;have ar:=mh p1 (λj:Nat=>r-j) i;have br:=mh p1 (λj:Nat=>r-(L:Int)+j) m;have xi:=xb i;have m1:∀z:Int,0<=z % p:=λz=>qB0 _ #[0]
   have m2:∀z:Int,z % p<p:=λz=>qE0 _ p0
   erw[0,0,ls,_,_,.int (sh i),1,1,zG0 hls,by rw[e0];exact xQ hi',0,0,0,2,ls,_,_,.int (sh m),1,1,zG0 hls,by rw[e1];exact xQ #[0],2,.inl %[3|3],0,2,p0,6];erw[0,0,6];rw[e0];refine ha5.ix #[0] ?_;erw[0,0,la,_,_,.int (pmd p (λj:Nat=>r-j) i),1,1,zG0 hla5,xh hi',2,.inl %[3|3],6];erw[0,0,0,2,lb,_,_,.int (pmd p (λj:Nat=>r-(L:Int)+j) m),1,1,zG0 hlb5,by rw[←e0,e1];exact xh #[0],2,.inr %[3|3],0,2,p0,6];have s1:=m1 (sh i*sh m);have s2:=m2 (sh i*sh m);erw[0,2,.inr %[3|3],6];erw[0,0,2,2,(by show(0:Int)<_;decide),1,0,6];have fin:∀z:Int,z=(if m % 2=1 then -(xs.getD i 0*pmd p (λj:Nat=>r-j) i*pmd p (λj:Nat=>r-(L:Int)+j) m % p*(sh i*sh m % p))else xs.getD i 0*pmd p (λj:Nat=>r-j) i*pmd p (λj:Nat=>r-(L:Int)+j) m % p*(sh i*sh m % p)) ->
    p ∣ (t+z) % p-sm (λi=>xs.getD i 0*px r i (L+1)*((-1) ^ (L-i)*(sh i*sh (L-i)))) (i+1):=λz hz=>by
    show p ∣ _-(sm _ i+xs.getD i 0*px r i (L+1)*((-1) ^ (L-i)*(sh i*sh (L-i))))
    have em:L-i=m:=by omega
    have hb:p ∣ pmd p (λj:Nat=>r-(L:Int)+j) m-pr (λj=>r-(i+m:Nat)+j) m:=by
     rw[←hm];exact mi p _ m
    subst hz;rw[em];have el:L+1=i+m+1:=by omega
    rw[el]at td ⊢;exact Ee td (mi p _ i) hb (dm p _) (dm p _) (dm p _)
   by_cases c:m % 2=1
   . refine aS (congrArg V.int #[0]) ?_;erw[0,0,6];erw[0,0,2,0,2,p0,6];erw[_,_,_,0,m1 _,m2 _,fin _ (by rw[zD0 c]),1]
   . refine aB (λz=>c (by have:=V.int.inj z;omega)) ?_;erw[0,0,2,0,2,p0,6];erw[_,_,_,0,m1 _,m2 _,fin _ (by rw[zA0 c]),1]
 . rintro σ H6 ⟨t,x8,x9,x10,rfl,t0,t1,td,rfl⟩;rw[show((L:Int)+1).toNat=L+1 by omega]at td;rw[←hL]at hW;have e:=Gf (r:=r) hP xp hW t0 t1 (by
    unfold lag;rw[hL];exact td)
   rw[e];erw[0,q H6 S05]
theorem vd:FnScope ["values","r","p","place"] ["values","r","p"] (ai lu):=%[1,1,1,4,1,4|4]
theorem vq   (F:Fun K "value_at" "value_at" lu f fd) (B:Bl mg) (iw:Cal P w K mg base 3 "value_behind" ["values","r","p"] spVal):FnOk P w K mg base CX0 4 f fd ["values","r","p"] spVal:=by
 exists vd
 erw[a,xs,r,p,1,ha,ok,pp,p9,r0,r1,q]at h;refine⟨_,(aa #[aj,3,vd,ao bc (pv 1) (pv 2)]
  (aa (aG (ah dP (pv 3) (aE aD rfl B.len PySem.boot_len %[0|aO]) (ax _)) (ad (aq (ao bc (aJ (ix_list.or ix_tup) (pv 0) (pv 3) (λ_ _=>rfl)) (pv 2)))) az)
  (ad (aq (ag iw hr ⋯ rfl %[0,3,2|aO]))))),?_⟩
 have p0:0<p:=by omega
 have hP:=vh pp #[0];have er:r % p=r:=qU0 r0 r1;erw[0,0,2,p0,6]
 dsimp only
 rw[er];erw[0,0,a,0,ha.seq,2,0,6];refine rf (λc=>?_) (λc=>?_)
 . have c':=of_decide_eq_true c;rw[zE0]at c';obtain⟨k,rfl⟩:∃k:Nat,r=(k:Int):=%[r.toNat|3]
   erw[0,0,6];refine ha.ix #[0] ?_;erw[0,2,p0,6];show Q (.int (xs.getD k 0 % p)) H;rw[←Gh hP ok.2.2.1 #[0]];exact q H (Same.refl _)
 . erw[0,0,0,a,xs,r,p,1,ha,ok,pp,p9,r0,r1,q]
inductive spEnds(vs:List V)(H:Hp)(Q:VK)(u_3:XK):Prop
 |mk:∀(a:Addr)(xs:List Int)(p:Int),vs=[.ref a,.int p]->IntsAt H a xs->li xs p->Pr p->p<=999983->(∀H',Same H H'->Q (.int ((val p xs 0+val p xs 1) % p)) H')->spEnds vs H Q u_3
theorem tF:FnScope ["values","p"] ["values","p"] (ai jX):=%[1,1,1,4,1,4|4]
theorem ux   (F:Fun K "both_ends" "both_ends" jX f fd) (cx:Cal P w K mg base 4 "value_at" ["values","r","p"] spVal):FnOk P w K mg base CX0 5 f fd ["values","p"] spEnds:=by
 exists tF
 erw[a,xs,p,1,ha,ok,pp,p9,q]at h;erw[_,(ad (aq (ao bc (ao aQ (ag cx hr ⋯ rfl %[0,ae,1|aO]) (ag cx hr ⋯ rfl %[0,ae,1|aO])) (pv 1)))),6];have p2:=pp.1;erw[0,0,a,xs,(0),p,1,ha,ok,pp,p9,4,3,λH1 S1=>?_];erw[0,0,a,xs,(1),p,1,ha.same S1,ok,pp,p9,4,3,λH2 S2=>?_];erw[2,0,2,#[0],q H2 (S1.trans S2)]
theorem IntsAt.sqB{K:W.Frag}(h:IntsAt H a xs):∃c,SqB K c H a (xs.map V.int):=h.elim (λe=>%[true|zG0 e]) (λe=>%[false|zC0 e])
def hor(s p:Int):List Int->Int
 | []=>0
 | a::r=>(hor s p r*s+a) % p
theorem pO{p:Int}(hp:0<p):∀ns,0<=hor s p ns/\hor s p ns<p
 | []=>%[Int.le_refl 0|hp]
 | a::r=>%[qB0 _ #[0]|qE0 _ hp]
inductive spMix(C:Addr)(vs:List V)(H:Hp)(Q:VK)(u_3:XK):Prop
 |mk:∀(g a b d l:Addr)(ns:List Int)(s p:Int),vs=[.ref g,.ref l,.int s]->GameAt C H g a b d p->0<p->p<2 ^ 40->IntsAt H l ns->Q (.int (hor s p ns)) H->spMix C vs H Q u_3
theorem u8:FnScope ["self","numbers","s","total","number"] ["self","numbers","s"] (ai xa):=%[1,1,1,4,1,4|4]
theorem EQ   (F:Fun K "mix" "Game.mix" xa f fd) (T:GTxt K mg C) (hrev:mg "reversed"=none):FnOk P w K mg base CX0 1 f fd ["self","numbers","s"] (spMix C):=by
 exists u8
 erw[g,a,b,d,l,ns,s,p,1,%[dx|hg],p0,p40,hl,q]at h;refine⟨_,(aa #[aj,3,u8,ae]
  (aa (cv PassesOwn.never rfl (EF rfl hrev (pv 1)) (bb (i:=4) u8.nd rfl (.inl rfl)) (ad #[aj,3,u8,ao bc (ao aQ (ao cq (pv 3) (pv 2)) (pv 4)) (ay (pv 0) rfl)]))
  (ad (aq (pv 3))))),?_⟩
 let%[c|hl]:=hl.sqB (K:=K);refine⟨_,rfl,c,l,_,rfl,hl,Dy (K:=K) (c:=c) (xs:=ns.map V.int) (λi σ H'=>∃(x4:Option V)(t:Int),σ=[some (.ref g),some (.ref l),some (.int s),some (.int t),x4]/\t=hor s p (ns.drop (ns.length-i))/\H'=H)
  %[_,(0),1,by rw[Nat.sub_zero,List.drop_length];rfl|1] (λi σ H' _ hst=>by erw[_,_,_,_,h]at hst;subst h;exact hl) ?_ ?_⟩
 . rintro i z σ H1 hi hz ⟨x4,t,rfl,rfl,rfl⟩;rw[zE0]at hi;rw[←List.map_reverse,zY0]at hz;let%[x,hx|1]:=qV0 hz;rw[List.getElem?_reverse hi]at hx;have hr2:=pO (s:=s) p0 (ns.drop (ns.length-i));erw[0,0,2,.inl %[3|3],0,2,0,g,C,dx,_,0,hg,T.cl,T.nF,gN ..,2,p0,6];erw[_,0,6,1];have hj:ns.length-1-i<ns.length:=by omega
   have ed:ns.drop (ns.length-(i+1))=x::ns.drop (ns.length-i):=by
    have e1:ns.length-(i+1)=ns.length-1-i:=by omega
    have e2:ns.length-i=ns.length-1-i+1:=by omega
    rw[e1,e2,List.drop_eq_getElem_cons hj]
    congr 1
    rw[zQ0 hj]at hx;exact zU0 hx
   rw[ed];rfl
 . rintro σ H1 ⟨x4,t,rfl,rfl,rfl⟩;rw[zE0,Nat.sub_self,List.drop_zero];erw[0,q]
inductive spWAt(C:Addr)(vs:List V)(H:Hp)(Q:VK)(u_3:XK):Prop
 |mk:∀(g a b d r:Addr)(ns:List Str)(tv:List V)(ts:List Tr)(pt:List Int)(s p:Int),vs=[.ref g,.ref r,.int s]->GameAt C H g a b d p->1<p->p<2 ^ 40->H a=some (.tup (ns.map V.str))->H b=some (.tup tv)->TreesAt H tv ts->ts.length<=10->(∀t∈ts,t.ok ns/\t.depth<=10)->H r=some (.tup (pt.map V.int))->pt.length=ns.length->ci pt p->(∀H',Same H H'->Q (.int (hor s p (ts.map λt=>t.worth ns pt p))) H')->spWAt C vs H Q u_3
theorem zF:FnScope ["self","point","s"] ["self","point","s"] (ai qz):=%[1,1,1,4,1,4|4]
theorem Ab   (F:Fun K "worth_at" "Game.worth_at" qz f fd) (T:GTxt K mg C) (mM:Meth K C "mix" fm) (GM:FnOk P w K mg base CX0 1 fm fdm ["self","numbers","s"] (spMix C)) (bM:Binds K fdm ["self","numbers","s"] []) (fO:Cal P w K mg base 12 "worth_of" ["tree","switches","point","p"] (spWorth 10)):FnOk P w K mg base CX0 13 f fd ["self","point","s"] (spWAt C):=by
 exists zF
 erw[g,a,b,d,r,ns,tv,ts,pt,s,p,1,%[dx|hg],p1,p40,ha,hb,TS,t10,tok,hr0,pl,po,q]at h;have hr1:Room 1 _:=hr.mono ⋯;refine⟨_,(ad (aq (bQ (pv 0) T.cl mM GM hr1 bM .nil aY (af (cz (N:=["self","point"]) (ix:=[0,1]) rfl
  (CompScope.two (by rfl') ⋯ rfl ⋯ rfl ⋯ (by first | exact Or.inl rfl | exact Or.inr rfl) (by rfl') (by rfl') (by rfl') (by rfl') rfl rfl (by rfl') rfl rfl) rfl
  (ii (ay (pv 0) rfl)) (λ_ _ _=>cG (ag fO hr ⋯ rfl %[0,kG K (pv 1),2,kG K (pv 1)|aO]))) %[2|aO])))),?_⟩
 have vl:=TS.length;erw[0,g,dx,0,hg,oX _ _ _ _ ⋯ ⋯ ⋯ ⋯,6];erw[0,g,C,dx,_,0,hg,T.cl,T.nT,mN ..,b,1,%[_|zC0 hb],λD hD=>?_];refine gy (K:=K) (xs:=tv) (λi H'=>H' D=some (.lst (((ts.take i).map λt=>t.worth ns pt p).map V.int))/\Same H H') %[by rw[aI];rfl|zB0 hD _] (λi H' _ h=>zC0 (h.2 _ _ hb)) ?_ ?_
 . rintro i z H2 hz ⟨hl,S2⟩;let%[t,ht|Tt]:=TS.get hz;let%[tk|td]:=tok t (qF0 ht);have hi:i<tv.length:=(zW0 hz).1;erw[0,0,g,C,dx,_,0,S2 _ _ hg,T.cl,T.nS,oW ..,0,0,g,C,dx,_,0,S2 _ _ hg,T.cl,T.nF,gN ..,z,t,a,r,ns,pt,p,1,Tt.mono (aX S2),tk,td,.inr (S2 _ _ ha),S2 _ _ hr0,pl,p1,p40,po,6];erw[_,hl,6,Nx.of hi %[6|λb' o' e'=>?_]]
   . rw[zE0,zE0,qL0];exact aM #[0]
   . rw[aI,qI0,ht,zK0,zK0];rfl
   . rw[bh (aV e' hD)];exact S2 _ _ e'
 . rintro H2 ⟨hl,S2⟩;rw[vl,qG0]at hl;erw[0,g,a,b,d,D,_,s,p,1,%[dx|S2 _ _ hg],3,p40,.inl hl,q H2 S2]
inductive spCoins(C:Addr)(vs:List V)(H:Hp)(Q:VK)(u_3:XK):Prop
 |mk:∀(g a b d:Addr)(ns:List Str)(tv:List V)(p:Int),vs=[.ref g]->GameAt C H g a b d p->H a=some (.tup (ns.map V.str))->H b=some (.tup tv)->Q (.int (if tv.length=1 then(ns.length:Int)else(ns.length:Int)+1)) H->spCoins C vs H Q u_3
theorem zG:FnScope ["self"] ["self"] (ai qA):=%[1,1,1,4,1,4|4]
theorem Ac   (F:Fun K "coins" "Game.coins" qA f fd) (T:GTxt K mg C) (hlen:mg "len"=none):FnOk P w K mg base CX0 1 f fd ["self"] (spCoins C):=by
 exists zG
 erw[g,a,b,d,ns,tv,p,1,%[dx|hg],ha,hb,q]at h;refine⟨_,(aa (aG (ah aP (aE aD rfl hlen PySem.boot_len %[ay (pv 0) rfl|aO]) ae (ax _)) (ad (aq (aE aD rfl hlen PySem.boot_len %[ay (pv 0) rfl|aO]))) az)
  (ad (aq (ao aQ (aE aD rfl hlen PySem.boot_len %[ay (pv 0) rfl|aO]) ae)))),?_⟩
 erw[0,g,C,dx,_,0,hg,T.cl,T.nT,mN ..,b,0,.inr (zC0 hb),1,0,6]
 by_cases c:V.int (tv.length:Int)=V.int 1
 . refine aS c ?_;have c':tv.length=1:=by have:=V.int.inj c;omega
   rw[zD0 c']at q;erw[0,g,C,dx,_,0,hg,T.cl,T.nS,oW ..,a,0,.inr (zC0 ha),6];rw[zE0];exact q
 . refine aB c ?_;have c':¬ tv.length=1:=λz=>c (by rw[z];rfl)
   rw[zA0 c']at q;erw[0,g,C,dx,_,0,hg,T.cl,T.nS,oW ..,a,0,.inr (zC0 ha),6];rw[zE0];erw[2,q]
inductive spSize(n:Nat)(vs:List V)(H:Hp)(Q:VK)(u_3:XK):Prop
 |mk:∀(v:V)(t:Tr),vs=[v]->TreeAt H v t->t.wf->t.depth<=n->t.size<=400->(∀H',Same H H'->Q (.int t.size) H')->spSize n vs H Q u_3
theorem wO(ts:List Tr):(ts.map λu=>(u.size:Int)).sum=(iI ts:Int):=by
 induction ts with
 | nil=>rfl
 | cons a r ih=>
   simp only[iI,zZ0,List.sum_cons]at ih ⊢;rw[ih];omega
theorem wR:FnScope ["tree"] ["tree"] (ai kA):=%[1,1,1,4,1,4|4]
theorem zA {n:Nat}   (F:Fun K "size_of" "size_of" kA f fd) (B:Bl mg) (bj:Cal P w K mg base 1 "trees_within" ["tree"] spWithin) (i3:Cal P w K mg base (n+2) "size_of" ["tree"] (spSize n)):FnOk P w K mg base CX0 (n+3) f fd ["tree"] (spSize (n+1)):=by
 exists wR
 erw[v,t,1,T,wf,dn,sz,q]at h;refine⟨_,(ad (aq (ao aQ ae (aE (rG rfl) rfl B.sum PyProof.Rows.boot_sum (af (cz (N:=[]) (ix:=[]) (cl:=[]) rfl (CompScope.closed (by rfl') ⋯ rfl ⋯ rfl (by rfl')) rfl
  (ii (ag bj hr #[0] rfl %[0|aO])) (λ_ _ _=>cG (ag i3 hr (zH0 _) rfl %[0|aO]))) aO))))),?_⟩
 erw[0,v,t,1,T,wf,λp xs H1 S1 hp TS=>?_];erw[p,1,%[_|zC0 hp],λD hD=>?_];have pD:p≠D:=aV hp hD;have xl:=TS.length;have sp:=t.size_parts;refine gy (K:=K) (xs:=xs) (λi H'=>H' D=some (.lst (((t.parts.take i).map λu=>(u.size:Int)).map V.int))/\Same H1 H') %[by rw[aI];rfl|zB0 hD _] (λi H' _ h=>zC0 (h.2 _ _ hp)) ?_ ?_
 . rintro i x H2 hx ⟨hl,S2⟩;let%[u,hu|Tu]:=TS.get hx;have um:=qF0 hu;let%[uw,ud|us]:=Tr.parts_mem um wf;have hi:i<xs.length:=(zW0 hx).1;erw[0,x,u,1,Tu.mono (aX S2),uw,3,3,λH3 S3=>?_];erw[_,S3 _ _ hl,6,Nx.of hi %[6|λb o e=>?_]]
   . have:t.parts.length<=2:=by cases t <;> simp [Tr.parts]
     rw[zE0,zE0,qL0];exact aM #[0]
   . rw[aI,qI0,hu,zK0,zK0];rfl
   . rw[bh (aV e hD)];exact S3 _ _ (S2 _ _ e)
 . rintro H2 ⟨hl,S2⟩;rw[xl,qG0]at hl;have sc:=wO t.parts;erw[D,0,zG0 hl,6,6,6]
   . intro n hn;let%[u,_|1]:=List.mem_map.mp hn;omega
   . rw[sc];omega
   . rw [sc];erw[2,6];have e:(1:Int)+(iI t.parts:Int)=(t.size:Int):=by omega
     show Q (.int (1+(iI t.parts:Int))) H2;rw[e];exact q H2 (S1.trans S2)
theorem zz  :FnOk P w K mg base CX0 2 f fd ["tree"] (spSize 0):=by
 have no:∀vs H Q E,¬ spSize 0 vs H Q E:=λvs H Q E h=>by
  erw[v,t,_,_,_,h1,_]at h
  have:=t.depth_pos
  omega
 erw[λvs H Q E h=>absurd h (no vs H Q E),λA outer s H args us vs Q E _ _ _ _ h=>absurd h (no vs H Q E)]
theorem qV   (F:Fun K "size_of" "size_of" kA f fd) (B:Bl mg) (m:mg "size_of"=some (.ref f)) (bj:Cal P w K mg base 1 "trees_within" ["tree"] spWithin) :
 ∀n:Nat,FnOk P w K mg base CX0 (n+2) f fd ["tree"] (spSize n)
 | 0=>zz
 | n+1=>zA F B bj (Cal.of F (qV F B m bj n) m (λ_ _ _ _ _ _ us hl=>by let%[u0|1]:=Fk hl;rfl))
abbrev tT:Stmt:=bp df 0
abbrev qB:Stmt:=bp df 1
abbrev xf:Stmt:=bp df 2
abbrev tU:Stmt:=bp df 4
abbrev tS:Stmt:=bp df 5
abbrev oe:Stmt:=bp df 6
abbrev qD:Stmt:=bp df 7
abbrev xc:Stmt:=bp df 8
abbrev BL:Stmt:=bp df 9
abbrev qC:Stmt:=bp df 10
def dl (g aA aC:Addr) (s:Int) (aH aT:Addr) (ed pl:Int):List (Str×V):=[("game",.ref g),("awaited",.ref aA),("claims",.ref aC),("s",.int s),("heard",.ref aH),("tossed",.ref aT),("held",.int ed),("places",.int pl)]
section
variable {g aA aC aH aT:Addr} {s ed pl:Int}
theorem iO:(dl g aA aC s aH aT ed pl).lookup ("game":Str)=some (.ref g):=by rfl'
theorem DH:(dl g aA aC s aH aT ed pl).lookup ("awaited":Str)=some (.ref aA):=by rfl'
theorem HC:(dl g aA aC s aH aT ed pl).lookup ("claims":Str)=some (.ref aC):=by rfl'
theorem Hy:(dl g aA aC s aH aT ed pl).lookup ("s":Str)=some (.int s):=by rfl'
theorem HB:(dl g aA aC s aH aT ed pl).lookup ("heard":Str)=some (.ref aH):=by rfl'
theorem yg:(dl g aA aC s aH aT ed pl).lookup ("tossed":Str)=some (.ref aT):=by rfl'
theorem zc:(dl g aA aC s aH aT ed pl).lookup ("held":Str)=some (.int ed):=by rfl'
theorem zb:(dl g aA aC s aH aT ed pl).lookup ("places":Str)=some (.int pl):=by rfl'
theorem oY:(dl g aA aC s aH aT ed pl).lookup ("waits":Str)=none:=by rfl'
theorem dl_n2:(dl g aA aC s aH aT ed pl).lookup ("due":Str)=none:=by rfl'
theorem dl_n4:(dl g aA aC s aH aT ed pl).lookup ("hear":Str)=none:=by rfl'
theorem FV:(dl g aA aC s aH aT ed pl).lookup ("toss":Str)=none:=by rfl'
theorem dl_n6:(dl g aA aC s aH aT ed pl).lookup ("hear_claims":Str)=none:=by rfl'
theorem FU:(dl g aA aC s aH aT ed pl).lookup ("begin_rounds":Str)=none:=by rfl'
theorem dl_n8:(dl g aA aC s aH aT ed pl).lookup ("hear_row":Str)=none:=by rfl'
theorem DG:(dl g aA aC s aH aT ed pl).lookup ("go_on":Str)=none:=by rfl'
theorem HA:(dl g aA aC s aH aT ed pl).lookup ("look_at_trees":Str)=none:=by rfl'
theorem qH {v:Addr}:cu "awaited" (.ref v) (dl g aA aC s aH aT ed pl)=dl g v aC s aH aT ed pl:=by rfl'
theorem FL {v:Addr}:cu "claims" (.ref v) (dl g aA aC s aH aT ed pl)=dl g aA v s aH aT ed pl:=by rfl'
theorem FJ {v:Int}:cu "s" (.int v) (dl g aA aC s aH aT ed pl)=dl g aA aC v aH aT ed pl:=by rfl'
theorem FK {v:Addr}:cu "heard" (.ref v) (dl g aA aC s aH aT ed pl)=dl g aA aC s v aT ed pl:=by rfl'
theorem BU {v:Addr}:cu "tossed" (.ref v) (dl g aA aC s aH aT ed pl)=dl g aA aC s aH v ed pl:=by rfl'
theorem xg {v:Int}:cu "held" (.int v) (dl g aA aC s aH aT ed pl)=dl g aA aC s aH aT v pl:=by rfl'
theorem ue {v:Int}:cu "places" (.int v) (dl g aA aC s aH aT ed pl)=dl g aA aC s aH aT ed v:=by rfl'
theorem cw:(dl g aA aC s aH aT ed pl).length<1000:=by show 8<1000;decide
end
structure DTxt(K:W.Frag)(mg:Str->Option Value)(C:Addr):Prop where
 cl:Cls K C
 nG:NoAttr K C "game"
 nA:NoAttr K C "awaited"
 nC:NoAttr K C "claims"
 nS:NoAttr K C "s"
 nH:NoAttr K C "heard"
 nT:NoAttr K C "tossed"
 nE:NoAttr K C "held"
 nP:NoAttr K C "places"
 mgC:mg "Doubter"=some (.ref C)
structure Db where
 aw:Str×Option Int
 cl:List Int
 s:Int
 he:List Int
 to:List Int
 ed:Int
 pl:Int
def awV(a:Str×Option Int):List V:=match a.2 with
 | none=>[.str a.1]
 | some n=>[.str a.1,.int n]
structure DbR(C:Addr)(H:Hp)(D g:Addr)(z:Db)(dx aA aC aH aT:Addr):Prop where
 hD:H D=some (.ins C dx (dl g aA aC z.s aH aT z.ed z.pl))
 hA:H aA=some (.tup (awV z.aw))
 hC:H aC=some (.tup (z.cl.map V.int))
 hH:H aH=some (.tup (z.he.map V.int))
 hT:H aT=some (.tup (z.to.map V.int))
theorem DbR.same(h:DbR C H D g z dx aA aC aH aT)(s:Same H H'):DbR C H' D g z dx aA aC aH aT:=%[s _ _ h.hD,s _ _ h.hA,s _ _ h.hC,s _ _ h.hH|s _ _ h.hT]
theorem DbR.set{C:Addr}{H:Hp}{D g:Addr}{z:Db}{dx aA aC aH aT C' dx':Addr}{fs:List (Str×V)}(hD:H D=some (.ins C' dx' fs))(hA:H aA=some (.tup (awV z.aw)))(hC:H aC=some (.tup (z.cl.map V.int)))(hH:H aH=some (.tup (z.he.map V.int)))(hT:H aT=some (.tup (z.to.map V.int))) :
 DbR C (upd H D (.ins C dx (dl g aA aC z.s aH aT z.ed z.pl))) D g z dx aA aC aH aT:=by
 erw[aI,6,6,6,6]
 . rw[bh (bn hA hD (by intro z;cases z))];exact hA
 . rw[bh (bn hC hD (by intro z;cases z))];exact hC
 . rw[bh (bn hH hD (by intro z;cases z))];exact hH
 . rw[bh (bn hT hD (by intro z;cases z))];exact hT
def DbAt(C:Addr)(H:Hp)(D g:Addr)(z:Db):Prop:=∃dx aA aC aH aT,DbR C H D g z dx aA aC aH aT
theorem DbAt.same(h:DbAt C H D g z)(s:Same H H'):DbAt C H' D g z:=by
 erw[_,_,_,_,_,r]at h;erw[_,_,_,_,_,r.same s]
def Gm(CG:Addr)(H:Hp)(g:Addr)(ns:List Str)(ts:List Tr)(p:Int):Prop:=∃(a b d:Addr)(tv:List V),GameAt CG H g a b d p/\H a=some (.tup (ns.map V.str))/\H b=some (.tup tv)/\TreesAt H tv ts/\H d=some (.lst ((ns.map (bz ts)).map V.int))
theorem Gm.same(h:Gm CG H g ns ts p)(s:Same H H'):Gm CG H' g ns ts p:=by
 erw[a,b,d,tv,h1,h2,h3,h4,h5]at h;erw[a,b,d,tv,h1.same s,s _ _ h2,s _ _ h3,h4.mono (aX s),s _ _ h5]
theorem Fq (a b:Addr) (p:Int) (d:Addr):(gf a b p d).lookup ("game":Str)=none:=oX _ _ _ _ ⋯ ⋯ ⋯ ⋯
theorem Gm.ne {C:Addr}  {D:Addr}    {dx:Addr} {fs:List (Str×V)} {v:V} (h:Gm CG H g ns ts p) (hD:H D=some (.ins C dx fs)) (hg:fs.lookup ("game":Str)=some v):g≠D:=λz=>by
 erw[a,b,d,tv,%[dx'|e],_]at h;rw[z,hD]at e;cases e;rw[Fq]at hg;cases hg
theorem Gm.but{C:Addr}{D:Addr}{dx:Addr}{fs:List (Str×V)}(h:Gm CG H g ns ts p)(hD:H D=some (.ins C dx fs))(hg:g≠D)(s:SameBut D H H'):Gm CG H' g ns ts p:=by
 erw[a,b,d,tv,%[dx'|e],h2,h3,h4,h5]at h;erw[a,b,d,tv,%[dx'|s _ _ hg e],s _ _ (bn h2 hD (by intro z;cases z)) h2,s _ _ (bn h3 hD (by intro z;cases z)) h3,h4.mono (λc xs hc=>s _ _ (bn hc hD (by intro z;cases z)) hc),s _ _ (bn h5 hD (by intro z;cases z)) h5]
structure GmK(ns:List Str)(ts:List Tr)(p:Int):Prop where
 pr:Pr p
 p2:2<p
 p9:p<=999983
 n10:ns.length<=10
 t1:1<=ts.length
 t10:ts.length<=10
 tok:∀t∈ts,t.ok ns/\t.wf/\t.depth<=10/\t.size<=400
 tp:(ts.length:Int)<=p
 tc:∀t∈ts,∀x∈ns,(t.names.count x:Int)<p
theorem GmK.deg(k:GmK ns ts p):∀x∈ns,0<=bz ts x/\bz ts x<p:=λx hx=>by
 have t0:ts≠[]:=λz=>by have:=k.t1;rw[z]at this;cases this
 erw[6,kj t0 λt ht=>k.tc t ht x hx]
 have:=iL (ns:=ts.map λt=>(t.names.count x:Int)) (by simpa using t0)
 let%[t,_|e]:=List.mem_map.mp this;unfold bz;rw[←e];omega
def szs(ts:List Tr):Int:=(ts.map λt=>(t.size:Int)).sum
def eg(ns:List Str)(ts:List Tr)(p:Int)(z:Db):Db:=
 { z with pl:=z.pl+szs ts,aw:=if z.ed=hor z.s p (ts.map λt=>t.worth ns z.to p)then("believed",none)else("caught",some ((z.to.length:Int)+1)) }
def goOn(ns:List Str)(ts:List Tr)(p:Int)(z:Db):Db:=
 if z.to.length<ns.length then { z with aw:=("hear",some (bz ts (ns.getD z.to.length "")+1)) }else eg ns ts p z
def wn(ns:List Str)(ts:List Tr)(p s:Int)(z:Db):Db:=goOn ns ts p { z with s:=s,ed:=hor s p z.cl }
def iM(ns:List Str)(ts:List Tr)(p:Int)(xs:List Int)(z:Db):Db:=
 if ts.length=1 then wn ns ts p 0 { z with cl:=xs }else { z with cl:=xs,aw:=("coin",none) }
def dB(p:Int)(xs:List Int)(z:Db):Db:=
 { z with he:=xs,aw:=if(val p xs 0+val p xs 1) % p=z.ed then("coin",none)else("caught",some ((z.to.length:Int)+1)) }
def cF(ns:List Str)(ts:List Tr)(p:Int)(xs:List Int)(z:Db):Db:=
 if z.cl=[]then iM ns ts p xs { z with pl:=z.pl+(xs.length:Int) }else dB p xs { z with pl:=z.pl+(xs.length:Int) }
def cZ(ns:List Str)(ts:List Tr)(p r:Int)(z:Db):Db:=
 if z.he=[]then wn ns ts p r { z with pl:=z.pl+1 }else goOn ns ts p { z with pl:=z.pl+1,ed:=val p z.he r,to:=z.to++[r] }
def Db.new (ts:List Tr):Db:=%[("hear",some (ts.length:Int)),[],(0),[],[],(0)|(0)]
inductive spIsNum(vs:List V)(H:Hp)(Q:VK)(u_3:XK):Prop
 |mk:∀n p:Int,vs=[.int n,.int p]->Q (.bl (decide (0<=n)&&decide (n<p))) H->spIsNum vs H Q u_3
theorem tj:FnScope ["value","p"] ["value","p"] (ai jT):=%[1,1,1,4,1,4|4]
theorem ur   (F:Fun K "is_number" "is_number" jT f fd) (B:Bl mg):FnOk P w K mg base CX0 1 f fd ["value","p"] spIsNum:=by
 exists tj
 erw[n,p,1,q]at h;erw[_,(ad (aq (qR (aE dQ rfl B.isinstance PyProof.Rows.boot_isinstance %[0,jv (v:=V.ty "int") rfl B.int gZ rfl|aO]) (qR (Cc (aE dQ rfl B.isinstance PyProof.Rows.boot_isinstance %[0,jv (v:=V.ty "bool") rfl B.bool lJ rfl|aO])) (oo (Cg oN dP ae (pv 0) (pv 1))))))),6];erw[0,_,_,"int",true,1,TyOf.int _,mJ _ _,true,1,ei ?_];erw[0,_,_,"bool",false,1,TyOf.int _,jy _,false,1,true,1,ei ?_];erw[0,2,0,6]
 by_cases c:0<=n
 . rw[decide_eq_true c]at q;refine aS c %[0,2|6];exact q
 . rw[decide_eq_false c]at q;refine aB c ?_;exact q
inductive spAllSz(C:Addr)(vs:List V)(H:Hp)(Q:VK)(u_3:XK):Prop
 |mk:∀(g:Addr)(ns:List Str)(ts:List Tr)(p:Int),vs=[.ref g]->Gm C H g ns ts p->GmK ns ts p->(∀H',Same H H'->Q (.int (szs ts)) H')->spAllSz C vs H Q u_3
theorem tG:FnScope ["game"] ["game"] (ai jZ):=%[1,1,1,4,1,4|4]
theorem Em{ts:List Tr}(h:∀t∈ts,t.size<=400)(hl:ts.length<=10):0<=szs ts/\szs ts<=4000:=by
 have:∀l:List Tr,(∀t∈l,t.size<=400)->0<=szs l/\szs l<=400*(l.length:Int):=λl=>by
  induction l with
  | nil=>intro _;erw[Int.le_refl _,Int.le_refl _]
  | cons t r ih=>
    intro hh;have h1:=ih λu hu=>hh u (qK0 _ hu)
    have h2:=hh t (qC0 ..);have e:szs (t::r)=(t.size:Int)+szs r:=by unfold szs;rw[zZ0,List.sum_cons]
    rw[e,zM0];omega
 have:=this ts h
 omega
theorem uy   (F:Fun K "all_sizes" "all_sizes" jZ f fd) (B:Bl mg) (T:GTxt K mg C) (i3:Cal P w K mg base 12 "size_of" ["tree"] (spSize 10)):FnOk P w K mg base CX0 13 f fd ["game"] (spAllSz C):=by
 exists tG
 erw[g,ns,ts,p,1,%[a,b,d,tv,%[dx|hg],ha,hb,TS|hd],k,q]at h;refine⟨_,(ad (aq (aE (rG rfl) rfl B.sum PyProof.Rows.boot_sum (af (cz (N:=[]) (ix:=[]) (cl:=[]) rfl (CompScope.closed (by rfl') ⋯ rfl ⋯ rfl (by rfl')) rfl
  (ii (ay (pv 0) rfl)) (λ_ _ _=>cG (ag i3 hr ⋯ rfl %[0|aO]))) aO)))),?_⟩
 have vl:=TS.length;erw[0,g,C,dx,_,0,hg,T.cl,T.nT,mN ..,b,1,%[_|zC0 hb],λD hD=>?_];refine gy (K:=K) (xs:=tv) (λi H'=>H' D=some (.lst (((ts.take i).map λt=>(t.size:Int)).map V.int))/\Same H H') %[by rw[aI];rfl|zB0 hD _] (λi H' _ h=>zC0 (h.2 _ _ hb)) ?_ ?_
 . rintro i x H2 hx ⟨hl,S2⟩;let%[u,hu|Tu]:=TS.get hx;let%[_,uw,ud|us]:=k.tok u (qF0 hu);have hi:i<tv.length:=(zW0 hx).1
   have:=k.t10
   erw[0,x,u,1,Tu.mono (aX S2),uw,ud,us,λH3 S3=>?_];erw[_,S3 _ _ hl,6,Nx.of hi %[6|λb o e=>?_]]
   . rw[zE0,zE0,qL0];exact aM #[0]
   . rw[aI,qI0,hu,zK0,zK0];rfl
   . rw[bh (aV e hD)];exact S3 _ _ (S2 _ _ e)
 . rintro H2 ⟨hl,S2⟩;rw[vl,qG0]at hl;have sr:=Em (λt ht=>(k.tok t ht).2.2.2) k.t10;erw[D,0,zG0 hl,6,6,6]
   . intro n hn;let%[u,hu|1]:=List.mem_map.mp hn
     have:=(k.tok u hu).2.2.2
     omega
   . have e:((ts.map λt=>(t.size:Int)).sum)=szs ts:=rfl;rw[e];omega
   . exact q H2 S2
section
variable {C CG:Addr}
inductive spTrees(C CG:Addr)(vs:List V)(H:Hp)(Q:VK)(u_3:XK):Prop
 |mk:∀(D g:Addr)(z:Db)(ns:List Str)(ts:List Tr)(p:Int),vs=[.ref D]->DbAt C H D g z->Gm CG H g ns ts p->GmK ns ts p->z.to.length=ns.length->ci z.to p->(∀H',SameBut D H H'->DbAt C H' D g (eg ns ts p z)->Q .non H')->spTrees C CG vs H Q u_3
theorem zI:FnScope ["self"] ["self"] (ai qC):=%[1,1,1,4,1,4|4]
theorem Ae   (F:Fun K "look_at_trees" "Doubter.look_at_trees" qC f fd) (B:Bl mg) (T:DTxt K mg C) (TG:GTxt K mg CG) (mW:Meth K CG "worth_at" fW) (GW:FnOk P w K mg base CX0 13 fW fdW ["self","point","s"] (spWAt CG)) (bW:Binds K fdW ["self","point","s"] [])
 (lT:Cal P w K mg base 13 "all_sizes" ["game"] (spAllSz CG)):FnOk P w K mg base CX0 14 f fd ["self"] (spTrees C CG):=by
 exists zI
 erw[D,g,z,ns,ts,p,1,%[dx,aA,aC,aH,aT|R],G,k,tl,po,q]at h;have hr13:Room 13 _:=hr;refine⟨_,(aa (aN (pv 0) (ao aQ (ay (pv 0) rfl) (ag lT hr ⋯ rfl %[ay (pv 0) rfl|aO])) rfl)
  (ad (aG (ah aP (ay (pv 0) rfl) (bQ (ay (pv 0) rfl) TG.cl mW GW hr13 bW .nil aY %[ay (pv 0) rfl,ay (pv 0) rfl|aO]) (ax _))
   (ad (aN (pv 0) (aF %[au|aO]) rfl))
   (ad (aN (pv 0) (aF %[au,ao aQ (aE aD rfl B.len PySem.boot_len %[ay (pv 0) rfl|aO]) ae|aO]) rfl))))),?_⟩
 have gD:=G.ne R.hD iO;erw[0,D,C,dx,_,0,R.hD,T.cl,T.nP,zb,0,D,C,dx,_,0,R.hD,T.cl,T.nG,iO,g,ns,ts,p,1,G,k,λH1 S1=>?_];have R1:=R.same S1;erw[2,0,D,C,dx,0,R1.hD,T.cl,T.nP,cw,6];rw[ue];have S2:SameBut D H1 (upd H1 D (.ins C dx (dl g aA aC z.s aH aT z.ed (z.pl+szs ts)))):=SameBut.upd _;have R2:DbR C (upd H1 D (.ins C dx (dl g aA aC z.s aH aT z.ed (z.pl+szs ts)))) D g { z with pl:=z.pl+szs ts } dx aA aC aH aT:=DbR.set (z:={ z with pl:=z.pl+szs ts }) R1.hD R1.hA R1.hC R1.hH R1.hT;have G2:=(G.same S1).but R1.hD gD S2;generalize upd H1 D (.ins C dx (dl g aA aC z.s aH aT z.ed (z.pl+szs ts)))=H2 at S2 R2 G2;have G2':=G2;erw[a,b,d,tv,GA,ha,hb,TS,hd]at G2';erw[dg,hg]at GA;have p2:=k.p2;have p9:=k.p9;erw[0,D,C,dx,_,0,R2.hD,T.cl,T.nE,zc,0,D,C,dx,_,0,R2.hD,T.cl,T.nG,iO,g,dg,0,hg,oX _ _ _ _ ⋯ ⋯ ⋯ ⋯,0,D,C,dx,_,0,R2.hD,T.cl,T.nT,yg,0,D,C,dx,_,0,R2.hD,T.cl,T.nS,Hy,6];erw[g,a,b,d,aT,ns,tv,ts,z.to,z.s,p,1,%[dg|hg],3,3,ha,hb,TS,k.t10,λt ht=>%[(k.tok t ht).1|(k.tok t ht).2.2.1],R2.hT,tl,po,λH3 S3=>?_];have R3:=R2.same S3;have S03:SameBut D H H3:=(zI0 S1).trans (S2.trans (zI0 S3));erw[1,0,6]
 by_cases c:z.ed=hor z.s p (ts.map λt=>t.worth ns z.to p)
 . refine aS (congrArg V.int c) ?_;erw[(by show 1<=sizeLine;decide),λt ht=>?_];have I:=zB0 ht (.tup [.str "believed"]);have R4:=R3.same I;erw[0,D,C,dx,0,R4.hD,T.cl,T.nA,cw,6];rw[qH];have e:eg ns ts p z={ z with pl:=z.pl+szs ts,aw:=("believed",none) }:=by
    unfold eg;rw[zD0 c]
   refine q _ (S03.trans ((zI0 I).trans (SameBut.upd _))) ?_;rw[e];erw[dx,t,aC,aH,aT,DbR.set (z:={ z with pl:=z.pl+szs ts,aw:=("believed",none) }) R4.hD aI R4.hC R4.hH R4.hT]
 . refine aB (λe=>c (V.int.inj e)) ?_;erw[0,D,C,dx,_,0,R3.hD,T.cl,T.nT,yg,aT,0,.inr (zC0 R3.hT),2,(by show 2<=sizeLine;decide),λt ht=>?_];have I:=zB0 ht (.tup [.str "caught",.int (((z.to.map V.int).length:Int)+1)]);have R4:=R3.same I;erw[0,D,C,dx,0,R4.hD,T.cl,T.nA,cw,6];rw[qH];have e:eg ns ts p z={ z with pl:=z.pl+szs ts,aw:=("caught",some ((z.to.length:Int)+1)) }:=by
    unfold eg;rw[zA0 c]
   refine q _ (S03.trans ((zI0 I).trans (SameBut.upd _))) ?_;rw[e];erw[dx,t,aC,aH,aT,DbR.set (z:={ z with pl:=z.pl+szs ts,aw:=("caught",some ((z.to.length:Int)+1)) }) R4.hD ?_ R4.hC R4.hH R4.hT];rw[aI,zE0];rfl
theorem mK{xs:List Int}{j:Nat}(h:j<xs.length):atI (xs.map V.int) (j:Int)=some (.int (xs.getD j 0)):=cD (by rw[zY0,zQ0 h,qP0,zQ0 h];rfl)
theorem Fs {ns:List Str}  {j:Nat} (h:j<ns.length):(ns.map (bz ts)).getD j 0=bz ts (ns.getD j ""):=by
 rw[qP0,zY0,qP0,zQ0 h];rfl
inductive spGo(C CG:Addr)(vs:List V)(H:Hp)(Q:VK)(u_3:XK):Prop
 |mk:∀(D g:Addr)(z:Db)(ns:List Str)(ts:List Tr)(p:Int),vs=[.ref D]->DbAt C H D g z->Gm CG H g ns ts p->GmK ns ts p->z.to.length<=ns.length->ci z.to p->(∀H',SameBut D H H'->DbAt C H' D g (goOn ns ts p z)->Q .non H')->spGo C CG vs H Q u_3
theorem Jj:FnScope ["self","done"] ["self"] (ai BL):=%[1,1,1,4,1,4|4]
theorem GY   (F:Fun K "go_on" "Doubter.go_on" BL f fd) (B:Bl mg) (T:DTxt K mg C) (TG:GTxt K mg CG) (mT:Meth K C "look_at_trees" fT) (GT:FnOk P w K mg base CX0 14 fT fdT ["self"] (spTrees C CG)) (bT:Binds K fdT ["self"] []):FnOk P w K mg base CX0 15 f fd ["self"] (spGo C CG):=by
 exists Jj
 erw[D,g,z,ns,ts,p,1,%[dx,aA,aC,aH,aT|R],G,k,tl,po,q]at h;refine⟨_,(aa #[aj,1,Jj,aE aD rfl B.len PySem.boot_len %[ay (pv 0) rfl|aO]]
  (ad (aG (ah dP (pv 1) (aE aD rfl B.len PySem.boot_len %[ay (ay (pv 0) rfl) rfl|aO]) (ax _))
   (ad (aN (pv 0) (aF %[au,ao aQ (aJ ix_list (ay (ay (pv 0) rfl) rfl) (pv 1) (λ_ _=>rfl)) ae|aO]) rfl))
   (ad (aR (bq (pv 0) T.cl mT GT hr bT .nil aY)))))),?_⟩
 have G':=G;erw[a,b,d,tv,%[dg|hg],ha,hb,TS,hd]at G';erw[0,D,C,dx,_,0,R.hD,T.cl,T.nT,yg,aT,0,.inr (zC0 R.hT),6];erw[0,0,D,C,dx,_,0,R.hD,T.cl,T.nG,iO,g,CG,dg,_,0,hg,TG.cl,TG.nS,oW ..,a,0,.inr (zC0 ha),2,0,6]
 by_cases c:z.to.length<ns.length
 . refine aS (by rw[zE0,zE0];omega) ?_;have ej:((z.to.map V.int).length:Int)=(z.to.length:Int):=by rw[zE0]
   have hx:ns.getD z.to.length ""∈ns:=by
    rw[qP0,zQ0 c];exact qR0 c
   have dr:=k.deg _ hx;erw[0,D,C,dx,_,0,R.hD,T.cl,T.nG,iO,g,CG,dg,_,0,hg,TG.cl,TG.nD,Dv ..,0,d,_,2,zG0 hd,by rw[ej];exact mK (by rw[zE0];exact c),2,(by show 2<=sizeLine;decide),λt ht=>?_];rw[Fs c]at *
   have I:=zB0 ht (.tup [.str "hear",.int (bz ts (ns.getD z.to.length "")+1)]);have R4:=R.same I;erw[0,D,C,dx,0,R4.hD,T.cl,T.nA,cw,6];rw[qH];have e:goOn ns ts p z={ z with aw:=("hear",some (bz ts (ns.getD z.to.length "")+1)) }:=by
    unfold goOn;rw[zD0 c]
   refine q _ ((zI0 I).trans (SameBut.upd _)) ?_;rw[e];erw[dx,t,aC,aH,aT,DbR.set (z:={ z with aw:=("hear",some (bz ts (ns.getD z.to.length "")+1)) }) R4.hD aI R4.hC R4.hH R4.hT]
 . refine aB (by rw[zE0,zE0];omega) ?_;have e:goOn ns ts p z=eg ns ts p z:=by
    unfold goOn;rw[zA0 c]
   rw[e]at q;erw[0,D,dx,0,R.hD,HA,6];erw[D,g,z,ns,ts,p,1,%[dx,aA,aC,aH,aT|R],G,k,3,po,q]
inductive spBeg(C CG:Addr)(vs:List V)(H:Hp)(Q:VK)(u_3:XK):Prop
 |mk:∀(D g:Addr)(z:Db)(s:Int)(ns:List Str)(ts:List Tr)(p:Int),vs=[.ref D,.int s]->DbAt C H D g z->Gm CG H g ns ts p->GmK ns ts p->z.to.length<=ns.length->ci z.to p->(∀H',SameBut D H H'->DbAt C H' D g (wn ns ts p s z)->Q .non H')->spBeg C CG vs H Q u_3
theorem zJ:FnScope ["self","s"] ["self","s"] (ai qD):=%[1,1,1,4,1,4|4]
theorem Af   (F:Fun K "begin_rounds" "Doubter.begin_rounds" qD f fd) (T:DTxt K mg C) (TG:GTxt K mg CG) (mM:Meth K CG "mix" fM) (GM:FnOk P w K mg base CX0 1 fM fdM ["self","numbers","s"] (spMix CG)) (bM:Binds K fdM ["self","numbers","s"] [])
 (mG:Meth K C "go_on" fG) (GG:FnOk P w K mg base CX0 15 fG fdG ["self"] (spGo C CG)) (bG:Binds K fdG ["self"] []):FnOk P w K mg base CX0 16 f fd ["self","s"] (spBeg C CG):=by
 exists zJ
 erw[D,g,z,s,ns,ts,p,1,%[dx,aA,aC,aH,aT|R],G,k,tl,po,q]at h;have hr1:Room 1 _:=hr.mono ⋯;refine⟨_,(aa (aN (pv 0) (pv 1) rfl)
  (aa (aN (pv 0) (bQ (ay (pv 0) rfl) TG.cl mM GM hr1 bM .nil aY %[ay (pv 0) rfl,1|aO]) rfl)
  (ad (aR (bq (pv 0) T.cl mG GG hr bG .nil aY))))),?_⟩
 have gD:=G.ne R.hD iO;have p2:=k.p2;have p9:=k.p9;erw[0,0,D,C,dx,0,R.hD,T.cl,T.nS,cw,6];rw[FJ];have S1:SameBut D H (upd H D (.ins C dx (dl g aA aC s aH aT z.ed z.pl))):=SameBut.upd _;have R1:DbR C (upd H D (.ins C dx (dl g aA aC s aH aT z.ed z.pl))) D g { z with s:=s } dx aA aC aH aT:=DbR.set (z:={ z with s:=s }) R.hD R.hA R.hC R.hH R.hT;have G1:=G.but R.hD gD S1;generalize upd H D (.ins C dx (dl g aA aC s aH aT z.ed z.pl))=H1 at S1 R1 G1;have G1':=G1;erw[a,b,d,tv,%[dg|hg],ha,hb,TS,hd]at G1';erw[0,D,C,dx,_,0,R1.hD,T.cl,T.nG,iO,g,dg,0,hg,oX _ _ _ _ ⋯ ⋯ ⋯ ⋯,0,D,C,dx,_,0,R1.hD,T.cl,T.nC,HC,0,6];erw[g,a,b,d,aC,z.cl,s,p,1,%[dg|hg],3,3,.inr R1.hC,6];erw[0,D,C,dx,0,R1.hD,T.cl,T.nE,cw,6];rw[xg];have S2:SameBut D H1 (upd H1 D (.ins C dx (dl g aA aC s aH aT (hor s p z.cl) z.pl))):=SameBut.upd _;have R2:DbR C (upd H1 D (.ins C dx (dl g aA aC s aH aT (hor s p z.cl) z.pl))) D g { z with s:=s,ed:=hor s p z.cl } dx aA aC aH aT:=DbR.set (z:={ z with s:=s,ed:=hor s p z.cl }) R1.hD R1.hA R1.hC R1.hH R1.hT;have G2:=G1.but R1.hD gD S2;generalize upd H1 D (.ins C dx (dl g aA aC s aH aT (hor s p z.cl) z.pl))=H2 at S2 R2 G2;erw[0,D,dx,0,R2.hD,DG,6];erw[D,g,_,ns,ts,p,1,%[dx,aA,aC,aH,aT|R2],G2,k,tl,po,λH3 S3 D3=>q H3 (S1.trans (S2.trans S3)) D3]
inductive spClaims(C CG:Addr)(vs:List V)(H:Hp)(Q:VK)(u_3:XK):Prop
 |mk:∀(D g l:Addr)(z:Db)(xs:List Int)(ns:List Str)(ts:List Tr)(p:Int),vs=[.ref D,.ref l]->DbAt C H D g z->Gm CG H g ns ts p->GmK ns ts p->H l=some (.tup (xs.map V.int))->z.to.length<=ns.length->ci z.to p->(∀H',SameBut D H H'->DbAt C H' D g (iM ns ts p xs z)->Q .non H')->spClaims C CG vs H Q u_3
theorem wW:FnScope ["self","values"] ["self","values"] (ai oe):=%[1,1,1,4,1,4|4]
theorem xE   (F:Fun K "hear_claims" "Doubter.hear_claims" oe f fd) (B:Bl mg) (T:DTxt K mg C) (TG:GTxt K mg CG) (mB:Meth K C "begin_rounds" fB) (GB:FnOk P w K mg base CX0 16 fB fdB ["self","s"] (spBeg C CG)) (bB:Binds K fdB ["self","s"] []):FnOk P w K mg base CX0 17 f fd ["self","values"] (spClaims C CG):=by
 exists wW
 erw[D,g,l,z,xs,ns,ts,p,1,%[dx,aA,aC,aH,aT|R],G,k,hl,tl,po,q]at h;refine⟨_,(aa (aN (pv 0) (pv 1) rfl)
  (ad (aG (ah aP (aE aD rfl B.len PySem.boot_len %[ay (ay (pv 0) rfl) rfl|aO]) ae (ax _))
   (ad (aR (bQ (pv 0) T.cl mB GB hr bB .nil aY %[ae|aO])))
   (ad (aN (pv 0) (aF %[au|aO]) rfl))))),?_⟩
 have gD:=G.ne R.hD iO;erw[0,0,D,C,dx,0,R.hD,T.cl,T.nC,cw,6];rw[FL];have S1:SameBut D H (upd H D (.ins C dx (dl g aA l z.s aH aT z.ed z.pl))):=SameBut.upd _;have R1:DbR C (upd H D (.ins C dx (dl g aA l z.s aH aT z.ed z.pl))) D g { z with cl:=xs } dx aA l aH aT:=DbR.set (z:={ z with cl:=xs }) R.hD R.hA hl R.hH R.hT;have G1:=G.but R.hD gD S1;generalize upd H D (.ins C dx (dl g aA l z.s aH aT z.ed z.pl))=H1 at S1 R1 G1;have G1':=G1;erw[a,b,d,tv,%[dg|hg],ha,hb,TS,hd]at G1';have vl:=TS.length;erw[0,D,C,dx,_,0,R1.hD,T.cl,T.nG,iO,g,CG,dg,_,0,hg,TG.cl,TG.nT,mN ..,b,0,.inr (zC0 hb),1,0,6]
 by_cases c:ts.length=1
 . refine aS (congrArg V.int #[0]) ?_;have e:iM ns ts p xs z=wn ns ts p 0 { z with cl:=xs }:=by
    unfold iM;rw[zD0 c]
   rw[e]at q;erw[0,D,dx,0,R1.hD,FU,6];erw[D,g,_,(0),ns,ts,p,1,%[dx,aA,l,aH,aT|R1],G1,k,tl,po,λH3 S3 D3=>q H3 (S1.trans S3) D3]
 . refine aB (λe=>c (by have:=V.int.inj e;omega)) ?_;have e:iM ns ts p xs z={ z with cl:=xs,aw:=("coin",none) }:=by
    unfold iM;rw[zA0 c]
   erw[(by show 1<=sizeLine;decide),λt ht=>?_];have I:=zB0 ht (.tup [.str "coin"]);have R4:=R1.same I;erw[0,D,C,dx,0,R4.hD,T.cl,T.nA,cw,6];rw[qH];refine q _ (S1.trans ((zI0 I).trans (SameBut.upd _))) ?_;rw[e];erw[dx,t,l,aH,aT,DbR.set (z:={ z with cl:=xs,aw:=("coin",none) }) R4.hD aI R4.hC R4.hH R4.hT]
inductive spHRow(C CG:Addr)(vs:List V)(H:Hp)(Q:VK)(u_3:XK):Prop
 |mk:∀(D g l:Addr)(z:Db)(xs:List Int)(ns:List Str)(ts:List Tr)(p:Int),vs=[.ref D,.ref l]->DbAt C H D g z->Gm CG H g ns ts p->GmK ns ts p->H l=some (.tup (xs.map V.int))->li xs p->(∀H',SameBut D H H'->DbAt C H' D g (dB p xs z)->Q .non H')->spHRow C CG vs H Q u_3
theorem Ex:FnScope ["self","values"] ["self","values"] (ai xc):=%[1,1,1,4,1,4|4]
theorem ER   (F:Fun K "hear_row" "Doubter.hear_row" xc f fd) (B:Bl mg) (T:DTxt K mg C) (TG:GTxt K mg CG) (lU:Cal P w K mg base 5 "both_ends" ["values","p"] spEnds):FnOk P w K mg base CX0 6 f fd ["self","values"] (spHRow C CG):=by
 exists Ex
 erw[D,g,l,z,xs,ns,ts,p,1,%[dx,aA,aC,aH,aT|R],G,k,hl,ro,q]at h;refine⟨_,(aa (aN (pv 0) (pv 1) rfl)
  (ad (aG (ah aP (ag lU hr ⋯ rfl %[1,ay (ay (pv 0) rfl) rfl|aO]) (ay (pv 0) rfl) (ax _))
   (ad (aN (pv 0) (aF %[au|aO]) rfl))
   (ad (aN (pv 0) (aF %[au,ao aQ (aE aD rfl B.len PySem.boot_len %[ay (pv 0) rfl|aO]) ae|aO]) rfl))))),?_⟩
 have gD:=G.ne R.hD iO;erw[0,0,D,C,dx,0,R.hD,T.cl,T.nH,cw,6];rw[FK];have S1:SameBut D H (upd H D (.ins C dx (dl g aA aC z.s l aT z.ed z.pl))):=SameBut.upd _;have R1:DbR C (upd H D (.ins C dx (dl g aA aC z.s l aT z.ed z.pl))) D g { z with he:=xs } dx aA aC l aT:=DbR.set (z:={ z with he:=xs }) R.hD R.hA R.hC hl R.hT;have G1:=G.but R.hD gD S1;generalize upd H D (.ins C dx (dl g aA aC z.s l aT z.ed z.pl))=H1 at S1 R1 G1;have G1':=G1;erw[a,b,d,tv,%[dg|hg],ha,hb,TS,hd]at G1';erw[0,0,D,C,dx,_,0,R1.hD,T.cl,T.nG,iO,g,CG,dg,_,0,hg,TG.cl,TG.nF,gN ..,l,xs,p,1,.inr R1.hH,ro,k.pr,k.p9,λH2 S2=>?_];have R2:=R1.same S2;erw[0,D,C,dx,_,0,R2.hD,T.cl,T.nE,zc,1,0,6];have S02:SameBut D H H2:=S1.trans (zI0 S2)
 by_cases c:(val p xs 0+val p xs 1) % p=z.ed
 . refine aS (congrArg V.int c) ?_;have e:dB p xs z={ z with he:=xs,aw:=("coin",none) }:=by
    unfold dB;rw[zD0 c]
   erw[(by show 1<=sizeLine;decide),λt ht=>?_];have I:=zB0 ht (.tup [.str "coin"]);have R4:=R2.same I;erw[0,D,C,dx,0,R4.hD,T.cl,T.nA,cw,6];rw[qH];refine q _ (S02.trans ((zI0 I).trans (SameBut.upd _))) ?_;rw[e];erw[dx,t,aC,l,aT,DbR.set (z:={ z with he:=xs,aw:=("coin",none) }) R4.hD aI R4.hC R4.hH R4.hT]
 . refine aB (λe=>c (V.int.inj e)) ?_;have e:dB p xs z={ z with he:=xs,aw:=("caught",some ((z.to.length:Int)+1)) }:=by
    unfold dB;rw[zA0 c]
   erw[0,D,C,dx,_,0,R2.hD,T.cl,T.nT,yg,aT,0,.inr (zC0 R2.hT),2,(by show 2<=sizeLine;decide),λt ht=>?_];have I:=zB0 ht (.tup [.str "caught",.int (((z.to.map V.int).length:Int)+1)]);have R4:=R2.same I;erw[0,D,C,dx,0,R4.hD,T.cl,T.nA,cw,6];rw[qH];refine q _ (S02.trans ((zI0 I).trans (SameBut.upd _))) ?_;rw[e];erw[dx,t,aC,l,aT,DbR.set (z:={ z with he:=xs,aw:=("caught",some ((z.to.length:Int)+1)) }) R4.hD ?_ R4.hC R4.hH R4.hT];rw[aI,zE0];rfl
end
section
variable {C CG:Addr}
theorem kD{K:W.Frag}{H:Hp}{a:Addr}{xs:List Int}(h:H a=some (.tup (xs.map V.int))):Rep K H (.ref a) (.tuple (xs.map PyData.int)):=.tup (zC0 h) (qF xs)
theorem za(xs:List Int):PyData.eqv (.tuple (xs.map PyData.int)) (.tuple [])=decide (xs=[]):=by
 cases xs with
 | nil=>rfl
 | cons a r=>rfl
theorem kx(ns:List Int):SeqAt.shaped (.tuple (ns.map PyData.int))=true:=by
 simp [SeqAt.shaped,PyData.canLay0,PyData.depth,W.ke_canLayAll0,W.ke_depthAll]
inductive spHear(C CG:Addr)(vs:List V)(H:Hp)(Q:VK)(u_3:XK):Prop
 |mk:∀(D g l:Addr) (z:Db) (xs:List Int) (ns:List Str) (ts:List Tr) (p:Int),vs=[.ref D,.ref l]->DbAt C H D g z->Gm CG H g ns ts p->GmK ns ts p->H l=some (.lst (xs.map V.int))->z.aw=(("hear":Str),some (xs.length:Int))->ci xs p->xs.length<=500->(z.cl≠[]->li xs p)->z.to.length<=ns.length->ci z.to p->(∀H',SameBut D H H'->DbAt C H' D g (cF ns ts p xs z)->Q .non H')->spHear C CG vs H Q u_3
theorem BI:FnScope ["self","values"] ["self","values"] (ai tU):=%[1,1,1,4,1,4|4]
theorem CB   (F:Fun K "hear" "Doubter.hear" tU f fd) (B:Bl mg) (T:DTxt K mg C) (TG:GTxt K mg CG) (fk:Cal P w K mg base 1 "is_number" ["value","p"] spIsNum)
 (mC:Meth K C "hear_claims" fC) (GC:FnOk P w K mg base CX0 17 fC fdC ["self","values"] (spClaims C CG)) (bC:Binds K fdC ["self","values"] [])
 (mR:Meth K C "hear_row" fR) (GR:FnOk P w K mg base CX0 6 fR fdR ["self","values"] (spHRow C CG)) (bR:Binds K fdR ["self","values"] []):FnOk P w K mg base CX0 18 f fd ["self","values"] (spHear C CG):=by
 exists BI
 erw[D,g,l,z,xs,ns,ts,p,1,%[dx,aA,aC,aH,aT|R],G,k,hl,ea,xo,xl,ro,tl,po,q]at h;have hr6:Room 6 _:=hr.mono ⋯;refine⟨_,(aa (aG (ah mr (aJ ix_tup (ay (pv 0) rfl) ae (λ_ _=>rfl)) au (ax _)) bw az)
  (aa (aG (ah mr (aE aD rfl B.len PySem.boot_len %[1|aO]) (aJ ix_tup (ay (pv 0) rfl) ae (λ_ _=>rfl)) (ax _)) bw az)
  (aa (aG (gI (dN (aE (rH rfl) rfl B.all PyProof.Rows.boot_all (af (cz (N:=["self"]) (ix:=[0]) rfl
   (CompScope.one (by rfl') ⋯ rfl ⋯ rfl ⋯ (by rfl') (by rfl') (by rfl') rfl rfl) rfl
   (eQ (pv 1)) (λ_ _ _=>cG (ag fk hr ⋯ rfl %[0,kG K (kG K (pv 1))|aO]))) aO)))) bw az)
  (aa (aN (pv 0) (ao aQ (ay (pv 0) rfl) (aE aD rfl B.len PySem.boot_len %[1|aO])) rfl)
  (ad (aG (ah (ui hr.units) (ay (pv 0) rfl) (aF aO) (ax _))
   (ad (aR (bQ (pv 0) T.cl mC GC hr bC .nil aY %[bi ba rfl B.tuple bd %[1|aO]|aO])))
   (ad (aR (bQ (pv 0) T.cl mR GR hr6 bR .nil aY %[bi ba rfl B.tuple bd %[1|aO]|aO]))))))))),?_⟩
 have gD:=G.ne R.hD iO;have hA:=R.hA;rw[ea]at hA;have hA:H aA=some (.tup [.str "hear",.int (xs.length:Int)]):=hA;erw[0,D,C,dx,_,0,R.hD,T.cl,T.nA,DH,aA,_,2,zC0 hA,cD (j:=0) rfl,1,0,6];refine vR rfl ?_;erw[0,l,0,.inl (zG0 hl),0,D,C,dx,_,0,R.hD,T.cl,T.nA,DH,aA,_,2,zC0 hA,cD (j:=1) rfl,1,0,6];refine vR (by rw[zE0]) ?_;have G':=G;erw[a,b,d,tv,%[dg|hg],ha,hb,TS,hd]at G';erw[0,l,1,%[_|zG0 hl],λW hW=>?_];refine gY (K:=K) (xs:=xs.map V.int) (λi H'=>H' W=some (.lst ((List.replicate i true).map V.bl))/\Same H H') %[by rw[aI];rfl|zB0 hW _] (λi H' _ h=>zG0 (h.2 _ _ hl)) ?_ ?_
 . rintro i v H2 hv ⟨hW2,S2⟩;have hi:=(zW0 hv).1;rw[zY0]at hv;let%[n,hn|1]:=qV0 hv;have nr:=xo n (qF0 hn);erw[0,0,D,C,dx,_,0,S2 _ _ R.hD,T.cl,T.nG,iO,g,CG,dg,_,0,S2 _ _ hg,TG.cl,TG.nF,gN ..,n,p,1,6];rw[decide_eq_true nr.1,decide_eq_true nr.2];erw[_,hW2,6,Nx.of hi %[6|λb o e=>?_]]
   . rw[zE0,List.length_replicate];rw[zE0]at hi;exact aM #[0]
   . rw[aI,List.replicate_succ',zK0];rfl
   . rw[bh (aV e hW)];exact S2 _ _ e
 rintro H1 ⟨hW1,S1⟩;erw[W,0,zG0 hW1,6];have ea:(List.replicate (xs.map V.int).length true).all id=true:=by simp
 rw [ea];erw[0,6];refine cW ?_;have R1:=R.same S1;have G1:=G.same S1;erw[0,D,C,dx,_,0,R1.hD,T.cl,T.nP,zb,0,l,0,.inl (zG0 (S1 _ _ hl)),2,0,D,C,dx,0,R1.hD,T.cl,T.nP,cw,6];rw[ue,zE0];have S2:SameBut D H1 (upd H1 D (.ins C dx (dl g aA aC z.s aH aT z.ed (z.pl+(xs.length:Int))))):=SameBut.upd _;have R2:DbR C (upd H1 D (.ins C dx (dl g aA aC z.s aH aT z.ed (z.pl+(xs.length:Int))))) D g { z with pl:=z.pl+(xs.length:Int) } dx aA aC aH aT:=DbR.set (z:={ z with pl:=z.pl+(xs.length:Int) }) R1.hD R1.hA R1.hC R1.hH R1.hT;have G2:=G1.but R1.hD gD S2;have hl2:upd H1 D (.ins C dx (dl g aA aC z.s aH aT z.ed (z.pl+(xs.length:Int)))) l=some (.lst (xs.map V.int)):=by
  rw[bh (bn hl R.hD (by intro z;cases z))];exact S1 _ _ hl
 generalize upd H1 D (.ins C dx (dl g aA aC z.s aH aT z.ed (z.pl+(xs.length:Int))))=H2 at S2 R2 G2 hl2;erw[0,D,C,dx,_,0,R2.hD,T.cl,T.nC,HC,(by show 0<=sizeLine;decide),λu hu=>?_];have I:=zB0 hu (.tup []);have R3:=R2.same I;have hu3:upd H2 u (.tup []) u=some (.tup []):=aI;have hl3:=I _ _ hl2;have G3:=G2.same I;generalize upd H2 u (.tup [])=H3 at I R3 hu3 hl3 G3;have S03:SameBut D H H3:=(zI0 S1).trans (S2.trans (zI0 I));erw[_,_,kD R3.hC,kD (xs:=[]) hu3,kx _,kx [],0,6];rw[show PyData.eqv (.tuple (z.cl.map PyData.int)) (.tuple (([]:List Int).map PyData.int))=decide (z.cl=[])from za z.cl]
 by_cases c:z.cl=[]
 . refine aS c ?_;have e:cF ns ts p xs z=iM ns ts p xs { z with pl:=z.pl+(xs.length:Int) }:=by
    unfold cF;rw[zD0 c]
   rw[e]at q;erw[0,D,dx,0,R3.hD,dl_n6,6];erw[0,l,0,.inl %[zG0 hl3|λt ht=>?_]];have J:=zB0 ht (.tup (xs.map V.int));erw[D,g,t,_,xs,ns,ts,p,1,%[dx,aA,aC,aH,aT|R3.same J],G3.same J,k,aI,tl,po,λH5 S5 D5=>q H5 (S03.trans ((zI0 J).trans S5)) D5]
 . refine aB c ?_;have e:cF ns ts p xs z=dB p xs { z with pl:=z.pl+(xs.length:Int) }:=by
    unfold cF;rw[zA0 c]
   rw[e]at q;erw[0,D,dx,0,R3.hD,dl_n8,6];erw[0,l,0,.inl %[zG0 hl3|λt ht=>?_]];have J:=zB0 ht (.tup (xs.map V.int));erw[D,g,t,_,xs,ns,ts,p,1,%[dx,aA,aC,aH,aT|R3.same J],G3.same J,k,aI,ro c,λH5 S5 D5=>q H5 (S03.trans ((zI0 J).trans S5)) D5]
inductive spToss(C CG:Addr)(vs:List V)(H:Hp)(Q:VK)(u_3:XK):Prop
 |mk:∀(D g:Addr) (z:Db) (r:Int) (ns:List Str) (ts:List Tr) (p:Int),vs=[.ref D,.int r]->DbAt C H D g z->Gm CG H g ns ts p->GmK ns ts p->z.aw.1="coin"->0<=r->r<p->z.to.length<=ns.length->(z.he≠[]->li z.he p/\z.to.length<ns.length)->ci z.to p->(∀H',SameBut D H H'->DbAt C H' D g (cZ ns ts p r z)->Q .non H')->spToss C CG vs H Q u_3
theorem BG:FnScope ["self","r"] ["self","r"] (ai tS):=%[1,1,1,4,1,4|4]
theorem FX(a:Str×Option Int):(awV a)[0]?=some (.str a.1):=by
 unfold awV
 split <;> rfl
inductive rCatA(K:W.Frag)(x:V)(y:V)(H:Hp)(Q:VK):Prop
 |mk:∀a b xs ys,x=.ref a->y=.ref b->SqT K H a xs->SqT K H b ys->ys≠[]->xs.length+ys.length<=sizeLine->(xs=[]->Q (.ref b) H)->(xs≠[]->∀p,H p=none->Q (.ref p) (upd H p (.tup (xs++ys))))->rCatA K x y H Q
theorem EK:OpR X (binaryOp .Add) (rCatA X.K):=by
 intro pins s σ H x y v u Q I rx ry h;erw[a,b,xs,ys,ex,ey,ha,hb,hy,hz,q1,q2]at h
 by_cases c:xs=[]
 . subst c;exact ms pins s σ H x y v u Q I rx ry %[a,b,ys,ex,ey,ha,hb|q1 rfl]
 . exact op_catT pins s σ H x y v u Q I rx ry %[a,b,xs,ys,ex,ey,ha,hb,c,hz,λz=>absurd z hy|λ_=>q2 c]
theorem Cy   (F:Fun K "toss" "Doubter.toss" tS f fd) (B:Bl mg) (T:DTxt K mg C) (TG:GTxt K mg CG) (fk:Cal P w K mg base 1 "is_number" ["value","p"] spIsNum) (cx:Cal P w K mg base 4 "value_at" ["values","r","p"] spVal)
 (mB:Meth K C "begin_rounds" fB) (GB:FnOk P w K mg base CX0 16 fB fdB ["self","s"] (spBeg C CG)) (bB:Binds K fdB ["self","s"] [])
 (mG:Meth K C "go_on" fG) (GG:FnOk P w K mg base CX0 15 fG fdG ["self"] (spGo C CG)) (bG:Binds K fdG ["self"] []):FnOk P w K mg base CX0 17 f fd ["self","r"] (spToss C CG):=by
 exists BG
 erw[D,g,z,r,ns,ts,p,1,%[dx,aA,aC,aH,aT|R],G,k,ea,r0,r1,tl,ro,po,q]at h;have hr15:Room 15 _:=hr.mono ⋯;refine⟨_,(aa (aG (ah mr (aJ ix_tup (ay (pv 0) rfl) ae (λ_ _=>rfl)) au (ax _)) bw az)
  (aa (aG (gI (dN (ag fk hr ⋯ rfl %[1,ay (ay (pv 0) rfl) rfl|aO]))) bw az)
  (aa (aN (pv 0) (ao aQ (ay (pv 0) rfl) ae) rfl)
  (ad (aG (ah (ui hr.units) (ay (pv 0) rfl) (aF aO) (ax _))
   (ad (aR (bQ (pv 0) T.cl mB GB hr bB .nil aY %[1|aO])))
   (aa (aN (pv 0) (ag cx hr ⋯ rfl %[ay (pv 0) rfl,1,ay (ay (pv 0) rfl) rfl|aO]) rfl)
   (aa (aN (pv 0) (ao EK (ay (pv 0) rfl) (aF %[1|aO])) rfl)
   (ad (aR (bq (pv 0) T.cl mG GG hr15 bG .nil aY)))))))))),?_⟩
 have gD:=G.ne R.hD iO;have G':=G;erw[a,b,d,tv,%[dg|hg],ha,hb,TS,hd]at G';erw[0,D,C,dx,_,0,R.hD,T.cl,T.nA,DH,aA,_,2,zC0 R.hA,cD (j:=0) (FX _),1,0,6];refine vR (congrArg V.str ea) ?_;erw[0,0,D,C,dx,_,0,R.hD,T.cl,T.nG,iO,g,CG,dg,_,0,hg,TG.cl,TG.nF,gN ..,r,p,1,6];rw[decide_eq_true r0,decide_eq_true r1];erw[0,6];refine cW ?_;erw[0,D,C,dx,_,0,R.hD,T.cl,T.nP,zb,2,0,D,C,dx,0,R.hD,T.cl,T.nP,cw,6];rw[ue];have S2:SameBut D H (upd H D (.ins C dx (dl g aA aC z.s aH aT z.ed (z.pl+1)))):=SameBut.upd _;have R2:DbR C (upd H D (.ins C dx (dl g aA aC z.s aH aT z.ed (z.pl+1)))) D g { z with pl:=z.pl+1 } dx aA aC aH aT:=DbR.set (z:={ z with pl:=z.pl+1 }) R.hD R.hA R.hC R.hH R.hT;have G2:=G.but R.hD gD S2;generalize upd H D (.ins C dx (dl g aA aC z.s aH aT z.ed (z.pl+1)))=H2 at S2 R2 G2;erw[0,D,C,dx,_,0,R2.hD,T.cl,T.nH,HB,(by show 0<=sizeLine;decide),λu hu=>?_];have I:=zB0 hu (.tup []);have R3:=R2.same I;have hu3:upd H2 u (.tup []) u=some (.tup []):=aI;have G3:=G2.same I;generalize upd H2 u (.tup [])=H3 at I R3 hu3 G3;have S03:SameBut D H H3:=S2.trans (zI0 I);erw[_,_,kD R3.hH,kD (xs:=[]) hu3,kx _,kx [],0,6];rw[show PyData.eqv (.tuple (z.he.map PyData.int)) (.tuple (([]:List Int).map PyData.int))=decide (z.he=[])from za z.he]
 by_cases c:z.he=[]
 . refine aS c ?_;have e:cZ ns ts p r z=wn ns ts p r { z with pl:=z.pl+1 }:=by
    unfold cZ;rw[zD0 c]
   rw[e]at q;erw[0,D,dx,0,R3.hD,FU,0,6];erw[D,g,_,r,ns,ts,p,1,%[dx,aA,aC,aH,aT|R3],G3,k,tl,po,λH5 S5 D5=>q H5 (S03.trans S5) D5]
 . refine aB c ?_;let%[rok|tl']:=ro c;have e:cZ ns ts p r z=goOn ns ts p { z with pl:=z.pl+1,ed:=val p z.he r,to:=z.to++[r] }:=by
    unfold cZ;rw[zA0 c]
   rw [e]at q;have G3':=G3;erw[a3,b3,d3,tv3,%[dg3|hg3],_]at G3';erw[0,D,C,dx,_,0,R3.hD,T.cl,T.nH,HB,0,0,D,C,dx,_,0,R3.hD,T.cl,T.nG,iO,g,CG,dg3,_,0,hg3,TG.cl,TG.nF,gN ..,aH,z.he,r,p,1,.inr R3.hH,rok,k.pr,k.p9,r0,r1,λH4 S4=>?_];have R4:=R3.same S4;have G4:=G3.same S4;erw[0,D,C,dx,0,R4.hD,T.cl,T.nE,cw,6];rw[xg];have S5:SameBut D H4 (upd H4 D (.ins C dx (dl g aA aC z.s aH aT (val p z.he r) (z.pl+1)))):=SameBut.upd _;have R5:DbR C (upd H4 D (.ins C dx (dl g aA aC z.s aH aT (val p z.he r) (z.pl+1)))) D g { z with pl:=z.pl+1,ed:=val p z.he r } dx aA aC aH aT:=DbR.set (z:={ z with pl:=z.pl+1,ed:=val p z.he r }) R4.hD R4.hA R4.hC R4.hH R4.hT;have G5:=G4.but R4.hD gD S5;generalize upd H4 D (.ins C dx (dl g aA aC z.s aH aT (val p z.he r) (z.pl+1)))=H5 at S5 R5 G5;have S05:SameBut D H H5:=S03.trans ((zI0 S4).trans S5);erw[0,D,C,dx,_,0,R5.hD,T.cl,T.nT,yg,0,(by show 1<=sizeLine;decide),λt ht=>?_];have J:=zB0 ht (.tup [.int r]);have R6:=R5.same J;have G6:=G5.same J;have ht6:upd H5 t (.tup [.int r]) t=some (.tup [.int r]):=aI;generalize upd H5 t (.tup [.int r])=H6 at J R6 G6 ht6;have n10:=k.n10;have fin:∀(x:Addr)(H7:Hp),Same H6 H7->H7 x=some (.tup ((z.to++[r]).map V.int))->(ps_fin:True)->∀QQ:Hp->Prop,(∀H8,SameBut D H7 H8->DbR C H8 D g { z with pl:=z.pl+1,ed:=val p z.he r,to:=z.to++[r] } dx aA aC aH x->Gm CG H8 g ns ts p->QQ H8)->QQ (upd H7 D (.ins C dx (dl g aA aC z.s aH x (val p z.he r) (z.pl+1)))):=by
    intro x H7 s7 hx _ QQ hq;have R7:=R6.same s7;exact hq _ (SameBut.upd _) (DbR.set (z:={ z with pl:=z.pl+1,ed:=val p z.he r,to:=z.to++[r] }) R7.hD R7.hA R7.hC R7.hH hx) ((G6.same s7).but R7.hD gD (SameBut.upd _))
   have po2:ci (z.to++[r]) p:=λx hx=>by
    rcases qH0 hx with h | h
    . exact po x h
    . rw[zN0 h];erw[r0,r1]
   have tl2:(z.to++[r]).length<=ns.length:=by
    rw[zJ0,qM0];omega
   have S06:SameBut D H H6:=S05.trans (zI0 J);erw[aT,t,2,zC0 R6.hT,zC0 ht6,(λz=>by cases z),ca (by rw[zE0];show z.to.length+1<=1000;omega),λz0=>?_,λz0 p7 hp7=>?_]
   . have e0:z.to=[]:=by simpa using z0
     erw[0,D,C,dx,0,R6.hD,T.cl,T.nT,cw,6];rw[BU];refine fin t H6 (Same.refl _) (by rw[e0];exact ht6) trivial _ λH8 S8 R8 G8=>?_
     erw[0,D,dx,0,R8.hD,DG,6];erw[D,g,_,ns,ts,p,1,%[dx,aA,aC,aH,t|R8],G8,k,tl2,po2,λH9 S9 D9=>q H9 (S06.trans (S8.trans S9)) D9]
   . have L:=zB0 hp7 (.tup (z.to.map V.int++[.int r]));have R7:=R6.same L;erw[0,D,C,dx,0,R7.hD,T.cl,T.nT,cw,6];rw[BU];refine fin p7 _ L (by rw[aI,zK0];rfl) trivial _ λH8 S8 R8 G8=>?_
     erw[0,D,dx,0,R8.hD,DG,6];erw[D,g,_,ns,ts,p,1,%[dx,aA,aC,aH,p7|R8],G8,k,tl2,po2,λH9 S9 D9=>q H9 (S06.trans ((zI0 L).trans (S8.trans S9))) D9]
inductive spDInit(C CG:Addr)(vs:List V)(H:Hp)(Q:VK)(u_3:XK):Prop
 |mk:∀(D g dx:Addr)(ns:List Str)(ts:List Tr)(p:Int),vs=[.ref D,.ref g]->H D=some (.ins C dx [])->Gm CG H g ns ts p->g≠D->(∀H',SameBut D H H'->DbAt C H' D g (Db.new ts)->Q .non H')->spDInit C CG vs H Q u_3
theorem BH:FnScope ["self","game"] ["self","game"] (ai tT):=%[1,1,1,4,1,4|4]
inductive spOf(C:Addr)(t:Db->V->Hp->Prop)(vs:List V)(H:Hp)(Q:VK)(u_3:XK):Prop
 |mk:∀(D g:Addr)(z:Db),vs=[.ref D]->DbAt C H D g z->(∀v,t z v H->Q v H)->spOf C t vs H Q u_3
theorem Ey:FnScope ["self"] ["self"] (ai xf):=%[1,1,1,4,1,4|4]
theorem ES   (F:Fun K "due" "Doubter.due" xf f fd) (T:DTxt K mg C):FnOk P w K mg base CX0 1 f fd ["self"] (spOf C λz v _=>v=.int z.ed):=by
 exists Ey
 erw[D,g,z,1,%[dx,aA,aC,aH,aT|R],q]at h;erw[_,(ad (aq (ay (pv 0) rfl))),6];erw[0,D,C,dx,_,0,R.hD,T.cl,T.nE,zc,q _ rfl]
theorem zH:FnScope ["self"] ["self"] (ai qB):=%[1,1,1,4,1,4|4]
theorem Ad   (F:Fun K "waits" "Doubter.waits" qB f fd) (T:DTxt K mg C):FnOk P w K mg base CX0 1 f fd ["self"] (spOf C λz v H=>∃a,v=.ref a/\H a=some (.tup (awV z.aw))):=by
 exists zH
 erw[D,g,z,1,%[dx,aA,aC,aH,aT|R],q]at h;erw[_,(ad (aq (ay (pv 0) rfl))),6];erw[0,D,C,dx,_,0,R.hD,T.cl,T.nA,DH,q _ %[aA,1|R.hA]]
end
section
variable {C CG:Addr}
theorem yQ{b:Addr}{o:HO}(F:FeedAt H f)(h:H b=some o)(n:∀ys,o≠.lst ys):b≠f:=λz=>by
 erw[u,t,e,_]at F;rw[z,e]at h;exact n _ (zU0 h).symm
def awD(a:Str×Option Int):PyData:=match a.2 with
 | none=>.tuple [.str a.1]
 | some n=>.tuple [.str a.1,.int n]
theorem GE{K:W.Frag}{H:Hp}{c:Addr}(h:H c=some (.tup (awV a))):Rep K H (.ref c) (awD a):=by
 erw[x,n]at a;cases n with
 | none=>exact .tup (zC0 h) (.cons (.str x) .nil)
 | some n=>exact .tup (zC0 h) (.cons (.str x) (.cons (.int n) .nil))
def AwW (x:Str):Prop:=x="hear"∨x="coin"∨x="caught"∨x="believed"
theorem AwW.ok(h:AwW x):PyData.strOk x=true:=by
 rcases h with rfl | rfl | rfl | rfl <;> decide
theorem sx{a:Str×Option Int}(h:AwW a.1):SeqAt.shaped (awD a)=true:=by
 erw[x,n]at a
 have:=h.ok
 cases n <;> simp [awD,SeqAt.shaped,PyData.canLay0,PyData.depth,PyData.canLayAll0,PyData.depthAll] <;> exact this
theorem Eo(x y:Str):(x==y)=decide (x=y):=by
 by_cases c:x=y
 . subst c;simp
 . rw[decide_eq_false c];simpa using c
theorem Hw(a b:Str×Option Int):PyData.eqv (awD a) (awD b)=decide (a=b):=by
 erw[x,n]at a;erw[y,m]at b;cases n <;> cases m <;> simp [awD,PyData.eqv,PyData.eqvAll,Eo]
 rename_i u v
 by_cases c:u=v
 . subst c;simp
 . simp [c]
end
section
variable {C CG:Addr}
def d1 (g:Addr):List (Str×V):=[("game",.ref g)]
def d2 (g t1:Addr):List (Str×V):=[("game",.ref g),("awaited",.ref t1)]
def d3 (g t1 t2:Addr):List (Str×V):=[("game",.ref g),("awaited",.ref t1),("claims",.ref t2)]
def d4 (g t1 t2:Addr):List (Str×V):=[("game",.ref g),("awaited",.ref t1),("claims",.ref t2),("s",.int 0)]
def d5 (g t1 t2 t3:Addr):List (Str×V):=[("game",.ref g),("awaited",.ref t1),("claims",.ref t2),("s",.int 0),("heard",.ref t3)]
def d6 (g t1 t2 t3 t4:Addr):List (Str×V):=[("game",.ref g),("awaited",.ref t1),("claims",.ref t2),("s",.int 0),("heard",.ref t3),("tossed",.ref t4)]
def d7 (g t1 t2 t3 t4:Addr):List (Str×V):=[("game",.ref g),("awaited",.ref t1),("claims",.ref t2),("s",.int 0),("heard",.ref t3),("tossed",.ref t4),("held",.int 0)]
theorem pd1 (g:Addr):cu "game" (.ref g) []=d1 g:=by rfl'
theorem pd2 (g t1:Addr):cu "awaited" (.ref t1) (d1 g)=d2 g t1:=by rfl'
theorem pd3 (g t1 t2:Addr):cu "claims" (.ref t2) (d2 g t1)=d3 g t1 t2:=by rfl'
theorem pd4 (g t1 t2:Addr):cu "s" (.int 0) (d3 g t1 t2)=d4 g t1 t2:=by rfl'
theorem pd5 (g t1 t2 t3:Addr):cu "heard" (.ref t3) (d4 g t1 t2)=d5 g t1 t2 t3:=by rfl'
theorem pd6 (g t1 t2 t3 t4:Addr):cu "tossed" (.ref t4) (d5 g t1 t2 t3)=d6 g t1 t2 t3 t4:=by rfl'
theorem pd7 (g t1 t2 t3 t4:Addr):cu "held" (.int 0) (d6 g t1 t2 t3 t4)=d7 g t1 t2 t3 t4:=by rfl'
theorem pd8 (g t1 t2 t3 t4:Addr):cu "places" (.int 0) (d7 g t1 t2 t3 t4)=dl g t1 t2 0 t3 t4 0 0:=by rfl'
theorem Cz   (F:Fun K "__init__" "Doubter.__init__" tT f fd) (B:Bl mg) (T:DTxt K mg C) (TG:GTxt K mg CG):FnOk P w K mg base CX0 1 f fd ["self","game"] (spDInit C CG):=by
 exists BH
 erw[D,g,dx,ns,ts,p,1,hD,G,gD,q]at h;refine⟨_,(aa (aN (pv 0) (pv 1) rfl)
  (aa (aN (pv 0) (aF %[au,aE aD rfl B.len PySem.boot_len %[ay (pv 1) rfl|aO]|aO]) rfl)
  (aa (aN (pv 0) (aF aO) rfl)
  (aa (aN (pv 0) ae rfl)
  (aa (aN (pv 0) (aF aO) rfl)
  (aa (aN (pv 0) (aF aO) rfl)
  (aa (aN (pv 0) ae rfl)
  (ad (aN (pv 0) ae rfl))))))))),?_⟩
 erw[a,b,d,tv,%[dg|hg],ha,hb,TS,hd]at G;have vl:=TS.length;erw[0,0,D,C,dx,0,hD,T.cl,T.nG,(by show 0<1000;decide),6];rw[pd1];have S1:SameBut D H (upd H D (.ins C dx (d1 g))):=SameBut.upd _;have h1:upd H D (.ins C dx (d1 g)) D=some (.ins C dx (d1 g)):=aI;generalize upd H D (.ins C dx (d1 g))=H1 at S1 h1;have nb:=bn hb hD (by intro z;cases z);erw[0,g,CG,dg,_,0,S1 _ _ gD hg,TG.cl,TG.nT,mN ..,b,0,.inr (zC0 (S1 _ _ nb hb)),(by show 2<=sizeLine;decide),λt1 ht1=>?_];have I1:=zB0 ht1 (.tup [.str "hear",.int (tv.length:Int)]);have g1:upd H1 t1 (.tup [.str "hear",.int (tv.length:Int)]) t1=some (.tup [.str "hear",.int (tv.length:Int)]):=aI;generalize upd H1 t1 (.tup [.str "hear",.int (tv.length:Int)])=H2 at I1 g1;erw[0,D,C,dx,0,I1 _ _ h1,T.cl,T.nA,(by show 1<1000;decide),6];rw[pd2];have n1:t1≠D:=(aV h1 ht1).symm;have S2:SameBut D H2 (upd H2 D (.ins C dx (d2 g t1))):=SameBut.upd _;have h2:upd H2 D (.ins C dx (d2 g t1)) D=some (.ins C dx (d2 g t1)):=aI;have k1:=S2 _ _ n1 g1;generalize upd H2 D (.ins C dx (d2 g t1))=H3 at S2 h2 k1;erw[(by show 0<=sizeLine;decide),λt2 ht2=>?_];have I2:=zB0 ht2 (.tup []);have g2:upd H3 t2 (.tup []) t2=some (.tup []):=aI;generalize upd H3 t2 (.tup [])=H4 at I2 g2;erw[0,D,C,dx,0,I2 _ _ h2,T.cl,T.nC,(by show 2<1000;decide),6];rw[pd3];have n2:t2≠D:=(aV h2 ht2).symm;have S3:SameBut D H4 (upd H4 D (.ins C dx (d3 g t1 t2))):=SameBut.upd _;have h3:upd H4 D (.ins C dx (d3 g t1 t2)) D=some (.ins C dx (d3 g t1 t2)):=aI;generalize upd H4 D (.ins C dx (d3 g t1 t2))=H5 at S3 h3;erw[0,D,C,dx,0,h3,T.cl,T.nS,(by show 3<1000;decide),6];rw[pd4];have S4:SameBut D H5 (upd H5 D (.ins C dx (d4 g t1 t2))):=SameBut.upd _;have h4:upd H5 D (.ins C dx (d4 g t1 t2)) D=some (.ins C dx (d4 g t1 t2)):=aI;generalize upd H5 D (.ins C dx (d4 g t1 t2))=H6 at S4 h4;erw[(by show 0<=sizeLine;decide),λt3 ht3=>?_];have I3:=zB0 ht3 (.tup []);have g3:upd H6 t3 (.tup []) t3=some (.tup []):=aI;generalize upd H6 t3 (.tup [])=H7 at I3 g3;erw[0,D,C,dx,0,I3 _ _ h4,T.cl,T.nH,(by show 4<1000;decide),6];rw[pd5];have n3:t3≠D:=(aV h4 ht3).symm;have S5:SameBut D H7 (upd H7 D (.ins C dx (d5 g t1 t2 t3))):=SameBut.upd _;have h5:upd H7 D (.ins C dx (d5 g t1 t2 t3)) D=some (.ins C dx (d5 g t1 t2 t3)):=aI;generalize upd H7 D (.ins C dx (d5 g t1 t2 t3))=H8 at S5 h5;erw[(by show 0<=sizeLine;decide),λt4 ht4=>?_];have I4:=zB0 ht4 (.tup []);have g4:upd H8 t4 (.tup []) t4=some (.tup []):=aI;generalize upd H8 t4 (.tup [])=H9 at I4 g4;erw[0,D,C,dx,0,I4 _ _ h5,T.cl,T.nT,(by show 5<1000;decide),6];rw[pd6];have n4:t4≠D:=(aV h5 ht4).symm;erw[0,D,C,dx,0,aI,T.cl,T.nE,(by show 6<1000;decide),6];rw[pd7];erw[0,D,C,dx,0,aI,T.cl,T.nP,(by show 7<1000;decide),6];rw[pd8];have W:∀{x:Addr} {H':Hp} {o1 o2 o3:HO} {u:HO},x≠D->H' x=some u->upd (upd (upd H' D o1) D o2) D o3 x=some u:=λ{x H' o1 o2 o3 u} n e=>by
  rw[bh n,bh n,bh n];exact e
 have k2:=S3 _ _ n2 g2;have k3:=S5 _ _ n3 g3;refine q _ (S1.trans ((zI0 I1).trans (S2.trans ((zI0 I2).trans (S3.trans (S4.trans ((zI0 I3).trans (S5.trans ((zI0 I4).trans ((SameBut.upd _).trans ((SameBut.upd _).trans (SameBut.upd _)))))))))))) %[dx,t1,t2,t3,t4,aI,6,6,6|W n4 g4]
 . rw[vl]at k1;exact W n1 (I4 _ _ (S5 _ _ n1 (I3 _ _ (S4 _ _ n1 (S3 _ _ n1 (I2 _ _ k1))))))
 . exact W n2 (I4 _ _ (S5 _ _ n2 (I3 _ _ (S4 _ _ n2 k2))))
 . exact W n3 (I4 _ _ k3)
end
def jF (o:Str) (p q:Bool):Bool:=if o="and" then p&&q else if o="or" then p||q else if o="odd" then p != q else p==q
def Tr.holds(ns:List Str)(st:List Int):Tr->Bool
 | .is x=>match eO x ns with | some j=>decide (st.getD j 0=1) | none=>false
 | .yes=>true
 | .no=>false
 | .not a=>!a.holds ns st
 | .bin o a b=>jF o (a.holds ns st) (b.holds ns st)
inductive spJoined(vs:List V)(H:Hp)(Q:VK)(u_3:XK):Prop
 |mk:∀(o:Str)(p q:Bool),vs=[.str o,.bl p,.bl q]->Q (.bl (jF o p q)) H->spJoined vs H Q u_3
theorem zD:FnScope ["word","first","second"] ["word","first","second"] (ai qx):=%[1,1,1,4,1,4|4]
theorem zZ   (F:Fun K "joined" "joined" qx f fd):FnOk P w K mg base CX0 1 f fd ["word","first","second"] spJoined:=by
 exists zD
 erw[o,p,q,1,k]at h;refine⟨_,(aa (aG (ah aP (pv 0) au (ax _)) (ad (aq (qR (pv 1) (oo (pv 2))))) az)
  (aa (aG (ah aP (pv 0) au (ax _)) (ad (aq (FO (pv 1) (oo (pv 2))))) az)
  (aa (aG (ah aP (pv 0) au (ax _)) (ad (aq (eU mr (pv 1) (pv 2) (ax _)))) az)
  (ad (aq (eU aP (pv 1) (pv 2) (ax _))))))),?_⟩
 erw[0,1,0,6]
 by_cases c1:V.str o=V.str "and"
 . refine aS c1 ?_;have e:jF o p q=(p&&q):=by unfold jF;rw[zD0 (ir c1)]
   rw[e]at k;erw[0,p,1,6];cases p with
   | true=>exact ei %[0|by simpa using k]
   | false=>exact cW (by simpa using k)
 refine aB c1 ?_;have n1:¬ o="and":=λz=>c1 (by rw[z])
 erw[0,1,0,6]
 by_cases c2:V.str o=V.str "or"
 . refine aS c2 ?_;have e:jF o p q=(p||q):=by unfold jF;rw[zA0 n1,zD0 (ir c2)]
   rw[e]at k;erw[0,p,1,6];cases p with
   | true=>exact ei (by simpa using k)
   | false=>exact cW %[0|by simpa using k]
 refine aB c2 ?_;have n2:¬ o="or":=λz=>c2 (by rw[z])
 erw[0,1,0,6]
 by_cases c3:V.str o=V.str "odd"
 . refine aS c3 ?_;have e:jF o p q=(p != q):=by unfold jF;rw[zA0 n1,zA0 n2,zD0 (ir c3)]
   rw[e]at k;erw[0,0,1,6];have e2:(!decide (V.bl p=V.bl q))=(p != q):=by cases p <;> cases q <;> decide
   show Q (.bl (!decide (V.bl p=V.bl q))) H;rw[e2];exact k
 refine aB c3 ?_;have n3:¬ o="odd":=λz=>c3 (by rw[z])
 have e:jF o p q=(p==q):=by unfold jF;rw[zA0 n1,zA0 n2,zA0 n3]
 rw[e]at k;erw[0,0,1,6];have e2:decide (V.bl p=V.bl q)=(p==q):=by cases p <;> cases q <;> decide
 show Q (.bl (decide (V.bl p=V.bl q))) H;rw[e2];exact k
inductive spHolds(n:Nat)(vs:List V)(H:Hp)(Q:VK)(u_3:XK):Prop
 |mk:∀(v:V)(t:Tr)(a b:Addr)(ns:List Str)(st:List Int),vs=[v,.ref a,.ref b]->TreeAt H v t->t.ok ns->t.depth<=n->NamesAt H a ns->H b=some (.tup (st.map V.int))->st.length=ns.length->Q (.bl (t.holds ns st)) H->spHolds n vs H Q u_3
theorem lV:FnScope ["tree","switches","setting","word","first"] ["tree","switches","setting"] (ai jm):=%[1,1,1,4,1,4|4]
theorem ya {n:Nat}   (F:Fun K "holds_at" "holds_at" jm f fd) (iD:Cal P w K mg base 1 "joined" ["word","first","second"] spJoined) (fX:Cal P w K mg base (n+2) "holds_at" ["tree","switches","setting"] (spHolds n)):FnOk P w K mg base CX0 (n+3) f fd ["tree","switches","setting"] (spHolds (n+1)):=by
 exists lV
 erw[v,t,a,b,ns,st,1,T,ok,dn,hN,hb,sl,k]at h;refine⟨_,(aa #[aj,3,lV,aJ ix_tup (pv 0) ae (λ_ _=>rfl)]
  (aa (aG (ah aP (pv 3) au (ax _)) (ad (aq (eU aP (aJ ix_tup (pv 2) (vn PySem.F.plainAttrs_list PySem.F.plainAttrs_tuple (pv 1) %[aJ ix_tup (pv 0) ae (λ_ _=>rfl)|aO]) (λ_ _=>rfl)) ae (ax _)))) az)
  (aa (aG (PW.pt (fK (ah aP (pv 3) au (ax _)) (eN (ah aP (pv 3) au (ax _))))) (ad (aq (eU aP (pv 3) au (ax _)))) az)
  (aa #[aj,4,lV,ag fX hr (zH0 _) rfl %[aJ ix_tup (pv 0) ae (λ_ _=>rfl),1,2|aO]]
  (aa (aG (ah aP (pv 3) au (ax _)) (ad (aq (Cc (pv 4)))) az)
  (ad (aq (ag iD hr #[0] rfl %[3,4,ag fX hr (zH0 _) rfl %[aJ ix_tup (pv 0) ae (λ_ _=>rfl),1,2|aO]|aO])))))))),?_⟩
 cases T with
 | @is p x e=>
   erw[0,p,_,(0),0,1,zC0 e,1,6];erw[0,1,0,6];refine aS rfl ?_;let%[j,hj|jl]:=gV ok;have jl':j<st.length:=by omega
   erw[0,0,a,ns,1,hN,0,p,_,(1),0,1,zC0 e,1,1,x,j,1,hj,b,_,(j:Int),.int st[j],1,1,zC0 hb,6,1,6]
   . refine cD ?_;rw[zY0,zQ0 jl'];rfl
   . have e1:(Tr.is x).holds ns st=decide (V.int st[j]=V.int 1):=by
      show(match eO x ns with | some j=>decide (st.getD j 0=1) | none=>false)=_;rw[hj];show decide (st.getD j 0=1)=_;rw[qP0,zQ0 jl']
      simp
     rw[e1]at k;exact k
 | @yes p e=>
   erw[0,p,_,(0),0,1,zC0 e,1,6];erw[0,1,0,6];refine aB ⋯ ?_;erw[0,1,0,6];refine aS rfl (ei ?_);erw[0,1,k]
 | @no p e=>
   erw[0,p,_,(0),0,1,zC0 e,1,6];erw[0,1,0,6];refine aB ⋯ ?_;erw[0,1,0,6];refine aB ⋯ ?_;erw[0,1,0,6];refine aS rfl ?_;erw[0,1,6];have e1:decide (V.str "no"=V.str "yes")=false:=by decide
   show Q (.bl (decide (V.str "no"=V.str "yes"))) H;rw[e1];exact k
 | @not p u r e T1=>
   have dp:r.depth+1<=n+1:=dn;erw[0,p,_,(0),0,1,zC0 e,1,6];erw[0,1,0,6];refine aB ⋯ ?_;erw[0,1,0,6];refine aB ⋯ ?_;erw[0,1,0,6];refine aB ⋯ ?_;erw[0,p,_,(1),0,1,zC0 e,1,0,0,u,r,a,b,ns,st,1,T1,ok,3,hN,hb,sl,6];erw[0,1,0,6];refine aS rfl ?_;erw[0,0,k]
 | @bin p o u u2 r r2 e T1 T2=>
   erw[ho,ok1,ok2]at ok;have dp:max r.depth r2.depth+1<=n+1:=dn;have ne:∀z:Str,z∉joinW->¬ V.str o=V.str z:=λz hz h=>hz (ir h▸ho)
   erw[0,p,_,(0),0,1,zC0 e,1,6];erw[0,1,0,6];refine aB (ne _ ⋯) ?_;erw[0,1,0,6];refine aB (ne _ ⋯) ?_;erw[0,1,0,6];refine aB (ne _ ⋯) ?_;erw[0,p,_,(1),0,1,zC0 e,1,0,0,u,r,a,b,ns,st,1,T1,ok1,3,hN,hb,sl,6];erw[0,1,0,6];refine aB (ne _ ⋯) ?_;erw[0,0,0,p,_,(2),0,1,zC0 e,1,0,0,u2,r2,a,b,ns,st,1,T2,ok2,3,hN,hb,sl,6];erw[o,_,0,k]
theorem xZ  :FnOk P w K mg base CX0 2 f fd ["tree","switches","setting"] (spHolds 0):=by
 have no:∀vs H Q E,¬ spHolds 0 vs H Q E:=λvs H Q E h=>by
  erw[v,t,_,_,_,_,_,_,_,h1,_]at h
  have:=t.depth_pos
  omega
 erw[λvs H Q E h=>absurd h (no vs H Q E),λA outer s H args us vs Q E _ _ _ _ h=>absurd h (no vs H Q E)]
theorem oR   (F:Fun K "holds_at" "holds_at" jm f fd) (m:mg "holds_at"=some (.ref f)) (iD:Cal P w K mg base 1 "joined" ["word","first","second"] spJoined) :
 ∀n:Nat,FnOk P w K mg base CX0 (n+2) f fd ["tree","switches","setting"] (spHolds n)
 | 0=>xZ
 | n+1=>ya F iD (Cal.of F (oR F m iD n) m (λ_ _ _ _ _ _ us hl=>by let%[u0,u1,u2|1]:=Fh hl;rfl))
def FY(H:Hp)(v:V)(s:List Int):Prop:=∃a,v=.ref a/\H a=some (.tup (s.map V.int))
abbrev TupsAt(H:Hp):List V->List (List Int)->Prop:=PySem.Paired (FY H)
def uR(H:Hp)(r:Addr)(ss:List (List Int)):Prop:=∃rs,H r=some (.lst rs)/\TupsAt H rs ss
theorem TupsAt.mono{H H':Hp}(k:∀a xs,H a=some (.tup xs)->H' a=some (.tup xs)):∀{rs:List V}{ss:List (List Int)},TupsAt H rs ss->TupsAt H' rs ss
 | _,_,.nil=>.nil
 | _,_,.cons ⟨a,e,h⟩ t=>.cons %[a,e|k _ _ h] (TupsAt.mono k t)
theorem TupsAt.get:∀{rs:List V}{ss:List (List Int)}{i:Nat}{v:V},TupsAt H rs ss->rs[i]?=some v->∃s,ss[i]?=some s/\FY H v s
 | _,_,_,_,.nil,h=>by simp at h
 | _,_,0,_,.cons h _,e=>by
   simp at e
   subst e;erw[0,h]
 | _,_,i+1,v,.cons _ t,e=>by
   let%[s,h1|h2]:=TupsAt.get (i:=i) t (by simpa using e);erw[s,by simpa using h1,h2]
theorem As{ys:List V}(s:SameBut b H H')(h:H b=some (.lst ys)∨H b=none):∀a xs,H a=some (.tup xs)->H' a=some (.tup xs):=λa xs e=>s a _ (λz=>by
 rw[z]at e;rcases h with h | h
 . rw[h]at e;cases e
 . rw[h]at e;cases e) e
theorem rF{K:W.Frag}{H1:Hp}{a p:Addr}{s:List Int}{z:Int}{Q:VK}(ha:H1 a=some (.tup (s.map V.int)))(hp:H1 p=some (.tup [.int z]))(hl:s.length<=100)
 (q:∀t H2,Same H1 H2->H2 t=some (.tup ((s++[z]).map V.int))->Q (.ref t) H2):rCatT K (.ref a) (.ref p) H1 Q∨rCatT0 K (.ref a) (.ref p) H1 Q:=by
 cases s with
 | nil=>exact .inr %[a,p,0,1,zC0 ha,zC0 hp|q p H1 (Same.refl _) hp]
 | cons x r=>
   refine .inl %[a,p,2,zC0 ha,zC0 hp,by simp,ca (by simp at hl ⊢;omega),(λz=>nomatch z)|(λ_ t ht=>q t _ (zB0 ht _) ?_)];rw[aI,zK0];rfl
inductive spSetts(vs:List V)(H:Hp)(Q:VK)(u_3:XK):Prop
 |mk:∀n:Int,vs=[.int n]->0<=n->n<=6->(∀(r:Addr)(H':Hp),H r=none->Same H H'->uR H' r (cP n.toNat)->Q (.ref r) H')->spSetts vs H Q u_3
theorem cY:FnScope ["n","told","switch","longer","setting"] ["n"] (ai ic):=%[1,1,1,4,1,4|4]
theorem pC   (F:Fun K "all_settings" "all_settings" ic f fd) (hrange:mg "range"=none):FnOk P w K mg base CX0 1 f fd ["n"] spSetts:=by
 exists cY
 erw[n,1,n0,n6,q]at h;refine⟨_,(aa #[aj,1,cY,dy %[aF aO|aO]]
  (aa (cv PassesOwn.never rfl (bO rfl hrange %[0|aO]) (bb (i:=2) cY.nd rfl (.inl rfl)) (aa #[aj,3,cY,dy aO]
   (aa (cv PassesOwn.never rfl (eQ (pv 1)) (bb (i:=4) cY.nd rfl (.inl rfl)) (aa (aR (eA PySem.F.plainAttrs_list PySem.F.slot_list_append PySem.F.type_list_append bZ (pv 3) %[ao (op_catT.or ms) (pv 4) (aF %[ae|aO])|aO]))
    (ad (aR (eA PySem.F.plainAttrs_list PySem.F.slot_list_append PySem.F.type_list_append bZ (pv 3) %[ao (op_catT.or ms) (pv 4) (aF %[ae|aO])|aO])))))
   (ad #[aj,1,cY,pv 3]))))
  (ad (aq (pv 1))))),?_⟩
 erw[(by show 0<=sizeLine;decide),λp hp=>?_];erw[(by show 1<=sizeLine;decide),λa ha=>?_];have np:p≠a:=λz=>by
  subst z;rw[aI]at ha;cases ha
 have ha0:H a=none:=(zB0 hp _).free ha;refine⟨_,rfl,n,rfl,by omega,by omega,dj (λi σ H'=>∃(a:Addr)(x2 x3 x4:Option V),σ=[some (.int n),some (.ref a),x2,x3,x4]/\H a=none/\Same H H'/\uR H' a (cP i))
  %[a,_,_,0,ha0,(zB0 hp _).trans (zB0 ha _),[.ref p],aI|.cons ⟨p,rfl,by rw[bh np,aI];rfl⟩ .nil] ?_ ?_⟩
 . rintro i σ H' hi ⟨a,x2,x3,x4,rfl,a0,s0,rs,hrs,T⟩;have i6:i<6:=by omega
   have sl:=ky i;have s64:=oh (n:=i) #[0];erw[(by show 0<=sizeLine;decide),λb hb=>?_];have ab:a≠b:=aV hrs hb;refine⟨_,rfl,a,rfl,%[_|zG0 (by rw[bh ab];exact hrs)],ki (K:=K) (xs:=rs) (λj σ H2=>∃(x4:Option V)(bs:List V),σ=[some (.int n),some (.ref a),some (.int (0+(i:Int))),some (.ref b),x4]/\SameBut b H' H2/\H2 b=some (.lst bs)/\TupsAt H2 bs (((cP i).take j).flatMap λs=>[s++[0],s++[1]]))
    %[_,[],1,SameBut.upd _,aI|.nil] (λj σ H2 _ hst=>by erw[_,_,_,sb,_]at hst;exact zG0 (sb a _ ab hrs)) ?_ ?_⟩
   . rintro j y σ H2 hj ⟨x4,bs,rfl,sb,hbs,TB⟩;have T2:TupsAt H2 rs (cP i):=T.mono (As (ys:=[]) sb (.inr hb));let%[s,hs,t,1|ht]:=T2.get hj;have hsm:s∈cP i:=qF0 hs;have hsl:=fY i s hsm;have hbl:=TB.length;rw[oA,qL0]at hbl;erw[0,.inl %[1,_|zG0 hbs],6];erw[0,(by show 1<=sizeLine;decide),λp1 hp1=>?_];have S1:Same H2 (upd H2 p1 (.tup [.int 0])):=zB0 hp1 _;refine rF (s:=s) (z:=0) (S1 _ _ ht) aI #[0] λt1 H3 S3 e3=>?_
     have S13:Same H2 H3:=S1.trans S3;erw[b,bs,0,1,S13 _ _ hbs,aM #[0],6];have K4:=di (H:=H3) (b:=b) (ys:=bs) (zs:=bs++[.ref t1]) (S13 _ _ hbs);have e4:=K4 _ _ e3;have t4:=K4 _ _ (S13 _ _ ht);erw[0,.inl %[1,_|zG0 aI],6];erw[0,(by show 1<=sizeLine;decide),λp2 hp2=>?_];have S4:Same (upd H3 b (.lst (bs++[.ref t1]))) (upd (upd H3 b (.lst (bs++[.ref t1]))) p2 (.tup [.int 1])):=zB0 hp2 _;refine rF (s:=s) (z:=1) (S4 _ _ t4) aI #[0] λt2 H5 S5 e5=>?_
     have S45:=S4.trans S5;have hb5:H5 b=some (.lst (bs++[.ref t1])):=S45 _ _ aI;erw[b,bs++[.ref t1],0,1,hb5,aM (by rw[zJ0,qM0];omega),6];have K6:=di (H:=H5) (b:=b) (ys:=bs++[.ref t1]) (zs:=bs++[.ref t1]++[.ref t2]) hb5;erw[_,bs++[.ref t1]++[.ref t2],1,6,aI,6]
     . have q1:SameBut b H' H3:=sb.trans (zI0 S13);have q2:SameBut b H' H5:=(q1.trans (SameBut.upd _)).trans (zI0 S45);exact q2.trans (SameBut.upd _)
     . have hbase:TupsAt (upd H5 b (.lst (bs++[.ref t1]++[.ref t2]))) bs (((cP i).take j).flatMap λs=>[s++[0],s++[1]]):=
        TB.mono λa xs e=>K6 _ _ (S45 _ _ (K4 _ _ (S13 _ _ e)))
       rw[qI0,hs,List.flatMap_append];have e:((some s).toList.flatMap λs:List Int=>[s++[0],s++[1]])=[s++[0]]++[s++[1]]:=by simp
       rw[e,←List.append_assoc];exact(hbase.snoc %[t1,1|K6 _ _ (S45 _ _ e4)]).snoc ⟨t2,rfl,K6 _ _ e5⟩
   . rintro σ H2 ⟨x4,bs,rfl,sb,hbs,TB⟩;have rl:=T.length;rw[rl,qG0]at TB;erw[0,b,_,_,0,s0.free hb,s0.but (s0.free hb) sb,bs,hbs,TB]
 . rintro σ H' ⟨a,x2,x3,x4,rfl,a0,s0,S⟩;erw[0,q a H' a0 s0 S]
def cnt(t:Tr)(ns:List Str):Nat:=((cP ns.length).filter λst=>t.holds ns st).length
inductive spCount(vs:List V)(H:Hp)(Q:VK)(u_3:XK):Prop
 |mk:∀(v:V)(t:Tr)(a:Addr)(ns:List Str),vs=[v,.ref a]->TreeAt H v t->t.ok ns->t.depth<=12->NamesAt H a ns->ns.length<=6->(∀H',Same H H'->Q (.int (cnt t ns:Int)) H')->spCount vs H Q u_3
theorem v3:FnScope ["tree","switches","holding"] ["tree","switches"] (ai lE):=%[1,1,1,4,1,4|4]
theorem vC   (F:Fun K "count_of" "count_of" lE f fd) (hlen:mg "len"=none) (eJ:Cal P w K mg base 1 "all_settings" ["n"] spSetts) (fX:Cal P w K mg base 14 "holds_at" ["tree","switches","setting"] (spHolds 12)):FnOk P w K mg base CX0 15 f fd ["tree","switches"] spCount:=by
 exists v3
 erw[v,t,a,ns,1,T,ok,dp,hN,nl,q]at h;refine⟨_,(aa (pJ (i:=2) (N:=["tree","switches"]) (ix:=[0,1]) v3.nd rfl (.inl rfl) rfl
  (CompScope.two (by rfl') ⋯ rfl ⋯ rfl ⋯ (by first | exact Or.inl rfl | exact Or.inr rfl) (by rfl') (by rfl') (by rfl') (by rfl') rfl rfl (by rfl') rfl rfl) rfl
  (eQ (ag eJ hr ⋯ rfl %[aE aD rfl hlen PySem.boot_len %[1|aO]|aO]))
  (λ_ _ _=>pb_if (dN (ag fX hr ⋯ rfl %[1,2,0|aO])) (pv 0)))
  (ad (aq (aE aD rfl hlen PySem.boot_len %[2|aO])))),?_⟩
 have en:((ns.map V.str).length:Int)=(ns.length:Int):=by rw[zE0]
 erw[0,a,0,hN.seq,0,3,3,λr H1 r0 S1 R1=>?_];rw[en]at R1;have e2:((ns.length:Int)).toNat=ns.length:=by omega
 rw[e2]at R1;erw[rs,hrs,TS]at R1;have rl:=TS.length;have sl:=ky ns.length;have s64:=oh nl;erw[r,1,%[_|zG0 hrs],λD hD=>?_];refine gY (K:=K) (xs:=rs) (λi H'=>∃ys,H' D=some (.lst ys)/\ys.length=(((cP ns.length).take i).filter λst=>t.holds ns st).length/\Same H1 H') %[[],aI,1|zB0 hD _] (λi H' _ hst=>by erw[_,_,_,h]at hst;exact zG0 (h _ _ hrs)) ?_ ?_
 . rintro i x H2 hx ⟨ys,hl,yl,S2⟩;have hi:i<rs.length:=(zW0 hx).1;have TS2:=TS.mono (aX S2);let%[st,hst,b,1|hb]:=TS2.get hx;have stl:=fY _ _ (qF0 hst);have S02:=S1.trans S2;have tk:((cP ns.length).take (i+1)).filter (λst=>t.holds ns st)=((cP ns.length).take i).filter (λst=>t.holds ns st)++[st].filter (λst=>t.holds ns st):=by
    rw[qI0,hst,List.filter_append];rfl
   erw[0,0,0,v,t,a,b,ns,st,1,T.mono (aX S02),ok,dp,hN.same S02,hb,stl,0,6];cases c:t.holds ns st with
   | true=>
     refine ei ?_;erw[0,ys,hl,6,Nx.of hi %[_,aI,6|λb' o e=>?_]]
     . have:=List.length_filter_le (λst=>t.holds ns st) ((cP ns.length).take i)
       rw[qL0]at this;exact aM #[0]
     . rw [tk,zJ0,zJ0,yl]
       simp [c]
     . rw[bh (aV e hD)];exact S2 _ _ e
   | false=>
     refine cW ?_;refine Nx.of hi %[ys,hl,6|S2];rw[tk,zJ0,yl]
     simp [c]
 . rintro H2 ⟨ys,hl,yl,S2⟩;have e3:rs.length=(cP ns.length).length:=rl;rw[e3,qG0]at yl;erw[0,D,0,.inl (zG0 hl),6];rw[yl];exact q H2 (S1.trans S2)
inductive spCounts(C:Addr)(vs:List V)(H:Hp)(Q:VK)(u_3:XK):Prop
 |mk:∀(g a b d:Addr)(ns:List Str)(tv:List V)(ts:List Tr)(p:Int),vs=[.ref g]->GameAt C H g a b d p->H a=some (.tup (ns.map V.str))->ns.length<=6->H b=some (.tup tv)->TreesAt H tv ts->ts.length<=10->(∀t∈ts,t.ok ns/\t.depth<=12)->(∀(l:Addr)(H':Hp),H l=none->Same H H'->H' l=some (.lst ((ts.map λt=>(cnt t ns:Int)).map V.int))->Q (.ref l) H')->spCounts C vs H Q u_3
theorem tE:FnScope ["game"] ["game"] (ai jW):=%[1,1,1,4,1,4|4]
theorem uv   (F:Fun K "counts_of" "counts_of" jW f fd) (T:GTxt K mg C) (n8:Cal P w K mg base 15 "count_of" ["tree","switches"] spCount):FnOk P w K mg base CX0 16 f fd ["game"] (spCounts C):=by
 exists tE
 erw[g,a,b,d,ns,tv,ts,p,1,%[dx|hg],ha,nl,hb,TS,t10,tok,q]at h;refine⟨_,(ad (aq (cz (N:=["game"]) (ix:=[0]) rfl
  (CompScope.one (by rfl') ⋯ rfl ⋯ rfl ⋯ (by rfl') (by rfl') (by rfl') rfl rfl) rfl
  (ii (ay (pv 0) rfl)) (λ_ _ _=>cG (ag n8 hr ⋯ rfl %[0,kG K (pv 1)|aO]))))),?_⟩
 have vl:=TS.length;erw[0,g,C,dx,_,0,hg,T.cl,T.nT,mN ..,b,1,%[_|zC0 hb],λD hD=>?_];refine gy (K:=K) (xs:=tv) (λi H'=>H' D=some (.lst (((ts.take i).map λt=>(cnt t ns:Int)).map V.int))/\Same H H') %[by rw[aI];rfl|zB0 hD _] (λi H' _ h=>zC0 (h.2 _ _ hb)) ?_ ?_
 . rintro i z H2 hz ⟨hl,S2⟩;let%[t,ht|Tt]:=TS.get hz;let%[tk|td]:=tok t (qF0 ht);have hi:i<tv.length:=(zW0 hz).1;erw[0,0,g,C,dx,_,0,S2 _ _ hg,T.cl,T.nS,oW ..,z,t,a,ns,1,Tt.mono (aX S2),tk,td,.inr (S2 _ _ ha),nl,λH3 S3=>?_];erw[_,S3 _ _ hl,6,Nx.of hi %[6|λb' o' e'=>?_]]
   . rw[zE0,zE0,qL0];exact aM #[0]
   . rw[aI,qI0,ht,zK0,zK0];rfl
   . rw[bh (aV e' hD)];exact S3 _ _ (S2 _ _ e')
 . rintro H2 ⟨hl,S2⟩;rw[vl,qG0]at hl;exact q D H2 hD S2 hl
def ig(s:Int):List Int->Int
 | []=>0
 | a::r=>a+s*ig s r
theorem mL(s p:Int):∀ns,hor s p ns=ig s ns % p
 | []=>(Int.zero_emod p).symm
 | a::r=>by
   show(hor s p r*s+a) % p=(a+s*ig s r) % p;rw[mL s p r,Int.add_emod,Int.mul_emod,Int.emod_emod,←Int.mul_emod,←Int.add_emod,Int.mul_comm,Int.add_comm]
theorem lR:∀(n:Nat)(s:List Int),s∈cP n->∀x∈s,x=0∨x=1
 | 0,s,h,x,hx=>by
   have:s=[]:=by simpa [cP]using h
   subst this;cases hx
 | n+1,s,h,x,hx=>by
   rw[cP,List.mem_flatMap]at h;erw[t,ht,hs]at h
   simp at hs
   rcases hs with rfl | rfl
   . rcases qH0 hx with h | h
     . exact lR n t ht x h
     . exact .inl (zN0 h)
   . rcases qH0 hx with h | h
     . exact lR n t ht x h
     . exact .inr (zN0 h)
theorem pT{K:W.Frag}{H1:Hp}{a b:Addr}{xs ys:List Int}{Q:VK}(ha:H1 a=some (.tup (xs.map V.int)))(hb:H1 b=some (.tup (ys.map V.int)))(hl:xs.length+ys.length<=100)
 (q:∀t H2,Same H1 H2->H2 t=some (.tup ((xs++ys).map V.int))->Q (.ref t) H2):rCatT K (.ref a) (.ref b) H1 Q∨rCatT0 K (.ref a) (.ref b) H1 Q:=by
 cases xs with
 | nil=>exact .inr %[a,b,0,1,zC0 ha,zC0 hb|q b H1 (Same.refl _) hb]
 | cons x r=>
   refine .inl %[a,b,2,zC0 ha,zC0 hb,by simp,ca (by simp at hl ⊢;omega),(λz=>?_)|(λ_ t ht=>q t _ (zB0 ht _) ?_)]
   . cases ys with
     | nil=>
       refine q a H1 (Same.refl _) ?_;rw[List.append_nil];exact ha
     | cons y r2=>exact nomatch z
   . rw[aI,zK0]
def cV(ns:List Str)(ts:List Tr)(s p:Int)(pt:List Int):Int:=((cP (ns.length-pt.length)).map λst=>ig s (ts.map λt=>t.worth ns (pt++st) p)).sum % p
theorem yz{α:Type}(p:Int)(f:α->Int):∀l:List α,(l.map λx=>f x % p).sum % p=(l.map f).sum % p
 | []=>rfl
 | a::r=>by
   rw[zZ0,zZ0,List.sum_cons,List.sum_cons,Int.add_emod,Int.emod_emod,yz p f r,←Int.add_emod]
theorem yy{α:Type}{p:Int}(hp:0<p)(f:α->Int)(h:∀x,0<=f x/\f x<p):∀l:List α,0<=(l.map f).sum/\(l.map f).sum<=p*l.length
 | []=>%[Int.le_refl 0|by simp]
 | a::r=>by
   have h1:=h a;have h2:=yy hp f h r;rw[zZ0,List.sum_cons,zM0];erw[3,6]
   have:p*((r.length+1:Nat):Int)=p*(r.length:Int)+p:=by
    rw[Int.natCast_add,Int.mul_add]
    simp
   omega
theorem vg(h:ci a p)(h2:ci b p):ci (a++b) p:=λx hx=>by
 rcases qH0 hx with e | e
 . exact h x e
 . exact h2 x e
theorem pt01{b:List Int}(h:ci a p)(p1:1<p)(h2:∀x∈b,x=0∨x=1):ci (a++b) p:=vg h λx hx=>by rcases h2 x hx with e | e <;> omega
theorem mv{X:Cx}(K:W.Frag)(hK:X.K=K:=by rfl):OpR X (binaryOp .Add) (λx y H Q=>rCatT K x y H Q∨rCatT0 K x y H Q):=by subst hK;exact op_catT.or ms
theorem wa{ts:List Tr}(h0:ts≠[]):0<=bz ts x:=by
 have:=iL (ns:=ts.map λt=>(t.names.count x:Int)) (by simpa using h0)
 let%[t,ht|e]:=List.mem_map.mp this;unfold bz;rw[←e];exact Int.natCast_nonneg _
def gQ(ns:List Str)(ts:List Tr)(s p:Int)(cs:List Int)(n:Nat):List Int:=(List.range n).map λk:Nat=>cV ns ts s p (cs++[(k:Int)])
theorem Gw{d:Int}{i:Nat}(hi:i<(d+1).toNat)(h:d<=500):((gQ ns ts s p cs i).map V.int).length<sizeLine:=by
 unfold gQ;rw[zE0,zE0,qQ0];exact aM #[0]
theorem ptI{d:Int}{i:Nat}(h:ci a p)(hi:i<(d+1).toNat)(hd:d<p):ci (a++[(i:Int)]) p:=vg h λx hx=>by
 rw[zN0 hx];omega
theorem cat1{n k:Nat}(h:n<k)(h6:k<=6):n+([(0:Int)]:List Int).length<=100/\n+1<=k:=by
 rw[qM0];omega
theorem s64{n k:Nat}(h6:n<=6):(cP (n-(k+1))).length<=64:=by
 have s64:=ky (n-(k+1));have p64:=oh (n:=n-(k+1)) #[0];omega
theorem Gv{α:Type}{f:α->Int}{l:List α}{j:Nat}(h:l.length<=64):(((l.take j).map f).map V.int).length<sizeLine:=by
 rw[zE0,zE0,qL0];exact aM #[0]
theorem sum63{p x:Int}{n:Nat}(p0:0<p)(p40:p<2 ^ 40)(h:n<=64)(hx:x<=p*(n:Int)):x<2 ^ 63:=by
 have:p*(n:Int)<=p*64:=qX0 #[0] #[0]
 omega
inductive spTrue(C:Addr)(vs:List V)(H:Hp)(Q:VK)(u_3:XK):Prop
 |mk:∀(g a b d c:Addr)(ns:List Str)(tv:List V)(ts:List Tr)(cs:List Int)(x:Str)(s p:Int),vs=[.ref g,.int s,.ref c]->GameAt C H g a b d p->H a=some (.tup (ns.map V.str))->ns.length<=6->H b=some (.tup tv)->TreesAt H tv ts->ts≠[]->ts.length<=10->(∀t∈ts,t.ok ns/\t.depth<=10)->H d=some (.lst ((ns.map (bz ts)).map V.int))->H c=some (.tup (cs.map V.int))->ns[cs.length]?=some x->bz ts x<p->bz ts x<=500->ci cs p->1<p->p<2 ^ 40->(∀(l:Addr)(H':Hp),H l=none->Same H H'->H' l=some (.lst ((gQ ns ts s p cs (bz ts x+1).toNat).map V.int))->Q (.ref l) H')->spTrue C vs H Q u_3
theorem fb:FnScope ["game","s","coins","ahead","switch","behind","row","x","worths"] ["game","s","coins"] (ai lx):=%[1,1,1,4,1,4|4]
theorem vt   (F:Fun K "true_row" "true_row" lx f fd) (B:Bl mg) (T:GTxt K mg C) (mW:Meth K C "worth_at" fW) (GW:FnOk P w K mg base CX0 13 fW fdW ["self","point","s"] (spWAt C)) (bW:Binds K fdW ["self","point","s"] []) (eJ:Cal P w K mg base 1 "all_settings" ["n"] spSetts):FnOk P w K mg base CX0 14 f fd ["game","s","coins"] (spTrue C):=by
 exists fb
 erw[g,a,b,d,c,ns,tv,ts,cs,x,s,p,1,%[dx|hg],ha,nl,hb,TS,tne,t10,tok,hd,hc,hx,dp,d500,po,p1,p40,q]at h;refine⟨_,(aa (aj (i:=3) fb.nd rfl (Or.inr rfl) (bi ba rfl B.tuple bd %[2|aO]))
  (aa #[aj,4,fb,aE aD rfl B.len PySem.boot_len %[3|aO]]
  (aa #[aj,5,fb,ag eJ hr ⋯ rfl %[ao bm (ao bm (aE aD rfl B.len PySem.boot_len %[ay (pv 0) rfl|aO]) (pv 4)) ae|aO]]
  (aa #[aj,6,fb,dy aO]
  (aa (cv PassesOwn.never rfl (bO rfl B.range %[ao aQ (aJ ix_list (ay (pv 0) rfl) (pv 4) (λ_ _=>rfl)) ae|aO]) (bb (i:=7) fb.nd rfl (Or.inr rfl)) (aa (pJ (i:=8) (N:=["x","s","game","ahead"]) (ix:=[7,1,0,3]) fb.nd rfl (.inl rfl) rfl
   (CompScope.four (by rfl') ⋯ rfl ⋯ rfl ⋯ rfl (by rfl') (by rfl') (by rfl') (by rfl') (by rfl') (by rfl') rfl rfl (by rfl') rfl rfl (by rfl') rfl rfl (by rfl') rfl rfl) rfl
   (eQ (pv 5)) (λ_ _ _=>cG (bQ (pv 3) T.cl mW GW hr bW .nil aY %[ao (mv K) (ao (mv K) (pv 4) (aF %[1|aO])) (pv 0),2|aO])))
   (ad (aR (eA PySem.F.plainAttrs_list PySem.F.slot_list_append PySem.F.type_list_append bZ (pv 6) %[ao bc (aE (rG rfl) rfl B.sum PyProof.Rows.boot_sum %[8|aO]) (ay (pv 0) rfl)|aO])))))
  (ad (aq (pv 6)))))))),?_⟩
 have kl:cs.length<ns.length:=(zW0 hx).1;have d0:=wa (x:=x) tne;have p0:0<p:=Int.lt_trans Int.zero_lt_one p1;erw[0,c,0,.inr %[zC0 hc|6]];have G1:Same H H:=λ_ _ e=>e
 have hah1:=hc;erw[0,c,0,.inr (zC0 hah1),6];erw[0,g,C,dx,_,0,G1 _ _ hg,T.cl,T.nS,oW ..,a,0,.inr (zC0 (G1 _ _ ha)),0,2,2,0,by rw[zE0,zE0];omega,by rw[zE0,zE0];omega,λr H2 r0 S2 R2=>?_];have en:((((ns.map V.str).length:Nat):Int)-(((cs.map V.int).length:Nat):Int)-1).toNat=ns.length-(cs.length+1):=by rw[zE0,zE0];omega
 rw[en]at R2;erw[rs,hrs,TB]at R2;have rl:=TB.length;erw[(by show 0<=sizeLine;decide),λL hL=>?_];have S02:=G1.trans S2;have GL:=zB0 hL (.lst []);have S03:=S02.trans GL;have L0:H L=none:=S02.free hL;have e1:(((cs.map V.int).length:Nat):Int)=(cs.length:Int):=by rw[zE0]
 erw[0,g,C,dx,_,0,S03 _ _ hg,T.cl,T.nD,Dv ..,0,d,_,_,.int (bz ts x),1,1,zG0 (S03 _ _ hd),6,2,0,3,3,dj (λi σ H'=>∃x7 x8:Option V,σ=[some (.ref g),some (.int s),some (.ref c),some (.ref c),some (.int (((cs.map V.int).length:Nat):Int)),some (.ref r),some (.ref L),x7,x8]/\H' L=some (.lst ((gQ ns ts s p cs i).map V.int))/\SameBut L H2 H') %[_,0,by rw[aI];rfl|SameBut.upd _] ?_ ?_]
 . rw[e1];refine cD ?_;rw[zY0,zY0,hx];rfl
 . rintro i σ H4 hi ⟨x7,x8,rfl,hL4,S4⟩;have gL:g≠L:=aV (S02 _ _ hg) hL;have rL:r≠L:=aV hrs hL;have kT:bJ H2 H4:=λc xs h=>S4 c _ (aV h hL) h
   have hg4:=S4 g _ gL (S02 _ _ hg);have hrs4:=S4 r _ rL hrs;have ha4:=kT _ _ (S02 _ _ ha);have hb4:=kT _ _ (S02 _ _ hb);have hah4:=kT _ _ (S2 _ _ hah1);have TS4:=(TS.mono (aX S02)).mono kT;have TB4:=TB.mono kT;erw[0,r,1,%[_|zG0 hrs4],λD hD=>?_];refine gY (K:=K) (xs:=rs) (λj H'=>H' D=some (.lst ((((cP (ns.length-(cs.length+1))).take j).map λst=>hor s p (ts.map λt=>t.worth ns (cs++[(i:Int)]++st) p)).map V.int))/\Same H4 H') %[by rw[aI];rfl|zB0 hD _] (λj H' _ h=>zG0 (h.2 _ _ hrs4)) ?_ ?_
   . rintro j z H5 hz ⟨hD5,S5⟩;let%[st,hst,y,1|hy]:=(TB4.mono (aX S5)).get hz;have stm:=qF0 hst;have stl:=fY _ _ stm;have s01:=lR _ _ stm;have hj:j<rs.length:=(zW0 hz).1;have po2:ci (cs++[(i:Int)]++st) p:=pt01 (ptI po hi dp) p1 s01;have pl2:(cs++[(i:Int)]++st).length=ns.length:=by rw[zJ0,zJ0,qM0];omega
     erw[0,g,dx,0,S5 _ _ hg4,oX _ _ _ _ ⋯ ⋯ ⋯ ⋯,6];erw[0,0,(by show 1<=sizeLine;decide),λu hu=>?_];have Gu:=zB0 hu (.tup [.int (0+(i:Int))]);have hu6:upd H5 u (.tup [.int (0+(i:Int))]) u=some (.tup ([(i:Int)].map V.int)):=by rw[aI,Int.zero_add];rfl
     generalize upd H5 u (.tup [.int (0+(i:Int))])=H6 at Gu hu6;refine pT (Gu _ _ (S5 _ _ hah4)) hu6 (cat1 kl nl).1 λt1 H7 S7 h7=>?_
     erw[0,6];have S57:=Gu.trans S7;refine pT h7 (S57 _ _ hy) (by rw[zJ0,qM0];omega) λt2 H8 S8 h8=>?_
     have S48:=S5.trans (S57.trans S8);erw[0,g,a,b,d,t2,ns,tv,ts,_,s,p,1,%[dx|S48 _ _ hg4],p1,p40,S48 _ _ ha4,S48 _ _ hb4,TS4.mono (aX S48),t10,tok,h8,pl2,po2,λH9 S9=>?_];erw[_,S9 _ _ ((S57.trans S8) _ _ hD5),6,Nx.of hj %[6|λb' o' e'=>?_]]
     . exact Gv (s64 nl)
     . rw[aI,qI0,hst,zK0,zK0];rfl
     . rw[bh (aV e' hD)];exact S9 _ _ (S48 _ _ e')
   rintro H5 ⟨hD5,S5⟩;rw[rl,qG0]at hD5;have hor_r:=λst:List Int=>pO (s:=s) (p:=p) p0 (ts.map λt=>t.worth ns (cs++[(i:Int)]++st) p)
   have sr:=yy (p:=p) p0 (λst:List Int=>hor s p (ts.map λt=>t.worth ns (cs++[(i:Int)]++st) p)) hor_r (cP (ns.length-(cs.length+1)));have hL5:=S5 _ _ hL4;erw[0,.inl %[1,_|zG0 hL5],0,D,0,zG0 hD5,6,6,6]
   . intro n hn;let%[st,_|1]:=List.mem_map.mp hn;exact(hor_r st).1
   . exact sum63 p0 p40 (s64 nl) sr.2
   erw[0,g,C,dx,_,0,S5 _ _ hg4,T.cl,T.nF,gN ..,2,p0,L,2,hL5,6,6]
   . exact Gw hi d500
   . erw[_,0,6,λc o hc e=>?_]
     . rw [aI];unfold gQ;rw[List.range_succ,zK0,zK0];have e2:((cP (ns.length-(cs.length+1))).map λst=>hor s p (ts.map λt=>t.worth ns (cs++[(i:Int)]++st) p)).sum % p=cV ns ts s p (cs++[(i:Int)]):=by
        unfold cV;rw[zJ0,qM0,show(λst:List Int=>hor s p (ts.map λt=>t.worth ns (cs++[(i:Int)]++st) p))=λst=>ig s (ts.map λt=>t.worth ns (cs++[(i:Int)]++st) p) % p from funext λst=>mL _ _ _];exact yz p (λst:List Int=>ig s (ts.map λt=>t.worth ns (cs++[(i:Int)]++st) p)) _
       show some (HO.lst (_++[V.int (((cP (ns.length-(cs.length+1))).map λst=>hor s p (ts.map λt=>t.worth ns (cs++[(i:Int)]++st) p)).sum % p)]))=_;rw[e2];rfl
     . rw[bh hc];exact S5 _ _ (S4 c o hc e)
 . rintro σ H4 ⟨x7,x8,rfl,hL4,S4⟩;erw[0,q L H4 L0 (S02.but L0 S4) hL4]
theorem neS{a b:Str}(h:¬ a=b):¬ V.str a=V.str b:=λz=>h (V.str.inj z)
open Classical in
noncomputable def Hi(p a:Int):Int:=if h:∃g:Int,0<g/\g<p/\g*a % p=1 then h.choose else 0
theorem Dq{p a g k:Int}(g0:0<g)(g1:g<p)(hg:g*a % p=1)(k0:0<k)(k1:k<p)(hk:k*a % p=1):g=k:=by
 have e1:g*(k*a) % p=g:=by
  rw[Int.mul_emod,hk,Int.mul_one,Int.emod_emod,qU0 #[0] g1]
 have e2:k*(g*a) % p=k:=by
  rw[Int.mul_emod,hg,Int.mul_one,Int.emod_emod,qU0 #[0] k1]
 have e3:g*(k*a) % p=k*(g*a) % p:=by rw[Int.mul_left_comm]
 exact e1.symm.trans (e3.trans e2)
theorem Fn{p a g:Int}(g0:0<g)(g1:g<p)(hg:g*a % p=1):Hi p a=g:=by
 have h:∃g:Int,0<g/\g<p/\g*a % p=1:=%[g,g0,g1|hg]
 unfold Hi;rw[dif_pos h];erw[k0,k1,hk]at h.choose_spec;exact Dq k0 k1 hk g0 g1 hg
noncomputable def yh(p x y:Int):Int:=if y=0 then 0 else x*Hi p y % p
noncomputable def opV(p:Int)(s:Str)(x y:Int):Int:=
 if s="+" then(x+y) % p else if s="-" then(x-y) % p else if s="*" then x*y % p else if s="/" then yh p x y else if s="=" then(if x=y then 1 else 0)else if x<y then 1 else 0
theorem DK{p:Int}(hp:0<p):0<=yh p x y/\yh p x y<p:=by
 unfold yh
 split
 . omega
 . erw[qB0 _ #[0],qE0 _ hp]
theorem EL{p:Int}(hp:1<p):0<=opV p s x y/\opV p s x y<p:=by
 have m:∀z:Int,0<=z % p/\z % p<p:=λz=>%[qB0 _ #[0]|qE0 _ #[0]]
 unfold opV
 split
 . exact m _
 . split
   . exact m _
   . split
     . exact m _
     . split
       . exact DK #[0]
       . split <;> split <;> omega
inductive spDiv(vs:List V)(H:Hp)(Q:VK)(u_3:XK):Prop
 |mk:∀(x y p:Int),vs=[.int x,.int y,.int p]->Pr p->p<=999983->0<=x->x<p->0<=y->y<p->Q (.int (yh p x y)) H->spDiv vs H Q u_3
theorem wV:FnScope ["first","second","p"] ["first","second","p"] (ai oa):=%[1,1,1,4,1,4|4]
theorem xD   (F:Fun K "divided" "divided" oa f fd) (fc:Cal P w K mg base 1 "inverse_of" ["a","p"] spInv):FnOk P w K mg base CX0 2 f fd ["first","second","p"] spDiv:=by
 exists wV
 erw[x,y,p,1,pp,p9,x0,x1,y0,y1,q]at h;refine⟨_,(aa (aG (ah aP (pv 1) ae (ax _)) (ad (aq ae)) az)
  (ad (aq (ao bc (ao cq (pv 0) (ag fc hr ⋯ rfl %[1,2|aO])) (pv 2))))),?_⟩
 unfold yh at q;erw[0,1,0,6]
 by_cases c:y=0
 . rw[zD0 c]at q;exact aS (congrArg V.int c) q
 . rw[zA0 c]at q;refine aB (λz=>c (V.int.inj z)) ?_;erw[0,0,0,y,p,1,pp,p9,3,y1,λg g0 g1 hg=>?_];rw[Fn g0 g1 hg]at q;erw[2,.inl %[3|3],0,2,(by show 0<p;omega),q]
def signW:List Str:=["+","-","*","/","=","<"]
inductive spOp(vs:List V)(H:Hp)(Q:VK)(u_3:XK):Prop
 |mk:∀(s:Str)(x y p:Int),vs=[.str s,.int x,.int y,.int p]->s∈signW->Pr p->p<=999983->0<=x->x<p->0<=y->y<p->Q (.int (opV p s x y)) H->spOp vs H Q u_3
theorem va:FnScope ["sign","first","second","p"] ["sign","first","second","p"] (ai lA):=%[1,1,1,4,1,4|4]
theorem opV_1 :opV p "+" x y=(x+y) % p:=zD0 rfl
theorem opV_2 :opV p "-" x y=(x-y) % p:=by unfold opV;rw[zA0 ⋯,zD0 rfl]
theorem opV_3 :opV p "*" x y=x*y % p:=by unfold opV;rw[zA0 ⋯,zA0 ⋯,zD0 rfl]
theorem opV_4 :opV p "/" x y=yh p x y:=by unfold opV;rw[zA0 ⋯,zA0 ⋯,zA0 ⋯,zD0 rfl]
theorem opV_5 :opV p "=" x y=if x=y then 1 else 0:=by unfold opV;rw[zA0 ⋯,zA0 ⋯,zA0 ⋯,zA0 ⋯,zD0 rfl]
theorem opV_6 :opV p "<" x y=if x<y then 1 else 0:=by unfold opV;rw[zA0 ⋯,zA0 ⋯,zA0 ⋯,zA0 ⋯,zA0 ⋯]
theorem vy   (F:Fun K "op_value" "op_value" lA f fd) (qo:Cal P w K mg base 2 "divided" ["first","second","p"] spDiv):FnOk P w K mg base CX0 3 f fd ["sign","first","second","p"] spOp:=by
 exists va
 erw[s,x,y,p,1,hs,pp,p9,x0,x1,y0,y1,q]at h;have p0:0<p:=by omega
 refine⟨_,(aa (aG (ah aP (pv 0) au (ax _)) (ad (aq (ao bc (ao aQ (pv 1) (pv 2)) (pv 3)))) az)
  (aa (aG (ah aP (pv 0) au (ax _)) (ad (aq (ao bc (ao bm (pv 1) (pv 2)) (pv 3)))) az)
  (aa (aG (ah aP (pv 0) au (ax _)) (ad (aq (ao bc (ao cq (pv 1) (pv 2)) (pv 3)))) az)
  (aa (aG (ah aP (pv 0) au (ax _)) (ad (aq (ag qo hr ⋯ rfl %[1,2,3|aO]))) az)
  (aa (aG (ah aP (pv 0) au (ax _)) (ad (aq (vo (ah aP (pv 1) (pv 2) (ax _)) ae ae))) az)
  (ad (aq (vo (ah dP (pv 1) (pv 2) (ax _)) ae ae)))))))),?_⟩
 have hs':s="+"∨s="-"∨s="*"∨s="/"∨s="="∨s="<":=by simpa [signW]using hs
 rcases hs' with rfl | rfl | rfl | rfl | rfl | rfl
 . rw[opV_1]at q;erw[0,1,0,aS rfl ?_];erw[0,0,2,0,2,p0,q]
 . rw[opV_2]at q;erw[0,1,0,aB (neS ⋯) ?_];erw[0,1,0,aS rfl ?_];erw[0,0,2,0,2,p0,q]
 . rw[opV_3]at q;erw[0,1,0,aB (neS ⋯) ?_];erw[0,1,0,aB (neS ⋯) ?_];erw[0,1,0,aS rfl ?_];erw[0,0,2,.inl %[3|3],0,2,p0,q]
 . rw[opV_4]at q;erw[0,1,0,aB (neS ⋯) ?_];erw[0,1,0,aB (neS ⋯) ?_];erw[0,1,0,aB (neS ⋯) ?_];erw[0,1,0,aS rfl ?_];erw[0,0,0,x,y,p,1,pp,p9,x0,x1,y0,y1,q]
 . rw [opV_5]at q;erw[0,1,0,aB (neS ⋯) ?_];erw[0,1,0,aB (neS ⋯) ?_];erw[0,1,0,aB (neS ⋯) ?_];erw[0,1,0,aB (neS ⋯) ?_];erw[0,1,0,aS rfl ?_];erw[0,0,1,0,6]
   by_cases c:x=y
   . rw[zD0 c]at q;exact aS (congrArg V.int c) q
   . rw[zA0 c]at q;exact aB (λz=>c (V.int.inj z)) q
 . rw [opV_6]at q;erw[0,1,0,aB (neS ⋯) ?_];erw[0,1,0,aB (neS ⋯) ?_];erw[0,1,0,aB (neS ⋯) ?_];erw[0,1,0,aB (neS ⋯) ?_];erw[0,1,0,aB (neS ⋯) ?_];erw[0,0,2,0,6]
   by_cases c:x<y
   . rw[zD0 c]at q;exact aS c q
   . rw[zA0 c]at q;exact aB c q
theorem iA{t':TS}(h:PSs X ss t)(hw:∀D σ H,t' D σ H->t D σ H):PSs X ss t':=λpins s σ H D I k=>h pins s σ H D I (hw _ _ _ k)
inductive Tm where
 | num (n:Int) | box (x:Str) | plain (w:Str) | ask (w:Str) (a:Tm) | op (s:Str) (a b:Tm)
def Tm.size:Tm->Nat
 | .num _=>1 | .box _=>1 | .plain _=>1 | .ask _ a=>a.size+1 | .op _ a b=>a.size+b.size+1
def Tm.depth:Tm->Nat
 | .num _=>1 | .box _=>1 | .plain _=>1 | .ask _ a=>a.depth+1 | .op _ a b=>max a.depth b.depth+1
theorem Tm.depth_pos:∀t:Tm,1<=t.depth
 | .num _=>zH0 _ | .box _=>zH0 _ | .plain _=>zH0 _ | .ask _ a=>Nat.le_add_left .. | .op _ a b=>Nat.le_add_left ..
theorem Tm.size_pos:∀t:Tm,1<=t.size
 | .num _=>zH0 _ | .box _=>zH0 _ | .plain _=>zH0 _ | .ask _ a=>Nat.le_add_left .. | .op _ a b=>Nat.le_add_left ..
def plainW:List Str:=["round","due","asked"]
def askW:List Str:=["coin","true"]
inductive TmAt(H:Hp):V->Tm->Prop
 | num {a:Addr} {n:Int}:H a=some (.tup [.str "num",.int n])->TmAt H (.ref a) (.num n)
 | box {a:Addr} {x:Str}:H a=some (.tup [.str "box",.str x])->TmAt H (.ref a) (.box x)
 | plain {a:Addr} {w:Str}:H a=some (.tup [.str w])->TmAt H (.ref a) (.plain w)
 | ask {a:Addr} {w:Str} {v:V} {t:Tm}:H a=some (.tup [.str w,v])->TmAt H v t->TmAt H (.ref a) (.ask w t)
 | op {a:Addr} {s:Str} {v u:V} {t r:Tm}:H a=some (.tup [.str "op",.str s,v,u])->TmAt H v t->TmAt H u r->TmAt H (.ref a) (.op s t r)
theorem TmAt.mono(k:bJ H H')(h:TmAt H v t):TmAt H' v t:=by
 induction h with
 | num e=>exact .num (k _ _ e)
 | box e=>exact .box (k _ _ e)
 | plain e=>exact .plain (k _ _ e)
 | ask e _ ih=>exact .ask (k _ _ e) ih
 | op e _ _ i1 i2=>exact .op (k _ _ e) i1 i2
inductive Hr where
 | fin | go (n:Int) | iff (t:Tm) (n:Int) | set (x:Str) (t:Tm) | say (t:Tm)
inductive HrAt(H:Hp):V->Hr->Prop
 | fin {a:Addr}:H a=some (.tup [.str "end"])->HrAt H (.ref a) .fin
 | go {a:Addr} {n:Int}:H a=some (.tup [.str "go",.int n])->HrAt H (.ref a) (.go n)
 | iff {a:Addr} {v:V} {t:Tm} {n:Int}:H a=some (.tup [.str "if",v,.int n])->TmAt H v t->HrAt H (.ref a) (.iff t n)
 | set {a:Addr} {x:Str} {v:V} {t:Tm}:H a=some (.tup [.str "set",.str x,v])->TmAt H v t->HrAt H (.ref a) (.set x t)
 | say {a:Addr} {v:V} {t:Tm}:H a=some (.tup [.str "say",v])->TmAt H v t->HrAt H (.ref a) (.say t)
theorem HrAt.mono(k:bJ H H')(h:HrAt H v r):HrAt H' v r:=by
 cases h with
 | fin e=>exact .fin (k _ _ e)
 | go e=>exact .go (k _ _ e)
 | iff e t=>exact .iff (k _ _ e) (t.mono k)
 | set e t=>exact .set (k _ _ e) (t.mono k)
 | say e t=>exact .say (k _ _ e) (t.mono k)
section
variable {CM CA CG:Addr}
abbrev tW:Stmt:=bp jY 0
abbrev qE:Stmt:=bp jY 1
abbrev tX:Stmt:=bp jY 2
abbrev og:Stmt:=bp jY 3
abbrev tV:Stmt:=bp jY 4
abbrev tN:Stmt:=bp kC 0
abbrev wY:Stmt:=bp kC 1
abbrev wZ:Stmt:=bp kC 2
def al (g:Addr) (nr mn hd s:Int) (aT:Addr) (tr:V):List (Str×V):=[("game",.ref g),("number",.int nr),("many",.int mn),("held",.int hd),("s",.int s),("tossed",.ref aT),("truths",tr)]
theorem uQ    :(al g nr mn hd s aT tr).lookup ("game":Str)=some (.ref g):=by rfl'
structure ATxt(K:W.Frag)(mg:Str->Option Value)(C:Addr):Prop where
 cl:Cls K C
 nG:NoAttr K C "game"
 nN:NoAttr K C "number"
 nM:NoAttr K C "many"
 nH:NoAttr K C "held"
 nS:NoAttr K C "s"
 nT:NoAttr K C "tossed"
 nR:NoAttr K C "truths"
 mgC:mg "Asking"=some (.ref C)
def ml (g h:Addr) (r:Int) (b:Addr):List (Str×V):=[("game",.ref g),("helper",.ref h),("next_round",.int r),("boxes",.ref b)]
section
variable {g h b:Addr} {r:Int}
theorem ml_g:(ml g h r b).lookup ("game":Str)=some (.ref g):=by rfl'
theorem Fd:(ml g h r b).lookup ("helper":Str)=some (.ref h):=by rfl'
theorem Ha:(ml g h r b).lookup ("next_round":Str)=some (.int r):=by rfl'
theorem Dc:(ml g h r b).lookup ("boxes":Str)=some (.ref b):=by rfl'
theorem ml_n1:(ml g h r b).lookup ("do_row":Str)=none:=by rfl'
theorem ml_n2:(ml g h r b).lookup ("say":Str)=none:=by rfl'
theorem xN:(ml g h r b).length<1000:=by show 4<1000;decide
theorem Da {v:Int}:cu "next_round" (.int v) (ml g h r b)=ml g h v b:=by rfl'
end
structure MTxt(K:W.Frag)(mg:Str->Option Value)(C:Addr):Prop where
 cl:Cls K C
 nG:NoAttr K C "game"
 nH:NoAttr K C "helper"
 nR:NoAttr K C "next_round"
 nB:NoAttr K C "boxes"
 mgC:mg "Machine"=some (.ref C)
def BxAt(H:Hp)(b:Addr)(bx:Str->Int)(m:Nat):Prop:=∃kvs:List (Key×V),H b=some (.dK kvs)/\kvs.length<=m/\∀x:Str,(hE kvs (.inr x)).getD (.int 0)=.int (bx x)
def jH(bx:Str->Int)(x:Str)(n:Int):Str->Int:=λy=>if y=x then n else bx y
theorem BxAt.keep{H':Hp}(h:BxAt H b bx m)(k:∀o,H b=some o->H' b=some o):BxAt H' b bx m:=by
 erw[kvs,e,r]at h;erw[kvs,k _ e,r]
theorem HK{kvs:List (Key×V)}{bx:Str->Int}(x:Str)(n:Int)(h:∀x:Str,(hE kvs (.inr x)).getD (.int 0)=.int (bx x)):∀y:Str,(hE (mf kvs (.inr x) (.int n)) (.inr y)).getD (.int 0)=.int (jH bx x n y):=λy=>by
 rw[Ba];unfold jH
 by_cases c:y=x
 . rw[zD0 (by rw[c]),zD0 c];rfl
 . rw[zA0 (λz=>c (Sum.inr.inj z)),zA0 c];exact h y
section
variable {g aT:Addr} {nr mn hd s:Int} {tr:V}
theorem HN:(al g nr mn hd s aT tr).lookup ("number":Str)=some (.int nr):=by rfl'
theorem al_m:(al g nr mn hd s aT tr).lookup ("many":Str)=some (.int mn):=by rfl'
theorem al_h:(al g nr mn hd s aT tr).lookup ("held":Str)=some (.int hd):=by rfl'
theorem al_s:(al g nr mn hd s aT tr).lookup ("s":Str)=some (.int s):=by rfl'
theorem al_t:(al g nr mn hd s aT tr).lookup ("tossed":Str)=some (.ref aT):=by rfl'
theorem Fx:(al g nr mn hd s aT tr).lookup ("truths":Str)=some tr:=by rfl'
theorem al_n1:(al g nr mn hd s aT tr).lookup ("plain_value":Str)=none:=by rfl'
theorem al_n2:(al g nr mn hd s aT tr).lookup ("coin_at":Str)=none:=by rfl'
theorem al_n3:(al g nr mn hd s aT tr).lookup ("true_numbers":Str)=none:=by rfl'
theorem al_n4:(al g nr mn hd s aT tr).lookup ("true_at":Str)=none:=by rfl'
theorem DT :cu "truths" v (al g nr mn hd s aT tr)=al g nr mn hd s aT v:=by rfl'
theorem DU:(al g nr mn hd s aT tr).length<1000:=by show 7<1000;decide
end
structure Ak where
 ns:List Str
 ts:List Tr
 p:Int
 nr:Int
 mn:Int
 hd:Int
 s:Int
 to:List Int
def Ak.tru (z:Ak):List Int:=if z.nr=0 then z.ts.map (λt=>(cnt t z.ns:Int))else gQ z.ns z.ts z.s z.p z.to (bz z.ts (z.ns.getD z.to.length "")+1).toNat
structure AkOk(z:Ak):Prop where
 gk:GmK z.ns z.ts z.p
 n6:z.ns.length<=6
 nr0:0<=z.nr
 nrt:0<z.nr->z.to.length<z.ns.length
 po:ci z.to z.p
 s0:0<=z.s
 s1:z.s<z.p
 h0:0<=z.hd
 h1:z.hd<z.p
 tl:z.to.length<=100
def AkAt(CA CG:Addr)(H:Hp)(k g v:Addr)(z:Ak):Prop:=∃(dk aT a b d:Addr)(tv:List V)(tr:V),H k=some (.ins CA dk (al g z.nr z.mn z.hd z.s aT tr))/\GameAt CG H g a b d z.p/\H a=some (.tup (z.ns.map V.str))/\H b=some (.tup tv)/\TreesAt H tv z.ts/\H d=some (.lst ((z.ns.map (bz z.ts)).map V.int))/\d≠v/\H aT=some (.tup (z.to.map V.int))/\(tr=.non∨∃l,tr=.ref l/\l≠v/\H l=some (.lst (z.tru.map V.int)))
theorem AkAt.same(h:AkAt CA CG H k g v z)(s:Same H H'):AkAt CA CG H' k g v z:=by
 erw[dk,aT,a,b,d,tv,tr,h1,h2,h3,h4,h5,h6,h7,h8,h9]at h;erw[dk,aT,a,b,d,tv,tr,s _ _ h1,h2.same s,s _ _ h3,s _ _ h4,h5.mono (aX s),s _ _ h6,h7,s _ _ h8,h9.imp_right fun⟨l,e,n,r⟩=>%[l,e,n|s _ _ r]]
theorem AkAt.but2{H':Hp}{b:Addr}{kvs:List (Key×V)}{ys:List V}(h:AkAt CA CG H k g v z)(hb:H b=some (.dK kvs))(hv:H v=some (.lst ys))(s:∀a o,a≠b->a≠v->H a=some o->H' a=some o):AkAt CA CG H' k g v z:=by
 erw[dk,aT,a,b',d,tv,tr,h1,%[dg|h2],h3,h4,h5,h6,h7,h8,h9]at h;have T:bJ H H':=λc xs e=>s _ _ (bn e hb (by intro z;cases z)) (bn e hv (by intro z;cases z)) e
 erw[dk,aT,a,b',d,tv,tr,s _ _ (bn h1 hb (by intro z;cases z)) (bn h1 hv (by intro z;cases z)) h1,%[dg|s _ _ (bn h2 hb (by intro z;cases z)) (bn h2 hv (by intro z;cases z)) h2],T _ _ h3,T _ _ h4,h5.mono T,s _ _ (bn h6 hb (by intro z;cases z)) h7 h6,h7,T _ _ h8,h9.imp_right fun⟨l,e,n,r⟩=>%[l,e,n|s _ _ (bn r hb (by intro z;cases z)) n r]]
def lg(z:Ak):List Int:=if 1<z.ts.length then z.s::z.to else z.to
def ko(z:Ak)(i:Int):Int:=if 1<=i/\i<=((lg z).length:Int)then(lg z).getD (i-1).toNat 0 else 0
def gi(z:Ak)(i:Int):Int:=if 0<z.nr then val z.p z.tru i else if i<(z.tru.length:Int)then z.tru.getD i.toNat 0 % z.p else 0
def oi (z:Ak) (w:Str):Int:=if w="round" then z.nr % z.p else if w="asked" then z.mn % z.p else z.hd
theorem AkOk.p0(k:AkOk z):2<z.p:=k.gk.p2
theorem mO(h:ci xs p)(p0:0<p)(i:Nat):0<=xs.getD i 0/\xs.getD i 0<p:=by
 rw[qP0];cases e:xs[i]? with
 | none=>erw[Int.le_refl 0,p0]
 | some x=>exact h x (qF0 e)
theorem DQ(k:AkOk z):ci (lg z) z.p:=by
 unfold lg
 split
 . intro x hx;rcases zX0 hx with rfl | hx
   . erw[k.s0,k.s1]
   . exact k.po x hx
 . exact k.po
theorem AR(k:AkOk z)(i:Int):0<=ko z i/\ko z i<z.p:=by
 have:=k.p0
 unfold ko
 split
 . exact mO (DQ k) #[0] _
 . omega
theorem zt(k:AkOk z)(i:Int):0<=gi z i/\gi z i<z.p:=by
 have:=k.p0
 unfold gi
 split
 . erw[qB0 _ #[0],qE0 _ #[0]]
 . split
   . erw[qB0 _ #[0],qE0 _ #[0]]
   . omega
theorem xq(k:AkOk z)(w:Str):0<=oi z w/\oi z w<z.p:=by
 have:=k.p0
 unfold oi
 split
 . erw[qB0 _ #[0],qE0 _ #[0]]
 . split
   . erw[qB0 _ #[0],qE0 _ #[0]]
   . erw[k.h0,k.h1]
inductive spPlain(CA CG:Addr)(vs:List V)(H:Hp)(Q:VK)(u_3:XK):Prop
 |mk:∀(k g v:Addr)(z:Ak)(w:Str),vs=[.ref k,.str w]->AkAt CA CG H k g v z->0<z.p->Q (.int (oi z w)) H->spPlain CA CG vs H Q u_3
theorem zK:FnScope ["self","word"] ["self","word"] (ai qE):=%[1,1,1,4,1,4|4]
theorem Ag   (F:Fun K "plain_value" "Asking.plain_value" qE f fd) (TA:ATxt K mg CA) (TG:GTxt K mg CG):FnOk P w K mg base CX0 1 f fd ["self","word"] (spPlain CA CG):=by
 exists zK
 erw[k,g,v,z,w,1,%[dk,aT,a,b,d,tv,tr,hk,%[dg|hg]|_],p0,q]at h;refine⟨_,(aa (aG (ah aP (pv 1) au (ax _)) (ad (aq (ao bc (ay (pv 0) rfl) (ay (ay (pv 0) rfl) rfl)))) az)
  (aa (aG (ah aP (pv 1) au (ax _)) (ad (aq (ao bc (ay (pv 0) rfl) (ay (ay (pv 0) rfl) rfl)))) az)
  (ad (aq (ay (pv 0) rfl))))),?_⟩
 unfold oi at q;erw[0,1,0,6]
 by_cases c:w="round"
 . rw[zD0 c]at q;refine aS (congrArg V.str c) ?_;erw[0,k,CA,dk,_,0,hk,TA.cl,TA.nN,HN,0,k,CA,dk,_,0,hk,TA.cl,TA.nG,uQ,g,CG,dg,_,0,hg,TG.cl,TG.nF,gN ..,2,p0,q]
 . rw [zA0 c]at q;refine aB (neS c) ?_;erw[0,1,0,6]
   by_cases c:w="asked"
   . rw[zD0 c]at q;refine aS (congrArg V.str c) ?_;erw[0,k,CA,dk,_,0,hk,TA.cl,TA.nM,al_m,0,k,CA,dk,_,0,hk,TA.cl,TA.nG,uQ,g,CG,dg,_,0,hg,TG.cl,TG.nF,gN ..,2,p0,q]
   . rw[zA0 c]at q;refine aB (neS c) ?_;erw[0,k,CA,dk,_,0,hk,TA.cl,TA.nH,al_h,q]
inductive spCoinAt(CA CG:Addr)(vs:List V)(H:Hp)(Q:VK)(u_3:XK):Prop
 |mk:∀(k g v:Addr)(z:Ak)(i:Int),vs=[.ref k,.int i]->AkAt CA CG H k g v z->z.to.length<=100->(∀H',Same H H'->Q (.int (ko z i)) H')->spCoinAt CA CG vs H Q u_3
theorem A9:FnScope ["self","place","tossed"] ["self","place"] (ai tX):=%[1,1,1,4,1,4|4]
inductive tCoinE(z:Ak)(Dn:Ends)(σ:St)(H:Hp):Prop
 |mk:∀(x0:Option V)(a:Addr)(i:Int),σ=[x0,some (.int i),some (.ref a)]->H a=some (.tup ((lg z).map V.int))->Dn.rt (.int (ko z i)) H->tCoinE z Dn σ H
theorem CF   (F:Fun K "coin_at" "Asking.coin_at" tX f fd) (B:Bl mg) (TA:ATxt K mg CA) (TG:GTxt K mg CG):FnOk P w K mg base CX0 1 f fd ["self","place"] (spCoinAt CA CG):=by
 exists A9
 erw[k,g,v,z,i,1,%[dk,aT,a,b,d,tv,tr,hk,%[dg|hg],ha,hb,TS,_,_,hT|_],tl,q]at h;have vl:=TS.length;refine⟨_,(aa #[aj,2,A9,ay (pv 0) rfl]
  (aa (aG (ah gK (aE aD rfl B.len PySem.boot_len %[ay (ay (pv 0) rfl) rfl|aO]) ae (ax _)) (ad #[aj,2,A9,ao op_catT (aF %[ay (pv 0) rfl|aO]) (pv 2)]) az)
  (iA (t':=tCoinE z) (aa (aG (BV oN oN ae (pv 1) (aE aD rfl B.len PySem.boot_len %[2|aO])) (ad (aq (aJ ix_tup (pv 2) (ao bm (pv 1) ae) (λ_ _=>rfl)))) az)
  (ad (aq ae))) (by
   rintro Dn σ H ⟨x0,a,i,rfl,ha,q⟩;unfold ko at q;erw[0,2,0,6];have el:(((lg z).map V.int).length:Int)=((lg z).length:Int):=by rw[zE0]
   by_cases c1:1<=i
   . refine aS c1 ?_;erw[0,a,0,.inr (zC0 ha),2,0,6]
     by_cases c2:i<=((lg z).length:Int)
     . rw [zD0 %[c1|c2]]at q;refine aS (by rw[el];exact c2) ?_;obtain⟨j,ej⟩:∃j:Nat,i-1=(j:Int):=⟨(i-1).toNat,by omega⟩
       rw[ej,qO0]at q;erw[0,0,2,a,_,2,zC0 ha,6,q];rw[ej];exact mK #[0]
     . rw[zA0 (λz=>c2 z.2)]at q;exact aB (by rw[el];exact c2) q
   . rw[zA0 (λz=>c1 z.1)]at q;exact aB c1 %[0|cW q])))),?_⟩
 erw[0,k,CA,dk,_,0,hk,TA.cl,TA.nT,al_t,6];erw[0,k,CA,dk,_,0,hk,TA.cl,TA.nG,uQ,g,CG,dg,_,0,hg,TG.cl,TG.nT,mN ..,b,0,.inr (zC0 hb),2,0,6]
 by_cases c:1<z.ts.length
 . refine aS (by rw[vl];omega) ?_;have ec:lg z=z.s::z.to:=zD0 c;erw[0,k,CA,dk,_,0,hk,TA.cl,TA.nS,al_s,(by show 1<=sizeLine;decide),λt ht=>?_];have I:=zB0 ht (.tup [.int z.s]);have g1:upd H t (.tup [.int z.s]) t=some (.tup [.int z.s]):=aI;generalize upd H t (.tup [.int z.s])=H1 at I g1;erw[0,t,aT,2,zC0 g1,zC0 (I _ _ hT),(λz=>nomatch z),ca (by show 1+(z.to.map V.int).length<=1000;rw[zE0];omega),λe=>?_,λ_ y hy=>?_]
   . erw[_,t,i,1,6,q _ I];rw[ec,g1,zZ0,e]
   . erw[_,y,i,1,6,q _ (I.trans (zB0 hy _))];rw[aI,ec];rfl
 . refine aB (by rw[vl];omega) ?_;have ec:lg z=z.to:=zA0 c;erw[_,aT,i,1,by rw[ec];exact hT,q _ λ_ _ e=>e]
end
section
variable {CM CA CG:Addr}
theorem BO(ns:List Str)(ts:List Tr)(s p:Int)(cs:List Int)(n:Nat):(gQ ns ts s p cs n).length=n:=by
 unfold gQ;rw[zE0,qQ0]
theorem BN{p:Int}(hp:0<p):ci (gQ ns ts s p cs n) p:=λx hx=>by
 unfold gQ at hx;let%[k,_|1]:=List.mem_map.mp hx;erw[qB0 _ #[0],qE0 _ hp]
theorem AkOk.deg  (k:AkOk z) (h:0<z.nr):∃x,z.ns[z.to.length]?=some x/\z.ns.getD z.to.length ""=x/\0<=bz z.ts x/\bz z.ts x<z.p/\bz z.ts x<=400:=by
 have hl:=k.nrt h;erw[z.ns[z.to.length],zQ0 hl,by rw[qP0,zQ0 hl];rfl,6];have hm:=qR0 hl;let%[d0|d1]:=k.gk.deg _ hm;erw[d0,d1,6];have t0:z.ts≠[]:=λe=>by have:=k.gk.t1;rw[e]at this;cases this
 have:=kj (p:=401) (x:=z.ns[z.to.length]) t0 λt ht=>by
  have h1:=(k.gk.tok t ht).2.2.2;have h2:=t.names_len;have h3:=List.count_le_length (a:=z.ns[z.to.length]) (l:=t.names);omega
 omega
theorem AkOk.row(k:AkOk z)(h:0<z.nr):li z.tru z.p:=by
 let%[x,hx,ex,d0,d1|d4]:=k.deg h;have p2:=k.p0;have p9:=k.gk.p9;have e:z.tru=gQ z.ns z.ts z.s z.p z.to (bz z.ts x+1).toNat:=by
  unfold Ak.tru;rw[zA0 #[0],ex]
 rw[e];unfold li;rw[BO];erw[3,3,3,λj=>?_]
 have:=mO (BN (ns:=z.ns) (ts:=z.ts) (s:=z.s) (cs:=z.to) (n:=(bz z.ts x+1).toNat) (show 0<z.p by omega)) #[0] j
 omega
inductive spTruths(CA CG:Addr)(vs:List V)(H:Hp)(Q:VK)(u_3:XK):Prop
 |mk:∀(k g v:Addr)(z:Ak)(ys:List V),vs=[.ref k]->AkAt CA CG H k g v z->AkOk z->H v=some (.lst ys)->(∀(l:Addr)(H':Hp),H' l=some (.lst (z.tru.map V.int))->AkAt CA CG H' k g v z->SameBut k H H'->Q (.ref l) H')->spTruths CA CG vs H Q u_3
theorem wX:FnScope ["self"] ["self"] (ai og):=%[1,1,1,4,1,4|4]
theorem xF   (F:Fun K "true_numbers" "Asking.true_numbers" og f fd) (TA:ATxt K mg CA) (lZ:Cal P w K mg base 16 "counts_of" ["game"] (spCounts CG)) (oJ:Cal P w K mg base 14 "true_row" ["game","s","coins"] (spTrue CG)):FnOk P w K mg base CX0 17 f fd ["self"] (spTruths CA CG):=by
 exists wX
 erw[k,g,v,z,ys,1,AK,ok,hv,q]at h;refine⟨_,(aa (aG (ah ug (ay (pv 0) rfl) ju (ax _)) (ad (aG (ah aP (ay (pv 0) rfl) ae (ax _)) (ad (aN (pv 0) (ag lZ hr ⋯ rfl %[ay (pv 0) rfl|aO]) rfl)) (ad (aN (pv 0) (ag oJ hr ⋯ rfl %[ay (pv 0) rfl,ay (pv 0) rfl,ay (pv 0) rfl|aO]) rfl)))) az)
  (ad (aq (ay (pv 0) rfl)))),?_⟩
 have AK':=AK;erw[dk,aT,a,b,d,tv,tr,hk,GA,ha,hb,TS,hd,dv,hT,ht]at AK';have t0:z.ts≠[]:=λe=>by have:=ok.gk.t1;rw[e]at this;cases this
 have t10:=ok.gk.t10;have p2:=ok.p0;have p9:=ok.gk.p9;erw[0,k,CA,dk,_,0,hk,TA.cl,TA.nR,Fx,6];rcases ht with rfl | ⟨l,rfl,lv,hl⟩
 . -- not yet asked
   have put:∀(l:Addr)(H1:Hp),H l=none->Same H H1->H1 l=some (.lst (z.tru.map V.int))->AkAt CA CG (upd H1 k (.ins CA dk (al g z.nr z.mn z.hd z.s aT (.ref l)))) k g v z/\(upd H1 k (.ins CA dk (al g z.nr z.mn z.hd z.s aT (.ref l)))) l=some (.lst (z.tru.map V.int))/\SameBut k H (upd H1 k (.ins CA dk (al g z.nr z.mn z.hd z.s aT (.ref l)))):=by
    intro l H1 l0 S1 hl;have lk:l≠k:=(aV hk l0).symm;have U:∀{c:Addr}{o:HO},c≠k->H1 c=some o->(upd H1 k (.ins CA dk (al g z.nr z.mn z.hd z.s aT (.ref l)))) c=some o:=λn e=>by rw[bh n];exact e
    have gk:g≠k:=λe=>by
     erw[dg,hg]at GA;rw[e,hk]at hg;cases hg
    have kT:bJ H (upd H1 k (.ins CA dk (al g z.nr z.mn z.hd z.s aT (.ref l)))):=λc xs e=>U (bn e hk (by intro z;cases z)) (S1 _ _ e)
    erw[dg,hg]at GA;erw[%[dk,aT,a,b,d,tv,.ref l,aI,%[dg|U gk (S1 _ _ hg)],kT _ _ ha,kT _ _ hb,TS.mono kT,U (bn hd hk (by intro z;cases z)) (S1 _ _ hd),dv,kT _ _ hT|.inr %[l,1,(aV hv l0).symm|U lk hl]],U lk hl,(zI0 S1).trans (SameBut.upd _)]
   erw[1,0,ei ?_];erw[0,k,CA,dk,_,0,hk,TA.cl,TA.nN,HN,1,0,6]
   by_cases c:z.nr=0
   . refine aS (congrArg V.int c) ?_;erw[0,k,CA,dk,_,0,hk,TA.cl,TA.nG,uQ,g,a,b,d,z.ns,tv,z.ts,z.p,1,GA,ha,ok.n6,hb,TS,t10,λt ht=>%[(ok.gk.tok t ht).1|by have:=(ok.gk.tok t ht).2.2.1;omega],λl H1 l0 S1 hl=>?_];have et:z.tru=z.ts.map (λt=>(cnt t z.ns:Int)):=zD0 c;rw[←et]at hl;let%[A1,L1|B1]:=put l H1 l0 S1 hl;erw[0,k,CA,dk,0,S1 _ _ hk,TA.cl,TA.nR,DU,6];rw[DT];erw[0,k,CA,dk,_,0,aI,TA.cl,TA.nR,Fx,q l _ L1 A1 B1]
   . refine aB (λe=>c (V.int.inj e)) ?_;have n0:=ok.nr0;let%[x,hx,ex,d0,d1|d4]:=ok.deg #[0];erw[0,k,CA,dk,_,0,hk,TA.cl,TA.nG,uQ,0,k,CA,dk,_,0,hk,TA.cl,TA.nS,al_s,0,k,CA,dk,_,0,hk,TA.cl,TA.nT,al_t,g,a,b,d,aT,z.ns,tv,z.ts,z.to,x,z.s,z.p,1,GA,ha,ok.n6,hb,TS,t0,t10,λt ht=>%[(ok.gk.tok t ht).1|(ok.gk.tok t ht).2.2.1],hd,hT,hx,d1,3,ok.po,3,3,λl H1 l0 S1 hl=>?_];have et:z.tru=gQ z.ns z.ts z.s z.p z.to (bz z.ts x+1).toNat:=by
      unfold Ak.tru;rw[zA0 c,ex]
     rw[←et]at hl;let%[A1,L1|B1]:=put l H1 l0 S1 hl;erw[0,k,CA,dk,0,S1 _ _ hk,TA.cl,TA.nR,DU,6];rw[DT];erw[0,k,CA,dk,_,0,aI,TA.cl,TA.nR,Fx,q l _ L1 A1 B1]
 . erw[1,0,cW ?_];erw[0,k,CA,dk,_,0,hk,TA.cl,TA.nR,Fx,q l H hl AK (SameBut.refl _ _)]
inductive spTrueAt(CA CG:Addr)(vs:List V)(H:Hp)(Q:VK)(u_3:XK):Prop
 |mk:∀(k g v:Addr)(z:Ak)(ys:List V)(i:Int),vs=[.ref k,.int i]->AkAt CA CG H k g v z->AkOk z->H v=some (.lst ys)->0<=i->i<z.p->(∀H',AkAt CA CG H' k g v z->SameBut k H H'->Q (.int (gi z i)) H')->spTrueAt CA CG vs H Q u_3
theorem Ie:FnScope ["self","place","truths"] ["self","place"] (ai tV):=%[1,1,1,4,1,4|4]
theorem CC   (F:Fun K "true_at" "Asking.true_at" tV f fd) (B:Bl mg) (TA:ATxt K mg CA) (TG:GTxt K mg CG) (mT:Meth K CA "true_numbers" fT) (GT:FnOk P w K mg base CX0 17 fT fdT ["self"] (spTruths CA CG)) (bT:Binds K fdT ["self"] []) (cx:Cal P w K mg base 4 "value_at" ["values","r","p"] spVal):FnOk P w K mg base CX0 18 f fd ["self","place"] (spTrueAt CA CG):=by
 exists Ie
 erw[k,g,v,z,ys,i,1,AK,ok,hv,i0,i1,q]at h;refine⟨_,(aa #[aj,2,Ie,bq (pv 0) TA.cl mT GT hr bT .nil aY]
  (aa (aG (ah gK (ay (pv 0) rfl) ae (ax _)) (ad (aq (ag cx hr ⋯ rfl %[2,1,ay (ay (pv 0) rfl) rfl|aO]))) az)
  (aa (aG (ah dP (pv 1) (aE aD rfl B.len PySem.boot_len %[2|aO]) (ax _)) (ad (aq (ao bc (aJ ix_list (pv 2) (pv 1) (λ_ _=>rfl)) (ay (ay (pv 0) rfl) rfl)))) az)
  (ad (aq ae))))),?_⟩
 have p2:=ok.p0;have p9:=ok.gk.p9;let%[dk,aT,_,_,_,_,tr,hk|_]:=id AK;erw[0,k,dk,0,hk,al_n3,k,g,v,z,ys,1,AK,ok,hv,λl H1 hl A1 S1=>?_];have A1':=A1;erw[dk1,aT1,a1,b1,d1,tv1,tr1,hk1,%[dg1|hg1],_]at A1';unfold gi at q;erw[0,k,CA,dk1,_,0,hk1,TA.cl,TA.nN,HN,2,0,6]
 by_cases c:0<z.nr
 . rw[zD0 c]at q;refine aS c ?_;erw[0,0,0,k,CA,dk1,_,0,hk1,TA.cl,TA.nG,uQ,g,CG,dg1,_,0,hg1,TG.cl,TG.nF,gN ..,l,z.tru,i,z.p,1,.inl hl,ok.row c,ok.gk.pr,p9,i0,i1,λH2 S2=>q H2 (A1.same S2) (S1.trans (zI0 S2))]
 . rw [zA0 c]at q;refine aB c ?_;erw[0,0,l,0,.inl (zG0 hl),2,0,6];have el:((z.tru.map V.int).length:Int)=(z.tru.length:Int):=by rw[zE0]
   by_cases c2:i<(z.tru.length:Int)
   . rw[zD0 c2]at q;refine aS (by rw[el];exact c2) ?_;let%[j|1]:=Int.eq_ofNat_of_zero_le i0;rw[qO0]at q;erw[0,0,l,_,2,zG0 hl,mK #[0],0,k,CA,dk1,_,0,hk1,TA.cl,TA.nG,uQ,g,CG,dg1,_,0,hg1,TG.cl,TG.nF,gN ..,2,(by show 0<z.p;omega),q H1 A1 S1]
   . rw[zA0 c2]at q;refine aB (by rw[el];exact c2) ?_;exact q H1 A1 S1
noncomputable def Tm.worth(z:Ak)(bx:Str->Int):Tm->Int
 | .num n=>n % z.p | .box x=>bx x | .plain w=>oi z w
 | .ask w a=>if w="coin" then ko z (a.worth z bx)else gi z (a.worth z bx)
 | .op s a b=>opV z.p s (a.worth z bx) (b.worth z bx)
def Tm.good:Tm->Prop
 | .num _=>True | .box _=>True | .plain w=>w∈plainW | .ask w a=>w∈askW/\a.good | .op s a b=>s∈signW/\a.good/\b.good
def ku(p:Int)(bx:Str->Int):Prop:=∀x,0<=bx x/\bx x<p
theorem Tm.worth_rng(k:AkOk z)(hb:ku z.p bx):∀t:Tm,0<=t.worth z bx/\t.worth z bx<z.p
 | .num n=>by have:=k.p0;erw[qB0 _ #[0],qE0 _ #[0]]
 | .box x=>hb x
 | .plain w=>xq k w
 | .ask w a=>by
   show 0<=(if w="coin" then ko z (a.worth z bx)else gi z (a.worth z bx))/\(if w="coin" then ko z (a.worth z bx)else gi z (a.worth z bx))<z.p
   split
   . exact AR k _
   . exact zt k _
 | .op s a b=>by have:=k.p0;exact EL #[0]
inductive spTm(CA CG:Addr)(n:Nat)(vs:List V)(H:Hp)(Q:VK)(u_3:XK):Prop
 |mk:∀(v:V)(t:Tm)(b k g sd:Addr)(z:Ak)(ys:List V)(bx:Str->Int)(m:Nat),vs=[v,.ref b,.ref k]->TmAt H v t->t.good->t.depth<=n->BxAt H b bx m->ku z.p bx->AkAt CA CG H k g sd z->AkOk z->H sd=some (.lst ys)->(∀H',AkAt CA CG H' k g sd z->SameBut k H H'->Q (.int (t.worth z bx)) H')->spTm CA CG n vs H Q u_3
theorem iK:FnScope ["term","boxes","asking","word","first","second"] ["term","boxes","asking"] (ai jb):=%[1,1,1,4,1,4|4]
structure AskF(P:Program)(w:World)(K:W.Frag)(mg:Str->Option Value)(base:Heap)(CA CG fP fC fR:Addr)(fdP fdC fdR:FuncData):Prop where
 mP:Meth K CA "plain_value" fP
 GP:FnOk P w K mg base CX0 1 fP fdP ["self","word"] (spPlain CA CG)
 bP:Binds K fdP ["self","word"] []
 mC:Meth K CA "coin_at" fC
 GC:FnOk P w K mg base CX0 1 fC fdC ["self","place"] (spCoinAt CA CG)
 bC:Binds K fdC ["self","place"] []
 mR:Meth K CA "true_at" fR
 GR:FnOk P w K mg base CX0 18 fR fdR ["self","place"] (spTrueAt CA CG)
 bR:Binds K fdR ["self","place"] []
theorem AY {n:Nat}   (F:Fun K "value_of" "value_of" jb f fd) (TA:ATxt K mg CA) (TG:GTxt K mg CG) (M:AskF P w K mg base CA CG fP fC fR fdP fdC fdR) (fZ:Cal P w K mg base 3 "op_value" ["sign","first","second","p"] spOp) (cH:Cal P w K mg base (n+18) "value_of" ["term","boxes","asking"] (spTm CA CG n)):FnOk P w K mg base CX0 (n+19) f fd ["term","boxes","asking"] (spTm CA CG (n+1)):=by
 exists iK
 erw[v,t,b,k,g,sd,z,ys,bx,m,1,T,tg,td,BX,bo,AK,ok,hs,q]at h;have hu:=FT hr;have hr1:Room 1 _:=hr.mono #[0];have hr18:Room 18 _:=hr.mono #[0];refine⟨_,(aa #[aj,3,iK,aJ ix_tup (pv 0) ae (λ_ _=>rfl)]
  (aa (aG (ah aP (pv 3) au (ax _)) (ad (aq (ao bc (aJ ix_tup (pv 0) ae (λ_ _=>rfl)) (ay (ay (pv 2) rfl) rfl)))) az)
  (aa (aG (ah aP (pv 3) au (ax _)) (ad (aq (Ce hu (pv 1) (aJ ix_tup (pv 0) ae (λ_ _=>rfl)) ae %[1,1,1|1]))) az)
  (aa (aG (ah aP (pv 3) au (ax _)) (ad (aq (bQ (pv 2) TA.cl M.mC M.GC hr1 M.bC .nil aY %[ag cH hr (zH0 _) rfl %[aJ ix_tup (pv 0) ae (λ_ _=>rfl),1,2|aO]|aO]))) az)
  (aa (aG (ah aP (pv 3) au (ax _)) (ad (aq (bQ (pv 2) TA.cl M.mR M.GR hr18 M.bR .nil aY %[ag cH hr (zH0 _) rfl %[aJ ix_tup (pv 0) ae (λ_ _=>rfl),1,2|aO]|aO]))) az)
  (aa (aG (ah aP (pv 3) au (ax _)) (aa #[aj,4,iK,ag cH hr (zH0 _) rfl %[aJ ix_tup (pv 0) ae (λ_ _=>rfl),1,2|aO]]
   (aa #[aj,5,iK,ag cH hr (zH0 _) rfl %[aJ ix_tup (pv 0) ae (λ_ _=>rfl),1,2|aO]]
   (ad (aq (ag fZ hr #[0] rfl %[aJ ix_tup (pv 0) ae (λ_ _=>rfl),4,5,ay (ay (pv 2) rfl) rfl|aO]))))) az)
  (ad (aq (bQ (pv 2) TA.cl M.mP M.GP hr1 M.bP .nil aY %[3|aO]))))))))),?_⟩
 have AK':=AK;erw[dk,aT,ga,gb,gd,tv,tr,hk,%[dg|hg],_]at AK';have p2:=ok.p0;have p0:0<z.p:=by omega
 have kT:∀{H':Hp},SameBut k H H'->bJ H H':=λs c xs e=>s _ _ (bn e hk (by intro z;cases z)) e
 have kB:∀{H':Hp},SameBut k H H'->BxAt H' b bx m:=λs=>BX.keep λo e=>s _ _ (by
  erw[kvs,e',_]at BX;exact bn e' hk (by intro z;cases z)) e
 have kS:∀{H':Hp},SameBut k H H'->H' sd=some (.lst ys):=λs=>s _ _ (bn hs hk (by intro z;cases z)) hs
 cases T with
 | @num a n e=>
   erw[0,a,_,(0),0,1,zC0 e,1,6];erw[0,1,0,aS rfl ?_];erw[0,a,_,(1),0,1,zC0 e,1,0,k,CA,dk,_,0,hk,TA.cl,TA.nG,uQ,g,CG,dg,_,0,hg,TG.cl,TG.nF,gN ..,2,p0,q H AK (SameBut.refl _ _)]
 | @box a x e=>
   erw[0,a,_,(0),0,1,zC0 e,1,6];erw[0,1,0,aB (neS ⋯) ?_];erw[0,1,0,aS rfl ?_];erw[kvs,hb,_,hx]at BX;erw[0,b,1,.inl %[kvs|.inl hb],0,a,_,(1),0,1,zC0 e,1,_,DGet.k (k:=.inr x) hb,6];rw[hx];exact q H AK (SameBut.refl _ _)
 | @plain a wd e=>
   have no:∀x:Str,x∉plainW->¬ V.str wd=V.str x:=λx hx e=>hx (by rw[←V.str.inj e];exact tg)
   erw[0,a,_,(0),0,1,zC0 e,1,6];erw[0,1,0,aB (no _ ⋯) ?_];erw[0,1,0,aB (no _ ⋯) ?_];erw[0,1,0,aB (no _ ⋯) ?_];erw[0,1,0,aB (no _ ⋯) ?_];erw[0,1,0,aB (no _ ⋯) ?_];erw[0,k,dk,0,hk,al_n1,0,k,g,sd,z,wd,1,AK,p0,q H AK (SameBut.refl _ _)]
 | @ask a wd v1 t1 e T1=>
   erw[wq,tq]at tg;have hw:wd="coin"∨wd="true":=by simpa [askW]using wq
   have d1:t1.depth<=n:=by have:t1.depth+1<=n+1:=td;omega
   have wr:=Tm.worth_rng ok bo t1;erw[0,a,_,(0),0,1,zC0 e,1,6];rcases hw with rfl | rfl
   . erw[0,1,0,aB (neS ⋯) ?_];erw[0,1,0,aB (neS ⋯) ?_];erw[0,1,0,aS rfl ?_];erw[0,k,dk,0,hk,al_n2,0,a,_,(1),0,1,zC0 e,1,0,0,v1,t1,b,k,g,sd,z,ys,bx,m,1,T1,tq,d1,BX,bo,AK,ok,hs,λH1 A1 S1=>?_];erw[k,g,sd,z,0,A1,ok.tl,λH2 S2=>?_];have qq:=q H2 (A1.same S2) (S1.trans (zI0 S2));have e1:(Tm.ask "coin" t1).worth z bx=ko z (t1.worth z bx):=zD0 rfl;rw[e1]at qq;exact qq
   . erw[0,1,0,aB (neS ⋯) ?_];erw[0,1,0,aB (neS ⋯) ?_];erw[0,1,0,aB (neS ⋯) ?_];erw[0,1,0,aS rfl ?_];erw[0,k,dk,0,hk,al_n4,0,a,_,(1),0,1,zC0 e,1,0,0,v1,t1,b,k,g,sd,z,ys,bx,m,1,T1,tq,d1,BX,bo,AK,ok,hs,λH1 A1 S1=>?_];erw[k,g,sd,z,ys,0,A1,ok,kS S1,wr.1,wr.2,λH2 A2 S2=>?_];have qq:=q H2 A2 (S1.trans S2);have e1:(Tm.ask "true" t1).worth z bx=gi z (t1.worth z bx):=zA0 ⋯;rw[e1]at qq;exact qq
 | @op a o v1 v2 t1 t2 e T1 T2=>
   erw[oq,q1,q2]at tg;have d1:t1.depth<=n:=by have:max t1.depth t2.depth+1<=n+1:=td;omega
   have d2:t2.depth<=n:=by have:max t1.depth t2.depth+1<=n+1:=td;omega
   have w1:=Tm.worth_rng ok bo t1;have w2:=Tm.worth_rng ok bo t2;erw[0,a,_,(0),0,1,zC0 e,1,6];erw[0,1,0,aB (neS ⋯) ?_];erw[0,1,0,aB (neS ⋯) ?_];erw[0,1,0,aB (neS ⋯) ?_];erw[0,1,0,aB (neS ⋯) ?_];erw[0,1,0,aS rfl ?_];erw[0,a,_,(2),0,1,zC0 e,1,0,0,v1,t1,b,k,g,sd,z,ys,bx,m,1,T1,q1,d1,BX,bo,AK,ok,hs,λH1 A1 S1=>?_];have e1:=kT S1 _ _ e;erw[0,a,_,(3),0,1,zC0 e1,1,0,0,v2,t2,b,k,g,sd,z,ys,bx,m,1,T2.mono (kT S1),q2,d2,kB S1,bo,A1,ok,kS S1,λH2 A2 S2=>?_];have e2:=kT (S1.trans S2) _ _ e;let%[dk2,aT2,_,_,_,_,tr2,hk2,%[dg2|hg2]|_]:=id A2;erw[0,a,_,(1),0,1,zC0 e2,1,0,0,0,k,CA,dk2,_,0,hk2,TA.cl,TA.nG,uQ,g,CG,dg2,_,0,hg2,TG.cl,TG.nF,gN ..,o,_,_,z.p,1,oq,ok.gk.pr,ok.gk.p9,w1.1,w1.2,w2.1,w2.2,q H2 A2 (S1.trans S2)]
theorem AX  :FnOk P w K mg base CX0 18 f fd ["term","boxes","asking"] (spTm CA CG 0):=by
 have no:∀vs H Q E,¬ spTm CA CG 0 vs H Q E:=λvs H Q E h=>by
  erw[v,t,_,_,_,_,_,_,_,_,_,_,_,h1,_]at h
  have:=t.depth_pos
  omega
 erw[λvs H Q E h=>absurd h (no vs H Q E),λA outer s H args us vs Q E _ _ _ _ h=>absurd h (no vs H Q E)]
theorem oP   (F:Fun K "value_of" "value_of" jb f fd) (m:mg "value_of"=some (.ref f)) (TA:ATxt K mg CA) (TG:GTxt K mg CG) (M:AskF P w K mg base CA CG fP fC fR fdP fdC fdR) (fZ:Cal P w K mg base 3 "op_value" ["sign","first","second","p"] spOp) :
 ∀n:Nat,FnOk P w K mg base CX0 (n+18) f fd ["term","boxes","asking"] (spTm CA CG n)
 | 0=>AX
 | n+1=>AY F TA TG M fZ (Cal.of F (oP F m TA TG M fZ n) m (λ_ _ _ _ _ _ us hl=>by let%[u0,u1,u2|1]:=Fh hl;rfl))
end
section
variable {CM CA CG:Addr}
structure MS where
 pl:Int
 bx:Str->Int
 sd:List Int
noncomputable def FG(z:Ak)(len:Int)(s:MS):Hr->MS
 | .fin=>%[len,s.bx|s.sd]
 | .go n=>%[n,s.bx|s.sd]
 | .iff t n=>%[if t.worth z s.bx=0 then s.pl+1 else n,s.bx|s.sd]
 | .set x t=>%[s.pl+1,jH s.bx x (t.worth z s.bx)|s.sd]
 | .say t=>%[s.pl+1,s.bx|s.sd++[t.worth z s.bx]]
noncomputable def eI(z:Ak)(rows:List Hr)(s:MS):MS:=match rows[s.pl.toNat]? with
 | some r=>FG z rows.length s r
 | none=>s
noncomputable def lF(z:Ak)(rows:List Hr):Nat->MS->MS
 | 0,s=>s
 | n+1,s=>if s.pl<(rows.length:Int)/\(s.sd.length:Int)<z.mn then lF z rows n (eI z rows s)else s
def qT(mn:Int)(sd:List Int):List Int:=sd++List.replicate (mn-(sd.length:Int)).toNat 0
def Hr.good:Hr->Prop
 | .fin=>True | .go n=>0<=n | .iff t n=>t.good/\t.depth<=5/\0<=n | .set _ t=>t.good/\t.depth<=5 | .say t=>t.good/\t.depth<=5
theorem Bs{rows:List Hr}(hq:∀r∈rows,r.good){s:MS}(h:0<=s.pl):0<=(eI z rows s).pl:=by
 unfold eI;cases e:rows[s.pl.toNat]? with
 | none=>exact h
 | some r=>
   have q:=hq r (qF0 e);cases r with
   | fin=>exact Int.natCast_nonneg _
   | go n=>exact q
   | iff t n=>
     show 0<=if t.worth z s.bx=0 then s.pl+1 else n
     by_cases c:t.worth z s.bx=0
     . rw[zD0 c];omega
     . rw[zA0 c];exact q.2.2
   | set x t=>show 0<=s.pl+1;omega
   | say t=>show 0<=s.pl+1;omega
theorem uW:(eI z rows s).sd.length<=s.sd.length+1:=by
 unfold eI;cases e:rows[s.pl.toNat]? with
 | none=>exact qJ0 _
 | some r=>
   cases r with
   | fin=>exact qJ0 _
   | go n=>exact qJ0 _
   | iff t n=>exact qJ0 _
   | set x t=>exact qJ0 _
   | say t=>show(s.sd++[_]).length<=_;rw[zJ0];exact zH0 _
theorem DR{n:Int}(h:ku p bx)(h0:0<=n)(h1:n<p):ku p (jH bx x n):=λy=>by
 unfold jH
 split
 . erw[h0,h1]
 . exact h y
theorem qh{s:MS}(k:AkOk z)(h:ku z.p s.bx)(hs:ci s.sd z.p):ku z.p (eI z rows s).bx/\ci (eI z rows s).sd z.p:=by
 unfold eI;cases e:rows[s.pl.toNat]? with
 | none=>erw[h,hs]
 | some r=>
   cases r with
   | fin=>erw[h,hs]
   | go n=>erw[h,hs]
   | iff t n=>erw[h,hs]
   | set x t=>
     have w:=Tm.worth_rng k h t;erw[DR h w.1 w.2,hs]
   | say t=>
     have w:=Tm.worth_rng k h t;erw[h,λy hy=>?_];rcases qH0 hy with hy | hy
     . exact hs y hy
     . rw[zN0 hy];exact w
theorem ma(k:AkOk z):∀(n:Nat)(s:MS),ku z.p s.bx->ci s.sd z.p->(s.sd.length:Int)<=z.mn->ku z.p (lF z rows n s).bx/\ci (lF z rows n s).sd z.p/\((lF z rows n s).sd.length:Int)<=z.mn
 | 0,s,h,hs,hl=>%[h,hs|hl]
 | n+1,s,h,hs,hl=>by
   show ku z.p (if _ then _ else _:MS).bx/\ci (if _ then _ else _:MS).sd z.p/\((if _ then _ else _:MS).sd.length:Int)<=z.mn
   by_cases c:s.pl<(rows.length:Int)/\(s.sd.length:Int)<z.mn
   . rw [zD0 c];let%[h1|h2]:=qh (rows:=rows) k h hs
     have:=uW (z:=z) (rows:=rows) (s:=s)
     exact ma k n _ h1 h2 #[0]
   . rw[zA0 c];erw[h,hs,hl]
theorem vp{mn:Int}{sd:List Int}(h:(sd.length:Int)<=mn):((qT mn sd).length:Int)=mn:=by
 unfold qT;rw[zJ0,List.length_replicate];omega
theorem yI(h:ci sd p)(p0:0<p):ci (qT mn sd) p:=λx hx=>by
 unfold qT at hx;rcases qH0 hx with hx | hx
 . exact h x hx
 . rw[List.eq_of_mem_replicate hx];omega
def RowsAt(H:Hp)(rv:List V)(rows:List Hr):Prop:=rv.length=rows.length/\∀(i:Nat)(v:V)(r:Hr),rv[i]?=some v->rows[i]?=some r->HrAt H v r
theorem RowsAt.mono(h:RowsAt H rv rows)(k:bJ H H'):RowsAt H' rv rows:=%[h.1|λi v r h1 h2=>(h.2 i v r h1 h2).mono k]
def FA(b c:Addr)(H H':Hp):Prop:=∀a o,a≠b->a≠c->H a=some o->H' a=some o
theorem BxAt.le{n:Nat}(h:BxAt H b bx m)(k:m<=n):BxAt H b bx n:=by
 erw[kvs,e,l,r]at h;erw[kvs,e,zP0 l k,r]
def But3(b c d:Addr)(H H':Hp):Prop:=∀a o,a≠b->a≠c->a≠d->H a=some o->H' a=some o
theorem But3.trans(x:But3 b c d H H1)(y:But3 b c d H1 H2):But3 b c d H H2:=λa o h1 h2 h3 e=>y a o h1 h2 h3 (x a o h1 h2 h3 e)
inductive spRowM(CM CA CG:Addr)(vs:List V)(H:Hp)(Q:VK)(u_3:XK):Prop
 |mk:∀(M g h b dm k sd:Addr)(rv:List V)(r pl:Int)(z:Ak)(rows:List Hr)(bx:Str->Int)(m:Nat)(said:List Int),vs=[.ref M,.int pl,.ref sd,.ref k]->H M=some (.ins CM dm (ml g h r b))->M≠k->H h=some (.tup rv)->RowsAt H rv rows->(∀r∈rows,r.good)->0<=pl->pl<(rows.length:Int)->BxAt H b bx m->ku z.p bx->m<=10000->H sd=some (.lst (said.map V.int))->said.length<=900->AkAt CA CG H k g sd z->AkOk z->(∀H',H' sd=some (.lst ((eI z rows ⟨pl,bx,said⟩).sd.map V.int))->BxAt H' b (eI z rows ⟨pl,bx,said⟩).bx (m+1)->AkAt CA CG H' k g sd z->But3 b sd k H H'->Q (.int (eI z rows ⟨pl,bx,said⟩).pl) H')->spRowM CM CA CG vs H Q u_3
theorem E4:FnScope ["self","place","said","asking","row","word"] ["self","place","said","asking"] (ai wZ):=%[1,1,1,4,1,4|4]
theorem EO   (F:Fun K "do_row" "Machine.do_row" wZ f fd) (B:Bl mg) (TM:MTxt K mg CM) (cH:Cal P w K mg base 23 "value_of" ["term","boxes","asking"] (spTm CA CG 5)):FnOk P w K mg base CX0 24 f fd ["self","place","said","asking"] (spRowM CM CA CG):=by
 exists E4
 erw[M,g,h,b,dm,k,sd,rv,rn,pl,z,rows,bx,m,said,1,hM,nMk,hh,RW,rq,pl0,pl1,BX,bo,m1,hsd,sl,AK,ok,q]at h;have hu:=FT hr;refine⟨_,(aa #[aj,4,E4,aJ ix_tup (ay (pv 0) rfl) (pv 1) (λ_ _=>rfl)]
  (aa #[aj,5,E4,aJ ix_tup (pv 4) ae (λ_ _=>rfl)]
  (aa (aG (ah aP (pv 5) au (ax _)) (ad (aq (aE aD rfl B.len PySem.boot_len %[ay (pv 0) rfl|aO]))) az)
  (aa (aG (ah aP (pv 5) au (ax _)) (ad (aq (aJ ix_tup (pv 4) ae (λ_ _=>rfl)))) az)
  (aa (aG (ah aP (pv 5) au (ax _)) (ad (EC hu (ay (pv 0) rfl) (aJ ix_tup (pv 4) ae (λ_ _=>rfl)) (ag cH hr ⋯ rfl %[aJ ix_tup (pv 4) ae (λ_ _=>rfl),ay (pv 0) rfl,3|aO]) rfl)) (ad (aG (ah aP (pv 5) au (ax _)) (ad (aR (eA PySem.F.plainAttrs_list PySem.F.slot_list_append PySem.F.type_list_append bZ (pv 2) %[ag cH hr ⋯ rfl %[aJ ix_tup (pv 4) ae (λ_ _=>rfl),ay (pv 0) rfl,3|aO]|aO]))) (ad (aG (ah mr (ag cH hr ⋯ rfl %[aJ ix_tup (pv 4) ae (λ_ _=>rfl),ay (pv 0) rfl,3|aO]) ae (ax _)) (ad (aq (aJ ix_tup (pv 4) ae (λ_ _=>rfl)))) az)))))
  (ad (aq (ao aQ (pv 1) ae)))))))),?_⟩
 let%[i|1]:=Int.eq_ofNat_of_zero_le pl0;have hi:i<rows.length:=by omega
 have hi':i<rv.length:=by rw[RW.1];exact hi
 have er:rows[i]?=some rows[i]:=zQ0 hi;have ev:rv[i]?=some rv[i]:=zQ0 hi';have RA:=RW.2 i _ _ ev er;have rqi:=rq _ (qR0 hi);have hst:eI z rows %[(i:Int),bx|said]=FG z rows.length ⟨(i:Int),bx,said⟩ rows[i]:=by
  unfold eI;rw[show((%[(i:Int),bx|said]:MS).pl.toNat)=i from qO0 i,er]
 rw[hst]at q;generalize rows[i]=row at RA rqi q er hst;have at_:atI rv (i:Int)=some rv[i]:=cD ev;generalize rv[i]=v at RA at_ ev;erw[0,M,CM,dm,_,0,hM,TM.cl,TM.nH,Fd,0,h,_,_,v,1,1,zC0 hh,at_,6];have K0:But3 b sd k H H:=λ_ _ _ _ _ e=>e
 have nBS:sd≠b:=by
  erw[kvs,e,_]at BX;exact bn hsd e (by intro z;cases z)
 let%[kvs,hb,kl|hx]:=id BX;let%[dk,_,_,_,_,_,_,hk|_]:=id AK;have kT:∀{H':Hp},SameBut k H H'->bJ H H':=λs c xs e=>s _ _ (bn e hk (by intro z;cases z)) e
 have nbk:b≠k:=bn hb hk (by intro z;cases z);have nsk:sd≠k:=bn hsd hk (by intro z;cases z);cases RA with
 | @fin a e=>
   erw[0,a,_,(0),0,1,zC0 e,1,6];erw[0,1,0,aS rfl ?_];erw[0,M,CM,dm,_,0,hM,TM.cl,TM.nH,Fd,h,0,.inr (zC0 hh),6];rw[RW.1];exact q H hsd (BX.le (qJ0 _)) AK K0
 | @go a n e=>
   erw[0,a,_,(0),0,1,zC0 e,1,6];erw[0,1,0,aB (neS ⋯) ?_];erw[0,1,0,aS rfl ?_];erw[0,a,_,(1),0,1,zC0 e,1,q H hsd (BX.le (qJ0 _)) AK K0]
 | @iff a u t n e T=>
   erw[0,a,_,(0),0,1,zC0 e,1,6];erw[0,1,0,aB (neS ⋯) ?_];erw[0,1,0,aB (neS ⋯) ?_];erw[0,1,0,aB (neS ⋯) ?_];erw[0,1,0,aB (neS ⋯) ?_];erw[0,a,_,(1),0,1,zC0 e,1,0,M,CM,dm,_,0,hM,TM.cl,TM.nB,Dc,0,u,t,b,k,g,sd,z,_,bx,m,1,T,rqi.1,rqi.2.1,BX,bo,AK,ok,hsd,λH1 A1 S1=>?_];erw[1,0,6];have q':∀H',H' sd=some (.lst (said.map V.int))->BxAt H' b bx (m+1)->AkAt CA CG H' k g sd z->But3 b sd k H H'->Q (.int (if t.worth z bx=0 then(i:Int)+1 else n)) H':=q
   have q1:=q' H1 (S1 _ _ nsk hsd) ((BX.keep λo e=>S1 _ _ nbk e).le (qJ0 _)) A1 (λc o _ _ h3 e=>S1 _ _ h3 e)
   by_cases c:t.worth z bx=0
   . rw[zD0 c]at q1;refine vR (congrArg V.int c) ?_;erw[0,2,q1]
   . rw[zA0 c]at q1;refine iteN (λz=>c (V.int.inj z)) ?_;erw[0,a,_,(2),0,1,zC0 (kT S1 _ _ e),1,q1]
 | @set a x u t e T=>
   erw[0,a,_,(0),0,1,zC0 e,1,6];erw[0,1,0,aB (neS ⋯) ?_];erw[0,1,0,aB (neS ⋯) ?_];erw[0,1,0,aS rfl ?_];erw[0,a,_,(2),0,1,zC0 e,1,0,M,CM,dm,_,0,hM,TM.cl,TM.nB,Dc,0,u,t,b,k,g,sd,z,_,bx,m,1,T,rqi.1,rqi.2,BX,bo,AK,ok,hsd,λH1 A1 S1=>?_];have hb1:=S1 _ _ nbk hb;have hs1:=S1 _ _ nsk hsd;erw[0,M,CM,dm,_,0,S1 _ _ nMk hM,TM.cl,TM.nB,Dc,0,a,_,(1),0,1,zC0 (kT S1 _ _ e),1,b,0,DPut.k (k:=.inr x) hb1 ?_,6]
   . exact Nat.lt_of_le_of_lt kl (Nat.lt_of_le_of_lt m1 ⋯)
   erw[0,2,6];refine q _ ?_ ⟨_,aI,zP0 (kg _ _ _) (Nat.succ_le_succ kl),HK x _ hx⟩ (A1.but2 hb1 hs1 λc o h1 _ e=>by rw[bh h1];exact e) (λc o h1 _ h3 e=>by rw[bh h1];exact S1 _ _ h3 e);rw[bh nBS];exact hs1
 | @say a u t e T=>
   erw[0,a,_,(0),0,1,zC0 e,1,6];erw[0,1,0,aB (neS ⋯) ?_];erw[0,1,0,aB (neS ⋯) ?_];erw[0,1,0,aB (neS ⋯) ?_];erw[0,1,0,aS rfl ?_];erw[0,.inl %[1,_|zG0 hsd],6];erw[0,a,_,(1),0,1,zC0 e,1,0,M,CM,dm,_,0,hM,TM.cl,TM.nB,Dc,0,u,t,b,k,g,sd,z,_,bx,m,1,T,rqi.1,rqi.2,BX,bo,AK,ok,hsd,λH1 A1 S1=>?_];have hb1:=S1 _ _ nbk hb;have hs1:=S1 _ _ nsk hsd;erw[sd,2,hs1,6,6]
   . rw[zE0];exact aM #[0]
   erw[0,2,6];refine q _ ?_ ((BX.keep λo e=>by rw[bh nBS.symm];exact S1 _ _ nbk e).le (qJ0 _)) (A1.but2 hb1 hs1 λc o _ h2 e=>by rw[bh h2];exact e) (λc o _ h2 h3 e=>by rw[bh h2];exact S1 _ _ h3 e);rw[aI];show _=some (HO.lst ((said++[t.worth z bx]).map V.int));rw[zK0];rfl
end
section
variable {CM CA CG:Addr}
def m1 (g:Addr):List (Str×V):=[("game",.ref g)]
def m2 (g h:Addr):List (Str×V):=[("game",.ref g),("helper",.ref h)]
def m3 (g h:Addr):List (Str×V):=[("game",.ref g),("helper",.ref h),("next_round",.int 0)]
theorem pm1 {g:Addr}:cu "game" (.ref g) []=m1 g:=by rfl'
theorem pm2 {h:Addr}:cu "helper" (.ref h) (m1 g)=m2 g h:=by rfl'
theorem pm3 :cu "next_round" (.int 0) (m2 g h)=m3 g h:=by rfl'
theorem pm4 {b:Addr}:cu "boxes" (.ref b) (m3 g h)=ml g h 0 b:=by rfl'
inductive spMInit(CM:Addr)(vs:List V)(H:Hp)(Q:VK)(u_3:XK):Prop
 |mk:∀(M g h dm:Addr),vs=[.ref M,.ref g,.ref h]->H M=some (.ins CM dm [])->(∀(b:Addr)(H':Hp),H b=none->H' M=some (.ins CM dm (ml g h 0 b))->H' b=some (.dK [])->SameBut M H H'->Q .non H')->spMInit CM vs H Q u_3
theorem BE:FnScope ["self","game","helper"] ["self","game","helper"] (ai tN):=%[1,1,1,4,1,4|4]
theorem Ct   (F:Fun K "__init__" "Machine.__init__" tN f fd) (T:MTxt K mg CM):FnOk P w K mg base CX0 1 f fd ["self","game","helper"] (spMInit CM):=by
 exists BE
 erw[M,g,h,dm,1,hM,q]at h;refine⟨_,(aa (aN (pv 0) (pv 1) rfl)
  (aa (aN (pv 0) (pv 2) rfl)
  (aa (aN (pv 0) ae rfl)
  (ad (aN (pv 0) Cd rfl))))),?_⟩
 erw[0,0,M,CM,dm,0,hM,T.cl,T.nG,(by show 0<1000;decide),6];rw[pm1];erw[0,0,M,CM,dm,0,aI,T.cl,T.nH,(by show 1<1000;decide),6];rw[pm2];erw[0,M,CM,dm,0,aI,T.cl,T.nR,(by show 2<1000;decide),6];rw[pm3];have S3:SameBut M H (upd (upd (upd H M (.ins CM dm (m1 g))) M (.ins CM dm (m2 g h))) M (.ins CM dm (m3 g h))):=(SameBut.upd _).trans ((SameBut.upd _).trans (SameBut.upd _));have g3:upd (upd (upd H M (.ins CM dm (m1 g))) M (.ins CM dm (m2 g h))) M (.ins CM dm (m3 g h)) M=some (.ins CM dm (m3 g h)):=aI;generalize upd (upd (upd H M (.ins CM dm (m1 g))) M (.ins CM dm (m2 g h))) M (.ins CM dm (m3 g h))=H3 at S3 g3;intro b hb;have bM:b≠M:=(aV g3 hb).symm;erw[0,M,CM,dm,0,by rw[bh bM.symm];exact g3,T.cl,T.nB,(by show 3<1000;decide),6];rw[pm4];refine q b _ ?_ aI (by rw[bh bM];exact aI) (S3.trans ((zI0 (zB0 hb _)).trans (SameBut.upd _)));cases e:H b with
 | none=>rfl
 | some o=>rw[S3 b o bM e]at hb;cases hb
def a1 (g:Addr):List (Str×V):=[("game",.ref g)]
def a2 (g:Addr) (nr:Int):List (Str×V):=[("game",.ref g),("number",.int nr)]
def a3 (g:Addr) (nr mn:Int):List (Str×V):=[("game",.ref g),("number",.int nr),("many",.int mn)]
def a4 (g:Addr) (nr mn hd:Int):List (Str×V):=[("game",.ref g),("number",.int nr),("many",.int mn),("held",.int hd)]
def a5 (g:Addr) (nr mn hd s:Int):List (Str×V):=[("game",.ref g),("number",.int nr),("many",.int mn),("held",.int hd),("s",.int s)]
def a6 (g:Addr) (nr mn hd s:Int) (aT:Addr):List (Str×V):=[("game",.ref g),("number",.int nr),("many",.int mn),("held",.int hd),("s",.int s),("tossed",.ref aT)]
section
variable {g aT:Addr} {nr mn hd s:Int}
theorem pa1:cu "game" (.ref g) []=a1 g:=by rfl'
theorem pa2:cu "number" (.int nr) (a1 g)=a2 g nr:=by rfl'
theorem pa3:cu "many" (.int mn) (a2 g nr)=a3 g nr mn:=by rfl'
theorem pa4:cu "held" (.int hd) (a3 g nr mn)=a4 g nr mn hd:=by rfl'
theorem pa5:cu "s" (.int s) (a4 g nr mn hd)=a5 g nr mn hd s:=by rfl'
theorem pa6:cu "tossed" (.ref aT) (a5 g nr mn hd s)=a6 g nr mn hd s aT:=by rfl'
theorem pa7:cu "truths" .non (a6 g nr mn hd s aT)=al g nr mn hd s aT .non:=by rfl'
end
inductive spAInit(CA:Addr)(vs:List V)(H:Hp)(Q:VK)(u_3:XK):Prop
 |mk:∀(k dk g c:Addr)(nr mn hd s:Int)(xs:List V),vs=[.ref k,.ref g,.int nr,.int mn,.int hd,.int s,.ref c]->H k=some (.ins CA dk [])->H c=some (.lst xs)∨H c=some (.tup xs)->(∀(aT:Addr)(H':Hp),H' k=some (.ins CA dk (al g nr mn hd s aT .non))->H' aT=some (.tup xs)->SameBut k H H'->Q .non H')->spAInit CA vs H Q u_3
theorem BK:FnScope ["self","game","number","many","due","s","coins"] ["self","game","number","many","due","s","coins"] (ai tW):=%[1,1,1,4,1,4|4]
theorem CD   (F:Fun K "__init__" "Asking.__init__" tW f fd) (B:Bl mg) (T:ATxt K mg CA):FnOk P w K mg base CX0 1 f fd ["self","game","number","many","due","s","coins"] (spAInit CA):=by
 exists BK
 erw[k,dk,g,c,nr,mn,hd,s,xs,1,hk,hc,q]at h;refine⟨_,(aa (aN (pv 0) (pv 1) rfl)
  (aa (aN (pv 0) (pv 2) rfl)
  (aa (aN (pv 0) (pv 3) rfl)
  (aa (aN (pv 0) (pv 4) rfl)
  (aa (aN (pv 0) (pv 5) rfl)
  (aa (aN (pv 0) (bi ba rfl B.tuple bd %[6|aO]) rfl)
  (ad (aN (pv 0) ju rfl)))))))),?_⟩
 erw[0,0,k,CA,dk,0,hk,T.cl,T.nG,(by show 0<1000;decide),6];rw[pa1];erw[0,0,k,CA,dk,0,aI,T.cl,T.nN,(by show 1<1000;decide),6];rw[pa2];erw[0,0,k,CA,dk,0,aI,T.cl,T.nM,(by show 2<1000;decide),6];rw[pa3];erw[0,0,k,CA,dk,0,aI,T.cl,T.nH,(by show 3<1000;decide),6];rw[pa4];erw[0,0,k,CA,dk,0,aI,T.cl,T.nS,(by show 4<1000;decide),6];rw[pa5];have S5:SameBut k H (upd (upd (upd (upd (upd H k (.ins CA dk (a1 g))) k (.ins CA dk (a2 g nr))) k (.ins CA dk (a3 g nr mn))) k (.ins CA dk (a4 g nr mn hd))) k (.ins CA dk (a5 g nr mn hd s))):=(SameBut.upd _).trans ((SameBut.upd _).trans ((SameBut.upd _).trans ((SameBut.upd _).trans (SameBut.upd _))));have g5:upd (upd (upd (upd (upd H k (.ins CA dk (a1 g))) k (.ins CA dk (a2 g nr))) k (.ins CA dk (a3 g nr mn))) k (.ins CA dk (a4 g nr mn hd))) k (.ins CA dk (a5 g nr mn hd s)) k=some (.ins CA dk (a5 g nr mn hd s)):=aI;generalize upd (upd (upd (upd (upd H k (.ins CA dk (a1 g))) k (.ins CA dk (a2 g nr))) k (.ins CA dk (a3 g nr mn))) k (.ins CA dk (a4 g nr mn hd))) k (.ins CA dk (a5 g nr mn hd s))=H5 at S5 g5;rcases hc with hc | hc
 . have hc5:=S5 _ _ (bn hc hk (by intro z;cases z)) hc;erw[0,c,0,.inl %[zG0 hc5|λaT ha=>?_]];have aK:aT≠k:=(aV g5 ha).symm;erw[0,k,CA,dk,0,by rw[bh aK.symm];exact g5,T.cl,T.nT,(by show 5<1000;decide),6];rw[pa6];erw[0,k,CA,dk,0,aI,T.cl,T.nR,(by show 6<1000;decide),6];rw[pa7];exact q aT _ aI (by rw[bh aK,bh aK];exact aI) (S5.trans ((zI0 (zB0 ha _)).trans ((SameBut.upd _).trans (SameBut.upd _))))
 . have nc:=bn hc hk (by intro z;cases z);have hc5:=S5 _ _ nc hc;erw[0,c,0,.inr %[zC0 hc5|6]];erw[0,k,CA,dk,0,g5,T.cl,T.nT,(by show 5<1000;decide),6];rw[pa6];erw[0,k,CA,dk,0,aI,T.cl,T.nR,(by show 6<1000;decide),6];rw[pa7];exact q c _ aI (by rw[bh nc,bh nc];exact hc5) (S5.trans ((SameBut.upd _).trans (SameBut.upd _)))
inductive spSay(CM CG:Addr)(vs:List V)(H:Hp)(Q:VK)(u_3:XK):Prop
 |mk:∀(M g h b dm c:Addr)(rv:List V)(z:Ak)(rows:List Hr)(bx:Str->Int)(m:Nat),vs=[.ref M,.int z.mn,.int z.hd,.int z.s,.ref c]->H M=some (.ins CM dm (ml g h z.nr b))->H h=some (.tup rv)->RowsAt H rv rows->(∀r∈rows,r.good)->BxAt H b bx m->ku z.p bx->m<=5000->Gm CG H g z.ns z.ts z.p->AkOk z->H c=some (.lst (z.to.map V.int))∨H c=some (.tup (z.to.map V.int))->0<=z.mn->z.mn<=500->(∀(l:Addr)(H':Hp),H l=none->H' l=some (.lst ((qT z.mn (lF z rows 200 ⟨0,bx,[]⟩).sd).map V.int))->BxAt H' b (lF z rows 200 ⟨0,bx,[]⟩).bx (m+200)->H' M=some (.ins CM dm (ml g h (z.nr+1) b))->FA M b H H'->Q (.ref l) H')->spSay CM CG vs H Q u_3
theorem iJ:FnScope ["self","many","due","s","coins","asking","said","place","done"] ["self","many","due","s","coins"] (ai wY):=%[1,1,1,4,1,4|4]
theorem BS(k:Nat)(x:V):(List.replicate k [x]).flatten=List.replicate k x:=by
 induction k with
 | zero=>rfl
 | succ k ih=>rw[List.replicate_succ,List.flatten_cons,ih,List.replicate_succ];rfl
inductive tSayE(Dn:Ends)(σ:St)(H:Hp):Prop
 |mk:∀(x0 x2 x3 x4 x5 x7 x8:Option V)(sd:Addr)(mn:Int)(xs:List Int),σ=[x0,some (.int mn),x2,x3,x4,x5,some (.ref sd),x7,x8]->H sd=some (.lst (xs.map V.int))->xs.length<=200->0<=mn->mn<=500->(∀(l:Addr)(H':Hp),H l=none->Same H H'->H' l=some (.lst ((qT mn xs).map V.int))->Dn.rt (.ref l) H')->tSayE Dn σ H
theorem EN   (F:Fun K "say" "Machine.say" wY f fd) (B:Bl mg) (TM:MTxt K mg CM) (TA:ATxt K mg CA) (hmost:∃t,mg "MOST_ROWS_DONE"=some (.int 200 t))
 (MA:Mk K CA fA) (GA:FnOk P w K mg base CX0 1 fA fdA ["self","game","number","many","due","s","coins"] (spAInit CA)) (bA:Binds K fdA ["self","game","number","many","due","s","coins"] [])
 (mR:Meth K CM "do_row" fR) (GR:FnOk P w K mg base CX0 24 fR fdR ["self","place","said","asking"] (spRowM CM CA CG)) (bR:Binds K fdR ["self","place","said","asking"] []):FnOk P w K mg base CX0 25 f fd ["self","many","due","s","coins"] (spSay CM CG):=by
 exists iJ
 erw[M,g,h,b,dm,c,rv,z,rows,bx,m,1,hM,hh,RW,rq,BX,bo,mm,GG,ok,hc,mn0,mn1,q]at h;erw[a',b',d',tv,G,hga,hgb,TS,hgd]at GG;erw[te,ge]at hmost;have hr2:Room (1+1) _:=hr.mono ⋯;have hr7:Room 24 _:=hr.mono ⋯;refine⟨_,(aa #[aj,5,iJ,eT MA GA hr2 rfl TA.mgC bA .nil aY %[ay (pv 0) rfl,ay (pv 0) rfl,1,2,3,4|aO]]
  (aa (aN (pv 0) (ao aQ (ay (pv 0) rfl) ae) rfl)
  (aa #[aj,6,iJ,dy aO]
  (aa #[aj,7,iJ,ae]
  (aa #[aj,8,iJ,ae]
  (aa (gt PassesOwn.never (PW.pt (lG (ah dP (pv 7) (aE aD rfl B.len PySem.boot_len %[ay (pv 0) rfl|aO]) (ax _)) (lG (ah dP (aE aD rfl B.len PySem.boot_len %[6|aO]) (pv 1) (ax _)) (kE (ah dP (pv 8) (cX (v:=.int 200) rfl ge ⟨_,rfl⟩) (ax _)))))) (aa #[aj,7,iJ,bQ (pv 0) TM.cl mR GR hr7 bR .nil aY %[7,6,5|aO]]
   (ad #[aj,8,iJ,ao aQ (pv 8) ae])))
  (iA (t':=tSayE) (ad (aq (ao kf (pv 6) (ao GQ (dy %[ae|aO]) (ao bm (pv 1) (aE aD rfl B.len PySem.boot_len %[6|aO])))))) (by
   rintro Dn σ H ⟨x0,x2,x3,x4,x5,x7,x8,sd,mn,xs,rfl,hsd,xl,mn0,mn1,q⟩;erw[0,(by show 1<=sizeLine;decide),λz hz=>?_];have I1:=zB0 hz (.lst [.int 0]);have g1:upd H z (.lst [.int 0]) z=some (.lst [.int 0]):=aI;generalize upd H z (.lst [.int 0])=H1 at I1 g1;erw[0,0,sd,0,.inl (zG0 (I1 _ _ hsd)),2,6];have el:((xs.map V.int).length:Int)=(xs.length:Int):=by rw[zE0]
   erw[z,2,g1,3,3,ca (by show 1*(mn-((xs.map V.int).length:Int)).toNat<=1000;omega),λy hy=>?_];rw[BS];have I2:=zB0 hy (.lst (List.replicate (mn-((xs.map V.int).length:Int)).toNat (.int 0)));have g2:upd H1 y (.lst (List.replicate (mn-((xs.map V.int).length:Int)).toNat (.int 0))) y=some (.lst (List.replicate (mn-((xs.map V.int).length:Int)).toNat (.int 0))):=aI;generalize upd H1 y (.lst (List.replicate (mn-((xs.map V.int).length:Int)).toNat (.int 0)))=H2 at I2 g2;erw[sd,y,2,I2 _ _ (I1 _ _ hsd),g2,6,λl hl=>?_]
   . rw[List.length_replicate,zE0];exact ca #[0]
   refine q l _ ?_ (I1.trans (I2.trans (zB0 hl _))) ?_
   . cases e:H l with
     | none=>rfl
     | some o=>rw[I2 _ _ (I1 _ _ e)]at hl;cases hl
   . rw[aI,el];unfold qT;rw[zK0,List.map_replicate])))))))),?_⟩
 erw[0,M,CM,dm,_,0,hM,TM.cl,TM.nG,ml_g,0,M,CM,dm,_,0,hM,TM.cl,TM.nR,Ha,0,0,0,0,λk dk hk hdk nk=>?_];have S1:Same H (upd (upd H dk (.own k)) k (.ins CA dk [])):=λa o e=>by
  rw[bh (aV e hk),bh (aV e hdk)];exact e
 have g1:upd (upd H dk (.own k)) k (.ins CA dk []) k=some (.ins CA dk []):=aI;generalize upd (upd H dk (.own k)) k (.ins CA dk [])=H1 at S1 g1;erw[k,dk,g,c,z.nr,z.mn,z.hd,z.s,z.to.map V.int,1,g1,hc.imp (S1 _ _) (S1 _ _),λaT H2 hk2 hT2 S2=>%[1|6]];have S02:Same H H2:=Same.but S1 hk S2;clear S1 S2 g1;have hM2:=S02 _ _ hM;erw[0,M,CM,dm,_,0,hM2,TM.cl,TM.nR,Ha,2,0,M,CM,dm,0,hM2,TM.cl,TM.nR,xN,6];rw[Da];have nMk:M≠k:=aV hM hk;have S3:SameBut M H2 (upd H2 M (.ins CM dm (ml g h (z.nr+1) b))):=SameBut.upd _;have hM3:upd H2 M (.ins CM dm (ml g h (z.nr+1) b)) M=some (.ins CM dm (ml g h (z.nr+1) b)):=aI;generalize upd H2 M (.ins CM dm (ml g h (z.nr+1) b))=H3 at S3 hM3;erw[(by show 0<=sizeLine;decide),λsd hsd=>?_];have I4:=zB0 hsd (.lst []);have g4:upd H3 sd (.lst []) sd=some (.lst []):=aI;generalize upd H3 sd (.lst [])=H4 at I4 g4;have gM:g≠M:=λe=>by
  erw[dg,hg]at G;rw[e,hM]at hg;cases hg
 have nbM:b≠M:=by
  erw[kvs,e,_]at BX;exact bn e hM (by intro z;cases z)
 have S04:SameBut M H H4:=(zI0 S02).trans (S3.trans (zI0 I4));have hM4:=I4 _ _ hM3;have kT:bJ H H4:=λc xs h=>S04 c _ (bn h hM (by intro z;cases z)) h
 have hh4:=kT _ _ hh;have RW4:=RW.mono kT;have BX4:BxAt H4 b bx m:=BX.keep λo e=>S04 b o nbM e
 have G4:GameAt CG H4 g a' b' d' z.p:=by
  erw[dg,hg]at G;erw[dg,S04 _ _ gM hg]
 have hT4:H4 aT=some (.tup (z.to.map V.int)):=I4 _ _ (S3 _ _ (bn hT2 hM2 (by intro z;cases z)) hT2);have hgd4:=S04 _ _ (bn hgd hM (by intro z;cases z)) hgd;have nds:d'≠sd:=aV (S3 _ _ (bn hgd hM (by intro z;cases z)) (S02 _ _ hgd)) hsd;have hk4:=I4 _ _ (S3 _ _ nMk.symm hk2);have b4:∃kvs,H4 b=some (.dK kvs):=by
  erw[kvs,e,_]at BX4;erw[kvs,e]
 erw[kv4,hb4]at b4;have nbs:b≠sd:=bn hb4 g4 (by intro z;cases z);have nhb:h≠b:=bn hh4 hb4 (by intro z;cases z);have nhs:h≠sd:=bn hh4 g4 (by intro z;cases z);have nMs:M≠sd:=bn hM4 g4 (by intro z;cases z);have nkb:k≠b:=bn hk4 hb4 (by intro z;cases z);have nks:k≠sd:=bn hk4 g4 (by intro z;cases z);have AK4:AkAt CA CG H4 k g sd z:=%[dk,aT,a',b',d',tv,.non,hk4,G4,kT _ _ hga,kT _ _ hgb,TS.mono kT,hgd4,nds,hT4|.inl rfl]
 have sd0:H sd=none:=by
  cases e:H sd with
  | none=>rfl
  | some o=>rw[S3 _ _ nMs.symm (S02 _ _ e)]at hsd;cases hsd
 erw[λmm σ H'=>∃(st:MS)(d:Nat),σ=[some (.ref M),some (.int z.mn),some (.int z.hd),some (.int z.s),some (.ref c),some (.ref k),some (.ref sd),some (.int st.pl),some (.int (d:Int))]/\d<=200/\mm=200-d/\0<=st.pl/\st.sd.length<=d/\lF z rows (200-d) st=lF z rows 200 %[(0),bx|[]]/\H' sd=some (.lst (st.sd.map V.int))/\BxAt H' b st.bx (m+d)/\ku z.p st.bx/\ci st.sd z.p/\AkAt CA CG H' k g sd z/\But3 b sd k H4 H',%[_,%[(0),bx|[]],(0),1,zT0 _,1,Int.le_refl 0,zH0 _,1,g4,BX4,bo,(λx hx=>by cases hx),AK4|λ_ _ _ _ _ e=>e],6]
 rintro mm σ H' ⟨st,d,rfl,d2,rfl,st0,sl,hrun,hsd',BX',bo',so',AK',S'⟩;have hM':=S' _ _ nbM.symm nMs nMk hM4;have hh':=S' _ _ nhb nhs (bn hh4 hk4 (by intro z;cases z)) hh4;have kT':bJ H4 H':=λc xs h=>S' c _ (bn h hb4 (by intro z;cases z)) (bn h g4 (by intro z;cases z)) (bn h hk4 (by intro z;cases z)) h
 have RW':=RW4.mono kT';have fin:lF z rows (200-d) st=st->∀(l:Addr)(H5:Hp),H' l=none->Same H' H5->H5 l=some (.lst ((qT z.mn st.sd).map V.int))->Q (.ref l) H5:=λer l H5 l0 S5 hl=>by
  rw[er]at hrun;rw[←hrun]at q;refine q l H5 ?_ hl ((BX'.keep λo e=>S5 b o e).le #[0]) (S5 _ _ hM') (λa o h1 h2 e=>?_)
  . cases e:H l with
    | none=>rfl
    | some o=>
      have lM:l≠M:=λz=>by rw[z,hM']at l0;cases l0
      have lb:l≠b:=λz=>by
       erw[kvs,e',_]at BX';rw[z,e']at l0;cases l0
      have ls:l≠sd:=λz=>by rw[z,hsd']at l0;cases l0
      rw[S' _ _ lb ls (aV e hk) (S04 _ _ lM e)]at l0;cases l0
  . exact S5 _ _ (S' _ _ h2 (aV e sd0) (aV e hk) (S04 _ _ h1 e))
 erw[0,0,M,CM,dm,_,0,hM',TM.cl,TM.nH,Fd,h,0,.inr (zC0 hh'),2,0,6];rw[RW.1]
 by_cases c1:st.pl<(rows.length:Int)
 . refine aS c1 ?_;erw[0,sd,0,.inl (zG0 hsd'),0,2,0,6];rw[zE0]
   by_cases c2:(st.sd.length:Int)<z.mn
   . refine aS c2 ?_;erw[0,2,0,6]
     by_cases c3:d<200
     . refine aS #[0] ?_;erw[_,λ_ _ h=>h,6];erw[0,M,dm,0,hM',ml_n1,0,0,0,M,g,h,b,dm,k,sd,rv,_,st.pl,z,rows,st.bx,m+d,st.sd,1,hM',nMk,hh',RW',rq,st0,c1,BX',bo',3,hsd',3,AK',ok,λH6 hs6 BX6 A6 S6=>?_];erw[0,2,6];erw[_,(show 200-(d+1)<200-d by omega),eI z rows st,d+1,1,c3,1,Bs rq st0,zP0 uW (Nat.succ_le_succ sl),6,hs6,BX6,(qh ok bo' so').1,(qh ok bo' so').2,A6,S'.trans S6];rw[←hrun,show 200-d=(200-(d+1))+1 by omega];exact(zD0 ⟨c1,c2⟩).symm
     . refine aB #[0] ?_;have ed:200-d=0:=by omega
       erw[_,_,_,_,_,_,_,sd,z.mn,st.sd,1,hsd',3,mn0,mn1,fin (by rw[ed];rfl)]
   . refine aB c2 (cW ?_);erw[_,_,_,_,_,_,_,sd,z.mn,st.sd,1,hsd',3,mn0,mn1,fin ?_];cases 200-d with
     | zero=>rfl
     | succ n=>exact zA0 (λz=>c2 z.2)
 . refine aB c1 (cW ?_);erw[_,_,_,_,_,_,_,sd,z.mn,st.sd,1,hsd',3,mn0,mn1,fin ?_];cases 200-d with
   | zero=>rfl
   | succ n=>exact zA0 (λz=>c1 z.1)
end
section
variable {ns:List Str} {ts:List Tr} {p:Int}
theorem pQ(k:GmK ns ts p)(x:Str):0<=bz ts x/\bz ts x<=400:=by
 have t0:ts≠[]:=λz=>by have:=k.t1;rw[z]at this;cases this
 have:=iL (ns:=ts.map λt=>(t.names.count x:Int)) (by simpa using t0)
 let%[t,ht|e]:=List.mem_map.mp this;unfold bz;rw[←e];have h1:=List.count_le_length (a:=x) (l:=t.names);have h2:=t.names_len;have h3:=(k.tok t ht).2.2.2;omega
end
structure HearOk(ns:List Str)(p:Int)(z:Db)(xs:List Int):Prop where
 aw:z.aw=(("hear":Str),some (xs.length:Int))
 xo:ci xs p
 x5:xs.length<=500
 ro:z.cl≠[]->li xs p
 tl:z.to.length<=ns.length
 po:ci z.to p
structure TossOk(ns:List Str)(p:Int)(z:Db)(r:Int):Prop where
 aw:z.aw.1="coin"
 r0:0<=r
 r1:r<p
 tl:z.to.length<=ns.length
 ro:z.he≠[]->li z.he p/\z.to.length<ns.length
 po:ci z.to p
section
variable {C CG cT cC cN:Addr}
structure Gd(ns:List Str)(ts:List Tr)(p:Int)(z:Db):Prop where
 tl:z.to.length<=ns.length
 po:ci z.to p
 e0:0<=z.ed
 e1:z.ed<p
 he:z.aw.1="hear" -> (z.cl=[]/\z.aw=(("hear":Str),some (ts.length:Int)))∨(z.cl≠[]/\z.to.length<ns.length/\z.aw=(("hear":Str),some (bz ts (ns.getD z.to.length "")+1)))
 co:z.aw.1="coin" -> z.cl≠[]/\(z.he≠[]->li z.he p/\z.to.length<ns.length)
 h0:z.cl=[]->z.he=[]
 ww:AwW z.aw.1
section
variable {ns:List Str} {ts:List Tr} {p:Int} {z:Db}
theorem Gd.new(k:GmK ns ts p):Gd ns ts p (Db.new ts):=by
 have:=k.p2
 erw[zT0 _,(λx hx=>by cases hx),Int.le_refl _,(by show(0:Int)<p;omega),λ_=>.inl %[1|1],(λh=>by cases h),λ_=>rfl,.inl rfl]
theorem Gd.goOn(tl:z.to.length<=ns.length)(po:ci z.to p)(e0:0<=z.ed)(e1:z.ed<p)(cl:z.cl≠[]):Gd ns ts p (goOn ns ts p z):=by
 unfold Mine.goOn
 by_cases c:z.to.length<ns.length
 . rw[zD0 c];erw[tl,po,e0,e1,λ_=>.inr %[cl,c|1],(λh=>by cases h),λh=>absurd h cl,.inl rfl]
 . rw [zA0 c];unfold eg
   by_cases e:z.ed=hor z.s p (ts.map λt=>t.worth ns z.to p)
   . rw[zD0 e];erw[tl,po,e0,e1,(λh=>by cases h),(λh=>by cases h),λh=>absurd h cl,.inr (.inr (.inr rfl))]
   . rw[zA0 e];erw[tl,po,e0,e1,(λh=>by cases h),(λh=>by cases h),λh=>absurd h cl,.inr (.inr (.inl rfl))]
theorem Gd.hear_ne(k:GmK ns ts p)(h:Gd ns ts p z)(ok:HearOk ns p z xs):xs≠[]:=λe=>by
 have a:=ok.aw;rw[e,List.length_nil]at a;have t1:=k.t1;rcases h.he (by rw[a])with⟨_,w⟩ | ⟨_,_,w⟩
 . rw [w]at a
   have:=zU0 (Prod.mk.inj a).2
   omega
 . rw [w]at a
   have:=zU0 (Prod.mk.inj a).2
   have:=pQ k (ns.getD z.to.length "")
   omega
theorem Gd.hear(k:GmK ns ts p)(h:Gd ns ts p z)(ok:HearOk ns p z xs):Gd ns ts p (cF ns ts p xs z)/\(cF ns ts p xs z).cl≠[]:=by
 have p2:=k.p2;have xn:=h.hear_ne k ok;have a1:z.aw.1="hear":=by rw[ok.aw]
 unfold cF
 by_cases c:z.cl=[]
 . rw [zD0 c];unfold iM
   by_cases c1:ts.length=1
   . rw [zD0 c1];unfold wn;have hr:=pO (s:=0) (p:=p) #[0] xs;erw[Gd.goOn h.tl h.po hr.1 hr.2 xn,6];unfold Mine.goOn eg
     split <;> exact xn
   . rw[zA0 c1];erw[%[h.tl,h.po,h.e0,h.e1,(λz=>by cases z),λ_=>%[xn|λe=>absurd (h.h0 c) e],λe=>absurd e xn|.inr (.inl rfl)],xn]
 . rw [zA0 c];unfold dB;have tl:z.to.length<ns.length:=by
    rcases h.he a1 with⟨e,_⟩ | ⟨_,t,_⟩
    . exact absurd e c
    . exact t
   by_cases e:(val p xs 0+val p xs 1) % p=z.ed
   . rw[zD0 e];erw[%[h.tl,h.po,h.e0,h.e1,(λz=>by cases z),λ_=>%[c|λ_=>%[ok.ro c|tl]],λe=>absurd e c|.inr (.inl rfl)],c]
   . rw[zA0 e];erw[%[h.tl,h.po,h.e0,h.e1,(λz=>by cases z),(λz=>by cases z),λe=>absurd e c|.inr (.inr (.inl rfl))],c]
theorem Gd.toss(k:GmK ns ts p)(h:Gd ns ts p z)(ok:TossOk ns p z r):Gd ns ts p (cZ ns ts p r z)/\(cZ ns ts p r z).cl≠[]:=by
 have p2:=k.p2;let%[cl|ro]:=h.co ok.aw;unfold cZ
 by_cases c:z.he=[]
 . rw [zD0 c];unfold wn;have hr:=pO (s:=r) (p:=p) #[0] z.cl;erw[Gd.goOn h.tl h.po hr.1 hr.2 cl,6];unfold Mine.goOn eg
   split <;> exact cl
 . rw [zA0 c];have hr:=Ef (p:=p) #[0] z.he r;erw[Gd.goOn ?_ (λx hx=>?_) hr.1 hr.2 cl,6]
   . show (z.to++[r]).length<=_;rw[zJ0,qM0]
     have:=(ro c).2
     omega
   . rcases qH0 hx with h' | h'
     . exact h.po x h'
     . rw[zN0 h'];erw[ok.r0,ok.r1]
   . unfold Mine.goOn eg
     split <;> exact cl
end
end
structure Tk where
 z:Db
 bx:Str->Int
 nr:Int
def awN(z:Db):Int:=z.aw.2.getD 0
def Tk.ak(ns:List Str)(ts:List Tr)(p:Int)(t:Tk):Ak:=%[ns,ts,p,t.nr,awN t.z,t.z.ed,t.z.s|t.z.to]
noncomputable def Tk.run(ns:List Str)(ts:List Tr)(p:Int)(rows:List Hr)(t:Tk):MS:=lF (t.ak ns ts p) rows 200 %[(0),t.bx|[]]
noncomputable def Tk.said(ns:List Str)(ts:List Tr)(p:Int)(rows:List Hr)(t:Tk):List Int:=qT (awN t.z) (t.run ns ts p rows).sd
noncomputable def Tk.ask(ns:List Str)(ts:List Tr)(p:Int)(rows:List Hr)(t:Tk):Tk:=%[cF ns ts p (t.said ns ts p rows) t.z,(t.run ns ts p rows).bx|t.nr+1]
noncomputable def Tk.toss(ns:List Str)(ts:List Tr)(p r:Int)(t:Tk):Tk:=%[cZ ns ts p r t.z,t.bx|t.nr]
def Tk.new(ts:List Tr):Tk:=%[Db.new ts,λ_=>0|(0)]
def bV (ns:List Str) (z:Db):Nat:=if z.aw.1="hear" then 2*(ns.length-z.to.length)else if z.aw.1="coin" then(if z.he=[]then 2*ns.length+1 else 2*(ns.length-z.to.length)-1)else 0
def bL (ns:List Str) (z:Db):Nat:=if z.aw.1="hear" then ns.length-z.to.length else if z.aw.1="coin" then(if z.he=[]then ns.length+1 else ns.length-z.to.length)else 0
structure TkOk(ns:List Str)(ts:List Tr)(p:Int)(t:Tk):Prop where
 gd:Gd ns ts p t.z
 cl:t.z.cl≠[]
 s0:0<=t.z.s
 s1:t.z.s<p
 bo:ku p t.bx
 nr:1<=t.nr
 fi:t.z.aw.1="coin" -> t.z.he=[]->t.z.to=[]
section
variable {ns:List Str} {ts:List Tr} {p:Int} {t:Tk} {rows:List Hr}
theorem iC:¬ (("coin":Str)="hear"):=by decide
theorem yP:¬ (("caught":Str)="hear"):=by decide
theorem ne_w3:¬ (("caught":Str)="coin"):=by decide
theorem CN:¬ (("believed":Str)="coin"):=by decide
theorem uH(z:Db):(goOn ns ts p z).s=z.s/\(goOn ns ts p z).to=z.to/\(goOn ns ts p z).he=z.he/\(goOn ns ts p z).cl=z.cl:=by
 unfold goOn eg
 split <;> erw[1,1,1,1]
theorem kN (z:Db):¬ (goOn ns ts p z).aw.1="coin":=by
 unfold goOn eg
 split
 . exact λh=>iC h.symm
 . show ¬ (if _ then _ else _:Str×Option Int).1="coin"
   split
   . exact CN
   . exact ne_w3
theorem oz(z:Db):bV ns (goOn ns ts p z)<=2*(ns.length-z.to.length)/\bL ns (goOn ns ts p z)<=ns.length-z.to.length:=by
 let%[_,e|_]:=uH (ns:=ns) (ts:=ts) (p:=p) z;have no:=kN (ns:=ns) (ts:=ts) (p:=p) z;unfold bV bL;rw[e,zA0 no,zA0 no]
 constructor <;> split <;> omega
theorem TkOk.ak (k:GmK ns ts p) (n6:ns.length<=6) (h:TkOk ns ts p t) (hw:t.z.aw.1="hear"):AkOk (t.ak ns ts p)/\0<=awN t.z/\awN t.z<=500/\t.z.to.length<ns.length/\t.z.aw=(("hear":Str),some (awN t.z))/\awN t.z=bz ts (ns.getD t.z.to.length "")+1:=by
 rcases h.gd.he hw with⟨e,_⟩ | ⟨_,tl,aw⟩
 . exact absurd e h.cl
 have ea:awN t.z=bz ts (ns.getD t.z.to.length "")+1:=by unfold awN;rw[aw];rfl
 let%[d0|d4]:=pQ k (ns.getD t.z.to.length "");have nr:=h.nr;erw[%[k,n6,by show 0<=t.nr;omega,λ_=>tl,h.gd.po,h.s0,h.s1,h.gd.e0,h.gd.e1|by show t.z.to.length<=100;omega],3,3,tl,by rw[ea];exact aw,ea]
theorem TkOk.hear (k:GmK ns ts p) (n6:ns.length<=6) (h:TkOk ns ts p t) (hw:t.z.aw.1="hear"):HearOk ns p t.z (t.said ns ts p rows):=by
 let%[ok,a0,a5,tl,aw|ea]:=h.ak k n6 hw;have p2:=k.p2;have p9:=k.p9;let%[_,r2|r3]:=ma (rows:=rows) ok 200 %[(0),t.bx|[]] h.bo (λx hx=>by cases hx) a0;have xo:ci (t.said ns ts p rows) p:=yI r2 (by show 0<p;omega);have xl:((t.said ns ts p rows).length:Int)=awN t.z:=vp r3;have hx:ns.getD t.z.to.length ""∈ns:=by
  rw[qP0,zQ0 tl];exact qR0 tl
 let%[d0|d1]:=k.deg _ hx;let%[_|d4]:=pQ k (ns.getD t.z.to.length "");erw[by rw[xl];exact aw,xo,3,λ_=>%[3,3,3|λj=>?_],h.gd.tl,h.gd.po]
 have:=mO xo #[0] j
 omega
theorem yb(z:Db)(xs:List Int)(x0:xs≠[]):bV ns (dB p xs z)<=2*(ns.length-z.to.length)-1/\bL ns (dB p xs z)<=ns.length-z.to.length:=by
 have h1:(dB p xs z).to=z.to:=rfl;have h2:(dB p xs z).he=xs:=rfl;unfold bV bL;rw[h1,h2,zA0 x0,zA0 x0];have nh:¬ (dB p xs z).aw.1="hear":=by
  unfold dB;show ¬ (if _ then _ else _:Str×Option Int).1="hear"
  split
  . exact iC
  . exact yP
 rw[zA0 nh,zA0 nh]
 constructor <;> split <;> omega
theorem TkOk.ask (k:GmK ns ts p) (n6:ns.length<=6) (h:TkOk ns ts p t) (hw:t.z.aw.1="hear"):TkOk ns ts p (t.ask ns ts p rows)/\bV ns (t.ask ns ts p rows).z<bV ns t.z/\bL ns (t.ask ns ts p rows).z<=bL ns t.z/\¬ (t.ask ns ts p rows).z.aw.1="hear":=by
 let%[ok,a0,a5,tl,aw|ea]:=h.ak k n6 hw;have ho:=h.hear (rows:=rows) k n6 hw;let%[r1,_|_]:=ma (rows:=rows) ok 200 %[(0),t.bx|[]] h.bo (λx hx=>by cases hx) a0;let%[g1|g2]:=h.gd.hear k ho;have x0:=h.gd.hear_ne k ho;have e:cF ns ts p (t.said ns ts p rows) t.z=dB p (t.said ns ts p rows) { t.z with pl:=t.z.pl+((t.said ns ts p rows).length:Int) }:=zA0 h.cl;have nr:=h.nr;let%[l1|l2]:=yb (ns:=ns) (p:=p) { t.z with pl:=t.z.pl+((t.said ns ts p rows).length:Int) } _ x0;have s1:bV ns t.z=2*(ns.length-t.z.to.length):=zD0 hw;have s2:bL ns t.z=ns.length-t.z.to.length:=zD0 hw;erw[%[g1,g2,6,6,r1,by show 1<=t.nr+1;omega|λ_ he=>?_],6,6,6]
 . show 0<=(cF ns ts p _ t.z).s;rw[e];exact h.s0
 . show(cF ns ts p _ t.z).s<p;rw[e];exact h.s1
 . have:(cF ns ts p (t.said ns ts p rows) t.z).he=[]:=he
   rw[e]at this;exact absurd this x0
 . show bV ns (cF ns ts p _ t.z)<_;rw[e,s1];have l1':bV ns (dB p (t.said ns ts p rows) { t.z with pl:=t.z.pl+((t.said ns ts p rows).length:Int) })<=2*(ns.length-t.z.to.length)-1:=l1;omega
 . show bL ns (cF ns ts p _ t.z)<=_;rw[e,s2];exact l2
 . show ¬ (cF ns ts p _ t.z).aw.1="hear";rw[e];unfold dB;show ¬ (if _ then _ else _:Str×Option Int).1="hear"
   split
   . exact iC
   . exact yP
theorem TkOk.tossOk (h:TkOk ns ts p t) (hw:t.z.aw.1="coin") {r:Int} (r0:0<=r) (r1:r<p):TossOk ns p t.z r:=%[hw,r0,r1,h.gd.tl,(h.gd.co hw).2|h.gd.po]
theorem TkOk.toss (k:GmK ns ts p) (h:TkOk ns ts p t) (hw:t.z.aw.1="coin") {r:Int} (r0:0<=r) (r1:r<p):TkOk ns ts p (t.toss ns ts p r)/\bV ns (t.toss ns ts p r).z<bV ns t.z/\bL ns (t.toss ns ts p r).z+1<=bL ns t.z/\¬ (t.toss ns ts p r).z.aw.1="coin"/\(t.z.he=[]->(t.toss ns ts p r).z.s=r/\(t.toss ns ts p r).z.to=[])/\(t.z.he≠[]->(t.toss ns ts p r).z.s=t.z.s/\(t.toss ns ts p r).z.to=t.z.to++[r]):=by
 have ok:=h.tossOk hw r0 r1;let%[g1|g2]:=h.gd.toss k ok;have nh:¬ t.z.aw.1="hear":=by rw[hw];exact iC
 have s1:bV ns t.z=if t.z.he=[]then 2*ns.length+1 else 2*(ns.length-t.z.to.length)-1:=by unfold bV;rw[zA0 nh,zD0 hw]
 have s2:bL ns t.z=if t.z.he=[]then ns.length+1 else ns.length-t.z.to.length:=by unfold bL;rw[zA0 nh,zD0 hw]
 have nr:=h.nr
 by_cases c:t.z.he=[]
 . have et:=h.fi hw c;have e:cZ ns ts p r t.z=goOn ns ts p { t.z with pl:=t.z.pl+1,s:=r,ed:=hor r p t.z.cl }:=zD0 c;have lw:=uH (ns:=ns) (ts:=ts) (p:=p) { t.z with pl:=t.z.pl+1,s:=r,ed:=hor r p t.z.cl };have ll:=oz (ns:=ns) (ts:=ts) (p:=p) { t.z with pl:=t.z.pl+1,s:=r,ed:=hor r p t.z.cl };have ln:=kN (ns:=ns) (ts:=ts) (p:=p) { t.z with pl:=t.z.pl+1,s:=r,ed:=hor r p t.z.cl };rw[←e]at lw ll ln;erw[w1,w2,w3,w4]at lw;have l1:bV ns (cZ ns ts p r t.z)<=2*(ns.length-t.z.to.length):=ll.1;have l2:bL ns (cZ ns ts p r t.z)<=ns.length-t.z.to.length:=ll.2;rw[zD0 c]at s1 s2;erw[%[g1,g2,6,6,h.bo,nr|λa=>absurd a ln],6,6,ln,λ_=>%[w1|w2.trans et],λz=>absurd c z]
   . show 0<=(cZ ns ts p r t.z).s;rw[w1];exact r0
   . show(cZ ns ts p r t.z).s<p;rw[w1];exact r1
   . show bV ns (cZ ns ts p r t.z)<_;omega
   . show bL ns (cZ ns ts p r t.z)+1<=_;omega
 . have tl:=((h.gd.co hw).2 c).2;have e:cZ ns ts p r t.z=goOn ns ts p { t.z with pl:=t.z.pl+1,ed:=val p t.z.he r,to:=t.z.to++[r] }:=zA0 c;have lw:=uH (ns:=ns) (ts:=ts) (p:=p) { t.z with pl:=t.z.pl+1,ed:=val p t.z.he r,to:=t.z.to++[r] };have ll:=oz (ns:=ns) (ts:=ts) (p:=p) { t.z with pl:=t.z.pl+1,ed:=val p t.z.he r,to:=t.z.to++[r] };have ln:=kN (ns:=ns) (ts:=ts) (p:=p) { t.z with pl:=t.z.pl+1,ed:=val p t.z.he r,to:=t.z.to++[r] };rw[←e]at lw ll ln;erw[w1,w2,w3,w4]at lw;have el:(t.z.to++[r]).length=t.z.to.length+1:=by rw[zJ0];rfl
   have l1:bV ns (cZ ns ts p r t.z)<=2*(ns.length-(t.z.to++[r]).length):=ll.1;have l2:bL ns (cZ ns ts p r t.z)<=ns.length-(t.z.to++[r]).length:=ll.2;rw[el]at l1 l2;rw[zA0 c]at s1 s2;erw[%[g1,g2,6,6,h.bo,nr|λa=>absurd a ln],6,6,ln,λz=>absurd z c,λ_=>%[w1|w2]]
   . show 0<=(cZ ns ts p r t.z).s;rw[w1];exact h.s0
   . show(cZ ns ts p r t.z).s<p;rw[w1];exact h.s1
   . show bV ns (cZ ns ts p r t.z)<_;omega
   . show bL ns (cZ ns ts p r t.z)+1<=_;omega
theorem xG(k:GmK ns ts p)(n6:ns.length<=6):AkOk ((Tk.new ts).ak ns ts p)/\awN (Tk.new ts).z=(ts.length:Int)/\HearOk ns p (Db.new ts) ((Tk.new ts).said ns ts p rows)/\ku p (Tk.new ts).bx:=by
 have p2:=k.p2;have t1:=k.t1;have t10:=k.t10;have b0:ku p (Tk.new ts).bx:=λx=>by show(0:Int)<=0/\(0:Int)<p;omega
 have ok:AkOk ((Tk.new ts).ak ns ts p):=%[k,n6,Int.le_refl 0,λz=>absurd z (by show ¬ (0:Int)<0;omega),(λx hx=>by cases hx),Int.le_refl 0,(by show(0:Int)<p;omega),Int.le_refl 0,(by show(0:Int)<p;omega)|zT0 _]
 let%[_,r2|r3]:=ma (rows:=rows) ok 200 %[(0),(Tk.new ts).bx|[]] b0 (λx hx=>by cases hx) (by show(0:Int)<=(ts.length:Int);omega);have xl:(((Tk.new ts).said ns ts p rows).length:Int)=(ts.length:Int):=vp r3;erw[ok,1,%[6,yI r2 (by show 0<p;omega),3,λz=>absurd rfl z,zT0 _|λx hx=>by cases hx],b0];rw[xl];rfl
theorem kJ (k:GmK ns ts p) (n6:ns.length<=6):TkOk ns ts p ((Tk.new ts).ask ns ts p rows)/\bV ns ((Tk.new ts).ask ns ts p rows).z<=2*ns.length+1/\bL ns ((Tk.new ts).ask ns ts p rows).z<=ns.length+(if 1<ts.length then 1 else 0)/\(1<ts.length->((Tk.new ts).ask ns ts p rows).z.aw=(("coin":Str),none)/\((Tk.new ts).ask ns ts p rows).z.he=[]/\((Tk.new ts).ask ns ts p rows).z.to=[])/\(¬ 1<ts.length->¬ ((Tk.new ts).ask ns ts p rows).z.aw.1="coin"/\((Tk.new ts).ask ns ts p rows).z.s=0/\((Tk.new ts).ask ns ts p rows).z.to=[]):=by
 have p2:=k.p2;have t1:=k.t1;let%[ok,_,ho|b0]:=xG (rows:=rows) k n6;let%[r1,_|_]:=ma (rows:=rows) ok 200 %[(0),(Tk.new ts).bx|[]] b0 (λx hx=>by cases hx) (by show(0:Int)<=(ts.length:Int);omega);let%[g1|g2]:=(Gd.new k).hear k ho;have e0:cF ns ts p ((Tk.new ts).said ns ts p rows) (Db.new ts)=iM ns ts p ((Tk.new ts).said ns ts p rows) { Db.new ts with pl:=(Db.new ts).pl+(((Tk.new ts).said ns ts p rows).length:Int) }:=zD0 rfl
 by_cases c:ts.length=1
 . have e:cF ns ts p ((Tk.new ts).said ns ts p rows) (Db.new ts)=goOn ns ts p { Db.new ts with pl:=(Db.new ts).pl+(((Tk.new ts).said ns ts p rows).length:Int),cl:=(Tk.new ts).said ns ts p rows,s:=0,ed:=hor 0 p ((Tk.new ts).said ns ts p rows) }:=by
    rw[e0];exact zD0 c
   have lw:=uH (ns:=ns) (ts:=ts) (p:=p) { Db.new ts with pl:=(Db.new ts).pl+(((Tk.new ts).said ns ts p rows).length:Int),cl:=(Tk.new ts).said ns ts p rows,s:=0,ed:=hor 0 p ((Tk.new ts).said ns ts p rows) };have ll:=oz (ns:=ns) (ts:=ts) (p:=p) { Db.new ts with pl:=(Db.new ts).pl+(((Tk.new ts).said ns ts p rows).length:Int),cl:=(Tk.new ts).said ns ts p rows,s:=0,ed:=hor 0 p ((Tk.new ts).said ns ts p rows) };have ln:=kN (ns:=ns) (ts:=ts) (p:=p) { Db.new ts with pl:=(Db.new ts).pl+(((Tk.new ts).said ns ts p rows).length:Int),cl:=(Tk.new ts).said ns ts p rows,s:=0,ed:=hor 0 p ((Tk.new ts).said ns ts p rows) };rw[←e]at lw ll ln;erw[w1,w2,w3,w4]at lw;have l1:bV ns (cF ns ts p ((Tk.new ts).said ns ts p rows) (Db.new ts))<=2*(ns.length-0):=ll.1;have l2:bL ns (cF ns ts p ((Tk.new ts).said ns ts p rows) (Db.new ts))<=ns.length-0:=ll.2;erw[%[g1,g2,6,6,r1,by show(1:Int)<=0+1;decide|λa=>absurd a ln],6,6,λz=>by omega,λ_=>%[ln,w1|w2]]
   . show 0<=(cF ns ts p _ (Db.new ts)).s;rw[w1];exact Int.le_refl 0
   . show(cF ns ts p _ (Db.new ts)).s<p;rw[w1];show(0:Int)<p;omega
   . show bV ns (cF ns ts p _ (Db.new ts))<=_;omega
   . show bL ns (cF ns ts p _ (Db.new ts))<=_;rw[zA0 #[0]];omega
 . have e:cF ns ts p ((Tk.new ts).said ns ts p rows) (Db.new ts)={ Db.new ts with pl:=(Db.new ts).pl+(((Tk.new ts).said ns ts p rows).length:Int),cl:=(Tk.new ts).said ns ts p rows,aw:=("coin",none) }:=by
    rw[e0];exact zA0 c
   have ez:((Tk.new ts).ask ns ts p rows).z={ Db.new ts with pl:=(Db.new ts).pl+(((Tk.new ts).said ns ts p rows).length:Int),cl:=(Tk.new ts).said ns ts p rows,aw:=("coin",none) }:=e;erw[%[g1,g2,6,6,r1,by show(1:Int)<=0+1;decide|λ_ _=>?_],6,6,λ_=>%[6,6|6],λz=>by omega]
   . rw[ez];exact Int.le_refl 0
   . rw[ez];show(0:Int)<p;omega
   . rw[ez];rfl
   . rw[ez];show(if(("coin":Str)="hear")then _ else if(("coin":Str)="coin")then(if([]:List Int)=[]then 2*ns.length+1 else _)else 0)<=_;rw[zA0 iC,zD0 rfl,zD0 rfl];exact zH0 _
   . rw[ez];show(if(("coin":Str)="hear")then _ else if(("coin":Str)="coin")then(if([]:List Int)=[]then ns.length+1 else _)else 0)<=_;rw[zA0 iC,zD0 rfl,zD0 rfl,zD0 #[0]];exact zH0 _
   . rw[ez]
   . rw[ez];rfl
   . rw[ez];rfl
end
inductive TR where
 | claims (xs:List Int) | say (xs:List Int) | coin (r:Int)
noncomputable def db(ns:List Str)(ts:List Tr)(p:Int)(rows:List Hr):List Int->Nat->Tk->List TR×Tk
 | _,0,t=>([],t)
 | cs,n+1,t=>if t.z.aw.1="hear" then(.say (t.said ns ts p rows)::(db ns ts p rows cs n (t.ask ns ts p rows)).1,(db ns ts p rows cs n (t.ask ns ts p rows)).2)
   else if t.z.aw.1="coin" then(.coin (cs.headD 0)::(db ns ts p rows cs.tail n (t.toss ns ts p (cs.headD 0))).1,(db ns ts p rows cs.tail n (t.toss ns ts p (cs.headD 0))).2)
   else([],t)
noncomputable def gl(ns:List Str)(ts:List Tr)(p:Int)(rows:List Hr)(cs:List Int):List TR×Tk:=(.claims ((Tk.new ts).said ns ts p rows)::(db ns ts p rows cs 20 ((Tk.new ts).ask ns ts p rows)).1,(db ns ts p rows cs 20 ((Tk.new ts).ask ns ts p rows)).2)
theorem dR      {t:Tk} (h1:¬ t.z.aw.1="hear") (h2:¬ t.z.aw.1="coin"):∀n,db ns ts p rows cs n t=([],t)
 | 0=>rfl
 | n+1=>by
   show(if _ then _ else _)=_;rw[zA0 h1,zA0 h2]
noncomputable def settle(ns:List Str)(ts:List Tr)(p:Int)(rows:List Hr):Nat->Tk->Tk
 | 0,t=>t
 | n+1,t=>if t.z.aw.1="hear" then settle ns ts p rows n (t.ask ns ts p rows)else t
def iN(f:Int->Int×Option (List Int)):Nat->Int×Option (List Int)
 | 0=>(0,none)
 | k+1=>((iN f k).1+(f (k:Int)).1,(iN f k).2.or (f (k:Int)).2)
noncomputable def dZ(ns:List Str)(ts:List Tr)(p:Int)(rows:List Hr)(cn:Nat):Nat->Tk->List Int->Int×Option (List Int)
 | 0,_,_=>(0,none)
 | d+1,t,cs=>if(settle ns ts p rows 2 t).z.aw.1="believed" then(1,none)else if(settle ns ts p rows 2 t).z.aw.1="caught" then(0,some (cs++List.replicate (cn-cs.length) 0))
   else iN (λr=>dZ ns ts p rows cn d ((settle ns ts p rows 2 t).toss ns ts p r) (cs++[r])) p.toNat
def Beg(ns:List Str)(ts:List Tr)(p:Int)(t:Tk):Prop:=t=Tk.new ts∨TkOk ns ts p t
section
variable {ns:List Str} {ts:List Tr} {p:Int} {t:Tk} {rows:List Hr}
theorem cI (h:¬ t.z.aw.1="hear"):∀n,settle ns ts p rows n t=t
 | 0=>rfl
 | n+1=>zA0 h
theorem kz (k:GmK ns ts p) (n6:ns.length<=6) (h:TkOk ns ts p t):TkOk ns ts p (settle ns ts p rows 2 t)/\bL ns (settle ns ts p rows 2 t).z<=bL ns t.z/\¬ (settle ns ts p rows 2 t).z.aw.1="hear":=by
 by_cases c:t.z.aw.1="hear"
 . let%[o1,_,o3|o4]:=h.ask (rows:=rows) k n6 c;have e:settle ns ts p rows 2 t=t.ask ns ts p rows:=(zD0 c).trans (cI o4 1);rw[e];erw[o1,o3,o4]
 . rw[cI c];erw[h,zH0 _,c]
theorem iX (k:GmK ns ts p) (n6:ns.length<=6):TkOk ns ts p (settle ns ts p rows 2 (Tk.new ts))/\bL ns (settle ns ts p rows 2 (Tk.new ts)).z<=ns.length+(if 1<ts.length then 1 else 0)/\¬ (settle ns ts p rows 2 (Tk.new ts)).z.aw.1="hear":=by
 let%[o1,_,o3,_|_]:=kJ (rows:=rows) k n6;have e:settle ns ts p rows 2 (Tk.new ts)=settle ns ts p rows 1 ((Tk.new ts).ask ns ts p rows):=zD0 rfl;rw[e]
 by_cases c:((Tk.new ts).ask ns ts p rows).z.aw.1="hear"
 . let%[q1,_,q3|q4]:=o1.ask (rows:=rows) k n6 c;have e:settle ns ts p rows 1 ((Tk.new ts).ask ns ts p rows)=((Tk.new ts).ask ns ts p rows).ask ns ts p rows:=zD0 c;rw[e];erw[q1,zP0 q3 o3,q4]
 . rw[cI c];erw[o1,o3,c]
theorem Beg.settle (k:GmK ns ts p) (n6:ns.length<=6) (h:Beg ns ts p t):TkOk ns ts p (settle ns ts p rows 2 t)/\¬ (settle ns ts p rows 2 t).z.aw.1="hear":=by
 rcases h with rfl | h
 . erw[(iX k n6).1,(iX k n6).2.2]
 . erw[(kz k n6 h).1,(kz k n6 h).2.2]
theorem wo (h:TkOk ns ts p t) (hn:¬ t.z.aw.1="hear") (h1:¬ t.z.aw.1="believed") (h2:¬ t.z.aw.1="caught"):t.z.aw.1="coin":=by
 rcases h.gd.ww with e | e | e | e
 . exact absurd e hn
 . exact e
 . exact absurd e h2
 . exact absurd e h1
structure AskOk(ns:List Str)(ts:List Tr)(p:Int)(rows:List Hr)(t:Tk):Prop where
 ak:AkOk (t.ak ns ts p)
 bo:ku p t.bx
 aw:t.z.aw=(("hear":Str),some (awN t.z))
 a0:0<=awN t.z
 a5:awN t.z<=500
 ho:HearOk ns p t.z (t.said ns ts p rows)
theorem Beg.ask (k:GmK ns ts p) (n6:ns.length<=6) (h:Beg ns ts p t) (hw:t.z.aw.1="hear"):AskOk ns ts p rows t:=by
 rcases h with rfl | h
 . let%[ak0,an0,ho0|bo0]:=xG (rows:=rows) k n6;have t1:=k.t1;have t10:=k.t10;erw[ak0,bo0,1,by rw[an0];omega,by rw[an0];omega,ho0]
 . let%[ak,a0,a5,tl,aw|ea]:=h.ak k n6 hw;erw[ak,h.bo,aw,a0,a5,h.hear (rows:=rows) k n6 hw]
theorem Beg.asked (k:GmK ns ts p) (n6:ns.length<=6) (h:Beg ns ts p t) (hw:t.z.aw.1="hear"):TkOk ns ts p (t.ask ns ts p rows):=by
 rcases h with rfl | h
 . exact(kJ (rows:=rows) k n6).1
 . exact(h.ask (rows:=rows) k n6 hw).1
end
section
variable {C CM CA CG:Addr}
structure TalkAt(C CM CG:Addr)(H:Hp)(D M g h b:Addr)(rows:List Hr)(ns:List Str)(ts:List Tr)(p:Int)(t:Tk)(m:Nat):Prop where
 DA:DbAt C H D g t.z
 G:Gm CG H g ns ts p
 hM:∃dm,H M=some (.ins CM dm (ml g h t.nr b))
 hh:∃rv,H h=some (.tup rv)/\RowsAt H rv rows
 BX:BxAt H b t.bx m
 ne:D≠M
theorem TalkAt.same(w:TalkAt C CM CG H D M g h b rows ns ts p t m)(s:Same H H'):TalkAt C CM CG H' D M g h b rows ns ts p t m:=by
 erw[DA,G,%[dm|hM],%[rv,hh|R],B,ne]at w;erw[DA.same s,G.same s,%[dm|s _ _ hM],%[rv,s _ _ hh|R.mono (aX s)],B.keep λo e=>s _ _ e,ne]
theorem DbAt.but2{C' dm:Addr}{fs:List (Str×V)}{kvs:List (Key×V)}(h:DbAt C H D g z)(s:FA M b H H')(hM:H M=some (.ins C' dm fs))(hb:H b=some (.dK kvs))(ne:D≠M):DbAt C H' D g z:=by
 erw[dx,aA,aC,aH,aT,R]at h;have kT:bJ H H':=λa xs e=>s _ _ (bn e hM (by intro z;cases z)) (bn e hb (by intro z;cases z)) e
 erw[dx,aA,aC,aH,aT,s _ _ ne (bn R.hD hb (by intro z;cases z)) R.hD,kT _ _ R.hA,kT _ _ R.hC,kT _ _ R.hH,kT _ _ R.hT]
theorem Gm.but2{dm:Addr}{kvs:List (Key×V)}(G:Gm CG H g ns ts p)(s:FA M b H H')(hM:H M=some (.ins CM dm (ml g' h r b')))(hb:H b=some (.dK kvs)):Gm CG H' g ns ts p:=by
 erw[a,b1,d,tv,%[dg|hg],h2,h3,h4,h5]at G;have kT:bJ H H':=λa xs e=>s _ _ (bn e hM (by intro z;cases z)) (bn e hb (by intro z;cases z)) e
 have gM:g≠M:=λe=>by
  rw[e,hM]at hg;cases hg
 erw[a,b1,d,tv,%[dg|s _ _ gM (bn hg hb (by intro z;cases z)) hg],kT _ _ h2,kT _ _ h3,h4.mono kT,s _ _ (bn h5 hM (by intro z;cases z)) (bn h5 hb (by intro z;cases z)) h5]
theorem TalkAt.doub(w:TalkAt C CM CG H D M g h b rows ns ts p t m)(s:SameBut D H H')(DA:DbAt C H' D g z'):TalkAt C CM CG H' D M g h b rows ns ts p %[z',t.bx|t.nr] m:=by
 erw[DA0,G,%[dm|hM],%[rv,hh|R],B,ne]at w;erw[dx,aA,aC,aH,aT,R0]at DA0;have kT:bJ H H':=λa xs e=>s _ _ (bn e R0.hD (by intro z;cases z)) e
 let%[kvs,hb|_]:=id B;erw[DA,G.but R0.hD (G.ne R0.hD iO) s,%[dm|s _ _ ne.symm hM],%[rv,kT _ _ hh|R.mono kT],B.keep λo e=>s _ _ (bn hb R0.hD (by intro z;cases z)) e,ne]
inductive spAsked(C CM CG:Addr)(vs:List V)(H:Hp)(Q:VK)(u_3:XK):Prop
 |mk:∀(D M g h b:Addr) (rows:List Hr) (ns:List Str) (ts:List Tr) (p:Int) (t:Tk) (m:Nat),vs=[.ref M,.ref D]->TalkAt C CM CG H D M g h b rows ns ts p t m->GmK ns ts p->(∀r∈rows,r.good)->AkOk (t.ak ns ts p)->ku p t.bx->t.z.aw=(("hear":Str),some (awN t.z))->0<=awN t.z->awN t.z<=500->HearOk ns p t.z (t.said ns ts p rows)->m<=5000->(∀(a:Addr) (H':Hp),H a=none->H' a=some (.tup ((t.said ns ts p rows).map V.int))->TalkAt C CM CG H' D M g h b rows ns ts p (t.ask ns ts p rows) (m+200)->But3 D M b H H'->Q (.ref a) H')->spAsked C CM CG vs H Q u_3
theorem pF:FnScope ["machine","doubter","values"] ["machine","doubter"] (ai jp):=%[1,1,1,4,1,4|4]
structure Ways(P:Program)(w:World)(K:W.Frag)(mg:Str->Option Value)(base:Heap)(C CM CG fW fU fH fT fS:Addr)(fdW fdU fdH fdT fdS:FuncData):Prop where
 mW:Meth K C "waits" fW
 GW:FnOk P w K mg base CX0 1 fW fdW ["self"] (spOf C λz v H=>∃a,v=.ref a/\H a=some (.tup (awV z.aw)))
 bW:Binds K fdW ["self"] []
 mU:Meth K C "due" fU
 GU:FnOk P w K mg base CX0 1 fU fdU ["self"] (spOf C λz v _=>v=.int z.ed)
 bU:Binds K fdU ["self"] []
 mH:Meth K C "hear" fH
 GH:FnOk P w K mg base CX0 18 fH fdH ["self","values"] (spHear C CG)
 bH:Binds K fdH ["self","values"] []
 mT:Meth K C "toss" fT
 GT:FnOk P w K mg base CX0 17 fT fdT ["self","r"] (spToss C CG)
 bT:Binds K fdT ["self","r"] []
 mS:Meth K CM "say" fS
 GS:FnOk P w K mg base CX0 25 fS fdS ["self","many","due","s","coins"] (spSay CM CG)
 bS:Binds K fdS ["self","many","due","s","coins"] []
theorem TalkAt.asked{dm:Addr}{n1:Int}(w:TalkAt C CM CG H D M g h b rows ns ts p t m)(hM:H M=some (.ins CM dm (ml g h t.nr b)))(B1:BxAt H1 b (t.run ns ts p rows).bx (m+200))(hM1:H1 M=some (.ins CM dm (ml g h (t.nr+1) b)))(s1:FA M b H H1)(e1:n1=t.nr+1):TalkAt C CM CG H1 D M g h b rows ns ts p %[t.z,(t.run ns ts p rows).bx|n1] (m+200):=by
 erw[DA0,G,_,%[rv,hh|R],B,ne]at w;let%[kvs,hb|_]:=id B;have kT:bJ H H1:=λa xs e=>s1 _ _ (bn e hM (by intro z;cases z)) (bn e hb (by intro z;cases z)) e
 subst e1;erw[DA0.but2 s1 hM hb ne,G.but2 s1 hM hb,%[dm|hM1],%[rv,kT _ _ hh|R.mono kT],B1,ne]
theorem si   (F:Fun K "asked_once" "asked_once" jp f fd) (B:Bl mg) (T:DTxt K mg C) (TM:MTxt K mg CM) (Y:Ways P w K mg base C CM CG fW fU fH fT fS fdW fdU fdH fdT fdS):FnOk P w K mg base CX0 26 f fd ["machine","doubter"] (spAsked C CM CG):=by
 exists pF
 erw[D,M,g,h,b,rows,ns,ts,p,t,m,1,W,k,rg,ok,bo,aw,a0,a5,ho,mm,q]at h;have hr1:Room 1 _:=hr.mono ⋯;have hr18:Room 18 _:=hr.mono ⋯;have hr25:Room 25 _:=hr.mono ⋯;refine⟨_,(aa #[aj,2,pF,bQ (pv 0) TM.cl Y.mS Y.GS hr25 Y.bS .nil aY %[aJ ix_tup (bq (pv 1) T.cl Y.mW Y.GW hr1 Y.bW .nil aY) ae (λ_ _=>rfl),bq (pv 1) T.cl Y.mU Y.GU hr1 Y.bU .nil aY,ay (pv 1) rfl,bi mZ rfl B.list lI %[ay (pv 1) rfl|aO]|aO]]
  (aa (aR (bQ (pv 1) T.cl Y.mH Y.GH hr18 Y.bH .nil aY %[2|aO]))
  (ad (aq (bi ba rfl B.tuple bd %[2|aO]))))),?_⟩
 erw[dm,hM]at W.hM;have DA:=W.DA;let%[dx,aA,aC,aH,aT|R]:=id DA;erw[0,M,dm,0,hM,ml_n2,0,D,dx,0,R.hD,oY,D,g,t.z,1,DA,λv hv=>?_];erw[av,1,hav]at hv;rw[aw]at hav;erw[av,_,(1),.int (awN t.z),1,1,zC0 hav,1,0,D,dx,0,R.hD,dl_n2,D,g,t.z,1,DA,λv hv=>?_];subst hv;erw[0,D,C,dx,_,0,R.hD,T.cl,T.nS,Hy,0,D,C,dx,_,0,R.hD,T.cl,T.nT,yg,aT,0,.inr (zC0 R.hT),λl hl=>?_];have I:=zB0 hl (.lst (t.z.to.map V.int));have g1:upd H l (.lst (t.z.to.map V.int)) l=some (.lst (t.z.to.map V.int)):=aI;generalize upd H l (.lst (t.z.to.map V.int))=H1 at I g1;have W1:=W.same I;erw[rv,hh,RW]at W1.hh;erw[M,g,h,b,dm,l,rv,t.ak ns ts p,rows,t.bx,m,1,I _ _ hM,hh,RW,rg,W1.BX,bo,mm,W1.G,ok,.inl g1,a0,a5,λl2 H2 l20 hl2 B2 hM2 S2=>?_];have hs:H2 l2=some (.lst ((t.said ns ts p rows).map V.int)):=hl2;have W2:=W1.asked (n1:=t.nr+1) (I _ _ hM) B2 hM2 S2 rfl;let%[dx2,_,_,_,_|R2]:=id W2.DA;erw[0,D,dx2,0,R2.hD,dl_n4,0,D,g,l2,t.z,t.said ns ts p rows,ns,ts,p,1,W2.DA,W2.G,k,hs,ho.aw,ho.xo,ho.x5,ho.ro,ho.tl,ho.po,λH3 S3 DA3=>?_];have W3:=W2.doub S3 DA3;have hs3:=S3 _ _ (bn hs R2.hD (by intro z;cases z)) hs;erw[0,l2,0,.inl %[zG0 hs3|λa ha=>?_]];have J:=zB0 ha (.tup ((t.said ns ts p rows).map V.int));have fr:But3 D M b H H3:=λc o h1 h2 h3 e=>S3 _ _ h1 (S2 _ _ h2 h3 (I _ _ e))
 refine q a _ ?_ aI (W3.same J) (λc o h1 h2 h3 e=>J _ _ (fr c o h1 h2 h3 e));cases e:H a with
 | none=>rfl
 | some o=>
   erw[dx3,_,_,_,_,R3]at W3.DA;erw[dm3,hM3]at W3.hM;erw[kvs,hb3,_]at W3.BX;have n1:a≠D:=λz=>by rw[z,R3.hD]at ha;cases ha
   have n2:a≠M:=λz=>by rw[z,hM3]at ha;cases ha
   have n3:a≠b:=λz=>by rw[z,hb3]at ha;cases ha
   rw[fr a o n1 n2 n3 e]at ha;cases ha
end
section
variable {C CM CA CG:Addr}
inductive TRAt(H:Hp):V->TR->Prop
 | claims {a b:Addr} {xs:List Int}:H a=some (.tup [.str "claims",.ref b])->H b=some (.tup (xs.map V.int))->TRAt H (.ref a) (.claims xs)
 | say {a b:Addr} {xs:List Int}:H a=some (.tup [.str "say",.ref b])->H b=some (.tup (xs.map V.int))->TRAt H (.ref a) (.say xs)
 | coin {a:Addr} {r:Int}:H a=some (.tup [.str "coin",.int r])->TRAt H (.ref a) (.coin r)
theorem TRAt.mono(k:bJ H H')(h:TRAt H v r):TRAt H' v r:=by
 cases h with
 | claims e f=>exact .claims (k _ _ e) (k _ _ f)
 | say e f=>exact .say (k _ _ e) (k _ _ f)
 | coin e=>exact .coin (k _ _ e)
def TRsAt(H:Hp):List V->List TR->Prop
 | [],[]=>True
 | v::vs,r::rs=>TRAt H v r/\TRsAt H vs rs
 | _,_=>False
theorem TRsAt.mono(k:bJ H H'):∀{vs:List V}{rs:List TR},TRsAt H vs rs->TRsAt H' vs rs
 | [],[],_=>trivial
 | _::_,_::_,h=>%[h.1.mono k|TRsAt.mono k h.2]
 | [],_::_,h=>h.elim
 | _::_,[],h=>h.elim
theorem TRsAt.snoc(hr:TRAt H v r):∀{vs:List V}{rs:List TR},TRsAt H vs rs->TRsAt H (vs++[v]) (rs++[r])
 | [],[],_=>%[hr|trivial]
 | _::_,_::_,h=>%[h.1|TRsAt.snoc hr h.2]
 | [],_::_,h=>h.elim
 | _::_,[],h=>h.elim
structure Told(H:Hp)(a:Addr)(x:List TR×Tk):Prop where
 ex:∃(b c:Addr)(vs:List V),H a=some (.tup [.ref b,.ref c])/\H b=some (.tup vs)/\TRsAt H vs x.1/\H c=some (.tup (awV x.2.z.aw))
theorem hc_in (o:Str):inV (.str o) [.str "hear",.str "coin"]=(decide (o="hear")||decide (o="coin")):=by
 show (("hear"==o)||(("coin"==o)||false))=_;rw[Bool.or_false];have e:∀z:Str,(z==o)=decide (o=z):=λz=>by
  by_cases c:o=z
  . subst c;simp
  . rw[decide_eq_false c];simpa using λh=>c h.symm
 rw[e,e]
inductive spTalked(C CM CG:Addr)(vs:List V)(H:Hp)(Q:VK)(u_3:XK):Prop
 |mk:∀(g h c:Addr)(rv:List V)(rows:List Hr)(ns:List Str)(ts:List Tr)(p:Int)(cs:List Int),vs=[.ref g,.ref h,.ref c]->Gm CG H g ns ts p->GmK ns ts p->ns.length<=6->H h=some (.tup rv)->RowsAt H rv rows->(∀r∈rows,r.good)->IntsAt H c cs->ci cs p->ns.length+(if 1<ts.length then 1 else 0)<=cs.length->cs.length<=100->(∀(a:Addr)(H':Hp),Same H H'->Told H' a (gl ns ts p rows cs)->Q (.ref a) H')->spTalked C CM CG vs H Q u_3
theorem gJ:FnScope ["game","helper","coins","machine","doubter","talk","tossed"] ["game","helper","coins"] (ai qp):=%[1,1,1,4,1,4|4]
theorem AS(a:Str×Option Int):atI (awV a) 0=some (.str a.1):=cD (j:=0) (FX a)
theorem fL      {n:Nat} {t:Tk} (h:t.z.aw.1="hear"):db ns ts p rows cs (n+1) t=(.say (t.said ns ts p rows)::(db ns ts p rows cs n (t.ask ns ts p rows)).1,(db ns ts p rows cs n (t.ask ns ts p rows)).2):=zD0 h
theorem fN      {n:Nat} {t:Tk} (h:t.z.aw.1="coin"):db ns ts p rows cs (n+1) t=(.coin (cs.headD 0)::(db ns ts p rows cs.tail n (t.toss ns ts p (cs.headD 0))).1,(db ns ts p rows cs.tail n (t.toss ns ts p (cs.headD 0))).2):=by
 show(if _ then _ else if _ then _ else _)=_;rw[zA0 (by rw[h];exact iC),zD0 h]
theorem eE     (h:TkOk ns ts p t) (hw:t.z.aw.1="hear"∨t.z.aw.1="coin"):1<=bV ns t.z/\(t.z.aw.1="coin" -> 1<=bL ns t.z):=by
 rcases hw with hw | hw
 . have tl:t.z.to.length<ns.length:=by
    rcases h.gd.he hw with⟨e,_⟩ | ⟨_,tl,_⟩
    . exact absurd e h.cl
    . exact tl
   erw[6,λz=>absurd (z.symm.trans hw) iC]
   have:bV ns t.z=2*(ns.length-t.z.to.length):=zD0 hw
   omega
 . have nh:¬ t.z.aw.1="hear":=by rw[hw];exact iC
   have s1:bV ns t.z=if t.z.he=[]then 2*ns.length+1 else 2*(ns.length-t.z.to.length)-1:=by unfold bV;rw[zA0 nh,zD0 hw]
   have s2:bL ns t.z=if t.z.he=[]then ns.length+1 else ns.length-t.z.to.length:=by unfold bL;rw[zA0 nh,zD0 hw]
   by_cases c:t.z.he=[]
   . rw[zD0 c]at s1 s2;erw[3,λ_=>by omega]
   . have tl:=((h.gd.co hw).2 c).2;rw[zA0 c]at s1 s2;erw[3,λ_=>by omega]
theorem AJ{cs:List Int}{u:Nat}(h:u<cs.length):(cs.drop u).headD 0=cs.getD u 0/\(cs.drop u).tail=cs.drop (u+1):=by
 rw[List.drop_eq_getElem_cons h,qP0,zQ0 h];erw[1,1]
theorem yT{K:W.Frag}{u:Nat}{Q:VK}(h:IntsAt H c cs)(hu:u<cs.length)(q:Q (.int (cs.getD u 0)) H):rIx K (.ref c) (.int (u:Int)) H Q:=
 h.elim (λe=>.inl %[c,_,2,zG0 e,mK hu|q]) (λe=>.inr (.inl %[c,_,2,zC0 e,mK hu|q]))
theorem TalkAt.put{L:Addr}{ys zs:List V}(w:TalkAt C CM CG H D M g h b rows ns ts p t m)(hL:H L=some (.lst ys))(G:Gm CG (upd H L (.lst zs)) g ns ts p):TalkAt C CM CG (upd H L (.lst zs)) D M g h b rows ns ts p t m:=by
 erw[%[dx,aA,aC,aH,aT|R],_,%[dm|hM],%[rv,hh|RR],B,ne]at w;have kT:bJ H (upd H L (.lst zs)):=di hL;have U:∀{c:Addr}{o:HO},c≠L->H c=some o->upd H L (.lst zs) c=some o:=λn e=>by rw[bh n];exact e
 let%[kvs,hb|_]:=id B;erw[%[dx,aA,aC,aH,aT,U (bn R.hD hL (by intro z;cases z)) R.hD,kT _ _ R.hA,kT _ _ R.hC,kT _ _ R.hH|kT _ _ R.hT],G,%[dm|U (bn hM hL (by intro z;cases z)) hM],%[rv,kT _ _ hh|RR.mono kT],B.keep λo e=>U (bn hb hL (by intro z;cases z)) e,ne]
theorem TRsAt.len:∀{vs:List V}{rs:List TR},TRsAt H vs rs->vs.length=rs.length
 | [],[],_=>rfl
 | _::_,_::_,h=>congrArg (·+1) (TRsAt.len h.2)
 | [],_::_,h=>h.elim
 | _::_,[],h=>h.elim
theorem zT   (F:Fun K "talked" "talked" qp f fd) (B:Bl mg) (T:DTxt K mg C) (TM:MTxt K mg CM) (Y:Ways P w K mg base C CM CG fW fU fH fT fS fdW fdU fdH fdT fdS)
 (MD:Mk K C fI) (GD:FnOk P w K mg base CX0 1 fI fdI ["self","game"] (spDInit C CG)) (bD:Binds K fdI ["self","game"] []) (MM:Mk K CM fM) (GM:FnOk P w K mg base CX0 1 fM fdM ["self","game","helper"] (spMInit CM)) (bM:Binds K fdM ["self","game","helper"] [])
 (b7:Cal P w K mg base 26 "asked_once" ["machine","doubter"] (spAsked C CM CG)):FnOk P w K mg base CX0 27 f fd ["game","helper","coins"] (spTalked C CM CG):=by
 exists gJ
 erw[g,h,c,rv,rows,ns,ts,p,cs,1,G,k,n6,hh,RW,rg,hc,co,cl,c100,q]at h;have hr1:Room 1 _:=hr.mono ⋯;have hr2:Room (1+1) _:=hr.mono ⋯;have hr17:Room 17 _:=hr.mono ⋯;refine⟨_,(aa #[aj,3,gJ,eT MM GM hr2 rfl TM.mgC bM .nil aY %[0,1|aO]]
  (aa #[aj,4,gJ,eT MD GD hr2 rfl T.mgC bD .nil aY %[0|aO]]
  (aa #[aj,5,gJ,dy %[aF %[au,ag b7 hr ⋯ rfl %[3,4|aO]|aO]|aO]]
  (aa #[aj,6,gJ,ae]
  (aa (gt PassesOwn.never (ah fQ (aJ ix_tup (bq (pv 4) T.cl Y.mW Y.GW hr1 Y.bW .nil aY) ae (λ_ _=>rfl)) (aF %[au,au|aO]) (by rfl')) (ad (aG (ah aP (aJ ix_tup (bq (pv 4) T.cl Y.mW Y.GW hr1 Y.bW .nil aY) ae (λ_ _=>rfl)) au (ax _)) (ad (aR (eA PySem.F.plainAttrs_list PySem.F.slot_list_append PySem.F.type_list_append bZ (pv 5) %[aF %[au,ag b7 hr ⋯ rfl %[3,4|aO]|aO]|aO]))) (aa (aR (bQ (pv 4) T.cl Y.mT Y.GT hr17 Y.bT .nil aY %[aJ Dm (pv 2) (pv 6) (λ_ _=>rfl)|aO]))
   (aa (aR (eA PySem.F.plainAttrs_list PySem.F.slot_list_append PySem.F.type_list_append bZ (pv 5) %[aF %[au,aJ Dm (pv 2) (pv 6) (λ_ _=>rfl)|aO]|aO]))
   (ad #[aj,6,gJ,ao aQ (pv 6) ae]))))))
  (ad (aq (aF %[bi ba rfl B.tuple bd %[5|aO],bq (pv 4) T.cl Y.mW Y.GW hr1 Y.bW .nil aY|aO])))))))),?_⟩
 erw[0,0,λM dm hM0 hdm0 nM=>?_];have K1:Same H (upd (upd H dm (.own M)) M (.ins CM dm [])):=λa o e=>by
  rw[bh (aV e hM0),bh (aV e hdm0)];exact e
 erw[M,g,h,dm,1,aI,λb H2 b0 hM2 hb2 S2=>%[1|6]];have T2:Same H H2:=Same.but K1 hM0 S2;have b00:H b=none:=K1.free b0;clear K1 S2 b0;erw[0,λD dd hD0 hdd0 nD=>?_];have K3:Same H2 (upd (upd H2 dd (.own D)) D (.ins C dd [])):=λa o e=>by
  rw[bh (aV e hD0),bh (aV e hdd0)];exact e
 have G2:=G.same T2;have gD:g≠D:=by
  erw[_,_,_,_,%[dg|hg],_]at G2;exact aV hg hD0
 erw[D,g,dd,ns,ts,p,1,aI,G2.same K3,gD,λH4 S4 DA4=>%[1|6]];have T24:Same H2 H4:=Same.but K3 hD0 S4;have T4:Same H H4:=T2.trans T24;have D00:H D=none:=T2.free hD0;have nDM:D≠M:=(aV hM2 hD0).symm;have W4:TalkAt C CM CG H4 D M g h b rows ns ts p (Tk.new ts) 0:=⟨DA4,G.same T4,⟨dm,T24 _ _ hM2⟩,⟨rv,T4 _ _ hh,RW.mono (aX T4)⟩,⟨[],T24 _ _ hb2,zH0 _,λ_=>rfl⟩,nDM⟩
 clear K3 S4 DA4 T24 hM2 hb2 G2 T2;let%[ak0,an0,ho0|bo0]:=xG (rows:=rows) k n6;have t1:=k.t1;have t10:=k.t10;erw[0,0,D,M,g,h,b,rows,ns,ts,p,Tk.new ts,(0),1,W4,k,rg,ak0,bo0,1,by rw[an0];omega,by rw[an0];omega,ho0,4,λa5 H5 a50 ha5 W5 S5=>?_];have T5:Same H H5:=λa o e=>S5 _ _ (aV e D00) (aV e hM0) (aV e b00) (T4 _ _ e)
 erw[(by show 2<=sizeLine;decide),λt6 h6=>%[(by show 1<=sizeLine;decide)|λL hL=>?_]];have I6:=zB0 h6 (.tup [.str "claims",.ref a5]);have I7:=zB0 hL (.lst [.ref t6]);have R7:TRsAt (upd (upd H5 t6 (.tup [.str "claims",.ref a5])) L (.lst [.ref t6])) [.ref t6] [.claims ((Tk.new ts).said ns ts p rows)]:=%[.claims (I7 _ _ aI) (I7 _ _ (I6 _ _ ha5))|trivial]
 have g7:upd (upd H5 t6 (.tup [.str "claims",.ref a5])) L (.lst [.ref t6]) L=some (.lst [.ref t6]):=aI;have J7:=I6.trans I7;have L00:H L=none:=(T5.trans I6).free hL;generalize upd (upd H5 t6 (.tup [.str "claims",.ref a5])) L (.lst [.ref t6])=H7 at R7 g7 J7;let%[ok7,st7,co7|_]:=kJ (rows:=rows) k n6;have W7:=W5.same J7;have T7:=T5.trans J7;clear I6 I7 J7 S5 T5 W5 W4 T4 ha5 h6 hL;erw[λmm σ H'=>∃(t:Tk) (n u m:Nat) (rs:List TR) (vs:List V),σ=[some (.ref g),some (.ref h),some (.ref c),some (.ref M),some (.ref D),some (.ref L),some (.int (u:Int))]/\mm=n/\bV ns t.z<=n/\n<=20/\TalkAt C CM CG H' D M g h b rows ns ts p t m/\TkOk ns ts p t/\H' L=some (.lst vs)/\TRsAt H' vs rs/\(rs++(db ns ts p rows (cs.drop u) n t).1,(db ns ts p rows (cs.drop u) n t).2)=gl ns ts p rows cs/\bL ns t.z+u<=cs.length/\m+200*n<=4200/\rs.length+n<=21/\Same H H',%[(20),(Tk.new ts).ask ns ts p rows,(20),(0),(200),2,3,zH0 _,W7,ok7,g7,R7,1,3,4,(by show 1+20<=21;decide)|T7],6]
 clear st7 co7 ok7 W7 T7 R7 g7 ak0 an0 ho0 bo0;rintro mm σ H' ⟨t,n,u,m,rs,vs,rfl,rfl,sn,n20,W,ok,hL,TR,eq,cn,mn,rn,S⟩;have DA:=W.DA;let%[dx,aA,aC,aH,aT|R]:=id DA;have p2:=k.p2;have vl:=TR.len;erw[0,D,dx,0,R.hD,oY,D,g,t.z,1,DA,λv hv=>?_];erw[av,1,hav]at hv;erw[av,_,(0),0,1,zC0 hav,AS _,(by show 2<=sizeLine;decide),λc1 hc1=>?_];have I1:=zB0 hc1 (.tup [.str "hear",.str "coin"]);erw[c1,0,.inr (zC0 aI),1,1,0,6];generalize upd H' c1 (.tup [.str "hear",.str "coin"])=H1 at I1;have W1:=W.same I1;have DA1:=W1.DA;have hL1:=I1 _ _ hL;have TR1:=TR.mono (aX I1);have S1:=S.trans I1;let%[dx1,aA1,aC1,aH1,aT1|R1]:=id DA1;show if inV (.str t.z.aw.1) [.str "hear",.str "coin"]=true then _ else _
 rw[hc_in];clear W DA R hL TR S hav I1
 by_cases ch:t.z.aw.1="hear"
 . rw [decide_eq_true ch,Bool.true_or];refine ei ?_;erw[_,λ_ _ h=>h,6];erw[0,D,dx1,0,R1.hD,oY,D,g,t.z,1,DA1,λv hv=>?_];erw[av2,1,hav2]at hv;erw[av2,_,(0),0,1,zC0 hav2,AS _,1,0,aS (congrArg V.str ch) ?_];have sp:=(eE ok (.inl ch)).1;obtain⟨n',rfl⟩:∃n',mm=n'+1:=⟨mm-1,by omega⟩
   let%[ak,a0,a5,tl,aw|ea]:=ok.ak k n6 ch;have ho:=ok.hear (rows:=rows) k n6 ch;let%[ok',st',co'|_]:=ok.ask (rows:=rows) k n6 ch;erw[0,.inl %[1,_|zG0 hL1],0,0,D,M,g,h,b,rows,ns,ts,p,t,m,1,W1,k,rg,ak,ok.bo,aw,a0,a5,ho,3,λa6 H6 a60 ha6 W6 S6=>?_];erw[dmw,hMw]at W1.hM;erw[kvw,hbw,_]at W1.BX;have kT6:bJ H1 H6:=λa xs e=>S6 _ _ (bn e R1.hD (by intro z;cases z)) (bn e hMw (by intro z;cases z)) (bn e hbw (by intro z;cases z)) e
   have hL6:=S6 _ _ (bn hL1 R1.hD (by intro z;cases z)) (bn hL1 hMw (by intro z;cases z)) (bn hL1 hbw (by intro z;cases z)) hL1;have S06:Same H H6:=λa o e=>S6 _ _ (aV e D00) (aV e hM0) (aV e b00) (S1 _ _ e)
   erw[(by show 2<=sizeLine;decide),λt7 h7=>?_];have I7:=zB0 h7 (.tup [.str "say",.ref a6]);have R7:TRAt (upd H6 t7 (.tup [.str "say",.ref a6])) (.ref t7) (.say (t.said ns ts p rows)):=.say aI (I7 _ _ ha6);generalize upd H6 t7 (.tup [.str "say",.ref a6])=H7 at I7 R7;have hL7:=I7 _ _ hL6;erw[L,2,hL7,aM #[0],6];have k8:bJ H7 (upd H7 L (.lst (vs++[.ref t7]))):=di hL7;have S8:Same H (upd H7 L (.lst (vs++[.ref t7]))):=λa o e=>by
    rw[bh (aV e L00)];exact I7 _ _ (S06 _ _ e)
   erw[n',Nat.lt_succ_self _,t.ask ns ts p rows,n',u,m+200,rs++[.say (t.said ns ts p rows)],0,1,3,3,(W6.same I7).put hL7 (G.same S8),ok',aI,((TR1.mono (λa xs e=>k8 _ _ (I7 _ _ (kT6 _ _ e)))).snoc (R7.mono k8)),6,3,3,by rw[zJ0];show rs.length+1+n'<=21;omega,S8];rw[←eq,fL ch,List.append_assoc];rfl
 . rw [decide_eq_false ch,Bool.false_or]
   by_cases cc:t.z.aw.1="coin"
   . rw [decide_eq_true cc];refine ei ?_;erw[_,λ_ _ h=>h,6];erw[0,D,dx1,0,R1.hD,oY,D,g,t.z,1,DA1,λv hv=>?_];erw[av2,1,hav2]at hv;erw[av2,_,(0),0,1,zC0 hav2,AS _,1,0,aB (neS ch) ?_];let%[sp|cp]:=eE ok (.inr cc);have cp:=cp cc;obtain⟨n',rfl⟩:∃n',mm=n'+1:=⟨mm-1,by omega⟩
     have hu:u<cs.length:=by omega
     let%[dh|dt]:=AJ hu;have rr:=mO co #[0] u;let%[ok',st',co'|_]:=ok.toss k cc rr.1 rr.2;have to:=ok.tossOk cc rr.1 rr.2;erw[0,D,dx1,0,R1.hD,FV,0,0,yT (hc.same S1) hu ?_];erw[D,g,t.z,cs.getD u 0,ns,ts,p,1,DA1,W1.G,k,to.aw,to.r0,to.r1,to.tl,to.ro,to.po,λH6 S6 DA6=>?_];have W6:=W1.doub S6 DA6;have kT6:bJ H1 H6:=λa xs e=>S6 _ _ (bn e R1.hD (by intro z;cases z)) e
     have hL6:=S6 _ _ (bn hL1 R1.hD (by intro z;cases z)) hL1;have S06:Same H H6:=λa o e=>S6 _ _ (aV e D00) (S1 _ _ e)
     erw[0,.inl %[1,_|zG0 hL6],0,0,yT (hc.same S06) hu ?_];erw[(by show 2<=sizeLine;decide),λt7 h7=>?_];have I7:=zB0 h7 (.tup [.str "coin",.int (cs.getD u 0)]);have R7:TRAt (upd H6 t7 (.tup [.str "coin",.int (cs.getD u 0)])) (.ref t7) (.coin (cs.getD u 0)):=.coin aI;generalize upd H6 t7 (.tup [.str "coin",.int (cs.getD u 0)])=H7 at I7 R7;have hL7:=I7 _ _ hL6;erw[L,2,hL7,aM #[0],6];have k8:bJ H7 (upd H7 L (.lst (vs++[.ref t7]))):=di hL7;have S8:Same H (upd H7 L (.lst (vs++[.ref t7]))):=λa o e=>by
      rw[bh (aV e L00)];exact I7 _ _ (S06 _ _ e)
     erw[0,2,6];erw[n',Nat.lt_succ_self _,t.toss ns ts p (cs.getD u 0),n',u+1,m,rs++[.coin (cs.getD u 0)],0,1,3,3,(W6.same I7).put hL7 (G.same S8),ok',aI,((TR1.mono (λa xs e=>k8 _ _ (I7 _ _ (kT6 _ _ e)))).snoc (R7.mono k8)),6,3,3,by rw[zJ0];show rs.length+1+n'<=21;omega,S8];rw[←eq,fN cc,dh,dt,List.append_assoc];rfl
   . rw [decide_eq_false cc];refine cW ?_;rw[dR ch cc,List.append_nil]at eq;erw[0,L,0,.inl %[zG0 hL1|λb8 hb8=>?_]];have I8:=zB0 hb8 (.tup vs);have g8:upd H1 b8 (.tup vs) b8=some (.tup vs):=aI;generalize upd H1 b8 (.tup vs)=H8 at I8 g8;have DA8:=DA1.same I8;let%[dx8,_,_,_,_|R8]:=id DA8;erw[0,D,dx8,0,R8.hD,oY,D,g,t.z,1,DA8,λv hv=>?_];erw[av2,1,hav2]at hv;erw[(by show 2<=sizeLine;decide),λa9 ha9=>?_];have I9:=zB0 ha9 (.tup [.ref b8,.ref av2]);refine q a9 _ (S1.trans (I8.trans I9)) %[b8,av2,vs,aI,I9 _ _ g8,6|6]
     . rw[←eq];exact TR1.mono (aX (I8.trans I9))
     . rw[←eq];exact I9 _ _ hav2
end
section
variable {C CG:Addr}
abbrev tR:Stmt:=bp df 11
inductive spTwin(C CG:Addr)(vs:List V)(H:Hp)(Q:VK)(u_3:XK):Prop
 |mk:∀(D g:Addr)(z:Db)(ns:List Str)(ts:List Tr)(p:Int),vs=[.ref D]->DbAt C H D g z->Gm CG H g ns ts p->(∀(D2:Addr)(H':Hp),H D2=none->Same H H'->DbAt C H' D2 g z->Q (.ref D2) H')->spTwin C CG vs H Q u_3
theorem Ig:FnScope ["self","other"] ["self"] (ai tR):=%[1,1,1,4,1,4|4]
theorem Cw   (F:Fun K "twin" "Doubter.twin" tR f fd) (T:DTxt K mg C) (MD:Mk K C fD) (GD:FnOk P w K mg base CX0 1 fD fdD ["self","game"] (spDInit C CG)) (bD:Binds K fdD ["self","game"] []):FnOk P w K mg base CX0 3 f fd ["self"] (spTwin C CG):=by
 exists Ig
 erw[D,g,z,ns,ts,p,1,%[dx,aA,aC,aH,aT|R],G,q]at h;have hr2:Room (1+1) _:=hr.mono ⋯;refine⟨_,(aa #[aj,1,Ig,eT MD GD hr2 rfl T.mgC bD .nil aY %[ay (pv 0) rfl|aO]]
  (aa (aN (pv 1) (ay (pv 0) rfl) rfl)
  (aa (aN (pv 1) (ay (pv 0) rfl) rfl)
  (aa (aN (pv 1) (ay (pv 0) rfl) rfl)
  (aa (aN (pv 1) (ay (pv 0) rfl) rfl)
  (aa (aN (pv 1) (ay (pv 0) rfl) rfl)
  (aa (aN (pv 1) (ay (pv 0) rfl) rfl)
  (aa (aN (pv 1) (ay (pv 0) rfl) rfl)
  (ad (aq (pv 1))))))))))),?_⟩
 erw[0,D,C,dx,_,0,R.hD,T.cl,T.nG,iO,λD2 dD nD ndD neD=>?_];have s10:Same H (upd (upd H dD (.own D2)) D2 (.ins C dD [])):=λb o e=>by
  rw[bh (aV e nD),bh (aV e ndD)];exact e
 have gD:g≠D2:=by
  let%[a,b,d,tv,%[dg|hg]|_]:=id G;exact aV hg nD
 erw[D2,g,dD,ns,ts,p,1,aI,G.same s10,gD,λH0 S0 D0=>%[1|6]];have S00:Same H H0:=λb o e=>S0 b o (aV e nD) (s10 b o e)
 have nDD:D≠D2:=aV R.hD nD;erw[dx2,aA2,aC2,aH2,aT2,R2]at D0;have h0:=R2.hD;generalize (Db.new ts).s=s2,(Db.new ts).ed=ed2,(Db.new ts).pl=pl2 at h0;have hD0:=S00 _ _ R.hD;erw[0,D,C,dx,_,0,hD0,T.cl,T.nA,DH,0,D2,C,dx2,0,h0,T.cl,T.nA,cw,6];rw[qH];have U0:SameBut D2 H0 (upd H0 D2 (.ins C dx2 (dl g aA aC2 s2 aH2 aT2 ed2 pl2))):=SameBut.upd _;have h1:upd H0 D2 (.ins C dx2 (dl g aA aC2 s2 aH2 aT2 ed2 pl2)) D2=some (.ins C dx2 (dl g aA aC2 s2 aH2 aT2 ed2 pl2)):=aI;have hD1:=U0 _ _ nDD hD0;generalize upd H0 D2 (.ins C dx2 (dl g aA aC2 s2 aH2 aT2 ed2 pl2))=H1 at U0 h1 hD1;erw[0,D,C,dx,_,0,hD1,T.cl,T.nC,HC,0,D2,C,dx2,0,h1,T.cl,T.nC,cw,6];rw[FL];have U1:SameBut D2 H1 (upd H1 D2 (.ins C dx2 (dl g aA aC s2 aH2 aT2 ed2 pl2))):=SameBut.upd _;have h2:upd H1 D2 (.ins C dx2 (dl g aA aC s2 aH2 aT2 ed2 pl2)) D2=some (.ins C dx2 (dl g aA aC s2 aH2 aT2 ed2 pl2)):=aI;have hD2:=U1 _ _ nDD hD1;generalize upd H1 D2 (.ins C dx2 (dl g aA aC s2 aH2 aT2 ed2 pl2))=H2 at U1 h2 hD2;erw[0,D,C,dx,_,0,hD2,T.cl,T.nS,Hy,0,D2,C,dx2,0,h2,T.cl,T.nS,cw,6];rw[FJ];have U2:SameBut D2 H2 (upd H2 D2 (.ins C dx2 (dl g aA aC z.s aH2 aT2 ed2 pl2))):=SameBut.upd _;have h3:upd H2 D2 (.ins C dx2 (dl g aA aC z.s aH2 aT2 ed2 pl2)) D2=some (.ins C dx2 (dl g aA aC z.s aH2 aT2 ed2 pl2)):=aI;have hD3:=U2 _ _ nDD hD2;generalize upd H2 D2 (.ins C dx2 (dl g aA aC z.s aH2 aT2 ed2 pl2))=H3 at U2 h3 hD3;erw[0,D,C,dx,_,0,hD3,T.cl,T.nH,HB,0,D2,C,dx2,0,h3,T.cl,T.nH,cw,6];rw[FK];have U3:SameBut D2 H3 (upd H3 D2 (.ins C dx2 (dl g aA aC z.s aH aT2 ed2 pl2))):=SameBut.upd _;have h4:upd H3 D2 (.ins C dx2 (dl g aA aC z.s aH aT2 ed2 pl2)) D2=some (.ins C dx2 (dl g aA aC z.s aH aT2 ed2 pl2)):=aI;have hD4:=U3 _ _ nDD hD3;generalize upd H3 D2 (.ins C dx2 (dl g aA aC z.s aH aT2 ed2 pl2))=H4 at U3 h4 hD4;erw[0,D,C,dx,_,0,hD4,T.cl,T.nT,yg,0,D2,C,dx2,0,h4,T.cl,T.nT,cw,6];rw[BU];have U4:SameBut D2 H4 (upd H4 D2 (.ins C dx2 (dl g aA aC z.s aH aT ed2 pl2))):=SameBut.upd _;have h5:upd H4 D2 (.ins C dx2 (dl g aA aC z.s aH aT ed2 pl2)) D2=some (.ins C dx2 (dl g aA aC z.s aH aT ed2 pl2)):=aI;have hD5:=U4 _ _ nDD hD4;generalize upd H4 D2 (.ins C dx2 (dl g aA aC z.s aH aT ed2 pl2))=H5 at U4 h5 hD5;erw[0,D,C,dx,_,0,hD5,T.cl,T.nE,zc,0,D2,C,dx2,0,h5,T.cl,T.nE,cw,6];rw[xg];have U5:SameBut D2 H5 (upd H5 D2 (.ins C dx2 (dl g aA aC z.s aH aT z.ed pl2))):=SameBut.upd _;have h6:upd H5 D2 (.ins C dx2 (dl g aA aC z.s aH aT z.ed pl2)) D2=some (.ins C dx2 (dl g aA aC z.s aH aT z.ed pl2)):=aI;have hD6:=U5 _ _ nDD hD5;generalize upd H5 D2 (.ins C dx2 (dl g aA aC z.s aH aT z.ed pl2))=H6 at U5 h6 hD6;erw[0,D,C,dx,_,0,hD6,T.cl,T.nP,zb,0,D2,C,dx2,0,h6,T.cl,T.nP,cw,6];rw[ue];have U6:SameBut D2 H6 (upd H6 D2 (.ins C dx2 (dl g aA aC z.s aH aT z.ed z.pl))):=SameBut.upd _;have h7:upd H6 D2 (.ins C dx2 (dl g aA aC z.s aH aT z.ed z.pl)) D2=some (.ins C dx2 (dl g aA aC z.s aH aT z.ed z.pl)):=aI;have hD7:=U6 _ _ nDD hD6;generalize upd H6 D2 (.ins C dx2 (dl g aA aC z.s aH aT z.ed z.pl))=H7 at U6 h7 hD7;have U:SameBut D2 H0 H7:=U0.trans (U1.trans (U2.trans (U3.trans (U4.trans (U5.trans U6)))));have S07:Same H H7:=λb o e=>U b o (aV e nD) (S00 b o e)
 erw[0,q D2 H7 nD S07 %[dx2,aA,aC,aH,aT,h7,S07 _ _ R.hA,S07 _ _ R.hC,S07 _ _ R.hH|S07 _ _ R.hT]]
end
section
variable {CM CA CG:Addr}
abbrev tM:Stmt:=bp kC 4
theorem ml_n4  :(ml g h r b).lookup ("twin":Str)=none:=by rfl'
theorem Fc {b':Addr} :cu "boxes" (.ref b') (ml g h r b)=ml g h r b':=by rfl'
inductive spMTwin(CM:Addr)(vs:List V)(H:Hp)(Q:VK)(u_3:XK):Prop
 |mk:∀(M g h b dm:Addr)(r:Int)(bx:Str->Int)(m:Nat),vs=[.ref M]->H M=some (.ins CM dm (ml g h r b))->BxAt H b bx m->(∀(M' dm' b':Addr)(H':Hp),H M'=none->H b'=none->H' M'=some (.ins CM dm' (ml g h r b'))->BxAt H' b' bx m->Same H H'->Q (.ref M') H')->spMTwin CM vs H Q u_3
theorem Ii:FnScope ["self","other"] ["self"] (ai tM):=%[1,1,1,4,1,4|4]
theorem Cs   (F:Fun K "twin" "Machine.twin" tM f fd) (B:Bl mg) (T:MTxt K mg CM) (MM:Mk K CM fI) (GI:FnOk P w K mg base CX0 1 fI fdI ["self","game","helper"] (spMInit CM)) (bI:Binds K fdI ["self","game","helper"] []):FnOk P w K mg base CX0 3 f fd ["self"] (spMTwin CM):=by
 exists Ii
 erw[M,g,h,b,dm,r,bx,m,1,hM,BX,q]at h;have hr2:Room (1+1) _:=hr.mono ⋯;refine⟨_,(aa #[aj,1,Ii,eT MM GI hr2 rfl T.mgC bI .nil aY %[ay (pv 0) rfl,ay (pv 0) rfl|aO]]
  (aa (aN (pv 1) (ay (pv 0) rfl) rfl)
  (aa (aN (pv 1) (bi yo rfl B.dict yp %[ay (pv 0) rfl|aO]) rfl)
  (ad (aq (pv 1)))))),?_⟩
 erw[0,M,CM,dm,_,0,hM,T.cl,T.nG,ml_g,0,M,CM,dm,_,0,hM,T.cl,T.nH,Fd,λN dn hN hdn nN=>?_];have S1:Same H (upd (upd H dn (.own N)) N (.ins CM dn [])):=λa o e=>by
  rw[bh (aV e hN),bh (aV e hdn)];exact e
 have g1:upd (upd H dn (.own N)) N (.ins CM dn []) N=some (.ins CM dn []):=aI;generalize upd (upd H dn (.own N)) N (.ins CM dn [])=H1 at S1 g1;erw[N,g,h,dn,1,g1,λb1 H2 hb1 hN2 _ S2=>%[1|6]];have S02:Same H H2:=Same.but S1 hN S2;have hM2:=S02 _ _ hM;have nMN:M≠N:=aV hM hN;erw[0,M,CM,dm,_,0,hM2,T.cl,T.nR,Ha,0,N,CM,dn,0,hN2,T.cl,T.nR,xN,6];rw[Da];have S3:SameBut N H2 (upd H2 N (.ins CM dn (ml g h r b1))):=SameBut.upd _;have hN3:upd H2 N (.ins CM dn (ml g h r b1)) N=some (.ins CM dn (ml g h r b1)):=aI;generalize upd H2 N (.ins CM dn (ml g h r b1))=H3 at S3 hN3;have S03:Same H H3:=Same.but S02 hN S3;erw[kvs,eb,lb,hx]at BX;erw[0,M,CM,dm,_,0,S03 _ _ hM,T.cl,T.nB,Dc,b,kvs,1,S03 _ _ eb,λc hc=>?_];have cN:c≠N:=(aV hN3 hc).symm;have c0:H c=none:=S03.free hc;erw[0,N,CM,dn,0,by rw[bh cN.symm];exact hN3,T.cl,T.nB,xN,6];rw[Fc];erw[0,q N dn c _ hN c0 aI %[kvs,by rw[bh cN];exact aI,lb|hx] λa o e=>?_];rw[bh (aV e hN),bh (aV e c0)];exact S03 _ _ e
end
inductive spPow(vs:List V)(H:Hp)(Q:VK)(u_3:XK):Prop
 |mk:∀(x k:Int),vs=[.int x,.int k]->0<=k->k<=100->0<x->x<2 ^ 40->Q (.int (x ^ k.toNat)) H->spPow vs H Q u_3
theorem oK:FnScope ["number","times","told","step"] ["number","times"] (ai tL):=%[1,1,1,4,1,4|4]
theorem Cr   (F:Fun K "power" "power" tL f fd) (B:Bl mg):FnOk P w K mg base CX0 1 f fd ["number","times"] spPow:=by
 exists oK
 erw[x,k,1,k0,k1,x0,x1,q]at h;refine⟨_,(aa #[aj,2,oK,ae]
  (aa (cv PassesOwn.never rfl (bO rfl B.range %[1|aO]) (bb (i:=3) oK.nd rfl (.inl rfl)) (ad #[aj,2,oK,ao cq (pv 2) (pv 0)]))
  (ad (aq (pv 2))))),?_⟩
 erw[0,k,1,3,3,dj (n:=k.toNat) (λi σ H'=>∃x3:Option V,σ=[some (.int x),some (.int k),some (.int (x ^ i)),x3]/\H'=H) %[none,by rw[Int.pow_zero];rfl|1] ?_ ?_]
 . rintro i σ H1 hi ⟨x3,rfl,rfl⟩;erw[0,0,2,.inr %[3|3],6];erw[some (.int (0+(i:Int))),6,1];rw[Int.pow_succ];rfl
 . rintro σ H1 ⟨x3,rfl,rfl⟩;erw[0,q]
section
variable {C CM CA CG:Addr}
theorem Hz  :(dl g aA aC s aH aT ed pl).lookup ("twin":Str)=none:=by rfl'
def OptAt(H:Hp)(v:V):Option (List Int)->Prop
 | none=>v=.non
 | some cs=>∃b,v=.ref b/\H b=some (.tup (cs.map V.int))
theorem OptAt.mono{x:Option (List Int)}(h:OptAt H v x)(k:bJ H H'):OptAt H' v x:=by
 cases x with
 | none=>exact h
 | some cs=>erw[b,e,hb]at h;erw[b,e,k _ _ hb]
def WtAt(H:Hp)(a:Addr)(x:Int×Option (List Int)):Prop:=∃v,H a=some (.tup [.int x.1,v])/\OptAt H v x.2
def bu(ns:List Str)(ts:List Tr):Nat:=if ts.length=1 then ns.length else ns.length+1
theorem iP{ns:List Str}(h:ns.length<=6):bu ns ts<=7:=by unfold bu;split <;> omega
inductive spFirst(CG:Addr)(vs:List V)(H:Hp)(Q:VK)(u_3:XK):Prop
 |mk:∀(g c:Addr)(ns:List Str)(ts:List Tr)(p:Int)(cs:List Int),vs=[.ref g,.ref c]->Gm CG H g ns ts p->ns.length<=6->H c=some (.tup (cs.map V.int))->cs.length<=bu ns ts->(∀(a:Addr)(H':Hp),Same H H'->H' a=some (.tup ((cs++List.replicate (bu ns ts-cs.length) 0).map V.int))->Q (.ref a) H')->spFirst CG vs H Q u_3
theorem tu:FnScope ["game","coins"] ["game","coins"] (ai jU):=%[1,1,1,4,1,4|4]
theorem ut   (F:Fun K "first_row" "first_row" jU f fd) (B:Bl mg) (TG:GTxt K mg CG) (mC:Meth K CG "coins" fC) (GC:FnOk P w K mg base CX0 1 fC fdC ["self"] (spCoins CG)) (bC:Binds K fdC ["self"] []):FnOk P w K mg base CX0 2 f fd ["game","coins"] (spFirst CG):=by
 exists tu
 erw[g,c,ns,ts,p,cs,1,G,n6,hc,cl,q]at h;have hr1:Room 1 _:=hr.mono ⋯;erw[_,(ad (aq (ao (mv K) (pv 1) (ao (Cj K) (aF %[ae|aO]) (ao bm (bq (pv 0) TG.cl mC GC hr1 bC .nil aY) (aE aD rfl B.len PySem.boot_len %[1|aO])))))),6];erw[0,(by show 1<=sizeLine;decide),λz hz=>?_];have I:=zB0 hz (.tup [.int 0]);have gz:upd H z (.tup [.int 0]) z=some (.tup [.int 0]):=aI;generalize upd H z (.tup [.int 0])=H1 at I gz;let%[a,b,d,tv,%[dx|hg],ha,hb,TS|hd]:=G.same I;have vl:=TS.length;have noc:(gf a b p d).lookup ("coins":Str)=none:=oX _ _ _ _ ⋯ ⋯ ⋯ ⋯;erw[0,g,dx,0,hg,noc,g,a,b,d,ns,tv,p,1,%[dx|hg],ha,hb,6];have hc1:=I _ _ hc;erw[0,c,0,.inr (zC0 hc1),2,6];have ek:(if tv.length=1 then(ns.length:Int)else(ns.length:Int)+1)-((cs.map V.int).length:Int)=((bu ns ts-cs.length:Nat):Int):=by
  rw[zE0,vl];unfold bu at cl ⊢
  split <;> rename_i h <;> (first | rw[zD0 h]at cl | rw[zA0 h]at cl) <;> omega
 show rRepT K (.ref z) (.int ((if tv.length=1 then(ns.length:Int)else(ns.length:Int)+1)-((cs.map V.int).length:Int))) H1 _;rw[ek];have c7:=iP (ts:=ts) n6;have fin:∀(y:Addr)(H2:Hp),Same H1 H2->H2 y=some (.tup ((List.replicate (bu ns ts-cs.length) (0:Int)).map V.int))->rCatT K (.ref c) (.ref y) H2 Q∨rCatT0 K (.ref c) (.ref y) H2 Q:=λy H2 S2 hy=>
  pT (S2 _ _ hc1) hy (by rw[List.length_replicate];omega) λt H3 S3 h3=>q t H3 (I.trans (S2.trans S3)) h3
 erw[z,.int 0,((bu ns ts-cs.length:Nat):Int),1,1,zC0 gz,3,3,λe=>fin z H1 (Same.refl _) ?_,λ_ y hy=>fin y _ (zB0 hy _) ?_]
 . have e1:bu ns ts-cs.length=1:=by omega
   rw[e1];exact gz
 . rw[aI,List.map_replicate,qO0]
inductive spRowsC(CG:Addr)(vs:List V)(H:Hp)(Q:VK)(u_3:XK):Prop
 |mk:∀(g:Addr)(ns:List Str)(ts:List Tr)(p:Int),vs=[.ref g]->Gm CG H g ns ts p->ns.length<=6->0<p->p<2 ^ 40->Q (.int (p ^ bu ns ts)) H->spRowsC CG vs H Q u_3
theorem ny:FnScope ["game"] ["game"] (ai gG):=%[1,1,1,4,1,4|4]
theorem ot   (F:Fun K "rows_of_coins" "rows_of_coins" gG f fd) (T:GTxt K mg CG) (mC:Meth K CG "coins" fC) (GC:FnOk P w K mg base CX0 1 fC fdC ["self"] (spCoins CG)) (bC:Binds K fdC ["self"] []) (E5:Cal P w K mg base 1 "power" ["number","times"] spPow):FnOk P w K mg base CX0 2 f fd ["game"] (spRowsC CG):=by
 exists ny
 erw[g,ns,ts,p,1,%[a,b,d,tv,%[dx|hg],ha,hb,TS|hd],nl,p0,p40,q]at h;have hr1:Room 1 _:=hr.mono ⋯;erw[_,(ad (aq (ag E5 hr ⋯ rfl %[ay (pv 0) rfl,bq (pv 0) T.cl mC GC hr1 bC .nil aY|aO]))),6];have noc:(gf a b p d).lookup ("coins":Str)=none:=oX _ _ _ _ ⋯ ⋯ ⋯ ⋯;have vl:=TS.length;erw[0,g,CG,dx,_,0,hg,T.cl,T.nF,gN ..,0,g,dx,0,hg,noc,g,a,b,d,ns,tv,p,1,%[dx|hg],ha,hb,p,0,6,6,p0,p40,6]
 . split <;> omega
 . split <;> omega
 . have e:(if tv.length=1 then(ns.length:Int)else(ns.length:Int)+1).toNat=bu ns ts:=by
    rw[vl];unfold bu
    split <;> omega
   rw[e];exact q
structure Twins(P:Program)(w:World)(K:W.Frag)(mg:Str->Option Value)(base:Heap)(C CM CG fD fM:Addr)(fdD fdM:FuncData):Prop where
 mD:Meth K C "twin" fD
 GD:FnOk P w K mg base CX0 3 fD fdD ["self"] (spTwin C CG)
 bD:Binds K fdD ["self"] []
 mM:Meth K CM "twin" fM
 GM:FnOk P w K mg base CX0 3 fM fdM ["self"] (spMTwin CM)
 bM:Binds K fdM ["self"] []
inductive spWB(C CM CG:Addr)(d:Nat)(vs:List V)(H:Hp)(Q:VK)(u_3:XK):Prop
 |mk:∀(D M g h b c:Addr)(rows:List Hr)(ns:List Str)(ts:List Tr)(p:Int)(t:Tk)(m:Nat)(cs:List Int),vs=[.ref M,.ref D,.ref c]->TalkAt C CM CG H D M g h b rows ns ts p t m->GmK ns ts p->ns.length<=6->(∀r∈rows,r.good)->Beg ns ts p t->bL ns (settle ns ts p rows 2 t).z<d->H c=some (.tup (cs.map V.int))->cs.length+bL ns (settle ns ts p rows 2 t).z<=bu ns ts->m+400*d<=5000->(∀(a:Addr)(H':Hp),WtAt H' a (dZ ns ts p rows (bu ns ts) d t cs)->But3 D M b H H'->Q (.ref a) H')->spWB C CM CG d vs H Q u_3
theorem b6:FnScope ["machine","doubter","coins","number","row","coin","behind","told"] ["machine","doubter","coins"] (ai dU):=%[1,1,1,4,1,4|4]
theorem Ec  :FnOk P w K mg base CX0 27 f fd ["machine","doubter","coins"] (spWB C CM CG 0):=by
 have no:∀vs H Q E,¬ spWB C CM CG 0 vs H Q E:=λvs H Q E h=>by
  erw[D,M,g,h,b,c,rows,ns,ts,p,t,m,cs,_,_,_,_,_,_,h1,_]at h;exact absurd h1 (Nat.not_lt_zero _)
 erw[λvs H Q E h=>absurd h (no vs H Q E),λA outer s H args us vs Q E _ _ _ _ h=>absurd h (no vs H Q E)]
theorem TalkAt.twins{M2 dm2:Addr}(w:TalkAt C CM CG H D M g h b rows ns ts p t m)(s:Same H H')(DA:DbAt C H' D2 g z)(hM:H' M2=some (.ins CM dm2 (ml g h t.nr b2)))(B:BxAt H' b2 t.bx m)(ne:D2≠M2):TalkAt C CM CG H' D2 M2 g h b2 rows ns ts p %[z,t.bx|t.nr] m:=by
 let%[_,G,_,%[rv,hh|R],_|_]:=w.same s;erw[DA,G,%[dm2|hM],%[rv,hh|R],B,ne]
theorem Ed {n:Nat}   (F:Fun K "weighed_behind" "weighed_behind" dU f fd) (B:Bl mg) (T:DTxt K mg C) (TM:MTxt K mg CM) (TG:GTxt K mg CG) (Y:Ways P w K mg base C CM CG fW fU fH fT fS fdW fdU fdH fdT fdS) (Z:Twins P w K mg base C CM CG fDt fMt fdDt fdMt)
 (b7:Cal P w K mg base 26 "asked_once" ["machine","doubter"] (spAsked C CM CG)) (fo:Cal P w K mg base 2 "first_row" ["game","coins"] (spFirst CG)) (eK:Cal P w K mg base (n+27) "weighed_behind" ["machine","doubter","coins"] (spWB C CM CG n)):FnOk P w K mg base CX0 (n+28) f fd ["machine","doubter","coins"] (spWB C CM CG (n+1)):=by
 exists b6
 erw[D,M,g,h,b,c,rows,ns,ts,p,t,m,cs,1,W,k,n6,rg,bg,cd,hc,cl,mm,q]at h;have hr1:Room 1 _:=hr.mono #[0];have hr3:Room 3 _:=hr.mono #[0];have hr17:Room 17 _:=hr.mono #[0];refine⟨_,(aa (gt PassesOwn.never (ah aP (aJ ix_tup (bq (pv 1) T.cl Y.mW Y.GW hr1 Y.bW .nil aY) ae (λ_ _=>rfl)) au (ax _)) (ad (aR (ag b7 hr #[0] rfl %[0,1|aO]))))
  (aa (aG (ah aP (aJ ix_tup (bq (pv 1) T.cl Y.mW Y.GW hr1 Y.bW .nil aY) ae (λ_ _=>rfl)) au (ax _)) (ad (aq (aF %[ae,ju|aO]))) az)
  (aa (aG (ah aP (aJ ix_tup (bq (pv 1) T.cl Y.mW Y.GW hr1 Y.bW .nil aY) ae (λ_ _=>rfl)) au (ax _)) (ad (aq (aF %[ae,ag fo hr #[0] rfl %[ay (pv 1) rfl,2|aO]|aO]))) az)
  (aa #[aj,3,b6,ae]
  (aa #[aj,4,b6,ju]
  (aa (cv PassesOwn.never rfl (bO rfl B.range %[ay (ay (pv 1) rfl) rfl|aO]) (bb (i:=5) b6.nd rfl (.inl rfl)) (aa #[aj,6,b6,bq (pv 1) T.cl Z.mD Z.GD hr3 Z.bD .nil aY]
   (aa (aR (bQ (pv 6) T.cl Y.mT Y.GT hr17 Y.bT .nil aY %[5|aO]))
   (aa #[aj,7,b6,ag eK hr #[0] rfl %[bq (pv 0) TM.cl Z.mM Z.GM hr3 Z.bM .nil aY,6,ao (mv K) (pv 2) (aF %[5|aO])|aO]]
   (aa #[aj,3,b6,ao aQ (pv 3) (aJ ix_tup (pv 7) ae (λ_ _=>rfl))]
   (ad (aG (ah ug (pv 4) ju (ax _)) (ad #[aj,4,b6,aJ ix_tup (pv 7) ae (λ_ _=>rfl)]) az)))))))
  (ad (aq (aF %[3,4|aO]))))))))),?_⟩
 have p2:=k.p2;have p9:=k.p9;let%[uok|uno]:=bg.settle (rows:=rows) k n6;have rec1:settle ns ts p rows 2 t=settle ns ts p rows 2 t:=rfl;generalize eu:settle ns ts p rows 2 t=u at uok uno cd cl;clear rec1;have c7:=iP (ts:=ts) n6;erw[λmm σ H'=>∃(t':Tk) (j m':Nat),σ=[some (.ref M),some (.ref D),some (.ref c),none,none,none,none,none]/\mm=j/\j<=2/\Beg ns ts p t'/\(j<=1->TkOk ns ts p t')/\(j=0->¬ t'.z.aw.1="hear")/\settle ns ts p rows j t'=u/\TalkAt C CM CG H' D M g h b rows ns ts p t' m'/\m'+200*j<=m+400/\But3 D M b H H',%[(2),t,(2),m,1,1,zH0 _,bg,λz=>absurd z ⋯,λz=>absurd z ⋯,eu,W,zH0 _|λ_ _ _ _ _ e=>e],6]
 rintro mm1 σ H1 ⟨t',j,m',rfl,rfl,j2,bg',ok',no',es,W1,m1,S1⟩;have DA:=W1.DA;let%[dx,aA,aC,aH,aT|R]:=id DA;erw[0,D,dx,0,R.hD,oY,D,g,t'.z,1,DA,λv hv=>?_];erw[av,1,hav]at hv;erw[av,_,(0),0,1,zC0 hav,AS _,1,0,6]
 by_cases ch:t'.z.aw.1="hear"
 . refine aS (congrArg V.str ch) %[_,λ_ _ h=>h|6];obtain⟨i,rfl⟩:∃i,mm1=i+1:=⟨mm1-1,by have:mm1≠0:=λz=>no' z ch;omega⟩
   let%[ak,bo,aw,a0,a5|ho]:=bg'.ask (rows:=rows) k n6 ch;erw[0,0,D,M,g,h,b,rows,ns,ts,p,t',m',1,W1,k,rg,ak,bo,aw,a0,a5,ho,3,λa6 H6 _ _ W6 S6=>?_];have ok2:=bg'.asked (rows:=rows) k n6 ch;erw[i,Nat.lt_succ_self _,t'.ask ns ts p rows,i,m'+200,1,1,3,.inr ok2,λ_=>ok2,λz=>?_,6,W6,3,λa o h1 h2 h3 e=>S6 _ _ h1 h2 h3 (S1 _ _ h1 h2 h3 e)]
   . subst z;exact((ok' (zH0 _)).ask (rows:=rows) k n6 ch).2.2.2
   . rw[←es];exact(zD0 ch).symm
 refine aB (neS ch) ?_;rw[cI ch]at es;subst es;clear bg' ok' no' hav;erw[0,D,dx,0,R.hD,oY,D,g,t'.z,1,DA,λv hv=>?_];erw[av,1,hav]at hv;erw[av,_,(0),0,1,zC0 hav,AS _,1,0,6]
 by_cases cb:t'.z.aw.1="believed"
 . refine aS (congrArg V.str cb) %[(by show 2<=sizeLine;decide)|λa ha=>?_];have I:=zB0 ha (.tup [.int 1,.non]);refine q a _ ?_ (λx o h1 h2 h3 e=>I _ _ (S1 _ _ h1 h2 h3 e));have e:dZ ns ts p rows (bu ns ts) (n+1) t cs=(1,none):=by
    show(if(settle ns ts p rows 2 t).z.aw.1="believed" then _ else _)=_;rw[eu,zD0 cb]
   rw[e];erw[.non,aI,1]
 refine aB (neS cb) ?_;clear hav;erw[0,D,dx,0,R.hD,oY,D,g,t'.z,1,DA,λv hv=>?_];erw[av,1,hav]at hv;erw[av,_,(0),0,1,zC0 hav,AS _,1,0,6];have hDM:c≠D/\c≠M/\c≠b:=by
  erw[dx0,_,_,_,_,R0]at W.DA;erw[dm0,hM0]at W.hM;erw[kv0,hb0,_]at W.BX;erw[bn hc R0.hD (by intro z;cases z),bn hc hM0 (by intro z;cases z),bn hc hb0 (by intro z;cases z)]
 have hc1:=S1 _ _ hDM.1 hDM.2.1 hDM.2.2 hc
 by_cases cc:t'.z.aw.1="caught"
 . refine aS (congrArg V.str cc) %[0,D,C,dx,_,0,R.hD,T.cl,T.nG,iO,0,g,c,ns,ts,p,cs,1,W1.G,n6,hc1,3|λa2 H2 S2 h2=>?_];erw[(by show 2<=sizeLine;decide),λa ha=>?_];have I:=zB0 ha (.tup [.int 0,.ref a2]);refine q a _ ?_ (λx o h1 h2 h3 e=>I _ _ (S2 _ _ (S1 _ _ h1 h2 h3 e)));have e:dZ ns ts p rows (bu ns ts) (n+1) t cs=(0,some (cs++List.replicate (bu ns ts-cs.length) 0)):=by
    show(if(settle ns ts p rows 2 t).z.aw.1="believed" then _ else if(settle ns ts p rows 2 t).z.aw.1="caught" then _ else _)=_;rw[eu,zA0 cb,zD0 cc]
   rw[e];erw[.ref a2,aI,a2,1,I _ _ h2]
 refine aB (neS cc) ?_;have co:=wo uok uno cb cc;have e:dZ ns ts p rows (bu ns ts) (n+1) t cs=iN (λr=>dZ ns ts p rows (bu ns ts) n (t'.toss ns ts p r) (cs++[r])) p.toNat:=by
  show(if(settle ns ts p rows 2 t).z.aw.1="believed" then _ else if(settle ns ts p rows 2 t).z.aw.1="caught" then _ else _)=_;rw[eu,zA0 cb,zA0 cc]
 rw[e]at q;clear e hav eu bg W hc;have cp:=(eE uok (.inr co)).2 co;generalize ef:(λr=>dZ ns ts p rows (bu ns ts) n (t'.toss ns ts p r) (cs++[r]))=fw at q;erw[ga,gb,gd,tv,%[dg|hg],_]at W1.G;erw[0,D,C,dx,_,0,R.hD,T.cl,T.nG,iO,g,CG,dg,_,0,hg,TG.cl,TG.nF,gN ..,p,1,3,3,dj (n:=p.toNat) (λi σ H'=>∃(v:V)(x5 x6 x7:Option V),σ=[some (.ref M),some (.ref D),some (.ref c),some (.int (iN fw i).1),some v,x5,x6,x7]/\OptAt H' v (iN fw i).2/\Same H1 H') %[.non,none,none,none,1,1|Same.refl _] ?_ ?_]
 . rintro i σ H2 hi ⟨v,x5,x6,x7,rfl,ov,S2⟩;rw[Int.zero_add];have W2:=W1.same S2;have DA2:=W2.DA;let%[dx2,_,_,_,_|R2]:=id DA2;erw[0,D,dx2,0,R2.hD,Hz,D,g,t'.z,ns,ts,p,1,DA2,W2.G,λD3 H3 D30 S3 DA3=>?_];let%[dx3,_,_,_,_|R3]:=id DA3;have to:=uok.tossOk co (r:=(i:Int)) #[0] #[0];erw[0,D3,dx3,0,R3.hD,FV,0,D3,g,t'.z,(i:Int),ns,ts,p,1,DA3,W2.G.same S3,k,to.aw,to.r0,to.r1,to.tl,to.ro,to.po,λH4 S4 DA4=>?_];have S24:Same H2 H4:=Same.but S3 D30 S4;have W4:=W2.same S24;erw[dm4,hM4]at W4.hM;erw[0,M,dm4,0,hM4,ml_n4,M,g,h,b,dm4,t'.nr,t'.bx,m',1,hM4,W4.BX,λM5 dm5 b5 H5 M50 b50 hM5 BX5 S5=>?_];erw[0,0,0,(by show 1<=sizeLine;decide),λz hz=>?_];have I6:=zB0 hz (.tup [.int (i:Int)]);have g6:upd H5 z (.tup [.int (i:Int)]) z=some (.tup ([(i:Int)].map V.int)):=aI;generalize upd H5 z (.tup [.int (i:Int)])=H6 at I6 g6;have S26:Same H2 H6:=S24.trans (S5.trans I6);refine pT (S26 _ _ (S2 _ _ hc1)) g6 (by rw[qM0];omega) λc7 H7 S7 h7=>?_
   have S47:Same H4 H7:=S5.trans (I6.trans S7);have S57:Same H5 H7:=I6.trans S7;let%[ok3,st3,co3|_]:=uok.toss k co to.r0 to.r1;let%[_,cs3|_]:=kz (rows:=rows) k n6 ok3;have el:(cs++[(i:Int)]).length=cs.length+1:=by rw[zJ0];rfl
   have D3M5:D3≠M5:=by
    erw[_,_,_,_,_,R4]at DA4;exact aV R4.hD M50
   have W7:TalkAt C CM CG H7 D3 M5 g h b5 rows ns ts p (t'.toss ns ts p (i:Int)) m':=W4.twins S47 (DA4.same S47) (S57 _ _ hM5) (BX5.keep λo e=>S57 _ _ e) D3M5;erw[D3,M5,g,h,b5,c7,rows,ns,ts,p,t'.toss ns ts p (i:Int),m',cs++[(i:Int)],1,W7,k,n6,rg,.inr ok3,3,h7,3,3,λa8 H8 w8 S8=>?_];have S28:Same H2 H8:=λa o e=>S8 _ _ (aV e D30) (aV (S24 _ _ e) M50) (aV (S24 _ _ e) b50) (S26.trans S7 _ _ e)
   erw[v8,ha8,o8]at w8;have ef8:dZ ns ts p rows (bu ns ts) n (t'.toss ns ts p (i:Int)) (cs++[(i:Int)])=fw (i:Int):=by rw[←ef]
   rw[ef8]at ha8 o8;erw[0,0,a8,_,(0),0,1,zC0 ha8,at0 _ _,2,6];erw[0,1,0,6];cases eo:(iN fw i).2 with
   | none=>
     rw[eo]at ov;have ov:v=.non:=ov;subst ov;refine aS rfl %[0,a8,_,(1),0,1,zC0 ha8,cD (j:=1) rfl|6];erw[v8,_,_,0,6,S2.trans S28];show OptAt H8 v8 ((iN fw i).2.or (fw (i:Int)).2);rw[eo];exact o8
   | some rr=>
     rw[eo]at ov;have ov':=ov;erw[bv,1,hbv]at ov';refine aB (by intro z;cases z) ?_;erw[.ref bv,_,_,0,6,S2.trans S28];show OptAt H8 (.ref bv) ((iN fw i).2.or (fw (i:Int)).2);rw[eo];erw[bv,1,S28 _ _ hbv]
 . rintro σ H2 ⟨v,x5,x6,x7,rfl,ov,S2⟩;erw[0,0,(by show 2<=sizeLine;decide),λa ha=>?_];have I:=zB0 ha (.tup [.int (iN fw p.toNat).1,v]);exact q a _ %[v,aI|ov.mono (aX I)] (λx o h1 h2 h3 e=>I _ _ (S2 _ _ (S1 _ _ h1 h2 h3 e)))
theorem iB   (F:Fun K "weighed_behind" "weighed_behind" dU f fd) (m:mg "weighed_behind"=some (.ref f)) (B:Bl mg) (T:DTxt K mg C) (TM:MTxt K mg CM) (TG:GTxt K mg CG) (Y:Ways P w K mg base C CM CG fW fU fH fT fS fdW fdU fdH fdT fdS) (Z:Twins P w K mg base C CM CG fDt fMt fdDt fdMt)
 (b7:Cal P w K mg base 26 "asked_once" ["machine","doubter"] (spAsked C CM CG)) (fo:Cal P w K mg base 2 "first_row" ["game","coins"] (spFirst CG)):∀n:Nat,FnOk P w K mg base CX0 (n+27) f fd ["machine","doubter","coins"] (spWB C CM CG n)
 | 0=>Ec
 | n+1=>Ed F B T TM TG Y Z b7 fo (Cal.of F (iB F m B T TM TG Y Z b7 fo n) m (λ_ _ _ _ _ _ us hl=>by let%[u0,u1,u2|1]:=Fh hl;rfl))
end
section
variable {C CM CA CG:Addr}
inductive spWeighed(C CM CG:Addr)(vs:List V)(H:Hp)(Q:VK)(u_3:XK):Prop
 |mk:∀(g h:Addr)(rv:List V)(rows:List Hr)(ns:List Str)(ts:List Tr)(p:Int),vs=[.ref g,.ref h]->Gm CG H g ns ts p->GmK ns ts p->ns.length<=6->H h=some (.tup rv)->RowsAt H rv rows->(∀r∈rows,r.good)->p ^ bu ns ts<=4000->(∀(a:Addr)(H':Hp),Same H H'->WtAt H' a (dZ ns ts p rows (bu ns ts) 8 (Tk.new ts) [])->Q (.ref a) H')->spWeighed C CM CG vs H Q u_3
theorem C0:FnScope ["game","helper","rows"] ["game","helper"] (ai nK):=%[1,1,1,4,1,4|4]
theorem xw   (F:Fun K "weighed" "weighed" nK f fd) (T:DTxt K mg C) (TM:MTxt K mg CM) (hmost:∃t,mg "MOST_ROWS_weighing"=some (.int 4000 t))
 (MD:Mk K C fI) (GD:FnOk P w K mg base CX0 1 fI fdI ["self","game"] (spDInit C CG)) (bD:Binds K fdI ["self","game"] []) (MM:Mk K CM fM) (GM:FnOk P w K mg base CX0 1 fM fdM ["self","game","helper"] (spMInit CM)) (bM:Binds K fdM ["self","game","helper"] [])
 (hR:Cal P w K mg base 2 "rows_of_coins" ["game"] (spRowsC CG)) (eK:Cal P w K mg base 35 "weighed_behind" ["machine","doubter","coins"] (spWB C CM CG 8)):FnOk P w K mg base CX0 36 f fd ["game","helper"] (spWeighed C CM CG):=by
 exists C0
 erw[g,h,rv,rows,ns,ts,p,1,G,k,n6,hh,RW,rg,p4,q]at h;erw[te,ge]at hmost;have hr2:Room (1+1) _:=hr.mono ⋯;refine⟨_,(aa #[aj,2,C0,ag hR hr ⋯ rfl %[0|aO]]
  (aa (aG (ah gK (pv 2) (cX (v:=.int 4000) rfl ge %[|0]) (ax _)) bw az)
  (ad (aq (ag eK hr ⋯ rfl %[eT MM GM hr2 rfl TM.mgC bM .nil aY %[0,1|aO],eT MD GD hr2 rfl T.mgC bD .nil aY %[0|aO],aF aO|aO]))))),?_⟩
 have p2:=k.p2;have p9:=k.p9;erw[0,g,ns,ts,p,1,G,n6,3,3,6];erw[0,2,0,aB #[0] ?_];erw[0,0,λM dm hM0 hdm0 nM=>?_];have K1:Same H (upd (upd H dm (.own M)) M (.ins CM dm [])):=λa o e=>by
  rw[bh (aV e hM0),bh (aV e hdm0)];exact e
 erw[M,g,h,dm,1,aI,λb H2 b0 hM2 hb2 S2=>%[1|6]];have T2:Same H H2:=Same.but K1 hM0 S2;have b00:H b=none:=K1.free b0;clear K1 S2 b0;erw[0,λD dd hD0 hdd0 nD=>?_];have K3:Same H2 (upd (upd H2 dd (.own D)) D (.ins C dd [])):=λa o e=>by
  rw[bh (aV e hD0),bh (aV e hdd0)];exact e
 have G2:=G.same T2;have gD:g≠D:=by
  erw[_,_,_,_,%[dg|hg],_]at G2;exact aV hg hD0
 erw[D,g,dd,ns,ts,p,1,aI,G2.same K3,gD,λH4 S4 DA4=>%[1|6]];have T24:Same H2 H4:=Same.but K3 hD0 S4;have T4:Same H H4:=T2.trans T24;have D00:H D=none:=T2.free hD0;have nDM:D≠M:=(aV hM2 hD0).symm;have W4:TalkAt C CM CG H4 D M g h b rows ns ts p (Tk.new ts) 0:=⟨DA4,G.same T4,⟨dm,T24 _ _ hM2⟩,⟨rv,T4 _ _ hh,RW.mono (aX T4)⟩,⟨[],T24 _ _ hb2,zH0 _,λ_=>rfl⟩,nDM⟩
 erw[(by show 0<=sizeLine;decide),λc hc=>?_];have I:=zB0 hc (.tup []);have gc:upd H4 c (.tup []) c=some (.tup (([]:List Int).map V.int)):=aI;generalize upd H4 c (.tup [])=H5 at I gc;let%[_,c1|_]:=iX (rows:=rows) k n6;have c2:ns.length+(if 1<ts.length then 1 else 0)<=bu ns ts:=by
  unfold bu
  split <;> split <;> omega
 have c7:=iP (ts:=ts) n6;erw[D,M,g,h,b,c,rows,ns,ts,p,Tk.new ts,(0),[],1,W4.same I,k,n6,rg,.inl rfl,3,gc,(by show 0+_<=_;omega),4,λa H6 w6 S6=>q a H6 (λx o e=>?_) w6];exact S6 _ _ (aV e D00) (aV e hM0) (aV e b00) (I _ _ (T4 _ _ e))
end
def dq(p:Nat):Nat->List (List Int)
 | 0=>[[]]
 | k+1=>(List.range p).flatMap λr:Nat=>(dq p k).map ((r:Int)::·)
theorem im:∀(k:Nat)(c:List Int),c∈dq p k->c.length=k/\ci c (p:Int)
 | 0,c,h=>by
   have e:c=[]:=by simpa [dq]using h
   subst e;erw[1,λx hx=>by cases hx]
 | k+1,c,h=>by
   unfold dq at h;let%[r,hr|h]:=List.mem_flatMap.mp h;let%[c',hc'|1]:=List.mem_map.mp h;have hr:=List.mem_range.mp hr;let%[l|o]:=im k c' hc';erw[by rw[zM0,l],λx hx=>?_];rcases zX0 hx with e | e
   . subst e;omega
   . exact o x e
theorem sS{p:Nat}(hp:0<p):∀k,(dq p k).head?=some (List.replicate k 0)
 | 0=>rfl
 | k+1=>by
   obtain⟨q,rfl⟩:∃q,p=q+1:=%[p-1|3]
   unfold dq;rw[List.range_succ_eq_map,List.flatMap_cons,List.head?_append,List.head?_map,sS hp k];rfl
theorem rM:∀k,(dq p k).length=p ^ k
 | 0=>rfl
 | k+1=>by
   unfold dq;rw[List.length_flatMap]
   have:((List.range p).map λa:Nat=>((dq p k).map ((a:Int)::·)).length)=List.replicate p (p ^ k):=by
    rw[List.eq_replicate_iff];erw[by simp,λb hb=>?_];let%[a,_|1]:=List.mem_map.mp hb;rw[zE0,rM k]
   rw[this,List.sum_replicate_nat,Nat.pow_succ,Nat.mul_comm]
def ee(L:List (List Int))(b:List Int->Bool)(cs:List Int):Int×Option (List Int):=(((L.filter b).length:Int),((L.filter λc=>!b c).head?).map (cs++·))
theorem jq{L:List (List Int)}{b b':List Int->Bool}(h:∀c∈L,b c=b' c):ee L b cs=ee L b' cs:=by
 unfold ee;have e1:L.filter b=L.filter b':=List.filter_congr h;have e2:(L.filter λc=>!b c)=L.filter λc=>!b' c:=List.filter_congr λc hc=>by rw[h c hc]
 rw[e1,e2]
theorem ve{L M:List (List Int)}:ee (L++M) b cs=((ee L b cs).1+(ee M b cs).1,(ee L b cs).2.or (ee M b cs).2):=by
 unfold ee;rw[List.filter_append,List.filter_append,zJ0,List.head?_append,Int.natCast_add]
 congr 1
 cases(List.filter (λc=>!b c) L).head? <;> rfl
theorem BQ{L:List (List Int)}{r:Int}:ee (L.map (r::·)) b cs=ee L (λc=>b (r::c)) (cs++[r]):=by
 unfold ee;rw[List.filter_map,List.filter_map,zE0,List.head?_map]
 congr 1
 show Option.map _ (Option.map _ _)=_;rw[Option.map_map]
 congr 1
 funext c
 show cs++(r::c)=(cs++[r])++c;rw[List.append_assoc];rfl
theorem sJ{p j:Nat}{f:Int->Int×Option (List Int)}{b:List Int->Bool}{cs:List Int}(h:∀r:Nat,r<p->f (r:Int)=ee (dq p j) (λc=>b ((r:Int)::c)) (cs++[(r:Int)])):∀k,k<=p->iN f k=ee ((List.range k).flatMap λr:Nat=>(dq p j).map ((r:Int)::·)) b cs
 | 0,_=>rfl
 | k+1,hk=>by
   show((iN f k).1+(f (k:Int)).1,(iN f k).2.or (f (k:Int)).2)=_;rw[sJ h k #[0],h k #[0],List.range_succ,List.flatMap_append,ve,List.flatMap_singleton,BQ]
section
variable {ns:List Str} {ts:List Tr} {p:Int} {t:Tk} {rows:List Hr}
theorem Br(z:Db):bV ns z<=2*ns.length+1:=by
 unfold bV
 split
 . omega
 . split
   . split <;> omega
   . omega
theorem oy(h:ci cs p)(p0:0<p):0<=cs.headD 0/\cs.headD 0<p:=by
 cases cs with
 | nil=>erw[Int.le_refl 0,p0]
 | cons a r=>exact h a (qC0 ..)
theorem sV(h:ci cs p):ci cs.tail p:=λx hx=>h x (List.mem_of_mem_tail hx)
theorem lp(k:GmK ns ts p)(n6:ns.length<=6):∀(n:Nat)(t:Tk)(cs:List Int),TkOk ns ts p t->ci cs p->bV ns t.z<=n->(db ns ts p rows cs (n+1) t).2=(db ns ts p rows cs n t).2
 | 0,t,cs,h,hc,hs=>by
   have h1:¬ t.z.aw.1="hear":=λz=>by have:=(eE h (.inl z)).1;omega
   have h2:¬ t.z.aw.1="coin":=λz=>by have:=(eE h (.inr z)).1;omega
   rw[dR h1 h2,dR h1 h2]
 | n+1,t,cs,h,hc,hs=>by
   have p2:=k.p2
   by_cases ch:t.z.aw.1="hear"
   . rw[fL ch,fL ch];let%[o,s|_]:=h.ask (rows:=rows) k n6 ch;exact lp k n6 n _ cs o hc #[0]
   . by_cases cc:t.z.aw.1="coin"
     . rw[fN cc,fN cc];let%[r0|r1]:=oy hc #[0];let%[o,s|_]:=h.toss k cc r0 r1;exact lp k n6 n _ cs.tail o (sV hc) #[0]
     . rw[dR ch cc,dR ch cc]
theorem qb(k:GmK ns ts p)(n6:ns.length<=6)(h:TkOk ns ts p t)(hc:ci cs p){n:Nat}(hs:bV ns t.z<=n):∀m,(db ns ts p rows cs (n+m) t).2=(db ns ts p rows cs n t).2
 | 0=>rfl
 | m+1=>by rw[←Nat.add_assoc,lp k n6 _ _ _ h hc #[0],qb k n6 h hc hs m]
theorem uU(k:GmK ns ts p)(n6:ns.length<=6)(h:TkOk ns ts p t)(hc:ci cs p){n m:Nat}(hn:13<=n)(hm:13<=m):(db ns ts p rows cs n t).2=(db ns ts p rows cs m t).2:=by
 have:=Br (ns:=ns) t.z
 obtain⟨a,rfl⟩:∃a,n=13+a:=%[n-13|3]
 obtain⟨b,rfl⟩:∃b,m=13+b:=%[m-13|3]
 rw[qb k n6 h hc #[0],qb k n6 h hc #[0]]
theorem lO(k:GmK ns ts p)(n6:ns.length<=6)(h:TkOk ns ts p t)(hc:ci cs p){n m:Nat}(hn:14<=n)(hm:14<=m):(db ns ts p rows cs n t).2=(db ns ts p rows cs m (settle ns ts p rows 2 t)).2:=by
 by_cases ch:t.z.aw.1="hear"
 . let%[o,s,_|o4]:=h.ask (rows:=rows) k n6 ch;have e:settle ns ts p rows 2 t=t.ask ns ts p rows:=(zD0 ch).trans (cI o4 1);rw[e];obtain⟨a,rfl⟩:∃a,n=a+1:=%[n-1|3]
   rw[fL ch];exact uU k n6 o hc #[0] #[0]
 . rw[cI ch];exact uU k n6 h hc #[0] #[0]
structure Lf(ns:List Str)(t:Tk)(j:Nat):Prop where
 hc:t.z.aw.1="hear"∨t.z.aw.1="coin" -> bL ns t.z=j
 be:t.z.aw.1="believed" -> j=0
theorem FR:¬ (("believed":Str)="hear"):=by decide
theorem yO:¬ (("coin":Str)="believed"):=by decide
theorem yN:¬ (("caught":Str)="believed"):=by decide
theorem FQ:¬ (("hear":Str)="believed"):=by decide
theorem CL:¬ (("caught":Str)="coin"):=by decide
theorem uI(z:Db)(tl:z.to.length<=ns.length)(bx:Str->Int)(nr:Int):Lf ns %[goOn ns ts p z,bx|nr] (ns.length-z.to.length):=by
 unfold goOn
 by_cases c:z.to.length<ns.length
 . rw[zD0 c];erw[λ_=>zD0 rfl,λh=>absurd h FQ]
 . rw [zA0 c];unfold eg
   by_cases e:z.ed=hor z.s p (ts.map λt=>t.worth ns z.to p)
   . rw[zD0 e];erw[λh=>h.elim (λh=>absurd h FR) (λh=>absurd h CN),λ_=>(by show ns.length-z.to.length=0;omega)]
   . rw[zA0 e];erw[λh=>h.elim (λh=>absurd h yP) (λh=>absurd h CL),λh=>absurd h yN]
theorem Lf.ask (k:GmK ns ts p) (n6:ns.length<=6) {j:Nat} (h:TkOk ns ts p t) (l:Lf ns t j) (hw:t.z.aw.1="hear"):Lf ns (t.ask ns ts p rows) j:=by
 have ho:=h.hear (rows:=rows) k n6 hw;have x0:=h.gd.hear_ne k ho;have e:cF ns ts p (t.said ns ts p rows) t.z=dB p (t.said ns ts p rows) { t.z with pl:=t.z.pl+((t.said ns ts p rows).length:Int) }:=zA0 h.cl;have l1:=l.hc (.inl hw);have s2:bL ns t.z=ns.length-t.z.to.length:=zD0 hw;have ez:(t.ask ns ts p rows).z=dB p (t.said ns ts p rows) { t.z with pl:=t.z.pl+((t.said ns ts p rows).length:Int) }:=e;erw[λhh=>?_,λhh=>?_]
 . rw [ez]at hh ⊢;unfold dB at hh ⊢
   by_cases c:(val p (t.said ns ts p rows) 0+val p (t.said ns ts p rows) 1) % p=t.z.ed
   . rw[zD0 c];show(if(("coin":Str)="hear")then _ else if(("coin":Str)="coin")then(if t.said ns ts p rows=[]then _ else _)else _)=j;rw[zA0 iC,zD0 rfl,zA0 x0];show ns.length-t.z.to.length=j;omega
   . rw[zA0 c]at hh;exact hh.elim (λh=>absurd h yP) (λh=>absurd h CL)
 . rw [ez]at hh;unfold dB at hh
   by_cases c:(val p (t.said ns ts p rows) 0+val p (t.said ns ts p rows) 1) % p=t.z.ed
   . rw[zD0 c]at hh;exact absurd hh yO
   . rw[zA0 c]at hh;exact absurd hh yN
theorem Lf.settle(k:GmK ns ts p)(n6:ns.length<=6)(h:TkOk ns ts p t)(l:Lf ns t j):Lf ns (settle ns ts p rows 2 t) j:=by
 by_cases ch:t.z.aw.1="hear"
 . let%[o,s,_|o4]:=h.ask (rows:=rows) k n6 ch;have e:Mine.settle ns ts p rows 2 t=t.ask ns ts p rows:=(zD0 ch).trans (cI o4 1);rw[e];exact l.ask k n6 h ch
 . rw[cI ch];exact l
theorem Lf.toss (h:TkOk ns ts p t) {j:Nat} (l:Lf ns t (j+1)) (hw:t.z.aw.1="coin") (r:Int):Lf ns (t.toss ns ts p r) j:=by
 have nh:¬ t.z.aw.1="hear":=by rw[hw];exact iC
 have s2:bL ns t.z=if t.z.he=[]then ns.length+1 else ns.length-t.z.to.length:=by unfold bL;rw[zA0 nh,zD0 hw]
 have l1:=l.hc (.inr hw)
 by_cases c:t.z.he=[]
 . have et:=h.fi hw c;rw[zD0 c]at s2;have e:t.toss ns ts p r=%[goOn ns ts p { t.z with pl:=t.z.pl+1,s:=r,ed:=hor r p t.z.cl },t.bx|t.nr]:=by
    unfold Tk.toss cZ wn;rw[zD0 c]
   rw[e]
   have:=uI (ns:=ns) (ts:=ts) (p:=p) { t.z with pl:=t.z.pl+1,s:=r,ed:=hor r p t.z.cl } h.gd.tl t.bx t.nr
   have ej:ns.length-t.z.to.length=j:=by rw[et,List.length_nil];omega
   rw[←ej];exact this
 . have tl:=((h.gd.co hw).2 c).2;rw[zA0 c]at s2;have e:t.toss ns ts p r=%[goOn ns ts p { t.z with pl:=t.z.pl+1,ed:=val p t.z.he r,to:=t.z.to++[r] },t.bx|t.nr]:=by
    unfold Tk.toss cZ;rw[zA0 c]
   rw[e];have el:(t.z.to++[r]).length=t.z.to.length+1:=by rw[zJ0];rfl
   have:=uI (ns:=ns) (ts:=ts) (p:=p) { t.z with pl:=t.z.pl+1,ed:=val p t.z.he r,to:=t.z.to++[r] } (by show(t.z.to++[r]).length<=_;omega) t.bx t.nr
   have ej:ns.length-(t.z.to++[r]).length=j:=by omega
   rw[←ej];exact this
theorem Lf.new(k:GmK ns ts p):Lf ns ((Tk.new ts).ask ns ts p rows) (bu ns ts):=by
 have e0:cF ns ts p ((Tk.new ts).said ns ts p rows) (Db.new ts)=iM ns ts p ((Tk.new ts).said ns ts p rows) { Db.new ts with pl:=(Db.new ts).pl+(((Tk.new ts).said ns ts p rows).length:Int) }:=zD0 rfl
 by_cases c:ts.length=1
 . have e:(Tk.new ts).ask ns ts p rows=%[goOn ns ts p { Db.new ts with pl:=(Db.new ts).pl+(((Tk.new ts).said ns ts p rows).length:Int),cl:=(Tk.new ts).said ns ts p rows,s:=0,ed:=hor 0 p ((Tk.new ts).said ns ts p rows) },((Tk.new ts).run ns ts p rows).bx|(Tk.new ts).nr+1]:=by
    unfold Tk.ask
    congr 1
    exact e0.trans (zD0 c)
   rw[e];have ej:bu ns ts=ns.length-([]:List Int).length:=zD0 c;rw[ej];exact uI _ (zT0 _) _ _
 . have ez:((Tk.new ts).ask ns ts p rows).z={ Db.new ts with pl:=(Db.new ts).pl+(((Tk.new ts).said ns ts p rows).length:Int),cl:=(Tk.new ts).said ns ts p rows,aw:=("coin",none) }:=e0.trans (zA0 c);have ej:bu ns ts=ns.length+1:=zA0 c;erw[λ_=>?_,λh=>?_]
   . rw[ez,ej];show(if(("coin":Str)="hear")then _ else if(("coin":Str)="coin")then(if([]:List Int)=[]then ns.length+1 else _)else 0)=_;rw[zA0 iC,zD0 rfl,zD0 rfl]
   . rw[ez]at h;exact absurd h yO
noncomputable def yq (ns:List Str) (ts:List Tr) (p:Int) (rows:List Hr) (t:Tk) (c:List Int):Bool:=decide ((db ns ts p rows c 20 t).2.z.aw.1="believed")
theorem so (k:GmK ns ts p) (n6:ns.length<=6) {cn:Nat}:∀(d j:Nat) (t:Tk) (cs:List Int),TkOk ns ts p (settle ns ts p rows 2 t)->¬ (settle ns ts p rows 2 t).z.aw.1="hear" -> Lf ns (settle ns ts p rows 2 t) j->j<d->cs.length+j=cn ->
 dZ ns ts p rows cn d t cs=ee (dq p.toNat j) (yq ns ts p rows (settle ns ts p rows 2 t)) cs
 | 0,j,_,_,_,_,_,hd,_=>absurd hd (Nat.not_lt_zero _)
 | d+1,j,t,cs,ok,no,lf,hd,hl=>by
   have p2:=k.p2;have ep:(p.toNat:Int)=p:=by omega
   show(if(settle ns ts p rows 2 t).z.aw.1="believed" then _ else if(settle ns ts p rows 2 t).z.aw.1="caught" then _ else _)=_;generalize settle ns ts p rows 2 t=u at ok no lf
   by_cases cb:u.z.aw.1="believed"
   . rw [zD0 cb];have e0:=lf.be cb;subst e0;have e1:yq ns ts p rows u []=true:=by
      unfold yq;rw[dR no (by rw[cb];exact CN)];exact decide_eq_true cb
     unfold ee dq;rw[List.filter_cons_of_pos e1,List.filter_cons_of_neg (by rw[e1];decide)];rfl
   . rw [zA0 cb]
     by_cases cc:u.z.aw.1="caught"
     . rw [zD0 cc];have e1:∀c∈dq p.toNat j,yq ns ts p rows u c=false:=λc _=>by
        unfold yq;rw[dR no (by rw[cc];exact CL)];exact decide_eq_false cb
       rw[jq (b':=λ_=>false) e1];unfold ee;have e2:(dq p.toNat j).filter (λ_=>false)=[]:=List.filter_eq_nil_iff.mpr λ_ _=>by decide
       have e3:(dq p.toNat j).filter (λc=>!((λ_=>false) c))=dq p.toNat j:=List.filter_eq_self.mpr λ_ _=>rfl
       rw[e2,e3,sS #[0]];show(0,some (cs++List.replicate (cn-cs.length) 0))=((([]:List (List Int)).length:Int),some (cs++List.replicate j 0))
       rw[show cn-cs.length=j by omega];rfl
     . rw [zA0 cc];have co:=wo ok no cb cc;have cp:=(eE ok (.inr co)).2 co;obtain⟨i,rfl⟩:∃i,j=i+1:=%[j-1|by have:=lf.hc (.inr co);omega]
       refine sJ (p:=p.toNat) (j:=i) (λr hr=>?_) p.toNat (zH0 _);have r0:(0:Int)<=(r:Int):=Int.natCast_nonneg r;have r1:(r:Int)<p:=by omega
       let%[ok3|_]:=ok.toss k co r0 r1;let%[ok4,_|no4]:=kz (rows:=rows) k n6 ok3;rw[so k n6 d i _ (cs++[(r:Int)]) ok4 no4 ((lf.toss ok co (r:Int)).settle k n6 ok3) #[0] (by rw[zJ0,qM0];omega)];refine jq λc hc=>?_
       have po:ci c p:=by
        have:=(im _ _ hc).2
        rwa [ep]at this
       unfold yq;rw[←lO (n:=19) k n6 ok3 po ⋯ ⋯,fN (n:=19) co];rfl
theorem nq (k:GmK ns ts p) (n6:ns.length<=6):dZ ns ts p rows (bu ns ts) 8 (Tk.new ts) []=ee (dq p.toNat (bu ns ts)) (λc=>decide ((gl ns ts p rows c).2.z.aw.1="believed")) []:=by
 let%[o1,_|no1]:=iX (rows:=rows) k n6;let%[o2|_]:=kJ (rows:=rows) k n6;have c7:=iP (ts:=ts) n6;have ep:(p.toNat:Int)=p:=by have:=k.p2;omega
 have e:settle ns ts p rows 2 (Tk.new ts)=settle ns ts p rows 1 ((Tk.new ts).ask ns ts p rows):=zD0 rfl;have e2:settle ns ts p rows 2 (Tk.new ts)=settle ns ts p rows 2 ((Tk.new ts).ask ns ts p rows):=by
  rw[e]
  by_cases c:((Tk.new ts).ask ns ts p rows).z.aw.1="hear"
  . have n4:=(o2.ask (rows:=rows) k n6 c).2.2.2;show(if _ then _ else _)=(if _ then _ else _)
    rw[zD0 c,zD0 c,cI n4,cI n4]
  . rw[cI c,cI c]
 have lf:=(Lf.new (rows:=rows) k).settle (rows:=rows) k n6 o2;rw[←e2]at lf;rw[so k n6 8 (bu ns ts) (Tk.new ts) [] o1 no1 lf #[0] (Nat.zero_add _)];refine jq λc hc=>?_
 have po:ci c p:=by
  have:=(im _ _ hc).2
  rwa [ep]at this
 unfold yq;rw[e2,←lO (n:=20) k n6 o2 po ⋯ ⋯];rfl
end
theorem At{p x y:Int}(hp:1<p)(bx cy:Bool)(hx:x=if bx then 1 else 0)(hy:y=if cy then 1 else 0):eB p o x y=if jF o bx cy then 1 else 0:=by
 have m0:(0:Int) % p=0:=Int.zero_emod p;have m1:(1:Int) % p=1:=qU0 ⋯ hp;subst hx hy;unfold eB jF;cases bx <;> cases cy <;> (repeat' split) <;> simp_all
theorem iq{ns:List Str}{st:List Int}{p:Int}(hp:1<p)(h:∀x∈st,x=0∨x=1)(hl:st.length=ns.length):∀t:Tr,t.ok ns->t.worth ns st p=if t.holds ns st then 1 else 0
 | .is x,ok=>by
   let%[j,hj|jl]:=gV ok;show(match eO x ns with | some j=>st.getD j 0 | none=>0)=if(match eO x ns with | some j=>decide (st.getD j 0=1) | none=>false)=true then 1 else 0
   rw[hj];show st.getD j 0=if decide (st.getD j 0=1)=true then 1 else 0
   rw[rA #[0]];rcases h _ (qR0 (show j<st.length by omega))with e | e <;> rw[e] <;> rfl
 | .yes,_=>rfl
 | .no,_=>rfl
 | .not a,ok=>by
   have m0:(0:Int) % p=0:=Int.zero_emod p;have m1:(1:Int) % p=1:=qU0 ⋯ hp;show(1-a.worth ns st p) % p=if(!a.holds ns st)=true then 1 else 0
   rw[iq hp h hl a ok];cases a.holds ns st
   . exact m1
   . exact m0
 | .bin o a b,⟨_,k1,k2⟩=>At hp _ _ (iq hp h hl a k1) (iq hp h hl b k2)
theorem nd_at{ns:List Str}(nd:ns.Nodup){i j:Nat}{z:Str}(hi:ns[i]?=some z)(hj:ns[j]?=some z):i=j:=by
 let%[h1|e1]:=zW0 hi;let%[h2|e2]:=zW0 hj;rcases Nat.lt_trichotomy i j with h | h | h
 . exact absurd (e1.trans e2.symm) (List.pairwise_iff_getElem.mp nd i j h1 h2 h)
 . exact h
 . exact absurd (e2.trans e1.symm) (List.pairwise_iff_getElem.mp nd j i h2 h1 h)
theorem Bz{pt:List Int}{j i:Nat}{x:Int}(hj:j<pt.length):(pt.set j x).getD i 0=if i=j then x else pt.getD i 0:=by
 rw[qP0,qP0,List.getElem?_set]
 by_cases c:j=i
 . subst c
   simp [hj]
 . rw[zA0 c,zA0 (Ne.symm c)]
theorem iV{ns:List Str}{pt:List Int}{p:Int}{j:Nat}{y:Str}(hy:ns[j]?=some y)(hl:pt.length=ns.length)(nd:ns.Nodup):∀t:Tr,t.ok ns->∃f:Int->Int,IsPoly (t.names.count y+1) f/\∀x:Int,p ∣ t.worth ns (pt.set j x) p-f x
 | .is z,ok=>by
   have jl:j<ns.length:=(zW0 hy).1;let%[i,hi|il]:=gV ok;have hz:=(qM hi).1;have e:∀x,(Tr.is z).worth ns (pt.set j x) p=if i=j then x else pt.getD i 0:=λx=>by
    show(match eO z ns with | some j'=>(pt.set j x).getD j' 0 | none=>0)=_;rw[hi];exact Bz #[0]
   by_cases c:i=j
   . subst c;have ez:z=y:=zU0 (hz.symm.trans hy);subst ez;erw[λx=>x,6,λx=>%[(0)|by rw[e x,zD0 rfl];simp]]
     have:(Tr.is z).names.count z=1:=by simp [Tr.names]
     rw[this];exact IsPoly.self
   . have ez:z≠y:=λh=>c (by
      subst h;exact nd_at nd hz hy)
     erw[λ_=>pt.getD i 0,6,λx=>%[(0)|by rw[e x,zA0 c];simp]];exact IsPoly.const _ _
 | .yes,_=>%[λ_=>1,IsPoly.const _ _|λx=>%[(0)|by show(1:Int)-1=_;simp]]
 | .no,_=>%[λ_=>0,IsPoly.const _ _|λx=>%[(0)|by show(0:Int)-0=_;simp]]
 | .not a,ok=>by
   let%[f,hf|h]:=iV (p:=p) hy hl nd a ok;erw[λx=>1+(-1)*f x,(IsPoly.const 1 _).add (hf.mul (-1)),λx=>?_];let%[k|hk]:=h x;let%[m|hm]:=rC p (1-a.worth ns (pt.set j x) p);show p ∣ (1-a.worth ns (pt.set j x) p) % p-_;erw[m-k,by grind]
 | .bin o a b,⟨_,ok1,ok2⟩=>by
   let%[f,hf|h]:=iV (p:=p) hy hl nd a ok1;let%[g,hg|h']:=iV (p:=p) hy hl nd b ok2;have ec:(Tr.bin o a b).names.count y+1=a.names.count y+b.names.count y+1:=by
    show(a.names++b.names).count y+1=_;rw[List.count_append]
   rw [ec];have hF:IsPoly (a.names.count y+b.names.count y+1) f:=hf.upTo _ #[0];have hG:IsPoly (a.names.count y+b.names.count y+1) g:=hg.upTo _ #[0];have hP:=hf.prod hg;have fin:∀(c0 c1 c2:Int),(∀u v:Int,eB p o u v=(c0+c1*(u+v)+c2*(u*v)) % p)->∃F:Int->Int,IsPoly (a.names.count y+b.names.count y+1) F/\∀x:Int,p ∣ (Tr.bin o a b).worth ns (pt.set j x) p-F x:=λc0 c1 c2 hJ=>by
    erw[λx=>c0+c1*(f x+g x)+c2*(f x*g x),((IsPoly.const c0 _).add ((hF.add hG).mul c1)).add (hP.mul c2),λx=>?_];let%[k|hk]:=h x;let%[l|hl]:=h' x;show p ∣ eB p o (a.worth ns (pt.set j x) p) (b.worth ns (pt.set j x) p)-_;rw[hJ];generalize a.worth ns (pt.set j x) p=u at *
    generalize b.worth ns (pt.set j x) p=v at *
    let%[m|hm]:=rC p (c0+c1*(u+v)+c2*(u*v));erw[m+c1*(k+l)+c2*(k*v+f x*l),by grind]
   by_cases c1:o="and"
   . exact fin 0 0 1 λu v=>by unfold eB;rw[zD0 c1];congr 1;grind
   by_cases c2:o="or"
   . exact fin 0 1 (-1) λu v=>by unfold eB;rw[zA0 c1,zD0 c2];congr 1;grind
   by_cases c3:o="odd"
   . exact fin 0 1 (-2) λu v=>by unfold eB;rw[zA0 c1,zA0 c2,zD0 c3];congr 1;grind
   . exact fin 1 (-1) 2 λu v=>by unfold eB;rw[zA0 c1,zA0 c2,zA0 c3];congr 1;grind
theorem vH{ns:List Str}{pt:List Int}{p:Int}{j D:Nat}{y:Str}(hy:ns[j]?=some y)(hl:pt.length=ns.length)(nd:ns.Nodup):∀ts:List Tr,(∀t∈ts,t.ok ns/\t.names.count y<=D)->∃f:Int->Int,IsPoly (D+1) f/\∀x:Int,p ∣ ig s (ts.map λt=>t.worth ns (pt.set j x) p)-f x
 | [],_=>%[λ_=>0,IsPoly.const _ _|λx=>%[(0)|by simp [ig]]]
 | t::ts,h=>by
   let%[f,hf|h1]:=iV (p:=p) hy hl nd t (h t qC0).1;let%[g,hg|h2]:=vH (p:=p) (s:=s) hy hl nd ts λu hu=>h u (qK0 _ hu)
   have hd:=(h t qC0).2;erw[λx=>f x+s*g x,(hf.upTo _ #[0]).add (hg.mul s),λx=>?_];let%[k|hk]:=h1 x;let%[l|hl]:=h2 x;show p ∣ t.worth ns (pt.set j x) p+s*ig s (ts.map λt=>t.worth ns (pt.set j x) p)-_;erw[k+s*l,by grind]
theorem AZ(hp:Pm p){xs:List Int}{f:Int->Int}(hn:(xs.length:Int)<=p)(hf:IsPoly xs.length f)(h:∀k,k<xs.length->p ∣ xs.getD k 0-f k)(r:Int):val p xs r=f r % p:=
 md (vN hp hn (wC hp hn) hf h r)
theorem HD{ts:List Tr}{x:Str}:∀t∈ts,t.names.count x<=(bz ts x).toNat:=λt ht=>by
 have:=uB (d:=0) (List.mem_map.mpr %[t,ht|1]:((t.names.count x:Nat):Int)∈ts.map λt=>(t.names.count x:Int))
 unfold bz;omega
theorem yD:∀(cs st:List Int)(x z:Int),(cs++[z]++st).set cs.length x=cs++[x]++st
 | [],_,_,_=>rfl
 | a::cs,st,x,z=>congrArg (a::·) (yD cs st x z)
theorem uV{ns:List Str}{cs:List Int}{p:Int}{D:Nat}{y:Str}{ts:List Tr}(hy:ns[cs.length]?=some y)(nd:ns.Nodup)(h:∀t∈ts,t.ok ns/\t.names.count y<=D):∀l:List (List Int),(∀st∈l,cs.length+1+st.length=ns.length) ->
 ∃f:Int->Int,IsPoly (D+1) f/\∀x:Int,p ∣ (l.map λst=>ig s (ts.map λt=>t.worth ns (cs++[x]++st) p)).sum-f x
 | [],_=>%[λ_=>0,IsPoly.const _ _|λx=>%[(0)|by simp]]
 | st::l,hs=>by
   let%[f,hf|h1]:=vH (p:=p) (s:=s) (pt:=cs++[0]++st) hy (by rw[zJ0,zJ0,qM0];exact hs st qC0) nd ts h;let%[g,hg|h2]:=uV (p:=p) (s:=s) hy nd h l λu hu=>hs u (qK0 _ hu)
   erw[λx=>f x+g x,hf.add hg,λx=>?_];let%[k|hk]:=h1 x;rw[yD]at hk;let%[m|hm]:=h2 x;erw[k+m,6];simp only[zZ0,List.sum_cons];rw[Int.mul_add];omega
theorem nv:∀(n:Nat)(s:List Int),s∈cP n->s.length=n
 | 0,s,h=>by rw[zN0 h];rfl
 | n+1,s,h=>by
   let%[t,ht|h]:=List.mem_flatMap.mp h
   have:=nv n t ht
   rcases zX0 h with h | h
   . rw[h,zJ0,this];rfl
   . rw[zN0 h,zJ0,this];rfl
theorem yv{ns:List Str}{ts:List Tr}{cs:List Int}{y:Str}(hp:Pm p)(hy:ns[cs.length]?=some y)(nd:ns.Nodup)(ok:∀t∈ts,t.ok ns)(tne:ts≠[])(dp:bz ts y<p)(r:Int) :
 val p (gQ ns ts s p cs (bz ts y+1).toNat) r=cV ns ts s p (cs++[r]):=by
 have cl:cs.length<ns.length:=(zW0 hy).1;have d0:=wa (x:=y) tne;let%[f,hf|h]:=uV (p:=p) (s:=s) hy nd (λt ht=>%[ok t ht|HD t ht]) (cP (ns.length-(cs.length+1))) λst hst=>by
  have:=nv _ _ hst
  omega
 have ll:(gQ ns ts s p cs (bz ts y+1).toNat).length=(bz ts y).toNat+1:=by
  unfold gQ;rw[zE0,qQ0];omega
 have eq:∀x:Int,cV ns ts s p (cs++[x])=((cP (ns.length-(cs.length+1))).map λst=>ig s (ts.map λt=>t.worth ns (cs++[x]++st) p)).sum % p:=λx=>by
  unfold cV;rw[zJ0,qM0]
 rw [AZ hp (f:=f) (by rw[ll];omega) (by rw[ll];exact hf) (λk hk=>by
  have e:(gQ ns ts s p cs (bz ts y+1).toNat).getD k 0=cV ns ts s p (cs++[(k:Int)]):=by
   unfold gQ at hk ⊢;rw[zE0,qQ0]at hk;rw[qP0,zY0,List.getElem?_range hk];rfl
  rw[e,eq];let%[a|ha]:=h k;let%[b|hb]:=rC p ((cP (ns.length-(cs.length+1))).map λst=>ig s (ts.map λt=>t.worth ns (cs++[(k:Int)]++st) p)).sum;erw[a+b,by grind]) r,eq]
 let%[a|ha]:=h r;exact md %[-a|by grind]
theorem yx{α:Type}(F:List α->Int)(G:List α->Int):∀l:List (List α),(l.map λs=>F s+G s).sum=(l.map F).sum+(l.map G).sum
 | []=>rfl
 | a::l=>by
   simp only[zZ0,List.sum_cons,yx F G l];omega
theorem qe(F:List Int->Int):∀l:List (List Int),((l.flatMap λs=>[s++[0],s++[1]]).map F).sum=(l.map λs=>F (s++[0])+F (s++[1])).sum
 | []=>rfl
 | a::l=>by
   rw[List.flatMap_cons,zK0,List.sum_append,qe F l]
   simp
theorem oI:∀(n:Nat)(F:List Int->Int),((cP (n+1)).map F).sum=((cP n).map λs=>F (0::s)+F (1::s)).sum
 | 0,F=>by simp [cP]
 | n+1,F=>by
   have e1:((cP (n+1+1)).map F).sum=((cP (n+1)).map λs=>F (s++[0])+F (s++[1])).sum:=qe F _;rw[e1,oI n λs=>F (s++[0])+F (s++[1])];have e2:((cP (n+1)).map λs=>F (0::s)+F (1::s)).sum=((cP n).map λs=>(F (0::(s++[0]))+F (1::(s++[0])))+(F (0::(s++[1]))+F (1::(s++[1])))).sum:=qe (λs=>F (0::s)+F (1::s)) _;rw[e2]
   congr 1
   refine List.map_congr_left λs _=>?_
   show F (0::s++[0])+F (0::s++[1])+(F (1::s++[0])+F (1::s++[1]))=_;simp only[List.cons_append];omega
theorem zN{ns:List Str}{cs:List Int}(cl:cs.length<ns.length):(cV ns ts s p (cs++[0])+cV ns ts s p (cs++[1])) % p=cV ns ts s p cs:=by
 have eq:∀x:Int,cV ns ts s p (cs++[x])=((cP (ns.length-(cs.length+1))).map λst=>ig s (ts.map λt=>t.worth ns (cs++[x]++st) p)).sum % p:=λx=>by
  unfold cV;rw[zJ0,qM0]
 have e0:cV ns ts s p cs=((cP (ns.length-(cs.length+1)+1)).map λst=>ig s (ts.map λt=>t.worth ns (cs++st) p)).sum % p:=by
  unfold cV;rw[show ns.length-cs.length=ns.length-(cs.length+1)+1 by omega]
 rw [e0,oI,eq,eq];have e1:((cP (ns.length-(cs.length+1))).map λst=>ig s (ts.map λt=>t.worth ns (cs++0::st) p)+ig s (ts.map λt=>t.worth ns (cs++1::st) p)).sum
  = ((cP (ns.length-(cs.length+1))).map λst=>ig s (ts.map λt=>t.worth ns (cs++[0]++st) p)).sum+((cP (ns.length-(cs.length+1))).map λst=>ig s (ts.map λt=>t.worth ns (cs++[1]++st) p)).sum:=by
  rw[←yx]
  congr 1
  refine List.map_congr_left λst _=>?_
  simp only[List.append_assoc,List.singleton_append]
 rw[e1,←Int.add_emod]
theorem qN(s:Int){α:Type}(F:Tr->α->Int)(l:List α):∀ts:List Tr,ig s (ts.map λt=>(l.map (F t)).sum)=(l.map λa=>ig s (ts.map λt=>F t a)).sum
 | []=>by
   simp only[List.map_nil,ig]
   induction l with
   | nil=>rfl
   | cons a l ih=>simpa using ih
 | t::ts=>by
   show(l.map (F t)).sum+s*ig s (ts.map λt=>(l.map (F t)).sum)=_;rw[qN s F l ts];clear qN
   induction l with
   | nil=>simp
   | cons a l ih=>
     simp only[zZ0,List.sum_cons,ig]at ih ⊢
     grind
theorem EA{ns:List Str}{cs:List Int}(cl:cs.length=ns.length):cV ns ts s p cs=hor s p (ts.map λt=>t.worth ns cs p):=by
 rw[mL];unfold cV;rw[cl,Nat.sub_self]
 simp [cP]
section
theorem yk {X:Cx} (K:W.Frag) (hc:X.calm=true) (h:X.K=K:=by rfl):ip X (.builtin "max") (rMax1 K):=by subst h;exact iR hc
inductive spLDeg(vs:List V)(H:Hp)(Q:VK)(u_3:XK):Prop
 |mk:∀(a b:Addr)(ns:List Str)(tv:List V)(ts:List Tr),vs=[.ref a,.ref b]->H a=some (.lst (ns.map V.str))->H b=some (.lst tv)->TreesAt H tv ts->ns.length<=10->1<=ts.length->ts.length<=10->(∀t∈ts,t.wf/\t.depth<=10/\t.size<=400)->(∀(l:Addr)(H':Hp),H l=none->Same H H'->H' l=some (.lst ((ns.map (bz ts)).map V.int))->Q (.ref l) H')->spLDeg vs H Q u_3
theorem tf:FnScope ["_law_names_here","_law_trees"] ["_law_names_here","_law_trees"] (ai jS):=%[1,1,1,4,1,4|4]
theorem uq   (F:Fun K "_law_degrees" "_law_degrees" jS f fd) (B:Bl mg) (fq:Cal P w K mg base 12 "_law_names_of" ["_law_tree_here"] (spNO 10)):FnOk P w K mg base CX0 13 f fd ["_law_names_here","_law_trees"] spLDeg:=by
 exists tf
 erw[a,b,ns,tv,ts,1,ha,hb,TS,n10,t1,t10,tok,q]at h;refine⟨_,(ad (aq (Cf (N:=["_law_trees"]) (ix:=[1]) rfl
  (CompScopeO.one (by rfl') (λ_ _=>%[by rfl'|by rfl']) rfl ⋯ (by rfl') ⋯ (by rfl') (by rfl') (by rfl') rfl rfl) rfl
  (eQ (pv 0))
  (λ_ _ _=>cG (aE (yk K rfl) rfl B.max PyProof.Rows.boot_max (af (cz (N:=["_law_name"]) (ix:=[0]) rfl
   (CompScope.one (by rfl') ⋯ rfl ⋯ rfl ⋯ (by rfl') (by rfl') (by rfl') (by rfl') (by rfl')) rfl
   (Cb K (pv 1))
   (λ_ _ _=>cG (Ci K PySem.F.plainAttrs_list PySem.F.slot_list_count PySem.F.type_list_count (sE K) (ag fq hr ⋯ rfl %[0|aO]) %[1|aO]))) aO)))))),?_⟩
 have vl:=TS.length;have t0:ts≠[]:=λz=>by rw[z]at t1;cases t1
 erw[0,a,1,%[_|zG0 ha],λD hD=>?_];refine gY (K:=K) (xs:=ns.map V.str) (λi H'=>H' D=some (.lst (((ns.take i).map (bz ts)).map V.int))/\Same H H') %[by rw[aI];rfl|zB0 hD _] (λi H' _ h=>zG0 (h.2 _ _ ha)) ?_ ?_
 . rintro i z H2 hz ⟨hl,S2⟩;have hi:i<(ns.map V.str).length:=(zW0 hz).1;rw[zY0]at hz;let%[x,hx|1]:=qV0 hz;erw[0,b,1,%[_|zG0 (S2 _ _ hb)],λD2 hD2=>?_];refine gY (K:=K) (xs:=tv) (λj H'=>H' D2=some (.lst (((ts.take j).map λt=>(t.names.count x:Int)).map V.int))/\Same H2 H') %[by rw[aI];rfl|zB0 hD2 _] (λj H' _ h=>zG0 (h.2 _ _ (S2 _ _ hb))) ?_ ?_
   . rintro j u H3 hu ⟨hl3,S3⟩;let%[t,ht|Tt]:=TS.get hu;let%[tw,td|tz]:=tok t (qF0 ht);have hj:j<tv.length:=(zW0 hu).1;erw[0,u,t,1,Tt.mono (aX (S2.trans S3)),tw,3,tz,λl H4 l0 S4 hl4=>?_];erw[.inl %[1,_|zG0 hl4],0,l,2,zG0 hl4,gX _,1,6];rw[rD];erw[_,S4 _ _ hl3,6,Nx.of hj %[6|λb' o' e'=>?_]]
     . rw[zE0,zE0,qL0];exact aM #[0]
     . rw[aI,qI0,ht,zK0,zK0];rfl
     . rw[bh (aV e' hD2)];exact S4 _ _ (S3 _ _ e')
   . rintro H3 ⟨hl3,S3⟩;rw[vl,qG0]at hl3;erw[D2,0,zG0 hl3,by simpa using t0,6];erw[_,S3 _ _ hl,6,Nx.of hi %[6|λb' o' e'=>?_]]
     . rw[zE0,zE0,qL0];exact aM #[0]
     . rw[aI,qI0,hx,zK0,zK0];rfl
     . rw[bh (aV e' hD)];exact S3 _ _ (S2 _ _ e')
 . rintro H2 ⟨hl,S2⟩;rw[zE0,qG0]at hl;exact q D H2 hD S2 hl
inductive spPr54(vs:List V)(H:Hp)(Q:VK)(u_3:XK):Prop
 |mk:∀n:Int,vs=[.int n]->2<n->n<=999983->(∀b:Bool,(b=true↔Pr n)->Q (.bl b) H)->spPr54 vs H Q u_3
theorem pG:FnScope ["_law_number","_law_k"] ["_law_number"] (ai jh):=%[1,1,1,4,1,4|4]
theorem rW   (F:Fun K "_law_is_prime" "_law_is_prime" jh f fd) (B:Bl mg):FnOk P w K mg base CX0 1 f fd ["_law_number"] spPr54:=by
 exists pG
 erw[n,1,n2,n9,q]at h;refine⟨_,(aa (cv PassesOwn.never rfl (zS rfl B.range %[ae,0|aO]) (bb (i:=1) pG.nd rfl (.inl rfl)) (ad (aG (ah aP (ao bc (pv 0) (pv 1)) ae (ax _)) (ad (aq jD)) az)))
  (ad (aq (eU gK (pv 0) ae (ax _))))),?_⟩
 erw[0,(2),n,1,%[4,4,3|3],dj (n:=(n-2).toNat) (λi σ H'=>∃x,σ=[some (.int n),x]/\H'=H/\∀k:Int,2<=k->k<2+(i:Int)->n % k≠0) %[0,1|λk a b=>by omega] ?_ ?_]
 . rintro i σ H' hi ⟨x,rfl,rfl,u⟩;have hi':i<(n-2).toNat:=hi;erw[0,0,2,(show(0:Int)<2+(i:Int) by omega),1,0,6];refine rf (λc3=>?_) (λc3=>?_)
   . have c4:=V.int.inj (of_decide_eq_true c3);exact q false %[λz=>(nomatch z)|λz=>(BY z #[0] #[0] #[0] (Int.dvd_of_emod_eq_zero c4)).elim]
   . have c4:=of_decide_eq_false (Bool.eq_false_iff.mpr c3);erw[0,1,λk a b=>?_]
     by_cases e:k=2+(i:Int)
     . subst e;exact λz=>c4 (congrArg V.int z)
     . exact u k a #[0]
 . rintro σ H' ⟨x,rfl,rfl,u⟩;erw[0,2,6];show Q (.bl (decide (2<n))) H';rw[show decide (2<n)=true from decide_eq_true n2];refine q true ⟨λ_=>%[3|λj j2 j3 js=>?_],λ_=>rfl⟩;have jn:j<n:=by
    have:2*j<=j*j:=Int.mul_le_mul_of_nonneg_right j2 #[0]
    omega
   exact u j j2 #[0]
inductive spFd54(vs:List V)(H:Hp)(Q:VK)(u_3:XK):Prop
 |mk:∀m:Int,vs=[.int m]->2<=m->m<=900000->(∀p:Int,Pr p->m<p->(∀c:Int,Pr c->m<c->p<=c)->Q (.int p) H)->spFd54 vs H Q u_3
theorem o5:FnScope ["_law_need","_law_number"] ["_law_need"] (ai nY):=%[1,1,1,4,1,4|4]
theorem xB   (F:Fun K "_law_field" "_law_field" nY f fd) (jK:Cal P w K mg base 1 "_law_is_prime" ["_law_number"] spPr54):FnOk P w K mg base CX0 2 f fd ["_law_need"] spFd54:=by
 exists o5
 erw[m,1,m2,m9,q]at h;refine⟨_,(aa #[aj,1,o5,ao aQ (pv 0) ae]
  (aa (gt PassesOwn.never (gI (dN (ag jK hr ⋯ rfl %[1|aO]))) (ad #[aj,1,o5,ao aQ (pv 1) ae]))
  (ad (aq (pv 1))))),?_⟩
 erw[0,2,6];erw[λmm σ H'=>∃n:Int,σ=[some (.int m),some (.int n)]/\H'=H/\m<n/\(∀c:Int,Pr c->m<c->n<=c)/\mm=(999983-n).toNat,%[_,m+1,1,1,3,λc _ h=>by omega|1],6];rintro mm σ H' ⟨n,rfl,rfl,n0,nc,rfl⟩;have n9:=nc 999983 sA #[0];erw[0,n,1,3,n9,λb hb=>%[b,1|6]];cases b with
 | true=>
   refine cW ?_;erw[0,q n (hb.mp rfl) n0 nc]
 | false=>
   refine ei ?_;erw[_,λ_ _ h=>h,6];have ne:∀c:Int,Pr c->n≠c:=λc pc z=>by
    subst z;exact nomatch hb.mpr pc
   have n99:=ne _ sA;erw[0,2,6];erw[_,3,n+1,1,1,3,λc pc h=>by have:=nc c pc h;have:=ne c pc;omega,1]
theorem io:FnScope ["_law_field_here","_law_coins","_law_many","_law_k"] ["_law_field_here","_law_coins"] (ai jR):=%[1,1,1,4,1,4|4]
theorem uo   (F:Fun K "_law_rows_in" "_law_rows_in" jR f fd) (B:Bl mg):FnOk P w K mg base CX0 1 f fd ["_law_field_here","_law_coins"] spPow:=by
 exists io
 erw[x,k,1,k0,k1,x0,x1,q]at h;refine⟨_,(aa #[aj,2,io,ae]
  (aa (cv PassesOwn.never rfl (bO rfl B.range %[1|aO]) (bb (i:=3) io.nd rfl (.inl rfl)) (ad #[aj,2,io,ao cq (pv 2) (pv 0)]))
  (ad (aq (pv 2))))),?_⟩
 erw[0,k,1,3,3,dj (n:=k.toNat) (λi σ H'=>∃x3:Option V,σ=[some (.int x),some (.int k),some (.int (x ^ i)),x3]/\H'=H) %[none,by rw[Int.pow_zero];rfl|1] ?_ ?_]
 . rintro i σ H1 hi ⟨x3,rfl,rfl⟩;erw[0,0,2,.inr %[3|3],6];erw[some (.int (0+(i:Int))),6,1];rw[Int.pow_succ];rfl
 . rintro σ H1 ⟨x3,rfl,rfl⟩;erw[0,q]
end
def wB:List Str:=["not","and","or","odd","same"]
theorem vP{o:Str}(h:o∈joinW):o∈wB:=qK0 _ h
def Tr.without(x:Str):Tr->Tr
 | .is y=>if y=x then .no else .is y
 | .yes=>.yes
 | .no=>.no
 | .not a=>.not (a.without x)
 | .bin w a b=>.bin w (a.without x) (b.without x)
theorem pH(x:Str):∀t:Tr,(t.without x).size=t.size
 | .is y=>by unfold Tr.without;split <;> rfl
 | .yes=>rfl
 | .no=>rfl
 | .not a=>by show(a.without x).size+1=a.size+1;rw[pH x a]
 | .bin w a b=>by show(a.without x).size+(b.without x).size+1=_;rw[pH x a,pH x b];rfl
theorem lK(x:Str):∀t:Tr,(t.without x).depth=t.depth
 | .is y=>by unfold Tr.without;split <;> rfl
 | .yes=>rfl
 | .no=>rfl
 | .not a=>by show(a.without x).depth+1=a.depth+1;rw[lK x a]
 | .bin w a b=>by show max (a.without x).depth (b.without x).depth+1=_;rw[lK x a,lK x b];rfl
theorem yu{ns:List Str}{x:Str}:∀t:Tr,t.ok (ns++[x])->(t.without x).ok ns
 | .is y,h=>by
   unfold Tr.without
   split
   . trivial
   . rename_i c;have h:y∈ns++[x]:=h;rcases qH0 h with h | h
     . exact h
     . exact absurd (zN0 h) c
 | .yes,_=>trivial
 | .no,_=>trivial
 | .not a,h=>yu a h
 | .bin w a b,⟨h1,h2,h3⟩=>%[h1,yu a h2|yu b h3]
theorem uD (o:Str):inV (.str o) [.str "yes",.str "no",.str "is"]=(decide (o="yes")||(decide (o="no")||decide (o="is"))):=by
 show (("yes"==o)||(("no"==o)||(("is"==o)||false)))=_;rw[Bool.or_false];have e:∀z:Str,(z==o)=decide (o=z):=λz=>by
  by_cases c:o=z
  . subst c;simp
  . rw[decide_eq_false c];simpa using λh=>c h.symm
 rw[e,e,e]
theorem Fm {o:Str} (h:o∈wB):inV (.str o) [.str "yes",.str "no",.str "is"]=false:=by
 rw[uD,decide_eq_false,decide_eq_false,decide_eq_false]
 . rfl
 . intro z;subst z;revert h;decide
 . intro z;subst z;revert h;decide
 . intro z;subst z;revert h;decide
def isD(x:Str):Tr->Bool
 | .is y=>decide (y=x)
 | _=>false
theorem Hv (t:Tr) (x:Str) (w:t.wf):PyData.eqv t.data (.tuple [.str "is",.str x])=isD x t:=by
 cases t with
 | is y=>
   simp only[Tr.data,PyData.eqv,PyData.eqvAll,isD,Bool.and_true]
   by_cases c:y=x
   . subst c;simp
   . simp [c]
 | yes=>simp [Tr.data,PyData.eqv,PyData.eqvAll,isD]
 | no=>simp [Tr.data,PyData.eqv,PyData.eqvAll,isD]
 | not a=>
   have:(("not":Str)=="is")=false:=by decide
   simp only[Tr.data,PyData.eqv,PyData.eqvAll,isD,this,Bool.false_and]
 | bin o a b=>simp [Tr.data,PyData.eqv,PyData.eqvAll,isD]
theorem oH{t:Tr}(w:t.wf)(d:t.depth<=20):SeqAt.shaped t.data=true:=by
 have h:=pR t w;simp only[SeqAt.shaped,h.1,Bool.true_and];exact decide_eq_true #[0]
theorem wP  (h:oE x):SeqAt.shaped (.tuple [.str "is",.str x])=true:=oH (t:=.is x) h (by show 1<=20;decide)
inductive spWo(n:Nat)(vs:List V)(H:Hp)(Q:VK)(u_3:XK):Prop
 |mk:∀(v:V)(t:Tr)(x:Str),vs=[v,.str x]->TreeAt H v t->t.wf->oE x->t.depth<=n->t.depth<=10->(∀(v':V)(H':Hp),Same H H'->TreeAt H' v' (t.without x)->Q v' H')->spWo n vs H Q u_3
theorem sZ:FnScope ["_law_tree_here","_law_name"] ["_law_tree_here","_law_name"] (ai iz):=%[1,1,1,4,1,4|4]
theorem DO(o:V):∀us:List V,us≠[]->kR (o::us) none (some 1)=[o]/\¬ (HT.sIx (o::us).length 0 none=0/\HT.sIx (o::us).length (o::us).length (some 1)=(o::us).length)
 | [],h=>absurd rfl h
 | u::us,_=>by
   have e:HT.sIx (o::u::us).length (o::u::us).length (some 1)=1:=by
    have h:=HT.sIx_nat (o::u::us).length (o::u::us).length 1;rw[zM0,zM0,Nat.min_eq_left #[0]]at h;exact h
   erw[6,λz=>?_]
   . unfold kR;rw[HT.sIx_none,e];rfl
   . rw[e,zM0,zM0]at z;omega
theorem Ea {H:Hp} {a:Addr} {o:Str}  {t:Tr} {us:List V} (h:∃xs,t.parts.length=xs/\1<=xs) (nt:(∃r,t=.not r/\o="not")∨∃r r2,t=.bin o r r2) (ha:H a=some (.tup (.str o::us))) (TS:TreesAt H us (t.parts.map (Tr.without x))):TreeAt H (.ref a) (t.without x):=by
 rcases nt with⟨r,rfl,rfl⟩ | ⟨r,r2,rfl⟩
 . cases TS with
   | cons g r=>cases r;exact .not ha g
 . cases TS with
   | cons g r=>cases r with
     | cons g2 r=>cases r;exact .bin ha g g2
theorem DZ {n:Nat}   (F:Fun K "_law_without" "_law_without" iz f fd) (B:Bl mg) (gg:Cal P w K mg base (n+2) "_law_without" ["_law_tree_here","_law_name"] (spWo n)):FnOk P w K mg base CX0 (n+3) f fd ["_law_tree_here","_law_name"] (spWo (n+1)):=by
 exists sZ
 erw[v,t,x,1,T,wf,nx,dn,d10,q]at h;refine⟨_,(aa (aG (ah (ui hr.units) (pv 0) (aF %[au,1|aO]) (ax _)) (ad (aq (aF %[au|aO]))) az)
  (aa (aG (ah fQ (aJ ix_tup (pv 0) ae (λ_ _=>rfl)) (aF %[au,au,au|aO]) (by rfl')) (ad (aq (pv 0))) az)
  (ad (aq (ao op_catT (eR qk (pv 0) jt (eP ae)) (bi ba rfl B.tuple bd (af (cz (N:=["_law_name"]) (ix:=[1]) rfl
   (CompScope.one (by rfl') ⋯ rfl ⋯ rfl ⋯ (by rfl') (by rfl') (by rfl') rfl rfl) rfl
   (ii (eR qk (pv 0) (eP ae) jt)) (λ_ _ _=>cG (ag gg hr (zH0 _) rfl %[0,1|aO]))) aO))))))),?_⟩
 erw[0,0,(by show 2<=sizeLine;decide),λc hc=>?_];have I1:=zB0 hc (.tup [.str "is",.str x]);have g1:upd H c (.tup [.str "is",.str x]) c=some (.tup [.str "is",.str x]):=aI;generalize upd H c (.tup [.str "is",.str x])=H1 at I1 g1;have T1:=T.mono (aX I1);erw[t.data,.tuple [.str "is",.str x],BR T1,.tup (zC0 g1) (.cons (.str _) (.cons (.str _) .nil)),oH wf #[0],wP nx,0,6];rw[Hv t x wf];have cs:t=.is x∨(∃(a:Addr) (o:Str) (us:List V),v=.ref a/\H1 a=some (.tup (.str o::us))/\inV (.str o) [.str "yes",.str "no",.str "is"]=true/\t.without x=t/\isD x t=false)∨(∃(a:Addr) (o:Str) (us:List V),v=.ref a/\H1 a=some (.tup (.str o::us))/\o∈wB/\us.length<=2/\us≠[]/\TreesAt H1 us t.parts/\((∃r,t=.not r/\o="not")∨∃r r2,t=.bin o r r2)/\isD x t=false):=by
  cases id T1 with
  | @is a y e=>
    by_cases c:y=x
    . exact .inl (by rw[c])
    . exact .inr (.inl %[a,"is",0,e,by rw[uD];decide,zA0 c|decide_eq_false c])
  | @yes a e=>exact .inr (.inl %[a,"yes",0,e,by rw[uD];decide,1|1])
  | @no a e=>exact .inr (.inl %[a,"no",0,e,by rw[uD];decide,1|1])
  | @not a u r e g=>exact .inr (.inr %[a,"not",[u],1,e,4,(by show 1<=2;decide),by simp,.cons g .nil,.inl %[r,1|1]|1])
  | @bin a o u u2 r r2 e g g2=>exact .inr (.inr %[a,o,[u,u2],1,e,vP wf.1,(by show 2<=2;decide),by simp,.cons g (.cons g2 .nil),.inr %[r,r2|1]|1])
 rcases cs with rfl | ⟨a,o,us,rfl,e2,e3,e4,eD⟩ | ⟨a,o,us,rfl,e2,om,ul,u0,TS0,nt,eD⟩
 . rw[show isD x (.is x)=true from decide_eq_true rfl];refine ei %[(by show 1<=sizeLine;decide)|λz hz=>q (.ref z) _ (I1.trans (zB0 hz _)) ?_];rw[show(Tr.is x).without x=.no from zD0 rfl];exact .no aI
 . rw [eD];refine cW ?_;erw[0,a,_,(0),.str o,1,1,zC0 e2,at0 ..,(by show 3<=sizeLine;decide),λc2 hc2=>?_];have I2:=zB0 hc2 (.tup [.str "yes",.str "no",.str "is"]);erw[c2,0,.inr (zC0 aI),1,1,0,6];show if inV (.str o) [.str "yes",.str "no",.str "is"]=true then _ else _
   rw[e3];refine ei %[0|q _ _ (I1.trans I2) ?_];rw[e4];exact T1.mono (aX I2)
 . rw [eD];refine cW ?_;erw[0,a,_,(0),.str o,1,1,zC0 e2,at0 ..,(by show 3<=sizeLine;decide),λc2 hc2=>?_];have I2:=zB0 hc2 (.tup [.str "yes",.str "no",.str "is"]);erw[c2,0,.inr (zC0 aI),1,1,0,6];show if inV (.str o) [.str "yes",.str "no",.str "is"]=true then _ else _
   rw[Fm om];refine cW ?_;generalize upd H1 c2 (.tup [.str "yes",.str "no",.str "is"])=H2 at I2;erw[0,(1),1,a,0,zC0 (I2 _ _ e2),(DO (.str o) us u0).2,λc3 hc3=>?_];rw[(DO (.str o) us u0).1];have I3:=zB0 hc3 (.tup [.str o]);have g3:upd H2 c3 (.tup [.str o]) c3=some (.tup [.str o]):=aI;generalize upd H2 c3 (.tup [.str o])=H3 at I3 g3;have I13:=I2.trans I3;let%[w1|w2]:=HG (.str o) us ul;erw[0,(1),1,a,0,zC0 (I13 _ _ e2),w2,λc4 hc4=>?_];rw[w1];have I4:=zB0 hc4 (.tup us);have g4:upd H3 c4 (.tup us) c4=some (.tup us):=aI;generalize upd H3 c4 (.tup us)=H4 at I4 g4;have I14:=I13.trans I4;have TS:=TS0.mono (aX I14);have xl:=TS.length;erw[c4,1,%[_|zC0 g4],λD hD=>?_];refine gy (K:=K) (xs:=us) (λi H'=>∃vs:List V,H' D=some (.lst vs)/\vs.length=i/\TreesAt H' vs ((t.parts.take i).map (Tr.without x))/\Same H4 H') %[[],by rw[aI],1,.nil|zB0 hD _] (λi H' _ hst=>by erw[_,_,_,_,h]at hst;exact zC0 (h _ _ g4)) ?_ ?_
   . rintro i z H5 hz ⟨vs,hl,vl,TV,S5⟩;let%[u,hu'|Tu]:=TS.get hz;have um:=qF0 hu';let%[uw,ud|us']:=Tr.parts_mem um wf;have hi:i<us.length:=(zW0 hz).1;erw[0,0,z,u,x,1,Tu.mono (aX S5),uw,nx,3,3,λv' H6 S6 T6=>?_];have hl6:=S6 _ _ hl;have k7:=di (H:=H6) (b:=D) (ys:=vs) (zs:=vs++[v']) hl6;erw[_,hl6,aM #[0],Nx.of hi ⟨vs++[v'],aI,by rw[zJ0,vl];rfl,?_,λb' o' e'=>?_⟩]
     . rw[qI0,hu',zK0];exact((TV.mono (aX S6)).mono k7).append (.cons (T6.mono k7) .nil)
     . rw[bh (aV e' hD)];exact S6 _ _ (S5 _ _ e')
   . rintro H5 ⟨vs,hl,vl,TV,S5⟩;rw[xl,qG0]at TV;erw[D,0,.inl %[zG0 hl|λc6 hc6=>?_]];have I6:=zB0 hc6 (.tup vs);have g6:upd H5 c6 (.tup vs) c6=some (.tup vs):=aI;generalize upd H5 c6 (.tup vs)=H6 at I6 g6;have v0:vs≠[]:=λz=>by
      rw[z]at vl;exact u0 (List.eq_nil_of_length_eq_zero vl.symm)
     have S36:Same H3 H6:=I4.trans (S5.trans I6);erw[c3,c6,2,zC0 (S36 _ _ g3),zC0 g6,by simp,ca (by show 1+vs.length<=1000;omega),λz=>absurd z v0,λ_ t7 ht7=>?_];have I7:=zB0 ht7 (.tup ([.str o]++vs));refine q (.ref t7) _ (I1.trans (I13.trans (I4.trans (S5.trans (I6.trans I7))))) ?_;exact Ea ⟨_,rfl,by rw[←xl];cases us with | nil=>exact absurd rfl u0 | cons _ _=>exact Nat.succ_le_succ (zT0 _)⟩ nt (by rw[aI];rfl) ((TV.mono (aX I6)).mono (aX I7))
theorem DY  :FnOk P w K mg base CX0 2 f fd ["_law_tree_here","_law_name"] (spWo 0):=by
 have no:∀vs H Q E,¬ spWo 0 vs H Q E:=λvs H Q E h=>by
  erw[v,t,x,_,_,_,_,h1,_]at h
  have:=t.depth_pos
  omega
 erw[λvs H Q E h=>absurd h (no vs H Q E),λA outer s H args us vs Q E _ _ _ _ h=>absurd h (no vs H Q E)]
theorem my   (F:Fun K "_law_without" "_law_without" iz f fd) (m:mg "_law_without"=some (.ref f)) (B:Bl mg) :
 ∀n:Nat,FnOk P w K mg base CX0 (n+2) f fd ["_law_tree_here","_law_name"] (spWo n)
 | 0=>DY
 | n+1=>DZ F B (Cal.of F (my F m B n) m (λ_ _ _ _ _ _ us hl=>by let%[u0,u1|1]:=Fi hl;rfl))
section
structure SmallG(ns:List Str)(ts:List Tr)(p:Int):Prop where
 nl:ns.length<=3
 nok:∀x∈ns,oE x
 nd:ns.Nodup
 t1:1<=ts.length
 t4:ts.length<=3
 tok:∀t∈ts,t.ok ns/\t.depth<=9/\t.size<=8
 pp:Pr p
 p2:2<p
 p9:p<=61
 tp:(ts.length:Int)<=p
 tc:∀t∈ts,∀x∈ns,(t.names.count x:Int)<p
theorem SmallG.wf{ns:List Str}{ts:List Tr}(nok:∀x∈ns,oE x)(tok:∀t∈ts,t.ok ns/\t.depth<=9/\t.size<=8):∀t∈ts,t.wf/\t.depth<=10/\t.size<=400:=λt ht=>%[Tr.ok_wf nok t (tok t ht).1,by have:=(tok t ht).2.1;omega|by have:=(tok t ht).2.2;omega]
theorem Ge{ns:List Str}{x:Str}{ts:List Tr}(tok:∀t∈ts,t.ok (ns++[x])/\t.depth<=9/\t.size<=8):∀t∈ts.map (Tr.without x),t.ok ns/\t.depth<=9/\t.size<=8:=λt ht=>by
 let%[u,hu|1]:=List.mem_map.mp ht;let%[h1,h2|h3]:=tok u hu;erw[yu u h1,by rw[lK];exact h2,by rw[pH];exact h3]
theorem SmallG.k(h:SmallG ns ts p):GmK ns ts p:=%[h.pp,h.p2,by have:=h.p9;omega,by have:=h.nl;omega,h.t1,by have:=h.t4;omega,λt ht=>%[(h.tok t ht).1|SmallG.wf h.nok h.tok t ht],h.tp|h.tc]
theorem DN(xs:List V)(a:V):kR (xs++[a]) none (some (-1))=xs:=by
 simp only[kR,HT.sIx,zJ0,zM0,List.length_nil];have e:(-1+(((xs.length+(0+1):Nat)):Int)).toNat=xs.length:=by omega
 simp
 have e2:(-1+((xs.length:Int)+1)).toNat=xs.length:=by omega
 rw[e2]
 simp
theorem Fw(xs:List V)(a:V):atI (xs++[a]) (-1)=some a:=by
 unfold atI ixN;rw[zJ0,qM0];have e2:(-1+(((xs.length+1:Nat)):Int)).toNat=xs.length:=by omega
 rw[zA0 ⋯,zD0 #[0],e2];show(xs++[a])[xs.length]?=some a
 simp
theorem yM{ns:List Str}{ts:List Tr}{m:Int}(t1:1<=ts.length)(t3:ts.length<=3)(tok:∀t∈ts,t.ok ns/\t.depth<=9/\t.size<=8)(e:xP (ns.map (bz ts)++[2,(ts.length:Int)-1]) 0=m):2<=m/\m<=8/\(ns=[]->m=2)/\(ts.length:Int)<=m+1/\∀t∈ts,∀x∈ns,(t.names.count x:Int)<=m:=by
 have t0:ts≠[]:=λz=>by rw[z]at t1;cases t1
 have d8:∀x,bz ts x<9:=λx=>kj t0 λt ht=>by
  have h1:=List.count_le_length (a:=x) (l:=t.names);have h2:=t.names_len;have h3:=(tok t ht).2.2;omega
 have ge:∀z∈ns.map (bz ts)++[2,(ts.length:Int)-1],z<=m:=λz hz=>by rw[←e];exact uB hz
 have mm:=iL (ns:=ns.map (bz ts)++[2,(ts.length:Int)-1]) (by simp);rw[e]at mm;have m2:=ge 2 (by simp);have ml:=ge ((ts.length:Int)-1) (by simp);erw[m2,6,λz=>?_,3,λt ht x hx=>?_]
 . rcases qH0 mm with h | h
   . let%[x,_|1]:=List.mem_map.mp h
     have:=d8 x
     omega
   . simp only[List.mem_cons,List.not_mem_nil,or_false]at h;omega
 . subst z;simp only[List.map_nil,List.nil_append,List.mem_cons,List.not_mem_nil,or_false]at mm;omega
 . have h1:=ge (bz ts x) (List.mem_append_left _ (List.mem_map.mpr %[x,hx|1]));have h2:(t.names.count x:Int)<=bz ts x:=uB (List.mem_map.mpr ⟨t,ht,rfl⟩);omega
theorem pr_3:Pr 3:=jr ⋯
theorem pr_5:Pr 5:=jr ⋯
theorem pr_7:Pr 7:=jr ⋯
theorem FN:Pr 11:=jr ⋯
theorem FM:Pr 61:=jr ⋯
inductive spSmall(vs:List V)(H:Hp)(Q:VK)(u_3:XK):Prop
 |mk:∀(f:Addr)(most:Int),vs=[.ref f,.int most]->FeedAt H f->20<=most->most<=60->(∀(g a b:Addr)(ns:List Str)(tv:List V)(ts:List Tr)(p:Int)(H':Hp),H' g=some (.tup [.ref a,.ref b,.int p])->H' a=some (.tup (ns.map V.str))->H' b=some (.tup tv)->TreesAt H' tv ts->SmallG ns ts p->p ^ bu ns ts<=60->SameBut f H H'->Q (.ref g) H')->spSmall vs H Q u_3
theorem c9:FnScope ["_law_feed_here","_law_most","_law_names_here","_law_trees","_law_field_here","_law_k"] ["_law_feed_here","_law_most"] (ai nU):=%[1,1,1,4,1,4|4]
inductive tS54(K:W.Frag)(Dn:Ends)(σ:St)(H:Hp):Prop
 |mk:∀(f na ta:Addr)(most p:Int)(ns:List Str)(tv:List V)(ts:List Tr)(x5:Option V)(H0:Hp),σ=[some (.ref f),some (.int most),some (.ref na),some (.ref ta),some (.int p),x5]->FeedAt H f->20<=most->most<=60->H na=some (.lst (ns.map V.str))->H ta=some (.lst tv)->na≠f->ta≠f->TreesAt H tv ts->SmallG ns ts p->p<=11->(ns=[]->p<=3)->SameBut f H0 H->(∀(g a b:Addr)(ns:List Str)(tv:List V)(ts:List Tr)(p:Int)(H':Hp),H' g=some (.tup [.ref a,.ref b,.int p])->H' a=some (.tup (ns.map V.str))->H' b=some (.tup tv)->TreesAt H' tv ts->SmallG ns ts p->p ^ bu ns ts<=60->SameBut f H0 H'->Dn.rt (.ref g) H')->tS54 K Dn σ H
theorem we{ns:List Str}{ts:List Tr}{tv:List V}(t1:1<=ts.length)(vl:tv.length=ts.length):(((ns.map V.str).length:Nat):Int)+(if decide ((tv.length:Int)>1)=true then 1 else 0)=(bu ns ts:Int):=by
 rw[zE0,vl];unfold bu
 by_cases c:ts.length=1
 . rw[zD0 c,zA0 (by rw[decide_eq_false #[0]];decide)];omega
 . rw[zA0 c,zD0 (decide_eq_true #[0])];omega
theorem xy   (F:Fun K "_law_small" "_law_small" nU f fd) (B:Bl mg) (aW:Cal P w K mg base 1 "_law_take" ["_law_feed_here","_law_many"] spTake) (eX:Cal P w K mg base 2 "_law_names" ["_law_feed_here","_law_many"] spNamesN)
 (e9:Cal P w K mg base 12 "_law_tree" ["_law_feed_here","_law_names_here","_law_room","_law_deep"] (spTree 10)) (iT:Cal P w K mg base 13 "_law_degrees" ["_law_names_here","_law_trees"] spLDeg) (gO:Cal P w K mg base 2 "_law_field" ["_law_need"] spFd54) (iU:Cal P w K mg base 1 "_law_rows_in" ["_law_field_here","_law_coins"] spPow) (gg:Cal P w K mg base 12 "_law_without" ["_law_tree_here","_law_name"] (spWo 10)):FnOk P w K mg base CX0 14 f fd ["_law_feed_here","_law_most"] spSmall:=by
 exists c9
 erw[f,most,1,hF,mo2,mo6,q]at h;have s2:2<=sizeLine:=by decide
 refine⟨_,(aa (aj (i:=2) c9.nd rfl (Or.inr rfl) (ag eX hr ⋯ rfl %[0,ag aW hr ⋯ rfl %[0,ae|aO]|aO]))
  (aa (pJ (i:=3) (N:=["_law_names_here","_law_feed_here"]) (ix:=[2,0]) c9.nd rfl (.inl rfl) rfl
   (CompScope.two (by rfl') ⋯ rfl ⋯ rfl ⋯ (by first | exact Or.inl rfl | exact Or.inr rfl) (by rfl') (by rfl') (by rfl') (by rfl') rfl rfl (by rfl') rfl rfl) rfl
   (bO rfl B.range %[aJ ix_list (dy %[ae,ae,ae,ae|aO]) (ag aW hr ⋯ rfl %[0,ae|aO]) (λ_ _=>rfl)|aO])
   (λ_ _ _=>cG (ag e9 hr ⋯ rfl %[2,1,ao aQ ae (ag aW hr ⋯ rfl %[2,ae|aO]),ae|aO])))
  (aa #[aj,4,c9,ag gO hr ⋯ rfl %[aE (iR rfl) rfl B.max PyProof.Rows.boot_max %[ao kf (ag iT hr ⋯ rfl %[2,3|aO]) (dy %[ae,ao bm (aE aD rfl B.len PySem.boot_len %[3|aO]) ae|aO])|aO]|aO]]
  (iA (t':=tS54 K) (aa (gt PassesOwn.never (ah gK (ag iU hr ⋯ rfl %[4,ao aQ (aE aD rfl B.len PySem.boot_len %[2|aO]) (bi sM rfl B.int gZ %[eU gK (aE aD rfl B.len PySem.boot_len %[3|aO]) ae (ax _)|aO])|aO]) (pv 1) (ax _)) (aa (pJ (i:=3) (N:=["_law_names_here"]) (ix:=[2]) c9.nd rfl (.inl rfl) rfl
   (CompScope.one (by rfl') ⋯ rfl ⋯ rfl ⋯ (by rfl') (by rfl') (by rfl') rfl rfl) rfl
   (eQ (pv 3)) (λ_ _ _=>cG (ag gg hr ⋯ rfl %[0,aJ (vQ K) (pv 1) (vk pX ae) (λ_ _=>rfl)|aO])))
   (aa (aj (i:=2) c9.nd rfl (Or.inr rfl) (eR Et (pv 2) jt (eP (vk pX ae))))
   (ad #[aj,4,c9,ag gO hr ⋯ rfl %[aE (iR rfl) rfl B.max PyProof.Rows.boot_max %[ao kf (ag iT hr ⋯ rfl %[2,3|aO]) (dy %[ae,ao bm (aE aD rfl B.len PySem.boot_len %[3|aO]) ae|aO])|aO]|aO]]))))
  (aa (cv PassesOwn.never rfl (bO rfl B.range %[ag aW hr ⋯ rfl %[0,ae|aO]|aO]) (bb (i:=5) c9.nd rfl (.inl rfl)) (ad (aG (ah oN (ag iU hr ⋯ rfl %[ag gO hr ⋯ rfl %[4|aO],ao aQ (aE aD rfl B.len PySem.boot_len %[2|aO]) (bi sM rfl B.int gZ %[eU gK (aE aD rfl B.len PySem.boot_len %[3|aO]) ae (ax _)|aO])|aO]) (pv 1) (ax _)) (ad #[aj,4,c9,ag gO hr ⋯ rfl %[4|aO]]) az)))
  (ad (aq (aF %[bi ba rfl B.tuple bd %[2|aO],bi ba rfl B.tuple bd %[3|aO],4|aO]))))) ?cS)))),?_⟩
 case cS =>
  rintro Dn σ H ⟨f,na,ta,most,p,ns,tv,ts,x5,H0,rfl,FH,mo2,mo6,hna,hta,naf,taf,TS,SG,p11,p3,S0,q⟩;erw[λmm σ H'=>∃(na ta:Addr)(p:Int)(ns:List Str)(tv:List V)(ts:List Tr),σ=[some (.ref f),some (.int most),some (.ref na),some (.ref ta),some (.int p),x5]/\FeedAt H' f/\H' na=some (.lst (ns.map V.str))/\H' ta=some (.lst tv)/\na≠f/\ta≠f/\TreesAt H' tv ts/\SmallG ns ts p/\p<=11/\(ns=[]->p<=3)/\SameBut f H0 H'/\mm=ns.length,%[_,na,ta,p,ns,tv,ts,1,FH,hna,hta,naf,taf,TS,SG,p11,p3,S0|1],6];clear hna hta naf taf TS SG p11 p3 S0 FH;rintro mm σ H' ⟨na,ta,p,ns,tv,ts,rfl,FH,hna,hta,naf,taf,TS,SG,p11,p3,S0,rfl⟩;have p2:=SG.p2;have t1:=SG.t1;have t4:=SG.t4;have n5:=SG.nl;have vl:=TS.length;have cn:bu ns ts<=4:=by unfold bu;split <;> omega
  erw[0,0,na,0,.inl (zG0 hna),0,ta,0,.inl (zG0 hta),2,.inr %[0,2,p,(bu ns ts:Int),by rw[←we t1 vl];rfl,3,3,3,3|6]];rw[qO0];erw[0,2,0,6]
  by_cases c1:p ^ bu ns ts>most
  . refine aS c1 ?_;erw[_,λ_ _ h=>h,6];have nz:ns≠[]:=λz=>by
     have:=p3 z
     have e:bu ns ts=0∨bu ns ts=1:=by unfold bu;rw[z];split;exact .inl rfl;exact .inr rfl
     rcases e with e | e
     . rw[e,Int.pow_zero]at c1;omega
     . rw[e,Int.pow_succ,Int.pow_zero]at c1;omega
    obtain⟨ns',x,rfl⟩:∃ns' x,ns=ns'++[x]:=%[ns.dropLast,ns.getLast nz|(List.dropLast_concat_getLast nz).symm]
    have nok':∀y∈ns',oE y:=λy hy=>SG.nok y (List.mem_append_left _ hy)
    have nx:oE x:=SG.nok x (qS0 _ (List.mem_singleton.mpr rfl));have wfs:=SmallG.wf SG.nok SG.tok;erw[0,ta,1,%[_|zG0 hta],λD hD=>?_];refine gY (K:=K) (xs:=tv) (λu H2=>∃vs:List V,H2 D=some (.lst vs)/\TreesAt H2 vs ((ts.take u).map (Tr.without x))/\vs.length=u/\Same H' H2) %[[],aI,.nil,1|zB0 hD _] (λu H' _ hst=>by erw[_,_,_,_,h]at hst;exact zG0 (h _ _ hta)) ?_ ?_
    . rintro u y H7 hy ⟨vs,hD7,TV,vl7,S7⟩;let%[t,ht|Tt]:=TS.get hy;have tm:=qF0 ht;let%[tw,td|_]:=wfs t tm;have hu:u<tv.length:=(zW0 hy).1;erw[0,0,(1),1,na,_,(-1),0,1,zG0 (S7 _ _ hna),6,y,t,x,1,Tt.mono (aX S7),tw,nx,td,td,λv' H8 S8 T8=>?_]
      . rw[zK0];exact Fw _ _
      have hD8:=S8 _ _ hD7;have k9:=di (H:=H8) (b:=D) (ys:=vs) (zs:=vs++[v']) hD8;erw[_,hD8,aM #[0],Nx.of hu ⟨vs++[v'],aI,?_,by rw[zJ0,vl7];rfl,λb' o' e'=>?_⟩]
      . rw[qI0,ht,zK0];exact((TV.mono (aX S8)).mono k9).append (.cons (T8.mono k9) .nil)
      . rw[bh (aV e' hD)];exact S8 _ _ (S7 _ _ e')
    rintro H7 ⟨vs,hD7,TV,vl7,S7⟩;rw[vl,qG0]at TV;erw[0,(1),1,(-1),1,na,0,zG0 (S7 _ _ hna),λnb hnb=>?_];rw[zK0,List.map_singleton,DN];have I8:=zB0 hnb (.lst (ns'.map V.str));have g8:upd H7 nb (.lst (ns'.map V.str)) nb=some (.lst (ns'.map V.str)):=aI;have nbf:=(FH.same S7).ne hnb;generalize upd H7 nb (.lst (ns'.map V.str))=H8 at I8 g8;have Df:=FH.ne hD;have tok':=Ge SG.tok;have tml:(ts.map (Tr.without x)).length=ts.length:=zE0 _;have nl':(ns'++[x]).length=ns'.length+1:=by rw[zJ0,qM0]
    have hD8:=I8 _ _ hD7;have TV8:=TV.mono (aX I8);erw[0,0,nb,D,ns',vs,(ts.map (Tr.without x)),1,g8,hD8,TV8,3,3,3,(SmallG.wf nok' tok'),λl1 G1 l10 S1' hl1=>?_];erw[0,D,0,.inl (zG0 (S1' _ _ hD8)),2,s2,λl2 hl2=>?_];have I2':=zB0 hl2 (.lst [.int 2,.int ((vs.length:Nat)-1:Int)]);have e2':upd G1 l2 (.lst [.int 2,.int ((vs.length:Nat)-1:Int)]) l2=_:=aI;generalize upd G1 l2 (.lst [.int 2,.int ((vs.length:Nat)-1:Int)])=G2 at I2' e2';erw[l1,l2,2,I2' _ _ hl1,e2',6,λl3 hl3=>?_]
    . rw[zE0,zE0];exact ca (by show ns'.length+2<=1000;omega)
    have I3':=zB0 hl3 (.lst ((ns'.map (bz (ts.map (Tr.without x)))).map V.int++[.int 2,.int ((vs.length:Nat)-1:Int)]));have e3':upd G2 l3 (.lst ((ns'.map (bz (ts.map (Tr.without x)))).map V.int++[.int 2,.int ((vs.length:Nat)-1:Int)])) l3=some (.lst ((ns'.map (bz (ts.map (Tr.without x)))++[2,((ts.map (Tr.without x)).length:Int)-1]).map V.int)):=by
     rw[aI,zK0,TV8.length];rfl
    generalize upd G2 l3 (.lst ((ns'.map (bz (ts.map (Tr.without x)))).map V.int++[.int 2,.int ((vs.length:Nat)-1:Int)]))=G3 at I3' e3';have J3':=S1'.trans (I2'.trans I3');erw[l3,0,zG0 e3',by simp,6];let%[m2,m8,me,mt|mc]:=yM #[0] #[0] tok' rfl;erw[0,m2,3,λp pp mp pc=>?_];have p11:=pc 11 FN #[0];have S89:=I8.trans J3';have S79:=S7.trans S89;erw[_,by rw[nl'];omega,nb,D,p,ns',vs,ts.map (Tr.without x),1,FH.same S79,J3' _ _ g8,J3' _ _ hD8,nbf,Df,TV8.mono (aX J3'),%[3,nok',(List.nodup_append.mp SG.nd).1,3,3,tok',pp,3,3,3|λt ht y hy=>by have:=mc t ht y hy;omega],p11,λe=>pc 3 pr_3 (by have:=me e;omega),S0.trans (zI0 S79),1]
  . refine aB c1 ?_;erw[0,f,(3),1,FH,4,4,λd H2 d0 d3 F2 B2=>?_];have hna2:=B2 _ _ naf hna;have hta2:=B2 _ _ taf hta;have TS2:=TS.mono (aZ FH B2);have S02:=S0.trans B2;erw[d,1,3,3,dj (λi σ H'=>∃(p:Int)(x5:Option V),σ=[some (.ref f),some (.int most),some (.ref na),some (.ref ta),some (.int p),x5]/\H'=H2/\SmallG ns ts p/\p ^ bu ns ts<=most/\(bu ns ts=0->p<=3+2*(i:Int))) %[p,0,1,SG,3|λe=>?_] ?_ ?_]
    . have:ns=[]:=by
       unfold bu at e
       split at e
       . exact List.length_eq_zero_iff.mp e
       . omega
      have:=p3 this
      omega
    . clear p2 p11 p3 SG c1;rintro i σ H3 hi ⟨p,x5,rfl,rfl,SG,c1,ce⟩;have hi':i<d.toNat:=hi;have d3':d<3:=d3;have p2:=SG.p2;have p9:=SG.p9;erw[0,p,1,3,3,λp' pp' mp' pc'=>?_];have p60:1<=bu ns ts->p<=60:=λh=>by
       obtain⟨n,e⟩:∃n,bu ns ts=n+1:=%[bu ns ts-1|3]
       rw[e,Int.pow_succ]at c1;have h1:0<p ^ n:=Int.pow_pos #[0];have h2:=Int.mul_le_mul_of_nonneg_right (show 1<=p ^ n by omega) (show 0<=p by omega);omega
      have q61:p'<=61:=by
       by_cases c0:bu ns ts=0
       . have:=ce c0
         have:=pc' 61 FM #[0]
         omega
       . have:=p60 #[0]
         exact pc' 61 FM #[0]
      erw[0,na,0,.inl (zG0 hna2),0,ta,0,.inl (zG0 hta2),2,.inr %[0,2,p',(bu ns ts:Int),by rw[←we t1 vl];rfl,3,3,3,3|6]];rw[qO0];erw[0,2,0,6]
      by_cases c2:p' ^ bu ns ts<=most
      . refine aS c2 ?_;erw[0,p,1,3,3,λp'' pp'' mp'' pc''=>?_];have e:p''=p':=by
         have:=pc'' p' pp' mp'
         have:=pc' p'' pp'' mp''
         omega
        subst e;have ce':bu ns ts=0->p''<=3+2*((i+1:Nat):Int):=λc0=>by
         have:=ce c0
         by_cases c3:p<=3
         . have:=pc' 5 pr_5 #[0]
           omega
         . have:=pc' 7 pr_7 #[0]
           omega
        erw[p'',0,1,%[SG.nl,SG.nok,SG.nd,SG.t1,SG.t4,SG.tok,pp',3,q61,by have:=SG.tp;omega|λt ht y hy=>by have:=SG.tc t ht y hy;omega],c2,ce']
      . exact aB c2 %[p,0,1,SG,c1|λc0=>by have:=ce c0;omega]
    . rintro σ H3 ⟨p,x5,rfl,rfl,SG,c1,_⟩;erw[0,na,0,.inl %[zG0 hna2|λa ha=>?_]];have Ga:=zB0 ha (.tup (ns.map V.str));erw[0,ta,0,.inl %[zG0 (Ga _ _ hta2)|λb hb=>?_]];have Gb:=zB0 hb (.tup tv);erw[0,(by show 3<=sizeLine;decide),λg hg=>?_];have Gg:=zB0 hg (.tup [.ref a,.ref b,.int p]);exact q g a b ns tv ts p _ aI (Gg _ _ (Gb _ _ aI)) (Gg _ _ aI) (TS2.mono (aX (Ga.trans (Gb.trans Gg)))) SG #[0] (S02.trans (zI0 (Ga.trans (Gb.trans Gg))))
 erw[0,0,f,(4),1,hF,4,4,λmk H1 k0 k7 F1 S1=>?_];erw[f,mk,1,F1,k0,3,λnl ns H2 nl0 nlf hnl nsl nok nnd F2 S2=>?_];have S02:=S1.trans S2;have nl6:ns.length<=3:=by have:mk<4:=k7;omega
 erw[(by show 4<=sizeLine;decide),λl hl=>?_];have lf:=F2.ne hl;have G2:=zB0 hl (.lst [.int 1,.int 1,.int 2,.int 3]);erw[0,f,(4),1,F2.same G2,4,4,λj H3 j0 j6 F3 S3=>?_];have hl3:=S3 l _ lf aI;let%[x,hx|xm]:=nj (l:=[V.int 1,V.int 1,V.int 2,V.int 3]) (i:=j) j0 (by show j<4;omega);obtain⟨z,rfl,z0,z4⟩:∃z:Int,x=.int z/\1<=z/\z<=3:=by
  simp only[List.mem_cons,List.not_mem_nil,or_false]at xm;rcases xm with h | h | h | h <;> erw[_,h,4,4]
 erw[l,_,2,zG0 hl3,hx,6];have S23:SameBut f H2 H3:=(zI0 G2).trans S3;have hnl3:=S23 nl _ nlf hnl;have S03:=S02.trans S23;erw[z,1,3,3,λD hD=>?_];have Df:=F3.ne hD;have nD:nl≠D:=aV hnl3 hD;have GD:=zB0 hD (.lst []);refine eC (λi H'=>∃(tv:List V)(ts:List Tr),H' D=some (.lst tv)/\TreesAt H' tv ts/\ts.length=i/\(∀t∈ts,t.ok ns/\t.depth<=9/\t.size<=8)/\FeedAt H' f/\SameBut f H3 H') %[[],[],aI,.nil,1,(λt ht=>by cases ht),F3.same GD|zI0 GD] ?_ ?_
 . rintro i H4 hi ⟨tv,ts,hD4,TS,tl,tok,F4,S4⟩;have hi':i<z.toNat:=hi;have hnl4:=S4 nl _ nlf hnl3;erw[0,0,0,f,(7),1,F4,4,4,λe H5 e0 e1 F5 S5=>?_];have hnl5:=S5 nl _ nlf hnl4;have e8:e<7:=e1;erw[2,f,nl,_,_,ns,1,F5,.inl hnl5,3,3,3,4,4,λv t H6 F6 S6 T6 ok6 sz6 dp6=>?_];have S46:=S5.trans S6;have hD6:=S46 D _ Df hD4;have k46:=aZ F4 S46;have vl:=TS.length;erw[_,hD6,aM #[0],Nx.of hi ⟨tv++[v],ts++[t],aI,?_,?_,?_,mQ F6 Df,?_⟩]
   . have k:=di (H:=H6) (b:=D) (ys:=tv) (zs:=tv++[v]) hD6;exact((TS.mono k46).mono k).append (.cons (T6.mono k) .nil)
   . rw[zJ0,qM0,tl]
   . intro u hu;rcases qH0 hu with h | h
     . exact tok u h
     . rw[zN0 h];have d9:(t.depth:Int)<=6:=dp6;have s9:(t.size:Int)<=1+e:=sz6;erw[ok6,3,3]
   . intro b o hb eb;rw[bh (aV eb hD)];exact S46 b o hb (S4 b o hb eb)
 rintro H4 ⟨tv,ts,hD4,TS,tl,tok,F4,S4⟩;have hnl4:=S4 nl _ nlf hnl3;have tl':ts.length=z.toNat:=tl;have tl1:1<=ts.length:=by omega
 have tl4:ts.length<=3:=by omega
 have S04:=S03.trans S4;erw[0,0,nl,D,ns,tv,ts,1,hnl4,hD4,TS,3,3,3,(SmallG.wf nok tok),λl1 G1 l10 S1' hl1=>?_];erw[0,D,0,.inl (zG0 (S1' _ _ hD4)),2,s2,λl2 hl2=>?_];have I2':=zB0 hl2 (.lst [.int 2,.int ((tv.length:Nat)-1:Int)]);have e2':upd G1 l2 (.lst [.int 2,.int ((tv.length:Nat)-1:Int)]) l2=_:=aI;generalize upd G1 l2 (.lst [.int 2,.int ((tv.length:Nat)-1:Int)])=G2 at I2' e2';erw[l1,l2,2,I2' _ _ hl1,e2',6,λl3 hl3=>?_]
 . rw[zE0,zE0];exact ca (by show ns.length+2<=1000;omega)
 have I3':=zB0 hl3 (.lst ((ns.map (bz ts)).map V.int++[.int 2,.int ((tv.length:Nat)-1:Int)]));have e3':upd G2 l3 (.lst ((ns.map (bz ts)).map V.int++[.int 2,.int ((tv.length:Nat)-1:Int)])) l3=some (.lst ((ns.map (bz ts)++[2,(ts.length:Int)-1]).map V.int)):=by
  rw[aI,zK0,TS.length];rfl
 generalize upd G2 l3 (.lst ((ns.map (bz ts)).map V.int++[.int 2,.int ((tv.length:Nat)-1:Int)]))=G3 at I3' e3';have J3':=S1'.trans (I2'.trans I3');erw[l3,0,zG0 e3',by simp,6];let%[m2,m8,me,mt|mc]:=yM #[0] #[0] tok rfl;erw[0,m2,3,λp pp mp pc=>?_];have p11:=pc 11 FN #[0];erw[f,nl,D,most,p,ns,tv,ts,_,H,1,F4.same J3',mo2,mo6,J3' _ _ hnl4,J3' _ _ hD4,nlf,Df,TS.mono (aX J3'),%[nl6,nok,nnd,tl1,tl4,tok,pp,3,3,3|λt ht y hy=>by have:=mc t ht y hy;omega],p11,λe=>pc 3 pr_3 (by have:=me e;omega),S04.trans (zI0 J3'),q]
end
section
inductive spTerm(n:Nat)(vs:List V)(H:Hp)(Q:VK)(u_3:XK):Prop
 |mk:∀(f b:Addr)(bs:List Str)(room deep:Int),vs=[.ref f,.ref b,.int room,.int deep]->FeedAt H f->H b=some (.lst (bs.map V.str))->b≠f->1<=bs.length->bs.length<=100->1<=room->room<=100->1<=deep->deep<=(n:Int)->(∀(v:V)(t:Tm)(H':Hp),TmAt H' v t->t.good->(t.depth:Int)<=deep->FeedAt H' f->SameBut f H H'->Q v H')->spTerm n vs H Q u_3
theorem i4:FnScope ["_law_feed_here","_law_boxes","_law_room","_law_deep","_law_form","_law_plain","_law_more","_law_one"] ["_law_feed_here","_law_boxes","_law_room","_law_deep"] (ai lY):=%[1,1,1,4,1,4|4]
theorem Ev:∀c∈(("+-*/=<":Str)).cps.toList,(%[|#[c]]:Str)∈signW:=by decide
theorem Bx:(("+-*/=<":Str)).cps.toList.length=6:=by decide
theorem at1(x y:V)(xs:List V):atI (x::y::xs) 1=some y:=cD (j:=1) rfl
inductive tLeaf(Dn:Ends)(σ:St)(H:Hp):Prop
 |mk:∀(x2 x3 x5 x6 x7:Option V)(f b:Addr)(bs:List Str)(fm:Int),σ=[some (.ref f),some (.ref b),x2,x3,some (.int fm),x5,x6,x7]->FeedAt H f->H b=some (.lst (bs.map V.str))->b≠f->1<=bs.length->bs.length<=100->(∀(v:V)(t:Tm)(H':Hp),TmAt H' v t->t.good->t.depth=1->FeedAt H' f->SameBut f H H'->Dn.rt v H')->tLeaf Dn σ H
inductive tAskT(n:Nat)(Dn:Ends)(σ:St)(H:Hp):Prop
 |mk:∀(x4 x5 x6 x7:Option V)(f b:Addr)(bs:List Str)(room deep:Int),σ=[some (.ref f),some (.ref b),some (.int room),some (.int deep),x4,x5,x6,x7]->FeedAt H f->H b=some (.lst (bs.map V.str))->b≠f->1<=bs.length->bs.length<=100->2<=room->room<=100->2<=deep->deep<=(n:Int)+1->(∀(v:V)(t:Tm)(H':Hp),TmAt H' v t->t.good->(t.depth:Int)<=deep->FeedAt H' f->SameBut f H H'->Dn.rt v H')->tAskT n Dn σ H
structure PSW(X:Cx)(st:List Stmt)(t:TS):Prop where
 out:PSs X st t
theorem GF{pos:Pos}(hc:PT X c tc)(ha:PSW X a t)(hb:PSs X b u):PS X (.If c a b pos) (Go tc t u):=aG hc ha.out hb
theorem Dg{X:Cx}{i:Nat}{x:Str}{pos' pos p:Pos}{t':TS}(hN:X.N.Nodup)(hi:X.N[i]?=some x)(hx:Loc X.env.scope x)(h1:PE X e1 t1)(h2:PE X e2 t2)(h3:PE X e3 t3)(h4:PE X e4 t4)(h5:PE X e5 t5)(hr:PSs X rest u)
 (hw:∀D σ H,t' D σ H->Gj (El (tLst (sv t1 (sv t2 (sv t3 (sv t4 (sv t5 Bj)))))) (yW i)) u D σ H)
 (s1:starEach [e1,e2,e3,e4,e5] X.env=(false,eval e1 X.env)::starEach [e2,e3,e4,e5] X.env:=by rfl) (s2:starEach [e2,e3,e4,e5] X.env=(false,eval e2 X.env)::starEach [e3,e4,e5] X.env:=by rfl) (s3:starEach [e3,e4,e5] X.env=(false,eval e3 X.env)::starEach [e4,e5] X.env:=by rfl) (s4:starEach [e4,e5] X.env=(false,eval e4 X.env)::starEach [e5] X.env:=by rfl) (s5:starEach [e5] X.env=(false,eval e5 X.env)::starEach [] X.env:=by rfl)
 (hf:X.fn x=true∨X.env.scope.names.lookup x=some .local:=by first | exact .inl rfl | exact .inr rfl):PSW X (.Assign [.Name x pos'] (.List [e1,e2,e3,e4,e5] p) pos::rest) t':=
 %[|iA (aa (aj hN hi hx (dy (af h1 (af h2 (af h3 (af h4 (af h5 aO s5) s4) s3) s2) s1)) rfl hf) hr) hw]
theorem Ei {n:Nat}   (F:Fun K "_law_term" "_law_term" lY fA fd) (B:Bl mg) (aW:Cal P w K mg base 1 "_law_take" ["_law_feed_here","_law_many"] spTake) (fg:Cal P w K mg base (n+2) "_law_term" ["_law_feed_here","_law_boxes","_law_room","_law_deep"] (spTerm n)):FnOk P w K mg base CX0 (n+3) fA fd ["_law_feed_here","_law_boxes","_law_room","_law_deep"] (spTerm (n+1)):=by
 exists i4
 erw[f,b,bs,room,deep,1,F0,hb,nb,b1,b2,r1,r2,d1,d2,q]at h;have hp12:(10:Int) ^ (12:Int).toNat=1000000000000:=by decide
 refine⟨_,(aa #[aj,4,i4,ag aW hr #[0] rfl %[0,ae|aO]]
  (aa (GF (PW.pt (fK (ah dP (pv 2) ae (ax _)) (fK (ah dP (pv 3) ae (ax _)) (eN (ah dP (pv 4) ae (ax _)))))) (Dg (t':=tLeaf) (i:=5) i4.nd rfl (.inl rfl) (aF %[au|aO]) (aF %[au|aO]) (aF %[au|aO]) (aF %[au,ag aW hr #[0] rfl %[0,ae|aO]|aO]) (aF %[au,ag aW hr #[0] rfl %[0,ao Ck ae ae|aO]|aO])
   (aa (aG (ah aP (pv 4) ae (ax _)) (ad (aq (aF %[au,aJ ix_list (pv 1) (ag aW hr #[0] rfl %[0,aE (x:="len") aD rfl B.len PySem.boot_len %[1|aO]|aO]) (λ_ _=>rfl)|aO]))) az)
   (ad (aq (aJ ix_list (pv 5) (ag aW hr #[0] rfl %[0,ae|aO]) (λ_ _=>rfl))))) (by
    rintro Dn σ H ⟨x2,x3,x5,x6,x7,f,b,bs,fm,rfl,F0,hb,nb,b1,b2,q⟩;erw[(by show 1<=sizeLine;decide),λp1 hp1=>%[(by show 1<=sizeLine;decide)|λp2 hp2=>%[(by show 1<=sizeLine;decide)|λp3 hp3=>?_]]];have g1:=zB0 hp1 (.tup [.str "round"]);have g2:=zB0 hp2 (.tup [.str "due"]);have g3:=zB0 hp3 (.tup [.str "asked"]);have e1:upd (upd (upd H p1 (.tup [.str "round"])) p2 (.tup [.str "due"])) p3 (.tup [.str "asked"]) p1=some (.tup [.str "round"]):=g3 _ _ (g2 _ _ aI);have e2:upd (upd (upd H p1 (.tup [.str "round"])) p2 (.tup [.str "due"])) p3 (.tup [.str "asked"]) p2=some (.tup [.str "due"]):=g3 _ _ aI;have e3:upd (upd (upd H p1 (.tup [.str "round"])) p2 (.tup [.str "due"])) p3 (.tup [.str "asked"]) p3=some (.tup [.str "asked"]):=aI;have S3:=g1.trans (g2.trans g3);generalize upd (upd (upd H p1 (.tup [.str "round"])) p2 (.tup [.str "due"])) p3 (.tup [.str "asked"])=H3 at e1 e2 e3 S3;erw[0,f,(5),1,F0.same S3,4,4,λw1 H4 _ _ F4 B4=>%[(by show 2<=sizeLine;decide)|λp4 hp4=>?_]];have k4:=aZ (F0.same S3) B4;have g4:=zB0 hp4 (.tup [.str "num",.int w1]);have e4:upd H4 p4 (.tup [.str "num",.int w1]) p4=some (.tup [.str "num",.int w1]):=aI;generalize upd H4 p4 (.tup [.str "num",.int w1])=H5 at g4 e4;erw[0,2,%[4,4|4],f,0,F4.same g4,(by show(0:Int)<10 ^ (12:Int).toNat;rw[hp12];decide),(by show(10:Int) ^ (12:Int).toNat<2 ^ 63;rw[hp12];decide),λw2 H6 _ _ F6 B6=>%[(by show 2<=sizeLine;decide)|λp5 hp5=>%[(by show 5<=sizeLine;decide)|λL hL=>?_]]];have k6:=aZ (F4.same g4) B6;have g5:=zB0 hp5 (.tup [.str "num",.int w2]);have g6:=zB0 hL (.lst [.ref p1,.ref p2,.ref p3,.ref p4,.ref p5]);have e5:upd (upd H6 p5 (.tup [.str "num",.int w2])) L (.lst [.ref p1,.ref p2,.ref p3,.ref p4,.ref p5]) p5=some (.tup [.str "num",.int w2]):=g6 _ _ aI;have eL:upd (upd H6 p5 (.tup [.str "num",.int w2])) L (.lst [.ref p1,.ref p2,.ref p3,.ref p4,.ref p5]) L=some (.lst [.ref p1,.ref p2,.ref p3,.ref p4,.ref p5]):=aI;have F7:=F6.same (g5.trans g6);have S7:SameBut f H (upd (upd H6 p5 (.tup [.str "num",.int w2])) L (.lst [.ref p1,.ref p2,.ref p3,.ref p4,.ref p5])):=(zI0 S3).trans (B4.trans ((zI0 g4).trans (B6.trans (zI0 (g5.trans g6)))));have Lf:L≠f:=(F6.same g5).ne hL;have J:bJ H5 (upd (upd H6 p5 (.tup [.str "num",.int w2])) L (.lst [.ref p1,.ref p2,.ref p3,.ref p4,.ref p5])):=λa xs e=>(g5.trans g6) _ _ (k6 _ _ e)
    have J3:bJ H3 (upd (upd H6 p5 (.tup [.str "num",.int w2])) L (.lst [.ref p1,.ref p2,.ref p3,.ref p4,.ref p5])):=λa xs e=>J _ _ (g4 _ _ (k4 _ _ e))
    have e1':=J3 _ _ e1;have e2':=J3 _ _ e2;have e3':=J3 _ _ e3;have e4':=J _ _ e4;generalize upd (upd H6 p5 (.tup [.str "num",.int w2])) L (.lst [.ref p1,.ref p2,.ref p3,.ref p4,.ref p5])=H7 at e1' e2' e3' e4' e5 eL F7 S7;have hb7:=S7 _ _ nb hb;clear J J3 e1 e2 e3 e4 k4 k6;erw[0,1,0,6]
    by_cases c:fm=3
    . refine aS (congrArg V.int c) ?_;have bl:(bs.map V.str).length=bs.length:=zE0 _;erw[0,0,0,b,0,.inl (zG0 hb7),f,0,F7,3,3,λd H8 d0 d1 F8 B8=>?_];let%[v,hv|vm]:=nj (l:=bs.map V.str) (i:=d) d0 d1;let%[x,hx|1]:=List.mem_map.mp vm;erw[b,_,2,zG0 (B8 _ _ nb hb7),hv,(by show 2<=sizeLine;decide),λp8 hp8=>?_];have g8:=zB0 hp8 (.tup [.str "box",.str x]);exact q _ (.box x) _ (.box aI) trivial rfl (F8.same g8) (S7.trans (B8.trans (zI0 g8)))
    . refine aB (λz=>c (V.int.inj z)) ?_;erw[0,0,f,(5),1,F7,4,4,λd H8 d0 d1 F8 B8=>?_];have k8:=aZ F7 B8;have hL8:=B8 _ _ Lf eL;have S8:=S7.trans B8
      have:d=0∨d=1∨d=2∨d=3∨d=4:=by omega
      rcases this with rfl | rfl | rfl | rfl | rfl
      . erw[L,_,(0),.ref p1,1,1,zG0 hL8,1,q _ (.plain "round") _ (.plain (k8 _ _ e1')) (show("round":Str)∈plainW by decide) rfl F8 S8]
      . erw[L,_,(1),.ref p2,1,1,zG0 hL8,1,q _ (.plain "due") _ (.plain (k8 _ _ e2')) (show("due":Str)∈plainW by decide) rfl F8 S8]
      . erw[L,_,(2),.ref p3,1,1,zG0 hL8,1,q _ (.plain "asked") _ (.plain (k8 _ _ e3')) (show("asked":Str)∈plainW by decide) rfl F8 S8]
      . erw[L,_,(3),.ref p4,1,1,zG0 hL8,1,q _ (.num w1) _ (.num (k8 _ _ e4')) trivial rfl F8 S8]
      . erw[L,_,(4),.ref p5,1,1,zG0 hL8,1,q _ (.num w2) _ (.num (k8 _ _ e5)) trivial rfl F8 S8])) az)
  (aa (aG (PW.pt (fK (ah dP (pv 4) ae (ax _)) (eN (ah dP (pv 2) ae (ax _))))) (iA (t':=tAskT n) (ad (aq (aF %[aJ ix_list (dy %[au,au|aO]) (ag aW hr #[0] rfl %[0,ae|aO]) (λ_ _=>rfl),ag fg hr (zH0 _) rfl %[0,1,ao bm (pv 2) ae,ao bm (pv 3) ae|aO]|aO]))) (by
   rintro Dn σ H ⟨x4,x5,x6,x7,f,b,bs,room,deep,rfl,F0,hb,nb,b1,b2,r1,r2,d1,d2,q⟩;erw[(by show 2<=sizeLine;decide),λL hL=>?_];have gL:=zB0 hL (.lst [.str "coin",.str "true"]);have eL:upd H L (.lst [.str "coin",.str "true"]) L=some (.lst [.str "coin",.str "true"]):=aI;have Lf:L≠f:=F0.ne hL;generalize upd H L (.lst [.str "coin",.str "true"])=H1 at gL eL;erw[0,f,(2),1,F0.same gL,4,4,λd H2 d0 d1' F2 B2=>?_];have aw:∃aw:Str,aw∈askW/\atI [V.str "coin",.str "true"] d=some (.str aw):=by
    have:d=0∨d=1:=by omega
    rcases this with rfl | rfl
    . erw["coin",4,at0 ..]
    . erw["true",4,at1 ..]
   erw[aw,awm,haw]at aw;erw[L,_,2,zG0 (B2 _ _ Lf eL),haw,6];have hb2:=B2 _ _ nb (gL _ _ hb);refine⟨_,rfl,_,rfl,_,rfl,_,_,rfl,rfl,_,rfl,_,_,rfl,rfl,f,b,bs,room-1,deep-1,rfl,F2,hb2,nb,b1,b2,by omega,by omega,by omega,by omega,λv t H3 T3 ok3 dp3 F3 B3=>?_⟩;erw[(by show 2<=sizeLine;decide),λp hp=>?_];have gp:=zB0 hp (.tup [.str aw,v]);have ed:((Tm.ask aw t).depth:Int)=(t.depth:Int)+1:=by show((t.depth+1:Nat):Int)=_;omega
   exact q _ (.ask aw t) _ (.ask aI (T3.mono (aX gp))) %[awm|ok3] #[0] (F3.same gp) ((zI0 gL).trans (B2.trans (B3.trans (zI0 gp)))))) az)
  (aa #[aj,6,i4,ao aQ ae (ag aW hr #[0] rfl %[0,ao bm (pv 2) ae|aO])]
  (aa #[aj,7,i4,ag fg hr (zH0 _) rfl %[0,1,6,ao bm (pv 3) ae|aO]]
  (ad (aq (aF %[au,aJ re au (ag aW hr #[0] rfl %[0,ae|aO]) (λ_ _=>rfl),7,ag fg hr (zH0 _) rfl %[0,1,ao bm (ao bm (pv 2) ae) (pv 6),ao bm (pv 3) ae|aO]|aO])))))))),?_⟩
 erw[0,f,(9),1,F0,4,4,λfm H1 m0 m9 F1 B1=>?_];have hb1:=B1 _ _ nb hb;have leaf:∀(v:V)(t:Tm)(H':Hp),TmAt H' v t->t.good->t.depth=1->FeedAt H' f->SameBut f H1 H'->Q v H':=λv t H' T g d FF BB=>q v t H' T g #[0] FF (B1.trans BB)
 erw[0,2,0,6]
 by_cases c1:room<2
 . exact aS c1 (ei %[_,_,_,_,_,f,b,bs,fm,1,F1,hb1,nb,b1,b2|leaf])
 refine aB c1 %[0,2,0|6]
 by_cases c2:deep<2
 . exact aS c2 (ei %[_,_,_,_,_,f,b,bs,fm,1,F1,hb1,nb,b1,b2|leaf])
 refine aB c2 %[0,2,0|6]
 by_cases c3:fm<4
 . exact aS c3 %[_,_,_,_,_,f,b,bs,fm,1,F1,hb1,nb,b1,b2|leaf]
 refine aB c3 ?_;have ask:∀(v:V)(t:Tm)(H':Hp),TmAt H' v t->t.good->(t.depth:Int)<=deep->FeedAt H' f->SameBut f H1 H'->Q v H':=λv t H' T g d FF BB=>q v t H' T g d FF (B1.trans BB)
 erw[0,2,0,6]
 by_cases c4:fm<6
 . exact aS c4 (ei %[_,_,_,_,f,b,bs,room,deep,1,F1,hb1,nb,b1,b2,3,r2,3,3|ask])
 refine aB c4 %[0,2,0|6]
 by_cases c5:room<3
 . exact aS c5 %[_,_,_,_,f,b,bs,room,deep,1,F1,hb1,nb,b1,b2,3,r2,3,3|ask]
 refine aB c5 ?_;erw[0,0,2,f,room-2,1,F1,3,3,λd3 H2 a0 a1 F2 B2=>?_];erw[2,6];have hb2:=B2 _ _ nb hb1;erw[0,0,0,0,2,f,b,bs,1+d3,deep-1,1,F2,hb2,nb,b1,b2,3,3,3,3,λv1 t1 H3 T1 ok1 dp1 F3 B3=>?_];have hb3:=B3 _ _ nb hb2;erw[0,f,(6),1,F3,4,4,λd4 H4 g0 g1 F4 B4=>?_];let%[c,hc|hm]:=nj (l:=(("+-*/=<":Str)).cps.toList) (i:=d4) g0 (by rw[Bx];exact g1);have hb4:=B4 _ _ nb hb3;erw[_,2,ca ⋯,hc,0,6];erw[0,0,0,2,0,2,0,2,f,b,bs,room-1-(1+d3),deep-1,1,F4,hb4,nb,b1,b2,3,3,3,3,λv2 t2 H5 T2 ok2 dp2 F5 B5=>?_];have k35:bJ H3 H5:=λa ys e=>aZ F4 B5 _ _ (aZ F3 B4 _ _ e)
 erw[(by show 4<=sizeLine;decide),λp hp=>?_];have gp:=zB0 hp (.tup [.str "op",.str %[|#[c]],v1,v2]);have ed:((Tm.op ⟨#[c]⟩ t1 t2).depth:Int)<=deep:=by
  show((max t1.depth t2.depth+1:Nat):Int)<=deep;omega
 exact q _ (.op %[|#[c]] t1 t2) _ (.op aI (T1.mono λa xs e=>gp _ _ (k35 _ _ e)) (T2.mono (aX gp))) %[Ev c hm,ok1|ok2] ed (F5.same gp) (B1.trans (B2.trans (B3.trans (B4.trans (B5.trans (zI0 gp))))))
theorem Eh  :FnOk P w K mg base CX0 2 f fd ["_law_feed_here","_law_boxes","_law_room","_law_deep"] (spTerm 0):=by
 have no:∀vs H Q E,¬ spTerm 0 vs H Q E:=λvs H Q E h=>by
  erw[_,_,_,_,_,_,_,_,_,_,_,_,_,h1,h2,_]at h;omega
 erw[λvs H Q E h=>absurd h (no vs H Q E),λA outer s H args us vs Q E _ _ _ _ h=>absurd h (no vs H Q E)]
theorem sD   (F:Fun K "_law_term" "_law_term" lY f fd) (B:Bl mg) (m:mg "_law_term"=some (.ref f)) (aW:Cal P w K mg base 1 "_law_take" ["_law_feed_here","_law_many"] spTake) :
 ∀n:Nat,FnOk P w K mg base CX0 (n+2) f fd ["_law_feed_here","_law_boxes","_law_room","_law_deep"] (spTerm n)
 | 0=>Eh
 | n+1=>Ei F B aW (Cal.of F (sD F B m aW n) m (λ_ _ _ _ _ _ us hl=>by let%[u0,u1,u2,u3|1]:=Fg hl;rfl))
end
section
theorem RowsAt.app(h:RowsAt H a r)(k:RowsAt H b s):RowsAt H (a++b) (r++s):=by
 erw[by rw[zJ0,zJ0,h.1,k.1],λi v x e1 e2=>?_]
 by_cases c:i<a.length
 . rw[List.getElem?_append_left c]at e1;rw[List.getElem?_append_left (by rw[←h.1];exact c)]at e2;exact h.2 i v x e1 e2
 . rw[List.getElem?_append_right #[0]]at e1;rw[List.getElem?_append_right (by rw[←h.1];omega),←h.1]at e2;exact k.2 _ v x e1 e2
theorem RowsAt.one(h:HrAt H v r):RowsAt H [v] [r]:=⟨rfl,λi u x e1 e2=>by
 cases i with
 | zero=>cases e1;cases e2;exact h
 | succ i=>cases e1⟩
inductive spHelp(vs:List V)(H:Hp)(Q:VK)(u_3:XK):Prop
 |mk:∀(f b:Addr)(bs:List Str)(most:Int),vs=[.ref f,.ref b,.int most]->FeedAt H f->H b=some (.lst (bs.map V.str))->b≠f->1<=bs.length->bs.length<=100->0<=most->most<=60->(∀(h:Addr)(rv:List V)(rows:List Hr)(H':Hp),H' h=some (.tup rv)->RowsAt H' rv rows->(∀r∈rows,r.good)->FeedAt H' f->SameBut f H H'->Q (.ref h) H')->spHelp vs H Q u_3
theorem gq:FnScope ["_law_feed_here","_law_boxes","_law_most","_law_rows","_law_many","_law_k","_law_form"] ["_law_feed_here","_law_boxes","_law_most"] (ai lC):=%[1,1,1,4,1,4|4]
theorem vA   (F:Fun K "_law_helper" "_law_helper" lC f fd) (B:Bl mg) (aW:Cal P w K mg base 1 "_law_take" ["_law_feed_here","_law_many"] spTake) (fg:Cal P w K mg base 7 "_law_term" ["_law_feed_here","_law_boxes","_law_room","_law_deep"] (spTerm 5)):FnOk P w K mg base CX0 8 f fd ["_law_feed_here","_law_boxes","_law_most"] spHelp:=by
 exists gq
 erw[f,b,bs,most,1,F0,hb,nb,b1,b2,m0,m1,q]at h;refine⟨_,(aa #[aj,3,gq,dy aO]
  (aa #[aj,4,gq,ag aW hr ⋯ rfl %[0,ao aQ (pv 2) ae|aO]]
  (aa (cv PassesOwn.never rfl (bO rfl B.range %[4|aO]) (bb (i:=5) gq.nd rfl (.inl rfl)) (aa #[aj,6,gq,ag aW hr ⋯ rfl %[0,ae|aO]]
   (ad (aG (ah dP (pv 6) ae (ax _)) (ad (aR (eA PySem.F.plainAttrs_list PySem.F.slot_list_append PySem.F.type_list_append bZ (pv 3) %[aF %[au,ag fg hr ⋯ rfl %[0,1,ae,ae|aO]|aO]|aO]))) (ad (aG (ah dP (pv 6) ae (ax _)) (ad (aR (eA PySem.F.plainAttrs_list PySem.F.slot_list_append PySem.F.type_list_append bZ (pv 3) %[aF %[au,aJ ix_list (pv 1) (ag aW hr ⋯ rfl %[0,aE aD rfl B.len PySem.boot_len %[1|aO]|aO]) (λ_ _=>rfl),ag fg hr ⋯ rfl %[0,1,ae,ae|aO]|aO]|aO]))) (ad (aG (ah aP (pv 6) ae (ax _)) (ad (aR (eA PySem.F.plainAttrs_list PySem.F.slot_list_append PySem.F.type_list_append bZ (pv 3) %[aF %[au,ag fg hr ⋯ rfl %[0,1,ae,ae|aO],ag aW hr ⋯ rfl %[0,4|aO]|aO]|aO]))) (ad (aG (ah aP (pv 6) ae (ax _)) (ad (aR (eA PySem.F.plainAttrs_list PySem.F.slot_list_append PySem.F.type_list_append bZ (pv 3) %[aF %[au,ag aW hr ⋯ rfl %[0,4|aO]|aO]|aO]))) (ad (aR (eA PySem.F.plainAttrs_list PySem.F.slot_list_append PySem.F.type_list_append bZ (pv 3) %[aF %[au|aO]|aO])))))))))))))
  (ad (aq (bi ba rfl B.tuple bd %[3|aO])))))),?_⟩
 erw[(by show 0<=sizeLine;decide),λL hL=>?_];have I0:=zB0 hL (.lst []);have Lf:L≠f:=F0.ne hL;have g0:upd H L (.lst []) L=some (.lst []):=aI;generalize upd H L (.lst [])=H1 at I0 g0;erw[0,0,2,f,most+1,1,F0.same I0,3,3,λmn H2 n0 n1 F2 B2=>?_];have S2:SameBut f H H2:=(zI0 I0).trans B2;refine⟨_,rfl,_,rfl,by omega,by omega,dj (λi σ H'=>∃(x5 x6:Option V)(vs:List V)(rows:List Hr),σ=[some (.ref f),some (.ref b),some (.int most),some (.ref L),some (.int mn),x5,x6]/\FeedAt H' f/\SameBut f H H'/\H' L=some (.lst vs)/\RowsAt H' vs rows/\(∀r∈rows,r.good)/\vs.length=i)
  %[_,_,[],[],1,F2,S2,B2 _ _ Lf g0,%[1|λi v r e=>by cases e],(λr hr=>by cases hr)|1] ?_ ?_⟩
 . rintro i σ H3 hi ⟨x5,x6,vs,rows,rfl,F3,S3,hL3,RW,rg,vl⟩;have hb3:=S3 _ _ nb hb;erw[0,f,(8),1,F3,4,4,λfm H4 f0 f1 F4 B4=>?_];have hb4:=B4 _ _ nb hb3;have hL4:=B4 _ _ Lf hL3;have S4:=S3.trans B4;have RW4:=RW.mono (aZ F3 B4);have fin:∀(r:Hr)(v:V)(H5:Hp),HrAt H5 v r->r.good->FeedAt H5 f->SameBut f H4 H5->H5 L=some (.lst vs)/\vs.length<sizeLine/\∃(x5' x6':Option V)(vs':List V)(rows':List Hr),[some (V.ref f),some (.ref b),some (.int most),some (.ref L),some (.int mn),some (.int (0+(i:Int))),some (.int fm)]=[some (V.ref f),some (.ref b),some (.int most),some (.ref L),some (.int mn),x5',x6']/\FeedAt (upd H5 L (.lst (vs++[v]))) f/\SameBut f H (upd H5 L (.lst (vs++[v])))/\(upd H5 L (.lst (vs++[v]))) L=some (.lst vs')/\RowsAt (upd H5 L (.lst (vs++[v]))) vs' rows'/\(∀r∈rows',r.good)/\vs'.length=i+1:=by
    intro r v H5 R5 g5 F5 B5;have hL5:=B5 _ _ Lf hL4;have k6:bJ H5 (upd H5 L (.lst (vs++[v]))):=di hL5;erw[hL5,aM #[0],_,_,vs++[v],rows++[r],1,6,6,aI,((RW4.mono (aZ F4 B5)).mono k6).app (RowsAt.one (R5.mono k6)),λr' hr'=>?_,by rw[zJ0,vl];rfl]
    . erw[x,t,e,rr]at F5;erw[x,t,by rw[bh Lf.symm];exact e,rr]
    . intro c o hc e;rw[bh (aV e hL)];exact B5 _ _ hc (S4 _ _ hc e)
    . rcases qH0 hr' with h | h
      . exact rg r' h
      . rw[zN0 h];exact g5
   erw[0,2,0,6]
   by_cases c1:fm<3
   . refine aS c1 ?_;erw[0,.inl %[1,_|zG0 hL4],0,0,f,b,bs,(6),(5),1,F4,hb4,nb,b1,b2,4,4,4,4,λv t H5 T5 g5 d5 F5 B5=>%[(by show 2<=sizeLine;decide)|λp hp=>?_]];have Ip:=zB0 hp (.tup [.str "say",v]);let%[hLx,sz|iv]:=fin (.say t) (.ref p) _ (.say aI (T5.mono (aX Ip))) %[g5|3] (F5.same Ip) (B5.trans (zI0 Ip));erw[L,2,hLx,sz,iv]
   refine aB c1 %[0,2,0|6]
   by_cases c2:fm<5
   . refine aS c2 ?_;have bl:(bs.map V.str).length=bs.length:=zE0 _;erw[0,.inl %[1,_|zG0 hL4],0,0,0,b,0,.inl (zG0 hb4),f,0,F4,3,3,λd H5 d0 d1 F5 B5=>?_];let%[v,hv|vm]:=nj (l:=bs.map V.str) (i:=d) d0 d1;let%[x,hx|1]:=List.mem_map.mp vm;have hb5:=B5 _ _ nb hb4;erw[b,_,2,zG0 hb5,hv,0,0,f,b,bs,(6),(5),1,F5,hb5,nb,b1,b2,4,4,4,4,λv t H6 T6 g6 d6 F6 B6=>%[(by show 3<=sizeLine;decide)|λp hp=>?_]];have Ip:=zB0 hp (.tup [.str "set",.str x,v]);let%[hLx,sz|iv]:=fin (.set x t) (.ref p) _ (.set aI (T6.mono (aX Ip))) %[g6|3] (F6.same Ip) (B5.trans (B6.trans (zI0 Ip)));erw[L,2,hLx,sz,iv]
   refine aB c2 %[0,1,0|6]
   by_cases c3:fm=5
   . refine aS (congrArg V.int c3) ?_;erw[0,.inl %[1,_|zG0 hL4],0,0,f,b,bs,(5),(4),1,F4,hb4,nb,b1,b2,4,4,4,4,λv t H5 T5 g5 d5 F5 B5=>?_];erw[0,0,f,mn,1,F5,3,3,λd H6 d0 d1 F6 B6=>%[(by show 3<=sizeLine;decide)|λp hp=>?_]];have Ip:=zB0 hp (.tup [.str "if",v,.int d]);let%[hLx,sz|iv]:=fin (.iff t d) (.ref p) _ (.iff aI (T5.mono λa xs e=>Ip _ _ (aZ F5 B6 _ _ e))) %[g5,3|d0] (F6.same Ip) (B5.trans (B6.trans (zI0 Ip)));erw[L,2,hLx,sz,iv]
   refine aB (λz=>c3 (V.int.inj z)) %[0,1,0|6]
   by_cases c4:fm=6
   . refine aS (congrArg V.int c4) ?_;erw[0,.inl %[1,_|zG0 hL4],0,0,f,mn,1,F4,3,3,λd H6 d0 d1 F6 B6=>%[(by show 2<=sizeLine;decide)|λp hp=>?_]];have Ip:=zB0 hp (.tup [.str "go",.int d]);let%[hLx,sz|iv]:=fin (.go d) (.ref p) _ (.go aI) d0 (F6.same Ip) (B6.trans (zI0 Ip));erw[L,2,hLx,sz,iv]
   refine aB (λz=>c4 (V.int.inj z)) ?_;erw[0,.inl %[1,_|zG0 hL4],(by show 1<=sizeLine;decide),λp hp=>?_];have Ip:=zB0 hp (.tup [.str "end"]);let%[hLx,sz|iv]:=fin .fin (.ref p) _ (.fin aI) trivial (F4.same Ip) (zI0 Ip);erw[L,2,hLx,sz,iv]
 . rintro σ H3 ⟨x5,x6,vs,rows,rfl,F3,S3,hL3,RW,rg,vl⟩;erw[0,L,0,.inl %[zG0 hL3|λh hh=>?_]];have Ih:=zB0 hh (.tup vs);exact q h vs rows _ aI (RW.mono (aX Ih)) rg (F3.same Ih) (S3.trans (zI0 Ih))
inductive spLiar(vs:List V)(H:Hp)(Q:VK)(u_3:XK):Prop
 |mk:∀(f:Addr)(x:Str),vs=[.ref f,.str x]->FeedAt H f->(∀(h:Addr)(rv:List V)(rows:List Hr)(H':Hp),H' h=some (.tup rv)->RowsAt H' rv rows->(∀r∈rows,r.good)->FeedAt H' f->SameBut f H H'->Q (.ref h) H')->spLiar vs H Q u_3
theorem cJ:FnScope ["_law_feed_here","_law_box","_law_j","_law_wrong","_law_turn","_law_more","_law_coin","_law_told","_law_on"] ["_law_feed_here","_law_box"] (ai qv):=%[1,1,1,4,1,4|4]
inductive tLi1(Dn:Ends)(σ:St)(H:Hp):Prop
 |mk:∀(x4 x5 x6 x7 x8:Option V)(f:Addr)(x:Str)(vj vw:V)(tw:Tm),σ=[some (.ref f),some (.str x),some vj,some vw,x4,x5,x6,x7,x8]->FeedAt H f->TmAt H vj (.box x)->TmAt H vw tw->tw.good->tw.depth<=3->(∀(h:Addr)(rv:List V)(rows:List Hr)(H':Hp),H' h=some (.tup rv)->RowsAt H' rv rows->(∀r∈rows,r.good)->FeedAt H' f->SameBut f H H'->Dn.rt (.ref h) H')->tLi1 Dn σ H
inductive tLi2(Dn:Ends)(σ:St)(H:Hp):Prop
 |mk:∀(x3 x4 x6 x7 x8:Option V)(f:Addr)(x:Str)(vj vm:V)(tm:Tm),σ=[some (.ref f),some (.str x),some vj,x3,x4,some vm,x6,x7,x8]->FeedAt H f->TmAt H vj (.box x)->TmAt H vm tm->tm.good->tm.depth<=4->(∀(h:Addr)(rv:List V)(rows:List Hr)(H':Hp),H' h=some (.tup rv)->RowsAt H' rv rows->(∀r∈rows,r.good)->FeedAt H' f->SameBut f H H'->Dn.rt (.ref h) H')->tLi2 Dn σ H
theorem GV{s:Str}{a b:Tm}{m:Nat}(h1:a.depth<=m)(h2:b.depth<=m):(Tm.op s a b).depth<=m+1:=by
 show max a.depth b.depth+1<=m+1;omega
theorem zX   (F:Fun K "_law_liar" "_law_liar" qv f fd) (aW:Cal P w K mg base 1 "_law_take" ["_law_feed_here","_law_many"] spTake):FnOk P w K mg base CX0 2 f fd ["_law_feed_here","_law_box"] spLiar:=by
 exists cJ
 erw[f,x,1,F0,q]at h;refine⟨_,(aa #[aj,2,cJ,aF %[au,1|aO]]
  (aa #[aj,3,cJ,aF %[au,au,2,aF %[au,ag aW hr ⋯ rfl %[0,ae|aO]|aO]|aO]]
  (aa (aG (ah gK (ag aW hr ⋯ rfl %[0,ae|aO]) ae (ax _)) (aa #[aj,4,cJ,aF %[au,au,aF %[au|aO],aF %[au,ag aW hr ⋯ rfl %[0,ae|aO]|aO]|aO]]
   (ad #[aj,3,cJ,aF %[au,au,3,4|aO]])) az)
  (iA (t':=tLi1) (aa #[aj,5,cJ,aF %[au,au,3,aF %[au,ao aQ ae (ag aW hr ⋯ rfl %[0,ae|aO])|aO]|aO]]
  (aa (aG (ah aP (ag aW hr ⋯ rfl %[0,ae|aO]) ae (ax _)) (aa #[aj,6,cJ,aF %[au,aF %[au,ao aQ ae (ag aW hr ⋯ rfl %[0,ae|aO])|aO]|aO]]
   (aa #[aj,6,cJ,aF %[au,au,6,aF %[au,ag aW hr ⋯ rfl %[0,ae|aO]|aO]|aO]]
   (ad #[aj,5,cJ,aF %[au,au,3,6|aO]]))) az)
  (iA (t':=tLi2) (aa #[aj,7,cJ,aF %[au,au,aF %[au,2|aO],5|aO]]
  (aa #[aj,8,cJ,aF %[au,au,2,aF %[au,ae|aO]|aO]]
  (ad (aq (aF %[aF %[au,1,aF %[au,ae|aO]|aO],aF %[au,7|aO],aF %[au,1,8|aO],aF %[au,ae|aO]|aO]))))) (by
   rintro Dn σ H ⟨x3,x4,x6,x7,x8,f,x,vj,vm,tm,rfl,F0,Tj,Tm,gm,dm,q⟩;have s2:2<=sizeLine:=by decide
   have s3:3<=sizeLine:=by decide
   have s4:4<=sizeLine:=by decide
   erw[0,s2,λp1 h1=>%[0,s4|λp2 h2=>?_]];have I1:=zB0 h1 (.tup [.str "true",vj]);have I2:=zB0 h2 (.tup [.str "op",.str "+",.ref p1,vm]);have T2:TmAt (upd (upd H p1 (.tup [.str "true",vj])) p2 (.tup [.str "op",.str "+",.ref p1,vm])) (.ref p2) (.op "+" (.ask "true" (.box x)) tm):=.op aI (.ask (I2 _ _ aI) (Tj.mono (aX (I1.trans I2)))) (Tm.mono (aX (I1.trans I2)));have J2:=I1.trans I2;generalize upd (upd H p1 (.tup [.str "true",vj])) p2 (.tup [.str "op",.str "+",.ref p1,vm])=H2 at T2 J2;erw[0,s2,λp3 h3=>%[s4|λp4 h4=>?_]];have I3:=zB0 h3 (.tup [.str "num",.int 1]);have I4:=zB0 h4 (.tup [.str "op",.str "+",vj,.ref p3]);have T4:TmAt (upd (upd H2 p3 (.tup [.str "num",.int 1])) p4 (.tup [.str "op",.str "+",vj,.ref p3])) (.ref p4) (.op "+" (.box x) (.num 1)):=.op aI (Tj.mono (aX (J2.trans (I3.trans I4)))) (.num (I4 _ _ aI));have J4:=I3.trans I4;generalize upd (upd H2 p3 (.tup [.str "num",.int 1])) p4 (.tup [.str "op",.str "+",vj,.ref p3])=H4 at T4 J4;erw[0,s2,λp5 h5=>%[s3|λp6 h6=>?_]];have I5:=zB0 h5 (.tup [.str "num",.int 0]);have I6:=zB0 h6 (.tup [.str "set",.str x,.ref p5]);have R6:HrAt (upd (upd H4 p5 (.tup [.str "num",.int 0])) p6 (.tup [.str "set",.str x,.ref p5])) (.ref p6) (.set x (.num 0)):=.set aI (.num (I6 _ _ aI));have J6:=I5.trans I6;generalize upd (upd H4 p5 (.tup [.str "num",.int 0])) p6 (.tup [.str "set",.str x,.ref p5])=H6 at R6 J6;erw[0,s2,λp7 h7=>%[0,0,s3|λp8 h8=>%[s2|λp9 h9=>%[s4|λp h10=>?_]]]];have I7:=zB0 h7 (.tup [.str "say",.ref p2]);have I8:=zB0 h8 (.tup [.str "set",.str x,.ref p4]);have I9:=zB0 h9 (.tup [.str "go",.int 1]);have I10:=zB0 h10 (.tup [.ref p6,.ref p7,.ref p8,.ref p9]);have J10:=I7.trans (I8.trans (I9.trans I10));have R7:HrAt (upd (upd (upd (upd H6 p7 (.tup [.str "say",.ref p2])) p8 (.tup [.str "set",.str x,.ref p4])) p9 (.tup [.str "go",.int 1])) p (.tup [.ref p6,.ref p7,.ref p8,.ref p9])) (.ref p7) (.say (.op "+" (.ask "true" (.box x)) tm)):=.say ((I8.trans (I9.trans I10)) _ _ aI) (T2.mono (aX (J4.trans (J6.trans J10))));have R8:HrAt (upd (upd (upd (upd H6 p7 (.tup [.str "say",.ref p2])) p8 (.tup [.str "set",.str x,.ref p4])) p9 (.tup [.str "go",.int 1])) p (.tup [.ref p6,.ref p7,.ref p8,.ref p9])) (.ref p8) (.set x (.op "+" (.box x) (.num 1))):=.set ((I9.trans I10) _ _ aI) (T4.mono (aX (J6.trans J10)));have R9:HrAt (upd (upd (upd (upd H6 p7 (.tup [.str "say",.ref p2])) p8 (.tup [.str "set",.str x,.ref p4])) p9 (.tup [.str "go",.int 1])) p (.tup [.ref p6,.ref p7,.ref p8,.ref p9])) (.ref p9) (.go 1):=.go (I10 _ _ aI);have JJ:=J2.trans (J4.trans (J6.trans J10));have pl:("+":Str)∈signW:=by decide
   refine q p _ _ _ aI ((((RowsAt.one (R6.mono (aX J10))).app (RowsAt.one R7)).app (RowsAt.one R8)).app (RowsAt.one R9)) (λr hr=>?_) (F0.same JJ) (zI0 JJ);rcases qH0 hr with hr | hr
   . rcases qH0 hr with hr | hr
     . rcases qH0 hr with hr | hr
       . rw[zN0 hr];erw[trivial,(by show 1<=5;decide)]
       . rw[zN0 hr];erw[%[pl,%[4|trivial]|gm],GV (m:=4) (by show 2<=4;decide) dm]
     . rw[zN0 hr];erw[%[pl,trivial|trivial],(by show 2<=5;decide)]
   . rw[zN0 hr];exact(by show(0:Int)<=1;decide))))) (by
   rintro Dn σ H ⟨x4,x5,x6,x7,x8,f,x,vj,vw,tw,rfl,F0,Tj,Tw,gw,dw,q⟩;have s2:2<=sizeLine:=by decide
   have s4:4<=sizeLine:=by decide
   have st:("*":Str)∈signW:=by decide
   have pl:("+":Str)∈signW:=by decide
   erw[0,0,f,(4),1,F0,4,4,λd1 H1 _ _ F1 B1=>%[2,s2|λp1 h1=>%[s4|λp2 h2=>?_]]];have k1:=aZ F0 B1;have I1:=zB0 h1 (.tup [.str "num",.int (1+d1)]);have I2:=zB0 h2 (.tup [.str "op",.str "*",vw,.ref p1]);have J2:=I1.trans I2;have T2:TmAt (upd (upd H1 p1 (.tup [.str "num",.int (1+d1)])) p2 (.tup [.str "op",.str "*",vw,.ref p1])) (.ref p2) (.op "*" tw (.num (1+d1))):=.op aI (Tw.mono λa xs e=>J2 _ _ (k1 _ _ e)) (.num (I2 _ _ aI));generalize upd (upd H1 p1 (.tup [.str "num",.int (1+d1)])) p2 (.tup [.str "op",.str "*",vw,.ref p1])=H2 at T2 J2;have F2:=F1.same J2;erw[0,f,(3),1,F2,4,4,λd2 H3 _ _ F3 B3=>%[1,0|6]];have k3:=aZ F2 B3;have S3:SameBut f H H3:=B1.trans ((zI0 J2).trans B3);have kk:bJ H H3:=λa xs e=>k3 _ _ (J2 _ _ (k1 _ _ e))
   by_cases c:d2=0
   . refine aS (congrArg V.int c) ?_;erw[0,f,(3),1,F3,4,4,λd3 H4 _ _ F4 B4=>%[2,s2|λp3 h3=>%[s2|λp4 h4=>?_]]];have k4:=aZ F3 B4;have I3:=zB0 h3 (.tup [.str "num",.int (1+d3)]);have I4:=zB0 h4 (.tup [.str "coin",.ref p3]);have J4:=I3.trans I4;have T4:TmAt (upd (upd H4 p3 (.tup [.str "num",.int (1+d3)])) p4 (.tup [.str "coin",.ref p3])) (.ref p4) (.ask "coin" (.num (1+d3))):=.ask aI (.num (I4 _ _ aI));generalize upd (upd H4 p3 (.tup [.str "num",.int (1+d3)])) p4 (.tup [.str "coin",.ref p3])=H5 at T4 J4;have F5:=F4.same J4;erw[0,0,f,(3),1,F5,4,4,λd5 H6 _ _ F6 B6=>%[s2|λp5 h5=>%[s4|λp6 h6=>?_]]];have k6:=aZ F5 B6;have I5:=zB0 h5 (.tup [.str "num",.int d5]);have I6:=zB0 h6 (.tup [.str "op",.str "+",.ref p4,.ref p5]);have J6:=I5.trans I6;have T6:TmAt (upd (upd H6 p5 (.tup [.str "num",.int d5])) p6 (.tup [.str "op",.str "+",.ref p4,.ref p5])) (.ref p6) (.op "+" (.ask "coin" (.num (1+d3))) (.num d5)):=.op aI (T4.mono λa xs e=>J6 _ _ (k6 _ _ e)) (.num (I6 _ _ aI));generalize upd (upd H6 p5 (.tup [.str "num",.int d5])) p6 (.tup [.str "op",.str "+",.ref p4,.ref p5])=H7 at T6 J6;have F7:=F6.same J6;have kw:bJ H H7:=λa xs e=>J6 _ _ (k6 _ _ (J4 _ _ (k4 _ _ (kk _ _ e))))
     erw[0,0,s4,λp7 h7=>?_];have I7:=zB0 h7 (.tup [.str "op",.str "*",vw,.ref p6]);erw[_,_,_,_,_,f,x,vj,.ref p7,.op "*" tw (.op "+" (.ask "coin" (.num (1+d3))) (.num d5)),1,F7.same I7,Tj.mono (λa xs e=>I7 _ _ (kw _ _ e)),.op aI (Tw.mono λa xs e=>I7 _ _ (kw _ _ e)) (T6.mono (aX I7)),%[st,gw,pl,%[4|trivial]|trivial],GV (m:=3) dw (by show 3<=3;decide),λh rv rows H' h1 h2 h3 h4 h5=>q h rv rows H' h1 h2 h3 h4 (S3.trans (B4.trans ((zI0 J4).trans (B6.trans ((zI0 (J6.trans I7)).trans h5)))))]
   . refine aB (λz=>c (V.int.inj z)) ?_;erw[_,_,_,_,_,f,x,vj,.ref p2,.op "*" tw (.num (1+d1)),1,F3,Tj.mono kk,T2.mono k3,%[st,gw|trivial],GV (m:=3) dw (by show 1<=3;decide),λh rv rows H' h1 h2 h3 h4 h5=>q h rv rows H' h1 h2 h3 h4 (S3.trans h5)]))))),?_⟩
 have s1:1<=sizeLine:=by decide
 have s2:2<=sizeLine:=by decide
 have s4:4<=sizeLine:=by decide
 have st:("*":Str)∈signW:=by decide
 have eqs:("=":Str)∈signW:=by decide
 erw[0,s2,λpj hj=>?_];have Ij:=zB0 hj (.tup [.str "box",.str x]);have Tj:TmAt (upd H pj (.tup [.str "box",.str x])) (.ref pj) (.box x):=.box aI;generalize upd H pj (.tup [.str "box",.str x])=H1 at Ij Tj;erw[0,0,f,(4),1,F0.same Ij,4,4,λd1 H2 _ _ F2 B2=>%[s2|λp1 h1=>%[s4|λp2 h2=>?_]]];have k2:=aZ (F0.same Ij) B2;have I1:=zB0 h1 (.tup [.str "num",.int d1]);have I2:=zB0 h2 (.tup [.str "op",.str "=",.ref pj,.ref p1]);have J2:=I1.trans I2;have T2:TmAt (upd (upd H2 p1 (.tup [.str "num",.int d1])) p2 (.tup [.str "op",.str "=",.ref pj,.ref p1])) (.ref p2) (.op "=" (.box x) (.num d1)):=.op aI (Tj.mono λa xs e=>J2 _ _ (k2 _ _ e)) (.num (I2 _ _ aI));have Tj2:=Tj.mono λa xs e=>J2 _ _ (k2 _ _ e)
 have S3:SameBut f H (upd (upd H2 p1 (.tup [.str "num",.int d1])) p2 (.tup [.str "op",.str "=",.ref pj,.ref p1])):=(zI0 Ij).trans (B2.trans (zI0 J2));have F3:=F2.same J2;generalize upd (upd H2 p1 (.tup [.str "num",.int d1])) p2 (.tup [.str "op",.str "=",.ref pj,.ref p1])=H3 at T2 Tj2 S3 F3;erw[0,f,(3),1,F3,4,4,λd2 H4 _ _ F4 B4=>%[2,0|6]];have k4:=aZ F3 B4;have S4:=S3.trans B4
 by_cases c:d2>0
 . refine aS c ?_;erw[s1,λp3 h3=>?_];have I3:=zB0 h3 (.tup [.str "round"]);have e3:upd H4 p3 (.tup [.str "round"]) p3=some (.tup [.str "round"]):=aI;generalize upd H4 p3 (.tup [.str "round"])=H5 at I3 e3;erw[0,f,(6),1,F4.same I3,4,4,λd5 H6 _ _ F6 B6=>%[s2|λp5 h5=>%[s4|λp6 h6=>?_]]];have k6:=aZ (F4.same I3) B6;have I5:=zB0 h5 (.tup [.str "num",.int d5]);have I6:=zB0 h6 (.tup [.str "op",.str "=",.ref p3,.ref p5]);have J6:=I5.trans I6;have T6:TmAt (upd (upd H6 p5 (.tup [.str "num",.int d5])) p6 (.tup [.str "op",.str "=",.ref p3,.ref p5])) (.ref p6) (.op "=" (.plain "round") (.num d5)):=.op aI (.plain (J6 _ _ (k6 _ _ e3))) (.num (I6 _ _ aI));generalize upd (upd H6 p5 (.tup [.str "num",.int d5])) p6 (.tup [.str "op",.str "=",.ref p3,.ref p5])=H7 at T6 J6;have kw:bJ H3 H7:=λa xs e=>J6 _ _ (k6 _ _ (I3 _ _ (k4 _ _ e)))
   erw[0,0,s4,λp7 h7=>?_];have I7:=zB0 h7 (.tup [.str "op",.str "*",.ref p2,.ref p6]);erw[_,_,_,_,_,f,x,.ref pj,.ref p7,.op "*" (.op "=" (.box x) (.num d1)) (.op "=" (.plain "round") (.num d5)),1,F6.same (J6.trans I7),Tj2.mono (λa xs e=>I7 _ _ (kw _ _ e)),.op aI (T2.mono λa xs e=>I7 _ _ (kw _ _ e)) (T6.mono (aX I7)),%[st,%[eqs,trivial|trivial],eqs,(show("round":Str)∈plainW by decide)|trivial],(by show 3<=3;decide),λh rv rows H' h1 h2 h3 h4 h5=>q h rv rows H' h1 h2 h3 h4 (S4.trans ((zI0 I3).trans (B6.trans ((zI0 (J6.trans I7)).trans h5))))]
 . refine aB c ?_;erw[_,_,_,_,_,f,x,.ref pj,.ref p2,.op "=" (.box x) (.num d1),1,F4,Tj2.mono k4,T2.mono k4,%[eqs,trivial|trivial],(by show 2<=3;decide),λh rv rows H' h1 h2 h3 h4 h5=>q h rv rows H' h1 h2 h3 h4 (S4.trans h5)]
end
def kept:List Str:=["yes","no","not","and","or","odd","same","round","due","asked","true","coin"]
def NmK(x:Str):Prop:=(∀c∈x.cps.toList,97<=c/\c<=122)/\1<=x.length/\x.length<=6/\x∉kept
def Tm.ok:Tm->Prop
 | .num n=>0<=n/\n<1000000000000 | .box x=>NmK x | .plain w=>w∈plainW | .ask w a=>w∈askW/\a.ok | .op s a b=>s∈signW/\a.ok/\b.ok
def Tm.fit(m:Nat)(t:Tm):Prop:=t.ok/\t.size<=m/\t.depth<=8
def Hr.ok(m:Nat):Hr->Prop
 | .fin=>True | .go n=>0<=n/\n<1000000000000 | .iff t n=>t.fit m/\0<=n/\n<1000000000000 | .set x t=>NmK x/\t.fit m | .say t=>t.fit m
def LET:Str:="abcdefghijklmnopqrstuvwxyz"
def ENDS:Str:=" ()"
def isIn(L:Str)(c:Nat):Bool:=!(Builtin.Str.occurrences L %[|#[c]] 0 L.length 1).isEmpty
def jE(z:Str):Bool:=decide (1<=z.length)&&decide (z.length<=6)&&!inV (.str z) (kept.map V.str)&&z.cps.toList.all (isIn LET)
def FIG:Str:="0123456789"
def kQ (z:Str):Bool:=decide (1<=z.length)&&decide (z.length<=12)&&!(decide (1<z.length)&&Txt.startswith z "0")&&z.cps.toList.all (isIn FIG)
theorem uX {z:Str} {c:Nat} (h:z.cps.toList[0]?=some c):Txt.startswith z "0"=decide (V.str %[|#[c]]=V.str "0"):=by
 have q:=StrLaws.subAt_one z 48 0;have e0:("0":Str)=%[|#[48]]:=by decide
 unfold Txt.startswith;rw[e0]
 by_cases hc:c=48
 . subst hc
   have:=q.mpr h
   rw[show decide (V.str (%[|#[48]]:Str)=V.str ⟨#[48]⟩)=true from decide_eq_true rfl];simp only[Bool.and_eq_true,decide_eq_true_eq];exact this
 . have hne:¬ (V.str (%[|#[c]]:Str)=V.str ⟨#[48]⟩):=λe=>hc (by
    have:=V.str.inj e
    injection this with this
    simpa using this)
   rw[show decide (V.str (%[|#[c]]:Str)=V.str ⟨#[48]⟩)=false from decide_eq_false hne];rw[Bool.eq_false_iff];intro e;simp only[Bool.and_eq_true,decide_eq_true_eq]at e
   have:=q.mp e
   rw[h]at this;exact hc (zU0 this)
inductive spTxt(fB:Str->Bool)(vs:List V)(H:Hp)(Q:VK)(u_3:XK):Prop
 |mk:∀z:Str,vs=[.str z]->z.length<=1000->(∀H',Same H H'->Q (.bl (fB z)) H')->spTxt fB vs H Q u_3
structure Tx(K:W.Frag)(mg:Str->Option Value):Prop where
 letters:∃t,mg "LETTERS"=some (.str LET t)
 longest:∃t,mg "LONGEST_NAME"=some (.int 6 t)
 keptW:∃a,mg "KEPT_WORDS"=some (.ref a)/\∀H,SqT K H a (kept.map V.str)
 ends:∃t,mg "WORD_ENDS"=some (.str ENDS t)
 within:∃t,mg "MOST_WITHIN"=some (.int 8 t)
 parts:∃t,mg "MOST_PARTS"=some (.int 20 t)
 figures:∃t,mg "FIGURES"=some (.str FIG t)
 most:∃t,mg "MOST_FIGURES"=some (.int 12 t)
 rows:∃t,mg "MOST_ROWS_helptexts"=some (.int 60 t)
 signs:∃a,mg "SIGNS"=some (.ref a)/\∀H,SqT K H a (signW.map V.str)
 asking:∃a,mg "ASKING_WORDS"=some (.ref a)/\∀H,SqT K H a (askW.map V.str)
 plain:∃a,mg "PLAIN_WORDS"=some (.ref a)/\∀H,SqT K H a (plainW.map V.str)
theorem rc(z:Str):z.cps.size=z.length:=rfl
theorem wU:FnScope ["text"] ["text"] (ai nZ):=%[1,1,1,4,1,4|4]
theorem xC   (F:Fun K "is_name" "is_name" nZ f fd) (B:Bl mg) (T:Tx K mg):FnOk P w K mg base CX0 1 f fd ["text"] (spTxt jE):=by
 exists wU
 erw[z,1,hz,q]at h;erw[t1,g1]at T.letters;erw[t3,g3]at T.longest;erw[ka,g5,hk]at T.keptW;refine⟨_,(aa (aG (PW.pt (fK (ah dP (aE cO rfl B.len PySem.boot_len %[0|aO]) ae (ax _)) (fK (ah gK (aE cO rfl B.len PySem.boot_len %[0|aO]) (cX (v:=.int 6) rfl g3 ⟨_,rfl⟩) (ax _)) (eN (ah fQ (pv 0) (cX (v:=.ref ka) rfl g5 rfl) (by rfl')))))) (ad (aq jD)) az)
  (ad (aq (aE (rH rfl) rfl B.all PyProof.Rows.boot_all (af (cz (N:=[]) (ix:=[]) (cl:=[]) rfl (CompScope.closed (by rfl') ⋯ rfl ⋯ rfl (by rfl')) rfl (Ca (pv 0))
   (λ_ _ _=>cG (eU sB (pv 0) (cX (v:=.str LET) rfl g1 %[|0]) (by rfl')))) aO))))),?_⟩
 have fls:jE z=false->Q (.bl false) H:=λe=>by
  have:=q H (Same.refl H)
  rw[e]at this;exact this
 erw[0,z,1,ca hz,2,0,6]
 by_cases c1:(z.length:Int)<1
 . refine aS c1 (ei ?_);exact fls (by unfold jE;rw[decide_eq_false (show ¬ 1<=z.length by omega)];rfl)
 refine aB c1 ?_;erw[0,z,1,ca hz,2,0,6]
 by_cases c2:(6:Int)<(z.length:Int)
 . refine aS c2 (ei ?_);exact fls (by unfold jE;rw[decide_eq_false (show ¬ z.length<=6 by omega)];simp)
 refine aB c2 ?_;erw[0,ka,0,.inr (hk _),1,⋯,0,6];cases c3:inV (.str z) (kept.map V.str)with
 | true=>
   refine ei ?_;exact fls (by unfold jE;rw[c3];simp)
 | false=>
   refine cW ?_;erw[0,z,1,λD hD=>?_];refine rE (z:=z) (λi H'=>H' D=some (.lst (((z.cps.toList.take i).map (isIn LET)).map V.bl))/\Same H H') %[by rw[aI];rfl|zB0 hD _] ?_ ?_
   . rintro i c H' hc ⟨hl,s0⟩;have hi:i<z.cps.size:=(Array.getElem?_eq_some_iff.mp hc).1;rw[rc]at hi;erw[0,2,_,hl,6,Nx.of hi %[6|6]]
     . rw[zE0,zE0,qL0];exact aM #[0]
     . rw [aI];have ec:z.cps.toList[i]?=some c:=by simpa using hc
       rw[qI0,ec,zK0,zK0];rfl
     . intro b o e;rw[bh (aV e hD)];exact s0 b o e
   . rintro H' ⟨hl,s0⟩;rw[show z.cps.toList.take z.cps.size=z.cps.toList by rw[←Array.length_toList];exact qG0]at hl;erw[D,0,zG0 hl,6];have e:jE z=(z.cps.toList.map (isIn LET)).all id:=by
      unfold jE;rw[c3,decide_eq_true (show 1<=z.length by omega),decide_eq_true (show z.length<=6 by omega),List.all_map];rfl
     rw[←e];exact q H' s0
theorem rS:FnScope ["text"] ["text"] (ai jj):=%[1,1,1,4,1,4|4]
theorem rY   (F:Fun K "is_figures" "is_figures" jj f fd) (B:Bl mg) (T:Tx K mg):FnOk P w K mg base CX0 1 f fd ["text"] (spTxt kQ):=by
 exists rS
 erw[z,1,hz,q]at h;erw[t1,g1]at T.figures;erw[t3,g3]at T.most;refine⟨_,(aa (aG (PW.pt (fK (ah dP (aE cO rfl B.len PySem.boot_len %[0|aO]) ae (ax _)) (eN (ah gK (aE cO rfl B.len PySem.boot_len %[0|aO]) (cX (v:=.int 12) rfl g3 ⟨_,rfl⟩) (ax _))))) (ad (aq jD)) az)
  (aa (aG (PW.pt (lG (ah gK (aE cO rfl B.len PySem.boot_len %[0|aO]) ae (ax _)) (kE (dN (eA PySem.F.plainAttrs_str PySem.F.slot_str_startswith PySem.F.type_str_startswith sk (pv 0) %[au|aO]))))) (ad (aq jD)) az)
  (ad (aq (aE (rH rfl) rfl B.all PyProof.Rows.boot_all (af (cz (N:=[]) (ix:=[]) (cl:=[]) rfl (CompScope.closed (by rfl') ⋯ rfl ⋯ rfl (by rfl')) rfl (Ca (pv 0))
   (λ_ _ _=>cG (eU sB (pv 0) (cX (v:=.str FIG) rfl g1 %[|0]) (by rfl')))) aO)))))),?_⟩
 have fls:kQ z=false->Q (.bl false) H:=λe=>by
  have:=q H (Same.refl H)
  rw[e]at this;exact this
 erw[0,z,1,ca hz,2,0,6]
 by_cases c1:(z.length:Int)<1
 . refine aS c1 (ei ?_);exact fls (by unfold kQ;rw[decide_eq_false (show ¬ 1<=z.length by omega)];rfl)
 refine aB c1 ?_;erw[0,z,1,ca hz,2,0,6]
 by_cases c2:(12:Int)<(z.length:Int)
 . refine aS c2 ?_;exact fls (by unfold kQ;rw[decide_eq_false (show ¬ z.length<=12 by omega)];simp)
 refine aB c2 ?_;erw[0,z,1,ca hz,2,0,6]
 by_cases c4:(1:Int)<(z.length:Int)
 . refine aS c4 ?_;erw[0,1,z,0,1,0,6];cases c5:Txt.startswith z "0" with
   | true=>
     refine ei ?_;exact fls (by unfold kQ;rw[c5,decide_eq_true (show 1<z.length by omega)];simp)
   | false=>
     refine cW ?_;have c3:(decide (1<z.length)&&Txt.startswith z "0")=false:=by rw[c5];simp
     erw[0,z,1,λD hD=>?_];refine rE (z:=z) (λi H'=>H' D=some (.lst (((z.cps.toList.take i).map (isIn FIG)).map V.bl))/\Same H H') %[by rw[aI];rfl|zB0 hD _] ?_ ?_
     . rintro i c H' hc ⟨hl,s0⟩;have hi:i<z.cps.size:=(Array.getElem?_eq_some_iff.mp hc).1;rw[rc]at hi;erw[0,2,_,hl,6,Nx.of hi %[6|6]]
       . rw[zE0,zE0,qL0];exact aM #[0]
       . rw [aI];have ec:z.cps.toList[i]?=some c:=by simpa using hc
         rw[qI0,ec,zK0,zK0];rfl
       . intro b o e;rw[bh (aV e hD)];exact s0 b o e
     . rintro H' ⟨hl,s0⟩;rw[show z.cps.toList.take z.cps.size=z.cps.toList by rw[←Array.length_toList];exact qG0]at hl;erw[D,0,zG0 hl,6];have e:kQ z=(z.cps.toList.map (isIn FIG)).all id:=by
        unfold kQ;rw[c3,decide_eq_true (show 1<=z.length by omega),decide_eq_true (show z.length<=12 by omega),List.all_map];rfl
       rw[←e];exact q H' s0
 . refine aB c4 ?_;refine cW ?_;have c3:(decide (1<z.length)&&Txt.startswith z "0")=false:=by rw[decide_eq_false (show ¬ 1<z.length by omega)];rfl
   erw[0,z,1,λD hD=>?_];refine rE (z:=z) (λi H'=>H' D=some (.lst (((z.cps.toList.take i).map (isIn FIG)).map V.bl))/\Same H H') %[by rw[aI];rfl|zB0 hD _] ?_ ?_
   . rintro i c H' hc ⟨hl,s0⟩;have hi:i<z.cps.size:=(Array.getElem?_eq_some_iff.mp hc).1;rw[rc]at hi;erw[0,2,_,hl,6,Nx.of hi %[6|6]]
     . rw[zE0,zE0,qL0];exact aM #[0]
     . rw [aI];have ec:z.cps.toList[i]?=some c:=by simpa using hc
       rw[qI0,ec,zK0,zK0];rfl
     . intro b o e;rw[bh (aV e hD)];exact s0 b o e
   . rintro H' ⟨hl,s0⟩;rw[show z.cps.toList.take z.cps.size=z.cps.toList by rw[←Array.length_toList];exact qG0]at hl;erw[D,0,zG0 hl,6];have e:kQ z=(z.cps.toList.map (isIn FIG)).all id:=by
      unfold kQ;rw[c3,decide_eq_true (show 1<=z.length by omega),decide_eq_true (show z.length<=12 by omega),List.all_map];rfl
     rw[←e];exact q H' s0
theorem Hc:∀c:Fin 26,isIn LET (97+c.val)=true:=by decide
theorem Ff:∀c:Fin 26,isIn ENDS (97+c.val)=false:=by decide
theorem ends_in:isIn ENDS 32=true/\isIn ENDS 40=true/\isIn ENDS 41=true:=by decide
theorem Do{c:Nat}(h:97<=c/\c<=122):isIn LET c=true:=by
 have:=Hc %[c-97|3]
 rwa [show 97+(%[c-97|3]:Fin 26).val=c by show 97+(c-97)=c;omega]at this
theorem Aw{c:Nat}(h:97<=c/\c<=122):isIn ENDS c=false:=by
 have:=Ff %[c-97|3]
 rwa [show 97+(%[c-97|3]:Fin 26).val=c by show 97+(c-97)=c;omega]at this
theorem yR(h:NmK x):jE x=true:=by
 erw[hl,h1,h6,hk]at h;unfold jE;rw[jz,decide_eq_true h1,decide_eq_true h6,decide_eq_false hk];simp only[Bool.and_self,Bool.not_false,Bool.true_and];rw[List.all_eq_true];exact λc hc=>Do (hl c hc)
def stl(l:List Nat):Str:=%[|l.toArray]
theorem En{a b:Str}(h:a.cps.toList=b.cps.toList):a=b:=by
 cases a with
 | mk x=>
   cases b with
   | mk y=>
     have:x=y:=Array.toList_inj.mp h
     rw[this]
theorem lq(x:Str):stl x.cps.toList=x:=rfl
theorem Er(l:List Nat):(stl l).length=l.length:=by
 show l.toArray.size=_
 simp
theorem iQ(a b:Str):(a++b).cps.toList=a.cps.toList++b.cps.toList:=by simp [Str.cps_append]
theorem uC:(("(":Str)).cps.toList=[40]:=by decide
theorem De:((")":Str)).cps.toList=[41]:=by decide
theorem lH:((" ":Str)).cps.toList=[32]:=by decide
theorem Bq{a b:Str}(h:V.str a=V.str b):a=b:=V.str.inj h
theorem neStr{a b:Str}(h:a≠b):¬ V.str a=V.str b:=λz=>h (Bq z)
def jn(c:Nat):List (List Nat)->List Nat
 | []=>[]
 | [a]=>a
 | a::b::r=>a++c::jn c (b::r)
theorem DP{c:Nat}:∀{a b x y:List Nat},c∉a->c∉b->a++c::x=b++c::y->a=b/\x=y
 | [],[],_,_,_,_,h=>%[1|(List.cons.inj h).2]
 | [],d::b,x,y,_,hb,h=>by
   have:=(List.cons.inj h).1
   exact absurd (by rw[this];exact qC0) hb
 | d::a,[],x,y,ha,_,h=>by
   have:=(List.cons.inj h).1
   exact absurd (by rw[←this];exact qC0) ha
 | d::a,e::b,x,y,ha,hb,h=>by
   have h':=List.cons.inj h;have r:=DP (λz=>ha (qK0 _ z)) (λz=>hb (qK0 _ z)) h'.2;erw[by rw[h'.1,r.1],r.2]
theorem Dl{c:Nat}:∀{l m:List (List Nat)},l≠[]->m≠[]->(∀a∈l,c∉a)->(∀a∈m,c∉a)->jn c l=jn c m->l=m
 | [],_,h,_,_,_,_=>absurd rfl h
 | _::_,[],_,h,_,_,_=>absurd rfl h
 | [a],[b],_,_,_,_,h=>congrArg (λz=>[z]) h
 | [a],b::d::r,_,_,hl,_,h=>by
   have:c∈a:=by
    rw[show a=b++c::jn c (d::r)from h]
    simp
   exact absurd this (hl a qC0)
 | a::d::r,[b],_,_,_,hm,h=>by
   have:c∈b:=by
    rw[show b=a++c::jn c (d::r)from h.symm]
    simp
   exact absurd this (hm b qC0)
 | a::d::r,b::e::s,_,_,hl,hm,h=>by
   have q:=DP (hl a qC0) (hm b qC0) (show a++c::jn c (d::r)=b++c::jn c (e::s)from h)
   have:=Dl (by simp) (by simp) (λz hz=>hl z (qK0 _ hz)) (λz hz=>hm z (qK0 _ hz)) q.2
   rw[q.1,this]
def cd(x:Str):List Nat:=x.cps.toList
theorem HJ(h:cd x=cd y):x=y:=by
 have:x.cps=y.cps:=Array.toList_inj.mp h
 cases x;cases y;exact congrArg Str.mk this
theorem sL(x y:Str):cd (x++y)=cd x++cd y:=by
 unfold cd;rw[Str.cps_append]
 simp
theorem uN(c:Nat):∀ps:List Str,cd (Str.join %[|#[c]] ps)=jn c (ps.map cd)
 | []=>rfl
 | [a]=>rfl
 | a::b::r=>by
   show cd (a++%[|#[c]]++Str.join ⟨#[c]⟩ (b::r))=cd a++c::jn c ((b::r).map cd);rw[sL,sL,uN c (b::r)]
   simp [cd]
theorem Fl(sep:Str):∀ps:List Str,Txt.join sep ps=Str.join sep ps
 | []=>rfl
 | a::r=>StrLaws.glued_cons sep r a
theorem wI(x y:Str):Txt.split x y≠[]:=by
 unfold Txt.split
 split
 . exact List.cons_ne_nil _ _
 . split
   . exact List.cons_ne_nil _ _
   . intro h
     have:=length_partsBetween x (Builtin.Str.occurrences x y 0 x.length (x.length+1)) y.length
     rw[h]at this
     simp at this
theorem rb:∀{l m:List Str},l.map cd=m.map cd->l=m
 | [],[],_=>rfl
 | [],_::_,h=>by simp at h
 | _::_,[],h=>by simp at h
 | a::l,b::m,h=>by
   have h':=List.cons.inj h;rw[HJ h'.1,rb h'.2]
theorem wK{c:Nat}{ps:List Str}(h0:ps≠[])(hf:∀p∈ps,c∉cd p):Txt.split (Str.join %[|#[c]] ps) ⟨#[c]⟩=ps:=by
 apply rb;refine Dl (c:=c) (λh=>wI _ _ (List.map_eq_nil_iff.mp h)) (λh=>h0 (List.map_eq_nil_iff.mp h)) ?_ ?_ ?_
 . intro a ha;let%[p,hp|1]:=List.mem_map.mp ha;exact StrLaws.split_free _ c p hp
 . intro a ha;let%[p,hp|1]:=List.mem_map.mp ha;exact hf p hp
 . rw[←uN,←uN,StrLaws.join_split]
def bX(n:Int):Str:=toString n
theorem uA(m:Nat):cd (bX (m:Int))=(Nat.toDigits 10 m).map Char.toNat:=PySem.W.KIN.signs_num m
theorem kI{n:Int}(h0:0<=n):∀c∈cd (bX n),48<=c/\c<=57:=by
 let%[m|1]:=Int.eq_ofNat_of_zero_le h0;intro c hc;rw[uA]at hc;let%[ch,hch|e]:=List.mem_map.mp hc;rw[←e];exact PyProof.Rows.digit_range (Nat.isDigit_of_mem_toDigits ⋯ ⋯ hch)
theorem CJ{n:Int}(h0:0<=n):cd (bX n)≠[]:=by
 let%[m|1]:=Int.eq_ofNat_of_zero_le h0;rw[uA];intro e;have h:=PySem.toDigits_len_ge 10 m;rw[List.map_eq_nil_iff.mp e]at h;exact absurd h ⋯
theorem jw{n:Int}(h0:0<=n)(h1:n<1000000000000):(bX n).length<=12:=PyProof.Rows.toString_length_le h0 ⋯ (by show n<10 ^ 12;omega)
theorem vD{n:Int}(h0:0<=n):1<=(bX n).length:=by
 have h:=CJ h0;have e:(cd (bX n)).length=(bX n).length:=rfl;cases c:cd (bX n)with
 | nil=>exact absurd c h
 | cons a r=>rw[←e,c];simp
theorem yK{n:Int}(h0:0<=n)(h1:n<1000000000000):PySem.intText? (bX n)=some n:=by
 have e:=intText_digits (x:=bX n) (kI h0) (CJ h0) (zP0 (jw h0 h1) ⋯);let%[m|1]:=Int.eq_ofNat_of_zero_le h0;have e2:=uA m;unfold cd at e2;rw[e2,PySem.W.KIN.val_back]at e;exact e
theorem Fp(m:Nat)(h:0<m):∃d r,Nat.toDigits 10 m=d::r/\d.toNat≠48:=by
 induction m using Nat.strongRecOn with
 | _ m ih=>
   by_cases c:m<10
   . erw[Nat.digitChar m,[],Nat.toDigits_of_lt_base c,6]
     have:∀d:Nat,d<10->0<d->(Nat.digitChar d).toNat≠48:=by decide
     exact this m c h
   . have hm:m % 10<10:=Nat.mod_lt m ⋯;have t:Nat.toDigits 10 (m / 10)++Nat.toDigits 10 (m % 10)=Nat.toDigits 10 (10*(m / 10)+m % 10):=Nat.toDigits_append_toDigits ⋯ #[0] hm;rw[Nat.div_add_mod]at t;let%[d,r,e|hd]:=ih (m / 10) #[0] #[0];erw[d,r++Nat.toDigits 10 (m % 10),by rw[←t,e];rfl,hd]
theorem Ht:∀c:Nat,c<58->48<=c->isIn FIG c=true:=by decide
theorem yL{n:Int}(h0:0<=n)(h1:n<1000000000000):kQ (bX n)=true:=by
 unfold kQ;rw[decide_eq_true (vD h0),decide_eq_true (jw h0 h1)];have a:(cd (bX n)).all (isIn FIG)=true:=List.all_eq_true.mpr λc hc=>by
  have:=kI h0 c hc
  exact Ht c #[0] this.1
 have a':(bX n).cps.toList.all (isIn FIG)=true:=a;rw[a'];have b:(decide (1<(bX n).length)&&Txt.startswith (bX n) "0")=false:=by
  by_cases c:1<(bX n).length
  . let%[m|1]:=Int.eq_ofNat_of_zero_le h0;have hm:0<m:=by
     apply Nat.pos_of_ne_zero;intro z;subst z
     revert c
     decide
    let%[d,r,e|hd]:=Fp m hm;have e0:(bX (m:Int)).cps.toList[0]?=some d.toNat:=by
     have:=uA m
     unfold cd at this;rw[this,e];rfl
    have z:decide (V.str (%[|#[d.toNat]]:Str)=V.str "0")=false:=decide_eq_false λz=>by
     have:=V.str.inj z
     have e1:("0":Str)=%[|#[48]]:=by decide
     rw[e1]at this;injection this with this
     have:=congrArg Array.toList this
     simp at this
     exact hd this
    rw[uX e0,z,Bool.and_false]
  . rw[decide_eq_false c];rfl
 rw[b];rfl
def NL:Str:=%[|#[10]]
theorem nl_eq:("\n":Str)=NL:=by decide
theorem Bo{l:List Str}{b:Nat}(h:∀p∈l,p.length<=b):(l.map (·.length)).sum<=l.length*b:=by
 induction l with
 | nil=>simp
 | cons a r ih=>
   have h1:=h a qC0;have h2:=ih λp hp=>h p (qK0 _ hp)
   simp only[zZ0,List.sum_cons,zM0];rw[Nat.succ_mul];omega
def Tm.txt:Tm->List Nat
 | .num n=>cd (bX n)
 | .box x=>cd x
 | .plain w=>cd w
 | .ask w a=>[40]++(cd w++([32]++(a.txt++[41])))
 | .op s a b=>[40]++(cd s++([32]++(a.txt++([32]++(b.txt++[41])))))
def Tm.str(t:Tm):Str:=stl t.txt
theorem mo:∀w∈plainW,w.length<=5/\1<=w.length/\(∀c∈w.cps.toList,97<=c/\c<=122)/\w≠"num"/\w≠"box"/\w≠"op":=by decide
theorem yr:∀w∈askW,w.length<=4/\1<=w.length/\(∀c∈w.cps.toList,97<=c/\c<=122)/\w≠"num"/\w≠"box"/\w≠"op"/\w∉plainW:=by decide
theorem sX:∀w∈signW,w.length=1/\(∀c∈w.cps.toList,42<=c/\c<=61)/\w∉askW:=by decide
theorem dC(x:Str):(cd x).length=x.length:=by unfold cd;rw[Array.length_toList];rfl
theorem Tm.txt_len:∀t:Tm,t.ok->t.txt.length<=14*t.size
 | .num n,h=>by
   have:=jw h.1 h.2
   show(cd (bX n)).length<=14;rw[dC];omega
 | .box x,h=>by
   show(cd x).length<=14;rw[dC]
   have:=h.2.2.1
   omega
 | .plain w,h=>by
   show(cd w).length<=14;rw[dC]
   have:=(mo w h).1
   omega
 | .ask w a,⟨h,h1⟩=>by
   have:=Tm.txt_len a h1
   have e4:=(yr w h).1;show([40]++(cd w++([32]++(a.txt++[41])))).length<=14*(a.size+1)
   simp only[zJ0,zM0,List.length_nil,dC];omega
 | .op o a b,⟨h,h1,h2⟩=>by
   have e1:=Tm.txt_len a h1;have e2:=Tm.txt_len b h2;have e4:=(sX o h).1;show([40]++(cd o++([32]++(a.txt++([32]++(b.txt++[41])))))).length<=14*(a.size+b.size+1)
   simp only[zJ0,zM0,List.length_nil,dC];omega
theorem Tm.str_len{t:Tm}(h:t.ok):t.str.length<=14*t.size:=by
 unfold Tm.str;rw[Er];exact t.txt_len h
def Hr.ws:Hr->List Str
 | .fin=>["end"] | .go n=>["go",bX n] | .iff t n=>["if",t.str,bX n] | .set x t=>["set",x,t.str] | .say t=>["say",t.str]
def Hr.str (r:Hr):Str:=Txt.join (" ":Str) r.ws
theorem Gc{r:Hr}(h:r.ok 20):r.ws.length<=3/\∀z∈r.ws,z.length<=280:=by
 have fixed:∀z∈(["end","go","if","set","say"]:List Str),z.length<=280:=by decide
 have ft:∀{t:Tm},t.fit 20->t.str.length<=280:=fun{t} h=>by
  have:=Tm.str_len h.1
  have:=h.2.1
  omega
 cases r with
 | fin=>erw[4,λz hz=>fixed z (by rw[zN0 hz];decide)]
 | go n=>
   erw[by show 2<=3;decide,λz hz=>?_];rcases zX0 (show z∈[("go":Str),bX n]from hz)with rfl | hz
   . exact fixed _ ⋯
   . rw [zN0 hz]
     have:=jw h.1 h.2
     omega
 | iff t n=>
   erw[by show 3<=3;decide,λz hz=>?_];rcases zX0 (show z∈[("if":Str),t.str,bX n]from hz)with rfl | hz
   . exact fixed _ ⋯
   rcases zX0 hz with rfl | hz
   . exact ft h.1
   . rw [zN0 hz]
     have:=jw h.2.1 h.2.2
     omega
 | set x t=>
   erw[by show 3<=3;decide,λz hz=>?_];rcases zX0 (show z∈[("set":Str),x,t.str]from hz)with rfl | hz
   . exact fixed _ ⋯
   rcases zX0 hz with rfl | hz
   . have:=h.1.2.2.1
     omega
   . rw[zN0 hz];exact ft h.2
 | say t=>
   erw[by show 2<=3;decide,λz hz=>?_];rcases zX0 (show z∈[("say":Str),t.str]from hz)with rfl | hz
   . exact fixed _ ⋯
   . rw[zN0 hz];exact ft h
theorem vM(sep:Str)(zs:List Str)(h:sep.length=1):(Txt.join sep zs).length<=(zs.map (·.length)).sum+zs.length:=by
 have:=size_glued sep zs
 rw[h]at this;show(Builtin.Str.glued sep zs).length<=_;omega
theorem FZ{r:Hr}(h:r.ok 20):(r.ws.map (·.length)).sum+r.ws.length<=900:=by
 let%[h1|h2]:=Gc h
 have:=Bo h2
 have:r.ws.length*280<=840:=by omega
 omega
theorem Hr.str_len{r:Hr}(h:r.ok 20):r.str.length<=900:=zP0 (vM _ _ ⋯) (FZ h)
theorem Dj{H:Hp}{b:Addr}{ys zs:List V}(h:H b=some (.lst ys)):bJ H (upd H b (.lst zs)):=λa xs e=>by
 rw[bh (λz=>by rw[z,h]at e;cases e)];exact e
theorem RowsAt.nil:RowsAt H [] []:=%[1|λi v r h=>by simp at h]
theorem RowsAt.snoc(h:RowsAt H tv rs)(a:HrAt H v r):RowsAt H (tv++[v]) (rs++[r]):=by
 erw[by rw[zJ0,zJ0,h.1];rfl,λi u s hu hs=>?_];have hl:=h.1
 by_cases c:i<tv.length
 . rw[List.getElem?_append_left c]at hu;rw[List.getElem?_append_left #[0]]at hs;exact h.2 i u s hu hs
 . rw [List.getElem?_append_right #[0]]at hu;rw[List.getElem?_append_right #[0]]at hs;have e1:i-tv.length=0:=by
    have:=(zW0 hu).1
    rw[qM0]at this;omega
   have e2:i-rs.length=0:=by omega
   rw[e1]at hu;rw[e2]at hs;cases hu;cases hs;exact a
def sU(rs:List Hr):Prop:=rs.length<=60/\∀r∈rs,r.ok 20
def oV (rs:List Hr):Str:=Txt.join ("\n":Str) (rs.map Hr.str)
theorem Ds(g:sU rs):((rs.map Hr.str).map (·.length)).sum+(rs.map Hr.str).length<=60000:=by
 have:=Bo (l:=rs.map Hr.str) (b:=900) λp hp=>by
  let%[r,hr|1]:=List.mem_map.mp hp;exact Hr.str_len (g.2 r hr)
 rw[zE0]at this ⊢;have h1:=g.1
 have:rs.length*900<=60*900:=Nat.mul_le_mul_right _ h1
 omega
theorem Dt(g:sU rs):(oV rs).length<=60000:=zP0 (vM _ _ ⋯) (Ds g)
abbrev nQ:Stmt:=top 69
abbrev tK:Stmt:=bp nQ 0
abbrev qr:Stmt:=bp nQ 1
abbrev tJ:Stmt:=bp nQ 2
abbrev tI:Stmt:=bp nQ 3
abbrev tH:Stmt:=bp nQ 4
abbrev nO:Stmt:=bp nQ 5
structure STxt(K:W.Frag)(mg:Str->Option Value)(C:Addr):Prop where
 cl:Cls K C
 nX:NoAttr K C "text"
 nR:NoAttr K C "row"
 nW:NoAttr K C "most_within"
 nP:NoAttr K C "most_parts"
 nL:NoAttr K C "place"
 nN:NoAttr K C "parts"
 mgC:mg "Scan"=some (.ref C)
theorem qI(f:Str)(v:V):∀(fs:List (Str×V))(u:V),fs.lookup f=some u->(cu f v fs).length=fs.length
 | [],u,h=>by cases h
 | (g,x)::r,u,h=>by
   unfold cu
   by_cases e:g=f
   . rw[zD0 e];rfl
   . rw [zA0 e];have e':(f==g)=false:=by simpa using λz=>e z.symm
     simp only[List.lookup,e']at h;rw[zM0,zM0,qI f v r u h]
theorem cf(f:Str)(v:V):∀fs:List (Str×V),(cu f v fs).length<=fs.length+1
 | []=>zH0 _
 | (g,u)::r=>by
   have:=cf f v r
   unfold cu
   split
   . simp
   . simp only[zM0];omega
structure SF(T:Str)(p n:Nat)(fs:List (Str×V)):Prop where
 text:fs.lookup ("text":Str)=some (.str T)
 mw:fs.lookup ("most_within":Str)=some (.int 8)
 mp:fs.lookup ("most_parts":Str)=some (.int 20)
 place:fs.lookup ("place":Str)=some (.int (p:Int))
 parts:fs.lookup ("parts":Str)=some (.int (n:Int))
 no1:fs.lookup ("enter":Str)=none
 no2:fs.lookup ("sees":Str)=none
 no3:fs.lookup ("take":Str)=none
 no4:fs.lookup ("word":Str)=none
 no5:fs.lookup ("finish":Str)=none
 len:fs.length<=6
theorem SF.toPlace    (h:SF T p n fs) (p':Nat):SF T p' n (cu "place" (.int (p':Int)) fs):=by
 erw[6,6,6,6,6,6,6,6,6,6,6]
 . rw[am,zA0 ⋯];exact h.text
 . rw[am,zA0 ⋯];exact h.mw
 . rw[am,zA0 ⋯];exact h.mp
 . rw[am,zD0 rfl]
 . rw[am,zA0 ⋯];exact h.parts
 . rw[am,zA0 ⋯];exact h.no1
 . rw[am,zA0 ⋯];exact h.no2
 . rw[am,zA0 ⋯];exact h.no3
 . rw[am,zA0 ⋯];exact h.no4
 . rw[am,zA0 ⋯];exact h.no5
 . rw[qI _ _ _ _ h.place];exact h.len
theorem SF.toParts    (h:SF T p n fs) (n':Nat):SF T p n' (cu "parts" (.int (n':Int)) fs):=by
 erw[6,6,6,6,6,6,6,6,6,6,6]
 . rw[am,zA0 ⋯];exact h.text
 . rw[am,zA0 ⋯];exact h.mw
 . rw[am,zA0 ⋯];exact h.mp
 . rw[am,zA0 ⋯];exact h.place
 . rw[am,zD0 rfl]
 . rw[am,zA0 ⋯];exact h.no1
 . rw[am,zA0 ⋯];exact h.no2
 . rw[am,zA0 ⋯];exact h.no3
 . rw[am,zA0 ⋯];exact h.no4
 . rw[am,zA0 ⋯];exact h.no5
 . rw[qI _ _ _ _ h.parts];exact h.len
def sfs (T:Str) (k:Int):List (Str×V):=cu "parts" (.int 0) (cu "place" (.int 0) (cu "most_parts" (.int 20) (cu "most_within" (.int 8) (cu "row" (.int k) (cu "text" (.str T) [])))))
theorem Gx(T:Str)(k:Int):SF T 0 0 (sfs T k):=by
 have no:∀m:Str,m≠"parts" -> m≠"place" -> m≠"most_parts" -> m≠"most_within" -> m≠"row" -> m≠"text" -> (sfs T k).lookup m=none:=λm h1 h2 h3 h4 h5 h6=>by
  unfold sfs;rw[am,zA0 h1,am,zA0 h2,am,zA0 h3,am,zA0 h4,am,zA0 h5,am,zA0 h6];rfl
 erw[6,6,6,6,6,no _ ⋯ ⋯ ⋯ ⋯ ⋯ ⋯,no _ ⋯ ⋯ ⋯ ⋯ ⋯ ⋯,no _ ⋯ ⋯ ⋯ ⋯ ⋯ ⋯,no _ ⋯ ⋯ ⋯ ⋯ ⋯ ⋯,no _ ⋯ ⋯ ⋯ ⋯ ⋯ ⋯,6]
 . unfold sfs;rw[am,zA0 ⋯,am,zA0 ⋯,am,zA0 ⋯,am,zA0 ⋯,am,zA0 ⋯,am,zD0 rfl]
 . unfold sfs;rw[am,zA0 ⋯,am,zA0 ⋯,am,zA0 ⋯,am,zD0 rfl]
 . unfold sfs;rw[am,zA0 ⋯,am,zA0 ⋯,am,zD0 rfl]
 . unfold sfs;rw[am,zA0 ⋯,am,zD0 rfl];rfl
 . unfold sfs;rw[am,zD0 rfl];rfl
 . unfold sfs;refine zP0 (cf _ _ _) (Nat.succ_le_succ (zP0 (cf _ _ _) (Nat.succ_le_succ (zP0 (cf _ _ _) (Nat.succ_le_succ (zP0 (cf _ _ _) (Nat.succ_le_succ (zP0 (cf _ _ _) (Nat.succ_le_succ (cf _ _ _))))))))))
def ScanAt(C:Addr)(H:Hp)(sc:Addr)(T:Str)(p n:Nat):Prop:=∃dx fs,H sc=some (.ins C dx fs)/\SF T p n fs
inductive spSInit(C:Addr)(vs:List V)(H:Hp)(Q:VK)(u_3:XK):Prop
 |mk:∀(g dx:Addr)(T:Str)(k:Int),vs=[.ref g,.str T,.int k,.int 8,.int 20]->H g=some (.ins C dx [])->(∀H',ScanAt C H' g T 0 0->SameBut g H H'->Q .non H')->spSInit C vs H Q u_3
theorem BD:FnScope ["self","text","row","most_within","most_parts"] ["self","text","row","most_within","most_parts"] (ai tK):=%[1,1,1,4,1,4|4]
theorem Cq   (F:Fun K "__init__" "Scan.__init__" tK f fd) (T:STxt K mg C):FnOk P w K mg base CX0 1 f fd ["self","text","row","most_within","most_parts"] (spSInit C):=by
 exists BD
 erw[g,dx,Tx,kr,1,hg,q]at h;erw[_,(aa (aN (pv 0) (pv 1) rfl) (aa (aN (pv 0) (pv 2) rfl) (aa (aN (pv 0) (pv 3) rfl) (aa (aN (pv 0) (pv 4) rfl) (aa (aN (pv 0) ae rfl) (ad (aN (pv 0) ae rfl))))))),6];erw[0,0,g,C,dx,[],1,hg,T.cl,T.nX,(by show 0<1000;decide),6];erw[0,0,g,C,dx,0,aI,T.cl,T.nR,(Nat.lt_of_le_of_lt (cf _ _ _) (by show 1<1000;decide)),6];erw[0,0,g,C,dx,0,aI,T.cl,T.nW,(Nat.lt_of_le_of_lt (cf _ _ _) (Nat.lt_of_le_of_lt (Nat.succ_le_succ (cf _ _ _)) (by show 2<1000;decide))),6];erw[0,0,g,C,dx,0,aI,T.cl,T.nP,(Nat.lt_of_le_of_lt (cf _ _ _) (Nat.lt_of_le_of_lt (Nat.succ_le_succ (zP0 (cf _ _ _) (Nat.succ_le_succ (cf _ _ _)))) (by show 3<1000;decide))),6];erw[0,g,C,dx,0,aI,T.cl,T.nL,(Nat.lt_of_le_of_lt (cf _ _ _) (Nat.lt_of_le_of_lt (Nat.succ_le_succ (zP0 (cf _ _ _) (Nat.succ_le_succ (zP0 (cf _ _ _) (Nat.succ_le_succ (cf _ _ _)))))) (by show 4<1000;decide))),6];erw[0,g,C,dx,0,aI,T.cl,T.nN,(Nat.lt_of_le_of_lt (cf _ _ _) (Nat.lt_of_le_of_lt (Nat.succ_le_succ (zP0 (cf _ _ _) (Nat.succ_le_succ (zP0 (cf _ _ _) (Nat.succ_le_succ (zP0 (cf _ _ _) (Nat.succ_le_succ (cf _ _ _)))))))) (by show 5<1000;decide))),6];exact q _ ⟨dx,sfs Tx kr,aI,Gx Tx kr⟩ ((SameBut.upd _).trans ((SameBut.upd _).trans ((SameBut.upd _).trans ((SameBut.upd _).trans ((SameBut.upd _).trans (SameBut.upd _))))))
theorem SF.size(h:SF T p n fs):fs.length<1000:=Nat.lt_of_le_of_lt h.len ⋯
inductive spEnter(C:Addr)(vs:List V)(H:Hp)(Q:VK)(u_3:XK):Prop
 |mk:∀(sc:Addr)(T:Str)(p n:Nat)(wi:Int),vs=[.ref sc,.int wi]->ScanAt C H sc T p n->wi<=8->n+1<=20->(∀H',ScanAt C H' sc T p (n+1)->SameBut sc H H'->Q .non H')->spEnter C vs H Q u_3
theorem zC:FnScope ["self","within"] ["self","within"] (ai qr):=%[1,1,1,4,1,4|4]
theorem zU   (F:Fun K "enter" "Scan.enter" qr f fd) (T:STxt K mg C):FnOk P w K mg base CX0 1 f fd ["self","within"] (spEnter C):=by
 exists zC
 erw[sc,Tx,p,n,wi,1,%[dx,fs,hs|sf],w10,n30,q]at h;refine⟨_,(aa (aN (pv 0) (ao aQ (ay (pv 0) rfl) ae) rfl)
  (ad (aG (PW.pt (fK (ah gK (pv 1) (ay (pv 0) rfl) (ax _)) (eN (ah gK (ay (pv 0) rfl) (ay (pv 0) rfl) (ax _))))) bw az))),?_⟩
 have sf':=sf.toParts (n+1);erw[0,sc,C,dx,fs,0,hs,T.cl,T.nN,sf.parts,2,0,sc,C,dx,fs,1,hs,T.cl,T.nN,sf.size,6];have hs':upd H sc (.ins C dx (cu "parts" (.int ((n:Int)+1)) fs)) sc=some (.ins C dx (cu "parts" (.int ((n+1:Nat):Int)) fs)):=aI;erw[0,0,sc,C,dx,_,0,hs',T.cl,T.nW,sf'.mw,2,0,6];refine aB #[0] ?_;erw[0,sc,C,dx,_,0,hs',T.cl,T.nN,sf'.parts,0,sc,C,dx,_,0,hs',T.cl,T.nP,sf'.mp,2,0,6];refine aB #[0] ?_;exact q _ ⟨dx,_,hs',sf'⟩ (SameBut.upd _)
inductive spSees(C:Addr)(vs:List V)(H:Hp)(Q:VK)(u_3:XK):Prop
 |mk:∀(sc:Addr)(T u:Str)(p n:Nat),vs=[.ref sc,.str u]->ScanAt C H sc T p n->Q (.bl (gn T u p)) H->spSees C vs H Q u_3
theorem BC:FnScope ["self","signs"] ["self","signs"] (ai tJ):=%[1,1,1,4,1,4|4]
theorem Cp   (F:Fun K "sees" "Scan.sees" tJ f fd) (T:STxt K mg C):FnOk P w K mg base CX0 1 f fd ["self","signs"] (spSees C):=by
 exists BC
 erw[sc,Tx,u,p,n,1,%[dx,fs,hs|sf],q]at h;erw[_,(ad (aq (eA PySem.F.plainAttrs_str PySem.F.slot_str_startswith PySem.F.type_str_startswith vG (ay (pv 0) rfl) %[1,ay (pv 0) rfl|aO]))),6];erw[0,sc,C,dx,fs,0,hs,T.cl,T.nX,sf.text,1,0,0,sc,C,dx,fs,0,hs,T.cl,T.nL,sf.place,Tx,u,0,1,q]
inductive spTake'(C:Addr)(vs:List V)(H:Hp)(Q:VK)(u_3:XK):Prop
 |mk:∀(sc:Addr)(T u:Str)(p n:Nat),vs=[.ref sc,.str u]->ScanAt C H sc T p n->gn T u p=true->u.length<=10->(∀H',ScanAt C H' sc T (p+u.length) n->SameBut sc H H'->Q .non H')->spTake' C vs H Q u_3
theorem BA:FnScope ["self","signs"] ["self","signs"] (ai tI):=%[1,1,1,4,1,4|4]
theorem Co   (F:Fun K "take" "Scan.take" tI f fd) (B:Bl mg) (T:STxt K mg C) (mS:Meth K C "sees" fS) (GS:FnOk P w K mg base CX0 1 fS fdS ["self","signs"] (spSees C)) (bS:Binds K fdS ["self","signs"] []):FnOk P w K mg base CX0 2 f fd ["self","signs"] (spTake' C):=by
 exists BA
 erw[sc,Tx,u,p,n,1,S,hu,u10,q]at h;have hr1:Room 1 _:=hr.mono ⋯;refine⟨_,(aa (aG (gI (dN (bQ (pv 0) T.cl mS GS hr1 bS .nil aY %[1|aO]))) bw az)
  (ad (aN (pv 0) (ao aQ (ay (pv 0) rfl) (aE cO rfl B.len PySem.boot_len %[1|aO])) rfl))),?_⟩
 let%[dx,fs,hs|sf]:=id S;erw[0,sc,dx,fs,1,hs,sf.no2,0,sc,Tx,u,p,n,1,S,0,6];rw[hu];refine cW ?_;erw[0,sc,C,dx,fs,0,hs,T.cl,T.nL,sf.place,0,u,1,ca #[0],2,0,sc,C,dx,fs,1,hs,T.cl,T.nL,sf.size,6];have hs':upd H sc (.ins C dx (cu "place" (.int ((p:Int)+(u.length:Int))) fs)) sc=some (.ins C dx (cu "place" (.int ((p+u.length:Nat):Int)) fs)):=by rw[aI,Int.natCast_add]
 exact q _ %[dx,_,hs'|sf.toPlace _] (SameBut.upd _)
def wv(r:List Nat):Prop:=r=[]∨∃c r',r=c::r'/\(c=32∨c=40∨c=41)
inductive spWord(C:Addr)(vs:List V)(H:Hp)(Q:VK)(u_3:XK):Prop
 |mk:∀(sc:Addr)(T:Str)(p n:Nat)(x r:List Nat),vs=[.ref sc]->ScanAt C H sc T p n->T.length<=1000->p<=T.length->T.cps.toList.drop p=x++r->(∀c∈x,isIn ENDS c=false)->wv r->(∀H',ScanAt C H' sc T (p+x.length) n->SameBut sc H H'->Q (.str (stl x)) H')->spWord C vs H Q u_3
theorem Ik:FnScope ["self","start"] ["self"] (ai tH):=%[1,1,1,4,1,4|4]
theorem Cn   (F:Fun K "word" "Scan.word" tH f fd) (B:Bl mg) (X:Tx K mg) (T:STxt K mg C):FnOk P w K mg base CX0 1 f fd ["self"] (spWord C):=by
 exists Ik
 erw[sc,Tx,p,n,x,r,1,%[dx,fs,hs|sf],tl,pl,hd,xl,er,q]at h;erw[te,ge]at X.ends;refine⟨_,(aa #[aj,1,Ik,ay (pv 0) rfl]
  (aa (gt PassesOwn.never (PW.pt (lG (ah dP (ay (pv 0) rfl) (aE cO rfl B.len PySem.boot_len %[ay (pv 0) rfl|aO]) (ax _)) (kE (ah uf (aJ re (ay (pv 0) rfl) (ay (pv 0) rfl) (λ_ _=>rfl)) (cX (v:=.str ENDS) rfl ge %[|0]) (by rfl'))))) (ad (aN (pv 0) (ao aQ (ay (pv 0) rfl) ae) rfl)))
  (ad (aq (eR wN (ay (pv 0) rfl) (eP (pv 1)) (eP (ay (pv 0) rfl))))))),?_⟩
 have L:Tx.cps.toList.length=Tx.length:=by rw[Array.length_toList];rfl
 have hlen:Tx.length=p+(x.length+r.length):=by
  have:=congrArg List.length hd
  rw[List.length_drop,zJ0,L]at this;omega
 erw[0,sc,C,dx,fs,0,hs,T.cl,T.nL,sf.place,6];erw[λm σ H'=>∃j:Nat,j<=x.length/\σ=[some (.ref sc),some (.int (p:Int))]/\ScanAt C H' sc Tx (p+j) n/\SameBut sc H H'/\m=x.length-j,%[_,(0),zT0 _,1,%[dx,fs,hs|sf],SameBut.refl _ _|1],6];rintro m σ H1 ⟨j,hj,rfl,⟨dx1,fs1,hs1,sf1⟩,S1,rfl⟩;erw[0,sc,C,dx1,fs1,0,hs1,T.cl,T.nL,sf1.place,0,sc,C,dx1,fs1,0,hs1,T.cl,T.nX,sf1.text,Tx,1,ca tl,2,0,6];have sl:j=x.length->Txt.slice Tx (some (p:Int)) (some ((p+j:Nat):Int))=stl x:=λej=>by
  have es:Txt.slice Tx (some (p:Int)) (some ((p+j:Nat):Int))=_:=StrLaws.sliceText_plain (i:=(p:Int)) (j:=((p+j:Nat):Int)) %[3,3|by rw[L];omega];rw[es];refine En ?_;show(Tx.cps.toList.drop (p:Int).toNat).take (((p+j:Nat):Int)-(p:Int)).toNat=x;rw[show(p:Int).toNat=p by omega,show(((p+j:Nat):Int)-(p:Int)).toNat=x.length by omega,hd,List.take_left'];rfl
 by_cases c1:(((p+j:Nat):Int))<(Tx.length:Int)
 . refine aS c1 ?_;have hk:p+j<Tx.cps.toList.length:=by rw[L];omega
   have ha:atI Tx.cps.toList ((p+j:Nat):Int)=some Tx.cps.toList[p+j]:=cD (zQ0 hk);have hx:Tx.cps.toList[p+j]?=(x++r)[j]?:=by rw[←hd,List.getElem?_drop]
   erw[0,sc,C,dx1,fs1,0,hs1,T.cl,T.nX,sf1.text,0,sc,C,dx1,fs1,0,hs1,T.cl,T.nL,sf1.place,Tx,2,ca tl,ha,2,0,6]
   by_cases c2:j<x.length
   . have ec:Tx.cps.toList[p+j]=x[j]:=by
      rw[zQ0 hk,List.getElem?_append_left c2,zQ0 c2]at hx;exact zU0 hx
     have en:(!isIn ENDS Tx.cps.toList[p+j])=true:=by rw[ec,xl _ (qR0 c2)];rfl
     have en':(!(!(Builtin.Str.occurrences ENDS %[|#[Tx.cps.toList[p+j]]] 0 ENDS.length 1).isEmpty))=true:=en;rw[en'];erw[_,λ_ _ h=>h,6];erw[0,sc,C,dx1,fs1,0,hs1,T.cl,T.nL,sf1.place,2,0,sc,C,dx1,fs1,1,hs1,T.cl,T.nL,sf1.size,6];have hs':upd H1 sc (.ins C dx1 (cu "place" (.int (((p+j:Nat):Int)+1)) fs1)) sc=some (.ins C dx1 (cu "place" (.int ((p+(j+1):Nat):Int)) fs1)):=by
      rw[aI,show((p+j:Nat):Int)+1=((p+(j+1):Nat):Int) by omega]
     erw[_,3,j+1,3,1,%[dx1,_,hs'|sf1.toPlace _],S1.trans (SameBut.upd _),1]
   . have ej:j=x.length:=by omega
     have en:(!isIn ENDS Tx.cps.toList[p+j])=false:=by
      rcases er with rfl | ⟨c,r',rfl,hc⟩
      . rw[List.length_nil]at hlen;omega
      . rw [zQ0 hk,List.getElem?_append_right #[0],show j-x.length=0 by omega]at hx;have ec:Tx.cps.toList[p+j]=c:=zU0 hx;rw[ec];rcases hc with rfl | rfl | rfl
        . rw[ends_in.1];rfl
        . rw[ends_in.2.1];rfl
        . rw[ends_in.2.2];rfl
     have en':(!(!(Builtin.Str.occurrences ENDS %[|#[Tx.cps.toList[p+j]]] 0 ENDS.length 1).isEmpty))=false:=en;rw[en'];erw[0,sc,C,dx1,fs1,0,hs1,T.cl,T.nX,sf1.text,0,0,0,sc,C,dx1,fs1,0,hs1,T.cl,T.nL,sf1.place,0,Tx,1,ca tl,6];rw[sl ej];rw[ej]at sf1;exact q H1 ⟨dx1,fs1,hs1,sf1⟩ S1
 . refine aB c1 ?_;have ej:j=x.length:=by omega
   erw[0,sc,C,dx1,fs1,0,hs1,T.cl,T.nX,sf1.text,0,0,0,sc,C,dx1,fs1,0,hs1,T.cl,T.nL,sf1.place,0,Tx,1,ca tl,6];rw[sl ej];rw[ej]at sf1;exact q H1 ⟨dx1,fs1,hs1,sf1⟩ S1
inductive spFinish(C:Addr)(vs:List V)(H:Hp)(Q:VK)(u_3:XK):Prop
 |mk:∀(sc:Addr)(T:Str)(n:Nat),vs=[.ref sc]->ScanAt C H sc T T.length n->T.length<=1000->Q .non H->spFinish C vs H Q u_3
theorem wS:FnScope ["self"] ["self"] (ai nO):=%[1,1,1,4,1,4|4]
theorem xx   (F:Fun K "finish" "Scan.finish" nO f fd) (B:Bl mg) (T:STxt K mg C):FnOk P w K mg base CX0 1 f fd ["self"] (spFinish C):=by
 exists wS
 erw[sc,Tx,n,1,%[dx,fs,hs|sf],tl,q]at h;erw[_,(ad (aG (ah mr (ay (pv 0) rfl) (aE cO rfl B.len PySem.boot_len %[ay (pv 0) rfl|aO]) (ax _)) bw az)),6];erw[0,sc,C,dx,fs,0,hs,T.cl,T.nL,sf.place,0,sc,C,dx,fs,0,hs,T.cl,T.nX,sf.text,Tx,1,ca tl,1,0,6];show if(!decide (V.int (Tx.length:Int)=V.int (Tx.length:Int)))=true then _ else _
 rw[decide_eq_true rfl];exact cW q
theorem DB(n p:Nat):PySem.fromIndex n (p:Int)=p:=by
 unfold PySem.fromIndex;rw[zA0 #[0]];omega
theorem yA(T u:Str)(p:Nat):Builtin.Str.subAt T u p=decide ((T.cps.toList.drop p).take u.length=u.cps.toList):=by
 unfold Builtin.Str.subAt;have e:(T.cps.extract p (p+u.length)).toList=(T.cps.toList.drop p).take u.length:=by
  rw[Array.toList_extract,List.extract_eq_drop_take]
  congr 1
  omega
 by_cases c:(T.cps.toList.drop p).take u.length=u.cps.toList
 . rw [decide_eq_true c]
   have:T.cps.extract p (p+u.length)=u.cps:=Array.toList_inj.mp (e.trans c)
   rw[this]
   simp
 . rw [decide_eq_false c]
   have:¬ T.cps.extract p (p+u.length)=u.cps:=λz=>c (by rw[←e,z])
   simpa using this
theorem mI(T:Str):T.cps.toList.length=T.length:=by rw[Array.length_toList];rfl
theorem kM{T:Str}{p:Nat}{u v:List Nat}(h:T.cps.toList.drop p=u++v)(hp:p<=T.length):p+u.length+v.length=T.length:=by
 have:=congrArg List.length h
 rw[List.length_drop,zJ0,mI]at this;omega
theorem cg{T:Str}{p:Nat}{u v:List Nat}(h:T.cps.toList.drop p=u++v):T.cps.toList.drop (p+u.length)=v:=by
 rw[←List.drop_drop,h,List.drop_left]
theorem dJ{T u:Str}{p:Nat}{r:List Nat}(h:T.cps.toList.drop p=u.cps.toList++r)(hp:p<=T.length):gn T u (p:Int)=true:=by
 unfold gn;have hl:=kM h hp;rw[mI]at hl;rw[DB,yA,decide_eq_true #[0],h,←mI u,List.take_left,decide_eq_true rfl];rfl
theorem zy {T:Str} {p:Nat} {c:Nat} {r:List Nat} (h:T.cps.toList.drop p=c::r) (hc:c≠40):gn T ("(":Str) (p:Int)=false:=by
 unfold gn;have l1:(("(":Str)).length=1:=by decide
 rw[DB,yA,h,uC,l1]
 have:¬ (c::r).take 1=[40]:=λz=>hc (by simpa using z)
 rw[decide_eq_false this,Bool.and_false]
theorem cR(S:ScanAt C H sc T p n)(s:SameBut sc H H'):bJ H H':=λa xs h=>s a _ (λz=>by
 erw[dx,fs,e,_]at S;rw[z,e]at h;cases h) h
theorem ScanAt.same(S:ScanAt C H sc T p n)(s:Same H H'):ScanAt C H' sc T p n:=by
 erw[dx,fs,e,sf]at S;erw[dx,fs,s _ _ e,sf]
structure Mths(P:Program)(w:World)(K:W.Frag)(mg:Str->Option Value)(base:Heap)(C fE fS fT fW fF:Addr)(dE dS dT dW dF:FuncData):Prop where
 mE:Meth K C "enter" fE
 gE:FnOk P w K mg base CX0 1 fE dE ["self","within"] (spEnter C)
 bE:Binds K dE ["self","within"] []
 mS:Meth K C "sees" fS
 gS:FnOk P w K mg base CX0 1 fS dS ["self","signs"] (spSees C)
 bS:Binds K dS ["self","signs"] []
 mT:Meth K C "take" fT
 gT:FnOk P w K mg base CX0 2 fT dT ["self","signs"] (spTake' C)
 bT:Binds K dT ["self","signs"] []
 mW:Meth K C "word" fW
 gW:FnOk P w K mg base CX0 1 fW dW ["self"] (spWord C)
 bW:Binds K dW ["self"] []
 mF:Meth K C "finish" fF
 gF:FnOk P w K mg base CX0 1 fF dF ["self"] (spFinish C)
 bF:Binds K dF ["self"] []
theorem DE:∀c:Nat,c<62->42<=c->isIn ENDS c=false:=by decide
theorem Hs:∀c:Fin 26,isIn FIG (97+c.val)=false:=by decide
theorem Dp{c:Nat}(h:97<=c/\c<=122):isIn FIG c=false:=by
 have:=Hs %[c-97|3]
 rwa [show 97+(%[c-97|3]:Fin 26).val=c by show 97+(c-97)=c;omega]at this
theorem AD(h:NmK x):kQ x=false:=by
 unfold kQ;erw[hl,h1,_,_]at h
 have:x.cps.toList.all (isIn FIG)=false:=by
  cases e:x.cps.toList with
  | nil=>
    have:=dC x
    unfold cd at this;rw[e]at this
    simp at this
    omega
  | cons c r=>
    have:=Dp (hl c (by rw[e];exact qC0))
    rw[List.all_cons,this];rfl
 rw[this,Bool.and_false]
def oC(l:List Nat):Prop:=∀c∈l,isIn ENDS c=false
theorem dz{l:List Nat}(h:∀c∈l,97<=c/\c<=122):oC l:=λc hc=>Aw (h c hc)
theorem qP{l:List Nat}(h:∀c∈l,42<=c/\c<=61):oC l:=λc hc=>DE c (by have:=h c hc;omega) (h c hc).1
theorem qO{n:Int}(h:0<=n):oC (cd (bX n)):=qP λc hc=>by have:=kI h c hc;omega
theorem zR(h:oC l)(h1:1<=l.length)(r:List Nat):∃c r',l++r=c::r'/\c≠40:=by
 cases l with
 | nil=>cases h1
 | cons c l'=>
   erw[c,l'++r,1,λe=>?_]
   have:=h c qC0
   rw[e,ends_in.2.1]at this;cases this
inductive spNextT(C:Addr)(n:Nat)(vs:List V)(H:Hp)(Q:VK)(u_3:XK):Prop
 |mk:∀(sc:Addr)(wi:Int)(T:Str)(p k:Nat)(t:Tm)(r:List Nat),vs=[.ref sc,.int wi]->ScanAt C H sc T p k->T.length<=1000->p<=T.length->T.cps.toList.drop p=[32]++(t.txt++r)->wv r->t.ok->t.depth<=n->wi+(t.depth:Int)<=9->k+t.size<=20->(∀(v:V)(H':Hp),TmAt H' v t->ScanAt C H' sc T (p+1+t.txt.length) (k+t.size)->SameBut sc H H'->Q v H')->spNextT C n vs H Q u_3
inductive spTB(C:Addr)(n:Nat)(vs:List V)(H:Hp)(Q:VK)(u_3:XK):Prop
 |mk:∀(sc:Addr)(wi:Int)(T:Str)(p k:Nat)(t:Tm)(r:List Nat),vs=[.ref sc,.int wi]->ScanAt C H sc T p (k+1)->T.length<=1000->p<=T.length->T.cps.toList.drop p=t.txt++r->t.ok->((∃w a,t=.ask w a)∨∃s a b,t=.op s a b)->t.depth<=n+1->wi+(t.depth:Int)<=9->k+t.size<=20->(∀(v:V)(H':Hp),TmAt H' v t->ScanAt C H' sc T (p+t.txt.length) (k+t.size)->SameBut sc H H'->Q v H')->spTB C n vs H Q u_3
theorem cQ:FnScope ["scan","within","word","first","term"] ["scan","within"] (ai dG):=%[1,1,1,4,1,4|4]
theorem Ej {n:Nat}   (F:Fun K "term_in_bracket" "term_in_bracket" dG f fd) (X:Tx K mg) (T:STxt K mg C) (M:Mths P w K mg base C fE fS fT fW fF dE dS dT dW dF) (de:Cal P w K mg base (2*n+3) "next_term" ["scan","within"] (spNextT C n)):FnOk P w K mg base CX0 (2*n+4) f fd ["scan","within"] (spTB C n):=by
 exists cQ
 erw[sc,wi,Tx,p,k,t,r,1,S0,tl,pl,hd,ok,kind,dn,wd,k20,q]at h;erw[ja,gj,hj]at X.asking;erw[sa,gs,hs]at X.signs;have hr1:Room 1 _:=hr.mono #[0];have hr2:Room 2 _:=hr.mono #[0];refine⟨_,(aa (aR (bQ (pv 0) T.cl M.mT M.gT hr2 M.bT .nil aY %[au|aO]))
  (aa #[aj,2,cQ,bq (pv 0) T.cl M.mW M.gW hr1 M.bW .nil aY]
  (aa #[aj,3,cQ,ag de hr #[0] rfl %[0,ao aQ (pv 1) ae|aO]]
  (aa (aG (ah fQ (pv 2) (cX (v:=.ref ja) rfl gj rfl) (by rfl')) (ad #[aj,4,cQ,aF %[2,3|aO]]) (ad (aG (ah fQ (pv 2) (cX (v:=.ref sa) rfl gs rfl) (by rfl')) (ad #[aj,4,cQ,aF %[au,2,3,ag de hr #[0] rfl %[0,ao aQ (pv 1) ae|aO]|aO]]) bw)))
  (aa (aR (bQ (pv 0) T.cl M.mT M.gT hr2 M.bT .nil aY %[au|aO]))
  (ad (aq (pv 4)))))))),?_⟩
 have l1:(("(":Str)).length=1:=by decide
 have l3:((")":Str)).length=1:=by decide
 let%[dx0,fs0,hs0|sf0]:=id S0;rcases kind with⟨wd',a,rfl⟩ | ⟨o,a,b,rfl⟩
 . erw[okw,oka]at ok;let%[_,w1,wl|_]:=yr wd' okw;have da:a.depth<=n:=Nat.le_of_succ_le_succ dn;have ed:(((Tm.ask wd' a).depth:Nat):Int)=(a.depth:Int)+1:=by show((a.depth+1:Nat):Int)=_;omega
   have es:(Tm.ask wd' a).size=a.size+1:=rfl;have wlen:(cd wd').length=wd'.length:=dC _;have hd0:Tx.cps.toList.drop p=[40]++(cd wd'++([32]++(a.txt++([41]++r)))):=by
    rw[hd];show([40]++(cd wd'++([32]++(a.txt++[41]))))++r=_
    simp
   have tlen:(Tm.ask wd' a).txt.length=1+(wd'.length+(1+(a.txt.length+1))):=by
    show([40]++(cd wd'++([32]++(a.txt++[41])))).length=_;simp only[zJ0,zM0,List.length_nil,wlen]
   have hl0:=kM hd0 pl;simp only[zJ0,zM0,List.length_nil,wlen]at hl0;have hd1:=cg hd0;have hd2:=cg hd1;have hd3:=cg hd2;have hd4:=cg hd3;simp only[zM0,List.length_nil,wlen]at hd1 hd2 hd3 hd4;erw[0,sc,dx0,fs0,1,hs0,sf0.no3,sc,Tx,_,p,0,S0,dJ (r:=cd wd'++([32]++(a.txt++([41]++r)))) (by rw[uC];exact hd0) pl,by rw[l1];decide,λH1 S1 B1=>?_];rw[l1]at S1;let%[dx1,fs1,hs1|sf1]:=id S1;erw[0,sc,dx1,fs1,1,hs1,sf1.no4,sc,Tx,_,_,cd wd',0,S1,tl,3,hd1,dz wl,.inr %[(32),0|.inl rfl],λH2 S2 B2=>?_];rw[wlen]at S2;erw[0,0,2,sc,wi+1,Tx,_,_,a,0,S2,tl,3,hd2,.inr %[(41),r,1|.inr (.inr rfl)],oka,da,3,3,λv1 H3 T3 S3 B3=>?_];erw[0,ja,0,.inr (hj _),1,⋯,0,6];have einj:inV (.str (stl (cd wd'))) (askW.map V.str)=true:=by rw[show stl (cd wd')=wd' from lq _,jz,decide_eq_true okw]
   rw[einj];refine ei ?_;erw[0,0,(by show 2<=sizeLine;decide),λc hc=>?_];have G:=zB0 hc (.tup [.str (stl (cd wd')),v1]);have S4:=S3.same G;have ec:upd H3 c (.tup [.str (stl (cd wd')),v1]) c=some (.tup [.str wd',v1]):=aI;have T4:=T3.mono (aX G);generalize upd H3 c (.tup [.str (stl (cd wd')),v1])=H4 at G S4 ec T4;let%[dx4,fs4,hs4|sf4]:=id S4;erw[0,sc,dx4,fs4,1,hs4,sf4.no3,sc,Tx,_,_,0,S4,dJ (r:=r) (by rw[De,show p+1+wd'.length+1+a.txt.length=p+(0+1)+wd'.length+(0+1)+a.txt.length by omega];exact hd4) #[0],by rw[l3];decide,λH5 S5 B5=>?_];rw[l3]at S5;have k5:=cR S4 B5;erw[0,6];rw[show p+1+wd'.length+1+a.txt.length+1=p+(Tm.ask wd' a).txt.length by rw[tlen];omega,show k+1+a.size=k+(Tm.ask wd' a).size by rw[es];omega]at S5;exact q _ _ (.ask (k5 _ _ ec) (T4.mono k5)) S5 (B1.trans (B2.trans (B3.trans ((zI0 G).trans B5))))
 . erw[oko,oka,okb]at ok;let%[o1,ol|no]:=sX o oko;have dd:a.depth<=n/\b.depth<=n/\wi+(a.depth:Int)<=8/\wi+(b.depth:Int)<=8:=by
    have e1:(Tm.op o a b).depth=max a.depth b.depth+1:=rfl;rw[e1]at dn wd;omega
   have es:(Tm.op o a b).size=a.size+b.size+1:=rfl;have wlen:(cd o).length=o.length:=dC _;have hd0:Tx.cps.toList.drop p=[40]++(cd o++([32]++(a.txt++([32]++(b.txt++([41]++r)))))):=by
    rw[hd];show([40]++(cd o++([32]++(a.txt++([32]++(b.txt++[41]))))))++r=_
    simp
   have tlen:(Tm.op o a b).txt.length=1+(o.length+(1+(a.txt.length+(1+(b.txt.length+1))))):=by
    show([40]++(cd o++([32]++(a.txt++([32]++(b.txt++[41])))))).length=_;simp only[zJ0,zM0,List.length_nil,wlen]
   have hl0:=kM hd0 pl;simp only[zJ0,zM0,List.length_nil,wlen]at hl0;have hd1:=cg hd0;have hd2:=cg hd1;have hd3:=cg hd2;have hd4:=cg hd3;have hd5:=cg hd4;have hd6:=cg hd5;simp only[zM0,List.length_nil,wlen]at hd1 hd2 hd3 hd4 hd5 hd6;erw[0,sc,dx0,fs0,1,hs0,sf0.no3,sc,Tx,_,p,0,S0,dJ (r:=cd o++([32]++(a.txt++([32]++(b.txt++([41]++r)))))) (by rw[uC];exact hd0) pl,by rw[l1];decide,λH1 S1 B1=>?_];rw[l1]at S1;let%[dx1,fs1,hs1|sf1]:=id S1;erw[0,sc,dx1,fs1,1,hs1,sf1.no4,sc,Tx,_,_,cd o,0,S1,tl,3,hd1,qP ol,.inr %[(32),0|.inl rfl],λH2 S2 B2=>?_];rw[wlen]at S2;erw[0,0,2,sc,wi+1,Tx,_,_,a,0,S2,tl,3,hd2,.inr %[(32),0|.inl rfl],oka,dd.1,3,3,λv1 H3 T3 S3 B3=>?_];erw[0,ja,0,.inr (hj _),1,⋯,0,6];have einj:inV (.str (stl (cd o))) (askW.map V.str)=false:=by rw[show stl (cd o)=o from lq _,jz,decide_eq_false no]
   rw[einj];refine cW ?_;erw[0,sa,0,.inr (hs _),1,⋯,0,6];have eins:inV (.str (stl (cd o))) (signW.map V.str)=true:=by rw[show stl (cd o)=o from lq _,jz,decide_eq_true oko]
   rw [eins];refine ei ?_;have hd4':Tx.cps.toList.drop (p+1+o.length+1+a.txt.length)=[32]++(b.txt++([41]++r)):=by
    rw[show p+1+o.length+1+a.txt.length=p+(0+1)+o.length+(0+1)+a.txt.length by omega];exact hd4
   erw[0,0,0,0,2,sc,wi+1,Tx,_,_,b,0,S3,tl,3,hd4',.inr %[(41),r,1|.inr (.inr rfl)],okb,dd.2.1,3,3,λv2 H4 T4 S4 B4=>?_];have T3':=T3.mono (cR S3 B4);erw[(by show 4<=sizeLine;decide),λc hc=>?_];have G:=zB0 hc (.tup [.str "op",.str (stl (cd o)),v1,v2]);have S5:=S4.same G;have ec:upd H4 c (.tup [.str "op",.str (stl (cd o)),v1,v2]) c=some (.tup [.str "op",.str o,v1,v2]):=aI;have T5:=T4.mono (aX G);have T5':=T3'.mono (aX G);generalize upd H4 c (.tup [.str "op",.str (stl (cd o)),v1,v2])=H5 at G S5 ec T5 T5';let%[dx5,fs5,hs5|sf5]:=id S5;erw[0,sc,dx5,fs5,1,hs5,sf5.no3,sc,Tx,_,_,0,S5,dJ (r:=r) (by rw[De,show p+1+o.length+1+a.txt.length+1+b.txt.length=p+(0+1)+o.length+(0+1)+a.txt.length+(0+1)+b.txt.length by omega];exact hd6) #[0],by rw[l3];decide,λH6 S6 B6=>?_];rw[l3]at S6;have k6:=cR S5 B6;erw[0,6];rw[show p+1+o.length+1+a.txt.length+1+b.txt.length+1=p+(Tm.op o a b).txt.length by rw[tlen];omega,show k+1+a.size+b.size=k+(Tm.op o a b).size by rw[es];omega]at S6;exact q _ _ (.op (k6 _ _ ec) (T5'.mono k6) (T5.mono k6)) S6 (B1.trans (B2.trans (B3.trans (B4.trans ((zI0 G).trans B6)))))
theorem q0:FnScope ["scan","within","word"] ["scan","within"] (ai iy):=%[1,1,1,4,1,4|4]
theorem uz{n:Int}(h:0<=n):bX n∉plainW:=λhm=>by
 let%[_,w1,wl|_]:=mo _ hm;cases e:cd (bX n)with
 | nil=>
   have:=dC (bX n)
   rw[e]at this
   simp at this
   omega
 | cons c r=>
   have h1:=kI h c (by rw[e];exact qC0);have h2:=wl c (by show c∈cd (bX n);rw[e];exact qC0);omega
theorem xj:∀w∈plainW,w∈kept:=by decide
theorem EV {n:Nat}   (F:Fun K "next_term" "next_term" iy f fd) (B:Bl mg) (X:Tx K mg) (T:STxt K mg C) (M:Mths P w K mg base C fE fS fT fW fF dE dS dT dW dF) (eY:Cal P w K mg base 1 "is_name" ["text"] (spTxt jE)) (cj:Cal P w K mg base 1 "is_figures" ["text"] (spTxt kQ)) (u9:Cal P w K mg base (2*n+4) "term_in_bracket" ["scan","within"] (spTB C n)):FnOk P w K mg base CX0 (2*(n+1)+3) f fd ["scan","within"] (spNextT C (n+1)):=by
 exists q0
 erw[sc,wi,Tx,p,k,t,r,1,S0,tl,pl,hd,er,ok,dn,wd,k20,q]at h;erw[ja,gj,hj]at X.plain;have hr1:Room 1 _:=hr.mono #[0];have hr2:Room 2 _:=hr.mono #[0];refine⟨_,(aa (aR (bQ (pv 0) T.cl M.mT M.gT hr2 M.bT .nil aY %[au|aO]))
  (aa (aR (bQ (pv 0) T.cl M.mE M.gE hr1 M.bE .nil aY %[1|aO]))
  (aa (aG (dN (bQ (pv 0) T.cl M.mS M.gS hr1 M.bS .nil aY %[au|aO])) (ad (aq (ag u9 hr #[0] rfl %[0,1|aO]))) az)
  (aa #[aj,2,q0,bq (pv 0) T.cl M.mW M.gW hr1 M.bW .nil aY]
  (aa (aG (ah fQ (pv 2) (cX (v:=.ref ja) rfl gj rfl) (by rfl')) (ad (aq (aF %[2|aO]))) az)
  (aa (aG (dN (ag cj hr #[0] rfl %[2|aO])) (ad (aq (aF %[au,bi lh rfl B.int gZ %[2|aO]|aO]))) az)
  (aa (aG (gI (dN (ag eY hr #[0] rfl %[2|aO]))) bw az)
  (ad (aq (aF %[au,2|aO])))))))))),?_⟩
 have l2:((" ":Str)).length=1:=by decide
 have dp:=t.depth_pos;have sp:=t.size_pos;have hl0:=kM hd pl;have hd1:=cg hd;simp only[zJ0,zM0,List.length_nil]at hl0 hd1;let%[dx0,fs0,hs0|sf0]:=id S0;erw[0,sc,dx0,fs0,1,hs0,sf0.no3,sc,Tx,_,p,0,S0,dJ (r:=t.txt++r) (by rw[lH];exact hd) pl,by rw[l2];decide,λH1 S1 B1=>?_];rw[l2]at S1;let%[dx1,fs1,hs1|sf1]:=id S1;erw[0,sc,dx1,fs1,1,hs1,sf1.no1,0,sc,Tx,_,k,wi,1,S1,3,3,λH2 S2 B2=>?_];let%[dx2,fs2,hs2|sf2]:=id S2;erw[0,sc,dx2,fs2,1,hs2,sf2.no2,sc,Tx,_,_,0,S2,0,6];have shape:(((∃w a,t=.ask w a)∨∃s a b,t=.op s a b)/\∃z,t.txt=40::z)∨∃x:Str,t.txt=cd x/\oC (cd x)/\1<=x.length/\t.size=1/\((t=.plain x/\x∈plainW)∨(∃m,t=.num m/\x=bX m/\0<=m/\m<1000000000000)∨(t=.box x/\NmK x)):=by
  cases t with
  | ask w a=>exact .inl %[.inl %[w,a|1]|0]
  | op s a b=>exact .inl %[.inr %[s,a,b|1]|0]
  | plain x=>
    have okx:x∈plainW:=ok;let%[_,w1,wl|_]:=mo x okx;exact .inr %[x,1,dz wl,w1,1|.inl %[1|okx]]
  | num m=>exact .inr %[bX m,1,qO ok.1,vD ok.1,1|.inr (.inl %[m,1,1,ok.1|ok.2])]
  | box x=>
    have okx:NmK x:=ok;exact .inr %[x,1,dz okx.1,okx.2.1,1|.inr (.inr %[1|okx])]
 rcases shape with⟨kind,z,ez⟩ | ⟨x,et,pc,x1,s1,kd⟩
 . have hs:gn Tx ("(":Str) ((p+1:Nat):Int)=true:=dJ (r:=z++r) (by rw[uC];show _=40::(z++r);rw[hd1,ez];rfl) #[0];rw[hs];refine ei ?_;erw[0,0,sc,wi,Tx,p+1,k,t,r,1,S2,tl,3,hd1,ok,kind,dn,wd,k20,λv H3 T3 S3 B3=>?_];exact q v H3 T3 S3 (B1.trans (B2.trans B3))
 let%[c,r',hc|c40]:=zR pc (by rw[dC];exact x1) r;have hd':Tx.cps.toList.drop (p+1)=cd x++r:=by rw[hd1,et]
 rw[zy (hd'.trans hc) c40];refine cW ?_;erw[0,sc,dx2,fs2,1,hs2,sf2.no4,sc,Tx,_,_,cd x,r,1,S2,tl,3,hd',pc,er,λH3 S3 B3'=>?_];rw[show stl (cd x)=x from lq _];rw[←et,←s1]at S3;have B3:SameBut sc H H3:=B1.trans (B2.trans B3');erw[0,ja,0,.inr (hj _),1,⋯,0,6];show if inV (.str x) (plainW.map V.str)=true then _ else _
 rw[jz];rcases kd with⟨rfl,okx⟩ | ⟨m,rfl,rfl,m0,m1⟩ | ⟨rfl,okx⟩
 . refine aS okx ?_;erw[0,(by show 1<=sizeLine;decide),λc hc=>?_];have G:=zB0 hc (.tup [.str x]);exact q _ _ (.plain aI) (S3.same G) (B3.trans (zI0 G))
 . refine aB (uz m0) ?_;have nl:=jw m0 m1;erw[0,bX m,1,3,λH4 S4=>%[0|6]];rw[yL m0 m1];refine ei ?_;erw[0,bX m,m,1,yK m0 m1,3,(by show 2<=sizeLine;decide),λc hc=>?_];have G:=zB0 hc (.tup [.str "num",.int m]);exact q _ _ (.num aI) ((S3.same S4).same G) (B3.trans (zI0 (S4.trans G)))
 . let%[xl,_,x6|xk]:=id okx;refine aB (λh=>xk (xj x h)) ?_;erw[0,x,1,3,λH4 S4=>%[0|6]];rw[AD okx];refine cW ?_;erw[0,x,1,3,λH5 S5=>%[0|6]];rw[yR okx];refine cW ?_;erw[0,(by show 2<=sizeLine;decide),λc hc=>?_];have G:=zB0 hc (.tup [.str "box",.str x]);exact q _ _ (.box aI) (((S3.same S4).same S5).same G) (B3.trans (zI0 (S4.trans (S5.trans G))))
theorem EU  :FnOk P w K mg base CX0 3 f fd ["scan","within"] (spNextT C 0):=by
 have no:∀vs H Q E,¬ spNextT C 0 vs H Q E:=λvs H Q E h=>by
  erw[_,_,_,_,_,t,_,_,_,_,_,_,_,_,h1,_]at h
  have:=t.depth_pos
  omega
 erw[λvs H Q E h=>absurd h (no vs H Q E),λA outer s H args us vs Q E _ _ _ _ h=>absurd h (no vs H Q E)]
theorem mx   (F:Fun K "next_term" "next_term" iy f fd) (m:mg "next_term"=some (.ref f)) (Fj:Fun K "term_in_bracket" "term_in_bracket" dG fj fdj) (mj:mg "term_in_bracket"=some (.ref fj)) (B:Bl mg) (X:Tx K mg) (T:STxt K mg C) (M:Mths P w K mg base C fE fS fT fW fF dE dS dT dW dF) (eY:Cal P w K mg base 1 "is_name" ["text"] (spTxt jE)) (cj:Cal P w K mg base 1 "is_figures" ["text"] (spTxt kQ)) :
 ∀n:Nat,FnOk P w K mg base CX0 (2*n+3) f fd ["scan","within"] (spNextT C n)
 | 0=>EU
 | n+1=>
   have c1:=Cal.of F (mx F m Fj mj B X T M eY cj n) m (λ_ _ _ _ _ _ us hl=>by let%[u0,u1|1]:=Fi hl;rfl)
   EV F B X T M eY cj (Cal.of Fj (Ej Fj X T M c1) mj (λ_ _ _ _ _ _ us hl=>by let%[u0,u1|1]:=Fi hl;rfl))
inductive spNextN(C:Addr)(vs:List V)(H:Hp)(Q:VK)(u_3:XK):Prop
 |mk:∀(sc:Addr)(T:Str)(p k:Nat)(x:Str)(r:List Nat),vs=[.ref sc]->ScanAt C H sc T p k->T.length<=1000->p<=T.length->T.cps.toList.drop p=[32]++(cd x++r)->wv r->NmK x->(∀H',ScanAt C H' sc T (p+1+x.length) k->SameBut sc H H'->Q (.str x) H')->spNextN C vs H Q u_3
theorem rK:FnScope ["scan","word"] ["scan"] (ai jP):=%[1,1,1,4,1,4|4]
theorem uj   (F:Fun K "next_name" "next_name" jP f fd) (T:STxt K mg C) (M:Mths P w K mg base C fE fS fT fW fF dE dS dT dW dF) (eY:Cal P w K mg base 1 "is_name" ["text"] (spTxt jE)):FnOk P w K mg base CX0 3 f fd ["scan"] (spNextN C):=by
 exists rK
 erw[sc,Tx,p,k,x,r,1,S0,tl,pl,hd,er,ok,q]at h;have hr1:Room 1 _:=hr.mono #[0];have hr2:Room 2 _:=hr.mono #[0];refine⟨_,(aa (aR (bQ (pv 0) T.cl M.mT M.gT hr2 M.bT .nil aY %[au|aO]))
  (aa #[aj,1,rK,bq (pv 0) T.cl M.mW M.gW hr1 M.bW .nil aY]
  (aa (aG (gI (dN (ag eY hr #[0] rfl %[1|aO]))) bw az)
  (ad (aq (pv 1)))))),?_⟩
 have l2:((" ":Str)).length=1:=by decide
 have hl0:=kM hd pl;have hd1:=cg hd;simp only[zJ0,zM0,List.length_nil]at hl0 hd1;let%[dx0,fs0,hs0|sf0]:=id S0;erw[0,sc,dx0,fs0,1,hs0,sf0.no3,sc,Tx,_,p,0,S0,dJ (r:=cd x++r) (by rw[lH];exact hd) pl,by rw[l2];decide,λH1 S1 B1=>?_];rw[l2]at S1;let%[dx1,fs1,hs1|sf1]:=id S1;erw[0,sc,dx1,fs1,1,hs1,sf1.no4,sc,Tx,_,_,cd x,r,1,S1,tl,3,hd1,dz ok.1,er,λH2 S2 B2=>?_];rw[show stl (cd x)=x from lq _];rw[dC]at S2;have x6:=ok.2.2.1;erw[0,x,1,3,λH3 S3=>%[0|6]];rw[yR ok];refine cW ?_;erw[0,q H3 (S2.same S3) (B1.trans (B2.trans (zI0 S3)))]
inductive spNextF(C:Addr)(vs:List V)(H:Hp)(Q:VK)(u_3:XK):Prop
 |mk:∀(sc:Addr)(T:Str)(p k:Nat)(m:Int)(r:List Nat),vs=[.ref sc]->ScanAt C H sc T p k->T.length<=1000->p<=T.length->T.cps.toList.drop p=[32]++(cd (bX m)++r)->wv r->0<=m->m<1000000000000->(∀H',ScanAt C H' sc T (p+1+(bX m).length) k->SameBut sc H H'->Q (.int m) H')->spNextF C vs H Q u_3
theorem j4:FnScope ["scan","word"] ["scan"] (ai hZ):=%[1,1,1,4,1,4|4]
theorem pz   (F:Fun K "next_figures" "next_figures" hZ f fd) (B:Bl mg) (T:STxt K mg C) (M:Mths P w K mg base C fE fS fT fW fF dE dS dT dW dF) (cj:Cal P w K mg base 1 "is_figures" ["text"] (spTxt kQ)):FnOk P w K mg base CX0 3 f fd ["scan"] (spNextF C):=by
 exists j4
 erw[sc,Tx,p,k,m,r,1,S0,tl,pl,hd,er,m0,m1,q]at h;have hr1:Room 1 _:=hr.mono #[0];have hr2:Room 2 _:=hr.mono #[0];refine⟨_,(aa (aR (bQ (pv 0) T.cl M.mT M.gT hr2 M.bT .nil aY %[au|aO]))
  (aa #[aj,1,j4,bq (pv 0) T.cl M.mW M.gW hr1 M.bW .nil aY]
  (aa (aG (gI (dN (ag cj hr #[0] rfl %[1|aO]))) bw az)
  (ad (aq (bi lh rfl B.int gZ %[1|aO])))))),?_⟩
 have l2:((" ":Str)).length=1:=by decide
 have hl0:=kM hd pl;have hd1:=cg hd;simp only[zJ0,zM0,List.length_nil]at hl0 hd1;have nl:=jw m0 m1;let%[dx0,fs0,hs0|sf0]:=id S0;erw[0,sc,dx0,fs0,1,hs0,sf0.no3,sc,Tx,_,p,0,S0,dJ (r:=cd (bX m)++r) (by rw[lH];exact hd) pl,by rw[l2];decide,λH1 S1 B1=>?_];rw[l2]at S1;let%[dx1,fs1,hs1|sf1]:=id S1;erw[0,sc,dx1,fs1,1,hs1,sf1.no4,sc,Tx,_,_,cd (bX m),r,1,S1,tl,3,hd1,qO m0,er,λH2 S2 B2=>?_];rw[show stl (cd (bX m))=bX m from lq _];rw[dC]at S2;erw[0,bX m,1,3,λH3 S3=>%[0|6]];rw[yL m0 m1];refine cW ?_;erw[0,bX m,m,1,yK m0 m1,3,q H3 (S2.same S3) (B1.trans (B2.trans (zI0 S3)))]
theorem iteNT{c A B:Prop}[Decidable c](hc:c)(h:B):if(!decide c)=true then A else B:=by
 rw[decide_eq_true hc];exact cW h
def Hr.wd:Hr->Str
 | .fin=>"end" | .go _=>"go" | .iff _ _=>"if" | .set _ _=>"set" | .say _=>"say"
def Hr.rest:Hr->List Nat
 | .fin=>[] | .go n=>[32]++cd (bX n) | .iff t n=>[32]++(t.txt++([32]++cd (bX n))) | .set x t=>[32]++(cd x++([32]++t.txt)) | .say t=>[32]++t.txt
theorem Hr.codes(r:Hr):r.str.cps.toList=cd r.wd++r.rest:=by
 cases r with
 | fin=>decide
 | go n=>
   rw[show(Hr.go n).str=(("go":Str)++(" ":Str))++bX n from rfl,iQ,iQ,lH];show(cd "go"++[32])++cd (bX n)=cd "go"++([32]++cd (bX n))
   simp
 | iff t n=>
   rw[show(Hr.iff t n).str=(((("if":Str)++(" ":Str))++t.str)++(" ":Str))++bX n from rfl];simp only[iQ,lH];show(((cd "if"++[32])++t.txt)++[32])++cd (bX n)=cd "if"++([32]++(t.txt++([32]++cd (bX n))))
   simp
 | set x t=>
   rw[show(Hr.set x t).str=(((("set":Str)++(" ":Str))++x)++(" ":Str))++t.str from rfl];simp only[iQ,lH];show(((cd "set"++[32])++cd x)++[32])++t.txt=cd "set"++([32]++(cd x++([32]++t.txt)))
   simp
 | say t=>
   rw[show(Hr.say t).str=(("say":Str)++(" ":Str))++t.str from rfl,iQ,iQ,lH];show(cd "say"++[32])++t.txt=cd "say"++([32]++t.txt)
   simp
theorem kP:∀x∈(["end","go","if","set","say"]:List Str),∀c∈x.cps.toList,97<=c/\c<=122:=by decide
theorem Hr.wd_ok(r:Hr):oC (cd r.wd):=by
 cases r with
 | fin=>exact dz (kP "end" ⋯)
 | go n=>exact dz (kP "go" ⋯)
 | iff t n=>exact dz (kP "if" ⋯)
 | set x t=>exact dz (kP "set" ⋯)
 | say t=>exact dz (kP "say" ⋯)
theorem Hr.rest_ok(r:Hr):wv r.rest:=by
 cases r with
 | fin=>exact .inl rfl
 | go n=>exact .inr %[(32),0|.inl rfl]
 | iff t n=>exact .inr %[(32),0|.inl rfl]
 | set x t=>exact .inr %[(32),0|.inl rfl]
 | say t=>exact .inr %[(32),0|.inl rfl]
inductive spHRw(vs:List V)(H:Hp)(Q:VK)(u_3:XK):Prop
 |mk:∀(r:Hr)(k:Int),vs=[.str r.str,.int k]->r.ok 20->(∀(v:V)(H':Hp),HrAt H' v r->Same H H'->Q v H')->spHRw vs H Q u_3
theorem cr:FnScope ["text","number","scan","word","row"] ["text","number"] (ai jo):=%[1,1,1,4,1,4|4]
theorem sg   (F:Fun K "helper_row" "helper_row" jo f fd) (X:Tx K mg) (T:STxt K mg C) (M:Mths P w K mg base C fE fS fT fW fF dE dS dT dW dF) (MK:Mk K C fI) (GI:FnOk P w K mg base CX0 1 fI fdI ["self","text","row","most_within","most_parts"] (spSInit C)) (bI:Binds K fdI ["self","text","row","most_within","most_parts"] [])
 (l6:Cal P w K mg base 3 "next_name" ["scan"] (spNextN C)) (f7:Cal P w K mg base 3 "next_figures" ["scan"] (spNextF C)) (de:Cal P w K mg base 19 "next_term" ["scan","within"] (spNextT C 8)):FnOk P w K mg base CX0 20 f fd ["text","number"] spHRw:=by
 exists cr
 erw[r,k,1,ok,q]at h;erw[tw,gw]at X.within;erw[tp,gp]at X.parts;have hr1:Room 1 _:=hr.mono ⋯;have hr2:Room 2 _:=hr.mono ⋯;refine⟨_,(aa #[aj,2,cr,eT MK GI hr2 rfl T.mgC bI .nil aY %[0,1,cX (v:=.int 8) rfl gw %[|0],cX (v:=.int 20) rfl gp ⟨_,rfl⟩|aO]]
  (aa #[aj,3,cr,bq (pv 2) T.cl M.mW M.gW hr1 M.bW .nil aY]
  (aa #[aj,4,cr,aF %[3|aO]]
  (aa (aG (ah aP (pv 3) au (ax _)) (ad #[aj,4,cr,ao op_catT (pv 4) (aF %[ag l6 hr ⋯ rfl %[2|aO],ag de hr ⋯ rfl %[2,ae|aO]|aO])]) (ad (aG (ah aP (pv 3) au (ax _)) (ad #[aj,4,cr,ao op_catT (pv 4) (aF %[ag de hr ⋯ rfl %[2,ae|aO]|aO])]) (ad (aG (ah aP (pv 3) au (ax _)) (ad #[aj,4,cr,ao op_catT (pv 4) (aF %[ag de hr ⋯ rfl %[2,ae|aO],ag f7 hr ⋯ rfl %[2|aO]|aO])]) (ad (aG (ah aP (pv 3) au (ax _)) (ad #[aj,4,cr,ao op_catT (pv 4) (aF %[ag f7 hr ⋯ rfl %[2|aO]|aO])]) (ad (aG (ah mr (pv 3) au (ax _)) bw az)))))))))
  (aa (aR (bq (pv 2) T.cl M.mF M.gF hr1 M.bF .nil aY))
  (ad (aq (pv 4)))))))),?_⟩
 erw[0,0,λg dx nx ndx nex=>?_];have s3:Same H (upd (upd H dx (.own g)) g (.ins C dx [])):=λb o e=>by
  rw[bh (aV e nx),bh (aV e ndx)];exact e
 erw[g,dx,r.str,k,1,aI,λH1 S1 B1=>%[1|6]];have N1:Same H H1:=λb o e=>B1 b o (aV e nx) (s3 b o e)
 have tl:r.str.length<=1000:=zP0 (Hr.str_len ok) ⋯;have hc:=r.codes;have hlen:r.str.length=r.wd.length+r.rest.length:=by
  have:=congrArg List.length hc
  rw[mI,zJ0,dC]at this;exact this
 have hd0:r.str.cps.toList.drop 0=cd r.wd++r.rest:=by rw[List.drop_zero];exact hc
 let%[dx1,fs1,hs1|sf1]:=id S1;erw[0,g,dx1,fs1,1,hs1,sf1.no4,g,r.str,(0),(0),cd r.wd,r.rest,1,S1,tl,zT0 _,hd0,r.wd_ok,r.rest_ok,λH2 S2 B2=>?_];rw[show stl (cd r.wd)=r.wd from lq _];have hd1:=cg hd0;rw[dC]at S2 hd1;have N2:Same H H2:=λb o e=>B2 b o (aV e nx) (N1 b o e)
 erw[0,(by show 1<=sizeLine;decide),λa ha=>?_];have Ga:=zB0 ha (.tup [.str r.wd]);have ea:upd H2 a (.tup [.str r.wd]) a=some (.tup [.str r.wd]):=aI;have S3:=S2.same Ga;generalize upd H2 a (.tup [.str r.wd])=H3 at Ga ea S3;have N3:=N2.trans Ga;have isF:∀{x y:Str},x≠y->¬ V.str x=V.str y:=λh=>neStr h
 cases r with
 | fin=>
   erw[0,1,0,6];refine aB (isF (x:="end") ⋯) ?_;erw[0,1,0,6];refine aB (isF (x:="end") ⋯) ?_;erw[0,1,0,6];refine aB (isF (x:="end") ⋯) ?_;erw[0,1,0,6];refine aB (isF (x:="end") ⋯) ?_;erw[0,1,0,6];refine iteNT rfl ?_;let%[dx3,fs3,hs3|sf3]:=id S3;have el:0+(Hr.fin).wd.length=(Hr.fin).str.length:=by rw[hlen];show 0+_=_+0;omega
   rw[el]at S3;erw[0,g,dx3,fs3,1,hs3,sf3.no5,g,_,0,S3,tl,6];erw[0,q _ H3 (.fin ea) N3]
 | go n=>
   erw[0,1,0,6];refine aB (isF (x:="go") ⋯) ?_;erw[0,1,0,6];refine aB (isF (x:="go") ⋯) ?_;erw[0,1,0,6];refine aB (isF (x:="go") ⋯) ?_;erw[0,1,0,6];refine aS rfl ?_;have hrl:(Hr.go n).rest.length=1+(bX n).length:=by
    show([32]++cd (bX n)).length=_;rw[zJ0,dC];rfl
   erw[0,0,g,_,_,_,n,[],1,S3,tl,3,by rw[hd1];show [32]++cd (bX n)=[32]++(cd (bX n)++[]);rw[List.append_nil],.inl rfl,ok.1,ok.2,λH4 S4 B4=>?_];have ea4:=cR S3 B4 _ _ ea;erw[(by show 1<=sizeLine;decide),λb hb=>?_];have Gb:=zB0 hb (.tup [.int n]);erw[a,b,2,zC0 (Gb _ _ ea4),zC0 aI,by simp,(by show 2<=sizeLine;decide),λz=>(by cases z),λ_ p hp=>?_];have Gp:=zB0 hp (.tup ([V.str (Hr.go n).wd]++[V.int n]));have S5:=(S4.same Gb).same Gp;have ep:upd (upd H4 b (.tup [.int n])) p (.tup ([V.str (Hr.go n).wd]++[V.int n])) p=some (.tup [.str "go",.int n]):=aI;have N5:=Gb.trans Gp;generalize upd (upd H4 b (.tup [.int n])) p (.tup ([V.str (Hr.go n).wd]++[V.int n]))=H5 at S5 ep N5;rw[show 0+(Hr.go n).wd.length+1+(bX n).length=(Hr.go n).str.length by omega]at S5;let%[dx5,fs5,hs5|sf5]:=id S5;erw[0,g,dx5,fs5,1,hs5,sf5.no5,g,_,0,S5,tl,6];erw[0,q _ H5 (.go ep) λc o e=>N5 _ _ (B4 c o (aV e nx) (N3 c o e))]
 | say t=>
   erw[0,1,0,6];refine aB (isF (x:="say") ⋯) ?_;erw[0,1,0,6];refine aS rfl ?_;have hrl:(Hr.say t).rest.length=1+t.txt.length:=by
    show([32]++t.txt).length=_;rw[zJ0];rfl
   have ok':t.fit 20:=ok;erw[0,0,g,(1),_,_,_,t,[],1,S3,tl,3,by rw[hd1];show [32]++t.txt=[32]++(t.txt++[]);rw[List.append_nil],.inl rfl,ok'.1,ok'.2.2,by have:=ok'.2.2;omega,by have:=ok'.2.1;omega,λv H4 T4 S4 B4=>?_];have ea4:=cR S3 B4 _ _ ea;erw[(by show 1<=sizeLine;decide),λb hb=>?_];have Gb:=zB0 hb (.tup [v]);erw[a,b,2,zC0 (Gb _ _ ea4),zC0 aI,by simp,(by show 2<=sizeLine;decide),λz=>(by cases z),λ_ p hp=>?_];have Gp:=zB0 hp (.tup ([V.str (Hr.say t).wd]++[v]));have S5:=(S4.same Gb).same Gp;have ep:upd (upd H4 b (.tup [v])) p (.tup ([V.str (Hr.say t).wd]++[v])) p=some (.tup [.str "say",v]):=aI;have N5:=Gb.trans Gp;generalize upd (upd H4 b (.tup [v])) p (.tup ([V.str (Hr.say t).wd]++[v]))=H5 at S5 ep N5;rw[show 0+(Hr.say t).wd.length+1+t.txt.length=(Hr.say t).str.length by omega]at S5;let%[dx5,fs5,hs5|sf5]:=id S5;erw[0,g,dx5,fs5,1,hs5,sf5.no5,g,_,0,S5,tl,6];erw[0,q _ H5 (.say ep (T4.mono (aX N5))) λc o e=>N5 _ _ (B4 c o (aV e nx) (N3 c o e))]
 | iff t n=>
   erw[0,1,0,6];refine aB (isF (x:="if") ⋯) ?_;erw[0,1,0,6];refine aB (isF (x:="if") ⋯) ?_;erw[0,1,0,6];refine aS rfl ?_;have hrl:(Hr.iff t n).rest.length=1+(t.txt.length+(1+(bX n).length)):=by
    show([32]++(t.txt++([32]++cd (bX n)))).length=_;simp only[zJ0,zM0,List.length_nil,dC]
   erw[ok',n0,n1]at ok;have hd2:(Hr.iff t n).str.cps.toList.drop (0+(Hr.iff t n).wd.length)=[32]++(t.txt++([32]++(cd (bX n)++[]))):=by rw[hd1,List.append_nil];rfl
   have hd3:=cg (cg hd2);simp only[zM0,List.length_nil]at hd3;erw[0,0,g,(1),_,_,_,t,0,S3,tl,3,hd2,.inr %[(32),0|.inl rfl],ok'.1,ok'.2.2,by have:=ok'.2.2;omega,by have:=ok'.2.1;omega,λv H4 T4 S4 B4=>?_];have ea4:=cR S3 B4 _ _ ea;erw[0,g,_,_,_,n,[],1,S4,tl,3,hd3,.inl rfl,n0,n1,λH5 S5 B5=>?_];have ea5:=cR S4 B5 _ _ ea4;have T5:=T4.mono (cR S4 B5);erw[(by show 2<=sizeLine;decide),λb hb=>?_];have Gb:=zB0 hb (.tup [v,.int n]);erw[a,b,2,zC0 (Gb _ _ ea5),zC0 aI,by simp,(by show 3<=sizeLine;decide),λz=>(by cases z),λ_ p hp=>?_];have Gp:=zB0 hp (.tup ([V.str (Hr.iff t n).wd]++[v,V.int n]));have S6:=(S5.same Gb).same Gp;have ep:upd (upd H5 b (.tup [v,.int n])) p (.tup ([V.str (Hr.iff t n).wd]++[v,V.int n])) p=some (.tup [.str "if",v,.int n]):=aI;have N6:=Gb.trans Gp;generalize upd (upd H5 b (.tup [v,.int n])) p (.tup ([V.str (Hr.iff t n).wd]++[v,V.int n]))=H6 at S6 ep N6;rw[show 0+(Hr.iff t n).wd.length+1+t.txt.length+1+(bX n).length=(Hr.iff t n).str.length by omega]at S6;let%[dx6,fs6,hs6|sf6]:=id S6;erw[0,g,dx6,fs6,1,hs6,sf6.no5,g,_,0,S6,tl,6];erw[0,q _ H6 (.iff ep (T5.mono (aX N6))) λc o e=>N6 _ _ (B5 c o (aV e nx) (B4 c o (aV e nx) (N3 c o e)))]
 | set x t=>
   erw[0,1,0,6];refine aS rfl ?_;have hrl:(Hr.set x t).rest.length=1+(x.length+(1+t.txt.length)):=by
    show([32]++(cd x++([32]++t.txt))).length=_;simp only[zJ0,zM0,List.length_nil,dC]
   erw[okx,ok']at ok;have hd2:(Hr.set x t).str.cps.toList.drop (0+(Hr.set x t).wd.length)=[32]++(cd x++([32]++(t.txt++[]))):=by rw[hd1,List.append_nil];rfl
   have hd3:=cg (cg hd2);simp only[zM0,List.length_nil,dC]at hd3;erw[0,0,g,_,_,_,x,0,S3,tl,3,hd2,.inr %[(32),0|.inl rfl],okx,λH4 S4 B4=>?_];have ea4:=cR S3 B4 _ _ ea;erw[0,g,(1),_,_,_,t,[],1,S4,tl,3,hd3,.inl rfl,ok'.1,ok'.2.2,by have:=ok'.2.2;omega,by have:=ok'.2.1;omega,λv H5 T5 S5 B5=>?_];have ea5:=cR S4 B5 _ _ ea4;erw[(by show 2<=sizeLine;decide),λb hb=>?_];have Gb:=zB0 hb (.tup [.str x,v]);erw[a,b,2,zC0 (Gb _ _ ea5),zC0 aI,by simp,(by show 3<=sizeLine;decide),λz=>(by cases z),λ_ p hp=>?_];have Gp:=zB0 hp (.tup ([V.str (Hr.set x t).wd]++[.str x,v]));have S6:=(S5.same Gb).same Gp;have ep:upd (upd H5 b (.tup [.str x,v])) p (.tup ([V.str (Hr.set x t).wd]++[.str x,v])) p=some (.tup [.str "set",.str x,v]):=aI;have N6:=Gb.trans Gp;generalize upd (upd H5 b (.tup [.str x,v])) p (.tup ([V.str (Hr.set x t).wd]++[.str x,v]))=H6 at S6 ep N6;rw[show 0+(Hr.set x t).wd.length+1+x.length+1+t.txt.length=(Hr.set x t).str.length by omega]at S6;let%[dx6,fs6,hs6|sf6]:=id S6;erw[0,g,dx6,fs6,1,hs6,sf6.no5,g,_,0,S6,tl,6];erw[0,q _ H6 (.set ep (T5.mono (aX N6))) λc o e=>N6 _ _ (B5 c o (aV e nx) (B4 c o (aV e nx) (N3 c o e)))]
theorem Tm.txt_hi:∀t:Tm,t.ok->∀c∈t.txt,32<=c
 | .num n,h,c,hc=>by have:=kI h.1 c hc;omega
 | .box x,h,c,hc=>by have:=h.1 c hc;omega
 | .plain w,h,c,hc=>by have:=(mo w h).2.2.1 c hc;omega
 | .ask w a,⟨h,h1⟩,c,hc=>by
   have hc':c∈[40]++(cd w++([32]++(a.txt++[41]))):=hc;simp only[List.mem_append,List.mem_singleton]at hc';rcases hc' with e | e | e | e | e
   . omega
   . have:=(yr w h).2.2.1 c e;omega
   . omega
   . exact Tm.txt_hi a h1 c e
   . omega
 | .op o a b,⟨h,h1,h2⟩,c,hc=>by
   have hc':c∈[40]++(cd o++([32]++(a.txt++([32]++(b.txt++[41]))))):=hc;simp only[List.mem_append,List.mem_singleton]at hc';rcases hc' with e | e | e | e | e | e | e
   . omega
   . have:=(sX o h).2.1 c e;omega
   . omega
   . exact Tm.txt_hi a h1 c e
   . omega
   . exact Tm.txt_hi b h2 c e
   . omega
theorem Gz{r:Hr}(ok:r.ok 20):∀c∈cd r.str,32<=c:=by
 intro c hc;have hc1:c∈cd r.wd++r.rest:=by rw[←r.codes];exact hc
 have nm:∀{n:Int},0<=n->c∈cd (bX n)->32<=c:=λh0 h=>by have:=kI h0 c h;omega
 rcases qH0 hc1 with h | h
 . have:=r.wd_ok
   have h5:∀x∈(["end","go","if","set","say"]:List Str),c∈cd x->32<=c:=λx hx hc=>by have:=kP x hx c hc;omega
   cases r with
   | fin=>exact h5 "end" ⋯ h
   | go n=>exact h5 "go" ⋯ h
   | iff t n=>exact h5 "if" ⋯ h
   | set x t=>exact h5 "set" ⋯ h
   | say t=>exact h5 "say" ⋯ h
 . cases r with
   | fin=>cases h
   | go n=>
     have h':c∈[32]++cd (bX n):=h;simp only[List.mem_append,List.mem_singleton]at h';rcases h' with e | e
     . omega
     . exact nm ok.1 e
   | iff t n=>
     have h':c∈[32]++(t.txt++([32]++cd (bX n))):=h;simp only[List.mem_append,List.mem_singleton]at h';rcases h' with e | e | e | e
     . omega
     . exact Tm.txt_hi t ok.1.1 c e
     . omega
     . exact nm ok.2.1 e
   | set x t=>
     have h':c∈[32]++(cd x++([32]++t.txt)):=h;simp only[List.mem_append,List.mem_singleton]at h';rcases h' with e | e | e | e
     . omega
     . have:=ok.1.1 c e;omega
     . omega
     . exact Tm.txt_hi t ok.2.1 c e
   | say t=>
     have h':c∈[32]++t.txt:=h;simp only[List.mem_append,List.mem_singleton]at h';rcases h' with e | e
     . omega
     . exact Tm.txt_hi t (show t.fit 20 from ok).1 c e
theorem rk  (g:sU rs) (h0:rs≠[]):Txt.split (oV rs) ("\n":Str)=rs.map Hr.str:=by
 unfold oV;rw[nl_eq,Fl];refine wK (c:=10) (λz=>h0 (List.map_eq_nil_iff.mp z)) λp hp hc=>?_
 let%[r,hr|1]:=List.mem_map.mp hp
 have:=Gz (g.2 r hr) 10 hc
 omega
theorem AB  (g:sU rs) (h0:rs≠[]):oV rs≠"":=λe=>by
 have h1:=rk g h0;rw[e,show Txt.split ("":Str) ("\n":Str)=[("":Str)]from by decide]at h1;cases rs with
 | nil=>exact h0 rfl
 | cons r l=>
   have h2:=(List.cons.inj h1).1;have h3:=r.codes;rw[←h2]at h3;have h4:cd r.wd=[]:=(List.append_eq_nil_iff.mp h3.symm).1;have h5:∀x∈(["end","go","if","set","say"]:List Str),cd x≠[]:=by decide
   cases r with
   | fin=>exact h5 "end" ⋯ h4
   | go n=>exact h5 "go" ⋯ h4
   | iff t n=>exact h5 "if" ⋯ h4
   | set x t=>exact h5 "set" ⋯ h4
   | say t=>exact h5 "say" ⋯ h4
inductive spReadH(vs:List V)(H:Hp)(Q:VK)(u_3:XK):Prop
 |mk:∀rs:List Hr,vs=[.str (oV rs)]->sU rs->(∀(a:Addr)(tv:List V)(H':Hp),H' a=some (.tup tv)->RowsAt H' tv rs->Same H H'->Q (.ref a) H')->spReadH vs H Q u_3
theorem f8:FnScope ["text","helper","number","row"] ["text"] (ai iE):=%[1,1,1,4,1,4|4]
theorem qW   (F:Fun K "read_helper" "read_helper" iE f fd) (B:Bl mg) (X:Tx K mg) (jL:Cal P w K mg base 20 "helper_row" ["text","number"] spHRw):FnOk P w K mg base CX0 21 f fd ["text"] spReadH:=by
 exists f8
 erw[rs,1,g,q]at h;erw[tm,gm]at X.rows;refine⟨_,(aa (aG (ah aP (pv 0) au (ax _)) (ad (aq (aF aO))) az)
  (aa #[aj,1,f8,dy aO]
  (aa (cv PassesOwn.never rfl (EG rfl B.enumerate (eA PySem.F.plainAttrs_str PySem.F.slot_str_split PySem.F.type_str_split CW (pv 0) %[au|aO])) (oj rfl (cK (bb (i:=2) f8.nd rfl (.inl rfl)) (cK (bb (i:=3) f8.nd rfl (.inl rfl)) kF))) (aa (aG (ah aP (pv 2) (cX (v:=.int 60) rfl gm ⟨_,rfl⟩) (ax _)) bw az)
   (ad (aR (eA PySem.F.plainAttrs_list PySem.F.slot_list_append PySem.F.type_list_append bZ (pv 1) %[ag jL hr ⋯ rfl %[3,2|aO]|aO])))))
  (ad (aq (bi ba rfl B.tuple bd %[1|aO])))))),?_⟩
 have tl:=Dt g;have r60:=g.1;erw[0,1,0,6]
 by_cases c0:rs=[]
 . subst c0;refine aS (by show V.str (oV [])=V.str "";decide) ?_;erw[zT0 _,λt ht=>?_];exact q t [] _ aI RowsAt.nil (zB0 ht _)
 refine aB (λz=>AB g c0 (Bq z)) ?_;erw[zT0 _,λL hL=>?_];have GL:=zB0 hL (.lst []);have gL:upd H L (.lst []) L=some (.lst []):=aI;generalize upd H L (.lst [])=H1 at GL gL;have ts:=rk g c0;erw[0,1,2,⋯,3,by rw[ts,zE0];omega,λa ha=>?_];rw[ts];have Ga:=zB0 ha (.lst ((rs.map Hr.str).map V.str));have ga:upd H1 a (.lst ((rs.map Hr.str).map V.str)) a=some (.lst ((rs.map Hr.str).map V.str)):=aI;have aL:a≠L:=λz=>by rw[z,gL]at ha;cases ha
 generalize upd H1 a (.lst ((rs.map Hr.str).map V.str))=H2 at Ga ga;have gL2:=Ga _ _ gL;refine⟨a,rfl,%[_|zG0 ga],Dz (K:=K) (xs:=(rs.map Hr.str).map V.str) (λi σ H'=>∃(x2 x3:Option V)(tv:List V),σ=[some (.str (oV rs)),some (.ref L),x2,x3]/\H' L=some (.lst tv)/\RowsAt H' tv (rs.take i)/\SameBut L H2 H')
  %[_,_,[],1,gL2,RowsAt.nil|SameBut.refl _ _] (λi σ H' _ hst=>by erw[_,_,_,_,_,_,h]at hst;exact zG0 (h _ _ aL ga)) ?_ ?_⟩
 . rintro i z σ H3 t hz ⟨x2,x3,tv,rfl,hL3,R3,S3⟩ ht;have hi:=(zW0 hz).1;rw[zE0,zE0]at hi;rw[zY0,zY0,Option.map_map]at hz;let%[r,hr'|1]:=qV0 hz;have Gt:=zB0 ht (.tup [.int (i:Int),.str r.str]);have hL4:=Gt _ _ hL3;have vl:=R3.1;rw[qL0]at vl;erw[t,0,zC0 aI,1,_,0,2,6];erw[0,1,0,6];refine aB (λz=>by have:=V.int.inj z;omega) ?_;erw[0,.inl %[1,_|zG0 hL4],0,0,r,0,g.2 r (qF0 hr'),λv H4 ra S4=>?_];have S34:Same H3 H4:=Gt.trans S4;have hL5:=S34 _ _ hL3;have kp:bJ H4 (upd H4 L (.lst (tv++[v]))):=Dj hL5;erw[L,2,hL5,aM #[0],6];erw[_,_,tv++[v],1,aI,6,6]
   . rw[qI0,hr'];exact((R3.mono (aX S34)).mono kp).snoc (ra.mono kp)
   . exact S3.trans ((zI0 S34).trans (SameBut.upd _))
 . rintro σ H3 ⟨x2,x3,tv,rfl,hL3,R3,S3⟩;rw[zE0,zE0,qG0]at R3;erw[0,L,0,.inl %[zG0 hL3|λt ht=>?_]];have S03:Same H H3:=λb o e=>S3 b o (aV e hL) (Ga _ _ (GL _ _ e))
   exact q t tv _ aI (R3.mono (aX (zB0 ht _))) (S03.trans (zB0 ht _))
section
open PySem.Spec PyProof.Rows
theorem yd (l b:Addr) (c0 n:Nat) (items:Array Value):Meets (Builtin.«list.extend» %[[.ref l,.ref b]|[]]) (λ_ R s=>s.heap.get? l=some { cls:=.type "list",dict:=none,data:=.seq #[] c0,slots:=#[] }/\(∃o,s.heap.get? b=some o/\o.cls=.type "tuple"/\o.data=.seq items n)/\items.size<=sizeLine/\R (.ok (.ret Value.none)) { s with heap:=s.heap.update l (Obj.mapSeq (·++items)) }):=λprog w A R s h=>by
 erw[hl,%[o,ho,hc|hd],hz,h]at h;exact wpAny_extend_seq l b .none c0 (.inr rfl) hl ho hc hd h hz
inductive rExtT(K:W.Frag)(x:V)(vs:List V)(H:Hp)(Q:VK):Prop
 |mk:∀l b zs,x=.ref l->vs=[.ref b]->H l=some (.lst [])->SqT K H b zs->Q .non (upd H l (.lst zs))->rExtT K x vs H Q
theorem Fb :MtM X "list.extend" (rExtT X.K):=by
 intro pins s σ H x vs v us Q I rx rv h;erw[l,b,zs,1,1,hH,hB,q]at h;cases rx;erw[u,1,ru]at rv.one;cases ru;let%[z,its,n,r,hl|e]:=I.lstM hH;cases r;let%[its2,r2,%[o,ho,hc,n2|hd]|hz2]:=I.tuple hB;have hz3:=r2.length;refine call_meets F.slot_list_extend %[_,e|1] F.entry_list_extend (F.args_list_extend_2 _ _) (yd l b n n2 its2.toArray) ⟨e,⟨o,ho,hc,hd⟩,by rw[zR0];omega,?_⟩;erw[.non,_,I.lset (its':=its2) hH e (by simp) r2 hz2,1,q]
end
section
theorem TupsAt.app{us:List V}{ss:List (List Int)}(h2:TupsAt H us ss):∀{rs:List V}{cs:List (List Int)},TupsAt H rs cs->TupsAt H (rs++us) (cs++ss)
 | _,_,.nil=>h2
 | _,_,.cons h t=>.cons h (TupsAt.app h2 t)
def jB(p:Nat)(c:List Int):List (List Int):=(List.range p).map λr:Nat=>c++[(r:Int)]
theorem wL(p:Nat)(a:Int)(c:List Int):jB p (a::c)=(jB p c).map (a::·):=by
 unfold jB;rw[List.map_map];rfl
theorem sT(p:Nat):∀k,(dq p k).flatMap (jB p)=dq p (k+1)
 | 0=>by
   unfold dq jB;rw[List.flatMap_singleton];show _=(List.range p).flatMap λr:Nat=>[[(r:Int)]]
   rw[List.map_eq_flatMap];rfl
 | k+1=>by
   show((List.range p).flatMap λr:Nat=>(dq p k).map ((r:Int)::·)).flatMap (jB p)=(List.range p).flatMap λr:Nat=>(dq p (k+1)).map ((r:Int)::·)
   rw[List.flatMap_assoc]
   congr 1
   funext r
   rw[←sT p k,List.map_flatMap,List.flatMap_map]
   congr 1
   funext c
   exact wL p _ c
inductive spAllC(vs:List V)(H:Hp)(Q:VK)(u_3:XK):Prop
 |mk:∀(p many:Int),vs=[.int p,.int many]->0<p->p<=999983->0<=many->many<=7->p ^ many.toNat<=200->(∀(r:Addr)(H':Hp),H r=none->Same H H'->uR H' r (dq p.toNat many.toNat)->Q (.ref r) H')->spAllC vs H Q u_3
theorem c8:FnScope ["_law_field_here","_law_coins","_law_rows","_law_k","_law_longer","_law_row"] ["_law_field_here","_law_coins"] (ai ji):=%[1,1,1,4,1,4|4]
theorem EE{p i m:Nat}(hp:0<p)(h:p ^ m<=200)(hi:i<=m):p ^ i<=200:=zP0 (Nat.pow_le_pow_right hp hi) h
theorem zx{L:List (List Int)}{j:Nat}{c:List Int}(h:L[j]?=some c):(L.take (j+1)).flatMap (jB p)=(L.take j).flatMap (jB p)++jB p c:=by
 rw[qI0,h,List.flatMap_append]
 simp
theorem vW:∀L:List (List Int),(L.flatMap (jB p)).length=L.length*p
 | []=>by simp
 | a::r=>by
   rw[List.flatMap_cons,zJ0,vW r,zM0,Nat.succ_mul];unfold jB;rw[zE0,qQ0,Nat.add_comm]
theorem rX   (F:Fun K "_law_all_rows" "_law_all_rows" ji f fd) (B:Bl mg):FnOk P w K mg base CX0 1 f fd ["_law_field_here","_law_coins"] spAllC:=by
 exists c8
 erw[p,many,1,p0,p9,m0,m7,pm,q]at h;refine⟨_,(aa #[aj,2,c8,dy %[aF aO|aO]]
  (aa (cv PassesOwn.never rfl (bO rfl B.range %[1|aO]) (bb (i:=3) c8.nd rfl (.inl rfl)) (aa #[aj,4,c8,dy aO]
   (aa (cv PassesOwn.never rfl (eQ (pv 2)) (bb (i:=5) c8.nd rfl (Or.inr rfl)) (ad (aj (i:=4) c8.nd rfl (.inl rfl) (ao kf (pv 4) (cz (N:=["_law_row"]) (ix:=[5]) rfl
    (CompScope.one (by rfl') ⋯ rfl ⋯ rfl ⋯ (by rfl') (by rfl') (by rfl') rfl rfl) rfl
    (bO rfl B.range %[0|aO]) (λ_ _ _=>cG (ao (mv K) (pv 1) (aF %[0|aO]))))))))
   (ad #[aj,2,c8,pv 4]))))
  (ad (aq (pv 2))))),?_⟩
 obtain⟨pn,rfl⟩:∃pn:Nat,p=(pn:Int):=%[p.toNat|3]
 obtain⟨mn,rfl⟩:∃mn:Nat,many=(mn:Int):=%[many.toNat|3]
 rw [qO0]at pm q;rw[qO0]at q;have pm':pn ^ mn<=200:=by
  have:((pn ^ mn:Nat):Int)<=200:=by rw[Int.natCast_pow];exact pm
  omega
 have pn0:0<pn:=by omega
 erw[(by show 0<=sizeLine;decide),λt0 ht0=>?_];erw[(by show 1<=sizeLine;decide),λa ha=>?_];have np:t0≠a:=λz=>by
  subst z;rw[aI]at ha;cases ha
 have ha0:H a=none:=(zB0 ht0 _).free ha;refine⟨_,rfl,(mn:Int),rfl,by omega,by omega,dj (n:=mn) (λi σ H'=>∃(a:Addr)(x3 x4 x5:Option V),σ=[some (.int (pn:Int)),some (.int (mn:Int)),some (.ref a),x3,x4,x5]/\H a=none/\Same H H'/\uR H' a (dq pn i))
  %[a,_,_,0,ha0,(zB0 ht0 _).trans (zB0 ha _),[.ref t0],aI|.cons ⟨t0,rfl,by rw[bh np,aI];rfl⟩ .nil] ?_ ?_⟩
 . rintro i σ H1 hi ⟨a,x3,x4,x5,rfl,a0,s0,rs,hrs,T⟩;have al:=rM (p:=pn) i;have p1:=EE pn0 pm' (show i+1<=mn from hi);rw[Nat.pow_succ]at p1;erw[(by show 0<=sizeLine;decide),λb hb=>?_];have ab:a≠b:=aV hrs hb;have rl:=T.length;refine⟨_,rfl,a,rfl,%[_|zG0 (by rw[bh ab];exact hrs)],ki (K:=K) (xs:=rs) (λj σ H2=>∃(x5:Option V)(b:Addr)(bs:List V),σ=[some (.int (pn:Int)),some (.int (mn:Int)),some (.ref a),some (.int (0+(i:Int))),some (.ref b),x5]/\Same H1 H2/\H1 b=none/\H2 b=some (.lst bs)/\TupsAt H2 bs (((dq pn i).take j).flatMap (jB pn)))
    %[_,b,[],1,zB0 hb _,hb,aI|.nil] (λj σ H2 _ hst=>by erw[_,_,_,_,sb,_]at hst;exact zG0 (sb a _ hrs)) ?_ ?_⟩
   . clear hb ab;rintro j y σ H2 hj ⟨x5,b,bs,rfl,sb,hb,hbs,TB⟩;have jl:j<rs.length:=(zW0 hj).1;have T2:TupsAt H2 rs (dq pn i):=T.mono (aX sb);let%[c,hcs,t,1|ht]:=T2.get hj;have cl:=(im i c (qF0 hcs)).1;have hbl:=TB.length;rw[vW,qL0]at hbl;have b1:bs.length+pn<=200:=by
      have e1:min j (dq pn i).length<=j:=Nat.min_le_left _ _;have e2:(j+1)*pn<=pn ^ i*pn:=Nat.mul_le_mul_right _ #[0];have e3:min j (dq pn i).length*pn<=j*pn:=Nat.mul_le_mul_right _ e1;rw[Nat.succ_mul]at e2;omega
     erw[0,0,(pn:Int),1,3,3,λD hD=>?_];refine eC (n:=pn) (λu H'=>∃vs:List V,H' D=some (.lst vs)/\TupsAt H' vs ((List.range u).map λr:Nat=>c++[(r:Int)])/\Same H2 H') %[[],aI,.nil|zB0 hD _] ?_ ?_
     . rintro u H3 hu ⟨vs,hD3,T3,S3⟩;have vl:=T3.length;rw[zE0,qQ0]at vl;have hu':u<pn:=hu;erw[0,0,(by show 1<=sizeLine;decide),λz hz=>?_];rw[Int.zero_add];have I4:=zB0 hz (.tup [.int (u:Int)]);have g4:upd H3 z (.tup [.int (u:Int)]) z=some (.tup [.int (u:Int)]):=aI;generalize upd H3 z (.tup [.int (u:Int)])=H4 at I4 g4;refine rF (s:=c) (z:=(u:Int)) (I4 _ _ (S3 _ _ ht)) g4 #[0] λt5 H5 S5 h5=>?_
       have S35:=I4.trans S5;have hD5:=S35 _ _ hD3;have k6:=di (H:=H5) (b:=D) (ys:=vs) (zs:=vs++[.ref t5]) hD5;erw[_,hD5,aM #[0],Nx.of hu ⟨vs++[.ref t5],aI,?_,λa' o e=>?_⟩]
       . rw[List.range_succ,zK0];exact TupsAt.app (.cons %[t5,1|k6 _ _ h5] .nil) ((T3.mono (aX S35)).mono k6)
       . rw[bh (aV e hD)];exact S35 _ _ (S3 _ _ e)
     . rintro H3 ⟨vs,hD3,T3,S3⟩;have vl:=T3.length;rw[zE0,qQ0]at vl;erw[b,D,bs,vs,1,1,S3 _ _ hbs,hD3,ca #[0],λe he=>?_];have k4:=zB0 he (.lst (bs++vs));have S4:=sb.trans S3;erw[_,e,bs++vs,1,S4.trans k4,S4.free he,aI,6];rw[zx hcs];exact TupsAt.app (T3.mono (aX k4)) ((TB.mono (aX S3)).mono (aX k4))
   . rintro σ H2 ⟨x5,b,bs,rfl,sb,hb,hbs,TB⟩;rw[rl,qG0,sT]at TB;erw[0,b,_,_,0,s0.free hb,s0.trans sb,bs,hbs,TB]
 . rintro σ H' ⟨a,x3,x4,x5,rfl,a0,s0,S⟩;erw[0,q a H' a0 s0 S]
end
section
theorem Be(k:AkOk z)(nd:z.ns.Nodup)(i:Int)(h:0<z.nr):gi z i=cV z.ns z.ts z.s z.p (z.to++[i]):=by
 let%[x,hx,ex,d0,d1|d4]:=k.deg h;unfold gi;rw[zD0 h];have e:z.tru=gQ z.ns z.ts z.s z.p z.to (bz z.ts x+1).toNat:=by
  unfold Ak.tru;rw[zA0 #[0],ex]
 have t0:z.ts≠[]:=λe=>by have:=k.gk.t1;rw[e]at this;cases this
 rw[e];exact yv (vh k.gk.pr (by have:=k.gk.p9;omega)) hx nd (λt ht=>(k.gk.tok t ht).1) t0 d1 i
theorem Bf{z:Ak}(h:z.nr=0)(i:Nat){t:Tr}(ht:z.ts[i]?=some t):gi z (i:Int)=(cnt t z.ns:Int) % z.p:=by
 have hl:=(zW0 ht).1;unfold gi;have e:z.tru=z.ts.map (λt=>(cnt t z.ns:Int)):=by
  unfold Ak.tru;rw[zD0 h]
 rw[zA0 #[0],e,zE0,zD0 #[0],qO0,qP0,zY0,ht];rfl
end
theorem Ft{ns:List Str}{p:Int}(hp:1<p){t:Tr}(ok:t.ok ns):(cnt t ns:Int)=((cP ns.length).map λst=>t.worth ns st p).sum:=by
 unfold cnt;have h:∀st∈cP ns.length,t.worth ns st p=if t.holds ns st then 1 else 0:=λst hst=>iq hp (lR _ _ hst) (nv _ _ hst) t ok
 generalize cP ns.length=l at h
 induction l with
 | nil=>rfl
 | cons a l ih=>
   have ih:=ih λst hst=>h st (qK0 _ hst)
   rw[zZ0,List.sum_cons,←ih,h a qC0,List.filter_cons];cases t.holds ns a
   . simp
   . simp only[if_true,zM0];omega
theorem xO{ns:List Str}{ts:List Tr}{p:Int}(hp:1<p)(ok:∀t∈ts,t.ok ns):hor s p (ts.map λt=>(cnt t ns:Int))=cV ns ts s p []:=by
 rw[mL];unfold cV;have e:(ts.map λt=>(cnt t ns:Int))=ts.map λt=>((cP ns.length).map λst=>t.worth ns st p).sum:=List.map_congr_left λt ht=>Ft hp (ok t ht)
 rw[e,qN s (λt st=>t.worth ns st p)];rfl
theorem yV(s p:Int):∀xs:List Int,hor s p (xs.map (· % p))=hor s p xs
 | []=>rfl
 | a::r=>by
   show(hor s p (r.map (· % p))*s+a % p) % p=(hor s p r*s+a) % p;rw[yV s p r,Int.add_emod_emod]
section
variable {ns:List Str} {ts:List Tr} {p:Int} {t:Tk} {rows:List Hr}
theorem vI(k:GmK ns ts p)(s:Int):hor s p (ts.map λu=>(cnt u ns:Int) % p)=cV ns ts s p []:=by
 have p2:=k.p2;rw[←xO (s:=s) (p:=p) #[0] (λu hu=>(k.tok u hu).1),←yV s p (ts.map λt=>(cnt t ns:Int)),List.map_map];rfl
theorem vV (z:Db) (tl:z.to.length<=ns.length) (e:z.ed=cV ns ts z.s p z.to):((goOn ns ts p z).aw.1="hear" -> (goOn ns ts p z).ed=cV ns ts (goOn ns ts p z).s p (goOn ns ts p z).to)/\(¬ (goOn ns ts p z).aw.1="hear" -> (goOn ns ts p z).aw=(("believed":Str),none)):=by
 unfold goOn
 by_cases c:z.to.length<ns.length
 . rw[zD0 c];erw[λ_=>e,λh=>absurd rfl h]
 . rw [zA0 c];unfold eg;have e2:z.ed=hor z.s p (ts.map λt=>t.worth ns z.to p):=by rw[e,EA #[0]]
   rw[zD0 e2];erw[λh=>absurd h FR,λ_=>rfl]
structure Tru(ns:List Str)(ts:List Tr)(p:Int)(t:Tk):Prop where
 he:t.z.aw.1="hear" -> t.z.ed=cV ns ts t.z.s p t.z.to
 co:t.z.aw.1="coin" -> t.z.he≠[]->t.z.he=gQ ns ts t.z.s p t.z.to (bz ts (ns.getD t.z.to.length "")+1).toNat
 cm:t.z.aw.1="coin" -> t.z.he=[]->t.z.cl=ts.map (λu=>(cnt u ns:Int) % p)/\t.z.to=[]
 en:¬ t.z.aw.1="hear" -> ¬ t.z.aw.1="coin" -> t.z.aw=(("believed":Str),none)
structure Hon(ns:List Str)(ts:List Tr)(p:Int)(rows:List Hr):Prop where
 cl:(Tk.new ts).said ns ts p rows=ts.map (λu=>(cnt u ns:Int) % p)
 ro:∀t,TkOk ns ts p t->t.z.aw.1="hear" -> t.said ns ts p rows=gQ ns ts t.z.s p t.z.to (awN t.z).toNat
theorem pW (k:GmK ns ts p) (nd:ns.Nodup) {cs:List Int}  (tl:cs.length<ns.length) (r:Int):val p (gQ ns ts s p cs (bz ts (ns.getD cs.length "")+1).toNat) r=cV ns ts s p (cs++[r]):=by
 have hy:ns[cs.length]?=some (ns.getD cs.length ""):=by
  rw[qP0,zQ0 tl];rfl
 have hx:ns.getD cs.length ""∈ns:=qF0 hy;have t0:ts≠[]:=λe=>by have:=k.t1;rw[e]at this;cases this
 exact yv (vh k.pr (by have:=k.p9;omega)) hy nd (λu hu=>(k.tok u hu).1) t0 (k.deg _ hx).2 r
theorem Tru.ask (k:GmK ns ts p) (n6:ns.length<=6) (nd:ns.Nodup) (hn:Hon ns ts p rows) (h:TkOk ns ts p t) (d:Tru ns ts p t) (hw:t.z.aw.1="hear"):Tru ns ts p (t.ask ns ts p rows):=by
 let%[_,_,_,tl,aw|ea]:=h.ak k n6 hw;have x0:=h.gd.hear_ne k (h.hear (rows:=rows) k n6 hw);have e:(t.ask ns ts p rows).z=dB p (t.said ns ts p rows) { t.z with pl:=t.z.pl+((t.said ns ts p rows).length:Int) }:=zA0 h.cl;have es:t.said ns ts p rows=gQ ns ts t.z.s p t.z.to (bz ts (ns.getD t.z.to.length "")+1).toNat:=by rw[hn.ro t h hw,ea]
 have ac:(t.ask ns ts p rows).z.aw=(("coin":Str),none):=by
  rw[e];unfold dB;rw[zD0];show(val p (t.said ns ts p rows) 0+val p (t.said ns ts p rows) 1) % p=t.z.ed;rw[es,pW k nd tl,pW k nd tl,zN tl,d.he hw]
 erw[λz=>?_,λ_ _=>?_,λ_ z=>?_,λ_ z=>?_]
 . rw[ac]at z;exact absurd z iC
 . rw[e];exact es
 . rw[e]at z;exact absurd z x0
 . rw[ac]at z;exact absurd rfl z
theorem Tru.toss (k:GmK ns ts p) (nd:ns.Nodup) (h:TkOk ns ts p t) (d:Tru ns ts p t) (hw:t.z.aw.1="coin") (r:Int):Tru ns ts p (t.toss ns ts p r):=by
 have fin:∀z:Db,z.to.length<=ns.length->z.ed=cV ns ts z.s p z.to->(t.toss ns ts p r).z=goOn ns ts p z->Tru ns ts p (t.toss ns ts p r):=λz tl e ez=>by
  let%[f1|f2]:=vV (ns:=ns) (ts:=ts) (p:=p) z tl e;have no:=kN (ns:=ns) (ts:=ts) (p:=p) z;rw[←ez]at f1 f2 no;erw[f1,λz=>absurd z no,λz=>absurd z no,λz _=>f2 z]
 by_cases c:t.z.he=[]
 . let%[ec|et]:=d.cm hw c;refine fin { t.z with pl:=t.z.pl+1,s:=r,ed:=hor r p t.z.cl } h.gd.tl ?_ (zD0 c);show hor r p t.z.cl=cV ns ts r p t.z.to;rw[ec,et,vI k]
 . have tl:=((h.gd.co hw).2 c).2;refine fin { t.z with pl:=t.z.pl+1,ed:=val p t.z.he r,to:=t.z.to++[r] } (by show(t.z.to++[r]).length<=_;rw[zJ0,qM0];omega) ?_ (zA0 c);show val p t.z.he r=cV ns ts t.z.s p (t.z.to++[r]);rw[d.co hw c,pW k nd tl]
theorem kh (k:GmK ns ts p) (n6:ns.length<=6) (nd:ns.Nodup) (hn:Hon ns ts p rows):∀(n:Nat) (t:Tk) (cs:List Int),TkOk ns ts p t->Tru ns ts p t->ci cs p->bV ns t.z<=n->(db ns ts p rows cs n t).2.z.aw=(("believed":Str),none)
 | 0,t,cs,h,d,hc,hs=>d.en (λz=>by have:=(eE h (.inl z)).1;omega) (λz=>by have:=(eE h (.inr z)).1;omega)
 | n+1,t,cs,h,d,hc,hs=>by
   have p2:=k.p2
   by_cases ch:t.z.aw.1="hear"
   . rw[fL ch];let%[o,s|_]:=h.ask (rows:=rows) k n6 ch;exact kh k n6 nd hn n _ cs o (d.ask k n6 nd hn h ch) hc #[0]
   . by_cases cc:t.z.aw.1="coin"
     . rw[fN cc];let%[r0|r1]:=oy hc #[0];let%[o,s|_]:=h.toss k cc r0 r1;exact kh k n6 nd hn n _ cs.tail o (d.toss k nd h cc _) (sV hc) #[0]
     . rw[dR ch cc];exact d.en ch cc
theorem Tru.new(k:GmK ns ts p)(hn:Hon ns ts p rows):Tru ns ts p ((Tk.new ts).ask ns ts p rows):=by
 have e0:cF ns ts p ((Tk.new ts).said ns ts p rows) (Db.new ts)=iM ns ts p ((Tk.new ts).said ns ts p rows) { Db.new ts with pl:=(Db.new ts).pl+(((Tk.new ts).said ns ts p rows).length:Int) }:=zD0 rfl
 by_cases c:ts.length=1
 . have e:((Tk.new ts).ask ns ts p rows).z=goOn ns ts p { Db.new ts with pl:=(Db.new ts).pl+(((Tk.new ts).said ns ts p rows).length:Int),cl:=(Tk.new ts).said ns ts p rows,s:=0,ed:=hor 0 p ((Tk.new ts).said ns ts p rows) }:=e0.trans (zD0 c);let%[f1|f2]:=vV (ns:=ns) (ts:=ts) (p:=p) { Db.new ts with pl:=(Db.new ts).pl+(((Tk.new ts).said ns ts p rows).length:Int),cl:=(Tk.new ts).said ns ts p rows,s:=0,ed:=hor 0 p ((Tk.new ts).said ns ts p rows) } (zT0 _) (by
    show hor 0 p ((Tk.new ts).said ns ts p rows)=cV ns ts 0 p [];rw[hn.cl,vI k])
   have no:=kN (ns:=ns) (ts:=ts) (p:=p) { Db.new ts with pl:=(Db.new ts).pl+(((Tk.new ts).said ns ts p rows).length:Int),cl:=(Tk.new ts).said ns ts p rows,s:=0,ed:=hor 0 p ((Tk.new ts).said ns ts p rows) };rw[←e]at f1 f2 no;erw[f1,λz=>absurd z no,λz=>absurd z no,λz _=>f2 z]
 . have ez:((Tk.new ts).ask ns ts p rows).z={ Db.new ts with pl:=(Db.new ts).pl+(((Tk.new ts).said ns ts p rows).length:Int),cl:=(Tk.new ts).said ns ts p rows,aw:=("coin",none) }:=e0.trans (zA0 c);erw[λz=>?_,λ_ z=>?_,λ_ _=>?_,λ_ z=>?_]
   . rw[ez]at z;exact absurd z iC
   . rw[ez]at z;exact absurd rfl z
   . rw[ez];erw[hn.cl,1]
   . rw[ez]at z;exact absurd rfl z
theorem xY (k:GmK ns ts p) (n6:ns.length<=6) (nd:ns.Nodup) (hn:Hon ns ts p rows)  (hc:ci c p):(gl ns ts p rows c).2.z.aw=(("believed":Str),none):=by
 let%[o,st|_]:=kJ (rows:=rows) k n6;exact kh k n6 nd hn 20 _ c o (Tru.new k hn) hc #[0]
theorem uF(k:GmK ns ts p)(n6:ns.length<=6)(nd:ns.Nodup)(hn:Hon ns ts p rows):dZ ns ts p rows (bu ns ts) 8 (Tk.new ts) []=(p ^ bu ns ts,none):=by
 have p2:=k.p2;have ep:(p.toNat:Int)=p:=by omega
 have e1:∀c∈dq p.toNat (bu ns ts),decide ((gl ns ts p rows c).2.z.aw.1="believed")=true:=λc hc=>by
  let%[_|co]:=im _ _ hc;rw[ep]at co;rw[xY k n6 nd hn co];exact decide_eq_true rfl
 rw[nq k n6,jq (b':=λ_=>true) e1];unfold ee;have e2:(dq p.toNat (bu ns ts)).filter (λ_=>true)=dq p.toNat (bu ns ts):=List.filter_eq_self.mpr λ_ _=>rfl
 have e3:(dq p.toNat (bu ns ts)).filter (λc=>!((λ_=>true) c))=[]:=List.filter_eq_nil_iff.mpr λ_ _=>by simp
 rw[e2,e3,rM,Int.natCast_pow,ep];rfl
end
section
variable {ns:List Str} {ts:List Tr} {p:Int} {t:Tk} {rows:List Hr}
def du(z:Ak)(n:Nat):List Int:=(List.range n).map λk:Nat=>gi z ((k:Int) % z.p)
theorem iH(z:Ak)(n:Nat):(du z n).length=n:=by unfold du;rw[zE0,qQ0]
theorem wG(z:Ak)(n:Nat):du z (n+1)=du z n++[gi z ((n:Int) % z.p)]:=by
 unfold du;rw[List.range_succ,zK0];rfl
theorem qS(z:Ak){n:Nat}(h:z.mn=(n:Int)):qT z.mn (du z n)=du z n:=by
 unfold qT;rw[iH,h,Int.sub_self];exact List.append_nil _
theorem zq (k:GmK ns ts p) (n6:ns.length<=6) (nd:ns.Nodup) (h:TkOk ns ts p t) (hw:t.z.aw.1="hear"):du (t.ak ns ts p) (awN t.z).toNat=gQ ns ts t.z.s p t.z.to (awN t.z).toNat:=by
 let%[ok,a0,a5,tl,aw|ea]:=h.ak k n6 hw;have nr:=h.nr;have hx:ns.getD t.z.to.length ""∈ns:=by
  rw[qP0,zQ0 tl];exact qR0 tl
 have dp:=(k.deg _ hx).2;unfold du gQ;refine List.map_congr_left λj hj=>?_
 have hj:=List.mem_range.mp hj;have e:(j:Int) % (t.ak ns ts p).p=(j:Int):=qU0 #[0] (by show(j:Int)<p;omega);rw[e];exact Be ok nd (j:Int) (by show 0<t.nr;omega)
theorem zr(k:GmK ns ts p):du ((Tk.new ts).ak ns ts p) ts.length=ts.map λu=>(cnt u ns:Int) % p:=by
 have tp:=k.tp;refine List.ext_getElem? λj=>?_
 unfold du;rw[zY0,zY0]
 by_cases c:j<ts.length
 . rw[List.getElem?_range c,zQ0 c];show some (gi ((Tk.new ts).ak ns ts p) ((j:Int) % ((Tk.new ts).ak ns ts p).p))=_;have e:(j:Int) % ((Tk.new ts).ak ns ts p).p=(j:Int):=qU0 #[0] (by show(j:Int)<p;omega);rw[e,Bf (z:=(Tk.new ts).ak ns ts p) rfl j (zQ0 c)];rfl
 . rw[List.getElem?_eq_none (by rw[qQ0];omega),List.getElem?_eq_none #[0]];rfl
theorem Hon.of(k:GmK ns ts p)(n6:ns.length<=6)(nd:ns.Nodup)(h:∀(z:Ak) (bx:Str->Int) (n:Nat),z.p=p->z.mn=(n:Int)->1<=n->(n=ts.length∨∃x∈ns,(n:Int)=bz ts x+1)->(lF z rows 200 %[(0),bx|[]]).sd=du z n):Hon ns ts p rows:=by
 erw[6,λt ht hw=>?_]
 . have e:=h ((Tk.new ts).ak ns ts p) (Tk.new ts).bx ts.length rfl rfl k.t1 (.inl rfl);unfold Tk.said Tk.run;rw[e];exact(qS ((Tk.new ts).ak ns ts p) rfl).trans (zr k)
 . let%[ok,a0,a5,tl,aw|ea]:=ht.ak k n6 hw;have hx:ns.getD t.z.to.length ""∈ns:=by
    rw[qP0,zQ0 tl];exact qR0 tl
   have d0:=(pQ k (ns.getD t.z.to.length "")).1;have en:awN t.z=((awN t.z).toNat:Int):=by omega
   have e:=h (t.ak ns ts p) t.bx (awN t.z).toNat rfl en #[0] (.inr %[_,hx|3]);unfold Tk.said Tk.run;rw[e];exact(qS (t.ak ns ts p) en).trans (zq k n6 nd ht hw)
theorem ne_tc:¬ (("true":Str)="coin"):=by decide
def hB (x:Str):List Hr:=[.set x (.num 0),.say (.ask "true" (.box x)),.set x (.op "+" (.box x) (.num 1)),.go 1]
theorem tY{z:Ak}{rows:List Hr}{n:Nat}{s:MS}(h1:s.pl<(rows.length:Int))(h2:(s.sd.length:Int)<z.mn):lF z rows (n+1) s=lF z rows n (eI z rows s):=zD0 %[h1|h2]
theorem yF{z:Ak}{rows:List Hr}{s:MS}(h:¬ (s.pl<(rows.length:Int)/\(s.sd.length:Int)<z.mn)):∀n,lF z rows n s=s
 | 0=>rfl
 | n+1=>zA0 h
theorem runB{z:Ak}{x:Str}(p0:0<z.p):∀(m j fuel:Nat)(bx:Str->Int),z.mn=((j+m:Nat):Int)->3*m<=fuel->bx x=(j:Int) % z.p->(lF z (hB x) fuel %[(1),bx|du z j]).sd=du z (j+m)
 | 0,j,fuel,bx,hm,hf,hb=>by
   rw[yF (λc=>absurd c.2 (by show ¬ ((du z j).length:Int)<z.mn;rw[iH,hm];omega))];rfl
 | m+1,j,fuel,bx,hm,hf,hb=>by
   obtain⟨fu,rfl⟩:∃fu,fuel=fu+3:=%[fuel-3|3]
   have e1:eI z (hB x) %[(1),bx|du z j]=⟨2,bx,du z (j+1)⟩:=by
    show(%[1+1,bx|du z j++[if("true":Str)="coin" then ko z (bx x)else gi z (bx x)]]:MS)=_;rw[zA0 ne_tc,hb,wG];rfl
   rw[tY (by show(1:Int)<4;decide) (by show((du z j).length:Int)<z.mn;rw[iH,hm];omega),e1];cases m with
   | zero=>
     rw[yF (λc=>absurd c.2 (by show ¬ ((du z (j+1)).length:Int)<z.mn;rw[iH,hm];omega))]
   | succ m=>
     have hl:((du z (j+1)).length:Int)<z.mn:=by rw[iH,hm];omega
     have e2:eI z (hB x) %[(2),bx|du z (j+1)]=⟨3,jH bx x (opV z.p "+" (bx x) (1 % z.p)),du z (j+1)⟩:=rfl;have e3:eI z (hB x) ⟨3,jH bx x (opV z.p "+" (bx x) (1 % z.p)),du z (j+1)⟩=⟨1,jH bx x (opV z.p "+" (bx x) (1 % z.p)),du z (j+1)⟩:=rfl;rw[tY (by show(2:Int)<4;decide) hl,e2,tY (by show(3:Int)<4;decide) hl,e3];have hb2:jH bx x (opV z.p "+" (bx x) (1 % z.p)) x=((j+1:Nat):Int) % z.p:=by
      unfold jH;rw[zD0 rfl];show(bx x+1 % z.p) % z.p=_;rw[hb,Int.emod_add_emod,Int.add_emod_emod];rfl
     have:=runB p0 (m+1) (j+1) fu _ (by rw[hm];omega) #[0] hb2
     rw[this]
     congr 1
     omega
theorem hon_B(k:GmK ns ts p)(n6:ns.length<=6)(nd:ns.Nodup)(d60:∀y∈ns,bz ts y<=60):Hon ns ts p (hB x):=Hon.of k n6 nd λz bx n zp hn n1 h=>by
 have p2:=k.p2;have t10:=k.t10;have n66:n<=66:=by
  rcases h with h | ⟨y,hy,h⟩
  . omega
  . have:=d60 y hy
    omega
 have e1:eI z (hB x) %[(0),bx|[]]=⟨1,jH bx x (0 % z.p),du z 0⟩:=rfl;rw[tY (by show(0:Int)<4;decide) (by rw[hn];show(0:Int)<(n:Int);omega),e1,runB #[0] n 0 199 _ (by rw[hn,Nat.zero_add]) #[0] (by unfold jH;rw[zD0 rfl];rfl),Nat.zero_add]
end
section
def vT:List Hr:=hB "i"
theorem Az:sU vT:=by
 erw[4,λr hr=>?_];unfold vT hB at hr;simp only[List.mem_cons,List.not_mem_nil,or_false]at hr;have ni:NmK "i":=by unfold NmK;decide
 rcases hr with rfl | rfl | rfl | rfl
 . erw[ni,%[4|4],4,4]
 . erw[%[4|ni],4,4]
 . erw[ni,%[4,ni,4|4],4,4]
 . erw[4,4]
theorem Ay:oV vT="set i 0\nsay (true i)\nset i (+ i 1)\ngo 1":=by decide
inductive spHonest(vs:List V)(H:Hp)(Q:VK)(u_3:XK):Prop
 |mk:vs=[]->(∀(a:Addr)(tv:List V)(H':Hp),H' a=some (.tup tv)->RowsAt H' tv vT->Same H H'->Q (.ref a) H')->spHonest vs H Q u_3
theorem zE:FnScope [] [] (ai qy):=%[1,1,1,4,1,4|4]
theorem Aa   (F:Fun K "honest" "honest" qy f fd) (X:∃t,mg "HONEST_ROWS"=some (.str ("set i 0\nsay (true i)\nset i (+ i 1)\ngo 1":Str) t)) (i8:Cal P w K mg base 21 "read_helper" ["text"] spReadH):FnOk P w K mg base CX0 22 f fd [] spHonest:=by
 exists zE
 erw[1,q]at h;erw[t,gx]at X;erw[_,(ad (aq (ag i8 hr ⋯ rfl %[cX (v:=.str ("set i 0\nsay (true i)\nset i (+ i 1)\ngo 1":Str)) rfl gx %[|0]|aO]))),6];erw[vT,by rw[Ay];rfl,Az,q]
theorem Fo:∀r∈vT,r.good:=by
 intro r hr;unfold vT hB at hr;simp only[List.mem_cons,List.not_mem_nil,or_false]at hr;rcases hr with rfl | rfl | rfl | rfl
 . erw[trivial,4]
 . erw[%[4|trivial],4]
 . erw[%[4,trivial|trivial],4]
 . exact(by decide:(0:Int)<=1)
end
def xu:Option (List Int)->PyData
 | none=>.none
 | some c=>.tuple (c.map PyData.int)
def wtD(x:Int×Option (List Int)):PyData:=.tuple [.int x.1,xu x.2]
theorem OptAt.rep{K:W.Frag}{x:Option (List Int)}(h:OptAt H v x):Rep K H v (xu x):=by
 cases x with
 | none=>rw[show v=.non from h];exact .non
 | some c=>erw[b,1,hb]at h;exact .tup (zC0 hb) (qF _)
theorem GO(x:Option (List Int)):(xu x).canLay0=true/\(xu x).depth<=1:=by
 cases x with
 | none=>simp [xu,PyData.canLay0,PyData.depth]
 | some c=>simp [xu,PyData.canLay0,PyData.depth,W.ke_canLayAll0,W.ke_depthAll]
theorem iG(x:Int×Option (List Int)):SeqAt.shaped (wtD x)=true:=by
 have h:=GO x.2;have hc:(wtD x).canLay0=true:=by simp [wtD,PyData.canLay0,PyData.canLayAll0,h.1]
 have hd:(wtD x).depth<=10:=by
  show max 0 (max (xu x.2).depth 0)+1<=10;omega
 unfold SeqAt.shaped;rw[hc,Bool.true_and,decide_eq_true_eq];omega
theorem AT(x:Int×Option (List Int)):PyData.eqv (wtD x) (wtD x)=true:=PySem.SeqAt.eqv_refl _ (SeqAt.canLay_of_shaped (iG x))
section
variable {C CM CA CG:Addr}
theorem yU{n k:Nat}(h:k<n):ixN n (k:Int)=some k:=by
 unfold ixN;rw[zD0 #[0],zD0 #[0],qO0]
theorem RowsAt.put{i:Nat}(h:RowsAt H us rows)(hv:HrAt H v r):RowsAt H (us.set i v) (rows.set i r):=by
 erw[by rw[List.length_set,List.length_set];exact h.1,λj a b ha hb=>?_];rw[List.getElem?_set]at ha hb;have hl:=h.1
 by_cases c:i=j
 . rw [zD0 c]at ha hb
   split at ha
   . split at hb
     . cases ha;cases hb;exact hv
     . cases hb
   . cases ha
 . rw[zA0 c]at ha hb;exact h.2 j a b ha hb
def ld(rows:List Hr):Prop:=∀r∈rows,r.good
theorem Du{i:Nat}{r:Hr}(h:ld rows)(hr:r.good):ld (rows.set i r):=λx hx=>by
 rcases List.mem_or_eq_of_mem_set hx with z | z
 . exact h x z
 . rw[z];exact hr
inductive spOnw(vs:List V)(H:Hp)(Q:VK)(u_3:XK):Prop
 |mk:∀(h:Addr)(rv:List V)(rows:List Hr),vs=[.ref h]->H h=some (.tup rv)->RowsAt H rv rows->ld rows->(∀(h':Addr)(rv':List V)(rows':List Hr)(H':Hp),Same H H'->H' h'=some (.tup rv')->RowsAt H' rv' rows'->ld rows'->Q (.ref h') H')->spOnw vs H Q u_3
theorem iW:FnScope ["_law_helper_here","_law_rows","_law_at","_law_row"] ["_law_helper_here"] (ai lB):=%[1,1,1,4,1,4|4]
inductive RwV(H:Hp)(v:V)(r:Hr):Prop
 | go (a:Addr) (n:Int):v=.ref a->r=.go n->H a=some (.tup [.str "go",.int n])->RwV H v r
 | iff (a:Addr) (u:V) (t:Tm) (n:Int):v=.ref a->r=.iff t n->H a=some (.tup [.str "if",u,.int n])->TmAt H u t->RwV H v r
 | oth (a:Addr) (o:Str) (us:List V):v=.ref a->H a=some (.tup (.str o::us))->o≠"go" -> o≠"if" -> RwV H v r
theorem HrAt.rv(h:HrAt H v r):RwV H v r:=by
 cases h with
 | fin e=>exact .oth _ _ _ rfl e ⋯ ⋯
 | go e=>exact .go _ _ rfl rfl e
 | iff e t=>exact .iff _ _ _ _ rfl rfl e t
 | set e t=>exact .oth _ _ _ rfl e ⋯ ⋯
 | say e t=>exact .oth _ _ _ rfl e ⋯ ⋯
theorem EZ{a b:Str}(h:a≠b):¬ V.str a=V.str b:=λz=>h (V.str.inj z)
theorem vz   (F:Fun K "_law_onward" "_law_onward" lB f fd) (B:Bl mg):FnOk P w K mg base CX0 1 f fd ["_law_helper_here"] spOnw:=by
 exists iW
 erw[h,rv,rows,1,hh,RW,gd,q]at h;refine⟨_,(aa #[aj,1,iW,bi mZ rfl B.list lI %[0|aO]]
  (aa (cv PassesOwn.never rfl (vi rfl B.enumerate (pv 0)) (oj rfl (cK (bb (i:=2) iW.nd rfl (.inl rfl)) (cK (bb (i:=3) iW.nd rfl (.inl rfl)) kF))) (aa (aG (PW.pt (lG (ah aP (aJ ix_tup (pv 3) ae (λ_ _=>rfl)) au (ax _)) (kE (ah oN (aJ ix_tup (pv 3) ae (λ_ _=>rfl)) (pv 2) (ax _))))) (ad (kc (aF %[au|aO]) (qQ (pv 1) (pv 2) jJ))) az)
   (ad (aG (PW.pt (lG (ah aP (aJ ix_tup (pv 3) ae (λ_ _=>rfl)) au (ax _)) (kE (ah oN (aJ ix_tup (pv 3) ae (λ_ _=>rfl)) (pv 2) (ax _))))) (ad (kc (aF %[au,aJ ix_tup (pv 3) ae (λ_ _=>rfl)|aO]) (qQ (pv 1) (pv 2) jJ))) az))))
  (ad (aq (bi ba rfl B.tuple bd %[1|aO]))))),?_⟩
 have n1:¬ V.str "if"=V.str "go":=EZ ⋯;have n2:¬ V.str "go"=V.str "if":=EZ ⋯;erw[0,h,0,.inr (zC0 hh),λL hL=>?_];have I:=zB0 hL (.lst rv);erw[0,h,1,%[_|zC0 (I _ _ hh)],sI (K:=K) (xs:=rv) (λi σ H'=>∃(x2 x3:Option V) (us:List V) (rs:List Hr),σ=[some (.ref h),some (.ref L),x2,x3]/\H' L=some (.lst us)/\RowsAt H' us rs/\ld rs/\us.length=rv.length/\Same H H') %[_,_,rv,rows,1,aI,RW.mono (aX I),gd,1|I] (λi σ H' _ hst=>by erw[_,_,_,_,_,_,_,_,_,h]at hst;exact zC0 (h _ _ hh)) ?_ ?_]
 . rintro i z σ H1 t hz ⟨x2,x3,us,rs,rfl,hL1,R1,g1,ul,S1⟩ ht;have hi:i<rv.length:=(zW0 hz).1;have hr':=zQ0 (l:=rows) (i:=i) (by rw[←RW.1];exact hi);have gr:=gd _ (qF0 hr');have G:=zB0 ht (.tup [.int (i:Int),z]);have et:upd H1 t (.tup [.int (i:Int),z]) t=_:=aI;generalize upd H1 t (.tup [.int (i:Int),z])=H2 at G et;have S2:=S1.trans G;have hL2:=G _ _ hL1;have R2:=R1.mono (aX G);have inv:∀(x2 x3:Option V)(c:Addr)(xs:List V)(r:Hr),H2 c=none->HrAt (upd H2 c (.tup xs)) (.ref c) r->r.good->∃(y2 y3:Option V)(us':List V)(rs:List Hr),([some (.ref h),some (.ref L),x2,x3]:St)=[some (.ref h),some (.ref L),y2,y3]/\upd (upd H2 c (.tup xs)) L (.lst (us.set i (.ref c))) L=some (.lst us')/\RowsAt (upd (upd H2 c (.tup xs)) L (.lst (us.set i (.ref c)))) us' rs/\ld rs/\us'.length=rv.length/\Same H (upd (upd H2 c (.tup xs)) L (.lst (us.set i (.ref c)))):=λx2 x3 c xs r hc hv gr=>by
    have I3:=zB0 hc (.tup xs);have hL3:=I3 _ _ hL2;have k4:bJ (upd H2 c (.tup xs)) (upd (upd H2 c (.tup xs)) L (.lst (us.set i (.ref c)))):=di hL3;erw[x2,x3,_,rs.set i r,1,aI,((R2.mono (aX I3)).put hv).mono k4,Du g1 gr,by rw[List.length_set];exact ul,λa o e=>by rw[bh (aV e hL)];exact(S2.trans I3) _ _ e]
   have s1:1<=sizeLine:=by decide
   have s2:2<=sizeLine:=by decide
   erw[t,0,zC0 et,1,_,0,2,6];cases((RW.2 i z _ hz hr').mono (aX S2)).rv with
   | go r n ez eq er=>
     subst ez;erw[0,r,_,(0),0,1,zC0 er,at0 ..,1,0,aS rfl ?_];erw[0,r,_,(1),.int n,1,1,zC0 er,1,0,2,0,6];refine rf (λc=>?_) (λc=>?_)
     . erw[s1,λc hc=>%[0,0,L,us,_,i,1,1,(zB0 hc _) _ _ hL2,yU #[0]|6]];have er4:upd (upd H2 c (.tup [.str "end"])) L (.lst (us.set i (.ref c))) r=some (.tup [.str "go",.int n]):=by
        rw[bh (bn er hL2 (by intro z;cases z)),bh (aV er hc)];exact er
       erw[0,r,_,(0),0,1,zC0 er4,at0 ..,1,0,aB n2 ?_];exact inv _ _ c _ .fin hc (.fin aI) trivial
     . erw[0,r,_,(0),0,1,zC0 er,at0 ..,1,0,aB n2 ?_];erw[_,_,us,rs,1,hL2,R2,g1,ul,S2]
   | iff r u tm n ez eq er tt=>
     subst ez;erw[0,r,_,(0),0,1,zC0 er,at0 ..,1,0,aB n1 ?_];erw[0,r,_,(0),0,1,zC0 er,at0 ..,1,0,aS rfl ?_];erw[0,r,_,(2),.int n,1,1,zC0 er,1,0,2,0,6];refine rf (λc=>?_) (λc=>?_)
     . erw[0,r,_,(1),u,1,1,zC0 er,1,s2,λc hc=>%[0,0,L,us,_,i,1,1,(zB0 hc _) _ _ hL2,yU #[0]|6]];rw[eq]at gr;exact inv _ _ c _ (.say tm) hc (.say aI (tt.mono (aX (zB0 hc _)))) ⟨gr.1,gr.2.1⟩
     . erw[_,_,us,rs,1,hL2,R2,g1,ul,S2]
   | oth r o ys ez er o1 o2=>
     subst ez;erw[0,r,_,(0),0,1,zC0 er,at0 ..,1,0,aB (EZ o1) ?_];erw[0,r,_,(0),0,1,zC0 er,at0 ..,1,0,aB (EZ o2) ?_];erw[_,_,us,rs,1,hL2,R2,g1,ul,S2]
 . rintro σ H1 ⟨x2,x3,us,rs,rfl,hL1,R1,g1,ul,S1⟩;erw[0,L,0,.inl %[zG0 hL1|λa ha=>?_]];have I:=zB0 ha (.tup us);exact q a us rs _ (S1.trans I) aI (R1.mono (aX I)) g1
inductive spAny54(vs:List V)(H:Hp)(Q:VK)(u_3:XK):Prop
 |mk:∀(f b:Addr)(bs:List Str),vs=[.ref f,.ref b]->FeedAt H f->H b=some (.lst (bs.map V.str))->b≠f->bs.length=3->(∀(h:Addr)(rv:List V)(rows:List Hr)(H':Hp),H' h=some (.tup rv)->RowsAt H' rv rows->ld rows->SameBut f H H'->Q (.ref h) H')->spAny54 vs H Q u_3
theorem ph:FnScope ["_law_feed_here","_law_boxes"] ["_law_feed_here","_law_boxes"] (ai ia):=%[1,1,1,4,1,4|4]
theorem pA   (F:Fun K "_law_any_helper" "_law_any_helper" ia f fd) (aW:Cal P w K mg base 1 "_law_take" ["_law_feed_here","_law_many"] spTake) (o6:Cal P w K mg base 1 "_law_onward" ["_law_helper_here"] spOnw)
 (o7:Cal P w K mg base 8 "_law_helper" ["_law_feed_here","_law_boxes","_law_most"] spHelp) (BJ:Cal P w K mg base 2 "_law_liar" ["_law_feed_here","_law_box"] spLiar):FnOk P w K mg base CX0 9 f fd ["_law_feed_here","_law_boxes"] spAny54:=by
 exists ph
 erw[f,b,bs,1,hF,hb,bf,bl,q]at h;refine⟨_,(aa (aG (ah aP (ag aW hr ⋯ rfl %[0,ae|aO]) ae (ax _)) (ad (aq (ag o6 hr ⋯ rfl %[ag o7 hr ⋯ rfl %[0,1,ae|aO]|aO]))) az)
  (ad (aq (ag BJ hr ⋯ rfl %[0,aJ ix_list (pv 1) ae (λ_ _=>rfl)|aO])))),?_⟩
 erw[0,f,(2),1,hF,4,4,λd H1 d0 d2 F1 B1=>%[1,0|6]];have hb1:=B1 _ _ bf hb;refine rf (λc=>?_) (λc=>?_)
 . erw[0,0,f,b,bs,(8),1,F1,hb1,bf,3,3,4,4,λh rv rows H2 hh RW gd F2 B2=>%[h,rv,rows,1,hh,RW,gd|λh' rv' rows' H3 S3 hh' RW' gd'=>q h' rv' rows' H3 hh' RW' gd' (B1.trans (B2.trans (zI0 S3)))]]
 . cases bs with
   | nil=>cases bl
   | cons x bs=>erw[0,0,b,_,(0),.str x,1,1,zG0 hb1,at0 ..,f,x,1,F1,λh rv rows H2 hh RW gd F2 B2=>q h rv rows H2 hh RW gd (B1.trans B2)]
end
section
variable {C CM CA CG:Addr} {ns:List Str} {ts:List Tr} {p:Int} {rows:List Hr}
def EdW (a:Str×Option Int):Prop:=a.1="believed" -> a=(("believed":Str),none)
theorem uJ(z:Db):EdW (goOn ns ts p z).aw:=by
 unfold goOn eg EdW
 split
 . exact λh=>absurd h FQ
 . show (if _ then _ else _:Str×Option Int).1="believed" -> (if _ then _ else _:Str×Option Int)=_
   split
   . exact λ_=>rfl
   . exact λh=>absurd h yN
theorem qc(k:GmK ns ts p)(n6:ns.length<=6):∀(n:Nat)(cs:List Int)(t:Tk),TkOk ns ts p t->ci cs p->EdW t.z.aw->EdW (db ns ts p rows cs n t).2.z.aw/\AwW (db ns ts p rows cs n t).2.z.aw.1
 | 0,_,_,h,_,e=>%[e|h.gd.ww]
 | n+1,cs,t,h,co,e=>by
   have p2:=k.p2
   by_cases ch:t.z.aw.1="hear"
   . rw [fL ch];refine qc k n6 n cs _ (h.ask k n6 ch).1 co ?_;rw[show(t.ask ns ts p rows).z=dB p (t.said ns ts p rows) { t.z with pl:=t.z.pl+((t.said ns ts p rows).length:Int) }from zA0 h.cl];unfold dB EdW;show(if _ then _ else _:Str×Option Int).1="believed" -> _
     split
     . exact λz=>absurd z yO
     . exact λz=>absurd z yN
   . by_cases cc:t.z.aw.1="coin"
     . rw [fN cc];let%[r0|r1]:=oy co #[0];refine qc k n6 n cs.tail _ (h.toss k cc r0 r1).1 (sV co) ?_;show EdW (cZ ns ts p (cs.headD 0) t.z).aw;unfold cZ
       split
       . exact uJ _
       . exact uJ _
     . rw[dR ch cc];erw[e,h.gd.ww]
theorem Bi(k:GmK ns ts p)(n6:ns.length<=6)(co:ci cs p):EdW (gl ns ts p rows cs).2.z.aw/\AwW (gl ns ts p rows cs).2.z.aw.1:=by
 refine qc k n6 20 cs _ (kJ k n6).1 co ?_;have e0:cF ns ts p ((Tk.new ts).said ns ts p rows) (Db.new ts)=iM ns ts p ((Tk.new ts).said ns ts p rows) { Db.new ts with pl:=(Db.new ts).pl+(((Tk.new ts).said ns ts p rows).length:Int) }:=zD0 rfl;show EdW (cF ns ts p ((Tk.new ts).said ns ts p rows) (Db.new ts)).aw;rw[e0];unfold iM
 split
 . exact uJ _
 . exact λz=>absurd z yO
theorem zP{L:List (List Int)}{j:Nat}{c:List Int}(h:L[j]?=some c)(b:List Int->Bool):ee (L.take (j+1)) b []=((ee (L.take j) b []).1+(if b c=true then 1 else 0),(ee (L.take j) b []).2.or (if b c=true then none else some c)):=by
 rw[qI0,h];show ee (L.take j++[c]) b []=_;rw[ve];unfold ee;cases e:b c <;> simp [e]
inductive spDue54(C CM CG:Addr)(vs:List V)(H:Hp)(Q:VK)(u_3:XK):Prop
 |mk:∀(g h:Addr)(rv:List V)(rows:List Hr)(ns:List Str)(ts:List Tr)(p:Int),vs=[.ref g,.ref h]->Gm CG H g ns ts p->GmK ns ts p->ns.length<=6->H h=some (.tup rv)->RowsAt H rv rows->ld rows->p ^ bu ns ts<=200->(∀(a:Addr)(H':Hp),Same H H'->WtAt H' a (dZ ns ts p rows (bu ns ts) 8 (Tk.new ts) [])->Q (.ref a) H')->spDue54 C CM CG vs H Q u_3
theorem fh:FnScope ["_law_game","_law_helper_here","_law_good","_law_first","_law_handed","_law_row","_law_talk","_law_end"] ["_law_game","_law_helper_here"] (ai tO):=%[1,1,1,4,1,4|4]
theorem Cu   (F:Fun K "_law_due" "_law_due" tO f fd) (TG:GTxt K mg CG) (mC:Meth K CG "coins" fC) (GC:FnOk P w K mg base CX0 1 fC fdC ["self"] (spCoins CG)) (bC:Binds K fdC ["self"] []) (jM:Cal P w K mg base 1 "_law_all_rows" ["_law_field_here","_law_coins"] spAllC)
 (B0:Cal P w K mg base 27 "talked" ["game","helper","coins"] (spTalked C CM CG)):FnOk P w K mg base CX0 28 f fd ["_law_game","_law_helper_here"] (spDue54 C CM CG):=by
 exists fh
 erw[g,h,rv,rows,ns,ts,p,1,G,k,n6,hh,RW,gd,pw,q]at h;have hr1:Room 1 _:=hr.mono ⋯;refine⟨_,(aa #[aj,2,fh,ae]
  (aa #[aj,3,fh,ju]
  (aa #[aj,4,fh,dy aO]
  (aa (cv PassesOwn.never rfl (eQ (ag jM hr ⋯ rfl %[ay (pv 0) rfl,bq (pv 0) TG.cl mC GC hr1 bC .nil aY|aO])) (bb (i:=5) fh.nd rfl (.inl rfl)) (aa (aR (GK PySem.F.plainAttrs_list PySem.F.slot_list_clear PySem.F.type_list_clear CZ (pv 4)))
   (aa (aR (eA PySem.F.plainAttrs_list PySem.F.slot_list_extend PySem.F.type_list_extend Fb (pv 4) %[5|aO]))
   (aa (kc (ag B0 hr ⋯ rfl %[0,1,4|aO]) (oj rfl (cK (bb (i:=6) fh.nd rfl (.inl rfl)) (cK (bb (i:=7) fh.nd rfl (.inl rfl)) kF))))
   (ad (aG (ah (ui hr.units) (pv 7) (aF %[au|aO]) (ax _)) (ad #[aj,2,fh,ao aQ (pv 2) ae]) (ad (aG (ah ug (pv 3) ju (ax _)) (ad #[aj,3,fh,pv 5]) az))))))))
  (ad (aq (aF %[2,3|aO]))))))),?_⟩
 have p2:=k.p2;have p9:=k.p9;have t1:=k.t1;have cn:=iP (ts:=ts) n6;rw[nq k n6]at q;let%[ga,gb,gd',tv,GA,ha,hb,TS|hd]:=id G;let%[dx|hg]:=id GA;erw[(by show 0<=sizeLine;decide),λL hL=>?_];have I1:=zB0 hL (.lst []);have e1:upd H L (.lst []) L=_:=aI;generalize upd H L (.lst [])=H1 at I1 e1;erw[0,g,CG,dx,_,0,I1 _ _ hg,TG.cl,TG.nF,gN ..,0,g,dx,0,I1 _ _ hg,oX _ _ _ _ ⋯ ⋯ ⋯ ⋯,g,ga,gb,gd',ns,tv,p,1,GA.same I1,I1 _ _ ha,I1 _ _ hb,6];rw[show(if tv.length=1 then(ns.length:Int)else(ns.length:Int)+1)=((bu ns ts:Nat):Int) by rw[TS.length];unfold bu;split <;> rfl];erw[p,0,3,p9,3,3,by rw[qO0];exact pw,λr H2 r0 S2 ST=>?_];rw[qO0]at ST;erw[rs,hrs,TT]at ST;have J2:=I1.trans S2;have rl:=TT.length;erw[r,1,%[_|zG0 hrs],ki (K:=K) (xs:=rs) (λj σ H'=>∃(fv:V) (ys:List V) (x5 x6 x7:Option V),σ=[some (.ref g),some (.ref h),some (.int (ee ((dq p.toNat (bu ns ts)).take j) (λc=>decide ((gl ns ts p rows c).2.z.aw.1="believed")) []).1),some fv,some (.ref L),x5,x6,x7]/\H' L=some (.lst ys)/\OptAt H' fv (ee ((dq p.toNat (bu ns ts)).take j) (λc=>decide ((gl ns ts p rows c).2.z.aw.1="believed")) []).2/\SameBut L H2 H') %[.non,[],_,_,0,S2 _ _ e1,1|SameBut.refl _ _] (λj σ H' _ hst=>by erw[_,_,_,_,_,_,_,_,sb]at hst;exact zG0 (sb _ _ (λz=>by rw[z,e1]at r0;cases r0) hrs)) ?_ ?_]
 . rintro j y σ H3 hj ⟨fv,ys,x5,x6,x7,rfl,hL3,OA,sb⟩;have kT3:bJ H2 H3:=λa xs e=>sb _ _ (bn e (S2 _ _ e1) (by intro z;cases z)) e
   let%[c,hcs,t,1|ht]:=(TT.mono kT3).get hj;let%[cl|co]:=im _ _ (qF0 hcs);rw[show(p.toNat:Int)=p by omega]at co;erw[0,.inl %[1,_|zG0 hL3],L,0,1,hL3,6];have B4:SameBut L H3 (upd H3 L (.lst [])):=SameBut.upd _;have e4:upd H3 L (.lst []) L=_:=aI;generalize upd H3 L (.lst [])=H4 at B4 e4;have k4:bJ H3 H4:=λa xs e=>B4 _ _ (bn e hL3 (by intro z;cases z)) e
   erw[0,.inl %[1,_|zG0 e4],0,L,t,0,1,e4,zC0 (k4 _ _ ht),6];have B5:SameBut L H4 (upd H4 L (.lst (c.map V.int))):=SameBut.upd _;have e5:upd H4 L (.lst (c.map V.int)) L=_:=aI;generalize upd H4 L (.lst (c.map V.int))=H5 at B5 e5;have B35:=B4.trans B5;have k5:bJ H3 H5:=λa xs e=>B35 _ _ (bn e hL3 (by intro z;cases z)) e
   have B25:=sb.trans B35;have J5:Same H H5:=λa o e=>B25 _ _ (aV e hL) (J2 _ _ e)
   erw[0,0,0,g,h,L,rv,rows,ns,ts,p,c,1,G.same J5,k,n6,J5 _ _ hh,RW.mono (aX J5),gd,.inl e5,co,6,3,λa H6 S6 Td=>?_]
   . rw [cl];unfold bu
     split <;> split <;> omega
   erw[tb,tc,us,h1,h2,h3,h4]at Td.ex;erw[a,0,zC0 h1,1,_,0,2,6];erw[0,(by show 1<=sizeLine;decide),λu hu=>?_];have I7:=zB0 hu (.tup [.str "believed"]);have e7:upd H6 u (.tup [.str "believed"]) u=_:=aI;generalize upd H6 u (.tup [.str "believed"])=H7 at I7 e7;let%[be|ww]:=Bi (rows:=rows) k n6 co;erw[_,awD (("believed":Str),none),GE (I7 _ _ h4),.tup (zC0 e7) (.cons (.str _) .nil),sx ww,sx (.inr (.inr (.inr rfl))),0,6];rw[Hw];have S57:=S6.trans I7;have OA7:=OA.mono (λa xs e=>S57 _ _ (k5 _ _ e));have L7:=S57 _ _ e5;have B27:=B25.trans (zI0 S57);have sn:=zP hcs (λc=>decide ((gl ns ts p rows c).2.z.aw.1="believed"))
   by_cases cb:(gl ns ts p rows c).2.z.aw.1="believed"
   . refine aS (be cb) ?_;erw[0,2,fv,_,some (.ref t),some (.ref tb),some (.ref tc),6,L7,6,B27]
     . rw[sn,zD0 (decide_eq_true cb)];rfl
     . rw[sn,zD0 (decide_eq_true cb),zD0 (decide_eq_true cb),Option.or_none];exact OA7
   . refine aB (λz=>cb (congrArg Prod.fst z)) ?_;rw[zA0 (by rw[decide_eq_false cb];decide),zA0 (by rw[decide_eq_false cb];decide),Int.add_zero]at sn;have e1':(ee ((dq p.toNat (bu ns ts)).take (j+1)) (λc=>decide ((gl ns ts p rows c).2.z.aw.1="believed")) []).1=(ee ((dq p.toNat (bu ns ts)).take j) (λc=>decide ((gl ns ts p rows c).2.z.aw.1="believed")) []).1:=by rw[sn]
     have e2':(ee ((dq p.toNat (bu ns ts)).take (j+1)) (λc=>decide ((gl ns ts p rows c).2.z.aw.1="believed")) []).2=(ee ((dq p.toNat (bu ns ts)).take j) (λc=>decide ((gl ns ts p rows c).2.z.aw.1="believed")) []).2.or (some c):=by rw[sn]
     cases eo:(ee ((dq p.toNat (bu ns ts)).take j) (λc=>decide ((gl ns ts p rows c).2.z.aw.1="believed")) []).2 with
     | none=>
       rw[eo]at OA7 e2'
       have:fv=.non:=OA7
       subst this;erw[0,1,0,aS rfl ?_];erw[0,.ref t,_,some (.ref t),some (.ref tb),some (.ref tc),by rw[e1'];rfl,L7,6,B27];rw[e2'];erw[t,1,S57 _ _ (k5 _ _ ht)]
     | some c0=>
       rw[eo]at OA7 e2';let%[b0,1|hb0]:=id OA7;erw[0,1,0,aB (by intro z;cases z) ?_];erw[.ref b0,_,some (.ref t),some (.ref tb),some (.ref tc),by rw[e1'];rfl,L7,6,B27];rw[e2'];exact OA7
 . rintro σ H3 ⟨fv,ys,x5,x6,x7,rfl,hL3,OA,sb⟩;rw[rl,qG0]at OA ⊢;erw[0,0,(by show 2<=sizeLine;decide),λa ha=>?_];have I:=zB0 ha (.tup [.int (ee (dq p.toNat (bu ns ts)) (λc=>decide ((gl ns ts p rows c).2.z.aw.1="believed")) []).1,fv]);exact q a _ (λb o e=>I _ _ (sb _ _ (aV e hL) (J2 _ _ e))) %[fv,aI|OA.mono (aX I)]
end
section
variable {C CM CA CG:Addr}
inductive spRt54(vs:List V)(H:Hp)(Q:VK)(u_3:XK):Prop
 |mk:∀(a b:Addr)(x:Int×Option (List Int)),vs=[.ref a,.ref b]->WtAt H a x->WtAt H b x->(∀c,x.2=some c->c.length<=100)->(∀H',Same H H'->Q (.bl true) H')->spRt54 vs H Q u_3
theorem WtAt.rep(h:WtAt H a x):Rep K H (.ref a) (wtD x):=by
 erw[v,e,o]at h;exact .tup (zC0 e) (.cons (.int _) (.cons o.rep .nil))
theorem WtAt.mono(h:WtAt H a x)(k:bJ H H'):WtAt H' a x:=by
 erw[v,e,o]at h;erw[v,k _ _ e,o.mono k]
theorem EX(n:Nat):inV (.bl true) ((List.replicate n false).map V.bl)=false:=by
 unfold inV
 induction n with
 | zero=>rfl
 | succ n ih=>rw[List.replicate_succ,zZ0,List.any_cons,ih];rfl
theorem wT:FnScope ["_law_found","_law_due_here"] ["_law_found","_law_due_here"] (ai nV):=%[1,1,1,4,1,4|4]
theorem xz   (F:Fun K "_law_right" "_law_right" nV f fd) (B:Bl mg):FnOk P w K mg base CX0 1 f fd ["_law_found","_law_due_here"] spRt54:=by
 exists wT
 erw[a,b,x,1,W1,W2,c100,q]at h;refine⟨_,(aa (aG (PW.pt (fK (gI (dN (aE dQ rfl B.isinstance PyProof.Rows.boot_isinstance %[0,jv (v:=V.ty "tuple") rfl B.tuple bd rfl|aO]))) (fK (ah mr (aE aD rfl B.len PySem.boot_len %[0|aO]) ae (ax _)) (eN (ah (Cl hr.units) (pv 0) (pv 1) (ax _)))))) (ad (aq jD)) az)
  (aa (aG (PW.pt (fK (gI (dN (aE dQ rfl B.isinstance PyProof.Rows.boot_isinstance %[aJ ix_tup (pv 0) ae (λ_ _=>rfl),jv (v:=V.ty "int") rfl B.int gZ rfl|aO]))) (eN (dN (aE dQ rfl B.isinstance PyProof.Rows.boot_isinstance %[aJ ix_tup (pv 0) ae (λ_ _=>rfl),jv (v:=V.ty "bool") rfl B.bool lJ rfl|aO]))))) (ad (aq jD)) az)
  (ad (aq (FO (eU ug (aJ ix_tup (pv 0) ae (λ_ _=>rfl)) ju (ax _)) (oo (qR (aE dQ rfl B.isinstance PyProof.Rows.boot_isinstance %[aJ ix_tup (pv 0) ae (λ_ _=>rfl),jv (v:=V.ty "tuple") rfl B.tuple bd rfl|aO]) (oo (eU mq jD (cz (N:=[]) (ix:=[]) (cl:=[]) rfl
   (CompScope.closed (by rfl') ⋯ rfl ⋯ rfl (by rfl')) rfl
   (ii (aJ ix_tup (pv 0) ae (λ_ _=>rfl))) (λ_ _ _=>cG (aE (uO K) rfl B.isinstance PyProof.Rows.boot_isinstance %[0,jv (v:=V.ty "bool") rfl B.bool lJ rfl|aO]))) (by rfl')))))))))),?_⟩
 have r1:=W1.rep (K:=K);have r2:=W2.rep (K:=K);let%[v,h1|o1]:=id W1;erw[0,_,_,"tuple",true,1,TyOf.tup h1,mJ _ _,0,cW ?_];erw[0,a,0,.inr (zC0 h1),1,0,cW ?_];erw[0,0,_,_,r1,r2,iG _,iG _,0,6];rw[AT];refine cW ?_;erw[0,a,_,(0),.int x.1,1,1,zC0 h1,1,_,_,"int",true,1,TyOf.int _,mJ _ _,0,cW ?_];erw[0,a,_,(0),.int x.1,1,1,zC0 h1,1,_,_,"bool",false,1,TyOf.int _,jy _,0,cW ?_];erw[x1,x2]at x;cases x2 with
 | none=>
   have:v=.non:=o1
   subst this;erw[0,a,_,(1),.non,1,1,zC0 h1,1,1,0,ei ?_];exact q H (Same.refl _)
 | some c=>
   let%[d,1|hd]:=id o1;have c1:=c100 c rfl;erw[0,a,_,(1),.ref d,1,1,zC0 h1,1,1,0,cW ?_];erw[0,a,_,(1),.ref d,1,1,zC0 h1,1,_,_,"tuple",true,1,TyOf.tup hd,mJ _ _,0,ei ?_];erw[0,a,_,(1),.ref d,1,1,zC0 h1,1,d,1,%[_|zC0 hd],λD hD=>?_];refine gy (K:=K) (xs:=c.map V.int) (λi H'=>H' D=some (.lst ((List.replicate i false).map V.bl))/\Same H H') %[by rw[aI];rfl|zB0 hD _] (λi H' _ h=>zC0 (h.2 _ _ hd)) ?_ ?_
   . rintro i z H2 hz ⟨hD2,S2⟩;have hi:=(zW0 hz).1;rw[zY0]at hz;let%[n,_|1]:=qV0 hz;have hi2:i<c.length:=by rw[zE0]at hi;exact hi
     erw[0,_,_,"bool",false,1,TyOf.int _,jy _,_,hD2,6,Nx.of hi %[6|λb' o' e'=>?_]]
     . rw[zE0,List.length_replicate];exact aM #[0]
     . rw[aI,List.replicate_succ',zK0];rfl
     . rw[bh (aV e' hD)];exact S2 _ _ e'
   . rintro H2 ⟨hD2,S2⟩;erw[D,0,.inl (zG0 hD2),1,by rw[List.all_map];exact List.all_eq_true.mpr λ_ _=>rfl,6];show Q (.bl (!inV (.bl true) ((List.replicate (c.map V.int).length false).map V.bl))) H2;rw[EX];exact q H2 S2
theorem pr_13:Pr 13:=jr ⋯
inductive spWide54(vs:List V)(H:Hp)(Q:VK)(u_3:XK):Prop
 |mk:∀(f h:Addr)(rv:List V)(rows:List Hr),vs=[.ref f,.ref h]->FeedAt H f->H h=some (.tup rv)->RowsAt H rv rows->ld rows->(∀H',Q (.bl true) H')->spWide54 vs H Q u_3
theorem pU(k:GmK ns ts p)(n6:ns.length<=6):∀c,(dZ ns ts p rows (bu ns ts) 8 (Tk.new ts) []).2=some c->c.length<=100:=λc hc=>by
 rw[nq k n6]at hc;have cn:=iP (ts:=ts) n6;unfold ee at hc;let%[d,hd|e]:=qV0 hc
 have:=(im _ _ (List.mem_filter.mp (List.mem_of_mem_head? hd)).1).1
 have e2:[]++d=c:=e;rw[←e2,List.nil_append];omega
theorem rN:FnScope ["_law_feed_here","_law_helper_here","_law_names_here","_law_game"] ["_law_feed_here","_law_helper_here"] (ai qt):=%[1,1,1,4,1,4|4]
theorem zV   (F:Fun K "_law_wide" "_law_wide" qt f fd) (B:Bl mg) (TG:GTxt K mg CG) (MG:Mk K CG fI) (GI:FnOk P w K mg base CX0 14 fI fdI ["self","switches","trees","field"] (spGInit CG)) (bI:Binds K fdI ["self","switches","trees","field"] [])
 (aW:Cal P w K mg base 1 "_law_take" ["_law_feed_here","_law_many"] spTake) (eX:Cal P w K mg base 2 "_law_names" ["_law_feed_here","_law_many"] spNamesN) (e9:Cal P w K mg base 12 "_law_tree" ["_law_feed_here","_law_names_here","_law_room","_law_deep"] (spTree 10)) (B7:Cal P w K mg base 22 "honest" [] spHonest)
 (eZ:Cal P w K mg base 1 "_law_right" ["_law_found","_law_due_here"] spRt54) (gR:Cal P w K mg base 28 "_law_due" ["_law_game","_law_helper_here"] (spDue54 C CM CG)) (dL:Cal P w K mg base 36 "weighed" ["game","helper"] (spWeighed C CM CG)):FnOk P w K mg base CX0 37 f fd ["_law_feed_here","_law_helper_here"] spWide54:=by
 exists rN
 erw[f,h,rv,rows,1,hF,hh,RW,gd,q]at h;have hr15:Room (14+1) _:=hr.mono ⋯;have s2:2<=sizeLine:=by decide
 refine⟨_,(aa #[aj,2,rN,ag eX hr ⋯ rfl %[0,ae|aO]]
  (aa #[aj,3,rN,eT MG GI hr15 rfl TG.mgC bI .nil aY %[bi ba rfl B.tuple bd %[2|aO],aF %[ag e9 hr ⋯ rfl %[0,2,ao aQ ae (ag aW hr ⋯ rfl %[0,ae|aO]),ae|aO]|aO],ae|aO]]
  (aa (aG (ah (Cl hr.units) (ag dL hr ⋯ rfl %[3,EI B7 hr ⋯ rfl|aO]) (aF %[ae,ju|aO]) (ax _)) (ad (aq jD)) az)
  (ad (aq (ag eZ hr ⋯ rfl %[ag dL hr ⋯ rfl %[3,1|aO],ag gR hr ⋯ rfl %[3,1|aO]|aO])))))),?_⟩
 erw[0,f,(2),1,hF,4,4,λnl ns H2 nl0 nlf hnl nsl nok nnd F2 S2=>?_];have n2:ns.length=2:=by omega
 erw[0,nl,0,.inl %[zG0 hnl|λa ha=>?_]];have I3:=zB0 ha (.tup (ns.map V.str));have e3:upd H2 a (.tup (ns.map V.str)) a=_:=aI;generalize upd H2 a (.tup (ns.map V.str))=H3 at I3 e3;erw[0,0,0,f,(7),1,F2.same I3,4,4,λe H5 e0 e1 F5 S5=>?_];have hnl5:=S5 nl _ nlf (I3 _ _ hnl);have e8:e<7:=e1;erw[2,f,nl,_,_,ns,1,F5,.inl hnl5,3,3,3,4,4,λv t H6 F6 S6 T6 ok6 sz6 dp6=>?_];have d9:(t.depth:Int)<=6:=dp6;have s9:(t.size:Int)<=1+e:=sz6;erw[(by show 1<=sizeLine;decide),λb hb=>?_];have I7:=zB0 hb (.tup [v]);have e7:upd H6 b (.tup [v]) b=_:=aI;generalize upd H6 b (.tup [v])=H7 at I7 e7;have B37:SameBut f H3 H7:=S5.trans (S6.trans (zI0 I7));have a7:H7 a=some (.tup (ns.map V.str)):=B37 _ _ (yQ (F2.same I3) e3 (by intro ys z;cases z)) e3;have TS7:TreesAt H7 [v] [t]:=.cons (T6.mono (aX I7)) .nil;have B07:SameBut f H H7:=S2.trans ((zI0 I3).trans B37);have hh7:=B07 _ _ (yQ hF hh (by intro ys z;cases z)) hh;have RW7:=RW.mono (aZ hF B07);have cl:∀x:Str,t.names.count x<=t.names.length:=λx=>List.count_le_length
 have nlen:=t.names_len;have k:GmK ns [t] 13:=⟨pr_13,by decide,by decide,by omega,by show 1<=1;decide,by show 1<=10;decide,λu hu=>by
  rw[zN0 hu];erw[ok6,Tr.ok_wf nok t ok6,3,3],by show(1:Int)<=13;decide,λu hu x hx=>by
  rw[zN0 hu]
  have:=cl x
  omega⟩
 refine λg dg hg0 hdg0 ng=>?_
 have K3:Same H7 (upd (upd H7 dg (.own g)) g (.ins CG dg [])):=λa o e=>by
  rw[bh (aV e hg0),bh (aV e hdg0)];exact e
 erw[g,dg,a,b,ns,[v],[t],(13),1,aI,K3 _ _ a7,nnd,3,K3 _ _ e7,TS7.mono (aX K3),by show 1<=1;decide,by show 1<=10;decide,k.tok,k.pr,k.p2,k.p9,k.tp,k.tc,λgd' H8 gd0 GA hgd S8=>%[1|6]];have T8:Same H7 H8:=Same.but K3 hg0 S8;have G:Gm CG H8 g ns [t] 13:=⟨a,b,gd',[v],GA,T8 _ _ a7,T8 _ _ e7,TS7.mono (aX T8),hgd⟩
 have cn:bu ns [t]=2:=(zD0 rfl).trans n2;have d60:∀y∈ns,bz [t] y<=60:=λy _=>by
  have:=kj (x:=y) (p:=60) (ts:=[t]) (by simp) λu hu=>by
   rw[zN0 hu]
   have:=cl y
   omega
  omega
 erw[0,1,λho rvo H9 hho RWo S9=>?_];erw[g,ho,rvo,vT,ns,[t],(13),1,G.same S9,k,3,hho,RWo,Fo,by rw[cn];decide,λo H10 S10 W10=>?_];have W10:WtAt H10 o (dZ ns [t] 13 (hB "i") (bu ns [t]) 8 (Tk.new [t]) []):=W10;rw[uF k #[0] nnd (hon_B (x:="i") k #[0] nnd d60),cn]at W10;erw[s2,λu hu=>?_];have I11:=zB0 hu (.tup [.int 169,.non]);have e11:upd H10 u (.tup [.int 169,.non]) u=_:=aI;generalize upd H10 u (.tup [.int 169,.non])=H11 at I11 e11;erw[wtD (169,none),wtD (169,none),(W10.mono (aX I11)).rep,.tup (zC0 e11) (.cons (.int _) (.cons .non .nil)),iG _,iG _,0,6];rw[AT];refine cW ?_;have J11:=T8.trans (S9.trans (S10.trans I11));have G11:=G.same (S9.trans (S10.trans I11));have hh11:=J11 _ _ hh7;have RW11:=RW7.mono (aX J11);erw[0,0,g,h,rv,rows,ns,[t],(13),1,G11,k,3,hh11,RW11,gd,by rw[cn];decide,λo1 H12 S12 W12=>?_];erw[0,0,g,h,rv,rows,ns,[t],(13),1,G11.same S12,k,3,S12 _ _ hh11,RW11.mono (aX S12),gd,by rw[cn];decide,λo2 H13 S13 W13=>?_];erw[o1,o2,0,W12.mono (aX S13),W13,pU k #[0],λH14 _=>q H14]
end
section
structure PEW(X:Cx)(e:Expr)(t:TE):Prop where
 out:PE X e t
structure PTW(X:Cx)(s:Stmt)(t:TS):Prop where
 out:PS X s t
section
variable {X:Cx} {e:Expr} {es:List Expr} {te:TE} {t:TA} {pos:Pos}
theorem wx(h:PEW X e te):PTW X (.Return (some e) pos) (tRet te):=%[|aq h.out]
theorem lm{i:Nat}{x:Str}{pos':Pos}(hN:X.N.Nodup)(hi:X.N[i]?=some x)(hx:Loc X.env.scope x)(he:PEW X e te)(hs:swapsWith e (some (.Name x pos')) pos.line X.env=pure false:=by rfl)(hf:X.fn x=true∨X.env.scope.names.lookup x=some .local:=by first | exact .inl rfl | exact .inr rfl | assumption) :
 PTW X (.Assign [.Name x pos'] e pos) (El te (yW i)):=%[|aj hN hi hx he.out hs hf]
theorem AU:PSW X [] FD:=%[|az]
theorem eG(h:PTW X s a)(k:PSW X ss b):PSW X (s::ss) (Gj a b):=%[|aa h.out k.out]
theorem wy(h:PTW X s a):PSW X [s] a:=%[|ad h.out]
theorem AV{t':TS}(h:PSW X ss t0)(hw:∀D σ H,t' D σ H->t0 D σ H):PSW X ss t':=%[|iA h.out hw]
theorem FB(hc:PT X c tc)(ha:PSW X a t0)(hb:PSW X b u):PTW X (.If c a b pos) (Go tc t0 u):=%[|aG hc ha.out hb.out]
end
end
section
variable {C CM CG:Addr}
structure G4At(CG:Addr)(H:Hp)(g:Addr)(ns:List Str)(ts:List Tr)(p:Int):Prop where
 G:Gm CG H g ns ts p
 k:GmK ns ts p
 n6:ns.length<=6
 pw:p ^ bu ns ts<=60
structure H4At(H:Hp)(h:Addr)(rv:List V)(rows:List Hr):Prop where
 hh:H h=some (.tup rv)
 R:RowsAt H rv rows
 g:ld rows
theorem G4At.same(x:G4At CG H g ns ts p)(s:Same H H'):G4At CG H' g ns ts p:=%[x.G.same s,x.k,x.n6|x.pw]
theorem H4At.same(x:H4At H h rv rows)(s:Same H H'):H4At H' h rv rows:=%[s _ _ x.hh,x.R.mono (aX s)|x.g]
inductive tA54(CG:Addr)(K:W.Frag)(Dn:Ends)(σ:St)(H:Hp):Prop
 |mk:∀(a0 g h1 h2:Addr)(ns0:List Int)(ns:List Str)(ts:List Tr)(p:Int)(v1 v2:List V)(r1 r2:List Hr)(x1 x2 x3 x5:Option V),σ=[some (.ref a0),x1,x2,x3,some (.ref g),x5,some (.ref h1),some (.ref h2),none,none,none]->SqL K H a0 (ns0.map V.int)->ns0.length<=63->G4At CG H g ns ts p->H4At H h1 v1 r1->H4At H h2 v2 r2->(∀H',Dn.rt (.bl true) H')->tA54 CG K Dn σ H
inductive tB54(CG:Addr)(K:W.Frag)(Dn:Ends)(σ:St)(H:Hp):Prop
 |mk:∀(a0 g h1 d:Addr)(ns0:List Int)(ns:List Str)(ts:List Tr)(p:Int)(v1:List V)(r1:List Hr)(x1 x2 x3 x5 x7 x8:Option V),σ=[some (.ref a0),x1,x2,x3,some (.ref g),x5,some (.ref h1),x7,x8,some (.ref d),none]->SqL K H a0 (ns0.map V.int)->ns0.length<=63->G4At CG H g ns ts p->H4At H h1 v1 r1->WtAt H d (dZ ns ts p r1 (bu ns ts) 8 (Tk.new ts) [])->(∀H',Dn.rt (.bl true) H')->tB54 CG K Dn σ H
theorem e6:FnScope ["_law_script","_law_switches","_law_trees","_law_field_here","_law_game","_law_boxes","_law_one","_law_other","_law_feed_here","_law_due_here","_law_near"] ["_law_script"] (ai lW):=%[1,1,1,4,1,4|4]
theorem GX   (F:Fun K "law" "law" lW f fd) (TG:GTxt K mg CG) (MG:Mk K CG fI) (GI:FnOk P w K mg base CX0 14 fI fdI ["self","switches","trees","field"] (spGInit CG)) (bI:Binds K fdI ["self","switches","trees","field"] [])
 (fJ:Cal P w K mg base 1 "_law_feed" ["_law_script","_law_k"] (spFeed K)) (aW:Cal P w K mg base 1 "_law_take" ["_law_feed_here","_law_many"] spTake) (eX:Cal P w K mg base 2 "_law_names" ["_law_feed_here","_law_many"] spNamesN) (j9:Cal P w K mg base 14 "_law_small" ["_law_feed_here","_law_most"] spSmall) (f9:Cal P w K mg base 9 "_law_any_helper" ["_law_feed_here","_law_boxes"] spAny54) (B9:Cal P w K mg base 37 "_law_wide" ["_law_feed_here","_law_helper_here"] spWide54)
 (eZ:Cal P w K mg base 1 "_law_right" ["_law_found","_law_due_here"] spRt54) (gR:Cal P w K mg base 28 "_law_due" ["_law_game","_law_helper_here"] (spDue54 C CM CG)) (dL:Cal P w K mg base 36 "weighed" ["game","helper"] (spWeighed C CM CG)):FnOk P w K mg base CX0 38 f fd ["_law_script"] (spLaw K):=by
 exists e6
 erw[a0,ns0,1,hS,h63,q]at h;have hr15:Room (14+1) _:=hr.mono ⋯;refine⟨_,PSW.out (eG %[|kc (ag j9 hr ⋯ rfl %[ag fJ hr ⋯ rfl %[0,ae|aO],ae|aO]) (oj rfl (cK (bb (i:=1) e6.nd rfl (.inl rfl)) (cK (bb (i:=2) e6.nd rfl (.inl rfl)) (cK (bb (i:=3) e6.nd rfl (.inl rfl)) kF))))]
  (eG #[lm,4,e6,%[|eT MG GI hr15 rfl TG.mgC bI .nil aY %[1,2,3|aO]]]
  (eG #[lm,5,e6,%[|ag eX hr ⋯ rfl %[ag fJ hr ⋯ rfl %[0,ae|aO],ae|aO]]]
  (eG #[lm,6,e6,%[|ag f9 hr ⋯ rfl %[ag fJ hr ⋯ rfl %[0,ae|aO],5|aO]]]
  (eG #[lm,7,e6,%[|ag f9 hr ⋯ rfl %[ag fJ hr ⋯ rfl %[0,ae|aO],5|aO]]]
  (AV (t':=tA54 CG K) (eG #[lm,8,e6,%[|ag fJ hr ⋯ rfl %[0,ae|aO]]]
  (eG (FB (ah aP (ag aW hr ⋯ rfl %[8,ae|aO]) ae (ax _)) (wy (wx ⟨ag B9 hr ⋯ rfl %[8,6|aO]⟩)) AU)
  (eG #[lm,9,e6,%[|ag gR hr ⋯ rfl %[4,6|aO]]]
  (eG (FB (PW.pt (fK (gI (dN (ag eZ hr ⋯ rfl %[ag dL hr ⋯ rfl %[4,6|aO],9|aO]))) (eN (gI (dN (ag eZ hr ⋯ rfl %[ag dL hr ⋯ rfl %[4,7|aO],ag gR hr ⋯ rfl %[4,7|aO]|aO])))))) (wy (wx ⟨jD⟩)) AU)
  (AV (t':=tB54 CG K) (eG %[|kc (ag j9 hr ⋯ rfl %[ag fJ hr ⋯ rfl %[0,ae|aO],ae|aO]) (oj rfl (cK (bb (i:=1) e6.nd rfl (.inl rfl)) (cK (bb (i:=2) e6.nd rfl (.inl rfl)) (cK (bb (i:=3) e6.nd rfl (.inl rfl)) kF))))]
  (eG #[lm,10,e6,%[|eT MG GI hr15 rfl TG.mgC bI .nil aY %[1,2,3|aO]]]
  (wy (wx %[|qR (ag eZ hr ⋯ rfl %[ag dL hr ⋯ rfl %[10,6|aO],ag gR hr ⋯ rfl %[10,6|aO]|aO]) (oo (ag eZ hr ⋯ rfl %[ag dL hr ⋯ rfl %[4,6|aO],9|aO]))])))) ?cB))))) ?cA)))))),?_⟩
 case cB=>
  rintro Dn σ H ⟨a0,g,h1,d,ns0,ns,ts,p,v1,r1,x1,x2,x3,x5,x7,x8,rfl,hS,h63,Y,Z,W,q⟩;erw[0,a0,ns0,(5),1,hS,h63,4,4,λf5 H1 f50 S1 F1=>?_];erw[f5,(20),1,F1,4,4,λt a b ns' tv ts' p' H2 ht ha hb TS SG pw S2=>?_];erw[t,0,zC0 ht,1,_,0,_,0,2,6];have T2:Same H H2:=Same.but S1 f50 S2;have k':=SG.k;have n3:=SG.nl;erw[0,0,0,λg' dg hg0 hdg0 ng=>?_];have K3:Same H2 (upd (upd H2 dg (.own g')) g' (.ins CG dg [])):=λa o e=>by
   rw[bh (aV e hg0),bh (aV e hdg0)];exact e
  erw[g',dg,a,b,ns',tv,ts',p',1,aI,K3 _ _ ha,SG.nd,3,K3 _ _ hb,TS.mono (aX K3),k'.t1,k'.t10,k'.tok,k'.pr,k'.p2,k'.p9,k'.tp,k'.tc,λgd' H3 gd0 GA hgd S3=>%[1|6]];have T3:Same H2 H3:=Same.but K3 hg0 S3;have G':Gm CG H3 g' ns' ts' p':=⟨a,b,gd',tv,GA,T3 _ _ ha,T3 _ _ hb,TS.mono (aX T3),hgd⟩
  have Z3:=Z.same (T2.trans T3);erw[0,0,g',h1,v1,r1,ns',ts',p',1,G',k',3,Z3.hh,Z3.R,Z.g,3,λo1 H4 S4 W4=>?_];have Z4:=Z3.same S4;erw[0,0,g',h1,v1,r1,ns',ts',p',1,G'.same S4,k',3,Z4.hh,Z4.R,Z.g,3,λo2 H5 S5 W5=>?_];erw[o1,o2,0,W4.mono (aX S5),W5,pU k' #[0],λH6 S6=>%[0|ei ?_]];have T6:=T2.trans (T3.trans (S4.trans (S5.trans S6)));have Y6:=Y.same T6;have Z6:=Z.same T6;have pw':=Y.pw;erw[0,0,g,h1,v1,r1,ns,ts,p,1,Y6.G,Y.k,Y.n6,Z6.hh,Z6.R,Z.g,3,λo3 H7 S7 W7=>?_];erw[0,o3,d,0,W7,W.mono (aX (T6.trans S7)),pU Y.k Y.n6,λH8 _=>q H8]
 case cA=>
  rintro Dn σ H ⟨a0,g,h1,h2,ns0,ns,ts,p,v1,v2,r1,r2,x1,x2,x3,x5,rfl,hS,h63,Y,Z1,Z2,q⟩;have pw:=Y.pw;erw[0,a0,ns0,(6),1,hS,h63,4,4,λf6 H1 f60 S1 F1=>?_];erw[0,f6,(8),1,F1,4,4,λd0 H2 _ _ F2 S2=>%[1,0|6]];have T2:Same H H2:=Same.but S1 f60 S2;have Y2:=Y.same T2;have Z12:=Z1.same T2;refine rf (λ_=>?_) (λ_=>?_)
  . erw[0,0,f6,h1,v1,r1,1,F2,Z12.hh,Z12.R,Z1.g,q]
  erw[0,0,g,h1,v1,r1,ns,ts,p,1,Y2.G,Y.k,Y.n6,Z12.hh,Z12.R,Z1.g,3,λd H3 S3 W3=>?_];have Y3:=Y2.same S3;have Z13:=Z12.same S3;erw[0,0,g,h1,v1,r1,ns,ts,p,1,Y3.G,Y.k,Y.n6,Z13.hh,Z13.R,Z1.g,3,λo1 H4 S4 W4=>?_];erw[0,o1,d,0,W4,W3.mono (aX S4),pU Y.k Y.n6,λH5 S5=>%[0|cW ?_]];have T5:=T2.trans (S3.trans (S4.trans S5));have Y5:=Y.same T5;have Z25:=Z2.same T5;erw[0,0,g,h2,v2,r2,ns,ts,p,1,Y5.G,Y.k,Y.n6,Z25.hh,Z25.R,Z2.g,3,λo2 H6 S6 W6=>?_];have Y6:=Y5.same S6;have Z26:=Z25.same S6;erw[0,0,g,h2,v2,r2,ns,ts,p,1,Y6.G,Y.k,Y.n6,Z26.hh,Z26.R,Z2.g,3,λo3 H7 S7 W7=>?_];erw[o2,o3,0,W6.mono (aX S7),W7,pU Y.k Y.n6,λH8 S8=>%[0|cW ?_]];have T8:=T5.trans (S6.trans (S7.trans S8));erw[a0,g,h1,d,ns0,ns,ts,p,v1,r1,_,_,_,_,_,0,T8.seq hS,h63,Y.same T8,Z1.same T8,W3.mono (aX (S4.trans (S5.trans (S6.trans (S7.trans S8))))),q]
 erw[0,a0,ns0,(1),1,hS,h63,4,4,λf1 H1 f10 S1 F1=>?_];erw[f1,(60),1,F1,4,4,λt a b ns tv ts p H2 ht ha hb TS SG pw S2=>?_];erw[t,0,zC0 ht,1,_,0,_,0,2,6];have T2:Same H H2:=Same.but S1 f10 S2;have k:=SG.k;have n3:=SG.nl;erw[0,0,0,λg dg hg0 hdg0 ng=>?_];have K3:Same H2 (upd (upd H2 dg (.own g)) g (.ins CG dg [])):=λa o e=>by
  rw[bh (aV e hg0),bh (aV e hdg0)];exact e
 erw[g,dg,a,b,ns,tv,ts,p,1,aI,K3 _ _ ha,SG.nd,3,K3 _ _ hb,TS.mono (aX K3),k.t1,k.t10,k.tok,k.pr,k.p2,k.p9,k.tp,k.tc,λgd' H3 gd0 GA hgd S3=>%[1|6]];have T3:Same H2 H3:=Same.but K3 hg0 S3;have G:Gm CG H3 g ns ts p:=⟨a,b,gd',tv,GA,T3 _ _ ha,T3 _ _ hb,TS.mono (aX T3),hgd⟩
 have U3:=T2.trans T3;erw[0,a0,ns0,(2),1,U3.seq hS,h63,4,4,λf2 H4 f20 S4 F4=>?_];erw[f2,(3),1,F4,4,4,λN xs H5 N0 nf2 hN xlen xok xnd F5 S5=>?_];have T35:Same H3 H5:=Same.but S4 f20 S5;have U5:=U3.trans T35;have xl:xs.length=3:=xlen;erw[0,a0,ns0,(3),1,U5.seq hS,h63,4,4,λf3 H6 f30 S6 F6=>?_];erw[0,f3,N,xs,1,F6,S6 _ _ hN,aV hN f30,xl,λh1 v1 r1 H7 hh1 R1 g1 S7=>?_];have T57:Same H5 H7:=Same.but S6 f30 S7;have Z1:H4At H7 h1 v1 r1:=%[hh1,R1|g1]
 have U7:=U5.trans T57;have hN7:=T57 _ _ hN;erw[0,a0,ns0,(4),1,U7.seq hS,h63,4,4,λf4 H8 f40 S8 F8=>?_];erw[0,f4,N,xs,1,F8,S8 _ _ hN7,aV hN7 f40,xl,λh2 v2 r2 H9 hh2 R2 g2 S9=>?_];have T79:Same H7 H9:=Same.but S8 f40 S9;erw[a0,g,h1,h2,ns0,ns,ts,p,v1,v2,r1,r2,_,_,_,0,(U7.trans T79).seq hS,h63,%[G.same (T35.trans (T57.trans T79)),k,3|pw],Z1.same T79,%[hh2,R2|g2],q]
end
theorem kept_vals {a b c d e f g h i j k l:Tok}:Vals (kept.map V.str) [.str "yes" a,.str "no" b,.str "not" c,.str "and" d,.str "or" e,.str "odd" f,.str "same" g,.str "round" h,.str "due" i,.str "asked" j,.str "true" k,.str "coin" l]:=
 .cons %[|0] (.cons ⟨_,rfl⟩ (.cons ⟨_,rfl⟩ (.cons ⟨_,rfl⟩ (.cons ⟨_,rfl⟩ (.cons ⟨_,rfl⟩ (.cons ⟨_,rfl⟩ (.cons ⟨_,rfl⟩ (.cons ⟨_,rfl⟩ (.cons ⟨_,rfl⟩ (.cons ⟨_,rfl⟩ (.cons ⟨_,rfl⟩ .nil)))))))))))
theorem sign_vals {a b c d e f:Tok}:Vals (signW.map V.str) [.str "+" a,.str "-" b,.str "*" c,.str "/" d,.str "=" e,.str "<" f]:=
 .cons %[|0] (.cons ⟨_,rfl⟩ (.cons ⟨_,rfl⟩ (.cons ⟨_,rfl⟩ (.cons ⟨_,rfl⟩ (.cons ⟨_,rfl⟩ .nil)))))
theorem ask_vals {a b:Tok}:Vals (askW.map V.str) [.str "coin" a,.str "true" b]:=.cons %[|0] (.cons ⟨_,rfl⟩ .nil)
theorem plain_vals {a b c:Tok}:Vals (plainW.map V.str) [.str "round" a,.str "due" b,.str "asked" c]:=.cons %[|0] (.cons ⟨_,rfl⟩ (.cons ⟨_,rfl⟩ .nil))
end
abbrev FH(K:W.Frag)(x:Str)(s:Stmt):Prop:=∃f,W.nsIn K mainGlobals x=some (some (.ref f))/\∃fd,Fun K x x s f fd
abbrev MH(K:W.Frag)(C:Addr)(x y:Str)(s:Stmt):Prop:=∃g,W.findIn K (.ref C) x=some (some (.ref g))/\W.isFn K (.ref g)=true/\∃fd,Fun K x y s g fd
abbrev CH (K:W.Frag) (x:Str) (C:Addr):Prop:=W.nsIn K mainGlobals x=some (some (.ref C))/\W.plainGet K C Str.empty=true/\W.hasDictIn K C=true/\W.plainOver K C=true/\W.findIn K (.ref C) "__setattr__"=some (some (.builtin "object.__setattr__"))/\W.makesIn K C=true/\W.keepIn K (.ref C)=true
abbrev HF(K:W.Frag)(C:Addr)(x:Str):Prop:=W.findIn K (.ref C) x=some none
abbrev HZ(K:W.Frag)(x:Str):Prop:=W.nsIn K mainGlobals x=some none
theorem aU{K:W.Frag}{h:Heap}{mg:Str->Option Value}(X:K.In h)(G:h.Ns mainGlobals mg)(z:FH K x s):∃f fd,Fun K x x s f fd/\mg x=some (.ref f):=by
 erw[f,a,fd,F]at z;erw[f,fd,F,W.mg_of X G a]
theorem cE{K:W.Frag}(z:MH K C x y s):∃f fd,Fun K x y s f fd/\Meth K C x f:=by
 erw[f,a,i,fd,F]at z;erw[f,fd,F,a,i,F.kp]
theorem all_mk {l:PySem.W.OpenLaw} {w:World} {K:W.Frag} {h:Heap} {mg:Str->Option Value} {fa fl CG C CA CM CS:Addr} (X:K.In h) (G:h.Ns mainGlobals mg) (hfa:mg "law"=some (.ref fa))
 {od an:Option Addr} {sl:Array (Option Value)} {oc kV dc pm cd ct:Value}
 {t1 t3 t4 t5 t6 u1 u2 u3 uh:Tok} {ka ja qa pa:Addr} {kd jd qd pd:Option Addr} {kits jits qits pits:Array Value} {kn jn qn pn:Nat} {ksl jsl qsl psl:Array (Option Value)}
 {te tm tr:Tok}
 (aL:W.nsIn K mainGlobals "law"=some (some (.ref fl))) (lL:K.lookup fl=some %[oc,od,.func (W.fnOf "law" "law" (jA lW) (gh lW) (ai lW) .none kV dc pm an cd ct)|sl]) (cL:W.codeIn K cd "law"=true) (kL:W.keepIn K (.ref fl)=true)
 (h0:FH K "is_field" lD)
 (h1:FH K "inverse_of" jk)
 (h2:FH K "is_number" jT)
 (h3:FH K "value_at" lu)
 (h4:FH K "both_ends" jX)
 (h5:FH K "value_behind" hU)
 (h6:FH K "products" ly)
 (h7:FH K "inverse_factorials" dM)
 (h8:FH K "all_settings" ic)
 (h9:FH K "holds_at" jm)
 (h10:FH K "joined" qx)
 (h11:FH K "count_of" lE)
 (h12:FH K "trees_within" hV)
 (h13:FH K "size_of" kA)
 (h14:FH K "names_in" je)
 (h15:FH K "all_sizes" jZ)
 (h16:FH K "counts_of" jW)
 (h17:FH K "true_row" lx)
 (h18:FH K "value_of" jb)
 (h19:FH K "op_value" lA)
 (h20:FH K "divided" oa)
 (h21:FH K "power" tL)
 (h22:FH K "rows_of_coins" gG)
 (h23:FH K "asked_once" jp)
 (h24:FH K "talked" qp)
 (h25:FH K "weighed" nK)
 (h26:FH K "weighed_behind" dU)
 (h27:FH K "first_row" jU)
 (h28:FH K "worth_of" iZ)
 (h29:FH K "joined_worth" ib)
 (h30:FH K "degree_of" jV)
 (h31:FH K "look_switches" gH)
 (h32:FH K "look_names" jf)
 (h33:FH K "look_field" jg)
 (h34:FH K "look_size" jQ)
 (h35:FH K "is_name" nZ)
 (h36:FH K "is_figures" jj)
 (h37:FH K "read_helper" iE)
 (h38:FH K "helper_row" jo)
 (h39:FH K "next_name" jP)
 (h40:FH K "next_figures" hZ)
 (h41:FH K "next_term" iy)
 (h42:FH K "term_in_bracket" dG)
 (h43:FH K "honest" qy)
 (h44:FH K "_law_feed" qw)
 (h45:FH K "_law_take" qu)
 (h46:FH K "_law_names" bY)
 (h47:FH K "_law_tree" lX)
 (h48:FH K "_law_names_of" gP)
 (h49:FH K "_law_degrees" jS)
 (h50:FH K "_law_is_prime" jh)
 (h51:FH K "_law_field" nY)
 (h52:FH K "_law_rows_in" jR)
 (h53:FH K "_law_without" iz)
 (h54:FH K "_law_small" nU)
 (h55:FH K "_law_term" lY)
 (h56:FH K "_law_helper" lC)
 (h57:FH K "_law_liar" qv)
 (h58:FH K "_law_onward" lB)
 (h59:FH K "_law_any_helper" ia)
 (h60:FH K "_law_all_rows" ji)
 (h61:FH K "_law_due" tO)
 (h62:FH K "_law_right" nV)
 (h63:FH K "_law_wide" qt)
 (gmc:CH K "Game" CG)
 (dbc:CH K "Doubter" C)
 (asc:CH K "Asking" CA)
 (mcc:CH K "Machine" CM)
 (scc:CH K "Scan" CS)
 (Kx:MH K CG "__init__" "Game.__init__" tP)
 (gmmM:MH K CG "mix" "Game.mix" xa)
 (gmmW:MH K CG "worth_at" "Game.worth_at" qz)
 (gmmC:MH K CG "coins" "Game.coins" qA)
 (dbmI:MH K C "__init__" "Doubter.__init__" tT)
 (dbmW:MH K C "waits" "Doubter.waits" qB)
 (dbmU:MH K C "due" "Doubter.due" xf)
 (dbmH:MH K C "hear" "Doubter.hear" tU)
 (dbmT:MH K C "toss" "Doubter.toss" tS)
 (dbmC:MH K C "hear_claims" "Doubter.hear_claims" oe)
 (dbmB:MH K C "begin_rounds" "Doubter.begin_rounds" qD)
 (dbmR:MH K C "hear_row" "Doubter.hear_row" xc)
 (dbmG:MH K C "go_on" "Doubter.go_on" BL)
 (dbmE:MH K C "look_at_trees" "Doubter.look_at_trees" qC)
 (dbmN:MH K C "twin" "Doubter.twin" tR)
 (asmI:MH K CA "__init__" "Asking.__init__" tW)
 (asmP:MH K CA "plain_value" "Asking.plain_value" qE)
 (asmC:MH K CA "coin_at" "Asking.coin_at" tX)
 (asmN:MH K CA "true_numbers" "Asking.true_numbers" og)
 (asmR:MH K CA "true_at" "Asking.true_at" tV)
 (mcmI:MH K CM "__init__" "Machine.__init__" tN)
 (mcmS:MH K CM "say" "Machine.say" wY)
 (mcmR:MH K CM "do_row" "Machine.do_row" wZ)
 (mcmN:MH K CM "twin" "Machine.twin" tM)
 (scmI:MH K CS "__init__" "Scan.__init__" tK)
 (scmE:MH K CS "enter" "Scan.enter" qr)
 (scmS:MH K CS "sees" "Scan.sees" tJ)
 (scmT:MH K CS "take" "Scan.take" tI)
 (scmW:MH K CS "word" "Scan.word" tH)
 (scmF:MH K CS "finish" "Scan.finish" nO)
 (r6:HF K CG "switches")
 (gmn_trees:HF K CG "trees")
 (gmn_field:HF K CG "field")
 (gmn_degrees:HF K CG "degrees")
 (dbn_game:HF K C "game")
 (dbn_awaited:HF K C "awaited")
 (dbn_claims:HF K C "claims")
 (dbn_s:HF K C "s")
 (dbn_heard:HF K C "heard")
 (dbn_tossed:HF K C "tossed")
 (dbn_held:HF K C "held")
 (dbn_places:HF K C "places")
 (asn_game:HF K CA "game")
 (asn_number:HF K CA "number")
 (asn_many:HF K CA "many")
 (asn_held:HF K CA "held")
 (asn_s:HF K CA "s")
 (asn_tossed:HF K CA "tossed")
 (asn_truths:HF K CA "truths")
 (mcn_game:HF K CM "game")
 (mcn_helper:HF K CM "helper")
 (mcn_next_round:HF K CM "next_round")
 (mcn_boxes:HF K CM "boxes")
 (scn_text:HF K CS "text")
 (scn_row:HF K CS "row")
 (scn_most_within:HF K CS "most_within")
 (scn_most_parts:HF K CS "most_parts")
 (scn_place:HF K CS "place")
 (scn_parts:HF K CS "parts")
 (g1:W.nsIn K mainGlobals "LETTERS"=some (some (.str LET t1)))
 (g3:W.nsIn K mainGlobals "LONGEST_NAME"=some (some (.int 6 t3)))
 (g5:W.nsIn K mainGlobals "KEPT_WORDS"=some (some (.ref ka)))
 (g6:K.lookup ka=some %[.type "tuple",kd,.seq kits kn|ksl])
 (g7:kits.size<=100)
 (g8:Vals (kept.map V.str) kits.toList)
 (e1:W.nsIn K mainGlobals "WORD_ENDS"=some (some (.str ENDS t4)))
 (e2:W.nsIn K mainGlobals "MOST_WITHIN"=some (some (.int 8 t5)))
 (e3:W.nsIn K mainGlobals "MOST_PARTS"=some (some (.int 20 t6)))
 (w1:W.nsIn K mainGlobals "FIGURES"=some (some (.str FIG u1)))
 (w2:W.nsIn K mainGlobals "MOST_FIGURES"=some (some (.int 12 u2)))
 (w3:W.nsIn K mainGlobals "MOST_ROWS_helptexts"=some (some (.int 60 u3)))
 (j5:W.nsIn K mainGlobals "SIGNS"=some (some (.ref ja)))
 (j6:K.lookup ja=some %[.type "tuple",jd,.seq jits jn|jsl])
 (j7:jits.size<=100)
 (j8:Vals (signW.map V.str) jits.toList)
 (q5:W.nsIn K mainGlobals "ASKING_WORDS"=some (some (.ref qa)))
 (q6:K.lookup qa=some %[.type "tuple",qd,.seq qits qn|qsl])
 (q7:qits.size<=100)
 (q8:Vals (askW.map V.str) qits.toList)
 (p5:W.nsIn K mainGlobals "PLAIN_WORDS"=some (some (.ref pa)))
 (p6:K.lookup pa=some %[.type "tuple",pd,.seq pits pn|psl])
 (p7:pits.size<=100)
 (p8:Vals (plainW.map V.str) pits.toList)
 (wh:W.nsIn K mainGlobals "HONEST_ROWS"=some (some (.str ("set i 0\nsay (true i)\nset i (+ i 1)\ngo 1":Str) uh)))
 (xmr:W.nsIn K mainGlobals "MOST_ROWS_weighing"=some (some (.int 4000 tr)))
 (ge:W.nsIn K mainGlobals "FIELDS_END"=some (some (.int 1000000 te)))
 (xmo:W.nsIn K mainGlobals "MOST_ROWS_DONE"=some (some (.int 200 tm)))
 (z0:HZ K "len") (z1:HZ K "range") (z2:HZ K "isinstance") (z3:HZ K "int") (z4:HZ K "bool") (z5:HZ K "list") (z6:HZ K "tuple") (z7:HZ K "max") (z8:HZ K "reversed") (z9:HZ K "enumerate") (z10:HZ K "sum") (z11:HZ K "all") (z12:HZ K "dict") :
 ∃fd:FuncData,(∀(s:Shared) (v:Value),BindsTo s fd %[[v]|[]] [("_law_script",v)])/\∀base:Heap,K.In base->base.Ns mainGlobals mg->FnOk l.prog w K mg base CX0 38 fa fd ["_law_script"] (spLaw K):=by
 have e:=hfa.symm.trans (W.mg_of X G aL);cases e;have Ky:=Hq (st:=lW) lL cL kL;let%[_,_,C1|IU]:=aU X G h0;let%[_,_,r8|Il]:=aU X G h1;let%[_,_,v4|II]:=aU X G h2;let%[_,_,C2|IV]:=aU X G h3;let%[_,_,v5|IJ]:=aU X G h4;let%[_,_,l7|E6]:=aU X G h5;let%[_,_,C3|IW]:=aU X G h6;let%[_,_,iu|o9]:=aU X G h7;let%[_,_,l8|E7]:=aU X G h8;let%[_,_,C4|C5]:=aU X G h9;let%[_,_,Im|Jr]:=aU X G h10;let%[_,_,C6|IX]:=aU X G h11;let%[_,_,l9|E8]:=aU X G h12;let%[_,_,HS|HU]:=aU X G h13;let%[_,_,C7|C8]:=aU X G h14;let%[_,_,v6|IK]:=aU X G h15;let%[_,_,v7|IL]:=aU X G h16;let%[_,_,C9|IY]:=aU X G h17;let%[_,_,DW|DX]:=aU X G h18;let%[_,_,D1|IZ]:=aU X G h19;let%[_,_,HV|Jk]:=aU X G h20;let%[_,_,IS|Kv]:=aU X G h21;let%[_,_,kt|D4]:=aU X G h22;let%[_,_,r9|Io]:=aU X G h23;let%[_,_,Iq|Js]:=aU X G h24;let%[_,_,HW|Jl]:=aU X G h25;let%[_,_,jN|jO]:=aU X G h26;let%[_,_,y4|IM]:=aU X G h27;let%[_,_,D6|D7]:=aU X G h28;let%[_,_,m4|E9]:=aU X G h29;let%[_,_,y6|IN]:=aU X G h30;let%[_,_,kU|D8]:=aU X G h31;let%[_,_,sY|Ir]:=aU X G h32;let%[_,_,t8|Iu]:=aU X G h33;let%[_,_,y8|IO]:=aU X G h34;let%[_,_,HX|Jm]:=aU X G h35;let%[_,_,t9|Iv]:=aU X G h36;let%[_,_,pI|Id]:=aU X G h37;let%[_,_,uZ|Iw]:=aU X G h38;let%[_,_,y9|IP]:=aU X G h39;let%[_,_,m5|G7]:=aU X G h40;let%[_,_,A0|A3]:=aU X G h41;let%[_,_,vb|vc]:=aU X G h42;let%[_,_,Ix|Jt]:=aU X G h43;let%[_,_,Iy|Ju]:=aU X G h44;let%[_,_,Iz|Jv]:=aU X G h45;let%[_,_,HY|Jn]:=aU X G h46;let%[_,_,IA|IB]:=aU X G h47;let%[_,_,u4|u5]:=aU X G h48;let%[_,_,A4|IQ]:=aU X G h49;let%[_,_,u6|IC]:=aU X G h50;let%[_,_,Ia|Jo]:=aU X G h51;let%[_,_,A5|IR]:=aU X G h52;let%[_,_,A7|A8]:=aU X G h53;let%[_,_,Ib|Jp]:=aU X G h54;let%[_,_,ID|IE]:=aU X G h55;let%[_,_,E1|Ja]:=aU X G h56;let%[_,_,IF|Jw]:=aU X G h57;let%[_,_,E3|Jb]:=aU X G h58;let%[_,_,nI|G9]:=aU X G h59;let%[_,_,u7|IG]:=aU X G h60;let%[_,_,IT|Kw]:=aU X G h61;let%[_,_,Ic|Jq]:=aU X G h62;let%[_,_,IH|Jx]:=aU X G h63;erw[gmgg,gmpg,gmhdi,gmpov,gmsat,gmmki,gmkcl]at gmc;erw[dbgg,dbpg,dbhdi,dbpov,dbsat,dbmki,dbkcl]at dbc;erw[asgg,aspg,ashdi,aspov,assat,asmki,askcl]at asc;erw[mcgg,mcpg,mchdi,mcpov,mcsat,mcmki,mckcl]at mcc;erw[scgg,scpg,schdi,scpov,scsat,scmki,sckcl]at scc;let%[_,_,Jy|Jz]:=cE Kx;let%[_,_,JA|JB]:=cE gmmM;let%[_,_,JC|JD]:=cE gmmW;let%[_,_,JE|Jc]:=cE gmmC;let%[_,_,JF|JG]:=cE dbmI;let%[_,_,JH|Kz]:=cE dbmW;let%[_,_,JI|KA]:=cE dbmU;let%[_,_,JK|KB]:=cE dbmH;let%[_,_,JL|KC]:=cE dbmT;let%[_,_,JM|KD]:=cE dbmC;let%[_,_,JN|JO]:=cE dbmB;let%[_,_,JP|KE]:=cE dbmR;let%[_,_,JQ|JR]:=cE dbmG;let%[_,_,JS|KF]:=cE dbmE;let%[_,_,JT|KG]:=cE dbmN;let%[_,_,JU|JV]:=cE asmI;let%[_,_,JW|KH]:=cE asmP;let%[_,_,JX|KI]:=cE asmC;let%[_,_,JY|KJ]:=cE asmN;let%[_,_,JZ|KK]:=cE asmR;let%[_,_,J0|J1]:=cE mcmI;let%[_,_,J8|KL]:=cE mcmS;let%[_,_,J9|KM]:=cE mcmR;let%[_,_,Ka|KN]:=cE mcmN;let%[_,_,Kb|Kc]:=cE scmI;let%[_,_,Kd|KO]:=cE scmE;let%[_,_,Ke|Kf]:=cE scmS;let%[_,_,Kg|KP]:=cE scmT;let%[_,_,Kh|KQ]:=cE scmW;let%[_,_,Ki|KR]:=cE scmF;have B:Bl mg:=%[W.mg_none_of X G z0,W.mg_none_of X G z1,W.mg_none_of X G z2,W.mg_none_of X G z3,W.mg_none_of X G z4,W.mg_none_of X G z5,W.mg_none_of X G z6,W.mg_none_of X G z7,W.mg_none_of X G z8,W.mg_none_of X G z9,W.mg_none_of X G z10,W.mg_none_of X G z11|W.mg_none_of X G z12]
 erw[W.fnOf "law" "law" (jA lW) (gh lW) (ai lW) .none kV dc pm an cd ct,λs v=>.of_eq rfl,λbase _ _=>?_];have cal:=@Cal.of l.prog w K mg base;have TG:GTxt K mg CG:=%[%[gmpg,gmhdi,gmpov|gmsat],r6,gmn_trees,gmn_field,gmn_degrees|W.mg_of X G gmgg]
 have T:DTxt K mg C:=%[%[dbpg,dbhdi,dbpov|dbsat],dbn_game,dbn_awaited,dbn_claims,dbn_s,dbn_heard,dbn_tossed,dbn_held,dbn_places|W.mg_of X G dbgg]
 have TA:ATxt K mg CA:=%[%[aspg,ashdi,aspov|assat],asn_game,asn_number,asn_many,asn_held,asn_s,asn_tossed,asn_truths|W.mg_of X G asgg]
 have TM:MTxt K mg CM:=%[%[mcpg,mchdi,mcpov|mcsat],mcn_game,mcn_helper,mcn_next_round,mcn_boxes|W.mg_of X G mcgg]
 have TS:STxt K mg CS:=%[%[scpg,schdi,scpov|scsat],scn_text,scn_row,scn_most_within,scn_most_parts,scn_place,scn_parts|W.mg_of X G scgg]
 have TX:Tx K mg:=%[%[t1|W.mg_of X G g1],%[t3|W.mg_of X G g3],%[ka,W.mg_of X G g5|λ_=>.inr %[_,kits,kn,g6,1,1,zP0 g7 (ca ⋯)|g8]],%[t4|W.mg_of X G e1],%[t5|W.mg_of X G e2],%[t6|W.mg_of X G e3],%[u1|W.mg_of X G w1],%[u2|W.mg_of X G w2],%[u3|W.mg_of X G w3],%[ja,W.mg_of X G j5|λ_=>.inr %[_,jits,jn,j6,1,1,zP0 j7 (ca ⋯)|j8]],%[qa,W.mg_of X G q5|λ_=>.inr %[_,qits,qn,q6,1,1,zP0 q7 (ca ⋯)|q8]]|%[pa,W.mg_of X G p5|λ_=>.inr %[_,pits,pn,p6,1,1,zP0 p7 (ca ⋯)|p8]]]
 have Kj:=Jy.binds (ps:=["self","switches","trees","field"]) (by ac_rfl);have Kk:=JA.binds (ps:=["self","numbers","s"]) (by ac_rfl);have Kl:=JC.binds (ps:=["self","point","s"]) (by ac_rfl);have Jd:=JE.binds (ps:=["self"]) (by ac_rfl);have Je:=JF.binds (ps:=["self","game"]) (by ac_rfl);have KS:=JH.binds (ps:=["self"]) (by ac_rfl);have KU:=JI.binds (ps:=["self"]) (by ac_rfl);have KW:=JK.binds (ps:=["self","values"]) (by ac_rfl);have KY:=JL.binds (ps:=["self","r"]) (by ac_rfl);have KZ:=JM.binds (ps:=["self","values"]) (by ac_rfl);have Km:=JN.binds (ps:=["self","s"]) (by ac_rfl);have K2:=JP.binds (ps:=["self","values"]) (by ac_rfl);have Kn:=JQ.binds (ps:=["self"]) (by ac_rfl);have K5:=JS.binds (ps:=["self"]) (by ac_rfl);have K7:=JT.binds (ps:=["self"]) (by ac_rfl);have K8:=JU.binds (ps:=["self","game","number","many","due","s","coins"]) (by ac_rfl);have K9:=JW.binds (ps:=["self","word"]) (by ac_rfl);have La:=JX.binds (ps:=["self","place"]) (by ac_rfl);have Lb:=JY.binds (ps:=["self"]) (by ac_rfl);have Lc:=JZ.binds (ps:=["self","place"]) (by ac_rfl);have Jf:=J0.binds (ps:=["self","game","helper"]) (by ac_rfl);have Ld:=J8.binds (ps:=["self","many","due","s","coins"]) (by ac_rfl);have Le:=J9.binds (ps:=["self","place","said","asking"]) (by ac_rfl);have Lg:=Ka.binds (ps:=["self"]) (by ac_rfl);have Lh:=Kb.binds (ps:=["self","text","row","most_within","most_parts"]) (by ac_rfl);have Li:=Kd.binds (ps:=["self","within"]) (by ac_rfl);have Ko:=Ke.binds (ps:=["self","signs"]) (by ac_rfl);have Lj:=Kg.binds (ps:=["self","signs"]) (by ac_rfl);have Lk:=Kh.binds (ps:=["self"]) (by ac_rfl);have Ll:=Ki.binds (ps:=["self"]) (by ac_rfl);have fJ:=cal Iy (zY Iy B.len) Ju (by ac_rfl);have aW:=cal Iz (zW Iz ) Jv (by ac_rfl);have nJ:=cal C1 (vB C1 ) IU (by ac_rfl);have fc:=cal r8 (rZ r8 ) Il (by ac_rfl);have fk:=cal v4 (ur v4 B) II (by ac_rfl);have eW:=cal C3 (vx C3 ) IW (by ac_rfl);have fe:=cal iu (jI iu B eW fc) o9 (by ac_rfl);have iw:=cal l7 (pk l7 B eW fe) E6 (by ac_rfl);have cx:=cal C2 (vq C2 B iw) IV (by ac_rfl);have lU:=cal v5 (ux v5 cx) IJ (by ac_rfl);have bj:=cal l9 (pq l9 ) E8 (by ac_rfl);have i3:=cal HS (qV HS B HU bj 10) HU (by ac_rfl);have eM:=cal C7 (oQ C7 C8 bj 10) C8 (by ac_rfl);have dO:=cal m4 (pB m4 ) E9 (by ac_rfl);have fO:=cal D6 (oO D6 D7 dO 10) D7 (by ac_rfl);have lj:=cal y6 (uu y6 B.max eM) IN (by ac_rfl);have g9:=cal kU (ou kU B.enumerate) D8 (by ac_rfl);have i9:=cal sY (rT sY eM) Ir (by ac_rfl);have jC:=cal t8 (rV t8 %[te|W.mg_of X G ge] nJ) Iu (by ac_rfl);have lr:=cal y8 (uk y8 B.max) IO (by ac_rfl);have eX:=cal HY (xA HY B.range aW) Jn (by ac_rfl);have e9:=cal IA (sC IA B.len IB aW 10) IB (by ac_rfl);have fq:=cal u4 (kZ u4 u5 10) u5 (by ac_rfl);have iT:=cal A4 (uq A4 B fq) IQ (by ac_rfl);have jK:=cal u6 (rW u6 B) IC (by ac_rfl);have gO:=cal Ia (xB Ia jK) Jo (by ac_rfl);have iU:=cal A5 (uo A5 B) IR (by ac_rfl);have gg:=cal A7 (my A7 A8 B 10) A8 (by ac_rfl);have j9:=cal Ib (xy Ib B aW eX e9 iT gO iU gg) Jp (by ac_rfl);have lT:=cal v6 (uy v6 B TG i3) IK (by ac_rfl);have Kp:=Cv (P:=l.prog) (w:=w) (base:=base) Jy TG B.tuple B.len lj g9 i9 jC lr;have Kq:=EQ (P:=l.prog) (w:=w) (base:=base) JA TG B.reversed;have Kr:=Ab (P:=l.prog) (w:=w) (base:=base) JC TG JB Kq Kk fO;have Jg:=Ac (P:=l.prog) (w:=w) (base:=base) JE TG B.len;have Lm:=Ae (P:=l.prog) (w:=w) (base:=base) JS B T TG JD Kr Kl lT;have Ks:=GY (P:=l.prog) (w:=w) (base:=base) JQ B T TG KF Lm K5;have Kt:=Af (P:=l.prog) (w:=w) (base:=base) JN T TG JB Kq Kk JR Ks Kn;have Ln:=xE (P:=l.prog) (w:=w) (base:=base) JM B T TG JO Kt Km;have Lo:=ER (P:=l.prog) (w:=w) (base:=base) JP B T TG lU;have Lq:=CB (P:=l.prog) (w:=w) (base:=base) JK B T TG fk KD Ln KZ KE Lo K2;have Lr:=Cy (P:=l.prog) (w:=w) (base:=base) JL B T TG fk cx JO Kt Km JR Ks Kn;have Jh:=Cz (P:=l.prog) (w:=w) (base:=base) JF B T TG;have Ls:=Ad (P:=l.prog) (w:=w) (base:=base) JH T;have Lu:=ES (P:=l.prog) (w:=w) (base:=base) JI T;have eJ:=cal l8 (pC l8 B.range) E7 (by ac_rfl);have iD:=cal Im (zZ Im ) Jr (by ac_rfl);have fX:=cal C4 (oR C4 C5 iD 12) C5 (by ac_rfl);have n8:=cal C6 (vC C6 B.len eJ fX) IX (by ac_rfl);have lZ:=cal v7 (uv v7 TG n8) IL (by ac_rfl);have oJ:=cal C9 (vt C9 B TG JD Kr Kl eJ) IY (by ac_rfl);have qo:=cal HV (xD HV fc) Jk (by ac_rfl);have fZ:=cal D1 (vy D1 qo) IZ (by ac_rfl);have Lv:=CD (P:=l.prog) (w:=w) (base:=base) JU B TA;have Lw:=Ag (P:=l.prog) (w:=w) (base:=base) JW TA TG;have Lx:=CF (P:=l.prog) (w:=w) (base:=base) JX B TA TG;have Ly:=xF (P:=l.prog) (w:=w) (base:=base) JY TA lZ oJ;have Lz:=CC (P:=l.prog) (w:=w) (base:=base) JZ B TA TG KJ Ly Lb cx;have AF:AskF l.prog w K mg base CA CG _ _ _ _ _ _:=⟨KH,Lw,K9,KI,Lx,La,KK,Lz,Lc⟩
 have cH:=cal DW (oP DW DX TA TG AF fZ 5) DX (by ac_rfl);have Ji:=Ct (P:=l.prog) (w:=w) (base:=base) J0 TM;have LA:=EO (P:=l.prog) (w:=w) (base:=base) J9 B TM cH;have LB:=EN (P:=l.prog) (w:=w) (base:=base) J8 B TM TA %[tm|W.mg_of X G xmo] ⟨asmki,JV.1,JV.2,askcl⟩ Lv K8 KM LA Le;have Y:Ways l.prog w K mg base C CM CG _ _ _ _ _ _ _ _ _ _:=⟨Kz,Ls,KS,KA,Lu,KU,KB,Lq,KW,KC,Lr,KY,KL,LB,Ld⟩
 have MDk:Mk K C _:=%[dbmki,JG.1,JG.2|dbkcl]
 have MMk:Mk K CM _:=%[mcmki,J1.1,J1.2|mckcl]
 have LC:=Cw (P:=l.prog) (w:=w) (base:=base) JT T MDk Jh Je;have LD:=Cs (P:=l.prog) (w:=w) (base:=base) Ka B TM MMk Ji Jf;have Z:Twins l.prog w K mg base C CM CG _ _ _ _:=%[KG,LC,K7,KN,LD|Lg]
 have b7:=cal r9 (si r9 B T TM Y) Io (by ac_rfl);have B0:=cal Iq (zT Iq B T TM Y MDk Jh Je MMk Ji Jf b7) Js (by ac_rfl);have E5:=cal IS (Cr IS B) Kv (by ac_rfl);have hR:=cal kt (ot kt TG Jc Jg Jd E5) D4 (by ac_rfl);have fo:=cal y4 (ut y4 B TG Jc Jg Jd) IM (by ac_rfl);have eK:=cal jN (iB jN jO B T TM TG Y Z b7 fo 8) jO (by ac_rfl);have dL:=cal HW (xw HW T TM %[tr|W.mg_of X G xmr] MDk Jh Je MMk Ji Jf hR eK) Jl (by ac_rfl);have LE:=Cq (P:=l.prog) (w:=w) (base:=base) Kb TS;have LF:=zU (P:=l.prog) (w:=w) (base:=base) Kd TS;have Ku:=Cp (P:=l.prog) (w:=w) (base:=base) Ke TS;have LG:=Co (P:=l.prog) (w:=w) (base:=base) Kg B TS Kf Ku Ko;have LH:=Cn (P:=l.prog) (w:=w) (base:=base) Kh B TX TS;have LI:=xx (P:=l.prog) (w:=w) (base:=base) Ki B TS;have M:Mths l.prog w K mg base CS _ _ _ _ _ _ _ _ _ _:=⟨KO,LF,Li,Kf,Ku,Ko,KP,LG,Lj,KQ,LH,Lk,KR,LI,Ll⟩
 have eY:=cal HX (xC HX B TX) Jm (by ac_rfl);have cj:=cal t9 (rY t9 B TX) Iv (by ac_rfl);have de:=cal A0 (mx A0 A3 vb vc B TX TS M eY cj 8) A3 (by ac_rfl);have l6:=cal y9 (uj y9 TS M eY) IP (by ac_rfl);have f7:=cal m5 (pz m5 B TS M cj) G7 (by ac_rfl);have jL:=cal uZ (sg uZ TX TS M %[scmki,Kc.1,Kc.2|sckcl] LE Lh l6 f7 de) Iw (by ac_rfl);have i8:=cal pI (qW pI B TX jL) Id (by ac_rfl);have B7:=cal Ix (Aa Ix ⟨uh,W.mg_of X G wh⟩ i8) Jt (by ac_rfl);have fg:=cal ID (sD ID B IE aW 5) IE (by ac_rfl);have o7:=cal E1 (vA E1 B aW fg) Ja (by ac_rfl);have BJ:=cal IF (zX IF aW) Jw (by ac_rfl);have o6:=cal E3 (vz E3 B) Jb (by ac_rfl);have f9:=cal nI (pA nI aW o6 o7 BJ) G9 (by ac_rfl);have jM:=cal u7 (rX u7 B) IG (by ac_rfl);have gR:=cal IT (Cu IT TG Jc Jg Jd jM B0) Kw (by ac_rfl);have eZ:=cal Ic (xz Ic B) Jq (by ac_rfl);have MGk:Mk K CG _:=⟨gmmki,Jz.1,Jz.2,gmkcl⟩
 have B9:=cal IH (zV IH B TG MGk Kp Kj aW eX e9 B7 eZ gR dL) Jx (by ac_rfl);exact GX Ky TG MGk Kp Kj fJ aW eX j9 f9 B9 eZ gR dL
theorem walk{l:PySem.W.OpenLaw}{q:Program}{loose:List Str}{XP:(Str->Option Value)->Heap->Prop}{YP:World->Heap->Prop}{d:DefRec}{K:Params->PySem.W.Frag}(hn:l.most=some 63)(hdf:d.params.defaults=[])
 (hY:∀(w:World)(h:Heap),YP w h->(K w.params).In h)
 (F:∀(w:World)(mg:Str->Option Value)(fa:Addr)(h:Heap),(K w.params).In h->h.Ns mainGlobals mg->mg d.name=some (.ref fa) ->
  ∃fd:FuncData,(∀(s:Shared) (u:Value),BindsTo s fd %[[u]|[]] [("_law_script",u)])/\∀base:Heap,(K w.params).In base->base.Ns mainGlobals mg->FnOk l.prog w (K w.params) mg base CX0 38 fa fd ["_law_script"] (spLaw (K w.params))) :
 PySem.W.WalkO q loose XP YP l.row.toRowW d [] (λf vs=>PySem.call f vs):=
 L2.walk_of (n:=63) (k:=38) (x:="_law_script") (CX:=λ_=>CX0) (sp:=λw=>spLaw (K w.params)) hn ⋯ hdf %[1,1,4|4] hY F (λ_ _ a ns hl _ hS=>%[a,ns,1,hS,hl|λ_=>rfl]) λ_ _ _ _ _ z=>z
end Mine
namespace PySem.W.Fast
def tw4446982462326720645:=()
def tw17986190175351493447:=()
def tw12944393823346376536:=()
def tw303076872439452858:=()
def tw10900728737711381904:=()
def tw11640909184813291422:=()
def tw12221851775716085527:=()
def tw9215272298494415804:=()
def tw11898047622110277474:=()
def tw13398956679116054238:=()
def tw9855749710002319784:=()
def tw11791289756097255198:=()
def tw8068820837179771355:=()
def tw10059256419340163457:=()
def tw15909862724729791599:=()
def tw17146700452581718750:=()
def tw148020852745902083:=()
def tw1429634003421874197:=()
def tw6510204437443952819:=()
def tw9236792367929751649:=()
def tw11785637846997140847:=()
def tw9274715088221217308:=()
def tw953933389700050854:=()
def tw12375845293775050872:=()
def tw5224136780577821962:=()
def tw1079296895074029616:=()
def tw2202570817316992391:=()
def tw13833084895693827231:=()
def tw1719384245157674800:=()
def tw5329406746935250889:=()
def tw17741672584924052077:=()
def tw3066920007550868281:=()
def tw7925115893852241195:=()
def tw9341510058280936831:=()
def tw5010430002612806412:=()
def tw17169169387928711353:=()
def tw16381443632363026561:=()
def tw12440316686264726432:=()
def tw3552646682286884020:=()
def tw10422377923538016164:=()
def tw15494037838791569108:=()
def tw11366504525006685497:=()
def tw15119323302999716570:=()
def tw9720378337019963181:=()
def tw16602617418357087954:=()
def tw12671641927685404873:=()
def tw15983056378610428753:=()
def tw12922086671363294881:=()
def tw15640311125012846764:=()
def tw4850178911335470040:=()
def tw8092692239051018263:=()
def tw15061147939072039821:=()
def tw231553456479523498:=()
def tw14737125151992731442:=()
def tw2680399333787844646:=()
def tw3999579530518726891:=()
def tw2449254286514908200:=()
def tw10032525198415237727:=()
def tw5656847763744881347:=()
def tw11583544209022905701:=()
def tw16729169133007137482:=()
def tw5959407404506341378:=()
def tw9369599005220185539:=()
def tw12729193284651326858:=()
def tw10996680966502525979:=()
def tw11111265671710887714:=()
def tw7777136728127563111:=()
def tw8016629839678923939:=()
def tw6307517685941210855:=()
def tw5099287344674765109:=()
def tw9095134071471392537:=()
def tw4648861559697690094:=()
def tw10715268793286787751:=()
def tw16063996993841888635:=()
def tw12225774794122161261:=()
def tw4706292255304606175:=()
def tw17078748666690047912:=()
def tw16431517510267971836:=()
def tw13944050578664559463:=()
def tw9562765422792108671:=()
def tw486396366816081384:=()
def tw13757990245969591853:=()
def tw16892601609240190073:=()
def tw6672908329250370352:=()
def tw6945755297890518717:=()
def tw17457918455830285892:=()
def tw9613587653292216316:=()
def tw17164692195835515890:=()
def tw6821274421926487277:=()
def tw13007431665656715186:=()
def tw15049175729026500851:=()
def tw12196244495806854528:=()
def tw13229568437036073307:=()
def tw15487083069588596133:=()
def tw14899443792058968891:=()
def tw13777301503279949507:=()
def tw994127306273209642:=()
def tw17805123816978838804:=()
def tw8649599242176988718:=()
def tw12274158680484886982:=()
def tw14525401327569088440:=()
def tw2260557007013639238:=()
def tw1401599942617095349:=()
def tw15928885214606282822:=()
def tw14635867929974206534:=()
def tw14690590401800595508:=()
def tw10406345506303260907:=()
def tw7140688669864752501:=()
def tw6081855253165160435:=()
def tw1772201272649382621:=()
def tw10515140876587822456:=()
def tw4751671460328293487:=()
def tw9554402079975645779:=()
def tw10295931802445641155:=()
def tw5098778955487513659:=()
def tw15665958941802630899:=()
def tw10130452239637168281:=()
def tw8418400289805443221:=()
def tw2295533839707362094:=()
def tw1441428432702849461:=()
def tw4365834354115996731:=()
def tw4438311018796911378:=()
def tw8321427265271568175:=()
def tw18434429403388455742:=()
def tw10109536099330566303:=()
def tw416431129034398743:=()
def tw370717740974377343:=()
def tw15317826065640943804:=()
def tw14556188946980073690:=()
def tw15362358897136102000:=()
def tw10314084921896845478:=()
def tw15028990003964203383:=()
def tw8166521485854210955:=()
def tw14865401003579696622:=()
def tw5499311394806681542:=()
def tw11084828884497206277:=()
def tw3936285755361277428:=()
def tw10977452605955030334:=()
def tw16970191789505678207:=()
def tw14320510981126417267:=()
def tw6903673459295048916:=()
def tw4138424094834609486:=()
def tw16161360202060549495:=()
def tw7693162793978844692:=()
def tw624169780540962015:=()
def tw3425244723370911301:=()
def tw2743591351780897414:=()
def tw15038911241959770329:=()
def tw4201951283839843183:=()
def tw8626608619759065180:=()
end PySem.W.Fast
open PySem PySem.W PyProof.Rows
set_option maxRecDepth 100000 in
set_option maxHeartbeats 0 in
theorem PySem.Challenge.cw_asktally_k54_whole_weighed_holds : PySem.Challenge.rw_asktally_k54_whole_weighed.Holds := by
 w_on; o_law; k_head; (case hw=>w_witness2)
 k_fill
 refine Mine.walk (l:=PySem.Challenge.rw_asktally_k54_whole_weighed) rfl rfl (λw h Y=>PySem.W.kIn_of Y) ?F
 case F =>
  intro w mg fa h KX G hmg
  refine' Mine.all_mk KX G hmg ?aL ?lL ?cL ?kL ?h0 ?h1 ?h2 ?h3 ?h4 ?h5 ?h6 ?h7 ?h8 ?h9 ?h10 ?h11 ?h12 ?h13 ?h14 ?h15 ?h16 ?h17 ?h18 ?h19 ?h20 ?h21 ?h22 ?h23 ?h24 ?h25 ?h26 ?h27 ?h28 ?h29 ?h30 ?h31 ?h32 ?h33 ?h34 ?h35 ?h36 ?h37 ?h38 ?h39 ?h40 ?h41 ?h42 ?h43 ?h44 ?h45 ?h46 ?h47 ?h48 ?h49 ?h50 ?h51 ?h52 ?h53 ?h54 ?h55 ?h56 ?h57 ?h58 ?h59 ?h60 ?h61 ?h62 ?h63 ?gmc ?dbc ?asc ?mcc ?scc ?Kx ?gmmM ?gmmW ?gmmC ?dbmI ?dbmW ?dbmU ?dbmH ?dbmT ?dbmC ?dbmB ?dbmR ?dbmG ?dbmE ?dbmN ?asmI ?asmP ?asmC ?asmN ?asmR ?mcmI ?mcmS ?mcmR ?mcmN ?scmI ?scmE ?scmS ?scmT ?scmW ?scmF ?r6 ?gmn_trees ?gmn_field ?gmn_degrees ?dbn_game ?dbn_awaited ?dbn_claims ?dbn_s ?dbn_heard ?dbn_tossed ?dbn_held ?dbn_places ?asn_game ?asn_number ?asn_many ?asn_held ?asn_s ?asn_tossed ?asn_truths ?mcn_game ?mcn_helper ?mcn_next_round ?mcn_boxes ?scn_text ?scn_row ?scn_most_within ?scn_most_parts ?scn_place ?scn_parts ?g1 ?g3 ?g5 ?g6 ?g7 ?g8 ?e1 ?e2 ?e3 ?w1 ?w2 ?w3 ?j5 ?j6 ?j7 ?j8 ?q5 ?q6 ?q7 ?q8 ?p5 ?p6 ?p7 ?p8 ?wh ?xmr ?ge ?xmo ?z0 ?z1 ?z2 ?z3 ?z4 ?z5 ?z6 ?z7 ?z8 ?z9 ?z10 ?z11 ?z12
  case aL|lL|cL|kL=>k_is
  case h0|h1|h2|h3|h4|h5|h6|h7|h8|h9|h10|h11|h12|h13|h14|h15|h16|h17|h18|h19|h20|h21|h22|h23|h24|h25|h26|h27|h28|h29|h30|h31|h32|h33|h34|h35|h36|h37|h38|h39|h40|h41|h42|h43|h44|h45|h46|h47|h48|h49|h50|h51|h52|h53|h54|h55|h56|h57|h58|h59|h60|h61|h62|h63=>exact%[_,by k_is,_,%[_,_,_,_,_,_,_,_,0,by k_is|by k_is]|by k_is]
  case gmc|dbc|asc|mcc|scc=>exact%[by k_is,by k_is,by k_is,by k_is,by k_is,by k_is|by k_is]
  case Kx|gmmM|gmmW|gmmC|dbmI|dbmW|dbmU|dbmH|dbmT|dbmC|dbmB|dbmR|dbmG|dbmE|dbmN|asmI|asmP|asmC|asmN|asmR|mcmI|mcmS|mcmR|mcmN|scmI|scmE|scmS|scmT|scmW|scmF=>exact%[_,by k_is,by k_is,_,%[_,_,_,_,_,_,_,_,0,by k_is|by k_is]|by k_is]
  case r6|gmn_trees|gmn_field|gmn_degrees|dbn_game|dbn_awaited|dbn_claims|dbn_s|dbn_heard|dbn_tossed|dbn_held|dbn_places|asn_game|asn_number|asn_many|asn_held|asn_s|asn_tossed|asn_truths|mcn_game|mcn_helper|mcn_next_round|mcn_boxes|scn_text|scn_row|scn_most_within|scn_most_parts|scn_place|scn_parts=>delta Mine.HF; k_is
  case g1|g3|g5|g6|e1|e2|e3|w1|w2|w3|j5|j6|q5|q6|p5|p6|wh|xmr|ge|xmo=>k_is
  case g7|j7|q7|p7=>decide
  case g8=>exact Mine.kept_vals
  case j8=>exact Mine.sign_vals
  case q8=>exact Mine.ask_vals
  case p8=>exact Mine.plain_vals
  case z0|z1|z2|z3|z4|z5|z6|z7|z8|z9|z10|z11|z12=>delta Mine.HZ; k_is
