import PyProof.Rows.All
import Wide.All
import OpenK.AllK
import Wide.FinOn
import Lean
import PyProof.EqAt
import PyProof.EqKinds
import PyProof.TupleCall
import PySem.Challenge.RW_asktally_k62_whole_honest_is_believed
set_option Elab.async false
set_option linter.all false
set_option maxRecDepth 100000
set_option bootstrap.genMatcherCode false
set_option compiler.extract_closed false
local macro_rules|`(%[$xs,*|$y])=>do
 if y.raw.isIdent then if y.raw.getId==`List.nil then Lean.Macro.throwUnsupported
 if y.raw.isIdent then if y.raw.getId==`ag then return←xs.getElems.foldrM (fun x a=>do match x.raw.isNatLit? with|some _=>`($(Lean.mkIdent `aa) ($(Lean.mkIdent `pv) $x) $a)|_=>`($(Lean.mkIdent `aa) $x $a)) y
 let h←`(_);let r←`(rfl);let q←`(?_);let a←`(by omega);let b←`(by decide)
 let o:=(xs.getElems.push y).flatMap fun x=>match x.raw.isNatLit? with|some 0=>#[h,r]|some 1=>#[r]|some 2=>#[h,h,r,r]|some 3=>#[a]|some 4=>#[b]|some 6=>#[q]|_=>#[x]
 `(⟨$o,*⟩)
local macro_rules|`(tactic|let%[$xs,*|$y]:=$e)=>do
 let g:=fun(f:Lean.Term->Lean.MacroM (Lean.TSyntax `rcasesPat))(t:Lean.Term)=>show Lean.MacroM (Lean.TSyntax `rcasesPat) from do
  match t with
  |`(%[$xs,*|$y])=>
   let p←(xs.getElems.push y).mapM fun x=>do let p←f x;`(Lean.Parser.Tactic.rcasesPatLo|$p:rcasesPat)
   `(rcasesPat|⟨$p,*⟩)
  |`($i:ident)=>`(rcasesPat|$i:ident)
  |_=>if t.raw.isNatLit?==some 1 then`(rcasesPat|$(Lean.mkIdent `rfl):ident)else`(rcasesPat|_)
 let p←g (g (g (g (g (g fun _=>`(rcasesPat|_)))))) (←`(%[$xs,*|$y]))
 `(tactic|obtain $p:rcasesPat:=$e)
local macro_rules|`(tactic|erw[$xs,*]$[at $h:ident]?)=>do
 let o:Array Lean.Term:=xs.getElems.map fun x=>⟨x.raw[1]⟩
 let l:=o.back!;let o:=o.pop
 match h with|some h=>`(tactic|let%[$o,*|$l]:=$h)|_=>`(tactic|refine %[$o,*|$l])
local macro_rules|`(⋯)=>`(by decide)
local macro_rules|`(#[0])=>`(by omega)|`(#[$f:ident,$i:num,$s:ident,$e])=>`($f (i:=$i) ($s).nd rfl (Or.inl rfl) $e)
local macro_rules|`(tactic|exists $x:ident)=>do
 let i:=Lean.mkIdent
 `(tactic|refine $(i `F.ok) $x (fun _ _ _ _ h=>by cases h;subst_vars;rfl) (fun $(i `cdv) $(i `A) $(i `outer) $(i `s) $(i `H) $(i `vs) $(i `Q) $(i `E) $(i `hr) $(i `h)=>?_))
local macro_rules | `(tactic|omega)=>`(tactic|first | lia | omega +splitDisjunctions)
local macro_rules | `(command|def $n:declId $s:optDeclSig $b:declVal)=>`(command|noncomputable def $n:declId $s:optDeclSig $b:declVal)
local macro_rules | `(tactic|decide)=>`(tactic|decide +kernel)
local macro_rules | `(tactic|rfl')=>`(tactic|with_unfolding_all rfl)
local macro_rules | `(tactic|ac_rfl)=>`(tactic|(intro _ _ _ _ _ _ us hl;rcases us with _|⟨a,_|⟨b,_|⟨c,_|⟨d,_|⟨e,_|⟨f,_|⟨g,_|⟨h,us⟩⟩⟩⟩⟩⟩⟩⟩<;>first|rfl|(simp at hl)))
noncomputable section
section
open PySem PySem.Spec PyProof.Rows
theorem zA0.{u}{c:Prop}{h:Decidable c}(hc:¬c){α:Sort u}{t e:α}:ite c t e=e:=if_neg hc
theorem zC0.{u}{c:Prop}{h:Decidable c}(hc:c){α:Sort u}{t e:α}:ite c t e=t:=if_pos hc
abbrev zD0:=@wpAny_bind
abbrev zF0:=@List.length_map
abbrev zG0:=@Nat.le_refl
abbrev zI0:=@wpAny_pure
abbrev zJ0:=@List.length_append
abbrev zL0:=@List.map_append
abbrev zM0:=@List.getElem?_eq_getElem
abbrev zN0:=@Heap.lt_size
abbrev zO0:=@List.length_cons
abbrev zP0:=@Nat.le_trans
abbrev zQ0:=@List.size_toArray
abbrev zR0:=@Heap.get?_push_of_some
theorem zS0.{u}{α:Type u}{a b:α}(h:a∈[b]):a=b:=List.mem_singleton.mp h
abbrev zT0:=@Option.some.inj
abbrev zU0:=@Nat.zero_le
abbrev zV0:=@Nat.ne_of_lt
theorem zW0.{u}{α:Type u}{a b:α}{l:List α}(h:a∈b::l):a=b∨a∈l:=List.mem_cons.mp h
theorem zX0.{u}{α:Type u}{l:List α}{i:Nat}{a:α}(h:l[i]?=some a):∃h:i<l.length,l[i]=a:=List.getElem?_eq_some_iff.mp h
abbrev zY0:=@List.map_cons
abbrev zZ0:=@List.getElem?_map
abbrev qA0:=@Heap.get?_push_size
abbrev qB0:=@List.mem_cons_self
abbrev qC0:=@Int.emod_nonneg
abbrev qD0:=@Bool.false_ne_true
abbrev qE0:=@Int.emod_lt_of_pos
abbrev qF0:=@List.take_length
abbrev qG0:=@List.length_singleton
abbrev qH0:=@List.mem_of_getElem?
abbrev qI0:=@List.take_add_one
abbrev qJ0:=@List.mem_cons_of_mem
abbrev qK0:=@List.length_take
abbrev qL0:=@List.getD_eq_getElem?_getD
theorem qM0.{u}{α:Type u}{a:α}{s t:List α}(h:a∈s++t):a∈s∨a∈t:=List.mem_append.mp h
abbrev qN0:=@Nat.le_succ
abbrev qO0:=@Nat.lt_of_lt_of_le
abbrev qP0:=@List.getElem_mem
abbrev qQ0:=@List.mem_append_right
abbrev qR0:=@List.length_range
abbrev qS0:=@Int.toNat_natCast
abbrev qT0:=@Int.emod_eq_of_lt
abbrev qU0:=@Nat.lt_irrefl
theorem qV0{α β:Type}{f:α->β}{x:Option α}{b:β}(h:x.map f=some b):∃a,x=some a/\f a=b:=Option.map_eq_some_iff.mp h
abbrev qX0:=@Int.mul_le_mul_of_nonneg_left
end
namespace L2
open PySem PySem.Spec PyProof.Rows
abbrev Key:=Sum Int Str
def sV:Key->Value->Bool
 | .inl k,v=>Value.isInt k v
 | .inr x,v=>Value.isStrOf x v
def keyH(w:World):Key->Int
 | .inl k=>hashInt k
 | .inr x=>hashStr w x
theorem cW:∀{k:Key}{v:Value},sV k v=true->(∃i t,k=Sum.inl i/\v=Value.int i t)∨(∃x t,k=Sum.inr x/\v=Value.str x t)
 | .inl i,v,h=>by
   let%[t|e]:=Value.isInt_shape (k:=i) (v:=v) h;exact .inl %[i,t,1|e]
 | .inr x,v,h=>by
   let%[t|e]:=Value.isStrOf_shape (x:=x) (v:=v) h;exact .inr %[x,t,1|e]
theorem Bc(i:Int)(t:Tok):sV (.inl i) (.int i t)=true:=by simp [sV,Value.isInt]
theorem Bb(x:Str)(t:Tok):sV (.inr x) (.str x t)=true:=by simp [sV,Value.isStrOf]
theorem HN(a b:Int):decide ((Sum.inl a:Key)=Sum.inl b)=(a==b):=by
 by_cases e:a=b
 . subst e;simp
 . have h:¬ (Sum.inl a:Key)=Sum.inl b:=λq=>e (Sum.inl.inj q)
   rw[decide_eq_false h];exact(beq_eq_false_iff_ne.mpr e).symm
theorem HK(a b:Str):decide ((Sum.inr a:Key)=Sum.inr b)=decide (a=b):=by
 by_cases e:a=b
 . subst e;simp
 . have h:¬ (Sum.inr a:Key)=Sum.inr b:=λq=>e (Sum.inr.inj q)
   rw[decide_eq_false h,decide_eq_false e]
theorem HM(a:Int)(b:Str):decide ((Sum.inl a:Key)=Sum.inr b)=false:=decide_eq_false (λq=>nomatch q)
theorem HL(a:Str)(b:Int):decide ((Sum.inr a:Key)=Sum.inl b)=false:=decide_eq_false (λq=>nomatch q)
def dA(prog:Program)(w:World):PySem.KeyKind prog w Key where
 is:=sV
 hash:=keyH w
 inj:=λv a b ha hb=>by
  rcases cW ha with⟨i,t,rfl,rfl⟩ | ⟨x,t,rfl,rfl⟩
  . rcases cW hb with⟨j,u,rfl,e⟩ | ⟨y,u,rfl,e⟩
    . injection e with e1 _;rw[e1]
    . exact nomatch e
  . rcases cW hb with⟨j,u,rfl,e⟩ | ⟨y,u,rfl,e⟩
    . exact nomatch e
    . injection e with e1 _;rw[e1]
 byValue:=λk v h=>by
  rcases cW h with⟨i,t,rfl,rfl⟩ | ⟨x,t,rfl,rfl⟩ <;> rfl
 pyHash:=λhv h=>by
  rcases cW hv with⟨i,t,rfl,rfl⟩ | ⟨x,t,rfl,rfl⟩
  . exact wpAny_pyHash_int h
  . exact wpAny_pyHash_str h
 eqBool:=λhu hv h=>by
  rcases cW hu with⟨i,t,rfl,rfl⟩ | ⟨x,t,rfl,rfl⟩
  . rcases cW hv with⟨j,u,rfl,rfl⟩ | ⟨y,u,rfl,rfl⟩
    . rw[HN]at h;exact wpAny_eqBool_int h
    . rw[HM]at h;exact SeqAt.EqAt.int_str i t y u _ _ _ _ h
  . rcases cW hv with⟨j,u,rfl,rfl⟩ | ⟨y,u,rfl,rfl⟩
    . rw[HL]at h;exact SeqAt.EqAt.str_int x t j u _ _ _ _ h
    . rw[HK]at h;exact wpAny_eqBool_str h
 «strs»:=λk x t v h=>by
  rcases cW h with⟨i,u,rfl,e⟩ | ⟨y,u,rfl,e⟩
  . exact nomatch e
  . injection e with e1 _;subst e1;cases v <;> rfl
theorem wa(prog:Program)(w:World)(i:Int)(t:Tok):(dA prog w).is (.inl i) (.int i t)=true:=Bc i t
theorem vZ(prog:Program)(w:World)(x:Str)(t:Tok):(dA prog w).is (.inr x) (.str x t)=true:=Bb x t
inductive V where
 | non | bl (b:Bool) | int (i:Int) | str (x:Str) | byt (b:Array UInt8) | flt (b:UInt64) | ref (a:Addr) | ty (n:String)
 deriving DecidableEq
def RelV:V->Value->Prop
 | .non,u=>u=Value.none
 | .bl b,u=>u=Value.bool b
 | .int i,u=>∃t,u=Value.int i t
 | .str x,u=>∃t,u=Value.str x t
 | .byt b,u=>∃t,u=Value.bytes b t
 | .flt b,u=>∃t,u=Value.float b t
 | .ref a,u=>u=Value.ref a
 | .ty n,u=>u=Value.type n
abbrev Vals:List V->List Value->Prop:=Paired RelV
theorem Vals.length(r:Vals xs us):xs.length=us.length:=Paired.length r
theorem Vals.get:∀{xs:List V}{us:List Value}{i:Nat}{x:V},Vals xs us->xs[i]?=some x->∃u,us[i]?=some u/\RelV x u
 | _,_,_,_,.nil,e=>by simp at e
 | _,_,0,_,.cons r _,e=>by simp at e;subst e;erw[0,r]
 | _,_,i+1,x,.cons _ t,e=>by
   let%[u,h1|h2]:=Vals.get (i:=i) (x:=x) t (by simpa using e);erw[u,by simpa using h1,h2]
theorem Vals.set{x:V}{u:Value}(r:RelV x u):∀{xs:List V}{us:List Value}(i:Nat),Vals xs us->Vals (xs.set i x) (us.set i u)
 | _,_,_,.nil=>.nil
 | _,_,0,.cons _ t=>.cons r t
 | _,_,i+1,.cons q t=>.cons q (Vals.set r i t)
theorem Vals.append:∀{xs ys:List V}{us ws:List Value},Vals xs us->Vals ys ws->Vals (xs++ys) (us++ws)
 | _,_,_,_,.nil,s=>s
 | _,_,_,_,.cons r t,s=>.cons r (Vals.append t s)
theorem Vals.take:∀{xs:List V}{us:List Value}(n:Nat),Vals xs us->Vals (xs.take n) (us.take n)
 | _,_,0,_=>.nil
 | _,_,_+1,.nil=>.nil
 | _,_,n+1,.cons r t=>.cons r (Vals.take n t)
theorem Vals.drop:∀{xs:List V}{us:List Value}(n:Nat),Vals xs us->Vals (xs.drop n) (us.drop n)
 | _,_,0,r=>r
 | _,_,_+1,.nil=>.nil
 | _,_,n+1,.cons _ t=>Vals.drop n t
def RelO:Option V->Option Value->Prop
 | some v,some u=>RelV v u
 | none,none=>True
 | _,_=>False
def KV{κ:Type}:List (κ×V)->List (κ×Value)->Prop:=Paired fun(p:κ×V)(q:κ×Value)=>p.1=q.1/\RelV p.2 q.2
def kV:Key->V
 | .inl i=>.int i
 | .inr x=>.str x
inductive HO where
 | lst (xs:List V)
 | tup (xs:List V)
 | dK (kvs:List (Key×V)) | dT (kvs:List (List Key×V))
 | set (S:Int->Bool) (n:Nat)
 | ins (C dx:Addr) (fs:List (Str×V))
 | own (x:Addr)
 | xd (fs:List (Str×V))
 | met (f x:Addr)
 | rng (lo hi:Int)
 | frz (o:Obj) (u:HO)
 | tbl (ps:Array Value)
 | ext (φ:Heap->Prop)
abbrev Hp:=Addr->Option HO
def upd(H:Hp)(a:Addr)(o:HO):Hp:=λb=>if b=a then some o else H b
theorem am:upd H a o a=some o:=by unfold upd;rw[zC0 rfl]
theorem aG{a b:Addr}(h:b≠a):upd H a o b=H b:=by unfold upd;rw[zA0 h]
theorem bu{H:Hp}{a b:Addr}{o u:HO}(h:H a=some o)(h':H b=some u)(d:o≠u):a≠b:=by
 intro e;subst e;rw[h]at h';exact d (zT0 h')
theorem aQ{H:Hp}{a b:Addr}{o:HO}(h:H a=some o)(h':H b=none):a≠b:=by
 intro e;subst e;rw[h]at h';cases h'
section
variable (P:Program) (w:World)
def ObjOk(H:Hp)(h:Heap)(a:Addr):HO->Prop
 | .lst xs=>xs.length<=sizeLine/\∃(its:List Value) (n:Nat),Vals xs its/\h.get? a=some { cls:=.type "list",data:=.seq its.toArray n }
 | .tup xs=>xs.length<=sizeLine/\∃its:List Value,Vals xs its/\IsTup h a its.toArray/\∃o,h.get? a=some o/\o.dict=none
 | .dK kvs=>kvs.length<=sizeLine/\(a==sysModules)=false/\∃vs,KV kvs vs/\h.DictOf (dA P w) a vs
 | .dT kvs=>kvs.length<=sizeLine/\(a==sysModules)=false/\∃xs:List (List Key×Addr×Value),
  Paired (fun(p:List Key×V)(q:List Key×Addr×Value)=>p.1=q.1/\H q.2.1=some (.tup (p.1.map kV))/\RelV p.2 q.2.2) kvs xs/\
  ∃o es ep,h.get? a=some o/\o.ExactDict/\o.data=.dict es ep/\es.toList=xs.map (entryOfKey (tupleKind (dA P w)))/\(xs.map (·.1)).Nodup
 | .set S n=>h.SetOf (intKind P w) a S n
 | .ins C dx fs=>H dx=some (.own a)/\fs.length<=1000/\dx≠a/\h.get? a=some (PySem.W.instObj C dx)/\
  ∃mA,h.Ns1 dx mA/\(∀f,RelO (fs.lookup f) (mA f))/\PySem.Within mA (fs.map (·.1))
 | .own _=>∃o,h.get? a=some o
 | .xd fs=>∃mA,h.Ns1 a mA/\∀f,RelO (fs.lookup f) (mA f)
 | .rng lo hi=>∃t u v,h.get? a=some { cls:=.type "range",data:=.fields #[.int lo t,.int hi u,.int 1 v] }
 | .frz o u=>h.get? a=some o/\ObjOk H h a u
 | .tbl ps=>h.get? a=some { cls:=.none,data:=.fields ps }
 | .met f x=>h.get? a=some (PySem.W.methodObj (.ref f) (.ref x))
 | .ext φ=>φ h/\(∃o,h.get? a=some o)/\∀h1 h2:Heap,φ h1->(∀o,h1.get? a=some o->h2.get? a=some o)->φ h2
def HOk(H:Hp)(h:Heap):Prop:=∀a o,H a=some o->ObjOk P w H h a o
end
section
variable {P:Program} {w:World} {H H':Hp} {h h':Heap} {a:Addr} {o:HO}
theorem ObjOk.lt(x:ObjOk P w H h a o):a<h.objs.size:=by
 cases o with
 | lst xs=>erw[_,_,_,_,e]at x;exact zN0 e
 | tup xs=>erw[_,_,_,p,_]at x;exact p.lt
 | dK kvs=>erw[_,_,_,_,o,_,_,e,_]at x;exact zN0 e
 | dT kvs=>erw[_,_,_,_,o,_,_,e,_]at x;exact zN0 e
 | set S n=>erw[o,_,_,_,e,_]at x;exact zN0 e
 | ins C dx fs=>erw[_,_,_,e,_]at x;exact zN0 e
 | own y=>erw[_,e]at x;exact zN0 e
 | xd fs=>erw[_,%[_,_,_,e|_],_]at x;exact zN0 e
 | rng lo hi=>erw[_,_,_,e]at x;exact zN0 e
 | frz ob u=>erw[e,_]at x;exact zN0 e
 | tbl ps=>exact zN0 (show h.get? a=some _ from x)
 | met f y=>exact zN0 (show h.get? a=some _ from x)
 | ext φ=>erw[_,%[_|e],_]at x;exact zN0 e
theorem Paired.mapP{α β:Type}{F G:α->β->Prop}:∀{l₁:List α}{l₂:List β},Paired F l₁ l₂->(∀a b,F a b->G a b)->Paired G l₁ l₂
 | _,_,.nil,_=>.nil
 | _,_,.cons r t,f=>.cons (f _ _ r) (Paired.mapP t f)
theorem ObjOk.stay(x:ObjOk P w H h a o)(k:∀b u,(b=a∨H b=some (.own a))->h.get? b=some u->h'.get? b=some u)
 (ho:∀b,H b=some (.own a)->H' b=some (.own a)) (ht:∀b xs,H b=some (.tup xs)->H' b=some (.tup xs)):ObjOk P w H' h' a o:=by
 induction o with
 | lst xs=>erw[z,its,n,r,e]at x;erw[z,its,n,r,k _ _ (.inl rfl) e]
 | tup xs=>erw[z,its,r,%[ob,e|c],od,e2,d]at x;erw[z,its,r,%[ob,k _ _ (.inl rfl) e|c],od,k _ _ (.inl rfl) e2,d]
 | dK kvs=>erw[z,y,vs,r,ob,es,ep,e,c]at x;erw[z,y,vs,r,ob,es,ep,k _ _ (.inl rfl) e,c]
 | dT kvs=>
   erw[z,y,xs,r,ob,es,ep,e,c]at x;erw[z,y,xs,Paired.mapP r λp q z=>%[z.1,ht _ _ z.2.1|z.2.2],ob,es,ep,k _ _ (.inl rfl) e,c]
 | set S n=>erw[ob,es,ep,t,e,c]at x;erw[ob,es,ep,t,k _ _ (.inl rfl) e,c]
 | ins C dx fs=>
   erw[d,z,ne,e,mA,%[od,es,ep,e2|c],r]at x;erw[ho _ d,z,ne,k _ _ (.inl rfl) e,mA,%[od,es,ep,k _ _ (.inr d) e2|c],r]
 | own y=>erw[ob,e]at x;erw[ob,k _ _ (.inl rfl) e]
 | xd fs=>erw[mA,%[od,es,ep,e|c],r]at x;erw[mA,%[od,es,ep,k _ _ (.inl rfl) e|c],r]
 | rng lo hi=>erw[t,u,v,e]at x;erw[t,u,v,k _ _ (.inl rfl) e]
 | frz ob u ih=>erw[e,q]at x;erw[k _ _ (.inl rfl) e,ih q]
 | tbl ps=>
   have e:h.get? a=some { cls:=.none,data:=.fields ps }:=x;show h'.get? a=some { cls:=.none,data:=.fields ps };exact k a _ (.inl rfl) e
 | met f y=>
   have e:h.get? a=some (PySem.W.methodObj (.ref f) (.ref y)):=x;show h'.get? a=some (PySem.W.methodObj (.ref f) (.ref y));exact k a _ (.inl rfl) e
 | ext φ=>erw[p,%[o|e],st]at x;erw[st _ _ p λo q=>k _ _ (.inl rfl) q,%[o|k _ _ (.inl rfl) e],st]
theorem HOk.lt(x:HOk P w H h)(e:H a=some o):a<h.objs.size:=(x a o e).lt
theorem HOk.fresh(x:HOk P w H h)(e:h.objs.size<=a):H a=none:=by
 cases q:H a with
 | none=>rfl
 | some u=>exact absurd (qO0 (x.lt q) e) (qU0 _)
theorem HOk.kept(x:HOk P w H h)(k:∀b u,h.get? b=some u->h'.get? b=some u):HOk P w H h':=λa o e=>
 (x a o e).stay (λb u _ q=>k b u q) (λ_ q=>q) λ_ _ q=>q
theorem HOk.laid(x:HOk P w H h)(k:∀b u,h.get? b=some u->h'.get? b=some u)(hp:h.objs.size<=a)(new:ObjOk P w (upd H a o) h' a o):HOk P w (upd H a o) h':=λb u e=>by
 have hn:=x.fresh hp
 by_cases hb:b=a
 . subst hb;rw[am]at e;cases e;exact new
 . rw[aG hb]at e;exact(x b u e).stay (λc v _ q=>k c v q) (λc q=>by rw[aG (aQ q hn)];exact q) λc xs q=>by rw[aG (aQ q hn)];exact q
end
def Rd(H:Hp)(a:Addr)(u:HO):Prop:=H a=some u∨∃o,H a=some (.frz o u)
theorem Rd.ok{P:Program}{w:World}{h:Heap}(r:Rd H a u)(x:HOk P w H h):ObjOk P w H h a u:=by
 rcases r with r | ⟨o,r⟩
 . exact x a u r
 . let%[_|q]:=x a _ r;exact q
def Mut:Option HO->Prop
 | some (.lst _)=>True
 | some (.dK _)=>True
 | some (.dT _)=>True
 | some (.set _ _)=>True
 | some (.ins _ _ _)=>True
 | some (.ext _)=>True
 | _=>False
section
variable {P:Program} {w:World} {H:Hp} {h h':Heap} {x e:Addr} {o':HO}
theorem HOk.write(ok:HOk P w H h)(mu:Mut (H x))(he:e=x∨H e=some (.own x))(k:∀b u,b≠e->h.get? b=some u->h'.get? b=some u)(heo:∃u,h'.get? e=some u)
 (new:ObjOk P w (upd H x o') h' x o'):HOk P w (upd H x o') h':=λb u q=>by
 have nown:∀c y,H c=some (.own y)->c≠x:=λc y r z=>by subst z;rw[r]at mu;exact mu
 have ntup:∀c xs,H c=some (.tup xs)->c≠x:=λc xs r z=>by subst z;rw[r]at mu;exact mu
 by_cases hb:b=x
 . subst hb;rw[am]at q;cases q;exact new
 . rw [aG hb]at q
   by_cases hbe:b=e
   . have q':H b=some (.own x):=by
      rcases he with z | z
      . exact absurd (hbe.trans z) hb
      . rw[hbe];exact z
     rw[q]at q';cases q';erw[v,hv]at heo;erw[v,by rw[hbe];exact hv]
   . refine (ok b u q).stay (λc v hc r=>k c v ?_ r) (λc r=>by rw[aG (nown c b r)];exact r) λc xs r=>by rw[aG (ntup c xs r)];exact r
     rcases hc with rfl | hc
     . exact hbe
     . rintro rfl;rcases he with z | z
       . exact nown c b hc z
       . rw[hc]at z;cases z;exact hb rfl
end
structure Un(fs ex:List Addr)(H H':Hp)(h h':Heap):Prop where
 keep:∀b o,h.get? b=some o->H b=none->b∉fs->b∉ex->h'.get? b=some o
 slot:∀b o,h.get? b=some o->H b=none->b∈fs->b∉ex->∃sl,h'.get? b=some { o with slots:=sl }
 free:∀b o,h.get? b=some o->H b=none->b∉ex->H' b=none
 there:∀b o,h.get? b=some o->b∉ex->∃o',h'.get? b=some o'
 tups:∀b xs,H b=some (.tup xs)->H' b=some (.tup xs)
 frzs:∀b o u,H b=some (.frz o u)->H' b=some (.frz o u)
 tbls:∀b ps,H b=some (.tbl ps)->∃more,H' b=some (.tbl (ps++more))
section
variable {fs fs' ex ex':List Addr} {H H1 H2:Hp} {h h1 h2 h':Heap} {a x e:Addr} {o:HO}
theorem Un.any(u:Un fs ex H H1 h h1){b:Addr}{ob:Obj}(q:h.get? b=some ob)(n:H b=none)(hx:b∉ex):∃sl,h1.get? b=some { ob with slots:=sl }:=by
 by_cases hb:b∈fs
 . exact u.slot b ob q n hb hx
 . erw[ob.slots,u.keep b ob q n hb hx]
theorem Un.kept(k:∀b u,h.get? b=some u->h'.get? b=some u):Un fs ex H H h h':=
 %[λb ob q _ _ _=>k b ob q,λb ob q _ _ _=>%[ob.slots|k b ob q],λ_ _ _ n _=>n,λb ob q _=>%[ob|k b ob q],λ_ _ q=>q,λ_ _ _ q=>q|λ_ ps q=>%[#[]|by rw[q];simp]]
theorem Un.refl:Un fs ex H H h h:=Un.kept λ_ _ q=>q
theorem Un.laid(k:∀b u,h.get? b=some u->h'.get? b=some u)(hp:h.objs.size<=a)(hn:H a=none):Un fs ex H (upd H a o) h h' where
 keep:=λb u q _ _ _=>k b u q
 slot:=λb u q _ _ _=>%[u.slots|k b u q]
 free:=λb u q n _=>by rw[aG (zV0 (qO0 (zN0 q) hp))];exact n
 there:=λb u q _=>%[u|k b u q]
 tups:=λb xs q=>by rw[aG (aQ q hn)];exact q
 frzs:=λb u xs q=>by rw[aG (aQ q hn)];exact q
 tbls:=λb ps q=>%[#[]|by rw[aG (aQ q hn),q];simp]
theorem Un.write(mu:Mut (H x))(he:e=x∨H e=some (.own x))(k:∀b u,b≠e->h.get? b=some u->h'.get? b=some u)(heo:∃u,h'.get? e=some u):Un fs ex H (upd H x o) h h':=by
 have hx:∀b,H b=none->b≠x:=λb n z=>by subst z;rw[n]at mu;exact mu
 have hb:∀b,H b=none->b≠e:=λb n z=>by
  subst z;rcases he with r | r
  . exact hx b n r
  . rw[n]at r;cases r
 have hm:∀b u,H b=some u->¬ Mut (some u)->b≠x:=λb u q nm z=>by subst z;rw[q]at mu;exact nm mu
 erw[λb u q n _ _=>k b u (hb b n) q,λb u q n _ _=>%[u.slots|k b u (hb b n) q],λb u q n _=>by rw[aG (hx b n)];exact n,λb u q _=>?_,λb xs q=>by rw[aG (hm b _ q λz=>z)];exact q,λb u xs q=>by rw[aG (hm b _ q λz=>z)];exact q,λb ps q=>%[#[]|by rw[aG (hm b _ q λz=>z),q];simp]]
 by_cases hbe:b=e
 . subst hbe;exact heo
 . erw[u,k b u hbe q]
end
def trk(h:Heap)(H:Hp):List Addr:=(List.range h.objs.size).filter λa=>(H a).isSome
def vb(h:Heap)(H:Hp):Heap:=PySem.W.hideAll h (trk h H)
theorem Bm(h:Heap)(H:Hp):(vb h H).objs.size=h.objs.size:=PySem.W.hideAll_size _ _
theorem DY{h:Heap}{H:Hp}{b:Addr}{o:Obj}(e:h.get? b=some o)(n:H b=none):(vb h H).get? b=some o:=
 PySem.W.hideAll_get _ e λhm=>by
  have q:(H b).isSome=true:=(List.mem_filter.mp hm).2;rw[n]at q;simp at q
theorem Fz{b:Addr}{o:Obj}(e:(vb h H).get? b=some o):h.get? b=some o/\H b=none:=by
 have e':h.get? b=some o:=PySem.W.of_hideAll (trk h H) e;erw[e',6];cases q:H b with
 | none=>rfl
 | some x=>
   have hm:b∈trk h H:=List.mem_filter.mpr %[List.mem_range.mpr (zN0 e')|by simp [q]];have z:(vb h H).get? b=none:=PySem.W.hideAll_none (trk h H) hm;rw[z]at e;cases e
structure Mod(K:W.Frag)(mg:Str->Option Value)(base:Heap):Prop where
 kin:K.In base
 glob:base.Ns mainGlobals mg
 blt:∃mb,base.Ns builtinsNs mb/\∀x:Str,x≠"__name__" -> mb x=bootBuiltins x
 nolimit:base.NoLimit
structure Cx where
 prog:Program
 w:World
 K:W.Frag
 mg:Str->Option Value
 base:Heap
 A:Around
 N:List Str
 s₀:Shared
 H₀:Hp
 env:Env
 outer:List Env
 stack:List Env
 ex:List Addr
 fn:Str->Bool
 calm:Bool
 pn:List (Addr×Obj)
 xe:Value->Shared->Prop
def frs(l:List Env):List Addr:=l.filterMap (·.frame)
abbrev Cx.fs(X:Cx):List Addr:=frs X.outer
def Vis(sc:Scope)(x:Str):Prop:=sc.names.lookup x=some .local∨sc.names.lookup x=some .cell∨sc.names.lookup x=some .free
def Loc(sc:Scope)(x:Str):Prop:=sc.names.lookup x=some .local∨sc.names.lookup x=some .cell
def Look(env:Env)(h:Heap)(m:Str->Option Value)(x:Str)(u:Value):Prop:=
 (env.kindOf x=some .local/\m x=some u)∨((env.kindOf x=some .cell∨env.kindOf x=some .free)/\∃c,env.cells.lookup x=some c/\h.IsCell c (some u))
structure Cx.Ok(X:Cx):Prop where
 mod:Mod X.K X.mg X.base
 kind:X.env.scope.kind=.function
 glob:X.env.globals=mainGlobals
 blt:X.env.builtins=builtinsNs
 above:X.s₀.heap.objs.size<=X.env.locals
 inj:∀x y c,X.env.cells.lookup x=some c->X.env.cells.lookup y=some c->x=y
 has:∀x,(X.env.kindOf x=some .cell∨X.env.kindOf x=some .free)->∃c,X.env.cells.lookup x=some c
 cab:∀x c,X.fn x=true->X.env.cells.lookup x=some c->X.s₀.heap.objs.size<=c
 hd:X.calm=true->X.A.handled=none
 frames:X.A.frames=some X.stack
 stk:X.stack=X.outer∨(X.stack=X.env::X.outer/\X.env.frame=some X.env.locals)
 exf:∀b∈X.ex,b≠X.env.locals/\∀x c,X.env.cells.lookup x=some c->c≠b
 bs:∀b o,X.base.get? b=some o->X.s₀.heap.get? b=some o/\X.H₀ b=none
 bsz:X.base.objs.size<=X.s₀.heap.objs.size
 noex:∀b o,X.base.get? b=some o->b∉X.ex
 exfs:∀b∈X.ex,b∉X.fs
 funs:X.s₀.heap.FunFrames X.base X.outer
 frf:∀b∈X.fs,X.H₀ b=none
structure Inv(X:Cx)(pins:List (Addr×Obj))(σ:List (Option V))(H:Hp)(s:Shared):Prop where
 ok:X.Ok
 os:s.os=X.s₀.os
 bare:AllBare s.gens
 base:Un X.fs X.ex X.H₀ H X.s₀.heap s.heap
 loc:∃m,s.heap.Ns X.env.locals m/\∀(i:Nat)(x:Str)(v:V),X.N[i]?=some x->σ[i]?=some (some v)->Vis X.env.scope x->∃u,RelV v u/\Look X.env s.heap m x u
 cell:∀x c,X.env.cells.lookup x=some c->∃v,s.heap.IsCell c v
 free:H X.env.locals=none
 freeC:∀x c,X.env.cells.lookup x=some c->H c=none
 pin:∀p∈X.pn++pins,s.heap.get? p.1=some p.2/\H p.1=none/\p.1≠X.env.locals/\p.1∉X.fs/\∀v,p.2.data≠.cell v
 hok:HOk X.prog X.w H s.heap
 len:σ.length=X.N.length
section
variable {X:Cx} {pins:List (Addr×Obj)} {σ:List (Option V)} {H H':Hp} {s:Shared} {h':Heap}
theorem Cx.Ok.nofr(ok:X.Ok){b:Addr}{o:Obj}(e:X.base.get? b=some o):b∉X.fs:=λhb=>by
 have:=(ok.funs.mem hb).1
 rw[e]at this;cases this
theorem Inv.bs(I:Inv X pins σ H s):∀b o,X.base.get? b=some o->s.heap.get? b=some o/\H b=none:=λb o e=>
 %[I.base.keep b o (I.ok.bs b o e).1 (I.ok.bs b o e).2 (I.ok.nofr e) (I.ok.noex b o e)|I.base.free b o (I.ok.bs b o e).1 (I.ok.bs b o e).2 (I.ok.noex b o e)]
theorem Inv.bk(I:Inv X pins σ H s):∀b o,X.base.get? b=some o->s.heap.get? b=some o:=λb o e=>(I.bs b o e).1
theorem Inv.mod(I:Inv X pins σ H s):Mod X.K X.mg X.base:=I.ok.mod
theorem Inv.kIn(I:Inv X pins σ H s):X.K.In s.heap:=I.ok.mod.kin.keeps I.bk
theorem Inv.lt(I:Inv X pins σ H s):X.env.locals<s.heap.objs.size:=let⟨_,hn,_⟩:=I.loc;hn.lt
theorem Inv.sz(I:Inv X pins σ H s):X.s₀.heap.objs.size<=s.heap.objs.size:=zP0 I.ok.above (Nat.le_of_lt I.lt)
theorem Inv.nofs(I:Inv X pins σ H s){a:Addr}(h:s.heap.objs.size<=a):a∉X.fs:=λhb=>by
 let%[_,o,ho|_]:=I.ok.funs.mem hb;exact absurd (qO0 (zN0 ho) (zP0 I.sz h)) (qU0 _)
theorem Inv.cne(I:Inv X pins σ H s):∀x c,X.env.cells.lookup x=some c->c≠X.env.locals:=λx c e z=>by
 let%[v,o,ho|hd]:=I.cell x c e;erw[m,%[o',es,ep,ho',hd'|_],_]at I.loc;rw[z,ho']at ho;cases ho;rw[hd']at hd;cases hd
theorem Inv.funs(I:Inv X pins σ H s):s.heap.FunFrames X.base X.outer:=by
 have all:∀(l:List Env),(∀b∈frs l,b∈X.fs)->X.s₀.heap.FunFrames X.base l->s.heap.FunFrames X.base l:=by
  intro l
  induction l with
  | nil=>intro _ _;trivial
  | cons env r ih=>
    intro hs hl;erw[hk,%[L,o,hf,hn,ho|hd],hr]at hl;have hL:L∈X.fs:=hs L (by unfold frs;rw[List.filterMap_cons,hf];exact qB0);let%[sl|e]:=I.base.slot L o ho (I.ok.frf L hL) hL λz=>I.ok.exfs L z hL
    erw[hk,%[L,_,hf,hn,e|hd],ih (λb hb=>hs b (by unfold frs;rw[List.filterMap_cons,hf];exact qJ0 _ hb)) hr]
 exact all X.outer (λ_ hb=>hb) I.ok.funs
theorem Inv.stack(I:Inv X pins σ H s):s.heap.FunFrames X.base X.stack:=by
 rcases I.ok.stk with e | ⟨e,hf⟩
 . rw[e];exact I.funs
 . rw[e];erw[m,hn,_]at I.loc;refine .cons (by rw[I.ok.kind];decide) hf hn ?_ I.funs;exact Heap.get?_none_of_le (zP0 I.ok.bsz I.ok.above)
theorem Inv.stkSub(I:Inv X pins σ H s):∀b∈frs X.stack,b∈X.env.locals::X.fs:=λb hb=>by
 rcases I.ok.stk with e | ⟨e,hf⟩
 . rw[e]at hb;exact qJ0 _ hb
 . rw[e]at hb;unfold frs at hb;rw[List.filterMap_cons,hf]at hb;exact hb
theorem Inv.stkFree(I:Inv X pins σ H s):∀b∈frs X.stack,H b=none:=λb hb=>by
 rcases zW0 (I.stkSub b hb)with e | hb
 . rw[e];exact I.free
 . let%[_,o,ho|_]:=I.ok.funs.mem hb;exact I.base.free b o ho (I.ok.frf b hb) λz=>I.ok.exfs b z hb
theorem Inv.step{g':Array GenState}{t':Nat}{d':Drawn}{ch:List Addr}(I:Inv X pins σ H s)
 (hch:∀b∈ch,(b∈X.ex∨X.s₀.heap.objs.size<=b)/\b≠X.env.locals/\(∀x c,X.env.cells.lookup x=some c->c≠b)/\∀p∈X.pn++pins,p.1≠b)
 (keep:∀b o,b≠X.env.locals->b∉X.fs->b∉ch->s.heap.get? b=some o->H b=none->h'.get? b=some o)
 (slot:∀b o,b≠X.env.locals->b∈X.fs->b∉ch->s.heap.get? b=some o->H b=none->∃sl,h'.get? b=some { o with slots:=sl }) (free:∀b o,b∉ch->s.heap.get? b=some o->H b=none->H' b=none)
 (there:∀b o,b∉ch->s.heap.get? b=some o->∃o',h'.get? b=some o')
 (tups:∀b xs,H b=some (.tup xs)->H' b=some (.tup xs)) (frzs:∀b o u,H b=some (.frz o u)->H' b=some (.frz o u)) (tbls:∀b ps,H b=some (.tbl ps)->∃more,H' b=some (.tbl (ps++more)))
 (ns:∀m,s.heap.Ns X.env.locals m->h'.Ns X.env.locals m) (hok:HOk X.prog X.w H' h') (hg:AllBare g') :
 Inv X pins σ H' { s with heap:=h',gens:=g',drawn:=d',toks:=t' }:=by
 have neL:∀b o,X.s₀.heap.get? b=some o->b≠X.env.locals:=λb o e=>zV0 (qO0 (zN0 e) I.ok.above)
 have neC:∀b o,X.s₀.heap.get? b=some o->b∉X.ex->b∉ch:=λb o e hx hb=>by
  rcases(hch b hb).1 with z | z
  . exact hx z
  . exact absurd (qO0 (zN0 e) z) (qU0 _)
 have cellK:∀x c,X.env.cells.lookup x=some c->∀v,s.heap.IsCell c v->h'.IsCell c v:=λx c e v ⟨o,ho,hd⟩=>by
  have nch:c∉ch:=λz=>(hch c z).2.2.1 x c e rfl
  by_cases hc:c∈X.fs
  . let%[sl|q]:=slot c o (I.cne x c e) hc nch ho (I.freeC x c e);erw[_,q,hd]
  . erw[o,keep c o (I.cne x c e) hc nch ho (I.freeC x c e),hd]
 erw[I.ok,I.os,hg,%[λb o e n hb hx=>?_,λb o e n hb hx=>?_,λb o e n hx=>?_,λb o e hx=>?_,λb xs e=>tups b xs (I.base.tups b xs e),λb o xs e=>frzs b o xs (I.base.frzs b o xs e)|λb ps e=>?_],6,λx c e=>?_,6,λx c e=>?_,λp hp=>?_,hok,I.len]
 . exact keep b o (neL b o e) hb (neC b o e hx) (I.base.keep b o e n hb hx) (I.base.free b o e n hx)
 . let%[sl|e1]:=I.base.slot b o e n hb hx;let%[sl'|e2]:=slot b _ (neL b o e) hb (neC b o e hx) e1 (I.base.free b o e n hx);erw[sl',e2]
 . let%[o'|e1]:=I.base.there b o e hx;exact free b o' (neC b o e hx) e1 (I.base.free b o e n hx)
 . let%[o'|e1]:=I.base.there b o e hx;exact there b o' (neC b o e hx) e1
 . let%[m1|e1]:=I.base.tbls b ps e;let%[m2|e2]:=tbls b _ e1;erw[m1++m2,by rw[e2,Array.append_assoc]]
 . erw[m,hn,hl]at I.loc;erw[m,ns m hn,λi x v e1 e2 e3=>?_];let%[u,r|l]:=hl i x v e1 e2 e3;erw[u,r,6];rcases l with l | ⟨k,c,e,z⟩
   . exact .inl l
   . exact .inr %[k,c,e|cellK x c e _ z]
 . let%[v|z]:=I.cell x c e;erw[v,cellK x c e v z]
 . erw[m,%[o,_,_,ho|_],_]at I.loc;exact free _ o (λz=>(hch _ z).2.1 rfl) ho I.free
 . let%[v,o,ho|hd]:=I.cell x c e;exact free c o (λz=>(hch c z).2.2.1 x c e rfl) ho (I.freeC x c e)
 . let%[e,n,ne,nf|d]:=I.pin p hp;have nch:p.1∉ch:=λz=>(hch p.1 z).2.2.2 p hp rfl
   erw[keep p.1 p.2 ne nf nch e n,free p.1 p.2 nch e n,ne,nf,d]
theorem Inv.un{t':Nat}(I:Inv X pins σ H s)(u:Un X.fs [] H H' s.heap h')(hok:HOk X.prog X.w H' h'):Inv X pins σ H' { s with heap:=h',toks:=t' }:=by
 let%[m,%[o,es,ep,ho|r]|_]:=id I.loc;let%[sl|hL]:=u.any ho I.free (by simp);exact I.step (g':=s.gens) (d':=s.drawn) (ch:=[]) (λ_ z=>nomatch z) (λb o _ hb _ e n=>u.keep b o e n hb (by simp)) (λb o _ hb _ e n=>u.slot b o e n hb (by simp)) (λb o _ e n=>u.free b o e n (by simp)) (λb o _ e=>u.there b o e (by simp)) u.tups u.frzs u.tbls (λm' hm=>by
  erw[o',es',ep',ho',r']at hm;rw[ho]at ho';cases ho';erw[_,es',ep',hL,r']) hok I.bare
theorem Inv.call{g':Array GenState}{t':Nat}{d':Drawn}{ch:List Addr}(I:Inv X pins σ H s)(u:Un (frs X.stack) ch H H' s.heap h')(hok:HOk X.prog X.w H' h')(hg:AllBare g')
 (hch:∀b∈ch,(b∈X.ex∨X.s₀.heap.objs.size<=b)/\b≠X.env.locals/\(∀x c,X.env.cells.lookup x=some c->c≠b)/\∀p∈X.pn++pins,p.1≠b) :
 Inv X pins σ H' { s with heap:=h',gens:=g',drawn:=d',toks:=t' }:=by
 let%[m,%[o,es,ep,ho|r]|_]:=id I.loc;let%[sl|hL]:=u.any ho I.free λz=>(hch _ z).2.1 rfl
 exact I.step (ch:=ch) hch (λb o hL hb hc e n=>u.keep b o e n (λz=>(zW0 (I.stkSub b z)).elim hL hb) hc) (λb o _ _ hc e n=>u.any e n hc) (λb o hc e n=>u.free b o e n hc) (λb o hc e=>u.there b o e hc) u.tups u.frzs u.tbls (λm' hm=>by
  erw[o',es',ep',ho',r']at hm;rw[ho]at ho';cases ho';erw[_,es',ep',hL,r']) hok hg
theorem Inv.turned{t':Nat}{it:Addr}(I:Inv X pins σ H s)(k:∀b o,b≠it->s.heap.get? b=some o->h'.get? b=some o)(hn:H it=none)(hL:it≠X.env.locals)
 (h1:it∈X.ex∨X.s₀.heap.objs.size<=it) (h2:∀x c,X.env.cells.lookup x=some c->c≠it) (h3:∀p∈X.pn++pins,p.1≠it):Inv X pins σ H { s with heap:=h',toks:=t' }:=by
 have nit:∀b u,H b=some u->b≠it:=λb u e z=>by rw[z,hn]at e;cases e
 refine I.step (g':=s.gens) (d':=s.drawn) (ch:=[it]) (λb hb=>?_) (λb o _ _ hc e _=>k b o (λz=>hc (by simp [z])) e) (λb o _ _ hc e _=>%[o.slots|k b o (λz=>hc (by simp [z])) e]) (λ_ _ _ _ n=>n)
  (λb o hc e=>%[o|k b o (λz=>hc (by simp [z])) e]) (λ_ _ e=>e) (λ_ _ _ e=>e) (λb ps e=>%[#[]|by rw[e];simp]) (λm hm=>?_) (λb u e=>?_) I.bare
 . have e:b=it:=by simpa using hb
   subst e;erw[h1,hL,h2,h3]
 . erw[o,es,ep,ho,r]at hm;erw[o,es,ep,k _ o (Ne.symm hL) ho,r]
 . refine (I.hok b u e).stay (λc v hc q=>k c v ?_ q) (λ_ q=>q) λ_ _ q=>q
   rcases hc with z | z
   . rw[z];exact nit b u e
   . exact nit c _ z
theorem Inv.tok(I:Inv X pins σ H s)(t:Nat):Inv X pins σ H { s with toks:=t }:=I.un (h':=s.heap) (t':=t) Un.refl I.hok
theorem Inv.kept{t':Nat}(I:Inv X pins σ H s)(k:∀b u,s.heap.get? b=some u->h'.get? b=some u):Inv X pins σ H { s with heap:=h',toks:=t' }:=I.un (Un.kept k) (I.hok.kept k)
theorem Inv.laid{a:Addr}{t':Nat}(I:Inv X pins σ H s)(k:∀b u,s.heap.get? b=some u->h'.get? b=some u)(hp:s.heap.objs.size<=a)(new:ObjOk X.prog X.w (upd H a o) h' a o) :
 Inv X pins σ (upd H a o) { s with heap:=h',toks:=t' }:=I.un (Un.laid k hp (I.hok.fresh hp)) (I.hok.laid k hp new)
theorem Inv.write{x e:Addr}{t':Nat}(I:Inv X pins σ H s)(mu:Mut (H x))(he:e=x∨H e=some (.own x))(k:∀b u,b≠e->s.heap.get? b=some u->h'.get? b=some u)(heo:∃u,h'.get? e=some u)
 (new:ObjOk X.prog X.w (upd H x o) h' x o):Inv X pins σ (upd H x o) { s with heap:=h',toks:=t' }:=I.un (Un.write mu he k heo) (I.hok.write mu he k heo new)
theorem Inv.pins_of{pins':List (Addr×Obj)}(I:Inv X pins σ H s)(h:∀p∈pins',s.heap.get? p.1=some p.2/\H p.1=none/\p.1≠X.env.locals/\p.1∉X.fs/\∀v,p.2.data≠.cell v):Inv X pins' σ H s:=
 %[I.ok,I.os,I.bare,I.base,I.loc,I.cell,I.free,I.freeC,λp hp=>(qM0 hp).elim (λz=>I.pin p (List.mem_append_left _ z)) (h p),I.hok|I.len]
theorem vU{N:List Str}(hN:N.Nodup){i j:Nat}{x:Str}(a:N[i]?=some x)(b:N[j]?=some x):i=j:=by
 let%[h1|e1]:=zX0 a;let%[h2|e2]:=zX0 b;exact(List.getElem_inj hN).mp (e1.trans e2.symm)
theorem sM{M:Model}{A:Around}{E:Value->Shared->Prop}{i:Nat}{x:Str}{Q:Unit->Shared->Prop}(I:Inv X pins σ H s)(hN:X.N.Nodup)(hi:X.N[i]?=some x)(hx:Loc X.env.scope x)(r:RelV v u)
 (h:∀s',Inv X pins (σ.set i (some v)) H s'->(∃a,Heap.SameBut a s.heap s'.heap/\(a=X.env.locals∨X.env.cells.lookup x=some a))->Q () s') (hf:X.fn x=true∨X.env.scope.names.lookup x=some .local:=by first | exact .inl rfl | exact .inr rfl | assumption):wpAny M A (storeName X.env x u) Q E s:=by
 let%[m,hn|hl]:=id I.loc;have hcls:(X.env.scope.kind==.class||(X.env.scope.kind==.module&&X.env.locals != X.env.globals))=false:=by rw[I.ok.kind];rfl
 have hiσ:i<σ.length:=by rw[I.len];exact(zX0 hi).1
 have cne:=I.cne;have tracked:∀{a:Addr}{h':Heap},(∃o,s.heap.get? a=some o/\H a=none)->Heap.SameBut a s.heap h'->HOk X.prog X.w H h':=fun{a h'} ha hs b ob e=>by
  erw[_,_,hfree]at ha;refine(I.hok b ob e).stay (λc w' hc q=>(hs.2 c ?_).trans q) (λ_ q=>q) λ_ _ q=>q
  rintro rfl;rcases hc with rfl | hc
  . rw[hfree]at e;cases e
  . rw[hfree]at hc;cases hc
 rcases hx with hk | hk
 . refine wpAny_storeName_local hk hn (λh' hn' hs=>?_) hcls;let%[oL,_,_,hoL|_]:=id hn;refine h _ %[I.ok,I.os,I.bare,%[λb o e n hb hx=>?_,λb o e n hb hx=>?_,I.base.free,λb o e hx=>?_,I.base.tups,I.base.frzs|I.base.tbls],%[_,hn'|λj y v' e1 e2 e3=>?_],λy c e=>?_,I.free,I.freeC,λp hp=>?_,tracked %[oL,hoL|I.free] hs|by simpa using I.len] ⟨_,hs,.inl rfl⟩
   . exact(hs.2 b (zV0 (qO0 (zN0 e) I.ok.above))).trans (I.base.keep b o e n hb hx)
   . let%[sl|e1]:=I.base.slot b o e n hb hx;erw[sl,(hs.2 b (zV0 (qO0 (zN0 e) I.ok.above))).trans e1]
   . let%[o'|e1]:=I.base.there b o e hx;erw[o',(hs.2 b (zV0 (qO0 (zN0 e) I.ok.above))).trans e1]
   . by_cases hj:j=i
     . subst hj;rw[hi]at e1;cases e1;rw[List.getElem?_set_self hiσ]at e2;cases e2;erw[u,r,.inl %[hk|by simp]]
     . rw [List.getElem?_set_ne (Ne.symm hj)]at e2;let%[u',r'|q]:=hl j y v' e1 e2 e3;erw[u',r',6];rcases q with⟨k,e⟩ | ⟨k,c,e,z⟩
       . refine .inl %[k|6]
         have:y≠x:=λe=>hj (vU hN e1 (e▸hi))
         simp [this,e]
       . exact .inr %[k,c,e|z.sameBut hs (cne y c e)]
   . let%[w'|z]:=I.cell y c e;erw[w',z.sameBut hs (cne y c e)]
   . let%[e,n,ne,nf|d]:=I.pin p hp;erw[(hs.2 p.1 ne).trans e,n,ne,nf,d]
 . have hfn:X.fn x=true:=by
    rcases hf with z | z
    . exact z
    . rw[z]at hk;cases hk
   let%[c|hc]:=I.ok.has x (.inl hk);let%[w'|z]:=I.cell x c hc;refine wpAny_storeName_cell I.ok.kind hk hc z (λh' hc' hs=>?_);let%[oc,hoc|hocd]:=id z;refine h { s with heap:=h' } ⟨I.ok,I.os,I.bare,⟨λb o e n hb hx=>?_,λb o e n hb hx=>?_,I.base.free,λb o e hx=>?_,I.base.tups,I.base.frzs,I.base.tbls⟩,%[m,hn.sameBut hs (Ne.symm (cne x c hc))|λj y v' e1 e2 e3=>?_],λy c' e=>?_,I.free,I.freeC,λp hp=>?_,tracked %[oc,hoc|I.freeC x c hc] hs,by simpa using I.len⟩ ⟨c,hs,.inr hc⟩
   . exact(hs.2 b (zV0 (qO0 (zN0 e) (I.ok.cab x c hfn hc)))).trans (I.base.keep b o e n hb hx)
   . let%[sl|e1]:=I.base.slot b o e n hb hx;erw[sl,(hs.2 b (zV0 (qO0 (zN0 e) (I.ok.cab x c hfn hc)))).trans e1]
   . let%[o'|e1]:=I.base.there b o e hx;erw[o',(hs.2 b (zV0 (qO0 (zN0 e) (I.ok.cab x c hfn hc)))).trans e1]
   . by_cases hj:j=i
     . subst hj;rw[hi]at e1;cases e1;rw[List.getElem?_set_self hiσ]at e2;cases e2;erw[u,r,.inr %[.inl hk,c,hc|hc']]
     . rw [List.getElem?_set_ne (Ne.symm hj)]at e2;let%[u',r'|q]:=hl j y v' e1 e2 e3;erw[u',r',6];rcases q with q | ⟨k,c',e,z'⟩
       . exact .inl q
       . refine .inr %[k,c',e|z'.sameBut hs ?_];rintro rfl;exact hj (vU hN e1 (I.ok.inj _ _ _ e hc▸hi))
   . by_cases hcc:c'=c
     . subst hcc;erw[_,hc']
     . let%[w2|z2]:=I.cell y c' e;erw[w2,z2.sameBut hs hcc]
   . let%[e,n,ne,nf|d]:=I.pin p hp;erw[(hs.2 p.1 ?_).trans e,n,ne,nf,d];intro q;rw[q,hoc]at e;have q':oc=p.2:=zT0 e;exact d w' (by rw[←q'];exact hocd)
theorem qo{M:Model}{A:Around}{E:Value->Shared->Prop}{i:Nat}{x:Str}{Q:Unit->Shared->Prop}(I:Inv X pins σ H s)(hN:X.N.Nodup)(hi:X.N[i]?=some x)(hx:Loc X.env.scope x)(r:RelV v u)
 (h:∀s',Inv X pins (σ.set i (some v)) H s'->Q () s') (hf:X.fn x=true∨X.env.scope.names.lookup x=some .local:=by first | exact .inl rfl | exact .inr rfl | assumption):wpAny M A (storeName X.env x u) Q E s:=
 sM I hN hi hx r (λs' I' _=>h s' I') hf
theorem Inv.call'{s':Shared}{ch:List Addr}(I:Inv X pins σ H s)(ho:s'.os=s.os)(u:Un (frs X.stack) ch H H' s.heap s'.heap)(hok:HOk X.prog X.w H' s'.heap)(hg:AllBare s'.gens)
 (hch:∀b∈ch,(b∈X.ex∨X.s₀.heap.objs.size<=b)/\b≠X.env.locals/\(∀x c,X.env.cells.lookup x=some c->c≠b)/\∀p∈X.pn++pins,p.1≠b):Inv X pins σ H' s':=by
 erw[h',g',d',t',o']at s';have e:o'=s.os:=ho;subst e;exact I.call (g':=g') (t':=t') (d':=d') u hok hg hch
end
abbrev XK:=Value->Option Addr->Hp->Prop
abbrev St:=List (Option V)
abbrev VK:=V->Hp->Prop
abbrev TE:=St->Hp->VK->Prop
abbrev TT:=St->Hp->(Bool->Hp->Prop)->Prop
abbrev TA:=St->Hp->(List V->Hp->Prop)->Prop
structure Ends where
 nx:St->Hp->Prop
 rt:VK
 bk:St->Hp->Prop:=λ_ _=>False
 ct:St->Hp->Prop:=λ_ _=>False
abbrev TS:=Ends->St->Hp->Prop
def EP(X:Cx)(pins:List (Addr×Obj))(σ:St)(Q:VK)(u:Value)(s':Shared):Prop:=∃v H',Inv X pins σ H' s'/\RelV v u/\Q v H'
def TP(X:Cx)(pins:List (Addr×Obj))(σ:St)(Q:Bool->Hp->Prop)(b:Bool)(s':Shared):Prop:=∃H',Inv X pins σ H' s'/\Q b H'
def AP(X:Cx)(pins:List (Addr×Obj))(σ:St)(Q:List V->Hp->Prop)(us:List Value)(s':Shared):Prop:=∃vs H',Inv X pins σ H' s'/\Vals vs us/\Q vs H'
def SP(X:Cx)(pins:List (Addr×Obj))(D:Ends)(f:Flow)(s':Shared):Prop:=
 match f with
 | .next=>∃ σ' H',Inv X pins σ' H' s'/\D.nx σ' H'
 | .brk=>∃ σ' H',Inv X pins σ' H' s'/\D.bk σ' H'
 | .cont=>∃ σ' H',Inv X pins σ' H' s'/\D.ct σ' H'
 | .ret u=>∃v σ' H',Inv X pins σ' H' s'/\RelV v u/\D.rt v H'
def PE(X:Cx)(e:Expr)(t:TE):Prop:=
 ∀(pins:List (Addr×Obj))(s:Shared)(σ:St)(H:Hp)(Q:VK),Inv X pins σ H s->t σ H Q->wpAny (model X.prog X.w) X.A (eval e X.env) (EP X pins σ Q) X.xe s
def PT(X:Cx)(e:Expr)(t:TT):Prop:=
 ∀(pins:List (Addr×Obj))(s:Shared)(σ:St)(H:Hp)(Q:Bool->Hp->Prop),Inv X pins σ H s->t σ H Q->wpAny (model X.prog X.w) X.A (isTrue e X.env (eval e X.env)) (TP X pins σ Q) X.xe s
def PW(X:Cx)(e:Expr)(t:TT):Prop:=
 ∀(whole:Sem Value)(pins:List (Addr×Obj))(s:Shared)(σ:St)(H:Hp)(Q:Bool->Hp->Prop),Inv X pins σ H s->t σ H Q->wpAny (model X.prog X.w) X.A (isTrue e X.env whole) (TP X pins σ Q) X.xe s
theorem PW.pt(h:PW X e t):PT X e t:=h _
def PA(X:Cx)(es:List Expr)(t:TA):Prop:=
 ∀(pos:Pos)(pins:List (Addr×Obj))(s:Shared)(σ:St)(H:Hp)(Q:List V->Hp->Prop),Inv X pins σ H s->t σ H Q->wpAny (model X.prog X.w) X.A (spliced (backTo pos (starEach es X.env))) (AP X pins σ Q) X.xe s
def PS(X:Cx)(st:Stmt)(t:TS):Prop:=
 ∀(pins:List (Addr×Obj))(s:Shared)(σ:St)(H:Hp)(D:Ends),Inv X pins σ H s->t D σ H->wpAny (model X.prog X.w) X.A (exec st X.env) (SP X pins D) X.xe s
def PSs(X:Cx)(st:List Stmt)(t:TS):Prop:=
 ∀(pins:List (Addr×Obj))(s:Shared)(σ:St)(H:Hp)(D:Ends),Inv X pins σ H s->t D σ H->wpAny (model X.prog X.w) X.A (execs st X.env) (SP X pins D) X.xe s
theorem thn{α:Type}{t:Sem α}{Q Q':α->Shared->Prop}{M:Model}{A:Around}{E:Value->Shared->Prop}{s:Shared}(h:wpAny M A t Q E s)(hQ:∀a s,Q a s->Q' a s):wpAny M A t Q' E s:=wpAny_mono h hQ λ_ _ x=>x
section
variable {X:Cx}
inductive tVar(i:Nat)(σ:St)(H:Hp)(Q:VK):Prop
 |mk:∀v,σ[i]?=some (some v)->Q v H->tVar i σ H Q
def tC(v:V):TE:=λ_ H Q=>Q v H
theorem Hv {i:Nat} {x:Str} {pos:Pos} (hN:X.N[i]?=some x) (hv:Vis X.env.scope x) (hd:(x==("__debug__":Str))=false:=by decide) (hcd:(x==("__classdict__":Str))=false:=by decide):PE X (.Name x pos) (tVar i):=by
 intro pins s σ H Q I h;erw[v,e,h]at h;erw[m,hn,hl]at I.loc;let%[u,r|l]:=hl i x v hN e hv;have fin:EP X pins σ Q u s:=%[v,H,I,r|h]
 rcases l with⟨hk,hm⟩ | ⟨hk,c,hc,hcell⟩
 . exact wpAny_Name (wpAny_loadName_local I.ok.kind hk hn hm fin) hd
 . rcases hk with hk | hk
   . exact wpAny_Name (wpAny_loadName_cell I.ok.kind hk hc hcell fin) hd
   . exact wpAny_Name (wpAny_loadName_free I.ok.kind hk hc hcell fin hcd) hd
theorem aj{i j pos}:PE X (.Constant (.int i) j pos) (tC (.int i)):=λ_ _ _ H _ I h=>wpAny_Constant_int %[.int i,H,I.tok _,%[|0]|h]
theorem eN{b j pos}:PE X (.Constant (.bool b) j pos) (tC (.bl b)):=λ_ _ _ H _ I h=>Constant_bool %[.bl b,H,I,1|h]
theorem ow{j pos}:PE X (.Constant .none j pos) (tC .non):=λ_ _ _ H _ I h=>Constant_none %[.non,H,I,1|h]
theorem aJ{x j pos}:PE X (.Constant (.str x) j pos) (tC (.str x)):=λ_ _ _ H _ I h=>Calls.Constant_str %[.str x,H,I.tok _,%[|0]|h]
def Gl(X:Cx)(x:Str):Prop:=X.env.kindOf x=some .globalImplicit
theorem pY{E:Value->Shared->Prop}{σ:St}{u:Value}{pos:Pos}{Q:Value->Shared->Prop}(I:Inv X pins σ H s)(hg:Gl X x)(hm:X.mg x=some u)(h:Q u s)
 (hd:(x==("__debug__":Str))=false:=by decide):wpAny (model X.prog X.w) X.A (eval (.Name x pos) X.env) Q E s:=
 Calls.Name_function_global I.ok.kind hg (Calls.loadGlobal_global (by rw[I.ok.glob];exact I.mod.glob.keeps I.bk) hm h) hd
theorem iq{E:Value->Shared->Prop}{σ:St}{u:Value}{pos:Pos}{Q:Value->Shared->Prop}(I:Inv X pins σ H s)(hg:Gl X x)(hm:X.mg x=none)(hv:bootBuiltins x=some u)(h:Q u s)
 (hn:x≠"__name__":=by decide) (hd:(x==("__debug__":Str))=false:=by decide):wpAny (model X.prog X.w) X.A (eval (.Name x pos) X.env) Q E s:=by
 erw[mb,h1,h2]at I.mod.blt;exact Calls.Name_function_global I.ok.kind hg (Calls.loadGlobal_builtin (by rw[I.ok.glob];exact I.mod.glob.keeps I.bk) hm (by rw[I.ok.blt];exact h1.keeps I.bk) ((h2 x hn).trans hv) h) hd
theorem cV   {u:Value} {pos:Pos} (hg:Gl X x) (hm:X.mg x=some u) (r:RelV v u) (hd:(x==("__debug__":Str))=false:=by decide):PE X (.Name x pos) (tC v):=
 λ_ _ _ H _ I h=>pY I hg hm %[v,H,I,r|h] hd
theorem iE   {u:Value} {pos:Pos} (hg:Gl X x) (hm:X.mg x=none) (hv:bootBuiltins x=some u) (r:RelV v u) (hn:x≠"__name__":=by decide) (hd:(x==("__debug__":Str))=false:=by decide):PE X (.Name x pos) (tC v):=
 λ_ _ _ H _ I h=>iq I hg hm hv %[v,H,I,r|h] hn hd
variable {a b:Expr} {ta tb:TE} {pos:Pos}
inductive ZtB(Q:(Bool->Hp->Prop))(x:V)(H1:Hp):Prop
 |mk:∀c,x=.bl c->Q c H1->ZtB Q x H1
def tB(t:TE):TT:=λσ H Q=>t σ H λx H1=>ZtB Q x H1
theorem dY(h:PE X e t)(he:∀whole,isTrue e X.env whole=(do let v ←whole;standAt e.pos;holding [v] (truthy v)):=by intro _;rfl):PT X e (tB t):=by
 intro pins s σ H Q I hw;refine isTrue_plain (thn (h pins s σ H _ I hw) λv s1 ⟨x,H1,I1,r1,q1⟩=>?_) (he _);erw[d,1,q]at q1;cases r1;exact wpAny_truthy_bool %[H1,I1|q]
variable {tA tB':TT} {rest:List Expr}
def tAnd(t u:TT):TT:=λσ H Q=>t σ H λc H1=>if c=true then u σ H1 Q else Q false H1
def tOr(t u:TT):TT:=λσ H Q=>t σ H λc H1=>if c=true then Q true H1 else u σ H1 Q
def tNot(t:TT):TT:=λσ H Q=>t σ H λc H1=>Q (!c) H1
theorem kK(ha:PT X a tA):PW X (.BoolOp .And [a] pos) tA:=by
 intro wh pins s σ H Q I h;refine isTrue_and (thn (ha pins s σ H Q I h) λc s1 e=>?_);cases c with
 | true=>exact isTrue_and_nil e
 | false=>exact e
theorem gy(ha:PT X a tA):PW X (.BoolOp .Or [a] pos) tA:=by
 intro wh pins s σ H Q I h;refine isTrue_or (thn (ha pins s σ H Q I h) λc s1 e=>?_);cases c with
 | false=>exact isTrue_or_nil e
 | true=>exact e
theorem lH(ha:PT X a tA)(hb:PW X (.BoolOp .And (b::rest) pos) tB'):PW X (.BoolOp .And (a::b::rest) pos) (tAnd tA tB'):=by
 intro wh pins s σ H Q I h;refine isTrue_and (thn (ha pins s σ H _ I h) λc s1 ⟨H1,I1,q1⟩=>?_);cases c with
 | true=>exact hb wh pins s1 σ H1 Q I1 q1
 | false=>erw[H1,I1,q1]
theorem ig(ha:PT X a tA)(hb:PW X (.BoolOp .Or (b::rest) pos) tB'):PW X (.BoolOp .Or (a::b::rest) pos) (tOr tA tB'):=by
 intro wh pins s σ H Q I h;refine isTrue_or (thn (ha pins s σ H _ I h) λc s1 ⟨H1,I1,q1⟩=>?_);cases c with
 | true=>erw[H1,I1,q1]
 | false=>exact hb wh pins s1 σ H1 Q I1 q1
theorem gA(ha:PT X a tA):PT X (.UnaryOp .Not a pos) (tNot tA):=by
 intro pins s σ H Q I h;exact isTrue_not (ha pins s σ H (λc H1=>Q (!c) H1) I h)
inductive ZtAndV(tb:TE)(σ:St)(Q:VK)(x:V)(H1:Hp):Prop
 |mk:∀c,x=.bl c->(if c=true then tb σ H1 Q else Q (.bl false) H1)->ZtAndV tb σ Q x H1
def tAndV(ta tb:TE):TE:=λσ H Q=>ta σ H λx H1=>ZtAndV tb σ Q x H1
inductive ZtOrV(tb:TE)(σ:St)(Q:VK)(x:V)(H1:Hp):Prop
 |mk:∀c,x=.bl c->(if c=true then Q (.bl true) H1 else tb σ H1 Q)->ZtOrV tb σ Q x H1
def tOrV(ta tb:TE):TE:=λσ H Q=>ta σ H λx H1=>ZtOrV tb σ Q x H1
inductive ZtNotV(Q:VK)(x:V)(H1:Hp):Prop
 |mk:∀c,x=.bl c->Q (.bl (!c)) H1->ZtNotV Q x H1
def tNotV(ta:TE):TE:=λσ H Q=>ta σ H λx H1=>ZtNotV Q x H1
theorem ou{op}(h:PE X a t):PE X (.BoolOp op [a] pos) t:=λpins s σ H Q I hw=>BoolOp_one (h pins s σ H Q I hw)
theorem lJ(ha:PE X a ta)(hb:PE X (.BoolOp .And (b::rest) pos) tb):PE X (.BoolOp .And (a::b::rest) pos) (tAndV ta tb):=by
 intro pins s σ H Q I h;refine BoolOp_and (thn (ha pins s σ H _ I h) λv s1 ⟨x,H1,I1,r1,q1⟩=>?_);erw[c,1,q1]at q1;cases r1;refine wpAny_truthy_bool ?_;cases c with
 | true=>exact hb pins s1 σ H1 Q I1 q1
 | false=>erw[.bl false,H1,I1,1,q1]
theorem pe_or(ha:PE X a ta)(hb:PE X (.BoolOp .Or (b::rest) pos) tb):PE X (.BoolOp .Or (a::b::rest) pos) (tOrV ta tb):=by
 intro pins s σ H Q I h;refine BoolOp_or (thn (ha pins s σ H _ I h) λv s1 ⟨x,H1,I1,r1,q1⟩=>?_);erw[c,1,q1]at q1;cases r1;refine wpAny_truthy_bool ?_;cases c with
 | false=>exact hb pins s1 σ H1 Q I1 q1
 | true=>erw[.bl true,H1,I1,1,q1]
theorem xU(ha:PE X a ta):PE X (.UnaryOp .Not a pos) (tNotV ta):=by
 intro pins s σ H Q I h;refine UnaryOp_ (thn (ha pins s σ H _ I h) λv s1 ⟨x,H1,I1,r1,q1⟩=>?_);erw[c,1,q1]at q1;cases r1;exact not_of (wpAny_truthy_bool %[.bl (!c),H1,I1,1|q1])
def tIf(t:TT)(ta tb:TE):TE:=λσ H Q=>t σ H λc H1=>if c=true then ta σ H1 Q else tb σ H1 Q
theorem vJ(hc:PT X c tA)(ha:PE X a ta)(hb:PE X b tb):PE X (.IfExp c a b pos) (tIf tA ta tb):=by
 intro pins s σ H Q I h;refine wpAny_IfExp (thn (hc pins s σ H _ I h) λd s1 ⟨H1,I1,q1⟩=>?_);cases d with
 | true=>exact ha pins s1 σ H1 Q I1 q1
 | false=>exact hb pins s1 σ H1 Q I1 q1
end
def SqL(K:W.Frag)(H:Hp)(a:Addr)(xs:List V):Prop:=
 Rd H a (.lst xs)∨
  ∃(o:Obj) (its:Array Value) (n:Nat),K.lookup a=some o/\o.cls=.type "list"/\o.dict=none/\o.data=.seq its n/\its.size<=sizeLine/\Vals xs its.toList
def SqT(K:W.Frag)(H:Hp)(a:Addr)(xs:List V):Prop:=
 Rd H a (.tup xs)∨
  ∃(o:Obj) (its:Array Value) (n:Nat),K.lookup a=some o/\o.cls=.type "tuple"/\o.data=.seq its n/\its.size<=sizeLine/\Vals xs its.toList
def absV:Value->Option V
 | .none=>some .non
 | .bool b=>some (.bl b)
 | .int i _=>some (.int i)
 | .str x _=>some (.str x)
 | .bytes b _=>some (.byt b)
 | .float b _=>some (.flt b)
 | .ref a=>some (.ref a)
 | .type n=>some (.ty n)
 | _=>none
theorem RelV.abs(r:RelV x u):absV u=some x:=by
 cases x with
 | non=>cases r;rfl
 | bl _=>cases r;rfl
 | int _=>erw[t,1]at r;rfl
 | str _=>erw[t,1]at r;rfl
 | byt _=>erw[t,1]at r;rfl
 | flt _=>erw[t,1]at r;rfl
 | ref _=>cases r;rfl
 | ty _=>cases r;rfl
theorem RelV.inj(r:RelV x u)(q:RelV y u):x=y:=zT0 (r.abs.symm.trans q.abs)
theorem Vals.inj:∀{xs ys:List V}{us:List Value},Vals xs us->Vals ys us->xs=ys
 | _,_,_,.nil,.nil=>rfl
 | _,_,_,.cons r t,.cons r' t'=>by rw[r.inj r',Vals.inj t t']
section
variable {X:Cx} {pins:List (Addr×Obj)} {σ:St} {H:Hp} {s:Shared} {a:Addr} {xs ys:List V}
theorem zH0{K:W.Frag}(h:H a=some (.lst xs)):SqL K H a xs:=.inl (.inl h)
abbrev SqL.of:=@zH0
theorem zB0{K:W.Frag}(h:H a=some (.tup xs)):SqT K H a xs:=.inl (.inl h)
abbrev SqT.of:=@zB0
theorem Inv.list(I:Inv X pins σ H s)(h:SqL X.K H a xs):∃its:List Value,Vals xs its/\PlainL s.heap a its.toArray/\xs.length<=sizeLine:=by
 rcases h with h | ⟨o,its,n,hk,hc,hd,hs,hz,r⟩
 . let%[z,its,n,r|e]:=h.ok I.hok;erw[its,r,%[_,n,e,1,1|1],z]
 . erw[its.toList,r,%[o,n,I.kIn a o hk,hc,hd|by simpa using hs],6];have e:=r.length;simp only[Array.length_toList]at e;omega
theorem Inv.tuple(I:Inv X pins σ H s)(h:SqT X.K H a xs):∃its:List Value,Vals xs its/\IsTup s.heap a its.toArray/\xs.length<=sizeLine:=by
 rcases h with h | ⟨o,its,n,hk,hc,hs,hz,r⟩
 . let%[z,its,r,p|_]:=h.ok I.hok;erw[its,r,p,z]
 . erw[its.toList,r,%[o,I.kIn a o hk,hc,n|by simpa using hs],6];have e:=r.length;simp only[Array.length_toList]at e;omega
theorem Inv.list_inj(I:Inv X pins σ H s)(h:SqL X.K H a xs)(h':SqL X.K H a ys):xs=ys:=by
 let%[its,r,%[o,n,e,_,_|d]|_]:=I.list h;let%[its',r',%[o',n',e',_,_|d']|_]:=I.list h';rw[e]at e';cases e';rw[d]at d';injection d' with d1 _
 have:its=its':=by simpa using congrArg Array.toList d1
 subst this;exact r.inj r'
theorem Inv.tuple_inj(I:Inv X pins σ H s)(h:SqT X.K H a xs)(h':SqT X.K H a ys):xs=ys:=by
 let%[its,r,%[o,e,_,n|d]|_]:=I.tuple h;let%[its',r',%[o',e',_,n'|d']|_]:=I.tuple h';rw[e]at e';cases e';rw[d]at d';injection d' with d1 _
 have:its=its':=by simpa using congrArg Array.toList d1
 subst this;exact r.inj r'
end
abbrev Cx.wish(X:Cx)(E:Value->Shared->Prop):Cx:={ X with xe:=E }
abbrev Cx.nox(X:Cx):Cx:=X.wish λ_ _=>False
theorem Cx.Ok.wish{X:Cx}(ok:X.Ok)(E:Value->Shared->Prop):(X.wish E).Ok:=
 %[ok.mod,ok.kind,ok.glob,ok.blt,ok.above,ok.inj,ok.has,ok.cab,ok.hd,ok.frames,ok.stk,ok.exf,ok.bs,ok.bsz,ok.noex,ok.exfs,ok.funs|ok.frf]
theorem Cx.Ok.unwish{X:Cx}{E:Value->Shared->Prop}(ok:(X.wish E).Ok):X.Ok:=
 %[ok.mod,ok.kind,ok.glob,ok.blt,ok.above,ok.inj,ok.has,ok.cab,ok.hd,ok.frames,ok.stk,ok.exf,ok.bs,ok.bsz,ok.noex,ok.exfs,ok.funs|ok.frf]
section
variable {X:Cx} {pins:List (Addr×Obj)} {σ:St} {H:Hp} {s:Shared} {E:Value->Shared->Prop}
theorem Inv.wish(I:Inv X pins σ H s)(E:Value->Shared->Prop):Inv (X.wish E) pins σ H s:=%[I.ok.wish E,I.os,I.bare,I.base,I.loc,I.cell,I.free,I.freeC,I.pin,I.hok|I.len]
theorem Inv.unwish(I:Inv (X.wish E) pins σ H s):Inv X pins σ H s:=%[I.ok.unwish,I.os,I.bare,I.base,I.loc,I.cell,I.free,I.freeC,I.pin,I.hok|I.len]
theorem SP.unwish(h:SP (X.wish E) pins D f s'):SP X pins D f s':=by
 cases f with
 | next=>erw[σ',H',I,q]at h;erw[σ',H',I.unwish,q]
 | brk=>erw[σ',H',I,q]at h;erw[σ',H',I.unwish,q]
 | cont=>erw[σ',H',I,q]at h;erw[σ',H',I.unwish,q]
 | ret u=>erw[v,σ',H',I,r,q]at h;erw[v,σ',H',I.unwish,r,q]
theorem PSs.nox{st:List Stmt}(h:PSs X.nox st t):PSs X st t:=λpins s σ H D I hw=>
 wpAny_mono (h pins s σ H D (I.wish _) hw) (λ_ _ q=>q.unwish) λ_ _ z=>False.elim z
end
section
variable {X:Cx} {st:Stmt} {rest:List Stmt} {t u:TS} {e:Expr} {te:TE} {pos:Pos}
def tNext:TS:=λD σ H=>D.nx σ H
def tSeq(t u:TS):TS:=λD σ H=>t { D with nx:=u D } σ H
theorem aF:PSs X [] tNext:=λ_ _ σ H _ I h=>wpAny_execs_nil %[σ,H,I|h]
theorem ae(h1:PS X st t)(h2:PSs X rest u):PSs X (st::rest) (tSeq t u):=by
 intro pins s σ H D I h;refine wpAny_execs_cons (thn (h1 pins s σ H { D with nx:=u D } I h) λf s1 q=>?_);cases f with
 | next=>
   erw[σ',H',I',q]at q;exact h2 pins s1 σ' H' D I' q
 | ret v=>exact q
 | brk=>exact q
 | cont=>exact q
theorem ai(h1:PS X st t):PSs X [st] t:=by
 intro pins s σ H D I h;refine wpAny_execs_cons (thn (h1 pins s σ H D I h) λf s1 q=>?_);cases f with
 | next=>exact wpAny_execs_nil q
 | ret v=>exact q
 | brk=>exact q
 | cont=>exact q
theorem Inv.quiet{σ:St}(I:Inv X pins σ H s):interactive X.env=false:=by simp [interactive,I.ok.kind]
def tDrop(te:TE):TS:=λD σ H=>te σ H λ_ H1=>D.nx σ H1
theorem ba(he:PE X e te)(hs:swapsWith e none pos.line X.env=pure false:=by rfl):PS X (.Expr e pos) (tDrop te):=by
 intro pins s σ H D I h;exact wpAny_Expr_any (thn (he pins s σ H _ I h) λv s1 ⟨x,H1,I1,r1,q1⟩=>%[σ,H1,I1|q1]) I.quiet hs
def tRet(te:TE):TS:=λD σ H=>te σ H D.rt
theorem au(he:PE X e te):PS X (.Return (some e) pos) (tRet te):=by
 intro pins s σ H D I h;exact wpAny_Return_some (thn (he pins s σ H _ I h) λv s1 ⟨x,H1,I1,r1,q1⟩=>%[x,σ,H1,I1,r1|q1])
def tIfS(c:TT)(t u:TS):TS:=λD σ H=>c σ H λb H1=>if b=true then t D σ H1 else u D σ H1
theorem aO(hc:PT X c tc)(ha:PSs X a t)(hb:PSs X b u):PS X (.If c a b pos) (tIfS tc t u):=by
 intro pins s σ H D I h;refine wpAny_If (thn (hc pins s σ H _ I h) λd s1 ⟨H1,I1,q1⟩=>?_);cases d with
 | true=>exact ha pins s1 σ H1 D I1 q1
 | false=>exact hb pins s1 σ H1 D I1 q1
def Hc:TS:=λ_ _ _=>False
theorem bq:PSs X sts Hc:=λ_ _ _ _ _ _ h=>h.elim
end
abbrev TG:=V->St->Hp->(St->Hp->Prop)->Prop
abbrev TGs:=List V->St->Hp->(St->Hp->Prop)->Prop
def PG(X:Cx)(target:Expr)(t:TG):Prop:=
 ∀(pins:List (Addr×Obj))(s:Shared)(σ:St)(H:Hp)(v:V)(u:Value)(Q:St->Hp->Prop),Inv X pins σ H s->RelV v u->t v σ H Q ->
  wpAny (model X.prog X.w) X.A (assign target X.env u) (λ_ s'=>∃ σ' H',Inv X pins σ' H' s'/\Q σ' H') X.xe s
def PGs(X:Cx)(ts:List Expr)(t:TGs):Prop:=
 ∀(pins:List (Addr×Obj))(s:Shared)(σ:St)(H:Hp)(vs:List V)(us:List Value)(Q:St->Hp->Prop),Inv X pins σ H s->Vals vs us->t vs σ H Q ->
  wpAny (model X.prog X.w) X.A (assignInOrder ((assignEach ts X.env).map (·.2)) us) (λ_ s'=>∃ σ' H',Inv X pins σ' H' s'/\Q σ' H') X.xe s
abbrev IA:=V->V->V->Hp->(Hp->Prop)->Prop
def PSet(X:Cx)(t:IA):Prop:=
 ∀(pins:List (Addr×Obj))(s:Shared)(σ:St)(H:Hp)(o i v:V)(ov iv u:Value)(Q:Hp->Prop),Inv X pins σ H s->RelV o ov->RelV i iv->RelV v u->t o i v H Q ->
  wpAny (model X.prog X.w) X.A (setItem ov iv u) (λ_ s'=>∃H',Inv X pins σ H' s'/\Q H') X.xe s
section
variable {X:Cx} {pos:Pos}
def wA(i:Nat):TG:=λv σ H Q=>Q (σ.set i (some v)) H
theorem bt{i:Nat}{x:Str}(hN:X.N.Nodup)(hi:X.N[i]?=some x)(hx:Loc X.env.scope x)(hf:X.fn x=true∨X.env.scope.names.lookup x=some .local:=by first | exact .inl rfl | exact .inr rfl | assumption):PG X (.Name x pos) (wA i):=by
 intro pins s σ H v u Q I r h;exact wpAny_assign_Name (qo I hN hi hx r (λs' I'=>%[_,H,I'|h]) hf)
inductive gNil(vs:List V)(σ:St)(H:Hp)(Q:(St->Hp->Prop)):Prop
 |mk:vs=[]->Q σ H->gNil vs σ H Q
inductive gCons(t:TG)(u:TGs)(vs:List V)(σ:St)(H:Hp)(Q:(St->Hp->Prop)):Prop
 |mk:∀v r,vs=v::r->(t v σ H λσ' H'=>u r σ' H' Q)->gCons t u vs σ H Q
theorem pT:PGs X [] gNil:=by
 intro pins s σ H vs us Q I r h;erw[e,h]at h;subst e;cases r;exact assignInOrder_nil %[σ,H,I|h]
theorem fV(h1:PG X e t)(h2:PGs X es u)
 (hs:(assignEach (e::es) X.env).map (·.2)=assign e X.env::(assignEach es X.env).map (·.2):=by rfl):PGs X (e::es) (gCons t u):=by
 intro pins s σ H vs us Q I r h;erw[v,vr,e1,h]at h;subst e1;cases r with
 | cons r rr=>
   rw[hs];refine assignInOrder_cons (thn (h1 pins s σ H _ _ _ I r h) λ_ s1 ⟨σ1,H1,I1,q1⟩=>?_);exact h2 pins s1 σ1 H1 _ _ Q I1 rr q1
inductive gTup(K:W.Frag)(n:Nat)(t:TGs)(v:V)(σ:St)(H:Hp)(Q:(St->Hp->Prop)):Prop
 |mk:∀a xs,v=.ref a->SqT K H a xs->xs.length=n->t xs σ H Q->gTup K n t v σ H Q
theorem uH{k:Nat}{n:Nat}(hc:X.calm=true)(h:PGs X es t)
 (hn:(assignEach es X.env).length=n:=by rfl) (hst:(assignEach es X.env).findIdx? (·.1)=none:=by rfl):PG X (.Tuple es k pos) (gTup X.K n t):=by
 intro pins s σ H v u Q I r hw;erw[a,xs,e1,hq,hl,hw]at hw;subst e1;cases r;let%[its,rv,ht|hz]:=I.tuple hq;refine assign_Tuple_tuple (I.ok.hd hc) ht (by simp [hn,←hl,rv.length]) hst λh' hx=>?_
 have I1:Inv X pins σ H { s with heap:=h' }:=I.kept (t':=s.toks) λb o e=>hx b o (zV0 (zN0 e)) e
 exact h pins _ σ H xs _ Q I1 (by simpa using rv) hw
def gSub(to ti:TE)(t:IA):TG:=λv σ H Q=>to σ H λo H1=>ti σ H1 λi H2=>t o i v H2 λH3=>Q σ H3
theorem xT(ho:PE X o to)(hi:PE X i ti)(hs:PSet X t)
 (ha:∀v,assign (.Subscript o i pos) X.env v=(do
  let ov ←holding [v] (eval o X.env)
  let iv ←holding [v,ov] (eval i X.env)
  standAt pos
  holding [v,ov,iv] (setItem ov iv v)
  release [v,ov,iv] []):=by intro _;rfl):PG X (.Subscript o i pos) (gSub to ti t):=by
 intro pins s σ H v u Q I r h;rw[ha];refine zD0 (wpAny_holding (thn (ho pins s σ H _ I h) λov s1 ⟨x,H1,I1,r1,q1⟩=>?_));refine zD0 (wpAny_holding (thn (hi pins s1 σ H1 _ I1 q1) λiv s2 ⟨y,H2,I2,r2,q2⟩=>?_));refine zD0 (wpAny_standAt (zD0 (wpAny_holding (thn (hs pins s2 σ H2 x y v ov iv u _ I2 r1 r2 r q2) λ_ s3 ⟨H3,I3,q3⟩=>?_))));exact wpAny_release %[σ,H3,I3|q3]
def Hg(te:TE)(g:TG):TS:=λD σ H=>te σ H λx H1=>g x σ H1 D.nx
theorem xN(he:PE X e te)(hg:PG X tg g)(hs:swapsWithSole [tg] e pos.line X.env=pure false:=by rfl)(hw:swappedStores [tg] e X.env=pure none:=by rfl)
 (h1:(assignEach [tg] X.env).map (·.2)=[assign tg X.env]:=by rfl):PS X (.Assign [tg] e pos) (Hg te g):=by
 intro pins s σ H D I h;refine wpAny_Assign_stores (thn (he pins s σ H _ I h) λv s1 ⟨x,H1,I1,r1,q1⟩=>?_) hs hw;rw[h1];exact thn (hg pins s1 σ H1 x v _ I1 r1 q1) λ_ s2 q=>q
theorem ax{i:Nat}{x:Str}{pos':Pos}(hN:X.N.Nodup)(hi:X.N[i]?=some x)(hx:Loc X.env.scope x)(he:PE X e te)(hs:swapsWith e (some (.Name x pos')) pos.line X.env=pure false:=by rfl)(hf:X.fn x=true∨X.env.scope.names.lookup x=some .local:=by first | exact .inl rfl | exact .inr rfl | assumption) :
 PS X (.Assign [.Name x pos'] e pos) (Hg te (wA i)):=by
 intro pins s σ H D I h;refine wpAny_Assign_Name (thn (he pins s σ H _ I h) λv s1 ⟨y,H1,I1,r1,q1⟩=>?_) hs;exact qo I1 hN hi hx r1 (λs2 I2=>%[_,H1,I2|q1]) hf
end
section
variable {X:Cx} {pos:Pos}
def BU(c:TT)(tb:TS):TS:=λD σ H=>∃W:Nat->St->Hp->Prop,(∃m,W m σ H)/\∀m σ H,W m σ H ->
 c σ H λb H1=>if b=true then ∃N:St->Hp->Prop,(∀ σ' H',N σ' H'->∃m',m'<m/\W m' σ' H')/\tb { D with nx:=N,ct:=N,bk:=D.nx } σ H1 else D.nx σ H1
theorem ik(hp:PassesOwn (model X.prog X.w) X.A X.env X.xe)(hc:PT X c tc)(hb:PSs X body tb):PS X (.While c body [] pos) (BU tc tb):=by
 intro pins s σ H D I h;erw[W,%[m0|w0],turn]at h;refine wpAny_While (codeAny_whileLoop (λn s'=>∃ σ' H',Inv X pins σ' H' s'/\W n σ' H') ?_ m0 %[σ,H,I|w0]);rintro n s1 ⟨σ1,H1,I1,w1⟩;refine wpAny_passesOwn hp (thn (hc pins s1 σ1 H1 _ I1 (turn n σ1 H1 w1)) λb s2 ⟨H2,I2,q2⟩=>?_);cases b with
 | true=>
   erw[N,hN,q2]at q2;rw[zC0 rfl];refine wpAny_passesOwn hp (thn (hb pins s2 σ1 H2 _ I2 q2) λf s3 q3=>?_);cases f with
   | next=>
     erw[σ3,H3,I3,n3]at q3;let%[m',hm|w3]:=hN σ3 H3 n3;erw[m',hm,σ3,H3,I3,w3]
   | cont=>
     erw[σ3,H3,I3,n3]at q3;let%[m',hm|w3]:=hN σ3 H3 n3;erw[m',hm,σ3,H3,I3,w3]
   | brk=>exact q3
   | ret v=>exact q3
 | false=>
   rw[zA0 qD0];exact wpAny_execs_nil %[σ1,H2,I2|q2]
end
structure It where
 go:Nat->Hp->Prop
 yld:Nat->Hp->V->Hp->Prop
 stop:Nat->Hp->Prop
def jH(X:Cx)(pins:List (Addr×Obj))(H:Hp)(b:Addr):Prop:=
 H b=none/\b≠X.env.locals/\b∉X.fs/\(b∈X.ex∨X.s₀.heap.objs.size<=b)/\(∀x c,X.env.cells.lookup x=some c->c≠b)/\∀p∈X.pn++pins,p.1≠b
theorem Inv.fpOk{σ:St}{H':Hp}{b:Addr}(I:Inv X pins σ H s)(hb:s.heap.objs.size<=b)(hn:H' b=none):jH X pins H' b:=by
 erw[hn,Nat.ne_of_gt (qO0 I.lt hb),I.nofs hb,.inr (zP0 I.sz hb),λx c e z=>?_,λp hp z=>?_]
 . let%[v|q]:=I.cell x c e;exact absurd (qO0 q.lt (by rw[z];exact hb)) (qU0 _)
 . exact absurd (qO0 (zN0 (I.pin p hp).1) (by rw[z];exact hb)) (qU0 _)
structure Turn(P:Program)(w:World)(K:W.Frag)(tg:Expr)(J:It)(fp:List Addr)(it:Addr)(tn:Nat->Heap->Prop):Prop where
 mem:it∈fp
 obj:∀i h,tn i h->∀b∈fp,∃o,h.get? b=some o/\∀v,o.data≠.cell v
 keep:∀i h h',tn i h->(∀b∈fp,∀o,h.get? b=some o->h'.get? b=some o)->tn i h'
 item:∀(X:Cx),X.prog=P->X.w=w->X.K=K->X.calm=true->∀(i:Nat)(pins:List (Addr×Obj))(s:Shared)(σ:St)(H:Hp)(E:Value->Shared->Prop),Inv X pins σ H s->(∀b∈fp,jH X pins H b)->tn i s.heap->J.go i H ->
  wpAny (model P w) X.A (pyNext (.ref it)) (λr s1=>∃u,r=some u/\
   wpAny (model P w) X.A (letOwnedTupleGo tg (.ref it) u) (λ_ s2=>∃x H',Inv X pins σ H' s2/\RelV x u/\J.yld i H x H'/\tn (i+1) s2.heap/\∀b∈fp,H' b=none) E s1) E s
 done:∀(X:Cx),X.prog=P->X.w=w->X.K=K->X.calm=true->∀(i:Nat)(pins:List (Addr×Obj))(s:Shared)(σ:St)(H:Hp)(E:Value->Shared->Prop),Inv X pins σ H s->(∀b∈fp,jH X pins H b)->tn i s.heap->J.stop i H ->
  wpAny (model P w) X.A (pyNext (.ref it)) (λr s1=>r=none/\Inv X pins σ H s1) E s
 self:∀(A:Around)(i:Nat)(s:Shared)(Q:Value->Shared->Prop)(E:Value->Shared->Prop),tn i s.heap->Q (.ref it) s->wpAny (model P w) A (pyIter (.ref it)) Q E s
abbrev TI:=St->Hp->(It->Hp->Prop)->Prop
def PIE(X:Cx)(pins:List (Addr×Obj))(σ:St)(tg:Expr)(R:It->Hp->Prop)(itv:Value)(s2:Shared):Prop:=
 ∃(it:Addr)(fp:List Addr)(tn:Nat->Heap->Prop)(J:It)(H':Hp),itv=.ref it/\Inv X pins σ H' s2/\Turn X.prog X.w X.K tg J fp it tn/\tn 0 s2.heap/\(∀b∈fp,jH X pins H' b)/\R J H'
def PI(X:Cx)(tg iter:Expr)(wi:TI):Prop:=
 ∀(pins:List (Addr×Obj))(s:Shared)(σ:St)(H:Hp)(R:It->Hp->Prop),Inv X pins σ H s->wi σ H R ->
  wpAny (model X.prog X.w) X.A (eval iter X.env) (λv s1=>wpAny (model X.prog X.w) X.A (pyIter v) (PIE X pins σ tg R) X.xe s1) X.xe s
theorem wy{M:Model}{A:Around}{E:Value->Shared->Prop}{s:Shared}{tg:Expr}{it:Addr}{u:Value}{o:Obj}{n:String}{vs:Array Value}{Q:Unit->Shared->Prop}(ho:s.heap.get? it=some o)(hc:o.cls=.type n)(hd:o.data=.fields vs)
 (hn:["enumerate","zip","dict_itemiterator","dict_reverseitemiterator","odict_iterator","itertools.zip_longest","itertools.pairwise"].contains n=false) (hQ:Q () s):wpAny M A (letOwnedTupleGo tg (.ref it) u) Q E s:=by
 unfold letOwnedTupleGo;cases tg <;> first
  | exact zI0 hQ
  | (cases u <;> first
   | exact zI0 hQ
   | (refine zD0 (wpAny_load ho ?_)
      rw[hc,hd];show wpAny M A (if(["enumerate","zip","dict_itemiterator","dict_reverseitemiterator","odict_iterator","itertools.zip_longest","itertools.pairwise"].contains n&&vs[0]?==some (rawInt _))=true then _ else _) Q E s;rw[zA0 (by intro h;rw[hn,Bool.false_and]at h;cases h)];exact zI0 hQ))
def Itl(K:W.Frag)(a:Addr):It:=
 ⟨λi H=>∃xs x,SqL K H a xs/\xs[i]?=some x,λi H x H'=>H'=H/\∀xs,SqL K H a xs->xs[i]?=some x,λi H=>∃xs,SqL K H a xs/\xs.length<=i⟩
def Itt(K:W.Frag)(a:Addr):It:=
 ⟨λi H=>∃xs x,SqT K H a xs/\xs[i]?=some x,λi H x H'=>H'=H/\∀xs,SqT K H a xs->xs[i]?=some x,λi H=>∃xs,SqT K H a xs/\xs.length<=i⟩
def Itr(lo:Int)(n:Nat):It:=%[λi _=>i<n,λi H x H'=>H'=H/\x=.int (lo+i)|λi _=>n<=i]
theorem zU{K:W.Frag}(a it:Addr):Turn P w K tg (Itl K a) [it] it (λi h=>h.IsListIter it a i) where
 mem:=by simp
 obj:=λi h st b hb=>by
  have e:b=it:=by simpa using hb
  subst e;erw[o,e,c,d]at st;erw[o,e,λv z=>by rw[d]at z;cases z]
 keep:=λi h h' st k=>st.at λo e=>k it (by simp) o e
 item:=by
  intro X hP hw hK hc i pins s σ H E I hf st hg;subst hP hw hK;erw[xs,x,hq,hx]at hg;let%[its,rv,p|hz]:=I.list hq;let%[u,hu|ru]:=rv.get hx;let%[f0,f1,f2,f3,f4|f5]:=hf it (by simp);refine wpAny_pyNext_list_item st p.isList (x:=u) (by simpa using hu) λh' st' sb=>?_
  have I1:Inv X pins σ H { s with heap:=h' }:=I.turned (t':=s.toks) (λb o hb e=>(sb.2 b hb).trans e) f0 f1 f3 f4 f5;let%[o,e,c|d]:=id st';erw[u,1,wy (s:={ s with heap:=h' }) e c d ⋯ ⟨x,H,I1,ru,⟨rfl,λys hy=>by rw[I.list_inj hy hq];exact hx⟩,st',λb hb=>(hf b hb).1⟩]
 done:=by
  intro X hP hw hK hc i pins s σ H E I hf st hg;subst hP hw hK;erw[xs,hq,hx]at hg;let%[its,rv,p|hz]:=I.list hq;let%[f0,f1,f2,f3,f4|f5]:=hf it (by simp);have hl:=rv.length;exact wpAny_pyNext_list_end (I.ok.hd hc) st p.isList (by simp;omega) λh' eb=>%[1|I.turned (t':=s.toks) (λb o hb e=>eb b o hb e) f0 f1 f3 f4 f5]
 self:=λ_ _ _ _ _ st h=>wpAny_pyIter_listiter st h
theorem wY{K:W.Frag}(a it:Addr):Turn P w K tg (Itt K a) [it] it (λi h=>h.IsTupleIter it a i) where
 mem:=by simp
 obj:=λi h st b hb=>by
  have e:b=it:=by simpa using hb
  subst e;erw[o,e,c,d]at st;erw[o,e,λv z=>by rw[d]at z;cases z]
 keep:=λi h h' st k=>st.at λo e=>k it (by simp) o e
 item:=by
  intro X hP hw hK hc i pins s σ H E I hf st hg;subst hP hw hK;erw[xs,x,hq,hx]at hg;let%[its,rv,p|hz]:=I.tuple hq;let%[u,hu|ru]:=rv.get hx;let%[f0,f1,f2,f3,f4|f5]:=hf it (by simp);refine wpAny_pyNext_tuple_item st (show s.heap.IsTuple a its.toArray from p) (x:=u) (by simpa using hu) λh' st' sb=>?_
  have I1:Inv X pins σ H { s with heap:=h' }:=I.turned (t':=s.toks) (λb o hb e=>(sb.2 b hb).trans e) f0 f1 f3 f4 f5;let%[o,e,c|d]:=id st';erw[u,1,wy (s:={ s with heap:=h' }) e c d ⋯ ⟨x,H,I1,ru,⟨rfl,λys hy=>by rw[I.tuple_inj hy hq];exact hx⟩,st',λb hb=>(hf b hb).1⟩]
 done:=by
  intro X hP hw hK hc i pins s σ H E I hf st hg;subst hP hw hK;erw[xs,hq,hx]at hg;let%[its,rv,p|hz]:=I.tuple hq;let%[f0,f1,f2,f3,f4|f5]:=hf it (by simp);have hl:=rv.length;exact wpAny_pyNext_tuple_end (I.ok.hd hc) st (show s.heap.IsTuple a its.toArray from p) (by simp;omega) λh' eb=>%[1|I.turned (t':=s.toks) (λb o hb e=>eb b o hb e) f0 f1 f3 f4 f5]
 self:=λ_ _ _ _ _ st h=>wpAny_pyIter_tupleiter st h
theorem wZ{K:W.Frag}(it:Addr)(lo:Int)(n:Nat):Turn P w K tg (Itr lo n) [it] it (λi h=>IsRangeIter h it (lo+(i:Nat)*1) ((n:Int)-(i:Nat)) 1) where
 mem:=by simp
 obj:=λi h st b hb=>by
  have e:b=it:=by simpa using hb
  subst e;exact⟨_,st,λv z=>by
   have z':Data.fields _=Data.cell v:=z;cases z'⟩
 keep:=λi h h' st k=>k it (by simp) _ st
 item:=by
  intro X hP hw hK hc i pins s σ H E I hf st hg;subst hP hw hK;let%[f0,f1,f2,f3,f4|f5]:=hf it (by simp);have W:=Walks.range (prog:=X.prog) (w:=X.w) (I.ok.hd hc) it lo 1 n;refine W.item i s _ _ hg st λv h' tk hv st' kk=>?_
  erw[t,1]at hv;have I1:Inv X pins σ H { s with heap:=h',toks:=tk }:=I.turned (λb o hb e=>kk b o (by simpa using hb) e) f0 f1 f3 f4 f5;erw[0,wy (s:={ s with heap:=h',toks:=tk }) (n:="range_iterator") st' rfl rfl ⋯ ⟨.int (lo+i),H,I1,⟨t,?_⟩,⟨rfl,rfl⟩,st',λb hb=>(hf b hb).1⟩];rw[Int.mul_one]
 done:=by
  intro X hP hw hK hc i pins s σ H E I hf st hg;subst hP hw hK;let%[f0,f1,f2,f3,f4|f5]:=hf it (by simp);exact wpAny_pyNext_range_end (I.ok.hd hc) st (by have:n<=i:=hg;omega) λh' eb=>%[1|I.turned (t':=s.toks) (λb o hb e=>eb b o hb e) f0 f1 f3 f4 f5]
 self:=λ_ _ _ _ _ st h=>wpAny_pyIter_rangeiter st h
section
variable {X:Cx} {tg:Expr}
inductive ZiList(K:W.Frag)(R:(It->Hp->Prop))(x:V)(H1:Hp):Prop
 |mk:∀a,x=.ref a->(∃xs,SqL K H1 a xs)->R (Itl K a) H1->ZiList K R x H1
def iList(K:W.Frag)(tl:TE):TI:=λσ H R=>tl σ H λx H1=>ZiList K R x H1
inductive ZiTup(K:W.Frag)(R:(It->Hp->Prop))(x:V)(H1:Hp):Prop
 |mk:∀a,x=.ref a->(∃xs,SqT K H1 a xs)->R (Itt K a) H1->ZiTup K R x H1
def iTup(K:W.Frag)(tl:TE):TI:=λσ H R=>tl σ H λx H1=>ZiTup K R x H1
theorem gI(hl:PE X l tl):PI X tg l (iList X.K tl):=by
 intro pins s σ H R I h;refine thn (hl pins s σ H _ I h) λv s1 ⟨x,H1,I1,r1,q1⟩=>?_
 erw[a,e,%[xs|hq],q]at q1;subst e;cases r1;let%[its,rv,p|hz]:=I1.list hq;refine wpAny_pyIter_list p.isList ?_;erw[s1.heap.objs.size,[s1.heap.objs.size],_,_,H1,1,I1.kept (t':=s1.toks) λb o e=>zR0 _ e,zU a _,%[_,qA0 _ rfl,1|1],λb hb=>?_,q];have e:b=s1.heap.objs.size:=by simpa using hb
 subst e;exact I1.fpOk (zG0 _) (I1.hok.fresh (zG0 _))
theorem io(hl:PE X l tl):PI X tg l (iTup X.K tl):=by
 intro pins s σ H R I h;refine thn (hl pins s σ H _ I h) λv s1 ⟨x,H1,I1,r1,q1⟩=>?_
 erw[a,e,%[xs|hq],q]at q1;subst e;cases r1;let%[its,rv,p|hz]:=I1.tuple hq;refine wpAny_pyIter_tuple (show s1.heap.IsTuple a its.toArray from p) ?_;erw[s1.heap.objs.size,[s1.heap.objs.size],_,_,H1,1,I1.kept (t':=s1.toks) λb o e=>zR0 _ e,wY a _,%[_,qA0 _ rfl,1|1],λb hb=>?_,q];have e:b=s1.heap.objs.size:=by simpa using hb
 subst e;exact I1.fpOk (zG0 _) (I1.hok.fresh (zG0 _))
theorem vD{σ:St}{R:It->Hp->Prop}{E:Value->Shared->Prop}{lo hi:Int}{t u v:Tok}{tk:Nat}(I:Inv X pins σ H s)(h1:-(2 ^ 62)<=lo)(h2:lo<2 ^ 62)(h3:-(2 ^ 62)<=hi)(h4:hi<2 ^ 62)
 (q:R (Itr lo (hi-lo).toNat) H):wpAny (model X.prog X.w) X.A (pyIter (.ref s.heap.objs.size)) (PIE X pins σ tg R) E { s with heap:=s.heap.push { cls:=.type "range",data:=.fields #[.int lo t,.int hi u,.int 1 v] },toks:=tk }:=by
 refine wpAny_pyIter_range (IsRange.new ..) (small_one h1 h2 h3 h4) ?_;have I1:Inv X pins σ H { s with heap:=s.heap.push { cls:=.type "range",data:=.fields #[.int lo t,.int hi u,.int 1 v] },toks:=tk }:=I.kept λb o e=>zR0 _ e
 erw[(s.heap.push { cls:=.type "range",data:=.fields #[.int lo t,.int hi u,.int 1 v] }).objs.size,[(s.heap.push { cls:=.type "range",data:=.fields #[.int lo t,.int hi u,.int 1 v] }).objs.size],_,_,H,1,I1.kept (t':=tk) λb o e=>zR0 _ e,wZ _ lo (hi-lo).toNat,6,λb hb=>?_,q]
 . have e1:lo+((0:Nat):Int)*1=lo:=by simp
   have e2:(((hi-lo).toNat:Nat):Int)-((0:Nat):Int)=Builtin.Range.rangeSize lo hi 1:=by rw[rangeSize_one];split <;> omega
   show IsRangeIter _ _ (lo+((0:Nat):Int)*1) ((((hi-lo).toNat:Nat):Int)-((0:Nat):Int)) 1;rw[e1,e2];exact qA0 _ rfl
 . have e:b=(s.heap.push { cls:=.type "range",data:=.fields #[.int lo t,.int hi u,.int 1 v] }).objs.size:=by simpa using hb
   subst e;exact I1.fpOk (zG0 _) (I1.hok.fresh (zG0 _))
inductive ZiRng1(R:(It->Hp->Prop))(vs:(List V))(H1:Hp):Prop
 |mk:∀j:Int,vs=[.int j]->-(2 ^ 62)<=j->j<2 ^ 62->R (Itr 0 j.toNat) H1->ZiRng1 R vs H1
def iRng1(ta:TA):TI:=λσ H R=>ta σ H λvs H1=>ZiRng1 R vs H1
inductive ZiRng2(R:(It->Hp->Prop))(vs:(List V))(H1:Hp):Prop
 |mk:∀i j:Int,vs=[.int i,.int j]->-(2 ^ 62)<=i/\i<2 ^ 62/\-(2 ^ 62)<=j/\j<2 ^ 62->R (Itr i (j-i).toNat) H1->ZiRng2 R vs H1
def iRng2(ta:TA):TI:=λσ H R=>ta σ H λvs H1=>ZiRng2 R vs H1
theorem bX {a:Expr}  {p pos:Pos} (hg:Gl X "range") (hm:X.mg "range"=none) (ha:PA X [a] ta) (hs:starEach [a] X.env=[(false,eval a X.env)]:=by rfl):PI X tg (.Call (.Name "range" p) [a] [] pos) (iRng1 ta):=by
 intro pins s σ H R I h;refine Call_ (iq I hg hm boot_range (PyProof.Rows.callWith_type1 (thn (ha pos pins s σ H _ I h) λus s1 ⟨vs,H1,I1,r1,q1⟩=>?_) hs rfl));erw[j,e,q1,q2,q]at q1;subst e;cases r1 with
 | cons r rr=>
   cases rr;erw[t,1]at r;exact call_range_1 (vD I1 #[0] #[0] q1 q2 (by simpa using q))
theorem Ay {a b:Expr}  {p pos:Pos} (hg:Gl X "range") (hm:X.mg "range"=none) (ha:PA X [a,b] ta) (hs:starEach [a,b] X.env=[(false,eval a X.env),(false,eval b X.env)]:=by rfl) (hs2:starEach [b] X.env=[(false,eval b X.env)]:=by rfl) :
 PI X tg (.Call (.Name "range" p) [a,b] [] pos) (iRng2 ta):=by
 intro pins s σ H R I h;refine Call_ (iq I hg hm boot_range (PyProof.Rows.callWith_type1 (thn (ha pos pins s σ H _ I h) λus s1 ⟨vs,H1,I1,r1,q1⟩=>?_) (by rw[hs,hs2]) (by rw[hs2];rfl)));erw[i,j,e,%[q1,q2,q3|q4],q]at q1;subst e;cases r1 with
 | cons r rr=>
   cases rr with
   | cons r' rr=>
     cases rr;erw[t,1]at r;erw[t',1]at r';exact call_range_2 (vD I1 q1 q2 q3 q4 q)
def tFor(wi:TI)(g:TG)(tb:TS):TS:=λD σ H=>wi σ H λJ H1=>∃W:Nat->Nat->St->Hp->Prop,(∃m,W 0 m σ H1)/\∀i m σ H,W i m σ H ->
 (J.stop i H/\D.nx σ H)∨(J.go i H/\∃N:St->Hp->Prop,(∀ σ' H',N σ' H'->∃m',m'<m/\W (i+1) m' σ' H')/\∀x H',J.yld i H x H'->g x σ H' λσ2 H2=>tb { D with nx:=N,ct:=N,bk:=D.nx } σ2 H2)
def lI(fp:List Addr)(h:Heap):List (Addr×Obj):=fp.filterMap λb=>(h.get? b).map λo=>(b,o)
theorem fk{fp:List Addr}{h:Heap}{b:Addr}{o:Obj}(hb:b∈fp)(e:h.get? b=some o):(b,o)∈lI fp h:=List.mem_filterMap.mpr %[b,hb|by rw[e];rfl]
theorem AR{p:Addr×Obj}(hp:p∈lI fp h):p.1∈fp/\h.get? p.1=some p.2:=by
 let%[b,hb|e]:=List.mem_filterMap.mp hp;cases q:h.get? b with
 | none=>rw[q]at e;cases e
 | some o=>
   rw[q]at e;have e':(b,o)=p:=zT0 e;subst e';erw[hb,q]
theorem Inv.pinned{σ:St}{fp:List Addr}(I:Inv X pins σ H s)(hf:∀b∈fp,jH X pins H b)(ho:∀b∈fp,∃o,s.heap.get? b=some o/\∀v,o.data≠.cell v):Inv X (pins++lI fp s.heap) σ H s:=
 I.pins_of λp hp=>(qM0 hp).elim (λz=>I.pin p (qQ0 _ z)) λz=>by
  let%[hb|e]:=AR z;let%[f0,f1,f2|_]:=hf p.1 hb;let%[o,e'|d]:=ho p.1 hb;rw[e]at e';cases e';erw[e,f0,f1,f2,d]
theorem Inv.unpinned{pins pl:List (Addr×Obj)}{σ:St}(I:Inv X (pins++pl) σ H s):Inv X pins σ H s:=I.pins_of λp hp=>I.pin p (qQ0 _ (List.mem_append_left _ hp))
theorem cI{iter:Expr}{pos:Pos}(hp:PassesOwn (model X.prog X.w) X.A X.env X.xe)(hc:X.calm=true)(hi:PI X tg iter wi)(hg:PG X tg g)(hb:PSs X body tb)
 (hs:∀x,foldedSetIterable iter X.env x=pure x:=by intro _;rfl):PS X (.For tg iter body [] pos) (tFor wi g tb):=by
 intro pins s σ H D I h;refine wpAny_For (thn (hi pins s σ H _ I h) λv s1 h1=>thn h1 λitv s2 h2=>?_) hs;erw[it,fp,tn,J,H2,e,I2,T,st2,f2,W,%[m0|w0],turn]at h2;subst e;have stat:∀{H':Hp},(∀b∈fp,H' b=none)->∀b∈fp,jH X pins H' b:=λhn b hb=>%[hn b hb|(f2 b hb).2]
 refine codeAny_forLoop_any (λn s'=>∃i σ' H',Inv X pins σ' H' s'/\tn i s'.heap/\(∀b∈fp,H' b=none)/\W i n σ' H') ?_ m0 %[(0),σ,H2,I2,st2,λb hb=>(f2 b hb).1|w0];rintro n s3 ⟨i,σ3,H3,I3,st3,fr3,w3⟩;rcases turn i n σ3 H3 w3 with⟨stop,qn⟩ | ⟨go,N,hN,step⟩
 . refine wpAny_passesOwn hp (thn (T.done X rfl rfl rfl hc i pins s3 σ3 H3 X.xe I3 (stat fr3) st3 stop) λr s4 ⟨hr,I4⟩=>?_);subst hr;exact wpAny_execs_nil %[σ3,H3,I4|qn]
 . refine wpAny_passesOwn hp (thn (T.item X rfl rfl rfl hc i pins s3 σ3 H3 X.xe I3 (stat fr3) st3 go) λr s4 ⟨u,hr,h4⟩=>?_);subst hr;refine wpAny_passesOwn hp (thn h4 λ_ s5 ⟨x,H5,I5,r5,y5,st5,fr5⟩=>?_);have I5':=I5.pinned (stat fr5) (T.obj _ _ st5);refine wpAny_passesOwn hp (thn (hg _ s5 σ3 H5 x u _ I5' r5 (step x H5 y5)) λ_ s6 ⟨σ6,H6,I6,q6⟩=>?_);refine wpAny_passesOwn hp (thn (hb _ s6 σ6 H6 _ I6 q6) λf s7 q7=>?_);have again:∀{σ7:St}{H7:Hp},Inv X (pins++lI fp s5.heap) σ7 H7 s7->N σ7 H7->∃m,m<n/\∃i σ' H',Inv X pins σ' H' s7/\tn i s7.heap/\(∀b∈fp,H' b=none)/\W i m σ' H':=fun{σ7 H7} I7 n7=>by
    let%[m',hm|w7]:=hN σ7 H7 n7;erw[m',hm,i+1,σ7,H7,I7.unpinned,T.keep _ _ _ st5 λb hb o e=>(I7.pin (b,o) (qQ0 _ (qQ0 _ (fk hb e)))).1,λb hb=>?_,w7];let%[o,e|d]:=T.obj _ _ st5 b hb;exact(I7.pin (b,o) (qQ0 _ (qQ0 _ (fk hb e)))).2.1
   cases f with
   | next=>erw[σ7,H7,I7,n7]at q7;exact again I7 n7
   | cont=>erw[σ7,H7,I7,n7]at q7;exact again I7 n7
   | brk=>erw[σ7,H7,I7,q7]at q7;erw[σ7,H7,I7.unpinned,q7]
   | ret v=>erw[x7,σ7,H7,I7,r7,q7]at q7;erw[x7,σ7,H7,I7.unpinned,r7,q7]
end
theorem ku{K:W.Frag}{xs:List V}{g:TG}{tb:TS}{D:Ends}{σ:St}{H:Hp}(Pv:Nat->St->Hp->Prop)(h0:Pv 0 σ H)(hl:∀i σ H,i<=xs.length->Pv i σ H->SqL K H a xs)
 (hs:∀i x σ H,xs[i]?=some x->Pv i σ H->g x σ H λσ2 H2=>tb { D with nx:=Pv (i+1),ct:=Pv (i+1),bk:=D.nx } σ2 H2) (hd:∀ σ H,Pv xs.length σ H->D.nx σ H) :
 ∃ W:Nat->Nat->St->Hp->Prop,(∃m,W 0 m σ H)/\∀i m σ H,W i m σ H ->
  ((Itl K a).stop i H/\D.nx σ H)∨((Itl K a).go i H/\∃N:St->Hp->Prop,(∀ σ' H',N σ' H'->∃m',m'<m/\W (i+1) m' σ' H')/\∀x H',(Itl K a).yld i H x H'->g x σ H' λσ2 H2=>tb { D with nx:=N,ct:=N,bk:=D.nx } σ2 H2):=by
 erw[λi m σ H=>m=xs.length-i/\i<=xs.length/\Pv i σ H,%[xs.length,by simp,zU0 _|h0],6];rintro i m σ H ⟨rfl,hi,p⟩;have q:=hl i σ H hi p
 by_cases hlt:i<xs.length
 . refine .inr %[%[xs,xs[i],q|by simp [hlt]],Pv (i+1),λσ' H' p'=>%[xs.length-(i+1),3,1,hlt|p']|λx H' y=>?_];erw[e,y]at y;subst e;exact hs i x σ _ (y xs q) p
 . have e:i=xs.length:=by omega
   subst e;exact .inl %[%[xs,q|zG0 _]|hd σ H p]
theorem vd{K:W.Frag}{xs:List V}{g:TG}{tb:TS}{D:Ends}{σ:St}{H:Hp}(Pv:Nat->St->Hp->Prop)(h0:Pv 0 σ H)(hl:∀i σ H,i<=xs.length->Pv i σ H->SqT K H a xs)
 (hs:∀i x σ H,xs[i]?=some x->Pv i σ H->g x σ H λσ2 H2=>tb { D with nx:=Pv (i+1),ct:=Pv (i+1),bk:=D.nx } σ2 H2) (hd:∀ σ H,Pv xs.length σ H->D.nx σ H) :
 ∃ W:Nat->Nat->St->Hp->Prop,(∃m,W 0 m σ H)/\∀i m σ H,W i m σ H ->
  ((Itt K a).stop i H/\D.nx σ H)∨((Itt K a).go i H/\∃N:St->Hp->Prop,(∀ σ' H',N σ' H'->∃m',m'<m/\W (i+1) m' σ' H')/\∀x H',(Itt K a).yld i H x H'->g x σ H' λσ2 H2=>tb { D with nx:=N,ct:=N,bk:=D.nx } σ2 H2):=by
 erw[λi m σ H=>m=xs.length-i/\i<=xs.length/\Pv i σ H,%[xs.length,by simp,zU0 _|h0],6];rintro i m σ H ⟨rfl,hi,p⟩;have q:=hl i σ H hi p
 by_cases hlt:i<xs.length
 . refine .inr %[%[xs,xs[i],q|by simp [hlt]],Pv (i+1),λσ' H' p'=>%[xs.length-(i+1),3,1,hlt|p']|λx H' y=>?_];erw[e,y]at y;subst e;exact hs i x σ _ (y xs q) p
 . have e:i=xs.length:=by omega
   subst e;exact .inl %[%[xs,q|zG0 _]|hd σ H p]
theorem dq{lo:Int}{n:Nat}{g:TG}{tb:TS}{D:Ends}{σ:St}{H:Hp}(Pv:Nat->St->Hp->Prop)(h0:Pv 0 σ H)
 (hs:∀i σ H,i<n->Pv i σ H->g (.int (lo+i)) σ H λσ2 H2=>tb { D with nx:=Pv (i+1),ct:=Pv (i+1),bk:=D.nx } σ2 H2) (hd:∀ σ H,Pv n σ H->D.nx σ H) :
 ∃ W:Nat->Nat->St->Hp->Prop,(∃m,W 0 m σ H)/\∀i m σ H,W i m σ H ->
  ((Itr lo n).stop i H/\D.nx σ H)∨((Itr lo n).go i H/\∃N:St->Hp->Prop,(∀ σ' H',N σ' H'->∃m',m'<m/\W (i+1) m' σ' H')/\∀x H',(Itr lo n).yld i H x H'->g x σ H' λσ2 H2=>tb { D with nx:=N,ct:=N,bk:=D.nx } σ2 H2):=by
 erw[λi m σ H=>m=n-i/\i<=n/\Pv i σ H,%[n,by simp,zU0 _|h0],6];rintro i m σ H ⟨rfl,hi,p⟩
 by_cases hlt:i<n
 . refine .inr %[hlt,Pv (i+1),λσ' H' p'=>%[n-(i+1),3,1,hlt|p']|λx H' y=>?_];erw[e,y]at y;subst e y;exact hs i σ _ hlt p
 . have e:i=n:=by omega
   subst e;exact .inl %[zG0 _|hd σ H p]
abbrev R2:=V->V->Hp->VK->Prop
def OpR(X:Cx)(f:Value->Value->Sem Value)(r:R2):Prop:=
 ∀(pins:List (Addr×Obj))(s:Shared)(σ:St)(H:Hp)(x y:V)(v u:Value)(Q:VK),Inv X pins σ H s->RelV x v->RelV y u->r x y H Q ->
  wpAny (model X.prog X.w) X.A (f v u) (EP X pins σ Q) X.xe s
def UnR(X:Cx)(f:Value->Sem Value)(r:V->Hp->VK->Prop):Prop:=
 ∀(pins:List (Addr×Obj))(s:Shared)(σ:St)(H:Hp)(x:V)(v:Value)(Q:VK),Inv X pins σ H s->RelV x v->r x H Q ->
  wpAny (model X.prog X.w) X.A (f v) (EP X pins σ Q) X.xe s
def gC(X:Cx)(f:Value)(r:List V->Hp->VK->Prop):Prop:=
 ∀(pins:List (Addr×Obj))(s:Shared)(σ:St)(H:Hp)(xs:List V)(us:List Value)(Q:VK),Inv X pins σ H s->Vals xs us->r xs H Q ->
  wpAny (model X.prog X.w) X.A (call f us) (EP X pins σ Q) X.xe s
def tOp(r:R2)(ta tb:TE):TE:=λσ H Q=>ta σ H λx H1=>tb σ H1 λy H2=>r x y H2 Q
def tUn(r:V->Hp->VK->Prop)(ta:TE):TE:=λσ H Q=>ta σ H λx H1=>r x H1 Q
inductive rI(C:Int->Int->Prop)(g:Int->Int->V)(x:V)(y:V)(H:Hp)(Q:VK):Prop
 |mk:∀i j,x=.int i->y=.int j->C i j->Q (g i j) H->rI C g x y H Q
inductive rI0(g:Int->Int->V)(x:V)(y:V)(H:Hp)(Q:VK):Prop
 |mk:∀i j,x=.int i->y=.int j->Q (g i j) H->rI0 g x y H Q
inductive rU(g:Int->V)(x:V)(H:Hp)(Q:VK):Prop
 |mk:∀i,x=.int i->Q (g i) H->rU g x H Q
section
variable {X:Cx} {a b c:Expr} {ta tb tc:TE} {pos:Pos}
theorem Iw(ha:PE X a ta)(hb:PE X b tb){σ:St}{R:V->V->Hp->Prop}(I:Inv X pins σ H s)
 (h:ta σ H λx H1=>tb σ H1 λy H2=>R x y H2) {Q:Value->Shared->Prop} {f:Value->Value->Sem Value}
 (hf:∀v u s2 x y H2,Inv X pins σ H2 s2->RelV x v->RelV y u->R x y H2->wpAny (model X.prog X.w) X.A (f v u) Q X.xe s2) :
 wpAny (model X.prog X.w) X.A (eval a X.env) (λv s₁=>wpAny (model X.prog X.w) X.A (eval b X.env) (λu s₂=>wpAny (model X.prog X.w) X.A (f v u) Q X.xe s₂) X.xe s₁) X.xe s:=by
 refine thn (ha pins s σ H _ I h) λv s1 ⟨x,H1,I1,r1,q1⟩=>?_
 refine thn (hb pins s1 σ H1 _ I1 q1) λu s2 ⟨y,H2,I2,r2,q2⟩=>?_
 exact hf v u s2 x y H2 I2 r1 r2 q2
theorem az{op:Operator}(ho:OpR X (binaryOp op) r)(ha:PE X a ta)(hb:PE X b tb):PE X (.BinOp a op b pos) (tOp r ta tb):=by
 intro pins s σ H Q I h;exact wpAny_BinOp (Iw ha hb I h λv u s2 x y H2 I2 rx ry q=>ho pins s2 σ H2 x y v u Q I2 rx ry q)
theorem zn{op:UnaryOp}(ho:UnR X (unaryOp op) r)(ha:PE X a ta):PE X (.UnaryOp op a pos) (tUn r ta):=by
 intro pins s σ H Q I h;exact UnaryOp_ (thn (ha pins s σ H _ I h) λv s1 ⟨x,H1,I1,r1,q1⟩=>ho pins s1 σ H1 x v Q I1 r1 q1)
theorem opI{f:Value->Value->Sem Value}{C:Int->Int->Prop}{g:Int->Int->Int}
 (rule:∀(i j:Int)(t u:Tok)(s:Shared)(Q:Value->Shared->Prop)(E:Value->Shared->Prop),C i j->Q (.int (g i j) s.toks) { s with toks:=s.toks+1 }->wpAny (model X.prog X.w) X.A (f (.int i t) (.int j u)) Q E s) :
 OpR X f (rI C λi j=>.int (g i j)):=by
 intro pins s σ H x y v u Q I rx ry h;erw[i,j,1,1,hc,q]at h;erw[t,1]at rx;erw[t',1]at ry;exact rule i j t t' s _ _ hc %[.int (g i j),H,I.tok _,%[|0]|q]
theorem opI0{f:Value->Value->Sem Value}{g:Int->Int->Int}
 (rule:∀(i j:Int)(t u:Tok)(s:Shared)(Q:Value->Shared->Prop)(E:Value->Shared->Prop),Q (.int (g i j) s.toks) { s with toks:=s.toks+1 }->wpAny (model X.prog X.w) X.A (f (.int i t) (.int j u)) Q E s) :
 OpR X f (rI0 λi j=>.int (g i j)):=by
 intro pins s σ H x y v u Q I rx ry h;erw[i,j,1,1,q]at h;erw[t,1]at rx;erw[t',1]at ry;exact rule i j t t' s _ _ %[.int (g i j),H,I.tok _,%[|0]|q]
theorem Fs{f:Value->Value->Sem Value}{g:Int->Int->Bool}
 (rule:∀(i j:Int)(t u:Tok)(s:Shared)(Q:Value->Shared->Prop)(E:Value->Shared->Prop),Q (.bool (g i j)) s->wpAny (model X.prog X.w) X.A (f (.int i t) (.int j u)) Q E s) :
 OpR X f (rI0 λi j=>.bl (g i j)):=by
 intro pins s σ H x y v u Q I rx ry h;erw[i,j,1,1,q]at h;erw[t,1]at rx;erw[t',1]at ry;exact rule i j t t' s _ _ %[.bl (g i j),H,I,1|q]
def CDiv(i j:Int):Prop:=0<j/\j<1073741824
def CPow(i j:Int):Prop:=0<=j/\j<=1000000/\i.natAbs<2 ^ 64
def CMul(i j:Int):Prop:=(-(2 ^ 64)<i/\i<2 ^ 64)∨(-(2 ^ 64)<j/\j<2 ^ 64)
theorem CMul.ok(h:CMul i j):IntMulOk i j:=by
 rcases h with⟨h1,h2⟩ | ⟨h1,h2⟩
 . exact .of_left (intBits_le_64 h1 h2)
 . exact .of_right (intBits_le_64 h1 h2)
theorem aX:OpR X (binaryOp .Add) (rI0 λi j=>.int (i+j)):=opI0 λ_ _ _ _ _ _ _ q=>add_int q
theorem bO:OpR X (binaryOp .Sub) (rI0 λi j=>.int (i-j)):=opI0 λ_ _ _ _ _ _ _ q=>sub_int q
theorem cw:OpR X (binaryOp .Mult) (rI CMul λi j=>.int (i*j)):=opI λ_ _ _ _ _ _ _ hc q=>mul_int q hc.ok
theorem zq:OpR X (binaryOp .FloorDiv) (rI CDiv λi j=>.int (i / j)):=opI λi j _ _ _ _ _ hc q=>by
 have h1:(0:Int)<j:=hc.1;have h2:j<1073741824:=hc.2;exact floordiv_int #[0] (by rw[Int.fdiv_eq_ediv_of_nonneg i #[0]];exact q) (.inl (PyProof.noPylong_small #[0]))
theorem bd:OpR X (binaryOp .Mod) (rI (λ_ j=>0<j) λi j=>.int (i % j)):=opI λi j _ _ _ _ _ hc q=>by
 have h1:(0:Int)<j:=hc;exact mod_int' #[0] (by rw[Int.fmod_eq_emod_of_nonneg i #[0]];exact q)
theorem HB:OpR X (binaryOp .Pow) (rI CPow λi j=>.int (i ^ j.toNat)):=opI λ_ _ _ _ _ _ _ hc q=>pow_int_small hc.1 hc.2.1 hc.2.2 q
theorem unI{f:Value->Sem Value}{g:Int->Int}
 (rule:∀(i:Int)(t:Tok)(s:Shared)(Q:Value->Shared->Prop)(E:Value->Shared->Prop),Q (.int (g i) s.toks) { s with toks:=s.toks+1 }->wpAny (model X.prog X.w) X.A (f (.int i t)) Q E s) :
 UnR X f (rU λi=>.int (g i)):=by
 intro pins s σ H x v Q I rx h;erw[i,1,q]at h;erw[t,1]at rx;exact rule i t s _ _ %[.int (g i),H,I.tok _,%[|0]|q]
theorem tN:UnR X (unaryOp .USub) (rU λi=>.int (-i)):=unI λ_ _ _ _ _ q=>neg_int q
end
def scal:V->V->Bool
 | .non,.non=>true | .non,.int _=>true | .int _,.non=>true | .non,.bl _=>true | .bl _,.non=>true | .non,.str _=>true | .str _,.non=>true
 | .int _,.int _=>true | .bl _,.bl _=>true | .str _,.str _=>true | .byt _,.byt _=>true
 | .int _,.str _=>true | .str _,.int _=>true | .bl _,.str _=>true | .str _,.bl _=>true
 | _,_=>false
inductive rEq(x:V)(y:V)(H:Hp)(Q:VK):Prop
 |mk:scal x y=true->Q (.bl (decide (x=y))) H->rEq x y H Q
inductive rNe(x:V)(y:V)(H:Hp)(Q:VK):Prop
 |mk:scal x y=true->Q (.bl (!decide (x=y))) H->rNe x y H Q
theorem zK{i j:Int}:decide (V.int i=V.int j)=(i==j):=by
 rw[Bool.eq_iff_iff]
 simp
theorem Ep{i j:Bool}:decide (V.bl i=V.bl j)=(i==j):=by
 rw[Bool.eq_iff_iff]
 simp
theorem zJ{i j:Str}:decide (V.str i=V.str j)=(i==j):=by
 rw[Bool.eq_iff_iff]
 simp
theorem zL{i j:Array UInt8}:decide (V.byt i=V.byt j)=(i.toList==j.toList):=by
 rw[Bool.eq_iff_iff];cases i;cases j
 simp
section
variable {X:Cx} {a b c:Expr} {ta tb tc:TE} {pos:Pos}
theorem bK{σ:St}{Q:VK}{k k':Bool}(I:Inv X pins σ H s)(q:Q (.bl k) H)(e:k=k'):EP X pins σ Q (.bool k') s:=by
 subst e;erw[.bl k,H,I,1,q]
theorem aW:OpR X (compareOp .Eq) rEq:=by
 intro pins s σ H x y v u Q I rx ry h;erw[hs,q]at h;cases x with
 | non=>
   cases rx;cases y with
   | non=>cases ry;exact PySem.EqNone.eq_none_none (bK I q (by simp))
   | bl j=>cases ry;exact PySem.EqNone.eq_none_bool (bK I q (by simp))
   | int j=>erw[t',1]at ry;exact PySem.EqNone.eq_none_int (bK I q (by simp))
   | str j=>erw[t',1]at ry;exact PySem.EqNone.eq_none_str (bK I q (by simp))
   | _=>exact absurd (show false=true from hs) qD0
 | bl i=>
   cases rx;cases y with
   | non=>cases ry;exact PySem.EqNone.eq_bool_none (bK I q (by simp))
   | bl j=>cases ry;exact eq_bool (bK I q Ep)
   | str j=>erw[t',1]at ry;exact PySem.EqMixed.eq_bool_str (bK I q (by simp))
   | _=>exact absurd (show false=true from hs) qD0
 | int i=>
   erw[t,1]at rx;cases y with
   | non=>cases ry;exact PySem.EqNone.eq_int_none (bK I q (by simp))
   | int j=>erw[t',1]at ry;exact eq_int (bK I q zK)
   | str j=>erw[t',1]at ry;exact PySem.EqMixed.eq_int_str (bK I q (by simp))
   | _=>exact absurd (show false=true from hs) qD0
 | str i=>
   erw[t,1]at rx;cases y with
   | non=>cases ry;exact PySem.EqNone.eq_str_none (bK I q (by simp))
   | bl j=>cases ry;exact PySem.EqMixed.eq_str_bool (bK I q (by simp))
   | int j=>erw[t',1]at ry;exact PySem.EqMixed.eq_str_int (bK I q (by simp))
   | str j=>erw[t',1]at ry;exact eq_str (bK I q zJ)
   | _=>exact absurd (show false=true from hs) qD0
 | byt i=>
   erw[t,1]at rx;cases y with
   | byt j=>erw[t',1]at ry;exact PySem.W.eq_bytes (bK I q zL)
   | _=>exact absurd (show false=true from hs) qD0
 | _=>cases y <;> exact absurd (show false=true from hs) qD0
theorem mq:OpR X (compareOp .NotEq) rNe:=by
 intro pins s σ H x y v u Q I rx ry h;erw[hs,q]at h;cases x with
 | non=>
   cases rx;cases y with
   | non=>cases ry;exact PySem.EqNone.ne_none_none (bK I q (by simp))
   | bl j=>cases ry;exact PySem.EqNone.ne_none_bool (bK I q (by simp))
   | int j=>erw[t',1]at ry;exact PySem.EqNone.ne_none_int (bK I q (by simp))
   | str j=>erw[t',1]at ry;exact PySem.EqNone.ne_none_str (bK I q (by simp))
   | _=>exact absurd (show false=true from hs) qD0
 | bl i=>
   cases rx;cases y with
   | non=>cases ry;exact PySem.EqNone.ne_bool_none (bK I q (by simp))
   | bl j=>cases ry;exact ne_bool (bK I q (congrArg not Ep))
   | str j=>erw[t',1]at ry;exact PySem.EqMixed.ne_bool_str (bK I q (by simp))
   | _=>exact absurd (show false=true from hs) qD0
 | int i=>
   erw[t,1]at rx;cases y with
   | non=>cases ry;exact PySem.EqNone.ne_int_none (bK I q (by simp))
   | int j=>erw[t',1]at ry;exact ne_int (bK I q (congrArg not zK))
   | str j=>erw[t',1]at ry;exact PySem.EqMixed.ne_int_str (bK I q (by simp))
   | _=>exact absurd (show false=true from hs) qD0
 | str i=>
   erw[t,1]at rx;cases y with
   | non=>cases ry;exact PySem.EqNone.ne_str_none (bK I q (by simp))
   | bl j=>cases ry;exact PySem.EqMixed.ne_str_bool (bK I q (by simp))
   | int j=>erw[t',1]at ry;exact PySem.EqMixed.ne_str_int (bK I q (by simp))
   | str j=>erw[t',1]at ry;exact ne_str (bK I q (congrArg not zJ))
   | _=>exact absurd (show false=true from hs) qD0
 | byt i=>
   erw[t,1]at rx;cases y with
   | byt j=>erw[t',1]at ry;exact PySem.W.ne_bytes (bK I q (congrArg not zL))
   | _=>exact absurd (show false=true from hs) qD0
 | _=>cases y <;> exact absurd (show false=true from hs) qD0
theorem eO:OpR X (compareOp .Lt) (rI0 λi j=>.bl (decide (i<j))):=Fs λ_ _ _ _ _ _ _ q=>lt_int q
theorem sQ:OpR X (compareOp .LtE) (rI0 λi j=>.bl (decide (i<=j))):=Fs λ_ _ _ _ _ _ _ q=>le_int q
theorem iR:OpR X (compareOp .Gt) (rI0 λi j=>.bl (decide (j<i))):=Fs λ_ _ _ _ _ _ _ q=>gt_int q
theorem Gw:OpR X (compareOp .GtE) (rI0 λi j=>.bl (decide (j<=i))):=Fs λ_ _ _ _ _ _ _ q=>ge_int q
theorem sR:OpR X (compareOp .In) (λx y H Q=>∃i j,x=.str i/\y=.str j/\Q (.bl (!(Builtin.Str.occurrences j i 0 j.length 1).isEmpty)) H):=by
 intro pins s σ H x y v u Q I rx ry h;erw[i,j,1,1,q]at h;erw[t,1]at rx;erw[t',1]at ry;exact in_str (bK I q rfl)
theorem CY:OpR X (compareOp .Is) (λx y H Q=>y=.non/\Q (.bl (decide (x=.non))) H):=by
 intro pins s σ H x y v u Q I rx ry h;erw[1,q]at h;cases ry;refine is_none_gen (bK I q ?_);cases x <;> first
  | (cases rx;rfl)
  | (erw[t,1]at rx;rfl)
theorem OpR.or(h:OpR X f r)(h':OpR X f r'):OpR X f (λx y H Q=>r x y H Q∨r' x y H Q):=by
 intro pins s σ H x y v u Q I rx ry q;rcases q with q | q
 . exact h pins s σ H x y v u Q I rx ry q
 . exact h' pins s σ H x y v u Q I rx ry q
theorem aE(b:Expr){op:CmpOp}(h:op≠.In:=by decide)(h2:op≠.NotIn:=by decide):behindInMarks op b=false:=by
 have e1:(op==CmpOp.In)=false:=by cases op <;> first | rfl | exact absurd rfl h
 have e2:(op==CmpOp.NotIn)=false:=by cases op <;> first | rfl | exact absurd rfl h2
 cases b <;> simp [behindInMarks,e1,e2]
theorem fK{op:CmpOp}(ho:OpR X (compareOp op) r)(ha:PE X a ta)(hb:PE X b tb)(hm:behindInMarks op b=false):PE X (.Compare a [op] [b] pos) (tOp r ta tb):=by
 intro pins s σ H Q I h;exact wpAny_Compare1 (Iw ha hb I h λv u s2 x y H2 I2 rx ry q=>ho pins s2 σ H2 x y v u Q I2 rx ry q) hm
inductive ZtTest(Q:(Bool->Hp->Prop))(x:V)(H':Hp):Prop
 |mk:∀k,x=.bl k->Q k H'->ZtTest Q x H'
def Gi(t:TE):TT:=λσ H Q=>t σ H λx H'=>ZtTest Q x H'
theorem ao{op:CmpOp}(ho:OpR X (compareOp op) r)(ha:PE X a ta)(hb:PE X b tb)(hm:behindInMarks op b=false):PT X (.Compare a [op] [b] pos) (Gi (tOp r ta tb)):=by
 intro pins s σ H Q I h;refine wpAny_isTrue_Compare1 (thn (ha pins s σ H _ I h) λv s1 ⟨x,H1,I1,r1,q1⟩=>thn (hb pins s1 σ H1 _ I1 q1) λu s2 ⟨y,H2,I2,r2,q2⟩=>
  thn (ho pins s2 σ H2 x y v u _ I2 r1 r2 q2) λc s3 ⟨z,H3,I3,r3,k,e,q3⟩=>?_) hm
 subst e;cases r3;exact wpAny_truthy_bool %[H3,I3|q3]
inductive ZtChain(r':R2)(tc:TE)(σ:St)(Q:VK)(y:V)(z:V)(H3:Hp):Prop
 |mk:∀k,z=.bl k->(if k=true then tc σ H3 λw' H4=>r' y w' H4 Q else Q (.bl false) H3)->ZtChain r' tc σ Q y z H3
def BZ(r r':R2)(ta tb tc:TE):TE:=λσ H Q=>ta σ H λx H1=>tb σ H1 λy H2=>r x y H2 λz H3=>ZtChain r' tc σ Q y z H3
theorem CU{op op':CmpOp}(ho:OpR X (compareOp op) r)(ho':OpR X (compareOp op') r')(ha:PE X a ta)(hb:PE X b tb)(hc:PE X c tc)
 (hm:lastMarks [op,op'] [b,c]=false:=by rfl'):PE X (.Compare a [op,op'] [b,c] pos) (BZ r r' ta tb tc):=by
 intro pins s σ H Q I h;refine Compare_chain (thn (ha pins s σ H _ I h) λv s1 ⟨x,H1,I1,r1,q1⟩=>chain_link (thn (hb pins s1 σ H1 _ I1 q1) λu s2 ⟨y,H2,I2,r2,q2⟩=>
  thn (ho pins s2 σ H2 x y v u _ I2 r1 r2 q2) λd s3 ⟨z,H3,I3,r3,k,e,q3⟩=>?_)) hm
 subst e;cases r3;refine wpAny_truthy_bool ?_;cases k with
 | false=>exact ite_ff %[.bl false,H3,I3,1|q3]
 | true=>exact ite_tt (chain_last (thn (hc pins s3 σ H3 _ I3 q3) λw' s4 ⟨z',H4,I4,r4,q4⟩=>ho' pins s4 σ H4 y z' u w' Q I4 r2 r4 q4))
theorem vE{op op':CmpOp}(ho:OpR X (compareOp op) r)(ho':OpR X (compareOp op') r')(ha:PE X a ta)(hb:PE X b tb)(hc:PE X c tc)
 (hm:lastMarks [op,op'] [b,c]=false:=by rfl'):PT X (.Compare a [op,op'] [b,c] pos) (Gi (BZ r r' ta tb tc)):=by
 intro pins s σ H Q I h;refine isTrue_chain (thn (ha pins s σ H _ I h) λv s1 ⟨x,H1,I1,r1,q1⟩=>test_link (thn (hb pins s1 σ H1 _ I1 q1) λu s2 ⟨y,H2,I2,r2,q2⟩=>
  thn (ho pins s2 σ H2 x y v u _ I2 r1 r2 q2) λd s3 ⟨z,H3,I3,r3,k,e,q3⟩=>?_)) hm
 subst e;cases r3;refine wpAny_truthy_bool ?_;cases k with
 | false=>
   erw[k',e',q']at q3;cases e';exact ite_ff %[H3,I3|q']
 | true=>
   refine ite_tt (test_last (thn (hc pins s3 σ H3 _ I3 q3) λw' s4 ⟨z',H4,I4,r4,q4⟩=>thn (ho' pins s4 σ H4 y z' u w' _ I4 r2 r4 q4) λd' s5 ⟨z2,H5,I5,r5,k2,e2,q5⟩=>?_));subst e2;cases r5;exact wpAny_truthy_bool %[H5,I5|q5]
theorem jD:(sizeLine:Nat)<2 ^ 63:=by rw[sizeLine_eq];decide
theorem rc:OpR X (binaryOp .Add) (λx y H Q=>∃i j,x=.str i/\y=.str j/\i.length+j.length<=sizeLine/\Q (.str (i++j)) H):=by
 intro pins s σ H x y v u Q I rx ry h;erw[i,j,1,1,hz,q]at h;erw[t,1]at rx;erw[t',1]at ry;exact add_str (λt' tk=>%[.str (i++j),H,I.tok _,%[|0]|q]) hz
theorem jP{x:V}(r:Vals [x] us):∃u,us=[u]/\RelV x u:=by
 cases r with
 | cons r1 r2=>cases r2;erw[0,r1]
theorem BH{x y:V}(r:Vals [x,y] us):∃u w',us=[u,w']/\RelV x u/\RelV y w':=by
 cases r with
 | cons r1 r2=>
   cases r2 with
   | cons r3 r4=>cases r4;erw[_,0,r1,r3]
theorem oK (hc:X.calm=true):gC X (.builtin "max") (λxs H Q=>∃i j,xs=[.int i,.int j]/\Q (.int (if j>i then j else i)) H):=by
 intro pins s σ H xs us Q I r h;erw[i,j,1,q]at h;let%[u,w',1,%[t|1]|%[t'|1]]:=BH r;refine max_two_ints (I.ok.hd hc) λh' tk k=>%[_,H,I.kept k,6|q]
 by_cases hj:j>i
 . rw[zC0 hj,zC0 hj];erw[0]
 . rw[zA0 hj,zA0 hj];erw[0]
theorem BA (hc:X.calm=true):gC X (.builtin "min") (λxs H Q=>∃i j,xs=[.int i,.int j]/\Q (.int (if j<i then j else i)) H):=by
 intro pins s σ H xs us Q I r h;erw[i,j,1,q]at h;let%[u,w',1,%[t|1]|%[t'|1]]:=BH r;refine min_two_ints (I.ok.hd hc) λh' tk k=>%[_,H,I.kept k,6|q]
 by_cases hj:j<i
 . rw[zC0 hj,zC0 hj];erw[0]
 . rw[zA0 hj,zA0 hj];erw[0]
theorem BB:gC X (.type "int") (λxs H Q=>(∃i,xs=[.int i]/\Q (.int i) H)∨∃k,xs=[.bl k]/\Q (.int (if k then 1 else 0)) H):=by
 intro pins s σ H xs us Q I r h;rcases h with⟨i,rfl,q⟩ | ⟨k,rfl,q⟩
 . let%[u,1,t|1]:=jP r;exact call_int_int %[.int i,H,I,%[|0]|q]
 . let%[u,1|r1]:=jP r;cases r1;exact call_int_bool %[.int (if k then 1 else 0),H,I.tok _,%[|0]|q]
theorem jG:gC X (.type "str") (λxs H Q=>∃i,xs=[.int i]/\i.natAbs.log2<1920/\Q (.str (toString i)) H):=by
 intro pins s σ H xs us Q I r h;erw[i,1,hz,q]at h;let%[u,1,t|1]:=jP r;exact PySem.P.str_of_int hz %[.str _,H,I.tok _,%[|0]|q]
end
structure ObjM(h:Heap)(x dx C:Addr)(mA:Str->Option Value):Prop where
 obj:h.get? x=some (PySem.W.instObj C dx)
 ns:h.Ns1 dx mA
 ne:dx≠x
theorem AZ{h:Heap}{dx:Addr}{mA:Str->Option Value}(n:h.Ns1 dx mA):∃od,h.get? dx=some od/\∀name,PySem.W.lookIn name od=some (mA name):=by
 erw[o,es,ep,ho,hd,hk,_,hm]at n;erw[o,ho,λname=>?_];have e:=hm name;unfold nsFind findBy at e;rw[←Array.find?_toList]at e;unfold PySem.W.lookIn;rw[hd]
 dsimp only
 split
 . rename_i y q;rw[q]at e;exact congrArg some e
 . rename_i q;rw[q]at e;have a:es.toList.any (·.refKey)=false:=by
    rw[List.any_eq_false];intro y hy;let%[z,t|hkey]:=hk y (Array.mem_toList_iff.mp hy)
    simp [DictEntry.refKey,hkey]
   have a':¬ es.toList.any (·.refKey)=true:=by rw[a];exact qD0
   rw[zA0 a'];exact congrArg some e
theorem ObjM.look(I:ObjM h x dx C mA):∃od,PySem.W.InstAt h x (PySem.W.instObj C dx) C (some od)/\∀name,PySem.W.lookIn name od=some (mA name):=
 let⟨od,ho,hl⟩:=AZ I.ns
 %[od,%[I.obj,1,1|ho]|hl]
section
variable {prog:Program} {w:World} {A:Around} {E:Value->Shared->Prop} {s:Shared} {K:W.Frag} {x dx C f:Addr} {mA:Str->Option Value} {name:Str} {v:Value}
theorem FS{expr:Bool}{Q:Value->Shared->Prop}(X:K.In s.heap)(I:ObjM s.heap x dx C mA)(hg:PySem.W.plainGet K C name=true)(hh:PySem.W.hasDictIn K C=true)
 (ha:PySem.W.findIn K (.ref C) name=some none) (hv:mA name=some v) (hv':PySem.W.handedIn v=true) (h:Q v { s with toks:=s.toks+1 }) :
 wpAny (model prog w) A (getAttr (.ref x) name expr) Q E s:=by
 erw[od,J,hl]at I.look;exact PySem.W.get_value X J (PySem.W.plainGet_of hg).1 (PySem.W.findObj_own hh ha rfl (by rw[hl,hv])) hv' h
theorem Eb{pl:Sem Bool}{Q:Value×List Value->Shared->Prop}(X:K.In s.heap)(I:ObjM s.heap x dx C mA)(hg:PySem.W.plainGet K C name=true)
 (hf:PySem.W.findIn K (.ref C) name=some (some (.ref f))) (ht:PySem.W.isFn K (.ref f)=true) (hv:mA name=none) (h:Q (.ref f,[.ref x]) s) :
 wpAny (model prog w) A (getMethod (.ref x) name pl) Q E s:=by
 erw[od,J,hl]at I.look;exact PySem.W.method_fn X J (PySem.W.plainGet_of hg).1 (PySem.W.plainGet_of hg).2 hf (beq_iff_eq.mp ht) (by show(PySem.W.lookIn name od).map (·.isSome)=some false;rw[hl,hv];rfl) h
theorem Fa{ns:List Str}{Q:Unit->Shared->Prop}(X:K.In s.heap)(I:ObjM s.heap x dx C mA)
 (hs:PySem.W.findIn K (.ref C) "__setattr__"=some (some (.builtin "object.__setattr__"))) (hp:PySem.W.plainOver K C=true) (ht:PySem.W.takerIn K C name=some none) (hh:PySem.W.hasDictIn K C=true)
 (hw:PySem.Within mA ns) (hsz:ns.length<=sizeLine)
 (h:∀h',ObjM h' x dx C (λy=>if y=name then some v else mA y)->Heap.SameBut dx s.heap h'->Q () { s with heap:=h',toks:=s.toks+2 }) :
 wpAny (model prog w) A (setAttr (.ref x) name v) Q E s:=by
 erw[od,J,hl]at I.look;refine PySem.W.set_plain X J hs (PySem.W.osa_open (s:={ s with toks:=s.toks+1 }) (r:=none) X J hp ht λb=>?_);let%[cd,hc|hd']:=PySem.W.any_some hh;have hx:s.heap.get? x=some %[.ref C,some dx,.plain|#[]]:=I.obj;refine zD0 (zI0 (zD0 (zD0 (wpAny_loadPart hx (zD0 (PySem.W.Looks.here (s:={ s with toks:=s.toks+1 }) (PySem.W.looks_clsIn X hc) ?_))))));rw[hd'];refine zI0 (a:=some dx) (zD0 (zI0 (zD0 ?_)));refine wpAny_nsSet1 (s:={ s with toks:=s.toks+1 }) I.ns λh' hn2 hs2=>?_
 let%[oD,esD,epD,hoD,hdD|hcD]:=hn2.count (PySem.Within.cons name v hw);refine zD0 (wpAny_lookBehind hoD (by rw[hdD];exact pastItsLine_dict (zP0 hcD (by rw[zO0];omega))) ?_);exact zI0 (h _ %[(hs2.2 _ (Ne.symm I.ne)).trans I.obj,hn2|I.ne] hs2)
theorem DJ{R:Result->Shared->Prop}{vs:List Value}{kw:List (Str×Value)}(X:K.In s.heap)(hm:PySem.W.makesIn K C=true)
 (hi:PySem.W.findIn K (.ref C) "__init__"=some (some (.ref f))) (hf:PySem.W.typeIn K (.ref f)=some (.type "function"))
 (h:codeAny (model prog w) (A.under (.builtin "type.__call__" %[.ref C::vs|kw])) (.call (.ref f) ⟨.ref (s.heap.objs.size+1)::vs,kw⟩) (PySem.W.InitBack (s.heap.objs.size+1) R)
  { s with heap:=(s.heap.push PySem.W.emptyDict).push (PySem.W.instObj C s.heap.objs.size) }) :
 codeAny (model prog w) A (.call (.ref C) %[vs|kw]) R s:=by
 erw[hh,g,d,t,os]at s;exact PySem.W.make_core (PySem.W.makes_of X hm) (PySem.W.looks_findIn X hi) (λself=>PySem.W.bind_fn X self hf) (.inl rfl) h
end
def bL(f:Str)(v:V):List (Str×V)->List (Str×V)
 | []=>[(f,v)]
 | (g,x)::r=>if g=f then(g,v)::r else(g,x)::bL f v r
theorem ay(f g:Str)(v:V):∀fs:List (Str×V),(bL f v fs).lookup g=if g=f then some v else fs.lookup g
 | []=>by
   show List.lookup g [(f,v)]=_
   by_cases h:g=f
   . have hb:(g==f)=true:=beq_iff_eq.mpr h;simp only[List.lookup,hb,zC0 h]
   . have hb:(g==f)=false:=beq_eq_false_iff_ne.mpr h;simp only[List.lookup,hb,zA0 h]
 | (k,x)::r=>by
   have ih:=ay f g v r;rw[show bL f v ((k,x)::r)=(if k=f then(k,v)::r else(k,x)::bL f v r)from rfl]
   by_cases hk:k=f
   . rw [zC0 hk]
     by_cases h:g=k
     . have hb:(g==k)=true:=beq_iff_eq.mpr h;simp only[List.lookup,hb,zC0 (h.trans hk)]
     . have hb:(g==k)=false:=beq_eq_false_iff_ne.mpr h;simp only[List.lookup,hb,zA0 (λe:g=f=>h (e.trans hk.symm))]
   . rw [zA0 hk]
     by_cases h:g=k
     . have hb:(g==k)=true:=beq_iff_eq.mpr h;simp only[List.lookup,hb,zA0 (λe:g=f=>hk (h.symm.trans e))]
     . have hb:(g==k)=false:=beq_eq_false_iff_ne.mpr h;simp only[List.lookup,hb];exact ih
theorem oE(f:Str)(v:V):∀fs:List (Str×V),f∈(bL f v fs).map (·.1)/\∀g,g∈fs.map (·.1)->g∈(bL f v fs).map (·.1)
 | []=>%[by simp [bL]|λg h=>by simp at h]
 | (k,x)::r=>by
   let%[i1|i2]:=oE f v r;rw[show bL f v ((k,x)::r)=(if k=f then(k,v)::r else(k,x)::bL f v r)from rfl]
   by_cases hk:k=f
   . rw[zC0 hk];subst hk;erw[by simp,λg h=>by simpa using h]
   . rw [zA0 hk];erw[6,λg h=>?_]
     . rw[zY0];exact qJ0 _ i1
     . rw [zY0]at h ⊢;rcases zW0 h with e | e
       . exact List.mem_cons.mpr (.inl e)
       . exact qJ0 _ (i2 g e)
theorem pf(f:Str)(v:V):∀fs:List (Str×V),(bL f v fs).length<=fs.length+1
 | []=>by simp [bL]
 | (k,x)::r=>by
   have ih:=pf f v r;rw[show bL f v ((k,x)::r)=(if k=f then(k,v)::r else(k,x)::bL f v r)from rfl]
   by_cases hk:k=f
   . rw[zC0 hk,zO0,zO0];omega
   . rw[zA0 hk,zO0,zO0];omega
theorem RelO.some_of{v:V}(r:RelO (some v) o):∃u,o=some u/\RelV v u:=by
 cases o with
 | none=>exact(show False from r).elim
 | some u=>erw[u,1,r]
theorem RelO.none_of(r:RelO none o):o=none:=by
 cases o with
 | none=>rfl
 | some u=>exact(show False from r).elim
theorem Bo(r:RelV v u):PySem.W.handedIn u=true:=by
 cases v with
 | non=>cases(show u=Value.none from r);rfl
 | bl b=>cases(show u=Value.bool b from r);rfl
 | int i=>let%[t|e]:=(show ∃t,u=Value.int i t from r);cases e;rfl
 | str x=>let%[t|e]:=(show ∃t,u=Value.str x t from r);cases e;rfl
 | byt b=>let%[t|e]:=(show ∃t,u=Value.bytes b t from r);cases e;rfl
 | flt b=>let%[t|e]:=(show ∃t,u=Value.float b t from r);cases e;rfl
 | ref a=>cases(show u=Value.ref a from r);rfl
 | ty n=>cases(show u=Value.type n from r);rfl
section
variable {P:Program} {w:World} {H H':Hp} {h h':Heap} {a C dx:Addr} {fs fs':List (Str×V)}
theorem pZ(hok:HOk P w H h)(e:H a=some (.ins C dx fs)):∃mA,ObjM h a dx C mA/\(∀f,RelO (fs.lookup f) (mA f))/\PySem.Within mA (fs.map (·.1))/\fs.length<=1000/\H dx=some (.own a):=by
 let%[d,z,ne,ob,mA,n,r|q]:=(show ObjOk P w H h a (.ins C dx fs)from hok a _ e)
 erw[mA,%[ob,n|ne],r,q,z,d]
end
structure Cls(K:W.Frag)(C:Addr):Prop where
 pg:PySem.W.plainGet K C Str.empty=true
 hd:PySem.W.hasDictIn K C=true
 po:PySem.W.plainOver K C=true
 sa:PySem.W.findIn K (.ref C) "__setattr__"=some (some (.builtin "object.__setattr__"))
theorem Cls.get{K:W.Frag}(c:Cls K C)(f:Str):PySem.W.plainGet K C f=true:=c.pg
def NoAttr(K:W.Frag)(C:Addr)(f:Str):Prop:=PySem.W.findIn K (.ref C) f=some none
theorem NoAttr.taker{K:W.Frag}(n:NoAttr K C f):PySem.W.takerIn K C f=some none:=by
 unfold PySem.W.takerIn;rw[show PySem.W.findIn K (.ref C) f=some none from n];rfl
structure Meth(K:W.Frag)(C:Addr)(m:Str)(f:Addr):Prop where
 at_:PySem.W.findIn K (.ref C) m=some (some (.ref f))
 fn:PySem.W.isFn K (.ref f)=true
 kp:PySem.W.keepIn K (.ref f)=true
section
variable {X:Cx} {pins:List (Addr×Obj)} {σ:St} {H:Hp} {s:Shared} {a C dx:Addr} {fs:List (Str×V)} {f:Str} {v:V} {A:Around} {E:Value->Shared->Prop}
theorem yE{b:Bool}{Q:Value->Shared->Prop}(I:Inv X pins σ H s)(e:H a=some (.ins C dx fs))(c:Cls X.K C)(n:NoAttr X.K C f)(l:fs.lookup f=some v)
 (h:∀u s',Inv X pins σ H s'->RelV v u->Q u s'):wpAny (model X.prog X.w) A (getAttr (.ref a) f b) Q E s:=by
 let%[mA,O,r,_,_|_]:=pZ I.hok e;let%[u,hu|ru]:=RelO.some_of (v:=v) (o:=mA f) (by rw[←l];exact r f);exact FS I.kIn O (c.get f) c.hd n hu (Bo ru) (h u _ (I.tok _) ru)
theorem rO{pl:Sem Bool}{Q:Value×List Value->Shared->Prop}(I:Inv X pins σ H s)(e:H a=some (.ins C dx fs))(c:Cls X.K C)(k:Meth X.K C m g)(l:fs.lookup m=none)
 (h:Q (.ref g,[.ref a]) s):wpAny (model X.prog X.w) A (getMethod (.ref a) m pl) Q E s:=by
 let%[mA,O,r,_,_|_]:=pZ I.hok e;have hn:mA m=none:=RelO.none_of (by rw[←l];exact r m);exact Eb I.kIn O (c.get m) k.at_ k.fn hn h
theorem xw{Q:Unit->Shared->Prop}(I:Inv X pins σ H s)(e:H a=some (.ins C dx fs))(c:Cls X.K C)(n:NoAttr X.K C f)(hl:fs.length<1000)(ry:RelV y u)
 (h:∀s',Inv X pins σ (upd H a (.ins C dx (bL f y fs))) s'->Q () s'):wpAny (model X.prog X.w) A (setAttr (.ref a) f u) Q E s:=by
 let%[mA,O,r,wi,_|ho]:=pZ I.hok e;have hz:(fs.map (·.1)).length<=sizeLine:=by rw[zF0,sizeLine_eq];omega
 refine Fa I.kIn O c.sa c.po n.taker c.hd wi hz λh' O' sb=>h _ ?_
 have hd:∃o,h'.get? dx=some o:=let⟨o,_,_,e',_⟩:=O'.ns;%[o|e']
 refine I.write (x:=a) (e:=dx) (by rw[e];exact True.intro) (.inr ho) (λb q hb z=>(sb.2 b hb).trans z) hd ?_;erw[by rw[aG O.ne];exact ho,6,O.ne,O'.obj,_,O'.ns,λg=>?_,λg hg=>?_]
 . have:=pf f y fs;omega
 . show RelO ((bL f y fs).lookup g) (if g=f then some u else mA g);rw[ay]
   by_cases q:g=f
   . rw[zC0 q,zC0 q];exact ry
   . rw[zA0 q,zA0 q];exact r g
 . by_cases q:g=f
   . rw[q];exact(oE f y fs).1
   . refine(oE f y fs).2 g (wi g λz=>hg ?_);show(if g=f then some u else mA g)=none;rw[zA0 q];exact z
theorem Inv.made(I:Inv X pins σ H s):Inv X pins σ (upd (upd H s.heap.objs.size (.own (s.heap.objs.size+1))) (s.heap.objs.size+1) (.ins C s.heap.objs.size []))
 { s with heap:=(s.heap.push PySem.W.emptyDict).push (PySem.W.instObj C s.heap.objs.size) }:=by
 have e1:(s.heap.push PySem.W.emptyDict).get? s.heap.objs.size=some PySem.W.emptyDict:=qA0 s.heap rfl;have e2:((s.heap.push PySem.W.emptyDict).push (PySem.W.instObj C s.heap.objs.size)).get? (s.heap.objs.size+1)=some (PySem.W.instObj C s.heap.objs.size):=by
  have:=qA0 (s.heap.push PySem.W.emptyDict) (o:=PySem.W.instObj C s.heap.objs.size) rfl
  rwa [Heap.size_push]at this
 have e3:(s.heap.push PySem.W.emptyDict).Ns s.heap.objs.size (λ_=>none):=%[PySem.W.emptyDict,#[],_,e1,1,(λe he=>absurd he (by simp))|λ_=>rfl]
 have I1:=I.laid (a:=s.heap.objs.size) (o:=.own (s.heap.objs.size+1)) (h':=s.heap.push PySem.W.emptyDict) (t':=s.toks) (λb u q=>zR0 _ q) (zG0 _) %[_|e1];refine I1.laid (a:=s.heap.objs.size+1) (o:=.ins C s.heap.objs.size []) (t':=s.toks) (λb u q=>zR0 _ q) (Nat.le_of_eq (Heap.size_push _ _)) ?_;have ne:s.heap.objs.size≠s.heap.objs.size+1:=zV0 (Nat.lt_succ_self _);erw[by rw[aG ne,am],zU0 _,ne,e2,λ_=>none,(Heap.Ns1.of_empty e3).at λo q=>zR0 _ q,λ_=>True.intro,λy hy=>absurd rfl hy]
theorem FY{prog:Program}{w:World}{env:Env}{e:Expr}{f:Str}{pos:Pos}{s:Shared}{Q:Value->Shared->Prop}(hb:attributeBase e f env (eval e env)=eval e env)
 (h:wpAny (model prog w) A (eval e env) (λo s₁=>wpAny (model prog w) A (getAttr o f true) Q E s₁) E s):wpAny (model prog w) A (eval (.Attribute e f pos) env) Q E s:=
 Attribute_any_ h (by rw[arm_eval_Attribute,hb])
end
inductive ZtFld(K:W.Frag)(f:Str)(Q:VK)(x:V)(H1:Hp):Prop
 |mk:∀a C dx fs v,x=.ref a->H1 a=some (.ins C dx fs)->Cls K C->NoAttr K C f->fs.lookup f=some v->Q v H1->ZtFld K f Q x H1
def tFld(K:W.Frag)(ta:TE)(f:Str):TE:=λσ H Q=>ta σ H λx H1=>ZtFld K f Q x H1
inductive ZsFld(K:W.Frag)(f:Str)(D:Ends)(σ:St)(y:V)(x:V)(H2:Hp):Prop
 |mk:∀a C dx fs,x=.ref a->H2 a=some (.ins C dx fs)->Cls K C->NoAttr K C f->fs.length<1000->D.nx σ (upd H2 a (.ins C dx (bL f y fs)))->ZsFld K f D σ y x H2
def sFld(K:W.Frag)(ta tv:TE)(f:Str):TS:=λD σ H=>tv σ H λy H1=>ta σ H1 λx H2=>ZsFld K f D σ y x H2
section
variable {X:Cx} {o e value:Expr} {f:Str} {pos pos' tpos:Pos} {ta tv:TE}
theorem aD(he:PE X e ta)(hb:attributeBase e f X.env (eval e X.env)=eval e X.env):PE X (.Attribute e f pos) (tFld X.K ta f):=by
 intro pins s σ H Q I h;refine FY hb (thn (he pins s σ H _ I h) λu s1 ⟨x,H1,I1,rx,a,C,dx,fs,v,ex,ea,c,n,l,q⟩=>?_);subst ex;obtain rfl:u=Value.ref a:=rx;exact yE I1 ea c n l λu' s2 I2 ru=>%[v,H1,I2,ru|q]
theorem aU(ha:PE X o ta)(hv:PE X value tv)(hs:swapsWith value (some (.Attribute o f pos')) pos.line X.env=pure false):PS X (.Assign [.Attribute o f pos'] value pos) (sFld X.K ta tv f):=by
 intro pins s σ H D I h;refine plainObj_wpAny_Assign_Attribute (thn (hv pins s σ H _ I h) λu s1 ⟨y,H1,I1,ry,q⟩=>thn (ha pins s1 σ H1 _ I1 q) λov s2 ⟨x,H2,I2,rx,a,C,dx,fs,ex,ea,c,n,l,q2⟩=>?_) hs;subst ex;obtain rfl:ov=Value.ref a:=rx;exact xw I2 ea c n l ry λs3 I3=>%[σ,_,I3|q2]
end
section
variable {X:Cx} {pins:List (Addr×Obj)} {σ:St} {H:Hp} {s:Shared} {A:Around} {E:Value->Shared->Prop} {Q:Value->Shared->Prop} {c:Value} {b:Bool}
inductive TyOf(K:W.Frag)(H:Hp):V->Value->Prop where
 | non:TyOf K H .non (.type "NoneType")
 | bl (x:Bool):TyOf K H (.bl x) (.type "bool")
 | int (i:Int):TyOf K H (.int i) (.type "int")
 | str (x:Str):TyOf K H (.str x) (.type "str")
 | flt (x:UInt64):TyOf K H (.flt x) (.type "float")
 | lst {a:Addr} {xs:List V} (e:H a=some (.lst xs)):TyOf K H (.ref a) (.type "list")
 | frz {a:Addr} {o:Obj} {xs:List V} (e:H a=some (.frz o (.lst xs))):TyOf K H (.ref a) (.type "list")
 | tup {a:Addr} {xs:List V} (e:H a=some (.tup xs)):TyOf K H (.ref a) (.type "tuple")
 | dK {a:Addr} {kvs:List (Key×V)} (e:H a=some (.dK kvs)):TyOf K H (.ref a) (.type "dict")
 | dT {a:Addr} {kvs:List (List Key×V)} (e:H a=some (.dT kvs)):TyOf K H (.ref a) (.type "dict")
 | ins {a C dx:Addr} {fs:List (Str×V)} (e:H a=some (.ins C dx fs)) (cl:Cls K C) (ha:PySem.W.findIn K (.ref C) "__class__"=some (some (.builtin "object.__class__")))
  (hn:PySem.W.specialIn K (.builtin "object.__class__") "__get__"=some (some (.builtin "getset_descriptor.__get__"))) (htk:PySem.W.takesIn K (.builtin "object.__class__")=some true)
  (hm:PySem.W.mroIn K C (.type "object")=some true):TyOf K H (.ref a) (.ref C)
theorem Bg(I:Inv X pins σ H s)(rx:RelV x u)(ty:TyOf X.K H x t)(e:PySem.W.kitOne X.K t c=some b)(h:∀tk,Q (.bool b) { s with toks:=tk }) :
 wpAny (model X.prog X.w) A (call (.builtin "isinstance") [u,c]) Q E s:=by
 cases ty with
 | non=>cases(show u=Value.none from rx);exact PySem.W.kia_one PySem.W.kitx_none I.kIn True.intro e (λz=>nomatch z) h
 | bl y=>cases(show u=Value.bool y from rx);exact PySem.W.kia_one PySem.W.kitx_bool I.kIn True.intro e (λz=>nomatch z) h
 | int i=>let%[t|q]:=(show ∃t,u=Value.int i t from rx);cases q;exact PySem.W.kia_one PySem.W.kitx_int I.kIn True.intro e (λz=>nomatch z) h
 | str y=>let%[t|q]:=(show ∃t,u=Value.str y t from rx);cases q;exact PySem.W.kia_one PySem.W.kitx_str I.kIn True.intro e (λz=>nomatch z) h
 | flt y=>let%[t|q]:=(show ∃t,u=Value.float y t from rx);cases q;exact PySem.W.kia_one PySem.W.kitx_float I.kIn True.intro e (λz=>nomatch z) h
 | @lst a xs ea=>
   cases(show u=Value.ref a from rx);let%[_,_,n,_|h1]:=(show ObjOk X.prog X.w H s.heap a (.lst xs)from I.hok a _ ea)
   exact PySem.W.kia_one PySem.W.kitx_list I.kIn %[_,h1|1] e (λz=>nomatch z) h
 | @frz a ob xs ea=>
   cases(show u=Value.ref a from rx);let%[_,_,_,n,_|h1]:=(show ObjOk X.prog X.w H s.heap a (.frz ob (.lst xs))from I.hok a _ ea)
   exact PySem.W.kia_one PySem.W.kitx_list I.kIn %[_,h1|1] e (λz=>nomatch z) h
 | @tup a xs ea=>
   cases(show u=Value.ref a from rx);let%[_,_,_,p|_]:=(show ObjOk X.prog X.w H s.heap a (.tup xs)from I.hok a _ ea)
   erw[o,h1,h2,_]at p;exact PySem.W.kia_one PySem.W.kitx_tuple I.kIn %[o,h1|h2] e (λz=>nomatch z) h
 | @dK a kvs ea=>
   cases(show u=Value.ref a from rx);let%[_,_,vs,_|p]:=(show ObjOk X.prog X.w H s.heap a (.dK kvs)from I.hok a _ ea)
   erw[o,es,ep,h1,h2,_]at p;exact PySem.W.kia_one PySem.W.kitx_dict I.kIn %[o,h1|h2.1] e (λz=>nomatch z) h
 | @dT a kvs ea=>
   cases(show u=Value.ref a from rx);let%[_,_,xs,_,o,es,ep,h1,h2|_]:=(show ObjOk X.prog X.w H s.heap a (.dT kvs)from I.hok a _ ea)
   exact PySem.W.kia_one PySem.W.kitx_dict I.kIn %[o,h1|h2.1] e (λz=>nomatch z) h
 | @ins a C dx fs ea cl ha hn htk hm=>
   cases(show u=Value.ref a from rx);let%[mA,O|_]:=pZ I.hok ea;erw[od,J,_]at O.look;exact PySem.W.kia_one (PySem.W.kitx_own (cl.get _) cl.hd ha hn htk hm) I.kIn J e (λz=>nomatch z) h
end
structure Room(k:Nat)(A:Around):Prop where
 hd:A.handled=none
 gd:A.guards=some []
 dp:A.depth+3*k+5<recursionLimit
 un:A.units+16*k+200<cLine
theorem Room.mono{j:Nat}(r:Room k A)(h:j<=k):Room j A:=%[r.hd,r.gd,by have:=r.dp;omega|by have:=r.un;omega]
theorem Room.deeper{k:Nat}(r:Room (k+1) A)(env:Env):Room k (A.deeper env):=
 %[r.hd,r.gd,by have:=r.dp;show A.depth+1+3*k+5<_;omega|by have:=r.un;show A.units+3+16*k+200<_;omega]
theorem yw {A:Around} {C:Addr} {us:List Value} {kw:List (Str×Value)}:(A.under (.builtin "type.__call__" %[.ref C::us|kw])).depth=A.depth+1:=by
 first | rfl | simp [Around.under,Code.weight,Code.isCreation,Code.isGuard,Code.isCaller,Code.frames,Code.isFrame,guardIds]
theorem yv {A:Around} {C:Addr} {us:List Value} {kw:List (Str×Value)}:(A.under (.builtin "type.__call__" %[.ref C::us|kw])).units=A.units+1:=by
 first | rfl | simp [Around.under,Code.cUnits,Code.frames,Code.isFrame]
theorem Room.make {k:Nat}  (r:Room (k+1) A) (C:Addr) (us:List Value) (kw:List (Str×Value)):Room k (A.under (.builtin "type.__call__" %[.ref C::us|kw])):=
 %[r.hd,by simp [Around.under,Code.guards,Code.isGuard,guardIds,pushGuards,r.gd],by have:=r.dp;rw[yw];omega|by have:=r.un;rw[yv];omega]
theorem Room.depth(r:Room k A):A.depth<recursionLimit:=by have:=r.dp;omega
theorem Room.units(r:Room k A):A.units+64<cLine:=by have:=r.un;omega
def BV:TA:=λ_ H Q=>Q [] H
def Gk(ta:TE)(tr:TA):TA:=λσ H Q=>ta σ H λx H1=>tr σ H1 λxs H2=>Q (x::xs) H2
section
variable {X:Cx} {e:Expr} {es:List Expr} {te:TE} {t:TA} {pos:Pos}
theorem ag:PA X [] BV:=λ_ _ _ _ H Q I h=>Calls.spliced_nil %[[],H,I,.nil|h]
theorem aa(ha:PE X e te)(hr:PA X es t)(hs:starEach (e::es) X.env=(false,eval e X.env)::starEach es X.env:=by rfl):PA X (e::es) (Gk te t):=by
 intro pos pins s σ H Q I h;rw[hs];show wpAny _ _ (spliced ((false,eval e X.env)::backTo pos (starEach es X.env))) _ _ s;refine Calls.spliced_cons (thn (ha pins s σ H _ I h) λu s1 ⟨x,H1,I1,r1,q1⟩=>?_);exact thn (hr pos pins s1 σ H1 _ I1 q1) λus s2 ⟨xs,H2,I2,r2,q2⟩=>%[x::xs,H2,I2,.cons r1 r2|q2]
inductive ZtTup(Q:VK)(xs:(List V))(H1:Hp):Prop
 |mk:xs.length<=sizeLine->(∀p,H1 p=none->Q (.ref p) (upd H1 p (.tup xs)))->ZtTup Q xs H1
def tTup(t:TA):TE:=λσ H Q=>t σ H λxs H1=>ZtTup Q xs H1
inductive ZtLst(Q:VK)(xs:(List V))(H1:Hp):Prop
 |mk:xs.length<=sizeLine->(∀p,H1 p=none->Q (.ref p) (upd H1 p (.lst xs)))->ZtLst Q xs H1
def tLst(t:TA):TE:=λσ H Q=>t σ H λxs H1=>ZtLst Q xs H1
theorem aV{x1}(h:PA X es t):PE X (.Tuple es x1 pos) (tTup t):=by
 intro pins s σ H Q I hq;refine wpAny_Tuple_spliced (thn (h pos pins s σ H _ I hq) λus s1 ⟨xs,H1,I1,r,z,q⟩=>%[by rw[←r.length];exact z|6]);have hf:H1 s1.heap.objs.size=none:=I1.hok.fresh (zG0 _);erw[.ref s1.heap.objs.size,upd H1 s1.heap.objs.size (.tup xs),I1.laid (t':=s1.toks) (λb u e=>zR0 _ e) (zG0 _) ?_,1,q _ hf];erw[z,us,r,%[_,qA0 _ rfl,1|0],_,qA0 _ rfl,1]
theorem ca(h:PA X es t):PE X (.List es pos) (tLst t):=by
 intro pins s σ H Q I hq;refine wpAny_List_spliced (thn (h pos pins s σ H _ I hq) λus s1 ⟨xs,H1,I1,r,z,q⟩=>%[by rw[←r.length];exact z|6]);have hf:H1 s1.heap.objs.size=none:=I1.hok.fresh (zG0 _);erw[.ref s1.heap.objs.size,upd H1 s1.heap.objs.size (.lst xs),I1.laid (t':=s1.toks) (λb u e=>zR0 _ e) (zG0 _) ?_,1,q _ hf];erw[z,us,(0),r,qA0 _ rfl]
end
abbrev Sp:=List V->Hp->VK->XK->Prop
abbrev CXT:=List Env->Hp->Shared->XK->Value->Shared->Prop
structure Env0(P:Program)(w:World)(K:W.Frag)(mg:Str->Option Value)(base:Heap)(A:Around)(outer:List Env)(s:Shared)(H:Hp):Prop where
 frames:A.frames=some outer
 mod:Mod K mg base
 bs:∀b o,base.get? b=some o->s.heap.get? b=some o/\H b=none
 bsz:base.objs.size<=s.heap.objs.size
 funs:s.heap.FunFrames base outer
 frf:∀b∈frs outer,H b=none
 hok:HOk P w H s.heap
 bare:AllBare s.gens
def CE(outer:List Env)(P:Program)(w:World)(H:Hp)(s:Shared)(Q:VK)(u:Value)(s':Shared):Prop:=
 ∃v H',s'.os=s.os/\AllBare s'.gens/\Un (frs outer) [] H H' s.heap s'.heap/\HOk P w H' s'.heap/\RelV v u/\Q v H'
def CR(CX:CXT)(outer:List Env)(P:Program)(w:World)(H:Hp)(s:Shared)(Q:VK)(E:XK)(r:Result)(s':Shared):Prop:=
 match r with
 | .ok (.ret u)=>CE outer P w H s Q u s'
 | .ok _=>False
 | .error e=>CX outer H s E e s'
structure FnOk(P:Program)(w:World)(K:W.Frag)(mg:Str->Option Value)(base:Heap)(CX:CXT)(k:Nat)(f:Addr)(fd:FuncData)(ps:List Str)(sp:Sp):Prop where
 len:∀vs H Q E,sp vs H Q E->vs.length=ps.length
 run:∀(A:Around)(outer:List Env)(s:Shared)(H:Hp)(args:Args)(us:List Value)(vs:List V)(Q:VK)(E:XK),Room k A->Env0 P w K mg base A outer s H->BindsTo s fd args (ps.zip us)->Vals vs us->sp vs H Q E ->
  codeAny (model P w) A (.call (.ref f) args) (CR CX outer P w H s Q E) s
theorem Env0.make{K:W.Frag}(e:Env0 P w K mg base A outer s H)(C:Addr)(us:List Value)(kw:List (Str×Value)) :
 Env0 P w K mg base (A.under (.builtin "type.__call__" %[.ref C::us|kw])) outer s H:=⟨by first | exact e.frames | (simpa [Around.under,Code.envs,Code.isFrame,pushEnvs]using e.frames),e.mod,e.bs,e.bsz,e.funs,e.frf,e.hok,e.bare⟩
section
variable {X:Cx} {pins:List (Addr×Obj)} {σ:St} {H:Hp} {s s':Shared}
theorem Inv.env0(I:Inv X pins σ H s):Env0 X.prog X.w X.K X.mg X.base X.A X.stack s H:=
 %[I.ok.frames,I.ok.mod,I.bs,zP0 I.ok.bsz I.sz,I.stack,I.stkFree,I.hok|I.bare]
theorem Inv.after(I:Inv X pins σ H s)(h:CE X.stack X.prog X.w H s Q u s'):EP X pins σ Q u s':=by
 erw[v,H',os,bare,un,hok,r,q]at h;erw[hh,g,d,t,os']at s';obtain rfl:os'=s.os:=os;erw[v,H',I.call (h':=hh) (g':=g) (d':=d) (t':=t) (ch:=[]) un hok bare (λb z=>absurd z (by simp)),r,q]
end
def vp(sp:Sp)(dvs:List V)(E:XK)(t:TA):TE:=λσ H Q=>t σ H λvs H1=>sp (vs++dvs) H1 Q E
inductive ZtMeth(C:Addr)(m:Str)(sp:Sp)(dvs:List V)(E:XK)(t:TA)(σ:St)(Q:VK)(x:V)(H1:Hp):Prop
 |mk:∀a dx fs,x=.ref a->H1 a=some (.ins C dx fs)->fs.lookup m=none->(t σ H1 λvs H2=>sp (x::(vs++dvs)) H2 Q E)->ZtMeth C m sp dvs E t σ Q x H1
def Gj(C:Addr)(m:Str)(sp:Sp)(dvs:List V)(E:XK)(ta:TE)(t:TA):TE:=λσ H Q=>ta σ H λx H1=>ZtMeth C m sp dvs E t σ Q x H1
def tMake(C:Addr)(sp:Sp)(dvs:List V)(E:XK)(t:TA):TE:=λσ H Q=>t σ H λvs H1=>∀x dx,H1 x=none->H1 dx=none->dx≠x ->
 sp (.ref x::(vs++dvs)) (upd (upd H1 dx (.own x)) x (.ins C dx [])) (λv H2=>v=.non/\Q (.ref x) H2) E
def Binds(K:W.Frag)(fd:FuncData)(ps:List Str)(ds:List Value):Prop:=
 ∀(s:Shared)(us:List Value),K.In s.heap->(us++ds).length=ps.length->BindsTo s fd %[us|[]] (ps.zip (us++ds))
theorem Binds.all{K:W.Frag}{fd:FuncData}{ps:List Str}(h:∀us:List Value,us.length=ps.length->bindArgs fd %[us|[]]=pure (ps.zip us)):Binds K fd ps []:=λs us _ hl=>by
 rw[List.append_nil]at hl ⊢;exact .of_eq (h us hl)
def ky(CX:CXT)(X:Cx)(E:XK):Prop:=∀(pins:List (Addr×Obj))(σ:St)(H:Hp)(s:Shared)(e:Value)(s':Shared),Inv X pins σ H s->CX X.stack H s E e s'->X.xe e s'
section
variable {X:Cx} {CX:CXT} {k:Nat} {f C:Addr} {fd:FuncData} {ps:List Str} {sp:Sp} {dvs:List V} {ds:List Value} {E:XK} {x m:Str} {p pos apos:Pos} {e o:Expr} {es:List Expr} {ta:TE} {t:TA}
theorem uA{σ:St}{Q:VK}(F:FnOk X.prog X.w X.K X.mg X.base CX k f fd ps sp)(hr:Room k X.A)(hb:Binds X.K fd ps ds)(hd:Vals dvs ds)(hx:ky CX X E)
 (I:Inv X pins σ H s) (r:Vals vs us) (h:sp (vs++dvs) H Q E):wpAny (model X.prog X.w) X.A (call (.ref f) us) (EP X pins σ Q) X.xe s:=by
 have r2:Vals (vs++dvs) (us++ds):=r.append hd;have hl:(us++ds).length=ps.length:=by rw[←r2.length];exact F.len _ _ _ _ h
 refine wpAny_call (codeAny_mono (F.run X.A X.stack s H %[us|[]] (us++ds) (vs++dvs) Q E hr I.env0 (hb s us I.kIn hl) r2 h) λr s' hq=>?_);cases r with
 | error e=>exact hx pins σ H s e s' I hq
 | ok fl=>
   cases fl with
   | ret u=>exact I.after hq
   | next=>exact False.elim hq
   | brk=>exact False.elim hq
   | cont=>exact False.elim hq
theorem Fo(F:FnOk X.prog X.w X.K X.mg X.base CX k f fd ps sp)(hr:Room k X.A)(hg:Gl X x)(hm:X.mg x=some (.ref f))(hk:PySem.W.keepIn X.K (.ref f)=true)(hb:Binds X.K fd ps ds)(hd:Vals dvs ds)(hx:ky CX X E)
 (ha:PA X (e::es) t) (hdb:(x==("__debug__":Str))=false:=by decide) (he:starEach (e::es) X.env=(false,eval e X.env)::starEach es X.env:=by rfl) (hpl:(backTo pos (starEach es X.env)).any (·.1)=false:=by rfl) :
 PE X (.Call (.Name x p) (e::es) [] pos) (vp sp dvs E t):=by
 intro pins s σ H Q I h;refine wpAny_Call_Name_kw (pY I hg hm ?_ hdb);refine PySem.W.callWith_K (h₀:=X.base) I.ok.mod.kin hk (thn (ha pos pins s σ H _ I h) λus s1 ⟨vs,H1,I1,r,q⟩=>%[I1.kIn|6]) he hpl;exact uA F hr hb hd hx I1 r q
theorem CV(F:FnOk X.prog X.w X.K X.mg X.base CX k f fd ps sp)(hr:Room k X.A)(hg:Gl X x)(hm:X.mg x=some (.ref f))(hk:PySem.W.keepIn X.K (.ref f)=true)(hb:Binds X.K fd ps ds)(hd:Vals dvs ds)(hx:ky CX X E)
 (hdb:(x==("__debug__":Str))=false:=by decide):PE X (.Call (.Name x p) [] [] pos) (vp sp dvs E BV):=by
 intro pins s σ H Q I h;refine wpAny_Call_Name_kw (pY I hg hm ?_ hdb);exact PySem.W.callWith_K0 I.kIn hk (uA (us:=[]) F hr hb hd hx I .nil h)
theorem bY{pl:Sem Bool}(he:PE X o ta)(c:Cls X.K C)(hm:Meth X.K C m f)(F:FnOk X.prog X.w X.K X.mg X.base CX k f fd ps sp)(hr:Room k X.A)(hb:Binds X.K fd ps ds)(hd:Vals dvs ds)(hx:ky CX X E)(ha:PA X (e::es) t)
 (hst:starEach (e::es) X.env=(false,eval e X.env)::starEach es X.env:=by rfl) (hpl:(backTo pos (starEach es X.env)).any (·.1)=false:=by rfl)
 (ht:eval (.Call (.Attribute o m apos) (e::es) [] pos) X.env=(do
  let ov ←eval o X.env
  standAt apos.atName
  let(f,first) ←holding [ov] (getMethod ov m pl)
  callWith pos f first (backTo pos (starEach (e::es) X.env)) (backToKw pos (keywordEach [] X.env))):=by rfl) :
 PE X (.Call (.Attribute o m apos) (e::es) [] pos) (Gj C m sp dvs E ta t):=by
 intro pins s σ H Q I h;refine PySem.W.methodCall_KW (pl:=pl) (thn (he pins s σ H _ I h) λu s1 ⟨x,H1,I1,rx,a,dx,fs,ex,ea,l,q⟩=>?_) ht;subst ex;obtain rfl:u=Value.ref a:=rx;refine rO I1 ea c hm l ?_;refine PySem.W.callWith_K (first:=[.ref a]) (h₀:=X.base) I.ok.mod.kin hm.kp (thn (ha pos pins s1 σ H1 _ I1 q) λus s2 ⟨vs,H2,I2,r,q2⟩=>%[I2.kIn|6]) hst hpl;exact uA (us:=.ref a::us) (vs:=.ref a::vs) F hr hb hd hx I2 (.cons rfl r) q2
theorem bw{pl:Sem Bool}(he:PE X o ta)(c:Cls X.K C)(hm:Meth X.K C m f)(F:FnOk X.prog X.w X.K X.mg X.base CX k f fd ps sp)(hr:Room k X.A)(hb:Binds X.K fd ps ds)(hd:Vals dvs ds)(hx:ky CX X E)
 (ht:eval (.Call (.Attribute o m apos) [] [] pos) X.env=(do
  let ov ←eval o X.env
  standAt apos.atName
  let(f,first) ←holding [ov] (getMethod ov m pl)
  callWith pos f first (backTo pos (starEach [] X.env)) (backToKw pos (keywordEach [] X.env))):=by rfl) :
 PE X (.Call (.Attribute o m apos) [] [] pos) (Gj C m sp dvs E ta BV):=by
 intro pins s σ H Q I h;refine PySem.W.methodCall_KW (pl:=pl) (thn (he pins s σ H _ I h) λu s1 ⟨x,H1,I1,rx,a,dx,fs,ex,ea,l,q⟩=>?_) ht;subst ex;obtain rfl:u=Value.ref a:=rx;refine rO I1 ea c hm l ?_;exact PySem.W.callWith_K0 (first:=[.ref a]) I1.kIn hm.kp (uA (us:=[.ref a]) (vs:=[.ref a]) F hr hb hd hx I1 (.cons rfl .nil) q)
structure Mk(K:W.Frag)(C f:Addr):Prop where
 makes:PySem.W.makesIn K C=true
 init:PySem.W.findIn K (.ref C) "__init__"=some (some (.ref f))
 fn:PySem.W.isFn K (.ref f)=true
 kp:PySem.W.keepIn K (.ref C)=true
theorem Cy{σ:St}{Q:VK}(M:Mk X.K C f)(F:FnOk X.prog X.w X.K X.mg X.base CX k f fd ps sp)(hr:Room (k+1) X.A)(hb:Binds X.K fd ps ds)(hd:Vals dvs ds)
 (hx:ky CX X E) (I:Inv X pins σ H s) (r:Vals vs us)
 (h:∀x dx,H x=none->H dx=none->dx≠x->sp (.ref x::(vs++dvs)) (upd (upd H dx (.own x)) x (.ins C dx [])) (λv H2=>v=.non/\Q (.ref x) H2) E) :
 wpAny (model X.prog X.w) X.A (call (.ref C) us) (EP X pins σ Q) X.xe s:=by
 have hq:=h (s.heap.objs.size+1) s.heap.objs.size (I.hok.fresh (qN0 _)) (I.hok.fresh (zG0 _)) (zV0 (Nat.lt_succ_self _));have I2:=Inv.made (C:=C) I;have r2:Vals (V.ref (s.heap.objs.size+1)::(vs++dvs)) (Value.ref (s.heap.objs.size+1)::(us++ds)):=.cons rfl (r.append hd);have hl:(Value.ref (s.heap.objs.size+1)::us++ds).length=ps.length:=by
  have e:=r2.length;rw[F.len _ _ _ _ hq]at e;exact e.symm
 refine wpAny_call (DJ (f:=f) I.kIn M.makes M.init (beq_iff_eq.mp M.fn) (codeAny_mono (F.run _ X.stack _ _ %[Value.ref (s.heap.objs.size+1)::us|[]] (Value.ref (s.heap.objs.size+1)::(us++ds)) _ _ E (hr.make C us [])
  (I2.env0.make C us []) (hb _ (Value.ref (s.heap.objs.size+1)::us) I2.kIn hl) r2 hq) λr s' hq'=>?_))
 cases r with
 | error e=>exact hx pins σ _ _ e s' I2 hq'
 | ok fl=>
   cases fl with
   | ret u=>
     let%[v,H',I3,rv,ev|q3]:=I2.after hq';subst ev;erw[rv,%[V.ref (s.heap.objs.size+1),H',I3,1|q3]]
   | next=>exact False.elim hq'
   | brk=>exact False.elim hq'
   | cont=>exact False.elim hq'
theorem gJ(M:Mk X.K C f)(F:FnOk X.prog X.w X.K X.mg X.base CX k f fd ps sp)(hr:Room (k+1) X.A)(hg:Gl X x)(hm:X.mg x=some (.ref C))(hb:Binds X.K fd ps ds)(hd:Vals dvs ds)(hx:ky CX X E)
 (ha:PA X (e::es) t) (hdb:(x==("__debug__":Str))=false:=by decide) (he:starEach (e::es) X.env=(false,eval e X.env)::starEach es X.env:=by rfl) (hpl:(backTo pos (starEach es X.env)).any (·.1)=false:=by rfl) :
 PE X (.Call (.Name x p) (e::es) [] pos) (tMake C sp dvs E t):=by
 intro pins s σ H Q I h;refine wpAny_Call_Name_kw (pY I hg hm ?_ hdb);refine PySem.W.callWith_K (h₀:=X.base) I.ok.mod.kin M.kp (thn (ha pos pins s σ H _ I h) λus s1 ⟨vs,H1,I1,r,q⟩=>%[I1.kIn|6]) he hpl;exact Cy M F hr hb hd hx I1 r q
end
structure FnScope(N P:List Str)(sc:Scope):Prop where
 kind:sc.kind=.function
 co:sc.isCoroutine=false
 gen:sc.isGenerator=false
 nd:N.Nodup
 pre:N.take P.length=P
 par:∀x∈P,sc.names.lookup x=some .local∨sc.names.lookup x=some .cell
 nofree:∀y∈sc.names,y.2≠.free
theorem tH{kindOf:Str->Option NameKind}{x:Str}:∀{binds:List (Str×Value)}{m:Str->Option Value},(∀v,(x,v)∉binds)->bindL kindOf binds m x=m x
 | [],_,_=>rfl
 | (n,v)::r,m,h=>by
   unfold bindL;rw[tH λw hw=>h w (qJ0 _ hw)]
   split
   . have:x≠n:=by rintro rfl;exact h v qB0
     simp [this]
   . rfl
theorem tJ{kindOf:Str->Option NameKind}{x:Str}:∀{binds:List (Str×Value)}{m:Str->Option Value},(∀v,(x,v)∉binds)->bindC kindOf binds m x=m x
 | [],_,_=>rfl
 | (n,v)::r,m,h=>by
   unfold bindC;rw[tJ λw hw=>h w (qJ0 _ hw)]
   split
   . rfl
   . have:x≠n:=by rintro rfl;exact h v qB0
     simp [this]
theorem tI{kindOf:Str->Option NameKind}{x:Str}{v:Value}:∀{P:List Str}{vs:List Value}{i:Nat}{m:Str->Option Value},P.Nodup->P[i]?=some x->vs[i]?=some v->kindOf x=some .local ->
 bindL kindOf (P.zip vs) m x=some v
 | [],_,_,_,_,h,_,_=>by simp at h
 | _::_,[],_,_,_,_,h,_=>by simp at h
 | p::P,w::vs,0,m,nd,h1,h2,hk=>by
   simp at h1 h2;subst h1;subst h2
   show bindL kindOf ((p,w)::P.zip vs) m p=_;unfold bindL;rw[tH λv hv=>(List.nodup_cons.mp nd).1 (List.of_mem_zip hv).1,zC0 hk]
   simp
 | p::P,w::vs,i+1,m,nd,h1,h2,hk=>by
   show bindL kindOf ((p,w)::P.zip vs) m x=_;unfold bindL;exact tI (i:=i) (List.nodup_cons.mp nd).2 (by simpa using h1) (by simpa using h2) hk
theorem tK{kindOf:Str->Option NameKind}{x:Str}{v:Value}:∀{P:List Str}{vs:List Value}{i:Nat}{m:Str->Option Value},P.Nodup->P[i]?=some x->vs[i]?=some v->kindOf x≠some .local ->
 bindC kindOf (P.zip vs) m x=some v
 | [],_,_,_,_,h,_,_=>by simp at h
 | _::_,[],_,_,_,_,h,_=>by simp at h
 | p::P,w::vs,0,m,nd,h1,h2,hk=>by
   simp at h1 h2;subst h1;subst h2
   show bindC kindOf ((p,w)::P.zip vs) m p=_;unfold bindC;rw[tJ λv hv=>(List.nodup_cons.mp nd).1 (List.of_mem_zip hv).1,zA0 hk]
   simp
 | p::P,w::vs,i+1,m,nd,h1,h2,hk=>by
   show bindC kindOf ((p,w)::P.zip vs) m x=_;unfold bindC;exact tK (i:=i) (List.nodup_cons.mp nd).2 (by simpa using h1) (by simpa using h2) hk
def oQ(N:List Str)(vs:List V):St:=vs.map some++List.replicate (N.length-vs.length) none
def Bx(CX:CXT)(P:Program)(w:World)(K:W.Frag)(mg:Str->Option Value)(base:Heap)(N:List Str)(qual:Str)(scope:Scope)(f:Addr)(cd:Value)(A:Around)(outer:List Env)(s:Shared)(H:Hp)(E:XK):Cx where
 prog:=P
 w:=w
 K:=K
 mg:=mg
 base:=base
 A:=A.deeper (envOfC qual scope s.heap.objs.size f cd)
 N:=N
 s₀:=s
 H₀:=H
 env:=envOfC qual scope s.heap.objs.size f cd
 outer:=outer
 stack:=envOfC qual scope s.heap.objs.size f cd::outer
 ex:=[]
 calm:=true
 fn:=λ_=>true
 pn:=[]
 xe:=λe s'=>wpAny (model P w) (A.deeper (envOfC qual scope s.heap.objs.size f cd)) (leaving (envOfC qual scope s.heap.objs.size f cd) e) (λ_ s''=>CX outer H s E e s'') (λe' s''=>CX outer H s E e' s'') s'
theorem wJ{sc:Scope}{n:Nat}{x:Str}(h:sc.names.lookup x=some .cell):∃c,(cellsFrom n sc.names []).lookup x=some c:=by
 have q:=PySem.W.cellsFrom_some sc.names n [] (.inl h);exact Option.isSome_iff_exists.mp q
theorem Bi{K:W.Frag}{qual:Str}{f:Addr}{cd:Value}{A:Around}{s1:Shared}{vs:List V}
 (S:FnScope N ps scope) (hd:A.handled=none) (e0:Env0 P w K mg base A outer s H) (hl:vs.length=ps.length) (r:Vals vs us)
 (x:InCallC s s.heap.objs.size (bindL (envOfC qual scope s.heap.objs.size f cd).kindOf (ps.zip us) λ_=>none) (cellsFrom (s.heap.objs.size+1) scope.names []) (bindC (envOfC qual scope s.heap.objs.size f cd).kindOf (ps.zip us) λ_=>none) s1) :
 Inv (Bx CX P w K mg base N qual scope f cd A outer s H E) [] (oQ N vs) H s1:=by
 have hpl:ps.length<=N.length:=by have:=congrArg List.length S.pre;rw[qK0]at this;omega
 erw[h1,tk,1,hk]at x.done;have noA:∀b:Addr,b∉(Bx CX P w K mg base N qual scope f cd A outer s H E).ex:=λb z=>absurd (show b∈([]:List Addr)from z) (by simp)
 erw[%[e0.mod,S.kind,1,1,zG0 _,λy z c h1 h2=>?_,λy hy=>?_,λy c _ h=>?_,λ_=>hd,Around.frames_deeper e0.frames,.inr %[1|1],λb z=>absurd z (noA b),e0.bs,e0.bsz,λb _ _=>noA b,λb z=>absurd z (noA b),e0.funs|e0.frf],1,e0.bare,Un.kept hk,%[_,x.toInCall.ns|λi y v h1 h2 h3=>?_],λy c h=>%[_|x.cell y c h],e0.hok.fresh (zG0 _),λy c h=>?_,λp hp=>absurd (show p∈([]:List (Addr×Obj))from hp) (by simp),e0.hok.kept hk,6]
 . exact name_of_addr x.apart (PySem.mem_of_lookup h1) (PySem.mem_of_lookup h2)
 . have hy:scope.names.lookup y=some .cell∨scope.names.lookup y=some .free:=hy;rcases hy with hy | hy
   . exact wJ hy
   . exact absurd rfl (S.nofree _ (PySem.mem_of_lookup hy))
 . exact Nat.le_of_lt (x.above y c (PySem.mem_of_lookup h))
 . have hi:i<vs.length:=by
    unfold oQ at h2
    by_cases hi:i<vs.length
    . exact hi
    . rw [List.getElem?_append_right (by simpa using hi)]at h2;rw[List.getElem?_replicate]at h2
      split at h2 <;> cases h2
   have ha:vs[i]?=some v:=by
    unfold oQ at h2;rw[List.getElem?_append_left (by simpa using hi),zZ0]at h2;cases e:vs[i]? with
    | none=>rw[e]at h2;cases h2
    | some a=>rw[e]at h2;cases h2;rfl
   let%[u,hu|rv]:=r.get ha;have hp:ps[i]?=some y:=by
    rw[←S.pre,List.getElem?_take_of_lt #[0]];exact h1
   have ndP:ps.Nodup:=by rw[←S.pre];exact S.nd.sublist (List.take_sublist _ _)
   erw[u,rv,6];rcases S.par y (qH0 hp)with k | k
   . exact .inl %[k|tI ndP hp hu k]
   . let%[c|e]:=wJ (n:=s.heap.objs.size+1) k;refine .inr %[.inl k,c,e|6];have q:=x.cell y c e;rw[tK ndP hp hu (by show scope.names.lookup y≠_;rw[k];decide)]at q;exact q
 . exact e0.hok.fresh (Nat.le_of_lt (x.above y c (PySem.mem_of_lookup h)))
 . unfold oQ;show _=N.length;rw[zJ0,zF0,List.length_replicate];omega
theorem fn_of{K:W.Frag}{f:Addr}{name qual:Str}{params:Arguments}{body:List Stmt}{scope:Scope}{dV kV doc pm cdv ct oc:Value}{an od:Option Addr}
 {osl:Array (Option Value)}  {sp:Sp} (lk:K.lookup f=some %[oc,od,.func (PySem.W.fnOf name qual params body scope dV kV doc pm an cdv ct)|osl]) (hcd:PySem.W.codeIn K cdv qual=true) (S:FnScope N ps scope)
 (len:∀vs H Q E,sp vs H Q E->vs.length=ps.length)
 (hbody:∀(A:Around)(outer:List Env)(s:Shared)(H:Hp)(vs:List V)(Q:VK)(E:XK),Room k (A.deeper (envOfC qual scope s.heap.objs.size f cdv))->sp vs H Q E ->
  ∃t,PSs (Bx CX P w K mg base N qual scope f cdv A outer s H E) body t/\t { nx:=λ_ H'=>Q .non H',rt:=Q } (oQ N vs) H) :
 FnOk P w K mg base CX (k+1) f (PySem.W.fnOf name qual params body scope dV kV doc pm an cdv ct) ps sp:=by
 erw[len,λA outer s H args us vs Q E hr e0 hb r hsp=>?_];have hl:=len _ _ _ _ hsp;have KX:K.In s.heap:=e0.mod.kin.keeps λb o e=>(e0.bs b o e).1
 have lim:s.heap.NoLimit:=e0.mod.nolimit.keeps λb o e=>(e0.bs b o e).1
 have hkind:∀y∈ps.zip us,scope.names.lookup y.1=some .local∨(scope.names.lookup y.1=some .cell/\((cellsFrom (s.heap.objs.size+1) scope.names []).lookup y.1).isSome=true):=fun⟨n,v⟩ hy=>by
  rcases S.par n (List.of_mem_zip hy).1 with q | q
  . exact .inl q
  . exact .inr %[q|PySem.W.cellsFrom_some _ _ _ (.inl q)]
 refine codeAny_call_function hr.depth (KX _ _ lk) rfl S.co S.gen rfl (PySem.W.codeRec_of KX hcd) (hb _ _ _ _ ?_);refine wpAny_newFunctionEnv_cells S.kind hkind λenv he s1 x=>?_
 subst he;erw[lim.keeps x.toInCall.keep,codeAny_func ?_];let%[t,ht|hq]:=hbody A outer s H vs Q E (hr.deeper _) hsp;have I:Inv (Bx CX P w K mg base N qual scope f cdv A outer s H E) [] (oQ N vs) H s1:=Bi S hr.hd e0 hl r x;refine wpAny_mono (ht [] s1 (oQ N vs) H _ I hq) (λfl s' hs=>?_) λe s' hs=>hs
 have fin:∀{σ':St}{H':Hp}{v:V}{u:Value},Inv (Bx CX P w K mg base N qual scope f cdv A outer s H E) [] σ' H' s'->RelV v u->Q v H'->CE outer P w H s Q u s':=
  fun{σ' H' v u} J rv q=>%[v,H',J.os,J.bare,J.base,J.hok,rv|q]
 cases fl with
 | ret u=>
   erw[v,σ',H',J,rv,q]at hs;exact fin J rv q
 | next=>
   erw[σ',H',J,q]at hs;exact fin (v:=V.non) (u:=Value.none) J rfl q
 | brk=>
   erw[_,_,_,q]at hs;exact False.elim q
 | cont=>
   erw[_,_,_,q]at hs;exact False.elim q
section
variable {X:Cx} {x:Str} {p pos:Pos} {e:Expr} {es:List Expr} {t:TA} {id T:String} {r:List V->Hp->VK->Prop}
def tCB(r:List V->Hp->VK->Prop)(t:TA):TE:=λσ H Q=>t σ H λvs H1=>r vs H1 Q
theorem aM (hc:gC X (.builtin id) r) (hg:Gl X x) (hm:X.mg x=none) (hv:bootBuiltins x=some (.builtin id)) (ha:PA X (e::es) t) (hn:x≠"__name__":=by decide) (hdb:(x==("__debug__":Str))=false:=by decide)
 (he:starEach (e::es) X.env=(false,eval e X.env)::starEach es X.env:=by rfl) (hpl:(backTo pos (starEach es X.env)).any (·.1)=false:=by rfl):PE X (.Call (.Name x p) (e::es) [] pos) (tCB r t):=by
 intro pins s σ H Q I h;refine wpAny_Call_Name_kw (iq I hg hm hv ?_ hn hdb);exact PyProof.Rows.callWith_builtin1 (thn (ha pos pins s σ H _ I h) λus s1 ⟨vs,H1,I1,r1,q1⟩=>hc pins s1 σ H1 vs us Q I1 r1 q1) he hpl
theorem bh (hc:gC X (.type T) r) (hg:Gl X x) (hm:X.mg x=none) (hv:bootBuiltins x=some (.type T)) (ha:PA X (e::es) t) (hn:x≠"__name__":=by decide) (hdb:(x==("__debug__":Str))=false:=by decide)
 (he:starEach (e::es) X.env=(false,eval e X.env)::starEach es X.env:=by rfl) (hpl:(backTo pos (starEach es X.env)).any (·.1)=false:=by rfl):PE X (.Call (.Name x p) (e::es) [] pos) (tCB r t):=by
 intro pins s σ H Q I h;refine wpAny_Call_Name_kw (iq I hg hm hv ?_ hn hdb);exact PyProof.Rows.callWith_type1 (thn (ha pos pins s σ H _ I h) λus s1 ⟨vs,H1,I1,r1,q1⟩=>hc pins s1 σ H1 vs us Q I1 r1 q1) he hpl
end
end L2
namespace HT
open PySem PyProof.Rows
section
variable {prog:Program} {w:World} {A:Around} {E:Value->Shared->Prop} {s:Shared}
theorem cat_tup{t b:Addr}{vs ws:List Value}{Q:Value->Shared->Prop}(ht:IsTup s.heap t vs.toArray)(hb:IsTup s.heap b ws.toArray)(hv:vs≠[])
 (h1:ws=[]->Q (.ref t) s) (h2:ws≠[]->Q (.ref s.heap.objs.size) { s with heap:=s.heap.push { cls:=.type "tuple",data:=.seq (vs++ws).toArray } })
 (hsz:vs.length+ws.length<=sizeLine):wpAny (model prog w) A (binaryOp .Add (.ref t) (.ref b)) Q E s:=by
 let%[%[cls,dd,data|sl],ho,hc,n|hd]:=id ht;let%[%[cls2,dd2,data2|sl2],ho2,hc2,n2|hd2]:=id hb;simp only at hc hd hc2 hd2;subst hc hd hc2 hd2;have e:vs.toArray++ws.toArray=(vs++ws).toArray:=by simp
 by_cases hw:ws=[]
 . exact concat_meets %[_,ho|1] ⟨_,ho2,rfl⟩ noFill_tuple_add seq_tuple_add PySem.F.slot_tuple_add PySem.F.entry_tuple_add (PySem.F.args_tuple_add_2 _ _)
    (tuple_addW1 t b vs.toArray ws.toArray n n2 dd dd2 sl sl2 (by simpa using hv) (by simp [hw])) %[ho,ho2|h1 hw]
 . refine concat_meets %[_,ho|1] ⟨_,ho2,rfl⟩ noFill_tuple_add seq_tuple_add PySem.F.slot_tuple_add PySem.F.entry_tuple_add (PySem.F.args_tuple_add_2 _ _)
    (tuple_addW2 t b vs.toArray ws.toArray n n2 dd dd2 sl sl2 (by simpa using hv) (by simpa using hw) (by rw[zQ0,zQ0];exact hsz)) %[ho,ho2|6]
   rw[e];exact h2 hw
def sIx(n d:Nat):Option Int->Nat
 | none=>d
 | some v=>if v<0 then(v+(n:Int)).toNat else min v.toNat n
theorem sIx_none(n d:Nat):sIx n d none=d:=rfl
theorem sIx_nat(n d k:Nat):sIx n d (some (k:Int))=min k n:=by
 show(if(k:Int)<0 then((k:Int)+(n:Int)).toNat else min (k:Int).toNat n)=min k n;rw[zA0 #[0],qS0]
theorem Hk(n d:Nat)(hd:d<=n)(o:Option Int):sIx n d o<=n:=by
 cases o with
 | none=>exact hd
 | some v=>
   show(if v<0 then(v+(n:Int)).toNat else min v.toNat n)<=n
   by_cases hv:v<0
   . rw[zC0 hv];omega
   . rw[zA0 hv];exact Nat.min_le_right _ _
theorem zN(v:Int)(n d:Nat):(if v<0 then max (v+(n:Int)) 0 else min v (n:Int))=((sIx n d (some v):Nat):Int):=by
 show(if v<0 then max (v+(n:Int)) 0 else min v (n:Int))=(((if v<0 then(v+(n:Int)).toNat else min v.toNat n):Nat):Int)
 by_cases hv:v<0
 . simp only[zC0 hv];omega
 . simp only[zA0 hv];omega
theorem yP(lo hi:Option Int)(n:Nat):Builtin.Slice.sliceAdjust lo hi 1 (n:Int)=(((sIx n 0 lo:Nat):Int),((sIx n n hi:Nat):Int)):=by
 have h1:¬ ((1:Int)<0):=by omega
 unfold Builtin.Slice.sliceAdjust;simp only[h1,if_false];refine Prod.ext ?_ ?_
 . cases lo with
   | none=>rfl
   | some v=>exact zN v n 0
 . cases hi with
   | none=>rfl
   | some v=>exact zN v n n
theorem xS(i j:Nat):Builtin.Slice.slicePlaces (i:Int) (j:Int) 1=j-i:=by
 unfold Builtin.Slice.slicePlaces;have h1:(1:Int)>0:=by omega
 simp only[h1,if_true,Int.ediv_one]
 split <;> omega
theorem qt{v:Value}{o:Option Int}{Q:Option Int->Shared->Prop}(p:IsPart v o)(h:Q o s):wpAny (model prog w) A (Builtin.Slice.slicePartIndex v) Q E s:=by
 cases p with
 | none=>exact slicePart_none h
 | int i t=>exact slicePart_int h
theorem iO{sl:Addr}{vl vu:Value}{lo hi:Option Int}{Q:Int×Int×Nat->Shared->Prop}(hs:s.heap.IsSliceOf sl vl vu .none)(pl:IsPart vl lo)(pu:IsPart vu hi)
 (h:Q (((sIx n 0 lo:Nat):Int),1,sIx n n hi-sIx n 0 lo) s):wpAny (model prog w) A (Builtin.Slice.sliceApplied (.ref sl) (pure (n:Int))) Q E s:=by
 let%[os,hos,hcs|hds]:=id hs;unfold Builtin.Slice.sliceApplied Builtin.Slice.sliceFields;refine zD0 (zD0 (wpAny_field hos hds (x:=vl) rfl (zD0 (wpAny_field hos hds (x:=vu) rfl (zD0 (wpAny_field hos hds (x:=.none) rfl (zI0 ?_)))))));refine zD0 (slicePart_none ?_);show wpAny _ _ (if((1:Int)==0)=true then _ else _) _ _ s;rw[zA0 ⋯];refine zD0 (qt pl (zD0 (qt pu (zD0 (zI0 ?_)))));show wpAny _ _ (match Builtin.Slice.sliceAdjust lo hi 1 (n:Int)with | (lo,hi)=>pure (lo,(1:Int),Builtin.Slice.slicePlaces lo hi 1)) _ _ s;rw[yP lo hi n];show wpAny _ _ (pure (((sIx n 0 lo:Nat):Int),(1:Int),Builtin.Slice.slicePlaces ((sIx n 0 lo:Nat):Int) ((sIx n n hi:Nat):Int) 1)) _ _ s;rw[xS];exact zI0 h
theorem CN(xs:Array Value)(i k:Nat):((List.range k).filterMap fun(m:Nat)=>xs[((i:Int)+(m:Int)*1).toNat]?).toArray=((xs.toList.drop i).take k).toArray:=by
 have e:(fun(m:Nat)=>xs[((i:Int)+(m:Int)*1).toNat]?)=λm=>xs[i+m]?:=by
  funext m
  have:((i:Int)+(m:Int)*1).toNat=i+m:=by omega
  rw[this]
 rw[e]
 have:=pick_run xs i k
 rw[List.filterMap_map]at this;have e2:((λx=>xs[x]?) ∘ λx=>i+x)=λm=>xs[i+m]?:=rfl
 rw[e2]at this;rw[this]
theorem getItem_tuple_cut{t sl:Addr}{items:Array Value}{vl vu:Value}{lo hi:Option Int}{Q:Value->Shared->Prop}(ht:IsTup s.heap t items)(hs:s.heap.IsSliceOf sl vl vu .none)(pl:IsPart vl lo)(pu:IsPart vu hi)
 (hw:¬ (sIx items.size 0 lo=0/\sIx items.size items.size hi=items.size))
 (h:Q (.ref s.heap.objs.size) { s with heap:=s.heap.push { cls:=.type "tuple",data:=.seq ((items.toList.drop (sIx items.size 0 lo)).take (sIx items.size items.size hi-sIx items.size 0 lo)).toArray } })
 (hsz:items.size<=sizeLine):wpAny (model prog w) A (getItem (.ref t) (.ref sl)) Q E s:=by
 have htake:sizeOk (.seq ((items.toList.drop (sIx items.size 0 lo)).take (sIx items.size items.size hi-sIx items.size 0 lo)).toArray):=by
  show((items.toList.drop (sIx items.size 0 lo)).take (sIx items.size items.size hi-sIx items.size 0 lo)).toArray.size<=sizeLine;rw[zQ0,qK0,List.length_drop,Array.length_toList];omega
 have hj:sIx items.size items.size hi<=items.size:=Hk _ _ (zG0 _) hi;let%[os,hos,hcs|hds]:=id hs;have hTs:s.TypeIs (.ref sl) "slice":=%[os,hos|hcs]
 unfold getItem
 try with_reducible refine wpAny_holding ?_
 first | refine zD0 (zI0 ?_) | skip
 refine zD0 (wpAny_sequenceKey ht.typeIs ⋯ ?_);refine zD0 (wpAny_callSpecial?_slot (name:=Str.ofString "__getitem__") ht.typeIs PyProof.Rows.slot_tuple_getitem
  (wpAny_call_entry PyProof.Rows.slot_tuple_getitem ht.typeIs entry_tuple_getitem ?_ (args_tuple_getitem _ _)))
 show wpAny _ _ (Builtin.Tuple.tupleItemsOf (.ref t) >>= _) _ _ s;refine zD0 (tupleItemsOf_ ht ?_);refine zD0 (wpAny_typeOf hTs ?_);rw[zC0 ⋯];refine zD0 (iO hs pl pu ?_);have hno:¬ ((((sIx items.size 0 lo:Nat):Int)==0&&(1:Int)==1&&(sIx items.size items.size hi-sIx items.size 0 lo)==items.size)=true):=by
  intro q;rw[Bool.and_eq_true,Bool.and_eq_true]at q;have q1:((sIx items.size 0 lo:Nat):Int)=0:=eq_of_beq q.1.1;have q2:sIx items.size items.size hi-sIx items.size 0 lo=items.size:=eq_of_beq q.2;exact hw %[3|3]
 show wpAny _ _ (if(((sIx items.size 0 lo:Nat):Int)==0&&(1:Int)==1&&(sIx items.size items.size hi-sIx items.size 0 lo)==items.size)=true then _ else _) _ _ s;rw[zA0 hno,CN]
 first
  | exact zD0 (m:=Builtin.Tuple.tupleExact _) (wpAny_newObj_type (zI0 ⟨_,rfl,zI0 h⟩) htake)
  | exact zD0 (m:=Builtin.Tuple.tupleExact _) (wpAny_newObj_type (zD0 (zI0 (zI0 ⟨_,rfl,zI0 h⟩))) htake)
  | exact zD0 (zD0 (m:=Builtin.Tuple.tupleExact _) (wpAny_newObj_type (zI0 (zI0 ⟨_,rfl,zI0 h⟩)) htake))
  | exact zD0 (zD0 (m:=Builtin.Tuple.tupleExact _) (wpAny_newObj_type (zI0 ⟨_,rfl,zI0 h⟩) htake))
end
end HT
namespace L2
open PySem PySem.Spec PyProof.Rows
abbrev TO:=St->Hp->(Option Int->Hp->Prop)->Prop
def PO(X:Cx)(e:Option Expr)(t:TO):Prop:=
 ∀(pins:List (Addr×Obj))(s:Shared)(σ:St)(H:Hp)(Q:Option Int->Hp->Prop),Inv X pins σ H s->t σ H Q ->
  wpAny (model X.prog X.w) X.A (evalPart e X.env) (λu s'=>∃o H',Inv X pins σ H' s'/\IsPart u o/\Q o H') X.xe s
def EO:TO:=λ_ H Q=>Q none H
inductive ZtPart(Q:(Option Int->Hp->Prop))(x:V)(H1:Hp):Prop
 |mk:∀i,x=.int i->Q (some i) H1->ZtPart Q x H1
def tPart(t:TE):TO:=λσ H Q=>t σ H λx H1=>ZtPart Q x H1
section
variable {X:Cx} {e:Expr} {te:TE} {lo hi:Option Expr} {tl th:TO} {pos p2:Pos}
theorem jy:PO X none EO:=by
 intro pins s σ H Q I h;rw[evalPart_none];exact zI0 %[none,H,I,.none|h]
theorem eJ(h:PE X e te):PO X (some e) (tPart te):=by
 intro pins s σ H Q I hw;rw[evalPart_some];refine thn (h pins s σ H _ I hw) λu s1 ⟨x,H1,I1,r1,q1⟩=>?_
 erw[i,1,q]at q1;erw[t,1]at r1;erw[some i,H1,I1,.int i t,q]
def SlR(X:Cx)(r:V->Option Int->Option Int->Hp->VK->Prop):Prop:=
 ∀(pins:List (Addr×Obj))(s:Shared)(σ:St)(H:Hp)(x:V)(v vl vu:Value)(lo hi:Option Int)(sl:Addr)(Q:VK),Inv X pins σ H s->RelV x v->s.heap.IsSliceOf sl vl vu .none->IsPart vl lo->IsPart vu hi->r x lo hi H Q ->
  ∃T id,typeLookup (.type T) "__getitem__"=pure (some (.builtin id))/\s.TypeIs v T/\wpAny (model X.prog X.w) X.A (getItem v (.ref sl)) (EP X pins σ Q) X.xe s
def tSl(r:V->Option Int->Option Int->Hp->VK->Prop)(te:TE)(tl th:TO):TE:=λσ H Q=>te σ H λx H1=>tl σ H1 λl H2=>th σ H2 λu H3=>r x l u H3 Q
theorem eK(hr:SlR X r)(he:PE X e te)(hl:PO X lo tl)(hu:PO X hi th):PE X (.Subscript e (.Slice lo hi none p2) pos) (tSl r te tl th):=by
 intro pins s σ H Q I h;refine Subscript_ (thn (he pins s σ H _ I h) λv s1 ⟨x,H1,I1,r1,q1⟩=>?_);refine wpAny_Slice (thn (hl pins s1 σ H1 _ I1 q1) λvl s2 ⟨l,H2,I2,pl,q2⟩=>thn (hu pins s2 σ H2 _ I2 q2) λvu s3 ⟨u,H3,I3,pu,q3⟩=>?_);rw[evalPart_none];refine zI0 ?_;have I4:Inv X pins σ H3 { s3 with heap:=s3.heap.push { cls:=.type "slice",data:=.fields #[vl,vu,.none] } }:=I3.kept (t':=s3.toks) λb ob q=>zR0 _ q
 let%[T,id,hT,ht|hg]:=hr pins { s3 with heap:=s3.heap.push { cls:=.type "slice",data:=.fields #[vl,vu,.none] } } σ H3 x v vl vu l u s3.heap.objs.size Q I4 r1 (Heap.IsSliceOf.new ..) pl pu q3;show wpAny (model X.prog X.w) X.A (subscriptTail e (.Slice lo hi none p2) v (.ref s3.heap.objs.size)) (EP X pins σ Q) X.xe { s3 with heap:=s3.heap.push { cls:=.type "slice",data:=.fields #[vl,vu,.none] } };exact tail_any (ops:=[.ref s3.heap.objs.size,v]) ht hT hg (by rfl')
def iM(xs:List V)(lo hi:Option Int):List V:=(xs.drop (HT.sIx xs.length 0 lo)).take (HT.sIx xs.length xs.length hi-HT.sIx xs.length 0 lo)
theorem pB(xs:List V)(lo hi:Option Int):(iM xs lo hi).length<=xs.length:=by
 unfold iM;rw[qK0,List.length_drop];omega
inductive rSlT(K:W.Frag)(x:V)(lo:Option Int)(hi:Option Int)(H:Hp)(Q:VK):Prop
 |mk:∀a xs,x=.ref a->SqT K H a xs->(¬ (HT.sIx xs.length 0 lo=0/\HT.sIx xs.length xs.length hi=xs.length))->(∀p,H p=none->Q (.ref p) (upd H p (.tup (iM xs lo hi))))->rSlT K x lo hi H Q
theorem tS:SlR X (rSlT X.K):=by
 intro pins s σ H x v vl vu lo hi sl Q I rx hs pl pu h;erw[a,xs,1,hx,hw,q]at h;cases rx;let%[its,r,ht|hz]:=I.tuple hx;have hlen:its.toArray.size=xs.length:=by rw[zQ0];exact r.length.symm
 erw["tuple",_,PyProof.Rows.slot_tuple_getitem.lookup,ht.typeIs,6];refine HT.getItem_tuple_cut ht hs pl pu (by rw[hlen];exact hw) ?_ (by rw[hlen];exact hz);rw[hlen];erw[.ref s.heap.objs.size,_,I.laid (t':=s.toks) (o:=.tup (iM xs lo hi)) (λb ob q=>zR0 _ q) (zG0 _) ?_,1,q _ (I.hok.fresh (zG0 _))];erw[zP0 (pB xs lo hi) hz,_,(r.drop (HT.sIx xs.length 0 lo)).take (HT.sIx xs.length xs.length hi-HT.sIx xs.length 0 lo),IsTup.new _ _,_,qA0 _ rfl,1]
inductive rCatT(K:W.Frag)(x:V)(y:V)(H:Hp)(Q:VK):Prop
 |mk:∀a b xs ys,x=.ref a->y=.ref b->SqT K H a xs->SqT K H b ys->xs≠[]->xs.length+ys.length<=sizeLine->(ys=[]->Q (.ref a) H)->(ys≠[]->∀p,H p=none->Q (.ref p) (upd H p (.tup (xs++ys))))->rCatT K x y H Q
theorem Vals.nil_iff(r:Vals xs us):us=[]↔xs=[]:=by
 cases r with
 | nil=>simp
 | cons _ _=>simp
theorem op_catT:OpR X (binaryOp .Add) (rCatT X.K):=by
 intro pins s σ H x y v u Q I rx ry h;erw[a,b,xs,ys,1,1,ha,hb,hx,hz,q1,q2]at h;cases rx;cases ry;let%[its,r1,p1|_]:=I.tuple ha;let%[its2,r2,p2|_]:=I.tuple hb;refine HT.cat_tup p1 p2 (λz=>hx (r1.nil_iff.mp z)) (λz=>%[.ref a,H,I,1|q1 (r2.nil_iff.mp z)]) (λz=>?_) (by rw[←r1.length,←r2.length];exact hz);erw[.ref s.heap.objs.size,_,I.laid (t':=s.toks) (o:=.tup (xs++ys)) (λb ob q=>zR0 _ q) (zG0 _) ?_,1,q2 (λw=>z (r2.nil_iff.mpr w)) _ (I.hok.fresh (zG0 _))];erw[by rw[zJ0];exact hz,_,r1.append r2,IsTup.new _ _,_,qA0 _ rfl,1]
end
def ixN(n:Nat)(i:Int):Option Nat:=if 0<=i then(if i<n then some i.toNat else none)else if -(n:Int)<=i then some (i+n).toNat else none
def atI{α:Type}(xs:List α)(i:Int):Option α:=(ixN xs.length i).bind λj=>xs[j]?
theorem uY{j:Nat}(h:ixN n i=some j):seqIndex? i n=some j/\j<n/\-(n:Int)<=i/\i<n:=by
 unfold ixN at h
 by_cases h0:0<=i
 . rw [zC0 h0]at h
   by_cases h1:i<n
   . rw[zC0 h1]at h;have e:i.toNat=j:=zT0 h;erw[by rw[seqIndex_of h0 h1,e],3,3,h1]
   . rw[zA0 h1]at h;cases h
 . rw [zA0 h0]at h
   by_cases h1:-(n:Int)<=i
   . rw[zC0 h1]at h;have e:(i+n).toNat=j:=zT0 h;erw[by rw[seqIndex_neg #[0] h1,e],3,h1,3]
   . rw[zA0 h1]at h;cases h
theorem vh{α:Type}{xs:List α}{v:α}(h:atI xs i=some v):∃j,seqIndex? i xs.length=some j/\xs[j]?=some v/\j<xs.length/\-(xs.length:Int)<=i/\i<xs.length:=by
 unfold atI at h;cases e:ixN xs.length i with
 | none=>rw[e]at h;cases h
 | some j=>
   rw[e]at h;let%[h1,h2,h3|h4]:=uY e;erw[j,h1,h,h2,h3,h4]
theorem cE{α:Type}{xs:List α}{j:Nat}{v:α}(h:xs[j]?=some v):atI xs (j:Int)=some v:=by
 have hj:j<xs.length:=(zX0 h).1;have e:ixN xs.length (j:Int)=some j:=by
  unfold ixN;rw[zC0 #[0],zC0 #[0]];simp
 unfold atI;rw[e];exact h
theorem wP{α:Type}(xs:List α)(v:α):atI (xs++[v]) (-1)=some v:=by
 have hl:(xs++[v]).length=xs.length+1:=by simp
 have e:ixN (xs++[v]).length (-1)=some xs.length:=by
  unfold ixN;rw[hl,zA0 ⋯,zC0 #[0]]
  congr 1
  omega
 unfold atI;rw[e];show(xs++[v])[xs.length]?=some v
 simp
def Ge(b:Expr):Prop:=∀o i,subscripted b false o i=operate [o,i] (getItem o i)
def IxR(X:Cx)(r:R2):Prop:=
 ∀(value slice:Expr)(pins:List (Addr×Obj))(s:Shared)(σ:St)(H:Hp)(x y:V)(v u:Value)(Q:VK),Inv X pins σ H s->RelV x v->RelV y u->r x y H Q ->
  subscripted slice false v u=operate [v,u] (getItem v u)->wpAny (model X.prog X.w) X.A (subscriptTail value slice v u) (EP X pins σ Q) X.xe s
def MtR(X:Cx)(id:String)(r:V->List V->Hp->VK->Prop):Prop:=
 ∀(pins:List (Addr×Obj))(s:Shared)(σ:St)(H:Hp)(x:V)(xs:List V)(v:Value)(us:List Value)(Q:VK),Inv X pins σ H s->RelV x v->Vals xs us->r x xs H Q ->
  wpAny (model X.prog X.w) X.A (call (.builtin id) (v::us)) (EP X pins σ Q) X.xe s
section
variable {X:Cx} {a b:Expr} {ta tb:TE} {pos:Pos}
theorem IxR.or(h:IxR X r)(h':IxR X r'):IxR X (λx y H Q=>r x y H Q∨r' x y H Q):=by
 intro value slice pins s σ H x y v u Q I rx ry q hs;rcases q with q | q
 . exact h value slice pins s σ H x y v u Q I rx ry q hs
 . exact h' value slice pins s σ H x y v u Q I rx ry q hs
theorem aP(hr:IxR X r)(ha:PE X a ta)(hb:PE X b tb)(hs:Ge b):PE X (.Subscript a b pos) (tOp r ta tb):=by
 intro pins s σ H Q I h;exact Subscript_ (Iw ha hb I h λv u s2 x y H2 I2 rx ry q=>hr a b pins s2 σ H2 x y v u Q I2 rx ry q (hs _ _))
inductive rIxL(K:W.Frag)(x:V)(y:V)(H:Hp)(Q:VK):Prop
 |mk:∀p xs i v,x=.ref p->y=.int i->SqL K H p xs->atI xs i=some v->Q v H->rIxL K x y H Q
inductive rIxT(K:W.Frag)(x:V)(y:V)(H:Hp)(Q:VK):Prop
 |mk:∀p xs i v,x=.ref p->y=.int i->SqT K H p xs->atI xs i=some v->Q v H->rIxT K x y H Q
inductive rIxS(x:V)(y:V)(H:Hp)(Q:VK):Prop
 |mk:∀z i c,x=.str z->y=.int i->z.length<=sizeLine->atI z.cps.toList i=some c->Q (.str ⟨#[c]⟩) H->rIxS x y H Q
theorem ix_list:IxR X (rIxL X.K):=by
 intro value slice pins s σ H x y v u Q I rx ry h hs;erw[p,xs,i,z,1,1,hq,he,q]at h;cases rx;erw[t,1]at ry;let%[its,r,pl|hz]:=I.list hq;let%[j,h1,h2,h3,h4|h5]:=vh he;let%[w,ew|rw']:=r.get h2;have hl:=r.length;have hn:=jD;have fin:EP X pins σ Q w s:=%[z,H,I,rw'|q]
 by_cases h0:0<=i
 . have hj:i.toNat=j:=by
    rw[seqIndex_of h0 h5]at h1;exact zT0 h1
   exact item_listR pl.isList h0 #[0] (by rw[hj];simpa using ew) fin hs
 . have hj:(i+(its.toArray.size:Int)).toNat=j:=by
    rw[seqIndex_neg #[0] h4]at h1;rw[zQ0,←hl];exact zT0 h1
   exact subscriptTail_builtinR (x:=w) pl.isList.typeIs slot_list_getitem.lookup
    (wpAny_getItem_list_neg (Q:=λr s'=>r=w/\EP X pins σ Q r s') pl.isList #[0] (by rw[zQ0] <;> omega) #[0] (by rw[hj];simpa using ew) %[1|fin]) hs
theorem ix_tup:IxR X (rIxT X.K):=by
 intro value slice pins s σ H x y v u Q I rx ry h hs;erw[p,xs,i,z,1,1,hq,he,q]at h;cases rx;erw[t,1]at ry;let%[its,r,pl|hz]:=I.tuple hq;let%[j,h1,h2,h3,h4|h5]:=vh he;let%[w,ew|rw']:=r.get h2;have hl:=r.length;have hn:=jD;have fin:EP X pins σ Q w s:=%[z,H,I,rw'|q]
 exact subscriptTail_builtinR (x:=w) pl.typeIs slot_tuple_getitem.lookup
  (getItem_tuple (j:=j) (Q:=λr s'=>r=w/\EP X pins σ Q r s') pl #[0] #[0] (by rw[zQ0,←hl];exact h1) (by simpa using ew) %[1|fin]) hs
theorem uX:IxR X rIxS:=by
 intro value slice pins s σ H x y v u Q I rx ry h hs;erw[z,i,c,1,1,hz,he,q]at h;erw[t,1]at rx;erw[t',1]at ry;let%[j,h1,h2,h3,h4|h5]:=vh he;have hl:z.cps.toList.length=z.length:=by simp [Str.length]
 rw [hl]at h1 h4 h5;have hn:=jD;exact tail_any (typeIs_str s z t) slot_str_getitem.lookup (getItem_str (c:=c) (by
  have e1:decide (i < -(2 ^ 63:Int))=false:=decide_eq_false #[0];have e2:decide (i≥2 ^ 63)=false:=decide_eq_false #[0];rw[e1,e2,Bool.or_false]) (by rw[h1];simpa using h2) %[.str %[|#[c]],H,I.tok _,%[|0]|q]) hs
def rIx(K:W.Frag):R2:=λx y H Q=>rIxL K x y H Q∨rIxT K x y H Q∨rIxS x y H Q
theorem DR:IxR X (rIx X.K):=ix_list.or (ix_tup.or uX)
theorem yu (its:List Value) (n j:Nat) (u:Value):Obj.mapSeq (·.setIfInBounds j u) { cls:=.type "list",data:=.seq its.toArray n }={ cls:=.type "list",data:=.seq (its.set j u).toArray n }:=by
 simp [Obj.mapSeq]
theorem Inv.lst{pins:List (Addr×Obj)}{σ:St}{H:Hp}{s:Shared}{p:Addr}{xs:List V}(I:Inv X pins σ H s)(h:H p=some (.lst xs)) :
 ∃(its:List Value) (n:Nat),Vals xs its/\s.heap.get? p=some { cls:=.type "list",data:=.seq its.toArray n }/\xs.length<=sizeLine:=by
 let%[z,its,n,r|e]:=I.hok p _ h;erw[its,n,r,e,z]
theorem Inv.lstUpd{σ:St}{p:Addr}{xs:List V}{its its':List Value}{n n':Nat}{f:Obj->Obj}(I:Inv X pins σ H s)(h:H p=some (.lst xs))
 (ho:s.heap.get? p=some { cls:=.type "list",data:=.seq its.toArray n }) (hf:f { cls:=.type "list",data:=.seq its.toArray n }={ cls:=.type "list",data:=.seq its'.toArray n' }) (r:Vals ys its') (hz:ys.length<=sizeLine) (t:Nat) :
 Inv X pins σ (upd H p (.lst ys)) { s with heap:=s.heap.update p f,toks:=t }:=by
 have e:(s.heap.update p f).get? p=some { cls:=.type "list",data:=.seq its'.toArray n' }:=by
  rw[Heap.get?_update_self f ho (by rw[hf] <;> rfl),hf]
 refine I.write (x:=p) (e:=p) (by rw[h];trivial) (.inl rfl) (λb u hb q=>(Heap.get?_update_other _ _ (Ne.symm hb)).trans q) %[_|e] ?_;erw[hz,its',n',r,e]
inductive rSetL(o:V)(i:V)(v:V)(H:Hp)(Q:(Hp->Prop)):Prop
 |mk:∀p xs k j,o=.ref p->i=.int k->H p=some (.lst xs)->ixN xs.length k=some j->Q (upd H p (.lst (xs.set j v)))->rSetL o i v H Q
theorem qv:PSet X rSetL:=by
 intro pins s σ H o i v ov iv u Q I ro ri rv h;erw[p,xs,k,j,1,1,hp,hj,q]at h;cases ro;erw[t,1]at ri;let%[its,n,r,ho|hz]:=I.lst hp;let%[h1,h2,h3|h4]:=uY hj;have hl:=r.length;have hn:=jD;have I':Inv X pins σ (upd H p (.lst (xs.set j v))) { s with heap:=s.heap.update p (Obj.mapSeq (·.setIfInBounds j u)) }:=
  I.lstUpd hp ho (yu its n j u) (r.set rv j) (by rw[List.length_set];exact hz) s.toks
 by_cases h0:0<=k
 . have hk:k.toNat=j:=by
    rw[seqIndex_of h0 h4]at h1;exact zT0 h1
   exact PySem.W.ki_setAt ho h0 #[0] (by rw[zQ0,←hl];exact h4) (by rw[hk];erw[_,I',q])
 . have hk:(k+(its.toArray.size:Int)).toNat=j:=by
    rw[seqIndex_neg #[0] h3]at h1;rw[zQ0,←hl];exact zT0 h1
   exact PySem.W.ki_setBack ho #[0] (by rw[zQ0,←hl];exact h3) #[0] (by rw[hk];erw[_,I',q])
theorem tR(lo hi:Option Int)(n:Nat):(sliceBounds lo hi none n).1=((HT.sIx n 0 lo:Nat):Int)/\(sliceBounds lo hi none n).2.1=((HT.sIx n n hi:Nat):Int)/\(sliceBounds lo hi none n).2.2=1:=by
 erw[6,6,1]
 . cases lo with
   | none=>simp [sliceBounds,HT.sIx]
   | some i=>
     simp only[sliceBounds,HT.sIx,Option.getD_none,show(1:Int)>0 by decide,if_true]
     by_cases h:i<0
     . simp only[h,if_true] <;> omega
     . simp only[h,if_false] <;> omega
 . cases hi with
   | none=>simp [sliceBounds,HT.sIx]
   | some i=>
     simp only[sliceBounds,HT.sIx,Option.getD_none,show(1:Int)>0 by decide,if_true]
     by_cases h:i<0
     . simp only[h,if_true] <;> omega
     . simp only[h,if_false] <;> omega
theorem so(its:List Value)(lo hi:Option Int):slicePick its.toArray lo hi none=((its.drop (HT.sIx its.length 0 lo)).take (HT.sIx its.length its.length hi-HT.sIx its.length 0 lo)).toArray:=by
 let%[h1,h2|h3]:=tR lo hi its.toArray.size;unfold slicePick;rw[h1,h2,h3];simp only[sliceRange_one,pick_run,zQ0] <;> rfl
inductive rSlL(K:W.Frag)(x:V)(lo:Option Int)(hi:Option Int)(H:Hp)(Q:VK):Prop
 |mk:∀a xs,x=.ref a->SqL K H a xs->(∀p,H p=none->Q (.ref p) (upd H p (.lst (iM xs lo hi))))->rSlL K x lo hi H Q
theorem EZ:SlR X (rSlL X.K):=by
 intro pins s σ H x v vl vu lo hi sl Q I rx hs pl pu h;erw[a,xs,1,hx,q]at h;cases rx;let%[its,r,ht|hz]:=I.list hx;have hlen:=r.length;erw["list",_,slot_list_getitem.lookup,ht.isList.typeIs,6];refine wpAny_getItem_list_slice ht.isList hs pl pu .none (by simp) ?_ (by rw[zQ0] <;> omega);rw[so,←hlen];erw[.ref s.heap.objs.size,_,I.laid (t':=s.toks) (o:=.lst (iM xs lo hi)) (λb ob q=>zR0 _ q) (zG0 _) ?_,1,q _ (I.hok.fresh (zG0 _))];erw[zP0 (pB xs lo hi) hz,_,(0),(r.drop (HT.sIx xs.length 0 lo)).take (HT.sIx xs.length xs.length hi-HT.sIx xs.length 0 lo),qA0 _ rfl]
def jM:V->Bool
 | .non=>true
 | .bl _=>true
 | .int _=>true
 | .str _=>true
 | _=>false
def eqV:V->V->Bool
 | .non,.non=>true
 | .bl a,.bl b=>a==b
 | .bl a,.int b=>(if a then 1 else 0)==b
 | .int a,.bl b=>a==(if b then 1 else 0)
 | .int a,.int b=>a==b
 | .str a,.str b=>a==b
 | _,_=>false
theorem Ie{A:Around}{s:Shared}(ry:RelV y u)(rx:RelV x v)(fy:jM y=true)(fx:jM x=true):SeqAt.EqAt A s u v (eqV y x):=by
 cases y with
 | non=>
   cases ry;cases x with
   | non=>cases rx;exact SeqAt.EqAt.same _
   | bl b=>cases rx;exact SeqAt.EqAt.none_bool b
   | int b=>erw[t,1]at rx;exact SeqAt.EqAt.none_int b t
   | str b=>erw[t,1]at rx;exact SeqAt.EqAt.none_str b t
   | _=>exact absurd (show false=true from fx) qD0
 | bl a=>
   cases ry;cases x with
   | non=>cases rx;exact SeqAt.EqAt.bool_none a
   | bl b=>cases rx;exact SeqAt.EqAt.bool_bool a b
   | int b=>erw[t,1]at rx;exact SeqAt.EqAt.bool_int a b t
   | str b=>erw[t,1]at rx;exact SeqAt.EqAt.bool_str a b t
   | _=>exact absurd (show false=true from fx) qD0
 | int a=>
   erw[t',1]at ry;cases x with
   | non=>cases rx;exact SeqAt.EqAt.int_none a t'
   | bl b=>cases rx;exact SeqAt.EqAt.int_bool a t' b
   | int b=>erw[t,1]at rx;exact SeqAt.EqAt.int_int a t' b t
   | str b=>erw[t,1]at rx;exact SeqAt.EqAt.int_str a t' b t
   | _=>exact absurd (show false=true from fx) qD0
 | str a=>
   erw[t',1]at ry;cases x with
   | non=>cases rx;exact SeqAt.EqAt.str_none a t'
   | bl b=>cases rx;exact SeqAt.EqAt.str_bool a t' b
   | int b=>erw[t,1]at rx;exact SeqAt.EqAt.str_int a t' b t
   | str b=>erw[t,1]at rx;exact SeqAt.EqAt.str_str a t' b t
   | _=>exact absurd (show false=true from fx) qD0
 | _=>exact absurd (show false=true from fy) qD0
def eqU(x:V)(u:Value):Bool:=match u with
 | .none=>eqV .non x
 | .bool b=>eqV (.bl b) x
 | .int i _=>eqV (.int i) x
 | .str z _=>eqV (.str z) x
 | _=>false
theorem yF(r:RelV y u)(f:jM y=true):eqU x u=eqV y x:=by
 cases y with
 | non=>cases r;rfl
 | bl b=>cases r;rfl
 | int i=>erw[t,1]at r;rfl
 | str z=>erw[t,1]at r;rfl
 | _=>exact absurd (show false=true from f) qD0
theorem nu:∀{xs:List V}{us:List Value},Vals xs us->xs.all jM=true->us.any (eqU x)=xs.any λy=>eqV y x
 | _,_,.nil,_=>rfl
 | y::xs,u::us,.cons r t,f=>by
   rw[List.all_cons,Bool.and_eq_true]at f;rw[List.any_cons,List.any_cons,yF r f.1,nu t f.2]
theorem fX{A:Around}{s:Shared}(rx:RelV x v)(fx:jM x=true):∀{xs:List V}{us:List Value},Vals xs us->xs.all jM=true->∀u∈us,SeqAt.EqAt A s u v (eqU x u)
 | _,_,.nil,_=>λu hu=>by cases hu
 | y::xs,u::us,.cons r t,f=>λu' hu=>by
   rw[List.all_cons,Bool.and_eq_true]at f;rcases zW0 hu with rfl | hu
   . rw[yF r f.1];exact Ie r rx f.1 fx
   . exact fX rx fx t f.2 u' hu
def inV(x:V)(xs:List V):Bool:=xs.any λy=>eqV y x
inductive rIn(K:W.Frag)(neg:Bool)(x:V)(y:V)(H:Hp)(Q:VK):Prop
 |mk:∀p xs,y=.ref p->SqL K H p xs∨SqT K H p xs->jM x=true->xs.all jM=true->Q (.bl (if neg then !inV x xs else inV x xs)) H->rIn K neg x y H Q
theorem eE:OpR X (compareOp .In) (rIn X.K false):=by
 intro pins s σ H x y v u Q I rx ry h;erw[p,xs,1,hq,fx,fs,q]at h;cases ry;rcases hq with hq | hq
 . let%[its,r,pl|hz]:=I.list hq;refine SeqAt.in_listAt (eqU x) pl.isList (λw hw=>fX rx fx r fs w (by simpa using hw)) %[.bl _,H,I,1|6];rw[show its.toArray.any (eqU x)=its.any (eqU x) by simp,nu r fs];exact q
 . let%[its,r,pl|hz]:=I.tuple hq;refine SeqAt.in_tupleAt (eqU x) pl (λw hw=>fX rx fx r fs w (by simpa using hw)) %[.bl _,H,I,1|6];rw[show its.toArray.any (eqU x)=its.any (eqU x) by simp,nu r fs];exact q
theorem uJ:OpR X (compareOp .NotIn) (rIn X.K true):=by
 intro pins s σ H x y v u Q I rx ry h;erw[p,xs,1,hq,fx,fs,q]at h;cases ry;rcases hq with hq | hq
 . let%[its,r,pl|hz]:=I.list hq;refine SeqAt.notIn_listAt (eqU x) pl.isList (λw hw=>fX rx fx r fs w (by simpa using hw)) %[.bl _,H,I,1|6];rw[show its.toArray.any (eqU x)=its.any (eqU x) by simp,nu r fs];exact q
 . let%[its,r,pl|hz]:=I.tuple hq;refine SeqAt.notIn_tupleAt (eqU x) pl (λw hw=>fX rx fx r fs w (by simpa using hw)) %[.bl _,H,I,1|6];rw[show its.toArray.any (eqU x)=its.any (eqU x) by simp,nu r fs];exact q
theorem uI:OpR X (compareOp .NotIn) (λx y H Q=>∃i j,x=.str i/\y=.str j/\Q (.bl (!(!(Builtin.Str.occurrences j i 0 j.length 1).isEmpty))) H):=by
 intro pins s σ H x y v u Q I rx ry h;erw[i,j,1,1,q]at h;erw[t,1]at rx;erw[t',1]at ry;exact notIn_str %[.bl _,H,I,1|q]
inductive rLen(K:W.Frag)(xs:List V)(H:Hp)(Q:VK):Prop
 |mk:∀p ys,xs=[.ref p]->SqL K H p ys∨SqT K H p ys->Q (.int ys.length) H->rLen K xs H Q
theorem aN:gC X (.builtin "len") (rLen X.K):=by
 intro pins s σ H xs us Q I r h;erw[p,ys,1,hq,q]at h;let%[u,1|rx]:=jP r;cases rx;have hn:=jD;rcases hq with hq | hq
 . let%[its,r',pl|hz]:=I.list hq;have hlen:=r'.length;exact Calls.call_len_list pl.isList (by simp only[zQ0] <;> omega) %[.int ys.length,H,I.tok _,%[s.toks+1|by rw[zQ0,hlen]]|q]
 . let%[its,r',pl|hz]:=I.tuple hq;have hlen:=r'.length;exact len_tuple pl (by simp only[zQ0] <;> omega) %[.int ys.length,H,I.tok _,%[s.toks+1|by rw[zQ0,hlen]]|q]
theorem cY:gC X (.builtin "len") (λxs H Q=>∃z,xs=[.str z]/\z.length<=sizeLine/\Q (.int z.length) H):=by
 intro pins s σ H xs us Q I r h;erw[z,1,hz,q]at h;let%[u,1,t|1]:=jP r;have hn:=jD;exact len_str #[0] %[.int z.length,H,I.tok _,%[|0]|q]
inductive rListOf(K:W.Frag)(xs:List V)(H:Hp)(Q:VK):Prop
 |mk:∀p ys,xs=[.ref p]->SqL K H p ys∨SqT K H p ys->(∀l,H l=none->Q (.ref l) (upd H l (.lst ys)))->rListOf K xs H Q
theorem nn:gC X (.type "list") (rListOf X.K):=by
 intro pins s σ H xs us Q I r h;erw[p,ys,1,hq,q]at h;let%[u,1|rx]:=jP r;cases rx;have fin:∀(its:List Value),Vals ys its->ys.length<=sizeLine->∀(h':Heap)(c':Nat),(∀b o',s.heap.get? b=some o'->h'.get? b=some o') ->
  h'.get? s.heap.objs.size=some { cls:=.type "list",dict:=none,data:=.seq its.toArray c',slots:=#[] }->EP X pins σ Q (.ref s.heap.objs.size) { s with heap:=h' }:=λits r' hz h' c' kp e=>
  %[.ref s.heap.objs.size,_,I.laid (t':=s.toks) kp (zG0 _) (show ObjOk X.prog X.w _ h' _ (.lst ys)from%[hz,its,c',r'|e]),1|q _ (I.hok.fresh (zG0 _))]
 rcases hq with hq | hq
 . let%[its,r',pl|hz]:=I.list hq;have hlen:=r'.length;erw[o,ho,hc,n,hd]at pl.isList;exact call_list_seq p (.inl rfl) ho hc hd (λh' c' kp e=>fin its r' hz h' c' kp e) (by simp only[zQ0] <;> omega)
 . let%[its,r',pl|hz]:=I.tuple hq;have hlen:=r'.length;erw[o,ho,hc,n,hd]at pl;exact call_list_seq p (.inr rfl) ho hc hd (λh' c' kp e=>fin its r' hz h' c' kp e) (by simp only[zQ0] <;> omega)
inductive rTupOf(K:W.Frag)(xs:List V)(H:Hp)(Q:VK):Prop
 |mk:∀p ys,xs=[.ref p]->(SqL K H p ys/\∀l,H l=none->Q (.ref l) (upd H l (.tup ys)))∨(SqT K H p ys/\Q (.ref p) H)->rTupOf K xs H Q
theorem bi:gC X (.type "tuple") (rTupOf X.K):=by
 intro pins s σ H xs us Q I r h;erw[p,ys,1,h]at h;let%[u,1|rx]:=jP r;cases rx;rcases h with⟨hq,q⟩ | ⟨hq,q⟩
 . let%[its,r',pl|hz]:=I.list hq;have hlen:=r'.length;refine call_tuple_list pl.isList (λh' kp=>?_) (by simp only[zQ0] <;> omega);have I1:Inv X pins σ H { s with heap:=h' }:=I.kept (t':=s.toks) kp;have I2:Inv X pins σ (upd H h'.objs.size (.tup ys)) { s with heap:=h'.push { cls:=.type "tuple",data:=.seq its.toArray } }:=
    I1.laid (t':=s.toks) (λb o e=>zR0 _ e) (zG0 _) (show ObjOk X.prog X.w _ _ _ (.tup ys)from%[hz,its,r',IsTup.new _ _,_,qA0 _ rfl|1])
   erw[.ref h'.objs.size,_,I2,1,q _ (I1.hok.fresh (zG0 _))]
 . let%[its,r',pl|hz]:=I.tuple hq;exact call_tuple_same pl %[.ref p,H,I,1|q]
def tyV(K:W.Frag)(T:String)(x:V)(H:Hp):Prop:=match x with
 | .str _=>T="str"
 | .int _=>T="int"
 | .ref p=>(T="list"/\∃xs,SqL K H p xs)∨(T="tuple"/\∃o,K.lookup p=some o/\o.cls=.type "tuple"/\o.dict=none)∨
  (T="dict"/\((∃kvs,H p=some (.dK kvs))∨∃kvs,H p=some (.dT kvs)))∨(T="set"/\∃S n,H p=some (.set S n))
 | _=>False
theorem Hb{σ:St}(I:Inv X pins σ H s)(r:RelV x v)(ty:tyV X.K T x H) :
 s.TypeIs v T/\∀a,v=.ref a->∃ob,s.heap.get? a=some ob/\ob.dict=none:=by
 cases x with
 | str z=>
   erw[t,1]at r;cases(show T="str" from ty);erw[typeIs_str s z t,λ_ e=>nomatch e]
 | int i=>
   erw[t,1]at r;cases(show T="int" from ty);erw[typeIs_int s i t,λ_ e=>nomatch e]
 | ref p=>
   cases r;rcases ty with⟨rfl,xs,hq⟩ | ⟨rfl,o,hk,hc,hd⟩ | ⟨rfl,hk⟩ | ⟨rfl,S,n,hk⟩
   . let%[its,_,pl|_]:=I.list hq;erw[pl.isList.typeIs,λa e=>?_];cases e;erw[o,n,e,c,hd,_]at pl;erw[o,e,hd]
   . erw[%[o,I.kIn p o hk|hc],λa e=>?_];cases e;erw[o,I.kIn _ o hk,hd]
   . have z:∃o,s.heap.get? p=some o/\o.ExactDict:=by
      rcases hk with⟨kvs,hk⟩ | ⟨kvs,hk⟩
      . let%[_,_,_,_,o,_,_,e,ex|_]:=I.hok p _ hk;erw[o,e,ex]
      . let%[_,_,_,_,o,_,_,e,ex|_]:=I.hok p _ hk;erw[o,e,ex]
     erw[o,e,ex]at z;erw[%[o,e|ex.1],λa e2=>?_];cases e2;erw[o,e,ex.2.1]
   . let%[o,_,_,_,e,ex|_]:=I.hok p _ hk;erw[%[o,e|ex.1],λa e2=>?_];cases e2;erw[o,e,ex.2.1]
 | _=>exact False.elim ty
inductive ZtBM(K:W.Frag)(T:String)(r:V->List V->Hp->VK->Prop)(t:TA)(σ:St)(Q:VK)(x:V)(H1:Hp):Prop
 |mk:tyV K T x H1->(t σ H1 λxs H2=>r x xs H2 Q)->ZtBM K T r t σ Q x H1
def tBM(K:W.Frag)(T:String)(r:V->List V->Hp->VK->Prop)(to:TE)(t:TA):TE:=λσ H Q=>to σ H λx H1=>ZtBM K T r t σ Q x H1
variable {o e:Expr} {es:List Expr} {to:TE} {t:TA} {name:Str} {apos cpos:Pos} {T id:String} {r:V->List V->Hp->VK->Prop}
theorem dw (pa:PlainAttrs T) (slot:Slot T name id) (hty:typeOf (.builtin id)=pure (.type "method_descriptor")) (hm:MtR X id r) (ho:PE X o to) (ha:PA X (e::es) t)
 (hbase:attributeBase o name X.env (eval o X.env)=eval o X.env:=by rfl)
 (hfew:((backTo cpos (starEach (e::es) X.env)).all (λx=>!x.1)&&(backToKw cpos (keywordEach [] X.env)).all (λx=>x.1.isSome)
  &&decide ((e::es).length+([]:List Keyword).length+(if([]:List Keyword).isEmpty then 0 else 1)<30))=true:=by rfl)
 (hline:(apos.endLine==cpos.line)=true:=by rfl) (hs:starEach (e::es) X.env=(false,eval e X.env)::starEach es X.env:=by rfl) (hplain:(backTo cpos (starEach es X.env)).any (·.1)=false:=by rfl) :
 PE X (.Call (.Attribute o name apos) (e::es) [] cpos) (tBM X.K T r to t):=by
 intro pins s σ H Q I h;refine wpAny_Call_method_late hbase hfew hline rfl (thn (ho pins s σ H _ I h) λv s1 ⟨x,H1,I1,r1,ty,q1⟩=>?_);let%[h1|h2]:=Hb I1 r1 ty;erw[T,id,pa,slot,hty,h1,h2,6];have hA:=ha cpos pins s1 σ H1 _ I1 q1;rw[hs]at hA ⊢;refine Calls.callWith_builtin (by show(false||(backTo cpos (starEach es X.env)).any (·.1))=false;rw[hplain] <;> rfl) (Calls.evalArgs_plain ?_);exact thn hA λus s2 ⟨vs,H2,I2,r2,q2⟩=>hm pins s2 σ H2 x vs v us Q I2 r1 r2 q2
/- xs.append(e),list.index on a module's tuple .. are MtR facts of 06m -/
end
def MtM(X:Cx)(id:String)(r:V->List V->Hp->VK->Prop):Prop:=
 ∀(pins:List (Addr×Obj))(s:Shared)(σ:St)(H:Hp)(x:V)(xs:List V)(v:Value)(us:List Value)(Q:VK),Inv X pins σ H s->RelV x v->Vals xs us->r x xs H Q ->
  wpAny (model X.prog X.w) X.A (call (.builtin id) (v::us)) (EP X pins σ Q) X.xe s
theorem Vals.one:∀{x:V}{us:List Value},Vals [x] us->∃u,us=[u]/\RelV x u
 | _,_,.cons r .nil=>%[0|r]
theorem Vals.eraseIdx:∀{xs:List V}{us:List Value}(i:Nat),Vals xs us->Vals (xs.eraseIdx i) (us.eraseIdx i)
 | _,_,_,.nil=>.nil
 | _,_,0,.cons _ t=>t
 | _,_,i+1,.cons r t=>.cons r (Vals.eraseIdx i t)
theorem Vals.rep(h:Vals xs us):∀k:Nat,Vals (List.replicate k xs).flatten (List.replicate k us).flatten
 | 0=>.nil
 | k+1=>by
   rw[List.replicate_succ,List.replicate_succ,List.flatten_cons,List.flatten_cons];exact Vals.append h (Vals.rep h k)
theorem sU{α:Type}:∀(l:List α)(i:Nat),(l.eraseIdx i).length<=l.length
 | [],_=>zG0 _
 | _::_,0=>qN0 _
 | _::r,i+1=>Nat.succ_le_succ (sU r i)
theorem kR(its:List Value):∀(k:Nat)(acc:List Value),
 List.foldl (λx1 x2=>x1++x2) acc.toArray (List.replicate k its.toArray)=(acc++(List.replicate k its).flatten).toArray
 | 0,acc=>by simp
 | k+1,acc=>by
   have e:acc.toArray++its.toArray=(acc++its).toArray:=by simp
   have e2:(acc++its)++(List.replicate k its).flatten=acc++(List.replicate (k+1) its).flatten:=by
    rw[List.replicate_succ,List.flatten_cons,List.append_assoc]
   rw[←e2,←kR its k (acc++its),←e,List.replicate_succ,List.foldl_cons]
section
variable {X:Cx} {pins:List (Addr×Obj)} {σ:St} {H:Hp} {s:Shared} {l b:Addr} {xs ys zs:List V}
theorem Inv.lset{its its':List Value}{n:Nat}{f:Array Value->Array Value}{t':Nat}(I:Inv X pins σ H s)(hH:H l=some (.lst xs))
 (e:s.heap.get? l=some { cls:=.type "list",data:=.seq its.toArray n }) (hf:f its.toArray=its'.toArray) (hv:Vals ys its') (hz:ys.length<=sizeLine) :
 Inv X pins σ (upd H l (.lst ys)) { s with heap:=s.heap.update l (Obj.mapSeq f),toks:=t' }:=by
 have q:=PySem.IsL.update e f;rw[hf]at q;refine I.write (x:=l) (e:=l) (by rw[hH];exact trivial) (.inl rfl) (λb' u hb hu=>(Heap.get?_update_other s.heap (Obj.mapSeq f) (Ne.symm hb)).trans hu) %[_|q] ?_;erw[hz,its',_,hv,q]
theorem Inv.lnew{t':Nat}(I:Inv X pins σ H s)(hv:Vals ys its)(hz:ys.length<=sizeLine) :
 Inv X pins σ (upd H s.heap.objs.size (.lst ys)) { s with heap:=s.heap.push { cls:=.type "list",data:=.seq its.toArray },toks:=t' }:=
 I.laid (λ_ _ q=>zR0 _ q) (zG0 _) %[hz,its,(0),hv|qA0 _ rfl]
theorem Inv.fresh(I:Inv X pins σ H s):H s.heap.objs.size=none:=I.hok.fresh (zG0 _)
theorem Inv.lstM (I:Inv X pins σ H s) (hH:H l=some (.lst xs)):xs.length<=sizeLine/\∃(its:List Value) (n:Nat),Vals xs its/\xs.length=its.length/\s.heap.get? l=some { cls:=.type "list",data:=.seq its.toArray n }:=by
 let%[z,its,n,r|e]:=I.hok l _ hH;erw[z,its,n,r,r.length,e]
theorem vT{n:Nat}(h:n<=sizeLine):Builtin.List.listTooLong n=false:=by
 unfold Builtin.List.listTooLong;exact decide_eq_false #[0]
end
section
variable {X:Cx}
inductive rAppend(x:V)(vs:List V)(H:Hp)(Q:VK):Prop
 |mk:∀l xs y,x=.ref l->vs=[y]->H l=some (.lst xs)->xs.length<sizeLine->Q .non (upd H l (.lst (xs++[y])))->rAppend x vs H Q
theorem cz:MtM X "list.append" rAppend:=by
 intro pins s σ H x vs v us Q I rx rv h;erw[l,xs,y,1,1,hH,hz,q]at h;cases rx;erw[u,1,ru]at rv.one;let%[z,its,n,r,hl|e]:=I.lstM hH;refine call_meets F.slot_list_append %[_,e|1] F.entry_list_append (F.args_list_append_2 _ _) (PySem.list_append l its.toArray n u (by rw[zQ0];omega)) ⟨e,?_⟩;erw[.non,_,I.lset (its':=its++[u]) hH e (by simp) (r.append (.cons ru .nil)) ?_,1,q];rw[zJ0,qG0];omega
inductive rExtend(x:V)(vs:List V)(H:Hp)(Q:VK):Prop
 |mk:∀l b xs zs,x=.ref l->vs=[.ref b]->H l=some (.lst xs)->H b=some (.lst zs)->xs.length+zs.length<=sizeLine->Q .non (upd H l (.lst (xs++zs)))->rExtend x vs H Q
theorem AV:MtM X "list.extend" rExtend:=by
 intro pins s σ H x vs v us Q I rx rv h;erw[l,b,xs,zs,1,1,hH,hB,hz,q]at h;cases rx;erw[u,1,ru]at rv.one;cases ru;let%[z,its,n,r,hl|e]:=I.lstM hH;let%[z2,its2,n2,r2,hl2|e2]:=I.lstM hB;have hsz:its.toArray.size+its2.toArray.size<=sizeLine:=by rw[zQ0,zQ0];omega
 have hlong:¬ (!its.toArray.isEmpty&&Builtin.List.listTooLong (its.toArray.size+its2.toArray.size))=true:=by
  rw[vT hsz,Bool.and_false];exact qD0
 refine call_meets F.slot_list_extend %[_,e|1] F.entry_list_extend (F.args_list_extend_2 _ _)
  (AutoSeq1.list_extend_list_list_0 l its.toArray n b its2.toArray n2 hlong (by rw[zQ0];omega) #[0]) %[e,e2|6]
 erw[.non,_,I.lset (its':=its++its2) hH e (by simp) (r.append r2) ?_,1,q];rw[zJ0];omega
inductive rPopAt(x:V)(vs:List V)(H:Hp)(Q:VK):Prop
 |mk:∀l xs i k y,x=.ref l->vs=[.int i]->H l=some (.lst xs)->-(2 ^ 63)<=i->i<2 ^ 63->seqIndex? i xs.length=some k->xs[k]?=some y->Q y (upd H l (.lst (xs.eraseIdx k)))->rPopAt x vs H Q
theorem DF:MtM X "list.pop" rPopAt:=by
 intro pins s σ H x vs v us Q I rx rv h;erw[l,xs,i,k,y,1,1,hH,h1,h2,hk,hy,q]at h;cases rx;erw[u,1,ru]at rv.one;erw[t,1]at ru;let%[z,its,n,r,hl|e]:=I.lstM hH;let%[w,hw|rw']:=r.get hy;refine call_meets F.slot_list_pop %[_,e|1] F.entry_list_pop (F.args_list_pop_2 _ _)
  (MeetsSeq.list_pop_at l its.toArray n i t k w (fitsIndex_both h1 h2) (by rw[zQ0,←hl];exact hk) (by rw[←Array.getElem?_toList];exact hw) (by rw[zQ0];omega)) %[e|6]
 erw[y,_,I.lset (its':=its.eraseIdx k) hH e ?_ (r.eraseIdx k) ?_,rw',q]
 . show its.toArray.eraseIdxIfInBounds k=(its.eraseIdx k).toArray;rw[List.eraseIdxIfInBounds_toArray]
 . have:=sU xs k
   omega
inductive rCat(x:V)(y:V)(H:Hp)(Q:VK):Prop
 |mk:∀l b xs zs,x=.ref l->y=.ref b->H l=some (.lst xs)->H b=some (.lst zs)->xs.length+zs.length<=sizeLine->(∀p,H p=none->Q (.ref p) (upd H p (.lst (xs++zs))))->rCat x y H Q
theorem ox:OpR X (binaryOp .Add) rCat:=by
 intro pins s σ H x y v u Q I rx ry h;erw[l,b,xs,zs,1,1,hH,hB,hz,q]at h;cases rx;cases ry;let%[z,its,n,r,hl|e]:=I.lstM hH;let%[z2,its2,n2,r2,hl2|e2]:=I.lstM hB;refine PySem.P.add_list e e2 ?_ (by rw[zQ0,zQ0];omega);have ea:its.toArray++its2.toArray=(its++its2).toArray:=by simp
 rw[ea];erw[.ref _,_,I.lnew (t':=s.toks) (r.append r2) (by rw[zJ0];omega),1,q _ I.fresh]
inductive rRep(x:V)(y:V)(H:Hp)(Q:VK):Prop
 |mk:∀l k xs,x=.ref l->y=.int k->H l=some (.lst xs)->-(2 ^ 63)<=k->k<2 ^ 63->xs.length*k.toNat<=sizeLine->(∀p,H p=none->Q (.ref p) (upd H p (.lst (List.replicate k.toNat xs).flatten)))->rRep x y H Q
theorem zw{α:Type}(xs:List α)(k:Nat):(List.replicate k xs).flatten.length=k*xs.length:=by
 induction k with
 | zero=>simp
 | succ k ih=>rw[List.replicate_succ,List.flatten_cons,zJ0,ih,Nat.succ_mul,Nat.add_comm]
theorem HA:OpR X (binaryOp .Mult) rRep:=by
 intro pins s σ H x y v u Q I rx ry h;erw[l,k,xs,1,1,hH,h1,h2,hz,q]at h;cases rx;erw[t,1]at ry;let%[z,its,n,r,hl|e]:=I.lstM hH;have hlen:its.toArray.size*k.toNat<=sizeLine:=by rw[zQ0,←hl];exact hz
 have hcap:¬ its.toArray.size*k.toNat>(2 ^ 63-1) / 8:=by
  have:(sizeLine:Nat)<=(2 ^ 63-1) / 8:=by decide
  omega
 have hfit:¬ (!Builtin.List.listFitsIndex k)=true:=by
  rw[fitsIndex_both h1 h2];exact qD0
 have hlong:¬ Builtin.List.listTooLong (its.toArray.size*k.toNat)=true:=by
  rw[vT hlen];exact qD0
 have hnew:List.foldl (λx1 x2=>x1++x2) #[] (List.replicate (if its.toArray.isEmpty=true then 0 else k.toNat) its.toArray)=(List.replicate k.toNat its).flatten.toArray:=by
  have f0:∀m:Nat,List.foldl (λx1 x2=>x1++x2) #[] (List.replicate m its.toArray)=(List.replicate m its).flatten.toArray:=λm=>by
   have:=kR its m []
   rw[List.nil_append]at this;exact this
  rw[f0];cases its with
  | nil=>simp
  | cons a r'=>rw[zA0 (by simp)]
 refine wpAny_binaryOp_repeat_ref (T:="list") (U:="int") ⋯ %[_,e|1] (λs'=>typeIs_int s' k t) noFill_list_mul F.fills_int_mul F.slot_int_rmul repeat_list F.slot_int_index.lookup
  (call_meets F.slot_int_rmul (typeIs_int s k t) F.entry_int_rmul (F.args_int_rmul_2 _ _) (int___rmul___int_list k t l its.toArray n)
   %[e,1,%[_,e|1]|call_meets F.slot_list_mul ⟨_,e,rfl⟩ F.entry_list_mul (F.args_list_mul_2 _ _) (AutoListH.list___mul___list_int_3 l its.toArray n k t hfit hcap hlong) ⟨e,?_⟩])
 rw[hnew];erw[.ref _,_,I.lnew (t':=s.toks) (r.rep k.toNat) (by rw[zw,Nat.mul_comm];exact hz),1,q _ I.fresh]
end
end L2
namespace Att
open PySem PySem.W PySem.Calls PyProof.Rows
theorem pP{P:Params}{h:Heap}:∀(ns:List Int)(vs:List Value),WellAll P h vs (ns.map WData.int)->IntsAre vs ns:=by
 intro ns
 induction ns with
 | nil=>
   intro vs w;rw[List.map_nil]at w;cases w;exact .nil
 | cons n ns ih=>
   intro vs w;rw[zY0]at w;cases w with
   | cons a b=>
     cases a;exact .cons _ _ (ih _ b)
theorem Ag{l:OpenLaw}{n:Nat}(hn:l.most=some n){P:Params}{h:Heap}{args:List WData}{vals:List Value}
 (hpre:l.row.toRowW.claim.pre args=true) (hwl:WellAll P h vals args) :
 ∃a vs ns,vals=[Value.ref a]/\args=[WData.list (ns.map WData.int)]/\h.get? a=some { cls:=.type "list",data:=.seq vs.toArray }/\IntsAre vs ns/\ns.length<=n:=by
 have hsh:WShape.hasAll [] args [.list .int]=true:=(pre_splitW hpre).1;have hc:l.pre.holds [] { args:=args }=true:=(pre_splitW hpre).2;let%[d,r,1,h1|h2]:=hasAllW_cons hsh;obtain rfl:=hasAllW_nil h2;let%[xs,1|h3]:=hasW_list h1;let%[ns|1]:=items_int h3;have hlen:ns.length<=n:=by
  unfold OpenLaw.pre at hc;have h4:(WTm.not (.lt (.lit (.int (n:Int))) (.len (.arg 0)))).holds [] { args:=[.list (ns.map .int)] }=true:=by
   have h4:=(holds_andW hc).1;rw[hn]at h4;exact h4
  have h5:=condW_of h4 (w_not (w_lt w_lit (w_len_list (w_arg rfl))));rw[zF0]at h5;refine Nat.le_of_not_lt λq=>?_
  have q':(n:Int)<((ns.length:Nat):Int):=by omega
  first
   | (rw[decide_eq_true q']at h5;exact absurd h5 ⋯)
   | (simp at h5;omega)
 cases hwl with
 | cons w1 w2=>
   cases w2;cases w1 with
   | list ho hall=>erw[_,_,ns,1,1,ho,pP ns _ hall,hlen]
theorem Aw(l:OpenLaw)(args:List WData):l.row.toRowW.claim.post args (.bool true) args=true:=
 postW_of (r:=l.row.toRowW) (X:=(true==true))
  (show WShape.has [] (.bool true) .bool=true by first | rfl | decide | simp [WShape.has,WShape.arms,WShape.armsAll])
  (show(WTm.eq .res (.lit (.bool true))).value [] { args:=args,res:=some (.bool true),after:=args }=some (.bool (true==true))from w_eq_bool (w_res rfl) w_lit) rfl
theorem attach_call{l:OpenLaw}{n:Nat}{q:Program}{loose:List Str}{XP:(Str->Option Value)->Heap->Prop}{YP:World->Heap->Prop}{d:DefRec}
 (hn:l.most=some n) (hdf:d.params.defaults=[])
 (call:∀(w:World)(s₀ s₁:Shared)(mg mb:Str->Option Value)(fa:Addr)(o:Obj)(pm cd doc:Value)(a:Addr)(vs:List Value)(ns:List Int),
  Ground q loose [] XP w s₀ mg mb s₁.heap->YP w s₁.heap ->
  s₁.heap.get? fa=some o->o.data=.func (docDef d.name d.params d.body d.scope pm cd doc)->s₁.heap.CodeRec cd d.name->mg d.name=some (.ref fa) ->
  s₁.heap.get? a=some { cls:=.type "list",data:=.seq vs.toArray }->IntsAre vs ns->ns.length<=n->s₁.gens=#[] ->
  codeAny (model l.prog w) callerA (.call (.ref fa) %[[.ref a]|[]]) (λr s'=>r=.ok (.ret (.bool true))/\OldK s₁.heap s'.heap/\s'.os=s₁.os/\AllBare s'.gens) s₁) :
 WalkO q loose XP YP l.row.toRowW d [] (λf vs=>PySem.call f vs):=by
 intro w s₀ s₁ mg mb G Y fa o pm cd doc dV kV ho hd hcd hD hmg hg args vals as hpre hlay hrd hwl hlo;obtain rfl:dV=.none:=Dflts.none hD hdf;obtain rfl:kV=.none:=Dflts.noKw hD;let%[a,vs,ns,1,1,hobj,hints|hlen]:=Ag hn hpre hwl;refine enter_call (codeAny_mono (call w s₀ s₁ mg mb fa o pm cd doc a vs ns G Y ho (fd_plain hd) hcd hmg hobj hints hlen hg) λr s' hq=>?_);erw[1,h2,h3,h4]at hq;erw[.inl %[.bool true,.bool true,[],1,λ_=>rfl,.bool true,Aw l _|λ_=>%[List.Pairwise.nil|λ_ hm=>(nomatch hm)]],h2,h3,h4]
end Att
namespace L2
open PySem PySem.Spec PyProof.Rows
theorem sK:∀{vs:List Value}{ns:List Int},IntsAre vs ns->Vals (ns.map V.int) vs
 | _,_,.nil=>.nil
 | _,_,.cons n t h=>.cons %[t|1] (sK h)
def IB(H:Hp):Prop:=∀b,H b=none∨∃o xs,H b=some (.frz o (.lst xs))
theorem DM{K:W.Frag}{mg mb:Str->Option Value}{a:Addr}{x:Str}{s₁:Shared}{vs:List Value}{ns:List Int}
 (KX:K.In s₁.heap) (hns:s₁.heap.Ns mainGlobals mg) (hb:s₁.heap.Ns builtinsNs mb) (hbb:∀x:Str,x≠"__name__" -> mb x=bootBuiltins x) (hlim:s₁.heap.NoLimit) (hg:s₁.gens=#[])
 (ha:s₁.heap.get? a=some { cls:=.type "list",data:=.seq vs.toArray }) (hi:IntsAre vs ns) (hl:ns.length<=sizeLine) (hr:Room k callerA)
 (F:∀base:Heap,K.In base->base.Ns mainGlobals mg->FnOk P w K mg base CX k fa fd [x] sp) (hbind:∀(s:Shared)(u:Value),BindsTo s fd %[[u]|[]] [(x,u)])
 (hsp:∀H:Hp,IB H->SqL K H a (ns.map V.int)->sp [.ref a] H (λv _=>v=.bl true) λ_ _ _=>False)
 (hCX:∀H e s',CX [] H s₁ (λ_ _ _=>False) e s'->False) :
 codeAny (model P w) callerA (.call (.ref fa) %[[.ref a]|[]]) (λr s'=>r=.ok (.ret (.bool true))/\OldK s₁.heap s'.heap/\s'.os=s₁.os/\AllBare s'.gens) s₁:=by
 have rv:=sK hi;have lenV:=hi.length;have core:∀H:Hp,IB H->SqL K H a (ns.map V.int)->HOk P w H s₁.heap->(∀b,H b≠none->b=a)->(H a≠none->K.lookup a=none) ->
  codeAny (model P w) callerA (.call (.ref fa) %[[.ref a]|[]]) (λr s'=>r=.ok (.ret (.bool true))/\OldK s₁.heap s'.heap/\s'.os=s₁.os/\AllBare s'.gens) s₁:=by
  intro H hO hS hok hA hK;have base_of:∀{b:Addr}{o:Obj},s₁.heap.get? b=some o->H b=none->(vb s₁.heap H).get? b=some o:=λe n=>DY e n
  have noA:∀{b:Addr}{o:Obj}{es:Array DictEntry}{ep:Nat},s₁.heap.get? b=some o->o.data=.dict es ep->H b=none:=fun{b o es ep} e d=>by
   cases q:H b with
   | none=>rfl
   | some u=>
     have e':b=a:=hA b (by rw[q];simp);subst e';rw[ha]at e;cases e;have d':Data.seq vs.toArray _=Data.dict es ep:=d;cases d'
  have nsK:∀{b:Addr}{m:Str->Option Value},s₁.heap.Ns b m->(vb s₁.heap H).Ns b m:=fun{b m} ⟨o,es,ep,e,d,r⟩=>%[o,es,ep,base_of e (noA e d),d|r]
  have hKb:K.In (vb s₁.heap H):=λb o e=>base_of (KX b o e) (by
   cases q:H b with
   | none=>rfl
   | some u=>
     have e':b=a:=hA b (by rw[q];simp);subst e';rw[hK (by rw[q];simp)]at e;cases e)
  have hM:Mod K mg (vb s₁.heap H):=%[hKb,nsK hns,%[mb,nsK hb|hbb]|let⟨mc,h1,h2⟩:=hlim;⟨mc,nsK h1,h2⟩]
  have e0:Env0 P w K mg (vb s₁.heap H) callerA [] s₁ H:=%[1,hM,λb o e=>Fz e,Nat.le_of_eq (Bm _ _),trivial,λb hb=>absurd (show b∈([]:List Addr)from hb) (by simp),hok|.of_eq hg]
  refine codeAny_mono ((F _ hKb (nsK hns)).run callerA [] s₁ H %[[.ref a]|[]] [.ref a] [.ref a] _ _ hr e0 (hbind s₁ (.ref a)) (.cons rfl .nil) (hsp H hO hS)) λr s' h=>?_
  cases r with
  | error e=>exact(hCX H e s' h).elim
  | ok fl=>
    cases fl with
    | next=>exact False.elim h
    | brk=>exact False.elim h
    | cont=>exact False.elim h
    | ret u=>
      erw[v,H',os,bare,un,hok',r',q]at h;have q':v=.bl true:=q;subst q';obtain rfl:u=Value.bool true:=r';erw[1,OldK.of_keep λb o e=>?_,os,bare];cases q:H b with
      | none=>exact un.keep b o e q (by intro z;exact absurd (show b∈([]:List Addr)from z) (by simp)) (by simp)
      | some u=>
        rcases hO b with z | ⟨ob,xs,z⟩
        . rw[q]at z;cases z
        . have z2:=un.frzs b ob _ z;let%[e1|_]:=hok b _ z;let%[e2|_]:=hok' b _ z2;rw[e]at e1;cases e1;exact e2
 cases hk:K.lookup a with
 | some o=>
   have e:=KX a o hk;rw[ha]at e;cases e;refine core (λ_=>none) (λ_=>.inl rfl) (.inr %[_,vs.toArray,_,hk,1,1,1,by rw[zQ0,lenV];exact hl|by simpa using rv]) (λb u z=>by have z':(none:Option HO)=some u:=z;cases z') (λb z=>absurd rfl z) λz=>absurd rfl z
 | none=>
   refine core (λb=>if b=a then some (.frz { cls:=.type "list",data:=.seq vs.toArray } (.lst (ns.map V.int)))else none) (λb=>?_) (.inl (.inr %[{ cls:=.type "list",data:=.seq vs.toArray }|zC0 rfl])) (λb u z=>?_) (λb z=>?_) λ_=>hk
   . by_cases hb:b=a
     . exact .inr %[_,_|zC0 hb]
     . exact .inl (zA0 hb)
   . by_cases hb:b=a
     . have z':=(zC0 hb).symm.trans z;cases z';subst hb;erw[ha,by rw[zF0];exact hl,vs,_,rv,ha]
     . have z':=(zA0 hb).symm.trans z;cases z'
   . by_cases hb:b=a
     . exact hb
     . exact absurd (zA0 hb) z
theorem walk_of{l:PySem.W.OpenLaw}{n:Nat}{q:Program}{loose:List Str}{XP:(Str->Option Value)->Heap->Prop}{YP:World->Heap->Prop}{d:DefRec}{K:Params->PySem.W.Frag}{CX:World->CXT}{sp:World->Sp}{x:Str}
 (hn:l.most=some n) (hn2:n<=sizeLine) (hdf:d.params.defaults=[]) (hr:Room k callerA)
 (hY:∀(w:World)(h:Heap),YP w h->(K w.params).In h)
 (F:∀(w:World)(mg:Str->Option Value)(fa:Addr)(h:Heap),(K w.params).In h->h.Ns mainGlobals mg->mg d.name=some (.ref fa) ->
  ∃ fd:FuncData,(∀(s:Shared)(u:Value),BindsTo s fd %[[u]|[]] [(x,u)])/\
   ∀base:Heap,(K w.params).In base->base.Ns mainGlobals mg->FnOk l.prog w (K w.params) mg base (CX w) k fa fd [x] (sp w))
 (hsp:∀(w:World)(H:Hp)(a:Addr)(ns:List Int),ns.length<=n->IB H->SqL (K w.params) H a (ns.map V.int)->sp w [.ref a] H (λv _=>v=.bl true) λ_ _ _=>False)
 (hCX:∀(w:World)(H:Hp)(s:Shared)(e:Value)(s':Shared),CX w [] H s (λ_ _ _=>False) e s'->False) :
 PySem.W.WalkO q loose XP YP l.row.toRowW d [] (λf vs=>PySem.call f vs):=by
 refine Att.attach_call hn hdf λw s₀ s₁ mg mb fa o pm cd doc a vs ns G Y ho hd hcd hmg hobj hints hlen hg=>?_
 have KX:=hY w _ Y;let%[fd,hb|hF]:=F w mg fa _ KX G.T.g hmg;exact DM KX G.T.g G.T.b G.T.builtins G.T.nolimit hg hobj hints (zP0 hlen hn2) hr hF hb (λH hO hS=>hsp w H a ns hlen hO hS) λH e s'=>hCX w H s₁ e s'
end L2
/- THE LAST THEOREM (shape;LID,My.* are yours):
 My.Adr: a structure of the addresses that your layer names (classes,functions);My.Txt K t: a structure (Prop) of the equations over K;
 My.txt_mk:{K} {implicit addresses ..} (e1:nsIn K mainGlobals "law"=some (some (.ref f))) (e2:K.lookup f=some %[oc,od,.func (fnOf "law" "law" params body scope dV kV doc pm an cdv ct)|sl]) (e3:codeIn K cdv "law"=true) ..:∃t,My.Txt K t
set_option maxRecDepth 100000 in
set_option maxHeartbeats 0 in
theorem PySem.Challenge.cw_LID_holds : PySem.Challenge.rw_LID.Holds:=by
 w_on;o_law;k_head;(case hw=>w_witness2)
 k_fill
 refine L2.walk_of (l:=PySem.Challenge.rw_LID) (n:=63) (k:=40) (x:="script") (CX:=λw=>..) (sp:=λ_=>My.sp_law) rfl ⋯ rfl %[1,4|4] (λw h Y=>PySem.W.kIn_of Y) ?F ?S ?C
 case F=>
  intro w mg fa h KX G hmg;have T:∃t,My.Txt (L2.KOf KX) t:=by
   dsimp only [L2.KOf]                          -- K must stand as «<heap const> w.params» for k_is
   refine' My.txt_mk ?e1 ?e2 ?e3 ..
   (case e1=>PySem.W.k_is)                    -- in the order: a name -> its address -> its object -> its parts
   (case e2=>PySem.W.k_is)
   ..
  erw[t,T]at T;have e0:=hmg.symm.trans (PySem.W.mg_of KX G T.law);cases e0                                       -- fa is the law's own address;exact%[_,λs u=>.of_eq rfl|λbase kb nb=>My.law_fn T kb nb]     -- if «.of_eq rfl» comes too early: refine' %[_,?b|λbase kb nb=>My.law_fn T kb nb];exact λs u=>.of_eq rfl
 case S=>exact λw H a ns hl hO hS=>..
 case C=>exact ..
(the tactic k_is has no namespace: write k_is) -/
namespace L2
open PySem PySem.Spec PyProof.Rows
def bp(s:Stmt)(j:Nat):Stmt:=match s with
 | .ClassDef _ _ _ body _ _ _ _ _ _ _=>body.getD j (.Pass %[(0),(0),(0)|(0)])
 | _=>.Pass %[(0),(0),(0)|(0)]
def jF(s:Stmt):Arguments:=match s with
 | .FunctionDef _ a _ _ _ _ _ _ _ _=>a
 | _=>{ posonlyargs:=[],args:=[],vararg:=none,kwonlyargs:=[],kw_defaults:=[],kwarg:=none,defaults:=[] }
def fN(s:Stmt):List Stmt:=match s with
 | .FunctionDef _ _ b _ _ _ _ _ _ _=>b
 | _=>[]
def aq(s:Stmt):Scope:=match s with
 | .FunctionDef _ _ _ _ _ _ sc _ _ _=>sc
 | _=>{ kind:=.function,names:=[],isGenerator:=false,isCoroutine:=false }
abbrev CX0:CXT:=λ_ _ _ _ _ _=>False
abbrev E0:XK:=λ_ _ _=>False
theorem bc:ky CX0 X E0:=λ_ _ _ _ _ _ _ h=>h.elim
structure Fun(K:W.Frag)(x qual:Str)(st:Stmt)(f:Addr)(fd:FuncData):Prop where
 ex:∃(oc:Value)(od:Option Addr)(kV doc pm:Value)(an:Option Addr)(cdv ct:Value)(osl:Array (Option Value)),
  fd=PySem.W.fnOf x qual (jF st) (fN st) (aq st) .none kV doc pm an cdv ct/\K.lookup f=some %[oc,od,.func fd|osl]/\PySem.W.codeIn K cdv qual=true
 kp:PySem.W.keepIn K (.ref f)=true
section
variable {P:Program} {w:World} {K:W.Frag} {mg:Str->Option Value} {base:Heap}
theorem Fun.ok{st:Stmt}{sp:Sp}(F:Fun K x qual st f fd)(S:FnScope N ps (aq st))(len:∀vs H Q E,sp vs H Q E->vs.length=ps.length)
 (hbody:∀(cdv:Value)(A:Around)(outer:List Env)(s:Shared)(H:Hp)(vs:List V)(Q:VK)(E:XK),Room k (A.deeper (envOfC qual (aq st) s.heap.objs.size f cdv))->sp vs H Q E ->
  ∃t,PSs (Bx CX0 P w K mg base N qual (aq st) f cdv A outer s H E).nox (fN st) t/\t { nx:=λ_ H'=>Q .non H',rt:=Q } (oQ N vs) H):FnOk P w K mg base CX0 (k+1) f fd ps sp:=by
 erw[oc,od,kV,doc,pm,an,cdv,ct,osl,1,lk,hcd]at F.ex;refine fn_of lk hcd S len λA outer s H vs Q E hr hsp=>?_
 let%[t,h|q]:=hbody cdv A outer s H vs Q E hr hsp;erw[t,h.nox,q]
theorem Fun.binds{st:Stmt}{ps:List Str}(F:Fun K x qual st f fd)
 (h:∀(kV doc pm:Value)(an:Option Addr)(cdv ct:Value)(us:List Value),us.length=ps.length->bindArgs (PySem.W.fnOf x qual (jF st) (fN st) (aq st) .none kV doc pm an cdv ct) %[us|[]]=pure (ps.zip us)):Binds K fd ps []:=by
 erw[oc,od,kV,doc,pm,an,cdv,ct,osl,1,lk,hcd]at F.ex;exact .all (h kV doc pm an cdv ct)
theorem HY{x qual:Str}{st:Stmt}{f:Addr}{oc:Value}{od an:Option Addr}{osl:Array (Option Value)}{kV doc pm cdv ct:Value}(l:K.lookup f=some %[oc,od,.func (PySem.W.fnOf x qual (jF st) (fN st) (aq st) .none kV doc pm an cdv ct)|osl])
 (c:PySem.W.codeIn K cdv qual=true) (k:PySem.W.keepIn K (.ref f)=true):Fun K x qual st f (PySem.W.fnOf x qual (jF st) (fN st) (aq st) .none kV doc pm an cdv ct):=%[%[oc,od,kV,doc,pm,an,cdv,ct,osl,1,l|c]|k]
end
theorem GE(hr:Room k A):A.units+1<cLine:=Nat.lt_of_le_of_lt (Nat.add_le_add_left (by decide:1<=64) _) hr.units
theorem aS{n:Nat}(h:n<=1000):n<sizeLine:=Nat.lt_of_le_of_lt h ⋯
section
variable {X:Cx}
theorem pv (i:Nat) {x:Str} {pos:Pos} (hN:X.N[i]?=some x:=by rfl) (hv:Vis X.env.scope x:=by first | exact Or.inl rfl | exact Or.inr (.inl rfl) | exact Or.inr (Or.inr rfl)) (hd:(x==("__debug__":Str))=false:=by decide)
 (hcd:(x==("__classdict__":Str))=false:=by decide):PE X (.Name x pos) (tVar i):=Hv hN hv hd hcd
end
theorem cO{A B:Prop}(h:B):if false=true then A else B:=by
 rw[zA0 qD0];exact h
theorem dU{A B:Prop}(h:A):if true=true then A else B:=by
 rw[zC0 rfl];exact h
theorem pO{c A B:Prop}[Decidable c](h1:c->A)(h2:¬ c->B):if c then A else B:=by
 by_cases h:c
 . rw[zC0 h];exact h1 h
 . rw[zA0 h];exact h2 h
theorem wp{c A B:Prop}[Decidable c](hc:c)(h:B):if(!decide c)=true then A else B:=by
 rw[decide_eq_true hc];exact cO h
def Same(H H':Hp):Prop:=∀b o,H b=some o->H' b=some o
theorem Same.refl(H:Hp):Same H H:=λ_ _ h=>h
theorem Same.trans(a:Same H H1)(b:Same H1 H2):Same H H2:=λc o h=>b c o (a c o h)
theorem Same.free(e:Same H H'){l:Addr}(h:H' l=Option.none):H l=Option.none:=by
 cases q:H l with
 | none=>rfl
 | some o=>
   rw[e l o q]at h;cases h
theorem Same.seq{K:W.Frag}(e:Same H H')(h:SqL K H a xs):SqL K H' a xs:=by
 rcases h with(h | ⟨o,h⟩) | h
 . exact .inl (.inl (e _ _ h))
 . exact .inl (.inr %[o|e _ _ h])
 . exact .inr h
end L2
set_option maxHeartbeats 4000000
namespace L2
open PySem PySem.Spec PyProof.Rows
section
variable {X:Cx}
inductive rIsi(K:W.Frag)(xs:List V)(H:Hp)(Q:VK):Prop
 |mk:∀x t n b,xs=[x,.ty n]->TyOf K H x t->PySem.W.kitOne K t (.type n)=some b->Q (.bl b) H->rIsi K xs H Q
theorem dy:gC X (.builtin "isinstance") (rIsi X.K):=by
 intro pins s σ H xs us Q I r h;erw[x,t,n,b,1,ty,e,q]at h;let%[u,w',1,r1|r2]:=BH r;cases r2;exact Bg I r1 ty e (λtk=>%[.bl b,H,I.tok tk,1|q])
theorem iS(K:W.Frag)(n:String):PySem.W.kitOne K (.type n) (.type n)=some true:=by
 unfold PySem.W.kitOne;rw[zC0 (by simp)]
theorem mI (K:W.Frag):PySem.W.kitOne K (.type "int") (.type "bool")=some false:=by
 show(if((Value.type "int"==Value.type "bool")=true)then some true else if PySem.W.kitMeta "bool"=true then((fastBuiltinMro "int").map (·.contains (.type "bool")))else none)=some false;decide
def CDivL(_ j:Int):Prop:=0<j/\j<2 ^ 63
theorem CZ:OpR X (binaryOp .FloorDiv) (rI CDivL λi j=>.int (i / j)):=opI λi j _ _ _ _ _ hc q=>by
 have e:Int.fdiv i j=i / j:=Int.fdiv_eq_ediv_of_nonneg i (Int.le_of_lt hc.1);rw[←e]at q;refine floordiv_int (by have:=hc.1;omega) q (.inl (PyProof.noPylong_of_log2 ?_));have h1:=hc.1;have h2:=hc.2;have h3:j.natAbs<2 ^ 63:=by omega
 have h4:=(Nat.log2_lt (n:=j.natAbs) (k:=63) #[0]).mpr h3;omega
end
theorem kX:bootBuiltins "int"=some (.type "int"):=by decide
theorem rX:bootBuiltins "bool"=some (.type "bool"):=by decide
theorem lK:bootBuiltins "list"=some (.type "list"):=by decide
theorem bj:bootBuiltins "tuple"=some (.type "tuple"):=by decide
theorem rW:bootBuiltins "reversed"=some (.type "reversed"):=by decide
structure Cal(P:Program)(w:World)(K:W.Frag)(mg:Str->Option Value)(base:Heap)(n:Nat)(x:Str)(ps:List Str)(sp:Sp):Prop where
 ex:∃(f:Addr)(fd:FuncData),FnOk P w K mg base CX0 n f fd ps sp/\Binds K fd ps []/\PySem.W.keepIn K (.ref f)=true/\mg x=some (.ref f)
theorem aB{X:Cx}{e:Expr}{es:List Expr}{p pos:Pos}(C:Cal X.prog X.w X.K X.mg X.base n x ps sp)(hr:Room k X.A)(hk:n<=k)(hg:Gl X x)
 (ha:PA X (e::es) t) (hdb:(x==("__debug__":Str))=false:=by decide) (he:starEach (e::es) X.env=(false,eval e X.env)::starEach es X.env:=by rfl) (hpl:(backTo pos (starEach es X.env)).any (·.1)=false:=by rfl) :
 PE X (.Call (.Name x p) (e::es) [] pos) (vp sp [] E0 t):=by
 erw[f,fd,F,b,kp,m]at C.ex;exact Fo F (hr.mono hk) hg m kp b .nil bc ha hdb he hpl
theorem Cal.of{P:Program}{w:World}{K:W.Frag}{mg:Str->Option Value}{base:Heap}{n:Nat}{x qual:Str}{ps:List Str}{sp:Sp}{st:Stmt}{f:Addr}{fd:FuncData}(F:Fun K x qual st f fd)(O:FnOk P w K mg base CX0 n f fd ps sp)(m:mg x=some (.ref f))
 (h:∀(kV doc pm:Value)(an:Option Addr)(cdv ct:Value)(us:List Value),us.length=ps.length->bindArgs (PySem.W.fnOf x qual (jF st) (fN st) (aq st) .none kV doc pm an cdv ct) %[us|[]]=pure (ps.zip us)):Cal P w K mg base n x ps sp:=
 %[f,fd,O,F.binds h,F.kp|m]
theorem iteN{c A B:Prop}[Decidable c](hc:¬ c)(h:A):if(!decide c)=true then A else B:=by
 rw[decide_eq_false hc];exact dU h
theorem bb{c A B:Prop}[Decidable c](hc:c)(h:A):if decide c=true then A else B:=by
 rw[decide_eq_true hc];exact dU h
theorem aI{c A B:Prop}[Decidable c](hc:¬ c)(h:B):if decide c=true then A else B:=by
 rw[decide_eq_false hc];exact cO h
def SameBut(f:Addr)(H H':Hp):Prop:=∀b o,b≠f->H b=some o->H' b=some o
theorem SameBut.trans(a:SameBut f H H1)(b:SameBut f H1 H2):SameBut f H H2:=λc o h e=>b c o h (a c o h e)
theorem SameBut.refl(f:Addr)(H:Hp):SameBut f H H:=λ_ _ _ h=>h
theorem zK0{f:Addr}{H H':Hp}(h:Same H H'):SameBut f H H':=λb o _ e=>h b o e
abbrev SameBut.of:=@zK0
theorem SameBut.upd(o:HO):SameBut f H (upd H f o):=λb u h e=>by rw[aG h];exact e
theorem zE0{H:Hp}{p:Addr}(h:H p=none)(o:HO):Same H (upd H p o):=λb u q=>by rw[aG (aQ q h)];exact q
abbrev Same.new:=@zE0
theorem Same.but{f:Addr}(a:Same H0 H)(n:H0 f=none)(b:SameBut f H H'):Same H0 H':=λc o e=>b c o (aQ e n) (a c o e)
def FeedAt(H:Hp)(f:Addr):Prop:=∃own st:Int,H f=some (.lst [.int own,.int st])/\0<=own/\0<=st/\st<=2147483646
theorem FeedAt.ne{b:Addr}(F:FeedAt H f)(h:H b=none):b≠f:=by
 erw[o,s,e,_]at F;intro z;subst z;rw[h]at e;cases e
theorem FeedAt.same(F:FeedAt H f)(s:Same H H'):FeedAt H' f:=by
 erw[o,t,e,h]at F;erw[o,t,s _ _ e,h]
inductive spTake(vs:List V)(H:Hp)(Q:VK)(u_3:XK):Prop
 |mk:∀(f:Addr)(m:Int),vs=[.ref f,.int m]->FeedAt H f->0<m->m<2 ^ 63->(∀(d:Int)(H':Hp),0<=d->d<m->FeedAt H' f->SameBut f H H'->Q (.int d) H')->spTake vs H Q u_3
inductive spFeed(K:W.Frag)(vs:List V)(H:Hp)(Q:VK)(u_3:XK):Prop
 |mk:∀(a:Addr)(ns:List Int)(k:Int),vs=[.ref a,.int k]->SqL K H a (ns.map V.int)->ns.length<=63->0<=k->k<1000000->(∀(p:Addr)(H':Hp),H p=none->Same H H'->FeedAt H' p->Q (.ref p) H')->spFeed K vs H Q u_3
inductive spLaw(K:W.Frag)(vs:List V)(H:Hp)(Q:VK)(u_3:XK):Prop
 |mk:∀(a:Addr)(ns:List Int),vs=[.ref a]->SqL K H a (ns.map V.int)->ns.length<=63->(∀H',Q (.bl true) H')->spLaw K vs H Q u_3
theorem cv{n:Nat}(h:n<=1000):n<=sizeLine:=Nat.le_of_lt (aS h)
theorem Ex{ns:List Int}{k:Int}(h0:0<=k)(h:k<(ns.length:Int)):∃v:Int,atI (ns.map V.int) k=some (.int v):=by
 have hk:k.toNat<ns.length:=by omega
 have q:atI (ns.map V.int) ((k.toNat:Nat):Int)=some (.int ns[k.toNat]):=cE (by rw[zZ0,zM0 hk] <;> rfl);have ek:((k.toNat:Nat):Int)=k:=by omega
 rw[ek]at q;erw[_,q]
@[reducible] def cx (X:Cx) (N:List Str) (scope:Scope) (cl:List (Str×Addr)) (s:Shared) (H:Hp) (fp:List Addr):Cx where
 prog:=X.prog
 w:=X.w
 K:=X.K
 mg:=X.mg
 base:=X.base
 A:=X.A
 N:=N
 s₀:=s
 H₀:=H
 env:=compEnvC scope cl s.heap.objs.size X.env
 outer:=X.stack
 stack:=X.stack
 ex:=fp
 fn:=λ_=>false
 calm:=X.calm
 pn:=[]
 xe:=λ_ _=>False
structure CompScope(X:Cx)(x:Str)(N:List Str)(ix:List Nat)(scope:Scope)(cl:List (Str×Addr)):Prop where
 clos:closureFor scope X.env=pure cl
 nocell:∀y∈scope.names,y.2≠.cell
 kind:scope.kind=.function
 names:∀y∈scope.names,y.2=.local->scope.names.lookup y.1=some .local
 own:scope.names.lookup x=some .local
 nd:(x::N).Nodup
 sub:∀p∈cl,X.env.cells.lookup p.1=some p.2
 has:((relabel scope X.env).names.all λp=>!(p.2==.cell||p.2==.free)||(cl.lookup p.1).isSome)=true
 outs:∀(j:Nat)(y:Str),N[j]?=some y->(relabel scope X.env).names.lookup y=some .cell/\∃k c,ix[j]?=some k/\X.N[k]?=some y/\cl.lookup y=some c/\X.env.scope.names.lookup y=some .cell
def outs(ix:List Nat)(σ:St):St:=ix.map λk=>(σ[k]?).join
section
variable {X:Cx} {pins:List (Addr×Obj)} {σ:St} {x:Str} {N:List Str} {ix:List Nat} {scope:Scope} {cl:List (Str×Addr)} {fp:List Addr} {H3:Hp} {s3:Shared}
theorem CompScope.cells(S:CompScope X x N ix scope cl){y:Str}{c:Addr}(h:cl.lookup y=some c):X.env.cells.lookup y=some c:=S.sub _ (PySem.mem_of_lookup h)
theorem mY(S:CompScope X x N ix scope cl)(I3:Inv X pins σ H3 s3)(hf:∀b∈fp,jH X pins H3 b)(hlt:∀b∈fp,b<s3.heap.objs.size):(cx X (x::N) scope cl s3 H3 fp).Ok where
 mod:=I3.ok.mod
 kind:=S.kind
 glob:=I3.ok.glob
 blt:=I3.ok.blt
 above:=zG0 _
 inj:=λy z c h1 h2=>I3.ok.inj y z c (S.cells h1) (S.cells h2)
 has:=λy hy=>by
  have q:=List.all_eq_true.mp S.has;have hy:(relabel scope X.env).names.lookup y=some .cell∨(relabel scope X.env).names.lookup y=some .free:=hy;have z:∀k:NameKind,(k==.cell||k==.free)=true->(relabel scope X.env).names.lookup y=some k->∃c,cl.lookup y=some c:=λk hk e=>by
   have r:=q _ (PySem.mem_of_lookup e);rw[hk]at r;exact Option.isSome_iff_exists.mp (by simpa using r)
  rcases hy with e | e
  . exact z _ (by rfl) e
  . exact z _ (by rfl) e
 cab:=λ_ _ h _=>nomatch h
 hd:=I3.ok.hd
 frames:=I3.ok.frames
 stk:=.inl rfl
 exf:=λb hb=>%[zV0 (hlt b hb)|λy c e=>(hf b hb).2.2.2.2.1 y c (S.cells e)]
 bs:=λb o e=>I3.bs b o e
 bsz:=zP0 I3.ok.bsz I3.sz
 noex:=λb o e hb=>by
  rcases(hf b hb).2.2.2.1 with z | z
  . exact I3.ok.noex b o e z
  . exact absurd (qO0 (zN0 e) (zP0 I3.ok.bsz z)) (qU0 _)
 exfs:=λb hb z=>by
  rcases zW0 (I3.stkSub b z)with e | e
  . exact(hf b hb).2.1 e
  . exact(hf b hb).2.2.1 e
 funs:=I3.stack
 frf:=I3.stkFree
theorem yK(S:CompScope X x N ix scope cl)(I3:Inv X pins σ H3 s3)(hf:∀b∈fp,jH X pins H3 b)(hlt:∀b∈fp,b<s3.heap.objs.size)(hix:ix.length=N.length){h1:Heap}{t':Nat}{m:Str->Option Value}
 (hn:h1.Ns s3.heap.objs.size m) (hk:∀b o,s3.heap.get? b=some o->h1.get? b=some o):Inv (cx X (x::N) scope cl s3 H3 fp) [] (none::outs ix σ) H3 { s3 with heap:=h1,toks:=t' } where
 ok:=mY S I3 hf hlt
 os:=rfl
 bare:=I3.bare
 base:=Un.kept hk
 loc:=by
  erw[m,hn,λi y v h1' h2 h3=>?_];cases i with
  | zero=>
    have h2':(some (none:Option V))=some (some v):=h2;cases h2'
  | succ j=>
    have h1'':N[j]?=some y:=h1';have h2':(outs ix σ)[j]?=some (some v):=h2;let%[hr,k,c,e1,e2,e3|e4]:=S.outs j y h1'';unfold outs at h2';rw[zZ0,e1]at h2';have h2'':(σ[k]?).join=some v:=zT0 h2';have e5:σ[k]?=some (some v):=by
     cases q:σ[k]? with
     | none=>rw[q]at h2'';cases h2''
     | some o=>rw[q]at h2'';exact congrArg some h2''
    erw[m0,_,hl]at I3.loc;let%[u,r|l]:=hl k y v e2 e5 (.inr (.inl e4));erw[u,r,.inr %[.inl hr,c,e3|6]];rcases l with⟨kk,_⟩ | ⟨_,c',ec,z⟩
    . have kk':X.env.scope.names.lookup y=some .local:=kk;rw[e4]at kk';cases kk'
    . rw[S.cells e3]at ec;cases ec;erw[o,ho,hd]at z;erw[o,hk _ _ ho,hd]
 cell:=λy c e=>by
  let%[v,o,ho|hd]:=I3.cell y c (S.cells e);erw[v,o,hk _ _ ho,hd]
 free:=I3.hok.fresh (zG0 _)
 freeC:=λy c e=>I3.freeC y c (S.cells e)
 pin:=λp hp=>absurd (show p∈([]:List (Addr×Obj))from hp) (by simp)
 hok:=I3.hok.kept hk
 len:=by
  show(none::outs ix σ).length=(x::N).length;rw[zO0,zO0];unfold outs;rw[zF0,hix]
theorem tD(I3:Inv X pins σ H3 s3)(hf:∀b∈fp,jH X pins H3 b){σ':St}{h'':Heap}{N':List Str}(J:Inv (cx X N' scope cl s3 H3 fp) [] σ' H' s')(hb:Heap.SameBut s3.heap.objs.size s'.heap h'') :
 Inv X pins σ H' { s' with heap:=h'' }:=by
 have ne:∀b o,s3.heap.get? b=some o->b≠s3.heap.objs.size:=λb o e=>zV0 (zN0 e)
 have B:Un (frs X.stack) fp H3 H' s3.heap s'.heap:=J.base;refine I3.call' (s':={ s' with heap:=h'' }) (ch:=fp) J.os ⟨λb o e n h1 h2=>(hb.2 b (ne b o e)).trans (B.keep b o e n h1 h2),λb o e n h1 h2=>?_,B.free,λb o e h2=>?_,B.tups,B.frzs,B.tbls⟩ (λb ob e=>?_) J.bare (λb z=>?_)
 . let%[sl|q]:=B.slot b o e n h1 h2;erw[sl,(hb.2 b (ne b o e)).trans q]
 . let%[o'|q]:=B.there b o e h2;erw[o',(hb.2 b (ne b o e)).trans q]
 . have fr:H' s3.heap.objs.size=none:=J.free;refine(J.hok b ob e).stay (λc w' hc q=>(hb.2 c ?_).trans q) (λ_ q=>q) λ_ _ q=>q
   rintro rfl;rcases hc with rfl | hc
   . rw[fr]at e;cases e
   . rw[fr]at hc;cases hc
 . let%[_,h2,_,h4,h5|h6]:=hf b z;erw[h4,h2,h5,h6]
end
abbrev TBl:=St->Hp->(Hp->Prop)->VK->Prop
def PB(X:Cx)(ifs:List Expr)(elt:Expr)(tb:TBl):Prop:=
 ∀(pins:List (Addr×Obj))(s:Shared)(σ:St)(H:Hp)(skip:Hp->Prop)(keep:VK),Inv X pins σ H s->tb σ H skip keep ->
  wpAny (model X.prog X.w) X.A (forIn ifs true λc r=>if r=true then do let ok ←isTrue c X.env (eval c X.env);pure (ForInStep.yield ok)else pure (ForInStep.yield r))
   (λok s3=>if ok=true then wpAny (model X.prog X.w) X.A (eval elt X.env) (EP X pins σ keep) X.xe s3 else ∃H',Inv X pins σ H' s3/\skip H') X.xe s
def tB0(te:TE):TBl:=λσ H _ keep=>te σ H keep
def tB1(tc:TT)(te:TE):TBl:=λσ H skip keep=>tc σ H λb H1=>if b=true then te σ H1 keep else skip H1
theorem db(he:PE X elt te):PB X [] elt (tB0 te):=by
 intro pins s σ H skip keep I h;refine wpAny_tests_nil ?_;rw[zC0 rfl];exact he pins s σ H keep I h
theorem pb_if(hc:PT X c tc)(he:PE X elt te):PB X [c] elt (tB1 tc te):=by
 intro pins s σ H skip keep I h;refine wpAny_tests_one (thn (hc pins s σ H _ I h) λb s1 ⟨H1,I1,q1⟩=>?_);cases b with
 | true=>
   rw[zC0 rfl]at q1 ⊢;exact he pins s1 σ H1 keep I1 q1
 | false=>
   rw[zA0 ⋯]at q1 ⊢;erw[H1,I1,q1]
def sj(J:It)(D:Addr)(ix:List Nat)(tb:TBl)(σ:St)(H:Hp)(Q:VK):Prop:=∃W:Nat->Nat->Hp->Prop,(∃m,W 0 m (upd H D (.lst [])))/\∀i m H2,W i m H2 ->
 (J.stop i H2/\Q (.ref D) H2)∨(J.go i H2/\∀y H3,J.yld i H2 y H3->tb (some y::outs ix σ) H3 (λH4=>∃m',m'<m/\W (i+1) m' H4)
  λz H4=>∃ys,H4 D=some (.lst ys)/\ys.length<sizeLine/\∃m',m'<m/\W (i+1) m' (upd H4 D (.lst (ys++[z]))))
def BY(wi:TI)(ix:List Nat)(tb:TBl):TE:=λσ H Q=>wi σ H λJ H1=>∀D,H1 D=none->sj J D ix tb σ H1 Q
section
variable {prog:Program} {w:World} {A:Around} {E:Value->Shared->Prop} {R:Result->Shared->Prop} {s:Shared}
theorem pC{elt target iter:Expr}{ifs:List Expr}{scope:Scope}{pos:Pos}{it acc:Value}{env:Env}(I:Nat->Shared->Prop)
 (turn:∀n s,I n s->wpAny (model prog w) A (pyNext it) (λr s1=>match r with
  | none=>R (.ok .next) s1
  | some v=>wpAny (model prog w) A (letOwnedTupleGo target it v) (λ_ s1'=>wpAny (model prog w) A (assign target env v) (λ_ s2=>
   wpAny (model prog w) A (forIn ifs true λc r=>if r=true then do let ok ←isTrue c env (eval c env);pure (ForInStep.yield ok)else pure (ForInStep.yield r)) (λok s3=>
    if ok=true then wpAny (model prog w) A (eval elt env) (λx s4=>
     wpAny (model prog w) A (call (.builtin "list.append") [acc,x]) (λ_ s5=>∃m,m<n/\I m s5) (λ_ _=>False) s4) (λ_ _=>False) s3
    else ∃m,m<n/\I m s3) (λ_ _=>False) s2) (λ_ _=>False) s1') (λ_ _=>False) s1) (λ_ _=>False) s)
 (n:Nat) (h:I n s) :
 codeAny (model prog w) A (.compLoop (.ListComp elt [%[target,iter,ifs|(0)]] scope pos) 0 it acc env) R s:=by
 have up:∀{α:Type}{t:Sem α}{Q Q':α->Shared->Prop}{E':Value->Shared->Prop}{s:Shared},wpAny (model prog w) A t Q (λ_ _=>False) s->(∀a s,Q a s->Q' a s)->wpAny (model prog w) A t Q' E' s:=
  λh q=>wpAny_mono h q λ_ _ f=>f.elim
 refine codeAny_loop rfl I (λn s hI=>?_) n h;show wpAny _ A ((compTurn (.ListComp elt [%[target,iter,ifs|(0)]] scope pos) 0 it acc env).onRaise (λx=>do noteFrame x env;theTreesLotGoes x)) _ _ s;refine wpAny_noted ?_;rw[compTurn_list];refine zD0 (wpAny_standAt (zD0 (up (turn n s hI) λr s1 h1=>?_)));cases r with
 | none=>exact zI0 h1
 | some v=>
   refine zD0 (up h1 λ_ s1' h1'=>?_);refine zD0 (up h1' λ_ s2 h2=>zD0 (up h2 λok s3 h3=>?_));cases ok with
   | false=>exact zI0 %[1|h3]
   | true=>
     exact zD0 (zD0 (up h3 λx s4 h4=>zD0 (up h4 λ_ s5 h5=>zI0 (zI0 %[1|h5]))))
end
structure Apart(X:Cx)(pins:List (Addr×Obj))(H:Hp)(C:Addr):Prop where
 fr:H C=none
 lo:C≠X.env.locals
 sz:X.s₀.heap.objs.size<=C
 ce:∀y c,X.env.cells.lookup y=some c->c≠C
 pi:∀p∈X.pn++pins,p.1≠C
theorem Apart.turn{σ:St}{h':Heap}(a:Apart X pins H C)(I:Inv X pins σ H s)(hs:Heap.SameBut C s.heap h'):Inv X pins σ H { s with heap:=h' }:=
 I.turned (t':=s.toks) (λb o ne e=>(hs.2 b ne).trans e) a.fr a.lo (.inr a.sz) a.ce a.pi
section
variable {X:Cx} {x:Str} {N:List Str} {ix:List Nat} {scope:Scope} {cl:List (Str×Addr)} {elt iter:Expr} {ifs:List Expr} {px pos:Pos} {wi:TI} {tb:TBl}
theorem wI(hc:X.calm=true)(S:CompScope X x N ix scope cl)(hix:ix.length=N.length)(hb:∀s3 H3 fp,PB (cx X (x::N) scope cl s3 H3 fp) ifs elt tb)
   {σ:St}  {Q:VK}  {fp:List Addr}   {RR:Value->Addr->Result->Shared->Prop} {E:Value->Shared->Prop}
 (I2:Inv X pins σ H2 s2) (T:Turn X.prog X.w X.K (.Name x px) J fp it tn) (st2:tn 0 s2.heap) (f2:∀b∈fp,jH X pins H2 b)
 (h:∀D,H2 D=none->∃W:Nat->Nat->Hp->Prop,(∃m,W 0 m (upd H2 D (.lst [])))/\∀i m H3,W i m H3 ->
  (J.stop i H3/\Q (.ref D) H3)∨(J.go i H3/\∀y H4,J.yld i H3 y H4->tb (some y::outs ix σ) H4 (λH5=>∃m',m'<m/\W (i+1) m' H5)
   λz H5=>∃ys,H5 D=some (.lst ys)/\ys.length<sizeLine/\∃m',m'<m/\W (i+1) m' (upd H5 D (.lst (ys++[z])))))
 (hRR:∀(D C:Addr)(H':Hp)(s':Shared)(m:Str->Option Value),s'.heap.Ns C m->Apart X pins H' C->Inv X pins σ H' s'->Q (.ref D) H'->RR (.ref D) C (.ok .next) s') :
 wpAny (model X.prog X.w) X.A (newList []) (λacc s3=>wpAny (model X.prog X.w) X.A (newFunctionEnv scope X.env.globals cl [] X.env.qual none .none (some X.env)) (λcenv s4=>
  codeAny (model X.prog X.w) X.A (.compStart (.ListComp elt [%[.Name x px,iter,ifs|(0)]] scope pos) 0 (.ref it) acc { cenv with scope:=relabel scope X.env }) (RR acc cenv.locals) s4) E s3) E s2:=by
 refine wpAny_newObj_type (wpAny_newFunctionEnv S.nocell (by intro y hy;simp at hy) (λh1 hns1 hsb1=>?_) S.kind)
 dsimp only at hns1 hsb1 ⊢
 have I3:Inv X pins σ (upd H2 s2.heap.objs.size (.lst [])) { s2 with heap:=s2.heap.push { cls:=.type "list",dict:=none,data:=.seq ([]:List Value).toArray } }:=I2.lnew (its:=[]) (ys:=[]) (t':=s2.toks) .nil (zU0 _);have hD:H2 s2.heap.objs.size=none:=I2.fresh;let%[W,%[m0|w0]|turn]:=h s2.heap.objs.size hD;have hltF:∀b∈fp,b<s2.heap.objs.size:=λb hb=>by
  let%[o,e|_]:=T.obj 0 _ st2 b hb;exact zN0 e
 generalize hs3:({ s2 with heap:=s2.heap.push { cls:=.type "list",dict:=none,data:=.seq ([]:List Value).toArray } }:Shared)=s3 at I3;have eh:s2.heap.push { cls:=.type "list",dict:=none,data:=.seq ([]:List Value).toArray }=s3.heap:=by rw[←hs3]
 have et:s2.toks=s3.toks:=by rw[←hs3]
 rw[eh]at hns1 hsb1 ⊢;have sz3:s3.heap.objs.size=s2.heap.objs.size+1:=by rw[←eh,Heap.size_push]
 have hlt3:∀b∈fp,b<s3.heap.objs.size:=λb hb=>qO0 (hltF b hb) (by rw[sz3];exact qN0 _)
 have f3:∀b∈fp,jH X pins (upd H2 s2.heap.objs.size (.lst [])) b:=λb hb=>by
  let%[q1|q2]:=f2 b hb;erw[by rw[aG (zV0 (hltF b hb))];exact q1,q2]
 have up:∀b o,s3.heap.get? b=some o->h1.get? b=some o:=λb o e=>hsb1.extBut b o (zV0 (zN0 e)) (zR0 _ e)
 have old:∀b o,s2.heap.get? b=some o->h1.get? b=some o:=λb o e=>up b o (by rw[←eh];exact zR0 _ e)
 have es:({ s2 with heap:=h1,toks:=s2.toks+([]:List (Str×Value)).length }:Shared)={ s3 with heap:=h1,toks:=s2.toks+([]:List (Str×Value)).length }:=by rw[←hs3]
 rw [es];have I4:Inv (cx X (x::N) scope cl s3 (upd H2 s2.heap.objs.size (.lst [])) fp) [] (none::outs ix σ) (upd H2 s2.heap.objs.size (.lst [])) { s3 with heap:=h1,toks:=s2.toks+([]:List (Str×Value)).length }:=
  yK S I3 f3 hlt3 hix hns1 up
 have st4:tn 0 h1:=T.keep 0 _ _ st2 λb _ o e=>old b o e
 have loop:codeAny (model X.prog X.w) X.A (.compLoop (.ListComp elt [%[.Name x px,iter,ifs|(0)]] scope pos) 0 (.ref it) (.ref s2.heap.objs.size) (compEnvC scope cl s3.heap.objs.size X.env)) (RR (.ref s2.heap.objs.size) s3.heap.objs.size)
  { s3 with heap:=h1,toks:=s2.toks+([]:List (Str×Value)).length }:=by
  refine pC (λn s'=>∃i v0 H',Inv (cx X (x::N) scope cl s3 (upd H2 s2.heap.objs.size (.lst [])) fp) [] (v0::outs ix σ) H' s'/\tn i s'.heap/\(∀b∈fp,H' b=none)/\W i n H') ?_ m0 %[(0),none,_,I4,st4,λb hb=>(f3 b hb).1|w0];rintro n s5 ⟨i,v0,H5,I5,st5,fr5,w5⟩;have stat:∀{H':Hp},(∀b∈fp,H' b=none)->∀b∈fp,jH (cx X (x::N) scope cl s3 (upd H2 s2.heap.objs.size (.lst [])) fp) [] H' b:=λhn b hb=>
   %[hn b hb,((mY S I3 f3 hlt3).exf b hb).1,(mY S I3 f3 hlt3).exfs b hb,.inl hb,((mY S I3 f3 hlt3).exf b hb).2|λp hp=>absurd (show p∈([]:List (Addr×Obj))from hp) (by simp)]
  rcases turn i n H5 w5 with⟨stop,qn⟩ | ⟨go,step⟩
  . refine thn (T.done (cx X (x::N) scope cl s3 (upd H2 s2.heap.objs.size (.lst [])) fp) rfl rfl rfl hc i [] s5 _ H5 _ I5 (stat fr5) st5 stop) λr s6 ⟨hr,I6⟩=>?_
    subst hr;erw[m6,hn6,_]at I6.loc;exact hRR _ _ H5 s6 m6 hn6 ⟨I6.free,Ne.symm (zV0 I3.lt),I3.sz,λy c e z=>by
     let%[v|q]:=I3.cell y c e;exact absurd q.lt (by rw[z];exact qU0 _),λp hp z=>absurd (zN0 (I3.pin p hp).1) (by rw[z];exact qU0 _)⟩ (tD I3 f3 I6 (Heap.SameBut.refl _ _)) qn
  . refine thn (T.item (cx X (x::N) scope cl s3 (upd H2 s2.heap.objs.size (.lst [])) fp) rfl rfl rfl hc i [] s5 _ H5 _ I5 (stat fr5) st5 go) λr s6 ⟨u,hr,h6⟩=>?_
    subst hr;refine thn h6 λ_ s7 ⟨y,H7,I7,r7,y7,st7,fr7⟩=>?_
    have I7':=I7.pinned (stat fr7) (T.obj _ _ st7);refine wpAny_assign_Name (qo (i:=0) I7' S.nd rfl (.inl (lookup_relabel_local S.own)) r7 (λs8 I8=>?_) (.inr (lookup_relabel_local S.own)));have I8':Inv (cx X (x::N) scope cl s3 (upd H2 s2.heap.objs.size (.lst [])) fp) ([]++lI fp s7.heap) (some y::outs ix σ) H7 s8:=I8;have again:∀{v9:Option V}{H9:Hp}{s9:Shared},Inv (cx X (x::N) scope cl s3 (upd H2 s2.heap.objs.size (.lst [])) fp) ([]++lI fp s7.heap) (v9::outs ix σ) H9 s9->(∃m',m'<n/\W (i+1) m' H9) ->
     ∃m,m<n/\∃i v0 H',Inv (cx X (x::N) scope cl s3 (upd H2 s2.heap.objs.size (.lst [])) fp) [] (v0::outs ix σ) H' s9/\tn i s9.heap/\(∀b∈fp,H' b=none)/\W i m H':=fun{v9 H9 s9} I9 ⟨m',hm,w9⟩=>by
     erw[m',hm,i+1,v9,H9,I9.unpinned,T.keep _ _ _ st7 λb hb o e=>(I9.pin (b,o) (qQ0 _ (qQ0 _ (fk hb e)))).1,λb hb=>?_,w9];let%[o,e|d]:=T.obj _ _ st7 b hb;exact(I9.pin (b,o) (qQ0 _ (qQ0 _ (fk hb e)))).2.1
    refine thn (hb s3 (upd H2 s2.heap.objs.size (.lst [])) fp _ s8 _ H7 _ _ I8' (step y H7 y7)) λok s9 q9=>?_
    cases ok with
    | false=>
      rw[zA0 ⋯]at q9 ⊢;erw[H9,I9,q9]at q9;exact again I9 q9
    | true=>
      rw[zC0 rfl]at q9 ⊢;refine thn q9 λu s10 ⟨z,H10,I10,r10,ys,hy,hz,q10⟩=>?_
      refine thn (cz _ s10 _ H10 (.ref s2.heap.objs.size) [z] (.ref s2.heap.objs.size) [u] (λ_ H'=>∃m',m'<n/\W (i+1) m' H') I10 rfl (.cons r10 .nil) %[_,ys,z,1,1,hy,hz|q10]) λ_ s11 ⟨_,H11,I11,_,q11⟩=>?_
      exact again I11 q11
 exact codeAny_compStart_list loop (T.self _ 0 _ _ _ st4 loop)
theorem cM(hc:X.calm=true)(S:CompScope X x N ix scope cl)(hix:ix.length=N.length)(hi:PI X (.Name x px) iter wi)(hb:∀s3 H3 fp,PB (cx X (x::N) scope cl s3 H3 fp) ifs elt tb)
 (hs:∀x,foldedSetIterable iter X.env x=pure x:=by intro _;rfl):PE X (.ListComp elt [%[.Name x px,iter,ifs|(0)]] scope pos) (BY wi ix tb):=by
 intro pins s σ H Q I h;rw[eval_ListComp];refine wpAny_comprehension_free (use:=none) rfl hs S.clos S.kind S.names (thn (hi pins s σ H _ I h) λxv s1 h1=>thn h1 λitv s2 h2=>?_);erw[it,fp,tn,J,H2,1,I2,T,st2,f2,R]at h2;refine wI hc S hix hb (RR:=λacc C=>compPost (model X.prog X.w) X.A X.xe none (EP X pins σ Q) acc C) I2 T st2 f2 R ?_;intro D C H' s' m hn ap I' q;erw[m,hn,λh'' hb''=>%[.ref D,H',ap.turn I' hb'',1|q]]
theorem uF{i:Nat}{y:Str}{py spos:Pos}(hN:X.N.Nodup)(hi0:X.N[i]?=some y)(hx:Loc X.env.scope y)(hc:X.calm=true)(S:CompScope X x N ix scope cl)(hix:ix.length=N.length)(hi:PI X (.Name x px) iter wi)(hb:∀s3 H3 fp,PB (cx X (x::N) scope cl s3 H3 fp) ifs elt tb)
 (hsw:swapsWith (.ListComp elt [%[.Name x px,iter,ifs|(0)]] scope pos) (some (.Name y py)) spos.line X.env=pure true:=by rfl')
 (hs:∀x,foldedSetIterable iter X.env x=pure x:=by intro _;rfl) (hf:X.fn y=true∨X.env.scope.names.lookup y=some .local:=by first | exact .inl rfl | exact .inr rfl | assumption) :
 PS X (.Assign [.Name y py] (.ListComp elt [%[.Name x px,iter,ifs|(0)]] scope pos) spos) (λD σ H=>BY wi ix tb σ H λv H'=>D.nx (σ.set i (some v)) H'):=by
 intro pins s σ H Dn I h;rw[exec_Assign_Name_used _ _ _ _ hsw];refine zD0 (wpAny_standAt (zD0 ?_));show wpAny _ X.A (do let _ ←comprehension (.ListComp elt [%[.Name x px,iter,ifs|(0)]] scope pos) scope X.env _ (newList []) false (eval iter X.env) (some (assign (.Name y py) X.env))) _ _ s;refine zD0 (wpAny_mono (wpAny_comprehension_free (use:=some (assign (.Name y py) X.env)) (Q:=λ_ s'=>SP X pins Dn .next s') rfl hs S.clos S.kind S.names
  (thn (hi pins s σ H _ I h) λxv s1 h1=>thn h1 λitv s2 h2=>?_)) (λ_ s' hq=>zI0 (zI0 hq)) λ_ _ e=>e)
 erw[it,fp,tn,J,H2,1,I2,T,st2,f2,R]at h2;refine wI hc S hix hb (RR:=λacc C=>compPost (model X.prog X.w) X.A X.xe (some (assign (.Name y py) X.env)) (λ_ s'=>SP X pins Dn .next s') acc C) (Q:=λv H'=>Dn.nx (σ.set i (some v)) H') I2 T st2 f2 R ?_;intro D C H' s' m hn ap I' q;show wpAny _ X.A (assign (.Name y py) X.env (.ref D)) _ _ _;refine wpAny_assign_Name (sM I' hN hi0 hx (v:=.ref D) rfl (λs'' I'' hsb=>?_) hf);erw[a,hsb,ha]at hsb;have ne:C≠a:=by
  rcases ha with z | z
  . rw[z];exact ap.lo
  . exact Ne.symm (ap.ce y a z)
 erw[m,hn.sameBut hsb ne,λh'' hb''=>%[_,H',ap.turn I'' hb''|q]]
end
section
variable {X:Cx} {pins:List (Addr×Obj)} {σ:St} {H:Hp} {s:Shared} {h':Heap}
theorem Inv.turnedNew{t':Nat}{ch:List Addr}{T:Addr}(I:Inv X pins σ H s)(k:∀b u,b∉ch->s.heap.get? b=some u->h'.get? b=some u)(hf:∀b∈ch,jH X pins H b)(hT:s.heap.objs.size<=T)
 (new:ObjOk X.prog X.w (upd H T o) h' T o):Inv X pins σ (upd H T o) { s with heap:=h',toks:=t' }:=by
 have nit:∀b u,H b=some u->b∉ch:=λb u e z=>by rw[(hf b z).1]at e;cases e
 have hn:H T=none:=I.hok.fresh hT;have lt:∀b u,s.heap.get? b=some u->b≠T:=λb u e=>zV0 (qO0 (zN0 e) hT)
 refine I.step (g':=s.gens) (d':=s.drawn) (ch:=ch) (λb hb=>?_) (λb u _ _ hc e _=>k b u hc e) (λb u _ _ hc e _=>%[u.slots|k b u hc e]) (λb u _ e n=>by rw[aG (lt b u e)];exact n) (λb u hc e=>%[u|k b u hc e])
  (λb xs e=>by rw[aG (aQ e hn)];exact e) (λb ob u e=>by rw[aG (aQ e hn)];exact e) (λb ps e=>%[#[]|by rw[aG (aQ e hn),e];simp]) (λm hm=>?_) (λb u e=>?_) I.bare
 . let%[_,h2,_,h4,h5|h6]:=hf b hb;erw[h4,h2,h5,h6]
 . erw[ob,es,ep,ho,r]at hm;erw[ob,es,ep,k _ ob (λz=>(hf _ z).2.1 rfl) ho,r]
 . by_cases hb:b=T
   . subst hb;rw[am]at e;cases e;exact new
   . rw [aG hb]at e;refine(I.hok b u e).stay (λc v hc q=>k c v ?_ q) (λc q=>by rw[aG (aQ q hn)];exact q) λc xs q=>by rw[aG (aQ q hn)];exact q
     rcases hc with z | z
     . rw[z];exact nit b u e
     . exact nit c _ z
theorem Inv.turnedL{t':Nat}{ch:List Addr}(I:Inv X pins σ H s)(k:∀b u,b∉ch->s.heap.get? b=some u->h'.get? b=some u)(hf:∀b∈ch,jH X pins H b):Inv X pins σ H { s with heap:=h',toks:=t' }:=by
 have nit:∀b u,H b=some u->b∉ch:=λb u e z=>by rw[(hf b z).1]at e;cases e
 refine I.step (g':=s.gens) (d':=s.drawn) (ch:=ch) (λb hb=>?_) (λb u _ _ hc e _=>k b u hc e) (λb u _ _ hc e _=>%[u.slots|k b u hc e]) (λ_ _ _ _ n=>n) (λb u hc e=>%[u|k b u hc e])
  (λ_ _ e=>e) (λ_ _ _ e=>e) (λb ps e=>%[#[]|by rw[e];simp]) (λm hm=>?_) (λb u e=>?_) I.bare
 . let%[_,h2,_,h4,h5|h6]:=hf b hb;erw[h4,h2,h5,h6]
 . erw[ob,es,ep,ho,r]at hm;erw[ob,es,ep,k _ ob (λz=>(hf _ z).2.1 rfl) ho,r]
 . refine (I.hok b u e).stay (λc v hc q=>k c v ?_ q) (λ_ q=>q) λ_ _ q=>q
   rcases hc with z | z
   . rw[z];exact nit b u e
   . exact nit c _ z
end
def Ite(K:W.Frag)(a:Addr):It:=
 ⟨λi H=>∃xs x,SqL K H a xs/\xs[i]?=some x,λi H y H'=>∃t,y=.ref t/\H t=none/\∀xs x,SqL K H a xs->xs[i]?=some x->H'=upd H t (.tup [.int i,x]),λi H=>∃xs,SqL K H a xs/\xs.length<=i⟩
theorem zV{K:W.Frag}{elts:List Expr}{k:Nat}{pos:Pos}(a e it:Addr)(hei:e≠it) :
 Turn P w K (.Tuple elts k pos) (Ite K a) [e,it] e (λi h=>(∃old,IsEnum h e it i old)/\h.IsListIter it a i) where
 mem:=by simp
 obj:=λi h st b hb=>by
  erw[%[old|he],o,e2,c,d]at st;rcases zW0 hb with z | z
  . subst z;erw[_,he,λv z=>nomatch z]
  . have z':=zS0 z;subst z';erw[o,e2,λv z=>by rw[d]at z;cases z]
 keep:=λi h h' st k=>by
  erw[%[old|he],hit]at st;erw[%[old|k e (by simp) _ he],hit.at λo x=>k it (by simp) o x]
 item:=by
  intro X hP hw hK hc i pins s σ H E I hf st hg;subst hP hw hK;erw[xs,x,hq,hx]at hg;let%[its,rv,p|hz]:=I.list hq;let%[u,hu|ru]:=rv.get hx;erw[%[old|he],hit]at st;refine wpAny_pyNext_enum_item he hit p.isList (x:=u) (by simpa using hu) hei λh1 ho hit1 hT hsz hk=>?_
  erw[0,wpAny_letOwnedTupleGo_enum ho λh2 he2 hs2=>?_];have elt:e<s.heap.objs.size:=zN0 he;have hT2:h2.get? s.heap.objs.size=some { cls:=.type "tuple",data:=.seq #[.int i s.toks,u] }:=(hs2.2 _ (Ne.symm (zV0 elt))).trans hT;have I2:Inv X pins σ (upd H s.heap.objs.size (.tup [.int i,x])) { s with heap:=h2,toks:=s.toks+1 }:=by
   refine I.turnedNew (ch:=[e,it]) (λb ob hb eb=>?_) hf (zG0 _) %[by show 2<=sizeLine;decide,[.int i s.toks,u],.cons %[|0] (.cons ru .nil),%[_,hT2,1|0],_,hT2|1];have b1:b≠e:=λz=>hb (by simp [z])
   have b2:b≠it:=λz=>hb (by simp [z])
   exact(hs2.2 b b1).trans (hk b ob b1 b2 eb)
  erw[.ref s.heap.objs.size,_,I2,1,%[0,I.hok.fresh (zG0 _)|λys y hy hyi=>?_],%[%[u|by simpa using he2]|hit1.at λo z=>(hs2.2 it (Ne.symm hei)).trans z],λb hb=>?_]
  . have e1:=I.list_inj hy hq;subst e1;rw[hx]at hyi;cases hyi;rfl
  . have z:=hf b hb;have hlt:b<s.heap.objs.size:=by
     rcases zW0 hb with y | y
     . rw[y];exact elt
     . rw[zS0 y];erw[o,e2,_]at hit;exact zN0 e2
    rw[aG (zV0 hlt)];exact z.1
 done:=by
  intro X hP hw hK hc i pins s σ H E I hf st hg;subst hP hw hK;erw[xs,hq,hx]at hg;let%[its,rv,p|hz]:=I.list hq;erw[%[old|he],hit]at st;have hl:=rv.length;exact wpAny_pyNext_enum_end (I.ok.hd hc) he hit p.isList (Array.getElem?_eq_none (by simp;omega)) λh' eb=>%[1|I.turnedL (t':=s.toks) (ch:=[e,it]) (λb o hb eo=>eb b o (λz=>hb (by simp [z])) eo) hf]
 self:=λ_ _ _ _ _ st h=>by
  erw[%[old|he],_]at st;exact wpAny_pyIter_enum he h
section
variable {X:Cx} {elts:List Expr} {k:Nat} {tpos:Pos}
inductive ZiEnum(K:W.Frag)(R:(It->Hp->Prop))(x:V)(H1:Hp):Prop
 |mk:∀a,x=.ref a->(∃xs,SqL K H1 a xs)->R (Ite K a) H1->ZiEnum K R x H1
def iEnum(K:W.Frag)(tl:TE):TI:=λσ H R=>tl σ H λx H1=>ZiEnum K R x H1
theorem Fm   {p pos:Pos} (hg:Gl X "enumerate") (hm:X.mg "enumerate"=none) (hl:PE X l tl) (hs:starEach [l] X.env=[(false,eval l X.env)]:=by rfl) :
 PI X (.Tuple elts k tpos) (.Call (.Name "enumerate" p) [l] [] pos) (iEnum X.K tl):=by
 intro pins s σ H R I h;refine Call_ (iq I hg hm boot_enumerate (PyProof.Rows.callWith_type1 ?_ hs rfl));rw[hs];show wpAny _ _ (spliced ((false,eval l X.env)::backTo pos (starEach [] X.env))) _ _ s;refine Calls.spliced_cons (thn (hl pins s σ H _ I h) λu s1 ⟨x,H1,I1,r1,a,ex,⟨xs,hq⟩,q⟩=>?_);subst ex;cases r1;let%[its,rv,p|hz]:=I1.list hq;refine Calls.spliced_nil ?_;refine call_enumerate_list p.isList λh' he hit hsz hk=>?_
 refine wpAny_pyIter_enum he ?_;have I2:Inv X pins σ H1 { s1 with heap:=h' }:=I1.kept (t':=s1.toks) hk;erw[s1.heap.objs.size+1,[s1.heap.objs.size+1,s1.heap.objs.size],_,_,H1,1,I2,zV a _ _ (Nat.ne_of_gt (Nat.lt_succ_self _)),%[%[_|he]|hit],λb hb=>?_,q];rcases zW0 hb with z | z
 . rw[z];exact I1.fpOk (qN0 _) (I1.hok.fresh (qN0 _))
 . rw[zS0 z];exact I1.fpOk (zG0 _) (I1.hok.fresh (zG0 _))
end
theorem Ee{K:W.Frag}{xs:List V}{g:TG}{tb:TS}{D:Ends}{σ:St}{H:Hp}(Pv:Nat->St->Hp->Prop)(h0:Pv 0 σ H)(hl:∀i σ H,i<=xs.length->Pv i σ H->SqL K H a xs)
 (hs:∀i x σ H t,xs[i]?=some x->Pv i σ H->H t=none->g (.ref t) σ (upd H t (.tup [.int i,x])) λσ2 H2=>tb { D with nx:=Pv (i+1),ct:=Pv (i+1),bk:=D.nx } σ2 H2) (hd:∀ σ H,Pv xs.length σ H->D.nx σ H) :
 ∃ W:Nat->Nat->St->Hp->Prop,(∃m,W 0 m σ H)/\∀i m σ H,W i m σ H ->
  ((Ite K a).stop i H/\D.nx σ H)∨((Ite K a).go i H/\∃N:St->Hp->Prop,(∀ σ' H',N σ' H'->∃m',m'<m/\W (i+1) m' σ' H')/\∀x H',(Ite K a).yld i H x H'->g x σ H' λσ2 H2=>tb { D with nx:=N,ct:=N,bk:=D.nx } σ2 H2):=by
 erw[λi m σ H=>m=xs.length-i/\i<=xs.length/\Pv i σ H,%[xs.length,by simp,zU0 _|h0],6];rintro i m σ H ⟨rfl,hi,p⟩;have q:=hl i σ H hi p
 by_cases hlt:i<xs.length
 . refine .inr %[%[xs,xs[i],q|by simp [hlt]],Pv (i+1),λσ' H' p'=>%[xs.length-(i+1),3,1,hlt|p']|λx H' y=>?_];erw[t,1,ht,e]at y;have e':=e xs xs[i] q (by simp [hlt]);subst e';exact hs i xs[i] σ H t (by simp [hlt]) p ht
 . have e:i=xs.length:=by omega
   subst e;exact .inl %[%[xs,q|zG0 _]|hd σ H p]
mutual
inductive Rep(K:W.Frag)(H:Hp):V->PyData->Prop
 | non:Rep K H .non .none
 | bl (b:Bool):Rep K H (.bl b) (.bool b)
 | int (i:Int):Rep K H (.int i) (.int i)
 | str (x:Str):Rep K H (.str x) (.str x)
 | tup {a:Addr} {xs:List V} {ds:List PyData}:SqT K H a xs->RepAll K H xs ds->Rep K H (.ref a) (.tuple ds)
 | lst {a:Addr} {xs:List V} {ds:List PyData}:SqL K H a xs->RepAll K H xs ds->Rep K H (.ref a) (.list ds)
inductive RepAll(K:W.Frag)(H:Hp):List V->List PyData->Prop
 | nil:RepAll K H [] []
 | cons {x:V} {d:PyData} {xs:List V} {ds:List PyData}:Rep K H x d->RepAll K H xs ds->RepAll K H (x::xs) (d::ds)
end
section
variable {X:Cx} {pins:List (Addr×Obj)} {σ:St} {H:Hp} {s:Shared}
mutual
theorem Rep.reads(I:Inv X pins σ H s):∀{x:V}{d:PyData}{v:Value},Rep X.K H x d->RelV x v->∃as,Reads s.heap v d as
 | _,_,v,.non,r=>by cases(show v=Value.none from r);erw[_,Reads.none]
 | _,_,v,.bl b,r=>by cases(show v=Value.bool b from r);erw[_,Reads.bool b]
 | _,_,v,.int i,r=>by let%[t|e]:=(show ∃t,v=Value.int i t from r);cases e;erw[_,Reads.int i t]
 | _,_,v,.str x,r=>by let%[t|e]:=(show ∃t,v=Value.str x t from r);cases e;erw[_,Reads.str x t]
 | _,_,v,.tup (a:=a) h q,r=>by
   cases(show v=Value.ref a from r);let%[its,rv,%[o,ho,hc,n|hd]|_]:=I.tuple h;let%[as|z]:=RepAll.reads I q rv;erw[_,reads_tuple_at ho hc hd (by simpa using z)]
 | _,_,v,.lst (a:=a) h q,r=>by
   cases(show v=Value.ref a from r);let%[its,rv,%[o,n,ho,hc,_|hd]|_]:=I.list h;let%[as|z]:=RepAll.reads I q rv;erw[_,reads_list_at ho hc hd (by simpa using z)]
theorem RepAll.reads(I:Inv X pins σ H s):∀{xs:List V}{ds:List PyData}{vs:List Value},RepAll X.K H xs ds->Vals xs vs->∃as,ReadsAll s.heap vs ds as
 | _,_,_,.nil,.nil=>%[_|ReadsAll.nil]
 | _,_,_,.cons h q,.cons r rs=>by
   let%[as|z]:=Rep.reads I h r;let%[bs|y]:=RepAll.reads I q rs;erw[_,ReadsAll.cons z y]
end
end
theorem ie{K:W.Frag}:∀ns:List Int,RepAll K H (ns.map V.int) (ns.map PyData.int)
 | []=>.nil
 | n::r=>.cons (.int n) (ie r)
section
variable {X:Cx}
inductive rEqD(K:W.Frag)(x:V)(y:V)(H:Hp)(Q:VK):Prop
 |mk:∀d e,Rep K H x d->Rep K H y e->SeqAt.shaped d=true->SeqAt.shaped e=true->Q (.bl (PyData.eqv d e)) H->rEqD K x y H Q
inductive rNeD(K:W.Frag)(x:V)(y:V)(H:Hp)(Q:VK):Prop
 |mk:∀d e,Rep K H x d->Rep K H y e->SeqAt.shaped d=true->SeqAt.shaped e=true->Q (.bl (!PyData.eqv d e)) H->rNeD K x y H Q
theorem Da(hu:X.A.units+64<cLine):OpR X (compareOp .Eq) (rEqD X.K):=by
 intro pins s σ H x y v u Q I rx ry h;erw[d,e,hd,he,sd,se,q]at h;let%[as|r1]:=Rep.reads I hd rx;let%[bs|r2]:=Rep.reads I he ry;exact eq_dataH r1 r2 sd se hu %[.bl _,H,I,1|q]
theorem rb(hu:X.A.units+64<cLine):OpR X (compareOp .NotEq) (rNeD X.K):=by
 intro pins s σ H x y v u Q I rx ry h;erw[d,e,hd,he,sd,se,q]at h;let%[as|r1]:=Rep.reads I hd rx;let%[bs|r2]:=Rep.reads I he ry;exact ne_dataH r1 r2 sd se hu %[.bl _,H,I,1|q]
inductive rCatT0(K:W.Frag)(x:V)(y:V)(H:Hp)(Q:VK):Prop
 |mk:∀a b ys,x=.ref a->y=.ref b->SqT K H a []->SqT K H b ys->Q (.ref b) H->rCatT0 K x y H Q
theorem mr:OpR X (binaryOp .Add) (rCatT0 X.K):=by
 intro pins s σ H x y v u Q I rx ry h;erw[a,b,ys,1,1,ha,hb,q]at h;cases rx;cases ry;let%[its,r1,p1|_]:=I.tuple ha;let%[its2,r2,p2|_]:=I.tuple hb;let%[%[cls,dd,data|sl],ho,hc,n|hd]:=id p1;let%[%[cls2,dd2,data2|sl2],ho2,hc2,n2|hd2]:=id p2;simp only at hc hd hc2 hd2;subst hc hd hc2 hd2;have e:its=[]:=r1.nil_iff.mpr rfl;exact concat_meets %[_,ho|1] ⟨_,ho2,rfl⟩ noFill_tuple_add seq_tuple_add PySem.F.slot_tuple_add PySem.F.entry_tuple_add (PySem.F.args_tuple_add_2 _ _)
  (tuple_addW0 a b its.toArray its2.toArray n n2 dd dd2 sl sl2 (by simp [e])) %[ho,ho2|%[.ref b,H,I,1|q]]
end
def Nx(n i:Nat)(Pv:Nat->Hp->Prop)(H:Hp):Prop:=∃m',m'<n-i/\(m'=n-(i+1)/\i+1<=n/\Pv (i+1) H)
theorem Nx.of{n i:Nat}{Pv:Nat->Hp->Prop}{H:Hp}(h:i<n)(p:Pv (i+1) H):Nx n i Pv H:=%[n-(i+1),3,1,h|p]
theorem fY{K:W.Frag}{xs:List V}{tb:TBl}{Q:VK}(Pv:Nat->Hp->Prop)(h0:Pv 0 (upd H D (.lst [])))(hl:∀i H,i<=xs.length->Pv i H->SqT K H a xs)
 (hs:∀i x H,xs[i]?=some x->Pv i H->tb (some x::outs ix σ) H (Nx xs.length i Pv) λz H'=>∃ys,H' D=some (.lst ys)/\ys.length<sizeLine/\Nx xs.length i Pv (upd H' D (.lst (ys++[z])))) (hd:∀H,Pv xs.length H->Q (.ref D) H) :
 sj (Itt K a) D ix tb σ H Q:=by
 erw[λi m H=>m=xs.length-i/\i<=xs.length/\Pv i H,%[xs.length,by simp,zU0 _|h0],6];rintro i m H ⟨rfl,hi,p⟩;have q:=hl i H hi p
 by_cases hlt:i<xs.length
 . refine .inr %[%[xs,xs[i],q|by simp [hlt]]|λx H' y=>?_];erw[e,y]at y;subst e;exact hs i x _ (y xs q) p
 . have e:i=xs.length:=by omega
   subst e;exact .inl %[%[xs,q|zG0 _]|hd H p]
theorem kW{K:W.Frag}{xs:List V}{tb:TBl}{Q:VK}(Pv:Nat->Hp->Prop)(h0:Pv 0 (upd H D (.lst [])))(hl:∀i H,i<=xs.length->Pv i H->SqL K H a xs)
 (hs:∀i x H,xs[i]?=some x->Pv i H->tb (some x::outs ix σ) H (Nx xs.length i Pv) λz H'=>∃ys,H' D=some (.lst ys)/\ys.length<sizeLine/\Nx xs.length i Pv (upd H' D (.lst (ys++[z])))) (hd:∀H,Pv xs.length H->Q (.ref D) H) :
 sj (Itl K a) D ix tb σ H Q:=by
 erw[λi m H=>m=xs.length-i/\i<=xs.length/\Pv i H,%[xs.length,by simp,zU0 _|h0],6];rintro i m H ⟨rfl,hi,p⟩;have q:=hl i H hi p
 by_cases hlt:i<xs.length
 . refine .inr %[%[xs,xs[i],q|by simp [hlt]]|λx H' y=>?_];erw[e,y]at y;subst e;exact hs i x _ (y xs q) p
 . have e:i=xs.length:=by omega
   subst e;exact .inl %[%[xs,q|zG0 _]|hd H p]
theorem eC{lo:Int}{n:Nat}{tb:TBl}{Q:VK}(Pv:Nat->Hp->Prop)(h0:Pv 0 (upd H D (.lst [])))
 (hs:∀i H,i<n->Pv i H->tb (some (.int (lo+i))::outs ix σ) H (Nx n i Pv) λz H'=>∃ys,H' D=some (.lst ys)/\ys.length<sizeLine/\Nx n i Pv (upd H' D (.lst (ys++[z])))) (hd:∀H,Pv n H->Q (.ref D) H) :
 sj (Itr lo n) D ix tb σ H Q:=by
 erw[λi m H=>m=n-i/\i<=n/\Pv i H,%[n,by simp,zU0 _|h0],6];rintro i m H ⟨rfl,hi,p⟩
 by_cases hlt:i<n
 . refine .inr %[hlt|λx H' y=>?_];erw[e,y]at y;subst e y;exact hs i _ hlt p
 . have e:i=n:=by omega
   subst e;exact .inl %[zG0 _|hd H p]
theorem CompScope.closed{X:Cx}{x:Str}{scope:Scope}(c1:closureFor scope X.env=pure [])(c2:∀y∈scope.names,y.2≠.cell)(c3:scope.kind=.function)(c4:∀y∈scope.names,y.2=.local->scope.names.lookup y.1=some .local)
 (c5:scope.names.lookup x=some .local) (c6:((relabel scope X.env).names.all λp=>!(p.2==.cell||p.2==.free)||((([]:List (Str×Addr))).lookup p.1).isSome)=true):CompScope X x [] [] scope [] where
 clos:=c1
 nocell:=c2
 kind:=c3
 names:=c4
 own:=c5
 nd:=by simp
 sub:=λp hp=>absurd hp (by simp)
 has:=c6
 outs:=λj y h=>by simp at h
section
variable {X:Cx}
theorem wo(K:W.Frag)(hK:X.K=K:=by rfl):IxR X (rIxL K):=by subst hK;exact ix_list
theorem zx(K:W.Frag)(hK:X.K=K:=by rfl):IxR X (rIxT K):=by subst hK;exact ix_tup
end
def Its(z:Str):It:=⟨λi _=>i<z.cps.size,λi H x H'=>H'=H/\∃c,z.cps[i]?=some c/\x=.str %[|#[c]],λi _=>z.cps.size<=i⟩
theorem qf{prog:Program}{w:World}{A:Around}(hh:A.handled=none)(I:Addr)(x:Str)(t:Tok):Walks prog w A I [I] [I] x.cps.size (SignAt x) (λi h=>h.IsStrIter I (strIterType x) x t i):=by
 unfold strIterType
 split
 . exact Walks.strAscii hh I x t
 . exact Walks.strWide hh I x t
theorem BO{K:W.Frag}{y:Str}{py:Pos}(z:Str)(t:Tok)(it:Addr):Turn P w K (.Name y py) (Its z) [it] it (λi h=>i<=z.cps.size/\h.IsStrIter it (strIterType z) z t i) where
 mem:=by simp
 obj:=λi h st b hb=>by
  have e:b=it:=by simpa using hb
  subst e;erw[_,o,e,c,d]at st;erw[o,e,λv z=>by rw[d]at z;cases z]
 keep:=λi h h' st k=>by
  erw[hi,o,e,r]at st;erw[hi,o,k it (by simp) o e,r]
 item:=by
  intro X hP hw hK hc i pins s σ H E I hf st hg;subst hP hw hK;let%[f0,f1,f2,f3,f4|f5]:=hf it (by simp);refine(qf (I.ok.hd hc) it z t).item i s _ E hg st.2 λv h' tk hP hst hk=>?_
  erw[c,u,hcx,1]at hP;have I1:Inv X pins σ H { s with heap:=h',toks:=tk }:=I.turned (λb o hb e=>hk b o (by simpa using hb) e) f0 f1 f3 f4 f5;erw[0,wpAny_of_eq (a:=()) rfl %[.str %[|#[c]],H,I1,%[|0],%[1,c,hcx|1],%[hg|hst]|λb hb=>(hf b hb).1]]
 done:=by
  intro X hP hw hK hc i pins s σ H E I hf st hg;subst hP hw hK;let%[f0,f1,f2,f3,f4|f5]:=hf it (by simp);have e:i=z.cps.size:=Nat.le_antisymm st.1 hg;subst e;refine(qf (I.ok.hd hc) it z t).done s _ E st.2 λh' tk hk=>?_
  erw[1,I.turned (λb o hb e=>hk b o (by simpa using hb) e) f0 f1 f3 f4 f5]
 self:=λA i s Q E st h=>by
  erw[_,st]at st;unfold strIterType at st
  split at st
  . exact wpAny_pyIter_striter_ascii st h
  . exact wpAny_pyIter_striter_wide st h
section
variable {X:Cx} {y:Str} {py:Pos}
inductive ZiStr(R:(It->Hp->Prop))(x:V)(H1:Hp):Prop
 |mk:∀z,x=.str z->R (Its z) H1->ZiStr R x H1
def iStr(tl:TE):TI:=λσ H R=>tl σ H λx H1=>ZiStr R x H1
theorem CO(hl:PE X l tl):PI X (.Name y py) l (iStr tl):=by
 intro pins s σ H R I h;refine thn (hl pins s σ H _ I h) λv s1 ⟨x,H1,I1,r1,q1⟩=>?_
 erw[z,e,q]at q1;subst e;erw[t,1]at r1;refine wpAny_pyIter_strU ?_;erw[s1.heap.objs.size,[s1.heap.objs.size],_,_,H1,1,I1.kept (t':=s1.toks) λb o e=>zR0 _ e,BO z t _,%[zU0 _,_,qA0 _ rfl,1|1],λb hb=>?_,q];have e:b=s1.heap.objs.size:=by simpa using hb
 subst e;exact I1.fpOk (zG0 _) (I1.hok.fresh (zG0 _))
end
theorem rT{z:Str}{tb:TBl}{Q:VK}(Pv:Nat->Hp->Prop)(h0:Pv 0 (upd H D (.lst [])))
 (hs:∀i c H,z.cps[i]?=some c->Pv i H->tb (some (.str %[|#[c]])::outs ix σ) H (Nx z.cps.size i Pv) λu H'=>∃ys,H' D=some (.lst ys)/\ys.length<sizeLine/\Nx z.cps.size i Pv (upd H' D (.lst (ys++[u])))) (hd:∀H,Pv z.cps.size H->Q (.ref D) H) :
 sj (Its z) D ix tb σ H Q:=by
 erw[λi m H=>m=z.cps.size-i/\i<=z.cps.size/\Pv i H,%[z.cps.size,by simp,zU0 _|h0],6];rintro i m H ⟨rfl,hi,p⟩
 by_cases hlt:i<z.cps.size
 . refine .inr %[hlt|λx H' y=>?_];erw[e,c,hc,1]at y;subst e;exact hs i c _ hc p
 . have e:i=z.cps.size:=by omega
   subst e;exact .inl %[zG0 _|hd H p]
section
variable {X:Cx}
inductive rSlS(x:V)(lo:Option Int)(hi:Option Int)(H:Hp)(Q:VK):Prop
 |mk:∀z,x=.str z->z.length<=sizeLine->Q (.str (Txt.slice z lo hi)) H->rSlS x lo hi H Q
theorem xt:SlR X rSlS:=by
 intro pins s σ H x v vl vu lo hi sl Q I rx hs pl pu h;erw[z,1,hz,q]at h;erw[t,1]at rx;erw["str",_,F.slot_str_getitem.lookup,typeIs_str _ _ _,6];have fin:∀t' k,EP X pins σ Q (.str (Txt.slice z lo hi) t') { s with toks:=k }:=λt' k=>%[.str _,H,I.tok k,%[|0]|q]
 erw[o,ho,hc,hd]at hs;cases pl with
 | none=>
   cases pu with
   | none=>exact wpAny_getItem_str_slice (l:=none) (u:=none) (st:=none) %[o,ho,hc|hd] rfl (post_val_or_str ⟨zP0 (Txt.slice_le z _ _) hz,fin⟩)
   | int j u=>exact wpAny_getItem_str_slice (l:=none) (u:=some (j,u)) (st:=none) %[o,ho,hc|hd] rfl (post_val_or_str ⟨zP0 (Txt.slice_le z _ _) hz,fin⟩)
 | int i u'=>
   cases pu with
   | none=>exact wpAny_getItem_str_slice (l:=some (i,u')) (u:=none) (st:=none) %[o,ho,hc|hd] rfl (post_val_or_str ⟨zP0 (Txt.slice_le z _ _) hz,fin⟩)
   | int j u=>exact wpAny_getItem_str_slice (l:=some (i,u')) (u:=some (j,u)) (st:=none) %[o,ho,hc|hd] rfl (post_val_or_str ⟨zP0 (Txt.slice_le z _ _) hz,fin⟩)
inductive rStarts(x:V)(vs:List V)(H:Hp)(Q:VK):Prop
 |mk:∀z u,x=.str z->vs=[.str u]->Q (.bl (Txt.startswith z u)) H->rStarts x vs H Q
theorem sH:MtR X "str.startswith" rStarts:=by
 intro pins s σ H x vs v us Q I rx rv h;erw[z,u,1,1,q]at h;erw[t,1]at rx;erw[w',1,t',1]at rv.one;exact SC.startswith %[.bl _,H,I,1|q]
theorem qm:∀{zs:List Str}{us:List Value},Vals (zs.map V.str) us->StrsAre us zs
 | [],_,.nil=>.nil
 | _::_,_,.cons ⟨t,e⟩ r=>by subst e;exact .cons _ t (qm r)
inductive rJoin(K:W.Frag)(x:V)(vs:List V)(H:Hp)(Q:VK):Prop
 |mk:∀z a ys,x=.str z->vs=[.ref a]->SqL K H a (ys.map V.str)->z.length<=16->(ys.map (·.length)).sum+ys.length<=1048576->Q (.str (Txt.join z ys)) H->rJoin K x vs H Q
theorem jB:MtR X "str.join" (rJoin X.K):=by
 intro pins s σ H x vs v us Q I rx rv h;erw[z,a,ys,1,1,hq,hz,hw,q]at h;erw[t,1]at rx;erw[w',1,ra]at rv.one;cases ra;let%[its,r',p|_]:=I.list hq;exact join_listW p.isList (by simpa using qm r') hz hw λt' k=>%[.str _,H,I.tok k,%[|0]|q]
inductive rAll(K:W.Frag)(xs:List V)(H:Hp)(Q:VK):Prop
 |mk:∀(a:Addr)(bs:List Bool),xs=[.ref a]->SqL K H a (bs.map V.bl)->Q (.bl (bs.all id)) H->rAll K xs H Q
theorem tG:∀{bs:List Bool}{us:List Value}{i:Nat}{v:Value},Vals (bs.map V.bl) us->us[i]?=some v->∃b,bs[i]?=some b/\v=.bool b
 | [],_,_,_,.nil,h=>by simp at h
 | b::_,_,0,_,.cons r _,h=>by
   simp at h
   subst h;erw[b,1,r]
 | _::_,_,i+1,_,.cons _ t,h=>by
   let%[b,h1|h2]:=tG (i:=i) t (by simpa using h);erw[b,by simpa using h1,h2]
theorem nq (hc:X.calm=true):gC X (.builtin "all") (rAll X.K):=by
 intro pins s σ H xs us Q I r h;erw[a,bs,1,hq,q]at h;let%[u,1|ru]:=jP r;cases ru;let%[its,r',p|hz]:=I.list hq;have hl:=r'.length;rw[zF0]at hl;have hlt:a<s.heap.objs.size:=by erw[o,n,e,_]at p;exact zN0 e
 refine call_all_walk (wpAny_pyIter_list p.isList ?_);erw[s.heap.objs.size,_,_,_,_,_,λi=>bs[i]?.getD true,1,Walks.list (A:=X.A.in1) (I.ok.hd hc) s.heap.objs.size a (zV0 hlt) its.toArray,%[%[_,qA0 _ rfl,1|1]|p.isList.push _],6,6]
 . intro i v s' Q' E' hP hQ;let%[b,hb|1]:=tG r' (i:=i) (v:=v) (by simpa using hP);have hQ':Q' b s':=by simpa [hb]using hQ
   exact wpAny_truthy_bool hQ'
 . intro h' tk hk;have e:(List.range its.toArray.size).all (λi=>bs[i]?.getD true)=bs.all id:=by
    rw[zQ0,←hl];rw[Bool.eq_iff_iff,List.all_eq_true,List.all_eq_true]
    constructor
    . intro h b hb;let%[i,hi|e]:=List.getElem_of_mem hb
      have:=h i (List.mem_range.mpr hi)
      rw[zM0 hi]at this
      simpa [e]using this
    . intro h i hi;have hi':=List.mem_range.mp hi;rw[zM0 hi'];exact h _ (qP0 hi')
   rw[e];erw[.bl _,H,6,1,q];have I1:Inv X pins σ H { s with heap:=s.heap.push { cls:=.type "list_iterator",data:=.fields #[.ref a,.int 0 0] } }:=I.kept (t':=s.toks) λb o e=>zR0 _ e
   refine I1.turnedL (t':=tk) (ch:=[s.heap.objs.size]) (λb o hb e=>hk b o (by simpa using hb) e) λb hb=>?_
   rw[zS0 hb];exact I.fpOk (zG0 _) (I.hok.fresh (zG0 _))
end
theorem pU {X:Cx}    {p pos:Pos} (C:Cal X.prog X.w X.K X.mg X.base n x [] sp) (hr:Room k X.A) (hk:n<=k) (hg:Gl X x) (hdb:(x==("__debug__":Str))=false:=by decide) :
 PE X (.Call (.Name x p) [] [] pos) (vp sp [] E0 BV):=by
 erw[f,fd,F,b,kp,m]at C.ex;exact CV F (hr.mono hk) hg m kp b .nil bc hdb
inductive Consts:List Expr->List Str->Prop
 | nil:Consts [] []
 | cons {x:Str} {j:Nat} {pos:Pos} {es:List Expr} {zs:List Str}:Consts es zs->Consts (.Constant (.str x) j pos::es) (x::zs)
theorem kM:∀{es:List Expr}{zs:List Str},Consts es zs->PA X es (λ_ H Q=>Q (zs.map V.str) H)
 | _,_,.nil=>ag
 | _,_,.cons h=>λpos pins s σ H Q I q=>aa aJ (kM h) (by rfl) pos pins s σ H Q I q
theorem CompScope.one{X:Cx}{x y:Str}{scope:Scope}{k:Nat}{c:Addr}(c1:closureFor scope X.env=pure [(y,c)])(c2:∀y∈scope.names,y.2≠.cell)(c3:scope.kind=.function)(c4:∀y∈scope.names,y.2=.local->scope.names.lookup y.1=some .local)
 (c5:scope.names.lookup x=some .local) (nd:[x,y].Nodup) (hc:X.env.cells.lookup y=some c) (c6:((relabel scope X.env).names.all λp=>!(p.2==.cell||p.2==.free)||(([(y,c)]:List (Str×Addr)).lookup p.1).isSome)=true)
 (hr:(relabel scope X.env).names.lookup y=some .cell) (hk:X.N[k]?=some y) (hs:X.env.scope.names.lookup y=some .cell):CompScope X x [y] [k] scope [(y,c)] where
 clos:=c1
 nocell:=c2
 kind:=c3
 names:=c4
 own:=c5
 nd:=nd
 sub:=λp hp=>by
  rw[zS0 hp];exact hc
 has:=c6
 outs:=λj z h=>by
  cases j with
  | zero=>
    have e:y=z:=zT0 h;subst e;erw[hr,k,c,1,hk,by simp [List.lookup],hs]
  | succ j=>simp at h
theorem CompScope.two{X:Cx}{x y z:Str}{scope:Scope}{k l:Nat}{c d:Addr}{cl:List (Str×Addr)}(c1:closureFor scope X.env=pure cl)(c2:∀y∈scope.names,y.2≠.cell)(c3:scope.kind=.function)(c4:∀y∈scope.names,y.2=.local->scope.names.lookup y.1=some .local)
 (c5:scope.names.lookup x=some .local) (nd:[x,y,z].Nodup) (hcl:cl=[(z,d),(y,c)]∨cl=[(y,c),(z,d)]) (hc:X.env.cells.lookup y=some c) (hd:X.env.cells.lookup z=some d) (c6:((relabel scope X.env).names.all λp=>!(p.2==.cell||p.2==.free)||(cl.lookup p.1).isSome)=true)
 (hr:(relabel scope X.env).names.lookup y=some .cell) (hk:X.N[k]?=some y) (hs:X.env.scope.names.lookup y=some .cell)
 (hr2:(relabel scope X.env).names.lookup z=some .cell) (hk2:X.N[l]?=some z) (hs2:X.env.scope.names.lookup z=some .cell):CompScope X x [y,z] [k,l] scope cl where
 clos:=c1
 nocell:=c2
 kind:=c3
 names:=c4
 own:=c5
 nd:=nd
 sub:=λp hp=>by
  rcases hcl with rfl | rfl
  all_goals
   rcases zW0 hp with e | e
   . rw[e];assumption
   . rw[zS0 e];assumption
 has:=c6
 outs:=λj w h=>by
  have nyz:y≠z:=λe=>by simp [e]at nd
  match j,h with
  | 0,h=>
    have e:y=w:=zT0 h;subst e;erw[hr,k,c,1,hk,6,hs];rcases hcl with rfl | rfl
    . have:(y==z)=false:=by simpa using nyz
      simp [List.lookup,this]
    . simp [List.lookup]
  | 1,h=>
    have e:z=w:=zT0 h;subst e;erw[hr2,l,d,1,hk2,6,hs2];rcases hcl with rfl | rfl
    . simp [List.lookup]
    . have:(z==y)=false:=by simpa using Ne.symm nyz
      simp [List.lookup,this]
  | j+2,h=>simp at h
end L2
namespace Mine
open PySem L2
def yQ (x:Str):Prop:=x.length<=20/\(∀c∈x.cps.toList,97<=c/\c<=122)/\x≠"aa"
theorem kP{x:Str}{l u:Option Int}{c:Nat}(h:c∈(Txt.slice x l u).cps.toList):c∈x.cps.toList:=by
 have e:Txt.slice x l u=StrLaws.sliceText x l u:=rfl;rw[e]at h;unfold StrLaws.sliceText at h
 split at h
 . exact h
 . let%[i,_|hi]:=List.mem_filterMap.mp (show c∈(List.filterMap _ _) by simpa using h)
   have:=Array.mem_of_getElem? hi
   simpa using this
theorem mem_append{x y:Str}{c:Nat}(h:c∈(x++y).cps.toList):c∈x.cps.toList∨c∈y.cps.toList:=by
 have e:(x++y).cps.toList=x.cps.toList++y.cps.toList:=by simp [Str.cps_append]
 rw[e]at h;exact qM0 h
theorem AX {zs:List Str} {c:Nat} (h:c∈(Txt.join "" zs).cps.toList):∃z∈zs,c∈z.cps.toList:=by
 have e:Txt.join "" zs=Str.join "" zs:=by
  cases zs with
  | nil=>rfl
  | cons a r=>exact StrLaws.glued_cons "" r a
 rw[e]at h;rcases(PyProof.Rows.mem_join "" c zs).mp h with h | ⟨_,h⟩
 . exact h
 . have e0:(("":Str)).cps.toList=[]:=by decide
   rw[e0]at h;cases h
inductive Tr where
 | is (x:Str) | yes | no | not (a:Tr) | bin (w:Str) (a b:Tr)
def Tr.size:Tr->Nat
 | .is _=>1 | .yes=>1 | .no=>1 | .not a=>a.size+1 | .bin _ a b=>a.size+b.size+1
def Tr.depth:Tr->Nat
 | .is _=>1 | .yes=>1 | .no=>1 | .not a=>a.depth+1 | .bin _ a b=>max a.depth b.depth+1
def Tr.names:Tr->List Str
 | .is x=>[x] | .yes=>[] | .no=>[] | .not a=>a.names | .bin _ a b=>a.names++b.names
def joinW:List Str:=["and","or","odd","same"]
def Tr.ok(ns:List Str):Tr->Prop
 | .is x=>x∈ns | .yes=>True | .no=>True | .not a=>a.ok ns | .bin w a b=>w∈joinW/\a.ok ns/\b.ok ns
inductive TreeAt(H:Hp):V->Tr->Prop
 | is {a:Addr} {x:Str}:H a=some (.tup [.str "is",.str x])->TreeAt H (.ref a) (.is x)
 | yes {a:Addr}:H a=some (.tup [.str "yes"])->TreeAt H (.ref a) .yes
 | no {a:Addr}:H a=some (.tup [.str "no"])->TreeAt H (.ref a) .no
 | not {a:Addr} {v:V} {t:Tr}:H a=some (.tup [.str "not",v])->TreeAt H v t->TreeAt H (.ref a) (.not t)
 | bin {a:Addr} {w:Str} {v u:V} {t r:Tr}:H a=some (.tup [.str w,v,u])->TreeAt H v t->TreeAt H u r->TreeAt H (.ref a) (.bin w t r)
abbrev cg(H H':Hp):Prop:=∀a xs,H a=some (.tup xs)->H' a=some (.tup xs)
theorem TreeAt.mono(k:cg H H')(h:TreeAt H v t):TreeAt H' v t:=by
 induction h with
 | is e=>exact .is (k _ _ e)
 | yes e=>exact .yes (k _ _ e)
 | no e=>exact .no (k _ _ e)
 | not e _ ih=>exact .not (k _ _ e) ih
 | bin e _ _ i1 i2=>exact .bin (k _ _ e) i1 i2
theorem aZ(s:Same H H'):cg H H':=λa _ h=>s a _ h
theorem ir(F:FeedAt H f)(s:SameBut f H H'):cg H H':=λa xs h=>s a _ (λz=>by
 erw[o,t,e,_]at F;rw[z,e]at h;cases h) h
def NamesAt(H:Hp)(a:Addr)(ns:List Str):Prop:=H a=some (.lst (ns.map V.str))∨H a=some (.tup (ns.map V.str))
theorem NamesAt.ne(F:FeedAt H f)(h:NamesAt H a ns):a≠f:=λz=>by
 erw[o,t,e,_]at F;subst z;rcases h with h | h
 . rw [e]at h;have h':=HO.lst.inj (zT0 h);cases ns with
   | nil=>cases h'
   | cons x r=>simp at h'
 . rw[e]at h;cases h
theorem NamesAt.feed(F:FeedAt H f)(s:SameBut f H H')(h:NamesAt H a ns):NamesAt H' a ns:=by
 have ne:=h.ne F;rcases h with h | h
 . exact .inl (s _ _ ne h)
 . exact .inr (s _ _ ne h)
theorem NamesAt.same(s:Same H H')(h:NamesAt H a ns):NamesAt H' a ns:=by
 rcases h with h | h
 . exact .inl (s _ _ h)
 . exact .inr (s _ _ h)
theorem NamesAt.seq{K:W.Frag}(h:NamesAt H a ns):SqL K H a (ns.map V.str)∨SqT K H a (ns.map V.str):=by
 rcases h with h | h
 . exact .inl (zH0 h)
 . exact .inr (zB0 h)
theorem NamesAt.ix{K:W.Frag}{x:V}{Q:VK}(h:NamesAt H a ns)(hx:atI (ns.map V.str) i=some x)(q:Q x H):rIxL K (.ref a) (.int i) H Q∨rIxT K (.ref a) (.int i) H Q:=by
 rcases h with h | h
 . exact .inl %[a,_,i,x,1,1,zH0 h,hx|q]
 . exact .inr %[a,_,i,x,1,1,zB0 h,hx|q]
inductive spTree(n:Nat)(vs:List V)(H:Hp)(Q:VK)(u_3:XK):Prop
 |mk:∀(f a:Addr)(room deep:Int)(ns:List Str),vs=[.ref f,.ref a,.int room,.int deep]->FeedAt H f->NamesAt H a ns->ns.length<=6->1<=room->room<=100->1<=deep->deep+1<=(n:Int)+1->(∀(v:V)(t:Tr)(H':Hp),FeedAt H' f->SameBut f H H'->TreeAt H' v t->t.ok ns->(t.size:Int)<=room->(t.depth:Int)<=deep->Q v H')->spTree n vs H Q u_3
theorem tL{α:Type}{l:List α}{i:Int}(h0:0<=i)(h:i<(l.length:Int)):∃v,atI l i=some v/\v∈l:=by
 have hk:i.toNat<l.length:=by omega
 have q:atI l ((i.toNat:Nat):Int)=some l[i.toNat]:=cE (zM0 hk);have ek:((i.toNat:Nat):Int)=i:=by omega
 rw[ek]at q;erw[_,q,qP0 hk]
end Mine
namespace L2
open PySem PySem.Spec PyProof.Rows
section
variable {X:Cx}
def uB(lo:Int)(n:Nat):List Int:=(List.range n).map λi:Nat=>lo+(i:Int)
theorem CC(lo:Int)(n:Nat):(uB lo n).length=n:=by unfold uB;rw[zF0,qR0]
theorem Au{lo:Int}{n:Nat}{acc:List Value}(h:ItemsOf (λi v=>∃t,v=Value.int (lo+(i:Int)*1) t) acc.toArray n):Vals ((uB lo n).map V.int) acc:=by
 erw[h1,h2]at h;have l1:acc.length=n:=by simpa using h1
 have key:∀(k:Nat)(l:List Value),(∀i v,l[i]?=some v->∃t,v=Value.int (lo+((k+i:Nat):Int)) t)->Vals (((List.range' k l.length).map λi:Nat=>lo+(i:Int)).map V.int) l:=by
  intro k l
  induction l generalizing k with
  | nil=>intro _;exact .nil
  | cons a r ih=>
    intro h;let%[t|e]:=h 0 a rfl;rw[zO0,List.range'_succ,zY0,zY0];refine .cons %[t|by simpa using e] (ih (k+1) λi v hv=>?_);let%[t|e]:=h (i+1) v (by simpa using hv);erw[t,by rw[e];congr 2;omega]
 have:=key 0 acc λi v hv=>by
  let%[t|e]:=h2 i v (by simpa using hv);erw[t,by simpa using e]
 unfold uB;rw[←l1,List.range_eq_range'];exact this
inductive ZtListRng(Q:VK)(vs:(List V))(H1:Hp):Prop
 |mk:∀i j:Int,vs=[.int i,.int j]->-(2 ^ 62)<=i/\i<2 ^ 62/\-(2 ^ 62)<=j/\j<2 ^ 62->j-i<=1000->(∀p,H1 p=none->Q (.ref p) (upd H1 p (.lst ((uB i (j-i).toNat).map V.int))))->ZtListRng Q vs H1
def BW(ta:TA):TE:=λσ H Q=>ta σ H λvs H1=>ZtListRng Q vs H1
theorem xV {a b:Expr}  {p1 p2 pos1 pos2:Pos} (hc:X.calm=true) (hg1:Gl X "list") (hm1:X.mg "list"=none) (hg2:Gl X "range") (hm2:X.mg "range"=none) (ha:PA X [a,b] ta)
 (hs1:starEach [(.Call (.Name "range" p2) [a,b] [] pos2:Expr)] X.env=[(false,eval (.Call (.Name "range" p2) [a,b] [] pos2) X.env)]:=by rfl) (hs:starEach [a,b] X.env=[(false,eval a X.env),(false,eval b X.env)]:=by rfl) (hs2:starEach [b] X.env=[(false,eval b X.env)]:=by rfl) :
 PE X (.Call (.Name "list" p1) [.Call (.Name "range" p2) [a,b] [] pos2] [] pos1) (BW ta):=by
 intro pins s σ H Q I h;refine wpAny_Call_Name_kw (iq I hg1 hm1 lK ?_);refine PyProof.Rows.callWith_type1 ?_ hs1 rfl;rw[hs1];show wpAny _ _ (spliced ((false,eval (.Call (.Name "range" p2) [a,b] [] pos2) X.env)::backTo pos1 (starEach [] X.env))) _ _ s;have step:wpAny (model X.prog X.w) X.A (eval (.Call (.Name "range" p2) [a,b] [] pos2) X.env) (λv s1=>∃(r:Addr) (i j:Int) (t u k:Tok) (H1:Hp),v=.ref r/\Inv X pins σ H1 s1/\IsRange s1.heap r i j 1 t u k/\(-(2 ^ 62)<=i/\i<2 ^ 62/\-(2 ^ 62)<=j/\j<2 ^ 62)/\j-i<=1000/\
  ∀p,H1 p=none->Q (.ref p) (upd H1 p (.lst ((uB i (j-i).toNat).map V.int)))) X.xe s:=by
  refine Call_ (iq I hg2 hm2 boot_range (PyProof.Rows.callWith_type1 (thn (ha pos2 pins s σ H _ I h) λus s1 ⟨vs,H1,I1,r1,q1⟩=>?_) (by rw[hs,hs2]) (by rw[hs2];rfl)));erw[i,j,e,q1,q2,q]at q1;subst e;cases r1 with
  | cons r rr=>
    cases rr with
    | cons r' rr=>
      cases rr;erw[t,1]at r;erw[t',1]at r';refine call_range_2 %[_,i,j,_,_,_,H1,1,I1.kept λb o e=>zR0 _ e,IsRange.new ..,q1,q2|q]
 refine Calls.spliced_cons (thn step λv s1 hv=>?_);erw[r,i,j,t,u,k,H1,1,I1,hr,%[a1,a2,a3|a4],hle,q]at hv;refine Calls.spliced_nil ?_;have e2:Builtin.Range.rangeSize i j 1=(((j-i).toNat:Nat):Int):=by rw[rangeSize_one];split <;> omega
 refine call_list_range (I1.ok.hd hc) hr (small_one a1 a2 a3 a4) e2 #[0] λh' tk acc' c' hk hS hacc=>?_
 obtain⟨acc,rfl⟩:∃acc:List Value,acc'=acc.toArray:=%[acc'.toList|by simp]
 have rr:=Au hacc;have I2:Inv X pins σ (upd H1 s1.heap.objs.size (.lst ((uB i (j-i).toNat).map V.int))) { s1 with heap:=h',toks:=tk }:=by
  refine I1.turnedNew (ch:=[]) (λb ob _ eb=>hk b ob eb) (λb hb=>absurd hb (by simp)) (zG0 _) %[6,acc,c',rr|hS];rw[zF0,CC];exact cv #[0]
 erw[.ref s1.heap.objs.size,_,I2,1,q _ (I1.hok.fresh (zG0 _))]
inductive rSum(K:W.Frag)(xs:List V)(H:Hp)(Q:VK):Prop
 |mk:∀(a:Addr)(ns:List Int),xs=[.ref a]->SqL K H a (ns.map V.int)->(∀n∈ns,0<=n)->ns.sum<2 ^ 63->Q (.int ns.sum) H->rSum K xs H Q
theorem rF:∀{bs:List Int}{us:List Value}{i:Nat}{v:Value},Vals (bs.map V.int) us->us[i]?=some v->∃b t,bs[i]?=some b/\v=.int b t
 | [],_,_,_,.nil,h=>by simp at h
 | b::_,_,0,_,.cons r _,h=>by
   simp at h
   subst h;erw[t,e]at r;erw[b,t,1,e]
 | _::_,_,i+1,_,.cons _ t,h=>by
   let%[b,t,h1|h2]:=rF (i:=i) t (by simpa using h);erw[b,t,by simpa using h1,h2]
theorem oP{ns:List Int}(h:∀n∈ns,0<=n)(j:Nat):0<=(ns.take j).sum/\(ns.take j).sum<=ns.sum:=by
 induction ns generalizing j with
 | nil=>simp
 | cons a r ih=>
   cases j with
   | zero=>
     have:=ih (λn hn=>h n (qJ0 _ hn)) r.length
     rw[qF0]at this;have a0:=h a qB0;simp only[List.take_zero,List.sum_nil,List.sum_cons];omega
   | succ j=>
     have:=ih (λn hn=>h n (qJ0 _ hn)) j
     have a0:=h a qB0;simp only[List.take_succ_cons,List.sum_cons];omega
theorem oV(ns:List Int)(j:Nat):preSum (λi=>ns[i]?.getD 0) j=(ns.take j).sum:=by
 induction j with
 | zero=>simp;rfl
 | succ j ih=>
   show preSum (λi=>ns[i]?.getD 0) j+(λi=>ns[i]?.getD 0) j=_;rw[ih,qI0,List.sum_append];cases e:ns[j]? with
   | none=>simp [e]
   | some x=>simp [e]
theorem rV (hc:X.calm=true):gC X (.builtin "sum") (rSum X.K):=by
 intro pins s σ H xs us Q I r h;erw[a,ns,1,hq,n0,nb,q]at h;let%[u,1|ru]:=jP r;cases ru;let%[its,r',p|hz]:=I.list hq;have hl:=r'.length;rw[zF0]at hl;have hlt:a<s.heap.objs.size:=by erw[o,n,e,_]at p;exact zN0 e
 refine call_sum_walk (wpAny_pyIter_list p.isList ?_);erw[s.heap.objs.size,_,_,_,_,_,λi=>ns[i]?.getD 0,1,Walks.list (A:=X.A.in1) (I.ok.hd hc) s.heap.objs.size a (zV0 hlt) its.toArray,%[%[_,qA0 _ rfl,1|1]|p.isList.push _],6,6,6,6]
 . intro b hb;have hpz:∀o:Obj,(s.heap.push o).objs.size=s.heap.objs.size+1:=λo=>by simp [Heap.push]
   show b<(s.heap.push _).objs.size;rw[hpz];rcases zW0 hb with e | e
   . rw[e];exact Nat.lt_succ_self _
   . rw[zS0 e];exact Nat.lt_succ_of_lt hlt
 . intro i v hP;let%[b,t,hb|1]:=rF r' (i:=i) (v:=v) (by simpa using hP);erw[t,by simp [hb]]
 . intro j hj;have hj':j<ns.length:=by rw[hl];simpa using hj
   have s1:=oP n0 (j+1);rw[oV];erw[6,by unfold InLong;omega];have s2:=oP n0 j;have e:(ns.take (j+1)).sum=(ns.take j).sum+ns[j]:=by rw[qI0,List.sum_append,zM0 hj'];simp
   have n1:=n0 _ (qP0 hj');show InLong (ns[j]?.getD 0);rw[zM0 hj'];show InLong ns[j];unfold InLong;omega
 . intro h' tk t' hk;rw[oV,zQ0,←hl,qF0];erw[.int _,H,6,%[|0],q];have I1:Inv X pins σ H { s with heap:=s.heap.push { cls:=.type "list_iterator",data:=.fields #[.ref a,.int 0 0] } }:=I.kept (t':=s.toks) λb o e=>zR0 _ e
   refine I1.turnedL (t':=tk) (ch:=[s.heap.objs.size]) (λb o hb e=>hk b o (by simpa using hb) e) λb hb=>?_
   rw[zS0 hb];exact I.fpOk (zG0 _) (I.hok.fresh (zG0 _))
end
theorem zh:Slot "reversed" "__iter__" "reversed.__iter__":=Slot.of (owner:="reversed") (n:="__iter__") (by rw[typeLookup_type,builtinLookup_eq_fast];kernel_rfl) ⋯ ⋯ ⋯ (by first | exact .inl ⋯ | exact .inr ⋯) (by rw[isSubtype_type];kernel_rfl) ⋯
theorem rv_next:Slot "reversed" "__next__" "reversed.__next__":=Slot.of (owner:="reversed") (n:="__next__") (by rw[typeLookup_type,builtinLookup_eq_fast];kernel_rfl) ⋯ ⋯ ⋯ (by first | exact .inl ⋯ | exact .inr ⋯) (by rw[isSubtype_type];kernel_rfl) ⋯
theorem BS:typeLookup (.type "tuple") "__reversed__"=pure none:=by rw[typeLookup_type,builtinLookup_eq_fast];kernel_rfl
theorem Ar:entryFor table "reversed.__iter__"=some Builtin.«dict_keyiterator.__iter__»:=entryFor_alias (by kernel_rfl) rfl (show _="dict_keyiterator.__iter__" by decide) (by kernel_rfl)
theorem sP:entryFor table "reversed.__next__"=some Builtin.«reversed.__next__»:=entryFor_of_tree (by kernel_rfl)
def RevT (h:Heap) (it t:Addr) (i:Int):Prop:=h.get? it=some { cls:=.type "reversed",data:=.fields #[.ref t,rawInt i] }
section
variable {prog:Program} {w:World} {A:Around} {E:Value->Shared->Prop} {s:Shared} {R:Result->Shared->Prop} {it t:Addr}
theorem RevT.typeIs  (h:RevT s.heap it t i):s.TypeIs (.ref it) "reversed":=%[_,h|1]
theorem sW{Q:Value->Shared->Prop}(h:RevT s.heap it t i)(q:Q (.ref it) s):wpAny (model prog w) A (pyIter (.ref it)) Q E s:=
 wpAny_pyIter_slot h.typeIs zh (wpAny_call_entry zh h.typeIs Ar (zI0 %[0,"reversed",_,h.typeIs,rv_next.lookup|q]) (by rfl))
theorem rm{i:Nat}{items:Array Value}{x:Value}{Q:Option Value->Shared->Prop}(h:RevT s.heap it t (i:Int))(ht:IsTup s.heap t items)(hx:items[i]?=some x)(hi:(i:Int)<2 ^ 63)
 (q:∀h' tk,RevT h' it t ((i:Int)-1)->Heap.SameBut it s.heap h'->Q (some x) { s with heap:=h',toks:=tk }):wpAny (model prog w) A (pyNext (.ref it)) Q E s:=by
 have hT:=h.typeIs;have hs:i<items.size:=(Array.getElem?_eq_some_iff.mp hx).1;unfold pyNext;refine zD0 (wpAny_attempt (wpAny_callSpecial?_slot hT rv_next (wpAny_call_entry rv_next hT sP ?_ (by rfl))));unfold Builtin.«reversed.__next__»;refine zD0 (wpAny_of_eq (show slotArgs "__next__" 0 %[[.ref it]|[]]=pure (.ref it,[])from rfl) ?_);refine zD0 (wpAny_field h rfl rfl ?_);refine zD0 (wpAny_field h rfl rfl ?_);refine wpAny_ite_split (λhab=>absurd hab #[0]) (λ_=>?_);refine zD0 (wpAny_specialOf (show s.TypeIs (.ref t) "tuple" from ht.typeIs) PyProof.Rows.slot_tuple_getitem.lookup ?_);refine wpAny_ite_split (λhab=>absurd hab (by simp)) (λ_=>?_);refine zD0 (wpAny_mkInt ?_);have e1:seqIndex? (i:Int) items.size=some i:=(uY (by unfold ixN;rw[zC0 #[0],zC0 #[0]];simp)).1;refine zD0 (wpAny_attempt (PyProof.Rows.getItem_tuple (items:=items) (x:=x) ht #[0] hi e1 hx ?_));refine zD0 (wpAny_field h rfl rfl ?_);refine zD0 (wpAny_setField_rec h (by simp) λh' e hb=>?_);refine zI0 %[0|zI0 (q h' _ ?_ hb)];exact e
theorem sG{Q:Option Value->Shared->Prop}(hh:A.handled=none)(h:RevT s.heap it t (-1))
 (q:∀h' tk,Heap.ExtBut it s.heap h'->Q none { s with heap:=h',toks:=tk }):wpAny (model prog w) A (pyNext (.ref it)) Q E s:=by
 have hT:=h.typeIs;unfold pyNext;refine zD0 (wpAny_attempt (wpAny_callSpecial?_slot hT rv_next (wpAny_call_entry rv_next hT sP ?_ (by rfl))));unfold Builtin.«reversed.__next__»;refine zD0 (wpAny_of_eq (show slotArgs "__next__" 0 %[[.ref it]|[]]=pure (.ref it,[])from rfl) ?_);refine zD0 (wpAny_field h rfl rfl ?_);refine zD0 (wpAny_field h rfl rfl ?_);refine wpAny_ite_split (λ_=>?_) (λhab=>absurd ⋯ hab);refine zD0 (wpAny_rule ?_);refine zD0 ?_;show wpAny _ _ (setField (.ref it) 1 (rawInt (-1)) >>= λ_=>setField (.ref it) 0 Value.none) _ _ _;refine zD0 (wpAny_setField_rec h (by simp) λh1 e1 b1=>?_);refine wpAny_setField_rec e1 (by simp) λh2 e2 b2=>?_
 refine zD0 ?_;unfold Builtin.SmallTypes.stopIteration newExc newTuple;refine zD0 (zD0 (wpAny_newObj_type ?_ (by show 0<=sizeLine;decide)));refine zD0 (wpAny_of_eq (show firstArgMember (.type "StopIteration") []=pure .none by rfl') ?_);refine wpAny_newObj_type ?_ (sizeOk_excFields ..);refine wpAny_raiseNew_none hh ?_;refine zD0 (wpAny_isInstance (T:="StopIteration") %[_,qA0 _ rfl|1] isSubtype_stop ?_);refine wpAny_ite_split (λ_=>?_) (λhab=>absurd rfl hab);refine zI0 (q _ _ ?_);exact(b1.extBut.trans b2.extBut).trans λb o hb e=>zR0 _ (zR0 _ e)
theorem Fe:Slot "reversed" "__init__" "object.__init__":=Slot.of (owner:="object") (n:="__init__") (by rw[typeLookup_type,builtinLookup_eq_fast];kernel_rfl) ⋯ ⋯ ⋯ (by first | exact .inl ⋯ | exact .inr ⋯) (by rw[isSubtype_type];kernel_rfl) ⋯
theorem As:TypeCalled "reversed" "reversed.__new__" "object.__init__":=%[4,F.create_reversed,%[_,_|F.mro_reversed],F.made_reversed,F.plain_reversed_new,F.sub_reversed_self|Fe]
theorem Ab:isSubtype (.type "tuple") (.type "dict")=pure false:=by rw[isSubtype_type];kernel_rfl
theorem nj{items:Array Value}{Q:Value->Shared->Prop}(ht:IsTup s.heap t items)(hz:items.size<=sizeLine)
 (q:∀tk,Q (.ref s.heap.objs.size) { s with heap:=s.heap.push { cls:=.type "reversed",data:=.fields #[.ref t,rawInt ((items.size:Int)-1)] },toks:=tk }):wpAny (model prog w) A (call (.type "reversed") [.ref t]) Q E s:=by
 have h63:=jD;refine callType_newIn As ⋯ (F.typeCall_reversed_1 _) (F.newCall_reversed_1 _) (λ_=>by rfl) F.entry_reversed_new
  (S:=λA R s=>wpAny (model prog w) A.in1 (Builtin.«reversed.__new__» %[[.type "reversed",.ref t]|[]]) (λfin s'=>match fin with | .done f=>R (.ok f) s' | .again c'=>c'.quiet=true/\codeAny (model prog w) A c' R s') (λe s'=>R (.error e) s') s) (λA R s h=>h) ?_
 unfold Builtin.«reversed.__new__»;refine zD0 (wpAny_of_eq (newClass_reversed _) ?_);refine zD0 (wpAny_of_eq (a:=()) rfl ?_);refine zD0 (wpAny_of_eq (a:=()) rfl ?_);refine zD0 (wpAny_specialOf ht.typeIs BS ?_);refine zD0 ?_;refine zD0 (wpAny_isInstance ht.typeIs Ab ?_);refine wpAny_ite_split (λhab=>absurd hab ⋯) (λ_=>?_);refine zD0 (wpAny_specialOf ht.typeIs PyProof.Rows.slot_tuple_getitem.lookup ?_);refine wpAny_ite_split (λ_=>?_) (λhab=>absurd ⋯ hab);refine zI0 ?_;refine wpAny_ite_split (λhab=>absurd hab ⋯) (λ_=>?_);refine zD0 (len_tuple ht #[0] ?_);refine zD0 (zI0 ?_);refine zD0 (wpAny_newObj_type (data:=.fields #[.ref t,rawInt ((items.size:Int)-1)]) ?_ (by show 2<=sizeLine+2;decide));refine zI0 ?_;erw[%[_,qA0 _ rfl|1],q _]
end
end L2
namespace Mine
open PySem L2
def Tr.wf:Tr->Prop
 | .is x=>yQ x | .yes=>True | .no=>True | .not a=>a.wf | .bin w a b=>w∈joinW/\a.wf/\b.wf
def Tr.parts:Tr->List Tr
 | .is _=>[] | .yes=>[] | .no=>[] | .not a=>[a] | .bin _ a b=>[a,b]
theorem Tr.ok_wf{ns:List Str}(hn:∀x∈ns,yQ x):∀t:Tr,t.ok ns->t.wf
 | .is _,h=>hn _ h
 | .yes,_=>trivial
 | .no,_=>trivial
 | .not a,h=>Tr.ok_wf hn a h
 | .bin _ a b,⟨h,h1,h2⟩=>%[h,Tr.ok_wf hn a h1|Tr.ok_wf hn b h2]
theorem Tr.depth_pos:∀t:Tr,1<=t.depth
 | .is _=>zG0 _ | .yes=>zG0 _ | .no=>zG0 _ | .not a=>Nat.le_add_left .. | .bin _ a b=>Nat.le_add_left ..
def iP(ts:List Tr):Nat:=(ts.map Tr.size).sum
def ip(ts:List Tr):List Str:=(ts.map Tr.names).flatten
theorem Tr.size_parts(t:Tr):t.size=iP t.parts+1:=by
 cases t <;> simp [Tr.size,Tr.parts,iP]
theorem Tr.names_parts(t:Tr)(h:∀x,t≠.is x):t.names=ip t.parts:=by
 cases t with
 | is x=>exact absurd rfl (h x)
 | _=>simp [Tr.names,Tr.parts,ip]
theorem Tr.parts_mem{t u:Tr}(h:u∈t.parts)(w:t.wf):u.wf/\u.depth+1<=t.depth/\u.size+1<=t.size:=by
 cases t with
 | is x=>simp [Tr.parts]at h
 | yes=>simp [Tr.parts]at h
 | no=>simp [Tr.parts]at h
 | not a=>
   rw[zS0 h];erw[w,zG0 _,zG0 _]
 | bin o a b=>
   erw[_,w1,w2]at w;rcases zW0 h with e | e
   . rw [e];erw[w1,6,6]
     . show a.depth+1<=max a.depth b.depth+1;omega
     . show a.size+1<=a.size+b.size+1;omega
   . rw [zS0 e];erw[w2,6,6]
     . show b.depth+1<=max a.depth b.depth+1;omega
     . show b.size+1<=a.size+b.size+1;omega
inductive TreesAt(H:Hp):List V->List Tr->Prop
 | nil:TreesAt H [] []
 | cons {v:V} {t:Tr} {vs:List V} {ts:List Tr}:TreeAt H v t->TreesAt H vs ts->TreesAt H (v::vs) (t::ts)
theorem TreesAt.mono(k:cg H H')(h:TreesAt H vs ts):TreesAt H' vs ts:=by
 induction h with
 | nil=>exact .nil
 | cons a _ ih=>exact .cons (a.mono k) ih
theorem TreesAt.append(h:TreesAt H vs ts)(g:TreesAt H us rs):TreesAt H (vs++us) (ts++rs):=by
 induction h with
 | nil=>exact g
 | cons a _ ih=>exact .cons a ih
theorem TreesAt.length(h:TreesAt H vs ts):vs.length=ts.length:=by
 induction h with
 | nil=>rfl
 | cons _ _ ih=>rw[zO0,zO0,ih]
theorem TreesAt.get(h:TreesAt H vs ts):∀{i:Nat}{v:V},vs[i]?=some v->∃t,ts[i]?=some t/\TreeAt H v t:=by
 induction h with
 | nil=>intro i v e;simp at e
 | cons a _ ih=>
   intro i v e;cases i with
   | zero=>cases(zT0 e);erw[0,a]
   | succ i=>exact ih (i:=i) (by simpa using e)
theorem yA {w:Str} (h:w∈joinW):w≠"is":=(by decide:∀w∈joinW,w≠("is":Str)) w h
theorem TreeAt.view    (h:TreeAt H v t) (w:t.wf):(∃(a:Addr) (x:Str),v=.ref a/\t=.is x/\yQ x/\H a=some (.tup [.str "is",.str x]))∨
 ∃(a:Addr) (o:Str) (xs:List V),v=.ref a/\o≠"is"/\xs.length<=2/\H a=some (.tup (.str o::xs))/\TreesAt H xs t.parts/\(∀x,t≠.is x):=by
 cases h with
 | is e=>exact .inl %[2,w|e]
 | yes e=>exact .inr %[_,_,[],1,4,by simp,e,.nil|λx z=>by cases z]
 | no e=>exact .inr %[_,_,[],1,4,by simp,e,.nil|λx z=>by cases z]
 | not e g=>exact .inr %[_,_,[_],1,4,by simp,e,.cons g .nil|λx z=>by cases z]
 | bin e g g2=>exact .inr %[_,_,[_,_],1,yA w.1,by simp,e,.cons g (.cons g2 .nil)|λx z=>by cases z]
theorem cut1(o:V):∀xs:List V,xs.length<=2->iM (o::xs) (some 1) none=xs/\¬ (HT.sIx (o::xs).length 0 (some 1)=0/\HT.sIx (o::xs).length (o::xs).length none=(o::xs).length)
 | [],_=>%[1|λh=>absurd h.1 (show ¬ HT.sIx 1 0 (some 1)=0 by decide)]
 | [_],_=>%[1|λh=>absurd h.1 (show ¬ HT.sIx 2 0 (some 1)=0 by decide)]
 | [_,_],_=>%[1|λh=>absurd h.1 (show ¬ HT.sIx 3 0 (some 1)=0 by decide)]
 | _::_::_::_,h=>absurd h (by simp)
theorem Tr.names_len:∀t:Tr,t.names.length<=t.size
 | .is _=>zG0 _
 | .yes=>zU0 _
 | .no=>zU0 _
 | .not a=>Nat.le_succ_of_le (Tr.names_len a)
 | .bin _ a b=>by
   have:=Tr.names_len a
   have:=Tr.names_len b
   show(a.names++b.names).length<=a.size+b.size+1;rw[zJ0];omega
end Mine
namespace L2
open PySem PySem.Spec PyProof.Rows
section
variable {prog:Program} {w:World} {A:Around} {E:Value->Shared->Prop} {s:Shared}
def HU(xs:Array Value)(x:Value):Nat->Option PySem.Fin×Unit->Sem (ForInStep (Option PySem.Fin×Unit)):=λi _=>match xs[i]? with
 | some y=>do
   let b ←eqBool y x
   if b=true then do
    let r ←retInt (i:Int)
    pure (ForInStep.done (some r,()))
    else pure (ForInStep.yield (none,()))
 | _=>pure (ForInStep.yield (none,()))
theorem wu{xs:Array Value}{x:Value}{e:Value->Bool}(he:∀y∈xs,SeqAt.EqAt A s y x (e y)){j:Nat}(hj:j<xs.size)(ej:e xs[j]=true)(bf:∀(m:Nat) (hm:m<xs.size),m<j->e xs[m]=false){Q:Option PySem.Fin×Unit->Shared->Prop}
 (q:Q (some (.done (.ret (.int (j:Int) s.toks))),()) { s with toks:=s.toks+1 }):∀(n k:Nat),k<=j->j<k+n->k+n<=xs.size->wpAny (model prog w) A (forIn (List.range' k n 1) ((none:Option PySem.Fin),()) (HU xs x)) Q E s
 | 0,k,h1,h2,_=>absurd h2 #[0]
 | n+1,k,h1,h2,h3=>by
   have hk:k<xs.size:=by omega
   rw [List.range'_succ,List.forIn_cons];refine zD0 ?_;have e1:HU xs x k ((none:Option PySem.Fin),())=(do
    let b ←eqBool xs[k] x
    if b=true then do
     let r ←retInt (k:Int)
     pure (ForInStep.done (some r,()))
     else pure (ForInStep.yield (none,()))):=by
    unfold HU;rw[Array.getElem?_eq_getElem hk]
   rw[e1];refine zD0 (he _ (Array.getElem_mem hk) prog w _ _ ?_)
   by_cases c:k=j
   . subst c;rw[ej];refine wpAny_ite_split (λ_=>?_) (λhab=>absurd rfl hab);refine zD0 ?_;refine zD0 (wpAny_mkInt ?_);refine zI0 ?_;refine zI0 ?_;exact zI0 q
   . rw[bf k hk #[0]];refine wpAny_ite_split (λhab=>absurd hab ⋯) (λ_=>?_);refine zI0 ?_;exact wu he hj ej bf q n (k+1) #[0] #[0] #[0]
theorem rC(l:Addr)(items:Array Value)(n:Nat)(dd:Option Addr)(sl:Array (Option Value))(x:Value)(e:Value->Bool)(j:Nat)(hj:j<items.size)(ej:e items[j]=true)(bf:∀(m:Nat) (hm:m<items.size),m<j->e items[m]=false) :
 Meets (Builtin.«tuple.index» { pos:=[.ref l,x] }) λA R s=>s.heap.get? l=some { cls:=.type "tuple",dict:=dd,data:=.seq items n,slots:=sl }/\(∀y∈items,SeqAt.EqAt A.in1 s y x (e y))/\R (.ok (.ret (.int (j:Int) s.toks))) { s with toks:=s.toks+1 }:=by
 intro prog w A R s ⟨hl,he,q⟩;unfold Builtin.«tuple.index»;refine zD0 (wpAny_of_eq (a:=(Value.ref l,[x])) rfl ?_);refine zD0 (wpAny_tupleItemsOf hl rfl ?_);refine zD0 (zI0 ?_);refine zD0 (zI0 ?_);refine zD0 ?_;rw[Std.Legacy.Range.forIn_eq_forIn_range'];have e1:Std.Legacy.Range.size [0:min items.size items.size]=items.size:=by simp [Std.Legacy.Range.size]
 rw[e1];refine wu he hj ej bf ?_ items.size 0 (zU0 _) #[0] #[0];exact zI0 q
end
section
variable {X:Cx}
def eI(z:Str):List Str->Option Nat
 | []=>none
 | a::r=>if a=z then some 0 else(eI z r).map (·+1)
theorem qU:∀{ns:List Str}{j:Nat},eI z ns=some j->ns[j]?=some z/\∀m,m<j->∀y,ns[m]?=some y->y≠z
 | [],_,h=>by simp [eI]at h
 | a::r,j,h=>by
   unfold eI at h
   by_cases c:a=z
   . rw[zC0 c]at h;cases h;erw[by simp [c],λm hm=>absurd hm #[0]]
   . rw [zA0 c]at h;let%[i,hi|1]:=qV0 h;let%[h1|h2]:=qU hi;erw[by simpa using h1,λm hm y hy=>?_];cases m with
     | zero=>cases(zT0 hy);exact c
     | succ m=>exact h2 m #[0] y (by simpa using hy)
theorem ql:∀{bs:List Str}{us:List Value}{i:Nat}{v:Value},Vals (bs.map V.str) us->us[i]?=some v->∃b t,bs[i]?=some b/\v=.str b t
 | [],_,_,_,.nil,h=>by simp at h
 | b::_,_,0,_,.cons r _,h=>by
   simp at h
   subst h;erw[t,e]at r;erw[b,t,1,e]
 | _::_,_,i+1,_,.cons _ t,h=>by
   let%[b,t,h1|h2]:=ql (i:=i) t (by simpa using h);erw[b,t,by simpa using h1,h2]
theorem gU(ns:List Str):(ns.map V.str).all jM=true:=by
 induction ns with
 | nil=>rfl
 | cons a r ih=>rw[zY0,List.all_cons,ih];rfl
theorem pk{ns:List Str}{j:Nat}(r:Vals (ns.map V.str) its)(h:eI z ns=some j) :
 ∃hj:j<its.toArray.size,eqU (.str z) its.toArray[j]=true/\∀(m:Nat)(hm:m<its.toArray.size),m<j->eqU (.str z) its.toArray[m]=false:=by
 let%[h1|h2]:=qU h;have hl:=r.length;rw[zF0]at hl;have jl:j<ns.length:=(zX0 h1).1;have hj:j<its.toArray.size:=by rw[zQ0,←hl];exact jl
 erw[hj,6,λm hm mj=>?_]
 . let%[b,t,e1|e2]:=ql r (i:=j) (v:=its.toArray[j]) (by simp);rw[e2];rw[h1]at e1;cases e1;show(z==z)=true
   simp
 . let%[b,t,e1|e2]:=ql r (i:=m) (v:=its.toArray[m]) (by simp);rw[e2];show(b==z)=false
   have:=h2 m mj b e1
   simpa using this
inductive rIndexT(K:W.Frag)(x:V)(vs:List V)(H:Hp)(Q:VK):Prop
 |mk:∀(a:Addr)(ns:List Str)(z:Str)(j:Nat),x=.ref a->vs=[.str z]->SqT K H a (ns.map V.str)->eI z ns=some j->Q (.int (j:Int)) H->rIndexT K x vs H Q
theorem AT:MtR X "tuple.index" (rIndexT X.K):=by
 intro pins s σ H x vs v us Q I rx rv h;erw[a,ns,z,j,1,1,hq,hp,q]at h;cases rx;erw[u,1,ru]at rv.one;let%[its,r,%[%[cls,dd,data|sl],ho,hc,n|hd]|hz]:=I.tuple hq;simp only at hc hd;subst hc hd;let%[hj,e1|e2]:=pk r hp;refine call_meets F.slot_tuple_index %[_,ho|1] F.entry_tuple_index (F.args_tuple_index_2 _ _) (rC a its.toArray n dd sl u (eqU (.str z)) j hj e1 e2) ⟨ho,λy hy=>?_,?_⟩
 . exact fX ru rfl r (gU ns) y (by simpa using hy)
 . erw[.int (j:Int),H,I.tok _,%[|0],q]
inductive rIndexL(K:W.Frag)(x:V)(vs:List V)(H:Hp)(Q:VK):Prop
 |mk:∀(a:Addr)(ns:List Str)(z:Str)(j:Nat),x=.ref a->vs=[.str z]->SqL K H a (ns.map V.str)->eI z ns=some j->Q (.int (j:Int)) H->rIndexL K x vs H Q
theorem AU:MtR X "list.index" (rIndexL X.K):=by
 intro pins s σ H x vs v us Q I rx rv h;erw[a,ns,z,j,1,1,hq,hp,q]at h;cases rx;erw[u,1,ru]at rv.one;let%[its,r,%[%[cls,dd,data|sl],n,ho,hc,hdd|hd]|hz]:=I.list hq;simp only at hc hd;subst hc hd;let%[hj,e1|e2]:=pk r hp;have h63:=jD;have hl:=r.length;refine call_meets F.slot_list_index %[_,ho|1] F.entry_list_index (F.args_list_index_2 _ _) (SeqAt.list_indexAt a its.toArray n dd sl u (eqU (.str z)) j hj (by rw[zQ0]at hj;omega) e1 e2) ⟨ho,λy hy=>?_,?_⟩
 . exact fX ru rfl r (gU ns) y (by simpa using hy)
 . erw[.int (j:Int),H,I.tok _,%[|0],q]
end
section
variable {κ:Type} [DecidableEq κ]
def gV(kvs:List (κ×V))(k:κ):Option V:=(kvs.find? λkv=>decide (kv.1=k)).map (·.2)
def mh(kvs:List (κ×V))(k:κ)(v:V):List (κ×V):=
 if(kvs.any λkv=>decide (kv.1=k))=true then kvs.map (λkv=>if kv.1=k then(kv.1,v)else kv)else kvs++[(k,v)]
theorem dJ{p:κ×V}{r:List (κ×V)}{k:κ}(e:p.1=k):gV (p::r) k=some p.2:=by simp [gV,List.find?_cons,e]
theorem dL{p:κ×V}{r:List (κ×V)}{k:κ}(e:¬ p.1=k):gV (p::r) k=gV r k:=by simp [gV,List.find?_cons,e]
theorem lN(k:κ):∀kvs:List (κ×V),(kvs.any λkv=>decide (kv.1=k))=(gV kvs k).isSome
 | []=>rfl
 | p::r=>by
   rw[List.any_cons]
   by_cases e:p.1=k
   . simp only[dJ e,decide_eq_true e,Bool.true_or,Option.isSome_some]
   . rw[dL e,decide_eq_false e,Bool.false_or];exact lN k r
theorem vn(k j:κ)(y:V):∀kvs:List (κ×V),gV (kvs.map λkv=>if kv.1=k then(kv.1,y)else kv) j=(gV kvs j).map λx=>if j=k then y else x
 | []=>rfl
 | p::r=>by
   have ih:=vn k j y r;rw[zY0]
   by_cases h:p.1=k
   . rw [zC0 h]
     by_cases e:p.1=j
     . rw[dJ (p:=(p.1,y)) e,dJ e,Option.map_some,zC0 (e.symm.trans h)]
     . rw[dL (p:=(p.1,y)) e,dL e,ih]
   . rw [zA0 h]
     by_cases e:p.1=j
     . rw[dJ (p:=p) e,dJ e,Option.map_some,zA0 (λz=>h (e.trans z))]
     . rw[dL (p:=p) e,dL e,ih]
theorem sL(k j:κ)(y:V):∀kvs:List (κ×V),gV kvs k=none->gV (kvs++[(k,y)]) j=if j=k then some y else gV kvs j
 | [],_=>by
   by_cases e:k=j
   . rw[zC0 e.symm];exact dJ (p:=(k,y)) e
   . rw[zA0 (λz=>e z.symm)];exact dL (p:=(k,y)) e
 | p::r,hn=>by
   rw[List.cons_append];have hk:¬ p.1=k:=λz=>by rw[dJ z]at hn;cases hn
   rw[dL hk]at hn;have ih:=sL k j y r hn
   by_cases e:p.1=j
   . rw[dJ e,dJ e,zA0 (λz=>hk (e.trans z))]
   . rw[dL e,dL e,ih]
theorem BL(kvs:List (κ×V))(k j:κ)(y:V):gV (mh kvs k y) j=if j=k then some y else gV kvs j:=by
 unfold mh
 by_cases a:(kvs.any λkv=>decide (kv.1=k))=true
 . rw [zC0 a,vn];rw[lN]at a
   by_cases e:j=k
   . let%[x|hx]:=Option.isSome_iff_exists.mp a;rw[zC0 e,e,hx,Option.map_some,zC0 rfl]
   . rw [zA0 e];cases gV kvs j with
     | none=>rfl
     | some x=>rw[Option.map_some,zA0 e]
 . rw [zA0 a];refine sL k j y kvs ?_;rw[lN]at a;cases q:gV kvs k with
   | none=>rfl
   | some x=>rw[q]at a;exact(a rfl).elim
theorem km(kvs:List (κ×V))(k:κ)(v:V):(mh kvs k v).length<=kvs.length+1:=by
 unfold mh
 split
 . rw[zF0];omega
 . rw[zJ0,zO0,List.length_nil];omega
theorem RelO.isSome_eq(r:RelO o u):o.isSome=u.isSome:=by
 cases o with
 | none=>cases u with
   | none=>rfl
   | some _=>exact(show False from r).elim
 | some _=>cases u with
   | none=>exact(show False from r).elim
   | some _=>rfl
theorem RelO.getD(r:RelO o u)(rd:RelV d d'):RelV (o.getD d) (u.getD d'):=by
 cases o with
 | none=>cases u with
   | none=>exact rd
   | some _=>exact(show False from r).elim
 | some _=>cases u with
   | none=>exact(show False from r).elim
   | some _=>exact r
theorem KV.val{kvs:List (κ×V)}{vs:List (κ×Value)}(r:KV kvs vs)(k:κ):RelO (gV kvs k) (valueAt vs k):=by
 unfold KV at r
 induction r with
 | nil=>exact True.intro
 | @cons p q ps qs h t ih=>
   erw[h1,h2]at h
   by_cases e:p.1=k
   . have e':q.1=k:=h1.symm.trans e;have b:valueAt (q::qs) k=some q.2:=by simp [valueAt,List.find?_cons,e']
     rw[dJ e,b];exact h2
   . have e':¬ q.1=k:=λz=>e (h1.trans z)
     have b:valueAt (q::qs) k=valueAt qs k:=by simp [valueAt,List.find?_cons,e']
     rw[dL e,b];exact ih
theorem KV.any{kvs:List (κ×V)}{vs:List (κ×Value)}(r:KV kvs vs)(k:κ):(kvs.any λkv=>decide (kv.1=k))=vs.any λkv=>decide (kv.1=k):=by
 unfold KV at r
 induction r with
 | nil=>rfl
 | cons h t ih=>rw[List.any_cons,List.any_cons,ih,h.1]
theorem KV.repl{kvs:List (κ×V)}{vs:List (κ×Value)}(r:KV kvs vs)(k:κ)(ry:RelV y u) :
 KV (kvs.map λkv=>if kv.1=k then(kv.1,y)else kv) (vs.map λkv=>if kv.1=k then(kv.1,u)else kv):=by
 unfold KV at r ⊢
 induction r with
 | nil=>exact .nil
 | @cons p q ps qs h t ih=>
   rw[zY0,zY0];refine .cons ?_ ih;erw[h1,h2]at h
   by_cases e:p.1=k
   . rw[zC0 e,zC0 (h1.symm.trans e)];erw[h1,ry]
   . rw[zA0 e,zA0 (λz=>e (h1.trans z))];erw[h1,h2]
theorem KV.put{kvs:List (κ×V)}{vs:List (κ×Value)}(r:KV kvs vs)(k:κ)(ry:RelV y u):KV (mh kvs k y) (stored vs k u):=by
 unfold mh stored;rw[r.any k]
 by_cases e:(vs.any λkv=>decide (kv.1=k))=true
 . rw[zC0 e,zC0 e];exact r.repl k ry
 . rw[zA0 e,zA0 e];exact Paired.snoc r %[1|ry]
theorem KV.length{kvs:List (κ×V)}{vs:List (κ×Value)}(r:KV kvs vs):kvs.length=vs.length:=Paired.length r
end
theorem DP(r:RelV (kV k) u):(dA P w).is k u=true:=by
 cases k with
 | inl i=>let%[t|e]:=(show ∃t,u=Value.int i t from r);subst e;exact wa P w i t
 | inr x=>let%[t|e]:=(show ∃t,u=Value.str x t from r);subst e;exact vZ P w x t
theorem sX:∀{ks:List Key}{us:List Value},Vals (ks.map kV) us->ItemsAre (dA P w) ks us
 | [],_,r=>by rw[List.map_nil]at r;cases r;exact .nil
 | k::ks,_,r=>by
   rw[zY0]at r;cases r with
   | cons h t=>exact .cons (DP h) (sX t)
abbrev KT(H:Hp):List (List Key×V)->List (List Key×Addr×Value)->Prop:=Paired λp q=>p.1=q.1/\H q.2.1=some (.tup (p.1.map kV))/\RelV p.2 q.2.2
theorem KT.val{kvs:List (List Key×V)}{xs:List (List Key×Addr×Value)}(r:KT H kvs xs)(k:List Key):RelO (gV kvs k) ((atKey xs k).map (·.2)):=by
 induction r with
 | nil=>exact True.intro
 | @cons p q ps qs h t ih=>
   erw[h1,_,h2]at h
   by_cases e:p.1=k
   . have e':q.1=k:=h1.symm.trans e;have b:atKey (q::qs) k=some q.2:=by simp [atKey,List.find?_cons,e']
     rw[dJ e,b];exact h2
   . have e':¬ q.1=k:=λz=>e (h1.trans z)
     have b:atKey (q::qs) k=atKey qs k:=by simp [atKey,List.find?_cons,e']
     rw[dL e,b];exact ih
theorem KT.repl{kvs:List (List Key×V)}{xs:List (List Key×Addr×Value)}(r:KT H kvs xs)(k:List Key)(ry:RelV y u) :
 KT H (kvs.map λkv=>if kv.1=k then(kv.1,y)else kv) (xs.map (putAt k u)):=by
 induction r with
 | nil=>exact .nil
 | @cons p q ps qs h t ih=>
   rw[zY0,zY0];refine .cons ?_ ih;erw[h1,h2,h3]at h;unfold putAt
   by_cases e:p.1=k
   . rw[zC0 e,zC0 (h1.symm.trans e)];erw[h1,h2,ry]
   . rw[zA0 e,zA0 (λz=>e (h1.trans z))];erw[h1,h2,h3]
theorem KT.put{kvs:List (List Key×V)}{xs:List (List Key×Addr×Value)}(r:KT H kvs xs)(k:List Key){b:Addr}(hb:H b=some (.tup (k.map kV)))(ry:RelV y u) :
 KT H (mh kvs k y) (storedH xs k b u):=by
 have e:(kvs.any λkv=>decide (kv.1=k))=(atKey xs k).isSome:=by
  rw[lN,(r.val k).isSome_eq,Option.isSome_map]
 unfold mh storedH;rw[e]
 by_cases q:(atKey xs k).isSome=true
 . rw[zC0 q,zC0 q];exact r.repl k ry
 . rw[zA0 q,zA0 q];exact Paired.snoc r %[1,hb|ry]
theorem KT.keeps{H':Hp}{kvs:List (List Key×V)}{xs:List (List Key×Addr×Value)}(r:KT H kvs xs)(ht:∀b ys,H b=some (.tup ys)->H' b=some (.tup ys)):KT H' kvs xs:=
 Paired.mapP r λ_ _ z=>%[z.1,ht _ _ z.2.1|z.2.2]
section
variable {P:Program} {w:World} {H:Hp} {h:Heap} {a:Addr}
theorem Go(ok:HOk P w H h)(e:Rd H a u):ObjOk P w H h a u:=e.ok ok
theorem zI{kvs:List (Key×V)}(ok:HOk P w H h)(e:Rd H a (.dK kvs)):kvs.length<=sizeLine/\(a==sysModules)=false/\∃vs,KV kvs vs/\h.DictOf (dA P w) a vs:=
 show ObjOk P w H h a (.dK kvs)from Go ok e
theorem dk_of{kvs:List (Key×V)}(ok:HOk P w H h)(e:H a=some (.dK kvs)):kvs.length<=sizeLine/\(a==sysModules)=false/\∃vs,KV kvs vs/\h.DictOf (dA P w) a vs:=zI ok (.inl e)
theorem yz{ks:List Key}(ok:HOk P w H h)(e:H a=some (.tup (ks.map kV))):(tupleKind (dA P w)).is h ks a:=by
 let%[_,its,r,%[o,h1,h2,n|h3]|_]:=(show ObjOk P w H h a (.tup (ks.map kV))from ok a _ e)
 erw[o,its.toArray,n,h1,h2,h3,by simpa using sX r]
theorem Ej{kvs:List (List Key×V)}(ok:HOk P w H h)(e:Rd H a (.dT kvs)):kvs.length<=sizeLine/\(a==sysModules)=false/\
 ∃xs,KT H kvs xs/\h.DictOfH (tupleKind (dA P w)) a xs:=by
 let%[z,y,xs,r,o,es,ep,h1,h2,h3,h4|h5]:=(show ObjOk P w H h a (.dT kvs)from Go ok e)
 erw[z,y,xs,r,o,es,ep,h1,h2,h3,h4,λx hx=>?_,h5];have all:∀{l:List (List Key×V)}{m:List (List Key×Addr×Value)},KT H l m->∀x∈m,(tupleKind (dA P w)).is h x.1 x.2.1:=by
  intro l m q
  induction q with
  | nil=>intro x hx;exact nomatch hx
  | @cons p q ps qs hq t ih=>
    intro x hx;rcases zW0 hx with e | hx
    . subst e;exact yz ok (by rw[←hq.1];exact hq.2.1)
    . exact ih x hx
 exact all r x hx
theorem dt_of{kvs:List (List Key×V)}(ok:HOk P w H h)(e:H a=some (.dT kvs)):kvs.length<=sizeLine/\(a==sysModules)=false/\
 ∃xs,KT H kvs xs/\h.DictOfH (tupleKind (dA P w)) a xs:=Ej ok (.inl e)
end
def DGet(H:Hp)(a:Addr)(y:V)(r:Option V):Prop:=
 (∃kvs k,Rd H a (.dK kvs)/\y=kV k/\r=gV kvs k)∨∃kvs k b,Rd H a (.dT kvs)/\y=.ref b/\H b=some (.tup (k.map kV))/\r=gV kvs k
def DPut(H:Hp)(a:Addr)(y v:V)(H':Hp):Prop:=
 (∃kvs k,H a=some (.dK kvs)/\y=kV k/\kvs.length<sizeLine/\H'=upd H a (.dK (mh kvs k v)))∨
 ∃kvs k b,H a=some (.dT kvs)/\y=.ref b/\H b=some (.tup (k.map kV))/\kvs.length<sizeLine/\H'=upd H a (.dT (mh kvs k v))
theorem DGet.k{H:Hp}{a:Addr}{kvs:List (Key×V)}{k:Key}(e:H a=some (.dK kvs)):DGet H a (kV k) (gV kvs k):=.inl %[kvs,k,.inl e,1|1]
theorem DPut.k{H:Hp}{a:Addr}{kvs:List (Key×V)}{k:Key}(e:H a=some (.dK kvs))(hl:kvs.length<sizeLine):DPut H a (kV k) v (upd H a (.dK (mh kvs k v))):=.inl %[kvs,k,e,1,hl|1]
section
variable {X:Cx} {pins:List (Addr×Obj)} {σ:St} {H:Hp} {s:Shared} {a:Addr} {y v:V} {u r:Value} {o:Option V} {A:Around} {E:Value->Shared->Prop}
theorem Inv.big(I:Inv X pins σ H s):sysModules<s.heap.objs.size:=by
 have h:mainGlobals<s.heap.objs.size:=(I.mod.glob.keeps I.bk).lt;exact Nat.lt_trans ⋯ h
theorem zM{h':Heap}{t':Nat}(I:Inv X pins σ H s)(mu:Mut (H a))(hs:Heap.SameBut a s.heap h')(he:∃q,h'.get? a=some q)(new:ObjOk X.prog X.w (upd H a ob) h' a ob) :
 Inv X pins σ (upd H a ob) { s with heap:=h',toks:=t' }:=
 I.write (x:=a) (e:=a) mu (.inl rfl) (λb q hb z=>(hs.2 b hb).trans z) he new
theorem Em{H':Hp}{h':Heap}{kvs:List (Key×V)}{vs:List (Key×Value)}(z:kvs.length<=sizeLine)(hd:(a==sysModules)=false)(rel:KV kvs vs)(dd:h'.DictOf (dA P w) a vs) :
 ObjOk P w H' h' a (.dK kvs):=%[z,hd,vs,rel|dd]
theorem Bw{Q:Unit->Shared->Prop}(hu:A.units+1<cLine)(I:Inv X pins σ H s)(g:DPut H a y v H')(ry:RelV y u)(rv:RelV v r)(h:∀s',Inv X pins σ H' s'->Q () s') :
 wpAny (model X.prog X.w) A (setItem (.ref a) u r) Q E s:=by
 rcases g with⟨kvs,k,e,ey,l,eH⟩ | ⟨kvs,k,b,e,ey,eb,l,eH⟩
 . subst ey eH;let%[z,hd,vs,rel|dd]:=dk_of I.hok e;have hz:vs.length<=sizeLine:=by rw[←rel.length];exact z
   have hl:(mh kvs k v).length<=sizeLine:=by have:=km kvs k v;omega
   refine wpAny_setItem_pairs (hsz:=hz) (DP ry) dd λh' dd' hs=>h _ ?_
   have he:∃q,h'.get? a=some q:=let⟨q,_,_,hq,_⟩:=dd';%[q|hq]
   exact zM I (by rw[e];exact True.intro) hs he (Em hl hd (rel.put k rv) dd')
 . subst ey eH;cases(show u=Value.ref b from ry);let%[z,hd,xs,rel|dd]:=dt_of I.hok e;have hz:xs.length<=sizeLine:=by rw[←Paired.length rel];exact z
   have hl:(mh kvs k v).length<=sizeLine:=by have:=km kvs k v;omega
   refine wpAny_setItem_heap (hsz:=hz) (tupleKind_room_in1 hu) (yz I.hok eb) dd λh' dd' hs=>h _ ?_
   erw[q,es,ep,hq,h2,h3,h4,_,h5]at dd';refine zM I (by rw[e];exact True.intro) hs ⟨q,hq⟩ ⟨hl,hd,_,(rel.put k eb rv).keeps λc ys ec=>?_,q,es,ep,hq,h2,h3,h4,h5⟩;rw[aG (bu ec e (λz=>nomatch z))];exact ec
end
inductive ZsDPut(D:Ends)(σ:St)(v:V)(x:V)(y:V)(H3:Hp):Prop
 |mk:∀a H4,x=.ref a->DPut H3 a y v H4->D.nx σ H4->ZsDPut D σ v x y H3
def sDPut(td ty tv:TE):TS:=λD σ H=>tv σ H λv H1=>td σ H1 λx H2=>ty σ H2 λy H3=>ZsDPut D σ v x y H3
section
variable {X:Cx} {o i e value:Expr} {pos pos' tpos:Pos} {td ty tv:TE}
theorem Fh(hu:X.A.units+1<cLine)(ho:PE X o td)(hi:PE X i ty)(hv:PE X value tv)(hs:swapsWith value (some (.Subscript o i pos')) pos.line X.env=pure false) :
 PS X (.Assign [.Subscript o i pos'] value pos) (sDPut td ty tv):=by
 intro pins s σ H D I h;refine wpAny_Assign_Subscript (thn (hv pins s σ H _ I h) λr s1 ⟨v,H1,I1,rv,q1⟩=>thn (ho pins s1 σ H1 _ I1 q1) λu s2 ⟨x,H2,I2,rx,q2⟩=>thn (hi pins s2 σ H2 _ I2 q2) λiv s3 ⟨y,H3,I3,ry,a,H4,ex,g,q3⟩=>?_) hs;subst ex;obtain rfl:u=Value.ref a:=rx;exact Bw hu I3 g ry rv λs4 I4=>%[σ,H4,I4|q3]
end
theorem En {P:Program} {w:World} {H:Hp} (h:Heap) (hb:sysModules<h.objs.size):ObjOk P w H (h.push { cls:=.type "dict",data:=.dict #[] }) h.objs.size (.dK []):=
 %[zU0 _,beq_eq_false_iff_ne.mpr (Ne.symm (zV0 hb)),[],.nil|Heap.DictOf.new h]
def He:TE:=λ_ H Q=>∀p,H p=none->Q (.ref p) (upd H p (.dK []))
section
variable {X:Cx} {pos:Pos}
theorem CP:PE X (.Dict [] [] pos) He:=λpins s σ H Q I h=>
 wpAny_Dict_empty %[.ref s.heap.objs.size,_,I.laid (a:=s.heap.objs.size) (o:=.dK []) (t':=s.toks) (λ_ _ q=>zR0 _ q) (zG0 _) (En s.heap I.big),1|h _ (I.hok.fresh (zG0 _))]
end
structure M2(X:Cx)(o:Expr)(m:Str)(apos:Pos)(e f:Expr)(cpos:Pos):Prop where
 base:attributeBase o m X.env (eval o X.env)=eval o X.env
 few:((backTo cpos (starEach [e,f] X.env)).all (λx=>!x.1)&&(backToKw cpos (keywordEach [] X.env)).all (λx=>x.1.isSome)
  &&decide (([e,f]:List Expr).length+([]:List Keyword).length+(if([]:List Keyword).isEmpty then 0 else 1)<30))=true
 line:(apos.endLine==cpos.line)=true
 trees:backTo cpos (starEach [e,f] X.env)=[(false,eval e X.env),(false,eval f X.env)]
def IsD(H:Hp)(a:Addr):Prop:=(∃kvs,Rd H a (.dK kvs))∨∃kvs,Rd H a (.dT kvs)
theorem HP{σ:St}(I:Inv X pins σ H s)(d:IsD H a) :
 s.TypeIs (.ref a) "dict"/\(∀b,Value.ref a=.ref b->∃ob,s.heap.get? b=some ob/\ob.dict=none)/\(a==sysModules)=false:=by
 rcases d with⟨kvs,e⟩ | ⟨kvs,e⟩
 . let%[_,hd,vs,_|dd]:=zI I.hok e;erw[dd.typeIs,λb q=>?_,hd];cases q;erw[ob,_,_,h1,h2,_]at dd;erw[ob,h1,h2.2.1]
 . let%[_,hd,xs,_|dd]:=Ej I.hok e;erw[dd.typeIs,λb q=>?_,hd];cases q;erw[ob,_,_,h1,h2,_]at dd;erw[ob,h1,h2.2.1]
section
variable {X:Cx} {pins:List (Addr×Obj)} {σ:St} {H:Hp} {s:Shared} {a:Addr} {y d:V} {u r:Value} {o:Option V} {A:Around} {E:Value->Shared->Prop}
theorem Im{Q:Value->Shared->Prop}(hu:A.units+1<cLine)(I:Inv X pins σ H s)(g:DGet H a y o)(ry:RelV y u)(rd:RelV d r)(h:∀w' s',Inv X pins σ H s'->RelV (o.getD d) w'->Q w' s') :
 wpAny (model X.prog X.w) A (call (.builtin "dict.get") [.ref a,u,r]) Q E s:=by
 rcases g with⟨kvs,k,e,ey,l⟩ | ⟨kvs,k,b,e,ey,eb,l⟩
 . subst ey;let%[z,hd,vs,rel|dd]:=zI I.hok e;refine call_meetsIn PySem.F.slot_dict_get dd.typeIs PySem.F.entry_dict_get (PySem.F.args_dict_get_3 _ _ _) (meets_dict_get_default (dA X.prog X.w) a (DP ry) hd r) %[_,dd.mapOf|h _ _ (I.tok _) ?_];rw[l];exact(rel.val k).getD rd
 . subst ey;cases(show u=Value.ref b from ry);let%[z,hd,xs,rel|dd]:=Ej I.hok e;refine call_meetsIn PySem.F.slot_dict_get dd.typeIs PySem.F.entry_dict_get (PySem.F.args_dict_get_3 _ _ _) (meetsH_dict_get_default (tupleKind (dA X.prog X.w)) a b hd r) %[tupleKind_room_in1 hu,k,xs,yz I.hok eb,dd|h _ _ (I.tok _) ?_];rw[l];exact(rel.val k).getD rd
end
inductive ZtDGet2(ty:TE)(tx:TE)(σ:St)(Q:VK)(x:V)(H1:Hp):Prop
 |mk:∀a,x=.ref a->IsD H1 a->(ty σ H1 λy H2=>tx σ H2 λz H3=>∃o,DGet H3 a y o/\Q (o.getD z) H3)->ZtDGet2 ty tx σ Q x H1
def Hf(td ty tx:TE):TE:=λσ H Q=>td σ H λx H1=>ZtDGet2 ty tx σ Q x H1
section
variable {X:Cx} {o e f:Expr} {apos cpos:Pos} {td ty tx:TE}
theorem CQ (hu:X.A.units+1<cLine) (ho:PE X o td) (he:PE X e ty) (hf:PE X f tx) (m:M2 X o "get" apos e f cpos):PE X (.Call (.Attribute o "get" apos) [e,f] [] cpos) (Hf td ty tx):=by
 intro pins s σ H Q I h;refine wpAny_Call_method m.base m.few m.line PySem.F.plainAttrs_dict PySem.F.slot_dict_get PySem.F.type_dict_get (thn (ho pins s σ H _ I h) λu s1 ⟨x,H1,I1,rx,a,ex,d,q1⟩=>?_);subst ex;obtain rfl:u=Value.ref a:=rx;let%[t1,t2|_]:=HP I1 d;erw[t1,t2,6];rw[m.trees];refine Calls.callWith_builtin rfl (Calls.evalArgs_plain (Calls.spliced_cons (thn (he pins s1 σ H1 _ I1 q1) λiv s2 ⟨y,H2,I2,ry,q2⟩=>
  Calls.spliced_cons (thn (hf pins s2 σ H2 _ I2 q2) λfv s3 ⟨z,H3,I3,rz,ov,g,q3⟩=>Calls.spliced_nil ?_))))
 exact Im hu I3 g ry rz λw' s4 I4 rw'=>%[_,H3,I4,rw'|q3]
end
section
variable {X:Cx} {pins:List (Addr×Obj)} {σ:St} {H:Hp} {s:Shared} {a:Addr} {kvs:List (Key×V)} {A:Around} {E:Value->Shared->Prop}
theorem Er {Q:Value->Shared->Prop} (I:Inv X pins σ H s) (e:Rd H a (.dK kvs)) (h:∀p s',H p=none->Inv X pins σ (upd H p (.dK kvs)) s'->Q (.ref p) s'):wpAny (model X.prog X.w) A (call (.type "dict") [.ref a]) Q E s:=by
 let%[z,hd,vs,rel|dd]:=zI I.hok e;refine kt_call_dict hd dd (by rw[←rel.length];exact z) λh' dd' hs=>?_
 refine h _ _ (I.hok.fresh (zG0 _)) (I.laid (a:=s.heap.objs.size) (o:=.dK kvs) (t':=s.toks) (λb q hq=>?_) (zG0 _) (Em z (beq_eq_false_iff_ne.mpr (Ne.symm (zV0 I.big))) rel dd'));exact(hs.2 b (zV0 (zN0 hq))).trans (zR0 _ hq)
end
section
variable {X:Cx}
theorem Inv.tupD{σ:St}{a:Addr}{xs:List V}(I:Inv X pins σ H s)(h:H a=some (.tup xs)):∃ob,s.heap.get? a=some ob/\ob.dict=none:=by
 let%[_,_,_,_,o,e|d]:=(show ObjOk X.prog X.w H s.heap a (.tup xs)from I.hok a _ h)
 erw[o,e,d]
inductive ZtIndex(t:TA)(σ:St)(Q:VK)(x:V)(H1:Hp):Prop
 |mk:∀(a:Addr)(ns:List Str),x=.ref a->H1 a=some (.lst (ns.map V.str))∨H1 a=some (.tup (ns.map V.str))->(t σ H1 λvs H2=>(H2 a=H1 a)/\∃(z:Str)(j:Nat),vs=[.str z]/\eI z ns=some j/\Q (.int (j:Int)) H2)->ZtIndex t σ Q x H1
def Hd(K:W.Frag)(to:TE)(t:TA):TE:=λσ H Q=>to σ H λx H1=>ZtIndex t σ Q x H1
variable {o e:Expr} {es:List Expr} {to:TE} {t:TA} {apos cpos:Pos}
theorem vI (pl:PlainAttrs "list") (pt:PlainAttrs "tuple") (ho:PE X o to) (ha:PA X (e::es) t)
 (hbase:attributeBase o "index" X.env (eval o X.env)=eval o X.env:=by rfl)
 (hfew:((backTo cpos (starEach (e::es) X.env)).all (λx=>!x.1)&&(backToKw cpos (keywordEach [] X.env)).all (λx=>x.1.isSome)
  &&decide ((e::es).length+([]:List Keyword).length+(if([]:List Keyword).isEmpty then 0 else 1)<30))=true:=by rfl)
 (hline:(apos.endLine==cpos.line)=true:=by rfl) (hs:starEach (e::es) X.env=(false,eval e X.env)::starEach es X.env:=by rfl) (hplain:(backTo cpos (starEach es X.env)).any (·.1)=false:=by rfl) :
 PE X (.Call (.Attribute o "index" apos) (e::es) [] cpos) (Hd X.K to t):=by
 intro pins s σ H Q I h;refine wpAny_Call_method_late hbase hfew hline rfl (thn (ho pins s σ H _ I h) λv s1 ⟨x,H1,I1,r1,a,ns,ex,hh,q1⟩=>?_);subst ex;cases r1;have hA:=ha cpos pins s1 σ H1 _ I1 q1;rw[hs]at hA ⊢;rcases hh with hh | hh
 . let%[its,_,p|_]:=I1.list (zH0 hh);let%[ob,n,e1,c,d|_]:=id p;erw["list","list.index",pl,F.slot_list_index,F.type_list_index,p.isList.typeIs,λb eb=>?_,6]
   . cases eb;erw[ob,e1,d]
   . refine Calls.callWith_builtin (by show(false||(backTo cpos (starEach es X.env)).any (·.1))=false;rw[hplain] <;> rfl) (Calls.evalArgs_plain ?_);exact thn hA λus s2 ⟨vs,H2,I2,r2,ek,z,j,ez,hp,q2⟩=>AU pins s2 σ H2 (.ref a) vs (.ref a) us Q I2 rfl r2 %[a,ns,z,j,1,ez,zH0 (ek.trans hh),hp|q2]
 . let%[its,_,p|_]:=I1.tuple (zB0 hh);erw["tuple","tuple.index",pt,F.slot_tuple_index,F.type_tuple_index,p.typeIs,λb eb=>?_,6]
   . cases eb;exact I1.tupD hh
   . refine Calls.callWith_builtin (by show(false||(backTo cpos (starEach es X.env)).any (·.1))=false;rw[hplain] <;> rfl) (Calls.evalArgs_plain ?_);exact thn hA λus s2 ⟨vs,H2,I2,r2,ek,z,j,ez,hp,q2⟩=>AT pins s2 σ H2 (.ref a) vs (.ref a) us Q I2 rfl r2 %[a,ns,z,j,1,ez,zB0 (ek.trans hh),hp|q2]
end
theorem CompScope.three{X:Cx}{x y z u:Str}{scope:Scope}{k l m:Nat}{c d e:Addr}{cl:List (Str×Addr)}(c1:closureFor scope X.env=pure cl)(c2:∀y∈scope.names,y.2≠.cell)(c3:scope.kind=.function)(c4:∀y∈scope.names,y.2=.local->scope.names.lookup y.1=some .local)
 (c5:scope.names.lookup x=some .local) (nd:[x,y,z,u].Nodup) (hcl:cl=[(y,c),(z,d),(u,e)]) (hc:X.env.cells.lookup y=some c) (hd:X.env.cells.lookup z=some d) (he:X.env.cells.lookup u=some e) (c6:((relabel scope X.env).names.all λp=>!(p.2==.cell||p.2==.free)||(cl.lookup p.1).isSome)=true)
 (hr:(relabel scope X.env).names.lookup y=some .cell) (hk:X.N[k]?=some y) (hs:X.env.scope.names.lookup y=some .cell)
 (hr2:(relabel scope X.env).names.lookup z=some .cell) (hk2:X.N[l]?=some z) (hs2:X.env.scope.names.lookup z=some .cell)
 (hr3:(relabel scope X.env).names.lookup u=some .cell) (hk3:X.N[m]?=some u) (hs3:X.env.scope.names.lookup u=some .cell):CompScope X x [y,z,u] [k,l,m] scope cl where
 clos:=c1
 nocell:=c2
 kind:=c3
 names:=c4
 own:=c5
 nd:=nd
 sub:=λp hp=>by
  subst hcl;rcases zW0 hp with h | h
  . rw[h];assumption
  . rcases zW0 h with h | h
    . rw[h];assumption
    . rw[zS0 h];assumption
 has:=c6
 outs:=λj w h=>by
  have nyz:y≠z:=λe=>by simp [e]at nd
  have nyu:y≠u:=λe=>by simp [e]at nd
  have nzu:z≠u:=λe=>by simp [e]at nd
  subst hcl
  match j,h with
  | 0,h=>
    have e:y=w:=zT0 h;subst e;erw[hr,k,c,1,hk,by simp [List.lookup],hs]
  | 1,h=>
    have e:z=w:=zT0 h;subst e
    have:(z==y)=false:=by simpa using Ne.symm nyz
    erw[hr2,l,d,1,hk2,by simp [List.lookup,this],hs2]
  | 2,h=>
    have ew:u=w:=zT0 h;subst ew;have h1:(u==y)=false:=by simpa using Ne.symm nyu
    have h2:(u==z)=false:=by simpa using Ne.symm nzu
    erw[hr3,m,e,1,hk3,by simp [List.lookup,h1,h2],hs3]
  | j+3,h=>simp at h
section
variable {X:Cx}
theorem tu:∀{xs:List V}{us:List Value},Vals xs us->xs.all jM=true->us.countP (eqU x)=xs.countP λy=>eqV y x
 | _,_,.nil,_=>rfl
 | y::xs,u::us,.cons r t,f=>by
   rw[List.all_cons,Bool.and_eq_true]at f;rw[List.countP_cons,List.countP_cons,yF r f.1,tu t f.2]
inductive rCountL(K:W.Frag)(x:V)(vs:List V)(H:Hp)(Q:VK):Prop
 |mk:∀(a:Addr)(xs:List V)(z:V),x=.ref a->vs=[z]->SqL K H a xs->xs.all jM=true->jM z=true->Q (.int ((xs.countP λy=>eqV y z:Nat):Int)) H->rCountL K x vs H Q
theorem vW:MtR X "list.count" (rCountL X.K):=by
 intro pins s σ H x vs v us Q I rx rv h;erw[a,xs,z,1,1,hq,fs,fz,q]at h;cases rx;erw[u,1,ru]at rv.one;let%[its,r,%[%[cls,dd,data|sl],n,ho,hc,hdd|hd]|hz]:=I.list hq;simp only at hc hd;subst hc hd;refine call_meets F.slot_list_count %[_,ho|1] F.entry_list_count (F.args_list_count_2 _ _) (SeqAt.list_countAt a its.toArray n dd sl u (eqU z)) ⟨ho,λy hy=>?_,?_⟩
 . exact fX ru fz r fs y (by simpa using hy)
 . rw[show its.toArray.toList=its from rfl,tu r fs];erw[.int ((xs.countP λy=>eqV y z:Nat):Int),H,I.tok _,%[|0],q]
end
def dX(g:Nat->Int):Nat->Int
 | 0=>g 0
 | k+1=>if dX g k<g (k+1)then g (k+1)else dX g k
theorem wL(g:Nat->Int):∀n k,k<=n->g k<=dX g n
 | 0,k,h=>by
   have e:k=0:=by omega
   subst e;exact Int.le_refl _
 | n+1,k,h=>by
   unfold dX
   by_cases c:k=n+1
   . subst c
     split <;> omega
   . have:=wL g n k #[0]
     split <;> omega
def AY(ns:List Int)(d:Int):Int:=match ns with | []=>d | _::_=>dX (λi=>ns[i]?.getD 0) (ns.length-1)
theorem FG{ns:List Int}{x:Int}(h:x∈ns):x<=AY ns d:=by
 let%[i,hi|e]:=List.getElem_of_mem h;cases ns with
 | nil=>cases h
 | cons a r=>
   have:=wL (λi=>(a::r)[i]?.getD 0) ((a::r).length-1) i #[0]
   simp only[zM0 hi,Option.getD_some,e]at this;exact this
section
variable {prog:Program} {w:World} {A:Around} {R:Result->Shared->Prop} {I S:Addr} {fp wr:List Addr} {n:Nat} {P:Nat->Value->Prop} {St:Nat->Heap->Prop} {g:Nat->Int} {kw:List (Str×Value)}
theorem pX:(toString "max"++toString ".loop":String)="max.loop":=by decide
theorem DC(W:Walks prog w A.in1 I fp wr n P St)(gv:∀i v,P i v->∃t,v=Value.int (g i) t)(nS:S∉fp):∀(k j:Nat)(s:Shared)(t:Tok)(c:Nat),j+1+k=n->St (j+1) s.heap ->
 s.heap.get? S=some { cls:=.type "list",dict:=none,data:=.seq #[.int (dX g j) t,.int (dX g j) t] c,slots:=#[] } ->
 (∀t' h' tk,(∀b o,b∉wr->b≠S->s.heap.get? b=some o->h'.get? b=some o)->R (.ok (.ret (.int (dX g (n-1)) t'))) { s with heap:=h',toks:=tk }) ->
 codeAny (model prog w) A (.builtin "max.loop" %[[.ref I,.none,.ref S]|kw]) R s:=by
 have nw:S∉wr:=λz=>nS (W.sub _ z)
 intro k
 induction k with
 | zero=>
   intro j s t c ek st eS q;refine codeAny_builtin F.entry_max_loop ?_;rw[Around.under_plainId F.plain_max_loop _];show wpAny _ A.in1 (seqItems? (.ref S) >>= _) _ _ s;refine zD0 (wpAny_seqItems eS rfl ?_);show wpAny _ A.in1 (tryCatch (pyNext (.ref I)) _ >>= _) _ _ s;refine zD0 (wpAny_tryCatch (W.done s _ _ (by rw[←ek];exact st) λh' tk kp=>?_));show wpAny _ A.in1 (updateSeq S (λ_=>#[]) >>= _) _ _ _;refine zD0 ?_;refine wpAny_updateSeq (kp S _ nw eS) rfl (zD0 (wpAny_letGo (zI0 ?_)));have e:n-1=j:=by omega
   rw[e]at q;exact q t _ tk λb o h1 h2 eb=>(Heap.get?_update_other _ _ (Ne.symm h2)).trans (kp b o h1 eb)
 | succ k ih=>
   intro j s t c ek st eS q;refine codeAny_builtin F.entry_max_loop ?_;rw[Around.under_plainId F.plain_max_loop _];show wpAny _ A.in1 (seqItems? (.ref S) >>= _) _ _ s;refine zD0 (wpAny_seqItems eS rfl ?_);show wpAny _ A.in1 (tryCatch (pyNext (.ref I)) _ >>= _) _ _ s;refine zD0 (wpAny_tryCatch (W.item (j+1) s _ _ #[0] st λv h' tk pv st' kp=>?_));let%[tv|1]:=gv _ _ pv;have eS':=kp S _ nw eS;show wpAny _ A.in1 (tryCatch (holding [Value.int (g (j+1)) tv,Value.int (g (j+1)) tv] (richCompare .Gt (Value.int (g (j+1)) tv) (Value.int (dX g j) t) >>= _)) _ >>= _) _ _ _;refine zD0 (wpAny_tryCatch (wpAny_holding (zD0 (CmpOf.ints_gt (prog:=prog) (w:=w) (A:=A.in1) (P:=λi v=>∃t,v=Value.int (if i=0 then dX g j else g (j+1)) t) (λi=>if i=0 then dX g j else g (j+1)) (λi v h=>h) 1 0 _ _ _ _ _ %[tv|1] ⟨t,rfl⟩ ?_))));refine zD0 (wpAny_holding (wpAny_truthy_bool ?_));refine zD0 (wpAny_letGo (zI0 ?_))
   by_cases c1:dX g j<g (j+1)
   . have e1:dX g (j+1)=g (j+1):=by unfold dX;rw[zC0 c1]
     refine wpAny_ite_split (λ_=>?_) (λhab=>absurd (decide_eq_true c1) hab);refine zD0 ?_;refine wpAny_updateSeq eS' rfl (zD0 (wpAny_letGo ?_));rw[pX];refine zI0 %[plainId_quiet F.plain_max_loop _|ih (j+1) _ tv _ #[0] (W.frame _ _ _ st' λb hb o eb=>?_) (by rw[e1];exact Heap.get?_update_self _ eS' rfl) λt' h2 tk2 kp2=>?_]
     . exact(Heap.get?_update_other _ _ (λz:S=b=>nS (by rw[z];exact hb))).trans eb
     . exact q t' h2 tk2 λb o h1 h3 eb=>kp2 b o h1 h3 ((Heap.get?_update_other _ _ (Ne.symm h3)).trans (kp b o h1 eb))
   . have e1:dX g (j+1)=dX g j:=by unfold dX;rw[zA0 c1];cases j <;> rfl
     refine wpAny_ite_split (λhab=>absurd (of_decide_eq_true hab) c1) (λ_=>?_);refine zD0 (wpAny_letGo ?_);rw[pX];refine zI0 %[plainId_quiet F.plain_max_loop _|ih (j+1) _ t c #[0] st' (by rw[e1];exact eS') λt' h2 tk2 kp2=>?_];exact q t' h2 tk2 λb o h1 h3 eb=>kp2 b o h1 h3 (kp b o h1 eb)
theorem DD (W:Walks prog w A.in1 I fp wr n P St) (gv:∀i v,P i v->∃t,v=Value.int (g i) t) (nS:S∉fp) (hn:0<n) {s:Shared} {c:Nat} (st:St 0 s.heap) (eS:s.heap.get? S=some { cls:=.type "list",dict:=none,data:=.seq #[] c,slots:=#[] })
 (q:∀t' h' tk,(∀b o,b∉wr->b≠S->s.heap.get? b=some o->h'.get? b=some o)->R (.ok (.ret (.int (dX g (n-1)) t'))) { s with heap:=h',toks:=tk }) :
 codeAny (model prog w) A (.builtin "max.loop" %[[.ref I,.none,.ref S]|kw]) R s:=by
 have nw:S∉wr:=λz=>nS (W.sub _ z)
 refine codeAny_builtin F.entry_max_loop ?_;rw[Around.under_plainId F.plain_max_loop _];show wpAny _ A.in1 (seqItems? (.ref S) >>= _) _ _ s;refine zD0 (wpAny_seqItems eS rfl ?_);show wpAny _ A.in1 (tryCatch (pyNext (.ref I)) _ >>= _) _ _ s;refine zD0 (wpAny_tryCatch (W.item 0 s _ _ hn st λv h' tk pv st' kp=>?_));let%[tv|1]:=gv _ _ pv;have eS':=kp S _ nw eS;show wpAny _ A.in1 (updateSeq S (λ_=>#[Value.int (g 0) tv,Value.int (g 0) tv]) >>= _) _ _ _;refine zD0 ?_;refine wpAny_updateSeq eS' rfl ?_;rw[pX];refine zI0 %[plainId_quiet F.plain_max_loop _|DC W gv nS (n-1) 0 _ tv _ #[0] (W.frame _ _ _ st' λb hb o eb=>?_) (Heap.get?_update_self _ eS' rfl) λt' h2 tk2 kp2=>?_]
 . exact(Heap.get?_update_other _ _ (λz:S=b=>nS (by rw[z];exact hb))).trans eb
 . exact q t' h2 tk2 λb o h1 h3 eb=>kp2 b o h1 h3 ((Heap.get?_update_other _ _ (Ne.symm h3)).trans (kp b o h1 eb))
end
section
variable {X:Cx} {e k:Expr} {te tk:TE} {pos p1 kp:Pos}
inductive rMax1(K:W.Frag)(xs:List V)(H:Hp)(Q:VK):Prop
 |mk:∀a ns,xs=[.ref a]->SqL K H a (ns.map V.int)->ns≠[]->Q (.int (AY ns 0)) H->rMax1 K xs H Q
theorem tF (hc:X.calm=true):gC X (.builtin "max") (rMax1 X.K):=by
 intro pins s2 σ H2 xs us Q I2 r h;erw[a,ns,1,hq,hn,q]at h;let%[u,1|ru]:=jP r;cases ru;let%[its,r',p|hz]:=I2.list hq;have hl:=r'.length;rw[zF0]at hl;have hlt:a<s2.heap.objs.size:=by erw[o,n,e,_]at p;exact zN0 e
 refine call_function_tree F.kind_max F.plain_max F.entry_max (F.args_max1 _) ?_;show wpAny _ X.A.in1 (Builtin.Builtins.bindParams "max" ["key","default"] 0 %[[]|[]] >>= λ_=>_) _ _ s2;refine zD0 (wpAny_of_eq (a:=[none,none]) rfl ?_);refine zD0 (zI0 ?_);refine zD0 (wpAny_pyIter_list p.isList ?_);refine zD0 (wpAny_newObj_type ?_);rw[pX];have hne:a≠s2.heap.objs.size:=zV0 hlt;have W:=Walks.list (prog:=X.prog) (w:=X.w) (A:=X.A.in1) (I2.ok.hd hc) s2.heap.objs.size a hne its.toArray;have I3:Inv X pins σ H2 { s2 with heap:=s2.heap.push { cls:=.type "list_iterator",data:=.fields #[.ref a,.int 0 0] } }:=I2.kept (t':=s2.toks) λb o eb=>zR0 _ eb
 have I4:Inv X pins σ H2 { s2 with heap:=(s2.heap.push { cls:=.type "list_iterator",data:=.fields #[.ref a,.int 0 0] }).push { cls:=.type "list",data:=.seq #[] } }:=I3.kept (t':=s2.toks) λb o eb=>zR0 _ eb
 have hz1:∀o:Obj,(s2.heap.push o).objs.size=s2.heap.objs.size+1:=λo=>by simp [Heap.push]
 have nS:(s2.heap.push { cls:=.type "list_iterator",data:=.fields #[.ref a,.int 0 0] }).objs.size∉[s2.heap.objs.size,a]:=by
  intro hm;rcases zW0 hm with z | z
  . rw[hz1]at z;exact absurd z (Nat.succ_ne_self _)
  . have z:=zS0 z;rw[hz1]at z;exact absurd z (Nat.ne_of_gt (Nat.lt_succ_of_lt hlt))
 have gv:∀i v,its.toArray[i]?=some v->∃t,v=Value.int (ns[i]?.getD 0) t:=λi v hv=>by
  let%[b,t,hb|1]:=rF r' (i:=i) (v:=v) (by first | exact hv | simpa using hv | (rw[List.getElem?_toArray]at hv;exact hv));erw[t,by rw[hb];rfl]
 have n0:0<ns.length:=List.length_pos_iff.mpr hn;refine zI0 %[plainId_quiet F.plain_max_loop _|DD (g:=λi=>ns[i]?.getD 0) W gv nS (by rw[zQ0,←hl];exact n0) %[%[_,zR0 _ (qA0 _ rfl),1|1]|(p.isList.push _).push _] (qA0 _ rfl) λt' h' tk kp=>?_];rw[zQ0,←hl];have em:dX (λi=>ns[i]?.getD 0) (ns.length-1)=AY ns 0:=by
  cases ns with
  | nil=>exact absurd rfl hn
  | cons _ _=>rfl
 rw[em];erw[.int _,H2,6,%[|0],q];have J:=Inv.turnedL (h':=h') (t':=tk) (ch:=[s2.heap.objs.size,s2.heap.objs.size+1]) I4 (λb o hb eb=>kp b o (λz=>hb (by rw[zS0 z];exact qB0)) (λz=>hb (by rw[z,hz1];exact qJ0 _ qB0)) eb);refine J λb hb=>?_
 rcases zW0 hb with h | h
 . rw[h];exact I2.fpOk (zG0 _) (I2.hok.fresh (zG0 _))
 . rw[zS0 h];exact I2.fpOk (qN0 _) (I2.hok.fresh (qN0 _))
end
section
variable {prog:Program} {w:World} {A:Around} {E:Value->Shared->Prop} {s:Shared}
theorem yS{it t:Addr}{i:Nat}{items:Array Value}{x:Value}{Q:Value->Shared->Prop}(hit:s.heap.IsTupleIter it t i)(ht:s.heap.IsTuple t items)(hx:items[i]?=some x)
 (q:∀h',h'.IsTupleIter it t (i+1)->Heap.SameBut it s.heap h'->Q x { s with heap:=h' }):wpAny (model prog w) A (Builtin.SmallTypes.nextOf (.ref it)) Q E s:=by
 let%[o,ho,hc|hd]:=id hit;erw[ol,hol,_,nl,hdl]at ht;unfold Builtin.SmallTypes.nextOf;refine zD0 (wpAny_callSpecial?_slot (name:=Str.ofString "__next__") hit.typeIs F.slot_tuple_iterator_next (wpAny_call_entry F.slot_tuple_iterator_next hit.typeIs F.entry_tuple_iterator_next ?_ (F.args_tuple_iterator_next_1 _)));show wpAny _ _ (field (.ref it) 0 >>= _) _ _ s;refine zD0 (wpAny_field ho hd (x:=.ref t) rfl ?_);show wpAny _ _ (if(Value.ref t==Value.none)=true then _ else _) _ _ s;rw[zA0 (show ¬ ((Value.ref t==Value.none)=true)from qD0)];show wpAny _ _ (field (.ref it) 1 >>= _) _ _ s;refine zD0 (wpAny_field ho hd (x:=.int i 0) rfl ?_);show wpAny _ _ (seqItems? (.ref t) >>= _) _ _ s;refine zD0 (wpAny_seqItems hol hdl ?_);simp only[qS0,hx];refine zD0 (wpAny_setField ho hd (by simp) (zI0 %[x,1|zI0 (q _ ?_ (Heap.SameBut.update ..))]));erw[_,Heap.get?_update_self _ ho (Obj.isFreed_of_fields (Obj.data_mapFields hd _)),(Obj.cls_mapFields ..).trans hc,by rw[Obj.data_mapFields hd];simp [rawInt]]
theorem xf{it t:Addr}{i:Nat}{items:Array Value}{Q:Value->Shared->Prop}(hh:A.handled=none)(hit:s.heap.IsTupleIter it t i)(ht:s.heap.IsTuple t items)(hx:items[i]?=none)
 (q:∀h' e,Heap.ExtBut it s.heap h'->(∃o,h'.get? e=some o/\o.cls=.type "StopIteration")->E (.ref e) { s with heap:=h' }):wpAny (model prog w) A (Builtin.SmallTypes.nextOf (.ref it)) Q E s:=by
 let%[o,ho,hc|hd]:=id hit;erw[ol,hol,_,nl,hdl]at ht;unfold Builtin.SmallTypes.nextOf;refine zD0 (wpAny_callSpecial?_slot (name:=Str.ofString "__next__") hit.typeIs F.slot_tuple_iterator_next (wpAny_call_entry F.slot_tuple_iterator_next hit.typeIs F.entry_tuple_iterator_next ?_ (F.args_tuple_iterator_next_1 _)));show wpAny _ _ (field (.ref it) 0 >>= _) _ _ s;refine zD0 (wpAny_field ho hd (x:=.ref t) rfl ?_);show wpAny _ _ (if(Value.ref t==Value.none)=true then _ else _) _ _ s;rw[zA0 (show ¬ ((Value.ref t==Value.none)=true)from qD0)];show wpAny _ _ (field (.ref it) 1 >>= _) _ _ s;refine zD0 (wpAny_field ho hd (x:=.int i 0) rfl ?_);show wpAny _ _ (seqItems? (.ref t) >>= _) _ _ s;refine zD0 (wpAny_seqItems hol hdl ?_);simp only[qS0,hx]
 first
  | refine zD0 (wpAny_rule (zD0 (wpAny_setField ho hd (by simp) (zD0 (wpAny_letGo ?_)))))
  | refine zD0 (wpAny_rule (zD0 (wpAny_setField ho hd (by simp) ?_)))
 show wpAny _ _ (newExc (.type "StopIteration") [] >>= _) _ _ _;refine zD0 ?_;simp only[newExc,newTuple];refine zD0 (wpAny_newObj_type ?_ (by size_fits));refine zD0 (m:=firstArgMember _ _) (wpAny_of_eq (a:=Value.none) (by first | rfl | (simp only[firstArgMember];rfl)) ?_);refine wpAny_newObj_type ?_ (by size_fits);simp only[raiseNew];refine zD0 (wpAny_handled ?_)
 first | rw[show A.in1.handled=none from hh] | rw[hh]
 refine zD0 (zI0 (wpAny_throw ?_));exact q _ _ (((Heap.SameBut.update ..).extBut.push _).push _) %[_,qA0 _ rfl|1]
theorem Bt{e it t:Addr}{j:Nat}{i:Int}{old:Value}{items:Array Value}{Q:Option Value->Shared->Prop}(hh:A.handled=none)(he:IsEnum s.heap e it i old)(hit:s.heap.IsTupleIter it t j)(ht:s.heap.IsTuple t items)(hx:items[j]?=none)
 (q:∀h',Heap.ExtBut it s.heap h'->Q none { s with heap:=h' }):wpAny (model prog w) A (pyNext (.ref e)) Q E s:=by
 have hT:s.TypeIs (.ref e) "enumerate":=%[_,he|1]
 unfold pyNext;refine zD0 (wpAny_attempt (wpAny_callSpecial?_slot (name:=Str.ofString "__next__") hT F.slot_enumerate_next (wpAny_call_entry F.slot_enumerate_next hT F.entry_enumerate_next ?_ (F.args_enumerate_next_1 _))));show wpAny _ _ (field (.ref e) 2 >>= _) _ _ _;refine zD0 (wpAny_field he rfl (x:=.ref it) rfl ?_);refine zD0 (xf hh hit ht hx λh' x he' hx'=>?_);erw[o,ho,hc]at hx';refine zD0 (wpAny_isInstance (T:="StopIteration") (b:=true) %[o,ho|hc] isSubtype_stop ?_);exact zI0 (q h' he')
end
theorem Bv{prog:Program}{w:World}{A:Around}(hh:A.handled=none)(it l:Addr)(hne:l≠it)(items:Array Value):Draws prog w A it [it,l] items.size (λi v=>items[i]?=some v) (λi h=>h.IsTupleIter it l i/\h.IsTuple l items) where
 live:=λ_ _ st=>let⟨o,ho,_⟩:=st.1;%[o|ho]
 frame:=λ_ _ _ st k=>%[st.1.at λo e=>k it (by simp) o e|st.2.at λo e=>k l (by simp) o e]
 item:=λi s Q E hi st q=>by
  refine yS st.1 st.2 (x:=items[i]) (by simp [hi]) λh' a b=>?_
  exact q _ h' s.toks (by simp [hi]) %[a|st.2.extBut b.extBut hne] b
 done:=λs Q E st q=>xf hh st.1 st.2 (by simp) q
open AutoSeq1 (wpAny_loadPart') in
set_option maxHeartbeats 1000000 in
theorem wc(l:Addr)(items:Array Value)(n:Nat)(dct:Option Addr)(sl:Array (Option Value)) :
 Meets (Builtin.«enumerate.__new__» %[[.type "enumerate",.ref l]|[]]) (λ_ R s=>s.heap.get? l=some { cls:=.type "tuple",dict:=dct,data:=.seq items n,slots:=sl }/\
  R (.ok (.ret (.ref (s.heap.push { cls:=.type "tuple_iterator",data:=.fields #[.ref l,.int 0 0] }).objs.size)))
   { s with heap:=(s.heap.push { cls:=.type "tuple_iterator",data:=.fields #[.ref l,.int 0 0] }).push { cls:=.type "enumerate",data:=.fields #[.none,.bool false,.ref s.heap.objs.size,rawInt 0,.none,.none] } }):=
 .of_wp λprog w A R s h=>by
  erw[hp,g,d,tk,os]at s;erw[hl,h]at h;have hsub:=sub_enumerate;have hL:Heap.IsTuple (Shared.heap %[hp,g,d,tk|os]) l items:=⟨_,hl,rfl,n,rfl⟩
  wp_walk using wpAny_loadPart' hl
  refine wpAny_stack_any λst=>zI0 ?_
  split
  . rename_i c _ _ _ _ _;cases(c==Value.type "enumerate")
    . wp_walk using wpAny_loadPart' hl,wpAny_pyIter_tuple hL
      erw[0,h]
    . wp_walk using wpAny_loadPart' hl,wpAny_pyIter_tuple hL
      erw[0,h]
  . wp_walk using wpAny_loadPart' hl,wpAny_pyIter_tuple hL
    erw[0,h]
section
variable {prog:Program} {w:World} {A:Around} {E:Value->Shared->Prop} {s:Shared}
theorem yL{l:Addr}{items:Array Value}{Q:Value->Shared->Prop}(hL:s.heap.IsTuple l items)
 (q:∀h',IsEnum h' (s.heap.objs.size+1) s.heap.objs.size 0 .none->h'.IsTupleIter s.heap.objs.size l 0->(∀b o,s.heap.get? b=some o->h'.get? b=some o)->Q (.ref (s.heap.objs.size+1)) { s with heap:=h' }) :
 wpAny (model prog w) A (call (.type "enumerate") [.ref l]) Q E s:=by
 erw[%[c,dct,dt|sl],hl,hc,n,hd]at hL
 replace hc:c=.type "tuple":=hc
 replace hd:dt=.seq items n:=hd
 subst hc hd;refine callType_new F.called_enumerate ⋯ (F.typeCall_enumerate_1 _) (F.newCall_enumerate_1 _) (λobj=>F.args_object_init_2 obj _) F.entry_enumerate_new (wc l items n dct sl) %[hl|6];have hz:(s.heap.push { cls:=.type "tuple_iterator",data:=.fields #[.ref l,.int 0 0] }).objs.size=s.heap.objs.size+1:=Heap.size_push ..;show _/\_;rw[hz];have he:IsEnum ((s.heap.push { cls:=.type "tuple_iterator",data:=.fields #[.ref l,.int 0 0] }).push { cls:=.type "enumerate",data:=.fields #[.none,.bool false,.ref s.heap.objs.size,rawInt 0,.none,.none] }) (s.heap.objs.size+1) s.heap.objs.size 0 .none:=by
  have:=qA0 (s.heap.push { cls:=.type "tuple_iterator",data:=.fields #[.ref l,.int 0 0] }) (o:={ cls:=.type "enumerate",data:=.fields #[.none,.bool false,.ref s.heap.objs.size,rawInt 0,.none,.none] }) rfl
  rw[hz]at this;exact this
 erw[%[_,he|1],q _ he ⟨_,zR0 _ (qA0 _ rfl),rfl,rfl⟩ λb o x=>zR0 _ (zR0 _ x)]
end
def EB(K:W.Frag)(a:Addr):It:=
 ⟨λi H=>∃xs x,SqT K H a xs/\xs[i]?=some x,λi H y H'=>∃t,y=.ref t/\H t=none/\∀xs x,SqT K H a xs->xs[i]?=some x->H'=upd H t (.tup [.int i,x]),λi H=>∃xs,SqT K H a xs/\xs.length<=i⟩
theorem xa{K:W.Frag}{elts:List Expr}{k:Nat}{pos:Pos}(a e it:Addr)(hei:e≠it)(hai:a≠it)(hae:a≠e) :
 Turn P w K (.Tuple elts k pos) (EB K a) [e,it] e (λi h=>(∃old,IsEnum h e it i old)/\h.IsTupleIter it a i) where
 mem:=by simp
 obj:=λi h st b hb=>by
  erw[%[old|he],o,e2,c,d]at st;rcases zW0 hb with z | z
  . subst z;erw[_,he,λv z=>nomatch z]
  . have z':=zS0 z;subst z';erw[o,e2,λv z=>by rw[d]at z;cases z]
 keep:=λi h h' st k=>by
  erw[%[old|he],hit]at st;erw[%[old|k e (by simp) _ he],hit.at λo x=>k it (by simp) o x]
 item:=by
  intro X hP hw hK hc i pins s σ H E I hf st hg;subst hP hw hK;erw[xs,x,hq,hx]at hg;let%[its,rv,p|hz]:=I.tuple hq;let%[u,hu|ru]:=rv.get hx;erw[%[old|he],hit]at st;have hi:i<its.toArray.size:=by
   rw[zQ0];exact(zX0 hu).1
  refine wpAny_pyNext_enum_itemD (Bv (prog:=X.prog) (w:=X.w) (A:=X.A.in1) (I.ok.hd hc) it a hai its.toArray) he %[hit|p] hi hei (by simp [hei,Ne.symm hae]) λy h1 tk hy ho hst1 hT hsz hk=>?_
  have ey:y=u:=by
   have h1:its.toArray[i]?=some u:=by simpa using hu
   rw[h1]at hy;exact(zT0 hy).symm
  subst ey;erw[0,wpAny_letOwnedTupleGo_enum ho λh2 he2 hs2=>?_];have elt:e<s.heap.objs.size:=zN0 he;have hT2:h2.get? s.heap.objs.size=some { cls:=.type "tuple",data:=.seq #[.int i tk,y] }:=(hs2.2 _ (Ne.symm (zV0 elt))).trans hT;have I2:Inv X pins σ (upd H s.heap.objs.size (.tup [.int i,x])) { s with heap:=h2,toks:=tk+1 }:=by
   refine I.turnedNew (ch:=[e,it]) (λb ob hb eb=>?_) hf (zG0 _) %[by show 2<=sizeLine;decide,[.int i tk,y],.cons %[|0] (.cons ru .nil),%[_,hT2,1|0],_,hT2|1];have b1:b≠e:=λz=>hb (by simp [z])
   have b2:b≠it:=λz=>hb (by simp [z])
   exact(hs2.2 b b1).trans (hk b ob b1 b2 eb)
  erw[.ref s.heap.objs.size,_,I2,1,%[0,I.hok.fresh (zG0 _)|λys z hy hyi=>?_],%[%[y|by simpa using he2]|hst1.1.at λo z=>(hs2.2 it (Ne.symm hei)).trans z],λb hb=>?_]
  . have e1:=I.tuple_inj hy hq;subst e1;rw[hx]at hyi;cases hyi;rfl
  . have z:=hf b hb;have hlt:b<s.heap.objs.size:=by
     rcases zW0 hb with y | y
     . rw[y];exact elt
     . rw[zS0 y];erw[o,e2,_]at hit;exact zN0 e2
    rw[aG (zV0 hlt)];exact z.1
 done:=by
  intro X hP hw hK hc i pins s σ H E I hf st hg;subst hP hw hK;erw[xs,hq,hx]at hg;let%[its,rv,p|hz]:=I.tuple hq;erw[%[old|he],hit]at st;have hl:=rv.length;exact Bt (I.ok.hd hc) he hit p (Array.getElem?_eq_none (by simp;omega)) λh' eb=>%[1|I.turnedL (t':=s.toks) (ch:=[e,it]) (λb o hb eo=>eb b o (λz=>hb (by simp [z])) eo) hf]
 self:=λ_ _ _ _ _ st h=>by
  erw[%[old|he],_]at st;exact wpAny_pyIter_enum he h
section
variable {X:Cx} {elts:List Expr} {k:Nat} {tpos:Pos}
inductive ZiEnumT(K:W.Frag)(R:(It->Hp->Prop))(x:V)(H1:Hp):Prop
 |mk:∀a,x=.ref a->(∃xs,SqT K H1 a xs)->R (EB K a) H1->ZiEnumT K R x H1
def HV(K:W.Frag)(tl:TE):TI:=λσ H R=>tl σ H λx H1=>ZiEnumT K R x H1
theorem vH   {p pos:Pos} (hg:Gl X "enumerate") (hm:X.mg "enumerate"=none) (hl:PE X l tl) (hs:starEach [l] X.env=[(false,eval l X.env)]:=by rfl) :
 PI X (.Tuple elts k tpos) (.Call (.Name "enumerate" p) [l] [] pos) (HV X.K tl):=by
 intro pins s σ H R I h;refine Call_ (iq I hg hm boot_enumerate (PyProof.Rows.callWith_type1 ?_ hs rfl));rw[hs];show wpAny _ _ (spliced ((false,eval l X.env)::backTo pos (starEach [] X.env))) _ _ s;refine Calls.spliced_cons (thn (hl pins s σ H _ I h) λu s1 ⟨x,H1,I1,r1,a,ex,⟨xs,hq⟩,q⟩=>?_);subst ex;cases r1;let%[its,rv,p|hz]:=I1.tuple hq;have alt:=p.lt;refine Calls.spliced_nil ?_;refine yL p λh' he hit hk=>?_
 refine wpAny_pyIter_enum he ?_;have I2:Inv X pins σ H1 { s1 with heap:=h' }:=I1.kept (t':=s1.toks) hk;erw[s1.heap.objs.size+1,[s1.heap.objs.size+1,s1.heap.objs.size],_,_,H1,1,I2,xa a _ _ (Nat.ne_of_gt (Nat.lt_succ_self _)) (zV0 alt) (zV0 (Nat.lt_succ_of_lt alt)),%[%[_|he]|hit],λb hb=>?_,q];rcases zW0 hb with z | z
 . rw[z];exact I1.fpOk (qN0 _) (I1.hok.fresh (qN0 _))
 . rw[zS0 z];exact I1.fpOk (zG0 _) (I1.hok.fresh (zG0 _))
end
theorem sZ{K:W.Frag}{xs:List V}{g:TG}{tb:TS}{D:Ends}{σ:St}{H:Hp}(Pv:Nat->St->Hp->Prop)(h0:Pv 0 σ H)(hl:∀i σ H,i<=xs.length->Pv i σ H->SqT K H a xs)
 (hs:∀i x σ H t,xs[i]?=some x->Pv i σ H->H t=none->g (.ref t) σ (upd H t (.tup [.int i,x])) λσ2 H2=>tb { D with nx:=Pv (i+1),ct:=Pv (i+1),bk:=D.nx } σ2 H2) (hd:∀ σ H,Pv xs.length σ H->D.nx σ H) :
 ∃ W:Nat->Nat->St->Hp->Prop,(∃m,W 0 m σ H)/\∀i m σ H,W i m σ H ->
  ((EB K a).stop i H/\D.nx σ H)∨((EB K a).go i H/\∃N:St->Hp->Prop,(∀ σ' H',N σ' H'->∃m',m'<m/\W (i+1) m' σ' H')/\∀x H',(EB K a).yld i H x H'->g x σ H' λσ2 H2=>tb { D with nx:=N,ct:=N,bk:=D.nx } σ2 H2):=by
 erw[λi m σ H=>m=xs.length-i/\i<=xs.length/\Pv i σ H,%[xs.length,by simp,zU0 _|h0],6];rintro i m σ H ⟨rfl,hi,p⟩;have q:=hl i σ H hi p
 by_cases hlt:i<xs.length
 . refine .inr %[%[xs,xs[i],q|by simp [hlt]],Pv (i+1),λσ' H' p'=>%[xs.length-(i+1),3,1,hlt|p']|λx H' y=>?_];erw[t,1,ht,e]at y;have e':=e xs xs[i] q (by simp [hlt]);subst e';exact hs i xs[i] σ H t (by simp [hlt]) p ht
 . have e:i=xs.length:=by omega
   subst e;exact .inl %[%[xs,q|zG0 _]|hd σ H p]
def ItV(K:W.Frag)(a:Addr)(xs:List V):It:=%[λi H=>SqL K H a xs/\i<xs.length,λi H y H'=>H'=H/\xs.reverse[i]?=some y|λi _=>xs.length<=i]
theorem zS{K:W.Frag}(a it:Addr)(xs:List V):Turn P w K tg (ItV K a xs) [it] it (λi h=>i<=xs.length/\h.IsRevIter it a ((xs.length:Int)-1-(i:Int))) where
 mem:=by simp
 obj:=λi h st b hb=>by
  have e:b=it:=by simpa using hb
  subst e;erw[_,o,e,c,d]at st;erw[o,e,λv z=>by rw[d]at z;cases z]
 keep:=λi h h' st k=>%[st.1|st.2.at λo e=>k it (by simp) o e]
 item:=by
  intro X hP hw hK hc i pins s σ H E I hf st hg;subst hP hw hK;erw[hq,hi]at hg;let%[its,rv,p|hz]:=I.list hq;have hj:xs.length-1-i<xs.length:=by omega
  have hx:xs[xs.length-1-i]?=some xs[xs.length-1-i]:=zM0 hj;let%[u,hu|ru]:=rv.get hx;let%[f0,f1,f2,f3,f4|f5]:=hf it (by simp);erw[_,hit]at st;have e1:((xs.length:Int)-1-(i:Int))=((xs.length-1-i:Nat):Int):=by omega
  rw[e1]at hit;refine wpAny_pyNext_rev_item hit p.isList (x:=u) (by simpa using hu) λh' st' sb=>?_
  have I1:Inv X pins σ H { s with heap:=h' }:=I.turned (t':=s.toks) (λb o hb e=>(sb.2 b hb).trans e) f0 f1 f3 f4 f5;have e2:((xs.length-1-i:Nat):Int)-1=(xs.length:Int)-1-((i+1:Nat):Int):=by omega
  rw[e2]at st';let%[o,e,c|d]:=id st';erw[u,1,wy (s:={ s with heap:=h' }) e c d ⋯ ⟨xs[xs.length-1-i],H,I1,ru,⟨rfl,?_⟩,⟨by omega,st'⟩,λb hb=>(hf b hb).1⟩];rw[List.getElem?_reverse hi,hx]
 done:=by
  intro X hP hw hK hc i pins s σ H E I hf st hg;subst hP hw hK;have hg:xs.length<=i:=hg;let%[f0,f1,f2,f3,f4|f5]:=hf it (by simp);erw[hi,hit]at st;have e1:(xs.length:Int)-1-(i:Int)=-1:=by omega
  rw[e1]at hit;exact wpAny_pyNext_rev_end (I.ok.hd hc) hit λh' eb=>%[1|I.turned (t':=s.toks) (λb o hb e=>eb b o hb e) f0 f1 f3 f4 f5]
 self:=λ_ _ _ _ _ st h=>wpAny_pyIter_revIter st.2 h
theorem Ec{K:W.Frag}{xs:List V}{g:TG}{tb:TS}{D:Ends}{σ:St}{H:Hp}(Pv:Nat->St->Hp->Prop)(h0:Pv 0 σ H)(hl:∀i σ H,i<=xs.length->Pv i σ H->SqL K H a xs)
 (hs:∀i x σ H,i<xs.length->xs.reverse[i]?=some x->Pv i σ H->g x σ H λσ2 H2=>tb { D with nx:=Pv (i+1),ct:=Pv (i+1),bk:=D.nx } σ2 H2) (hd:∀ σ H,Pv xs.length σ H->D.nx σ H) :
 ∃ W:Nat->Nat->St->Hp->Prop,(∃m,W 0 m σ H)/\∀i m σ H,W i m σ H ->
  ((ItV K a xs).stop i H/\D.nx σ H)∨((ItV K a xs).go i H/\∃N:St->Hp->Prop,(∀ σ' H',N σ' H'->∃m',m'<m/\W (i+1) m' σ' H')/\∀x H',(ItV K a xs).yld i H x H'->g x σ H' λσ2 H2=>tb { D with nx:=N,ct:=N,bk:=D.nx } σ2 H2):=by
 erw[λi m σ H=>m=xs.length-i/\i<=xs.length/\Pv i σ H,%[xs.length,by simp,zU0 _|h0],6];rintro i m σ H ⟨rfl,hi,p⟩;have q:=hl i σ H hi p
 by_cases hlt:i<xs.length
 . refine .inr %[%[q|hlt],Pv (i+1),λσ' H' p'=>%[xs.length-(i+1),3,1,hlt|p']|λx H' y=>?_];erw[e,ex]at y;subst e;exact hs i x σ _ hlt ex p
 . have e:i=xs.length:=by omega
   subst e;exact .inl %[zG0 _|hd σ H p]
theorem AW {X:Cx} (K:W.Frag) (h:X.K=K:=by rfl):MtR X "list.count" (rCountL K):=by subst h;exact vW
section
variable {X:Cx} {o e:Expr} {es:List Expr} {to ta:TE} {t:TA} {T id:String} {name f:Str} {r:V->List V->Hp->VK->Prop} {apos cpos pos:Pos}
theorem Hx (K:W.Frag) (pa:PlainAttrs T) (slot:Slot T name id) (hty:typeOf (.builtin id)=pure (.type "method_descriptor")) (hm:MtR X id r) (ho:PE X o to) (ha:PA X (e::es) t) (hK:X.K=K:=by rfl)
 (hbase:attributeBase o name X.env (eval o X.env)=eval o X.env:=by rfl)
 (hfew:((backTo cpos (starEach (e::es) X.env)).all (λx=>!x.1)&&(backToKw cpos (keywordEach [] X.env)).all (λx=>x.1.isSome)&&decide ((e::es).length+([]:List Keyword).length+(if([]:List Keyword).isEmpty then 0 else 1)<30))=true:=by rfl)
 (hline:(apos.endLine==cpos.line)=true:=by rfl) (hs:starEach (e::es) X.env=(false,eval e X.env)::starEach es X.env:=by rfl) (hplain:(backTo cpos (starEach es X.env)).any (·.1)=false:=by rfl) :
 PE X (.Call (.Attribute o name apos) (e::es) [] cpos) (tBM K T r to t):=by subst hK;exact dw pa slot hty hm ho ha hbase hfew hline hs hplain
theorem jz(K:W.Frag)(he:PE X e ta)(hK:X.K=K:=by rfl)(hb:attributeBase e f X.env (eval e X.env)=eval e X.env:=by rfl):PE X (.Attribute e f pos) (tFld K ta f):=by subst hK;exact aD he hb
end
@[reducible] def cxCompO (X:Cx) (x:Str) (N:List Str) (scope:Scope) (cl:List (Str×Addr)) (s:Shared) (H:Hp) (fp:List Addr):Cx where
 prog:=X.prog
 w:=X.w
 K:=X.K
 mg:=X.mg
 base:=X.base
 A:=X.A
 N:=x::N
 s₀:=s
 H₀:=H
 env:=compEnvC scope ((x,s.heap.objs.size+1)::cl) s.heap.objs.size X.env
 outer:=X.stack
 stack:=X.stack
 ex:=fp
 fn:=λy=>y==x
 calm:=X.calm
 pn:=[]
 xe:=λ_ _=>False
theorem CompScope.four{X:Cx}{x y z u v:Str}{scope:Scope}{k l m n:Nat}{c d e g:Addr}{cl:List (Str×Addr)}(c1:closureFor scope X.env=pure cl)(c2:∀y∈scope.names,y.2≠.cell)(c3:scope.kind=.function)(c4:∀y∈scope.names,y.2=.local->scope.names.lookup y.1=some .local)
 (c5:scope.names.lookup x=some .local) (nd:[x,y,z,u,v].Nodup) (hcl:cl=[(y,c),(z,d),(u,e),(v,g)]) (hc:X.env.cells.lookup y=some c) (hd:X.env.cells.lookup z=some d) (he:X.env.cells.lookup u=some e) (hg:X.env.cells.lookup v=some g) (c6:((relabel scope X.env).names.all λp=>!(p.2==.cell||p.2==.free)||(cl.lookup p.1).isSome)=true)
 (hr:(relabel scope X.env).names.lookup y=some .cell) (hk:X.N[k]?=some y) (hs:X.env.scope.names.lookup y=some .cell)
 (hr2:(relabel scope X.env).names.lookup z=some .cell) (hk2:X.N[l]?=some z) (hs2:X.env.scope.names.lookup z=some .cell)
 (hr3:(relabel scope X.env).names.lookup u=some .cell) (hk3:X.N[m]?=some u) (hs3:X.env.scope.names.lookup u=some .cell)
 (hr4:(relabel scope X.env).names.lookup v=some .cell) (hk4:X.N[n]?=some v) (hs4:X.env.scope.names.lookup v=some .cell):CompScope X x [y,z,u,v] [k,l,m,n] scope cl where
 clos:=c1
 nocell:=c2
 kind:=c3
 names:=c4
 own:=c5
 nd:=nd
 sub:=λp hp=>by
  subst hcl;rcases zW0 hp with h | h
  . rw[h];assumption
  . rcases zW0 h with h | h
    . rw[h];assumption
    . rcases zW0 h with h | h
      . rw[h];assumption
      . rw[zS0 h];assumption
 has:=c6
 outs:=λj w h=>by
  have nyz:y≠z:=λe=>by simp [e]at nd
  have nyu:y≠u:=λe=>by simp [e]at nd
  have nyv:y≠v:=λe=>by simp [e]at nd
  have nzu:z≠u:=λe=>by simp [e]at nd
  have nzv:z≠v:=λe=>by simp [e]at nd
  have nuv:u≠v:=λe=>by simp [e]at nd
  subst hcl
  match j,h with
  | 0,h=>
    have e:y=w:=zT0 h;subst e;erw[hr,k,c,1,hk,by simp [List.lookup],hs]
  | 1,h=>
    have e:z=w:=zT0 h;subst e
    have:(z==y)=false:=by simpa using Ne.symm nyz
    erw[hr2,l,d,1,hk2,by simp [List.lookup,this],hs2]
  | 2,h=>
    have ew:u=w:=zT0 h;subst ew;have h1:(u==y)=false:=by simpa using Ne.symm nyu
    have h2:(u==z)=false:=by simpa using Ne.symm nzu
    erw[hr3,m,e,1,hk3,by simp [List.lookup,h1,h2],hs3]
  | 3,h=>
    have ew:v=w:=zT0 h;subst ew;have h1:(v==y)=false:=by simpa using Ne.symm nyv
    have h2:(v==z)=false:=by simpa using Ne.symm nzv
    have h3:(v==u)=false:=by simpa using Ne.symm nuv
    erw[hr4,n,g,1,hk4,by simp [List.lookup,h1,h2,h3],hs4]
  | j+4,h=>simp at h
end L2
namespace L2
open PySem PySem.Spec PyProof.Rows PySem.Builtin PySem.Builtin.Str
section
variable {prog:Program} {w:World} {A:Around} {E:Value->Shared->Prop} {s:Shared} {Q:Value->Shared->Prop} {x:PySem.Str} {t:Tok}
theorem xj{y:PySem.Str}{u:Tok}(hy:(y.length==0)=false)
 (h:∀l k,l.map (·.1)=Txt.split x y->Q (.ref s.heap.objs.size) { s with heap:=s.heap.push { cls:=.type "list",data:=.seq (strValues l).toArray },toks:=k })
 (hsz:x.length+2<=sizeLine):wpAny (model prog w) A (call (.builtin "str.split") [.str x t,.str y u]) Q E s:=by
 have hn:(partsBetween x (occurrences x y 0 x.length (x.length+1)) y.length).length<=sizeLine:=by
  have e1:=StrLaws.occ_length_le x y 0 x.length (x.length+1);rw[length_partsBetween];omega
 cases h1:(decide (x.length<y.length)||decide (strKind x<strKind y))
 . cases hf:(occurrences x y 0 x.length (x.length+1)).isEmpty
   . refine call_meets F.slot_str_split (typeIs_str _ _ _) F.entry_str_split (F.args_str_split_2 _ _) (meets_str_split_sep x y t u h1 hy hf #[0] hn) ?_;show wants Q E _ { s with toks:=_,heap:=s.heap.push { cls:=.type "list",data:=.seq (strsFrom s.toks (partsBetween x (occurrences x y 0 x.length (x.length+1)) y.length)).toArray } };rw[strsFrom_eq];exact h (numbered s.toks _) _ ((numbered_texts _ _).trans ((zA0 (ne_true_of_eq_false h1)).trans (zA0 (ne_true_of_eq_false hf))).symm)
   . exact call_meets F.slot_str_split (typeIs_str _ _ _) F.entry_str_split (F.args_str_split_2 _ _) (meets_str_split_not_found x y t u h1 hy hf)
      (h [(x,t)] s.toks ((zA0 (ne_true_of_eq_false h1)).trans (zC0 hf)).symm)
 . exact call_meets F.slot_str_split (typeIs_str _ _ _) F.entry_str_split (F.args_str_split_2 _ _) (meets_str_split_cannot_occur x y t u h1)
    (h [(x,t)] s.toks (zC0 h1).symm)
end
theorem yX:∀l:List (PySem.Str×Tok),Vals ((l.map (·.1)).map V.str) (strValues l)
 | []=>.nil
 | (x,t)::r=>.cons %[t|1] (yX r)
section
variable {X:Cx}
inductive rSplit(x:V)(vs:List V)(H:Hp)(Q:VK):Prop
 |mk:∀z u,x=.str z->vs=[.str u]->0<u.length->z.length<=100000->(Txt.split z u).length<=100000->(∀p,H p=none->Q (.ref p) (upd H p (.lst ((Txt.split z u).map V.str))))->rSplit x vs H Q
theorem DE:MtR X "str.split" rSplit:=by
 intro pins s σ H x vs v us Q I rx rv h;erw[z,u,1,1,hu,hz,hl,q]at h;erw[t,1]at rx;erw[w',1,t',1]at rv.one;have sl:sizeLine=16777216:=sizeLine_eq;refine xj (by rw[beq_eq_false_iff_ne];omega) (λl k e=>?_) #[0];have r:=yX l;rw[e]at r;erw[.ref _,_,I.lnew (t':=k) r (by rw[zF0];omega),1,q _ I.fresh]
theorem lr:gC X (.type "int") (λxs H Q=>∃x n,xs=[.str x]/\PySem.intText? x=some n/\x.length<=640/\Q (.int n) H):=by
 intro pins s σ H xs us Q I r h;erw[x,n,1,e,hl,q]at h;let%[u,1,t|1]:=jP r;exact PySem.W.KIN.call_text e hl %[.int n,H,I.tok _,%[|0]|q]
end
end L2
namespace HT
open PySem PyProof.Rows
section
variable {prog:Program} {w:World} {A:Around} {E:Value->Shared->Prop} {s:Shared}
theorem getItem_tuple_whole{t sl:Addr}{items:Array Value}{vl vu:Value}{lo hi:Option Int}{Q:Value->Shared->Prop}(ht:IsTup s.heap t items)(hs:s.heap.IsSliceOf sl vl vu .none)(pl:IsPart vl lo)(pu:IsPart vu hi)
 (hw:sIx items.size 0 lo=0/\sIx items.size items.size hi=items.size) (h:Q (.ref t) s):wpAny (model prog w) A (getItem (.ref t) (.ref sl)) Q E s:=by
 let%[os,hos,hcs|hds]:=id hs;have hTs:s.TypeIs (.ref sl) "slice":=%[os,hos|hcs]
 unfold getItem
 try with_reducible refine wpAny_holding ?_
 first | refine zD0 (zI0 ?_) | skip
 refine zD0 (wpAny_sequenceKey ht.typeIs ⋯ ?_);refine zD0 (wpAny_callSpecial?_slot (name:=Str.ofString "__getitem__") ht.typeIs PyProof.Rows.slot_tuple_getitem
  (wpAny_call_entry PyProof.Rows.slot_tuple_getitem ht.typeIs entry_tuple_getitem ?_ (args_tuple_getitem _ _)))
 show wpAny _ _ (Builtin.Tuple.tupleItemsOf (.ref t) >>= _) _ _ s;refine zD0 (tupleItemsOf_ ht ?_);refine zD0 (wpAny_typeOf hTs ?_);rw[zC0 ⋯];refine zD0 (iO hs pl pu ?_);have hyes:(((sIx items.size 0 lo:Nat):Int)==0&&(1:Int)==1&&(sIx items.size items.size hi-sIx items.size 0 lo)==items.size)=true:=by
  rw[hw.1,hw.2,Nat.sub_zero]
  simp
 show wpAny _ _ (if(((sIx items.size 0 lo:Nat):Int)==0&&(1:Int)==1&&(sIx items.size items.size hi-sIx items.size 0 lo)==items.size)=true then _ else _) _ _ s;rw[zC0 hyes];refine zD0 ?_;unfold Builtin.Tuple.tupleIsExact;refine zD0 (wpAny_typeOf ht.typeIs (zI0 ?_));rw[zC0 ⋯]
 first
  | exact zD0 (wpAny_rule (zI0 ⟨_,rfl,zI0 h⟩))
  | (refine zI0 ?_;erw[0,zI0 h])
  | (refine zD0 (zI0 ?_);refine zI0 ?_;erw[0,zI0 h])
  | (refine zD0 (zI0 ?_);refine zD0 (zI0 ?_);refine zI0 ?_;erw[0,zI0 h])
  | (refine zD0 (zD0 (zI0 ?_));refine zI0 ?_;erw[0,zI0 h])
end
end HT
namespace L2
open PySem PySem.Spec PyProof.Rows
section
variable {X:Cx}
inductive rSlTW(K:W.Frag)(x:V)(lo:Option Int)(hi:Option Int)(H:Hp)(Q:VK):Prop
 |mk:∀a xs,x=.ref a->SqT K H a xs->HT.sIx xs.length 0 lo=0/\HT.sIx xs.length xs.length hi=xs.length->Q (.ref a) H->rSlTW K x lo hi H Q
theorem EY:SlR X (rSlTW X.K):=by
 intro pins s σ H x v vl vu lo hi sl Q I rx hs pl pu h;erw[a,xs,1,hx,hw,q]at h;cases rx;let%[its,r,ht|hz]:=I.tuple hx;have hlen:its.toArray.size=xs.length:=by rw[zQ0];exact r.length.symm
 erw["tuple",_,PyProof.Rows.slot_tuple_getitem.lookup,ht.typeIs,6];exact HT.getItem_tuple_whole ht hs pl pu (by rw[hlen];exact hw) ⟨.ref a,H,I,rfl,q⟩
theorem yJ{xs:List V}{lo hi:Option Int}(hw:HT.sIx xs.length 0 lo=0/\HT.sIx xs.length xs.length hi=xs.length):iM xs lo hi=xs:=by
 unfold iM;rw[hw.1,hw.2,List.drop_zero,Nat.sub_zero,qF0]
inductive rSlTA(K:W.Frag)(x:V)(lo:Option Int)(hi:Option Int)(H:Hp)(Q:VK):Prop
 |mk:∀a xs,x=.ref a->SqT K H a xs->H a=some (.tup xs)->(∀p H',Same H H'->H' p=some (.tup (iM xs lo hi))->Q (.ref p) H')->rSlTA K x lo hi H Q
theorem yZ:SlR X (rSlTA X.K):=by
 intro pins s σ H x v vl vu lo hi sl Q I rx hs pl pu h;erw[a,xs,1,hx,ha,q]at h
 by_cases hw:HT.sIx xs.length 0 lo=0/\HT.sIx xs.length xs.length hi=xs.length
 . exact EY pins s σ H _ v vl vu lo hi sl Q I rx hs pl pu %[a,xs,1,hx,hw|q a H (Same.refl _) (by rw[yJ hw];exact ha)]
 . exact tS pins s σ H _ v vl vu lo hi sl Q I rx hs pl pu %[a,xs,1,hx,hw|λp hp=>q p _ (zE0 hp _) am]
end
def SqIt(h:Heap)(i l:Addr)(k:Nat)(xs:Array Value):Prop:=(h.IsListIter i l k/\h.IsList l xs)∨(h.IsTupleIter i l k/\h.IsTuple l xs)
theorem SqIt.at{h':Heap}(q:SqIt h i l k xs)(e1:∀o,h.get? i=some o->h'.get? i=some o)(e2:∀o,h.get? l=some o->h'.get? l=some o):SqIt h' i l k xs:=by
 rcases q with⟨a,b⟩ | ⟨a,b⟩
 . exact .inl %[a.at e1|b.at e2]
 . exact .inr %[a.at e1|b.at e2]
theorem SqIt.ext{h':Heap}{c:Addr}(q:SqIt h i l k xs)(e:Heap.ExtBut c h h')(n1:i≠c)(n2:l≠c):SqIt h' i l k xs:=q.at (λo z=>e _ o n1 z) (λo z=>e _ o n2 z)
section
variable {prog:Program} {w:World} {A:Around} {E:Value->Shared->Prop} {s:Shared}
theorem tQ{x:Value}{Q:Value->Shared->Prop}(q:SqIt s.heap i l k xs)(n:l≠i)(hx:xs[k]?=some x)
 (hQ:∀h',SqIt h' i l (k+1) xs->Heap.SameBut i s.heap h'->Q x { s with heap:=h' }):wpAny (model prog w) A (Builtin.SmallTypes.nextOf (.ref i)) Q E s:=by
 rcases q with⟨a,b⟩ | ⟨a,b⟩
 . exact wpAny_nextOf_list_item a b hx λh' a' e=>hQ h' (.inl %[a'|b.extBut e.extBut n]) e
 . exact yS a b hx λh' a' e=>hQ h' (.inr %[a'|b.extBut e.extBut n]) e
theorem Ce{Q:Value->Shared->Prop}(hh:A.handled=none)(q:SqIt s.heap i l k xs)(hx:xs[k]?=none)
 (hE:∀h' e,Heap.ExtBut i s.heap h'->(∃o,h'.get? e=some o/\o.cls=.type "StopIteration")->E (.ref e) { s with heap:=h' }):wpAny (model prog w) A (Builtin.SmallTypes.nextOf (.ref i)) Q E s:=by
 rcases q with⟨a,b⟩ | ⟨a,b⟩
 . exact wpAny_nextOf_list_end hh a b hx hE
 . exact xf hh a b hx hE
theorem EE{z TI TO i1 i2 l1 l2:Addr}{x y a b:Value}{Q:Option Value->Shared->Prop}(D:ZipApart z TI TO i1 i2 l1 l2)
 (hz:IsZip s.heap z TI TO .none) (hTI:IsPair s.heap TI (.ref i1) (.ref i2)) (hTO:IsPair s.heap TO a b) (h1:SqIt s.heap i1 l1 k1 xs) (h2:SqIt s.heap i2 l2 k2 ys) (hx:xs[k1]?=some x) (hy:ys[k2]?=some y)
 (hQ:∀h',IsZip h' z TI TO (rawInt s.heap.objs.size)->IsPair h' TO x y->SqIt h' i1 l1 (k1+1) xs->SqIt h' i2 l2 (k2+1) ys->IsPair h' s.heap.objs.size x y ->
  (∀c o,c≠z->c≠TO->c≠i1->c≠i2->s.heap.get? c=some o->h'.get? c=some o)->Q (some (.ref s.heap.objs.size)) { s with heap:=h' }) :
 wpAny (model prog w) A (pyNext (.ref z)) Q E s:=by
 have hT:s.TypeIs (.ref z) "zip":=%[_,hz|1]
 unfold pyNext;refine zD0 (wpAny_attempt (wpAny_callSpecial?_slot (name:=Str.ofString "__next__") hT F.slot_zip_next (wpAny_call_entry F.slot_zip_next hT F.entry_zip_next ?_ (F.args_zip_next_1 _))));show wpAny _ _ (field (.ref z) 2 >>= _) _ _ _;refine zD0 (wpAny_field hz rfl (x:=.bool false) rfl ?_);show wpAny _ _ (field (.ref z) 3 >>= _) _ _ _;refine zD0 (wpAny_field hz rfl (x:=.ref TI) rfl (zD0 (wpAny_seqItems hTI rfl ?_)));show wpAny _ _ (Builtin.SmallTypes.ownedTupleIsFree (.ref z) >>= _) _ _ _;refine zD0 ?_;unfold Builtin.SmallTypes.ownedTupleIsFree;refine zD0 (wpAny_field hz rfl (x:=.none) rfl (zI0 ?_));simp only[if_true];refine zD0 (wpAny_rule (zD0 (wpAny_field hz rfl (x:=.ref TO) rfl (zD0 (wpAny_setField_rec hz (by simp) λha za sa=>zD0 ?_)))))
 replace za:IsZip ha z TI TO .ellipsis:=za
 simp only[List.zipIdx_cons,List.zipIdx_nil,List.forIn_cons,List.forIn_nil];refine zD0 (zD0 (wpAny_onRaise ?_));show wpAny _ _ (Builtin.SmallTypes.nextOf (.ref i1) >>= _) _ _ _;refine zD0 (tQ (h1.ext sa.extBut D.i1z D.l1z) D.l1i1 hx λhb q1 sb=>zI0 ?_);have TOb:IsPair hb TO a b:=sb.extBut _ _ D.TOi1 (sa.extBut _ _ D.TOz hTO);refine zD0 (wpAny_seqItems TOb rfl (zD0 (wpAny_updateSeq_pair TOb λhc TOc sc=>?_)))
 replace TOc:IsPair hc TO x b:=TOc
 refine zD0 (wpAny_letGo (zI0 (zD0 (zD0 (wpAny_onRaise ?_)))));show wpAny _ _ (Builtin.SmallTypes.nextOf (.ref i2) >>= _) _ _ _;refine zD0 (tQ (((h2.ext sa.extBut D.i2z D.l2z).ext sb.extBut D.i12.symm D.l2i1).ext sc.extBut D.TOi2.symm D.l2TO) D.l2i2 hy λhd q2 sd=>zI0 ?_);have TOd:IsPair hd TO x b:=sd.extBut _ _ D.TOi2 TOc;refine zD0 (wpAny_seqItems TOd rfl (zD0 (wpAny_updateSeq_pair TOd λhe TOe se=>?_)))
 replace TOe:IsPair he TO x y:=TOe
 refine zD0 (wpAny_letGo (zI0 (zI0 (zD0 (wpAny_seqItems TOe rfl (zD0 (wpAny_newTuple ?_)))))));have sz:he.objs.size=s.heap.objs.size:=by rw[se.1,sd.1,sc.1,sb.1,sa.1]
 have ze:IsZip he z TI TO .ellipsis:=se.extBut _ _ D.TOz.symm (sd.extBut _ _ D.i2z.symm (sc.extBut _ _ D.TOz.symm (sb.extBut _ _ D.i1z.symm za)));have ke:∀c o,c≠z->c≠TO->c≠i1->c≠i2->s.heap.get? c=some o->he.get? c=some o:=λc o c1 c2 c3 c4 e=>se.extBut _ _ c2 (sd.extBut _ _ c4 (sc.extBut _ _ c2 (sb.extBut _ _ c3 (sa.extBut _ _ c1 e))))
 have q1e:=((q1.ext sc.extBut D.TOi1.symm D.l1TO).ext sd.extBut D.i12 D.l1i2).ext se.extBut D.TOi1.symm D.l1TO;have q2e:=q2.ext se.extBut D.TOi2.symm D.l2TO;have zlt:z<he.objs.size:=zN0 ze;show wpAny _ _ (Builtin.SmallTypes.ownedTupleHandOut (.ref z) (.ref he.objs.size) >>= _) _ _ _;refine zD0 ?_;unfold Builtin.SmallTypes.ownedTupleHandOut;have zf:IsZip (he.push { cls:=.type "tuple",data:=.seq #[x,y] }) z TI TO .ellipsis:=zR0 _ ze;refine zD0 (wpAny_setField_rec zf (by simp) λhg zg sg=>?_)
 replace zg:IsZip hg z TI TO (rawInt he.objs.size):=zg
 refine wpAny_setField_rec zg (by simp) λhi zi si=>?_
 replace zi:IsZip hi z TI TO (rawInt he.objs.size):=zi
 have up:∀c o,c≠z->he.get? c=some o->hi.get? c=some o:=λc o c1 e=>si.extBut _ _ c1 (sg.extBut _ _ c1 (zR0 _ e))
 have Ti:IsPair hi he.objs.size x y:=si.extBut _ _ (Nat.ne_of_gt zlt) (sg.extBut _ _ (Nat.ne_of_gt zlt) (qA0 _ rfl));rw[sz]at zi Ti;refine zI0 %[0|zI0 ?_];show Q (some (.ref he.objs.size)) _;rw[sz];exact hQ hi zi (up _ _ D.TOz TOe) (q1e.at (λo e=>up _ o D.i1z e) (λo e=>up _ o D.l1z e)) (q2e.at (λo e=>up _ o D.i2z e) (λo e=>up _ o D.l2z e)) Ti λc o c1 c2 c3 c4 e=>up c o c1 (ke c o c1 c2 c3 c4 e)
theorem GQ{z TI TO i1 i2 l1 l2:Addr}{a b:Value}{Q:Option Value->Shared->Prop}(hh:A.handled=none)(D:ZipApart z TI TO i1 i2 l1 l2)
 (hz:IsZip s.heap z TI TO .none) (hTI:IsPair s.heap TI (.ref i1) (.ref i2)) (hTO:IsPair s.heap TO a b) (h1:SqIt s.heap i1 l1 k1 xs) (h2:SqIt s.heap i2 l2 k2 ys) (hend:xs[k1]?=none∨ys[k2]?=none)
 (hQ:∀h',(∀c o,c≠z->c≠TO->c≠i1->c≠i2->s.heap.get? c=some o->h'.get? c=some o)->Q none { s with heap:=h' }):wpAny (model prog w) A (pyNext (.ref z)) Q E s:=by
 have hT:s.TypeIs (.ref z) "zip":=%[_,hz|1]
 unfold pyNext;have hh1:A.in1.handled=none:=hh
 suffices hs:wpAny (model prog w) A.in1 (Builtin.«zip.__next__» %[[.ref z]|[]]) (λfin s'=>∃v,fin=.done (.ret v)/\False)
  (λv s'=>∃h' e,v=.ref e/\s'={ s with heap:=h' }/\(∀c o,c≠z->c≠TO->c≠i1->c≠i2->s.heap.get? c=some o->h'.get? c=some o)/\∃o,h'.get? e=some o/\o.cls=.type "StopIteration") s by
  refine zD0 (wpAny_attempt (wpAny_callSpecial?_slot (name:=Str.ofString "__next__") hT F.slot_zip_next (wpAny_call_entry F.slot_zip_next hT F.entry_zip_next (wpAny_mono hs (λ_ _ h=>by erw[_,_,f]at h;exact f.elim) ?_) (F.args_zip_next_1 _))));rintro _ _ ⟨h',e,rfl,rfl,hk,o,ho,hc⟩;exact zD0 (wpAny_isInstance (T:="StopIteration") (b:=true) %[o,ho|hc] isSubtype_stop (zI0 (hQ _ hk)))
 show wpAny _ _ (field (.ref z) 2 >>= _) _ _ _;refine zD0 (wpAny_field hz rfl (x:=.bool false) rfl ?_);show wpAny _ _ (field (.ref z) 3 >>= _) _ _ _;refine zD0 (wpAny_field hz rfl (x:=.ref TI) rfl (zD0 (wpAny_seqItems hTI rfl ?_)));show wpAny _ _ (Builtin.SmallTypes.ownedTupleIsFree (.ref z) >>= _) _ _ _;refine zD0 ?_;unfold Builtin.SmallTypes.ownedTupleIsFree;refine zD0 (wpAny_field hz rfl (x:=.none) rfl (zI0 ?_));simp only[if_true];refine zD0 (wpAny_rule (zD0 (wpAny_field hz rfl (x:=.ref TO) rfl (zD0 (wpAny_setField_rec hz (by simp) λha za sa=>zD0 ?_)))))
 replace za:IsZip ha z TI TO .ellipsis:=za
 simp only[List.zipIdx_cons,List.zipIdx_nil,List.forIn_cons,List.forIn_nil];refine zD0 (zD0 (wpAny_onRaise ?_));show wpAny _ _ (Builtin.SmallTypes.nextOf (.ref i1) >>= _) _ _ _;cases hx:xs[k1]? with
 | none=>
   refine zD0 (Ce hh1 (h1.ext sa.extBut D.i1z D.l1z) hx λhb e sb ⟨oe,hoe,hce⟩=>?_);have zb:IsZip hb z TI TO .ellipsis:=sb _ _ D.i1z.symm za;have ez:e≠z:=λx=>by subst x;rw[zb]at hoe;cases hoe;simp at hce
   exact wpAny_setField_rec zb (by simp) λhc _ sc=>%[hc,e,1,1,λc o c1 _ c3 _ x=>sc.extBut _ _ c1 (sb _ _ c3 (sa.extBut _ _ c1 x)),oe,sc.extBut _ _ ez hoe|hce]
 | some x=>
   have hy:ys[k2]?=none:=by
    rcases hend with h | h
    . rw[hx]at h;cases h
    . exact h
   refine zD0 (tQ (h1.ext sa.extBut D.i1z D.l1z) D.l1i1 hx λhb q1 sb=>zI0 ?_);have TOb:IsPair hb TO a b:=sb.extBut _ _ D.TOi1 (sa.extBut _ _ D.TOz hTO);refine zD0 (wpAny_seqItems TOb rfl (zD0 (wpAny_updateSeq_pair TOb λhc TOc sc=>?_)));refine zD0 (wpAny_letGo (zI0 (zD0 (zD0 (wpAny_onRaise ?_)))));show wpAny _ _ (Builtin.SmallTypes.nextOf (.ref i2) >>= _) _ _ _;refine zD0 (Ce hh1 (((h2.ext sa.extBut D.i2z D.l2z).ext sb.extBut D.i12.symm D.l2i1).ext sc.extBut D.TOi2.symm D.l2TO) hy λhd e sd ⟨oe,hoe,hce⟩=>?_);have zd:IsZip hd z TI TO .ellipsis:=sd _ _ D.i2z.symm (sc.extBut _ _ D.TOz.symm (sb.extBut _ _ D.i1z.symm za));have ez:e≠z:=λx=>by subst x;rw[zd]at hoe;cases hoe;simp at hce
   exact wpAny_setField_rec zd (by simp) λhe _ se=>%[he,e,1,1,λc o c1 c2 c3 c4 x=>se.extBut _ _ c1 (sd _ _ c4 (sc.extBut _ _ c2 (sb.extBut _ _ c3 (sa.extBut _ _ c1 x)))),oe,se.extBut _ _ ez hoe|hce]
end
def itO (b:Bool) (l:Addr):Obj:={ cls:=.type (if b=true then "list_iterator" else "tuple_iterator"),data:=.fields #[.ref l,.int 0 0] }
def SqO(b:Bool)(h:Heap)(l:Addr)(xs:Array Value):Prop:=if b=true then h.IsList l xs else h.IsTuple l xs
abbrev zqH (h:Heap) (b1 b2:Bool) (l1 l2:Addr):Heap:=((((h.push (itO b1 l1)).push (itO b2 l2)).push { cls:=.type "tuple",data:=.seq #[.ref h.objs.size,.ref (h.push (itO b1 l1)).objs.size] }).push { cls:=.type "tuple",data:=.seq #[.none,.none] }).push
 { cls:=.type "zip",data:=.fields #[.none,.bool false,.bool false,.ref ((h.push (itO b1 l1)).push (itO b2 l2)).objs.size,.ref (((h.push (itO b1 l1)).push (itO b2 l2)).push { cls:=.type "tuple",data:=.seq #[.ref h.objs.size,.ref (h.push (itO b1 l1)).objs.size] }).objs.size] }
abbrev zqA (h:Heap) (b1 b2:Bool) (l1 l2:Addr):Addr:=((((h.push (itO b1 l1)).push (itO b2 l2)).push { cls:=.type "tuple",data:=.seq #[.ref h.objs.size,.ref (h.push (itO b1 l1)).objs.size] }).push { cls:=.type "tuple",data:=.seq #[.none,.none] }).objs.size
theorem Cf(q:SqO b h l xs)(o:Obj):SqO b (h.push o) l xs:=by
 cases b
 . exact Heap.IsTuple.at q λo' e=>zR0 _ e
 . exact Heap.IsList.push q _
theorem vx{prog:Program}{w:World}{A:Around}{E:Value->Shared->Prop}{s:Shared}{Q:Value->Shared->Prop}(q:SqO b s.heap l xs)(hQ:Q (.ref s.heap.objs.size) { s with heap:=s.heap.push (itO b l) }) :
 wpAny (model prog w) A (pyIter (.ref l)) Q E s:=by
 cases b
 . exact wpAny_pyIter_tuple (t:=l) (items:=xs) q hQ
 . exact wpAny_pyIter_list (l:=l) (items:=xs) q hQ
set_option maxHeartbeats 1000000 in
theorem DI(b1 b2:Bool)(l1 l2:Addr)(xs ys:Array Value) :
 Meets (Builtin.«zip.__new__» %[[.type "zip",.ref l1,.ref l2]|[]]) (λ_ R s=>SqO b1 s.heap l1 xs/\SqO b2 s.heap l2 ys/\
  R (.ok (.ret (.ref (zqA s.heap b1 b2 l1 l2)))) { s with heap:=zqH s.heap b1 b2 l1 l2 }):=
 .of_wp λprog w A R s h=>by
  erw[hp,g,d,tk,os]at s;erw[hl1,hl2,h]at h;have hsub:=sub_zip;have hL1:SqO b1 (Shared.heap %[hp,g,d,tk|os]) l1 xs:=hl1;have hL2:SqO b2 (Shared.heap ⟨hp.push (itO b1 l1),g,d,tk,os⟩) l2 ys:=Cf hl2 _
  wp_walk using vx hL1,vx hL2
  erw[0,h]
section
variable {prog:Program} {w:World} {A:Around} {E:Value->Shared->Prop} {s:Shared}
theorem DS{h':Heap}{n:Addr}(e:h'.get? n=some (itO b l))(q:SqO b h l xs)(k:∀o,h.get? l=some o->h'.get? l=some o):SqIt h' n l 0 xs:=by
 cases b
 . exact .inr %[%[_,e,1|1]|Heap.IsTuple.at q k]
 . exact .inl %[%[_,e,1|1]|Heap.IsList.at q k]
theorem FX{Q:Value->Shared->Prop}(hl1:SqO b1 s.heap l1 xs)(hl2:SqO b2 s.heap l2 ys)
 (h:∀h',IsZip h' (s.heap.objs.size+4) (s.heap.objs.size+2) (s.heap.objs.size+3) .none->IsPair h' (s.heap.objs.size+2) (.ref s.heap.objs.size) (.ref (s.heap.objs.size+1)) ->
  IsPair h' (s.heap.objs.size+3) .none .none->SqIt h' s.heap.objs.size l1 0 xs->SqIt h' (s.heap.objs.size+1) l2 0 ys ->
  (∀c o,s.heap.get? c=some o->h'.get? c=some o)->Q (.ref (s.heap.objs.size+4)) { s with heap:=h' }) :
 wpAny (model prog w) A (call (.type "zip") [.ref l1,.ref l2]) Q E s:=by
 refine callType_new F.called_zip ⋯ (F.typeCall_zip_2 _ _) (F.newCall_zip_2 _ _) (λobj=>F.args_object_init_3 obj _ _) F.entry_zip_new (DI b1 b2 l1 l2 xs ys) %[hl1,hl2|6];have z1:∀(h:Heap)(o:Obj),(h.push o).objs.size=h.objs.size+1:=λh o=>Heap.size_push ..
 have up:∀(h:Heap)(o:Obj)(c:Addr)(u:Obj),h.get? c=some u->(h.push o).get? c=some u:=λh o c u e=>zR0 _ e
 have top:∀(h:Heap)(o:Obj)(n:Nat),o.isFreed=false->h.objs.size=n->(h.push o).get? n=some o:=λh o n f e=>by rw[←e];exact qA0 _ f
 have f1:∀b l,(itO b l).isFreed=false:=λ_ _=>rfl
 show _/\_;have g1:(zqH s.heap b1 b2 l1 l2).get? s.heap.objs.size=some (itO b1 l1):=up _ _ _ _ (up _ _ _ _ (up _ _ _ _ (up _ _ _ _ (top _ _ _ (f1 _ _) rfl))));have g2:(zqH s.heap b1 b2 l1 l2).get? (s.heap.objs.size+1)=some (itO b2 l2):=up _ _ _ _ (up _ _ _ _ (up _ _ _ _ (top _ _ _ (f1 _ _) (z1 _ _))));have g3:IsPair (zqH s.heap b1 b2 l1 l2) (s.heap.objs.size+2) (.ref s.heap.objs.size) (.ref (s.heap.objs.size+1)):=by
  have:=up _ { cls:=.type "zip",data:=.fields #[.none,.bool false,.bool false,.ref ((s.heap.push (itO b1 l1)).push (itO b2 l2)).objs.size,.ref (((s.heap.push (itO b1 l1)).push (itO b2 l2)).push { cls:=.type "tuple",data:=.seq #[.ref s.heap.objs.size,.ref (s.heap.push (itO b1 l1)).objs.size] }).objs.size] } _ _ (up _ { cls:=.type "tuple",data:=.seq #[.none,.none] } _ _ (top ((s.heap.push (itO b1 l1)).push (itO b2 l2)) { cls:=.type "tuple",data:=.seq #[.ref s.heap.objs.size,.ref (s.heap.push (itO b1 l1)).objs.size] } (s.heap.objs.size+2) rfl (by rw[z1,z1])))
  exact this.trans (by rw[z1])
 have g4:IsPair (zqH s.heap b1 b2 l1 l2) (s.heap.objs.size+3) .none .none:=up _ _ _ _ (top _ _ _ rfl (by rw[z1,z1,z1]));have g5:IsZip (zqH s.heap b1 b2 l1 l2) (s.heap.objs.size+4) (s.heap.objs.size+2) (s.heap.objs.size+3) .none:=by
  have:=top ((((s.heap.push (itO b1 l1)).push (itO b2 l2)).push { cls:=.type "tuple",data:=.seq #[.ref s.heap.objs.size,.ref (s.heap.push (itO b1 l1)).objs.size] }).push { cls:=.type "tuple",data:=.seq #[.none,.none] })
   { cls:=.type "zip",data:=.fields #[.none,.bool false,.bool false,.ref ((s.heap.push (itO b1 l1)).push (itO b2 l2)).objs.size,.ref (((s.heap.push (itO b1 l1)).push (itO b2 l2)).push { cls:=.type "tuple",data:=.seq #[.ref s.heap.objs.size,.ref (s.heap.push (itO b1 l1)).objs.size] }).objs.size] } (s.heap.objs.size+4) rfl (by rw[z1,z1,z1,z1])
  exact this.trans (by simp only[z1])
 have ea:zqA s.heap b1 b2 l1 l2=s.heap.objs.size+4:=by simp only[zqA,z1]
 have keep:∀c o,s.heap.get? c=some o->(zqH s.heap b1 b2 l1 l2).get? c=some o:=λc o e=>up _ _ _ _ (up _ _ _ _ (up _ _ _ _ (up _ _ _ _ (up _ _ _ _ e))))
 rw[ea];erw[%[_,g5|1],h _ g5 g3 g4 (DS g1 hl1 (keep _)) (DS g2 hl2 (keep _)) keep]
end
def SqB(K:W.Frag)(b:Bool)(H:Hp)(a:Addr)(xs:List V):Prop:=if b=true then SqL K H a xs else SqT K H a xs
theorem SqB.at{σ:St}(I:Inv X pins σ H s)(q:SqB X.K b H a xs):∃its,Vals xs its/\SqO b s.heap a its.toArray/\a<s.heap.objs.size:=by
 cases b
 . let%[its,rv,p|_]:=I.tuple q;erw[its,rv,p,p.lt]
 . let%[its,rv,p|_]:=I.list q;erw[its,rv,p.isList,p.lt]
theorem SqB.inj{σ:St}(I:Inv X pins σ H s)(q:SqB X.K b H a xs)(r:SqB X.K b H a ys):xs=ys:=by
 cases b
 . exact I.tuple_inj q r
 . exact I.list_inj q r
def Itz(K:W.Frag)(c d:Bool)(a b:Addr):It:=
 ⟨λi H=>∃xs ys x y,SqB K c H a xs/\SqB K d H b ys/\xs[i]?=some x/\ys[i]?=some y,λi H v H'=>∃t,v=.ref t/\H t=none/\∀xs ys x y,SqB K c H a xs->SqB K d H b ys->xs[i]?=some x->ys[i]?=some y->H'=upd H t (.tup [x,y]),
  λi H=>∃xs ys,SqB K c H a xs/\SqB K d H b ys/\(xs.length<=i∨ys.length<=i)⟩
theorem zipAp{n l1 l2:Nat}(h1:l1<n)(h2:l2<n):ZipApart (n+4) (n+2) (n+3) n (n+1) l1 l2:=by
 constructor <;> exact λy=>by
  have y':(_:Nat)=_:=y;omega
theorem BN{K:W.Frag}{elts:List Expr}{k:Nat}{pos:Pos}(c d:Bool)(a b z TI TO i1 i2:Addr)(D:ZipApart z TI TO i1 i2 a b) :
 Turn P w K (.Tuple elts k pos) (Itz K c d a b) [z,TI,TO,i1,i2] z (λi h=>IsZip h z TI TO .none/\IsPair h TI (.ref i1) (.ref i2)/\(∃p q,IsPair h TO p q)/\(∃o,h.get? i1=some o/\o.cls=.type (if c=true then "list_iterator" else "tuple_iterator")/\o.data=.fields #[.ref a,.int i 0])/\
  ∃o,h.get? i2=some o/\o.cls=.type (if d=true then "list_iterator" else "tuple_iterator")/\o.data=.fields #[.ref b,.int i 0]) where
 mem:=by simp
 obj:=λi h st x hx=>by
  erw[hz,hTI,%[p,q|hTO],%[o1,e1,_|d1],o2,e2,_,d2]at st;simp only[List.mem_cons,List.not_mem_nil,or_false]at hx;rcases hx with rfl | rfl | rfl | rfl | rfl
  . erw[_,hz,λv y=>nomatch y]
  . erw[_,hTI,λv y=>nomatch y]
  . erw[_,hTO,λv y=>nomatch y]
  . erw[o1,e1,λv y=>by rw[d1]at y;cases y]
  . erw[o2,e2,λv y=>by rw[d2]at y;cases y]
 keep:=λi h h' st kp=>by
  erw[hz,hTI,%[p,q|hTO],%[o1,e1|r1],o2,e2,r2]at st;erw[kp z (by simp) _ hz,kp TI (by simp) _ hTI,%[p,q|kp TO (by simp) _ hTO],%[o1,kp i1 (by simp) _ e1|r1],o2,kp i2 (by simp) _ e2,r2]
 item:=by
  intro X hP hw hK hc i pins s σ H E I hf st hg;subst hP hw hK;erw[xs,ys,x,y,hq1,hq2,hx,hy]at hg;let%[its1,rv1,s1|_]:=SqB.at I hq1;let%[its2,rv2,s2|_]:=SqB.at I hq2;let%[u,hu|ru]:=rv1.get hx;let%[v,hv|rv]:=rv2.get hy;erw[hz,hTI,%[p,q|hTO],it1,it2]at st;have S1:SqIt s.heap i1 a i its1.toArray:=by
   cases c
   . exact .inr %[it1|s1]
   . exact .inl %[it1|s1]
  have S2:SqIt s.heap i2 b i its2.toArray:=by
   cases d
   . exact .inr %[it2|s2]
   . exact .inl %[it2|s2]
  refine EE D hz hTI hTO S1 S2 (x:=u) (y:=v) (by simpa using hu) (by simpa using hv) λh1 z1 TO1 q1 q2 T1 k1=>?_
  erw[0,wpAny_letOwnedTupleGo_zip z1 λh2 z2 s2'=>?_];have zlt:z<s.heap.objs.size:=zN0 hz;have T2:h2.get? s.heap.objs.size=some { cls:=.type "tuple",data:=.seq #[u,v] }:=(s2'.2 _ (Ne.symm (zV0 zlt))).trans T1;have I2:Inv X pins σ (upd H s.heap.objs.size (.tup [x,y])) { s with heap:=h2 }:=by
   refine I.turnedNew (t':=s.toks) (ch:=[z,TI,TO,i1,i2]) (λe ob he ee=>?_) hf (zG0 _) %[by show 2<=sizeLine;decide,[u,v],.cons ru (.cons rv .nil),%[_,T2,1|0],_,T2|1];have n1:e≠z:=λy=>he (by simp [y])
   exact(s2'.2 e n1).trans (k1 e ob n1 (λy=>he (by simp [y])) (λy=>he (by simp [y])) (λy=>he (by simp [y])) ee)
  have g1:SqIt h2 i1 a (i+1) its1.toArray:=q1.at (λo e=>(s2'.2 _ D.i1z).trans e) (λo e=>(s2'.2 _ D.l1z).trans e);have g2:SqIt h2 i2 b (i+1) its2.toArray:=q2.at (λo e=>(s2'.2 _ D.i2z).trans e) (λo e=>(s2'.2 _ D.l2z).trans e);have kd:∀{c:Bool} {i1 a:Addr} {its its':Array Value},SqO c h2 a its'->SqIt h2 i1 a (i+1) its->∃o,h2.get? i1=some o/\o.cls=.type (if c=true then "list_iterator" else "tuple_iterator")/\o.data=.fields #[.ref a,.int ((i+1:Nat):Int) 0]:=λ{c i1 a its its'} o q=>by
   cases c
   . rcases q with⟨_,⟨o1,e1,c1,_⟩⟩ | ⟨q,_⟩
     . let%[o2,e2,c2|_]:=(show h2.IsTuple a its' from o)
       rw[e1]at e2;cases e2;rw[c1]at c2;exact absurd (Value.type.inj c2) ⋯
     . exact q
   . rcases q with⟨q,_⟩ | ⟨_,⟨o1,e1,c1,_⟩⟩
     . exact q
     . let%[o2,e2,c2|_]:=(show h2.IsList a its' from o)
       rw[e1]at e2;cases e2;rw[c1]at c2;exact absurd (Value.type.inj c2) ⋯
  have ko:∀{c:Bool}{a:Addr}{its:Array Value},SqO c s.heap a its->a≠z->a≠TO->a≠i1->a≠i2->SqO c h2 a its:=fun{c a its} o n1 n2 n3 n4=>by
   have kk:∀ob,s.heap.get? a=some ob->h2.get? a=some ob:=λob e=>(s2'.2 _ n1).trans (k1 _ _ n1 n2 n3 n4 e)
   cases c
   . exact Heap.IsTuple.at o kk
   . exact Heap.IsList.at o kk
  erw[.ref s.heap.objs.size,_,I2,1,%[0,I.hok.fresh (zG0 _)|λxs' ys' x' y' h1' h2' hx' hy'=>?_],%[z2,(s2'.2 _ D.TIz).trans (k1 _ _ D.TIz D.TITO D.TIi1 D.TIi2 hTI),%[_,_|(s2'.2 _ D.TOz).trans TO1],kd (ko s1 D.l1z D.l1TO D.l1i1 D.l1i2) g1|kd (ko s2 D.l2z D.l2TO D.l2i1 D.l2i2) g2],λe he=>?_]
  . have e1:=SqB.inj I h1' hq1;have e2:=SqB.inj I h2' hq2;subst e1 e2;rw[hx]at hx';rw[hy]at hy';cases hx';cases hy';rfl
  . have zf:=hf e he;have hlt:e<s.heap.objs.size:=by
     simp only[List.mem_cons,List.not_mem_nil,or_false]at he;rcases he with rfl | rfl | rfl | rfl | rfl
     . exact zlt
     . exact zN0 hTI
     . exact zN0 hTO
     . erw[_,e,_]at it1;exact zN0 e
     . erw[_,e,_]at it2;exact zN0 e
    rw[aG (zV0 hlt)];exact zf.1
 done:=by
  intro X hP hw hK hc i pins s σ H E I hf st hg;subst hP hw hK;erw[xs,ys,hq1,hq2,hend]at hg;let%[its1,rv1,s1|_]:=SqB.at I hq1;let%[its2,rv2,s2|_]:=SqB.at I hq2;erw[hz,hTI,%[p,q|hTO],it1,it2]at st;have S1:SqIt s.heap i1 a i its1.toArray:=by
   cases c
   . exact .inr %[it1|s1]
   . exact .inl %[it1|s1]
  have S2:SqIt s.heap i2 b i its2.toArray:=by
   cases d
   . exact .inr %[it2|s2]
   . exact .inl %[it2|s2]
  have l1:=rv1.length;have l2:=rv2.length;exact GQ (I.ok.hd hc) D hz hTI hTO S1 S2 (hend.imp (λh=>Array.getElem?_eq_none (by simp;omega)) (λh=>Array.getElem?_eq_none (by simp;omega))) λh' eb=>
   %[1|I.turnedL (t':=s.toks) (ch:=[z,TI,TO,i1,i2]) (λe o he eo=>eb e o (λy=>he (by simp [y])) (λy=>he (by simp [y])) (λy=>he (by simp [y])) (λy=>he (by simp [y])) eo) hf]
 self:=λ_ _ _ _ _ st h=>wpAny_pyIter_zip st.1 h
section
variable {X:Cx} {elts:List Expr} {k:Nat} {tpos:Pos}
inductive ZiZip(K:W.Frag)(R:(It->Hp->Prop))(vs:(List V))(H1:Hp):Prop
 |mk:∀a b c d,vs=[.ref a,.ref b]->(∃xs,SqB K c H1 a xs)->(∃ys,SqB K d H1 b ys)->R (Itz K c d a b) H1->ZiZip K R vs H1
def iZip(K:W.Frag)(tl:TA):TI:=λσ H R=>tl σ H λvs H1=>ZiZip K R vs H1
theorem BC:bootBuiltins ("zip":Str)=some (.type "zip"):=by decide
theorem BE{h h':Heap}(keep:∀e o,h.get? e=some o->h'.get? e=some o)(o:SqO c h l its')(q:SqIt h' n l 0 its) :
 ∃o,h'.get? n=some o/\o.cls=.type (if c=true then "list_iterator" else "tuple_iterator")/\o.data=.fields #[.ref l,.int ((0:Nat):Int) 0]:=by
 cases c
 . rcases q with⟨_,⟨o1,e1,c1,_⟩⟩ | ⟨q,_⟩
   . let%[o2,e2,c2|_]:=(show h'.IsTuple l its' from Heap.IsTuple.at o λob e=>keep _ _ e)
     rw[e1]at e2;cases e2;rw[c1]at c2;exact absurd (Value.type.inj c2) ⋯
   . exact q
 . rcases q with⟨q,_⟩ | ⟨_,⟨o1,e1,c1,_⟩⟩
   . exact q
   . let%[o2,e2,c2|_]:=(show h'.IsList l its' from Heap.IsList.at o λob e=>keep _ _ e)
     rw[e1]at e2;cases e2;rw[c1]at c2;exact absurd (Value.type.inj c2) ⋯
theorem GV{σ:St}{R:It->Hp->Prop}{E:Value->Shared->Prop}(I1:Inv X pins σ H1 s1)(hq1:SqB X.K c H1 a xs)(hq2:SqB X.K d H1 b ys)(q:R (Itz X.K c d a b) H1) :
 wpAny (model X.prog X.w) X.A (call (.type "zip") [.ref a,.ref b]) (λv s2=>wpAny (model X.prog X.w) X.A (pyIter v) (PIE X pins σ (.Tuple elts k tpos) R) E s2) E s1:=by
 let%[its1,rv1,o1|l1]:=SqB.at I1 hq1;let%[its2,rv2,o2|l2]:=SqB.at I1 hq2;refine FX o1 o2 λh' z1 p1 p2 q1 q2 keep=>?_
 refine wpAny_pyIter_zip z1 ?_;have I2:Inv X pins σ H1 { s1 with heap:=h' }:=I1.kept (t':=s1.toks) keep;erw[s1.heap.objs.size+4,[s1.heap.objs.size+4,s1.heap.objs.size+2,s1.heap.objs.size+3,s1.heap.objs.size,s1.heap.objs.size+1],_,_,H1,1,I2,BN c d a b _ _ _ _ _ (zipAp l1 l2),%[z1,p1,%[_,_|p2],BE keep o1 q1|BE keep o2 q2],λe he=>?_,q];have ge:s1.heap.objs.size<=e:=by
  simp only[List.mem_cons,List.not_mem_nil,or_false]at he;rcases he with h | h | h | h | h <;> rw[h]
  . exact Nat.le_add_right ..
  . exact Nat.le_add_right ..
  . exact Nat.le_add_right ..
  . exact zG0 _
  . exact Nat.le_add_right ..
 exact I1.fpOk ge (I1.hok.fresh ge)
theorem Hu {e1 e2:Expr}  {p pos:Pos} (hg:Gl X "zip") (hm:X.mg "zip"=none) (ha:PA X [e1,e2] t) (hs:starEach [e1,e2] X.env=[(false,eval e1 X.env),(false,eval e2 X.env)]:=by rfl) (hs2:starEach [e2] X.env=[(false,eval e2 X.env)]:=by rfl) :
 PI X (.Tuple elts k tpos) (.Call (.Name "zip" p) [e1,e2] [] pos) (iZip X.K t):=by
 intro pins s σ H R I h;refine Call_ (iq I hg hm BC (PyProof.Rows.callWith_type1 (thn (ha pos pins s σ H _ I h) λus s1 ⟨vs,H1,I1,r1,q1⟩=>?_) (by rw[hs,hs2]) (by rw[hs2];rfl)));erw[a,b,c,d,ev,%[xs|hq1],%[ys|hq2],q]at q1;subst ev;cases r1 with
 | cons r rr=>
   cases rr with
   | cons r' rr=>
     cases rr;cases r;cases r';exact GV I1 hq1 hq2 q
end
section
variable {X:Cx} {pins:List (Addr×Obj)} {σ:St} {x y2:Str} {N:List Str} {ix:List Nat} {scope:Scope} {cl:List (Str×Addr)} {fp:List Addr} {H3:Hp} {s3:Shared}
theorem mX(S:CompScope X x N ix scope cl)(I3:Inv X pins σ H3 s3)(hf:∀b∈fp,jH X pins H3 b)(hlt:∀b∈fp,b<s3.heap.objs.size):(cx X (x::y2::N) scope cl s3 H3 fp).Ok:=
 have h:=mY S I3 hf hlt
 %[h.mod,h.kind,h.glob,h.blt,h.above,h.inj,h.has,h.cab,h.hd,h.frames,h.stk,h.exf,h.bs,h.bsz,h.noex,h.exfs,h.funs|h.frf]
theorem wH(S:CompScope X x N ix scope cl)(I3:Inv X pins σ H3 s3)(hf:∀b∈fp,jH X pins H3 b)(hlt:∀b∈fp,b<s3.heap.objs.size)(hix:ix.length=N.length){h1:Heap}{t':Nat}{m:Str->Option Value}
 (hn:h1.Ns s3.heap.objs.size m) (hk:∀b o,s3.heap.get? b=some o->h1.get? b=some o):Inv (cx X (x::y2::N) scope cl s3 H3 fp) [] (none::none::outs ix σ) H3 { s3 with heap:=h1,toks:=t' } where
 ok:=mX S I3 hf hlt
 os:=rfl
 bare:=I3.bare
 base:=Un.kept hk
 loc:=by
  erw[m,hn,λi y v h1' h2 h3=>?_];cases i with
  | zero=>
    have h2':(some (none:Option V))=some (some v):=h2;cases h2'
  | succ j=>
   cases j with
   | zero=>
    have h2':(some (none:Option V))=some (some v):=h2;cases h2'
   | succ j=>
    have h1'':N[j]?=some y:=h1';have h2':(outs ix σ)[j]?=some (some v):=h2;let%[hr,k,c,e1,e2,e3|e4]:=S.outs j y h1'';unfold outs at h2';rw[zZ0,e1]at h2';have h2'':(σ[k]?).join=some v:=zT0 h2';have e5:σ[k]?=some (some v):=by
     cases q:σ[k]? with
     | none=>rw[q]at h2'';cases h2''
     | some o=>rw[q]at h2'';exact congrArg some h2''
    erw[m0,_,hl]at I3.loc;let%[u,r|l]:=hl k y v e2 e5 (.inr (.inl e4));erw[u,r,.inr %[.inl hr,c,e3|6]];rcases l with⟨kk,_⟩ | ⟨_,c',ec,z⟩
    . have kk':X.env.scope.names.lookup y=some .local:=kk;rw[e4]at kk';cases kk'
    . rw[S.cells e3]at ec;cases ec;erw[o,ho,hd]at z;erw[o,hk _ _ ho,hd]
 cell:=λy c e=>by
  let%[v,o,ho|hd]:=I3.cell y c (S.cells e);erw[v,o,hk _ _ ho,hd]
 free:=I3.hok.fresh (zG0 _)
 freeC:=λy c e=>I3.freeC y c (S.cells e)
 pin:=λp hp=>absurd (show p∈([]:List (Addr×Obj))from hp) (by simp)
 hok:=I3.hok.kept hk
 len:=by
  show(none::none::outs ix σ).length=(x::y2::N).length;rw[zO0,zO0,zO0,zO0];unfold outs;rw[zF0,hix]
end
section
variable {X:Cx} {x y2:Str} {N:List Str} {ix:List Nat} {scope:Scope} {cl:List (Str×Addr)} {elt iter:Expr} {ifs:List Expr} {px py pt pos:Pos} {kt:Nat} {wi:TI} {tb:TBl}
def zO(K:W.Frag)(J:It)(D:Addr)(ix:List Nat)(tb:TBl)(σ:St)(H:Hp)(Q:VK):Prop:=∃W:Nat->Nat->Hp->Prop,(∃m,W 0 m (upd H D (.lst [])))/\∀i m H2,W i m H2 ->
 (J.stop i H2/\Q (.ref D) H2)∨(J.go i H2/\∀y H3,J.yld i H2 y H3->∃t v1 v2,y=.ref t/\SqT K H3 t [v1,v2]/\tb (some v1::some v2::outs ix σ) H3 (λH4=>∃m',m'<m/\W (i+1) m' H4)
  λz H4=>∃ys,H4 D=some (.lst ys)/\ys.length<sizeLine/\∃m',m'<m/\W (i+1) m' (upd H4 D (.lst (ys++[z]))))
def EQ(K:W.Frag)(wi:TI)(ix:List Nat)(tb:TBl):TE:=λσ H Q=>wi σ H λJ H1=>∀D,H1 D=none->zO K J D ix tb σ H1 Q
theorem By(hc:X.calm=true)(S:CompScope X x N ix scope cl)(S2:scope.names.lookup y2=some .local)(nd2:(x::y2::N).Nodup)(hix:ix.length=N.length)(hb:∀s3 H3 fp,PB (cx X (x::y2::N) scope cl s3 H3 fp) ifs elt tb)
   {σ:St}  {Q:VK}  {fp:List Addr}   {RR:Value->Addr->Result->Shared->Prop} {E:Value->Shared->Prop}
 (I2:Inv X pins σ H2 s2) (T:Turn X.prog X.w X.K (.Tuple [.Name x px,.Name y2 py] kt pt) J fp it tn) (st2:tn 0 s2.heap) (f2:∀b∈fp,jH X pins H2 b)
 (h:∀D,H2 D=none->∃W:Nat->Nat->Hp->Prop,(∃m,W 0 m (upd H2 D (.lst [])))/\∀i m H3,W i m H3 ->
  (J.stop i H3/\Q (.ref D) H3)∨(J.go i H3/\∀y H4,J.yld i H3 y H4->∃t v1 v2,y=.ref t/\SqT X.K H4 t [v1,v2]/\tb (some v1::some v2::outs ix σ) H4 (λH5=>∃m',m'<m/\W (i+1) m' H5)
   λz H5=>∃ys,H5 D=some (.lst ys)/\ys.length<sizeLine/\∃m',m'<m/\W (i+1) m' (upd H5 D (.lst (ys++[z])))))
 (hRR:∀(D C:Addr)(H':Hp)(s':Shared)(m:Str->Option Value),s'.heap.Ns C m->Apart X pins H' C->Inv X pins σ H' s'->Q (.ref D) H'->RR (.ref D) C (.ok .next) s') :
 wpAny (model X.prog X.w) X.A (newList []) (λacc s3=>wpAny (model X.prog X.w) X.A (newFunctionEnv scope X.env.globals cl [] X.env.qual none .none (some X.env)) (λcenv s4=>
  codeAny (model X.prog X.w) X.A (.compStart (.ListComp elt [%[.Tuple [.Name x px,.Name y2 py] kt pt,iter,ifs|(0)]] scope pos) 0 (.ref it) acc { cenv with scope:=relabel scope X.env }) (RR acc cenv.locals) s4) E s3) E s2:=by
 refine wpAny_newObj_type (wpAny_newFunctionEnv S.nocell (by intro y hy;simp at hy) (λh1 hns1 hsb1=>?_) S.kind)
 dsimp only at hns1 hsb1 ⊢
 have I3:Inv X pins σ (upd H2 s2.heap.objs.size (.lst [])) { s2 with heap:=s2.heap.push { cls:=.type "list",dict:=none,data:=.seq ([]:List Value).toArray } }:=I2.lnew (its:=[]) (ys:=[]) (t':=s2.toks) .nil (zU0 _);have hD:H2 s2.heap.objs.size=none:=I2.fresh;let%[W,%[m0|w0]|turn]:=h s2.heap.objs.size hD;have hltF:∀b∈fp,b<s2.heap.objs.size:=λb hb=>by
  let%[o,e|_]:=T.obj 0 _ st2 b hb;exact zN0 e
 generalize hs3:({ s2 with heap:=s2.heap.push { cls:=.type "list",dict:=none,data:=.seq ([]:List Value).toArray } }:Shared)=s3 at I3;have eh:s2.heap.push { cls:=.type "list",dict:=none,data:=.seq ([]:List Value).toArray }=s3.heap:=by rw[←hs3]
 have et:s2.toks=s3.toks:=by rw[←hs3]
 rw[eh]at hns1 hsb1 ⊢;have sz3:s3.heap.objs.size=s2.heap.objs.size+1:=by rw[←eh,Heap.size_push]
 have hlt3:∀b∈fp,b<s3.heap.objs.size:=λb hb=>qO0 (hltF b hb) (by rw[sz3];exact qN0 _)
 have f3:∀b∈fp,jH X pins (upd H2 s2.heap.objs.size (.lst [])) b:=λb hb=>by
  let%[q1|q2]:=f2 b hb;erw[by rw[aG (zV0 (hltF b hb))];exact q1,q2]
 have up:∀b o,s3.heap.get? b=some o->h1.get? b=some o:=λb o e=>hsb1.extBut b o (zV0 (zN0 e)) (zR0 _ e)
 have old:∀b o,s2.heap.get? b=some o->h1.get? b=some o:=λb o e=>up b o (by rw[←eh];exact zR0 _ e)
 have es:({ s2 with heap:=h1,toks:=s2.toks+([]:List (Str×Value)).length }:Shared)={ s3 with heap:=h1,toks:=s2.toks+([]:List (Str×Value)).length }:=by rw[←hs3]
 rw [es];have I4:Inv (cx X (x::y2::N) scope cl s3 (upd H2 s2.heap.objs.size (.lst [])) fp) [] (none::none::outs ix σ) (upd H2 s2.heap.objs.size (.lst [])) { s3 with heap:=h1,toks:=s2.toks+([]:List (Str×Value)).length }:=
  wH S I3 f3 hlt3 hix hns1 up
 have st4:tn 0 h1:=T.keep 0 _ _ st2 λb _ o e=>old b o e
 have loop:codeAny (model X.prog X.w) X.A (.compLoop (.ListComp elt [%[.Tuple [.Name x px,.Name y2 py] kt pt,iter,ifs|(0)]] scope pos) 0 (.ref it) (.ref s2.heap.objs.size) (compEnvC scope cl s3.heap.objs.size X.env)) (RR (.ref s2.heap.objs.size) s3.heap.objs.size)
  { s3 with heap:=h1,toks:=s2.toks+([]:List (Str×Value)).length }:=by
  refine pC (λn s'=>∃i v0 v00 H',Inv (cx X (x::y2::N) scope cl s3 (upd H2 s2.heap.objs.size (.lst [])) fp) [] (v0::v00::outs ix σ) H' s'/\tn i s'.heap/\(∀b∈fp,H' b=none)/\W i n H') ?_ m0 %[(0),none,none,_,I4,st4,λb hb=>(f3 b hb).1|w0];rintro n s5 ⟨i,v0,v00,H5,I5,st5,fr5,w5⟩;have stat:∀{H':Hp},(∀b∈fp,H' b=none)->∀b∈fp,jH (cx X (x::y2::N) scope cl s3 (upd H2 s2.heap.objs.size (.lst [])) fp) [] H' b:=λhn b hb=>
   %[hn b hb,((mX S I3 f3 hlt3).exf b hb).1,(mX S I3 f3 hlt3).exfs b hb,.inl hb,((mX S I3 f3 hlt3).exf b hb).2|λp hp=>absurd (show p∈([]:List (Addr×Obj))from hp) (by simp)]
  rcases turn i n H5 w5 with⟨stop,qn⟩ | ⟨go,step⟩
  . refine thn (T.done (cx X (x::y2::N) scope cl s3 (upd H2 s2.heap.objs.size (.lst [])) fp) rfl rfl rfl hc i [] s5 _ H5 _ I5 (stat fr5) st5 stop) λr s6 ⟨hr,I6⟩=>?_
    subst hr;erw[m6,hn6,_]at I6.loc;exact hRR _ _ H5 s6 m6 hn6 ⟨I6.free,Ne.symm (zV0 I3.lt),I3.sz,λy c e z=>by
     let%[v|q]:=I3.cell y c e;exact absurd q.lt (by rw[z];exact qU0 _),λp hp z=>absurd (zN0 (I3.pin p hp).1) (by rw[z];exact qU0 _)⟩ (tD I3 f3 I6 (Heap.SameBut.refl _ _)) qn
  . refine thn (T.item (cx X (x::y2::N) scope cl s3 (upd H2 s2.heap.objs.size (.lst [])) fp) rfl rfl rfl hc i [] s5 _ H5 _ I5 (stat fr5) st5 go) λr s6 ⟨u,hr,h6⟩=>?_
    subst hr;refine thn h6 λ_ s7 ⟨y,H7,I7,r7,y7,st7,fr7⟩=>?_
    have I7':=I7.pinned (stat fr7) (T.obj _ _ st7);let%[tt,v1,v2,ey,sq|stp]:=step y H7 y7;subst ey;have pg:PG (cx X (x::y2::N) scope cl s3 (upd H2 s2.heap.objs.size (.lst [])) fp) (.Tuple [.Name x px,.Name y2 py] kt pt) (gTup X.K 2 (gCons (wA 0) (gCons (wA 1) gNil))):=
     uH hc (fV (bt (i:=0) nd2 rfl (.inl (lookup_relabel_local S.own)) (.inr (lookup_relabel_local S.own))) (fV (bt (i:=1) nd2 rfl (.inl (lookup_relabel_local S2)) (.inr (lookup_relabel_local S2))) pT))
    refine thn (pg _ s7 _ H7 (.ref tt) u (λσ' H'=>σ'=some v1::some v2::outs ix σ/\H'=H7) I7' r7 %[tt,0,sq,1,v1,0,v2,0,1,1|1]) λ_ s8 ⟨σ8,H8,I8,e1,e2⟩=>?_
    subst e1 e2;have I8':=I8;have again:∀{v9 v99:Option V}{H9:Hp}{s9:Shared},Inv (cx X (x::y2::N) scope cl s3 (upd H2 s2.heap.objs.size (.lst [])) fp) ([]++lI fp s7.heap) (v9::v99::outs ix σ) H9 s9->(∃m',m'<n/\W (i+1) m' H9) ->
     ∃m,m<n/\∃i v0 v00 H',Inv (cx X (x::y2::N) scope cl s3 (upd H2 s2.heap.objs.size (.lst [])) fp) [] (v0::v00::outs ix σ) H' s9/\tn i s9.heap/\(∀b∈fp,H' b=none)/\W i m H':=fun{v9 v99 H9 s9} I9 ⟨m',hm,w9⟩=>by
     erw[m',hm,i+1,v9,v99,H9,I9.unpinned,T.keep _ _ _ st7 λb hb o e=>(I9.pin (b,o) (qQ0 _ (qQ0 _ (fk hb e)))).1,λb hb=>?_,w9];let%[o,e|d]:=T.obj _ _ st7 b hb;exact(I9.pin (b,o) (qQ0 _ (qQ0 _ (fk hb e)))).2.1
    refine thn (hb s3 (upd H2 s2.heap.objs.size (.lst [])) fp _ s8 _ _ _ _ I8' stp) λok s9 q9=>?_
    cases ok with
    | false=>
      rw[zA0 ⋯]at q9 ⊢;erw[H9,I9,q9]at q9;exact again I9 q9
    | true=>
      rw[zC0 rfl]at q9 ⊢;refine thn q9 λu s10 ⟨z,H10,I10,r10,ys,hy,hz,q10⟩=>?_
      refine thn (cz _ s10 _ H10 (.ref s2.heap.objs.size) [z] (.ref s2.heap.objs.size) [u] (λ_ H'=>∃m',m'<n/\W (i+1) m' H') I10 rfl (.cons r10 .nil) %[_,ys,z,1,1,hy,hz|q10]) λ_ s11 ⟨_,H11,I11,_,q11⟩=>?_
      exact again I11 q11
 exact codeAny_compStart_list loop (T.self _ 0 _ _ _ st4 loop)
theorem CT(hc:X.calm=true)(S:CompScope X x N ix scope cl)(S2:scope.names.lookup y2=some .local)(nd2:(x::y2::N).Nodup)(hix:ix.length=N.length)(hi:PI X (.Tuple [.Name x px,.Name y2 py] kt pt) iter wi)(hb:∀s3 H3 fp,PB (cx X (x::y2::N) scope cl s3 H3 fp) ifs elt tb)
 (hs:∀x,foldedSetIterable iter X.env x=pure x:=by intro _;rfl):PE X (.ListComp elt [%[.Tuple [.Name x px,.Name y2 py] kt pt,iter,ifs|(0)]] scope pos) (EQ X.K wi ix tb):=by
 intro pins s σ H Q I h;rw[eval_ListComp];refine wpAny_comprehension_free (use:=none) rfl hs S.clos S.kind S.names (thn (hi pins s σ H _ I h) λxv s1 h1=>thn h1 λitv s2 h2=>?_);erw[it,fp,tn,J,H2,1,I2,T,st2,f2,R]at h2;refine By hc S S2 nd2 hix hb (RR:=λacc C=>compPost (model X.prog X.w) X.A X.xe none (EP X pins σ Q) acc C) I2 T st2 f2 R ?_;intro D C H' s' m hn ap I' q;erw[m,hn,λh'' hb''=>%[.ref D,H',ap.turn I' hb'',1|q]]
end
theorem Et{K:W.Frag}{xs ys:List V}{tb:TBl}{Q:VK}(hxy:xs.length=ys.length)(Pv:Nat->Hp->Prop)(h0:Pv 0 (upd H D (.lst [])))(hl:∀i H,i<=xs.length->Pv i H->SqB K c H a xs/\SqB K d H b ys)
 (hs:∀i x y t H,xs[i]?=some x->ys[i]?=some y->Pv i H->H t=none->tb (some x::some y::outs ix σ) (upd H t (.tup [x,y])) (Nx xs.length i Pv) λz H'=>∃ys,H' D=some (.lst ys)/\ys.length<sizeLine/\Nx xs.length i Pv (upd H' D (.lst (ys++[z])))) (hd:∀H,Pv xs.length H->Q (.ref D) H) :
 zO K (Itz K c d a b) D ix tb σ H Q:=by
 erw[λi m H=>m=xs.length-i/\i<=xs.length/\Pv i H,%[xs.length,by simp,zU0 _|h0],6];rintro i m H ⟨rfl,hi,p⟩;let%[q1|q2]:=hl i H hi p
 by_cases hlt:i<xs.length
 . have hlt2:i<ys.length:=by omega
   refine .inr %[%[xs,ys,xs[i],ys[i],q1,q2,by simp [hlt]|by simp [hlt2]]|λv H' y=>?_];erw[t,1,ht,e]at y;have e':=e xs ys xs[i] ys[i] q1 q2 (by simp [hlt]) (by simp [hlt2]);subst e';erw[t,_,0,zB0 am,hs i xs[i] ys[i] t H (by simp [hlt]) (by simp [hlt2]) p ht]
 . have e:i=xs.length:=by omega
   subst e;exact .inl %[%[xs,ys,q1,q2|.inl (zG0 _)]|hd H p]
end L2
namespace L2
open PySem PyProof.Rows HT
section
variable {X:Cx}
theorem Az:OpR X (compareOp .IsNot) (λx y H Q=>∃b c,x=.bl b/\y=.bl c/\Q (.bl (b != c)) H):=by
 intro pins s σ H x y v u Q I rx ry h;erw[b,c,1,1,q]at h;cases rx;cases ry;exact isnot_bool (bK I q rfl)
end
end L2
namespace L2
open PySem PySem.Spec PyProof.Rows
section
variable {X:Cx}
def fQ(z u:Str)(i:Int):Bool:=decide (PySem.fromIndex z.length i+u.length<=z.length)&&Builtin.Str.subAt z u (PySem.fromIndex z.length i)
inductive rStartsAt(x:V)(vs:List V)(H:Hp)(Q:VK):Prop
 |mk:∀z u i,x=.str z->vs=[.str u,.int i]->Q (.bl (fQ z u i)) H->rStartsAt x vs H Q
theorem vV:MtR X "str.startswith" rStartsAt:=by
 intro pins s σ H x vs v us Q I rx rv h;erw[z,u,i,1,1,q]at h;erw[t,1]at rx;cases rv with
 | cons r1 rv1=>
   cases rv1 with
   | cons r2 rv2=>
     cases rv2;erw[t1,1]at r1;erw[t2,1]at r2;exact call_gives F.slot_str_startswith (typeIs_str _ _ _) F.entry_str_startswith (F.args_str_startswith_3 _ _ _) (gives_str_startswith_from z u i t t1 t2) %[.bl _,H,I,1|q]
abbrev TJ:=St->Hp->Str->VK->Prop
def PJ(X:Cx)(es:List Expr)(t:TJ):Prop:=
 ∀(pins:List (Addr×Obj))(s:Shared)(σ:St)(H:Hp)(out:Str)(Q:VK),Inv X pins σ H s->t σ H out Q->wpAny (model X.prog X.w) X.A (joinParts out (evalEach es X.env)) (EP X pins σ Q) X.xe s
theorem Ht:PJ X [] (λ_ H out Q=>out.length<=sizeLine/\Q (.str out) H):=by
 intro pins s σ H out Q I h;exact joinParts_nil %[.str out,H,I.tok _,%[|0]|h.2] h.1
theorem uG(he:PE X e te)(ht:PJ X es t):PJ X (e::es) (λσ H out Q=>te σ H λv H1=>∃y,v=.str y/\(out++y).length<=sizeLine/\t σ H1 (out++y) Q):=by
 intro pins s σ H out Q I h;show wpAny _ _ (joinParts out (eval e X.env::evalEach es X.env)) _ _ s;refine joinParts_cons (thn (he pins s σ H _ I h) λv s1 ⟨x,H1,I1,r1,y,ex,hz,q⟩=>?_);subst ex;erw[t',1]at r1;erw[hz,ht pins s1 σ H1 _ Q I1 q]
theorem Fn{e1 e2:Expr}{es:List Expr}{pos:Pos}(h:PJ X (e1::e2::es) t):PE X (.JoinedStr (e1::e2::es) pos) (λσ H Q=>t σ H Str.empty Q):=
 λpins s σ H Q I k=>JoinedStr_many (h pins s σ H Str.empty Q I k)
theorem Hw{pos:Pos}(he:PE X e te):PE X (.FormattedValue e (-1) none pos) (λσ H Q=>te σ H λv H1=>∃y,v=.str y/\y.length<=sizeLine/\Q (.str y) H1):=by
 intro pins s σ H Q I h;refine FormattedValue_plain (thn (he pins s σ H _ I h) λv s1 ⟨x,H1,I1,r1,y,ex,hz,q⟩=>?_);subst ex;erw[t',1]at r1;exact formatField_str (λt'' tk=>%[.str y,H1,I1.tok _,%[|0]|q]) hz
end
def IC(K:W.Frag)(a:Addr)(xs:List V):It:=%[λi H=>SqT K H a xs/\i<xs.length,λi H y H'=>H'=H/\xs.reverse[i]?=some y|λi _=>xs.length<=i]
theorem RevT.keep{h':Heap}(x:RevT h it t i)(k:∀o,h.get? it=some o->h'.get? it=some o):RevT h' it t i:=k _ x
theorem zT{K:W.Frag}(a it:Addr)(xs:List V):Turn P w K tg (IC K a xs) [it] it (λi h=>i<=xs.length/\RevT h it a ((xs.length:Int)-1-(i:Int))) where
 mem:=by simp
 obj:=λi h st b hb=>by
  have e:b=it:=by simpa using hb
  subst e;erw[_,st.2,λv z=>by cases z]
 keep:=λi h h' st k=>%[st.1|st.2.keep λo e=>k it (by simp) o e]
 item:=by
  intro X hP hw hK hc i pins s σ H E I hf st hg;subst hP hw hK;erw[hq,hi]at hg;let%[its,rv,p|hz]:=I.tuple hq;have hj:xs.length-1-i<xs.length:=by omega
  have hx:xs[xs.length-1-i]?=some xs[xs.length-1-i]:=zM0 hj;let%[u,hu|ru]:=rv.get hx;let%[f0,f1,f2,f3,f4|f5]:=hf it (by simp);erw[_,hit]at st;have e1:((xs.length:Int)-1-(i:Int))=((xs.length-1-i:Nat):Int):=by omega
  rw[e1]at hit;have h63:=jD;refine rm hit p (x:=u) (by simpa using hu) #[0] λh' tk st' sb=>?_
  have I1:Inv X pins σ H { s with heap:=h',toks:=tk }:=I.turned (t':=tk) (λb o hb e=>(sb.2 b hb).trans e) f0 f1 f3 f4 f5;have e2:((xs.length-1-i:Nat):Int)-1=(xs.length:Int)-1-((i+1:Nat):Int):=by omega
  rw[e2]at st';erw[u,1,wy (s:={ s with heap:=h',toks:=tk }) st' rfl rfl ⋯ ⟨xs[xs.length-1-i],H,I1,ru,⟨rfl,?_⟩,⟨by omega,st'⟩,λb hb=>(hf b hb).1⟩];rw[List.getElem?_reverse hi,hx]
 done:=by
  intro X hP hw hK hc i pins s σ H E I hf st hg;subst hP hw hK;have hg:xs.length<=i:=hg;let%[f0,f1,f2,f3,f4|f5]:=hf it (by simp);erw[hi,hit]at st;have e1:(xs.length:Int)-1-(i:Int)=-1:=by omega
  rw[e1]at hit;exact sG (I.ok.hd hc) hit λh' tk eb=>%[1|I.turned (t':=tk) (λb o hb e=>eb b o hb e) f0 f1 f3 f4 f5]
 self:=λ_ _ _ _ _ st h=>sW st.2 h
def Gf(K:W.Frag)(c:Bool)(a:Addr)(xs:List V):It:=if c=true then ItV K a xs else IC K a xs
section
variable {X:Cx} {tg:Expr}
inductive ZiRevB(K:W.Frag)(R:(It->Hp->Prop))(x:V)(H1:Hp):Prop
 |mk:∀c a xs,x=.ref a->SqB K c H1 a xs->R (Gf K c a xs) H1->ZiRevB K R x H1
def iRevB(K:W.Frag)(tl:TE):TI:=λσ H R=>tl σ H λx H1=>ZiRevB K R x H1
theorem Fl   {p pos:Pos} (hg:Gl X "reversed") (hm:X.mg "reversed"=none) (hl:PE X l tl) (hs:starEach [l] X.env=[(false,eval l X.env)]:=by rfl) :
 PI X tg (.Call (.Name "reversed" p) [l] [] pos) (iRevB X.K tl):=by
 intro pins s σ H R I h;refine wpAny_Call_Name_kw (iq I hg hm rW ?_);refine PyProof.Rows.callWith_type1 ?_ hs rfl;rw[hs];show wpAny _ _ (spliced ((false,eval l X.env)::backTo pos (starEach [] X.env))) _ _ s;refine Calls.spliced_cons (thn (hl pins s σ H _ I h) λu s1 ⟨x,H1,I1,r1,c,a,xs,ex,hq,q⟩=>?_);subst ex;cases r1;refine Calls.spliced_nil ?_;cases c with
 | true=>
   have hq:SqL X.K H1 a xs:=hq;have q:R (ItV X.K a xs) H1:=q;let%[its,rv,p|hz]:=I1.list hq;have hlen:=rv.length;refine call_reversed_list p.isList ?_;have hr:(s1.heap.push (revObj a ((its.toArray.size:Int)-1))).IsRevIter s1.heap.objs.size a ((xs.length:Int)-1-((0:Nat):Int)):=by
    have e:(xs.length:Int)-1-((0:Nat):Int)=(its.toArray.size:Int)-1:=by rw[zQ0];omega
    rw[e];erw[_,qA0 _ rfl,1,1]
   refine wpAny_pyIter_revIter hr ?_;erw[s1.heap.objs.size,[s1.heap.objs.size],_,_,H1,1,I1.kept (t':=s1.toks) λb o e=>zR0 _ e,zS a _ xs,%[zU0 _|hr],λb hb=>?_,q];have e:b=s1.heap.objs.size:=by simpa using hb
   subst e;exact I1.fpOk (zG0 _) (I1.hok.fresh (zG0 _))
 | false=>
   have hq:SqT X.K H1 a xs:=hq;have q:R (IC X.K a xs) H1:=q;let%[its,rv,p|hz]:=I1.tuple hq;have hlen:=rv.length;refine nj p (by rw[zQ0,←rv.length];exact hz) λtk=>?_
   have hr:RevT (s1.heap.push { cls:=.type "reversed",data:=.fields #[.ref a,rawInt ((its.toArray.size:Int)-1)] }) s1.heap.objs.size a ((xs.length:Int)-1-((0:Nat):Int)):=by
    have e:(xs.length:Int)-1-((0:Nat):Int)=(its.toArray.size:Int)-1:=by rw[zQ0];omega
    rw[e];exact qA0 _ rfl
   refine sW hr ?_;erw[s1.heap.objs.size,[s1.heap.objs.size],_,_,H1,1,I1.kept (t':=tk) λb o e=>zR0 _ e,zT a _ xs,%[zU0 _|hr],λb hb=>?_,q];have e:b=s1.heap.objs.size:=by simpa using hb
   subst e;exact I1.fpOk (zG0 _) (I1.hok.fresh (zG0 _))
end
theorem Ed{K:W.Frag}{xs:List V}{g:TG}{tb:TS}{D:Ends}{σ:St}{H:Hp}(Pv:Nat->St->Hp->Prop)(h0:Pv 0 σ H)(hl:∀i σ H,i<=xs.length->Pv i σ H->SqB K c H a xs)
 (hs:∀i x σ H,i<xs.length->xs.reverse[i]?=some x->Pv i σ H->g x σ H λσ2 H2=>tb { D with nx:=Pv (i+1),ct:=Pv (i+1),bk:=D.nx } σ2 H2) (hd:∀ σ H,Pv xs.length σ H->D.nx σ H) :
 ∃ W:Nat->Nat->St->Hp->Prop,(∃m,W 0 m σ H)/\∀i m σ H,W i m σ H ->
  ((Gf K c a xs).stop i H/\D.nx σ H)∨((Gf K c a xs).go i H/\∃N:St->Hp->Prop,(∀ σ' H',N σ' H'->∃m',m'<m/\W (i+1) m' σ' H')/\∀x H',(Gf K c a xs).yld i H x H'->g x σ H' λσ2 H2=>tb { D with nx:=N,ct:=N,bk:=D.nx } σ2 H2):=by
 cases c with
 | true=>exact Ec Pv h0 hl hs hd
 | false=>
   erw[λi m σ H=>m=xs.length-i/\i<=xs.length/\Pv i σ H,%[xs.length,by simp,zU0 _|h0],6];rintro i m σ H ⟨rfl,hi,p⟩;have q:=hl i σ H hi p
   by_cases hlt:i<xs.length
   . refine .inr %[%[q|hlt],Pv (i+1),λσ' H' p'=>%[xs.length-(i+1),3,1,hlt|p']|λx H' y=>?_];erw[e,ex]at y;subst e;exact hs i x σ _ hlt ex p
   . have e:i=xs.length:=by omega
     subst e;exact .inl %[zG0 _|hd σ H p]
set_option maxRecDepth 100000
theorem oA:fillsNumberSlot (.type "tuple") "mul"=pure false:=
 PySem.fillsNumberSlot_seq (id:="tuple.__mul__") (r:=some (.builtin "tuple.__rmul__")) F.slot_tuple_mul.lookup ⋯ F.slot_tuple_rmul.lookup ⋯
theorem uC:seqRepeat? (.type "tuple")=pure (some (.builtin "tuple.__mul__")):=by
 unfold seqRepeat?;rw[PySem.seqSlot_of (T:="tuple") (name:="__mul__") (id:="tuple.__mul__") F.slot_tuple_mul.lookup ⋯,PySem.seqSlot_of (T:="tuple") (name:="__rmul__") (id:="tuple.__rmul__") F.slot_tuple_rmul.lookup ⋯];rfl
theorem rG(a:Int)(t:Tok)(l:Addr)(items:Array Value)(n:Nat)(dd:Option Addr)(sl:Array (Option Value)) :
 Meets (Builtin.«int.__rmul__» %[[.int a t,.ref l]|[]]) (λ_ R s=>s.heap.get? l=some { cls:=.type "tuple",dict:=dd,data:=.seq items n,slots:=sl }/\R (.ok (.ret Value.notImplemented)) s):=
 .of_wp λprog w A R s h=>by erw[hp,g,d,tk,os]at s;erw[hl,h]at h;wp_walk;erw[0,h]
theorem sk(l:Addr)(items:Array Value)(n:Nat)(dd:Option Addr)(sl:Array (Option Value))(u:Tok) :
 Meets (Builtin.«tuple.__mul__» %[[.ref l,.int 1 u]|[]]) (λ_ R s=>s.heap.get? l=some { cls:=.type "tuple",dict:=dd,data:=.seq items n,slots:=sl }/\R (.ok (.ret (.ref l))) s):=
 .of_wp λprog w A R s h=>by erw[hp,g,d,tk,os]at s;erw[hl,h]at h;wp_walk;erw[0,h]
theorem qh(l:Addr)(v:Value)(n:Nat)(dd:Option Addr)(sl:Array (Option Value))(u:Tok) :
 Meets (Builtin.«tuple.__mul__» %[[.ref l,.int 0 u]|[]]) (λ_ R s=>s.heap.get? l=some { cls:=.type "tuple",dict:=dd,data:=.seq #[v] n,slots:=sl }/\R (.ok (.ret (.ref s.heap.objs.size))) { s with heap:=s.heap.push { cls:=.type "tuple",data:=.seq #[] },toks:=s.toks }):=
 .of_wp λprog w A R s h=>by erw[hp,g,d,tk,os]at s;erw[hl,h]at h;wp_walk;erw[0,h]
theorem qi(l:Addr)(v:Value)(n:Nat)(dd:Option Addr)(sl:Array (Option Value))(x:Int)(u:Tok)(h2:2<=x)(hx:x<=1000) :
 Meets (Builtin.«tuple.__mul__» %[[.ref l,.int x u]|[]]) (λ_ R s=>s.heap.get? l=some { cls:=.type "tuple",dict:=dd,data:=.seq #[v] n,slots:=sl }/\R (.ok (.ret (.ref s.heap.objs.size))) { s with heap:=s.heap.push { cls:=.type "tuple",data:=.seq ((List.replicate x.toNat #[v]).foldl (·++·) #[]) },toks:=s.toks }):=
 .of_wp λprog w A R s h=>by
  erw[hp,g,d,tk,os]at s;erw[hl,h]at h;have c1:(decide (x < -(2 ^ 63))||decide (x≥2 ^ 63))=false:=by
   rw[decide_eq_false #[0],decide_eq_false #[0]];rfl
  have c2:(x==1)=false:=by simpa using(show x≠1 by omega)
  have c3:decide (x<=0)=false:=decide_eq_false #[0];have c4:¬ ((1:Int)*x>(2 ^ 63-1) / 8):=by omega
  have c5:Builtin.Tuple.tupleTooMany (1*x)=false:=by
   unfold Builtin.Tuple.tupleTooMany
   have:(sizeLine:Int)≥1000:=by decide
   exact decide_eq_false #[0]
  wp_walk
  refine wpAny_ite_split (λhab=>by rw[c1]at hab;cases hab) (λ_=>?_);show wpAny _ _ (do let xs ←Builtin.Tuple.tupleItemsOf (Value.ref l);_) _ _ _
  wp_walk
  refine wpAny_ite_split (λhab=>absurd hab c4) (λ_=>?_);refine wpAny_ite_split (λhab=>by rw[show Builtin.Tuple.tupleTooMany (((#[v]:Array Value).size:Int)*x)=false from c5]at hab;cases hab) (λ_=>?_);have sz:((List.replicate x.toNat #[v]).foldl (·++·) #[]).size<=sizeLine:=by
   have e:(List.replicate x.toNat (#[v]:Array Value)).foldl (·++·) #[]=(List.replicate x.toNat [v]).flatten.toArray:=by
    have:=kR [v] x.toNat []
    rw[List.nil_append]at this;exact this
   rw[e,zQ0,zw];exact cv (by show x.toNat*1<=1000;omega)
  refine zD0 (wpAny_newObj_type ?_ sz);exact zI0 %[0|h]
section
variable {X:Cx}
inductive rRepT(K:W.Frag)(x:V)(y:V)(H:Hp)(Q:VK):Prop
 |mk:∀a v k,x=.ref a->y=.int k->SqT K H a [v]->0<=k->k<=1000->(k=1->Q (.ref a) H)->(k≠1->∀p,H p=none->Q (.ref p) (upd H p (.tup (List.replicate k.toNat v))))->rRepT K x y H Q
theorem vk(r:RelV v u):∀n,Vals (List.replicate n v) (List.replicate n u)
 | 0=>.nil
 | n+1=>.cons r (vk r n)
theorem Fp:OpR X (binaryOp .Mult) (rRepT X.K):=by
 intro pins s σ H x y vv u Q I rx ry h;erw[a,v,k,1,1,hq,k0,k1,q1,q2]at h;cases rx;erw[t,1]at ry;let%[its,r,p|hz]:=I.tuple hq;obtain⟨w,rfl,rw'⟩:∃w,its=[w]/\RelV v w:=by
  cases r with
  | cons h1 h2=>cases h2;erw[0,h1]
 erw[o,e,hc,n,hd]at p;erw[cls,dd,data,sl]at o;cases hc;cases hd;have e:s.heap.get? a=some { cls:=.type "tuple",dict:=dd,data:=.seq #[w] n,slots:=sl }:=e;refine wpAny_binaryOp_repeat_ref (T:="tuple") (U:="int") ⋯ %[_,e|1] (λs'=>typeIs_int s' k t) oA F.fills_int_mul F.slot_int_rmul uC F.slot_int_index.lookup
  (call_meets F.slot_int_rmul (typeIs_int s k t) F.entry_int_rmul (F.args_int_rmul_2 _ _) (rG k t a #[w] n dd sl)
   %[e,1,%[_,e|1]|6])
 by_cases c1:k=1
 . subst c1;exact call_meets F.slot_tuple_mul %[_,e|1] F.entry_tuple_mul (F.args_tuple_mul_2 _ _) (sk a #[w] n dd sl t) ⟨e,.ref a,H,I,rfl,q1 rfl⟩
 have laid:∀m:Nat,m<=1000->Inv X pins σ (upd H s.heap.objs.size (.tup (List.replicate m v))) { s with heap:=s.heap.push { cls:=.type "tuple",data:=.seq (List.replicate m w).toArray },toks:=s.toks }:=λm hm=>
  I.laid (t':=s.toks) (o:=.tup (List.replicate m v)) (λb ob q=>zR0 _ q) (zG0 _) %[by rw[List.length_replicate];exact cv hm,_,vk rw' m,IsTup.new _ _,_,qA0 _ rfl|1]
 by_cases c0:k=0
 . subst c0;exact call_meets F.slot_tuple_mul %[_,e|1] F.entry_tuple_mul (F.args_tuple_mul_2 _ _) (qh a w n dd sl t) ⟨e,.ref _,_,laid 0 ⋯,rfl,q2 ⋯ _ (I.hok.fresh (zG0 _))⟩
 . have ef:(List.replicate k.toNat (#[w]:Array Value)).foldl (·++·) #[]=(List.replicate k.toNat w).toArray:=by
    have:=kR [w] k.toNat []
    rw [List.nil_append]at this;rw[show(List.replicate k.toNat w)=(List.replicate k.toNat [w]).flatten by
     induction k.toNat with
     | zero=>rfl
     | succ m ih=>rw[List.replicate_succ,List.replicate_succ,List.flatten_cons,ih];rfl]
    exact this
   refine call_meets F.slot_tuple_mul %[_,e|1] F.entry_tuple_mul (F.args_tuple_mul_2 _ _) (qi a w n dd sl k t #[0] k1) ⟨e,?_⟩;rw[ef];erw[.ref _,_,laid k.toNat #[0],1,q2 c1 _ (I.hok.fresh (zG0 _))]
theorem CW(K:W.Frag)(hK:X.K=K:=by rfl):OpR X (binaryOp .Mult) (rRepT K):=by subst hK;exact Fp
end
section
variable {X:Cx}
inductive rDictD(xs:List V)(H:Hp)(Q:VK):Prop
 |mk:∀(a:Addr)(kvs:List (Key×V)),xs=[.ref a]->H a=some (.dK kvs)->(∀p,H p=none->Q (.ref p) (upd H p (.dK kvs)))->rDictD xs H Q
theorem yM:gC X (.type "dict") rDictD:=by
 intro pins s σ H xs us Q I r h;erw[a,kvs,1,ha,q]at h;cases r with
 | cons ra rr=>
   cases rr;cases ra;exact Er I (.inl ha) λp s' hp I'=>%[.ref p,_,I',1|q p hp]
end
theorem yN:bootBuiltins ("dict":Str)=some (.type "dict"):=by decide
end L2
namespace Mine
def Pr(n:Int):Prop:=2<=n/\∀k:Int,2<=k->k<=1000->k*k<=n->n % k≠0
def oM(n:Int)(j:Int):Prop:=∀k:Int,2<=k->k<j->k*k<=n/\n % k≠0
theorem sN{a b:Int}(h0:0<=a)(h:a<=b):a*a<=b*b:=Int.mul_le_mul h h h0 (Int.le_trans h0 h)
theorem Hq{n k:Int}(h2:2<=n)(h0:2<=k)(u:oM n k)(h:n<k*k):Pr n:=by
 erw[h2,λj j2 _ js=>?_]
 by_cases c:j<k
 . exact(u j j2 c).2
 . have:=sN (a:=k) (b:=j) #[0] #[0]
   omega
theorem Hs{n:Int}(h2:2<=n)(u:oM n 1001):Pr n:=%[h2|λj j2 j3 _=>(u j j2 #[0]).2]
theorem Hn{n k:Int}(h0:2<=k)(h1:k<=1000)(hs:k*k<=n)(h:n % k=0):¬ Pr n:=λp=>p.2 k h0 h1 hs h
theorem wX(n:Int):oM n 2:=λk a b=>by omega
theorem zR(u:oM n k)(hs:k*k<=n)(h:n % k≠0):oM n (k+1):=λj a b=>by
 by_cases c:j<k
 . exact u j a c
 . have e:j=k:=by omega
   subst e;erw[hs,h]
def prB(n:Int):Bool:=decide (2<=n)&&(List.range 999).all λi=>decide (n<((i:Int)+2)*((i:Int)+2))||decide (n % ((i:Int)+2)≠0)
theorem Fi(h:prB n=true):Pr n:=by
 unfold prB at h;rw[Bool.and_eq_true]at h;erw[of_decide_eq_true h.1,λk k2 k3 ks=>?_];have q:=List.all_eq_true.mp h.2 (k.toNat-2) (List.mem_range.mpr #[0]);have e:(((k.toNat-2:Nat):Int)+2)=k:=by omega
 rw[e,Bool.or_eq_true]at q;rcases q with q | q
 . have:=of_decide_eq_true q;omega
 . exact of_decide_eq_true q
theorem Av:Pr 999983:=Fi ⋯
theorem Ho{d:Int}(h:Pr p)(hp:p<1002001)(d0:1<d)(d1:d<p)(hd:d ∣ p):False:=by
 erw[e,he]at hd;have e0:1<e:=by
  by_cases c:e<=1
  . have:d*e<=d*1:=qX0 c #[0]
    omega
  . omega
 by_cases c:d<=e
 . have s:d*d<=p:=by
    have:=qX0 c (show(0:Int)<=d by omega)
    omega
   have t:d<=1000:=by
    by_cases c2:1001<=d
    . have:=sN (a:=1001) (b:=d) #[0] c2
      omega
    . omega
   refine h.2 d #[0] t s ?_;rw[he];exact Int.mul_emod_right d e
 . have c':e<=d:=by omega
   have s:e*e<=p:=by
    have:=Int.mul_le_mul_of_nonneg_right c' (show(0:Int)<=e by omega)
    omega
   have t:e<=1000:=by
    by_cases c2:1001<=e
    . have:=sN (a:=1001) (b:=e) #[0] c2
      omega
    . omega
   refine h.2 e #[0] t s ?_;rw[he,Int.mul_comm];exact Int.mul_emod_right e d
def Cop(x y:Int):Prop:=∀d:Int,0<d->d ∣ x->d ∣ y->d=1
theorem Ip{a:Int}(h:Pr p)(hp:p<1002001)(a0:0<a)(a1:a<p):Cop p a:=λd d0 h1 h2=>by
 have:=Int.le_of_dvd a0 h2
 by_cases c:1<d
 . exact(Ho h hp c #[0] h1).elim
 . omega
structure Eu(a p former ff rest f:Int):Prop where
 r0:0<rest
 rp:rest<p
 fr:rest<former
 f0:0<=f
 f1:f<p
 g0:0<=ff
 g1:ff<p
 cop:Cop former rest
 d1:p ∣ former-a*ff
 d2:p ∣ rest-a*f
theorem wD{a:Int}(h:Pr p)(hp:p<1002001)(a0:0<a)(a1:a<p):Eu a p p 0 (a % p) 1:=by
 have e:a % p=a:=qT0 #[0] a1;rw[e];erw[a0,a1,a1,3,3,3,3,Ip h hp a0 a1,by rw[Int.mul_zero,Int.sub_zero];exact Int.dvd_refl p,by rw[Int.mul_one,Int.sub_self];exact Int.dvd_zero p]
theorem zE(E:Eu a p former ff rest f)(h1:rest≠1):Eu a p rest f (former-former / rest*rest) ((ff-former / rest*f) % p)/\(former-former / rest*rest).toNat<rest.toNat:=by
 have r0:=E.r0;have rp:=E.rp;have em:former-former / rest*rest=former % rest:=by
  have:=Int.emod_add_mul_ediv former rest
  rw[Int.mul_comm]at this;omega
 have l0:0<=former % rest:=qC0 _ #[0];have l1:former % rest<rest:=qE0 _ r0;have cop':Cop rest (former % rest):=λd d0 x y=>by
  refine E.cop d d0 ?_ x
  have:=Int.emod_add_mul_ediv former rest
  rw[←this];exact Int.dvd_add y (Int.dvd_trans x (Int.dvd_mul_right _ _))
 have lz:former % rest≠0:=λz=>by
  have:=cop' rest r0 (Int.dvd_refl _) (by rw[z];exact Int.dvd_zero _)
  exact h1 this
 rw [em];erw[%[3,3,l1,qC0 _ #[0],qE0 _ #[0],E.f0,E.f1,cop',E.d2|6],3];have q:p ∣ (former-a*ff)-former / rest*(rest-a*f):=Int.dvd_sub E.d1 (Int.dvd_trans E.d2 (Int.dvd_mul_left _ _));have q2:p ∣ (ff-former / rest*f)-(ff-former / rest*f) % p:=Int.dvd_self_sub_emod;have q3:p ∣ a*((ff-former / rest*f)-(ff-former / rest*f) % p):=Int.dvd_trans q2 (Int.dvd_mul_left _ _);have q4:=Int.dvd_add q q3;have e2:former-a*ff-former / rest*(rest-a*f)+a*(ff-former / rest*f-(ff-former / rest*f) % p)=former % rest-a*((ff-former / rest*f) % p):=by
  rw[←em];generalize former / rest=t;generalize (ff-t*f) % p=u;rw[Int.mul_sub,Int.mul_sub,Int.mul_sub,Int.mul_left_comm t a f];omega
 rw[e2]at q4;exact q4
theorem Eh(E:Eu a p former ff rest f)(h1:rest=1)(hp:1<p):0<f/\f<p/\f*a % p=1:=by
 subst h1;have d2:=E.d2;have f0:=E.f0;have hm:f*a % p=1:=by
  erw[c,hc]at d2;have e:f*a=1+p*(-c):=by
   rw[Int.mul_comm f a,Int.mul_neg];omega
  rw[e,Int.add_mul_emod_self_left];exact qT0 #[0] hp
 erw[6,E.f1,hm]
 by_cases c:f=0
 . subst c;simp at hm
 . omega
end Mine
namespace Mine
def wS(n d:Int):Prop:=∀k:Int,3<=k->k % 2=1->k<d->n % k≠0
theorem AS(n:Int):wS n 3:=λk a _ c=>by omega
theorem Dt(u:wS n d)(hd:d % 2=1)(h:n % d≠0):wS n (d+2):=λk a b c=>by
 by_cases e:k<d
 . exact u k a b e
 . have:k=d:=by omega
   subst this;exact h
theorem Bq{n d:Int}(h3:3<=n)(h2:n % 2≠0)(h0:3<=d)(u:wS n d)(hd:n<d*d):Pr n:=by
 erw[3,λk k2 k3 ks z=>?_];let%[q|hq]:=Int.dvd_of_emod_eq_zero z
 by_cases e:k % 2=1
 . by_cases c:k<d
   . exact u k #[0] e c z
   . have:=sN (a:=d) (b:=k) #[0] #[0]
     omega
 . obtain ⟨j,hj⟩:∃j,k=2*j:=%[k / 2|3]
   rw[hj,Int.mul_assoc]at hq;omega
theorem Bs{n:Int}(h2:n % 2=0)(h3:2<n):¬ Pr n:=λp=>p.2 2 #[0] #[0] #[0] h2
theorem Br{n d:Int}(h9:n<=999999)(h0:3<=d)(hs:d*d<=n)(h:n % d=0):¬ Pr n:=λp=>by
 have t:d<=1000:=by
  by_cases c2:1001<=d
  . have:=sN (a:=1001) (b:=d) #[0] c2
    omega
  . omega
 exact p.2 d #[0] t hs h
theorem xr{n d:Int}(h9:n<=999999)(h0:3<=d)(hs:d*d<=n):d<=999:=by
 by_cases c2:1000<=d
 . have:=sN (a:=1000) (b:=d) #[0] c2
   omega
 . omega
theorem Fg{n d:Int}(h0:3<=d)(hs:d*d<=n):d<=n:=by
 have:=qX0 (show(1:Int)<=d by omega) (show(0:Int)<=d by omega)
 omega
end Mine
namespace Mine
def cF:Nat->List (List Int)
 | 0=>[[]]
 | n+1=>(cF n).flatMap λs=>[s++[0],s++[1]]
theorem oH{α β:Type}(f g:α->β):∀l:List α,(l.flatMap λs=>[f s,g s]).length=2*l.length
 | []=>rfl
 | x::r=>by
   have ih:=oH f g r;simp only[List.flatMap_cons,zJ0,zO0,List.length_nil];omega
theorem kD:∀n:Nat,(cF n).length=2 ^ n
 | 0=>rfl
 | n+1=>by rw[cF,oH,kD n,Nat.pow_succ];omega
theorem fq:∀(n:Nat)(s:List Int),s∈cF n->s.length=n
 | 0,s,h=>by
   have:s=[]:=by simpa [cF]using h
   subst this;rfl
 | n+1,s,h=>by
   rw[cF,List.mem_flatMap]at h;erw[t,ht,hs]at h
   have:=fq n t ht
   simp at hs
   rcases hs with rfl | rfl <;> simp [this]
theorem oo{n:Nat}(h:n<=6):2 ^ n<=64:=Nat.pow_le_pow_right ⋯ h
end Mine
namespace Mine
def Pm(p:Int):Prop:=1<p/\∀a:Int,¬ p ∣ a->∃f:Int,p ∣ f*a-1
theorem Eg{p:Int}(hp:1<p):∀(n:Nat){former ff rest f:Int},rest.toNat<=n->Eu a p former ff rest f->∃g:Int,g*a % p=1
 | 0,former,ff,rest,f,hn,E=>by
   have:=E.r0
   omega
 | n+1,former,ff,rest,f,hn,E=>by
   by_cases c:rest=1
   . erw[f,(Eh E c hp).2.2]
   . let%[E2|lt]:=zE E c;exact Eg hp n #[0] E2
theorem vG(h:Pr p)(hp:p<1002001):Pm p:=by
 have p1:1<p:=by have:=h.1;omega
 erw[p1,λa ha=>?_];have a0:0<a % p:=by
  have:=qC0 a (show p≠0 by omega)
  by_cases c:a % p=0
  . exact absurd (Int.dvd_of_emod_eq_zero c) ha
  . omega
 have a1:a % p<p:=qE0 _ #[0];let%[g|hg]:=Eg p1 _ (zG0 _) (wD h hp a0 a1);erw[g,6];have e1:g*a % p=1:=by rw[←hg,Int.mul_emod g (a % p),Int.emod_emod,←Int.mul_emod]
 have:=Int.emod_add_mul_ediv (g*a) p
 erw[g*a / p,3]
theorem Pm.mul{a b:Int}(h:Pm p)(hd:p ∣ a*b)(ha:¬ p ∣ a):p ∣ b:=by
 let%[f,k|hk]:=h.2 a ha;erw[m,hm]at hd;erw[f*m-k*b,by grind]
theorem Pm.not_mul{a b:Int}(h:Pm p)(ha:¬ p ∣ a)(hb:¬ p ∣ b):¬ p ∣ a*b:=λz=>hb (h.mul z ha)
def ch:Nat->Nat->Nat
 | _,0=>1
 | 0,_+1=>0
 | n+1,k+1=>ch n k+ch n (k+1)
theorem na(n:Nat):ch n 0=1:=by cases n <;> rfl
theorem oJ:∀(n k:Nat),n<k->ch n k=0
 | 0,k+1,_=>rfl
 | n+1,k+1,h=>by
   show ch n k+ch n (k+1)=0;rw[oJ n k #[0],oJ n (k+1) #[0]]
theorem FW(n:Nat):ch n n=1:=by
 induction n with
 | zero=>rfl
 | succ n ih=>
   show ch n n+ch n (n+1)=1;rw[ih,oJ n (n+1) #[0]]
theorem vf:∀(n k:Nat),(k+1)*ch (n+1) (k+1)=(n+1)*ch n k
 | 0,0=>rfl
 | 0,k+1=>by
   show(k+2)*(ch 0 (k+1)+ch 0 (k+2))=1*ch 0 (k+1);rw[oJ 0 (k+1) #[0],oJ 0 (k+2) #[0]]
   simp
 | n+1,0=>by
   have h:=vf n 0;rw[na n]at h;show(0+1)*(ch (n+1) 0+ch (n+1) (0+1))=(n+1+1)*ch (n+1) 0;rw[na (n+1)];omega
 | n+1,k+1=>by
   have h1:=vf n k;have h2:=vf n (k+1);show(k+2)*(ch (n+1) (k+1)+ch (n+1) (k+2))=(n+2)*ch (n+1) (k+1);have e:ch (n+1) (k+1)=ch n k+ch n (k+1):=rfl
   grind
def sm(f:Nat->Int):Nat->Int
 | 0=>0
 | n+1=>sm f n+f n
theorem qr{f g:Nat->Int}:∀n,(∀k,k<n->f k=g k)->sm f n=sm g n
 | 0,_=>rfl
 | n+1,h=>by
   show sm f n+f n=sm g n+g n;rw[qr n (λk hk=>h k #[0]),h n #[0]]
theorem Cj(f g:Nat->Int):∀n,sm (λk=>f k+g k) n=sm f n+sm g n
 | 0=>rfl
 | n+1=>by
   show sm (λk=>f k+g k) n+(f n+g n)=(sm f n+f n)+(sm g n+g n)
   rw[Cj f g n];omega
theorem Ch(c:Int)(f:Nat->Int):∀n,sm (λk=>c*f k) n=c*sm f n
 | 0=>by simp [sm]
 | n+1=>by
   show sm (λk=>c*f k) n+c*f n=c*(sm f n+f n)
   rw[Ch c f n]
   grind
theorem lQ(f:Nat->Int):∀n,sm f (n+1)=f 0+sm (λk=>f (k+1)) n
 | 0=>by simp [sm]
 | n+1=>by
   show sm f (n+1)+f (n+1)=f 0+(sm (λk=>f (k+1)) n+f (n+1))
   rw[lQ f n];omega
theorem Ci{p:Int}{f:Nat->Int}:∀n,(∀k,k<n->p ∣ f k)->p ∣ sm f n
 | 0,_=>%[(0)|by simp [sm]]
 | n+1,h=>Int.dvd_add (Ci n λk hk=>h k #[0]) (h n #[0])
theorem GK(a:Int):∀n:Nat,(a+1) ^ n=sm (λk=>(ch n k:Int)*a ^ k) (n+1)
 | 0=>by simp [sm,ch]
 | n+1=>by
   have ih:=GK a n;rw[Int.pow_succ,ih,lQ (λk=>((ch (n+1) k:Nat):Int)*a ^ k) (n+1)];have e1:sm (λk=>((ch (n+1) (k+1):Nat):Int)*a ^ (k+1)) (n+1)=a*sm (λk=>(ch n k:Int)*a ^ k) (n+1)+sm (λk=>(ch n (k+1):Int)*a ^ (k+1)) (n+1):=by
    rw[←Ch,←Cj];refine qr _ λk _=>?_
    have:ch (n+1) (k+1)=ch n k+ch n (k+1):=rfl
    rw[this,Int.natCast_add,Int.pow_succ]
    grind
   have e2:sm (λk=>(ch n k:Int)*a ^ k) (n+1)=1+sm (λk=>(ch n (k+1):Int)*a ^ (k+1)) (n+1):=by
    rw[lQ]
    have:sm (λk=>(ch n (k+1):Int)*a ^ (k+1)) (n+1)=sm (λk=>(ch n (k+1):Int)*a ^ (k+1)) n:=by
     show _+(ch n (n+1):Int)*a ^ (n+1)=_;rw[oJ n (n+1) #[0]]
     simp
    rw[this,na]
    simp
   rw[e1,na]
   grind
theorem Iq(h:Pm p){n k:Nat}(hn:(n:Int)+1=p)(hk:k<n):p ∣ ((ch (n+1) (k+1):Nat):Int):=by
 have e:((k:Int)+1)*((ch (n+1) (k+1):Nat):Int)=p*((ch n k:Nat):Int):=by
  have:=vf n k
  rw[←hn];exact_mod_cast this
 refine h.mul (a:=(k:Int)+1) %[_|e] λhd=>?_
 have:=Int.le_of_dvd #[0] hd
 omega
theorem rQ(h:Pm p):∀a:Nat,p ∣ (a:Int) ^ p.toNat-a
 | 0=>by
   have:p.toNat≠0:=by have:=h.1;omega
   simp [Int.zero_pow this]
 | a+1=>by
   have ih:=rQ h a;obtain⟨n,hn⟩:∃n:Nat,p.toNat=n+1:=%[p.toNat-1|by have:=h.1;omega]
   have hp:(n:Int)+1=p:=by have:=h.1;omega
   rw [hn]at ih ⊢;have b:=GK (a:Int) (n+1);have e:sm (λk=>(ch (n+1) k:Int)*(a:Int) ^ k) (n+1+1)=sm (λk=>(ch (n+1) (k+1):Int)*(a:Int) ^ (k+1)) n+(a:Int) ^ (n+1)+1:=by
    rw[lQ];show _+(sm _ n+(ch (n+1) (n+1):Int)*(a:Int) ^ (n+1))=_;rw[FW,na]
    simp
    omega
   have d:p ∣ sm (λk=>(ch (n+1) (k+1):Int)*(a:Int) ^ (k+1)) n:=Ci n λk hk=>Int.dvd_mul_of_dvd_left (Iq h hp hk)
   erw[u,hu]at ih;erw[v,hv]at d;erw[u+v,6];rw[Int.natCast_add];show((a:Int)+1) ^ (n+1)-((a:Int)+1)=_;rw[b,e]
   grind
theorem Ic{a:Int}(h:Pm p)(ha:¬ p ∣ a)(a0:0<=a):p ∣ a*a ^ (p-2).toNat-1:=by
 obtain⟨n,hn⟩:∃n:Nat,p.toNat=n+2:=%[p.toNat-2|by have:=h.1;omega]
 have e:(p-2).toNat=n:=by omega
 have f:=rQ h a.toNat;rw[Int.toNat_of_nonneg a0,hn]at f;rw[e];have g:a ^ (n+2)-a=a*(a*a ^ n-1):=by
  rw[Int.pow_succ,Int.pow_succ]
  grind
 rw[g]at f;exact h.mul f ha
def IsPoly:Nat->(Int->Int)->Prop
 | 0,f=>∀x,f x=0
 | n+1,f=>∃(a:Int)(g:Int->Int),IsPoly n g/\∀x,f x=a+x*g x
theorem IsPoly.congr:∀{n:Nat}{f g:Int->Int},IsPoly n f->(∀x,g x=f x)->IsPoly n g
 | 0,_,_,h,e=>λx=>(e x).trans (h x)
 | _+1,_,_,⟨a,k,hk,h⟩,e=>%[a,k,hk|λx=>(e x).trans (h x)]
theorem IsPoly.zero:∀n:Nat,IsPoly n λ_=>0
 | 0=>λ_=>rfl
 | n+1=>%[(0),λ_=>0,IsPoly.zero n|λx=>by simp]
theorem IsPoly.up:∀{n:Nat}{f:Int->Int},IsPoly n f->IsPoly (n+1) f
 | 0,f,h=>%[(0),λ_=>0,λ_=>rfl|λx=>by rw[h x];simp]
 | n+1,f,⟨a,g,hg,h⟩=>%[a,g,hg.up|h]
theorem IsPoly.upTo{n:Nat}{f:Int->Int}(h:IsPoly n f):∀m,n<=m->IsPoly m f:=λm hm=>by
 obtain⟨k,rfl⟩:∃k,m=n+k:=%[m-n|3]
 clear hm
 induction k with
 | zero=>exact h
 | succ k ih=>exact ih.up
theorem IsPoly.add:∀{n:Nat}{f g:Int->Int},IsPoly n f->IsPoly n g->IsPoly n λx=>f x+g x
 | 0,f,g,h,k=>λx=>by show f x+g x=0;rw[h x,k x];rfl
 | n+1,f,g,⟨a,u,hu,h⟩,⟨b,v,hv,k⟩=>%[a+b,λx=>u x+v x,hu.add hv|λx=>by show f x+g x=a+b+x*(u x+v x);rw[h x,k x];grind]
theorem IsPoly.mul(c:Int):∀{n:Nat}{f:Int->Int},IsPoly n f->IsPoly n λx=>c*f x
 | 0,f,h=>λx=>by show c*f x=0;rw[h x];simp
 | n+1,f,⟨a,u,hu,h⟩=>%[c*a,λx=>c*u x,hu.mul c|λx=>by show c*f x=c*a+x*(c*u x);rw[h x];grind]
theorem IsPoly.lin{n:Nat}{f:Int->Int}(h:IsPoly n f)(r:Int):IsPoly (n+1) λx=>(x-r)*f x:=by
 have h1:IsPoly (n+1) λx=>x*f x:=%[(0),f,h|λx=>by simp]
 exact(h1.add (h.up.mul (-r))).congr λx=>by grind
theorem IsPoly.div:∀{n:Nat}{f:Int->Int},IsPoly (n+1) f->∀r:Int,∃q,IsPoly n q/\∀x,f x-f r=(x-r)*q x
 | 0,f,⟨a,g,hg,h⟩,r=>%[λ_=>0,λ_=>rfl|λx=>by rw[h x,h r,hg x,hg r];simp]
 | n+1,f,⟨a,g,hg,h⟩,r=>by
   let%[q,hq|e]:=IsPoly.div hg r;erw[λx=>g x+r*q x,hg.add (hq.up.mul r),λx=>?_]
   have:=e x
   rw[h x,h r]
   grind
theorem IsPoly.roots(hp:Pm p):∀{n:Nat}{f:Int->Int}(rs:List Int),IsPoly n f->rs.length=n->rs.Pairwise (λa b=>¬ p ∣ b-a)->(∀r∈rs,p ∣ f r)->∀x,p ∣ f x
 | 0,f,_,h,_,_,_,x=>%[(0)|by rw[h x];simp]
 | n+1,f,[],_,hl,_,_,_=>by simp at hl
 | n+1,f,r::rs,h,hl,hd,hr,x=>by
   let%[q,hq|e]:=h.div r;have hd':=List.pairwise_cons.mp hd;have z:=IsPoly.roots hp rs hq (by simpa using hl) hd'.2 (λs hs=>by
    have h1:p ∣ (s-r)*q s:=by
     rw[←e s];exact Int.dvd_sub (hr s (qJ0 _ hs)) (hr r qB0)
    exact hp.mul h1 (hd'.1 s hs)) x
   have:f x=f r+(x-r)*q x:=by have:=e x;omega
   rw[this];exact Int.dvd_add (hr r qB0) (Int.dvd_mul_of_dvd_right z)
end Mine
namespace Mine
def pr(g:Nat->Int):Nat->Int
 | 0=>1
 | n+1=>pr g n*g n
theorem qS{f g:Nat->Int}:∀n,(∀k,k<n->f k=g k)->pr f n=pr g n
 | 0,_=>rfl
 | n+1,h=>by
   show pr f n*f n=pr g n*g n;rw[qS n (λk hk=>h k #[0]),h n #[0]]
theorem qR(g:Nat->Int):∀n,pr g (n+1)=g 0*pr (λk=>g (k+1)) n
 | 0=>by simp [pr]
 | n+1=>by
   show pr g (n+1)*g (n+1)=g 0*(pr (λk=>g (k+1)) n*g (n+1))
   rw[qR g n,Int.mul_assoc]
def px(x:Int)(i:Nat):Nat->Int
 | 0=>1
 | n+1=>if n=i then px x i n else px x i n*(x-n)
theorem zk(i:Nat):∀n,IsPoly (if i<n then n else n+1) λx=>px x i n
 | 0=>%[(1),λ_=>0,λ_=>rfl|λx=>by simp [px]]
 | n+1=>by
   have ih:=zk i n
   by_cases c:n=i
   . subst c;rw[zA0 (qU0 n)]at ih;rw[zC0 (Nat.lt_succ_self n)];exact ih.congr λx=>by simp [px]
   . have e:∀x,px x i (n+1)=(x-n)*px x i n:=λx=>by
      show(if n=i then px x i n else px x i n*(x-n))=_;rw[zA0 c,Int.mul_comm]
     by_cases c2:i<n
     . rw[zC0 c2]at ih;rw[zC0 #[0]];exact(ih.lin n).congr e
     . rw[zA0 c2]at ih;rw[zA0 #[0]];exact(ih.lin n).congr e
theorem uD{k i:Nat}(h:k≠i):∀n,k<n->px (k:Int) i n=0
 | n+1,hk=>by
   show(if n=i then px (k:Int) i n else px (k:Int) i n*((k:Int)-n))=0
   by_cases c:n=i
   . rw[zC0 c];exact uD h n #[0]
   . rw [zA0 c]
     by_cases c2:k=n
     . subst c2
       simp
     . rw [uD h n #[0]]
       simp
def lag(v u:Nat->Int)(n:Nat)(x:Int):Int:=sm (λi=>v i*px x i n*u i) n
theorem EX{n m:Nat}{f:Nat->Int->Int}:(∀i,i<m->IsPoly n (f i))->IsPoly n λx=>sm (λi=>f i x) m:=by
 induction m with
 | zero=>exact λ_=>IsPoly.zero n
 | succ m ih=>exact λh=>(ih λi hi=>h i #[0]).add (h m #[0])
theorem wj(v u:Nat->Int)(n:Nat):IsPoly n (lag v u n):=EX λi hi=>by
 have h:=zk i n;rw[zC0 hi]at h;exact(h.mul (v i*u i)).congr λx=>by grind
theorem Cg{f:Nat->Int}{k:Nat}:∀n,k<n->(∀i,i<n->i≠k->f i=0)->sm f n=f k
 | n+1,hk,h=>by
   show sm f n+f n=f k
   by_cases c:k=n
   . subst c;have z:sm f k=0:=by
      have:sm f k=sm (λ_=>0) k:=qr k λi hi=>h i #[0] #[0]
      rw[this];clear this h hk
      induction k with
      | zero=>rfl
      | succ k ih=>show sm (λ_=>0) k+0=0;rw[ih];rfl
     rw[z]
     simp
   . rw [Cg n #[0] (λi hi=>h i #[0]),h n #[0] #[0]]
     simp
def Wgt(p:Int)(n:Nat)(u:Nat->Int):Prop:=∀i,i<n->p ∣ px (i:Int) i n*u i-1
theorem yy{k:Nat}(hu:Wgt p n u)(hk:k<n):p ∣ lag v u n k-v k:=by
 unfold lag;rw[Cg n hk λi hi hne=>by rw[uD (Ne.symm hne) n hk];simp];let%[m|hm]:=hu k hk;erw[v k*m,by grind]
theorem far{p:Int}{n:Nat}(hn:(n:Int)<=p):((List.range n).map λk:Nat=>(k:Int)).Pairwise λa b=>¬ p ∣ b-a:=by
 rw[List.pairwise_map];refine List.Pairwise.imp_of_mem (fun{a b} ha hb h=>?_) List.pairwise_lt_range;intro d
 have:=Int.le_of_dvd #[0] d
 have hb':=List.mem_range.mp hb;omega
theorem alike(hp:Pm p){n:Nat}(hn:(n:Int)<=p){f g:Int->Int}(hf:IsPoly n f)(hg:IsPoly n g)(h:∀k:Nat,k<n->p ∣ f k-g k)(x:Int):p ∣ f x-g x:=by
 have hd:IsPoly n λx=>f x-g x:=(hf.add (hg.mul (-1))).congr λx=>by grind
 refine hd.roots hp ((List.range n).map λk:Nat=>(k:Int)) (by simp) (far hn) (λr hr=>?_) x;let%[k,hk|1]:=List.mem_map.mp hr;exact h k (List.mem_range.mp hk)
theorem wg(hp:Pm p){n:Nat}(hn:(n:Int)<=p){v:Nat->Int}{P:Int->Int}(hu:Wgt p n u)(hP:IsPoly n P)(h:∀k:Nat,k<n->p ∣ v k-P k)(x:Int):p ∣ lag v u n x-P x:=
 alike hp hn (wj v u n) hP (λk hk=>by
  have h1:=yy (v:=v) hu hk;have h2:=h k hk
  have:lag v u n k-P k=(lag v u n k-v k)+(v k-P k):=by omega
  rw[this];exact Int.dvd_add h1 h2) x
theorem DN(hp:Pm p){n:Nat}(hn:(n:Int)<=p)(hu:Wgt p n u)(hu':Wgt p n u')(x:Int):p ∣ lag v u n x-lag v u' n x:=
 wg hp hn hu (wj v u' n) (λk hk=>by
  let%[m|hm]:=yy (v:=v) hu' hk;erw[-m,by grind]) x
theorem qO(x:Int)(i:Nat):∀m,px x i (i+1+m)=pr (λj=>x-j) i*pr (λj=>x-(i+1+j:Nat)) m
 | 0=>by
   have h:∀k,k<=i->px x i k=pr (λj=>x-j) k:=λk=>by
    induction k with
    | zero=>exact λ_=>rfl
    | succ k ih=>
      intro hk;show(if k=i then px x i k else px x i k*(x-k))=pr (λj=>x-j) k*(x-k)
      rw[zA0 #[0],ih #[0]]
   show(if i=i then px x i i else _)=_*1;rw[zC0 rfl,h i (zG0 _),Int.mul_one]
 | m+1=>by
   show(if i+1+m=i then _ else px x i (i+1+m)*(x-(i+1+m:Nat)))=pr (λj=>x-j) i*(pr (λj=>x-(i+1+j:Nat)) m*(x-(i+1+m:Nat)))
   rw[zA0 #[0],qO x i m,Int.mul_assoc]
theorem zm(x:Int)(i:Nat):∀m,pr (λj=>x-(i+m:Nat)+j) m=pr (λj=>x-(i+1+j:Nat)) m
 | 0=>rfl
 | m+1=>by
   rw[qR];show _=pr (λj=>x-(i+1+j:Nat)) m*(x-(i+1+m:Nat))
   have e:pr (λk=>x-(i+(m+1):Nat)+(k+1:Nat)) m=pr (λj=>x-(i+m:Nat)+j) m:=qS m λk _=>by omega
   rw[e,zm x i m,Int.mul_comm]
   congr 1
   omega
def fac:Nat->Int
 | 0=>1
 | n+1=>fac n*((n:Int)+1)
theorem wC:∀n:Nat,pr (λj=>(n:Int)-j) n=fac n
 | 0=>rfl
 | n+1=>by
   rw[qR];have e:pr (λk=>((n+1:Nat):Int)-(k+1:Nat)) n=pr (λj=>(n:Int)-j) n:=qS n λk _=>by omega
   rw[e,wC n];show((n+1:Nat)-(0:Nat):Int)*fac n=fac n*((n:Int)+1)
   rw[Int.mul_comm]
   congr 1
theorem zD(i:Nat):∀m:Nat,pr (λj=>(i:Int)-(i+1+j:Nat)) m=(-1) ^ m*fac m
 | 0=>rfl
 | m+1=>by
   show pr _ m*((i:Int)-(i+1+m:Nat))=(-1) ^ (m+1)*(fac m*((m:Int)+1))
   rw[zD i m,Int.pow_succ]
   have:((i:Int)-(i+1+m:Nat))=-((m:Int)+1):=by omega
   rw[this]
   grind
theorem CJ(i m:Nat):px (i:Int) i (i+1+m)=fac i*((-1) ^ m*fac m):=by rw[qO,wC,zD]
theorem wB:∀(k d:Nat),fac d*pr (λj=>((d+k:Nat):Int)-j) k=fac (d+k)
 | 0,d=>by simp [pr]
 | k+1,d=>by
   have ih:=wB k (d+1);rw[show d+1+k=d+(k+1) by omega]at ih;rw[←ih];show fac d*(pr (λj=>((d+(k+1):Nat):Int)-j) k*(((d+(k+1):Nat):Int)-k))=fac d*((d:Int)+1)*pr (λj=>((d+(k+1):Nat):Int)-j) k
   have:(((d+(k+1):Nat):Int)-k)=(d:Int)+1:=by omega
   rw[this]
   grind
theorem ve(hp:Pm p):∀n:Nat,(n:Int)<p->¬ p ∣ fac n
 | 0,_=>λd=>by
   have:=Int.le_of_dvd ⋯ (show p ∣ 1 from d)
   have:=hp.1
   omega
 | n+1,h=>hp.not_mul (ve hp n #[0]) λd=>by
   have:=Int.le_of_dvd #[0] d
   omega
theorem yY(m:Nat):((-1:Int) ^ m)*(-1) ^ m=1:=by
 induction m with
 | zero=>rfl
 | succ m ih=>rw[Int.pow_succ];grind
theorem Hy(hp:Pm p){n i:Nat}(hn:(n:Int)<=p)(hi:i<n):¬ p ∣ px (i:Int) i n:=by
 obtain⟨m,rfl⟩:∃m,n=i+1+m:=%[n-(i+1)|3]
 rw[CJ];refine hp.not_mul (ve hp i #[0]) (hp.not_mul (λd=>?_) (ve hp m #[0]));erw[k,hk]at d;have s:=yY m
 have:p ∣ 1:=%[k*(-1) ^ m|by grind]
 have:=Int.le_of_dvd ⋯ this
 have:=hp.1
 omega
theorem EF{p:Int}{last:Nat}{sh:Nat->Int}(h:∀k,k<=last->p ∣ sh k*fac k-1):Wgt p (last+1) λi=>(-1) ^ (last-i)*(sh i*sh (last-i)):=λi hi=>by
 obtain⟨m,rfl⟩:∃m,last=i+m:=%[last-i|3]
 show p ∣ px (i:Int) i (i+m+1)*((-1) ^ (i+m-i)*(sh i*sh (i+m-i)))-1;rw[show i+m+1=i+1+m by omega,CJ,show i+m-i=m by omega];let%[a|ha]:=h i #[0];let%[b|hb]:=h m #[0];have s:=yY m;erw[a*(sh m*fac m)+b,6];have e:fac i*((-1) ^ m*fac m)*((-1) ^ m*(sh i*sh m))=((-1) ^ m*(-1) ^ m)*((sh i*fac i)*(sh m*fac m)):=by grind
 rw[e,s]
 grind
end Mine
namespace Mine
theorem IsPoly.prod:∀{m n:Nat}{f g:Int->Int},IsPoly (m+1) f->IsPoly (n+1) g->IsPoly (m+n+1) λx=>f x*g x
 | 0,n,f,g,⟨a,u,hu,e⟩,hg=>by
   rw[Nat.zero_add];exact(hg.mul a).congr λx=>by rw[e x,hu x];simp
 | m+1,n,f,g,⟨a,u,hu,e⟩,hg=>by
   have ih:=IsPoly.prod hu hg;have h1:IsPoly (m+n+1+1) λx=>x*(u x*g x):=%[(0),_,ih|λx=>by simp]
   have h2:IsPoly (m+n+1+1) λx=>a*g x:=(hg.mul a).upTo _ #[0]
   rw[show m+1+n+1=m+n+1+1 by omega];exact(h2.add h1).congr λx=>by rw[e x];grind
theorem IsPoly.const(c:Int)(n:Nat):IsPoly (n+1) λ_=>c:=%[c,λ_=>0,IsPoly.zero n|λx=>by simp]
theorem IsPoly.self:IsPoly 2 λx=>x:=%[(0),λ_=>1,IsPoly.const 1 0|λx=>by simp]
theorem rR(p x:Int):p ∣ x % p-x:=⟨-(x / p),by
 have:=Int.emod_add_mul_ediv x p
 rw[Int.mul_neg];omega⟩
end Mine
namespace Mine
open PySem L2
theorem DL{us:List Value}(h:us.length=1):∃a,us=[a]:=by
 cases us with
 | nil=>cases h
 | cons a r=>
   cases r with
   | nil=>erw[a,1]
   | cons _ _=>cases h
theorem Ba{us:List Value}{n:Nat}(h:us.length=n+1):∃a r,us=a::r/\r.length=n:=by
 cases us with
 | nil=>cases h
 | cons a r=>erw[a,r,1,Nat.succ.inj h]
theorem DK{us:List Value}(h:us.length=2):∃a b,us=[a,b]:=by
 let%[a,r,1|h1]:=Ba h;let%[b|1]:=DL h1;erw[a,b,1]
theorem FL{us:List Value}(h:us.length=3):∃a b c,us=[a,b,c]:=by
 let%[a,r,1|h1]:=Ba h;let%[b,c|1]:=DK h1;erw[a,b,c,1]
theorem HJ{us:List Value}(h:us.length=4):∃a b c d,us=[a,b,c,d]:=by
 let%[a,r,1|h1]:=Ba h;let%[b,c,d|1]:=FL h1;erw[a,b,c,d,1]
theorem len5{us:List Value}(h:us.length=5):∃a b c d e,us=[a,b,c,d,e]:=by
 let%[a,r,1|h1]:=Ba h;let%[b,c,d,e|1]:=HJ h1;erw[a,b,c,d,e,1]
theorem len6{us:List Value}(h:us.length=6):∃a b c d e f,us=[a,b,c,d,e,f]:=by
 let%[a,r,1|h1]:=Ba h;let%[b,c,d,e,f|1]:=len5 h1;erw[a,b,c,d,e,f,1]
theorem len7{us:List Value}(h:us.length=7):∃a b c d e f g,us=[a,b,c,d,e,f,g]:=by
 let%[a,r,1|h1]:=Ba h;let%[b,c,d,e,f,g|1]:=len6 h1;erw[a,b,c,d,e,f,g,1]
def top(i:Nat):Stmt:=PySem.Challenge.pw_asktally_k62_whole_honest_is_believed.main.body.getD i (.Pass %[(0),(0),(0)|(0)])
abbrev oh:Stmt:=top 22
abbrev jp:Stmt:=top 23
abbrev iJ:Stmt:=top 31
abbrev jt:Stmt:=top 32
abbrev jV:Stmt:=top 33
abbrev hR:Stmt:=top 34
abbrev iD:Stmt:=top 35
abbrev dH:Stmt:=top 36
abbrev iL:Stmt:=top 37
abbrev lB:Stmt:=top 38
abbrev iC:Stmt:=top 39
abbrev gH:Stmt:=top 40
abbrev uf:Stmt:=top 42
abbrev gt:Stmt:=top 43
abbrev hZ:Stmt:=top 45
abbrev jr:Stmt:=top 46
abbrev qF:Stmt:=top 47
abbrev lF:Stmt:=top 48
abbrev gZ:Stmt:=top 49
abbrev kG:Stmt:=top 50
abbrev ji:Stmt:=top 51
abbrev kc:Stmt:=top 53
abbrev lA:Stmt:=top 54
abbrev qG:Stmt:=top 57
abbrev xI:Stmt:=top 58
abbrev lE:Stmt:=top 60
abbrev jq:Stmt:=top 61
abbrev jX:Stmt:=top 62
abbrev jg:Stmt:=top 64
abbrev hV:Stmt:=top 65
abbrev jZ:Stmt:=top 69
abbrev gu:Stmt:=top 70
abbrev jj:Stmt:=top 71
abbrev jk:Stmt:=top 72
abbrev jW:Stmt:=top 73
abbrev iK:Stmt:=top 75
abbrev ly:Stmt:=top 77
abbrev kf:Stmt:=top 78
abbrev gY:Stmt:=top 79
abbrev lC:Stmt:=top 80
abbrev dO:Stmt:=top 81
abbrev kh:Stmt:=top 84
abbrev jh:Stmt:=top 88
abbrev lD:Stmt:=top 89
abbrev oi:Stmt:=top 90
abbrev ju:Stmt:=top 95
abbrev qz:Stmt:=top 96
abbrev nU:Stmt:=top 99
abbrev dR:Stmt:=top 100
abbrev jY:Stmt:=top 101
abbrev nZ:Stmt:=top 103
abbrev qE:Stmt:=top 104
abbrev qB:Stmt:=top 105
abbrev ci:Stmt:=top 106
abbrev lZ:Stmt:=top 107
abbrev gG:Stmt:=top 108
abbrev qC:Stmt:=top 109
abbrev jo:Stmt:=top 110
abbrev oa:Stmt:=top 111
abbrev qD:Stmt:=top 112
abbrev og:Stmt:=top 113
abbrev kI:Stmt:=top 114
abbrev hU:Stmt:=top 115
abbrev jm:Stmt:=top 116
abbrev lY:Stmt:=top 117
section
variable {P:Program} {w:World} {K:W.Frag} {mg:Str->Option Value} {base:Heap}
abbrev dj:Stmt:=top 83
abbrev kg:Stmt:=top 86
abbrev kH:Stmt:=top 93
abbrev uk:Stmt:=top 68
structure Bl(mg:Str->Option Value):Prop where
 len:mg "len"=none
 range:mg "range"=none
 isinstance:mg "isinstance"=none
 int:mg "int"=none
 bool:mg "bool"=none
 list:mg "list"=none
 tuple:mg "tuple"=none
 max:mg "max"=none
 min:mg "min"=none
 reversed:mg "reversed"=none
 enumerate:mg "enumerate"=none
 sum:mg "sum"=none
 all:mg "all"=none
 zip:mg "zip"=none
 dict:mg "dict"=none
 str:mg "str"=none
theorem zC(z:Int):0<=z % 2147483646+1/\z % 2147483646+1<=2147483646:=by omega
theorem gi:FnScope ["_law_script","_law_k","_law_cell","_law_own"] ["_law_script","_law_k"] (aq qE):=%[1,1,1,4,1,4|4]
theorem AG   (F:Fun K "_law_feed" "_law_feed" qE f fd) (hlen:mg "len"=none):FnOk P w K mg base CX0 1 f fd ["_law_script","_law_k"] (spFeed K):=by
 exists gi
 erw[a,ns,k,1,hS,h63,k0,k1,q]at h;refine⟨_,(ae #[ax,2,gi,az aX (az cw aj (pv 1)) aj]
  (ae (aO (ao eO (pv 1) (aM aN rfl hlen PySem.boot_len %[0|ag]) (aE _)) (ai #[ax,2,gi,aP ix_list (pv 0) (pv 1) (λ_ _=>rfl)]) (ai (aO (ao iR (aM aN rfl hlen PySem.boot_len %[0|ag]) aj (aE _)) (ai #[ax,2,gi,az aX (az cw (az bd (aP ix_list (pv 0) (az bd (pv 1) (aM aN rfl hlen PySem.boot_len %[0|ag])) (λ_ _=>rfl)) aj) aj) (az cw aj (pv 1))]) aF)))
  (ae #[ax,3,gi,aj]
  (ae (aO (ao Gw (pv 2) (az HB aj aj) (aE _)) (ai #[ax,3,gi,pv 2]) aF)
  (ai (au (ca %[3,az aX (az bd (az aX (az cw (az bd (pv 2) aj) aj) (az cw aj (pv 1))) aj) aj|ag]))))))),?_⟩
 have hl:(ns.map V.int).length=ns.length:=zF0 _;have hp:(10:Int) ^ (18:Int).toNat=1000000000000000000:=by decide
 erw[0,2,.inl %[4|4],2,6];erw[0,0,a,0,.inl hS,2,0,6];refine pO (λc=>?b1) (λc=>?b2)
 case' b1=>
  have c':k<(((ns.map V.int).length:Nat):Int):=of_decide_eq_true c;rw[hl]at c';let%[v|hv]:=Ex (ns:=ns) k0 c';erw[0,0,a,_,2,hS,hv,6]
 case' b2=>
  erw[0,a,0,.inl hS,2,0,6];refine pO (λc2=>?b3) (λc2=>?b4)
  case' b3=>
   have c':(0:Int)<(((ns.map V.int).length:Nat):Int):=of_decide_eq_true c2;have m0:=qC0 k (b:=(((ns.map V.int).length:Nat):Int)) #[0];have m1:=qE0 k c';let%[v|hv]:=Ex (ns:=ns) m0 (by rw[hl]at m1 ⊢;exact m1);have n0:=qC0 v (b:=2147483629) ⋯;have n1:=qE0 v (b:=2147483629) ⋯;erw[0,0,0,a,0,.inl hS,2,c',a,_,2,hS,hv,2,(by show(0:Int)<_;decide),2,.inr %[4|4],0,2,.inl %[4|4],2,6]
 all_goals
  erw[0,2,%[4,4|4],2,0,6];refine pO (λc3=>?_) (λc3=>?_)
  . have c4:=of_decide_eq_true c3;rw[hp]at c4;erw[0,0,0,2,(by show(0:Int)<_;decide),2,.inr %[4|4],0,2,.inl %[4|4],2,2,(by show(0:Int)<_;decide),2,(by show 2<=sizeLine;decide),λp hp=>?_];refine q p _ hp (zE0 hp _) %[_,_,am,Int.le_trans ⋯ c4,(zC _).1|(zC _).2]
  . erw[0,0,2,(by show(0:Int)<_;decide),2,.inr %[4|4],0,2,.inl %[4|4],2,2,(by show(0:Int)<_;decide),2,(by show 2<=sizeLine;decide),λp hp=>?_];refine q p _ hp (zE0 hp _) %[_,_,am,Int.le_refl 0,(zC _).1|(zC _).2]
theorem oT:FnScope ["_law_feed_here","_law_many","_law_digit","_law_one"] ["_law_feed_here","_law_many"] (aq qB):=%[1,1,1,4,1,4|4]
theorem AC   (F:Fun K "_law_take" "_law_take" qB f fd):FnOk P w K mg base CX0 1 f fd ["_law_feed_here","_law_many"] spTake:=by
 exists oT
 erw[f,m,1,%[own,st,hf,o0,s0|s1],m0,m1,q]at h;refine⟨_,(ae (aO (ao iR (aP ix_list (pv 0) aj (λ_ _=>rfl)) aj (aE _)) (ae #[ax,2,oT,az bd (aP ix_list (pv 0) aj (λ_ _=>rfl)) (pv 1)]
  (ae (xN (az CZ (aP ix_list (pv 0) aj (λ_ _=>rfl)) (pv 1)) (xT (pv 0) aj qv))
  (ai (au (pv 2))))) aF)
  (ae #[ax,3,oT,az bd (az cw (aP ix_list (pv 0) aj (λ_ _=>rfl)) aj) aj]
  (ae (xN (az aX (az bd (az aX (az cw (pv 3) aj) aj) aj) aj) (xT (pv 0) aj qv))
  (ai (au (az bd (az zq (az aX (az cw (pv 3) aj) (aP ix_list (pv 0) aj (λ_ _=>rfl))) aj) (pv 1))))))),?_⟩
 erw[0,f,_,(0),0,1,zH0 hf,1,2,0,6];refine pO (λc=>?_) (λc=>?_)
 . erw[0,f,_,(0),0,1,zH0 hf,1,0,2,m0,6];erw[0,f,_,(0),0,1,zH0 hf,1,0,2,%[m0|m1],0,f,_,(0),(0),1,1,hf,1,6];erw[0,6];exact q _ _ (qC0 _ #[0]) (qE0 _ m0) ⟨_,_,am,Int.ediv_nonneg o0 #[0],s0,s1⟩ (SameBut.upd _)
 . have a0:=qC0 (st*69621) (b:=2147483647) ⋯;have a1:=qE0 (st*69621) (b:=2147483647) ⋯;erw[0,f,_,(1),0,1,zH0 hf,1,2,.inr %[4|4],2,(by show(0:Int)<_;decide),6];erw[0,2,.inr %[4|4],2,2,(by show(0:Int)<_;decide),2,0,f,_,(1),(1),1,1,hf,1,6];have b0:=qC0 (st*69621 % 2147483647*48271+30103) (b:=2147483646) ⋯;have b1:=qE0 (st*69621 % 2147483647*48271+30103) (b:=2147483646) ⋯;erw[0,2,.inr %[4|4],0,f,_,(1),0,1,zH0 am,1,2,2,%[4|4],0,2,m0,6];exact q _ _ (qC0 _ #[0]) (qE0 _ m0) ⟨_,_,am,o0,by omega,by omega⟩ (SameBut.upd _)
theorem iB:FnScope ["_law_feed_here","_law_names_here","_law_room","_law_deep","_law_form","_law_more","_law_one","_law_word"] ["_law_feed_here","_law_names_here","_law_room","_law_deep"] (aq lZ):=%[1,1,1,4,1,4|4]
theorem lf{a X Y B:Prop}[Decidable a](x:X)(h:¬ a->X->B):if decide a=true then(if true=true then X else Y)else B:=by
 by_cases c:a
 . rw[decide_eq_true c];exact dU (dU x)
 . rw[decide_eq_false c];exact cO (h c x)
theorem Aa {n:Nat}   (F:Fun K "_law_tree" "_law_tree" lZ f fd) (hlen:mg "len"=none) (aR:Cal P w K mg base 1 "_law_take" ["_law_feed_here","_law_many"] spTake)
 (gg:Cal P w K mg base (n+2) "_law_tree" ["_law_feed_here","_law_names_here","_law_room","_law_deep"] (spTree n)):FnOk P w K mg base CX0 (n+3) f fd ["_law_feed_here","_law_names_here","_law_room","_law_deep"] (spTree (n+1)):=by
 exists iB
 erw[f,a,room,deep,ns,1,hF,hN,nl,r1,r100,d1,dn,q]at h;refine⟨_,(ae #[ax,4,iB,aB aR hr (Nat.succ_le_succ (zU0 _)) rfl %[0,aj|ag]]
  (ae (aO (PW.pt (ig (ao eO (pv 2) aj (aE _)) (ig (ao eO (pv 3) aj (aE _)) (gy (ao aW (pv 4) aj (aE _)))))) (ae (aO (PW.pt (ig (ao aW (az bd (pv 4) aj) aj (aE _)) (gy (ao aW (aM aN rfl hlen PySem.boot_len %[1|ag]) aj (aE _))))) (ai (au (aP ix_list (ca %[aV %[aJ|ag],aV %[aJ|ag]|ag]) (aB aR hr (Nat.succ_le_succ (zU0 _)) rfl %[0,aj|ag]) (λ_ _=>rfl)))) aF)
   (ai (au (aV %[aJ,aP (ix_list.or ix_tup) (pv 1) (aB aR hr (Nat.succ_le_succ (zU0 _)) rfl %[0,aM aN rfl hlen PySem.boot_len %[1|ag]|ag]) (λ_ _=>rfl)|ag])))) aF)
  (ae (aO (PW.pt (ig (ao eO (pv 2) aj (aE _)) (gy (ao aW (pv 4) aj (aE _))))) (ai (au (aV %[aJ,aB gg hr (zG0 _) rfl %[0,1,az bO (pv 2) aj,az bO (pv 3) aj|ag]|ag]))) aF)
  (ae #[ax,5,iB,az aX aj (aB aR hr (Nat.succ_le_succ (zU0 _)) rfl %[0,az bO (pv 2) aj|ag])]
  (ae #[ax,6,iB,aB gg hr (zG0 _) rfl %[0,1,5,az bO (pv 3) aj|ag]]
  (ae #[ax,7,iB,aP ix_list (ca %[aJ,aJ,aJ,aJ|ag]) (az bd (pv 4) aj) (λ_ _=>rfl)]
  (ai (au (aV %[7,6,aB gg hr (zG0 _) rfl %[0,1,az bO (az bO (pv 2) aj) (pv 5),az bO (pv 3) aj|ag]|ag]))))))))),?_⟩
 erw[0,f,(10),1,hF,4,4,λfm H1 f0 f10 F1 S1=>?_];have N1:=hN.feed hF S1;erw[0,2,0,6];refine lf ?leaf λc1 hX=>?_
 case leaf=>
  erw[0,2,(by show(0:Int)<_;decide),1,0,6];refine lf ?yn λc6 hY=>?_
  case yn=>
   erw[(by show 1<=sizeLine;decide),λp1 h1=>?_];erw[(by show 1<=sizeLine;decide),λp2 h2=>?_];erw[(by show 2<=sizeLine;decide),λl hl=>?_];have ga:=zE0 h1 (.tup [.str "yes"]);have gb:=zE0 h2 (.tup [.str "no"]);have gc:=zE0 hl (.lst [.ref p1,.ref p2]);have G:=ga.trans (gb.trans gc);have nlf:=(F1.same (ga.trans gb)).ne hl;erw[0,f,(2),1,F1.same G,4,4,λd H2 d0 d2 F2 S2=>?_];have y2:H2 p1=some (.tup [.str "yes"]):=ir (F1.same G) S2 _ _ (gc _ _ (gb _ _ am));have n2:H2 p2=some (.tup [.str "no"]):=ir (F1.same G) S2 _ _ (gc _ _ am);have l2:=S2 l _ nlf am
   have:d=0∨d=1:=by omega
   rcases this with rfl | rfl
   . erw[l,_,(0),0,1,zH0 l2,1,q (.ref p1) .yes H2 F2 (S1.trans ((zK0 G).trans S2)) (.yes y2) trivial (show(1:Int)<=room from r1) (show(1:Int)<=deep from d1)]
   . erw[l,_,(1),0,1,zH0 l2,1,q (.ref p2) .no H2 F2 (S1.trans ((zK0 G).trans S2)) (.no n2) trivial (show(1:Int)<=room from r1) (show(1:Int)<=deep from d1)]
  erw[0,a,0,N1.seq,1,0,6]
  by_cases c7:V.int ((ns.map V.str).length:Int)=V.int 0
  . exact bb c7 hY
  refine aI c7 ?_;have nz:0<ns.length:=by
   have z:¬ ((ns.map V.str).length:Int)=0:=λz=>c7 (congrArg V.int z)
   rw[zF0]at z;omega
  erw[0,0,0,a,0,N1.seq,f,0,F1,(show(0:Int)<((ns.map V.str).length:Int) by rw[zF0];omega),by rw[zF0];omega,λd H2 d0 d9 F2 S2=>?_];let%[v,hv|vm]:=tL (l:=ns.map V.str) (i:=d) d0 d9;let%[x,hx|1]:=List.mem_map.mp vm;refine(N1.feed F1 S2).ix hv ?_;erw[(by show 2<=sizeLine;decide),λp hp=>?_];have G:=zE0 hp (.tup [.str "is",.str x]);exact q (.ref p) (.is x) _ (F2.same G) (S1.trans (S2.trans (zK0 G))) (.is am) hx (show(1:Int)<=room from r1) (show(1:Int)<=deep from d1)
 erw[0,2,0,6]
 by_cases c2:deep<2
 . exact bb c2 (dU hX)
 refine aI c2 ?_;erw[0,1,0,6]
 by_cases c3:V.int fm=V.int 9
 . exact bb c3 hX
 refine aI c3 ?_;erw[0,2,0,6];have d2:2<=deep:=by omega
 have dd:1<=deep-1:=by omega
 have ddn:deep-1+1<=(n:Int)+1:=by omega
 refine lf ?nt λc4 hN=>?_
 case nt=>
  erw[0,0,0,2,0,2,f,a,_,_,ns,1,F1,N1,nl,(show 1<=room-1 by omega),3,dd,ddn,λv1 t1 H3 F3 S3 T1 o1 z1 p1=>?_];erw[(by show 2<=sizeLine;decide),λp hp=>?_];have G5:=zE0 hp (.tup [.str "not",v1]);refine q (.ref p) (.not t1) _ (F3.same G5) (S1.trans (S3.trans (zK0 G5))) (.not am (T1.mono (aZ G5))) o1 ?_ ?_
  . show((t1.size+1:Nat):Int)<=room;omega
  . show((t1.depth+1:Nat):Int)<=deep;omega
 erw[0,1,0,6]
 by_cases c5:V.int fm=V.int 8
 . exact bb c5 hN
 refine aI c5 ?_;erw[0,0,2,f,0,F1,(show(0:Int)<room-2 by omega),(show room-2<2 ^ 63 by omega),λe H2 e0 e1 F2 S2=>?_];erw[2,6];have N2:=N1.feed F1 S2;erw[0,0,0,0,2,f,a,_,_,ns,1,F2,N2,nl,3,3,dd,ddn,λv1 t1 H3 F3 S3 T1 o1 z1 p1=>?_];have N3:=N2.feed F2 S3;erw[(by show 4<=sizeLine;decide),λl hl=>?_];let%[wd,hw|wm]:=tL (l:=joinW.map V.str) (i:=fm % 4) #[0] (by
  have:(joinW.map V.str).length=4:=by rfl
  omega)
 let%[x,hx|1]:=List.mem_map.mp wm;erw[0,2,(by show(0:Int)<_;decide),l,_,2,zH0 am,hw,6];have G:=zE0 hl (.lst [.str "and",.str "or",.str "odd",.str "same"]);erw[0,0,0,0,0,2,0,2,0,2,f,a,_,_,ns,1,F3.same G,N3.same G,nl,(show 1<=room-1-(1+e) by omega),3,dd,ddn,λv2 t2 H4 F4 S4 T2 o2 z2 p2=>?_];erw[(by show 3<=sizeLine;decide),λp hp=>?_];have G5:=zE0 hp (.tup [.str x,v1,v2]);have T1':TreeAt H4 v1 t1:=(T1.mono (aZ G)).mono (ir (F3.same G) S4);refine q (.ref p) (.bin x t1 t2) _ (F4.same G5) (S1.trans (S2.trans (S3.trans ((zK0 G).trans (S4.trans (zK0 G5)))))) (.bin am (T1'.mono (aZ G5)) (T2.mono (aZ G5))) %[hx,o1|o2] ?_ ?_
 . show((t1.size+t2.size+1:Nat):Int)<=room;omega
 . show((max t1.depth t2.depth+1:Nat):Int)<=deep;omega
theorem zZ  :FnOk P w K mg base CX0 2 f fd ["_law_feed_here","_law_names_here","_law_room","_law_deep"] (spTree 0):=by
 have no:∀vs H Q E,¬ spTree 0 vs H Q E:=λvs H Q E h=>by
  erw[f,a,room,deep,ns,_,_,_,_,_,_,h1,h2,_]at h;omega
 erw[λvs H Q E h=>absurd h (no vs H Q E),λA outer s H args us vs Q E _ _ _ _ h=>absurd h (no vs H Q E)]
theorem sS   (F:Fun K "_law_tree" "_law_tree" lZ f fd) (hlen:mg "len"=none) (m:mg "_law_tree"=some (.ref f)) (aR:Cal P w K mg base 1 "_law_take" ["_law_feed_here","_law_many"] spTake) :
 ∀n:Nat,FnOk P w K mg base CX0 (n+2) f fd ["_law_feed_here","_law_names_here","_law_room","_law_deep"] (spTree n)
 | 0=>zZ
 | n+1=>Aa F hlen aR (Cal.of F (sS F hlen m aR n) m (λ_ _ _ _ _ _ us hl=>by let%[u0,u1,u2,u3|1]:=HJ hl;rfl))
def HS:Stmt->List Stmt
 | .If _ b _ _=>b
 | _=>[]
def HR:Stmt->Expr
 | .If c _ _ _=>c
 | _=>.Constant .none 0 %[(0),(0),(0)|(0)]
def BM:Stmt->Expr
 | .Assign _ v _=>v
 | .Return (some v) _=>v
 | _=>.Constant .none 0 %[(0),(0),(0)|(0)]
def yG:Expr->List Expr
 | .List es _=>es
 | .BinOp _ _ (.List es _) _=>es
 | .Subscript (.List es _) _ _=>es
 | _=>[]
abbrev stm(s:Stmt)(i:Nat):Stmt:=(fN s).getD i (.Pass %[(0),(0),(0)|(0)])
abbrev EV(s:Stmt)(i j:Nat):Stmt:=(HS (stm s i)).getD j (.Pass %[(0),(0),(0)|(0)])
def wordsA:List Str:=["is","set","say","if","go","end","num","box","op","field","holds","claims"]
def wordsB:List Str:=["nota","nob","yesx","andy","ors","oddly"]
def wordsC:List Str:=["samey","rounds","dues","coins","truex","asks"]
@[irreducible] def yp:List Expr:=yG (BM (EV ci 6 0))
@[irreducible] def yo:List Expr:=yG (BM (EV ci 6 1))
@[irreducible] def ym:List Expr:=yG (BM (EV ci 6 2))
theorem DB:Consts yp wordsA:=by
 unfold yp;exact .cons (.cons (.cons (.cons (.cons (.cons (.cons (.cons (.cons (.cons (.cons (.cons .nil)))))))))))
theorem Dz:Consts yo wordsB:=by
 unfold yo;exact .cons (.cons (.cons (.cons (.cons (.cons .nil)))))
theorem Dy:Consts ym wordsC:=by
 unfold ym;exact .cons (.cons (.cons (.cons (.cons (.cons .nil)))))
theorem yk:∃p1 p2 p3 p4 p5 p6 p7 p8 p9 q1 q2 q3 q4 q5,fN ci=[stm ci 0,stm ci 1,stm ci 2,stm ci 3,stm ci 4,stm ci 5,
 .If (HR (stm ci 6)) [.Assign [.Name "_law_words" p1] (.List yp p2) p3,.Assign [.Name "_law_words" p4] (.BinOp (.Name "_law_words" p5) .Add (.List yo p6) p7) p8,.Assign [.Name "_law_words" p9] (.BinOp (.Name "_law_words" q1) .Add (.List ym q2) q3) q4,EV ci 6 3] [] q5,stm ci 7]:=
 %[_,_,_,_,_,_,_,_,_,_,_,_,_,_|by rfl']
def LTR:Str:="bcdfghjklmnpqrstvwxz"
theorem HH:∀c∈LTR.cps.toList,c≠97:=by decide
theorem yx:∀c∈LTR.cps.toList,97<=c/\c<=122:=by decide
theorem BG:∀x∈(wordsA++wordsB)++wordsC,x.length<=20/\(∀c∈x.cps.toList,97<=c/\c<=122)/\x≠"aa":=by decide
inductive spNamesN(vs:List V)(H:Hp)(Q:VK)(u_3:XK):Prop
 |mk:∀(f:Addr)(m:Int),vs=[.ref f,.int m]->FeedAt H f->0<=m->m<=6->(∀(l:Addr)(ns:List Str)(H':Hp),H l=none->l≠f->H' l=some (.lst (ns.map V.str))->ns.length=m.toNat->(∀x∈ns,yQ x)->ns.Nodup->FeedAt H' f->SameBut f H H'->Q (.ref l) H')->spNamesN vs H Q u_3
theorem zP:∀x∈(wordsA++wordsB)++wordsC,∃c∈x.cps.toList,c∉LTR.cps.toList:=by decide
theorem FI:∀a b:Fin 20,LTR.cps.toList[a.val]?=LTR.cps.toList[b.val]?->a=b:=by decide
theorem Dx{ns:List Str}{t:Nat}{u:Int}(u0:0<=u)(u20:u<20)(hl:ns.length<=6)(h:∀(k:Nat) x,ns[k]?=some x->x.cps.toList[t]?=LTR.cps.toList[((u+7*(k:Int)) % 20).toNat]?):ns.Nodup:=by
 refine List.pairwise_iff_getElem.mpr λi j hi hj ij e=>?_
 have h1:=h i _ (zM0 hi);have h2:=h j _ (zM0 hj);rw[e]at h1;have h3:=h1.symm.trans h2;have h4:=FI %[((u+7*(i:Int)) % 20).toNat|3] ⟨((u+7*(j:Int)) % 20).toNat,by omega⟩ h3;have h5:=congrArg Fin.val h4;simp only at h5;omega
theorem HE{ns:List Str}{x:Str}{j:Nat}(h:ns.Nodup)(hx:x∉ns):(ns.set j x).Nodup:=by
 refine List.pairwise_iff_getElem.mpr λa b ha hb ab=>?_
 rw[List.length_set]at ha hb;rw[List.getElem_set,List.getElem_set]
 split
 . split
   . omega
   . intro e;exact hx (e▸qP0 hb)
 . split
   . intro e;exact hx (e▸qP0 ha)
   . exact List.pairwise_iff_getElem.mp h a b ha hb ab
theorem Iy{α:Type}{l:List α}{i:Int}{v:α}(h0:0<=i)(h:atI l i=some v):l[i.toNat]?=some v:=by
 have ek:((i.toNat:Nat):Int)=i:=by omega
 by_cases c:i.toNat<l.length
 . have q:atI l ((i.toNat:Nat):Int)=some l[i.toNat]:=cE (zM0 c);rw[ek,h]at q;rw[zM0 c];exact q.symm
 . exfalso
   unfold atI ixN at h;rw[zC0 h0,zA0 #[0]]at h;cases h
theorem Ca{zs:List Str}(h:∀z∈zs,z.length=1/\∀c∈z.cps.toList,c∈LTR.cps.toList):(zs.map (·.length)).sum=zs.length:=by
 induction zs with
 | nil=>rfl
 | cons a r ih=>
   rw[zY0,List.sum_cons,ih λz hz=>h z (qJ0 _ hz),(h a qB0).1,zO0];omega
theorem b6:FnScope ["_law_feed_here","_law_many","_law_letters","_law_common","_law_at","_law_first","_law_found","_law_k","_law_tail","_law_sign","_law_words"] ["_law_feed_here","_law_many"] (aq ci):=%[1,1,1,4,1,4|4]
theorem mO{p:Addr}(F:FeedAt H f)(h:p≠f):FeedAt (upd H p o) f:=by
 erw[x,t,e,r]at F;erw[x,t,by rw[aG (Ne.symm h)];exact e,r]
theorem ya   (F:Fun K "_law_names" "_law_names" ci f fd) (hrange:mg "range"=none) (aR:Cal P w K mg base 1 "_law_take" ["_law_feed_here","_law_many"] spTake):FnOk P w K mg base CX0 2 f fd ["_law_feed_here","_law_many"] spNamesN:=by
 exists b6
 erw[f,m,1,hF,m0,m6,q]at h;erw[p1,p2,p3,p4,p5,p6,p7,p8,p9,q1,q2,q3,q4,q5,ebody]at yk;rw[ebody];refine⟨_,(ae (ax (i:=2) b6.nd rfl (Or.inr rfl) aJ)
  (ae (ax (i:=3) b6.nd rfl (.inl rfl) (dw PySem.F.plainAttrs_str PySem.F.slot_str_join PySem.F.type_str_join jB aJ (aa (cM (N:=["_law_letters","_law_feed_here"]) (ix:=[2,0]) rfl
   (CompScope.two (by rfl') ⋯ rfl ⋯ rfl ⋯ (by first | exact Or.inl rfl | exact Or.inr rfl) (by rfl') (by rfl') (by rfl') (by rfl') rfl rfl (by rfl') rfl rfl) rfl
   (bX rfl hrange %[aj|ag])
   (λ_ _ _=>db (aP uX (pv 1) (aB aR hr ⋯ rfl %[2,aj|ag]) (λ_ _=>rfl)))) ag)))
  (ae #[ax,4,b6,aB aR hr ⋯ rfl %[0,aj|ag]]
  (ae #[ax,5,b6,aB aR hr ⋯ rfl %[0,aj|ag]]
  (ae #[ax,6,b6,ca ag]
  (ae (cI PassesOwn.never rfl (bX rfl hrange %[1|ag]) (bt (i:=7) b6.nd rfl (.inl rfl)) (ae #[ax,8,b6,az bd (aB aR hr ⋯ rfl %[0,az bO aj (pv 4)|ag]) aj]
   (ae #[ax,9,b6,aP uX (pv 2) (az bd (az aX (pv 5) (az cw aj (pv 7))) aj) (λ_ _=>rfl)]
   (ai (ba (dw PySem.F.plainAttrs_list PySem.F.slot_list_append PySem.F.type_list_append cz (pv 6) %[az rc (az rc (eK xt (pv 3) jy (eJ (pv 4))) (pv 9)) (eK xt (pv 3) (eJ (pv 4)) (eJ (az aX (pv 4) (pv 8))))|ag]))))))
  (ae (aO (PW.pt (lH (ao iR (pv 1) aj (aE _)) (kK (ao aW (aB aR hr ⋯ rfl %[0,aj|ag]) aj (aE _))))) (ae #[ax,10,b6,ca (kM DB)]
   (ae #[ax,10,b6,az ox (pv 10) (ca (kM Dz))]
   (ae #[ax,10,b6,az ox (pv 10) (ca (kM Dy))]
   (ai (xN (aP ix_list (pv 10) (aB aR hr ⋯ rfl %[0,aj|ag]) (λ_ _=>rfl)) (xT (pv 6) (aB aR hr ⋯ rfl %[0,1|ag]) qv)))))) aF)
  (ai (au (pv 6)))))))))),?_⟩
 erw[1,(5),1,4,4,λD hD=>?_];have Df:=hF.ne hD;have L20:LTR.cps.toList.length=20:=by decide
 refine eC (λi H'=>∃zs:List Str,H' D=some (.lst (zs.map V.str))/\zs.length=i/\(∀z∈zs,z.length=1/\∀c∈z.cps.toList,c∈LTR.cps.toList)/\FeedAt H' f/\SameBut f H H') %[[],by rw[am];rfl,1,by simp,hF.same (zE0 hD _)|zK0 (zE0 hD _)] ?_ ?_
 . rintro i H3 hi ⟨zs,hl,zl,z1,F3,S3⟩;have i5:i<5:=hi;erw[0,0,f,(20),1,F3,4,4,λd H4 d0 d26 F4 S4=>?_];let%[c,hc|hm]:=tL (l:=LTR.cps.toList) (i:=d) d0 (by rw[L20];exact d26);have hD4:H4 D=some (.lst (zs.map V.str)):=S4 D _ Df hl;erw[_,d,c,1,1,cv ⋯,hc,_,hD4,6,Nx.of hi %[zs++[⟨#[c]⟩],6,6,6,mO F4 Df|6]]
   . rw[zF0,zl];exact aS (Nat.le_of_lt (Nat.lt_trans i5 ⋯))
   . rw[am,zL0];rfl
   . rw[zJ0,qG0,zl]
   . intro z hz;rcases qM0 hz with h | h
     . exact z1 z h
     . rw [zS0 h];erw[1,λc' hc'=>?_]
       have:c'=c:=by simpa using hc'
       subst this;exact hm
   . intro b o hb e;rw[aG (aQ e hD)];exact S4 b o hb (S3 b o hb e)
 rintro H3 ⟨zs,hl,zl,z1,F3,S3⟩;have sl:=Ca z1;have zl5:zs.length=5:=zl;erw[_,D,zs,1,1,zH0 hl,⋯,3,6];have jl:(Txt.join "" zs).length=5:=by
  have:=size_glued "" zs
  have e0:(("":Str)).length=0:=by decide
  rw[e0,Nat.mul_zero]at this;show(Builtin.Str.glued "" zs).length=5;omega
 have jc:∀c∈(Txt.join "" zs).cps.toList,c∈LTR.cps.toList:=λc hc=>by
  let%[z,hz|h]:=AX hc;exact(z1 z hz).2 c h
 generalize Txt.join "" zs=cm at jl jc;erw[0,f,(6),1,F3,4,4,λt H4 t0 t6 F4 S4=>?_];erw[0,f,(20),1,F4,4,4,λu H5 u0 u20 F5 S5=>?_];erw[(by show 0<=sizeLine;decide),λL hL=>?_];have S05:SameBut f H H5:=S3.trans (S4.trans S5);have Lf:=F5.ne hL;have L0:H L=none:=by
  cases e:H L with
  | none=>rfl
  | some o=>rw[S05 L o Lf e]at hL;cases hL
 refine⟨_,rfl,m,rfl,by omega,by omega,dq (λi σ H'=>∃(x7 x8 x9:Option V)(ns:List Str),σ=[some (.ref f),some (.int m),some (.str LTR),some (.str cm),some (.int t),some (.int u),some (.ref L),x7,x8,x9,none]/\H' L=some (.lst (ns.map V.str))/\ns.length=i/\(∀x∈ns,yQ x)/\(∀x∈ns,∀c∈x.cps.toList,c∈LTR.cps.toList)/\(∀(k:Nat) x,ns[k]?=some x->x.cps.toList[t.toNat]?=LTR.cps.toList[((u+7*(k:Int)) % 20).toNat]?)/\FeedAt H' f/\SameBut f H H')
  %[_,_,_,[],1,by rw[am];rfl,1,by simp,by simp,by simp,F5.same (zE0 hL _)|S05.trans (zK0 (zE0 hL _))] ?_ ?_⟩
 . rintro i σ H6 hi ⟨x7,x8,x9,ns,rfl,hns,nl,nok,nlt,nat,F6,S6⟩;erw[0,0,2,f,0,F6,(Int.sub_pos_of_lt t6),(Int.lt_of_le_of_lt (Int.sub_le_self 6 t0) ⋯),λd H7 d0 d1 F7 S7=>?_];erw[2,(by show(0:Int)<_;decide),6];let%[c,hc|hm]:=tL (l:=LTR.cps.toList) (i:=(u+7*(0+(i:Int))) % 20) (qC0 _ ⋯) (by rw[L20];exact qE0 _ ⋯);erw[0,0,0,2,6,2,2,(by show(0:Int)<_;decide),_,_,c,1,1,cv ⋯,hc,6]
   . exact .inl %[4|4]
   have hL7:=S7 L _ Lf hns;have z1:(Txt.slice cm none (some t)).length<=cm.length:=Txt.slice_le cm none (some t);have z2:(Txt.slice cm (some t) (some (t+d % 3))).length<=cm.length:=Txt.slice_le cm _ _;have z3:((%[|#[c]]:Str)).length=1:=rfl;erw[0,.inl %[1,_|zH0 hL7],6];erw[0,0,0,0,cv (by rw[jl];decide),0,2,cv (by rw[z3];omega),6];erw[0,0,0,0,0,2,0,0,cv (by rw[jl];decide),2,cv (by rw[Str.length_append,z3];omega),6];erw[L,2,hL7,6,6]
   . rw[zF0];exact aS #[0]
   erw[_,_,_,ns++[(Txt.slice cm none (some t)++%[|#[c]])++Txt.slice cm (some t) (some (t+d % 3))],1,6,6,6,6,6,mO F7 Lf,6]
   . rw[am,zL0];rfl
   . rw[zJ0,qG0,nl]
   . intro x hx;rcases qM0 hx with h | h
     . exact nok x h
     . rw [zS0 h];erw[6,λc' hc'=>?_,λea=>?_]
       . rw[Str.length_append,Str.length_append,z3];omega
       rotate_left
       . have cm1:c∈(((Txt.slice cm none (some t)++%[|#[c]])++Txt.slice cm (some t) (some (t+d % 3)):Str)).cps.toList:=by
          rw[Str.cps_append,Str.cps_append]
          simp
         rw[ea]at cm1;exact HH c hm ((by decide:∀c∈(("aa":Str)).cps.toList,c=97) c cm1)
       . rcases mem_append hc' with h | h
         . rcases mem_append h with h | h
           . exact yx _ (jc _ (kP h))
           . have:c'=c:=by simpa using h
             subst this;exact yx _ hm
         . exact yx _ (jc _ (kP h))
   . intro x hx c' hc';rcases qM0 hx with h | h
     . exact nlt x h c' hc'
     . rw [zS0 h]at hc';rcases mem_append hc' with h | h
       . rcases mem_append h with h | h
         . exact jc _ (kP h)
         . have:c'=c:=by simpa using h
           subst this;exact hm
       . exact jc _ (kP h)
   . intro k x hx
     by_cases ck:k<ns.length
     . rw[List.getElem?_append_left ck]at hx;exact nat k x hx
     . have kl:k<(ns++[(Txt.slice cm none (some t)++%[|#[c]])++Txt.slice cm (some t) (some (t+d % 3))]).length:=(zX0 hx).1;rw[zJ0,qG0]at kl;have ek:k=i:=by omega
       subst ek;rw[List.getElem?_append_right #[0],nl,Nat.sub_self]at hx;have ex:(Txt.slice cm none (some t)++%[|#[c]])++Txt.slice cm (some t) (some (t+d % 3))=x:=zT0 hx;rw[←ex];have cl:cm.cps.toList.length=5:=jl;have es:Txt.slice cm none (some t)=⟨((cm.cps.toList.drop 0).take (t-0).toNat).toArray⟩:=StrLaws.sliceText_to ⟨t0,by omega⟩;have el:(Txt.slice cm none (some t)).cps.toList.length=t.toNat:=by
        rw[es];simp only[List.drop_zero,Int.sub_zero,qK0];omega
       have ea:((Txt.slice cm none (some t)++%[|#[c]])++Txt.slice cm (some t) (some (t+d % 3))).cps.toList=(Txt.slice cm none (some t)).cps.toList++([c]++(Txt.slice cm (some t) (some (t+d % 3))).cps.toList):=by
        rw[Str.cps_append,Str.cps_append]
        simp
       rw[ea,List.getElem?_append_right #[0],el,Nat.sub_self];have hc2:LTR.cps.toList[((u+7*(0+(k:Int))) % 20).toNat]?=some c:=Iy (qC0 _ ⋯) hc;rw[Int.zero_add]at hc2;rw[hc2];rfl
   . intro b o hb e;rw[aG (aQ e L0)];exact S7 b o hb (S6 b o hb e)
 . rintro σ H6 ⟨x7,x8,x9,ns,rfl,hns,nl,nok,nlt,nat,F6,S6⟩;have nnd:ns.Nodup:=Dx u0 u20 #[0] nat;erw[0,2,0,6];have fin:∀H':Hp,∀ns:List Str,H' L=some (.lst (ns.map V.str))->ns.length=m.toNat->(∀x∈ns,yQ x)->ns.Nodup->FeedAt H' f->SameBut f H H'->Q (.ref L) H':=λH' ns a b c nd d e=>q L ns H' L0 Lf a b c nd d e
   by_cases c1:(0:Int)<m
   . refine bb c1 ?_;erw[0,f,(3),1,F6,4,4,λd H7 d0 d1 F7 S7=>?_];erw[1,0,6];have hL7:=S7 L _ Lf hns;refine pO (λ_=>?_) (λ_=>?_)
     . erw[(by show 12<=sizeLine;decide),λl1 h1=>?_];erw[0,(by show 6<=sizeLine;decide),λl2 h2=>?_];erw[l1,l2,wordsA.map V.str,wordsB.map V.str,1,1,zE0 h2 _ _ _ am,am,(by show 18<=sizeLine;decide),λl3 h3=>?_];erw[0,(by show 6<=sizeLine;decide),λl4 h4=>?_];erw[l3,l4,wordsA.map V.str++wordsB.map V.str,wordsC.map V.str,1,1,zE0 h4 _ _ _ am,am,(by show 24<=sizeLine;decide),λl5 h5=>?_];have G:=(zE0 h1 (.lst (wordsA.map V.str))).trans ((zE0 h2 (.lst (wordsB.map V.str))).trans ((zE0 h3 (.lst (wordsA.map V.str++wordsB.map V.str))).trans ((zE0 h4 (.lst (wordsC.map V.str))).trans (zE0 h5 (.lst ((wordsA.map V.str++wordsB.map V.str)++wordsC.map V.str))))));have F8:=F7.same G;have n5:=(F7.same ((zE0 h1 (.lst (wordsA.map V.str))).trans ((zE0 h2 (.lst (wordsB.map V.str))).trans ((zE0 h3 (.lst (wordsA.map V.str++wordsB.map V.str))).trans (zE0 h4 (.lst (wordsC.map V.str))))))).ne h5;erw[0,0,f,(24),1,F8,4,4,λe H9 e0 e1 F9 S9=>?_];let%[v,hv|vm]:=tL (l:=(wordsA.map V.str++wordsB.map V.str)++wordsC.map V.str) (i:=e) e0 (by
        have:((wordsA.map V.str++wordsB.map V.str)++wordsC.map V.str).length=24:=by rfl
        omega)
       rw[←zL0,←zL0]at vm;let%[x,hx|1]:=List.mem_map.mp vm;erw[l5,_,e,0,1,zH0 (S9 l5 _ n5 am),hv,6];erw[0,0,0,f,m,1,F9,c1,3,λj H10 j0 j1 F10 S10=>?_];have hL10:=S10 L _ Lf (S9 L _ Lf (G L _ hL7));erw[L,_,j,j.toNat,1,1,hL10,6,6]
       . have jl:j<((ns.map V.str).length:Int):=by rw[zF0];omega
         unfold ixN;rw[zC0 j0,zC0 jl]
       erw[0,6];refine fin _ (ns.set j.toNat x) (by rw[am,List.map_set]) (by rw[List.length_set];exact nl) ?_ ?_ (mO F10 Lf) ?_
       . intro y hy;rcases List.mem_or_eq_of_mem_set hy with h | h
         . exact nok y h
         . rw[h];exact BG x hx
       . refine HE nnd λhm=>?_
         let%[c,c1|c2]:=zP x hx;exact c2 (nlt x hm c c1)
       . intro b o hb e';rw[aG (aQ e' L0)];exact S10 b o hb (S9 b o hb (G b o (S7 b o hb (S6 b o hb e'))))
     . erw[0,6];exact fin H7 ns hL7 nl nok nnd F7 (S6.trans S7)
   . refine aI c1 ?_;refine cO ?_;erw[0,6];exact fin H6 ns hns nl nok nnd F6 S6
theorem gQ{x:Str}:∀{ns:List Str},x∈ns->∃j,eI x ns=some j/\j<ns.length
 | [],h=>by cases h
 | a::r,h=>by
   unfold eI
   by_cases c:a=x
   . erw[(0),by rw[zC0 c],by simp]
   . rw [zA0 c];rcases zW0 h with e | e
     . exact absurd e.symm c
     . let%[j,h1|h2]:=gQ e;erw[j+1,by rw[h1];rfl,by simpa using h2]
theorem iA{a b:Str}(h:V.str a=V.str b):a=b:=by injection h
def eg (p:Int) (o:Str) (x y:Int):Int:=if o="and" then x*y % p else if o="or" then(x+y-x*y) % p else if o="odd" then(x+y-2*(x*y)) % p else(1-(x+y-2*(x*y))) % p
def Tr.worth(ns:List Str)(pt:List Int)(p:Int):Tr->Int
 | .is x=>match eI x ns with | some j=>pt.getD j 0 | none=>0
 | .yes=>1
 | .no=>0
 | .not a=>(1-a.worth ns pt p) % p
 | .bin o a b=>eg p o (a.worth ns pt p) (b.worth ns pt p)
def cj(pt:List Int)(p:Int):Prop:=∀x∈pt,0<=x/\x<p
theorem Bf{p:Int}(hp:0<p)(o:Str)(x y:Int):0<=eg p o x y/\eg p o x y<p:=by
 have key:∀z:Int,0<=z % p/\z % p<p:=λz=>%[qC0 _ #[0]|qE0 _ hp]
 unfold eg
 repeat' split
 all_goals exact key _
theorem rP{l:List Int}{j:Nat}(h:j<l.length):l.getD j 0=l[j]:=by
 rw[qL0,zM0 h];rfl
theorem worth_rng{ns:List Str}{p:Int}(hp:1<p)(h:cj pt p)(hl:pt.length=ns.length):∀t:Tr,t.ok ns->0<=t.worth ns pt p/\t.worth ns pt p<p
 | .is x,ok=>by
   let%[j,hj|jl]:=gQ ok;show 0<=(match eI x ns with | some j=>pt.getD j 0 | none=>0)/\(match eI x ns with | some j=>pt.getD j 0 | none=>0)<p;rw[hj];show 0<=pt.getD j 0/\pt.getD j 0<p;rw[rP #[0]];exact h _ (qP0 _)
 | .yes,_=>%[by show(0:Int)<=1;decide|hp]
 | .no,_=>%[Int.le_refl 0|by show(0:Int)<p;omega]
 | .not a,_=>%[qC0 _ #[0]|qE0 _ #[0]]
 | .bin o a b,_=>Bf #[0] _ _ _
inductive spJW(vs:List V)(H:Hp)(Q:VK)(u_3:XK):Prop
 |mk:∀(o:Str)(x y p:Int),vs=[.str o,.int x,.int y,.int p]->0<=x->x<p->p<2 ^ 40->Q (.int (eg p o x y)) H->spJW vs H Q u_3
theorem gB:FnScope ["word","first","second","p","both","odd"] ["word","first","second","p"] (aq hV):=%[1,1,1,4,1,4|4]
theorem pM   (F:Fun K "joined_worth" "joined_worth" hV f fd):FnOk P w K mg base CX0 1 f fd ["word","first","second","p"] spJW:=by
 exists gB
 erw[o,x,y,p,1,x0,xp,pb,k]at h;refine⟨_,(ae #[ax,4,gB,az cw (pv 1) (pv 2)]
  (ae (aO (ao aW (pv 0) aJ (aE _)) (ai (au (az bd (pv 4) (pv 3)))) aF)
  (ae (aO (ao aW (pv 0) aJ (aE _)) (ai (au (az bd (az bO (az aX (pv 1) (pv 2)) (pv 4)) (pv 3)))) aF)
  (ae #[ax,5,gB,az bO (az aX (pv 1) (pv 2)) (az cw aj (pv 4))]
  (ae (aO (ao aW (pv 0) aJ (aE _)) (ai (au (az bd (pv 5) (pv 3)))) aF)
  (ai (au (az bd (az bO aj (pv 5)) (pv 3))))))))),?_⟩
 erw[0,0,2,.inl %[3|3],6];erw[0,1,0,6]
 by_cases c1:V.str o=V.str "and"
 . refine bb c1 ?_;have e:eg p o x y=x*y % p:=by unfold eg;rw[zC0 (iA c1)]
   rw[e]at k;erw[0,0,2,(show(0:Int)<p by omega),k]
 refine aI c1 ?_;have n1:¬ o="and":=λz=>c1 (by rw[z])
 erw[0,1,0,6]
 by_cases c2:V.str o=V.str "or"
 . refine bb c2 ?_;have e:eg p o x y=(x+y-x*y) % p:=by unfold eg;rw[zA0 n1,zC0 (iA c2)]
   rw[e]at k;erw[0,0,2,0,2,0,2,(show(0:Int)<p by omega),k]
 refine aI c2 ?_;have n2:¬ o="or":=λz=>c2 (by rw[z])
 erw[0,0,2,0,2,.inl %[4|4],2,6];erw[0,1,0,6]
 by_cases c3:V.str o=V.str "odd"
 . refine bb c3 ?_;have e:eg p o x y=(x+y-2*(x*y)) % p:=by unfold eg;rw[zA0 n1,zA0 n2,zC0 (iA c3)]
   rw[e]at k;erw[0,0,2,(show(0:Int)<p by omega),k]
 refine aI c3 ?_;have n3:¬ o="odd":=λz=>c3 (by rw[z])
 have e:eg p o x y=(1-(x+y-2*(x*y))) % p:=by unfold eg;rw[zA0 n1,zA0 n2,zA0 n3]
 rw[e]at k;erw[0,2,0,2,(show(0:Int)<p by omega),k]
inductive spWorth(n:Nat)(vs:List V)(H:Hp)(Q:VK)(u_3:XK):Prop
 |mk:∀(v:V)(t:Tr)(a b:Addr)(ns:List Str)(pt:List Int)(p:Int),vs=[v,.ref a,.ref b,.int p]->TreeAt H v t->t.ok ns->t.depth<=n->NamesAt H a ns->H b=some (.tup (pt.map V.int))->pt.length=ns.length->1<p->p<2 ^ 40->cj pt p->Q (.int (t.worth ns pt p)) H->spWorth n vs H Q u_3
theorem j4:FnScope ["tree","switches","point","p","word","first"] ["tree","switches","point","p"] (aq jg):=%[1,1,1,4,1,4|4]
theorem wV {n:Nat}   (F:Fun K "worth_of" "worth_of" jg f fd) (c8:Cal P w K mg base 1 "joined_worth" ["word","first","second","p"] spJW) (eZ:Cal P w K mg base (n+2) "worth_of" ["tree","switches","point","p"] (spWorth n)):FnOk P w K mg base CX0 (n+3) f fd ["tree","switches","point","p"] (spWorth (n+1)):=by
 exists j4
 erw[v,t,a,b,ns,pt,p,1,T,ok,dn,hN,hb,sl,p1,p40,po,k]at h;have p0:(0:Int)<p:=by omega
 refine⟨_,(ae #[ax,4,j4,aP ix_tup (pv 0) aj (λ_ _=>rfl)]
  (ae (aO (ao aW (pv 4) aJ (aE _)) (ai (au (az bd (aP ix_tup (pv 2) (vI PySem.F.plainAttrs_list PySem.F.plainAttrs_tuple (pv 1) %[aP ix_tup (pv 0) aj (λ_ _=>rfl)|ag]) (λ_ _=>rfl)) (pv 3)))) aF)
  (ae (aO (ao aW (pv 4) aJ (aE _)) (ai (au aj)) aF)
  (ae (aO (ao aW (pv 4) aJ (aE _)) (ai (au aj)) aF)
  (ae #[ax,5,j4,aB eZ hr (zG0 _) rfl %[aP ix_tup (pv 0) aj (λ_ _=>rfl),1,2,3|ag]]
  (ae (aO (ao aW (pv 4) aJ (aE _)) (ai (au (az bd (az bO aj (pv 5)) (pv 3)))) aF)
  (ai (au (aB c8 hr #[0] rfl %[4,5,aB eZ hr (zG0 _) rfl %[aP ix_tup (pv 0) aj (λ_ _=>rfl),1,2,3|ag],3|ag]))))))))),?_⟩
 cases T with
 | @is q x e=>
   erw[0,q,_,(0),0,1,zB0 e,1,6];erw[0,1,0,6];refine bb rfl ?_;let%[j,hj|jl]:=gQ ok;have jl':j<pt.length:=by omega
   erw[0,0,a,ns,1,hN,0,q,_,(1),0,1,zB0 e,1,1,x,j,1,hj,b,_,(j:Int),.int pt[j],1,1,zB0 hb,6,0,2,p0,6]
   . refine cE ?_;rw[zZ0,zM0 jl'];rfl
   . have e1:(Tr.is x).worth ns pt p=pt[j] % p:=by
      show(match eI x ns with | some j=>pt.getD j 0 | none=>0)=_;rw[hj];show pt.getD j 0=_;rw[rP jl']
      have:=po _ (qP0 jl')
      rw[qT0 this.1 this.2]
     rw[e1]at k;exact k
 | @yes q e=>
   erw[0,q,_,(0),0,1,zB0 e,1,6];erw[0,1,0,6];refine aI ⋯ ?_;erw[0,1,0,6];exact bb rfl k
 | @no q e=>
   erw[0,q,_,(0),0,1,zB0 e,1,6];erw[0,1,0,6];refine aI ⋯ ?_;erw[0,1,0,6];refine aI ⋯ ?_;erw[0,1,0,6];exact bb rfl k
 | @not q u r e T1=>
   have dp:r.depth+1<=n+1:=dn;erw[0,q,_,(0),0,1,zB0 e,1,6];erw[0,1,0,6];refine aI ⋯ ?_;erw[0,1,0,6];refine aI ⋯ ?_;erw[0,1,0,6];refine aI ⋯ ?_;erw[0,q,_,(1),0,1,zB0 e,1,0,0,0,u,r,a,b,ns,pt,p,1,T1,ok,3,hN,hb,sl,p1,p40,po,6];erw[0,1,0,6];refine bb rfl ?_;erw[0,2,0,2,p0,k]
 | @bin q o u u2 r r2 e T1 T2=>
   erw[ho,ok1,ok2]at ok;have dp:max r.depth r2.depth+1<=n+1:=dn;have ne:∀z:Str,z∉joinW->¬ V.str o=V.str z:=λz hz h=>hz (iA h▸ho)
   erw[0,q,_,(0),0,1,zB0 e,1,6];erw[0,1,0,6];refine aI (ne _ ⋯) ?_;erw[0,1,0,6];refine aI (ne _ ⋯) ?_;erw[0,1,0,6];refine aI (ne _ ⋯) ?_;erw[0,q,_,(1),0,1,zB0 e,1,0,0,0,u,r,a,b,ns,pt,p,1,T1,ok1,3,hN,hb,sl,p1,p40,po,6];erw[0,1,0,6];refine aI (ne _ ⋯) ?_;have wr:=worth_rng p1 po sl r ok1;erw[0,0,0,q,_,(2),0,1,zB0 e,1,0,0,0,u2,r2,a,b,ns,pt,p,1,T2,ok2,3,hN,hb,sl,p1,p40,po,6];erw[0,o,_,_,p,1,wr.1,wr.2,p40,k]
theorem wU  :FnOk P w K mg base CX0 2 f fd ["tree","switches","point","p"] (spWorth 0):=by
 have no:∀vs H Q E,¬ spWorth 0 vs H Q E:=λvs H Q E h=>by
  erw[v,t,_,_,_,_,_,_,_,_,h1,_]at h
  have:=t.depth_pos
  omega
 erw[λvs H Q E h=>absurd h (no vs H Q E),λA outer s H args us vs Q E _ _ _ _ h=>absurd h (no vs H Q E)]
theorem oW   (F:Fun K "worth_of" "worth_of" jg f fd) (m:mg "worth_of"=some (.ref f)) (c8:Cal P w K mg base 1 "joined_worth" ["word","first","second","p"] spJW) :
 ∀n:Nat,FnOk P w K mg base CX0 (n+2) f fd ["tree","switches","point","p"] (spWorth n)
 | 0=>wU
 | n+1=>wV F c8 (Cal.of F (oW F m c8 n) m (λ_ _ _ _ _ _ us hl=>by let%[u0,u1,u2,u3|1]:=HJ hl;rfl))
theorem gR{H:Hp}{b:Addr}{ys zs:List V}(h:H b=some (.lst ys)):∀a xs,H a=some (.tup xs)->(upd H b (.lst zs)) a=some (.tup xs):=λa xs e=>by
 rw[aG]
 . exact e
 . intro z;rw[z,h]at e;cases e
theorem at0(x:V)(xs:List V):atI (x::xs) 0=some x:=cE (j:=0) rfl
theorem pe{ts:List Tr}{i:Nat}{u:Tr}(h:ts[i]?=some u):ip (ts.take (i+1))=ip (ts.take i)++u.names:=by
 unfold ip;rw[qI0,h,zL0,List.flatten_append]
 simp
theorem rA(ts:List Tr):(ip ts).length<=iP ts:=by
 induction ts with
 | nil=>simp [ip,iP]
 | cons a r ih=>
   have:=a.names_len
   simp only[ip,iP,zY0,List.flatten_cons,zJ0,List.sum_cons]at ih ⊢;omega
theorem qu(ts:List Tr)(i:Nat):iP (ts.take i)<=iP ts:=by
 induction ts generalizing i with
 | nil=>simp
 | cons a r ih=>
   cases i with
   | zero=>simp [iP]
   | succ i=>
     have:=ih i
     simp only[iP,List.take_succ_cons,zY0,List.sum_cons]at this ⊢;omega
inductive spNO(n:Nat)(vs:List V)(H:Hp)(Q:VK)(u_3:XK):Prop
 |mk:∀(v:V)(t:Tr),vs=[v]->TreeAt H v t->t.wf->t.depth<=n->t.size<=400->(∀(l:Addr)(H':Hp),H l=none->Same H H'->H' l=some (.lst (t.names.map V.str))->Q (.ref l) H')->spNO n vs H Q u_3
theorem f9:FnScope ["_law_tree_here","_law_found","_law_part"] ["_law_tree_here"] (aq gG):=%[1,1,1,4,1,4|4]
theorem FD {n:Nat}   (F:Fun K "_law_names_of" "_law_names_of" gG f fd) (eY:Cal P w K mg base (n+2) "_law_names_of" ["_law_tree_here"] (spNO n)):FnOk P w K mg base CX0 (n+3) f fd ["_law_tree_here"] (spNO (n+1)):=by
 exists f9
 erw[v,t,1,T,wf,dn,sz,q]at h;refine⟨_,(ae (aO (ao aW (aP ix_tup (pv 0) aj (λ_ _=>rfl)) aJ (aE _)) (ai (au (ca %[aP ix_tup (pv 0) aj (λ_ _=>rfl)|ag]))) aF)
  (ae #[ax,1,f9,ca ag]
  (ae (cI PassesOwn.never rfl (io (eK tS (pv 0) (eJ aj) jy)) (bt (i:=2) f9.nd rfl (.inl rfl)) (ai #[ax,1,f9,az ox (pv 1) (aB eY hr (zG0 _) rfl %[2|ag])]))
  (ai (au (pv 1)))))),?_⟩
 rcases T.view wf with⟨a,x,rfl,rfl,_,e⟩ | ⟨a,o,xs,rfl,no,xl0,e,TS0,nis⟩
 . erw[0,a,_,(0),0,1,zB0 e,1,1,0,6];refine bb rfl ?_;erw[0,a,_,(1),0,1,zB0 e,1,(by show 1<=sizeLine;decide),λp hp=>?_];exact q p _ hp (zE0 hp _) am
 . erw[0,a,_,(0),.str o,1,1,zB0 e,at0 ..,1,0,6];refine aI (λz=>no (by injection z)) ?_;erw[(by show 0<=sizeLine;decide),λL hL=>?_];have G0:=zE0 hL (.lst []);let%[c1|c2]:=cut1 (.str o) xs xl0;erw[0,(1),1,a,0,zB0 (G0 _ _ e),c2,λp hp=>?_];rw[c1];have G1:=zE0 hp (.tup xs);have hp1:upd (upd H L (.lst [])) p (.tup xs) p=some (.tup xs):=am;have hL1:upd (upd H L (.lst [])) p (.tup xs) L=some (.lst []):=G1 _ _ am;have S1:Same H (upd (upd H L (.lst [])) p (.tup xs)):=G0.trans G1;generalize upd (upd H L (.lst [])) p (.tup xs)=H1 at hp1 hL1 S1;have TS:=TS0.mono (aZ S1);have xl:=TS.length;have sp:=t.size_parts;erw[p,1,%[_|zB0 hp1],vd (K:=K) (xs:=xs) (λi σ H'=>∃(M:Addr)(x2:Option V),σ=[some (.ref a),some (.ref M),x2]/\H M=none/\H' M=some (.lst ((ip (t.parts.take i)).map V.str))/\Same H1 H') %[L,0,hL,hL1|Same.refl _] (λi σ H' _ hst=>by erw[_,_,_,_,_,h]at hst;exact zB0 (h _ _ hp1)) ?_ ?_]
   . rintro i x σ H2 hx ⟨M,x2,rfl,M0,hM,S2⟩;let%[u,hu|Tu]:=TS.get hx;have um:=qH0 hu;let%[uw,ud|us]:=Tr.parts_mem um wf;erw[0,0,x,u,1,Tu.mono (aZ S2),uw,3,3,λl H3 l0 S3 hl3=>?_];have nl:=u.names_len;have nl2:=rA (t.parts.take i);have nl3:=qu t.parts i;erw[M,l,2,S3 _ _ hM,hl3,6,λr hr0=>?_]
     . rw[zF0,zF0];exact cv #[0]
     . have S4:=(S2.trans S3).trans (zE0 hr0 (.lst ((ip (t.parts.take i)).map V.str++u.names.map V.str)));erw[r,0,(S1.trans (S2.trans S3)).free hr0,6,S4];rw[am,pe hu,zL0]
   . rintro σ H2 ⟨M,x2,rfl,M0,hM,S2⟩;rw[xl,qF0,←t.names_parts nis]at hM;erw[0,q M H2 M0 (S1.trans S2) hM]
theorem FC  :FnOk P w K mg base CX0 2 f fd ["_law_tree_here"] (spNO 0):=by
 have no:∀vs H Q E,¬ spNO 0 vs H Q E:=λvs H Q E h=>by
  erw[v,t,_,_,_,h1,_]at h
  have:=t.depth_pos
  omega
 erw[λvs H Q E h=>absurd h (no vs H Q E),λA outer s H args us vs Q E _ _ _ _ h=>absurd h (no vs H Q E)]
theorem lm   (F:Fun K "_law_names_of" "_law_names_of" gG f fd) (m:mg "_law_names_of"=some (.ref f)) :
 ∀n:Nat,FnOk P w K mg base CX0 (n+2) f fd ["_law_tree_here"] (spNO n)
 | 0=>FC
 | n+1=>FD F (Cal.of F (lm F m n) m (λ_ _ _ _ _ _ us hl=>by let%[u0|1]:=DL hl;rfl))
theorem rS(ns:List Str)(z:Str):((ns.map V.str).countP λy=>eqV y (.str z))=ns.count z:=by
 rw[List.countP_map];rfl
inductive spNeed(vs:List V)(H:Hp)(Q:VK)(u_3:XK):Prop
 |mk:∀(a b:Addr)(ns:List Str)(tv:List V)(ts:List Tr),vs=[.ref a,.ref b]->H a=some (.lst (ns.map V.str))->H b=some (.lst tv)->TreesAt H tv ts->ts.length<=10->(∀t∈ts,t.wf/\t.depth<=10/\t.size<=400)->(∀(m:Int)(H':Hp),Same H H'->2<=m->m<=400->(ts.length:Int)<=m+1->(∀t∈ts,∀x∈ns,(t.names.count x:Int)<=m)->Q (.int m) H')->spNeed vs H Q u_3
theorem gn:FnScope ["_law_names_here","_law_trees","_law_need_here","_law_tree_here","_law_found","_law_name"] ["_law_names_here","_law_trees"] (aq qC):=%[1,1,1,4,1,4|4]
theorem AD   (F:Fun K "_law_need" "_law_need" qC f fd) (hlen:mg "len"=none) (hmax:mg "max"=none) (eY:Cal P w K mg base 12 "_law_names_of" ["_law_tree_here"] (spNO 10)):FnOk P w K mg base CX0 13 f fd ["_law_names_here","_law_trees"] spNeed:=by
 exists gn
 erw[a,b,ns,tv,ts,1,ha,hb,TS,tl,tok,q]at h;refine⟨_,(ae #[ax,2,gn,aM (oK rfl) rfl hmax PyProof.Rows.boot_max %[aj,az bO (aM aN rfl hlen PySem.boot_len %[1|ag]) aj|ag]]
  (ae (cI PassesOwn.never rfl (gI (pv 1)) (bt (i:=3) gn.nd rfl (.inl rfl)) (ae #[ax,4,gn,aB eY hr ⋯ rfl %[3|ag]]
   (ai (cI PassesOwn.never rfl (gI (pv 0)) (bt (i:=5) gn.nd rfl (.inl rfl)) (ai #[ax,2,gn,aM (oK rfl) rfl hmax PyProof.Rows.boot_max %[2,dw PySem.F.plainAttrs_list PySem.F.slot_list_count PySem.F.type_list_count vW (pv 4) %[5|ag]|ag]])))))
  (ai (au (pv 2))))),?_⟩
 have vl:=TS.length;erw[0,b,0,.inl (zH0 hb),2,_,0,6];obtain⟨m,em,m2,m4,mt⟩:∃m:Int,(if((tv.length:Int)-1)>2 then((tv.length:Int)-1)else 2)=m/\2<=m/\m<=400/\(ts.length:Int)<=m+1:=⟨_,rfl,by split <;> omega,by split <;> omega,by split <;> omega⟩
 rw [em];refine⟨_,rfl,b,rfl,%[_|zH0 hb],ku (K:=K) (xs:=tv) (λi σ H'=>∃(m:Int)(x3 x4 x5:Option V),σ=[some (.ref a),some (.ref b),some (.int m),x3,x4,x5]/\2<=m/\m<=400/\(ts.length:Int)<=m+1/\(∀t∈ts.take i,∀x∈ns,(t.names.count x:Int)<=m)/\Same H H')
  %[m,_,_,0,m2,m4,mt,by simp|Same.refl _] (λi σ H' _ hst=>by erw[_,_,_,_,_,_,_,_,_,h]at hst;exact zH0 (h _ _ hb)) ?_ ?_⟩
 . rintro i v σ H1 hv ⟨m,x3,x4,x5,rfl,m2,m4,mt,mc,S1⟩;let%[t,ht|T]:=TS.get hv;have tm:=qH0 ht;let%[tw,td|tz]:=tok t tm;erw[0,v,t,1,T.mono (aZ S1),tw,3,tz,λl H2 l0 S2 hl=>?_];have S12:=S1.trans S2;have tn:=t.names_len;refine⟨_,rfl,a,rfl,%[_|zH0 (S12 _ _ ha)],ku (K:=K) (xs:=ns.map V.str) (λj σ H'=>∃(m':Int)(x5:Option V),σ=[some (.ref a),some (.ref b),some (.int m'),some v,some (.ref l),x5]/\m<=m'/\m'<=400/\(∀x∈ns.take j,(t.names.count x:Int)<=m')/\H'=H2)
    %[m,0,Int.le_refl _,m4,by simp|1] (λj σ H' _ hst=>by erw[_,_,_,_,_,_,h]at hst;subst h;exact zH0 (S12 _ _ ha)) ?_ ?_⟩
   . rintro j y σ H3 hy ⟨m',y5,rfl,mm,m4',mc',rfl⟩;rw[zZ0]at hy;let%[x,hx|1]:=qV0 hy;erw[0,0,.inl %[1,_|zH0 hl],0,l,2,zH0 hl,gU _,1,_,0,6];rw[rS];have cl:=List.count_le_length (a:=x) (l:=t.names);erw[_,0,by split <;> omega,by split <;> omega,λz hz=>?_,1];rw[qI0,hx]at hz;rcases qM0 hz with h | h
     . have:=mc' z h
       split <;> omega
     . have e:z=x:=by simpa using h
       subst e
       split <;> omega
   . rintro σ H3 ⟨m',y5,rfl,mm,m4',mc',rfl⟩;rw[zF0,qF0]at mc';erw[m',_,_,0,3,m4',3,λu hu x hx=>?_,S12];rw[qI0,ht]at hu;rcases qM0 hu with h | h
     . have:=mc u h x hx
       omega
     . have e:u=t:=by simpa using h
       subst e;exact mc' x hx
 . rintro σ H1 ⟨m,x3,x4,x5,rfl,m2,m4,mt,mc,S1⟩;rw[vl,qF0]at mc;erw[0,q m H1 S1 m2 m4 mt mc]
inductive spPrimeB(vs:List V)(H:Hp)(Q:VK)(u_3:XK):Prop
 |mk:∀n:Int,vs=[.int n]->(∀b:Bool,(b=true↔Pr n)->Q (.bl b) H)->spPrimeB vs H Q u_3
theorem m8:FnScope ["_law_number","_law_k"] ["_law_number"] (aq jo):=%[1,1,1,4,1,4|4]
theorem sA   (F:Fun K "_law_is_prime" "_law_is_prime" jo f fd) (hrange:mg "range"=none):FnOk P w K mg base CX0 1 f fd ["_law_number"] spPrimeB:=by
 exists m8
 erw[n,1,q]at h;refine⟨_,(ae (aO (ao eO (pv 0) aj (aE _)) (ai (au eN)) aF)
  (ae (cI PassesOwn.never rfl (Ay rfl hrange %[aj,aj|ag]) (bt (i:=1) m8.nd rfl (.inl rfl)) (ae (aO (ao iR (az cw (pv 1) (pv 1)) (pv 0) (aE _)) (ai (au eN)) aF)
   (ai (aO (ao aW (az bd (pv 0) (pv 1)) aj (aE _)) (ai (au eN)) aF))))
  (ai (au eN)))),?_⟩
 erw[0,2,0,6];refine pO (λc=>?_) (λc=>?_)
 . have c':=of_decide_eq_true c;exact q false %[λz=>(nomatch z)|λz=>by have:=z.1;omega]
 have c':¬ n<2:=of_decide_eq_false (Bool.eq_false_iff.mpr c);erw[(2),(1001),1,%[4,4,4|4],dq (λi σ H'=>∃x,σ=[some (.int n),x]/\H'=H/\oM n (2+(i:Int))) %[0,1|by simpa using wX n] ?_ ?_]
 . rintro i σ H' hi ⟨x,rfl,rfl,u⟩;have hi':i<999:=hi;erw[0,0,2,.inl %[3|3],0,2,0,6];refine pO (λc1=>?_) (λc1=>?_)
   . have c2:=of_decide_eq_true c1;exact q true %[λ_=>Hq #[0] #[0] u c2|λ_=>rfl]
   . have c2:=of_decide_eq_false (Bool.eq_false_iff.mpr c1);erw[0,0,2,(show(0:Int)<2+(i:Int) by omega),1,0,6];refine pO (λc3=>?_) (λc3=>?_)
     . have c4:=V.int.inj (of_decide_eq_true c3);exact q false %[λz=>(nomatch z)|λz=>(Hn #[0] #[0] #[0] c4 z).elim]
     . have c4:=of_decide_eq_false (Bool.eq_false_iff.mpr c3);erw[0,1,6];have e:(2:Int)+((i+1:Nat):Int)=2+(i:Int)+1:=by omega
       rw[e];exact zR u #[0] (λz=>c4 (congrArg V.int z))
 . rintro σ H' ⟨x,rfl,rfl,u⟩;exact q true %[λ_=>Hs #[0] u|λ_=>rfl]
inductive spFieldL(vs:List V)(H:Hp)(Q:VK)(u_3:XK):Prop
 |mk:∀(f:Addr)(m:Int),vs=[.ref f,.int m]->FeedAt H f->2<=m->m<=400->(∀(p:Int)(H':Hp),Pr p->m<p->p<=999983->FeedAt H' f->SameBut f H H'->Q (.int p) H')->spFieldL vs H Q u_3
theorem xO{f:Addr}{m fm:Int}{D:Ends}{H:Hp}(hD:∀p:Int,Pr p->m<p->p<=999983->D.nx [some (.ref f),some (.int m),some (.int fm),some (.int p)] H)(n:Int)(h1:m<n)(h2:n<=999983) :
 BU (tNot (tB (vp spPrimeB [] E0 (Gk (tVar 3) BV)))) (Hg (tOp (rI0 λi j=>V.int (i+j)) (tVar 3) (tC (V.int 1))) (wA 3)) D [some (.ref f),some (.int m),some (.int fm),some (.int n)] H:=by
 erw[λmm σ H'=>∃n:Int,σ=[some (.ref f),some (.int m),some (.int fm),some (.int n)]/\H'=H/\m<n/\n<=999983/\mm=(999983-n).toNat,%[2,h1,h2|1],6];rintro mm σ H' ⟨n,rfl,rfl,n0,n1,rfl⟩;erw[0,n,1,λb hb=>%[b,1|6]];cases b with
 | true=>exact cO (hD n (hb.mp rfl) n0 n1)
 | false=>
   refine dU ?_;erw[_,λ_ _ h=>h,6];have ne:n≠999983:=λz=>by
    subst z;exact nomatch hb.mpr Av
   erw[0,2,6];erw[_,3,n+1,1,1,3,3,1]
theorem fg:FnScope ["_law_feed_here","_law_need_here","_law_form","_law_number"] ["_law_feed_here","_law_need_here"] (aq oa):=%[1,1,1,4,1,4|4]
theorem yb   (F:Fun K "_law_field" "_law_field" oa f fd) (aR:Cal P w K mg base 1 "_law_take" ["_law_feed_here","_law_many"] spTake) (i4:Cal P w K mg base 1 "_law_is_prime" ["_law_number"] spPrimeB):FnOk P w K mg base CX0 2 f fd ["_law_feed_here","_law_need_here"] spFieldL:=by
 exists fg
 erw[f,m,1,hF,m2,m4,q]at h;refine⟨_,(ae #[ax,2,fg,aB aR hr ⋯ rfl %[0,aj|ag]]
  (ae #[ax,3,fg,az aX (pv 1) aj]
  (ae (aO (ao aW (pv 2) aj (aE _)) (ai #[ax,3,fg,az aX (az aX (pv 1) aj) (aB aR hr ⋯ rfl %[0,aj|ag])]) aF)
  (ae (aO (ao aW (pv 2) aj (aE _)) (ai #[ax,3,fg,az aX (az aX (pv 1) aj) (aB aR hr ⋯ rfl %[0,az bO aj (pv 1)|ag])]) aF)
  (ae (ik PassesOwn.never (gA (dY (aB i4 hr ⋯ rfl %[3|ag]))) (ai #[ax,3,fg,az aX (pv 3) aj]))
  (ai (au (pv 3)))))))),?_⟩
 erw[0,f,(4),1,hF,4,4,λfm H1 _ _ F1 S1=>?_];erw[0,2,6];erw[0,1,0,6];refine pO (λc1=>?b1) (λc1=>?b2)
 case' b1=>
  erw[0,2,0,f,(60),1,F1,4,4,λd H2 d0 d1 F2 S2=>?_];erw[2,6];have G2:=S1.trans S2;have n1:m<m+1+d:=by omega
  have n2:m+1+d<=999983:=by omega
 case' b2=>
  have F2:=F1;have G2:=S1;have n1:m<m+1:=by omega
  have n2:m+1<=999983:=by omega
 all_goals
  erw[0,1,0,6];refine pO (λc2=>?_) (λc2=>?_);erw[0,2,0,0,2,f,0,F2,(show(0:Int)<999983-m by omega),(show(999983:Int)-m<2 ^ 63 by omega),λd H3 d0 d1 F3 S3=>?_];erw[2,6];have G3:=G2.trans S3;clear n1 n2;have n1:m<m+1+d:=by omega
  have n2:m+1+d<=999983:=by
   have:d<999983-m:=d1
   omega
  rotate_left
  have F3:=F2;have G3:=G2
  rotate_left
  all_goals
   refine xO (λp pp mp p9=>?_) _ n1 n2;erw[0,q p _ pp mp p9 F3 G3]
inductive spGame(vs:List V)(H:Hp)(Q:VK)(u_3:XK):Prop
 |mk:∀(f:Addr)(most room:Int),vs=[.ref f,.int most,.int room]->FeedAt H f->0<=most->most<=6->1<=room->room<=30->(∀(g a b:Addr)(ns:List Str)(tv:List V)(ts:List Tr)(p:Int)(H':Hp),H' g=some (.tup [.ref a,.ref b,.int p])->H' a=some (.tup (ns.map V.str))->(ns.length:Int)<=most->(∀x∈ns,yQ x)->ns.Nodup->H' b=some (.tup tv)->TreesAt H' tv ts->1<=ts.length->ts.length<=4 ->
   (∀t∈ts,t.ok ns/\t.depth<=9/\(t.size:Int)<=room)->Pr p->2<p->p<=999983->(ts.length:Int)<=p->(∀t∈ts,∀x∈ns,(t.names.count x:Int)<p)->FeedAt H' f->SameBut f H H'->Q (.ref g) H')->spGame vs H Q u_3
theorem mB{m:Int}(h0:0<=m)(h6:m<=6):(0:Int)<m+1/\m+1<2 ^ 63:=by omega
theorem zB{z:Int}(h0:1<=z)(h6:z<=4):-(2 ^ 62)<=z/\z<2 ^ 62:=by omega
theorem rB{r:Int}(h0:1<=r)(h6:r<=30):0<r/\r<2 ^ 63:=by omega
theorem eB{e r:Int}(h0:0<=e)(h1:e<r)(h6:r<=30):(1:Int)<=1+e/\(1:Int)+e<=100:=by omega
theorem jQ:FnScope ["_law_feed_here","_law_most","_law_room","_law_names_here","_law_many","_law_trees"] ["_law_feed_here","_law_most","_law_room"] (aq qD):=%[1,1,1,4,1,4|4]
theorem AE   (F:Fun K "_law_game" "_law_game" qD f fd) (hrange:mg "range"=none) (htuple:mg "tuple"=none) (aR:Cal P w K mg base 1 "_law_take" ["_law_feed_here","_law_many"] spTake) (oU:Cal P w K mg base 2 "_law_names" ["_law_feed_here","_law_many"] spNamesN)
 (gg:Cal P w K mg base 12 "_law_tree" ["_law_feed_here","_law_names_here","_law_room","_law_deep"] (spTree 10)) (A4:Cal P w K mg base 13 "_law_need" ["_law_names_here","_law_trees"] spNeed) (o5:Cal P w K mg base 2 "_law_field" ["_law_feed_here","_law_need_here"] spFieldL):FnOk P w K mg base CX0 14 f fd ["_law_feed_here","_law_most","_law_room"] spGame:=by
 exists jQ
 erw[f,most,room,1,hF,m0,m6,r1,r30,q]at h;refine⟨_,(ae (ax (i:=3) jQ.nd rfl (Or.inr rfl) (aB oU hr ⋯ rfl %[0,aB aR hr ⋯ rfl %[0,az aX (pv 1) aj|ag]|ag]))
  (ae #[ax,4,jQ,aP ix_list (ca %[aj,aj,aj,aj,aj,aj|ag]) (aB aR hr ⋯ rfl %[0,aj|ag]) (λ_ _=>rfl)]
  (ae (uF (i:=5) (N:=["_law_room","_law_names_here","_law_feed_here"]) (ix:=[2,3,0]) jQ.nd rfl (.inl rfl) rfl
   (CompScope.three (by rfl') ⋯ rfl ⋯ rfl ⋯ rfl (by rfl') (by rfl') (by rfl') (by rfl') (by rfl') rfl rfl (by rfl') rfl rfl (by rfl') rfl rfl) rfl
   (bX rfl hrange %[4|ag])
   (λ_ _ _=>db (aB gg hr ⋯ rfl %[3,2,az aX aj (aB aR hr ⋯ rfl %[3,1|ag]),aj|ag])))
  (ai (au (aV %[bh bi rfl htuple bj %[3|ag],bh bi rfl htuple bj %[5|ag],aB o5 hr ⋯ rfl %[0,aB A4 hr ⋯ rfl %[3,5|ag]|ag]|ag])))))),?_⟩
 erw[0,0,0,2,f,0,hF,(mB m0 m6).1,(mB m0 m6).2,λmk H1 k0 k7 F1 S1=>?_];erw[f,mk,1,F1,k0,3,λnl ns H2 nl0 nlf hnl nsl nok nnd F2 S2=>?_];have S02:=S1.trans S2;erw[(by show 6<=sizeLine;decide),λl hl=>?_];have lf:=F2.ne hl;have G2:=zE0 hl (.lst [.int 1,.int 1,.int 1,.int 2,.int 3,.int 4]);erw[0,f,(6),1,F2.same G2,4,4,λj H3 j0 j6 F3 S3=>?_];have hl3:=S3 l _ lf am;let%[x,hx|xm]:=tL (l:=[V.int 1,V.int 1,V.int 1,V.int 2,V.int 3,V.int 4]) (i:=j) j0 (by show j<6;omega);obtain⟨z,rfl,z0,z4⟩:∃z:Int,x=.int z/\1<=z/\z<=4:=by
  simp only[List.mem_cons,List.not_mem_nil,or_false]at xm;rcases xm with h | h | h | h | h | h <;> erw[_,h,4,4]
 erw[l,_,2,zH0 hl3,hx,6];have S23:SameBut f H2 H3:=(zK0 G2).trans S3;have hnl3:=S23 nl _ nlf hnl;have S03:=S02.trans S23;have nl6:ns.length<=6:=by omega
 erw[0,z,1,(zB z0 z4).1,(zB z0 z4).2,λD hD=>?_];have Df:=F3.ne hD;have nD:nl≠D:=aQ hnl3 hD;have GD:=zE0 hD (.lst []);refine eC (λi H'=>∃(tv:List V)(ts:List Tr),H' D=some (.lst tv)/\TreesAt H' tv ts/\ts.length=i/\(∀t∈ts,t.ok ns/\t.depth<=9/\(t.size:Int)<=room)/\FeedAt H' f/\SameBut f H3 H') %[[],[],am,.nil,1,(λt ht=>by cases ht),F3.same GD|zK0 GD] ?_ ?_
 . rintro i H4 hi ⟨tv,ts,hD4,TS,tl,tok,F4,S4⟩;have hi':i<z.toNat:=hi;have hnl4:=S4 nl _ nlf hnl3;erw[0,0,0,0,f,room,1,F4,(rB r1 r30).1,(rB r1 r30).2,λe H5 e0 e1 F5 S5=>?_];have hnl5:=S5 nl _ nlf hnl4;erw[2,f,nl,_,_,ns,1,F5,.inl hnl5,nl6,(eB e0 e1 r30).1,(eB e0 e1 r30).2,4,4,λv t H6 F6 S6 T6 ok6 sz6 dp6=>?_];have S46:=S5.trans S6;have hD6:=S46 D _ Df hD4;have k46:=ir F4 S46;have vl:=TS.length;erw[_,hD6,aS #[0],Nx.of hi ⟨tv++[v],ts++[t],am,?_,?_,?_,mO F6 Df,?_⟩]
   . have k:=gR (H:=H6) (b:=D) (ys:=tv) (zs:=tv++[v]) hD6;exact((TS.mono k46).mono k).append (.cons (T6.mono k) .nil)
   . rw[zJ0,qG0,tl]
   . intro u hu;rcases qM0 hu with h | h
     . exact tok u h
     . rw[zS0 h];have d9:(t.depth:Int)<=9:=dp6;have s9:(t.size:Int)<=1+e:=sz6;erw[ok6,3,3]
   . intro b o hb eb;rw[aG (aQ eb hD)];exact S46 b o hb (S4 b o hb eb)
 . rintro H4 ⟨tv,ts,hD4,TS,tl,tok,F4,S4⟩;have hnl4:=S4 nl _ nlf hnl3;have tl':ts.length=z.toNat:=tl;have tl1:1<=ts.length:=by omega
   have tl4:ts.length<=4:=by omega
   erw[0,nl,0,.inl %[zH0 hnl4|λa ha=>?_]];have Ga:=zE0 ha (.tup (ns.map V.str));erw[0,D,0,.inl %[zH0 (Ga _ _ hD4)|λb hb=>?_]];have Gb:=zE0 hb (.tup tv);have Gab:=Ga.trans Gb;have wfs:∀t∈ts,t.wf:=λt ht=>Tr.ok_wf nok t (tok t ht).1
   erw[0,0,0,nl,D,ns,tv,ts,1,Gab _ _ hnl4,Gab _ _ hD4,TS.mono (aZ Gab),zP0 tl4 ⋯,λt ht=>%[wfs t ht,zP0 (tok t ht).2.1 ⋯|by have:=(tok t ht).2.2;omega],λm H5 S5 m2 m4 mt mc=>?_];have F5:=(F4.same Gab).same S5;erw[f,m,1,F5,m2,m4,λp H6 pp mp p9 F6 S6=>?_];erw[(by show 3<=sizeLine;decide),λg hg=>?_];have Gg:=zE0 hg (.tup [.ref a,.ref b,.int p]);have k6:cg (upd (upd H4 a (.tup (ns.map V.str))) b (.tup tv)) (upd H6 g (.tup [.ref a,.ref b,.int p])):=λc ys h=>Gg _ _ (ir F5 S6 _ _ (S5 _ _ h))
   refine q g a b ns tv ts p _ am (k6 _ _ (Gb _ _ am)) #[0] nok nnd (k6 _ _ am) ((TS.mono (aZ Gab)).mono k6) tl1 tl4 tok pp #[0] p9 #[0] (λt ht x hx=>by have:=mc t ht x hx;omega) (F6.same Gg) ?_;exact S03.trans (S4.trans ((zK0 (Gab.trans S5)).trans (S6.trans (zK0 Gg))))
inductive spWithin(vs:List V)(H:Hp)(Q:VK)(u_3:XK):Prop
 |mk:∀(v:V)(t:Tr),vs=[v]->TreeAt H v t->t.wf->(∀(p:Addr)(xs:List V)(H':Hp),Same H H'->H' p=some (.tup xs)->TreesAt H' xs t.parts->Q (.ref p) H')->spWithin vs H Q u_3
theorem pF:FnScope ["tree"] ["tree"] (aq gZ):=%[1,1,1,4,1,4|4]
theorem pI   (F:Fun K "trees_within" "trees_within" gZ f fd):FnOk P w K mg base CX0 1 f fd ["tree"] spWithin:=by
 exists pF
 erw[v,t,1,T,wf,q]at h;refine⟨_,(ae (aO (ao aW (aP ix_tup (pv 0) aj (λ_ _=>rfl)) aJ (aE _)) (ai (au (aV ag))) aF)
  (ai (au (eK tS (pv 0) (eJ aj) jy)))),?_⟩
 rcases T.view wf with⟨a,x,rfl,rfl,_,e⟩ | ⟨a,o,xs,rfl,no,xl,e,TS,_⟩
 . erw[0,a,_,(0),0,1,zB0 e,1,1,0,6];refine bb rfl ?_;erw[(by show 0<=sizeLine;decide),λp hp=>?_];exact q p [] _ (zE0 hp _) am .nil
 . erw[0,a,_,(0),.str o,1,1,zB0 e,at0 ..,1,0,6];refine aI (λz=>no (by injection z)) ?_;let%[c1|c2]:=cut1 (.str o) xs xl;erw[0,(1),1,a,0,zB0 e,c2,λp hp=>?_];rw[c1];exact q p xs _ (zE0 hp _) am (TS.mono (aZ (zE0 hp _)))
inductive spNamesIn(n:Nat)(vs:List V)(H:Hp)(Q:VK)(u_3:XK):Prop
 |mk:∀(v:V)(t:Tr),vs=[v]->TreeAt H v t->t.wf->t.depth<=n->t.size<=400->(∀(l:Addr)(H':Hp),H l=none->Same H H'->H' l=some (.lst (t.names.map V.str))->Q (.ref l) H')->spNamesIn n vs H Q u_3
theorem j9:FnScope ["tree","names","part"] ["tree"] (aq ji):=%[1,1,1,4,1,4|4]
theorem yj {n:Nat}   (F:Fun K "names_in" "names_in" ji f fd) (a7:Cal P w K mg base 1 "trees_within" ["tree"] spWithin) (dP:Cal P w K mg base (n+2) "names_in" ["tree"] (spNamesIn n)):FnOk P w K mg base CX0 (n+3) f fd ["tree"] (spNamesIn (n+1)):=by
 exists j9
 erw[v,t,1,T,wf,dn,sz,q]at h;refine⟨_,(ae (aO (ao aW (aP ix_tup (pv 0) aj (λ_ _=>rfl)) aJ (aE _)) (ai (au (ca %[aP ix_tup (pv 0) aj (λ_ _=>rfl)|ag]))) aF)
  (ae #[ax,1,j9,ca ag]
  (ae (cI PassesOwn.never rfl (io (aB a7 hr #[0] rfl %[0|ag])) (bt (i:=2) j9.nd rfl (.inl rfl)) (ai (ba (dw PySem.F.plainAttrs_list PySem.F.slot_list_extend PySem.F.type_list_extend AV (pv 1) %[aB dP hr (zG0 _) rfl %[2|ag]|ag]))))
  (ai (au (pv 1)))))),?_⟩
 have wf':=wf;rcases T.view wf with⟨a,x,rfl,rfl,_,e⟩ | ⟨a,o,xs0,rfl,no,xl0,e,_,nis⟩
 . erw[0,a,_,(0),0,1,zB0 e,1,1,0,6];refine bb rfl ?_;erw[0,a,_,(1),0,1,zB0 e,1,(by show 1<=sizeLine;decide),λp hp=>?_];exact q p _ hp (zE0 hp _) am
 . erw[0,a,_,(0),.str o,1,1,zB0 e,at0 ..,1,0,6];refine aI (λz=>no (by injection z)) ?_;erw[(by show 0<=sizeLine;decide),λL hL=>?_];have G0:=zE0 hL (.lst []);erw[0,_,t,1,T.mono (aZ G0),wf,λp xs H1 S1 hp TS=>?_];have hL1:H1 L=some (.lst []):=S1 _ _ am;have pL:p≠L:=λz=>by rw[z,hL1]at hp;cases hp
   have xl:=TS.length;have sp:=t.size_parts;erw[p,1,%[_|zB0 hp],vd (K:=K) (xs:=xs) (λi σ H'=>∃x2,σ=[some (.ref a),some (.ref L),x2]/\H' L=some (.lst ((ip (t.parts.take i)).map V.str))/\SameBut L H1 H') %[0,hL1|SameBut.refl _ _] (λi σ H' _ hst=>by erw[_,_,_,h]at hst;exact zB0 (h _ _ pL hp)) ?_ ?_]
   . rintro i x σ H2 hx ⟨x2,rfl,hl,S2⟩;let%[u,hu|Tu]:=TS.get hx;have um:=qH0 hu;let%[uw,ud|us]:=Tr.parts_mem um wf;have Tu2:TreeAt H2 x u:=Tu.mono λb ys h=>S2 b _ (λz=>by rw[z,hL1]at h;cases h) h
     erw[0,.inl %[1,_|zH0 hl],0,x,u,1,Tu2,uw,3,3,λl H3 l0 S3 hl3=>?_];have nl:=u.names_len;have nl2:=rA (t.parts.take i);have nl3:=qu t.parts i;erw[L,l,2,S3 _ _ hl,hl3,6,6]
     . rw[zF0,zF0];exact cv #[0]
     erw[0,6,λb o hb h=>?_]
     . rw[am,pe hu,zL0]
     . rw[aG hb];exact S3 _ _ (S2 _ _ hb h)
   . rintro σ H2 ⟨x2,rfl,hl,S2⟩;rw[xl,qF0,←t.names_parts nis]at hl;erw[0,6];refine q L H2 hL (λb o h=>?_) hl;exact S2 b o (aQ h hL) (S1 _ _ (G0 _ _ h))
theorem yi  :FnOk P w K mg base CX0 2 f fd ["tree"] (spNamesIn 0):=by
 have no:∀vs H Q E,¬ spNamesIn 0 vs H Q E:=λvs H Q E h=>by
  erw[v,t,_,_,_,h1,_]at h
  have:=t.depth_pos
  omega
 erw[λvs H Q E h=>absurd h (no vs H Q E),λA outer s H args us vs Q E _ _ _ _ h=>absurd h (no vs H Q E)]
theorem oY   (F:Fun K "names_in" "names_in" ji f fd) (m:mg "names_in"=some (.ref f)) (a7:Cal P w K mg base 1 "trees_within" ["tree"] spWithin) :
 ∀n:Nat,FnOk P w K mg base CX0 (n+2) f fd ["tree"] (spNamesIn n)
 | 0=>yi
 | n+1=>yj F a7 (Cal.of F (oY F m a7 n) m (λ_ _ _ _ _ _ us hl=>by let%[u0|1]:=DL hl;rfl))
inductive spField(vs:List V)(H:Hp)(Q:VK)(u_3:XK):Prop
 |mk:∀n:Int,vs=[.int n]->n<=999999->(∀b:Bool,(b=true↔2<n/\Pr n)->Q (.bl b) H)->spField vs H Q u_3
theorem kz:FnScope ["number","divisor"] ["number"] (aq lE):=%[1,1,1,4,1,4|4]
theorem vQ   (F:Fun K "is_field" "is_field" lE f fd):FnOk P w K mg base CX0 1 f fd ["number"] spField:=by
 exists kz
 erw[n,1,n9,q]at h;refine⟨_,(ae (aO (PW.pt (ig (ao eO (pv 0) aj (aE _)) (gy (ao aW (az bd (pv 0) aj) aj (aE _))))) (ai (au eN)) aF)
  (ae #[ax,1,kz,aj]
  (ae (ik PassesOwn.never (ao sQ (az cw (pv 1) (pv 1)) (pv 0) (aE _)) (ae (aO (ao aW (az bd (pv 0) (pv 1)) aj (aE _)) (ai (au eN)) aF)
   (ai #[ax,1,kz,az aX (pv 1) aj])))
  (ai (au eN))))),?_⟩
 erw[0,2,0,6]
 by_cases c:n<3
 . refine bb c ?_;refine dU ?_;exact q false %[λz=>(nomatch z)|λz=>by omega]
 refine aI c ?_;erw[0,2,(by show(0:Int)<_;decide),1,0,6]
 by_cases c2:n % 2=0
 . refine bb (congrArg V.int c2) ?_;exact q false %[λz=>(nomatch z)|λz=>absurd z.2 (Bs c2 #[0])]
 refine aI (λz=>c2 (V.int.inj z)) ?_;erw[λm σ H'=>∃d:Int,σ=[some (.int n),some (.int d)]/\H'=H/\3<=d/\d<=1001/\d % 2=1/\wS n d/\m=(n+3-d).toNat,%[_,(3),1,1,3,3,3,AS n|1],6];rintro m σ H' ⟨d,rfl,rfl,d3,d9,d2,u,rfl⟩;erw[0,0,2,.inl %[3|3],0,2,0,6]
 by_cases c3:d*d<=n
 . refine bb c3 ?_;have r1:=xr n9 d3 c3;have r2:=Fg d3 c3;erw[_,λ_ _ h=>h,6];erw[0,0,2,(show 0<d by omega),1,0,6]
   by_cases c4:n % d=0
   . refine bb (congrArg V.int c4) ?_;exact q false %[λz=>(nomatch z)|λz=>absurd z.2 (Br n9 d3 c3 c4)]
   refine aI (λz=>c4 (V.int.inj z)) ?_;erw[0,2,6];erw[_,3,d+2,1,1,3,3,3,Dt u d2 c4,1]
 . refine aI c3 ?_;exact q true %[λ_=>%[3|Bq #[0] c2 d3 u #[0]]|λ_=>rfl]
abbrev uj:Stmt:=bp uk 0
abbrev xJ:Stmt:=bp uk 1
abbrev qH:Stmt:=bp uk 2
abbrev qI:Stmt:=bp uk 3
def gf (a b:Addr) (p:Int) (d:Addr):List (Str×V):=bL "degrees" (.ref d) (bL "field" (.int p) (bL "trees" (.ref b) (bL "switches" (.ref a) [])))
theorem pq (a b:Addr) (p:Int) (d:Addr):(gf a b p d).lookup ("switches":Str)=some (.ref a):=by
 unfold gf;rw[ay,zA0 ⋯,ay,zA0 ⋯,ay,zA0 ⋯,ay,zC0 rfl]
theorem lp (a b:Addr) (p:Int) (d:Addr):(gf a b p d).lookup ("trees":Str)=some (.ref b):=by
 unfold gf;rw[ay,zA0 ⋯,ay,zA0 ⋯,ay,zC0 rfl]
theorem fc (a b:Addr) (p:Int) (d:Addr):(gf a b p d).lookup ("field":Str)=some (.int p):=by
 unfold gf;rw[ay,zA0 ⋯,ay,zC0 rfl]
theorem Ea (a b:Addr) (p:Int) (d:Addr):(gf a b p d).lookup ("degrees":Str)=some (.ref d):=by
 unfold gf;rw[ay,zC0 rfl]
theorem pw (a b:Addr) (p:Int) (d:Addr) {m:Str} (h1:¬ m="degrees") (h2:¬ m="field") (h3:¬ m="trees") (h4:¬ m="switches"):(gf a b p d).lookup m=none:=by
 unfold gf;rw[ay,zA0 h1,ay,zA0 h2,ay,zA0 h3,ay,zA0 h4]
 all_goals rfl
structure GTxt(K:W.Frag)(mg:Str->Option Value)(C:Addr):Prop where
 cl:Cls K C
 nS:NoAttr K C "switches"
 nT:NoAttr K C "trees"
 nF:NoAttr K C "field"
 nD:NoAttr K C "degrees"
 mgC:mg "Game"=some (.ref C)
theorem wM(g:Nat->Int):∀n,∃k,k<=n/\dX g n=g k
 | 0=>%[(0),zG0 _|1]
 | n+1=>by
   let%[k,hk|e]:=wM g n;unfold dX
   split
   . erw[n+1,zG0 _,1]
   . erw[k,3,e]
theorem kj{ns:List Int}(h:ns≠[]):AY ns 0∈ns:=by
 cases ns with
 | nil=>exact absurd rfl h
 | cons a r=>
   let%[k,hk|e]:=wM (λi=>(a::r)[i]?.getD 0) ((a::r).length-1);have e1:AY (a::r) 0=dX (λi=>(a::r)[i]?.getD 0) ((a::r).length-1):=rfl;have hl:k<(a::r).length:=by
    rw[zO0]at hk ⊢;omega
   rw[e1,e];show(a::r)[k]?.getD 0∈a::r;rw[zM0 hl];exact qP0 hl
def bN(ts:List Tr)(x:Str):Int:=AY (ts.map λt=>(t.names.count x:Int)) 0
theorem mV{ts:List Tr}{x:Str}{p:Int}(h0:ts≠[])(h:∀t∈ts,(t.names.count x:Int)<p):bN ts x<p:=by
 have:=kj (ns:=ts.map λt=>(t.names.count x:Int)) (by simpa using h0)
 let%[t,ht|e]:=List.mem_map.mp this;unfold bN;rw[←e];exact h t ht
inductive spDeg(vs:List V)(H:Hp)(Q:VK)(u_3:XK):Prop
 |mk:∀(x:Str)(b:Addr)(tv:List V)(ts:List Tr),vs=[.str x,.ref b]->H b=some (.tup tv)->TreesAt H tv ts->ts≠[]->ts.length<=10->(∀t∈ts,t.wf/\t.depth<=10/\t.size<=400)->(∀H',Same H H'->Q (.int (bN ts x)) H')->spDeg vs H Q u_3
theorem tW:FnScope ["name","trees"] ["name","trees"] (aq jZ):=%[1,1,1,4,1,4|4]
theorem uO   (F:Fun K "degree_of" "degree_of" jZ f fd) (hmax:mg "max"=none) (dP:Cal P w K mg base 12 "names_in" ["tree"] (spNamesIn 10)):FnOk P w K mg base CX0 13 f fd ["name","trees"] spDeg:=by
 exists tW
 erw[x,b,tv,ts,1,hb,TS,t0,tl,tok,q]at h;refine⟨_,(ai (au (aM (tF rfl) rfl hmax PyProof.Rows.boot_max (aa (cM (N:=["name"]) (ix:=[0]) rfl
  (CompScope.one (by rfl') ⋯ rfl ⋯ rfl ⋯ (by rfl') (by rfl') (by rfl') rfl rfl) rfl
  (io (pv 1)) (λ_ _ _=>db (Hx K PySem.F.plainAttrs_list PySem.F.slot_list_count PySem.F.type_list_count (AW K) (aB dP hr ⋯ rfl %[0|ag]) %[1|ag]))) ag)))),?_⟩
 have vl:=TS.length;erw[0,b,1,%[_|zB0 hb],λD hD=>?_];refine fY (K:=K) (xs:=tv) (λi H'=>H' D=some (.lst (((ts.take i).map λt=>(t.names.count x:Int)).map V.int))/\Same H H') %[by rw[am];rfl|zE0 hD _] (λi H' _ h=>zB0 (h.2 _ _ hb)) ?_ ?_
 . rintro i z H2 hz ⟨hl,S2⟩;let%[t,ht|T]:=TS.get hz;let%[tw,td|tz]:=tok t (qH0 ht);have hi:i<tv.length:=(zX0 hz).1;erw[0,z,t,1,T.mono (aZ S2),tw,3,tz,λl H3 l0 S3 hl3=>?_];erw[.inl %[1,_|zH0 hl3],0,l,2,zH0 hl3,gU _,1,6];rw[rS];erw[_,S3 _ _ hl,6,Nx.of hi %[6|λb' o' e'=>?_]]
   . rw[zF0,zF0,qK0];exact aS #[0]
   . rw[am,qI0,ht,zL0,zL0];rfl
   . rw[aG (aQ e' hD)];exact S3 _ _ (S2 _ _ e')
 . rintro H2 ⟨hl,S2⟩;rw[vl,qF0]at hl;erw[D,0,zH0 hl,by simpa using t0,q H2 S2]
inductive spLookS(vs:List V)(H:Hp)(Q:VK)(u_3:XK):Prop
 |mk:∀(a:Addr)(ns:List Str),vs=[.ref a]->H a=some (.tup (ns.map V.str))->ns.Nodup->ns.length<=10->(∀H',Same H H'->Q .non H')->spLookS vs H Q u_3
theorem fL(x:Str)(ns:List Str):inV (.str x) (ns.map V.str)=decide (x∈ns):=by
 unfold inV
 induction ns with
 | nil=>rfl
 | cons a r ih=>
   rw [zY0,List.any_cons,ih];have e:eqV (.str a) (.str x)=decide (x=a):=by
    show(a==x)=_
    by_cases c:x=a
    . subst c;simp
    . rw[decide_eq_false c];simpa using λh=>c h.symm
   rw[e]
   by_cases c1:x=a <;> by_cases c2:x∈r <;> simp [c1,c2]
theorem gh:FnScope ["switches","place","name"] ["switches"] (aq gu):=%[1,1,1,4,1,4|4]
theorem oz   (F:Fun K "look_switches" "look_switches" gu f fd) (henum:mg "enumerate"=none):FnOk P w K mg base CX0 1 f fd ["switches"] spLookS:=by
 exists gh
 erw[a,ns,1,ha,nd,nl,q]at h;refine⟨_,(ai (cI PassesOwn.never rfl (vH rfl henum (pv 0)) (uH rfl (fV (bt (i:=1) gh.nd rfl (.inl rfl)) (fV (bt (i:=2) gh.nd rfl (.inl rfl)) pT)))
  (ai (aO (ao eE (pv 2) (eK tS (pv 0) jy (eJ (pv 1))) (by rfl')) bq aF)))),?_⟩
 erw[0,a,1,%[_|zB0 ha],sZ (K:=K) (xs:=ns.map V.str) (λi σ H'=>∃x1 x2:Option V,σ=[some (.ref a),x1,x2]/\Same H H') %[_,0|Same.refl _] (λi σ H' _ hst=>by erw[_,_,_,h]at hst;exact zB0 (h _ _ ha)) ?_ ?_]
 . rintro i z σ H1 t hz ⟨x1,x2,rfl,S1⟩ ht;have hi:i<(ns.map V.str).length:=(zX0 hz).1;rw[zZ0]at hz;let%[x,hx|1]:=qV0 hz;have G:=zE0 ht (.tup [.int (i:Int),.str x]);have S2:=S1.trans G;have hi':i<ns.length:=by rw[zF0]at hi;exact hi
   erw[t,0,zB0 am,1,_,0,2,6];erw[0,0,0,(i:Int),1,a,0,zB0 (S2 _ _ ha),6,λc hc=>?_]
   . rintro⟨_,h⟩;rw[HT.sIx_nat]at h;omega
   . erw[c,0,.inr (zB0 am),1,6,0,6]
     . have ec:iM (ns.map V.str) none (some (i:Int))=(ns.take i).map V.str:=by
        unfold iM;rw[HT.sIx_none,HT.sIx_nat,List.drop_zero,Nat.sub_zero,List.map_take]
        congr 1
        omega
       rw[ec];exact gU _
     . have ec:iM (ns.map V.str) none (some (i:Int))=(ns.take i).map V.str:=by
        unfold iM;rw[HT.sIx_none,HT.sIx_nat,List.drop_zero,Nat.sub_zero,List.map_take]
        congr 1
        omega
       show if inV (.str x) (iM (ns.map V.str) none (some (i:Int)))=true then _ else _
       rw[ec,fL,decide_eq_false ?_]
       . refine cO ?_;erw[_,0,S2.trans (zE0 hc _)]
       . intro hm;let%[j,hj|e]:=List.getElem_of_mem hm;rw[qK0]at hj;rw[List.getElem_take]at e;have ex:ns[i]=x:=by
          rw[zM0 hi']at hx;exact zT0 hx
         exact List.pairwise_iff_getElem.mp nd j i #[0] hi' #[0] (e.trans ex.symm)
 . rintro σ H1 ⟨x1,x2,rfl,S1⟩;exact q H1 S1
theorem my{ns:List Str}:∀t:Tr,t.ok ns->∀x∈t.names,x∈ns
 | .is y,h,x,hx=>by rw[zS0 hx];exact h
 | .yes,_,x,hx=>by cases hx
 | .no,_,x,hx=>by cases hx
 | .not a,h,x,hx=>my a h x hx
 | .bin _ a b,⟨_,h1,h2⟩,x,hx=>by
   rcases qM0 hx with h | h
   . exact my a h1 x h
   . exact my b h2 x h
inductive spLookN(vs:List V)(H:Hp)(Q:VK)(u_3:XK):Prop
 |mk:∀(a b:Addr)(ns:List Str)(tv:List V)(ts:List Tr),vs=[.ref b,.ref a]->H a=some (.tup (ns.map V.str))->H b=some (.tup tv)->TreesAt H tv ts->(∀t∈ts,t.ok ns/\t.wf/\t.depth<=10/\t.size<=400)->(∀H',Same H H'->Q .non H')->spLookN vs H Q u_3
theorem iW:FnScope ["trees","switches","tree","name"] ["trees","switches"] (aq jj):=%[1,1,1,4,1,4|4]
theorem sw   (F:Fun K "look_names" "look_names" jj f fd) (dP:Cal P w K mg base 12 "names_in" ["tree"] (spNamesIn 10)):FnOk P w K mg base CX0 13 f fd ["trees","switches"] spLookN:=by
 exists iW
 erw[a,b,ns,tv,ts,1,ha,hb,TS,tok,q]at h;refine⟨_,(ai (cI PassesOwn.never rfl (io (pv 0)) (bt (i:=2) iW.nd rfl (.inl rfl))
  (ai (cI PassesOwn.never rfl (gI (aB dP hr ⋯ rfl %[2|ag])) (bt (i:=3) iW.nd rfl (.inl rfl))
   (ai (aO (ao uJ (pv 3) (pv 1) (by rfl')) bq aF)))))),?_⟩
 erw[0,b,1,%[_|zB0 hb],vd (K:=K) (xs:=tv) (λi σ H'=>∃x2 x3:Option V,σ=[some (.ref b),some (.ref a),x2,x3]/\Same H H') %[_,0|Same.refl _] (λi σ H' _ hst=>by erw[_,_,_,h]at hst;exact zB0 (h _ _ hb)) ?_ ?_]
 . rintro i z σ H1 hz ⟨x2,x3,rfl,S1⟩;let%[t,ht|T]:=TS.get hz;let%[tk,tw,td|tz]:=tok t (qH0 ht);erw[0,z,t,1,T.mono (aZ S1),tw,3,tz,λl H2 l0 S2 hl=>?_];have S12:=S1.trans S2;erw[l,1,%[_|zH0 hl],ku (K:=K) (xs:=t.names.map V.str) (λj σ H'=>∃x3:Option V,σ=[some (.ref b),some (.ref a),some z,x3]/\H'=H2) %[0|1] (λj σ H' _ hst=>by erw[_,_,h]at hst;subst h;exact zH0 hl) ?_ ?_]
   . rintro j y σ H3 hy ⟨y3,rfl,rfl⟩;rw[zZ0]at hy;let%[x,hx|1]:=qV0 hy;erw[0,0,a,0,.inr (zB0 (S12 _ _ ha)),1,gU _,0,6];show if(!inV (.str x) (ns.map V.str))=true then _ else _
     rw[fL,decide_eq_true (my t tk x (qH0 hx))];refine cO ?_;erw[0,1]
   . rintro σ H3 ⟨y3,rfl,rfl⟩;erw[_,0,S12]
 . rintro σ H1 ⟨x2,x3,rfl,S1⟩;exact q H1 S1
inductive spLookF(vs:List V)(H:Hp)(Q:VK)(u_3:XK):Prop
 |mk:∀p:Int,vs=[.int p]->Pr p->2<p->p<=999983->Q .non H->spLookF vs H Q u_3
theorem su:FnScope ["field"] ["field"] (aq jk):=%[1,1,1,4,1,4|4]
theorem sx   (F:Fun K "look_field" "look_field" jk f fd) (hend:∃t,mg "FIELDS_END"=some (.int 1000000 t)) (l7:Cal P w K mg base 1 "is_field" ["number"] spField):FnOk P w K mg base CX0 2 f fd ["field"] spLookF:=by
 exists su
 erw[p,1,pp,p2,p9,q]at h;erw[te,ge]at hend;erw[_,(ai (aO (PW.pt (ig (ao Gw (pv 0) (cV (v:=.int 1000000) rfl ge %[|0]) (aE _)) (gy (gA (dY (aB l7 hr ⋯ rfl %[0|ag])))))) bq aF)),6];erw[0,2,0,6];refine aI #[0] ?_;erw[0,p,1,3,λb hb=>%[b,1|6]];rw[hb.mpr ⟨p2,pp⟩];exact cO q
inductive spLookZ(vs:List V)(H:Hp)(Q:VK)(u_3:XK):Prop
 |mk:∀(p:Int)(d:Addr)(ns:List Int),vs=[.int p,.ref d]->H d=some (.lst (ns.map V.int))->ns≠[]->(∀n∈ns,n<p)->Q .non H->spLookZ vs H Q u_3
theorem o6:FnScope ["field","degrees","greatest"] ["field","degrees"] (aq jW):=%[1,1,1,4,1,4|4]
theorem uL   (F:Fun K "look_size" "look_size" jW f fd) (hmax:mg "max"=none):FnOk P w K mg base CX0 1 f fd ["field","degrees"] spLookZ:=by
 exists o6
 erw[p,d,ns,1,hd,n0,nl,q]at h;refine⟨_,(ae #[ax,2,o6,aM (tF rfl) rfl hmax PyProof.Rows.boot_max %[1|ag]]
  (ai (aO (ao sQ (pv 0) (pv 2) (aE _)) bq aF))),?_⟩
 erw[0,d,ns,1,zH0 hd,n0,6];erw[0,0,2,0,6]
 have:=nl _ (kj n0)
 exact aI #[0] q
theorem ii(f:Str)(v:V):∀fs:List (Str×V),(bL f v fs).length<=fs.length+1
 | []=>zG0 _
 | (g,u)::r=>by
   have:=ii f v r
   unfold bL
   split
   . simp
   . simp only[zO0];omega
def gf3 (a b:Addr) (p:Int):List (Str×V):=bL "field" (.int p) (bL "trees" (.ref b) (bL "switches" (.ref a) []))
theorem HX (a b:Addr) (p:Int):(gf3 a b p).lookup ("switches":Str)=some (.ref a):=by
 unfold gf3;rw[ay,zA0 ⋯,ay,zA0 ⋯,ay,zC0 rfl]
theorem HW (a b:Addr) (p:Int):(gf3 a b p).lookup ("trees":Str)=some (.ref b):=by
 unfold gf3;rw[ay,zA0 ⋯,ay,zC0 rfl]
def GameAt(C:Addr)(H:Hp)(g a b d:Addr)(p:Int):Prop:=∃dx,H g=some (.ins C dx (gf a b p d))
theorem GameAt.same(h:GameAt C H g a b d p)(s:Same H H'):GameAt C H' g a b d p:=by
 erw[dx,e]at h;erw[dx,s _ _ e]
inductive spGInit(C:Addr)(vs:List V)(H:Hp)(Q:VK)(u_3:XK):Prop
 |mk:∀(g dx a b:Addr)(ns:List Str)(tv:List V)(ts:List Tr)(p:Int),vs=[.ref g,.ref a,.ref b,.int p]->H g=some (.ins C dx [])->H a=some (.tup (ns.map V.str))->ns.Nodup->ns.length<=10->H b=some (.tup tv)->TreesAt H tv ts->1<=ts.length->ts.length<=10->(∀t∈ts,t.ok ns/\t.wf/\t.depth<=10/\t.size<=400)->Pr p->2<p->p<=999983->(ts.length:Int)<=p->(∀t∈ts,∀x∈ns,(t.names.count x:Int)<p)->(∀(d:Addr)(H':Hp),H d=none->GameAt C H' g a b d p->H' d=some (.lst ((ns.map (bN ts)).map V.int))->SameBut g H H'->Q .non H')->spGInit C vs H Q u_3
theorem Cq:FnScope ["self","switches","trees","field"] ["self","switches","trees","field"] (aq uj):=%[1,1,1,4,1,4|4]
theorem Dk   (F:Fun K "__init__" "Game.__init__" uj f fd) (T:GTxt K mg C) (htuple:mg "tuple"=none) (hlen:mg "len"=none) (kF:Cal P w K mg base 13 "degree_of" ["name","trees"] spDeg) (gK:Cal P w K mg base 1 "look_switches" ["switches"] spLookS)
 (i7:Cal P w K mg base 13 "look_names" ["trees","switches"] spLookN) (i8:Cal P w K mg base 2 "look_field" ["field"] spLookF) (kZ:Cal P w K mg base 1 "look_size" ["field","degrees"] spLookZ):FnOk P w K mg base CX0 14 f fd ["self","switches","trees","field"] (spGInit C):=by
 exists Cq
 erw[g,dx,a,b,ns,tv,ts,p,1,hg,ha,nd,nl,hb,TS,t1,t10,tok,pp,p2,p9,tp,tc,q]at h;refine⟨_,(ae (aU (pv 0) (bh bi rfl htuple bj %[1|ag]) rfl)
  (ae (aU (pv 0) (bh bi rfl htuple bj %[2|ag]) rfl)
  (ae (aU (pv 0) (pv 3) rfl)
  (ae (aU (pv 0) (cM (N:=["self"]) (ix:=[0]) rfl
   (CompScope.one (by rfl') ⋯ rfl ⋯ rfl ⋯ (by rfl') (by rfl') (by rfl') rfl rfl) rfl
   (io (aD (pv 0) rfl)) (λ_ _ _=>db (aB kF hr ⋯ rfl %[0,jz K (pv 1)|ag]))) rfl)
  (ae (ba (aB gK hr ⋯ rfl %[aD (pv 0) rfl|ag]))
  (ae (ba (aB i7 hr ⋯ rfl %[aD (pv 0) rfl,aD (pv 0) rfl|ag]))
  (ae (ba (aB i8 hr ⋯ rfl %[3|ag]))
  (ai (ba (aB kZ hr ⋯ rfl %[3,az ox (aD (pv 0) rfl) (ca %[az bO (aM aN rfl hlen PySem.boot_len %[aD (pv 0) rfl|ag]) aj|ag])|ag])))))))))),?_⟩
 have nag:a≠g:=bu ha hg (by intro z;cases z);have nbg:b≠g:=bu hb hg (by intro z;cases z);have vl:=TS.length;erw[0,a,0,.inr %[zB0 ha,0,g,C,dx,[],1,hg,T.cl,T.nS,(by show 0<1000;decide)|6]];erw[0,b,0,.inr %[zB0 (by rw[aG nbg];exact hb),0,g,C,dx,0,am,T.cl,T.nT,(Nat.lt_of_le_of_lt (ii _ _ _) (by show 1<1000;decide))|6]];erw[0,0,g,C,dx,0,am,T.cl,T.nF,(Nat.lt_of_le_of_lt (ii _ _ _) (Nat.lt_of_le_of_lt (Nat.succ_le_succ (ii _ _ _)) (by show 2<1000;decide))),6];have S3:SameBut g H (upd (upd (upd H g (.ins C dx (bL "switches" (.ref a) []))) g (.ins C dx (bL "trees" (.ref b) (bL "switches" (.ref a) [])))) g (.ins C dx (bL "field" (.int p) (bL "trees" (.ref b) (bL "switches" (.ref a) []))))):=
  (SameBut.upd _).trans ((SameBut.upd _).trans (SameBut.upd _))
 have hg3:upd (upd (upd H g (.ins C dx (bL "switches" (.ref a) []))) g (.ins C dx (bL "trees" (.ref b) (bL "switches" (.ref a) [])))) g (.ins C dx (bL "field" (.int p) (bL "trees" (.ref b) (bL "switches" (.ref a) [])))) g=some (.ins C dx (gf3 a b p)):=am;generalize upd (upd (upd H g (.ins C dx (bL "switches" (.ref a) []))) g (.ins C dx (bL "trees" (.ref b) (bL "switches" (.ref a) [])))) g (.ins C dx (bL "field" (.int p) (bL "trees" (.ref b) (bL "switches" (.ref a) []))))=H3 at S3 hg3;have kT:cg H H3:=λc xs h=>S3 c _ (bu h hg (by intro z;cases z)) h
 have ha3:=kT _ _ ha;have hb3:=kT _ _ hb;have TS3:=TS.mono kT;erw[0,g,C,dx,_,0,hg3,T.cl,T.nS,HX ..,a,1,%[_|zB0 ha3],λD hD=>?_];have D0:H D=none:=by
  cases e:H D with
  | none=>rfl
  | some o=>
    by_cases c:D=g
    . rw[c,hg3]at hD;cases hD
    . rw[S3 D o c e]at hD;cases hD
 refine fY (K:=K) (xs:=ns.map V.str) (λi H'=>H' D=some (.lst (((ns.take i).map (bN ts)).map V.int))/\Same H3 H') %[by rw[am];rfl|zE0 hD _] (λi H' _ h=>zB0 (h.2 _ _ ha3)) ?_ ?_
 . rintro i z H4 hz ⟨hl,S4⟩;have hi:i<(ns.map V.str).length:=(zX0 hz).1;rw[zZ0]at hz;let%[x,hx|1]:=qV0 hz;erw[0,0,g,C,dx,_,0,S4 _ _ hg3,T.cl,T.nT,HW ..,x,b,tv,ts,1,S4 _ _ hb3,TS3.mono (aZ S4),6,t10,λt ht=>(tok t ht).2,λH5 S5=>?_]
   . intro e;rw[e]at t1;exact absurd t1 ⋯
   erw[_,S5 _ _ hl,6,Nx.of hi %[6|λb' o' e'=>?_]]
   . rw[zF0,zF0,qK0];exact aS #[0]
   . rw[am,qI0,hx,zL0,zL0];rfl
   . rw[aG (aQ e' hD)];exact S5 _ _ (S4 _ _ e')
 rintro H4 ⟨hl,S4⟩;rw[zF0,qF0]at hl;erw[0,g,C,dx,0,S4 _ _ hg3,T.cl,T.nD,6,6]
 . exact Nat.lt_of_le_of_lt (zP0 (ii _ _ _) (Nat.succ_le_succ (zP0 (ii _ _ _) (Nat.succ_le_succ (ii _ _ _))))) (by show 3<1000;decide)
 have nDg:D≠g:=λz=>by rw[z,hg3]at hD;cases hD
 have hg5:upd H4 g (.ins C dx (gf a b p D)) g=some (.ins C dx (gf a b p D)):=am;have S5:SameBut g H (upd H4 g (.ins C dx (gf a b p D))):=S3.trans ((zK0 S4).trans (SameBut.upd _));have hD5:upd H4 g (.ins C dx (gf a b p D)) D=some (.lst ((ns.map (bN ts)).map V.int)):=by rw[aG nDg];exact hl
 show _;generalize he5:upd H4 g (.ins C dx (gf a b p D))=H5 at hg5 S5 hD5;have kT5:cg H H5:=λc xs h=>S5 c _ (bu h hg (by intro z;cases z)) h
 rw[show upd H4 g (.ins C dx (bL "degrees" (.ref D) (gf3 a b p)))=H5 from he5];erw[0,g,C,dx,_,0,hg5,T.cl,T.nS,pq ..,a,ns,1,kT5 _ _ ha,nd,nl,λH6 S6=>?_];have kT6:cg H H6:=λc xs h=>S6 _ _ (kT5 c xs h)
 erw[0,g,C,dx,_,0,S6 _ _ hg5,T.cl,T.nT,lp ..,0,g,C,dx,_,0,S6 _ _ hg5,T.cl,T.nS,pq ..,a,b,ns,tv,ts,1,kT6 _ _ ha,kT6 _ _ hb,TS.mono kT6,tok,λH7 S7=>?_];have S57:=S6.trans S7;erw[0,p,1,pp,p2,p9,6];erw[0,0,g,C,dx,_,0,S57 _ _ hg5,T.cl,T.nD,Ea ..,0,g,C,dx,_,0,S57 _ _ hg5,T.cl,T.nT,lp ..,b,0,.inr (zB0 (S57 _ _ (kT5 _ _ hb))),2,(by show 1<=sizeLine;decide),λl hl2=>?_];have Gl:=zE0 hl2 (.lst [.int ((tv.length:Int)-1)]);erw[D,l,2,Gl _ _ (S57 _ _ hD5),am,6,λr hr0=>?_]
 . rw[zF0,zF0];exact cv (by simp;omega)
 have Gr:=zE0 hr0 (.lst ((ns.map (bN ts)).map V.int++[.int ((tv.length:Int)-1)]));erw[p,r,ns.map (bN ts)++[(tv.length:Int)-1],1,6,by simp,λn hn=>?_,6]
 . rw[am,zL0];rfl
 . rcases qM0 hn with h | h
   . let%[x,hx|1]:=List.mem_map.mp h;refine mV ?_ λt ht=>tc t ht x hx
     intro e;rw[e]at t1;exact absurd t1 ⋯
   . rw[zS0 h];omega
 . have S59:=S57.trans (Gl.trans Gr);exact q D _ D0 %[dx|S59 _ _ hg5] (S59 _ _ hD5) (S5.trans (zK0 S59))
inductive spInv(vs:List V)(H:Hp)(Q:VK)(u_3:XK):Prop
 |mk:∀a p:Int,vs=[.int a,.int p]->Pr p->p<=999983->0<a->a<p->(∀g:Int,0<g->g<p->g*a % p=1->Q (.int g) H)->spInv vs H Q u_3
theorem bn:FnScope ["a","p","former","former_factor","rest","factor","times","lesser","lesser_factor"] ["a","p"] (aq jq):=%[1,1,1,4,1,4|4]
theorem sC   (F:Fun K "inverse_of" "inverse_of" jq f fd):FnOk P w K mg base CX0 1 f fd ["a","p"] spInv:=by
 exists bn
 erw[a,p,1,pr,p1,a0,a1,q]at h;have p2:2<=p:=pr.1;refine⟨_,(ae #[ax,2,bn,pv 1]
  (ae #[ax,3,bn,aj]
  (ae #[ax,4,bn,az bd (pv 0) (pv 1)]
  (ae #[ax,5,bn,aj]
  (ae (ik PassesOwn.never (ao mq (pv 4) aj (aE _)) (ae #[ax,6,bn,az zq (pv 2) (pv 4)]
   (ae #[ax,7,bn,az bO (pv 2) (az cw (pv 6) (pv 4))]
   (ae #[ax,8,bn,az bd (az bO (pv 3) (az cw (pv 6) (pv 5))) (pv 1)]
   (ae #[ax,2,bn,pv 4]
   (ae #[ax,3,bn,pv 5]
   (ae #[ax,4,bn,pv 7]
   (ai #[ax,5,bn,pv 8]))))))))
  (ai (au (pv 5)))))))),?_⟩
 erw[0,6];erw[0,0,2,(show 0<p by omega),6];erw[λm σ H'=>∃(former ff rest g:Int)(x6 x7 x8:Option V),σ=[some (.int a),some (.int p),some (.int former),some (.int ff),some (.int rest),some (.int g),x6,x7,x8]/\H'=H/\Eu a p former ff rest g/\m=rest.toNat,%[_,_,_,_,_,_,2,wD pr #[0] a0 a1|1],6]
 rintro m σ H' ⟨former,ff,rest,g,x6,x7,x8,rfl,rfl,eu,rfl⟩;erw[0,1,0,6]
 by_cases c:rest=1
 . refine wp (congrArg V.int c) ?_;let%[g0,g1|g2]:=Eh eu c #[0];erw[0,q g g0 g1 g2]
 . refine iteN (λz=>c (V.int.inj z)) ?_;erw[_,λ_ _ h=>h,6];have r0:=eu.r0;have rp:=eu.rp;have f0:=eu.f0;have f1:=eu.f1;let%[nx|lt]:=zE eu c;erw[0,0,2,%[r0|3],6];erw[0,0,0,2,.inr %[3|3],2,6];erw[0,0,0,2,.inr %[3|3],2,0,2,(show 0<p by omega),6];erw[0,0,0,0,6];erw[_,lt,_,_,_,_,_,2,nx,1]
theorem md{p x y:Int}(h:p ∣ x-y):x % p=y % p:=by
 erw[k,hk]at h
 have:x=y+p*k:=by omega
 rw[this,Int.add_mul_emod_self_left]
theorem dm(p x:Int):p ∣ x % p-x:=⟨-(x / p),by
 have:=Int.emod_add_mul_ediv x p
 rw[Int.mul_neg];omega⟩
def pmd(p:Int)(g:Nat->Int):Nat->Int
 | 0=>1
 | k+1=>pmd p g k*g k % p
theorem mo(p:Int)(g:Nat->Int):∀k,p ∣ pmd p g k-pr g k
 | 0=>%[(0)|by simp [pmd,pr]]
 | k+1=>by
   let%[a|ha]:=mo p g k;let%[b|hb]:=dm p (pmd p g k*g k);erw[b+a*g k,by show pmd p g k*g k % p-pr g k*g k=_;grind]
theorem mi{p:Int}(hp:1<p)(g:Nat->Int):∀k,0<=pmd p g k/\pmd p g k<p
 | 0=>%[by show(0:Int)<=1;decide|hp]
 | k+1=>%[qC0 _ #[0]|qE0 _ #[0]]
def prL(p:Int)(g:Nat->Int)(n:Nat):List V:=((List.range n).map (pmd p g)).map V.int
theorem qT(p:Int)(g:Nat->Int)(n:Nat):prL p g (n+1)=prL p g n++[.int (pmd p g n)]:=by
 unfold prL;rw[List.range_succ,zL0,zL0];rfl
theorem Fk(p:Int)(g:Nat->Int)(n:Nat):(prL p g n).length=n:=by
 unfold prL;rw[zF0,zF0,qR0]
theorem yt{f:Nat->Int}{n k:Nat}(h:k<n):atI (((List.range n).map f).map V.int) (k:Int)=some (.int (f k)):=by
 refine cE ?_;rw[zZ0,zZ0,List.getElem?_range h];rfl
theorem xP{n k:Nat}(h:k<n):atI (prL p g n) (k:Int)=some (.int (pmd p g k)):=yt h
inductive spProd(vs:List V)(H:Hp)(Q:VK)(u_3:XK):Prop
 |mk:∀(a:Addr)(g:Nat->Int)(n:Nat)(p:Int),vs=[.ref a,.int p]->H a=some (.lst (((List.range n).map g).map V.int))->n<=500->1<p->p<2 ^ 40->(∀(l:Addr)(H':Hp),H l=none->Same H H'->H' l=some (.lst (prL p g (n+1)))->Q (.ref l) H')->spProd vs H Q u_3
theorem k4:FnScope ["numbers","p","told","number"] ["numbers","p"] (aq lC):=%[1,1,1,4,1,4|4]
theorem vO   (F:Fun K "products" "products" lC f fd):FnOk P w K mg base CX0 1 f fd ["numbers","p"] spProd:=by
 exists k4
 erw[a,g,n,p,1,ha,n5,p1,p40,q]at h;refine⟨_,(ae #[ax,2,k4,ca %[aj|ag]]
  (ae (cI PassesOwn.never rfl (gI (pv 0)) (bt (i:=3) k4.nd rfl (.inl rfl)) (ai (ba (dw PySem.F.plainAttrs_list PySem.F.slot_list_append PySem.F.type_list_append cz (pv 2) %[az bd (az cw (aP ix_list (pv 2) (zn tN aj) (λ_ _=>rfl)) (pv 3)) (pv 1)|ag]))))
  (ai (au (pv 2))))),?_⟩
 erw[(by show 1<=sizeLine;decide),λL hL=>?_];have aL:a≠L:=aQ ha hL;refine⟨_,rfl,a,rfl,%[_|zH0 ((zE0 hL _) _ _ ha)],ku (K:=K) (xs:=((List.range n).map g).map V.int) (λi σ H'=>∃x3:Option V,σ=[some (.ref a),some (.int p),some (.ref L),x3]/\H' L=some (.lst (prL p g (i+1)))/\SameBut L H H')
  %[0,by rw[am];rfl|SameBut.upd _] (λi σ H' _ hst=>by erw[_,_,_,h]at hst;exact zH0 (h _ _ aL ha)) ?_ ?_⟩
 . rintro i z σ H1 hz ⟨x3,rfl,hL1,S1⟩;have hi:=(zX0 hz).1;rw[zF0,zF0,qR0]at hi;rw[zZ0,zZ0,List.getElem?_range hi]at hz;obtain rfl:V.int (g i)=z:=zT0 hz;have rg:=mi p1 g i;erw[0,.inl %[1,_|zH0 hL1],6];erw[0,0,L,_,_,.int (pmd p g i),1,1,zH0 hL1,6,0,2,.inl %[3|3],0,2,#[0],L,2,hL1,6,6]
   . rw[qT];exact wP _ _
   . rw[Fk];exact aS #[0]
   . erw[0,6,λc o hc e=>?_]
     . rw[am,qT p g (i+1)];rfl
     . rw[aG hc];exact S1 c o hc e
 . rintro σ H1 ⟨x3,rfl,hL1,S1⟩;rw[zF0,zF0,qR0]at hL1;erw[0,q L H1 hL (λb o e=>S1 b o (aQ e hL) e) hL1]
theorem CL:∀n:Nat,pr (λk=>1+(k:Int)) n=fac n
 | 0=>rfl
 | n+1=>by
   show pr (λk=>1+(k:Int)) n*(1+(n:Int))=fac n*((n:Int)+1)
   rw[CL n,Int.add_comm]
theorem Ck{p g a t s:Int}{k m:Nat}(hg:g*a % p=1)(p1:1<p)(ha:p ∣ a-fac (k+m))(ht:p ∣ t-pr (λj=>((k+m:Nat):Int)-j) m)(hs:p ∣ s-g*t):p ∣ s*fac k-1:=by
 have f:=wB m k;erw[x,hx]at ha;erw[y,hy]at ht;erw[z,hz]at hs;let%[e|he]:=dm p (g*a);rw[hg]at he;erw[z*fac k+g*y*fac k-g*x-e,by grind]
inductive spFacs(vs:List V)(H:Hp)(Q:VK)(u_3:XK):Prop
 |mk:∀(L:Nat)(p:Int),vs=[.int (L:Int),.int p]->L<=500->(L:Int)<p->Pr p->p<=999983->(∀(l:Addr)(H':Hp)(sh:Nat->Int),H l=none->Same H H'->(∀k,k<=L->p ∣ sh k*fac k-1)->(∀k,0<=sh k/\sh k<p)->H' l=some (.lst (((List.range (L+1)).map sh).map V.int))->Q (.ref l) H')->spFacs vs H Q u_3
theorem cQ:FnScope ["last","p","numbers","whole","told"] ["last","p"] (aq dO):=%[1,1,1,4,1,4|4]
theorem jO   (F:Fun K "inverse_factorials" "inverse_factorials" dO f fd) (B:Bl mg) (dZ:Cal P w K mg base 1 "products" ["numbers","p"] spProd) (eT:Cal P w K mg base 1 "inverse_of" ["a","p"] spInv):FnOk P w K mg base CX0 2 f fd ["last","p"] spFacs:=by
 exists cQ
 erw[L,p,1,L5,Lp,pp,p9,q]at h;refine⟨_,(ae #[ax,2,cQ,xV rfl rfl B.list rfl B.range %[aj,az aX (pv 0) aj|ag]]
  (ae (ax (i:=3) cQ.nd rfl (Or.inr rfl) (aB eT hr ⋯ rfl %[aP ix_list (aB dZ hr ⋯ rfl %[2,1|ag]) (zn tN aj) (λ_ _=>rfl),1|ag]))
  (ae (ax (i:=4) cQ.nd rfl (Or.inr rfl) (aB dZ hr ⋯ rfl (aa (cM (N:=["last"]) (ix:=[0]) rfl
   (CompScope.one (by rfl') ⋯ rfl ⋯ rfl ⋯ (by rfl') (by rfl') (by rfl') rfl rfl) rfl
   (bX rfl B.range %[0|ag]) (λ_ _ _=>db (az bO (pv 1) (pv 0)))) %[1|ag])))
  (ai (au (cM (N:=["whole","told","p","last"]) (ix:=[3,4,1,0]) rfl
   (CompScope.four (by rfl') ⋯ rfl ⋯ rfl ⋯ rfl (by rfl') (by rfl') (by rfl') (by rfl') (by rfl') (by rfl') rfl rfl (by rfl') rfl rfl (by rfl') rfl rfl (by rfl') rfl rfl) rfl
   (bX rfl B.range %[az aX (pv 0) aj|ag]) (λ_ _ _=>db (az bd (az cw (pv 1) (aP (wo K) (pv 2) (az bO (pv 4) (pv 0)) (λ_ _=>rfl))) (pv 3))))))))),?_⟩
 have p2:=pp.1;have hP:=vG pp #[0];erw[0,2,(1),0,%[4,4,3|3],3,λa ha=>?_];have e1:uB 1 ((L:Int)+1-1).toNat=(List.range L).map λk:Nat=>1+(k:Int):=by
  unfold uB;rw[show((L:Int)+1-1).toNat=L by omega]
 rw [e1];have Ga:=zE0 ha (.lst (((List.range L).map λk:Nat=>1+(k:Int)).map V.int));erw[0,0,a,_,L,p,1,am,L5,3,3,λl H2 l0 S2 hl2=>?_];have rg:=mi (show 1<p by omega) (λk:Nat=>1+(k:Int)) L;have dv:=mo p (λk:Nat=>1+(k:Int)) L;rw[CL]at dv;have ne0:pmd p (λk:Nat=>1+(k:Int)) L≠0:=λz=>by
  rw[z]at dv;erw[m,hm]at dv;exact ve hP L Lp %[-m|by rw[Int.mul_neg];omega]
 erw[0,l,_,_,.int (pmd p (λk:Nat=>1+(k:Int)) L),1,1,zH0 hl2,by rw[qT];exact wP _ _,0,_,p,1,pp,p9,3,rg.2,λg g0 g1 hg=>?_];have SH2:=Ga.trans S2;erw[0,0,3,3,λD hD=>?_];refine eC (λi H'=>H' D=some (.lst (((List.range i).map λj:Nat=>(L:Int)-j).map V.int))/\Same H2 H') %[by rw[am];rfl|zE0 hD _] ?_ ?_
 . rintro i H3 hi ⟨hD3,S3⟩;erw[0,0,2,_,hD3,6,Nx.of hi %[6|λb o e=>?_]]
   . rw[zF0,zF0,qR0];exact aS #[0]
   . rw[am,List.range_succ,zL0,zL0,Int.zero_add];rfl
   . rw[aG (aQ e hD)];exact S3 _ _ e
 rintro H3 ⟨hD3,S3⟩;rw[show((L:Int)).toNat=L from qS0 L]at hD3;erw[0,D,_,L,p,1,hD3,L5,3,3,λt H4 t0 S4 ht4=>?_];erw[0,2,0,3,3,λD2 hD2=>?_];refine eC (λi H'=>H' D2=some (.lst (((List.range i).map λk:Nat=>g*pmd p (λj:Nat=>(L:Int)-j) (L-k) % p).map V.int))/\Same H4 H') %[by rw[am];rfl|zE0 hD2 _] ?_ ?_
 . rintro i H5 hi ⟨hD5,S5⟩;have hi':i<L+1:=by omega
   have rg2:=mi (show 1<p by omega) (λj:Nat=>(L:Int)-j) (L-i);have e2:(L:Int)-(0+(i:Int))=((L-i:Nat):Int):=by omega
   erw[0,0,0,0,2,t,_,_,.int (pmd p (λj:Nat=>(L:Int)-j) (L-i)),1,1,zH0 (S5 _ _ ht4),by rw[e2];exact xP #[0],2,.inl %[3|3],0,2,#[0],_,hD5,6,Nx.of hi ⟨?_,λb o e=>?_⟩]
   . rw[zF0,zF0,qR0];exact aS #[0]
   . rw[am,List.range_succ,zL0,zL0];rfl
   . rw[aG (aQ e hD2)];exact S5 _ _ e
 rintro H5 ⟨hD5,S5⟩;rw[show((L:Int)+1).toNat=L+1 by omega]at hD5;have S05:=SH2.trans (S3.trans (S4.trans S5));refine q D2 H5 (λk=>g*pmd p (λj:Nat=>(L:Int)-j) (L-k) % p) ((SH2.trans (S3.trans S4)).free hD2) S05 (λk hk=>?_) (λk=>%[qC0 _ #[0]|qE0 _ #[0]]) hD5;obtain⟨m,rfl⟩:∃m,L=k+m:=⟨L-k,by omega⟩
 rw[show k+m-k=m by omega];exact Ck hg #[0] dv (mo p _ m) (dm p _)
def wt(p:Int)(n i:Nat):Int:=(px (i:Int) i n % p) ^ (p-2).toNat
theorem wW(hp:Pm p){n:Nat}(hn:(n:Int)<=p):Wgt p n (wt p n):=λi hi=>by
 have h1:=Hy hp hn hi;let%[k|hk]:=dm p (px (i:Int) i n);have h2:¬ p ∣ px (i:Int) i n % p:=fun⟨m,hm⟩=>h1 %[m-k|by grind]
 let%[m|hm]:=Ic hp h2 (qC0 _ (by have:=hp.1;omega));erw[m-k*(px (i:Int) i n % p) ^ (p-2).toNat,by unfold wt;grind]
def val(p:Int)(xs:List Int)(r:Int):Int:=lag (λi=>xs.getD i 0) (wt p xs.length) xs.length r % p
theorem GZ{t:Int}{xs:List Int}(hp:Pm p)(hn:(xs.length:Int)<=p)(hu:Wgt p xs.length u)(t0:0<=t)(t1:t<p)(h:p ∣ t-lag (λi=>xs.getD i 0) u xs.length r):t=val p xs r:=by
 have e:p ∣ t-lag (λi=>xs.getD i 0) (wt p xs.length) xs.length r:=by
  have:=DN hp hn (v:=λi=>xs.getD i 0) hu (wW hp hn) r
  have z:=Int.dvd_add h this;have e2:t-lag (λi=>xs.getD i 0) u xs.length r+(lag (λi=>xs.getD i 0) u xs.length r-lag (λi=>xs.getD i 0) (wt p xs.length) xs.length r)=t-lag (λi=>xs.getD i 0) (wt p xs.length) xs.length r:=by omega
  rw[e2]at z;exact z
 have:=md e
 rw[qT0 t0 t1]at this;exact this
theorem EJ{p:Int}(hp:1<p)(xs:List Int)(r:Int):0<=val p xs r/\val p xs r<p:=%[qC0 _ #[0]|qE0 _ #[0]]
theorem Ha{xs:List Int}{k:Nat}(hp:Pm p)(hn:(xs.length:Int)<=p)(hk:k<xs.length):val p xs k=xs.getD k 0 % p:=md (yy (wW hp hn) hk)
theorem sgn(m:Nat):(-1:Int) ^ m=if m % 2=1 then -1 else 1:=by
 induction m with
 | zero=>rfl
 | succ m ih=>
   rw[Int.pow_succ,ih]
   by_cases c:m % 2=1
   . rw[zC0 c,zA0 #[0]];rfl
   . rw[zA0 c,zC0 #[0]];rfl
theorem EI{p r v t s a b c d e:Int}{m:Nat}{x y:Int}(ht:p ∣ t-s)(ha:p ∣ a-pr (λj=>r-j) i)(hb:p ∣ b-pr (λj=>r-(i+m:Nat)+j) m)(hc:p ∣ c-v*a*b)(hd:p ∣ d-x*y)(he:p ∣ e-(t+(if m % 2=1 then -(c*d)else c*d))) :
 p ∣ e-(s+v*px r i (i+m+1)*((-1) ^ m*(x*y))):=by
 rw[show i+m+1=i+1+m by omega,qO,sgn];rw[zm]at hb;generalize pr (λj=>r-j) i=A at *
 generalize pr (λj=>r-(i+1+j:Nat)) m=B at *
 erw[t',ht]at ht;erw[a',ha]at ha;erw[b',hb]at hb;erw[c',hc]at hc;erw[d',hd]at hd;erw[e',he]at he;have e1:c*d-v*(A*B)*(x*y)=p*(c'*d+v*(a'*b+A*b')*d+v*A*B*d'):=by grind
 by_cases z:m % 2=1
 . rw [zC0 z]at *
   erw[e'+t'-(c'*d+v*(a'*b+A*b')*d+v*A*B*d'),by grind]
 . rw [zA0 z]at *
   erw[e'+t'+(c'*d+v*(a'*b+A*b')*d+v*A*B*d'),by grind]
def IntsAt(H:Hp)(a:Addr)(xs:List Int):Prop:=H a=some (.lst (xs.map V.int))∨H a=some (.tup (xs.map V.int))
theorem IntsAt.same(h:IntsAt H a xs)(s:Same H H'):IntsAt H' a xs:=h.elim (λe=>.inl (s _ _ e)) (λe=>.inr (s _ _ e))
theorem IntsAt.seq{K:W.Frag}(h:IntsAt H a xs):SqL K H a (xs.map V.int)∨SqT K H a (xs.map V.int):=h.elim (λe=>.inl (zH0 e)) (λe=>.inr (zB0 e))
theorem IntsAt.ix{K:W.Frag}{k:Nat}{Q:VK}(h:IntsAt H a xs)(hk:k<xs.length)(q:Q (.int (xs.getD k 0)) H):rIxL K (.ref a) (.int (k:Int)) H Q∨rIxT K (.ref a) (.int (k:Int)) H Q:=by
 have e:atI (xs.map V.int) (k:Int)=some (.int (xs.getD k 0)):=cE (by rw[zZ0,zM0 hk,qL0,zM0 hk];rfl);rcases h with h | h
 . exact .inl %[a,_,2,zH0 h,e|q]
 . exact .inr %[a,_,2,zB0 h,e|q]
def lu(xs:List Int)(p:Int):Prop:=1<=xs.length/\xs.length<=500/\(xs.length:Int)<=p/\∀k,0<=xs.getD k 0/\xs.getD k 0<2 ^ 40
inductive spVal(vs:List V)(H:Hp)(Q:VK)(u_3:XK):Prop
 |mk:∀(a:Addr)(xs:List Int)(r p:Int),vs=[.ref a,.int r,.int p]->IntsAt H a xs->lu xs p->Pr p->p<=999983->0<=r->r<p->(∀H',Same H H'->Q (.int (val p xs r)) H')->spVal vs H Q u_3
theorem bm:FnScope ["values","r","p","last","ahead","behind","shares","total","place","share","part"] ["values","r","p"] (aq gY):=%[1,1,1,4,1,4|4]
theorem pH   (F:Fun K "value_behind" "value_behind" gY f fd) (B:Bl mg) (dZ:Cal P w K mg base 1 "products" ["numbers","p"] spProd) (eU:Cal P w K mg base 2 "inverse_factorials" ["last","p"] spFacs):FnOk P w K mg base CX0 3 f fd ["values","r","p"] spVal:=by
 exists bm
 erw[a,xs,r,p,1,ha,%[x1,x5,xp|xb],pp,p9,r0,r1,q]at h;refine⟨_,(ae (ax (i:=3) bm.nd rfl (Or.inr rfl) (az bO (aM aN rfl B.len PySem.boot_len %[0|ag]) aj))
  (ae (ax (i:=4) bm.nd rfl (.inl rfl) (aB dZ hr ⋯ rfl (aa (cM (N:=["r"]) (ix:=[1]) rfl
   (CompScope.one (by rfl') ⋯ rfl ⋯ rfl ⋯ (by rfl') (by rfl') (by rfl') rfl rfl) rfl
   (bX rfl B.range %[3|ag]) (λ_ _ _=>db (az bO (pv 1) (pv 0)))) %[2|ag])))
  (ae (ax (i:=5) bm.nd rfl (.inl rfl) (aB dZ hr ⋯ rfl (aa (cM (N:=["r","last"]) (ix:=[1,3]) rfl
   (CompScope.two (by rfl') ⋯ rfl ⋯ rfl ⋯ (by first | exact Or.inl rfl | exact Or.inr rfl) (by rfl') (by rfl') (by rfl') (by rfl') rfl rfl (by rfl') rfl rfl) rfl
   (bX rfl B.range %[3|ag]) (λ_ _ _=>db (az aX (az bO (pv 1) (pv 2)) (pv 0)))) %[2|ag])))
  (ae #[ax,6,bm,aB eU hr ⋯ rfl %[3,2|ag]]
  (ae #[ax,7,bm,aj]
  (ae (cI PassesOwn.never rfl (bX rfl B.range %[az aX (pv 3) aj|ag]) (bt (i:=8) bm.nd rfl (.inl rfl)) (ae #[ax,9,bm,az bd (az cw (aP ix_list (pv 6) (pv 8) (λ_ _=>rfl)) (aP ix_list (pv 6) (az bO (pv 3) (pv 8)) (λ_ _=>rfl))) (pv 2)]
   (ae #[ax,10,bm,az cw (az bd (az cw (az cw (aP (ix_list.or ix_tup) (pv 0) (pv 8) (λ_ _=>rfl)) (aP ix_list (pv 4) (pv 8) (λ_ _=>rfl))) (aP ix_list (pv 5) (az bO (pv 3) (pv 8)) (λ_ _=>rfl))) (pv 2)) (pv 9)]
   (ae (aO (ao aW (az bd (az bO (pv 3) (pv 8)) aj) aj (aE _)) (ai #[ax,10,bm,zn tN (pv 10)]) aF)
   (ai #[ax,7,bm,az bd (az aX (pv 7) (pv 10)) (pv 2)])))))
  (ai (au (pv 7))))))))),?_⟩
 have p2:=pp.1;have p1:1<p:=by omega
 have p0:0<p:=by omega
 have hP:=vG pp #[0];obtain⟨L,hL⟩:∃L,xs.length=L+1:=%[xs.length-1|3]
 have eL:(((xs.map V.int).length:Nat):Int)-1=(L:Int):=by rw[zF0];omega
 erw[0,a,0,ha.seq,2,6]
 dsimp only
 rw[eL];erw[0,(L:Int),1,3,3,λD hD=>?_];refine eC (λi H'=>H' D=some (.lst (((List.range i).map λj:Nat=>r-j).map V.int))/\Same H H') %[by rw[am];rfl|zE0 hD _] ?_ ?_
 . rintro i H3 hi ⟨hD3,S3⟩;erw[0,0,2,_,hD3,6,Nx.of hi %[6|λb o e=>?_]]
   . rw[zF0,zF0,qR0];exact aS #[0]
   . rw[am,List.range_succ,zL0,zL0,Int.zero_add];rfl
   . rw[aG (aQ e hD)];exact S3 _ _ e
 rintro H1 ⟨hD1,S1⟩;rw[show((L:Int)).toNat=L from qS0 L]at hD1;erw[0,D,_,L,p,1,hD1,3,p1,3,λla H2 la0 S2 hla=>?_];erw[0,(L:Int),1,3,3,λD2 hD2=>?_];refine eC (λi H'=>H' D2=some (.lst (((List.range i).map λj:Nat=>r-(L:Int)+j).map V.int))/\Same H2 H') %[by rw[am];rfl|zE0 hD2 _] ?_ ?_
 . rintro i H3 hi ⟨hD3,S3⟩;erw[0,0,2,0,2,_,hD3,6,Nx.of hi %[6|λb o e=>?_]]
   . rw[zF0,zF0,qR0];exact aS #[0]
   . rw[am,List.range_succ,zL0,zL0,Int.zero_add];rfl
   . rw[aG (aQ e hD2)];exact S3 _ _ e
 rintro H3 ⟨hD3,S3⟩;rw[show((L:Int)).toNat=L from qS0 L]at hD3;erw[0,D2,_,L,p,1,hD3,3,p1,3,λlb H4 lb0 S4 hlb=>?_];erw[0,0,L,p,1,3,3,pp,p9,λls H5 sh ls0 S5 hsh hsr hls=>?_];have S25:=S3.trans (S4.trans S5);have S05:=S1.trans (S2.trans S25);have hla5:=S25 _ _ hla;have hlb5:=S5 _ _ hlb;have ha5:=ha.same S05;have hW:=EF hsh;refine⟨_,rfl,_,_,rfl,rfl,_,rfl,by omega,by omega,dq (λi σ H'=>∃(t:Int)(x8 x9 x10:Option V),σ=[some (.ref a),some (.int r),some (.int p),some (.int L),some (.ref la),some (.ref lb),some (.ref ls),some (.int t),x8,x9,x10]/\0<=t/\t<p/\p ∣ t-sm (λi=>xs.getD i 0*px r i (L+1)*((-1) ^ (L-i)*(sh i*sh (L-i)))) i/\H'=H5)
  %[(0),_,_,0,4,p0,%[(0)|by simp [sm]]|1] ?_ ?_⟩
 . rintro i σ H6 hi ⟨t,x8,x9,x10,rfl,t0,t1,td,rfl⟩;have hi':i<L+1:=by omega
   obtain⟨m,hm⟩:∃m,L=i+m:=%[L-i|3]
   have e0:(0:Int)+(i:Int)=(i:Int):=Int.zero_add _;have e1:(L:Int)-(0+(i:Int))=(m:Int):=by omega
   have r1':=hsr i;have r2':=hsr m;have ar:=mi p1 (λj:Nat=>r-j) i;have br:=mi p1 (λj:Nat=>r-(L:Int)+j) m;have xi:=xb i;have m1:∀z:Int,0<=z % p:=λz=>qC0 _ #[0]
   have m2:∀z:Int,z % p<p:=λz=>qE0 _ p0
   erw[0,0,ls,_,_,.int (sh i),1,1,zH0 hls,by rw[e0];exact yt hi',0,0,0,2,ls,_,_,.int (sh m),1,1,zH0 hls,by rw[e1];exact yt #[0],2,.inl %[3|3],0,2,p0,6];erw[0,0,6];rw[e0];refine ha5.ix #[0] ?_;erw[0,0,la,_,_,.int (pmd p (λj:Nat=>r-j) i),1,1,zH0 hla5,xP hi',2,.inl %[3|3],6];erw[0,0,0,2,lb,_,_,.int (pmd p (λj:Nat=>r-(L:Int)+j) m),1,1,zH0 hlb5,by rw[←e0,e1];exact xP #[0],2,.inr %[3|3],0,2,p0,6];have s1:=m1 (sh i*sh m);have s2:=m2 (sh i*sh m);erw[0,2,.inr %[3|3],6];erw[0,0,2,2,(by show(0:Int)<_;decide),1,0,6];have fin:∀z:Int,z=(if m % 2=1 then -(xs.getD i 0*pmd p (λj:Nat=>r-j) i*pmd p (λj:Nat=>r-(L:Int)+j) m % p*(sh i*sh m % p))else xs.getD i 0*pmd p (λj:Nat=>r-j) i*pmd p (λj:Nat=>r-(L:Int)+j) m % p*(sh i*sh m % p)) ->
    p ∣ (t+z) % p-sm (λi=>xs.getD i 0*px r i (L+1)*((-1) ^ (L-i)*(sh i*sh (L-i)))) (i+1):=λz hz=>by
    show p ∣ _-(sm _ i+xs.getD i 0*px r i (L+1)*((-1) ^ (L-i)*(sh i*sh (L-i))))
    have em:L-i=m:=by omega
    have hb:p ∣ pmd p (λj:Nat=>r-(L:Int)+j) m-pr (λj=>r-(i+m:Nat)+j) m:=by
     rw[←hm];exact mo p _ m
    subst hz;rw[em];have el:L+1=i+m+1:=by omega
    rw[el]at td ⊢;exact EI td (mo p _ i) hb (dm p _) (dm p _) (dm p _)
   by_cases c:m % 2=1
   . refine bb (congrArg V.int #[0]) ?_;erw[0,0,6];erw[0,0,2,0,2,p0,6];erw[_,_,_,0,m1 _,m2 _,fin _ (by rw[zC0 c]),1]
   . refine aI (λz=>c (by have:=V.int.inj z;omega)) ?_;erw[0,0,2,0,2,p0,6];erw[_,_,_,0,m1 _,m2 _,fin _ (by rw[zA0 c]),1]
 . rintro σ H6 ⟨t,x8,x9,x10,rfl,t0,t1,td,rfl⟩;rw[show((L:Int)+1).toNat=L+1 by omega]at td;rw[←hL]at hW;have e:=GZ (r:=r) hP xp hW t0 t1 (by
    unfold lag;rw[hL];exact td)
   rw[e];erw[0,q H6 S05]
theorem u6:FnScope ["values","r","p","place"] ["values","r","p"] (aq ly):=%[1,1,1,4,1,4|4]
theorem vL   (F:Fun K "value_at" "value_at" ly f fd) (B:Bl mg) (gP:Cal P w K mg base 3 "value_behind" ["values","r","p"] spVal):FnOk P w K mg base CX0 4 f fd ["values","r","p"] spVal:=by
 exists u6
 erw[a,xs,r,p,1,ha,ok,pp,p9,r0,r1,q]at h;refine⟨_,(ae #[ax,3,u6,az bd (pv 1) (pv 2)]
  (ae (aO (ao eO (pv 3) (aM aN rfl B.len PySem.boot_len %[0|ag]) (aE _)) (ai (au (az bd (aP (ix_list.or ix_tup) (pv 0) (pv 3) (λ_ _=>rfl)) (pv 2)))) aF)
  (ai (au (aB gP hr ⋯ rfl %[0,3,2|ag]))))),?_⟩
 have p0:0<p:=by omega
 have hP:=vG pp #[0];have er:r % p=r:=qT0 r0 r1;erw[0,0,2,p0,6]
 dsimp only
 rw[er];erw[0,0,a,0,ha.seq,2,0,6];refine pO (λc=>?_) (λc=>?_)
 . have c':=of_decide_eq_true c;rw[zF0]at c';obtain⟨k,rfl⟩:∃k:Nat,r=(k:Int):=%[r.toNat|3]
   erw[0,0,6];refine ha.ix #[0] ?_;erw[0,2,p0,6];show Q (.int (xs.getD k 0 % p)) H;rw[←Ha hP ok.2.2.1 #[0]];exact q H (Same.refl _)
 . erw[0,0,0,a,xs,r,p,1,ha,ok,pp,p9,r0,r1,q]
inductive spEnds(vs:List V)(H:Hp)(Q:VK)(u_3:XK):Prop
 |mk:∀(a:Addr)(xs:List Int)(p:Int),vs=[.ref a,.int p]->IntsAt H a xs->lu xs p->Pr p->p<=999983->(∀H',Same H H'->Q (.int ((val p xs 0+val p xs 1) % p)) H')->spEnds vs H Q u_3
theorem tY:FnScope ["values","p"] ["values","p"] (aq kf):=%[1,1,1,4,1,4|4]
theorem uQ   (F:Fun K "both_ends" "both_ends" kf f fd) (cG:Cal P w K mg base 4 "value_at" ["values","r","p"] spVal):FnOk P w K mg base CX0 5 f fd ["values","p"] spEnds:=by
 exists tY
 erw[a,xs,p,1,ha,ok,pp,p9,q]at h;erw[_,(ai (au (az bd (az aX (aB cG hr ⋯ rfl %[0,aj,1|ag]) (aB cG hr ⋯ rfl %[0,aj,1|ag])) (pv 1)))),6];have p2:=pp.1;erw[0,0,a,xs,(0),p,1,ha,ok,pp,p9,4,3,λH1 S1=>?_];erw[0,0,a,xs,(1),p,1,ha.same S1,ok,pp,p9,4,3,λH2 S2=>?_];erw[2,0,2,#[0],q H2 (S1.trans S2)]
theorem IntsAt.sqB{K:W.Frag}(h:IntsAt H a xs):∃c,SqB K c H a (xs.map V.int):=h.elim (λe=>%[true|zH0 e]) (λe=>%[false|zB0 e])
def hor(s p:Int):List Int->Int
 | []=>0
 | a::r=>(hor s p r*s+a) % p
theorem qb{p:Int}(hp:0<p):∀ns,0<=hor s p ns/\hor s p ns<p
 | []=>%[Int.le_refl 0|hp]
 | a::r=>%[qC0 _ #[0]|qE0 _ hp]
inductive spMix(C:Addr)(vs:List V)(H:Hp)(Q:VK)(u_3:XK):Prop
 |mk:∀(g a b d l:Addr)(ns:List Int)(s p:Int),vs=[.ref g,.ref l,.int s]->GameAt C H g a b d p->0<p->p<2 ^ 40->IntsAt H l ns->Q (.int (hor s p ns)) H->spMix C vs H Q u_3
theorem t9:FnScope ["self","numbers","s","total","number"] ["self","numbers","s"] (aq xJ):=%[1,1,1,4,1,4|4]
theorem Fw   (F:Fun K "mix" "Game.mix" xJ f fd) (T:GTxt K mg C) (hrev:mg "reversed"=none):FnOk P w K mg base CX0 1 f fd ["self","numbers","s"] (spMix C):=by
 exists t9
 erw[g,a,b,d,l,ns,s,p,1,%[dx|hg],p0,p40,hl,q]at h;refine⟨_,(ae #[ax,3,t9,aj]
  (ae (cI PassesOwn.never rfl (Fl rfl hrev (pv 1)) (bt (i:=4) t9.nd rfl (.inl rfl)) (ai #[ax,3,t9,az bd (az aX (az cw (pv 3) (pv 2)) (pv 4)) (aD (pv 0) rfl)]))
  (ai (au (pv 3))))),?_⟩
 let%[c|hl]:=hl.sqB (K:=K);refine⟨_,rfl,c,l,_,rfl,hl,Ed (K:=K) (c:=c) (xs:=ns.map V.int) (λi σ H'=>∃(x4:Option V)(t:Int),σ=[some (.ref g),some (.ref l),some (.int s),some (.int t),x4]/\t=hor s p (ns.drop (ns.length-i))/\H'=H)
  %[_,(0),1,by rw[Nat.sub_zero,List.drop_length];rfl|1] (λi σ H' _ hst=>by erw[_,_,_,_,h]at hst;subst h;exact hl) ?_ ?_⟩
 . rintro i z σ H1 hi hz ⟨x4,t,rfl,rfl,rfl⟩;rw[zF0]at hi;rw[←List.map_reverse,zZ0]at hz;let%[x,hx|1]:=qV0 hz;rw[List.getElem?_reverse hi]at hx;have hr2:=qb (s:=s) p0 (ns.drop (ns.length-i));erw[0,0,2,.inl %[3|3],0,2,0,g,C,dx,_,0,hg,T.cl,T.nF,fc ..,2,p0,6];erw[_,0,6,1];have hj:ns.length-1-i<ns.length:=by omega
   have ed:ns.drop (ns.length-(i+1))=x::ns.drop (ns.length-i):=by
    have e1:ns.length-(i+1)=ns.length-1-i:=by omega
    have e2:ns.length-i=ns.length-1-i+1:=by omega
    rw[e1,e2,List.drop_eq_getElem_cons hj]
    congr 1
    rw[zM0 hj]at hx;exact zT0 hx
   rw[ed];rfl
 . rintro σ H1 ⟨x4,t,rfl,rfl,rfl⟩;rw[zF0,Nat.sub_self,List.drop_zero];erw[0,q]
inductive spWAt(C:Addr)(vs:List V)(H:Hp)(Q:VK)(u_3:XK):Prop
 |mk:∀(g a b d r:Addr)(ns:List Str)(tv:List V)(ts:List Tr)(pt:List Int)(s p:Int),vs=[.ref g,.ref r,.int s]->GameAt C H g a b d p->1<p->p<2 ^ 40->H a=some (.tup (ns.map V.str))->H b=some (.tup tv)->TreesAt H tv ts->ts.length<=10->(∀t∈ts,t.ok ns/\t.depth<=10)->H r=some (.tup (pt.map V.int))->pt.length=ns.length->cj pt p->(∀H',Same H H'->Q (.int (hor s p (ts.map λt=>t.worth ns pt p))) H')->spWAt C vs H Q u_3
theorem Al:FnScope ["self","point","s"] ["self","point","s"] (aq qH):=%[1,1,1,4,1,4|4]
theorem AJ   (F:Fun K "worth_at" "Game.worth_at" qH f fd) (T:GTxt K mg C) (mM:Meth K C "mix" fm) (GM:FnOk P w K mg base CX0 1 fm fdm ["self","numbers","s"] (spMix C)) (bM:Binds K fdm ["self","numbers","s"] []) (eZ:Cal P w K mg base 12 "worth_of" ["tree","switches","point","p"] (spWorth 10)):FnOk P w K mg base CX0 13 f fd ["self","point","s"] (spWAt C):=by
 exists Al
 erw[g,a,b,d,r,ns,tv,ts,pt,s,p,1,%[dx|hg],p1,p40,ha,hb,TS,t10,tok,hr0,pl,po,q]at h;have hr1:Room 1 _:=hr.mono ⋯;refine⟨_,(ai (au (bY (pv 0) T.cl mM GM hr1 bM .nil bc (aa (cM (N:=["self","point"]) (ix:=[0,1]) rfl
  (CompScope.two (by rfl') ⋯ rfl ⋯ rfl ⋯ (by first | exact Or.inl rfl | exact Or.inr rfl) (by rfl') (by rfl') (by rfl') (by rfl') rfl rfl (by rfl') rfl rfl) rfl
  (io (aD (pv 0) rfl)) (λ_ _ _=>db (aB eZ hr ⋯ rfl %[0,jz K (pv 1),2,jz K (pv 1)|ag]))) %[2|ag])))),?_⟩
 have vl:=TS.length;erw[0,g,dx,0,hg,pw _ _ _ _ ⋯ ⋯ ⋯ ⋯,6];erw[0,g,C,dx,_,0,hg,T.cl,T.nT,lp ..,b,1,%[_|zB0 hb],λD hD=>?_];refine fY (K:=K) (xs:=tv) (λi H'=>H' D=some (.lst (((ts.take i).map λt=>t.worth ns pt p).map V.int))/\Same H H') %[by rw[am];rfl|zE0 hD _] (λi H' _ h=>zB0 (h.2 _ _ hb)) ?_ ?_
 . rintro i z H2 hz ⟨hl,S2⟩;let%[t,ht|Tt]:=TS.get hz;let%[tk|td]:=tok t (qH0 ht);have hi:i<tv.length:=(zX0 hz).1;erw[0,0,g,C,dx,_,0,S2 _ _ hg,T.cl,T.nS,pq ..,0,0,g,C,dx,_,0,S2 _ _ hg,T.cl,T.nF,fc ..,z,t,a,r,ns,pt,p,1,Tt.mono (aZ S2),tk,td,.inr (S2 _ _ ha),S2 _ _ hr0,pl,p1,p40,po,6];erw[_,hl,6,Nx.of hi %[6|λb' o' e'=>?_]]
   . rw[zF0,zF0,qK0];exact aS #[0]
   . rw[am,qI0,ht,zL0,zL0];rfl
   . rw[aG (aQ e' hD)];exact S2 _ _ e'
 . rintro H2 ⟨hl,S2⟩;rw[vl,qF0]at hl;erw[0,g,a,b,d,D,_,s,p,1,%[dx|S2 _ _ hg],3,p40,.inl hl,q H2 S2]
inductive spCoins(C:Addr)(vs:List V)(H:Hp)(Q:VK)(u_3:XK):Prop
 |mk:∀(g a b d:Addr)(ns:List Str)(tv:List V)(p:Int),vs=[.ref g]->GameAt C H g a b d p->H a=some (.tup (ns.map V.str))->H b=some (.tup tv)->Q (.int (if tv.length=1 then(ns.length:Int)else(ns.length:Int)+1)) H->spCoins C vs H Q u_3
theorem Am:FnScope ["self"] ["self"] (aq qI):=%[1,1,1,4,1,4|4]
theorem AL   (F:Fun K "coins" "Game.coins" qI f fd) (T:GTxt K mg C) (hlen:mg "len"=none):FnOk P w K mg base CX0 1 f fd ["self"] (spCoins C):=by
 exists Am
 erw[g,a,b,d,ns,tv,p,1,%[dx|hg],ha,hb,q]at h;refine⟨_,(ae (aO (ao aW (aM aN rfl hlen PySem.boot_len %[aD (pv 0) rfl|ag]) aj (aE _)) (ai (au (aM aN rfl hlen PySem.boot_len %[aD (pv 0) rfl|ag]))) aF)
  (ai (au (az aX (aM aN rfl hlen PySem.boot_len %[aD (pv 0) rfl|ag]) aj)))),?_⟩
 erw[0,g,C,dx,_,0,hg,T.cl,T.nT,lp ..,b,0,.inr (zB0 hb),1,0,6]
 by_cases c:V.int (tv.length:Int)=V.int 1
 . refine bb c ?_;have c':tv.length=1:=by have:=V.int.inj c;omega
   rw[zC0 c']at q;erw[0,g,C,dx,_,0,hg,T.cl,T.nS,pq ..,a,0,.inr (zB0 ha),6];rw[zF0];exact q
 . refine aI c ?_;have c':¬ tv.length=1:=λz=>c (by rw[z];rfl)
   rw[zA0 c']at q;erw[0,g,C,dx,_,0,hg,T.cl,T.nS,pq ..,a,0,.inr (zB0 ha),6];rw[zF0];erw[2,q]
inductive spSize(n:Nat)(vs:List V)(H:Hp)(Q:VK)(u_3:XK):Prop
 |mk:∀(v:V)(t:Tr),vs=[v]->TreeAt H v t->t.wf->t.depth<=n->t.size<=400->(∀H',Same H H'->Q (.int t.size) H')->spSize n vs H Q u_3
theorem xu(ts:List Tr):(ts.map λu=>(u.size:Int)).sum=(iP ts:Int):=by
 induction ts with
 | nil=>rfl
 | cons a r ih=>
   simp only[iP,zY0,List.sum_cons]at ih ⊢;rw[ih];omega
theorem xx:FnScope ["tree"] ["tree"] (aq kG):=%[1,1,1,4,1,4|4]
theorem Af {n:Nat}   (F:Fun K "size_of" "size_of" kG f fd) (B:Bl mg) (a7:Cal P w K mg base 1 "trees_within" ["tree"] spWithin) (iI:Cal P w K mg base (n+2) "size_of" ["tree"] (spSize n)):FnOk P w K mg base CX0 (n+3) f fd ["tree"] (spSize (n+1)):=by
 exists xx
 erw[v,t,1,T,wf,dn,sz,q]at h;refine⟨_,(ai (au (az aX aj (aM (rV rfl) rfl B.sum PyProof.Rows.boot_sum (aa (cM (N:=[]) (ix:=[]) (cl:=[]) rfl (CompScope.closed (by rfl') ⋯ rfl ⋯ rfl (by rfl')) rfl
  (io (aB a7 hr #[0] rfl %[0|ag])) (λ_ _ _=>db (aB iI hr (zG0 _) rfl %[0|ag]))) ag))))),?_⟩
 erw[0,v,t,1,T,wf,λp xs H1 S1 hp TS=>?_];erw[p,1,%[_|zB0 hp],λD hD=>?_];have pD:p≠D:=aQ hp hD;have xl:=TS.length;have sp:=t.size_parts;refine fY (K:=K) (xs:=xs) (λi H'=>H' D=some (.lst (((t.parts.take i).map λu=>(u.size:Int)).map V.int))/\Same H1 H') %[by rw[am];rfl|zE0 hD _] (λi H' _ h=>zB0 (h.2 _ _ hp)) ?_ ?_
 . rintro i x H2 hx ⟨hl,S2⟩;let%[u,hu|Tu]:=TS.get hx;have um:=qH0 hu;let%[uw,ud|us]:=Tr.parts_mem um wf;have hi:i<xs.length:=(zX0 hx).1;erw[0,x,u,1,Tu.mono (aZ S2),uw,3,3,λH3 S3=>?_];erw[_,S3 _ _ hl,6,Nx.of hi %[6|λb o e=>?_]]
   . have:t.parts.length<=2:=by cases t <;> simp [Tr.parts]
     rw[zF0,zF0,qK0];exact aS #[0]
   . rw[am,qI0,hu,zL0,zL0];rfl
   . rw[aG (aQ e hD)];exact S3 _ _ (S2 _ _ e)
 . rintro H2 ⟨hl,S2⟩;rw[xl,qF0]at hl;have sc:=xu t.parts;erw[D,0,zH0 hl,6,6,6]
   . intro n hn;let%[u,_|1]:=List.mem_map.mp hn;omega
   . rw[sc];omega
   . rw [sc];erw[2,6];have e:(1:Int)+(iP t.parts:Int)=(t.size:Int):=by omega
     show Q (.int (1+(iP t.parts:Int))) H2;rw[e];exact q H2 (S1.trans S2)
theorem Ae  :FnOk P w K mg base CX0 2 f fd ["tree"] (spSize 0):=by
 have no:∀vs H Q E,¬ spSize 0 vs H Q E:=λvs H Q E h=>by
  erw[v,t,_,_,_,h1,_]at h
  have:=t.depth_pos
  omega
 erw[λvs H Q E h=>absurd h (no vs H Q E),λA outer s H args us vs Q E _ _ _ _ h=>absurd h (no vs H Q E)]
theorem re   (F:Fun K "size_of" "size_of" kG f fd) (B:Bl mg) (m:mg "size_of"=some (.ref f)) (a7:Cal P w K mg base 1 "trees_within" ["tree"] spWithin) :
 ∀n:Nat,FnOk P w K mg base CX0 (n+2) f fd ["tree"] (spSize n)
 | 0=>Ae
 | n+1=>Af F B a7 (Cal.of F (re F B m a7 n) m (λ_ _ _ _ _ _ us hl=>by let%[u0|1]:=DL hl;rfl))
abbrev ur:Stmt:=bp dj 0
abbrev qJ:Stmt:=bp dj 1
abbrev xL:Stmt:=bp dj 2
abbrev ut:Stmt:=bp dj 4
abbrev uq:Stmt:=bp dj 5
abbrev oj:Stmt:=bp dj 6
abbrev qL:Stmt:=bp dj 7
abbrev xK:Stmt:=bp dj 8
abbrev Cw:Stmt:=bp dj 9
abbrev qK:Stmt:=bp dj 10
def dl (g aA aC:Addr) (s:Int) (aH aT:Addr) (ed pl:Int):List (Str×V):=[("game",.ref g),("awaited",.ref aA),("claims",.ref aC),("s",.int s),("heard",.ref aH),("tossed",.ref aT),("held",.int ed),("places",.int pl)]
section
variable {g aA aC aH aT:Addr} {s ed pl:Int}
theorem iU:(dl g aA aC s aH aT ed pl).lookup ("game":Str)=some (.ref g):=by rfl'
theorem El:(dl g aA aC s aH aT ed pl).lookup ("awaited":Str)=some (.ref aA):=by rfl'
theorem Ik:(dl g aA aC s aH aT ed pl).lookup ("claims":Str)=some (.ref aC):=by rfl'
theorem Ig:(dl g aA aC s aH aT ed pl).lookup ("s":Str)=some (.int s):=by rfl'
theorem Ij:(dl g aA aC s aH aT ed pl).lookup ("heard":Str)=some (.ref aH):=by rfl'
theorem yH:(dl g aA aC s aH aT ed pl).lookup ("tossed":Str)=some (.ref aT):=by rfl'
theorem zH:(dl g aA aC s aH aT ed pl).lookup ("held":Str)=some (.int ed):=by rfl'
theorem zG:(dl g aA aC s aH aT ed pl).lookup ("places":Str)=some (.int pl):=by rfl'
theorem pA:(dl g aA aC s aH aT ed pl).lookup ("waits":Str)=none:=by rfl'
theorem dl_n2:(dl g aA aC s aH aT ed pl).lookup ("due":Str)=none:=by rfl'
theorem dl_n4:(dl g aA aC s aH aT ed pl).lookup ("hear":Str)=none:=by rfl'
theorem GJ:(dl g aA aC s aH aT ed pl).lookup ("toss":Str)=none:=by rfl'
theorem dl_n6:(dl g aA aC s aH aT ed pl).lookup ("hear_claims":Str)=none:=by rfl'
theorem GF:(dl g aA aC s aH aT ed pl).lookup ("begin_rounds":Str)=none:=by rfl'
theorem dl_n8:(dl g aA aC s aH aT ed pl).lookup ("hear_row":Str)=none:=by rfl'
theorem Ek:(dl g aA aC s aH aT ed pl).lookup ("go_on":Str)=none:=by rfl'
theorem Ii:(dl g aA aC s aH aT ed pl).lookup ("look_at_trees":Str)=none:=by rfl'
theorem qP {v:Addr}:bL "awaited" (.ref v) (dl g aA aC s aH aT ed pl)=dl g v aC s aH aT ed pl:=by rfl'
theorem Gv {v:Addr}:bL "claims" (.ref v) (dl g aA aC s aH aT ed pl)=dl g aA v s aH aT ed pl:=by rfl'
theorem Gq {v:Int}:bL "s" (.int v) (dl g aA aC s aH aT ed pl)=dl g aA aC v aH aT ed pl:=by rfl'
theorem Gs {v:Addr}:bL "heard" (.ref v) (dl g aA aC s aH aT ed pl)=dl g aA aC s v aT ed pl:=by rfl'
theorem CK {v:Addr}:bL "tossed" (.ref v) (dl g aA aC s aH aT ed pl)=dl g aA aC s aH v ed pl:=by rfl'
theorem xM {v:Int}:bL "held" (.int v) (dl g aA aC s aH aT ed pl)=dl g aA aC s aH aT v pl:=by rfl'
theorem uE {v:Int}:bL "places" (.int v) (dl g aA aC s aH aT ed pl)=dl g aA aC s aH aT ed v:=by rfl'
theorem cJ:(dl g aA aC s aH aT ed pl).length<1000:=by show 8<1000;decide
end
structure DTxt(K:W.Frag)(mg:Str->Option Value)(C:Addr):Prop where
 cl:Cls K C
 nG:NoAttr K C "game"
 nA:NoAttr K C "awaited"
 nC:NoAttr K C "claims"
 nS:NoAttr K C "s"
 nH:NoAttr K C "heard"
 nT:NoAttr K C "tossed"
 nE:NoAttr K C "held"
 nP:NoAttr K C "places"
 mgC:mg "Doubter"=some (.ref C)
structure Db where
 aw:Str×Option Int
 cl:List Int
 s:Int
 he:List Int
 to:List Int
 ed:Int
 pl:Int
def awV(a:Str×Option Int):List V:=match a.2 with
 | none=>[.str a.1]
 | some n=>[.str a.1,.int n]
structure DbR(C:Addr)(H:Hp)(D g:Addr)(z:Db)(dx aA aC aH aT:Addr):Prop where
 hD:H D=some (.ins C dx (dl g aA aC z.s aH aT z.ed z.pl))
 hA:H aA=some (.tup (awV z.aw))
 hC:H aC=some (.tup (z.cl.map V.int))
 hH:H aH=some (.tup (z.he.map V.int))
 hT:H aT=some (.tup (z.to.map V.int))
theorem DbR.same(h:DbR C H D g z dx aA aC aH aT)(s:Same H H'):DbR C H' D g z dx aA aC aH aT:=%[s _ _ h.hD,s _ _ h.hA,s _ _ h.hC,s _ _ h.hH|s _ _ h.hT]
theorem DbR.set{C:Addr}{H:Hp}{D g:Addr}{z:Db}{dx aA aC aH aT C' dx':Addr}{fs:List (Str×V)}(hD:H D=some (.ins C' dx' fs))(hA:H aA=some (.tup (awV z.aw)))(hC:H aC=some (.tup (z.cl.map V.int)))(hH:H aH=some (.tup (z.he.map V.int)))(hT:H aT=some (.tup (z.to.map V.int))) :
 DbR C (upd H D (.ins C dx (dl g aA aC z.s aH aT z.ed z.pl))) D g z dx aA aC aH aT:=by
 erw[am,6,6,6,6]
 . rw[aG (bu hA hD (by intro z;cases z))];exact hA
 . rw[aG (bu hC hD (by intro z;cases z))];exact hC
 . rw[aG (bu hH hD (by intro z;cases z))];exact hH
 . rw[aG (bu hT hD (by intro z;cases z))];exact hT
def DbAt(C:Addr)(H:Hp)(D g:Addr)(z:Db):Prop:=∃dx aA aC aH aT,DbR C H D g z dx aA aC aH aT
theorem DbAt.same(h:DbAt C H D g z)(s:Same H H'):DbAt C H' D g z:=by
 erw[_,_,_,_,_,r]at h;erw[_,_,_,_,_,r.same s]
def Gm(CG:Addr)(H:Hp)(g:Addr)(ns:List Str)(ts:List Tr)(p:Int):Prop:=∃(a b d:Addr)(tv:List V),GameAt CG H g a b d p/\H a=some (.tup (ns.map V.str))/\H b=some (.tup tv)/\TreesAt H tv ts/\H d=some (.lst ((ns.map (bN ts)).map V.int))
theorem Gm.same(h:Gm CG H g ns ts p)(s:Same H H'):Gm CG H' g ns ts p:=by
 erw[a,b,d,tv,h1,h2,h3,h4,h5]at h;erw[a,b,d,tv,h1.same s,s _ _ h2,s _ _ h3,h4.mono (aZ s),s _ _ h5]
theorem FR (a b:Addr) (p:Int) (d:Addr):(gf a b p d).lookup ("game":Str)=none:=pw _ _ _ _ ⋯ ⋯ ⋯ ⋯
theorem Gm.ne {C:Addr}  {D:Addr}    {dx:Addr} {fs:List (Str×V)} {v:V} (h:Gm CG H g ns ts p) (hD:H D=some (.ins C dx fs)) (hg:fs.lookup ("game":Str)=some v):g≠D:=λz=>by
 erw[a,b,d,tv,%[dx'|e],_]at h;rw[z,hD]at e;cases e;rw[FR]at hg;cases hg
theorem Gm.but{C:Addr}{D:Addr}{dx:Addr}{fs:List (Str×V)}(h:Gm CG H g ns ts p)(hD:H D=some (.ins C dx fs))(hg:g≠D)(s:SameBut D H H'):Gm CG H' g ns ts p:=by
 erw[a,b,d,tv,%[dx'|e],h2,h3,h4,h5]at h;erw[a,b,d,tv,%[dx'|s _ _ hg e],s _ _ (bu h2 hD (by intro z;cases z)) h2,s _ _ (bu h3 hD (by intro z;cases z)) h3,h4.mono (λc xs hc=>s _ _ (bu hc hD (by intro z;cases z)) hc),s _ _ (bu h5 hD (by intro z;cases z)) h5]
structure GmK(ns:List Str)(ts:List Tr)(p:Int):Prop where
 pr:Pr p
 p2:2<p
 p9:p<=999983
 n10:ns.length<=10
 t1:1<=ts.length
 t10:ts.length<=10
 tok:∀t∈ts,t.ok ns/\t.wf/\t.depth<=10/\t.size<=400
 tp:(ts.length:Int)<=p
 tc:∀t∈ts,∀x∈ns,(t.names.count x:Int)<p
theorem GmK.deg(k:GmK ns ts p):∀x∈ns,0<=bN ts x/\bN ts x<p:=λx hx=>by
 have t0:ts≠[]:=λz=>by have:=k.t1;rw[z]at this;cases this
 erw[6,mV t0 λt ht=>k.tc t ht x hx]
 have:=kj (ns:=ts.map λt=>(t.names.count x:Int)) (by simpa using t0)
 let%[t,_|e]:=List.mem_map.mp this;unfold bN;rw[←e];omega
def szs(ts:List Tr):Int:=(ts.map λt=>(t.size:Int)).sum
def eA(ns:List Str)(ts:List Tr)(p:Int)(z:Db):Db:=
 { z with pl:=z.pl+szs ts,aw:=if z.ed=hor z.s p (ts.map λt=>t.worth ns z.to p)then("believed",none)else("caught",some ((z.to.length:Int)+1)) }
def goOn(ns:List Str)(ts:List Tr)(p:Int)(z:Db):Db:=
 if z.to.length<ns.length then { z with aw:=("hear",some (bN ts (ns.getD z.to.length "")+1)) }else eA ns ts p z
def wN(ns:List Str)(ts:List Tr)(p s:Int)(z:Db):Db:=goOn ns ts p { z with s:=s,ed:=hor s p z.cl }
def jL(ns:List Str)(ts:List Tr)(p:Int)(xs:List Int)(z:Db):Db:=
 if ts.length=1 then wN ns ts p 0 { z with cl:=xs }else { z with cl:=xs,aw:=("coin",none) }
def dI(p:Int)(xs:List Int)(z:Db):Db:=
 { z with he:=xs,aw:=if(val p xs 0+val p xs 1) % p=z.ed then("coin",none)else("caught",some ((z.to.length:Int)+1)) }
def cX(ns:List Str)(ts:List Tr)(p:Int)(xs:List Int)(z:Db):Db:=
 if z.cl=[]then jL ns ts p xs { z with pl:=z.pl+(xs.length:Int) }else dI p xs { z with pl:=z.pl+(xs.length:Int) }
def dB(ns:List Str)(ts:List Tr)(p r:Int)(z:Db):Db:=
 if z.he=[]then wN ns ts p r { z with pl:=z.pl+1 }else goOn ns ts p { z with pl:=z.pl+1,ed:=val p z.he r,to:=z.to++[r] }
def Db.new (ts:List Tr):Db:=%[("hear",some (ts.length:Int)),[],(0),[],[],(0)|(0)]
inductive spIsNum(vs:List V)(H:Hp)(Q:VK)(u_3:XK):Prop
 |mk:∀n p:Int,vs=[.int n,.int p]->Q (.bl (decide (0<=n)&&decide (n<p))) H->spIsNum vs H Q u_3
theorem tU:FnScope ["value","p"] ["value","p"] (aq jX):=%[1,1,1,4,1,4|4]
theorem uM   (F:Fun K "is_number" "is_number" jX f fd) (B:Bl mg):FnOk P w K mg base CX0 1 f fd ["value","p"] spIsNum:=by
 exists tU
 erw[n,p,1,q]at h;erw[_,(ai (au (lJ (aM dy rfl B.isinstance PyProof.Rows.boot_isinstance %[0,iE (v:=V.ty "int") rfl B.int kX rfl|ag]) (lJ (xU (aM dy rfl B.isinstance PyProof.Rows.boot_isinstance %[0,iE (v:=V.ty "bool") rfl B.bool rX rfl|ag])) (ou (CU sQ eO aj (pv 0) (pv 1))))))),6];erw[0,_,_,"int",true,1,TyOf.int _,iS _ _,true,1,dU ?_];erw[0,_,_,"bool",false,1,TyOf.int _,mI _,false,1,true,1,dU ?_];erw[0,2,0,6]
 by_cases c:0<=n
 . rw[decide_eq_true c]at q;refine bb c %[0,2|6];exact q
 . rw[decide_eq_false c]at q;refine aI c ?_;exact q
inductive spAllSz(C:Addr)(vs:List V)(H:Hp)(Q:VK)(u_3:XK):Prop
 |mk:∀(g:Addr)(ns:List Str)(ts:List Tr)(p:Int),vs=[.ref g]->Gm C H g ns ts p->GmK ns ts p->(∀H',Same H H'->Q (.int (szs ts)) H')->spAllSz C vs H Q u_3
theorem tZ:FnScope ["game"] ["game"] (aq kh):=%[1,1,1,4,1,4|4]
theorem ER{ts:List Tr}(h:∀t∈ts,t.size<=400)(hl:ts.length<=10):0<=szs ts/\szs ts<=4000:=by
 have:∀l:List Tr,(∀t∈l,t.size<=400)->0<=szs l/\szs l<=400*(l.length:Int):=λl=>by
  induction l with
  | nil=>intro _;erw[Int.le_refl _,Int.le_refl _]
  | cons t r ih=>
    intro hh;have h1:=ih λu hu=>hh u (qJ0 _ hu)
    have h2:=hh t (qB0 ..);have e:szs (t::r)=(t.size:Int)+szs r:=by unfold szs;rw[zY0,List.sum_cons]
    rw[e,zO0];omega
 have:=this ts h
 omega
theorem uR   (F:Fun K "all_sizes" "all_sizes" kh f fd) (B:Bl mg) (T:GTxt K mg C) (iI:Cal P w K mg base 12 "size_of" ["tree"] (spSize 10)):FnOk P w K mg base CX0 13 f fd ["game"] (spAllSz C):=by
 exists tZ
 erw[g,ns,ts,p,1,%[a,b,d,tv,%[dx|hg],ha,hb,TS|hd],k,q]at h;refine⟨_,(ai (au (aM (rV rfl) rfl B.sum PyProof.Rows.boot_sum (aa (cM (N:=[]) (ix:=[]) (cl:=[]) rfl (CompScope.closed (by rfl') ⋯ rfl ⋯ rfl (by rfl')) rfl
  (io (aD (pv 0) rfl)) (λ_ _ _=>db (aB iI hr ⋯ rfl %[0|ag]))) ag)))),?_⟩
 have vl:=TS.length;erw[0,g,C,dx,_,0,hg,T.cl,T.nT,lp ..,b,1,%[_|zB0 hb],λD hD=>?_];refine fY (K:=K) (xs:=tv) (λi H'=>H' D=some (.lst (((ts.take i).map λt=>(t.size:Int)).map V.int))/\Same H H') %[by rw[am];rfl|zE0 hD _] (λi H' _ h=>zB0 (h.2 _ _ hb)) ?_ ?_
 . rintro i x H2 hx ⟨hl,S2⟩;let%[u,hu|Tu]:=TS.get hx;let%[_,uw,ud|us]:=k.tok u (qH0 hu);have hi:i<tv.length:=(zX0 hx).1
   have:=k.t10
   erw[0,x,u,1,Tu.mono (aZ S2),uw,ud,us,λH3 S3=>?_];erw[_,S3 _ _ hl,6,Nx.of hi %[6|λb o e=>?_]]
   . rw[zF0,zF0,qK0];exact aS #[0]
   . rw[am,qI0,hu,zL0,zL0];rfl
   . rw[aG (aQ e hD)];exact S3 _ _ (S2 _ _ e)
 . rintro H2 ⟨hl,S2⟩;rw[vl,qF0]at hl;have sr:=ER (λt ht=>(k.tok t ht).2.2.2) k.t10;erw[D,0,zH0 hl,6,6,6]
   . intro n hn;let%[u,hu|1]:=List.mem_map.mp hn
     have:=(k.tok u hu).2.2.2
     omega
   . have e:((ts.map λt=>(t.size:Int)).sum)=szs ts:=rfl;rw[e];omega
   . exact q H2 S2
section
variable {C CG:Addr}
inductive spTrees(C CG:Addr)(vs:List V)(H:Hp)(Q:VK)(u_3:XK):Prop
 |mk:∀(D g:Addr)(z:Db)(ns:List Str)(ts:List Tr)(p:Int),vs=[.ref D]->DbAt C H D g z->Gm CG H g ns ts p->GmK ns ts p->z.to.length=ns.length->cj z.to p->(∀H',SameBut D H H'->DbAt C H' D g (eA ns ts p z)->Q .non H')->spTrees C CG vs H Q u_3
theorem Ao:FnScope ["self"] ["self"] (aq qK):=%[1,1,1,4,1,4|4]
theorem AN   (F:Fun K "look_at_trees" "Doubter.look_at_trees" qK f fd) (B:Bl mg) (T:DTxt K mg C) (TG:GTxt K mg CG) (mW:Meth K CG "worth_at" fW) (GW:FnOk P w K mg base CX0 13 fW fdW ["self","point","s"] (spWAt CG)) (bW:Binds K fdW ["self","point","s"] [])
 (lh:Cal P w K mg base 13 "all_sizes" ["game"] (spAllSz CG)):FnOk P w K mg base CX0 14 f fd ["self"] (spTrees C CG):=by
 exists Ao
 erw[D,g,z,ns,ts,p,1,%[dx,aA,aC,aH,aT|R],G,k,tl,po,q]at h;have hr13:Room 13 _:=hr;refine⟨_,(ae (aU (pv 0) (az aX (aD (pv 0) rfl) (aB lh hr ⋯ rfl %[aD (pv 0) rfl|ag])) rfl)
  (ai (aO (ao aW (aD (pv 0) rfl) (bY (aD (pv 0) rfl) TG.cl mW GW hr13 bW .nil bc %[aD (pv 0) rfl,aD (pv 0) rfl|ag]) (aE _))
   (ai (aU (pv 0) (aV %[aJ|ag]) rfl))
   (ai (aU (pv 0) (aV %[aJ,az aX (aM aN rfl B.len PySem.boot_len %[aD (pv 0) rfl|ag]) aj|ag]) rfl))))),?_⟩
 have gD:=G.ne R.hD iU;erw[0,D,C,dx,_,0,R.hD,T.cl,T.nP,zG,0,D,C,dx,_,0,R.hD,T.cl,T.nG,iU,g,ns,ts,p,1,G,k,λH1 S1=>?_];have R1:=R.same S1;erw[2,0,D,C,dx,0,R1.hD,T.cl,T.nP,cJ,6];rw[uE];have S2:SameBut D H1 (upd H1 D (.ins C dx (dl g aA aC z.s aH aT z.ed (z.pl+szs ts)))):=SameBut.upd _;have R2:DbR C (upd H1 D (.ins C dx (dl g aA aC z.s aH aT z.ed (z.pl+szs ts)))) D g { z with pl:=z.pl+szs ts } dx aA aC aH aT:=DbR.set (z:={ z with pl:=z.pl+szs ts }) R1.hD R1.hA R1.hC R1.hH R1.hT;have G2:=(G.same S1).but R1.hD gD S2;generalize upd H1 D (.ins C dx (dl g aA aC z.s aH aT z.ed (z.pl+szs ts)))=H2 at S2 R2 G2;have G2':=G2;erw[a,b,d,tv,GA,ha,hb,TS,hd]at G2';erw[dg,hg]at GA;have p2:=k.p2;have p9:=k.p9;erw[0,D,C,dx,_,0,R2.hD,T.cl,T.nE,zH,0,D,C,dx,_,0,R2.hD,T.cl,T.nG,iU,g,dg,0,hg,pw _ _ _ _ ⋯ ⋯ ⋯ ⋯,0,D,C,dx,_,0,R2.hD,T.cl,T.nT,yH,0,D,C,dx,_,0,R2.hD,T.cl,T.nS,Ig,6];erw[g,a,b,d,aT,ns,tv,ts,z.to,z.s,p,1,%[dg|hg],3,3,ha,hb,TS,k.t10,λt ht=>%[(k.tok t ht).1|(k.tok t ht).2.2.1],R2.hT,tl,po,λH3 S3=>?_];have R3:=R2.same S3;have S03:SameBut D H H3:=(zK0 S1).trans (S2.trans (zK0 S3));erw[1,0,6]
 by_cases c:z.ed=hor z.s p (ts.map λt=>t.worth ns z.to p)
 . refine bb (congrArg V.int c) ?_;erw[(by show 1<=sizeLine;decide),λt ht=>?_];have I:=zE0 ht (.tup [.str "believed"]);have R4:=R3.same I;erw[0,D,C,dx,0,R4.hD,T.cl,T.nA,cJ,6];rw[qP];have e:eA ns ts p z={ z with pl:=z.pl+szs ts,aw:=("believed",none) }:=by
    unfold eA;rw[zC0 c]
   refine q _ (S03.trans ((zK0 I).trans (SameBut.upd _))) ?_;rw[e];erw[dx,t,aC,aH,aT,DbR.set (z:={ z with pl:=z.pl+szs ts,aw:=("believed",none) }) R4.hD am R4.hC R4.hH R4.hT]
 . refine aI (λe=>c (V.int.inj e)) ?_;erw[0,D,C,dx,_,0,R3.hD,T.cl,T.nT,yH,aT,0,.inr (zB0 R3.hT),2,(by show 2<=sizeLine;decide),λt ht=>?_];have I:=zE0 ht (.tup [.str "caught",.int (((z.to.map V.int).length:Int)+1)]);have R4:=R3.same I;erw[0,D,C,dx,0,R4.hD,T.cl,T.nA,cJ,6];rw[qP];have e:eA ns ts p z={ z with pl:=z.pl+szs ts,aw:=("caught",some ((z.to.length:Int)+1)) }:=by
    unfold eA;rw[zA0 c]
   refine q _ (S03.trans ((zK0 I).trans (SameBut.upd _))) ?_;rw[e];erw[dx,t,aC,aH,aT,DbR.set (z:={ z with pl:=z.pl+szs ts,aw:=("caught",some ((z.to.length:Int)+1)) }) R4.hD ?_ R4.hC R4.hH R4.hT];rw[am,zF0];rfl
theorem mJ{xs:List Int}{j:Nat}(h:j<xs.length):atI (xs.map V.int) (j:Int)=some (.int (xs.getD j 0)):=cE (by rw[zZ0,zM0 h,qL0,zM0 h];rfl)
theorem FT {ns:List Str}  {j:Nat} (h:j<ns.length):(ns.map (bN ts)).getD j 0=bN ts (ns.getD j ""):=by
 rw[qL0,zZ0,qL0,zM0 h];rfl
inductive spGo(C CG:Addr)(vs:List V)(H:Hp)(Q:VK)(u_3:XK):Prop
 |mk:∀(D g:Addr)(z:Db)(ns:List Str)(ts:List Tr)(p:Int),vs=[.ref D]->DbAt C H D g z->Gm CG H g ns ts p->GmK ns ts p->z.to.length<=ns.length->cj z.to p->(∀H',SameBut D H H'->DbAt C H' D g (goOn ns ts p z)->Q .non H')->spGo C CG vs H Q u_3
theorem JJ:FnScope ["self","done"] ["self"] (aq Cw):=%[1,1,1,4,1,4|4]
theorem HD   (F:Fun K "go_on" "Doubter.go_on" Cw f fd) (B:Bl mg) (T:DTxt K mg C) (TG:GTxt K mg CG) (mT:Meth K C "look_at_trees" fT) (GT:FnOk P w K mg base CX0 14 fT fdT ["self"] (spTrees C CG)) (bT:Binds K fdT ["self"] []):FnOk P w K mg base CX0 15 f fd ["self"] (spGo C CG):=by
 exists JJ
 erw[D,g,z,ns,ts,p,1,%[dx,aA,aC,aH,aT|R],G,k,tl,po,q]at h;refine⟨_,(ae #[ax,1,JJ,aM aN rfl B.len PySem.boot_len %[aD (pv 0) rfl|ag]]
  (ai (aO (ao eO (pv 1) (aM aN rfl B.len PySem.boot_len %[aD (aD (pv 0) rfl) rfl|ag]) (aE _))
   (ai (aU (pv 0) (aV %[aJ,az aX (aP ix_list (aD (aD (pv 0) rfl) rfl) (pv 1) (λ_ _=>rfl)) aj|ag]) rfl))
   (ai (ba (bw (pv 0) T.cl mT GT hr bT .nil bc)))))),?_⟩
 have G':=G;erw[a,b,d,tv,%[dg|hg],ha,hb,TS,hd]at G';erw[0,D,C,dx,_,0,R.hD,T.cl,T.nT,yH,aT,0,.inr (zB0 R.hT),6];erw[0,0,D,C,dx,_,0,R.hD,T.cl,T.nG,iU,g,CG,dg,_,0,hg,TG.cl,TG.nS,pq ..,a,0,.inr (zB0 ha),2,0,6]
 by_cases c:z.to.length<ns.length
 . refine bb (by rw[zF0,zF0];omega) ?_;have ej:((z.to.map V.int).length:Int)=(z.to.length:Int):=by rw[zF0]
   have hx:ns.getD z.to.length ""∈ns:=by
    rw[qL0,zM0 c];exact qP0 c
   have dr:=k.deg _ hx;erw[0,D,C,dx,_,0,R.hD,T.cl,T.nG,iU,g,CG,dg,_,0,hg,TG.cl,TG.nD,Ea ..,0,d,_,2,zH0 hd,by rw[ej];exact mJ (by rw[zF0];exact c),2,(by show 2<=sizeLine;decide),λt ht=>?_];rw[FT c]at *
   have I:=zE0 ht (.tup [.str "hear",.int (bN ts (ns.getD z.to.length "")+1)]);have R4:=R.same I;erw[0,D,C,dx,0,R4.hD,T.cl,T.nA,cJ,6];rw[qP];have e:goOn ns ts p z={ z with aw:=("hear",some (bN ts (ns.getD z.to.length "")+1)) }:=by
    unfold goOn;rw[zC0 c]
   refine q _ ((zK0 I).trans (SameBut.upd _)) ?_;rw[e];erw[dx,t,aC,aH,aT,DbR.set (z:={ z with aw:=("hear",some (bN ts (ns.getD z.to.length "")+1)) }) R4.hD am R4.hC R4.hH R4.hT]
 . refine aI (by rw[zF0,zF0];omega) ?_;have e:goOn ns ts p z=eA ns ts p z:=by
    unfold goOn;rw[zA0 c]
   rw[e]at q;erw[0,D,dx,0,R.hD,Ii,6];erw[D,g,z,ns,ts,p,1,%[dx,aA,aC,aH,aT|R],G,k,3,po,q]
inductive spBeg(C CG:Addr)(vs:List V)(H:Hp)(Q:VK)(u_3:XK):Prop
 |mk:∀(D g:Addr)(z:Db)(s:Int)(ns:List Str)(ts:List Tr)(p:Int),vs=[.ref D,.int s]->DbAt C H D g z->Gm CG H g ns ts p->GmK ns ts p->z.to.length<=ns.length->cj z.to p->(∀H',SameBut D H H'->DbAt C H' D g (wN ns ts p s z)->Q .non H')->spBeg C CG vs H Q u_3
theorem Ap:FnScope ["self","s"] ["self","s"] (aq qL):=%[1,1,1,4,1,4|4]
theorem AO   (F:Fun K "begin_rounds" "Doubter.begin_rounds" qL f fd) (T:DTxt K mg C) (TG:GTxt K mg CG) (mM:Meth K CG "mix" fM) (GM:FnOk P w K mg base CX0 1 fM fdM ["self","numbers","s"] (spMix CG)) (bM:Binds K fdM ["self","numbers","s"] [])
 (mG:Meth K C "go_on" fG) (GG:FnOk P w K mg base CX0 15 fG fdG ["self"] (spGo C CG)) (bG:Binds K fdG ["self"] []):FnOk P w K mg base CX0 16 f fd ["self","s"] (spBeg C CG):=by
 exists Ap
 erw[D,g,z,s,ns,ts,p,1,%[dx,aA,aC,aH,aT|R],G,k,tl,po,q]at h;have hr1:Room 1 _:=hr.mono ⋯;refine⟨_,(ae (aU (pv 0) (pv 1) rfl)
  (ae (aU (pv 0) (bY (aD (pv 0) rfl) TG.cl mM GM hr1 bM .nil bc %[aD (pv 0) rfl,1|ag]) rfl)
  (ai (ba (bw (pv 0) T.cl mG GG hr bG .nil bc))))),?_⟩
 have gD:=G.ne R.hD iU;have p2:=k.p2;have p9:=k.p9;erw[0,0,D,C,dx,0,R.hD,T.cl,T.nS,cJ,6];rw[Gq];have S1:SameBut D H (upd H D (.ins C dx (dl g aA aC s aH aT z.ed z.pl))):=SameBut.upd _;have R1:DbR C (upd H D (.ins C dx (dl g aA aC s aH aT z.ed z.pl))) D g { z with s:=s } dx aA aC aH aT:=DbR.set (z:={ z with s:=s }) R.hD R.hA R.hC R.hH R.hT;have G1:=G.but R.hD gD S1;generalize upd H D (.ins C dx (dl g aA aC s aH aT z.ed z.pl))=H1 at S1 R1 G1;have G1':=G1;erw[a,b,d,tv,%[dg|hg],ha,hb,TS,hd]at G1';erw[0,D,C,dx,_,0,R1.hD,T.cl,T.nG,iU,g,dg,0,hg,pw _ _ _ _ ⋯ ⋯ ⋯ ⋯,0,D,C,dx,_,0,R1.hD,T.cl,T.nC,Ik,0,6];erw[g,a,b,d,aC,z.cl,s,p,1,%[dg|hg],3,3,.inr R1.hC,6];erw[0,D,C,dx,0,R1.hD,T.cl,T.nE,cJ,6];rw[xM];have S2:SameBut D H1 (upd H1 D (.ins C dx (dl g aA aC s aH aT (hor s p z.cl) z.pl))):=SameBut.upd _;have R2:DbR C (upd H1 D (.ins C dx (dl g aA aC s aH aT (hor s p z.cl) z.pl))) D g { z with s:=s,ed:=hor s p z.cl } dx aA aC aH aT:=DbR.set (z:={ z with s:=s,ed:=hor s p z.cl }) R1.hD R1.hA R1.hC R1.hH R1.hT;have G2:=G1.but R1.hD gD S2;generalize upd H1 D (.ins C dx (dl g aA aC s aH aT (hor s p z.cl) z.pl))=H2 at S2 R2 G2;erw[0,D,dx,0,R2.hD,Ek,6];erw[D,g,_,ns,ts,p,1,%[dx,aA,aC,aH,aT|R2],G2,k,tl,po,λH3 S3 D3=>q H3 (S1.trans (S2.trans S3)) D3]
inductive spClaims(C CG:Addr)(vs:List V)(H:Hp)(Q:VK)(u_3:XK):Prop
 |mk:∀(D g l:Addr)(z:Db)(xs:List Int)(ns:List Str)(ts:List Tr)(p:Int),vs=[.ref D,.ref l]->DbAt C H D g z->Gm CG H g ns ts p->GmK ns ts p->H l=some (.tup (xs.map V.int))->z.to.length<=ns.length->cj z.to p->(∀H',SameBut D H H'->DbAt C H' D g (jL ns ts p xs z)->Q .non H')->spClaims C CG vs H Q u_3
theorem xE:FnScope ["self","values"] ["self","values"] (aq oj):=%[1,1,1,4,1,4|4]
theorem yf   (F:Fun K "hear_claims" "Doubter.hear_claims" oj f fd) (B:Bl mg) (T:DTxt K mg C) (TG:GTxt K mg CG) (mB:Meth K C "begin_rounds" fB) (GB:FnOk P w K mg base CX0 16 fB fdB ["self","s"] (spBeg C CG)) (bB:Binds K fdB ["self","s"] []):FnOk P w K mg base CX0 17 f fd ["self","values"] (spClaims C CG):=by
 exists xE
 erw[D,g,l,z,xs,ns,ts,p,1,%[dx,aA,aC,aH,aT|R],G,k,hl,tl,po,q]at h;refine⟨_,(ae (aU (pv 0) (pv 1) rfl)
  (ai (aO (ao aW (aM aN rfl B.len PySem.boot_len %[aD (aD (pv 0) rfl) rfl|ag]) aj (aE _))
   (ai (ba (bY (pv 0) T.cl mB GB hr bB .nil bc %[aj|ag])))
   (ai (aU (pv 0) (aV %[aJ|ag]) rfl))))),?_⟩
 have gD:=G.ne R.hD iU;erw[0,0,D,C,dx,0,R.hD,T.cl,T.nC,cJ,6];rw[Gv];have S1:SameBut D H (upd H D (.ins C dx (dl g aA l z.s aH aT z.ed z.pl))):=SameBut.upd _;have R1:DbR C (upd H D (.ins C dx (dl g aA l z.s aH aT z.ed z.pl))) D g { z with cl:=xs } dx aA l aH aT:=DbR.set (z:={ z with cl:=xs }) R.hD R.hA hl R.hH R.hT;have G1:=G.but R.hD gD S1;generalize upd H D (.ins C dx (dl g aA l z.s aH aT z.ed z.pl))=H1 at S1 R1 G1;have G1':=G1;erw[a,b,d,tv,%[dg|hg],ha,hb,TS,hd]at G1';have vl:=TS.length;erw[0,D,C,dx,_,0,R1.hD,T.cl,T.nG,iU,g,CG,dg,_,0,hg,TG.cl,TG.nT,lp ..,b,0,.inr (zB0 hb),1,0,6]
 by_cases c:ts.length=1
 . refine bb (congrArg V.int #[0]) ?_;have e:jL ns ts p xs z=wN ns ts p 0 { z with cl:=xs }:=by
    unfold jL;rw[zC0 c]
   rw[e]at q;erw[0,D,dx,0,R1.hD,GF,6];erw[D,g,_,(0),ns,ts,p,1,%[dx,aA,l,aH,aT|R1],G1,k,tl,po,λH3 S3 D3=>q H3 (S1.trans S3) D3]
 . refine aI (λe=>c (by have:=V.int.inj e;omega)) ?_;have e:jL ns ts p xs z={ z with cl:=xs,aw:=("coin",none) }:=by
    unfold jL;rw[zA0 c]
   erw[(by show 1<=sizeLine;decide),λt ht=>?_];have I:=zE0 ht (.tup [.str "coin"]);have R4:=R1.same I;erw[0,D,C,dx,0,R4.hD,T.cl,T.nA,cJ,6];rw[qP];refine q _ (S1.trans ((zK0 I).trans (SameBut.upd _))) ?_;rw[e];erw[dx,t,l,aH,aT,DbR.set (z:={ z with cl:=xs,aw:=("coin",none) }) R4.hD am R4.hC R4.hH R4.hT]
inductive spHRow(C CG:Addr)(vs:List V)(H:Hp)(Q:VK)(u_3:XK):Prop
 |mk:∀(D g l:Addr)(z:Db)(xs:List Int)(ns:List Str)(ts:List Tr)(p:Int),vs=[.ref D,.ref l]->DbAt C H D g z->Gm CG H g ns ts p->GmK ns ts p->H l=some (.tup (xs.map V.int))->lu xs p->(∀H',SameBut D H H'->DbAt C H' D g (dI p xs z)->Q .non H')->spHRow C CG vs H Q u_3
theorem Fc:FnScope ["self","values"] ["self","values"] (aq xK):=%[1,1,1,4,1,4|4]
theorem Fx   (F:Fun K "hear_row" "Doubter.hear_row" xK f fd) (B:Bl mg) (T:DTxt K mg C) (TG:GTxt K mg CG) (li:Cal P w K mg base 5 "both_ends" ["values","p"] spEnds):FnOk P w K mg base CX0 6 f fd ["self","values"] (spHRow C CG):=by
 exists Fc
 erw[D,g,l,z,xs,ns,ts,p,1,%[dx,aA,aC,aH,aT|R],G,k,hl,ro,q]at h;refine⟨_,(ae (aU (pv 0) (pv 1) rfl)
  (ai (aO (ao aW (aB li hr ⋯ rfl %[1,aD (aD (pv 0) rfl) rfl|ag]) (aD (pv 0) rfl) (aE _))
   (ai (aU (pv 0) (aV %[aJ|ag]) rfl))
   (ai (aU (pv 0) (aV %[aJ,az aX (aM aN rfl B.len PySem.boot_len %[aD (pv 0) rfl|ag]) aj|ag]) rfl))))),?_⟩
 have gD:=G.ne R.hD iU;erw[0,0,D,C,dx,0,R.hD,T.cl,T.nH,cJ,6];rw[Gs];have S1:SameBut D H (upd H D (.ins C dx (dl g aA aC z.s l aT z.ed z.pl))):=SameBut.upd _;have R1:DbR C (upd H D (.ins C dx (dl g aA aC z.s l aT z.ed z.pl))) D g { z with he:=xs } dx aA aC l aT:=DbR.set (z:={ z with he:=xs }) R.hD R.hA R.hC hl R.hT;have G1:=G.but R.hD gD S1;generalize upd H D (.ins C dx (dl g aA aC z.s l aT z.ed z.pl))=H1 at S1 R1 G1;have G1':=G1;erw[a,b,d,tv,%[dg|hg],ha,hb,TS,hd]at G1';erw[0,0,D,C,dx,_,0,R1.hD,T.cl,T.nG,iU,g,CG,dg,_,0,hg,TG.cl,TG.nF,fc ..,l,xs,p,1,.inr R1.hH,ro,k.pr,k.p9,λH2 S2=>?_];have R2:=R1.same S2;erw[0,D,C,dx,_,0,R2.hD,T.cl,T.nE,zH,1,0,6];have S02:SameBut D H H2:=S1.trans (zK0 S2)
 by_cases c:(val p xs 0+val p xs 1) % p=z.ed
 . refine bb (congrArg V.int c) ?_;have e:dI p xs z={ z with he:=xs,aw:=("coin",none) }:=by
    unfold dI;rw[zC0 c]
   erw[(by show 1<=sizeLine;decide),λt ht=>?_];have I:=zE0 ht (.tup [.str "coin"]);have R4:=R2.same I;erw[0,D,C,dx,0,R4.hD,T.cl,T.nA,cJ,6];rw[qP];refine q _ (S02.trans ((zK0 I).trans (SameBut.upd _))) ?_;rw[e];erw[dx,t,aC,l,aT,DbR.set (z:={ z with he:=xs,aw:=("coin",none) }) R4.hD am R4.hC R4.hH R4.hT]
 . refine aI (λe=>c (V.int.inj e)) ?_;have e:dI p xs z={ z with he:=xs,aw:=("caught",some ((z.to.length:Int)+1)) }:=by
    unfold dI;rw[zA0 c]
   erw[0,D,C,dx,_,0,R2.hD,T.cl,T.nT,yH,aT,0,.inr (zB0 R2.hT),2,(by show 2<=sizeLine;decide),λt ht=>?_];have I:=zE0 ht (.tup [.str "caught",.int (((z.to.map V.int).length:Int)+1)]);have R4:=R2.same I;erw[0,D,C,dx,0,R4.hD,T.cl,T.nA,cJ,6];rw[qP];refine q _ (S02.trans ((zK0 I).trans (SameBut.upd _))) ?_;rw[e];erw[dx,t,aC,l,aT,DbR.set (z:={ z with he:=xs,aw:=("caught",some ((z.to.length:Int)+1)) }) R4.hD ?_ R4.hC R4.hH R4.hT];rw[am,zF0];rfl
end
section
variable {C CG:Addr}
theorem kJ{K:W.Frag}{H:Hp}{a:Addr}{xs:List Int}(h:H a=some (.tup (xs.map V.int))):Rep K H (.ref a) (.tuple (xs.map PyData.int)):=.tup (zB0 h) (ie xs)
theorem zF(xs:List Int):PyData.eqv (.tuple (xs.map PyData.int)) (.tuple [])=decide (xs=[]):=by
 cases xs with
 | nil=>rfl
 | cons a r=>rfl
theorem kC(ns:List Int):SeqAt.shaped (.tuple (ns.map PyData.int))=true:=by
 simp [SeqAt.shaped,PyData.canLay0,PyData.depth,W.ke_canLayAll0,W.ke_depthAll]
inductive spHear(C CG:Addr)(vs:List V)(H:Hp)(Q:VK)(u_3:XK):Prop
 |mk:∀(D g l:Addr) (z:Db) (xs:List Int) (ns:List Str) (ts:List Tr) (p:Int),vs=[.ref D,.ref l]->DbAt C H D g z->Gm CG H g ns ts p->GmK ns ts p->H l=some (.lst (xs.map V.int))->z.aw=(("hear":Str),some (xs.length:Int))->cj xs p->xs.length<=500->(z.cl≠[]->lu xs p)->z.to.length<=ns.length->cj z.to p->(∀H',SameBut D H H'->DbAt C H' D g (cX ns ts p xs z)->Q .non H')->spHear C CG vs H Q u_3
theorem Ct:FnScope ["self","values"] ["self","values"] (aq ut):=%[1,1,1,4,1,4|4]
theorem Dp   (F:Fun K "hear" "Doubter.hear" ut f fd) (B:Bl mg) (T:DTxt K mg C) (TG:GTxt K mg CG) (eW:Cal P w K mg base 1 "is_number" ["value","p"] spIsNum)
 (mC:Meth K C "hear_claims" fC) (GC:FnOk P w K mg base CX0 17 fC fdC ["self","values"] (spClaims C CG)) (bC:Binds K fdC ["self","values"] [])
 (mR:Meth K C "hear_row" fR) (GR:FnOk P w K mg base CX0 6 fR fdR ["self","values"] (spHRow C CG)) (bR:Binds K fdR ["self","values"] []):FnOk P w K mg base CX0 18 f fd ["self","values"] (spHear C CG):=by
 exists Ct
 erw[D,g,l,z,xs,ns,ts,p,1,%[dx,aA,aC,aH,aT|R],G,k,hl,ea,xo,xl,ro,tl,po,q]at h;have hr6:Room 6 _:=hr.mono ⋯;refine⟨_,(ae (aO (ao mq (aP ix_tup (aD (pv 0) rfl) aj (λ_ _=>rfl)) aJ (aE _)) bq aF)
  (ae (aO (ao mq (aM aN rfl B.len PySem.boot_len %[1|ag]) (aP ix_tup (aD (pv 0) rfl) aj (λ_ _=>rfl)) (aE _)) bq aF)
  (ae (aO (gA (dY (aM (nq rfl) rfl B.all PyProof.Rows.boot_all (aa (cM (N:=["self"]) (ix:=[0]) rfl
   (CompScope.one (by rfl') ⋯ rfl ⋯ rfl ⋯ (by rfl') (by rfl') (by rfl') rfl rfl) rfl
   (gI (pv 1)) (λ_ _ _=>db (aB eW hr ⋯ rfl %[0,jz K (jz K (pv 1))|ag]))) ag)))) bq aF)
  (ae (aU (pv 0) (az aX (aD (pv 0) rfl) (aM aN rfl B.len PySem.boot_len %[1|ag])) rfl)
  (ai (aO (ao (Da hr.units) (aD (pv 0) rfl) (aV ag) (aE _))
   (ai (ba (bY (pv 0) T.cl mC GC hr bC .nil bc %[bh bi rfl B.tuple bj %[1|ag]|ag])))
   (ai (ba (bY (pv 0) T.cl mR GR hr6 bR .nil bc %[bh bi rfl B.tuple bj %[1|ag]|ag]))))))))),?_⟩
 have gD:=G.ne R.hD iU;have hA:=R.hA;rw[ea]at hA;have hA:H aA=some (.tup [.str "hear",.int (xs.length:Int)]):=hA;erw[0,D,C,dx,_,0,R.hD,T.cl,T.nA,El,aA,_,2,zB0 hA,cE (j:=0) rfl,1,0,6];refine wp rfl ?_;erw[0,l,0,.inl (zH0 hl),0,D,C,dx,_,0,R.hD,T.cl,T.nA,El,aA,_,2,zB0 hA,cE (j:=1) rfl,1,0,6];refine wp (by rw[zF0]) ?_;have G':=G;erw[a,b,d,tv,%[dg|hg],ha,hb,TS,hd]at G';erw[0,l,1,%[_|zH0 hl],λW hW=>?_];refine kW (K:=K) (xs:=xs.map V.int) (λi H'=>H' W=some (.lst ((List.replicate i true).map V.bl))/\Same H H') %[by rw[am];rfl|zE0 hW _] (λi H' _ h=>zH0 (h.2 _ _ hl)) ?_ ?_
 . rintro i v H2 hv ⟨hW2,S2⟩;have hi:=(zX0 hv).1;rw[zZ0]at hv;let%[n,hn|1]:=qV0 hv;have nr:=xo n (qH0 hn);erw[0,0,D,C,dx,_,0,S2 _ _ R.hD,T.cl,T.nG,iU,g,CG,dg,_,0,S2 _ _ hg,TG.cl,TG.nF,fc ..,n,p,1,6];rw[decide_eq_true nr.1,decide_eq_true nr.2];erw[_,hW2,6,Nx.of hi %[6|λb o e=>?_]]
   . rw[zF0,List.length_replicate];rw[zF0]at hi;exact aS #[0]
   . rw[am,List.replicate_succ',zL0];rfl
   . rw[aG (aQ e hW)];exact S2 _ _ e
 rintro H1 ⟨hW1,S1⟩;erw[W,0,zH0 hW1,6];have ea:(List.replicate (xs.map V.int).length true).all id=true:=by simp
 rw [ea];erw[0,6];refine cO ?_;have R1:=R.same S1;have G1:=G.same S1;erw[0,D,C,dx,_,0,R1.hD,T.cl,T.nP,zG,0,l,0,.inl (zH0 (S1 _ _ hl)),2,0,D,C,dx,0,R1.hD,T.cl,T.nP,cJ,6];rw[uE,zF0];have S2:SameBut D H1 (upd H1 D (.ins C dx (dl g aA aC z.s aH aT z.ed (z.pl+(xs.length:Int))))):=SameBut.upd _;have R2:DbR C (upd H1 D (.ins C dx (dl g aA aC z.s aH aT z.ed (z.pl+(xs.length:Int))))) D g { z with pl:=z.pl+(xs.length:Int) } dx aA aC aH aT:=DbR.set (z:={ z with pl:=z.pl+(xs.length:Int) }) R1.hD R1.hA R1.hC R1.hH R1.hT;have G2:=G1.but R1.hD gD S2;have hl2:upd H1 D (.ins C dx (dl g aA aC z.s aH aT z.ed (z.pl+(xs.length:Int)))) l=some (.lst (xs.map V.int)):=by
  rw[aG (bu hl R.hD (by intro z;cases z))];exact S1 _ _ hl
 generalize upd H1 D (.ins C dx (dl g aA aC z.s aH aT z.ed (z.pl+(xs.length:Int))))=H2 at S2 R2 G2 hl2;erw[0,D,C,dx,_,0,R2.hD,T.cl,T.nC,Ik,(by show 0<=sizeLine;decide),λu hu=>?_];have I:=zE0 hu (.tup []);have R3:=R2.same I;have hu3:upd H2 u (.tup []) u=some (.tup []):=am;have hl3:=I _ _ hl2;have G3:=G2.same I;generalize upd H2 u (.tup [])=H3 at I R3 hu3 hl3 G3;have S03:SameBut D H H3:=(zK0 S1).trans (S2.trans (zK0 I));erw[_,_,kJ R3.hC,kJ (xs:=[]) hu3,kC _,kC [],0,6];rw[show PyData.eqv (.tuple (z.cl.map PyData.int)) (.tuple (([]:List Int).map PyData.int))=decide (z.cl=[])from zF z.cl]
 by_cases c:z.cl=[]
 . refine bb c ?_;have e:cX ns ts p xs z=jL ns ts p xs { z with pl:=z.pl+(xs.length:Int) }:=by
    unfold cX;rw[zC0 c]
   rw[e]at q;erw[0,D,dx,0,R3.hD,dl_n6,6];erw[0,l,0,.inl %[zH0 hl3|λt ht=>?_]];have J:=zE0 ht (.tup (xs.map V.int));erw[D,g,t,_,xs,ns,ts,p,1,%[dx,aA,aC,aH,aT|R3.same J],G3.same J,k,am,tl,po,λH5 S5 D5=>q H5 (S03.trans ((zK0 J).trans S5)) D5]
 . refine aI c ?_;have e:cX ns ts p xs z=dI p xs { z with pl:=z.pl+(xs.length:Int) }:=by
    unfold cX;rw[zA0 c]
   rw[e]at q;erw[0,D,dx,0,R3.hD,dl_n8,6];erw[0,l,0,.inl %[zH0 hl3|λt ht=>?_]];have J:=zE0 ht (.tup (xs.map V.int));erw[D,g,t,_,xs,ns,ts,p,1,%[dx,aA,aC,aH,aT|R3.same J],G3.same J,k,am,ro c,λH5 S5 D5=>q H5 (S03.trans ((zK0 J).trans S5)) D5]
inductive spToss(C CG:Addr)(vs:List V)(H:Hp)(Q:VK)(u_3:XK):Prop
 |mk:∀(D g:Addr) (z:Db) (r:Int) (ns:List Str) (ts:List Tr) (p:Int),vs=[.ref D,.int r]->DbAt C H D g z->Gm CG H g ns ts p->GmK ns ts p->z.aw.1="coin"->0<=r->r<p->z.to.length<=ns.length->(z.he≠[]->lu z.he p/\z.to.length<ns.length)->cj z.to p->(∀H',SameBut D H H'->DbAt C H' D g (dB ns ts p r z)->Q .non H')->spToss C CG vs H Q u_3
theorem Cr:FnScope ["self","r"] ["self","r"] (aq uq):=%[1,1,1,4,1,4|4]
theorem GN(a:Str×Option Int):(awV a)[0]?=some (.str a.1):=by
 unfold awV
 split <;> rfl
inductive rCatA(K:W.Frag)(x:V)(y:V)(H:Hp)(Q:VK):Prop
 |mk:∀a b xs ys,x=.ref a->y=.ref b->SqT K H a xs->SqT K H b ys->ys≠[]->xs.length+ys.length<=sizeLine->(xs=[]->Q (.ref b) H)->(xs≠[]->∀p,H p=none->Q (.ref p) (upd H p (.tup (xs++ys))))->rCatA K x y H Q
theorem Fq:OpR X (binaryOp .Add) (rCatA X.K):=by
 intro pins s σ H x y v u Q I rx ry h;erw[a,b,xs,ys,ex,ey,ha,hb,hy,hz,q1,q2]at h
 by_cases c:xs=[]
 . subst c;exact mr pins s σ H x y v u Q I rx ry %[a,b,ys,ex,ey,ha,hb|q1 rfl]
 . exact op_catT pins s σ H x y v u Q I rx ry %[a,b,xs,ys,ex,ey,ha,hb,c,hz,λz=>absurd z hy|λ_=>q2 c]
theorem Dm   (F:Fun K "toss" "Doubter.toss" uq f fd) (B:Bl mg) (T:DTxt K mg C) (TG:GTxt K mg CG) (eW:Cal P w K mg base 1 "is_number" ["value","p"] spIsNum) (cG:Cal P w K mg base 4 "value_at" ["values","r","p"] spVal)
 (mB:Meth K C "begin_rounds" fB) (GB:FnOk P w K mg base CX0 16 fB fdB ["self","s"] (spBeg C CG)) (bB:Binds K fdB ["self","s"] [])
 (mG:Meth K C "go_on" fG) (GG:FnOk P w K mg base CX0 15 fG fdG ["self"] (spGo C CG)) (bG:Binds K fdG ["self"] []):FnOk P w K mg base CX0 17 f fd ["self","r"] (spToss C CG):=by
 exists Cr
 erw[D,g,z,r,ns,ts,p,1,%[dx,aA,aC,aH,aT|R],G,k,ea,r0,r1,tl,ro,po,q]at h;have hr15:Room 15 _:=hr.mono ⋯;refine⟨_,(ae (aO (ao mq (aP ix_tup (aD (pv 0) rfl) aj (λ_ _=>rfl)) aJ (aE _)) bq aF)
  (ae (aO (gA (dY (aB eW hr ⋯ rfl %[1,aD (aD (pv 0) rfl) rfl|ag]))) bq aF)
  (ae (aU (pv 0) (az aX (aD (pv 0) rfl) aj) rfl)
  (ai (aO (ao (Da hr.units) (aD (pv 0) rfl) (aV ag) (aE _))
   (ai (ba (bY (pv 0) T.cl mB GB hr bB .nil bc %[1|ag])))
   (ae (aU (pv 0) (aB cG hr ⋯ rfl %[aD (pv 0) rfl,1,aD (aD (pv 0) rfl) rfl|ag]) rfl)
   (ae (aU (pv 0) (az Fq (aD (pv 0) rfl) (aV %[1|ag])) rfl)
   (ai (ba (bw (pv 0) T.cl mG GG hr15 bG .nil bc)))))))))),?_⟩
 have gD:=G.ne R.hD iU;have G':=G;erw[a,b,d,tv,%[dg|hg],ha,hb,TS,hd]at G';erw[0,D,C,dx,_,0,R.hD,T.cl,T.nA,El,aA,_,2,zB0 R.hA,cE (j:=0) (GN _),1,0,6];refine wp (congrArg V.str ea) ?_;erw[0,0,D,C,dx,_,0,R.hD,T.cl,T.nG,iU,g,CG,dg,_,0,hg,TG.cl,TG.nF,fc ..,r,p,1,6];rw[decide_eq_true r0,decide_eq_true r1];erw[0,6];refine cO ?_;erw[0,D,C,dx,_,0,R.hD,T.cl,T.nP,zG,2,0,D,C,dx,0,R.hD,T.cl,T.nP,cJ,6];rw[uE];have S2:SameBut D H (upd H D (.ins C dx (dl g aA aC z.s aH aT z.ed (z.pl+1)))):=SameBut.upd _;have R2:DbR C (upd H D (.ins C dx (dl g aA aC z.s aH aT z.ed (z.pl+1)))) D g { z with pl:=z.pl+1 } dx aA aC aH aT:=DbR.set (z:={ z with pl:=z.pl+1 }) R.hD R.hA R.hC R.hH R.hT;have G2:=G.but R.hD gD S2;generalize upd H D (.ins C dx (dl g aA aC z.s aH aT z.ed (z.pl+1)))=H2 at S2 R2 G2;erw[0,D,C,dx,_,0,R2.hD,T.cl,T.nH,Ij,(by show 0<=sizeLine;decide),λu hu=>?_];have I:=zE0 hu (.tup []);have R3:=R2.same I;have hu3:upd H2 u (.tup []) u=some (.tup []):=am;have G3:=G2.same I;generalize upd H2 u (.tup [])=H3 at I R3 hu3 G3;have S03:SameBut D H H3:=S2.trans (zK0 I);erw[_,_,kJ R3.hH,kJ (xs:=[]) hu3,kC _,kC [],0,6];rw[show PyData.eqv (.tuple (z.he.map PyData.int)) (.tuple (([]:List Int).map PyData.int))=decide (z.he=[])from zF z.he]
 by_cases c:z.he=[]
 . refine bb c ?_;have e:dB ns ts p r z=wN ns ts p r { z with pl:=z.pl+1 }:=by
    unfold dB;rw[zC0 c]
   rw[e]at q;erw[0,D,dx,0,R3.hD,GF,0,6];erw[D,g,_,r,ns,ts,p,1,%[dx,aA,aC,aH,aT|R3],G3,k,tl,po,λH5 S5 D5=>q H5 (S03.trans S5) D5]
 . refine aI c ?_;let%[rok|tl']:=ro c;have e:dB ns ts p r z=goOn ns ts p { z with pl:=z.pl+1,ed:=val p z.he r,to:=z.to++[r] }:=by
    unfold dB;rw[zA0 c]
   rw [e]at q;have G3':=G3;erw[a3,b3,d3,tv3,%[dg3|hg3],_]at G3';erw[0,D,C,dx,_,0,R3.hD,T.cl,T.nH,Ij,0,0,D,C,dx,_,0,R3.hD,T.cl,T.nG,iU,g,CG,dg3,_,0,hg3,TG.cl,TG.nF,fc ..,aH,z.he,r,p,1,.inr R3.hH,rok,k.pr,k.p9,r0,r1,λH4 S4=>?_];have R4:=R3.same S4;have G4:=G3.same S4;erw[0,D,C,dx,0,R4.hD,T.cl,T.nE,cJ,6];rw[xM];have S5:SameBut D H4 (upd H4 D (.ins C dx (dl g aA aC z.s aH aT (val p z.he r) (z.pl+1)))):=SameBut.upd _;have R5:DbR C (upd H4 D (.ins C dx (dl g aA aC z.s aH aT (val p z.he r) (z.pl+1)))) D g { z with pl:=z.pl+1,ed:=val p z.he r } dx aA aC aH aT:=DbR.set (z:={ z with pl:=z.pl+1,ed:=val p z.he r }) R4.hD R4.hA R4.hC R4.hH R4.hT;have G5:=G4.but R4.hD gD S5;generalize upd H4 D (.ins C dx (dl g aA aC z.s aH aT (val p z.he r) (z.pl+1)))=H5 at S5 R5 G5;have S05:SameBut D H H5:=S03.trans ((zK0 S4).trans S5);erw[0,D,C,dx,_,0,R5.hD,T.cl,T.nT,yH,0,(by show 1<=sizeLine;decide),λt ht=>?_];have J:=zE0 ht (.tup [.int r]);have R6:=R5.same J;have G6:=G5.same J;have ht6:upd H5 t (.tup [.int r]) t=some (.tup [.int r]):=am;generalize upd H5 t (.tup [.int r])=H6 at J R6 G6 ht6;have n10:=k.n10;have fin:∀(x:Addr)(H7:Hp),Same H6 H7->H7 x=some (.tup ((z.to++[r]).map V.int))->(ps_fin:True)->∀QQ:Hp->Prop,(∀H8,SameBut D H7 H8->DbR C H8 D g { z with pl:=z.pl+1,ed:=val p z.he r,to:=z.to++[r] } dx aA aC aH x->Gm CG H8 g ns ts p->QQ H8)->QQ (upd H7 D (.ins C dx (dl g aA aC z.s aH x (val p z.he r) (z.pl+1)))):=by
    intro x H7 s7 hx _ QQ hq;have R7:=R6.same s7;exact hq _ (SameBut.upd _) (DbR.set (z:={ z with pl:=z.pl+1,ed:=val p z.he r,to:=z.to++[r] }) R7.hD R7.hA R7.hC R7.hH hx) ((G6.same s7).but R7.hD gD (SameBut.upd _))
   have po2:cj (z.to++[r]) p:=λx hx=>by
    rcases qM0 hx with h | h
    . exact po x h
    . rw[zS0 h];erw[r0,r1]
   have tl2:(z.to++[r]).length<=ns.length:=by
    rw[zJ0,qG0];omega
   have S06:SameBut D H H6:=S05.trans (zK0 J);erw[aT,t,2,zB0 R6.hT,zB0 ht6,(λz=>by cases z),cv (by rw[zF0];show z.to.length+1<=1000;omega),λz0=>?_,λz0 p7 hp7=>?_]
   . have e0:z.to=[]:=by simpa using z0
     erw[0,D,C,dx,0,R6.hD,T.cl,T.nT,cJ,6];rw[CK];refine fin t H6 (Same.refl _) (by rw[e0];exact ht6) trivial _ λH8 S8 R8 G8=>?_
     erw[0,D,dx,0,R8.hD,Ek,6];erw[D,g,_,ns,ts,p,1,%[dx,aA,aC,aH,t|R8],G8,k,tl2,po2,λH9 S9 D9=>q H9 (S06.trans (S8.trans S9)) D9]
   . have L:=zE0 hp7 (.tup (z.to.map V.int++[.int r]));have R7:=R6.same L;erw[0,D,C,dx,0,R7.hD,T.cl,T.nT,cJ,6];rw[CK];refine fin p7 _ L (by rw[am,zL0];rfl) trivial _ λH8 S8 R8 G8=>?_
     erw[0,D,dx,0,R8.hD,Ek,6];erw[D,g,_,ns,ts,p,1,%[dx,aA,aC,aH,p7|R8],G8,k,tl2,po2,λH9 S9 D9=>q H9 (S06.trans ((zK0 L).trans (S8.trans S9))) D9]
inductive spDInit(C CG:Addr)(vs:List V)(H:Hp)(Q:VK)(u_3:XK):Prop
 |mk:∀(D g dx:Addr)(ns:List Str)(ts:List Tr)(p:Int),vs=[.ref D,.ref g]->H D=some (.ins C dx [])->Gm CG H g ns ts p->g≠D->(∀H',SameBut D H H'->DbAt C H' D g (Db.new ts)->Q .non H')->spDInit C CG vs H Q u_3
theorem Cs:FnScope ["self","game"] ["self","game"] (aq ur):=%[1,1,1,4,1,4|4]
inductive spOf(C:Addr)(t:Db->V->Hp->Prop)(vs:List V)(H:Hp)(Q:VK)(u_3:XK):Prop
 |mk:∀(D g:Addr)(z:Db),vs=[.ref D]->DbAt C H D g z->(∀v,t z v H->Q v H)->spOf C t vs H Q u_3
theorem Fd:FnScope ["self"] ["self"] (aq xL):=%[1,1,1,4,1,4|4]
theorem Fy   (F:Fun K "due" "Doubter.due" xL f fd) (T:DTxt K mg C):FnOk P w K mg base CX0 1 f fd ["self"] (spOf C λz v _=>v=.int z.ed):=by
 exists Fd
 erw[D,g,z,1,%[dx,aA,aC,aH,aT|R],q]at h;erw[_,(ai (au (aD (pv 0) rfl))),6];erw[0,D,C,dx,_,0,R.hD,T.cl,T.nE,zH,q _ rfl]
theorem An:FnScope ["self"] ["self"] (aq qJ):=%[1,1,1,4,1,4|4]
theorem AM   (F:Fun K "waits" "Doubter.waits" qJ f fd) (T:DTxt K mg C):FnOk P w K mg base CX0 1 f fd ["self"] (spOf C λz v H=>∃a,v=.ref a/\H a=some (.tup (awV z.aw))):=by
 exists An
 erw[D,g,z,1,%[dx,aA,aC,aH,aT|R],q]at h;erw[_,(ai (au (aD (pv 0) rfl))),6];erw[0,D,C,dx,_,0,R.hD,T.cl,T.nA,El,q _ %[aA,1|R.hA]]
end
section
variable {C CG:Addr}
theorem pW{b:Addr}{o:HO}(F:FeedAt H f)(h:H b=some o)(n:∀ys,o≠.lst ys):b≠f:=λz=>by
 erw[u,t,e,_]at F;rw[z,e]at h;exact n _ (zT0 h).symm
def awD(a:Str×Option Int):PyData:=match a.2 with
 | none=>.tuple [.str a.1]
 | some n=>.tuple [.str a.1,.int n]
theorem Hm{K:W.Frag}{H:Hp}{c:Addr}(h:H c=some (.tup (awV a))):Rep K H (.ref c) (awD a):=by
 erw[x,n]at a;cases n with
 | none=>exact .tup (zB0 h) (.cons (.str x) .nil)
 | some n=>exact .tup (zB0 h) (.cons (.str x) (.cons (.int n) .nil))
def AwW (x:Str):Prop:=x="hear"∨x="coin"∨x="caught"∨x="believed"
theorem AwW.ok(h:AwW x):PyData.strOk x=true:=by
 rcases h with rfl | rfl | rfl | rfl <;> decide
theorem pz:∀ns ms:List Int,PyData.eqvAll (ns.map PyData.int) (ms.map PyData.int)=decide (ns=ms)
 | [],[]=>rfl
 | [],_::_=>rfl
 | _::_,[]=>rfl
 | a::r,b::t=>by
   simp only[zY0,PyData.eqvAll,PyData.eqv,pz r t]
   by_cases h1:a=b <;> by_cases h2:r=t <;> simp [h1,h2]
theorem Id(ns ms:List Int):PyData.eqv (.list (ns.map PyData.int)) (.list (ms.map PyData.int))=decide (ns=ms):=by simp [PyData.eqv,pz]
theorem sO(ns:List Int):SeqAt.shaped (.list (ns.map PyData.int))=true:=by
 simp [SeqAt.shaped,PyData.canLay0,PyData.depth,W.ke_canLayAll0,W.ke_depthAll]
end
section
variable {C CG:Addr}
def d1 (g:Addr):List (Str×V):=[("game",.ref g)]
def d2 (g t1:Addr):List (Str×V):=[("game",.ref g),("awaited",.ref t1)]
def d3 (g t1 t2:Addr):List (Str×V):=[("game",.ref g),("awaited",.ref t1),("claims",.ref t2)]
def d4 (g t1 t2:Addr):List (Str×V):=[("game",.ref g),("awaited",.ref t1),("claims",.ref t2),("s",.int 0)]
def d5 (g t1 t2 t3:Addr):List (Str×V):=[("game",.ref g),("awaited",.ref t1),("claims",.ref t2),("s",.int 0),("heard",.ref t3)]
def d6 (g t1 t2 t3 t4:Addr):List (Str×V):=[("game",.ref g),("awaited",.ref t1),("claims",.ref t2),("s",.int 0),("heard",.ref t3),("tossed",.ref t4)]
def d7 (g t1 t2 t3 t4:Addr):List (Str×V):=[("game",.ref g),("awaited",.ref t1),("claims",.ref t2),("s",.int 0),("heard",.ref t3),("tossed",.ref t4),("held",.int 0)]
theorem pd1 (g:Addr):bL "game" (.ref g) []=d1 g:=by rfl'
theorem pd2 (g t1:Addr):bL "awaited" (.ref t1) (d1 g)=d2 g t1:=by rfl'
theorem pd3 (g t1 t2:Addr):bL "claims" (.ref t2) (d2 g t1)=d3 g t1 t2:=by rfl'
theorem pd4 (g t1 t2:Addr):bL "s" (.int 0) (d3 g t1 t2)=d4 g t1 t2:=by rfl'
theorem pd5 (g t1 t2 t3:Addr):bL "heard" (.ref t3) (d4 g t1 t2)=d5 g t1 t2 t3:=by rfl'
theorem pd6 (g t1 t2 t3 t4:Addr):bL "tossed" (.ref t4) (d5 g t1 t2 t3)=d6 g t1 t2 t3 t4:=by rfl'
theorem pd7 (g t1 t2 t3 t4:Addr):bL "held" (.int 0) (d6 g t1 t2 t3 t4)=d7 g t1 t2 t3 t4:=by rfl'
theorem pd8 (g t1 t2 t3 t4:Addr):bL "places" (.int 0) (d7 g t1 t2 t3 t4)=dl g t1 t2 0 t3 t4 0 0:=by rfl'
theorem Do   (F:Fun K "__init__" "Doubter.__init__" ur f fd) (B:Bl mg) (T:DTxt K mg C) (TG:GTxt K mg CG):FnOk P w K mg base CX0 1 f fd ["self","game"] (spDInit C CG):=by
 exists Cs
 erw[D,g,dx,ns,ts,p,1,hD,G,gD,q]at h;refine⟨_,(ae (aU (pv 0) (pv 1) rfl)
  (ae (aU (pv 0) (aV %[aJ,aM aN rfl B.len PySem.boot_len %[aD (pv 1) rfl|ag]|ag]) rfl)
  (ae (aU (pv 0) (aV ag) rfl)
  (ae (aU (pv 0) aj rfl)
  (ae (aU (pv 0) (aV ag) rfl)
  (ae (aU (pv 0) (aV ag) rfl)
  (ae (aU (pv 0) aj rfl)
  (ai (aU (pv 0) aj rfl))))))))),?_⟩
 erw[a,b,d,tv,%[dg|hg],ha,hb,TS,hd]at G;have vl:=TS.length;erw[0,0,D,C,dx,0,hD,T.cl,T.nG,(by show 0<1000;decide),6];rw[pd1];have S1:SameBut D H (upd H D (.ins C dx (d1 g))):=SameBut.upd _;have h1:upd H D (.ins C dx (d1 g)) D=some (.ins C dx (d1 g)):=am;generalize upd H D (.ins C dx (d1 g))=H1 at S1 h1;have nb:=bu hb hD (by intro z;cases z);erw[0,g,CG,dg,_,0,S1 _ _ gD hg,TG.cl,TG.nT,lp ..,b,0,.inr (zB0 (S1 _ _ nb hb)),(by show 2<=sizeLine;decide),λt1 ht1=>?_];have I1:=zE0 ht1 (.tup [.str "hear",.int (tv.length:Int)]);have g1:upd H1 t1 (.tup [.str "hear",.int (tv.length:Int)]) t1=some (.tup [.str "hear",.int (tv.length:Int)]):=am;generalize upd H1 t1 (.tup [.str "hear",.int (tv.length:Int)])=H2 at I1 g1;erw[0,D,C,dx,0,I1 _ _ h1,T.cl,T.nA,(by show 1<1000;decide),6];rw[pd2];have n1:t1≠D:=(aQ h1 ht1).symm;have S2:SameBut D H2 (upd H2 D (.ins C dx (d2 g t1))):=SameBut.upd _;have h2:upd H2 D (.ins C dx (d2 g t1)) D=some (.ins C dx (d2 g t1)):=am;have k1:=S2 _ _ n1 g1;generalize upd H2 D (.ins C dx (d2 g t1))=H3 at S2 h2 k1;erw[(by show 0<=sizeLine;decide),λt2 ht2=>?_];have I2:=zE0 ht2 (.tup []);have g2:upd H3 t2 (.tup []) t2=some (.tup []):=am;generalize upd H3 t2 (.tup [])=H4 at I2 g2;erw[0,D,C,dx,0,I2 _ _ h2,T.cl,T.nC,(by show 2<1000;decide),6];rw[pd3];have n2:t2≠D:=(aQ h2 ht2).symm;have S3:SameBut D H4 (upd H4 D (.ins C dx (d3 g t1 t2))):=SameBut.upd _;have h3:upd H4 D (.ins C dx (d3 g t1 t2)) D=some (.ins C dx (d3 g t1 t2)):=am;generalize upd H4 D (.ins C dx (d3 g t1 t2))=H5 at S3 h3;erw[0,D,C,dx,0,h3,T.cl,T.nS,(by show 3<1000;decide),6];rw[pd4];have S4:SameBut D H5 (upd H5 D (.ins C dx (d4 g t1 t2))):=SameBut.upd _;have h4:upd H5 D (.ins C dx (d4 g t1 t2)) D=some (.ins C dx (d4 g t1 t2)):=am;generalize upd H5 D (.ins C dx (d4 g t1 t2))=H6 at S4 h4;erw[(by show 0<=sizeLine;decide),λt3 ht3=>?_];have I3:=zE0 ht3 (.tup []);have g3:upd H6 t3 (.tup []) t3=some (.tup []):=am;generalize upd H6 t3 (.tup [])=H7 at I3 g3;erw[0,D,C,dx,0,I3 _ _ h4,T.cl,T.nH,(by show 4<1000;decide),6];rw[pd5];have n3:t3≠D:=(aQ h4 ht3).symm;have S5:SameBut D H7 (upd H7 D (.ins C dx (d5 g t1 t2 t3))):=SameBut.upd _;have h5:upd H7 D (.ins C dx (d5 g t1 t2 t3)) D=some (.ins C dx (d5 g t1 t2 t3)):=am;generalize upd H7 D (.ins C dx (d5 g t1 t2 t3))=H8 at S5 h5;erw[(by show 0<=sizeLine;decide),λt4 ht4=>?_];have I4:=zE0 ht4 (.tup []);have g4:upd H8 t4 (.tup []) t4=some (.tup []):=am;generalize upd H8 t4 (.tup [])=H9 at I4 g4;erw[0,D,C,dx,0,I4 _ _ h5,T.cl,T.nT,(by show 5<1000;decide),6];rw[pd6];have n4:t4≠D:=(aQ h5 ht4).symm;erw[0,D,C,dx,0,am,T.cl,T.nE,(by show 6<1000;decide),6];rw[pd7];erw[0,D,C,dx,0,am,T.cl,T.nP,(by show 7<1000;decide),6];rw[pd8];have W:∀{x:Addr} {H':Hp} {o1 o2 o3:HO} {u:HO},x≠D->H' x=some u->upd (upd (upd H' D o1) D o2) D o3 x=some u:=λ{x H' o1 o2 o3 u} n e=>by
  rw[aG n,aG n,aG n];exact e
 have k2:=S3 _ _ n2 g2;have k3:=S5 _ _ n3 g3;refine q _ (S1.trans ((zK0 I1).trans (S2.trans ((zK0 I2).trans (S3.trans (S4.trans ((zK0 I3).trans (S5.trans ((zK0 I4).trans ((SameBut.upd _).trans ((SameBut.upd _).trans (SameBut.upd _)))))))))))) %[dx,t1,t2,t3,t4,am,6,6,6|W n4 g4]
 . rw[vl]at k1;exact W n1 (I4 _ _ (S5 _ _ n1 (I3 _ _ (S4 _ _ n1 (S3 _ _ n1 (I2 _ _ k1))))))
 . exact W n2 (I4 _ _ (S5 _ _ n2 (I3 _ _ (S4 _ _ n2 k2))))
 . exact W n3 (I4 _ _ k3)
end
def jK (o:Str) (p q:Bool):Bool:=if o="and" then p&&q else if o="or" then p||q else if o="odd" then p != q else p==q
def Tr.holds(ns:List Str)(st:List Int):Tr->Bool
 | .is x=>match eI x ns with | some j=>decide (st.getD j 0=1) | none=>false
 | .yes=>true
 | .no=>false
 | .not a=>!a.holds ns st
 | .bin o a b=>jK o (a.holds ns st) (b.holds ns st)
inductive spJoined(vs:List V)(H:Hp)(Q:VK)(u_3:XK):Prop
 |mk:∀(o:Str)(p q:Bool),vs=[.str o,.bl p,.bl q]->Q (.bl (jK o p q)) H->spJoined vs H Q u_3
theorem Ai:FnScope ["word","first","second"] ["word","first","second"] (aq qF):=%[1,1,1,4,1,4|4]
theorem AH   (F:Fun K "joined" "joined" qF f fd):FnOk P w K mg base CX0 1 f fd ["word","first","second"] spJoined:=by
 exists Ai
 erw[o,p,q,1,k]at h;refine⟨_,(ae (aO (ao aW (pv 0) aJ (aE _)) (ai (au (lJ (pv 1) (ou (pv 2))))) aF)
  (ae (aO (ao aW (pv 0) aJ (aE _)) (ai (au (pe_or (pv 1) (ou (pv 2))))) aF)
  (ae (aO (ao aW (pv 0) aJ (aE _)) (ai (au (fK mq (pv 1) (pv 2) (aE _)))) aF)
  (ai (au (fK aW (pv 1) (pv 2) (aE _))))))),?_⟩
 erw[0,1,0,6]
 by_cases c1:V.str o=V.str "and"
 . refine bb c1 ?_;have e:jK o p q=(p&&q):=by unfold jK;rw[zC0 (iA c1)]
   rw[e]at k;erw[0,p,1,6];cases p with
   | true=>exact dU %[0|by simpa using k]
   | false=>exact cO (by simpa using k)
 refine aI c1 ?_;have n1:¬ o="and":=λz=>c1 (by rw[z])
 erw[0,1,0,6]
 by_cases c2:V.str o=V.str "or"
 . refine bb c2 ?_;have e:jK o p q=(p||q):=by unfold jK;rw[zA0 n1,zC0 (iA c2)]
   rw[e]at k;erw[0,p,1,6];cases p with
   | true=>exact dU (by simpa using k)
   | false=>exact cO %[0|by simpa using k]
 refine aI c2 ?_;have n2:¬ o="or":=λz=>c2 (by rw[z])
 erw[0,1,0,6]
 by_cases c3:V.str o=V.str "odd"
 . refine bb c3 ?_;have e:jK o p q=(p != q):=by unfold jK;rw[zA0 n1,zA0 n2,zC0 (iA c3)]
   rw[e]at k;erw[0,0,1,6];have e2:(!decide (V.bl p=V.bl q))=(p != q):=by cases p <;> cases q <;> decide
   show Q (.bl (!decide (V.bl p=V.bl q))) H;rw[e2];exact k
 refine aI c3 ?_;have n3:¬ o="odd":=λz=>c3 (by rw[z])
 have e:jK o p q=(p==q):=by unfold jK;rw[zA0 n1,zA0 n2,zA0 n3]
 rw[e]at k;erw[0,0,1,6];have e2:decide (V.bl p=V.bl q)=(p==q):=by cases p <;> cases q <;> decide
 show Q (.bl (decide (V.bl p=V.bl q))) H;rw[e2];exact k
inductive spHolds(n:Nat)(vs:List V)(H:Hp)(Q:VK)(u_3:XK):Prop
 |mk:∀(v:V)(t:Tr)(a b:Addr)(ns:List Str)(st:List Int),vs=[v,.ref a,.ref b]->TreeAt H v t->t.ok ns->t.depth<=n->NamesAt H a ns->H b=some (.tup (st.map V.int))->st.length=ns.length->Q (.bl (t.holds ns st)) H->spHolds n vs H Q u_3
theorem lj:FnScope ["tree","switches","setting","word","first"] ["tree","switches","setting"] (aq jr):=%[1,1,1,4,1,4|4]
theorem yC {n:Nat}   (F:Fun K "holds_at" "holds_at" jr f fd) (gX:Cal P w K mg base 1 "joined" ["word","first","second"] spJoined) (fh:Cal P w K mg base (n+2) "holds_at" ["tree","switches","setting"] (spHolds n)):FnOk P w K mg base CX0 (n+3) f fd ["tree","switches","setting"] (spHolds (n+1)):=by
 exists lj
 erw[v,t,a,b,ns,st,1,T,ok,dn,hN,hb,sl,k]at h;refine⟨_,(ae #[ax,3,lj,aP ix_tup (pv 0) aj (λ_ _=>rfl)]
  (ae (aO (ao aW (pv 3) aJ (aE _)) (ai (au (fK aW (aP ix_tup (pv 2) (vI PySem.F.plainAttrs_list PySem.F.plainAttrs_tuple (pv 1) %[aP ix_tup (pv 0) aj (λ_ _=>rfl)|ag]) (λ_ _=>rfl)) aj (aE _)))) aF)
  (ae (aO (PW.pt (ig (ao aW (pv 3) aJ (aE _)) (gy (ao aW (pv 3) aJ (aE _))))) (ai (au (fK aW (pv 3) aJ (aE _)))) aF)
  (ae #[ax,4,lj,aB fh hr (zG0 _) rfl %[aP ix_tup (pv 0) aj (λ_ _=>rfl),1,2|ag]]
  (ae (aO (ao aW (pv 3) aJ (aE _)) (ai (au (xU (pv 4)))) aF)
  (ai (au (aB gX hr #[0] rfl %[3,4,aB fh hr (zG0 _) rfl %[aP ix_tup (pv 0) aj (λ_ _=>rfl),1,2|ag]|ag])))))))),?_⟩
 cases T with
 | @is p x e=>
   erw[0,p,_,(0),0,1,zB0 e,1,6];erw[0,1,0,6];refine bb rfl ?_;let%[j,hj|jl]:=gQ ok;have jl':j<st.length:=by omega
   erw[0,0,a,ns,1,hN,0,p,_,(1),0,1,zB0 e,1,1,x,j,1,hj,b,_,(j:Int),.int st[j],1,1,zB0 hb,6,1,6]
   . refine cE ?_;rw[zZ0,zM0 jl'];rfl
   . have e1:(Tr.is x).holds ns st=decide (V.int st[j]=V.int 1):=by
      show(match eI x ns with | some j=>decide (st.getD j 0=1) | none=>false)=_;rw[hj];show decide (st.getD j 0=1)=_;rw[qL0,zM0 jl']
      simp
     rw[e1]at k;exact k
 | @yes p e=>
   erw[0,p,_,(0),0,1,zB0 e,1,6];erw[0,1,0,6];refine aI ⋯ ?_;erw[0,1,0,6];refine bb rfl (dU ?_);erw[0,1,k]
 | @no p e=>
   erw[0,p,_,(0),0,1,zB0 e,1,6];erw[0,1,0,6];refine aI ⋯ ?_;erw[0,1,0,6];refine aI ⋯ ?_;erw[0,1,0,6];refine bb rfl ?_;erw[0,1,6];have e1:decide (V.str "no"=V.str "yes")=false:=by decide
   show Q (.bl (decide (V.str "no"=V.str "yes"))) H;rw[e1];exact k
 | @not p u r e T1=>
   have dp:r.depth+1<=n+1:=dn;erw[0,p,_,(0),0,1,zB0 e,1,6];erw[0,1,0,6];refine aI ⋯ ?_;erw[0,1,0,6];refine aI ⋯ ?_;erw[0,1,0,6];refine aI ⋯ ?_;erw[0,p,_,(1),0,1,zB0 e,1,0,0,u,r,a,b,ns,st,1,T1,ok,3,hN,hb,sl,6];erw[0,1,0,6];refine bb rfl ?_;erw[0,0,k]
 | @bin p o u u2 r r2 e T1 T2=>
   erw[ho,ok1,ok2]at ok;have dp:max r.depth r2.depth+1<=n+1:=dn;have ne:∀z:Str,z∉joinW->¬ V.str o=V.str z:=λz hz h=>hz (iA h▸ho)
   erw[0,p,_,(0),0,1,zB0 e,1,6];erw[0,1,0,6];refine aI (ne _ ⋯) ?_;erw[0,1,0,6];refine aI (ne _ ⋯) ?_;erw[0,1,0,6];refine aI (ne _ ⋯) ?_;erw[0,p,_,(1),0,1,zB0 e,1,0,0,u,r,a,b,ns,st,1,T1,ok1,3,hN,hb,sl,6];erw[0,1,0,6];refine aI (ne _ ⋯) ?_;erw[0,0,0,p,_,(2),0,1,zB0 e,1,0,0,u2,r2,a,b,ns,st,1,T2,ok2,3,hN,hb,sl,6];erw[o,_,0,k]
theorem yB  :FnOk P w K mg base CX0 2 f fd ["tree","switches","setting"] (spHolds 0):=by
 have no:∀vs H Q E,¬ spHolds 0 vs H Q E:=λvs H Q E h=>by
  erw[v,t,_,_,_,_,_,_,_,h1,_]at h
  have:=t.depth_pos
  omega
 erw[λvs H Q E h=>absurd h (no vs H Q E),λA outer s H args us vs Q E _ _ _ _ h=>absurd h (no vs H Q E)]
theorem oZ   (F:Fun K "holds_at" "holds_at" jr f fd) (m:mg "holds_at"=some (.ref f)) (gX:Cal P w K mg base 1 "joined" ["word","first","second"] spJoined) :
 ∀n:Nat,FnOk P w K mg base CX0 (n+2) f fd ["tree","switches","setting"] (spHolds n)
 | 0=>yB
 | n+1=>yC F gX (Cal.of F (oZ F m gX n) m (λ_ _ _ _ _ _ us hl=>by let%[u0,u1,u2|1]:=FL hl;rfl))
def GO(H:Hp)(v:V)(s:List Int):Prop:=∃a,v=.ref a/\H a=some (.tup (s.map V.int))
abbrev TupsAt(H:Hp):List V->List (List Int)->Prop:=PySem.Paired (GO H)
def EA(H:Hp)(r:Addr)(ss:List (List Int)):Prop:=∃rs,H r=some (.lst rs)/\TupsAt H rs ss
theorem TupsAt.mono{H H':Hp}(k:∀a xs,H a=some (.tup xs)->H' a=some (.tup xs)):∀{rs:List V}{ss:List (List Int)},TupsAt H rs ss->TupsAt H' rs ss
 | _,_,.nil=>.nil
 | _,_,.cons ⟨a,e,h⟩ t=>.cons %[a,e|k _ _ h] (TupsAt.mono k t)
theorem TupsAt.get:∀{rs:List V}{ss:List (List Int)}{i:Nat}{v:V},TupsAt H rs ss->rs[i]?=some v->∃s,ss[i]?=some s/\GO H v s
 | _,_,_,_,.nil,h=>by simp at h
 | _,_,0,_,.cons h _,e=>by
   simp at e
   subst e;erw[0,h]
 | _,_,i+1,v,.cons _ t,e=>by
   let%[s,h1|h2]:=TupsAt.get (i:=i) t (by simpa using e);erw[s,by simpa using h1,h2]
theorem Bd{ys:List V}(s:SameBut b H H')(h:H b=some (.lst ys)∨H b=none):∀a xs,H a=some (.tup xs)->H' a=some (.tup xs):=λa xs e=>s a _ (λz=>by
 rw[z]at e;rcases h with h | h
 . rw[h]at e;cases e
 . rw[h]at e;cases e) e
theorem wK{K:W.Frag}{H1:Hp}{a p:Addr}{s:List Int}{z:Int}{Q:VK}(ha:H1 a=some (.tup (s.map V.int)))(hp:H1 p=some (.tup [.int z]))(hl:s.length<=100)
 (q:∀t H2,Same H1 H2->H2 t=some (.tup ((s++[z]).map V.int))->Q (.ref t) H2):rCatT K (.ref a) (.ref p) H1 Q∨rCatT0 K (.ref a) (.ref p) H1 Q:=by
 cases s with
 | nil=>exact .inr %[a,p,0,1,zB0 ha,zB0 hp|q p H1 (Same.refl _) hp]
 | cons x r=>
   refine .inl %[a,p,2,zB0 ha,zB0 hp,by simp,cv (by simp at hl ⊢;omega),(λz=>nomatch z)|(λ_ t ht=>q t _ (zE0 ht _) ?_)];rw[am,zL0];rfl
inductive spSetts(vs:List V)(H:Hp)(Q:VK)(u_3:XK):Prop
 |mk:∀n:Int,vs=[.int n]->0<=n->n<=6->(∀(r:Addr)(H':Hp),H r=none->Same H H'->EA H' r (cF n.toNat)->Q (.ref r) H')->spSetts vs H Q u_3
theorem cS:FnScope ["n","told","switch","longer","setting"] ["n"] (aq hZ):=%[1,1,1,4,1,4|4]
theorem pN   (F:Fun K "all_settings" "all_settings" hZ f fd) (hrange:mg "range"=none):FnOk P w K mg base CX0 1 f fd ["n"] spSetts:=by
 exists cS
 erw[n,1,n0,n6,q]at h;refine⟨_,(ae #[ax,1,cS,ca %[aV ag|ag]]
  (ae (cI PassesOwn.never rfl (bX rfl hrange %[0|ag]) (bt (i:=2) cS.nd rfl (.inl rfl)) (ae #[ax,3,cS,ca ag]
   (ae (cI PassesOwn.never rfl (gI (pv 1)) (bt (i:=4) cS.nd rfl (.inl rfl)) (ae (ba (dw PySem.F.plainAttrs_list PySem.F.slot_list_append PySem.F.type_list_append cz (pv 3) %[az (op_catT.or mr) (pv 4) (aV %[aj|ag])|ag]))
    (ai (ba (dw PySem.F.plainAttrs_list PySem.F.slot_list_append PySem.F.type_list_append cz (pv 3) %[az (op_catT.or mr) (pv 4) (aV %[aj|ag])|ag])))))
   (ai #[ax,1,cS,pv 3]))))
  (ai (au (pv 1))))),?_⟩
 erw[(by show 0<=sizeLine;decide),λp hp=>?_];erw[(by show 1<=sizeLine;decide),λa ha=>?_];have np:p≠a:=λz=>by
  subst z;rw[am]at ha;cases ha
 have ha0:H a=none:=(zE0 hp _).free ha;refine⟨_,rfl,n,rfl,by omega,by omega,dq (λi σ H'=>∃(a:Addr)(x2 x3 x4:Option V),σ=[some (.int n),some (.ref a),x2,x3,x4]/\H a=none/\Same H H'/\EA H' a (cF i))
  %[a,_,_,0,ha0,(zE0 hp _).trans (zE0 ha _),[.ref p],am|.cons ⟨p,rfl,by rw[aG np,am];rfl⟩ .nil] ?_ ?_⟩
 . rintro i σ H' hi ⟨a,x2,x3,x4,rfl,a0,s0,rs,hrs,T⟩;have i6:i<6:=by omega
   have sl:=kD i;have s64:=oo (n:=i) #[0];erw[(by show 0<=sizeLine;decide),λb hb=>?_];have ab:a≠b:=aQ hrs hb;refine⟨_,rfl,a,rfl,%[_|zH0 (by rw[aG ab];exact hrs)],ku (K:=K) (xs:=rs) (λj σ H2=>∃(x4:Option V)(bs:List V),σ=[some (.int n),some (.ref a),some (.int (0+(i:Int))),some (.ref b),x4]/\SameBut b H' H2/\H2 b=some (.lst bs)/\TupsAt H2 bs (((cF i).take j).flatMap λs=>[s++[0],s++[1]]))
    %[_,[],1,SameBut.upd _,am|.nil] (λj σ H2 _ hst=>by erw[_,_,_,sb,_]at hst;exact zH0 (sb a _ ab hrs)) ?_ ?_⟩
   . rintro j y σ H2 hj ⟨x4,bs,rfl,sb,hbs,TB⟩;have T2:TupsAt H2 rs (cF i):=T.mono (Bd (ys:=[]) sb (.inr hb));let%[s,hs,t,1|ht]:=T2.get hj;have hsm:s∈cF i:=qH0 hs;have hsl:=fq i s hsm;have hbl:=TB.length;rw[oH,qK0]at hbl;erw[0,.inl %[1,_|zH0 hbs],6];erw[0,(by show 1<=sizeLine;decide),λp1 hp1=>?_];have S1:Same H2 (upd H2 p1 (.tup [.int 0])):=zE0 hp1 _;refine wK (s:=s) (z:=0) (S1 _ _ ht) am #[0] λt1 H3 S3 e3=>?_
     have S13:Same H2 H3:=S1.trans S3;erw[b,bs,0,1,S13 _ _ hbs,aS #[0],6];have K4:=gR (H:=H3) (b:=b) (ys:=bs) (zs:=bs++[.ref t1]) (S13 _ _ hbs);have e4:=K4 _ _ e3;have t4:=K4 _ _ (S13 _ _ ht);erw[0,.inl %[1,_|zH0 am],6];erw[0,(by show 1<=sizeLine;decide),λp2 hp2=>?_];have S4:Same (upd H3 b (.lst (bs++[.ref t1]))) (upd (upd H3 b (.lst (bs++[.ref t1]))) p2 (.tup [.int 1])):=zE0 hp2 _;refine wK (s:=s) (z:=1) (S4 _ _ t4) am #[0] λt2 H5 S5 e5=>?_
     have S45:=S4.trans S5;have hb5:H5 b=some (.lst (bs++[.ref t1])):=S45 _ _ am;erw[b,bs++[.ref t1],0,1,hb5,aS (by rw[zJ0,qG0];omega),6];have K6:=gR (H:=H5) (b:=b) (ys:=bs++[.ref t1]) (zs:=bs++[.ref t1]++[.ref t2]) hb5;erw[_,bs++[.ref t1]++[.ref t2],1,6,am,6]
     . have q1:SameBut b H' H3:=sb.trans (zK0 S13);have q2:SameBut b H' H5:=(q1.trans (SameBut.upd _)).trans (zK0 S45);exact q2.trans (SameBut.upd _)
     . have hbase:TupsAt (upd H5 b (.lst (bs++[.ref t1]++[.ref t2]))) bs (((cF i).take j).flatMap λs=>[s++[0],s++[1]]):=
        TB.mono λa xs e=>K6 _ _ (S45 _ _ (K4 _ _ (S13 _ _ e)))
       rw[qI0,hs,List.flatMap_append];have e:((some s).toList.flatMap λs:List Int=>[s++[0],s++[1]])=[s++[0]]++[s++[1]]:=by simp
       rw[e,←List.append_assoc];exact(hbase.snoc %[t1,1|K6 _ _ (S45 _ _ e4)]).snoc ⟨t2,rfl,K6 _ _ e5⟩
   . rintro σ H2 ⟨x4,bs,rfl,sb,hbs,TB⟩;have rl:=T.length;rw[rl,qF0]at TB;erw[0,b,_,_,0,s0.free hb,s0.but (s0.free hb) sb,bs,hbs,TB]
 . rintro σ H' ⟨a,x2,x3,x4,rfl,a0,s0,S⟩;erw[0,q a H' a0 s0 S]
def cnt(t:Tr)(ns:List Str):Nat:=((cF ns.length).filter λst=>t.holds ns st).length
inductive spCount(vs:List V)(H:Hp)(Q:VK)(u_3:XK):Prop
 |mk:∀(v:V)(t:Tr)(a:Addr)(ns:List Str),vs=[v,.ref a]->TreeAt H v t->t.ok ns->t.depth<=12->NamesAt H a ns->ns.length<=6->(∀H',Same H H'->Q (.int (cnt t ns:Int)) H')->spCount vs H Q u_3
theorem u7:FnScope ["tree","switches","holding"] ["tree","switches"] (aq lF):=%[1,1,1,4,1,4|4]
theorem vR   (F:Fun K "count_of" "count_of" lF f fd) (hlen:mg "len"=none) (c9:Cal P w K mg base 1 "all_settings" ["n"] spSetts) (fh:Cal P w K mg base 14 "holds_at" ["tree","switches","setting"] (spHolds 12)):FnOk P w K mg base CX0 15 f fd ["tree","switches"] spCount:=by
 exists u7
 erw[v,t,a,ns,1,T,ok,dp,hN,nl,q]at h;refine⟨_,(ae (uF (i:=2) (N:=["tree","switches"]) (ix:=[0,1]) u7.nd rfl (.inl rfl) rfl
  (CompScope.two (by rfl') ⋯ rfl ⋯ rfl ⋯ (by first | exact Or.inl rfl | exact Or.inr rfl) (by rfl') (by rfl') (by rfl') (by rfl') rfl rfl (by rfl') rfl rfl) rfl
  (gI (aB c9 hr ⋯ rfl %[aM aN rfl hlen PySem.boot_len %[1|ag]|ag]))
  (λ_ _ _=>pb_if (dY (aB fh hr ⋯ rfl %[1,2,0|ag])) (pv 0)))
  (ai (au (aM aN rfl hlen PySem.boot_len %[2|ag])))),?_⟩
 have en:((ns.map V.str).length:Int)=(ns.length:Int):=by rw[zF0]
 erw[0,a,0,hN.seq,0,3,3,λr H1 r0 S1 R1=>?_];rw[en]at R1;have e2:((ns.length:Int)).toNat=ns.length:=by omega
 rw[e2]at R1;erw[rs,hrs,TS]at R1;have rl:=TS.length;have sl:=kD ns.length;have s64:=oo nl;erw[r,1,%[_|zH0 hrs],λD hD=>?_];refine kW (K:=K) (xs:=rs) (λi H'=>∃ys,H' D=some (.lst ys)/\ys.length=(((cF ns.length).take i).filter λst=>t.holds ns st).length/\Same H1 H') %[[],am,1|zE0 hD _] (λi H' _ hst=>by erw[_,_,_,h]at hst;exact zH0 (h _ _ hrs)) ?_ ?_
 . rintro i x H2 hx ⟨ys,hl,yl,S2⟩;have hi:i<rs.length:=(zX0 hx).1;have TS2:=TS.mono (aZ S2);let%[st,hst,b,1|hb]:=TS2.get hx;have stl:=fq _ _ (qH0 hst);have S02:=S1.trans S2;have tk:((cF ns.length).take (i+1)).filter (λst=>t.holds ns st)=((cF ns.length).take i).filter (λst=>t.holds ns st)++[st].filter (λst=>t.holds ns st):=by
    rw[qI0,hst,List.filter_append];rfl
   erw[0,0,0,v,t,a,b,ns,st,1,T.mono (aZ S02),ok,dp,hN.same S02,hb,stl,0,6];cases c:t.holds ns st with
   | true=>
     refine dU ?_;erw[0,ys,hl,6,Nx.of hi %[_,am,6|λb' o e=>?_]]
     . have:=List.length_filter_le (λst=>t.holds ns st) ((cF ns.length).take i)
       rw[qK0]at this;exact aS #[0]
     . rw [tk,zJ0,zJ0,yl]
       simp [c]
     . rw[aG (aQ e hD)];exact S2 _ _ e
   | false=>
     refine cO ?_;refine Nx.of hi %[ys,hl,6|S2];rw[tk,zJ0,yl]
     simp [c]
 . rintro H2 ⟨ys,hl,yl,S2⟩;have e3:rs.length=(cF ns.length).length:=rl;rw[e3,qF0]at yl;erw[0,D,0,.inl (zH0 hl),6];rw[yl];exact q H2 (S1.trans S2)
inductive spCounts(C:Addr)(vs:List V)(H:Hp)(Q:VK)(u_3:XK):Prop
 |mk:∀(g a b d:Addr)(ns:List Str)(tv:List V)(ts:List Tr)(p:Int),vs=[.ref g]->GameAt C H g a b d p->H a=some (.tup (ns.map V.str))->ns.length<=6->H b=some (.tup tv)->TreesAt H tv ts->ts.length<=10->(∀t∈ts,t.ok ns/\t.depth<=12)->(∀(l:Addr)(H':Hp),H l=none->Same H H'->H' l=some (.lst ((ts.map λt=>(cnt t ns:Int)).map V.int))->Q (.ref l) H')->spCounts C vs H Q u_3
theorem tX:FnScope ["game"] ["game"] (aq kc):=%[1,1,1,4,1,4|4]
theorem uP   (F:Fun K "counts_of" "counts_of" kc f fd) (T:GTxt K mg C) (l8:Cal P w K mg base 15 "count_of" ["tree","switches"] spCount):FnOk P w K mg base CX0 16 f fd ["game"] (spCounts C):=by
 exists tX
 erw[g,a,b,d,ns,tv,ts,p,1,%[dx|hg],ha,nl,hb,TS,t10,tok,q]at h;refine⟨_,(ai (au (cM (N:=["game"]) (ix:=[0]) rfl
  (CompScope.one (by rfl') ⋯ rfl ⋯ rfl ⋯ (by rfl') (by rfl') (by rfl') rfl rfl) rfl
  (io (aD (pv 0) rfl)) (λ_ _ _=>db (aB l8 hr ⋯ rfl %[0,jz K (pv 1)|ag]))))),?_⟩
 have vl:=TS.length;erw[0,g,C,dx,_,0,hg,T.cl,T.nT,lp ..,b,1,%[_|zB0 hb],λD hD=>?_];refine fY (K:=K) (xs:=tv) (λi H'=>H' D=some (.lst (((ts.take i).map λt=>(cnt t ns:Int)).map V.int))/\Same H H') %[by rw[am];rfl|zE0 hD _] (λi H' _ h=>zB0 (h.2 _ _ hb)) ?_ ?_
 . rintro i z H2 hz ⟨hl,S2⟩;let%[t,ht|Tt]:=TS.get hz;let%[tk|td]:=tok t (qH0 ht);have hi:i<tv.length:=(zX0 hz).1;erw[0,0,g,C,dx,_,0,S2 _ _ hg,T.cl,T.nS,pq ..,z,t,a,ns,1,Tt.mono (aZ S2),tk,td,.inr (S2 _ _ ha),nl,λH3 S3=>?_];erw[_,S3 _ _ hl,6,Nx.of hi %[6|λb' o' e'=>?_]]
   . rw[zF0,zF0,qK0];exact aS #[0]
   . rw[am,qI0,ht,zL0,zL0];rfl
   . rw[aG (aQ e' hD)];exact S3 _ _ (S2 _ _ e')
 . rintro H2 ⟨hl,S2⟩;rw[vl,qF0]at hl;exact q D H2 hD S2 hl
def im(s:Int):List Int->Int
 | []=>0
 | a::r=>a+s*im s r
theorem mK(s p:Int):∀ns,hor s p ns=im s ns % p
 | []=>(Int.zero_emod p).symm
 | a::r=>by
   show(hor s p r*s+a) % p=(a+s*im s r) % p;rw[mK s p r,Int.add_emod,Int.mul_emod,Int.emod_emod,←Int.mul_emod,←Int.add_emod,Int.mul_comm,Int.add_comm]
theorem lS:∀(n:Nat)(s:List Int),s∈cF n->∀x∈s,x=0∨x=1
 | 0,s,h,x,hx=>by
   have:s=[]:=by simpa [cF]using h
   subst this;cases hx
 | n+1,s,h,x,hx=>by
   rw[cF,List.mem_flatMap]at h;erw[t,ht,hs]at h
   simp at hs
   rcases hs with rfl | rfl
   . rcases qM0 hx with h | h
     . exact lS n t ht x h
     . exact .inl (zS0 h)
   . rcases qM0 hx with h | h
     . exact lS n t ht x h
     . exact .inr (zS0 h)
theorem qe{K:W.Frag}{H1:Hp}{a b:Addr}{xs ys:List Int}{Q:VK}(ha:H1 a=some (.tup (xs.map V.int)))(hb:H1 b=some (.tup (ys.map V.int)))(hl:xs.length+ys.length<=100)
 (q:∀t H2,Same H1 H2->H2 t=some (.tup ((xs++ys).map V.int))->Q (.ref t) H2):rCatT K (.ref a) (.ref b) H1 Q∨rCatT0 K (.ref a) (.ref b) H1 Q:=by
 cases xs with
 | nil=>exact .inr %[a,b,0,1,zB0 ha,zB0 hb|q b H1 (Same.refl _) hb]
 | cons x r=>
   refine .inl %[a,b,2,zB0 ha,zB0 hb,by simp,cv (by simp at hl ⊢;omega),(λz=>?_)|(λ_ t ht=>q t _ (zE0 ht _) ?_)]
   . cases ys with
     | nil=>
       refine q a H1 (Same.refl _) ?_;rw[List.append_nil];exact ha
     | cons y r2=>exact nomatch z
   . rw[am,zL0]
def df(ns:List Str)(ts:List Tr)(s p:Int)(pt:List Int):Int:=((cF (ns.length-pt.length)).map λst=>im s (ts.map λt=>t.worth ns (pt++st) p)).sum % p
theorem yV{α:Type}(p:Int)(f:α->Int):∀l:List α,(l.map λx=>f x % p).sum % p=(l.map f).sum % p
 | []=>rfl
 | a::r=>by
   rw[zY0,zY0,List.sum_cons,List.sum_cons,Int.add_emod,Int.emod_emod,yV p f r,←Int.add_emod]
theorem yU{α:Type}{p:Int}(hp:0<p)(f:α->Int)(h:∀x,0<=f x/\f x<p):∀l:List α,0<=(l.map f).sum/\(l.map f).sum<=p*l.length
 | []=>%[Int.le_refl 0|by simp]
 | a::r=>by
   have h1:=h a;have h2:=yU hp f h r;rw[zY0,List.sum_cons,zO0];erw[3,6]
   have:p*((r.length+1:Nat):Int)=p*(r.length:Int)+p:=by
    rw[Int.natCast_add,Int.mul_add]
    simp
   omega
theorem vF(h:cj a p)(h2:cj b p):cj (a++b) p:=λx hx=>by
 rcases qM0 hx with e | e
 . exact h x e
 . exact h2 x e
theorem pt01{b:List Int}(h:cj a p)(p1:1<p)(h2:∀x∈b,x=0∨x=1):cj (a++b) p:=vF h λx hx=>by rcases h2 x hx with e | e <;> omega
theorem pV{X:Cx}(K:W.Frag)(hK:X.K=K:=by rfl):OpR X (binaryOp .Add) (λx y H Q=>rCatT K x y H Q∨rCatT0 K x y H Q):=by subst hK;exact op_catT.or mr
theorem wF{ts:List Tr}(h0:ts≠[]):0<=bN ts x:=by
 have:=kj (ns:=ts.map λt=>(t.names.count x:Int)) (by simpa using h0)
 let%[t,ht|e]:=List.mem_map.mp this;unfold bN;rw[←e];exact Int.natCast_nonneg _
def fb(ns:List Str)(ts:List Tr)(s p:Int)(cs:List Int)(n:Nat):List Int:=(List.range n).map λk:Nat=>df ns ts s p (cs++[(k:Int)])
theorem Hi{d:Int}{i:Nat}(hi:i<(d+1).toNat)(h:d<=500):((fb ns ts s p cs i).map V.int).length<sizeLine:=by
 unfold fb;rw[zF0,zF0,qR0];exact aS #[0]
theorem ptI{d:Int}{i:Nat}(h:cj a p)(hi:i<(d+1).toNat)(hd:d<p):cj (a++[(i:Int)]) p:=vF h λx hx=>by
 rw[zS0 hx];omega
theorem cat1{n k:Nat}(h:n<k)(h6:k<=6):n+([(0:Int)]:List Int).length<=100/\n+1<=k:=by
 rw[qG0];omega
theorem s64{n k:Nat}(h6:n<=6):(cF (n-(k+1))).length<=64:=by
 have s64:=kD (n-(k+1));have p64:=oo (n:=n-(k+1)) #[0];omega
theorem Hh{α:Type}{f:α->Int}{l:List α}{j:Nat}(h:l.length<=64):(((l.take j).map f).map V.int).length<sizeLine:=by
 rw[zF0,zF0,qK0];exact aS #[0]
theorem sum63{p x:Int}{n:Nat}(p0:0<p)(p40:p<2 ^ 40)(h:n<=64)(hx:x<=p*(n:Int)):x<2 ^ 63:=by
 have:p*(n:Int)<=p*64:=qX0 #[0] #[0]
 omega
theorem EK{K:W.Frag}{Q:VK}(h:IntsAt H c cs)(q:∀ah H1,Same H H1->H1 ah=some (.tup (cs.map V.int))->Q (.ref ah) H1):rTupOf K [.ref c] H Q:=by
 rcases h with h | h
 . erw[c,0,.inl %[zH0 h|λl hl=>q l _ (zE0 hl _) am]]
 . erw[c,0,.inr %[zB0 h|q c H (λ_ _ e=>e) h]]
inductive spTrue(C:Addr)(vs:List V)(H:Hp)(Q:VK)(u_3:XK):Prop
 |mk:∀(g a b d c:Addr)(ns:List Str)(tv:List V)(ts:List Tr)(cs:List Int)(x:Str)(s p:Int),vs=[.ref g,.int s,.ref c]->GameAt C H g a b d p->H a=some (.tup (ns.map V.str))->ns.length<=6->H b=some (.tup tv)->TreesAt H tv ts->ts≠[]->ts.length<=10->(∀t∈ts,t.ok ns/\t.depth<=10)->H d=some (.lst ((ns.map (bN ts)).map V.int))->IntsAt H c cs->ns[cs.length]?=some x->bN ts x<p->bN ts x<=500->cj cs p->1<p->p<2 ^ 40->(∀(l:Addr)(H':Hp),H l=none->Same H H'->H' l=some (.lst ((fb ns ts s p cs (bN ts x+1).toNat).map V.int))->Q (.ref l) H')->spTrue C vs H Q u_3
theorem eQ:FnScope ["game","s","coins","ahead","switch","behind","row","x","worths"] ["game","s","coins"] (aq lA):=%[1,1,1,4,1,4|4]
theorem vM   (F:Fun K "true_row" "true_row" lA f fd) (B:Bl mg) (T:GTxt K mg C) (mW:Meth K C "worth_at" fW) (GW:FnOk P w K mg base CX0 13 fW fdW ["self","point","s"] (spWAt C)) (bW:Binds K fdW ["self","point","s"] []) (c9:Cal P w K mg base 1 "all_settings" ["n"] spSetts):FnOk P w K mg base CX0 14 f fd ["game","s","coins"] (spTrue C):=by
 exists eQ
 erw[g,a,b,d,c,ns,tv,ts,cs,x,s,p,1,%[dx|hg],ha,nl,hb,TS,tne,t10,tok,hd,hc,hx,dp,d500,po,p1,p40,q]at h;refine⟨_,(ae (ax (i:=3) eQ.nd rfl (Or.inr rfl) (bh bi rfl B.tuple bj %[2|ag]))
  (ae #[ax,4,eQ,aM aN rfl B.len PySem.boot_len %[3|ag]]
  (ae #[ax,5,eQ,aB c9 hr ⋯ rfl %[az bO (az bO (aM aN rfl B.len PySem.boot_len %[aD (pv 0) rfl|ag]) (pv 4)) aj|ag]]
  (ae #[ax,6,eQ,ca ag]
  (ae (cI PassesOwn.never rfl (bX rfl B.range %[az aX (aP ix_list (aD (pv 0) rfl) (pv 4) (λ_ _=>rfl)) aj|ag]) (bt (i:=7) eQ.nd rfl (Or.inr rfl)) (ae (uF (i:=8) (N:=["x","s","game","ahead"]) (ix:=[7,1,0,3]) eQ.nd rfl (.inl rfl) rfl
   (CompScope.four (by rfl') ⋯ rfl ⋯ rfl ⋯ rfl (by rfl') (by rfl') (by rfl') (by rfl') (by rfl') (by rfl') rfl rfl (by rfl') rfl rfl (by rfl') rfl rfl (by rfl') rfl rfl) rfl
   (gI (pv 5)) (λ_ _ _=>db (bY (pv 3) T.cl mW GW hr bW .nil bc %[az (pV K) (az (pV K) (pv 4) (aV %[1|ag])) (pv 0),2|ag])))
   (ai (ba (dw PySem.F.plainAttrs_list PySem.F.slot_list_append PySem.F.type_list_append cz (pv 6) %[az bd (aM (rV rfl) rfl B.sum PyProof.Rows.boot_sum %[8|ag]) (aD (pv 0) rfl)|ag])))))
  (ai (au (pv 6)))))))),?_⟩
 have kl:cs.length<ns.length:=(zX0 hx).1;have d0:=wF (x:=x) tne;have p0:0<p:=Int.lt_trans Int.zero_lt_one p1;erw[0,EK hc λah H1 G1 hah1=>?_];erw[0,ah,0,.inr (zB0 hah1),6];erw[0,g,C,dx,_,0,G1 _ _ hg,T.cl,T.nS,pq ..,a,0,.inr (zB0 (G1 _ _ ha)),0,2,2,0,by rw[zF0,zF0];omega,by rw[zF0,zF0];omega,λr H2 r0 S2 R2=>?_];have en:((((ns.map V.str).length:Nat):Int)-(((cs.map V.int).length:Nat):Int)-1).toNat=ns.length-(cs.length+1):=by rw[zF0,zF0];omega
 rw[en]at R2;erw[rs,hrs,TB]at R2;have rl:=TB.length;erw[(by show 0<=sizeLine;decide),λL hL=>?_];have S02:=G1.trans S2;have GL:=zE0 hL (.lst []);have S03:=S02.trans GL;have L0:H L=none:=S02.free hL;have e1:(((cs.map V.int).length:Nat):Int)=(cs.length:Int):=by rw[zF0]
 erw[0,g,C,dx,_,0,S03 _ _ hg,T.cl,T.nD,Ea ..,0,d,_,_,.int (bN ts x),1,1,zH0 (S03 _ _ hd),6,2,0,3,3,dq (λi σ H'=>∃x7 x8:Option V,σ=[some (.ref g),some (.int s),some (.ref c),some (.ref ah),some (.int (((cs.map V.int).length:Nat):Int)),some (.ref r),some (.ref L),x7,x8]/\H' L=some (.lst ((fb ns ts s p cs i).map V.int))/\SameBut L H2 H') %[_,0,by rw[am];rfl|SameBut.upd _] ?_ ?_]
 . rw[e1];refine cE ?_;rw[zZ0,zZ0,hx];rfl
 . rintro i σ H4 hi ⟨x7,x8,rfl,hL4,S4⟩;have gL:g≠L:=aQ (S02 _ _ hg) hL;have rL:r≠L:=aQ hrs hL;have kT:cg H2 H4:=λc xs h=>S4 c _ (aQ h hL) h
   have hg4:=S4 g _ gL (S02 _ _ hg);have hrs4:=S4 r _ rL hrs;have ha4:=kT _ _ (S02 _ _ ha);have hb4:=kT _ _ (S02 _ _ hb);have hah4:=kT _ _ (S2 _ _ hah1);have TS4:=(TS.mono (aZ S02)).mono kT;have TB4:=TB.mono kT;erw[0,r,1,%[_|zH0 hrs4],λD hD=>?_];refine kW (K:=K) (xs:=rs) (λj H'=>H' D=some (.lst ((((cF (ns.length-(cs.length+1))).take j).map λst=>hor s p (ts.map λt=>t.worth ns (cs++[(i:Int)]++st) p)).map V.int))/\Same H4 H') %[by rw[am];rfl|zE0 hD _] (λj H' _ h=>zH0 (h.2 _ _ hrs4)) ?_ ?_
   . rintro j z H5 hz ⟨hD5,S5⟩;let%[st,hst,y,1|hy]:=(TB4.mono (aZ S5)).get hz;have stm:=qH0 hst;have stl:=fq _ _ stm;have s01:=lS _ _ stm;have hj:j<rs.length:=(zX0 hz).1;have po2:cj (cs++[(i:Int)]++st) p:=pt01 (ptI po hi dp) p1 s01;have pl2:(cs++[(i:Int)]++st).length=ns.length:=by rw[zJ0,zJ0,qG0];omega
     erw[0,g,dx,0,S5 _ _ hg4,pw _ _ _ _ ⋯ ⋯ ⋯ ⋯,6];erw[0,0,(by show 1<=sizeLine;decide),λu hu=>?_];have Gu:=zE0 hu (.tup [.int (0+(i:Int))]);have hu6:upd H5 u (.tup [.int (0+(i:Int))]) u=some (.tup ([(i:Int)].map V.int)):=by rw[am,Int.zero_add];rfl
     generalize upd H5 u (.tup [.int (0+(i:Int))])=H6 at Gu hu6;refine qe (Gu _ _ (S5 _ _ hah4)) hu6 (cat1 kl nl).1 λt1 H7 S7 h7=>?_
     erw[0,6];have S57:=Gu.trans S7;refine qe h7 (S57 _ _ hy) (by rw[zJ0,qG0];omega) λt2 H8 S8 h8=>?_
     have S48:=S5.trans (S57.trans S8);erw[0,g,a,b,d,t2,ns,tv,ts,_,s,p,1,%[dx|S48 _ _ hg4],p1,p40,S48 _ _ ha4,S48 _ _ hb4,TS4.mono (aZ S48),t10,tok,h8,pl2,po2,λH9 S9=>?_];erw[_,S9 _ _ ((S57.trans S8) _ _ hD5),6,Nx.of hj %[6|λb' o' e'=>?_]]
     . exact Hh (s64 nl)
     . rw[am,qI0,hst,zL0,zL0];rfl
     . rw[aG (aQ e' hD)];exact S9 _ _ (S48 _ _ e')
   rintro H5 ⟨hD5,S5⟩;rw[rl,qF0]at hD5;have hor_r:=λst:List Int=>qb (s:=s) (p:=p) p0 (ts.map λt=>t.worth ns (cs++[(i:Int)]++st) p)
   have sr:=yU (p:=p) p0 (λst:List Int=>hor s p (ts.map λt=>t.worth ns (cs++[(i:Int)]++st) p)) hor_r (cF (ns.length-(cs.length+1)));have hL5:=S5 _ _ hL4;erw[0,.inl %[1,_|zH0 hL5],0,D,0,zH0 hD5,6,6,6]
   . intro n hn;let%[st,_|1]:=List.mem_map.mp hn;exact(hor_r st).1
   . exact sum63 p0 p40 (s64 nl) sr.2
   erw[0,g,C,dx,_,0,S5 _ _ hg4,T.cl,T.nF,fc ..,2,p0,L,2,hL5,6,6]
   . exact Hi hi d500
   . erw[_,0,6,λc o hc e=>?_]
     . rw [am];unfold fb;rw[List.range_succ,zL0,zL0];have e2:((cF (ns.length-(cs.length+1))).map λst=>hor s p (ts.map λt=>t.worth ns (cs++[(i:Int)]++st) p)).sum % p=df ns ts s p (cs++[(i:Int)]):=by
        unfold df;rw[zJ0,qG0,show(λst:List Int=>hor s p (ts.map λt=>t.worth ns (cs++[(i:Int)]++st) p))=λst=>im s (ts.map λt=>t.worth ns (cs++[(i:Int)]++st) p) % p from funext λst=>mK _ _ _];exact yV p (λst:List Int=>im s (ts.map λt=>t.worth ns (cs++[(i:Int)]++st) p)) _
       show some (HO.lst (_++[V.int (((cF (ns.length-(cs.length+1))).map λst=>hor s p (ts.map λt=>t.worth ns (cs++[(i:Int)]++st) p)).sum % p)]))=_;rw[e2];rfl
     . rw[aG hc];exact S5 _ _ (S4 c o hc e)
 . rintro σ H4 ⟨x7,x8,rfl,hL4,S4⟩;erw[0,q L H4 L0 (S02.but L0 S4) hL4]
theorem neS{a b:Str}(h:¬ a=b):¬ V.str a=V.str b:=λz=>h (V.str.inj z)
open Classical in
noncomputable def HQ(p a:Int):Int:=if h:∃g:Int,0<g/\g<p/\g*a % p=1 then h.choose else 0
theorem DV{p a g k:Int}(g0:0<g)(g1:g<p)(hg:g*a % p=1)(k0:0<k)(k1:k<p)(hk:k*a % p=1):g=k:=by
 have e1:g*(k*a) % p=g:=by
  rw[Int.mul_emod,hk,Int.mul_one,Int.emod_emod,qT0 #[0] g1]
 have e2:k*(g*a) % p=k:=by
  rw[Int.mul_emod,hg,Int.mul_one,Int.emod_emod,qT0 #[0] k1]
 have e3:g*(k*a) % p=k*(g*a) % p:=by rw[Int.mul_left_comm]
 exact e1.symm.trans (e3.trans e2)
theorem FN{p a g:Int}(g0:0<g)(g1:g<p)(hg:g*a % p=1):HQ p a=g:=by
 have h:∃g:Int,0<g/\g<p/\g*a % p=1:=%[g,g0,g1|hg]
 unfold HQ;rw[dif_pos h];erw[k0,k1,hk]at h.choose_spec;exact DV k0 k1 hk g0 g1 hg
noncomputable def yI(p x y:Int):Int:=if y=0 then 0 else x*HQ p y % p
noncomputable def opV(p:Int)(s:Str)(x y:Int):Int:=
 if s="+" then(x+y) % p else if s="-" then(x-y) % p else if s="*" then x*y % p else if s="/" then yI p x y else if s="=" then(if x=y then 1 else 0)else if x<y then 1 else 0
theorem Eo{p:Int}(hp:0<p):0<=yI p x y/\yI p x y<p:=by
 unfold yI
 split
 . omega
 . erw[qC0 _ #[0],qE0 _ hp]
theorem Fr{p:Int}(hp:1<p):0<=opV p s x y/\opV p s x y<p:=by
 have m:∀z:Int,0<=z % p/\z % p<p:=λz=>%[qC0 _ #[0]|qE0 _ #[0]]
 unfold opV
 split
 . exact m _
 . split
   . exact m _
   . split
     . exact m _
     . split
       . exact Eo #[0]
       . split <;> split <;> omega
inductive spDiv(vs:List V)(H:Hp)(Q:VK)(u_3:XK):Prop
 |mk:∀(x y p:Int),vs=[.int x,.int y,.int p]->Pr p->p<=999983->0<=x->x<p->0<=y->y<p->Q (.int (yI p x y)) H->spDiv vs H Q u_3
theorem xD:FnScope ["first","second","p"] ["first","second","p"] (aq oi):=%[1,1,1,4,1,4|4]
theorem ye   (F:Fun K "divided" "divided" oi f fd) (eT:Cal P w K mg base 1 "inverse_of" ["a","p"] spInv):FnOk P w K mg base CX0 2 f fd ["first","second","p"] spDiv:=by
 exists xD
 erw[x,y,p,1,pp,p9,x0,x1,y0,y1,q]at h;refine⟨_,(ae (aO (ao aW (pv 1) aj (aE _)) (ai (au aj)) aF)
  (ai (au (az bd (az cw (pv 0) (aB eT hr ⋯ rfl %[1,2|ag])) (pv 2))))),?_⟩
 unfold yI at q;erw[0,1,0,6]
 by_cases c:y=0
 . rw[zC0 c]at q;exact bb (congrArg V.int c) q
 . rw[zA0 c]at q;refine aI (λz=>c (V.int.inj z)) ?_;erw[0,0,0,y,p,1,pp,p9,3,y1,λg g0 g1 hg=>?_];rw[FN g0 g1 hg]at q;erw[2,.inl %[3|3],0,2,(by show 0<p;omega),q]
def signW:List Str:=["+","-","*","/","=","<"]
inductive spOp(vs:List V)(H:Hp)(Q:VK)(u_3:XK):Prop
 |mk:∀(s:Str)(x y p:Int),vs=[.str s,.int x,.int y,.int p]->s∈signW->Pr p->p<=999983->0<=x->x<p->0<=y->y<p->Q (.int (opV p s x y)) H->spOp vs H Q u_3
theorem vz:FnScope ["sign","first","second","p"] ["sign","first","second","p"] (aq lD):=%[1,1,1,4,1,4|4]
theorem opV_1 :opV p "+" x y=(x+y) % p:=zC0 rfl
theorem opV_2 :opV p "-" x y=(x-y) % p:=by unfold opV;rw[zA0 ⋯,zC0 rfl]
theorem opV_3 :opV p "*" x y=x*y % p:=by unfold opV;rw[zA0 ⋯,zA0 ⋯,zC0 rfl]
theorem opV_4 :opV p "/" x y=yI p x y:=by unfold opV;rw[zA0 ⋯,zA0 ⋯,zA0 ⋯,zC0 rfl]
theorem opV_5 :opV p "=" x y=if x=y then 1 else 0:=by unfold opV;rw[zA0 ⋯,zA0 ⋯,zA0 ⋯,zA0 ⋯,zC0 rfl]
theorem opV_6 :opV p "<" x y=if x<y then 1 else 0:=by unfold opV;rw[zA0 ⋯,zA0 ⋯,zA0 ⋯,zA0 ⋯,zA0 ⋯]
theorem vP   (F:Fun K "op_value" "op_value" lD f fd) (o7:Cal P w K mg base 2 "divided" ["first","second","p"] spDiv):FnOk P w K mg base CX0 3 f fd ["sign","first","second","p"] spOp:=by
 exists vz
 erw[s,x,y,p,1,hs,pp,p9,x0,x1,y0,y1,q]at h;have p0:0<p:=by omega
 refine⟨_,(ae (aO (ao aW (pv 0) aJ (aE _)) (ai (au (az bd (az aX (pv 1) (pv 2)) (pv 3)))) aF)
  (ae (aO (ao aW (pv 0) aJ (aE _)) (ai (au (az bd (az bO (pv 1) (pv 2)) (pv 3)))) aF)
  (ae (aO (ao aW (pv 0) aJ (aE _)) (ai (au (az bd (az cw (pv 1) (pv 2)) (pv 3)))) aF)
  (ae (aO (ao aW (pv 0) aJ (aE _)) (ai (au (aB o7 hr ⋯ rfl %[1,2,3|ag]))) aF)
  (ae (aO (ao aW (pv 0) aJ (aE _)) (ai (au (vJ (ao aW (pv 1) (pv 2) (aE _)) aj aj))) aF)
  (ai (au (vJ (ao eO (pv 1) (pv 2) (aE _)) aj aj)))))))),?_⟩
 have hs':s="+"∨s="-"∨s="*"∨s="/"∨s="="∨s="<":=by simpa [signW]using hs
 rcases hs' with rfl | rfl | rfl | rfl | rfl | rfl
 . rw[opV_1]at q;erw[0,1,0,bb rfl ?_];erw[0,0,2,0,2,p0,q]
 . rw[opV_2]at q;erw[0,1,0,aI (neS ⋯) ?_];erw[0,1,0,bb rfl ?_];erw[0,0,2,0,2,p0,q]
 . rw[opV_3]at q;erw[0,1,0,aI (neS ⋯) ?_];erw[0,1,0,aI (neS ⋯) ?_];erw[0,1,0,bb rfl ?_];erw[0,0,2,.inl %[3|3],0,2,p0,q]
 . rw[opV_4]at q;erw[0,1,0,aI (neS ⋯) ?_];erw[0,1,0,aI (neS ⋯) ?_];erw[0,1,0,aI (neS ⋯) ?_];erw[0,1,0,bb rfl ?_];erw[0,0,0,x,y,p,1,pp,p9,x0,x1,y0,y1,q]
 . rw [opV_5]at q;erw[0,1,0,aI (neS ⋯) ?_];erw[0,1,0,aI (neS ⋯) ?_];erw[0,1,0,aI (neS ⋯) ?_];erw[0,1,0,aI (neS ⋯) ?_];erw[0,1,0,bb rfl ?_];erw[0,0,1,0,6]
   by_cases c:x=y
   . rw[zC0 c]at q;exact bb (congrArg V.int c) q
   . rw[zA0 c]at q;exact aI (λz=>c (V.int.inj z)) q
 . rw [opV_6]at q;erw[0,1,0,aI (neS ⋯) ?_];erw[0,1,0,aI (neS ⋯) ?_];erw[0,1,0,aI (neS ⋯) ?_];erw[0,1,0,aI (neS ⋯) ?_];erw[0,1,0,aI (neS ⋯) ?_];erw[0,0,2,0,6]
   by_cases c:x<y
   . rw[zC0 c]at q;exact bb c q
   . rw[zA0 c]at q;exact aI c q
theorem jx{t':TS}(h:PSs X ss t)(hw:∀D σ H,t' D σ H->t D σ H):PSs X ss t':=λpins s σ H D I k=>h pins s σ H D I (hw _ _ _ k)
inductive Tm where
 | num (n:Int) | box (x:Str) | plain (w:Str) | ask (w:Str) (a:Tm) | op (s:Str) (a b:Tm)
def Tm.size:Tm->Nat
 | .num _=>1 | .box _=>1 | .plain _=>1 | .ask _ a=>a.size+1 | .op _ a b=>a.size+b.size+1
def Tm.depth:Tm->Nat
 | .num _=>1 | .box _=>1 | .plain _=>1 | .ask _ a=>a.depth+1 | .op _ a b=>max a.depth b.depth+1
theorem Tm.depth_pos:∀t:Tm,1<=t.depth
 | .num _=>zG0 _ | .box _=>zG0 _ | .plain _=>zG0 _ | .ask _ a=>Nat.le_add_left .. | .op _ a b=>Nat.le_add_left ..
theorem Tm.size_pos:∀t:Tm,1<=t.size
 | .num _=>zG0 _ | .box _=>zG0 _ | .plain _=>zG0 _ | .ask _ a=>Nat.le_add_left .. | .op _ a b=>Nat.le_add_left ..
def plainW:List Str:=["round","due","asked"]
def askW:List Str:=["coin","true"]
inductive TmAt(H:Hp):V->Tm->Prop
 | num {a:Addr} {n:Int}:H a=some (.tup [.str "num",.int n])->TmAt H (.ref a) (.num n)
 | box {a:Addr} {x:Str}:H a=some (.tup [.str "box",.str x])->TmAt H (.ref a) (.box x)
 | plain {a:Addr} {w:Str}:H a=some (.tup [.str w])->TmAt H (.ref a) (.plain w)
 | ask {a:Addr} {w:Str} {v:V} {t:Tm}:H a=some (.tup [.str w,v])->TmAt H v t->TmAt H (.ref a) (.ask w t)
 | op {a:Addr} {s:Str} {v u:V} {t r:Tm}:H a=some (.tup [.str "op",.str s,v,u])->TmAt H v t->TmAt H u r->TmAt H (.ref a) (.op s t r)
theorem TmAt.mono(k:cg H H')(h:TmAt H v t):TmAt H' v t:=by
 induction h with
 | num e=>exact .num (k _ _ e)
 | box e=>exact .box (k _ _ e)
 | plain e=>exact .plain (k _ _ e)
 | ask e _ ih=>exact .ask (k _ _ e) ih
 | op e _ _ i1 i2=>exact .op (k _ _ e) i1 i2
inductive Hr where
 | fin | go (n:Int) | iff (t:Tm) (n:Int) | set (x:Str) (t:Tm) | say (t:Tm)
inductive HrAt(H:Hp):V->Hr->Prop
 | fin {a:Addr}:H a=some (.tup [.str "end"])->HrAt H (.ref a) .fin
 | go {a:Addr} {n:Int}:H a=some (.tup [.str "go",.int n])->HrAt H (.ref a) (.go n)
 | iff {a:Addr} {v:V} {t:Tm} {n:Int}:H a=some (.tup [.str "if",v,.int n])->TmAt H v t->HrAt H (.ref a) (.iff t n)
 | set {a:Addr} {x:Str} {v:V} {t:Tm}:H a=some (.tup [.str "set",.str x,v])->TmAt H v t->HrAt H (.ref a) (.set x t)
 | say {a:Addr} {v:V} {t:Tm}:H a=some (.tup [.str "say",v])->TmAt H v t->HrAt H (.ref a) (.say t)
theorem HrAt.mono(k:cg H H')(h:HrAt H v r):HrAt H' v r:=by
 cases h with
 | fin e=>exact .fin (k _ _ e)
 | go e=>exact .go (k _ _ e)
 | iff e t=>exact .iff (k _ _ e) (t.mono k)
 | set e t=>exact .set (k _ _ e) (t.mono k)
 | say e t=>exact .say (k _ _ e) (t.mono k)
section
variable {CM CA CG:Addr}
abbrev ux:Stmt:=bp kg 0
abbrev qM:Stmt:=bp kg 1
abbrev uy:Stmt:=bp kg 2
abbrev om:Stmt:=bp kg 3
abbrev uu:Stmt:=bp kg 4
abbrev ui:Stmt:=bp kH 0
abbrev xG:Stmt:=bp kH 1
abbrev xH:Stmt:=bp kH 2
def al (g:Addr) (nr mn hd s:Int) (aT:Addr) (tr:V):List (Str×V):=[("game",.ref g),("number",.int nr),("many",.int mn),("held",.int hd),("s",.int s),("tossed",.ref aT),("truths",tr)]
theorem vj    :(al g nr mn hd s aT tr).lookup ("game":Str)=some (.ref g):=by rfl'
structure ATxt(K:W.Frag)(mg:Str->Option Value)(C:Addr):Prop where
 cl:Cls K C
 nG:NoAttr K C "game"
 nN:NoAttr K C "number"
 nM:NoAttr K C "many"
 nH:NoAttr K C "held"
 nS:NoAttr K C "s"
 nT:NoAttr K C "tossed"
 nR:NoAttr K C "truths"
 mgC:mg "Asking"=some (.ref C)
def ml (g h:Addr) (r:Int) (b:Addr):List (Str×V):=[("game",.ref g),("helper",.ref h),("next_round",.int r),("boxes",.ref b)]
section
variable {g h b:Addr} {r:Int}
theorem ml_g:(ml g h r b).lookup ("game":Str)=some (.ref g):=by rfl'
theorem FF:(ml g h r b).lookup ("helper":Str)=some (.ref h):=by rfl'
theorem HG:(ml g h r b).lookup ("next_round":Str)=some (.int r):=by rfl'
theorem DH:(ml g h r b).lookup ("boxes":Str)=some (.ref b):=by rfl'
theorem ml_n1:(ml g h r b).lookup ("do_row":Str)=none:=by rfl'
theorem ml_n2:(ml g h r b).lookup ("say":Str)=none:=by rfl'
theorem yq:(ml g h r b).length<1000:=by show 4<1000;decide
theorem DG {v:Int}:bL "next_round" (.int v) (ml g h r b)=ml g h v b:=by rfl'
end
structure MTxt(K:W.Frag)(mg:Str->Option Value)(C:Addr):Prop where
 cl:Cls K C
 nG:NoAttr K C "game"
 nH:NoAttr K C "helper"
 nR:NoAttr K C "next_round"
 nB:NoAttr K C "boxes"
 mgC:mg "Machine"=some (.ref C)
def BxAt(H:Hp)(b:Addr)(bx:Str->Int)(m:Nat):Prop:=∃kvs:List (Key×V),H b=some (.dK kvs)/\kvs.length<=m/\∀x:Str,(gV kvs (.inr x)).getD (.int 0)=.int (bx x)
def jN(bx:Str->Int)(x:Str)(n:Int):Str->Int:=λy=>if y=x then n else bx y
theorem BxAt.keep{H':Hp}(h:BxAt H b bx m)(k:∀o,H b=some o->H' b=some o):BxAt H' b bx m:=by
 erw[kvs,e,r]at h;erw[kvs,k _ e,r]
theorem Iu{kvs:List (Key×V)}{bx:Str->Int}(x:Str)(n:Int)(h:∀x:Str,(gV kvs (.inr x)).getD (.int 0)=.int (bx x)):∀y:Str,(gV (mh kvs (.inr x) (.int n)) (.inr y)).getD (.int 0)=.int (jN bx x n y):=λy=>by
 rw[BL];unfold jN
 by_cases c:y=x
 . rw[zC0 (by rw[c]),zC0 c];rfl
 . rw[zA0 (λz=>c (Sum.inr.inj z)),zA0 c];exact h y
section
variable {g aT:Addr} {nr mn hd s:Int} {tr:V}
theorem Iz:(al g nr mn hd s aT tr).lookup ("number":Str)=some (.int nr):=by rfl'
theorem al_m:(al g nr mn hd s aT tr).lookup ("many":Str)=some (.int mn):=by rfl'
theorem al_h:(al g nr mn hd s aT tr).lookup ("held":Str)=some (.int hd):=by rfl'
theorem al_s:(al g nr mn hd s aT tr).lookup ("s":Str)=some (.int s):=by rfl'
theorem al_t:(al g nr mn hd s aT tr).lookup ("tossed":Str)=some (.ref aT):=by rfl'
theorem Gc:(al g nr mn hd s aT tr).lookup ("truths":Str)=some tr:=by rfl'
theorem al_n1:(al g nr mn hd s aT tr).lookup ("plain_value":Str)=none:=by rfl'
theorem al_n2:(al g nr mn hd s aT tr).lookup ("coin_at":Str)=none:=by rfl'
theorem al_n3:(al g nr mn hd s aT tr).lookup ("true_numbers":Str)=none:=by rfl'
theorem al_n4:(al g nr mn hd s aT tr).lookup ("true_at":Str)=none:=by rfl'
theorem Ey :bL "truths" v (al g nr mn hd s aT tr)=al g nr mn hd s aT v:=by rfl'
theorem Ez:(al g nr mn hd s aT tr).length<1000:=by show 7<1000;decide
end
structure Ak where
 ns:List Str
 ts:List Tr
 p:Int
 nr:Int
 mn:Int
 hd:Int
 s:Int
 to:List Int
def Ak.tru (z:Ak):List Int:=if z.nr=0 then z.ts.map (λt=>(cnt t z.ns:Int))else fb z.ns z.ts z.s z.p z.to (bN z.ts (z.ns.getD z.to.length "")+1).toNat
structure AkOk(z:Ak):Prop where
 gk:GmK z.ns z.ts z.p
 n6:z.ns.length<=6
 nr0:0<=z.nr
 nrt:0<z.nr->z.to.length<z.ns.length
 po:cj z.to z.p
 s0:0<=z.s
 s1:z.s<z.p
 h0:0<=z.hd
 h1:z.hd<z.p
 tl:z.to.length<=100
def AkAt(CA CG:Addr)(H:Hp)(k g v:Addr)(z:Ak):Prop:=∃(dk aT a b d:Addr)(tv:List V)(tr:V),H k=some (.ins CA dk (al g z.nr z.mn z.hd z.s aT tr))/\GameAt CG H g a b d z.p/\H a=some (.tup (z.ns.map V.str))/\H b=some (.tup tv)/\TreesAt H tv z.ts/\H d=some (.lst ((z.ns.map (bN z.ts)).map V.int))/\d≠v/\H aT=some (.tup (z.to.map V.int))/\(tr=.non∨∃l,tr=.ref l/\l≠v/\H l=some (.lst (z.tru.map V.int)))
theorem AkAt.same(h:AkAt CA CG H k g v z)(s:Same H H'):AkAt CA CG H' k g v z:=by
 erw[dk,aT,a,b,d,tv,tr,h1,h2,h3,h4,h5,h6,h7,h8,h9]at h;erw[dk,aT,a,b,d,tv,tr,s _ _ h1,h2.same s,s _ _ h3,s _ _ h4,h5.mono (aZ s),s _ _ h6,h7,s _ _ h8,h9.imp_right fun⟨l,e,n,r⟩=>%[l,e,n|s _ _ r]]
theorem AkAt.but2{H':Hp}{b:Addr}{kvs:List (Key×V)}{ys:List V}(h:AkAt CA CG H k g v z)(hb:H b=some (.dK kvs))(hv:H v=some (.lst ys))(s:∀a o,a≠b->a≠v->H a=some o->H' a=some o):AkAt CA CG H' k g v z:=by
 erw[dk,aT,a,b',d,tv,tr,h1,%[dg|h2],h3,h4,h5,h6,h7,h8,h9]at h;have T:cg H H':=λc xs e=>s _ _ (bu e hb (by intro z;cases z)) (bu e hv (by intro z;cases z)) e
 erw[dk,aT,a,b',d,tv,tr,s _ _ (bu h1 hb (by intro z;cases z)) (bu h1 hv (by intro z;cases z)) h1,%[dg|s _ _ (bu h2 hb (by intro z;cases z)) (bu h2 hv (by intro z;cases z)) h2],T _ _ h3,T _ _ h4,h5.mono T,s _ _ (bu h6 hb (by intro z;cases z)) h7 h6,h7,T _ _ h8,h9.imp_right fun⟨l,e,n,r⟩=>%[l,e,n|s _ _ (bu r hb (by intro z;cases z)) n r]]
def lq(z:Ak):List Int:=if 1<z.ts.length then z.s::z.to else z.to
def kx(z:Ak)(i:Int):Int:=if 1<=i/\i<=((lq z).length:Int)then(lq z).getD (i-1).toNat 0 else 0
def fO(z:Ak)(i:Int):Int:=if 0<z.nr then val z.p z.tru i else if i<(z.tru.length:Int)then z.tru.getD i.toNat 0 % z.p else 0
def ot (z:Ak) (w:Str):Int:=if w="round" then z.nr % z.p else if w="asked" then z.mn % z.p else z.hd
theorem AkOk.p0(k:AkOk z):2<z.p:=k.gk.p2
theorem mN(h:cj xs p)(p0:0<p)(i:Nat):0<=xs.getD i 0/\xs.getD i 0<p:=by
 rw[qL0];cases e:xs[i]? with
 | none=>erw[Int.le_refl 0,p0]
 | some x=>exact h x (qH0 e)
theorem Ev(k:AkOk z):cj (lq z) z.p:=by
 unfold lq
 split
 . intro x hx;rcases zW0 hx with rfl | hx
   . erw[k.s0,k.s1]
   . exact k.po x hx
 . exact k.po
theorem Bz(k:AkOk z)(i:Int):0<=kx z i/\kx z i<z.p:=by
 have:=k.p0
 unfold kx
 split
 . exact mN (Ev k) #[0] _
 . omega
theorem zY(k:AkOk z)(i:Int):0<=fO z i/\fO z i<z.p:=by
 have:=k.p0
 unfold fO
 split
 . erw[qC0 _ #[0],qE0 _ #[0]]
 . split
   . erw[qC0 _ #[0],qE0 _ #[0]]
   . omega
theorem xR(k:AkOk z)(w:Str):0<=ot z w/\ot z w<z.p:=by
 have:=k.p0
 unfold ot
 split
 . erw[qC0 _ #[0],qE0 _ #[0]]
 . split
   . erw[qC0 _ #[0],qE0 _ #[0]]
   . erw[k.h0,k.h1]
inductive spPlain(CA CG:Addr)(vs:List V)(H:Hp)(Q:VK)(u_3:XK):Prop
 |mk:∀(k g v:Addr)(z:Ak)(w:Str),vs=[.ref k,.str w]->AkAt CA CG H k g v z->0<z.p->Q (.int (ot z w)) H->spPlain CA CG vs H Q u_3
theorem Aq:FnScope ["self","word"] ["self","word"] (aq qM):=%[1,1,1,4,1,4|4]
theorem AQ   (F:Fun K "plain_value" "Asking.plain_value" qM f fd) (TA:ATxt K mg CA) (TG:GTxt K mg CG):FnOk P w K mg base CX0 1 f fd ["self","word"] (spPlain CA CG):=by
 exists Aq
 erw[k,g,v,z,w,1,%[dk,aT,a,b,d,tv,tr,hk,%[dg|hg]|_],p0,q]at h;refine⟨_,(ae (aO (ao aW (pv 1) aJ (aE _)) (ai (au (az bd (aD (pv 0) rfl) (aD (aD (pv 0) rfl) rfl)))) aF)
  (ae (aO (ao aW (pv 1) aJ (aE _)) (ai (au (az bd (aD (pv 0) rfl) (aD (aD (pv 0) rfl) rfl)))) aF)
  (ai (au (aD (pv 0) rfl))))),?_⟩
 unfold ot at q;erw[0,1,0,6]
 by_cases c:w="round"
 . rw[zC0 c]at q;refine bb (congrArg V.str c) ?_;erw[0,k,CA,dk,_,0,hk,TA.cl,TA.nN,Iz,0,k,CA,dk,_,0,hk,TA.cl,TA.nG,vj,g,CG,dg,_,0,hg,TG.cl,TG.nF,fc ..,2,p0,q]
 . rw [zA0 c]at q;refine aI (neS c) ?_;erw[0,1,0,6]
   by_cases c:w="asked"
   . rw[zC0 c]at q;refine bb (congrArg V.str c) ?_;erw[0,k,CA,dk,_,0,hk,TA.cl,TA.nM,al_m,0,k,CA,dk,_,0,hk,TA.cl,TA.nG,vj,g,CG,dg,_,0,hg,TG.cl,TG.nF,fc ..,2,p0,q]
   . rw[zA0 c]at q;refine aI (neS c) ?_;erw[0,k,CA,dk,_,0,hk,TA.cl,TA.nH,al_h,q]
inductive spCoinAt(CA CG:Addr)(vs:List V)(H:Hp)(Q:VK)(u_3:XK):Prop
 |mk:∀(k g v:Addr)(z:Ak)(i:Int),vs=[.ref k,.int i]->AkAt CA CG H k g v z->z.to.length<=100->(∀H',Same H H'->Q (.int (kx z i)) H')->spCoinAt CA CG vs H Q u_3
theorem A5:FnScope ["self","place","tossed"] ["self","place"] (aq uy):=%[1,1,1,4,1,4|4]
inductive tCoinE(z:Ak)(Dn:Ends)(σ:St)(H:Hp):Prop
 |mk:∀(x0:Option V)(a:Addr)(i:Int),σ=[x0,some (.int i),some (.ref a)]->H a=some (.tup ((lq z).map V.int))->Dn.rt (.int (kx z i)) H->tCoinE z Dn σ H
theorem Ds   (F:Fun K "coin_at" "Asking.coin_at" uy f fd) (B:Bl mg) (TA:ATxt K mg CA) (TG:GTxt K mg CG):FnOk P w K mg base CX0 1 f fd ["self","place"] (spCoinAt CA CG):=by
 exists A5
 erw[k,g,v,z,i,1,%[dk,aT,a,b,d,tv,tr,hk,%[dg|hg],ha,hb,TS,_,_,hT|_],tl,q]at h;have vl:=TS.length;refine⟨_,(ae #[ax,2,A5,aD (pv 0) rfl]
  (ae (aO (ao iR (aM aN rfl B.len PySem.boot_len %[aD (aD (pv 0) rfl) rfl|ag]) aj (aE _)) (ai #[ax,2,A5,az op_catT (aV %[aD (pv 0) rfl|ag]) (pv 2)]) aF)
  (jx (t':=tCoinE z) (ae (aO (vE sQ sQ aj (pv 1) (aM aN rfl B.len PySem.boot_len %[2|ag])) (ai (au (aP ix_tup (pv 2) (az bO (pv 1) aj) (λ_ _=>rfl)))) aF)
  (ai (au aj))) (by
   rintro Dn σ H ⟨x0,a,i,rfl,ha,q⟩;unfold kx at q;erw[0,2,0,6];have el:(((lq z).map V.int).length:Int)=((lq z).length:Int):=by rw[zF0]
   by_cases c1:1<=i
   . refine bb c1 ?_;erw[0,a,0,.inr (zB0 ha),2,0,6]
     by_cases c2:i<=((lq z).length:Int)
     . rw [zC0 %[c1|c2]]at q;refine bb (by rw[el];exact c2) ?_;obtain⟨j,ej⟩:∃j:Nat,i-1=(j:Int):=⟨(i-1).toNat,by omega⟩
       rw[ej,qS0]at q;erw[0,0,2,a,_,2,zB0 ha,6,q];rw[ej];exact mJ #[0]
     . rw[zA0 (λz=>c2 z.2)]at q;exact aI (by rw[el];exact c2) q
   . rw[zA0 (λz=>c1 z.1)]at q;exact aI c1 %[0|cO q])))),?_⟩
 erw[0,k,CA,dk,_,0,hk,TA.cl,TA.nT,al_t,6];erw[0,k,CA,dk,_,0,hk,TA.cl,TA.nG,vj,g,CG,dg,_,0,hg,TG.cl,TG.nT,lp ..,b,0,.inr (zB0 hb),2,0,6]
 by_cases c:1<z.ts.length
 . refine bb (by rw[vl];omega) ?_;have ec:lq z=z.s::z.to:=zC0 c;erw[0,k,CA,dk,_,0,hk,TA.cl,TA.nS,al_s,(by show 1<=sizeLine;decide),λt ht=>?_];have I:=zE0 ht (.tup [.int z.s]);have g1:upd H t (.tup [.int z.s]) t=some (.tup [.int z.s]):=am;generalize upd H t (.tup [.int z.s])=H1 at I g1;erw[0,t,aT,2,zB0 g1,zB0 (I _ _ hT),(λz=>nomatch z),cv (by show 1+(z.to.map V.int).length<=1000;rw[zF0];omega),λe=>?_,λ_ y hy=>?_]
   . erw[_,t,i,1,6,q _ I];rw[ec,g1,zY0,e]
   . erw[_,y,i,1,6,q _ (I.trans (zE0 hy _))];rw[am,ec];rfl
 . refine aI (by rw[vl];omega) ?_;have ec:lq z=z.to:=zA0 c;erw[_,aT,i,1,by rw[ec];exact hT,q _ λ_ _ e=>e]
end
section
variable {CM CA CG:Addr}
theorem CB(ns:List Str)(ts:List Tr)(s p:Int)(cs:List Int)(n:Nat):(fb ns ts s p cs n).length=n:=by
 unfold fb;rw[zF0,qR0]
theorem Cz{p:Int}(hp:0<p):cj (fb ns ts s p cs n) p:=λx hx=>by
 unfold fb at hx;let%[k,_|1]:=List.mem_map.mp hx;erw[qC0 _ #[0],qE0 _ hp]
theorem AkOk.deg  (k:AkOk z) (h:0<z.nr):∃x,z.ns[z.to.length]?=some x/\z.ns.getD z.to.length ""=x/\0<=bN z.ts x/\bN z.ts x<z.p/\bN z.ts x<=400:=by
 have hl:=k.nrt h;erw[z.ns[z.to.length],zM0 hl,by rw[qL0,zM0 hl];rfl,6];have hm:=qP0 hl;let%[d0|d1]:=k.gk.deg _ hm;erw[d0,d1,6];have t0:z.ts≠[]:=λe=>by have:=k.gk.t1;rw[e]at this;cases this
 have:=mV (p:=401) (x:=z.ns[z.to.length]) t0 λt ht=>by
  have h1:=(k.gk.tok t ht).2.2.2;have h2:=t.names_len;have h3:=List.count_le_length (a:=z.ns[z.to.length]) (l:=t.names);omega
 omega
theorem AkOk.row(k:AkOk z)(h:0<z.nr):lu z.tru z.p:=by
 let%[x,hx,ex,d0,d1|d4]:=k.deg h;have p2:=k.p0;have p9:=k.gk.p9;have e:z.tru=fb z.ns z.ts z.s z.p z.to (bN z.ts x+1).toNat:=by
  unfold Ak.tru;rw[zA0 #[0],ex]
 rw[e];unfold lu;rw[CB];erw[3,3,3,λj=>?_]
 have:=mN (Cz (ns:=z.ns) (ts:=z.ts) (s:=z.s) (cs:=z.to) (n:=(bN z.ts x+1).toNat) (show 0<z.p by omega)) #[0] j
 omega
inductive spTruths(CA CG:Addr)(vs:List V)(H:Hp)(Q:VK)(u_3:XK):Prop
 |mk:∀(k g v:Addr)(z:Ak)(ys:List V),vs=[.ref k]->AkAt CA CG H k g v z->AkOk z->H v=some (.lst ys)->(∀(l:Addr)(H':Hp),H' l=some (.lst (z.tru.map V.int))->AkAt CA CG H' k g v z->SameBut k H H'->Q (.ref l) H')->spTruths CA CG vs H Q u_3
theorem xF:FnScope ["self"] ["self"] (aq om):=%[1,1,1,4,1,4|4]
theorem yg   (F:Fun K "true_numbers" "Asking.true_numbers" om f fd) (TA:ATxt K mg CA) (b7:Cal P w K mg base 16 "counts_of" ["game"] (spCounts CG)) (fo:Cal P w K mg base 14 "true_row" ["game","s","coins"] (spTrue CG)):FnOk P w K mg base CX0 17 f fd ["self"] (spTruths CA CG):=by
 exists xF
 erw[k,g,v,z,ys,1,AK,ok,hv,q]at h;refine⟨_,(ae (aO (ao CY (aD (pv 0) rfl) ow (aE _)) (ai (aO (ao aW (aD (pv 0) rfl) aj (aE _)) (ai (aU (pv 0) (aB b7 hr ⋯ rfl %[aD (pv 0) rfl|ag]) rfl)) (ai (aU (pv 0) (aB fo hr ⋯ rfl %[aD (pv 0) rfl,aD (pv 0) rfl,aD (pv 0) rfl|ag]) rfl)))) aF)
  (ai (au (aD (pv 0) rfl)))),?_⟩
 have AK':=AK;erw[dk,aT,a,b,d,tv,tr,hk,GA,ha,hb,TS,hd,dv,hT,ht]at AK';have t0:z.ts≠[]:=λe=>by have:=ok.gk.t1;rw[e]at this;cases this
 have t10:=ok.gk.t10;have p2:=ok.p0;have p9:=ok.gk.p9;erw[0,k,CA,dk,_,0,hk,TA.cl,TA.nR,Gc,6];rcases ht with rfl | ⟨l,rfl,lv,hl⟩
 . -- not yet asked
   have put:∀(l:Addr)(H1:Hp),H l=none->Same H H1->H1 l=some (.lst (z.tru.map V.int))->AkAt CA CG (upd H1 k (.ins CA dk (al g z.nr z.mn z.hd z.s aT (.ref l)))) k g v z/\(upd H1 k (.ins CA dk (al g z.nr z.mn z.hd z.s aT (.ref l)))) l=some (.lst (z.tru.map V.int))/\SameBut k H (upd H1 k (.ins CA dk (al g z.nr z.mn z.hd z.s aT (.ref l)))):=by
    intro l H1 l0 S1 hl;have lk:l≠k:=(aQ hk l0).symm;have U:∀{c:Addr}{o:HO},c≠k->H1 c=some o->(upd H1 k (.ins CA dk (al g z.nr z.mn z.hd z.s aT (.ref l)))) c=some o:=λn e=>by rw[aG n];exact e
    have gk:g≠k:=λe=>by
     erw[dg,hg]at GA;rw[e,hk]at hg;cases hg
    have kT:cg H (upd H1 k (.ins CA dk (al g z.nr z.mn z.hd z.s aT (.ref l)))):=λc xs e=>U (bu e hk (by intro z;cases z)) (S1 _ _ e)
    erw[dg,hg]at GA;erw[%[dk,aT,a,b,d,tv,.ref l,am,%[dg|U gk (S1 _ _ hg)],kT _ _ ha,kT _ _ hb,TS.mono kT,U (bu hd hk (by intro z;cases z)) (S1 _ _ hd),dv,kT _ _ hT|.inr %[l,1,(aQ hv l0).symm|U lk hl]],U lk hl,(zK0 S1).trans (SameBut.upd _)]
   erw[1,0,dU ?_];erw[0,k,CA,dk,_,0,hk,TA.cl,TA.nN,Iz,1,0,6]
   by_cases c:z.nr=0
   . refine bb (congrArg V.int c) ?_;erw[0,k,CA,dk,_,0,hk,TA.cl,TA.nG,vj,g,a,b,d,z.ns,tv,z.ts,z.p,1,GA,ha,ok.n6,hb,TS,t10,λt ht=>%[(ok.gk.tok t ht).1|by have:=(ok.gk.tok t ht).2.2.1;omega],λl H1 l0 S1 hl=>?_];have et:z.tru=z.ts.map (λt=>(cnt t z.ns:Int)):=zC0 c;rw[←et]at hl;let%[A1,L1|B1]:=put l H1 l0 S1 hl;erw[0,k,CA,dk,0,S1 _ _ hk,TA.cl,TA.nR,Ez,6];rw[Ey];erw[0,k,CA,dk,_,0,am,TA.cl,TA.nR,Gc,q l _ L1 A1 B1]
   . refine aI (λe=>c (V.int.inj e)) ?_;have n0:=ok.nr0;let%[x,hx,ex,d0,d1|d4]:=ok.deg #[0];erw[0,k,CA,dk,_,0,hk,TA.cl,TA.nG,vj,0,k,CA,dk,_,0,hk,TA.cl,TA.nS,al_s,0,k,CA,dk,_,0,hk,TA.cl,TA.nT,al_t,g,a,b,d,aT,z.ns,tv,z.ts,z.to,x,z.s,z.p,1,GA,ha,ok.n6,hb,TS,t0,t10,λt ht=>%[(ok.gk.tok t ht).1|(ok.gk.tok t ht).2.2.1],hd,.inr hT,hx,d1,3,ok.po,3,3,λl H1 l0 S1 hl=>?_];have et:z.tru=fb z.ns z.ts z.s z.p z.to (bN z.ts x+1).toNat:=by
      unfold Ak.tru;rw[zA0 c,ex]
     rw[←et]at hl;let%[A1,L1|B1]:=put l H1 l0 S1 hl;erw[0,k,CA,dk,0,S1 _ _ hk,TA.cl,TA.nR,Ez,6];rw[Ey];erw[0,k,CA,dk,_,0,am,TA.cl,TA.nR,Gc,q l _ L1 A1 B1]
 . erw[1,0,cO ?_];erw[0,k,CA,dk,_,0,hk,TA.cl,TA.nR,Gc,q l H hl AK (SameBut.refl _ _)]
inductive spTrueAt(CA CG:Addr)(vs:List V)(H:Hp)(Q:VK)(u_3:XK):Prop
 |mk:∀(k g v:Addr)(z:Ak)(ys:List V)(i:Int),vs=[.ref k,.int i]->AkAt CA CG H k g v z->AkOk z->H v=some (.lst ys)->0<=i->i<z.p->(∀H',AkAt CA CG H' k g v z->SameBut k H H'->Q (.int (fO z i)) H')->spTrueAt CA CG vs H Q u_3
theorem IQ:FnScope ["self","place","truths"] ["self","place"] (aq uu):=%[1,1,1,4,1,4|4]
theorem Dq   (F:Fun K "true_at" "Asking.true_at" uu f fd) (B:Bl mg) (TA:ATxt K mg CA) (TG:GTxt K mg CG) (mT:Meth K CA "true_numbers" fT) (GT:FnOk P w K mg base CX0 17 fT fdT ["self"] (spTruths CA CG)) (bT:Binds K fdT ["self"] []) (cG:Cal P w K mg base 4 "value_at" ["values","r","p"] spVal):FnOk P w K mg base CX0 18 f fd ["self","place"] (spTrueAt CA CG):=by
 exists IQ
 erw[k,g,v,z,ys,i,1,AK,ok,hv,i0,i1,q]at h;refine⟨_,(ae #[ax,2,IQ,bw (pv 0) TA.cl mT GT hr bT .nil bc]
  (ae (aO (ao iR (aD (pv 0) rfl) aj (aE _)) (ai (au (aB cG hr ⋯ rfl %[2,1,aD (aD (pv 0) rfl) rfl|ag]))) aF)
  (ae (aO (ao eO (pv 1) (aM aN rfl B.len PySem.boot_len %[2|ag]) (aE _)) (ai (au (az bd (aP ix_list (pv 2) (pv 1) (λ_ _=>rfl)) (aD (aD (pv 0) rfl) rfl)))) aF)
  (ai (au aj))))),?_⟩
 have p2:=ok.p0;have p9:=ok.gk.p9;let%[dk,aT,_,_,_,_,tr,hk|_]:=id AK;erw[0,k,dk,0,hk,al_n3,k,g,v,z,ys,1,AK,ok,hv,λl H1 hl A1 S1=>?_];have A1':=A1;erw[dk1,aT1,a1,b1,d1,tv1,tr1,hk1,%[dg1|hg1],_]at A1';unfold fO at q;erw[0,k,CA,dk1,_,0,hk1,TA.cl,TA.nN,Iz,2,0,6]
 by_cases c:0<z.nr
 . rw[zC0 c]at q;refine bb c ?_;erw[0,0,0,k,CA,dk1,_,0,hk1,TA.cl,TA.nG,vj,g,CG,dg1,_,0,hg1,TG.cl,TG.nF,fc ..,l,z.tru,i,z.p,1,.inl hl,ok.row c,ok.gk.pr,p9,i0,i1,λH2 S2=>q H2 (A1.same S2) (S1.trans (zK0 S2))]
 . rw [zA0 c]at q;refine aI c ?_;erw[0,0,l,0,.inl (zH0 hl),2,0,6];have el:((z.tru.map V.int).length:Int)=(z.tru.length:Int):=by rw[zF0]
   by_cases c2:i<(z.tru.length:Int)
   . rw[zC0 c2]at q;refine bb (by rw[el];exact c2) ?_;let%[j|1]:=Int.eq_ofNat_of_zero_le i0;rw[qS0]at q;erw[0,0,l,_,2,zH0 hl,mJ #[0],0,k,CA,dk1,_,0,hk1,TA.cl,TA.nG,vj,g,CG,dg1,_,0,hg1,TG.cl,TG.nF,fc ..,2,(by show 0<z.p;omega),q H1 A1 S1]
   . rw[zA0 c2]at q;refine aI (by rw[el];exact c2) ?_;exact q H1 A1 S1
noncomputable def Tm.worth(z:Ak)(bx:Str->Int):Tm->Int
 | .num n=>n % z.p | .box x=>bx x | .plain w=>ot z w
 | .ask w a=>if w="coin" then kx z (a.worth z bx)else fO z (a.worth z bx)
 | .op s a b=>opV z.p s (a.worth z bx) (b.worth z bx)
def Tm.good:Tm->Prop
 | .num _=>True | .box _=>True | .plain w=>w∈plainW | .ask w a=>w∈askW/\a.good | .op s a b=>s∈signW/\a.good/\b.good
def kA(p:Int)(bx:Str->Int):Prop:=∀x,0<=bx x/\bx x<p
theorem Tm.worth_rng(k:AkOk z)(hb:kA z.p bx):∀t:Tm,0<=t.worth z bx/\t.worth z bx<z.p
 | .num n=>by have:=k.p0;erw[qC0 _ #[0],qE0 _ #[0]]
 | .box x=>hb x
 | .plain w=>xR k w
 | .ask w a=>by
   show 0<=(if w="coin" then kx z (a.worth z bx)else fO z (a.worth z bx))/\(if w="coin" then kx z (a.worth z bx)else fO z (a.worth z bx))<z.p
   split
   . exact Bz k _
   . exact zY k _
 | .op s a b=>by have:=k.p0;exact Fr #[0]
inductive spTm(CA CG:Addr)(n:Nat)(vs:List V)(H:Hp)(Q:VK)(u_3:XK):Prop
 |mk:∀(v:V)(t:Tm)(b k g sd:Addr)(z:Ak)(ys:List V)(bx:Str->Int)(m:Nat),vs=[v,.ref b,.ref k]->TmAt H v t->t.good->t.depth<=n->BxAt H b bx m->kA z.p bx->AkAt CA CG H k g sd z->AkOk z->H sd=some (.lst ys)->(∀H',AkAt CA CG H' k g sd z->SameBut k H H'->Q (.int (t.worth z bx)) H')->spTm CA CG n vs H Q u_3
theorem iw:FnScope ["term","boxes","asking","word","first","second"] ["term","boxes","asking"] (aq jh):=%[1,1,1,4,1,4|4]
structure AskF(P:Program)(w:World)(K:W.Frag)(mg:Str->Option Value)(base:Heap)(CA CG fP fC fR:Addr)(fdP fdC fdR:FuncData):Prop where
 mP:Meth K CA "plain_value" fP
 GP:FnOk P w K mg base CX0 1 fP fdP ["self","word"] (spPlain CA CG)
 bP:Binds K fdP ["self","word"] []
 mC:Meth K CA "coin_at" fC
 GC:FnOk P w K mg base CX0 1 fC fdC ["self","place"] (spCoinAt CA CG)
 bC:Binds K fdC ["self","place"] []
 mR:Meth K CA "true_at" fR
 GR:FnOk P w K mg base CX0 18 fR fdR ["self","place"] (spTrueAt CA CG)
 bR:Binds K fdR ["self","place"] []
theorem BJ {n:Nat}   (F:Fun K "value_of" "value_of" jh f fd) (TA:ATxt K mg CA) (TG:GTxt K mg CG) (M:AskF P w K mg base CA CG fP fC fR fdP fdC fdR) (fJ:Cal P w K mg base 3 "op_value" ["sign","first","second","p"] spOp) (cH:Cal P w K mg base (n+18) "value_of" ["term","boxes","asking"] (spTm CA CG n)):FnOk P w K mg base CX0 (n+19) f fd ["term","boxes","asking"] (spTm CA CG (n+1)):=by
 exists iw
 erw[v,t,b,k,g,sd,z,ys,bx,m,1,T,tg,td,BX,bo,AK,ok,hs,q]at h;have hu:=GE hr;have hr1:Room 1 _:=hr.mono #[0];have hr18:Room 18 _:=hr.mono #[0];refine⟨_,(ae #[ax,3,iw,aP ix_tup (pv 0) aj (λ_ _=>rfl)]
  (ae (aO (ao aW (pv 3) aJ (aE _)) (ai (au (az bd (aP ix_tup (pv 0) aj (λ_ _=>rfl)) (aD (aD (pv 2) rfl) rfl)))) aF)
  (ae (aO (ao aW (pv 3) aJ (aE _)) (ai (au (CQ hu (pv 1) (aP ix_tup (pv 0) aj (λ_ _=>rfl)) aj %[1,1,1|1]))) aF)
  (ae (aO (ao aW (pv 3) aJ (aE _)) (ai (au (bY (pv 2) TA.cl M.mC M.GC hr1 M.bC .nil bc %[aB cH hr (zG0 _) rfl %[aP ix_tup (pv 0) aj (λ_ _=>rfl),1,2|ag]|ag]))) aF)
  (ae (aO (ao aW (pv 3) aJ (aE _)) (ai (au (bY (pv 2) TA.cl M.mR M.GR hr18 M.bR .nil bc %[aB cH hr (zG0 _) rfl %[aP ix_tup (pv 0) aj (λ_ _=>rfl),1,2|ag]|ag]))) aF)
  (ae (aO (ao aW (pv 3) aJ (aE _)) (ae #[ax,4,iw,aB cH hr (zG0 _) rfl %[aP ix_tup (pv 0) aj (λ_ _=>rfl),1,2|ag]]
   (ae #[ax,5,iw,aB cH hr (zG0 _) rfl %[aP ix_tup (pv 0) aj (λ_ _=>rfl),1,2|ag]]
   (ai (au (aB fJ hr #[0] rfl %[aP ix_tup (pv 0) aj (λ_ _=>rfl),4,5,aD (aD (pv 2) rfl) rfl|ag]))))) aF)
  (ai (au (bY (pv 2) TA.cl M.mP M.GP hr1 M.bP .nil bc %[3|ag]))))))))),?_⟩
 have AK':=AK;erw[dk,aT,ga,gb,gd,tv,tr,hk,%[dg|hg],_]at AK';have p2:=ok.p0;have p0:0<z.p:=by omega
 have kT:∀{H':Hp},SameBut k H H'->cg H H':=λs c xs e=>s _ _ (bu e hk (by intro z;cases z)) e
 have kB:∀{H':Hp},SameBut k H H'->BxAt H' b bx m:=λs=>BX.keep λo e=>s _ _ (by
  erw[kvs,e',_]at BX;exact bu e' hk (by intro z;cases z)) e
 have kS:∀{H':Hp},SameBut k H H'->H' sd=some (.lst ys):=λs=>s _ _ (bu hs hk (by intro z;cases z)) hs
 cases T with
 | @num a n e=>
   erw[0,a,_,(0),0,1,zB0 e,1,6];erw[0,1,0,bb rfl ?_];erw[0,a,_,(1),0,1,zB0 e,1,0,k,CA,dk,_,0,hk,TA.cl,TA.nG,vj,g,CG,dg,_,0,hg,TG.cl,TG.nF,fc ..,2,p0,q H AK (SameBut.refl _ _)]
 | @box a x e=>
   erw[0,a,_,(0),0,1,zB0 e,1,6];erw[0,1,0,aI (neS ⋯) ?_];erw[0,1,0,bb rfl ?_];erw[kvs,hb,_,hx]at BX;erw[0,b,1,.inl %[kvs|.inl hb],0,a,_,(1),0,1,zB0 e,1,_,DGet.k (k:=.inr x) hb,6];rw[hx];exact q H AK (SameBut.refl _ _)
 | @plain a wd e=>
   have no:∀x:Str,x∉plainW->¬ V.str wd=V.str x:=λx hx e=>hx (by rw[←V.str.inj e];exact tg)
   erw[0,a,_,(0),0,1,zB0 e,1,6];erw[0,1,0,aI (no _ ⋯) ?_];erw[0,1,0,aI (no _ ⋯) ?_];erw[0,1,0,aI (no _ ⋯) ?_];erw[0,1,0,aI (no _ ⋯) ?_];erw[0,1,0,aI (no _ ⋯) ?_];erw[0,k,dk,0,hk,al_n1,0,k,g,sd,z,wd,1,AK,p0,q H AK (SameBut.refl _ _)]
 | @ask a wd v1 t1 e T1=>
   erw[wq,tq]at tg;have hw:wd="coin"∨wd="true":=by simpa [askW]using wq
   have d1:t1.depth<=n:=by have:t1.depth+1<=n+1:=td;omega
   have wr:=Tm.worth_rng ok bo t1;erw[0,a,_,(0),0,1,zB0 e,1,6];rcases hw with rfl | rfl
   . erw[0,1,0,aI (neS ⋯) ?_];erw[0,1,0,aI (neS ⋯) ?_];erw[0,1,0,bb rfl ?_];erw[0,k,dk,0,hk,al_n2,0,a,_,(1),0,1,zB0 e,1,0,0,v1,t1,b,k,g,sd,z,ys,bx,m,1,T1,tq,d1,BX,bo,AK,ok,hs,λH1 A1 S1=>?_];erw[k,g,sd,z,0,A1,ok.tl,λH2 S2=>?_];have qq:=q H2 (A1.same S2) (S1.trans (zK0 S2));have e1:(Tm.ask "coin" t1).worth z bx=kx z (t1.worth z bx):=zC0 rfl;rw[e1]at qq;exact qq
   . erw[0,1,0,aI (neS ⋯) ?_];erw[0,1,0,aI (neS ⋯) ?_];erw[0,1,0,aI (neS ⋯) ?_];erw[0,1,0,bb rfl ?_];erw[0,k,dk,0,hk,al_n4,0,a,_,(1),0,1,zB0 e,1,0,0,v1,t1,b,k,g,sd,z,ys,bx,m,1,T1,tq,d1,BX,bo,AK,ok,hs,λH1 A1 S1=>?_];erw[k,g,sd,z,ys,0,A1,ok,kS S1,wr.1,wr.2,λH2 A2 S2=>?_];have qq:=q H2 A2 (S1.trans S2);have e1:(Tm.ask "true" t1).worth z bx=fO z (t1.worth z bx):=zA0 ⋯;rw[e1]at qq;exact qq
 | @op a o v1 v2 t1 t2 e T1 T2=>
   erw[oq,q1,q2]at tg;have d1:t1.depth<=n:=by have:max t1.depth t2.depth+1<=n+1:=td;omega
   have d2:t2.depth<=n:=by have:max t1.depth t2.depth+1<=n+1:=td;omega
   have w1:=Tm.worth_rng ok bo t1;have w2:=Tm.worth_rng ok bo t2;erw[0,a,_,(0),0,1,zB0 e,1,6];erw[0,1,0,aI (neS ⋯) ?_];erw[0,1,0,aI (neS ⋯) ?_];erw[0,1,0,aI (neS ⋯) ?_];erw[0,1,0,aI (neS ⋯) ?_];erw[0,1,0,bb rfl ?_];erw[0,a,_,(2),0,1,zB0 e,1,0,0,v1,t1,b,k,g,sd,z,ys,bx,m,1,T1,q1,d1,BX,bo,AK,ok,hs,λH1 A1 S1=>?_];have e1:=kT S1 _ _ e;erw[0,a,_,(3),0,1,zB0 e1,1,0,0,v2,t2,b,k,g,sd,z,ys,bx,m,1,T2.mono (kT S1),q2,d2,kB S1,bo,A1,ok,kS S1,λH2 A2 S2=>?_];have e2:=kT (S1.trans S2) _ _ e;let%[dk2,aT2,_,_,_,_,tr2,hk2,%[dg2|hg2]|_]:=id A2;erw[0,a,_,(1),0,1,zB0 e2,1,0,0,0,k,CA,dk2,_,0,hk2,TA.cl,TA.nG,vj,g,CG,dg2,_,0,hg2,TG.cl,TG.nF,fc ..,o,_,_,z.p,1,oq,ok.gk.pr,ok.gk.p9,w1.1,w1.2,w2.1,w2.2,q H2 A2 (S1.trans S2)]
theorem BI  :FnOk P w K mg base CX0 18 f fd ["term","boxes","asking"] (spTm CA CG 0):=by
 have no:∀vs H Q E,¬ spTm CA CG 0 vs H Q E:=λvs H Q E h=>by
  erw[v,t,_,_,_,_,_,_,_,_,_,_,_,h1,_]at h
  have:=t.depth_pos
  omega
 erw[λvs H Q E h=>absurd h (no vs H Q E),λA outer s H args us vs Q E _ _ _ _ h=>absurd h (no vs H Q E)]
theorem oX   (F:Fun K "value_of" "value_of" jh f fd) (m:mg "value_of"=some (.ref f)) (TA:ATxt K mg CA) (TG:GTxt K mg CG) (M:AskF P w K mg base CA CG fP fC fR fdP fdC fdR) (fJ:Cal P w K mg base 3 "op_value" ["sign","first","second","p"] spOp) :
 ∀n:Nat,FnOk P w K mg base CX0 (n+18) f fd ["term","boxes","asking"] (spTm CA CG n)
 | 0=>BI
 | n+1=>BJ F TA TG M fJ (Cal.of F (oX F m TA TG M fJ n) m (λ_ _ _ _ _ _ us hl=>by let%[u0,u1,u2|1]:=FL hl;rfl))
end
section
variable {CM CA CG:Addr}
structure MS where
 pl:Int
 bx:Str->Int
 sd:List Int
noncomputable def Gn(z:Ak)(len:Int)(s:MS):Hr->MS
 | .fin=>%[len,s.bx|s.sd]
 | .go n=>%[n,s.bx|s.sd]
 | .iff t n=>%[if t.worth z s.bx=0 then s.pl+1 else n,s.bx|s.sd]
 | .set x t=>%[s.pl+1,jN s.bx x (t.worth z s.bx)|s.sd]
 | .say t=>%[s.pl+1,s.bx|s.sd++[t.worth z s.bx]]
noncomputable def eF(z:Ak)(rows:List Hr)(s:MS):MS:=match rows[s.pl.toNat]? with
 | some r=>Gn z rows.length s r
 | none=>s
noncomputable def lG(z:Ak)(rows:List Hr):Nat->MS->MS
 | 0,s=>s
 | n+1,s=>if s.pl<(rows.length:Int)/\(s.sd.length:Int)<z.mn then lG z rows n (eF z rows s)else s
def qZ(mn:Int)(sd:List Int):List Int:=sd++List.replicate (mn-(sd.length:Int)).toNat 0
def Hr.good:Hr->Prop
 | .fin=>True | .go n=>0<=n | .iff t n=>t.good/\t.depth<=5/\0<=n | .set _ t=>t.good/\t.depth<=5 | .say t=>t.good/\t.depth<=5
theorem Cd{rows:List Hr}(hq:∀r∈rows,r.good){s:MS}(h:0<=s.pl):0<=(eF z rows s).pl:=by
 unfold eF;cases e:rows[s.pl.toNat]? with
 | none=>exact h
 | some r=>
   have q:=hq r (qH0 e);cases r with
   | fin=>exact Int.natCast_nonneg _
   | go n=>exact q
   | iff t n=>
     show 0<=if t.worth z s.bx=0 then s.pl+1 else n
     by_cases c:t.worth z s.bx=0
     . rw[zC0 c];omega
     . rw[zA0 c];exact q.2.2
   | set x t=>show 0<=s.pl+1;omega
   | say t=>show 0<=s.pl+1;omega
theorem vt:(eF z rows s).sd.length<=s.sd.length+1:=by
 unfold eF;cases e:rows[s.pl.toNat]? with
 | none=>exact qN0 _
 | some r=>
   cases r with
   | fin=>exact qN0 _
   | go n=>exact qN0 _
   | iff t n=>exact qN0 _
   | set x t=>exact qN0 _
   | say t=>show(s.sd++[_]).length<=_;rw[zJ0];exact zG0 _
theorem Ew{n:Int}(h:kA p bx)(h0:0<=n)(h1:n<p):kA p (jN bx x n):=λy=>by
 unfold jN
 split
 . erw[h0,h1]
 . exact h y
theorem qp{s:MS}(k:AkOk z)(h:kA z.p s.bx)(hs:cj s.sd z.p):kA z.p (eF z rows s).bx/\cj (eF z rows s).sd z.p:=by
 unfold eF;cases e:rows[s.pl.toNat]? with
 | none=>erw[h,hs]
 | some r=>
   cases r with
   | fin=>erw[h,hs]
   | go n=>erw[h,hs]
   | iff t n=>erw[h,hs]
   | set x t=>
     have w:=Tm.worth_rng k h t;erw[Ew h w.1 w.2,hs]
   | say t=>
     have w:=Tm.worth_rng k h t;erw[h,λy hy=>?_];rcases qM0 hy with hy | hy
     . exact hs y hy
     . rw[zS0 hy];exact w
theorem me(k:AkOk z):∀(n:Nat)(s:MS),kA z.p s.bx->cj s.sd z.p->(s.sd.length:Int)<=z.mn->kA z.p (lG z rows n s).bx/\cj (lG z rows n s).sd z.p/\((lG z rows n s).sd.length:Int)<=z.mn
 | 0,s,h,hs,hl=>%[h,hs|hl]
 | n+1,s,h,hs,hl=>by
   show kA z.p (if _ then _ else _:MS).bx/\cj (if _ then _ else _:MS).sd z.p/\((if _ then _ else _:MS).sd.length:Int)<=z.mn
   by_cases c:s.pl<(rows.length:Int)/\(s.sd.length:Int)<z.mn
   . rw [zC0 c];let%[h1|h2]:=qp (rows:=rows) k h hs
     have:=vt (z:=z) (rows:=rows) (s:=s)
     exact me k n _ h1 h2 #[0]
   . rw[zA0 c];erw[h,hs,hl]
theorem vK{mn:Int}{sd:List Int}(h:(sd.length:Int)<=mn):((qZ mn sd).length:Int)=mn:=by
 unfold qZ;rw[zJ0,List.length_replicate];omega
theorem zo(h:cj sd p)(p0:0<p):cj (qZ mn sd) p:=λx hx=>by
 unfold qZ at hx;rcases qM0 hx with hx | hx
 . exact h x hx
 . rw[List.eq_of_mem_replicate hx];omega
def RowsAt(H:Hp)(rv:List V)(rows:List Hr):Prop:=rv.length=rows.length/\∀(i:Nat)(v:V)(r:Hr),rv[i]?=some v->rows[i]?=some r->HrAt H v r
theorem RowsAt.mono(h:RowsAt H rv rows)(k:cg H H'):RowsAt H' rv rows:=%[h.1|λi v r h1 h2=>(h.2 i v r h1 h2).mono k]
def Gh(b c:Addr)(H H':Hp):Prop:=∀a o,a≠b->a≠c->H a=some o->H' a=some o
theorem BxAt.le{n:Nat}(h:BxAt H b bx m)(k:m<=n):BxAt H b bx n:=by
 erw[kvs,e,l,r]at h;erw[kvs,e,zP0 l k,r]
def But3(b c d:Addr)(H H':Hp):Prop:=∀a o,a≠b->a≠c->a≠d->H a=some o->H' a=some o
theorem But3.trans(x:But3 b c d H H1)(y:But3 b c d H1 H2):But3 b c d H H2:=λa o h1 h2 h3 e=>y a o h1 h2 h3 (x a o h1 h2 h3 e)
inductive spRowM(CM CA CG:Addr)(vs:List V)(H:Hp)(Q:VK)(u_3:XK):Prop
 |mk:∀(M g h b dm k sd:Addr)(rv:List V)(r pl:Int)(z:Ak)(rows:List Hr)(bx:Str->Int)(m:Nat)(said:List Int),vs=[.ref M,.int pl,.ref sd,.ref k]->H M=some (.ins CM dm (ml g h r b))->M≠k->H h=some (.tup rv)->RowsAt H rv rows->(∀r∈rows,r.good)->0<=pl->pl<(rows.length:Int)->BxAt H b bx m->kA z.p bx->m<=10000->H sd=some (.lst (said.map V.int))->said.length<=900->AkAt CA CG H k g sd z->AkOk z->(∀H',H' sd=some (.lst ((eF z rows ⟨pl,bx,said⟩).sd.map V.int))->BxAt H' b (eF z rows ⟨pl,bx,said⟩).bx (m+1)->AkAt CA CG H' k g sd z->But3 b sd k H H'->Q (.int (eF z rows ⟨pl,bx,said⟩).pl) H')->spRowM CM CA CG vs H Q u_3
theorem E1:FnScope ["self","place","said","asking","row","word"] ["self","place","said","asking"] (aq xH):=%[1,1,1,4,1,4|4]
theorem Fu   (F:Fun K "do_row" "Machine.do_row" xH f fd) (B:Bl mg) (TM:MTxt K mg CM) (cH:Cal P w K mg base 23 "value_of" ["term","boxes","asking"] (spTm CA CG 5)):FnOk P w K mg base CX0 24 f fd ["self","place","said","asking"] (spRowM CM CA CG):=by
 exists E1
 erw[M,g,h,b,dm,k,sd,rv,rn,pl,z,rows,bx,m,said,1,hM,nMk,hh,RW,rq,pl0,pl1,BX,bo,m1,hsd,sl,AK,ok,q]at h;have hu:=GE hr;refine⟨_,(ae #[ax,4,E1,aP ix_tup (aD (pv 0) rfl) (pv 1) (λ_ _=>rfl)]
  (ae #[ax,5,E1,aP ix_tup (pv 4) aj (λ_ _=>rfl)]
  (ae (aO (ao aW (pv 5) aJ (aE _)) (ai (au (aM aN rfl B.len PySem.boot_len %[aD (pv 0) rfl|ag]))) aF)
  (ae (aO (ao aW (pv 5) aJ (aE _)) (ai (au (aP ix_tup (pv 4) aj (λ_ _=>rfl)))) aF)
  (ae (aO (ao aW (pv 5) aJ (aE _)) (ai (Fh hu (aD (pv 0) rfl) (aP ix_tup (pv 4) aj (λ_ _=>rfl)) (aB cH hr ⋯ rfl %[aP ix_tup (pv 4) aj (λ_ _=>rfl),aD (pv 0) rfl,3|ag]) rfl)) (ai (aO (ao aW (pv 5) aJ (aE _)) (ai (ba (dw PySem.F.plainAttrs_list PySem.F.slot_list_append PySem.F.type_list_append cz (pv 2) %[aB cH hr ⋯ rfl %[aP ix_tup (pv 4) aj (λ_ _=>rfl),aD (pv 0) rfl,3|ag]|ag]))) (ai (aO (ao mq (aB cH hr ⋯ rfl %[aP ix_tup (pv 4) aj (λ_ _=>rfl),aD (pv 0) rfl,3|ag]) aj (aE _)) (ai (au (aP ix_tup (pv 4) aj (λ_ _=>rfl)))) aF)))))
  (ai (au (az aX (pv 1) aj)))))))),?_⟩
 let%[i|1]:=Int.eq_ofNat_of_zero_le pl0;have hi:i<rows.length:=by omega
 have hi':i<rv.length:=by rw[RW.1];exact hi
 have er:rows[i]?=some rows[i]:=zM0 hi;have ev:rv[i]?=some rv[i]:=zM0 hi';have RA:=RW.2 i _ _ ev er;have rqi:=rq _ (qP0 hi);have hst:eF z rows %[(i:Int),bx|said]=Gn z rows.length ⟨(i:Int),bx,said⟩ rows[i]:=by
  unfold eF;rw[show((%[(i:Int),bx|said]:MS).pl.toNat)=i from qS0 i,er]
 rw[hst]at q;generalize rows[i]=row at RA rqi q er hst;have at_:atI rv (i:Int)=some rv[i]:=cE ev;generalize rv[i]=v at RA at_ ev;erw[0,M,CM,dm,_,0,hM,TM.cl,TM.nH,FF,0,h,_,_,v,1,1,zB0 hh,at_,6];have K0:But3 b sd k H H:=λ_ _ _ _ _ e=>e
 have nBS:sd≠b:=by
  erw[kvs,e,_]at BX;exact bu hsd e (by intro z;cases z)
 let%[kvs,hb,kl|hx]:=id BX;let%[dk,_,_,_,_,_,_,hk|_]:=id AK;have kT:∀{H':Hp},SameBut k H H'->cg H H':=λs c xs e=>s _ _ (bu e hk (by intro z;cases z)) e
 have nbk:b≠k:=bu hb hk (by intro z;cases z);have nsk:sd≠k:=bu hsd hk (by intro z;cases z);cases RA with
 | @fin a e=>
   erw[0,a,_,(0),0,1,zB0 e,1,6];erw[0,1,0,bb rfl ?_];erw[0,M,CM,dm,_,0,hM,TM.cl,TM.nH,FF,h,0,.inr (zB0 hh),6];rw[RW.1];exact q H hsd (BX.le (qN0 _)) AK K0
 | @go a n e=>
   erw[0,a,_,(0),0,1,zB0 e,1,6];erw[0,1,0,aI (neS ⋯) ?_];erw[0,1,0,bb rfl ?_];erw[0,a,_,(1),0,1,zB0 e,1,q H hsd (BX.le (qN0 _)) AK K0]
 | @iff a u t n e T=>
   erw[0,a,_,(0),0,1,zB0 e,1,6];erw[0,1,0,aI (neS ⋯) ?_];erw[0,1,0,aI (neS ⋯) ?_];erw[0,1,0,aI (neS ⋯) ?_];erw[0,1,0,aI (neS ⋯) ?_];erw[0,a,_,(1),0,1,zB0 e,1,0,M,CM,dm,_,0,hM,TM.cl,TM.nB,DH,0,u,t,b,k,g,sd,z,_,bx,m,1,T,rqi.1,rqi.2.1,BX,bo,AK,ok,hsd,λH1 A1 S1=>?_];erw[1,0,6];have q':∀H',H' sd=some (.lst (said.map V.int))->BxAt H' b bx (m+1)->AkAt CA CG H' k g sd z->But3 b sd k H H'->Q (.int (if t.worth z bx=0 then(i:Int)+1 else n)) H':=q
   have q1:=q' H1 (S1 _ _ nsk hsd) ((BX.keep λo e=>S1 _ _ nbk e).le (qN0 _)) A1 (λc o _ _ h3 e=>S1 _ _ h3 e)
   by_cases c:t.worth z bx=0
   . rw[zC0 c]at q1;refine wp (congrArg V.int c) ?_;erw[0,2,q1]
   . rw[zA0 c]at q1;refine iteN (λz=>c (V.int.inj z)) ?_;erw[0,a,_,(2),0,1,zB0 (kT S1 _ _ e),1,q1]
 | @set a x u t e T=>
   erw[0,a,_,(0),0,1,zB0 e,1,6];erw[0,1,0,aI (neS ⋯) ?_];erw[0,1,0,aI (neS ⋯) ?_];erw[0,1,0,bb rfl ?_];erw[0,a,_,(2),0,1,zB0 e,1,0,M,CM,dm,_,0,hM,TM.cl,TM.nB,DH,0,u,t,b,k,g,sd,z,_,bx,m,1,T,rqi.1,rqi.2,BX,bo,AK,ok,hsd,λH1 A1 S1=>?_];have hb1:=S1 _ _ nbk hb;have hs1:=S1 _ _ nsk hsd;erw[0,M,CM,dm,_,0,S1 _ _ nMk hM,TM.cl,TM.nB,DH,0,a,_,(1),0,1,zB0 (kT S1 _ _ e),1,b,0,DPut.k (k:=.inr x) hb1 ?_,6]
   . exact Nat.lt_of_le_of_lt kl (Nat.lt_of_le_of_lt m1 ⋯)
   erw[0,2,6];refine q _ ?_ ⟨_,am,zP0 (km _ _ _) (Nat.succ_le_succ kl),Iu x _ hx⟩ (A1.but2 hb1 hs1 λc o h1 _ e=>by rw[aG h1];exact e) (λc o h1 _ h3 e=>by rw[aG h1];exact S1 _ _ h3 e);rw[aG nBS];exact hs1
 | @say a u t e T=>
   erw[0,a,_,(0),0,1,zB0 e,1,6];erw[0,1,0,aI (neS ⋯) ?_];erw[0,1,0,aI (neS ⋯) ?_];erw[0,1,0,aI (neS ⋯) ?_];erw[0,1,0,bb rfl ?_];erw[0,.inl %[1,_|zH0 hsd],6];erw[0,a,_,(1),0,1,zB0 e,1,0,M,CM,dm,_,0,hM,TM.cl,TM.nB,DH,0,u,t,b,k,g,sd,z,_,bx,m,1,T,rqi.1,rqi.2,BX,bo,AK,ok,hsd,λH1 A1 S1=>?_];have hb1:=S1 _ _ nbk hb;have hs1:=S1 _ _ nsk hsd;erw[sd,2,hs1,6,6]
   . rw[zF0];exact aS #[0]
   erw[0,2,6];refine q _ ?_ ((BX.keep λo e=>by rw[aG nBS.symm];exact S1 _ _ nbk e).le (qN0 _)) (A1.but2 hb1 hs1 λc o _ h2 e=>by rw[aG h2];exact e) (λc o _ h2 h3 e=>by rw[aG h2];exact S1 _ _ h3 e);rw[am];show _=some (HO.lst ((said++[t.worth z bx]).map V.int));rw[zL0];rfl
end
section
variable {CM CA CG:Addr}
def m1 (g:Addr):List (Str×V):=[("game",.ref g)]
def m2 (g h:Addr):List (Str×V):=[("game",.ref g),("helper",.ref h)]
def m3 (g h:Addr):List (Str×V):=[("game",.ref g),("helper",.ref h),("next_round",.int 0)]
theorem pm1 {g:Addr}:bL "game" (.ref g) []=m1 g:=by rfl'
theorem pm2 {h:Addr}:bL "helper" (.ref h) (m1 g)=m2 g h:=by rfl'
theorem pm3 :bL "next_round" (.int 0) (m2 g h)=m3 g h:=by rfl'
theorem pm4 {b:Addr}:bL "boxes" (.ref b) (m3 g h)=ml g h 0 b:=by rfl'
inductive spMInit(CM:Addr)(vs:List V)(H:Hp)(Q:VK)(u_3:XK):Prop
 |mk:∀(M g h dm:Addr),vs=[.ref M,.ref g,.ref h]->H M=some (.ins CM dm [])->(∀(b:Addr)(H':Hp),H b=none->H' M=some (.ins CM dm (ml g h 0 b))->H' b=some (.dK [])->SameBut M H H'->Q .non H')->spMInit CM vs H Q u_3
theorem Cp:FnScope ["self","game","helper"] ["self","game","helper"] (aq ui):=%[1,1,1,4,1,4|4]
theorem Dj   (F:Fun K "__init__" "Machine.__init__" ui f fd) (T:MTxt K mg CM):FnOk P w K mg base CX0 1 f fd ["self","game","helper"] (spMInit CM):=by
 exists Cp
 erw[M,g,h,dm,1,hM,q]at h;refine⟨_,(ae (aU (pv 0) (pv 1) rfl)
  (ae (aU (pv 0) (pv 2) rfl)
  (ae (aU (pv 0) aj rfl)
  (ai (aU (pv 0) CP rfl))))),?_⟩
 erw[0,0,M,CM,dm,0,hM,T.cl,T.nG,(by show 0<1000;decide),6];rw[pm1];erw[0,0,M,CM,dm,0,am,T.cl,T.nH,(by show 1<1000;decide),6];rw[pm2];erw[0,M,CM,dm,0,am,T.cl,T.nR,(by show 2<1000;decide),6];rw[pm3];have S3:SameBut M H (upd (upd (upd H M (.ins CM dm (m1 g))) M (.ins CM dm (m2 g h))) M (.ins CM dm (m3 g h))):=(SameBut.upd _).trans ((SameBut.upd _).trans (SameBut.upd _));have g3:upd (upd (upd H M (.ins CM dm (m1 g))) M (.ins CM dm (m2 g h))) M (.ins CM dm (m3 g h)) M=some (.ins CM dm (m3 g h)):=am;generalize upd (upd (upd H M (.ins CM dm (m1 g))) M (.ins CM dm (m2 g h))) M (.ins CM dm (m3 g h))=H3 at S3 g3;intro b hb;have bM:b≠M:=(aQ g3 hb).symm;erw[0,M,CM,dm,0,by rw[aG bM.symm];exact g3,T.cl,T.nB,(by show 3<1000;decide),6];rw[pm4];refine q b _ ?_ am (by rw[aG bM];exact am) (S3.trans ((zK0 (zE0 hb _)).trans (SameBut.upd _)));cases e:H b with
 | none=>rfl
 | some o=>rw[S3 b o bM e]at hb;cases hb
def a1 (g:Addr):List (Str×V):=[("game",.ref g)]
def a2 (g:Addr) (nr:Int):List (Str×V):=[("game",.ref g),("number",.int nr)]
def a3 (g:Addr) (nr mn:Int):List (Str×V):=[("game",.ref g),("number",.int nr),("many",.int mn)]
def a4 (g:Addr) (nr mn hd:Int):List (Str×V):=[("game",.ref g),("number",.int nr),("many",.int mn),("held",.int hd)]
def a5 (g:Addr) (nr mn hd s:Int):List (Str×V):=[("game",.ref g),("number",.int nr),("many",.int mn),("held",.int hd),("s",.int s)]
def a6 (g:Addr) (nr mn hd s:Int) (aT:Addr):List (Str×V):=[("game",.ref g),("number",.int nr),("many",.int mn),("held",.int hd),("s",.int s),("tossed",.ref aT)]
section
variable {g aT:Addr} {nr mn hd s:Int}
theorem pa1:bL "game" (.ref g) []=a1 g:=by rfl'
theorem pa2:bL "number" (.int nr) (a1 g)=a2 g nr:=by rfl'
theorem pa3:bL "many" (.int mn) (a2 g nr)=a3 g nr mn:=by rfl'
theorem pa4:bL "held" (.int hd) (a3 g nr mn)=a4 g nr mn hd:=by rfl'
theorem pa5:bL "s" (.int s) (a4 g nr mn hd)=a5 g nr mn hd s:=by rfl'
theorem pa6:bL "tossed" (.ref aT) (a5 g nr mn hd s)=a6 g nr mn hd s aT:=by rfl'
theorem pa7:bL "truths" .non (a6 g nr mn hd s aT)=al g nr mn hd s aT .non:=by rfl'
end
inductive spAInit(CA:Addr)(vs:List V)(H:Hp)(Q:VK)(u_3:XK):Prop
 |mk:∀(k dk g c:Addr)(nr mn hd s:Int)(xs:List V),vs=[.ref k,.ref g,.int nr,.int mn,.int hd,.int s,.ref c]->H k=some (.ins CA dk [])->H c=some (.lst xs)∨H c=some (.tup xs)->(∀(aT:Addr)(H':Hp),H' k=some (.ins CA dk (al g nr mn hd s aT .non))->H' aT=some (.tup xs)->SameBut k H H'->Q .non H')->spAInit CA vs H Q u_3
theorem Cv:FnScope ["self","game","number","many","due","s","coins"] ["self","game","number","many","due","s","coins"] (aq ux):=%[1,1,1,4,1,4|4]
theorem Dr   (F:Fun K "__init__" "Asking.__init__" ux f fd) (B:Bl mg) (T:ATxt K mg CA):FnOk P w K mg base CX0 1 f fd ["self","game","number","many","due","s","coins"] (spAInit CA):=by
 exists Cv
 erw[k,dk,g,c,nr,mn,hd,s,xs,1,hk,hc,q]at h;refine⟨_,(ae (aU (pv 0) (pv 1) rfl)
  (ae (aU (pv 0) (pv 2) rfl)
  (ae (aU (pv 0) (pv 3) rfl)
  (ae (aU (pv 0) (pv 4) rfl)
  (ae (aU (pv 0) (pv 5) rfl)
  (ae (aU (pv 0) (bh bi rfl B.tuple bj %[6|ag]) rfl)
  (ai (aU (pv 0) ow rfl)))))))),?_⟩
 erw[0,0,k,CA,dk,0,hk,T.cl,T.nG,(by show 0<1000;decide),6];rw[pa1];erw[0,0,k,CA,dk,0,am,T.cl,T.nN,(by show 1<1000;decide),6];rw[pa2];erw[0,0,k,CA,dk,0,am,T.cl,T.nM,(by show 2<1000;decide),6];rw[pa3];erw[0,0,k,CA,dk,0,am,T.cl,T.nH,(by show 3<1000;decide),6];rw[pa4];erw[0,0,k,CA,dk,0,am,T.cl,T.nS,(by show 4<1000;decide),6];rw[pa5];have S5:SameBut k H (upd (upd (upd (upd (upd H k (.ins CA dk (a1 g))) k (.ins CA dk (a2 g nr))) k (.ins CA dk (a3 g nr mn))) k (.ins CA dk (a4 g nr mn hd))) k (.ins CA dk (a5 g nr mn hd s))):=(SameBut.upd _).trans ((SameBut.upd _).trans ((SameBut.upd _).trans ((SameBut.upd _).trans (SameBut.upd _))));have g5:upd (upd (upd (upd (upd H k (.ins CA dk (a1 g))) k (.ins CA dk (a2 g nr))) k (.ins CA dk (a3 g nr mn))) k (.ins CA dk (a4 g nr mn hd))) k (.ins CA dk (a5 g nr mn hd s)) k=some (.ins CA dk (a5 g nr mn hd s)):=am;generalize upd (upd (upd (upd (upd H k (.ins CA dk (a1 g))) k (.ins CA dk (a2 g nr))) k (.ins CA dk (a3 g nr mn))) k (.ins CA dk (a4 g nr mn hd))) k (.ins CA dk (a5 g nr mn hd s))=H5 at S5 g5;rcases hc with hc | hc
 . have hc5:=S5 _ _ (bu hc hk (by intro z;cases z)) hc;erw[0,c,0,.inl %[zH0 hc5|λaT ha=>?_]];have aK:aT≠k:=(aQ g5 ha).symm;erw[0,k,CA,dk,0,by rw[aG aK.symm];exact g5,T.cl,T.nT,(by show 5<1000;decide),6];rw[pa6];erw[0,k,CA,dk,0,am,T.cl,T.nR,(by show 6<1000;decide),6];rw[pa7];exact q aT _ am (by rw[aG aK,aG aK];exact am) (S5.trans ((zK0 (zE0 ha _)).trans ((SameBut.upd _).trans (SameBut.upd _))))
 . have nc:=bu hc hk (by intro z;cases z);have hc5:=S5 _ _ nc hc;erw[0,c,0,.inr %[zB0 hc5|6]];erw[0,k,CA,dk,0,g5,T.cl,T.nT,(by show 5<1000;decide),6];rw[pa6];erw[0,k,CA,dk,0,am,T.cl,T.nR,(by show 6<1000;decide),6];rw[pa7];exact q c _ am (by rw[aG nc,aG nc];exact hc5) (S5.trans ((SameBut.upd _).trans (SameBut.upd _)))
inductive spSay(CM CG:Addr)(vs:List V)(H:Hp)(Q:VK)(u_3:XK):Prop
 |mk:∀(M g h b dm c:Addr)(rv:List V)(z:Ak)(rows:List Hr)(bx:Str->Int)(m:Nat),vs=[.ref M,.int z.mn,.int z.hd,.int z.s,.ref c]->H M=some (.ins CM dm (ml g h z.nr b))->H h=some (.tup rv)->RowsAt H rv rows->(∀r∈rows,r.good)->BxAt H b bx m->kA z.p bx->m<=5000->Gm CG H g z.ns z.ts z.p->AkOk z->H c=some (.lst (z.to.map V.int))∨H c=some (.tup (z.to.map V.int))->0<=z.mn->z.mn<=500->(∀(l:Addr)(H':Hp),H l=none->H' l=some (.lst ((qZ z.mn (lG z rows 200 ⟨0,bx,[]⟩).sd).map V.int))->BxAt H' b (lG z rows 200 ⟨0,bx,[]⟩).bx (m+200)->H' M=some (.ins CM dm (ml g h (z.nr+1) b))->Gh M b H H'->Q (.ref l) H')->spSay CM CG vs H Q u_3
theorem g9:FnScope ["self","many","due","s","coins","asking","said","place","done"] ["self","many","due","s","coins"] (aq xG):=%[1,1,1,4,1,4|4]
theorem CI(k:Nat)(x:V):(List.replicate k [x]).flatten=List.replicate k x:=by
 induction k with
 | zero=>rfl
 | succ k ih=>rw[List.replicate_succ,List.flatten_cons,ih,List.replicate_succ];rfl
inductive tSayE(Dn:Ends)(σ:St)(H:Hp):Prop
 |mk:∀(x0 x2 x3 x4 x5 x7 x8:Option V)(sd:Addr)(mn:Int)(xs:List Int),σ=[x0,some (.int mn),x2,x3,x4,x5,some (.ref sd),x7,x8]->H sd=some (.lst (xs.map V.int))->xs.length<=200->0<=mn->mn<=500->(∀(l:Addr)(H':Hp),H l=none->Same H H'->H' l=some (.lst ((qZ mn xs).map V.int))->Dn.rt (.ref l) H')->tSayE Dn σ H
theorem Ft   (F:Fun K "say" "Machine.say" xG f fd) (B:Bl mg) (TM:MTxt K mg CM) (TA:ATxt K mg CA) (hmost:∃t,mg "MOST_ROWS_DONE"=some (.int 200 t))
 (MA:Mk K CA fA) (GA:FnOk P w K mg base CX0 1 fA fdA ["self","game","number","many","due","s","coins"] (spAInit CA)) (bA:Binds K fdA ["self","game","number","many","due","s","coins"] [])
 (mR:Meth K CM "do_row" fR) (GR:FnOk P w K mg base CX0 24 fR fdR ["self","place","said","asking"] (spRowM CM CA CG)) (bR:Binds K fdR ["self","place","said","asking"] []):FnOk P w K mg base CX0 25 f fd ["self","many","due","s","coins"] (spSay CM CG):=by
 exists g9
 erw[M,g,h,b,dm,c,rv,z,rows,bx,m,1,hM,hh,RW,rq,BX,bo,mm,GG,ok,hc,mn0,mn1,q]at h;erw[a',b',d',tv,G,hga,hgb,TS,hgd]at GG;erw[te,ge]at hmost;have hr2:Room (1+1) _:=hr.mono ⋯;have hr7:Room 24 _:=hr.mono ⋯;refine⟨_,(ae #[ax,5,g9,gJ MA GA hr2 rfl TA.mgC bA .nil bc %[aD (pv 0) rfl,aD (pv 0) rfl,1,2,3,4|ag]]
  (ae (aU (pv 0) (az aX (aD (pv 0) rfl) aj) rfl)
  (ae #[ax,6,g9,ca ag]
  (ae #[ax,7,g9,aj]
  (ae #[ax,8,g9,aj]
  (ae (ik PassesOwn.never (PW.pt (lH (ao eO (pv 7) (aM aN rfl B.len PySem.boot_len %[aD (pv 0) rfl|ag]) (aE _)) (lH (ao eO (aM aN rfl B.len PySem.boot_len %[6|ag]) (pv 1) (aE _)) (kK (ao eO (pv 8) (cV (v:=.int 200) rfl ge ⟨_,rfl⟩) (aE _)))))) (ae #[ax,7,g9,bY (pv 0) TM.cl mR GR hr7 bR .nil bc %[7,6,5|ag]]
   (ai #[ax,8,g9,az aX (pv 8) aj])))
  (jx (t':=tSayE) (ai (au (az ox (pv 6) (az HA (ca %[aj|ag]) (az bO (pv 1) (aM aN rfl B.len PySem.boot_len %[6|ag])))))) (by
   rintro Dn σ H ⟨x0,x2,x3,x4,x5,x7,x8,sd,mn,xs,rfl,hsd,xl,mn0,mn1,q⟩;erw[0,(by show 1<=sizeLine;decide),λz hz=>?_];have I1:=zE0 hz (.lst [.int 0]);have g1:upd H z (.lst [.int 0]) z=some (.lst [.int 0]):=am;generalize upd H z (.lst [.int 0])=H1 at I1 g1;erw[0,0,sd,0,.inl (zH0 (I1 _ _ hsd)),2,6];have el:((xs.map V.int).length:Int)=(xs.length:Int):=by rw[zF0]
   erw[z,2,g1,3,3,cv (by show 1*(mn-((xs.map V.int).length:Int)).toNat<=1000;omega),λy hy=>?_];rw[CI];have I2:=zE0 hy (.lst (List.replicate (mn-((xs.map V.int).length:Int)).toNat (.int 0)));have g2:upd H1 y (.lst (List.replicate (mn-((xs.map V.int).length:Int)).toNat (.int 0))) y=some (.lst (List.replicate (mn-((xs.map V.int).length:Int)).toNat (.int 0))):=am;generalize upd H1 y (.lst (List.replicate (mn-((xs.map V.int).length:Int)).toNat (.int 0)))=H2 at I2 g2;erw[sd,y,2,I2 _ _ (I1 _ _ hsd),g2,6,λl hl=>?_]
   . rw[List.length_replicate,zF0];exact cv #[0]
   refine q l _ ?_ (I1.trans (I2.trans (zE0 hl _))) ?_
   . cases e:H l with
     | none=>rfl
     | some o=>rw[I2 _ _ (I1 _ _ e)]at hl;cases hl
   . rw[am,el];unfold qZ;rw[zL0,List.map_replicate])))))))),?_⟩
 erw[0,M,CM,dm,_,0,hM,TM.cl,TM.nG,ml_g,0,M,CM,dm,_,0,hM,TM.cl,TM.nR,HG,0,0,0,0,λk dk hk hdk nk=>?_];have S1:Same H (upd (upd H dk (.own k)) k (.ins CA dk [])):=λa o e=>by
  rw[aG (aQ e hk),aG (aQ e hdk)];exact e
 have g1:upd (upd H dk (.own k)) k (.ins CA dk []) k=some (.ins CA dk []):=am;generalize upd (upd H dk (.own k)) k (.ins CA dk [])=H1 at S1 g1;erw[k,dk,g,c,z.nr,z.mn,z.hd,z.s,z.to.map V.int,1,g1,hc.imp (S1 _ _) (S1 _ _),λaT H2 hk2 hT2 S2=>%[1|6]];have S02:Same H H2:=Same.but S1 hk S2;clear S1 S2 g1;have hM2:=S02 _ _ hM;erw[0,M,CM,dm,_,0,hM2,TM.cl,TM.nR,HG,2,0,M,CM,dm,0,hM2,TM.cl,TM.nR,yq,6];rw[DG];have nMk:M≠k:=aQ hM hk;have S3:SameBut M H2 (upd H2 M (.ins CM dm (ml g h (z.nr+1) b))):=SameBut.upd _;have hM3:upd H2 M (.ins CM dm (ml g h (z.nr+1) b)) M=some (.ins CM dm (ml g h (z.nr+1) b)):=am;generalize upd H2 M (.ins CM dm (ml g h (z.nr+1) b))=H3 at S3 hM3;erw[(by show 0<=sizeLine;decide),λsd hsd=>?_];have I4:=zE0 hsd (.lst []);have g4:upd H3 sd (.lst []) sd=some (.lst []):=am;generalize upd H3 sd (.lst [])=H4 at I4 g4;have gM:g≠M:=λe=>by
  erw[dg,hg]at G;rw[e,hM]at hg;cases hg
 have nbM:b≠M:=by
  erw[kvs,e,_]at BX;exact bu e hM (by intro z;cases z)
 have S04:SameBut M H H4:=(zK0 S02).trans (S3.trans (zK0 I4));have hM4:=I4 _ _ hM3;have kT:cg H H4:=λc xs h=>S04 c _ (bu h hM (by intro z;cases z)) h
 have hh4:=kT _ _ hh;have RW4:=RW.mono kT;have BX4:BxAt H4 b bx m:=BX.keep λo e=>S04 b o nbM e
 have G4:GameAt CG H4 g a' b' d' z.p:=by
  erw[dg,hg]at G;erw[dg,S04 _ _ gM hg]
 have hT4:H4 aT=some (.tup (z.to.map V.int)):=I4 _ _ (S3 _ _ (bu hT2 hM2 (by intro z;cases z)) hT2);have hgd4:=S04 _ _ (bu hgd hM (by intro z;cases z)) hgd;have nds:d'≠sd:=aQ (S3 _ _ (bu hgd hM (by intro z;cases z)) (S02 _ _ hgd)) hsd;have hk4:=I4 _ _ (S3 _ _ nMk.symm hk2);have b4:∃kvs,H4 b=some (.dK kvs):=by
  erw[kvs,e,_]at BX4;erw[kvs,e]
 erw[kv4,hb4]at b4;have nbs:b≠sd:=bu hb4 g4 (by intro z;cases z);have nhb:h≠b:=bu hh4 hb4 (by intro z;cases z);have nhs:h≠sd:=bu hh4 g4 (by intro z;cases z);have nMs:M≠sd:=bu hM4 g4 (by intro z;cases z);have nkb:k≠b:=bu hk4 hb4 (by intro z;cases z);have nks:k≠sd:=bu hk4 g4 (by intro z;cases z);have AK4:AkAt CA CG H4 k g sd z:=%[dk,aT,a',b',d',tv,.non,hk4,G4,kT _ _ hga,kT _ _ hgb,TS.mono kT,hgd4,nds,hT4|.inl rfl]
 have sd0:H sd=none:=by
  cases e:H sd with
  | none=>rfl
  | some o=>rw[S3 _ _ nMs.symm (S02 _ _ e)]at hsd;cases hsd
 erw[λmm σ H'=>∃(st:MS)(d:Nat),σ=[some (.ref M),some (.int z.mn),some (.int z.hd),some (.int z.s),some (.ref c),some (.ref k),some (.ref sd),some (.int st.pl),some (.int (d:Int))]/\d<=200/\mm=200-d/\0<=st.pl/\st.sd.length<=d/\lG z rows (200-d) st=lG z rows 200 %[(0),bx|[]]/\H' sd=some (.lst (st.sd.map V.int))/\BxAt H' b st.bx (m+d)/\kA z.p st.bx/\cj st.sd z.p/\AkAt CA CG H' k g sd z/\But3 b sd k H4 H',%[_,%[(0),bx|[]],(0),1,zU0 _,1,Int.le_refl 0,zG0 _,1,g4,BX4,bo,(λx hx=>by cases hx),AK4|λ_ _ _ _ _ e=>e],6]
 rintro mm σ H' ⟨st,d,rfl,d2,rfl,st0,sl,hrun,hsd',BX',bo',so',AK',S'⟩;have hM':=S' _ _ nbM.symm nMs nMk hM4;have hh':=S' _ _ nhb nhs (bu hh4 hk4 (by intro z;cases z)) hh4;have kT':cg H4 H':=λc xs h=>S' c _ (bu h hb4 (by intro z;cases z)) (bu h g4 (by intro z;cases z)) (bu h hk4 (by intro z;cases z)) h
 have RW':=RW4.mono kT';have fin:lG z rows (200-d) st=st->∀(l:Addr)(H5:Hp),H' l=none->Same H' H5->H5 l=some (.lst ((qZ z.mn st.sd).map V.int))->Q (.ref l) H5:=λer l H5 l0 S5 hl=>by
  rw[er]at hrun;rw[←hrun]at q;refine q l H5 ?_ hl ((BX'.keep λo e=>S5 b o e).le #[0]) (S5 _ _ hM') (λa o h1 h2 e=>?_)
  . cases e:H l with
    | none=>rfl
    | some o=>
      have lM:l≠M:=λz=>by rw[z,hM']at l0;cases l0
      have lb:l≠b:=λz=>by
       erw[kvs,e',_]at BX';rw[z,e']at l0;cases l0
      have ls:l≠sd:=λz=>by rw[z,hsd']at l0;cases l0
      rw[S' _ _ lb ls (aQ e hk) (S04 _ _ lM e)]at l0;cases l0
  . exact S5 _ _ (S' _ _ h2 (aQ e sd0) (aQ e hk) (S04 _ _ h1 e))
 erw[0,0,M,CM,dm,_,0,hM',TM.cl,TM.nH,FF,h,0,.inr (zB0 hh'),2,0,6];rw[RW.1]
 by_cases c1:st.pl<(rows.length:Int)
 . refine bb c1 ?_;erw[0,sd,0,.inl (zH0 hsd'),0,2,0,6];rw[zF0]
   by_cases c2:(st.sd.length:Int)<z.mn
   . refine bb c2 ?_;erw[0,2,0,6]
     by_cases c3:d<200
     . refine bb #[0] ?_;erw[_,λ_ _ h=>h,6];erw[0,M,dm,0,hM',ml_n1,0,0,0,M,g,h,b,dm,k,sd,rv,_,st.pl,z,rows,st.bx,m+d,st.sd,1,hM',nMk,hh',RW',rq,st0,c1,BX',bo',3,hsd',3,AK',ok,λH6 hs6 BX6 A6 S6=>?_];erw[0,2,6];erw[_,(show 200-(d+1)<200-d by omega),eF z rows st,d+1,1,c3,1,Cd rq st0,zP0 vt (Nat.succ_le_succ sl),6,hs6,BX6,(qp ok bo' so').1,(qp ok bo' so').2,A6,S'.trans S6];rw[←hrun,show 200-d=(200-(d+1))+1 by omega];exact(zC0 ⟨c1,c2⟩).symm
     . refine aI #[0] ?_;have ed:200-d=0:=by omega
       erw[_,_,_,_,_,_,_,sd,z.mn,st.sd,1,hsd',3,mn0,mn1,fin (by rw[ed];rfl)]
   . refine aI c2 (cO ?_);erw[_,_,_,_,_,_,_,sd,z.mn,st.sd,1,hsd',3,mn0,mn1,fin ?_];cases 200-d with
     | zero=>rfl
     | succ n=>exact zA0 (λz=>c2 z.2)
 . refine aI c1 (cO ?_);erw[_,_,_,_,_,_,_,sd,z.mn,st.sd,1,hsd',3,mn0,mn1,fin ?_];cases 200-d with
   | zero=>rfl
   | succ n=>exact zA0 (λz=>c1 z.1)
end
section
variable {ns:List Str} {ts:List Tr} {p:Int}
theorem mQ(k:GmK ns ts p)(x:Str):0<=bN ts x/\bN ts x<=400:=by
 have t0:ts≠[]:=λz=>by have:=k.t1;rw[z]at this;cases this
 have:=kj (ns:=ts.map λt=>(t.names.count x:Int)) (by simpa using t0)
 let%[t,ht|e]:=List.mem_map.mp this;unfold bN;rw[←e];have h1:=List.count_le_length (a:=x) (l:=t.names);have h2:=t.names_len;have h3:=(k.tok t ht).2.2.2;omega
end
structure HearOk(ns:List Str)(p:Int)(z:Db)(xs:List Int):Prop where
 aw:z.aw=(("hear":Str),some (xs.length:Int))
 xo:cj xs p
 x5:xs.length<=500
 ro:z.cl≠[]->lu xs p
 tl:z.to.length<=ns.length
 po:cj z.to p
structure TossOk(ns:List Str)(p:Int)(z:Db)(r:Int):Prop where
 aw:z.aw.1="coin"
 r0:0<=r
 r1:r<p
 tl:z.to.length<=ns.length
 ro:z.he≠[]->lu z.he p/\z.to.length<ns.length
 po:cj z.to p
section
variable {C CG cT cC cN:Addr}
structure Gd(ns:List Str)(ts:List Tr)(p:Int)(z:Db):Prop where
 tl:z.to.length<=ns.length
 po:cj z.to p
 e0:0<=z.ed
 e1:z.ed<p
 he:z.aw.1="hear" -> (z.cl=[]/\z.aw=(("hear":Str),some (ts.length:Int)))∨(z.cl≠[]/\z.to.length<ns.length/\z.aw=(("hear":Str),some (bN ts (ns.getD z.to.length "")+1)))
 co:z.aw.1="coin" -> z.cl≠[]/\(z.he≠[]->lu z.he p/\z.to.length<ns.length)
 h0:z.cl=[]->z.he=[]
 ww:AwW z.aw.1
section
variable {ns:List Str} {ts:List Tr} {p:Int} {z:Db}
theorem Gd.new(k:GmK ns ts p):Gd ns ts p (Db.new ts):=by
 have:=k.p2
 erw[zU0 _,(λx hx=>by cases hx),Int.le_refl _,(by show(0:Int)<p;omega),λ_=>.inl %[1|1],(λh=>by cases h),λ_=>rfl,.inl rfl]
theorem Gd.goOn(tl:z.to.length<=ns.length)(po:cj z.to p)(e0:0<=z.ed)(e1:z.ed<p)(cl:z.cl≠[]):Gd ns ts p (goOn ns ts p z):=by
 unfold Mine.goOn
 by_cases c:z.to.length<ns.length
 . rw[zC0 c];erw[tl,po,e0,e1,λ_=>.inr %[cl,c|1],(λh=>by cases h),λh=>absurd h cl,.inl rfl]
 . rw [zA0 c];unfold eA
   by_cases e:z.ed=hor z.s p (ts.map λt=>t.worth ns z.to p)
   . rw[zC0 e];erw[tl,po,e0,e1,(λh=>by cases h),(λh=>by cases h),λh=>absurd h cl,.inr (.inr (.inr rfl))]
   . rw[zA0 e];erw[tl,po,e0,e1,(λh=>by cases h),(λh=>by cases h),λh=>absurd h cl,.inr (.inr (.inl rfl))]
theorem Gd.hear_ne(k:GmK ns ts p)(h:Gd ns ts p z)(ok:HearOk ns p z xs):xs≠[]:=λe=>by
 have a:=ok.aw;rw[e,List.length_nil]at a;have t1:=k.t1;rcases h.he (by rw[a])with⟨_,w⟩ | ⟨_,_,w⟩
 . rw [w]at a
   have:=zT0 (Prod.mk.inj a).2
   omega
 . rw [w]at a
   have:=zT0 (Prod.mk.inj a).2
   have:=mQ k (ns.getD z.to.length "")
   omega
theorem Gd.hear(k:GmK ns ts p)(h:Gd ns ts p z)(ok:HearOk ns p z xs):Gd ns ts p (cX ns ts p xs z)/\(cX ns ts p xs z).cl≠[]:=by
 have p2:=k.p2;have xn:=h.hear_ne k ok;have a1:z.aw.1="hear":=by rw[ok.aw]
 unfold cX
 by_cases c:z.cl=[]
 . rw [zC0 c];unfold jL
   by_cases c1:ts.length=1
   . rw [zC0 c1];unfold wN;have hr:=qb (s:=0) (p:=p) #[0] xs;erw[Gd.goOn h.tl h.po hr.1 hr.2 xn,6];unfold Mine.goOn eA
     split <;> exact xn
   . rw[zA0 c1];erw[%[h.tl,h.po,h.e0,h.e1,(λz=>by cases z),λ_=>%[xn|λe=>absurd (h.h0 c) e],λe=>absurd e xn|.inr (.inl rfl)],xn]
 . rw [zA0 c];unfold dI;have tl:z.to.length<ns.length:=by
    rcases h.he a1 with⟨e,_⟩ | ⟨_,t,_⟩
    . exact absurd e c
    . exact t
   by_cases e:(val p xs 0+val p xs 1) % p=z.ed
   . rw[zC0 e];erw[%[h.tl,h.po,h.e0,h.e1,(λz=>by cases z),λ_=>%[c|λ_=>%[ok.ro c|tl]],λe=>absurd e c|.inr (.inl rfl)],c]
   . rw[zA0 e];erw[%[h.tl,h.po,h.e0,h.e1,(λz=>by cases z),(λz=>by cases z),λe=>absurd e c|.inr (.inr (.inl rfl))],c]
theorem Gd.toss(k:GmK ns ts p)(h:Gd ns ts p z)(ok:TossOk ns p z r):Gd ns ts p (dB ns ts p r z)/\(dB ns ts p r z).cl≠[]:=by
 have p2:=k.p2;let%[cl|ro]:=h.co ok.aw;unfold dB
 by_cases c:z.he=[]
 . rw [zC0 c];unfold wN;have hr:=qb (s:=r) (p:=p) #[0] z.cl;erw[Gd.goOn h.tl h.po hr.1 hr.2 cl,6];unfold Mine.goOn eA
   split <;> exact cl
 . rw [zA0 c];have hr:=EJ (p:=p) #[0] z.he r;erw[Gd.goOn ?_ (λx hx=>?_) hr.1 hr.2 cl,6]
   . show (z.to++[r]).length<=_;rw[zJ0,qG0]
     have:=(ro c).2
     omega
   . rcases qM0 hx with h' | h'
     . exact h.po x h'
     . rw[zS0 h'];erw[ok.r0,ok.r1]
   . unfold Mine.goOn eA
     split <;> exact cl
end
end
structure Tk where
 z:Db
 bx:Str->Int
 nr:Int
def awN(z:Db):Int:=z.aw.2.getD 0
def Tk.ak(ns:List Str)(ts:List Tr)(p:Int)(t:Tk):Ak:=%[ns,ts,p,t.nr,awN t.z,t.z.ed,t.z.s|t.z.to]
noncomputable def Tk.run(ns:List Str)(ts:List Tr)(p:Int)(rows:List Hr)(t:Tk):MS:=lG (t.ak ns ts p) rows 200 %[(0),t.bx|[]]
noncomputable def Tk.said(ns:List Str)(ts:List Tr)(p:Int)(rows:List Hr)(t:Tk):List Int:=qZ (awN t.z) (t.run ns ts p rows).sd
noncomputable def Tk.ask(ns:List Str)(ts:List Tr)(p:Int)(rows:List Hr)(t:Tk):Tk:=%[cX ns ts p (t.said ns ts p rows) t.z,(t.run ns ts p rows).bx|t.nr+1]
noncomputable def Tk.toss(ns:List Str)(ts:List Tr)(p r:Int)(t:Tk):Tk:=%[dB ns ts p r t.z,t.bx|t.nr]
def Tk.new(ts:List Tr):Tk:=%[Db.new ts,λ_=>0|(0)]
def bZ (ns:List Str) (z:Db):Nat:=if z.aw.1="hear" then 2*(ns.length-z.to.length)else if z.aw.1="coin" then(if z.he=[]then 2*ns.length+1 else 2*(ns.length-z.to.length)-1)else 0
def bQ (ns:List Str) (z:Db):Nat:=if z.aw.1="hear" then ns.length-z.to.length else if z.aw.1="coin" then(if z.he=[]then ns.length+1 else ns.length-z.to.length)else 0
structure TkOk(ns:List Str)(ts:List Tr)(p:Int)(t:Tk):Prop where
 gd:Gd ns ts p t.z
 cl:t.z.cl≠[]
 s0:0<=t.z.s
 s1:t.z.s<p
 bo:kA p t.bx
 nr:1<=t.nr
 fi:t.z.aw.1="coin" -> t.z.he=[]->t.z.to=[]
section
variable {ns:List Str} {ts:List Tr} {p:Int} {t:Tk} {rows:List Hr}
theorem iG:¬ (("coin":Str)="hear"):=by decide
theorem zu:¬ (("caught":Str)="hear"):=by decide
theorem ne_w3:¬ (("caught":Str)="coin"):=by decide
theorem Dw:¬ (("believed":Str)="coin"):=by decide
theorem rN(z:Db):(goOn ns ts p z).s=z.s/\(goOn ns ts p z).to=z.to/\(goOn ns ts p z).he=z.he/\(goOn ns ts p z).cl=z.cl:=by
 unfold goOn eA
 split <;> erw[1,1,1,1]
theorem jE (z:Db):¬ (goOn ns ts p z).aw.1="coin":=by
 unfold goOn eA
 split
 . exact λh=>iG h.symm
 . show ¬ (if _ then _ else _:Str×Option Int).1="coin"
   split
   . exact Dw
   . exact ne_w3
theorem oG(z:Db):bZ ns (goOn ns ts p z)<=2*(ns.length-z.to.length)/\bQ ns (goOn ns ts p z)<=ns.length-z.to.length:=by
 let%[_,e|_]:=rN (ns:=ns) (ts:=ts) (p:=p) z;have no:=jE (ns:=ns) (ts:=ts) (p:=p) z;unfold bZ bQ;rw[e,zA0 no,zA0 no]
 constructor <;> split <;> omega
theorem TkOk.ak (k:GmK ns ts p) (n6:ns.length<=6) (h:TkOk ns ts p t) (hw:t.z.aw.1="hear"):AkOk (t.ak ns ts p)/\0<=awN t.z/\awN t.z<=500/\t.z.to.length<ns.length/\t.z.aw=(("hear":Str),some (awN t.z))/\awN t.z=bN ts (ns.getD t.z.to.length "")+1:=by
 rcases h.gd.he hw with⟨e,_⟩ | ⟨_,tl,aw⟩
 . exact absurd e h.cl
 have ea:awN t.z=bN ts (ns.getD t.z.to.length "")+1:=by unfold awN;rw[aw];rfl
 let%[d0|d4]:=mQ k (ns.getD t.z.to.length "");have nr:=h.nr;erw[%[k,n6,by show 0<=t.nr;omega,λ_=>tl,h.gd.po,h.s0,h.s1,h.gd.e0,h.gd.e1|by show t.z.to.length<=100;omega],3,3,tl,by rw[ea];exact aw,ea]
theorem TkOk.hear (k:GmK ns ts p) (n6:ns.length<=6) (h:TkOk ns ts p t) (hw:t.z.aw.1="hear"):HearOk ns p t.z (t.said ns ts p rows):=by
 let%[ok,a0,a5,tl,aw|ea]:=h.ak k n6 hw;have p2:=k.p2;have p9:=k.p9;let%[_,r2|r3]:=me (rows:=rows) ok 200 %[(0),t.bx|[]] h.bo (λx hx=>by cases hx) a0;have xo:cj (t.said ns ts p rows) p:=zo r2 (by show 0<p;omega);have xl:((t.said ns ts p rows).length:Int)=awN t.z:=vK r3;have hx:ns.getD t.z.to.length ""∈ns:=by
  rw[qL0,zM0 tl];exact qP0 tl
 let%[d0|d1]:=k.deg _ hx;let%[_|d4]:=mQ k (ns.getD t.z.to.length "");erw[by rw[xl];exact aw,xo,3,λ_=>%[3,3,3|λj=>?_],h.gd.tl,h.gd.po]
 have:=mN xo #[0] j
 omega
theorem yD(z:Db)(xs:List Int)(x0:xs≠[]):bZ ns (dI p xs z)<=2*(ns.length-z.to.length)-1/\bQ ns (dI p xs z)<=ns.length-z.to.length:=by
 have h1:(dI p xs z).to=z.to:=rfl;have h2:(dI p xs z).he=xs:=rfl;unfold bZ bQ;rw[h1,h2,zA0 x0,zA0 x0];have nh:¬ (dI p xs z).aw.1="hear":=by
  unfold dI;show ¬ (if _ then _ else _:Str×Option Int).1="hear"
  split
  . exact iG
  . exact zu
 rw[zA0 nh,zA0 nh]
 constructor <;> split <;> omega
theorem TkOk.ask (k:GmK ns ts p) (n6:ns.length<=6) (h:TkOk ns ts p t) (hw:t.z.aw.1="hear"):TkOk ns ts p (t.ask ns ts p rows)/\bZ ns (t.ask ns ts p rows).z<bZ ns t.z/\bQ ns (t.ask ns ts p rows).z<=bQ ns t.z/\¬ (t.ask ns ts p rows).z.aw.1="hear":=by
 let%[ok,a0,a5,tl,aw|ea]:=h.ak k n6 hw;have ho:=h.hear (rows:=rows) k n6 hw;let%[r1,_|_]:=me (rows:=rows) ok 200 %[(0),t.bx|[]] h.bo (λx hx=>by cases hx) a0;let%[g1|g2]:=h.gd.hear k ho;have x0:=h.gd.hear_ne k ho;have e:cX ns ts p (t.said ns ts p rows) t.z=dI p (t.said ns ts p rows) { t.z with pl:=t.z.pl+((t.said ns ts p rows).length:Int) }:=zA0 h.cl;have nr:=h.nr;let%[l1|l2]:=yD (ns:=ns) (p:=p) { t.z with pl:=t.z.pl+((t.said ns ts p rows).length:Int) } _ x0;have s1:bZ ns t.z=2*(ns.length-t.z.to.length):=zC0 hw;have s2:bQ ns t.z=ns.length-t.z.to.length:=zC0 hw;erw[%[g1,g2,6,6,r1,by show 1<=t.nr+1;omega|λ_ he=>?_],6,6,6]
 . show 0<=(cX ns ts p _ t.z).s;rw[e];exact h.s0
 . show(cX ns ts p _ t.z).s<p;rw[e];exact h.s1
 . have:(cX ns ts p (t.said ns ts p rows) t.z).he=[]:=he
   rw[e]at this;exact absurd this x0
 . show bZ ns (cX ns ts p _ t.z)<_;rw[e,s1];have l1':bZ ns (dI p (t.said ns ts p rows) { t.z with pl:=t.z.pl+((t.said ns ts p rows).length:Int) })<=2*(ns.length-t.z.to.length)-1:=l1;omega
 . show bQ ns (cX ns ts p _ t.z)<=_;rw[e,s2];exact l2
 . show ¬ (cX ns ts p _ t.z).aw.1="hear";rw[e];unfold dI;show ¬ (if _ then _ else _:Str×Option Int).1="hear"
   split
   . exact iG
   . exact zu
theorem TkOk.tossOk (h:TkOk ns ts p t) (hw:t.z.aw.1="coin") {r:Int} (r0:0<=r) (r1:r<p):TossOk ns p t.z r:=%[hw,r0,r1,h.gd.tl,(h.gd.co hw).2|h.gd.po]
theorem TkOk.toss (k:GmK ns ts p) (h:TkOk ns ts p t) (hw:t.z.aw.1="coin") {r:Int} (r0:0<=r) (r1:r<p):TkOk ns ts p (t.toss ns ts p r)/\bZ ns (t.toss ns ts p r).z<bZ ns t.z/\bQ ns (t.toss ns ts p r).z+1<=bQ ns t.z/\¬ (t.toss ns ts p r).z.aw.1="coin"/\(t.z.he=[]->(t.toss ns ts p r).z.s=r/\(t.toss ns ts p r).z.to=[])/\(t.z.he≠[]->(t.toss ns ts p r).z.s=t.z.s/\(t.toss ns ts p r).z.to=t.z.to++[r]):=by
 have ok:=h.tossOk hw r0 r1;let%[g1|g2]:=h.gd.toss k ok;have nh:¬ t.z.aw.1="hear":=by rw[hw];exact iG
 have s1:bZ ns t.z=if t.z.he=[]then 2*ns.length+1 else 2*(ns.length-t.z.to.length)-1:=by unfold bZ;rw[zA0 nh,zC0 hw]
 have s2:bQ ns t.z=if t.z.he=[]then ns.length+1 else ns.length-t.z.to.length:=by unfold bQ;rw[zA0 nh,zC0 hw]
 have nr:=h.nr
 by_cases c:t.z.he=[]
 . have et:=h.fi hw c;have e:dB ns ts p r t.z=goOn ns ts p { t.z with pl:=t.z.pl+1,s:=r,ed:=hor r p t.z.cl }:=zC0 c;have lw:=rN (ns:=ns) (ts:=ts) (p:=p) { t.z with pl:=t.z.pl+1,s:=r,ed:=hor r p t.z.cl };have ll:=oG (ns:=ns) (ts:=ts) (p:=p) { t.z with pl:=t.z.pl+1,s:=r,ed:=hor r p t.z.cl };have ln:=jE (ns:=ns) (ts:=ts) (p:=p) { t.z with pl:=t.z.pl+1,s:=r,ed:=hor r p t.z.cl };rw[←e]at lw ll ln;erw[w1,w2,w3,w4]at lw;have l1:bZ ns (dB ns ts p r t.z)<=2*(ns.length-t.z.to.length):=ll.1;have l2:bQ ns (dB ns ts p r t.z)<=ns.length-t.z.to.length:=ll.2;rw[zC0 c]at s1 s2;erw[%[g1,g2,6,6,h.bo,nr|λa=>absurd a ln],6,6,ln,λ_=>%[w1|w2.trans et],λz=>absurd c z]
   . show 0<=(dB ns ts p r t.z).s;rw[w1];exact r0
   . show(dB ns ts p r t.z).s<p;rw[w1];exact r1
   . show bZ ns (dB ns ts p r t.z)<_;omega
   . show bQ ns (dB ns ts p r t.z)+1<=_;omega
 . have tl:=((h.gd.co hw).2 c).2;have e:dB ns ts p r t.z=goOn ns ts p { t.z with pl:=t.z.pl+1,ed:=val p t.z.he r,to:=t.z.to++[r] }:=zA0 c;have lw:=rN (ns:=ns) (ts:=ts) (p:=p) { t.z with pl:=t.z.pl+1,ed:=val p t.z.he r,to:=t.z.to++[r] };have ll:=oG (ns:=ns) (ts:=ts) (p:=p) { t.z with pl:=t.z.pl+1,ed:=val p t.z.he r,to:=t.z.to++[r] };have ln:=jE (ns:=ns) (ts:=ts) (p:=p) { t.z with pl:=t.z.pl+1,ed:=val p t.z.he r,to:=t.z.to++[r] };rw[←e]at lw ll ln;erw[w1,w2,w3,w4]at lw;have el:(t.z.to++[r]).length=t.z.to.length+1:=by rw[zJ0];rfl
   have l1:bZ ns (dB ns ts p r t.z)<=2*(ns.length-(t.z.to++[r]).length):=ll.1;have l2:bQ ns (dB ns ts p r t.z)<=ns.length-(t.z.to++[r]).length:=ll.2;rw[el]at l1 l2;rw[zA0 c]at s1 s2;erw[%[g1,g2,6,6,h.bo,nr|λa=>absurd a ln],6,6,ln,λz=>absurd z c,λ_=>%[w1|w2]]
   . show 0<=(dB ns ts p r t.z).s;rw[w1];exact h.s0
   . show(dB ns ts p r t.z).s<p;rw[w1];exact h.s1
   . show bZ ns (dB ns ts p r t.z)<_;omega
   . show bQ ns (dB ns ts p r t.z)+1<=_;omega
theorem yh(k:GmK ns ts p)(n6:ns.length<=6):AkOk ((Tk.new ts).ak ns ts p)/\awN (Tk.new ts).z=(ts.length:Int)/\HearOk ns p (Db.new ts) ((Tk.new ts).said ns ts p rows)/\kA p (Tk.new ts).bx:=by
 have p2:=k.p2;have t1:=k.t1;have t10:=k.t10;have b0:kA p (Tk.new ts).bx:=λx=>by show(0:Int)<=0/\(0:Int)<p;omega
 have ok:AkOk ((Tk.new ts).ak ns ts p):=%[k,n6,Int.le_refl 0,λz=>absurd z (by show ¬ (0:Int)<0;omega),(λx hx=>by cases hx),Int.le_refl 0,(by show(0:Int)<p;omega),Int.le_refl 0,(by show(0:Int)<p;omega)|zU0 _]
 let%[_,r2|r3]:=me (rows:=rows) ok 200 %[(0),(Tk.new ts).bx|[]] b0 (λx hx=>by cases hx) (by show(0:Int)<=(ts.length:Int);omega);have xl:(((Tk.new ts).said ns ts p rows).length:Int)=(ts.length:Int):=vK r3;erw[ok,1,%[6,zo r2 (by show 0<p;omega),3,λz=>absurd rfl z,zU0 _|λx hx=>by cases hx],b0];rw[xl];rfl
theorem kO (k:GmK ns ts p) (n6:ns.length<=6):TkOk ns ts p ((Tk.new ts).ask ns ts p rows)/\bZ ns ((Tk.new ts).ask ns ts p rows).z<=2*ns.length+1/\bQ ns ((Tk.new ts).ask ns ts p rows).z<=ns.length+(if 1<ts.length then 1 else 0)/\(1<ts.length->((Tk.new ts).ask ns ts p rows).z.aw=(("coin":Str),none)/\((Tk.new ts).ask ns ts p rows).z.he=[]/\((Tk.new ts).ask ns ts p rows).z.to=[])/\(¬ 1<ts.length->¬ ((Tk.new ts).ask ns ts p rows).z.aw.1="coin"/\((Tk.new ts).ask ns ts p rows).z.s=0/\((Tk.new ts).ask ns ts p rows).z.to=[]):=by
 have p2:=k.p2;have t1:=k.t1;let%[ok,_,ho|b0]:=yh (rows:=rows) k n6;let%[r1,_|_]:=me (rows:=rows) ok 200 %[(0),(Tk.new ts).bx|[]] b0 (λx hx=>by cases hx) (by show(0:Int)<=(ts.length:Int);omega);let%[g1|g2]:=(Gd.new k).hear k ho;have e0:cX ns ts p ((Tk.new ts).said ns ts p rows) (Db.new ts)=jL ns ts p ((Tk.new ts).said ns ts p rows) { Db.new ts with pl:=(Db.new ts).pl+(((Tk.new ts).said ns ts p rows).length:Int) }:=zC0 rfl
 by_cases c:ts.length=1
 . have e:cX ns ts p ((Tk.new ts).said ns ts p rows) (Db.new ts)=goOn ns ts p { Db.new ts with pl:=(Db.new ts).pl+(((Tk.new ts).said ns ts p rows).length:Int),cl:=(Tk.new ts).said ns ts p rows,s:=0,ed:=hor 0 p ((Tk.new ts).said ns ts p rows) }:=by
    rw[e0];exact zC0 c
   have lw:=rN (ns:=ns) (ts:=ts) (p:=p) { Db.new ts with pl:=(Db.new ts).pl+(((Tk.new ts).said ns ts p rows).length:Int),cl:=(Tk.new ts).said ns ts p rows,s:=0,ed:=hor 0 p ((Tk.new ts).said ns ts p rows) };have ll:=oG (ns:=ns) (ts:=ts) (p:=p) { Db.new ts with pl:=(Db.new ts).pl+(((Tk.new ts).said ns ts p rows).length:Int),cl:=(Tk.new ts).said ns ts p rows,s:=0,ed:=hor 0 p ((Tk.new ts).said ns ts p rows) };have ln:=jE (ns:=ns) (ts:=ts) (p:=p) { Db.new ts with pl:=(Db.new ts).pl+(((Tk.new ts).said ns ts p rows).length:Int),cl:=(Tk.new ts).said ns ts p rows,s:=0,ed:=hor 0 p ((Tk.new ts).said ns ts p rows) };rw[←e]at lw ll ln;erw[w1,w2,w3,w4]at lw;have l1:bZ ns (cX ns ts p ((Tk.new ts).said ns ts p rows) (Db.new ts))<=2*(ns.length-0):=ll.1;have l2:bQ ns (cX ns ts p ((Tk.new ts).said ns ts p rows) (Db.new ts))<=ns.length-0:=ll.2;erw[%[g1,g2,6,6,r1,by show(1:Int)<=0+1;decide|λa=>absurd a ln],6,6,λz=>by omega,λ_=>%[ln,w1|w2]]
   . show 0<=(cX ns ts p _ (Db.new ts)).s;rw[w1];exact Int.le_refl 0
   . show(cX ns ts p _ (Db.new ts)).s<p;rw[w1];show(0:Int)<p;omega
   . show bZ ns (cX ns ts p _ (Db.new ts))<=_;omega
   . show bQ ns (cX ns ts p _ (Db.new ts))<=_;rw[zA0 #[0]];omega
 . have e:cX ns ts p ((Tk.new ts).said ns ts p rows) (Db.new ts)={ Db.new ts with pl:=(Db.new ts).pl+(((Tk.new ts).said ns ts p rows).length:Int),cl:=(Tk.new ts).said ns ts p rows,aw:=("coin",none) }:=by
    rw[e0];exact zA0 c
   have ez:((Tk.new ts).ask ns ts p rows).z={ Db.new ts with pl:=(Db.new ts).pl+(((Tk.new ts).said ns ts p rows).length:Int),cl:=(Tk.new ts).said ns ts p rows,aw:=("coin",none) }:=e;erw[%[g1,g2,6,6,r1,by show(1:Int)<=0+1;decide|λ_ _=>?_],6,6,λ_=>%[6,6|6],λz=>by omega]
   . rw[ez];exact Int.le_refl 0
   . rw[ez];show(0:Int)<p;omega
   . rw[ez];rfl
   . rw[ez];show(if(("coin":Str)="hear")then _ else if(("coin":Str)="coin")then(if([]:List Int)=[]then 2*ns.length+1 else _)else 0)<=_;rw[zA0 iG,zC0 rfl,zC0 rfl];exact zG0 _
   . rw[ez];show(if(("coin":Str)="hear")then _ else if(("coin":Str)="coin")then(if([]:List Int)=[]then ns.length+1 else _)else 0)<=_;rw[zA0 iG,zC0 rfl,zC0 rfl,zC0 #[0]];exact zG0 _
   . rw[ez]
   . rw[ez];rfl
   . rw[ez];rfl
end
inductive TR where
 | claims (xs:List Int) | say (xs:List Int) | coin (r:Int)
noncomputable def cU(ns:List Str)(ts:List Tr)(p:Int)(rows:List Hr):List Int->Nat->Tk->List TR×Tk
 | _,0,t=>([],t)
 | cs,n+1,t=>if t.z.aw.1="hear" then(.say (t.said ns ts p rows)::(cU ns ts p rows cs n (t.ask ns ts p rows)).1,(cU ns ts p rows cs n (t.ask ns ts p rows)).2)
   else if t.z.aw.1="coin" then(.coin (cs.headD 0)::(cU ns ts p rows cs.tail n (t.toss ns ts p (cs.headD 0))).1,(cU ns ts p rows cs.tail n (t.toss ns ts p (cs.headD 0))).2)
   else([],t)
noncomputable def lg(ns:List Str)(ts:List Tr)(p:Int)(rows:List Hr)(cs:List Int):List TR×Tk:=(.claims ((Tk.new ts).said ns ts p rows)::(cU ns ts p rows cs 20 ((Tk.new ts).ask ns ts p rows)).1,(cU ns ts p rows cs 20 ((Tk.new ts).ask ns ts p rows)).2)
theorem dQ      {t:Tk} (h1:¬ t.z.aw.1="hear") (h2:¬ t.z.aw.1="coin"):∀n,cU ns ts p rows cs n t=([],t)
 | 0=>rfl
 | n+1=>by
   show(if _ then _ else _)=_;rw[zA0 h1,zA0 h2]
noncomputable def settle(ns:List Str)(ts:List Tr)(p:Int)(rows:List Hr):Nat->Tk->Tk
 | 0,t=>t
 | n+1,t=>if t.z.aw.1="hear" then settle ns ts p rows n (t.ask ns ts p rows)else t
def iT(f:Int->Int×Option (List Int)):Nat->Int×Option (List Int)
 | 0=>(0,none)
 | k+1=>((iT f k).1+(f (k:Int)).1,(iT f k).2.or (f (k:Int)).2)
noncomputable def gl(ns:List Str)(ts:List Tr)(p:Int)(rows:List Hr)(cn:Nat):Nat->Tk->List Int->Int×Option (List Int)
 | 0,_,_=>(0,none)
 | d+1,t,cs=>if(settle ns ts p rows 2 t).z.aw.1="believed" then(1,none)else if(settle ns ts p rows 2 t).z.aw.1="caught" then(0,some (cs++List.replicate (cn-cs.length) 0))
   else iT (λr=>gl ns ts p rows cn d ((settle ns ts p rows 2 t).toss ns ts p r) (cs++[r])) p.toNat
def Beg(ns:List Str)(ts:List Tr)(p:Int)(t:Tk):Prop:=t=Tk.new ts∨TkOk ns ts p t
section
variable {ns:List Str} {ts:List Tr} {p:Int} {t:Tk} {rows:List Hr}
theorem cR (h:¬ t.z.aw.1="hear"):∀n,settle ns ts p rows n t=t
 | 0=>rfl
 | n+1=>zA0 h
theorem kE (k:GmK ns ts p) (n6:ns.length<=6) (h:TkOk ns ts p t):TkOk ns ts p (settle ns ts p rows 2 t)/\bQ ns (settle ns ts p rows 2 t).z<=bQ ns t.z/\¬ (settle ns ts p rows 2 t).z.aw.1="hear":=by
 by_cases c:t.z.aw.1="hear"
 . let%[o1,_,o3|o4]:=h.ask (rows:=rows) k n6 c;have e:settle ns ts p rows 2 t=t.ask ns ts p rows:=(zC0 c).trans (cR o4 1);rw[e];erw[o1,o3,o4]
 . rw[cR c];erw[h,zG0 _,c]
theorem jb (k:GmK ns ts p) (n6:ns.length<=6):TkOk ns ts p (settle ns ts p rows 2 (Tk.new ts))/\bQ ns (settle ns ts p rows 2 (Tk.new ts)).z<=ns.length+(if 1<ts.length then 1 else 0)/\¬ (settle ns ts p rows 2 (Tk.new ts)).z.aw.1="hear":=by
 let%[o1,_,o3,_|_]:=kO (rows:=rows) k n6;have e:settle ns ts p rows 2 (Tk.new ts)=settle ns ts p rows 1 ((Tk.new ts).ask ns ts p rows):=zC0 rfl;rw[e]
 by_cases c:((Tk.new ts).ask ns ts p rows).z.aw.1="hear"
 . let%[q1,_,q3|q4]:=o1.ask (rows:=rows) k n6 c;have e:settle ns ts p rows 1 ((Tk.new ts).ask ns ts p rows)=((Tk.new ts).ask ns ts p rows).ask ns ts p rows:=zC0 c;rw[e];erw[q1,zP0 q3 o3,q4]
 . rw[cR c];erw[o1,o3,c]
theorem Beg.settle (k:GmK ns ts p) (n6:ns.length<=6) (h:Beg ns ts p t):TkOk ns ts p (settle ns ts p rows 2 t)/\¬ (settle ns ts p rows 2 t).z.aw.1="hear":=by
 rcases h with rfl | h
 . erw[(jb k n6).1,(jb k n6).2.2]
 . erw[(kE k n6 h).1,(kE k n6 h).2.2]
theorem wO (h:TkOk ns ts p t) (hn:¬ t.z.aw.1="hear") (h1:¬ t.z.aw.1="believed") (h2:¬ t.z.aw.1="caught"):t.z.aw.1="coin":=by
 rcases h.gd.ww with e | e | e | e
 . exact absurd e hn
 . exact e
 . exact absurd e h2
 . exact absurd e h1
structure AskOk(ns:List Str)(ts:List Tr)(p:Int)(rows:List Hr)(t:Tk):Prop where
 ak:AkOk (t.ak ns ts p)
 bo:kA p t.bx
 aw:t.z.aw=(("hear":Str),some (awN t.z))
 a0:0<=awN t.z
 a5:awN t.z<=500
 ho:HearOk ns p t.z (t.said ns ts p rows)
theorem Beg.ask (k:GmK ns ts p) (n6:ns.length<=6) (h:Beg ns ts p t) (hw:t.z.aw.1="hear"):AskOk ns ts p rows t:=by
 rcases h with rfl | h
 . let%[ak0,an0,ho0|bo0]:=yh (rows:=rows) k n6;have t1:=k.t1;have t10:=k.t10;erw[ak0,bo0,1,by rw[an0];omega,by rw[an0];omega,ho0]
 . let%[ak,a0,a5,tl,aw|ea]:=h.ak k n6 hw;erw[ak,h.bo,aw,a0,a5,h.hear (rows:=rows) k n6 hw]
theorem Beg.asked (k:GmK ns ts p) (n6:ns.length<=6) (h:Beg ns ts p t) (hw:t.z.aw.1="hear"):TkOk ns ts p (t.ask ns ts p rows):=by
 rcases h with rfl | h
 . exact(kO (rows:=rows) k n6).1
 . exact(h.ask (rows:=rows) k n6 hw).1
end
section
variable {C CM CA CG:Addr}
structure TalkAt(C CM CG:Addr)(H:Hp)(D M g h b:Addr)(rows:List Hr)(ns:List Str)(ts:List Tr)(p:Int)(t:Tk)(m:Nat):Prop where
 DA:DbAt C H D g t.z
 G:Gm CG H g ns ts p
 hM:∃dm,H M=some (.ins CM dm (ml g h t.nr b))
 hh:∃rv,H h=some (.tup rv)/\RowsAt H rv rows
 BX:BxAt H b t.bx m
 ne:D≠M
theorem TalkAt.same(w:TalkAt C CM CG H D M g h b rows ns ts p t m)(s:Same H H'):TalkAt C CM CG H' D M g h b rows ns ts p t m:=by
 erw[DA,G,%[dm|hM],%[rv,hh|R],B,ne]at w;erw[DA.same s,G.same s,%[dm|s _ _ hM],%[rv,s _ _ hh|R.mono (aZ s)],B.keep λo e=>s _ _ e,ne]
theorem DbAt.but2{C' dm:Addr}{fs:List (Str×V)}{kvs:List (Key×V)}(h:DbAt C H D g z)(s:Gh M b H H')(hM:H M=some (.ins C' dm fs))(hb:H b=some (.dK kvs))(ne:D≠M):DbAt C H' D g z:=by
 erw[dx,aA,aC,aH,aT,R]at h;have kT:cg H H':=λa xs e=>s _ _ (bu e hM (by intro z;cases z)) (bu e hb (by intro z;cases z)) e
 erw[dx,aA,aC,aH,aT,s _ _ ne (bu R.hD hb (by intro z;cases z)) R.hD,kT _ _ R.hA,kT _ _ R.hC,kT _ _ R.hH,kT _ _ R.hT]
theorem Gm.but2{dm:Addr}{kvs:List (Key×V)}(G:Gm CG H g ns ts p)(s:Gh M b H H')(hM:H M=some (.ins CM dm (ml g' h r b')))(hb:H b=some (.dK kvs)):Gm CG H' g ns ts p:=by
 erw[a,b1,d,tv,%[dg|hg],h2,h3,h4,h5]at G;have kT:cg H H':=λa xs e=>s _ _ (bu e hM (by intro z;cases z)) (bu e hb (by intro z;cases z)) e
 have gM:g≠M:=λe=>by
  rw[e,hM]at hg;cases hg
 erw[a,b1,d,tv,%[dg|s _ _ gM (bu hg hb (by intro z;cases z)) hg],kT _ _ h2,kT _ _ h3,h4.mono kT,s _ _ (bu h5 hM (by intro z;cases z)) (bu h5 hb (by intro z;cases z)) h5]
theorem TalkAt.doub(w:TalkAt C CM CG H D M g h b rows ns ts p t m)(s:SameBut D H H')(DA:DbAt C H' D g z'):TalkAt C CM CG H' D M g h b rows ns ts p %[z',t.bx|t.nr] m:=by
 erw[DA0,G,%[dm|hM],%[rv,hh|R],B,ne]at w;erw[dx,aA,aC,aH,aT,R0]at DA0;have kT:cg H H':=λa xs e=>s _ _ (bu e R0.hD (by intro z;cases z)) e
 let%[kvs,hb|_]:=id B;erw[DA,G.but R0.hD (G.ne R0.hD iU) s,%[dm|s _ _ ne.symm hM],%[rv,kT _ _ hh|R.mono kT],B.keep λo e=>s _ _ (bu hb R0.hD (by intro z;cases z)) e,ne]
inductive spAsked(C CM CG:Addr)(vs:List V)(H:Hp)(Q:VK)(u_3:XK):Prop
 |mk:∀(D M g h b:Addr) (rows:List Hr) (ns:List Str) (ts:List Tr) (p:Int) (t:Tk) (m:Nat),vs=[.ref M,.ref D]->TalkAt C CM CG H D M g h b rows ns ts p t m->GmK ns ts p->(∀r∈rows,r.good)->AkOk (t.ak ns ts p)->kA p t.bx->t.z.aw=(("hear":Str),some (awN t.z))->0<=awN t.z->awN t.z<=500->HearOk ns p t.z (t.said ns ts p rows)->m<=5000->(∀(a:Addr) (H':Hp),H a=none->H' a=some (.tup ((t.said ns ts p rows).map V.int))->TalkAt C CM CG H' D M g h b rows ns ts p (t.ask ns ts p rows) (m+200)->But3 D M b H H'->Q (.ref a) H')->spAsked C CM CG vs H Q u_3
theorem m9:FnScope ["machine","doubter","values"] ["machine","doubter"] (aq ju):=%[1,1,1,4,1,4|4]
structure Ways(P:Program)(w:World)(K:W.Frag)(mg:Str->Option Value)(base:Heap)(C CM CG fW fU fH fT fS:Addr)(fdW fdU fdH fdT fdS:FuncData):Prop where
 mW:Meth K C "waits" fW
 GW:FnOk P w K mg base CX0 1 fW fdW ["self"] (spOf C λz v H=>∃a,v=.ref a/\H a=some (.tup (awV z.aw)))
 bW:Binds K fdW ["self"] []
 mU:Meth K C "due" fU
 GU:FnOk P w K mg base CX0 1 fU fdU ["self"] (spOf C λz v _=>v=.int z.ed)
 bU:Binds K fdU ["self"] []
 mH:Meth K C "hear" fH
 GH:FnOk P w K mg base CX0 18 fH fdH ["self","values"] (spHear C CG)
 bH:Binds K fdH ["self","values"] []
 mT:Meth K C "toss" fT
 GT:FnOk P w K mg base CX0 17 fT fdT ["self","r"] (spToss C CG)
 bT:Binds K fdT ["self","r"] []
 mS:Meth K CM "say" fS
 GS:FnOk P w K mg base CX0 25 fS fdS ["self","many","due","s","coins"] (spSay CM CG)
 bS:Binds K fdS ["self","many","due","s","coins"] []
theorem TalkAt.asked{dm:Addr}{n1:Int}(w:TalkAt C CM CG H D M g h b rows ns ts p t m)(hM:H M=some (.ins CM dm (ml g h t.nr b)))(B1:BxAt H1 b (t.run ns ts p rows).bx (m+200))(hM1:H1 M=some (.ins CM dm (ml g h (t.nr+1) b)))(s1:Gh M b H H1)(e1:n1=t.nr+1):TalkAt C CM CG H1 D M g h b rows ns ts p %[t.z,(t.run ns ts p rows).bx|n1] (m+200):=by
 erw[DA0,G,_,%[rv,hh|R],B,ne]at w;let%[kvs,hb|_]:=id B;have kT:cg H H1:=λa xs e=>s1 _ _ (bu e hM (by intro z;cases z)) (bu e hb (by intro z;cases z)) e
 subst e1;erw[DA0.but2 s1 hM hb ne,G.but2 s1 hM hb,%[dm|hM1],%[rv,kT _ _ hh|R.mono kT],B1,ne]
theorem sF   (F:Fun K "asked_once" "asked_once" ju f fd) (B:Bl mg) (T:DTxt K mg C) (TM:MTxt K mg CM) (Y:Ways P w K mg base C CM CG fW fU fH fT fS fdW fdU fdH fdT fdS):FnOk P w K mg base CX0 26 f fd ["machine","doubter"] (spAsked C CM CG):=by
 exists m9
 erw[D,M,g,h,b,rows,ns,ts,p,t,m,1,W,k,rg,ok,bo,aw,a0,a5,ho,mm,q]at h;have hr1:Room 1 _:=hr.mono ⋯;have hr18:Room 18 _:=hr.mono ⋯;have hr25:Room 25 _:=hr.mono ⋯;refine⟨_,(ae #[ax,2,m9,bY (pv 0) TM.cl Y.mS Y.GS hr25 Y.bS .nil bc %[aP ix_tup (bw (pv 1) T.cl Y.mW Y.GW hr1 Y.bW .nil bc) aj (λ_ _=>rfl),bw (pv 1) T.cl Y.mU Y.GU hr1 Y.bU .nil bc,aD (pv 1) rfl,bh nn rfl B.list lK %[aD (pv 1) rfl|ag]|ag]]
  (ae (ba (bY (pv 1) T.cl Y.mH Y.GH hr18 Y.bH .nil bc %[2|ag]))
  (ai (au (bh bi rfl B.tuple bj %[2|ag]))))),?_⟩
 erw[dm,hM]at W.hM;have DA:=W.DA;let%[dx,aA,aC,aH,aT|R]:=id DA;erw[0,M,dm,0,hM,ml_n2,0,D,dx,0,R.hD,pA,D,g,t.z,1,DA,λv hv=>?_];erw[av,1,hav]at hv;rw[aw]at hav;erw[av,_,(1),.int (awN t.z),1,1,zB0 hav,1,0,D,dx,0,R.hD,dl_n2,D,g,t.z,1,DA,λv hv=>?_];subst hv;erw[0,D,C,dx,_,0,R.hD,T.cl,T.nS,Ig,0,D,C,dx,_,0,R.hD,T.cl,T.nT,yH,aT,0,.inr (zB0 R.hT),λl hl=>?_];have I:=zE0 hl (.lst (t.z.to.map V.int));have g1:upd H l (.lst (t.z.to.map V.int)) l=some (.lst (t.z.to.map V.int)):=am;generalize upd H l (.lst (t.z.to.map V.int))=H1 at I g1;have W1:=W.same I;erw[rv,hh,RW]at W1.hh;erw[M,g,h,b,dm,l,rv,t.ak ns ts p,rows,t.bx,m,1,I _ _ hM,hh,RW,rg,W1.BX,bo,mm,W1.G,ok,.inl g1,a0,a5,λl2 H2 l20 hl2 B2 hM2 S2=>?_];have hs:H2 l2=some (.lst ((t.said ns ts p rows).map V.int)):=hl2;have W2:=W1.asked (n1:=t.nr+1) (I _ _ hM) B2 hM2 S2 rfl;let%[dx2,_,_,_,_|R2]:=id W2.DA;erw[0,D,dx2,0,R2.hD,dl_n4,0,D,g,l2,t.z,t.said ns ts p rows,ns,ts,p,1,W2.DA,W2.G,k,hs,ho.aw,ho.xo,ho.x5,ho.ro,ho.tl,ho.po,λH3 S3 DA3=>?_];have W3:=W2.doub S3 DA3;have hs3:=S3 _ _ (bu hs R2.hD (by intro z;cases z)) hs;erw[0,l2,0,.inl %[zH0 hs3|λa ha=>?_]];have J:=zE0 ha (.tup ((t.said ns ts p rows).map V.int));have fr:But3 D M b H H3:=λc o h1 h2 h3 e=>S3 _ _ h1 (S2 _ _ h2 h3 (I _ _ e))
 refine q a _ ?_ am (W3.same J) (λc o h1 h2 h3 e=>J _ _ (fr c o h1 h2 h3 e));cases e:H a with
 | none=>rfl
 | some o=>
   erw[dx3,_,_,_,_,R3]at W3.DA;erw[dm3,hM3]at W3.hM;erw[kvs,hb3,_]at W3.BX;have n1:a≠D:=λz=>by rw[z,R3.hD]at ha;cases ha
   have n2:a≠M:=λz=>by rw[z,hM3]at ha;cases ha
   have n3:a≠b:=λz=>by rw[z,hb3]at ha;cases ha
   rw[fr a o n1 n2 n3 e]at ha;cases ha
end
section
variable {C CM CA CG:Addr}
inductive TRAt(H:Hp):V->TR->Prop
 | claims {a b:Addr} {xs:List Int}:H a=some (.tup [.str "claims",.ref b])->H b=some (.tup (xs.map V.int))->TRAt H (.ref a) (.claims xs)
 | say {a b:Addr} {xs:List Int}:H a=some (.tup [.str "say",.ref b])->H b=some (.tup (xs.map V.int))->TRAt H (.ref a) (.say xs)
 | coin {a:Addr} {r:Int}:H a=some (.tup [.str "coin",.int r])->TRAt H (.ref a) (.coin r)
theorem TRAt.mono(k:cg H H')(h:TRAt H v r):TRAt H' v r:=by
 cases h with
 | claims e f=>exact .claims (k _ _ e) (k _ _ f)
 | say e f=>exact .say (k _ _ e) (k _ _ f)
 | coin e=>exact .coin (k _ _ e)
def TRsAt(H:Hp):List V->List TR->Prop
 | [],[]=>True
 | v::vs,r::rs=>TRAt H v r/\TRsAt H vs rs
 | _,_=>False
theorem TRsAt.mono(k:cg H H'):∀{vs:List V}{rs:List TR},TRsAt H vs rs->TRsAt H' vs rs
 | [],[],_=>trivial
 | _::_,_::_,h=>%[h.1.mono k|TRsAt.mono k h.2]
 | [],_::_,h=>h.elim
 | _::_,[],h=>h.elim
theorem TRsAt.snoc(hr:TRAt H v r):∀{vs:List V}{rs:List TR},TRsAt H vs rs->TRsAt H (vs++[v]) (rs++[r])
 | [],[],_=>%[hr|trivial]
 | _::_,_::_,h=>%[h.1|TRsAt.snoc hr h.2]
 | [],_::_,h=>h.elim
 | _::_,[],h=>h.elim
structure Told(H:Hp)(a:Addr)(x:List TR×Tk):Prop where
 ex:∃(b c:Addr)(vs:List V),H a=some (.tup [.ref b,.ref c])/\H b=some (.tup vs)/\TRsAt H vs x.1/\H c=some (.tup (awV x.2.z.aw))
theorem Told.same(h:Told H a x)(k:cg H H'):Told H' a x:=by
 erw[b,c,vs,h1,h2,h3,h4]at h.ex;erw[b,c,vs,k _ _ h1,k _ _ h2,h3.mono k,k _ _ h4]
theorem hc_in (o:Str):inV (.str o) [.str "hear",.str "coin"]=(decide (o="hear")||decide (o="coin")):=by
 show (("hear"==o)||(("coin"==o)||false))=_;rw[Bool.or_false];have e:∀z:Str,(z==o)=decide (o=z):=λz=>by
  by_cases c:o=z
  . subst c;simp
  . rw[decide_eq_false c];simpa using λh=>c h.symm
 rw[e,e]
inductive spTalked(C CM CG:Addr)(vs:List V)(H:Hp)(Q:VK)(u_3:XK):Prop
 |mk:∀(g h c:Addr)(rv:List V)(rows:List Hr)(ns:List Str)(ts:List Tr)(p:Int)(cs:List Int),vs=[.ref g,.ref h,.ref c]->Gm CG H g ns ts p->GmK ns ts p->ns.length<=6->H h=some (.tup rv)->RowsAt H rv rows->(∀r∈rows,r.good)->IntsAt H c cs->cj cs p->ns.length+(if 1<ts.length then 1 else 0)<=cs.length->cs.length<=100->(∀(a:Addr)(H':Hp),Same H H'->Told H' a (lg ns ts p rows cs)->Q (.ref a) H')->spTalked C CM CG vs H Q u_3
theorem gq:FnScope ["game","helper","coins","machine","doubter","talk","tossed"] ["game","helper","coins"] (aq qz):=%[1,1,1,4,1,4|4]
theorem BD(a:Str×Option Int):atI (awV a) 0=some (.str a.1):=cE (j:=0) (GN a)
theorem fe      {n:Nat} {t:Tk} (h:t.z.aw.1="hear"):cU ns ts p rows cs (n+1) t=(.say (t.said ns ts p rows)::(cU ns ts p rows cs n (t.ask ns ts p rows)).1,(cU ns ts p rows cs n (t.ask ns ts p rows)).2):=zC0 h
theorem ei      {n:Nat} {t:Tk} (h:t.z.aw.1="coin"):cU ns ts p rows cs (n+1) t=(.coin (cs.headD 0)::(cU ns ts p rows cs.tail n (t.toss ns ts p (cs.headD 0))).1,(cU ns ts p rows cs.tail n (t.toss ns ts p (cs.headD 0))).2):=by
 show(if _ then _ else if _ then _ else _)=_;rw[zA0 (by rw[h];exact iG),zC0 h]
theorem eD     (h:TkOk ns ts p t) (hw:t.z.aw.1="hear"∨t.z.aw.1="coin"):1<=bZ ns t.z/\(t.z.aw.1="coin" -> 1<=bQ ns t.z):=by
 rcases hw with hw | hw
 . have tl:t.z.to.length<ns.length:=by
    rcases h.gd.he hw with⟨e,_⟩ | ⟨_,tl,_⟩
    . exact absurd e h.cl
    . exact tl
   erw[6,λz=>absurd (z.symm.trans hw) iG]
   have:bZ ns t.z=2*(ns.length-t.z.to.length):=zC0 hw
   omega
 . have nh:¬ t.z.aw.1="hear":=by rw[hw];exact iG
   have s1:bZ ns t.z=if t.z.he=[]then 2*ns.length+1 else 2*(ns.length-t.z.to.length)-1:=by unfold bZ;rw[zA0 nh,zC0 hw]
   have s2:bQ ns t.z=if t.z.he=[]then ns.length+1 else ns.length-t.z.to.length:=by unfold bQ;rw[zA0 nh,zC0 hw]
   by_cases c:t.z.he=[]
   . rw[zC0 c]at s1 s2;erw[3,λ_=>by omega]
   . have tl:=((h.gd.co hw).2 c).2;rw[zA0 c]at s1 s2;erw[3,λ_=>by omega]
theorem Bu{cs:List Int}{u:Nat}(h:u<cs.length):(cs.drop u).headD 0=cs.getD u 0/\(cs.drop u).tail=cs.drop (u+1):=by
 rw[List.drop_eq_getElem_cons h,qL0,zM0 h];erw[1,1]
theorem zy{K:W.Frag}{u:Nat}{Q:VK}(h:IntsAt H c cs)(hu:u<cs.length)(q:Q (.int (cs.getD u 0)) H):rIx K (.ref c) (.int (u:Int)) H Q:=
 h.elim (λe=>.inl %[c,_,2,zH0 e,mJ hu|q]) (λe=>.inr (.inl %[c,_,2,zB0 e,mJ hu|q]))
theorem TalkAt.put{L:Addr}{ys zs:List V}(w:TalkAt C CM CG H D M g h b rows ns ts p t m)(hL:H L=some (.lst ys))(G:Gm CG (upd H L (.lst zs)) g ns ts p):TalkAt C CM CG (upd H L (.lst zs)) D M g h b rows ns ts p t m:=by
 erw[%[dx,aA,aC,aH,aT|R],_,%[dm|hM],%[rv,hh|RR],B,ne]at w;have kT:cg H (upd H L (.lst zs)):=gR hL;have U:∀{c:Addr}{o:HO},c≠L->H c=some o->upd H L (.lst zs) c=some o:=λn e=>by rw[aG n];exact e
 let%[kvs,hb|_]:=id B;erw[%[dx,aA,aC,aH,aT,U (bu R.hD hL (by intro z;cases z)) R.hD,kT _ _ R.hA,kT _ _ R.hC,kT _ _ R.hH|kT _ _ R.hT],G,%[dm|U (bu hM hL (by intro z;cases z)) hM],%[rv,kT _ _ hh|RR.mono kT],B.keep λo e=>U (bu hb hL (by intro z;cases z)) e,ne]
theorem TRsAt.len:∀{vs:List V}{rs:List TR},TRsAt H vs rs->vs.length=rs.length
 | [],[],_=>rfl
 | _::_,_::_,h=>congrArg (·+1) (TRsAt.len h.2)
 | [],_::_,h=>h.elim
 | _::_,[],h=>h.elim
theorem AA   (F:Fun K "talked" "talked" qz f fd) (B:Bl mg) (T:DTxt K mg C) (TM:MTxt K mg CM) (Y:Ways P w K mg base C CM CG fW fU fH fT fS fdW fdU fdH fdT fdS)
 (MD:Mk K C fI) (GD:FnOk P w K mg base CX0 1 fI fdI ["self","game"] (spDInit C CG)) (bD:Binds K fdI ["self","game"] []) (MM:Mk K CM fM) (GM:FnOk P w K mg base CX0 1 fM fdM ["self","game","helper"] (spMInit CM)) (bM:Binds K fdM ["self","game","helper"] [])
 (bV:Cal P w K mg base 26 "asked_once" ["machine","doubter"] (spAsked C CM CG)):FnOk P w K mg base CX0 27 f fd ["game","helper","coins"] (spTalked C CM CG):=by
 exists gq
 erw[g,h,c,rv,rows,ns,ts,p,cs,1,G,k,n6,hh,RW,rg,hc,co,cl,c100,q]at h;have hr1:Room 1 _:=hr.mono ⋯;have hr2:Room (1+1) _:=hr.mono ⋯;have hr17:Room 17 _:=hr.mono ⋯;refine⟨_,(ae #[ax,3,gq,gJ MM GM hr2 rfl TM.mgC bM .nil bc %[0,1|ag]]
  (ae #[ax,4,gq,gJ MD GD hr2 rfl T.mgC bD .nil bc %[0|ag]]
  (ae #[ax,5,gq,ca %[aV %[aJ,aB bV hr ⋯ rfl %[3,4|ag]|ag]|ag]]
  (ae #[ax,6,gq,aj]
  (ae (ik PassesOwn.never (ao eE (aP ix_tup (bw (pv 4) T.cl Y.mW Y.GW hr1 Y.bW .nil bc) aj (λ_ _=>rfl)) (aV %[aJ,aJ|ag]) (by rfl')) (ai (aO (ao aW (aP ix_tup (bw (pv 4) T.cl Y.mW Y.GW hr1 Y.bW .nil bc) aj (λ_ _=>rfl)) aJ (aE _)) (ai (ba (dw PySem.F.plainAttrs_list PySem.F.slot_list_append PySem.F.type_list_append cz (pv 5) %[aV %[aJ,aB bV hr ⋯ rfl %[3,4|ag]|ag]|ag]))) (ae (ba (bY (pv 4) T.cl Y.mT Y.GT hr17 Y.bT .nil bc %[aP DR (pv 2) (pv 6) (λ_ _=>rfl)|ag]))
   (ae (ba (dw PySem.F.plainAttrs_list PySem.F.slot_list_append PySem.F.type_list_append cz (pv 5) %[aV %[aJ,aP DR (pv 2) (pv 6) (λ_ _=>rfl)|ag]|ag]))
   (ai #[ax,6,gq,az aX (pv 6) aj]))))))
  (ai (au (aV %[bh bi rfl B.tuple bj %[5|ag],bw (pv 4) T.cl Y.mW Y.GW hr1 Y.bW .nil bc|ag])))))))),?_⟩
 erw[0,0,λM dm hM0 hdm0 nM=>?_];have K1:Same H (upd (upd H dm (.own M)) M (.ins CM dm [])):=λa o e=>by
  rw[aG (aQ e hM0),aG (aQ e hdm0)];exact e
 erw[M,g,h,dm,1,am,λb H2 b0 hM2 hb2 S2=>%[1|6]];have T2:Same H H2:=Same.but K1 hM0 S2;have b00:H b=none:=K1.free b0;clear K1 S2 b0;erw[0,λD dd hD0 hdd0 nD=>?_];have K3:Same H2 (upd (upd H2 dd (.own D)) D (.ins C dd [])):=λa o e=>by
  rw[aG (aQ e hD0),aG (aQ e hdd0)];exact e
 have G2:=G.same T2;have gD:g≠D:=by
  erw[_,_,_,_,%[dg|hg],_]at G2;exact aQ hg hD0
 erw[D,g,dd,ns,ts,p,1,am,G2.same K3,gD,λH4 S4 DA4=>%[1|6]];have T24:Same H2 H4:=Same.but K3 hD0 S4;have T4:Same H H4:=T2.trans T24;have D00:H D=none:=T2.free hD0;have nDM:D≠M:=(aQ hM2 hD0).symm;have W4:TalkAt C CM CG H4 D M g h b rows ns ts p (Tk.new ts) 0:=⟨DA4,G.same T4,⟨dm,T24 _ _ hM2⟩,⟨rv,T4 _ _ hh,RW.mono (aZ T4)⟩,⟨[],T24 _ _ hb2,zG0 _,λ_=>rfl⟩,nDM⟩
 clear K3 S4 DA4 T24 hM2 hb2 G2 T2;let%[ak0,an0,ho0|bo0]:=yh (rows:=rows) k n6;have t1:=k.t1;have t10:=k.t10;erw[0,0,D,M,g,h,b,rows,ns,ts,p,Tk.new ts,(0),1,W4,k,rg,ak0,bo0,1,by rw[an0];omega,by rw[an0];omega,ho0,4,λa5 H5 a50 ha5 W5 S5=>?_];have T5:Same H H5:=λa o e=>S5 _ _ (aQ e D00) (aQ e hM0) (aQ e b00) (T4 _ _ e)
 erw[(by show 2<=sizeLine;decide),λt6 h6=>%[(by show 1<=sizeLine;decide)|λL hL=>?_]];have I6:=zE0 h6 (.tup [.str "claims",.ref a5]);have I7:=zE0 hL (.lst [.ref t6]);have R7:TRsAt (upd (upd H5 t6 (.tup [.str "claims",.ref a5])) L (.lst [.ref t6])) [.ref t6] [.claims ((Tk.new ts).said ns ts p rows)]:=%[.claims (I7 _ _ am) (I7 _ _ (I6 _ _ ha5))|trivial]
 have g7:upd (upd H5 t6 (.tup [.str "claims",.ref a5])) L (.lst [.ref t6]) L=some (.lst [.ref t6]):=am;have J7:=I6.trans I7;have L00:H L=none:=(T5.trans I6).free hL;generalize upd (upd H5 t6 (.tup [.str "claims",.ref a5])) L (.lst [.ref t6])=H7 at R7 g7 J7;let%[ok7,st7,co7|_]:=kO (rows:=rows) k n6;have W7:=W5.same J7;have T7:=T5.trans J7;clear I6 I7 J7 S5 T5 W5 W4 T4 ha5 h6 hL;erw[λmm σ H'=>∃(t:Tk) (n u m:Nat) (rs:List TR) (vs:List V),σ=[some (.ref g),some (.ref h),some (.ref c),some (.ref M),some (.ref D),some (.ref L),some (.int (u:Int))]/\mm=n/\bZ ns t.z<=n/\n<=20/\TalkAt C CM CG H' D M g h b rows ns ts p t m/\TkOk ns ts p t/\H' L=some (.lst vs)/\TRsAt H' vs rs/\(rs++(cU ns ts p rows (cs.drop u) n t).1,(cU ns ts p rows (cs.drop u) n t).2)=lg ns ts p rows cs/\bQ ns t.z+u<=cs.length/\m+200*n<=4200/\rs.length+n<=21/\Same H H',%[(20),(Tk.new ts).ask ns ts p rows,(20),(0),(200),2,3,zG0 _,W7,ok7,g7,R7,1,3,4,(by show 1+20<=21;decide)|T7],6]
 clear st7 co7 ok7 W7 T7 R7 g7 ak0 an0 ho0 bo0;rintro mm σ H' ⟨t,n,u,m,rs,vs,rfl,rfl,sn,n20,W,ok,hL,TR,eq,cn,mn,rn,S⟩;have DA:=W.DA;let%[dx,aA,aC,aH,aT|R]:=id DA;have p2:=k.p2;have vl:=TR.len;erw[0,D,dx,0,R.hD,pA,D,g,t.z,1,DA,λv hv=>?_];erw[av,1,hav]at hv;erw[av,_,(0),0,1,zB0 hav,BD _,(by show 2<=sizeLine;decide),λc1 hc1=>?_];have I1:=zE0 hc1 (.tup [.str "hear",.str "coin"]);erw[c1,0,.inr (zB0 am),1,1,0,6];generalize upd H' c1 (.tup [.str "hear",.str "coin"])=H1 at I1;have W1:=W.same I1;have DA1:=W1.DA;have hL1:=I1 _ _ hL;have TR1:=TR.mono (aZ I1);have S1:=S.trans I1;let%[dx1,aA1,aC1,aH1,aT1|R1]:=id DA1;show if inV (.str t.z.aw.1) [.str "hear",.str "coin"]=true then _ else _
 rw[hc_in];clear W DA R hL TR S hav I1
 by_cases ch:t.z.aw.1="hear"
 . rw [decide_eq_true ch,Bool.true_or];refine dU ?_;erw[_,λ_ _ h=>h,6];erw[0,D,dx1,0,R1.hD,pA,D,g,t.z,1,DA1,λv hv=>?_];erw[av2,1,hav2]at hv;erw[av2,_,(0),0,1,zB0 hav2,BD _,1,0,bb (congrArg V.str ch) ?_];have sp:=(eD ok (.inl ch)).1;obtain⟨n',rfl⟩:∃n',mm=n'+1:=⟨mm-1,by omega⟩
   let%[ak,a0,a5,tl,aw|ea]:=ok.ak k n6 ch;have ho:=ok.hear (rows:=rows) k n6 ch;let%[ok',st',co'|_]:=ok.ask (rows:=rows) k n6 ch;erw[0,.inl %[1,_|zH0 hL1],0,0,D,M,g,h,b,rows,ns,ts,p,t,m,1,W1,k,rg,ak,ok.bo,aw,a0,a5,ho,3,λa6 H6 a60 ha6 W6 S6=>?_];erw[dmw,hMw]at W1.hM;erw[kvw,hbw,_]at W1.BX;have kT6:cg H1 H6:=λa xs e=>S6 _ _ (bu e R1.hD (by intro z;cases z)) (bu e hMw (by intro z;cases z)) (bu e hbw (by intro z;cases z)) e
   have hL6:=S6 _ _ (bu hL1 R1.hD (by intro z;cases z)) (bu hL1 hMw (by intro z;cases z)) (bu hL1 hbw (by intro z;cases z)) hL1;have S06:Same H H6:=λa o e=>S6 _ _ (aQ e D00) (aQ e hM0) (aQ e b00) (S1 _ _ e)
   erw[(by show 2<=sizeLine;decide),λt7 h7=>?_];have I7:=zE0 h7 (.tup [.str "say",.ref a6]);have R7:TRAt (upd H6 t7 (.tup [.str "say",.ref a6])) (.ref t7) (.say (t.said ns ts p rows)):=.say am (I7 _ _ ha6);generalize upd H6 t7 (.tup [.str "say",.ref a6])=H7 at I7 R7;have hL7:=I7 _ _ hL6;erw[L,2,hL7,aS #[0],6];have k8:cg H7 (upd H7 L (.lst (vs++[.ref t7]))):=gR hL7;have S8:Same H (upd H7 L (.lst (vs++[.ref t7]))):=λa o e=>by
    rw[aG (aQ e L00)];exact I7 _ _ (S06 _ _ e)
   erw[n',Nat.lt_succ_self _,t.ask ns ts p rows,n',u,m+200,rs++[.say (t.said ns ts p rows)],0,1,3,3,(W6.same I7).put hL7 (G.same S8),ok',am,((TR1.mono (λa xs e=>k8 _ _ (I7 _ _ (kT6 _ _ e)))).snoc (R7.mono k8)),6,3,3,by rw[zJ0];show rs.length+1+n'<=21;omega,S8];rw[←eq,fe ch,List.append_assoc];rfl
 . rw [decide_eq_false ch,Bool.false_or]
   by_cases cc:t.z.aw.1="coin"
   . rw [decide_eq_true cc];refine dU ?_;erw[_,λ_ _ h=>h,6];erw[0,D,dx1,0,R1.hD,pA,D,g,t.z,1,DA1,λv hv=>?_];erw[av2,1,hav2]at hv;erw[av2,_,(0),0,1,zB0 hav2,BD _,1,0,aI (neS ch) ?_];let%[sp|cp]:=eD ok (.inr cc);have cp:=cp cc;obtain⟨n',rfl⟩:∃n',mm=n'+1:=⟨mm-1,by omega⟩
     have hu:u<cs.length:=by omega
     let%[dh|dt]:=Bu hu;have rr:=mN co #[0] u;let%[ok',st',co'|_]:=ok.toss k cc rr.1 rr.2;have to:=ok.tossOk cc rr.1 rr.2;erw[0,D,dx1,0,R1.hD,GJ,0,0,zy (hc.same S1) hu ?_];erw[D,g,t.z,cs.getD u 0,ns,ts,p,1,DA1,W1.G,k,to.aw,to.r0,to.r1,to.tl,to.ro,to.po,λH6 S6 DA6=>?_];have W6:=W1.doub S6 DA6;have kT6:cg H1 H6:=λa xs e=>S6 _ _ (bu e R1.hD (by intro z;cases z)) e
     have hL6:=S6 _ _ (bu hL1 R1.hD (by intro z;cases z)) hL1;have S06:Same H H6:=λa o e=>S6 _ _ (aQ e D00) (S1 _ _ e)
     erw[0,.inl %[1,_|zH0 hL6],0,0,zy (hc.same S06) hu ?_];erw[(by show 2<=sizeLine;decide),λt7 h7=>?_];have I7:=zE0 h7 (.tup [.str "coin",.int (cs.getD u 0)]);have R7:TRAt (upd H6 t7 (.tup [.str "coin",.int (cs.getD u 0)])) (.ref t7) (.coin (cs.getD u 0)):=.coin am;generalize upd H6 t7 (.tup [.str "coin",.int (cs.getD u 0)])=H7 at I7 R7;have hL7:=I7 _ _ hL6;erw[L,2,hL7,aS #[0],6];have k8:cg H7 (upd H7 L (.lst (vs++[.ref t7]))):=gR hL7;have S8:Same H (upd H7 L (.lst (vs++[.ref t7]))):=λa o e=>by
      rw[aG (aQ e L00)];exact I7 _ _ (S06 _ _ e)
     erw[0,2,6];erw[n',Nat.lt_succ_self _,t.toss ns ts p (cs.getD u 0),n',u+1,m,rs++[.coin (cs.getD u 0)],0,1,3,3,(W6.same I7).put hL7 (G.same S8),ok',am,((TR1.mono (λa xs e=>k8 _ _ (I7 _ _ (kT6 _ _ e)))).snoc (R7.mono k8)),6,3,3,by rw[zJ0];show rs.length+1+n'<=21;omega,S8];rw[←eq,ei cc,dh,dt,List.append_assoc];rfl
   . rw [decide_eq_false cc];refine cO ?_;rw[dQ ch cc,List.append_nil]at eq;erw[0,L,0,.inl %[zH0 hL1|λb8 hb8=>?_]];have I8:=zE0 hb8 (.tup vs);have g8:upd H1 b8 (.tup vs) b8=some (.tup vs):=am;generalize upd H1 b8 (.tup vs)=H8 at I8 g8;have DA8:=DA1.same I8;let%[dx8,_,_,_,_|R8]:=id DA8;erw[0,D,dx8,0,R8.hD,pA,D,g,t.z,1,DA8,λv hv=>?_];erw[av2,1,hav2]at hv;erw[(by show 2<=sizeLine;decide),λa9 ha9=>?_];have I9:=zE0 ha9 (.tup [.ref b8,.ref av2]);refine q a9 _ (S1.trans (I8.trans I9)) %[b8,av2,vs,am,I9 _ _ g8,6|6]
     . rw[←eq];exact TR1.mono (aZ (I8.trans I9))
     . rw[←eq];exact I9 _ _ hav2
end
section
variable {C CG:Addr}
abbrev uo:Stmt:=bp dj 11
inductive spTwin(C CG:Addr)(vs:List V)(H:Hp)(Q:VK)(u_3:XK):Prop
 |mk:∀(D g:Addr)(z:Db)(ns:List Str)(ts:List Tr)(p:Int),vs=[.ref D]->DbAt C H D g z->Gm CG H g ns ts p->(∀(D2:Addr)(H':Hp),H D2=none->Same H H'->DbAt C H' D2 g z->Q (.ref D2) H')->spTwin C CG vs H Q u_3
theorem IR:FnScope ["self","other"] ["self"] (aq uo):=%[1,1,1,4,1,4|4]
theorem Dl   (F:Fun K "twin" "Doubter.twin" uo f fd) (T:DTxt K mg C) (MD:Mk K C fD) (GD:FnOk P w K mg base CX0 1 fD fdD ["self","game"] (spDInit C CG)) (bD:Binds K fdD ["self","game"] []):FnOk P w K mg base CX0 3 f fd ["self"] (spTwin C CG):=by
 exists IR
 erw[D,g,z,ns,ts,p,1,%[dx,aA,aC,aH,aT|R],G,q]at h;have hr2:Room (1+1) _:=hr.mono ⋯;refine⟨_,(ae #[ax,1,IR,gJ MD GD hr2 rfl T.mgC bD .nil bc %[aD (pv 0) rfl|ag]]
  (ae (aU (pv 1) (aD (pv 0) rfl) rfl)
  (ae (aU (pv 1) (aD (pv 0) rfl) rfl)
  (ae (aU (pv 1) (aD (pv 0) rfl) rfl)
  (ae (aU (pv 1) (aD (pv 0) rfl) rfl)
  (ae (aU (pv 1) (aD (pv 0) rfl) rfl)
  (ae (aU (pv 1) (aD (pv 0) rfl) rfl)
  (ae (aU (pv 1) (aD (pv 0) rfl) rfl)
  (ai (au (pv 1))))))))))),?_⟩
 erw[0,D,C,dx,_,0,R.hD,T.cl,T.nG,iU,λD2 dD nD ndD neD=>?_];have s10:Same H (upd (upd H dD (.own D2)) D2 (.ins C dD [])):=λb o e=>by
  rw[aG (aQ e nD),aG (aQ e ndD)];exact e
 have gD:g≠D2:=by
  let%[a,b,d,tv,%[dg|hg]|_]:=id G;exact aQ hg nD
 erw[D2,g,dD,ns,ts,p,1,am,G.same s10,gD,λH0 S0 D0=>%[1|6]];have S00:Same H H0:=λb o e=>S0 b o (aQ e nD) (s10 b o e)
 have nDD:D≠D2:=aQ R.hD nD;erw[dx2,aA2,aC2,aH2,aT2,R2]at D0;have h0:=R2.hD;generalize (Db.new ts).s=s2,(Db.new ts).ed=ed2,(Db.new ts).pl=pl2 at h0;have hD0:=S00 _ _ R.hD;erw[0,D,C,dx,_,0,hD0,T.cl,T.nA,El,0,D2,C,dx2,0,h0,T.cl,T.nA,cJ,6];rw[qP];have U0:SameBut D2 H0 (upd H0 D2 (.ins C dx2 (dl g aA aC2 s2 aH2 aT2 ed2 pl2))):=SameBut.upd _;have h1:upd H0 D2 (.ins C dx2 (dl g aA aC2 s2 aH2 aT2 ed2 pl2)) D2=some (.ins C dx2 (dl g aA aC2 s2 aH2 aT2 ed2 pl2)):=am;have hD1:=U0 _ _ nDD hD0;generalize upd H0 D2 (.ins C dx2 (dl g aA aC2 s2 aH2 aT2 ed2 pl2))=H1 at U0 h1 hD1;erw[0,D,C,dx,_,0,hD1,T.cl,T.nC,Ik,0,D2,C,dx2,0,h1,T.cl,T.nC,cJ,6];rw[Gv];have U1:SameBut D2 H1 (upd H1 D2 (.ins C dx2 (dl g aA aC s2 aH2 aT2 ed2 pl2))):=SameBut.upd _;have h2:upd H1 D2 (.ins C dx2 (dl g aA aC s2 aH2 aT2 ed2 pl2)) D2=some (.ins C dx2 (dl g aA aC s2 aH2 aT2 ed2 pl2)):=am;have hD2:=U1 _ _ nDD hD1;generalize upd H1 D2 (.ins C dx2 (dl g aA aC s2 aH2 aT2 ed2 pl2))=H2 at U1 h2 hD2;erw[0,D,C,dx,_,0,hD2,T.cl,T.nS,Ig,0,D2,C,dx2,0,h2,T.cl,T.nS,cJ,6];rw[Gq];have U2:SameBut D2 H2 (upd H2 D2 (.ins C dx2 (dl g aA aC z.s aH2 aT2 ed2 pl2))):=SameBut.upd _;have h3:upd H2 D2 (.ins C dx2 (dl g aA aC z.s aH2 aT2 ed2 pl2)) D2=some (.ins C dx2 (dl g aA aC z.s aH2 aT2 ed2 pl2)):=am;have hD3:=U2 _ _ nDD hD2;generalize upd H2 D2 (.ins C dx2 (dl g aA aC z.s aH2 aT2 ed2 pl2))=H3 at U2 h3 hD3;erw[0,D,C,dx,_,0,hD3,T.cl,T.nH,Ij,0,D2,C,dx2,0,h3,T.cl,T.nH,cJ,6];rw[Gs];have U3:SameBut D2 H3 (upd H3 D2 (.ins C dx2 (dl g aA aC z.s aH aT2 ed2 pl2))):=SameBut.upd _;have h4:upd H3 D2 (.ins C dx2 (dl g aA aC z.s aH aT2 ed2 pl2)) D2=some (.ins C dx2 (dl g aA aC z.s aH aT2 ed2 pl2)):=am;have hD4:=U3 _ _ nDD hD3;generalize upd H3 D2 (.ins C dx2 (dl g aA aC z.s aH aT2 ed2 pl2))=H4 at U3 h4 hD4;erw[0,D,C,dx,_,0,hD4,T.cl,T.nT,yH,0,D2,C,dx2,0,h4,T.cl,T.nT,cJ,6];rw[CK];have U4:SameBut D2 H4 (upd H4 D2 (.ins C dx2 (dl g aA aC z.s aH aT ed2 pl2))):=SameBut.upd _;have h5:upd H4 D2 (.ins C dx2 (dl g aA aC z.s aH aT ed2 pl2)) D2=some (.ins C dx2 (dl g aA aC z.s aH aT ed2 pl2)):=am;have hD5:=U4 _ _ nDD hD4;generalize upd H4 D2 (.ins C dx2 (dl g aA aC z.s aH aT ed2 pl2))=H5 at U4 h5 hD5;erw[0,D,C,dx,_,0,hD5,T.cl,T.nE,zH,0,D2,C,dx2,0,h5,T.cl,T.nE,cJ,6];rw[xM];have U5:SameBut D2 H5 (upd H5 D2 (.ins C dx2 (dl g aA aC z.s aH aT z.ed pl2))):=SameBut.upd _;have h6:upd H5 D2 (.ins C dx2 (dl g aA aC z.s aH aT z.ed pl2)) D2=some (.ins C dx2 (dl g aA aC z.s aH aT z.ed pl2)):=am;have hD6:=U5 _ _ nDD hD5;generalize upd H5 D2 (.ins C dx2 (dl g aA aC z.s aH aT z.ed pl2))=H6 at U5 h6 hD6;erw[0,D,C,dx,_,0,hD6,T.cl,T.nP,zG,0,D2,C,dx2,0,h6,T.cl,T.nP,cJ,6];rw[uE];have U6:SameBut D2 H6 (upd H6 D2 (.ins C dx2 (dl g aA aC z.s aH aT z.ed z.pl))):=SameBut.upd _;have h7:upd H6 D2 (.ins C dx2 (dl g aA aC z.s aH aT z.ed z.pl)) D2=some (.ins C dx2 (dl g aA aC z.s aH aT z.ed z.pl)):=am;have hD7:=U6 _ _ nDD hD6;generalize upd H6 D2 (.ins C dx2 (dl g aA aC z.s aH aT z.ed z.pl))=H7 at U6 h7 hD7;have U:SameBut D2 H0 H7:=U0.trans (U1.trans (U2.trans (U3.trans (U4.trans (U5.trans U6)))));have S07:Same H H7:=λb o e=>U b o (aQ e nD) (S00 b o e)
 erw[0,q D2 H7 nD S07 %[dx2,aA,aC,aH,aT,h7,S07 _ _ R.hA,S07 _ _ R.hC,S07 _ _ R.hH|S07 _ _ R.hT]]
end
section
variable {CM CA CG:Addr}
abbrev ug:Stmt:=bp kH 4
theorem ml_n4  :(ml g h r b).lookup ("twin":Str)=none:=by rfl'
theorem FE {b':Addr} :bL "boxes" (.ref b') (ml g h r b)=ml g h r b':=by rfl'
inductive spMTwin(CM:Addr)(vs:List V)(H:Hp)(Q:VK)(u_3:XK):Prop
 |mk:∀(M g h b dm:Addr)(r:Int)(bx:Str->Int)(m:Nat),vs=[.ref M]->H M=some (.ins CM dm (ml g h r b))->BxAt H b bx m->(∀(M' dm' b':Addr)(H':Hp),H M'=none->H b'=none->H' M'=some (.ins CM dm' (ml g h r b'))->BxAt H' b' bx m->Same H H'->Q (.ref M') H')->spMTwin CM vs H Q u_3
theorem IS:FnScope ["self","other"] ["self"] (aq ug):=%[1,1,1,4,1,4|4]
theorem Di   (F:Fun K "twin" "Machine.twin" ug f fd) (B:Bl mg) (T:MTxt K mg CM) (MM:Mk K CM fI) (GI:FnOk P w K mg base CX0 1 fI fdI ["self","game","helper"] (spMInit CM)) (bI:Binds K fdI ["self","game","helper"] []):FnOk P w K mg base CX0 3 f fd ["self"] (spMTwin CM):=by
 exists IS
 erw[M,g,h,b,dm,r,bx,m,1,hM,BX,q]at h;have hr2:Room (1+1) _:=hr.mono ⋯;refine⟨_,(ae #[ax,1,IS,gJ MM GI hr2 rfl T.mgC bI .nil bc %[aD (pv 0) rfl,aD (pv 0) rfl|ag]]
  (ae (aU (pv 1) (aD (pv 0) rfl) rfl)
  (ae (aU (pv 1) (bh yM rfl B.dict yN %[aD (pv 0) rfl|ag]) rfl)
  (ai (au (pv 1)))))),?_⟩
 erw[0,M,CM,dm,_,0,hM,T.cl,T.nG,ml_g,0,M,CM,dm,_,0,hM,T.cl,T.nH,FF,λN dn hN hdn nN=>?_];have S1:Same H (upd (upd H dn (.own N)) N (.ins CM dn [])):=λa o e=>by
  rw[aG (aQ e hN),aG (aQ e hdn)];exact e
 have g1:upd (upd H dn (.own N)) N (.ins CM dn []) N=some (.ins CM dn []):=am;generalize upd (upd H dn (.own N)) N (.ins CM dn [])=H1 at S1 g1;erw[N,g,h,dn,1,g1,λb1 H2 hb1 hN2 _ S2=>%[1|6]];have S02:Same H H2:=Same.but S1 hN S2;have hM2:=S02 _ _ hM;have nMN:M≠N:=aQ hM hN;erw[0,M,CM,dm,_,0,hM2,T.cl,T.nR,HG,0,N,CM,dn,0,hN2,T.cl,T.nR,yq,6];rw[DG];have S3:SameBut N H2 (upd H2 N (.ins CM dn (ml g h r b1))):=SameBut.upd _;have hN3:upd H2 N (.ins CM dn (ml g h r b1)) N=some (.ins CM dn (ml g h r b1)):=am;generalize upd H2 N (.ins CM dn (ml g h r b1))=H3 at S3 hN3;have S03:Same H H3:=Same.but S02 hN S3;erw[kvs,eb,lb,hx]at BX;erw[0,M,CM,dm,_,0,S03 _ _ hM,T.cl,T.nB,DH,b,kvs,1,S03 _ _ eb,λc hc=>?_];have cN:c≠N:=(aQ hN3 hc).symm;have c0:H c=none:=S03.free hc;erw[0,N,CM,dn,0,by rw[aG cN.symm];exact hN3,T.cl,T.nB,yq,6];rw[FE];erw[0,q N dn c _ hN c0 am %[kvs,by rw[aG cN];exact am,lb|hx] λa o e=>?_];rw[aG (aQ e hN),aG (aQ e c0)];exact S03 _ _ e
end
inductive spPow(vs:List V)(H:Hp)(Q:VK)(u_3:XK):Prop
 |mk:∀(x k:Int),vs=[.int x,.int k]->0<=k->k<=100->0<x->x<2 ^ 40->Q (.int (x ^ k.toNat)) H->spPow vs H Q u_3
theorem l9:FnScope ["number","times","told","step"] ["number","times"] (aq uf):=%[1,1,1,4,1,4|4]
theorem Dh   (F:Fun K "power" "power" uf f fd) (B:Bl mg):FnOk P w K mg base CX0 1 f fd ["number","times"] spPow:=by
 exists l9
 erw[x,k,1,k0,k1,x0,x1,q]at h;refine⟨_,(ae #[ax,2,l9,aj]
  (ae (cI PassesOwn.never rfl (bX rfl B.range %[1|ag]) (bt (i:=3) l9.nd rfl (.inl rfl)) (ai #[ax,2,l9,az cw (pv 2) (pv 0)]))
  (ai (au (pv 2))))),?_⟩
 erw[0,k,1,3,3,dq (n:=k.toNat) (λi σ H'=>∃x3:Option V,σ=[some (.int x),some (.int k),some (.int (x ^ i)),x3]/\H'=H) %[none,by rw[Int.pow_zero];rfl|1] ?_ ?_]
 . rintro i σ H1 hi ⟨x3,rfl,rfl⟩;erw[0,0,2,.inr %[3|3],6];erw[some (.int (0+(i:Int))),6,1];rw[Int.pow_succ];rfl
 . rintro σ H1 ⟨x3,rfl,rfl⟩;erw[0,q]
section
variable {C CM CA CG:Addr}
theorem Ih  :(dl g aA aC s aH aT ed pl).lookup ("twin":Str)=none:=by rfl'
def OptAt(H:Hp)(v:V):Option (List Int)->Prop
 | none=>v=.non
 | some cs=>∃b,v=.ref b/\H b=some (.tup (cs.map V.int))
theorem OptAt.mono{x:Option (List Int)}(h:OptAt H v x)(k:cg H H'):OptAt H' v x:=by
 cases x with
 | none=>exact h
 | some cs=>erw[b,e,hb]at h;erw[b,e,k _ _ hb]
def WtAt(H:Hp)(a:Addr)(x:Int×Option (List Int)):Prop:=∃v,H a=some (.tup [.int x.1,v])/\OptAt H v x.2
def bJ(ns:List Str)(ts:List Tr):Nat:=if ts.length=1 then ns.length else ns.length+1
theorem mZ{ns:List Str}(h:ns.length<=6):bJ ns ts<=7:=by unfold bJ;split <;> omega
inductive spFirst(CG:Addr)(vs:List V)(H:Hp)(Q:VK)(u_3:XK):Prop
 |mk:∀(g c:Addr)(ns:List Str)(ts:List Tr)(p:Int)(cs:List Int),vs=[.ref g,.ref c]->Gm CG H g ns ts p->ns.length<=6->H c=some (.tup (cs.map V.int))->cs.length<=bJ ns ts->(∀(a:Addr)(H':Hp),Same H H'->H' a=some (.tup ((cs++List.replicate (bJ ns ts-cs.length) 0).map V.int))->Q (.ref a) H')->spFirst CG vs H Q u_3
theorem tV:FnScope ["game","coins"] ["game","coins"] (aq jY):=%[1,1,1,4,1,4|4]
theorem uN   (F:Fun K "first_row" "first_row" jY f fd) (B:Bl mg) (TG:GTxt K mg CG) (mC:Meth K CG "coins" fC) (GC:FnOk P w K mg base CX0 1 fC fdC ["self"] (spCoins CG)) (bC:Binds K fdC ["self"] []):FnOk P w K mg base CX0 2 f fd ["game","coins"] (spFirst CG):=by
 exists tV
 erw[g,c,ns,ts,p,cs,1,G,n6,hc,cl,q]at h;have hr1:Room 1 _:=hr.mono ⋯;erw[_,(ai (au (az (pV K) (pv 1) (az (CW K) (aV %[aj|ag]) (az bO (bw (pv 0) TG.cl mC GC hr1 bC .nil bc) (aM aN rfl B.len PySem.boot_len %[1|ag])))))),6];erw[0,(by show 1<=sizeLine;decide),λz hz=>?_];have I:=zE0 hz (.tup [.int 0]);have gz:upd H z (.tup [.int 0]) z=some (.tup [.int 0]):=am;generalize upd H z (.tup [.int 0])=H1 at I gz;let%[a,b,d,tv,%[dx|hg],ha,hb,TS|hd]:=G.same I;have vl:=TS.length;have noc:(gf a b p d).lookup ("coins":Str)=none:=pw _ _ _ _ ⋯ ⋯ ⋯ ⋯;erw[0,g,dx,0,hg,noc,g,a,b,d,ns,tv,p,1,%[dx|hg],ha,hb,6];have hc1:=I _ _ hc;erw[0,c,0,.inr (zB0 hc1),2,6];have ek:(if tv.length=1 then(ns.length:Int)else(ns.length:Int)+1)-((cs.map V.int).length:Int)=((bJ ns ts-cs.length:Nat):Int):=by
  rw[zF0,vl];unfold bJ at cl ⊢
  split <;> rename_i h <;> (first | rw[zC0 h]at cl | rw[zA0 h]at cl) <;> omega
 show rRepT K (.ref z) (.int ((if tv.length=1 then(ns.length:Int)else(ns.length:Int)+1)-((cs.map V.int).length:Int))) H1 _;rw[ek];have c7:=mZ (ts:=ts) n6;have fin:∀(y:Addr)(H2:Hp),Same H1 H2->H2 y=some (.tup ((List.replicate (bJ ns ts-cs.length) (0:Int)).map V.int))->rCatT K (.ref c) (.ref y) H2 Q∨rCatT0 K (.ref c) (.ref y) H2 Q:=λy H2 S2 hy=>
  qe (S2 _ _ hc1) hy (by rw[List.length_replicate];omega) λt H3 S3 h3=>q t H3 (I.trans (S2.trans S3)) h3
 erw[z,.int 0,((bJ ns ts-cs.length:Nat):Int),1,1,zB0 gz,3,3,λe=>fin z H1 (Same.refl _) ?_,λ_ y hy=>fin y _ (zE0 hy _) ?_]
 . have e1:bJ ns ts-cs.length=1:=by omega
   rw[e1];exact gz
 . rw[am,List.map_replicate,qS0]
inductive spRowsC(CG:Addr)(vs:List V)(H:Hp)(Q:VK)(u_3:XK):Prop
 |mk:∀(g:Addr)(ns:List Str)(ts:List Tr)(p:Int),vs=[.ref g]->Gm CG H g ns ts p->ns.length<=6->0<p->p<2 ^ 40->Q (.int (p ^ bJ ns ts)) H->spRowsC CG vs H Q u_3
theorem nO:FnScope ["game"] ["game"] (aq gt):=%[1,1,1,4,1,4|4]
theorem oy   (F:Fun K "rows_of_coins" "rows_of_coins" gt f fd) (T:GTxt K mg CG) (mC:Meth K CG "coins" fC) (GC:FnOk P w K mg base CX0 1 fC fdC ["self"] (spCoins CG)) (bC:Binds K fdC ["self"] []) (E3:Cal P w K mg base 1 "power" ["number","times"] spPow):FnOk P w K mg base CX0 2 f fd ["game"] (spRowsC CG):=by
 exists nO
 erw[g,ns,ts,p,1,%[a,b,d,tv,%[dx|hg],ha,hb,TS|hd],nl,p0,p40,q]at h;have hr1:Room 1 _:=hr.mono ⋯;erw[_,(ai (au (aB E3 hr ⋯ rfl %[aD (pv 0) rfl,bw (pv 0) T.cl mC GC hr1 bC .nil bc|ag]))),6];have noc:(gf a b p d).lookup ("coins":Str)=none:=pw _ _ _ _ ⋯ ⋯ ⋯ ⋯;have vl:=TS.length;erw[0,g,CG,dx,_,0,hg,T.cl,T.nF,fc ..,0,g,dx,0,hg,noc,g,a,b,d,ns,tv,p,1,%[dx|hg],ha,hb,p,0,6,6,p0,p40,6]
 . split <;> omega
 . split <;> omega
 . have e:(if tv.length=1 then(ns.length:Int)else(ns.length:Int)+1).toNat=bJ ns ts:=by
    rw[vl];unfold bJ
    split <;> omega
   rw[e];exact q
structure Twins(P:Program)(w:World)(K:W.Frag)(mg:Str->Option Value)(base:Heap)(C CM CG fD fM:Addr)(fdD fdM:FuncData):Prop where
 mD:Meth K C "twin" fD
 GD:FnOk P w K mg base CX0 3 fD fdD ["self"] (spTwin C CG)
 bD:Binds K fdD ["self"] []
 mM:Meth K CM "twin" fM
 GM:FnOk P w K mg base CX0 3 fM fdM ["self"] (spMTwin CM)
 bM:Binds K fdM ["self"] []
inductive spWB(C CM CG:Addr)(d:Nat)(vs:List V)(H:Hp)(Q:VK)(u_3:XK):Prop
 |mk:∀(D M g h b c:Addr)(rows:List Hr)(ns:List Str)(ts:List Tr)(p:Int)(t:Tk)(m:Nat)(cs:List Int),vs=[.ref M,.ref D,.ref c]->TalkAt C CM CG H D M g h b rows ns ts p t m->GmK ns ts p->ns.length<=6->(∀r∈rows,r.good)->Beg ns ts p t->bQ ns (settle ns ts p rows 2 t).z<d->H c=some (.tup (cs.map V.int))->cs.length+bQ ns (settle ns ts p rows 2 t).z<=bJ ns ts->m+400*d<=5000->(∀(a:Addr)(H':Hp),WtAt H' a (gl ns ts p rows (bJ ns ts) d t cs)->But3 D M b H H'->Q (.ref a) H')->spWB C CM CG d vs H Q u_3
theorem bz:FnScope ["machine","doubter","coins","number","row","coin","behind","told"] ["machine","doubter","coins"] (aq dR):=%[1,1,1,4,1,4|4]
theorem EG  :FnOk P w K mg base CX0 27 f fd ["machine","doubter","coins"] (spWB C CM CG 0):=by
 have no:∀vs H Q E,¬ spWB C CM CG 0 vs H Q E:=λvs H Q E h=>by
  erw[D,M,g,h,b,c,rows,ns,ts,p,t,m,cs,_,_,_,_,_,_,h1,_]at h;exact absurd h1 (Nat.not_lt_zero _)
 erw[λvs H Q E h=>absurd h (no vs H Q E),λA outer s H args us vs Q E _ _ _ _ h=>absurd h (no vs H Q E)]
theorem TalkAt.twins{M2 dm2:Addr}(w:TalkAt C CM CG H D M g h b rows ns ts p t m)(s:Same H H')(DA:DbAt C H' D2 g z)(hM:H' M2=some (.ins CM dm2 (ml g h t.nr b2)))(B:BxAt H' b2 t.bx m)(ne:D2≠M2):TalkAt C CM CG H' D2 M2 g h b2 rows ns ts p %[z,t.bx|t.nr] m:=by
 let%[_,G,_,%[rv,hh|R],_|_]:=w.same s;erw[DA,G,%[dm2|hM],%[rv,hh|R],B,ne]
theorem EH {n:Nat}   (F:Fun K "weighed_behind" "weighed_behind" dR f fd) (B:Bl mg) (T:DTxt K mg C) (TM:MTxt K mg CM) (TG:GTxt K mg CG) (Y:Ways P w K mg base C CM CG fW fU fH fT fS fdW fdU fdH fdT fdS) (Z:Twins P w K mg base C CM CG fDt fMt fdDt fdMt)
 (bV:Cal P w K mg base 26 "asked_once" ["machine","doubter"] (spAsked C CM CG)) (eX:Cal P w K mg base 2 "first_row" ["game","coins"] (spFirst CG)) (di:Cal P w K mg base (n+27) "weighed_behind" ["machine","doubter","coins"] (spWB C CM CG n)):FnOk P w K mg base CX0 (n+28) f fd ["machine","doubter","coins"] (spWB C CM CG (n+1)):=by
 exists bz
 erw[D,M,g,h,b,c,rows,ns,ts,p,t,m,cs,1,W,k,n6,rg,bg,cd,hc,cl,mm,q]at h;have hr1:Room 1 _:=hr.mono #[0];have hr3:Room 3 _:=hr.mono #[0];have hr17:Room 17 _:=hr.mono #[0];refine⟨_,(ae (ik PassesOwn.never (ao aW (aP ix_tup (bw (pv 1) T.cl Y.mW Y.GW hr1 Y.bW .nil bc) aj (λ_ _=>rfl)) aJ (aE _)) (ai (ba (aB bV hr #[0] rfl %[0,1|ag]))))
  (ae (aO (ao aW (aP ix_tup (bw (pv 1) T.cl Y.mW Y.GW hr1 Y.bW .nil bc) aj (λ_ _=>rfl)) aJ (aE _)) (ai (au (aV %[aj,ow|ag]))) aF)
  (ae (aO (ao aW (aP ix_tup (bw (pv 1) T.cl Y.mW Y.GW hr1 Y.bW .nil bc) aj (λ_ _=>rfl)) aJ (aE _)) (ai (au (aV %[aj,aB eX hr #[0] rfl %[aD (pv 1) rfl,2|ag]|ag]))) aF)
  (ae #[ax,3,bz,aj]
  (ae #[ax,4,bz,ow]
  (ae (cI PassesOwn.never rfl (bX rfl B.range %[aD (aD (pv 1) rfl) rfl|ag]) (bt (i:=5) bz.nd rfl (.inl rfl)) (ae #[ax,6,bz,bw (pv 1) T.cl Z.mD Z.GD hr3 Z.bD .nil bc]
   (ae (ba (bY (pv 6) T.cl Y.mT Y.GT hr17 Y.bT .nil bc %[5|ag]))
   (ae #[ax,7,bz,aB di hr #[0] rfl %[bw (pv 0) TM.cl Z.mM Z.GM hr3 Z.bM .nil bc,6,az (pV K) (pv 2) (aV %[5|ag])|ag]]
   (ae #[ax,3,bz,az aX (pv 3) (aP ix_tup (pv 7) aj (λ_ _=>rfl))]
   (ai (aO (ao CY (pv 4) ow (aE _)) (ai #[ax,4,bz,aP ix_tup (pv 7) aj (λ_ _=>rfl)]) aF)))))))
  (ai (au (aV %[3,4|ag]))))))))),?_⟩
 have p2:=k.p2;have p9:=k.p9;let%[uok|uno]:=bg.settle (rows:=rows) k n6;have rec1:settle ns ts p rows 2 t=settle ns ts p rows 2 t:=rfl;generalize eu:settle ns ts p rows 2 t=u at uok uno cd cl;clear rec1;have c7:=mZ (ts:=ts) n6;erw[λmm σ H'=>∃(t':Tk) (j m':Nat),σ=[some (.ref M),some (.ref D),some (.ref c),none,none,none,none,none]/\mm=j/\j<=2/\Beg ns ts p t'/\(j<=1->TkOk ns ts p t')/\(j=0->¬ t'.z.aw.1="hear")/\settle ns ts p rows j t'=u/\TalkAt C CM CG H' D M g h b rows ns ts p t' m'/\m'+200*j<=m+400/\But3 D M b H H',%[(2),t,(2),m,1,1,zG0 _,bg,λz=>absurd z ⋯,λz=>absurd z ⋯,eu,W,zG0 _|λ_ _ _ _ _ e=>e],6]
 rintro mm1 σ H1 ⟨t',j,m',rfl,rfl,j2,bg',ok',no',es,W1,m1,S1⟩;have DA:=W1.DA;let%[dx,aA,aC,aH,aT|R]:=id DA;erw[0,D,dx,0,R.hD,pA,D,g,t'.z,1,DA,λv hv=>?_];erw[av,1,hav]at hv;erw[av,_,(0),0,1,zB0 hav,BD _,1,0,6]
 by_cases ch:t'.z.aw.1="hear"
 . refine bb (congrArg V.str ch) %[_,λ_ _ h=>h|6];obtain⟨i,rfl⟩:∃i,mm1=i+1:=⟨mm1-1,by have:mm1≠0:=λz=>no' z ch;omega⟩
   let%[ak,bo,aw,a0,a5|ho]:=bg'.ask (rows:=rows) k n6 ch;erw[0,0,D,M,g,h,b,rows,ns,ts,p,t',m',1,W1,k,rg,ak,bo,aw,a0,a5,ho,3,λa6 H6 _ _ W6 S6=>?_];have ok2:=bg'.asked (rows:=rows) k n6 ch;erw[i,Nat.lt_succ_self _,t'.ask ns ts p rows,i,m'+200,1,1,3,.inr ok2,λ_=>ok2,λz=>?_,6,W6,3,λa o h1 h2 h3 e=>S6 _ _ h1 h2 h3 (S1 _ _ h1 h2 h3 e)]
   . subst z;exact((ok' (zG0 _)).ask (rows:=rows) k n6 ch).2.2.2
   . rw[←es];exact(zC0 ch).symm
 refine aI (neS ch) ?_;rw[cR ch]at es;subst es;clear bg' ok' no' hav;erw[0,D,dx,0,R.hD,pA,D,g,t'.z,1,DA,λv hv=>?_];erw[av,1,hav]at hv;erw[av,_,(0),0,1,zB0 hav,BD _,1,0,6]
 by_cases cb:t'.z.aw.1="believed"
 . refine bb (congrArg V.str cb) %[(by show 2<=sizeLine;decide)|λa ha=>?_];have I:=zE0 ha (.tup [.int 1,.non]);refine q a _ ?_ (λx o h1 h2 h3 e=>I _ _ (S1 _ _ h1 h2 h3 e));have e:gl ns ts p rows (bJ ns ts) (n+1) t cs=(1,none):=by
    show(if(settle ns ts p rows 2 t).z.aw.1="believed" then _ else _)=_;rw[eu,zC0 cb]
   rw[e];erw[.non,am,1]
 refine aI (neS cb) ?_;clear hav;erw[0,D,dx,0,R.hD,pA,D,g,t'.z,1,DA,λv hv=>?_];erw[av,1,hav]at hv;erw[av,_,(0),0,1,zB0 hav,BD _,1,0,6];have hDM:c≠D/\c≠M/\c≠b:=by
  erw[dx0,_,_,_,_,R0]at W.DA;erw[dm0,hM0]at W.hM;erw[kv0,hb0,_]at W.BX;erw[bu hc R0.hD (by intro z;cases z),bu hc hM0 (by intro z;cases z),bu hc hb0 (by intro z;cases z)]
 have hc1:=S1 _ _ hDM.1 hDM.2.1 hDM.2.2 hc
 by_cases cc:t'.z.aw.1="caught"
 . refine bb (congrArg V.str cc) %[0,D,C,dx,_,0,R.hD,T.cl,T.nG,iU,0,g,c,ns,ts,p,cs,1,W1.G,n6,hc1,3|λa2 H2 S2 h2=>?_];erw[(by show 2<=sizeLine;decide),λa ha=>?_];have I:=zE0 ha (.tup [.int 0,.ref a2]);refine q a _ ?_ (λx o h1 h2 h3 e=>I _ _ (S2 _ _ (S1 _ _ h1 h2 h3 e)));have e:gl ns ts p rows (bJ ns ts) (n+1) t cs=(0,some (cs++List.replicate (bJ ns ts-cs.length) 0)):=by
    show(if(settle ns ts p rows 2 t).z.aw.1="believed" then _ else if(settle ns ts p rows 2 t).z.aw.1="caught" then _ else _)=_;rw[eu,zA0 cb,zC0 cc]
   rw[e];erw[.ref a2,am,a2,1,I _ _ h2]
 refine aI (neS cc) ?_;have co:=wO uok uno cb cc;have e:gl ns ts p rows (bJ ns ts) (n+1) t cs=iT (λr=>gl ns ts p rows (bJ ns ts) n (t'.toss ns ts p r) (cs++[r])) p.toNat:=by
  show(if(settle ns ts p rows 2 t).z.aw.1="believed" then _ else if(settle ns ts p rows 2 t).z.aw.1="caught" then _ else _)=_;rw[eu,zA0 cb,zA0 cc]
 rw[e]at q;clear e hav eu bg W hc;have cp:=(eD uok (.inr co)).2 co;generalize ef:(λr=>gl ns ts p rows (bJ ns ts) n (t'.toss ns ts p r) (cs++[r]))=fw at q;erw[ga,gb,gd,tv,%[dg|hg],_]at W1.G;erw[0,D,C,dx,_,0,R.hD,T.cl,T.nG,iU,g,CG,dg,_,0,hg,TG.cl,TG.nF,fc ..,p,1,3,3,dq (n:=p.toNat) (λi σ H'=>∃(v:V)(x5 x6 x7:Option V),σ=[some (.ref M),some (.ref D),some (.ref c),some (.int (iT fw i).1),some v,x5,x6,x7]/\OptAt H' v (iT fw i).2/\Same H1 H') %[.non,none,none,none,1,1|Same.refl _] ?_ ?_]
 . rintro i σ H2 hi ⟨v,x5,x6,x7,rfl,ov,S2⟩;rw[Int.zero_add];have W2:=W1.same S2;have DA2:=W2.DA;let%[dx2,_,_,_,_|R2]:=id DA2;erw[0,D,dx2,0,R2.hD,Ih,D,g,t'.z,ns,ts,p,1,DA2,W2.G,λD3 H3 D30 S3 DA3=>?_];let%[dx3,_,_,_,_|R3]:=id DA3;have to:=uok.tossOk co (r:=(i:Int)) #[0] #[0];erw[0,D3,dx3,0,R3.hD,GJ,0,D3,g,t'.z,(i:Int),ns,ts,p,1,DA3,W2.G.same S3,k,to.aw,to.r0,to.r1,to.tl,to.ro,to.po,λH4 S4 DA4=>?_];have S24:Same H2 H4:=Same.but S3 D30 S4;have W4:=W2.same S24;erw[dm4,hM4]at W4.hM;erw[0,M,dm4,0,hM4,ml_n4,M,g,h,b,dm4,t'.nr,t'.bx,m',1,hM4,W4.BX,λM5 dm5 b5 H5 M50 b50 hM5 BX5 S5=>?_];erw[0,0,0,(by show 1<=sizeLine;decide),λz hz=>?_];have I6:=zE0 hz (.tup [.int (i:Int)]);have g6:upd H5 z (.tup [.int (i:Int)]) z=some (.tup ([(i:Int)].map V.int)):=am;generalize upd H5 z (.tup [.int (i:Int)])=H6 at I6 g6;have S26:Same H2 H6:=S24.trans (S5.trans I6);refine qe (S26 _ _ (S2 _ _ hc1)) g6 (by rw[qG0];omega) λc7 H7 S7 h7=>?_
   have S47:Same H4 H7:=S5.trans (I6.trans S7);have S57:Same H5 H7:=I6.trans S7;let%[ok3,st3,co3|_]:=uok.toss k co to.r0 to.r1;let%[_,cs3|_]:=kE (rows:=rows) k n6 ok3;have el:(cs++[(i:Int)]).length=cs.length+1:=by rw[zJ0];rfl
   have D3M5:D3≠M5:=by
    erw[_,_,_,_,_,R4]at DA4;exact aQ R4.hD M50
   have W7:TalkAt C CM CG H7 D3 M5 g h b5 rows ns ts p (t'.toss ns ts p (i:Int)) m':=W4.twins S47 (DA4.same S47) (S57 _ _ hM5) (BX5.keep λo e=>S57 _ _ e) D3M5;erw[D3,M5,g,h,b5,c7,rows,ns,ts,p,t'.toss ns ts p (i:Int),m',cs++[(i:Int)],1,W7,k,n6,rg,.inr ok3,3,h7,3,3,λa8 H8 w8 S8=>?_];have S28:Same H2 H8:=λa o e=>S8 _ _ (aQ e D30) (aQ (S24 _ _ e) M50) (aQ (S24 _ _ e) b50) (S26.trans S7 _ _ e)
   erw[v8,ha8,o8]at w8;have ef8:gl ns ts p rows (bJ ns ts) n (t'.toss ns ts p (i:Int)) (cs++[(i:Int)])=fw (i:Int):=by rw[←ef]
   rw[ef8]at ha8 o8;erw[0,0,a8,_,(0),0,1,zB0 ha8,at0 _ _,2,6];erw[0,1,0,6];cases eo:(iT fw i).2 with
   | none=>
     rw[eo]at ov;have ov:v=.non:=ov;subst ov;refine bb rfl %[0,a8,_,(1),0,1,zB0 ha8,cE (j:=1) rfl|6];erw[v8,_,_,0,6,S2.trans S28];show OptAt H8 v8 ((iT fw i).2.or (fw (i:Int)).2);rw[eo];exact o8
   | some rr=>
     rw[eo]at ov;have ov':=ov;erw[bv,1,hbv]at ov';refine aI (by intro z;cases z) ?_;erw[.ref bv,_,_,0,6,S2.trans S28];show OptAt H8 (.ref bv) ((iT fw i).2.or (fw (i:Int)).2);rw[eo];erw[bv,1,S28 _ _ hbv]
 . rintro σ H2 ⟨v,x5,x6,x7,rfl,ov,S2⟩;erw[0,0,(by show 2<=sizeLine;decide),λa ha=>?_];have I:=zE0 ha (.tup [.int (iT fw p.toNat).1,v]);exact q a _ %[v,am|ov.mono (aZ I)] (λx o h1 h2 h3 e=>I _ _ (S2 _ _ (S1 _ _ h1 h2 h3 e)))
theorem iF   (F:Fun K "weighed_behind" "weighed_behind" dR f fd) (m:mg "weighed_behind"=some (.ref f)) (B:Bl mg) (T:DTxt K mg C) (TM:MTxt K mg CM) (TG:GTxt K mg CG) (Y:Ways P w K mg base C CM CG fW fU fH fT fS fdW fdU fdH fdT fdS) (Z:Twins P w K mg base C CM CG fDt fMt fdDt fdMt)
 (bV:Cal P w K mg base 26 "asked_once" ["machine","doubter"] (spAsked C CM CG)) (eX:Cal P w K mg base 2 "first_row" ["game","coins"] (spFirst CG)):∀n:Nat,FnOk P w K mg base CX0 (n+27) f fd ["machine","doubter","coins"] (spWB C CM CG n)
 | 0=>EG
 | n+1=>EH F B T TM TG Y Z bV eX (Cal.of F (iF F m B T TM TG Y Z bV eX n) m (λ_ _ _ _ _ _ us hl=>by let%[u0,u1,u2|1]:=FL hl;rfl))
end
section
variable {C CM CA CG:Addr}
inductive spWeighed(C CM CG:Addr)(vs:List V)(H:Hp)(Q:VK)(u_3:XK):Prop
 |mk:∀(g h:Addr)(rv:List V)(rows:List Hr)(ns:List Str)(ts:List Tr)(p:Int),vs=[.ref g,.ref h]->Gm CG H g ns ts p->GmK ns ts p->ns.length<=6->H h=some (.tup rv)->RowsAt H rv rows->(∀r∈rows,r.good)->p ^ bJ ns ts<=4000->(∀(a:Addr)(H':Hp),Same H H'->WtAt H' a (gl ns ts p rows (bJ ns ts) 8 (Tk.new ts) [])->Q (.ref a) H')->spWeighed C CM CG vs H Q u_3
theorem B0:FnScope ["game","helper","rows"] ["game","helper"] (aq nU):=%[1,1,1,4,1,4|4]
theorem xX   (F:Fun K "weighed" "weighed" nU f fd) (T:DTxt K mg C) (TM:MTxt K mg CM) (hmost:∃t,mg "MOST_ROWS_weighing"=some (.int 4000 t))
 (MD:Mk K C fI) (GD:FnOk P w K mg base CX0 1 fI fdI ["self","game"] (spDInit C CG)) (bD:Binds K fdI ["self","game"] []) (MM:Mk K CM fM) (GM:FnOk P w K mg base CX0 1 fM fdM ["self","game","helper"] (spMInit CM)) (bM:Binds K fdM ["self","game","helper"] [])
 (gN:Cal P w K mg base 2 "rows_of_coins" ["game"] (spRowsC CG)) (di:Cal P w K mg base 35 "weighed_behind" ["machine","doubter","coins"] (spWB C CM CG 8)):FnOk P w K mg base CX0 36 f fd ["game","helper"] (spWeighed C CM CG):=by
 exists B0
 erw[g,h,rv,rows,ns,ts,p,1,G,k,n6,hh,RW,rg,p4,q]at h;erw[te,ge]at hmost;have hr2:Room (1+1) _:=hr.mono ⋯;refine⟨_,(ae #[ax,2,B0,aB gN hr ⋯ rfl %[0|ag]]
  (ae (aO (ao iR (pv 2) (cV (v:=.int 4000) rfl ge %[|0]) (aE _)) bq aF)
  (ai (au (aB di hr ⋯ rfl %[gJ MM GM hr2 rfl TM.mgC bM .nil bc %[0,1|ag],gJ MD GD hr2 rfl T.mgC bD .nil bc %[0|ag],aV ag|ag]))))),?_⟩
 have p2:=k.p2;have p9:=k.p9;erw[0,g,ns,ts,p,1,G,n6,3,3,6];erw[0,2,0,aI #[0] ?_];erw[0,0,λM dm hM0 hdm0 nM=>?_];have K1:Same H (upd (upd H dm (.own M)) M (.ins CM dm [])):=λa o e=>by
  rw[aG (aQ e hM0),aG (aQ e hdm0)];exact e
 erw[M,g,h,dm,1,am,λb H2 b0 hM2 hb2 S2=>%[1|6]];have T2:Same H H2:=Same.but K1 hM0 S2;have b00:H b=none:=K1.free b0;clear K1 S2 b0;erw[0,λD dd hD0 hdd0 nD=>?_];have K3:Same H2 (upd (upd H2 dd (.own D)) D (.ins C dd [])):=λa o e=>by
  rw[aG (aQ e hD0),aG (aQ e hdd0)];exact e
 have G2:=G.same T2;have gD:g≠D:=by
  erw[_,_,_,_,%[dg|hg],_]at G2;exact aQ hg hD0
 erw[D,g,dd,ns,ts,p,1,am,G2.same K3,gD,λH4 S4 DA4=>%[1|6]];have T24:Same H2 H4:=Same.but K3 hD0 S4;have T4:Same H H4:=T2.trans T24;have D00:H D=none:=T2.free hD0;have nDM:D≠M:=(aQ hM2 hD0).symm;have W4:TalkAt C CM CG H4 D M g h b rows ns ts p (Tk.new ts) 0:=⟨DA4,G.same T4,⟨dm,T24 _ _ hM2⟩,⟨rv,T4 _ _ hh,RW.mono (aZ T4)⟩,⟨[],T24 _ _ hb2,zG0 _,λ_=>rfl⟩,nDM⟩
 erw[(by show 0<=sizeLine;decide),λc hc=>?_];have I:=zE0 hc (.tup []);have gc:upd H4 c (.tup []) c=some (.tup (([]:List Int).map V.int)):=am;generalize upd H4 c (.tup [])=H5 at I gc;let%[_,c1|_]:=jb (rows:=rows) k n6;have c2:ns.length+(if 1<ts.length then 1 else 0)<=bJ ns ts:=by
  unfold bJ
  split <;> split <;> omega
 have c7:=mZ (ts:=ts) n6;erw[D,M,g,h,b,c,rows,ns,ts,p,Tk.new ts,(0),[],1,W4.same I,k,n6,rg,.inl rfl,3,gc,(by show 0+_<=_;omega),4,λa H6 w6 S6=>q a H6 (λx o e=>?_) w6];exact S6 _ _ (aQ e D00) (aQ e hM0) (aQ e b00) (I _ _ (T4 _ _ e))
end
def iy(p:Nat):Nat->List (List Int)
 | 0=>[[]]
 | k+1=>(List.range p).flatMap λr:Nat=>(iy p k).map ((r:Int)::·)
theorem nv:∀(k:Nat)(c:List Int),c∈iy p k->c.length=k/\cj c (p:Int)
 | 0,c,h=>by
   have e:c=[]:=by simpa [iy]using h
   subst e;erw[1,λx hx=>by cases hx]
 | k+1,c,h=>by
   unfold iy at h;let%[r,hr|h]:=List.mem_flatMap.mp h;let%[c',hc'|1]:=List.mem_map.mp h;have hr:=List.mem_range.mp hr;let%[l|o]:=nv k c' hc';erw[by rw[zO0,l],λx hx=>?_];rcases zW0 hx with e | e
   . subst e;omega
   . exact o x e
theorem tM{p:Nat}(hp:0<p):∀k,(iy p k).head?=some (List.replicate k 0)
 | 0=>rfl
 | k+1=>by
   obtain⟨q,rfl⟩:∃q,p=q+1:=%[p-1|3]
   unfold iy;rw[List.range_succ_eq_map,List.flatMap_cons,List.head?_append,List.head?_map,tM hp k];rfl
theorem wR:∀k,(iy p k).length=p ^ k
 | 0=>rfl
 | k+1=>by
   unfold iy;rw[List.length_flatMap]
   have:((List.range p).map λa:Nat=>((iy p k).map ((a:Int)::·)).length)=List.replicate p (p ^ k):=by
    rw[List.eq_replicate_iff];erw[by simp,λb hb=>?_];let%[a,_|1]:=List.mem_map.mp hb;rw[zF0,wR k]
   rw[this,List.sum_replicate_nat,Nat.pow_succ,Nat.mul_comm]
def jw(L:List (List Int))(b:List Int->Bool)(cs:List Int):Int×Option (List Int):=(((L.filter b).length:Int),((L.filter λc=>!b c).head?).map (cs++·))
theorem jv{L:List (List Int)}{b b':List Int->Bool}(h:∀c∈L,b c=b' c):jw L b cs=jw L b' cs:=by
 unfold jw;have e1:L.filter b=L.filter b':=List.filter_congr h;have e2:(L.filter λc=>!b c)=L.filter λc=>!b' c:=List.filter_congr λc hc=>by rw[h c hc]
 rw[e1,e2]
theorem CF{L M:List (List Int)}:jw (L++M) b cs=((jw L b cs).1+(jw M b cs).1,(jw L b cs).2.or (jw M b cs).2):=by
 unfold jw;rw[List.filter_append,List.filter_append,zJ0,List.head?_append,Int.natCast_add]
 congr 1
 cases(List.filter (λc=>!b c) L).head? <;> rfl
theorem CD{L:List (List Int)}{r:Int}:jw (L.map (r::·)) b cs=jw L (λc=>b (r::c)) (cs++[r]):=by
 unfold jw;rw[List.filter_map,List.filter_map,zF0,List.head?_map]
 congr 1
 show Option.map _ (Option.map _ _)=_;rw[Option.map_map]
 congr 1
 funext c
 show cs++(r::c)=(cs++[r])++c;rw[List.append_assoc];rfl
theorem tf{p j:Nat}{f:Int->Int×Option (List Int)}{b:List Int->Bool}{cs:List Int}(h:∀r:Nat,r<p->f (r:Int)=jw (iy p j) (λc=>b ((r:Int)::c)) (cs++[(r:Int)])):∀k,k<=p->iT f k=jw ((List.range k).flatMap λr:Nat=>(iy p j).map ((r:Int)::·)) b cs
 | 0,_=>rfl
 | k+1,hk=>by
   show((iT f k).1+(f (k:Int)).1,(iT f k).2.or (f (k:Int)).2)=_;rw[tf h k #[0],h k #[0],List.range_succ,List.flatMap_append,CF,List.flatMap_singleton,CD]
section
variable {ns:List Str} {ts:List Tr} {p:Int} {t:Tk} {rows:List Hr}
theorem Cc(z:Db):bZ ns z<=2*ns.length+1:=by
 unfold bZ
 split
 . omega
 . split
   . split <;> omega
   . omega
theorem oF(h:cj cs p)(p0:0<p):0<=cs.headD 0/\cs.headD 0<p:=by
 cases cs with
 | nil=>erw[Int.le_refl 0,p0]
 | cons a r=>exact h a (qB0 ..)
theorem tO(h:cj cs p):cj cs.tail p:=λx hx=>h x (List.mem_of_mem_tail hx)
theorem lx(k:GmK ns ts p)(n6:ns.length<=6):∀(n:Nat)(t:Tk)(cs:List Int),TkOk ns ts p t->cj cs p->bZ ns t.z<=n->(cU ns ts p rows cs (n+1) t).2=(cU ns ts p rows cs n t).2
 | 0,t,cs,h,hc,hs=>by
   have h1:¬ t.z.aw.1="hear":=λz=>by have:=(eD h (.inl z)).1;omega
   have h2:¬ t.z.aw.1="coin":=λz=>by have:=(eD h (.inr z)).1;omega
   rw[dQ h1 h2,dQ h1 h2]
 | n+1,t,cs,h,hc,hs=>by
   have p2:=k.p2
   by_cases ch:t.z.aw.1="hear"
   . rw[fe ch,fe ch];let%[o,s|_]:=h.ask (rows:=rows) k n6 ch;exact lx k n6 n _ cs o hc #[0]
   . by_cases cc:t.z.aw.1="coin"
     . rw[ei cc,ei cc];let%[r0|r1]:=oF hc #[0];let%[o,s|_]:=h.toss k cc r0 r1;exact lx k n6 n _ cs.tail o (tO hc) #[0]
     . rw[dQ ch cc,dQ ch cc]
theorem qj(k:GmK ns ts p)(n6:ns.length<=6)(h:TkOk ns ts p t)(hc:cj cs p){n:Nat}(hs:bZ ns t.z<=n):∀m,(cU ns ts p rows cs (n+m) t).2=(cU ns ts p rows cs n t).2
 | 0=>rfl
 | m+1=>by rw[←Nat.add_assoc,lx k n6 _ _ _ h hc #[0],qj k n6 h hc hs m]
theorem vo(k:GmK ns ts p)(n6:ns.length<=6)(h:TkOk ns ts p t)(hc:cj cs p){n m:Nat}(hn:13<=n)(hm:13<=m):(cU ns ts p rows cs n t).2=(cU ns ts p rows cs m t).2:=by
 have:=Cc (ns:=ns) t.z
 obtain⟨a,rfl⟩:∃a,n=13+a:=%[n-13|3]
 obtain⟨b,rfl⟩:∃b,m=13+b:=%[m-13|3]
 rw[qj k n6 h hc #[0],qj k n6 h hc #[0]]
theorem lP(k:GmK ns ts p)(n6:ns.length<=6)(h:TkOk ns ts p t)(hc:cj cs p){n m:Nat}(hn:14<=n)(hm:14<=m):(cU ns ts p rows cs n t).2=(cU ns ts p rows cs m (settle ns ts p rows 2 t)).2:=by
 by_cases ch:t.z.aw.1="hear"
 . let%[o,s,_|o4]:=h.ask (rows:=rows) k n6 ch;have e:settle ns ts p rows 2 t=t.ask ns ts p rows:=(zC0 ch).trans (cR o4 1);rw[e];obtain⟨a,rfl⟩:∃a,n=a+1:=%[n-1|3]
   rw[fe ch];exact vo k n6 o hc #[0] #[0]
 . rw[cR ch];exact vo k n6 h hc #[0] #[0]
structure Lf(ns:List Str)(t:Tk)(j:Nat):Prop where
 hc:t.z.aw.1="hear"∨t.z.aw.1="coin" -> bQ ns t.z=j
 be:t.z.aw.1="believed" -> j=0
theorem Gz:¬ (("believed":Str)="hear"):=by decide
theorem Gy:¬ (("coin":Str)="believed"):=by decide
theorem Gx:¬ (("caught":Str)="believed"):=by decide
theorem ne_w8:¬ (("hear":Str)="believed"):=by decide
theorem Dv:¬ (("caught":Str)="coin"):=by decide
theorem vc(z:Db)(tl:z.to.length<=ns.length)(bx:Str->Int)(nr:Int):Lf ns %[goOn ns ts p z,bx|nr] (ns.length-z.to.length):=by
 unfold goOn
 by_cases c:z.to.length<ns.length
 . rw[zC0 c];erw[λ_=>zC0 rfl,λh=>absurd h ne_w8]
 . rw [zA0 c];unfold eA
   by_cases e:z.ed=hor z.s p (ts.map λt=>t.worth ns z.to p)
   . rw[zC0 e];erw[λh=>h.elim (λh=>absurd h Gz) (λh=>absurd h Dw),λ_=>(by show ns.length-z.to.length=0;omega)]
   . rw[zA0 e];erw[λh=>h.elim (λh=>absurd h zu) (λh=>absurd h Dv),λh=>absurd h Gx]
theorem Lf.ask (k:GmK ns ts p) (n6:ns.length<=6) {j:Nat} (h:TkOk ns ts p t) (l:Lf ns t j) (hw:t.z.aw.1="hear"):Lf ns (t.ask ns ts p rows) j:=by
 have ho:=h.hear (rows:=rows) k n6 hw;have x0:=h.gd.hear_ne k ho;have e:cX ns ts p (t.said ns ts p rows) t.z=dI p (t.said ns ts p rows) { t.z with pl:=t.z.pl+((t.said ns ts p rows).length:Int) }:=zA0 h.cl;have l1:=l.hc (.inl hw);have s2:bQ ns t.z=ns.length-t.z.to.length:=zC0 hw;have ez:(t.ask ns ts p rows).z=dI p (t.said ns ts p rows) { t.z with pl:=t.z.pl+((t.said ns ts p rows).length:Int) }:=e;erw[λhh=>?_,λhh=>?_]
 . rw [ez]at hh ⊢;unfold dI at hh ⊢
   by_cases c:(val p (t.said ns ts p rows) 0+val p (t.said ns ts p rows) 1) % p=t.z.ed
   . rw[zC0 c];show(if(("coin":Str)="hear")then _ else if(("coin":Str)="coin")then(if t.said ns ts p rows=[]then _ else _)else _)=j;rw[zA0 iG,zC0 rfl,zA0 x0];show ns.length-t.z.to.length=j;omega
   . rw[zA0 c]at hh;exact hh.elim (λh=>absurd h zu) (λh=>absurd h Dv)
 . rw [ez]at hh;unfold dI at hh
   by_cases c:(val p (t.said ns ts p rows) 0+val p (t.said ns ts p rows) 1) % p=t.z.ed
   . rw[zC0 c]at hh;exact absurd hh Gy
   . rw[zA0 c]at hh;exact absurd hh Gx
theorem Lf.settle(k:GmK ns ts p)(n6:ns.length<=6)(h:TkOk ns ts p t)(l:Lf ns t j):Lf ns (settle ns ts p rows 2 t) j:=by
 by_cases ch:t.z.aw.1="hear"
 . let%[o,s,_|o4]:=h.ask (rows:=rows) k n6 ch;have e:Mine.settle ns ts p rows 2 t=t.ask ns ts p rows:=(zC0 ch).trans (cR o4 1);rw[e];exact l.ask k n6 h ch
 . rw[cR ch];exact l
theorem Lf.toss (h:TkOk ns ts p t) {j:Nat} (l:Lf ns t (j+1)) (hw:t.z.aw.1="coin") (r:Int):Lf ns (t.toss ns ts p r) j:=by
 have nh:¬ t.z.aw.1="hear":=by rw[hw];exact iG
 have s2:bQ ns t.z=if t.z.he=[]then ns.length+1 else ns.length-t.z.to.length:=by unfold bQ;rw[zA0 nh,zC0 hw]
 have l1:=l.hc (.inr hw)
 by_cases c:t.z.he=[]
 . have et:=h.fi hw c;rw[zC0 c]at s2;have e:t.toss ns ts p r=%[goOn ns ts p { t.z with pl:=t.z.pl+1,s:=r,ed:=hor r p t.z.cl },t.bx|t.nr]:=by
    unfold Tk.toss dB wN;rw[zC0 c]
   rw[e]
   have:=vc (ns:=ns) (ts:=ts) (p:=p) { t.z with pl:=t.z.pl+1,s:=r,ed:=hor r p t.z.cl } h.gd.tl t.bx t.nr
   have ej:ns.length-t.z.to.length=j:=by rw[et,List.length_nil];omega
   rw[←ej];exact this
 . have tl:=((h.gd.co hw).2 c).2;rw[zA0 c]at s2;have e:t.toss ns ts p r=%[goOn ns ts p { t.z with pl:=t.z.pl+1,ed:=val p t.z.he r,to:=t.z.to++[r] },t.bx|t.nr]:=by
    unfold Tk.toss dB;rw[zA0 c]
   rw[e];have el:(t.z.to++[r]).length=t.z.to.length+1:=by rw[zJ0];rfl
   have:=vc (ns:=ns) (ts:=ts) (p:=p) { t.z with pl:=t.z.pl+1,ed:=val p t.z.he r,to:=t.z.to++[r] } (by show(t.z.to++[r]).length<=_;omega) t.bx t.nr
   have ej:ns.length-(t.z.to++[r]).length=j:=by omega
   rw[←ej];exact this
theorem Lf.new(k:GmK ns ts p):Lf ns ((Tk.new ts).ask ns ts p rows) (bJ ns ts):=by
 have e0:cX ns ts p ((Tk.new ts).said ns ts p rows) (Db.new ts)=jL ns ts p ((Tk.new ts).said ns ts p rows) { Db.new ts with pl:=(Db.new ts).pl+(((Tk.new ts).said ns ts p rows).length:Int) }:=zC0 rfl
 by_cases c:ts.length=1
 . have e:(Tk.new ts).ask ns ts p rows=%[goOn ns ts p { Db.new ts with pl:=(Db.new ts).pl+(((Tk.new ts).said ns ts p rows).length:Int),cl:=(Tk.new ts).said ns ts p rows,s:=0,ed:=hor 0 p ((Tk.new ts).said ns ts p rows) },((Tk.new ts).run ns ts p rows).bx|(Tk.new ts).nr+1]:=by
    unfold Tk.ask
    congr 1
    exact e0.trans (zC0 c)
   rw[e];have ej:bJ ns ts=ns.length-([]:List Int).length:=zC0 c;rw[ej];exact vc _ (zU0 _) _ _
 . have ez:((Tk.new ts).ask ns ts p rows).z={ Db.new ts with pl:=(Db.new ts).pl+(((Tk.new ts).said ns ts p rows).length:Int),cl:=(Tk.new ts).said ns ts p rows,aw:=("coin",none) }:=e0.trans (zA0 c);have ej:bJ ns ts=ns.length+1:=zA0 c;erw[λ_=>?_,λh=>?_]
   . rw[ez,ej];show(if(("coin":Str)="hear")then _ else if(("coin":Str)="coin")then(if([]:List Int)=[]then ns.length+1 else _)else 0)=_;rw[zA0 iG,zC0 rfl,zC0 rfl]
   . rw[ez]at h;exact absurd h Gy
noncomputable def yO (ns:List Str) (ts:List Tr) (p:Int) (rows:List Hr) (t:Tk) (c:List Int):Bool:=decide ((cU ns ts p rows c 20 t).2.z.aw.1="believed")
theorem sJ (k:GmK ns ts p) (n6:ns.length<=6) {cn:Nat}:∀(d j:Nat) (t:Tk) (cs:List Int),TkOk ns ts p (settle ns ts p rows 2 t)->¬ (settle ns ts p rows 2 t).z.aw.1="hear" -> Lf ns (settle ns ts p rows 2 t) j->j<d->cs.length+j=cn ->
 gl ns ts p rows cn d t cs=jw (iy p.toNat j) (yO ns ts p rows (settle ns ts p rows 2 t)) cs
 | 0,j,_,_,_,_,_,hd,_=>absurd hd (Nat.not_lt_zero _)
 | d+1,j,t,cs,ok,no,lf,hd,hl=>by
   have p2:=k.p2;have ep:(p.toNat:Int)=p:=by omega
   show(if(settle ns ts p rows 2 t).z.aw.1="believed" then _ else if(settle ns ts p rows 2 t).z.aw.1="caught" then _ else _)=_;generalize settle ns ts p rows 2 t=u at ok no lf
   by_cases cb:u.z.aw.1="believed"
   . rw [zC0 cb];have e0:=lf.be cb;subst e0;have e1:yO ns ts p rows u []=true:=by
      unfold yO;rw[dQ no (by rw[cb];exact Dw)];exact decide_eq_true cb
     unfold jw iy;rw[List.filter_cons_of_pos e1,List.filter_cons_of_neg (by rw[e1];decide)];rfl
   . rw [zA0 cb]
     by_cases cc:u.z.aw.1="caught"
     . rw [zC0 cc];have e1:∀c∈iy p.toNat j,yO ns ts p rows u c=false:=λc _=>by
        unfold yO;rw[dQ no (by rw[cc];exact Dv)];exact decide_eq_false cb
       rw[jv (b':=λ_=>false) e1];unfold jw;have e2:(iy p.toNat j).filter (λ_=>false)=[]:=List.filter_eq_nil_iff.mpr λ_ _=>by decide
       have e3:(iy p.toNat j).filter (λc=>!((λ_=>false) c))=iy p.toNat j:=List.filter_eq_self.mpr λ_ _=>rfl
       rw[e2,e3,tM #[0]];show(0,some (cs++List.replicate (cn-cs.length) 0))=((([]:List (List Int)).length:Int),some (cs++List.replicate j 0))
       rw[show cn-cs.length=j by omega];rfl
     . rw [zA0 cc];have co:=wO ok no cb cc;have cp:=(eD ok (.inr co)).2 co;obtain⟨i,rfl⟩:∃i,j=i+1:=%[j-1|by have:=lf.hc (.inr co);omega]
       refine tf (p:=p.toNat) (j:=i) (λr hr=>?_) p.toNat (zG0 _);have r0:(0:Int)<=(r:Int):=Int.natCast_nonneg r;have r1:(r:Int)<p:=by omega
       let%[ok3|_]:=ok.toss k co r0 r1;let%[ok4,_|no4]:=kE (rows:=rows) k n6 ok3;rw[sJ k n6 d i _ (cs++[(r:Int)]) ok4 no4 ((lf.toss ok co (r:Int)).settle k n6 ok3) #[0] (by rw[zJ0,qG0];omega)];refine jv λc hc=>?_
       have po:cj c p:=by
        have:=(nv _ _ hc).2
        rwa [ep]at this
       unfold yO;rw[←lP (n:=19) k n6 ok3 po ⋯ ⋯,ei (n:=19) co];rfl
theorem zQ (k:GmK ns ts p) (n6:ns.length<=6):gl ns ts p rows (bJ ns ts) 8 (Tk.new ts) []=jw (iy p.toNat (bJ ns ts)) (λc=>decide ((lg ns ts p rows c).2.z.aw.1="believed")) []:=by
 let%[o1,_|no1]:=jb (rows:=rows) k n6;let%[o2|_]:=kO (rows:=rows) k n6;have c7:=mZ (ts:=ts) n6;have ep:(p.toNat:Int)=p:=by have:=k.p2;omega
 have e:settle ns ts p rows 2 (Tk.new ts)=settle ns ts p rows 1 ((Tk.new ts).ask ns ts p rows):=zC0 rfl;have e2:settle ns ts p rows 2 (Tk.new ts)=settle ns ts p rows 2 ((Tk.new ts).ask ns ts p rows):=by
  rw[e]
  by_cases c:((Tk.new ts).ask ns ts p rows).z.aw.1="hear"
  . have n4:=(o2.ask (rows:=rows) k n6 c).2.2.2;show(if _ then _ else _)=(if _ then _ else _)
    rw[zC0 c,zC0 c,cR n4,cR n4]
  . rw[cR c,cR c]
 have lf:=(Lf.new (rows:=rows) k).settle (rows:=rows) k n6 o2;rw[←e2]at lf;rw[sJ k n6 8 (bJ ns ts) (Tk.new ts) [] o1 no1 lf #[0] (Nat.zero_add _)];refine jv λc hc=>?_
 have po:cj c p:=by
  have:=(nv _ _ hc).2
  rwa [ep]at this
 unfold yO;rw[e2,←lP (n:=20) k n6 o2 po ⋯ ⋯];rfl
end
theorem Be{p x y:Int}(hp:1<p)(bx cy:Bool)(hx:x=if bx then 1 else 0)(hy:y=if cy then 1 else 0):eg p o x y=if jK o bx cy then 1 else 0:=by
 have m0:(0:Int) % p=0:=Int.zero_emod p;have m1:(1:Int) % p=1:=qT0 ⋯ hp;subst hx hy;unfold eg jK;cases bx <;> cases cy <;> (repeat' split) <;> simp_all
theorem iz{ns:List Str}{st:List Int}{p:Int}(hp:1<p)(h:∀x∈st,x=0∨x=1)(hl:st.length=ns.length):∀t:Tr,t.ok ns->t.worth ns st p=if t.holds ns st then 1 else 0
 | .is x,ok=>by
   let%[j,hj|jl]:=gQ ok;show(match eI x ns with | some j=>st.getD j 0 | none=>0)=if(match eI x ns with | some j=>decide (st.getD j 0=1) | none=>false)=true then 1 else 0
   rw[hj];show st.getD j 0=if decide (st.getD j 0=1)=true then 1 else 0
   rw[rP #[0]];rcases h _ (qP0 (show j<st.length by omega))with e | e <;> rw[e] <;> rfl
 | .yes,_=>rfl
 | .no,_=>rfl
 | .not a,ok=>by
   have m0:(0:Int) % p=0:=Int.zero_emod p;have m1:(1:Int) % p=1:=qT0 ⋯ hp;show(1-a.worth ns st p) % p=if(!a.holds ns st)=true then 1 else 0
   rw[iz hp h hl a ok];cases a.holds ns st
   . exact m1
   . exact m0
 | .bin o a b,⟨_,k1,k2⟩=>Be hp _ _ (iz hp h hl a k1) (iz hp h hl b k2)
theorem nd_at{ns:List Str}(nd:ns.Nodup){i j:Nat}{z:Str}(hi:ns[i]?=some z)(hj:ns[j]?=some z):i=j:=by
 let%[h1|e1]:=zX0 hi;let%[h2|e2]:=zX0 hj;rcases Nat.lt_trichotomy i j with h | h | h
 . exact absurd (e1.trans e2.symm) (List.pairwise_iff_getElem.mp nd i j h1 h2 h)
 . exact h
 . exact absurd (e2.trans e1.symm) (List.pairwise_iff_getElem.mp nd j i h2 h1 h)
theorem Cl{pt:List Int}{j i:Nat}{x:Int}(hj:j<pt.length):(pt.set j x).getD i 0=if i=j then x else pt.getD i 0:=by
 rw[qL0,qL0,List.getElem?_set]
 by_cases c:j=i
 . subst c
   simp [hj]
 . rw[zA0 c,zA0 (Ne.symm c)]
theorem iY{ns:List Str}{pt:List Int}{p:Int}{j:Nat}{y:Str}(hy:ns[j]?=some y)(hl:pt.length=ns.length)(nd:ns.Nodup):∀t:Tr,t.ok ns->∃f:Int->Int,IsPoly (t.names.count y+1) f/\∀x:Int,p ∣ t.worth ns (pt.set j x) p-f x
 | .is z,ok=>by
   have jl:j<ns.length:=(zX0 hy).1;let%[i,hi|il]:=gQ ok;have hz:=(qU hi).1;have e:∀x,(Tr.is z).worth ns (pt.set j x) p=if i=j then x else pt.getD i 0:=λx=>by
    show(match eI z ns with | some j'=>(pt.set j x).getD j' 0 | none=>0)=_;rw[hi];exact Cl #[0]
   by_cases c:i=j
   . subst c;have ez:z=y:=zT0 (hz.symm.trans hy);subst ez;erw[λx=>x,6,λx=>%[(0)|by rw[e x,zC0 rfl];simp]]
     have:(Tr.is z).names.count z=1:=by simp [Tr.names]
     rw[this];exact IsPoly.self
   . have ez:z≠y:=λh=>c (by
      subst h;exact nd_at nd hz hy)
     erw[λ_=>pt.getD i 0,6,λx=>%[(0)|by rw[e x,zA0 c];simp]];exact IsPoly.const _ _
 | .yes,_=>%[λ_=>1,IsPoly.const _ _|λx=>%[(0)|by show(1:Int)-1=_;simp]]
 | .no,_=>%[λ_=>0,IsPoly.const _ _|λx=>%[(0)|by show(0:Int)-0=_;simp]]
 | .not a,ok=>by
   let%[f,hf|h]:=iY (p:=p) hy hl nd a ok;erw[λx=>1+(-1)*f x,(IsPoly.const 1 _).add (hf.mul (-1)),λx=>?_];let%[k|hk]:=h x;let%[m|hm]:=rR p (1-a.worth ns (pt.set j x) p);show p ∣ (1-a.worth ns (pt.set j x) p) % p-_;erw[m-k,by grind]
 | .bin o a b,⟨_,ok1,ok2⟩=>by
   let%[f,hf|h]:=iY (p:=p) hy hl nd a ok1;let%[g,hg|h']:=iY (p:=p) hy hl nd b ok2;have ec:(Tr.bin o a b).names.count y+1=a.names.count y+b.names.count y+1:=by
    show(a.names++b.names).count y+1=_;rw[List.count_append]
   rw [ec];have hF:IsPoly (a.names.count y+b.names.count y+1) f:=hf.upTo _ #[0];have hG:IsPoly (a.names.count y+b.names.count y+1) g:=hg.upTo _ #[0];have hP:=hf.prod hg;have fin:∀(c0 c1 c2:Int),(∀u v:Int,eg p o u v=(c0+c1*(u+v)+c2*(u*v)) % p)->∃F:Int->Int,IsPoly (a.names.count y+b.names.count y+1) F/\∀x:Int,p ∣ (Tr.bin o a b).worth ns (pt.set j x) p-F x:=λc0 c1 c2 hJ=>by
    erw[λx=>c0+c1*(f x+g x)+c2*(f x*g x),((IsPoly.const c0 _).add ((hF.add hG).mul c1)).add (hP.mul c2),λx=>?_];let%[k|hk]:=h x;let%[l|hl]:=h' x;show p ∣ eg p o (a.worth ns (pt.set j x) p) (b.worth ns (pt.set j x) p)-_;rw[hJ];generalize a.worth ns (pt.set j x) p=u at *
    generalize b.worth ns (pt.set j x) p=v at *
    let%[m|hm]:=rR p (c0+c1*(u+v)+c2*(u*v));erw[m+c1*(k+l)+c2*(k*v+f x*l),by grind]
   by_cases c1:o="and"
   . exact fin 0 0 1 λu v=>by unfold eg;rw[zC0 c1];congr 1;grind
   by_cases c2:o="or"
   . exact fin 0 1 (-1) λu v=>by unfold eg;rw[zA0 c1,zC0 c2];congr 1;grind
   by_cases c3:o="odd"
   . exact fin 0 1 (-2) λu v=>by unfold eg;rw[zA0 c1,zA0 c2,zC0 c3];congr 1;grind
   . exact fin 1 (-1) 2 λu v=>by unfold eg;rw[zA0 c1,zA0 c2,zA0 c3];congr 1;grind
theorem vX{ns:List Str}{pt:List Int}{p:Int}{j D:Nat}{y:Str}(hy:ns[j]?=some y)(hl:pt.length=ns.length)(nd:ns.Nodup):∀ts:List Tr,(∀t∈ts,t.ok ns/\t.names.count y<=D)->∃f:Int->Int,IsPoly (D+1) f/\∀x:Int,p ∣ im s (ts.map λt=>t.worth ns (pt.set j x) p)-f x
 | [],_=>%[λ_=>0,IsPoly.const _ _|λx=>%[(0)|by simp [im]]]
 | t::ts,h=>by
   let%[f,hf|h1]:=iY (p:=p) hy hl nd t (h t qB0).1;let%[g,hg|h2]:=vX (p:=p) (s:=s) hy hl nd ts λu hu=>h u (qJ0 _ hu)
   have hd:=(h t qB0).2;erw[λx=>f x+s*g x,(hf.upTo _ #[0]).add (hg.mul s),λx=>?_];let%[k|hk]:=h1 x;let%[l|hl]:=h2 x;show p ∣ t.worth ns (pt.set j x) p+s*im s (ts.map λt=>t.worth ns (pt.set j x) p)-_;erw[k+s*l,by grind]
theorem BK(hp:Pm p){xs:List Int}{f:Int->Int}(hn:(xs.length:Int)<=p)(hf:IsPoly xs.length f)(h:∀k,k<xs.length->p ∣ xs.getD k 0-f k)(r:Int):val p xs r=f r % p:=
 md (wg hp hn (wW hp hn) hf h r)
theorem Il{ts:List Tr}{x:Str}:∀t∈ts,t.names.count x<=(bN ts x).toNat:=λt ht=>by
 have:=FG (d:=0) (List.mem_map.mpr %[t,ht|1]:((t.names.count x:Nat):Int)∈ts.map λt=>(t.names.count x:Int))
 unfold bN;omega
theorem zc:∀(cs st:List Int)(x z:Int),(cs++[z]++st).set cs.length x=cs++[x]++st
 | [],_,_,_=>rfl
 | a::cs,st,x,z=>congrArg (a::·) (zc cs st x z)
theorem vq{ns:List Str}{cs:List Int}{p:Int}{D:Nat}{y:Str}{ts:List Tr}(hy:ns[cs.length]?=some y)(nd:ns.Nodup)(h:∀t∈ts,t.ok ns/\t.names.count y<=D):∀l:List (List Int),(∀st∈l,cs.length+1+st.length=ns.length) ->
 ∃f:Int->Int,IsPoly (D+1) f/\∀x:Int,p ∣ (l.map λst=>im s (ts.map λt=>t.worth ns (cs++[x]++st) p)).sum-f x
 | [],_=>%[λ_=>0,IsPoly.const _ _|λx=>%[(0)|by simp]]
 | st::l,hs=>by
   let%[f,hf|h1]:=vX (p:=p) (s:=s) (pt:=cs++[0]++st) hy (by rw[zJ0,zJ0,qG0];exact hs st qB0) nd ts h;let%[g,hg|h2]:=vq (p:=p) (s:=s) hy nd h l λu hu=>hs u (qJ0 _ hu)
   erw[λx=>f x+g x,hf.add hg,λx=>?_];let%[k|hk]:=h1 x;rw[zc]at hk;let%[m|hm]:=h2 x;erw[k+m,6];simp only[zY0,List.sum_cons];rw[Int.mul_add];omega
theorem nK:∀(n:Nat)(s:List Int),s∈cF n->s.length=n
 | 0,s,h=>by rw[zS0 h];rfl
 | n+1,s,h=>by
   let%[t,ht|h]:=List.mem_flatMap.mp h
   have:=nK n t ht
   rcases zW0 h with h | h
   . rw[h,zJ0,this];rfl
   . rw[zS0 h,zJ0,this];rfl
theorem yR{ns:List Str}{ts:List Tr}{cs:List Int}{y:Str}(hp:Pm p)(hy:ns[cs.length]?=some y)(nd:ns.Nodup)(ok:∀t∈ts,t.ok ns)(tne:ts≠[])(dp:bN ts y<p)(r:Int) :
 val p (fb ns ts s p cs (bN ts y+1).toNat) r=df ns ts s p (cs++[r]):=by
 have cl:cs.length<ns.length:=(zX0 hy).1;have d0:=wF (x:=y) tne;let%[f,hf|h]:=vq (p:=p) (s:=s) hy nd (λt ht=>%[ok t ht|Il t ht]) (cF (ns.length-(cs.length+1))) λst hst=>by
  have:=nK _ _ hst
  omega
 have ll:(fb ns ts s p cs (bN ts y+1).toNat).length=(bN ts y).toNat+1:=by
  unfold fb;rw[zF0,qR0];omega
 have eq:∀x:Int,df ns ts s p (cs++[x])=((cF (ns.length-(cs.length+1))).map λst=>im s (ts.map λt=>t.worth ns (cs++[x]++st) p)).sum % p:=λx=>by
  unfold df;rw[zJ0,qG0]
 rw [BK hp (f:=f) (by rw[ll];omega) (by rw[ll];exact hf) (λk hk=>by
  have e:(fb ns ts s p cs (bN ts y+1).toNat).getD k 0=df ns ts s p (cs++[(k:Int)]):=by
   unfold fb at hk ⊢;rw[zF0,qR0]at hk;rw[qL0,zZ0,List.getElem?_range hk];rfl
  rw[e,eq];let%[a|ha]:=h k;let%[b|hb]:=rR p ((cF (ns.length-(cs.length+1))).map λst=>im s (ts.map λt=>t.worth ns (cs++[(k:Int)]++st) p)).sum;erw[a+b,by grind]) r,eq]
 let%[a|ha]:=h r;exact md %[-a|by grind]
theorem yT{α:Type}(F:List α->Int)(G:List α->Int):∀l:List (List α),(l.map λs=>F s+G s).sum=(l.map F).sum+(l.map G).sum
 | []=>rfl
 | a::l=>by
   simp only[zY0,List.sum_cons,yT F G l];omega
theorem qk(F:List Int->Int):∀l:List (List Int),((l.flatMap λs=>[s++[0],s++[1]]).map F).sum=(l.map λs=>F (s++[0])+F (s++[1])).sum
 | []=>rfl
 | a::l=>by
   rw[List.flatMap_cons,zL0,List.sum_append,qk F l]
   simp
theorem oR:∀(n:Nat)(F:List Int->Int),((cF (n+1)).map F).sum=((cF n).map λs=>F (0::s)+F (1::s)).sum
 | 0,F=>by simp [cF]
 | n+1,F=>by
   have e1:((cF (n+1+1)).map F).sum=((cF (n+1)).map λs=>F (s++[0])+F (s++[1])).sum:=qk F _;rw[e1,oR n λs=>F (s++[0])+F (s++[1])];have e2:((cF (n+1)).map λs=>F (0::s)+F (1::s)).sum=((cF n).map λs=>(F (0::(s++[0]))+F (1::(s++[0])))+(F (0::(s++[1]))+F (1::(s++[1])))).sum:=qk (λs=>F (0::s)+F (1::s)) _;rw[e2]
   congr 1
   refine List.map_congr_left λs _=>?_
   show F (0::s++[0])+F (0::s++[1])+(F (1::s++[0])+F (1::s++[1]))=_;simp only[List.cons_append];omega
theorem At{ns:List Str}{cs:List Int}(cl:cs.length<ns.length):(df ns ts s p (cs++[0])+df ns ts s p (cs++[1])) % p=df ns ts s p cs:=by
 have eq:∀x:Int,df ns ts s p (cs++[x])=((cF (ns.length-(cs.length+1))).map λst=>im s (ts.map λt=>t.worth ns (cs++[x]++st) p)).sum % p:=λx=>by
  unfold df;rw[zJ0,qG0]
 have e0:df ns ts s p cs=((cF (ns.length-(cs.length+1)+1)).map λst=>im s (ts.map λt=>t.worth ns (cs++st) p)).sum % p:=by
  unfold df;rw[show ns.length-cs.length=ns.length-(cs.length+1)+1 by omega]
 rw [e0,oR,eq,eq];have e1:((cF (ns.length-(cs.length+1))).map λst=>im s (ts.map λt=>t.worth ns (cs++0::st) p)+im s (ts.map λt=>t.worth ns (cs++1::st) p)).sum
  = ((cF (ns.length-(cs.length+1))).map λst=>im s (ts.map λt=>t.worth ns (cs++[0]++st) p)).sum+((cF (ns.length-(cs.length+1))).map λst=>im s (ts.map λt=>t.worth ns (cs++[1]++st) p)).sum:=by
  rw[←yT]
  congr 1
  refine List.map_congr_left λst _=>?_
  simp only[List.append_assoc,List.singleton_append]
 rw[e1,←Int.add_emod]
theorem qV(s:Int){α:Type}(F:Tr->α->Int)(l:List α):∀ts:List Tr,im s (ts.map λt=>(l.map (F t)).sum)=(l.map λa=>im s (ts.map λt=>F t a)).sum
 | []=>by
   simp only[List.map_nil,im]
   induction l with
   | nil=>rfl
   | cons a l ih=>simpa using ih
 | t::ts=>by
   show(l.map (F t)).sum+s*im s (ts.map λt=>(l.map (F t)).sum)=_;rw[qV s F l ts];clear qV
   induction l with
   | nil=>simp
   | cons a l ih=>
     simp only[zY0,List.sum_cons,im]at ih ⊢
     grind
theorem Ff{ns:List Str}{cs:List Int}(cl:cs.length=ns.length):df ns ts s p cs=hor s p (ts.map λt=>t.worth ns cs p):=by
 rw[mK];unfold df;rw[cl,Nat.sub_self]
 simp [cF]
def kept:List Str:=["yes","no","not","and","or","odd","same","round","due","asked","true","coin"]
def NmK(x:Str):Prop:=(∀c∈x.cps.toList,97<=c/\c<=122)/\1<=x.length/\x.length<=6/\x∉kept
theorem at1(x y:V)(xs:List V):atI (x::y::xs) 1=some y:=cE (j:=1) rfl
theorem at2(x y z:V)(xs:List V):atI (x::y::z::xs) 2=some z:=cE (j:=2) rfl
def Tm.ok:Tm->Prop
 | .num n=>0<=n/\n<1000000000000 | .box x=>NmK x | .plain w=>w∈plainW | .ask w a=>w∈askW/\a.ok | .op s a b=>s∈signW/\a.ok/\b.ok
def Tm.fit(m:Nat)(t:Tm):Prop:=t.ok/\t.size<=m/\t.depth<=8
def Hr.ok(m:Nat):Hr->Prop
 | .fin=>True | .go n=>0<=n/\n<1000000000000 | .iff t n=>t.fit m/\0<=n/\n<1000000000000 | .set x t=>NmK x/\t.fit m | .say t=>t.fit m
def LET:Str:="abcdefghijklmnopqrstuvwxyz"
def ENDS:Str:=" ()"
def isIn(L:Str)(c:Nat):Bool:=!(Builtin.Str.occurrences L %[|#[c]] 0 L.length 1).isEmpty
def jJ(z:Str):Bool:=decide (1<=z.length)&&decide (z.length<=6)&&!inV (.str z) (kept.map V.str)&&z.cps.toList.all (isIn LET)
def FIG:Str:="0123456789"
def kY (z:Str):Bool:=decide (1<=z.length)&&decide (z.length<=12)&&!(decide (1<z.length)&&Txt.startswith z "0")&&z.cps.toList.all (isIn FIG)
theorem vw {z:Str} {c:Nat} (h:z.cps.toList[0]?=some c):Txt.startswith z "0"=decide (V.str %[|#[c]]=V.str "0"):=by
 have q:=StrLaws.subAt_one z 48 0;have e0:("0":Str)=%[|#[48]]:=by decide
 unfold Txt.startswith;rw[e0]
 by_cases hc:c=48
 . subst hc
   have:=q.mpr h
   rw[show decide (V.str (%[|#[48]]:Str)=V.str ⟨#[48]⟩)=true from decide_eq_true rfl];simp only[Bool.and_eq_true,decide_eq_true_eq];exact this
 . have hne:¬ (V.str (%[|#[c]]:Str)=V.str ⟨#[48]⟩):=λe=>hc (by
    have:=V.str.inj e
    injection this with this
    simpa using this)
   rw[show decide (V.str (%[|#[c]]:Str)=V.str ⟨#[48]⟩)=false from decide_eq_false hne];rw[Bool.eq_false_iff];intro e;simp only[Bool.and_eq_true,decide_eq_true_eq]at e
   have:=q.mp e
   rw[h]at this;exact hc (zT0 this)
inductive spTxt(fB:Str->Bool)(vs:List V)(H:Hp)(Q:VK)(u_3:XK):Prop
 |mk:∀z:Str,vs=[.str z]->z.length<=1000->(∀H',Same H H'->Q (.bl (fB z)) H')->spTxt fB vs H Q u_3
structure Tx(K:W.Frag)(mg:Str->Option Value):Prop where
 letters:∃t,mg "LETTERS"=some (.str LET t)
 longest:∃t,mg "LONGEST_NAME"=some (.int 6 t)
 keptW:∃a,mg "KEPT_WORDS"=some (.ref a)/\∀H,SqT K H a (kept.map V.str)
 ends:∃t,mg "WORD_ENDS"=some (.str ENDS t)
 within:∃t,mg "MOST_WITHIN"=some (.int 8 t)
 parts:∃t,mg "MOST_PARTS"=some (.int 20 t)
 figures:∃t,mg "FIGURES"=some (.str FIG t)
 most:∃t,mg "MOST_FIGURES"=some (.int 12 t)
 rows:∃t,mg "MOST_ROWS_helptexts"=some (.int 60 t)
 signs:∃a,mg "SIGNS"=some (.ref a)/\∀H,SqT K H a (signW.map V.str)
 asking:∃a,mg "ASKING_WORDS"=some (.ref a)/\∀H,SqT K H a (askW.map V.str)
 plain:∃a,mg "PLAIN_WORDS"=some (.ref a)/\∀H,SqT K H a (plainW.map V.str)
theorem rE(z:Str):z.cps.size=z.length:=rfl
theorem iV:bootBuiltins "str"=some (.type "str"):=by decide
theorem xC:FnScope ["text"] ["text"] (aq oh):=%[1,1,1,4,1,4|4]
theorem yd   (F:Fun K "is_name" "is_name" oh f fd) (B:Bl mg) (T:Tx K mg):FnOk P w K mg base CX0 1 f fd ["text"] (spTxt jJ):=by
 exists xC
 erw[z,1,hz,q]at h;erw[t1,g1]at T.letters;erw[t3,g3]at T.longest;erw[ka,g5,hk]at T.keptW;refine⟨_,(ae (aO (PW.pt (ig (ao eO (aM cY rfl B.len PySem.boot_len %[0|ag]) aj (aE _)) (ig (ao iR (aM cY rfl B.len PySem.boot_len %[0|ag]) (cV (v:=.int 6) rfl g3 ⟨_,rfl⟩) (aE _)) (gy (ao eE (pv 0) (cV (v:=.ref ka) rfl g5 rfl) (by rfl')))))) (ai (au eN)) aF)
  (ai (au (aM (nq rfl) rfl B.all PyProof.Rows.boot_all (aa (cM (N:=[]) (ix:=[]) (cl:=[]) rfl (CompScope.closed (by rfl') ⋯ rfl ⋯ rfl (by rfl')) rfl (CO (pv 0))
   (λ_ _ _=>db (fK sR (pv 0) (cV (v:=.str LET) rfl g1 %[|0]) (by rfl')))) ag))))),?_⟩
 have fls:jJ z=false->Q (.bl false) H:=λe=>by
  have:=q H (Same.refl H)
  rw[e]at this;exact this
 erw[0,z,1,cv hz,2,0,6]
 by_cases c1:(z.length:Int)<1
 . refine bb c1 (dU ?_);exact fls (by unfold jJ;rw[decide_eq_false (show ¬ 1<=z.length by omega)];rfl)
 refine aI c1 ?_;erw[0,z,1,cv hz,2,0,6]
 by_cases c2:(6:Int)<(z.length:Int)
 . refine bb c2 (dU ?_);exact fls (by unfold jJ;rw[decide_eq_false (show ¬ z.length<=6 by omega)];simp)
 refine aI c2 ?_;erw[0,ka,0,.inr (hk _),1,⋯,0,6];cases c3:inV (.str z) (kept.map V.str)with
 | true=>
   refine dU ?_;exact fls (by unfold jJ;rw[c3];simp)
 | false=>
   refine cO ?_;erw[0,z,1,λD hD=>?_];refine rT (z:=z) (λi H'=>H' D=some (.lst (((z.cps.toList.take i).map (isIn LET)).map V.bl))/\Same H H') %[by rw[am];rfl|zE0 hD _] ?_ ?_
   . rintro i c H' hc ⟨hl,s0⟩;have hi:i<z.cps.size:=(Array.getElem?_eq_some_iff.mp hc).1;rw[rE]at hi;erw[0,2,_,hl,6,Nx.of hi %[6|6]]
     . rw[zF0,zF0,qK0];exact aS #[0]
     . rw [am];have ec:z.cps.toList[i]?=some c:=by simpa using hc
       rw[qI0,ec,zL0,zL0];rfl
     . intro b o e;rw[aG (aQ e hD)];exact s0 b o e
   . rintro H' ⟨hl,s0⟩;rw[show z.cps.toList.take z.cps.size=z.cps.toList by rw[←Array.length_toList];exact qF0]at hl;erw[D,0,zH0 hl,6];have e:jJ z=(z.cps.toList.map (isIn LET)).all id:=by
      unfold jJ;rw[c3,decide_eq_true (show 1<=z.length by omega),decide_eq_true (show z.length<=6 by omega),List.all_map];rfl
     rw[←e];exact q H' s0
theorem sv:FnScope ["text"] ["text"] (aq jp):=%[1,1,1,4,1,4|4]
theorem sB   (F:Fun K "is_figures" "is_figures" jp f fd) (B:Bl mg) (T:Tx K mg):FnOk P w K mg base CX0 1 f fd ["text"] (spTxt kY):=by
 exists sv
 erw[z,1,hz,q]at h;erw[t1,g1]at T.figures;erw[t3,g3]at T.most;refine⟨_,(ae (aO (PW.pt (ig (ao eO (aM cY rfl B.len PySem.boot_len %[0|ag]) aj (aE _)) (gy (ao iR (aM cY rfl B.len PySem.boot_len %[0|ag]) (cV (v:=.int 12) rfl g3 ⟨_,rfl⟩) (aE _))))) (ai (au eN)) aF)
  (ae (aO (PW.pt (lH (ao iR (aM cY rfl B.len PySem.boot_len %[0|ag]) aj (aE _)) (kK (dY (dw PySem.F.plainAttrs_str PySem.F.slot_str_startswith PySem.F.type_str_startswith sH (pv 0) %[aJ|ag]))))) (ai (au eN)) aF)
  (ai (au (aM (nq rfl) rfl B.all PyProof.Rows.boot_all (aa (cM (N:=[]) (ix:=[]) (cl:=[]) rfl (CompScope.closed (by rfl') ⋯ rfl ⋯ rfl (by rfl')) rfl (CO (pv 0))
   (λ_ _ _=>db (fK sR (pv 0) (cV (v:=.str FIG) rfl g1 %[|0]) (by rfl')))) ag)))))),?_⟩
 have fls:kY z=false->Q (.bl false) H:=λe=>by
  have:=q H (Same.refl H)
  rw[e]at this;exact this
 erw[0,z,1,cv hz,2,0,6]
 by_cases c1:(z.length:Int)<1
 . refine bb c1 (dU ?_);exact fls (by unfold kY;rw[decide_eq_false (show ¬ 1<=z.length by omega)];rfl)
 refine aI c1 ?_;erw[0,z,1,cv hz,2,0,6]
 by_cases c2:(12:Int)<(z.length:Int)
 . refine bb c2 ?_;exact fls (by unfold kY;rw[decide_eq_false (show ¬ z.length<=12 by omega)];simp)
 refine aI c2 ?_;erw[0,z,1,cv hz,2,0,6]
 by_cases c4:(1:Int)<(z.length:Int)
 . refine bb c4 ?_;erw[0,1,z,0,1,0,6];cases c5:Txt.startswith z "0" with
   | true=>
     refine dU ?_;exact fls (by unfold kY;rw[c5,decide_eq_true (show 1<z.length by omega)];simp)
   | false=>
     refine cO ?_;have c3:(decide (1<z.length)&&Txt.startswith z "0")=false:=by rw[c5];simp
     erw[0,z,1,λD hD=>?_];refine rT (z:=z) (λi H'=>H' D=some (.lst (((z.cps.toList.take i).map (isIn FIG)).map V.bl))/\Same H H') %[by rw[am];rfl|zE0 hD _] ?_ ?_
     . rintro i c H' hc ⟨hl,s0⟩;have hi:i<z.cps.size:=(Array.getElem?_eq_some_iff.mp hc).1;rw[rE]at hi;erw[0,2,_,hl,6,Nx.of hi %[6|6]]
       . rw[zF0,zF0,qK0];exact aS #[0]
       . rw [am];have ec:z.cps.toList[i]?=some c:=by simpa using hc
         rw[qI0,ec,zL0,zL0];rfl
       . intro b o e;rw[aG (aQ e hD)];exact s0 b o e
     . rintro H' ⟨hl,s0⟩;rw[show z.cps.toList.take z.cps.size=z.cps.toList by rw[←Array.length_toList];exact qF0]at hl;erw[D,0,zH0 hl,6];have e:kY z=(z.cps.toList.map (isIn FIG)).all id:=by
        unfold kY;rw[c3,decide_eq_true (show 1<=z.length by omega),decide_eq_true (show z.length<=12 by omega),List.all_map];rfl
       rw[←e];exact q H' s0
 . refine aI c4 ?_;refine cO ?_;have c3:(decide (1<z.length)&&Txt.startswith z "0")=false:=by rw[decide_eq_false (show ¬ 1<z.length by omega)];rfl
   erw[0,z,1,λD hD=>?_];refine rT (z:=z) (λi H'=>H' D=some (.lst (((z.cps.toList.take i).map (isIn FIG)).map V.bl))/\Same H H') %[by rw[am];rfl|zE0 hD _] ?_ ?_
   . rintro i c H' hc ⟨hl,s0⟩;have hi:i<z.cps.size:=(Array.getElem?_eq_some_iff.mp hc).1;rw[rE]at hi;erw[0,2,_,hl,6,Nx.of hi %[6|6]]
     . rw[zF0,zF0,qK0];exact aS #[0]
     . rw [am];have ec:z.cps.toList[i]?=some c:=by simpa using hc
       rw[qI0,ec,zL0,zL0];rfl
     . intro b o e;rw[aG (aQ e hD)];exact s0 b o e
   . rintro H' ⟨hl,s0⟩;rw[show z.cps.toList.take z.cps.size=z.cps.toList by rw[←Array.length_toList];exact qF0]at hl;erw[D,0,zH0 hl,6];have e:kY z=(z.cps.toList.map (isIn FIG)).all id:=by
      unfold kY;rw[c3,decide_eq_true (show 1<=z.length by omega),decide_eq_true (show z.length<=12 by omega),List.all_map];rfl
     rw[←e];exact q H' s0
theorem HI:∀c:Fin 26,isIn LET (97+c.val)=true:=by decide
theorem FK:∀c:Fin 26,isIn ENDS (97+c.val)=false:=by decide
theorem ends_in:isIn ENDS 32=true/\isIn ENDS 40=true/\isIn ENDS 41=true:=by decide
theorem DT{c:Nat}(h:97<=c/\c<=122):isIn LET c=true:=by
 have:=HI %[c-97|3]
 rwa [show 97+(%[c-97|3]:Fin 26).val=c by show 97+(c-97)=c;omega]at this
theorem Bh{c:Nat}(h:97<=c/\c<=122):isIn ENDS c=false:=by
 have:=FK %[c-97|3]
 rwa [show 97+(%[c-97|3]:Fin 26).val=c by show 97+(c-97)=c;omega]at this
theorem zv(h:NmK x):jJ x=true:=by
 erw[hl,h1,h6,hk]at h;unfold jJ;rw[fL,decide_eq_true h1,decide_eq_true h6,decide_eq_false hk];simp only[Bool.and_self,Bool.not_false,Bool.true_and];rw[List.all_eq_true];exact λc hc=>DT (hl c hc)
def stl(l:List Nat):Str:=%[|l.toArray]
theorem tP{a b:Str}(h:a.cps.toList=b.cps.toList):a=b:=by
 cases a with
 | mk x=>
   cases b with
   | mk y=>
     have:x=y:=Array.toList_inj.mp h
     rw[this]
theorem iH(x:Str):stl x.cps.toList=x:=rfl
theorem EW(l:List Nat):(stl l).length=l.length:=by
 show l.toArray.size=_
 simp
theorem fZ(a b:Str):(a++b).cps.toList=a.cps.toList++b.cps.toList:=by simp [Str.cps_append]
theorem oC:(("(":Str)).cps.toList=[40]:=by decide
theorem uV:((")":Str)).cps.toList=[41]:=by decide
theorem jC:((" ":Str)).cps.toList=[32]:=by decide
theorem Cb{a b:Str}(h:V.str a=V.str b):a=b:=V.str.inj h
theorem eP{a b:Str}(h:a≠b):¬ V.str a=V.str b:=λz=>h (Cb z)
def jn(c:Nat):List (List Nat)->List Nat
 | []=>[]
 | [a]=>a
 | a::b::r=>a++c::jn c (b::r)
theorem Es{c:Nat}:∀{a b x y:List Nat},c∉a->c∉b->a++c::x=b++c::y->a=b/\x=y
 | [],[],_,_,_,_,h=>%[1|(List.cons.inj h).2]
 | [],d::b,x,y,_,hb,h=>by
   have:=(List.cons.inj h).1
   exact absurd (by rw[this];exact qB0) hb
 | d::a,[],x,y,ha,_,h=>by
   have:=(List.cons.inj h).1
   exact absurd (by rw[←this];exact qB0) ha
 | d::a,e::b,x,y,ha,hb,h=>by
   have h':=List.cons.inj h;have r:=Es (λz=>ha (qJ0 _ z)) (λz=>hb (qJ0 _ z)) h'.2;erw[by rw[h'.1,r.1],r.2]
theorem DQ{c:Nat}:∀{l m:List (List Nat)},l≠[]->m≠[]->(∀a∈l,c∉a)->(∀a∈m,c∉a)->jn c l=jn c m->l=m
 | [],_,h,_,_,_,_=>absurd rfl h
 | _::_,[],_,h,_,_,_=>absurd rfl h
 | [a],[b],_,_,_,_,h=>congrArg (λz=>[z]) h
 | [a],b::d::r,_,_,hl,_,h=>by
   have:c∈a:=by
    rw[show a=b++c::jn c (d::r)from h]
    simp
   exact absurd this (hl a qB0)
 | a::d::r,[b],_,_,_,hm,h=>by
   have:c∈b:=by
    rw[show b=a++c::jn c (d::r)from h.symm]
    simp
   exact absurd this (hm b qB0)
 | a::d::r,b::e::s,_,_,hl,hm,h=>by
   have q:=Es (hl a qB0) (hm b qB0) (show a++c::jn c (d::r)=b++c::jn c (e::s)from h)
   have:=DQ (by simp) (by simp) (λz hz=>hl z (qJ0 _ hz)) (λz hz=>hm z (qJ0 _ hz)) q.2
   rw[q.1,this]
def cd(x:Str):List Nat:=x.cps.toList
theorem Ir(h:cd x=cd y):x=y:=by
 have:x.cps=y.cps:=Array.toList_inj.mp h
 cases x;cases y;exact congrArg Str.mk this
theorem tE(x y:Str):cd (x++y)=cd x++cd y:=by
 unfold cd;rw[Str.cps_append]
 simp
theorem vg(c:Nat):∀ps:List Str,cd (Str.join %[|#[c]] ps)=jn c (ps.map cd)
 | []=>rfl
 | [a]=>rfl
 | a::b::r=>by
   show cd (a++%[|#[c]]++Str.join ⟨#[c]⟩ (b::r))=cd a++c::jn c ((b::r).map cd);rw[tE,tE,vg c (b::r)]
   simp [cd]
theorem FM(sep:Str):∀ps:List Str,Txt.join sep ps=Str.join sep ps
 | []=>rfl
 | a::r=>StrLaws.glued_cons sep r a
theorem xh(x y:Str):Txt.split x y≠[]:=by
 unfold Txt.split
 split
 . exact List.cons_ne_nil _ _
 . split
   . exact List.cons_ne_nil _ _
   . intro h
     have:=length_partsBetween x (Builtin.Str.occurrences x y 0 x.length (x.length+1)) y.length
     rw[h]at this
     simp at this
theorem rD:∀{l m:List Str},l.map cd=m.map cd->l=m
 | [],[],_=>rfl
 | [],_::_,h=>by simp at h
 | _::_,[],h=>by simp at h
 | a::l,b::m,h=>by
   have h':=List.cons.inj h;rw[Ir h'.1,rD h'.2]
theorem xq{c:Nat}{ps:List Str}(h0:ps≠[])(hf:∀p∈ps,c∉cd p):Txt.split (Str.join %[|#[c]] ps) ⟨#[c]⟩=ps:=by
 apply rD;refine DQ (c:=c) (λh=>xh _ _ (List.map_eq_nil_iff.mp h)) (λh=>h0 (List.map_eq_nil_iff.mp h)) ?_ ?_ ?_
 . intro a ha;let%[p,hp|1]:=List.mem_map.mp ha;exact StrLaws.split_free _ c p hp
 . intro a ha;let%[p,hp|1]:=List.mem_map.mp ha;exact hf p hp
 . rw[←vg,←vg,StrLaws.join_split]
def cf(n:Int):Str:=toString n
theorem uT(m:Nat):cd (cf (m:Int))=(Nat.toDigits 10 m).map Char.toNat:=PySem.W.KIN.signs_num m
theorem kN{n:Int}(h0:0<=n):∀c∈cd (cf n),48<=c/\c<=57:=by
 let%[m|1]:=Int.eq_ofNat_of_zero_le h0;intro c hc;rw[uT]at hc;let%[ch,hch|e]:=List.mem_map.mp hc;rw[←e];exact PyProof.Rows.digit_range (Nat.isDigit_of_mem_toDigits ⋯ ⋯ hch)
theorem Du{n:Int}(h0:0<=n):cd (cf n)≠[]:=by
 let%[m|1]:=Int.eq_ofNat_of_zero_le h0;rw[uT];intro e;have h:=PySem.toDigits_len_ge 10 m;rw[List.map_eq_nil_iff.mp e]at h;exact absurd h ⋯
theorem jA{n:Int}(h0:0<=n)(h1:n<1000000000000):(cf n).length<=12:=PyProof.Rows.toString_length_le h0 ⋯ (by show n<10 ^ 12;omega)
theorem vS{n:Int}(h0:0<=n):1<=(cf n).length:=by
 have h:=Du h0;have e:(cd (cf n)).length=(cf n).length:=rfl;cases c:cd (cf n)with
 | nil=>exact absurd c h
 | cons a r=>rw[←e,c];simp
theorem zr{n:Int}(h0:0<=n)(h1:n<1000000000000):PySem.intText? (cf n)=some n:=by
 have e:=intText_digits (x:=cf n) (kN h0) (Du h0) (zP0 (jA h0 h1) ⋯);let%[m|1]:=Int.eq_ofNat_of_zero_le h0;have e2:=uT m;unfold cd at e2;rw[e2,PySem.W.KIN.val_back]at e;exact e
theorem FQ(m:Nat)(h:0<m):∃d r,Nat.toDigits 10 m=d::r/\d.toNat≠48:=by
 induction m using Nat.strongRecOn with
 | _ m ih=>
   by_cases c:m<10
   . erw[Nat.digitChar m,[],Nat.toDigits_of_lt_base c,6]
     have:∀d:Nat,d<10->0<d->(Nat.digitChar d).toNat≠48:=by decide
     exact this m c h
   . have hm:m % 10<10:=Nat.mod_lt m ⋯;have t:Nat.toDigits 10 (m / 10)++Nat.toDigits 10 (m % 10)=Nat.toDigits 10 (10*(m / 10)+m % 10):=Nat.toDigits_append_toDigits ⋯ #[0] hm;rw[Nat.div_add_mod]at t;let%[d,r,e|hd]:=ih (m / 10) #[0] #[0];erw[d,r++Nat.toDigits 10 (m % 10),by rw[←t,e];rfl,hd]
theorem Ib:∀c:Nat,c<58->48<=c->isIn FIG c=true:=by decide
theorem zt{n:Int}(h0:0<=n)(h1:n<1000000000000):kY (cf n)=true:=by
 unfold kY;rw[decide_eq_true (vS h0),decide_eq_true (jA h0 h1)];have a:(cd (cf n)).all (isIn FIG)=true:=List.all_eq_true.mpr λc hc=>by
  have:=kN h0 c hc
  exact Ib c #[0] this.1
 have a':(cf n).cps.toList.all (isIn FIG)=true:=a;rw[a'];have b:(decide (1<(cf n).length)&&Txt.startswith (cf n) "0")=false:=by
  by_cases c:1<(cf n).length
  . let%[m|1]:=Int.eq_ofNat_of_zero_le h0;have hm:0<m:=by
     apply Nat.pos_of_ne_zero;intro z;subst z
     revert c
     decide
    let%[d,r,e|hd]:=FQ m hm;have e0:(cf (m:Int)).cps.toList[0]?=some d.toNat:=by
     have:=uT m
     unfold cd at this;rw[this,e];rfl
    have z:decide (V.str (%[|#[d.toNat]]:Str)=V.str "0")=false:=decide_eq_false λz=>by
     have:=V.str.inj z
     have e1:("0":Str)=%[|#[48]]:=by decide
     rw[e1]at this;injection this with this
     have:=congrArg Array.toList this
     simp at this
     exact hd this
    rw[vw e0,z,Bool.and_false]
  . rw[decide_eq_false c];rfl
 rw[b];rfl
def NL:Str:=%[|#[10]]
theorem nl_eq:("\n":Str)=NL:=by decide
theorem xg{l:List Str}{b:Nat}(h:∀p∈l,p.length<=b):(l.map (·.length)).sum<=l.length*b:=by
 induction l with
 | nil=>simp
 | cons a r ih=>
   have h1:=h a qB0;have h2:=ih λp hp=>h p (qJ0 _ hp)
   simp only[zY0,List.sum_cons,zO0];rw[Nat.succ_mul];omega
theorem oB{n:Int}(h0:0<=n)(h1:n<1000000000000):n.natAbs.log2<1920:=by
 have h2:n.natAbs<2 ^ 40:=by omega
 by_cases c:n.natAbs=0
 . rw[c];decide
 . have:=(Nat.log2_lt c).mpr h2
   omega
theorem wG{xs:List V}{k:Nat}(hk:k<=xs.length):iM xs (some (k:Int)) none=xs.drop k:=by
 unfold iM;rw[HT.sIx_none,HT.sIx_nat,Nat.min_eq_left hk];exact List.take_of_length_le (by rw[List.length_drop];exact zG0 _)
def Tm.txt:Tm->List Nat
 | .num n=>cd (cf n)
 | .box x=>cd x
 | .plain w=>cd w
 | .ask w a=>[40]++(cd w++([32]++(a.txt++[41])))
 | .op s a b=>[40]++(cd s++([32]++(a.txt++([32]++(b.txt++[41])))))
def Tm.str(t:Tm):Str:=stl t.txt
theorem ki:∀w∈plainW,w.length<=5/\1<=w.length/\(∀c∈w.cps.toList,97<=c/\c<=122)/\w≠"num"/\w≠"box"/\w≠"op":=by decide
theorem vi:∀w∈askW,w.length<=4/\1<=w.length/\(∀c∈w.cps.toList,97<=c/\c<=122)/\w≠"num"/\w≠"box"/\w≠"op"/\w∉plainW:=by decide
theorem pR:∀w∈signW,w.length=1/\(∀c∈w.cps.toList,42<=c/\c<=61)/\w∉askW:=by decide
theorem dG(x:Str):(cd x).length=x.length:=by unfold cd;rw[Array.length_toList];rfl
theorem Tm.txt_len:∀t:Tm,t.ok->t.txt.length<=14*t.size
 | .num n,h=>by
   have:=jA h.1 h.2
   show(cd (cf n)).length<=14;rw[dG];omega
 | .box x,h=>by
   show(cd x).length<=14;rw[dG]
   have:=h.2.2.1
   omega
 | .plain w,h=>by
   show(cd w).length<=14;rw[dG]
   have:=(ki w h).1
   omega
 | .ask w a,⟨h,h1⟩=>by
   have:=Tm.txt_len a h1
   have e4:=(vi w h).1;show([40]++(cd w++([32]++(a.txt++[41])))).length<=14*(a.size+1)
   simp only[zJ0,zO0,List.length_nil,dG];omega
 | .op o a b,⟨h,h1,h2⟩=>by
   have e1:=Tm.txt_len a h1;have e2:=Tm.txt_len b h2;have e4:=(pR o h).1;show([40]++(cd o++([32]++(a.txt++([32]++(b.txt++[41])))))).length<=14*(a.size+b.size+1)
   simp only[zJ0,zO0,List.length_nil,dG];omega
theorem Tm.str_len{t:Tm}(h:t.ok):t.str.length<=14*t.size:=by
 unfold Tm.str;rw[EW];exact t.txt_len h
theorem ES(n:Int):(Tm.num n).str=cf n:=iH _
theorem EU(x:Str):(Tm.box x).str=x:=iH _
theorem Ac(x:Str):(Tm.plain x).str=x:=iH _
def brT (wd:Str) (ts:List Tm):Str:=((Str.empty++("(":Str))++Txt.join (" ":Str) (wd::ts.map Tm.str))++(")":Str)
theorem Iv(wd:Str)(a:Tm):brT wd [a]=(Tm.ask wd a).str:=by
 refine tP ?_;unfold brT;rw[show Txt.join (" ":Str) (wd::[a].map Tm.str)=(wd++(" ":Str))++a.str from rfl];simp only[fZ,oC,jC,uV];show((([]:List Nat)++[40])++((cd wd++[32])++a.txt))++[41]=[40]++(cd wd++([32]++(a.txt++[41])))
 simp
theorem br_op(wd:Str)(a b:Tm):brT wd [a,b]=(Tm.op wd a b).str:=by
 refine tP ?_;unfold brT;rw[show Txt.join (" ":Str) (wd::[a,b].map Tm.str)=(((wd++(" ":Str))++a.str)++(" ":Str))++b.str from rfl];simp only[fZ,oC,jC,uV];show((([]:List Nat)++[40])++((((cd wd++[32])++a.txt)++[32])++b.txt))++[41]=[40]++(cd wd++([32]++(a.txt++([32]++(b.txt++[41])))))
 simp
def TmsAt(H:Hp)(tv:List V)(ts:List Tm):Prop:=tv.length=ts.length/\∀(i:Nat)(v:V)(t:Tm),tv[i]?=some v->ts[i]?=some t->TmAt H v t
theorem TmsAt.one(h:TmAt H v t):TmsAt H [v] [t]:=⟨rfl,λi a b ha hb=>by
 match i,ha,hb with
 | 0,ha,hb=>cases ha;cases hb;exact h
 | i+1,ha,_=>simp at ha⟩
theorem TmsAt.two(h:TmAt H v t)(h2:TmAt H u r):TmsAt H [v,u] [t,r]:=⟨rfl,λi a b ha hb=>by
 match i,ha,hb with
 | 0,ha,hb=>cases ha;cases hb;exact h
 | 1,ha,hb=>cases ha;cases hb;exact h2
 | i+2,ha,_=>simp at ha⟩
inductive spTTm(n:Nat)(vs:List V)(H:Hp)(Q:VK)(u_3:XK):Prop
 |mk:∀(v:V)(t:Tm),vs=[v]->TmAt H v t->t.ok->t.depth<=n->t.size<=40->(∀H',Same H H'->Q (.str t.str) H')->spTTm n vs H Q u_3
inductive spIB(n:Nat)(vs:List V)(H:Hp)(Q:VK)(u_3:XK):Prop
 |mk:∀(wd:Str)(a:Addr)(tv:List V)(ts:List Tm),vs=[.str wd,.ref a]->H a=some (.tup tv)->TmsAt H tv ts->ts.length<=2->wd.length<=10->(∀t∈ts,t.ok/\t.depth<=n/\t.size<=40)->(∀H',Same H H'->Q (.str (brT wd ts)) H')->spIB n vs H Q u_3
theorem ny:FnScope ["word","terms","inside"] ["word","terms"] (aq gH):=%[1,1,1,4,1,4|4]
theorem sD {n:Nat}   (F:Fun K "in_bracket" "in_bracket" gH f fd) (eR:Cal P w K mg base (2*n+1) "term_text" ["term"] (spTTm n)):FnOk P w K mg base CX0 (2*n+2) f fd ["word","terms"] (spIB n):=by
 exists ny
 erw[wd,a,tv,ts,1,ha,TA,tl,wl,tk,k]at h;refine⟨_,(ae (ax (i:=2) ny.nd rfl (.inl rfl) (dw PySem.F.plainAttrs_str PySem.F.slot_str_join PySem.F.type_str_join jB aJ (aa (az ox (ca %[0|ag]) (cM (N:=[]) (ix:=[]) (cl:=[]) rfl (CompScope.closed (by rfl') ⋯ rfl ⋯ rfl (by rfl')) rfl (io (pv 1))
         (λ_ _ _=>db (aB eR hr #[0] rfl %[0|ag])))) ag)))
  (ai (au (Fn (uG aJ (uG (Hw (pv 2)) (uG aJ Ht))))))),?_⟩
 have ttl:=TA.1;erw[1,0,(by show 1<=sizeLine;decide),λL hL=>?_];have GL:=zE0 hL (.lst [.str wd]);have eL:upd H L (.lst [.str wd]) L=some (.lst [.str wd]):=am;generalize upd H L (.lst [.str wd])=H1 at GL eL;have ha1:=GL _ _ ha;erw[0,a,1,%[_|zB0 ha1],λD hD=>?_];have LD:L≠D:=aQ eL hD;refine fY (K:=K) (xs:=tv) (λi H'=>H' D=some (.lst (((ts.take i).map Tm.str).map V.str))/\Same H1 H') %[by rw[am];rfl|zE0 hD _] (λi H' _ h=>zB0 (h.2 _ _ ha1)) ?_ ?_
 . rintro i z H2 hz ⟨hD2,S2⟩;have hi:=(zX0 hz).1;have ht:ts[i]?=some (ts[i]'#[0]):=zM0 #[0];let%[tok,td|tz]:=tk _ (qH0 ht);erw[0,z,0,(TA.2 i z _ hz ht).mono (aZ (GL.trans S2)),tok,td,tz,λH3 S3=>?_];erw[_,S3 _ _ hD2,6,Nx.of hi %[6|λb' o' e'=>?_]]
   . rw[zF0,zF0,qK0];exact aS #[0]
   . rw[am,qI0,ht,zL0,zL0];rfl
   . rw[aG (aQ e' hD)];exact S3 _ _ (S2 _ _ e')
 rintro H2 ⟨hD2,S2⟩;rw[show tv.length=ts.length from ttl,qF0]at hD2;erw[L,D,2,S2 _ _ eL,hD2,cv (by rw[zF0,zF0,qG0];omega),λM hM=>?_];have GM:=zE0 hM (.lst ([.str wd]++(ts.map Tm.str).map V.str));have eM:upd H2 M (.lst ([.str wd]++(ts.map Tm.str).map V.str)) M=some (.lst ((wd::ts.map Tm.str).map V.str)):=am;have sl:=xg (l:=ts.map Tm.str) (b:=560) λp hp=>by
  let%[t,ht|1]:=List.mem_map.mp hp
  have:=Tm.str_len (tk t ht).1
  have:=(tk t ht).2.2
  omega
 rw[zF0]at sl;have sl2:ts.length*560<=1120:=by omega
 have lsp:((" ":Str)).length=1:=by decide
 erw[_,M,0,1,zH0 eM,by rw[lsp];decide,6,6]
 . rw[zY0,List.sum_cons,zO0,zF0];omega
 have jlen:(Txt.join (" ":Str) (wd::ts.map Tm.str)).length<=2000:=by
  have:=size_glued (" ":Str) (wd::ts.map Tm.str)
  rw[lsp,zY0,List.sum_cons,zO0,zF0]at this;show(Builtin.Str.glued (" ":Str) (wd::ts.map Tm.str)).length<=2000;omega
 have z0:(Str.empty).length=0:=by decide
 have l1:(("(":Str)).length=1:=by decide
 have l3:((")":Str)).length=1:=by decide
 have big:∀{m:Nat},m<=3000->m<=sizeLine:=λh=>zP0 h ⋯
 erw[0,cv (by rw[Str.length_append,z0,l1];omega),0,0,big #[0],0,big (by rw[Str.length_append,Str.length_append,z0,l1];omega),0,big (by rw[Str.length_append,Str.length_append,Str.length_append,z0,l1,l3];omega),big (by rw[Str.length_append,Str.length_append,Str.length_append,z0,l1,l3];omega),6];exact k _ (GL.trans (S2.trans GM))
theorem o9:FnScope ["term","word"] ["term"] (aq iC):=%[1,1,1,4,1,4|4]
theorem ct1(x:V)(xs:List V):iM (x::xs) (some 1) none=xs:=wG (xs:=x::xs) (k:=1) (by simp)
theorem ct2(x y:V)(xs:List V):iM (x::y::xs) (some 2) none=xs:=wG (xs:=x::y::xs) (k:=2) (by simp)
theorem EM {n:Nat}   (F:Fun K "term_text" "term_text" iC f fd) (B:Bl mg) (X:Tx K mg) (pj:Cal P w K mg base (2*n+2) "in_bracket" ["word","terms"] (spIB n)):FnOk P w K mg base CX0 (2*(n+1)+1) f fd ["term"] (spTTm (n+1)):=by
 exists o9
 erw[v,t,1,T,ok,dn,sz,k]at h;erw[pa',gp,hp]at X.plain;refine⟨_,(ae #[ax,1,o9,aP ix_tup (pv 0) aj (λ_ _=>rfl)]
  (ae (aO (ao aW (pv 1) aJ (aE _)) (ai (au (bh jG rfl B.str iV %[aP ix_tup (pv 0) aj (λ_ _=>rfl)|ag]))) aF)
  (ae (aO (ao aW (pv 1) aJ (aE _)) (ai (au (aP ix_tup (pv 0) aj (λ_ _=>rfl)))) aF)
  (ae (aO (ao eE (pv 1) (cV (v:=.ref pa') rfl gp rfl) (by rfl')) (ai (au (pv 1))) aF)
  (ae (aO (ao aW (pv 1) aJ (aE _)) (ai (au (aB pj hr #[0] rfl %[aP ix_tup (pv 0) aj (λ_ _=>rfl),eK yZ (pv 0) (eJ aj) jy|ag]))) aF)
  (ai (au (aB pj hr #[0] rfl %[1,eK yZ (pv 0) (eJ aj) jy|ag])))))))),?_⟩
 cases T with
 | @num a m e=>
   erw[0,a,_,(0),0,1,zB0 e,at0 ..,6];erw[0,1,0,6];refine bb rfl ?_;erw[0,a,_,(1),0,1,zB0 e,at1 ..,m,1,oB ok.1 ok.2,6];have k':=k H (Same.refl H);rw[ES]at k';exact k'
 | @box a x e=>
   erw[0,a,_,(0),0,1,zB0 e,at0 ..,6];erw[0,1,0,6];refine aI (eP ⋯) ?_;erw[0,1,0,6];refine bb rfl ?_;have k':=k H (Same.refl H);rw[EU]at k';erw[0,a,_,(1),0,1,zB0 e,at1 ..,k']
 | @plain a x e=>
   let%[_,_,_,n1,n2|n3]:=ki x ok;erw[0,a,_,(0),.str x,1,1,zB0 e,at0 ..,6];erw[0,1,0,6];refine aI (eP n1) ?_;erw[0,1,0,6];refine aI (eP n2) ?_;erw[0,pa',0,.inr (hp _),1,⋯,0,6];have ein:inV (.str x) (plainW.map V.str)=true:=by rw[fL,decide_eq_true (show x∈plainW from ok)]
   rw[ein];refine dU ?_;have k':=k H (Same.refl H);rw[Ac]at k';erw[0,k']
 | @ask a x u r e g=>
   erw[okw,ok1]at ok;let%[l4,_,_,n1,n2,n3|n4]:=vi x okw;have dr:r.depth<=n:=Nat.le_of_succ_le_succ dn;have sr:r.size+1<=40:=sz;erw[0,a,_,(0),.str x,1,1,zB0 e,at0 ..,6];erw[0,1,0,6];refine aI (eP n1) ?_;erw[0,1,0,6];refine aI (eP n2) ?_;erw[0,pa',0,.inr (hp _),1,⋯,0,6];have ein:inV (.str x) (plainW.map V.str)=false:=by rw[fL,decide_eq_false n4]
   rw[ein];refine cO ?_;erw[0,1,0,6];refine aI (eP n3) ?_;erw[0,0,(1),1,a,0,zB0 e,e,λp H1 S1 e1=>?_];rw[ct1]at e1;erw[x,p,_,[r],1,e1,TmsAt.one (g.mono (aZ S1)),by simp,3,λt ht=>by rw[zS0 ht];erw[ok1,dr,3],λH2 S2=>?_];rw[Iv];exact k H2 (S1.trans S2)
 | @op a x u u2 r r2 e g g2=>
   erw[okw,ok1,ok2]at ok;let%[l4,_|_]:=pR x okw;have dd:r.depth<=n/\r2.depth<=n:=by
    have:max r.depth r2.depth+1<=n+1:=dn
    omega
   have sr:r.size+r2.size+1<=40:=sz;erw[0,a,_,(0),.str "op",1,1,zB0 e,at0 ..,6];erw[0,1,0,6];refine aI (eP ⋯) ?_;erw[0,1,0,6];refine aI (eP ⋯) ?_;erw[0,pa',0,.inr (hp _),1,⋯,0,6];have ein:inV (.str "op") (plainW.map V.str)=false:=by rw[fL,decide_eq_false ⋯]
   rw[ein];refine cO ?_;erw[0,1,0,6];refine bb rfl ?_;erw[0,a,_,(1),.str x,1,1,zB0 e,at1 ..,0,(2),1,a,0,zB0 e,e,λp H1 S1 e1=>?_];rw[ct2]at e1;erw[x,p,_,[r,r2],1,e1,TmsAt.two (g.mono (aZ S1)) (g2.mono (aZ S1)),by simp,3,λt ht=>?_,λH2 S2=>?_]
   . rcases zW0 ht with rfl | ht
     . erw[ok1,dd.1,3]
     . rw[zS0 ht];erw[ok2,dd.2,3]
   rw[br_op];exact k H2 (S1.trans S2)
theorem EL  :FnOk P w K mg base CX0 1 f fd ["term"] (spTTm 0):=by
 have no:∀vs H Q E,¬ spTTm 0 vs H Q E:=λvs H Q E h=>by
  erw[v,t,_,_,_,h1,_]at h
  have:=t.depth_pos
  omega
 erw[λvs H Q E h=>absurd h (no vs H Q E),λA outer s H args us vs Q E _ _ _ _ h=>absurd h (no vs H Q E)]
theorem mv   (F:Fun K "term_text" "term_text" iC f fd) (F2:Fun K "in_bracket" "in_bracket" gH f2 fd2) (B:Bl mg) (X:Tx K mg) (m:mg "term_text"=some (.ref f)) (m2:mg "in_bracket"=some (.ref f2)) :
 ∀n:Nat,FnOk P w K mg base CX0 (2*n+1) f fd ["term"] (spTTm n)
 | 0=>EL
 | n+1=>EM F B X (Cal.of F2 (sD F2 (Cal.of F (mv F F2 B X m m2 n) m (λ_ _ _ _ _ _ us hl=>by let%[u0|1]:=DL hl;rfl))) m2 (λ_ _ _ _ _ _ us hl=>by let%[u0,u1|1]:=DK hl;rfl))
def Hr.ws:Hr->List Str
 | .fin=>["end"] | .go n=>["go",cf n] | .iff t n=>["if",t.str,cf n] | .set x t=>["set",x,t.str] | .say t=>["say",t.str]
def Hr.str (r:Hr):Str:=Txt.join (" ":Str) r.ws
theorem ET:Hr.fin.str="end":=by decide
theorem GY{r:Hr}(h:r.ok 20):r.ws.length<=3/\∀z∈r.ws,z.length<=280:=by
 have fixed:∀z∈(["end","go","if","set","say"]:List Str),z.length<=280:=by decide
 have ft:∀{t:Tm},t.fit 20->t.str.length<=280:=fun{t} h=>by
  have:=Tm.str_len h.1
  have:=h.2.1
  omega
 cases r with
 | fin=>erw[4,λz hz=>fixed z (by rw[zS0 hz];decide)]
 | go n=>
   erw[by show 2<=3;decide,λz hz=>?_];rcases zW0 (show z∈[("go":Str),cf n]from hz)with rfl | hz
   . exact fixed _ ⋯
   . rw [zS0 hz]
     have:=jA h.1 h.2
     omega
 | iff t n=>
   erw[by show 3<=3;decide,λz hz=>?_];rcases zW0 (show z∈[("if":Str),t.str,cf n]from hz)with rfl | hz
   . exact fixed _ ⋯
   rcases zW0 hz with rfl | hz
   . exact ft h.1
   . rw [zS0 hz]
     have:=jA h.2.1 h.2.2
     omega
 | set x t=>
   erw[by show 3<=3;decide,λz hz=>?_];rcases zW0 (show z∈[("set":Str),x,t.str]from hz)with rfl | hz
   . exact fixed _ ⋯
   rcases zW0 hz with rfl | hz
   . have:=h.1.2.2.1
     omega
   . rw[zS0 hz];exact ft h.2
 | say t=>
   erw[by show 2<=3;decide,λz hz=>?_];rcases zW0 (show z∈[("say":Str),t.str]from hz)with rfl | hz
   . exact fixed _ ⋯
   . rw[zS0 hz];exact ft h
theorem we(sep:Str)(zs:List Str)(h:sep.length=1):(Txt.join sep zs).length<=(zs.map (·.length)).sum+zs.length:=by
 have:=size_glued sep zs
 rw[h]at this;show(Builtin.Str.glued sep zs).length<=_;omega
theorem BF{r:Hr}(h:r.ok 20):(r.ws.map (·.length)).sum+r.ws.length<=900:=by
 let%[h1|h2]:=GY h
 have:=xg h2
 have:r.ws.length*280<=840:=by omega
 omega
theorem Hr.str_len{r:Hr}(h:r.ok 20):r.str.length<=900:=zP0 (we _ _ ⋯) (BF h)
inductive spRT(vs:List V)(H:Hp)(Q:VK)(u_3:XK):Prop
 |mk:∀(v:V)(r:Hr),vs=[v]->HrAt H v r->r.ok 20->(∀H',Same H H'->Q (.str r.str) H')->spRT vs H Q u_3
theorem u8:FnScope ["row","word"] ["row"] (aq lB):=%[1,1,1,4,1,4|4]
theorem vN   (F:Fun K "row_text" "row_text" lB f fd) (B:Bl mg) (eR:Cal P w K mg base 17 "term_text" ["term"] (spTTm 8)):FnOk P w K mg base CX0 18 f fd ["row"] spRT:=by
 exists u8
 erw[v,r,1,T,ok,k]at h;refine⟨_,(ae #[ax,1,u8,aP ix_tup (pv 0) aj (λ_ _=>rfl)]
  (ae (aO (ao aW (pv 1) aJ (aE _)) (ai (au (dw PySem.F.plainAttrs_str PySem.F.slot_str_join PySem.F.type_str_join jB aJ %[ca %[1,aP ix_tup (pv 0) aj (λ_ _=>rfl),aB eR hr ⋯ rfl %[aP ix_tup (pv 0) aj (λ_ _=>rfl)|ag]|ag]|ag]))) aF)
  (ae (aO (ao aW (pv 1) aJ (aE _)) (ai (au (dw PySem.F.plainAttrs_str PySem.F.slot_str_join PySem.F.type_str_join jB aJ %[ca %[1,aB eR hr ⋯ rfl %[aP ix_tup (pv 0) aj (λ_ _=>rfl)|ag]|ag]|ag]))) aF)
  (ae (aO (ao aW (pv 1) aJ (aE _)) (ai (au (dw PySem.F.plainAttrs_str PySem.F.slot_str_join PySem.F.type_str_join jB aJ %[ca %[1,aB eR hr ⋯ rfl %[aP ix_tup (pv 0) aj (λ_ _=>rfl)|ag],bh jG rfl B.str iV %[aP ix_tup (pv 0) aj (λ_ _=>rfl)|ag]|ag]|ag]))) aF)
  (ae (aO (ao aW (pv 1) aJ (aE _)) (ai (au (dw PySem.F.plainAttrs_str PySem.F.slot_str_join PySem.F.type_str_join jB aJ %[ca %[1,bh jG rfl B.str iV %[aP ix_tup (pv 0) aj (λ_ _=>rfl)|ag]|ag]|ag]))) aF)
  (ai (au (pv 1)))))))),?_⟩
 have l2:((" ":Str)).length<=16:=by decide
 have big:∀{m:Nat},m<=900->m<=1048576:=λh=>zP0 h ⋯
 have wsum:=BF ok;cases T with
 | @fin a e=>
   erw[0,a,_,(0),.str "end",1,1,zB0 e,at0 ..,6];erw[0,1,0,6];refine aI (eP ⋯) ?_;erw[0,1,0,6];refine aI (eP ⋯) ?_;erw[0,1,0,6];refine aI (eP ⋯) ?_;erw[0,1,0,6];refine aI (eP ⋯) ?_;have k':=k H (Same.refl H);rw[ET]at k';erw[0,k']
 | @go a n e=>
   erw[0,a,_,(0),.str "go",1,1,zB0 e,at0 ..,6];erw[0,1,0,6];refine aI (eP ⋯) ?_;erw[0,1,0,6];refine aI (eP ⋯) ?_;erw[0,1,0,6];refine aI (eP ⋯) ?_;erw[0,1,0,6];refine bb rfl ?_;erw[1,0,0,a,_,(1),0,1,zB0 e,at1 ..,n,1,oB ok.1 ok.2,(by show 2<=sizeLine;decide),λL hL=>?_];have eL:upd H L (.lst [.str "go",.str (toString n)]) L=some (.lst ((Hr.go n).ws.map V.str)):=am;erw[_,L,0,1,zH0 eL,l2,big wsum,k _ (zE0 hL _)]
 | @iff a v t n e g=>
   erw[0,a,_,(0),.str "if",1,1,zB0 e,at0 ..,6];erw[0,1,0,6];refine aI (eP ⋯) ?_;erw[0,1,0,6];refine aI (eP ⋯) ?_;erw[0,1,0,6];refine bb rfl ?_;erw[1,0,0,a,_,(1),0,1,zB0 e,at1 ..,v,t,1,g,ok.1.1,ok.1.2.2,by have:=ok.1.2.1;omega,λH1 S1=>?_];erw[0,a,_,(2),0,1,zB0 (S1 _ _ e),at2 ..,n,1,oB ok.2.1 ok.2.2,(by show 3<=sizeLine;decide),λL hL=>?_];have eL:upd H1 L (.lst [.str "if",.str t.str,.str (toString n)]) L=some (.lst ((Hr.iff t n).ws.map V.str)):=am;erw[_,L,0,1,zH0 eL,l2,big wsum,k _ (S1.trans (zE0 hL _))]
 | @set a x v t e g=>
   erw[0,a,_,(0),.str "set",1,1,zB0 e,at0 ..,6];erw[0,1,0,6];refine bb rfl ?_;erw[1,0,0,a,_,(1),.str x,1,1,zB0 e,at1 ..,0,a,_,(2),v,1,1,zB0 e,at2 ..,v,t,1,g,ok.2.1,ok.2.2.2,by have:=ok.2.2.1;omega,λH1 S1=>?_];erw[(by show 3<=sizeLine;decide),λL hL=>?_];have eL:upd H1 L (.lst [.str "set",.str x,.str t.str]) L=some (.lst ((Hr.set x t).ws.map V.str)):=am;erw[_,L,0,1,zH0 eL,l2,big wsum,k _ (S1.trans (zE0 hL _))]
 | @say a v t e g=>
   erw[0,a,_,(0),.str "say",1,1,zB0 e,at0 ..,6];erw[0,1,0,6];refine aI (eP ⋯) ?_;erw[0,1,0,6];refine bb rfl ?_;erw[1,0,0,a,_,(1),v,1,1,zB0 e,at1 ..,v,t,1,g,ok.1,ok.2.2,by have:=ok.2.1;omega,λH1 S1=>?_];erw[(by show 2<=sizeLine;decide),λL hL=>?_];have eL:upd H1 L (.lst [.str "say",.str t.str]) L=some (.lst ((Hr.say t).ws.map V.str)):=am;erw[_,L,0,1,zH0 eL,l2,big wsum,k _ (S1.trans (zE0 hL _))]
theorem DO{H:Hp}{b:Addr}{ys zs:List V}(h:H b=some (.lst ys)):cg H (upd H b (.lst zs)):=λa xs e=>by
 rw[aG (λz=>by rw[z,h]at e;cases e)];exact e
theorem RowsAt.nil:RowsAt H [] []:=%[1|λi v r h=>by simp at h]
theorem RowsAt.snoc(h:RowsAt H tv rs)(a:HrAt H v r):RowsAt H (tv++[v]) (rs++[r]):=by
 erw[by rw[zJ0,zJ0,h.1];rfl,λi u s hu hs=>?_];have hl:=h.1
 by_cases c:i<tv.length
 . rw[List.getElem?_append_left c]at hu;rw[List.getElem?_append_left #[0]]at hs;exact h.2 i u s hu hs
 . rw [List.getElem?_append_right #[0]]at hu;rw[List.getElem?_append_right #[0]]at hs;have e1:i-tv.length=0:=by
    have:=(zX0 hu).1
    rw[qG0]at this;omega
   have e2:i-rs.length=0:=by omega
   rw[e1]at hu;rw[e2]at hs;cases hu;cases hs;exact a
def nI(rs:List Hr):Prop:=rs.length<=60/\∀r∈rs,r.ok 20
def mL (rs:List Hr):Str:=Txt.join ("\n":Str) (rs.map Hr.str)
theorem wx(g:nI rs):((rs.map Hr.str).map (·.length)).sum+(rs.map Hr.str).length<=60000:=by
 have:=xg (l:=rs.map Hr.str) (b:=900) λp hp=>by
  let%[r,hr|1]:=List.mem_map.mp hp;exact Hr.str_len (g.2 r hr)
 rw[zF0]at this ⊢;have h1:=g.1
 have:rs.length*900<=60*900:=Nat.mul_le_mul_right _ h1
 omega
theorem DZ(g:nI rs):(mL rs).length<=60000:=zP0 (we _ _ ⋯) (wx g)
inductive spHT(vs:List V)(H:Hp)(Q:VK)(u_3:XK):Prop
 |mk:∀(a:Addr)(tv:List V)(rs:List Hr),vs=[.ref a]->H a=some (.tup tv)->RowsAt H tv rs->nI rs->(∀H',Same H H'->Q (.str (mL rs)) H')->spHT vs H Q u_3
theorem qx:FnScope ["helper"] ["helper"] (aq iL):=%[1,1,1,4,1,4|4]
theorem rk   (F:Fun K "helper_text" "helper_text" iL f fd) (ma:Cal P w K mg base 18 "row_text" ["row"] spRT):FnOk P w K mg base CX0 19 f fd ["helper"] spHT:=by
 exists qx
 erw[a,tv,rs,1,ha,RA,gr,k]at h;refine⟨_,(ai (au (dw PySem.F.plainAttrs_str PySem.F.slot_str_join PySem.F.type_str_join jB aJ (aa (cM (N:=[]) (ix:=[]) (cl:=[]) rfl (CompScope.closed (by rfl') ⋯ rfl ⋯ rfl (by rfl')) rfl (io (pv 0))
         (λ_ _ _=>db (aB ma hr ⋯ rfl %[0|ag]))) ag)))),?_⟩
 have rl:=RA.1;have r60:=gr.1;erw[1,0,a,1,%[_|zB0 ha],λD hD=>?_];refine fY (K:=K) (xs:=tv) (λi H'=>H' D=some (.lst (((rs.take i).map Hr.str).map V.str))/\Same H H') %[by rw[am];rfl|zE0 hD _] (λi H' _ h=>zB0 (h.2 _ _ ha)) ?_ ?_
 . rintro i z H2 hz ⟨hD2,S2⟩;have hi:=(zX0 hz).1;have ht:rs[i]?=some (rs[i]'#[0]):=zM0 #[0];erw[0,z,0,(RA.2 i z _ hz ht).mono (aZ S2),gr.2 _ (qH0 ht),λH3 S3=>?_];erw[_,S3 _ _ hD2,6,Nx.of hi %[6|λb' o' e'=>?_]]
   . rw[zF0,zF0,qK0];exact aS #[0]
   . rw[am,qI0,ht,zL0,zL0];rfl
   . rw[aG (aQ e' hD)];exact S3 _ _ (S2 _ _ e')
 rintro H2 ⟨hD2,S2⟩;rw[rl,qF0]at hD2;erw[_,D,0,1,zH0 hD2,⋯,zP0 (wx gr) ⋯,k H2 S2]
abbrev nY:Stmt:=top 15
abbrev ue:Stmt:=bp nY 0
abbrev qA:Stmt:=bp nY 1
abbrev uc:Stmt:=bp nY 2
abbrev ub:Stmt:=bp nY 3
abbrev ua:Stmt:=bp nY 4
abbrev nV:Stmt:=bp nY 5
structure STxt(K:W.Frag)(mg:Str->Option Value)(C:Addr):Prop where
 cl:Cls K C
 nX:NoAttr K C "text"
 nR:NoAttr K C "row"
 nW:NoAttr K C "most_within"
 nP:NoAttr K C "most_parts"
 nL:NoAttr K C "place"
 nN:NoAttr K C "parts"
 mgC:mg "Scan"=some (.ref C)
theorem qQ(f:Str)(v:V):∀(fs:List (Str×V))(u:V),fs.lookup f=some u->(bL f v fs).length=fs.length
 | [],u,h=>by cases h
 | (g,x)::r,u,h=>by
   unfold bL
   by_cases e:g=f
   . rw[zC0 e];rfl
   . rw [zA0 e];have e':(f==g)=false:=by simpa using λz=>e z.symm
     simp only[List.lookup,e']at h;rw[zO0,zO0,qQ f v r u h]
theorem cq(f:Str)(v:V):∀fs:List (Str×V),(bL f v fs).length<=fs.length+1
 | []=>zG0 _
 | (g,u)::r=>by
   have:=cq f v r
   unfold bL
   split
   . simp
   . simp only[zO0];omega
structure SF(T:Str)(p n:Nat)(fs:List (Str×V)):Prop where
 text:fs.lookup ("text":Str)=some (.str T)
 mw:fs.lookup ("most_within":Str)=some (.int 8)
 mp:fs.lookup ("most_parts":Str)=some (.int 20)
 place:fs.lookup ("place":Str)=some (.int (p:Int))
 parts:fs.lookup ("parts":Str)=some (.int (n:Int))
 no1:fs.lookup ("enter":Str)=none
 no2:fs.lookup ("sees":Str)=none
 no3:fs.lookup ("take":Str)=none
 no4:fs.lookup ("word":Str)=none
 no5:fs.lookup ("finish":Str)=none
 len:fs.length<=6
theorem SF.toPlace    (h:SF T p n fs) (p':Nat):SF T p' n (bL "place" (.int (p':Int)) fs):=by
 erw[6,6,6,6,6,6,6,6,6,6,6]
 . rw[ay,zA0 ⋯];exact h.text
 . rw[ay,zA0 ⋯];exact h.mw
 . rw[ay,zA0 ⋯];exact h.mp
 . rw[ay,zC0 rfl]
 . rw[ay,zA0 ⋯];exact h.parts
 . rw[ay,zA0 ⋯];exact h.no1
 . rw[ay,zA0 ⋯];exact h.no2
 . rw[ay,zA0 ⋯];exact h.no3
 . rw[ay,zA0 ⋯];exact h.no4
 . rw[ay,zA0 ⋯];exact h.no5
 . rw[qQ _ _ _ _ h.place];exact h.len
theorem SF.toParts    (h:SF T p n fs) (n':Nat):SF T p n' (bL "parts" (.int (n':Int)) fs):=by
 erw[6,6,6,6,6,6,6,6,6,6,6]
 . rw[ay,zA0 ⋯];exact h.text
 . rw[ay,zA0 ⋯];exact h.mw
 . rw[ay,zA0 ⋯];exact h.mp
 . rw[ay,zA0 ⋯];exact h.place
 . rw[ay,zC0 rfl]
 . rw[ay,zA0 ⋯];exact h.no1
 . rw[ay,zA0 ⋯];exact h.no2
 . rw[ay,zA0 ⋯];exact h.no3
 . rw[ay,zA0 ⋯];exact h.no4
 . rw[ay,zA0 ⋯];exact h.no5
 . rw[qQ _ _ _ _ h.parts];exact h.len
def sfs (T:Str) (k:Int):List (Str×V):=bL "parts" (.int 0) (bL "place" (.int 0) (bL "most_parts" (.int 20) (bL "most_within" (.int 8) (bL "row" (.int k) (bL "text" (.str T) [])))))
theorem Hj(T:Str)(k:Int):SF T 0 0 (sfs T k):=by
 have no:∀m:Str,m≠"parts" -> m≠"place" -> m≠"most_parts" -> m≠"most_within" -> m≠"row" -> m≠"text" -> (sfs T k).lookup m=none:=λm h1 h2 h3 h4 h5 h6=>by
  unfold sfs;rw[ay,zA0 h1,ay,zA0 h2,ay,zA0 h3,ay,zA0 h4,ay,zA0 h5,ay,zA0 h6];rfl
 erw[6,6,6,6,6,no _ ⋯ ⋯ ⋯ ⋯ ⋯ ⋯,no _ ⋯ ⋯ ⋯ ⋯ ⋯ ⋯,no _ ⋯ ⋯ ⋯ ⋯ ⋯ ⋯,no _ ⋯ ⋯ ⋯ ⋯ ⋯ ⋯,no _ ⋯ ⋯ ⋯ ⋯ ⋯ ⋯,6]
 . unfold sfs;rw[ay,zA0 ⋯,ay,zA0 ⋯,ay,zA0 ⋯,ay,zA0 ⋯,ay,zA0 ⋯,ay,zC0 rfl]
 . unfold sfs;rw[ay,zA0 ⋯,ay,zA0 ⋯,ay,zA0 ⋯,ay,zC0 rfl]
 . unfold sfs;rw[ay,zA0 ⋯,ay,zA0 ⋯,ay,zC0 rfl]
 . unfold sfs;rw[ay,zA0 ⋯,ay,zC0 rfl];rfl
 . unfold sfs;rw[ay,zC0 rfl];rfl
 . unfold sfs;refine zP0 (cq _ _ _) (Nat.succ_le_succ (zP0 (cq _ _ _) (Nat.succ_le_succ (zP0 (cq _ _ _) (Nat.succ_le_succ (zP0 (cq _ _ _) (Nat.succ_le_succ (zP0 (cq _ _ _) (Nat.succ_le_succ (cq _ _ _))))))))))
def ScanAt(C:Addr)(H:Hp)(sc:Addr)(T:Str)(p n:Nat):Prop:=∃dx fs,H sc=some (.ins C dx fs)/\SF T p n fs
inductive spSInit(C:Addr)(vs:List V)(H:Hp)(Q:VK)(u_3:XK):Prop
 |mk:∀(g dx:Addr)(T:Str)(k:Int),vs=[.ref g,.str T,.int k,.int 8,.int 20]->H g=some (.ins C dx [])->(∀H',ScanAt C H' g T 0 0->SameBut g H H'->Q .non H')->spSInit C vs H Q u_3
theorem Co:FnScope ["self","text","row","most_within","most_parts"] ["self","text","row","most_within","most_parts"] (aq ue):=%[1,1,1,4,1,4|4]
theorem Dg   (F:Fun K "__init__" "Scan.__init__" ue f fd) (T:STxt K mg C):FnOk P w K mg base CX0 1 f fd ["self","text","row","most_within","most_parts"] (spSInit C):=by
 exists Co
 erw[g,dx,Tx,kr,1,hg,q]at h;erw[_,(ae (aU (pv 0) (pv 1) rfl) (ae (aU (pv 0) (pv 2) rfl) (ae (aU (pv 0) (pv 3) rfl) (ae (aU (pv 0) (pv 4) rfl) (ae (aU (pv 0) aj rfl) (ai (aU (pv 0) aj rfl))))))),6];erw[0,0,g,C,dx,[],1,hg,T.cl,T.nX,(by show 0<1000;decide),6];erw[0,0,g,C,dx,0,am,T.cl,T.nR,(Nat.lt_of_le_of_lt (cq _ _ _) (by show 1<1000;decide)),6];erw[0,0,g,C,dx,0,am,T.cl,T.nW,(Nat.lt_of_le_of_lt (cq _ _ _) (Nat.lt_of_le_of_lt (Nat.succ_le_succ (cq _ _ _)) (by show 2<1000;decide))),6];erw[0,0,g,C,dx,0,am,T.cl,T.nP,(Nat.lt_of_le_of_lt (cq _ _ _) (Nat.lt_of_le_of_lt (Nat.succ_le_succ (zP0 (cq _ _ _) (Nat.succ_le_succ (cq _ _ _)))) (by show 3<1000;decide))),6];erw[0,g,C,dx,0,am,T.cl,T.nL,(Nat.lt_of_le_of_lt (cq _ _ _) (Nat.lt_of_le_of_lt (Nat.succ_le_succ (zP0 (cq _ _ _) (Nat.succ_le_succ (zP0 (cq _ _ _) (Nat.succ_le_succ (cq _ _ _)))))) (by show 4<1000;decide))),6];erw[0,g,C,dx,0,am,T.cl,T.nN,(Nat.lt_of_le_of_lt (cq _ _ _) (Nat.lt_of_le_of_lt (Nat.succ_le_succ (zP0 (cq _ _ _) (Nat.succ_le_succ (zP0 (cq _ _ _) (Nat.succ_le_succ (zP0 (cq _ _ _) (Nat.succ_le_succ (cq _ _ _)))))))) (by show 5<1000;decide))),6];exact q _ ⟨dx,sfs Tx kr,am,Hj Tx kr⟩ ((SameBut.upd _).trans ((SameBut.upd _).trans ((SameBut.upd _).trans ((SameBut.upd _).trans ((SameBut.upd _).trans (SameBut.upd _))))))
theorem SF.size(h:SF T p n fs):fs.length<1000:=Nat.lt_of_le_of_lt h.len ⋯
inductive spEnter(C:Addr)(vs:List V)(H:Hp)(Q:VK)(u_3:XK):Prop
 |mk:∀(sc:Addr)(T:Str)(p n:Nat)(wi:Int),vs=[.ref sc,.int wi]->ScanAt C H sc T p n->wi<=8->n+1<=20->(∀H',ScanAt C H' sc T p (n+1)->SameBut sc H H'->Q .non H')->spEnter C vs H Q u_3
theorem Ah:FnScope ["self","within"] ["self","within"] (aq qA):=%[1,1,1,4,1,4|4]
theorem AB   (F:Fun K "enter" "Scan.enter" qA f fd) (T:STxt K mg C):FnOk P w K mg base CX0 1 f fd ["self","within"] (spEnter C):=by
 exists Ah
 erw[sc,Tx,p,n,wi,1,%[dx,fs,hs|sf],w10,n30,q]at h;refine⟨_,(ae (aU (pv 0) (az aX (aD (pv 0) rfl) aj) rfl)
  (ai (aO (PW.pt (ig (ao iR (pv 1) (aD (pv 0) rfl) (aE _)) (gy (ao iR (aD (pv 0) rfl) (aD (pv 0) rfl) (aE _))))) bq aF))),?_⟩
 have sf':=sf.toParts (n+1);erw[0,sc,C,dx,fs,0,hs,T.cl,T.nN,sf.parts,2,0,sc,C,dx,fs,1,hs,T.cl,T.nN,sf.size,6];have hs':upd H sc (.ins C dx (bL "parts" (.int ((n:Int)+1)) fs)) sc=some (.ins C dx (bL "parts" (.int ((n+1:Nat):Int)) fs)):=am;erw[0,0,sc,C,dx,_,0,hs',T.cl,T.nW,sf'.mw,2,0,6];refine aI #[0] ?_;erw[0,sc,C,dx,_,0,hs',T.cl,T.nN,sf'.parts,0,sc,C,dx,_,0,hs',T.cl,T.nP,sf'.mp,2,0,6];refine aI #[0] ?_;exact q _ ⟨dx,_,hs',sf'⟩ (SameBut.upd _)
inductive spSees(C:Addr)(vs:List V)(H:Hp)(Q:VK)(u_3:XK):Prop
 |mk:∀(sc:Addr)(T u:Str)(p n:Nat),vs=[.ref sc,.str u]->ScanAt C H sc T p n->Q (.bl (fQ T u p)) H->spSees C vs H Q u_3
theorem Cn:FnScope ["self","signs"] ["self","signs"] (aq uc):=%[1,1,1,4,1,4|4]
theorem De   (F:Fun K "sees" "Scan.sees" uc f fd) (T:STxt K mg C):FnOk P w K mg base CX0 1 f fd ["self","signs"] (spSees C):=by
 exists Cn
 erw[sc,Tx,u,p,n,1,%[dx,fs,hs|sf],q]at h;erw[_,(ai (au (dw PySem.F.plainAttrs_str PySem.F.slot_str_startswith PySem.F.type_str_startswith vV (aD (pv 0) rfl) %[1,aD (pv 0) rfl|ag]))),6];erw[0,sc,C,dx,fs,0,hs,T.cl,T.nX,sf.text,1,0,0,sc,C,dx,fs,0,hs,T.cl,T.nL,sf.place,Tx,u,0,1,q]
inductive spTake'(C:Addr)(vs:List V)(H:Hp)(Q:VK)(u_3:XK):Prop
 |mk:∀(sc:Addr)(T u:Str)(p n:Nat),vs=[.ref sc,.str u]->ScanAt C H sc T p n->fQ T u p=true->u.length<=10->(∀H',ScanAt C H' sc T (p+u.length) n->SameBut sc H H'->Q .non H')->spTake' C vs H Q u_3
theorem Cm:FnScope ["self","signs"] ["self","signs"] (aq ub):=%[1,1,1,4,1,4|4]
theorem Dd   (F:Fun K "take" "Scan.take" ub f fd) (B:Bl mg) (T:STxt K mg C) (mS:Meth K C "sees" fS) (GS:FnOk P w K mg base CX0 1 fS fdS ["self","signs"] (spSees C)) (bS:Binds K fdS ["self","signs"] []):FnOk P w K mg base CX0 2 f fd ["self","signs"] (spTake' C):=by
 exists Cm
 erw[sc,Tx,u,p,n,1,S,hu,u10,q]at h;have hr1:Room 1 _:=hr.mono ⋯;refine⟨_,(ae (aO (gA (dY (bY (pv 0) T.cl mS GS hr1 bS .nil bc %[1|ag]))) bq aF)
  (ai (aU (pv 0) (az aX (aD (pv 0) rfl) (aM cY rfl B.len PySem.boot_len %[1|ag])) rfl))),?_⟩
 let%[dx,fs,hs|sf]:=id S;erw[0,sc,dx,fs,1,hs,sf.no2,0,sc,Tx,u,p,n,1,S,0,6];rw[hu];refine cO ?_;erw[0,sc,C,dx,fs,0,hs,T.cl,T.nL,sf.place,0,u,1,cv #[0],2,0,sc,C,dx,fs,1,hs,T.cl,T.nL,sf.size,6];have hs':upd H sc (.ins C dx (bL "place" (.int ((p:Int)+(u.length:Int))) fs)) sc=some (.ins C dx (bL "place" (.int ((p+u.length:Nat):Int)) fs)):=by rw[am,Int.natCast_add]
 exact q _ %[dx,_,hs'|sf.toPlace _] (SameBut.upd _)
def wT(r:List Nat):Prop:=r=[]∨∃c r',r=c::r'/\(c=32∨c=40∨c=41)
inductive spWord(C:Addr)(vs:List V)(H:Hp)(Q:VK)(u_3:XK):Prop
 |mk:∀(sc:Addr)(T:Str)(p n:Nat)(x r:List Nat),vs=[.ref sc]->ScanAt C H sc T p n->T.length<=1000->p<=T.length->T.cps.toList.drop p=x++r->(∀c∈x,isIn ENDS c=false)->wT r->(∀H',ScanAt C H' sc T (p+x.length) n->SameBut sc H H'->Q (.str (stl x)) H')->spWord C vs H Q u_3
theorem IT:FnScope ["self","start"] ["self"] (aq ua):=%[1,1,1,4,1,4|4]
theorem Dc   (F:Fun K "word" "Scan.word" ua f fd) (B:Bl mg) (X:Tx K mg) (T:STxt K mg C):FnOk P w K mg base CX0 1 f fd ["self"] (spWord C):=by
 exists IT
 erw[sc,Tx,p,n,x,r,1,%[dx,fs,hs|sf],tl,pl,hd,xl,er,q]at h;erw[te,ge]at X.ends;refine⟨_,(ae #[ax,1,IT,aD (pv 0) rfl]
  (ae (ik PassesOwn.never (PW.pt (lH (ao eO (aD (pv 0) rfl) (aM cY rfl B.len PySem.boot_len %[aD (pv 0) rfl|ag]) (aE _)) (kK (ao uI (aP uX (aD (pv 0) rfl) (aD (pv 0) rfl) (λ_ _=>rfl)) (cV (v:=.str ENDS) rfl ge %[|0]) (by rfl'))))) (ai (aU (pv 0) (az aX (aD (pv 0) rfl) aj) rfl)))
  (ai (au (eK xt (aD (pv 0) rfl) (eJ (pv 1)) (eJ (aD (pv 0) rfl))))))),?_⟩
 have L:Tx.cps.toList.length=Tx.length:=by rw[Array.length_toList];rfl
 have hlen:Tx.length=p+(x.length+r.length):=by
  have:=congrArg List.length hd
  rw[List.length_drop,zJ0,L]at this;omega
 erw[0,sc,C,dx,fs,0,hs,T.cl,T.nL,sf.place,6];erw[λm σ H'=>∃j:Nat,j<=x.length/\σ=[some (.ref sc),some (.int (p:Int))]/\ScanAt C H' sc Tx (p+j) n/\SameBut sc H H'/\m=x.length-j,%[_,(0),zU0 _,1,%[dx,fs,hs|sf],SameBut.refl _ _|1],6];rintro m σ H1 ⟨j,hj,rfl,⟨dx1,fs1,hs1,sf1⟩,S1,rfl⟩;erw[0,sc,C,dx1,fs1,0,hs1,T.cl,T.nL,sf1.place,0,sc,C,dx1,fs1,0,hs1,T.cl,T.nX,sf1.text,Tx,1,cv tl,2,0,6];have sl:j=x.length->Txt.slice Tx (some (p:Int)) (some ((p+j:Nat):Int))=stl x:=λej=>by
  have es:Txt.slice Tx (some (p:Int)) (some ((p+j:Nat):Int))=_:=StrLaws.sliceText_plain (i:=(p:Int)) (j:=((p+j:Nat):Int)) %[3,3|by rw[L];omega];rw[es];refine tP ?_;show(Tx.cps.toList.drop (p:Int).toNat).take (((p+j:Nat):Int)-(p:Int)).toNat=x;rw[show(p:Int).toNat=p by omega,show(((p+j:Nat):Int)-(p:Int)).toNat=x.length by omega,hd,List.take_left'];rfl
 by_cases c1:(((p+j:Nat):Int))<(Tx.length:Int)
 . refine bb c1 ?_;have hk:p+j<Tx.cps.toList.length:=by rw[L];omega
   have ha:atI Tx.cps.toList ((p+j:Nat):Int)=some Tx.cps.toList[p+j]:=cE (zM0 hk);have hx:Tx.cps.toList[p+j]?=(x++r)[j]?:=by rw[←hd,List.getElem?_drop]
   erw[0,sc,C,dx1,fs1,0,hs1,T.cl,T.nX,sf1.text,0,sc,C,dx1,fs1,0,hs1,T.cl,T.nL,sf1.place,Tx,2,cv tl,ha,2,0,6]
   by_cases c2:j<x.length
   . have ec:Tx.cps.toList[p+j]=x[j]:=by
      rw[zM0 hk,List.getElem?_append_left c2,zM0 c2]at hx;exact zT0 hx
     have en:(!isIn ENDS Tx.cps.toList[p+j])=true:=by rw[ec,xl _ (qP0 c2)];rfl
     have en':(!(!(Builtin.Str.occurrences ENDS %[|#[Tx.cps.toList[p+j]]] 0 ENDS.length 1).isEmpty))=true:=en;rw[en'];erw[_,λ_ _ h=>h,6];erw[0,sc,C,dx1,fs1,0,hs1,T.cl,T.nL,sf1.place,2,0,sc,C,dx1,fs1,1,hs1,T.cl,T.nL,sf1.size,6];have hs':upd H1 sc (.ins C dx1 (bL "place" (.int (((p+j:Nat):Int)+1)) fs1)) sc=some (.ins C dx1 (bL "place" (.int ((p+(j+1):Nat):Int)) fs1)):=by
      rw[am,show((p+j:Nat):Int)+1=((p+(j+1):Nat):Int) by omega]
     erw[_,3,j+1,3,1,%[dx1,_,hs'|sf1.toPlace _],S1.trans (SameBut.upd _),1]
   . have ej:j=x.length:=by omega
     have en:(!isIn ENDS Tx.cps.toList[p+j])=false:=by
      rcases er with rfl | ⟨c,r',rfl,hc⟩
      . rw[List.length_nil]at hlen;omega
      . rw [zM0 hk,List.getElem?_append_right #[0],show j-x.length=0 by omega]at hx;have ec:Tx.cps.toList[p+j]=c:=zT0 hx;rw[ec];rcases hc with rfl | rfl | rfl
        . rw[ends_in.1];rfl
        . rw[ends_in.2.1];rfl
        . rw[ends_in.2.2];rfl
     have en':(!(!(Builtin.Str.occurrences ENDS %[|#[Tx.cps.toList[p+j]]] 0 ENDS.length 1).isEmpty))=false:=en;rw[en'];erw[0,sc,C,dx1,fs1,0,hs1,T.cl,T.nX,sf1.text,0,0,0,sc,C,dx1,fs1,0,hs1,T.cl,T.nL,sf1.place,0,Tx,1,cv tl,6];rw[sl ej];rw[ej]at sf1;exact q H1 ⟨dx1,fs1,hs1,sf1⟩ S1
 . refine aI c1 ?_;have ej:j=x.length:=by omega
   erw[0,sc,C,dx1,fs1,0,hs1,T.cl,T.nX,sf1.text,0,0,0,sc,C,dx1,fs1,0,hs1,T.cl,T.nL,sf1.place,0,Tx,1,cv tl,6];rw[sl ej];rw[ej]at sf1;exact q H1 ⟨dx1,fs1,hs1,sf1⟩ S1
inductive spFinish(C:Addr)(vs:List V)(H:Hp)(Q:VK)(u_3:XK):Prop
 |mk:∀(sc:Addr)(T:Str)(n:Nat),vs=[.ref sc]->ScanAt C H sc T T.length n->T.length<=1000->Q .non H->spFinish C vs H Q u_3
theorem xz:FnScope ["self"] ["self"] (aq nV):=%[1,1,1,4,1,4|4]
theorem xY   (F:Fun K "finish" "Scan.finish" nV f fd) (B:Bl mg) (T:STxt K mg C):FnOk P w K mg base CX0 1 f fd ["self"] (spFinish C):=by
 exists xz
 erw[sc,Tx,n,1,%[dx,fs,hs|sf],tl,q]at h;erw[_,(ai (aO (ao mq (aD (pv 0) rfl) (aM cY rfl B.len PySem.boot_len %[aD (pv 0) rfl|ag]) (aE _)) bq aF)),6];erw[0,sc,C,dx,fs,0,hs,T.cl,T.nL,sf.place,0,sc,C,dx,fs,0,hs,T.cl,T.nX,sf.text,Tx,1,cv tl,1,0,6];show if(!decide (V.int (Tx.length:Int)=V.int (Tx.length:Int)))=true then _ else _
 rw[decide_eq_true rfl];exact cO q
theorem Ef(n p:Nat):PySem.fromIndex n (p:Int)=p:=by
 unfold PySem.fromIndex;rw[zA0 #[0]];omega
theorem yW(T u:Str)(p:Nat):Builtin.Str.subAt T u p=decide ((T.cps.toList.drop p).take u.length=u.cps.toList):=by
 unfold Builtin.Str.subAt;have e:(T.cps.extract p (p+u.length)).toList=(T.cps.toList.drop p).take u.length:=by
  rw[Array.toList_extract,List.extract_eq_drop_take]
  congr 1
  omega
 by_cases c:(T.cps.toList.drop p).take u.length=u.cps.toList
 . rw [decide_eq_true c]
   have:T.cps.extract p (p+u.length)=u.cps:=Array.toList_inj.mp (e.trans c)
   rw[this]
   simp
 . rw [decide_eq_false c]
   have:¬ T.cps.extract p (p+u.length)=u.cps:=λz=>c (by rw[←e,z])
   simpa using this
theorem mz(T:Str):T.cps.toList.length=T.length:=by rw[Array.length_toList];rfl
theorem kQ{T:Str}{p:Nat}{u v:List Nat}(h:T.cps.toList.drop p=u++v)(hp:p<=T.length):p+u.length+v.length=T.length:=by
 have:=congrArg List.length h
 rw[List.length_drop,zJ0,mz]at this;omega
theorem cr{T:Str}{p:Nat}{u v:List Nat}(h:T.cps.toList.drop p=u++v):T.cps.toList.drop (p+u.length)=v:=by
 rw[←List.drop_drop,h,List.drop_left]
theorem dM{T u:Str}{p:Nat}{r:List Nat}(h:T.cps.toList.drop p=u.cps.toList++r)(hp:p<=T.length):fQ T u (p:Int)=true:=by
 unfold fQ;have hl:=kQ h hp;rw[mz]at hl;rw[Ef,yW,decide_eq_true #[0],h,←mz u,List.take_left,decide_eq_true rfl];rfl
theorem Ad {T:Str} {p:Nat} {c:Nat} {r:List Nat} (h:T.cps.toList.drop p=c::r) (hc:c≠40):fQ T ("(":Str) (p:Int)=false:=by
 unfold fQ;have l1:(("(":Str)).length=1:=by decide
 rw[Ef,yW,h,oC,l1]
 have:¬ (c::r).take 1=[40]:=λz=>hc (by simpa using z)
 rw[decide_eq_false this,Bool.and_false]
theorem de(S:ScanAt C H sc T p n)(s:SameBut sc H H'):cg H H':=λa xs h=>s a _ (λz=>by
 erw[dx,fs,e,_]at S;rw[z,e]at h;cases h) h
theorem ScanAt.same(S:ScanAt C H sc T p n)(s:Same H H'):ScanAt C H' sc T p n:=by
 erw[dx,fs,e,sf]at S;erw[dx,fs,s _ _ e,sf]
structure Mths(P:Program)(w:World)(K:W.Frag)(mg:Str->Option Value)(base:Heap)(C fE fS fT fW fF:Addr)(dE dS dT dW dF:FuncData):Prop where
 mE:Meth K C "enter" fE
 gE:FnOk P w K mg base CX0 1 fE dE ["self","within"] (spEnter C)
 bE:Binds K dE ["self","within"] []
 mS:Meth K C "sees" fS
 gS:FnOk P w K mg base CX0 1 fS dS ["self","signs"] (spSees C)
 bS:Binds K dS ["self","signs"] []
 mT:Meth K C "take" fT
 gT:FnOk P w K mg base CX0 2 fT dT ["self","signs"] (spTake' C)
 bT:Binds K dT ["self","signs"] []
 mW:Meth K C "word" fW
 gW:FnOk P w K mg base CX0 1 fW dW ["self"] (spWord C)
 bW:Binds K dW ["self"] []
 mF:Meth K C "finish" fF
 gF:FnOk P w K mg base CX0 1 fF dF ["self"] (spFinish C)
 bF:Binds K dF ["self"] []
theorem Ei:∀c:Nat,c<62->42<=c->isIn ENDS c=false:=by decide
theorem Ia:∀c:Fin 26,isIn FIG (97+c.val)=false:=by decide
theorem DU{c:Nat}(h:97<=c/\c<=122):isIn FIG c=false:=by
 have:=Ia %[c-97|3]
 rwa [show 97+(%[c-97|3]:Fin 26).val=c by show 97+(c-97)=c;omega]at this
theorem Bp(h:NmK x):kY x=false:=by
 unfold kY;erw[hl,h1,_,_]at h
 have:x.cps.toList.all (isIn FIG)=false:=by
  cases e:x.cps.toList with
  | nil=>
    have:=dG x
    unfold cd at this;rw[e]at this
    simp at this
    omega
  | cons c r=>
    have:=DU (hl c (by rw[e];exact qB0))
    rw[List.all_cons,this];rfl
 rw[this,Bool.and_false]
def oN(l:List Nat):Prop:=∀c∈l,isIn ENDS c=false
theorem dz{l:List Nat}(h:∀c∈l,97<=c/\c<=122):oN l:=λc hc=>Bh (h c hc)
theorem qX{l:List Nat}(h:∀c∈l,42<=c/\c<=61):oN l:=λc hc=>Ei c (by have:=h c hc;omega) (h c hc).1
theorem qW{n:Int}(h:0<=n):oN (cd (cf n)):=qX λc hc=>by have:=kN h c hc;omega
theorem Ax(h:oN l)(h1:1<=l.length)(r:List Nat):∃c r',l++r=c::r'/\c≠40:=by
 cases l with
 | nil=>cases h1
 | cons c l'=>
   erw[c,l'++r,1,λe=>?_]
   have:=h c qB0
   rw[e,ends_in.2.1]at this;cases this
inductive spNextT(C:Addr)(n:Nat)(vs:List V)(H:Hp)(Q:VK)(u_3:XK):Prop
 |mk:∀(sc:Addr)(wi:Int)(T:Str)(p k:Nat)(t:Tm)(r:List Nat),vs=[.ref sc,.int wi]->ScanAt C H sc T p k->T.length<=1000->p<=T.length->T.cps.toList.drop p=[32]++(t.txt++r)->wT r->t.ok->t.depth<=n->wi+(t.depth:Int)<=9->k+t.size<=20->(∀(v:V)(H':Hp),TmAt H' v t->ScanAt C H' sc T (p+1+t.txt.length) (k+t.size)->SameBut sc H H'->Q v H')->spNextT C n vs H Q u_3
inductive spTB(C:Addr)(n:Nat)(vs:List V)(H:Hp)(Q:VK)(u_3:XK):Prop
 |mk:∀(sc:Addr)(wi:Int)(T:Str)(p k:Nat)(t:Tm)(r:List Nat),vs=[.ref sc,.int wi]->ScanAt C H sc T p (k+1)->T.length<=1000->p<=T.length->T.cps.toList.drop p=t.txt++r->t.ok->((∃w a,t=.ask w a)∨∃s a b,t=.op s a b)->t.depth<=n+1->wi+(t.depth:Int)<=9->k+t.size<=20->(∀(v:V)(H':Hp),TmAt H' v t->ScanAt C H' sc T (p+t.txt.length) (k+t.size)->SameBut sc H H'->Q v H')->spTB C n vs H Q u_3
theorem cK:FnScope ["scan","within","word","first","term"] ["scan","within"] (aq dH):=%[1,1,1,4,1,4|4]
theorem EN {n:Nat}   (F:Fun K "term_in_bracket" "term_in_bracket" dH f fd) (X:Tx K mg) (T:STxt K mg C) (M:Mths P w K mg base C fE fS fT fW fF dE dS dT dW dF) (cZ:Cal P w K mg base (2*n+3) "next_term" ["scan","within"] (spNextT C n)):FnOk P w K mg base CX0 (2*n+4) f fd ["scan","within"] (spTB C n):=by
 exists cK
 erw[sc,wi,Tx,p,k,t,r,1,S0,tl,pl,hd,ok,kind,dn,wd,k20,q]at h;erw[ja,gj,hj]at X.asking;erw[sa,gs,hs]at X.signs;have hr1:Room 1 _:=hr.mono #[0];have hr2:Room 2 _:=hr.mono #[0];refine⟨_,(ae (ba (bY (pv 0) T.cl M.mT M.gT hr2 M.bT .nil bc %[aJ|ag]))
  (ae #[ax,2,cK,bw (pv 0) T.cl M.mW M.gW hr1 M.bW .nil bc]
  (ae #[ax,3,cK,aB cZ hr #[0] rfl %[0,az aX (pv 1) aj|ag]]
  (ae (aO (ao eE (pv 2) (cV (v:=.ref ja) rfl gj rfl) (by rfl')) (ai #[ax,4,cK,aV %[2,3|ag]]) (ai (aO (ao eE (pv 2) (cV (v:=.ref sa) rfl gs rfl) (by rfl')) (ai #[ax,4,cK,aV %[aJ,2,3,aB cZ hr #[0] rfl %[0,az aX (pv 1) aj|ag]|ag]]) bq)))
  (ae (ba (bY (pv 0) T.cl M.mT M.gT hr2 M.bT .nil bc %[aJ|ag]))
  (ai (au (pv 4)))))))),?_⟩
 have l1:(("(":Str)).length=1:=by decide
 have l3:((")":Str)).length=1:=by decide
 let%[dx0,fs0,hs0|sf0]:=id S0;rcases kind with⟨wd',a,rfl⟩ | ⟨o,a,b,rfl⟩
 . erw[okw,oka]at ok;let%[_,w1,wl|_]:=vi wd' okw;have da:a.depth<=n:=Nat.le_of_succ_le_succ dn;have ed:(((Tm.ask wd' a).depth:Nat):Int)=(a.depth:Int)+1:=by show((a.depth+1:Nat):Int)=_;omega
   have es:(Tm.ask wd' a).size=a.size+1:=rfl;have wlen:(cd wd').length=wd'.length:=dG _;have hd0:Tx.cps.toList.drop p=[40]++(cd wd'++([32]++(a.txt++([41]++r)))):=by
    rw[hd];show([40]++(cd wd'++([32]++(a.txt++[41]))))++r=_
    simp
   have tlen:(Tm.ask wd' a).txt.length=1+(wd'.length+(1+(a.txt.length+1))):=by
    show([40]++(cd wd'++([32]++(a.txt++[41])))).length=_;simp only[zJ0,zO0,List.length_nil,wlen]
   have hl0:=kQ hd0 pl;simp only[zJ0,zO0,List.length_nil,wlen]at hl0;have hd1:=cr hd0;have hd2:=cr hd1;have hd3:=cr hd2;have hd4:=cr hd3;simp only[zO0,List.length_nil,wlen]at hd1 hd2 hd3 hd4;erw[0,sc,dx0,fs0,1,hs0,sf0.no3,sc,Tx,_,p,0,S0,dM (r:=cd wd'++([32]++(a.txt++([41]++r)))) (by rw[oC];exact hd0) pl,by rw[l1];decide,λH1 S1 B1=>?_];rw[l1]at S1;let%[dx1,fs1,hs1|sf1]:=id S1;erw[0,sc,dx1,fs1,1,hs1,sf1.no4,sc,Tx,_,_,cd wd',0,S1,tl,3,hd1,dz wl,.inr %[(32),0|.inl rfl],λH2 S2 B2=>?_];rw[wlen]at S2;erw[0,0,2,sc,wi+1,Tx,_,_,a,0,S2,tl,3,hd2,.inr %[(41),r,1|.inr (.inr rfl)],oka,da,3,3,λv1 H3 T3 S3 B3=>?_];erw[0,ja,0,.inr (hj _),1,⋯,0,6];have einj:inV (.str (stl (cd wd'))) (askW.map V.str)=true:=by rw[show stl (cd wd')=wd' from iH _,fL,decide_eq_true okw]
   rw[einj];refine dU ?_;erw[0,0,(by show 2<=sizeLine;decide),λc hc=>?_];have G:=zE0 hc (.tup [.str (stl (cd wd')),v1]);have S4:=S3.same G;have ec:upd H3 c (.tup [.str (stl (cd wd')),v1]) c=some (.tup [.str wd',v1]):=am;have T4:=T3.mono (aZ G);generalize upd H3 c (.tup [.str (stl (cd wd')),v1])=H4 at G S4 ec T4;let%[dx4,fs4,hs4|sf4]:=id S4;erw[0,sc,dx4,fs4,1,hs4,sf4.no3,sc,Tx,_,_,0,S4,dM (r:=r) (by rw[uV,show p+1+wd'.length+1+a.txt.length=p+(0+1)+wd'.length+(0+1)+a.txt.length by omega];exact hd4) #[0],by rw[l3];decide,λH5 S5 B5=>?_];rw[l3]at S5;have k5:=de S4 B5;erw[0,6];rw[show p+1+wd'.length+1+a.txt.length+1=p+(Tm.ask wd' a).txt.length by rw[tlen];omega,show k+1+a.size=k+(Tm.ask wd' a).size by rw[es];omega]at S5;exact q _ _ (.ask (k5 _ _ ec) (T4.mono k5)) S5 (B1.trans (B2.trans (B3.trans ((zK0 G).trans B5))))
 . erw[oko,oka,okb]at ok;let%[o1,ol|no]:=pR o oko;have dd:a.depth<=n/\b.depth<=n/\wi+(a.depth:Int)<=8/\wi+(b.depth:Int)<=8:=by
    have e1:(Tm.op o a b).depth=max a.depth b.depth+1:=rfl;rw[e1]at dn wd;omega
   have es:(Tm.op o a b).size=a.size+b.size+1:=rfl;have wlen:(cd o).length=o.length:=dG _;have hd0:Tx.cps.toList.drop p=[40]++(cd o++([32]++(a.txt++([32]++(b.txt++([41]++r)))))):=by
    rw[hd];show([40]++(cd o++([32]++(a.txt++([32]++(b.txt++[41]))))))++r=_
    simp
   have tlen:(Tm.op o a b).txt.length=1+(o.length+(1+(a.txt.length+(1+(b.txt.length+1))))):=by
    show([40]++(cd o++([32]++(a.txt++([32]++(b.txt++[41])))))).length=_;simp only[zJ0,zO0,List.length_nil,wlen]
   have hl0:=kQ hd0 pl;simp only[zJ0,zO0,List.length_nil,wlen]at hl0;have hd1:=cr hd0;have hd2:=cr hd1;have hd3:=cr hd2;have hd4:=cr hd3;have hd5:=cr hd4;have hd6:=cr hd5;simp only[zO0,List.length_nil,wlen]at hd1 hd2 hd3 hd4 hd5 hd6;erw[0,sc,dx0,fs0,1,hs0,sf0.no3,sc,Tx,_,p,0,S0,dM (r:=cd o++([32]++(a.txt++([32]++(b.txt++([41]++r)))))) (by rw[oC];exact hd0) pl,by rw[l1];decide,λH1 S1 B1=>?_];rw[l1]at S1;let%[dx1,fs1,hs1|sf1]:=id S1;erw[0,sc,dx1,fs1,1,hs1,sf1.no4,sc,Tx,_,_,cd o,0,S1,tl,3,hd1,qX ol,.inr %[(32),0|.inl rfl],λH2 S2 B2=>?_];rw[wlen]at S2;erw[0,0,2,sc,wi+1,Tx,_,_,a,0,S2,tl,3,hd2,.inr %[(32),0|.inl rfl],oka,dd.1,3,3,λv1 H3 T3 S3 B3=>?_];erw[0,ja,0,.inr (hj _),1,⋯,0,6];have einj:inV (.str (stl (cd o))) (askW.map V.str)=false:=by rw[show stl (cd o)=o from iH _,fL,decide_eq_false no]
   rw[einj];refine cO ?_;erw[0,sa,0,.inr (hs _),1,⋯,0,6];have eins:inV (.str (stl (cd o))) (signW.map V.str)=true:=by rw[show stl (cd o)=o from iH _,fL,decide_eq_true oko]
   rw [eins];refine dU ?_;have hd4':Tx.cps.toList.drop (p+1+o.length+1+a.txt.length)=[32]++(b.txt++([41]++r)):=by
    rw[show p+1+o.length+1+a.txt.length=p+(0+1)+o.length+(0+1)+a.txt.length by omega];exact hd4
   erw[0,0,0,0,2,sc,wi+1,Tx,_,_,b,0,S3,tl,3,hd4',.inr %[(41),r,1|.inr (.inr rfl)],okb,dd.2.1,3,3,λv2 H4 T4 S4 B4=>?_];have T3':=T3.mono (de S3 B4);erw[(by show 4<=sizeLine;decide),λc hc=>?_];have G:=zE0 hc (.tup [.str "op",.str (stl (cd o)),v1,v2]);have S5:=S4.same G;have ec:upd H4 c (.tup [.str "op",.str (stl (cd o)),v1,v2]) c=some (.tup [.str "op",.str o,v1,v2]):=am;have T5:=T4.mono (aZ G);have T5':=T3'.mono (aZ G);generalize upd H4 c (.tup [.str "op",.str (stl (cd o)),v1,v2])=H5 at G S5 ec T5 T5';let%[dx5,fs5,hs5|sf5]:=id S5;erw[0,sc,dx5,fs5,1,hs5,sf5.no3,sc,Tx,_,_,0,S5,dM (r:=r) (by rw[uV,show p+1+o.length+1+a.txt.length+1+b.txt.length=p+(0+1)+o.length+(0+1)+a.txt.length+(0+1)+b.txt.length by omega];exact hd6) #[0],by rw[l3];decide,λH6 S6 B6=>?_];rw[l3]at S6;have k6:=de S5 B6;erw[0,6];rw[show p+1+o.length+1+a.txt.length+1+b.txt.length+1=p+(Tm.op o a b).txt.length by rw[tlen];omega,show k+1+a.size+b.size=k+(Tm.op o a b).size by rw[es];omega]at S6;exact q _ _ (.op (k6 _ _ ec) (T5'.mono k6) (T5.mono k6)) S6 (B1.trans (B2.trans (B3.trans (B4.trans ((zK0 G).trans B6)))))
theorem pQ:FnScope ["scan","within","word"] ["scan","within"] (aq iD):=%[1,1,1,4,1,4|4]
theorem uS{n:Int}(h:0<=n):cf n∉plainW:=λhm=>by
 let%[_,w1,wl|_]:=ki _ hm;cases e:cd (cf n)with
 | nil=>
   have:=dG (cf n)
   rw[e]at this
   simp at this
   omega
 | cons c r=>
   have h1:=kN h c (by rw[e];exact qB0);have h2:=wl c (by show c∈cd (cf n);rw[e];exact qB0);omega
theorem xQ:∀w∈plainW,w∈kept:=by decide
theorem FB {n:Nat}   (F:Fun K "next_term" "next_term" iD f fd) (B:Bl mg) (X:Tx K mg) (T:STxt K mg C) (M:Mths P w K mg base C fE fS fT fW fF dE dS dT dW dF) (eG:Cal P w K mg base 1 "is_name" ["text"] (spTxt jJ)) (b9:Cal P w K mg base 1 "is_figures" ["text"] (spTxt kY)) (uU:Cal P w K mg base (2*n+4) "term_in_bracket" ["scan","within"] (spTB C n)):FnOk P w K mg base CX0 (2*(n+1)+3) f fd ["scan","within"] (spNextT C (n+1)):=by
 exists pQ
 erw[sc,wi,Tx,p,k,t,r,1,S0,tl,pl,hd,er,ok,dn,wd,k20,q]at h;erw[ja,gj,hj]at X.plain;have hr1:Room 1 _:=hr.mono #[0];have hr2:Room 2 _:=hr.mono #[0];refine⟨_,(ae (ba (bY (pv 0) T.cl M.mT M.gT hr2 M.bT .nil bc %[aJ|ag]))
  (ae (ba (bY (pv 0) T.cl M.mE M.gE hr1 M.bE .nil bc %[1|ag]))
  (ae (aO (dY (bY (pv 0) T.cl M.mS M.gS hr1 M.bS .nil bc %[aJ|ag])) (ai (au (aB uU hr #[0] rfl %[0,1|ag]))) aF)
  (ae #[ax,2,pQ,bw (pv 0) T.cl M.mW M.gW hr1 M.bW .nil bc]
  (ae (aO (ao eE (pv 2) (cV (v:=.ref ja) rfl gj rfl) (by rfl')) (ai (au (aV %[2|ag]))) aF)
  (ae (aO (dY (aB b9 hr #[0] rfl %[2|ag])) (ai (au (aV %[aJ,bh lr rfl B.int kX %[2|ag]|ag]))) aF)
  (ae (aO (gA (dY (aB eG hr #[0] rfl %[2|ag]))) bq aF)
  (ai (au (aV %[aJ,2|ag])))))))))),?_⟩
 have l2:((" ":Str)).length=1:=by decide
 have dp:=t.depth_pos;have sp:=t.size_pos;have hl0:=kQ hd pl;have hd1:=cr hd;simp only[zJ0,zO0,List.length_nil]at hl0 hd1;let%[dx0,fs0,hs0|sf0]:=id S0;erw[0,sc,dx0,fs0,1,hs0,sf0.no3,sc,Tx,_,p,0,S0,dM (r:=t.txt++r) (by rw[jC];exact hd) pl,by rw[l2];decide,λH1 S1 B1=>?_];rw[l2]at S1;let%[dx1,fs1,hs1|sf1]:=id S1;erw[0,sc,dx1,fs1,1,hs1,sf1.no1,0,sc,Tx,_,k,wi,1,S1,3,3,λH2 S2 B2=>?_];let%[dx2,fs2,hs2|sf2]:=id S2;erw[0,sc,dx2,fs2,1,hs2,sf2.no2,sc,Tx,_,_,0,S2,0,6];have shape:(((∃w a,t=.ask w a)∨∃s a b,t=.op s a b)/\∃z,t.txt=40::z)∨∃x:Str,t.txt=cd x/\oN (cd x)/\1<=x.length/\t.size=1/\((t=.plain x/\x∈plainW)∨(∃m,t=.num m/\x=cf m/\0<=m/\m<1000000000000)∨(t=.box x/\NmK x)):=by
  cases t with
  | ask w a=>exact .inl %[.inl %[w,a|1]|0]
  | op s a b=>exact .inl %[.inr %[s,a,b|1]|0]
  | plain x=>
    have okx:x∈plainW:=ok;let%[_,w1,wl|_]:=ki x okx;exact .inr %[x,1,dz wl,w1,1|.inl %[1|okx]]
  | num m=>exact .inr %[cf m,1,qW ok.1,vS ok.1,1|.inr (.inl %[m,1,1,ok.1|ok.2])]
  | box x=>
    have okx:NmK x:=ok;exact .inr %[x,1,dz okx.1,okx.2.1,1|.inr (.inr %[1|okx])]
 rcases shape with⟨kind,z,ez⟩ | ⟨x,et,pc,x1,s1,kd⟩
 . have hs:fQ Tx ("(":Str) ((p+1:Nat):Int)=true:=dM (r:=z++r) (by rw[oC];show _=40::(z++r);rw[hd1,ez];rfl) #[0];rw[hs];refine dU ?_;erw[0,0,sc,wi,Tx,p+1,k,t,r,1,S2,tl,3,hd1,ok,kind,dn,wd,k20,λv H3 T3 S3 B3=>?_];exact q v H3 T3 S3 (B1.trans (B2.trans B3))
 let%[c,r',hc|c40]:=Ax pc (by rw[dG];exact x1) r;have hd':Tx.cps.toList.drop (p+1)=cd x++r:=by rw[hd1,et]
 rw[Ad (hd'.trans hc) c40];refine cO ?_;erw[0,sc,dx2,fs2,1,hs2,sf2.no4,sc,Tx,_,_,cd x,r,1,S2,tl,3,hd',pc,er,λH3 S3 B3'=>?_];rw[show stl (cd x)=x from iH _];rw[←et,←s1]at S3;have B3:SameBut sc H H3:=B1.trans (B2.trans B3');erw[0,ja,0,.inr (hj _),1,⋯,0,6];show if inV (.str x) (plainW.map V.str)=true then _ else _
 rw[fL];rcases kd with⟨rfl,okx⟩ | ⟨m,rfl,rfl,m0,m1⟩ | ⟨rfl,okx⟩
 . refine bb okx ?_;erw[0,(by show 1<=sizeLine;decide),λc hc=>?_];have G:=zE0 hc (.tup [.str x]);exact q _ _ (.plain am) (S3.same G) (B3.trans (zK0 G))
 . refine aI (uS m0) ?_;have nl:=jA m0 m1;erw[0,cf m,1,3,λH4 S4=>%[0|6]];rw[zt m0 m1];refine dU ?_;erw[0,cf m,m,1,zr m0 m1,3,(by show 2<=sizeLine;decide),λc hc=>?_];have G:=zE0 hc (.tup [.str "num",.int m]);exact q _ _ (.num am) ((S3.same S4).same G) (B3.trans (zK0 (S4.trans G)))
 . let%[xl,_,x6|xk]:=id okx;refine aI (λh=>xk (xQ x h)) ?_;erw[0,x,1,3,λH4 S4=>%[0|6]];rw[Bp okx];refine cO ?_;erw[0,x,1,3,λH5 S5=>%[0|6]];rw[zv okx];refine cO ?_;erw[0,(by show 2<=sizeLine;decide),λc hc=>?_];have G:=zE0 hc (.tup [.str "box",.str x]);exact q _ _ (.box am) (((S3.same S4).same S5).same G) (B3.trans (zK0 (S4.trans (S5.trans G))))
theorem FA  :FnOk P w K mg base CX0 3 f fd ["scan","within"] (spNextT C 0):=by
 have no:∀vs H Q E,¬ spNextT C 0 vs H Q E:=λvs H Q E h=>by
  erw[_,_,_,_,_,t,_,_,_,_,_,_,_,_,h1,_]at h
  have:=t.depth_pos
  omega
 erw[λvs H Q E h=>absurd h (no vs H Q E),λA outer s H args us vs Q E _ _ _ _ h=>absurd h (no vs H Q E)]
theorem mx   (F:Fun K "next_term" "next_term" iD f fd) (m:mg "next_term"=some (.ref f)) (Fj:Fun K "term_in_bracket" "term_in_bracket" dH fj fdj) (mj:mg "term_in_bracket"=some (.ref fj)) (B:Bl mg) (X:Tx K mg) (T:STxt K mg C) (M:Mths P w K mg base C fE fS fT fW fF dE dS dT dW dF) (eG:Cal P w K mg base 1 "is_name" ["text"] (spTxt jJ)) (b9:Cal P w K mg base 1 "is_figures" ["text"] (spTxt kY)) :
 ∀n:Nat,FnOk P w K mg base CX0 (2*n+3) f fd ["scan","within"] (spNextT C n)
 | 0=>FA
 | n+1=>
   have c1:=Cal.of F (mx F m Fj mj B X T M eG b9 n) m (λ_ _ _ _ _ _ us hl=>by let%[u0,u1|1]:=DK hl;rfl)
   FB F B X T M eG b9 (Cal.of Fj (EN Fj X T M c1) mj (λ_ _ _ _ _ _ us hl=>by let%[u0,u1|1]:=DK hl;rfl))
inductive spNextN(C:Addr)(vs:List V)(H:Hp)(Q:VK)(u_3:XK):Prop
 |mk:∀(sc:Addr)(T:Str)(p k:Nat)(x:Str)(r:List Nat),vs=[.ref sc]->ScanAt C H sc T p k->T.length<=1000->p<=T.length->T.cps.toList.drop p=[32]++(cd x++r)->wT r->NmK x->(∀H',ScanAt C H' sc T (p+1+x.length) k->SameBut sc H H'->Q (.str x) H')->spNextN C vs H Q u_3
theorem pS:FnScope ["scan","word"] ["scan"] (aq jV):=%[1,1,1,4,1,4|4]
theorem uK   (F:Fun K "next_name" "next_name" jV f fd) (T:STxt K mg C) (M:Mths P w K mg base C fE fS fT fW fF dE dS dT dW dF) (eG:Cal P w K mg base 1 "is_name" ["text"] (spTxt jJ)):FnOk P w K mg base CX0 3 f fd ["scan"] (spNextN C):=by
 exists pS
 erw[sc,Tx,p,k,x,r,1,S0,tl,pl,hd,er,ok,q]at h;have hr1:Room 1 _:=hr.mono #[0];have hr2:Room 2 _:=hr.mono #[0];refine⟨_,(ae (ba (bY (pv 0) T.cl M.mT M.gT hr2 M.bT .nil bc %[aJ|ag]))
  (ae #[ax,1,pS,bw (pv 0) T.cl M.mW M.gW hr1 M.bW .nil bc]
  (ae (aO (gA (dY (aB eG hr #[0] rfl %[1|ag]))) bq aF)
  (ai (au (pv 1)))))),?_⟩
 have l2:((" ":Str)).length=1:=by decide
 have hl0:=kQ hd pl;have hd1:=cr hd;simp only[zJ0,zO0,List.length_nil]at hl0 hd1;let%[dx0,fs0,hs0|sf0]:=id S0;erw[0,sc,dx0,fs0,1,hs0,sf0.no3,sc,Tx,_,p,0,S0,dM (r:=cd x++r) (by rw[jC];exact hd) pl,by rw[l2];decide,λH1 S1 B1=>?_];rw[l2]at S1;let%[dx1,fs1,hs1|sf1]:=id S1;erw[0,sc,dx1,fs1,1,hs1,sf1.no4,sc,Tx,_,_,cd x,r,1,S1,tl,3,hd1,dz ok.1,er,λH2 S2 B2=>?_];rw[show stl (cd x)=x from iH _];rw[dG]at S2;have x6:=ok.2.2.1;erw[0,x,1,3,λH3 S3=>%[0|6]];rw[zv ok];refine cO ?_;erw[0,q H3 (S2.same S3) (B1.trans (B2.trans (zK0 S3)))]
inductive spNextF(C:Addr)(vs:List V)(H:Hp)(Q:VK)(u_3:XK):Prop
 |mk:∀(sc:Addr)(T:Str)(p k:Nat)(m:Int)(r:List Nat),vs=[.ref sc]->ScanAt C H sc T p k->T.length<=1000->p<=T.length->T.cps.toList.drop p=[32]++(cd (cf m)++r)->wT r->0<=m->m<1000000000000->(∀H',ScanAt C H' sc T (p+1+(cf m).length) k->SameBut sc H H'->Q (.int m) H')->spNextF C vs H Q u_3
theorem jR:FnScope ["scan","word"] ["scan"] (aq hR):=%[1,1,1,4,1,4|4]
theorem pJ   (F:Fun K "next_figures" "next_figures" hR f fd) (B:Bl mg) (T:STxt K mg C) (M:Mths P w K mg base C fE fS fT fW fF dE dS dT dW dF) (b9:Cal P w K mg base 1 "is_figures" ["text"] (spTxt kY)):FnOk P w K mg base CX0 3 f fd ["scan"] (spNextF C):=by
 exists jR
 erw[sc,Tx,p,k,m,r,1,S0,tl,pl,hd,er,m0,m1,q]at h;have hr1:Room 1 _:=hr.mono #[0];have hr2:Room 2 _:=hr.mono #[0];refine⟨_,(ae (ba (bY (pv 0) T.cl M.mT M.gT hr2 M.bT .nil bc %[aJ|ag]))
  (ae #[ax,1,jR,bw (pv 0) T.cl M.mW M.gW hr1 M.bW .nil bc]
  (ae (aO (gA (dY (aB b9 hr #[0] rfl %[1|ag]))) bq aF)
  (ai (au (bh lr rfl B.int kX %[1|ag])))))),?_⟩
 have l2:((" ":Str)).length=1:=by decide
 have hl0:=kQ hd pl;have hd1:=cr hd;simp only[zJ0,zO0,List.length_nil]at hl0 hd1;have nl:=jA m0 m1;let%[dx0,fs0,hs0|sf0]:=id S0;erw[0,sc,dx0,fs0,1,hs0,sf0.no3,sc,Tx,_,p,0,S0,dM (r:=cd (cf m)++r) (by rw[jC];exact hd) pl,by rw[l2];decide,λH1 S1 B1=>?_];rw[l2]at S1;let%[dx1,fs1,hs1|sf1]:=id S1;erw[0,sc,dx1,fs1,1,hs1,sf1.no4,sc,Tx,_,_,cd (cf m),r,1,S1,tl,3,hd1,qW m0,er,λH2 S2 B2=>?_];rw[show stl (cd (cf m))=cf m from iH _];rw[dG]at S2;erw[0,cf m,1,3,λH3 S3=>%[0|6]];rw[zt m0 m1];refine cO ?_;erw[0,cf m,m,1,zr m0 m1,3,q H3 (S2.same S3) (B1.trans (B2.trans (zK0 S3)))]
theorem iteNT{c A B:Prop}[Decidable c](hc:c)(h:B):if(!decide c)=true then A else B:=by
 rw[decide_eq_true hc];exact cO h
def Hr.wd:Hr->Str
 | .fin=>"end" | .go _=>"go" | .iff _ _=>"if" | .set _ _=>"set" | .say _=>"say"
def Hr.rest:Hr->List Nat
 | .fin=>[] | .go n=>[32]++cd (cf n) | .iff t n=>[32]++(t.txt++([32]++cd (cf n))) | .set x t=>[32]++(cd x++([32]++t.txt)) | .say t=>[32]++t.txt
theorem Hr.codes(r:Hr):r.str.cps.toList=cd r.wd++r.rest:=by
 cases r with
 | fin=>decide
 | go n=>
   rw[show(Hr.go n).str=(("go":Str)++(" ":Str))++cf n from rfl,fZ,fZ,jC];show(cd "go"++[32])++cd (cf n)=cd "go"++([32]++cd (cf n))
   simp
 | iff t n=>
   rw[show(Hr.iff t n).str=(((("if":Str)++(" ":Str))++t.str)++(" ":Str))++cf n from rfl];simp only[fZ,jC];show(((cd "if"++[32])++t.txt)++[32])++cd (cf n)=cd "if"++([32]++(t.txt++([32]++cd (cf n))))
   simp
 | set x t=>
   rw[show(Hr.set x t).str=(((("set":Str)++(" ":Str))++x)++(" ":Str))++t.str from rfl];simp only[fZ,jC];show(((cd "set"++[32])++cd x)++[32])++t.txt=cd "set"++([32]++(cd x++([32]++t.txt)))
   simp
 | say t=>
   rw[show(Hr.say t).str=(("say":Str)++(" ":Str))++t.str from rfl,fZ,fZ,jC];show(cd "say"++[32])++t.txt=cd "say"++([32]++t.txt)
   simp
theorem kU:∀x∈(["end","go","if","set","say"]:List Str),∀c∈x.cps.toList,97<=c/\c<=122:=by decide
theorem Hr.wd_ok(r:Hr):oN (cd r.wd):=by
 cases r with
 | fin=>exact dz (kU "end" ⋯)
 | go n=>exact dz (kU "go" ⋯)
 | iff t n=>exact dz (kU "if" ⋯)
 | set x t=>exact dz (kU "set" ⋯)
 | say t=>exact dz (kU "say" ⋯)
theorem Hr.rest_ok(r:Hr):wT r.rest:=by
 cases r with
 | fin=>exact .inl rfl
 | go n=>exact .inr %[(32),0|.inl rfl]
 | iff t n=>exact .inr %[(32),0|.inl rfl]
 | set x t=>exact .inr %[(32),0|.inl rfl]
 | say t=>exact .inr %[(32),0|.inl rfl]
inductive spHRw(vs:List V)(H:Hp)(Q:VK)(u_3:XK):Prop
 |mk:∀(r:Hr)(k:Int),vs=[.str r.str,.int k]->r.ok 20->(∀(v:V)(H':Hp),HrAt H' v r->Same H H'->Q v H')->spHRw vs H Q u_3
theorem cu:FnScope ["text","number","scan","word","row"] ["text","number"] (aq jt):=%[1,1,1,4,1,4|4]
theorem sE   (F:Fun K "helper_row" "helper_row" jt f fd) (X:Tx K mg) (T:STxt K mg C) (M:Mths P w K mg base C fE fS fT fW fF dE dS dT dW dF) (MK:Mk K C fI) (GI:FnOk P w K mg base CX0 1 fI fdI ["self","text","row","most_within","most_parts"] (spSInit C)) (bI:Binds K fdI ["self","text","row","most_within","most_parts"] [])
 (lR:Cal P w K mg base 3 "next_name" ["scan"] (spNextN C)) (f6:Cal P w K mg base 3 "next_figures" ["scan"] (spNextF C)) (cZ:Cal P w K mg base 19 "next_term" ["scan","within"] (spNextT C 8)):FnOk P w K mg base CX0 20 f fd ["text","number"] spHRw:=by
 exists cu
 erw[r,k,1,ok,q]at h;erw[tw,gw]at X.within;erw[tp,gp]at X.parts;have hr1:Room 1 _:=hr.mono ⋯;have hr2:Room 2 _:=hr.mono ⋯;refine⟨_,(ae #[ax,2,cu,gJ MK GI hr2 rfl T.mgC bI .nil bc %[0,1,cV (v:=.int 8) rfl gw %[|0],cV (v:=.int 20) rfl gp ⟨_,rfl⟩|ag]]
  (ae #[ax,3,cu,bw (pv 2) T.cl M.mW M.gW hr1 M.bW .nil bc]
  (ae #[ax,4,cu,aV %[3|ag]]
  (ae (aO (ao aW (pv 3) aJ (aE _)) (ai #[ax,4,cu,az op_catT (pv 4) (aV %[aB lR hr ⋯ rfl %[2|ag],aB cZ hr ⋯ rfl %[2,aj|ag]|ag])]) (ai (aO (ao aW (pv 3) aJ (aE _)) (ai #[ax,4,cu,az op_catT (pv 4) (aV %[aB cZ hr ⋯ rfl %[2,aj|ag]|ag])]) (ai (aO (ao aW (pv 3) aJ (aE _)) (ai #[ax,4,cu,az op_catT (pv 4) (aV %[aB cZ hr ⋯ rfl %[2,aj|ag],aB f6 hr ⋯ rfl %[2|ag]|ag])]) (ai (aO (ao aW (pv 3) aJ (aE _)) (ai #[ax,4,cu,az op_catT (pv 4) (aV %[aB f6 hr ⋯ rfl %[2|ag]|ag])]) (ai (aO (ao mq (pv 3) aJ (aE _)) bq aF)))))))))
  (ae (ba (bw (pv 2) T.cl M.mF M.gF hr1 M.bF .nil bc))
  (ai (au (pv 4)))))))),?_⟩
 erw[0,0,λg dx nx ndx nex=>?_];have s3:Same H (upd (upd H dx (.own g)) g (.ins C dx [])):=λb o e=>by
  rw[aG (aQ e nx),aG (aQ e ndx)];exact e
 erw[g,dx,r.str,k,1,am,λH1 S1 B1=>%[1|6]];have N1:Same H H1:=λb o e=>B1 b o (aQ e nx) (s3 b o e)
 have tl:r.str.length<=1000:=zP0 (Hr.str_len ok) ⋯;have hc:=r.codes;have hlen:r.str.length=r.wd.length+r.rest.length:=by
  have:=congrArg List.length hc
  rw[mz,zJ0,dG]at this;exact this
 have hd0:r.str.cps.toList.drop 0=cd r.wd++r.rest:=by rw[List.drop_zero];exact hc
 let%[dx1,fs1,hs1|sf1]:=id S1;erw[0,g,dx1,fs1,1,hs1,sf1.no4,g,r.str,(0),(0),cd r.wd,r.rest,1,S1,tl,zU0 _,hd0,r.wd_ok,r.rest_ok,λH2 S2 B2=>?_];rw[show stl (cd r.wd)=r.wd from iH _];have hd1:=cr hd0;rw[dG]at S2 hd1;have N2:Same H H2:=λb o e=>B2 b o (aQ e nx) (N1 b o e)
 erw[0,(by show 1<=sizeLine;decide),λa ha=>?_];have Ga:=zE0 ha (.tup [.str r.wd]);have ea:upd H2 a (.tup [.str r.wd]) a=some (.tup [.str r.wd]):=am;have S3:=S2.same Ga;generalize upd H2 a (.tup [.str r.wd])=H3 at Ga ea S3;have N3:=N2.trans Ga;have isF:∀{x y:Str},x≠y->¬ V.str x=V.str y:=λh=>eP h
 cases r with
 | fin=>
   erw[0,1,0,6];refine aI (isF (x:="end") ⋯) ?_;erw[0,1,0,6];refine aI (isF (x:="end") ⋯) ?_;erw[0,1,0,6];refine aI (isF (x:="end") ⋯) ?_;erw[0,1,0,6];refine aI (isF (x:="end") ⋯) ?_;erw[0,1,0,6];refine iteNT rfl ?_;let%[dx3,fs3,hs3|sf3]:=id S3;have el:0+(Hr.fin).wd.length=(Hr.fin).str.length:=by rw[hlen];show 0+_=_+0;omega
   rw[el]at S3;erw[0,g,dx3,fs3,1,hs3,sf3.no5,g,_,0,S3,tl,6];erw[0,q _ H3 (.fin ea) N3]
 | go n=>
   erw[0,1,0,6];refine aI (isF (x:="go") ⋯) ?_;erw[0,1,0,6];refine aI (isF (x:="go") ⋯) ?_;erw[0,1,0,6];refine aI (isF (x:="go") ⋯) ?_;erw[0,1,0,6];refine bb rfl ?_;have hrl:(Hr.go n).rest.length=1+(cf n).length:=by
    show([32]++cd (cf n)).length=_;rw[zJ0,dG];rfl
   erw[0,0,g,_,_,_,n,[],1,S3,tl,3,by rw[hd1];show [32]++cd (cf n)=[32]++(cd (cf n)++[]);rw[List.append_nil],.inl rfl,ok.1,ok.2,λH4 S4 B4=>?_];have ea4:=de S3 B4 _ _ ea;erw[(by show 1<=sizeLine;decide),λb hb=>?_];have Gb:=zE0 hb (.tup [.int n]);erw[a,b,2,zB0 (Gb _ _ ea4),zB0 am,by simp,(by show 2<=sizeLine;decide),λz=>(by cases z),λ_ p hp=>?_];have Gp:=zE0 hp (.tup ([V.str (Hr.go n).wd]++[V.int n]));have S5:=(S4.same Gb).same Gp;have ep:upd (upd H4 b (.tup [.int n])) p (.tup ([V.str (Hr.go n).wd]++[V.int n])) p=some (.tup [.str "go",.int n]):=am;have N5:=Gb.trans Gp;generalize upd (upd H4 b (.tup [.int n])) p (.tup ([V.str (Hr.go n).wd]++[V.int n]))=H5 at S5 ep N5;rw[show 0+(Hr.go n).wd.length+1+(cf n).length=(Hr.go n).str.length by omega]at S5;let%[dx5,fs5,hs5|sf5]:=id S5;erw[0,g,dx5,fs5,1,hs5,sf5.no5,g,_,0,S5,tl,6];erw[0,q _ H5 (.go ep) λc o e=>N5 _ _ (B4 c o (aQ e nx) (N3 c o e))]
 | say t=>
   erw[0,1,0,6];refine aI (isF (x:="say") ⋯) ?_;erw[0,1,0,6];refine bb rfl ?_;have hrl:(Hr.say t).rest.length=1+t.txt.length:=by
    show([32]++t.txt).length=_;rw[zJ0];rfl
   have ok':t.fit 20:=ok;erw[0,0,g,(1),_,_,_,t,[],1,S3,tl,3,by rw[hd1];show [32]++t.txt=[32]++(t.txt++[]);rw[List.append_nil],.inl rfl,ok'.1,ok'.2.2,by have:=ok'.2.2;omega,by have:=ok'.2.1;omega,λv H4 T4 S4 B4=>?_];have ea4:=de S3 B4 _ _ ea;erw[(by show 1<=sizeLine;decide),λb hb=>?_];have Gb:=zE0 hb (.tup [v]);erw[a,b,2,zB0 (Gb _ _ ea4),zB0 am,by simp,(by show 2<=sizeLine;decide),λz=>(by cases z),λ_ p hp=>?_];have Gp:=zE0 hp (.tup ([V.str (Hr.say t).wd]++[v]));have S5:=(S4.same Gb).same Gp;have ep:upd (upd H4 b (.tup [v])) p (.tup ([V.str (Hr.say t).wd]++[v])) p=some (.tup [.str "say",v]):=am;have N5:=Gb.trans Gp;generalize upd (upd H4 b (.tup [v])) p (.tup ([V.str (Hr.say t).wd]++[v]))=H5 at S5 ep N5;rw[show 0+(Hr.say t).wd.length+1+t.txt.length=(Hr.say t).str.length by omega]at S5;let%[dx5,fs5,hs5|sf5]:=id S5;erw[0,g,dx5,fs5,1,hs5,sf5.no5,g,_,0,S5,tl,6];erw[0,q _ H5 (.say ep (T4.mono (aZ N5))) λc o e=>N5 _ _ (B4 c o (aQ e nx) (N3 c o e))]
 | iff t n=>
   erw[0,1,0,6];refine aI (isF (x:="if") ⋯) ?_;erw[0,1,0,6];refine aI (isF (x:="if") ⋯) ?_;erw[0,1,0,6];refine bb rfl ?_;have hrl:(Hr.iff t n).rest.length=1+(t.txt.length+(1+(cf n).length)):=by
    show([32]++(t.txt++([32]++cd (cf n)))).length=_;simp only[zJ0,zO0,List.length_nil,dG]
   erw[ok',n0,n1]at ok;have hd2:(Hr.iff t n).str.cps.toList.drop (0+(Hr.iff t n).wd.length)=[32]++(t.txt++([32]++(cd (cf n)++[]))):=by rw[hd1,List.append_nil];rfl
   have hd3:=cr (cr hd2);simp only[zO0,List.length_nil]at hd3;erw[0,0,g,(1),_,_,_,t,0,S3,tl,3,hd2,.inr %[(32),0|.inl rfl],ok'.1,ok'.2.2,by have:=ok'.2.2;omega,by have:=ok'.2.1;omega,λv H4 T4 S4 B4=>?_];have ea4:=de S3 B4 _ _ ea;erw[0,g,_,_,_,n,[],1,S4,tl,3,hd3,.inl rfl,n0,n1,λH5 S5 B5=>?_];have ea5:=de S4 B5 _ _ ea4;have T5:=T4.mono (de S4 B5);erw[(by show 2<=sizeLine;decide),λb hb=>?_];have Gb:=zE0 hb (.tup [v,.int n]);erw[a,b,2,zB0 (Gb _ _ ea5),zB0 am,by simp,(by show 3<=sizeLine;decide),λz=>(by cases z),λ_ p hp=>?_];have Gp:=zE0 hp (.tup ([V.str (Hr.iff t n).wd]++[v,V.int n]));have S6:=(S5.same Gb).same Gp;have ep:upd (upd H5 b (.tup [v,.int n])) p (.tup ([V.str (Hr.iff t n).wd]++[v,V.int n])) p=some (.tup [.str "if",v,.int n]):=am;have N6:=Gb.trans Gp;generalize upd (upd H5 b (.tup [v,.int n])) p (.tup ([V.str (Hr.iff t n).wd]++[v,V.int n]))=H6 at S6 ep N6;rw[show 0+(Hr.iff t n).wd.length+1+t.txt.length+1+(cf n).length=(Hr.iff t n).str.length by omega]at S6;let%[dx6,fs6,hs6|sf6]:=id S6;erw[0,g,dx6,fs6,1,hs6,sf6.no5,g,_,0,S6,tl,6];erw[0,q _ H6 (.iff ep (T5.mono (aZ N6))) λc o e=>N6 _ _ (B5 c o (aQ e nx) (B4 c o (aQ e nx) (N3 c o e)))]
 | set x t=>
   erw[0,1,0,6];refine bb rfl ?_;have hrl:(Hr.set x t).rest.length=1+(x.length+(1+t.txt.length)):=by
    show([32]++(cd x++([32]++t.txt))).length=_;simp only[zJ0,zO0,List.length_nil,dG]
   erw[okx,ok']at ok;have hd2:(Hr.set x t).str.cps.toList.drop (0+(Hr.set x t).wd.length)=[32]++(cd x++([32]++(t.txt++[]))):=by rw[hd1,List.append_nil];rfl
   have hd3:=cr (cr hd2);simp only[zO0,List.length_nil,dG]at hd3;erw[0,0,g,_,_,_,x,0,S3,tl,3,hd2,.inr %[(32),0|.inl rfl],okx,λH4 S4 B4=>?_];have ea4:=de S3 B4 _ _ ea;erw[0,g,(1),_,_,_,t,[],1,S4,tl,3,hd3,.inl rfl,ok'.1,ok'.2.2,by have:=ok'.2.2;omega,by have:=ok'.2.1;omega,λv H5 T5 S5 B5=>?_];have ea5:=de S4 B5 _ _ ea4;erw[(by show 2<=sizeLine;decide),λb hb=>?_];have Gb:=zE0 hb (.tup [.str x,v]);erw[a,b,2,zB0 (Gb _ _ ea5),zB0 am,by simp,(by show 3<=sizeLine;decide),λz=>(by cases z),λ_ p hp=>?_];have Gp:=zE0 hp (.tup ([V.str (Hr.set x t).wd]++[.str x,v]));have S6:=(S5.same Gb).same Gp;have ep:upd (upd H5 b (.tup [.str x,v])) p (.tup ([V.str (Hr.set x t).wd]++[.str x,v])) p=some (.tup [.str "set",.str x,v]):=am;have N6:=Gb.trans Gp;generalize upd (upd H5 b (.tup [.str x,v])) p (.tup ([V.str (Hr.set x t).wd]++[.str x,v]))=H6 at S6 ep N6;rw[show 0+(Hr.set x t).wd.length+1+x.length+1+t.txt.length=(Hr.set x t).str.length by omega]at S6;let%[dx6,fs6,hs6|sf6]:=id S6;erw[0,g,dx6,fs6,1,hs6,sf6.no5,g,_,0,S6,tl,6];erw[0,q _ H6 (.set ep (T5.mono (aZ N6))) λc o e=>N6 _ _ (B5 c o (aQ e nx) (B4 c o (aQ e nx) (N3 c o e)))]
theorem Tm.txt_hi:∀t:Tm,t.ok->∀c∈t.txt,32<=c
 | .num n,h,c,hc=>by have:=kN h.1 c hc;omega
 | .box x,h,c,hc=>by have:=h.1 c hc;omega
 | .plain w,h,c,hc=>by have:=(ki w h).2.2.1 c hc;omega
 | .ask w a,⟨h,h1⟩,c,hc=>by
   have hc':c∈[40]++(cd w++([32]++(a.txt++[41]))):=hc;simp only[List.mem_append,List.mem_singleton]at hc';rcases hc' with e | e | e | e | e
   . omega
   . have:=(vi w h).2.2.1 c e;omega
   . omega
   . exact Tm.txt_hi a h1 c e
   . omega
 | .op o a b,⟨h,h1,h2⟩,c,hc=>by
   have hc':c∈[40]++(cd o++([32]++(a.txt++([32]++(b.txt++[41]))))):=hc;simp only[List.mem_append,List.mem_singleton]at hc';rcases hc' with e | e | e | e | e | e | e
   . omega
   . have:=(pR o h).2.1 c e;omega
   . omega
   . exact Tm.txt_hi a h1 c e
   . omega
   . exact Tm.txt_hi b h2 c e
   . omega
theorem Hl{r:Hr}(ok:r.ok 20):∀c∈cd r.str,32<=c:=by
 intro c hc;have hc1:c∈cd r.wd++r.rest:=by rw[←r.codes];exact hc
 have nm:∀{n:Int},0<=n->c∈cd (cf n)->32<=c:=λh0 h=>by have:=kN h0 c h;omega
 rcases qM0 hc1 with h | h
 . have:=r.wd_ok
   have h5:∀x∈(["end","go","if","set","say"]:List Str),c∈cd x->32<=c:=λx hx hc=>by have:=kU x hx c hc;omega
   cases r with
   | fin=>exact h5 "end" ⋯ h
   | go n=>exact h5 "go" ⋯ h
   | iff t n=>exact h5 "if" ⋯ h
   | set x t=>exact h5 "set" ⋯ h
   | say t=>exact h5 "say" ⋯ h
 . cases r with
   | fin=>cases h
   | go n=>
     have h':c∈[32]++cd (cf n):=h;simp only[List.mem_append,List.mem_singleton]at h';rcases h' with e | e
     . omega
     . exact nm ok.1 e
   | iff t n=>
     have h':c∈[32]++(t.txt++([32]++cd (cf n))):=h;simp only[List.mem_append,List.mem_singleton]at h';rcases h' with e | e | e | e
     . omega
     . exact Tm.txt_hi t ok.1.1 c e
     . omega
     . exact nm ok.2.1 e
   | set x t=>
     have h':c∈[32]++(cd x++([32]++t.txt)):=h;simp only[List.mem_append,List.mem_singleton]at h';rcases h' with e | e | e | e
     . omega
     . have:=ok.1.1 c e;omega
     . omega
     . exact Tm.txt_hi t ok.2.1 c e
   | say t=>
     have h':c∈[32]++t.txt:=h;simp only[List.mem_append,List.mem_singleton]at h';rcases h' with e | e
     . omega
     . exact Tm.txt_hi t (show t.fit 20 from ok).1 c e
theorem rM  (g:nI rs) (h0:rs≠[]):Txt.split (mL rs) ("\n":Str)=rs.map Hr.str:=by
 unfold mL;rw[nl_eq,FM];refine xq (c:=10) (λz=>h0 (List.map_eq_nil_iff.mp z)) λp hp hc=>?_
 let%[r,hr|1]:=List.mem_map.mp hp
 have:=Hl (g.2 r hr) 10 hc
 omega
theorem Bn  (g:nI rs) (h0:rs≠[]):mL rs≠"":=λe=>by
 have h1:=rM g h0;rw[e,show Txt.split ("":Str) ("\n":Str)=[("":Str)]from by decide]at h1;cases rs with
 | nil=>exact h0 rfl
 | cons r l=>
   have h2:=(List.cons.inj h1).1;have h3:=r.codes;rw[←h2]at h3;have h4:cd r.wd=[]:=(List.append_eq_nil_iff.mp h3.symm).1;have h5:∀x∈(["end","go","if","set","say"]:List Str),cd x≠[]:=by decide
   cases r with
   | fin=>exact h5 "end" ⋯ h4
   | go n=>exact h5 "go" ⋯ h4
   | iff t n=>exact h5 "if" ⋯ h4
   | set x t=>exact h5 "set" ⋯ h4
   | say t=>exact h5 "say" ⋯ h4
inductive spReadH(vs:List V)(H:Hp)(Q:VK)(u_3:XK):Prop
 |mk:∀rs:List Hr,vs=[.str (mL rs)]->nI rs->(∀(a:Addr)(tv:List V)(H':Hp),H' a=some (.tup tv)->RowsAt H' tv rs->Same H H'->Q (.ref a) H')->spReadH vs H Q u_3
theorem f7:FnScope ["text","helper","number","row"] ["text"] (aq iJ):=%[1,1,1,4,1,4|4]
theorem rf   (F:Fun K "read_helper" "read_helper" iJ f fd) (B:Bl mg) (X:Tx K mg) (i9:Cal P w K mg base 20 "helper_row" ["text","number"] spHRw):FnOk P w K mg base CX0 21 f fd ["text"] spReadH:=by
 exists f7
 erw[rs,1,g,q]at h;erw[tm,gm]at X.rows;refine⟨_,(ae (aO (ao aW (pv 0) aJ (aE _)) (ai (au (aV ag))) aF)
  (ae #[ax,1,f7,ca ag]
  (ae (cI PassesOwn.never rfl (Fm rfl B.enumerate (dw PySem.F.plainAttrs_str PySem.F.slot_str_split PySem.F.type_str_split DE (pv 0) %[aJ|ag])) (uH rfl (fV (bt (i:=2) f7.nd rfl (.inl rfl)) (fV (bt (i:=3) f7.nd rfl (.inl rfl)) pT))) (ae (aO (ao aW (pv 2) (cV (v:=.int 60) rfl gm ⟨_,rfl⟩) (aE _)) bq aF)
   (ai (ba (dw PySem.F.plainAttrs_list PySem.F.slot_list_append PySem.F.type_list_append cz (pv 1) %[aB i9 hr ⋯ rfl %[3,2|ag]|ag])))))
  (ai (au (bh bi rfl B.tuple bj %[1|ag])))))),?_⟩
 have tl:=DZ g;have r60:=g.1;erw[0,1,0,6]
 by_cases c0:rs=[]
 . subst c0;refine bb (by show V.str (mL [])=V.str "";decide) ?_;erw[zU0 _,λt ht=>?_];exact q t [] _ am RowsAt.nil (zE0 ht _)
 refine aI (λz=>Bn g c0 (Cb z)) ?_;erw[zU0 _,λL hL=>?_];have GL:=zE0 hL (.lst []);have gL:upd H L (.lst []) L=some (.lst []):=am;generalize upd H L (.lst [])=H1 at GL gL;have ts:=rM g c0;erw[0,1,2,⋯,3,by rw[ts,zF0];omega,λa ha=>?_];rw[ts];have Ga:=zE0 ha (.lst ((rs.map Hr.str).map V.str));have ga:upd H1 a (.lst ((rs.map Hr.str).map V.str)) a=some (.lst ((rs.map Hr.str).map V.str)):=am;have aL:a≠L:=λz=>by rw[z,gL]at ha;cases ha
 generalize upd H1 a (.lst ((rs.map Hr.str).map V.str))=H2 at Ga ga;have gL2:=Ga _ _ gL;refine⟨a,rfl,%[_|zH0 ga],Ee (K:=K) (xs:=(rs.map Hr.str).map V.str) (λi σ H'=>∃(x2 x3:Option V)(tv:List V),σ=[some (.str (mL rs)),some (.ref L),x2,x3]/\H' L=some (.lst tv)/\RowsAt H' tv (rs.take i)/\SameBut L H2 H')
  %[_,_,[],1,gL2,RowsAt.nil|SameBut.refl _ _] (λi σ H' _ hst=>by erw[_,_,_,_,_,_,h]at hst;exact zH0 (h _ _ aL ga)) ?_ ?_⟩
 . rintro i z σ H3 t hz ⟨x2,x3,tv,rfl,hL3,R3,S3⟩ ht;have hi:=(zX0 hz).1;rw[zF0,zF0]at hi;rw[zZ0,zZ0,Option.map_map]at hz;let%[r,hr'|1]:=qV0 hz;have Gt:=zE0 ht (.tup [.int (i:Int),.str r.str]);have hL4:=Gt _ _ hL3;have vl:=R3.1;rw[qK0]at vl;erw[t,0,zB0 am,1,_,0,2,6];erw[0,1,0,6];refine aI (λz=>by have:=V.int.inj z;omega) ?_;erw[0,.inl %[1,_|zH0 hL4],0,0,r,0,g.2 r (qH0 hr'),λv H4 ra S4=>?_];have S34:Same H3 H4:=Gt.trans S4;have hL5:=S34 _ _ hL3;have kp:cg H4 (upd H4 L (.lst (tv++[v]))):=DO hL5;erw[L,2,hL5,aS #[0],6];erw[_,_,tv++[v],1,am,6,6]
   . rw[qI0,hr'];exact((R3.mono (aZ S34)).mono kp).snoc (ra.mono kp)
   . exact S3.trans ((zK0 S34).trans (SameBut.upd _))
 . rintro σ H3 ⟨x2,x3,tv,rfl,hL3,R3,S3⟩;rw[zF0,zF0,qF0]at R3;erw[0,L,0,.inl %[zH0 hL3|λt ht=>?_]];have S03:Same H H3:=λb o e=>S3 b o (aQ e hL) (Ga _ _ (GL _ _ e))
   exact q t tv _ am (R3.mono (aZ (zE0 ht _))) (S03.trans (zE0 ht _))
section
theorem BP(k:AkOk z)(nd:z.ns.Nodup)(i:Int)(h:0<z.nr):fO z i=df z.ns z.ts z.s z.p (z.to++[i]):=by
 let%[x,hx,ex,d0,d1|d4]:=k.deg h;unfold fO;rw[zC0 h];have e:z.tru=fb z.ns z.ts z.s z.p z.to (bN z.ts x+1).toNat:=by
  unfold Ak.tru;rw[zA0 #[0],ex]
 have t0:z.ts≠[]:=λe=>by have:=k.gk.t1;rw[e]at this;cases this
 rw[e];exact yR (vG k.gk.pr (by have:=k.gk.p9;omega)) hx nd (λt ht=>(k.gk.tok t ht).1) t0 d1 i
theorem BQ{z:Ak}(h:z.nr=0)(i:Nat){t:Tr}(ht:z.ts[i]?=some t):fO z (i:Int)=(cnt t z.ns:Int) % z.p:=by
 have hl:=(zX0 ht).1;unfold fO;have e:z.tru=z.ts.map (λt=>(cnt t z.ns:Int)):=by
  unfold Ak.tru;rw[zC0 h]
 rw[zA0 #[0],e,zF0,zC0 #[0],qS0,qL0,zZ0,ht];rfl
end
theorem FV{ns:List Str}{p:Int}(hp:1<p){t:Tr}(ok:t.ok ns):(cnt t ns:Int)=((cF ns.length).map λst=>t.worth ns st p).sum:=by
 unfold cnt;have h:∀st∈cF ns.length,t.worth ns st p=if t.holds ns st then 1 else 0:=λst hst=>iz hp (lS _ _ hst) (nK _ _ hst) t ok
 generalize cF ns.length=l at h
 induction l with
 | nil=>rfl
 | cons a l ih=>
   have ih:=ih λst hst=>h st (qJ0 _ hst)
   rw[zY0,List.sum_cons,←ih,h a qB0,List.filter_cons];cases t.holds ns a
   . simp
   . simp only[if_true,zO0];omega
theorem yr{ns:List Str}{ts:List Tr}{p:Int}(hp:1<p)(ok:∀t∈ts,t.ok ns):hor s p (ts.map λt=>(cnt t ns:Int))=df ns ts s p []:=by
 rw[mK];unfold df;have e:(ts.map λt=>(cnt t ns:Int))=ts.map λt=>((cF ns.length).map λst=>t.worth ns st p).sum:=List.map_congr_left λt ht=>FV hp (ok t ht)
 rw[e,qV s (λt st=>t.worth ns st p)];rfl
theorem zz(s p:Int):∀xs:List Int,hor s p (xs.map (· % p))=hor s p xs
 | []=>rfl
 | a::r=>by
   show(hor s p (r.map (· % p))*s+a % p) % p=(hor s p r*s+a) % p;rw[zz s p r,Int.add_emod_emod]
section
variable {ns:List Str} {ts:List Tr} {p:Int} {t:Tk} {rows:List Hr}
theorem vY(k:GmK ns ts p)(s:Int):hor s p (ts.map λu=>(cnt u ns:Int) % p)=df ns ts s p []:=by
 have p2:=k.p2;rw[←yr (s:=s) (p:=p) #[0] (λu hu=>(k.tok u hu).1),←zz s p (ts.map λt=>(cnt t ns:Int)),List.map_map];rfl
theorem wz (z:Db) (tl:z.to.length<=ns.length) (e:z.ed=df ns ts z.s p z.to):((goOn ns ts p z).aw.1="hear" -> (goOn ns ts p z).ed=df ns ts (goOn ns ts p z).s p (goOn ns ts p z).to)/\(¬ (goOn ns ts p z).aw.1="hear" -> (goOn ns ts p z).aw=(("believed":Str),none)):=by
 unfold goOn
 by_cases c:z.to.length<ns.length
 . rw[zC0 c];erw[λ_=>e,λh=>absurd rfl h]
 . rw [zA0 c];unfold eA;have e2:z.ed=hor z.s p (ts.map λt=>t.worth ns z.to p):=by rw[e,Ff #[0]]
   rw[zC0 e2];erw[λh=>absurd h Gz,λ_=>rfl]
structure Tru(ns:List Str)(ts:List Tr)(p:Int)(t:Tk):Prop where
 he:t.z.aw.1="hear" -> t.z.ed=df ns ts t.z.s p t.z.to
 co:t.z.aw.1="coin" -> t.z.he≠[]->t.z.he=fb ns ts t.z.s p t.z.to (bN ts (ns.getD t.z.to.length "")+1).toNat
 cm:t.z.aw.1="coin" -> t.z.he=[]->t.z.cl=ts.map (λu=>(cnt u ns:Int) % p)/\t.z.to=[]
 en:¬ t.z.aw.1="hear" -> ¬ t.z.aw.1="coin" -> t.z.aw=(("believed":Str),none)
structure Hon(ns:List Str)(ts:List Tr)(p:Int)(rows:List Hr):Prop where
 cl:(Tk.new ts).said ns ts p rows=ts.map (λu=>(cnt u ns:Int) % p)
 ro:∀t,TkOk ns ts p t->t.z.aw.1="hear" -> t.said ns ts p rows=fb ns ts t.z.s p t.z.to (awN t.z).toNat
theorem qg (k:GmK ns ts p) (nd:ns.Nodup) {cs:List Int}  (tl:cs.length<ns.length) (r:Int):val p (fb ns ts s p cs (bN ts (ns.getD cs.length "")+1).toNat) r=df ns ts s p (cs++[r]):=by
 have hy:ns[cs.length]?=some (ns.getD cs.length ""):=by
  rw[qL0,zM0 tl];rfl
 have hx:ns.getD cs.length ""∈ns:=qH0 hy;have t0:ts≠[]:=λe=>by have:=k.t1;rw[e]at this;cases this
 exact yR (vG k.pr (by have:=k.p9;omega)) hy nd (λu hu=>(k.tok u hu).1) t0 (k.deg _ hx).2 r
theorem Tru.ask (k:GmK ns ts p) (n6:ns.length<=6) (nd:ns.Nodup) (hn:Hon ns ts p rows) (h:TkOk ns ts p t) (d:Tru ns ts p t) (hw:t.z.aw.1="hear"):Tru ns ts p (t.ask ns ts p rows)/\(t.ask ns ts p rows).z.aw=(("coin":Str),none):=by
 let%[_,_,_,tl,aw|ea]:=h.ak k n6 hw;have x0:=h.gd.hear_ne k (h.hear (rows:=rows) k n6 hw);have e:(t.ask ns ts p rows).z=dI p (t.said ns ts p rows) { t.z with pl:=t.z.pl+((t.said ns ts p rows).length:Int) }:=zA0 h.cl;have es:t.said ns ts p rows=fb ns ts t.z.s p t.z.to (bN ts (ns.getD t.z.to.length "")+1).toNat:=by rw[hn.ro t h hw,ea]
 have ac:(t.ask ns ts p rows).z.aw=(("coin":Str),none):=by
  rw[e];unfold dI;rw[zC0];show(val p (t.said ns ts p rows) 0+val p (t.said ns ts p rows) 1) % p=t.z.ed;rw[es,qg k nd tl,qg k nd tl,At tl,d.he hw]
 erw[%[λz=>?_,λ_ _=>?_,λ_ z=>?_|λ_ z=>?_],ac]
 . rw[ac]at z;exact absurd z iG
 . rw[e];exact es
 . rw[e]at z;exact absurd z x0
 . rw[ac]at z;exact absurd rfl z
theorem Tru.toss (k:GmK ns ts p) (nd:ns.Nodup) (h:TkOk ns ts p t) (d:Tru ns ts p t) (hw:t.z.aw.1="coin") (r:Int):Tru ns ts p (t.toss ns ts p r):=by
 have fin:∀z:Db,z.to.length<=ns.length->z.ed=df ns ts z.s p z.to->(t.toss ns ts p r).z=goOn ns ts p z->Tru ns ts p (t.toss ns ts p r):=λz tl e ez=>by
  let%[f1|f2]:=wz (ns:=ns) (ts:=ts) (p:=p) z tl e;have no:=jE (ns:=ns) (ts:=ts) (p:=p) z;rw[←ez]at f1 f2 no;erw[f1,λz=>absurd z no,λz=>absurd z no,λz _=>f2 z]
 by_cases c:t.z.he=[]
 . let%[ec|et]:=d.cm hw c;refine fin { t.z with pl:=t.z.pl+1,s:=r,ed:=hor r p t.z.cl } h.gd.tl ?_ (zC0 c);show hor r p t.z.cl=df ns ts r p t.z.to;rw[ec,et,vY k]
 . have tl:=((h.gd.co hw).2 c).2;refine fin { t.z with pl:=t.z.pl+1,ed:=val p t.z.he r,to:=t.z.to++[r] } (by show(t.z.to++[r]).length<=_;rw[zJ0,qG0];omega) ?_ (zA0 c);show val p t.z.he r=df ns ts t.z.s p (t.z.to++[r]);rw[d.co hw c,qg k nd tl]
theorem kq (k:GmK ns ts p) (n6:ns.length<=6) (nd:ns.Nodup) (hn:Hon ns ts p rows):∀(n:Nat) (t:Tk) (cs:List Int),TkOk ns ts p t->Tru ns ts p t->cj cs p->bZ ns t.z<=n->(cU ns ts p rows cs n t).2.z.aw=(("believed":Str),none)
 | 0,t,cs,h,d,hc,hs=>d.en (λz=>by have:=(eD h (.inl z)).1;omega) (λz=>by have:=(eD h (.inr z)).1;omega)
 | n+1,t,cs,h,d,hc,hs=>by
   have p2:=k.p2
   by_cases ch:t.z.aw.1="hear"
   . rw[fe ch];let%[o,s|_]:=h.ask (rows:=rows) k n6 ch;exact kq k n6 nd hn n _ cs o (d.ask k n6 nd hn h ch).1 hc #[0]
   . by_cases cc:t.z.aw.1="coin"
     . rw[ei cc];let%[r0|r1]:=oF hc #[0];let%[o,s|_]:=h.toss k cc r0 r1;exact kq k n6 nd hn n _ cs.tail o (d.toss k nd h cc _) (tO hc) #[0]
     . rw[dQ ch cc];exact d.en ch cc
theorem Tru.new(k:GmK ns ts p)(hn:Hon ns ts p rows):Tru ns ts p ((Tk.new ts).ask ns ts p rows):=by
 have e0:cX ns ts p ((Tk.new ts).said ns ts p rows) (Db.new ts)=jL ns ts p ((Tk.new ts).said ns ts p rows) { Db.new ts with pl:=(Db.new ts).pl+(((Tk.new ts).said ns ts p rows).length:Int) }:=zC0 rfl
 by_cases c:ts.length=1
 . have e:((Tk.new ts).ask ns ts p rows).z=goOn ns ts p { Db.new ts with pl:=(Db.new ts).pl+(((Tk.new ts).said ns ts p rows).length:Int),cl:=(Tk.new ts).said ns ts p rows,s:=0,ed:=hor 0 p ((Tk.new ts).said ns ts p rows) }:=e0.trans (zC0 c);let%[f1|f2]:=wz (ns:=ns) (ts:=ts) (p:=p) { Db.new ts with pl:=(Db.new ts).pl+(((Tk.new ts).said ns ts p rows).length:Int),cl:=(Tk.new ts).said ns ts p rows,s:=0,ed:=hor 0 p ((Tk.new ts).said ns ts p rows) } (zU0 _) (by
    show hor 0 p ((Tk.new ts).said ns ts p rows)=df ns ts 0 p [];rw[hn.cl,vY k])
   have no:=jE (ns:=ns) (ts:=ts) (p:=p) { Db.new ts with pl:=(Db.new ts).pl+(((Tk.new ts).said ns ts p rows).length:Int),cl:=(Tk.new ts).said ns ts p rows,s:=0,ed:=hor 0 p ((Tk.new ts).said ns ts p rows) };rw[←e]at f1 f2 no;erw[f1,λz=>absurd z no,λz=>absurd z no,λz _=>f2 z]
 . have ez:((Tk.new ts).ask ns ts p rows).z={ Db.new ts with pl:=(Db.new ts).pl+(((Tk.new ts).said ns ts p rows).length:Int),cl:=(Tk.new ts).said ns ts p rows,aw:=("coin",none) }:=e0.trans (zA0 c);erw[λz=>?_,λ_ z=>?_,λ_ _=>?_,λ_ z=>?_]
   . rw[ez]at z;exact absurd z iG
   . rw[ez]at z;exact absurd rfl z
   . rw[ez];erw[hn.cl,1]
   . rw[ez]at z;exact absurd rfl z
theorem rJ (k:GmK ns ts p) (n6:ns.length<=6) (nd:ns.Nodup) (hn:Hon ns ts p rows)  (hc:cj c p):(lg ns ts p rows c).2.z.aw=(("believed":Str),none):=by
 let%[o,st|_]:=kO (rows:=rows) k n6;exact kq k n6 nd hn 20 _ c o (Tru.new k hn) hc #[0]
theorem va(k:GmK ns ts p)(n6:ns.length<=6)(nd:ns.Nodup)(hn:Hon ns ts p rows):gl ns ts p rows (bJ ns ts) 8 (Tk.new ts) []=(p ^ bJ ns ts,none):=by
 have p2:=k.p2;have ep:(p.toNat:Int)=p:=by omega
 have e1:∀c∈iy p.toNat (bJ ns ts),decide ((lg ns ts p rows c).2.z.aw.1="believed")=true:=λc hc=>by
  let%[_|co]:=nv _ _ hc;rw[ep]at co;rw[rJ k n6 nd hn co];exact decide_eq_true rfl
 rw[zQ k n6,jv (b':=λ_=>true) e1];unfold jw;have e2:(iy p.toNat (bJ ns ts)).filter (λ_=>true)=iy p.toNat (bJ ns ts):=List.filter_eq_self.mpr λ_ _=>rfl
 have e3:(iy p.toNat (bJ ns ts)).filter (λc=>!((λ_=>true) c))=[]:=List.filter_eq_nil_iff.mpr λ_ _=>by simp
 rw[e2,e3,wR,Int.natCast_pow,ep];rfl
def oI(ns:List Str)(ts:List Tr)(p s:Int):List Int->List Int->List TR
 | _,[]=>[]
 | pre,r::cs=>.say (fb ns ts s p pre (bN ts (ns.getD pre.length "")+1).toNat)::.coin r::oI ns ts p s (pre++[r]) cs
theorem tj (s r:Int):∀(cs pre:List Int),oI ns ts p s pre (cs++[r])=oI ns ts p s pre cs++[.say (fb ns ts s p (pre++cs) (bN ts (ns.getD (pre++cs).length "")+1).toNat),.coin r]
 | [],pre=>by rw[List.append_nil];rfl
 | c::cs,pre=>by
   show _::_::oI ns ts p s (pre++[c]) (cs++[r])=_;rw[tj s r cs (pre++[c]),List.append_assoc];rfl
theorem rK (k:GmK ns ts p) (n6:ns.length<=6) (nd:ns.Nodup) (hn:Hon ns ts p rows):∀(cs:List Int) (n:Nat) (t:Tk),TkOk ns ts p t->Tru ns ts p t->cj cs p->¬ t.z.aw.1="coin" -> (cs≠[]->t.z.aw.1="hear")->t.z.to.length+cs.length=ns.length->2*cs.length<=n->(cU ns ts p rows cs n t).1=oI ns ts p t.z.s t.z.to cs
 | [],n,t,h,d,hc,nc,hh,hl,hf=>by
   have nh:¬ t.z.aw.1="hear":=λz=>by
    have:=(h.ak k n6 z).2.2.2.1
    rw[List.length_nil]at hl;omega
   rw[dQ nh nc];rfl
 | r::cs,n,t,h,d,hc,nc,hh,hl,hf=>by
   rw[zO0]at hl hf;obtain⟨n,rfl⟩:∃m,n=m+2:=%[n-2|3]
   have ch:=hh (by simp);let%[_,_,_,tl,_|ea]:=h.ak k n6 ch;let%[o1,_,_|_]:=h.ask (rows:=rows) k n6 ch;let%[d1|ac]:=d.ask k n6 nd hn h ch;have x0:=h.gd.hear_ne k (h.hear (rows:=rows) k n6 ch);have ez:(t.ask ns ts p rows).z=dI p (t.said ns ts p rows) { t.z with pl:=t.z.pl+((t.said ns ts p rows).length:Int) }:=zA0 h.cl;have cc:(t.ask ns ts p rows).z.aw.1="coin":=by rw[ac]
   have he:(t.ask ns ts p rows).z.he≠[]:=by rw[ez];exact x0
   let%[r0|r1]:=hc r qB0;let%[o2,_,_,nc2,_|t2]:=o1.toss k cc r0 r1;let%[es2|et2]:=t2 he;have es:(t.ask ns ts p rows).z.s=t.z.s:=by rw[ez];rfl
   have et:(t.ask ns ts p rows).z.to=t.z.to:=by rw[ez];rfl
   rw[es]at es2;rw[et]at et2;rw[fe ch,ei cc];show TR.say _::TR.coin r::(cU ns ts p rows cs n ((t.ask ns ts p rows).toss ns ts p r)).1=_;rw[rK k n6 nd hn cs n _ o2 (d1.toss k nd o1 cc r) (λx hx=>hc x (qJ0 _ hx)) nc2 (λhne=>?_) (by rw[et2,zJ0,qG0];omega) #[0],es2,et2,hn.ro t h ch,ea]
   . rfl
   . have e3:((t.ask ns ts p rows).toss ns ts p r).z=goOn ns ts p { (t.ask ns ts p rows).z with pl:=(t.ask ns ts p rows).z.pl+1,ed:=val p (t.ask ns ts p rows).z.he r,to:=(t.ask ns ts p rows).z.to++[r] }:=zA0 he;have hlt:((t.ask ns ts p rows).z.to++[r]).length<ns.length:=by
      have:cs.length≠0:=λz=>hne (List.length_eq_zero_iff.mp z)
      rw[et,zJ0,qG0];omega
     rw[e3];unfold goOn;rw[zC0 hlt]
theorem DX(k:GmK ns ts p)(n6:ns.length<=6)(nd:ns.Nodup)(hn:Hon ns ts p rows)(hc:cj cs p)(hl:cs.length=bJ ns ts):(lg ns ts p rows cs).1=.claims (ts.map λu=>(cnt u ns:Int) % p)::(if ts.length=1 then oI ns ts p 0 [] cs else .coin (cs.headD 0)::oI ns ts p (cs.headD 0) [] cs.tail):=by
 have p2:=k.p2;let%[o,_,_|_]:=kO (rows:=rows) k n6;have d:=Tru.new k hn;have e0:cX ns ts p ((Tk.new ts).said ns ts p rows) (Db.new ts)=jL ns ts p ((Tk.new ts).said ns ts p rows) { Db.new ts with pl:=(Db.new ts).pl+(((Tk.new ts).said ns ts p rows).length:Int) }:=zC0 rfl;show TR.claims ((Tk.new ts).said ns ts p rows)::(cU ns ts p rows cs 20 ((Tk.new ts).ask ns ts p rows)).1=_;rw[hn.cl]
 congr 1
 unfold bJ at hl
 by_cases c:ts.length=1
 . rw [zC0 c]at hl ⊢;have e:((Tk.new ts).ask ns ts p rows).z=goOn ns ts p { Db.new ts with pl:=(Db.new ts).pl+(((Tk.new ts).said ns ts p rows).length:Int),cl:=(Tk.new ts).said ns ts p rows,s:=0,ed:=hor 0 p ((Tk.new ts).said ns ts p rows) }:=e0.trans (zC0 c);have lw:=rN (ns:=ns) (ts:=ts) (p:=p) { Db.new ts with pl:=(Db.new ts).pl+(((Tk.new ts).said ns ts p rows).length:Int),cl:=(Tk.new ts).said ns ts p rows,s:=0,ed:=hor 0 p ((Tk.new ts).said ns ts p rows) };have no:=jE (ns:=ns) (ts:=ts) (p:=p) { Db.new ts with pl:=(Db.new ts).pl+(((Tk.new ts).said ns ts p rows).length:Int),cl:=(Tk.new ts).said ns ts p rows,s:=0,ed:=hor 0 p ((Tk.new ts).said ns ts p rows) };rw[←e]at lw no;have es:((Tk.new ts).ask ns ts p rows).z.s=0:=lw.1;have et:((Tk.new ts).ask ns ts p rows).z.to=[]:=lw.2.1;rw[rK k n6 nd hn cs 20 _ o d hc no (λhne=>?_) (by rw[et,List.length_nil];omega) #[0],es,et];rw[e];unfold goOn;rw[zC0];show(0:Nat)<ns.length
   have:cs.length≠0:=λz=>hne (List.length_eq_zero_iff.mp z)
   omega
 . rw [zA0 c]at hl ⊢;have ez:((Tk.new ts).ask ns ts p rows).z={ Db.new ts with pl:=(Db.new ts).pl+(((Tk.new ts).said ns ts p rows).length:Int),cl:=(Tk.new ts).said ns ts p rows,aw:=("coin",none) }:=e0.trans (zA0 c);have cc:((Tk.new ts).ask ns ts p rows).z.aw.1="coin":=by rw[ez]
   have he:((Tk.new ts).ask ns ts p rows).z.he=[]:=by rw[ez];rfl
   let%[r0|r1]:=oF hc #[0];let%[o2,_,_,nc2,t1|_]:=o.toss k cc r0 r1;let%[es|et]:=t1 he;rw[show(20:Nat)=19+1 from rfl,ei cc];show TR.coin _::(cU ns ts p rows cs.tail 19 (((Tk.new ts).ask ns ts p rows).toss ns ts p (cs.headD 0))).1=_;have tl:cs.tail.length=ns.length:=by rw[List.length_tail];omega
   rw[rK k n6 nd hn cs.tail 19 _ o2 (d.toss k nd o cc _) (tO hc) nc2 (λhne=>?_) (by rw[et,List.length_nil];omega) #[0],es,et];have e3:(((Tk.new ts).ask ns ts p rows).toss ns ts p (cs.headD 0)).z=goOn ns ts p { ((Tk.new ts).ask ns ts p rows).z with pl:=((Tk.new ts).ask ns ts p rows).z.pl+1,s:=cs.headD 0,ed:=hor (cs.headD 0) p ((Tk.new ts).ask ns ts p rows).z.cl }:=zC0 he;rw[e3];unfold goOn;rw[zC0];rw[ez];show(0:Nat)<ns.length
   have:cs.tail.length≠0:=λz=>hne (List.length_eq_zero_iff.mp z)
   omega
end
section
variable {ns:List Str} {ts:List Tr} {p:Int} {t:Tk} {rows:List Hr}
def du(z:Ak)(n:Nat):List Int:=(List.range n).map λk:Nat=>fO z ((k:Int) % z.p)
theorem iN(z:Ak)(n:Nat):(du z n).length=n:=by unfold du;rw[zF0,qR0]
theorem xc(z:Ak)(n:Nat):du z (n+1)=du z n++[fO z ((n:Int) % z.p)]:=by
 unfold du;rw[List.range_succ,zL0];rfl
theorem qY(z:Ak){n:Nat}(h:z.mn=(n:Int)):qZ z.mn (du z n)=du z n:=by
 unfold qZ;rw[iN,h,Int.sub_self];exact List.append_nil _
theorem zW (k:GmK ns ts p) (n6:ns.length<=6) (nd:ns.Nodup) (h:TkOk ns ts p t) (hw:t.z.aw.1="hear"):du (t.ak ns ts p) (awN t.z).toNat=fb ns ts t.z.s p t.z.to (awN t.z).toNat:=by
 let%[ok,a0,a5,tl,aw|ea]:=h.ak k n6 hw;have nr:=h.nr;have hx:ns.getD t.z.to.length ""∈ns:=by
  rw[qL0,zM0 tl];exact qP0 tl
 have dp:=(k.deg _ hx).2;unfold du fb;refine List.map_congr_left λj hj=>?_
 have hj:=List.mem_range.mp hj;have e:(j:Int) % (t.ak ns ts p).p=(j:Int):=qT0 #[0] (by show(j:Int)<p;omega);rw[e];exact BP ok nd (j:Int) (by show 0<t.nr;omega)
theorem zX(k:GmK ns ts p):du ((Tk.new ts).ak ns ts p) ts.length=ts.map λu=>(cnt u ns:Int) % p:=by
 have tp:=k.tp;refine List.ext_getElem? λj=>?_
 unfold du;rw[zZ0,zZ0]
 by_cases c:j<ts.length
 . rw[List.getElem?_range c,zM0 c];show some (fO ((Tk.new ts).ak ns ts p) ((j:Int) % ((Tk.new ts).ak ns ts p).p))=_;have e:(j:Int) % ((Tk.new ts).ak ns ts p).p=(j:Int):=qT0 #[0] (by show(j:Int)<p;omega);rw[e,BQ (z:=(Tk.new ts).ak ns ts p) rfl j (zM0 c)];rfl
 . rw[List.getElem?_eq_none (by rw[qR0];omega),List.getElem?_eq_none #[0]];rfl
theorem Hon.of(k:GmK ns ts p)(n6:ns.length<=6)(nd:ns.Nodup)(h:∀(z:Ak) (bx:Str->Int) (n:Nat),z.p=p->z.mn=(n:Int)->1<=n->(n=ts.length∨∃x∈ns,(n:Int)=bN ts x+1)->(lG z rows 200 %[(0),bx|[]]).sd=du z n):Hon ns ts p rows:=by
 erw[6,λt ht hw=>?_]
 . have e:=h ((Tk.new ts).ak ns ts p) (Tk.new ts).bx ts.length rfl rfl k.t1 (.inl rfl);unfold Tk.said Tk.run;rw[e];exact(qY ((Tk.new ts).ak ns ts p) rfl).trans (zX k)
 . let%[ok,a0,a5,tl,aw|ea]:=ht.ak k n6 hw;have hx:ns.getD t.z.to.length ""∈ns:=by
    rw[qL0,zM0 tl];exact qP0 tl
   have d0:=(mQ k (ns.getD t.z.to.length "")).1;have en:awN t.z=((awN t.z).toNat:Int):=by omega
   have e:=h (t.ak ns ts p) t.bx (awN t.z).toNat rfl en #[0] (.inr %[_,hx|3]);unfold Tk.said Tk.run;rw[e];exact(qY (t.ak ns ts p) en).trans (zW k n6 nd ht hw)
theorem ne_tc:¬ (("true":Str)="coin"):=by decide
def hB (x:Str):List Hr:=[.set x (.num 0),.say (.ask "true" (.box x)),.set x (.op "+" (.box x) (.num 1)),.go 1]
theorem uz{z:Ak}{rows:List Hr}{n:Nat}{s:MS}(h1:s.pl<(rows.length:Int))(h2:(s.sd.length:Int)<z.mn):lG z rows (n+1) s=lG z rows n (eF z rows s):=zC0 %[h1|h2]
theorem zj{z:Ak}{rows:List Hr}{s:MS}(h:¬ (s.pl<(rows.length:Int)/\(s.sd.length:Int)<z.mn)):∀n,lG z rows n s=s
 | 0=>rfl
 | n+1=>zA0 h
theorem runB{z:Ak}{x:Str}(p0:0<z.p):∀(m j fuel:Nat)(bx:Str->Int),z.mn=((j+m:Nat):Int)->3*m<=fuel->bx x=(j:Int) % z.p->(lG z (hB x) fuel %[(1),bx|du z j]).sd=du z (j+m)
 | 0,j,fuel,bx,hm,hf,hb=>by
   rw[zj (λc=>absurd c.2 (by show ¬ ((du z j).length:Int)<z.mn;rw[iN,hm];omega))];rfl
 | m+1,j,fuel,bx,hm,hf,hb=>by
   obtain⟨fu,rfl⟩:∃fu,fuel=fu+3:=%[fuel-3|3]
   have e1:eF z (hB x) %[(1),bx|du z j]=⟨2,bx,du z (j+1)⟩:=by
    show(%[1+1,bx|du z j++[if("true":Str)="coin" then kx z (bx x)else fO z (bx x)]]:MS)=_;rw[zA0 ne_tc,hb,xc];rfl
   rw[uz (by show(1:Int)<4;decide) (by show((du z j).length:Int)<z.mn;rw[iN,hm];omega),e1];cases m with
   | zero=>
     rw[zj (λc=>absurd c.2 (by show ¬ ((du z (j+1)).length:Int)<z.mn;rw[iN,hm];omega))]
   | succ m=>
     have hl:((du z (j+1)).length:Int)<z.mn:=by rw[iN,hm];omega
     have e2:eF z (hB x) %[(2),bx|du z (j+1)]=⟨3,jN bx x (opV z.p "+" (bx x) (1 % z.p)),du z (j+1)⟩:=rfl;have e3:eF z (hB x) ⟨3,jN bx x (opV z.p "+" (bx x) (1 % z.p)),du z (j+1)⟩=⟨1,jN bx x (opV z.p "+" (bx x) (1 % z.p)),du z (j+1)⟩:=rfl;rw[uz (by show(2:Int)<4;decide) hl,e2,uz (by show(3:Int)<4;decide) hl,e3];have hb2:jN bx x (opV z.p "+" (bx x) (1 % z.p)) x=((j+1:Nat):Int) % z.p:=by
      unfold jN;rw[zC0 rfl];show(bx x+1 % z.p) % z.p=_;rw[hb,Int.emod_add_emod,Int.add_emod_emod];rfl
     have:=runB p0 (m+1) (j+1) fu _ (by rw[hm];omega) #[0] hb2
     rw[this]
     congr 1
     omega
theorem hon_B(k:GmK ns ts p)(n6:ns.length<=6)(nd:ns.Nodup)(d60:∀y∈ns,bN ts y<=60):Hon ns ts p (hB x):=Hon.of k n6 nd λz bx n zp hn n1 h=>by
 have p2:=k.p2;have t10:=k.t10;have n66:n<=66:=by
  rcases h with h | ⟨y,hy,h⟩
  . omega
  . have:=d60 y hy
    omega
 have e1:eF z (hB x) %[(0),bx|[]]=⟨1,jN bx x (0 % z.p),du z 0⟩:=rfl;rw[uz (by show(0:Int)<4;decide) (by rw[hn];show(0:Int)<(n:Int);omega),e1,runB #[0] n 0 199 _ (by rw[hn,Nat.zero_add]) #[0] (by unfold jN;rw[zC0 rfl];rfl),Nat.zero_add]
end
section
inductive Lk(H:Hp):Nat->V->V->Prop
 | str {n:Nat} (x:Str):Lk H n (.str x) (.str x)
 | int {n:Nat} (i:Int):Lk H n (.int i) (.int i)
 | tup {n:Nat} {a b:Addr} {xs ys:List V}:H a=some (.tup xs)->H b=some (.tup ys)->xs.length=ys.length->xs.length<=100->(∀(i:Nat)(x y:V),xs[i]?=some x->ys[i]?=some y->Lk H n x y)->Lk H (n+1) (.ref a) (.ref b)
theorem Lk.mono(k:cg H H')(h:Lk H n v u):Lk H' n v u:=by
 induction h with
 | str x=>exact .str x
 | int i=>exact .int i
 | tup e1 e2 l s _ ih=>exact .tup (k _ _ e1) (k _ _ e2) l s ih
theorem pwn{R:V->V->Prop}:∀(i:Nat)(a b:V),([]:List V)[i]?=some a->([]:List V)[i]?=some b->R a b:=λi a b h=>by simp at h
theorem pwc{R:V->V->Prop}{x y:V}{xs ys:List V}(h:R x y)(t:∀(i:Nat) (a b:V),xs[i]?=some a->ys[i]?=some b->R a b):∀(i:Nat)(a b:V),(x::xs)[i]?=some a->(y::ys)[i]?=some b->R a b
 | 0,a,b,h1,h2=>by cases h1;cases h2;exact h
 | i+1,a,b,h1,h2=>t i a b h1 h2
theorem sT:∀(t:Tm)(v u:V)(n:Nat),TmAt H v t->TmAt H u t->t.depth<=n->Lk H n v u
 | .num _,_,_,0,_,_,d=>by cases d
 | .box _,_,_,0,_,_,d=>by cases d
 | .plain _,_,_,0,_,_,d=>by cases d
 | .ask _ _,_,_,0,_,_,d=>by cases d
 | .op _ _ _,_,_,0,_,_,d=>by cases d
 | .num _,_,_,n+1,h1,h2,_=>by
   cases h1 with | num e1=>cases h2 with | num e2=>exact .tup e1 e2 rfl (by simp) (pwc (.str _) (pwc (.int _) pwn))
 | .box _,_,_,n+1,h1,h2,_=>by
   cases h1 with | box e1=>cases h2 with | box e2=>exact .tup e1 e2 rfl (by simp) (pwc (.str _) (pwc (.str _) pwn))
 | .plain _,_,_,n+1,h1,h2,_=>by
   cases h1 with | plain e1=>cases h2 with | plain e2=>exact .tup e1 e2 rfl (by simp) (pwc (.str _) pwn)
 | .ask _ t,_,_,n+1,h1,h2,d=>by
   cases h1 with | ask e1 a1=>cases h2 with | ask e2 a2=>exact .tup e1 e2 rfl (by simp) (pwc (.str _) (pwc (sT t _ _ n a1 a2 (Nat.le_of_succ_le_succ d)) pwn))
 | .op _ t r,_,_,n+1,h1,h2,d=>by
   have dd:t.depth<=n/\r.depth<=n:=by
    have:max t.depth r.depth+1<=n+1:=d
    omega
   cases h1 with | op e1 a1 b1=>cases h2 with | op e2 a2 b2=>exact .tup e1 e2 rfl (by simp) (pwc (.str _) (pwc (.str _) (pwc (sT t _ _ n a1 a2 dd.1) (pwc (sT r _ _ n b1 b2 dd.2) pwn))))
theorem lk_hr(h1:HrAt H v r)(h2:HrAt H u r)(ok:r.ok 20):Lk H 9 v u:=by
 cases h1 with
 | fin e1=>cases h2 with | fin e2=>exact .tup e1 e2 rfl (by simp) (pwc (.str _) pwn)
 | go e1=>cases h2 with | go e2=>exact .tup e1 e2 rfl (by simp) (pwc (.str _) (pwc (.int _) pwn))
 | iff e1 t1=>cases h2 with | iff e2 t2=>exact .tup e1 e2 rfl (by simp) (pwc (.str _) (pwc (sT _ _ _ _ t1 t2 ok.1.2.2) (pwc (.int _) pwn)))
 | set e1 t1=>cases h2 with | set e2 t2=>exact .tup e1 e2 rfl (by simp) (pwc (.str _) (pwc (.str _) (pwc (sT _ _ _ _ t1 t2 ok.2.2.2) pwn)))
 | say e1 t1=>cases h2 with | say e2 t2=>exact .tup e1 e2 rfl (by simp) (pwc (.str _) (pwc (sT _ _ _ _ t1 t2 ok.2.2) pwn))
theorem FJ{H:Hp}{a b:Addr}{xs ys:List V}(ha:H a=some (.tup xs))(hb:H b=some (.tup ys))(R1:RowsAt H xs rs)(R2:RowsAt H ys rs)(g:nI rs):Lk H 10 (.ref a) (.ref b):=by
 have l60:=g.1;refine .tup ha hb (R1.1.trans R2.1.symm) (by rw[R1.1];omega) λi x y hx hy=>?_
 have hi:i<rs.length:=by rw[←R1.1];exact(zX0 hx).1
 have hr:=zM0 hi;exact lk_hr (R1.2 i x _ hx hr) (R2.2 i y _ hy hr) (g.2 _ (qP0 hi))
inductive spAl(n:Nat)(vs:List V)(H:Hp)(Q:VK)(u_3:XK):Prop
 |mk:∀(v u:V)(m:Nat),vs=[v,u]->n=m+1->Lk H m v u->(∀H',Same H H'->Q (.bl true) H')->spAl n vs H Q u_3
theorem wQ:∀n:Nat,(List.replicate n true).all id=true
 | 0=>rfl
 | n+1=>by rw[List.replicate_succ,List.all_cons,wQ n];rfl
theorem wn (K:W.Frag):W.kitOne K (.type "int") (.type "tuple")=some false:=by
 unfold W.kitOne;rfl
theorem wk (K:W.Frag):W.kitOne K (.type "str") (.type "tuple")=some false:=by
 unfold W.kitOne;rfl
theorem uW (K:W.Frag):W.kitOne K (.type "str") (.type "bool")=some false:=by
 unfold W.kitOne;rfl
theorem ph (K:W.Frag):W.kitOne K (.type "int") (.type "str")=some false:=by
 unfold W.kitOne;rfl
theorem xB:FnScope ["_law_found","_law_due"] ["_law_found","_law_due"] (aq kI):=%[1,1,1,4,1,4|4]
theorem FZ {n:Nat}   (F:Fun K "_law_alike" "_law_alike" kI f fd) (B:Bl mg) (iQ:Cal P w K mg base (n+1) "_law_alike" ["_law_found","_law_due"] (spAl n)):FnOk P w K mg base CX0 (n+2) f fd ["_law_found","_law_due"] (spAl (n+1)):=by
 exists xB
 erw[v,u,m,1,hm,al,q]at h;refine⟨_,(ae (aO (dY (aM dy rfl B.isinstance PyProof.Rows.boot_isinstance %[1,iE (v:=V.ty "tuple") rfl B.tuple bj rfl|ag])) (ae (aO (PW.pt (ig (gA (dY (aM dy rfl B.isinstance PyProof.Rows.boot_isinstance %[0,iE (v:=V.ty "tuple") rfl B.tuple bj rfl|ag]))) (gy (ao mq (aM aN rfl B.len PySem.boot_len %[0|ag]) (aM aN rfl B.len PySem.boot_len %[1|ag]) (aE _))))) (ai (au eN)) aF)
  (ai (au (aM (nq rfl) rfl B.all PyProof.Rows.boot_all (aa (CT (N:=[]) (ix:=[]) (cl:=[]) rfl
  (CompScope.closed (by rfl') ⋯ rfl ⋯ rfl (by rfl')) rfl ⋯ rfl
  (Hu rfl B.zip %[0,1|ag]) (λ_ _ _=>db (aB iQ hr (zG0 _) rfl %[0,1|ag]))) ag))))) aF)
  (ai (au (lJ (fK aW (aM dy rfl B.isinstance PyProof.Rows.boot_isinstance %[0,iE (v:=V.ty "str") rfl B.str iV rfl|ag]) (aM dy rfl B.isinstance PyProof.Rows.boot_isinstance %[1,iE (v:=V.ty "str") rfl B.str iV rfl|ag]) (aE _)) (lJ (xU (aM dy rfl B.isinstance PyProof.Rows.boot_isinstance %[0,iE (v:=V.ty "bool") rfl B.bool rX rfl|ag])) (ou (fK aW (pv 0) (pv 1) (aE _)))))))),?_⟩
 cases al with
 | str x=>
   erw[0,_,_,"tuple",false,1,TyOf.str _,wk _,0,cO ?_];erw[0,_,_,"str",true,1,TyOf.str _,iS _ _,0,_,_,"str",true,1,TyOf.str _,iS _ _,1,0,dU ?_];erw[0,_,_,"bool",false,1,TyOf.str _,uW _,0,0,dU ?_];erw[0,0,1,6];rw[decide_eq_true rfl];exact q H (Same.refl H)
 | int i=>
   erw[0,_,_,"tuple",false,1,TyOf.int _,wn _,0,cO ?_];erw[0,_,_,"str",false,1,TyOf.int _,ph _,0,_,_,"str",false,1,TyOf.int _,ph _,1,0,dU ?_];erw[0,_,_,"bool",false,1,TyOf.int _,mI _,0,0,dU ?_];erw[0,0,1,6];rw[decide_eq_true rfl];exact q H (Same.refl H)
 | @tup m a b xs ys ha hb xy x100 hi=>
   erw[0,_,_,"tuple",true,1,TyOf.tup hb,iS _ _,0,dU ?_];erw[0,_,_,"tuple",true,1,TyOf.tup ha,iS _ _,0,cO ?_];erw[0,a,0,.inr (zB0 ha),0,b,0,.inr (zB0 hb),1,0,6];rw[xy];show if(!decide (V.int (ys.length:Int)=V.int (ys.length:Int)))=true then _ else _
   rw[decide_eq_true rfl];refine cO ?_;erw[0,0,a,b,false,false,1,%[_|zB0 ha],%[_|zB0 hb],λD hD=>?_];refine Et (K:=K) (c:=false) (d:=false) (xs:=xs) (ys:=ys) xy (λi H'=>H' D=some (.lst ((List.replicate i true).map V.bl))/\Same H H') %[by rw[am];rfl|zE0 hD _] (λi H' _ h=>%[zB0 (h.2 _ _ ha)|zB0 (h.2 _ _ hb)]) ?_ ?_
   . rintro i x y t' H2 hx hy ⟨hD2,S2⟩ ht;have hii:=(zX0 hx).1;have G:=zE0 ht (.tup [x,y]);have S12:=S2.trans G;erw[0,0,x,y,0,Nat.succ.inj hm,(hi i x y hx hy).mono (aZ S12),λH3 S3=>?_];erw[_,S3 _ _ (G _ _ hD2),6,Nx.of hii %[6|λb' o' e'=>?_]]
     . rw[zF0,List.length_replicate];exact aS #[0]
     . rw[am,List.replicate_succ',zL0];rfl
     . rw[aG (aQ e' hD)];exact S3 _ _ (S12 _ _ e')
   . rintro H2 ⟨hD2,S2⟩;erw[D,0,zH0 hD2,6];rw[wQ];exact q H2 S2
theorem rj   (F:Fun K "_law_alike" "_law_alike" kI f fd) (B:Bl mg) (m:mg "_law_alike"=some (.ref f)) :
 ∀n:Nat,FnOk P w K mg base CX0 (n+1) f fd ["_law_found","_law_due"] (spAl n)
 | 0=>by
   have no:∀vs H Q E,¬ spAl 0 vs H Q E:=λvs H Q E h=>by
    erw[_,_,_,_,h1,_]at h;cases h1
   erw[λvs H Q E h=>absurd h (no vs H Q E),λA outer s H args us vs Q E _ _ _ _ h=>absurd h (no vs H Q E)]
 | n+1=>FZ F B (Cal.of F (rj F B m n) m (λ_ _ _ _ _ _ us hl=>by let%[u0,u1|1]:=DK hl;rfl))
def hons:List Hr:=hB "i"
theorem sY:nI hons:=by
 erw[4,λr hr=>?_];unfold hons hB at hr;simp only[List.mem_cons,List.not_mem_nil,or_false]at hr;have ni:NmK "i":=by unfold NmK;decide
 rcases hr with rfl | rfl | rfl | rfl
 . erw[ni,%[4|4],4,4]
 . erw[%[4|ni],4,4]
 . erw[ni,%[4,ni,4|4],4,4]
 . erw[4,4]
theorem Bj:mL hons="set i 0\nsay (true i)\nset i (+ i 1)\ngo 1":=by decide
inductive spHonest(vs:List V)(H:Hp)(Q:VK)(u_3:XK):Prop
 |mk:vs=[]->(∀(a:Addr)(tv:List V)(H':Hp),H' a=some (.tup tv)->RowsAt H' tv hons->Same H H'->Q (.ref a) H')->spHonest vs H Q u_3
theorem Aj:FnScope [] [] (aq qG):=%[1,1,1,4,1,4|4]
theorem AI   (F:Fun K "honest" "honest" qG f fd) (X:∃t,mg "HONEST_ROWS"=some (.str ("set i 0\nsay (true i)\nset i (+ i 1)\ngo 1":Str) t)) (dC:Cal P w K mg base 21 "read_helper" ["text"] spReadH):FnOk P w K mg base CX0 22 f fd [] spHonest:=by
 exists Aj
 erw[1,q]at h;erw[t,gx]at X;erw[_,(ai (au (aB dC hr ⋯ rfl %[cV (v:=.str ("set i 0\nsay (true i)\nset i (+ i 1)\ngo 1":Str)) rfl gx %[|0]|ag]))),6];erw[hons,by rw[Bj];rfl,sY,q]
inductive spIdle(vs:List V)(H:Hp)(Q:VK)(u_3:XK):Prop
 |mk:vs=[]->(∀(a:Addr),H a=none->Q (.ref a) (upd H a (.tup [])))->spIdle vs H Q u_3
theorem Fb:FnScope [] [] (aq xI):=%[1,1,1,4,1,4|4]
theorem Fv   (F:Fun K "idle" "idle" xI f fd):FnOk P w K mg base CX0 1 f fd [] spIdle:=by
 exists Fb
 erw[1,q]at h;erw[_,(ai (au (aV ag))),(by show 0<=sizeLine;decide),q]
inductive spWrit(vs:List V)(H:Hp)(Q:VK)(u_3:XK):Prop
 |mk:∀(a:Addr)(tv:List V)(rs:List Hr),vs=[.ref a]->H a=some (.tup tv)->RowsAt H tv rs->nI rs->(∀H',Same H H'->Q (.bl true) H')->spWrit vs H Q u_3
theorem pG:FnScope ["_law_helper"] ["_law_helper"] (aq hU):=%[1,1,1,4,1,4|4]
theorem pK   (F:Fun K "_law_is_written" "_law_is_written" hU f fd) (B:Bl mg) (iQ:Cal P w K mg base 12 "_law_alike" ["_law_found","_law_due"] (spAl 11)) (dC:Cal P w K mg base 21 "read_helper" ["text"] spReadH) (iX:Cal P w K mg base 19 "helper_text" ["helper"] spHT):FnOk P w K mg base CX0 22 f fd ["_law_helper"] spWrit:=by
 exists pG
 erw[a,tv,rs,1,ha,R,g,q]at h;erw[_,(ai (au (lJ (aM dy rfl B.isinstance PyProof.Rows.boot_isinstance %[0,iE (v:=V.ty "tuple") rfl B.tuple bj rfl|ag]) (ou (aB iQ hr ⋯ rfl %[aB dC hr ⋯ rfl %[aB iX hr ⋯ rfl %[0|ag]|ag],0|ag]))))),6];erw[0,_,_,"tuple",true,1,TyOf.tup ha,iS _ _,0,dU ?_];erw[0,a,tv,rs,1,ha,R,g,λH1 S1=>?_];erw[rs,1,g,λb uv H2 hb R2 S2=>?_];have S02:=S1.trans S2;erw[0,_,_,(10),1,1,FJ hb (S02 _ _ ha) R2 (R.mono (aZ S02)) g,λH3 S3=>q H3 (S02.trans S3)]
def Hr.leads(n:Nat):Hr->Prop
 | .go i=>0<=i/\i<(n:Int) | .iff _ i=>0<=i/\i<(n:Int) | _=>True
inductive spLook(vs:List V)(H:Hp)(Q:VK)(u_3:XK):Prop
 |mk:∀(a:Addr)(tv:List V)(rs:List Hr),vs=[.ref a]->H a=some (.tup tv)->RowsAt H tv rs->(∀r∈rs,r.leads rs.length)->(∀H',Same H H'->Q (.bl true) H')->spLook vs H Q u_3
theorem iu:FnScope ["helper","number","row"] ["helper"] (aq iK):=%[1,1,1,4,1,4|4]
theorem inV_ig:inV (.str "if") [.str "if",.str "go"]=true/\inV (.str "go") [.str "if",.str "go"]=true/\inV (.str "set") [.str "if",.str "go"]=false/\inV (.str "say") [.str "if",.str "go"]=false/\inV (.str "end") [.str "if",.str "go"]=false:=by decide
theorem FO    {n:Nat} (h:HrAt H v r) (l:r.leads n):∃(a:Addr) (x:Str) (xs:List V),v=.ref a/\H a=some (.tup (.str x::xs))/\(inV (.str x) [.str "if",.str "go"]=false∨inV (.str x) [.str "if",.str "go"]=true/\∃i:Int,atI (.str x::xs) (-1)=some (.int i)/\0<=i/\i<(n:Int)):=by
 cases h with
 | fin e=>erw[_,_,0,e,.inl inV_ig.2.2.2.2]
 | go e=>erw[_,_,0,e,.inr %[inV_ig.2.1,0|l]]
 | iff e _=>erw[_,_,0,e,.inr %[inV_ig.1,0|l]]
 | set e _=>erw[_,_,0,e,.inl inV_ig.2.2.1]
 | say e _=>erw[_,_,0,e,.inl inV_ig.2.2.2.1]
theorem rh   (F:Fun K "look_helper" "look_helper" iK f fd) (B:Bl mg):FnOk P w K mg base CX0 1 f fd ["helper"] spLook:=by
 exists iu
 erw[a,tv,rs,1,ha,R,ld,q]at h;refine⟨_,(ae (cI PassesOwn.never rfl (vH rfl B.enumerate (pv 0)) (uH rfl (fV (bt (i:=1) iu.nd rfl (.inl rfl)) (fV (bt (i:=2) iu.nd rfl (.inl rfl)) pT))) (ai (aO (PW.pt (lH (ao eE (aP ix_tup (pv 2) aj (λ_ _=>rfl)) (aV %[aJ,aJ|ag]) (by rfl')) (kK (gA (vE sQ eO aj (aP ix_tup (pv 2) (zn tN aj) (λ_ _=>rfl)) (aM aN rfl B.len PySem.boot_len %[0|ag])))))) bq aF)))
  (ai (au eN))),?_⟩
 erw[0,a,1,%[_|zB0 ha],sZ (K:=K) (xs:=tv) (λi σ H'=>∃x1 x2:Option V,σ=[some (.ref a),x1,x2]/\Same H H') %[_,0|Same.refl _] (λi σ H' _ hst=>by erw[_,_,_,h]at hst;exact zB0 (h _ _ ha)) ?_ ?_]
 . rintro i z σ H1 t hz ⟨x1,x2,rfl,S1⟩ ht;have hi:i<rs.length:=by rw[←R.1];exact(zX0 hz).1
   have G:=zE0 ht (.tup [.int (i:Int),z]);have S2:=S1.trans G;let%[r,x,xs,1,er|cs]:=FO ((R.2 i z _ hz (zM0 hi)).mono (aZ S2)) (ld _ (qP0 hi));erw[t,0,zB0 am,1,_,0,2,6];erw[0,r,_,(0),0,1,zB0 er,at0 ..,(by show 2<=sizeLine;decide),λL hL=>?_];have G3:=zE0 hL (.tup [.str "if",.str "go"]);erw[L,0,.inr (zB0 am),1,1,0,6];rcases cs with c | ⟨c,n,hl,n0,n1⟩
   . rw[c];exact cO %[_,0|S2.trans G3]
   . rw[c];refine dU ?_;erw[0,0,r,_,-1,0,1,zB0 (G3 _ _ er),hl,2,0,6];rw[decide_eq_true n0];refine dU ?_;erw[0,a,0,.inr (zB0 (G3 _ _ (S2 _ _ ha))),2,0,6];rw[R.1,decide_eq_true n1];exact cO ⟨_,_,rfl,S2.trans G3⟩
 . rintro σ H1 ⟨x1,x2,rfl,S1⟩;exact q _ S1
end
section
variable {CG:Addr}
theorem Io{xs:List V}{k:Nat}(hk:k<=xs.length):iM xs none (some (k:Int))=xs.take k:=by
 unfold iM;rw[HT.sIx_none,HT.sIx_nat,List.drop_zero,Nat.sub_zero,Nat.min_eq_left hk]
def FP(ns:List Str)(ts:List Tr)(p:Int)(cs:List Int):List TR:=.claims (ts.map λu=>(cnt u ns:Int) % p)::(if ts.length=1 then oI ns ts p 0 [] cs else .coin (cs.headD 0)::oI ns ts p (cs.headD 0) [] cs.tail)
theorem wE:∀cs pre:List Int,(oI ns ts p s pre cs).length=2*cs.length
 | [],_=>rfl
 | c::cs,pre=>by
   show(oI ns ts p s (pre++[c]) cs).length+1+1=2*(cs.length+1)
   rw[wE cs];omega
inductive spTalkDue(CG:Addr)(vs:List V)(H:Hp)(Q:VK)(u_3:XK):Prop
 |mk:∀(g c:Addr)(ns:List Str)(ts:List Tr)(p:Int)(cs:List Int),vs=[.ref g,.ref c]->Gm CG H g ns ts p->GmK ns ts p->ns.length<=6->H c=some (.lst (cs.map V.int))->cj cs p->cs.length=bJ ns ts->(∀(a:Addr)(us:List V)(H':Hp),Same H H'->H' a=some (.tup us)->TRsAt H' us (FP ns ts p cs)->Q (.ref a) H')->spTalkDue CG vs H Q u_3
inductive tTD(K:W.Frag)(CG:Addr)(Dn:Ends)(σ:St)(H:Hp):Prop
 |mk:∀(x1 x5:Option V)(H0:Hp)(g L l2:Addr)(us:List V)(rs:List TR)(ns:List Str)(ts:List Tr)(p s:Int)(cs:List Int),σ=[some (.ref g),x1,some (.ref L),some (.ref l2),some (.int s),x5]->Gm CG H0 g ns ts p->GmK ns ts p->ns.length<=6->H L=some (.lst us)->TRsAt H us rs->us.length<=10->l2≠L->H l2=some (.lst (cs.map V.int))->cj cs p->cs.length=ns.length->H0 L=none->Same H0 H->(∀(a:Addr)(us:List V)(H':Hp),Same H0 H'->H' a=some (.tup us)->TRsAt H' us (rs++oI ns ts p s [] cs)->Dn.rt (.ref a) H')->tTD K CG Dn σ H
theorem dN:FnScope ["_law_game_here","_law_coins_here","_law_talk","_law_left","_law_s","_law_k"] ["_law_game_here","_law_coins_here"] (aq jm):=%[1,1,1,4,1,4|4]
theorem sy   (F:Fun K "_law_talk_due" "_law_talk_due" jm f fd) (B:Bl mg) (T:GTxt K mg CG) (b7:Cal P w K mg base 16 "counts_of" ["game"] (spCounts CG)) (fo:Cal P w K mg base 14 "true_row" ["game","s","coins"] (spTrue CG)):FnOk P w K mg base CX0 17 f fd ["_law_game_here","_law_coins_here"] (spTalkDue CG):=by
 exists dN
 erw[g,c,ns,ts,p,cs,1,G,k,n6,hc,co,cl,q]at h;refine⟨_,(ae (ax (i:=2) dN.nd rfl (.inl rfl) (ca (aa (aV (aa aJ (aa (bh bi rfl B.tuple bj (aa (cM (N:=["_law_game_here"]) (ix:=[0]) rfl
  (CompScope.one (by rfl') ⋯ rfl ⋯ rfl ⋯ (by rfl') (by rfl') (by rfl') rfl rfl) rfl
  (gI (aB b7 hr ⋯ rfl %[0|ag])) (λ_ _ _=>db (az bd (pv 0) (jz K (pv 1))))) ag)) ag))) ag)))
  (ae #[ax,3,dN,bh nn rfl B.list lK %[1|ag]]
  (ae #[ax,4,dN,aj]
  (ae (aO (ao iR (aM aN rfl B.len PySem.boot_len %[aD (pv 0) rfl|ag]) aj (aE _)) (ae #[ax,4,dN,dw PySem.F.plainAttrs_list PySem.F.slot_list_pop PySem.F.type_list_pop DF (pv 3) %[aj|ag]]
   (ai (ba (dw PySem.F.plainAttrs_list PySem.F.slot_list_append PySem.F.type_list_append cz (pv 2) %[aV %[aJ,4|ag]|ag])))) aF)
  (jx (t':=tTD K CG) (ae (cI PassesOwn.never rfl (bX rfl B.range %[aM aN rfl B.len PySem.boot_len %[3|ag]|ag]) (bt (i:=5) dN.nd rfl (.inl rfl)) (ae (ba (dw PySem.F.plainAttrs_list PySem.F.slot_list_append PySem.F.type_list_append cz (pv 2) %[aV %[aJ,bh bi rfl B.tuple bj %[aB fo hr ⋯ rfl %[0,4,eK EZ (pv 3) jy (eJ (pv 5))|ag]|ag]|ag]|ag]))
   (ai (ba (dw PySem.F.plainAttrs_list PySem.F.slot_list_append PySem.F.type_list_append cz (pv 2) %[aV %[aJ,aP ix_list (pv 3) (pv 5) (λ_ _=>rfl)|ag]|ag])))))
  (ai (au (bh bi rfl B.tuple bj %[2|ag])))) (by
   rintro Dn σ H ⟨x1,x5,H0,g,L,l2,us,rs,ns,ts,p,s,cs,rfl,G,k,n6,hL,TA,u10,l2L,h2,co,cl,L0,S,q⟩;have p2:=k.p2;have p9:=k.p9;have t10:=k.t10;have t0:ts≠[]:=λz=>by have:=k.t1;rw[z]at this;cases this
   have ul:=TA.len;have S0:∀{H':Hp},SameBut L H H'->Same H0 H':=λb c o e=>b _ _ (aQ e L0) (S _ _ e)
   erw[0,l2,0,.inl (zH0 h2),0,by rw[zF0];omega,by rw[zF0];omega,dq (λi σ H'=>∃(x5:Option V)(us':List V),σ=[some (.ref g),x1,some (.ref L),some (.ref l2),some (.int s),x5]/\H' L=some (.lst us')/\TRsAt H' us' (rs++oI ns ts p s [] (cs.take i))/\SameBut L H H') %[_,0,hL,by rw[List.take_zero];show TRsAt H us (rs++[]);rw[List.append_nil];exact TA|SameBut.refl _ _] ?_ ?_]
   . rintro i σ H1 hi ⟨x5,us1,rfl,hL1,TR1,B1⟩;have hi':i<cs.length:=by have:i<(((cs.map V.int).length:Nat):Int).toNat:=hi;rw[zF0]at this;omega
     have S1:=S0 B1;let%[a,b,d,tv,GA,ha,hb,TS|hd]:=id G;have h21:=B1 _ _ l2L h2;have tl:(cs.take i).length=i:=by rw[qK0];omega
     have ul1:=TR1.len;rw[zJ0,wE,tl]at ul1;have hx:ns[(cs.take i).length]?=some (ns.getD i ""):=by
      rw[tl,qL0,zM0 #[0]];rfl
     have hxm:=qH0 hx;erw[0,.inl %[1,_|zH0 hL1],0,0,0,0,0,l2,0,zH0 h21,λc2 hc2=>?_];rw[Int.zero_add,Io (by rw[zF0];omega),←List.map_take];have I2:=zE0 hc2 (.lst ((cs.take i).map V.int));have e2:upd H1 c2 (.lst ((cs.take i).map V.int)) c2=some (.lst ((cs.take i).map V.int)):=am;generalize upd H1 c2 (.lst ((cs.take i).map V.int))=H2 at I2 e2;have S2:=S1.trans I2;erw[g,a,b,d,c2,ns,tv,ts,cs.take i,ns.getD i "",s,p,1,GA.same S2,S2 _ _ ha,n6,S2 _ _ hb,TS.mono (aZ S2),t0,t10,λt ht=>%[(k.tok t ht).1|(k.tok t ht).2.2.1],S2 _ _ hd,.inl e2,hx,(k.deg _ hxm).2,by have:=(mQ k (ns.getD i "")).2;omega,λx hx=>co x (List.mem_of_mem_take hx),3,3,λl H3 l0 S3 hl=>?_];have J3:=I2.trans S3;erw[l,0,.inl %[zH0 hl|λta hta=>%[(by show 2<=sizeLine;decide)|λtb htb=>?_]]];have I4:=zE0 hta (.tup ((fb ns ts s p (cs.take i) (bN ts (ns.getD i "")+1).toNat).map V.int));have e4:upd H3 ta (.tup ((fb ns ts s p (cs.take i) (bN ts (ns.getD i "")+1).toNat).map V.int)) ta=_:=am;generalize upd H3 ta (.tup ((fb ns ts s p (cs.take i) (bN ts (ns.getD i "")+1).toNat).map V.int))=H4 at htb I4 e4;have I5:=zE0 htb (.tup [.str "say",.ref ta]);have e5:upd H4 tb (.tup [.str "say",.ref ta]) tb=_:=am;generalize upd H4 tb (.tup [.str "say",.ref ta])=H5 at I5 e5;have J5:=J3.trans (I4.trans I5);have hL5:=J5 _ _ hL1;erw[L,2,hL5,aS #[0],6];have B6:SameBut L H5 (upd H5 L (.lst (us1++[.ref tb]))):=SameBut.upd _;have e6:upd H5 L (.lst (us1++[.ref tb])) L=_:=am;generalize upd H5 L (.lst (us1++[.ref tb]))=H6 at B6 e6;have h26:=B6 _ _ l2L (J5 _ _ h21);have hcs:cs[i]?=some (cs.getD i 0):=by rw[qL0,zM0 hi'];rfl
     erw[0,.inl %[1,_|zH0 e6],0,0,l2,_,_,.int (cs.getD i 0),1,1,zH0 h26,6,(by show 2<=sizeLine;decide),λtc htc=>?_]
     . exact cE (by rw[zZ0,hcs];rfl)
     have I7:=zE0 htc (.tup [.str "coin",.int (cs.getD i 0)]);have e7:upd H6 tc (.tup [.str "coin",.int (cs.getD i 0)]) tc=_:=am;generalize upd H6 tc (.tup [.str "coin",.int (cs.getD i 0)])=H7 at I7 e7;erw[L,2,I7 _ _ e6,aS (by rw[zJ0,qG0];omega),6];have B8:SameBut L H7 (upd H7 L (.lst (us1++[.ref tb]++[.ref tc]))):=SameBut.upd _;have e8:upd H7 L (.lst (us1++[.ref tb]++[.ref tc])) L=_:=am;generalize upd H7 L (.lst (us1++[.ref tb]++[.ref tc]))=H8 at B8 e8;have B58:SameBut L H5 H8:=B6.trans ((zK0 I7).trans B8);have k5:cg H5 H8:=λa xs e=>B58 _ _ (bu e hL5 (by intro z;cases z)) e
     erw[_,0,e8,6,B1.trans ((zK0 J5).trans B58)];have et:cs.take (i+1)=cs.take i++[cs.getD i 0]:=by rw[qI0,hcs];rfl
     rw[et,tj,←List.append_assoc,List.nil_append,tl,show ∀(x:List TR)(y z:TR),x++[y,z]=x++[y]++[z]from λx y z=>by rw[List.append_assoc];rfl];exact TRsAt.snoc (.coin (B8 _ _ (bu e7 (I7 _ _ e6) (by intro z;cases z)) e7)) (TRsAt.snoc (.say (k5 _ _ e5) (k5 _ _ (I5 _ _ e4))) (TR1.mono (λa xs e=>k5 _ _ (J5 _ _ e))))
   . rintro σ H1 ⟨x5,us1,rfl,hL1,TR1,B1⟩;rw[show(((cs.map V.int).length:Nat):Int).toNat=cs.length by rw[zF0];omega,qF0]at TR1;erw[0,L,0,.inl %[zH0 hL1|λa ha=>?_]];have I:=zE0 ha (.tup us1);exact q a us1 _ ((S0 B1).trans I) am (TR1.mono (aZ I)))))))),?_⟩
 have p2:=k.p2;have t10:=k.t10;let%[a,b,d,tv,GA,ha,hb,TS|hd]:=id G;let%[dx|hg]:=id GA;have tvl:=TS.length;erw[0,g,a,b,d,ns,tv,ts,p,1,GA,ha,n6,hb,TS,t10,λt ht=>%[(k.tok t ht).1|by have:=(k.tok t ht).2.2.1;omega],λl H1 l0 S1 hl=>?_];erw[l,1,%[_|zH0 hl],λD hD=>?_];refine kW (K:=K) (xs:=(ts.map λt=>(cnt t ns:Int)).map V.int) (λj H'=>H' D=some (.lst (((ts.take j).map λu=>(cnt u ns:Int) % p).map V.int))/\Same H1 H') %[by rw[am];rfl|zE0 hD _] (λj H' _ h=>zH0 (h.2 _ _ hl)) ?_ ?_
 . rintro j z H2 hz ⟨hD2,S2⟩;have hj:j<((ts.map λt=>(cnt t ns:Int)).map V.int).length:=(zX0 hz).1;rw[zZ0,zZ0]at hz;obtain⟨u,hu⟩:∃u,ts[j]?=some u:=%[_|zM0 (by simpa using hj)]
   rw[hu]at hz;cases hz;erw[0,0,g,CG,dx,_,0,(S1.trans S2) _ _ hg,T.cl,T.nF,fc ..,2,(by omega:(0:Int)<p),_,hD2,6,Nx.of hj %[6|λb' o' e'=>?_]]
   . rw[zF0,zF0,qK0];exact aS #[0]
   . rw[am,qI0,hu,zL0,zL0];rfl
   . rw[aG (aQ e' hD)];exact S2 _ _ e'
 rintro H2 ⟨hD2,S2⟩;rw[show((ts.map λt=>(cnt t ns:Int)).map V.int).length=ts.length by rw[zF0,zF0],qF0]at hD2;erw[D,0,.inl %[zH0 hD2|λta hta=>%[(by show 2<=sizeLine;decide)|λtb htb=>%[(by show 1<=sizeLine;decide)|λL hL=>?_]]]];have I3:=zE0 hta (.tup ((ts.map λu=>(cnt u ns:Int) % p).map V.int));have e3:upd H2 ta (.tup ((ts.map λu=>(cnt u ns:Int) % p).map V.int)) ta=_:=am;generalize upd H2 ta (.tup ((ts.map λu=>(cnt u ns:Int) % p).map V.int))=H3 at htb hL I3 e3;have I4:=zE0 htb (.tup [.str "claims",.ref ta]);have e4:upd H3 tb (.tup [.str "claims",.ref ta]) tb=_:=am;generalize upd H3 tb (.tup [.str "claims",.ref ta])=H4 at hL I4 e4;have J4:=S1.trans (S2.trans (I3.trans I4));have L0:=J4.free hL;have I5:=zE0 hL (.lst [.ref tb]);have e5:upd H4 L (.lst [.ref tb]) L=_:=am;generalize upd H4 L (.lst [.ref tb])=H5 at I5 e5;have J5:=J4.trans I5;have TR5:TRsAt H5 [.ref tb] [.claims (ts.map λu=>(cnt u ns:Int) % p)]:=%[.claims (I5 _ _ e4) (I5 _ _ (I4 _ _ e3))|trivial]
 erw[0,c,0,.inl (zH0 (J5 _ _ hc)),λl2 hl2=>?_];have I6:=zE0 hl2 (.lst (cs.map V.int));have e6:upd H5 l2 (.lst (cs.map V.int)) l2=_:=am;have nl:l2≠L:=(aQ e5 hl2).symm;generalize upd H5 l2 (.lst (cs.map V.int))=H6 at I6 e6;have J6:=J5.trans I6;have TR6:=TR5.mono (aZ I6);erw[0,g,CG,dx,_,0,J6 _ _ hg,T.cl,T.nT,lp ..,b,0,.inr (zB0 (J6 _ _ hb)),2,0,6];unfold FP at q;unfold bJ at cl
 by_cases c1:ts.length=1
 . rw[zC0 c1]at q cl;refine aI (by show ¬ ((tv.length:Nat):Int)>1;omega) ?_;erw[_,_,H,g,L,l2,_,_,ns,ts,p,(0),cs,1,G,k,n6,I6 _ _ e5,TR6,(by simp),nl,e6,co,cl,L0,J6,q]
 . rw [zA0 c1]at q cl;have t1:=k.t1;refine bb (by show((tv.length:Nat):Int)>1;omega) ?_;cases cs with
   | nil=>rw[List.length_nil]at cl;omega
   | cons r cs=>
     erw[0,.inl %[1,_|zH0 e6],l2,_,(0),(0),.int r,1,1,e6,4,4,(by unfold seqIndex?;simp),1,6];have B7:SameBut l2 H6 (upd H6 l2 (.lst (((r::cs).map V.int).eraseIdx 0))):=SameBut.upd _;have e7:upd H6 l2 (.lst (((r::cs).map V.int).eraseIdx 0)) l2=some (.lst (cs.map V.int)):=am;generalize upd H6 l2 (.lst (((r::cs).map V.int).eraseIdx 0))=H7 at B7 e7;have k7:cg H6 H7:=λa xs e=>B7 _ _ (bu e e6 (by intro z;cases z)) e
     have L7:=B7 _ _ nl.symm (I6 _ _ e5);have l20:=J5.free hl2;have J7:Same H H7:=λa o e=>B7 _ _ (aQ e l20) (J6 _ _ e)
     erw[0,.inl %[1,_|zH0 L7],0,(by show 2<=sizeLine;decide),λtc htc=>?_];have I8:=zE0 htc (.tup [.str "coin",.int r]);have e8:upd H7 tc (.tup [.str "coin",.int r]) tc=_:=am;generalize upd H7 tc (.tup [.str "coin",.int r])=H8 at I8 e8;erw[L,2,I8 _ _ L7,aS (by simp),6];have B9:SameBut L H8 (upd H8 L (.lst ([.ref tb]++[.ref tc]))):=SameBut.upd _;have e9:upd H8 L (.lst ([.ref tb]++[.ref tc])) L=_:=am;generalize upd H8 L (.lst ([.ref tb]++[.ref tc]))=H9 at B9 e9;have k9:cg H8 H9:=λa xs e=>B9 _ _ (bu e (I8 _ _ L7) (by intro z;cases z)) e
     erw[_,_,H,g,L,l2,_,_,ns,ts,p,r,cs,1,G,k,n6,e9,TRsAt.snoc (.coin (k9 _ _ e8)) ((TR6.mono k7).mono (λa xs e=>k9 _ _ (I8 _ _ e))),(by simp),nl,B9 _ _ nl (I8 _ _ e7),λx hx=>co x (qJ0 _ hx),(by rw[zO0]at cl;omega),L0,λa o e=>B9 _ _ (aQ e L0) (I8 _ _ (J7 _ _ e)),q]
end
def TR.data:TR->PyData
 | .claims xs=>.tuple [.str "claims",.tuple (xs.map PyData.int)]
 | .say xs=>.tuple [.str "say",.tuple (xs.map PyData.int)]
 | .coin r=>.tuple [.str "coin",.int r]
theorem TRAt.rep{K:W.Frag}(h:TRAt H v r):Rep K H v r.data:=by
 cases h with
 | claims e e2=>exact .tup (zB0 e) (.cons (.str _) (.cons (.tup (zB0 e2) (ie _)) .nil))
 | say e e2=>exact .tup (zB0 e) (.cons (.str _) (.cons (.tup (zB0 e2) (ie _)) .nil))
 | coin e=>exact .tup (zB0 e) (.cons (.str _) (.cons (.int _) .nil))
theorem TRsAt.rep{K:W.Frag}:∀{vs:List V}{rs:List TR},TRsAt H vs rs->RepAll K H vs (rs.map TR.data)
 | [],[],_=>.nil
 | _::_,_::_,h=>.cons h.1.rep (TRsAt.rep h.2)
 | [],_::_,h=>h.elim
 | _::_,[],h=>h.elim
theorem tr_ok(r:TR):r.data.canLay0=true/\r.data.depth<=3:=by
 have w1:PyData.strOk "claims"=true:=by decide
 have w2:PyData.strOk "say"=true:=by decide
 have w3:PyData.strOk "coin"=true:=by decide
 cases r with
 | claims xs=>simp [TR.data,PyData.canLay0,PyData.depth,PyData.canLayAll0,PyData.depthAll,W.ke_canLayAll0,W.ke_depthAll,w1]
 | say xs=>simp [TR.data,PyData.canLay0,PyData.depth,PyData.canLayAll0,PyData.depthAll,W.ke_canLayAll0,W.ke_depthAll,w2]
 | coin n=>simp [TR.data,PyData.canLay0,PyData.depth,PyData.canLayAll0,PyData.depthAll,w3]
theorem BR:∀rs:List TR,PyData.canLayAll0 (rs.map TR.data)=true/\PyData.depthAll (rs.map TR.data)<=3
 | []=>by simp [PyData.canLayAll0,PyData.depthAll]
 | r::rs=>by
   have h1:=tr_ok r;have h2:=BR rs;simp only[zY0,PyData.canLayAll0,PyData.depthAll,h1.1,h2.1];erw[1,3]
def lO(x:List TR×Tk):PyData:=.tuple [.tuple (x.1.map TR.data),awD x.2.z.aw]
theorem Ix{a:Str×Option Int}(h:AwW a.1):(awD a).canLay0=true/\(awD a).depth<=1:=by
 have w:=h.ok;erw[x,o]at a;cases o <;> simp_all [awD,PyData.canLay0,PyData.depth,PyData.canLayAll0,PyData.depthAll]
theorem oO{x:List TR×Tk}(h:AwW x.2.z.aw.1):SeqAt.shaped (lO x)=true:=by
 have h1:=BR x.1;have h2:=Ix h;have hc:(lO x).canLay0=true:=by simp [lO,PyData.canLay0,PyData.canLayAll0,h1.1,h2.1]
 have hd:(lO x).depth<=10:=by
  show max (PyData.depthAll (x.1.map TR.data)+1) (max (awD x.2.z.aw).depth 0)+1<=10;omega
 unfold SeqAt.shaped;rw[hc,Bool.true_and,decide_eq_true_eq];omega
theorem BT{x:List TR×Tk}(h:AwW x.2.z.aw.1):PyData.eqv (lO x) (lO x)=true:=PySem.SeqAt.eqv_refl _ (SeqAt.canLay_of_shaped (oO h))
theorem Told.rep{K:W.Frag}(h:Told H a x):Rep K H (.ref a) (lO x):=by
 erw[b,c,vs,h1,h2,h3,h4]at h.ex;exact .tup (zB0 h1) (.cons (.tup (zB0 h2) h3.rep) (.cons (Hm h4) .nil))
def xW:Option (List Int)->PyData
 | none=>.none
 | some c=>.tuple (c.map PyData.int)
def wtD(x:Int×Option (List Int)):PyData:=.tuple [.int x.1,xW x.2]
theorem OptAt.rep{K:W.Frag}{x:Option (List Int)}(h:OptAt H v x):Rep K H v (xW x):=by
 cases x with
 | none=>rw[show v=.non from h];exact .non
 | some c=>erw[b,1,hb]at h;exact .tup (zB0 hb) (ie _)
theorem Hz(x:Option (List Int)):(xW x).canLay0=true/\(xW x).depth<=1:=by
 cases x with
 | none=>simp [xW,PyData.canLay0,PyData.depth]
 | some c=>simp [xW,PyData.canLay0,PyData.depth,W.ke_canLayAll0,W.ke_depthAll]
theorem nJ(x:Int×Option (List Int)):SeqAt.shaped (wtD x)=true:=by
 have h:=Hz x.2;have hc:(wtD x).canLay0=true:=by simp [wtD,PyData.canLay0,PyData.canLayAll0,h.1]
 have hd:(wtD x).depth<=10:=by
  show max 0 (max (xW x.2).depth 0)+1<=10;omega
 unfold SeqAt.shaped;rw[hc,Bool.true_and,decide_eq_true_eq];omega
theorem GX(x:Int×Option (List Int)):PyData.eqv (wtD x) (wtD x)=true:=PySem.SeqAt.eqv_refl _ (SeqAt.canLay_of_shaped (nJ x))
section
inductive spLCoins(vs:List V)(H:Hp)(Q:VK)(u_3:XK):Prop
 |mk:∀(f dr a b:Addr)(p m:Int),vs=[.ref f,.ref dr,.int m]->FeedAt H f->H dr=some (.tup [.ref a,.ref b,.int p])->2<p->p<=999983->0<=m->m<=20->(∀(l:Addr)(cs:List Int)(H':Hp),H l=none->H' l=some (.lst (cs.map V.int))->(cs.length:Int)=m->cj cs p->FeedAt H' f->SameBut f H H'->Q (.ref l) H')->spLCoins vs H Q u_3
theorem xA:FnScope ["_law_feed_here","_law_game_here","_law_many"] ["_law_feed_here","_law_game_here","_law_many"] (aq og):=%[1,1,1,4,1,4|4]
theorem yc   (F:Fun K "_law_coins" "_law_coins" og f fd) (B:Bl mg) (aR:Cal P w K mg base 1 "_law_take" ["_law_feed_here","_law_many"] spTake):FnOk P w K mg base CX0 2 f fd ["_law_feed_here","_law_game_here","_law_many"] spLCoins:=by
 exists xA
 erw[f,dr,a,b,p,m,1,F0,hd,p2,p9,m0,m1,q]at h;refine⟨_,(ai (au (cM (N:=["_law_feed_here","_law_game_here"]) (ix:=[0,1]) rfl
  (CompScope.two (by rfl') ⋯ rfl ⋯ rfl ⋯ (by first | exact Or.inl rfl | exact Or.inr rfl) (by rfl') (by rfl') (by rfl') (by rfl') rfl rfl (by rfl') rfl rfl) rfl
  (bX rfl B.range %[2|ag]) (λ_ _ _=>db (aP (wo K) (ca %[aB aR hr ⋯ rfl %[1,aP (zx K) (pv 2) aj (λ_ _=>rfl)|ag],aB aR hr ⋯ rfl %[1,aj|ag],az bO (aP (zx K) (pv 2) aj (λ_ _=>rfl)) aj|ag]) (aB aR hr ⋯ rfl %[1,aj|ag]) (λ_ _=>rfl)))))),?_⟩
 erw[0,0,3,3,λD hD=>?_];have Df:D≠f:=F0.ne hD;refine eC (λi H'=>∃cs:List Int,H' D=some (.lst (cs.map V.int))/\cs.length=i/\cj cs p/\FeedAt H' f/\SameBut f H H') %[[],by rw[am];rfl,1,(λx hx=>by cases hx),F0.same (zE0 hD _)|zK0 (zE0 hD _)] ?_ ?_
 . rintro i H1 hi ⟨cs,hc,cl,co,F1,S1⟩;have hd1:=S1 _ _ (pW F0 hd (by intro ys z;cases z)) hd;erw[0,0,dr,_,(2),0,1,zB0 hd1,1,f,p,1,F1,3,3,λd1 H2 a0 a1 F2 B2=>?_];have hd2:=B2 _ _ (pW F1 hd1 (by intro ys z;cases z)) hd1;erw[0,f,(2),1,F2,4,4,λd2 H3 b0 b1 F3 B3=>?_];have hd3:=B3 _ _ (pW F2 hd2 (by intro ys z;cases z)) hd2;erw[0,dr,_,(2),0,1,zB0 hd3,1,2,(by show 3<=sizeLine;decide),λL hL=>?_];have IL:=zE0 hL (.lst [.int d1,.int d2,.int (p-1)]);have eL:upd H3 L (.lst [.int d1,.int d2,.int (p-1)]) L=some (.lst [.int d1,.int d2,.int (p-1)]):=am;have Lf:L≠f:=F3.ne hL;generalize upd H3 L (.lst [.int d1,.int d2,.int (p-1)])=H4 at IL eL;erw[0,f,(3),1,F3.same IL,4,4,λd3 H5 c0 c1 F5 B5=>?_];have eL5:=B5 _ _ Lf eL;have S5:SameBut f H1 H5:=B2.trans (B3.trans ((zK0 IL).trans B5));have hc5:=S5 _ _ Df hc;have fin:∀r:Int,0<=r->r<p->∃ys,H5 D=some (.lst ys)/\ys.length<sizeLine/\Nx m.toNat i (λi H'=>∃cs:List Int,H' D=some (.lst (cs.map V.int))/\cs.length=i/\cj cs p/\FeedAt H' f/\SameBut f H H') (upd H5 D (.lst (ys++[.int r]))):=λr r0 r1=>by
    erw[_,hc5,aS (by rw[zF0];omega),Nx.of hi ⟨cs++[r],by rw[am,zL0];rfl,by rw[zJ0,cl];rfl,λx hx=>?_,?_,λc o h e=>?_⟩]
    . rcases qM0 hx with h | h
      . exact co x h
      . rw[zS0 h];erw[r0,r1]
    . erw[x,t,e,rr]at F5;erw[x,t,by rw[aG Df.symm];exact e,rr]
    . rw[aG (aQ e hD)];exact S5 _ _ h (S1 _ _ h e)
   have:d3=0∨d3=1∨d3=2:=by omega
   rcases this with rfl | rfl | rfl
   . erw[L,_,(0),.int d1,1,1,zH0 eL5,1,fin d1 a0 a1]
   . erw[L,_,(1),.int d2,1,1,zH0 eL5,1,fin d2 b0 #[0]]
   . erw[L,_,(2),.int (p-1),1,1,zH0 eL5,1,fin (p-1) #[0] #[0]]
 . rintro H1 ⟨cs,hc,cl,co,F1,S1⟩;exact q D cs H1 hD hc #[0] co F1 S1
end
theorem i3:FnScope ["_law_p","_law_many","_law_found","_law_k"] ["_law_p","_law_many"] (aq nZ):=%[1,1,1,4,1,4|4]
theorem xZ   (F:Fun K "_law_power" "_law_power" nZ f fd) (B:Bl mg):FnOk P w K mg base CX0 1 f fd ["_law_p","_law_many"] spPow:=by
 exists i3
 erw[x,k,1,k0,k1,x0,x1,q]at h;refine⟨_,(ae #[ax,2,i3,aj]
  (ae (cI PassesOwn.never rfl (bX rfl B.range %[1|ag]) (bt (i:=3) i3.nd rfl (.inl rfl)) (ai #[ax,2,i3,az cw (pv 2) (pv 0)]))
  (ai (au (pv 2))))),?_⟩
 erw[0,k,1,3,3,dq (n:=k.toNat) (λi σ H'=>∃x3:Option V,σ=[some (.int x),some (.int k),some (.int (x ^ i)),x3]/\H'=H) %[none,by rw[Int.pow_zero];rfl|1] ?_ ?_]
 . rintro i σ H1 hi ⟨x3,rfl,rfl⟩;erw[0,0,2,.inr %[3|3],6];erw[some (.int (0+(i:Int))),6,1];rw[Int.pow_succ];rfl
 . rintro σ H1 ⟨x3,rfl,rfl⟩;erw[0,q]
section
variable {C CM CA CG:Addr}
def Tm.data:Tm->PyData
 | .num n=>.tuple [.str "num",.int n] | .box x=>.tuple [.str "box",.str x] | .plain w=>.tuple [.str w] | .ask w a=>.tuple [.str w,a.data] | .op s a b=>.tuple [.str "op",.str s,a.data,b.data]
theorem TmAt.rep(h:TmAt H v t):Rep K H v t.data:=by
 induction h with
 | num e=>exact .tup (zB0 e) (.cons (.str _) (.cons (.int _) .nil))
 | box e=>exact .tup (zB0 e) (.cons (.str _) (.cons (.str _) .nil))
 | plain e=>exact .tup (zB0 e) (.cons (.str _) .nil)
 | ask e _ ih=>exact .tup (zB0 e) (.cons (.str _) (.cons ih .nil))
 | op e _ _ i1 i2=>exact .tup (zB0 e) (.cons (.str _) (.cons (.str _) (.cons i1 (.cons i2 .nil))))
def Hr.data:Hr->PyData
 | .fin=>.tuple [.str "end"] | .go n=>.tuple [.str "go",.int n] | .iff t n=>.tuple [.str "if",t.data,.int n] | .set x t=>.tuple [.str "set",.str x,t.data] | .say t=>.tuple [.str "say",t.data]
theorem HrAt.rep(h:HrAt H v r):Rep K H v r.data:=by
 cases h with
 | fin e=>exact .tup (zB0 e) (.cons (.str _) .nil)
 | go e=>exact .tup (zB0 e) (.cons (.str _) (.cons (.int _) .nil))
 | iff e t=>exact .tup (zB0 e) (.cons (.str _) (.cons t.rep (.cons (.int _) .nil)))
 | set e t=>exact .tup (zB0 e) (.cons (.str _) (.cons (.str _) (.cons t.rep .nil)))
 | say e t=>exact .tup (zB0 e) (.cons (.str _) (.cons t.rep .nil))
theorem qN:∀{tv:List V}{rs:List Hr},RowsAt H tv rs->RepAll K H tv (rs.map Hr.data)
 | [],[],_=>.nil
 | v::tv,r::rs,h=>.cons (h.2 0 v r rfl rfl).rep (qN %[Nat.succ.inj h.1|λi a b h1 h2=>h.2 (i+1) a b h1 h2])
 | [],_::_,h=>by cases h.1
 | _::_,[],h=>by cases h.1
def wv:PyData:=.tuple (hons.map Hr.data)
theorem uZ:SeqAt.shaped wv=true:=by decide
theorem DW:PyData.eqv wv wv=true:=PySem.SeqAt.eqv_refl _ (SeqAt.canLay_of_shaped uZ)
theorem Bk:∀r∈hons,r.leads hons.length:=by
 intro r hr;unfold hons hB at hr ⊢;simp only[List.mem_cons,List.not_mem_nil,or_false]at hr;rcases hr with rfl | rfl | rfl | rfl
 . trivial
 . trivial
 . trivial
 . erw[4,4]
theorem zA:∀r∈hons,r.good:=by
 intro r hr;unfold hons hB at hr;simp only[List.mem_cons,List.not_mem_nil,or_false]at hr;rcases hr with rfl | rfl | rfl | rfl
 . erw[trivial,4]
 . erw[%[4|trivial],4]
 . erw[%[4,trivial|trivial],4]
 . exact(by decide:(0:Int)<=1)
theorem nil_eqv:SeqAt.shaped (.tuple [])=true/\PyData.eqv (.tuple []) (.tuple [])=true:=by decide
def mf(f:Addr)(H:Hp):Hp:=λa=>if a=f then none else H a
theorem wb{f a:Addr}{H:Hp}{o:HO}(e:H a=some o)(n:a≠f):mf f H a=some o:=(zA0 n).trans e
structure W62(CG:Addr)(H:Hp)(h dr g cl a b:Addr)(rv:List V)(ns:List Str)(ts:List Tr)(p:Int):Prop where
 hh:H h=some (.tup rv)
 RW:RowsAt H rv hons
 hd:H dr=some (.tup [.ref a,.ref b,.int p])
 G:Gm CG H g ns ts p
 k:GmK ns ts p
 n6:ns.length<=4
 nd:ns.Nodup
 d60:∀y∈ns,bN ts y<=60
 hc:H cl=some (.lst ((ts.map λt=>(cnt t ns:Int)).map V.int))
theorem W62.same(w:W62 CG H h dr g cl a b rv ns ts p)(s:Same H H'):W62 CG H' h dr g cl a b rv ns ts p:=
 %[s _ _ w.hh,w.RW.mono (aZ s),s _ _ w.hd,w.G.same s,w.k,w.n6,w.nd,w.d60|s _ _ w.hc]
theorem W62.hn       (w:W62 CG H h dr g cl a b rv ns ts p):Hon ns ts p hons:=hon_B (x:="i") w.k (zP0 w.n6 ⋯) w.nd w.d60
abbrev pE(a0 h:Addr)(x2 x3 x4 x5 x6 x7 x8 x9 x10 x11:Option V):St:=[some (.ref a0),some (.ref h),x2,x3,x4,x5,x6,x7,x8,x9,x10,x11]
inductive tA62(Dn:Ends)(σ:St)(H:Hp):Prop
 |mk:∀(a0 h f:Addr)(x2 x5 x6 x7 x8 x9 x10 x11:Option V)(z:Int)(H0:Hp)(rv:List V),σ=pE a0 h x2 (some (.ref f)) (some (.int z)) x5 x6 x7 x8 x9 x10 x11->z=0∨z=1->Same H0 H->H0 f=none->FeedAt H f->H0 h=some (.tup rv)->RowsAt H0 rv hons->(∀x2 x3 x4 x5 x6 x7 x8 x9 x10 x11 H',Same H0 H'->Dn.nx (pE a0 h x2 x3 x4 x5 x6 x7 x8 x9 x10 x11) H')->tA62 Dn σ H
inductive tB62(CG:Addr)(Dn:Ends)(σ:St)(H:Hp):Prop
 |mk:∀(a0 h f dr g cl a b:Addr)(x2 x4 x9 x10 x11:Option V)(H0:Hp)(rv:List V)(ns:List Str)(ts:List Tr)(p:Int),σ=pE a0 h x2 (some (.ref f)) x4 (some (.ref dr)) (some (.ref g)) (some (.int (bJ ns ts:Int))) (some (.ref cl)) x9 x10 x11->Same H0 H->H0 f=none->FeedAt H f->W62 CG H0 h dr g cl a b rv ns ts p->(∀x2 x3 x4 x5 x6 x7 x8 x9 x10 x11 H',Same H0 H'->Dn.nx (pE a0 h x2 x3 x4 x5 x6 x7 x8 x9 x10 x11) H')->tB62 CG Dn σ H
inductive tC62(CG:Addr)(Dn:Ends)(σ:St)(H:Hp):Prop
 |mk:∀(a0 h f dr g cl a b:Addr)(x2 x3 x4 x9 x10 x11:Option V)(rv:List V)(ns:List Str)(ts:List Tr)(p:Int),σ=pE a0 h x2 x3 x4 (some (.ref dr)) (some (.ref g)) (some (.int (bJ ns ts:Int))) (some (.ref cl)) x9 x10 x11->W62 CG H h dr g cl a b rv ns ts p->(∀x2 x3 x4 x5 x6 x7 x8 x9 x10 x11 H',Same H H'->Dn.nx (pE a0 h x2 x3 x4 x5 x6 x7 x8 x9 x10 x11) H')->tC62 CG Dn σ H
theorem FU(ns:List Str)(ts:List Tr):ns.length+(if 1<ts.length then 1 else 0)<=bJ ns ts∨ts.length=0:=by
 unfold bJ
 by_cases c:ts.length=1
 . rw[zC0 c,zA0 #[0]];exact .inl (zG0 _)
 . rw [zA0 c]
   by_cases d:1<ts.length
   . rw[zC0 d];exact .inl (zG0 _)
   . exact .inr #[0]
theorem eV:FnScope ["_law_script","_law_helper","_law_k","_law_feed_here","_law_great","_law_built","_law_game_here","_law_many","_law_counts","_law_turn","_law_coins_here","_law_found"] ["_law_script"] (aq lY):=%[1,1,1,4,1,4|4]
theorem HC   (F:Fun K "law" "law" lY f fd) (B:Bl mg) (TG:GTxt K mg CG) (MG:Mk K CG fI) (GI:FnOk P w K mg base CX0 14 fI fdI ["self","switches","trees","field"] (spGInit CG)) (bI:Binds K fdI ["self","switches","trees","field"] [])
 (mC:Meth K CG "coins" fC) (GC:FnOk P w K mg base CX0 1 fC fdC ["self"] (spCoins CG)) (bC:Binds K fdC ["self"] [])
 (A7:Cal P w K mg base 1 "_law_feed" ["_law_script","_law_k"] (spFeed K)) (aR:Cal P w K mg base 1 "_law_take" ["_law_feed_here","_law_many"] spTake) (A8:Cal P w K mg base 14 "_law_game" ["_law_feed_here","_law_most","_law_room"] spGame)
 (qc:Cal P w K mg base 2 "_law_coins" ["_law_feed_here","_law_game_here","_law_many"] spLCoins) (jS:Cal P w K mg base 1 "_law_power" ["_law_p","_law_many"] spPow)
 (m5:Cal P w K mg base 22 "honest" [] spHonest) (Cu:Cal P w K mg base 1 "idle" [] spIdle) (iZ:Cal P w K mg base 1 "look_helper" ["helper"] spLook) (f8:Cal P w K mg base 22 "_law_is_written" ["_law_helper"] spWrit)
 (b7:Cal P w K mg base 16 "counts_of" ["game"] (spCounts CG)) (je:Cal P w K mg base 17 "_law_talk_due" ["_law_game_here","_law_coins_here"] (spTalkDue CG))
 (A9:Cal P w K mg base 27 "talked" ["game","helper","coins"] (spTalked C CM CG)) (qw:Cal P w K mg base 36 "weighed" ["game","helper"] (spWeighed C CM CG)):FnOk P w K mg base CX0 37 f fd ["_law_script"] (spLaw K):=by
 exists eV
 erw[a0,ns0,1,hS,h63,q]at h;have hr1:Room 1 _:=hr.mono ⋯;have hr15:Room (14+1) _:=hr.mono ⋯;have s1:1<=sizeLine:=by decide
 have s2:2<=sizeLine:=by decide
 refine⟨_,(ae #[ax,1,eV,pU m5 hr ⋯ rfl]
  (ae (aO (PW.pt (ig (ao Az (aB iZ hr ⋯ rfl %[1|ag]) eN (aE _)) (ig (ao (rb hr.units) (pU Cu hr ⋯ rfl) (aV ag) (aE _)) (gy (ao (rb hr.units) (pU m5 hr ⋯ rfl) (pv 1) (aE _)))))) (ai (au eN)) aF)
  (ae (aO (PW.pt (ig (gA (dY (aB f8 hr ⋯ rfl %[1|ag]))) (gy (gA (dY (aB f8 hr ⋯ rfl %[pU Cu hr ⋯ rfl|ag])))))) (ai (au eN)) aF)
  (ae (cI PassesOwn.never rfl (bX rfl B.range %[aM (oK rfl) rfl B.max PyProof.Rows.boot_max %[aj,aM (BA rfl) rfl B.min PyProof.Rows.boot_min %[aj,aM aN rfl B.len PySem.boot_len %[0|ag]|ag]|ag]|ag]) (bt (i:=2) eV.nd rfl (.inl rfl)) (ae #[ax,3,eV,aB A7 hr ⋯ rfl %[0,2|ag]]
   (ae #[ax,4,eV,bh BB rfl B.int kX %[lJ (fK aW (aB aR hr ⋯ rfl %[3,aj|ag]) aj (aE _)) (ou (fK aW (pv 2) aj (aE _)))|ag]]
   (jx (t':=tA62) (ae #[ax,5,eV,aB A8 hr ⋯ rfl %[3,aP ix_list (ca %[aj,aj|ag]) (pv 4) (λ_ _=>rfl),aP ix_list (ca %[aj,aj|ag]) (pv 4) (λ_ _=>rfl)|ag]]
   (ae #[ax,6,eV,gJ MG GI hr15 rfl TG.mgC bI .nil bc %[aP ix_tup (pv 5) aj (λ_ _=>rfl),aP ix_tup (pv 5) aj (λ_ _=>rfl),aP ix_tup (pv 5) aj (λ_ _=>rfl)|ag]]
   (ae #[ax,7,eV,bw (pv 6) TG.cl mC GC hr1 bC .nil bc]
   (ae #[ax,8,eV,aB b7 hr ⋯ rfl %[6|ag]]
   (jx (t':=tB62 CG) (ae (cI PassesOwn.never rfl (bX rfl B.range %[aj|ag]) (bt (i:=9) eV.nd rfl (.inl rfl)) (ae #[ax,10,eV,aB qc hr ⋯ rfl %[3,5,7|ag]]
    (ae #[ax,11,eV,aB A9 hr ⋯ rfl %[6,1,10|ag]]
    (ai (aO (ao (rb hr.units) (pv 11) (aV %[aB je hr ⋯ rfl %[6,10|ag],aV %[aJ|ag]|ag]) (aE _)) (ai (au eN)) aF)))))
   (jx (t':=tC62 CG) (ae (aO (PW.pt (lH (ao eO (aB jS hr ⋯ rfl %[aD (pv 6) rfl,7|ag]) aj (aE _)) (kK (ao (rb hr.units) (aB qw hr ⋯ rfl %[6,1|ag]) (aV %[aB jS hr ⋯ rfl %[aD (pv 6) rfl,7|ag],ow|ag]) (aE _))))) (ai (au eN)) aF)
    (jx (t':=tC62 CG) (ai (aO (ao (rb hr.units) (aB b7 hr ⋯ rfl %[6|ag]) (pv 8) (aE _)) (ai (au eN)) aF)) ?cD)) ?cC)) ?cB))))) ?cA))))
  (ai (au eN)))))),?_⟩
 case cD=>
  rintro Dn σ H ⟨a0,h,f,dr,g,cl,a,b,x2,x3,x4,x9,x10,x11,rv,ns,ts,p,rfl,W,q⟩;let%[ga,gb,gd,tv,GA,ha,hb,TS|hd]:=id W.G;have n6:=W.n6;erw[0,g,ga,gb,gd,ns,tv,ts,p,1,GA,ha,3,hb,TS,W.k.t10,λt ht=>%[(W.k.tok t ht).1|by have:=(W.k.tok t ht).2.2.1;omega],λl H1 l0 S1 hl=>?_];erw[0,_,_,.lst (zH0 hl) (ie _),.lst (zH0 (S1 _ _ W.hc)) (ie _),sO _,sO _,0,6];rw[Id,decide_eq_true rfl];exact cO (q _ _ _ _ _ _ _ _ _ _ H1 S1)
 case cC=>
  rintro Dn σ H ⟨a0,h,f,dr,g,cl,a,b,x2,x3,x4,x9,x10,x11,rv,ns,ts,p,rfl,W,q⟩;let%[ga,gb,gd,tv,%[dx|hg]|_]:=id W.G;have n6:=W.n6;have k:=W.k;have p2:=k.p2;have p9:=k.p9;have cn:bJ ns ts<=5:=by unfold bJ;split <;> omega
  have en:((bJ ns ts:Nat):Int).toNat=bJ ns ts:=by omega
  erw[0,g,CG,dx,_,0,hg,TG.cl,TG.nF,fc ..,0,p,0,3,3,3,3,6];rw[en];erw[2,0,6]
  by_cases c:p ^ bJ ns ts<82
  . refine bb c ?_;erw[0,0,g,h,rv,hons,ns,ts,p,1,W.G,k,3,W.hh,W.RW,zA,3,λo H1 S1 W1=>?_];rw[va k #[0] W.nd W.hn]at W1;erw[v1,h1,o1]at W1;erw[0,g,CG,dx,_,0,S1 _ _ hg,TG.cl,TG.nF,fc ..,0,p,0,3,3,3,3,s2,λu hu=>?_];rw[en];have I:=zE0 hu (.tup [.int (p ^ bJ ns ts),.non]);have e:upd H1 u (.tup [.int (p ^ bJ ns ts),.non]) u=_:=am;generalize upd H1 u (.tup [.int (p ^ bJ ns ts),.non])=H2 at I e;erw[wtD (p ^ bJ ns ts,none),wtD (p ^ bJ ns ts,none),.tup (zB0 (I _ _ h1)) (.cons (.int _) (.cons (o1.mono (aZ I)).rep .nil)),.tup (zB0 e) (.cons (.int _) (.cons .non .nil)),nJ _,nJ _,0,6];rw[GX];have S2:=S1.trans I;exact cO ⟨a0,h,f,dr,g,cl,a,b,_,_,_,_,_,_,rv,ns,ts,p,rfl,W.same S2,λ_ _ _ _ _ _ _ _ _ _ H' S'=>q _ _ _ _ _ _ _ _ _ _ H' (S2.trans S')⟩
  . exact aI c %[a0,h,f,dr,g,cl,a,b,_,_,_,_,_,_,rv,ns,ts,p,1,W|q]
 case cB=>
  rintro Dn σ H ⟨a0,h,f,dr,g,cl,a,b,x2,x4,x9,x10,x11,H0,rv,ns,ts,p,rfl,S,f0,FH,W,q⟩;have n6:=W.n6;have k:=W.k;have p2:=k.p2;have p9:=k.p9;have t1:=k.t1;have cn:bJ ns ts<=5:=by unfold bJ;split <;> omega
  erw[(3),1,4,4,dq (λi σ H'=>∃x9 x10 x11:Option V,σ=pE a0 h x2 (some (.ref f)) x4 (some (.ref dr)) (some (.ref g)) (some (.int (bJ ns ts:Int))) (some (.ref cl)) x9 x10 x11/\FeedAt H' f/\Same H0 H') %[_,_,0,FH|S] ?_ ?_]
  . rintro i σ H1 hi ⟨x9,x10,x11,rfl,F1,S1⟩;erw[0,0,0,f,dr,a,b,p,0,F1,S1 _ _ W.hd,p2,p9,3,3,λlc cs H2 lc0 hlc cl' co F2 S2=>?_];have J2:Same H0 H2:=λc o e=>S2 _ _ (aQ e f0) (S1 _ _ e)
    have W2:=W.same J2;have cle:cs.length=bJ ns ts:=by omega
    erw[0,0,0,g,h,lc,rv,hons,ns,ts,p,cs,1,W2.G,k,3,W2.hh,W2.RW,zA,.inl hlc,co,(by rcases FU ns ts with z | z <;> omega),3,λaf H3 S3 Tf=>?_];have W3:=W2.same S3;erw[0,0,0,g,lc,ns,ts,p,cs,1,W3.G,k,3,S3 _ _ hlc,co,cle,λad us H4 S4 hus TU=>?_];erw[s1,λu hu=>%[s2|λv hv=>?_]];have I5:=zE0 hu (.tup [.str "believed"]);have e5:upd H4 u (.tup [.str "believed"]) u=_:=am;generalize upd H4 u (.tup [.str "believed"])=H5 at hv I5 e5;have I6:=zE0 hv (.tup [.ref ad,.ref u]);have e6:upd H5 v (.tup [.ref ad,.ref u]) v=_:=am;generalize upd H5 v (.tup [.ref ad,.ref u])=H6 at I6 e6;have J46:=I5.trans I6;have hn:=W.hn;have ea:(lg ns ts p hons cs).2.z.aw=(("believed":Str),none):=rJ k #[0] W.nd hn co;have ww:AwW (lg ns ts p hons cs).2.z.aw.1:=by rw[ea];exact .inr (.inr (.inr rfl))
    have ed:lO (lg ns ts p hons cs)=.tuple [.tuple ((FP ns ts p cs).map TR.data),.tuple [.str "believed"]]:=by
     unfold lO;rw[ea,show(lg ns ts p hons cs).1=FP ns ts p cs from DX k #[0] W.nd hn co cle];rfl
    have sh:=oO ww;have ev:=BT ww;have r1:=((Tf.same (aZ S4)).same (aZ J46)).rep (K:=K);rw[ed]at sh ev r1;erw[_,_,r1,.tup (zB0 e6) (.cons (.tup (zB0 (J46 _ _ hus)) (TU.mono (aZ J46)).rep) (.cons (.tup (zB0 (I6 _ _ e5)) (.cons (.str _) .nil)) .nil)),sh,sh,0,6];rw[ev];have J36:=S3.trans (S4.trans J46);exact cO ⟨_,_,_,rfl,F2.same J36,J2.trans J36⟩
  . rintro σ H1 ⟨x9,x10,x11,rfl,F1,S1⟩;erw[a0,h,f,dr,g,cl,a,b,_,_,_,_,_,_,rv,ns,ts,p,1,W.same S1,λ_ _ _ _ _ _ _ _ _ _ H' S'=>q _ _ _ _ _ _ _ _ _ _ H' (S1.trans S')]
 case cA=>
  rintro Dn σ H ⟨a0,h,f,x2,x5,x6,x7,x8,x9,x10,x11,z,H0,rv,rfl,hz,S,f0,FH,hh,RW,q⟩;obtain⟨m,r,em,er,m0,m4,r1,r30⟩:∃m r:Int,atI [V.int 4,V.int 2] z=some (.int m)/\atI [V.int 8,V.int 30] z=some (.int r)/\0<=m/\m<=4/\1<=r/\r<=30:=by
   rcases hz with rfl | rfl
   . erw[(4),(8),1,1,4,4,4,4]
   . erw[(2),(30),1,1,4,4,4,4]
  erw[0,s2,λl1 hl1=>?_];have I1:=zE0 hl1 (.lst [.int 4,.int 2]);have e1:upd H l1 (.lst [.int 4,.int 2]) l1=_:=am;generalize upd H l1 (.lst [.int 4,.int 2])=H1 at I1 e1;erw[0,l1,_,2,zH0 e1,em,s2,λl2 hl2=>?_];have I2:=zE0 hl2 (.lst [.int 8,.int 30]);have e2:upd H1 l2 (.lst [.int 8,.int 30]) l2=_:=am;generalize upd H1 l2 (.lst [.int 8,.int 30])=H2 at I2 e2;have S2:=S.trans (I1.trans I2);erw[0,l2,_,2,zH0 e2,er,f,m,r,1,FH.same (I1.trans I2),m0,3,r1,r30,λdr a b ns tv ts p H3 hdr ha nl snok nd hb TS tl1 tl4 tok pp p3 p9 tp tc F3 S3=>?_];have k:GmK ns ts p:=%[pp,p3,p9,3,tl1,3,λt ht=>%[(tok t ht).1,Tr.ok_wf snok t (tok t ht).1,by have:=(tok t ht).2.1;omega|by have:=(tok t ht).2.2;omega],tp|tc]
  have J3:Same H0 H3:=λc o e=>S3 _ _ (aQ e f0) (S2 _ _ e)
  erw[0,dr,_,(0),0,1,zB0 hdr,1,0,dr,_,(1),0,1,zB0 hdr,1,0,dr,_,(2),0,1,zB0 hdr,1,λg dg hg0 hdg0 ng=>?_];have K3:Same H3 (upd (upd H3 dg (.own g)) g (.ins CG dg [])):=λa o e=>by
   rw[aG (aQ e hg0),aG (aQ e hdg0)];exact e
  erw[g,dg,a,b,ns,tv,ts,p,1,am,K3 _ _ ha,nd,3,K3 _ _ hb,TS.mono (aZ K3),tl1,3,k.tok,pp,p3,p9,tp,tc,λgd H4 gd0 GA hgd S4=>%[1|6]];have T4:Same H3 H4:=Same.but K3 hg0 S4;let%[dx|hg]:=id GA;erw[0,g,dx,0,hg,pw _ _ _ _ ⋯ ⋯ ⋯ ⋯,g,a,b,gd,ns,tv,p,1,GA,T4 _ _ ha,T4 _ _ hb,6];rw[show(if tv.length=1 then(ns.length:Int)else(ns.length:Int)+1)=((bJ ns ts:Nat):Int) by rw[TS.length];unfold bJ;split <;> rfl];erw[0,g,a,b,gd,ns,tv,ts,p,1,GA,T4 _ _ ha,3,T4 _ _ hb,TS.mono (aZ T4),3,λt ht=>%[(tok t ht).1|by have:=(tok t ht).2.1;omega],λcl H5 cl0 S5 hcl=>?_];have F4:=F3.same T4;have F5:=F4.same S5;let%[fx,ft,hf|_]:=id F5;let%[fx3,ft3,hf3|_]:=id F3;let%[fx4,ft4,hf4|_]:=id F4;have nf:∀{c:Addr}{o:HO},H5 c=some o->(∀ys,o≠.lst ys)->mf f H5 c=some o:=λe n=>wb e (pW F5 e n)
  have kmf:cg H5 (mf f H5):=λc xs e=>nf e (λys z=>by cases z)
  have M0:Same H0 (mf f H5):=λc o e=>wb (S5 _ _ (T4 _ _ (J3 _ _ e))) (aQ e f0)
  have dgf:gd≠f:=λz=>by rw[z,K3 _ _ hf3]at gd0;cases gd0
  have gf':g≠f:=λz=>by rw[z,hf3]at hg0;cases hg0
  have clf:cl≠f:=λz=>by rw[z,hf4]at cl0;cases cl0
  have J5:=T4.trans S5;refine⟨a0,h,f,dr,g,cl,a,b,_,_,_,_,_,mf f H5,rv,ns,ts,p,rfl,λc o e=>by
   by_cases n:c=f
   . rw[show mf f H5 c=none from zC0 n]at e;cases e
   . rwa [show mf f H5 c=H5 c from zA0 n]at e,zC0 rfl,F5,%[M0 _ _ hh,RW.mono (aZ M0),kmf _ _ (J5 _ _ hdr),%[a,b,gd,tv,%[dx|wb (S5 _ _ hg) gf'],kmf _ _ (J5 _ _ ha),kmf _ _ (J5 _ _ hb),(TS.mono (aZ J5)).mono kmf|wb (S5 _ _ hgd) dgf],k,3,nd,λy hy=>?_|wb hcl clf],λ_ _ _ _ _ _ _ _ _ _ H' S'=>q _ _ _ _ _ _ _ _ _ _ H' (M0.trans S')⟩
  have t0:ts≠[]:=λz=>by rw[z]at tl1;cases tl1
  have:=mV (x:=y) (p:=60) t0 λt ht=>by
   have h1:=List.count_le_length (a:=y) (l:=t.names);have h2:=t.names_len;have h3:=(tok t ht).2.2;omega
  omega
 erw[1,λh rv H1 hh RW S1=>?_];erw[0,h,rv,hons,1,hh,RW,Bk,λH2 S2=>%[true,true,1,1,0|cO ?_]];erw[1,λia hia=>%[(by show 0<=sizeLine;decide)|λib hib=>?_]];have I3:=zE0 hia (.tup []);have e3:upd H2 ia (.tup []) ia=_:=am;generalize upd H2 ia (.tup [])=H3 at hib I3 e3;have I4:=zE0 hib (.tup []);have e4:upd H3 ib (.tup []) ib=_:=am;generalize upd H3 ib (.tup [])=H4 at I4 e4;erw[_,_,.tup (zB0 (I4 _ _ e3)) .nil,.tup (zB0 e4) .nil,nil_eqv.1,nil_eqv.1,0,6];rw[nil_eqv.2];refine cO ?_;erw[1,λh2 rv2 H5 hh2 RW2 S5=>?_];have J5:=S2.trans (I3.trans (I4.trans S5));have hh5:=J5 _ _ hh;have RW5:=RW.mono (aZ J5);erw[0,wv,wv,.tup (zB0 hh2) (qN RW2),.tup (zB0 hh5) (qN RW5),uZ,uZ,0,6];rw[DW];refine cO ?_;erw[0,h,rv,hons,1,hh5,RW5,sY,λH6 S6=>%[0|cO ?_]];erw[1,λic hic=>%[ic,[],[],1,am,RowsAt.nil,%[4|λr hr=>by cases hr]|λH7 S7=>%[0|cO ?_]]];have J7:=S6.trans ((zE0 hic _).trans S7);have hh7:=J7 _ _ hh5;have RW7:=RW5.mono (aZ J7);have hS7:=(S1.trans (J5.trans J7)).seq hS;clear J5 J7 S1 S2 S5 S6 S7 hh hh5 RW RW5 e3 e4 I3 I4 hh2 RW2;have hl:(ns0.map V.int).length=ns0.length:=zF0 _;erw[0,a0,0,.inl hS7,_,0,_,0,6];erw[0,by(repeat' split) <;> omega,by(repeat' split) <;> omega,dq (λi σ H'=>∃x2 x3 x4 x5 x6 x7 x8 x9 x10 x11:Option V,σ=pE a0 h x2 x3 x4 x5 x6 x7 x8 x9 x10 x11/\Same H7 H') %[_,_,_,_,_,_,_,_,_,0|Same.refl _] ?_ ?_]
 . rintro i σ H0 hi ⟨x2,x3,x4,x5,x6,x7,x8,x9,x10,x11,rfl,S0⟩;have hi':i<63:=by
    rw[hl]at hi
    revert hi
    (repeat' split) <;> omega
   erw[0,0,a0,ns0,0,S0.seq hS7,h63,(show(0:Int)<=0+(i:Int) by omega),(show(0:Int)+(i:Int)<1000000 by omega),λf H1 f0 S1 F1=>?_];erw[0,f,(8),1,F1,4,4,λd H2 d0 d8 F2 B2=>%[1,0|6]];have J2:Same H0 H2:=λc o e=>B2 _ _ (aQ e f0) (S1 _ _ e)
   have fin:∀(Dn:Ends)(x2:Option V)(z:Bool),(∀x2 x3 x4 x5 x6 x7 x8 x9 x10 x11 H',Same H0 H'->Dn.nx (pE a0 h x2 x3 x4 x5 x6 x7 x8 x9 x10 x11) H')->tA62 Dn (pE a0 h x2 (some (.ref f)) (some (.int (if z then 1 else 0))) x5 x6 x7 x8 x9 x10 x11) H2:=λDn x2 z hq=>%[a0,h,f,_,_,_,_,_,_,_,_,_,H0,rv,1,by cases z;exact .inl rfl;exact .inr rfl,J2,f0,F2,S0 _ _ hh7,RW7.mono (aZ S0)|hq]
   have nx:∀(x2 x3 x4 x5 x6 x7 x8 x9 x10 x11:Option V)(H':Hp),Same H0 H'->∃y2 y3 y4 y5 y6 y7 y8 y9 y10 y11:Option V,pE a0 h x2 x3 x4 x5 x6 x7 x8 x9 x10 x11=pE a0 h y2 y3 y4 y5 y6 y7 y8 y9 y10 y11/\Same H7 H':=λx2 x3 x4 x5 x6 x7 x8 x9 x10 x11 H' S'=>%[x2,x3,x4,x5,x6,x7,x8,x9,x10,x11,1|S0.trans S']
   refine pO (λc=>?_) (λc=>?_)
   . erw[0,1,.inr %[0|fin _ _ _ nx]]
   . exact .inr %[0|fin _ _ _ nx]
 . rintro σ H1 ⟨x2,x3,x4,x5,x6,x7,x8,x9,x10,x11,rfl,S0⟩;exact q _
end
theorem kept_vals {a b c d e f g h i j k l:Tok}:Vals (kept.map V.str) [.str "yes" a,.str "no" b,.str "not" c,.str "and" d,.str "or" e,.str "odd" f,.str "same" g,.str "round" h,.str "due" i,.str "asked" j,.str "true" k,.str "coin" l]:=
 .cons %[|0] (.cons ⟨_,rfl⟩ (.cons ⟨_,rfl⟩ (.cons ⟨_,rfl⟩ (.cons ⟨_,rfl⟩ (.cons ⟨_,rfl⟩ (.cons ⟨_,rfl⟩ (.cons ⟨_,rfl⟩ (.cons ⟨_,rfl⟩ (.cons ⟨_,rfl⟩ (.cons ⟨_,rfl⟩ (.cons ⟨_,rfl⟩ .nil)))))))))))
theorem sign_vals {a b c d e f:Tok}:Vals (signW.map V.str) [.str "+" a,.str "-" b,.str "*" c,.str "/" d,.str "=" e,.str "<" f]:=
 .cons %[|0] (.cons ⟨_,rfl⟩ (.cons ⟨_,rfl⟩ (.cons ⟨_,rfl⟩ (.cons ⟨_,rfl⟩ (.cons ⟨_,rfl⟩ .nil)))))
theorem ask_vals {a b:Tok}:Vals (askW.map V.str) [.str "coin" a,.str "true" b]:=.cons %[|0] (.cons ⟨_,rfl⟩ .nil)
theorem plain_vals {a b c:Tok}:Vals (plainW.map V.str) [.str "round" a,.str "due" b,.str "asked" c]:=.cons %[|0] (.cons ⟨_,rfl⟩ (.cons ⟨_,rfl⟩ .nil))
end
abbrev FH(K:W.Frag)(x:Str)(s:Stmt):Prop:=∃f,W.nsIn K mainGlobals x=some (some (.ref f))/\∃fd,Fun K x x s f fd
abbrev MH(K:W.Frag)(C:Addr)(x y:Str)(s:Stmt):Prop:=∃g,W.findIn K (.ref C) x=some (some (.ref g))/\W.isFn K (.ref g)=true/\∃fd,Fun K x y s g fd
abbrev CH (K:W.Frag) (x:Str) (C:Addr):Prop:=W.nsIn K mainGlobals x=some (some (.ref C))/\W.plainGet K C Str.empty=true/\W.hasDictIn K C=true/\W.plainOver K C=true/\W.findIn K (.ref C) "__setattr__"=some (some (.builtin "object.__setattr__"))/\W.makesIn K C=true/\W.keepIn K (.ref C)=true
abbrev HF(K:W.Frag)(C:Addr)(x:Str):Prop:=W.findIn K (.ref C) x=some none
abbrev HZ(K:W.Frag)(x:Str):Prop:=W.nsIn K mainGlobals x=some none
theorem aY{K:W.Frag}{h:Heap}{mg:Str->Option Value}(X:K.In h)(G:h.Ns mainGlobals mg)(z:FH K x s):∃f fd,Fun K x x s f fd/\mg x=some (.ref f):=by
 erw[f,a,fd,F]at z;erw[f,fd,F,W.mg_of X G a]
theorem cP{K:W.Frag}(z:MH K C x y s):∃f fd,Fun K x y s f fd/\Meth K C x f:=by
 erw[f,a,i,fd,F]at z;erw[f,fd,F,a,i,F.kp]
theorem all_mk {l:PySem.W.OpenLaw} {w:World} {K:W.Frag} {h:Heap} {mg:Str->Option Value} {fa fl CG C CA CM CS:Addr} (X:K.In h) (G:h.Ns mainGlobals mg) (hfa:mg "law"=some (.ref fa))
 {od an:Option Addr} {sl:Array (Option Value)} {oc kV dc pm cd ct:Value}
 {t1 t3 t4 t5 t6 u1 u2 u3 uh:Tok} {ka ja qa pa:Addr} {kd jd qd pd:Option Addr} {kits jits qits pits:Array Value} {kn jn qn pn:Nat} {ksl jsl qsl psl:Array (Option Value)}
 {te tm tr:Tok}
 (aL:W.nsIn K mainGlobals "law"=some (some (.ref fl))) (lL:K.lookup fl=some %[oc,od,.func (W.fnOf "law" "law" (jF lY) (fN lY) (aq lY) .none kV dc pm an cd ct)|sl]) (cL:W.codeIn K cd "law"=true) (kL:W.keepIn K (.ref fl)=true)
 (h0:FH K "is_name" oh)
 (h1:FH K "is_figures" jp)
 (h2:FH K "read_helper" iJ)
 (h3:FH K "helper_row" jt)
 (h4:FH K "next_name" jV)
 (h5:FH K "next_figures" hR)
 (h6:FH K "next_term" iD)
 (h7:FH K "term_in_bracket" dH)
 (h8:FH K "helper_text" iL)
 (h9:FH K "row_text" lB)
 (h10:FH K "term_text" iC)
 (h11:FH K "in_bracket" gH)
 (h12:FH K "power" uf)
 (h13:FH K "rows_of_coins" gt)
 (h14:FH K "all_settings" hZ)
 (h15:FH K "holds_at" jr)
 (h16:FH K "joined" qF)
 (h17:FH K "count_of" lF)
 (h18:FH K "trees_within" gZ)
 (h19:FH K "size_of" kG)
 (h20:FH K "names_in" ji)
 (h21:FH K "counts_of" kc)
 (h22:FH K "true_row" lA)
 (h23:FH K "honest" qG)
 (h24:FH K "idle" xI)
 (h25:FH K "is_field" lE)
 (h26:FH K "inverse_of" jq)
 (h27:FH K "is_number" jX)
 (h28:FH K "worth_of" jg)
 (h29:FH K "joined_worth" hV)
 (h30:FH K "degree_of" jZ)
 (h31:FH K "look_switches" gu)
 (h32:FH K "look_names" jj)
 (h33:FH K "look_field" jk)
 (h34:FH K "look_size" jW)
 (h35:FH K "look_helper" iK)
 (h36:FH K "value_at" ly)
 (h37:FH K "both_ends" kf)
 (h38:FH K "value_behind" gY)
 (h39:FH K "products" lC)
 (h40:FH K "inverse_factorials" dO)
 (h41:FH K "all_sizes" kh)
 (h42:FH K "value_of" jh)
 (h43:FH K "op_value" lD)
 (h44:FH K "divided" oi)
 (h45:FH K "asked_once" ju)
 (h46:FH K "talked" qz)
 (h47:FH K "weighed" nU)
 (h48:FH K "weighed_behind" dR)
 (h49:FH K "first_row" jY)
 (h50:FH K "_law_power" nZ)
 (h51:FH K "_law_feed" qE)
 (h52:FH K "_law_take" qB)
 (h53:FH K "_law_names" ci)
 (h54:FH K "_law_tree" lZ)
 (h55:FH K "_law_names_of" gG)
 (h56:FH K "_law_need" qC)
 (h57:FH K "_law_is_prime" jo)
 (h58:FH K "_law_field" oa)
 (h59:FH K "_law_game" qD)
 (h60:FH K "_law_coins" og)
 (h61:FH K "_law_alike" kI)
 (h62:FH K "_law_is_written" hU)
 (h63:FH K "_law_talk_due" jm)
 (gmc:CH K "Game" CG)
 (dbc:CH K "Doubter" C)
 (asc:CH K "Asking" CA)
 (mcc:CH K "Machine" CM)
 (scc:CH K "Scan" CS)
 (KW:MH K CG "__init__" "Game.__init__" uj)
 (gmmM:MH K CG "mix" "Game.mix" xJ)
 (gmmW:MH K CG "worth_at" "Game.worth_at" qH)
 (gmmC:MH K CG "coins" "Game.coins" qI)
 (dbmI:MH K C "__init__" "Doubter.__init__" ur)
 (dbmW:MH K C "waits" "Doubter.waits" qJ)
 (dbmU:MH K C "due" "Doubter.due" xL)
 (dbmH:MH K C "hear" "Doubter.hear" ut)
 (dbmT:MH K C "toss" "Doubter.toss" uq)
 (dbmC:MH K C "hear_claims" "Doubter.hear_claims" oj)
 (dbmB:MH K C "begin_rounds" "Doubter.begin_rounds" qL)
 (dbmR:MH K C "hear_row" "Doubter.hear_row" xK)
 (dbmG:MH K C "go_on" "Doubter.go_on" Cw)
 (dbmE:MH K C "look_at_trees" "Doubter.look_at_trees" qK)
 (dbmN:MH K C "twin" "Doubter.twin" uo)
 (asmI:MH K CA "__init__" "Asking.__init__" ux)
 (asmP:MH K CA "plain_value" "Asking.plain_value" qM)
 (asmC:MH K CA "coin_at" "Asking.coin_at" uy)
 (asmN:MH K CA "true_numbers" "Asking.true_numbers" om)
 (asmR:MH K CA "true_at" "Asking.true_at" uu)
 (mcmI:MH K CM "__init__" "Machine.__init__" ui)
 (mcmS:MH K CM "say" "Machine.say" xG)
 (mcmR:MH K CM "do_row" "Machine.do_row" xH)
 (mcmN:MH K CM "twin" "Machine.twin" ug)
 (scmI:MH K CS "__init__" "Scan.__init__" ue)
 (scmE:MH K CS "enter" "Scan.enter" qA)
 (scmS:MH K CS "sees" "Scan.sees" uc)
 (scmT:MH K CS "take" "Scan.take" ub)
 (scmW:MH K CS "word" "Scan.word" ua)
 (scmF:MH K CS "finish" "Scan.finish" nV)
 (qy:HF K CG "switches")
 (gmn_trees:HF K CG "trees")
 (gmn_field:HF K CG "field")
 (gmn_degrees:HF K CG "degrees")
 (dbn_game:HF K C "game")
 (dbn_awaited:HF K C "awaited")
 (dbn_claims:HF K C "claims")
 (dbn_s:HF K C "s")
 (dbn_heard:HF K C "heard")
 (dbn_tossed:HF K C "tossed")
 (dbn_held:HF K C "held")
 (dbn_places:HF K C "places")
 (asn_game:HF K CA "game")
 (asn_number:HF K CA "number")
 (asn_many:HF K CA "many")
 (asn_held:HF K CA "held")
 (asn_s:HF K CA "s")
 (asn_tossed:HF K CA "tossed")
 (asn_truths:HF K CA "truths")
 (mcn_game:HF K CM "game")
 (mcn_helper:HF K CM "helper")
 (mcn_next_round:HF K CM "next_round")
 (mcn_boxes:HF K CM "boxes")
 (scn_text:HF K CS "text")
 (scn_row:HF K CS "row")
 (scn_most_within:HF K CS "most_within")
 (scn_most_parts:HF K CS "most_parts")
 (scn_place:HF K CS "place")
 (scn_parts:HF K CS "parts")
 (g1:W.nsIn K mainGlobals "LETTERS"=some (some (.str LET t1)))
 (g3:W.nsIn K mainGlobals "LONGEST_NAME"=some (some (.int 6 t3)))
 (g5:W.nsIn K mainGlobals "KEPT_WORDS"=some (some (.ref ka)))
 (g6:K.lookup ka=some %[.type "tuple",kd,.seq kits kn|ksl])
 (g7:kits.size<=100)
 (g8:Vals (kept.map V.str) kits.toList)
 (e1:W.nsIn K mainGlobals "WORD_ENDS"=some (some (.str ENDS t4)))
 (e2:W.nsIn K mainGlobals "MOST_WITHIN"=some (some (.int 8 t5)))
 (e3:W.nsIn K mainGlobals "MOST_PARTS"=some (some (.int 20 t6)))
 (w1:W.nsIn K mainGlobals "FIGURES"=some (some (.str FIG u1)))
 (w2:W.nsIn K mainGlobals "MOST_FIGURES"=some (some (.int 12 u2)))
 (w3:W.nsIn K mainGlobals "MOST_ROWS_helptexts"=some (some (.int 60 u3)))
 (j5:W.nsIn K mainGlobals "SIGNS"=some (some (.ref ja)))
 (j6:K.lookup ja=some %[.type "tuple",jd,.seq jits jn|jsl])
 (j7:jits.size<=100)
 (j8:Vals (signW.map V.str) jits.toList)
 (q5:W.nsIn K mainGlobals "ASKING_WORDS"=some (some (.ref qa)))
 (q6:K.lookup qa=some %[.type "tuple",qd,.seq qits qn|qsl])
 (q7:qits.size<=100)
 (q8:Vals (askW.map V.str) qits.toList)
 (p5:W.nsIn K mainGlobals "PLAIN_WORDS"=some (some (.ref pa)))
 (p6:K.lookup pa=some %[.type "tuple",pd,.seq pits pn|psl])
 (p7:pits.size<=100)
 (p8:Vals (plainW.map V.str) pits.toList)
 (wh:W.nsIn K mainGlobals "HONEST_ROWS"=some (some (.str ("set i 0\nsay (true i)\nset i (+ i 1)\ngo 1":Str) uh)))
 (xmr:W.nsIn K mainGlobals "MOST_ROWS_weighing"=some (some (.int 4000 tr)))
 (ge:W.nsIn K mainGlobals "FIELDS_END"=some (some (.int 1000000 te)))
 (xmo:W.nsIn K mainGlobals "MOST_ROWS_DONE"=some (some (.int 200 tm)))
 (z0:HZ K "len") (z1:HZ K "range") (z2:HZ K "isinstance") (z3:HZ K "int") (z4:HZ K "bool") (z5:HZ K "list") (z6:HZ K "tuple") (z7:HZ K "max") (z8:HZ K "min") (z9:HZ K "reversed") (z10:HZ K "enumerate") (z11:HZ K "sum") (z12:HZ K "all") (z13:HZ K "zip") (z14:HZ K "dict") (z15:HZ K "str") :
 ∃fd:FuncData,(∀(s:Shared) (v:Value),BindsTo s fd %[[v]|[]] [("_law_script",v)])/\∀base:Heap,K.In base->base.Ns mainGlobals mg->FnOk l.prog w K mg base CX0 37 fa fd ["_law_script"] (spLaw K):=by
 have e:=hfa.symm.trans (W.mg_of X G aL);cases e;have KZ:=HY (st:=lY) lL cL kL;let%[_,_,G7|JK]:=aY X G h0;let%[_,_,q0|IU]:=aY X G h1;let%[_,_,nQ|IN]:=aY X G h2;let%[_,_,rH|IV]:=aY X G h3;let%[_,_,u9|Jm]:=aY X G h4;let%[_,_,lT|E4]:=aY X G h5;let%[_,_,vy|vA]:=aY X G h6;let%[_,_,u4|u5]:=aY X G h7;let%[_,_,n8|IO]:=aY X G h8;let%[_,_,C0|Jv]:=aY X G h9;let%[_,_,vB|vC]:=aY X G h10;let%[_,_,IW|IX]:=aY X G h11;let%[_,_,Ju|KU]:=aY X G h12;let%[_,_,jT|C1]:=aY X G h13;let%[_,_,lU|E5]:=aY X G h14;let%[_,_,C2|C3]:=aY X G h15;let%[_,_,IY|JS]:=aY X G h16;let%[_,_,C4|Jw]:=aY X G h17;let%[_,_,lV|E6]:=aY X G h18;let%[_,_,G9|ID]:=aY X G h19;let%[_,_,C5|C6]:=aY X G h20;let%[_,_,v3|Jn]:=aY X G h21;let%[_,_,C7|Jx]:=aY X G h22;let%[_,_,IZ|JT]:=aY X G h23;let%[_,_,JL|KY]:=aY X G h24;let%[_,_,C8|Jy]:=aY X G h25;let%[_,_,rY|I0]:=aY X G h26;let%[_,_,v4|Jo]:=aY X G h27;let%[_,_,C9|D1]:=aY X G h28;let%[_,_,lW|E7]:=aY X G h29;let%[_,_,v5|Jp]:=aY X G h30;let%[_,_,jU|D4]:=aY X G h31;let%[_,_,rZ|Ja]:=aY X G h32;let%[_,_,r6|Jb]:=aY X G h33;let%[_,_,v6|Jq]:=aY X G h34;let%[_,_,oS|IP]:=aY X G h35;let%[_,_,D6|Jz]:=aY X G h36;let%[_,_,v7|Jr]:=aY X G h37;let%[_,_,lX|E8]:=aY X G h38;let%[_,_,D7|JA]:=aY X G h39;let%[_,_,gO|m7]:=aY X G h40;let%[_,_,A0|Js]:=aY X G h41;let%[_,_,D8|EC]:=aY X G h42;let%[_,_,ED|JB]:=aY X G h43;let%[_,_,IE|JM]:=aY X G h44;let%[_,_,r8|Jc]:=aY X G h45;let%[_,_,Jd|JU]:=aY X G h46;let%[_,_,IF|JN]:=aY X G h47;let%[_,_,jf|jI]:=aY X G h48;let%[_,_,A3|Jt]:=aY X G h49;let%[_,_,IG|JO]:=aY X G h50;let%[_,_,Je|JV]:=aY X G h51;let%[_,_,Jf|JW]:=aY X G h52;let%[_,_,IH|JP]:=aY X G h53;let%[_,_,Jg|Jh]:=aY X G h54;let%[_,_,r9|sI]:=aY X G h55;let%[_,_,Ji|JX]:=aY X G h56;let%[_,_,tT|Jj]:=aY X G h57;let%[_,_,II|JQ]:=aY X G h58;let%[_,_,Jk|JY]:=aY X G h59;let%[_,_,IJ|JR]:=aY X G h60;let%[_,_,IK|IM]:=aY X G h61;let%[_,_,l6|E9]:=aY X G h62;let%[_,_,t8|Jl]:=aY X G h63;erw[gmgg,gmpg,gmhdi,gmpov,gmsat,gmmki,gmkcl]at gmc;erw[dbgg,dbpg,dbhdi,dbpov,dbsat,dbmki,dbkcl]at dbc;erw[asgg,aspg,ashdi,aspov,assat,asmki,askcl]at asc;erw[mcgg,mcpg,mchdi,mcpov,mcsat,mcmki,mckcl]at mcc;erw[scgg,scpg,schdi,scpov,scsat,scmki,sckcl]at scc;let%[_,_,JZ|J0]:=cP KW;let%[_,_,J1|J8]:=cP gmmM;let%[_,_,J9|Ka]:=cP gmmW;let%[_,_,Kb|JC]:=cP gmmC;let%[_,_,Kc|Kd]:=cP dbmI;let%[_,_,Ke|K2]:=cP dbmW;let%[_,_,Kf|K5]:=cP dbmU;let%[_,_,Kg|K7]:=cP dbmH;let%[_,_,Kh|K8]:=cP dbmT;let%[_,_,Ki|K9]:=cP dbmC;let%[_,_,Kj|Kk]:=cP dbmB;let%[_,_,Kl|La]:=cP dbmR;let%[_,_,Km|Kn]:=cP dbmG;let%[_,_,Ko|Lb]:=cP dbmE;let%[_,_,Kp|Lc]:=cP dbmN;let%[_,_,Kq|Kr]:=cP asmI;let%[_,_,Ks|Ld]:=cP asmP;let%[_,_,Kt|Le]:=cP asmC;let%[_,_,Ku|Lg]:=cP asmN;let%[_,_,Kv|Lh]:=cP asmR;let%[_,_,Kw|Kx]:=cP mcmI;let%[_,_,Ky|Li]:=cP mcmS;let%[_,_,Kz|Lj]:=cP mcmR;let%[_,_,KA|Ll]:=cP mcmN;let%[_,_,KB|KC]:=cP scmI;let%[_,_,KD|Lm]:=cP scmE;let%[_,_,KE|KF]:=cP scmS;let%[_,_,KG|Ln]:=cP scmT;let%[_,_,KH|Lo]:=cP scmW;let%[_,_,KI|Lq]:=cP scmF;have B:Bl mg:=%[W.mg_none_of X G z0,W.mg_none_of X G z1,W.mg_none_of X G z2,W.mg_none_of X G z3,W.mg_none_of X G z4,W.mg_none_of X G z5,W.mg_none_of X G z6,W.mg_none_of X G z7,W.mg_none_of X G z8,W.mg_none_of X G z9,W.mg_none_of X G z10,W.mg_none_of X G z11,W.mg_none_of X G z12,W.mg_none_of X G z13,W.mg_none_of X G z14|W.mg_none_of X G z15]
 erw[W.fnOf "law" "law" (jF lY) (fN lY) (aq lY) .none kV dc pm an cd ct,λs v=>.of_eq rfl,λbase _ _=>?_];have cal:=@Cal.of l.prog w K mg base;have TG:GTxt K mg CG:=%[%[gmpg,gmhdi,gmpov|gmsat],qy,gmn_trees,gmn_field,gmn_degrees|W.mg_of X G gmgg]
 have T:DTxt K mg C:=%[%[dbpg,dbhdi,dbpov|dbsat],dbn_game,dbn_awaited,dbn_claims,dbn_s,dbn_heard,dbn_tossed,dbn_held,dbn_places|W.mg_of X G dbgg]
 have TA:ATxt K mg CA:=%[%[aspg,ashdi,aspov|assat],asn_game,asn_number,asn_many,asn_held,asn_s,asn_tossed,asn_truths|W.mg_of X G asgg]
 have TM:MTxt K mg CM:=%[%[mcpg,mchdi,mcpov|mcsat],mcn_game,mcn_helper,mcn_next_round,mcn_boxes|W.mg_of X G mcgg]
 have TS:STxt K mg CS:=%[%[scpg,schdi,scpov|scsat],scn_text,scn_row,scn_most_within,scn_most_parts,scn_place,scn_parts|W.mg_of X G scgg]
 have TX:Tx K mg:=%[%[t1|W.mg_of X G g1],%[t3|W.mg_of X G g3],%[ka,W.mg_of X G g5|λ_=>.inr %[_,kits,kn,g6,1,1,zP0 g7 (cv ⋯)|g8]],%[t4|W.mg_of X G e1],%[t5|W.mg_of X G e2],%[t6|W.mg_of X G e3],%[u1|W.mg_of X G w1],%[u2|W.mg_of X G w2],%[u3|W.mg_of X G w3],%[ja,W.mg_of X G j5|λ_=>.inr %[_,jits,jn,j6,1,1,zP0 j7 (cv ⋯)|j8]],%[qa,W.mg_of X G q5|λ_=>.inr %[_,qits,qn,q6,1,1,zP0 q7 (cv ⋯)|q8]]|%[pa,W.mg_of X G p5|λ_=>.inr %[_,pits,pn,p6,1,1,zP0 p7 (cv ⋯)|p8]]]
 have Lr:=JZ.binds (ps:=["self","switches","trees","field"]) (by ac_rfl);have KJ:=J1.binds (ps:=["self","numbers","s"]) (by ac_rfl);have KK:=J9.binds (ps:=["self","point","s"]) (by ac_rfl);have JD:=Kb.binds (ps:=["self"]) (by ac_rfl);have JE:=Kc.binds (ps:=["self","game"]) (by ac_rfl);have Ls:=Ke.binds (ps:=["self"]) (by ac_rfl);have Lu:=Kf.binds (ps:=["self"]) (by ac_rfl);have Lv:=Kg.binds (ps:=["self","values"]) (by ac_rfl);have Lw:=Kh.binds (ps:=["self","r"]) (by ac_rfl);have Lx:=Ki.binds (ps:=["self","values"]) (by ac_rfl);have KL:=Kj.binds (ps:=["self","s"]) (by ac_rfl);have Ly:=Kl.binds (ps:=["self","values"]) (by ac_rfl);have KM:=Km.binds (ps:=["self"]) (by ac_rfl);have Lz:=Ko.binds (ps:=["self"]) (by ac_rfl);have LA:=Kp.binds (ps:=["self"]) (by ac_rfl);have LB:=Kq.binds (ps:=["self","game","number","many","due","s","coins"]) (by ac_rfl);have LC:=Ks.binds (ps:=["self","word"]) (by ac_rfl);have LE:=Kt.binds (ps:=["self","place"]) (by ac_rfl);have LF:=Ku.binds (ps:=["self"]) (by ac_rfl);have LG:=Kv.binds (ps:=["self","place"]) (by ac_rfl);have JF:=Kw.binds (ps:=["self","game","helper"]) (by ac_rfl);have LH:=Ky.binds (ps:=["self","many","due","s","coins"]) (by ac_rfl);have LI:=Kz.binds (ps:=["self","place","said","asking"]) (by ac_rfl);have LJ:=KA.binds (ps:=["self"]) (by ac_rfl);have LK:=KB.binds (ps:=["self","text","row","most_within","most_parts"]) (by ac_rfl);have LL:=KD.binds (ps:=["self","within"]) (by ac_rfl);have KN:=KE.binds (ps:=["self","signs"]) (by ac_rfl);have LM:=KG.binds (ps:=["self","signs"]) (by ac_rfl);have LN:=KH.binds (ps:=["self"]) (by ac_rfl);have LO:=KI.binds (ps:=["self"]) (by ac_rfl);have A7:=cal Je (AG Je B.len) JV (by ac_rfl);have aR:=cal Jf (AC Jf ) JW (by ac_rfl);have l7:=cal C8 (vQ C8 ) Jy (by ac_rfl);have eT:=cal rY (sC rY ) I0 (by ac_rfl);have eW:=cal v4 (uM v4 B) Jo (by ac_rfl);have dZ:=cal D7 (vO D7 ) JA (by ac_rfl);have eU:=cal gO (jO gO B dZ eT) m7 (by ac_rfl);have gP:=cal lX (pH lX B dZ eU) E8 (by ac_rfl);have cG:=cal D6 (vL D6 B gP) Jz (by ac_rfl);have li:=cal v7 (uQ v7 cG) Jr (by ac_rfl);have a7:=cal lV (pI lV ) E6 (by ac_rfl);have iI:=cal G9 (re G9 B ID a7 10) ID (by ac_rfl);have dP:=cal C5 (oY C5 C6 a7 10) C6 (by ac_rfl);have c8:=cal lW (pM lW ) E7 (by ac_rfl);have eZ:=cal C9 (oW C9 D1 c8 10) D1 (by ac_rfl);have kF:=cal v5 (uO v5 B.max dP) Jp (by ac_rfl);have gK:=cal jU (oz jU B.enumerate) D4 (by ac_rfl);have i7:=cal rZ (sw rZ dP) Ja (by ac_rfl);have i8:=cal r6 (sx r6 %[te|W.mg_of X G ge] l7) Jb (by ac_rfl);have kZ:=cal v6 (uL v6 B.max) Jq (by ac_rfl);have oU:=cal IH (ya IH B.range aR) JP (by ac_rfl);have gg:=cal Jg (sS Jg B.len Jh aR 10) Jh (by ac_rfl);have eY:=cal r9 (lm r9 sI 10) sI (by ac_rfl);have A4:=cal Ji (AD Ji B.len B.max eY) JX (by ac_rfl);have i4:=cal tT (sA tT B.range) Jj (by ac_rfl);have o5:=cal II (yb II aR i4) JQ (by ac_rfl);have A8:=cal Jk (AE Jk B.range B.tuple aR oU gg A4 o5) JY (by ac_rfl);have lh:=cal A0 (uR A0 B TG iI) Js (by ac_rfl);have LP:=Dk (P:=l.prog) (w:=w) (base:=base) JZ TG B.tuple B.len kF gK i7 i8 kZ;have KO:=Fw (P:=l.prog) (w:=w) (base:=base) J1 TG B.reversed;have KP:=AJ (P:=l.prog) (w:=w) (base:=base) J9 TG J8 KO KJ eZ;have JG:=AL (P:=l.prog) (w:=w) (base:=base) Kb TG B.len;have LQ:=AN (P:=l.prog) (w:=w) (base:=base) Ko B T TG Ka KP KK lh;have KQ:=HD (P:=l.prog) (w:=w) (base:=base) Km B T TG Lb LQ Lz;have KR:=AO (P:=l.prog) (w:=w) (base:=base) Kj T TG J8 KO KJ Kn KQ KM;have LR:=yf (P:=l.prog) (w:=w) (base:=base) Ki B T TG Kk KR KL;have LS:=Fx (P:=l.prog) (w:=w) (base:=base) Kl B T TG li;have LT:=Dp (P:=l.prog) (w:=w) (base:=base) Kg B T TG eW K9 LR Lx La LS Ly;have LU:=Dm (P:=l.prog) (w:=w) (base:=base) Kh B T TG eW cG Kk KR KL Kn KQ KM;have JH:=Do (P:=l.prog) (w:=w) (base:=base) Kc B T TG;have LV:=AM (P:=l.prog) (w:=w) (base:=base) Ke T;have LW:=Fy (P:=l.prog) (w:=w) (base:=base) Kf T;have c9:=cal lU (pN lU B.range) E5 (by ac_rfl);have gX:=cal IY (AH IY ) JS (by ac_rfl);have fh:=cal C2 (oZ C2 C3 gX 12) C3 (by ac_rfl);have l8:=cal C4 (vR C4 B.len c9 fh) Jw (by ac_rfl);have b7:=cal v3 (uP v3 TG l8) Jn (by ac_rfl);have fo:=cal C7 (vM C7 B TG Ka KP KK c9) Jx (by ac_rfl);have o7:=cal IE (ye IE eT) JM (by ac_rfl);have fJ:=cal ED (vP ED o7) JB (by ac_rfl);have LX:=Dr (P:=l.prog) (w:=w) (base:=base) Kq B TA;have LY:=AQ (P:=l.prog) (w:=w) (base:=base) Ks TA TG;have LZ:=Ds (P:=l.prog) (w:=w) (base:=base) Kt B TA TG;have L3:=yg (P:=l.prog) (w:=w) (base:=base) Ku TA b7 fo;have L4:=Dq (P:=l.prog) (w:=w) (base:=base) Kv B TA TG Lg L3 LF cG;have AF:AskF l.prog w K mg base CA CG _ _ _ _ _ _:=⟨Ld,LY,LC,Le,LZ,LE,Lh,L4,LG⟩
 have cH:=cal D8 (oX D8 EC TA TG AF fJ 5) EC (by ac_rfl);have JI:=Dj (P:=l.prog) (w:=w) (base:=base) Kw TM;have L6:=Fu (P:=l.prog) (w:=w) (base:=base) Kz B TM cH;have L8:=Ft (P:=l.prog) (w:=w) (base:=base) Ky B TM TA %[tm|W.mg_of X G xmo] ⟨asmki,Kr.1,Kr.2,askcl⟩ LX LB Lj L6 LI;have Y:Ways l.prog w K mg base C CM CG _ _ _ _ _ _ _ _ _ _:=⟨K2,LV,Ls,K5,LW,Lu,K7,LT,Lv,K8,LU,Lw,Li,L8,LH⟩
 have MDk:Mk K C _:=%[dbmki,Kd.1,Kd.2|dbkcl]
 have MMk:Mk K CM _:=%[mcmki,Kx.1,Kx.2|mckcl]
 have L9:=Dl (P:=l.prog) (w:=w) (base:=base) Kp T MDk JH JE;have Ma:=Di (P:=l.prog) (w:=w) (base:=base) KA B TM MMk JI JF;have Z:Twins l.prog w K mg base C CM CG _ _ _ _:=%[Lc,L9,LA,Ll,Ma|LJ]
 have bV:=cal r8 (sF r8 B T TM Y) Jc (by ac_rfl);have A9:=cal Jd (AA Jd B T TM Y MDk JH JE MMk JI JF bV) JU (by ac_rfl);have E3:=cal Ju (Dh Ju B) KU (by ac_rfl);have gN:=cal jT (oy jT TG JC JG JD E3) C1 (by ac_rfl);have eX:=cal A3 (uN A3 B TG JC JG JD) Jt (by ac_rfl);have di:=cal jf (iF jf jI B T TM TG Y Z bV eX 8) jI (by ac_rfl);have qw:=cal IF (xX IF T TM %[tr|W.mg_of X G xmr] MDk JH JE MMk JI JF gN di) JN (by ac_rfl);have Mb:=Dg (P:=l.prog) (w:=w) (base:=base) KB TS;have Mc:=AB (P:=l.prog) (w:=w) (base:=base) KD TS;have KS:=De (P:=l.prog) (w:=w) (base:=base) KE TS;have Md:=Dd (P:=l.prog) (w:=w) (base:=base) KG B TS KF KS KN;have Me:=Dc (P:=l.prog) (w:=w) (base:=base) KH B TX TS;have Mf:=xY (P:=l.prog) (w:=w) (base:=base) KI B TS;have M:Mths l.prog w K mg base CS _ _ _ _ _ _ _ _ _ _:=⟨Lm,Mc,LL,KF,KS,KN,Ln,Md,LM,Lo,Me,LN,Lq,Mf,LO⟩
 have eG:=cal G7 (yd G7 B TX) JK (by ac_rfl);have b9:=cal q0 (sB q0 B TX) IU (by ac_rfl);have eR:=cal vB (mv vB IW B TX vC IX 8) vC (by ac_rfl);have ma:=cal C0 (vN C0 B eR) Jv (by ac_rfl);have iX:=cal n8 (rk n8 ma) IO (by ac_rfl);have cZ:=cal vy (mx vy vA u4 u5 B TX TS M eG b9 8) vA (by ac_rfl);have lR:=cal u9 (uK u9 TS M eG) Jm (by ac_rfl);have f6:=cal lT (pJ lT B TS M b9) E4 (by ac_rfl);have i9:=cal rH (sE rH TX TS M %[scmki,KC.1,KC.2|sckcl] Mb LK lR f6 cZ) IV (by ac_rfl);have dC:=cal nQ (rf nQ B TX i9) IN (by ac_rfl);have m5:=cal IZ (AI IZ ⟨uh,W.mg_of X G wh⟩ dC) JT (by ac_rfl);have Cu:=cal JL (Fv JL ) KY (by ac_rfl);have iZ:=cal oS (rh oS B) IP (by ac_rfl);have iQ:=cal IK (rj IK B IM 11) IM (by ac_rfl);have f8:=cal l6 (pK l6 B iQ dC iX) E9 (by ac_rfl);have qc:=cal IJ (yc IJ B aR) JR (by ac_rfl);have jS:=cal IG (xZ IG B) JO (by ac_rfl);have je:=cal t8 (sy t8 B TG b7 fo) Jl (by ac_rfl);exact HC KZ B TG ⟨gmmki,J0.1,J0.2,gmkcl⟩ LP Lr JC JG JD A7 aR A8 qc jS m5 Cu iZ f8 b7 je A9 qw
theorem walk{l:PySem.W.OpenLaw}{q:Program}{loose:List Str}{XP:(Str->Option Value)->Heap->Prop}{YP:World->Heap->Prop}{d:DefRec}{K:Params->PySem.W.Frag}(hn:l.most=some 63)(hdf:d.params.defaults=[])
 (hY:∀(w:World)(h:Heap),YP w h->(K w.params).In h)
 (F:∀(w:World)(mg:Str->Option Value)(fa:Addr)(h:Heap),(K w.params).In h->h.Ns mainGlobals mg->mg d.name=some (.ref fa) ->
  ∃fd:FuncData,(∀(s:Shared) (u:Value),BindsTo s fd %[[u]|[]] [("_law_script",u)])/\∀base:Heap,(K w.params).In base->base.Ns mainGlobals mg->FnOk l.prog w (K w.params) mg base CX0 37 fa fd ["_law_script"] (spLaw (K w.params))) :
 PySem.W.WalkO q loose XP YP l.row.toRowW d [] (λf vs=>PySem.call f vs):=
 L2.walk_of (n:=63) (k:=37) (x:="_law_script") (CX:=λ_=>CX0) (sp:=λw=>spLaw (K w.params)) hn ⋯ hdf %[1,1,4|4] hY F (λ_ _ a ns hl _ hS=>%[a,ns,1,hS,hl|λ_=>rfl]) λ_ _ _ _ _ z=>z
end Mine
namespace PySem.W.Fast
def tw15446781086979760161:=()
def tw6376009589633333500:=()
def tw9931116514863323393:=()
def tw12383485480031304437:=()
def tw5082025792989974696:=()
def tw16300524360079124424:=()
def tw1253812203984007783:=()
def tw3233362414039057938:=()
def tw18082202997860263297:=()
def tw7365217843003233983:=()
def tw5773750173784242682:=()
def tw4758794685968781690:=()
def tw8271360075072436942:=()
def tw5042710058640257862:=()
def tw11716116469131671679:=()
def tw1344293259029222644:=()
def tw359682663810868473:=()
def tw6452633218887562575:=()
def tw1917899719154712668:=()
def tw10090243383283675558:=()
def tw2419059491515160958:=()
def tw517872488771303351:=()
def tw14097495589184960469:=()
def tw8185738420271767563:=()
def tw18298188938728108931:=()
def tw14631975183076438158:=()
def tw12593596407140667163:=()
def tw8850358413942986552:=()
def tw3879037763265840336:=()
def tw5653887609370286093:=()
def tw16585727708856179351:=()
def tw253247863619146119:=()
def tw5103322570121511803:=()
def tw10434550052359994123:=()
def tw11331252180049927798:=()
def tw11785345365020374946:=()
def tw5084201434026240475:=()
def tw10845790959679798683:=()
def tw5548405829951391860:=()
def tw4739303553850779868:=()
def tw1535383593423084389:=()
def tw6428638551335355976:=()
def tw7691779701746805059:=()
def tw12163235524332199899:=()
def tw11451632778943535599:=()
def tw5364637775004805370:=()
def tw16028680996055127629:=()
def tw11660738888429146332:=()
def tw2549516197161456376:=()
def tw8677685986495200188:=()
def tw6308731185516204140:=()
def tw1895913407283018569:=()
def tw9237441849138685830:=()
def tw14675801018366009704:=()
def tw9639915766920645379:=()
def tw16948119703060599322:=()
def tw15534059481523783855:=()
def tw7074946453379255048:=()
def tw15323133397426294718:=()
def tw16746506085691193189:=()
def tw15243665960458154328:=()
def tw7326677736515107519:=()
def tw18037597400105970002:=()
def tw1027914271818878286:=()
def tw15927263840261349536:=()
def tw8744999716605217248:=()
def tw7125840858695470457:=()
def tw6744056066019844357:=()
def tw5394274858671214311:=()
def tw2391752223303628337:=()
def tw6338115433171850739:=()
def tw8743802883543353677:=()
def tw3245807909365859055:=()
def tw4980808685486189750:=()
def tw4855324153046257175:=()
def tw4545268791036149243:=()
def tw14056159886739973352:=()
def tw13310018543999620081:=()
def tw11836194206877686259:=()
def tw12650108630488952095:=()
def tw5881409461768616182:=()
def tw1983802772562895899:=()
def tw12094761880788993452:=()
def tw497777245107694547:=()
def tw555345216275247737:=()
def tw16516099166481435833:=()
def tw10112109874908569318:=()
def tw9143757424416489424:=()
def tw3691945078984583494:=()
def tw1892344463041406848:=()
def tw12058265498302471663:=()
def tw8599560401872265572:=()
def tw12378297506953983019:=()
def tw13145879626875607292:=()
def tw14772622110473002092:=()
def tw15993560143752600659:=()
def tw9361389334787960143:=()
def tw11154754447411141797:=()
def tw12933095727296891357:=()
def tw8264736504143446476:=()
def tw10112330949134788618:=()
def tw206698343590607400:=()
def tw14173795718276085403:=()
def tw6083523032751840005:=()
def tw10904546591148881980:=()
def tw13553180535150770395:=()
def tw7304505669766108026:=()
def tw6959975381351470993:=()
def tw10625260099333302172:=()
def tw2620151319331524142:=()
def tw11005397999318625410:=()
def tw2631803594608127942:=()
def tw14616452504203574498:=()
def tw17862356306049118825:=()
def tw218310472873892720:=()
def tw15415100220175859847:=()
def tw5927011991986976292:=()
def tw4978175829314671998:=()
def tw15856270336635216575:=()
def tw13845643378822720782:=()
def tw15948593777817175259:=()
def tw786397814189878558:=()
def tw14591862399177761083:=()
def tw11352059593975572221:=()
def tw5339073030945931221:=()
def tw15251014653395561767:=()
def tw12210827277598939918:=()
def tw10147602173734523647:=()
def tw15457126820715896602:=()
def tw10960184916184655044:=()
def tw3912095938753592815:=()
def tw12494345534570611681:=()
def tw9132311366827885871:=()
def tw1801448320685409168:=()
def tw15973244884353309135:=()
def tw9158710860366345986:=()
def tw16557503179834724769:=()
def tw7365907172944014087:=()
def tw1543837298590253804:=()
def tw6239864901115239657:=()
def tw8578948609176092817:=()
def tw18173037669031463452:=()
def tw2993494802767276908:=()
def tw14830741931531324285:=()
def tw14586731760839696015:=()
def tw15237022882624115958:=()
def tw10149167053820504179:=()
def tw1040047719516824080:=()
def tw1448299681454318737:=()
def tw13152937413980138499:=()
def tw8125938905048558295:=()
def tw17369575319562935590:=()
def tw18339964983059386219:=()
def tw6029509687089946129:=()
def tw324153411621146880:=()
def tw6534508310844845018:=()
def tw12257163958121604658:=()
def tw5869209072143476295:=()
def tw3624197682557690461:=()
def tw5850561074899764447:=()
def tw11096810920101664512:=()
def tw64868184933641266:=()
def tw17880867931188684988:=()
def tw5521603276288897911:=()
def tw14727790051171394666:=()
def tw17330351206359354643:=()
def tw8413188371975914996:=()
def tw6997367524446906679:=()
def tw7336020679373072643:=()
def tw7185348885628839139:=()
def tw3943690009197863701:=()
def tw9813577591755222543:=()
def tw16598814549612948305:=()
def tw4913578565182203746:=()
def tw5360834590576016357:=()
def tw9925050099711320380:=()
def tw8760973279083838455:=()
def tw16905464124607793673:=()
def tw8738219849213078757:=()
def tw14982181432421205728:=()
def tw3376421766492615015:=()
def tw14767856891161412132:=()
def tw17529519097686039263:=()
def tw13375833190943038085:=()
def tw13558489916323819310:=()
def tw17912099897775401975:=()
def tw17338796052113580219:=()
def tw3433988272631983042:=()
def tw15430862132586933028:=()
def tw15395527943830781462:=()
def tw1644000120634689400:=()
def tw9694664132623547790:=()
def tw1683994699744826862:=()
def tw444066967384631964:=()
def tw2881845885322867117:=()
def tw10481888651586789907:=()
def tw14938461435022138234:=()
def tw14449881396331599112:=()
def tw8878524181319983807:=()
def tw12234004789017536883:=()
def tw7398764957625697458:=()
def tw6955624380592313661:=()
def tw12297554188715706273:=()
def tw17738905654375943867:=()
def tw16048119407553741897:=()
def tw15485638963992312771:=()
def tw7004456569497617876:=()
def tw12297348922404070986:=()
def tw17725828716849273865:=()
def tw9159399008980591468:=()
def tw8626074983774521947:=()
def tw17488940782766174320:=()
def tw10592227413016010654:=()
def tw3161697233664079267:=()
def tw3421803850616812808:=()
def tw18207487794385184378:=()
def tw17318330364903870755:=()
def tw1503240669601514029:=()
def tw14537655929930876835:=()
def tw6492422629653838007:=()
def tw13365260870534058716:=()
def tw16862714185725493284:=()
def tw143790145097210019:=()
def tw11359925810653466159:=()
def tw4836128273937628799:=()
def tw549699992360167562:=()
def tw1838583237083945984:=()
def tw8342203267381352286:=()
def tw9074439124228124352:=()
def tw316530805440061949:=()
def tw4941985467924949433:=()
def tw399324257544048831:=()
def tw10232613512758474401:=()
def tw8076122647753287844:=()
def tw4447996036446943020:=()
def tw9094252750599011641:=()
def tw9299593304471167439:=()
def tw2502644333475123238:=()
def tw17563617510330182167:=()
def tw14410899637367124738:=()
def tw1786849040985175707:=()
def tw15444017094150008038:=()
def tw12298415677193711609:=()
def tw12465839285132671658:=()
def tw11393498198764578028:=()
def tw11316003924592843583:=()
def tw4542337334313803453:=()
def tw6323565972736381511:=()
def tw6377764170640622207:=()
def tw8849702562819025016:=()
end PySem.W.Fast
open PySem PySem.W PyProof.Rows
set_option maxRecDepth 100000 in
set_option maxHeartbeats 0 in
theorem PySem.Challenge.cw_asktally_k62_whole_honest_is_believed_holds : PySem.Challenge.rw_asktally_k62_whole_honest_is_believed.Holds := by
 w_on; o_law; k_head; (case hw=>w_witness2)
 k_fill
 refine Mine.walk (l:=PySem.Challenge.rw_asktally_k62_whole_honest_is_believed) rfl rfl (λw h Y=>PySem.W.kIn_of Y) ?F
 case F =>
  intro w mg fa h KX G hmg
  refine' Mine.all_mk KX G hmg ?aL ?lL ?cL ?kL ?h0 ?h1 ?h2 ?h3 ?h4 ?h5 ?h6 ?h7 ?h8 ?h9 ?h10 ?h11 ?h12 ?h13 ?h14 ?h15 ?h16 ?h17 ?h18 ?h19 ?h20 ?h21 ?h22 ?h23 ?h24 ?h25 ?h26 ?h27 ?h28 ?h29 ?h30 ?h31 ?h32 ?h33 ?h34 ?h35 ?h36 ?h37 ?h38 ?h39 ?h40 ?h41 ?h42 ?h43 ?h44 ?h45 ?h46 ?h47 ?h48 ?h49 ?h50 ?h51 ?h52 ?h53 ?h54 ?h55 ?h56 ?h57 ?h58 ?h59 ?h60 ?h61 ?h62 ?h63 ?gmc ?dbc ?asc ?mcc ?scc ?KW ?gmmM ?gmmW ?gmmC ?dbmI ?dbmW ?dbmU ?dbmH ?dbmT ?dbmC ?dbmB ?dbmR ?dbmG ?dbmE ?dbmN ?asmI ?asmP ?asmC ?asmN ?asmR ?mcmI ?mcmS ?mcmR ?mcmN ?scmI ?scmE ?scmS ?scmT ?scmW ?scmF ?qy ?gmn_trees ?gmn_field ?gmn_degrees ?dbn_game ?dbn_awaited ?dbn_claims ?dbn_s ?dbn_heard ?dbn_tossed ?dbn_held ?dbn_places ?asn_game ?asn_number ?asn_many ?asn_held ?asn_s ?asn_tossed ?asn_truths ?mcn_game ?mcn_helper ?mcn_next_round ?mcn_boxes ?scn_text ?scn_row ?scn_most_within ?scn_most_parts ?scn_place ?scn_parts ?g1 ?g3 ?g5 ?g6 ?g7 ?g8 ?e1 ?e2 ?e3 ?w1 ?w2 ?w3 ?j5 ?j6 ?j7 ?j8 ?q5 ?q6 ?q7 ?q8 ?p5 ?p6 ?p7 ?p8 ?wh ?xmr ?ge ?xmo ?z0 ?z1 ?z2 ?z3 ?z4 ?z5 ?z6 ?z7 ?z8 ?z9 ?z10 ?z11 ?z12 ?z13 ?z14 ?z15
  case aL|lL|cL|kL=>k_is
  case h0|h1|h2|h3|h4|h5|h6|h7|h8|h9|h10|h11|h12|h13|h14|h15|h16|h17|h18|h19|h20|h21|h22|h23|h24|h25|h26|h27|h28|h29|h30|h31|h32|h33|h34|h35|h36|h37|h38|h39|h40|h41|h42|h43|h44|h45|h46|h47|h48|h49|h50|h51|h52|h53|h54|h55|h56|h57|h58|h59|h60|h61|h62|h63=>exact%[_,by k_is,_,%[_,_,_,_,_,_,_,_,0,by k_is|by k_is]|by k_is]
  case gmc|dbc|asc|mcc|scc=>exact%[by k_is,by k_is,by k_is,by k_is,by k_is,by k_is|by k_is]
  case KW|gmmM|gmmW|gmmC|dbmI|dbmW|dbmU|dbmH|dbmT|dbmC|dbmB|dbmR|dbmG|dbmE|dbmN|asmI|asmP|asmC|asmN|asmR|mcmI|mcmS|mcmR|mcmN|scmI|scmE|scmS|scmT|scmW|scmF=>exact%[_,by k_is,by k_is,_,%[_,_,_,_,_,_,_,_,0,by k_is|by k_is]|by k_is]
  case qy|gmn_trees|gmn_field|gmn_degrees|dbn_game|dbn_awaited|dbn_claims|dbn_s|dbn_heard|dbn_tossed|dbn_held|dbn_places|asn_game|asn_number|asn_many|asn_held|asn_s|asn_tossed|asn_truths|mcn_game|mcn_helper|mcn_next_round|mcn_boxes|scn_text|scn_row|scn_most_within|scn_most_parts|scn_place|scn_parts=>delta Mine.HF; k_is
  case g1|g3|g5|g6|e1|e2|e3|w1|w2|w3|j5|j6|q5|q6|p5|p6|wh|xmr|ge|xmo=>k_is
  case g7|j7|q7|p7=>decide
  case g8=>exact Mine.kept_vals
  case j8=>exact Mine.sign_vals
  case q8=>exact Mine.ask_vals
  case p8=>exact Mine.plain_vals
  case z0|z1|z2|z3|z4|z5|z6|z7|z8|z9|z10|z11|z12|z13|z14|z15=>delta Mine.HZ; k_is
