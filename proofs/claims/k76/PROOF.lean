import PyProof.Rows.All
import Wide.FinOn
import OpenK.KLine
import KE.KIntText
import KE.KIsAll
import KE.KEqSeq
import KE.KItem
import KE.KRevIter
import KE.KDictOf
import Lean
import PyProof.EqAt
import PyProof.EqKinds
import PyProof.TupleCall
import PySem.Challenge.RW_asktally_k76_weighed_at_the_desk
set_option Elab.async false
set_option linter.all false
set_option maxRecDepth 100000
set_option bootstrap.genMatcherCode false
set_option compiler.extract_closed false
local macro_rules|`(%[$xs,*|$y])=>do
 if y.raw.isIdent then if y.raw.getId==`List.nil then Lean.Macro.throwUnsupported
 if y.raw.isIdent then if y.raw.getId==`bc then return←xs.getElems.foldrM (fun x a=>do match x.raw.isNatLit? with|some _=>`($(Lean.mkIdent `ae) ($(Lean.mkIdent `pv) $x) $a)|_=>`($(Lean.mkIdent `ae) $x $a)) y
 let h←`(_);let r←`(rfl);let q←`(?_);let a←`(by omega);let b←`(by decide);let i:=Lean.mkIdent;let u←`($(i `ay) ($(i `neS) $b) ?_);let c←`($(i `T.cl))
 let o:=(xs.getElems.push y).flatMap fun x=>match x.raw.isNatLit? with|some 0=>#[h,r]|some 1=>#[r]|some 2=>#[h,h,r,r]|some 3=>#[a]|some 4=>#[b]|some 5=>#[r,r,r,b,r,b,b]|some 6=>#[q]|some 7=>#[u]|some 9=>#[c]|_=>#[x]
 `(⟨$o,*⟩)
local macro_rules|`(tactic|let%[$xs,*|$y]:=$e)=>do
 let g:=fun(f:Lean.Term->Lean.MacroM (Lean.TSyntax `rcasesPat))(t:Lean.Term)=>show Lean.MacroM (Lean.TSyntax `rcasesPat) from do
  match t with
  |`(%[$xs,*|$y])=>
   let p←(xs.getElems.push y).mapM fun x=>do let p←f x;`(Lean.Parser.Tactic.rcasesPatLo|$p:rcasesPat)
   `(rcasesPat|⟨$p,*⟩)
  |`($i:ident)=>`(rcasesPat|$i:ident)
  |_=>if t.raw.isNatLit?==some 1 then`(rcasesPat|$(Lean.mkIdent `rfl):ident)else`(rcasesPat|_)
 let p←g (g (g (g (g (g fun _=>`(rcasesPat|_)))))) (←`(%[$xs,*|$y]))
 `(tactic|obtain $p:rcasesPat:=$e)
local macro_rules|`(tactic|erw[$xs,*]$[at $h:ident]?)=>do
 let o:Array Lean.Term:=xs.getElems.map fun x=>⟨x.raw[1]⟩
 let l:=o.back!;let o:=o.pop
 match h with|some h=>`(tactic|let%[$o,*|$l]:=$h)|_=>`(tactic|refine %[$o,*|$l])
local macro_rules|`(⋯)=>`(by decide)
local macro_rules|`(#[1])=>`(λ _ _=>rfl)|`(#[2])=>`(by simp)|`(#[0])=>`(by omega)|`(#[$f:ident,$i:num,$s:ident,$e])=>`($f (i:=$i) ($s).nd rfl (Or.inl rfl) $e)
local macro_rules|`(tactic|exists $x:ident)=>do
 let i:=Lean.mkIdent
 `(tactic|refine $(i `F.ok) $x (fun _ _ _ _ h=>by cases h;subst_vars;rfl) (fun $(i `cdv) $(i `A) $(i `outer) $(i `s) $(i `H) $(i `vs) $(i `Q) $(i `E) $(i `hr) $(i `h)=>?_))
local macro_rules | `(tactic|omega)=>`(tactic|first | lia | omega +splitDisjunctions)
local macro_rules | `(command|def $n:declId $s:optDeclSig $b:declVal)=>`(command|noncomputable def $n:declId $s:optDeclSig $b:declVal)
local macro_rules | `(tactic|decide)=>`(tactic|decide +kernel)
local macro_rules | `(tactic|rfl')=>`(tactic|with_unfolding_all rfl)
local macro_rules | `(tactic|ac_rfl)=>`(tactic|(intro _ _ _ _ _ _ us hl;rcases us with _|⟨a,_|⟨b,_|⟨c,_|⟨d,_|⟨e,_|⟨f,_|⟨g,_|⟨h,us⟩⟩⟩⟩⟩⟩⟩⟩<;>first|rfl|(simp at hl)))
local macro_rules|`(#[$n,$f:ident,$d:ident,$p,$s])=>let i:=Lean.mkIdent;`($(i `FnOk) $(i `P) $(i `w) $(i `K) $(i `mg) $(i `base) $(i `CX0) $n $f $d $p $s)|`(#[$n,$x:str,$p,$s])=>let i:=Lean.mkIdent;`($(i `Cal) $(i `P) $(i `w) $(i `K) $(i `mg) $(i `base) $n $x $p $s)
local macro_rules|`(‹$x:ident›)=>return Lean.mkIdentFrom x (x.getId++`heap.objs.size)
local macro_rules|`(#[3])=>let i:=Lean.mkIdent;`($(i `CompScope.one) (by rfl') ⋯ rfl ⋯ rfl ⋯ (by rfl') (by rfl') (by rfl') rfl rfl)|`(#[4])=>let i:=Lean.mkIdent;`($(i `CompScope.two) (by rfl') ⋯ rfl ⋯ rfl ⋯ (by first | exact Or.inl rfl | exact Or.inr rfl) (by rfl') (by rfl') (by rfl') (by rfl') rfl rfl (by rfl') rfl rfl)|`(#[5])=>let i:=Lean.mkIdent;`($(i `CompScope.closed) (by rfl') ⋯ rfl ⋯ rfl (by rfl'))
local macro_rules|`(tactic|exists $n:num,$xs,*)=>do
 let i:=Lean.mkIdent;if n.getNat==4 then return ←`(tactic|intro $(i `Mp) $(i `s) $(i `σ) $(i `H) $(xs.getElems)*)
 let i:=Lean.mkIdent;let a:=xs.getElems;let mut r:Array (Lean.TSyntax `tactic):=#[]
 for k in [0:a.size/3] do
  let z:=a[3*k+2]!;let v←if n.getNat==1 then`($(i `aS) $(i `X) $(i `G) $z)else`($(i `cZ) $z)
  r:=r.push (←`(tactic|let%[_,_,$(a[3*k]!)|$(a[3*k+1]!)]:=$v))
 `(tactic|($[$r];*))
local macro_rules|`(tactic|exists 3)=>let n:=Lean.mkIdent `no;`(tactic|refine ⟨fun vs H Q E h=>absurd h ($n vs H Q E),fun A outer s H args us vs Q E _ _ _ _ h=>absurd h ($n vs H Q E)⟩)
local macro_rules|`(command|instance $n:declId $s:declSig:=$v)=>do
 if v.raw.isNatLit?==none then Lean.Macro.throwUnsupported
 let i:=Lean.mkIdent;let b:=s.raw[0].getArgs
 let c:Lean.TSyntaxArray ``Lean.Parser.Term.bracketedBinder:=b.map (⟨·⟩)
 let a:Array Lean.Term:=b.flatMap fun x=>x[1].getArgs.map (⟨·⟩)
 let o:=v.raw.isNatLit?==some 1
 let r:=Lean.Syntax.mkApp ⟨n.raw[0]⟩ (if o then a++#[i `vs,i `H,i `Q,i `Mr]else a)
 let t:Lean.Term←Nat.repeat (fun (g:Lean.Term->Lean.MacroM Lean.Term) (t:Lean.Term)=>show Lean.MacroM Lean.Term from if t.raw.isOfKind ``Lean.Parser.Term.forall then do return⟨t.raw.setArg 4 (←g ⟨t.raw[4]⟩)⟩else if t.raw.isOfKind ``Lean.Parser.Term.arrow then do return⟨t.raw.setArg 2 (←g ⟨t.raw[2]⟩)⟩else`($t->$r)) 60 pure ⟨s.raw[1][1]⟩
 let m:=i `mk
 if o then`(command|inductive $n:declId $c* ($(i `vs):ident:List $(i `V)) ($(i `H):ident:$(i `Hp)) ($(i `Q):ident:$(i `VK)) ($(i `Mr):ident:$(i `XK)):Prop
 |$m:ident:$t)
 else`(command|inductive $n:declId $c*:Prop
 |$m:ident:$t)
local macro_rules|`(tactic|let $d:letDecl)=>if d.raw[0].isOfKind ``Lean.Parser.Term.letIdDecl then`(tactic|have $d:letDecl)else Lean.Macro.throwUnsupported
local macro_rules|`(let $d:letDecl;$b)=>`(have $d:letDecl;$b)
local macro_rules|`(command|example:=[$xs,*])=>do
 let a:=xs.getElems;let i:=Lean.mkIdent;if a[0]!.raw.isIdent then
  let c:Array Lean.Command←(Array.range (a.size/2)).mapM fun k=>do
   let x:Lean.Ident:=⟨a[2*k]!⟩;let y:=a[2*k+1]!
   if y.raw.isIdent then`(command|abbrev $x:ident := @$(⟨y.raw⟩):ident)else if y.raw.isOfKind `«term[_]» then`(command|abbrev $x:ident : List PySem.Str := $y)else if y.raw.isNatLit?.isSome then`(command|abbrev $x:ident : $(i `Stmt) := $(i `top) $y)else`(command|abbrev $x:ident : $(i `Stmt) := $(i `bp) $(⟨y.raw[0]⟩) $(⟨y.raw[1][0]⟩))
  return Lean.mkNullNode c
 Lean.Macro.throwUnsupported
local macro_rules|`(command|example:=$t:str)=>do
 let l:=t.getString.toList
 let c←(Array.range (l.length/11)).mapM fun k=>`(command|noncomputable def $(Lean.mkIdent (.mkSimple s!"tw{((l.drop (11*k)).take 11).foldl (fun a c=>let n:=c.toNat;a*62+(if n<58 then n-48 else if n<91 then n-55 else n-61)) 0}")):ident:=())
 return Lean.mkNullNode c
local macro_rules|`(#[6])=>let i:=Lean.mkIdent;`($(i `Value)->$(i `Shared)->Prop)|`(#[7])=>let i:=Lean.mkIdent;`(List ($(i `Addr)×$(i `Obj)))|`(#[8])=>let i:=Lean.mkIdent;`($(i `Inv) $(i `X) $(i `Mp) $(i `σ))|`(#[9])=>let i:=Lean.mkIdent;`($(i `Str)->Option $(i `Value))
local macro_rules|`(#[$e,0])=>`(by simpa using $e)
local macro_rules|`(tactic|exists 5)=>let i:=Lean.mkIdent;`(tactic|(intro $(i `X) $(i `hP) $(i `hw) $(i `hK) $(i `hc) $(i `i) $(i `Mp) $(i `s) $(i `σ) $(i `H) $(i `E) $(i `I) $(i `hf) $(i `st) $(i `hg);subst $(i `hP) $(i `hw) $(i `hK)))
local macro_rules|`(#[$x:str,$s:ident])=>let i:=Lean.mkIdent;`($(i `Fun) $(i `K) $x $x $s $(i `f) $(i `fd))|`(#[$x:str,$y:str,$s:ident])=>let i:=Lean.mkIdent;`($(i `Fun) $(i `K) $x $y $s $(i `f) $(i `fd))
local macro_rules|`(tactic|apply $e)=>`(tactic|refine $e)
local macro_rules|`(‹$x:ident›)=>do
 let i:=Lean.mkIdent;let n:=x.getId
 if let .str m "p":=n then return←`($(i m) (P:=$(i `l.prog)) (w:=$(i `w)) (base:=$(i `base)))
 if n==`X.a then`(by ac_rfl)else if n==`X.w then`($(i `wpAny) ($(i `model) $(i `X.prog) $(i `X.w)) $(i `X.A))else if n==`w.A then`($(i `wpAny) ($(i `model) $(i `prog) $(i `w)) $(i `A))else if n==`Tk.s then`(($(i `Tk.new) $(i `ts)).said $(i `ns) $(i `ts) $(i `p) $(i `rows))else if n==`Tk.a then`(($(i `Tk.new) $(i `ts)).ask $(i `ns) $(i `ts) $(i `p) $(i `rows))else Lean.Macro.throwUnsupported
noncomputable section
section
open PySem PySem.Spec PyProof.Rows
def Mq.{u}{c:Prop}{h:Decidable c}(hc:¬c){α:Sort u}{t e:α}:ite c t e=e:=if_neg hc
def Mt.{u}{c:Prop}{h:Decidable c}(hc:c){α:Sort u}{t e:α}:ite c t e=t:=if_pos hc
example:=[zE0,wpAny_bind,zF0,List.length_map,zH0,Nat.le_refl,zJ0,wpAny_pure,zK0,List.length_append,zL0,List.map_append,zM0,List.length_cons,zN0,Nat.le_trans,zO0,List.getElem?_eq_getElem,zP0,List.size_toArray,zQ0,Heap.lt_size]
def zR0.{u}{α:Type u}{a b:α}(h:a∈[b]):a=b:=List.mem_singleton.mp h
def zS0.{u}{α:Type u}{a b:α}{l:List α}(h:a∈b::l):a=b∨a∈l:=List.mem_cons.mp h
example:=[zT0,Nat.zero_le,zU0,Heap.get?_push_of_some,zV0,Option.some.inj]
def zW0.{u}{α:Type u}{l:List α}{i:Nat}{a:α}(h:l[i]?=some a):∃h:i<l.length,l[i]=a:=List.getElem?_eq_some_iff.mp h
example:=[zX0,Nat.ne_of_lt,zY0,List.map_cons,zZ0,List.getElem?_map,qA0,Int.emod_nonneg,qB0,List.mem_cons_self,qC0,Heap.get?_push_size,qD0,Bool.false_ne_true,qE0,List.length_take,qF0,List.take_length]
def qG0.{u}{α:Type u}{a:α}{s t:List α}(h:a∈s++t):a∈s∨a∈t:=List.mem_append.mp h
example:=[qH0,Int.emod_lt_of_pos,qI0,List.mem_of_getElem?,qJ0,List.take_add_one,qK0,List.mem_cons_of_mem,qL0,List.length_singleton,qM0,Nat.lt_of_lt_of_le,qN0,Nat.le_succ,qO0,List.getElem_mem,qP0,Int.toNat_natCast]
def qQ0{α β:Type}{f:α->β}{x:Option α}{b:β}(h:x.map f=some b):∃a,x=some a/\f a=b:=Option.map_eq_some_iff.mp h
example:=[qR0,List.mem_append_right,qS0,List.length_range,qT0,List.getD_eq_getElem?_getD,qU0,Nat.lt_irrefl,qV0,Int.emod_eq_of_lt,qW0,Int.mul_le_mul_of_nonneg_left]
end
section
open PySem PySem.Spec PyProof.Rows
example:=[zB1,Str.length_append,zC1,PySem.boot_len,zD1,decide_eq_true,zE1,decide_eq_false,zF1,PySem.F.plainAttrs_list,zG1,PassesOwn.never,zH1,PySem.F.plainAttrs_str,zI1,List.length_nil,zJ1,Nat.succ_le_succ,zL1,PySem.F.slot_list_append,zM1,PySem.F.type_list_append,zN1,List.getElem?_append_right,zO1,Nat.lt_of_le_of_lt,zP1,List.getElem?_append_left,zQ1,PySem.F.slot_str_join,zR1,PySem.F.type_str_join,zS1,PyProof.Rows.callWith_type1,zT1,List.length_replicate,zU1,Array.length_toList,zV1,List.sum_cons,zW1,wpAny_newObj_type,zX1,wpAny_ite_split,zY1,List.replicate_succ,zZ1,of_decide_eq_true,qA1,wpAny_truthy_bool,qB1,wpAny_callSpecial?_slot,qC1,Int.le_refl,qD1,W.mg_none_of,qE1,PySem.W.kia_one,qF1,Int.eq_ofNat_of_zero_le,qG1,List.mem_singleton,qH1,W.mg_of,qI1,PySem.mem_of_lookup,qJ1,PyProof.Rows.slot_tuple_getitem,qK1,Calls.spliced_cons,qL1,wpAny_field,qM1,wpAny_call_entry,qN1,Bool.and_eq_true,qO1,List.drop_zero,qP1,List.flatten_cons,qQ1,call_meets,qR1,Nat.le_add_left,qS1,PySem.F.slot_str_startswith,qT1,PySem.F.type_str_startswith,qU1,F.slot_tuple_iterator_next,qV1,Nat.lt_succ_self,qW1,F.plain_max_loop,qX0,wpAny_Call_Name_kw,qX1,Int.pow_succ,qY0,PyProof.Rows.boot_max,qY1,wpAny_passesOwn,qZ0,Calls.spliced_nil,qZ1,List.append_nil,jA0,List.range_succ,jA1,PyProof.Rows.toString_length_le,jB0,wpAny_of_eq,jB1,wpAny_getItem_str_slice,jC0,Str.cps_append,jD0,Calls.callWith_builtin,jD1,builtinLookup_eq_fast,jE0,List.find?_cons,jE1,Int.emod_add_mul_ediv,jF0,PyProof.Rows.boot_all,jF1,wpAny_holding,jG0,Calls.evalArgs_plain,jG1,List.length_drop,jH0,wpAny_mono,jH1,PySem.F.args_tuple_add_2,jI0,Int.mul_comm,jI1,Int.zero_add,jJ0,wpAny_pyIter_tuple,jJ1,Bool.eq_iff_iff,jK0,PySem.F.entry_tuple_add,jK1,List.all_cons,jL0,List.any_cons,jL1,Int.le_of_dvd,jM0,Int.natCast_add,jM1,Int.natCast_nonneg,jN0,PySem.F.slot_tuple_add,jN1,Nat.le_of_succ_le_succ,jO0,PySem.F.slot_str_split,jO1,PySem.F.type_str_split,jP0,wpAny_pyIter_list,jP1,wpAny_pyIter_enum,jQ0,wpAny_seqItems,jQ1,Txt.slice_le,jR0,PySem.F.slot_dict_get,jR1,List.getElem?_reverse,jS0,Int.mul_emod,jS1,PyProof.Rows.boot_sum,jT1,List.cons_ne_nil,jU0,Around.under_plainId,jU1,List.count_le_length,jV0,Int.emod_emod,jV1,typeIs_str,jW1,List.filterMap_cons,jX0,wpAny_execs_nil,jX1,PySem.W.plainGet_of,jY0,List.nil_append,jY1,F.slot_int_rmul,jZ0,post_val_or_str,jZ1,typeLookup_type,wA0,Option.map_some,wA1,ne_true_of_eq_false,wB0,Int.dvd_add,wB1,Nat.le_of_lt,wC0,PySem.W.callWith_K,wC1,wpAny_setField_rec,wD0,F.args_str_split_2,wD1,Nat.sub_zero,wE0,F.args_tuple_mul_2,wE1,of_decide_eq_false,wF0,List.filter_append,wF1,Heap.size_push,wG0,Bool.and_false,wG1,isSubtype_type,wH0,wpAny_tryCatch,wH1,List.append_assoc,wI0,Nat.lt_succ_of_lt,wI1,F.entry_str_split,wJ0,F.entry_tuple_mul,wJ1,Int.mul_one,wK0,wpAny_attempt,wK1,wpAny_letGo,wL0,plainId_quiet,wL1,noFill_tuple_add,wM0,List.all_eq_true,wM1,wpAny_isInstance,wN0,F.entry_max_loop,wN1,F.slot_str_split,wO0,F.slot_tuple_mul,wO1,Nat.ne_of_gt,wP0,codeAny_mono,wQ0,Int.add_emod,wQ1,Int.pow_zero,wR0,typeIs_int]
end
example:=[WB,["self"],WC,["text"],WD,["tree"],WE,["scan","within"],WF,["_law_feed_here","_law_many"],WG,["self","values"],WH,["game"],WI,["self","signs"],WJ,["values","r","p"],WK,["self","place"],WL,["_law_script","_law_k"],WM,["self","switches","trees","field"],WN,["self","point","s"],WO,["self","s"],WP,["self","game"],WQ,["self","game","helper"],WS,["game","helper"],WT,["helper"],WU,["self","text","row","most_within","most_parts"],WV,["_law_feed_here","_law_names_here","_law_room","_law_deep"],WW,["tree","switches","point","p"],WX,["_law_tree_here"],WY,["self","numbers","s"],WZ,["tree","switches","setting"],Wa,["term","boxes","asking"],Wb,["machine","doubter","coins"],Wc,["_law_feed_here","_law_boxes","_law_room","_law_deep"],Wd,["value","p"],We,["self","r"],Wf,["word","first","second"],Wg,["sign","first","second","p"],Wh,["self","word"],Wi,["self","game","number","many","due","s","coins"],Wj,["game","coins"],Wk,["self","within"],Wl,["word","first","second","p"],Wm,["name","trees"],Wn,["numbers","p"],Wo,["tree","switches"],Wp,["first","second","p"],Wq,["self","place","said","asking"],Wr,["self","many","due","s","coins"],Ws,["machine","doubter"],Wt,["end","go","if","set","say"],Wu,["rows","number"],Wv,["_law_names_here","_law_trees"],Ww,["_law_feed_here","_law_boxes","_law_most"],Wx,["_law_feed_here","_law_box"],Wy,["switches","trees","field"]]
namespace L2
open PySem PySem.Spec PyProof.Rows
abbrev Key:=Sum Int Str
def sX:Key->Value->Bool
 |.inl k,v=>Value.isInt k v
 |.inr x,v=>Value.isStrOf x v
def keyH(w:World):Key->Int
 |.inl k=>hashInt k
 |.inr x=>hashStr w x
def di:∀{k:Key}{v:Value},sX k v=true->(∃i t,k=Sum.inl i/\v=Value.int i t)∨(∃x t,k=Sum.inr x/\v=Value.str x t)
 |.inl i,v,h=>by
   let%[t|e]:=Value.isInt_shape (k:=i) (v:=v) h;exact .inl %[i,t,1|e]
 |.inr x,v,h=>by
   let%[t|e]:=Value.isStrOf_shape (x:=x) (v:=v) h;exact .inr %[x,t,1|e]
def Ay(i:Int)(t:Tok):sX (.inl i) (.int i t)=true:=by simp [sX,Value.isInt]
def Ax(x:Str)(t:Tok):sX (.inr x) (.str x t)=true:=by simp [sX,Value.isStrOf]
def Hj(a b:Int):decide ((Sum.inl a:Key)=Sum.inl b)=(a==b):=by
 by_cases e:a=b
 . subst e;simp
 . let h:¬ (Sum.inl a:Key)=Sum.inl b:=λq=>e (Sum.inl.inj q)
   rw[zE1 h];exact(beq_eq_false_iff_ne.mpr e).symm
def Hg(a b:Str):decide ((Sum.inr a:Key)=Sum.inr b)=decide (a=b):=by
 by_cases e:a=b
 . subst e;simp
 . let h:¬ (Sum.inr a:Key)=Sum.inr b:=λq=>e (Sum.inr.inj q)
   rw[zE1 h,zE1 e]
def Hi(a:Int)(b:Str):decide ((Sum.inl a:Key)=Sum.inr b)=false:=zE1 (λq=>nomatch q)
def Hh(a:Str)(b:Int):decide ((Sum.inr a:Key)=Sum.inl b)=false:=zE1 (λq=>nomatch q)
def dI(prog:Program)(w:World):PySem.KeyKind prog w Key where
 is:=sX
 hash:=keyH w
 inj:=λv a b ha hb=>by
  rcases di ha with⟨i,t,rfl,rfl⟩ | ⟨x,t,rfl,rfl⟩
  . rcases di hb with⟨j,u,rfl,e⟩ | ⟨y,u,rfl,e⟩
    . injection e with e1 _;rw[e1]
    . exact nomatch e
  . rcases di hb with⟨j,u,rfl,e⟩ | ⟨y,u,rfl,e⟩
    . exact nomatch e
    . injection e with e1 _;rw[e1]
 byValue:=λk v h=>by
  rcases di h with⟨i,t,rfl,rfl⟩ | ⟨x,t,rfl,rfl⟩ <;> rfl
 pyHash:=λhv h=>by
  rcases di hv with⟨i,t,rfl,rfl⟩ | ⟨x,t,rfl,rfl⟩
  . exact wpAny_pyHash_int h
  . exact wpAny_pyHash_str h
 eqBool:=λhu hv h=>by
  rcases di hu with⟨i,t,rfl,rfl⟩ | ⟨x,t,rfl,rfl⟩
  . rcases di hv with⟨j,u,rfl,rfl⟩ | ⟨y,u,rfl,rfl⟩
    . rw[Hj]at h;exact wpAny_eqBool_int h
    . rw[Hi]at h;exact SeqAt.EqAt.int_str i t y u _ _ _ _ h
  . rcases di hv with⟨j,u,rfl,rfl⟩ | ⟨y,u,rfl,rfl⟩
    . rw[Hh]at h;exact SeqAt.EqAt.str_int x t j u _ _ _ _ h
    . rw[Hg]at h;exact wpAny_eqBool_str h
 «strs»:=λk x t v h=>by
  rcases di h with⟨i,u,rfl,e⟩ | ⟨y,u,rfl,e⟩
  . exact nomatch e
  . injection e with e1 _;subst e1;cases v <;> rfl
def wp(prog:Program)(w:World)(i:Int)(t:Tok):(dI prog w).is (.inl i) (.int i t)=true:=Ay i t
def wo(prog:Program)(w:World)(x:Str)(t:Tok):(dI prog w).is (.inr x) (.str x t)=true:=Ax x t
inductive V where
 |non | bl (b:Bool) | int (i:Int) | str (x:Str) | byt (b:Array UInt8) | flt (b:UInt64) | ref (a:Addr) | ty (n:String)
 deriving DecidableEq
def RelV:V->Value->Prop
 |.non,u=>u=Value.none
 |.bl b,u=>u=Value.bool b
 |.int i,u=>∃t,u=Value.int i t
 |.str x,u=>∃t,u=Value.str x t
 |.byt b,u=>∃t,u=Value.bytes b t
 |.flt b,u=>∃t,u=Value.float b t
 |.ref a,u=>u=Value.ref a
 |.ty n,u=>u=Value.type n
abbrev Vals:List V->List Value->Prop:=Paired RelV
def Vals.length(r:Vals xs us):xs.length=us.length:=Paired.length r
def Vals.get:∀{xs:List V}{us:List Value}{i:Nat}{x:V},Vals xs us->xs[i]?=some x->∃u,us[i]?=some u/\RelV x u
 |_,_,_,_,.nil,e=>by simp at e
 |_,_,0,_,.cons r _,e=>by simp at e;subst e;erw[0,r]
 |_,_,i+1,x,.cons _ t,e=>by
   let%[u,h1|h2]:=Vals.get (i:=i) (x:=x) t #[e,0];erw[u,by simpa using h1,h2]
def Vals.set{x:V}{u:Value}(r:RelV x u):∀{xs:List V}{us:List Value}(i:Nat),Vals xs us->Vals (xs.set i x) (us.set i u)
 |_,_,_,.nil=>.nil
 |_,_,0,.cons _ t=>.cons r t
 |_,_,i+1,.cons q t=>.cons q (Vals.set r i t)
def Vals.append:∀{xs ys:List V}{us ws:List Value},Vals xs us->Vals ys ws->Vals (xs++ys) (us++ws)
 |_,_,_,_,.nil,s=>s
 |_,_,_,_,.cons r t,s=>.cons r (Vals.append t s)
def Vals.take:∀{xs:List V}{us:List Value}(n:Nat),Vals xs us->Vals (xs.take n) (us.take n)
 |_,_,0,_=>.nil
 |_,_,_+1,.nil=>.nil
 |_,_,n+1,.cons r t=>.cons r (Vals.take n t)
def Vals.drop:∀{xs:List V}{us:List Value}(n:Nat),Vals xs us->Vals (xs.drop n) (us.drop n)
 |_,_,0,r=>r
 |_,_,_+1,.nil=>.nil
 |_,_,n+1,.cons _ t=>Vals.drop n t
def RelO:Option V->Option Value->Prop
 |some v,some u=>RelV v u
 |none,none=>True
 |_,_=>False
def KV{κ:Type}:List (κ×V)->List (κ×Value)->Prop:=Paired fun(p:κ×V)(q:κ×Value)=>p.1=q.1/\RelV p.2 q.2
def kV:Key->V
 |.inl i=>.int i
 |.inr x=>.str x
inductive HO where
 |lst (xs:List V)
 |tup (xs:List V)
 |dK (Ms:List (Key×V)) | dT (Ms:List (List Key×V))
 |set (S:Int->Bool) (n:Nat)
 |ins (C dx:Addr) (fs:List (Str×V))
 |own (x:Addr)
 |xd (fs:List (Str×V))
 |met (f x:Addr)
 |rng (lo hi:Int)
 |frz (o:Obj) (u:HO)
 |tbl (ps:Array Value)
 |ext (φ:Heap->Prop)
abbrev Hp:=Addr->Option HO
def upd(H:Hp)(a:Addr)(o:HO):Hp:=λb=>if b=a then some o else H b
def bh:upd H a o a=some o:=by unfold upd;rw[Mt rfl]
def aB{a b:Addr}(h:b≠a):upd H a o b=H b:=by unfold upd;rw[Mq h]
def bL{H:Hp}{a b:Addr}{o u:HO}(h:H a=some o)(h':H b=some u)(d:o≠u):a≠b:=by
 intro e;subst e;rw[h]at h';exact d (zV0 h')
def bi{H:Hp}{a b:Addr}{o:HO}(h:H a=some o)(h':H b=none):a≠b:=by
 intro e;subst e;rw[h]at h';cases h'
section
variable (P:Program)(w:World)
def ObjOk(H:Hp)(h:Heap)(a:Addr):HO->Prop
 |.lst xs=>xs.length<=sizeLine/\∃(its:List Value) (n:Nat),Vals xs its/\h.get? a=some { cls:=.type "list",data:=.seq its.toArray n }
 |.tup xs=>xs.length<=sizeLine/\∃its:List Value,Vals xs its/\IsTup h a its.toArray/\∃o,h.get? a=some o/\o.dict=none
 |.dK Ms=>Ms.length<=sizeLine/\(a==sysModules)=false/\∃vs,KV Ms vs/\h.DictOf (dI P w) a vs
 | .dT Ms=>Ms.length<=sizeLine/\(a==sysModules)=false/\∃xs:List (List Key×Addr×Value),
  Paired (fun(p:List Key×V)(q:List Key×Addr×Value)=>p.1=q.1/\H q.2.1=some (.tup (p.1.map kV))/\RelV p.2 q.2.2) Ms xs/\
  ∃o es ep,h.get? a=some o/\o.ExactDict/\o.data=.dict es ep/\es.toList=xs.map (entryOfKey (tupleKind (dI P w)))/\(xs.map (·.1)).Nodup
 |.set S n=>h.SetOf (intKind P w) a S n
 | .ins C dx fs=>H dx=some (.own a)/\fs.length<=1000/\dx≠a/\h.get? a=some (PySem.W.instObj C dx)/\
  ∃mA,h.Ns1 dx mA/\(∀f,RelO (fs.lookup f) (mA f))/\PySem.Within mA (fs.map (·.1))
 |.own _=>∃o,h.get? a=some o
 |.xd fs=>∃mA,h.Ns1 a mA/\∀f,RelO (fs.lookup f) (mA f)
 |.rng lo hi=>∃t u v,h.get? a=some { cls:=.type "range",data:=.fields #[.int lo t,.int hi u,.int 1 v] }
 |.frz o u=>h.get? a=some o/\ObjOk H h a u
 |.tbl ps=>h.get? a=some { cls:=.none,data:=.fields ps }
 |.met f x=>h.get? a=some (PySem.W.methodObj (.ref f) (.ref x))
 |.ext φ=>φ h/\(∃o,h.get? a=some o)/\∀h1 h2:Heap,φ h1->(∀o,h1.get? a=some o->h2.get? a=some o)->φ h2
def HOk(H:Hp)(h:Heap):Prop:=∀a o,H a=some o->ObjOk P w H h a o
end
section
variable {P:Program}{w:World}{H H':Hp}{h h':Heap}{a:Addr}{o:HO}
def ObjOk.lt(x:ObjOk P w H h a o):a<h.objs.size:=by
 cases o with
 |lst xs=>erw[_,_,_,_,e]at x;exact zQ0 e
 |tup xs=>erw[_,_,_,p,_]at x;exact p.lt
 |dK Ms=>erw[_,_,_,_,o,_,_,e,_]at x;exact zQ0 e
 |dT Ms=>erw[_,_,_,_,o,_,_,e,_]at x;exact zQ0 e
 |set S n=>erw[o,_,_,_,e,_]at x;exact zQ0 e
 |ins C dx fs=>erw[_,_,_,e,_]at x;exact zQ0 e
 |own y=>erw[_,e]at x;exact zQ0 e
 |xd fs=>erw[_,%[_,_,_,e|_],_]at x;exact zQ0 e
 |rng lo hi=>erw[_,_,_,e]at x;exact zQ0 e
 |frz ob u=>erw[e,_]at x;exact zQ0 e
 |tbl ps=>exact zQ0 (show h.get? a=some _ from x)
 |met f y=>exact zQ0 (show h.get? a=some _ from x)
 |ext φ=>erw[_,%[_|e],_]at x;exact zQ0 e
def Paired.mapP{α β:Type}{F G:α->β->Prop}:∀{l₁:List α}{l₂:List β},Paired F l₁ l₂->(∀a b,F a b->G a b)->Paired G l₁ l₂
 |_,_,.nil,_=>.nil
 |_,_,.cons r t,f=>.cons (f _ _ r) (Paired.mapP t f)
def ObjOk.stay(x:ObjOk P w H h a o)(k:∀b u,(b=a∨H b=some (.own a))->h.get? b=some u->h'.get? b=some u)
 (ho:∀b,H b=some (.own a)->H' b=some (.own a))(ht:∀b xs,H b=some (.tup xs)->H' b=some (.tup xs)):ObjOk P w H' h' a o:=by
 induction o with
 |lst xs=>erw[z,its,n,r,e]at x;erw[z,its,n,r,k _ _ (.inl rfl) e]
 |tup xs=>erw[z,its,r,%[ob,e|c],od,e2,d]at x;erw[z,its,r,%[ob,k _ _ (.inl rfl) e|c],od,k _ _ (.inl rfl) e2,d]
 |dK Ms=>erw[z,y,vs,r,ob,es,ep,e,c]at x;erw[z,y,vs,r,ob,es,ep,k _ _ (.inl rfl) e,c]
 |dT Ms=>
   erw[z,y,xs,r,ob,es,ep,e,c]at x;erw[z,y,xs,Paired.mapP r λp q z=>%[z.1,ht _ _ z.2.1|z.2.2],ob,es,ep,k _ _ (.inl rfl) e,c]
 |set S n=>erw[ob,es,ep,t,e,c]at x;erw[ob,es,ep,t,k _ _ (.inl rfl) e,c]
 |ins C dx fs=>
   erw[d,z,ne,e,mA,%[od,es,ep,e2|c],r]at x;erw[ho _ d,z,ne,k _ _ (.inl rfl) e,mA,%[od,es,ep,k _ _ (.inr d) e2|c],r]
 |own y=>erw[ob,e]at x;erw[ob,k _ _ (.inl rfl) e]
 |xd fs=>erw[mA,%[od,es,ep,e|c],r]at x;erw[mA,%[od,es,ep,k _ _ (.inl rfl) e|c],r]
 |rng lo hi=>erw[t,u,v,e]at x;erw[t,u,v,k _ _ (.inl rfl) e]
 |frz ob u ih=>erw[e,q]at x;erw[k _ _ (.inl rfl) e,ih q]
 |tbl ps=>
   let e:h.get? a=some { cls:=.none,data:=.fields ps }:=x;show h'.get? a=some { cls:=.none,data:=.fields ps };exact k a _ (.inl rfl) e
 |met f y=>
   let e:h.get? a=some (PySem.W.methodObj (.ref f) (.ref y)):=x;show h'.get? a=some (PySem.W.methodObj (.ref f) (.ref y));exact k a _ (.inl rfl) e
 |ext φ=>erw[p,%[o|e],st]at x;erw[st _ _ p λo q=>k _ _ (.inl rfl) q,%[o|k _ _ (.inl rfl) e],st]
def HOk.lt(x:HOk P w H h)(e:H a=some o):a<h.objs.size:=(x a o e).lt
def HOk.fresh(x:HOk P w H h)(e:h.objs.size<=a):H a=none:=by
 cases q:H a with
 |none=>rfl
 |some u=>exact absurd (qM0 (x.lt q) e) (qU0 _)
def HOk.kept(x:HOk P w H h)(k:∀b u,h.get? b=some u->h'.get? b=some u):HOk P w H h':=λa o e=>
 (x a o e).stay (λb u _ q=>k b u q) (λ_ q=>q) λ_ _ q=>q
def HOk.laid(x:HOk P w H h)(k:∀b u,h.get? b=some u->h'.get? b=some u)(hp:h.objs.size<=a)(new:ObjOk P w (upd H a o) h' a o):HOk P w (upd H a o) h':=λb u e=>by
 let hn:=x.fresh hp
 by_cases hb:b=a
 . subst hb;rw[bh]at e;cases e;exact new
 . rw[aB hb]at e;exact(x b u e).stay (λc v _ q=>k c v q) (λc q=>by rw[aB (bi q hn)];exact q) λc xs q=>by rw[aB (bi q hn)];exact q
end
def Rd(H:Hp)(a:Addr)(u:HO):Prop:=H a=some u∨∃o,H a=some (.frz o u)
def Rd.ok{P:Program}{w:World}{h:Heap}(r:Rd H a u)(x:HOk P w H h):ObjOk P w H h a u:=by
 rcases r with r | ⟨o,r⟩
 . exact x a u r
 . let%[_|q]:=x a _ r;exact q
def Mut:Option HO->Prop
 |some (.lst _)=>True
 |some (.dK _)=>True
 |some (.dT _)=>True
 |some (.set _ _)=>True
 |some (.ins _ _ _)=>True
 |some (.ext _)=>True
 |_=>False
section
variable {P:Program}{w:World}{H:Hp}{h h':Heap}{x e:Addr}{o':HO}
def HOk.write(ok:HOk P w H h)(mu:Mut (H x))(he:e=x∨H e=some (.own x))(k:∀b u,b≠e->h.get? b=some u->h'.get? b=some u)(heo:∃u,h'.get? e=some u)
 (new:ObjOk P w (upd H x o') h' x o'):HOk P w (upd H x o') h':=λb u q=>by
 let nown:∀c y,H c=some (.own y)->c≠x:=λc y r z=>by subst z;rw[r]at mu;exact mu
 let ntup:∀c xs,H c=some (.tup xs)->c≠x:=λc xs r z=>by subst z;rw[r]at mu;exact mu
 by_cases hb:b=x
 . subst hb;rw[bh]at q;cases q;exact new
 . rw [aB hb]at q
   by_cases hbe:b=e
   . let q':H b=some (.own x):=by
      rcases he with z | z
      . exact absurd (hbe.trans z) hb
      . rw[hbe];exact z
     rw[q]at q';cases q';erw[v,hv]at heo;erw[v,by rw[hbe];exact hv]
   . apply (ok b u q).stay (λc v hc r=>k c v ?_ r) (λc r=>by rw[aB (nown c b r)];exact r) λc xs r=>by rw[aB (ntup c xs r)];exact r
     rcases hc with rfl | hc
     . exact hbe
     . rintro rfl;rcases he with z | z
       . exact nown c b hc z
       . rw[hc]at z;cases z;exact hb rfl
end
structure Un(fs ex:List Addr)(H H':Hp)(h h':Heap):Prop where
 keep:∀b o,h.get? b=some o->H b=none->b∉fs->b∉ex->h'.get? b=some o
 slot:∀b o,h.get? b=some o->H b=none->b∈fs->b∉ex->∃sl,h'.get? b=some { o with slots:=sl }
 free:∀b o,h.get? b=some o->H b=none->b∉ex->H' b=none
 there:∀b o,h.get? b=some o->b∉ex->∃o',h'.get? b=some o'
 tups:∀b xs,H b=some (.tup xs)->H' b=some (.tup xs)
 frzs:∀b o u,H b=some (.frz o u)->H' b=some (.frz o u)
 tbls:∀b ps,H b=some (.tbl ps)->∃more,H' b=some (.tbl (ps++more))
section
variable {fs fs' ex ex':List Addr}{H H1 H2:Hp}{h h1 h2 h':Heap}{a x e:Addr}{o:HO}
def Un.any(u:Un fs ex H H1 h h1){b:Addr}{ob:Obj}(q:h.get? b=some ob)(n:H b=none)(hx:b∉ex):∃sl,h1.get? b=some { ob with slots:=sl }:=by
 by_cases hb:b∈fs
 . exact u.slot b ob q n hb hx
 . erw[ob.slots,u.keep b ob q n hb hx]
def Un.kept(k:∀b u,h.get? b=some u->h'.get? b=some u):Un fs ex H H h h':=
 %[λb ob q _ _ _=>k b ob q,λb ob q _ _ _=>%[ob.slots|k b ob q],λ_ _ _ n _=>n,λb ob q _=>%[ob|k b ob q],λ_ _ q=>q,λ_ _ _ q=>q|λ_ ps q=>%[#[]|by rw[q];simp]]
def Un.refl:Un fs ex H H h h:=Un.kept λ_ _ q=>q
def Un.laid(k:∀b u,h.get? b=some u->h'.get? b=some u)(hp:h.objs.size<=a)(hn:H a=none):Un fs ex H (upd H a o) h h' where
 keep:=λb u q _ _ _=>k b u q
 slot:=λb u q _ _ _=>%[u.slots|k b u q]
 free:=λb u q n _=>by rw[aB (zX0 (qM0 (zQ0 q) hp))];exact n
 there:=λb u q _=>%[u|k b u q]
 tups:=λb xs q=>by rw[aB (bi q hn)];exact q
 frzs:=λb u xs q=>by rw[aB (bi q hn)];exact q
 tbls:=λb ps q=>%[#[]|by rw[aB (bi q hn),q];simp]
def Un.write(mu:Mut (H x))(he:e=x∨H e=some (.own x))(k:∀b u,b≠e->h.get? b=some u->h'.get? b=some u)(heo:∃u,h'.get? e=some u):Un fs ex H (upd H x o) h h':=by
 let hx:∀b,H b=none->b≠x:=λb n z=>by subst z;rw[n]at mu;exact mu
 let hb:∀b,H b=none->b≠e:=λb n z=>by
  subst z;rcases he with r | r
  . exact hx b n r
  . rw[n]at r;cases r
 let hm:∀b u,H b=some u->¬ Mut (some u)->b≠x:=λb u q nm z=>by subst z;rw[q]at mu;exact nm mu
 erw[λb u q n _ _=>k b u (hb b n) q,λb u q n _ _=>%[u.slots|k b u (hb b n) q],λb u q n _=>by rw[aB (hx b n)];exact n,λb u q _=>?_,λb xs q=>by rw[aB (hm b _ q λz=>z)];exact q,λb u xs q=>by rw[aB (hm b _ q λz=>z)];exact q,λb ps q=>%[#[]|by rw[aB (hm b _ q λz=>z),q];simp]]
 by_cases hbe:b=e
 . subst hbe;exact heo
 . erw[u,k b u hbe q]
end
def trk(h:Heap)(H:Hp):List Addr:=(List.range h.objs.size).filter λa=>(H a).isSome
def vc(h:Heap)(H:Hp):Heap:=PySem.W.hideAll h (trk h H)
def AD(h:Heap)(H:Hp):(vc h H).objs.size=h.objs.size:=PySem.W.hideAll_size _ _
def Dx{h:Heap}{H:Hp}{b:Addr}{o:Obj}(e:h.get? b=some o)(n:H b=none):(vc h H).get? b=some o:=
 PySem.W.hideAll_get _ e λhm=>by
  let q:(H b).isSome=true:=(List.mem_filter.mp hm).2;rw[n]at q;simp at q
def Fc{b:Addr}{o:Obj}(e:(vc h H).get? b=some o):h.get? b=some o/\H b=none:=by
 let e':h.get? b=some o:=PySem.W.of_hideAll (trk h H) e;erw[e',6];cases q:H b with
 |none=>rfl
 |some x=>
   let hm:b∈trk h H:=List.mem_filter.mpr %[List.mem_range.mpr (zQ0 e')|by simp [q]];let z:(vc h H).get? b=none:=PySem.W.hideAll_none (trk h H) hm;rw[z]at e;cases e
structure Mod(K:W.Frag)(mg:#[9])(base:Heap):Prop where
 kin:K.In base
 glob:base.Ns mainGlobals mg
 blt:∃mb,base.Ns builtinsNs mb/\∀x:Str,x≠"__name__" -> mb x=bootBuiltins x
 nolimit:base.NoLimit
structure Cx where
 prog:Program
 w:World
 K:W.Frag
 mg:#[9]
 base:Heap
 A:Around
 N:List Str
 s₀:Shared
 H₀:Hp
 env:Env
 outer:List Env
 stack:List Env
 ex:List Addr
 fn:Str->Bool
 calm:Bool
 pn:#[7]
 xe:#[6]
def frs(l:List Env):List Addr:=l.filterMap (·.frame)
abbrev Cx.fs(X:Cx):List Addr:=frs X.outer
def Vis(sc:Scope)(x:Str):Prop:=sc.names.lookup x=some .local∨sc.names.lookup x=some .cell∨sc.names.lookup x=some .free
def Loc(sc:Scope)(x:Str):Prop:=sc.names.lookup x=some .local∨sc.names.lookup x=some .cell
def Look(env:Env)(h:Heap)(m:#[9])(x:Str)(u:Value):Prop:=
 (env.kindOf x=some .local/\m x=some u)∨((env.kindOf x=some .cell∨env.kindOf x=some .free)/\∃c,env.cells.lookup x=some c/\h.IsCell c (some u))
structure Cx.Ok(X:Cx):Prop where
 mod:Mod X.K X.mg X.base
 kind:X.env.scope.kind=.function
 glob:X.env.globals=mainGlobals
 blt:X.env.builtins=builtinsNs
 above:X.s₀.heap.objs.size<=X.env.locals
 inj:∀x y c,X.env.cells.lookup x=some c->X.env.cells.lookup y=some c->x=y
 has:∀x,(X.env.kindOf x=some .cell∨X.env.kindOf x=some .free)->∃c,X.env.cells.lookup x=some c
 cab:∀x c,X.fn x=true->X.env.cells.lookup x=some c->X.s₀.heap.objs.size<=c
 hd:X.calm=true->X.A.handled=none
 frames:X.A.frames=some X.stack
 stk:X.stack=X.outer∨(X.stack=X.env::X.outer/\X.env.frame=some X.env.locals)
 exf:∀b∈X.ex,b≠X.env.locals/\∀x c,X.env.cells.lookup x=some c->c≠b
 bs:∀b o,X.base.get? b=some o->X.s₀.heap.get? b=some o/\X.H₀ b=none
 bsz:X.base.objs.size<=X.s₀.heap.objs.size
 noex:∀b o,X.base.get? b=some o->b∉X.ex
 exfs:∀b∈X.ex,b∉X.fs
 funs:X.s₀.heap.FunFrames X.base X.outer
 frf:∀b∈X.fs,X.H₀ b=none
structure Inv(X:Cx)(Mp:#[7])(σ:List (Option V))(H:Hp)(s:Shared):Prop where
 ok:X.Ok
 os:s.os=X.s₀.os
 bare:AllBare s.gens
 base:Un X.fs X.ex X.H₀ H X.s₀.heap s.heap
 loc:∃m,s.heap.Ns X.env.locals m/\∀(i:Nat)(x:Str)(v:V),X.N[i]?=some x->σ[i]?=some (some v)->Vis X.env.scope x->∃u,RelV v u/\Look X.env s.heap m x u
 cell:∀x c,X.env.cells.lookup x=some c->∃v,s.heap.IsCell c v
 free:H X.env.locals=none
 freeC:∀x c,X.env.cells.lookup x=some c->H c=none
 pin:∀p∈X.pn++Mp,s.heap.get? p.1=some p.2/\H p.1=none/\p.1≠X.env.locals/\p.1∉X.fs/\∀v,p.2.data≠.cell v
 hok:HOk X.prog X.w H s.heap
 len:σ.length=X.N.length
section
variable {X:Cx}{Mp:#[7]}{σ:List (Option V)}{H H':Hp}{s:Shared}{h':Heap}
def Cx.Ok.nofr(ok:X.Ok){b:Addr}{o:Obj}(e:X.base.get? b=some o):b∉X.fs:=λhb=>by
 have:=(ok.funs.mem hb).1
 rw[e]at this;cases this
def Inv.bs(I:#[8] H s):∀b o,X.base.get? b=some o->s.heap.get? b=some o/\H b=none:=λb o e=>
 %[I.base.keep b o (I.ok.bs b o e).1 (I.ok.bs b o e).2 (I.ok.nofr e) (I.ok.noex b o e)|I.base.free b o (I.ok.bs b o e).1 (I.ok.bs b o e).2 (I.ok.noex b o e)]
def Inv.bk(I:#[8] H s):∀b o,X.base.get? b=some o->s.heap.get? b=some o:=λb o e=>(I.bs b o e).1
def Inv.mod(I:#[8] H s):Mod X.K X.mg X.base:=I.ok.mod
def Inv.kIn(I:#[8] H s):X.K.In s.heap:=I.ok.mod.kin.keeps I.bk
def Inv.lt(I:#[8] H s):X.env.locals<‹s›:=let⟨_,hn,_⟩:=I.loc;hn.lt
def Inv.sz(I:#[8] H s):X.s₀.heap.objs.size<=‹s›:=zN0 I.ok.above (wB1 I.lt)
def Inv.nofs(I:#[8] H s){a:Addr}(h:‹s›<=a):a∉X.fs:=λhb=>by
 let%[_,o,ho|_]:=I.ok.funs.mem hb;exact absurd (qM0 (zQ0 ho) (zN0 I.sz h)) (qU0 _)
def Inv.cne(I:#[8] H s):∀x c,X.env.cells.lookup x=some c->c≠X.env.locals:=λx c e z=>by
 let%[v,o,ho|hd]:=I.cell x c e;erw[m,%[o',es,ep,ho',hd'|_],_]at I.loc;rw[z,ho']at ho;cases ho;rw[hd']at hd;cases hd
def Inv.funs(I:#[8] H s):s.heap.FunFrames X.base X.outer:=by
 let all:∀(l:List Env),(∀b∈frs l,b∈X.fs)->X.s₀.heap.FunFrames X.base l->s.heap.FunFrames X.base l:=by
  intro l
  induction l with
  |nil=>intro _ _;trivial
  |cons env r ih=>
    intro hs hl;erw[hk,%[L,o,hf,hn,ho|hd],hr]at hl;let hL:L∈X.fs:=hs L (by unfold frs;rw[jW1,hf];exact qB0);let%[sl|e]:=I.base.slot L o ho (I.ok.frf L hL) hL λz=>I.ok.exfs L z hL
    erw[hk,%[L,_,hf,hn,e|hd],ih (λb hb=>hs b (by unfold frs;rw[jW1,hf];exact qK0 _ hb)) hr]
 exact all X.outer (λ_ hb=>hb) I.ok.funs
def Inv.stack(I:#[8] H s):s.heap.FunFrames X.base X.stack:=by
 rcases I.ok.stk with e | ⟨e,hf⟩
 . rw[e];exact I.funs
 . rw[e];erw[m,hn,_]at I.loc;refine .cons (by rw[I.ok.kind];decide) hf hn ?_ I.funs;exact Heap.get?_none_of_le (zN0 I.ok.bsz I.ok.above)
def Inv.stkSub(I:#[8] H s):∀b∈frs X.stack,b∈X.env.locals::X.fs:=λb hb=>by
 rcases I.ok.stk with e | ⟨e,hf⟩
 . rw[e]at hb;exact qK0 _ hb
 . rw[e]at hb;unfold frs at hb;rw[jW1,hf]at hb;exact hb
def Inv.stkFree(I:#[8] H s):∀b∈frs X.stack,H b=none:=λb hb=>by
 rcases zS0 (I.stkSub b hb)with e | hb
 . rw[e];exact I.free
 . let%[_,o,ho|_]:=I.ok.funs.mem hb;exact I.base.free b o ho (I.ok.frf b hb) λz=>I.ok.exfs b z hb
def Inv.step{g':Array GenState}{t':Nat}{d':Drawn}{ch:List Addr}(I:#[8] H s)
 (hch:∀b∈ch,(b∈X.ex∨X.s₀.heap.objs.size<=b)/\b≠X.env.locals/\(∀x c,X.env.cells.lookup x=some c->c≠b)/\∀p∈X.pn++Mp,p.1≠b)
 (keep:∀b o,b≠X.env.locals->b∉X.fs->b∉ch->s.heap.get? b=some o->H b=none->h'.get? b=some o)
 (slot:∀b o,b≠X.env.locals->b∈X.fs->b∉ch->s.heap.get? b=some o->H b=none->∃sl,h'.get? b=some { o with slots:=sl })(free:∀b o,b∉ch->s.heap.get? b=some o->H b=none->H' b=none)
 (there:∀b o,b∉ch->s.heap.get? b=some o->∃o',h'.get? b=some o')
 (tups:∀b xs,H b=some (.tup xs)->H' b=some (.tup xs))(frzs:∀b o u,H b=some (.frz o u)->H' b=some (.frz o u))(tbls:∀b ps,H b=some (.tbl ps)->∃more,H' b=some (.tbl (ps++more)))
 (ns:∀m,s.heap.Ns X.env.locals m->h'.Ns X.env.locals m)(hok:HOk X.prog X.w H' h')(hg:AllBare g'):
 #[8] H' { s with heap:=h',gens:=g',drawn:=d',toks:=t' }:=by
 let neL:∀b o,X.s₀.heap.get? b=some o->b≠X.env.locals:=λb o e=>zX0 (qM0 (zQ0 e) I.ok.above)
 let neC:∀b o,X.s₀.heap.get? b=some o->b∉X.ex->b∉ch:=λb o e hx hb=>by
  rcases(hch b hb).1 with z | z
  . exact hx z
  . exact absurd (qM0 (zQ0 e) z) (qU0 _)
 let cellK:∀x c,X.env.cells.lookup x=some c->∀v,s.heap.IsCell c v->h'.IsCell c v:=λx c e v ⟨o,ho,hd⟩=>by
  let nch:c∉ch:=λz=>(hch c z).2.2.1 x c e rfl
  by_cases hc:c∈X.fs
  . let%[sl|q]:=slot c o (I.cne x c e) hc nch ho (I.freeC x c e);erw[_,q,hd]
  . erw[o,keep c o (I.cne x c e) hc nch ho (I.freeC x c e),hd]
 erw[I.ok,I.os,hg,%[λb o e n hb hx=>?_,λb o e n hb hx=>?_,λb o e n hx=>?_,λb o e hx=>?_,λb xs e=>tups b xs (I.base.tups b xs e),λb o xs e=>frzs b o xs (I.base.frzs b o xs e)|λb ps e=>?_],6,λx c e=>?_,6,λx c e=>?_,λp hp=>?_,hok,I.len]
 . exact keep b o (neL b o e) hb (neC b o e hx) (I.base.keep b o e n hb hx) (I.base.free b o e n hx)
 . let%[sl|e1]:=I.base.slot b o e n hb hx;let%[sl'|e2]:=slot b _ (neL b o e) hb (neC b o e hx) e1 (I.base.free b o e n hx);erw[sl',e2]
 . let%[o'|e1]:=I.base.there b o e hx;exact free b o' (neC b o e hx) e1 (I.base.free b o e n hx)
 . let%[o'|e1]:=I.base.there b o e hx;exact there b o' (neC b o e hx) e1
 . let%[m1|e1]:=I.base.tbls b ps e;let%[m2|e2]:=tbls b _ e1;erw[m1++m2,by rw[e2,Array.append_assoc]]
 . erw[m,hn,hl]at I.loc;erw[m,ns m hn,λi x v e1 e2 e3=>?_];let%[u,r|l]:=hl i x v e1 e2 e3;erw[u,r,6];rcases l with l | ⟨k,c,e,z⟩
   . exact .inl l
   . exact .inr %[k,c,e|cellK x c e _ z]
 . let%[v|z]:=I.cell x c e;erw[v,cellK x c e v z]
 . erw[m,%[o,_,_,ho|_],_]at I.loc;exact free _ o (λz=>(hch _ z).2.1 rfl) ho I.free
 . let%[v,o,ho|hd]:=I.cell x c e;exact free c o (λz=>(hch c z).2.2.1 x c e rfl) ho (I.freeC x c e)
 . let%[e,n,ne,nf|d]:=I.pin p hp;let nch:p.1∉ch:=λz=>(hch p.1 z).2.2.2 p hp rfl
   erw[keep p.1 p.2 ne nf nch e n,free p.1 p.2 nch e n,ne,nf,d]
def Inv.un{t':Nat}(I:#[8] H s)(u:Un X.fs [] H H' s.heap h')(hok:HOk X.prog X.w H' h'):#[8] H' { s with heap:=h',toks:=t' }:=by
 let%[m,%[o,es,ep,ho|r]|_]:=id I.loc;let%[sl|hL]:=u.any ho I.free #[2];exact I.step (g':=s.gens) (d':=s.drawn) (ch:=[]) (λ_ z=>nomatch z) (λb o _ hb _ e n=>u.keep b o e n hb #[2]) (λb o _ hb _ e n=>u.slot b o e n hb #[2]) (λb o _ e n=>u.free b o e n #[2]) (λb o _ e=>u.there b o e #[2]) u.tups u.frzs u.tbls (λm' hm=>by
  erw[o',es',ep',ho',r']at hm;rw[ho]at ho';cases ho';erw[_,es',ep',hL,r']) hok I.bare
def Inv.call{g':Array GenState}{t':Nat}{d':Drawn}{ch:List Addr}(I:#[8] H s)(u:Un (frs X.stack) ch H H' s.heap h')(hok:HOk X.prog X.w H' h')(hg:AllBare g')
 (hch:∀b∈ch,(b∈X.ex∨X.s₀.heap.objs.size<=b)/\b≠X.env.locals/\(∀x c,X.env.cells.lookup x=some c->c≠b)/\∀p∈X.pn++Mp,p.1≠b):
 #[8] H' { s with heap:=h',gens:=g',drawn:=d',toks:=t' }:=by
 let%[m,%[o,es,ep,ho|r]|_]:=id I.loc;let%[sl|hL]:=u.any ho I.free λz=>(hch _ z).2.1 rfl
 exact I.step (ch:=ch) hch (λb o hL hb hc e n=>u.keep b o e n (λz=>(zS0 (I.stkSub b z)).elim hL hb) hc) (λb o _ _ hc e n=>u.any e n hc) (λb o hc e n=>u.free b o e n hc) (λb o hc e=>u.there b o e hc) u.tups u.frzs u.tbls (λm' hm=>by
  erw[o',es',ep',ho',r']at hm;rw[ho]at ho';cases ho';erw[_,es',ep',hL,r']) hok hg
def Inv.turned{t':Nat}{it:Addr}(I:#[8] H s)(k:∀b o,b≠it->s.heap.get? b=some o->h'.get? b=some o)(hn:H it=none)(hL:it≠X.env.locals)
 (h1:it∈X.ex∨X.s₀.heap.objs.size<=it)(h2:∀x c,X.env.cells.lookup x=some c->c≠it)(h3:∀p∈X.pn++Mp,p.1≠it):#[8] H { s with heap:=h',toks:=t' }:=by
 let nit:∀b u,H b=some u->b≠it:=λb u e z=>by rw[z,hn]at e;cases e
 apply I.step (g':=s.gens) (d':=s.drawn) (ch:=[it]) (λb hb=>?_) (λb o _ _ hc e _=>k b o (λz=>hc (by simp [z])) e) (λb o _ _ hc e _=>%[o.slots|k b o (λz=>hc (by simp [z])) e]) (λ_ _ _ _ n=>n)
  (λb o hc e=>%[o|k b o (λz=>hc (by simp [z])) e]) (λ_ _ e=>e) (λ_ _ _ e=>e) (λb ps e=>%[#[]|by rw[e];simp]) (λm hm=>?_) (λb u e=>?_) I.bare
 . let e:b=it:=#[hb,0]
   subst e;erw[h1,hL,h2,h3]
 . erw[o,es,ep,ho,r]at hm;erw[o,es,ep,k _ o (Ne.symm hL) ho,r]
 . apply (I.hok b u e).stay (λc v hc q=>k c v ?_ q) (λ_ q=>q) λ_ _ q=>q
   rcases hc with z | z
   . rw[z];exact nit b u e
   . exact nit c _ z
def Inv.tok(I:#[8] H s)(t:Nat):#[8] H { s with toks:=t }:=I.un (h':=s.heap) (t':=t) Un.refl I.hok
def Inv.kept{t':Nat}(I:#[8] H s)(k:∀b u,s.heap.get? b=some u->h'.get? b=some u):#[8] H { s with heap:=h',toks:=t' }:=I.un (Un.kept k) (I.hok.kept k)
def Inv.laid{a:Addr}{t':Nat}(I:#[8] H s)(k:∀b u,s.heap.get? b=some u->h'.get? b=some u)(hp:‹s›<=a)(new:ObjOk X.prog X.w (upd H a o) h' a o):
 #[8] (upd H a o) { s with heap:=h',toks:=t' }:=I.un (Un.laid k hp (I.hok.fresh hp)) (I.hok.laid k hp new)
def Inv.write{x e:Addr}{t':Nat}(I:#[8] H s)(mu:Mut (H x))(he:e=x∨H e=some (.own x))(k:∀b u,b≠e->s.heap.get? b=some u->h'.get? b=some u)(heo:∃u,h'.get? e=some u)
 (new:ObjOk X.prog X.w (upd H x o) h' x o):#[8] (upd H x o) { s with heap:=h',toks:=t' }:=I.un (Un.write mu he k heo) (I.hok.write mu he k heo new)
def Inv.pins_of{pins':#[7]}(I:#[8] H s)(h:∀p∈pins',s.heap.get? p.1=some p.2/\H p.1=none/\p.1≠X.env.locals/\p.1∉X.fs/\∀v,p.2.data≠.cell v):Inv X pins' σ H s:=
 %[I.ok,I.os,I.bare,I.base,I.loc,I.cell,I.free,I.freeC,λp hp=>(qG0 hp).elim (λz=>I.pin p (List.mem_append_left _ z)) (h p),I.hok|I.len]
def wj{N:List Str}(hN:N.Nodup){i j:Nat}{x:Str}(a:N[i]?=some x)(b:N[j]?=some x):i=j:=by
 let%[h1|e1]:=zW0 a;let%[h2|e2]:=zW0 b;exact(List.getElem_inj hN).mp (e1.trans e2.symm)
def sQ{M:Model}{A:Around}{E:#[6]}{i:Nat}{x:Str}{Q:Unit->Shared->Prop}(I:#[8] H s)(hN:X.N.Nodup)(hi:X.N[i]?=some x)(hx:Loc X.env.scope x)(r:RelV v u)
 (h:∀s',Inv X Mp (σ.set i (some v)) H s'->(∃a,Heap.SameBut a s.heap s'.heap/\(a=X.env.locals∨X.env.cells.lookup x=some a))->Q () s')(hf:X.fn x=true∨X.env.scope.names.lookup x=some .local:=by first | exact .inl rfl | exact .inr rfl | assumption):wpAny M A (storeName X.env x u) Q E s:=by
 let%[m,hn|hl]:=id I.loc;let hcls:(X.env.scope.kind==.class||(X.env.scope.kind==.module&&X.env.locals != X.env.globals))=false:=by rw[I.ok.kind];rfl
 let hiσ:i<σ.length:=by rw[I.len];exact(zW0 hi).1
 let cne:=I.cne;let tracked:∀{a:Addr}{h':Heap},(∃o,s.heap.get? a=some o/\H a=none)->Heap.SameBut a s.heap h'->HOk X.prog X.w H h':=fun{a h'} ha hs b ob e=>by
  erw[_,_,hfree]at ha;refine(I.hok b ob e).stay (λc w' hc q=>(hs.2 c ?_).trans q) (λ_ q=>q) λ_ _ q=>q
  rintro rfl;rcases hc with rfl | hc
  . rw[hfree]at e;cases e
  . rw[hfree]at hc;cases hc
 rcases hx with hk | hk
 . apply wpAny_storeName_local hk hn (λh' hn' hs=>?_) hcls;let%[oL,_,_,hoL|_]:=id hn;apply h _ %[I.ok,I.os,I.bare,%[λb o e n hb hx=>?_,λb o e n hb hx=>?_,I.base.free,λb o e hx=>?_,I.base.tups,I.base.frzs|I.base.tbls],%[_,hn'|λj y v' e1 e2 e3=>?_],λy c e=>?_,I.free,I.freeC,λp hp=>?_,tracked %[oL,hoL|I.free] hs|by simpa using I.len] ⟨_,hs,.inl rfl⟩
   . exact(hs.2 b (zX0 (qM0 (zQ0 e) I.ok.above))).trans (I.base.keep b o e n hb hx)
   . let%[sl|e1]:=I.base.slot b o e n hb hx;erw[sl,(hs.2 b (zX0 (qM0 (zQ0 e) I.ok.above))).trans e1]
   . let%[o'|e1]:=I.base.there b o e hx;erw[o',(hs.2 b (zX0 (qM0 (zQ0 e) I.ok.above))).trans e1]
   . by_cases hj:j=i
     . subst hj;rw[hi]at e1;cases e1;rw[List.getElem?_set_self hiσ]at e2;cases e2;erw[u,r,.inl %[hk|by simp]]
     . rw [List.getElem?_set_ne (Ne.symm hj)]at e2;let%[u',r'|q]:=hl j y v' e1 e2 e3;erw[u',r',6];rcases q with⟨k,e⟩ | ⟨k,c,e,z⟩
       . refine .inl %[k|6]
         have:y≠x:=λe=>hj (wj hN e1 (e▸hi))
         simp [this,e]
       . exact .inr %[k,c,e|z.sameBut hs (cne y c e)]
   . let%[w'|z]:=I.cell y c e;erw[w',z.sameBut hs (cne y c e)]
   . let%[e,n,ne,nf|d]:=I.pin p hp;erw[(hs.2 p.1 ne).trans e,n,ne,nf,d]
 . let hfn:X.fn x=true:=by
    rcases hf with z | z
    . exact z
    . rw[z]at hk;cases hk
   let%[c|hc]:=I.ok.has x (.inl hk);let%[w'|z]:=I.cell x c hc;apply wpAny_storeName_cell I.ok.kind hk hc z (λh' hc' hs=>?_);let%[oc,hoc|hocd]:=id z;apply h { s with heap:=h' } ⟨I.ok,I.os,I.bare,⟨λb o e n hb hx=>?_,λb o e n hb hx=>?_,I.base.free,λb o e hx=>?_,I.base.tups,I.base.frzs,I.base.tbls⟩,%[m,hn.sameBut hs (Ne.symm (cne x c hc))|λj y v' e1 e2 e3=>?_],λy c' e=>?_,I.free,I.freeC,λp hp=>?_,tracked %[oc,hoc|I.freeC x c hc] hs,by simpa using I.len⟩ ⟨c,hs,.inr hc⟩
   . exact(hs.2 b (zX0 (qM0 (zQ0 e) (I.ok.cab x c hfn hc)))).trans (I.base.keep b o e n hb hx)
   . let%[sl|e1]:=I.base.slot b o e n hb hx;erw[sl,(hs.2 b (zX0 (qM0 (zQ0 e) (I.ok.cab x c hfn hc)))).trans e1]
   . let%[o'|e1]:=I.base.there b o e hx;erw[o',(hs.2 b (zX0 (qM0 (zQ0 e) (I.ok.cab x c hfn hc)))).trans e1]
   . by_cases hj:j=i
     . subst hj;rw[hi]at e1;cases e1;rw[List.getElem?_set_self hiσ]at e2;cases e2;erw[u,r,.inr %[.inl hk,c,hc|hc']]
     . rw [List.getElem?_set_ne (Ne.symm hj)]at e2;let%[u',r'|q]:=hl j y v' e1 e2 e3;erw[u',r',6];rcases q with q | ⟨k,c',e,z'⟩
       . exact .inl q
       . refine .inr %[k,c',e|z'.sameBut hs ?_];rintro rfl;exact hj (wj hN e1 (I.ok.inj _ _ _ e hc▸hi))
   . by_cases hcc:c'=c
     . subst hcc;erw[_,hc']
     . let%[w2|z2]:=I.cell y c' e;erw[w2,z2.sameBut hs hcc]
   . let%[e,n,ne,nf|d]:=I.pin p hp;erw[(hs.2 p.1 ?_).trans e,n,ne,nf,d];intro q;rw[q,hoc]at e;let q':oc=p.2:=zV0 e;exact d w' (by rw[←q'];exact hocd)
def vz{M:Model}{A:Around}{E:#[6]}{i:Nat}{x:Str}{Q:Unit->Shared->Prop}(I:#[8] H s)(hN:X.N.Nodup)(hi:X.N[i]?=some x)(hx:Loc X.env.scope x)(r:RelV v u)
 (h:∀s',Inv X Mp (σ.set i (some v)) H s'->Q () s')(hf:X.fn x=true∨X.env.scope.names.lookup x=some .local:=by first | exact .inl rfl | exact .inr rfl | assumption):wpAny M A (storeName X.env x u) Q E s:=
 sQ I hN hi hx r (λs' I' _=>h s' I') hf
def Inv.call'{s':Shared}{ch:List Addr}(I:#[8] H s)(ho:s'.os=s.os)(u:Un (frs X.stack) ch H H' s.heap s'.heap)(hok:HOk X.prog X.w H' s'.heap)(hg:AllBare s'.gens)
 (hch:∀b∈ch,(b∈X.ex∨X.s₀.heap.objs.size<=b)/\b≠X.env.locals/\(∀x c,X.env.cells.lookup x=some c->c≠b)/\∀p∈X.pn++Mp,p.1≠b):#[8] H' s':=by
 erw[h',g',d',t',o']at s';let e:o'=s.os:=ho;subst e;exact I.call (g':=g') (t':=t') (d':=d') u hok hg hch
end
abbrev XK:=Value->Option Addr->Hp->Prop
abbrev St:=List (Option V)
abbrev VK:=V->Hp->Prop
abbrev TE:=St->Hp->VK->Prop
abbrev TT:=St->Hp->(Bool->Hp->Prop)->Prop
abbrev TA:=St->Hp->(List V->Hp->Prop)->Prop
structure Ends where
 nx:St->Hp->Prop
 rt:VK
 bk:St->Hp->Prop:=λ_ _=>False
 ct:St->Hp->Prop:=λ_ _=>False
abbrev TS:=Ends->St->Hp->Prop
instance EP(X:Cx)(Mp:#[7])(σ:St)(Q:VK)(u:Value)(s':Shared):∀v H',#[8] H' s'->RelV v u->Q v H':=0
instance TP(X:Cx)(Mp:#[7])(σ:St)(Q:Bool->Hp->Prop)(b:Bool)(s':Shared):∀H',#[8] H' s'->Q b H':=0
instance AP(X:Cx)(Mp:#[7])(σ:St)(Q:List V->Hp->Prop)(us:List Value)(s':Shared):∀vs H',#[8] H' s'->Vals vs us->Q vs H':=0
instance NP(X:Cx)(Mp:#[7])(N:St->Hp->Prop)(s':Shared):∀ σ' H',Inv X Mp σ' H' s'->N σ' H':=0
instance RP(X:Cx)(Mp:#[7])(Q:VK)(u:Value)(s':Shared):∀v σ' H',Inv X Mp σ' H' s'->RelV v u->Q v H':=0
instance HQ(X:Cx)(Mp:#[7])(σ:St)(Q:Hp->Prop)(s':Shared):∀H',#[8] H' s'->Q H':=0
def SP(X:Cx)(Mp:#[7])(D:Ends)(f:Flow)(s':Shared):Prop:=
 match f with
 |.next=>NP X Mp D.nx s'
 |.brk=>NP X Mp D.bk s'
 |.cont=>NP X Mp D.ct s'
 |.ret u=>RP X Mp D.rt u s'
def PE(X:Cx)(e:Expr)(t:TE):Prop:=
 ∀(Mp:#[7])(s:Shared)(σ:St)(H:Hp)(Q:VK),#[8] H s->t σ H Q->‹X.w› (eval e X.env) (EP X Mp σ Q) X.xe s
def PT(X:Cx)(e:Expr)(t:TT):Prop:=
 ∀(Mp:#[7])(s:Shared)(σ:St)(H:Hp)(Q:Bool->Hp->Prop),#[8] H s->t σ H Q->‹X.w› (isTrue e X.env (eval e X.env)) (TP X Mp σ Q) X.xe s
def PW(X:Cx)(e:Expr)(t:TT):Prop:=
 ∀(whole:Sem Value)(Mp:#[7])(s:Shared)(σ:St)(H:Hp)(Q:Bool->Hp->Prop),#[8] H s->t σ H Q->‹X.w› (isTrue e X.env whole) (TP X Mp σ Q) X.xe s
def PW.pt(h:PW X e t):PT X e t:=h _
def PA(X:Cx)(es:List Expr)(t:TA):Prop:=
 ∀(pos:Pos)(Mp:#[7])(s:Shared)(σ:St)(H:Hp)(Q:List V->Hp->Prop),#[8] H s->t σ H Q->‹X.w› (spliced (backTo pos (starEach es X.env))) (AP X Mp σ Q) X.xe s
def PS(X:Cx)(st:Stmt)(t:TS):Prop:=
 ∀(Mp:#[7])(s:Shared)(σ:St)(H:Hp)(D:Ends),#[8] H s->t D σ H->‹X.w› (exec st X.env) (SP X Mp D) X.xe s
def PSs(X:Cx)(st:List Stmt)(t:TS):Prop:=
 ∀(Mp:#[7])(s:Shared)(σ:St)(H:Hp)(D:Ends),#[8] H s->t D σ H->‹X.w› (execs st X.env) (SP X Mp D) X.xe s
def thn{α:Type}{t:Sem α}{Q Q':α->Shared->Prop}{M:Model}{A:Around}{E:#[6]}{s:Shared}(h:wpAny M A t Q E s)(hQ:∀a s,Q a s->Q' a s):wpAny M A t Q' E s:=jH0 h hQ λ_ _ x=>x
section
variable {X:Cx}
instance tVar(i:Nat)(σ:St)(H:Hp)(Q:VK):∀v,σ[i]?=some (some v)->Q v H:=0
def tC(v:V):TE:=λ_ H Q=>Q v H
def GK{i:Nat}{x:Str}{pos:Pos}(hN:X.N[i]?=some x)(hv:Vis X.env.scope x)(hd:(x==("__debug__":Str))=false:=by decide)(hcd:(x==("__classdict__":Str))=false:=by decide):PE X (.Name x pos) (tVar i):=by
 exists 4,Q,I,h;erw[v,e,h]at h;erw[m,hn,hl]at I.loc;let%[u,r|l]:=hl i x v hN e hv;let fin:EP X Mp σ Q u s:=%[v,H,I,r|h]
 rcases l with⟨hk,hm⟩ | ⟨hk,c,hc,hcell⟩
 . exact wpAny_Name (wpAny_loadName_local I.ok.kind hk hn hm fin) hd
 . rcases hk with hk | hk
   . exact wpAny_Name (wpAny_loadName_cell I.ok.kind hk hc hcell fin) hd
   . exact wpAny_Name (wpAny_loadName_free I.ok.kind hk hc hcell fin hcd) hd
def ad{i j pos}:PE X (.Constant (.int i) j pos) (tC (.int i)):=λ_ _ _ H _ I h=>wpAny_Constant_int %[.int i,H,I.tok _,%[|0]|h]
def ju{b j pos}:PE X (.Constant (.bool b) j pos) (tC (.bl b)):=λ_ _ _ H _ I h=>Constant_bool %[.bl b,H,I,1|h]
def mo{j pos}:PE X (.Constant .none j pos) (tC .non):=λ_ _ _ H _ I h=>Constant_none %[.non,H,I,1|h]
def aq{x j pos}:PE X (.Constant (.str x) j pos) (tC (.str x)):=λ_ _ _ H _ I h=>Calls.Constant_str %[.str x,H,I.tok _,%[|0]|h]
def Gl(X:Cx)(x:Str):Prop:=X.env.kindOf x=some .globalImplicit
def uV{E:#[6]}{σ:St}{u:Value}{pos:Pos}{Q:#[6]}(I:#[8] H s)(hg:Gl X x)(hm:X.mg x=some u)(h:Q u s)
 (hd:(x==("__debug__":Str))=false:=by decide):‹X.w› (eval (.Name x pos) X.env) Q E s:=
 Calls.Name_function_global I.ok.kind hg (Calls.loadGlobal_global (by rw[I.ok.glob];exact I.mod.glob.keeps I.bk) hm h) hd
def ji{E:#[6]}{σ:St}{u:Value}{pos:Pos}{Q:#[6]}(I:#[8] H s)(hg:Gl X x)(hm:X.mg x=none)(hv:bootBuiltins x=some u)(h:Q u s)
 (hn:x≠"__name__":=by decide)(hd:(x==("__debug__":Str))=false:=by decide):‹X.w› (eval (.Name x pos) X.env) Q E s:=by
 erw[mb,h1,h2]at I.mod.blt;exact Calls.Name_function_global I.ok.kind hg (Calls.loadGlobal_builtin (by rw[I.ok.glob];exact I.mod.glob.keeps I.bk) hm (by rw[I.ok.blt];exact h1.keeps I.bk) ((h2 x hn).trans hv) h) hd
def bQ{u:Value}{pos:Pos}(hg:Gl X x)(hm:X.mg x=some u)(r:RelV v u)(hd:(x==("__debug__":Str))=false:=by decide):PE X (.Name x pos) (tC v):=
 λ_ _ _ H _ I h=>uV I hg hm %[v,H,I,r|h] hd
def yW{u:Value}{pos:Pos}(hg:Gl X x)(hm:X.mg x=none)(hv:bootBuiltins x=some u)(r:RelV v u)(hn:x≠"__name__":=by decide)(hd:(x==("__debug__":Str))=false:=by decide):PE X (.Name x pos) (tC v):=
 λ_ _ _ H _ I h=>ji I hg hm hv %[v,H,I,r|h] hn hd
variable {a b:Expr}{ta tb:TE}{pos:Pos}
instance ZtB(Q:(Bool->Hp->Prop))(x:V)(H1:Hp):∀c,x=.bl c->Q c H1:=0
def tB(t:TE):TT:=λσ H Q=>t σ H λx H1=>ZtB Q x H1
def dN(h:PE X e t)(he:∀whole,isTrue e X.env whole=(do let v ←whole;standAt e.pos;holding [v] (truthy v)):=by intro _;rfl):PT X e (tB t):=by
 exists 4,Q,I,hw;apply isTrue_plain (thn (h Mp s σ H _ I hw) λv s1 ⟨x,H1,I1,r1,q1⟩=>?_) (he _);erw[d,1,q]at q1;cases r1;exact qA1 %[H1,I1|q]
variable {tA tB':TT}{rest:List Expr}
def tAnd(t u:TT):TT:=λσ H Q=>t σ H λc H1=>if c=true then u σ H1 Q else Q false H1
def tOr(t u:TT):TT:=λσ H Q=>t σ H λc H1=>if c=true then Q true H1 else u σ H1 Q
def tNot(t:TT):TT:=λσ H Q=>t σ H λc H1=>Q (!c) H1
def ng(ha:PT X a tA):PW X (.BoolOp .And [a] pos) tA:=by
 intro wh Mp s σ H Q I h;apply isTrue_and (thn (ha Mp s σ H Q I h) λc s1 e=>?_);cases c with
 |true=>exact isTrue_and_nil e
 |false=>exact e
def dZ(ha:PT X a tA):PW X (.BoolOp .Or [a] pos) tA:=by
 intro wh Mp s σ H Q I h;apply isTrue_or (thn (ha Mp s σ H Q I h) λc s1 e=>?_);cases c with
 |false=>exact isTrue_or_nil e
 |true=>exact e
def oF(ha:PT X a tA)(hb:PW X (.BoolOp .And (b::rest) pos) tB'):PW X (.BoolOp .And (a::b::rest) pos) (tAnd tA tB'):=by
 intro wh Mp s σ H Q I h;apply isTrue_and (thn (ha Mp s σ H _ I h) λc s1 ⟨H1,I1,q1⟩=>?_);cases c with
 |true=>exact hb wh Mp s1 σ H1 Q I1 q1
 |false=>erw[H1,I1,q1]
def eF(ha:PT X a tA)(hb:PW X (.BoolOp .Or (b::rest) pos) tB'):PW X (.BoolOp .Or (a::b::rest) pos) (tOr tA tB'):=by
 intro wh Mp s σ H Q I h;apply isTrue_or (thn (ha Mp s σ H _ I h) λc s1 ⟨H1,I1,q1⟩=>?_);cases c with
 |true=>erw[H1,I1,q1]
 |false=>exact hb wh Mp s1 σ H1 Q I1 q1
def eQ(ha:PT X a tA):PT X (.UnaryOp .Not a pos) (tNot tA):=by
 exists 4,Q,I,h;exact isTrue_not (thn (ha Mp s σ H (λc H1=>Q (!c) H1) I h) λ_ _ ⟨a,b,c⟩=>%[a,b|c])
instance ZtAndV(tb:TE)(σ:St)(Q:VK)(x:V)(H1:Hp):∀c,x=.bl c->(if c=true then tb σ H1 Q else Q (.bl false) H1):=0
def tAndV(ta tb:TE):TE:=λσ H Q=>ta σ H λx H1=>ZtAndV tb σ Q x H1
instance ZtOrV(tb:TE)(σ:St)(Q:VK)(x:V)(H1:Hp):∀c,x=.bl c->(if c=true then Q (.bl true) H1 else tb σ H1 Q):=0
def tOrV(ta tb:TE):TE:=λσ H Q=>ta σ H λx H1=>ZtOrV tb σ Q x H1
instance ZtNotV(Q:VK)(x:V)(H1:Hp):∀c,x=.bl c->Q (.bl (!c)) H1:=0
def tNotV(ta:TE):TE:=λσ H Q=>ta σ H λx H1=>ZtNotV Q x H1
def xM{op}(h:PE X a t):PE X (.BoolOp op [a] pos) t:=λMp s σ H Q I hw=>BoolOp_one (h Mp s σ H Q I hw)
def xO(ha:PE X a ta)(hb:PE X (.BoolOp .And (b::rest) pos) tb):PE X (.BoolOp .And (a::b::rest) pos) (tAndV ta tb):=by
 exists 4,Q,I,h;apply BoolOp_and (thn (ha Mp s σ H _ I h) λv s1 ⟨x,H1,I1,r1,q1⟩=>?_);erw[c,1,q1]at q1;cases r1;apply qA1 ?_;cases c with
 |true=>exact hb Mp s1 σ H1 Q I1 q1
 |false=>erw[.bl false,H1,I1,1,q1]
def pe_or(ha:PE X a ta)(hb:PE X (.BoolOp .Or (b::rest) pos) tb):PE X (.BoolOp .Or (a::b::rest) pos) (tOrV ta tb):=by
 exists 4,Q,I,h;apply BoolOp_or (thn (ha Mp s σ H _ I h) λv s1 ⟨x,H1,I1,r1,q1⟩=>?_);erw[c,1,q1]at q1;cases r1;apply qA1 ?_;cases c with
 |false=>exact hb Mp s1 σ H1 Q I1 q1
 |true=>erw[.bl true,H1,I1,1,q1]
def Ce(ha:PE X a ta):PE X (.UnaryOp .Not a pos) (tNotV ta):=by
 exists 4,Q,I,h;apply UnaryOp_ (thn (ha Mp s σ H _ I h) λv s1 ⟨x,H1,I1,r1,q1⟩=>?_);erw[c,1,q1]at q1;cases r1;exact not_of (qA1 %[.bl (!c),H1,I1,1|q1])
def tIf(t:TT)(ta tb:TE):TE:=λσ H Q=>t σ H λc H1=>if c=true then ta σ H1 Q else tb σ H1 Q
def vQ(hc:PT X c tA)(ha:PE X a ta)(hb:PE X b tb):PE X (.IfExp c a b pos) (tIf tA ta tb):=by
 exists 4,Q,I,h;apply wpAny_IfExp (thn (hc Mp s σ H _ I h) λd s1 ⟨H1,I1,q1⟩=>?_);cases d with
 |true=>exact ha Mp s1 σ H1 Q I1 q1
 |false=>exact hb Mp s1 σ H1 Q I1 q1
end
def SqL(K:W.Frag)(H:Hp)(a:Addr)(xs:List V):Prop:=
 Rd H a (.lst xs)∨
  ∃(o:Obj) (its:Array Value) (n:Nat),K.lookup a=some o/\o.cls=.type "list"/\o.dict=none/\o.data=.seq its n/\its.size<=sizeLine/\Vals xs its.toList
def SqT(K:W.Frag)(H:Hp)(a:Addr)(xs:List V):Prop:=
 Rd H a (.tup xs)∨
  ∃(o:Obj) (its:Array Value) (n:Nat),K.lookup a=some o/\o.cls=.type "tuple"/\o.data=.seq its n/\its.size<=sizeLine/\Vals xs its.toList
def absV:Value->Option V
 |.none=>some .non
 |.bool b=>some (.bl b)
 |.int i _=>some (.int i)
 |.str x _=>some (.str x)
 |.bytes b _=>some (.byt b)
 |.float b _=>some (.flt b)
 |.ref a=>some (.ref a)
 |.type n=>some (.ty n)
 |_=>none
def RelV.abs(r:RelV x u):absV u=some x:=by
 cases x with
 |non=>cases r;rfl
 |bl _=>cases r;rfl
 |int _=>erw[t,1]at r;rfl
 |str _=>erw[t,1]at r;rfl
 |byt _=>erw[t,1]at r;rfl
 |flt _=>erw[t,1]at r;rfl
 |ref _=>cases r;rfl
 |ty _=>cases r;rfl
def RelV.inj(r:RelV x u)(q:RelV y u):x=y:=zV0 (r.abs.symm.trans q.abs)
def Vals.inj:∀{xs ys:List V}{us:List Value},Vals xs us->Vals ys us->xs=ys
 |_,_,_,.nil,.nil=>rfl
 |_,_,_,.cons r t,.cons r' t'=>by rw[r.inj r',Vals.inj t t']
section
variable {X:Cx}{Mp:#[7]}{σ:St}{H:Hp}{s:Shared}{a:Addr}{xs ys:List V}
def zG0{K:W.Frag}(h:H a=some (.lst xs)):SqL K H a xs:=.inl (.inl h)
abbrev SqL.of:=@zG0
def zB0{K:W.Frag}(h:H a=some (.tup xs)):SqT K H a xs:=.inl (.inl h)
abbrev SqT.of:=@zB0
def Inv.list(I:#[8] H s)(h:SqL X.K H a xs):∃its:List Value,Vals xs its/\PlainL s.heap a its.toArray/\xs.length<=sizeLine:=by
 rcases h with h | ⟨o,its,n,hk,hc,hd,hs,hz,r⟩
 . let%[z,its,n,r|e]:=h.ok I.hok;erw[its,r,%[_,n,e,1,1|1],z]
 . erw[its.toList,r,%[o,n,I.kIn a o hk,hc,hd|by simpa using hs],6];let e:=r.length;simp only[zU1]at e;omega
def Inv.tuple(I:#[8] H s)(h:SqT X.K H a xs):∃its:List Value,Vals xs its/\IsTup s.heap a its.toArray/\xs.length<=sizeLine:=by
 rcases h with h | ⟨o,its,n,hk,hc,hs,hz,r⟩
 . let%[z,its,r,p|_]:=h.ok I.hok;erw[its,r,p,z]
 . erw[its.toList,r,%[o,I.kIn a o hk,hc,n|by simpa using hs],6];let e:=r.length;simp only[zU1]at e;omega
def Inv.list_inj(I:#[8] H s)(h:SqL X.K H a xs)(h':SqL X.K H a ys):xs=ys:=by
 let%[its,r,%[o,n,e,_,_|d]|_]:=I.list h;let%[its',r',%[o',n',e',_,_|d']|_]:=I.list h';rw[e]at e';cases e';rw[d]at d';injection d' with d1 _
 have:its=its':=#[congrArg Array.toList d1,0]
 subst this;exact r.inj r'
def Inv.tuple_inj(I:#[8] H s)(h:SqT X.K H a xs)(h':SqT X.K H a ys):xs=ys:=by
 let%[its,r,%[o,e,_,n|d]|_]:=I.tuple h;let%[its',r',%[o',e',_,n'|d']|_]:=I.tuple h';rw[e]at e';cases e';rw[d]at d';injection d' with d1 _
 have:its=its':=#[congrArg Array.toList d1,0]
 subst this;exact r.inj r'
end
abbrev Cx.wish(X:Cx)(E:#[6]):Cx:={ X with xe:=E }
abbrev Cx.nox(X:Cx):Cx:=X.wish λ_ _=>False
def Cx.Ok.wish{X:Cx}(ok:X.Ok)(E:#[6]):(X.wish E).Ok:=
 %[ok.mod,ok.kind,ok.glob,ok.blt,ok.above,ok.inj,ok.has,ok.cab,ok.hd,ok.frames,ok.stk,ok.exf,ok.bs,ok.bsz,ok.noex,ok.exfs,ok.funs|ok.frf]
def Cx.Ok.unwish{X:Cx}{E:#[6]}(ok:(X.wish E).Ok):X.Ok:=
 %[ok.mod,ok.kind,ok.glob,ok.blt,ok.above,ok.inj,ok.has,ok.cab,ok.hd,ok.frames,ok.stk,ok.exf,ok.bs,ok.bsz,ok.noex,ok.exfs,ok.funs|ok.frf]
section
variable {X:Cx}{Mp:#[7]}{σ:St}{H:Hp}{s:Shared}{E:#[6]}
def Inv.wish(I:#[8] H s)(E:#[6]):Inv (X.wish E) Mp σ H s:=%[I.ok.wish E,I.os,I.bare,I.base,I.loc,I.cell,I.free,I.freeC,I.pin,I.hok|I.len]
def Inv.unwish(I:Inv (X.wish E) Mp σ H s):#[8] H s:=%[I.ok.unwish,I.os,I.bare,I.base,I.loc,I.cell,I.free,I.freeC,I.pin,I.hok|I.len]
def SP.unwish{D:Ends}{f:Flow}{s':Shared}(h:SP (X.wish E) Mp D f s'):SP X Mp D f s':=by
 cases f with
 |next=>erw[σ',H',I,q]at h;erw[σ',H',I.unwish,q]
 |brk=>erw[σ',H',I,q]at h;erw[σ',H',I.unwish,q]
 |cont=>erw[σ',H',I,q]at h;erw[σ',H',I.unwish,q]
 |ret u=>erw[v,σ',H',I,r,q]at h;erw[v,σ',H',I.unwish,r,q]
def PSs.nox{st:List Stmt}(h:PSs X.nox st t):PSs X st t:=λMp s σ H D I hw=>
 jH0 (h Mp s σ H D (I.wish _) hw) (λ_ _ q=>q.unwish) λ_ _ z=>False.elim z
end
section
variable {X:Cx}{st:Stmt}{rest:List Stmt}{t u:TS}{e:Expr}{te:TE}{pos:Pos}
def FI:TS:=λD σ H=>D.nx σ H
def Gg(t u:TS):TS:=λD σ H=>t { D with nx:=u D } σ H
def ax:PSs X [] FI:=λ_ _ σ H _ I h=>jX0 %[σ,H,I|h]
def aa(h1:PS X st t)(h2:PSs X rest u):PSs X (st::rest) (Gg t u):=by
 exists 4,D,I,h;apply wpAny_execs_cons (thn (h1 Mp s σ H { D with nx:=u D } I h) λf s1 q=>?_);cases f with
 |next=>
   erw[σ',H',I',q]at q;exact h2 Mp s1 σ' H' D I' q
 |ret v=>exact q
 |brk=>exact q
 |cont=>exact q
def ac(h1:PS X st t):PSs X [st] t:=by
 exists 4,D,I,h;apply wpAny_execs_cons (thn (h1 Mp s σ H D I h) λf s1 q=>?_);cases f with
 |next=>exact jX0 q
 |ret v=>exact q
 |brk=>exact q
 |cont=>exact q
def Inv.quiet{σ:St}(I:#[8] H s):interactive X.env=false:=by simp [interactive,I.ok.kind]
def tDrop(te:TE):TS:=λD σ H=>te σ H λ_ H1=>D.nx σ H1
def aQ(he:PE X e te)(hs:swapsWith e none pos.line X.env=pure false:=by rfl):PS X (.Expr e pos) (tDrop te):=by
 exists 4,D,I,h;exact wpAny_Expr_any (thn (he Mp s σ H _ I h) λv s1 ⟨x,H1,I1,r1,q1⟩=>%[σ,H1,I1|q1]) I.quiet hs
def tRet(te:TE):TS:=λD σ H=>te σ H D.rt
def aj(he:PE X e te):PS X (.Return (some e) pos) (tRet te):=by
 exists 4,D,I,h;exact wpAny_Return_some (thn (he Mp s σ H _ I h) λv s1 ⟨x,H1,I1,r1,q1⟩=>%[x,σ,H1,I1,r1|q1])
def Gj(c:TT)(t u:TS):TS:=λD σ H=>c σ H λb H1=>if b=true then t D σ H1 else u D σ H1
def aF(hc:PT X c tc)(ha:PSs X a t)(hb:PSs X b u):PS X (.If c a b pos) (Gj tc t u):=by
 exists 4,D,I,h;apply wpAny_If (thn (hc Mp s σ H _ I h) λd s1 ⟨H1,I1,q1⟩=>?_);cases d with
 |true=>exact ha Mp s1 σ H1 D I1 q1
 |false=>exact hb Mp s1 σ H1 D I1 q1
def Gh:TS:=λ_ _ _=>False
def aX:PSs X sts Gh:=λ_ _ _ _ _ _ h=>h.elim
end
abbrev TG:=V->St->Hp->(St->Hp->Prop)->Prop
abbrev TGs:=List V->St->Hp->(St->Hp->Prop)->Prop
def PG(X:Cx)(target:Expr)(t:TG):Prop:=
 ∀(Mp:#[7])(s:Shared)(σ:St)(H:Hp)(v:V)(u:Value)(Q:St->Hp->Prop),#[8] H s->RelV v u->t v σ H Q ->
  ‹X.w› (assign target X.env u) (λ_ s'=>NP X Mp Q s') X.xe s
def PGs(X:Cx)(ts:List Expr)(t:TGs):Prop:=
 ∀(Mp:#[7])(s:Shared)(σ:St)(H:Hp)(vs:List V)(us:List Value)(Q:St->Hp->Prop),#[8] H s->Vals vs us->t vs σ H Q ->
  ‹X.w› (assignInOrder ((assignEach ts X.env).map (·.2)) us) (λ_ s'=>NP X Mp Q s') X.xe s
abbrev HV:=V->V->V->Hp->(Hp->Prop)->Prop
def PSet(X:Cx)(t:HV):Prop:=
 ∀(Mp:#[7])(s:Shared)(σ:St)(H:Hp)(o i v:V)(ov iv u:Value)(Q:Hp->Prop),#[8] H s->RelV o ov->RelV i iv->RelV v u->t o i v H Q ->
  ‹X.w› (setItem ov iv u) (λ_ s'=>HQ X Mp σ Q s') X.xe s
section
variable {X:Cx}{pos:Pos}
def zb(i:Nat):TG:=λv σ H Q=>Q (σ.set i (some v)) H
def bt{i:Nat}{x:Str}(hN:X.N.Nodup)(hi:X.N[i]?=some x)(hx:Loc X.env.scope x)(hf:X.fn x=true∨X.env.scope.names.lookup x=some .local:=by first | exact .inl rfl | exact .inr rfl | assumption):PG X (.Name x pos) (zb i):=by
 exists 4,v,u,Q,I,r,h;exact wpAny_assign_Name (vz I hN hi hx r (λs' I'=>%[_,H,I'|h]) hf)
instance gNil(vs:List V)(σ:St)(H:Hp)(Q:(St->Hp->Prop)):vs=[]->Q σ H:=0
instance gCons(t:TG)(u:TGs)(vs:List V)(σ:St)(H:Hp)(Q:(St->Hp->Prop)):∀v r,vs=v::r->(t v σ H λσ' H'=>u r σ' H' Q):=0
def pY:PGs X [] gNil:=by
 exists 4,vs,us,Q,I,r,h;erw[e,h]at h;subst e;cases r;exact assignInOrder_nil %[σ,H,I|h]
def gN(h1:PG X e t)(h2:PGs X es u)
 (hs:(assignEach (e::es) X.env).map (·.2)=assign e X.env::(assignEach es X.env).map (·.2):=by rfl):PGs X (e::es) (gCons t u):=by
 exists 4,vs,us,Q,I,r,h;erw[v,vr,e1,h]at h;subst e1;cases r with
 |cons r rr=>
   rw[hs];apply assignInOrder_cons (thn (h1 Mp s σ H _ _ _ I r h) λ_ s1 ⟨σ1,H1,I1,q1⟩=>?_);exact h2 Mp s1 σ1 H1 _ _ Q I1 rr q1
instance gTup(K:W.Frag)(n:Nat)(t:TGs)(v:V)(σ:St)(H:Hp)(Q:(St->Hp->Prop)):∀a xs,v=.ref a->SqT K H a xs->xs.length=n->t xs σ H Q:=0
def uA{k:Nat}{n:Nat}(hc:X.calm=true)(h:PGs X es t)
 (hn:(assignEach es X.env).length=n:=by rfl)(Mx:(assignEach es X.env).findIdx? (·.1)=none:=by rfl):PG X (.Tuple es k pos) (gTup X.K n t):=by
 exists 4,v,u,Q,I,r,hw;erw[a,xs,e1,hq,hl,hw]at hw;subst e1;cases r;let%[its,rv,ht|hz]:=I.tuple hq;apply assign_Tuple_tuple (I.ok.hd hc) ht (by simp [hn,←hl,rv.length]) Mx λh' hx=>?_
 let I1:#[8] H { s with heap:=h' }:=I.kept (t':=s.toks) λb o e=>hx b o (zX0 (zQ0 e)) e
 exact h Mp _ σ H xs _ Q I1 #[rv,0] hw
def gSub(to ti:TE)(t:HV):TG:=λv σ H Q=>to σ H λo H1=>ti σ H1 λi H2=>t o i v H2 λH3=>Q σ H3
def xL(ho:PE X o to)(hi:PE X i ti)(hs:PSet X t)
 (ha:∀v,assign (.Subscript o i pos) X.env v=(do
  let ov ←holding [v] (eval o X.env)
  let iv ←holding [v,ov] (eval i X.env)
  standAt pos
  holding [v,ov,iv] (setItem ov iv v)
  release [v,ov,iv] []):=by intro _;rfl):PG X (.Subscript o i pos) (gSub to ti t):=by
 exists 4,v,u,Q,I,r,h;rw[ha];apply zE0 (jF1 (thn (ho Mp s σ H _ I h) λov s1 ⟨x,H1,I1,r1,q1⟩=>?_));apply zE0 (jF1 (thn (hi Mp s1 σ H1 _ I1 q1) λiv s2 ⟨y,H2,I2,r2,q2⟩=>?_));apply zE0 (wpAny_standAt (zE0 (jF1 (thn (hs Mp s2 σ H2 x y v ov iv u _ I2 r1 r2 r q2) λ_ s3 ⟨H3,I3,q3⟩=>?_))));exact wpAny_release %[σ,H3,I3|q3]
def Ey(te:TE)(g:TG):TS:=λD σ H=>te σ H λx H1=>g x σ H1 D.nx
def uz(he:PE X e te)(hg:PG X tg g)(hs:swapsWithSole [tg] e pos.line X.env=pure false:=by rfl)(hw:swappedStores [tg] e X.env=pure none:=by rfl)
 (h1:(assignEach [tg] X.env).map (·.2)=[assign tg X.env]:=by rfl):PS X (.Assign [tg] e pos) (Ey te g):=by
 exists 4,D,I,h;apply wpAny_Assign_stores (thn (he Mp s σ H _ I h) λv s1 ⟨x,H1,I1,r1,q1⟩=>?_) hs hw;rw[h1];exact thn (hg Mp s1 σ H1 x v _ I1 r1 q1) λ_ s2 q=>q
def ah{i:Nat}{x:Str}{pos':Pos}(hN:X.N.Nodup)(hi:X.N[i]?=some x)(hx:Loc X.env.scope x)(he:PE X e te)(hs:swapsWith e (some (.Name x pos')) pos.line X.env=pure false:=by rfl)(hf:X.fn x=true∨X.env.scope.names.lookup x=some .local:=by first | exact .inl rfl | exact .inr rfl | assumption):
 PS X (.Assign [.Name x pos'] e pos) (Ey te (zb i)):=by
 exists 4,D,I,h;apply wpAny_Assign_Name (thn (he Mp s σ H _ I h) λv s1 ⟨y,H1,I1,r1,q1⟩=>?_) hs;exact vz I1 hN hi hx r1 (λs2 I2=>%[_,H1,I2|q1]) hf
end
section
variable {X:Cx}{pos:Pos}
def Gf(c:TT)(tb:TS):TS:=λD σ H=>∃W:Nat->St->Hp->Prop,(∃m,W m σ H)/\∀m σ H,W m σ H ->
 c σ H λb H1=>if b=true then ∃N:St->Hp->Prop,(∀ σ' H',N σ' H'->∃m',m'<m/\W m' σ' H')/\tb { D with nx:=N,ct:=N,bk:=D.nx } σ H1 else D.nx σ H1
def iF(hp:PassesOwn (model X.prog X.w) X.A X.env X.xe)(hc:PT X c tc)(hb:PSs X body tb):PS X (.While c body [] pos) (Gf tc tb):=by
 exists 4,D,I,h;erw[W,%[m0|w0],turn]at h;apply wpAny_While (codeAny_whileLoop (λn s'=>NP X Mp (W n) s') ?_ m0 %[σ,H,I|w0]);rintro n s1 ⟨σ1,H1,I1,w1⟩;apply qY1 hp (thn (hc Mp s1 σ1 H1 _ I1 (turn n σ1 H1 w1)) λb s2 ⟨H2,I2,q2⟩=>?_);cases b with
 |true=>
   erw[N,hN,q2]at q2;rw[Mt rfl];apply qY1 hp (thn (hb Mp s2 σ1 H2 _ I2 q2) λf s3 q3=>?_);cases f with
   |next=>
     erw[σ3,H3,I3,n3]at q3;let%[m',hm|w3]:=hN σ3 H3 n3;erw[m',hm,σ3,H3,I3,w3]
   |cont=>
     erw[σ3,H3,I3,n3]at q3;let%[m',hm|w3]:=hN σ3 H3 n3;erw[m',hm,σ3,H3,I3,w3]
   |brk=>exact q3
   |ret v=>exact q3
 |false=>
   rw[Mq qD0];exact jX0 %[σ1,H2,I2|q2]
end
structure It where
 go:Nat->Hp->Prop
 yld:Nat->Hp->V->Hp->Prop
 stop:Nat->Hp->Prop
def om(X:Cx)(Mp:#[7])(H:Hp)(b:Addr):Prop:=
 H b=none/\b≠X.env.locals/\b∉X.fs/\(b∈X.ex∨X.s₀.heap.objs.size<=b)/\(∀x c,X.env.cells.lookup x=some c->c≠b)/\∀p∈X.pn++Mp,p.1≠b
def Inv.fpOk{σ:St}{H':Hp}{b:Addr}(I:#[8] H s)(hb:‹s›<=b)(hn:H' b=none):om X Mp H' b:=by
 erw[hn,wO1 (qM0 I.lt hb),I.nofs hb,.inr (zN0 I.sz hb),λx c e z=>?_,λp hp z=>?_]
 . let%[v|q]:=I.cell x c e;exact absurd (qM0 q.lt (by rw[z];exact hb)) (qU0 _)
 . exact absurd (qM0 (zQ0 (I.pin p hp).1) (by rw[z];exact hb)) (qU0 _)
structure Turn(P:Program)(w:World)(K:W.Frag)(tg:Expr)(J:It)(fp:List Addr)(it:Addr)(tn:Nat->Heap->Prop):Prop where
 mem:it∈fp
 obj:∀i h,tn i h->∀b∈fp,∃o,h.get? b=some o/\∀v,o.data≠.cell v
 keep:∀i h h',tn i h->(∀b∈fp,∀o,h.get? b=some o->h'.get? b=some o)->tn i h'
 item:∀(X:Cx),X.prog=P->X.w=w->X.K=K->X.calm=true->∀(i:Nat)(Mp:#[7])(s:Shared)(σ:St)(H:Hp)(E:#[6]),#[8] H s->(∀b∈fp,om X Mp H b)->tn i s.heap->J.go i H ->
  wpAny (model P w) X.A (pyNext (.ref it)) (λr s1=>∃u,r=some u/\
   wpAny (model P w) X.A (letOwnedTupleGo tg (.ref it) u) (λ_ s2=>∃x H',#[8] H' s2/\RelV x u/\J.yld i H x H'/\tn (i+1) s2.heap/\∀b∈fp,H' b=none) E s1) E s
 done:∀(X:Cx),X.prog=P->X.w=w->X.K=K->X.calm=true->∀(i:Nat)(Mp:#[7])(s:Shared)(σ:St)(H:Hp)(E:#[6]),#[8] H s->(∀b∈fp,om X Mp H b)->tn i s.heap->J.stop i H ->
  wpAny (model P w) X.A (pyNext (.ref it)) (λr s1=>r=none/\#[8] H s1) E s
 self:∀(A:Around)(i:Nat)(s:Shared)(Q:#[6])(E:#[6]),tn i s.heap->Q (.ref it) s->wpAny (model P w) A (pyIter (.ref it)) Q E s
abbrev TI:=St->Hp->(It->Hp->Prop)->Prop
def PIE(X:Cx)(Mp:#[7])(σ:St)(tg:Expr)(R:It->Hp->Prop)(itv:Value)(s2:Shared):Prop:=
 ∃(it:Addr)(fp:List Addr)(tn:Nat->Heap->Prop)(J:It)(H':Hp),itv=.ref it/\#[8] H' s2/\Turn X.prog X.w X.K tg J fp it tn/\tn 0 s2.heap/\(∀b∈fp,om X Mp H' b)/\R J H'
def PI(X:Cx)(tg iter:Expr)(wi:TI):Prop:=
 ∀(Mp:#[7])(s:Shared)(σ:St)(H:Hp)(R:It->Hp->Prop),#[8] H s->wi σ H R ->
  ‹X.w› (eval iter X.env) (λv s1=>‹X.w› (pyIter v) (PIE X Mp σ tg R) X.xe s1) X.xe s
def wE{M:Model}{A:Around}{E:#[6]}{s:Shared}{tg:Expr}{it:Addr}{u:Value}{o:Obj}{n:String}{vs:Array Value}{Q:Unit->Shared->Prop}(ho:s.heap.get? it=some o)(hc:o.cls=.type n)(hd:o.data=.fields vs)
 (hn:["enumerate","zip","dict_itemiterator","dict_reverseitemiterator","odict_iterator","itertools.zip_longest","itertools.pairwise"].contains n=false)(hQ:Q () s):wpAny M A (letOwnedTupleGo tg (.ref it) u) Q E s:=by
 unfold letOwnedTupleGo;cases tg <;> first
  |exact zJ0 hQ
  | (cases u <;> first
   |exact zJ0 hQ
   | (apply zE0 (wpAny_load ho ?_)
      rw[hc,hd];show wpAny M A (if(["enumerate","zip","dict_itemiterator","dict_reverseitemiterator","odict_iterator","itertools.zip_longest","itertools.pairwise"].contains n&&vs[0]?==some (rawInt _))=true then _ else _) Q E s;rw[Mq (by intro h;rw[hn,Bool.false_and]at h;cases h)];exact zJ0 hQ))
def Itl(K:W.Frag)(a:Addr):It:=
 ⟨λi H=>∃xs x,SqL K H a xs/\xs[i]?=some x,λi H x H'=>H'=H/\∀xs,SqL K H a xs->xs[i]?=some x,λi H=>∃xs,SqL K H a xs/\xs.length<=i⟩
def Itt(K:W.Frag)(a:Addr):It:=
 ⟨λi H=>∃xs x,SqT K H a xs/\xs[i]?=some x,λi H x H'=>H'=H/\∀xs,SqT K H a xs->xs[i]?=some x,λi H=>∃xs,SqT K H a xs/\xs.length<=i⟩
def Itr(lo:Int)(n:Nat):It:=%[λi _=>i<n,λi H x H'=>H'=H/\x=.int (lo+i)|λi _=>n<=i]
def zy{K:W.Frag}(a it:Addr):Turn P w K tg (Itl K a) [it] it (λi h=>h.IsListIter it a i) where
 mem:=by simp
 obj:=λi h st b hb=>by
  let e:b=it:=#[hb,0]
  subst e;erw[o,e,c,d]at st;erw[o,e,λv z=>by rw[d]at z;cases z]
 keep:=λi h h' st k=>st.at λo e=>k it #[2] o e
 item:=by
  exists 5;erw[xs,x,hq,hx]at hg;let%[its,rv,p|hz]:=I.list hq;let%[u,hu|ru]:=rv.get hx;let%[f0,f1,f2,f3,f4|f5]:=hf it #[2];apply wpAny_pyNext_list_item st p.isList (x:=u) #[hu,0] λh' st' sb=>?_
  let I1:#[8] H { s with heap:=h' }:=I.turned (t':=s.toks) (λb o hb e=>(sb.2 b hb).trans e) f0 f1 f3 f4 f5;let%[o,e,c|d]:=id st';erw[u,1,wE (s:={ s with heap:=h' }) e c d ⋯ ⟨x,H,I1,ru,⟨rfl,λys hy=>by rw[I.list_inj hy hq];exact hx⟩,st',λb hb=>(hf b hb).1⟩]
 done:=by
  exists 5;erw[xs,hq,hx]at hg;let%[its,rv,p|hz]:=I.list hq;let%[f0,f1,f2,f3,f4|f5]:=hf it #[2];let hl:=rv.length;exact wpAny_pyNext_list_end (I.ok.hd hc) st p.isList (by simp;omega) λh' eb=>%[1|I.turned (t':=s.toks) (λb o hb e=>eb b o hb e) f0 f1 f3 f4 f5]
 self:=λ_ _ _ _ _ st h=>wpAny_pyIter_listiter st h
def xa{K:W.Frag}(a it:Addr):Turn P w K tg (Itt K a) [it] it (λi h=>h.IsTupleIter it a i) where
 mem:=by simp
 obj:=λi h st b hb=>by
  let e:b=it:=#[hb,0]
  subst e;erw[o,e,c,d]at st;erw[o,e,λv z=>by rw[d]at z;cases z]
 keep:=λi h h' st k=>st.at λo e=>k it #[2] o e
 item:=by
  exists 5;erw[xs,x,hq,hx]at hg;let%[its,rv,p|hz]:=I.tuple hq;let%[u,hu|ru]:=rv.get hx;let%[f0,f1,f2,f3,f4|f5]:=hf it #[2];apply wpAny_pyNext_tuple_item st (show s.heap.IsTuple a its.toArray from p) (x:=u) #[hu,0] λh' st' sb=>?_
  let I1:#[8] H { s with heap:=h' }:=I.turned (t':=s.toks) (λb o hb e=>(sb.2 b hb).trans e) f0 f1 f3 f4 f5;let%[o,e,c|d]:=id st';erw[u,1,wE (s:={ s with heap:=h' }) e c d ⋯ ⟨x,H,I1,ru,⟨rfl,λys hy=>by rw[I.tuple_inj hy hq];exact hx⟩,st',λb hb=>(hf b hb).1⟩]
 done:=by
  exists 5;erw[xs,hq,hx]at hg;let%[its,rv,p|hz]:=I.tuple hq;let%[f0,f1,f2,f3,f4|f5]:=hf it #[2];let hl:=rv.length;exact wpAny_pyNext_tuple_end (I.ok.hd hc) st (show s.heap.IsTuple a its.toArray from p) (by simp;omega) λh' eb=>%[1|I.turned (t':=s.toks) (λb o hb e=>eb b o hb e) f0 f1 f3 f4 f5]
 self:=λ_ _ _ _ _ st h=>wpAny_pyIter_tupleiter st h
def xc{K:W.Frag}(it:Addr)(lo:Int)(n:Nat):Turn P w K tg (Itr lo n) [it] it (λi h=>IsRangeIter h it (lo+(i:Nat)*1) ((n:Int)-(i:Nat)) 1) where
 mem:=by simp
 obj:=λi h st b hb=>by
  let e:b=it:=#[hb,0]
  subst e;exact⟨_,st,λv z=>by
   let z':Data.fields _=Data.cell v:=z;cases z'⟩
 keep:=λi h h' st k=>k it #[2] _ st
 item:=by
  exists 5;let%[f0,f1,f2,f3,f4|f5]:=hf it #[2];let W:=Walks.range (prog:=X.prog) (w:=X.w) (I.ok.hd hc) it lo 1 n;apply W.item i s _ _ hg st λv h' tk hv st' kk=>?_
  erw[t,1]at hv;let I1:#[8] H { s with heap:=h',toks:=tk }:=I.turned (λb o hb e=>kk b o #[hb,0] e) f0 f1 f3 f4 f5;erw[0,wE (s:={ s with heap:=h',toks:=tk }) (n:="range_iterator") st' rfl rfl ⋯ ⟨.int (lo+i),H,I1,⟨t,?_⟩,⟨rfl,rfl⟩,st',λb hb=>(hf b hb).1⟩];rw[wJ1]
 done:=by
  exists 5;let%[f0,f1,f2,f3,f4|f5]:=hf it #[2];exact wpAny_pyNext_range_end (I.ok.hd hc) st (by have:n<=i:=hg;omega) λh' eb=>%[1|I.turned (t':=s.toks) (λb o hb e=>eb b o hb e) f0 f1 f3 f4 f5]
 self:=λ_ _ _ _ _ st h=>wpAny_pyIter_rangeiter st h
section
variable {X:Cx}{tg:Expr}
instance ZiList(K:W.Frag)(R:(It->Hp->Prop))(x:V)(H1:Hp):∀a,x=.ref a->(∃xs,SqL K H1 a xs)->R (Itl K a) H1:=0
def iList(K:W.Frag)(tl:TE):TI:=λσ H R=>tl σ H λx H1=>ZiList K R x H1
instance ZiTup(K:W.Frag)(R:(It->Hp->Prop))(x:V)(H1:Hp):∀a,x=.ref a->(∃xs,SqT K H1 a xs)->R (Itt K a) H1:=0
def iTup(K:W.Frag)(tl:TE):TI:=λσ H R=>tl σ H λx H1=>ZiTup K R x H1
def ia(hl:PE X l tl):PI X tg l (iList X.K tl):=by
 exists 4,R,I,h;apply thn (hl Mp s σ H _ I h) λv s1 ⟨x,H1,I1,r1,q1⟩=>?_
 erw[a,e,%[xs|hq],q]at q1;subst e;cases r1;let%[its,rv,p|hz]:=I1.list hq;apply jP0 p.isList ?_;erw[‹s1›,[‹s1›],_,_,H1,1,I1.kept (t':=s1.toks) λb o e=>zU0 _ e,zy a _,%[_,qC0 _ rfl,1|1],λb hb=>?_,q];let e:b=‹s1›:=#[hb,0]
 subst e;exact I1.fpOk (zH0 _) (I1.hok.fresh (zH0 _))
def eR(hl:PE X l tl):PI X tg l (iTup X.K tl):=by
 exists 4,R,I,h;apply thn (hl Mp s σ H _ I h) λv s1 ⟨x,H1,I1,r1,q1⟩=>?_
 erw[a,e,%[xs|hq],q]at q1;subst e;cases r1;let%[its,rv,p|hz]:=I1.tuple hq;apply jJ0 (show s1.heap.IsTuple a its.toArray from p) ?_;erw[‹s1›,[‹s1›],_,_,H1,1,I1.kept (t':=s1.toks) λb o e=>zU0 _ e,xa a _,%[_,qC0 _ rfl,1|1],λb hb=>?_,q];let e:b=‹s1›:=#[hb,0]
 subst e;exact I1.fpOk (zH0 _) (I1.hok.fresh (zH0 _))
def vJ{σ:St}{R:It->Hp->Prop}{E:#[6]}{lo hi:Int}{t u v:Tok}{tk:Nat}(I:#[8] H s)(h1:-(2 ^ 62)<=lo)(h2:lo<2 ^ 62)(h3:-(2 ^ 62)<=hi)(h4:hi<2 ^ 62)
 (q:R (Itr lo (hi-lo).toNat) H):‹X.w› (pyIter (.ref ‹s›)) (PIE X Mp σ tg R) E { s with heap:=s.heap.push { cls:=.type "range",data:=.fields #[.int lo t,.int hi u,.int 1 v] },toks:=tk }:=by
 apply wpAny_pyIter_range (IsRange.new ..) (small_one h1 h2 h3 h4) ?_;let I1:#[8] H { s with heap:=s.heap.push { cls:=.type "range",data:=.fields #[.int lo t,.int hi u,.int 1 v] },toks:=tk }:=I.kept λb o e=>zU0 _ e
 erw[(s.heap.push { cls:=.type "range",data:=.fields #[.int lo t,.int hi u,.int 1 v] }).objs.size,[(s.heap.push { cls:=.type "range",data:=.fields #[.int lo t,.int hi u,.int 1 v] }).objs.size],_,_,H,1,I1.kept (t':=tk) λb o e=>zU0 _ e,xc _ lo (hi-lo).toNat,6,λb hb=>?_,q]
 . let e1:lo+((0:Nat):Int)*1=lo:=by simp
   let e2:(((hi-lo).toNat:Nat):Int)-((0:Nat):Int)=Builtin.Range.rangeSize lo hi 1:=by rw[rangeSize_one];split <;> omega
   show IsRangeIter _ _ (lo+((0:Nat):Int)*1) ((((hi-lo).toNat:Nat):Int)-((0:Nat):Int)) 1;rw[e1,e2];exact qC0 _ rfl
 . let e:b=(s.heap.push { cls:=.type "range",data:=.fields #[.int lo t,.int hi u,.int 1 v] }).objs.size:=#[hb,0]
   subst e;exact I1.fpOk (zH0 _) (I1.hok.fresh (zH0 _))
instance ZiRng1(R:(It->Hp->Prop))(vs:(List V))(H1:Hp):∀j:Int,vs=[.int j]->-(2 ^ 62)<=j->j<2 ^ 62->R (Itr 0 j.toNat) H1:=0
def iRng1(ta:TA):TI:=λσ H R=>ta σ H λvs H1=>ZiRng1 R vs H1
instance ZiRng2(R:(It->Hp->Prop))(vs:(List V))(H1:Hp):∀i j:Int,vs=[.int i,.int j]->-(2 ^ 62)<=i/\i<2 ^ 62/\-(2 ^ 62)<=j/\j<2 ^ 62->R (Itr i (j-i).toNat) H1:=0
def iRng2(ta:TA):TI:=λσ H R=>ta σ H λvs H1=>ZiRng2 R vs H1
def cI{a:Expr}{p pos:Pos}(hg:Gl X "range")(hm:X.mg "range"=none)(ha:PA X [a] ta)(hs:starEach [a] X.env=[(false,eval a X.env)]:=by rfl):PI X tg (.Call (.Name "range" p) [a] [] pos) (iRng1 ta):=by
 exists 4,R,I,h;apply Call_ (ji I hg hm boot_range (zS1 (thn (ha pos Mp s σ H _ I h) λus s1 ⟨vs,H1,I1,r1,q1⟩=>?_) hs rfl));erw[j,e,q1,q2,q]at q1;subst e;cases r1 with
 |cons r rr=>
   cases rr;erw[t,1]at r;exact call_range_1 (vJ I1 #[0] #[0] q1 q2 #[q,0])
def oI{a b:Expr}{p pos:Pos}(hg:Gl X "range")(hm:X.mg "range"=none)(ha:PA X [a,b] ta)(hs:starEach [a,b] X.env=[(false,eval a X.env),(false,eval b X.env)]:=by rfl)(hs2:starEach [b] X.env=[(false,eval b X.env)]:=by rfl):
 PI X tg (.Call (.Name "range" p) [a,b] [] pos) (iRng2 ta):=by
 exists 4,R,I,h;apply Call_ (ji I hg hm boot_range (zS1 (thn (ha pos Mp s σ H _ I h) λus s1 ⟨vs,H1,I1,r1,q1⟩=>?_) (by rw[hs,hs2]) (by rw[hs2];rfl)));erw[i,j,e,%[q1,q2,q3|q4],q]at q1;subst e;cases r1 with
 |cons r rr=>
   cases rr with
   |cons r' rr=>
     cases rr;erw[t,1]at r;erw[t',1]at r';exact call_range_2 (vJ I1 q1 q2 q3 q4 q)
def tFor(wi:TI)(g:TG)(tb:TS):TS:=λD σ H=>wi σ H λJ H1=>∃W:Nat->Nat->St->Hp->Prop,(∃m,W 0 m σ H1)/\∀i m σ H,W i m σ H ->
 (J.stop i H/\D.nx σ H)∨(J.go i H/\∃N:St->Hp->Prop,(∀ σ' H',N σ' H'->∃m',m'<m/\W (i+1) m' σ' H')/\∀x H',J.yld i H x H'->g x σ H' λσ2 H2=>tb { D with nx:=N,ct:=N,bk:=D.nx } σ2 H2)
def rf(fp:List Addr)(h:Heap):#[7]:=fp.filterMap λb=>(h.get? b).map λo=>(b,o)
def jT{fp:List Addr}{h:Heap}{b:Addr}{o:Obj}(hb:b∈fp)(e:h.get? b=some o):(b,o)∈rf fp h:=List.mem_filterMap.mpr %[b,hb|by rw[e];rfl]
def Am{p:Addr×Obj}(hp:p∈rf fp h):p.1∈fp/\h.get? p.1=some p.2:=by
 let%[b,hb|e]:=List.mem_filterMap.mp hp;cases q:h.get? b with
 |none=>rw[q]at e;cases e
 |some o=>
   rw[q]at e;let e':(b,o)=p:=zV0 e;subst e';erw[hb,q]
def Inv.pinned{σ:St}{fp:List Addr}(I:#[8] H s)(hf:∀b∈fp,om X Mp H b)(ho:∀b∈fp,∃o,s.heap.get? b=some o/\∀v,o.data≠.cell v):Inv X (Mp++rf fp s.heap) σ H s:=
 I.pins_of λp hp=>(qG0 hp).elim (λz=>I.pin p (qR0 _ z)) λz=>by
  let%[hb|e]:=Am z;let%[f0,f1,f2|_]:=hf p.1 hb;let%[o,e'|d]:=ho p.1 hb;rw[e]at e';cases e';erw[e,f0,f1,f2,d]
def Inv.unpinned{Mp pl:#[7]}{σ:St}(I:Inv X (Mp++pl) σ H s):#[8] H s:=I.pins_of λp hp=>I.pin p (qR0 _ (List.mem_append_left _ hp))
def cQ{iter:Expr}{pos:Pos}(hp:PassesOwn (model X.prog X.w) X.A X.env X.xe)(hc:X.calm=true)(hi:PI X tg iter wi)(hg:PG X tg g)(hb:PSs X body tb)
 (hs:∀x,foldedSetIterable iter X.env x=pure x:=by intro _;rfl):PS X (.For tg iter body [] pos) (tFor wi g tb):=by
 exists 4,D,I,h;apply wpAny_For (thn (hi Mp s σ H _ I h) λv s1 h1=>thn h1 λitv s2 h2=>?_) hs;erw[it,fp,tn,J,H2,e,I2,T,st2,f2,W,%[m0|w0],turn]at h2;subst e;let stat:∀{H':Hp},(∀b∈fp,H' b=none)->∀b∈fp,om X Mp H' b:=λhn b hb=>%[hn b hb|(f2 b hb).2]
 apply codeAny_forLoop_any (λn s'=>∃i σ' H',Inv X Mp σ' H' s'/\tn i s'.heap/\(∀b∈fp,H' b=none)/\W i n σ' H') ?_ m0 %[(0),σ,H2,I2,st2,λb hb=>(f2 b hb).1|w0];rintro n s3 ⟨i,σ3,H3,I3,st3,fr3,w3⟩;rcases turn i n σ3 H3 w3 with⟨stop,qn⟩ | ⟨go,N,hN,step⟩
 . apply qY1 hp (thn (T.done X rfl rfl rfl hc i Mp s3 σ3 H3 X.xe I3 (stat fr3) st3 stop) λr s4 ⟨hr,I4⟩=>?_);subst hr;exact jX0 %[σ3,H3,I4|qn]
 . apply qY1 hp (thn (T.item X rfl rfl rfl hc i Mp s3 σ3 H3 X.xe I3 (stat fr3) st3 go) λr s4 ⟨u,hr,h4⟩=>?_);subst hr;apply qY1 hp (thn h4 λ_ s5 ⟨x,H5,I5,r5,y5,st5,fr5⟩=>?_);let I5':=I5.pinned (stat fr5) (T.obj _ _ st5);apply qY1 hp (thn (hg _ s5 σ3 H5 x u _ I5' r5 (step x H5 y5)) λ_ s6 ⟨σ6,H6,I6,q6⟩=>?_);apply qY1 hp (thn (hb _ s6 σ6 H6 _ I6 q6) λf s7 q7=>?_);let again:∀{σ7:St}{H7:Hp},Inv X (Mp++rf fp s5.heap) σ7 H7 s7->N σ7 H7->∃m,m<n/\∃i σ' H',Inv X Mp σ' H' s7/\tn i s7.heap/\(∀b∈fp,H' b=none)/\W i m σ' H':=fun{σ7 H7} I7 n7=>by
    let%[m',hm|w7]:=hN σ7 H7 n7;erw[m',hm,i+1,σ7,H7,I7.unpinned,T.keep _ _ _ st5 λb hb o e=>(I7.pin (b,o) (qR0 _ (qR0 _ (jT hb e)))).1,λb hb=>?_,w7];let%[o,e|d]:=T.obj _ _ st5 b hb;exact(I7.pin (b,o) (qR0 _ (qR0 _ (jT hb e)))).2.1
   cases f with
   |next=>erw[σ7,H7,I7,n7]at q7;exact again I7 n7
   |cont=>erw[σ7,H7,I7,n7]at q7;exact again I7 n7
   |brk=>erw[σ7,H7,I7,q7]at q7;erw[σ7,H7,I7.unpinned,q7]
   |ret v=>erw[x7,σ7,H7,I7,r7,q7]at q7;erw[x7,σ7,H7,I7.unpinned,r7,q7]
end
def nY{K:W.Frag}{xs:List V}{g:TG}{tb:TS}{D:Ends}{σ:St}{H:Hp}(Pv:Nat->St->Hp->Prop)(h0:Pv 0 σ H)(hl:∀i σ H,i<=xs.length->Pv i σ H->SqL K H a xs)
 (hs:∀i x σ H,xs[i]?=some x->Pv i σ H->g x σ H λσ2 H2=>tb { D with nx:=Pv (i+1),ct:=Pv (i+1),bk:=D.nx } σ2 H2)(hd:∀ σ H,Pv xs.length σ H->D.nx σ H):
 ∃ W:Nat->Nat->St->Hp->Prop,(∃m,W 0 m σ H)/\∀i m σ H,W i m σ H ->
  ((Itl K a).stop i H/\D.nx σ H)∨((Itl K a).go i H/\∃N:St->Hp->Prop,(∀ σ' H',N σ' H'->∃m',m'<m/\W (i+1) m' σ' H')/\∀x H',(Itl K a).yld i H x H'->g x σ H' λσ2 H2=>tb { D with nx:=N,ct:=N,bk:=D.nx } σ2 H2):=by
 erw[λi m σ H=>m=xs.length-i/\i<=xs.length/\Pv i σ H,%[xs.length,by simp,zT0 _|h0],6];rintro i m σ H ⟨rfl,hi,p⟩;let q:=hl i σ H hi p
 by_cases Mv:i<xs.length
 . refine .inr %[%[xs,xs[i],q|by simp [Mv]],Pv (i+1),λσ' H' p'=>%[xs.length-(i+1),3,1,Mv|p']|λx H' y=>?_];erw[e,y]at y;subst e;exact hs i x σ _ (y xs q) p
 . let e:i=xs.length:=#[0]
   subst e;exact .inl %[%[xs,q|zH0 _]|hd σ H p]
def nV{K:W.Frag}{xs:List V}{g:TG}{tb:TS}{D:Ends}{σ:St}{H:Hp}(Pv:Nat->St->Hp->Prop)(h0:Pv 0 σ H)(hl:∀i σ H,i<=xs.length->Pv i σ H->SqT K H a xs)
 (hs:∀i x σ H,xs[i]?=some x->Pv i σ H->g x σ H λσ2 H2=>tb { D with nx:=Pv (i+1),ct:=Pv (i+1),bk:=D.nx } σ2 H2)(hd:∀ σ H,Pv xs.length σ H->D.nx σ H):
 ∃ W:Nat->Nat->St->Hp->Prop,(∃m,W 0 m σ H)/\∀i m σ H,W i m σ H ->
  ((Itt K a).stop i H/\D.nx σ H)∨((Itt K a).go i H/\∃N:St->Hp->Prop,(∀ σ' H',N σ' H'->∃m',m'<m/\W (i+1) m' σ' H')/\∀x H',(Itt K a).yld i H x H'->g x σ H' λσ2 H2=>tb { D with nx:=N,ct:=N,bk:=D.nx } σ2 H2):=by
 erw[λi m σ H=>m=xs.length-i/\i<=xs.length/\Pv i σ H,%[xs.length,by simp,zT0 _|h0],6];rintro i m σ H ⟨rfl,hi,p⟩;let q:=hl i σ H hi p
 by_cases Mv:i<xs.length
 . refine .inr %[%[xs,xs[i],q|by simp [Mv]],Pv (i+1),λσ' H' p'=>%[xs.length-(i+1),3,1,Mv|p']|λx H' y=>?_];erw[e,y]at y;subst e;exact hs i x σ _ (y xs q) p
 . let e:i=xs.length:=#[0]
   subst e;exact .inl %[%[xs,q|zH0 _]|hd σ H p]
def dG{lo:Int}{n:Nat}{g:TG}{tb:TS}{D:Ends}{σ:St}{H:Hp}(Pv:Nat->St->Hp->Prop)(h0:Pv 0 σ H)
 (hs:∀i σ H,i<n->Pv i σ H->g (.int (lo+i)) σ H λσ2 H2=>tb { D with nx:=Pv (i+1),ct:=Pv (i+1),bk:=D.nx } σ2 H2)(hd:∀ σ H,Pv n σ H->D.nx σ H):
 ∃ W:Nat->Nat->St->Hp->Prop,(∃m,W 0 m σ H)/\∀i m σ H,W i m σ H ->
  ((Itr lo n).stop i H/\D.nx σ H)∨((Itr lo n).go i H/\∃N:St->Hp->Prop,(∀ σ' H',N σ' H'->∃m',m'<m/\W (i+1) m' σ' H')/\∀x H',(Itr lo n).yld i H x H'->g x σ H' λσ2 H2=>tb { D with nx:=N,ct:=N,bk:=D.nx } σ2 H2):=by
 erw[λi m σ H=>m=n-i/\i<=n/\Pv i σ H,%[n,by simp,zT0 _|h0],6];rintro i m σ H ⟨rfl,hi,p⟩
 by_cases Mv:i<n
 . refine .inr %[Mv,Pv (i+1),λσ' H' p'=>%[n-(i+1),3,1,Mv|p']|λx H' y=>?_];erw[e,y]at y;subst e y;exact hs i σ _ Mv p
 . let e:i=n:=#[0]
   subst e;exact .inl %[zH0 _|hd σ H p]
abbrev R2:=V->V->Hp->VK->Prop
def OpR(X:Cx)(f:Value->Value->Sem Value)(r:R2):Prop:=
 ∀(Mp:#[7])(s:Shared)(σ:St)(H:Hp)(x y:V)(v u:Value)(Q:VK),#[8] H s->RelV x v->RelV y u->r x y H Q ->
  ‹X.w› (f v u) (EP X Mp σ Q) X.xe s
def UnR(X:Cx)(f:Value->Sem Value)(r:V->Hp->VK->Prop):Prop:=
 ∀(Mp:#[7])(s:Shared)(σ:St)(H:Hp)(x:V)(v:Value)(Q:VK),#[8] H s->RelV x v->r x H Q ->
  ‹X.w› (f v) (EP X Mp σ Q) X.xe s
def gP(X:Cx)(f:Value)(r:List V->Hp->VK->Prop):Prop:=
 ∀(Mp:#[7])(s:Shared)(σ:St)(H:Hp)(xs:List V)(us:List Value)(Q:VK),#[8] H s->Vals xs us->r xs H Q ->
  ‹X.w› (call f us) (EP X Mp σ Q) X.xe s
def tOp(r:R2)(ta tb:TE):TE:=λσ H Q=>ta σ H λx H1=>tb σ H1 λy H2=>r x y H2 Q
def tUn(r:V->Hp->VK->Prop)(ta:TE):TE:=λσ H Q=>ta σ H λx H1=>r x H1 Q
instance rI(C:Int->Int->Prop)(g:Int->Int->V)(x:V)(y:V)(H:Hp)(Q:VK):∀i j,x=.int i->y=.int j->C i j->Q (g i j) H:=0
instance rI0(g:Int->Int->V)(x:V)(y:V)(H:Hp)(Q:VK):∀i j,x=.int i->y=.int j->Q (g i j) H:=0
instance rU(g:Int->V)(x:V)(H:Hp)(Q:VK):∀i,x=.int i->Q (g i) H:=0
section
variable {X:Cx}{a b c:Expr}{ta tb tc:TE}{pos:Pos}
def HN(ha:PE X a ta)(hb:PE X b tb){σ:St}{R:V->V->Hp->Prop}(I:#[8] H s)
 (h:ta σ H λx H1=>tb σ H1 λy H2=>R x y H2){Q:#[6]}{f:Value->Value->Sem Value}
 (hf:∀v u s2 x y H2,#[8] H2 s2->RelV x v->RelV y u->R x y H2->‹X.w› (f v u) Q X.xe s2):
 ‹X.w› (eval a X.env) (λv s₁=>‹X.w› (eval b X.env) (λu s₂=>‹X.w› (f v u) Q X.xe s₂) X.xe s₁) X.xe s:=by
 apply thn (ha Mp s σ H _ I h) λv s1 ⟨x,H1,I1,r1,q1⟩=>?_
 apply thn (hb Mp s1 σ H1 _ I1 q1) λu s2 ⟨y,H2,I2,r2,q2⟩=>?_
 exact hf v u s2 x y H2 I2 r1 r2 q2
def am{op:Operator}(ho:OpR X (binaryOp op) r)(ha:PE X a ta)(hb:PE X b tb):PE X (.BinOp a op b pos) (tOp r ta tb):=by
 exists 4,Q,I,h;exact wpAny_BinOp (HN ha hb I h λv u s2 x y H2 I2 rx ry q=>ho Mp s2 σ H2 x y v u Q I2 rx ry q)
def vO{op:UnaryOp}(ho:UnR X (unaryOp op) r)(ha:PE X a ta):PE X (.UnaryOp op a pos) (tUn r ta):=by
 exists 4,Q,I,h;exact UnaryOp_ (thn (ha Mp s σ H _ I h) λv s1 ⟨x,H1,I1,r1,q1⟩=>ho Mp s1 σ H1 x v Q I1 r1 q1)
def opI{f:Value->Value->Sem Value}{C:Int->Int->Prop}{g:Int->Int->Int}
 (rule:∀(i j:Int)(t u:Tok)(s:Shared)(Q:#[6])(E:#[6]),C i j->Q (.int (g i j) s.toks) { s with toks:=s.toks+1 }->‹X.w› (f (.int i t) (.int j u)) Q E s):
 OpR X f (rI C λi j=>.int (g i j)):=by
 exists 4,x,y,v,u,Q,I,rx,ry,h;erw[i,j,1,1,hc,q]at h;erw[t,1]at rx;erw[t',1]at ry;exact rule i j t t' s _ _ hc %[.int (g i j),H,I.tok _,%[|0]|q]
def opI0{f:Value->Value->Sem Value}{g:Int->Int->Int}
 (rule:∀(i j:Int)(t u:Tok)(s:Shared)(Q:#[6])(E:#[6]),Q (.int (g i j) s.toks) { s with toks:=s.toks+1 }->‹X.w› (f (.int i t) (.int j u)) Q E s):
 OpR X f (rI0 λi j=>.int (g i j)):=by
 exists 4,x,y,v,u,Q,I,rx,ry,h;erw[i,j,1,1,q]at h;erw[t,1]at rx;erw[t',1]at ry;exact rule i j t t' s _ _ %[.int (g i j),H,I.tok _,%[|0]|q]
def EW{f:Value->Value->Sem Value}{g:Int->Int->Bool}
 (rule:∀(i j:Int)(t u:Tok)(s:Shared)(Q:#[6])(E:#[6]),Q (.bool (g i j)) s->‹X.w› (f (.int i t) (.int j u)) Q E s):
 OpR X f (rI0 λi j=>.bl (g i j)):=by
 exists 4,x,y,v,u,Q,I,rx,ry,h;erw[i,j,1,1,q]at h;erw[t,1]at rx;erw[t',1]at ry;exact rule i j t t' s _ _ %[.bl (g i j),H,I,1|q]
def CDiv(i j:Int):Prop:=0<j/\j<1073741824
def CPow(i j:Int):Prop:=0<=j/\j<=1000000/\i.natAbs<2 ^ 64
def CMul(i j:Int):Prop:=(-(2 ^ 64)<i/\i<2 ^ 64)∨(-(2 ^ 64)<j/\j<2 ^ 64)
def CMul.ok(h:CMul i j):IntMulOk i j:=by
 rcases h with⟨h1,h2⟩ | ⟨h1,h2⟩
 . exact .of_left (intBits_le_64 h1 h2)
 . exact .of_right (intBits_le_64 h1 h2)
def aR:OpR X (binaryOp .Add) (rI0 λi j=>.int (i+j)):=opI0 λ_ _ _ _ _ _ _ q=>add_int q
def bK:OpR X (binaryOp .Sub) (rI0 λi j=>.int (i-j)):=opI0 λ_ _ _ _ _ _ _ q=>sub_int q
def cG:OpR X (binaryOp .Mult) (rI CMul λi j=>.int (i*j)):=opI λ_ _ _ _ _ _ _ hc q=>mul_int q hc.ok
def uD:OpR X (binaryOp .FloorDiv) (rI CDiv λi j=>.int (i / j)):=opI λi j _ _ _ _ _ hc q=>by
 let h1:(0:Int)<j:=hc.1;let h2:j<1073741824:=hc.2;exact floordiv_int #[0] (by rw[Int.fdiv_eq_ediv_of_nonneg i #[0]];exact q) (.inl (PyProof.noPylong_small #[0]))
def bd:OpR X (binaryOp .Mod) (rI (λ_ j=>0<j) λi j=>.int (i % j)):=opI λi j _ _ _ _ _ hc q=>by
 let h1:(0:Int)<j:=hc;exact mod_int' #[0] (by rw[Int.fmod_eq_emod_of_nonneg i #[0]];exact q)
def Cj:OpR X (binaryOp .Pow) (rI CPow λi j=>.int (i ^ j.toNat)):=opI λ_ _ _ _ _ _ _ hc q=>pow_int_small hc.1 hc.2.1 hc.2.2 q
def unI{f:Value->Sem Value}{g:Int->Int}
 (rule:∀(i:Int)(t:Tok)(s:Shared)(Q:#[6])(E:#[6]),Q (.int (g i) s.toks) { s with toks:=s.toks+1 }->‹X.w› (f (.int i t)) Q E s):
 UnR X f (rU λi=>.int (g i)):=by
 exists 4,x,v,Q,I,rx,h;erw[i,1,q]at h;erw[t,1]at rx;exact rule i t s _ _ %[.int (g i),H,I.tok _,%[|0]|q]
def qk:UnR X (unaryOp .USub) (rU λi=>.int (-i)):=unI λ_ _ _ _ _ q=>neg_int q
end
def scal:V->V->Bool
 |.non,.non=>true | .non,.int _=>true | .int _,.non=>true | .non,.bl _=>true | .bl _,.non=>true | .non,.str _=>true | .str _,.non=>true
 |.int _,.int _=>true | .bl _,.bl _=>true | .str _,.str _=>true | .byt _,.byt _=>true
 |.int _,.str _=>true | .str _,.int _=>true | .bl _,.str _=>true | .str _,.bl _=>true
 |_,_=>false
instance rEq(x:V)(y:V)(H:Hp)(Q:VK):scal x y=true->Q (.bl (decide (x=y))) H:=0
instance rNe(x:V)(y:V)(H:Hp)(Q:VK):scal x y=true->Q (.bl (!decide (x=y))) H:=0
def zm{i j:Int}:decide (V.int i=V.int j)=(i==j):=by
 rw[jJ1]
 simp
def DS{i j:Bool}:decide (V.bl i=V.bl j)=(i==j):=by
 rw[jJ1]
 simp
def zk{i j:Str}:decide (V.str i=V.str j)=(i==j):=by
 rw[jJ1]
 simp
def zn{i j:Array UInt8}:decide (V.byt i=V.byt j)=(i.toList==j.toList):=by
 rw[jJ1];cases i;cases j
 simp
section
variable {X:Cx}{a b c:Expr}{ta tb tc:TE}{pos:Pos}
def bY{σ:St}{Q:VK}{k k':Bool}(I:#[8] H s)(q:Q (.bl k) H)(e:k=k'):EP X Mp σ Q (.bool k') s:=by
 subst e;erw[.bl k,H,I,1,q]
def aN:OpR X (compareOp .Eq) rEq:=by
 exists 4,x,y,v,u,Q,I,rx,ry,h;erw[hs,q]at h;cases x with
 |non=>
   cases rx;cases y with
   |non=>cases ry;exact PySem.EqNone.eq_none_none (bY I q #[2])
   |bl j=>cases ry;exact PySem.EqNone.eq_none_bool (bY I q #[2])
   |int j=>erw[t',1]at ry;exact PySem.EqNone.eq_none_int (bY I q #[2])
   |str j=>erw[t',1]at ry;exact PySem.EqNone.eq_none_str (bY I q #[2])
   |_=>exact absurd (show false=true from hs) qD0
 |bl i=>
   cases rx;cases y with
   |non=>cases ry;exact PySem.EqNone.eq_bool_none (bY I q #[2])
   |bl j=>cases ry;exact eq_bool (bY I q DS)
   |str j=>erw[t',1]at ry;exact PySem.EqMixed.eq_bool_str (bY I q #[2])
   |_=>exact absurd (show false=true from hs) qD0
 |int i=>
   erw[t,1]at rx;cases y with
   |non=>cases ry;exact PySem.EqNone.eq_int_none (bY I q #[2])
   |int j=>erw[t',1]at ry;exact eq_int (bY I q zm)
   |str j=>erw[t',1]at ry;exact PySem.EqMixed.eq_int_str (bY I q #[2])
   |_=>exact absurd (show false=true from hs) qD0
 |str i=>
   erw[t,1]at rx;cases y with
   |non=>cases ry;exact PySem.EqNone.eq_str_none (bY I q #[2])
   |bl j=>cases ry;exact PySem.EqMixed.eq_str_bool (bY I q #[2])
   |int j=>erw[t',1]at ry;exact PySem.EqMixed.eq_str_int (bY I q #[2])
   |str j=>erw[t',1]at ry;exact eq_str (bY I q zk)
   |_=>exact absurd (show false=true from hs) qD0
 |byt i=>
   erw[t,1]at rx;cases y with
   |byt j=>erw[t',1]at ry;exact PySem.W.eq_bytes (bY I q zn)
   |_=>exact absurd (show false=true from hs) qD0
 |_=>cases y <;> exact absurd (show false=true from hs) qD0
def lE:OpR X (compareOp .NotEq) rNe:=by
 exists 4,x,y,v,u,Q,I,rx,ry,h;erw[hs,q]at h;cases x with
 |non=>
   cases rx;cases y with
   |non=>cases ry;exact PySem.EqNone.ne_none_none (bY I q #[2])
   |bl j=>cases ry;exact PySem.EqNone.ne_none_bool (bY I q #[2])
   |int j=>erw[t',1]at ry;exact PySem.EqNone.ne_none_int (bY I q #[2])
   |str j=>erw[t',1]at ry;exact PySem.EqNone.ne_none_str (bY I q #[2])
   |_=>exact absurd (show false=true from hs) qD0
 |bl i=>
   cases rx;cases y with
   |non=>cases ry;exact PySem.EqNone.ne_bool_none (bY I q #[2])
   |bl j=>cases ry;exact ne_bool (bY I q (congrArg not DS))
   |str j=>erw[t',1]at ry;exact PySem.EqMixed.ne_bool_str (bY I q #[2])
   |_=>exact absurd (show false=true from hs) qD0
 |int i=>
   erw[t,1]at rx;cases y with
   |non=>cases ry;exact PySem.EqNone.ne_int_none (bY I q #[2])
   |int j=>erw[t',1]at ry;exact ne_int (bY I q (congrArg not zm))
   |str j=>erw[t',1]at ry;exact PySem.EqMixed.ne_int_str (bY I q #[2])
   |_=>exact absurd (show false=true from hs) qD0
 |str i=>
   erw[t,1]at rx;cases y with
   |non=>cases ry;exact PySem.EqNone.ne_str_none (bY I q #[2])
   |bl j=>cases ry;exact PySem.EqMixed.ne_str_bool (bY I q #[2])
   |int j=>erw[t',1]at ry;exact PySem.EqMixed.ne_str_int (bY I q #[2])
   |str j=>erw[t',1]at ry;exact ne_str (bY I q (congrArg not zk))
   |_=>exact absurd (show false=true from hs) qD0
 |byt i=>
   erw[t,1]at rx;cases y with
   |byt j=>erw[t',1]at ry;exact PySem.W.ne_bytes (bY I q (congrArg not zn))
   |_=>exact absurd (show false=true from hs) qD0
 |_=>cases y <;> exact absurd (show false=true from hs) qD0
def dM:OpR X (compareOp .Lt) (rI0 λi j=>.bl (decide (i<j))):=EW λ_ _ _ _ _ _ _ q=>lt_int q
def sT:OpR X (compareOp .LtE) (rI0 λi j=>.bl (decide (i<=j))):=EW λ_ _ _ _ _ _ _ q=>le_int q
def fO:OpR X (compareOp .Gt) (rI0 λi j=>.bl (decide (j<i))):=EW λ_ _ _ _ _ _ _ q=>gt_int q
def Cl:OpR X (compareOp .GtE) (rI0 λi j=>.bl (decide (j<=i))):=EW λ_ _ _ _ _ _ _ q=>ge_int q
def sU:OpR X (compareOp .In) (λx y H Q=>∃i j,x=.str i/\y=.str j/\Q (.bl (!(Builtin.Str.occurrences j i 0 j.length 1).isEmpty)) H):=by
 exists 4,x,y,v,u,Q,I,rx,ry,h;erw[i,j,1,1,q]at h;erw[t,1]at rx;erw[t',1]at ry;exact in_str (bY I q rfl)
def Ck:OpR X (compareOp .Is) (λx y H Q=>y=.non/\Q (.bl (decide (x=.non))) H):=by
 exists 4,x,y,v,u,Q,I,rx,ry,h;erw[1,q]at h;cases ry;apply is_none_gen (bY I q ?_);cases x <;> first
  | (cases rx;rfl)
  | (erw[t,1]at rx;rfl)
def yY:OpR X (compareOp .IsNot) (λx y H Q=>y=.non/\Q (.bl (!decide (x=.non))) H):=by
 exists 4,x,y,v,u,Q,I,rx,ry,h;erw[1,q]at h;cases ry;apply isnot_none_gen (bY I q ?_);cases x <;> first
  | (cases rx;rfl)
  | (erw[t,1]at rx;rfl)
def OpR.or(h:OpR X f r)(h':OpR X f r'):OpR X f (λx y H Q=>r x y H Q∨r' x y H Q):=by
 exists 4,x,y,v,u,Q,I,rx,ry,q;rcases q with q | q
 . exact h Mp s σ H x y v u Q I rx ry q
 . exact h' Mp s σ H x y v u Q I rx ry q
def ao(b:Expr){op:CmpOp}(h:op≠.In:=by decide)(h2:op≠.NotIn:=by decide):behindInMarks op b=false:=by
 let e1:(op==CmpOp.In)=false:=by cases op <;> first | rfl | exact absurd rfl h
 let e2:(op==CmpOp.NotIn)=false:=by cases op <;> first | rfl | exact absurd rfl h2
 cases b <;> simp [behindInMarks,e1,e2]
def iT{op:CmpOp}(ho:OpR X (compareOp op) r)(ha:PE X a ta)(hb:PE X b tb)(hm:behindInMarks op b=false):PE X (.Compare a [op] [b] pos) (tOp r ta tb):=by
 exists 4,Q,I,h;exact wpAny_Compare1 (HN ha hb I h λv u s2 x y H2 I2 rx ry q=>ho Mp s2 σ H2 x y v u Q I2 rx ry q) hm
instance ZtTest(Q:(Bool->Hp->Prop))(x:V)(H':Hp):∀k,x=.bl k->Q k H':=0
def FG(t:TE):TT:=λσ H Q=>t σ H λx H'=>ZtTest Q x H'
def af{op:CmpOp}(ho:OpR X (compareOp op) r)(ha:PE X a ta)(hb:PE X b tb)(hm:behindInMarks op b=false):PT X (.Compare a [op] [b] pos) (FG (tOp r ta tb)):=by
 exists 4,Q,I,h;apply wpAny_isTrue_Compare1 (thn (ha Mp s σ H _ I h) λv s1 ⟨x,H1,I1,r1,q1⟩=>thn (hb Mp s1 σ H1 _ I1 q1) λu s2 ⟨y,H2,I2,r2,q2⟩=>
  thn (ho Mp s2 σ H2 x y v u _ I2 r1 r2 q2) λc s3 ⟨z,H3,I3,r3,k,e,q3⟩=>?_) hm
 subst e;cases r3;exact qA1 %[H3,I3|q3]
instance ZtChain(r':R2)(tc:TE)(σ:St)(Q:VK)(y:V)(z:V)(H3:Hp):∀k,z=.bl k->(if k=true then tc σ H3 λw' H4=>r' y w' H4 Q else Q (.bl false) H3):=0
def Bq(r r':R2)(ta tb tc:TE):TE:=λσ H Q=>ta σ H λx H1=>tb σ H1 λy H2=>r x y H2 λz H3=>ZtChain r' tc σ Q y z H3
def Ch{op op':CmpOp}(ho:OpR X (compareOp op) r)(ho':OpR X (compareOp op') r')(ha:PE X a ta)(hb:PE X b tb)(hc:PE X c tc)
 (hm:lastMarks [op,op'] [b,c]=false:=by rfl'):PE X (.Compare a [op,op'] [b,c] pos) (Bq r r' ta tb tc):=by
 exists 4,Q,I,h;apply Compare_chain (thn (ha Mp s σ H _ I h) λv s1 ⟨x,H1,I1,r1,q1⟩=>chain_link (thn (hb Mp s1 σ H1 _ I1 q1) λu s2 ⟨y,H2,I2,r2,q2⟩=>
  thn (ho Mp s2 σ H2 x y v u _ I2 r1 r2 q2) λd s3 ⟨z,H3,I3,r3,k,e,q3⟩=>?_)) hm
 subst e;cases r3;apply qA1 ?_;cases k with
 |false=>exact ite_ff %[.bl false,H3,I3,1|q3]
 |true=>exact ite_tt (chain_last (thn (hc Mp s3 σ H3 _ I3 q3) λw' s4 ⟨z',H4,I4,r4,q4⟩=>ho' Mp s4 σ H4 y z' u w' Q I4 r2 r4 q4))
def vK{op op':CmpOp}(ho:OpR X (compareOp op) r)(ho':OpR X (compareOp op') r')(ha:PE X a ta)(hb:PE X b tb)(hc:PE X c tc)
 (hm:lastMarks [op,op'] [b,c]=false:=by rfl'):PT X (.Compare a [op,op'] [b,c] pos) (FG (Bq r r' ta tb tc)):=by
 exists 4,Q,I,h;apply isTrue_chain (thn (ha Mp s σ H _ I h) λv s1 ⟨x,H1,I1,r1,q1⟩=>test_link (thn (hb Mp s1 σ H1 _ I1 q1) λu s2 ⟨y,H2,I2,r2,q2⟩=>
  thn (ho Mp s2 σ H2 x y v u _ I2 r1 r2 q2) λd s3 ⟨z,H3,I3,r3,k,e,q3⟩=>?_)) hm
 subst e;cases r3;apply qA1 ?_;cases k with
 |false=>
   erw[k',e',q']at q3;cases e';exact ite_ff %[H3,I3|q']
 |true=>
   apply ite_tt (test_last (thn (hc Mp s3 σ H3 _ I3 q3) λw' s4 ⟨z',H4,I4,r4,q4⟩=>thn (ho' Mp s4 σ H4 y z' u w' _ I4 r2 r4 q4) λd' s5 ⟨z2,H5,I5,r5,k2,e2,q5⟩=>?_));subst e2;cases r5;exact qA1 %[H5,I5|q5]
def jV:(sizeLine:Nat)<2 ^ 63:=by rw[sizeLine_eq];decide
def iG:OpR X (binaryOp .Add) (λx y H Q=>∃i j,x=.str i/\y=.str j/\i.length+j.length<=sizeLine/\Q (.str (i++j)) H):=by
 exists 4,x,y,v,u,Q,I,rx,ry,h;erw[i,j,1,1,hz,q]at h;erw[t,1]at rx;erw[t',1]at ry;exact add_str (λt' tk=>%[.str (i++j),H,I.tok _,%[|0]|q]) hz
def jm{x:V}(r:Vals [x] us):∃u,us=[u]/\RelV x u:=by
 cases r with
 |cons r1 r2=>cases r2;erw[0,r1]
def Bd{x y:V}(r:Vals [x,y] us):∃u w',us=[u,w']/\RelV x u/\RelV y w':=by
 cases r with
 |cons r1 r2=>
   cases r2 with
   |cons r3 r4=>cases r4;erw[_,0,r1,r3]
def oV(hc:X.calm=true):gP X (.builtin "max") (λxs H Q=>∃i j,xs=[.int i,.int j]/\Q (.int (if j>i then j else i)) H):=by
 exists 4,xs,us,Q,I,r,h;erw[i,j,1,q]at h;let%[u,w',1,%[t|1]|%[t'|1]]:=Bd r;apply max_two_ints (I.ok.hd hc) λh' tk k=>%[_,H,I.kept k,6|q]
 by_cases hj:j>i
 . rw[Mt hj,Mt hj];erw[0]
 . rw[Mq hj,Mq hj];erw[0]
def AX(hc:X.calm=true):gP X (.builtin "min") (λxs H Q=>∃i j,xs=[.int i,.int j]/\Q (.int (if j<i then j else i)) H):=by
 exists 4,xs,us,Q,I,r,h;erw[i,j,1,q]at h;let%[u,w',1,%[t|1]|%[t'|1]]:=Bd r;apply min_two_ints (I.ok.hd hc) λh' tk k=>%[_,H,I.kept k,6|q]
 by_cases hj:j<i
 . rw[Mt hj,Mt hj];erw[0]
 . rw[Mq hj,Mq hj];erw[0]
def tF:gP X (.type "int") (λxs H Q=>(∃i,xs=[.int i]/\Q (.int i) H)∨∃k,xs=[.bl k]/\Q (.int (if k then 1 else 0)) H):=by
 exists 4,xs,us,Q,I,r,h;rcases h with⟨i,rfl,q⟩ | ⟨k,rfl,q⟩
 . let%[u,1,t|1]:=jm r;exact call_int_int %[.int i,H,I,%[|0]|q]
 . let%[u,1|r1]:=jm r;cases r1;exact call_int_bool %[.int (if k then 1 else 0),H,I.tok _,%[|0]|q]
def ei:gP X (.type "str") (λxs H Q=>∃i,xs=[.int i]/\i.natAbs.log2<1920/\Q (.str (toString i)) H):=by
 exists 4,xs,us,Q,I,r,h;erw[i,1,hz,q]at h;let%[u,1,t|1]:=jm r;exact PySem.P.str_of_int hz %[.str _,H,I.tok _,%[|0]|q]
end
structure ObjM(h:Heap)(x dx C:Addr)(mA:#[9]):Prop where
 obj:h.get? x=some (PySem.W.instObj C dx)
 ns:h.Ns1 dx mA
 ne:dx≠x
def At{h:Heap}{dx:Addr}{mA:#[9]}(n:h.Ns1 dx mA):∃od,h.get? dx=some od/\∀name,PySem.W.lookIn name od=some (mA name):=by
 erw[o,es,ep,ho,hd,hk,_,hm]at n;erw[o,ho,λname=>?_];let e:=hm name;unfold nsFind findBy at e;rw[←Array.find?_toList]at e;unfold PySem.W.lookIn;rw[hd]
 dsimp only
 split
 . rename_i y q;rw[q]at e;exact congrArg some e
 . rename_i q;rw[q]at e;let a:es.toList.any (·.refKey)=false:=by
    rw[List.any_eq_false];intro y hy;let%[z,t|hkey]:=hk y (Array.mem_toList_iff.mp hy)
    simp [DictEntry.refKey,hkey]
   let a':¬ es.toList.any (·.refKey)=true:=by rw[a];exact qD0
   rw[Mq a'];exact congrArg some e
def ObjM.look(I:ObjM h x dx C mA):∃od,PySem.W.InstAt h x (PySem.W.instObj C dx) C (some od)/\∀name,PySem.W.lookIn name od=some (mA name):=
 let⟨od,ho,hl⟩:=At I.ns
 %[od,%[I.obj,1,1|ho]|hl]
section
variable {prog:Program}{w:World}{A:Around}{E:#[6]}{s:Shared}{K:W.Frag}{x dx C f:Addr}{mA:#[9]}{name:Str}{v:Value}
def Fv{expr:Bool}{Q:#[6]}(X:K.In s.heap)(I:ObjM s.heap x dx C mA)(hg:PySem.W.plainGet K C name=true)(hh:PySem.W.hasDictIn K C=true)
 (ha:PySem.W.findIn K (.ref C) name=some none)(hv:mA name=some v)(hv':PySem.W.handedIn v=true)(h:Q v { s with toks:=s.toks+1 }):
 ‹w.A› (getAttr (.ref x) name expr) Q E s:=by
 erw[od,J,hl]at I.look;exact PySem.W.get_value X J (jX1 hg).1 (PySem.W.findObj_own hh ha rfl (by rw[hl,hv])) hv' h
def DB{pl:Sem Bool}{Q:Value×List Value->Shared->Prop}(X:K.In s.heap)(I:ObjM s.heap x dx C mA)(hg:PySem.W.plainGet K C name=true)
 (hf:PySem.W.findIn K (.ref C) name=some (some (.ref f)))(ht:PySem.W.isFn K (.ref f)=true)(hv:mA name=none)(h:Q (.ref f,[.ref x]) s):
 ‹w.A› (getMethod (.ref x) name pl) Q E s:=by
 erw[od,J,hl]at I.look;exact PySem.W.method_fn X J (jX1 hg).1 (jX1 hg).2 hf (beq_iff_eq.mp ht) (by show(PySem.W.lookIn name od).map (·.isSome)=some false;rw[hl,hv];rfl) h
def EH{ns:List Str}{Q:Unit->Shared->Prop}(X:K.In s.heap)(I:ObjM s.heap x dx C mA)
 (hs:PySem.W.findIn K (.ref C) "__setattr__"=some (some (.builtin "object.__setattr__")))(hp:PySem.W.plainOver K C=true)(ht:PySem.W.takerIn K C name=some none)(hh:PySem.W.hasDictIn K C=true)
 (hw:PySem.Within mA ns)(hsz:ns.length<=sizeLine)
 (h:∀h',ObjM h' x dx C (λy=>if y=name then some v else mA y)->Heap.SameBut dx s.heap h'->Q () { s with heap:=h',toks:=s.toks+2 }):
 ‹w.A› (setAttr (.ref x) name v) Q E s:=by
 erw[od,J,hl]at I.look;apply PySem.W.set_plain X J hs (PySem.W.osa_open (s:={ s with toks:=s.toks+1 }) (r:=none) X J hp ht λb=>?_);let%[cd,hc|hd']:=PySem.W.any_some hh;let hx:s.heap.get? x=some %[.ref C,some dx,.plain|#[]]:=I.obj;apply zE0 (zJ0 (zE0 (zE0 (wpAny_loadPart hx (zE0 (PySem.W.Looks.here (s:={ s with toks:=s.toks+1 }) (PySem.W.looks_clsIn X hc) ?_))))));rw[hd'];apply zJ0 (a:=some dx) (zE0 (zJ0 (zE0 ?_)));apply wpAny_nsSet1 (s:={ s with toks:=s.toks+1 }) I.ns λh' hn2 hs2=>?_
 let%[oD,esD,epD,hoD,hdD|hcD]:=hn2.count (PySem.Within.cons name v hw);apply zE0 (wpAny_lookBehind hoD (by rw[hdD];exact pastItsLine_dict (zN0 hcD (by rw[zM0];omega))) ?_);exact zJ0 (h _ %[(hs2.2 _ (Ne.symm I.ne)).trans I.obj,hn2|I.ne] hs2)
def Dg{R:Result->Shared->Prop}{vs:List Value}{kw:List (Str×Value)}(X:K.In s.heap)(hm:PySem.W.makesIn K C=true)
 (hi:PySem.W.findIn K (.ref C) "__init__"=some (some (.ref f)))(hf:PySem.W.typeIn K (.ref f)=some (.type "function"))
 (h:codeAny (model prog w) (A.under (.builtin "type.__call__" %[.ref C::vs|kw])) (.call (.ref f) ⟨.ref (‹s›+1)::vs,kw⟩) (PySem.W.InitBack (‹s›+1) R)
  { s with heap:=(s.heap.push PySem.W.emptyDict).push (PySem.W.instObj C ‹s›) }) :
 codeAny (model prog w) A (.call (.ref C) %[vs|kw]) R s:=by
 erw[hh,g,d,t,os]at s;exact PySem.W.make_core (PySem.W.makes_of X hm) (PySem.W.looks_findIn X hi) (λself=>PySem.W.bind_fn X self hf) (.inl rfl) h
end
def bN(f:Str)(v:V):List (Str×V)->List (Str×V)
 | []=>[(f,v)]
 | (g,x)::r=>if g=f then(g,v)::r else(g,x)::bN f v r
def au(f g:Str)(v:V):∀fs:List (Str×V),(bN f v fs).lookup g=if g=f then some v else fs.lookup g
 | []=>by
   show List.lookup g [(f,v)]=_
   by_cases h:g=f
   . let hb:(g==f)=true:=beq_iff_eq.mpr h;simp only[List.lookup,hb,Mt h]
   . let hb:(g==f)=false:=beq_eq_false_iff_ne.mpr h;simp only[List.lookup,hb,Mq h]
 | (k,x)::r=>by
   let ih:=au f g v r;rw[show bN f v ((k,x)::r)=(if k=f then(k,v)::r else(k,x)::bN f v r)from rfl]
   by_cases hk:k=f
   . rw [Mt hk]
     by_cases h:g=k
     . let hb:(g==k)=true:=beq_iff_eq.mpr h;simp only[List.lookup,hb,Mt (h.trans hk)]
     . let hb:(g==k)=false:=beq_eq_false_iff_ne.mpr h;simp only[List.lookup,hb,Mq (λe:g=f=>h (e.trans hk.symm))]
   . rw [Mq hk]
     by_cases h:g=k
     . let hb:(g==k)=true:=beq_iff_eq.mpr h;simp only[List.lookup,hb,Mq (λe:g=f=>hk (h.symm.trans e))]
     . let hb:(g==k)=false:=beq_eq_false_iff_ne.mpr h;simp only[List.lookup,hb];exact ih
def oQ(f:Str)(v:V):∀fs:List (Str×V),f∈(bN f v fs).map (·.1)/\∀g,g∈fs.map (·.1)->g∈(bN f v fs).map (·.1)
 | []=>%[by simp [bN]|λg h=>by simp at h]
 | (k,x)::r=>by
   let%[i1|i2]:=oQ f v r;rw[show bN f v ((k,x)::r)=(if k=f then(k,v)::r else(k,x)::bN f v r)from rfl]
   by_cases hk:k=f
   . rw[Mt hk];subst hk;erw[by simp,λg h=>by simpa using h]
   . rw [Mq hk];erw[6,λg h=>?_]
     . rw[zY0];exact qK0 _ i1
     . rw [zY0]at h ⊢;rcases zS0 h with e | e
       . exact List.mem_cons.mpr (.inl e)
       . exact qK0 _ (i2 g e)
def pE(f:Str)(v:V):∀fs:List (Str×V),(bN f v fs).length<=fs.length+1
 | []=>by simp [bN]
 | (k,x)::r=>by
   let ih:=pE f v r;rw[show bN f v ((k,x)::r)=(if k=f then(k,v)::r else(k,x)::bN f v r)from rfl]
   by_cases hk:k=f
   . rw[Mt hk,zM0,zM0];omega
   . rw[Mq hk,zM0,zM0];omega
def RelO.some_of{v:V}(r:RelO (some v) o):∃u,o=some u/\RelV v u:=by
 cases o with
 |none=>exact(show False from r).elim
 |some u=>erw[u,1,r]
def RelO.none_of(r:RelO none o):o=none:=by
 cases o with
 |none=>rfl
 |some u=>exact(show False from r).elim
def AH(r:RelV v u):PySem.W.handedIn u=true:=by
 cases v with
 |non=>cases(show u=Value.none from r);rfl
 |bl b=>cases(show u=Value.bool b from r);rfl
 |int i=>let%[t|e]:=(show ∃t,u=Value.int i t from r);cases e;rfl
 |str x=>let%[t|e]:=(show ∃t,u=Value.str x t from r);cases e;rfl
 |byt b=>let%[t|e]:=(show ∃t,u=Value.bytes b t from r);cases e;rfl
 |flt b=>let%[t|e]:=(show ∃t,u=Value.float b t from r);cases e;rfl
 |ref a=>cases(show u=Value.ref a from r);rfl
 |ty n=>cases(show u=Value.type n from r);rfl
section
variable {P:Program}{w:World}{H H':Hp}{h h':Heap}{a C dx:Addr}{fs fs':List (Str×V)}
def qe(hok:HOk P w H h)(e:H a=some (.ins C dx fs)):∃mA,ObjM h a dx C mA/\(∀f,RelO (fs.lookup f) (mA f))/\PySem.Within mA (fs.map (·.1))/\fs.length<=1000/\H dx=some (.own a):=by
 let%[d,z,ne,ob,mA,n,r|q]:=(show ObjOk P w H h a (.ins C dx fs)from hok a _ e)
 erw[mA,%[ob,n|ne],r,q,z,d]
end
structure Cls(K:W.Frag)(C:Addr):Prop where
 pg:PySem.W.plainGet K C Str.empty=true
 hd:PySem.W.hasDictIn K C=true
 po:PySem.W.plainOver K C=true
 sa:PySem.W.findIn K (.ref C) "__setattr__"=some (some (.builtin "object.__setattr__"))
def Cls.get{K:W.Frag}(c:Cls K C)(f:Str):PySem.W.plainGet K C f=true:=c.pg
def NoAttr(K:W.Frag)(C:Addr)(f:Str):Prop:=PySem.W.findIn K (.ref C) f=some none
def NoAttr.taker{K:W.Frag}(n:NoAttr K C f):PySem.W.takerIn K C f=some none:=by
 unfold PySem.W.takerIn;rw[show PySem.W.findIn K (.ref C) f=some none from n];rfl
structure Meth(K:W.Frag)(C:Addr)(m:Str)(f:Addr):Prop where
 at_:PySem.W.findIn K (.ref C) m=some (some (.ref f))
 fn:PySem.W.isFn K (.ref f)=true
 kp:PySem.W.keepIn K (.ref f)=true
section
variable {X:Cx}{Mp:#[7]}{σ:St}{H:Hp}{s:Shared}{a C dx:Addr}{fs:List (Str×V)}{f:Str}{v:V}{A:Around}{E:#[6]}
def yu{b:Bool}{Q:#[6]}(I:#[8] H s)(e:H a=some (.ins C dx fs))(c:Cls X.K C)(n:NoAttr X.K C f)(l:fs.lookup f=some v)
 (h:∀u s',#[8] H s'->RelV v u->Q u s'):wpAny (model X.prog X.w) A (getAttr (.ref a) f b) Q E s:=by
 let%[mA,O,r,_,_|_]:=qe I.hok e;let%[u,hu|ru]:=RelO.some_of (v:=v) (o:=mA f) (by rw[←l];exact r f);exact Fv I.kIn O (c.get f) c.hd n hu (AH ru) (h u _ (I.tok _) ru)
def rP{pl:Sem Bool}{Q:Value×List Value->Shared->Prop}(I:#[8] H s)(e:H a=some (.ins C dx fs))(c:Cls X.K C)(k:Meth X.K C m g)(l:fs.lookup m=none)
 (h:Q (.ref g,[.ref a]) s):wpAny (model X.prog X.w) A (getMethod (.ref a) m pl) Q E s:=by
 let%[mA,O,r,_,_|_]:=qe I.hok e;let hn:mA m=none:=RelO.none_of (by rw[←l];exact r m);exact DB I.kIn O (c.get m) k.at_ k.fn hn h
def xq{Q:Unit->Shared->Prop}(I:#[8] H s)(e:H a=some (.ins C dx fs))(c:Cls X.K C)(n:NoAttr X.K C f)(hl:fs.length<1000)(ry:RelV y u)
 (h:∀s',#[8] (upd H a (.ins C dx (bN f y fs))) s'->Q () s'):wpAny (model X.prog X.w) A (setAttr (.ref a) f u) Q E s:=by
 let%[mA,O,r,wi,_|ho]:=qe I.hok e;let hz:(fs.map (·.1)).length<=sizeLine:=by rw[zF0,sizeLine_eq];omega
 apply EH I.kIn O c.sa c.po n.taker c.hd wi hz λh' O' sb=>h _ ?_
 let hd:∃o,h'.get? dx=some o:=let⟨o,_,_,e',_⟩:=O'.ns;%[o|e']
 apply I.write (x:=a) (e:=dx) (by rw[e];exact True.intro) (.inr ho) (λb q hb z=>(sb.2 b hb).trans z) hd ?_;erw[by rw[aB O.ne];exact ho,6,O.ne,O'.obj,_,O'.ns,λg=>?_,λg hg=>?_]
 . have:=pE f y fs;omega
 . show RelO ((bN f y fs).lookup g) (if g=f then some u else mA g);rw[au]
   by_cases q:g=f
   . rw[Mt q,Mt q];exact ry
   . rw[Mq q,Mq q];exact r g
 . by_cases q:g=f
   . rw[q];exact(oQ f y fs).1
   . refine(oQ f y fs).2 g (wi g λz=>hg ?_);show(if g=f then some u else mA g)=none;rw[Mq q];exact z
def Inv.made(I:#[8] H s):#[8] (upd (upd H ‹s› (.own (‹s›+1))) (‹s›+1) (.ins C ‹s› []))
 { s with heap:=(s.heap.push PySem.W.emptyDict).push (PySem.W.instObj C ‹s›) }:=by
 let e1:(s.heap.push PySem.W.emptyDict).get? ‹s›=some PySem.W.emptyDict:=qC0 s.heap rfl;let e2:((s.heap.push PySem.W.emptyDict).push (PySem.W.instObj C ‹s›)).get? (‹s›+1)=some (PySem.W.instObj C ‹s›):=by
  have:=qC0 (s.heap.push PySem.W.emptyDict) (o:=PySem.W.instObj C ‹s›) rfl
  rwa [wF1]at this
 let e3:(s.heap.push PySem.W.emptyDict).Ns ‹s› (λ_=>none):=%[PySem.W.emptyDict,#[],_,e1,1,(λe he=>absurd he #[2])|λ_=>rfl]
 let I1:=I.laid (a:=‹s›) (o:=.own (‹s›+1)) (h':=s.heap.push PySem.W.emptyDict) (t':=s.toks) (λb u q=>zU0 _ q) (zH0 _) %[_|e1];apply I1.laid (a:=‹s›+1) (o:=.ins C ‹s› []) (t':=s.toks) (λb u q=>zU0 _ q) (Nat.le_of_eq (wF1 _ _)) ?_;let ne:‹s›≠‹s›+1:=zX0 (qV1 _);erw[by rw[aB ne,bh],zT0 _,ne,e2,λ_=>none,(Heap.Ns1.of_empty e3).at λo q=>zU0 _ q,λ_=>True.intro,λy hy=>absurd rfl hy]
def Fz{prog:Program}{w:World}{env:Env}{e:Expr}{f:Str}{pos:Pos}{s:Shared}{Q:#[6]}(hb:attributeBase e f env (eval e env)=eval e env)
 (h:‹w.A› (eval e env) (λo s₁=>‹w.A› (getAttr o f true) Q E s₁) E s):‹w.A› (eval (.Attribute e f pos) env) Q E s:=
 Attribute_any_ h (by rw[arm_eval_Attribute,hb])
end
instance ZtFld(K:W.Frag)(f:Str)(Q:VK)(x:V)(H1:Hp):∀a C dx fs v,x=.ref a->H1 a=some (.ins C dx fs)->Cls K C->NoAttr K C f->fs.lookup f=some v->Q v H1:=0
def tFld(K:W.Frag)(ta:TE)(f:Str):TE:=λσ H Q=>ta σ H λx H1=>ZtFld K f Q x H1
instance ZsFld(K:W.Frag)(f:Str)(D:Ends)(σ:St)(y:V)(x:V)(H2:Hp):∀a C dx fs,x=.ref a->H2 a=some (.ins C dx fs)->Cls K C->NoAttr K C f->fs.length<1000->D.nx σ (upd H2 a (.ins C dx (bN f y fs))):=0
def sFld(K:W.Frag)(ta tv:TE)(f:Str):TS:=λD σ H=>tv σ H λy H1=>ta σ H1 λx H2=>ZsFld K f D σ y x H2
section
variable {X:Cx}{o e value:Expr}{f:Str}{pos pos' tpos:Pos}{ta tv:TE}
def az(he:PE X e ta)(hb:attributeBase e f X.env (eval e X.env)=eval e X.env):PE X (.Attribute e f pos) (tFld X.K ta f):=by
 exists 4,Q,I,h;apply Fz hb (thn (he Mp s σ H _ I h) λu s1 ⟨x,H1,I1,rx,a,C,dx,fs,v,ex,ea,c,n,l,q⟩=>?_);subst ex;obtain rfl:u=Value.ref a:=rx;exact yu I1 ea c n l λu' s2 I2 ru=>%[v,H1,I2,ru|q]
def aP(ha:PE X o ta)(hv:PE X value tv)(hs:swapsWith value (some (.Attribute o f pos')) pos.line X.env=pure false):PS X (.Assign [.Attribute o f pos'] value pos) (sFld X.K ta tv f):=by
 exists 4,D,I,h;apply plainObj_wpAny_Assign_Attribute (thn (hv Mp s σ H _ I h) λu s1 ⟨y,H1,I1,ry,q⟩=>thn (ha Mp s1 σ H1 _ I1 q) λov s2 ⟨x,H2,I2,rx,a,C,dx,fs,ex,ea,c,n,l,q2⟩=>?_) hs;subst ex;obtain rfl:ov=Value.ref a:=rx;exact xq I2 ea c n l ry λs3 I3=>%[σ,_,I3|q2]
end
section
variable {X:Cx}{Mp:#[7]}{σ:St}{H:Hp}{s:Shared}{A:Around}{E:#[6]}{Q:#[6]}{c:Value}{b:Bool}
inductive TyOf(K:W.Frag)(H:Hp):V->Value->Prop where
 |non:TyOf K H .non (.type "NoneType")
 |bl (x:Bool):TyOf K H (.bl x) (.type "bool")
 |int (i:Int):TyOf K H (.int i) (.type "int")
 |str (x:Str):TyOf K H (.str x) (.type "str")
 |flt (x:UInt64):TyOf K H (.flt x) (.type "float")
 |lst {a:Addr} {xs:List V} (e:H a=some (.lst xs)):TyOf K H (.ref a) (.type "list")
 |frz {a:Addr} {o:Obj} {xs:List V} (e:H a=some (.frz o (.lst xs))):TyOf K H (.ref a) (.type "list")
 |tup {a:Addr} {xs:List V} (e:H a=some (.tup xs)):TyOf K H (.ref a) (.type "tuple")
 |dK {a:Addr} {Ms:List (Key×V)} (e:H a=some (.dK Ms)):TyOf K H (.ref a) (.type "dict")
 |dT {a:Addr} {Ms:List (List Key×V)} (e:H a=some (.dT Ms)):TyOf K H (.ref a) (.type "dict")
 | ins {a C dx:Addr} {fs:List (Str×V)} (e:H a=some (.ins C dx fs)) (cl:Cls K C) (ha:PySem.W.findIn K (.ref C) "__class__"=some (some (.builtin "object.__class__")))
  (hn:PySem.W.specialIn K (.builtin "object.__class__") "__get__"=some (some (.builtin "getset_descriptor.__get__"))) (htk:PySem.W.takesIn K (.builtin "object.__class__")=some true)
  (hm:PySem.W.mroIn K C (.type "object")=some true):TyOf K H (.ref a) (.ref C)
def AB(I:#[8] H s)(rx:RelV x u)(ty:TyOf X.K H x t)(e:PySem.W.kitOne X.K t c=some b)(h:∀tk,Q (.bool b) { s with toks:=tk }):
 wpAny (model X.prog X.w) A (call (.builtin "isinstance") [u,c]) Q E s:=by
 cases ty with
 |non=>cases(show u=Value.none from rx);exact qE1 PySem.W.kitx_none I.kIn True.intro e (λz=>nomatch z) h
 |bl y=>cases(show u=Value.bool y from rx);exact qE1 PySem.W.kitx_bool I.kIn True.intro e (λz=>nomatch z) h
 |int i=>let%[t|q]:=(show ∃t,u=Value.int i t from rx);cases q;exact qE1 PySem.W.kitx_int I.kIn True.intro e (λz=>nomatch z) h
 |str y=>let%[t|q]:=(show ∃t,u=Value.str y t from rx);cases q;exact qE1 PySem.W.kitx_str I.kIn True.intro e (λz=>nomatch z) h
 |flt y=>let%[t|q]:=(show ∃t,u=Value.float y t from rx);cases q;exact qE1 PySem.W.kitx_float I.kIn True.intro e (λz=>nomatch z) h
 | @lst a xs ea=>
   cases(show u=Value.ref a from rx);let%[_,_,n,_|h1]:=(show ObjOk X.prog X.w H s.heap a (.lst xs)from I.hok a _ ea)
   exact qE1 PySem.W.kitx_list I.kIn %[_,h1|1] e (λz=>nomatch z) h
 | @frz a ob xs ea=>
   cases(show u=Value.ref a from rx);let%[_,_,_,n,_|h1]:=(show ObjOk X.prog X.w H s.heap a (.frz ob (.lst xs))from I.hok a _ ea)
   exact qE1 PySem.W.kitx_list I.kIn %[_,h1|1] e (λz=>nomatch z) h
 | @tup a xs ea=>
   cases(show u=Value.ref a from rx);let%[_,_,_,p|_]:=(show ObjOk X.prog X.w H s.heap a (.tup xs)from I.hok a _ ea)
   erw[o,h1,h2,_]at p;exact qE1 PySem.W.kitx_tuple I.kIn %[o,h1|h2] e (λz=>nomatch z) h
 | @dK a Ms ea=>
   cases(show u=Value.ref a from rx);let%[_,_,vs,_|p]:=(show ObjOk X.prog X.w H s.heap a (.dK Ms)from I.hok a _ ea)
   erw[o,es,ep,h1,h2,_]at p;exact qE1 PySem.W.kitx_dict I.kIn %[o,h1|h2.1] e (λz=>nomatch z) h
 | @dT a Ms ea=>
   cases(show u=Value.ref a from rx);let%[_,_,xs,_,o,es,ep,h1,h2|_]:=(show ObjOk X.prog X.w H s.heap a (.dT Ms)from I.hok a _ ea)
   exact qE1 PySem.W.kitx_dict I.kIn %[o,h1|h2.1] e (λz=>nomatch z) h
 | @ins a C dx fs ea cl ha hn htk hm=>
   cases(show u=Value.ref a from rx);let%[mA,O|_]:=qe I.hok ea;erw[od,J,_]at O.look;exact qE1 (PySem.W.kitx_own (cl.get _) cl.hd ha hn htk hm) I.kIn J e (λz=>nomatch z) h
end
structure Room(k:Nat)(A:Around):Prop where
 hd:A.handled=none
 gd:A.guards=some []
 dp:A.depth+3*k+5<recursionLimit
 un:A.units+16*k+200<cLine
def Room.mono{j:Nat}(r:Room k A)(h:j<=k):Room j A:=%[r.hd,r.gd,by have:=r.dp;omega|by have:=r.un;omega]
def Room.deeper{k:Nat}(r:Room (k+1) A)(env:Env):Room k (A.deeper env):=
 %[r.hd,r.gd,by have:=r.dp;show A.depth+1+3*k+5<_;omega|by have:=r.un;show A.units+3+16*k+200<_;omega]
def yh{A:Around}{C:Addr}{us:List Value}{kw:List (Str×Value)}:(A.under (.builtin "type.__call__" %[.ref C::us|kw])).depth=A.depth+1:=by
 first | rfl | simp [Around.under,Code.weight,Code.isCreation,Code.isGuard,Code.isCaller,Code.frames,Code.isFrame,guardIds]
def yg{A:Around}{C:Addr}{us:List Value}{kw:List (Str×Value)}:(A.under (.builtin "type.__call__" %[.ref C::us|kw])).units=A.units+1:=by
 first | rfl | simp [Around.under,Code.cUnits,Code.frames,Code.isFrame]
def Room.make{k:Nat}(r:Room (k+1) A)(C:Addr)(us:List Value)(kw:List (Str×Value)):Room k (A.under (.builtin "type.__call__" %[.ref C::us|kw])):=
 %[r.hd,by simp [Around.under,Code.guards,Code.isGuard,guardIds,pushGuards,r.gd],by have:=r.dp;rw[yh];omega|by have:=r.un;rw[yg];omega]
def Room.depth(r:Room k A):A.depth<recursionLimit:=by have:=r.dp;omega
def Room.units(r:Room k A):A.units+64<cLine:=by have:=r.un;omega
def Ex:TA:=λ_ H Q=>Q [] H
def qp(ta:TE)(tr:TA):TA:=λσ H Q=>ta σ H λx H1=>tr σ H1 λxs H2=>Q (x::xs) H2
section
variable {X:Cx}{e:Expr}{es:List Expr}{te:TE}{t:TA}{pos:Pos}
def bc:PA X [] Ex:=λ_ _ _ _ H Q I h=>qZ0 %[[],H,I,.nil|h]
def ae(ha:PE X e te)(hr:PA X es t)(hs:starEach (e::es) X.env=(false,eval e X.env)::starEach es X.env:=by rfl):PA X (e::es) (qp te t):=by
 intro pos Mp s σ H Q I h;rw[hs];show wpAny _ _ (spliced ((false,eval e X.env)::backTo pos (starEach es X.env))) _ _ s;apply qK1 (thn (ha Mp s σ H _ I h) λu s1 ⟨x,H1,I1,r1,q1⟩=>?_);exact thn (hr pos Mp s1 σ H1 _ I1 q1) λus s2 ⟨xs,H2,I2,r2,q2⟩=>%[x::xs,H2,I2,.cons r1 r2|q2]
instance ZtTup(Q:VK)(xs:(List V))(H1:Hp):xs.length<=sizeLine->(∀p,H1 p=none->Q (.ref p) (upd H1 p (.tup xs))):=0
def tTup(t:TA):TE:=λσ H Q=>t σ H λxs H1=>ZtTup Q xs H1
instance ZtLst(Q:VK)(xs:(List V))(H1:Hp):xs.length<=sizeLine->(∀p,H1 p=none->Q (.ref p) (upd H1 p (.lst xs))):=0
def tLst(t:TA):TE:=λσ H Q=>t σ H λxs H1=>ZtLst Q xs H1
def aM{x1}(h:PA X es t):PE X (.Tuple es x1 pos) (tTup t):=by
 exists 4,Q,I,hq;apply wpAny_Tuple_spliced (thn (h pos Mp s σ H _ I hq) λus s1 ⟨xs,H1,I1,r,z,q⟩=>%[by rw[←r.length];exact z|6]);let hf:H1 ‹s1›=none:=I1.hok.fresh (zH0 _);erw[.ref ‹s1›,upd H1 ‹s1› (.tup xs),I1.laid (t':=s1.toks) (λb u e=>zU0 _ e) (zH0 _) ?_,1,q _ hf];erw[z,us,r,%[_,qC0 _ rfl,1|0],_,qC0 _ rfl,1]
def dq(h:PA X es t):PE X (.List es pos) (tLst t):=by
 exists 4,Q,I,hq;apply wpAny_List_spliced (thn (h pos Mp s σ H _ I hq) λus s1 ⟨xs,H1,I1,r,z,q⟩=>%[by rw[←r.length];exact z|6]);let hf:H1 ‹s1›=none:=I1.hok.fresh (zH0 _);erw[.ref ‹s1›,upd H1 ‹s1› (.lst xs),I1.laid (t':=s1.toks) (λb u e=>zU0 _ e) (zH0 _) ?_,1,q _ hf];erw[z,us,(0),r,qC0 _ rfl]
end
abbrev Sp:=List V->Hp->VK->XK->Prop
abbrev CXT:=List Env->Hp->Shared->XK->#[6]
structure Env0(P:Program)(w:World)(K:W.Frag)(mg:#[9])(base:Heap)(A:Around)(outer:List Env)(s:Shared)(H:Hp):Prop where
 frames:A.frames=some outer
 mod:Mod K mg base
 bs:∀b o,base.get? b=some o->s.heap.get? b=some o/\H b=none
 bsz:base.objs.size<=‹s›
 funs:s.heap.FunFrames base outer
 frf:∀b∈frs outer,H b=none
 hok:HOk P w H s.heap
 bare:AllBare s.gens
def CE(outer:List Env)(P:Program)(w:World)(H:Hp)(s:Shared)(Q:VK)(u:Value)(s':Shared):Prop:=
 ∃v H',s'.os=s.os/\AllBare s'.gens/\Un (frs outer) [] H H' s.heap s'.heap/\HOk P w H' s'.heap/\RelV v u/\Q v H'
def CR(CX:CXT)(outer:List Env)(P:Program)(w:World)(H:Hp)(s:Shared)(Q:VK)(E:XK)(r:Result)(s':Shared):Prop:=
 match r with
 |.ok (.ret u)=>CE outer P w H s Q u s'
 |.ok _=>False
 |.error e=>CX outer H s E e s'
structure FnOk(P:Program)(w:World)(K:W.Frag)(mg:#[9])(base:Heap)(CX:CXT)(k:Nat)(f:Addr)(fd:FuncData)(ps:List Str)(sp:Sp):Prop where
 len:∀vs H Q E,sp vs H Q E->vs.length=ps.length
 run:∀(A:Around)(outer:List Env)(s:Shared)(H:Hp)(args:Args)(us:List Value)(vs:List V)(Q:VK)(E:XK),Room k A->Env0 P w K mg base A outer s H->BindsTo s fd args (ps.zip us)->Vals vs us->sp vs H Q E ->
  codeAny (model P w) A (.call (.ref f) args) (CR CX outer P w H s Q E) s
def Env0.make{K:W.Frag}(e:Env0 P w K mg base A outer s H)(C:Addr)(us:List Value)(kw:List (Str×Value)):
 Env0 P w K mg base (A.under (.builtin "type.__call__" %[.ref C::us|kw])) outer s H:=⟨by first | exact e.frames | (simpa [Around.under,Code.envs,Code.isFrame,pushEnvs]using e.frames),e.mod,e.bs,e.bsz,e.funs,e.frf,e.hok,e.bare⟩
section
variable {X:Cx}{Mp:#[7]}{σ:St}{H:Hp}{s s':Shared}
def Inv.env0(I:#[8] H s):Env0 X.prog X.w X.K X.mg X.base X.A X.stack s H:=
 %[I.ok.frames,I.ok.mod,I.bs,zN0 I.ok.bsz I.sz,I.stack,I.stkFree,I.hok|I.bare]
def Inv.after(I:#[8] H s)(h:CE X.stack X.prog X.w H s Q u s'):EP X Mp σ Q u s':=by
 erw[v,H',os,bare,un,hok,r,q]at h;erw[hh,g,d,t,os']at s';obtain rfl:os'=s.os:=os;erw[v,H',I.call (h':=hh) (g':=g) (d':=d) (t':=t) (ch:=[]) un hok bare (λb z=>absurd z #[2]),r,q]
end
def FK(sp:Sp)(dvs:List V)(E:XK)(t:TA):TE:=λσ H Q=>t σ H λvs H1=>sp (vs++dvs) H1 Q E
instance ZtMeth(C:Addr)(m:Str)(sp:Sp)(dvs:List V)(E:XK)(t:TA)(σ:St)(Q:VK)(x:V)(H1:Hp):∀a dx fs,x=.ref a->H1 a=some (.ins C dx fs)->fs.lookup m=none->(t σ H1 λvs H2=>sp (x::(vs++dvs)) H2 Q E):=0
def FJ(C:Addr)(m:Str)(sp:Sp)(dvs:List V)(E:XK)(ta:TE)(t:TA):TE:=λσ H Q=>ta σ H λx H1=>ZtMeth C m sp dvs E t σ Q x H1
def tMake(C:Addr)(sp:Sp)(dvs:List V)(E:XK)(t:TA):TE:=λσ H Q=>t σ H λvs H1=>∀x dx,H1 x=none->H1 dx=none->dx≠x ->
 sp (.ref x::(vs++dvs)) (upd (upd H1 dx (.own x)) x (.ins C dx [])) (λv H2=>v=.non/\Q (.ref x) H2) E
def Binds(K:W.Frag)(fd:FuncData)(ps:List Str)(ds:List Value):Prop:=
 ∀(s:Shared)(us:List Value),K.In s.heap->(us++ds).length=ps.length->BindsTo s fd %[us|[]] (ps.zip (us++ds))
def Binds.all{K:W.Frag}{fd:FuncData}{ps:List Str}(h:∀us:List Value,us.length=ps.length->bindArgs fd %[us|[]]=pure (ps.zip us)):Binds K fd ps []:=λs us _ hl=>by
 rw[qZ1]at hl ⊢;exact .of_eq (h us hl)
def mr(CX:CXT)(X:Cx)(E:XK):Prop:=∀(Mp:#[7])(σ:St)(H:Hp)(s:Shared)(e:Value)(s':Shared),#[8] H s->CX X.stack H s E e s'->X.xe e s'
section
variable {X:Cx}{CX:CXT}{k:Nat}{f C:Addr}{fd:FuncData}{ps:List Str}{sp:Sp}{dvs:List V}{ds:List Value}{E:XK}{x m:Str}{p pos Mz:Pos}{e o:Expr}{es:List Expr}{ta:TE}{t:TA}
def xE{σ:St}{Q:VK}(F:FnOk X.prog X.w X.K X.mg X.base CX k f fd ps sp)(hr:Room k X.A)(hb:Binds X.K fd ps ds)(hd:Vals dvs ds)(hx:mr CX X E)
 (I:#[8] H s)(r:Vals vs us)(h:sp (vs++dvs) H Q E):‹X.w› (call (.ref f) us) (EP X Mp σ Q) X.xe s:=by
 let r2:Vals (vs++dvs) (us++ds):=r.append hd;let hl:(us++ds).length=ps.length:=by rw[←r2.length];exact F.len _ _ _ _ h
 apply wpAny_call (wP0 (F.run X.A X.stack s H %[us|[]] (us++ds) (vs++dvs) Q E hr I.env0 (hb s us I.kIn hl) r2 h) λr s' hq=>?_);cases r with
 |error e=>exact hx Mp σ H s e s' I hq
 |ok fl=>
   cases fl with
   |ret u=>exact I.after hq
   |next=>exact False.elim hq
   |brk=>exact False.elim hq
   |cont=>exact False.elim hq
def ES(F:FnOk X.prog X.w X.K X.mg X.base CX k f fd ps sp)(hr:Room k X.A)(hg:Gl X x)(hm:X.mg x=some (.ref f))(hk:PySem.W.keepIn X.K (.ref f)=true)(hb:Binds X.K fd ps ds)(hd:Vals dvs ds)(hx:mr CX X E)
 (ha:PA X (e::es) t)(hdb:(x==("__debug__":Str))=false:=by decide)(he:starEach (e::es) X.env=(false,eval e X.env)::starEach es X.env:=by rfl)(hpl:(backTo pos (starEach es X.env)).any (·.1)=false:=by rfl):
 PE X (.Call (.Name x p) (e::es) [] pos) (FK sp dvs E t):=by
 exists 4,Q,I,h;apply qX0 (uV I hg hm ?_ hdb);apply wC0 (h₀:=X.base) I.ok.mod.kin hk (thn (ha pos Mp s σ H _ I h) λus s1 ⟨vs,H1,I1,r,q⟩=>%[I1.kIn|6]) he hpl;exact xE F hr hb hd hx I1 r q
def bu{pl:Sem Bool}(he:PE X o ta)(c:Cls X.K C)(hm:Meth X.K C m f)(F:FnOk X.prog X.w X.K X.mg X.base CX k f fd ps sp)(hr:Room k X.A)(hb:Binds X.K fd ps ds)(hd:Vals dvs ds)(hx:mr CX X E)(ha:PA X (e::es) t)
 (Mx:starEach (e::es) X.env=(false,eval e X.env)::starEach es X.env:=by rfl)(hpl:(backTo pos (starEach es X.env)).any (·.1)=false:=by rfl)
 (ht:eval (.Call (.Attribute o m Mz) (e::es) [] pos) X.env=(do
  let ov ←eval o X.env
  standAt Mz.atName
  let(f,first) ←holding [ov] (getMethod ov m pl)
  callWith pos f first (backTo pos (starEach (e::es) X.env)) (backToKw pos (keywordEach [] X.env))):=by rfl) :
 PE X (.Call (.Attribute o m Mz) (e::es) [] pos) (FJ C m sp dvs E ta t):=by
 exists 4,Q,I,h;apply PySem.W.methodCall_KW (pl:=pl) (thn (he Mp s σ H _ I h) λu s1 ⟨x,H1,I1,rx,a,dx,fs,ex,ea,l,q⟩=>?_) ht;subst ex;obtain rfl:u=Value.ref a:=rx;apply rP I1 ea c hm l ?_;apply wC0 (first:=[.ref a]) (h₀:=X.base) I.ok.mod.kin hm.kp (thn (ha pos Mp s1 σ H1 _ I1 q) λus s2 ⟨vs,H2,I2,r,q2⟩=>%[I2.kIn|6]) Mx hpl;exact xE (us:=.ref a::us) (vs:=.ref a::vs) F hr hb hd hx I2 (.cons rfl r) q2
def bV{pl:Sem Bool}(he:PE X o ta)(c:Cls X.K C)(hm:Meth X.K C m f)(F:FnOk X.prog X.w X.K X.mg X.base CX k f fd ps sp)(hr:Room k X.A)(hb:Binds X.K fd ps ds)(hd:Vals dvs ds)(hx:mr CX X E)
 (ht:eval (.Call (.Attribute o m Mz) [] [] pos) X.env=(do
  let ov ←eval o X.env
  standAt Mz.atName
  let(f,first) ←holding [ov] (getMethod ov m pl)
  callWith pos f first (backTo pos (starEach [] X.env)) (backToKw pos (keywordEach [] X.env))):=by rfl) :
 PE X (.Call (.Attribute o m Mz) [] [] pos) (FJ C m sp dvs E ta Ex):=by
 exists 4,Q,I,h;apply PySem.W.methodCall_KW (pl:=pl) (thn (he Mp s σ H _ I h) λu s1 ⟨x,H1,I1,rx,a,dx,fs,ex,ea,l,q⟩=>?_) ht;subst ex;obtain rfl:u=Value.ref a:=rx;apply rP I1 ea c hm l ?_;exact PySem.W.callWith_K0 (first:=[.ref a]) I1.kIn hm.kp (xE (us:=[.ref a]) (vs:=[.ref a]) F hr hb hd hx I1 (.cons rfl .nil) q)
structure Mk(K:W.Frag)(C f:Addr):Prop where
 makes:PySem.W.makesIn K C=true
 init:PySem.W.findIn K (.ref C) "__init__"=some (some (.ref f))
 fn:PySem.W.isFn K (.ref f)=true
 kp:PySem.W.keepIn K (.ref C)=true
def BP{σ:St}{Q:VK}(M:Mk X.K C f)(F:FnOk X.prog X.w X.K X.mg X.base CX k f fd ps sp)(hr:Room (k+1) X.A)(hb:Binds X.K fd ps ds)(hd:Vals dvs ds)
 (hx:mr CX X E)(I:#[8] H s)(r:Vals vs us)
 (h:∀x dx,H x=none->H dx=none->dx≠x->sp (.ref x::(vs++dvs)) (upd (upd H dx (.own x)) x (.ins C dx [])) (λv H2=>v=.non/\Q (.ref x) H2) E):
 ‹X.w› (call (.ref C) us) (EP X Mp σ Q) X.xe s:=by
 let hq:=h (‹s›+1) ‹s› (I.hok.fresh (qN0 _)) (I.hok.fresh (zH0 _)) (zX0 (qV1 _));let I2:=Inv.made (C:=C) I;let r2:Vals (V.ref (‹s›+1)::(vs++dvs)) (Value.ref (‹s›+1)::(us++ds)):=.cons rfl (r.append hd);let hl:(Value.ref (‹s›+1)::us++ds).length=ps.length:=by
  let e:=r2.length;rw[F.len _ _ _ _ hq]at e;exact e.symm
 apply wpAny_call (Dg (f:=f) I.kIn M.makes M.init (beq_iff_eq.mp M.fn) (wP0 (F.run _ X.stack _ _ %[Value.ref (‹s›+1)::us|[]] (Value.ref (‹s›+1)::(us++ds)) _ _ E (hr.make C us [])
  (I2.env0.make C us []) (hb _ (Value.ref (‹s›+1)::us) I2.kIn hl) r2 hq) λr s' hq'=>?_))
 cases r with
 |error e=>exact hx Mp σ _ _ e s' I2 hq'
 |ok fl=>
   cases fl with
   |ret u=>
     let%[v,H',I3,rv,ev|q3]:=I2.after hq';subst ev;erw[rv,%[V.ref (‹s›+1),H',I3,1|q3]]
   |next=>exact False.elim hq'
   |brk=>exact False.elim hq'
   |cont=>exact False.elim hq'
def ib(M:Mk X.K C f)(F:FnOk X.prog X.w X.K X.mg X.base CX k f fd ps sp)(hr:Room (k+1) X.A)(hg:Gl X x)(hm:X.mg x=some (.ref C))(hb:Binds X.K fd ps ds)(hd:Vals dvs ds)(hx:mr CX X E)
 (ha:PA X (e::es) t)(hdb:(x==("__debug__":Str))=false:=by decide)(he:starEach (e::es) X.env=(false,eval e X.env)::starEach es X.env:=by rfl)(hpl:(backTo pos (starEach es X.env)).any (·.1)=false:=by rfl):
 PE X (.Call (.Name x p) (e::es) [] pos) (tMake C sp dvs E t):=by
 exists 4,Q,I,h;apply qX0 (uV I hg hm ?_ hdb);apply wC0 (h₀:=X.base) I.ok.mod.kin M.kp (thn (ha pos Mp s σ H _ I h) λus s1 ⟨vs,H1,I1,r,q⟩=>%[I1.kIn|6]) he hpl;exact BP M F hr hb hd hx I1 r q
end
structure FnScope(N P:List Str)(sc:Scope):Prop where
 kind:sc.kind=.function
 co:sc.isCoroutine=false
 gen:sc.isGenerator=false
 nd:N.Nodup
 pre:N.take P.length=P
 par:∀x∈P,sc.names.lookup x=some .local∨sc.names.lookup x=some .cell
 nofree:∀y∈sc.names,y.2≠.free
def tH{kindOf:Str->Option NameKind}{x:Str}:∀{binds:List (Str×Value)}{m:#[9]},(∀v,(x,v)∉binds)->bindL kindOf binds m x=m x
 | [],_,_=>rfl
 | (n,v)::r,m,h=>by
   unfold bindL;rw[tH λw hw=>h w (qK0 _ hw)]
   split
   . have:x≠n:=by rintro rfl;exact h v qB0
     simp [this]
   . rfl
def tJ{kindOf:Str->Option NameKind}{x:Str}:∀{binds:List (Str×Value)}{m:#[9]},(∀v,(x,v)∉binds)->bindC kindOf binds m x=m x
 | [],_,_=>rfl
 | (n,v)::r,m,h=>by
   unfold bindC;rw[tJ λw hw=>h w (qK0 _ hw)]
   split
   . rfl
   . have:x≠n:=by rintro rfl;exact h v qB0
     simp [this]
def tI{kindOf:Str->Option NameKind}{x:Str}{v:Value}:∀{P:List Str}{vs:List Value}{i:Nat}{m:#[9]},P.Nodup->P[i]?=some x->vs[i]?=some v->kindOf x=some .local ->
 bindL kindOf (P.zip vs) m x=some v
 | [],_,_,_,_,h,_,_=>by simp at h
 |_::_,[],_,_,_,_,h,_=>by simp at h
 |p::P,w::vs,0,m,nd,h1,h2,hk=>by
   simp at h1 h2;subst h1;subst h2
   show bindL kindOf ((p,w)::P.zip vs) m p=_;unfold bindL;rw[tH λv hv=>(List.nodup_cons.mp nd).1 (List.of_mem_zip hv).1,Mt hk]
   simp
 |p::P,w::vs,i+1,m,nd,h1,h2,hk=>by
   show bindL kindOf ((p,w)::P.zip vs) m x=_;unfold bindL;exact tI (i:=i) (List.nodup_cons.mp nd).2 #[h1,0] #[h2,0] hk
def tK{kindOf:Str->Option NameKind}{x:Str}{v:Value}:∀{P:List Str}{vs:List Value}{i:Nat}{m:#[9]},P.Nodup->P[i]?=some x->vs[i]?=some v->kindOf x≠some .local ->
 bindC kindOf (P.zip vs) m x=some v
 | [],_,_,_,_,h,_,_=>by simp at h
 |_::_,[],_,_,_,_,h,_=>by simp at h
 |p::P,w::vs,0,m,nd,h1,h2,hk=>by
   simp at h1 h2;subst h1;subst h2
   show bindC kindOf ((p,w)::P.zip vs) m p=_;unfold bindC;rw[tJ λv hv=>(List.nodup_cons.mp nd).1 (List.of_mem_zip hv).1,Mq hk]
   simp
 |p::P,w::vs,i+1,m,nd,h1,h2,hk=>by
   show bindC kindOf ((p,w)::P.zip vs) m x=_;unfold bindC;exact tK (i:=i) (List.nodup_cons.mp nd).2 #[h1,0] #[h2,0] hk
def oZ(N:List Str)(vs:List V):St:=vs.map some++List.replicate (N.length-vs.length) none
def AR(CX:CXT)(P:Program)(w:World)(K:W.Frag)(mg:#[9])(base:Heap)(N:List Str)(qual:Str)(scope:Scope)(f:Addr)(cd:Value)(A:Around)(outer:List Env)(s:Shared)(H:Hp)(E:XK):Cx where
 prog:=P
 w:=w
 K:=K
 mg:=mg
 base:=base
 A:=A.deeper (envOfC qual scope ‹s› f cd)
 N:=N
 s₀:=s
 H₀:=H
 env:=envOfC qual scope ‹s› f cd
 outer:=outer
 stack:=envOfC qual scope ‹s› f cd::outer
 ex:=[]
 calm:=true
 fn:=λ_=>true
 pn:=[]
 xe:=λe s'=>wpAny (model P w) (A.deeper (envOfC qual scope ‹s› f cd)) (leaving (envOfC qual scope ‹s› f cd) e) (λ_ s''=>CX outer H s E e s'') (λe' s''=>CX outer H s E e' s'') s'
def wL{sc:Scope}{n:Nat}{x:Str}(h:sc.names.lookup x=some .cell):∃c,(cellsFrom n sc.names []).lookup x=some c:=by
 let q:=PySem.W.cellsFrom_some sc.names n [] (.inl h);exact Option.isSome_iff_exists.mp q
def AC{K:W.Frag}{qual:Str}{f:Addr}{cd:Value}{A:Around}{s1:Shared}{vs:List V}
 (S:FnScope N ps scope)(hd:A.handled=none)(e0:Env0 P w K mg base A outer s H)(hl:vs.length=ps.length)(r:Vals vs us)
 (x:InCallC s ‹s› (bindL (envOfC qual scope ‹s› f cd).kindOf (ps.zip us) λ_=>none) (cellsFrom (‹s›+1) scope.names []) (bindC (envOfC qual scope ‹s› f cd).kindOf (ps.zip us) λ_=>none) s1):
 Inv (AR CX P w K mg base N qual scope f cd A outer s H E) [] (oZ N vs) H s1:=by
 let hpl:ps.length<=N.length:=by have:=congrArg List.length S.pre;rw[qE0]at this;omega
 erw[h1,tk,1,hk]at x.done;let noA:∀b:Addr,b∉(AR CX P w K mg base N qual scope f cd A outer s H E).ex:=λb z=>absurd (show b∈([]:List Addr)from z) #[2]
 erw[%[e0.mod,S.kind,1,1,zH0 _,λy z c h1 h2=>?_,λy hy=>?_,λy c _ h=>?_,λ_=>hd,Around.frames_deeper e0.frames,.inr %[1|1],λb z=>absurd z (noA b),e0.bs,e0.bsz,λb _ _=>noA b,λb z=>absurd z (noA b),e0.funs|e0.frf],1,e0.bare,Un.kept hk,%[_,x.toInCall.ns|λi y v h1 h2 h3=>?_],λy c h=>%[_|x.cell y c h],e0.hok.fresh (zH0 _),λy c h=>?_,λp hp=>absurd (show p∈([]:#[7])from hp) #[2],e0.hok.kept hk,6]
 . exact name_of_addr x.apart (qI1 h1) (qI1 h2)
 . let hy:scope.names.lookup y=some .cell∨scope.names.lookup y=some .free:=hy;rcases hy with hy | hy
   . exact wL hy
   . exact absurd rfl (S.nofree _ (qI1 hy))
 . exact wB1 (x.above y c (qI1 h))
 . let hi:i<vs.length:=by
    unfold oZ at h2
    by_cases hi:i<vs.length
    . exact hi
    . rw [zN1 #[hi,0]]at h2;rw[List.getElem?_replicate]at h2
      split at h2 <;> cases h2
   let ha:vs[i]?=some v:=by
    unfold oZ at h2;rw[zP1 #[hi,0],zZ0]at h2;cases e:vs[i]? with
    |none=>rw[e]at h2;cases h2
    |some a=>rw[e]at h2;cases h2;rfl
   let%[u,hu|rv]:=r.get ha;let hp:ps[i]?=some y:=by
    rw[←S.pre,List.getElem?_take_of_lt #[0]];exact h1
   let ndP:ps.Nodup:=by rw[←S.pre];exact S.nd.sublist (List.take_sublist _ _)
   erw[u,rv,6];rcases S.par y (qI0 hp)with k | k
   . exact .inl %[k|tI ndP hp hu k]
   . let%[c|e]:=wL (n:=‹s›+1) k;refine .inr %[.inl k,c,e|6];let q:=x.cell y c e;rw[tK ndP hp hu (by show scope.names.lookup y≠_;rw[k];decide)]at q;exact q
 . exact e0.hok.fresh (wB1 (x.above y c (qI1 h)))
 . unfold oZ;show _=N.length;rw[zK0,zF0,zT1];omega
def fn_of{K:W.Frag}{f:Addr}{name qual:Str}{params:Arguments}{body:List Stmt}{scope:Scope}{dV kV doc pm cdv ct oc:Value}{an od:Option Addr}
 {osl:Array (Option Value)}{sp:Sp}(lk:K.lookup f=some %[oc,od,.func (PySem.W.fnOf name qual params body scope dV kV doc pm an cdv ct)|osl])(hcd:PySem.W.codeIn K cdv qual=true)(S:FnScope N ps scope)
 (len:∀vs H Q E,sp vs H Q E->vs.length=ps.length)
 (hbody:∀(A:Around)(outer:List Env)(s:Shared)(H:Hp)(vs:List V)(Q:VK)(E:XK),Room k (A.deeper (envOfC qual scope ‹s› f cdv))->sp vs H Q E ->
  ∃t,PSs (AR CX P w K mg base N qual scope f cdv A outer s H E) body t/\t { nx:=λ_ H'=>Q .non H',rt:=Q } (oZ N vs) H) :
 FnOk P w K mg base CX (k+1) f (PySem.W.fnOf name qual params body scope dV kV doc pm an cdv ct) ps sp:=by
 erw[len,λA outer s H args us vs Q E hr e0 hb r hsp=>?_];let hl:=len _ _ _ _ hsp;let KX:K.In s.heap:=e0.mod.kin.keeps λb o e=>(e0.bs b o e).1
 let lim:s.heap.NoLimit:=e0.mod.nolimit.keeps λb o e=>(e0.bs b o e).1
 let hkind:∀y∈ps.zip us,scope.names.lookup y.1=some .local∨(scope.names.lookup y.1=some .cell/\((cellsFrom (‹s›+1) scope.names []).lookup y.1).isSome=true):=fun⟨n,v⟩ hy=>by
  rcases S.par n (List.of_mem_zip hy).1 with q | q
  . exact .inl q
  . exact .inr %[q|PySem.W.cellsFrom_some _ _ _ (.inl q)]
 apply codeAny_call_function hr.depth (KX _ _ lk) rfl S.co S.gen rfl (PySem.W.codeRec_of KX hcd) (hb _ _ _ _ ?_);apply wpAny_newFunctionEnv_cells S.kind hkind λenv he s1 x=>?_
 subst he;erw[lim.keeps x.toInCall.keep,codeAny_func ?_];let%[t,ht|hq]:=hbody A outer s H vs Q E (hr.deeper _) hsp;let I:Inv (AR CX P w K mg base N qual scope f cdv A outer s H E) [] (oZ N vs) H s1:=AC S hr.hd e0 hl r x;apply jH0 (ht [] s1 (oZ N vs) H _ I hq) (λfl s' hs=>?_) λe s' hs=>hs
 let fin:∀{σ':St}{H':Hp}{v:V}{u:Value},Inv (AR CX P w K mg base N qual scope f cdv A outer s H E) [] σ' H' s'->RelV v u->Q v H'->CE outer P w H s Q u s':=
  fun{σ' H' v u} J rv q=>%[v,H',J.os,J.bare,J.base,J.hok,rv|q]
 cases fl with
 |ret u=>
   erw[v,σ',H',J,rv,q]at hs;exact fin J rv q
 |next=>
   erw[σ',H',J,q]at hs;exact fin (v:=V.non) (u:=Value.none) J rfl q
 |brk=>
   erw[_,_,_,q]at hs;exact False.elim q
 |cont=>
   erw[_,_,_,q]at hs;exact False.elim q
section
variable {X:Cx}{x:Str}{p pos:Pos}{e:Expr}{es:List Expr}{t:TA}{id T:String}{r:List V->Hp->VK->Prop}
def tCB(r:List V->Hp->VK->Prop)(t:TA):TE:=λσ H Q=>t σ H λvs H1=>r vs H1 Q
def aE(hc:gP X (.builtin id) r)(hg:Gl X x)(hm:X.mg x=none)(hv:bootBuiltins x=some (.builtin id))(ha:PA X (e::es) t)(hn:x≠"__name__":=by decide)(hdb:(x==("__debug__":Str))=false:=by decide)
 (he:starEach (e::es) X.env=(false,eval e X.env)::starEach es X.env:=by rfl)(hpl:(backTo pos (starEach es X.env)).any (·.1)=false:=by rfl):PE X (.Call (.Name x p) (e::es) [] pos) (tCB r t):=by
 exists 4,Q,I,h;apply qX0 (ji I hg hm hv ?_ hn hdb);exact PyProof.Rows.callWith_builtin1 (thn (ha pos Mp s σ H _ I h) λus s1 ⟨vs,H1,I1,r1,q1⟩=>hc Mp s1 σ H1 vs us Q I1 r1 q1) he hpl
def aW(hc:gP X (.type T) r)(hg:Gl X x)(hm:X.mg x=none)(hv:bootBuiltins x=some (.type T))(ha:PA X (e::es) t)(hn:x≠"__name__":=by decide)(hdb:(x==("__debug__":Str))=false:=by decide)
 (he:starEach (e::es) X.env=(false,eval e X.env)::starEach es X.env:=by rfl)(hpl:(backTo pos (starEach es X.env)).any (·.1)=false:=by rfl):PE X (.Call (.Name x p) (e::es) [] pos) (tCB r t):=by
 exists 4,Q,I,h;apply qX0 (ji I hg hm hv ?_ hn hdb);exact zS1 (thn (ha pos Mp s σ H _ I h) λus s1 ⟨vs,H1,I1,r1,q1⟩=>hc Mp s1 σ H1 vs us Q I1 r1 q1) he hpl
end
end L2
namespace HT
open PySem PyProof.Rows
section
variable {prog:Program}{w:World}{A:Around}{E:#[6]}{s:Shared}
def cat_tup{t b:Addr}{vs ws:List Value}{Q:#[6]}(ht:IsTup s.heap t vs.toArray)(hb:IsTup s.heap b ws.toArray)(hv:vs≠[])
 (h1:ws=[]->Q (.ref t) s)(h2:ws≠[]->Q (.ref ‹s›) { s with heap:=s.heap.push { cls:=.type "tuple",data:=.seq (vs++ws).toArray } })
 (hsz:vs.length+ws.length<=sizeLine):‹w.A› (binaryOp .Add (.ref t) (.ref b)) Q E s:=by
 let%[%[cls,dd,data|sl],ho,hc,n|hd]:=id ht;let%[%[cls2,dd2,data2|sl2],ho2,hc2,n2|hd2]:=id hb;simp only at hc hd hc2 hd2;subst hc hd hc2 hd2;let e:vs.toArray++ws.toArray=(vs++ws).toArray:=by simp
 by_cases hw:ws=[]
 . exact concat_meets %[_,ho|1] ⟨_,ho2,rfl⟩ wL1 seq_tuple_add jN0 jK0 (jH1 _ _)
    (tuple_addW1 t b vs.toArray ws.toArray n n2 dd dd2 sl sl2 #[hv,0] (by simp [hw])) %[ho,ho2|h1 hw]
 . apply concat_meets %[_,ho|1] ⟨_,ho2,rfl⟩ wL1 seq_tuple_add jN0 jK0 (jH1 _ _)
    (tuple_addW2 t b vs.toArray ws.toArray n n2 dd dd2 sl sl2 #[hv,0] #[hw,0] (by rw[zP0,zP0];exact hsz)) %[ho,ho2|6]
   rw[e];exact h2 hw
def sIx(n d:Nat):Option Int->Nat
 |none=>d
 |some v=>if v<0 then(v+(n:Int)).toNat else min v.toNat n
def sIx_none(n d:Nat):sIx n d none=d:=rfl
def sIx_nat(n d k:Nat):sIx n d (some (k:Int))=min k n:=by
 show(if(k:Int)<0 then((k:Int)+(n:Int)).toNat else min (k:Int).toNat n)=min k n;rw[Mq #[0],qP0]
def Gw(n d:Nat)(hd:d<=n)(o:Option Int):sIx n d o<=n:=by
 cases o with
 |none=>exact hd
 |some v=>
   show(if v<0 then(v+(n:Int)).toNat else min v.toNat n)<=n
   by_cases hv:v<0
   . rw[Mt hv];omega
   . rw[Mq hv];exact Nat.min_le_right _ _
def zq(v:Int)(n d:Nat):(if v<0 then max (v+(n:Int)) 0 else min v (n:Int))=((sIx n d (some v):Nat):Int):=by
 show(if v<0 then max (v+(n:Int)) 0 else min v (n:Int))=(((if v<0 then(v+(n:Int)).toNat else min v.toNat n):Nat):Int)
 by_cases hv:v<0
 . simp only[Mt hv];omega
 . simp only[Mq hv];omega
def yI(lo hi:Option Int)(n:Nat):Builtin.Slice.sliceAdjust lo hi 1 (n:Int)=(((sIx n 0 lo:Nat):Int),((sIx n n hi:Nat):Int)):=by
 let h1:¬ ((1:Int)<0):=#[0]
 unfold Builtin.Slice.sliceAdjust;simp only[h1,if_false];apply Prod.ext ?_ ?_
 . cases lo with
   |none=>rfl
   |some v=>exact zq v n 0
 . cases hi with
   |none=>rfl
   |some v=>exact zq v n n
def xK(i j:Nat):Builtin.Slice.slicePlaces (i:Int) (j:Int) 1=j-i:=by
 unfold Builtin.Slice.slicePlaces;let h1:(1:Int)>0:=#[0]
 simp only[h1,if_true,Int.ediv_one]
 split <;> omega
def qy{v:Value}{o:Option Int}{Q:Option Int->Shared->Prop}(p:IsPart v o)(h:Q o s):‹w.A› (Builtin.Slice.slicePartIndex v) Q E s:=by
 cases p with
 |none=>exact slicePart_none h
 |int i t=>exact slicePart_int h
def jp{sl:Addr}{vl vu:Value}{lo hi:Option Int}{Q:Int×Int×Nat->Shared->Prop}(hs:s.heap.IsSliceOf sl vl vu .none)(pl:IsPart vl lo)(pu:IsPart vu hi)
 (h:Q (((sIx n 0 lo:Nat):Int),1,sIx n n hi-sIx n 0 lo) s):‹w.A› (Builtin.Slice.sliceApplied (.ref sl) (pure (n:Int))) Q E s:=by
 let%[os,hos,hcs|hds]:=id hs;unfold Builtin.Slice.sliceApplied Builtin.Slice.sliceFields;apply zE0 (zE0 (qL1 hos hds (x:=vl) rfl (zE0 (qL1 hos hds (x:=vu) rfl (zE0 (qL1 hos hds (x:=.none) rfl (zJ0 ?_)))))));apply zE0 (slicePart_none ?_);show wpAny _ _ (if((1:Int)==0)=true then _ else _) _ _ s;rw[Mq ⋯];apply zE0 (qy pl (zE0 (qy pu (zE0 (zJ0 ?_)))));show wpAny _ _ (match Builtin.Slice.sliceAdjust lo hi 1 (n:Int)with | (lo,hi)=>pure (lo,(1:Int),Builtin.Slice.slicePlaces lo hi 1)) _ _ s;rw[yI lo hi n];show wpAny _ _ (pure (((sIx n 0 lo:Nat):Int),(1:Int),Builtin.Slice.slicePlaces ((sIx n 0 lo:Nat):Int) ((sIx n n hi:Nat):Int) 1)) _ _ s;rw[xK];exact zJ0 h
def Cc(xs:Array Value)(i k:Nat):((List.range k).filterMap fun(m:Nat)=>xs[((i:Int)+(m:Int)*1).toNat]?).toArray=((xs.toList.drop i).take k).toArray:=by
 let e:(fun(m:Nat)=>xs[((i:Int)+(m:Int)*1).toNat]?)=λm=>xs[i+m]?:=by
  funext m
  have:((i:Int)+(m:Int)*1).toNat=i+m:=#[0]
  rw[this]
 rw[e]
 have:=pick_run xs i k
 rw[List.filterMap_map]at this;let e2:((λx=>xs[x]?) ∘ λx=>i+x)=λm=>xs[i+m]?:=rfl
 rw[e2]at this;rw[this]
def getItem_tuple_cut{t sl:Addr}{items:Array Value}{vl vu:Value}{lo hi:Option Int}{Q:#[6]}(ht:IsTup s.heap t items)(hs:s.heap.IsSliceOf sl vl vu .none)(pl:IsPart vl lo)(pu:IsPart vu hi)
 (hw:¬ (sIx items.size 0 lo=0/\sIx items.size items.size hi=items.size))
 (h:Q (.ref ‹s›) { s with heap:=s.heap.push { cls:=.type "tuple",data:=.seq ((items.toList.drop (sIx items.size 0 lo)).take (sIx items.size items.size hi-sIx items.size 0 lo)).toArray } })
 (hsz:items.size<=sizeLine):‹w.A› (getItem (.ref t) (.ref sl)) Q E s:=by
 let htake:sizeOk (.seq ((items.toList.drop (sIx items.size 0 lo)).take (sIx items.size items.size hi-sIx items.size 0 lo)).toArray):=by
  show((items.toList.drop (sIx items.size 0 lo)).take (sIx items.size items.size hi-sIx items.size 0 lo)).toArray.size<=sizeLine;rw[zP0,qE0,jG1,zU1];omega
 let hj:sIx items.size items.size hi<=items.size:=Gw _ _ (zH0 _) hi;let%[os,hos,hcs|hds]:=id hs;let hTs:s.TypeIs (.ref sl) "slice":=%[os,hos|hcs]
 unfold getItem
 try with_reducible apply jF1 ?_
 first | apply zE0 (zJ0 ?_) | skip
 apply zE0 (wpAny_sequenceKey ht.typeIs ⋯ ?_);apply zE0 (qB1 (name:=Str.ofString "__getitem__") ht.typeIs qJ1
  (qM1 qJ1 ht.typeIs entry_tuple_getitem ?_ (args_tuple_getitem _ _)))
 show wpAny _ _ (Builtin.Tuple.tupleItemsOf (.ref t) >>= _) _ _ s;apply zE0 (tupleItemsOf_ ht ?_);apply zE0 (wpAny_typeOf hTs ?_);rw[Mt ⋯];apply zE0 (jp hs pl pu ?_);let hno:¬ ((((sIx items.size 0 lo:Nat):Int)==0&&(1:Int)==1&&(sIx items.size items.size hi-sIx items.size 0 lo)==items.size)=true):=by
  intro q;rw[qN1,qN1]at q;let q1:((sIx items.size 0 lo:Nat):Int)=0:=eq_of_beq q.1.1;let q2:sIx items.size items.size hi-sIx items.size 0 lo=items.size:=eq_of_beq q.2;exact hw %[3|3]
 show wpAny _ _ (if(((sIx items.size 0 lo:Nat):Int)==0&&(1:Int)==1&&(sIx items.size items.size hi-sIx items.size 0 lo)==items.size)=true then _ else _) _ _ s;rw[Mq hno,Cc]
 first
  |exact zE0 (m:=Builtin.Tuple.tupleExact _) (zW1 (zJ0 ⟨_,rfl,zJ0 h⟩) htake)
  |exact zE0 (m:=Builtin.Tuple.tupleExact _) (zW1 (zE0 (zJ0 (zJ0 ⟨_,rfl,zJ0 h⟩))) htake)
  |exact zE0 (zE0 (m:=Builtin.Tuple.tupleExact _) (zW1 (zJ0 (zJ0 ⟨_,rfl,zJ0 h⟩)) htake))
  |exact zE0 (zE0 (m:=Builtin.Tuple.tupleExact _) (zW1 (zJ0 ⟨_,rfl,zJ0 h⟩) htake))
end
end HT
namespace L2
open PySem PySem.Spec PyProof.Rows
abbrev TO:=St->Hp->(Option Int->Hp->Prop)->Prop
def PO(X:Cx)(e:Option Expr)(t:TO):Prop:=
 ∀(Mp:#[7])(s:Shared)(σ:St)(H:Hp)(Q:Option Int->Hp->Prop),#[8] H s->t σ H Q ->
  ‹X.w› (evalPart e X.env) (λu s'=>∃o H',#[8] H' s'/\IsPart u o/\Q o H') X.xe s
def Ew:TO:=λ_ H Q=>Q none H
instance ZtPart(Q:(Option Int->Hp->Prop))(x:V)(H1:Hp):∀i,x=.int i->Q (some i) H1:=0
def tPart(t:TE):TO:=λσ H Q=>t σ H λx H1=>ZtPart Q x H1
section
variable {X:Cx}{e:Expr}{te:TE}{lo hi:Option Expr}{tl th:TO}{pos p2:Pos}
def gG:PO X none Ew:=by
 exists 4,Q,I,h;rw[evalPart_none];exact zJ0 %[none,H,I,.none|h]
def dQ(h:PE X e te):PO X (some e) (tPart te):=by
 exists 4,Q,I,hw;rw[evalPart_some];apply thn (h Mp s σ H _ I hw) λu s1 ⟨x,H1,I1,r1,q1⟩=>?_
 erw[i,1,q]at q1;erw[t,1]at r1;erw[some i,H1,I1,.int i t,q]
def SlR(X:Cx)(r:V->Option Int->Option Int->Hp->VK->Prop):Prop:=
 ∀(Mp:#[7])(s:Shared)(σ:St)(H:Hp)(x:V)(v vl vu:Value)(lo hi:Option Int)(sl:Addr)(Q:VK),#[8] H s->RelV x v->s.heap.IsSliceOf sl vl vu .none->IsPart vl lo->IsPart vu hi->r x lo hi H Q ->
  ∃T id,typeLookup (.type T) "__getitem__"=pure (some (.builtin id))/\s.TypeIs v T/\‹X.w› (getItem v (.ref sl)) (EP X Mp σ Q) X.xe s
def tSl(r:V->Option Int->Option Int->Hp->VK->Prop)(te:TE)(tl th:TO):TE:=λσ H Q=>te σ H λx H1=>tl σ H1 λl H2=>th σ H2 λu H3=>r x l u H3 Q
def dL(hr:SlR X r)(he:PE X e te)(hl:PO X lo tl)(hu:PO X hi th):PE X (.Subscript e (.Slice lo hi none p2) pos) (tSl r te tl th):=by
 exists 4,Q,I,h;apply Subscript_ (thn (he Mp s σ H _ I h) λv s1 ⟨x,H1,I1,r1,q1⟩=>?_);apply wpAny_Slice (thn (hl Mp s1 σ H1 _ I1 q1) λvl s2 ⟨l,H2,I2,pl,q2⟩=>thn (hu Mp s2 σ H2 _ I2 q2) λvu s3 ⟨u,H3,I3,pu,q3⟩=>?_);rw[evalPart_none];apply zJ0 ?_;let I4:#[8] H3 { s3 with heap:=s3.heap.push { cls:=.type "slice",data:=.fields #[vl,vu,.none] } }:=I3.kept (t':=s3.toks) λb ob q=>zU0 _ q
 let%[T,id,hT,ht|hg]:=hr Mp { s3 with heap:=s3.heap.push { cls:=.type "slice",data:=.fields #[vl,vu,.none] } } σ H3 x v vl vu l u ‹s3› Q I4 r1 (Heap.IsSliceOf.new ..) pl pu q3;show ‹X.w› (subscriptTail e (.Slice lo hi none p2) v (.ref ‹s3›)) (EP X Mp σ Q) X.xe { s3 with heap:=s3.heap.push { cls:=.type "slice",data:=.fields #[vl,vu,.none] } };exact tail_any (ops:=[.ref ‹s3›,v]) ht hT hg (by rfl')
def iM(xs:List V)(lo hi:Option Int):List V:=(xs.drop (HT.sIx xs.length 0 lo)).take (HT.sIx xs.length xs.length hi-HT.sIx xs.length 0 lo)
def pH(xs:List V)(lo hi:Option Int):(iM xs lo hi).length<=xs.length:=by
 unfold iM;rw[qE0,jG1];omega
instance rSlT(K:W.Frag)(x:V)(lo:Option Int)(hi:Option Int)(H:Hp)(Q:VK):∀a xs,x=.ref a->SqT K H a xs->(¬ (HT.sIx xs.length 0 lo=0/\HT.sIx xs.length xs.length hi=xs.length))->(∀p,H p=none->Q (.ref p) (upd H p (.tup (iM xs lo hi)))):=0
def tR:SlR X (rSlT X.K):=by
 exists 4,x,v,vl,vu,lo,hi,sl,Q,I,rx,hs,pl,pu,h;erw[a,xs,1,hx,hw,q]at h;cases rx;let%[its,r,ht|hz]:=I.tuple hx;let hlen:its.toArray.size=xs.length:=by rw[zP0];exact r.length.symm
 erw["tuple",_,PyProof.Rows.slot_tuple_getitem.lookup,ht.typeIs,6];apply HT.getItem_tuple_cut ht hs pl pu (by rw[hlen];exact hw) ?_ (by rw[hlen];exact hz);rw[hlen];erw[.ref ‹s›,_,I.laid (t':=s.toks) (o:=.tup (iM xs lo hi)) (λb ob q=>zU0 _ q) (zH0 _) ?_,1,q _ (I.hok.fresh (zH0 _))];erw[zN0 (pH xs lo hi) hz,_,(r.drop (HT.sIx xs.length 0 lo)).take (HT.sIx xs.length xs.length hi-HT.sIx xs.length 0 lo),IsTup.new _ _,_,qC0 _ rfl,1]
instance rCatT(K:W.Frag)(x:V)(y:V)(H:Hp)(Q:VK):∀a b xs ys,x=.ref a->y=.ref b->SqT K H a xs->SqT K H b ys->xs≠[]->xs.length+ys.length<=sizeLine->(ys=[]->Q (.ref a) H)->(ys≠[]->∀p,H p=none->Q (.ref p) (upd H p (.tup (xs++ys)))):=0
def Vals.nil_iff(r:Vals xs us):us=[]↔xs=[]:=by
 cases r with
 |nil=>simp
 |cons _ _=>simp
def op_catT:OpR X (binaryOp .Add) (rCatT X.K):=by
 exists 4,x,y,v,u,Q,I,rx,ry,h;erw[a,b,xs,ys,1,1,ha,hb,hx,hz,q1,q2]at h;cases rx;cases ry;let%[its,r1,p1|_]:=I.tuple ha;let%[its2,r2,p2|_]:=I.tuple hb;apply HT.cat_tup p1 p2 (λz=>hx (r1.nil_iff.mp z)) (λz=>%[.ref a,H,I,1|q1 (r2.nil_iff.mp z)]) (λz=>?_) (by rw[←r1.length,←r2.length];exact hz);erw[.ref ‹s›,_,I.laid (t':=s.toks) (o:=.tup (xs++ys)) (λb ob q=>zU0 _ q) (zH0 _) ?_,1,q2 (λw=>z (r2.nil_iff.mpr w)) _ (I.hok.fresh (zH0 _))];erw[by rw[zK0];exact hz,_,r1.append r2,IsTup.new _ _,_,qC0 _ rfl,1]
end
def ixN(n:Nat)(i:Int):Option Nat:=if 0<=i then(if i<n then some i.toNat else none)else if -(n:Int)<=i then some (i+n).toNat else none
def atI{α:Type}(xs:List α)(i:Int):Option α:=(ixN xs.length i).bind λj=>xs[j]?
def uY{j:Nat}(h:ixN n i=some j):seqIndex? i n=some j/\j<n/\-(n:Int)<=i/\i<n:=by
 unfold ixN at h
 by_cases h0:0<=i
 . rw [Mt h0]at h
   by_cases h1:i<n
   . rw[Mt h1]at h;let e:i.toNat=j:=zV0 h;erw[by rw[seqIndex_of h0 h1,e],3,3,h1]
   . rw[Mq h1]at h;cases h
 . rw [Mq h0]at h
   by_cases h1:-(n:Int)<=i
   . rw[Mt h1]at h;let e:(i+n).toNat=j:=zV0 h;erw[by rw[seqIndex_neg #[0] h1,e],3,h1,3]
   . rw[Mq h1]at h;cases h
def vk{α:Type}{xs:List α}{v:α}(h:atI xs i=some v):∃j,seqIndex? i xs.length=some j/\xs[j]?=some v/\j<xs.length/\-(xs.length:Int)<=i/\i<xs.length:=by
 unfold atI at h;cases e:ixN xs.length i with
 |none=>rw[e]at h;cases h
 |some j=>
   rw[e]at h;let%[h1,h2,h3|h4]:=uY e;erw[j,h1,h,h2,h3,h4]
def cK{α:Type}{xs:List α}{j:Nat}{v:α}(h:xs[j]?=some v):atI xs (j:Int)=some v:=by
 let hj:j<xs.length:=(zW0 h).1;let e:ixN xs.length (j:Int)=some j:=by
  unfold ixN;rw[Mt #[0],Mt #[0]];simp
 unfold atI;rw[e];exact h
def wR{α:Type}(xs:List α)(v:α):atI (xs++[v]) (-1)=some v:=by
 let hl:(xs++[v]).length=xs.length+1:=by simp
 let e:ixN (xs++[v]).length (-1)=some xs.length:=by
  unfold ixN;rw[hl,Mq ⋯,Mt #[0]]
  congr 1
  omega
 unfold atI;rw[e];show(xs++[v])[xs.length]?=some v
 simp
def FB(b:Expr):Prop:=∀o i,subscripted b false o i=operate [o,i] (getItem o i)
def IxR(X:Cx)(r:R2):Prop:=
 ∀(value slice:Expr)(Mp:#[7])(s:Shared)(σ:St)(H:Hp)(x y:V)(v u:Value)(Q:VK),#[8] H s->RelV x v->RelV y u->r x y H Q ->
  subscripted slice false v u=operate [v,u] (getItem v u)->‹X.w› (subscriptTail value slice v u) (EP X Mp σ Q) X.xe s
def MtR(X:Cx)(id:String)(r:V->List V->Hp->VK->Prop):Prop:=
 ∀(Mp:#[7])(s:Shared)(σ:St)(H:Hp)(x:V)(xs:List V)(v:Value)(us:List Value)(Q:VK),#[8] H s->RelV x v->Vals xs us->r x xs H Q ->
  ‹X.w› (call (.builtin id) (v::us)) (EP X Mp σ Q) X.xe s
section
variable {X:Cx}{a b:Expr}{ta tb:TE}{pos:Pos}
def IxR.or(h:IxR X r)(h':IxR X r'):IxR X (λx y H Q=>r x y H Q∨r' x y H Q):=by
 intro value slice Mp s σ H x y v u Q I rx ry q hs;rcases q with q | q
 . exact h value slice Mp s σ H x y v u Q I rx ry q hs
 . exact h' value slice Mp s σ H x y v u Q I rx ry q hs
def aI(hr:IxR X r)(ha:PE X a ta)(hb:PE X b tb)(hs:FB b):PE X (.Subscript a b pos) (tOp r ta tb):=by
 exists 4,Q,I,h;exact Subscript_ (HN ha hb I h λv u s2 x y H2 I2 rx ry q=>hr a b Mp s2 σ H2 x y v u Q I2 rx ry q (hs _ _))
instance rIxL(K:W.Frag)(x:V)(y:V)(H:Hp)(Q:VK):∀p xs i v,x=.ref p->y=.int i->SqL K H p xs->atI xs i=some v->Q v H:=0
instance rIxT(K:W.Frag)(x:V)(y:V)(H:Hp)(Q:VK):∀p xs i v,x=.ref p->y=.int i->SqT K H p xs->atI xs i=some v->Q v H:=0
instance rIxS(x:V)(y:V)(H:Hp)(Q:VK):∀z i c,x=.str z->y=.int i->z.length<=sizeLine->atI z.cps.toList i=some c->Q (.str ⟨#[c]⟩) H:=0
def ix_list:IxR X (rIxL X.K):=by
 intro value slice Mp s σ H x y v u Q I rx ry h hs;erw[p,xs,i,z,1,1,hq,he,q]at h;cases rx;erw[t,1]at ry;let%[its,r,pl|hz]:=I.list hq;let%[j,h1,h2,h3,h4|h5]:=vk he;let%[w,ew|rw']:=r.get h2;let hl:=r.length;let hn:=jV;let fin:EP X Mp σ Q w s:=%[z,H,I,rw'|q]
 by_cases h0:0<=i
 . let hj:i.toNat=j:=by
    rw[seqIndex_of h0 h5]at h1;exact zV0 h1
   exact item_listR pl.isList h0 #[0] (by rw[hj];simpa using ew) fin hs
 . let hj:(i+(its.toArray.size:Int)).toNat=j:=by
    rw[seqIndex_neg #[0] h4]at h1;rw[zP0,←hl];exact zV0 h1
   exact subscriptTail_builtinR (x:=w) pl.isList.typeIs slot_list_getitem.lookup
    (wpAny_getItem_list_neg (Q:=λr s'=>r=w/\EP X Mp σ Q r s') pl.isList #[0] (by rw[zP0] <;> omega) #[0] (by rw[hj];simpa using ew) %[1|fin]) hs
def aJ:IxR X (rIxT X.K):=by
 intro value slice Mp s σ H x y v u Q I rx ry h hs;erw[p,xs,i,z,1,1,hq,he,q]at h;cases rx;erw[t,1]at ry;let%[its,r,pl|hz]:=I.tuple hq;let%[j,h1,h2,h3,h4|h5]:=vk he;let%[w,ew|rw']:=r.get h2;let hl:=r.length;let hn:=jV;let fin:EP X Mp σ Q w s:=%[z,H,I,rw'|q]
 exact subscriptTail_builtinR (x:=w) pl.typeIs slot_tuple_getitem.lookup
  (getItem_tuple (j:=j) (Q:=λr s'=>r=w/\EP X Mp σ Q r s') pl #[0] #[0] (by rw[zP0,←hl];exact h1) #[ew,0] %[1|fin]) hs
def uX:IxR X rIxS:=by
 intro value slice Mp s σ H x y v u Q I rx ry h hs;erw[z,i,c,1,1,hz,he,q]at h;erw[t,1]at rx;erw[t',1]at ry;let%[j,h1,h2,h3,h4|h5]:=vk he;let hl:z.cps.toList.length=z.length:=by simp [Str.length]
 rw [hl]at h1 h4 h5;let hn:=jV;exact tail_any (jV1 s z t) slot_str_getitem.lookup (getItem_str (c:=c) (by
  let e1:decide (i < -(2 ^ 63:Int))=false:=zE1 #[0];let e2:decide (i≥2 ^ 63)=false:=zE1 #[0];rw[e1,e2,Bool.or_false]) (by rw[h1];simpa using h2) %[.str %[|#[c]],H,I.tok _,%[|0]|q]) hs
def yf(its:List Value)(n j:Nat)(u:Value):Obj.mapSeq (·.setIfInBounds j u) { cls:=.type "list",data:=.seq its.toArray n }={ cls:=.type "list",data:=.seq (its.set j u).toArray n }:=by
 simp [Obj.mapSeq]
def Inv.lst{Mp:#[7]}{σ:St}{H:Hp}{s:Shared}{p:Addr}{xs:List V}(I:#[8] H s)(h:H p=some (.lst xs)):
 ∃(its:List Value) (n:Nat),Vals xs its/\s.heap.get? p=some { cls:=.type "list",data:=.seq its.toArray n }/\xs.length<=sizeLine:=by
 let%[z,its,n,r|e]:=I.hok p _ h;erw[its,n,r,e,z]
def Inv.lstUpd{σ:St}{p:Addr}{xs:List V}{its its':List Value}{n n':Nat}{f:Obj->Obj}(I:#[8] H s)(h:H p=some (.lst xs))
 (ho:s.heap.get? p=some { cls:=.type "list",data:=.seq its.toArray n })(hf:f { cls:=.type "list",data:=.seq its.toArray n }={ cls:=.type "list",data:=.seq its'.toArray n' })(r:Vals ys its')(hz:ys.length<=sizeLine)(t:Nat):
 #[8] (upd H p (.lst ys)) { s with heap:=s.heap.update p f,toks:=t }:=by
 let e:(s.heap.update p f).get? p=some { cls:=.type "list",data:=.seq its'.toArray n' }:=by
  rw[Heap.get?_update_self f ho (by rw[hf] <;> rfl),hf]
 apply I.write (x:=p) (e:=p) (by rw[h];trivial) (.inl rfl) (λb u hb q=>(Heap.get?_update_other _ _ (Ne.symm hb)).trans q) %[_|e] ?_;erw[hz,its',n',r,e]
instance rSetL(o:V)(i:V)(v:V)(H:Hp)(Q:(Hp->Prop)):∀p xs k j,o=.ref p->i=.int k->H p=some (.lst xs)->ixN xs.length k=some j->Q (upd H p (.lst (xs.set j v))):=0
def qC:PSet X rSetL:=by
 exists 4,o,i,v,ov,iv,u,Q,I,ro,ri,rv,h;erw[p,xs,k,j,1,1,hp,hj,q]at h;cases ro;erw[t,1]at ri;let%[its,n,r,ho|hz]:=I.lst hp;let%[h1,h2,h3|h4]:=uY hj;let hl:=r.length;let hn:=jV;let I':#[8] (upd H p (.lst (xs.set j v))) { s with heap:=s.heap.update p (Obj.mapSeq (·.setIfInBounds j u)) }:=
  I.lstUpd hp ho (yf its n j u) (r.set rv j) (by rw[List.length_set];exact hz) s.toks
 by_cases h0:0<=k
 . let hk:k.toNat=j:=by
    rw[seqIndex_of h0 h4]at h1;exact zV0 h1
   exact PySem.W.ki_setAt ho h0 #[0] (by rw[zP0,←hl];exact h4) (by rw[hk];erw[_,I',q])
 . let hk:(k+(its.toArray.size:Int)).toNat=j:=by
    rw[seqIndex_neg #[0] h3]at h1;rw[zP0,←hl];exact zV0 h1
   exact PySem.W.ki_setBack ho #[0] (by rw[zP0,←hl];exact h3) #[0] (by rw[hk];erw[_,I',q])
def tQ(lo hi:Option Int)(n:Nat):(sliceBounds lo hi none n).1=((HT.sIx n 0 lo:Nat):Int)/\(sliceBounds lo hi none n).2.1=((HT.sIx n n hi:Nat):Int)/\(sliceBounds lo hi none n).2.2=1:=by
 erw[6,6,1]
 . cases lo with
   |none=>simp [sliceBounds,HT.sIx]
   |some i=>
     simp only[sliceBounds,HT.sIx,Option.getD_none,show(1:Int)>0 by decide,if_true]
     by_cases h:i<0
     . simp only[h,if_true] <;> omega
     . simp only[h,if_false] <;> omega
 . cases hi with
   |none=>simp [sliceBounds,HT.sIx]
   |some i=>
     simp only[sliceBounds,HT.sIx,Option.getD_none,show(1:Int)>0 by decide,if_true]
     by_cases h:i<0
     . simp only[h,if_true] <;> omega
     . simp only[h,if_false] <;> omega
def su(its:List Value)(lo hi:Option Int):slicePick its.toArray lo hi none=((its.drop (HT.sIx its.length 0 lo)).take (HT.sIx its.length its.length hi-HT.sIx its.length 0 lo)).toArray:=by
 let%[h1,h2|h3]:=tQ lo hi its.toArray.size;unfold slicePick;rw[h1,h2,h3];simp only[sliceRange_one,pick_run,zP0] <;> rfl
instance rSlL(K:W.Frag)(x:V)(lo:Option Int)(hi:Option Int)(H:Hp)(Q:VK):∀a xs,x=.ref a->SqL K H a xs->(∀p,H p=none->Q (.ref p) (upd H p (.lst (iM xs lo hi)))):=0
def yQ:SlR X (rSlL X.K):=by
 exists 4,x,v,vl,vu,lo,hi,sl,Q,I,rx,hs,pl,pu,h;erw[a,xs,1,hx,q]at h;cases rx;let%[its,r,ht|hz]:=I.list hx;let hlen:=r.length;erw["list",_,slot_list_getitem.lookup,ht.isList.typeIs,6];apply wpAny_getItem_list_slice ht.isList hs pl pu .none #[2] ?_ (by rw[zP0] <;> omega);rw[su,←hlen];erw[.ref ‹s›,_,I.laid (t':=s.toks) (o:=.lst (iM xs lo hi)) (λb ob q=>zU0 _ q) (zH0 _) ?_,1,q _ (I.hok.fresh (zH0 _))];erw[zN0 (pH xs lo hi) hz,_,(0),(r.drop (HT.sIx xs.length 0 lo)).take (HT.sIx xs.length xs.length hi-HT.sIx xs.length 0 lo),qC0 _ rfl]
def kf:V->Bool
 |.non=>true
 |.bl _=>true
 |.int _=>true
 |.str _=>true
 |_=>false
def eqV:V->V->Bool
 |.non,.non=>true
 |.bl a,.bl b=>a==b
 |.bl a,.int b=>(if a then 1 else 0)==b
 |.int a,.bl b=>a==(if b then 1 else 0)
 |.int a,.int b=>a==b
 |.str a,.str b=>a==b
 |_,_=>false
def HA{A:Around}{s:Shared}(ry:RelV y u)(rx:RelV x v)(fy:kf y=true)(fx:kf x=true):SeqAt.EqAt A s u v (eqV y x):=by
 cases y with
 |non=>
   cases ry;cases x with
   |non=>cases rx;exact SeqAt.EqAt.same _
   |bl b=>cases rx;exact SeqAt.EqAt.none_bool b
   |int b=>erw[t,1]at rx;exact SeqAt.EqAt.none_int b t
   |str b=>erw[t,1]at rx;exact SeqAt.EqAt.none_str b t
   |_=>exact absurd (show false=true from fx) qD0
 |bl a=>
   cases ry;cases x with
   |non=>cases rx;exact SeqAt.EqAt.bool_none a
   |bl b=>cases rx;exact SeqAt.EqAt.bool_bool a b
   |int b=>erw[t,1]at rx;exact SeqAt.EqAt.bool_int a b t
   |str b=>erw[t,1]at rx;exact SeqAt.EqAt.bool_str a b t
   |_=>exact absurd (show false=true from fx) qD0
 |int a=>
   erw[t',1]at ry;cases x with
   |non=>cases rx;exact SeqAt.EqAt.int_none a t'
   |bl b=>cases rx;exact SeqAt.EqAt.int_bool a t' b
   |int b=>erw[t,1]at rx;exact SeqAt.EqAt.int_int a t' b t
   |str b=>erw[t,1]at rx;exact SeqAt.EqAt.int_str a t' b t
   |_=>exact absurd (show false=true from fx) qD0
 |str a=>
   erw[t',1]at ry;cases x with
   |non=>cases rx;exact SeqAt.EqAt.str_none a t'
   |bl b=>cases rx;exact SeqAt.EqAt.str_bool a t' b
   |int b=>erw[t,1]at rx;exact SeqAt.EqAt.str_int a t' b t
   |str b=>erw[t,1]at rx;exact SeqAt.EqAt.str_str a t' b t
   |_=>exact absurd (show false=true from fx) qD0
 |_=>exact absurd (show false=true from fy) qD0
def eqU(x:V)(u:Value):Bool:=match u with
 |.none=>eqV .non x
 |.bool b=>eqV (.bl b) x
 |.int i _=>eqV (.int i) x
 |.str z _=>eqV (.str z) x
 |_=>false
def yv(r:RelV y u)(f:kf y=true):eqU x u=eqV y x:=by
 cases y with
 |non=>cases r;rfl
 |bl b=>cases r;rfl
 |int i=>erw[t,1]at r;rfl
 |str z=>erw[t,1]at r;rfl
 |_=>exact absurd (show false=true from f) qD0
def oh:∀{xs:List V}{us:List Value},Vals xs us->xs.all kf=true->us.any (eqU x)=xs.any λy=>eqV y x
 |_,_,.nil,_=>rfl
 |y::xs,u::us,.cons r t,f=>by
   rw[jK1,qN1]at f;rw[jL0,jL0,yv r f.1,oh t f.2]
def gO{A:Around}{s:Shared}(rx:RelV x v)(fx:kf x=true):∀{xs:List V}{us:List Value},Vals xs us->xs.all kf=true->∀u∈us,SeqAt.EqAt A s u v (eqU x u)
 |_,_,.nil,_=>λu hu=>by cases hu
 |y::xs,u::us,.cons r t,f=>λu' hu=>by
   rw[jK1,qN1]at f;rcases zS0 hu with rfl | hu
   . rw[yv r f.1];exact HA r rx f.1 fx
   . exact gO rx fx t f.2 u' hu
def inV(x:V)(xs:List V):Bool:=xs.any λy=>eqV y x
instance rIn(K:W.Frag)(neg:Bool)(x:V)(y:V)(H:Hp)(Q:VK):∀p xs,y=.ref p->SqL K H p xs∨SqT K H p xs->kf x=true->xs.all kf=true->Q (.bl (if neg then !inV x xs else inV x xs)) H:=0
def gg:OpR X (compareOp .In) (rIn X.K false):=by
 exists 4,x,y,v,u,Q,I,rx,ry,h;erw[p,xs,1,hq,fx,fs,q]at h;cases ry;rcases hq with hq | hq
 . let%[its,r,pl|hz]:=I.list hq;apply SeqAt.in_listAt (eqU x) pl.isList (λw hw=>gO rx fx r fs w #[hw,0]) %[.bl _,H,I,1|6];rw[show its.toArray.any (eqU x)=its.any (eqU x) by simp,oh r fs];exact q
 . let%[its,r,pl|hz]:=I.tuple hq;apply SeqAt.in_tupleAt (eqU x) pl (λw hw=>gO rx fx r fs w #[hw,0]) %[.bl _,H,I,1|6];rw[show its.toArray.any (eqU x)=its.any (eqU x) by simp,oh r fs];exact q
def nu:OpR X (compareOp .NotIn) (rIn X.K true):=by
 exists 4,x,y,v,u,Q,I,rx,ry,h;erw[p,xs,1,hq,fx,fs,q]at h;cases ry;rcases hq with hq | hq
 . let%[its,r,pl|hz]:=I.list hq;apply SeqAt.notIn_listAt (eqU x) pl.isList (λw hw=>gO rx fx r fs w #[hw,0]) %[.bl _,H,I,1|6];rw[show its.toArray.any (eqU x)=its.any (eqU x) by simp,oh r fs];exact q
 . let%[its,r,pl|hz]:=I.tuple hq;apply SeqAt.notIn_tupleAt (eqU x) pl (λw hw=>gO rx fx r fs w #[hw,0]) %[.bl _,H,I,1|6];rw[show its.toArray.any (eqU x)=its.any (eqU x) by simp,oh r fs];exact q
def uC:OpR X (compareOp .NotIn) (λx y H Q=>∃i j,x=.str i/\y=.str j/\Q (.bl (!(!(Builtin.Str.occurrences j i 0 j.length 1).isEmpty))) H):=by
 exists 4,x,y,v,u,Q,I,rx,ry,h;erw[i,j,1,1,q]at h;erw[t,1]at rx;erw[t',1]at ry;exact notIn_str %[.bl _,H,I,1|q]
instance rLen(K:W.Frag)(xs:List V)(H:Hp)(Q:VK):∀p ys,xs=[.ref p]->SqL K H p ys∨SqT K H p ys->Q (.int ys.length) H:=0
def aD:gP X (.builtin "len") (rLen X.K):=by
 exists 4,xs,us,Q,I,r,h;erw[p,ys,1,hq,q]at h;let%[u,1|rx]:=jm r;cases rx;let hn:=jV;rcases hq with hq | hq
 . let%[its,r',pl|hz]:=I.list hq;let hlen:=r'.length;exact Calls.call_len_list pl.isList (by simp only[zP0] <;> omega) %[.int ys.length,H,I.tok _,%[s.toks+1|by rw[zP0,hlen]]|q]
 . let%[its,r',pl|hz]:=I.tuple hq;let hlen:=r'.length;exact len_tuple pl (by simp only[zP0] <;> omega) %[.int ys.length,H,I.tok _,%[s.toks+1|by rw[zP0,hlen]]|q]
def cz:gP X (.builtin "len") (λxs H Q=>∃z,xs=[.str z]/\z.length<=sizeLine/\Q (.int z.length) H):=by
 exists 4,xs,us,Q,I,r,h;erw[z,1,hz,q]at h;let%[u,1,t|1]:=jm r;let hn:=jV;exact len_str #[0] %[.int z.length,H,I.tok _,%[|0]|q]
instance rListOf(K:W.Frag)(xs:List V)(H:Hp)(Q:VK):∀p ys,xs=[.ref p]->SqL K H p ys∨SqT K H p ys->(∀l,H l=none->Q (.ref l) (upd H l (.lst ys))):=0
def jX:gP X (.type "list") (rListOf X.K):=by
 exists 4,xs,us,Q,I,r,h;erw[p,ys,1,hq,q]at h;let%[u,1|rx]:=jm r;cases rx;let fin:∀(its:List Value),Vals ys its->ys.length<=sizeLine->∀(h':Heap)(c':Nat),(∀b o',s.heap.get? b=some o'->h'.get? b=some o') ->
  h'.get? ‹s›=some { cls:=.type "list",dict:=none,data:=.seq its.toArray c',slots:=#[] }->EP X Mp σ Q (.ref ‹s›) { s with heap:=h' }:=λits r' hz h' c' kp e=>
  %[.ref ‹s›,_,I.laid (t':=s.toks) kp (zH0 _) (show ObjOk X.prog X.w _ h' _ (.lst ys)from%[hz,its,c',r'|e]),1|q _ (I.hok.fresh (zH0 _))]
 rcases hq with hq | hq
 . let%[its,r',pl|hz]:=I.list hq;let hlen:=r'.length;erw[o,ho,hc,n,hd]at pl.isList;exact call_list_seq p (.inl rfl) ho hc hd (λh' c' kp e=>fin its r' hz h' c' kp e) (by simp only[zP0] <;> omega)
 . let%[its,r',pl|hz]:=I.tuple hq;let hlen:=r'.length;erw[o,ho,hc,n,hd]at pl;exact call_list_seq p (.inr rfl) ho hc hd (λh' c' kp e=>fin its r' hz h' c' kp e) (by simp only[zP0] <;> omega)
instance rTupOf(K:W.Frag)(xs:List V)(H:Hp)(Q:VK):∀p ys,xs=[.ref p]->(SqL K H p ys/\∀l,H l=none->Q (.ref l) (upd H l (.tup ys)))∨(SqT K H p ys/\Q (.ref p) H):=0
def bz:gP X (.type "tuple") (rTupOf X.K):=by
 exists 4,xs,us,Q,I,r,h;erw[p,ys,1,h]at h;let%[u,1|rx]:=jm r;cases rx;rcases h with⟨hq,q⟩ | ⟨hq,q⟩
 . let%[its,r',pl|hz]:=I.list hq;let hlen:=r'.length;apply call_tuple_list pl.isList (λh' kp=>?_) (by simp only[zP0] <;> omega);let I1:#[8] H { s with heap:=h' }:=I.kept (t':=s.toks) kp;let I2:#[8] (upd H h'.objs.size (.tup ys)) { s with heap:=h'.push { cls:=.type "tuple",data:=.seq its.toArray } }:=
    I1.laid (t':=s.toks) (λb o e=>zU0 _ e) (zH0 _) (show ObjOk X.prog X.w _ _ _ (.tup ys)from%[hz,its,r',IsTup.new _ _,_,qC0 _ rfl|1])
   erw[.ref h'.objs.size,_,I2,1,q _ (I1.hok.fresh (zH0 _))]
 . let%[its,r',pl|hz]:=I.tuple hq;exact call_tuple_same pl %[.ref p,H,I,1|q]
def tyV(K:W.Frag)(T:String)(x:V)(H:Hp):Prop:=match x with
 |.str _=>T="str"
 |.int _=>T="int"
 | .ref p=>(T="list"/\∃xs,SqL K H p xs)∨(T="tuple"/\∃o,K.lookup p=some o/\o.cls=.type "tuple"/\o.dict=none)∨
  (T="dict"/\((∃Ms,H p=some (.dK Ms))∨∃Ms,H p=some (.dT Ms)))∨(T="set"/\∃S n,H p=some (.set S n))
 |_=>False
def Ge{σ:St}(I:#[8] H s)(r:RelV x v)(ty:tyV X.K T x H):
 s.TypeIs v T/\∀a,v=.ref a->∃ob,s.heap.get? a=some ob/\ob.dict=none:=by
 cases x with
 |str z=>
   erw[t,1]at r;cases(show T="str" from ty);erw[jV1 s z t,λ_ e=>nomatch e]
 |int i=>
   erw[t,1]at r;cases(show T="int" from ty);erw[wR0 s i t,λ_ e=>nomatch e]
 |ref p=>
   cases r;rcases ty with⟨rfl,xs,hq⟩ | ⟨rfl,o,hk,hc,hd⟩ | ⟨rfl,hk⟩ | ⟨rfl,S,n,hk⟩
   . let%[its,_,pl|_]:=I.list hq;erw[pl.isList.typeIs,λa e=>?_];cases e;erw[o,n,e,c,hd,_]at pl;erw[o,e,hd]
   . erw[%[o,I.kIn p o hk|hc],λa e=>?_];cases e;erw[o,I.kIn _ o hk,hd]
   . let z:∃o,s.heap.get? p=some o/\o.ExactDict:=by
      rcases hk with⟨Ms,hk⟩ | ⟨Ms,hk⟩
      . let%[_,_,_,_,o,_,_,e,ex|_]:=I.hok p _ hk;erw[o,e,ex]
      . let%[_,_,_,_,o,_,_,e,ex|_]:=I.hok p _ hk;erw[o,e,ex]
     erw[o,e,ex]at z;erw[%[o,e|ex.1],λa e2=>?_];cases e2;erw[o,e,ex.2.1]
   . let%[o,_,_,_,e,ex|_]:=I.hok p _ hk;erw[%[o,e|ex.1],λa e2=>?_];cases e2;erw[o,e,ex.2.1]
 |_=>exact False.elim ty
instance ZtBM(K:W.Frag)(T:String)(r:V->List V->Hp->VK->Prop)(t:TA)(σ:St)(Q:VK)(x:V)(H1:Hp):tyV K T x H1->(t σ H1 λxs H2=>r x xs H2 Q):=0
def tBM(K:W.Frag)(T:String)(r:V->List V->Hp->VK->Prop)(to:TE)(t:TA):TE:=λσ H Q=>to σ H λx H1=>ZtBM K T r t σ Q x H1
variable {o e:Expr}{es:List Expr}{to:TE}{t:TA}{name:Str}{Mz Mu:Pos}{T id:String}{r:V->List V->Hp->VK->Prop}
def cA(pa:PlainAttrs T)(slot:Slot T name id)(hty:typeOf (.builtin id)=pure (.type "method_descriptor"))(hm:MtR X id r)(ho:PE X o to)(ha:PA X (e::es) t)
 (hbase:attributeBase o name X.env (eval o X.env)=eval o X.env:=by rfl)
 (hfew:((backTo Mu (starEach (e::es) X.env)).all (λx=>!x.1)&&(backToKw Mu (keywordEach [] X.env)).all (λx=>x.1.isSome)
  &&decide ((e::es).length+([]:List Keyword).length+(if([]:List Keyword).isEmpty then 0 else 1)<30))=true:=by rfl)
 (hline:(Mz.endLine==Mu.line)=true:=by rfl) (hs:starEach (e::es) X.env=(false,eval e X.env)::starEach es X.env:=by rfl) (hplain:(backTo Mu (starEach es X.env)).any (·.1)=false:=by rfl) :
 PE X (.Call (.Attribute o name Mz) (e::es) [] Mu) (tBM X.K T r to t):=by
 exists 4,Q,I,h;apply wpAny_Call_method_late hbase hfew hline rfl (thn (ho Mp s σ H _ I h) λv s1 ⟨x,H1,I1,r1,ty,q1⟩=>?_);let%[h1|h2]:=Ge I1 r1 ty;erw[T,id,pa,slot,hty,h1,h2,6];let hA:=ha Mu Mp s1 σ H1 _ I1 q1;rw[hs]at hA ⊢;apply jD0 (by show(false||(backTo Mu (starEach es X.env)).any (·.1))=false;rw[hplain] <;> rfl) (jG0 ?_);exact thn hA λus s2 ⟨vs,H2,I2,r2,q2⟩=>hm Mp s2 σ H2 x vs v us Q I2 r1 r2 q2
end
def MtM(X:Cx)(id:String)(r:V->List V->Hp->VK->Prop):Prop:=
 ∀(Mp:#[7])(s:Shared)(σ:St)(H:Hp)(x:V)(xs:List V)(v:Value)(us:List Value)(Q:VK),#[8] H s->RelV x v->Vals xs us->r x xs H Q ->
  ‹X.w› (call (.builtin id) (v::us)) (EP X Mp σ Q) X.xe s
def Vals.one:∀{x:V}{us:List Value},Vals [x] us->∃u,us=[u]/\RelV x u
 |_,_,.cons r .nil=>%[0|r]
def Vals.rep(h:Vals xs us):∀k:Nat,Vals (List.replicate k xs).flatten (List.replicate k us).flatten
 |0=>.nil
 |k+1=>by
   rw[zY1,zY1,qP1,qP1];exact Vals.append h (Vals.rep h k)
def lu(its:List Value):∀(k:Nat)(acc:List Value),
 List.foldl (λx1 x2=>x1++x2) acc.toArray (List.replicate k its.toArray)=(acc++(List.replicate k its).flatten).toArray
 |0,acc=>by simp
 |k+1,acc=>by
   let e:acc.toArray++its.toArray=(acc++its).toArray:=by simp
   let e2:(acc++its)++(List.replicate k its).flatten=acc++(List.replicate (k+1) its).flatten:=by
    rw[zY1,qP1,wH1]
   rw[←e2,←lu its k (acc++its),←e,zY1,List.foldl_cons]
section
variable {X:Cx}{Mp:#[7]}{σ:St}{H:Hp}{s:Shared}{l b:Addr}{xs ys zs:List V}
def Inv.lset{its its':List Value}{n:Nat}{f:Array Value->Array Value}{t':Nat}(I:#[8] H s)(hH:H l=some (.lst xs))
 (e:s.heap.get? l=some { cls:=.type "list",data:=.seq its.toArray n })(hf:f its.toArray=its'.toArray)(hv:Vals ys its')(hz:ys.length<=sizeLine):
 #[8] (upd H l (.lst ys)) { s with heap:=s.heap.update l (Obj.mapSeq f),toks:=t' }:=by
 let q:=PySem.IsL.update e f;rw[hf]at q;apply I.write (x:=l) (e:=l) (by rw[hH];exact trivial) (.inl rfl) (λb' u hb hu=>(Heap.get?_update_other s.heap (Obj.mapSeq f) (Ne.symm hb)).trans hu) %[_|q] ?_;erw[hz,its',_,hv,q]
def Inv.lnew{t':Nat}(I:#[8] H s)(hv:Vals ys its)(hz:ys.length<=sizeLine):
 #[8] (upd H ‹s› (.lst ys)) { s with heap:=s.heap.push { cls:=.type "list",data:=.seq its.toArray },toks:=t' }:=
 I.laid (λ_ _ q=>zU0 _ q) (zH0 _) %[hz,its,(0),hv|qC0 _ rfl]
def Inv.fresh(I:#[8] H s):H ‹s›=none:=I.hok.fresh (zH0 _)
def Inv.lstM(I:#[8] H s)(hH:H l=some (.lst xs)):xs.length<=sizeLine/\∃(its:List Value) (n:Nat),Vals xs its/\xs.length=its.length/\s.heap.get? l=some { cls:=.type "list",data:=.seq its.toArray n }:=by
 let%[z,its,n,r|e]:=I.hok l _ hH;erw[z,its,n,r,r.length,e]
def wg{n:Nat}(h:n<=sizeLine):Builtin.List.listTooLong n=false:=by
 unfold Builtin.List.listTooLong;exact zE1 #[0]
end
section
variable {X:Cx}
instance rAppend(x:V)(vs:List V)(H:Hp)(Q:VK):∀l xs y,x=.ref l->vs=[y]->H l=some (.lst xs)->xs.length<sizeLine->Q .non (upd H l (.lst (xs++[y]))):=0
def cx:MtM X "list.append" rAppend:=by
 exists 4,x,vs,v,us,Q,I,rx,rv,h;erw[l,xs,y,1,1,hH,hz,q]at h;cases rx;erw[u,1,ru]at rv.one;let%[z,its,n,r,hl|e]:=I.lstM hH;apply qQ1 F.slot_list_append %[_,e|1] F.entry_list_append (F.args_list_append_2 _ _) (PySem.list_append l its.toArray n u (by rw[zP0];omega)) ⟨e,?_⟩;erw[.non,_,I.lset (its':=its++[u]) hH e #[2] (r.append (.cons ru .nil)) ?_,1,q];rw[zK0,qL0];omega
instance rExtend(x:V)(vs:List V)(H:Hp)(Q:VK):∀l b xs zs,x=.ref l->vs=[.ref b]->H l=some (.lst xs)->H b=some (.lst zs)->xs.length+zs.length<=sizeLine->Q .non (upd H l (.lst (xs++zs))):=0
def Aq:MtM X "list.extend" rExtend:=by
 exists 4,x,vs,v,us,Q,I,rx,rv,h;erw[l,b,xs,zs,1,1,hH,hB,hz,q]at h;cases rx;erw[u,1,ru]at rv.one;cases ru;let%[z,its,n,r,hl|e]:=I.lstM hH;let%[z2,its2,n2,r2,hl2|e2]:=I.lstM hB;let hsz:its.toArray.size+its2.toArray.size<=sizeLine:=by rw[zP0,zP0];omega
 let hlong:¬ (!its.toArray.isEmpty&&Builtin.List.listTooLong (its.toArray.size+its2.toArray.size))=true:=by
  rw[wg hsz,wG0];exact qD0
 apply qQ1 F.slot_list_extend %[_,e|1] F.entry_list_extend (F.args_list_extend_2 _ _)
  (AutoSeq1.list_extend_list_list_0 l its.toArray n b its2.toArray n2 hlong (by rw[zP0];omega) #[0]) %[e,e2|6]
 erw[.non,_,I.lset (its':=its++its2) hH e #[2] (r.append r2) ?_,1,q];rw[zK0];omega
instance rCat(x:V)(y:V)(H:Hp)(Q:VK):∀l b xs zs,x=.ref l->y=.ref b->H l=some (.lst xs)->H b=some (.lst zs)->xs.length+zs.length<=sizeLine->(∀p,H p=none->Q (.ref p) (upd H p (.lst (xs++zs)))):=0
def jg:OpR X (binaryOp .Add) rCat:=by
 exists 4,x,y,v,u,Q,I,rx,ry,h;erw[l,b,xs,zs,1,1,hH,hB,hz,q]at h;cases rx;cases ry;let%[z,its,n,r,hl|e]:=I.lstM hH;let%[z2,its2,n2,r2,hl2|e2]:=I.lstM hB;apply PySem.P.add_list e e2 ?_ (by rw[zP0,zP0];omega);let ea:its.toArray++its2.toArray=(its++its2).toArray:=by simp
 rw[ea];erw[.ref _,_,I.lnew (t':=s.toks) (r.append r2) (by rw[zK0];omega),1,q _ I.fresh]
instance rRep(x:V)(y:V)(H:Hp)(Q:VK):∀l k xs,x=.ref l->y=.int k->H l=some (.lst xs)->-(2 ^ 63)<=k->k<2 ^ 63->xs.length*k.toNat<=sizeLine->(∀p,H p=none->Q (.ref p) (upd H p (.lst (List.replicate k.toNat xs).flatten))):=0
def za{α:Type}(xs:List α)(k:Nat):(List.replicate k xs).flatten.length=k*xs.length:=by
 induction k with
 |zero=>simp
 |succ k ih=>rw[zY1,qP1,zK0,ih,Nat.succ_mul,Nat.add_comm]
def GX:OpR X (binaryOp .Mult) rRep:=by
 exists 4,x,y,v,u,Q,I,rx,ry,h;erw[l,k,xs,1,1,hH,h1,h2,hz,q]at h;cases rx;erw[t,1]at ry;let%[z,its,n,r,hl|e]:=I.lstM hH;let hlen:its.toArray.size*k.toNat<=sizeLine:=by rw[zP0,←hl];exact hz
 let hcap:¬ its.toArray.size*k.toNat>(2 ^ 63-1) / 8:=by
  have:(sizeLine:Nat)<=(2 ^ 63-1) / 8:=by decide
  omega
 let hfit:¬ (!Builtin.List.listFitsIndex k)=true:=by
  rw[fitsIndex_both h1 h2];exact qD0
 let hlong:¬ Builtin.List.listTooLong (its.toArray.size*k.toNat)=true:=by
  rw[wg hlen];exact qD0
 let hnew:List.foldl (λx1 x2=>x1++x2) #[] (List.replicate (if its.toArray.isEmpty=true then 0 else k.toNat) its.toArray)=(List.replicate k.toNat its).flatten.toArray:=by
  let f0:∀m:Nat,List.foldl (λx1 x2=>x1++x2) #[] (List.replicate m its.toArray)=(List.replicate m its).flatten.toArray:=λm=>by
   have:=lu its m []
   rw[jY0]at this;exact this
  rw[f0];cases its with
  |nil=>simp
  |cons a r'=>rw[Mq #[2]]
 apply wpAny_binaryOp_repeat_ref (T:="list") (U:="int") ⋯ %[_,e|1] (λs'=>wR0 s' k t) noFill_list_mul F.fills_int_mul jY1 repeat_list F.slot_int_index.lookup
  (qQ1 jY1 (wR0 s k t) F.entry_int_rmul (F.args_int_rmul_2 _ _) (int___rmul___int_list k t l its.toArray n)
   %[e,1,%[_,e|1]|qQ1 F.slot_list_mul ⟨_,e,rfl⟩ F.entry_list_mul (F.args_list_mul_2 _ _) (AutoListH.list___mul___list_int_3 l its.toArray n k t hfit hcap hlong) ⟨e,?_⟩])
 rw[hnew];erw[.ref _,_,I.lnew (t':=s.toks) (r.rep k.toNat) (by rw[za,Nat.mul_comm];exact hz),1,q _ I.fresh]
end
end L2
namespace Att
open PySem PySem.W PySem.Calls PyProof.Rows
def pU{P:Params}{h:Heap}:∀(ns:List Int)(vs:List Value),WellAll P h vs (ns.map WData.int)->IntsAre vs ns:=by
 intro ns
 induction ns with
 |nil=>
   intro vs w;rw[List.map_nil]at w;cases w;exact .nil
 |cons n ns ih=>
   intro vs w;rw[zY0]at w;cases w with
   |cons a b=>
     cases a;exact .cons _ _ (ih _ b)
def zI{l:OpenLaw}{n:Nat}(hn:l.most=some n){P:Params}{h:Heap}{args:List WData}{vals:List Value}
 (hpre:l.row.toRowW.claim.pre args=true)(hwl:WellAll P h vals args):
 ∃a vs ns,vals=[Value.ref a]/\args=[WData.list (ns.map WData.int)]/\h.get? a=some { cls:=.type "list",data:=.seq vs.toArray }/\IntsAre vs ns/\ns.length<=n:=by
 let hsh:WShape.hasAll [] args [.list .int]=true:=(pre_splitW hpre).1;let hc:l.pre.holds [] { args:=args }=true:=(pre_splitW hpre).2;let%[d,r,1,h1|h2]:=hasAllW_cons hsh;obtain rfl:=hasAllW_nil h2;let%[xs,1|h3]:=hasW_list h1;let%[ns|1]:=items_int h3;let hlen:ns.length<=n:=by
  unfold OpenLaw.pre at hc;let h4:(WTm.not (.lt (.lit (.int (n:Int))) (.len (.arg 0)))).holds [] { args:=[.list (ns.map .int)] }=true:=by
   let h4:=(holds_andW hc).1;rw[hn]at h4;exact h4
  let h5:=condW_of h4 (w_not (w_lt w_lit (w_len_list (w_arg rfl))));rw[zF0]at h5;apply Nat.le_of_not_lt λq=>?_
  let q':(n:Int)<((ns.length:Nat):Int):=#[0]
  first
   | (rw[zD1 q']at h5;exact absurd h5 ⋯)
   | (simp at h5;omega)
 cases hwl with
 |cons w1 w2=>
   cases w2;cases w1 with
   |list ho hall=>erw[_,_,ns,1,1,ho,pU ns _ hall,hlen]
def zV(l:OpenLaw)(args:List WData):l.row.toRowW.claim.post args (.bool true) args=true:=
 postW_of (r:=l.row.toRowW) (X:=(true==true))
  (show WShape.has [] (.bool true) .bool=true by first | rfl | decide | simp [WShape.has,WShape.arms,WShape.armsAll])
  (show(WTm.eq .res (.lit (.bool true))).value [] { args:=args,res:=some (.bool true),after:=args }=some (.bool (true==true))from w_eq_bool (w_res rfl) w_lit) rfl
def attach_call{l:OpenLaw}{n:Nat}{q:Program}{loose:List Str}{XP:(#[9])->Heap->Prop}{YP:World->Heap->Prop}{d:DefRec}
 (hn:l.most=some n)(hdf:d.params.defaults=[])
 (call:∀(w:World)(s₀ s₁:Shared)(mg mb:#[9])(fa:Addr)(o:Obj)(pm cd doc:Value)(a:Addr)(vs:List Value)(ns:List Int),
  Ground q loose [] XP w s₀ mg mb s₁.heap->YP w s₁.heap ->
  s₁.heap.get? fa=some o->o.data=.func (docDef d.name d.params d.body d.scope pm cd doc)->s₁.heap.CodeRec cd d.name->mg d.name=some (.ref fa) ->
  s₁.heap.get? a=some { cls:=.type "list",data:=.seq vs.toArray }->IntsAre vs ns->ns.length<=n->s₁.gens=#[] ->
  codeAny (model l.prog w) callerA (.call (.ref fa) %[[.ref a]|[]]) (λr s'=>r=.ok (.ret (.bool true))/\OldK s₁.heap s'.heap/\s'.os=s₁.os/\AllBare s'.gens) s₁) :
 WalkO q loose XP YP l.row.toRowW d [] (λf vs=>PySem.call f vs):=by
 intro w s₀ s₁ mg mb G Y fa o pm cd doc dV kV ho hd hcd hD hmg hg args vals as hpre hlay hrd hwl hlo;obtain rfl:dV=.none:=Dflts.none hD hdf;obtain rfl:kV=.none:=Dflts.noKw hD;let%[a,vs,ns,1,1,hobj,hints|hlen]:=zI hn hpre hwl;apply enter_call (wP0 (call w s₀ s₁ mg mb fa o pm cd doc a vs ns G Y ho (fd_plain hd) hcd hmg hobj hints hlen hg) λr s' hq=>?_);erw[1,h2,h3,h4]at hq;erw[.inl %[.bool true,.bool true,[],1,λ_=>rfl,.bool true,zV l _|λ_=>%[List.Pairwise.nil|λ_ hm=>(nomatch hm)]],h2,h3,h4]
end Att
namespace L2
open PySem PySem.Spec PyProof.Rows
def sO:∀{vs:List Value}{ns:List Int},IntsAre vs ns->Vals (ns.map V.int) vs
 |_,_,.nil=>.nil
 |_,_,.cons n t h=>.cons %[t|1] (sO h)
def HW(H:Hp):Prop:=∀b,H b=none∨∃o xs,H b=some (.frz o (.lst xs))
def Dk{K:W.Frag}{mg mb:#[9]}{a:Addr}{x:Str}{s₁:Shared}{vs:List Value}{ns:List Int}
 (KX:K.In s₁.heap)(hns:s₁.heap.Ns mainGlobals mg)(hb:s₁.heap.Ns builtinsNs mb)(hbb:∀x:Str,x≠"__name__" -> mb x=bootBuiltins x)(hlim:s₁.heap.NoLimit)(hg:s₁.gens=#[])
 (ha:s₁.heap.get? a=some { cls:=.type "list",data:=.seq vs.toArray })(hi:IntsAre vs ns)(hl:ns.length<=sizeLine)(hr:Room k callerA)
 (F:∀base:Heap,K.In base->base.Ns mainGlobals mg->FnOk P w K mg base CX k fa fd [x] sp)(hbind:∀(s:Shared)(u:Value),BindsTo s fd %[[u]|[]] [(x,u)])
 (hsp:∀H:Hp,HW H->SqL K H a (ns.map V.int)->sp [.ref a] H (λv _=>v=.bl true) λ_ _ _=>False)
 (hCX:∀H e s',CX [] H s₁ (λ_ _ _=>False) e s'->False):
 codeAny (model P w) callerA (.call (.ref fa) %[[.ref a]|[]]) (λr s'=>r=.ok (.ret (.bool true))/\OldK s₁.heap s'.heap/\s'.os=s₁.os/\AllBare s'.gens) s₁:=by
 let rv:=sO hi;let lenV:=hi.length;let core:∀H:Hp,HW H->SqL K H a (ns.map V.int)->HOk P w H s₁.heap->(∀b,H b≠none->b=a)->(H a≠none->K.lookup a=none) ->
  codeAny (model P w) callerA (.call (.ref fa) %[[.ref a]|[]]) (λr s'=>r=.ok (.ret (.bool true))/\OldK s₁.heap s'.heap/\s'.os=s₁.os/\AllBare s'.gens) s₁:=by
  intro H hO hS hok hA hK;let base_of:∀{b:Addr}{o:Obj},s₁.heap.get? b=some o->H b=none->(vc s₁.heap H).get? b=some o:=λe n=>Dx e n
  let noA:∀{b:Addr}{o:Obj}{es:Array DictEntry}{ep:Nat},s₁.heap.get? b=some o->o.data=.dict es ep->H b=none:=fun{b o es ep} e d=>by
   cases q:H b with
   |none=>rfl
   |some u=>
     let e':b=a:=hA b (by rw[q];simp);subst e';rw[ha]at e;cases e;let d':Data.seq vs.toArray _=Data.dict es ep:=d;cases d'
  let nsK:∀{b:Addr}{m:#[9]},s₁.heap.Ns b m->(vc s₁.heap H).Ns b m:=fun{b m} ⟨o,es,ep,e,d,r⟩=>%[o,es,ep,base_of e (noA e d),d|r]
  let hKb:K.In (vc s₁.heap H):=λb o e=>base_of (KX b o e) (by
   cases q:H b with
   |none=>rfl
   |some u=>
     let e':b=a:=hA b (by rw[q];simp);subst e';rw[hK (by rw[q];simp)]at e;cases e)
  let hM:Mod K mg (vc s₁.heap H):=%[hKb,nsK hns,%[mb,nsK hb|hbb]|let⟨mc,h1,h2⟩:=hlim;⟨mc,nsK h1,h2⟩]
  let e0:Env0 P w K mg (vc s₁.heap H) callerA [] s₁ H:=%[1,hM,λb o e=>Fc e,Nat.le_of_eq (AD _ _),trivial,λb hb=>absurd (show b∈([]:List Addr)from hb) #[2],hok|.of_eq hg]
  apply wP0 ((F _ hKb (nsK hns)).run callerA [] s₁ H %[[.ref a]|[]] [.ref a] [.ref a] _ _ hr e0 (hbind s₁ (.ref a)) (.cons rfl .nil) (hsp H hO hS)) λr s' h=>?_
  cases r with
  |error e=>exact(hCX H e s' h).elim
  |ok fl=>
    cases fl with
    |next=>exact False.elim h
    |brk=>exact False.elim h
    |cont=>exact False.elim h
    |ret u=>
      erw[v,H',os,bare,un,hok',r',q]at h;let q':v=.bl true:=q;subst q';obtain rfl:u=Value.bool true:=r';erw[1,OldK.of_keep λb o e=>?_,os,bare];cases q:H b with
      |none=>exact un.keep b o e q (by intro z;exact absurd (show b∈([]:List Addr)from z) #[2]) #[2]
      |some u=>
        rcases hO b with z | ⟨ob,xs,z⟩
        . rw[q]at z;cases z
        . let z2:=un.frzs b ob _ z;let%[e1|_]:=hok b _ z;let%[e2|_]:=hok' b _ z2;rw[e]at e1;cases e1;exact e2
 cases hk:K.lookup a with
 |some o=>
   let e:=KX a o hk;rw[ha]at e;cases e;apply core (λ_=>none) (λ_=>.inl rfl) (.inr %[_,vs.toArray,_,hk,1,1,1,by rw[zP0,lenV];exact hl|by simpa using rv]) (λb u z=>by let z':(none:Option HO)=some u:=z;cases z') (λb z=>absurd rfl z) λz=>absurd rfl z
 |none=>
   apply core (λb=>if b=a then some (.frz { cls:=.type "list",data:=.seq vs.toArray } (.lst (ns.map V.int)))else none) (λb=>?_) (.inl (.inr %[{ cls:=.type "list",data:=.seq vs.toArray }|Mt rfl])) (λb u z=>?_) (λb z=>?_) λ_=>hk
   . by_cases hb:b=a
     . exact .inr %[_,_|Mt hb]
     . exact .inl (Mq hb)
   . by_cases hb:b=a
     . let z':=(Mt hb).symm.trans z;cases z';subst hb;erw[ha,by rw[zF0];exact hl,vs,_,rv,ha]
     . let z':=(Mq hb).symm.trans z;cases z'
   . by_cases hb:b=a
     . exact hb
     . exact absurd (Mq hb) z
def walk_of{l:PySem.W.OpenLaw}{n:Nat}{q:Program}{loose:List Str}{XP:(#[9])->Heap->Prop}{YP:World->Heap->Prop}{d:DefRec}{K:Params->PySem.W.Frag}{CX:World->CXT}{sp:World->Sp}{x:Str}
 (hn:l.most=some n)(hn2:n<=sizeLine)(hdf:d.params.defaults=[])(hr:Room k callerA)
 (hY:∀(w:World)(h:Heap),YP w h->(K w.params).In h)
 (F:∀(w:World)(mg:#[9])(fa:Addr)(h:Heap),(K w.params).In h->h.Ns mainGlobals mg->mg d.name=some (.ref fa) ->
  ∃ fd:FuncData,(∀(s:Shared)(u:Value),BindsTo s fd %[[u]|[]] [(x,u)])/\
   ∀base:Heap,(K w.params).In base->base.Ns mainGlobals mg->FnOk l.prog w (K w.params) mg base (CX w) k fa fd [x] (sp w))
 (hsp:∀(w:World)(H:Hp)(a:Addr)(ns:List Int),ns.length<=n->HW H->SqL (K w.params) H a (ns.map V.int)->sp w [.ref a] H (λv _=>v=.bl true) λ_ _ _=>False)
 (hCX:∀(w:World)(H:Hp)(s:Shared)(e:Value)(s':Shared),CX w [] H s (λ_ _ _=>False) e s'->False) :
 PySem.W.WalkO q loose XP YP l.row.toRowW d [] (λf vs=>PySem.call f vs):=by
 apply Att.attach_call hn hdf λw s₀ s₁ mg mb fa o pm cd doc a vs ns G Y ho hd hcd hmg hobj hints hlen hg=>?_
 let KX:=hY w _ Y;let%[fd,hb|hF]:=F w mg fa _ KX G.T.g hmg;exact Dk KX G.T.g G.T.b G.T.builtins G.T.nolimit hg hobj hints (zN0 hlen hn2) hr hF hb (λH hO hS=>hsp w H a ns hlen hO hS) λH e s'=>hCX w H s₁ e s'
end L2
namespace L2
open PySem PySem.Spec PyProof.Rows
def bw(s:Stmt)(j:Nat):Stmt:=match s with
 |.ClassDef _ _ _ body _ _ _ _ _ _ _=>body.getD j (.Pass %[(0),(0),(0)|(0)])
 |_=>.Pass %[(0),(0),(0)|(0)]
def jW(s:Stmt):Arguments:=match s with
 |.FunctionDef _ a _ _ _ _ _ _ _ _=>a
 |_=>{ posonlyargs:=[],args:=[],vararg:=none,kwonlyargs:=[],kw_defaults:=[],kwarg:=none,defaults:=[] }
def gI(s:Stmt):List Stmt:=match s with
 |.FunctionDef _ _ b _ _ _ _ _ _ _=>b
 |_=>[]
def ag(s:Stmt):Scope:=match s with
 |.FunctionDef _ _ _ _ _ _ sc _ _ _=>sc
 |_=>{ kind:=.function,names:=[],isGenerator:=false,isCoroutine:=false }
abbrev CX0:CXT:=λ_ _ _ _ _ _=>False
abbrev E0:XK:=λ_ _ _=>False
def aY:mr CX0 X E0:=λ_ _ _ _ _ _ _ h=>h.elim
structure Fun(K:W.Frag)(x qual:Str)(st:Stmt)(f:Addr)(fd:FuncData):Prop where
 ex:∃(oc:Value)(od:Option Addr)(kV doc pm:Value)(an:Option Addr)(cdv ct:Value)(osl:Array (Option Value)),
  fd=PySem.W.fnOf x qual (jW st) (gI st) (ag st) .none kV doc pm an cdv ct/\K.lookup f=some %[oc,od,.func fd|osl]/\PySem.W.codeIn K cdv qual=true
 kp:PySem.W.keepIn K (.ref f)=true
section
variable {P:Program}{w:World}{K:W.Frag}{mg:#[9]}{base:Heap}
def Fun.ok{st:Stmt}{sp:Sp}(F:Fun K x qual st f fd)(S:FnScope N ps (ag st))(len:∀vs H Q E,sp vs H Q E->vs.length=ps.length)
 (hbody:∀(cdv:Value)(A:Around)(outer:List Env)(s:Shared)(H:Hp)(vs:List V)(Q:VK)(E:XK),Room k (A.deeper (envOfC qual (ag st) ‹s› f cdv))->sp vs H Q E ->
  ∃t,PSs (AR CX0 P w K mg base N qual (ag st) f cdv A outer s H E).nox (gI st) t/\t { nx:=λ_ H'=>Q .non H',rt:=Q } (oZ N vs) H):FnOk P w K mg base CX0 (k+1) f fd ps sp:=by
 erw[oc,od,kV,doc,pm,an,cdv,ct,osl,1,lk,hcd]at F.ex;apply fn_of lk hcd S len λA outer s H vs Q E hr hsp=>?_
 let%[t,h|q]:=hbody cdv A outer s H vs Q E hr hsp;erw[t,h.nox,q]
def Fun.binds{st:Stmt}{ps:List Str}(F:Fun K x qual st f fd)
 (h:∀(kV doc pm:Value)(an:Option Addr)(cdv ct:Value)(us:List Value),us.length=ps.length->bindArgs (PySem.W.fnOf x qual (jW st) (gI st) (ag st) .none kV doc pm an cdv ct) %[us|[]]=pure (ps.zip us)):Binds K fd ps []:=by
 erw[oc,od,kV,doc,pm,an,cdv,ct,osl,1,lk,hcd]at F.ex;exact .all (h kV doc pm an cdv ct)
def Hv{x qual:Str}{st:Stmt}{f:Addr}{oc:Value}{od an:Option Addr}{osl:Array (Option Value)}{kV doc pm cdv ct:Value}(l:K.lookup f=some %[oc,od,.func (PySem.W.fnOf x qual (jW st) (gI st) (ag st) .none kV doc pm an cdv ct)|osl])
 (c:PySem.W.codeIn K cdv qual=true)(k:PySem.W.keepIn K (.ref f)=true):Fun K x qual st f (PySem.W.fnOf x qual (jW st) (gI st) (ag st) .none kV doc pm an cdv ct):=%[%[oc,od,kV,doc,pm,an,cdv,ct,osl,1,l|c]|k]
end
def FS(hr:Room k A):A.units+1<cLine:=zO1 (Nat.add_le_add_left (by decide:1<=64) _) hr.units
def aO{n:Nat}(h:n<=1000):n<sizeLine:=zO1 h ⋯
section
variable {X:Cx}
def pv(i:Nat){x:Str}{pos:Pos}(hN:X.N[i]?=some x:=by rfl)(hv:Vis X.env.scope x:=by first | exact Or.inl rfl | exact Or.inr (.inl rfl) | exact Or.inr (Or.inr rfl))(hd:(x==("__debug__":Str))=false:=by decide)
 (hcd:(x==("__classdict__":Str))=false:=by decide):PE X (.Name x pos) (tVar i):=GK hN hv hd hcd
end
def cV{A B:Prop}(h:B):if false=true then A else B:=by
 rw[Mq qD0];exact h
def ee{A B:Prop}(h:A):if true=true then A else B:=by
 rw[Mt rfl];exact h
def uZ{c A B:Prop}[Decidable c](h1:c->A)(h2:¬ c->B):if c then A else B:=by
 by_cases h:c
 . rw[Mt h];exact h1 h
 . rw[Mq h];exact h2 h
def wA{c A B:Prop}[Decidable c](hc:c)(h:B):if(!decide c)=true then A else B:=by
 rw[zD1 hc];exact cV h
def Same(H H':Hp):Prop:=∀b o,H b=some o->H' b=some o
def Same.refl(H:Hp):Same H H:=λ_ _ h=>h
def Same.trans(a:Same H H1)(b:Same H1 H2):Same H H2:=λc o h=>b c o (a c o h)
def Same.free(e:Same H H'){l:Addr}(h:H' l=Option.none):H l=Option.none:=by
 cases q:H l with
 |none=>rfl
 |some o=>
   rw[e l o q]at h;cases h
def Same.seq{K:W.Frag}(e:Same H H')(h:SqL K H a xs):SqL K H' a xs:=by
 rcases h with(h | ⟨o,h⟩) | h
 . exact .inl (.inl (e _ _ h))
 . exact .inl (.inr %[o|e _ _ h])
 . exact .inr h
end L2
set_option maxHeartbeats 4000000
namespace L2
open PySem PySem.Spec PyProof.Rows
section
variable {X:Cx}
instance rIsi(K:W.Frag)(xs:List V)(H:Hp)(Q:VK):∀x t n b,xs=[x,.ty n]->TyOf K H x t->PySem.W.kitOne K t (.type n)=some b->Q (.bl b) H:=0
def pI:gP X (.builtin "isinstance") (rIsi X.K):=by
 exists 4,xs,us,Q,I,r,h;erw[x,t,n,b,1,ty,e,q]at h;let%[u,w',1,r1|r2]:=Bd r;cases r2;exact AB I r1 ty e (λtk=>%[.bl b,H,I.tok tk,1|q])
def Do(K:W.Frag)(n:String):PySem.W.kitOne K (.type n) (.type n)=some true:=by
 unfold PySem.W.kitOne;rw[Mt #[2]]
def uW(K:W.Frag):PySem.W.kitOne K (.type "int") (.type "bool")=some false:=by
 show(if((Value.type "int"==Value.type "bool")=true)then some true else if PySem.W.kitMeta "bool"=true then((fastBuiltinMro "int").map (·.contains (.type "bool")))else none)=some false;decide
def CDivL(_ j:Int):Prop:=0<j/\j<2 ^ 63
def Cm:OpR X (binaryOp .FloorDiv) (rI CDivL λi j=>.int (i / j)):=opI λi j _ _ _ _ _ hc q=>by
 let e:Int.fdiv i j=i / j:=Int.fdiv_eq_ediv_of_nonneg i (Int.le_of_lt hc.1);rw[←e]at q;apply floordiv_int (by have:=hc.1;omega) q (.inl (PyProof.noPylong_of_log2 ?_));let h1:=hc.1;let h2:=hc.2;let h3:j.natAbs<2 ^ 63:=#[0]
 let h4:=(Nat.log2_lt (n:=j.natAbs) (k:=63) #[0]).mpr h3;omega
end
def io:bootBuiltins "int"=some (.type "int"):=by decide
def yF:bootBuiltins "bool"=some (.type "bool"):=by decide
def jY:bootBuiltins "list"=some (.type "list"):=by decide
def cj:bootBuiltins "tuple"=some (.type "tuple"):=by decide
def rY:bootBuiltins "reversed"=some (.type "reversed"):=by decide
structure Cal(P:Program)(w:World)(K:W.Frag)(mg:#[9])(base:Heap)(n:Nat)(x:Str)(ps:List Str)(sp:Sp):Prop where
 ex:∃(f:Addr)(fd:FuncData),FnOk P w K mg base CX0 n f fd ps sp/\Binds K fd ps []/\PySem.W.keepIn K (.ref f)=true/\mg x=some (.ref f)
def ai{X:Cx}{e:Expr}{es:List Expr}{p pos:Pos}(C:Cal X.prog X.w X.K X.mg X.base n x ps sp)(hr:Room k X.A)(hk:n<=k)(hg:Gl X x)
 (ha:PA X (e::es) t)(hdb:(x==("__debug__":Str))=false:=by decide)(he:starEach (e::es) X.env=(false,eval e X.env)::starEach es X.env:=by rfl)(hpl:(backTo pos (starEach es X.env)).any (·.1)=false:=by rfl):
 PE X (.Call (.Name x p) (e::es) [] pos) (FK sp [] E0 t):=by
 erw[f,fd,F,b,kp,m]at C.ex;exact ES F (hr.mono hk) hg m kp b .nil aY ha hdb he hpl
def Cal.of{P:Program}{w:World}{K:W.Frag}{mg:#[9]}{base:Heap}{n:Nat}{x qual:Str}{ps:List Str}{sp:Sp}{st:Stmt}{f:Addr}{fd:FuncData}(F:Fun K x qual st f fd)(O:FnOk P w K mg base CX0 n f fd ps sp)(m:mg x=some (.ref f))
 (h:∀(kV doc pm:Value)(an:Option Addr)(cdv ct:Value)(us:List Value),us.length=ps.length->bindArgs (PySem.W.fnOf x qual (jW st) (gI st) (ag st) .none kV doc pm an cdv ct) %[us|[]]=pure (ps.zip us)):Cal P w K mg base n x ps sp:=
 %[f,fd,O,F.binds h,F.kp|m]
def iteN{c A B:Prop}[Decidable c](hc:¬ c)(h:A):if(!decide c)=true then A else B:=by
 rw[zE1 hc];exact ee h
def aU{c A B:Prop}[Decidable c](hc:c)(h:A):if decide c=true then A else B:=by
 rw[zD1 hc];exact ee h
def ay{c A B:Prop}[Decidable c](hc:¬ c)(h:B):if decide c=true then A else B:=by
 rw[zE1 hc];exact cV h
def SameBut(f:Addr)(H H':Hp):Prop:=∀b o,b≠f->H b=some o->H' b=some o
def SameBut.trans(a:SameBut f H H1)(b:SameBut f H1 H2):SameBut f H H2:=λc o h e=>b c o h (a c o h e)
def SameBut.refl(f:Addr)(H:Hp):SameBut f H H:=λ_ _ _ h=>h
def zI0{f:Addr}{H H':Hp}(h:Same H H'):SameBut f H H':=λb o _ e=>h b o e
abbrev SameBut.of:=@zI0
def SameBut.upd(o:HO):SameBut f H (upd H f o):=λb u h e=>by rw[aB h];exact e
def zC0{H:Hp}{p:Addr}(h:H p=none)(o:HO):Same H (upd H p o):=λb u q=>by rw[aB (bi q h)];exact q
abbrev Same.new:=@zC0
def Same.but{f:Addr}(a:Same H0 H)(n:H0 f=none)(b:SameBut f H H'):Same H0 H':=λc o e=>b c o (bi e n) (a c o e)
def FeedAt(H:Hp)(f:Addr):Prop:=∃own st:Int,H f=some (.lst [.int own,.int st])/\0<=own/\0<=st/\st<=2147483646
def FeedAt.ne{b:Addr}(F:FeedAt H f)(h:H b=none):b≠f:=by
 erw[o,s,e,_]at F;intro z;subst z;rw[h]at e;cases e
def FeedAt.same(F:FeedAt H f)(s:Same H H'):FeedAt H' f:=by
 erw[o,t,e,h]at F;erw[o,t,s _ _ e,h]
instance spTake:∀(f:Addr)(m:Int),vs=[.ref f,.int m]->FeedAt H f->0<m->m<2 ^ 63->(∀(d:Int)(H':Hp),0<=d->d<m->FeedAt H' f->SameBut f H H'->Q (.int d) H'):=1
instance spFeed(K:W.Frag):∀(a:Addr)(ns:List Int)(k:Int),vs=[.ref a,.int k]->SqL K H a (ns.map V.int)->ns.length<=63->0<=k->k<1000000->(∀(p:Addr)(H':Hp),H p=none->Same H H'->FeedAt H' p->Q (.ref p) H'):=1
instance spLaw(K:W.Frag):∀(a:Addr)(ns:List Int),vs=[.ref a]->SqL K H a (ns.map V.int)->ns.length<=63->(∀H',Q (.bl true) H'):=1
def aV{n:Nat}(h:n<=1000):n<=sizeLine:=wB1 (aO h)
def DY{ns:List Int}{k:Int}(h0:0<=k)(h:k<(ns.length:Int)):∃v:Int,atI (ns.map V.int) k=some (.int v):=by
 let hk:k.toNat<ns.length:=#[0]
 let q:atI (ns.map V.int) ((k.toNat:Nat):Int)=some (.int ns[k.toNat]):=cK (by rw[zZ0,zO0 hk] <;> rfl);let ek:((k.toNat:Nat):Int)=k:=#[0]
 rw[ek]at q;erw[_,q]
@[reducible] def kO (X:Cx) (N:List Str) (scope:Scope) (cl:List (Str×Addr)) (s:Shared) (H:Hp) (fp:List Addr):Cx where
 prog:=X.prog
 w:=X.w
 K:=X.K
 mg:=X.mg
 base:=X.base
 A:=X.A
 N:=N
 s₀:=s
 H₀:=H
 env:=compEnvC scope cl ‹s› X.env
 outer:=X.stack
 stack:=X.stack
 ex:=fp
 fn:=λ_=>false
 calm:=X.calm
 pn:=[]
 xe:=λ_ _=>False
structure CompScope(X:Cx)(x:Str)(N:List Str)(ix:List Nat)(scope:Scope)(cl:List (Str×Addr)):Prop where
 clos:closureFor scope X.env=pure cl
 nocell:∀y∈scope.names,y.2≠.cell
 kind:scope.kind=.function
 names:∀y∈scope.names,y.2=.local->scope.names.lookup y.1=some .local
 own:scope.names.lookup x=some .local
 nd:(x::N).Nodup
 sub:∀p∈cl,X.env.cells.lookup p.1=some p.2
 has:((relabel scope X.env).names.all λp=>!(p.2==.cell||p.2==.free)||(cl.lookup p.1).isSome)=true
 outs:∀(j:Nat)(y:Str),N[j]?=some y->(relabel scope X.env).names.lookup y=some .cell/\∃k c,ix[j]?=some k/\X.N[k]?=some y/\cl.lookup y=some c/\X.env.scope.names.lookup y=some .cell
def outs(ix:List Nat)(σ:St):St:=ix.map λk=>(σ[k]?).join
section
variable {X:Cx}{Mp:#[7]}{σ:St}{x:Str}{N:List Str}{ix:List Nat}{scope:Scope}{cl:List (Str×Addr)}{fp:List Addr}{H3:Hp}{s3:Shared}
def CompScope.cells(S:CompScope X x N ix scope cl){y:Str}{c:Addr}(h:cl.lookup y=some c):X.env.cells.lookup y=some c:=S.sub _ (qI1 h)
def zp{M:List Str}(S:CompScope X x N ix scope cl)(I3:#[8] H3 s3)(hf:∀b∈fp,om X Mp H3 b)(Mv:∀b∈fp,b<‹s3›):(kO X M scope cl s3 H3 fp).Ok where
 mod:=I3.ok.mod
 kind:=S.kind
 glob:=I3.ok.glob
 blt:=I3.ok.blt
 above:=zH0 _
 inj:=λy z c h1 h2=>I3.ok.inj y z c (S.cells h1) (S.cells h2)
 has:=λy hy=>by
  let q:=List.all_eq_true.mp S.has;let hy:(relabel scope X.env).names.lookup y=some .cell∨(relabel scope X.env).names.lookup y=some .free:=hy;let z:∀k:NameKind,(k==.cell||k==.free)=true->(relabel scope X.env).names.lookup y=some k->∃c,cl.lookup y=some c:=λk hk e=>by
   let r:=q _ (qI1 e);rw[hk]at r;exact Option.isSome_iff_exists.mp #[r,0]
  rcases hy with e | e
  . exact z _ (by rfl) e
  . exact z _ (by rfl) e
 cab:=λ_ _ h _=>nomatch h
 hd:=I3.ok.hd
 frames:=I3.ok.frames
 stk:=.inl rfl
 exf:=λb hb=>%[zX0 (Mv b hb)|λy c e=>(hf b hb).2.2.2.2.1 y c (S.cells e)]
 bs:=λb o e=>I3.bs b o e
 bsz:=zN0 I3.ok.bsz I3.sz
 noex:=λb o e hb=>by
  rcases(hf b hb).2.2.2.1 with z | z
  . exact I3.ok.noex b o e z
  . exact absurd (qM0 (zQ0 e) (zN0 I3.ok.bsz z)) (qU0 _)
 exfs:=λb hb z=>by
  rcases zS0 (I3.stkSub b z)with e | e
  . exact(hf b hb).2.1 e
  . exact(hf b hb).2.2.1 e
 funs:=I3.stack
 frf:=I3.stkFree
def yA(pre:List Str)(S:CompScope X x N ix scope cl)(I3:#[8] H3 s3)(hf:∀b∈fp,om X Mp H3 b)(Mv:∀b∈fp,b<‹s3›)(hix:ix.length=N.length){h1:Heap}{t':Nat}{m:#[9]}
 (hn:h1.Ns ‹s3› m)(hk:∀b o,s3.heap.get? b=some o->h1.get? b=some o):Inv (kO X (pre++N) scope cl s3 H3 fp) [] (List.replicate pre.length none++outs ix σ) H3 { s3 with heap:=h1,toks:=t' } where
 ok:=zp S I3 hf Mv
 os:=rfl
 bare:=I3.bare
 base:=Un.kept hk
 loc:=by
  erw[m,hn,λi y v h1' h2 h3=>?_];let h1'':(pre++N)[i]?=some y:=h1';let h2':(List.replicate pre.length none++outs ix σ)[i]?=some (some v):=h2
  by_cases hi:i<pre.length
  . rw[zP1 (by rw[zT1];exact hi),List.getElem?_replicate,Mt hi]at h2';cases h2'
  . let hj:=Nat.le_of_not_lt hi;rw[zN1 hj]at h1'';rw[zN1 (by rw[zT1];exact hj),zT1]at h2';generalize i-pre.length=j at h1'' h2';let%[hr,k,c,e1,e2,e3|e4]:=S.outs j y h1'';unfold outs at h2';rw[zZ0,e1]at h2';let h2'':(σ[k]?).join=some v:=zV0 h2';let e5:σ[k]?=some (some v):=by
     cases q:σ[k]? with
     |none=>rw[q]at h2'';cases h2''
     |some o=>rw[q]at h2'';exact congrArg some h2''
    erw[m0,_,hl]at I3.loc;let%[u,r|l]:=hl k y v e2 e5 (.inr (.inl e4));erw[u,r,.inr %[.inl hr,c,e3|6]];rcases l with⟨kk,_⟩ | ⟨_,c',ec,z⟩
    . let kk':X.env.scope.names.lookup y=some .local:=kk;rw[e4]at kk';cases kk'
    . rw[S.cells e3]at ec;cases ec;erw[o,ho,hd]at z;erw[o,hk _ _ ho,hd]
 cell:=λy c e=>by
  let%[v,o,ho|hd]:=I3.cell y c (S.cells e);erw[v,o,hk _ _ ho,hd]
 free:=I3.hok.fresh (zH0 _)
 freeC:=λy c e=>I3.freeC y c (S.cells e)
 pin:=λp hp=>absurd (show p∈([]:#[7])from hp) #[2]
 hok:=I3.hok.kept hk
 len:=by
  show(List.replicate pre.length (none:Option V)++outs ix σ).length=(pre++N).length
  simp [outs,hix]
def AT(I3:#[8] H3 s3)(hf:∀b∈fp,om X Mp H3 b){σ':St}{h'':Heap}{N':List Str}(J:Inv (kO X N' scope cl s3 H3 fp) [] σ' H' s')(hb:Heap.SameBut ‹s3› s'.heap h''):
 #[8] H' { s' with heap:=h'' }:=by
 let ne:∀b o,s3.heap.get? b=some o->b≠‹s3›:=λb o e=>zX0 (zQ0 e)
 let B:Un (frs X.stack) fp H3 H' s3.heap s'.heap:=J.base;apply I3.call' (s':={ s' with heap:=h'' }) (ch:=fp) J.os ⟨λb o e n h1 h2=>(hb.2 b (ne b o e)).trans (B.keep b o e n h1 h2),λb o e n h1 h2=>?_,B.free,λb o e h2=>?_,B.tups,B.frzs,B.tbls⟩ (λb ob e=>?_) J.bare (λb z=>?_)
 . let%[sl|q]:=B.slot b o e n h1 h2;erw[sl,(hb.2 b (ne b o e)).trans q]
 . let%[o'|q]:=B.there b o e h2;erw[o',(hb.2 b (ne b o e)).trans q]
 . let fr:H' ‹s3›=none:=J.free;refine(J.hok b ob e).stay (λc w' hc q=>(hb.2 c ?_).trans q) (λ_ q=>q) λ_ _ q=>q
   rintro rfl;rcases hc with rfl | hc
   . rw[fr]at e;cases e
   . rw[fr]at hc;cases hc
 . let%[_,h2,_,h4,h5|h6]:=hf b z;erw[h4,h2,h5,h6]
end
abbrev TBl:=St->Hp->(Hp->Prop)->VK->Prop
def PB(X:Cx)(ifs:List Expr)(elt:Expr)(tb:TBl):Prop:=
 ∀(Mp:#[7])(s:Shared)(σ:St)(H:Hp)(skip:Hp->Prop)(keep:VK),#[8] H s->tb σ H skip keep ->
  ‹X.w› (forIn ifs true λc r=>if r=true then do let ok ←isTrue c X.env (eval c X.env);pure (ForInStep.yield ok)else pure (ForInStep.yield r))
   (λok s3=>if ok=true then ‹X.w› (eval elt X.env) (EP X Mp σ keep) X.xe s3 else ∃H',#[8] H' s3/\skip H') X.xe s
def tB0(te:TE):TBl:=λσ H _ keep=>te σ H keep
def tB1(tc:TT)(te:TE):TBl:=λσ H skip keep=>tc σ H λb H1=>if b=true then te σ H1 keep else skip H1
def du(he:PE X elt te):PB X [] elt (tB0 te):=by
 exists 4,skip,keep,I,h;apply wpAny_tests_nil ?_;rw[Mt rfl];exact he Mp s σ H keep I h
def pb_if(hc:PT X c tc)(he:PE X elt te):PB X [c] elt (tB1 tc te):=by
 exists 4,skip,keep,I,h;apply wpAny_tests_one (thn (hc Mp s σ H _ I h) λb s1 ⟨H1,I1,q1⟩=>?_);cases b with
 |true=>
   rw[Mt rfl]at q1 ⊢;exact he Mp s1 σ H1 keep I1 q1
 |false=>
   rw[Mq ⋯]at q1 ⊢;erw[H1,I1,q1]
def so(J:It)(D:Addr)(ix:List Nat)(tb:TBl)(σ:St)(H:Hp)(Q:VK):Prop:=∃W:Nat->Nat->Hp->Prop,(∃m,W 0 m (upd H D (.lst [])))/\∀i m H2,W i m H2 ->
 (J.stop i H2/\Q (.ref D) H2)∨(J.go i H2/\∀y H3,J.yld i H2 y H3->tb (some y::outs ix σ) H3 (λH4=>∃m',m'<m/\W (i+1) m' H4)
  λz H4=>∃ys,H4 D=some (.lst ys)/\ys.length<sizeLine/\∃m',m'<m/\W (i+1) m' (upd H4 D (.lst (ys++[z]))))
def Bp(wi:TI)(ix:List Nat)(tb:TBl):TE:=λσ H Q=>wi σ H λJ H1=>∀D,H1 D=none->so J D ix tb σ H1 Q
section
variable {prog:Program}{w:World}{A:Around}{E:#[6]}{R:Result->Shared->Prop}{s:Shared}
def wK{elt target iter:Expr}{ifs:List Expr}{scope:Scope}{pos:Pos}{it acc:Value}{env:Env}(I:Nat->Shared->Prop)
 (turn:∀n s,I n s->‹w.A› (pyNext it) (λr s1=>match r with
  |none=>R (.ok .next) s1
  |some v=>‹w.A› (letOwnedTupleGo target it v) (λ_ s1'=>‹w.A› (assign target env v) (λ_ s2=>
   ‹w.A› (forIn ifs true λc r=>if r=true then do let ok ←isTrue c env (eval c env);pure (ForInStep.yield ok)else pure (ForInStep.yield r)) (λok s3=>
    if ok=true then ‹w.A› (eval elt env) (λx s4=>
     ‹w.A› (call (.builtin "list.append") [acc,x]) (λ_ s5=>∃m,m<n/\I m s5) (λ_ _=>False) s4) (λ_ _=>False) s3
    else ∃m,m<n/\I m s3) (λ_ _=>False) s2) (λ_ _=>False) s1') (λ_ _=>False) s1) (λ_ _=>False) s)
 (n:Nat) (h:I n s) :
 codeAny (model prog w) A (.compLoop (.ListComp elt [%[target,iter,ifs|(0)]] scope pos) 0 it acc env) R s:=by
 let up:∀{α:Type}{t:Sem α}{Q Q':α->Shared->Prop}{E':#[6]}{s:Shared},‹w.A› t Q (λ_ _=>False) s->(∀a s,Q a s->Q' a s)->‹w.A› t Q' E' s:=
  λh q=>jH0 h q λ_ _ f=>f.elim
 apply codeAny_loop rfl I (λn s hI=>?_) n h;show wpAny _ A ((compTurn (.ListComp elt [%[target,iter,ifs|(0)]] scope pos) 0 it acc env).onRaise (λx=>do noteFrame x env;theTreesLotGoes x)) _ _ s;apply wpAny_noted ?_;rw[compTurn_list];apply zE0 (wpAny_standAt (zE0 (up (turn n s hI) λr s1 h1=>?_)));cases r with
 |none=>exact zJ0 h1
 |some v=>
   apply zE0 (up h1 λ_ s1' h1'=>?_);apply zE0 (up h1' λ_ s2 h2=>zE0 (up h2 λok s3 h3=>?_));cases ok with
   |false=>exact zJ0 %[1|h3]
   |true=>
     exact zE0 (zE0 (up h3 λx s4 h4=>zE0 (up h4 λ_ s5 h5=>zJ0 (zJ0 %[1|h5]))))
end
def AS{Y:Cx}{iter:Expr}{scope:Scope}{pos:Pos}{D:Addr}{R:Result->Shared->Prop}{Pf:St->Prop}{W:Nat->Nat->Hp->Prop}{σ0:St}{m0:Nat}
 (hc:Y.calm=true)(hx:∀v s,Y.xe v s->False)(T:Turn Y.prog Y.w Y.K tgt J fp it tn)(hg:PG Y tgt g)(hb:PB Y ifs elt tb)(stat:∀{H':Hp},(∀b∈fp,H' b=none)->∀b∈fp,om Y [] H' b)
 (turn:∀i m H2,W i m H2->(J.stop i H2/\∀ σ' s',Pf σ'->Inv Y [] σ' H2 s'->R (.ok .next) s')∨(J.go i H2/\∀y H3,J.yld i H2 y H3->∀ σ',Pf σ'->g y σ' H3 λσ8 H8=>Pf σ8/\tb σ8 H8 (λH4=>∃m',m'<m/\W (i+1) m' H4)
  λz H4=>∃ys,H4 D=some (.lst ys)/\ys.length<sizeLine/\∃m',m'<m/\W (i+1) m' (upd H4 D (.lst (ys++[z])))))
 (p0:Pf σ0) (I0:Inv Y [] σ0 H0 s0) (st0:tn 0 s0.heap) (f0:∀b∈fp,H0 b=none) (w0:W 0 m0 H0) :
 codeAny (model Y.prog Y.w) Y.A (.compLoop (.ListComp elt [%[tgt,iter,ifs|(0)]] scope pos) 0 (.ref it) (.ref D) Y.env) R s0:=by
 apply wK (λn s'=>∃i σ' H',Pf σ'/\Inv Y [] σ' H' s'/\tn i s'.heap/\(∀b∈fp,H' b=none)/\W i n H') ?_ m0 %[(0),_,_,p0,I0,st0,f0|w0];rintro n s5 ⟨i,σ5,H5,p5,I5,st5,fr5,w5⟩;rcases turn i n H5 w5 with⟨stop,qn⟩ | ⟨go,step⟩
 . apply thn (T.done Y rfl rfl rfl hc i [] s5 _ H5 _ I5 (stat fr5) st5 stop) λr s6 ⟨hr,I6⟩=>?_
   subst hr;exact qn _ _ p5 I6
 . apply thn (T.item Y rfl rfl rfl hc i [] s5 _ H5 _ I5 (stat fr5) st5 go) λr s6 ⟨u,hr,h6⟩=>?_
   subst hr;apply thn h6 λ_ s7 ⟨y,H7,I7,r7,y7,st7,fr7⟩=>?_
   apply jH0 (hg _ s7 _ H7 y u _ (I7.pinned (stat fr7) (T.obj _ _ st7)) r7 (step y H7 y7 _ p5)) (λ_ s8 ⟨σ8,H8,I8,p8,q8⟩=>?_) hx;let again:∀{H9:Hp}{s9:Shared},Inv Y ([]++rf fp s7.heap) σ8 H9 s9->(∃m',m'<n/\W (i+1) m' H9) ->
    ∃m,m<n/\∃i σ' H',Pf σ'/\Inv Y [] σ' H' s9/\tn i s9.heap/\(∀b∈fp,H' b=none)/\W i m H':=fun{H9 s9} I9 ⟨m',hm,w9⟩=>by
    erw[m',hm,i+1,_,H9,p8,I9.unpinned,T.keep _ _ _ st7 λb hb o e=>(I9.pin (b,o) (qR0 _ (qR0 _ (jT hb e)))).1,λb hb=>?_,w9];let%[o,e|d]:=T.obj _ _ st7 b hb;exact(I9.pin (b,o) (qR0 _ (qR0 _ (jT hb e)))).2.1
   apply jH0 (hb _ s8 _ _ _ _ I8 q8) (λok s9 q9=>?_) hx;cases ok with
   |false=>
     rw[Mq ⋯]at q9 ⊢;erw[H9,I9,q9]at q9;exact again I9 q9
   |true=>
     rw[Mt rfl]at q9 ⊢;apply jH0 q9 (λu s10 ⟨z,H10,I10,r10,ys,hy,hz,q10⟩=>?_) hx;apply jH0 (cx _ s10 _ H10 (.ref D) [z] (.ref D) [u] (λ_ H'=>∃m',m'<n/\W (i+1) m' H') I10 rfl (.cons r10 .nil) %[_,ys,z,1,1,hy,hz|q10]) (λ_ s11 ⟨_,H11,I11,_,q11⟩=>?_) hx;exact again I11 q11
structure Apart(X:Cx)(Mp:#[7])(H:Hp)(C:Addr):Prop where
 fr:H C=none
 lo:C≠X.env.locals
 sz:X.s₀.heap.objs.size<=C
 ce:∀y c,X.env.cells.lookup y=some c->c≠C
 pi:∀p∈X.pn++Mp,p.1≠C
def Apart.turn{σ:St}{h':Heap}(a:Apart X Mp H C)(I:#[8] H s)(hs:Heap.SameBut C s.heap h'):#[8] H { s with heap:=h' }:=
 I.turned (t':=s.toks) (λb o ne e=>(hs.2 b ne).trans e) a.fr a.lo (.inr a.sz) a.ce a.pi
section
variable {X:Cx}{x:Str}{N:List Str}{ix:List Nat}{scope:Scope}{cl:List (Str×Addr)}{elt iter:Expr}{ifs:List Expr}{px pos:Pos}{wi:TI}{tb:TBl}
def wJ(hc:X.calm=true)(S:CompScope X x N ix scope cl)(hix:ix.length=N.length)(hb:∀s3 H3 fp,PB (kO X (x::N) scope cl s3 H3 fp) ifs elt tb)
 {σ:St}{Q:VK}{fp:List Addr}{RR:Value->Addr->Result->Shared->Prop}{E:#[6]}
 (I2:#[8] H2 s2)(T:Turn X.prog X.w X.K (.Name x px) J fp it tn)(st2:tn 0 s2.heap)(f2:∀b∈fp,om X Mp H2 b)
 (h:∀D,H2 D=none->∃W:Nat->Nat->Hp->Prop,(∃m,W 0 m (upd H2 D (.lst [])))/\∀i m H3,W i m H3 ->
  (J.stop i H3/\Q (.ref D) H3)∨(J.go i H3/\∀y H4,J.yld i H3 y H4->tb (some y::outs ix σ) H4 (λH5=>∃m',m'<m/\W (i+1) m' H5)
   λz H5=>∃ys,H5 D=some (.lst ys)/\ys.length<sizeLine/\∃m',m'<m/\W (i+1) m' (upd H5 D (.lst (ys++[z])))))
 (hRR:∀(D C:Addr)(H':Hp)(s':Shared)(m:#[9]),s'.heap.Ns C m->Apart X Mp H' C->#[8] H' s'->Q (.ref D) H'->RR (.ref D) C (.ok .next) s') :
 ‹X.w› (newList []) (λacc s3=>‹X.w› (newFunctionEnv scope X.env.globals cl [] X.env.qual none .none (some X.env)) (λcenv s4=>
  codeAny (model X.prog X.w) X.A (.compStart (.ListComp elt [%[.Name x px,iter,ifs|(0)]] scope pos) 0 (.ref it) acc { cenv with scope:=relabel scope X.env }) (RR acc cenv.locals) s4) E s3) E s2:=by
 apply zW1 (wpAny_newFunctionEnv S.nocell (by intro y hy;simp at hy) (λh1 hns1 hsb1=>?_) S.kind)
 dsimp only at hns1 hsb1 ⊢
 let I3:#[8] (upd H2 ‹s2› (.lst [])) { s2 with heap:=s2.heap.push { cls:=.type "list",dict:=none,data:=.seq ([]:List Value).toArray } }:=I2.lnew (its:=[]) (ys:=[]) (t':=s2.toks) .nil (zT0 _);let hD:H2 ‹s2›=none:=I2.fresh;let%[W,%[m0|w0]|turn]:=h ‹s2› hD;let hltF:∀b∈fp,b<‹s2›:=λb hb=>by
  let%[o,e|_]:=T.obj 0 _ st2 b hb;exact zQ0 e
 generalize hs3:({ s2 with heap:=s2.heap.push { cls:=.type "list",dict:=none,data:=.seq ([]:List Value).toArray } }:Shared)=s3 at I3;let eh:s2.heap.push { cls:=.type "list",dict:=none,data:=.seq ([]:List Value).toArray }=s3.heap:=by rw[←hs3]
 let et:s2.toks=s3.toks:=by rw[←hs3]
 rw[eh]at hns1 hsb1 ⊢;let sz3:‹s3›=‹s2›+1:=by rw[←eh,wF1]
 let hlt3:∀b∈fp,b<‹s3›:=λb hb=>qM0 (hltF b hb) (by rw[sz3];exact qN0 _)
 let f3:∀b∈fp,om X Mp (upd H2 ‹s2› (.lst [])) b:=λb hb=>by
  let%[q1|q2]:=f2 b hb;erw[by rw[aB (zX0 (hltF b hb))];exact q1,q2]
 let up:∀b o,s3.heap.get? b=some o->h1.get? b=some o:=λb o e=>hsb1.extBut b o (zX0 (zQ0 e)) (zU0 _ e)
 let old:∀b o,s2.heap.get? b=some o->h1.get? b=some o:=λb o e=>up b o (by rw[←eh];exact zU0 _ e)
 let es:({ s2 with heap:=h1,toks:=s2.toks+([]:List (Str×Value)).length }:Shared)={ s3 with heap:=h1,toks:=s2.toks+([]:List (Str×Value)).length }:=by rw[←hs3]
 rw [es];let I4:Inv (kO X (x::N) scope cl s3 (upd H2 ‹s2› (.lst [])) fp) [] (none::outs ix σ) (upd H2 ‹s2› (.lst [])) { s3 with heap:=h1,toks:=s2.toks+([]:List (Str×Value)).length }:=
  yA [x] S I3 f3 hlt3 hix hns1 up
 let st4:tn 0 h1:=T.keep 0 _ _ st2 λb _ o e=>old b o e
 let loop:codeAny (model X.prog X.w) X.A (.compLoop (.ListComp elt [%[.Name x px,iter,ifs|(0)]] scope pos) 0 (.ref it) (.ref ‹s2›) (compEnvC scope cl ‹s3› X.env)) (RR (.ref ‹s2›) ‹s3›)
  { s3 with heap:=h1,toks:=s2.toks+([]:List (Str×Value)).length }:=by
  let k:=zp (M:=x::N) S I3 f3 hlt3;apply AS (Y:=kO X (x::N) scope cl s3 (upd H2 ‹s2› (.lst [])) fp) (Pf:=λσ'=>∃v0,σ'=v0::outs ix σ) hc (λ_ _ z=>z) T (bt (i:=0) S.nd rfl (.inl (lookup_relabel_local S.own)) (.inr (lookup_relabel_local S.own))) (hb _ _ _) (λhn b hb=>%[hn b hb,(k.exf b hb).1,k.exfs b hb,.inl hb,(k.exf b hb).2|λp hp=>absurd (show p∈([]:#[7])from hp) #[2]]) (λi m H5 w5=>(turn i m H5 w5).imp (fun⟨stop,qn⟩=>%[stop|λσ' s6 _ I6=>?_]) (fun⟨go,step⟩=>⟨go,λy H3 y7 σ' ⟨v0,e⟩=>by
   subst e;erw[%[|0],step y H3 y7]⟩)) ⟨none,rfl⟩ I4 st4 (λb hb=>(f3 b hb).1) w0
  erw[m6,hn6,_]at I6.loc;exact hRR _ _ H5 s6 m6 hn6 ⟨I6.free,Ne.symm (zX0 I3.lt),I3.sz,λy c e z=>by
   let%[v|q]:=I3.cell y c e;exact absurd q.lt (by rw[z];exact qU0 _),λp hp z=>absurd (zQ0 (I3.pin p hp).1) (by rw[z];exact qU0 _)⟩ (AT I3 f3 I6 (Heap.SameBut.refl _ _)) qn
 exact codeAny_compStart_list loop (T.self _ 0 _ _ _ st4 loop)
def cJ(hc:X.calm=true)(S:CompScope X x N ix scope cl)(hix:ix.length=N.length)(hi:PI X (.Name x px) iter wi)(hb:∀s3 H3 fp,PB (kO X (x::N) scope cl s3 H3 fp) ifs elt tb)
 (hs:∀x,foldedSetIterable iter X.env x=pure x:=by intro _;rfl):PE X (.ListComp elt [%[.Name x px,iter,ifs|(0)]] scope pos) (Bp wi ix tb):=by
 exists 4,Q,I,h;rw[eval_ListComp];apply wpAny_comprehension_free (use:=none) rfl hs S.clos S.kind S.names (thn (hi Mp s σ H _ I h) λxv s1 h1=>thn h1 λitv s2 h2=>?_);erw[it,fp,tn,J,H2,1,I2,T,st2,f2,R]at h2;apply wJ hc S hix hb (RR:=λacc C=>compPost (model X.prog X.w) X.A X.xe none (EP X Mp σ Q) acc C) I2 T st2 f2 R ?_;intro D C H' s' m hn ap I' q;erw[m,hn,λh'' hb''=>%[.ref D,H',ap.turn I' hb'',1|q]]
def yT{i:Nat}{y:Str}{py spos:Pos}(hN:X.N.Nodup)(hi0:X.N[i]?=some y)(hx:Loc X.env.scope y)(hc:X.calm=true)(S:CompScope X x N ix scope cl)(hix:ix.length=N.length)(hi:PI X (.Name x px) iter wi)(hb:∀s3 H3 fp,PB (kO X (x::N) scope cl s3 H3 fp) ifs elt tb)
 (hsw:swapsWith (.ListComp elt [%[.Name x px,iter,ifs|(0)]] scope pos) (some (.Name y py)) spos.line X.env=pure true:=by rfl')
 (hs:∀x,foldedSetIterable iter X.env x=pure x:=by intro _;rfl)(hf:X.fn y=true∨X.env.scope.names.lookup y=some .local:=by first | exact .inl rfl | exact .inr rfl | assumption):
 PS X (.Assign [.Name y py] (.ListComp elt [%[.Name x px,iter,ifs|(0)]] scope pos) spos) (λD σ H=>Bp wi ix tb σ H λv H'=>D.nx (σ.set i (some v)) H'):=by
 exists 4,Dn,I,h;rw[exec_Assign_Name_used _ _ _ _ hsw];apply zE0 (wpAny_standAt (zE0 ?_));show wpAny _ X.A (do let _ ←comprehension (.ListComp elt [%[.Name x px,iter,ifs|(0)]] scope pos) scope X.env _ (newList []) false (eval iter X.env) (some (assign (.Name y py) X.env))) _ _ s;apply zE0 (jH0 (wpAny_comprehension_free (use:=some (assign (.Name y py) X.env)) (Q:=λ_ s'=>SP X Mp Dn .next s') rfl hs S.clos S.kind S.names
  (thn (hi Mp s σ H _ I h) λxv s1 h1=>thn h1 λitv s2 h2=>?_)) (λ_ s' hq=>zJ0 (zJ0 hq)) λ_ _ e=>e)
 erw[it,fp,tn,J,H2,1,I2,T,st2,f2,R]at h2;apply wJ hc S hix hb (RR:=λacc C=>compPost (model X.prog X.w) X.A X.xe (some (assign (.Name y py) X.env)) (λ_ s'=>SP X Mp Dn .next s') acc C) (Q:=λv H'=>Dn.nx (σ.set i (some v)) H') I2 T st2 f2 R ?_;intro D C H' s' m hn ap I' q;show wpAny _ X.A (assign (.Name y py) X.env (.ref D)) _ _ _;apply wpAny_assign_Name (sQ I' hN hi0 hx (v:=.ref D) rfl (λs'' I'' hsb=>?_) hf);erw[a,hsb,ha]at hsb;let ne:C≠a:=by
  rcases ha with z | z
  . rw[z];exact ap.lo
  . exact Ne.symm (ap.ce y a z)
 erw[m,hn.sameBut hsb ne,λh'' hb''=>%[_,H',ap.turn I'' hb''|q]]
end
section
variable {X:Cx}{Mp:#[7]}{σ:St}{H:Hp}{s:Shared}{h':Heap}
def Inv.turnedNew{t':Nat}{ch:List Addr}{T:Addr}(I:#[8] H s)(k:∀b u,b∉ch->s.heap.get? b=some u->h'.get? b=some u)(hf:∀b∈ch,om X Mp H b)(hT:‹s›<=T)
 (new:ObjOk X.prog X.w (upd H T o) h' T o):#[8] (upd H T o) { s with heap:=h',toks:=t' }:=by
 let nit:∀b u,H b=some u->b∉ch:=λb u e z=>by rw[(hf b z).1]at e;cases e
 let hn:H T=none:=I.hok.fresh hT;let lt:∀b u,s.heap.get? b=some u->b≠T:=λb u e=>zX0 (qM0 (zQ0 e) hT)
 apply I.step (g':=s.gens) (d':=s.drawn) (ch:=ch) (λb hb=>?_) (λb u _ _ hc e _=>k b u hc e) (λb u _ _ hc e _=>%[u.slots|k b u hc e]) (λb u _ e n=>by rw[aB (lt b u e)];exact n) (λb u hc e=>%[u|k b u hc e])
  (λb xs e=>by rw[aB (bi e hn)];exact e) (λb ob u e=>by rw[aB (bi e hn)];exact e) (λb ps e=>%[#[]|by rw[aB (bi e hn),e];simp]) (λm hm=>?_) (λb u e=>?_) I.bare
 . let%[_,h2,_,h4,h5|h6]:=hf b hb;erw[h4,h2,h5,h6]
 . erw[ob,es,ep,ho,r]at hm;erw[ob,es,ep,k _ ob (λz=>(hf _ z).2.1 rfl) ho,r]
 . by_cases hb:b=T
   . subst hb;rw[bh]at e;cases e;exact new
   . rw [aB hb]at e;refine(I.hok b u e).stay (λc v hc q=>k c v ?_ q) (λc q=>by rw[aB (bi q hn)];exact q) λc xs q=>by rw[aB (bi q hn)];exact q
     rcases hc with z | z
     . rw[z];exact nit b u e
     . exact nit c _ z
def Inv.turnedL{t':Nat}{ch:List Addr}(I:#[8] H s)(k:∀b u,b∉ch->s.heap.get? b=some u->h'.get? b=some u)(hf:∀b∈ch,om X Mp H b):#[8] H { s with heap:=h',toks:=t' }:=by
 let nit:∀b u,H b=some u->b∉ch:=λb u e z=>by rw[(hf b z).1]at e;cases e
 apply I.step (g':=s.gens) (d':=s.drawn) (ch:=ch) (λb hb=>?_) (λb u _ _ hc e _=>k b u hc e) (λb u _ _ hc e _=>%[u.slots|k b u hc e]) (λ_ _ _ _ n=>n) (λb u hc e=>%[u|k b u hc e])
  (λ_ _ e=>e) (λ_ _ _ e=>e) (λb ps e=>%[#[]|by rw[e];simp]) (λm hm=>?_) (λb u e=>?_) I.bare
 . let%[_,h2,_,h4,h5|h6]:=hf b hb;erw[h4,h2,h5,h6]
 . erw[ob,es,ep,ho,r]at hm;erw[ob,es,ep,k _ ob (λz=>(hf _ z).2.1 rfl) ho,r]
 . apply (I.hok b u e).stay (λc v hc q=>k c v ?_ q) (λ_ q=>q) λ_ _ q=>q
   rcases hc with z | z
   . rw[z];exact nit b u e
   . exact nit c _ z
end
def Ite(K:W.Frag)(a:Addr):It:=
 ⟨λi H=>∃xs x,SqL K H a xs/\xs[i]?=some x,λi H y H'=>∃t,y=.ref t/\H t=none/\∀xs x,SqL K H a xs->xs[i]?=some x->H'=upd H t (.tup [.int i,x]),λi H=>∃xs,SqL K H a xs/\xs.length<=i⟩
def zz{K:W.Frag}{elts:List Expr}{k:Nat}{pos:Pos}(a e it:Addr)(hei:e≠it):
 Turn P w K (.Tuple elts k pos) (Ite K a) [e,it] e (λi h=>(∃old,IsEnum h e it i old)/\h.IsListIter it a i) where
 mem:=by simp
 obj:=λi h st b hb=>by
  erw[%[old|he],o,e2,c,d]at st;rcases zS0 hb with z | z
  . subst z;erw[_,he,λv z=>nomatch z]
  . let z':=zR0 z;subst z';erw[o,e2,λv z=>by rw[d]at z;cases z]
 keep:=λi h h' st k=>by
  erw[%[old|he],hit]at st;erw[%[old|k e #[2] _ he],hit.at λo x=>k it #[2] o x]
 item:=by
  exists 5;erw[xs,x,hq,hx]at hg;let%[its,rv,p|hz]:=I.list hq;let%[u,hu|ru]:=rv.get hx;erw[%[old|he],hit]at st;apply wpAny_pyNext_enum_item he hit p.isList (x:=u) #[hu,0] hei λh1 ho hit1 hT hsz hk=>?_
  erw[0,wpAny_letOwnedTupleGo_enum ho λh2 he2 hs2=>?_];let elt:e<‹s›:=zQ0 he;let hT2:h2.get? ‹s›=some { cls:=.type "tuple",data:=.seq #[.int i s.toks,u] }:=(hs2.2 _ (Ne.symm (zX0 elt))).trans hT;let I2:#[8] (upd H ‹s› (.tup [.int i,x])) { s with heap:=h2,toks:=s.toks+1 }:=by
   apply I.turnedNew (ch:=[e,it]) (λb ob hb eb=>?_) hf (zH0 _) %[by show 2<=sizeLine;decide,[.int i s.toks,u],.cons %[|0] (.cons ru .nil),%[_,hT2,1|0],_,hT2|1];let b1:b≠e:=λz=>hb (by simp [z])
   let b2:b≠it:=λz=>hb (by simp [z])
   exact(hs2.2 b b1).trans (hk b ob b1 b2 eb)
  erw[.ref ‹s›,_,I2,1,%[0,I.hok.fresh (zH0 _)|λys y hy hyi=>?_],%[%[u|by simpa using he2]|hit1.at λo z=>(hs2.2 it (Ne.symm hei)).trans z],λb hb=>?_]
  . let e1:=I.list_inj hy hq;subst e1;rw[hx]at hyi;cases hyi;rfl
  . let z:=hf b hb;let Mv:b<‹s›:=by
     rcases zS0 hb with y | y
     . rw[y];exact elt
     . rw[zR0 y];erw[o,e2,_]at hit;exact zQ0 e2
    rw[aB (zX0 Mv)];exact z.1
 done:=by
  exists 5;erw[xs,hq,hx]at hg;let%[its,rv,p|hz]:=I.list hq;erw[%[old|he],hit]at st;let hl:=rv.length;exact wpAny_pyNext_enum_end (I.ok.hd hc) he hit p.isList (Array.getElem?_eq_none (by simp;omega)) λh' eb=>%[1|I.turnedL (t':=s.toks) (ch:=[e,it]) (λb o hb eo=>eb b o (λz=>hb (by simp [z])) eo) hf]
 self:=λ_ _ _ _ _ st h=>by
  erw[%[old|he],_]at st;exact jP1 he h
section
variable {X:Cx}{elts:List Expr}{k:Nat}{tpos:Pos}
instance ZiEnum(K:W.Frag)(R:(It->Hp->Prop))(x:V)(H1:Hp):∀a,x=.ref a->(∃xs,SqL K H1 a xs)->R (Ite K a) H1:=0
def iEnum(K:W.Frag)(tl:TE):TI:=λσ H R=>tl σ H λx H1=>ZiEnum K R x H1
def EQ{p pos:Pos}(hg:Gl X "enumerate")(hm:X.mg "enumerate"=none)(hl:PE X l tl)(hs:starEach [l] X.env=[(false,eval l X.env)]:=by rfl):
 PI X (.Tuple elts k tpos) (.Call (.Name "enumerate" p) [l] [] pos) (iEnum X.K tl):=by
 exists 4,R,I,h;apply Call_ (ji I hg hm boot_enumerate (zS1 ?_ hs rfl));rw[hs];show wpAny _ _ (spliced ((false,eval l X.env)::backTo pos (starEach [] X.env))) _ _ s;apply qK1 (thn (hl Mp s σ H _ I h) λu s1 ⟨x,H1,I1,r1,a,ex,⟨xs,hq⟩,q⟩=>?_);subst ex;cases r1;let%[its,rv,p|hz]:=I1.list hq;apply qZ0 ?_;apply call_enumerate_list p.isList λh' he hit hsz hk=>?_
 apply jP1 he ?_;let I2:#[8] H1 { s1 with heap:=h' }:=I1.kept (t':=s1.toks) hk;erw[‹s1›+1,[‹s1›+1,‹s1›],_,_,H1,1,I2,zz a _ _ (wO1 (qV1 _)),%[%[_|he]|hit],λb hb=>?_,q];rcases zS0 hb with z | z
 . rw[z];exact I1.fpOk (qN0 _) (I1.hok.fresh (qN0 _))
 . rw[zR0 z];exact I1.fpOk (zH0 _) (I1.hok.fresh (zH0 _))
end
def DG{K:W.Frag}{xs:List V}{g:TG}{tb:TS}{D:Ends}{σ:St}{H:Hp}(Pv:Nat->St->Hp->Prop)(h0:Pv 0 σ H)(hl:∀i σ H,i<=xs.length->Pv i σ H->SqL K H a xs)
 (hs:∀i x σ H t,xs[i]?=some x->Pv i σ H->H t=none->g (.ref t) σ (upd H t (.tup [.int i,x])) λσ2 H2=>tb { D with nx:=Pv (i+1),ct:=Pv (i+1),bk:=D.nx } σ2 H2)(hd:∀ σ H,Pv xs.length σ H->D.nx σ H):
 ∃ W:Nat->Nat->St->Hp->Prop,(∃m,W 0 m σ H)/\∀i m σ H,W i m σ H ->
  ((Ite K a).stop i H/\D.nx σ H)∨((Ite K a).go i H/\∃N:St->Hp->Prop,(∀ σ' H',N σ' H'->∃m',m'<m/\W (i+1) m' σ' H')/\∀x H',(Ite K a).yld i H x H'->g x σ H' λσ2 H2=>tb { D with nx:=N,ct:=N,bk:=D.nx } σ2 H2):=by
 erw[λi m σ H=>m=xs.length-i/\i<=xs.length/\Pv i σ H,%[xs.length,by simp,zT0 _|h0],6];rintro i m σ H ⟨rfl,hi,p⟩;let q:=hl i σ H hi p
 by_cases Mv:i<xs.length
 . refine .inr %[%[xs,xs[i],q|by simp [Mv]],Pv (i+1),λσ' H' p'=>%[xs.length-(i+1),3,1,Mv|p']|λx H' y=>?_];erw[t,1,ht,e]at y;let e':=e xs xs[i] q (by simp [Mv]);subst e';exact hs i xs[i] σ H t (by simp [Mv]) p ht
 . let e:i=xs.length:=#[0]
   subst e;exact .inl %[%[xs,q|zH0 _]|hd σ H p]
mutual
inductive Rep(K:W.Frag)(H:Hp):V->PyData->Prop
 |non:Rep K H .non .none
 |bl (b:Bool):Rep K H (.bl b) (.bool b)
 |int (i:Int):Rep K H (.int i) (.int i)
 |str (x:Str):Rep K H (.str x) (.str x)
 |tup {a:Addr} {xs:List V} {ds:List PyData}:SqT K H a xs->RepAll K H xs ds->Rep K H (.ref a) (.tuple ds)
 |lst {a:Addr} {xs:List V} {ds:List PyData}:SqL K H a xs->RepAll K H xs ds->Rep K H (.ref a) (.list ds)
inductive RepAll(K:W.Frag)(H:Hp):List V->List PyData->Prop
 |nil:RepAll K H [] []
 |cons {x:V} {d:PyData} {xs:List V} {ds:List PyData}:Rep K H x d->RepAll K H xs ds->RepAll K H (x::xs) (d::ds)
end
section
variable {X:Cx}{Mp:#[7]}{σ:St}{H:Hp}{s:Shared}
mutual
def Rep.reads(I:#[8] H s):∀{x:V}{d:PyData}{v:Value},Rep X.K H x d->RelV x v->∃as,Reads s.heap v d as
 |_,_,v,.non,r=>by cases(show v=Value.none from r);erw[_,Reads.none]
 |_,_,v,.bl b,r=>by cases(show v=Value.bool b from r);erw[_,Reads.bool b]
 |_,_,v,.int i,r=>by let%[t|e]:=(show ∃t,v=Value.int i t from r);cases e;erw[_,Reads.int i t]
 |_,_,v,.str x,r=>by let%[t|e]:=(show ∃t,v=Value.str x t from r);cases e;erw[_,Reads.str x t]
 |_,_,v,.tup (a:=a) h q,r=>by
   cases(show v=Value.ref a from r);let%[its,rv,%[o,ho,hc,n|hd]|_]:=I.tuple h;let%[as|z]:=RepAll.reads I q rv;erw[_,reads_tuple_at ho hc hd #[z,0]]
 |_,_,v,.lst (a:=a) h q,r=>by
   cases(show v=Value.ref a from r);let%[its,rv,%[o,n,ho,hc,_|hd]|_]:=I.list h;let%[as|z]:=RepAll.reads I q rv;erw[_,reads_list_at ho hc hd #[z,0]]
def RepAll.reads(I:#[8] H s):∀{xs:List V}{ds:List PyData}{vs:List Value},RepAll X.K H xs ds->Vals xs vs->∃as,ReadsAll s.heap vs ds as
 |_,_,_,.nil,.nil=>%[_|ReadsAll.nil]
 |_,_,_,.cons h q,.cons r rs=>by
   let%[as|z]:=Rep.reads I h r;let%[bs|y]:=RepAll.reads I q rs;erw[_,ReadsAll.cons z y]
end
end
def vI{K:W.Frag}:∀ns:List Int,RepAll K H (ns.map V.int) (ns.map PyData.int)
 | []=>.nil
 |n::r=>.cons (.int n) (vI r)
section
variable {X:Cx}
instance rEqD(K:W.Frag)(x:V)(y:V)(H:Hp)(Q:VK):∀d e,Rep K H x d->Rep K H y e->SeqAt.shaped d=true->SeqAt.shaped e=true->Q (.bl (PyData.eqv d e)) H:=0
def Cn(hu:X.A.units+64<cLine):OpR X (compareOp .Eq) (rEqD X.K):=by
 exists 4,x,y,v,u,Q,I,rx,ry,h;erw[d,e,hd,he,sd,se,q]at h;let%[as|r1]:=Rep.reads I hd rx;let%[bs|r2]:=Rep.reads I he ry;exact eq_dataH r1 r2 sd se hu %[.bl _,H,I,1|q]
instance rCatT0(K:W.Frag)(x:V)(y:V)(H:Hp)(Q:VK):∀a b ys,x=.ref a->y=.ref b->SqT K H a []->SqT K H b ys->Q (.ref b) H:=0
def nv:OpR X (binaryOp .Add) (rCatT0 X.K):=by
 exists 4,x,y,v,u,Q,I,rx,ry,h;erw[a,b,ys,1,1,ha,hb,q]at h;cases rx;cases ry;let%[its,r1,p1|_]:=I.tuple ha;let%[its2,r2,p2|_]:=I.tuple hb;let%[%[cls,dd,data|sl],ho,hc,n|hd]:=id p1;let%[%[cls2,dd2,data2|sl2],ho2,hc2,n2|hd2]:=id p2;simp only at hc hd hc2 hd2;subst hc hd hc2 hd2;let e:its=[]:=r1.nil_iff.mpr rfl;exact concat_meets %[_,ho|1] ⟨_,ho2,rfl⟩ wL1 seq_tuple_add jN0 jK0 (jH1 _ _)
  (tuple_addW0 a b its.toArray its2.toArray n n2 dd dd2 sl sl2 (by simp [e])) %[ho,ho2|%[.ref b,H,I,1|q]]
end
def Nx(n i:Nat)(Pv:Nat->Hp->Prop)(H:Hp):Prop:=∃m',m'<n-i/\(m'=n-(i+1)/\i+1<=n/\Pv (i+1) H)
def Nx.of{n i:Nat}{Pv:Nat->Hp->Prop}{H:Hp}(h:i<n)(p:Pv (i+1) H):Nx n i Pv H:=%[n-(i+1),3,1,h|p]
def eY{K:W.Frag}{xs:List V}{tb:TBl}{Q:VK}(Pv:Nat->Hp->Prop)(h0:Pv 0 (upd H D (.lst [])))(hl:∀i H,i<=xs.length->Pv i H->SqT K H a xs)
 (hs:∀i x H,xs[i]?=some x->Pv i H->tb (some x::outs ix σ) H (Nx xs.length i Pv) λz H'=>∃ys,H' D=some (.lst ys)/\ys.length<sizeLine/\Nx xs.length i Pv (upd H' D (.lst (ys++[z]))))(hd:∀H,Pv xs.length H->Q (.ref D) H):
 so (Itt K a) D ix tb σ H Q:=by
 erw[λi m H=>m=xs.length-i/\i<=xs.length/\Pv i H,%[xs.length,by simp,zT0 _|h0],6];rintro i m H ⟨rfl,hi,p⟩;let q:=hl i H hi p
 by_cases Mv:i<xs.length
 . refine .inr %[%[xs,xs[i],q|by simp [Mv]]|λx H' y=>?_];erw[e,y]at y;subst e;exact hs i x _ (y xs q) p
 . let e:i=xs.length:=#[0]
   subst e;exact .inl %[%[xs,q|zH0 _]|hd H p]
def jz{K:W.Frag}{xs:List V}{tb:TBl}{Q:VK}(Pv:Nat->Hp->Prop)(h0:Pv 0 (upd H D (.lst [])))(hl:∀i H,i<=xs.length->Pv i H->SqL K H a xs)
 (hs:∀i x H,xs[i]?=some x->Pv i H->tb (some x::outs ix σ) H (Nx xs.length i Pv) λz H'=>∃ys,H' D=some (.lst ys)/\ys.length<sizeLine/\Nx xs.length i Pv (upd H' D (.lst (ys++[z]))))(hd:∀H,Pv xs.length H->Q (.ref D) H):
 so (Itl K a) D ix tb σ H Q:=by
 erw[λi m H=>m=xs.length-i/\i<=xs.length/\Pv i H,%[xs.length,by simp,zT0 _|h0],6];rintro i m H ⟨rfl,hi,p⟩;let q:=hl i H hi p
 by_cases Mv:i<xs.length
 . refine .inr %[%[xs,xs[i],q|by simp [Mv]]|λx H' y=>?_];erw[e,y]at y;subst e;exact hs i x _ (y xs q) p
 . let e:i=xs.length:=#[0]
   subst e;exact .inl %[%[xs,q|zH0 _]|hd H p]
def gn{lo:Int}{n:Nat}{tb:TBl}{Q:VK}(Pv:Nat->Hp->Prop)(h0:Pv 0 (upd H D (.lst [])))
 (hs:∀i H,i<n->Pv i H->tb (some (.int (lo+i))::outs ix σ) H (Nx n i Pv) λz H'=>∃ys,H' D=some (.lst ys)/\ys.length<sizeLine/\Nx n i Pv (upd H' D (.lst (ys++[z]))))(hd:∀H,Pv n H->Q (.ref D) H):
 so (Itr lo n) D ix tb σ H Q:=by
 erw[λi m H=>m=n-i/\i<=n/\Pv i H,%[n,by simp,zT0 _|h0],6];rintro i m H ⟨rfl,hi,p⟩
 by_cases Mv:i<n
 . refine .inr %[Mv|λx H' y=>?_];erw[e,y]at y;subst e y;exact hs i _ Mv p
 . let e:i=n:=#[0]
   subst e;exact .inl %[zH0 _|hd H p]
def CompScope.closed{X:Cx}{x:Str}{scope:Scope}(c1:closureFor scope X.env=pure [])(c2:∀y∈scope.names,y.2≠.cell)(c3:scope.kind=.function)(c4:∀y∈scope.names,y.2=.local->scope.names.lookup y.1=some .local)
 (c5:scope.names.lookup x=some .local)(c6:((relabel scope X.env).names.all λp=>!(p.2==.cell||p.2==.free)||((([]:List (Str×Addr))).lookup p.1).isSome)=true):CompScope X x [] [] scope [] where
 clos:=c1
 nocell:=c2
 kind:=c3
 names:=c4
 own:=c5
 nd:=by simp
 sub:=λp hp=>absurd hp #[2]
 has:=c6
 outs:=λj y h=>by simp at h
section
variable {X:Cx}
def Dt(K:W.Frag)(hK:X.K=K:=by rfl):IxR X (rIxL K):=by subst hK;exact ix_list
end
def Its(z:Str):It:=⟨λi _=>i<z.cps.size,λi H x H'=>H'=H/\∃c,z.cps[i]?=some c/\x=.str %[|#[c]],λi _=>z.cps.size<=i⟩
def qj{prog:Program}{w:World}{A:Around}(hh:A.handled=none)(I:Addr)(x:Str)(t:Tok):Walks prog w A I [I] [I] x.cps.size (SignAt x) (λi h=>h.IsStrIter I (strIterType x) x t i):=by
 unfold strIterType
 split
 . exact Walks.strAscii hh I x t
 . exact Walks.strWide hh I x t
def Bj{K:W.Frag}{y:Str}{py:Pos}(z:Str)(t:Tok)(it:Addr):Turn P w K (.Name y py) (Its z) [it] it (λi h=>i<=z.cps.size/\h.IsStrIter it (strIterType z) z t i) where
 mem:=by simp
 obj:=λi h st b hb=>by
  let e:b=it:=#[hb,0]
  subst e;erw[_,o,e,c,d]at st;erw[o,e,λv z=>by rw[d]at z;cases z]
 keep:=λi h h' st k=>by
  erw[hi,o,e,r]at st;erw[hi,o,k it #[2] o e,r]
 item:=by
  exists 5;let%[f0,f1,f2,f3,f4|f5]:=hf it #[2];refine(qj (I.ok.hd hc) it z t).item i s _ E hg st.2 λv h' tk hP Mx hk=>?_
  erw[c,u,hcx,1]at hP;let I1:#[8] H { s with heap:=h',toks:=tk }:=I.turned (λb o hb e=>hk b o #[hb,0] e) f0 f1 f3 f4 f5;erw[0,jB0 (a:=()) rfl %[.str %[|#[c]],H,I1,%[|0],%[1,c,hcx|1],%[hg|Mx]|λb hb=>(hf b hb).1]]
 done:=by
  exists 5;let%[f0,f1,f2,f3,f4|f5]:=hf it #[2];let e:i=z.cps.size:=Nat.le_antisymm st.1 hg;subst e;refine(qj (I.ok.hd hc) it z t).done s _ E st.2 λh' tk hk=>?_
  erw[1,I.turned (λb o hb e=>hk b o #[hb,0] e) f0 f1 f3 f4 f5]
 self:=λA i s Q E st h=>by
  erw[_,st]at st;unfold strIterType at st
  split at st
  . exact wpAny_pyIter_striter_ascii st h
  . exact wpAny_pyIter_striter_wide st h
section
variable {X:Cx}{y:Str}{py:Pos}
instance ZiStr(R:(It->Hp->Prop))(x:V)(H1:Hp):∀z,x=.str z->R (Its z) H1:=0
def iStr(tl:TE):TI:=λσ H R=>tl σ H λx H1=>ZiStr R x H1
def Cd(hl:PE X l tl):PI X (.Name y py) l (iStr tl):=by
 exists 4,R,I,h;apply thn (hl Mp s σ H _ I h) λv s1 ⟨x,H1,I1,r1,q1⟩=>?_
 erw[z,e,q]at q1;subst e;erw[t,1]at r1;apply wpAny_pyIter_strU ?_;erw[‹s1›,[‹s1›],_,_,H1,1,I1.kept (t':=s1.toks) λb o e=>zU0 _ e,Bj z t _,%[zT0 _,_,qC0 _ rfl,1|1],λb hb=>?_,q];let e:b=‹s1›:=#[hb,0]
 subst e;exact I1.fpOk (zH0 _) (I1.hok.fresh (zH0 _))
end
def rW{z:Str}{tb:TBl}{Q:VK}(Pv:Nat->Hp->Prop)(h0:Pv 0 (upd H D (.lst [])))
 (hs:∀i c H,z.cps[i]?=some c->Pv i H->tb (some (.str %[|#[c]])::outs ix σ) H (Nx z.cps.size i Pv) λu H'=>∃ys,H' D=some (.lst ys)/\ys.length<sizeLine/\Nx z.cps.size i Pv (upd H' D (.lst (ys++[u]))))(hd:∀H,Pv z.cps.size H->Q (.ref D) H):
 so (Its z) D ix tb σ H Q:=by
 erw[λi m H=>m=z.cps.size-i/\i<=z.cps.size/\Pv i H,%[z.cps.size,by simp,zT0 _|h0],6];rintro i m H ⟨rfl,hi,p⟩
 by_cases Mv:i<z.cps.size
 . refine .inr %[Mv|λx H' y=>?_];erw[e,c,hc,1]at y;subst e;exact hs i c _ hc p
 . let e:i=z.cps.size:=#[0]
   subst e;exact .inl %[zH0 _|hd H p]
section
variable {X:Cx}
instance rSlS(x:V)(lo:Option Int)(hi:Option Int)(H:Hp)(Q:VK):∀z,x=.str z->z.length<=sizeLine->Q (.str (Txt.slice z lo hi)) H:=0
def qz:SlR X rSlS:=by
 exists 4,x,v,vl,vu,lo,hi,sl,Q,I,rx,hs,pl,pu,h;erw[z,1,hz,q]at h;erw[t,1]at rx;erw["str",_,F.slot_str_getitem.lookup,jV1 _ _ _,6];let fin:∀t' k,EP X Mp σ Q (.str (Txt.slice z lo hi) t') { s with toks:=k }:=λt' k=>%[.str _,H,I.tok k,%[|0]|q]
 erw[o,ho,hc,hd]at hs;cases pl with
 |none=>
   cases pu with
   |none=>exact jB1 (l:=none) (u:=none) (st:=none) %[o,ho,hc|hd] rfl (jZ0 ⟨zN0 (jQ1 z _ _) hz,fin⟩)
   |int j u=>exact jB1 (l:=none) (u:=some (j,u)) (st:=none) %[o,ho,hc|hd] rfl (jZ0 ⟨zN0 (jQ1 z _ _) hz,fin⟩)
 |int i u'=>
   cases pu with
   |none=>exact jB1 (l:=some (i,u')) (u:=none) (st:=none) %[o,ho,hc|hd] rfl (jZ0 ⟨zN0 (jQ1 z _ _) hz,fin⟩)
   |int j u=>exact jB1 (l:=some (i,u')) (u:=some (j,u)) (st:=none) %[o,ho,hc|hd] rfl (jZ0 ⟨zN0 (jQ1 z _ _) hz,fin⟩)
instance rStarts(x:V)(vs:List V)(H:Hp)(Q:VK):∀z u,x=.str z->vs=[.str u]->Q (.bl (Txt.startswith z u)) H:=0
def jh:MtR X "str.startswith" rStarts:=by
 exists 4,x,vs,v,us,Q,I,rx,rv,h;erw[z,u,1,1,q]at h;erw[t,1]at rx;erw[w',1,t',1]at rv.one;exact SC.startswith %[.bl _,H,I,1|q]
def qt:∀{zs:List Str}{us:List Value},Vals (zs.map V.str) us->StrsAre us zs
 | [],_,.nil=>.nil
 |_::_,_,.cons ⟨t,e⟩ r=>by subst e;exact .cons _ t (qt r)
instance rJoin(K:W.Frag)(x:V)(vs:List V)(H:Hp)(Q:VK):∀z a ys,x=.str z->vs=[.ref a]->SqL K H a (ys.map V.str)->z.length<=16->(ys.map (·.length)).sum+ys.length<=1048576->Q (.str (Txt.join z ys)) H:=0
def eV:MtR X "str.join" (rJoin X.K):=by
 exists 4,x,vs,v,us,Q,I,rx,rv,h;erw[z,a,ys,1,1,hq,hz,hw,q]at h;erw[t,1]at rx;erw[w',1,ra]at rv.one;cases ra;let%[its,r',p|_]:=I.list hq;exact join_listW p.isList #[qt r',0] hz hw λt' k=>%[.str _,H,I.tok k,%[|0]|q]
instance rAll(K:W.Frag)(xs:List V)(H:Hp)(Q:VK):∀(a:Addr)(bs:List Bool),xs=[.ref a]->SqL K H a (bs.map V.bl)->Q (.bl (bs.all id)) H:=0
def tG:∀{bs:List Bool}{us:List Value}{i:Nat}{v:Value},Vals (bs.map V.bl) us->us[i]?=some v->∃b,bs[i]?=some b/\v=.bool b
 | [],_,_,_,.nil,h=>by simp at h
 |b::_,_,0,_,.cons r _,h=>by
   simp at h
   subst h;erw[b,1,r]
 |_::_,_,i+1,_,.cons _ t,h=>by
   let%[b,h1|h2]:=tG (i:=i) t #[h,0];erw[b,by simpa using h1,h2]
def og(hc:X.calm=true):gP X (.builtin "all") (rAll X.K):=by
 exists 4,xs,us,Q,I,r,h;erw[a,bs,1,hq,q]at h;let%[u,1|ru]:=jm r;cases ru;let%[its,r',p|hz]:=I.list hq;let hl:=r'.length;rw[zF0]at hl;let Mv:a<‹s›:=by erw[o,n,e,_]at p;exact zQ0 e
 apply call_all_walk (jP0 p.isList ?_);erw[‹s›,_,_,_,_,_,λi=>bs[i]?.getD true,1,Walks.list (A:=X.A.in1) (I.ok.hd hc) ‹s› a (zX0 Mv) its.toArray,%[%[_,qC0 _ rfl,1|1]|p.isList.push _],6,6]
 . intro i v s' Q' E' hP hQ;let%[b,hb|1]:=tG r' (i:=i) (v:=v) #[hP,0];let hQ':Q' b s':=by simpa [hb]using hQ
   exact qA1 hQ'
 . intro h' tk hk;let e:(List.range its.toArray.size).all (λi=>bs[i]?.getD true)=bs.all id:=by
    rw[zP0,←hl];rw[jJ1,wM0,wM0]
    constructor
    . intro h b hb;let%[i,hi|e]:=List.getElem_of_mem hb
      have:=h i (List.mem_range.mpr hi)
      rw[zO0 hi]at this
      simpa [e]using this
    . intro h i hi;let hi':=List.mem_range.mp hi;rw[zO0 hi'];exact h _ (qO0 hi')
   rw[e];erw[.bl _,H,6,1,q];let I1:#[8] H { s with heap:=s.heap.push { cls:=.type "list_iterator",data:=.fields #[.ref a,.int 0 0] } }:=I.kept (t':=s.toks) λb o e=>zU0 _ e
   apply I1.turnedL (t':=tk) (ch:=[‹s›]) (λb o hb e=>hk b o #[hb,0] e) λb hb=>?_
   rw[zR0 hb];exact I.fpOk (zH0 _) (I.hok.fresh (zH0 _))
end
inductive Consts:List Expr->List Str->Prop
 |nil:Consts [] []
 |cons {x:Str} {j:Nat} {pos:Pos} {es:List Expr} {zs:List Str}:Consts es zs->Consts (.Constant (.str x) j pos::es) (x::zs)
def lp:∀{es:List Expr}{zs:List Str},Consts es zs->PA X es (λ_ H Q=>Q (zs.map V.str) H)
 |_,_,.nil=>bc
 |_,_,.cons h=>λpos Mp s σ H Q I q=>ae aq (lp h) (by rfl) pos Mp s σ H Q I q
def CompScope.one{X:Cx}{x y:Str}{scope:Scope}{k:Nat}{c:Addr}(c1:closureFor scope X.env=pure [(y,c)])(c2:∀y∈scope.names,y.2≠.cell)(c3:scope.kind=.function)(c4:∀y∈scope.names,y.2=.local->scope.names.lookup y.1=some .local)
 (c5:scope.names.lookup x=some .local)(nd:[x,y].Nodup)(hc:X.env.cells.lookup y=some c)(c6:((relabel scope X.env).names.all λp=>!(p.2==.cell||p.2==.free)||(([(y,c)]:List (Str×Addr)).lookup p.1).isSome)=true)
 (hr:(relabel scope X.env).names.lookup y=some .cell)(hk:X.N[k]?=some y)(hs:X.env.scope.names.lookup y=some .cell):CompScope X x [y] [k] scope [(y,c)] where
 clos:=c1
 nocell:=c2
 kind:=c3
 names:=c4
 own:=c5
 nd:=nd
 sub:=λp hp=>by
  rw[zR0 hp];exact hc
 has:=c6
 outs:=λj z h=>by
  cases j with
  |zero=>
    let e:y=z:=zV0 h;subst e;erw[hr,k,c,1,hk,by simp [List.lookup],hs]
  |succ j=>simp at h
def CompScope.two{X:Cx}{x y z:Str}{scope:Scope}{k l:Nat}{c d:Addr}{cl:List (Str×Addr)}(c1:closureFor scope X.env=pure cl)(c2:∀y∈scope.names,y.2≠.cell)(c3:scope.kind=.function)(c4:∀y∈scope.names,y.2=.local->scope.names.lookup y.1=some .local)
 (c5:scope.names.lookup x=some .local)(nd:[x,y,z].Nodup)(hcl:cl=[(z,d),(y,c)]∨cl=[(y,c),(z,d)])(hc:X.env.cells.lookup y=some c)(hd:X.env.cells.lookup z=some d)(c6:((relabel scope X.env).names.all λp=>!(p.2==.cell||p.2==.free)||(cl.lookup p.1).isSome)=true)
 (hr:(relabel scope X.env).names.lookup y=some .cell)(hk:X.N[k]?=some y)(hs:X.env.scope.names.lookup y=some .cell)
 (hr2:(relabel scope X.env).names.lookup z=some .cell)(hk2:X.N[l]?=some z)(hs2:X.env.scope.names.lookup z=some .cell):CompScope X x [y,z] [k,l] scope cl where
 clos:=c1
 nocell:=c2
 kind:=c3
 names:=c4
 own:=c5
 nd:=nd
 sub:=λp hp=>by
  rcases hcl with rfl | rfl
  all_goals
   rcases zS0 hp with e | e
   . rw[e];assumption
   . rw[zR0 e];assumption
 has:=c6
 outs:=λj w h=>by
  let nyz:y≠z:=λe=>by simp [e]at nd
  match j,h with
  |0,h=>
    let e:y=w:=zV0 h;subst e;erw[hr,k,c,1,hk,6,hs];rcases hcl with rfl | rfl
    . have:(y==z)=false:=#[nyz,0]
      simp [List.lookup,this]
    . simp [List.lookup]
  |1,h=>
    let e:z=w:=zV0 h;subst e;erw[hr2,l,d,1,hk2,6,hs2];rcases hcl with rfl | rfl
    . simp [List.lookup]
    . have:(z==y)=false:=#[Ne.symm nyz,0]
      simp [List.lookup,this]
  |j+2,h=>simp at h
end L2
namespace Mine
open PySem L2
def Ec(x:Str):Prop:=x.length<=20/\(∀c∈x.cps.toList,97<=c/\c<=122)/\x≠"aa"
def il{x:Str}{l u:Option Int}{c:Nat}(h:c∈(Txt.slice x l u).cps.toList):c∈x.cps.toList:=by
 let e:Txt.slice x l u=StrLaws.sliceText x l u:=rfl;rw[e]at h;unfold StrLaws.sliceText at h
 split at h
 . exact h
 . let%[i,_|hi]:=List.mem_filterMap.mp (show c∈(List.filterMap _ _) by simpa using h)
   have:=Array.mem_of_getElem? hi
   simpa using this
def mem_append{x y:Str}{c:Nat}(h:c∈(x++y).cps.toList):c∈x.cps.toList∨c∈y.cps.toList:=by
 let e:(x++y).cps.toList=x.cps.toList++y.cps.toList:=by simp [jC0]
 rw[e]at h;exact qG0 h
def As{zs:List Str}{c:Nat}(h:c∈(Txt.join "" zs).cps.toList):∃z∈zs,c∈z.cps.toList:=by
 let e:Txt.join "" zs=Str.join "" zs:=by
  cases zs with
  |nil=>rfl
  |cons a r=>exact StrLaws.glued_cons "" r a
 rw[e]at h;rcases(PyProof.Rows.mem_join "" c zs).mp h with h | ⟨_,h⟩
 . exact h
 . let e0:(("":Str)).cps.toList=[]:=by decide
   rw[e0]at h;cases h
inductive Tr where
 |is (x:Str) | yes | no | not (a:Tr) | bin (w:Str) (a b:Tr)
def Tr.size:Tr->Nat
 |.is _=>1 | .yes=>1 | .no=>1 | .not a=>a.size+1 | .bin _ a b=>a.size+b.size+1
def Tr.depth:Tr->Nat
 |.is _=>1 | .yes=>1 | .no=>1 | .not a=>a.depth+1 | .bin _ a b=>max a.depth b.depth+1
def Tr.names:Tr->List Str
 |.is x=>[x] | .yes=>[] | .no=>[] | .not a=>a.names | .bin _ a b=>a.names++b.names
def joinW:List Str:=["and","or","odd","same"]
def Tr.ok(ns:List Str):Tr->Prop
 |.is x=>x∈ns | .yes=>True | .no=>True | .not a=>a.ok ns | .bin w a b=>w∈joinW/\a.ok ns/\b.ok ns
inductive TreeAt(H:Hp):V->Tr->Prop
 |is {a:Addr} {x:Str}:H a=some (.tup [.str "is",.str x])->TreeAt H (.ref a) (.is x)
 |yes {a:Addr}:H a=some (.tup [.str "yes"])->TreeAt H (.ref a) .yes
 |no {a:Addr}:H a=some (.tup [.str "no"])->TreeAt H (.ref a) .no
 |not {a:Addr} {v:V} {t:Tr}:H a=some (.tup [.str "not",v])->TreeAt H v t->TreeAt H (.ref a) (.not t)
 |bin {a:Addr} {w:Str} {v u:V} {t r:Tr}:H a=some (.tup [.str w,v,u])->TreeAt H v t->TreeAt H u r->TreeAt H (.ref a) (.bin w t r)
abbrev cH(H H':Hp):Prop:=∀a xs,H a=some (.tup xs)->H' a=some (.tup xs)
def TreeAt.mono(k:cH H H')(h:TreeAt H v t):TreeAt H' v t:=by
 induction h with
 |is e=>exact .is (k _ _ e)
 |yes e=>exact .yes (k _ _ e)
 |no e=>exact .no (k _ _ e)
 |not e _ ih=>exact .not (k _ _ e) ih
 |bin e _ _ i1 i2=>exact .bin (k _ _ e) i1 i2
def bp(s:Same H H'):cH H H':=λa _ h=>s a _ h
def aZ(F:FeedAt H f)(s:SameBut f H H'):cH H H':=λa xs h=>s a _ (λz=>by
 erw[o,t,e,_]at F;rw[z,e]at h;cases h) h
def NamesAt(H:Hp)(a:Addr)(ns:List Str):Prop:=H a=some (.lst (ns.map V.str))∨H a=some (.tup (ns.map V.str))
def NamesAt.ne(F:FeedAt H f)(h:NamesAt H a ns):a≠f:=λz=>by
 erw[o,t,e,_]at F;subst z;rcases h with h | h
 . rw [e]at h;let h':=HO.lst.inj (zV0 h);cases ns with
   |nil=>cases h'
   |cons x r=>simp at h'
 . rw[e]at h;cases h
def NamesAt.feed(F:FeedAt H f)(s:SameBut f H H')(h:NamesAt H a ns):NamesAt H' a ns:=by
 let ne:=h.ne F;rcases h with h | h
 . exact .inl (s _ _ ne h)
 . exact .inr (s _ _ ne h)
def NamesAt.same(s:Same H H')(h:NamesAt H a ns):NamesAt H' a ns:=by
 rcases h with h | h
 . exact .inl (s _ _ h)
 . exact .inr (s _ _ h)
def NamesAt.seq{K:W.Frag}(h:NamesAt H a ns):SqL K H a (ns.map V.str)∨SqT K H a (ns.map V.str):=by
 rcases h with h | h
 . exact .inl (zG0 h)
 . exact .inr (zB0 h)
def NamesAt.ix{K:W.Frag}{x:V}{Q:VK}(h:NamesAt H a ns)(hx:atI (ns.map V.str) i=some x)(q:Q x H):rIxL K (.ref a) (.int i) H Q∨rIxT K (.ref a) (.int i) H Q:=by
 rcases h with h | h
 . exact .inl %[a,_,i,x,1,1,zG0 h,hx|q]
 . exact .inr %[a,_,i,x,1,1,zB0 h,hx|q]
instance spTree(n:Nat):∀(f a:Addr)(room deep:Int)(ns:List Str),vs=[.ref f,.ref a,.int room,.int deep]->FeedAt H f->NamesAt H a ns->ns.length<=6->1<=room->room<=100->1<=deep->deep+1<=(n:Int)+1->(∀(v:V)(t:Tr)(H':Hp),FeedAt H' f->SameBut f H H'->TreeAt H' v t->t.ok ns->(t.size:Int)<=room->(t.depth:Int)<=deep->Q v H'):=1
def pJ{α:Type}{l:List α}{i:Int}(h0:0<=i)(h:i<(l.length:Int)):∃v,atI l i=some v/\v∈l:=by
 let hk:i.toNat<l.length:=#[0]
 let q:atI l ((i.toNat:Nat):Int)=some l[i.toNat]:=cK (zO0 hk);let ek:((i.toNat:Nat):Int)=i:=#[0]
 rw[ek]at q;erw[_,q,qO0 hk]
end Mine
namespace L2
open PySem PySem.Spec PyProof.Rows
section
variable {X:Cx}
def uu(lo:Int)(n:Nat):List Int:=(List.range n).map λi:Nat=>lo+(i:Int)
def BT(lo:Int)(n:Nat):(uu lo n).length=n:=by unfold uu;rw[zF0,qS0]
def zT{lo:Int}{n:Nat}{acc:List Value}(h:ItemsOf (λi v=>∃t,v=Value.int (lo+(i:Int)*1) t) acc.toArray n):Vals ((uu lo n).map V.int) acc:=by
 erw[h1,h2]at h;let l1:acc.length=n:=#[h1,0]
 let key:∀(k:Nat)(l:List Value),(∀i v,l[i]?=some v->∃t,v=Value.int (lo+((k+i:Nat):Int)) t)->Vals (((List.range' k l.length).map λi:Nat=>lo+(i:Int)).map V.int) l:=by
  intro k l
  induction l generalizing k with
  |nil=>intro _;exact .nil
  |cons a r ih=>
    intro h;let%[t|e]:=h 0 a rfl;rw[zM0,List.range'_succ,zY0,zY0];refine .cons %[t|by simpa using e] (ih (k+1) λi v hv=>?_);let%[t|e]:=h (i+1) v #[hv,0];erw[t,by rw[e];congr 2;omega]
 have:=key 0 acc λi v hv=>by
  let%[t|e]:=h2 i v #[hv,0];erw[t,by simpa using e]
 unfold uu;rw[←l1,List.range_eq_range'];exact this
instance ZtListRng(Q:VK)(vs:(List V))(H1:Hp):∀i j:Int,vs=[.int i,.int j]->-(2 ^ 62)<=i/\i<2 ^ 62/\-(2 ^ 62)<=j/\j<2 ^ 62->j-i<=1000->(∀p,H1 p=none->Q (.ref p) (upd H1 p (.lst ((uu i (j-i).toNat).map V.int)))):=0
def Bo(ta:TA):TE:=λσ H Q=>ta σ H λvs H1=>ZtListRng Q vs H1
def xN{a b:Expr}{p1 p2 pos1 pos2:Pos}(hc:X.calm=true)(hg1:Gl X "list")(hm1:X.mg "list"=none)(hg2:Gl X "range")(hm2:X.mg "range"=none)(ha:PA X [a,b] ta)
 (hs1:starEach [(.Call (.Name "range" p2) [a,b] [] pos2:Expr)] X.env=[(false,eval (.Call (.Name "range" p2) [a,b] [] pos2) X.env)]:=by rfl)(hs:starEach [a,b] X.env=[(false,eval a X.env),(false,eval b X.env)]:=by rfl)(hs2:starEach [b] X.env=[(false,eval b X.env)]:=by rfl):
 PE X (.Call (.Name "list" p1) [.Call (.Name "range" p2) [a,b] [] pos2] [] pos1) (Bo ta):=by
 exists 4,Q,I,h;apply qX0 (ji I hg1 hm1 jY ?_);apply zS1 ?_ hs1 rfl;rw[hs1];show wpAny _ _ (spliced ((false,eval (.Call (.Name "range" p2) [a,b] [] pos2) X.env)::backTo pos1 (starEach [] X.env))) _ _ s;let step:‹X.w› (eval (.Call (.Name "range" p2) [a,b] [] pos2) X.env) (λv s1=>∃(r:Addr) (i j:Int) (t u k:Tok) (H1:Hp),v=.ref r/\#[8] H1 s1/\IsRange s1.heap r i j 1 t u k/\(-(2 ^ 62)<=i/\i<2 ^ 62/\-(2 ^ 62)<=j/\j<2 ^ 62)/\j-i<=1000/\
  ∀p,H1 p=none->Q (.ref p) (upd H1 p (.lst ((uu i (j-i).toNat).map V.int)))) X.xe s:=by
  apply Call_ (ji I hg2 hm2 boot_range (zS1 (thn (ha pos2 Mp s σ H _ I h) λus s1 ⟨vs,H1,I1,r1,q1⟩=>?_) (by rw[hs,hs2]) (by rw[hs2];rfl)));erw[i,j,e,q1,q2,q]at q1;subst e;cases r1 with
  |cons r rr=>
    cases rr with
    |cons r' rr=>
      cases rr;erw[t,1]at r;erw[t',1]at r';apply call_range_2 %[_,i,j,_,_,_,H1,1,I1.kept λb o e=>zU0 _ e,IsRange.new ..,q1,q2|q]
 apply qK1 (thn step λv s1 hv=>?_);erw[r,i,j,t,u,k,H1,1,I1,hr,%[a1,a2,a3|a4],hle,q]at hv;apply qZ0 ?_;let e2:Builtin.Range.rangeSize i j 1=(((j-i).toNat:Nat):Int):=by rw[rangeSize_one];split <;> omega
 apply call_list_range (I1.ok.hd hc) hr (small_one a1 a2 a3 a4) e2 #[0] λh' tk acc' c' hk hS hacc=>?_
 obtain⟨acc,rfl⟩:∃acc:List Value,acc'=acc.toArray:=%[acc'.toList|by simp]
 let rr:=zT hacc;let I2:#[8] (upd H1 ‹s1› (.lst ((uu i (j-i).toNat).map V.int))) { s1 with heap:=h',toks:=tk }:=by
  apply I1.turnedNew (ch:=[]) (λb ob _ eb=>hk b ob eb) (λb hb=>absurd hb #[2]) (zH0 _) %[6,acc,c',rr|hS];rw[zF0,BT];exact aV #[0]
 erw[.ref ‹s1›,_,I2,1,q _ (I1.hok.fresh (zH0 _))]
instance rSum(K:W.Frag)(xs:List V)(H:Hp)(Q:VK):∀(a:Addr)(ns:List Int),xs=[.ref a]->SqL K H a (ns.map V.int)->(∀n∈ns,0<=n)->ns.sum<2 ^ 63->Q (.int ns.sum) H:=0
def rJ:∀{bs:List Int}{us:List Value}{i:Nat}{v:Value},Vals (bs.map V.int) us->us[i]?=some v->∃b t,bs[i]?=some b/\v=.int b t
 | [],_,_,_,.nil,h=>by simp at h
 |b::_,_,0,_,.cons r _,h=>by
   simp at h
   subst h;erw[t,e]at r;erw[b,t,1,e]
 |_::_,_,i+1,_,.cons _ t,h=>by
   let%[b,t,h1|h2]:=rJ (i:=i) t #[h,0];erw[b,t,by simpa using h1,h2]
def oY{ns:List Int}(h:∀n∈ns,0<=n)(j:Nat):0<=(ns.take j).sum/\(ns.take j).sum<=ns.sum:=by
 induction ns generalizing j with
 |nil=>simp
 |cons a r ih=>
   cases j with
   |zero=>
     have:=ih (λn hn=>h n (qK0 _ hn)) r.length
     rw[qF0]at this;let a0:=h a qB0;simp only[List.take_zero,List.sum_nil,zV1];omega
   |succ j=>
     have:=ih (λn hn=>h n (qK0 _ hn)) j
     let a0:=h a qB0;simp only[List.take_succ_cons,zV1];omega
def pk(ns:List Int)(j:Nat):preSum (λi=>ns[i]?.getD 0) j=(ns.take j).sum:=by
 induction j with
 |zero=>simp;rfl
 |succ j ih=>
   show preSum (λi=>ns[i]?.getD 0) j+(λi=>ns[i]?.getD 0) j=_;rw[ih,qJ0,List.sum_append];cases e:ns[j]? with
   |none=>simp [e]
   |some x=>simp [e]
def rX(hc:X.calm=true):gP X (.builtin "sum") (rSum X.K):=by
 exists 4,xs,us,Q,I,r,h;erw[a,ns,1,hq,n0,nb,q]at h;let%[u,1|ru]:=jm r;cases ru;let%[its,r',p|hz]:=I.list hq;let hl:=r'.length;rw[zF0]at hl;let Mv:a<‹s›:=by erw[o,n,e,_]at p;exact zQ0 e
 apply call_sum_walk (jP0 p.isList ?_);erw[‹s›,_,_,_,_,_,λi=>ns[i]?.getD 0,1,Walks.list (A:=X.A.in1) (I.ok.hd hc) ‹s› a (zX0 Mv) its.toArray,%[%[_,qC0 _ rfl,1|1]|p.isList.push _],6,6,6,6]
 . intro b hb;let hpz:∀o:Obj,(s.heap.push o).objs.size=‹s›+1:=λo=>by simp [Heap.push]
   show b<(s.heap.push _).objs.size;rw[hpz];rcases zS0 hb with e | e
   . rw[e];exact qV1 _
   . rw[zR0 e];exact wI0 Mv
 . intro i v hP;let%[b,t,hb|1]:=rJ r' (i:=i) (v:=v) #[hP,0];erw[t,by simp [hb]]
 . intro j hj;let hj':j<ns.length:=by rw[hl];simpa using hj
   let s1:=oY n0 (j+1);rw[pk];erw[6,by unfold InLong;omega];let s2:=oY n0 j;let e:(ns.take (j+1)).sum=(ns.take j).sum+ns[j]:=by rw[qJ0,List.sum_append,zO0 hj'];simp
   let n1:=n0 _ (qO0 hj');show InLong (ns[j]?.getD 0);rw[zO0 hj'];show InLong ns[j];unfold InLong;omega
 . intro h' tk t' hk;rw[pk,zP0,←hl,qF0];erw[.int _,H,6,%[|0],q];let I1:#[8] H { s with heap:=s.heap.push { cls:=.type "list_iterator",data:=.fields #[.ref a,.int 0 0] } }:=I.kept (t':=s.toks) λb o e=>zU0 _ e
   apply I1.turnedL (t':=tk) (ch:=[‹s›]) (λb o hb e=>hk b o #[hb,0] e) λb hb=>?_
   rw[zR0 hb];exact I.fpOk (zH0 _) (I.hok.fresh (zH0 _))
end
def yR:Slot "reversed" "__iter__" "reversed.__iter__":=Slot.of (owner:="reversed") (n:="__iter__") (by rw[jZ1,jD1];kernel_rfl) ⋯ ⋯ ⋯ (by first | exact .inl ⋯ | exact .inr ⋯) (by rw[wG1];kernel_rfl) ⋯
def rv_next:Slot "reversed" "__next__" "reversed.__next__":=Slot.of (owner:="reversed") (n:="__next__") (by rw[jZ1,jD1];kernel_rfl) ⋯ ⋯ ⋯ (by first | exact .inl ⋯ | exact .inr ⋯) (by rw[wG1];kernel_rfl) ⋯
def Bk:typeLookup (.type "tuple") "__reversed__"=pure none:=by rw[jZ1,jD1];kernel_rfl
def zR:entryFor table "reversed.__iter__"=some Builtin.«dict_keyiterator.__iter__»:=entryFor_alias (by kernel_rfl) rfl (show _="dict_keyiterator.__iter__" by decide) (by kernel_rfl)
def sS:entryFor table "reversed.__next__"=some Builtin.«reversed.__next__»:=entryFor_of_tree (by kernel_rfl)
def RevT(h:Heap)(it t:Addr)(i:Int):Prop:=h.get? it=some { cls:=.type "reversed",data:=.fields #[.ref t,rawInt i] }
section
variable {prog:Program}{w:World}{A:Around}{E:#[6]}{s:Shared}{R:Result->Shared->Prop}{it t:Addr}
def RevT.typeIs(h:RevT s.heap it t i):s.TypeIs (.ref it) "reversed":=%[_,h|1]
def sY{Q:#[6]}(h:RevT s.heap it t i)(q:Q (.ref it) s):‹w.A› (pyIter (.ref it)) Q E s:=
 wpAny_pyIter_slot h.typeIs yR (qM1 yR h.typeIs zR (zJ0 %[0,"reversed",_,h.typeIs,rv_next.lookup|q]) (by rfl))
def rB{i:Nat}{items:Array Value}{x:Value}{Q:Option Value->Shared->Prop}(h:RevT s.heap it t (i:Int))(ht:IsTup s.heap t items)(hx:items[i]?=some x)(hi:(i:Int)<2 ^ 63)
 (q:∀h' tk,RevT h' it t ((i:Int)-1)->Heap.SameBut it s.heap h'->Q (some x) { s with heap:=h',toks:=tk }):‹w.A› (pyNext (.ref it)) Q E s:=by
 let hT:=h.typeIs;let hs:i<items.size:=(Array.getElem?_eq_some_iff.mp hx).1;unfold pyNext;apply zE0 (wK0 (qB1 hT rv_next (qM1 rv_next hT sS ?_ (by rfl))));unfold Builtin.«reversed.__next__»;apply zE0 (jB0 (show slotArgs "__next__" 0 %[[.ref it]|[]]=pure (.ref it,[])from rfl) ?_);apply zE0 (qL1 h rfl rfl ?_);apply zE0 (qL1 h rfl rfl ?_);apply zX1 (λhab=>absurd hab #[0]) (λ_=>?_);apply zE0 (wpAny_specialOf (show s.TypeIs (.ref t) "tuple" from ht.typeIs) PyProof.Rows.slot_tuple_getitem.lookup ?_);apply zX1 (λhab=>absurd hab #[2]) (λ_=>?_);apply zE0 (wpAny_mkInt ?_);let e1:seqIndex? (i:Int) items.size=some i:=(uY (by unfold ixN;rw[Mt #[0],Mt #[0]];simp)).1;apply zE0 (wK0 (PyProof.Rows.getItem_tuple (items:=items) (x:=x) ht #[0] hi e1 hx ?_));apply zE0 (qL1 h rfl rfl ?_);apply zE0 (wC1 h #[2] λh' e hb=>?_);apply zJ0 %[0|zJ0 (q h' _ ?_ hb)];exact e
def y0S:0<=sizeLine:=⋯
def y1S:1<=sizeLine:=⋯
def y2S:2<=sizeLine:=⋯
def y3S:3<=sizeLine:=⋯
def y4S:4<=sizeLine:=⋯
def y5S:5<=sizeLine:=⋯
def y6S:6<=sizeLine:=⋯
def y12S:12<=sizeLine:=⋯
def y18S:18<=sizeLine:=⋯
def y24S:24<=sizeLine:=⋯
def sL{Q:Option Value->Shared->Prop}(hh:A.handled=none)(h:RevT s.heap it t (-1))
 (q:∀h' tk,Heap.ExtBut it s.heap h'->Q none { s with heap:=h',toks:=tk }):‹w.A› (pyNext (.ref it)) Q E s:=by
 let hT:=h.typeIs;unfold pyNext;apply zE0 (wK0 (qB1 hT rv_next (qM1 rv_next hT sS ?_ (by rfl))));unfold Builtin.«reversed.__next__»;apply zE0 (jB0 (show slotArgs "__next__" 0 %[[.ref it]|[]]=pure (.ref it,[])from rfl) ?_);apply zE0 (qL1 h rfl rfl ?_);apply zE0 (qL1 h rfl rfl ?_);apply zX1 (λ_=>?_) (λhab=>absurd ⋯ hab);apply zE0 (wpAny_rule ?_);apply zE0 ?_;show wpAny _ _ (setField (.ref it) 1 (rawInt (-1)) >>= λ_=>setField (.ref it) 0 Value.none) _ _ _;apply zE0 (wC1 h #[2] λh1 e1 b1=>?_);apply wC1 e1 #[2] λh2 e2 b2=>?_
 apply zE0 ?_;unfold Builtin.SmallTypes.stopIteration newExc newTuple;apply zE0 (zE0 (zW1 ?_ y0S));apply zE0 (jB0 (show firstArgMember (.type "StopIteration") []=pure .none by rfl') ?_);apply zW1 ?_ (sizeOk_excFields ..);apply wpAny_raiseNew_none hh ?_;apply zE0 (wM1 (T:="StopIteration") %[_,qC0 _ rfl|1] isSubtype_stop ?_);apply zX1 (λ_=>?_) (λhab=>absurd rfl hab);apply zJ0 (q _ _ ?_);exact(b1.extBut.trans b2.extBut).trans λb o hb e=>zU0 _ (zU0 _ e)
def EK:Slot "reversed" "__init__" "object.__init__":=Slot.of (owner:="object") (n:="__init__") (by rw[jZ1,jD1];kernel_rfl) ⋯ ⋯ ⋯ (by first | exact .inl ⋯ | exact .inr ⋯) (by rw[wG1];kernel_rfl) ⋯
def zS:TypeCalled "reversed" "reversed.__new__" "object.__init__":=%[4,F.create_reversed,%[_,_|F.mro_reversed],F.made_reversed,F.plain_reversed_new,F.sub_reversed_self|EK]
def zD:isSubtype (.type "tuple") (.type "dict")=pure false:=by rw[wG1];kernel_rfl
def oe{items:Array Value}{Q:#[6]}(ht:IsTup s.heap t items)(hz:items.size<=sizeLine)
 (q:∀tk,Q (.ref ‹s›) { s with heap:=s.heap.push { cls:=.type "reversed",data:=.fields #[.ref t,rawInt ((items.size:Int)-1)] },toks:=tk }):‹w.A› (call (.type "reversed") [.ref t]) Q E s:=by
 let h63:=jV;apply callType_newIn zS ⋯ (F.typeCall_reversed_1 _) (F.newCall_reversed_1 _) (λ_=>by rfl) F.entry_reversed_new
  (S:=λA R s=>wpAny (model prog w) A.in1 (Builtin.«reversed.__new__» %[[.type "reversed",.ref t]|[]]) (λfin s'=>match fin with | .done f=>R (.ok f) s' | .again c'=>c'.quiet=true/\codeAny (model prog w) A c' R s') (λe s'=>R (.error e) s') s) (λA R s h=>h) ?_
 unfold Builtin.«reversed.__new__»;apply zE0 (jB0 (newClass_reversed _) ?_);apply zE0 (jB0 (a:=()) rfl ?_);apply zE0 (jB0 (a:=()) rfl ?_);apply zE0 (wpAny_specialOf ht.typeIs Bk ?_);apply zE0 ?_;apply zE0 (wM1 ht.typeIs zD ?_);apply zX1 (λhab=>absurd hab ⋯) (λ_=>?_);apply zE0 (wpAny_specialOf ht.typeIs PyProof.Rows.slot_tuple_getitem.lookup ?_);apply zX1 (λ_=>?_) (λhab=>absurd ⋯ hab);apply zJ0 ?_;apply zX1 (λhab=>absurd hab ⋯) (λ_=>?_);apply zE0 (len_tuple ht #[0] ?_);apply zE0 (zJ0 ?_);apply zE0 (zW1 (data:=.fields #[.ref t,rawInt ((items.size:Int)-1)]) ?_ (by show 2<=sizeLine+2;decide));apply zJ0 ?_;erw[%[_,qC0 _ rfl|1],q _]
end
end L2
namespace Mine
open PySem L2
def Tr.wf:Tr->Prop
 |.is x=>Ec x | .yes=>True | .no=>True | .not a=>a.wf | .bin w a b=>w∈joinW/\a.wf/\b.wf
def Tr.parts:Tr->List Tr
 |.is _=>[] | .yes=>[] | .no=>[] | .not a=>[a] | .bin _ a b=>[a,b]
def Tr.ok_wf{ns:List Str}(hn:∀x∈ns,Ec x):∀t:Tr,t.ok ns->t.wf
 |.is _,h=>hn _ h
 |.yes,_=>trivial
 |.no,_=>trivial
 |.not a,h=>Tr.ok_wf hn a h
 |.bin _ a b,⟨h,h1,h2⟩=>%[h,Tr.ok_wf hn a h1|Tr.ok_wf hn b h2]
def Tr.size_pos:∀t:Tr,1<=t.size
 |.is _=>zH0 _ | .yes=>zH0 _ | .no=>zH0 _ | .not a=>qR1 .. | .bin _ a b=>qR1 ..
def Tr.depth_pos:∀t:Tr,1<=t.depth
 |.is _=>zH0 _ | .yes=>zH0 _ | .no=>zH0 _ | .not a=>qR1 .. | .bin _ a b=>qR1 ..
def jq(ts:List Tr):Nat:=(ts.map Tr.size).sum
def iH(ts:List Tr):List Str:=(ts.map Tr.names).flatten
def Tr.size_parts(t:Tr):t.size=jq t.parts+1:=by
 cases t <;> simp [Tr.size,Tr.parts,jq]
def Tr.names_parts(t:Tr)(h:∀x,t≠.is x):t.names=iH t.parts:=by
 cases t with
 |is x=>exact absurd rfl (h x)
 |_=>simp [Tr.names,Tr.parts,iH]
def Tr.parts_mem{t u:Tr}(h:u∈t.parts)(w:t.wf):u.wf/\u.depth+1<=t.depth/\u.size+1<=t.size:=by
 cases t with
 |is x=>simp [Tr.parts]at h
 |yes=>simp [Tr.parts]at h
 |no=>simp [Tr.parts]at h
 |not a=>
   rw[zR0 h];erw[w,zH0 _,zH0 _]
 |bin o a b=>
   erw[_,w1,w2]at w;rcases zS0 h with e | e
   . rw [e];erw[w1,6,6]
     . show a.depth+1<=max a.depth b.depth+1;omega
     . show a.size+1<=a.size+b.size+1;omega
   . rw [zR0 e];erw[w2,6,6]
     . show b.depth+1<=max a.depth b.depth+1;omega
     . show b.size+1<=a.size+b.size+1;omega
inductive TreesAt(H:Hp):List V->List Tr->Prop
 |nil:TreesAt H [] []
 |cons {v:V} {t:Tr} {vs:List V} {ts:List Tr}:TreeAt H v t->TreesAt H vs ts->TreesAt H (v::vs) (t::ts)
def TreesAt.mono(k:cH H H'){ts:List Tr}(h:TreesAt H vs ts):TreesAt H' vs ts:=by
 induction h with
 |nil=>exact .nil
 |cons a _ ih=>exact .cons (a.mono k) ih
def TreesAt.append{ts:List Tr}(h:TreesAt H vs ts)(g:TreesAt H us rs):TreesAt H (vs++us) (ts++rs):=by
 induction h with
 |nil=>exact g
 |cons a _ ih=>exact .cons a ih
def TreesAt.length{ts:List Tr}(h:TreesAt H vs ts):vs.length=ts.length:=by
 induction h with
 |nil=>rfl
 |cons _ _ ih=>rw[zM0,zM0,ih]
def TreesAt.get{ts:List Tr}(h:TreesAt H vs ts):∀{i:Nat}{v:V},vs[i]?=some v->∃t,ts[i]?=some t/\TreeAt H v t:=by
 induction h with
 |nil=>intro i v e;simp at e
 |cons a _ ih=>
   intro i v e;cases i with
   |zero=>cases(zV0 e);erw[0,a]
   |succ i=>exact ih (i:=i) #[e,0]
def yo{w:Str}(h:w∈joinW):w≠"is":=(by decide:∀w∈joinW,w≠("is":Str)) w h
def TreeAt.view(h:TreeAt H v t)(w:t.wf):(∃(a:Addr) (x:Str),v=.ref a/\t=.is x/\Ec x/\H a=some (.tup [.str "is",.str x]))∨
 ∃(a:Addr) (o:Str) (xs:List V),v=.ref a/\o≠"is"/\xs.length<=2/\H a=some (.tup (.str o::xs))/\TreesAt H xs t.parts/\(∀x,t≠.is x):=by
 cases h with
 |is e=>exact .inl %[2,w|e]
 |yes e=>exact .inr %[_,_,[],1,4,by simp,e,.nil|λx z=>by cases z]
 |no e=>exact .inr %[_,_,[],1,4,by simp,e,.nil|λx z=>by cases z]
 |not e g=>exact .inr %[_,_,[_],1,4,by simp,e,.cons g .nil|λx z=>by cases z]
 |bin e g g2=>exact .inr %[_,_,[_,_],1,yo w.1,by simp,e,.cons g (.cons g2 .nil)|λx z=>by cases z]
def cut1(o:V):∀xs:List V,xs.length<=2->iM (o::xs) (some 1) none=xs/\¬ (HT.sIx (o::xs).length 0 (some 1)=0/\HT.sIx (o::xs).length (o::xs).length none=(o::xs).length)
 | [],_=>%[1|λh=>absurd h.1 (show ¬ HT.sIx 1 0 (some 1)=0 by decide)]
 | [_],_=>%[1|λh=>absurd h.1 (show ¬ HT.sIx 2 0 (some 1)=0 by decide)]
 | [_,_],_=>%[1|λh=>absurd h.1 (show ¬ HT.sIx 3 0 (some 1)=0 by decide)]
 |_::_::_::_,h=>absurd h #[2]
def Tr.names_len:∀t:Tr,t.names.length<=t.size
 |.is _=>zH0 _
 |.yes=>zT0 _
 |.no=>zT0 _
 |.not a=>Nat.le_succ_of_le (Tr.names_len a)
 |.bin _ a b=>by
   have:=Tr.names_len a
   have:=Tr.names_len b
   show(a.names++b.names).length<=a.size+b.size+1;rw[zK0];omega
end Mine
namespace L2
open PySem PySem.Spec PyProof.Rows
section
variable {prog:Program}{w:World}{A:Around}{E:#[6]}{s:Shared}
def Ho(xs:Array Value)(x:Value):Nat->Option PySem.Fin×Unit->Sem (ForInStep (Option PySem.Fin×Unit)):=λi _=>match xs[i]? with
 |some y=>do
   let b ←eqBool y x
   if b=true then do
    let r ←retInt (i:Int)
    pure (ForInStep.done (some r,()))
    else pure (ForInStep.yield (none,()))
 |_=>pure (ForInStep.yield (none,()))
def wB{xs:Array Value}{x:Value}{e:Value->Bool}(he:∀y∈xs,SeqAt.EqAt A s y x (e y)){j:Nat}(hj:j<xs.size)(ej:e xs[j]=true)(bf:∀(m:Nat) (hm:m<xs.size),m<j->e xs[m]=false){Q:Option PySem.Fin×Unit->Shared->Prop}
 (q:Q (some (.done (.ret (.int (j:Int) s.toks))),()) { s with toks:=s.toks+1 }):∀(n k:Nat),k<=j->j<k+n->k+n<=xs.size->‹w.A› (forIn (List.range' k n 1) ((none:Option PySem.Fin),()) (Ho xs x)) Q E s
 |0,k,h1,h2,_=>absurd h2 #[0]
 |n+1,k,h1,h2,h3=>by
   let hk:k<xs.size:=#[0]
   rw [List.range'_succ,List.forIn_cons];apply zE0 ?_;let e1:Ho xs x k ((none:Option PySem.Fin),())=(do
    let b ←eqBool xs[k] x
    if b=true then do
     let r ←retInt (k:Int)
     pure (ForInStep.done (some r,()))
     else pure (ForInStep.yield (none,()))):=by
    unfold Ho;rw[Array.getElem?_eq_getElem hk]
   rw[e1];apply zE0 (he _ (Array.getElem_mem hk) prog w _ _ ?_)
   by_cases c:k=j
   . subst c;rw[ej];apply zX1 (λ_=>?_) (λhab=>absurd rfl hab);apply zE0 ?_;apply zE0 (wpAny_mkInt ?_);apply zJ0 ?_;apply zJ0 ?_;exact zJ0 q
   . rw[bf k hk #[0]];apply zX1 (λhab=>absurd hab ⋯) (λ_=>?_);apply zJ0 ?_;exact wB he hj ej bf q n (k+1) #[0] #[0] #[0]
def rE(l:Addr)(items:Array Value)(n:Nat)(dd:Option Addr)(sl:Array (Option Value))(x:Value)(e:Value->Bool)(j:Nat)(hj:j<items.size)(ej:e items[j]=true)(bf:∀(m:Nat) (hm:m<items.size),m<j->e items[m]=false):
 Meets (Builtin.«tuple.index» { pos:=[.ref l,x] }) λA R s=>s.heap.get? l=some { cls:=.type "tuple",dict:=dd,data:=.seq items n,slots:=sl }/\(∀y∈items,SeqAt.EqAt A.in1 s y x (e y))/\R (.ok (.ret (.int (j:Int) s.toks))) { s with toks:=s.toks+1 }:=by
 intro prog w A R s ⟨hl,he,q⟩;unfold Builtin.«tuple.index»;apply zE0 (jB0 (a:=(Value.ref l,[x])) rfl ?_);apply zE0 (wpAny_tupleItemsOf hl rfl ?_);apply zE0 (zJ0 ?_);apply zE0 (zJ0 ?_);apply zE0 ?_;rw[Std.Legacy.Range.forIn_eq_forIn_range'];let e1:Std.Legacy.Range.size [0:min items.size items.size]=items.size:=by simp [Std.Legacy.Range.size]
 rw[e1];apply wB he hj ej bf ?_ items.size 0 (zT0 _) #[0] #[0];exact zJ0 q
end
section
variable {X:Cx}
def hE(z:Str):List Str->Option Nat
 | []=>none
 |a::r=>if a=z then some 0 else(hE z r).map (·+1)
def vM:∀{ns:List Str}{j:Nat},hE z ns=some j->ns[j]?=some z/\∀m,m<j->∀y,ns[m]?=some y->y≠z
 | [],_,h=>by simp [hE]at h
 |a::r,j,h=>by
   unfold hE at h
   by_cases c:a=z
   . rw[Mt c]at h;cases h;erw[by simp [c],λm hm=>absurd hm #[0]]
   . rw [Mq c]at h;let%[i,hi|1]:=qQ0 h;let%[h1|h2]:=vM hi;erw[by simpa using h1,λm hm y hy=>?_];cases m with
     |zero=>cases(zV0 hy);exact c
     |succ m=>exact h2 m #[0] y #[hy,0]
def qr:∀{bs:List Str}{us:List Value}{i:Nat}{v:Value},Vals (bs.map V.str) us->us[i]?=some v->∃b t,bs[i]?=some b/\v=.str b t
 | [],_,_,_,.nil,h=>by simp at h
 |b::_,_,0,_,.cons r _,h=>by
   simp at h
   subst h;erw[t,e]at r;erw[b,t,1,e]
 |_::_,_,i+1,_,.cons _ t,h=>by
   let%[b,t,h1|h2]:=qr (i:=i) t #[h,0];erw[b,t,by simpa using h1,h2]
def im(ns:List Str):(ns.map V.str).all kf=true:=by
 induction ns with
 |nil=>rfl
 |cons a r ih=>rw[zY0,jK1,ih];rfl
def pF{ns:List Str}{j:Nat}(r:Vals (ns.map V.str) its)(h:hE z ns=some j):
 ∃hj:j<its.toArray.size,eqU (.str z) its.toArray[j]=true/\∀(m:Nat)(hm:m<its.toArray.size),m<j->eqU (.str z) its.toArray[m]=false:=by
 let%[h1|h2]:=vM h;let hl:=r.length;rw[zF0]at hl;let jl:j<ns.length:=(zW0 h1).1;let hj:j<its.toArray.size:=by rw[zP0,←hl];exact jl
 erw[hj,6,λm hm mj=>?_]
 . let%[b,t,e1|e2]:=qr r (i:=j) (v:=its.toArray[j]) #[2];rw[e2];rw[h1]at e1;cases e1;show(z==z)=true
   simp
 . let%[b,t,e1|e2]:=qr r (i:=m) (v:=its.toArray[m]) #[2];rw[e2];show(b==z)=false
   have:=h2 m mj b e1
   simpa using this
instance rIndexT(K:W.Frag)(x:V)(vs:List V)(H:Hp)(Q:VK):∀(a:Addr)(ns:List Str)(z:Str)(j:Nat),x=.ref a->vs=[.str z]->SqT K H a (ns.map V.str)->hE z ns=some j->Q (.int (j:Int)) H:=0
def Ao:MtR X "tuple.index" (rIndexT X.K):=by
 exists 4,x,vs,v,us,Q,I,rx,rv,h;erw[a,ns,z,j,1,1,hq,hp,q]at h;cases rx;erw[u,1,ru]at rv.one;let%[its,r,%[%[cls,dd,data|sl],ho,hc,n|hd]|hz]:=I.tuple hq;simp only at hc hd;subst hc hd;let%[hj,e1|e2]:=pF r hp;apply qQ1 F.slot_tuple_index %[_,ho|1] F.entry_tuple_index (F.args_tuple_index_2 _ _) (rE a its.toArray n dd sl u (eqU (.str z)) j hj e1 e2) ⟨ho,λy hy=>?_,?_⟩
 . exact gO ru rfl r (im ns) y #[hy,0]
 . erw[.int (j:Int),H,I.tok _,%[|0],q]
instance rIndexL(K:W.Frag)(x:V)(vs:List V)(H:Hp)(Q:VK):∀(a:Addr)(ns:List Str)(z:Str)(j:Nat),x=.ref a->vs=[.str z]->SqL K H a (ns.map V.str)->hE z ns=some j->Q (.int (j:Int)) H:=0
def Ap:MtR X "list.index" (rIndexL X.K):=by
 exists 4,x,vs,v,us,Q,I,rx,rv,h;erw[a,ns,z,j,1,1,hq,hp,q]at h;cases rx;erw[u,1,ru]at rv.one;let%[its,r,%[%[cls,dd,data|sl],n,ho,hc,hdd|hd]|hz]:=I.list hq;simp only at hc hd;subst hc hd;let%[hj,e1|e2]:=pF r hp;let h63:=jV;let hl:=r.length;apply qQ1 F.slot_list_index %[_,ho|1] F.entry_list_index (F.args_list_index_2 _ _) (SeqAt.list_indexAt a its.toArray n dd sl u (eqU (.str z)) j hj (by rw[zP0]at hj;omega) e1 e2) ⟨ho,λy hy=>?_,?_⟩
 . exact gO ru rfl r (im ns) y #[hy,0]
 . erw[.int (j:Int),H,I.tok _,%[|0],q]
end
section
variable {κ:Type}[DecidableEq κ]
def ip(Ms:List (κ×V))(k:κ):Option V:=(Ms.find? λkv=>decide (kv.1=k)).map (·.2)
def ni(Ms:List (κ×V))(k:κ)(v:V):List (κ×V):=
 if(Ms.any λkv=>decide (kv.1=k))=true then Ms.map (λkv=>if kv.1=k then(kv.1,v)else kv)else Ms++[(k,v)]
def dR{p:κ×V}{r:List (κ×V)}{k:κ}(e:p.1=k):ip (p::r) k=some p.2:=by simp [ip,jE0,e]
def dU{p:κ×V}{r:List (κ×V)}{k:κ}(e:¬ p.1=k):ip (p::r) k=ip r k:=by simp [ip,jE0,e]
def ms(k:κ):∀Ms:List (κ×V),(Ms.any λkv=>decide (kv.1=k))=(ip Ms k).isSome
 | []=>rfl
 |p::r=>by
   rw[jL0]
   by_cases e:p.1=k
   . simp only[dR e,zD1 e,Bool.true_or,Option.isSome_some]
   . rw[dU e,zE1 e,Bool.false_or];exact ms k r
def vt(k j:κ)(y:V):∀Ms:List (κ×V),ip (Ms.map λkv=>if kv.1=k then(kv.1,y)else kv) j=(ip Ms j).map λx=>if j=k then y else x
 | []=>rfl
 |p::r=>by
   let ih:=vt k j y r;rw[zY0]
   by_cases h:p.1=k
   . rw [Mt h]
     by_cases e:p.1=j
     . rw[dR (p:=(p.1,y)) e,dR e,wA0,Mt (e.symm.trans h)]
     . rw[dU (p:=(p.1,y)) e,dU e,ih]
   . rw [Mq h]
     by_cases e:p.1=j
     . rw[dR (p:=p) e,dR e,wA0,Mq (λz=>h (e.trans z))]
     . rw[dU (p:=p) e,dU e,ih]
def sP(k j:κ)(y:V):∀Ms:List (κ×V),ip Ms k=none->ip (Ms++[(k,y)]) j=if j=k then some y else ip Ms j
 | [],_=>by
   by_cases e:k=j
   . rw[Mt e.symm];exact dR (p:=(k,y)) e
   . rw[Mq (λz=>e z.symm)];exact dU (p:=(k,y)) e
 |p::r,hn=>by
   rw[List.cons_append];let hk:¬ p.1=k:=λz=>by rw[dR z]at hn;cases hn
   rw[dU hk]at hn;let ih:=sP k j y r hn
   by_cases e:p.1=j
   . rw[dR e,dR e,Mq (λz=>hk (e.trans z))]
   . rw[dU e,dU e,ih]
def Bg(Ms:List (κ×V))(k j:κ)(y:V):ip (ni Ms k y) j=if j=k then some y else ip Ms j:=by
 unfold ni
 by_cases a:(Ms.any λkv=>decide (kv.1=k))=true
 . rw [Mt a,vt];rw[ms]at a
   by_cases e:j=k
   . let%[x|hx]:=Option.isSome_iff_exists.mp a;rw[Mt e,e,hx,wA0,Mt rfl]
   . rw [Mq e];cases ip Ms j with
     |none=>rfl
     |some x=>rw[wA0,Mq e]
 . rw [Mq a];apply sP k j y Ms ?_;rw[ms]at a;cases q:ip Ms k with
   |none=>rfl
   |some x=>rw[q]at a;exact(a rfl).elim
def kM(Ms:List (κ×V))(k:κ)(v:V):(ni Ms k v).length<=Ms.length+1:=by
 unfold ni
 split
 . rw[zF0];omega
 . rw[zK0,zM0,zI1];omega
def RelO.isSome_eq(r:RelO o u):o.isSome=u.isSome:=by
 cases o with
 | none=>cases u with
   |none=>rfl
   |some _=>exact(show False from r).elim
 | some _=>cases u with
   |none=>exact(show False from r).elim
   |some _=>rfl
def RelO.getD(r:RelO o u)(rd:RelV d d'):RelV (o.getD d) (u.getD d'):=by
 cases o with
 | none=>cases u with
   |none=>exact rd
   |some _=>exact(show False from r).elim
 | some _=>cases u with
   |none=>exact(show False from r).elim
   |some _=>exact r
def KV.val{Ms:List (κ×V)}{vs:List (κ×Value)}(r:KV Ms vs)(k:κ):RelO (ip Ms k) (valueAt vs k):=by
 unfold KV at r
 induction r with
 |nil=>exact True.intro
 | @cons p q ps qs h t ih=>
   erw[h1,h2]at h
   by_cases e:p.1=k
   . let e':q.1=k:=h1.symm.trans e;let b:valueAt (q::qs) k=some q.2:=by simp [valueAt,jE0,e']
     rw[dR e,b];exact h2
   . let e':¬ q.1=k:=λz=>e (h1.trans z)
     let b:valueAt (q::qs) k=valueAt qs k:=by simp [valueAt,jE0,e']
     rw[dU e,b];exact ih
def KV.any{Ms:List (κ×V)}{vs:List (κ×Value)}(r:KV Ms vs)(k:κ):(Ms.any λkv=>decide (kv.1=k))=vs.any λkv=>decide (kv.1=k):=by
 unfold KV at r
 induction r with
 |nil=>rfl
 |cons h t ih=>rw[jL0,jL0,ih,h.1]
def KV.repl{Ms:List (κ×V)}{vs:List (κ×Value)}(r:KV Ms vs)(k:κ)(ry:RelV y u):
 KV (Ms.map λkv=>if kv.1=k then(kv.1,y)else kv) (vs.map λkv=>if kv.1=k then(kv.1,u)else kv):=by
 unfold KV at r ⊢
 induction r with
 |nil=>exact .nil
 | @cons p q ps qs h t ih=>
   rw[zY0,zY0];refine .cons ?_ ih;erw[h1,h2]at h
   by_cases e:p.1=k
   . rw[Mt e,Mt (h1.symm.trans e)];erw[h1,ry]
   . rw[Mq e,Mq (λz=>e (h1.trans z))];erw[h1,h2]
def KV.put{Ms:List (κ×V)}{vs:List (κ×Value)}(r:KV Ms vs)(k:κ)(ry:RelV y u):KV (ni Ms k y) (stored vs k u):=by
 unfold ni stored;rw[r.any k]
 by_cases e:(vs.any λkv=>decide (kv.1=k))=true
 . rw[Mt e,Mt e];exact r.repl k ry
 . rw[Mq e,Mq e];exact Paired.snoc r %[1|ry]
def KV.length{Ms:List (κ×V)}{vs:List (κ×Value)}(r:KV Ms vs):Ms.length=vs.length:=Paired.length r
end
def Dr(r:RelV (kV k) u):(dI P w).is k u=true:=by
 cases k with
 |inl i=>let%[t|e]:=(show ∃t,u=Value.int i t from r);subst e;exact wp P w i t
 |inr x=>let%[t|e]:=(show ∃t,u=Value.str x t from r);subst e;exact wo P w x t
def sZ:∀{ks:List Key}{us:List Value},Vals (ks.map kV) us->ItemsAre (dI P w) ks us
 | [],_,r=>by rw[List.map_nil]at r;cases r;exact .nil
 |k::ks,_,r=>by
   rw[zY0]at r;cases r with
   |cons h t=>exact .cons (Dr h) (sZ t)
abbrev KT(H:Hp):List (List Key×V)->List (List Key×Addr×Value)->Prop:=Paired λp q=>p.1=q.1/\H q.2.1=some (.tup (p.1.map kV))/\RelV p.2 q.2.2
def KT.val{Ms:List (List Key×V)}{xs:List (List Key×Addr×Value)}(r:KT H Ms xs)(k:List Key):RelO (ip Ms k) ((atKey xs k).map (·.2)):=by
 induction r with
 |nil=>exact True.intro
 | @cons p q ps qs h t ih=>
   erw[h1,_,h2]at h
   by_cases e:p.1=k
   . let e':q.1=k:=h1.symm.trans e;let b:atKey (q::qs) k=some q.2:=by simp [atKey,jE0,e']
     rw[dR e,b];exact h2
   . let e':¬ q.1=k:=λz=>e (h1.trans z)
     let b:atKey (q::qs) k=atKey qs k:=by simp [atKey,jE0,e']
     rw[dU e,b];exact ih
def KT.repl{Ms:List (List Key×V)}{xs:List (List Key×Addr×Value)}(r:KT H Ms xs)(k:List Key)(ry:RelV y u):
 KT H (Ms.map λkv=>if kv.1=k then(kv.1,y)else kv) (xs.map (putAt k u)):=by
 induction r with
 |nil=>exact .nil
 | @cons p q ps qs h t ih=>
   rw[zY0,zY0];refine .cons ?_ ih;erw[h1,h2,h3]at h;unfold putAt
   by_cases e:p.1=k
   . rw[Mt e,Mt (h1.symm.trans e)];erw[h1,h2,ry]
   . rw[Mq e,Mq (λz=>e (h1.trans z))];erw[h1,h2,h3]
def KT.put{Ms:List (List Key×V)}{xs:List (List Key×Addr×Value)}(r:KT H Ms xs)(k:List Key){b:Addr}(hb:H b=some (.tup (k.map kV)))(ry:RelV y u):
 KT H (ni Ms k y) (storedH xs k b u):=by
 let e:(Ms.any λkv=>decide (kv.1=k))=(atKey xs k).isSome:=by
  rw[ms,(r.val k).isSome_eq,Option.isSome_map]
 unfold ni storedH;rw[e]
 by_cases q:(atKey xs k).isSome=true
 . rw[Mt q,Mt q];exact r.repl k ry
 . rw[Mq q,Mq q];exact Paired.snoc r %[1,hb|ry]
def KT.keeps{H':Hp}{Ms:List (List Key×V)}{xs:List (List Key×Addr×Value)}(r:KT H Ms xs)(ht:∀b ys,H b=some (.tup ys)->H' b=some (.tup ys)):KT H' Ms xs:=
 Paired.mapP r λ_ _ z=>%[z.1,ht _ _ z.2.1|z.2.2]
section
variable {P:Program}{w:World}{H:Hp}{h:Heap}{a:Addr}
def FM(ok:HOk P w H h)(e:Rd H a u):ObjOk P w H h a u:=e.ok ok
def zj{Ms:List (Key×V)}(ok:HOk P w H h)(e:Rd H a (.dK Ms)):Ms.length<=sizeLine/\(a==sysModules)=false/\∃vs,KV Ms vs/\h.DictOf (dI P w) a vs:=
 show ObjOk P w H h a (.dK Ms)from FM ok e
def dk_of{Ms:List (Key×V)}(ok:HOk P w H h)(e:H a=some (.dK Ms)):Ms.length<=sizeLine/\(a==sysModules)=false/\∃vs,KV Ms vs/\h.DictOf (dI P w) a vs:=zj ok (.inl e)
def ym{ks:List Key}(ok:HOk P w H h)(e:H a=some (.tup (ks.map kV))):(tupleKind (dI P w)).is h ks a:=by
 let%[_,its,r,%[o,h1,h2,n|h3]|_]:=(show ObjOk P w H h a (.tup (ks.map kV))from ok a _ e)
 erw[o,its.toArray,n,h1,h2,h3,by simpa using sZ r]
def DL{Ms:List (List Key×V)}(ok:HOk P w H h)(e:Rd H a (.dT Ms)):Ms.length<=sizeLine/\(a==sysModules)=false/\
 ∃xs,KT H Ms xs/\h.DictOfH (tupleKind (dI P w)) a xs:=by
 let%[z,y,xs,r,o,es,ep,h1,h2,h3,h4|h5]:=(show ObjOk P w H h a (.dT Ms)from FM ok e)
 erw[z,y,xs,r,o,es,ep,h1,h2,h3,h4,λx hx=>?_,h5];let all:∀{l:List (List Key×V)}{m:List (List Key×Addr×Value)},KT H l m->∀x∈m,(tupleKind (dI P w)).is h x.1 x.2.1:=by
  intro l m q
  induction q with
  |nil=>intro x hx;exact nomatch hx
  | @cons p q ps qs hq t ih=>
    intro x hx;rcases zS0 hx with e | hx
    . subst e;exact ym ok (by rw[←hq.1];exact hq.2.1)
    . exact ih x hx
 exact all r x hx
def dt_of{Ms:List (List Key×V)}(ok:HOk P w H h)(e:H a=some (.dT Ms)):Ms.length<=sizeLine/\(a==sysModules)=false/\
 ∃xs,KT H Ms xs/\h.DictOfH (tupleKind (dI P w)) a xs:=DL ok (.inl e)
end
def DGet(H:Hp)(a:Addr)(y:V)(r:Option V):Prop:=
 (∃Ms k,Rd H a (.dK Ms)/\y=kV k/\r=ip Ms k)∨∃Ms k b,Rd H a (.dT Ms)/\y=.ref b/\H b=some (.tup (k.map kV))/\r=ip Ms k
def DPut(H:Hp)(a:Addr)(y v:V)(H':Hp):Prop:=
 (∃Ms k,H a=some (.dK Ms)/\y=kV k/\Ms.length<sizeLine/\H'=upd H a (.dK (ni Ms k v)))∨
 ∃Ms k b,H a=some (.dT Ms)/\y=.ref b/\H b=some (.tup (k.map kV))/\Ms.length<sizeLine/\H'=upd H a (.dT (ni Ms k v))
def DGet.k{H:Hp}{a:Addr}{Ms:List (Key×V)}{k:Key}(e:H a=some (.dK Ms)):DGet H a (kV k) (ip Ms k):=.inl %[Ms,k,.inl e,1|1]
def DPut.k{H:Hp}{a:Addr}{Ms:List (Key×V)}{k:Key}(e:H a=some (.dK Ms))(hl:Ms.length<sizeLine):DPut H a (kV k) v (upd H a (.dK (ni Ms k v))):=.inl %[Ms,k,e,1,hl|1]
section
variable {X:Cx}{Mp:#[7]}{σ:St}{H:Hp}{s:Shared}{a:Addr}{y v:V}{u r:Value}{o:Option V}{A:Around}{E:#[6]}
def Inv.big(I:#[8] H s):sysModules<‹s›:=by
 let h:mainGlobals<‹s›:=(I.mod.glob.keeps I.bk).lt;exact Nat.lt_trans ⋯ h
def zo{h':Heap}{t':Nat}(I:#[8] H s)(mu:Mut (H a))(hs:Heap.SameBut a s.heap h')(he:∃q,h'.get? a=some q)(new:ObjOk X.prog X.w (upd H a ob) h' a ob):
 #[8] (upd H a ob) { s with heap:=h',toks:=t' }:=
 I.write (x:=a) (e:=a) mu (.inl rfl) (λb q hb z=>(hs.2 b hb).trans z) he new
def DO{H':Hp}{h':Heap}{Ms:List (Key×V)}{vs:List (Key×Value)}(z:Ms.length<=sizeLine)(hd:(a==sysModules)=false)(rel:KV Ms vs)(dd:h'.DictOf (dI P w) a vs):
 ObjOk P w H' h' a (.dK Ms):=%[z,hd,vs,rel|dd]
def AQ{Q:Unit->Shared->Prop}(hu:A.units+1<cLine)(I:#[8] H s)(g:DPut H a y v H')(ry:RelV y u)(rv:RelV v r)(h:∀s',#[8] H' s'->Q () s'):
 wpAny (model X.prog X.w) A (setItem (.ref a) u r) Q E s:=by
 rcases g with⟨Ms,k,e,ey,l,eH⟩ | ⟨Ms,k,b,e,ey,eb,l,eH⟩
 . subst ey eH;let%[z,hd,vs,rel|dd]:=dk_of I.hok e;let hz:vs.length<=sizeLine:=by rw[←rel.length];exact z
   let hl:(ni Ms k v).length<=sizeLine:=by have:=kM Ms k v;omega
   apply wpAny_setItem_pairs (hsz:=hz) (Dr ry) dd λh' dd' hs=>h _ ?_
   let he:∃q,h'.get? a=some q:=let⟨q,_,_,hq,_⟩:=dd';%[q|hq]
   exact zo I (by rw[e];exact True.intro) hs he (DO hl hd (rel.put k rv) dd')
 . subst ey eH;cases(show u=Value.ref b from ry);let%[z,hd,xs,rel|dd]:=dt_of I.hok e;let hz:xs.length<=sizeLine:=by rw[←Paired.length rel];exact z
   let hl:(ni Ms k v).length<=sizeLine:=by have:=kM Ms k v;omega
   apply wpAny_setItem_heap (hsz:=hz) (tupleKind_room_in1 hu) (ym I.hok eb) dd λh' dd' hs=>h _ ?_
   erw[q,es,ep,hq,h2,h3,h4,_,h5]at dd';apply zo I (by rw[e];exact True.intro) hs ⟨q,hq⟩ ⟨hl,hd,_,(rel.put k eb rv).keeps λc ys ec=>?_,q,es,ep,hq,h2,h3,h4,h5⟩;rw[aB (bL ec e (λz=>nomatch z))];exact ec
end
instance ZsDPut(D:Ends)(σ:St)(v:V)(x:V)(y:V)(H3:Hp):∀a H4,x=.ref a->DPut H3 a y v H4->D.nx σ H4:=0
def sDPut(td ty tv:TE):TS:=λD σ H=>tv σ H λv H1=>td σ H1 λx H2=>ty σ H2 λy H3=>ZsDPut D σ v x y H3
section
variable {X:Cx}{o i e value:Expr}{pos pos' tpos:Pos}{td ty tv:TE}
def EM(hu:X.A.units+1<cLine)(ho:PE X o td)(hi:PE X i ty)(hv:PE X value tv)(hs:swapsWith value (some (.Subscript o i pos')) pos.line X.env=pure false):
 PS X (.Assign [.Subscript o i pos'] value pos) (sDPut td ty tv):=by
 exists 4,D,I,h;apply wpAny_Assign_Subscript (thn (hv Mp s σ H _ I h) λr s1 ⟨v,H1,I1,rv,q1⟩=>thn (ho Mp s1 σ H1 _ I1 q1) λu s2 ⟨x,H2,I2,rx,q2⟩=>thn (hi Mp s2 σ H2 _ I2 q2) λiv s3 ⟨y,H3,I3,ry,a,H4,ex,g,q3⟩=>?_) hs;subst ex;obtain rfl:u=Value.ref a:=rx;exact AQ hu I3 g ry rv λs4 I4=>%[σ,H4,I4|q3]
end
def DP{P:Program}{w:World}{H:Hp}(h:Heap)(hb:sysModules<h.objs.size):ObjOk P w H (h.push { cls:=.type "dict",data:=.dict #[] }) h.objs.size (.dK []):=
 %[zT0 _,beq_eq_false_iff_ne.mpr (Ne.symm (zX0 hb)),[],.nil|Heap.DictOf.new h]
def Gn:TE:=λ_ H Q=>∀p,H p=none->Q (.ref p) (upd H p (.dK []))
section
variable {X:Cx}{pos:Pos}
def Cf:PE X (.Dict [] [] pos) Gn:=λMp s σ H Q I h=>
 wpAny_Dict_empty %[.ref ‹s›,_,I.laid (a:=‹s›) (o:=.dK []) (t':=s.toks) (λ_ _ q=>zU0 _ q) (zH0 _) (DP s.heap I.big),1|h _ (I.hok.fresh (zH0 _))]
end
structure M2(X:Cx)(o:Expr)(m:Str)(Mz:Pos)(e f:Expr)(Mu:Pos):Prop where
 base:attributeBase o m X.env (eval o X.env)=eval o X.env
 few:((backTo Mu (starEach [e,f] X.env)).all (λx=>!x.1)&&(backToKw Mu (keywordEach [] X.env)).all (λx=>x.1.isSome)
  &&decide (([e,f]:List Expr).length+([]:List Keyword).length+(if([]:List Keyword).isEmpty then 0 else 1)<30))=true
 line:(Mz.endLine==Mu.line)=true
 trees:backTo Mu (starEach [e,f] X.env)=[(false,eval e X.env),(false,eval f X.env)]
def IsD(H:Hp)(a:Addr):Prop:=(∃Ms,Rd H a (.dK Ms))∨∃Ms,Rd H a (.dT Ms)
def Hk{σ:St}(I:#[8] H s)(d:IsD H a):
 s.TypeIs (.ref a) "dict"/\(∀b,Value.ref a=.ref b->∃ob,s.heap.get? b=some ob/\ob.dict=none)/\(a==sysModules)=false:=by
 rcases d with⟨Ms,e⟩ | ⟨Ms,e⟩
 . let%[_,hd,vs,_|dd]:=zj I.hok e;erw[dd.typeIs,λb q=>?_,hd];cases q;erw[ob,_,_,h1,h2,_]at dd;erw[ob,h1,h2.2.1]
 . let%[_,hd,xs,_|dd]:=DL I.hok e;erw[dd.typeIs,λb q=>?_,hd];cases q;erw[ob,_,_,h1,h2,_]at dd;erw[ob,h1,h2.2.1]
section
variable {X:Cx}{Mp:#[7]}{σ:St}{H:Hp}{s:Shared}{a:Addr}{y d:V}{u r:Value}{o:Option V}{A:Around}{E:#[6]}
def HI{Q:#[6]}(hu:A.units+1<cLine)(I:#[8] H s)(g:DGet H a y o)(ry:RelV y u)(rd:RelV d r)(h:∀w' s',#[8] H s'->RelV (o.getD d) w'->Q w' s'):
 wpAny (model X.prog X.w) A (call (.builtin "dict.get") [.ref a,u,r]) Q E s:=by
 rcases g with⟨Ms,k,e,ey,l⟩ | ⟨Ms,k,b,e,ey,eb,l⟩
 . subst ey;let%[z,hd,vs,rel|dd]:=zj I.hok e;apply call_meetsIn jR0 dd.typeIs PySem.F.entry_dict_get (PySem.F.args_dict_get_3 _ _ _) (meets_dict_get_default (dI X.prog X.w) a (Dr ry) hd r) %[_,dd.mapOf|h _ _ (I.tok _) ?_];rw[l];exact(rel.val k).getD rd
 . subst ey;cases(show u=Value.ref b from ry);let%[z,hd,xs,rel|dd]:=DL I.hok e;apply call_meetsIn jR0 dd.typeIs PySem.F.entry_dict_get (PySem.F.args_dict_get_3 _ _ _) (meetsH_dict_get_default (tupleKind (dI X.prog X.w)) a b hd r) %[tupleKind_room_in1 hu,k,xs,ym I.hok eb,dd|h _ _ (I.tok _) ?_];rw[l];exact(rel.val k).getD rd
end
instance ZtDGet2(ty:TE)(tx:TE)(σ:St)(Q:VK)(x:V)(H1:Hp):∀a,x=.ref a->IsD H1 a->(ty σ H1 λy H2=>tx σ H2 λz H3=>∃o,DGet H3 a y o/\Q (o.getD z) H3):=0
def Go(td ty tx:TE):TE:=λσ H Q=>td σ H λx H1=>ZtDGet2 ty tx σ Q x H1
section
variable {X:Cx}{o e f:Expr}{Mz Mu:Pos}{td ty tx:TE}
def Cg(hu:X.A.units+1<cLine)(ho:PE X o td)(he:PE X e ty)(hf:PE X f tx)(m:M2 X o "get" Mz e f Mu):PE X (.Call (.Attribute o "get" Mz) [e,f] [] Mu) (Go td ty tx):=by
 exists 4,Q,I,h;apply wpAny_Call_method m.base m.few m.line PySem.F.plainAttrs_dict jR0 PySem.F.type_dict_get (thn (ho Mp s σ H _ I h) λu s1 ⟨x,H1,I1,rx,a,ex,d,q1⟩=>?_);subst ex;obtain rfl:u=Value.ref a:=rx;let%[t1,t2|_]:=Hk I1 d;erw[t1,t2,6];rw[m.trees];apply jD0 rfl (jG0 (qK1 (thn (he Mp s1 σ H1 _ I1 q1) λiv s2 ⟨y,H2,I2,ry,q2⟩=>
  qK1 (thn (hf Mp s2 σ H2 _ I2 q2) λfv s3 ⟨z,H3,I3,rz,ov,g,q3⟩=>qZ0 ?_))))
 exact HI hu I3 g ry rz λw' s4 I4 rw'=>%[_,H3,I4,rw'|q3]
end
section
variable {X:Cx}{Mp:#[7]}{σ:St}{H:Hp}{s:Shared}{a:Addr}{Ms:List (Key×V)}{A:Around}{E:#[6]}
def DT{Q:#[6]}(I:#[8] H s)(e:Rd H a (.dK Ms))(h:∀p s',H p=none->#[8] (upd H p (.dK Ms)) s'->Q (.ref p) s'):wpAny (model X.prog X.w) A (call (.type "dict") [.ref a]) Q E s:=by
 let%[z,hd,vs,rel|dd]:=zj I.hok e;apply kt_call_dict hd dd (by rw[←rel.length];exact z) λh' dd' hs=>?_
 apply h _ _ (I.hok.fresh (zH0 _)) (I.laid (a:=‹s›) (o:=.dK Ms) (t':=s.toks) (λb q hq=>?_) (zH0 _) (DO z (beq_eq_false_iff_ne.mpr (Ne.symm (zX0 I.big))) rel dd'));exact(hs.2 b (zX0 (zQ0 hq))).trans (zU0 _ hq)
end
section
variable {X:Cx}
def Inv.tupD{σ:St}{a:Addr}{xs:List V}(I:#[8] H s)(h:H a=some (.tup xs)):∃ob,s.heap.get? a=some ob/\ob.dict=none:=by
 let%[_,_,_,_,o,e|d]:=(show ObjOk X.prog X.w H s.heap a (.tup xs)from I.hok a _ h)
 erw[o,e,d]
instance ZtIndex(t:TA)(σ:St)(Q:VK)(x:V)(H1:Hp):∀(a:Addr)(ns:List Str),x=.ref a->H1 a=some (.lst (ns.map V.str))∨H1 a=some (.tup (ns.map V.str))->(t σ H1 λvs H2=>(H2 a=H1 a)/\∃(z:Str)(j:Nat),vs=[.str z]/\hE z ns=some j/\Q (.int (j:Int)) H2):=0
def Gi(K:W.Frag)(to:TE)(t:TA):TE:=λσ H Q=>to σ H λx H1=>ZtIndex t σ Q x H1
variable {o e:Expr}{es:List Expr}{to:TE}{t:TA}{Mz Mu:Pos}
def vP(pl:PlainAttrs "list")(pt:PlainAttrs "tuple")(ho:PE X o to)(ha:PA X (e::es) t)
 (hbase:attributeBase o "index" X.env (eval o X.env)=eval o X.env:=by rfl)
 (hfew:((backTo Mu (starEach (e::es) X.env)).all (λx=>!x.1)&&(backToKw Mu (keywordEach [] X.env)).all (λx=>x.1.isSome)
  &&decide ((e::es).length+([]:List Keyword).length+(if([]:List Keyword).isEmpty then 0 else 1)<30))=true:=by rfl)
 (hline:(Mz.endLine==Mu.line)=true:=by rfl) (hs:starEach (e::es) X.env=(false,eval e X.env)::starEach es X.env:=by rfl) (hplain:(backTo Mu (starEach es X.env)).any (·.1)=false:=by rfl) :
 PE X (.Call (.Attribute o "index" Mz) (e::es) [] Mu) (Gi X.K to t):=by
 exists 4,Q,I,h;apply wpAny_Call_method_late hbase hfew hline rfl (thn (ho Mp s σ H _ I h) λv s1 ⟨x,H1,I1,r1,a,ns,ex,hh,q1⟩=>?_);subst ex;cases r1;let hA:=ha Mu Mp s1 σ H1 _ I1 q1;rw[hs]at hA ⊢;rcases hh with hh | hh
 . let%[its,_,p|_]:=I1.list (zG0 hh);let%[ob,n,e1,c,d|_]:=id p;erw["list","list.index",pl,F.slot_list_index,F.type_list_index,p.isList.typeIs,λb eb=>?_,6]
   . cases eb;erw[ob,e1,d]
   . apply jD0 (by show(false||(backTo Mu (starEach es X.env)).any (·.1))=false;rw[hplain] <;> rfl) (jG0 ?_);exact thn hA λus s2 ⟨vs,H2,I2,r2,ek,z,j,ez,hp,q2⟩=>Ap Mp s2 σ H2 (.ref a) vs (.ref a) us Q I2 rfl r2 %[a,ns,z,j,1,ez,zG0 (ek.trans hh),hp|q2]
 . let%[its,_,p|_]:=I1.tuple (zB0 hh);erw["tuple","tuple.index",pt,F.slot_tuple_index,F.type_tuple_index,p.typeIs,λb eb=>?_,6]
   . cases eb;exact I1.tupD hh
   . apply jD0 (by show(false||(backTo Mu (starEach es X.env)).any (·.1))=false;rw[hplain] <;> rfl) (jG0 ?_);exact thn hA λus s2 ⟨vs,H2,I2,r2,ek,z,j,ez,hp,q2⟩=>Ao Mp s2 σ H2 (.ref a) vs (.ref a) us Q I2 rfl r2 %[a,ns,z,j,1,ez,zB0 (ek.trans hh),hp|q2]
end
section
variable {X:Cx}
def tD:∀{xs:List V}{us:List Value},Vals xs us->xs.all kf=true->us.countP (eqU x)=xs.countP λy=>eqV y x
 |_,_,.nil,_=>rfl
 |y::xs,u::us,.cons r t,f=>by
   rw[jK1,qN1]at f;rw[List.countP_cons,List.countP_cons,yv r f.1,tD t f.2]
instance rCountL(K:W.Frag)(x:V)(vs:List V)(H:Hp)(Q:VK):∀(a:Addr)(xs:List V)(z:V),x=.ref a->vs=[z]->SqL K H a xs->xs.all kf=true->kf z=true->Q (.int ((xs.countP λy=>eqV y z:Nat):Int)) H:=0
def wn:MtR X "list.count" (rCountL X.K):=by
 exists 4,x,vs,v,us,Q,I,rx,rv,h;erw[a,xs,z,1,1,hq,fs,fz,q]at h;cases rx;erw[u,1,ru]at rv.one;let%[its,r,%[%[cls,dd,data|sl],n,ho,hc,hdd|hd]|hz]:=I.list hq;simp only at hc hd;subst hc hd;apply qQ1 F.slot_list_count %[_,ho|1] F.entry_list_count (F.args_list_count_2 _ _) (SeqAt.list_countAt a its.toArray n dd sl u (eqU z)) ⟨ho,λy hy=>?_,?_⟩
 . exact gO ru fz r fs y #[hy,0]
 . rw[show its.toArray.toList=its from rfl,tD r fs];erw[.int ((xs.countP λy=>eqV y z:Nat):Int),H,I.tok _,%[|0],q]
end
def eG(g:Nat->Int):Nat->Int
 |0=>g 0
 |k+1=>if eG g k<g (k+1)then g (k+1)else eG g k
def De(ns:List Int)(d:Int):Int:=match ns with | []=>d | _::_=>eG (λi=>ns[i]?.getD 0) (ns.length-1)
section
variable {prog:Program}{w:World}{A:Around}{R:Result->Shared->Prop}{I S:Addr}{fp wr:List Addr}{n:Nat}{P:Nat->Value->Prop}{St:Nat->Heap->Prop}{g:Nat->Int}{kw:List (Str×Value)}
def qc:(toString "max"++toString ".loop":String)="max.loop":=by decide
def CY(W:Walks prog w A.in1 I fp wr n P St)(gv:∀i v,P i v->∃t,v=Value.int (g i) t)(nS:S∉fp):∀(k j:Nat)(s:Shared)(t:Tok)(c:Nat),j+1+k=n->St (j+1) s.heap ->
 s.heap.get? S=some { cls:=.type "list",dict:=none,data:=.seq #[.int (eG g j) t,.int (eG g j) t] c,slots:=#[] } ->
 (∀t' h' tk,(∀b o,b∉wr->b≠S->s.heap.get? b=some o->h'.get? b=some o)->R (.ok (.ret (.int (eG g (n-1)) t'))) { s with heap:=h',toks:=tk }) ->
 codeAny (model prog w) A (.builtin "max.loop" %[[.ref I,.none,.ref S]|kw]) R s:=by
 let nw:S∉wr:=λz=>nS (W.sub _ z)
 intro k
 induction k with
 |zero=>
   intro j s t c ek st eS q;apply codeAny_builtin wN0 ?_;rw[jU0 qW1 _];show wpAny _ A.in1 (seqItems? (.ref S) >>= _) _ _ s;apply zE0 (jQ0 eS rfl ?_);show wpAny _ A.in1 (tryCatch (pyNext (.ref I)) _ >>= _) _ _ s;apply zE0 (wH0 (W.done s _ _ (by rw[←ek];exact st) λh' tk kp=>?_));show wpAny _ A.in1 (updateSeq S (λ_=>#[]) >>= _) _ _ _;apply zE0 ?_;apply wpAny_updateSeq (kp S _ nw eS) rfl (zE0 (wK1 (zJ0 ?_)));let e:n-1=j:=#[0]
   rw[e]at q;exact q t _ tk λb o h1 h2 eb=>(Heap.get?_update_other _ _ (Ne.symm h2)).trans (kp b o h1 eb)
 |succ k ih=>
   intro j s t c ek st eS q;apply codeAny_builtin wN0 ?_;rw[jU0 qW1 _];show wpAny _ A.in1 (seqItems? (.ref S) >>= _) _ _ s;apply zE0 (jQ0 eS rfl ?_);show wpAny _ A.in1 (tryCatch (pyNext (.ref I)) _ >>= _) _ _ s;apply zE0 (wH0 (W.item (j+1) s _ _ #[0] st λv h' tk pv st' kp=>?_));let%[tv|1]:=gv _ _ pv;let eS':=kp S _ nw eS;show wpAny _ A.in1 (tryCatch (holding [Value.int (g (j+1)) tv,Value.int (g (j+1)) tv] (richCompare .Gt (Value.int (g (j+1)) tv) (Value.int (eG g j) t) >>= _)) _ >>= _) _ _ _;apply zE0 (wH0 (jF1 (zE0 (CmpOf.ints_gt (prog:=prog) (w:=w) (A:=A.in1) (P:=λi v=>∃t,v=Value.int (if i=0 then eG g j else g (j+1)) t) (λi=>if i=0 then eG g j else g (j+1)) (λi v h=>h) 1 0 _ _ _ _ _ %[tv|1] ⟨t,rfl⟩ ?_))));apply zE0 (jF1 (qA1 ?_));apply zE0 (wK1 (zJ0 ?_))
   by_cases c1:eG g j<g (j+1)
   . let e1:eG g (j+1)=g (j+1):=by unfold eG;rw[Mt c1]
     apply zX1 (λ_=>?_) (λhab=>absurd (zD1 c1) hab);apply zE0 ?_;apply wpAny_updateSeq eS' rfl (zE0 (wK1 ?_));rw[qc];apply zJ0 %[wL0 qW1 _|ih (j+1) _ tv _ #[0] (W.frame _ _ _ st' λb hb o eb=>?_) (by rw[e1];exact Heap.get?_update_self _ eS' rfl) λt' h2 tk2 kp2=>?_]
     . exact(Heap.get?_update_other _ _ (λz:S=b=>nS (by rw[z];exact hb))).trans eb
     . exact q t' h2 tk2 λb o h1 h3 eb=>kp2 b o h1 h3 ((Heap.get?_update_other _ _ (Ne.symm h3)).trans (kp b o h1 eb))
   . let e1:eG g (j+1)=eG g j:=by unfold eG;rw[Mq c1];cases j <;> rfl
     apply zX1 (λhab=>absurd (zZ1 hab) c1) (λ_=>?_);apply zE0 (wK1 ?_);rw[qc];apply zJ0 %[wL0 qW1 _|ih (j+1) _ t c #[0] st' (by rw[e1];exact eS') λt' h2 tk2 kp2=>?_];exact q t' h2 tk2 λb o h1 h3 eb=>kp2 b o h1 h3 (kp b o h1 eb)
def CZ(W:Walks prog w A.in1 I fp wr n P St)(gv:∀i v,P i v->∃t,v=Value.int (g i) t)(nS:S∉fp)(hn:0<n){s:Shared}{c:Nat}(st:St 0 s.heap)(eS:s.heap.get? S=some { cls:=.type "list",dict:=none,data:=.seq #[] c,slots:=#[] })
 (q:∀t' h' tk,(∀b o,b∉wr->b≠S->s.heap.get? b=some o->h'.get? b=some o)->R (.ok (.ret (.int (eG g (n-1)) t'))) { s with heap:=h',toks:=tk }):
 codeAny (model prog w) A (.builtin "max.loop" %[[.ref I,.none,.ref S]|kw]) R s:=by
 let nw:S∉wr:=λz=>nS (W.sub _ z)
 apply codeAny_builtin wN0 ?_;rw[jU0 qW1 _];show wpAny _ A.in1 (seqItems? (.ref S) >>= _) _ _ s;apply zE0 (jQ0 eS rfl ?_);show wpAny _ A.in1 (tryCatch (pyNext (.ref I)) _ >>= _) _ _ s;apply zE0 (wH0 (W.item 0 s _ _ hn st λv h' tk pv st' kp=>?_));let%[tv|1]:=gv _ _ pv;let eS':=kp S _ nw eS;show wpAny _ A.in1 (updateSeq S (λ_=>#[Value.int (g 0) tv,Value.int (g 0) tv]) >>= _) _ _ _;apply zE0 ?_;apply wpAny_updateSeq eS' rfl ?_;rw[qc];apply zJ0 %[wL0 qW1 _|CY W gv nS (n-1) 0 _ tv _ #[0] (W.frame _ _ _ st' λb hb o eb=>?_) (Heap.get?_update_self _ eS' rfl) λt' h2 tk2 kp2=>?_]
 . exact(Heap.get?_update_other _ _ (λz:S=b=>nS (by rw[z];exact hb))).trans eb
 . exact q t' h2 tk2 λb o h1 h3 eb=>kp2 b o h1 h3 ((Heap.get?_update_other _ _ (Ne.symm h3)).trans (kp b o h1 eb))
end
section
variable {X:Cx}{e k:Expr}{te tk:TE}{pos p1 kp:Pos}
instance rMax1(K:W.Frag)(xs:List V)(H:Hp)(Q:VK):∀a ns,xs=[.ref a]->SqL K H a (ns.map V.int)->ns≠[]->Q (.int (De ns 0)) H:=0
def tE(hc:X.calm=true):gP X (.builtin "max") (rMax1 X.K):=by
 intro Mp s2 σ H2 xs us Q I2 r h;erw[a,ns,1,hq,hn,q]at h;let%[u,1|ru]:=jm r;cases ru;let%[its,r',p|hz]:=I2.list hq;let hl:=r'.length;rw[zF0]at hl;let Mv:a<‹s2›:=by erw[o,n,e,_]at p;exact zQ0 e
 apply call_function_tree F.kind_max F.plain_max F.entry_max (F.args_max1 _) ?_;show wpAny _ X.A.in1 (Builtin.Builtins.bindParams "max" ["key","default"] 0 %[[]|[]] >>= λ_=>_) _ _ s2;apply zE0 (jB0 (a:=[none,none]) rfl ?_);apply zE0 (zJ0 ?_);apply zE0 (jP0 p.isList ?_);apply zE0 (zW1 ?_);rw[qc];let hne:a≠‹s2›:=zX0 Mv;let W:=Walks.list (prog:=X.prog) (w:=X.w) (A:=X.A.in1) (I2.ok.hd hc) ‹s2› a hne its.toArray;let I3:#[8] H2 { s2 with heap:=s2.heap.push { cls:=.type "list_iterator",data:=.fields #[.ref a,.int 0 0] } }:=I2.kept (t':=s2.toks) λb o eb=>zU0 _ eb
 let I4:#[8] H2 { s2 with heap:=(s2.heap.push { cls:=.type "list_iterator",data:=.fields #[.ref a,.int 0 0] }).push { cls:=.type "list",data:=.seq #[] } }:=I3.kept (t':=s2.toks) λb o eb=>zU0 _ eb
 let hz1:∀o:Obj,(s2.heap.push o).objs.size=‹s2›+1:=λo=>by simp [Heap.push]
 let nS:(s2.heap.push { cls:=.type "list_iterator",data:=.fields #[.ref a,.int 0 0] }).objs.size∉[‹s2›,a]:=by
  intro hm;rcases zS0 hm with z | z
  . rw[hz1]at z;exact absurd z (Nat.succ_ne_self _)
  . let z:=zR0 z;rw[hz1]at z;exact absurd z (wO1 (wI0 Mv))
 let gv:∀i v,its.toArray[i]?=some v->∃t,v=Value.int (ns[i]?.getD 0) t:=λi v hv=>by
  let%[b,t,hb|1]:=rJ r' (i:=i) (v:=v) (by first | exact hv | simpa using hv | (rw[List.getElem?_toArray]at hv;exact hv));erw[t,by rw[hb];rfl]
 let n0:0<ns.length:=List.length_pos_iff.mpr hn;apply zJ0 %[wL0 qW1 _|CZ (g:=λi=>ns[i]?.getD 0) W gv nS (by rw[zP0,←hl];exact n0) %[%[_,zU0 _ (qC0 _ rfl),1|1]|(p.isList.push _).push _] (qC0 _ rfl) λt' h' tk kp=>?_];rw[zP0,←hl];let em:eG (λi=>ns[i]?.getD 0) (ns.length-1)=De ns 0:=by
  cases ns with
  |nil=>exact absurd rfl hn
  |cons _ _=>rfl
 rw[em];erw[.int _,H2,6,%[|0],q];let J:=Inv.turnedL (h':=h') (t':=tk) (ch:=[‹s2›,‹s2›+1]) I4 (λb o hb eb=>kp b o (λz=>hb (by rw[zR0 z];exact qB0)) (λz=>hb (by rw[z,hz1];exact qK0 _ qB0)) eb);apply J λb hb=>?_
 rcases zS0 hb with h | h
 . rw[h];exact I2.fpOk (zH0 _) (I2.hok.fresh (zH0 _))
 . rw[zR0 h];exact I2.fpOk (qN0 _) (I2.hok.fresh (qN0 _))
end
section
variable {prog:Program}{w:World}{A:Around}{E:#[6]}{s:Shared}
def Ep{it t:Addr}{i:Nat}{items:Array Value}{x:Value}{Q:#[6]}(hit:s.heap.IsTupleIter it t i)(ht:s.heap.IsTuple t items)(hx:items[i]?=some x)
 (q:∀h',h'.IsTupleIter it t (i+1)->Heap.SameBut it s.heap h'->Q x { s with heap:=h' }):‹w.A› (Builtin.SmallTypes.nextOf (.ref it)) Q E s:=by
 let%[o,ho,hc|hd]:=id hit;erw[ol,hol,_,nl,hdl]at ht;unfold Builtin.SmallTypes.nextOf;apply zE0 (qB1 (name:=Str.ofString "__next__") hit.typeIs qU1 (qM1 qU1 hit.typeIs F.entry_tuple_iterator_next ?_ (F.args_tuple_iterator_next_1 _)));show wpAny _ _ (field (.ref it) 0 >>= _) _ _ s;apply zE0 (qL1 ho hd (x:=.ref t) rfl ?_);show wpAny _ _ (if(Value.ref t==Value.none)=true then _ else _) _ _ s;rw[Mq (show ¬ ((Value.ref t==Value.none)=true)from qD0)];show wpAny _ _ (field (.ref it) 1 >>= _) _ _ s;apply zE0 (qL1 ho hd (x:=.int i 0) rfl ?_);show wpAny _ _ (seqItems? (.ref t) >>= _) _ _ s;apply zE0 (jQ0 hol hdl ?_);simp only[qP0,hx];apply zE0 (wpAny_setField ho hd #[2] (zJ0 %[x,1|zJ0 (q _ ?_ (Heap.SameBut.update ..))]));erw[_,Heap.get?_update_self _ ho (Obj.isFreed_of_fields (Obj.data_mapFields hd _)),(Obj.cls_mapFields ..).trans hc,by rw[Obj.data_mapFields hd];simp [rawInt]]
def Bm{it t:Addr}{i:Nat}{items:Array Value}{Q:#[6]}(hh:A.handled=none)(hit:s.heap.IsTupleIter it t i)(ht:s.heap.IsTuple t items)(hx:items[i]?=none)
 (q:∀h' e,Heap.ExtBut it s.heap h'->(∃o,h'.get? e=some o/\o.cls=.type "StopIteration")->E (.ref e) { s with heap:=h' }):‹w.A› (Builtin.SmallTypes.nextOf (.ref it)) Q E s:=by
 let%[o,ho,hc|hd]:=id hit;erw[ol,hol,_,nl,hdl]at ht;unfold Builtin.SmallTypes.nextOf;apply zE0 (qB1 (name:=Str.ofString "__next__") hit.typeIs qU1 (qM1 qU1 hit.typeIs F.entry_tuple_iterator_next ?_ (F.args_tuple_iterator_next_1 _)));show wpAny _ _ (field (.ref it) 0 >>= _) _ _ s;apply zE0 (qL1 ho hd (x:=.ref t) rfl ?_);show wpAny _ _ (if(Value.ref t==Value.none)=true then _ else _) _ _ s;rw[Mq (show ¬ ((Value.ref t==Value.none)=true)from qD0)];show wpAny _ _ (field (.ref it) 1 >>= _) _ _ s;apply zE0 (qL1 ho hd (x:=.int i 0) rfl ?_);show wpAny _ _ (seqItems? (.ref t) >>= _) _ _ s;apply zE0 (jQ0 hol hdl ?_);simp only[qP0,hx]
 first
  |apply zE0 (wpAny_rule (zE0 (wpAny_setField ho hd #[2] (zE0 (wK1 ?_)))))
  |apply zE0 (wpAny_rule (zE0 (wpAny_setField ho hd #[2] ?_)))
 show wpAny _ _ (newExc (.type "StopIteration") [] >>= _) _ _ _;apply zE0 ?_;simp only[newExc,newTuple];apply zE0 (zW1 ?_ (by size_fits));apply zE0 (m:=firstArgMember _ _) (jB0 (a:=Value.none) (by first | rfl | (simp only[firstArgMember];rfl)) ?_);apply zW1 ?_ (by size_fits);simp only[raiseNew];apply zE0 (wpAny_handled ?_)
 first | rw[show A.in1.handled=none from hh] | rw[hh]
 apply zE0 (zJ0 (wpAny_throw ?_));exact q _ _ (((Heap.SameBut.update ..).extBut.push _).push _) %[_,qC0 _ rfl|1]
def AN{e it t:Addr}{j:Nat}{i:Int}{old:Value}{items:Array Value}{Q:Option Value->Shared->Prop}(hh:A.handled=none)(he:IsEnum s.heap e it i old)(hit:s.heap.IsTupleIter it t j)(ht:s.heap.IsTuple t items)(hx:items[j]?=none)
 (q:∀h',Heap.ExtBut it s.heap h'->Q none { s with heap:=h' }):‹w.A› (pyNext (.ref e)) Q E s:=by
 let hT:s.TypeIs (.ref e) "enumerate":=%[_,he|1]
 unfold pyNext;apply zE0 (wK0 (qB1 (name:=Str.ofString "__next__") hT F.slot_enumerate_next (qM1 F.slot_enumerate_next hT F.entry_enumerate_next ?_ (F.args_enumerate_next_1 _))));show wpAny _ _ (field (.ref e) 2 >>= _) _ _ _;apply zE0 (qL1 he rfl (x:=.ref it) rfl ?_);apply zE0 (Bm hh hit ht hx λh' x he' hx'=>?_);erw[o,ho,hc]at hx';apply zE0 (wM1 (T:="StopIteration") (b:=true) %[o,ho|hc] isSubtype_stop ?_);exact zJ0 (q h' he')
end
def AO{prog:Program}{w:World}{A:Around}(hh:A.handled=none)(it l:Addr)(hne:l≠it)(items:Array Value):Draws prog w A it [it,l] items.size (λi v=>items[i]?=some v) (λi h=>h.IsTupleIter it l i/\h.IsTuple l items) where
 live:=λ_ _ st=>let⟨o,ho,_⟩:=st.1;%[o|ho]
 frame:=λ_ _ _ st k=>%[st.1.at λo e=>k it #[2] o e|st.2.at λo e=>k l #[2] o e]
 item:=λi s Q E hi st q=>by
  apply Ep st.1 st.2 (x:=items[i]) (by simp [hi]) λh' a b=>?_
  exact q _ h' s.toks (by simp [hi]) %[a|st.2.extBut b.extBut hne] b
 done:=λs Q E st q=>Bm hh st.1 st.2 #[2] q
open AutoSeq1 (wpAny_loadPart') in
set_option maxHeartbeats 1000000 in
def wu(l:Addr)(items:Array Value)(n:Nat)(dct:Option Addr)(sl:Array (Option Value)):
 Meets (Builtin.«enumerate.__new__» %[[.type "enumerate",.ref l]|[]]) (λ_ R s=>s.heap.get? l=some { cls:=.type "tuple",dict:=dct,data:=.seq items n,slots:=sl }/\
  R (.ok (.ret (.ref (s.heap.push { cls:=.type "tuple_iterator",data:=.fields #[.ref l,.int 0 0] }).objs.size)))
   { s with heap:=(s.heap.push { cls:=.type "tuple_iterator",data:=.fields #[.ref l,.int 0 0] }).push { cls:=.type "enumerate",data:=.fields #[.none,.bool false,.ref ‹s›,rawInt 0,.none,.none] } }):=
 .of_wp λprog w A R s h=>by
  erw[hp,g,d,tk,os]at s;erw[hl,h]at h;let hsub:=sub_enumerate;let hL:Heap.IsTuple (Shared.heap %[hp,g,d,tk|os]) l items:=⟨_,hl,rfl,n,rfl⟩
  wp_walk using wpAny_loadPart' hl
  apply wpAny_stack_any λst=>zJ0 ?_
  split
  . rename_i c _ _ _ _ _;cases(c==Value.type "enumerate")
    . wp_walk using wpAny_loadPart' hl,jJ0 hL
      erw[0,h]
    . wp_walk using wpAny_loadPart' hl,jJ0 hL
      erw[0,h]
  . wp_walk using wpAny_loadPart' hl,jJ0 hL
    erw[0,h]
section
variable {prog:Program}{w:World}{A:Around}{E:#[6]}{s:Shared}
def yC{l:Addr}{items:Array Value}{Q:#[6]}(hL:s.heap.IsTuple l items)
 (q:∀h',IsEnum h' (‹s›+1) ‹s› 0 .none->h'.IsTupleIter ‹s› l 0->(∀b o,s.heap.get? b=some o->h'.get? b=some o)->Q (.ref (‹s›+1)) { s with heap:=h' }):
 ‹w.A› (call (.type "enumerate") [.ref l]) Q E s:=by
 erw[%[c,dct,dt|sl],hl,hc,n,hd]at hL
 replace hc:c=.type "tuple":=hc
 replace hd:dt=.seq items n:=hd
 subst hc hd;apply callType_new F.called_enumerate ⋯ (F.typeCall_enumerate_1 _) (F.newCall_enumerate_1 _) (λobj=>F.args_object_init_2 obj _) F.entry_enumerate_new (wu l items n dct sl) %[hl|6];let hz:(s.heap.push { cls:=.type "tuple_iterator",data:=.fields #[.ref l,.int 0 0] }).objs.size=‹s›+1:=wF1 ..;show _/\_;rw[hz];let he:IsEnum ((s.heap.push { cls:=.type "tuple_iterator",data:=.fields #[.ref l,.int 0 0] }).push { cls:=.type "enumerate",data:=.fields #[.none,.bool false,.ref ‹s›,rawInt 0,.none,.none] }) (‹s›+1) ‹s› 0 .none:=by
  have:=qC0 (s.heap.push { cls:=.type "tuple_iterator",data:=.fields #[.ref l,.int 0 0] }) (o:={ cls:=.type "enumerate",data:=.fields #[.none,.bool false,.ref ‹s›,rawInt 0,.none,.none] }) rfl
  rw[hz]at this;exact this
 erw[%[_,he|1],q _ he ⟨_,zU0 _ (qC0 _ rfl),rfl,rfl⟩ λb o x=>zU0 _ (zU0 _ x)]
end
def Ed(K:W.Frag)(a:Addr):It:=
 ⟨λi H=>∃xs x,SqT K H a xs/\xs[i]?=some x,λi H y H'=>∃t,y=.ref t/\H t=none/\∀xs x,SqT K H a xs->xs[i]?=some x->H'=upd H t (.tup [.int i,x]),λi H=>∃xs,SqT K H a xs/\xs.length<=i⟩
def xf{K:W.Frag}{elts:List Expr}{k:Nat}{pos:Pos}(a e it:Addr)(hei:e≠it)(hai:a≠it)(hae:a≠e):
 Turn P w K (.Tuple elts k pos) (Ed K a) [e,it] e (λi h=>(∃old,IsEnum h e it i old)/\h.IsTupleIter it a i) where
 mem:=by simp
 obj:=λi h st b hb=>by
  erw[%[old|he],o,e2,c,d]at st;rcases zS0 hb with z | z
  . subst z;erw[_,he,λv z=>nomatch z]
  . let z':=zR0 z;subst z';erw[o,e2,λv z=>by rw[d]at z;cases z]
 keep:=λi h h' st k=>by
  erw[%[old|he],hit]at st;erw[%[old|k e #[2] _ he],hit.at λo x=>k it #[2] o x]
 item:=by
  exists 5;erw[xs,x,hq,hx]at hg;let%[its,rv,p|hz]:=I.tuple hq;let%[u,hu|ru]:=rv.get hx;erw[%[old|he],hit]at st;let hi:i<its.toArray.size:=by
   rw[zP0];exact(zW0 hu).1
  apply wpAny_pyNext_enum_itemD (AO (prog:=X.prog) (w:=X.w) (A:=X.A.in1) (I.ok.hd hc) it a hai its.toArray) he %[hit|p] hi hei (by simp [hei,Ne.symm hae]) λy h1 tk hy ho hst1 hT hsz hk=>?_
  let ey:y=u:=by
   let h1:its.toArray[i]?=some u:=#[hu,0]
   rw[h1]at hy;exact(zV0 hy).symm
  subst ey;erw[0,wpAny_letOwnedTupleGo_enum ho λh2 he2 hs2=>?_];let elt:e<‹s›:=zQ0 he;let hT2:h2.get? ‹s›=some { cls:=.type "tuple",data:=.seq #[.int i tk,y] }:=(hs2.2 _ (Ne.symm (zX0 elt))).trans hT;let I2:#[8] (upd H ‹s› (.tup [.int i,x])) { s with heap:=h2,toks:=tk+1 }:=by
   apply I.turnedNew (ch:=[e,it]) (λb ob hb eb=>?_) hf (zH0 _) %[by show 2<=sizeLine;decide,[.int i tk,y],.cons %[|0] (.cons ru .nil),%[_,hT2,1|0],_,hT2|1];let b1:b≠e:=λz=>hb (by simp [z])
   let b2:b≠it:=λz=>hb (by simp [z])
   exact(hs2.2 b b1).trans (hk b ob b1 b2 eb)
  erw[.ref ‹s›,_,I2,1,%[0,I.hok.fresh (zH0 _)|λys z hy hyi=>?_],%[%[y|by simpa using he2]|hst1.1.at λo z=>(hs2.2 it (Ne.symm hei)).trans z],λb hb=>?_]
  . let e1:=I.tuple_inj hy hq;subst e1;rw[hx]at hyi;cases hyi;rfl
  . let z:=hf b hb;let Mv:b<‹s›:=by
     rcases zS0 hb with y | y
     . rw[y];exact elt
     . rw[zR0 y];erw[o,e2,_]at hit;exact zQ0 e2
    rw[aB (zX0 Mv)];exact z.1
 done:=by
  exists 5;erw[xs,hq,hx]at hg;let%[its,rv,p|hz]:=I.tuple hq;erw[%[old|he],hit]at st;let hl:=rv.length;exact AN (I.ok.hd hc) he hit p (Array.getElem?_eq_none (by simp;omega)) λh' eb=>%[1|I.turnedL (t':=s.toks) (ch:=[e,it]) (λb o hb eo=>eb b o (λz=>hb (by simp [z])) eo) hf]
 self:=λ_ _ _ _ _ st h=>by
  erw[%[old|he],_]at st;exact jP1 he h
section
variable {X:Cx}{elts:List Expr}{k:Nat}{tpos:Pos}
instance ZiEnumT(K:W.Frag)(R:(It->Hp->Prop))(x:V)(H1:Hp):∀a,x=.ref a->(∃xs,SqT K H1 a xs)->R (Ed K a) H1:=0
def Hq(K:W.Frag)(tl:TE):TI:=λσ H R=>tl σ H λx H1=>ZiEnumT K R x H1
def vN{p pos:Pos}(hg:Gl X "enumerate")(hm:X.mg "enumerate"=none)(hl:PE X l tl)(hs:starEach [l] X.env=[(false,eval l X.env)]:=by rfl):
 PI X (.Tuple elts k tpos) (.Call (.Name "enumerate" p) [l] [] pos) (Hq X.K tl):=by
 exists 4,R,I,h;apply Call_ (ji I hg hm boot_enumerate (zS1 ?_ hs rfl));rw[hs];show wpAny _ _ (spliced ((false,eval l X.env)::backTo pos (starEach [] X.env))) _ _ s;apply qK1 (thn (hl Mp s σ H _ I h) λu s1 ⟨x,H1,I1,r1,a,ex,⟨xs,hq⟩,q⟩=>?_);subst ex;cases r1;let%[its,rv,p|hz]:=I1.tuple hq;let alt:=p.lt;apply qZ0 ?_;apply yC p λh' he hit hk=>?_
 apply jP1 he ?_;let I2:#[8] H1 { s1 with heap:=h' }:=I1.kept (t':=s1.toks) hk;erw[‹s1›+1,[‹s1›+1,‹s1›],_,_,H1,1,I2,xf a _ _ (wO1 (qV1 _)) (zX0 alt) (zX0 (wI0 alt)),%[%[_|he]|hit],λb hb=>?_,q];rcases zS0 hb with z | z
 . rw[z];exact I1.fpOk (qN0 _) (I1.hok.fresh (qN0 _))
 . rw[zR0 z];exact I1.fpOk (zH0 _) (I1.hok.fresh (zH0 _))
end
def tj{K:W.Frag}{xs:List V}{g:TG}{tb:TS}{D:Ends}{σ:St}{H:Hp}(Pv:Nat->St->Hp->Prop)(h0:Pv 0 σ H)(hl:∀i σ H,i<=xs.length->Pv i σ H->SqT K H a xs)
 (hs:∀i x σ H t,xs[i]?=some x->Pv i σ H->H t=none->g (.ref t) σ (upd H t (.tup [.int i,x])) λσ2 H2=>tb { D with nx:=Pv (i+1),ct:=Pv (i+1),bk:=D.nx } σ2 H2)(hd:∀ σ H,Pv xs.length σ H->D.nx σ H):
 ∃ W:Nat->Nat->St->Hp->Prop,(∃m,W 0 m σ H)/\∀i m σ H,W i m σ H ->
  ((Ed K a).stop i H/\D.nx σ H)∨((Ed K a).go i H/\∃N:St->Hp->Prop,(∀ σ' H',N σ' H'->∃m',m'<m/\W (i+1) m' σ' H')/\∀x H',(Ed K a).yld i H x H'->g x σ H' λσ2 H2=>tb { D with nx:=N,ct:=N,bk:=D.nx } σ2 H2):=by
 erw[λi m σ H=>m=xs.length-i/\i<=xs.length/\Pv i σ H,%[xs.length,by simp,zT0 _|h0],6];rintro i m σ H ⟨rfl,hi,p⟩;let q:=hl i σ H hi p
 by_cases Mv:i<xs.length
 . refine .inr %[%[xs,xs[i],q|by simp [Mv]],Pv (i+1),λσ' H' p'=>%[xs.length-(i+1),3,1,Mv|p']|λx H' y=>?_];erw[t,1,ht,e]at y;let e':=e xs xs[i] q (by simp [Mv]);subst e';exact hs i xs[i] σ H t (by simp [Mv]) p ht
 . let e:i=xs.length:=#[0]
   subst e;exact .inl %[%[xs,q|zH0 _]|hd σ H p]
def ItV(K:W.Frag)(a:Addr)(xs:List V):It:=%[λi H=>SqL K H a xs/\i<xs.length,λi H y H'=>H'=H/\xs.reverse[i]?=some y|λi _=>xs.length<=i]
def zw{K:W.Frag}(a it:Addr)(xs:List V):Turn P w K tg (ItV K a xs) [it] it (λi h=>i<=xs.length/\h.IsRevIter it a ((xs.length:Int)-1-(i:Int))) where
 mem:=by simp
 obj:=λi h st b hb=>by
  let e:b=it:=#[hb,0]
  subst e;erw[_,o,e,c,d]at st;erw[o,e,λv z=>by rw[d]at z;cases z]
 keep:=λi h h' st k=>%[st.1|st.2.at λo e=>k it #[2] o e]
 item:=by
  exists 5;erw[hq,hi]at hg;let%[its,rv,p|hz]:=I.list hq;let hj:xs.length-1-i<xs.length:=#[0]
  let hx:xs[xs.length-1-i]?=some xs[xs.length-1-i]:=zO0 hj;let%[u,hu|ru]:=rv.get hx;let%[f0,f1,f2,f3,f4|f5]:=hf it #[2];erw[_,hit]at st;let e1:((xs.length:Int)-1-(i:Int))=((xs.length-1-i:Nat):Int):=#[0]
  rw[e1]at hit;apply wpAny_pyNext_rev_item hit p.isList (x:=u) #[hu,0] λh' st' sb=>?_
  let I1:#[8] H { s with heap:=h' }:=I.turned (t':=s.toks) (λb o hb e=>(sb.2 b hb).trans e) f0 f1 f3 f4 f5;let e2:((xs.length-1-i:Nat):Int)-1=(xs.length:Int)-1-((i+1:Nat):Int):=#[0]
  rw[e2]at st';let%[o,e,c|d]:=id st';erw[u,1,wE (s:={ s with heap:=h' }) e c d ⋯ ⟨xs[xs.length-1-i],H,I1,ru,⟨rfl,?_⟩,⟨#[0],st'⟩,λb hb=>(hf b hb).1⟩];rw[jR1 hi,hx]
 done:=by
  exists 5;let hg:xs.length<=i:=hg;let%[f0,f1,f2,f3,f4|f5]:=hf it #[2];erw[hi,hit]at st;let e1:(xs.length:Int)-1-(i:Int)=-1:=#[0]
  rw[e1]at hit;exact wpAny_pyNext_rev_end (I.ok.hd hc) hit λh' eb=>%[1|I.turned (t':=s.toks) (λb o hb e=>eb b o hb e) f0 f1 f3 f4 f5]
 self:=λ_ _ _ _ _ st h=>wpAny_pyIter_revIter st.2 h
def DE{K:W.Frag}{xs:List V}{g:TG}{tb:TS}{D:Ends}{σ:St}{H:Hp}(Pv:Nat->St->Hp->Prop)(h0:Pv 0 σ H)(hl:∀i σ H,i<=xs.length->Pv i σ H->SqL K H a xs)
 (hs:∀i x σ H,i<xs.length->xs.reverse[i]?=some x->Pv i σ H->g x σ H λσ2 H2=>tb { D with nx:=Pv (i+1),ct:=Pv (i+1),bk:=D.nx } σ2 H2)(hd:∀ σ H,Pv xs.length σ H->D.nx σ H):
 ∃ W:Nat->Nat->St->Hp->Prop,(∃m,W 0 m σ H)/\∀i m σ H,W i m σ H ->
  ((ItV K a xs).stop i H/\D.nx σ H)∨((ItV K a xs).go i H/\∃N:St->Hp->Prop,(∀ σ' H',N σ' H'->∃m',m'<m/\W (i+1) m' σ' H')/\∀x H',(ItV K a xs).yld i H x H'->g x σ H' λσ2 H2=>tb { D with nx:=N,ct:=N,bk:=D.nx } σ2 H2):=by
 erw[λi m σ H=>m=xs.length-i/\i<=xs.length/\Pv i σ H,%[xs.length,by simp,zT0 _|h0],6];rintro i m σ H ⟨rfl,hi,p⟩;let q:=hl i σ H hi p
 by_cases Mv:i<xs.length
 . refine .inr %[%[q|Mv],Pv (i+1),λσ' H' p'=>%[xs.length-(i+1),3,1,Mv|p']|λx H' y=>?_];erw[e,ex]at y;subst e;exact hs i x σ _ Mv ex p
 . let e:i=xs.length:=#[0]
   subst e;exact .inl %[zH0 _|hd σ H p]
def Ar{X:Cx}(K:W.Frag)(h:X.K=K:=by rfl):MtR X "list.count" (rCountL K):=by subst h;exact wn
section
variable {X:Cx}{o e:Expr}{es:List Expr}{to ta:TE}{t:TA}{T id:String}{name f:Str}{r:V->List V->Hp->VK->Prop}{Mz Mu pos:Pos}
def GO(K:W.Frag)(pa:PlainAttrs T)(slot:Slot T name id)(hty:typeOf (.builtin id)=pure (.type "method_descriptor"))(hm:MtR X id r)(ho:PE X o to)(ha:PA X (e::es) t)(hK:X.K=K:=by rfl)
 (hbase:attributeBase o name X.env (eval o X.env)=eval o X.env:=by rfl)
 (hfew:((backTo Mu (starEach (e::es) X.env)).all (λx=>!x.1)&&(backToKw Mu (keywordEach [] X.env)).all (λx=>x.1.isSome)&&decide ((e::es).length+([]:List Keyword).length+(if([]:List Keyword).isEmpty then 0 else 1)<30))=true:=by rfl)
 (hline:(Mz.endLine==Mu.line)=true:=by rfl)(hs:starEach (e::es) X.env=(false,eval e X.env)::starEach es X.env:=by rfl)(hplain:(backTo Mu (starEach es X.env)).any (·.1)=false:=by rfl):
 PE X (.Call (.Attribute o name Mz) (e::es) [] Mu) (tBM K T r to t):=by subst hK;exact cA pa slot hty hm ho ha hbase hfew hline hs hplain
def lm(K:W.Frag)(he:PE X e ta)(hK:X.K=K:=by rfl)(hb:attributeBase e f X.env (eval e X.env)=eval e X.env:=by rfl):PE X (.Attribute e f pos) (tFld K ta f):=by subst hK;exact az he hb
end
@[reducible] def cxCompO (X:Cx) (x:Str) (N:List Str) (scope:Scope) (cl:List (Str×Addr)) (s:Shared) (H:Hp) (fp:List Addr):Cx where
 prog:=X.prog
 w:=X.w
 K:=X.K
 mg:=X.mg
 base:=X.base
 A:=X.A
 N:=x::N
 s₀:=s
 H₀:=H
 env:=compEnvC scope ((x,‹s›+1)::cl) ‹s› X.env
 outer:=X.stack
 stack:=X.stack
 ex:=fp
 fn:=λy=>y==x
 calm:=X.calm
 pn:=[]
 xe:=λ_ _=>False
def CompScope.four{X:Cx}{x y z u v:Str}{scope:Scope}{k l m n:Nat}{c d e g:Addr}{cl:List (Str×Addr)}(c1:closureFor scope X.env=pure cl)(c2:∀y∈scope.names,y.2≠.cell)(c3:scope.kind=.function)(c4:∀y∈scope.names,y.2=.local->scope.names.lookup y.1=some .local)
 (c5:scope.names.lookup x=some .local)(nd:[x,y,z,u,v].Nodup)(hcl:cl=[(y,c),(z,d),(u,e),(v,g)])(hc:X.env.cells.lookup y=some c)(hd:X.env.cells.lookup z=some d)(he:X.env.cells.lookup u=some e)(hg:X.env.cells.lookup v=some g)(c6:((relabel scope X.env).names.all λp=>!(p.2==.cell||p.2==.free)||(cl.lookup p.1).isSome)=true)
 (hr:(relabel scope X.env).names.lookup y=some .cell)(hk:X.N[k]?=some y)(hs:X.env.scope.names.lookup y=some .cell)
 (hr2:(relabel scope X.env).names.lookup z=some .cell)(hk2:X.N[l]?=some z)(hs2:X.env.scope.names.lookup z=some .cell)
 (hr3:(relabel scope X.env).names.lookup u=some .cell)(hk3:X.N[m]?=some u)(hs3:X.env.scope.names.lookup u=some .cell)
 (hr4:(relabel scope X.env).names.lookup v=some .cell)(hk4:X.N[n]?=some v)(hs4:X.env.scope.names.lookup v=some .cell):CompScope X x [y,z,u,v] [k,l,m,n] scope cl where
 clos:=c1
 nocell:=c2
 kind:=c3
 names:=c4
 own:=c5
 nd:=nd
 sub:=λp hp=>by
  subst hcl;rcases zS0 hp with h | h
  . rw[h];assumption
  . rcases zS0 h with h | h
    . rw[h];assumption
    . rcases zS0 h with h | h
      . rw[h];assumption
      . rw[zR0 h];assumption
 has:=c6
 outs:=λj w h=>by
  let nyz:y≠z:=λe=>by simp [e]at nd
  let nyu:y≠u:=λe=>by simp [e]at nd
  let nyv:y≠v:=λe=>by simp [e]at nd
  let nzu:z≠u:=λe=>by simp [e]at nd
  let nzv:z≠v:=λe=>by simp [e]at nd
  let nuv:u≠v:=λe=>by simp [e]at nd
  subst hcl
  match j,h with
  |0,h=>
    let e:y=w:=zV0 h;subst e;erw[hr,k,c,1,hk,by simp [List.lookup],hs]
  |1,h=>
    let e:z=w:=zV0 h;subst e
    have:(z==y)=false:=#[Ne.symm nyz,0]
    erw[hr2,l,d,1,hk2,by simp [List.lookup,this],hs2]
  |2,h=>
    let ew:u=w:=zV0 h;subst ew;let h1:(u==y)=false:=#[Ne.symm nyu,0]
    let h2:(u==z)=false:=#[Ne.symm nzu,0]
    erw[hr3,m,e,1,hk3,by simp [List.lookup,h1,h2],hs3]
  |3,h=>
    let ew:v=w:=zV0 h;subst ew;let h1:(v==y)=false:=#[Ne.symm nyv,0]
    let h2:(v==z)=false:=#[Ne.symm nzv,0]
    let h3:(v==u)=false:=#[Ne.symm nuv,0]
    erw[hr4,n,g,1,hk4,by simp [List.lookup,h1,h2,h3],hs4]
  |j+4,h=>simp at h
end L2
namespace L2
open PySem PySem.Spec PyProof.Rows PySem.Builtin PySem.Builtin.Str
section
variable {prog:Program}{w:World}{A:Around}{E:#[6]}{s:Shared}{Q:#[6]}{x:PySem.Str}{t:Tok}
def xh{y:PySem.Str}{u:Tok}(hy:(y.length==0)=false)
 (h:∀l k,l.map (·.1)=Txt.split x y->Q (.ref ‹s›) { s with heap:=s.heap.push { cls:=.type "list",data:=.seq (strValues l).toArray },toks:=k })
 (hsz:x.length+2<=sizeLine):‹w.A› (call (.builtin "str.split") [.str x t,.str y u]) Q E s:=by
 let hn:(partsBetween x (occurrences x y 0 x.length (x.length+1)) y.length).length<=sizeLine:=by
  let e1:=StrLaws.occ_length_le x y 0 x.length (x.length+1);rw[length_partsBetween];omega
 cases h1:(decide (x.length<y.length)||decide (strKind x<strKind y))
 . cases hf:(occurrences x y 0 x.length (x.length+1)).isEmpty
   . apply qQ1 wN1 (jV1 _ _ _) wI1 (wD0 _ _) (meets_str_split_sep x y t u h1 hy hf #[0] hn) ?_;show wants Q E _ { s with toks:=_,heap:=s.heap.push { cls:=.type "list",data:=.seq (strsFrom s.toks (partsBetween x (occurrences x y 0 x.length (x.length+1)) y.length)).toArray } };rw[strsFrom_eq];exact h (numbered s.toks _) _ ((numbered_texts _ _).trans ((Mq (wA1 h1)).trans (Mq (wA1 hf))).symm)
   . exact qQ1 wN1 (jV1 _ _ _) wI1 (wD0 _ _) (meets_str_split_not_found x y t u h1 hy hf)
      (h [(x,t)] s.toks ((Mq (wA1 h1)).trans (Mt hf)).symm)
 . exact qQ1 wN1 (jV1 _ _ _) wI1 (wD0 _ _) (meets_str_split_cannot_occur x y t u h1)
    (h [(x,t)] s.toks (Mt h1).symm)
end
def yM:∀l:List (PySem.Str×Tok),Vals ((l.map (·.1)).map V.str) (strValues l)
 | []=>.nil
 | (x,t)::r=>.cons %[t|1] (yM r)
section
variable {X:Cx}
instance rSplit(x:V)(vs:List V)(H:Hp)(Q:VK):∀z u,x=.str z->vs=[.str u]->0<u.length->z.length<=100000->(Txt.split z u).length<=100000->(∀p,H p=none->Q (.ref p) (upd H p (.lst ((Txt.split z u).map V.str)))):=0
def rD:MtR X "str.split" rSplit:=by
 exists 4,x,vs,v,us,Q,I,rx,rv,h;erw[z,u,1,1,hu,hz,hl,q]at h;erw[t,1]at rx;erw[w',1,t',1]at rv.one;let sl:sizeLine=16777216:=sizeLine_eq;apply xh (by rw[beq_eq_false_iff_ne];omega) (λl k e=>?_) #[0];let r:=yM l;rw[e]at r;erw[.ref _,_,I.lnew (t':=k) r (by rw[zF0];omega),1,q _ I.fresh]
def jj:gP X (.type "int") (λxs H Q=>∃x n,xs=[.str x]/\PySem.intText? x=some n/\x.length<=640/\Q (.int n) H):=by
 exists 4,xs,us,Q,I,r,h;erw[x,n,1,e,hl,q]at h;let%[u,1,t|1]:=jm r;exact PySem.W.KIN.call_text e hl %[.int n,H,I.tok _,%[|0]|q]
end
end L2
namespace HT
open PySem PyProof.Rows
section
variable {prog:Program}{w:World}{A:Around}{E:#[6]}{s:Shared}
def getItem_tuple_whole{t sl:Addr}{items:Array Value}{vl vu:Value}{lo hi:Option Int}{Q:#[6]}(ht:IsTup s.heap t items)(hs:s.heap.IsSliceOf sl vl vu .none)(pl:IsPart vl lo)(pu:IsPart vu hi)
 (hw:sIx items.size 0 lo=0/\sIx items.size items.size hi=items.size)(h:Q (.ref t) s):‹w.A› (getItem (.ref t) (.ref sl)) Q E s:=by
 let%[os,hos,hcs|hds]:=id hs;let hTs:s.TypeIs (.ref sl) "slice":=%[os,hos|hcs]
 unfold getItem
 try with_reducible apply jF1 ?_
 first | apply zE0 (zJ0 ?_) | skip
 apply zE0 (wpAny_sequenceKey ht.typeIs ⋯ ?_);apply zE0 (qB1 (name:=Str.ofString "__getitem__") ht.typeIs qJ1
  (qM1 qJ1 ht.typeIs entry_tuple_getitem ?_ (args_tuple_getitem _ _)))
 show wpAny _ _ (Builtin.Tuple.tupleItemsOf (.ref t) >>= _) _ _ s;apply zE0 (tupleItemsOf_ ht ?_);apply zE0 (wpAny_typeOf hTs ?_);rw[Mt ⋯];apply zE0 (jp hs pl pu ?_);let hyes:(((sIx items.size 0 lo:Nat):Int)==0&&(1:Int)==1&&(sIx items.size items.size hi-sIx items.size 0 lo)==items.size)=true:=by
  rw[hw.1,hw.2,wD1]
  simp
 show wpAny _ _ (if(((sIx items.size 0 lo:Nat):Int)==0&&(1:Int)==1&&(sIx items.size items.size hi-sIx items.size 0 lo)==items.size)=true then _ else _) _ _ s;rw[Mt hyes];apply zE0 ?_;unfold Builtin.Tuple.tupleIsExact;apply zE0 (wpAny_typeOf ht.typeIs (zJ0 ?_));rw[Mt ⋯]
 first
  |exact zE0 (wpAny_rule (zJ0 ⟨_,rfl,zJ0 h⟩))
  | (apply zJ0 ?_;erw[0,zJ0 h])
  | (apply zE0 (zJ0 ?_);apply zJ0 ?_;erw[0,zJ0 h])
  | (apply zE0 (zJ0 ?_);apply zE0 (zJ0 ?_);apply zJ0 ?_;erw[0,zJ0 h])
  | (apply zE0 (zE0 (zJ0 ?_));apply zJ0 ?_;erw[0,zJ0 h])
end
end HT
namespace L2
open PySem PySem.Spec PyProof.Rows
section
variable {X:Cx}
instance rSlTW(K:W.Frag)(x:V)(lo:Option Int)(hi:Option Int)(H:Hp)(Q:VK):∀a xs,x=.ref a->SqT K H a xs->HT.sIx xs.length 0 lo=0/\HT.sIx xs.length xs.length hi=xs.length->Q (.ref a) H:=0
def EF:SlR X (rSlTW X.K):=by
 exists 4,x,v,vl,vu,lo,hi,sl,Q,I,rx,hs,pl,pu,h;erw[a,xs,1,hx,hw,q]at h;cases rx;let%[its,r,ht|hz]:=I.tuple hx;let hlen:its.toArray.size=xs.length:=by rw[zP0];exact r.length.symm
 erw["tuple",_,PyProof.Rows.slot_tuple_getitem.lookup,ht.typeIs,6];exact HT.getItem_tuple_whole ht hs pl pu (by rw[hlen];exact hw) ⟨.ref a,H,I,rfl,q⟩
def yz{xs:List V}{lo hi:Option Int}(hw:HT.sIx xs.length 0 lo=0/\HT.sIx xs.length xs.length hi=xs.length):iM xs lo hi=xs:=by
 unfold iM;rw[hw.1,hw.2,qO1,wD1,qF0]
instance rSlTA(K:W.Frag)(x:V)(lo:Option Int)(hi:Option Int)(H:Hp)(Q:VK):∀a xs,x=.ref a->SqT K H a xs->H a=some (.tup xs)->(∀p H',Same H H'->H' p=some (.tup (iM xs lo hi))->Q (.ref p) H'):=0
def yP:SlR X (rSlTA X.K):=by
 exists 4,x,v,vl,vu,lo,hi,sl,Q,I,rx,hs,pl,pu,h;erw[a,xs,1,hx,ha,q]at h
 by_cases hw:HT.sIx xs.length 0 lo=0/\HT.sIx xs.length xs.length hi=xs.length
 . exact EF Mp s σ H _ v vl vu lo hi sl Q I rx hs pl pu %[a,xs,1,hx,hw|q a H (Same.refl _) (by rw[yz hw];exact ha)]
 . exact tR Mp s σ H _ v vl vu lo hi sl Q I rx hs pl pu %[a,xs,1,hx,hw|λp hp=>q p _ (zC0 hp _) bh]
end
def SqB(K:W.Frag)(b:Bool)(H:Hp)(a:Addr)(xs:List V):Prop:=if b=true then SqL K H a xs else SqT K H a xs
section
variable {X:Cx}
def eJ(z u:Str)(i:Int):Bool:=decide (PySem.fromIndex z.length i+u.length<=z.length)&&Builtin.Str.subAt z u (PySem.fromIndex z.length i)
instance rStartsAt(x:V)(vs:List V)(H:Hp)(Q:VK):∀z u i,x=.str z->vs=[.str u,.int i]->Q (.bl (eJ z u i)) H:=0
def wk:MtR X "str.startswith" rStartsAt:=by
 exists 4,x,vs,v,us,Q,I,rx,rv,h;erw[z,u,i,1,1,q]at h;erw[t,1]at rx;cases rv with
 |cons r1 rv1=>
   cases rv1 with
   |cons r2 rv2=>
     cases rv2;erw[t1,1]at r1;erw[t2,1]at r2;exact call_gives F.slot_str_startswith (jV1 _ _ _) F.entry_str_startswith (F.args_str_startswith_3 _ _ _) (gives_str_startswith_from z u i t t1 t2) %[.bl _,H,I,1|q]
abbrev TJ:=St->Hp->Str->VK->Prop
def PJ(X:Cx)(es:List Expr)(t:TJ):Prop:=
 ∀(Mp:#[7])(s:Shared)(σ:St)(H:Hp)(out:Str)(Q:VK),#[8] H s->t σ H out Q->‹X.w› (joinParts out (evalEach es X.env)) (EP X Mp σ Q) X.xe s
def re:PJ X [] (λ_ H out Q=>out.length<=sizeLine/\Q (.str out) H):=by
 exists 4,out,Q,I,h;exact joinParts_nil %[.str out,H,I.tok _,%[|0]|h.2] h.1
def dy(he:PE X e te)(ht:PJ X es t):PJ X (e::es) (λσ H out Q=>te σ H λv H1=>∃y,v=.str y/\(out++y).length<=sizeLine/\t σ H1 (out++y) Q):=by
 exists 4,out,Q,I,h;show wpAny _ _ (joinParts out (eval e X.env::evalEach es X.env)) _ _ s;apply joinParts_cons (thn (he Mp s σ H _ I h) λv s1 ⟨x,H1,I1,r1,y,ex,hz,q⟩=>?_);subst ex;erw[t',1]at r1;erw[hz,ht Mp s1 σ H1 _ Q I1 q]
def nq{e1 e2:Expr}{es:List Expr}{pos:Pos}(h:PJ X (e1::e2::es) t):PE X (.JoinedStr (e1::e2::es) pos) (λσ H Q=>t σ H Str.empty Q):=
 λMp s σ H Q I k=>JoinedStr_many (h Mp s σ H Str.empty Q I k)
def oJ{pos:Pos}(he:PE X e te):PE X (.FormattedValue e (-1) none pos) (λσ H Q=>te σ H λv H1=>∃y,v=.str y/\y.length<=sizeLine/\Q (.str y) H1):=by
 exists 4,Q,I,h;apply FormattedValue_plain (thn (he Mp s σ H _ I h) λv s1 ⟨x,H1,I1,r1,y,ex,hz,q⟩=>?_);subst ex;erw[t',1]at r1;exact formatField_str (λt'' tk=>%[.str y,H1,I1.tok _,%[|0]|q]) hz
end
section
variable {X:Cx}
def ER{pos:Pos}(he:PE X e te):PE X (.FormattedValue e (-1) none pos) (λσ H Q=>te σ H λv H1=>∃i:Int,v=.int i/\i.natAbs.log2<1920/\Q (.str (toString i)) H1):=by
 exists 4,Q,I,h;apply FormattedValue_plain (thn (he Mp s σ H _ I h) λv s1 ⟨x,H1,I1,r1,i,ex,hz,q⟩=>?_);subst ex;erw[t',1]at r1;exact formatField_int_small hz %[.str (toString i),H1,I1.tok _,%[|0]|q]
end
section
variable {X:Cx}
def AW:gP X (.type "str") (λxs H Q=>(∃i,xs=[.int i]/\i.natAbs.log2<1920/\Q (.str (toString i)) H)∨∃x,xs=[.str x]/\Q (.str x) H):=by
 exists 4,xs,us,Q,I,r,h;rcases h with⟨i,rfl,hz,q⟩ | ⟨x,rfl,q⟩
 . let%[u,1,t|1]:=jm r;exact PySem.P.str_of_int hz %[.str _,H,I.tok _,%[|0]|q]
 . let%[u,1,t|1]:=jm r;exact PySem.P.str_of_str %[.str x,H,I,%[|0]|q]
end
def HX(K:W.Frag)(a:Addr)(xs:List V):It:=%[λi H=>SqT K H a xs/\i<xs.length,λi H y H'=>H'=H/\xs.reverse[i]?=some y|λi _=>xs.length<=i]
def RevT.keep{h':Heap}(x:RevT h it t i)(k:∀o,h.get? it=some o->h'.get? it=some o):RevT h' it t i:=k _ x
def zx{K:W.Frag}(a it:Addr)(xs:List V):Turn P w K tg (HX K a xs) [it] it (λi h=>i<=xs.length/\RevT h it a ((xs.length:Int)-1-(i:Int))) where
 mem:=by simp
 obj:=λi h st b hb=>by
  let e:b=it:=#[hb,0]
  subst e;erw[_,st.2,λv z=>by cases z]
 keep:=λi h h' st k=>%[st.1|st.2.keep λo e=>k it #[2] o e]
 item:=by
  exists 5;erw[hq,hi]at hg;let%[its,rv,p|hz]:=I.tuple hq;let hj:xs.length-1-i<xs.length:=#[0]
  let hx:xs[xs.length-1-i]?=some xs[xs.length-1-i]:=zO0 hj;let%[u,hu|ru]:=rv.get hx;let%[f0,f1,f2,f3,f4|f5]:=hf it #[2];erw[_,hit]at st;let e1:((xs.length:Int)-1-(i:Int))=((xs.length-1-i:Nat):Int):=#[0]
  rw[e1]at hit;let h63:=jV;apply rB hit p (x:=u) #[hu,0] #[0] λh' tk st' sb=>?_
  let I1:#[8] H { s with heap:=h',toks:=tk }:=I.turned (t':=tk) (λb o hb e=>(sb.2 b hb).trans e) f0 f1 f3 f4 f5;let e2:((xs.length-1-i:Nat):Int)-1=(xs.length:Int)-1-((i+1:Nat):Int):=#[0]
  rw[e2]at st';erw[u,1,wE (s:={ s with heap:=h',toks:=tk }) st' rfl rfl ⋯ ⟨xs[xs.length-1-i],H,I1,ru,⟨rfl,?_⟩,⟨#[0],st'⟩,λb hb=>(hf b hb).1⟩];rw[jR1 hi,hx]
 done:=by
  exists 5;let hg:xs.length<=i:=hg;let%[f0,f1,f2,f3,f4|f5]:=hf it #[2];erw[hi,hit]at st;let e1:(xs.length:Int)-1-(i:Int)=-1:=#[0]
  rw[e1]at hit;exact sL (I.ok.hd hc) hit λh' tk eb=>%[1|I.turned (t':=tk) (λb o hb e=>eb b o hb e) f0 f1 f3 f4 f5]
 self:=λ_ _ _ _ _ st h=>sY st.2 h
def FC(K:W.Frag)(c:Bool)(a:Addr)(xs:List V):It:=if c=true then ItV K a xs else HX K a xs
section
variable {X:Cx}{tg:Expr}
instance ZiRevB(K:W.Frag)(R:(It->Hp->Prop))(x:V)(H1:Hp):∀c a xs,x=.ref a->SqB K c H1 a xs->R (FC K c a xs) H1:=0
def iRevB(K:W.Frag)(tl:TE):TI:=λσ H R=>tl σ H λx H1=>ZiRevB K R x H1
def EO{p pos:Pos}(hg:Gl X "reversed")(hm:X.mg "reversed"=none)(hl:PE X l tl)(hs:starEach [l] X.env=[(false,eval l X.env)]:=by rfl):
 PI X tg (.Call (.Name "reversed" p) [l] [] pos) (iRevB X.K tl):=by
 exists 4,R,I,h;apply qX0 (ji I hg hm rY ?_);apply zS1 ?_ hs rfl;rw[hs];show wpAny _ _ (spliced ((false,eval l X.env)::backTo pos (starEach [] X.env))) _ _ s;apply qK1 (thn (hl Mp s σ H _ I h) λu s1 ⟨x,H1,I1,r1,c,a,xs,ex,hq,q⟩=>?_);subst ex;cases r1;apply qZ0 ?_;cases c with
 |true=>
   let hq:SqL X.K H1 a xs:=hq;let q:R (ItV X.K a xs) H1:=q;let%[its,rv,p|hz]:=I1.list hq;let hlen:=rv.length;apply call_reversed_list p.isList ?_;let hr:(s1.heap.push (revObj a ((its.toArray.size:Int)-1))).IsRevIter ‹s1› a ((xs.length:Int)-1-((0:Nat):Int)):=by
    let e:(xs.length:Int)-1-((0:Nat):Int)=(its.toArray.size:Int)-1:=by rw[zP0];omega
    rw[e];erw[_,qC0 _ rfl,1,1]
   apply wpAny_pyIter_revIter hr ?_;erw[‹s1›,[‹s1›],_,_,H1,1,I1.kept (t':=s1.toks) λb o e=>zU0 _ e,zw a _ xs,%[zT0 _|hr],λb hb=>?_,q];let e:b=‹s1›:=#[hb,0]
   subst e;exact I1.fpOk (zH0 _) (I1.hok.fresh (zH0 _))
 |false=>
   let hq:SqT X.K H1 a xs:=hq;let q:R (HX X.K a xs) H1:=q;let%[its,rv,p|hz]:=I1.tuple hq;let hlen:=rv.length;apply oe p (by rw[zP0,←rv.length];exact hz) λtk=>?_
   let hr:RevT (s1.heap.push { cls:=.type "reversed",data:=.fields #[.ref a,rawInt ((its.toArray.size:Int)-1)] }) ‹s1› a ((xs.length:Int)-1-((0:Nat):Int)):=by
    let e:(xs.length:Int)-1-((0:Nat):Int)=(its.toArray.size:Int)-1:=by rw[zP0];omega
    rw[e];exact qC0 _ rfl
   apply sY hr ?_;erw[‹s1›,[‹s1›],_,_,H1,1,I1.kept (t':=tk) λb o e=>zU0 _ e,zx a _ xs,%[zT0 _|hr],λb hb=>?_,q];let e:b=‹s1›:=#[hb,0]
   subst e;exact I1.fpOk (zH0 _) (I1.hok.fresh (zH0 _))
end
def DF{K:W.Frag}{xs:List V}{g:TG}{tb:TS}{D:Ends}{σ:St}{H:Hp}(Pv:Nat->St->Hp->Prop)(h0:Pv 0 σ H)(hl:∀i σ H,i<=xs.length->Pv i σ H->SqB K c H a xs)
 (hs:∀i x σ H,i<xs.length->xs.reverse[i]?=some x->Pv i σ H->g x σ H λσ2 H2=>tb { D with nx:=Pv (i+1),ct:=Pv (i+1),bk:=D.nx } σ2 H2)(hd:∀ σ H,Pv xs.length σ H->D.nx σ H):
 ∃ W:Nat->Nat->St->Hp->Prop,(∃m,W 0 m σ H)/\∀i m σ H,W i m σ H ->
  ((FC K c a xs).stop i H/\D.nx σ H)∨((FC K c a xs).go i H/\∃N:St->Hp->Prop,(∀ σ' H',N σ' H'->∃m',m'<m/\W (i+1) m' σ' H')/\∀x H',(FC K c a xs).yld i H x H'->g x σ H' λσ2 H2=>tb { D with nx:=N,ct:=N,bk:=D.nx } σ2 H2):=by
 cases c with
 |true=>exact DE Pv h0 hl hs hd
 |false=>
   erw[λi m σ H=>m=xs.length-i/\i<=xs.length/\Pv i σ H,%[xs.length,by simp,zT0 _|h0],6];rintro i m σ H ⟨rfl,hi,p⟩;let q:=hl i σ H hi p
   by_cases Mv:i<xs.length
   . refine .inr %[%[q|Mv],Pv (i+1),λσ' H' p'=>%[xs.length-(i+1),3,1,Mv|p']|λx H' y=>?_];erw[e,ex]at y;subst e;exact hs i x σ _ Mv ex p
   . let e:i=xs.length:=#[0]
     subst e;exact .inl %[zH0 _|hd σ H p]
set_option maxRecDepth 100000
def oO:fillsNumberSlot (.type "tuple") "mul"=pure false:=
 PySem.fillsNumberSlot_seq (id:="tuple.__mul__") (r:=some (.builtin "tuple.__rmul__")) F.slot_tuple_mul.lookup ⋯ F.slot_tuple_rmul.lookup ⋯
def uv:seqRepeat? (.type "tuple")=pure (some (.builtin "tuple.__mul__")):=by
 unfold seqRepeat?;rw[PySem.seqSlot_of (T:="tuple") (name:="__mul__") (id:="tuple.__mul__") F.slot_tuple_mul.lookup ⋯,PySem.seqSlot_of (T:="tuple") (name:="__rmul__") (id:="tuple.__rmul__") F.slot_tuple_rmul.lookup ⋯];rfl
def rK(a:Int)(t:Tok)(l:Addr)(items:Array Value)(n:Nat)(dd:Option Addr)(sl:Array (Option Value)):
 Meets (Builtin.«int.__rmul__» %[[.int a t,.ref l]|[]]) (λ_ R s=>s.heap.get? l=some { cls:=.type "tuple",dict:=dd,data:=.seq items n,slots:=sl }/\R (.ok (.ret Value.notImplemented)) s):=
 .of_wp λprog w A R s h=>by erw[hp,g,d,tk,os]at s;erw[hl,h]at h;wp_walk;erw[0,h]
def sq(l:Addr)(items:Array Value)(n:Nat)(dd:Option Addr)(sl:Array (Option Value))(u:Tok):
 Meets (Builtin.«tuple.__mul__» %[[.ref l,.int 1 u]|[]]) (λ_ R s=>s.heap.get? l=some { cls:=.type "tuple",dict:=dd,data:=.seq items n,slots:=sl }/\R (.ok (.ret (.ref l))) s):=
 .of_wp λprog w A R s h=>by erw[hp,g,d,tk,os]at s;erw[hl,h]at h;wp_walk;erw[0,h]
def ql(l:Addr)(v:Value)(n:Nat)(dd:Option Addr)(sl:Array (Option Value))(u:Tok):
 Meets (Builtin.«tuple.__mul__» %[[.ref l,.int 0 u]|[]]) (λ_ R s=>s.heap.get? l=some { cls:=.type "tuple",dict:=dd,data:=.seq #[v] n,slots:=sl }/\R (.ok (.ret (.ref ‹s›))) { s with heap:=s.heap.push { cls:=.type "tuple",data:=.seq #[] },toks:=s.toks }):=
 .of_wp λprog w A R s h=>by erw[hp,g,d,tk,os]at s;erw[hl,h]at h;wp_walk;erw[0,h]
def qm(l:Addr)(v:Value)(n:Nat)(dd:Option Addr)(sl:Array (Option Value))(x:Int)(u:Tok)(h2:2<=x)(hx:x<=1000):
 Meets (Builtin.«tuple.__mul__» %[[.ref l,.int x u]|[]]) (λ_ R s=>s.heap.get? l=some { cls:=.type "tuple",dict:=dd,data:=.seq #[v] n,slots:=sl }/\R (.ok (.ret (.ref ‹s›))) { s with heap:=s.heap.push { cls:=.type "tuple",data:=.seq ((List.replicate x.toNat #[v]).foldl (·++·) #[]) },toks:=s.toks }):=
 .of_wp λprog w A R s h=>by
  erw[hp,g,d,tk,os]at s;erw[hl,h]at h;let c1:(decide (x < -(2 ^ 63))||decide (x≥2 ^ 63))=false:=by
   rw[zE1 #[0],zE1 #[0]];rfl
  let c2:(x==1)=false:=by simpa using(show x≠1 by omega)
  let c3:decide (x<=0)=false:=zE1 #[0];let c4:¬ ((1:Int)*x>(2 ^ 63-1) / 8):=#[0]
  let c5:Builtin.Tuple.tupleTooMany (1*x)=false:=by
   unfold Builtin.Tuple.tupleTooMany
   have:(sizeLine:Int)≥1000:=by decide
   exact zE1 #[0]
  wp_walk
  apply zX1 (λhab=>by rw[c1]at hab;cases hab) (λ_=>?_);show wpAny _ _ (do let xs ←Builtin.Tuple.tupleItemsOf (Value.ref l);_) _ _ _
  wp_walk
  apply zX1 (λhab=>absurd hab c4) (λ_=>?_);apply zX1 (λhab=>by rw[show Builtin.Tuple.tupleTooMany (((#[v]:Array Value).size:Int)*x)=false from c5]at hab;cases hab) (λ_=>?_);let sz:((List.replicate x.toNat #[v]).foldl (·++·) #[]).size<=sizeLine:=by
   let e:(List.replicate x.toNat (#[v]:Array Value)).foldl (·++·) #[]=(List.replicate x.toNat [v]).flatten.toArray:=by
    have:=lu [v] x.toNat []
    rw[jY0]at this;exact this
   rw[e,zP0,za];exact aV (by show x.toNat*1<=1000;omega)
  apply zE0 (zW1 ?_ sz);exact zJ0 %[0|h]
section
variable {X:Cx}
instance rRepT(K:W.Frag)(x:V)(y:V)(H:Hp)(Q:VK):∀a v k,x=.ref a->y=.int k->SqT K H a [v]->0<=k->k<=1000->(k=1->Q (.ref a) H)->(k≠1->∀p,H p=none->Q (.ref p) (upd H p (.tup (List.replicate k.toNat v)))):=0
def vq(r:RelV v u):∀n,Vals (List.replicate n v) (List.replicate n u)
 |0=>.nil
 |n+1=>.cons r (vq r n)
def ET:OpR X (binaryOp .Mult) (rRepT X.K):=by
 exists 4,x,y,vv,u,Q,I,rx,ry,h;erw[a,v,k,1,1,hq,k0,k1,q1,q2]at h;cases rx;erw[t,1]at ry;let%[its,r,p|hz]:=I.tuple hq;obtain⟨w,rfl,rw'⟩:∃w,its=[w]/\RelV v w:=by
  cases r with
  |cons h1 h2=>cases h2;erw[0,h1]
 erw[o,e,hc,n,hd]at p;erw[cls,dd,data,sl]at o;cases hc;cases hd;let e:s.heap.get? a=some { cls:=.type "tuple",dict:=dd,data:=.seq #[w] n,slots:=sl }:=e;apply wpAny_binaryOp_repeat_ref (T:="tuple") (U:="int") ⋯ %[_,e|1] (λs'=>wR0 s' k t) oO F.fills_int_mul jY1 uv F.slot_int_index.lookup
  (qQ1 jY1 (wR0 s k t) F.entry_int_rmul (F.args_int_rmul_2 _ _) (rK k t a #[w] n dd sl)
   %[e,1,%[_,e|1]|6])
 by_cases c1:k=1
 . subst c1;exact qQ1 wO0 %[_,e|1] wJ0 (wE0 _ _) (sq a #[w] n dd sl t) ⟨e,.ref a,H,I,rfl,q1 rfl⟩
 let laid:∀m:Nat,m<=1000->#[8] (upd H ‹s› (.tup (List.replicate m v))) { s with heap:=s.heap.push { cls:=.type "tuple",data:=.seq (List.replicate m w).toArray },toks:=s.toks }:=λm hm=>
  I.laid (t':=s.toks) (o:=.tup (List.replicate m v)) (λb ob q=>zU0 _ q) (zH0 _) %[by rw[zT1];exact aV hm,_,vq rw' m,IsTup.new _ _,_,qC0 _ rfl|1]
 by_cases c0:k=0
 . subst c0;exact qQ1 wO0 %[_,e|1] wJ0 (wE0 _ _) (ql a w n dd sl t) ⟨e,.ref _,_,laid 0 ⋯,rfl,q2 ⋯ _ (I.hok.fresh (zH0 _))⟩
 . let ef:(List.replicate k.toNat (#[w]:Array Value)).foldl (·++·) #[]=(List.replicate k.toNat w).toArray:=by
    have:=lu [w] k.toNat []
    rw [jY0]at this;rw[show(List.replicate k.toNat w)=(List.replicate k.toNat [w]).flatten by
     induction k.toNat with
     |zero=>rfl
     |succ m ih=>rw[zY1,zY1,qP1,ih];rfl]
    exact this
   apply qQ1 wO0 %[_,e|1] wJ0 (wE0 _ _) (qm a w n dd sl k t #[0] k1) ⟨e,?_⟩;rw[ef];erw[.ref _,_,laid k.toNat #[0],1,q2 c1 _ (I.hok.fresh (zH0 _))]
def Ci(K:W.Frag)(hK:X.K=K:=by rfl):OpR X (binaryOp .Mult) (rRepT K):=by subst hK;exact ET
end
section
variable {X:Cx}
instance rDictD(xs:List V)(H:Hp)(Q:VK):∀(a:Addr)(Ms:List (Key×V)),xs=[.ref a]->H a=some (.dK Ms)->(∀p,H p=none->Q (.ref p) (upd H p (.dK Ms))):=0
def yD:gP X (.type "dict") rDictD:=by
 exists 4,xs,us,Q,I,r,h;erw[a,Ms,1,ha,q]at h;cases r with
 |cons ra rr=>
   cases rr;cases ra;exact DT I (.inl ha) λp s' hp I'=>%[.ref p,_,I',1|q p hp]
end
def yE:bootBuiltins ("dict":Str)=some (.type "dict"):=by decide
end L2
namespace Mine
def Pr(n:Int):Prop:=2<=n/\∀k:Int,2<=k->k<=1000->k*k<=n->n % k≠0
def oW(n:Int)(j:Int):Prop:=∀k:Int,2<=k->k<j->k*k<=n/\n % k≠0
def sR{a b:Int}(h0:0<=a)(h:a<=b):a*a<=b*b:=Int.mul_le_mul h h h0 (Int.le_trans h0 h)
def GF{n k:Int}(h2:2<=n)(h0:2<=k)(u:oW n k)(h:n<k*k):Pr n:=by
 erw[h2,λj j2 _ js=>?_]
 by_cases c:j<k
 . exact(u j j2 c).2
 . have:=sR (a:=k) (b:=j) #[0] #[0]
   omega
def GJ{n:Int}(h2:2<=n)(u:oW n 1001):Pr n:=%[h2|λj j2 j3 _=>(u j j2 #[0]).2]
def Gz{n k:Int}(h0:2<=k)(h1:k<=1000)(hs:k*k<=n)(h:n % k=0):¬ Pr n:=λp=>p.2 k h0 h1 hs h
def wZ(n:Int):oW n 2:=λk a b=>#[0]
def zv(u:oW n k)(hs:k*k<=n)(h:n % k≠0):oW n (k+1):=λj a b=>by
 by_cases c:j<k
 . exact u j a c
 . let e:j=k:=#[0]
   subst e;erw[hs,h]
def prB(n:Int):Bool:=decide (2<=n)&&(List.range 999).all λi=>decide (n<((i:Int)+2)*((i:Int)+2))||decide (n % ((i:Int)+2)≠0)
def yV(h:prB n=true):Pr n:=by
 unfold prB at h;rw[qN1]at h;erw[zZ1 h.1,λk k2 k3 ks=>?_];let q:=List.all_eq_true.mp h.2 (k.toNat-2) (List.mem_range.mpr #[0]);let e:(((k.toNat-2:Nat):Int)+2)=k:=#[0]
 rw[e,Bool.or_eq_true]at q;rcases q with q | q
 . have:=zZ1 q;omega
 . exact zZ1 q
def zU:Pr 999983:=yV ⋯
def GE{d:Int}(h:Pr p)(hp:p<1002001)(d0:1<d)(d1:d<p)(hd:d ∣ p):False:=by
 erw[e,he]at hd;let e0:1<e:=by
  by_cases c:e<=1
  . have:d*e<=d*1:=qW0 c #[0]
    omega
  . omega
 by_cases c:d<=e
 . let s:d*d<=p:=by
    have:=qW0 c (show(0:Int)<=d by omega)
    omega
   let t:d<=1000:=by
    by_cases c2:1001<=d
    . have:=sR (a:=1001) (b:=d) #[0] c2
      omega
    . omega
   apply h.2 d #[0] t s ?_;rw[he];exact Int.mul_emod_right d e
 . let c':e<=d:=#[0]
   let s:e*e<=p:=by
    have:=Int.mul_le_mul_of_nonneg_right c' (show(0:Int)<=e by omega)
    omega
   let t:e<=1000:=by
    by_cases c2:1001<=e
    . have:=sR (a:=1001) (b:=e) #[0] c2
      omega
    . omega
   apply h.2 e #[0] t s ?_;rw[he,jI0];exact Int.mul_emod_right e d
def Cop(x y:Int):Prop:=∀d:Int,0<d->d ∣ x->d ∣ y->d=1
def HJ{a:Int}(h:Pr p)(hp:p<1002001)(a0:0<a)(a1:a<p):Cop p a:=λd d0 h1 h2=>by
 have:=jL1 a0 h2
 by_cases c:1<d
 . exact(GE h hp c #[0] h1).elim
 . omega
structure Eu(a p former ff rest f:Int):Prop where
 r0:0<rest
 rp:rest<p
 fr:rest<former
 f0:0<=f
 f1:f<p
 g0:0<=ff
 g1:ff<p
 cop:Cop former rest
 d1:p ∣ former-a*ff
 d2:p ∣ rest-a*f
def wI{a:Int}(h:Pr p)(hp:p<1002001)(a0:0<a)(a1:a<p):Eu a p p 0 (a % p) 1:=by
 let e:a % p=a:=qV0 #[0] a1;rw[e];erw[a0,a1,a1,3,3,3,3,HJ h hp a0 a1,by rw[Int.mul_zero,Int.sub_zero];exact Int.dvd_refl p,by rw[wJ1,Int.sub_self];exact Int.dvd_zero p]
def ze(E:Eu a p former ff rest f)(h1:rest≠1):Eu a p rest f (former-former / rest*rest) ((ff-former / rest*f) % p)/\(former-former / rest*rest).toNat<rest.toNat:=by
 let r0:=E.r0;let rp:=E.rp;let em:former-former / rest*rest=former % rest:=by
  have:=jE1 former rest
  rw[jI0]at this;omega
 let l0:0<=former % rest:=qA0 _ #[0];let l1:former % rest<rest:=qH0 _ r0;let cop':Cop rest (former % rest):=λd d0 x y=>by
  apply E.cop d d0 ?_ x
  have:=jE1 former rest
  rw[←this];exact wB0 y (Int.dvd_trans x (Int.dvd_mul_right _ _))
 let lz:former % rest≠0:=λz=>by
  have:=cop' rest r0 (Int.dvd_refl _) (by rw[z];exact Int.dvd_zero _)
  exact h1 this
 rw [em];erw[%[3,3,l1,qA0 _ #[0],qH0 _ #[0],E.f0,E.f1,cop',E.d2|6],3];let q:p ∣ (former-a*ff)-former / rest*(rest-a*f):=Int.dvd_sub E.d1 (Int.dvd_trans E.d2 (Int.dvd_mul_left _ _));let q2:p ∣ (ff-former / rest*f)-(ff-former / rest*f) % p:=Int.dvd_self_sub_emod;let q3:p ∣ a*((ff-former / rest*f)-(ff-former / rest*f) % p):=Int.dvd_trans q2 (Int.dvd_mul_left _ _);let q4:=wB0 q q3;let e2:former-a*ff-former / rest*(rest-a*f)+a*(ff-former / rest*f-(ff-former / rest*f) % p)=former % rest-a*((ff-former / rest*f) % p):=by
  rw[←em];generalize former / rest=t;generalize (ff-t*f) % p=u;rw[Int.mul_sub,Int.mul_sub,Int.mul_sub,Int.mul_left_comm t a f];omega
 rw[e2]at q4;exact q4
def DJ(E:Eu a p former ff rest f)(h1:rest=1)(hp:1<p):0<f/\f<p/\f*a % p=1:=by
 subst h1;let d2:=E.d2;let f0:=E.f0;let hm:f*a % p=1:=by
  erw[c,hc]at d2;let e:f*a=1+p*(-c):=by
   rw[jI0 f a,Int.mul_neg];omega
  rw[e,Int.add_mul_emod_self_left];exact qV0 #[0] hp
 erw[6,E.f1,hm]
 by_cases c:f=0
 . subst c;simp at hm
 . omega
end Mine
namespace Mine
def wU(n d:Int):Prop:=∀k:Int,3<=k->k % 2=1->k<d->n % k≠0
def An(n:Int):wU n 3:=λk a _ c=>#[0]
def CI(u:wU n d)(hd:d % 2=1)(h:n % d≠0):wU n (d+2):=λk a b c=>by
 by_cases e:k<d
 . exact u k a b e
 . have:k=d:=#[0]
   subst this;exact h
def AJ{n d:Int}(h3:3<=n)(h2:n % 2≠0)(h0:3<=d)(u:wU n d)(hd:n<d*d):Pr n:=by
 erw[3,λk k2 k3 ks z=>?_];let%[q|hq]:=Int.dvd_of_emod_eq_zero z
 by_cases e:k % 2=1
 . by_cases c:k<d
   . exact u k #[0] e c z
   . have:=sR (a:=d) (b:=k) #[0] #[0]
     omega
 . obtain ⟨j,hj⟩:∃j,k=2*j:=%[k / 2|3]
   rw[hj,Int.mul_assoc]at hq;omega
def AM{n:Int}(h2:n % 2=0)(h3:2<n):¬ Pr n:=λp=>p.2 2 #[0] #[0] #[0] h2
def AL{n d:Int}(h9:n<=999999)(h0:3<=d)(hs:d*d<=n)(h:n % d=0):¬ Pr n:=λp=>by
 let t:d<=1000:=by
  by_cases c2:1001<=d
  . have:=sR (a:=1001) (b:=d) #[0] c2
    omega
  . omega
 exact p.2 d #[0] t hs h
def xj{n d:Int}(h9:n<=999999)(h0:3<=d)(hs:d*d<=n):d<=999:=by
 by_cases c2:1000<=d
 . have:=sR (a:=1000) (b:=d) #[0] c2
   omega
 . omega
def EL{n d:Int}(h0:3<=d)(hs:d*d<=n):d<=n:=by
 have:=qW0 (show(1:Int)<=d by omega) (show(0:Int)<=d by omega)
 omega
end Mine
namespace Mine
def dA:Nat->List (List Int)
 |0=>[[]]
 |n+1=>(dA n).flatMap λs=>[s++[0],s++[1]]
def oT{α β:Type}(f g:α->β):∀l:List α,(l.flatMap λs=>[f s,g s]).length=2*l.length
 | []=>rfl
 |x::r=>by
   let ih:=oT f g r;simp only[List.flatMap_cons,zK0,zM0,zI1];omega
def kX:∀n:Nat,(dA n).length=2 ^ n
 |0=>rfl
 |n+1=>by rw[dA,oT,kX n,Nat.pow_succ];omega
def gy:∀(n:Nat)(s:List Int),s∈dA n->s.length=n
 |0,s,h=>by
   have:s=[]:=by simpa [dA]using h
   subst this;rfl
 |n+1,s,h=>by
   rw[dA,List.mem_flatMap]at h;erw[t,ht,hs]at h
   have:=gy n t ht
   simp at hs
   rcases hs with rfl | rfl <;> simp [this]
def oG{n:Nat}(h:n<=6):2 ^ n<=64:=Nat.pow_le_pow_right ⋯ h
end Mine
namespace Mine
def Pm(p:Int):Prop:=1<p/\∀a:Int,¬ p ∣ a->∃f:Int,p ∣ f*a-1
def DI{p:Int}(hp:1<p):∀(n:Nat){former ff rest f:Int},rest.toNat<=n->Eu a p former ff rest f->∃g:Int,g*a % p=1
 |0,former,ff,rest,f,hn,E=>by
   have:=E.r0
   omega
 |n+1,former,ff,rest,f,hn,E=>by
   by_cases c:rest=1
   . erw[f,(DJ E c hp).2.2]
   . let%[E2|lt]:=ze E c;exact DI hp n #[0] E2
def Cb(h:Pr p)(hp:p<1002001):Pm p:=by
 let p1:1<p:=by have:=h.1;omega
 erw[p1,λa ha=>?_];let a0:0<a % p:=by
  have:=qA0 a (show p≠0 by omega)
  by_cases c:a % p=0
  . exact absurd (Int.dvd_of_emod_eq_zero c) ha
  . omega
 let a1:a % p<p:=qH0 _ #[0];let%[g|hg]:=DI p1 _ (zH0 _) (wI h hp a0 a1);erw[g,6];let e1:g*a % p=1:=by rw[←hg,jS0 g (a % p),jV0,←jS0]
 have:=jE1 (g*a) p
 erw[g*a / p,3]
def Pm.mul{a b:Int}(h:Pm p)(hd:p ∣ a*b)(ha:¬ p ∣ a):p ∣ b:=by
 let%[f,k|hk]:=h.2 a ha;erw[m,hm]at hd;erw[f*m-k*b,by grind]
def Pm.not_mul{a b:Int}(h:Pm p)(ha:¬ p ∣ a)(hb:¬ p ∣ b):¬ p ∣ a*b:=λz=>hb (h.mul z ha)
def ch:Nat->Nat->Nat
 |_,0=>1
 |0,_+1=>0
 |n+1,k+1=>ch n k+ch n (k+1)
def oa(n:Nat):ch n 0=1:=by cases n <;> rfl
def oU:∀(n k:Nat),n<k->ch n k=0
 |0,k+1,_=>rfl
 |n+1,k+1,h=>by
   show ch n k+ch n (k+1)=0;rw[oU n k #[0],oU n (k+1) #[0]]
def Fy(n:Nat):ch n n=1:=by
 induction n with
 |zero=>rfl
 |succ n ih=>
   show ch n n+ch n (n+1)=1;rw[ih,oU n (n+1) #[0]]
def vi:∀(n k:Nat),(k+1)*ch (n+1) (k+1)=(n+1)*ch n k
 |0,0=>rfl
 |0,k+1=>by
   show(k+2)*(ch 0 (k+1)+ch 0 (k+2))=1*ch 0 (k+1);rw[oU 0 (k+1) #[0],oU 0 (k+2) #[0]]
   simp
 |n+1,0=>by
   let h:=vi n 0;rw[oa n]at h;show(0+1)*(ch (n+1) 0+ch (n+1) (0+1))=(n+1+1)*ch (n+1) 0;rw[oa (n+1)];omega
 |n+1,k+1=>by
   let h1:=vi n k;let h2:=vi n (k+1);show(k+2)*(ch (n+1) (k+1)+ch (n+1) (k+2))=(n+2)*ch (n+1) (k+1);let e:ch (n+1) (k+1)=ch n k+ch n (k+1):=rfl
   grind
def sm(f:Nat->Int):Nat->Int
 |0=>0
 |n+1=>sm f n+f n
def qw{f g:Nat->Int}:∀n,(∀k,k<n->f k=g k)->sm f n=sm g n
 |0,_=>rfl
 |n+1,h=>by
   show sm f n+f n=sm g n+g n;rw[qw n (λk hk=>h k #[0]),h n #[0]]
def BA(f g:Nat->Int):∀n,sm (λk=>f k+g k) n=sm f n+sm g n
 |0=>rfl
 |n+1=>by
   show sm (λk=>f k+g k) n+(f n+g n)=(sm f n+f n)+(sm g n+g n)
   rw[BA f g n];omega
def By(c:Int)(f:Nat->Int):∀n,sm (λk=>c*f k) n=c*sm f n
 |0=>by simp [sm]
 |n+1=>by
   show sm (λk=>c*f k) n+c*f n=c*(sm f n+f n)
   rw[By c f n]
   grind
def my(f:Nat->Int):∀n,sm f (n+1)=f 0+sm (λk=>f (k+1)) n
 |0=>by simp [sm]
 |n+1=>by
   show sm f (n+1)+f (n+1)=f 0+(sm (λk=>f (k+1)) n+f (n+1))
   rw[my f n];omega
def Bz{p:Int}{f:Nat->Int}:∀n,(∀k,k<n->p ∣ f k)->p ∣ sm f n
 |0,_=>%[(0)|by simp [sm]]
 |n+1,h=>wB0 (Bz n λk hk=>h k #[0]) (h n #[0])
def FU(a:Int):∀n:Nat,(a+1) ^ n=sm (λk=>(ch n k:Int)*a ^ k) (n+1)
 |0=>by simp [sm,ch]
 |n+1=>by
   let ih:=FU a n;rw[qX1,ih,my (λk=>((ch (n+1) k:Nat):Int)*a ^ k) (n+1)];let e1:sm (λk=>((ch (n+1) (k+1):Nat):Int)*a ^ (k+1)) (n+1)=a*sm (λk=>(ch n k:Int)*a ^ k) (n+1)+sm (λk=>(ch n (k+1):Int)*a ^ (k+1)) (n+1):=by
    rw[←By,←BA];apply qw _ λk _=>?_
    have:ch (n+1) (k+1)=ch n k+ch n (k+1):=rfl
    rw[this,jM0,qX1]
    grind
   let e2:sm (λk=>(ch n k:Int)*a ^ k) (n+1)=1+sm (λk=>(ch n (k+1):Int)*a ^ (k+1)) (n+1):=by
    rw[my]
    have:sm (λk=>(ch n (k+1):Int)*a ^ (k+1)) (n+1)=sm (λk=>(ch n (k+1):Int)*a ^ (k+1)) n:=by
     show _+(ch n (n+1):Int)*a ^ (n+1)=_;rw[oU n (n+1) #[0]]
     simp
    rw[this,oa]
    simp
   rw[e1,oa]
   grind
def HK(h:Pm p){n k:Nat}(hn:(n:Int)+1=p)(hk:k<n):p ∣ ((ch (n+1) (k+1):Nat):Int):=by
 let e:((k:Int)+1)*((ch (n+1) (k+1):Nat):Int)=p*((ch n k:Nat):Int):=by
  have:=vi n k
  rw[←hn];exact_mod_cast this
 apply h.mul (a:=(k:Int)+1) %[_|e] λhd=>?_
 have:=jL1 #[0] hd
 omega
def rR(h:Pm p):∀a:Nat,p ∣ (a:Int) ^ p.toNat-a
 |0=>by
   have:p.toNat≠0:=by have:=h.1;omega
   simp [Int.zero_pow this]
 |a+1=>by
   let ih:=rR h a;obtain⟨n,hn⟩:∃n:Nat,p.toNat=n+1:=%[p.toNat-1|by have:=h.1;omega]
   let hp:(n:Int)+1=p:=by have:=h.1;omega
   rw [hn]at ih ⊢;let b:=FU (a:Int) (n+1);let e:sm (λk=>(ch (n+1) k:Int)*(a:Int) ^ k) (n+1+1)=sm (λk=>(ch (n+1) (k+1):Int)*(a:Int) ^ (k+1)) n+(a:Int) ^ (n+1)+1:=by
    rw[my];show _+(sm _ n+(ch (n+1) (n+1):Int)*(a:Int) ^ (n+1))=_;rw[Fy,oa]
    simp
    omega
   let d:p ∣ sm (λk=>(ch (n+1) (k+1):Int)*(a:Int) ^ (k+1)) n:=Bz n λk hk=>Int.dvd_mul_of_dvd_left (HK h hp hk)
   erw[u,hu]at ih;erw[v,hv]at d;erw[u+v,6];rw[jM0];show((a:Int)+1) ^ (n+1)-((a:Int)+1)=_;rw[b,e]
   grind
def Hy{a:Int}(h:Pm p)(ha:¬ p ∣ a)(a0:0<=a):p ∣ a*a ^ (p-2).toNat-1:=by
 obtain⟨n,hn⟩:∃n:Nat,p.toNat=n+2:=%[p.toNat-2|by have:=h.1;omega]
 let e:(p-2).toNat=n:=#[0]
 let f:=rR h a.toNat;rw[Int.toNat_of_nonneg a0,hn]at f;rw[e];let g:a ^ (n+2)-a=a*(a*a ^ n-1):=by
  rw[qX1,qX1]
  grind
 rw[g]at f;exact h.mul f ha
def IsPoly:Nat->(Int->Int)->Prop
 |0,f=>∀x,f x=0
 |n+1,f=>∃(a:Int)(g:Int->Int),IsPoly n g/\∀x,f x=a+x*g x
def IsPoly.congr:∀{n:Nat}{f g:Int->Int},IsPoly n f->(∀x,g x=f x)->IsPoly n g
 |0,_,_,h,e=>λx=>(e x).trans (h x)
 |_+1,_,_,⟨a,k,hk,h⟩,e=>%[a,k,hk|λx=>(e x).trans (h x)]
def IsPoly.zero:∀n:Nat,IsPoly n λ_=>0
 |0=>λ_=>rfl
 |n+1=>%[(0),λ_=>0,IsPoly.zero n|λx=>by simp]
def IsPoly.up:∀{n:Nat}{f:Int->Int},IsPoly n f->IsPoly (n+1) f
 |0,f,h=>%[(0),λ_=>0,λ_=>rfl|λx=>by rw[h x];simp]
 |n+1,f,⟨a,g,hg,h⟩=>%[a,g,hg.up|h]
def IsPoly.add:∀{n:Nat}{f g:Int->Int},IsPoly n f->IsPoly n g->IsPoly n λx=>f x+g x
 |0,f,g,h,k=>λx=>by show f x+g x=0;rw[h x,k x];rfl
 |n+1,f,g,⟨a,u,hu,h⟩,⟨b,v,hv,k⟩=>%[a+b,λx=>u x+v x,hu.add hv|λx=>by show f x+g x=a+b+x*(u x+v x);rw[h x,k x];grind]
def IsPoly.mul(c:Int):∀{n:Nat}{f:Int->Int},IsPoly n f->IsPoly n λx=>c*f x
 |0,f,h=>λx=>by show c*f x=0;rw[h x];simp
 |n+1,f,⟨a,u,hu,h⟩=>%[c*a,λx=>c*u x,hu.mul c|λx=>by show c*f x=c*a+x*(c*u x);rw[h x];grind]
def IsPoly.lin{n:Nat}{f:Int->Int}(h:IsPoly n f)(r:Int):IsPoly (n+1) λx=>(x-r)*f x:=by
 let h1:IsPoly (n+1) λx=>x*f x:=%[(0),f,h|λx=>by simp]
 exact(h1.add (h.up.mul (-r))).congr λx=>by grind
def IsPoly.div:∀{n:Nat}{f:Int->Int},IsPoly (n+1) f->∀r:Int,∃q,IsPoly n q/\∀x,f x-f r=(x-r)*q x
 |0,f,⟨a,g,hg,h⟩,r=>%[λ_=>0,λ_=>rfl|λx=>by rw[h x,h r,hg x,hg r];simp]
 |n+1,f,⟨a,g,hg,h⟩,r=>by
   let%[q,hq|e]:=IsPoly.div hg r;erw[λx=>g x+r*q x,hg.add (hq.up.mul r),λx=>?_]
   have:=e x
   rw[h x,h r]
   grind
def IsPoly.roots(hp:Pm p):∀{n:Nat}{f:Int->Int}(rs:List Int),IsPoly n f->rs.length=n->rs.Pairwise (λa b=>¬ p ∣ b-a)->(∀r∈rs,p ∣ f r)->∀x,p ∣ f x
 |0,f,_,h,_,_,_,x=>%[(0)|by rw[h x];simp]
 |n+1,f,[],_,hl,_,_,_=>by simp at hl
 |n+1,f,r::rs,h,hl,hd,hr,x=>by
   let%[q,hq|e]:=h.div r;let hd':=List.pairwise_cons.mp hd;let z:=IsPoly.roots hp rs hq #[hl,0] hd'.2 (λs hs=>by
    let h1:p ∣ (s-r)*q s:=by
     rw[←e s];exact Int.dvd_sub (hr s (qK0 _ hs)) (hr r qB0)
    exact hp.mul h1 (hd'.1 s hs)) x
   have:f x=f r+(x-r)*q x:=by have:=e x;omega
   rw[this];exact wB0 (hr r qB0) (Int.dvd_mul_of_dvd_right z)
end Mine
namespace Mine
def pr(g:Nat->Int):Nat->Int
 |0=>1
 |n+1=>pr g n*g n
def qY{f g:Nat->Int}:∀n,(∀k,k<n->f k=g k)->pr f n=pr g n
 |0,_=>rfl
 |n+1,h=>by
   show pr f n*f n=pr g n*g n;rw[qY n (λk hk=>h k #[0]),h n #[0]]
def qX(g:Nat->Int):∀n,pr g (n+1)=g 0*pr (λk=>g (k+1)) n
 |0=>by simp [pr]
 |n+1=>by
   show pr g (n+1)*g (n+1)=g 0*(pr (λk=>g (k+1)) n*g (n+1))
   rw[qX g n,Int.mul_assoc]
def px(x:Int)(i:Nat):Nat->Int
 |0=>1
 |n+1=>if n=i then px x i n else px x i n*(x-n)
def yS(i:Nat):∀n,IsPoly (if i<n then n else n+1) λx=>px x i n
 |0=>%[(1),λ_=>0,λ_=>rfl|λx=>by simp [px]]
 |n+1=>by
   let ih:=yS i n
   by_cases c:n=i
   . subst c;rw[Mq (qU0 n)]at ih;rw[Mt (qV1 n)];exact ih.congr λx=>by simp [px]
   . let e:∀x,px x i (n+1)=(x-n)*px x i n:=λx=>by
      show(if n=i then px x i n else px x i n*(x-n))=_;rw[Mq c,jI0]
     by_cases c2:i<n
     . rw[Mt c2]at ih;rw[Mt #[0]];exact(ih.lin n).congr e
     . rw[Mq c2]at ih;rw[Mq #[0]];exact(ih.lin n).congr e
def ux{k i:Nat}(h:k≠i):∀n,k<n->px (k:Int) i n=0
 |n+1,hk=>by
   show(if n=i then px (k:Int) i n else px (k:Int) i n*((k:Int)-n))=0
   by_cases c:n=i
   . rw[Mt c];exact ux h n #[0]
   . rw [Mq c]
     by_cases c2:k=n
     . subst c2
       simp
     . rw [ux h n #[0]]
       simp
def lag(v u:Nat->Int)(n:Nat)(x:Int):Int:=sm (λi=>v i*px x i n*u i) n
def EE{n m:Nat}{f:Nat->Int->Int}:(∀i,i<m->IsPoly n (f i))->IsPoly n λx=>sm (λi=>f i x) m:=by
 induction m with
 |zero=>exact λ_=>IsPoly.zero n
 |succ m ih=>exact λh=>(ih λi hi=>h i #[0]).add (h m #[0])
def wz(v u:Nat->Int)(n:Nat):IsPoly n (lag v u n):=EE λi hi=>by
 let h:=yS i n;rw[Mt hi]at h;exact(h.mul (v i*u i)).congr λx=>by grind
def Bx{f:Nat->Int}{k:Nat}:∀n,k<n->(∀i,i<n->i≠k->f i=0)->sm f n=f k
 |n+1,hk,h=>by
   show sm f n+f n=f k
   by_cases c:k=n
   . subst c;let z:sm f k=0:=by
      have:sm f k=sm (λ_=>0) k:=qw k λi hi=>h i #[0] #[0]
      rw[this];clear this h hk
      induction k with
      |zero=>rfl
      |succ k ih=>show sm (λ_=>0) k+0=0;rw[ih];rfl
     rw[z]
     simp
   . rw [Bx n #[0] (λi hi=>h i #[0]),h n #[0] #[0]]
     simp
def Wgt(p:Int)(n:Nat)(u:Nat->Int):Prop:=∀i,i<n->p ∣ px (i:Int) i n*u i-1
def yk{k:Nat}(hu:Wgt p n u)(hk:k<n):p ∣ lag v u n k-v k:=by
 unfold lag;rw[Bx n hk λi hi hne=>by rw[ux (Ne.symm hne) n hk];simp];let%[m|hm]:=hu k hk;erw[v k*m,by grind]
def far{p:Int}{n:Nat}(hn:(n:Int)<=p):((List.range n).map λk:Nat=>(k:Int)).Pairwise λa b=>¬ p ∣ b-a:=by
 rw[List.pairwise_map];apply List.Pairwise.imp_of_mem (fun{a b} ha hb h=>?_) List.pairwise_lt_range;intro d
 have:=jL1 #[0] d
 let hb':=List.mem_range.mp hb;omega
def alike(hp:Pm p){n:Nat}(hn:(n:Int)<=p){f g:Int->Int}(hf:IsPoly n f)(hg:IsPoly n g)(h:∀k:Nat,k<n->p ∣ f k-g k)(x:Int):p ∣ f x-g x:=by
 let hd:IsPoly n λx=>f x-g x:=(hf.add (hg.mul (-1))).congr λx=>by grind
 apply hd.roots hp ((List.range n).map λk:Nat=>(k:Int)) #[2] (far hn) (λr hr=>?_) x;let%[k,hk|1]:=List.mem_map.mp hr;exact h k (List.mem_range.mp hk)
def Dm(hp:Pm p){n:Nat}(hn:(n:Int)<=p){v:Nat->Int}{P:Int->Int}(hu:Wgt p n u)(hP:IsPoly n P)(h:∀k:Nat,k<n->p ∣ v k-P k)(x:Int):p ∣ lag v u n x-P x:=
 alike hp hn (wz v u n) hP (λk hk=>by
  let h1:=yk (v:=v) hu hk;let h2:=h k hk
  have:lag v u n k-P k=(lag v u n k-v k)+(v k-P k):=#[0]
  rw[this];exact wB0 h1 h2) x
def Dl(hp:Pm p){n:Nat}(hn:(n:Int)<=p)(hu:Wgt p n u)(hu':Wgt p n u')(x:Int):p ∣ lag v u n x-lag v u' n x:=
 Dm hp hn hu (wz v u' n) (λk hk=>by
  let%[m|hm]:=yk (v:=v) hu' hk;erw[-m,by grind]) x
def qU(x:Int)(i:Nat):∀m,px x i (i+1+m)=pr (λj=>x-j) i*pr (λj=>x-(i+1+j:Nat)) m
 |0=>by
   let h:∀k,k<=i->px x i k=pr (λj=>x-j) k:=λk=>by
    induction k with
    |zero=>exact λ_=>rfl
    |succ k ih=>
      intro hk;show(if k=i then px x i k else px x i k*(x-k))=pr (λj=>x-j) k*(x-k)
      rw[Mq #[0],ih #[0]]
   show(if i=i then px x i i else _)=_*1;rw[Mt rfl,h i (zH0 _),wJ1]
 |m+1=>by
   show(if i+1+m=i then _ else px x i (i+1+m)*(x-(i+1+m:Nat)))=pr (λj=>x-j) i*(pr (λj=>x-(i+1+j:Nat)) m*(x-(i+1+m:Nat)))
   rw[Mq #[0],qU x i m,Int.mul_assoc]
def yU(x:Int)(i:Nat):∀m,pr (λj=>x-(i+m:Nat)+j) m=pr (λj=>x-(i+1+j:Nat)) m
 |0=>rfl
 |m+1=>by
   rw[qX];show _=pr (λj=>x-(i+1+j:Nat)) m*(x-(i+1+m:Nat))
   let e:pr (λk=>x-(i+(m+1):Nat)+(k+1:Nat)) m=pr (λj=>x-(i+m:Nat)+j) m:=qY m λk _=>#[0]
   rw[e,yU x i m,jI0]
   congr 1
   omega
def fac:Nat->Int
 |0=>1
 |n+1=>fac n*((n:Int)+1)
def wH:∀n:Nat,pr (λj=>(n:Int)-j) n=fac n
 |0=>rfl
 |n+1=>by
   rw[qX];let e:pr (λk=>((n+1:Nat):Int)-(k+1:Nat)) n=pr (λj=>(n:Int)-j) n:=qY n λk _=>#[0]
   rw[e,wH n];show((n+1:Nat)-(0:Nat):Int)*fac n=fac n*((n:Int)+1)
   rw[jI0]
   congr 1
def zd(i:Nat):∀m:Nat,pr (λj=>(i:Int)-(i+1+j:Nat)) m=(-1) ^ m*fac m
 |0=>rfl
 |m+1=>by
   show pr _ m*((i:Int)-(i+1+m:Nat))=(-1) ^ (m+1)*(fac m*((m:Int)+1))
   rw[zd i m,qX1]
   have:((i:Int)-(i+1+m:Nat))=-((m:Int)+1):=#[0]
   rw[this]
   grind
def BY(i m:Nat):px (i:Int) i (i+1+m)=fac i*((-1) ^ m*fac m):=by rw[qU,wH,zd]
def wG:∀(k d:Nat),fac d*pr (λj=>((d+k:Nat):Int)-j) k=fac (d+k)
 |0,d=>by simp [pr]
 |k+1,d=>by
   let ih:=wG k (d+1);rw[show d+1+k=d+(k+1) by omega]at ih;rw[←ih];show fac d*(pr (λj=>((d+(k+1):Nat):Int)-j) k*(((d+(k+1):Nat):Int)-k))=fac d*((d:Int)+1)*pr (λj=>((d+(k+1):Nat):Int)-j) k
   have:(((d+(k+1):Nat):Int)-k)=(d:Int)+1:=#[0]
   rw[this]
   grind
def vg(hp:Pm p):∀n:Nat,(n:Int)<p->¬ p ∣ fac n
 |0,_=>λd=>by
   have:=jL1 ⋯ (show p ∣ 1 from d)
   have:=hp.1
   omega
 |n+1,h=>hp.not_mul (vg hp n #[0]) λd=>by
   have:=jL1 #[0] d
   omega
def yN(m:Nat):((-1:Int) ^ m)*(-1) ^ m=1:=by
 induction m with
 |zero=>rfl
 |succ m ih=>rw[qX1];grind
def GQ(hp:Pm p){n i:Nat}(hn:(n:Int)<=p)(hi:i<n):¬ p ∣ px (i:Int) i n:=by
 obtain⟨m,rfl⟩:∃m,n=i+1+m:=%[n-(i+1)|3]
 rw[BY];apply hp.not_mul (vg hp i #[0]) (hp.not_mul (λd=>?_) (vg hp m #[0]));erw[k,hk]at d;let s:=yN m
 have:p ∣ 1:=%[k*(-1) ^ m|by grind]
 have:=jL1 ⋯ this
 have:=hp.1
 omega
def Eg{p:Int}{last:Nat}{sh:Nat->Int}(h:∀k,k<=last->p ∣ sh k*fac k-1):Wgt p (last+1) λi=>(-1) ^ (last-i)*(sh i*sh (last-i)):=λi hi=>by
 obtain⟨m,rfl⟩:∃m,last=i+m:=%[last-i|3]
 show p ∣ px (i:Int) i (i+m+1)*((-1) ^ (i+m-i)*(sh i*sh (i+m-i)))-1;rw[show i+m+1=i+1+m by omega,BY,show i+m-i=m by omega];let%[a|ha]:=h i #[0];let%[b|hb]:=h m #[0];let s:=yN m;erw[a*(sh m*fac m)+b,6];let e:fac i*((-1) ^ m*fac m)*((-1) ^ m*(sh i*sh m))=((-1) ^ m*(-1) ^ m)*((sh i*fac i)*(sh m*fac m)):=by grind
 rw[e,s]
 grind
end Mine
namespace Mine
open PySem L2
def Aw{us:List Value}(h:us.length=1):∃a,us=[a]:=by
 cases us with
 |nil=>cases h
 |cons a r=>
   cases r with
   |nil=>erw[a,1]
   |cons _ _=>cases h
def Au{us:List Value}{n:Nat}(h:us.length=n+1):∃a r,us=a::r/\r.length=n:=by
 cases us with
 |nil=>cases h
 |cons a r=>erw[a,r,1,Nat.succ.inj h]
def Av{us:List Value}(h:us.length=2):∃a b,us=[a,b]:=by
 let%[a,r,1|h1]:=Au h;let%[b|1]:=Aw h1;erw[a,b,1]
def Fo{us:List Value}(h:us.length=3):∃a b c,us=[a,b,c]:=by
 let%[a,r,1|h1]:=Au h;let%[b,c|1]:=Av h1;erw[a,b,c,1]
def Fn{us:List Value}(h:us.length=4):∃a b c d,us=[a,b,c,d]:=by
 let%[a,r,1|h1]:=Au h;let%[b,c,d|1]:=Fo h1;erw[a,b,c,d,1]
def len5{us:List Value}(h:us.length=5):∃a b c d e,us=[a,b,c,d,e]:=by
 let%[a,r,1|h1]:=Au h;let%[b,c,d,e|1]:=Fn h1;erw[a,b,c,d,e,1]
def len6{us:List Value}(h:us.length=6):∃a b c d e f,us=[a,b,c,d,e,f]:=by
 let%[a,r,1|h1]:=Au h;let%[b,c,d,e,f|1]:=len5 h1;erw[a,b,c,d,e,f,1]
def len7{us:List Value}(h:us.length=7):∃a b c d e f g,us=[a,b,c,d,e,f,g]:=by
 let%[a,r,1|h1]:=Au h;let%[b,c,d,e,f,g|1]:=len6 h1;erw[a,b,c,d,e,f,g,1]
def top(i:Nat):Stmt:=PySem.Challenge.pw_asktally_k76_weighed_at_the_desk.main.body.getD i (.Pass %[(0),(0),(0)|(0)])
example:=[mf,14,jO,15,kz,16,iD,18,jP,19,qN,20,mh,21,iy,22,lc,23,jJ,24,jF,26,iB,27,kE,31,gX,32,jK,33,jL,34,ky,35,je,37,oz,47,jN,48,jb,56,jQ,57,kx,58,iz,59,iS,60,dP,61,jf,62,lX,63,iQ,64,hZ,65,lV,67,kG,68,iw,69,lY,70,dY,71,kI,74,ue,76,gV,77,kF,79,lW,80,ku,90,jI,91,iC,92,eP,93,gU,94,iZ,95,iR,96,gB,97,jH,101,lZ,102,oB,103,jR,108,ow,111,eg,112,kD,113,lU,115,oA,116,kA,117,jG,118,iP,120,kC,121,qM,123,qI,124,cu,125,mV,126,hV,127,qK,128,jM,129,mX,130,ma,131,qL,132,qJ,133,iA,134,mQ,135]
section
variable {P:Program}{w:World}{K:W.Frag}{mg:#[9]}{base:Heap}
example:=[dB,73,kH,99,lh,106,ui,30]
structure Bl(mg:#[9]):Prop where
 len:mg "len"=none
 range:mg "range"=none
 isinstance:mg "isinstance"=none
 int:mg "int"=none
 bool:mg "bool"=none
 list:mg "list"=none
 tuple:mg "tuple"=none
 max:mg "max"=none
 min:mg "min"=none
 reversed:mg "reversed"=none
 enumerate:mg "enumerate"=none
 sum:mg "sum"=none
 all:mg "all"=none
 dict:mg "dict"=none
 str:mg "str"=none
def zc(z:Int):0<=z % 2147483646+1/\z % 2147483646+1<=2147483646:=#[0]
def gJ:FnScope ["_law_script","_law_k","_law_cell","_law_own"] WL (ag qM):=%[|5]
def Ad(F:#["_law_feed",qM])(hlen:mg "len"=none):#[1,f,fd,WL,spFeed K]:=by
 exists gJ
 erw[a,ns,k,1,hS,h63,k0,k1,q]at h;refine⟨_,(aa #[ah,2,gJ,am aR (am cG ad (pv 1)) ad]
  (aa (aF (af dM (pv 1) (aE aD rfl hlen zC1 %[0|bc]) (ao _)) (ac #[ah,2,gJ,aI ix_list (pv 0) (pv 1) #[1]]) (ac (aF (af fO (aE aD rfl hlen zC1 %[0|bc]) ad (ao _)) (ac #[ah,2,gJ,am aR (am cG (am bd (aI ix_list (pv 0) (am bd (pv 1) (aE aD rfl hlen zC1 %[0|bc])) #[1]) ad) ad) (am cG ad (pv 1))]) ax)))
  (aa #[ah,3,gJ,ad]
  (aa (aF (af Cl (pv 2) (am Cj ad ad) (ao _)) (ac #[ah,3,gJ,pv 2]) ax)
  (ac (aj (dq %[3,am aR (am bd (am aR (am cG (am bd (pv 2) ad) ad) (am cG ad (pv 1))) ad) ad|bc]))))))),?_⟩
 let hl:(ns.map V.int).length=ns.length:=zF0 _;let hp:(10:Int) ^ (18:Int).toNat=1000000000000000000:=by decide
 erw[0,2,.inl %[4|4],2,6];erw[0,0,a,0,.inl hS,2,0,6];apply uZ (λc=>?b1) (λc=>?b2)
 case' b1=>
  let c':k<(((ns.map V.int).length:Nat):Int):=zZ1 c;rw[hl]at c';let%[v|hv]:=DY (ns:=ns) k0 c';erw[0,0,a,_,2,hS,hv,6]
 case' b2=>
  erw[0,a,0,.inl hS,2,0,6];apply uZ (λc2=>?b3) (λc2=>?b4)
  case' b3=>
   let c':(0:Int)<(((ns.map V.int).length:Nat):Int):=zZ1 c2;let m0:=qA0 k (b:=(((ns.map V.int).length:Nat):Int)) #[0];let m1:=qH0 k c';let%[v|hv]:=DY (ns:=ns) m0 (by rw[hl]at m1 ⊢;exact m1);let n0:=qA0 v (b:=2147483629) ⋯;let n1:=qH0 v (b:=2147483629) ⋯;erw[0,0,0,a,0,.inl hS,2,c',a,_,2,hS,hv,2,(by show(0:Int)<_;decide),2,.inr %[4|4],0,2,.inl %[4|4],2,6]
 all_goals
  erw[0,2,%[4,4|4],2,0,6];apply uZ (λc3=>?_) (λc3=>?_)
  . let c4:=zZ1 c3;rw[hp]at c4;erw[0,0,0,2,(by show(0:Int)<_;decide),2,.inr %[4|4],0,2,.inl %[4|4],2,2,(by show(0:Int)<_;decide),2,y2S,λp hp=>?_];apply q p _ hp (zC0 hp _) %[_,_,bh,Int.le_trans ⋯ c4,(zc _).1|(zc _).2]
  . erw[0,0,2,(by show(0:Int)<_;decide),2,.inr %[4|4],0,2,.inl %[4|4],2,2,(by show(0:Int)<_;decide),2,y2S,λp hp=>?_];apply q p _ hp (zC0 hp _) %[_,_,bh,qC1 0,(zc _).1|(zc _).2]
def rZ:FnScope ["_law_feed_here","_law_many","_law_digit","_law_one"] WF (ag qI):=%[|5]
def zZ(F:#["_law_take",qI]):#[1,f,fd,WF,spTake]:=by
 exists rZ
 erw[f,m,1,%[own,st,hf,o0,s0|s1],m0,m1,q]at h;refine⟨_,(aa (aF (af fO (aI ix_list (pv 0) ad #[1]) ad (ao _)) (aa #[ah,2,rZ,am bd (aI ix_list (pv 0) ad #[1]) (pv 1)]
  (aa (uz (am Cm (aI ix_list (pv 0) ad #[1]) (pv 1)) (xL (pv 0) ad qC))
  (ac (aj (pv 2))))) ax)
  (aa #[ah,3,rZ,am bd (am cG (aI ix_list (pv 0) ad #[1]) ad) ad]
  (aa (uz (am aR (am bd (am aR (am cG (pv 3) ad) ad) ad) ad) (xL (pv 0) ad qC))
  (ac (aj (am bd (am uD (am aR (am cG (pv 3) ad) (aI ix_list (pv 0) ad #[1])) ad) (pv 1))))))),?_⟩
 erw[0,f,_,(0),0,1,zG0 hf,1,2,0,6];apply uZ (λc=>?_) (λc=>?_)
 . erw[0,f,_,(0),0,1,zG0 hf,1,0,2,m0,6];erw[0,f,_,(0),0,1,zG0 hf,1,0,2,%[m0|m1],0,f,_,(0),(0),1,1,hf,1,6];erw[0,6];exact q _ _ (qA0 _ #[0]) (qH0 _ m0) ⟨_,_,bh,Int.ediv_nonneg o0 #[0],s0,s1⟩ (SameBut.upd _)
 . let a0:=qA0 (st*69621) (b:=2147483647) ⋯;let a1:=qH0 (st*69621) (b:=2147483647) ⋯;erw[0,f,_,(1),0,1,zG0 hf,1,2,.inr %[4|4],2,(by show(0:Int)<_;decide),6];erw[0,2,.inr %[4|4],2,2,(by show(0:Int)<_;decide),2,0,f,_,(1),(1),1,1,hf,1,6];let b0:=qA0 (st*69621 % 2147483647*48271+30103) (b:=2147483646) ⋯;let b1:=qH0 (st*69621 % 2147483647*48271+30103) (b:=2147483646) ⋯;erw[0,2,.inr %[4|4],0,f,_,(1),0,1,zG0 bh,1,2,2,%[4|4],0,2,m0,6];exact q _ _ (qA0 _ #[0]) (qH0 _ m0) ⟨_,_,bh,o0,#[0],#[0]⟩ (SameBut.upd _)
def i4:FnScope ["_law_feed_here","_law_names_here","_law_room","_law_deep","_law_form","_law_more","_law_one","_law_word"] WV (ag mV):=%[|5]
def lf{a X Y B:Prop}[Decidable a](x:X)(h:¬ a->X->B):if decide a=true then(if true=true then X else Y)else B:=by
 by_cases c:a
 . rw[zD1 c];exact ee (ee x)
 . rw[zE1 c];exact cV (h c x)
def zC{n:Nat}(F:#["_law_tree",mV])(hlen:mg "len"=none)(a7:#[1,"_law_take",WF,spTake])
 (f9:#[n+2,"_law_tree",WV,spTree n]):#[n+3,f,fd,WV,spTree (n+1)]:=by
 exists i4
 erw[f,a,room,deep,ns,1,hF,hN,nl,r1,r100,d1,dn,q]at h;refine⟨_,(aa #[ah,4,i4,ai a7 hr (zJ1 (zT0 _)) rfl %[0,ad|bc]]
  (aa (aF (PW.pt (eF (af dM (pv 2) ad (ao _)) (eF (af dM (pv 3) ad (ao _)) (dZ (af aN (pv 4) ad (ao _)))))) (aa (aF (PW.pt (eF (af aN (am bd (pv 4) ad) ad (ao _)) (dZ (af aN (aE aD rfl hlen zC1 %[1|bc]) ad (ao _))))) (ac (aj (aI ix_list (dq %[aM %[aq|bc],aM %[aq|bc]|bc]) (ai a7 hr (zJ1 (zT0 _)) rfl %[0,ad|bc]) #[1]))) ax)
   (ac (aj (aM %[aq,aI (ix_list.or aJ) (pv 1) (ai a7 hr (zJ1 (zT0 _)) rfl %[0,aE aD rfl hlen zC1 %[1|bc]|bc]) #[1]|bc])))) ax)
  (aa (aF (PW.pt (eF (af dM (pv 2) ad (ao _)) (dZ (af aN (pv 4) ad (ao _))))) (ac (aj (aM %[aq,ai f9 hr (zH0 _) rfl %[0,1,am bK (pv 2) ad,am bK (pv 3) ad|bc]|bc]))) ax)
  (aa #[ah,5,i4,am aR ad (ai a7 hr (zJ1 (zT0 _)) rfl %[0,am bK (pv 2) ad|bc])]
  (aa #[ah,6,i4,ai f9 hr (zH0 _) rfl %[0,1,5,am bK (pv 3) ad|bc]]
  (aa #[ah,7,i4,aI ix_list (dq %[aq,aq,aq,aq|bc]) (am bd (pv 4) ad) #[1]]
  (ac (aj (aM %[7,6,ai f9 hr (zH0 _) rfl %[0,1,am bK (am bK (pv 2) ad) (pv 5),am bK (pv 3) ad|bc]|bc]))))))))),?_⟩
 erw[0,f,(10),1,hF,4,4,λfm H1 f0 f10 F1 S1=>?_];let N1:=hN.feed hF S1;erw[0,2,0,6];apply lf ?leaf λc1 hX=>?_
 case leaf=>
  erw[0,2,(by show(0:Int)<_;decide),1,0,6];apply lf ?yn λc6 hY=>?_
  case yn=>
   erw[y1S,λp1 h1=>?_];erw[y1S,λp2 h2=>?_];erw[y2S,λl hl=>?_];let ga:=zC0 h1 (.tup [.str "yes"]);let gb:=zC0 h2 (.tup [.str "no"]);let gc:=zC0 hl (.lst [.ref p1,.ref p2]);let G:=ga.trans (gb.trans gc);let nlf:=(F1.same (ga.trans gb)).ne hl;erw[0,f,(2),1,F1.same G,4,4,λd H2 d0 d2 F2 S2=>?_];let y2:H2 p1=some (.tup [.str "yes"]):=aZ (F1.same G) S2 _ _ (gc _ _ (gb _ _ bh));let n2:H2 p2=some (.tup [.str "no"]):=aZ (F1.same G) S2 _ _ (gc _ _ bh);let l2:=S2 l _ nlf bh
   have:d=0∨d=1:=#[0]
   rcases this with rfl | rfl
   . erw[l,_,(0),0,1,zG0 l2,1,q (.ref p1) .yes H2 F2 (S1.trans ((zI0 G).trans S2)) (.yes y2) trivial (show(1:Int)<=room from r1) (show(1:Int)<=deep from d1)]
   . erw[l,_,(1),0,1,zG0 l2,1,q (.ref p2) .no H2 F2 (S1.trans ((zI0 G).trans S2)) (.no n2) trivial (show(1:Int)<=room from r1) (show(1:Int)<=deep from d1)]
  erw[0,a,0,N1.seq,1,0,6]
  by_cases c7:V.int ((ns.map V.str).length:Int)=V.int 0
  . exact aU c7 hY
  apply ay c7 ?_;let nz:0<ns.length:=by
   let z:¬ ((ns.map V.str).length:Int)=0:=λz=>c7 (congrArg V.int z)
   rw[zF0]at z;omega
  erw[0,0,0,a,0,N1.seq,f,0,F1,(show(0:Int)<((ns.map V.str).length:Int) by rw[zF0];omega),by rw[zF0];omega,λd H2 d0 d9 F2 S2=>?_];let%[v,hv|vm]:=pJ (l:=ns.map V.str) (i:=d) d0 d9;let%[x,hx|1]:=List.mem_map.mp vm;refine(N1.feed F1 S2).ix hv ?_;erw[y2S,λp hp=>?_];let G:=zC0 hp (.tup [.str "is",.str x]);exact q (.ref p) (.is x) _ (F2.same G) (S1.trans (S2.trans (zI0 G))) (.is bh) hx (show(1:Int)<=room from r1) (show(1:Int)<=deep from d1)
 erw[0,2,0,6]
 by_cases c2:deep<2
 . exact aU c2 (ee hX)
 apply ay c2 ?_;erw[0,1,0,6]
 by_cases c3:V.int fm=V.int 9
 . exact aU c3 hX
 apply ay c3 ?_;erw[0,2,0,6];let d2:2<=deep:=#[0]
 let dd:1<=deep-1:=#[0]
 let ddn:deep-1+1<=(n:Int)+1:=#[0]
 apply lf ?nt λc4 hN=>?_
 case nt=>
  erw[0,0,0,2,0,2,f,a,_,_,ns,1,F1,N1,nl,(show 1<=room-1 by omega),3,dd,ddn,λv1 t1 H3 F3 S3 T1 o1 z1 p1=>?_];erw[y2S,λp hp=>?_];let G5:=zC0 hp (.tup [.str "not",v1]);apply q (.ref p) (.not t1) _ (F3.same G5) (S1.trans (S3.trans (zI0 G5))) (.not bh (T1.mono (bp G5))) o1 ?_ ?_
  . show((t1.size+1:Nat):Int)<=room;omega
  . show((t1.depth+1:Nat):Int)<=deep;omega
 erw[0,1,0,6]
 by_cases c5:V.int fm=V.int 8
 . exact aU c5 hN
 apply ay c5 ?_;erw[0,0,2,f,0,F1,(show(0:Int)<room-2 by omega),(show room-2<2 ^ 63 by omega),λe H2 e0 e1 F2 S2=>?_];erw[2,6];let N2:=N1.feed F1 S2;erw[0,0,0,0,2,f,a,_,_,ns,1,F2,N2,nl,3,3,dd,ddn,λv1 t1 H3 F3 S3 T1 o1 z1 p1=>?_];let N3:=N2.feed F2 S3;erw[y4S,λl hl=>?_];let%[wd,hw|wm]:=pJ (l:=joinW.map V.str) (i:=fm % 4) #[0] (by
  have:(joinW.map V.str).length=4:=by rfl
  omega)
 let%[x,hx|1]:=List.mem_map.mp wm;erw[0,2,(by show(0:Int)<_;decide),l,_,2,zG0 bh,hw,6];let G:=zC0 hl (.lst [.str "and",.str "or",.str "odd",.str "same"]);erw[0,0,0,0,0,2,0,2,0,2,f,a,_,_,ns,1,F3.same G,N3.same G,nl,(show 1<=room-1-(1+e) by omega),3,dd,ddn,λv2 t2 H4 F4 S4 T2 o2 z2 p2=>?_];erw[y3S,λp hp=>?_];let G5:=zC0 hp (.tup [.str x,v1,v2]);let T1':TreeAt H4 v1 t1:=(T1.mono (bp G)).mono (aZ (F3.same G) S4);apply q (.ref p) (.bin x t1 t2) _ (F4.same G5) (S1.trans (S2.trans (S3.trans ((zI0 G).trans (S4.trans (zI0 G5)))))) (.bin bh (T1'.mono (bp G5)) (T2.mono (bp G5))) %[hx,o1|o2] ?_ ?_
 . show((t1.size+t2.size+1:Nat):Int)<=room;omega
 . show((max t1.depth t2.depth+1:Nat):Int)<=deep;omega
def zB:#[2,f,fd,WV,spTree 0]:=by
 let no:∀vs H Q E,¬ spTree 0 vs H Q E:=λvs H Q E h=>by
  erw[f,a,room,deep,ns,_,_,_,_,_,_,h1,h2,_]at h;omega
 exists 3
def sV(F:#["_law_tree",mV])(hlen:mg "len"=none)(m:mg "_law_tree"=some (.ref f))(a7:#[1,"_law_take",WF,spTake]):
 ∀n:Nat,#[n+2,f,fd,WV,spTree n]
 |0=>zB
 |n+1=>zC F hlen a7 (Cal.of F (sV F hlen m a7 n) m (λ_ _ _ _ _ _ us hl=>by let%[u0,u1,u2,u3|1]:=Fn hl;rfl))
def Hn:Stmt->List Stmt
 |.If _ b _ _=>b
 |_=>[]
def Hm:Stmt->Expr
 |.If c _ _ _=>c
 |_=>.Constant .none 0 %[(0),(0),(0)|(0)]
def Bh:Stmt->Expr
 |.Assign _ v _=>v
 |.Return (some v) _=>v
 |_=>.Constant .none 0 %[(0),(0),(0)|(0)]
def yw:Expr->List Expr
 |.List es _=>es
 |.BinOp _ _ (.List es _) _=>es
 |.Subscript (.List es _) _ _=>es
 |_=>[]
abbrev stm(s:Stmt)(i:Nat):Stmt:=(gI s).getD i (.Pass %[(0),(0),(0)|(0)])
abbrev ED(s:Stmt)(i j:Nat):Stmt:=(Hn (stm s i)).getD j (.Pass %[(0),(0),(0)|(0)])
def wordsA:List Str:=["is","set","say","if","go","end","num","box","op","field","holds","claims"]
def wordsB:List Str:=["nota","nob","yesx","andy","ors","oddly"]
def wordsC:List Str:=["samey","rounds","dues","coins","truex","asks"]
@[irreducible] def yc:List Expr:=yw (Bh (ED cu 6 0))
@[irreducible] def yb:List Expr:=yw (Bh (ED cu 6 1))
@[irreducible] def ya:List Expr:=yw (Bh (ED cu 6 2))
def CW:Consts yc wordsA:=by
 unfold yc;exact .cons (.cons (.cons (.cons (.cons (.cons (.cons (.cons (.cons (.cons (.cons (.cons .nil)))))))))))
def CV:Consts yb wordsB:=by
 unfold yb;exact .cons (.cons (.cons (.cons (.cons (.cons .nil)))))
def CU:Consts ya wordsC:=by
 unfold ya;exact .cons (.cons (.cons (.cons (.cons (.cons .nil)))))
def xZ:∃p1 p2 p3 p4 p5 p6 p7 p8 p9 q1 q2 q3 q4 q5,gI cu=[stm cu 0,stm cu 1,stm cu 2,stm cu 3,stm cu 4,stm cu 5,
 .If (Hm (stm cu 6)) [.Assign [.Name "_law_words" p1] (.List yc p2) p3,.Assign [.Name "_law_words" p4] (.BinOp (.Name "_law_words" p5) .Add (.List yb p6) p7) p8,.Assign [.Name "_law_words" p9] (.BinOp (.Name "_law_words" q1) .Add (.List ya q2) q3) q4,ED cu 6 3] [] q5,stm cu 7]:=
 %[_,_,_,_,_,_,_,_,_,_,_,_,_,_|by rfl']
def LTR:Str:="bcdfghjklmnpqrstvwxz"
def Hd:∀c∈LTR.cps.toList,c≠97:=by decide
def yi:∀c∈LTR.cps.toList,97<=c/\c<=122:=by decide
def kept:List Str:=["yes","no","not","and","or","odd","same","round","due","asked","true","coin"]
def NmK(x:Str):Prop:=Ec x/\1<=x.length/\x.length<=6/\x∉kept
def zt:∀x∈(wordsA++wordsB)++wordsC,(x.length<=20/\(∀c∈x.cps.toList,97<=c/\c<=122)/\x≠"aa")/\1<=x.length/\x.length<=6/\x∉kept:=by decide
def Bb(x:Str)(h:x∈(wordsA++wordsB)++wordsC):NmK x:=zt x h
def Dp:∀x∈kept,∃c∈x.cps.toList,c∉LTR.cps.toList:=by decide
instance spNamesN:∀(f:Addr)(m:Int),vs=[.ref f,.int m]->FeedAt H f->0<=m->m<=6->(∀(l:Addr)(ns:List Str)(H':Hp),H l=none->l≠f->H' l=some (.lst (ns.map V.str))->ns.length=m.toNat->(∀x∈ns,NmK x)->ns.Nodup->FeedAt H' f->SameBut f H H'->Q (.ref l) H'):=1
def zr:∀x∈(wordsA++wordsB)++wordsC,∃c∈x.cps.toList,c∉LTR.cps.toList:=by decide
def Fk:∀a b:Fin 20,LTR.cps.toList[a.val]?=LTR.cps.toList[b.val]?->a=b:=by decide
def CT{ns:List Str}{t:Nat}{u:Int}(u0:0<=u)(u20:u<20)(hl:ns.length<=6)(h:∀(k:Nat) x,ns[k]?=some x->x.cps.toList[t]?=LTR.cps.toList[((u+7*(k:Int)) % 20).toNat]?):ns.Nodup:=by
 apply List.pairwise_iff_getElem.mpr λi j hi hj ij e=>?_
 let h1:=h i _ (zO0 hi);let h2:=h j _ (zO0 hj);rw[e]at h1;let h3:=h1.symm.trans h2;let h4:=Fk %[((u+7*(i:Int)) % 20).toNat|3] ⟨((u+7*(j:Int)) % 20).toNat,#[0]⟩ h3;let h5:=congrArg Fin.val h4;simp only at h5;omega
def Hb{ns:List Str}{x:Str}{j:Nat}(h:ns.Nodup)(hx:x∉ns):(ns.set j x).Nodup:=by
 apply List.pairwise_iff_getElem.mpr λa b ha hb ab=>?_
 rw[List.length_set]at ha hb;rw[List.getElem_set,List.getElem_set]
 split
 . split
   . omega
   . intro e;exact hx (e▸qO0 hb)
 . split
   . intro e;exact hx (e▸qO0 ha)
   . exact List.pairwise_iff_getElem.mp h a b ha hb ab
def HR{α:Type}{l:List α}{i:Int}{v:α}(h0:0<=i)(h:atI l i=some v):l[i.toNat]?=some v:=by
 let ek:((i.toNat:Nat):Int)=i:=#[0]
 by_cases c:i.toNat<l.length
 . let q:atI l ((i.toNat:Nat):Int)=some l[i.toNat]:=cK (zO0 c);rw[ek,h]at q;rw[zO0 c];exact q.symm
 . exfalso
   unfold atI ixN at h;rw[Mt h0,Mq #[0]]at h;cases h
def Bt{zs:List Str}(h:∀z∈zs,z.length=1/\∀c∈z.cps.toList,c∈LTR.cps.toList):(zs.map (·.length)).sum=zs.length:=by
 induction zs with
 |nil=>rfl
 |cons a r ih=>
   rw[zY0,zV1,ih λz hz=>h z (qK0 _ hz),(h a qB0).1,zM0];omega
def b9:FnScope ["_law_feed_here","_law_many","_law_letters","_law_common","_law_at","_law_first","_law_found","_law_k","_law_tail","_law_sign","_law_words"] WF (ag cu):=%[|5]
def nZ{p:Addr}(F:FeedAt H f)(h:p≠f):FeedAt (upd H p o) f:=by
 erw[x,t,e,r]at F;erw[x,t,by rw[aB (Ne.symm h)];exact e,r]
def xR(F:#["_law_names",cu])(hrange:mg "range"=none)(a7:#[1,"_law_take",WF,spTake]):#[2,f,fd,WF,spNamesN]:=by
 exists b9
 erw[f,m,1,hF,m0,m6,q]at h;erw[p1,p2,p3,p4,p5,p6,p7,p8,p9,q1,q2,q3,q4,q5,ebody]at xZ;rw[ebody];refine⟨_,(aa (ah (i:=2) b9.nd rfl (Or.inr rfl) aq)
  (aa (ah (i:=3) b9.nd rfl (.inl rfl) (cA zH1 zQ1 zR1 eV aq (ae (cJ (N:=["_law_letters","_law_feed_here"]) (ix:=[2,0]) rfl
   #[4] rfl
   (cI rfl hrange %[ad|bc])
   (λ_ _ _=>du (aI uX (pv 1) (ai a7 hr ⋯ rfl %[2,ad|bc]) #[1]))) bc)))
  (aa #[ah,4,b9,ai a7 hr ⋯ rfl %[0,ad|bc]]
  (aa #[ah,5,b9,ai a7 hr ⋯ rfl %[0,ad|bc]]
  (aa #[ah,6,b9,dq bc]
  (aa (cQ zG1 rfl (cI rfl hrange %[1|bc]) (bt (i:=7) b9.nd rfl (.inl rfl)) (aa #[ah,8,b9,am bd (ai a7 hr ⋯ rfl %[0,am bK ad (pv 4)|bc]) ad]
   (aa #[ah,9,b9,aI uX (pv 2) (am bd (am aR (pv 5) (am cG ad (pv 7))) ad) #[1]]
   (ac (aQ (cA zF1 zL1 zM1 cx (pv 6) %[am iG (am iG (dL qz (pv 3) gG (dQ (pv 4))) (pv 9)) (dL qz (pv 3) (dQ (pv 4)) (dQ (am aR (pv 4) (pv 8))))|bc]))))))
  (aa (aF (PW.pt (oF (af fO (pv 1) ad (ao _)) (ng (af aN (ai a7 hr ⋯ rfl %[0,ad|bc]) ad (ao _))))) (aa #[ah,10,b9,dq (lp CW)]
   (aa #[ah,10,b9,am jg (pv 10) (dq (lp CV))]
   (aa #[ah,10,b9,am jg (pv 10) (dq (lp CU))]
   (ac (uz (aI ix_list (pv 10) (ai a7 hr ⋯ rfl %[0,ad|bc]) #[1]) (xL (pv 6) (ai a7 hr ⋯ rfl %[0,1|bc]) qC)))))) ax)
  (ac (aj (pv 6)))))))))),?_⟩
 erw[1,(5),1,4,4,λD hD=>?_];let Df:=hF.ne hD;let L20:LTR.cps.toList.length=20:=by decide
 apply gn (λi H'=>∃zs:List Str,H' D=some (.lst (zs.map V.str))/\zs.length=i/\(∀z∈zs,z.length=1/\∀c∈z.cps.toList,c∈LTR.cps.toList)/\FeedAt H' f/\SameBut f H H') %[[],by rw[bh];rfl,1,by simp,hF.same (zC0 hD _)|zI0 (zC0 hD _)] ?_ ?_
 . rintro i H3 hi ⟨zs,hl,zl,z1,F3,S3⟩;let i5:i<5:=hi;erw[0,0,f,(20),1,F3,4,4,λd H4 d0 d26 F4 S4=>?_];let%[c,hc|hm]:=pJ (l:=LTR.cps.toList) (i:=d) d0 (by rw[L20];exact d26);let hD4:H4 D=some (.lst (zs.map V.str)):=S4 D _ Df hl;erw[_,d,c,1,1,aV ⋯,hc,_,hD4,6,Nx.of hi %[zs++[⟨#[c]⟩],6,6,6,nZ F4 Df|6]]
   . rw[zF0,zl];exact aO (wB1 (Nat.lt_trans i5 ⋯))
   . rw[bh,zL0];rfl
   . rw[zK0,qL0,zl]
   . intro z hz;rcases qG0 hz with h | h
     . exact z1 z h
     . rw [zR0 h];erw[1,λc' hc'=>?_]
       have:c'=c:=#[hc',0]
       subst this;exact hm
   . intro b o hb e;rw[aB (bi e hD)];exact S4 b o hb (S3 b o hb e)
 rintro H3 ⟨zs,hl,zl,z1,F3,S3⟩;let sl:=Bt z1;let zl5:zs.length=5:=zl;erw[_,D,zs,1,1,zG0 hl,⋯,3,6];let jl:(Txt.join "" zs).length=5:=by
  have:=size_glued "" zs
  let e0:(("":Str)).length=0:=by decide
  rw[e0,Nat.mul_zero]at this;show(Builtin.Str.glued "" zs).length=5;omega
 let jc:∀c∈(Txt.join "" zs).cps.toList,c∈LTR.cps.toList:=λc hc=>by
  let%[z,hz|h]:=As hc;exact(z1 z hz).2 c h
 generalize Txt.join "" zs=cm at jl jc;erw[0,f,(6),1,F3,4,4,λt H4 t0 t6 F4 S4=>?_];erw[0,f,(20),1,F4,4,4,λu H5 u0 u20 F5 S5=>?_];erw[y0S,λL hL=>?_];let S05:SameBut f H H5:=S3.trans (S4.trans S5);let Lf:=F5.ne hL;let L0:H L=none:=by
  cases e:H L with
  |none=>rfl
  |some o=>rw[S05 L o Lf e]at hL;cases hL
 refine⟨_,rfl,m,rfl,#[0],#[0],dG (λi σ H'=>∃(x7 x8 x9:Option V)(ns:List Str),σ=[some (.ref f),some (.int m),some (.str LTR),some (.str cm),some (.int t),some (.int u),some (.ref L),x7,x8,x9,none]/\H' L=some (.lst (ns.map V.str))/\ns.length=i/\(∀x∈ns,NmK x)/\(∀x∈ns,∀c∈x.cps.toList,c∈LTR.cps.toList)/\(∀(k:Nat) x,ns[k]?=some x->x.cps.toList[t.toNat]?=LTR.cps.toList[((u+7*(k:Int)) % 20).toNat]?)/\FeedAt H' f/\SameBut f H H')
  %[_,_,_,[],1,by rw[bh];rfl,1,by simp,by simp,by simp,F5.same (zC0 hL _)|S05.trans (zI0 (zC0 hL _))] ?_ ?_⟩
 . rintro i σ H6 hi ⟨x7,x8,x9,ns,rfl,hns,nl,nok,nlt,nat,F6,S6⟩;erw[0,0,2,f,0,F6,(Int.sub_pos_of_lt t6),(Int.lt_of_le_of_lt (Int.sub_le_self 6 t0) ⋯),λd H7 d0 d1 F7 S7=>?_];erw[2,(by show(0:Int)<_;decide),6];let%[c,hc|hm]:=pJ (l:=LTR.cps.toList) (i:=(u+7*(0+(i:Int))) % 20) (qA0 _ ⋯) (by rw[L20];exact qH0 _ ⋯);erw[0,0,0,2,6,2,2,(by show(0:Int)<_;decide),_,_,c,1,1,aV ⋯,hc,6]
   . exact .inl %[4|4]
   let hL7:=S7 L _ Lf hns;let z1:(Txt.slice cm none (some t)).length<=cm.length:=jQ1 cm none (some t);let z2:(Txt.slice cm (some t) (some (t+d % 3))).length<=cm.length:=jQ1 cm _ _;let z3:((%[|#[c]]:Str)).length=1:=rfl;erw[0,.inl %[1,_|zG0 hL7],6];erw[0,0,0,0,aV (by rw[jl];decide),0,2,aV (by rw[z3];omega),6];erw[0,0,0,0,0,2,0,0,aV (by rw[jl];decide),2,aV (by rw[zB1,z3];omega),6];erw[L,2,hL7,6,6]
   . rw[zF0];exact aO #[0]
   erw[_,_,_,ns++[(Txt.slice cm none (some t)++%[|#[c]])++Txt.slice cm (some t) (some (t+d % 3))],1,6,6,6,6,6,nZ F7 Lf,6]
   . rw[bh,zL0];rfl
   . rw[zK0,qL0,nl]
   . intro x hx;rcases qG0 hx with h | h
     . exact nok x h
     . rw [zR0 h];let old:Ec ((Txt.slice cm none (some t)++%[|#[c]])++Txt.slice cm (some t) (some (t+d % 3))):=by
        erw[6,λc' hc'=>?_,λea=>?_]
        . rw[zB1,zB1,z3];omega
        rotate_left
        . let cm1:c∈(((Txt.slice cm none (some t)++%[|#[c]])++Txt.slice cm (some t) (some (t+d % 3)):Str)).cps.toList:=by
           rw[jC0,jC0]
           simp
          rw[ea]at cm1;exact Hd c hm ((by decide:∀c∈(("aa":Str)).cps.toList,c=97) c cm1)
        . rcases mem_append hc' with h | h
          . rcases mem_append h with h | h
            . exact yi _ (jc _ (il h))
            . have:c'=c:=#[h,0]
              subst this;exact yi _ hm
          . exact yi _ (jc _ (il h))
       let cl:cm.cps.toList.length=5:=jl;let e1:(Txt.slice cm none (some t)).length=t.toNat:=by
        let es:Txt.slice cm none (some t)=%[|((cm.cps.toList.drop 0).take (t-0).toNat).toArray]:=StrLaws.sliceText_to ⟨t0,#[0]⟩;rw[es];show(((cm.cps.toList.drop 0).take (t-0).toNat).toArray).size=_;simp only[qO1,Int.sub_zero,zP0,qE0];omega
       let e2:(Txt.slice cm (some t) (some (t+d % 3))).length<=(d % 3).toNat:=by
        let es:Txt.slice cm (some t) (some (t+d % 3))=_:=StrLaws.sliceText_plain %[t0,3|3];rw[es];show(List.toArray _).size<=_;simp only[zP0,qE0];omega
       erw[old,6,6,λhk=>?_]
       . rw[zB1,zB1,z3];omega
       . rw[zB1,zB1,z3];omega
       . let%[c',hc'|hn]:=Dp _ hk;apply hn ?_;rcases mem_append hc' with h | h
         . rcases mem_append h with h | h
           . exact jc _ (il h)
           . have:c'=c:=#[h,0]
             subst this;exact hm
         . exact jc _ (il h)
   . intro x hx c' hc';rcases qG0 hx with h | h
     . exact nlt x h c' hc'
     . rw [zR0 h]at hc';rcases mem_append hc' with h | h
       . rcases mem_append h with h | h
         . exact jc _ (il h)
         . have:c'=c:=#[h,0]
           subst this;exact hm
       . exact jc _ (il h)
   . intro k x hx
     by_cases ck:k<ns.length
     . rw[zP1 ck]at hx;exact nat k x hx
     . let kl:k<(ns++[(Txt.slice cm none (some t)++%[|#[c]])++Txt.slice cm (some t) (some (t+d % 3))]).length:=(zW0 hx).1;rw[zK0,qL0]at kl;let ek:k=i:=#[0]
       subst ek;rw[zN1 #[0],nl,Nat.sub_self]at hx;let ex:(Txt.slice cm none (some t)++%[|#[c]])++Txt.slice cm (some t) (some (t+d % 3))=x:=zV0 hx;rw[←ex];let cl:cm.cps.toList.length=5:=jl;let es:Txt.slice cm none (some t)=⟨((cm.cps.toList.drop 0).take (t-0).toNat).toArray⟩:=StrLaws.sliceText_to ⟨t0,#[0]⟩;let el:(Txt.slice cm none (some t)).cps.toList.length=t.toNat:=by
        rw[es];simp only[qO1,Int.sub_zero,qE0];omega
       let ea:((Txt.slice cm none (some t)++%[|#[c]])++Txt.slice cm (some t) (some (t+d % 3))).cps.toList=(Txt.slice cm none (some t)).cps.toList++([c]++(Txt.slice cm (some t) (some (t+d % 3))).cps.toList):=by
        rw[jC0,jC0]
        simp
       rw[ea,zN1 #[0],el,Nat.sub_self];let hc2:LTR.cps.toList[((u+7*(0+(k:Int))) % 20).toNat]?=some c:=HR (qA0 _ ⋯) hc;rw[jI1]at hc2;rw[hc2];rfl
   . intro b o hb e;rw[aB (bi e L0)];exact S7 b o hb (S6 b o hb e)
 . rintro σ H6 ⟨x7,x8,x9,ns,rfl,hns,nl,nok,nlt,nat,F6,S6⟩;let nnd:ns.Nodup:=CT u0 u20 #[0] nat;erw[0,2,0,6];let fin:∀H':Hp,∀ns:List Str,H' L=some (.lst (ns.map V.str))->ns.length=m.toNat->(∀x∈ns,NmK x)->ns.Nodup->FeedAt H' f->SameBut f H H'->Q (.ref L) H':=λH' ns a b c nd d e=>q L ns H' L0 Lf a b c nd d e
   by_cases c1:(0:Int)<m
   . apply aU c1 ?_;erw[0,f,(3),1,F6,4,4,λd H7 d0 d1 F7 S7=>?_];erw[1,0,6];let hL7:=S7 L _ Lf hns;apply uZ (λ_=>?_) (λ_=>?_)
     . erw[y12S,λl1 h1=>?_];erw[0,y6S,λl2 h2=>?_];erw[l1,l2,wordsA.map V.str,wordsB.map V.str,1,1,zC0 h2 _ _ _ bh,bh,y18S,λl3 h3=>?_];erw[0,y6S,λl4 h4=>?_];erw[l3,l4,wordsA.map V.str++wordsB.map V.str,wordsC.map V.str,1,1,zC0 h4 _ _ _ bh,bh,y24S,λl5 h5=>?_];let G:=(zC0 h1 (.lst (wordsA.map V.str))).trans ((zC0 h2 (.lst (wordsB.map V.str))).trans ((zC0 h3 (.lst (wordsA.map V.str++wordsB.map V.str))).trans ((zC0 h4 (.lst (wordsC.map V.str))).trans (zC0 h5 (.lst ((wordsA.map V.str++wordsB.map V.str)++wordsC.map V.str))))));let F8:=F7.same G;let n5:=(F7.same ((zC0 h1 (.lst (wordsA.map V.str))).trans ((zC0 h2 (.lst (wordsB.map V.str))).trans ((zC0 h3 (.lst (wordsA.map V.str++wordsB.map V.str))).trans (zC0 h4 (.lst (wordsC.map V.str))))))).ne h5;erw[0,0,f,(24),1,F8,4,4,λe H9 e0 e1 F9 S9=>?_];let%[v,hv|vm]:=pJ (l:=(wordsA.map V.str++wordsB.map V.str)++wordsC.map V.str) (i:=e) e0 (by
        have:((wordsA.map V.str++wordsB.map V.str)++wordsC.map V.str).length=24:=by rfl
        omega)
       rw[←zL0,←zL0]at vm;let%[x,hx|1]:=List.mem_map.mp vm;erw[l5,_,e,0,1,zG0 (S9 l5 _ n5 bh),hv,6];erw[0,0,0,f,m,1,F9,c1,3,λj H10 j0 j1 F10 S10=>?_];let hL10:=S10 L _ Lf (S9 L _ Lf (G L _ hL7));erw[L,_,j,j.toNat,1,1,hL10,6,6]
       . let jl:j<((ns.map V.str).length:Int):=by rw[zF0];omega
         unfold ixN;rw[Mt j0,Mt jl]
       erw[0,6];apply fin _ (ns.set j.toNat x) (by rw[bh,List.map_set]) (by rw[List.length_set];exact nl) ?_ ?_ (nZ F10 Lf) ?_
       . intro y hy;rcases List.mem_or_eq_of_mem_set hy with h | h
         . exact nok y h
         . rw[h];exact Bb x hx
       . apply Hb nnd λhm=>?_
         let%[c,c1|c2]:=zr x hx;exact c2 (nlt x hm c c1)
       . intro b o hb e';rw[aB (bi e' L0)];exact S10 b o hb (S9 b o hb (G b o (S7 b o hb (S6 b o hb e'))))
     . erw[0,6];exact fin H7 ns hL7 nl nok nnd F7 (S6.trans S7)
   . apply ay c1 ?_;apply cV ?_;erw[0,6];exact fin H6 ns hns nl nok nnd F6 S6
def lj{x:Str}:∀{ns:List Str},x∈ns->∃j,hE x ns=some j/\j<ns.length
 | [],h=>by cases h
 |a::r,h=>by
   unfold hE
   by_cases c:a=x
   . erw[(0),by rw[Mt c],by simp]
   . rw [Mq c];rcases zS0 h with e | e
     . exact absurd e.symm c
     . let%[j,h1|h2]:=lj e;erw[j+1,by rw[h1];rfl,by simpa using h2]
def gx{a b:Str}(h:V.str a=V.str b):a=b:=by injection h
def jw(p:Int)(o:Str)(x y:Int):Int:=if o="and" then x*y % p else if o="or" then(x+y-x*y) % p else if o="odd" then(x+y-2*(x*y)) % p else(1-(x+y-2*(x*y))) % p
def Tr.worth(ns:List Str)(pt:List Int)(p:Int):Tr->Int
 |.is x=>match hE x ns with | some j=>pt.getD j 0 | none=>0
 |.yes=>1
 |.no=>0
 |.not a=>(1-a.worth ns pt p) % p
 |.bin o a b=>jw p o (a.worth ns pt p) (b.worth ns pt p)
def cR(pt:List Int)(p:Int):Prop:=∀x∈pt,0<=x/\x<p
def AA{p:Int}(hp:0<p)(o:Str)(x y:Int):0<=jw p o x y/\jw p o x y<p:=by
 let key:∀z:Int,0<=z % p/\z % p<p:=λz=>%[qA0 _ #[0]|qH0 _ hp]
 unfold jw
 repeat' split
 all_goals exact key _
def wF{l:List Int}{j:Nat}(h:j<l.length):l.getD j 0=l[j]:=by
 rw[qT0,zO0 h];rfl
def worth_rng{ns:List Str}{p:Int}(hp:1<p)(h:cR pt p)(hl:pt.length=ns.length):∀t:Tr,t.ok ns->0<=t.worth ns pt p/\t.worth ns pt p<p
 |.is x,ok=>by
   let%[j,hj|jl]:=lj ok;show 0<=(match hE x ns with | some j=>pt.getD j 0 | none=>0)/\(match hE x ns with | some j=>pt.getD j 0 | none=>0)<p;rw[hj];show 0<=pt.getD j 0/\pt.getD j 0<p;rw[wF #[0]];exact h _ (qO0 _)
 |.yes,_=>%[by show(0:Int)<=1;decide|hp]
 |.no,_=>%[qC1 0|by show(0:Int)<p;omega]
 |.not a,_=>%[qA0 _ #[0]|qH0 _ #[0]]
 |.bin o a b,_=>AA #[0] _ _ _
instance spJW:∀(o:Str)(x y p:Int),vs=[.str o,.int x,.int y,.int p]->0<=x->x<p->p<2 ^ 40->Q (.int (jw p o x y)) H:=1
def gZ:FnScope ["word","first","second","p","both","odd"] Wl (ag iB):=%[|5]
def pR(F:#["joined_worth",iB]):#[1,f,fd,Wl,spJW]:=by
 exists gZ
 erw[o,x,y,p,1,x0,xp,pb,k]at h;refine⟨_,(aa #[ah,4,gZ,am cG (pv 1) (pv 2)]
  (aa (aF (af aN (pv 0) aq (ao _)) (ac (aj (am bd (pv 4) (pv 3)))) ax)
  (aa (aF (af aN (pv 0) aq (ao _)) (ac (aj (am bd (am bK (am aR (pv 1) (pv 2)) (pv 4)) (pv 3)))) ax)
  (aa #[ah,5,gZ,am bK (am aR (pv 1) (pv 2)) (am cG ad (pv 4))]
  (aa (aF (af aN (pv 0) aq (ao _)) (ac (aj (am bd (pv 5) (pv 3)))) ax)
  (ac (aj (am bd (am bK ad (pv 5)) (pv 3))))))))),?_⟩
 erw[0,0,2,.inl %[3|3],6];erw[0,1,0,6]
 by_cases c1:V.str o=V.str "and"
 . apply aU c1 ?_;let e:jw p o x y=x*y % p:=by unfold jw;rw[Mt (gx c1)]
   rw[e]at k;erw[0,0,2,(show(0:Int)<p by omega),k]
 apply ay c1 ?_;let n1:¬ o="and":=λz=>c1 (by rw[z])
 erw[0,1,0,6]
 by_cases c2:V.str o=V.str "or"
 . apply aU c2 ?_;let e:jw p o x y=(x+y-x*y) % p:=by unfold jw;rw[Mq n1,Mt (gx c2)]
   rw[e]at k;erw[0,0,2,0,2,0,2,(show(0:Int)<p by omega),k]
 apply ay c2 ?_;let n2:¬ o="or":=λz=>c2 (by rw[z])
 erw[0,0,2,0,2,.inl %[4|4],2,6];erw[0,1,0,6]
 by_cases c3:V.str o=V.str "odd"
 . apply aU c3 ?_;let e:jw p o x y=(x+y-2*(x*y)) % p:=by unfold jw;rw[Mq n1,Mq n2,Mt (gx c3)]
   rw[e]at k;erw[0,0,2,(show(0:Int)<p by omega),k]
 apply ay c3 ?_;let n3:¬ o="odd":=λz=>c3 (by rw[z])
 let e:jw p o x y=(1-(x+y-2*(x*y))) % p:=by unfold jw;rw[Mq n1,Mq n2,Mq n3]
 rw[e]at k;erw[0,2,0,2,(show(0:Int)<p by omega),k]
instance spWorth(n:Nat):∀(v:V)(t:Tr)(a b:Addr)(ns:List Str)(pt:List Int)(p:Int),vs=[v,.ref a,.ref b,.int p]->TreeAt H v t->t.ok ns->t.depth<=n->NamesAt H a ns->H b=some (.tup (pt.map V.int))->pt.length=ns.length->1<p->p<2 ^ 40->cR pt p->Q (.int (t.worth ns pt p)) H:=1
def lA:FnScope ["tree","switches","point","p","word","first"] WW (ag jF):=%[|5]
def wX{n:Nat}(F:#["worth_of",jF])(dj:#[1,"joined_worth",Wl,spJW])(fL:#[n+2,"worth_of",WW,spWorth n]):#[n+3,f,fd,WW,spWorth (n+1)]:=by
 exists lA
 erw[v,t,a,b,ns,pt,p,1,T,ok,dn,hN,hb,sl,p1,p40,po,k]at h;let p0:(0:Int)<p:=#[0]
 refine⟨_,(aa #[ah,4,lA,aI aJ (pv 0) ad #[1]]
  (aa (aF (af aN (pv 4) aq (ao _)) (ac (aj (am bd (aI aJ (pv 2) (vP zF1 PySem.F.plainAttrs_tuple (pv 1) %[aI aJ (pv 0) ad #[1]|bc]) #[1]) (pv 3)))) ax)
  (aa (aF (af aN (pv 4) aq (ao _)) (ac (aj ad)) ax)
  (aa (aF (af aN (pv 4) aq (ao _)) (ac (aj ad)) ax)
  (aa #[ah,5,lA,ai fL hr (zH0 _) rfl %[aI aJ (pv 0) ad #[1],1,2,3|bc]]
  (aa (aF (af aN (pv 4) aq (ao _)) (ac (aj (am bd (am bK ad (pv 5)) (pv 3)))) ax)
  (ac (aj (ai dj hr #[0] rfl %[4,5,ai fL hr (zH0 _) rfl %[aI aJ (pv 0) ad #[1],1,2,3|bc],3|bc]))))))))),?_⟩
 cases T with
 | @is q x e=>
   erw[0,q,_,(0),0,1,zB0 e,1,6];erw[0,1,0,6];apply aU rfl ?_;let%[j,hj|jl]:=lj ok;let jl':j<pt.length:=#[0]
   erw[0,0,a,ns,1,hN,0,q,_,(1),0,1,zB0 e,1,1,x,j,1,hj,b,_,(j:Int),.int pt[j],1,1,zB0 hb,6,0,2,p0,6]
   . apply cK ?_;rw[zZ0,zO0 jl'];rfl
   . let e1:(Tr.is x).worth ns pt p=pt[j] % p:=by
      show(match hE x ns with | some j=>pt.getD j 0 | none=>0)=_;rw[hj];show pt.getD j 0=_;rw[wF jl']
      have:=po _ (qO0 jl')
      rw[qV0 this.1 this.2]
     rw[e1]at k;exact k
 | @yes q e=>
   erw[0,q,_,(0),0,1,zB0 e,1,6];erw[0,1,0,6];apply ay ⋯ ?_;erw[0,1,0,6];exact aU rfl k
 | @no q e=>
   erw[0,q,_,(0),0,1,zB0 e,1,6];erw[0,1,0,6];apply ay ⋯ ?_;erw[0,1,0,6];apply ay ⋯ ?_;erw[0,1,0,6];exact aU rfl k
 | @not q u r e T1=>
   let dp:r.depth+1<=n+1:=dn;erw[0,q,_,(0),0,1,zB0 e,1,6];erw[0,1,0,6];apply ay ⋯ ?_;erw[0,1,0,6];apply ay ⋯ ?_;erw[0,1,0,6];apply ay ⋯ ?_;erw[0,q,_,(1),0,1,zB0 e,1,0,0,0,u,r,a,b,ns,pt,p,1,T1,ok,3,hN,hb,sl,p1,p40,po,6];erw[0,1,0,6];apply aU rfl ?_;erw[0,2,0,2,p0,k]
 | @bin q o u u2 r r2 e T1 T2=>
   erw[ho,ok1,ok2]at ok;let dp:max r.depth r2.depth+1<=n+1:=dn;let ne:∀z:Str,z∉joinW->¬ V.str o=V.str z:=λz hz h=>hz (gx h▸ho)
   erw[0,q,_,(0),0,1,zB0 e,1,6];erw[0,1,0,6];apply ay (ne _ ⋯) ?_;erw[0,1,0,6];apply ay (ne _ ⋯) ?_;erw[0,1,0,6];apply ay (ne _ ⋯) ?_;erw[0,q,_,(1),0,1,zB0 e,1,0,0,0,u,r,a,b,ns,pt,p,1,T1,ok1,3,hN,hb,sl,p1,p40,po,6];erw[0,1,0,6];apply ay (ne _ ⋯) ?_;let wr:=worth_rng p1 po sl r ok1;erw[0,0,0,q,_,(2),0,1,zB0 e,1,0,0,0,u2,r2,a,b,ns,pt,p,1,T2,ok2,3,hN,hb,sl,p1,p40,po,6];erw[0,o,_,_,p,1,wr.1,wr.2,p40,k]
def wW:#[2,f,fd,WW,spWorth 0]:=by
 let no:∀vs H Q E,¬ spWorth 0 vs H Q E:=λvs H Q E h=>by
  erw[v,t,_,_,_,_,_,_,_,_,h1,_]at h
  have:=t.depth_pos
  omega
 exists 3
def pq(F:#["worth_of",jF])(m:mg "worth_of"=some (.ref f))(dj:#[1,"joined_worth",Wl,spJW]):
 ∀n:Nat,#[n+2,f,fd,WW,spWorth n]
 |0=>wW
 |n+1=>wX F dj (Cal.of F (pq F m dj n) m (λ_ _ _ _ _ _ us hl=>by let%[u0,u1,u2,u3|1]:=Fn hl;rfl))
def jv{H:Hp}{b:Addr}{ys zs:List V}(h:H b=some (.lst ys)):∀a xs,H a=some (.tup xs)->(upd H b (.lst zs)) a=some (.tup xs):=λa xs e=>by
 rw[aB]
 . exact e
 . intro z;rw[z,h]at e;cases e
def at0(x:V)(xs:List V):atI (x::xs) 0=some x:=cK (j:=0) rfl
def pC{ts:List Tr}{i:Nat}{u:Tr}(h:ts[i]?=some u):iH (ts.take (i+1))=iH (ts.take i)++u.names:=by
 unfold iH;rw[qJ0,h,zL0,List.flatten_append]
 simp
def rC(ts:List Tr):(iH ts).length<=jq ts:=by
 induction ts with
 |nil=>simp [iH,jq]
 |cons a r ih=>
   have:=a.names_len
   simp only[iH,jq,zY0,qP1,zK0,zV1]at ih ⊢;omega
def qA(ts:List Tr)(i:Nat):jq (ts.take i)<=jq ts:=by
 induction ts generalizing i with
 |nil=>simp
 |cons a r ih=>
   cases i with
   |zero=>simp [jq]
   |succ i=>
     have:=ih i
     simp only[jq,List.take_succ_cons,zY0,zV1]at this ⊢;omega
instance spNO(n:Nat):∀(v:V)(t:Tr),vs=[v]->TreeAt H v t->t.wf->t.depth<=n->t.size<=400->(∀(l:Addr)(H':Hp),H l=none->Same H H'->H' l=some (.lst (t.names.map V.str))->Q (.ref l) H'):=1
def f8:FnScope ["_law_tree_here","_law_found","_law_part"] WX (ag hV):=%[|5]
def Fg{n:Nat}(F:#["_law_names_of",hV])(fu:#[n+2,"_law_names_of",WX,spNO n]):#[n+3,f,fd,WX,spNO (n+1)]:=by
 exists f8
 erw[v,t,1,T,wf,dn,sz,q]at h;refine⟨_,(aa (aF (af aN (aI aJ (pv 0) ad #[1]) aq (ao _)) (ac (aj (dq %[aI aJ (pv 0) ad #[1]|bc]))) ax)
  (aa #[ah,1,f8,dq bc]
  (aa (cQ zG1 rfl (eR (dL tR (pv 0) (dQ ad) gG)) (bt (i:=2) f8.nd rfl (.inl rfl)) (ac #[ah,1,f8,am jg (pv 1) (ai fu hr (zH0 _) rfl %[2|bc])]))
  (ac (aj (pv 1)))))),?_⟩
 rcases T.view wf with⟨a,x,rfl,rfl,_,e⟩ | ⟨a,o,xs,rfl,no,xl0,e,TS0,nis⟩
 . erw[0,a,_,(0),0,1,zB0 e,1,1,0,6];apply aU rfl ?_;erw[0,a,_,(1),0,1,zB0 e,1,y1S,λp hp=>?_];exact q p _ hp (zC0 hp _) bh
 . erw[0,a,_,(0),.str o,1,1,zB0 e,at0 ..,1,0,6];apply ay (λz=>no (by injection z)) ?_;erw[y0S,λL hL=>?_];let G0:=zC0 hL (.lst []);let%[c1|c2]:=cut1 (.str o) xs xl0;erw[0,(1),1,a,0,zB0 (G0 _ _ e),c2,λp hp=>?_];rw[c1];let G1:=zC0 hp (.tup xs);let hp1:upd (upd H L (.lst [])) p (.tup xs) p=some (.tup xs):=bh;let hL1:upd (upd H L (.lst [])) p (.tup xs) L=some (.lst []):=G1 _ _ bh;let S1:Same H (upd (upd H L (.lst [])) p (.tup xs)):=G0.trans G1;generalize upd (upd H L (.lst [])) p (.tup xs)=H1 at hp1 hL1 S1;let TS:=TS0.mono (bp S1);let xl:=TS.length;let sp:=t.size_parts;erw[p,1,%[_|zB0 hp1],nV (K:=K) (xs:=xs) (λi σ H'=>∃(M:Addr)(x2:Option V),σ=[some (.ref a),some (.ref M),x2]/\H M=none/\H' M=some (.lst ((iH (t.parts.take i)).map V.str))/\Same H1 H') %[L,0,hL,hL1|Same.refl _] (λi σ H' _ Mx=>by erw[_,_,_,_,_,h]at Mx;exact zB0 (h _ _ hp1)) ?_ ?_]
   . rintro i x σ H2 hx ⟨M,x2,rfl,M0,hM,S2⟩;let%[u,hu|Tu]:=TS.get hx;let um:=qI0 hu;let%[uw,ud|us]:=Tr.parts_mem um wf;erw[0,0,x,u,1,Tu.mono (bp S2),uw,3,3,λl H3 l0 S3 hl3=>?_];let nl:=u.names_len;let nl2:=rC (t.parts.take i);let nl3:=qA t.parts i;erw[M,l,2,S3 _ _ hM,hl3,6,λr hr0=>?_]
     . rw[zF0,zF0];exact aV #[0]
     . let S4:=(S2.trans S3).trans (zC0 hr0 (.lst ((iH (t.parts.take i)).map V.str++u.names.map V.str)));erw[r,0,(S1.trans (S2.trans S3)).free hr0,6,S4];rw[bh,pC hu,zL0]
   . rintro σ H2 ⟨M,x2,rfl,M0,hM,S2⟩;rw[xl,qF0,←t.names_parts nis]at hM;erw[0,q M H2 M0 (S1.trans S2) hM]
def Ff:#[2,f,fd,WX,spNO 0]:=by
 let no:∀vs H Q E,¬ spNO 0 vs H Q E:=λvs H Q E h=>by
  erw[v,t,_,_,_,h1,_]at h
  have:=t.depth_pos
  omega
 exists 3
def lF(F:#["_law_names_of",hV])(m:mg "_law_names_of"=some (.ref f)):
 ∀n:Nat,#[n+2,f,fd,WX,spNO n]
 |0=>Ff
 |n+1=>Fg F (Cal.of F (lF F m n) m (λ_ _ _ _ _ _ us hl=>by let%[u0|1]:=Aw hl;rfl))
def rV(ns:List Str)(z:Str):((ns.map V.str).countP λy=>eqV y (.str z))=ns.count z:=by
 rw[List.countP_map];rfl
instance spNeed:∀(a b:Addr)(ns:List Str)(tv:List V)(ts:List Tr),vs=[.ref a,.ref b]->H a=some (.lst (ns.map V.str))->H b=some (.tup tv)->TreesAt H tv ts->ts.length<=10->(∀t∈ts,t.wf/\t.depth<=10/\t.size<=400)->(∀(m:Int)(H':Hp),Same H H'->2<=m->m<=400->(ns=[]->ts.length<=4->m<=3)->(ts.length:Int)<=m+1->(∀t∈ts,∀x∈ns,(t.names.count x:Int)<=m)->Q (.int m) H'):=1
def gK:FnScope ["_law_names_here","_law_trees","_law_need_here","_law_tree_here","_law_found","_law_name"] Wv (ag qK):=%[|5]
def Ab(F:#["_law_need",qK])(hlen:mg "len"=none)(hmax:mg "max"=none)(fu:#[12,"_law_names_of",WX,spNO 10]):#[13,f,fd,Wv,spNeed]:=by
 exists gK
 erw[a,b,ns,tv,ts,1,ha,hb,TS,tl,tok,q]at h;refine⟨_,(aa #[ah,2,gK,aE (oV rfl) rfl hmax qY0 %[ad,am bK (aE aD rfl hlen zC1 %[1|bc]) ad|bc]]
  (aa (cQ zG1 rfl (eR (pv 1)) (bt (i:=3) gK.nd rfl (.inl rfl)) (aa #[ah,4,gK,ai fu hr ⋯ rfl %[3|bc]]
   (ac (cQ zG1 rfl (ia (pv 0)) (bt (i:=5) gK.nd rfl (.inl rfl)) (ac #[ah,2,gK,aE (oV rfl) rfl hmax qY0 %[2,cA zF1 PySem.F.slot_list_count PySem.F.type_list_count wn (pv 4) %[5|bc]|bc]])))))
  (ac (aj (pv 2))))),?_⟩
 let vl:=TS.length;erw[0,b,0,.inr (zB0 hb),2,_,0,6];obtain⟨m,em,m2,m4,mt,m3⟩:∃m:Int,(if((tv.length:Int)-1)>2 then((tv.length:Int)-1)else 2)=m/\2<=m/\m<=400/\(ts.length:Int)<=m+1/\(ts.length<=4->m<=3):=⟨_,rfl,by split <;> omega,by split <;> omega,by split <;> omega,λ_=>by split <;> omega⟩
 rw [em];refine⟨_,rfl,b,rfl,%[_|zB0 hb],nV (K:=K) (xs:=tv) (λi σ H'=>∃(m:Int)(x3 x4 x5:Option V),σ=[some (.ref a),some (.ref b),some (.int m),x3,x4,x5]/\2<=m/\m<=400/\(ts.length:Int)<=m+1/\(∀t∈ts.take i,∀x∈ns,(t.names.count x:Int)<=m)/\Same H H'/\(ns=[]->ts.length<=4->m<=3))
  %[m,_,_,0,m2,m4,mt,by simp,Same.refl _|λ_=>m3] (λi σ H' _ Mx=>by erw[_,_,_,_,_,_,_,_,_,h,_]at Mx;exact zB0 (h _ _ hb)) ?_ ?_⟩
 . rintro i v σ H1 hv ⟨m,x3,x4,x5,rfl,m2,m4,mt,mc,S1,me⟩;let%[t,ht|T]:=TS.get hv;let tm:=qI0 ht;let%[tw,td|tz]:=tok t tm;erw[0,v,t,1,T.mono (bp S1),tw,3,tz,λl H2 l0 S2 hl=>?_];let S12:=S1.trans S2;let tn:=t.names_len;refine⟨_,rfl,a,rfl,%[_|zG0 (S12 _ _ ha)],nY (K:=K) (xs:=ns.map V.str) (λj σ H'=>∃(m':Int)(x5:Option V),σ=[some (.ref a),some (.ref b),some (.int m'),some v,some (.ref l),x5]/\m<=m'/\m'<=400/\(∀x∈ns.take j,(t.names.count x:Int)<=m')/\(ns=[]->m'<=m)/\H'=H2)
    %[m,0,qC1 _,m4,by simp,λ_=>qC1 _|1] (λj σ H' _ Mx=>by erw[_,_,_,_,_,_,_,h]at Mx;subst h;exact zG0 (S12 _ _ ha)) ?_ ?_⟩
   . rintro j y σ H3 hy ⟨m',y5,rfl,mm,m4',mc',me',rfl⟩;rw[zZ0]at hy;let%[x,hx|1]:=qQ0 hy;erw[0,0,.inl %[1,_|zG0 hl],0,l,2,zG0 hl,im _,1,_,0,6];rw[rV];let cl:=jU1 (a:=x) (l:=t.names);erw[_,0,by split <;> omega,by split <;> omega,λz hz=>?_,λe=>(by subst e;cases hx),1];rw[qJ0,hx]at hz;rcases qG0 hz with h | h
     . have:=mc' z h
       split <;> omega
     . let e:z=x:=#[h,0]
       subst e
       split <;> omega
   . rintro σ H3 ⟨m',y5,rfl,mm,m4',mc',me',rfl⟩;rw[zF0,qF0]at mc';erw[m',_,_,0,3,m4',3,λu hu x hx=>?_,S12,λe f=>(by have:=me' e;have:=me e f;omega)];rw[qJ0,ht]at hu;rcases qG0 hu with h | h
     . have:=mc u h x hx
       omega
     . let e:u=t:=#[h,0]
       subst e;exact mc' x hx
 . rintro σ H1 ⟨m,x3,x4,x5,rfl,m2,m4,mt,mc,S1,me⟩;rw[vl,qF0]at mc;erw[0,q m H1 S1 m2 m4 me mt mc]
instance spPrimeB:∀n:Int,vs=[.int n]->(∀b:Bool,(b=true↔Pr n)->Q (.bl b) H):=1
def pX:FnScope ["_law_number","_law_k"] ["_law_number"] (ag jM):=%[|5]
def sF(F:#["_law_is_prime",jM])(hrange:mg "range"=none):#[1,f,fd,["_law_number"],spPrimeB]:=by
 exists pX
 erw[n,1,q]at h;refine⟨_,(aa (aF (af dM (pv 0) ad (ao _)) (ac (aj ju)) ax)
  (aa (cQ zG1 rfl (oI rfl hrange %[ad,ad|bc]) (bt (i:=1) pX.nd rfl (.inl rfl)) (aa (aF (af fO (am cG (pv 1) (pv 1)) (pv 0) (ao _)) (ac (aj ju)) ax)
   (ac (aF (af aN (am bd (pv 0) (pv 1)) ad (ao _)) (ac (aj ju)) ax))))
  (ac (aj ju)))),?_⟩
 erw[0,2,0,6];apply uZ (λc=>?_) (λc=>?_)
 . let c':=zZ1 c;exact q false %[λz=>(nomatch z)|λz=>by have:=z.1;omega]
 let c':¬ n<2:=wE1 (Bool.eq_false_iff.mpr c);erw[(2),(1001),1,%[4,4,4|4],dG (λi σ H'=>∃x,σ=[some (.int n),x]/\H'=H/\oW n (2+(i:Int))) %[0,1|by simpa using wZ n] ?_ ?_]
 . rintro i σ H' hi ⟨x,rfl,rfl,u⟩;let hi':i<999:=hi;erw[0,0,2,.inl %[3|3],0,2,0,6];apply uZ (λc1=>?_) (λc1=>?_)
   . let c2:=zZ1 c1;exact q true %[λ_=>GF #[0] #[0] u c2|λ_=>rfl]
   . let c2:=wE1 (Bool.eq_false_iff.mpr c1);erw[0,0,2,(show(0:Int)<2+(i:Int) by omega),1,0,6];apply uZ (λc3=>?_) (λc3=>?_)
     . let c4:=V.int.inj (zZ1 c3);exact q false %[λz=>(nomatch z)|λz=>(Gz #[0] #[0] #[0] c4 z).elim]
     . let c4:=wE1 (Bool.eq_false_iff.mpr c3);erw[0,1,6];let e:(2:Int)+((i+1:Nat):Int)=2+(i:Int)+1:=#[0]
       rw[e];exact zv u #[0] (λz=>c4 (congrArg V.int z))
 . rintro σ H' ⟨x,rfl,rfl,u⟩;exact q true %[λ_=>GJ #[0] u|λ_=>rfl]
instance spWithin:∀(v:V)(t:Tr),vs=[v]->TreeAt H v t->t.wf->(∀(p:Addr)(xs:List V)(H':Hp),Same H H'->H' p=some (.tup xs)->TreesAt H' xs t.parts->Q (.ref p) H'):=1
def pK:FnScope WD WD (ag iy):=%[|5]
def pO(F:#["trees_within",iy]):#[1,f,fd,WD,spWithin]:=by
 exists pK
 erw[v,t,1,T,wf,q]at h;refine⟨_,(aa (aF (af aN (aI aJ (pv 0) ad #[1]) aq (ao _)) (ac (aj (aM bc))) ax)
  (ac (aj (dL tR (pv 0) (dQ ad) gG)))),?_⟩
 rcases T.view wf with⟨a,x,rfl,rfl,_,e⟩ | ⟨a,o,xs,rfl,no,xl,e,TS,_⟩
 . erw[0,a,_,(0),0,1,zB0 e,1,1,0,6];apply aU rfl ?_;erw[y0S,λp hp=>?_];exact q p [] _ (zC0 hp _) bh .nil
 . erw[0,a,_,(0),.str o,1,1,zB0 e,at0 ..,1,0,6];apply ay (λz=>no (by injection z)) ?_;let%[c1|c2]:=cut1 (.str o) xs xl;erw[0,(1),1,a,0,zB0 e,c2,λp hp=>?_];rw[c1];exact q p xs _ (zC0 hp _) bh (TS.mono (bp (zC0 hp _)))
instance spNamesIn(n:Nat):∀(v:V)(t:Tr),vs=[v]->TreeAt H v t->t.wf->t.depth<=n->t.size<=400->(∀(l:Addr)(H':Hp),H l=none->Same H H'->H' l=some (.lst (t.names.map V.str))->Q (.ref l) H'):=1
def lB:FnScope ["tree","names","part"] WD (ag jJ):=%[|5]
def xY{n:Nat}(F:#["names_in",jJ])(bj:#[1,"trees_within",WD,spWithin])(d8:#[n+2,"names_in",WD,spNamesIn n]):#[n+3,f,fd,WD,spNamesIn (n+1)]:=by
 exists lB
 erw[v,t,1,T,wf,dn,sz,q]at h;refine⟨_,(aa (aF (af aN (aI aJ (pv 0) ad #[1]) aq (ao _)) (ac (aj (dq %[aI aJ (pv 0) ad #[1]|bc]))) ax)
  (aa #[ah,1,lB,dq bc]
  (aa (cQ zG1 rfl (eR (ai bj hr #[0] rfl %[0|bc])) (bt (i:=2) lB.nd rfl (.inl rfl)) (ac (aQ (cA zF1 PySem.F.slot_list_extend PySem.F.type_list_extend Aq (pv 1) %[ai d8 hr (zH0 _) rfl %[2|bc]|bc]))))
  (ac (aj (pv 1)))))),?_⟩
 let wf':=wf;rcases T.view wf with⟨a,x,rfl,rfl,_,e⟩ | ⟨a,o,xs0,rfl,no,xl0,e,_,nis⟩
 . erw[0,a,_,(0),0,1,zB0 e,1,1,0,6];apply aU rfl ?_;erw[0,a,_,(1),0,1,zB0 e,1,y1S,λp hp=>?_];exact q p _ hp (zC0 hp _) bh
 . erw[0,a,_,(0),.str o,1,1,zB0 e,at0 ..,1,0,6];apply ay (λz=>no (by injection z)) ?_;erw[y0S,λL hL=>?_];let G0:=zC0 hL (.lst []);erw[0,_,t,1,T.mono (bp G0),wf,λp xs H1 S1 hp TS=>?_];let hL1:H1 L=some (.lst []):=S1 _ _ bh;let pL:p≠L:=λz=>by rw[z,hL1]at hp;cases hp
   let xl:=TS.length;let sp:=t.size_parts;erw[p,1,%[_|zB0 hp],nV (K:=K) (xs:=xs) (λi σ H'=>∃x2,σ=[some (.ref a),some (.ref L),x2]/\H' L=some (.lst ((iH (t.parts.take i)).map V.str))/\SameBut L H1 H') %[0,hL1|SameBut.refl _ _] (λi σ H' _ Mx=>by erw[_,_,_,h]at Mx;exact zB0 (h _ _ pL hp)) ?_ ?_]
   . rintro i x σ H2 hx ⟨x2,rfl,hl,S2⟩;let%[u,hu|Tu]:=TS.get hx;let um:=qI0 hu;let%[uw,ud|us]:=Tr.parts_mem um wf;let Tu2:TreeAt H2 x u:=Tu.mono λb ys h=>S2 b _ (λz=>by rw[z,hL1]at h;cases h) h
     erw[0,.inl %[1,_|zG0 hl],0,x,u,1,Tu2,uw,3,3,λl H3 l0 S3 hl3=>?_];let nl:=u.names_len;let nl2:=rC (t.parts.take i);let nl3:=qA t.parts i;erw[L,l,2,S3 _ _ hl,hl3,6,6]
     . rw[zF0,zF0];exact aV #[0]
     erw[0,6,λb o hb h=>?_]
     . rw[bh,pC hu,zL0]
     . rw[aB hb];exact S3 _ _ (S2 _ _ hb h)
   . rintro σ H2 ⟨x2,rfl,hl,S2⟩;rw[xl,qF0,←t.names_parts nis]at hl;erw[0,6];apply q L H2 hL (λb o h=>?_) hl;exact S2 b o (bi h hL) (S1 _ _ (G0 _ _ h))
def xX:#[2,f,fd,WD,spNamesIn 0]:=by
 let no:∀vs H Q E,¬ spNamesIn 0 vs H Q E:=λvs H Q E h=>by
  erw[v,t,_,_,_,h1,_]at h
  have:=t.depth_pos
  omega
 exists 3
def pA(F:#["names_in",jJ])(m:mg "names_in"=some (.ref f))(bj:#[1,"trees_within",WD,spWithin]):
 ∀n:Nat,#[n+2,f,fd,WD,spNamesIn n]
 |0=>xX
 |n+1=>xY F bj (Cal.of F (pA F m bj n) m (λ_ _ _ _ _ _ us hl=>by let%[u0|1]:=Aw hl;rfl))
instance spField:∀n:Int,vs=[.int n]->n<=999999->(∀b:Bool,(b=true↔2<n/\Pr n)->Q (.bl b) H):=1
def lC:FnScope ["number","divisor"] ["number"] (ag mf):=%[|5]
def vZ(F:#["is_field",mf]):#[1,f,fd,["number"],spField]:=by
 exists lC
 erw[n,1,n9,q]at h;refine⟨_,(aa (aF (PW.pt (eF (af dM (pv 0) ad (ao _)) (dZ (af aN (am bd (pv 0) ad) ad (ao _))))) (ac (aj ju)) ax)
  (aa #[ah,1,lC,ad]
  (aa (iF zG1 (af sT (am cG (pv 1) (pv 1)) (pv 0) (ao _)) (aa (aF (af aN (am bd (pv 0) (pv 1)) ad (ao _)) (ac (aj ju)) ax)
   (ac #[ah,1,lC,am aR (pv 1) ad])))
  (ac (aj ju))))),?_⟩
 erw[0,2,0,6]
 by_cases c:n<3
 . apply aU c ?_;apply ee ?_;exact q false %[λz=>(nomatch z)|λz=>#[0]]
 apply ay c ?_;erw[0,2,(by show(0:Int)<_;decide),1,0,6]
 by_cases c2:n % 2=0
 . apply aU (congrArg V.int c2) ?_;exact q false %[λz=>(nomatch z)|λz=>absurd z.2 (AM c2 #[0])]
 apply ay (λz=>c2 (V.int.inj z)) ?_;erw[λm σ H'=>∃d:Int,σ=[some (.int n),some (.int d)]/\H'=H/\3<=d/\d<=1001/\d % 2=1/\wU n d/\m=(n+3-d).toNat,%[_,(3),1,1,3,3,3,An n|1],6];rintro m σ H' ⟨d,rfl,rfl,d3,d9,d2,u,rfl⟩;erw[0,0,2,.inl %[3|3],0,2,0,6]
 by_cases c3:d*d<=n
 . apply aU c3 ?_;let r1:=xj n9 d3 c3;let r2:=EL d3 c3;erw[_,λ_ _ h=>h,6];erw[0,0,2,(show 0<d by omega),1,0,6]
   by_cases c4:n % d=0
   . apply aU (congrArg V.int c4) ?_;exact q false %[λz=>(nomatch z)|λz=>absurd z.2 (AL n9 d3 c3 c4)]
   apply ay (λz=>c4 (V.int.inj z)) ?_;erw[0,2,6];erw[_,3,d+2,1,1,3,3,3,CI u d2 c4,1]
 . apply ay c3 ?_;exact q true %[λ_=>%[3|AJ #[0] c2 d3 u #[0]]|λ_=>rfl]
abbrev uh:Stmt:=bw ui 0
abbrev xB:Stmt:=bw ui 1
abbrev qO:Stmt:=bw ui 2
abbrev qP:Stmt:=bw ui 3
def gf(a b:Addr)(p:Int)(d:Addr):List (Str×V):=bN "degrees" (.ref d) (bN "field" (.int p) (bN "trees" (.ref b) (bN "switches" (.ref a) [])))
def pG(a b:Addr)(p:Int)(d:Addr):(gf a b p d).lookup ("switches":Str)=some (.ref a):=by
 unfold gf;rw[au,Mq ⋯,au,Mq ⋯,au,Mq ⋯,au,Mt rfl]
def nU(a b:Addr)(p:Int)(d:Addr):(gf a b p d).lookup ("trees":Str)=some (.ref b):=by
 unfold gf;rw[au,Mq ⋯,au,Mq ⋯,au,Mt rfl]
def iJ(a b:Addr)(p:Int)(d:Addr):(gf a b p d).lookup ("field":Str)=some (.int p):=by
 unfold gf;rw[au,Mq ⋯,au,Mt rfl]
def Dz(a b:Addr)(p:Int)(d:Addr):(gf a b p d).lookup ("degrees":Str)=some (.ref d):=by
 unfold gf;rw[au,Mt rfl]
def rO(a b:Addr)(p:Int)(d:Addr){m:Str}(h1:¬ m="degrees")(h2:¬ m="field")(h3:¬ m="trees")(h4:¬ m="switches"):(gf a b p d).lookup m=none:=by
 unfold gf;rw[au,Mq h1,au,Mq h2,au,Mq h3,au,Mq h4]
 all_goals rfl
structure GTxt(K:W.Frag)(mg:#[9])(C:Addr):Prop where
 cl:Cls K C
 nS:NoAttr K C "switches"
 nT:NoAttr K C "trees"
 nF:NoAttr K C "field"
 nD:NoAttr K C "degrees"
 mgC:mg "Game"=some (.ref C)
def wO(g:Nat->Int):∀n,∃k,k<=n/\eG g n=g k
 |0=>%[(0),zH0 _|1]
 |n+1=>by
   let%[k,hk|e]:=wO g n;unfold eG
   split
   . erw[n+1,zH0 _,1]
   . erw[k,3,e]
def kK{ns:List Int}(h:ns≠[]):De ns 0∈ns:=by
 cases ns with
 |nil=>exact absurd rfl h
 |cons a r=>
   let%[k,hk|e]:=wO (λi=>(a::r)[i]?.getD 0) ((a::r).length-1);let e1:De (a::r) 0=eG (λi=>(a::r)[i]?.getD 0) ((a::r).length-1):=rfl;let hl:k<(a::r).length:=by
    rw[zM0]at hk ⊢;omega
   rw[e1,e];show(a::r)[k]?.getD 0∈a::r;rw[zO0 hl];exact qO0 hl
def cr(ts:List Tr)(x:Str):Int:=De (ts.map λt=>(t.names.count x:Int)) 0
def rS{ts:List Tr}{x:Str}{p:Int}(h0:ts≠[])(h:∀t∈ts,(t.names.count x:Int)<p):cr ts x<p:=by
 have:=kK (ns:=ts.map λt=>(t.names.count x:Int)) #[h0,0]
 let%[t,ht|e]:=List.mem_map.mp this;unfold cr;rw[←e];exact h t ht
instance spDeg:∀(x:Str)(b:Addr)(tv:List V)(ts:List Tr),vs=[.str x,.ref b]->H b=some (.tup tv)->TreesAt H tv ts->ts≠[]->ts.length<=10->(∀t∈ts,t.wf/\t.depth<=10/\t.size<=400)->(∀H',Same H H'->Q (.int (cr ts x)) H'):=1
def tV:FnScope Wm Wm (ag kE):=%[|5]
def uL(F:#["degree_of",kE])(hmax:mg "max"=none)(d8:#[12,"names_in",WD,spNamesIn 10]):#[13,f,fd,Wm,spDeg]:=by
 exists tV
 erw[x,b,tv,ts,1,hb,TS,t0,tl,tok,q]at h;refine⟨_,(ac (aj (aE (tE rfl) rfl hmax qY0 (ae (cJ (N:=["name"]) (ix:=[0]) rfl
  #[3] rfl
  (eR (pv 1)) (λ_ _ _=>du (GO K zF1 PySem.F.slot_list_count PySem.F.type_list_count (Ar K) (ai d8 hr ⋯ rfl %[0|bc]) %[1|bc]))) bc)))),?_⟩
 let vl:=TS.length;erw[0,b,1,%[_|zB0 hb],λD hD=>?_];apply eY (K:=K) (xs:=tv) (λi H'=>H' D=some (.lst (((ts.take i).map λt=>(t.names.count x:Int)).map V.int))/\Same H H') %[by rw[bh];rfl|zC0 hD _] (λi H' _ h=>zB0 (h.2 _ _ hb)) ?_ ?_
 . rintro i z H2 hz ⟨hl,S2⟩;let%[t,ht|T]:=TS.get hz;let%[tw,td|tz]:=tok t (qI0 ht);let hi:i<tv.length:=(zW0 hz).1;erw[0,z,t,1,T.mono (bp S2),tw,3,tz,λl H3 l0 S3 hl3=>?_];erw[.inl %[1,_|zG0 hl3],0,l,2,zG0 hl3,im _,1,6];rw[rV];erw[_,S3 _ _ hl,6,Nx.of hi %[6|λb' o' e'=>?_]]
   . rw[zF0,zF0,qE0];exact aO #[0]
   . rw[bh,qJ0,ht,zL0,zL0];rfl
   . rw[aB (bi e' hD)];exact S3 _ _ (S2 _ _ e')
 . rintro H2 ⟨hl,S2⟩;rw[vl,qF0]at hl;erw[D,0,zG0 hl,by simpa using t0,q H2 S2]
instance spLookS:∀(a:Addr)(ns:List Str),vs=[.ref a]->H a=some (.tup (ns.map V.str))->ns.Nodup->ns.length<=10->(∀H',Same H H'->Q .non H'):=1
def eX(x:Str)(ns:List Str):inV (.str x) (ns.map V.str)=decide (x∈ns):=by
 unfold inV
 induction ns with
 |nil=>rfl
 |cons a r ih=>
   rw [zY0,jL0,ih];let e:eqV (.str a) (.str x)=decide (x=a):=by
    show(a==x)=_
    by_cases c:x=a
    . subst c;simp
    . rw[zE1 c];simpa using λh=>c h.symm
   rw[e]
   by_cases c1:x=a <;> by_cases c2:x∈r <;> simp [c1,c2]
def gu:FnScope ["switches","place","name"] ["switches"] (ag gX):=%[|5]
def oN(F:#["look_switches",gX])(henum:mg "enumerate"=none):#[1,f,fd,["switches"],spLookS]:=by
 exists gu
 erw[a,ns,1,ha,nd,nl,q]at h;refine⟨_,(ac (cQ zG1 rfl (vN rfl henum (pv 0)) (uA rfl (gN (bt (i:=1) gu.nd rfl (.inl rfl)) (gN (bt (i:=2) gu.nd rfl (.inl rfl)) pY)))
  (ac (aF (af gg (pv 2) (dL tR (pv 0) gG (dQ (pv 1))) (by rfl')) aX ax)))),?_⟩
 erw[0,a,1,%[_|zB0 ha],tj (K:=K) (xs:=ns.map V.str) (λi σ H'=>∃x1 x2:Option V,σ=[some (.ref a),x1,x2]/\Same H H') %[_,0|Same.refl _] (λi σ H' _ Mx=>by erw[_,_,_,h]at Mx;exact zB0 (h _ _ ha)) ?_ ?_]
 . rintro i z σ H1 t hz ⟨x1,x2,rfl,S1⟩ ht;let hi:i<(ns.map V.str).length:=(zW0 hz).1;rw[zZ0]at hz;let%[x,hx|1]:=qQ0 hz;let G:=zC0 ht (.tup [.int (i:Int),.str x]);let S2:=S1.trans G;let hi':i<ns.length:=by rw[zF0]at hi;exact hi
   erw[t,0,zB0 bh,1,_,0,2,6];erw[0,0,0,(i:Int),1,a,0,zB0 (S2 _ _ ha),6,λc hc=>?_]
   . rintro⟨_,h⟩;rw[HT.sIx_nat]at h;omega
   . erw[c,0,.inr (zB0 bh),1,6,0,6]
     . let ec:iM (ns.map V.str) none (some (i:Int))=(ns.take i).map V.str:=by
        unfold iM;rw[HT.sIx_none,HT.sIx_nat,qO1,wD1,List.map_take]
        congr 1
        omega
       rw[ec];exact im _
     . let ec:iM (ns.map V.str) none (some (i:Int))=(ns.take i).map V.str:=by
        unfold iM;rw[HT.sIx_none,HT.sIx_nat,qO1,wD1,List.map_take]
        congr 1
        omega
       show if inV (.str x) (iM (ns.map V.str) none (some (i:Int)))=true then _ else _
       rw[ec,eX,zE1 ?_]
       . apply cV ?_;erw[_,0,S2.trans (zC0 hc _)]
       . intro hm;let%[j,hj|e]:=List.getElem_of_mem hm;rw[qE0]at hj;rw[List.getElem_take]at e;let ex:ns[i]=x:=by
          rw[zO0 hi']at hx;exact zV0 hx
         exact List.pairwise_iff_getElem.mp nd j i #[0] hi' #[0] (e.trans ex.symm)
 . rintro σ H1 ⟨x1,x2,rfl,S1⟩;exact q H1 S1
def nO{ns:List Str}:∀t:Tr,t.ok ns->∀x∈t.names,x∈ns
 |.is y,h,x,hx=>by rw[zR0 hx];exact h
 |.yes,_,x,hx=>by cases hx
 |.no,_,x,hx=>by cases hx
 |.not a,h,x,hx=>nO a h x hx
 |.bin _ a b,⟨_,h1,h2⟩,x,hx=>by
   rcases qG0 hx with h | h
   . exact nO a h1 x h
   . exact nO b h2 x h
instance spLookN:∀(a b:Addr)(ns:List Str)(tv:List V)(ts:List Tr),vs=[.ref b,.ref a]->H a=some (.tup (ns.map V.str))->H b=some (.tup tv)->TreesAt H tv ts->(∀t∈ts,t.ok ns/\t.wf/\t.depth<=10/\t.size<=400)->(∀H',Same H H'->Q .non H'):=1
def i9:FnScope ["trees","switches","tree","name"] ["trees","switches"] (ag jK):=%[|5]
def sD(F:#["look_names",jK])(d8:#[12,"names_in",WD,spNamesIn 10]):#[13,f,fd,["trees","switches"],spLookN]:=by
 exists i9
 erw[a,b,ns,tv,ts,1,ha,hb,TS,tok,q]at h;refine⟨_,(ac (cQ zG1 rfl (eR (pv 0)) (bt (i:=2) i9.nd rfl (.inl rfl))
  (ac (cQ zG1 rfl (ia (ai d8 hr ⋯ rfl %[2|bc])) (bt (i:=3) i9.nd rfl (.inl rfl))
   (ac (aF (af nu (pv 3) (pv 1) (by rfl')) aX ax)))))),?_⟩
 erw[0,b,1,%[_|zB0 hb],nV (K:=K) (xs:=tv) (λi σ H'=>∃x2 x3:Option V,σ=[some (.ref b),some (.ref a),x2,x3]/\Same H H') %[_,0|Same.refl _] (λi σ H' _ Mx=>by erw[_,_,_,h]at Mx;exact zB0 (h _ _ hb)) ?_ ?_]
 . rintro i z σ H1 hz ⟨x2,x3,rfl,S1⟩;let%[t,ht|T]:=TS.get hz;let%[tk,tw,td|tz]:=tok t (qI0 ht);erw[0,z,t,1,T.mono (bp S1),tw,3,tz,λl H2 l0 S2 hl=>?_];let S12:=S1.trans S2;erw[l,1,%[_|zG0 hl],nY (K:=K) (xs:=t.names.map V.str) (λj σ H'=>∃x3:Option V,σ=[some (.ref b),some (.ref a),some z,x3]/\H'=H2) %[0|1] (λj σ H' _ Mx=>by erw[_,_,h]at Mx;subst h;exact zG0 hl) ?_ ?_]
   . rintro j y σ H3 hy ⟨y3,rfl,rfl⟩;rw[zZ0]at hy;let%[x,hx|1]:=qQ0 hy;erw[0,0,a,0,.inr (zB0 (S12 _ _ ha)),1,im _,0,6];show if(!inV (.str x) (ns.map V.str))=true then _ else _
     rw[eX,zD1 (nO t tk x (qI0 hx))];apply cV ?_;erw[0,1]
   . rintro σ H3 ⟨y3,rfl,rfl⟩;erw[_,0,S12]
 . rintro σ H1 ⟨x2,x3,rfl,S1⟩;exact q H1 S1
instance spLookF:∀p:Int,vs=[.int p]->Pr p->2<p->p<=999983->Q .non H:=1
def sx:FnScope ["field"] ["field"] (ag jL):=%[|5]
def sE(F:#["look_field",jL])(hend:∃t,mg "FIELDS_END"=some (.int 1000000 t))(o5:#[1,"is_field",["number"],spField]):#[2,f,fd,["field"],spLookF]:=by
 exists sx
 erw[p,1,pp,p2,p9,q]at h;erw[te,ge]at hend;erw[_,(ac (aF (PW.pt (eF (af Cl (pv 0) (bQ (v:=.int 1000000) rfl ge %[|0]) (ao _)) (dZ (eQ (dN (ai o5 hr ⋯ rfl %[0|bc])))))) aX ax)),6];erw[0,2,0,6];apply ay #[0] ?_;erw[0,p,1,3,λb hb=>%[b,1|6]];rw[hb.mpr ⟨p2,pp⟩];exact cV q
instance spLookZ:∀(p:Int)(d:Addr)(ns:List Int),vs=[.int p,.ref d]->H d=some (.lst (ns.map V.int))->ns≠[]->(∀n∈ns,n<p)->Q .non H:=1
def r9:FnScope ["field","degrees","greatest"] ["field","degrees"] (ag ky):=%[|5]
def uG(F:#["look_size",ky])(hmax:mg "max"=none):#[1,f,fd,["field","degrees"],spLookZ]:=by
 exists r9
 erw[p,d,ns,1,hd,n0,nl,q]at h;refine⟨_,(aa #[ah,2,r9,aE (tE rfl) rfl hmax qY0 %[1|bc]]
  (ac (aF (af sT (pv 0) (pv 2) (ao _)) aX ax))),?_⟩
 erw[0,d,ns,1,zG0 hd,n0,6];erw[0,0,2,0,6]
 have:=nl _ (kK n0)
 exact ay #[0] q
def iE(f:Str)(v:V):∀fs:List (Str×V),(bN f v fs).length<=fs.length+1
 | []=>zH0 _
 | (g,u)::r=>by
   have:=iE f v r
   unfold bN
   split
   . simp
   . simp only[zM0];omega
def gf3(a b:Addr)(p:Int):List (Str×V):=bN "field" (.int p) (bN "trees" (.ref b) (bN "switches" (.ref a) []))
def Hu(a b:Addr)(p:Int):(gf3 a b p).lookup ("switches":Str)=some (.ref a):=by
 unfold gf3;rw[au,Mq ⋯,au,Mq ⋯,au,Mt rfl]
def Ht(a b:Addr)(p:Int):(gf3 a b p).lookup ("trees":Str)=some (.ref b):=by
 unfold gf3;rw[au,Mq ⋯,au,Mt rfl]
def GameAt(C:Addr)(H:Hp)(g a b d:Addr)(p:Int):Prop:=∃dx,H g=some (.ins C dx (gf a b p d))
def GameAt.same(h:GameAt C H g a b d p)(s:Same H H'):GameAt C H' g a b d p:=by
 erw[dx,e]at h;erw[dx,s _ _ e]
instance spGInit(C:Addr):∀(g dx a b:Addr)(ns:List Str)(tv:List V)(ts:List Tr)(p:Int),vs=[.ref g,.ref a,.ref b,.int p]->H g=some (.ins C dx [])->H a=some (.tup (ns.map V.str))->ns.Nodup->ns.length<=10->H b=some (.tup tv)->TreesAt H tv ts->1<=ts.length->ts.length<=10->(∀t∈ts,t.ok ns/\t.wf/\t.depth<=10/\t.size<=400)->Pr p->2<p->p<=999983->(ts.length:Int)<=p->(∀t∈ts,∀x∈ns,(t.names.count x:Int)<p)->(∀(d:Addr)(H':Hp),H d=none->GameAt C H' g a b d p->H' d=some (.lst ((ns.map (cr ts)).map V.int))->SameBut g H H'->Q .non H'):=1
def BI:FnScope WM WM (ag uh):=%[|5]
def Cv(F:#["__init__","Game.__init__",uh])(T:GTxt K mg C)(htuple:mg "tuple"=none)(hlen:mg "len"=none)(lD:#[13,"degree_of",Wm,spDeg])(g9:#[1,"look_switches",["switches"],spLookS])
 (jZ:#[13,"look_names",["trees","switches"],spLookN])(j4:#[2,"look_field",["field"],spLookF])(l6:#[1,"look_size",["field","degrees"],spLookZ]):#[14,f,fd,WM,spGInit C]:=by
 exists BI
 erw[g,dx,a,b,ns,tv,ts,p,1,hg,ha,nd,nl,hb,TS,t1,t10,tok,pp,p2,p9,tp,tc,q]at h;refine⟨_,(aa (aP (pv 0) (aW bz rfl htuple cj %[1|bc]) rfl)
  (aa (aP (pv 0) (aW bz rfl htuple cj %[2|bc]) rfl)
  (aa (aP (pv 0) (pv 3) rfl)
  (aa (aP (pv 0) (cJ (N:=WB) (ix:=[0]) rfl
   #[3] rfl
   (eR (az (pv 0) rfl)) (λ_ _ _=>du (ai lD hr ⋯ rfl %[0,lm K (pv 1)|bc]))) rfl)
  (aa (aQ (ai g9 hr ⋯ rfl %[az (pv 0) rfl|bc]))
  (aa (aQ (ai jZ hr ⋯ rfl %[az (pv 0) rfl,az (pv 0) rfl|bc]))
  (aa (aQ (ai j4 hr ⋯ rfl %[3|bc]))
  (ac (aQ (ai l6 hr ⋯ rfl %[3,am jg (az (pv 0) rfl) (dq %[am bK (aE aD rfl hlen zC1 %[az (pv 0) rfl|bc]) ad|bc])|bc])))))))))),?_⟩
 let nag:a≠g:=bL ha hg nofun;let nbg:b≠g:=bL hb hg nofun;let vl:=TS.length;erw[0,a,0,.inr %[zB0 ha,0,g,C,dx,[],1,hg,T.cl,T.nS,(by show 0<1000;decide)|6]];erw[0,b,0,.inr %[zB0 (by rw[aB nbg];exact hb),0,g,C,dx,0,bh,T.cl,T.nT,(zO1 (iE _ _ _) (by show 1<1000;decide))|6]];erw[0,0,g,C,dx,0,bh,9,T.nF,(zO1 (iE _ _ _) (zO1 (zJ1 (iE _ _ _)) (by show 2<1000;decide))),6];let S3:SameBut g H (upd (upd (upd H g (.ins C dx (bN "switches" (.ref a) []))) g (.ins C dx (bN "trees" (.ref b) (bN "switches" (.ref a) [])))) g (.ins C dx (bN "field" (.int p) (bN "trees" (.ref b) (bN "switches" (.ref a) []))))):=
  (SameBut.upd _).trans ((SameBut.upd _).trans (SameBut.upd _))
 let hg3:upd (upd (upd H g (.ins C dx (bN "switches" (.ref a) []))) g (.ins C dx (bN "trees" (.ref b) (bN "switches" (.ref a) [])))) g (.ins C dx (bN "field" (.int p) (bN "trees" (.ref b) (bN "switches" (.ref a) [])))) g=some (.ins C dx (gf3 a b p)):=bh;generalize upd (upd (upd H g (.ins C dx (bN "switches" (.ref a) []))) g (.ins C dx (bN "trees" (.ref b) (bN "switches" (.ref a) [])))) g (.ins C dx (bN "field" (.int p) (bN "trees" (.ref b) (bN "switches" (.ref a) []))))=H3 at S3 hg3;let kT:cH H H3:=λc xs h=>S3 c _ (bL h hg nofun) h
 let ha3:=kT _ _ ha;let hb3:=kT _ _ hb;let TS3:=TS.mono kT;erw[0,g,C,dx,_,0,hg3,9,T.nS,Hu ..,a,1,%[_|zB0 ha3],λD hD=>?_];let D0:H D=none:=by
  cases e:H D with
  |none=>rfl
  |some o=>
    by_cases c:D=g
    . rw[c,hg3]at hD;cases hD
    . rw[S3 D o c e]at hD;cases hD
 apply eY (K:=K) (xs:=ns.map V.str) (λi H'=>H' D=some (.lst (((ns.take i).map (cr ts)).map V.int))/\Same H3 H') %[by rw[bh];rfl|zC0 hD _] (λi H' _ h=>zB0 (h.2 _ _ ha3)) ?_ ?_
 . rintro i z H4 hz ⟨hl,S4⟩;let hi:i<(ns.map V.str).length:=(zW0 hz).1;rw[zZ0]at hz;let%[x,hx|1]:=qQ0 hz;erw[0,0,g,C,dx,_,0,S4 _ _ hg3,9,T.nT,Ht ..,x,b,tv,ts,1,S4 _ _ hb3,TS3.mono (bp S4),6,t10,λt ht=>(tok t ht).2,λH5 S5=>?_]
   . intro e;rw[e]at t1;exact absurd t1 ⋯
   erw[_,S5 _ _ hl,6,Nx.of hi %[6|λb' o' e'=>?_]]
   . rw[zF0,zF0,qE0];exact aO #[0]
   . rw[bh,qJ0,hx,zL0,zL0];rfl
   . rw[aB (bi e' hD)];exact S5 _ _ (S4 _ _ e')
 rintro H4 ⟨hl,S4⟩;rw[zF0,qF0]at hl;erw[0,g,C,dx,0,S4 _ _ hg3,9,T.nD,6,6]
 . exact zO1 (zN0 (iE _ _ _) (zJ1 (zN0 (iE _ _ _) (zJ1 (iE _ _ _))))) (by show 3<1000;decide)
 let nDg:D≠g:=λz=>by rw[z,hg3]at hD;cases hD
 let hg5:upd H4 g (.ins C dx (gf a b p D)) g=some (.ins C dx (gf a b p D)):=bh;let S5:SameBut g H (upd H4 g (.ins C dx (gf a b p D))):=S3.trans ((zI0 S4).trans (SameBut.upd _));let hD5:upd H4 g (.ins C dx (gf a b p D)) D=some (.lst ((ns.map (cr ts)).map V.int)):=by rw[aB nDg];exact hl
 show _;generalize he5:upd H4 g (.ins C dx (gf a b p D))=H5 at hg5 S5 hD5;let kT5:cH H H5:=λc xs h=>S5 c _ (bL h hg nofun) h
 rw[show upd H4 g (.ins C dx (bN "degrees" (.ref D) (gf3 a b p)))=H5 from he5];erw[0,g,C,dx,_,0,hg5,9,T.nS,pG ..,a,ns,1,kT5 _ _ ha,nd,nl,λH6 S6=>?_];let kT6:cH H H6:=λc xs h=>S6 _ _ (kT5 c xs h)
 erw[0,g,C,dx,_,0,S6 _ _ hg5,9,T.nT,nU ..,0,g,C,dx,_,0,S6 _ _ hg5,9,T.nS,pG ..,a,b,ns,tv,ts,1,kT6 _ _ ha,kT6 _ _ hb,TS.mono kT6,tok,λH7 S7=>?_];let S57:=S6.trans S7;erw[0,p,1,pp,p2,p9,6];erw[0,0,g,C,dx,_,0,S57 _ _ hg5,9,T.nD,Dz ..,0,g,C,dx,_,0,S57 _ _ hg5,9,T.nT,nU ..,b,0,.inr (zB0 (S57 _ _ (kT5 _ _ hb))),2,y1S,λl hl2=>?_];let Gl:=zC0 hl2 (.lst [.int ((tv.length:Int)-1)]);erw[D,l,2,Gl _ _ (S57 _ _ hD5),bh,6,λr hr0=>?_]
 . rw[zF0,zF0];exact aV (by simp;omega)
 let Gr:=zC0 hr0 (.lst ((ns.map (cr ts)).map V.int++[.int ((tv.length:Int)-1)]));erw[p,r,ns.map (cr ts)++[(tv.length:Int)-1],1,6,by simp,λn hn=>?_,6]
 . rw[bh,zL0];rfl
 . rcases qG0 hn with h | h
   . let%[x,hx|1]:=List.mem_map.mp h;apply rS ?_ λt ht=>tc t ht x hx
     intro e;rw[e]at t1;exact absurd t1 ⋯
   . rw[zR0 h];omega
 . let S59:=S57.trans (Gl.trans Gr);exact q D _ D0 %[dx|S59 _ _ hg5] (S59 _ _ hD5) (S5.trans (zI0 S59))
instance spInv:∀a p:Int,vs=[.int a,.int p]->Pr p->p<=999983->0<a->a<p->(∀g:Int,0<g->g<p->g*a % p=1->Q (.int g) H):=1
def b6:FnScope ["a","p","former","former_factor","rest","factor","times","lesser","lesser_factor"] ["a","p"] (ag jO):=%[|5]
def sH(F:#["inverse_of",jO]):#[1,f,fd,["a","p"],spInv]:=by
 exists b6
 erw[a,p,1,pr,p1,a0,a1,q]at h;let p2:2<=p:=pr.1;refine⟨_,(aa #[ah,2,b6,pv 1]
  (aa #[ah,3,b6,ad]
  (aa #[ah,4,b6,am bd (pv 0) (pv 1)]
  (aa #[ah,5,b6,ad]
  (aa (iF zG1 (af lE (pv 4) ad (ao _)) (aa #[ah,6,b6,am uD (pv 2) (pv 4)]
   (aa #[ah,7,b6,am bK (pv 2) (am cG (pv 6) (pv 4))]
   (aa #[ah,8,b6,am bd (am bK (pv 3) (am cG (pv 6) (pv 5))) (pv 1)]
   (aa #[ah,2,b6,pv 4]
   (aa #[ah,3,b6,pv 5]
   (aa #[ah,4,b6,pv 7]
   (ac #[ah,5,b6,pv 8]))))))))
  (ac (aj (pv 5)))))))),?_⟩
 erw[0,6];erw[0,0,2,(show 0<p by omega),6];erw[λm σ H'=>∃(former ff rest g:Int)(x6 x7 x8:Option V),σ=[some (.int a),some (.int p),some (.int former),some (.int ff),some (.int rest),some (.int g),x6,x7,x8]/\H'=H/\Eu a p former ff rest g/\m=rest.toNat,%[_,_,_,_,_,_,2,wI pr #[0] a0 a1|1],6]
 rintro m σ H' ⟨former,ff,rest,g,x6,x7,x8,rfl,rfl,eu,rfl⟩;erw[0,1,0,6]
 by_cases c:rest=1
 . apply wA (congrArg V.int c) ?_;let%[g0,g1|g2]:=DJ eu c #[0];erw[0,q g g0 g1 g2]
 . apply iteN (λz=>c (V.int.inj z)) ?_;erw[_,λ_ _ h=>h,6];let r0:=eu.r0;let rp:=eu.rp;let f0:=eu.f0;let f1:=eu.f1;let%[nx|lt]:=ze eu c;erw[0,0,2,%[r0|3],6];erw[0,0,0,2,.inr %[3|3],2,6];erw[0,0,0,2,.inr %[3|3],2,0,2,(show 0<p by omega),6];erw[0,0,0,0,6];erw[_,lt,_,_,_,_,_,2,nx,1]
def md{p x y:Int}(h:p ∣ x-y):x % p=y % p:=by
 erw[k,hk]at h
 have:x=y+p*k:=#[0]
 rw[this,Int.add_mul_emod_self_left]
def dm(p x:Int):p ∣ x % p-x:=⟨-(x / p),by
 have:=jE1 x p
 rw[Int.mul_neg];omega⟩
def pmd(p:Int)(g:Nat->Int):Nat->Int
 |0=>1
 |k+1=>pmd p g k*g k % p
def nn(p:Int)(g:Nat->Int):∀k,p ∣ pmd p g k-pr g k
 |0=>%[(0)|by simp [pmd,pr]]
 |k+1=>by
   let%[a|ha]:=nn p g k;let%[b|hb]:=dm p (pmd p g k*g k);erw[b+a*g k,by show pmd p g k*g k % p-pr g k*g k=_;grind]
def nj{p:Int}(hp:1<p)(g:Nat->Int):∀k,0<=pmd p g k/\pmd p g k<p
 |0=>%[by show(0:Int)<=1;decide|hp]
 |k+1=>%[qA0 _ #[0]|qH0 _ #[0]]
def prL(p:Int)(g:Nat->Int)(n:Nat):List V:=((List.range n).map (pmd p g)).map V.int
def qZ(p:Int)(g:Nat->Int)(n:Nat):prL p g (n+1)=prL p g n++[.int (pmd p g n)]:=by
 unfold prL;rw[jA0,zL0,zL0];rfl
def EN(p:Int)(g:Nat->Int)(n:Nat):(prL p g n).length=n:=by
 unfold prL;rw[zF0,zF0,qS0]
def ye{f:Nat->Int}{n k:Nat}(h:k<n):atI (((List.range n).map f).map V.int) (k:Int)=some (.int (f k)):=by
 apply cK ?_;rw[zZ0,zZ0,List.getElem?_range h];rfl
def xH{n k:Nat}(h:k<n):atI (prL p g n) (k:Int)=some (.int (pmd p g k)):=ye h
instance spProd:∀(a:Addr)(g:Nat->Int)(n:Nat)(p:Int),vs=[.ref a,.int p]->H a=some (.lst (((List.range n).map g).map V.int))->n<=500->1<p->p<2 ^ 40->(∀(l:Addr)(H':Hp),H l=none->Same H H'->H' l=some (.lst (prL p g (n+1)))->Q (.ref l) H'):=1
def l7:FnScope ["numbers","p","told","number"] Wn (ag lY):=%[|5]
def vW(F:#["products",lY]):#[1,f,fd,Wn,spProd]:=by
 exists l7
 erw[a,g,n,p,1,ha,n5,p1,p40,q]at h;refine⟨_,(aa #[ah,2,l7,dq %[ad|bc]]
  (aa (cQ zG1 rfl (ia (pv 0)) (bt (i:=3) l7.nd rfl (.inl rfl)) (ac (aQ (cA zF1 zL1 zM1 cx (pv 2) %[am bd (am cG (aI ix_list (pv 2) (vO qk ad) #[1]) (pv 3)) (pv 1)|bc]))))
  (ac (aj (pv 2))))),?_⟩
 erw[y1S,λL hL=>?_];let aL:a≠L:=bi ha hL;refine⟨_,rfl,a,rfl,%[_|zG0 ((zC0 hL _) _ _ ha)],nY (K:=K) (xs:=((List.range n).map g).map V.int) (λi σ H'=>∃x3:Option V,σ=[some (.ref a),some (.int p),some (.ref L),x3]/\H' L=some (.lst (prL p g (i+1)))/\SameBut L H H')
  %[0,by rw[bh];rfl|SameBut.upd _] (λi σ H' _ Mx=>by erw[_,_,_,h]at Mx;exact zG0 (h _ _ aL ha)) ?_ ?_⟩
 . rintro i z σ H1 hz ⟨x3,rfl,hL1,S1⟩;let hi:=(zW0 hz).1;rw[zF0,zF0,qS0]at hi;rw[zZ0,zZ0,List.getElem?_range hi]at hz;obtain rfl:V.int (g i)=z:=zV0 hz;let rg:=nj p1 g i;erw[0,.inl %[1,_|zG0 hL1],6];erw[0,0,L,_,_,.int (pmd p g i),1,1,zG0 hL1,6,0,2,.inl %[3|3],0,2,#[0],L,2,hL1,6,6]
   . rw[qZ];exact wR _ _
   . rw[EN];exact aO #[0]
   . erw[0,6,λc o hc e=>?_]
     . rw[bh,qZ p g (i+1)];rfl
     . rw[aB hc];exact S1 c o hc e
 . rintro σ H1 ⟨x3,rfl,hL1,S1⟩;rw[zF0,zF0,qS0]at hL1;erw[0,q L H1 hL (λb o e=>S1 b o (bi e hL) e) hL1]
def Ca:∀n:Nat,pr (λk=>1+(k:Int)) n=fac n
 |0=>rfl
 |n+1=>by
   show pr (λk=>1+(k:Int)) n*(1+(n:Int))=fac n*((n:Int)+1)
   rw[Ca n,Int.add_comm]
def BD{p g a t s:Int}{k m:Nat}(hg:g*a % p=1)(p1:1<p)(ha:p ∣ a-fac (k+m))(ht:p ∣ t-pr (λj=>((k+m:Nat):Int)-j) m)(hs:p ∣ s-g*t):p ∣ s*fac k-1:=by
 let f:=wG m k;erw[x,hx]at ha;erw[y,hy]at ht;erw[z,hz]at hs;let%[e|he]:=dm p (g*a);rw[hg]at he;erw[z*fac k+g*y*fac k-g*x-e,by grind]
instance spFacs:∀(L:Nat)(p:Int),vs=[.int (L:Int),.int p]->L<=500->(L:Int)<p->Pr p->p<=999983->(∀(l:Addr)(H':Hp)(sh:Nat->Int),H l=none->Same H H'->(∀k,k<=L->p ∣ sh k*fac k-1)->(∀k,0<=sh k/\sh k<p)->H' l=some (.lst (((List.range (L+1)).map sh).map V.int))->Q (.ref l) H'):=1
def cU:FnScope ["last","p","numbers","whole","told"] ["last","p"] (ag dY):=%[|5]
def kh(F:#["inverse_factorials",dY])(B:Bl mg)(eE:#[1,"products",Wn,spProd])(eO:#[1,"inverse_of",["a","p"],spInv]):#[2,f,fd,["last","p"],spFacs]:=by
 exists cU
 erw[L,p,1,L5,Lp,pp,p9,q]at h;refine⟨_,(aa #[ah,2,cU,xN rfl rfl B.list rfl B.range %[ad,am aR (pv 0) ad|bc]]
  (aa (ah (i:=3) cU.nd rfl (Or.inr rfl) (ai eO hr ⋯ rfl %[aI ix_list (ai eE hr ⋯ rfl %[2,1|bc]) (vO qk ad) #[1],1|bc]))
  (aa (ah (i:=4) cU.nd rfl (Or.inr rfl) (ai eE hr ⋯ rfl (ae (cJ (N:=["last"]) (ix:=[0]) rfl
   #[3] rfl
   (cI rfl B.range %[0|bc]) (λ_ _ _=>du (am bK (pv 1) (pv 0)))) %[1|bc])))
  (ac (aj (cJ (N:=["whole","told","p","last"]) (ix:=[3,4,1,0]) rfl
   (CompScope.four (by rfl') ⋯ rfl ⋯ rfl ⋯ rfl (by rfl') (by rfl') (by rfl') (by rfl') (by rfl') (by rfl') rfl rfl (by rfl') rfl rfl (by rfl') rfl rfl (by rfl') rfl rfl) rfl
   (cI rfl B.range %[am aR (pv 0) ad|bc]) (λ_ _ _=>du (am bd (am cG (pv 1) (aI (Dt K) (pv 2) (am bK (pv 4) (pv 0)) #[1])) (pv 3))))))))),?_⟩
 let p2:=pp.1;let hP:=Cb pp #[0];erw[0,2,(1),0,%[4,4,3|3],3,λa ha=>?_];let e1:uu 1 ((L:Int)+1-1).toNat=(List.range L).map λk:Nat=>1+(k:Int):=by
  unfold uu;rw[show((L:Int)+1-1).toNat=L by omega]
 rw [e1];let Ga:=zC0 ha (.lst (((List.range L).map λk:Nat=>1+(k:Int)).map V.int));erw[0,0,a,_,L,p,1,bh,L5,3,3,λl H2 l0 S2 hl2=>?_];let rg:=nj (show 1<p by omega) (λk:Nat=>1+(k:Int)) L;let dv:=nn p (λk:Nat=>1+(k:Int)) L;rw[Ca]at dv;let ne0:pmd p (λk:Nat=>1+(k:Int)) L≠0:=λz=>by
  rw[z]at dv;erw[m,hm]at dv;exact vg hP L Lp %[-m|by rw[Int.mul_neg];omega]
 erw[0,l,_,_,.int (pmd p (λk:Nat=>1+(k:Int)) L),1,1,zG0 hl2,by rw[qZ];exact wR _ _,0,_,p,1,pp,p9,3,rg.2,λg g0 g1 hg=>?_];let SH2:=Ga.trans S2;erw[0,0,3,3,λD hD=>?_];apply gn (λi H'=>H' D=some (.lst (((List.range i).map λj:Nat=>(L:Int)-j).map V.int))/\Same H2 H') %[by rw[bh];rfl|zC0 hD _] ?_ ?_
 . rintro i H3 hi ⟨hD3,S3⟩;erw[0,0,2,_,hD3,6,Nx.of hi %[6|λb o e=>?_]]
   . rw[zF0,zF0,qS0];exact aO #[0]
   . rw[bh,jA0,zL0,zL0,jI1];rfl
   . rw[aB (bi e hD)];exact S3 _ _ e
 rintro H3 ⟨hD3,S3⟩;rw[show((L:Int)).toNat=L from qP0 L]at hD3;erw[0,D,_,L,p,1,hD3,L5,3,3,λt H4 t0 S4 ht4=>?_];erw[0,2,0,3,3,λD2 hD2=>?_];apply gn (λi H'=>H' D2=some (.lst (((List.range i).map λk:Nat=>g*pmd p (λj:Nat=>(L:Int)-j) (L-k) % p).map V.int))/\Same H4 H') %[by rw[bh];rfl|zC0 hD2 _] ?_ ?_
 . rintro i H5 hi ⟨hD5,S5⟩;let hi':i<L+1:=#[0]
   let rg2:=nj (show 1<p by omega) (λj:Nat=>(L:Int)-j) (L-i);let e2:(L:Int)-(0+(i:Int))=((L-i:Nat):Int):=#[0]
   erw[0,0,0,0,2,t,_,_,.int (pmd p (λj:Nat=>(L:Int)-j) (L-i)),1,1,zG0 (S5 _ _ ht4),by rw[e2];exact xH #[0],2,.inl %[3|3],0,2,#[0],_,hD5,6,Nx.of hi ⟨?_,λb o e=>?_⟩]
   . rw[zF0,zF0,qS0];exact aO #[0]
   . rw[bh,jA0,zL0,zL0];rfl
   . rw[aB (bi e hD2)];exact S5 _ _ e
 rintro H5 ⟨hD5,S5⟩;rw[show((L:Int)+1).toNat=L+1 by omega]at hD5;let S05:=SH2.trans (S3.trans (S4.trans S5));apply q D2 H5 (λk=>g*pmd p (λj:Nat=>(L:Int)-j) (L-k) % p) ((SH2.trans (S3.trans S4)).free hD2) S05 (λk hk=>?_) (λk=>%[qA0 _ #[0]|qH0 _ #[0]]) hD5;obtain⟨m,rfl⟩:∃m,L=k+m:=⟨L-k,#[0]⟩
 rw[show k+m-k=m by omega];exact BD hg #[0] dv (nn p _ m) (dm p _)
def wt(p:Int)(n i:Nat):Int:=(px (i:Int) i n % p) ^ (p-2).toNat
def Bc(hp:Pm p){n:Nat}(hn:(n:Int)<=p):Wgt p n (wt p n):=λi hi=>by
 let h1:=GQ hp hn hi;let%[k|hk]:=dm p (px (i:Int) i n);let h2:¬ p ∣ px (i:Int) i n % p:=fun⟨m,hm⟩=>h1 %[m-k|by grind]
 let%[m|hm]:=Hy hp h2 (qA0 _ (by have:=hp.1;omega));erw[m-k*(px (i:Int) i n % p) ^ (p-2).toNat,by unfold wt;grind]
def val(p:Int)(xs:List Int)(r:Int):Int:=lag (λi=>xs.getD i 0) (wt p xs.length) xs.length r % p
def FZ{t:Int}{xs:List Int}(hp:Pm p)(hn:(xs.length:Int)<=p)(hu:Wgt p xs.length u)(t0:0<=t)(t1:t<p)(h:p ∣ t-lag (λi=>xs.getD i 0) u xs.length r):t=val p xs r:=by
 let e:p ∣ t-lag (λi=>xs.getD i 0) (wt p xs.length) xs.length r:=by
  have:=Dl hp hn (v:=λi=>xs.getD i 0) hu (Bc hp hn) r
  let z:=wB0 h this;let e2:t-lag (λi=>xs.getD i 0) u xs.length r+(lag (λi=>xs.getD i 0) u xs.length r-lag (λi=>xs.getD i 0) (wt p xs.length) xs.length r)=t-lag (λi=>xs.getD i 0) (wt p xs.length) xs.length r:=#[0]
  rw[e2]at z;exact z
 have:=md e
 rw[qV0 t0 t1]at this;exact this
def Ek{p:Int}(hp:1<p)(xs:List Int)(r:Int):0<=val p xs r/\val p xs r<p:=%[qA0 _ #[0]|qH0 _ #[0]]
def Gc{xs:List Int}{k:Nat}(hp:Pm p)(hn:(xs.length:Int)<=p)(hk:k<xs.length):val p xs k=xs.getD k 0 % p:=md (yk (Bc hp hn) hk)
def sgn(m:Nat):(-1:Int) ^ m=if m % 2=1 then -1 else 1:=by
 induction m with
 |zero=>rfl
 |succ m ih=>
   rw[qX1,ih]
   by_cases c:m % 2=1
   . rw[Mt c,Mq #[0]];rfl
   . rw[Mq c,Mt #[0]];rfl
def Ej{p r v t s a b c d e:Int}{m:Nat}{x y:Int}(ht:p ∣ t-s)(ha:p ∣ a-pr (λj=>r-j) i)(hb:p ∣ b-pr (λj=>r-(i+m:Nat)+j) m)(hc:p ∣ c-v*a*b)(hd:p ∣ d-x*y)(he:p ∣ e-(t+(if m % 2=1 then -(c*d)else c*d))):
 p ∣ e-(s+v*px r i (i+m+1)*((-1) ^ m*(x*y))):=by
 rw[show i+m+1=i+1+m by omega,qU,sgn];rw[yU]at hb;generalize pr (λj=>r-j) i=A at *
 generalize pr (λj=>r-(i+1+j:Nat)) m=B at *
 erw[t',ht]at ht;erw[a',ha]at ha;erw[b',hb]at hb;erw[c',hc]at hc;erw[d',hd]at hd;erw[e',he]at he;let e1:c*d-v*(A*B)*(x*y)=p*(c'*d+v*(a'*b+A*b')*d+v*A*B*d'):=by grind
 by_cases z:m % 2=1
 . rw [Mt z]at *
   erw[e'+t'-(c'*d+v*(a'*b+A*b')*d+v*A*B*d'),by grind]
 . rw [Mq z]at *
   erw[e'+t'+(c'*d+v*(a'*b+A*b')*d+v*A*B*d'),by grind]
def IntsAt(H:Hp)(a:Addr)(xs:List Int):Prop:=H a=some (.lst (xs.map V.int))∨H a=some (.tup (xs.map V.int))
def IntsAt.same(h:IntsAt H a xs)(s:Same H H'):IntsAt H' a xs:=h.elim (λe=>.inl (s _ _ e)) (λe=>.inr (s _ _ e))
def IntsAt.seq{K:W.Frag}(h:IntsAt H a xs):SqL K H a (xs.map V.int)∨SqT K H a (xs.map V.int):=h.elim (λe=>.inl (zG0 e)) (λe=>.inr (zB0 e))
def IntsAt.ix{K:W.Frag}{k:Nat}{Q:VK}(h:IntsAt H a xs)(hk:k<xs.length)(q:Q (.int (xs.getD k 0)) H):rIxL K (.ref a) (.int (k:Int)) H Q∨rIxT K (.ref a) (.int (k:Int)) H Q:=by
 let e:atI (xs.map V.int) (k:Int)=some (.int (xs.getD k 0)):=cK (by rw[zZ0,zO0 hk,qT0,zO0 hk];rfl);rcases h with h | h
 . exact .inl %[a,_,2,zG0 h,e|q]
 . exact .inr %[a,_,2,zB0 h,e|q]
def lN(xs:List Int)(p:Int):Prop:=1<=xs.length/\xs.length<=500/\(xs.length:Int)<=p/\∀k,0<=xs.getD k 0/\xs.getD k 0<2 ^ 40
instance spVal:∀(a:Addr)(xs:List Int)(r p:Int),vs=[.ref a,.int r,.int p]->IntsAt H a xs->lN xs p->Pr p->p<=999983->0<=r->r<p->(∀H',Same H H'->Q (.int (val p xs r)) H'):=1
def bO:FnScope ["values","r","p","last","ahead","behind","shares","total","place","share","part"] WJ (ag iw):=%[|5]
def pN(F:#["value_behind",iw])(B:Bl mg)(eE:#[1,"products",Wn,spProd])(e9:#[2,"inverse_factorials",["last","p"],spFacs]):#[3,f,fd,WJ,spVal]:=by
 exists bO
 erw[a,xs,r,p,1,ha,%[x1,x5,xp|xb],pp,p9,r0,r1,q]at h;refine⟨_,(aa (ah (i:=3) bO.nd rfl (Or.inr rfl) (am bK (aE aD rfl B.len zC1 %[0|bc]) ad))
  (aa (ah (i:=4) bO.nd rfl (.inl rfl) (ai eE hr ⋯ rfl (ae (cJ (N:=["r"]) (ix:=[1]) rfl
   #[3] rfl
   (cI rfl B.range %[3|bc]) (λ_ _ _=>du (am bK (pv 1) (pv 0)))) %[2|bc])))
  (aa (ah (i:=5) bO.nd rfl (.inl rfl) (ai eE hr ⋯ rfl (ae (cJ (N:=["r","last"]) (ix:=[1,3]) rfl
   #[4] rfl
   (cI rfl B.range %[3|bc]) (λ_ _ _=>du (am aR (am bK (pv 1) (pv 2)) (pv 0)))) %[2|bc])))
  (aa #[ah,6,bO,ai e9 hr ⋯ rfl %[3,2|bc]]
  (aa #[ah,7,bO,ad]
  (aa (cQ zG1 rfl (cI rfl B.range %[am aR (pv 3) ad|bc]) (bt (i:=8) bO.nd rfl (.inl rfl)) (aa #[ah,9,bO,am bd (am cG (aI ix_list (pv 6) (pv 8) #[1]) (aI ix_list (pv 6) (am bK (pv 3) (pv 8)) #[1])) (pv 2)]
   (aa #[ah,10,bO,am cG (am bd (am cG (am cG (aI (ix_list.or aJ) (pv 0) (pv 8) #[1]) (aI ix_list (pv 4) (pv 8) #[1])) (aI ix_list (pv 5) (am bK (pv 3) (pv 8)) #[1])) (pv 2)) (pv 9)]
   (aa (aF (af aN (am bd (am bK (pv 3) (pv 8)) ad) ad (ao _)) (ac #[ah,10,bO,vO qk (pv 10)]) ax)
   (ac #[ah,7,bO,am bd (am aR (pv 7) (pv 10)) (pv 2)])))))
  (ac (aj (pv 7))))))))),?_⟩
 let p2:=pp.1;let p1:1<p:=#[0]
 let p0:0<p:=#[0]
 let hP:=Cb pp #[0];obtain⟨L,hL⟩:∃L,xs.length=L+1:=%[xs.length-1|3]
 let eL:(((xs.map V.int).length:Nat):Int)-1=(L:Int):=by rw[zF0];omega
 erw[0,a,0,ha.seq,2,6]
 dsimp only
 rw[eL];erw[0,(L:Int),1,3,3,λD hD=>?_];apply gn (λi H'=>H' D=some (.lst (((List.range i).map λj:Nat=>r-j).map V.int))/\Same H H') %[by rw[bh];rfl|zC0 hD _] ?_ ?_
 . rintro i H3 hi ⟨hD3,S3⟩;erw[0,0,2,_,hD3,6,Nx.of hi %[6|λb o e=>?_]]
   . rw[zF0,zF0,qS0];exact aO #[0]
   . rw[bh,jA0,zL0,zL0,jI1];rfl
   . rw[aB (bi e hD)];exact S3 _ _ e
 rintro H1 ⟨hD1,S1⟩;rw[show((L:Int)).toNat=L from qP0 L]at hD1;erw[0,D,_,L,p,1,hD1,3,p1,3,λla H2 la0 S2 hla=>?_];erw[0,(L:Int),1,3,3,λD2 hD2=>?_];apply gn (λi H'=>H' D2=some (.lst (((List.range i).map λj:Nat=>r-(L:Int)+j).map V.int))/\Same H2 H') %[by rw[bh];rfl|zC0 hD2 _] ?_ ?_
 . rintro i H3 hi ⟨hD3,S3⟩;erw[0,0,2,0,2,_,hD3,6,Nx.of hi %[6|λb o e=>?_]]
   . rw[zF0,zF0,qS0];exact aO #[0]
   . rw[bh,jA0,zL0,zL0,jI1];rfl
   . rw[aB (bi e hD2)];exact S3 _ _ e
 rintro H3 ⟨hD3,S3⟩;rw[show((L:Int)).toNat=L from qP0 L]at hD3;erw[0,D2,_,L,p,1,hD3,3,p1,3,λlb H4 lb0 S4 hlb=>?_];erw[0,0,L,p,1,3,3,pp,p9,λls H5 sh ls0 S5 hsh hsr hls=>?_];let S25:=S3.trans (S4.trans S5);let S05:=S1.trans (S2.trans S25);let hla5:=S25 _ _ hla;let hlb5:=S5 _ _ hlb;let ha5:=ha.same S05;let hW:=Eg hsh;refine⟨_,rfl,_,_,rfl,rfl,_,rfl,#[0],#[0],dG (λi σ H'=>∃(t:Int)(x8 x9 x10:Option V),σ=[some (.ref a),some (.int r),some (.int p),some (.int L),some (.ref la),some (.ref lb),some (.ref ls),some (.int t),x8,x9,x10]/\0<=t/\t<p/\p ∣ t-sm (λi=>xs.getD i 0*px r i (L+1)*((-1) ^ (L-i)*(sh i*sh (L-i)))) i/\H'=H5)
  %[(0),_,_,0,4,p0,%[(0)|by simp [sm]]|1] ?_ ?_⟩
 . rintro i σ H6 hi ⟨t,x8,x9,x10,rfl,t0,t1,td,rfl⟩;let hi':i<L+1:=#[0]
   obtain⟨m,hm⟩:∃m,L=i+m:=%[L-i|3]
   let e0:(0:Int)+(i:Int)=(i:Int):=jI1 _;let e1:(L:Int)-(0+(i:Int))=(m:Int):=#[0]
   let r1':=hsr i;let r2':=hsr m;let ar:=nj p1 (λj:Nat=>r-j) i;let br:=nj p1 (λj:Nat=>r-(L:Int)+j) m;let xi:=xb i;let m1:∀z:Int,0<=z % p:=λz=>qA0 _ #[0]
   let m2:∀z:Int,z % p<p:=λz=>qH0 _ p0
   erw[0,0,ls,_,_,.int (sh i),1,1,zG0 hls,by rw[e0];exact ye hi',0,0,0,2,ls,_,_,.int (sh m),1,1,zG0 hls,by rw[e1];exact ye #[0],2,.inl %[3|3],0,2,p0,6];erw[0,0,6];rw[e0];apply ha5.ix #[0] ?_;erw[0,0,la,_,_,.int (pmd p (λj:Nat=>r-j) i),1,1,zG0 hla5,xH hi',2,.inl %[3|3],6];erw[0,0,0,2,lb,_,_,.int (pmd p (λj:Nat=>r-(L:Int)+j) m),1,1,zG0 hlb5,by rw[←e0,e1];exact xH #[0],2,.inr %[3|3],0,2,p0,6];let s1:=m1 (sh i*sh m);let s2:=m2 (sh i*sh m);erw[0,2,.inr %[3|3],6];erw[0,0,2,2,(by show(0:Int)<_;decide),1,0,6];let fin:∀z:Int,z=(if m % 2=1 then -(xs.getD i 0*pmd p (λj:Nat=>r-j) i*pmd p (λj:Nat=>r-(L:Int)+j) m % p*(sh i*sh m % p))else xs.getD i 0*pmd p (λj:Nat=>r-j) i*pmd p (λj:Nat=>r-(L:Int)+j) m % p*(sh i*sh m % p)) ->
    p ∣ (t+z) % p-sm (λi=>xs.getD i 0*px r i (L+1)*((-1) ^ (L-i)*(sh i*sh (L-i)))) (i+1):=λz hz=>by
    show p ∣ _-(sm _ i+xs.getD i 0*px r i (L+1)*((-1) ^ (L-i)*(sh i*sh (L-i))))
    let em:L-i=m:=#[0]
    let hb:p ∣ pmd p (λj:Nat=>r-(L:Int)+j) m-pr (λj=>r-(i+m:Nat)+j) m:=by
     rw[←hm];exact nn p _ m
    subst hz;rw[em];let el:L+1=i+m+1:=#[0]
    rw[el]at td ⊢;exact Ej td (nn p _ i) hb (dm p _) (dm p _) (dm p _)
   by_cases c:m % 2=1
   . apply aU (congrArg V.int #[0]) ?_;erw[0,0,6];erw[0,0,2,0,2,p0,6];erw[_,_,_,0,m1 _,m2 _,fin _ (by rw[Mt c]),1]
   . apply ay (λz=>c (by have:=V.int.inj z;omega)) ?_;erw[0,0,2,0,2,p0,6];erw[_,_,_,0,m1 _,m2 _,fin _ (by rw[Mq c]),1]
 . rintro σ H6 ⟨t,x8,x9,x10,rfl,t0,t1,td,rfl⟩;rw[show((L:Int)+1).toNat=L+1 by omega]at td;rw[←hL]at hW;let e:=FZ (r:=r) hP xp hW t0 t1 (by
    unfold lag;rw[hL];exact td)
   rw[e];erw[0,q H6 S05]
def A5:FnScope ["values","r","p","place"] WJ (ag lV):=%[|5]
def vT(F:#["value_at",lV])(B:Bl mg)(ik:#[3,"value_behind",WJ,spVal]):#[4,f,fd,WJ,spVal]:=by
 exists A5
 erw[a,xs,r,p,1,ha,ok,pp,p9,r0,r1,q]at h;refine⟨_,(aa #[ah,3,A5,am bd (pv 1) (pv 2)]
  (aa (aF (af dM (pv 3) (aE aD rfl B.len zC1 %[0|bc]) (ao _)) (ac (aj (am bd (aI (ix_list.or aJ) (pv 0) (pv 3) #[1]) (pv 2)))) ax)
  (ac (aj (ai ik hr ⋯ rfl %[0,3,2|bc]))))),?_⟩
 let p0:0<p:=#[0]
 let hP:=Cb pp #[0];let er:r % p=r:=qV0 r0 r1;erw[0,0,2,p0,6]
 dsimp only
 rw[er];erw[0,0,a,0,ha.seq,2,0,6];apply uZ (λc=>?_) (λc=>?_)
 . let c':=zZ1 c;rw[zF0]at c';obtain⟨k,rfl⟩:∃k:Nat,r=(k:Int):=%[r.toNat|3]
   erw[0,0,6];apply ha.ix #[0] ?_;erw[0,2,p0,6];show Q (.int (xs.getD k 0 % p)) H;rw[←Gc hP ok.2.2.1 #[0]];exact q H (Same.refl _)
 . erw[0,0,0,a,xs,r,p,1,ha,ok,pp,p9,r0,r1,q]
instance spEnds:∀(a:Addr)(xs:List Int)(p:Int),vs=[.ref a,.int p]->IntsAt H a xs->lN xs p->Pr p->p<=999983->(∀H',Same H H'->Q (.int ((val p xs 0+val p xs 1) % p)) H'):=1
def tX:FnScope ["values","p"] ["values","p"] (ag kG):=%[|5]
def uN(F:#["both_ends",kG])(cy:#[4,"value_at",WJ,spVal]):#[5,f,fd,["values","p"],spEnds]:=by
 exists tX
 erw[a,xs,p,1,ha,ok,pp,p9,q]at h;erw[_,(ac (aj (am bd (am aR (ai cy hr ⋯ rfl %[0,ad,1|bc]) (ai cy hr ⋯ rfl %[0,ad,1|bc])) (pv 1)))),6];let p2:=pp.1;erw[0,0,a,xs,(0),p,1,ha,ok,pp,p9,4,3,λH1 S1=>?_];erw[0,0,a,xs,(1),p,1,ha.same S1,ok,pp,p9,4,3,λH2 S2=>?_];erw[2,0,2,#[0],q H2 (S1.trans S2)]
def IntsAt.sqB{K:W.Frag}(h:IntsAt H a xs):∃c,SqB K c H a (xs.map V.int):=h.elim (λe=>%[true|zG0 e]) (λe=>%[false|zB0 e])
def hor(s p:Int):List Int->Int
 | []=>0
 |a::r=>(hor s p r*s+a) % p
def qf{p:Int}(hp:0<p):∀ns,0<=hor s p ns/\hor s p ns<p
 | []=>%[qC1 0|hp]
 |a::r=>%[qA0 _ #[0]|qH0 _ hp]
instance spMix(C:Addr):∀(g a b d l:Addr)(ns:List Int)(s p:Int),vs=[.ref g,.ref l,.int s]->GameAt C H g a b d p->0<p->p<2 ^ 40->IntsAt H l ns->Q (.int (hor s p ns)) H:=1
def y8:FnScope ["self","numbers","s","total","number"] WY (ag xB):=%[|5]
def EZ(F:#["mix","Game.mix",xB])(T:GTxt K mg C)(hrev:mg "reversed"=none):#[1,f,fd,WY,spMix C]:=by
 exists y8
 erw[g,a,b,d,l,ns,s,p,1,%[dx|hg],p0,p40,hl,q]at h;refine⟨_,(aa #[ah,3,y8,ad]
  (aa (cQ zG1 rfl (EO rfl hrev (pv 1)) (bt (i:=4) y8.nd rfl (.inl rfl)) (ac #[ah,3,y8,am bd (am aR (am cG (pv 3) (pv 2)) (pv 4)) (az (pv 0) rfl)]))
  (ac (aj (pv 3))))),?_⟩
 let%[c|hl]:=hl.sqB (K:=K);refine⟨_,rfl,c,l,_,rfl,hl,DF (K:=K) (c:=c) (xs:=ns.map V.int) (λi σ H'=>∃(x4:Option V)(t:Int),σ=[some (.ref g),some (.ref l),some (.int s),some (.int t),x4]/\t=hor s p (ns.drop (ns.length-i))/\H'=H)
  %[_,(0),1,by rw[wD1,List.drop_length];rfl|1] (λi σ H' _ Mx=>by erw[_,_,_,_,h]at Mx;subst h;exact hl) ?_ ?_⟩
 . rintro i z σ H1 hi hz ⟨x4,t,rfl,rfl,rfl⟩;rw[zF0]at hi;rw[←List.map_reverse,zZ0]at hz;let%[x,hx|1]:=qQ0 hz;rw[jR1 hi]at hx;let hr2:=qf (s:=s) p0 (ns.drop (ns.length-i));erw[0,0,2,.inl %[3|3],0,2,0,g,C,dx,_,0,hg,T.cl,T.nF,iJ ..,2,p0,6];erw[_,0,6,1];let hj:ns.length-1-i<ns.length:=#[0]
   let ed:ns.drop (ns.length-(i+1))=x::ns.drop (ns.length-i):=by
    let e1:ns.length-(i+1)=ns.length-1-i:=#[0]
    let e2:ns.length-i=ns.length-1-i+1:=#[0]
    rw[e1,e2,List.drop_eq_getElem_cons hj]
    congr 1
    rw[zO0 hj]at hx;exact zV0 hx
   rw[ed];rfl
 . rintro σ H1 ⟨x4,t,rfl,rfl,rfl⟩;rw[zF0,Nat.sub_self,qO1];erw[0,q]
instance spWAt(C:Addr):∀(g a b d r:Addr)(ns:List Str)(tv:List V)(ts:List Tr)(pt:List Int)(s p:Int),vs=[.ref g,.ref r,.int s]->GameAt C H g a b d p->1<p->p<2 ^ 40->H a=some (.tup (ns.map V.str))->H b=some (.tup tv)->TreesAt H tv ts->ts.length<=10->(∀t∈ts,t.ok ns/\t.depth<=10)->H r=some (.tup (pt.map V.int))->pt.length=ns.length->cR pt p->(∀H',Same H H'->Q (.int (hor s p (ts.map λt=>t.worth ns pt p))) H'):=1
def zL:FnScope WN WN (ag qO):=%[|5]
def Af(F:#["worth_at","Game.worth_at",qO])(T:GTxt K mg C)(mM:Meth K C "mix" fm)(GM:#[1,fm,fdm,WY,spMix C])(bM:Binds K fdm WY [])(fL:#[12,"worth_of",WW,spWorth 10]):#[13,f,fd,WN,spWAt C]:=by
 exists zL
 erw[g,a,b,d,r,ns,tv,ts,pt,s,p,1,%[dx|hg],p1,p40,ha,hb,TS,t10,tok,hr0,pl,po,q]at h;let MB:Room 1 _:=hr.mono ⋯;refine⟨_,(ac (aj (bu (pv 0) T.cl mM GM MB bM .nil aY (ae (cJ (N:=["self","point"]) (ix:=[0,1]) rfl
  #[4] rfl
  (eR (az (pv 0) rfl)) (λ_ _ _=>du (ai fL hr ⋯ rfl %[0,lm K (pv 1),2,lm K (pv 1)|bc]))) %[2|bc])))),?_⟩
 let vl:=TS.length;erw[0,g,dx,0,hg,rO _ _ _ _ ⋯ ⋯ ⋯ ⋯,6];erw[0,g,C,dx,_,0,hg,9,T.nT,nU ..,b,1,%[_|zB0 hb],λD hD=>?_];apply eY (K:=K) (xs:=tv) (λi H'=>H' D=some (.lst (((ts.take i).map λt=>t.worth ns pt p).map V.int))/\Same H H') %[by rw[bh];rfl|zC0 hD _] (λi H' _ h=>zB0 (h.2 _ _ hb)) ?_ ?_
 . rintro i z H2 hz ⟨hl,S2⟩;let%[t,ht|Tt]:=TS.get hz;let%[tk|td]:=tok t (qI0 ht);let hi:i<tv.length:=(zW0 hz).1;erw[0,0,g,C,dx,_,0,S2 _ _ hg,9,T.nS,pG ..,0,0,g,C,dx,_,0,S2 _ _ hg,9,T.nF,iJ ..,z,t,a,r,ns,pt,p,1,Tt.mono (bp S2),tk,td,.inr (S2 _ _ ha),S2 _ _ hr0,pl,p1,p40,po,6];erw[_,hl,6,Nx.of hi %[6|λb' o' e'=>?_]]
   . rw[zF0,zF0,qE0];exact aO #[0]
   . rw[bh,qJ0,ht,zL0,zL0];rfl
   . rw[aB (bi e' hD)];exact S2 _ _ e'
 . rintro H2 ⟨hl,S2⟩;rw[vl,qF0]at hl;erw[0,g,a,b,d,D,_,s,p,1,%[dx|S2 _ _ hg],3,p40,.inl hl,q H2 S2]
instance spCoins(C:Addr):∀(g a b d:Addr)(ns:List Str)(tv:List V)(p:Int),vs=[.ref g]->GameAt C H g a b d p->H a=some (.tup (ns.map V.str))->H b=some (.tup tv)->Q (.int (if tv.length=1 then(ns.length:Int)else(ns.length:Int)+1)) H:=1
def zM:FnScope WB WB (ag qP):=%[|5]
def Ag(F:#["coins","Game.coins",qP])(T:GTxt K mg C)(hlen:mg "len"=none):#[1,f,fd,WB,spCoins C]:=by
 exists zM
 erw[g,a,b,d,ns,tv,p,1,%[dx|hg],ha,hb,q]at h;refine⟨_,(aa (aF (af aN (aE aD rfl hlen zC1 %[az (pv 0) rfl|bc]) ad (ao _)) (ac (aj (aE aD rfl hlen zC1 %[az (pv 0) rfl|bc]))) ax)
  (ac (aj (am aR (aE aD rfl hlen zC1 %[az (pv 0) rfl|bc]) ad)))),?_⟩
 erw[0,g,C,dx,_,0,hg,9,T.nT,nU ..,b,0,.inr (zB0 hb),1,0,6]
 by_cases c:V.int (tv.length:Int)=V.int 1
 . apply aU c ?_;let c':tv.length=1:=by have:=V.int.inj c;omega
   rw[Mt c']at q;erw[0,g,C,dx,_,0,hg,9,T.nS,pG ..,a,0,.inr (zB0 ha),6];rw[zF0];exact q
 . apply ay c ?_;let c':¬ tv.length=1:=λz=>c (by rw[z];rfl)
   rw[Mq c']at q;erw[0,g,C,dx,_,0,hg,9,T.nS,pG ..,a,0,.inr (zB0 ha),6];rw[zF0];erw[2,q]
instance spSize(n:Nat):∀(v:V)(t:Tr),vs=[v]->TreeAt H v t->t.wf->t.depth<=n->t.size<=400->(∀H',Same H H'->Q (.int t.size) H'):=1
def xm(ts:List Tr):(ts.map λu=>(u.size:Int)).sum=(jq ts:Int):=by
 induction ts with
 |nil=>rfl
 |cons a r ih=>
   simp only[jq,zY0,zV1]at ih ⊢;rw[ih];omega
def xr:FnScope WD WD (ag lc):=%[|5]
def zH{n:Nat}(F:#["size_of",lc])(B:Bl mg)(bj:#[1,"trees_within",WD,spWithin])(i7:#[n+2,"size_of",WD,spSize n]):#[n+3,f,fd,WD,spSize (n+1)]:=by
 exists xr
 erw[v,t,1,T,wf,dn,sz,q]at h;refine⟨_,(ac (aj (am aR ad (aE (rX rfl) rfl B.sum jS1 (ae (cJ (N:=[]) (ix:=[]) (cl:=[]) rfl #[5] rfl
  (eR (ai bj hr #[0] rfl %[0|bc])) (λ_ _ _=>du (ai i7 hr (zH0 _) rfl %[0|bc]))) bc))))),?_⟩
 erw[0,v,t,1,T,wf,λp xs H1 S1 hp TS=>?_];erw[p,1,%[_|zB0 hp],λD hD=>?_];let pD:p≠D:=bi hp hD;let xl:=TS.length;let sp:=t.size_parts;apply eY (K:=K) (xs:=xs) (λi H'=>H' D=some (.lst (((t.parts.take i).map λu=>(u.size:Int)).map V.int))/\Same H1 H') %[by rw[bh];rfl|zC0 hD _] (λi H' _ h=>zB0 (h.2 _ _ hp)) ?_ ?_
 . rintro i x H2 hx ⟨hl,S2⟩;let%[u,hu|Tu]:=TS.get hx;let um:=qI0 hu;let%[uw,ud|us]:=Tr.parts_mem um wf;let hi:i<xs.length:=(zW0 hx).1;erw[0,x,u,1,Tu.mono (bp S2),uw,3,3,λH3 S3=>?_];erw[_,S3 _ _ hl,6,Nx.of hi %[6|λb o e=>?_]]
   . have:t.parts.length<=2:=by cases t <;> simp [Tr.parts]
     rw[zF0,zF0,qE0];exact aO #[0]
   . rw[bh,qJ0,hu,zL0,zL0];rfl
   . rw[aB (bi e hD)];exact S3 _ _ (S2 _ _ e)
 . rintro H2 ⟨hl,S2⟩;rw[xl,qF0]at hl;let sc:=xm t.parts;erw[D,0,zG0 hl,6,6,6]
   . intro n hn;let%[u,_|1]:=List.mem_map.mp hn;omega
   . rw[sc];omega
   . rw [sc];erw[2,6];let e:(1:Int)+(jq t.parts:Int)=(t.size:Int):=#[0]
     show Q (.int (1+(jq t.parts:Int))) H2;rw[e];exact q H2 (S1.trans S2)
def zG:#[2,f,fd,WD,spSize 0]:=by
 let no:∀vs H Q E,¬ spSize 0 vs H Q E:=λvs H Q E h=>by
  erw[v,t,_,_,_,h1,_]at h
  have:=t.depth_pos
  omega
 exists 3
def rj(F:#["size_of",lc])(B:Bl mg)(m:mg "size_of"=some (.ref f))(bj:#[1,"trees_within",WD,spWithin]):
 ∀n:Nat,#[n+2,f,fd,WD,spSize n]
 |0=>zG
 |n+1=>zH F B bj (Cal.of F (rj F B m bj n) m (λ_ _ _ _ _ _ us hl=>by let%[u0|1]:=Aw hl;rfl))
abbrev ul:Stmt:=bw dB 0
abbrev qQ:Stmt:=bw dB 1
abbrev xD:Stmt:=bw dB 2
abbrev uo:Stmt:=bw dB 4
abbrev uk:Stmt:=bw dB 5
abbrev oC:Stmt:=bw dB 6
abbrev qS:Stmt:=bw dB 7
abbrev xC:Stmt:=bw dB 8
abbrev BO:Stmt:=bw dB 9
abbrev qR:Stmt:=bw dB 10
def dl(g aA aC:Addr)(s:Int)(aH aT:Addr)(ed pl:Int):List (Str×V):=[("game",.ref g),("awaited",.ref aA),("claims",.ref aC),("s",.int s),("heard",.ref aH),("tossed",.ref aT),("held",.int ed),("places",.int pl)]
section
variable {g aA aC aH aT:Addr}{s ed pl:Int}
def jy:(dl g aA aC s aH aT ed pl).lookup ("game":Str)=some (.ref g):=by rfl'
def DN:(dl g aA aC s aH aT ed pl).lookup ("awaited":Str)=some (.ref aA):=by rfl'
def HH:(dl g aA aC s aH aT ed pl).lookup ("claims":Str)=some (.ref aC):=by rfl'
def HC:(dl g aA aC s aH aT ed pl).lookup ("s":Str)=some (.int s):=by rfl'
def HG:(dl g aA aC s aH aT ed pl).lookup ("heard":Str)=some (.ref aH):=by rfl'
def yx:(dl g aA aC s aH aT ed pl).lookup ("tossed":Str)=some (.ref aT):=by rfl'
def zi:(dl g aA aC s aH aT ed pl).lookup ("held":Str)=some (.int ed):=by rfl'
def zg:(dl g aA aC s aH aT ed pl).lookup ("places":Str)=some (.int pl):=by rfl'
def zh:(dl g aA aC s aH aT ed pl).lookup ("waits":Str)=none:=by rfl'
def dl_n2:(dl g aA aC s aH aT ed pl).lookup ("due":Str)=none:=by rfl'
def dl_n4:(dl g aA aC s aH aT ed pl).lookup ("hear":Str)=none:=by rfl'
def dl_n5:(dl g aA aC s aH aT ed pl).lookup ("toss":Str)=none:=by rfl'
def dl_n6:(dl g aA aC s aH aT ed pl).lookup ("hear_claims":Str)=none:=by rfl'
def FT:(dl g aA aC s aH aT ed pl).lookup ("begin_rounds":Str)=none:=by rfl'
def dl_n8:(dl g aA aC s aH aT ed pl).lookup ("hear_row":Str)=none:=by rfl'
def DM:(dl g aA aC s aH aT ed pl).lookup ("go_on":Str)=none:=by rfl'
def HE:(dl g aA aC s aH aT ed pl).lookup ("look_at_trees":Str)=none:=by rfl'
def qV{v:Addr}:bN "awaited" (.ref v) (dl g aA aC s aH aT ed pl)=dl g v aC s aH aT ed pl:=by rfl'
def FP{v:Addr}:bN "claims" (.ref v) (dl g aA aC s aH aT ed pl)=dl g aA v s aH aT ed pl:=by rfl'
def FN{v:Int}:bN "s" (.int v) (dl g aA aC s aH aT ed pl)=dl g aA aC v aH aT ed pl:=by rfl'
def FO{v:Addr}:bN "heard" (.ref v) (dl g aA aC s aH aT ed pl)=dl g aA aC s v aT ed pl:=by rfl'
def BZ{v:Addr}:bN "tossed" (.ref v) (dl g aA aC s aH aT ed pl)=dl g aA aC s aH v ed pl:=by rfl'
def xG{v:Int}:bN "held" (.int v) (dl g aA aC s aH aT ed pl)=dl g aA aC s aH aT v pl:=by rfl'
def uy{v:Int}:bN "places" (.int v) (dl g aA aC s aH aT ed pl)=dl g aA aC s aH aT ed v:=by rfl'
def cW:(dl g aA aC s aH aT ed pl).length<1000:=by show 8<1000;decide
end
structure DTxt(K:W.Frag)(mg:#[9])(C:Addr):Prop where
 cl:Cls K C
 nG:NoAttr K C "game"
 nA:NoAttr K C "awaited"
 nC:NoAttr K C "claims"
 nS:NoAttr K C "s"
 nH:NoAttr K C "heard"
 nT:NoAttr K C "tossed"
 nE:NoAttr K C "held"
 nP:NoAttr K C "places"
 mgC:mg "Doubter"=some (.ref C)
structure Db where
 aw:Str×Option Int
 cl:List Int
 s:Int
 he:List Int
 to:List Int
 ed:Int
 pl:Int
def awV(a:Str×Option Int):List V:=match a.2 with
 |none=>[.str a.1]
 |some n=>[.str a.1,.int n]
structure DbR(C:Addr)(H:Hp)(D g:Addr)(z:Db)(dx aA aC aH aT:Addr):Prop where
 hD:H D=some (.ins C dx (dl g aA aC z.s aH aT z.ed z.pl))
 hA:H aA=some (.tup (awV z.aw))
 hC:H aC=some (.tup (z.cl.map V.int))
 hH:H aH=some (.tup (z.he.map V.int))
 hT:H aT=some (.tup (z.to.map V.int))
def DbR.same(h:DbR C H D g z dx aA aC aH aT)(s:Same H H'):DbR C H' D g z dx aA aC aH aT:=%[s _ _ h.hD,s _ _ h.hA,s _ _ h.hC,s _ _ h.hH|s _ _ h.hT]
def DbR.set{C:Addr}{H:Hp}{D g:Addr}{z:Db}{dx aA aC aH aT C' dx':Addr}{fs:List (Str×V)}(hD:H D=some (.ins C' dx' fs))(hA:H aA=some (.tup (awV z.aw)))(hC:H aC=some (.tup (z.cl.map V.int)))(hH:H aH=some (.tup (z.he.map V.int)))(hT:H aT=some (.tup (z.to.map V.int))):
 DbR C (upd H D (.ins C dx (dl g aA aC z.s aH aT z.ed z.pl))) D g z dx aA aC aH aT:=by
 erw[bh,6,6,6,6]
 . rw[aB (bL hA hD nofun)];exact hA
 . rw[aB (bL hC hD nofun)];exact hC
 . rw[aB (bL hH hD nofun)];exact hH
 . rw[aB (bL hT hD nofun)];exact hT
def DbAt(C:Addr)(H:Hp)(D g:Addr)(z:Db):Prop:=∃dx aA aC aH aT,DbR C H D g z dx aA aC aH aT
def DbAt.same(h:DbAt C H D g z)(s:Same H H'):DbAt C H' D g z:=by
 erw[_,_,_,_,_,r]at h;erw[_,_,_,_,_,r.same s]
def Gm(CG:Addr)(H:Hp)(g:Addr)(ns:List Str)(ts:List Tr)(p:Int):Prop:=∃(a b d:Addr)(tv:List V),GameAt CG H g a b d p/\H a=some (.tup (ns.map V.str))/\H b=some (.tup tv)/\TreesAt H tv ts/\H d=some (.lst ((ns.map (cr ts)).map V.int))
def Gm.same(h:Gm CG H g ns ts p)(s:Same H H'):Gm CG H' g ns ts p:=by
 erw[a,b,d,tv,h1,h2,h3,h4,h5]at h;erw[a,b,d,tv,h1.same s,s _ _ h2,s _ _ h3,h4.mono (bp s),s _ _ h5]
def Fu(a b:Addr)(p:Int)(d:Addr):(gf a b p d).lookup ("game":Str)=none:=rO _ _ _ _ ⋯ ⋯ ⋯ ⋯
def Gm.ne{C:Addr}{D:Addr}{dx:Addr}{fs:List (Str×V)}{v:V}(h:Gm CG H g ns ts p)(hD:H D=some (.ins C dx fs))(hg:fs.lookup ("game":Str)=some v):g≠D:=λz=>by
 erw[a,b,d,tv,%[dx'|e],_]at h;rw[z,hD]at e;cases e;rw[Fu]at hg;cases hg
def Gm.but{C:Addr}{D:Addr}{dx:Addr}{fs:List (Str×V)}(h:Gm CG H g ns ts p)(hD:H D=some (.ins C dx fs))(hg:g≠D)(s:SameBut D H H'):Gm CG H' g ns ts p:=by
 erw[a,b,d,tv,%[dx'|e],h2,h3,h4,h5]at h;erw[a,b,d,tv,%[dx'|s _ _ hg e],s _ _ (bL h2 hD nofun) h2,s _ _ (bL h3 hD nofun) h3,h4.mono (λc xs hc=>s _ _ (bL hc hD nofun) hc),s _ _ (bL h5 hD nofun) h5]
structure GmK(ns:List Str)(ts:List Tr)(p:Int):Prop where
 pr:Pr p
 p2:2<p
 p9:p<=999983
 n10:ns.length<=10
 t1:1<=ts.length
 t10:ts.length<=10
 tok:∀t∈ts,t.ok ns/\t.wf/\t.depth<=10/\t.size<=400
 tp:(ts.length:Int)<=p
 tc:∀t∈ts,∀x∈ns,(t.names.count x:Int)<p
def GmK.deg(k:GmK ns ts p):∀x∈ns,0<=cr ts x/\cr ts x<p:=λx hx=>by
 let t0:ts≠[]:=λz=>by have:=k.t1;rw[z]at this;cases this
 erw[6,rS t0 λt ht=>k.tc t ht x hx]
 have:=kK (ns:=ts.map λt=>(t.names.count x:Int)) #[t0,0]
 let%[t,_|e]:=List.mem_map.mp this;unfold cr;rw[←e];omega
def szs(ts:List Tr):Int:=(ts.map λt=>(t.size:Int)).sum
def eW(ns:List Str)(ts:List Tr)(p:Int)(z:Db):Db:=
 { z with pl:=z.pl+szs ts,aw:=if z.ed=hor z.s p (ts.map λt=>t.worth ns z.to p)then("believed",none)else("caught",some ((z.to.length:Int)+1)) }
def goOn(ns:List Str)(ts:List Tr)(p:Int)(z:Db):Db:=
 if z.to.length<ns.length then { z with aw:=("hear",some (cr ts (ns.getD z.to.length "")+1)) }else eW ns ts p z
def wP(ns:List Str)(ts:List Tr)(p s:Int)(z:Db):Db:=goOn ns ts p { z with s:=s,ed:=hor s p z.cl }
def lI(ns:List Str)(ts:List Tr)(p:Int)(xs:List Int)(z:Db):Db:=
 if ts.length=1 then wP ns ts p 0 { z with cl:=xs }else { z with cl:=xs,aw:=("coin",none) }
def eB(p:Int)(xs:List Int)(z:Db):Db:=
 { z with he:=xs,aw:=if(val p xs 0+val p xs 1) % p=z.ed then("coin",none)else("caught",some ((z.to.length:Int)+1)) }
def dC(ns:List Str)(ts:List Tr)(p:Int)(xs:List Int)(z:Db):Db:=
 if z.cl=[]then lI ns ts p xs { z with pl:=z.pl+(xs.length:Int) }else eB p xs { z with pl:=z.pl+(xs.length:Int) }
def dJ(ns:List Str)(ts:List Tr)(p r:Int)(z:Db):Db:=
 if z.he=[]then wP ns ts p r { z with pl:=z.pl+1 }else goOn ns ts p { z with pl:=z.pl+1,ed:=val p z.he r,to:=z.to++[r] }
def Db.new(ts:List Tr):Db:=%[("hear",some (ts.length:Int)),[],(0),[],[],(0)|(0)]
instance spIsNum:∀n p:Int,vs=[.int n,.int p]->Q (.bl (decide (0<=n)&&decide (n<p))) H:=1
def tT:FnScope Wd Wd (ag kz):=%[|5]
def uH(F:#["is_number",kz])(B:Bl mg):#[1,f,fd,Wd,spIsNum]:=by
 exists tT
 erw[n,p,1,q]at h;erw[_,(ac (aj (xO (aE pI rfl B.isinstance PyProof.Rows.boot_isinstance %[0,yW (v:=V.ty "int") rfl B.int io rfl|bc]) (xO (Ce (aE pI rfl B.isinstance PyProof.Rows.boot_isinstance %[0,yW (v:=V.ty "bool") rfl B.bool yF rfl|bc])) (xM (Ch sT dM ad (pv 0) (pv 1))))))),6];erw[0,_,_,"int",true,1,TyOf.int _,Do _ _,true,1,ee ?_];erw[0,_,_,"bool",false,1,TyOf.int _,uW _,false,1,true,1,ee ?_];erw[0,2,0,6]
 by_cases c:0<=n
 . rw[zD1 c]at q;apply aU c %[0,2|6];exact q
 . rw[zE1 c]at q;apply ay c ?_;exact q
instance spAllSz(C:Addr):∀(g:Addr)(ns:List Str)(ts:List Tr)(p:Int),vs=[.ref g]->Gm C H g ns ts p->GmK ns ts p->(∀H',Same H H'->Q (.int (szs ts)) H'):=1
def tY:FnScope WH WH (ag kI):=%[|5]
def Ez{ts:List Tr}(h:∀t∈ts,t.size<=400)(hl:ts.length<=10):0<=szs ts/\szs ts<=4000:=by
 have:∀l:List Tr,(∀t∈l,t.size<=400)->0<=szs l/\szs l<=400*(l.length:Int):=λl=>by
  induction l with
  |nil=>intro _;erw[qC1 _,qC1 _]
  |cons t r ih=>
    intro hh;let h1:=ih λu hu=>hh u (qK0 _ hu)
    let h2:=hh t (qB0 ..);let e:szs (t::r)=(t.size:Int)+szs r:=by unfold szs;rw[zY0,zV1]
    rw[e,zM0];omega
 have:=this ts h
 omega
def uO(F:#["all_sizes",kI])(B:Bl mg)(T:GTxt K mg C)(i7:#[12,"size_of",WD,spSize 10]):#[13,f,fd,WH,spAllSz C]:=by
 exists tY
 erw[g,ns,ts,p,1,%[a,b,d,tv,%[dx|hg],ha,hb,TS|hd],k,q]at h;refine⟨_,(ac (aj (aE (rX rfl) rfl B.sum jS1 (ae (cJ (N:=[]) (ix:=[]) (cl:=[]) rfl #[5] rfl
  (eR (az (pv 0) rfl)) (λ_ _ _=>du (ai i7 hr ⋯ rfl %[0|bc]))) bc)))),?_⟩
 let vl:=TS.length;erw[0,g,C,dx,_,0,hg,9,T.nT,nU ..,b,1,%[_|zB0 hb],λD hD=>?_];apply eY (K:=K) (xs:=tv) (λi H'=>H' D=some (.lst (((ts.take i).map λt=>(t.size:Int)).map V.int))/\Same H H') %[by rw[bh];rfl|zC0 hD _] (λi H' _ h=>zB0 (h.2 _ _ hb)) ?_ ?_
 . rintro i x H2 hx ⟨hl,S2⟩;let%[u,hu|Tu]:=TS.get hx;let%[_,uw,ud|us]:=k.tok u (qI0 hu);let hi:i<tv.length:=(zW0 hx).1
   have:=k.t10
   erw[0,x,u,1,Tu.mono (bp S2),uw,ud,us,λH3 S3=>?_];erw[_,S3 _ _ hl,6,Nx.of hi %[6|λb o e=>?_]]
   . rw[zF0,zF0,qE0];exact aO #[0]
   . rw[bh,qJ0,hu,zL0,zL0];rfl
   . rw[aB (bi e hD)];exact S3 _ _ (S2 _ _ e)
 . rintro H2 ⟨hl,S2⟩;rw[vl,qF0]at hl;let sr:=Ez (λt ht=>(k.tok t ht).2.2.2) k.t10;erw[D,0,zG0 hl,6,6,6]
   . intro n hn;let%[u,hu|1]:=List.mem_map.mp hn
     have:=(k.tok u hu).2.2.2
     omega
   . let e:((ts.map λt=>(t.size:Int)).sum)=szs ts:=rfl;rw[e];omega
   . exact q H2 S2
section
variable {C CG:Addr}
instance spTrees(C CG:Addr):∀(D g:Addr)(z:Db)(ns:List Str)(ts:List Tr)(p:Int),vs=[.ref D]->DbAt C H D g z->Gm CG H g ns ts p->GmK ns ts p->z.to.length=ns.length->cR z.to p->(∀H',SameBut D H H'->DbAt C H' D g (eW ns ts p z)->Q .non H'):=1
def zO:FnScope WB WB (ag qR):=%[|5]
def Ai(F:#["look_at_trees","Doubter.look_at_trees",qR])(B:Bl mg)(T:DTxt K mg C)(TG:GTxt K mg CG)(mW:Meth K CG "worth_at" fW)(GW:#[13,fW,fdW,WN,spWAt CG])(bW:Binds K fdW WN [])
 (l8:#[13,"all_sizes",WH,spAllSz CG]):#[14,f,fd,WB,spTrees C CG]:=by
 exists zO
 erw[D,g,z,ns,ts,p,1,%[dx,aA,aC,aH,aT|R],G,k,tl,po,q]at h;let hr13:Room 13 _:=hr;refine⟨_,(aa (aP (pv 0) (am aR (az (pv 0) rfl) (ai l8 hr ⋯ rfl %[az (pv 0) rfl|bc])) rfl)
  (ac (aF (af aN (az (pv 0) rfl) (bu (az (pv 0) rfl) TG.cl mW GW hr13 bW .nil aY %[az (pv 0) rfl,az (pv 0) rfl|bc]) (ao _))
   (ac (aP (pv 0) (aM %[aq|bc]) rfl))
   (ac (aP (pv 0) (aM %[aq,am aR (aE aD rfl B.len zC1 %[az (pv 0) rfl|bc]) ad|bc]) rfl))))),?_⟩
 let gD:=G.ne R.hD jy;erw[0,D,C,dx,_,0,R.hD,9,T.nP,zg,0,D,C,dx,_,0,R.hD,9,T.nG,jy,g,ns,ts,p,1,G,k,λH1 S1=>?_];let R1:=R.same S1;erw[2,0,D,C,dx,0,R1.hD,9,T.nP,cW,6];rw[uy];let S2:SameBut D H1 (upd H1 D (.ins C dx (dl g aA aC z.s aH aT z.ed (z.pl+szs ts)))):=SameBut.upd _;let R2:DbR C (upd H1 D (.ins C dx (dl g aA aC z.s aH aT z.ed (z.pl+szs ts)))) D g { z with pl:=z.pl+szs ts } dx aA aC aH aT:=DbR.set (z:={ z with pl:=z.pl+szs ts }) R1.hD R1.hA R1.hC R1.hH R1.hT;let G2:=(G.same S1).but R1.hD gD S2;generalize upd H1 D (.ins C dx (dl g aA aC z.s aH aT z.ed (z.pl+szs ts)))=H2 at S2 R2 G2;let G2':=G2;erw[a,b,d,tv,GA,ha,hb,TS,hd]at G2';erw[dg,hg]at GA;let p2:=k.p2;let p9:=k.p9;erw[0,D,C,dx,_,0,R2.hD,T.cl,T.nE,zi,0,D,C,dx,_,0,R2.hD,T.cl,T.nG,jy,g,dg,0,hg,rO _ _ _ _ ⋯ ⋯ ⋯ ⋯,0,D,C,dx,_,0,R2.hD,9,T.nT,yx,0,D,C,dx,_,0,R2.hD,9,T.nS,HC,6];erw[g,a,b,d,aT,ns,tv,ts,z.to,z.s,p,1,%[dg|hg],3,3,ha,hb,TS,k.t10,λt ht=>%[(k.tok t ht).1|(k.tok t ht).2.2.1],R2.hT,tl,po,λH3 S3=>?_];let R3:=R2.same S3;let S03:SameBut D H H3:=(zI0 S1).trans (S2.trans (zI0 S3));erw[1,0,6]
 by_cases c:z.ed=hor z.s p (ts.map λt=>t.worth ns z.to p)
 . apply aU (congrArg V.int c) ?_;erw[y1S,λt ht=>?_];let I:=zC0 ht (.tup [.str "believed"]);let R4:=R3.same I;erw[0,D,C,dx,0,R4.hD,9,T.nA,cW,6];rw[qV];let e:eW ns ts p z={ z with pl:=z.pl+szs ts,aw:=("believed",none) }:=by
    unfold eW;rw[Mt c]
   apply q _ (S03.trans ((zI0 I).trans (SameBut.upd _))) ?_;rw[e];erw[dx,t,aC,aH,aT,DbR.set (z:={ z with pl:=z.pl+szs ts,aw:=("believed",none) }) R4.hD bh R4.hC R4.hH R4.hT]
 . apply ay (λe=>c (V.int.inj e)) ?_;erw[0,D,C,dx,_,0,R3.hD,9,T.nT,yx,aT,0,.inr (zB0 R3.hT),2,y2S,λt ht=>?_];let I:=zC0 ht (.tup [.str "caught",.int (((z.to.map V.int).length:Int)+1)]);let R4:=R3.same I;erw[0,D,C,dx,0,R4.hD,9,T.nA,cW,6];rw[qV];let e:eW ns ts p z={ z with pl:=z.pl+szs ts,aw:=("caught",some ((z.to.length:Int)+1)) }:=by
    unfold eW;rw[Mq c]
   apply q _ (S03.trans ((zI0 I).trans (SameBut.upd _))) ?_;rw[e];erw[dx,t,aC,aH,aT,DbR.set (z:={ z with pl:=z.pl+szs ts,aw:=("caught",some ((z.to.length:Int)+1)) }) R4.hD ?_ R4.hC R4.hH R4.hT];rw[bh,zF0];rfl
def vb{xs:List Int}{j:Nat}(h:j<xs.length):atI (xs.map V.int) (j:Int)=some (.int (xs.getD j 0)):=cK (by rw[zZ0,zO0 h,qT0,zO0 h];rfl)
def Fx{ns:List Str}{j:Nat}(h:j<ns.length):(ns.map (cr ts)).getD j 0=cr ts (ns.getD j ""):=by
 rw[qT0,zZ0,qT0,zO0 h];rfl
instance spGo(C CG:Addr):∀(D g:Addr)(z:Db)(ns:List Str)(ts:List Tr)(p:Int),vs=[.ref D]->DbAt C H D g z->Gm CG H g ns ts p->GmK ns ts p->z.to.length<=ns.length->cR z.to p->(∀H',SameBut D H H'->DbAt C H' D g (goOn ns ts p z)->Q .non H'):=1
def JP:FnScope ["self","done"] WB (ag BO):=%[|5]
def Ha(F:#["go_on","Doubter.go_on",BO])(B:Bl mg)(T:DTxt K mg C)(TG:GTxt K mg CG)(mT:Meth K C "look_at_trees" fT)(GT:#[14,fT,fdT,WB,spTrees C CG])(bT:Binds K fdT WB []):#[15,f,fd,WB,spGo C CG]:=by
 exists JP
 erw[D,g,z,ns,ts,p,1,%[dx,aA,aC,aH,aT|R],G,k,tl,po,q]at h;refine⟨_,(aa #[ah,1,JP,aE aD rfl B.len zC1 %[az (pv 0) rfl|bc]]
  (ac (aF (af dM (pv 1) (aE aD rfl B.len zC1 %[az (az (pv 0) rfl) rfl|bc]) (ao _))
   (ac (aP (pv 0) (aM %[aq,am aR (aI ix_list (az (az (pv 0) rfl) rfl) (pv 1) #[1]) ad|bc]) rfl))
   (ac (aQ (bV (pv 0) T.cl mT GT hr bT .nil aY)))))),?_⟩
 let G':=G;erw[a,b,d,tv,%[dg|hg],ha,hb,TS,hd]at G';erw[0,D,C,dx,_,0,R.hD,9,T.nT,yx,aT,0,.inr (zB0 R.hT),6];erw[0,0,D,C,dx,_,0,R.hD,9,T.nG,jy,g,CG,dg,_,0,hg,TG.cl,TG.nS,pG ..,a,0,.inr (zB0 ha),2,0,6]
 by_cases c:z.to.length<ns.length
 . apply aU (by rw[zF0,zF0];omega) ?_;let ej:((z.to.map V.int).length:Int)=(z.to.length:Int):=by rw[zF0]
   let hx:ns.getD z.to.length ""∈ns:=by
    rw[qT0,zO0 c];exact qO0 c
   let dr:=k.deg _ hx;erw[0,D,C,dx,_,0,R.hD,9,T.nG,jy,g,CG,dg,_,0,hg,TG.cl,TG.nD,Dz ..,0,d,_,2,zG0 hd,by rw[ej];exact vb (by rw[zF0];exact c),2,y2S,λt ht=>?_];rw[Fx c]at *
   let I:=zC0 ht (.tup [.str "hear",.int (cr ts (ns.getD z.to.length "")+1)]);let R4:=R.same I;erw[0,D,C,dx,0,R4.hD,9,T.nA,cW,6];rw[qV];let e:goOn ns ts p z={ z with aw:=("hear",some (cr ts (ns.getD z.to.length "")+1)) }:=by
    unfold goOn;rw[Mt c]
   apply q _ ((zI0 I).trans (SameBut.upd _)) ?_;rw[e];erw[dx,t,aC,aH,aT,DbR.set (z:={ z with aw:=("hear",some (cr ts (ns.getD z.to.length "")+1)) }) R4.hD bh R4.hC R4.hH R4.hT]
 . apply ay (by rw[zF0,zF0];omega) ?_;let e:goOn ns ts p z=eW ns ts p z:=by
    unfold goOn;rw[Mq c]
   rw[e]at q;erw[0,D,dx,0,R.hD,HE,6];erw[D,g,z,ns,ts,p,1,%[dx,aA,aC,aH,aT|R],G,k,3,po,q]
instance spBeg(C CG:Addr):∀(D g:Addr)(z:Db)(s:Int)(ns:List Str)(ts:List Tr)(p:Int),vs=[.ref D,.int s]->DbAt C H D g z->Gm CG H g ns ts p->GmK ns ts p->z.to.length<=ns.length->cR z.to p->(∀H',SameBut D H H'->DbAt C H' D g (wP ns ts p s z)->Q .non H'):=1
def zP:FnScope WO WO (ag qS):=%[|5]
def Aj(F:#["begin_rounds","Doubter.begin_rounds",qS])(T:DTxt K mg C)(TG:GTxt K mg CG)(mM:Meth K CG "mix" fM)(GM:#[1,fM,fdM,WY,spMix CG])(bM:Binds K fdM WY [])
 (mG:Meth K C "go_on" fG)(GG:#[15,fG,fdG,WB,spGo C CG])(bG:Binds K fdG WB []):#[16,f,fd,WO,spBeg C CG]:=by
 exists zP
 erw[D,g,z,s,ns,ts,p,1,%[dx,aA,aC,aH,aT|R],G,k,tl,po,q]at h;let MB:Room 1 _:=hr.mono ⋯;refine⟨_,(aa (aP (pv 0) (pv 1) rfl)
  (aa (aP (pv 0) (bu (az (pv 0) rfl) TG.cl mM GM MB bM .nil aY %[az (pv 0) rfl,1|bc]) rfl)
  (ac (aQ (bV (pv 0) T.cl mG GG hr bG .nil aY))))),?_⟩
 let gD:=G.ne R.hD jy;let p2:=k.p2;let p9:=k.p9;erw[0,0,D,C,dx,0,R.hD,9,T.nS,cW,6];rw[FN];let S1:SameBut D H (upd H D (.ins C dx (dl g aA aC s aH aT z.ed z.pl))):=SameBut.upd _;let R1:DbR C (upd H D (.ins C dx (dl g aA aC s aH aT z.ed z.pl))) D g { z with s:=s } dx aA aC aH aT:=DbR.set (z:={ z with s:=s }) R.hD R.hA R.hC R.hH R.hT;let G1:=G.but R.hD gD S1;generalize upd H D (.ins C dx (dl g aA aC s aH aT z.ed z.pl))=H1 at S1 R1 G1;let G1':=G1;erw[a,b,d,tv,%[dg|hg],ha,hb,TS,hd]at G1';erw[0,D,C,dx,_,0,R1.hD,9,T.nG,jy,g,dg,0,hg,rO _ _ _ _ ⋯ ⋯ ⋯ ⋯,0,D,C,dx,_,0,R1.hD,9,T.nC,HH,0,6];erw[g,a,b,d,aC,z.cl,s,p,1,%[dg|hg],3,3,.inr R1.hC,6];erw[0,D,C,dx,0,R1.hD,9,T.nE,cW,6];rw[xG];let S2:SameBut D H1 (upd H1 D (.ins C dx (dl g aA aC s aH aT (hor s p z.cl) z.pl))):=SameBut.upd _;let R2:DbR C (upd H1 D (.ins C dx (dl g aA aC s aH aT (hor s p z.cl) z.pl))) D g { z with s:=s,ed:=hor s p z.cl } dx aA aC aH aT:=DbR.set (z:={ z with s:=s,ed:=hor s p z.cl }) R1.hD R1.hA R1.hC R1.hH R1.hT;let G2:=G1.but R1.hD gD S2;generalize upd H1 D (.ins C dx (dl g aA aC s aH aT (hor s p z.cl) z.pl))=H2 at S2 R2 G2;erw[0,D,dx,0,R2.hD,DM,6];erw[D,g,_,ns,ts,p,1,%[dx,aA,aC,aH,aT|R2],G2,k,tl,po,λH3 S3 D3=>q H3 (S1.trans (S2.trans S3)) D3]
instance spClaims(C CG:Addr):∀(D g l:Addr)(z:Db)(xs:List Int)(ns:List Str)(ts:List Tr)(p:Int),vs=[.ref D,.ref l]->DbAt C H D g z->Gm CG H g ns ts p->GmK ns ts p->H l=some (.tup (xs.map V.int))->z.to.length<=ns.length->cR z.to p->(∀H',SameBut D H H'->DbAt C H' D g (lI ns ts p xs z)->Q .non H'):=1
def xx:FnScope WG WG (ag oC):=%[|5]
def xV(F:#["hear_claims","Doubter.hear_claims",oC])(B:Bl mg)(T:DTxt K mg C)(TG:GTxt K mg CG)(mB:Meth K C "begin_rounds" fB)(GB:#[16,fB,fdB,WO,spBeg C CG])(bB:Binds K fdB WO []):#[17,f,fd,WG,spClaims C CG]:=by
 exists xx
 erw[D,g,l,z,xs,ns,ts,p,1,%[dx,aA,aC,aH,aT|R],G,k,hl,tl,po,q]at h;refine⟨_,(aa (aP (pv 0) (pv 1) rfl)
  (ac (aF (af aN (aE aD rfl B.len zC1 %[az (az (pv 0) rfl) rfl|bc]) ad (ao _))
   (ac (aQ (bu (pv 0) T.cl mB GB hr bB .nil aY %[ad|bc])))
   (ac (aP (pv 0) (aM %[aq|bc]) rfl))))),?_⟩
 let gD:=G.ne R.hD jy;erw[0,0,D,C,dx,0,R.hD,9,T.nC,cW,6];rw[FP];let S1:SameBut D H (upd H D (.ins C dx (dl g aA l z.s aH aT z.ed z.pl))):=SameBut.upd _;let R1:DbR C (upd H D (.ins C dx (dl g aA l z.s aH aT z.ed z.pl))) D g { z with cl:=xs } dx aA l aH aT:=DbR.set (z:={ z with cl:=xs }) R.hD R.hA hl R.hH R.hT;let G1:=G.but R.hD gD S1;generalize upd H D (.ins C dx (dl g aA l z.s aH aT z.ed z.pl))=H1 at S1 R1 G1;let G1':=G1;erw[a,b,d,tv,%[dg|hg],ha,hb,TS,hd]at G1';let vl:=TS.length;erw[0,D,C,dx,_,0,R1.hD,9,T.nG,jy,g,CG,dg,_,0,hg,TG.cl,TG.nT,nU ..,b,0,.inr (zB0 hb),1,0,6]
 by_cases c:ts.length=1
 . apply aU (congrArg V.int #[0]) ?_;let e:lI ns ts p xs z=wP ns ts p 0 { z with cl:=xs }:=by
    unfold lI;rw[Mt c]
   rw[e]at q;erw[0,D,dx,0,R1.hD,FT,6];erw[D,g,_,(0),ns,ts,p,1,%[dx,aA,l,aH,aT|R1],G1,k,tl,po,λH3 S3 D3=>q H3 (S1.trans S3) D3]
 . apply ay (λe=>c (by have:=V.int.inj e;omega)) ?_;let e:lI ns ts p xs z={ z with cl:=xs,aw:=("coin",none) }:=by
    unfold lI;rw[Mq c]
   erw[y1S,λt ht=>?_];let I:=zC0 ht (.tup [.str "coin"]);let R4:=R1.same I;erw[0,D,C,dx,0,R4.hD,9,T.nA,cW,6];rw[qV];apply q _ (S1.trans ((zI0 I).trans (SameBut.upd _))) ?_;rw[e];erw[dx,t,l,aH,aT,DbR.set (z:={ z with cl:=xs,aw:=("coin",none) }) R4.hD bh R4.hC R4.hH R4.hT]
instance spHRow(C CG:Addr):∀(D g l:Addr)(z:Db)(xs:List Int)(ns:List Str)(ts:List Tr)(p:Int),vs=[.ref D,.ref l]->DbAt C H D g z->Gm CG H g ns ts p->GmK ns ts p->H l=some (.tup (xs.map V.int))->lN xs p->(∀H',SameBut D H H'->DbAt C H' D g (eB p xs z)->Q .non H'):=1
def EI:FnScope WG WG (ag xC):=%[|5]
def Fa(F:#["hear_row","Doubter.hear_row",xC])(B:Bl mg)(T:DTxt K mg C)(TG:GTxt K mg CG)(l9:#[5,"both_ends",["values","p"],spEnds]):#[6,f,fd,WG,spHRow C CG]:=by
 exists EI
 erw[D,g,l,z,xs,ns,ts,p,1,%[dx,aA,aC,aH,aT|R],G,k,hl,ro,q]at h;refine⟨_,(aa (aP (pv 0) (pv 1) rfl)
  (ac (aF (af aN (ai l9 hr ⋯ rfl %[1,az (az (pv 0) rfl) rfl|bc]) (az (pv 0) rfl) (ao _))
   (ac (aP (pv 0) (aM %[aq|bc]) rfl))
   (ac (aP (pv 0) (aM %[aq,am aR (aE aD rfl B.len zC1 %[az (pv 0) rfl|bc]) ad|bc]) rfl))))),?_⟩
 let gD:=G.ne R.hD jy;erw[0,0,D,C,dx,0,R.hD,9,T.nH,cW,6];rw[FO];let S1:SameBut D H (upd H D (.ins C dx (dl g aA aC z.s l aT z.ed z.pl))):=SameBut.upd _;let R1:DbR C (upd H D (.ins C dx (dl g aA aC z.s l aT z.ed z.pl))) D g { z with he:=xs } dx aA aC l aT:=DbR.set (z:={ z with he:=xs }) R.hD R.hA R.hC hl R.hT;let G1:=G.but R.hD gD S1;generalize upd H D (.ins C dx (dl g aA aC z.s l aT z.ed z.pl))=H1 at S1 R1 G1;let G1':=G1;erw[a,b,d,tv,%[dg|hg],ha,hb,TS,hd]at G1';erw[0,0,D,C,dx,_,0,R1.hD,9,T.nG,jy,g,CG,dg,_,0,hg,TG.cl,TG.nF,iJ ..,l,xs,p,1,.inr R1.hH,ro,k.pr,k.p9,λH2 S2=>?_];let R2:=R1.same S2;erw[0,D,C,dx,_,0,R2.hD,9,T.nE,zi,1,0,6];let S02:SameBut D H H2:=S1.trans (zI0 S2)
 by_cases c:(val p xs 0+val p xs 1) % p=z.ed
 . apply aU (congrArg V.int c) ?_;let e:eB p xs z={ z with he:=xs,aw:=("coin",none) }:=by
    unfold eB;rw[Mt c]
   erw[y1S,λt ht=>?_];let I:=zC0 ht (.tup [.str "coin"]);let R4:=R2.same I;erw[0,D,C,dx,0,R4.hD,9,T.nA,cW,6];rw[qV];apply q _ (S02.trans ((zI0 I).trans (SameBut.upd _))) ?_;rw[e];erw[dx,t,aC,l,aT,DbR.set (z:={ z with he:=xs,aw:=("coin",none) }) R4.hD bh R4.hC R4.hH R4.hT]
 . apply ay (λe=>c (V.int.inj e)) ?_;let e:eB p xs z={ z with he:=xs,aw:=("caught",some ((z.to.length:Int)+1)) }:=by
    unfold eB;rw[Mq c]
   erw[0,D,C,dx,_,0,R2.hD,9,T.nT,yx,aT,0,.inr (zB0 R2.hT),2,y2S,λt ht=>?_];let I:=zC0 ht (.tup [.str "caught",.int (((z.to.map V.int).length:Int)+1)]);let R4:=R2.same I;erw[0,D,C,dx,0,R4.hD,9,T.nA,cW,6];rw[qV];apply q _ (S02.trans ((zI0 I).trans (SameBut.upd _))) ?_;rw[e];erw[dx,t,aC,l,aT,DbR.set (z:={ z with he:=xs,aw:=("caught",some ((z.to.length:Int)+1)) }) R4.hD ?_ R4.hC R4.hH R4.hT];rw[bh,zF0];rfl
end
section
variable {C CG:Addr}
def li{K:W.Frag}{H:Hp}{a:Addr}{xs:List Int}(h:H a=some (.tup (xs.map V.int))):Rep K H (.ref a) (.tuple (xs.map PyData.int)):=.tup (zB0 h) (vI xs)
def zf(xs:List Int):PyData.eqv (.tuple (xs.map PyData.int)) (.tuple [])=decide (xs=[]):=by
 cases xs with
 |nil=>rfl
 |cons a r=>rfl
def kW(ns:List Int):SeqAt.shaped (.tuple (ns.map PyData.int))=true:=by
 simp [SeqAt.shaped,PyData.canLay0,PyData.depth,W.ke_canLayAll0,W.ke_depthAll]
instance spHear(C CG:Addr):∀(D g l:Addr) (z:Db) (xs:List Int) (ns:List Str) (ts:List Tr) (p:Int),vs=[.ref D,.ref l]->DbAt C H D g z->Gm CG H g ns ts p->GmK ns ts p->H l=some (.lst (xs.map V.int))->z.aw=(("hear":Str),some (xs.length:Int))->cR xs p->xs.length<=500->(z.cl≠[]->lN xs p)->z.to.length<=ns.length->cR z.to p->(∀H',SameBut D H H'->DbAt C H' D g (dC ns ts p xs z)->Q .non H'):=1
def BL:FnScope WG WG (ag uo):=%[|5]
def CB(F:#["hear","Doubter.hear",uo])(B:Bl mg)(T:DTxt K mg C)(TG:GTxt K mg CG)(fe:#[1,"is_number",Wd,spIsNum])
 (mC:Meth K C "hear_claims" fC)(GC:#[17,fC,fdC,WG,spClaims C CG])(bC:Binds K fdC WG [])
 (mR:Meth K C "hear_row" fR)(GR:#[6,fR,fdR,WG,spHRow C CG])(bR:Binds K fdR WG []):#[18,f,fd,WG,spHear C CG]:=by
 exists BL
 erw[D,g,l,z,xs,ns,ts,p,1,%[dx,aA,aC,aH,aT|R],G,k,hl,ea,xo,xl,ro,tl,po,q]at h;let hr6:Room 6 _:=hr.mono ⋯;refine⟨_,(aa (aF (af lE (aI aJ (az (pv 0) rfl) ad #[1]) aq (ao _)) aX ax)
  (aa (aF (af lE (aE aD rfl B.len zC1 %[1|bc]) (aI aJ (az (pv 0) rfl) ad #[1]) (ao _)) aX ax)
  (aa (aF (eQ (dN (aE (og rfl) rfl B.all jF0 (ae (cJ (N:=WB) (ix:=[0]) rfl
   #[3] rfl
   (ia (pv 1)) (λ_ _ _=>du (ai fe hr ⋯ rfl %[0,lm K (lm K (pv 1))|bc]))) bc)))) aX ax)
  (aa (aP (pv 0) (am aR (az (pv 0) rfl) (aE aD rfl B.len zC1 %[1|bc])) rfl)
  (ac (aF (af (Cn hr.units) (az (pv 0) rfl) (aM bc) (ao _))
   (ac (aQ (bu (pv 0) T.cl mC GC hr bC .nil aY %[aW bz rfl B.tuple cj %[1|bc]|bc])))
   (ac (aQ (bu (pv 0) T.cl mR GR hr6 bR .nil aY %[aW bz rfl B.tuple cj %[1|bc]|bc]))))))))),?_⟩
 let gD:=G.ne R.hD jy;let hA:=R.hA;rw[ea]at hA;let hA:H aA=some (.tup [.str "hear",.int (xs.length:Int)]):=hA;erw[0,D,C,dx,_,0,R.hD,9,T.nA,DN,aA,_,2,zB0 hA,cK (j:=0) rfl,1,0,6];apply wA rfl ?_;erw[0,l,0,.inl (zG0 hl),0,D,C,dx,_,0,R.hD,9,T.nA,DN,aA,_,2,zB0 hA,cK (j:=1) rfl,1,0,6];apply wA (by rw[zF0]) ?_;let G':=G;erw[a,b,d,tv,%[dg|hg],ha,hb,TS,hd]at G';erw[0,l,1,%[_|zG0 hl],λW hW=>?_];apply jz (K:=K) (xs:=xs.map V.int) (λi H'=>H' W=some (.lst ((List.replicate i true).map V.bl))/\Same H H') %[by rw[bh];rfl|zC0 hW _] (λi H' _ h=>zG0 (h.2 _ _ hl)) ?_ ?_
 . rintro i v H2 hv ⟨hW2,S2⟩;let hi:=(zW0 hv).1;rw[zZ0]at hv;let%[n,hn|1]:=qQ0 hv;let nr:=xo n (qI0 hn);erw[0,0,D,C,dx,_,0,S2 _ _ R.hD,9,T.nG,jy,g,CG,dg,_,0,S2 _ _ hg,TG.cl,TG.nF,iJ ..,n,p,1,6];rw[zD1 nr.1,zD1 nr.2];erw[_,hW2,6,Nx.of hi %[6|λb o e=>?_]]
   . rw[zF0,zT1];rw[zF0]at hi;exact aO #[0]
   . rw[bh,List.replicate_succ',zL0];rfl
   . rw[aB (bi e hW)];exact S2 _ _ e
 rintro H1 ⟨hW1,S1⟩;erw[W,0,zG0 hW1,6];let ea:(List.replicate (xs.map V.int).length true).all id=true:=by simp
 rw [ea];erw[0,6];apply cV ?_;let R1:=R.same S1;let G1:=G.same S1;erw[0,D,C,dx,_,0,R1.hD,9,T.nP,zg,0,l,0,.inl (zG0 (S1 _ _ hl)),2,0,D,C,dx,0,R1.hD,9,T.nP,cW,6];rw[uy,zF0];let S2:SameBut D H1 (upd H1 D (.ins C dx (dl g aA aC z.s aH aT z.ed (z.pl+(xs.length:Int))))):=SameBut.upd _;let R2:DbR C (upd H1 D (.ins C dx (dl g aA aC z.s aH aT z.ed (z.pl+(xs.length:Int))))) D g { z with pl:=z.pl+(xs.length:Int) } dx aA aC aH aT:=DbR.set (z:={ z with pl:=z.pl+(xs.length:Int) }) R1.hD R1.hA R1.hC R1.hH R1.hT;let G2:=G1.but R1.hD gD S2;let hl2:upd H1 D (.ins C dx (dl g aA aC z.s aH aT z.ed (z.pl+(xs.length:Int)))) l=some (.lst (xs.map V.int)):=by
  rw[aB (bL hl R.hD nofun)];exact S1 _ _ hl
 generalize upd H1 D (.ins C dx (dl g aA aC z.s aH aT z.ed (z.pl+(xs.length:Int))))=H2 at S2 R2 G2 hl2;erw[0,D,C,dx,_,0,R2.hD,9,T.nC,HH,y0S,λu hu=>?_];let I:=zC0 hu (.tup []);let R3:=R2.same I;let hu3:upd H2 u (.tup []) u=some (.tup []):=bh;let hl3:=I _ _ hl2;let G3:=G2.same I;generalize upd H2 u (.tup [])=H3 at I R3 hu3 hl3 G3;let S03:SameBut D H H3:=(zI0 S1).trans (S2.trans (zI0 I));erw[_,_,li R3.hC,li (xs:=[]) hu3,kW _,kW [],0,6];rw[show PyData.eqv (.tuple (z.cl.map PyData.int)) (.tuple (([]:List Int).map PyData.int))=decide (z.cl=[])from zf z.cl]
 by_cases c:z.cl=[]
 . apply aU c ?_;let e:dC ns ts p xs z=lI ns ts p xs { z with pl:=z.pl+(xs.length:Int) }:=by
    unfold dC;rw[Mt c]
   rw[e]at q;erw[0,D,dx,0,R3.hD,dl_n6,6];erw[0,l,0,.inl %[zG0 hl3|λt ht=>?_]];let J:=zC0 ht (.tup (xs.map V.int));erw[D,g,t,_,xs,ns,ts,p,1,%[dx,aA,aC,aH,aT|R3.same J],G3.same J,k,bh,tl,po,λH5 S5 D5=>q H5 (S03.trans ((zI0 J).trans S5)) D5]
 . apply ay c ?_;let e:dC ns ts p xs z=eB p xs { z with pl:=z.pl+(xs.length:Int) }:=by
    unfold dC;rw[Mq c]
   rw[e]at q;erw[0,D,dx,0,R3.hD,dl_n8,6];erw[0,l,0,.inl %[zG0 hl3|λt ht=>?_]];let J:=zC0 ht (.tup (xs.map V.int));erw[D,g,t,_,xs,ns,ts,p,1,%[dx,aA,aC,aH,aT|R3.same J],G3.same J,k,bh,ro c,λH5 S5 D5=>q H5 (S03.trans ((zI0 J).trans S5)) D5]
instance spToss(C CG:Addr):∀(D g:Addr) (z:Db) (r:Int) (ns:List Str) (ts:List Tr) (p:Int),vs=[.ref D,.int r]->DbAt C H D g z->Gm CG H g ns ts p->GmK ns ts p->z.aw.1="coin"->0<=r->r<p->z.to.length<=ns.length->(z.he≠[]->lN z.he p/\z.to.length<ns.length)->cR z.to p->(∀H',SameBut D H H'->DbAt C H' D g (dJ ns ts p r z)->Q .non H'):=1
def BJ:FnScope We We (ag uk):=%[|5]
def FV(a:Str×Option Int):(awV a)[0]?=some (.str a.1):=by
 unfold awV
 split <;> rfl
instance rCatA(K:W.Frag)(x:V)(y:V)(H:Hp)(Q:VK):∀a b xs ys,x=.ref a->y=.ref b->SqT K H a xs->SqT K H b ys->ys≠[]->xs.length+ys.length<=sizeLine->(xs=[]->Q (.ref b) H)->(xs≠[]->∀p,H p=none->Q (.ref p) (upd H p (.tup (xs++ys)))):=0
def EU:OpR X (binaryOp .Add) (rCatA X.K):=by
 exists 4,x,y,v,u,Q,I,rx,ry,h;erw[a,b,xs,ys,ex,ey,ha,hb,hy,hz,q1,q2]at h
 by_cases c:xs=[]
 . subst c;exact nv Mp s σ H x y v u Q I rx ry %[a,b,ys,ex,ey,ha,hb|q1 rfl]
 . exact op_catT Mp s σ H x y v u Q I rx ry %[a,b,xs,ys,ex,ey,ha,hb,c,hz,λz=>absurd z hy|λ_=>q2 c]
def Cy(F:#["toss","Doubter.toss",uk])(B:Bl mg)(T:DTxt K mg C)(TG:GTxt K mg CG)(fe:#[1,"is_number",Wd,spIsNum])(cy:#[4,"value_at",WJ,spVal])
 (mB:Meth K C "begin_rounds" fB)(GB:#[16,fB,fdB,WO,spBeg C CG])(bB:Binds K fdB WO [])
 (mG:Meth K C "go_on" fG)(GG:#[15,fG,fdG,WB,spGo C CG])(bG:Binds K fdG WB []):#[17,f,fd,We,spToss C CG]:=by
 exists BJ
 erw[D,g,z,r,ns,ts,p,1,%[dx,aA,aC,aH,aT|R],G,k,ea,r0,r1,tl,ro,po,q]at h;let hr15:Room 15 _:=hr.mono ⋯;refine⟨_,(aa (aF (af lE (aI aJ (az (pv 0) rfl) ad #[1]) aq (ao _)) aX ax)
  (aa (aF (eQ (dN (ai fe hr ⋯ rfl %[1,az (az (pv 0) rfl) rfl|bc]))) aX ax)
  (aa (aP (pv 0) (am aR (az (pv 0) rfl) ad) rfl)
  (ac (aF (af (Cn hr.units) (az (pv 0) rfl) (aM bc) (ao _))
   (ac (aQ (bu (pv 0) T.cl mB GB hr bB .nil aY %[1|bc])))
   (aa (aP (pv 0) (ai cy hr ⋯ rfl %[az (pv 0) rfl,1,az (az (pv 0) rfl) rfl|bc]) rfl)
   (aa (aP (pv 0) (am EU (az (pv 0) rfl) (aM %[1|bc])) rfl)
   (ac (aQ (bV (pv 0) T.cl mG GG hr15 bG .nil aY)))))))))),?_⟩
 let gD:=G.ne R.hD jy;let G':=G;erw[a,b,d,tv,%[dg|hg],ha,hb,TS,hd]at G';erw[0,D,C,dx,_,0,R.hD,9,T.nA,DN,aA,_,2,zB0 R.hA,cK (j:=0) (FV _),1,0,6];apply wA (congrArg V.str ea) ?_;erw[0,0,D,C,dx,_,0,R.hD,9,T.nG,jy,g,CG,dg,_,0,hg,TG.cl,TG.nF,iJ ..,r,p,1,6];rw[zD1 r0,zD1 r1];erw[0,6];apply cV ?_;erw[0,D,C,dx,_,0,R.hD,9,T.nP,zg,2,0,D,C,dx,0,R.hD,9,T.nP,cW,6];rw[uy];let S2:SameBut D H (upd H D (.ins C dx (dl g aA aC z.s aH aT z.ed (z.pl+1)))):=SameBut.upd _;let R2:DbR C (upd H D (.ins C dx (dl g aA aC z.s aH aT z.ed (z.pl+1)))) D g { z with pl:=z.pl+1 } dx aA aC aH aT:=DbR.set (z:={ z with pl:=z.pl+1 }) R.hD R.hA R.hC R.hH R.hT;let G2:=G.but R.hD gD S2;generalize upd H D (.ins C dx (dl g aA aC z.s aH aT z.ed (z.pl+1)))=H2 at S2 R2 G2;erw[0,D,C,dx,_,0,R2.hD,9,T.nH,HG,y0S,λu hu=>?_];let I:=zC0 hu (.tup []);let R3:=R2.same I;let hu3:upd H2 u (.tup []) u=some (.tup []):=bh;let G3:=G2.same I;generalize upd H2 u (.tup [])=H3 at I R3 hu3 G3;let S03:SameBut D H H3:=S2.trans (zI0 I);erw[_,_,li R3.hH,li (xs:=[]) hu3,kW _,kW [],0,6];rw[show PyData.eqv (.tuple (z.he.map PyData.int)) (.tuple (([]:List Int).map PyData.int))=decide (z.he=[])from zf z.he]
 by_cases c:z.he=[]
 . apply aU c ?_;let e:dJ ns ts p r z=wP ns ts p r { z with pl:=z.pl+1 }:=by
    unfold dJ;rw[Mt c]
   rw[e]at q;erw[0,D,dx,0,R3.hD,FT,0,6];erw[D,g,_,r,ns,ts,p,1,%[dx,aA,aC,aH,aT|R3],G3,k,tl,po,λH5 S5 D5=>q H5 (S03.trans S5) D5]
 . apply ay c ?_;let%[rok|tl']:=ro c;let e:dJ ns ts p r z=goOn ns ts p { z with pl:=z.pl+1,ed:=val p z.he r,to:=z.to++[r] }:=by
    unfold dJ;rw[Mq c]
   rw [e]at q;let G3':=G3;erw[a3,b3,d3,tv3,%[dg3|hg3],_]at G3';erw[0,D,C,dx,_,0,R3.hD,9,T.nH,HG,0,0,D,C,dx,_,0,R3.hD,9,T.nG,jy,g,CG,dg3,_,0,hg3,TG.cl,TG.nF,iJ ..,aH,z.he,r,p,1,.inr R3.hH,rok,k.pr,k.p9,r0,r1,λH4 S4=>?_];let R4:=R3.same S4;let G4:=G3.same S4;erw[0,D,C,dx,0,R4.hD,9,T.nE,cW,6];rw[xG];let S5:SameBut D H4 (upd H4 D (.ins C dx (dl g aA aC z.s aH aT (val p z.he r) (z.pl+1)))):=SameBut.upd _;let R5:DbR C (upd H4 D (.ins C dx (dl g aA aC z.s aH aT (val p z.he r) (z.pl+1)))) D g { z with pl:=z.pl+1,ed:=val p z.he r } dx aA aC aH aT:=DbR.set (z:={ z with pl:=z.pl+1,ed:=val p z.he r }) R4.hD R4.hA R4.hC R4.hH R4.hT;let G5:=G4.but R4.hD gD S5;generalize upd H4 D (.ins C dx (dl g aA aC z.s aH aT (val p z.he r) (z.pl+1)))=H5 at S5 R5 G5;let S05:SameBut D H H5:=S03.trans ((zI0 S4).trans S5);erw[0,D,C,dx,_,0,R5.hD,9,T.nT,yx,0,y1S,λt ht=>?_];let J:=zC0 ht (.tup [.int r]);let R6:=R5.same J;let G6:=G5.same J;let ht6:upd H5 t (.tup [.int r]) t=some (.tup [.int r]):=bh;generalize upd H5 t (.tup [.int r])=H6 at J R6 G6 ht6;let n10:=k.n10;let fin:∀(x:Addr)(H7:Hp),Same H6 H7->H7 x=some (.tup ((z.to++[r]).map V.int))->(ps_fin:True)->∀QQ:Hp->Prop,(∀H8,SameBut D H7 H8->DbR C H8 D g { z with pl:=z.pl+1,ed:=val p z.he r,to:=z.to++[r] } dx aA aC aH x->Gm CG H8 g ns ts p->QQ H8)->QQ (upd H7 D (.ins C dx (dl g aA aC z.s aH x (val p z.he r) (z.pl+1)))):=by
    intro x H7 s7 hx _ QQ hq;let R7:=R6.same s7;exact hq _ (SameBut.upd _) (DbR.set (z:={ z with pl:=z.pl+1,ed:=val p z.he r,to:=z.to++[r] }) R7.hD R7.hA R7.hC R7.hH hx) ((G6.same s7).but R7.hD gD (SameBut.upd _))
   let po2:cR (z.to++[r]) p:=λx hx=>by
    rcases qG0 hx with h | h
    . exact po x h
    . rw[zR0 h];erw[r0,r1]
   let tl2:(z.to++[r]).length<=ns.length:=by
    rw[zK0,qL0];omega
   let S06:SameBut D H H6:=S05.trans (zI0 J);erw[aT,t,2,zB0 R6.hT,zB0 ht6,(λz=>by cases z),aV (by rw[zF0];show z.to.length+1<=1000;omega),λz0=>?_,λz0 p7 hp7=>?_]
   . let e0:z.to=[]:=#[z0,0]
     erw[0,D,C,dx,0,R6.hD,9,T.nT,cW,6];rw[BZ];apply fin t H6 (Same.refl _) (by rw[e0];exact ht6) trivial _ λH8 S8 R8 G8=>?_
     erw[0,D,dx,0,R8.hD,DM,6];erw[D,g,_,ns,ts,p,1,%[dx,aA,aC,aH,t|R8],G8,k,tl2,po2,λH9 S9 D9=>q H9 (S06.trans (S8.trans S9)) D9]
   . let L:=zC0 hp7 (.tup (z.to.map V.int++[.int r]));let R7:=R6.same L;erw[0,D,C,dx,0,R7.hD,9,T.nT,cW,6];rw[BZ];apply fin p7 _ L (by rw[bh,zL0];rfl) trivial _ λH8 S8 R8 G8=>?_
     erw[0,D,dx,0,R8.hD,DM,6];erw[D,g,_,ns,ts,p,1,%[dx,aA,aC,aH,p7|R8],G8,k,tl2,po2,λH9 S9 D9=>q H9 (S06.trans ((zI0 L).trans (S8.trans S9))) D9]
instance spDInit(C CG:Addr):∀(D g dx:Addr)(ns:List Str)(ts:List Tr)(p:Int),vs=[.ref D,.ref g]->H D=some (.ins C dx [])->Gm CG H g ns ts p->g≠D->(∀H',SameBut D H H'->DbAt C H' D g (Db.new ts)->Q .non H'):=1
def BK:FnScope WP WP (ag ul):=%[|5]
instance spOf(C:Addr)(t:Db->V->Hp->Prop):∀(D g:Addr)(z:Db),vs=[.ref D]->DbAt C H D g z->(∀v,t z v H->Q v H):=1
def EJ:FnScope WB WB (ag xD):=%[|5]
def Fb(F:#["due","Doubter.due",xD])(T:DTxt K mg C):#[1,f,fd,WB,spOf C λz v _=>v=.int z.ed]:=by
 exists EJ
 erw[D,g,z,1,%[dx,aA,aC,aH,aT|R],q]at h;erw[_,(ac (aj (az (pv 0) rfl))),6];erw[0,D,C,dx,_,0,R.hD,9,T.nE,zi,q _ rfl]
def zN:FnScope WB WB (ag qQ):=%[|5]
def Ah(F:#["waits","Doubter.waits",qQ])(T:DTxt K mg C):#[1,f,fd,WB,spOf C λz v H=>∃a,v=.ref a/\H a=some (.tup (awV z.aw))]:=by
 exists zN
 erw[D,g,z,1,%[dx,aA,aC,aH,aT|R],q]at h;erw[_,(ac (aj (az (pv 0) rfl))),6];erw[0,D,C,dx,_,0,R.hD,9,T.nA,DN,q _ %[aA,1|R.hA]]
end
section
variable {C CG:Addr}
def AwW(x:Str):Prop:=x="hear"∨x="coin"∨x="caught"∨x="believed"
end
section
variable {C CG:Addr}
def d1(g:Addr):List (Str×V):=[("game",.ref g)]
def d2(g t1:Addr):List (Str×V):=[("game",.ref g),("awaited",.ref t1)]
def d3(g t1 t2:Addr):List (Str×V):=[("game",.ref g),("awaited",.ref t1),("claims",.ref t2)]
def d4(g t1 t2:Addr):List (Str×V):=[("game",.ref g),("awaited",.ref t1),("claims",.ref t2),("s",.int 0)]
def d5(g t1 t2 t3:Addr):List (Str×V):=[("game",.ref g),("awaited",.ref t1),("claims",.ref t2),("s",.int 0),("heard",.ref t3)]
def d6(g t1 t2 t3 t4:Addr):List (Str×V):=[("game",.ref g),("awaited",.ref t1),("claims",.ref t2),("s",.int 0),("heard",.ref t3),("tossed",.ref t4)]
def d7(g t1 t2 t3 t4:Addr):List (Str×V):=[("game",.ref g),("awaited",.ref t1),("claims",.ref t2),("s",.int 0),("heard",.ref t3),("tossed",.ref t4),("held",.int 0)]
def pd1(g:Addr):bN "game" (.ref g) []=d1 g:=by rfl'
def pd2(g t1:Addr):bN "awaited" (.ref t1) (d1 g)=d2 g t1:=by rfl'
def pd3(g t1 t2:Addr):bN "claims" (.ref t2) (d2 g t1)=d3 g t1 t2:=by rfl'
def pd4(g t1 t2:Addr):bN "s" (.int 0) (d3 g t1 t2)=d4 g t1 t2:=by rfl'
def pd5(g t1 t2 t3:Addr):bN "heard" (.ref t3) (d4 g t1 t2)=d5 g t1 t2 t3:=by rfl'
def pd6(g t1 t2 t3 t4:Addr):bN "tossed" (.ref t4) (d5 g t1 t2 t3)=d6 g t1 t2 t3 t4:=by rfl'
def pd7(g t1 t2 t3 t4:Addr):bN "held" (.int 0) (d6 g t1 t2 t3 t4)=d7 g t1 t2 t3 t4:=by rfl'
def pd8(g t1 t2 t3 t4:Addr):bN "places" (.int 0) (d7 g t1 t2 t3 t4)=dl g t1 t2 0 t3 t4 0 0:=by rfl'
def Cz(F:#["__init__","Doubter.__init__",ul])(B:Bl mg)(T:DTxt K mg C)(TG:GTxt K mg CG):#[1,f,fd,WP,spDInit C CG]:=by
 exists BK
 erw[D,g,dx,ns,ts,p,1,hD,G,gD,q]at h;refine⟨_,(aa (aP (pv 0) (pv 1) rfl)
  (aa (aP (pv 0) (aM %[aq,aE aD rfl B.len zC1 %[az (pv 1) rfl|bc]|bc]) rfl)
  (aa (aP (pv 0) (aM bc) rfl)
  (aa (aP (pv 0) ad rfl)
  (aa (aP (pv 0) (aM bc) rfl)
  (aa (aP (pv 0) (aM bc) rfl)
  (aa (aP (pv 0) ad rfl)
  (ac (aP (pv 0) ad rfl))))))))),?_⟩
 erw[a,b,d,tv,%[dg|hg],ha,hb,TS,hd]at G;let vl:=TS.length;erw[0,0,D,C,dx,0,hD,9,T.nG,(by show 0<1000;decide),6];rw[pd1];let S1:SameBut D H (upd H D (.ins C dx (d1 g))):=SameBut.upd _;let h1:upd H D (.ins C dx (d1 g)) D=some (.ins C dx (d1 g)):=bh;generalize upd H D (.ins C dx (d1 g))=H1 at S1 h1;let nb:=bL hb hD nofun;erw[0,g,CG,dg,_,0,S1 _ _ gD hg,TG.cl,TG.nT,nU ..,b,0,.inr (zB0 (S1 _ _ nb hb)),y2S,λt1 ht1=>?_];let I1:=zC0 ht1 (.tup [.str "hear",.int (tv.length:Int)]);let g1:upd H1 t1 (.tup [.str "hear",.int (tv.length:Int)]) t1=some (.tup [.str "hear",.int (tv.length:Int)]):=bh;generalize upd H1 t1 (.tup [.str "hear",.int (tv.length:Int)])=H2 at I1 g1;erw[0,D,C,dx,0,I1 _ _ h1,9,T.nA,(by show 1<1000;decide),6];rw[pd2];let n1:t1≠D:=(bi h1 ht1).symm;let S2:SameBut D H2 (upd H2 D (.ins C dx (d2 g t1))):=SameBut.upd _;let h2:upd H2 D (.ins C dx (d2 g t1)) D=some (.ins C dx (d2 g t1)):=bh;let k1:=S2 _ _ n1 g1;generalize upd H2 D (.ins C dx (d2 g t1))=H3 at S2 h2 k1;erw[y0S,λt2 ht2=>?_];let I2:=zC0 ht2 (.tup []);let g2:upd H3 t2 (.tup []) t2=some (.tup []):=bh;generalize upd H3 t2 (.tup [])=H4 at I2 g2;erw[0,D,C,dx,0,I2 _ _ h2,9,T.nC,(by show 2<1000;decide),6];rw[pd3];let n2:t2≠D:=(bi h2 ht2).symm;let S3:SameBut D H4 (upd H4 D (.ins C dx (d3 g t1 t2))):=SameBut.upd _;let h3:upd H4 D (.ins C dx (d3 g t1 t2)) D=some (.ins C dx (d3 g t1 t2)):=bh;generalize upd H4 D (.ins C dx (d3 g t1 t2))=H5 at S3 h3;erw[0,D,C,dx,0,h3,9,T.nS,(by show 3<1000;decide),6];rw[pd4];let S4:SameBut D H5 (upd H5 D (.ins C dx (d4 g t1 t2))):=SameBut.upd _;let h4:upd H5 D (.ins C dx (d4 g t1 t2)) D=some (.ins C dx (d4 g t1 t2)):=bh;generalize upd H5 D (.ins C dx (d4 g t1 t2))=H6 at S4 h4;erw[y0S,λt3 ht3=>?_];let I3:=zC0 ht3 (.tup []);let g3:upd H6 t3 (.tup []) t3=some (.tup []):=bh;generalize upd H6 t3 (.tup [])=H7 at I3 g3;erw[0,D,C,dx,0,I3 _ _ h4,9,T.nH,(by show 4<1000;decide),6];rw[pd5];let n3:t3≠D:=(bi h4 ht3).symm;let S5:SameBut D H7 (upd H7 D (.ins C dx (d5 g t1 t2 t3))):=SameBut.upd _;let h5:upd H7 D (.ins C dx (d5 g t1 t2 t3)) D=some (.ins C dx (d5 g t1 t2 t3)):=bh;generalize upd H7 D (.ins C dx (d5 g t1 t2 t3))=H8 at S5 h5;erw[y0S,λt4 ht4=>?_];let I4:=zC0 ht4 (.tup []);let g4:upd H8 t4 (.tup []) t4=some (.tup []):=bh;generalize upd H8 t4 (.tup [])=H9 at I4 g4;erw[0,D,C,dx,0,I4 _ _ h5,9,T.nT,(by show 5<1000;decide),6];rw[pd6];let n4:t4≠D:=(bi h5 ht4).symm;erw[0,D,C,dx,0,bh,9,T.nE,(by show 6<1000;decide),6];rw[pd7];erw[0,D,C,dx,0,bh,9,T.nP,(by show 7<1000;decide),6];rw[pd8];let W:∀{x:Addr} {H':Hp} {o1 o2 o3:HO} {u:HO},x≠D->H' x=some u->upd (upd (upd H' D o1) D o2) D o3 x=some u:=λ{x H' o1 o2 o3 u} n e=>by
  rw[aB n,aB n,aB n];exact e
 let k2:=S3 _ _ n2 g2;let k3:=S5 _ _ n3 g3;apply q _ (S1.trans ((zI0 I1).trans (S2.trans ((zI0 I2).trans (S3.trans (S4.trans ((zI0 I3).trans (S5.trans ((zI0 I4).trans ((SameBut.upd _).trans ((SameBut.upd _).trans (SameBut.upd _)))))))))))) %[dx,t1,t2,t3,t4,bh,6,6,6|W n4 g4]
 . rw[vl]at k1;exact W n1 (I4 _ _ (S5 _ _ n1 (I3 _ _ (S4 _ _ n1 (S3 _ _ n1 (I2 _ _ k1))))))
 . exact W n2 (I4 _ _ (S5 _ _ n2 (I3 _ _ (S4 _ _ n2 k2))))
 . exact W n3 (I4 _ _ k3)
end
def lG(o:Str)(p q:Bool):Bool:=if o="and" then p&&q else if o="or" then p||q else if o="odd" then p != q else p==q
def Tr.holds(ns:List Str)(st:List Int):Tr->Bool
 |.is x=>match hE x ns with | some j=>decide (st.getD j 0=1) | none=>false
 |.yes=>true
 |.no=>false
 |.not a=>!a.holds ns st
 |.bin o a b=>lG o (a.holds ns st) (b.holds ns st)
instance spJoined:∀(o:Str)(p q:Bool),vs=[.str o,.bl p,.bl q]->Q (.bl (lG o p q)) H:=1
def zK:FnScope Wf Wf (ag qN):=%[|5]
def Ae(F:#["joined",qN]):#[1,f,fd,Wf,spJoined]:=by
 exists zK
 erw[o,p,q,1,k]at h;refine⟨_,(aa (aF (af aN (pv 0) aq (ao _)) (ac (aj (xO (pv 1) (xM (pv 2))))) ax)
  (aa (aF (af aN (pv 0) aq (ao _)) (ac (aj (pe_or (pv 1) (xM (pv 2))))) ax)
  (aa (aF (af aN (pv 0) aq (ao _)) (ac (aj (iT lE (pv 1) (pv 2) (ao _)))) ax)
  (ac (aj (iT aN (pv 1) (pv 2) (ao _))))))),?_⟩
 erw[0,1,0,6]
 by_cases c1:V.str o=V.str "and"
 . apply aU c1 ?_;let e:lG o p q=(p&&q):=by unfold lG;rw[Mt (gx c1)]
   rw[e]at k;erw[0,p,1,6];cases p with
   |true=>exact ee %[0|by simpa using k]
   |false=>exact cV #[k,0]
 apply ay c1 ?_;let n1:¬ o="and":=λz=>c1 (by rw[z])
 erw[0,1,0,6]
 by_cases c2:V.str o=V.str "or"
 . apply aU c2 ?_;let e:lG o p q=(p||q):=by unfold lG;rw[Mq n1,Mt (gx c2)]
   rw[e]at k;erw[0,p,1,6];cases p with
   |true=>exact ee #[k,0]
   |false=>exact cV %[0|by simpa using k]
 apply ay c2 ?_;let n2:¬ o="or":=λz=>c2 (by rw[z])
 erw[0,1,0,6]
 by_cases c3:V.str o=V.str "odd"
 . apply aU c3 ?_;let e:lG o p q=(p != q):=by unfold lG;rw[Mq n1,Mq n2,Mt (gx c3)]
   rw[e]at k;erw[0,0,1,6];let e2:(!decide (V.bl p=V.bl q))=(p != q):=by cases p <;> cases q <;> decide
   show Q (.bl (!decide (V.bl p=V.bl q))) H;rw[e2];exact k
 apply ay c3 ?_;let n3:¬ o="odd":=λz=>c3 (by rw[z])
 let e:lG o p q=(p==q):=by unfold lG;rw[Mq n1,Mq n2,Mq n3]
 rw[e]at k;erw[0,0,1,6];let e2:decide (V.bl p=V.bl q)=(p==q):=by cases p <;> cases q <;> decide
 show Q (.bl (decide (V.bl p=V.bl q))) H;rw[e2];exact k
instance spHolds(n:Nat):∀(v:V)(t:Tr)(a b:Addr)(ns:List Str)(st:List Int),vs=[v,.ref a,.ref b]->TreeAt H v t->t.ok ns->t.depth<=n->NamesAt H a ns->H b=some (.tup (st.map V.int))->st.length=ns.length->Q (.bl (t.holds ns st)) H:=1
def mz:FnScope ["tree","switches","setting","word","first"] WZ (ag jP):=%[|5]
def yq{n:Nat}(F:#["holds_at",jP])(iq:#[1,"joined",Wf,spJoined])(fN:#[n+2,"holds_at",WZ,spHolds n]):#[n+3,f,fd,WZ,spHolds (n+1)]:=by
 exists mz
 erw[v,t,a,b,ns,st,1,T,ok,dn,hN,hb,sl,k]at h;refine⟨_,(aa #[ah,3,mz,aI aJ (pv 0) ad #[1]]
  (aa (aF (af aN (pv 3) aq (ao _)) (ac (aj (iT aN (aI aJ (pv 2) (vP zF1 PySem.F.plainAttrs_tuple (pv 1) %[aI aJ (pv 0) ad #[1]|bc]) #[1]) ad (ao _)))) ax)
  (aa (aF (PW.pt (eF (af aN (pv 3) aq (ao _)) (dZ (af aN (pv 3) aq (ao _))))) (ac (aj (iT aN (pv 3) aq (ao _)))) ax)
  (aa #[ah,4,mz,ai fN hr (zH0 _) rfl %[aI aJ (pv 0) ad #[1],1,2|bc]]
  (aa (aF (af aN (pv 3) aq (ao _)) (ac (aj (Ce (pv 4)))) ax)
  (ac (aj (ai iq hr #[0] rfl %[3,4,ai fN hr (zH0 _) rfl %[aI aJ (pv 0) ad #[1],1,2|bc]|bc])))))))),?_⟩
 cases T with
 | @is p x e=>
   erw[0,p,_,(0),0,1,zB0 e,1,6];erw[0,1,0,6];apply aU rfl ?_;let%[j,hj|jl]:=lj ok;let jl':j<st.length:=#[0]
   erw[0,0,a,ns,1,hN,0,p,_,(1),0,1,zB0 e,1,1,x,j,1,hj,b,_,(j:Int),.int st[j],1,1,zB0 hb,6,1,6]
   . apply cK ?_;rw[zZ0,zO0 jl'];rfl
   . let e1:(Tr.is x).holds ns st=decide (V.int st[j]=V.int 1):=by
      show(match hE x ns with | some j=>decide (st.getD j 0=1) | none=>false)=_;rw[hj];show decide (st.getD j 0=1)=_;rw[qT0,zO0 jl']
      simp
     rw[e1]at k;exact k
 | @yes p e=>
   erw[0,p,_,(0),0,1,zB0 e,1,6];erw[0,1,0,6];apply ay ⋯ ?_;erw[0,1,0,6];apply aU rfl (ee ?_);erw[0,1,k]
 | @no p e=>
   erw[0,p,_,(0),0,1,zB0 e,1,6];erw[0,1,0,6];apply ay ⋯ ?_;erw[0,1,0,6];apply ay ⋯ ?_;erw[0,1,0,6];apply aU rfl ?_;erw[0,1,6];let e1:decide (V.str "no"=V.str "yes")=false:=by decide
   show Q (.bl (decide (V.str "no"=V.str "yes"))) H;rw[e1];exact k
 | @not p u r e T1=>
   let dp:r.depth+1<=n+1:=dn;erw[0,p,_,(0),0,1,zB0 e,1,6];erw[0,1,0,6];apply ay ⋯ ?_;erw[0,1,0,6];apply ay ⋯ ?_;erw[0,1,0,6];apply ay ⋯ ?_;erw[0,p,_,(1),0,1,zB0 e,1,0,0,u,r,a,b,ns,st,1,T1,ok,3,hN,hb,sl,6];erw[0,1,0,6];apply aU rfl ?_;erw[0,0,k]
 | @bin p o u u2 r r2 e T1 T2=>
   erw[ho,ok1,ok2]at ok;let dp:max r.depth r2.depth+1<=n+1:=dn;let ne:∀z:Str,z∉joinW->¬ V.str o=V.str z:=λz hz h=>hz (gx h▸ho)
   erw[0,p,_,(0),0,1,zB0 e,1,6];erw[0,1,0,6];apply ay (ne _ ⋯) ?_;erw[0,1,0,6];apply ay (ne _ ⋯) ?_;erw[0,1,0,6];apply ay (ne _ ⋯) ?_;erw[0,p,_,(1),0,1,zB0 e,1,0,0,u,r,a,b,ns,st,1,T1,ok1,3,hN,hb,sl,6];erw[0,1,0,6];apply ay (ne _ ⋯) ?_;erw[0,0,0,p,_,(2),0,1,zB0 e,1,0,0,u2,r2,a,b,ns,st,1,T2,ok2,3,hN,hb,sl,6];erw[o,_,0,k]
def yp:#[2,f,fd,WZ,spHolds 0]:=by
 let no:∀vs H Q E,¬ spHolds 0 vs H Q E:=λvs H Q E h=>by
  erw[v,t,_,_,_,_,_,_,_,h1,_]at h
  have:=t.depth_pos
  omega
 exists 3
def pB(F:#["holds_at",jP])(m:mg "holds_at"=some (.ref f))(iq:#[1,"joined",Wf,spJoined]):
 ∀n:Nat,#[n+2,f,fd,WZ,spHolds n]
 |0=>yp
 |n+1=>yq F iq (Cal.of F (pB F m iq n) m (λ_ _ _ _ _ _ us hl=>by let%[u0,u1,u2|1]:=Fo hl;rfl))
def FW(H:Hp)(v:V)(s:List Int):Prop:=∃a,v=.ref a/\H a=some (.tup (s.map V.int))
abbrev TupsAt(H:Hp):List V->List (List Int)->Prop:=PySem.Paired (FW H)
def Eb(H:Hp)(r:Addr)(ss:List (List Int)):Prop:=∃rs,H r=some (.lst rs)/\TupsAt H rs ss
def TupsAt.mono{H H':Hp}(k:∀a xs,H a=some (.tup xs)->H' a=some (.tup xs)):∀{rs:List V}{ss:List (List Int)},TupsAt H rs ss->TupsAt H' rs ss
 |_,_,.nil=>.nil
 |_,_,.cons ⟨a,e,h⟩ t=>.cons %[a,e|k _ _ h] (TupsAt.mono k t)
def TupsAt.get:∀{rs:List V}{ss:List (List Int)}{i:Nat}{v:V},TupsAt H rs ss->rs[i]?=some v->∃s,ss[i]?=some s/\FW H v s
 |_,_,_,_,.nil,h=>by simp at h
 |_,_,0,_,.cons h _,e=>by
   simp at e
   subst e;erw[0,h]
 |_,_,i+1,v,.cons _ t,e=>by
   let%[s,h1|h2]:=TupsAt.get (i:=i) t #[e,0];erw[s,by simpa using h1,h2]
def Az{ys:List V}(s:SameBut b H H')(h:H b=some (.lst ys)∨H b=none):∀a xs,H a=some (.tup xs)->H' a=some (.tup xs):=λa xs e=>s a _ (λz=>by
 rw[z]at e;rcases h with h | h
 . rw[h]at e;cases e
 . rw[h]at e;cases e) e
def wM{K:W.Frag}{H1:Hp}{a p:Addr}{s:List Int}{z:Int}{Q:VK}(ha:H1 a=some (.tup (s.map V.int)))(hp:H1 p=some (.tup [.int z]))(hl:s.length<=100)
 (q:∀t H2,Same H1 H2->H2 t=some (.tup ((s++[z]).map V.int))->Q (.ref t) H2):rCatT K (.ref a) (.ref p) H1 Q∨rCatT0 K (.ref a) (.ref p) H1 Q:=by
 cases s with
 |nil=>exact .inr %[a,p,0,1,zB0 ha,zB0 hp|q p H1 (Same.refl _) hp]
 |cons x r=>
   refine .inl %[a,p,2,zB0 ha,zB0 hp,by simp,aV (by simp at hl ⊢;omega),(λz=>nomatch z)|(λ_ t ht=>q t _ (zC0 ht _) ?_)];rw[bh,zL0];rfl
instance spSetts:∀n:Int,vs=[.int n]->0<=n->n<=6->(∀(r:Addr)(H':Hp),H r=none->Same H H'->Eb H' r (dA n.toNat)->Q (.ref r) H'):=1
def cY:FnScope ["n","told","switch","longer","setting"] ["n"] (ag iD):=%[|5]
def pT(F:#["all_settings",iD])(hrange:mg "range"=none):#[1,f,fd,["n"],spSetts]:=by
 exists cY
 erw[n,1,n0,n6,q]at h;refine⟨_,(aa #[ah,1,cY,dq %[aM bc|bc]]
  (aa (cQ zG1 rfl (cI rfl hrange %[0|bc]) (bt (i:=2) cY.nd rfl (.inl rfl)) (aa #[ah,3,cY,dq bc]
   (aa (cQ zG1 rfl (ia (pv 1)) (bt (i:=4) cY.nd rfl (.inl rfl)) (aa (aQ (cA zF1 zL1 zM1 cx (pv 3) %[am (op_catT.or nv) (pv 4) (aM %[ad|bc])|bc]))
    (ac (aQ (cA zF1 zL1 zM1 cx (pv 3) %[am (op_catT.or nv) (pv 4) (aM %[ad|bc])|bc])))))
   (ac #[ah,1,cY,pv 3]))))
  (ac (aj (pv 1))))),?_⟩
 erw[y0S,λp hp=>?_];erw[y1S,λa ha=>?_];let np:p≠a:=λz=>by
  subst z;rw[bh]at ha;cases ha
 let ha0:H a=none:=(zC0 hp _).free ha;refine⟨_,rfl,n,rfl,#[0],#[0],dG (λi σ H'=>∃(a:Addr)(x2 x3 x4:Option V),σ=[some (.int n),some (.ref a),x2,x3,x4]/\H a=none/\Same H H'/\Eb H' a (dA i))
  %[a,_,_,0,ha0,(zC0 hp _).trans (zC0 ha _),[.ref p],bh|.cons ⟨p,rfl,by rw[aB np,bh];rfl⟩ .nil] ?_ ?_⟩
 . rintro i σ H' hi ⟨a,x2,x3,x4,rfl,a0,s0,rs,hrs,T⟩;let i6:i<6:=#[0]
   let sl:=kX i;let s64:=oG (n:=i) #[0];erw[y0S,λb hb=>?_];let ab:a≠b:=bi hrs hb;refine⟨_,rfl,a,rfl,%[_|zG0 (by rw[aB ab];exact hrs)],nY (K:=K) (xs:=rs) (λj σ H2=>∃(x4:Option V)(bs:List V),σ=[some (.int n),some (.ref a),some (.int (0+(i:Int))),some (.ref b),x4]/\SameBut b H' H2/\H2 b=some (.lst bs)/\TupsAt H2 bs (((dA i).take j).flatMap λs=>[s++[0],s++[1]]))
    %[_,[],1,SameBut.upd _,bh|.nil] (λj σ H2 _ Mx=>by erw[_,_,_,sb,_]at Mx;exact zG0 (sb a _ ab hrs)) ?_ ?_⟩
   . rintro j y σ H2 hj ⟨x4,bs,rfl,sb,hbs,TB⟩;let T2:TupsAt H2 rs (dA i):=T.mono (Az (ys:=[]) sb (.inr hb));let%[s,hs,t,1|ht]:=T2.get hj;let hsm:s∈dA i:=qI0 hs;let hsl:=gy i s hsm;let hbl:=TB.length;rw[oT,qE0]at hbl;erw[0,.inl %[1,_|zG0 hbs],6];erw[0,y1S,λp1 hp1=>?_];let S1:Same H2 (upd H2 p1 (.tup [.int 0])):=zC0 hp1 _;apply wM (s:=s) (z:=0) (S1 _ _ ht) bh #[0] λt1 H3 S3 e3=>?_
     let S13:Same H2 H3:=S1.trans S3;erw[b,bs,0,1,S13 _ _ hbs,aO #[0],6];let K4:=jv (H:=H3) (b:=b) (ys:=bs) (zs:=bs++[.ref t1]) (S13 _ _ hbs);let e4:=K4 _ _ e3;let t4:=K4 _ _ (S13 _ _ ht);erw[0,.inl %[1,_|zG0 bh],6];erw[0,y1S,λp2 hp2=>?_];let S4:Same (upd H3 b (.lst (bs++[.ref t1]))) (upd (upd H3 b (.lst (bs++[.ref t1]))) p2 (.tup [.int 1])):=zC0 hp2 _;apply wM (s:=s) (z:=1) (S4 _ _ t4) bh #[0] λt2 H5 S5 e5=>?_
     let S45:=S4.trans S5;let hb5:H5 b=some (.lst (bs++[.ref t1])):=S45 _ _ bh;erw[b,bs++[.ref t1],0,1,hb5,aO (by rw[zK0,qL0];omega),6];let K6:=jv (H:=H5) (b:=b) (ys:=bs++[.ref t1]) (zs:=bs++[.ref t1]++[.ref t2]) hb5;erw[_,bs++[.ref t1]++[.ref t2],1,6,bh,6]
     . let q1:SameBut b H' H3:=sb.trans (zI0 S13);let q2:SameBut b H' H5:=(q1.trans (SameBut.upd _)).trans (zI0 S45);exact q2.trans (SameBut.upd _)
     . let hbase:TupsAt (upd H5 b (.lst (bs++[.ref t1]++[.ref t2]))) bs (((dA i).take j).flatMap λs=>[s++[0],s++[1]]):=
        TB.mono λa xs e=>K6 _ _ (S45 _ _ (K4 _ _ (S13 _ _ e)))
       rw[qJ0,hs,List.flatMap_append];let e:((some s).toList.flatMap λs:List Int=>[s++[0],s++[1]])=[s++[0]]++[s++[1]]:=by simp
       rw[e,←wH1];exact(hbase.snoc %[t1,1|K6 _ _ (S45 _ _ e4)]).snoc ⟨t2,rfl,K6 _ _ e5⟩
   . rintro σ H2 ⟨x4,bs,rfl,sb,hbs,TB⟩;let rl:=T.length;rw[rl,qF0]at TB;erw[0,b,_,_,0,s0.free hb,s0.but (s0.free hb) sb,bs,hbs,TB]
 . rintro σ H' ⟨a,x2,x3,x4,rfl,a0,s0,S⟩;erw[0,q a H' a0 s0 S]
def cnt(t:Tr)(ns:List Str):Nat:=((dA ns.length).filter λst=>t.holds ns st).length
instance spCount:∀(v:V)(t:Tr)(a:Addr)(ns:List Str),vs=[v,.ref a]->TreeAt H v t->t.ok ns->t.depth<=12->NamesAt H a ns->ns.length<=6->(∀H',Same H H'->Q (.int (cnt t ns:Int)) H'):=1
def A7:FnScope ["tree","switches","holding"] Wo (ag mh):=%[|5]
def wc(F:#["count_of",mh])(hlen:mg "len"=none)(dz:#[1,"all_settings",["n"],spSetts])(fN:#[14,"holds_at",WZ,spHolds 12]):#[15,f,fd,Wo,spCount]:=by
 exists A7
 erw[v,t,a,ns,1,T,ok,dp,hN,nl,q]at h;refine⟨_,(aa (yT (i:=2) (N:=Wo) (ix:=[0,1]) A7.nd rfl (.inl rfl) rfl
  #[4] rfl
  (ia (ai dz hr ⋯ rfl %[aE aD rfl hlen zC1 %[1|bc]|bc]))
  (λ_ _ _=>pb_if (dN (ai fN hr ⋯ rfl %[1,2,0|bc])) (pv 0)))
  (ac (aj (aE aD rfl hlen zC1 %[2|bc])))),?_⟩
 let en:((ns.map V.str).length:Int)=(ns.length:Int):=by rw[zF0]
 erw[0,a,0,hN.seq,0,3,3,λr H1 r0 S1 R1=>?_];rw[en]at R1;let e2:((ns.length:Int)).toNat=ns.length:=#[0]
 rw[e2]at R1;erw[rs,hrs,TS]at R1;let rl:=TS.length;let sl:=kX ns.length;let s64:=oG nl;erw[r,1,%[_|zG0 hrs],λD hD=>?_];apply jz (K:=K) (xs:=rs) (λi H'=>∃ys,H' D=some (.lst ys)/\ys.length=(((dA ns.length).take i).filter λst=>t.holds ns st).length/\Same H1 H') %[[],bh,1|zC0 hD _] (λi H' _ Mx=>by erw[_,_,_,h]at Mx;exact zG0 (h _ _ hrs)) ?_ ?_
 . rintro i x H2 hx ⟨ys,hl,yl,S2⟩;let hi:i<rs.length:=(zW0 hx).1;let TS2:=TS.mono (bp S2);let%[st,Mx,b,1|hb]:=TS2.get hx;let stl:=gy _ _ (qI0 Mx);let S02:=S1.trans S2;let tk:((dA ns.length).take (i+1)).filter (λst=>t.holds ns st)=((dA ns.length).take i).filter (λst=>t.holds ns st)++[st].filter (λst=>t.holds ns st):=by
    rw[qJ0,Mx,wF0];rfl
   erw[0,0,0,v,t,a,b,ns,st,1,T.mono (bp S02),ok,dp,hN.same S02,hb,stl,0,6];cases c:t.holds ns st with
   |true=>
     apply ee ?_;erw[0,ys,hl,6,Nx.of hi %[_,bh,6|λb' o e=>?_]]
     . have:=List.length_filter_le (λst=>t.holds ns st) ((dA ns.length).take i)
       rw[qE0]at this;exact aO #[0]
     . rw [tk,zK0,zK0,yl]
       simp [c]
     . rw[aB (bi e hD)];exact S2 _ _ e
   |false=>
     apply cV ?_;apply Nx.of hi %[ys,hl,6|S2];rw[tk,zK0,yl]
     simp [c]
 . rintro H2 ⟨ys,hl,yl,S2⟩;let e3:rs.length=(dA ns.length).length:=rl;rw[e3,qF0]at yl;erw[0,D,0,.inl (zG0 hl),6];rw[yl];exact q H2 (S1.trans S2)
instance spCounts(C:Addr):∀(g a b d:Addr)(ns:List Str)(tv:List V)(ts:List Tr)(p:Int),vs=[.ref g]->GameAt C H g a b d p->H a=some (.tup (ns.map V.str))->ns.length<=6->H b=some (.tup tv)->TreesAt H tv ts->ts.length<=10->(∀t∈ts,t.ok ns/\t.depth<=12)->(∀(l:Addr)(H':Hp),H l=none->Same H H'->H' l=some (.lst ((ts.map λt=>(cnt t ns:Int)).map V.int))->Q (.ref l) H'):=1
def tW:FnScope WH WH (ag kF):=%[|5]
def uM(F:#["counts_of",kF])(T:GTxt K mg C)(o6:#[15,"count_of",Wo,spCount]):#[16,f,fd,WH,spCounts C]:=by
 exists tW
 erw[g,a,b,d,ns,tv,ts,p,1,%[dx|hg],ha,nl,hb,TS,t10,tok,q]at h;refine⟨_,(ac (aj (cJ (N:=WH) (ix:=[0]) rfl
  #[3] rfl
  (eR (az (pv 0) rfl)) (λ_ _ _=>du (ai o6 hr ⋯ rfl %[0,lm K (pv 1)|bc]))))),?_⟩
 let vl:=TS.length;erw[0,g,C,dx,_,0,hg,9,T.nT,nU ..,b,1,%[_|zB0 hb],λD hD=>?_];apply eY (K:=K) (xs:=tv) (λi H'=>H' D=some (.lst (((ts.take i).map λt=>(cnt t ns:Int)).map V.int))/\Same H H') %[by rw[bh];rfl|zC0 hD _] (λi H' _ h=>zB0 (h.2 _ _ hb)) ?_ ?_
 . rintro i z H2 hz ⟨hl,S2⟩;let%[t,ht|Tt]:=TS.get hz;let%[tk|td]:=tok t (qI0 ht);let hi:i<tv.length:=(zW0 hz).1;erw[0,0,g,C,dx,_,0,S2 _ _ hg,9,T.nS,pG ..,z,t,a,ns,1,Tt.mono (bp S2),tk,td,.inr (S2 _ _ ha),nl,λH3 S3=>?_];erw[_,S3 _ _ hl,6,Nx.of hi %[6|λb' o' e'=>?_]]
   . rw[zF0,zF0,qE0];exact aO #[0]
   . rw[bh,qJ0,ht,zL0,zL0];rfl
   . rw[aB (bi e' hD)];exact S3 _ _ (S2 _ _ e')
 . rintro H2 ⟨hl,S2⟩;rw[vl,qF0]at hl;exact q D H2 hD S2 hl
def zW(s:Int):List Int->Int
 | []=>0
 |a::r=>a+s*zW s r
def wC(s p:Int):∀ns,hor s p ns=zW s ns % p
 | []=>(Int.zero_emod p).symm
 |a::r=>by
   show(hor s p r*s+a) % p=(a+s*zW s r) % p;rw[wC s p r,wQ0,jS0,jV0,←jS0,←wQ0,jI0,Int.add_comm]
def qB:∀(n:Nat)(s:List Int),s∈dA n->∀x∈s,x=0∨x=1
 |0,s,h,x,hx=>by
   have:s=[]:=by simpa [dA]using h
   subst this;cases hx
 |n+1,s,h,x,hx=>by
   rw[dA,List.mem_flatMap]at h;erw[t,ht,hs]at h
   simp at hs
   rcases hs with rfl | rfl
   . rcases qG0 hx with h | h
     . exact qB n t ht x h
     . exact .inl (zR0 h)
   . rcases qG0 hx with h | h
     . exact qB n t ht x h
     . exact .inr (zR0 h)
def qi{K:W.Frag}{H1:Hp}{a b:Addr}{xs ys:List Int}{Q:VK}(ha:H1 a=some (.tup (xs.map V.int)))(hb:H1 b=some (.tup (ys.map V.int)))(hl:xs.length+ys.length<=100)
 (q:∀t H2,Same H1 H2->H2 t=some (.tup ((xs++ys).map V.int))->Q (.ref t) H2):rCatT K (.ref a) (.ref b) H1 Q∨rCatT0 K (.ref a) (.ref b) H1 Q:=by
 cases xs with
 |nil=>exact .inr %[a,b,0,1,zB0 ha,zB0 hb|q b H1 (Same.refl _) hb]
 |cons x r=>
   refine .inl %[a,b,2,zB0 ha,zB0 hb,by simp,aV (by simp at hl ⊢;omega),(λz=>?_)|(λ_ t ht=>q t _ (zC0 ht _) ?_)]
   . cases ys with
     |nil=>
       apply q a H1 (Same.refl _) ?_;rw[qZ1];exact ha
     |cons y r2=>exact nomatch z
   . rw[bh,zL0]
def BS(ns:List Str)(ts:List Tr)(s p:Int)(pt:List Int):Int:=((dA (ns.length-pt.length)).map λst=>zW s (ts.map λt=>t.worth ns (pt++st) p)).sum % p
def yL{α:Type}(p:Int)(f:α->Int):∀l:List α,(l.map λx=>f x % p).sum % p=(l.map f).sum % p
 | []=>rfl
 |a::r=>by
   rw[zY0,zY0,zV1,zV1,wQ0,jV0,yL p f r,←wQ0]
def yK{α:Type}{p:Int}(hp:0<p)(f:α->Int)(h:∀x,0<=f x/\f x<p):∀l:List α,0<=(l.map f).sum/\(l.map f).sum<=p*l.length
 | []=>%[qC1 0|by simp]
 |a::r=>by
   let h1:=h a;let h2:=yK hp f h r;rw[zY0,zV1,zM0];erw[3,6]
   have:p*((r.length+1:Nat):Int)=p*(r.length:Int)+p:=by
    rw[jM0,Int.mul_add]
    simp
   omega
def vL(h:cR a p)(h2:cR b p):cR (a++b) p:=λx hx=>by
 rcases qG0 hx with e | e
 . exact h x e
 . exact h2 x e
def pt01{b:List Int}(h:cR a p)(p1:1<p)(h2:∀x∈b,x=0∨x=1):cR (a++b) p:=vL h λx hx=>by rcases h2 x hx with e | e <;> omega
def pZ{X:Cx}(K:W.Frag)(hK:X.K=K:=by rfl):OpR X (binaryOp .Add) (λx y H Q=>rCatT K x y H Q∨rCatT0 K x y H Q):=by subst hK;exact op_catT.or nv
def DR{ts:List Tr}(h0:ts≠[]):0<=cr ts x:=by
 have:=kK (ns:=ts.map λt=>(t.names.count x:Int)) #[h0,0]
 let%[t,ht|e]:=List.mem_map.mp this;unfold cr;rw[←e];exact jM1 _
def pM(ns:List Str)(ts:List Tr)(s p:Int)(cs:List Int)(n:Nat):List Int:=(List.range n).map λk:Nat=>BS ns ts s p (cs++[(k:Int)])
def Gs{d:Int}{i:Nat}(hi:i<(d+1).toNat)(h:d<=500):((pM ns ts s p cs i).map V.int).length<sizeLine:=by
 unfold pM;rw[zF0,zF0,qS0];exact aO #[0]
def ptI{d:Int}{i:Nat}(h:cR a p)(hi:i<(d+1).toNat)(hd:d<p):cR (a++[(i:Int)]) p:=vL h λx hx=>by
 rw[zR0 hx];omega
def cat1{n k:Nat}(h:n<k)(h6:k<=6):n+([(0:Int)]:List Int).length<=100/\n+1<=k:=by
 rw[qL0];omega
def s64{n k:Nat}(h6:n<=6):(dA (n-(k+1))).length<=64:=by
 let s64:=kX (n-(k+1));let p64:=oG (n:=n-(k+1)) #[0];omega
def Gq{α:Type}{f:α->Int}{l:List α}{j:Nat}(h:l.length<=64):(((l.take j).map f).map V.int).length<sizeLine:=by
 rw[zF0,zF0,qE0];exact aO #[0]
def sum63{p x:Int}{n:Nat}(p0:0<p)(p40:p<2 ^ 40)(h:n<=64)(hx:x<=p*(n:Int)):x<2 ^ 63:=by
 have:p*(n:Int)<=p*64:=qW0 #[0] #[0]
 omega
instance spTrue(C:Addr):∀(g a b d c:Addr)(ns:List Str)(tv:List V)(ts:List Tr)(cs:List Int)(x:Str)(s p:Int),vs=[.ref g,.int s,.ref c]->GameAt C H g a b d p->H a=some (.tup (ns.map V.str))->ns.length<=6->H b=some (.tup tv)->TreesAt H tv ts->ts≠[]->ts.length<=10->(∀t∈ts,t.ok ns/\t.depth<=10)->H d=some (.lst ((ns.map (cr ts)).map V.int))->H c=some (.tup (cs.map V.int))->ns[cs.length]?=some x->cr ts x<p->cr ts x<=500->cR cs p->1<p->p<2 ^ 40->(∀(l:Addr)(H':Hp),H l=none->Same H H'->H' l=some (.lst ((pM ns ts s p cs (cr ts x+1).toNat).map V.int))->Q (.ref l) H'):=1
def eK:FnScope ["game","s","coins","ahead","switch","behind","row","x","worths"] ["game","s","coins"] (ag lW):=%[|5]
def vU(F:#["true_row",lW])(B:Bl mg)(T:GTxt K mg C)(mW:Meth K C "worth_at" fW)(GW:#[13,fW,fdW,WN,spWAt C])(bW:Binds K fdW WN [])(dz:#[1,"all_settings",["n"],spSetts]):#[14,f,fd,["game","s","coins"],spTrue C]:=by
 exists eK
 erw[g,a,b,d,c,ns,tv,ts,cs,x,s,p,1,%[dx|hg],ha,nl,hb,TS,tne,t10,tok,hd,hc,hx,dp,d500,po,p1,p40,q]at h;refine⟨_,(aa (ah (i:=3) eK.nd rfl (Or.inr rfl) (aW bz rfl B.tuple cj %[2|bc]))
  (aa #[ah,4,eK,aE aD rfl B.len zC1 %[3|bc]]
  (aa #[ah,5,eK,ai dz hr ⋯ rfl %[am bK (am bK (aE aD rfl B.len zC1 %[az (pv 0) rfl|bc]) (pv 4)) ad|bc]]
  (aa #[ah,6,eK,dq bc]
  (aa (cQ zG1 rfl (cI rfl B.range %[am aR (aI ix_list (az (pv 0) rfl) (pv 4) #[1]) ad|bc]) (bt (i:=7) eK.nd rfl (Or.inr rfl)) (aa (yT (i:=8) (N:=["x","s","game","ahead"]) (ix:=[7,1,0,3]) eK.nd rfl (.inl rfl) rfl
   (CompScope.four (by rfl') ⋯ rfl ⋯ rfl ⋯ rfl (by rfl') (by rfl') (by rfl') (by rfl') (by rfl') (by rfl') rfl rfl (by rfl') rfl rfl (by rfl') rfl rfl (by rfl') rfl rfl) rfl
   (ia (pv 5)) (λ_ _ _=>du (bu (pv 3) T.cl mW GW hr bW .nil aY %[am (pZ K) (am (pZ K) (pv 4) (aM %[1|bc])) (pv 0),2|bc])))
   (ac (aQ (cA zF1 zL1 zM1 cx (pv 6) %[am bd (aE (rX rfl) rfl B.sum jS1 %[8|bc]) (az (pv 0) rfl)|bc])))))
  (ac (aj (pv 6)))))))),?_⟩
 let kl:cs.length<ns.length:=(zW0 hx).1;let d0:=DR (x:=x) tne;let p0:0<p:=Int.lt_trans Int.zero_lt_one p1;erw[0,c,0,.inr %[zB0 hc|6]];let G1:Same H H:=λ_ _ e=>e
 let hah1:=hc;erw[0,c,0,.inr (zB0 hah1),6];erw[0,g,C,dx,_,0,G1 _ _ hg,9,T.nS,pG ..,a,0,.inr (zB0 (G1 _ _ ha)),0,2,2,0,by rw[zF0,zF0];omega,by rw[zF0,zF0];omega,λr H2 r0 S2 R2=>?_];let en:((((ns.map V.str).length:Nat):Int)-(((cs.map V.int).length:Nat):Int)-1).toNat=ns.length-(cs.length+1):=by rw[zF0,zF0];omega
 rw[en]at R2;erw[rs,hrs,TB]at R2;let rl:=TB.length;erw[y0S,λL hL=>?_];let S02:=G1.trans S2;let GL:=zC0 hL (.lst []);let S03:=S02.trans GL;let L0:H L=none:=S02.free hL;let e1:(((cs.map V.int).length:Nat):Int)=(cs.length:Int):=by rw[zF0]
 erw[0,g,C,dx,_,0,S03 _ _ hg,9,T.nD,Dz ..,0,d,_,_,.int (cr ts x),1,1,zG0 (S03 _ _ hd),6,2,0,3,3,dG (λi σ H'=>∃x7 x8:Option V,σ=[some (.ref g),some (.int s),some (.ref c),some (.ref c),some (.int (((cs.map V.int).length:Nat):Int)),some (.ref r),some (.ref L),x7,x8]/\H' L=some (.lst ((pM ns ts s p cs i).map V.int))/\SameBut L H2 H') %[_,0,by rw[bh];rfl|SameBut.upd _] ?_ ?_]
 . rw[e1];apply cK ?_;rw[zZ0,zZ0,hx];rfl
 . rintro i σ H4 hi ⟨x7,x8,rfl,hL4,S4⟩;let gL:g≠L:=bi (S02 _ _ hg) hL;let rL:r≠L:=bi hrs hL;let kT:cH H2 H4:=λc xs h=>S4 c _ (bi h hL) h
   let hg4:=S4 g _ gL (S02 _ _ hg);let hrs4:=S4 r _ rL hrs;let ha4:=kT _ _ (S02 _ _ ha);let hb4:=kT _ _ (S02 _ _ hb);let hah4:=kT _ _ (S2 _ _ hah1);let TS4:=(TS.mono (bp S02)).mono kT;let TB4:=TB.mono kT;erw[0,r,1,%[_|zG0 hrs4],λD hD=>?_];apply jz (K:=K) (xs:=rs) (λj H'=>H' D=some (.lst ((((dA (ns.length-(cs.length+1))).take j).map λst=>hor s p (ts.map λt=>t.worth ns (cs++[(i:Int)]++st) p)).map V.int))/\Same H4 H') %[by rw[bh];rfl|zC0 hD _] (λj H' _ h=>zG0 (h.2 _ _ hrs4)) ?_ ?_
   . rintro j z H5 hz ⟨hD5,S5⟩;let%[st,Mx,y,1|hy]:=(TB4.mono (bp S5)).get hz;let stm:=qI0 Mx;let stl:=gy _ _ stm;let s01:=qB _ _ stm;let hj:j<rs.length:=(zW0 hz).1;let po2:cR (cs++[(i:Int)]++st) p:=pt01 (ptI po hi dp) p1 s01;let pl2:(cs++[(i:Int)]++st).length=ns.length:=by rw[zK0,zK0,qL0];omega
     erw[0,g,dx,0,S5 _ _ hg4,rO _ _ _ _ ⋯ ⋯ ⋯ ⋯,6];erw[0,0,y1S,λu hu=>?_];let Gu:=zC0 hu (.tup [.int (0+(i:Int))]);let hu6:upd H5 u (.tup [.int (0+(i:Int))]) u=some (.tup ([(i:Int)].map V.int)):=by rw[bh,jI1];rfl
     generalize upd H5 u (.tup [.int (0+(i:Int))])=H6 at Gu hu6;apply qi (Gu _ _ (S5 _ _ hah4)) hu6 (cat1 kl nl).1 λt1 H7 S7 h7=>?_
     erw[0,6];let S57:=Gu.trans S7;apply qi h7 (S57 _ _ hy) (by rw[zK0,qL0];omega) λt2 H8 S8 h8=>?_
     let S48:=S5.trans (S57.trans S8);erw[0,g,a,b,d,t2,ns,tv,ts,_,s,p,1,%[dx|S48 _ _ hg4],p1,p40,S48 _ _ ha4,S48 _ _ hb4,TS4.mono (bp S48),t10,tok,h8,pl2,po2,λH9 S9=>?_];erw[_,S9 _ _ ((S57.trans S8) _ _ hD5),6,Nx.of hj %[6|λb' o' e'=>?_]]
     . exact Gq (s64 nl)
     . rw[bh,qJ0,Mx,zL0,zL0];rfl
     . rw[aB (bi e' hD)];exact S9 _ _ (S48 _ _ e')
   rintro H5 ⟨hD5,S5⟩;rw[rl,qF0]at hD5;let hor_r:=λst:List Int=>qf (s:=s) (p:=p) p0 (ts.map λt=>t.worth ns (cs++[(i:Int)]++st) p)
   let sr:=yK (p:=p) p0 (λst:List Int=>hor s p (ts.map λt=>t.worth ns (cs++[(i:Int)]++st) p)) hor_r (dA (ns.length-(cs.length+1)));let hL5:=S5 _ _ hL4;erw[0,.inl %[1,_|zG0 hL5],0,D,0,zG0 hD5,6,6,6]
   . intro n hn;let%[st,_|1]:=List.mem_map.mp hn;exact(hor_r st).1
   . exact sum63 p0 p40 (s64 nl) sr.2
   erw[0,g,C,dx,_,0,S5 _ _ hg4,9,T.nF,iJ ..,2,p0,L,2,hL5,6,6]
   . exact Gs hi d500
   . erw[_,0,6,λc o hc e=>?_]
     . rw [bh];unfold pM;rw[jA0,zL0,zL0];let e2:((dA (ns.length-(cs.length+1))).map λst=>hor s p (ts.map λt=>t.worth ns (cs++[(i:Int)]++st) p)).sum % p=BS ns ts s p (cs++[(i:Int)]):=by
        unfold BS;rw[zK0,qL0,show(λst:List Int=>hor s p (ts.map λt=>t.worth ns (cs++[(i:Int)]++st) p))=λst=>zW s (ts.map λt=>t.worth ns (cs++[(i:Int)]++st) p) % p from funext λst=>wC _ _ _];exact yL p (λst:List Int=>zW s (ts.map λt=>t.worth ns (cs++[(i:Int)]++st) p)) _
       show some (HO.lst (_++[V.int (((dA (ns.length-(cs.length+1))).map λst=>hor s p (ts.map λt=>t.worth ns (cs++[(i:Int)]++st) p)).sum % p)]))=_;rw[e2];rfl
     . rw[aB hc];exact S5 _ _ (S4 c o hc e)
 . rintro σ H4 ⟨x7,x8,rfl,hL4,S4⟩;erw[0,q L H4 L0 (S02.but L0 S4) hL4]
def neS{a b:Str}(h:¬ a=b):¬ V.str a=V.str b:=λz=>h (V.str.inj z)
open Classical in
def Hl(p a:Int):Int:=if h:∃g:Int,0<g/\g<p/\g*a % p=1 then h.choose else 0
def Dw{p a g k:Int}(g0:0<g)(g1:g<p)(hg:g*a % p=1)(k0:0<k)(k1:k<p)(hk:k*a % p=1):g=k:=by
 let e1:g*(k*a) % p=g:=by
  rw[jS0,hk,wJ1,jV0,qV0 #[0] g1]
 let e2:k*(g*a) % p=k:=by
  rw[jS0,hg,wJ1,jV0,qV0 #[0] k1]
 let e3:g*(k*a) % p=k*(g*a) % p:=by rw[Int.mul_left_comm]
 exact e1.symm.trans (e3.trans e2)
def Fr{p a g:Int}(g0:0<g)(g1:g<p)(hg:g*a % p=1):Hl p a=g:=by
 let h:∃g:Int,0<g/\g<p/\g*a % p=1:=%[g,g0,g1|hg]
 unfold Hl;rw[dif_pos h];erw[k0,k1,hk]at h.choose_spec;exact Dw k0 k1 hk g0 g1 hg
def yy(p x y:Int):Int:=if y=0 then 0 else x*Hl p y % p
def opV(p:Int)(s:Str)(x y:Int):Int:=
 if s="+" then(x+y) % p else if s="-" then(x-y) % p else if s="*" then x*y % p else if s="/" then yy p x y else if s="=" then(if x=y then 1 else 0)else if x<y then 1 else 0
def DQ{p:Int}(hp:0<p):0<=yy p x y/\yy p x y<p:=by
 unfold yy
 split
 . omega
 . erw[qA0 _ #[0],qH0 _ hp]
def EV{p:Int}(hp:1<p):0<=opV p s x y/\opV p s x y<p:=by
 let m:∀z:Int,0<=z % p/\z % p<p:=λz=>%[qA0 _ #[0]|qH0 _ #[0]]
 unfold opV
 split
 . exact m _
 . split
   . exact m _
   . split
     . exact m _
     . split
       . exact DQ #[0]
       . split <;> split <;> omega
instance spDiv:∀(x y p:Int),vs=[.int x,.int y,.int p]->Pr p->p<=999983->0<=x->x<p->0<=y->y<p->Q (.int (yy p x y)) H:=1
def xw:FnScope Wp Wp (ag oB):=%[|5]
def xU(F:#["divided",oB])(eO:#[1,"inverse_of",["a","p"],spInv]):#[2,f,fd,Wp,spDiv]:=by
 exists xw
 erw[x,y,p,1,pp,p9,x0,x1,y0,y1,q]at h;refine⟨_,(aa (aF (af aN (pv 1) ad (ao _)) (ac (aj ad)) ax)
  (ac (aj (am bd (am cG (pv 0) (ai eO hr ⋯ rfl %[1,2|bc])) (pv 2))))),?_⟩
 unfold yy at q;erw[0,1,0,6]
 by_cases c:y=0
 . rw[Mt c]at q;exact aU (congrArg V.int c) q
 . rw[Mq c]at q;apply ay (λz=>c (V.int.inj z)) ?_;erw[0,0,0,y,p,1,pp,p9,3,y1,λg g0 g1 hg=>?_];rw[Fr g0 g1 hg]at q;erw[2,.inl %[3|3],0,2,(by show 0<p;omega),q]
def signW:List Str:=["+","-","*","/","=","<"]
instance spOp:∀(s:Str)(x y p:Int),vs=[.str s,.int x,.int y,.int p]->s∈signW->Pr p->p<=999983->0<=x->x<p->0<=y->y<p->Q (.int (opV p s x y)) H:=1
def vD:FnScope Wg Wg (ag lZ):=%[|5]
def opV_1:opV p "+" x y=(x+y) % p:=Mt rfl
def opV_2:opV p "-" x y=(x-y) % p:=by unfold opV;rw[Mq ⋯,Mt rfl]
def opV_3:opV p "*" x y=x*y % p:=by unfold opV;rw[Mq ⋯,Mq ⋯,Mt rfl]
def opV_4:opV p "/" x y=yy p x y:=by unfold opV;rw[Mq ⋯,Mq ⋯,Mq ⋯,Mt rfl]
def opV_5:opV p "=" x y=if x=y then 1 else 0:=by unfold opV;rw[Mq ⋯,Mq ⋯,Mq ⋯,Mq ⋯,Mt rfl]
def opV_6:opV p "<" x y=if x<y then 1 else 0:=by unfold opV;rw[Mq ⋯,Mq ⋯,Mq ⋯,Mq ⋯,Mq ⋯]
def vX(F:#["op_value",lZ])(sg:#[2,"divided",Wp,spDiv]):#[3,f,fd,Wg,spOp]:=by
 exists vD
 erw[s,x,y,p,1,hs,pp,p9,x0,x1,y0,y1,q]at h;let p0:0<p:=#[0]
 refine⟨_,(aa (aF (af aN (pv 0) aq (ao _)) (ac (aj (am bd (am aR (pv 1) (pv 2)) (pv 3)))) ax)
  (aa (aF (af aN (pv 0) aq (ao _)) (ac (aj (am bd (am bK (pv 1) (pv 2)) (pv 3)))) ax)
  (aa (aF (af aN (pv 0) aq (ao _)) (ac (aj (am bd (am cG (pv 1) (pv 2)) (pv 3)))) ax)
  (aa (aF (af aN (pv 0) aq (ao _)) (ac (aj (ai sg hr ⋯ rfl %[1,2,3|bc]))) ax)
  (aa (aF (af aN (pv 0) aq (ao _)) (ac (aj (vQ (af aN (pv 1) (pv 2) (ao _)) ad ad))) ax)
  (ac (aj (vQ (af dM (pv 1) (pv 2) (ao _)) ad ad)))))))),?_⟩
 let hs':s="+"∨s="-"∨s="*"∨s="/"∨s="="∨s="<":=by simpa [signW]using hs
 rcases hs' with rfl | rfl | rfl | rfl | rfl | rfl
 . rw[opV_1]at q;erw[0,1,0,aU rfl ?_];erw[0,0,2,0,2,p0,q]
 . rw[opV_2]at q;erw[0,1,0,7];erw[0,1,0,aU rfl ?_];erw[0,0,2,0,2,p0,q]
 . rw[opV_3]at q;erw[0,1,0,7];erw[0,1,0,7];erw[0,1,0,aU rfl ?_];erw[0,0,2,.inl %[3|3],0,2,p0,q]
 . rw[opV_4]at q;erw[0,1,0,7];erw[0,1,0,7];erw[0,1,0,7];erw[0,1,0,aU rfl ?_];erw[0,0,0,x,y,p,1,pp,p9,x0,x1,y0,y1,q]
 . rw [opV_5]at q;erw[0,1,0,7];erw[0,1,0,7];erw[0,1,0,7];erw[0,1,0,7];erw[0,1,0,aU rfl ?_];erw[0,0,1,0,6]
   by_cases c:x=y
   . rw[Mt c]at q;exact aU (congrArg V.int c) q
   . rw[Mq c]at q;exact ay (λz=>c (V.int.inj z)) q
 . rw [opV_6]at q;erw[0,1,0,7];erw[0,1,0,7];erw[0,1,0,7];erw[0,1,0,7];erw[0,1,0,7];erw[0,0,2,0,6]
   by_cases c:x<y
   . rw[Mt c]at q;exact aU c q
   . rw[Mq c]at q;exact ay c q
def gC{t':TS}(h:PSs X ss t)(hw:∀D σ H,t' D σ H->t D σ H):PSs X ss t':=λMp s σ H D I k=>h Mp s σ H D I (hw _ _ _ k)
inductive Tm where
 |num (n:Int) | box (x:Str) | plain (w:Str) | ask (w:Str) (a:Tm) | op (s:Str) (a b:Tm)
def Tm.size:Tm->Nat
 |.num _=>1 | .box _=>1 | .plain _=>1 | .ask _ a=>a.size+1 | .op _ a b=>a.size+b.size+1
def Tm.depth:Tm->Nat
 |.num _=>1 | .box _=>1 | .plain _=>1 | .ask _ a=>a.depth+1 | .op _ a b=>max a.depth b.depth+1
def Tm.depth_pos:∀t:Tm,1<=t.depth
 |.num _=>zH0 _ | .box _=>zH0 _ | .plain _=>zH0 _ | .ask _ a=>qR1 .. | .op _ a b=>qR1 ..
def Tm.size_pos:∀t:Tm,1<=t.size
 |.num _=>zH0 _ | .box _=>zH0 _ | .plain _=>zH0 _ | .ask _ a=>qR1 .. | .op _ a b=>qR1 ..
def plainW:List Str:=["round","due","asked"]
def askW:List Str:=["coin","true"]
inductive TmAt(H:Hp):V->Tm->Prop
 |num {a:Addr} {n:Int}:H a=some (.tup [.str "num",.int n])->TmAt H (.ref a) (.num n)
 |box {a:Addr} {x:Str}:H a=some (.tup [.str "box",.str x])->TmAt H (.ref a) (.box x)
 |plain {a:Addr} {w:Str}:H a=some (.tup [.str w])->TmAt H (.ref a) (.plain w)
 |ask {a:Addr} {w:Str} {v:V} {t:Tm}:H a=some (.tup [.str w,v])->TmAt H v t->TmAt H (.ref a) (.ask w t)
 |op {a:Addr} {s:Str} {v u:V} {t r:Tm}:H a=some (.tup [.str "op",.str s,v,u])->TmAt H v t->TmAt H u r->TmAt H (.ref a) (.op s t r)
def TmAt.mono(k:cH H H')(h:TmAt H v t):TmAt H' v t:=by
 induction h with
 |num e=>exact .num (k _ _ e)
 |box e=>exact .box (k _ _ e)
 |plain e=>exact .plain (k _ _ e)
 |ask e _ ih=>exact .ask (k _ _ e) ih
 |op e _ _ i1 i2=>exact .op (k _ _ e) i1 i2
inductive Hr where
 |fin | go (n:Int) | iff (t:Tm) (n:Int) | set (x:Str) (t:Tm) | say (t:Tm)
inductive HrAt(H:Hp):V->Hr->Prop
 |fin {a:Addr}:H a=some (.tup [.str "end"])->HrAt H (.ref a) .fin
 |go {a:Addr} {n:Int}:H a=some (.tup [.str "go",.int n])->HrAt H (.ref a) (.go n)
 |iff {a:Addr} {v:V} {t:Tm} {n:Int}:H a=some (.tup [.str "if",v,.int n])->TmAt H v t->HrAt H (.ref a) (.iff t n)
 |set {a:Addr} {x:Str} {v:V} {t:Tm}:H a=some (.tup [.str "set",.str x,v])->TmAt H v t->HrAt H (.ref a) (.set x t)
 |say {a:Addr} {v:V} {t:Tm}:H a=some (.tup [.str "say",v])->TmAt H v t->HrAt H (.ref a) (.say t)
def HrAt.mono(k:cH H H')(h:HrAt H v r):HrAt H' v r:=by
 cases h with
 |fin e=>exact .fin (k _ _ e)
 |go e=>exact .go (k _ _ e)
 |iff e t=>exact .iff (k _ _ e) (t.mono k)
 |set e t=>exact .set (k _ _ e) (t.mono k)
 |say e t=>exact .say (k _ _ e) (t.mono k)
section
variable {CM CA CG:Addr}
abbrev ur:Stmt:=bw kH 0
abbrev qT:Stmt:=bw kH 1
abbrev ut:Stmt:=bw kH 2
abbrev oE:Stmt:=bw kH 3
abbrev uq:Stmt:=bw kH 4
abbrev ug:Stmt:=bw lh 0
abbrev xz:Stmt:=bw lh 1
abbrev xA:Stmt:=bw lh 2
def al(g:Addr)(nr mn hd s:Int)(aT:Addr)(tr:V):List (Str×V):=[("game",.ref g),("number",.int nr),("many",.int mn),("held",.int hd),("s",.int s),("tossed",.ref aT),("truths",tr)]
def vp:(al g nr mn hd s aT tr).lookup ("game":Str)=some (.ref g):=by rfl'
structure ATxt(K:W.Frag)(mg:#[9])(C:Addr):Prop where
 cl:Cls K C
 nG:NoAttr K C "game"
 nN:NoAttr K C "number"
 nM:NoAttr K C "many"
 nH:NoAttr K C "held"
 nS:NoAttr K C "s"
 nT:NoAttr K C "tossed"
 nR:NoAttr K C "truths"
 mgC:mg "Asking"=some (.ref C)
def ml(g h:Addr)(r:Int)(b:Addr):List (Str×V):=[("game",.ref g),("helper",.ref h),("next_round",.int r),("boxes",.ref b)]
section
variable {g h b:Addr}{r:Int}
def ml_g:(ml g h r b).lookup ("game":Str)=some (.ref g):=by rfl'
def Fi:(ml g h r b).lookup ("helper":Str)=some (.ref h):=by rfl'
def Hc:(ml g h r b).lookup ("next_round":Str)=some (.int r):=by rfl'
def Dc:(ml g h r b).lookup ("boxes":Str)=some (.ref b):=by rfl'
def ml_n1:(ml g h r b).lookup ("do_row":Str)=none:=by rfl'
def ml_n2:(ml g h r b).lookup ("say":Str)=none:=by rfl'
def yd:(ml g h r b).length<1000:=by show 4<1000;decide
def Da{v:Int}:bN "next_round" (.int v) (ml g h r b)=ml g h v b:=by rfl'
end
structure MTxt(K:W.Frag)(mg:#[9])(C:Addr):Prop where
 cl:Cls K C
 nG:NoAttr K C "game"
 nH:NoAttr K C "helper"
 nR:NoAttr K C "next_round"
 nB:NoAttr K C "boxes"
 mgC:mg "Machine"=some (.ref C)
def BxAt(H:Hp)(b:Addr)(bx:Str->Int)(m:Nat):Prop:=∃Ms:List (Key×V),H b=some (.dK Ms)/\Ms.length<=m/\∀x:Str,(ip Ms (.inr x)).getD (.int 0)=.int (bx x)
def wN(bx:Str->Int)(x:Str)(n:Int):Str->Int:=λy=>if y=x then n else bx y
def BxAt.keep{H':Hp}(h:BxAt H b bx m)(k:∀o,H b=some o->H' b=some o):BxAt H' b bx m:=by
 erw[Ms,e,r]at h;erw[Ms,k _ e,r]
def HL{Ms:List (Key×V)}{bx:Str->Int}(x:Str)(n:Int)(h:∀x:Str,(ip Ms (.inr x)).getD (.int 0)=.int (bx x)):∀y:Str,(ip (ni Ms (.inr x) (.int n)) (.inr y)).getD (.int 0)=.int (wN bx x n y):=λy=>by
 rw[Bg];unfold wN
 by_cases c:y=x
 . rw[Mt (by rw[c]),Mt c];rfl
 . rw[Mq (λz=>c (Sum.inr.inj z)),Mq c];exact h y
section
variable {g aT:Addr}{nr mn hd s:Int}{tr:V}
def HS:(al g nr mn hd s aT tr).lookup ("number":Str)=some (.int nr):=by rfl'
def al_m:(al g nr mn hd s aT tr).lookup ("many":Str)=some (.int mn):=by rfl'
def al_h:(al g nr mn hd s aT tr).lookup ("held":Str)=some (.int hd):=by rfl'
def al_s:(al g nr mn hd s aT tr).lookup ("s":Str)=some (.int s):=by rfl'
def al_t:(al g nr mn hd s aT tr).lookup ("tossed":Str)=some (.ref aT):=by rfl'
def FA:(al g nr mn hd s aT tr).lookup ("truths":Str)=some tr:=by rfl'
def al_n1:(al g nr mn hd s aT tr).lookup ("plain_value":Str)=none:=by rfl'
def al_n2:(al g nr mn hd s aT tr).lookup ("coin_at":Str)=none:=by rfl'
def al_n3:(al g nr mn hd s aT tr).lookup ("true_numbers":Str)=none:=by rfl'
def al_n4:(al g nr mn hd s aT tr).lookup ("true_at":Str)=none:=by rfl'
def DZ:bN "truths" v (al g nr mn hd s aT tr)=al g nr mn hd s aT v:=by rfl'
def Ea:(al g nr mn hd s aT tr).length<1000:=by show 7<1000;decide
end
structure Ak where
 ns:List Str
 ts:List Tr
 p:Int
 nr:Int
 mn:Int
 hd:Int
 s:Int
 to:List Int
def Ak.tru(z:Ak):List Int:=if z.nr=0 then z.ts.map (λt=>(cnt t z.ns:Int))else pM z.ns z.ts z.s z.p z.to (cr z.ts (z.ns.getD z.to.length "")+1).toNat
structure AkOk(z:Ak):Prop where
 gk:GmK z.ns z.ts z.p
 n6:z.ns.length<=6
 nr0:0<=z.nr
 nrt:0<z.nr->z.to.length<z.ns.length
 po:cR z.to z.p
 s0:0<=z.s
 s1:z.s<z.p
 h0:0<=z.hd
 h1:z.hd<z.p
 tl:z.to.length<=100
def AkAt(CA CG:Addr)(H:Hp)(k g v:Addr)(z:Ak):Prop:=∃(dk aT a b d:Addr)(tv:List V)(tr:V),H k=some (.ins CA dk (al g z.nr z.mn z.hd z.s aT tr))/\GameAt CG H g a b d z.p/\H a=some (.tup (z.ns.map V.str))/\H b=some (.tup tv)/\TreesAt H tv z.ts/\H d=some (.lst ((z.ns.map (cr z.ts)).map V.int))/\d≠v/\H aT=some (.tup (z.to.map V.int))/\(tr=.non∨∃l,tr=.ref l/\l≠v/\H l=some (.lst (z.tru.map V.int)))
def AkAt.same(h:AkAt CA CG H k g v z)(s:Same H H'):AkAt CA CG H' k g v z:=by
 erw[dk,aT,a,b,d,tv,tr,h1,h2,h3,h4,h5,h6,h7,h8,h9]at h;erw[dk,aT,a,b,d,tv,tr,s _ _ h1,h2.same s,s _ _ h3,s _ _ h4,h5.mono (bp s),s _ _ h6,h7,s _ _ h8,h9.imp_right fun⟨l,e,n,r⟩=>%[l,e,n|s _ _ r]]
def AkAt.but2{H':Hp}{b:Addr}{Ms:List (Key×V)}{ys:List V}(h:AkAt CA CG H k g v z)(hb:H b=some (.dK Ms))(hv:H v=some (.lst ys))(s:∀a o,a≠b->a≠v->H a=some o->H' a=some o):AkAt CA CG H' k g v z:=by
 erw[dk,aT,a,b',d,tv,tr,h1,%[dg|h2],h3,h4,h5,h6,h7,h8,h9]at h;let T:cH H H':=λc xs e=>s _ _ (bL e hb nofun) (bL e hv nofun) e
 erw[dk,aT,a,b',d,tv,tr,s _ _ (bL h1 hb nofun) (bL h1 hv nofun) h1,%[dg|s _ _ (bL h2 hb nofun) (bL h2 hv nofun) h2],T _ _ h3,T _ _ h4,h5.mono T,s _ _ (bL h6 hb nofun) h7 h6,h7,T _ _ h8,h9.imp_right fun⟨l,e,n,r⟩=>%[l,e,n|s _ _ (bL r hb nofun) n r]]
def lJ(z:Ak):List Int:=if 1<z.ts.length then z.s::z.to else z.to
def lK(z:Ak)(i:Int):Int:=if 1<=i/\i<=((lJ z).length:Int)then(lJ z).getD (i-1).toNat 0 else 0
def mv(z:Ak)(i:Int):Int:=if 0<z.nr then val z.p z.tru i else if i<(z.tru.length:Int)then z.tru.getD i.toNat 0 % z.p else 0
def oH(z:Ak)(w:Str):Int:=if w="round" then z.nr % z.p else if w="asked" then z.mn % z.p else z.hd
def AkOk.p0(k:AkOk z):2<z.p:=k.gk.p2
def rQ(h:cR xs p)(p0:0<p)(i:Nat):0<=xs.getD i 0/\xs.getD i 0<p:=by
 rw[qT0];cases e:xs[i]? with
 |none=>erw[qC1 0,p0]
 |some x=>exact h x (qI0 e)
def DW(k:AkOk z):cR (lJ z) z.p:=by
 unfold lJ
 split
 . intro x hx;rcases zS0 hx with rfl | hx
   . erw[k.s0,k.s1]
   . exact k.po x hx
 . exact k.po
def AU(k:AkOk z)(i:Int):0<=lK z i/\lK z i<z.p:=by
 have:=k.p0
 unfold lK
 split
 . exact rQ (DW k) #[0] _
 . omega
def zA(k:AkOk z)(i:Int):0<=mv z i/\mv z i<z.p:=by
 have:=k.p0
 unfold mv
 split
 . erw[qA0 _ #[0],qH0 _ #[0]]
 . split
   . erw[qA0 _ #[0],qH0 _ #[0]]
   . omega
def xJ(k:AkOk z)(w:Str):0<=oH z w/\oH z w<z.p:=by
 have:=k.p0
 unfold oH
 split
 . erw[qA0 _ #[0],qH0 _ #[0]]
 . split
   . erw[qA0 _ #[0],qH0 _ #[0]]
   . erw[k.h0,k.h1]
instance spPlain(CA CG:Addr):∀(k g v:Addr)(z:Ak)(w:Str),vs=[.ref k,.str w]->AkAt CA CG H k g v z->0<z.p->Q (.int (oH z w)) H:=1
def zQ:FnScope Wh Wh (ag qT):=%[|5]
def Al(F:#["plain_value","Asking.plain_value",qT])(TA:ATxt K mg CA)(TG:GTxt K mg CG):#[1,f,fd,Wh,spPlain CA CG]:=by
 exists zQ
 erw[k,g,v,z,w,1,%[dk,aT,a,b,d,tv,tr,hk,%[dg|hg]|_],p0,q]at h;refine⟨_,(aa (aF (af aN (pv 1) aq (ao _)) (ac (aj (am bd (az (pv 0) rfl) (az (az (pv 0) rfl) rfl)))) ax)
  (aa (aF (af aN (pv 1) aq (ao _)) (ac (aj (am bd (az (pv 0) rfl) (az (az (pv 0) rfl) rfl)))) ax)
  (ac (aj (az (pv 0) rfl))))),?_⟩
 unfold oH at q;erw[0,1,0,6]
 by_cases c:w="round"
 . rw[Mt c]at q;apply aU (congrArg V.str c) ?_;erw[0,k,CA,dk,_,0,hk,TA.cl,TA.nN,HS,0,k,CA,dk,_,0,hk,TA.cl,TA.nG,vp,g,CG,dg,_,0,hg,TG.cl,TG.nF,iJ ..,2,p0,q]
 . rw [Mq c]at q;apply ay (neS c) ?_;erw[0,1,0,6]
   by_cases c:w="asked"
   . rw[Mt c]at q;apply aU (congrArg V.str c) ?_;erw[0,k,CA,dk,_,0,hk,TA.cl,TA.nM,al_m,0,k,CA,dk,_,0,hk,TA.cl,TA.nG,vp,g,CG,dg,_,0,hg,TG.cl,TG.nF,iJ ..,2,p0,q]
   . rw[Mq c]at q;apply ay (neS c) ?_;erw[0,k,CA,dk,_,0,hk,TA.cl,TA.nH,al_h,q]
instance spCoinAt(CA CG:Addr):∀(k g v:Addr)(z:Ak)(i:Int),vs=[.ref k,.int i]->AkAt CA CG H k g v z->z.to.length<=100->(∀H',Same H H'->Q (.int (lK z i)) H'):=1
def Ee:FnScope ["self","place","tossed"] WK (ag ut):=%[|5]
instance tCoinE(z:Ak)(Dn:Ends)(σ:St)(H:Hp):∀(x0:Option V)(a:Addr)(i:Int),σ=[x0,some (.int i),some (.ref a)]->H a=some (.tup ((lJ z).map V.int))->Dn.rt (.int (lK z i)) H:=0
def CF(F:#["coin_at","Asking.coin_at",ut])(B:Bl mg)(TA:ATxt K mg CA)(TG:GTxt K mg CG):#[1,f,fd,WK,spCoinAt CA CG]:=by
 exists Ee
 erw[k,g,v,z,i,1,%[dk,aT,a,b,d,tv,tr,hk,%[dg|hg],ha,hb,TS,_,_,hT|_],tl,q]at h;let vl:=TS.length;refine⟨_,(aa #[ah,2,Ee,az (pv 0) rfl]
  (aa (aF (af fO (aE aD rfl B.len zC1 %[az (az (pv 0) rfl) rfl|bc]) ad (ao _)) (ac #[ah,2,Ee,am op_catT (aM %[az (pv 0) rfl|bc]) (pv 2)]) ax)
  (gC (t':=tCoinE z) (aa (aF (vK sT sT ad (pv 1) (aE aD rfl B.len zC1 %[2|bc])) (ac (aj (aI aJ (pv 2) (am bK (pv 1) ad) #[1]))) ax)
  (ac (aj ad))) (by
   rintro Dn σ H ⟨x0,a,i,rfl,ha,q⟩;unfold lK at q;erw[0,2,0,6];let el:(((lJ z).map V.int).length:Int)=((lJ z).length:Int):=by rw[zF0]
   by_cases c1:1<=i
   . apply aU c1 ?_;erw[0,a,0,.inr (zB0 ha),2,0,6]
     by_cases c2:i<=((lJ z).length:Int)
     . rw [Mt %[c1|c2]]at q;apply aU (by rw[el];exact c2) ?_;obtain⟨j,ej⟩:∃j:Nat,i-1=(j:Int):=⟨(i-1).toNat,#[0]⟩
       rw[ej,qP0]at q;erw[0,0,2,a,_,2,zB0 ha,6,q];rw[ej];exact vb #[0]
     . rw[Mq (λz=>c2 z.2)]at q;exact ay (by rw[el];exact c2) q
   . rw[Mq (λz=>c1 z.1)]at q;exact ay c1 %[0|cV q])))),?_⟩
 erw[0,k,CA,dk,_,0,hk,TA.cl,TA.nT,al_t,6];erw[0,k,CA,dk,_,0,hk,TA.cl,TA.nG,vp,g,CG,dg,_,0,hg,TG.cl,TG.nT,nU ..,b,0,.inr (zB0 hb),2,0,6]
 by_cases c:1<z.ts.length
 . apply aU (by rw[vl];omega) ?_;let ec:lJ z=z.s::z.to:=Mt c;erw[0,k,CA,dk,_,0,hk,TA.cl,TA.nS,al_s,y1S,λt ht=>?_];let I:=zC0 ht (.tup [.int z.s]);let g1:upd H t (.tup [.int z.s]) t=some (.tup [.int z.s]):=bh;generalize upd H t (.tup [.int z.s])=H1 at I g1;erw[0,t,aT,2,zB0 g1,zB0 (I _ _ hT),(λz=>nomatch z),aV (by show 1+(z.to.map V.int).length<=1000;rw[zF0];omega),λe=>?_,λ_ y hy=>?_]
   . erw[_,t,i,1,6,q _ I];rw[ec,g1,zY0,e]
   . erw[_,y,i,1,6,q _ (I.trans (zC0 hy _))];rw[bh,ec];rfl
 . apply ay (by rw[vl];omega) ?_;let ec:lJ z=z.to:=Mq c;erw[_,aT,i,1,by rw[ec];exact hT,q _ λ_ _ e=>e]
end
section
variable {CM CA CG:Addr}
def BR(ns:List Str)(ts:List Tr)(s p:Int)(cs:List Int)(n:Nat):(pM ns ts s p cs n).length=n:=by
 unfold pM;rw[zF0,qS0]
def BQ{p:Int}(hp:0<p):cR (pM ns ts s p cs n) p:=λx hx=>by
 unfold pM at hx;let%[k,_|1]:=List.mem_map.mp hx;erw[qA0 _ #[0],qH0 _ hp]
def AkOk.deg(k:AkOk z)(h:0<z.nr):∃x,z.ns[z.to.length]?=some x/\z.ns.getD z.to.length ""=x/\0<=cr z.ts x/\cr z.ts x<z.p/\cr z.ts x<=400:=by
 let hl:=k.nrt h;erw[z.ns[z.to.length],zO0 hl,by rw[qT0,zO0 hl];rfl,6];let hm:=qO0 hl;let%[d0|d1]:=k.gk.deg _ hm;erw[d0,d1,6];let t0:z.ts≠[]:=λe=>by have:=k.gk.t1;rw[e]at this;cases this
 have:=rS (p:=401) (x:=z.ns[z.to.length]) t0 λt ht=>by
  let h1:=(k.gk.tok t ht).2.2.2;let h2:=t.names_len;let h3:=jU1 (a:=z.ns[z.to.length]) (l:=t.names);omega
 omega
def AkOk.row(k:AkOk z)(h:0<z.nr):lN z.tru z.p:=by
 let%[x,hx,ex,d0,d1|d4]:=k.deg h;let p2:=k.p0;let p9:=k.gk.p9;let e:z.tru=pM z.ns z.ts z.s z.p z.to (cr z.ts x+1).toNat:=by
  unfold Ak.tru;rw[Mq #[0],ex]
 rw[e];unfold lN;rw[BR];erw[3,3,3,λj=>?_]
 have:=rQ (BQ (ns:=z.ns) (ts:=z.ts) (s:=z.s) (cs:=z.to) (n:=(cr z.ts x+1).toNat) (show 0<z.p by omega)) #[0] j
 omega
instance spTruths(CA CG:Addr):∀(k g v:Addr)(z:Ak)(ys:List V),vs=[.ref k]->AkAt CA CG H k g v z->AkOk z->H v=some (.lst ys)->(∀(l:Addr)(H':Hp),H' l=some (.lst (z.tru.map V.int))->AkAt CA CG H' k g v z->SameBut k H H'->Q (.ref l) H'):=1
def xy:FnScope WB WB (ag oE):=%[|5]
def xW(F:#["true_numbers","Asking.true_numbers",oE])(TA:ATxt K mg CA)(mI:#[16,"counts_of",WH,spCounts CG])(o7:#[14,"true_row",["game","s","coins"],spTrue CG]):#[17,f,fd,WB,spTruths CA CG]:=by
 exists xy
 erw[k,g,v,z,ys,1,AK,ok,hv,q]at h;refine⟨_,(aa (aF (af Ck (az (pv 0) rfl) mo (ao _)) (ac (aF (af aN (az (pv 0) rfl) ad (ao _)) (ac (aP (pv 0) (ai mI hr ⋯ rfl %[az (pv 0) rfl|bc]) rfl)) (ac (aP (pv 0) (ai o7 hr ⋯ rfl %[az (pv 0) rfl,az (pv 0) rfl,az (pv 0) rfl|bc]) rfl)))) ax)
  (ac (aj (az (pv 0) rfl)))),?_⟩
 let AK':=AK;erw[dk,aT,a,b,d,tv,tr,hk,GA,ha,hb,TS,hd,dv,hT,ht]at AK';let t0:z.ts≠[]:=λe=>by have:=ok.gk.t1;rw[e]at this;cases this
 let t10:=ok.gk.t10;let p2:=ok.p0;let p9:=ok.gk.p9;erw[0,k,CA,dk,_,0,hk,TA.cl,TA.nR,FA,6];rcases ht with rfl | ⟨l,rfl,lv,hl⟩
 . -- not yet asked
   let put:∀(l:Addr)(H1:Hp),H l=none->Same H H1->H1 l=some (.lst (z.tru.map V.int))->AkAt CA CG (upd H1 k (.ins CA dk (al g z.nr z.mn z.hd z.s aT (.ref l)))) k g v z/\(upd H1 k (.ins CA dk (al g z.nr z.mn z.hd z.s aT (.ref l)))) l=some (.lst (z.tru.map V.int))/\SameBut k H (upd H1 k (.ins CA dk (al g z.nr z.mn z.hd z.s aT (.ref l)))):=by
    intro l H1 l0 S1 hl;let lk:l≠k:=(bi hk l0).symm;let U:∀{c:Addr}{o:HO},c≠k->H1 c=some o->(upd H1 k (.ins CA dk (al g z.nr z.mn z.hd z.s aT (.ref l)))) c=some o:=λn e=>by rw[aB n];exact e
    let gk:g≠k:=λe=>by
     erw[dg,hg]at GA;rw[e,hk]at hg;cases hg
    let kT:cH H (upd H1 k (.ins CA dk (al g z.nr z.mn z.hd z.s aT (.ref l)))):=λc xs e=>U (bL e hk nofun) (S1 _ _ e)
    erw[dg,hg]at GA;erw[%[dk,aT,a,b,d,tv,.ref l,bh,%[dg|U gk (S1 _ _ hg)],kT _ _ ha,kT _ _ hb,TS.mono kT,U (bL hd hk nofun) (S1 _ _ hd),dv,kT _ _ hT|.inr %[l,1,(bi hv l0).symm|U lk hl]],U lk hl,(zI0 S1).trans (SameBut.upd _)]
   erw[1,0,ee ?_];erw[0,k,CA,dk,_,0,hk,TA.cl,TA.nN,HS,1,0,6]
   by_cases c:z.nr=0
   . apply aU (congrArg V.int c) ?_;erw[0,k,CA,dk,_,0,hk,TA.cl,TA.nG,vp,g,a,b,d,z.ns,tv,z.ts,z.p,1,GA,ha,ok.n6,hb,TS,t10,λt ht=>%[(ok.gk.tok t ht).1|by have:=(ok.gk.tok t ht).2.2.1;omega],λl H1 l0 S1 hl=>?_];let et:z.tru=z.ts.map (λt=>(cnt t z.ns:Int)):=Mt c;rw[←et]at hl;let%[A1,L1|B1]:=put l H1 l0 S1 hl;erw[0,k,CA,dk,0,S1 _ _ hk,TA.cl,TA.nR,Ea,6];rw[DZ];erw[0,k,CA,dk,_,0,bh,TA.cl,TA.nR,FA,q l _ L1 A1 B1]
   . apply ay (λe=>c (V.int.inj e)) ?_;let n0:=ok.nr0;let%[x,hx,ex,d0,d1|d4]:=ok.deg #[0];erw[0,k,CA,dk,_,0,hk,TA.cl,TA.nG,vp,0,k,CA,dk,_,0,hk,TA.cl,TA.nS,al_s,0,k,CA,dk,_,0,hk,TA.cl,TA.nT,al_t,g,a,b,d,aT,z.ns,tv,z.ts,z.to,x,z.s,z.p,1,GA,ha,ok.n6,hb,TS,t0,t10,λt ht=>%[(ok.gk.tok t ht).1|(ok.gk.tok t ht).2.2.1],hd,hT,hx,d1,3,ok.po,3,3,λl H1 l0 S1 hl=>?_];let et:z.tru=pM z.ns z.ts z.s z.p z.to (cr z.ts x+1).toNat:=by
      unfold Ak.tru;rw[Mq c,ex]
     rw[←et]at hl;let%[A1,L1|B1]:=put l H1 l0 S1 hl;erw[0,k,CA,dk,0,S1 _ _ hk,TA.cl,TA.nR,Ea,6];rw[DZ];erw[0,k,CA,dk,_,0,bh,TA.cl,TA.nR,FA,q l _ L1 A1 B1]
 . erw[1,0,cV ?_];erw[0,k,CA,dk,_,0,hk,TA.cl,TA.nR,FA,q l H hl AK (SameBut.refl _ _)]
instance spTrueAt(CA CG:Addr):∀(k g v:Addr)(z:Ak)(ys:List V)(i:Int),vs=[.ref k,.int i]->AkAt CA CG H k g v z->AkOk z->H v=some (.lst ys)->0<=i->i<z.p->(∀H',AkAt CA CG H' k g v z->SameBut k H H'->Q (.int (mv z i)) H'):=1
def IU:FnScope ["self","place","truths"] WK (ag uq):=%[|5]
def CC(F:#["true_at","Asking.true_at",uq])(B:Bl mg)(TA:ATxt K mg CA)(TG:GTxt K mg CG)(mT:Meth K CA "true_numbers" fT)(GT:#[17,fT,fdT,WB,spTruths CA CG])(bT:Binds K fdT WB [])(cy:#[4,"value_at",WJ,spVal]):#[18,f,fd,WK,spTrueAt CA CG]:=by
 exists IU
 erw[k,g,v,z,ys,i,1,AK,ok,hv,i0,i1,q]at h;refine⟨_,(aa #[ah,2,IU,bV (pv 0) TA.cl mT GT hr bT .nil aY]
  (aa (aF (af fO (az (pv 0) rfl) ad (ao _)) (ac (aj (ai cy hr ⋯ rfl %[2,1,az (az (pv 0) rfl) rfl|bc]))) ax)
  (aa (aF (af dM (pv 1) (aE aD rfl B.len zC1 %[2|bc]) (ao _)) (ac (aj (am bd (aI ix_list (pv 2) (pv 1) #[1]) (az (az (pv 0) rfl) rfl)))) ax)
  (ac (aj ad))))),?_⟩
 let p2:=ok.p0;let p9:=ok.gk.p9;let%[dk,aT,_,_,_,_,tr,hk|_]:=id AK;erw[0,k,dk,0,hk,al_n3,k,g,v,z,ys,1,AK,ok,hv,λl H1 hl A1 S1=>?_];let A1':=A1;erw[dk1,aT1,a1,b1,d1,tv1,tr1,hk1,%[dg1|hg1],_]at A1';unfold mv at q;erw[0,k,CA,dk1,_,0,hk1,TA.cl,TA.nN,HS,2,0,6]
 by_cases c:0<z.nr
 . rw[Mt c]at q;apply aU c ?_;erw[0,0,0,k,CA,dk1,_,0,hk1,TA.cl,TA.nG,vp,g,CG,dg1,_,0,hg1,TG.cl,TG.nF,iJ ..,l,z.tru,i,z.p,1,.inl hl,ok.row c,ok.gk.pr,p9,i0,i1,λH2 S2=>q H2 (A1.same S2) (S1.trans (zI0 S2))]
 . rw [Mq c]at q;apply ay c ?_;erw[0,0,l,0,.inl (zG0 hl),2,0,6];let el:((z.tru.map V.int).length:Int)=(z.tru.length:Int):=by rw[zF0]
   by_cases c2:i<(z.tru.length:Int)
   . rw[Mt c2]at q;apply aU (by rw[el];exact c2) ?_;let%[j|1]:=qF1 i0;rw[qP0]at q;erw[0,0,l,_,2,zG0 hl,vb #[0],0,k,CA,dk1,_,0,hk1,TA.cl,TA.nG,vp,g,CG,dg1,_,0,hg1,TG.cl,TG.nF,iJ ..,2,(by show 0<z.p;omega),q H1 A1 S1]
   . rw[Mq c2]at q;apply ay (by rw[el];exact c2) ?_;exact q H1 A1 S1
def Tm.worth(z:Ak)(bx:Str->Int):Tm->Int
 |.num n=>n % z.p | .box x=>bx x | .plain w=>oH z w
 |.ask w a=>if w="coin" then lK z (a.worth z bx)else mv z (a.worth z bx)
 |.op s a b=>opV z.p s (a.worth z bx) (b.worth z bx)
def Tm.good:Tm->Prop
 |.num _=>True | .box _=>True | .plain w=>w∈plainW | .ask w a=>w∈askW/\a.good | .op s a b=>s∈signW/\a.good/\b.good
def kR(p:Int)(bx:Str->Int):Prop:=∀x,0<=bx x/\bx x<p
def Tm.worth_rng(k:AkOk z)(hb:kR z.p bx):∀t:Tm,0<=t.worth z bx/\t.worth z bx<z.p
 |.num n=>by have:=k.p0;erw[qA0 _ #[0],qH0 _ #[0]]
 |.box x=>hb x
 |.plain w=>xJ k w
 |.ask w a=>by
   show 0<=(if w="coin" then lK z (a.worth z bx)else mv z (a.worth z bx))/\(if w="coin" then lK z (a.worth z bx)else mv z (a.worth z bx))<z.p
   split
   . exact AU k _
   . exact zA k _
 |.op s a b=>by have:=k.p0;exact EV #[0]
instance spTm(CA CG:Addr)(n:Nat):∀(v:V)(t:Tm)(b k g sd:Addr)(z:Ak)(ys:List V)(bx:Str->Int)(m:Nat),vs=[v,.ref b,.ref k]->TmAt H v t->t.good->t.depth<=n->BxAt H b bx m->kR z.p bx->AkAt CA CG H k g sd z->AkOk z->H sd=some (.lst ys)->(∀H',AkAt CA CG H' k g sd z->SameBut k H H'->Q (.int (t.worth z bx)) H'):=1
def i3:FnScope ["term","boxes","asking","word","first","second"] Wa (ag jH):=%[|5]
structure AskF(P:Program)(w:World)(K:W.Frag)(mg:#[9])(base:Heap)(CA CG fP fC fR:Addr)(fdP fdC fdR:FuncData):Prop where
 mP:Meth K CA "plain_value" fP
 GP:#[1,fP,fdP,Wh,spPlain CA CG]
 bP:Binds K fdP Wh []
 mC:Meth K CA "coin_at" fC
 GC:#[1,fC,fdC,WK,spCoinAt CA CG]
 bC:Binds K fdC WK []
 mR:Meth K CA "true_at" fR
 GR:#[18,fR,fdR,WK,spTrueAt CA CG]
 bR:Binds K fdR WK []
def Bf{n:Nat}(F:#["value_of",jH])(TA:ATxt K mg CA)(TG:GTxt K mg CG)(M:AskF P w K mg base CA CG fP fC fR fdP fdC fdR)(fQ:#[3,"op_value",Wg,spOp])(cM:#[n+18,"value_of",Wa,spTm CA CG n]):#[n+19,f,fd,Wa,spTm CA CG (n+1)]:=by
 exists i3
 erw[v,t,b,k,g,sd,z,ys,bx,m,1,T,tg,td,BX,bo,AK,ok,hs,q]at h;let hu:=FS hr;let MB:Room 1 _:=hr.mono #[0];let hr18:Room 18 _:=hr.mono #[0];refine⟨_,(aa #[ah,3,i3,aI aJ (pv 0) ad #[1]]
  (aa (aF (af aN (pv 3) aq (ao _)) (ac (aj (am bd (aI aJ (pv 0) ad #[1]) (az (az (pv 2) rfl) rfl)))) ax)
  (aa (aF (af aN (pv 3) aq (ao _)) (ac (aj (Cg hu (pv 1) (aI aJ (pv 0) ad #[1]) ad %[1,1,1|1]))) ax)
  (aa (aF (af aN (pv 3) aq (ao _)) (ac (aj (bu (pv 2) TA.cl M.mC M.GC MB M.bC .nil aY %[ai cM hr (zH0 _) rfl %[aI aJ (pv 0) ad #[1],1,2|bc]|bc]))) ax)
  (aa (aF (af aN (pv 3) aq (ao _)) (ac (aj (bu (pv 2) TA.cl M.mR M.GR hr18 M.bR .nil aY %[ai cM hr (zH0 _) rfl %[aI aJ (pv 0) ad #[1],1,2|bc]|bc]))) ax)
  (aa (aF (af aN (pv 3) aq (ao _)) (aa #[ah,4,i3,ai cM hr (zH0 _) rfl %[aI aJ (pv 0) ad #[1],1,2|bc]]
   (aa #[ah,5,i3,ai cM hr (zH0 _) rfl %[aI aJ (pv 0) ad #[1],1,2|bc]]
   (ac (aj (ai fQ hr #[0] rfl %[aI aJ (pv 0) ad #[1],4,5,az (az (pv 2) rfl) rfl|bc]))))) ax)
  (ac (aj (bu (pv 2) TA.cl M.mP M.GP MB M.bP .nil aY %[3|bc]))))))))),?_⟩
 let AK':=AK;erw[dk,aT,ga,gb,gd,tv,tr,hk,%[dg|hg],_]at AK';let p2:=ok.p0;let p0:0<z.p:=#[0]
 let kT:∀{H':Hp},SameBut k H H'->cH H H':=λs c xs e=>s _ _ (bL e hk nofun) e
 let kB:∀{H':Hp},SameBut k H H'->BxAt H' b bx m:=λs=>BX.keep λo e=>s _ _ (by
  erw[Ms,e',_]at BX;exact bL e' hk nofun) e
 let kS:∀{H':Hp},SameBut k H H'->H' sd=some (.lst ys):=λs=>s _ _ (bL hs hk nofun) hs
 cases T with
 | @num a n e=>
   erw[0,a,_,(0),0,1,zB0 e,1,6];erw[0,1,0,aU rfl ?_];erw[0,a,_,(1),0,1,zB0 e,1,0,k,CA,dk,_,0,hk,TA.cl,TA.nG,vp,g,CG,dg,_,0,hg,TG.cl,TG.nF,iJ ..,2,p0,q H AK (SameBut.refl _ _)]
 | @box a x e=>
   erw[0,a,_,(0),0,1,zB0 e,1,6];erw[0,1,0,7];erw[0,1,0,aU rfl ?_];erw[Ms,hb,_,hx]at BX;erw[0,b,1,.inl %[Ms|.inl hb],0,a,_,(1),0,1,zB0 e,1,_,DGet.k (k:=.inr x) hb,6];rw[hx];exact q H AK (SameBut.refl _ _)
 | @plain a wd e=>
   let no:∀x:Str,x∉plainW->¬ V.str wd=V.str x:=λx hx e=>hx (by rw[←V.str.inj e];exact tg)
   erw[0,a,_,(0),0,1,zB0 e,1,6];erw[0,1,0,ay (no _ ⋯) ?_];erw[0,1,0,ay (no _ ⋯) ?_];erw[0,1,0,ay (no _ ⋯) ?_];erw[0,1,0,ay (no _ ⋯) ?_];erw[0,1,0,ay (no _ ⋯) ?_];erw[0,k,dk,0,hk,al_n1,0,k,g,sd,z,wd,1,AK,p0,q H AK (SameBut.refl _ _)]
 | @ask a wd v1 t1 e T1=>
   erw[wq,tq]at tg;let hw:wd="coin"∨wd="true":=by simpa [askW]using wq
   let d1:t1.depth<=n:=by have:t1.depth+1<=n+1:=td;omega
   let wr:=Tm.worth_rng ok bo t1;erw[0,a,_,(0),0,1,zB0 e,1,6];rcases hw with rfl | rfl
   . erw[0,1,0,7];erw[0,1,0,7];erw[0,1,0,aU rfl ?_];erw[0,k,dk,0,hk,al_n2,0,a,_,(1),0,1,zB0 e,1,0,0,v1,t1,b,k,g,sd,z,ys,bx,m,1,T1,tq,d1,BX,bo,AK,ok,hs,λH1 A1 S1=>?_];erw[k,g,sd,z,0,A1,ok.tl,λH2 S2=>?_];let qq:=q H2 (A1.same S2) (S1.trans (zI0 S2));let e1:(Tm.ask "coin" t1).worth z bx=lK z (t1.worth z bx):=Mt rfl;rw[e1]at qq;exact qq
   . erw[0,1,0,7];erw[0,1,0,7];erw[0,1,0,7];erw[0,1,0,aU rfl ?_];erw[0,k,dk,0,hk,al_n4,0,a,_,(1),0,1,zB0 e,1,0,0,v1,t1,b,k,g,sd,z,ys,bx,m,1,T1,tq,d1,BX,bo,AK,ok,hs,λH1 A1 S1=>?_];erw[k,g,sd,z,ys,0,A1,ok,kS S1,wr.1,wr.2,λH2 A2 S2=>?_];let qq:=q H2 A2 (S1.trans S2);let e1:(Tm.ask "true" t1).worth z bx=mv z (t1.worth z bx):=Mq ⋯;rw[e1]at qq;exact qq
 | @op a o v1 v2 t1 t2 e T1 T2=>
   erw[oq,q1,q2]at tg;let d1:t1.depth<=n:=by have:max t1.depth t2.depth+1<=n+1:=td;omega
   let d2:t2.depth<=n:=by have:max t1.depth t2.depth+1<=n+1:=td;omega
   let w1:=Tm.worth_rng ok bo t1;let w2:=Tm.worth_rng ok bo t2;erw[0,a,_,(0),0,1,zB0 e,1,6];erw[0,1,0,7];erw[0,1,0,7];erw[0,1,0,7];erw[0,1,0,7];erw[0,1,0,aU rfl ?_];erw[0,a,_,(2),0,1,zB0 e,1,0,0,v1,t1,b,k,g,sd,z,ys,bx,m,1,T1,q1,d1,BX,bo,AK,ok,hs,λH1 A1 S1=>?_];let e1:=kT S1 _ _ e;erw[0,a,_,(3),0,1,zB0 e1,1,0,0,v2,t2,b,k,g,sd,z,ys,bx,m,1,T2.mono (kT S1),q2,d2,kB S1,bo,A1,ok,kS S1,λH2 A2 S2=>?_];let e2:=kT (S1.trans S2) _ _ e;let%[dk2,aT2,_,_,_,_,tr2,hk2,%[dg2|hg2]|_]:=id A2;erw[0,a,_,(1),0,1,zB0 e2,1,0,0,0,k,CA,dk2,_,0,hk2,TA.cl,TA.nG,vp,g,CG,dg2,_,0,hg2,TG.cl,TG.nF,iJ ..,o,_,_,z.p,1,oq,ok.gk.pr,ok.gk.p9,w1.1,w1.2,w2.1,w2.2,q H2 A2 (S1.trans S2)]
def Be:#[18,f,fd,Wa,spTm CA CG 0]:=by
 let no:∀vs H Q E,¬ spTm CA CG 0 vs H Q E:=λvs H Q E h=>by
  erw[v,t,_,_,_,_,_,_,_,_,_,_,_,h1,_]at h
  have:=t.depth_pos
  omega
 exists 3
def pz(F:#["value_of",jH])(m:mg "value_of"=some (.ref f))(TA:ATxt K mg CA)(TG:GTxt K mg CG)(M:AskF P w K mg base CA CG fP fC fR fdP fdC fdR)(fQ:#[3,"op_value",Wg,spOp]):
 ∀n:Nat,#[n+18,f,fd,Wa,spTm CA CG n]
 |0=>Be
 |n+1=>Bf F TA TG M fQ (Cal.of F (pz F m TA TG M fQ n) m (λ_ _ _ _ _ _ us hl=>by let%[u0,u1,u2|1]:=Fo hl;rfl))
end
section
variable {CM CA CG:Addr}
structure MS where
 pl:Int
 bx:Str->Int
 sd:List Int
def FL(z:Ak)(len:Int)(s:MS):Hr->MS
 |.fin=>%[len,s.bx|s.sd]
 |.go n=>%[n,s.bx|s.sd]
 |.iff t n=>%[if t.worth z s.bx=0 then s.pl+1 else n,s.bx|s.sd]
 |.set x t=>%[s.pl+1,wN s.bx x (t.worth z s.bx)|s.sd]
 |.say t=>%[s.pl+1,s.bx|s.sd++[t.worth z s.bx]]
def iN(z:Ak)(rows:List Hr)(s:MS):MS:=match rows[s.pl.toNat]? with
 |some r=>FL z rows.length s r
 |none=>s
def sA(z:Ak)(rows:List Hr):Nat->MS->MS
 |0,s=>s
 |n+1,s=>if s.pl<(rows.length:Int)/\(s.sd.length:Int)<z.mn then sA z rows n (iN z rows s)else s
def uB(mn:Int)(sd:List Int):List Int:=sd++List.replicate (mn-(sd.length:Int)).toNat 0
def Hr.good:Hr->Prop
 |.fin=>True | .go n=>0<=n | .iff t n=>t.good/\t.depth<=5/\0<=n | .set _ t=>t.good/\t.depth<=5 | .say t=>t.good/\t.depth<=5
def Bw{rows:List Hr}(hq:∀r∈rows,r.good){s:MS}(h:0<=s.pl):0<=(iN z rows s).pl:=by
 unfold iN;cases e:rows[s.pl.toNat]? with
 |none=>exact h
 |some r=>
   let q:=hq r (qI0 e);cases r with
   |fin=>exact jM1 _
   |go n=>exact q
   |iff t n=>
     show 0<=if t.worth z s.bx=0 then s.pl+1 else n
     by_cases c:t.worth z s.bx=0
     . rw[Mt c];omega
     . rw[Mq c];exact q.2.2
   |set x t=>show 0<=s.pl+1;omega
   |say t=>show 0<=s.pl+1;omega
def vA:(iN z rows s).sd.length<=s.sd.length+1:=by
 unfold iN;cases e:rows[s.pl.toNat]? with
 |none=>exact qN0 _
 |some r=>
   cases r with
   |fin=>exact qN0 _
   |go n=>exact qN0 _
   |iff t n=>exact qN0 _
   |set x t=>exact qN0 _
   |say t=>show(s.sd++[_]).length<=_;rw[zK0];exact zH0 _
def DX{n:Int}(h:kR p bx)(h0:0<=n)(h1:n<p):kR p (wN bx x n):=λy=>by
 unfold wN
 split
 . erw[h0,h1]
 . exact h y
def qu{s:MS}(k:AkOk z)(h:kR z.p s.bx)(hs:cR s.sd z.p):kR z.p (iN z rows s).bx/\cR (iN z rows s).sd z.p:=by
 unfold iN;cases e:rows[s.pl.toNat]? with
 |none=>erw[h,hs]
 |some r=>
   cases r with
   |fin=>erw[h,hs]
   |go n=>erw[h,hs]
   |iff t n=>erw[h,hs]
   |set x t=>
     let w:=Tm.worth_rng k h t;erw[DX h w.1 w.2,hs]
   |say t=>
     let w:=Tm.worth_rng k h t;erw[h,λy hy=>?_];rcases qG0 hy with hy | hy
     . exact hs y hy
     . rw[zR0 hy];exact w
def mZ(k:AkOk z):∀(n:Nat)(s:MS),kR z.p s.bx->cR s.sd z.p->(s.sd.length:Int)<=z.mn->kR z.p (sA z rows n s).bx/\cR (sA z rows n s).sd z.p/\((sA z rows n s).sd.length:Int)<=z.mn
 |0,s,h,hs,hl=>%[h,hs|hl]
 |n+1,s,h,hs,hl=>by
   show kR z.p (if _ then _ else _:MS).bx/\cR (if _ then _ else _:MS).sd z.p/\((if _ then _ else _:MS).sd.length:Int)<=z.mn
   by_cases c:s.pl<(rows.length:Int)/\(s.sd.length:Int)<z.mn
   . rw [Mt c];let%[h1|h2]:=qu (rows:=rows) k h hs
     have:=vA (z:=z) (rows:=rows) (s:=s)
     exact mZ k n _ h1 h2 #[0]
   . rw[Mq c];erw[h,hs,hl]
def vR{mn:Int}{sd:List Int}(h:(sd.length:Int)<=mn):((uB mn sd).length:Int)=mn:=by
 unfold uB;rw[zK0,zT1];omega
def yX(h:cR sd p)(p0:0<p):cR (uB mn sd) p:=λx hx=>by
 unfold uB at hx;rcases qG0 hx with hx | hx
 . exact h x hx
 . rw[List.eq_of_mem_replicate hx];omega
def RowsAt(H:Hp)(rv:List V)(rows:List Hr):Prop:=rv.length=rows.length/\∀(i:Nat)(v:V)(r:Hr),rv[i]?=some v->rows[i]?=some r->HrAt H v r
def RowsAt.mono(h:RowsAt H rv rows)(k:cH H H'):RowsAt H' rv rows:=%[h.1|λi v r h1 h2=>(h.2 i v r h1 h2).mono k]
def FD(b c:Addr)(H H':Hp):Prop:=∀a o,a≠b->a≠c->H a=some o->H' a=some o
def BxAt.le{n:Nat}(h:BxAt H b bx m)(k:m<=n):BxAt H b bx n:=by
 erw[Ms,e,l,r]at h;erw[Ms,e,zN0 l k,r]
def But3(b c d:Addr)(H H':Hp):Prop:=∀a o,a≠b->a≠c->a≠d->H a=some o->H' a=some o
def But3.trans(x:But3 b c d H H1)(y:But3 b c d H1 H2):But3 b c d H H2:=λa o h1 h2 h3 e=>y a o h1 h2 h3 (x a o h1 h2 h3 e)
instance spRowM(CM CA CG:Addr):∀(M g h b dm k sd:Addr)(rv:List V)(r pl:Int)(z:Ak)(rows:List Hr)(bx:Str->Int)(m:Nat)(said:List Int),vs=[.ref M,.int pl,.ref sd,.ref k]->H M=some (.ins CM dm (ml g h r b))->M≠k->H h=some (.tup rv)->RowsAt H rv rows->(∀r∈rows,r.good)->0<=pl->pl<(rows.length:Int)->BxAt H b bx m->kR z.p bx->m<=10000->H sd=some (.lst (said.map V.int))->said.length<=900->AkAt CA CG H k g sd z->AkOk z->(∀H',H' sd=some (.lst ((iN z rows ⟨pl,bx,said⟩).sd.map V.int))->BxAt H' b (iN z rows ⟨pl,bx,said⟩).bx (m+1)->AkAt CA CG H' k g sd z->But3 b sd k H H'->Q (.int (iN z rows ⟨pl,bx,said⟩).pl) H'):=1
def Iw:FnScope ["self","place","said","asking","row","word"] Wq (ag xA):=%[|5]
def EY(F:#["do_row","Machine.do_row",xA])(B:Bl mg)(TM:MTxt K mg CM)(cM:#[23,"value_of",Wa,spTm CA CG 5]):#[24,f,fd,Wq,spRowM CM CA CG]:=by
 exists Iw
 erw[M,g,h,b,dm,k,sd,rv,rn,pl,z,rows,bx,m,said,1,hM,nMk,hh,RW,rq,pl0,pl1,BX,bo,m1,hsd,sl,AK,ok,q]at h;let hu:=FS hr;refine⟨_,(aa #[ah,4,Iw,aI aJ (az (pv 0) rfl) (pv 1) #[1]]
  (aa #[ah,5,Iw,aI aJ (pv 4) ad #[1]]
  (aa (aF (af aN (pv 5) aq (ao _)) (ac (aj (aE aD rfl B.len zC1 %[az (pv 0) rfl|bc]))) ax)
  (aa (aF (af aN (pv 5) aq (ao _)) (ac (aj (aI aJ (pv 4) ad #[1]))) ax)
  (aa (aF (af aN (pv 5) aq (ao _)) (ac (EM hu (az (pv 0) rfl) (aI aJ (pv 4) ad #[1]) (ai cM hr ⋯ rfl %[aI aJ (pv 4) ad #[1],az (pv 0) rfl,3|bc]) rfl)) (ac (aF (af aN (pv 5) aq (ao _)) (ac (aQ (cA zF1 zL1 zM1 cx (pv 2) %[ai cM hr ⋯ rfl %[aI aJ (pv 4) ad #[1],az (pv 0) rfl,3|bc]|bc]))) (ac (aF (af lE (ai cM hr ⋯ rfl %[aI aJ (pv 4) ad #[1],az (pv 0) rfl,3|bc]) ad (ao _)) (ac (aj (aI aJ (pv 4) ad #[1]))) ax)))))
  (ac (aj (am aR (pv 1) ad)))))))),?_⟩
 let%[i|1]:=qF1 pl0;let hi:i<rows.length:=#[0]
 let hi':i<rv.length:=by rw[RW.1];exact hi
 let er:rows[i]?=some rows[i]:=zO0 hi;let ev:rv[i]?=some rv[i]:=zO0 hi';let RA:=RW.2 i _ _ ev er;let rqi:=rq _ (qO0 hi);let Mx:iN z rows %[(i:Int),bx|said]=FL z rows.length ⟨(i:Int),bx,said⟩ rows[i]:=by
  unfold iN;rw[show((%[(i:Int),bx|said]:MS).pl.toNat)=i from qP0 i,er]
 rw[Mx]at q;generalize rows[i]=row at RA rqi q er Mx;let at_:atI rv (i:Int)=some rv[i]:=cK ev;generalize rv[i]=v at RA at_ ev;erw[0,M,CM,dm,_,0,hM,TM.cl,TM.nH,Fi,0,h,_,_,v,1,1,zB0 hh,at_,6];let K0:But3 b sd k H H:=λ_ _ _ _ _ e=>e
 let nBS:sd≠b:=by
  erw[Ms,e,_]at BX;exact bL hsd e nofun
 let%[Ms,hb,kl|hx]:=id BX;let%[dk,_,_,_,_,_,_,hk|_]:=id AK;let kT:∀{H':Hp},SameBut k H H'->cH H H':=λs c xs e=>s _ _ (bL e hk nofun) e
 let nbk:b≠k:=bL hb hk nofun;let nsk:sd≠k:=bL hsd hk nofun;cases RA with
 | @fin a e=>
   erw[0,a,_,(0),0,1,zB0 e,1,6];erw[0,1,0,aU rfl ?_];erw[0,M,CM,dm,_,0,hM,TM.cl,TM.nH,Fi,h,0,.inr (zB0 hh),6];rw[RW.1];exact q H hsd (BX.le (qN0 _)) AK K0
 | @go a n e=>
   erw[0,a,_,(0),0,1,zB0 e,1,6];erw[0,1,0,7];erw[0,1,0,aU rfl ?_];erw[0,a,_,(1),0,1,zB0 e,1,q H hsd (BX.le (qN0 _)) AK K0]
 | @iff a u t n e T=>
   erw[0,a,_,(0),0,1,zB0 e,1,6];erw[0,1,0,7];erw[0,1,0,7];erw[0,1,0,7];erw[0,1,0,7];erw[0,a,_,(1),0,1,zB0 e,1,0,M,CM,dm,_,0,hM,TM.cl,TM.nB,Dc,0,u,t,b,k,g,sd,z,_,bx,m,1,T,rqi.1,rqi.2.1,BX,bo,AK,ok,hsd,λH1 A1 S1=>?_];erw[1,0,6];let q':∀H',H' sd=some (.lst (said.map V.int))->BxAt H' b bx (m+1)->AkAt CA CG H' k g sd z->But3 b sd k H H'->Q (.int (if t.worth z bx=0 then(i:Int)+1 else n)) H':=q
   let q1:=q' H1 (S1 _ _ nsk hsd) ((BX.keep λo e=>S1 _ _ nbk e).le (qN0 _)) A1 (λc o _ _ h3 e=>S1 _ _ h3 e)
   by_cases c:t.worth z bx=0
   . rw[Mt c]at q1;apply wA (congrArg V.int c) ?_;erw[0,2,q1]
   . rw[Mq c]at q1;apply iteN (λz=>c (V.int.inj z)) ?_;erw[0,a,_,(2),0,1,zB0 (kT S1 _ _ e),1,q1]
 | @set a x u t e T=>
   erw[0,a,_,(0),0,1,zB0 e,1,6];erw[0,1,0,7];erw[0,1,0,7];erw[0,1,0,aU rfl ?_];erw[0,a,_,(2),0,1,zB0 e,1,0,M,CM,dm,_,0,hM,TM.cl,TM.nB,Dc,0,u,t,b,k,g,sd,z,_,bx,m,1,T,rqi.1,rqi.2,BX,bo,AK,ok,hsd,λH1 A1 S1=>?_];let hb1:=S1 _ _ nbk hb;let hs1:=S1 _ _ nsk hsd;erw[0,M,CM,dm,_,0,S1 _ _ nMk hM,TM.cl,TM.nB,Dc,0,a,_,(1),0,1,zB0 (kT S1 _ _ e),1,b,0,DPut.k (k:=.inr x) hb1 ?_,6]
   . exact zO1 kl (zO1 m1 ⋯)
   erw[0,2,6];apply q _ ?_ ⟨_,bh,zN0 (kM _ _ _) (zJ1 kl),HL x _ hx⟩ (A1.but2 hb1 hs1 λc o h1 _ e=>by rw[aB h1];exact e) (λc o h1 _ h3 e=>by rw[aB h1];exact S1 _ _ h3 e);rw[aB nBS];exact hs1
 | @say a u t e T=>
   erw[0,a,_,(0),0,1,zB0 e,1,6];erw[0,1,0,7];erw[0,1,0,7];erw[0,1,0,7];erw[0,1,0,aU rfl ?_];erw[0,.inl %[1,_|zG0 hsd],6];erw[0,a,_,(1),0,1,zB0 e,1,0,M,CM,dm,_,0,hM,TM.cl,TM.nB,Dc,0,u,t,b,k,g,sd,z,_,bx,m,1,T,rqi.1,rqi.2,BX,bo,AK,ok,hsd,λH1 A1 S1=>?_];let hb1:=S1 _ _ nbk hb;let hs1:=S1 _ _ nsk hsd;erw[sd,2,hs1,6,6]
   . rw[zF0];exact aO #[0]
   erw[0,2,6];apply q _ ?_ ((BX.keep λo e=>by rw[aB nBS.symm];exact S1 _ _ nbk e).le (qN0 _)) (A1.but2 hb1 hs1 λc o _ h2 e=>by rw[aB h2];exact e) (λc o _ h2 h3 e=>by rw[aB h2];exact S1 _ _ h3 e);rw[bh];show _=some (HO.lst ((said++[t.worth z bx]).map V.int));rw[zL0];rfl
end
section
variable {CM CA CG:Addr}
def m1(g:Addr):List (Str×V):=[("game",.ref g)]
def m2(g h:Addr):List (Str×V):=[("game",.ref g),("helper",.ref h)]
def m3(g h:Addr):List (Str×V):=[("game",.ref g),("helper",.ref h),("next_round",.int 0)]
def pm1{g:Addr}:bN "game" (.ref g) []=m1 g:=by rfl'
def pm2{h:Addr}:bN "helper" (.ref h) (m1 g)=m2 g h:=by rfl'
def pm3:bN "next_round" (.int 0) (m2 g h)=m3 g h:=by rfl'
def pm4{b:Addr}:bN "boxes" (.ref b) (m3 g h)=ml g h 0 b:=by rfl'
instance spMInit(CM:Addr):∀(M g h dm:Addr),vs=[.ref M,.ref g,.ref h]->H M=some (.ins CM dm [])->(∀(b:Addr)(H':Hp),H b=none->H' M=some (.ins CM dm (ml g h 0 b))->H' b=some (.dK [])->SameBut M H H'->Q .non H'):=1
def BH:FnScope WQ WQ (ag ug):=%[|5]
def Cu(F:#["__init__","Machine.__init__",ug])(T:MTxt K mg CM):#[1,f,fd,WQ,spMInit CM]:=by
 exists BH
 erw[M,g,h,dm,1,hM,q]at h;refine⟨_,(aa (aP (pv 0) (pv 1) rfl)
  (aa (aP (pv 0) (pv 2) rfl)
  (aa (aP (pv 0) ad rfl)
  (ac (aP (pv 0) Cf rfl))))),?_⟩
 erw[0,0,M,CM,dm,0,hM,9,T.nG,(by show 0<1000;decide),6];rw[pm1];erw[0,0,M,CM,dm,0,bh,9,T.nH,(by show 1<1000;decide),6];rw[pm2];erw[0,M,CM,dm,0,bh,9,T.nR,(by show 2<1000;decide),6];rw[pm3];let S3:SameBut M H (upd (upd (upd H M (.ins CM dm (m1 g))) M (.ins CM dm (m2 g h))) M (.ins CM dm (m3 g h))):=(SameBut.upd _).trans ((SameBut.upd _).trans (SameBut.upd _));let g3:upd (upd (upd H M (.ins CM dm (m1 g))) M (.ins CM dm (m2 g h))) M (.ins CM dm (m3 g h)) M=some (.ins CM dm (m3 g h)):=bh;generalize upd (upd (upd H M (.ins CM dm (m1 g))) M (.ins CM dm (m2 g h))) M (.ins CM dm (m3 g h))=H3 at S3 g3;intro b hb;let bM:b≠M:=(bi g3 hb).symm;erw[0,M,CM,dm,0,by rw[aB bM.symm];exact g3,T.cl,T.nB,(by show 3<1000;decide),6];rw[pm4];apply q b _ ?_ bh (by rw[aB bM];exact bh) (S3.trans ((zI0 (zC0 hb _)).trans (SameBut.upd _)));cases e:H b with
 |none=>rfl
 |some o=>rw[S3 b o bM e]at hb;cases hb
def a1(g:Addr):List (Str×V):=[("game",.ref g)]
def a2(g:Addr)(nr:Int):List (Str×V):=[("game",.ref g),("number",.int nr)]
def a3(g:Addr)(nr mn:Int):List (Str×V):=[("game",.ref g),("number",.int nr),("many",.int mn)]
def a4(g:Addr)(nr mn hd:Int):List (Str×V):=[("game",.ref g),("number",.int nr),("many",.int mn),("held",.int hd)]
def a5(g:Addr)(nr mn hd s:Int):List (Str×V):=[("game",.ref g),("number",.int nr),("many",.int mn),("held",.int hd),("s",.int s)]
def a6(g:Addr)(nr mn hd s:Int)(aT:Addr):List (Str×V):=[("game",.ref g),("number",.int nr),("many",.int mn),("held",.int hd),("s",.int s),("tossed",.ref aT)]
section
variable {g aT:Addr}{nr mn hd s:Int}
def pa1:bN "game" (.ref g) []=a1 g:=by rfl'
def pa2:bN "number" (.int nr) (a1 g)=a2 g nr:=by rfl'
def pa3:bN "many" (.int mn) (a2 g nr)=a3 g nr mn:=by rfl'
def pa4:bN "held" (.int hd) (a3 g nr mn)=a4 g nr mn hd:=by rfl'
def pa5:bN "s" (.int s) (a4 g nr mn hd)=a5 g nr mn hd s:=by rfl'
def pa6:bN "tossed" (.ref aT) (a5 g nr mn hd s)=a6 g nr mn hd s aT:=by rfl'
def pa7:bN "truths" .non (a6 g nr mn hd s aT)=al g nr mn hd s aT .non:=by rfl'
end
instance spAInit(CA:Addr):∀(k dk g c:Addr)(nr mn hd s:Int)(xs:List V),vs=[.ref k,.ref g,.int nr,.int mn,.int hd,.int s,.ref c]->H k=some (.ins CA dk [])->H c=some (.lst xs)∨H c=some (.tup xs)->(∀(aT:Addr)(H':Hp),H' k=some (.ins CA dk (al g nr mn hd s aT .non))->H' aT=some (.tup xs)->SameBut k H H'->Q .non H'):=1
def BN:FnScope Wi Wi (ag ur):=%[|5]
def CD(F:#["__init__","Asking.__init__",ur])(B:Bl mg)(T:ATxt K mg CA):#[1,f,fd,Wi,spAInit CA]:=by
 exists BN
 erw[k,dk,g,c,nr,mn,hd,s,xs,1,hk,hc,q]at h;refine⟨_,(aa (aP (pv 0) (pv 1) rfl)
  (aa (aP (pv 0) (pv 2) rfl)
  (aa (aP (pv 0) (pv 3) rfl)
  (aa (aP (pv 0) (pv 4) rfl)
  (aa (aP (pv 0) (pv 5) rfl)
  (aa (aP (pv 0) (aW bz rfl B.tuple cj %[6|bc]) rfl)
  (ac (aP (pv 0) mo rfl)))))))),?_⟩
 erw[0,0,k,CA,dk,0,hk,9,T.nG,(by show 0<1000;decide),6];rw[pa1];erw[0,0,k,CA,dk,0,bh,9,T.nN,(by show 1<1000;decide),6];rw[pa2];erw[0,0,k,CA,dk,0,bh,9,T.nM,(by show 2<1000;decide),6];rw[pa3];erw[0,0,k,CA,dk,0,bh,9,T.nH,(by show 3<1000;decide),6];rw[pa4];erw[0,0,k,CA,dk,0,bh,9,T.nS,(by show 4<1000;decide),6];rw[pa5];let S5:SameBut k H (upd (upd (upd (upd (upd H k (.ins CA dk (a1 g))) k (.ins CA dk (a2 g nr))) k (.ins CA dk (a3 g nr mn))) k (.ins CA dk (a4 g nr mn hd))) k (.ins CA dk (a5 g nr mn hd s))):=(SameBut.upd _).trans ((SameBut.upd _).trans ((SameBut.upd _).trans ((SameBut.upd _).trans (SameBut.upd _))));let g5:upd (upd (upd (upd (upd H k (.ins CA dk (a1 g))) k (.ins CA dk (a2 g nr))) k (.ins CA dk (a3 g nr mn))) k (.ins CA dk (a4 g nr mn hd))) k (.ins CA dk (a5 g nr mn hd s)) k=some (.ins CA dk (a5 g nr mn hd s)):=bh;generalize upd (upd (upd (upd (upd H k (.ins CA dk (a1 g))) k (.ins CA dk (a2 g nr))) k (.ins CA dk (a3 g nr mn))) k (.ins CA dk (a4 g nr mn hd))) k (.ins CA dk (a5 g nr mn hd s))=H5 at S5 g5;rcases hc with hc | hc
 . let hc5:=S5 _ _ (bL hc hk nofun) hc;erw[0,c,0,.inl %[zG0 hc5|λaT ha=>?_]];let aK:aT≠k:=(bi g5 ha).symm;erw[0,k,CA,dk,0,by rw[aB aK.symm];exact g5,T.cl,T.nT,(by show 5<1000;decide),6];rw[pa6];erw[0,k,CA,dk,0,bh,9,T.nR,(by show 6<1000;decide),6];rw[pa7];exact q aT _ bh (by rw[aB aK,aB aK];exact bh) (S5.trans ((zI0 (zC0 ha _)).trans ((SameBut.upd _).trans (SameBut.upd _))))
 . let nc:=bL hc hk nofun;let hc5:=S5 _ _ nc hc;erw[0,c,0,.inr %[zB0 hc5|6]];erw[0,k,CA,dk,0,g5,9,T.nT,(by show 5<1000;decide),6];rw[pa6];erw[0,k,CA,dk,0,bh,9,T.nR,(by show 6<1000;decide),6];rw[pa7];exact q c _ bh (by rw[aB nc,aB nc];exact hc5) (S5.trans ((SameBut.upd _).trans (SameBut.upd _)))
instance spSay(CM CG:Addr):∀(M g h b dm c:Addr)(rv:List V)(z:Ak)(rows:List Hr)(bx:Str->Int)(m:Nat),vs=[.ref M,.int z.mn,.int z.hd,.int z.s,.ref c]->H M=some (.ins CM dm (ml g h z.nr b))->H h=some (.tup rv)->RowsAt H rv rows->(∀r∈rows,r.good)->BxAt H b bx m->kR z.p bx->m<=5000->Gm CG H g z.ns z.ts z.p->AkOk z->H c=some (.lst (z.to.map V.int))∨H c=some (.tup (z.to.map V.int))->0<=z.mn->z.mn<=500->(∀(l:Addr)(H':Hp),H l=none->H' l=some (.lst ((uB z.mn (sA z rows 200 ⟨0,bx,[]⟩).sd).map V.int))->BxAt H' b (sA z rows 200 ⟨0,bx,[]⟩).bx (m+200)->H' M=some (.ins CM dm (ml g h (z.nr+1) b))->FD M b H H'->Q (.ref l) H'):=1
def ir:FnScope ["self","many","due","s","coins","asking","said","place","done"] Wr (ag xz):=%[|5]
def BW(k:Nat)(x:V):(List.replicate k [x]).flatten=List.replicate k x:=by
 induction k with
 |zero=>rfl
 |succ k ih=>rw[zY1,qP1,ih,zY1];rfl
instance tSayE(Dn:Ends)(σ:St)(H:Hp):∀(x0 x2 x3 x4 x5 x7 x8:Option V)(sd:Addr)(mn:Int)(xs:List Int),σ=[x0,some (.int mn),x2,x3,x4,x5,some (.ref sd),x7,x8]->H sd=some (.lst (xs.map V.int))->xs.length<=200->0<=mn->mn<=500->(∀(l:Addr)(H':Hp),H l=none->Same H H'->H' l=some (.lst ((uB mn xs).map V.int))->Dn.rt (.ref l) H'):=0
instance ISy(CA CG:Addr)(H4:Hp)(M c k sd b g:Addr)(rows:List Hr)(z:Ak)(bx:Str->Int)(m:Nat)(mm:Nat)(σ:St)(H':Hp):∀(st:MS)(d:Nat),σ=[some (.ref M),some (.int z.mn),some (.int z.hd),some (.int z.s),some (.ref c),some (.ref k),some (.ref sd),some (.int st.pl),some (.int (d:Int))]->d<=200->mm=200-d->0<=st.pl->st.sd.length<=d->sA z rows (200-d) st=sA z rows 200 ⟨0,bx,[]⟩->H' sd=some (.lst (st.sd.map V.int))->BxAt H' b st.bx (m+d)->kR z.p st.bx->cR st.sd z.p->AkAt CA CG H' k g sd z->But3 b sd k H4 H':=0
def EX(F:#["say","Machine.say",xz])(B:Bl mg)(TM:MTxt K mg CM)(TA:ATxt K mg CA)(hmost:∃t,mg "MOST_ROWS_DONE"=some (.int 200 t))
 (MA:Mk K CA fA)(GA:#[1,fA,fdA,Wi,spAInit CA])(bA:Binds K fdA Wi [])
 (mR:Meth K CM "do_row" fR)(GR:#[24,fR,fdR,Wq,spRowM CM CA CG])(bR:Binds K fdR Wq []):#[25,f,fd,Wr,spSay CM CG]:=by
 exists ir
 erw[M,g,h,b,dm,c,rv,z,rows,bx,m,1,hM,hh,RW,rq,BX,bo,mm,GG,ok,hc,mn0,mn1,q]at h;erw[a',b',d',tv,G,hga,hgb,TS,hgd]at GG;erw[te,ge]at hmost;let hr2:Room (1+1) _:=hr.mono ⋯;let hr7:Room 24 _:=hr.mono ⋯;refine⟨_,(aa #[ah,5,ir,ib MA GA hr2 rfl TA.mgC bA .nil aY %[az (pv 0) rfl,az (pv 0) rfl,1,2,3,4|bc]]
  (aa (aP (pv 0) (am aR (az (pv 0) rfl) ad) rfl)
  (aa #[ah,6,ir,dq bc]
  (aa #[ah,7,ir,ad]
  (aa #[ah,8,ir,ad]
  (aa (iF zG1 (PW.pt (oF (af dM (pv 7) (aE aD rfl B.len zC1 %[az (pv 0) rfl|bc]) (ao _)) (oF (af dM (aE aD rfl B.len zC1 %[6|bc]) (pv 1) (ao _)) (ng (af dM (pv 8) (bQ (v:=.int 200) rfl ge ⟨_,rfl⟩) (ao _)))))) (aa #[ah,7,ir,bu (pv 0) TM.cl mR GR hr7 bR .nil aY %[7,6,5|bc]]
   (ac #[ah,8,ir,am aR (pv 8) ad])))
  (gC (t':=tSayE) (ac (aj (am jg (pv 6) (am GX (dq %[ad|bc]) (am bK (pv 1) (aE aD rfl B.len zC1 %[6|bc])))))) (by
   rintro Dn σ H ⟨x0,x2,x3,x4,x5,x7,x8,sd,mn,xs,rfl,hsd,xl,mn0,mn1,q⟩;erw[0,y1S,λz hz=>?_];let I1:=zC0 hz (.lst [.int 0]);let g1:upd H z (.lst [.int 0]) z=some (.lst [.int 0]):=bh;generalize upd H z (.lst [.int 0])=H1 at I1 g1;erw[0,0,sd,0,.inl (zG0 (I1 _ _ hsd)),2,6];let el:((xs.map V.int).length:Int)=(xs.length:Int):=by rw[zF0]
   erw[z,2,g1,3,3,aV (by show 1*(mn-((xs.map V.int).length:Int)).toNat<=1000;omega),λy hy=>?_];rw[BW];let I2:=zC0 hy (.lst (List.replicate (mn-((xs.map V.int).length:Int)).toNat (.int 0)));let g2:upd H1 y (.lst (List.replicate (mn-((xs.map V.int).length:Int)).toNat (.int 0))) y=some (.lst (List.replicate (mn-((xs.map V.int).length:Int)).toNat (.int 0))):=bh;generalize upd H1 y (.lst (List.replicate (mn-((xs.map V.int).length:Int)).toNat (.int 0)))=H2 at I2 g2;erw[sd,y,2,I2 _ _ (I1 _ _ hsd),g2,6,λl hl=>?_]
   . rw[zT1,zF0];exact aV #[0]
   apply q l _ ?_ (I1.trans (I2.trans (zC0 hl _))) ?_
   . cases e:H l with
     |none=>rfl
     |some o=>rw[I2 _ _ (I1 _ _ e)]at hl;cases hl
   . rw[bh,el];unfold uB;rw[zL0,List.map_replicate])))))))),?_⟩
 erw[0,M,CM,dm,_,0,hM,TM.cl,TM.nG,ml_g,0,M,CM,dm,_,0,hM,TM.cl,TM.nR,Hc,0,0,0,0,λk dk hk hdk nk=>?_];let S1:Same H (upd (upd H dk (.own k)) k (.ins CA dk [])):=λa o e=>by
  rw[aB (bi e hk),aB (bi e hdk)];exact e
 let g1:upd (upd H dk (.own k)) k (.ins CA dk []) k=some (.ins CA dk []):=bh;generalize upd (upd H dk (.own k)) k (.ins CA dk [])=H1 at S1 g1;erw[k,dk,g,c,z.nr,z.mn,z.hd,z.s,z.to.map V.int,1,g1,hc.imp (S1 _ _) (S1 _ _),λaT H2 hk2 hT2 S2=>%[1|6]];let S02:Same H H2:=Same.but S1 hk S2;clear S1 S2 g1;let hM2:=S02 _ _ hM;erw[0,M,CM,dm,_,0,hM2,TM.cl,TM.nR,Hc,2,0,M,CM,dm,0,hM2,TM.cl,TM.nR,yd,6];rw[Da];let nMk:M≠k:=bi hM hk;let S3:SameBut M H2 (upd H2 M (.ins CM dm (ml g h (z.nr+1) b))):=SameBut.upd _;let hM3:upd H2 M (.ins CM dm (ml g h (z.nr+1) b)) M=some (.ins CM dm (ml g h (z.nr+1) b)):=bh;generalize upd H2 M (.ins CM dm (ml g h (z.nr+1) b))=H3 at S3 hM3;erw[y0S,λsd hsd=>?_];let I4:=zC0 hsd (.lst []);let g4:upd H3 sd (.lst []) sd=some (.lst []):=bh;generalize upd H3 sd (.lst [])=H4 at I4 g4;let gM:g≠M:=λe=>by
  erw[dg,hg]at G;rw[e,hM]at hg;cases hg
 let nbM:b≠M:=by
  erw[Ms,e,_]at BX;exact bL e hM nofun
 let S04:SameBut M H H4:=(zI0 S02).trans (S3.trans (zI0 I4));let hM4:=I4 _ _ hM3;let kT:cH H H4:=λc xs h=>S04 c _ (bL h hM nofun) h
 let hh4:=kT _ _ hh;let RW4:=RW.mono kT;let BX4:BxAt H4 b bx m:=BX.keep λo e=>S04 b o nbM e
 let G4:GameAt CG H4 g a' b' d' z.p:=by
  erw[dg,hg]at G;erw[dg,S04 _ _ gM hg]
 let hT4:H4 aT=some (.tup (z.to.map V.int)):=I4 _ _ (S3 _ _ (bL hT2 hM2 nofun) hT2);let hgd4:=S04 _ _ (bL hgd hM nofun) hgd;let nds:d'≠sd:=bi (S3 _ _ (bL hgd hM nofun) (S02 _ _ hgd)) hsd;let hk4:=I4 _ _ (S3 _ _ nMk.symm hk2);let b4:∃Ms,H4 b=some (.dK Ms):=by
  erw[Ms,e,_]at BX4;erw[Ms,e]
 erw[kv4,hb4]at b4;let nbs:b≠sd:=bL hb4 g4 nofun;let nhb:h≠b:=bL hh4 hb4 nofun;let nhs:h≠sd:=bL hh4 g4 nofun;let nMs:M≠sd:=bL hM4 g4 nofun;let nkb:k≠b:=bL hk4 hb4 nofun;let nks:k≠sd:=bL hk4 g4 nofun;let AK4:AkAt CA CG H4 k g sd z:=%[dk,aT,a',b',d',tv,.non,hk4,G4,kT _ _ hga,kT _ _ hgb,TS.mono kT,hgd4,nds,hT4|.inl rfl]
 let sd0:H sd=none:=by
  cases e:H sd with
  |none=>rfl
  |some o=>rw[S3 _ _ nMs.symm (S02 _ _ e)]at hsd;cases hsd
 erw[ISy CA CG H4 M c k sd b g rows z bx m,%[_,%[(0),bx|[]],(0),1,zT0 _,1,qC1 0,zH0 _,1,g4,BX4,bo,(λx hx=>by cases hx),AK4|λ_ _ _ _ _ e=>e],6]
 rintro mm σ H' ⟨st,d,rfl,d2,rfl,st0,sl,hrun,hsd',BX',bo',so',AK',S'⟩;let hM':=S' _ _ nbM.symm nMs nMk hM4;let hh':=S' _ _ nhb nhs (bL hh4 hk4 nofun) hh4;let kT':cH H4 H':=λc xs h=>S' c _ (bL h hb4 nofun) (bL h g4 nofun) (bL h hk4 nofun) h
 let RW':=RW4.mono kT';let fin:sA z rows (200-d) st=st->∀(l:Addr)(H5:Hp),H' l=none->Same H' H5->H5 l=some (.lst ((uB z.mn st.sd).map V.int))->Q (.ref l) H5:=λer l H5 l0 S5 hl=>by
  rw[er]at hrun;rw[←hrun]at q;apply q l H5 ?_ hl ((BX'.keep λo e=>S5 b o e).le #[0]) (S5 _ _ hM') (λa o h1 h2 e=>?_)
  . cases e:H l with
    |none=>rfl
    |some o=>
      let lM:l≠M:=λz=>by rw[z,hM']at l0;cases l0
      let lb:l≠b:=λz=>by
       erw[Ms,e',_]at BX';rw[z,e']at l0;cases l0
      let ls:l≠sd:=λz=>by rw[z,hsd']at l0;cases l0
      rw[S' _ _ lb ls (bi e hk) (S04 _ _ lM e)]at l0;cases l0
  . exact S5 _ _ (S' _ _ h2 (bi e sd0) (bi e hk) (S04 _ _ h1 e))
 erw[0,0,M,CM,dm,_,0,hM',TM.cl,TM.nH,Fi,h,0,.inr (zB0 hh'),2,0,6];rw[RW.1]
 by_cases c1:st.pl<(rows.length:Int)
 . apply aU c1 ?_;erw[0,sd,0,.inl (zG0 hsd'),0,2,0,6];rw[zF0]
   by_cases c2:(st.sd.length:Int)<z.mn
   . apply aU c2 ?_;erw[0,2,0,6]
     by_cases c3:d<200
     . apply aU #[0] ?_;erw[_,λ_ _ h=>h,6];erw[0,M,dm,0,hM',ml_n1,0,0,0,M,g,h,b,dm,k,sd,rv,_,st.pl,z,rows,st.bx,m+d,st.sd,1,hM',nMk,hh',RW',rq,st0,c1,BX',bo',3,hsd',3,AK',ok,λH6 hs6 BX6 A6 S6=>?_];erw[0,2,6];erw[_,(show 200-(d+1)<200-d by omega),iN z rows st,d+1,1,c3,1,Bw rq st0,zN0 vA (zJ1 sl),6,hs6,BX6,(qu ok bo' so').1,(qu ok bo' so').2,A6,S'.trans S6];rw[←hrun,show 200-d=(200-(d+1))+1 by omega];exact(Mt ⟨c1,c2⟩).symm
     . apply ay #[0] ?_;let ed:200-d=0:=#[0]
       erw[_,_,_,_,_,_,_,sd,z.mn,st.sd,1,hsd',3,mn0,mn1,fin (by rw[ed];rfl)]
   . apply ay c2 (cV ?_);erw[_,_,_,_,_,_,_,sd,z.mn,st.sd,1,hsd',3,mn0,mn1,fin ?_];cases 200-d with
     |zero=>rfl
     |succ n=>exact Mq (λz=>c2 z.2)
 . apply ay c1 (cV ?_);erw[_,_,_,_,_,_,_,sd,z.mn,st.sd,1,hsd',3,mn0,mn1,fin ?_];cases 200-d with
   |zero=>rfl
   |succ n=>exact Mq (λz=>c1 z.1)
end
section
variable {ns:List Str}{ts:List Tr}{p:Int}
def vh(k:GmK ns ts p)(x:Str):0<=cr ts x/\cr ts x<=400:=by
 let t0:ts≠[]:=λz=>by have:=k.t1;rw[z]at this;cases this
 have:=kK (ns:=ts.map λt=>(t.names.count x:Int)) #[t0,0]
 let%[t,ht|e]:=List.mem_map.mp this;unfold cr;rw[←e];let h1:=jU1 (a:=x) (l:=t.names);let h2:=t.names_len;let h3:=(k.tok t ht).2.2.2;omega
end
structure HearOk(ns:List Str)(p:Int)(z:Db)(xs:List Int):Prop where
 aw:z.aw=(("hear":Str),some (xs.length:Int))
 xo:cR xs p
 x5:xs.length<=500
 ro:z.cl≠[]->lN xs p
 tl:z.to.length<=ns.length
 po:cR z.to p
structure TossOk(ns:List Str)(p:Int)(z:Db)(r:Int):Prop where
 aw:z.aw.1="coin"
 r0:0<=r
 r1:r<p
 tl:z.to.length<=ns.length
 ro:z.he≠[]->lN z.he p/\z.to.length<ns.length
 po:cR z.to p
section
variable {C CG cT cC cN:Addr}
structure Gd(ns:List Str)(ts:List Tr)(p:Int)(z:Db):Prop where
 tl:z.to.length<=ns.length
 po:cR z.to p
 e0:0<=z.ed
 e1:z.ed<p
 he:z.aw.1="hear" -> (z.cl=[]/\z.aw=(("hear":Str),some (ts.length:Int)))∨(z.cl≠[]/\z.to.length<ns.length/\z.aw=(("hear":Str),some (cr ts (ns.getD z.to.length "")+1)))
 co:z.aw.1="coin" -> z.cl≠[]/\(z.he≠[]->lN z.he p/\z.to.length<ns.length)
 h0:z.cl=[]->z.he=[]
 ww:AwW z.aw.1
section
variable {ns:List Str}{ts:List Tr}{p:Int}{z:Db}
def Gd.new(k:GmK ns ts p):Gd ns ts p (Db.new ts):=by
 have:=k.p2
 erw[zT0 _,(λx hx=>by cases hx),qC1 _,(by show(0:Int)<p;omega),λ_=>.inl %[1|1],(λh=>by cases h),λ_=>rfl,.inl rfl]
def Gd.goOn(tl:z.to.length<=ns.length)(po:cR z.to p)(e0:0<=z.ed)(e1:z.ed<p)(cl:z.cl≠[]):Gd ns ts p (goOn ns ts p z):=by
 unfold Mine.goOn
 by_cases c:z.to.length<ns.length
 . rw[Mt c];erw[tl,po,e0,e1,λ_=>.inr %[cl,c|1],(λh=>by cases h),λh=>absurd h cl,.inl rfl]
 . rw [Mq c];unfold eW
   by_cases e:z.ed=hor z.s p (ts.map λt=>t.worth ns z.to p)
   . rw[Mt e];erw[tl,po,e0,e1,(λh=>by cases h),(λh=>by cases h),λh=>absurd h cl,.inr (.inr (.inr rfl))]
   . rw[Mq e];erw[tl,po,e0,e1,(λh=>by cases h),(λh=>by cases h),λh=>absurd h cl,.inr (.inr (.inl rfl))]
def Gd.hear_ne(k:GmK ns ts p)(h:Gd ns ts p z)(ok:HearOk ns p z xs):xs≠[]:=λe=>by
 let a:=ok.aw;rw[e,zI1]at a;let t1:=k.t1;rcases h.he (by rw[a])with⟨_,w⟩ | ⟨_,_,w⟩
 . rw [w]at a
   have:=zV0 (Prod.mk.inj a).2
   omega
 . rw [w]at a
   have:=zV0 (Prod.mk.inj a).2
   have:=vh k (ns.getD z.to.length "")
   omega
def Gd.hear(k:GmK ns ts p)(h:Gd ns ts p z)(ok:HearOk ns p z xs):Gd ns ts p (dC ns ts p xs z)/\(dC ns ts p xs z).cl≠[]:=by
 let p2:=k.p2;let xn:=h.hear_ne k ok;let a1:z.aw.1="hear":=by rw[ok.aw]
 unfold dC
 by_cases c:z.cl=[]
 . rw [Mt c];unfold lI
   by_cases c1:ts.length=1
   . rw [Mt c1];unfold wP;let hr:=qf (s:=0) (p:=p) #[0] xs;erw[Gd.goOn h.tl h.po hr.1 hr.2 xn,6];unfold Mine.goOn eW
     split <;> exact xn
   . rw[Mq c1];erw[%[h.tl,h.po,h.e0,h.e1,(λz=>by cases z),λ_=>%[xn|λe=>absurd (h.h0 c) e],λe=>absurd e xn|.inr (.inl rfl)],xn]
 . rw [Mq c];unfold eB;let tl:z.to.length<ns.length:=by
    rcases h.he a1 with⟨e,_⟩ | ⟨_,t,_⟩
    . exact absurd e c
    . exact t
   by_cases e:(val p xs 0+val p xs 1) % p=z.ed
   . rw[Mt e];erw[%[h.tl,h.po,h.e0,h.e1,(λz=>by cases z),λ_=>%[c|λ_=>%[ok.ro c|tl]],λe=>absurd e c|.inr (.inl rfl)],c]
   . rw[Mq e];erw[%[h.tl,h.po,h.e0,h.e1,(λz=>by cases z),(λz=>by cases z),λe=>absurd e c|.inr (.inr (.inl rfl))],c]
def Gd.toss(k:GmK ns ts p)(h:Gd ns ts p z)(ok:TossOk ns p z r):Gd ns ts p (dJ ns ts p r z)/\(dJ ns ts p r z).cl≠[]:=by
 let p2:=k.p2;let%[cl|ro]:=h.co ok.aw;unfold dJ
 by_cases c:z.he=[]
 . rw [Mt c];unfold wP;let hr:=qf (s:=r) (p:=p) #[0] z.cl;erw[Gd.goOn h.tl h.po hr.1 hr.2 cl,6];unfold Mine.goOn eW
   split <;> exact cl
 . rw [Mq c];let hr:=Ek (p:=p) #[0] z.he r;erw[Gd.goOn ?_ (λx hx=>?_) hr.1 hr.2 cl,6]
   . show (z.to++[r]).length<=_;rw[zK0,qL0]
     have:=(ro c).2
     omega
   . rcases qG0 hx with h' | h'
     . exact h.po x h'
     . rw[zR0 h'];erw[ok.r0,ok.r1]
   . unfold Mine.goOn eW
     split <;> exact cl
end
end
structure Tk where
 z:Db
 bx:Str->Int
 nr:Int
def awN(z:Db):Int:=z.aw.2.getD 0
def Tk.ak(ns:List Str)(ts:List Tr)(p:Int)(t:Tk):Ak:=%[ns,ts,p,t.nr,awN t.z,t.z.ed,t.z.s|t.z.to]
def Tk.run(ns:List Str)(ts:List Tr)(p:Int)(rows:List Hr)(t:Tk):MS:=sA (t.ak ns ts p) rows 200 %[(0),t.bx|[]]
def Tk.said(ns:List Str)(ts:List Tr)(p:Int)(rows:List Hr)(t:Tk):List Int:=uB (awN t.z) (t.run ns ts p rows).sd
def Tk.ask(ns:List Str)(ts:List Tr)(p:Int)(rows:List Hr)(t:Tk):Tk:=%[dC ns ts p (t.said ns ts p rows) t.z,(t.run ns ts p rows).bx|t.nr+1]
def Tk.toss(ns:List Str)(ts:List Tr)(p r:Int)(t:Tk):Tk:=%[dJ ns ts p r t.z,t.bx|t.nr]
def Tk.new(ts:List Tr):Tk:=%[Db.new ts,λ_=>0|(0)]
def cv(ns:List Str)(z:Db):Nat:=if z.aw.1="hear" then 2*(ns.length-z.to.length)else if z.aw.1="coin" then(if z.he=[]then 2*ns.length+1 else 2*(ns.length-z.to.length)-1)else 0
def cg(ns:List Str)(z:Db):Nat:=if z.aw.1="hear" then ns.length-z.to.length else if z.aw.1="coin" then(if z.he=[]then ns.length+1 else ns.length-z.to.length)else 0
structure TkOk(ns:List Str)(ts:List Tr)(p:Int)(t:Tk):Prop where
 gd:Gd ns ts p t.z
 cl:t.z.cl≠[]
 s0:0<=t.z.s
 s1:t.z.s<p
 bo:kR p t.bx
 nr:1<=t.nr
 fi:t.z.aw.1="coin" -> t.z.he=[]->t.z.to=[]
section
variable {ns:List Str}{ts:List Tr}{p:Int}{t:Tk}{rows:List Hr}
def ke:¬ (("coin":Str)="hear"):=by decide
def yZ:¬ (("caught":Str)="hear"):=by decide
def ne_w3:¬ (("caught":Str)="coin"):=by decide
def CQ:¬ (("believed":Str)="coin"):=by decide
def ve(z:Db):(goOn ns ts p z).s=z.s/\(goOn ns ts p z).to=z.to/\(goOn ns ts p z).he=z.he/\(goOn ns ts p z).cl=z.cl:=by
 unfold goOn eW
 split <;> erw[1,1,1,1]
def qg(z:Db):¬ (goOn ns ts p z).aw.1="coin":=by
 unfold goOn eW
 split
 . exact λh=>ke h.symm
 . show ¬ (if _ then _ else _:Str×Option Int).1="coin"
   split
   . exact CQ
   . exact ne_w3
def oS(z:Db):cv ns (goOn ns ts p z)<=2*(ns.length-z.to.length)/\cg ns (goOn ns ts p z)<=ns.length-z.to.length:=by
 let%[_,e|_]:=ve (ns:=ns) (ts:=ts) (p:=p) z;let no:=qg (ns:=ns) (ts:=ts) (p:=p) z;unfold cv cg;rw[e,Mq no,Mq no]
 constructor <;> split <;> omega
def TkOk.ak(k:GmK ns ts p)(n6:ns.length<=6)(h:TkOk ns ts p t)(hw:t.z.aw.1="hear"):AkOk (t.ak ns ts p)/\0<=awN t.z/\awN t.z<=500/\t.z.to.length<ns.length/\t.z.aw=(("hear":Str),some (awN t.z))/\awN t.z=cr ts (ns.getD t.z.to.length "")+1:=by
 rcases h.gd.he hw with⟨e,_⟩ | ⟨_,tl,aw⟩
 . exact absurd e h.cl
 let ea:awN t.z=cr ts (ns.getD t.z.to.length "")+1:=by unfold awN;rw[aw];rfl
 let%[d0|d4]:=vh k (ns.getD t.z.to.length "");let nr:=h.nr;erw[%[k,n6,by show 0<=t.nr;omega,λ_=>tl,h.gd.po,h.s0,h.s1,h.gd.e0,h.gd.e1|by show t.z.to.length<=100;omega],3,3,tl,by rw[ea];exact aw,ea]
def TkOk.hear(k:GmK ns ts p)(n6:ns.length<=6)(h:TkOk ns ts p t)(hw:t.z.aw.1="hear"):HearOk ns p t.z (t.said ns ts p rows):=by
 let%[ok,a0,a5,tl,aw|ea]:=h.ak k n6 hw;let p2:=k.p2;let p9:=k.p9;let%[_,r2|r3]:=mZ (rows:=rows) ok 200 %[(0),t.bx|[]] h.bo (λx hx=>by cases hx) a0;let xo:cR (t.said ns ts p rows) p:=yX r2 (by show 0<p;omega);let xl:((t.said ns ts p rows).length:Int)=awN t.z:=vR r3;let hx:ns.getD t.z.to.length ""∈ns:=by
  rw[qT0,zO0 tl];exact qO0 tl
 let%[d0|d1]:=k.deg _ hx;let%[_|d4]:=vh k (ns.getD t.z.to.length "");erw[by rw[xl];exact aw,xo,3,λ_=>%[3,3,3|λj=>?_],h.gd.tl,h.gd.po]
 have:=rQ xo #[0] j
 omega
def yr(z:Db)(xs:List Int)(x0:xs≠[]):cv ns (eB p xs z)<=2*(ns.length-z.to.length)-1/\cg ns (eB p xs z)<=ns.length-z.to.length:=by
 let h1:(eB p xs z).to=z.to:=rfl;let h2:(eB p xs z).he=xs:=rfl;unfold cv cg;rw[h1,h2,Mq x0,Mq x0];let nh:¬ (eB p xs z).aw.1="hear":=by
  unfold eB;show ¬ (if _ then _ else _:Str×Option Int).1="hear"
  split
  . exact ke
  . exact yZ
 rw[Mq nh,Mq nh]
 constructor <;> split <;> omega
def TkOk.ask(k:GmK ns ts p)(n6:ns.length<=6)(h:TkOk ns ts p t)(hw:t.z.aw.1="hear"):TkOk ns ts p (t.ask ns ts p rows)/\cv ns (t.ask ns ts p rows).z<cv ns t.z/\cg ns (t.ask ns ts p rows).z<=cg ns t.z/\¬ (t.ask ns ts p rows).z.aw.1="hear":=by
 let%[ok,a0,a5,tl,aw|ea]:=h.ak k n6 hw;let ho:=h.hear (rows:=rows) k n6 hw;let%[r1,_|_]:=mZ (rows:=rows) ok 200 %[(0),t.bx|[]] h.bo (λx hx=>by cases hx) a0;let%[g1|g2]:=h.gd.hear k ho;let x0:=h.gd.hear_ne k ho;let e:dC ns ts p (t.said ns ts p rows) t.z=eB p (t.said ns ts p rows) { t.z with pl:=t.z.pl+((t.said ns ts p rows).length:Int) }:=Mq h.cl;let nr:=h.nr;let%[l1|l2]:=yr (ns:=ns) (p:=p) { t.z with pl:=t.z.pl+((t.said ns ts p rows).length:Int) } _ x0;let s1:cv ns t.z=2*(ns.length-t.z.to.length):=Mt hw;let s2:cg ns t.z=ns.length-t.z.to.length:=Mt hw;erw[%[g1,g2,6,6,r1,by show 1<=t.nr+1;omega|λ_ he=>?_],6,6,6]
 . show 0<=(dC ns ts p _ t.z).s;rw[e];exact h.s0
 . show(dC ns ts p _ t.z).s<p;rw[e];exact h.s1
 . have:(dC ns ts p (t.said ns ts p rows) t.z).he=[]:=he
   rw[e]at this;exact absurd this x0
 . show cv ns (dC ns ts p _ t.z)<_;rw[e,s1];let l1':cv ns (eB p (t.said ns ts p rows) { t.z with pl:=t.z.pl+((t.said ns ts p rows).length:Int) })<=2*(ns.length-t.z.to.length)-1:=l1;omega
 . show cg ns (dC ns ts p _ t.z)<=_;rw[e,s2];exact l2
 . show ¬ (dC ns ts p _ t.z).aw.1="hear";rw[e];unfold eB;show ¬ (if _ then _ else _:Str×Option Int).1="hear"
   split
   . exact ke
   . exact yZ
def TkOk.tossOk(h:TkOk ns ts p t)(hw:t.z.aw.1="coin"){r:Int}(r0:0<=r)(r1:r<p):TossOk ns p t.z r:=%[hw,r0,r1,h.gd.tl,(h.gd.co hw).2|h.gd.po]
def TkOk.toss(k:GmK ns ts p)(h:TkOk ns ts p t)(hw:t.z.aw.1="coin"){r:Int}(r0:0<=r)(r1:r<p):TkOk ns ts p (t.toss ns ts p r)/\cv ns (t.toss ns ts p r).z<cv ns t.z/\cg ns (t.toss ns ts p r).z+1<=cg ns t.z/\¬ (t.toss ns ts p r).z.aw.1="coin"/\(t.z.he=[]->(t.toss ns ts p r).z.s=r/\(t.toss ns ts p r).z.to=[])/\(t.z.he≠[]->(t.toss ns ts p r).z.s=t.z.s/\(t.toss ns ts p r).z.to=t.z.to++[r]):=by
 let ok:=h.tossOk hw r0 r1;let%[g1|g2]:=h.gd.toss k ok;let nh:¬ t.z.aw.1="hear":=by rw[hw];exact ke
 let s1:cv ns t.z=if t.z.he=[]then 2*ns.length+1 else 2*(ns.length-t.z.to.length)-1:=by unfold cv;rw[Mq nh,Mt hw]
 let s2:cg ns t.z=if t.z.he=[]then ns.length+1 else ns.length-t.z.to.length:=by unfold cg;rw[Mq nh,Mt hw]
 let nr:=h.nr
 by_cases c:t.z.he=[]
 . let et:=h.fi hw c;let e:dJ ns ts p r t.z=goOn ns ts p { t.z with pl:=t.z.pl+1,s:=r,ed:=hor r p t.z.cl }:=Mt c;let lw:=ve (ns:=ns) (ts:=ts) (p:=p) { t.z with pl:=t.z.pl+1,s:=r,ed:=hor r p t.z.cl };let ll:=oS (ns:=ns) (ts:=ts) (p:=p) { t.z with pl:=t.z.pl+1,s:=r,ed:=hor r p t.z.cl };let ln:=qg (ns:=ns) (ts:=ts) (p:=p) { t.z with pl:=t.z.pl+1,s:=r,ed:=hor r p t.z.cl };rw[←e]at lw ll ln;erw[w1,w2,w3,w4]at lw;let l1:cv ns (dJ ns ts p r t.z)<=2*(ns.length-t.z.to.length):=ll.1;let l2:cg ns (dJ ns ts p r t.z)<=ns.length-t.z.to.length:=ll.2;rw[Mt c]at s1 s2;erw[%[g1,g2,6,6,h.bo,nr|λa=>absurd a ln],6,6,ln,λ_=>%[w1|w2.trans et],λz=>absurd c z]
   . show 0<=(dJ ns ts p r t.z).s;rw[w1];exact r0
   . show(dJ ns ts p r t.z).s<p;rw[w1];exact r1
   . show cv ns (dJ ns ts p r t.z)<_;omega
   . show cg ns (dJ ns ts p r t.z)+1<=_;omega
 . let tl:=((h.gd.co hw).2 c).2;let e:dJ ns ts p r t.z=goOn ns ts p { t.z with pl:=t.z.pl+1,ed:=val p t.z.he r,to:=t.z.to++[r] }:=Mq c;let lw:=ve (ns:=ns) (ts:=ts) (p:=p) { t.z with pl:=t.z.pl+1,ed:=val p t.z.he r,to:=t.z.to++[r] };let ll:=oS (ns:=ns) (ts:=ts) (p:=p) { t.z with pl:=t.z.pl+1,ed:=val p t.z.he r,to:=t.z.to++[r] };let ln:=qg (ns:=ns) (ts:=ts) (p:=p) { t.z with pl:=t.z.pl+1,ed:=val p t.z.he r,to:=t.z.to++[r] };rw[←e]at lw ll ln;erw[w1,w2,w3,w4]at lw;let el:(t.z.to++[r]).length=t.z.to.length+1:=by rw[zK0];rfl
   let l1:cv ns (dJ ns ts p r t.z)<=2*(ns.length-(t.z.to++[r]).length):=ll.1;let l2:cg ns (dJ ns ts p r t.z)<=ns.length-(t.z.to++[r]).length:=ll.2;rw[el]at l1 l2;rw[Mq c]at s1 s2;erw[%[g1,g2,6,6,h.bo,nr|λa=>absurd a ln],6,6,ln,λz=>absurd z c,λ_=>%[w1|w2]]
   . show 0<=(dJ ns ts p r t.z).s;rw[w1];exact h.s0
   . show(dJ ns ts p r t.z).s<p;rw[w1];exact h.s1
   . show cv ns (dJ ns ts p r t.z)<_;omega
   . show cg ns (dJ ns ts p r t.z)+1<=_;omega
def CO(k:GmK ns ts p)(n6:ns.length<=6):AkOk ((Tk.new ts).ak ns ts p)/\awN (Tk.new ts).z=(ts.length:Int)/\HearOk ns p (Db.new ts) ‹Tk.s›/\kR p (Tk.new ts).bx:=by
 let p2:=k.p2;let t1:=k.t1;let t10:=k.t10;let b0:kR p (Tk.new ts).bx:=λx=>by show(0:Int)<=0/\(0:Int)<p;omega
 let ok:AkOk ((Tk.new ts).ak ns ts p):=%[k,n6,qC1 0,λz=>absurd z (by show ¬ (0:Int)<0;omega),(λx hx=>by cases hx),qC1 0,(by show(0:Int)<p;omega),qC1 0,(by show(0:Int)<p;omega)|zT0 _]
 let%[_,r2|r3]:=mZ (rows:=rows) ok 200 %[(0),(Tk.new ts).bx|[]] b0 (λx hx=>by cases hx) (by show(0:Int)<=(ts.length:Int);omega);let xl:(‹Tk.s›.length:Int)=(ts.length:Int):=vR r3;erw[ok,1,%[6,yX r2 (by show 0<p;omega),3,λz=>absurd rfl z,zT0 _|λx hx=>by cases hx],b0];rw[xl];rfl
def uU(k:GmK ns ts p)(n6:ns.length<=6):TkOk ns ts p ‹Tk.a›/\cv ns ‹Tk.a›.z<=2*ns.length+1/\cg ns ‹Tk.a›.z<=ns.length+(if 1<ts.length then 1 else 0)/\(1<ts.length->‹Tk.a›.z.aw=(("coin":Str),none)/\‹Tk.a›.z.he=[]/\‹Tk.a›.z.to=[])/\(¬ 1<ts.length->¬ ‹Tk.a›.z.aw.1="coin"/\‹Tk.a›.z.s=0/\‹Tk.a›.z.to=[]):=by
 let p2:=k.p2;let t1:=k.t1;let%[ok,_,ho|b0]:=CO (rows:=rows) k n6;let%[r1,_|_]:=mZ (rows:=rows) ok 200 %[(0),(Tk.new ts).bx|[]] b0 (λx hx=>by cases hx) (by show(0:Int)<=(ts.length:Int);omega);let%[g1|g2]:=(Gd.new k).hear k ho;let e0:dC ns ts p ‹Tk.s› (Db.new ts)=lI ns ts p ‹Tk.s› { Db.new ts with pl:=(Db.new ts).pl+(‹Tk.s›.length:Int) }:=Mt rfl
 by_cases c:ts.length=1
 . let e:dC ns ts p ‹Tk.s› (Db.new ts)=goOn ns ts p { Db.new ts with pl:=(Db.new ts).pl+(‹Tk.s›.length:Int),cl:=‹Tk.s›,s:=0,ed:=hor 0 p ‹Tk.s› }:=by
    rw[e0];exact Mt c
   let lw:=ve (ns:=ns) (ts:=ts) (p:=p) { Db.new ts with pl:=(Db.new ts).pl+(‹Tk.s›.length:Int),cl:=‹Tk.s›,s:=0,ed:=hor 0 p ‹Tk.s› };let ll:=oS (ns:=ns) (ts:=ts) (p:=p) { Db.new ts with pl:=(Db.new ts).pl+(‹Tk.s›.length:Int),cl:=‹Tk.s›,s:=0,ed:=hor 0 p ‹Tk.s› };let ln:=qg (ns:=ns) (ts:=ts) (p:=p) { Db.new ts with pl:=(Db.new ts).pl+(‹Tk.s›.length:Int),cl:=‹Tk.s›,s:=0,ed:=hor 0 p ‹Tk.s› };rw[←e]at lw ll ln;erw[w1,w2,w3,w4]at lw;let l1:cv ns (dC ns ts p ‹Tk.s› (Db.new ts))<=2*(ns.length-0):=ll.1;let l2:cg ns (dC ns ts p ‹Tk.s› (Db.new ts))<=ns.length-0:=ll.2;erw[%[g1,g2,6,6,r1,by show(1:Int)<=0+1;decide|λa=>absurd a ln],6,6,λz=>#[0],λ_=>%[ln,w1|w2]]
   . show 0<=(dC ns ts p _ (Db.new ts)).s;rw[w1];exact qC1 0
   . show(dC ns ts p _ (Db.new ts)).s<p;rw[w1];show(0:Int)<p;omega
   . show cv ns (dC ns ts p _ (Db.new ts))<=_;omega
   . show cg ns (dC ns ts p _ (Db.new ts))<=_;rw[Mq #[0]];omega
 . let e:dC ns ts p ‹Tk.s› (Db.new ts)={ Db.new ts with pl:=(Db.new ts).pl+(‹Tk.s›.length:Int),cl:=‹Tk.s›,aw:=("coin",none) }:=by
    rw[e0];exact Mq c
   let ez:‹Tk.a›.z={ Db.new ts with pl:=(Db.new ts).pl+(‹Tk.s›.length:Int),cl:=‹Tk.s›,aw:=("coin",none) }:=e;erw[%[g1,g2,6,6,r1,by show(1:Int)<=0+1;decide|λ_ _=>?_],6,6,λ_=>%[6,6|6],λz=>#[0]]
   . rw[ez];exact qC1 0
   . rw[ez];show(0:Int)<p;omega
   . rw[ez];rfl
   . rw[ez];show(if(("coin":Str)="hear")then _ else if(("coin":Str)="coin")then(if([]:List Int)=[]then 2*ns.length+1 else _)else 0)<=_;rw[Mq ke,Mt rfl,Mt rfl];exact zH0 _
   . rw[ez];show(if(("coin":Str)="hear")then _ else if(("coin":Str)="coin")then(if([]:List Int)=[]then ns.length+1 else _)else 0)<=_;rw[Mq ke,Mt rfl,Mt rfl,Mt #[0]];exact zH0 _
   . rw[ez]
   . rw[ez];rfl
   . rw[ez];rfl
end
inductive TR where
 |claims (xs:List Int) | say (xs:List Int) | coin (r:Int)
def eA(ns:List Str)(ts:List Tr)(p:Int)(rows:List Hr):List Int->Nat->Tk->List TR×Tk
 |_,0,t=>([],t)
 | cs,n+1,t=>if t.z.aw.1="hear" then(.say (t.said ns ts p rows)::(eA ns ts p rows cs n (t.ask ns ts p rows)).1,(eA ns ts p rows cs n (t.ask ns ts p rows)).2)
   else if t.z.aw.1="coin" then(.coin (cs.headD 0)::(eA ns ts p rows cs.tail n (t.toss ns ts p (cs.headD 0))).1,(eA ns ts p rows cs.tail n (t.toss ns ts p (cs.headD 0))).2)
   else([],t)
def Bn(ns:List Str)(ts:List Tr)(p:Int)(rows:List Hr)(cs:List Int):List TR×Tk:=(.claims ‹Tk.s›::(eA ns ts p rows cs 20 ‹Tk.a›).1,(eA ns ts p rows cs 20 ‹Tk.a›).2)
def ig{t:Tk}(h1:¬ t.z.aw.1="hear")(h2:¬ t.z.aw.1="coin"):∀n,eA ns ts p rows cs n t=([],t)
 |0=>rfl
 |n+1=>by
   show(if _ then _ else _)=_;rw[Mq h1,Mq h2]
def settle(ns:List Str)(ts:List Tr)(p:Int)(rows:List Hr):Nat->Tk->Tk
 |0,t=>t
 |n+1,t=>if t.z.aw.1="hear" then settle ns ts p rows n (t.ask ns ts p rows)else t
def jx(f:Int->Int×Option (List Int)):Nat->Int×Option (List Int)
 |0=>(0,none)
 |k+1=>((jx f k).1+(f (k:Int)).1,(jx f k).2.or (f (k:Int)).2)
def fo(ns:List Str)(ts:List Tr)(p:Int)(rows:List Hr)(cn:Nat):Nat->Tk->List Int->Int×Option (List Int)
 |0,_,_=>(0,none)
 | d+1,t,cs=>if(settle ns ts p rows 2 t).z.aw.1="believed" then(1,none)else if(settle ns ts p rows 2 t).z.aw.1="caught" then(0,some (cs++List.replicate (cn-cs.length) 0))
   else jx (λr=>fo ns ts p rows cn d ((settle ns ts p rows 2 t).toss ns ts p r) (cs++[r])) p.toNat
def Beg(ns:List Str)(ts:List Tr)(p:Int)(t:Tk):Prop:=t=Tk.new ts∨TkOk ns ts p t
section
variable {ns:List Str}{ts:List Tr}{p:Int}{t:Tk}{rows:List Hr}
def de(h:¬ t.z.aw.1="hear"):∀n,settle ns ts p rows n t=t
 |0=>rfl
 |n+1=>Mq h
def kY(k:GmK ns ts p)(n6:ns.length<=6)(h:TkOk ns ts p t):TkOk ns ts p (settle ns ts p rows 2 t)/\cg ns (settle ns ts p rows 2 t).z<=cg ns t.z/\¬ (settle ns ts p rows 2 t).z.aw.1="hear":=by
 by_cases c:t.z.aw.1="hear"
 . let%[o1,_,o3|o4]:=h.ask (rows:=rows) k n6 c;let e:settle ns ts p rows 2 t=t.ask ns ts p rows:=(Mt c).trans (de o4 1);rw[e];erw[o1,o3,o4]
 . rw[de c];erw[h,zH0 _,c]
def jD(k:GmK ns ts p)(n6:ns.length<=6):TkOk ns ts p (settle ns ts p rows 2 (Tk.new ts))/\cg ns (settle ns ts p rows 2 (Tk.new ts)).z<=ns.length+(if 1<ts.length then 1 else 0)/\¬ (settle ns ts p rows 2 (Tk.new ts)).z.aw.1="hear":=by
 let%[o1,_,o3,_|_]:=uU (rows:=rows) k n6;let e:settle ns ts p rows 2 (Tk.new ts)=settle ns ts p rows 1 ‹Tk.a›:=Mt rfl;rw[e]
 by_cases c:‹Tk.a›.z.aw.1="hear"
 . let%[q1,_,q3|q4]:=o1.ask (rows:=rows) k n6 c;let e:settle ns ts p rows 1 ‹Tk.a›=‹Tk.a›.ask ns ts p rows:=Mt c;rw[e];erw[q1,zN0 q3 o3,q4]
 . rw[de c];erw[o1,o3,c]
def Beg.settle(k:GmK ns ts p)(n6:ns.length<=6)(h:Beg ns ts p t):TkOk ns ts p (settle ns ts p rows 2 t)/\¬ (settle ns ts p rows 2 t).z.aw.1="hear":=by
 rcases h with rfl | h
 . erw[(jD k n6).1,(jD k n6).2.2]
 . erw[(kY k n6 h).1,(kY k n6 h).2.2]
def wQ(h:TkOk ns ts p t)(hn:¬ t.z.aw.1="hear")(h1:¬ t.z.aw.1="believed")(h2:¬ t.z.aw.1="caught"):t.z.aw.1="coin":=by
 rcases h.gd.ww with e | e | e | e
 . exact absurd e hn
 . exact e
 . exact absurd e h2
 . exact absurd e h1
structure AskOk(ns:List Str)(ts:List Tr)(p:Int)(rows:List Hr)(t:Tk):Prop where
 ak:AkOk (t.ak ns ts p)
 bo:kR p t.bx
 aw:t.z.aw=(("hear":Str),some (awN t.z))
 a0:0<=awN t.z
 a5:awN t.z<=500
 ho:HearOk ns p t.z (t.said ns ts p rows)
def Beg.ask(k:GmK ns ts p)(n6:ns.length<=6)(h:Beg ns ts p t)(hw:t.z.aw.1="hear"):AskOk ns ts p rows t:=by
 rcases h with rfl | h
 . let%[ak0,an0,ho0|bo0]:=CO (rows:=rows) k n6;let t1:=k.t1;let t10:=k.t10;erw[ak0,bo0,1,by rw[an0];omega,by rw[an0];omega,ho0]
 . let%[ak,a0,a5,tl,aw|ea]:=h.ak k n6 hw;erw[ak,h.bo,aw,a0,a5,h.hear (rows:=rows) k n6 hw]
def Beg.asked(k:GmK ns ts p)(n6:ns.length<=6)(h:Beg ns ts p t)(hw:t.z.aw.1="hear"):TkOk ns ts p (t.ask ns ts p rows):=by
 rcases h with rfl | h
 . exact(uU (rows:=rows) k n6).1
 . exact(h.ask (rows:=rows) k n6 hw).1
end
section
variable {C CM CA CG:Addr}
structure TalkAt(C CM CG:Addr)(H:Hp)(D M g h b:Addr)(rows:List Hr)(ns:List Str)(ts:List Tr)(p:Int)(t:Tk)(m:Nat):Prop where
 DA:DbAt C H D g t.z
 G:Gm CG H g ns ts p
 hM:∃dm,H M=some (.ins CM dm (ml g h t.nr b))
 hh:∃rv,H h=some (.tup rv)/\RowsAt H rv rows
 BX:BxAt H b t.bx m
 ne:D≠M
def TalkAt.same(w:TalkAt C CM CG H D M g h b rows ns ts p t m)(s:Same H H'):TalkAt C CM CG H' D M g h b rows ns ts p t m:=by
 erw[DA,G,%[dm|hM],%[rv,hh|R],B,ne]at w;erw[DA.same s,G.same s,%[dm|s _ _ hM],%[rv,s _ _ hh|R.mono (bp s)],B.keep λo e=>s _ _ e,ne]
def DbAt.but2{C' dm:Addr}{fs:List (Str×V)}{Ms:List (Key×V)}(h:DbAt C H D g z)(s:FD M b H H')(hM:H M=some (.ins C' dm fs))(hb:H b=some (.dK Ms))(ne:D≠M):DbAt C H' D g z:=by
 erw[dx,aA,aC,aH,aT,R]at h;let kT:cH H H':=λa xs e=>s _ _ (bL e hM nofun) (bL e hb nofun) e
 erw[dx,aA,aC,aH,aT,s _ _ ne (bL R.hD hb nofun) R.hD,kT _ _ R.hA,kT _ _ R.hC,kT _ _ R.hH,kT _ _ R.hT]
def Gm.but2{dm:Addr}{Ms:List (Key×V)}(G:Gm CG H g ns ts p)(s:FD M b H H')(hM:H M=some (.ins CM dm (ml g' h r b')))(hb:H b=some (.dK Ms)):Gm CG H' g ns ts p:=by
 erw[a,b1,d,tv,%[dg|hg],h2,h3,h4,h5]at G;let kT:cH H H':=λa xs e=>s _ _ (bL e hM nofun) (bL e hb nofun) e
 let gM:g≠M:=λe=>by
  rw[e,hM]at hg;cases hg
 erw[a,b1,d,tv,%[dg|s _ _ gM (bL hg hb nofun) hg],kT _ _ h2,kT _ _ h3,h4.mono kT,s _ _ (bL h5 hM nofun) (bL h5 hb nofun) h5]
def TalkAt.doub(w:TalkAt C CM CG H D M g h b rows ns ts p t m)(s:SameBut D H H')(DA:DbAt C H' D g z'):TalkAt C CM CG H' D M g h b rows ns ts p %[z',t.bx|t.nr] m:=by
 erw[DA0,G,%[dm|hM],%[rv,hh|R],B,ne]at w;erw[dx,aA,aC,aH,aT,R0]at DA0;let kT:cH H H':=λa xs e=>s _ _ (bL e R0.hD nofun) e
 let%[Ms,hb|_]:=id B;erw[DA,G.but R0.hD (G.ne R0.hD jy) s,%[dm|s _ _ ne.symm hM],%[rv,kT _ _ hh|R.mono kT],B.keep λo e=>s _ _ (bL hb R0.hD nofun) e,ne]
instance spAsked(C CM CG:Addr):∀(D M g h b:Addr) (rows:List Hr) (ns:List Str) (ts:List Tr) (p:Int) (t:Tk) (m:Nat),vs=[.ref M,.ref D]->TalkAt C CM CG H D M g h b rows ns ts p t m->GmK ns ts p->(∀r∈rows,r.good)->AkOk (t.ak ns ts p)->kR p t.bx->t.z.aw=(("hear":Str),some (awN t.z))->0<=awN t.z->awN t.z<=500->HearOk ns p t.z (t.said ns ts p rows)->m<=5000->(∀(a:Addr) (H':Hp),H a=none->H' a=some (.tup ((t.said ns ts p rows).map V.int))->TalkAt C CM CG H' D M g h b rows ns ts p (t.ask ns ts p rows) (m+200)->But3 D M b H H'->Q (.ref a) H'):=1
def qh:FnScope ["machine","doubter","values"] Ws (ag jR):=%[|5]
structure Ways(P:Program)(w:World)(K:W.Frag)(mg:#[9])(base:Heap)(C CM CG fW fU fH fT fS:Addr)(fdW fdU fdH fdT fdS:FuncData):Prop where
 mW:Meth K C "waits" fW
 GW:#[1,fW,fdW,WB,spOf C λz v H=>∃a,v=.ref a/\H a=some (.tup (awV z.aw))]
 bW:Binds K fdW WB []
 mU:Meth K C "due" fU
 GU:#[1,fU,fdU,WB,spOf C λz v _=>v=.int z.ed]
 bU:Binds K fdU WB []
 mH:Meth K C "hear" fH
 GH:#[18,fH,fdH,WG,spHear C CG]
 bH:Binds K fdH WG []
 mT:Meth K C "toss" fT
 GT:#[17,fT,fdT,We,spToss C CG]
 bT:Binds K fdT We []
 mS:Meth K CM "say" fS
 GS:#[25,fS,fdS,Wr,spSay CM CG]
 bS:Binds K fdS Wr []
def TalkAt.asked{dm:Addr}{n1:Int}(w:TalkAt C CM CG H D M g h b rows ns ts p t m)(hM:H M=some (.ins CM dm (ml g h t.nr b)))(B1:BxAt H1 b (t.run ns ts p rows).bx (m+200))(hM1:H1 M=some (.ins CM dm (ml g h (t.nr+1) b)))(s1:FD M b H H1)(e1:n1=t.nr+1):TalkAt C CM CG H1 D M g h b rows ns ts p %[t.z,(t.run ns ts p rows).bx|n1] (m+200):=by
 erw[DA0,G,_,%[rv,hh|R],B,ne]at w;let%[Ms,hb|_]:=id B;let kT:cH H H1:=λa xs e=>s1 _ _ (bL e hM nofun) (bL e hb nofun) e
 subst e1;erw[DA0.but2 s1 hM hb ne,G.but2 s1 hM hb,%[dm|hM1],%[rv,kT _ _ hh|R.mono kT],B1,ne]
def sK(F:#["asked_once",jR])(B:Bl mg)(T:DTxt K mg C)(TM:MTxt K mg CM)(Y:Ways P w K mg base C CM CG fW fU fH fT fS fdW fdU fdH fdT fdS):#[26,f,fd,Ws,spAsked C CM CG]:=by
 exists qh
 erw[D,M,g,h,b,rows,ns,ts,p,t,m,1,W,k,rg,ok,bo,aw,a0,a5,ho,mm,q]at h;let MB:Room 1 _:=hr.mono ⋯;let hr18:Room 18 _:=hr.mono ⋯;let hr25:Room 25 _:=hr.mono ⋯;refine⟨_,(aa #[ah,2,qh,bu (pv 0) TM.cl Y.mS Y.GS hr25 Y.bS .nil aY %[aI aJ (bV (pv 1) T.cl Y.mW Y.GW MB Y.bW .nil aY) ad #[1],bV (pv 1) T.cl Y.mU Y.GU MB Y.bU .nil aY,az (pv 1) rfl,aW jX rfl B.list jY %[az (pv 1) rfl|bc]|bc]]
  (aa (aQ (bu (pv 1) T.cl Y.mH Y.GH hr18 Y.bH .nil aY %[2|bc]))
  (ac (aj (aW bz rfl B.tuple cj %[2|bc]))))),?_⟩
 erw[dm,hM]at W.hM;let DA:=W.DA;let%[dx,aA,aC,aH,aT|R]:=id DA;erw[0,M,dm,0,hM,ml_n2,0,D,dx,0,R.hD,zh,D,g,t.z,1,DA,λv hv=>?_];erw[av,1,hav]at hv;rw[aw]at hav;erw[av,_,(1),.int (awN t.z),1,1,zB0 hav,1,0,D,dx,0,R.hD,dl_n2,D,g,t.z,1,DA,λv hv=>?_];subst hv;erw[0,D,C,dx,_,0,R.hD,9,T.nS,HC,0,D,C,dx,_,0,R.hD,9,T.nT,yx,aT,0,.inr (zB0 R.hT),λl hl=>?_];let I:=zC0 hl (.lst (t.z.to.map V.int));let g1:upd H l (.lst (t.z.to.map V.int)) l=some (.lst (t.z.to.map V.int)):=bh;generalize upd H l (.lst (t.z.to.map V.int))=H1 at I g1;let W1:=W.same I;erw[rv,hh,RW]at W1.hh;erw[M,g,h,b,dm,l,rv,t.ak ns ts p,rows,t.bx,m,1,I _ _ hM,hh,RW,rg,W1.BX,bo,mm,W1.G,ok,.inl g1,a0,a5,λl2 H2 l20 hl2 B2 hM2 S2=>?_];let hs:H2 l2=some (.lst ((t.said ns ts p rows).map V.int)):=hl2;let W2:=W1.asked (n1:=t.nr+1) (I _ _ hM) B2 hM2 S2 rfl;let%[Mw,_,_,_,_|R2]:=id W2.DA;erw[0,D,Mw,0,R2.hD,dl_n4,0,D,g,l2,t.z,t.said ns ts p rows,ns,ts,p,1,W2.DA,W2.G,k,hs,ho.aw,ho.xo,ho.x5,ho.ro,ho.tl,ho.po,λH3 S3 DA3=>?_];let W3:=W2.doub S3 DA3;let hs3:=S3 _ _ (bL hs R2.hD nofun) hs;erw[0,l2,0,.inl %[zG0 hs3|λa ha=>?_]];let J:=zC0 ha (.tup ((t.said ns ts p rows).map V.int));let fr:But3 D M b H H3:=λc o h1 h2 h3 e=>S3 _ _ h1 (S2 _ _ h2 h3 (I _ _ e))
 apply q a _ ?_ bh (W3.same J) (λc o h1 h2 h3 e=>J _ _ (fr c o h1 h2 h3 e));cases e:H a with
 |none=>rfl
 |some o=>
   erw[dx3,_,_,_,_,R3]at W3.DA;erw[dm3,hM3]at W3.hM;erw[Ms,hb3,_]at W3.BX;let n1:a≠D:=λz=>by rw[z,R3.hD]at ha;cases ha
   let n2:a≠M:=λz=>by rw[z,hM3]at ha;cases ha
   let n3:a≠b:=λz=>by rw[z,hb3]at ha;cases ha
   rw[fr a o n1 n2 n3 e]at ha;cases ha
end
section
variable {C CM CA CG:Addr}
def HP(a:Str×Option Int):atI (awV a) 0=some (.str a.1):=cK (j:=0) (FV a)
def lQ{n:Nat}{t:Tk}(h:t.z.aw.1="hear"):eA ns ts p rows cs (n+1) t=(.say (t.said ns ts p rows)::(eA ns ts p rows cs n (t.ask ns ts p rows)).1,(eA ns ts p rows cs n (t.ask ns ts p rows)).2):=Mt h
def lR{n:Nat}{t:Tk}(h:t.z.aw.1="coin"):eA ns ts p rows cs (n+1) t=(.coin (cs.headD 0)::(eA ns ts p rows cs.tail n (t.toss ns ts p (cs.headD 0))).1,(eA ns ts p rows cs.tail n (t.toss ns ts p (cs.headD 0))).2):=by
 show(if _ then _ else if _ then _ else _)=_;rw[Mq (by rw[h];exact ke),Mt h]
def kU(h:TkOk ns ts p t)(hw:t.z.aw.1="hear"∨t.z.aw.1="coin"):1<=cv ns t.z/\(t.z.aw.1="coin" -> 1<=cg ns t.z):=by
 rcases hw with hw | hw
 . let tl:t.z.to.length<ns.length:=by
    rcases h.gd.he hw with⟨e,_⟩ | ⟨_,tl,_⟩
    . exact absurd e h.cl
    . exact tl
   erw[6,λz=>absurd (z.symm.trans hw) ke]
   have:cv ns t.z=2*(ns.length-t.z.to.length):=Mt hw
   omega
 . let nh:¬ t.z.aw.1="hear":=by rw[hw];exact ke
   let s1:cv ns t.z=if t.z.he=[]then 2*ns.length+1 else 2*(ns.length-t.z.to.length)-1:=by unfold cv;rw[Mq nh,Mt hw]
   let s2:cg ns t.z=if t.z.he=[]then ns.length+1 else ns.length-t.z.to.length:=by unfold cg;rw[Mq nh,Mt hw]
   by_cases c:t.z.he=[]
   . rw[Mt c]at s1 s2;erw[3,λ_=>#[0]]
   . let tl:=((h.gd.co hw).2 c).2;rw[Mq c]at s1 s2;erw[3,λ_=>#[0]]
end
section
variable {C CG:Addr}
abbrev uj:Stmt:=bw dB 11
instance spTwin(C CG:Addr):∀(D g:Addr)(z:Db)(ns:List Str)(ts:List Tr)(p:Int),vs=[.ref D]->DbAt C H D g z->Gm CG H g ns ts p->(∀(D2:Addr)(H':Hp),H D2=none->Same H H'->DbAt C H' D2 g z->Q (.ref D2) H'):=1
def IV:FnScope ["self","other"] WB (ag uj):=%[|5]
def Cw(F:#["twin","Doubter.twin",uj])(T:DTxt K mg C)(MD:Mk K C fD)(GD:#[1,fD,fdD,WP,spDInit C CG])(bD:Binds K fdD WP []):#[3,f,fd,WB,spTwin C CG]:=by
 exists IV
 erw[D,g,z,ns,ts,p,1,%[dx,aA,aC,aH,aT|R],G,q]at h;let hr2:Room (1+1) _:=hr.mono ⋯;refine⟨_,(aa #[ah,1,IV,ib MD GD hr2 rfl T.mgC bD .nil aY %[az (pv 0) rfl|bc]]
  (aa (aP (pv 1) (az (pv 0) rfl) rfl)
  (aa (aP (pv 1) (az (pv 0) rfl) rfl)
  (aa (aP (pv 1) (az (pv 0) rfl) rfl)
  (aa (aP (pv 1) (az (pv 0) rfl) rfl)
  (aa (aP (pv 1) (az (pv 0) rfl) rfl)
  (aa (aP (pv 1) (az (pv 0) rfl) rfl)
  (aa (aP (pv 1) (az (pv 0) rfl) rfl)
  (ac (aj (pv 1))))))))))),?_⟩
 erw[0,D,C,dx,_,0,R.hD,9,T.nG,jy,λD2 dD nD ndD neD=>?_];let s10:Same H (upd (upd H dD (.own D2)) D2 (.ins C dD [])):=λb o e=>by
  rw[aB (bi e nD),aB (bi e ndD)];exact e
 let gD:g≠D2:=by
  let%[a,b,d,tv,%[dg|hg]|_]:=id G;exact bi hg nD
 erw[D2,g,dD,ns,ts,p,1,bh,G.same s10,gD,λH0 S0 D0=>%[1|6]];let S00:Same H H0:=λb o e=>S0 b o (bi e nD) (s10 b o e)
 let nDD:D≠D2:=bi R.hD nD;erw[Mw,aA2,aC2,aH2,aT2,R2]at D0;let h0:=R2.hD;generalize (Db.new ts).s=s2,(Db.new ts).ed=ed2,(Db.new ts).pl=pl2 at h0;let hD0:=S00 _ _ R.hD;erw[0,D,C,dx,_,0,hD0,9,T.nA,DN,0,D2,C,Mw,0,h0,9,T.nA,cW,6];rw[qV];let U0:SameBut D2 H0 (upd H0 D2 (.ins C Mw (dl g aA aC2 s2 aH2 aT2 ed2 pl2))):=SameBut.upd _;let h1:upd H0 D2 (.ins C Mw (dl g aA aC2 s2 aH2 aT2 ed2 pl2)) D2=some (.ins C Mw (dl g aA aC2 s2 aH2 aT2 ed2 pl2)):=bh;let hD1:=U0 _ _ nDD hD0;generalize upd H0 D2 (.ins C Mw (dl g aA aC2 s2 aH2 aT2 ed2 pl2))=H1 at U0 h1 hD1;erw[0,D,C,dx,_,0,hD1,9,T.nC,HH,0,D2,C,Mw,0,h1,9,T.nC,cW,6];rw[FP];let U1:SameBut D2 H1 (upd H1 D2 (.ins C Mw (dl g aA aC s2 aH2 aT2 ed2 pl2))):=SameBut.upd _;let h2:upd H1 D2 (.ins C Mw (dl g aA aC s2 aH2 aT2 ed2 pl2)) D2=some (.ins C Mw (dl g aA aC s2 aH2 aT2 ed2 pl2)):=bh;let hD2:=U1 _ _ nDD hD1;generalize upd H1 D2 (.ins C Mw (dl g aA aC s2 aH2 aT2 ed2 pl2))=H2 at U1 h2 hD2;erw[0,D,C,dx,_,0,hD2,9,T.nS,HC,0,D2,C,Mw,0,h2,9,T.nS,cW,6];rw[FN];let U2:SameBut D2 H2 (upd H2 D2 (.ins C Mw (dl g aA aC z.s aH2 aT2 ed2 pl2))):=SameBut.upd _;let h3:upd H2 D2 (.ins C Mw (dl g aA aC z.s aH2 aT2 ed2 pl2)) D2=some (.ins C Mw (dl g aA aC z.s aH2 aT2 ed2 pl2)):=bh;let hD3:=U2 _ _ nDD hD2;generalize upd H2 D2 (.ins C Mw (dl g aA aC z.s aH2 aT2 ed2 pl2))=H3 at U2 h3 hD3;erw[0,D,C,dx,_,0,hD3,9,T.nH,HG,0,D2,C,Mw,0,h3,9,T.nH,cW,6];rw[FO];let U3:SameBut D2 H3 (upd H3 D2 (.ins C Mw (dl g aA aC z.s aH aT2 ed2 pl2))):=SameBut.upd _;let h4:upd H3 D2 (.ins C Mw (dl g aA aC z.s aH aT2 ed2 pl2)) D2=some (.ins C Mw (dl g aA aC z.s aH aT2 ed2 pl2)):=bh;let hD4:=U3 _ _ nDD hD3;generalize upd H3 D2 (.ins C Mw (dl g aA aC z.s aH aT2 ed2 pl2))=H4 at U3 h4 hD4;erw[0,D,C,dx,_,0,hD4,9,T.nT,yx,0,D2,C,Mw,0,h4,9,T.nT,cW,6];rw[BZ];let U4:SameBut D2 H4 (upd H4 D2 (.ins C Mw (dl g aA aC z.s aH aT ed2 pl2))):=SameBut.upd _;let h5:upd H4 D2 (.ins C Mw (dl g aA aC z.s aH aT ed2 pl2)) D2=some (.ins C Mw (dl g aA aC z.s aH aT ed2 pl2)):=bh;let hD5:=U4 _ _ nDD hD4;generalize upd H4 D2 (.ins C Mw (dl g aA aC z.s aH aT ed2 pl2))=H5 at U4 h5 hD5;erw[0,D,C,dx,_,0,hD5,9,T.nE,zi,0,D2,C,Mw,0,h5,9,T.nE,cW,6];rw[xG];let U5:SameBut D2 H5 (upd H5 D2 (.ins C Mw (dl g aA aC z.s aH aT z.ed pl2))):=SameBut.upd _;let h6:upd H5 D2 (.ins C Mw (dl g aA aC z.s aH aT z.ed pl2)) D2=some (.ins C Mw (dl g aA aC z.s aH aT z.ed pl2)):=bh;let hD6:=U5 _ _ nDD hD5;generalize upd H5 D2 (.ins C Mw (dl g aA aC z.s aH aT z.ed pl2))=H6 at U5 h6 hD6;erw[0,D,C,dx,_,0,hD6,9,T.nP,zg,0,D2,C,Mw,0,h6,9,T.nP,cW,6];rw[uy];let U6:SameBut D2 H6 (upd H6 D2 (.ins C Mw (dl g aA aC z.s aH aT z.ed z.pl))):=SameBut.upd _;let h7:upd H6 D2 (.ins C Mw (dl g aA aC z.s aH aT z.ed z.pl)) D2=some (.ins C Mw (dl g aA aC z.s aH aT z.ed z.pl)):=bh;let hD7:=U6 _ _ nDD hD6;generalize upd H6 D2 (.ins C Mw (dl g aA aC z.s aH aT z.ed z.pl))=H7 at U6 h7 hD7;let U:SameBut D2 H0 H7:=U0.trans (U1.trans (U2.trans (U3.trans (U4.trans (U5.trans U6)))));let S07:Same H H7:=λb o e=>U b o (bi e nD) (S00 b o e)
 erw[0,q D2 H7 nD S07 %[Mw,aA,aC,aH,aT,h7,S07 _ _ R.hA,S07 _ _ R.hC,S07 _ _ R.hH|S07 _ _ R.hT]]
end
section
variable {CM CA CG:Addr}
abbrev uf:Stmt:=bw lh 4
def ml_n4:(ml g h r b).lookup ("twin":Str)=none:=by rfl'
def Fh{b':Addr}:bN "boxes" (.ref b') (ml g h r b)=ml g h r b':=by rfl'
instance spMTwin(CM:Addr):∀(M g h b dm:Addr)(r:Int)(bx:Str->Int)(m:Nat),vs=[.ref M]->H M=some (.ins CM dm (ml g h r b))->BxAt H b bx m->(∀(M' dm' b':Addr)(H':Hp),H M'=none->H b'=none->H' M'=some (.ins CM dm' (ml g h r b'))->BxAt H' b' bx m->Same H H'->Q (.ref M') H'):=1
def IW:FnScope ["self","other"] WB (ag uf):=%[|5]
def Ct(F:#["twin","Machine.twin",uf])(B:Bl mg)(T:MTxt K mg CM)(MM:Mk K CM fI)(GI:#[1,fI,fdI,WQ,spMInit CM])(bI:Binds K fdI WQ []):#[3,f,fd,WB,spMTwin CM]:=by
 exists IW
 erw[M,g,h,b,dm,r,bx,m,1,hM,BX,q]at h;let hr2:Room (1+1) _:=hr.mono ⋯;refine⟨_,(aa #[ah,1,IW,ib MM GI hr2 rfl T.mgC bI .nil aY %[az (pv 0) rfl,az (pv 0) rfl|bc]]
  (aa (aP (pv 1) (az (pv 0) rfl) rfl)
  (aa (aP (pv 1) (aW yD rfl B.dict yE %[az (pv 0) rfl|bc]) rfl)
  (ac (aj (pv 1)))))),?_⟩
 erw[0,M,CM,dm,_,0,hM,9,T.nG,ml_g,0,M,CM,dm,_,0,hM,9,T.nH,Fi,λN dn hN hdn nN=>?_];let S1:Same H (upd (upd H dn (.own N)) N (.ins CM dn [])):=λa o e=>by
  rw[aB (bi e hN),aB (bi e hdn)];exact e
 let g1:upd (upd H dn (.own N)) N (.ins CM dn []) N=some (.ins CM dn []):=bh;generalize upd (upd H dn (.own N)) N (.ins CM dn [])=H1 at S1 g1;erw[N,g,h,dn,1,g1,λb1 H2 hb1 hN2 _ S2=>%[1|6]];let S02:Same H H2:=Same.but S1 hN S2;let hM2:=S02 _ _ hM;let nMN:M≠N:=bi hM hN;erw[0,M,CM,dm,_,0,hM2,9,T.nR,Hc,0,N,CM,dn,0,hN2,9,T.nR,yd,6];rw[Da];let S3:SameBut N H2 (upd H2 N (.ins CM dn (ml g h r b1))):=SameBut.upd _;let hN3:upd H2 N (.ins CM dn (ml g h r b1)) N=some (.ins CM dn (ml g h r b1)):=bh;generalize upd H2 N (.ins CM dn (ml g h r b1))=H3 at S3 hN3;let S03:Same H H3:=Same.but S02 hN S3;erw[Ms,eb,lb,hx]at BX;erw[0,M,CM,dm,_,0,S03 _ _ hM,9,T.nB,Dc,b,Ms,1,S03 _ _ eb,λc hc=>?_];let cN:c≠N:=(bi hN3 hc).symm;let c0:H c=none:=S03.free hc;erw[0,N,CM,dn,0,by rw[aB cN.symm];exact hN3,T.cl,T.nB,yd,6];rw[Fh];erw[0,q N dn c _ hN c0 bh %[Ms,by rw[aB cN];exact bh,lb|hx] λa o e=>?_];rw[aB (bi e hN),aB (bi e c0)];exact S03 _ _ e
end
instance spPow:∀(x k:Int),vs=[.int x,.int k]->0<=k->k<=100->0<x->x<2 ^ 40->Q (.int (x ^ k.toNat)) H:=1
def o9:FnScope ["number","times","told","step"] ["number","times"] (ag ue):=%[|5]
def Cs(F:#["power",ue])(B:Bl mg):#[1,f,fd,["number","times"],spPow]:=by
 exists o9
 erw[x,k,1,k0,k1,x0,x1,q]at h;refine⟨_,(aa #[ah,2,o9,ad]
  (aa (cQ zG1 rfl (cI rfl B.range %[1|bc]) (bt (i:=3) o9.nd rfl (.inl rfl)) (ac #[ah,2,o9,am cG (pv 2) (pv 0)]))
  (ac (aj (pv 2))))),?_⟩
 erw[0,k,1,3,3,dG (n:=k.toNat) (λi σ H'=>∃x3:Option V,σ=[some (.int x),some (.int k),some (.int (x ^ i)),x3]/\H'=H) %[none,by rw[wQ1];rfl|1] ?_ ?_]
 . rintro i σ H1 hi ⟨x3,rfl,rfl⟩;erw[0,0,2,.inr %[3|3],6];erw[some (.int (0+(i:Int))),6,1];rw[qX1];rfl
 . rintro σ H1 ⟨x3,rfl,rfl⟩;erw[0,q]
section
variable {C CM CA CG:Addr}
def HD:(dl g aA aC s aH aT ed pl).lookup ("twin":Str)=none:=by rfl'
def OptAt(H:Hp)(v:V):Option (List Int)->Prop
 |none=>v=.non
 |some cs=>∃b,v=.ref b/\H b=some (.tup (cs.map V.int))
def OptAt.mono{x:Option (List Int)}(h:OptAt H v x)(k:cH H H'):OptAt H' v x:=by
 cases x with
 |none=>exact h
 |some cs=>erw[b,e,hb]at h;erw[b,e,k _ _ hb]
def WtAt(H:Hp)(a:Addr)(x:Int×Option (List Int)):Prop:=∃v,H a=some (.tup [.int x.1,v])/\OptAt H v x.2
def bq(ns:List Str)(ts:List Tr):Nat:=if ts.length=1 then ns.length else ns.length+1
def kP{ns:List Str}(h:ns.length<=6):bq ns ts<=7:=by unfold bq;split <;> omega
instance spFirst(CG:Addr):∀(g c:Addr)(ns:List Str)(ts:List Tr)(p:Int)(cs:List Int),vs=[.ref g,.ref c]->Gm CG H g ns ts p->ns.length<=6->H c=some (.tup (cs.map V.int))->cs.length<=bq ns ts->(∀(a:Addr)(H':Hp),Same H H'->H' a=some (.tup ((cs++List.replicate (bq ns ts-cs.length) 0).map V.int))->Q (.ref a) H'):=1
def tU:FnScope Wj Wj (ag kD):=%[|5]
def uK(F:#["first_row",kD])(B:Bl mg)(TG:GTxt K mg CG)(mC:Meth K CG "coins" fC)(GC:#[1,fC,fdC,WB,spCoins CG])(bC:Binds K fdC WB []):#[2,f,fd,Wj,spFirst CG]:=by
 exists tU
 erw[g,c,ns,ts,p,cs,1,G,n6,hc,cl,q]at h;let MB:Room 1 _:=hr.mono ⋯;erw[_,(ac (aj (am (pZ K) (pv 1) (am (Ci K) (aM %[ad|bc]) (am bK (bV (pv 0) TG.cl mC GC MB bC .nil aY) (aE aD rfl B.len zC1 %[1|bc])))))),6];erw[0,y1S,λz hz=>?_];let I:=zC0 hz (.tup [.int 0]);let gz:upd H z (.tup [.int 0]) z=some (.tup [.int 0]):=bh;generalize upd H z (.tup [.int 0])=H1 at I gz;let%[a,b,d,tv,%[dx|hg],ha,hb,TS|hd]:=G.same I;let vl:=TS.length;let noc:(gf a b p d).lookup ("coins":Str)=none:=rO _ _ _ _ ⋯ ⋯ ⋯ ⋯;erw[0,g,dx,0,hg,noc,g,a,b,d,ns,tv,p,1,%[dx|hg],ha,hb,6];let hc1:=I _ _ hc;erw[0,c,0,.inr (zB0 hc1),2,6];let ek:(if tv.length=1 then(ns.length:Int)else(ns.length:Int)+1)-((cs.map V.int).length:Int)=((bq ns ts-cs.length:Nat):Int):=by
  rw[zF0,vl];unfold bq at cl ⊢
  split <;> rename_i h <;> (first | rw[Mt h]at cl | rw[Mq h]at cl) <;> omega
 show rRepT K (.ref z) (.int ((if tv.length=1 then(ns.length:Int)else(ns.length:Int)+1)-((cs.map V.int).length:Int))) H1 _;rw[ek];let c7:=kP (ts:=ts) n6;let fin:∀(y:Addr)(H2:Hp),Same H1 H2->H2 y=some (.tup ((List.replicate (bq ns ts-cs.length) (0:Int)).map V.int))->rCatT K (.ref c) (.ref y) H2 Q∨rCatT0 K (.ref c) (.ref y) H2 Q:=λy H2 S2 hy=>
  qi (S2 _ _ hc1) hy (by rw[zT1];omega) λt H3 S3 h3=>q t H3 (I.trans (S2.trans S3)) h3
 erw[z,.int 0,((bq ns ts-cs.length:Nat):Int),1,1,zB0 gz,3,3,λe=>fin z H1 (Same.refl _) ?_,λ_ y hy=>fin y _ (zC0 hy _) ?_]
 . let e1:bq ns ts-cs.length=1:=#[0]
   rw[e1];exact gz
 . rw[bh,List.map_replicate,qP0]
instance spRowsC(CG:Addr):∀(g:Addr)(ns:List Str)(ts:List Tr)(p:Int),vs=[.ref g]->Gm CG H g ns ts p->ns.length<=6->0<p->p<2 ^ 40->Q (.int (p ^ bq ns ts)) H:=1
def ot:FnScope WH WH (ag gV):=%[|5]
def oM(F:#["rows_of_coins",gV])(T:GTxt K mg CG)(mC:Meth K CG "coins" fC)(GC:#[1,fC,fdC,WB,spCoins CG])(bC:Binds K fdC WB [])(Ix:#[1,"power",["number","times"],spPow]):#[2,f,fd,WH,spRowsC CG]:=by
 exists ot
 erw[g,ns,ts,p,1,%[a,b,d,tv,%[dx|hg],ha,hb,TS|hd],nl,p0,p40,q]at h;let MB:Room 1 _:=hr.mono ⋯;erw[_,(ac (aj (ai Ix hr ⋯ rfl %[az (pv 0) rfl,bV (pv 0) T.cl mC GC MB bC .nil aY|bc]))),6];let noc:(gf a b p d).lookup ("coins":Str)=none:=rO _ _ _ _ ⋯ ⋯ ⋯ ⋯;let vl:=TS.length;erw[0,g,CG,dx,_,0,hg,9,T.nF,iJ ..,0,g,dx,0,hg,noc,g,a,b,d,ns,tv,p,1,%[dx|hg],ha,hb,p,0,6,6,p0,p40,6]
 . split <;> omega
 . split <;> omega
 . let e:(if tv.length=1 then(ns.length:Int)else(ns.length:Int)+1).toNat=bq ns ts:=by
    rw[vl];unfold bq
    split <;> omega
   rw[e];exact q
structure Twins(P:Program)(w:World)(K:W.Frag)(mg:#[9])(base:Heap)(C CM CG fD fM:Addr)(fdD fdM:FuncData):Prop where
 mD:Meth K C "twin" fD
 GD:#[3,fD,fdD,WB,spTwin C CG]
 bD:Binds K fdD WB []
 mM:Meth K CM "twin" fM
 GM:#[3,fM,fdM,WB,spMTwin CM]
 bM:Binds K fdM WB []
instance spWB(C CM CG:Addr)(d:Nat):∀(D M g h b c:Addr)(rows:List Hr)(ns:List Str)(ts:List Tr)(p:Int)(t:Tk)(m:Nat)(cs:List Int),vs=[.ref M,.ref D,.ref c]->TalkAt C CM CG H D M g h b rows ns ts p t m->GmK ns ts p->ns.length<=6->(∀r∈rows,r.good)->Beg ns ts p t->cg ns (settle ns ts p rows 2 t).z<d->H c=some (.tup (cs.map V.int))->cs.length+cg ns (settle ns ts p rows 2 t).z<=bq ns ts->m+400*d<=5000->(∀(a:Addr)(H':Hp),WtAt H' a (fo ns ts p rows (bq ns ts) d t cs)->But3 D M b H H'->Q (.ref a) H'):=1
def b8:FnScope ["machine","doubter","coins","number","row","coin","behind","told"] Wb (ag eg):=%[|5]
def Eh:#[27,f,fd,Wb,spWB C CM CG 0]:=by
 let no:∀vs H Q E,¬ spWB C CM CG 0 vs H Q E:=λvs H Q E h=>by
  erw[D,M,g,h,b,c,rows,ns,ts,p,t,m,cs,_,_,_,_,_,_,h1,_]at h;exact absurd h1 (Nat.not_lt_zero _)
 exists 3
def TalkAt.twins{M2 dm2:Addr}(w:TalkAt C CM CG H D M g h b rows ns ts p t m)(s:Same H H')(DA:DbAt C H' D2 g z)(hM:H' M2=some (.ins CM dm2 (ml g h t.nr b2)))(B:BxAt H' b2 t.bx m)(ne:D2≠M2):TalkAt C CM CG H' D2 M2 g h b2 rows ns ts p %[z,t.bx|t.nr] m:=by
 let%[_,G,_,%[rv,hh|R],_|_]:=w.same s;erw[DA,G,%[dm2|hM],%[rv,hh|R],B,ne]
instance IWb(C CM CG:Addr)(H:Hp)(D M g h b c:Addr)(rows:List Hr)(ns:List Str)(ts:List Tr)(p:Int)(u:Tk)(m:Nat)(mm:Nat)(σ:St)(H':Hp):∀(t':Tk) (j m':Nat),σ=[some (.ref M),some (.ref D),some (.ref c),none,none,none,none,none]->mm=j->j<=2->Beg ns ts p t'->(j<=1->TkOk ns ts p t')->(j=0->¬ t'.z.aw.1="hear")->settle ns ts p rows j t'=u->TalkAt C CM CG H' D M g h b rows ns ts p t' m'->m'+200*j<=m+400->But3 D M b H H':=0
def Ei{n:Nat}(F:#["weighed_behind",eg])(B:Bl mg)(T:DTxt K mg C)(TM:MTxt K mg CM)(TG:GTxt K mg CG)(Y:Ways P w K mg base C CM CG fW fU fH fT fS fdW fdU fdH fdT fdS)(Z:Twins P w K mg base C CM CG fDt fMt fdDt fdMt)
 (eZ:#[26,"asked_once",Ws,spAsked C CM CG])(fg:#[2,"first_row",Wj,spFirst CG])(dX:#[n+27,"weighed_behind",Wb,spWB C CM CG n]):#[n+28,f,fd,Wb,spWB C CM CG (n+1)]:=by
 exists b8
 erw[D,M,g,h,b,c,rows,ns,ts,p,t,m,cs,1,W,k,n6,rg,bg,cd,hc,cl,mm,q]at h;let MB:Room 1 _:=hr.mono #[0];let hr3:Room 3 _:=hr.mono #[0];let hr17:Room 17 _:=hr.mono #[0];refine⟨_,(aa (iF zG1 (af aN (aI aJ (bV (pv 1) T.cl Y.mW Y.GW MB Y.bW .nil aY) ad #[1]) aq (ao _)) (ac (aQ (ai eZ hr #[0] rfl %[0,1|bc]))))
  (aa (aF (af aN (aI aJ (bV (pv 1) T.cl Y.mW Y.GW MB Y.bW .nil aY) ad #[1]) aq (ao _)) (ac (aj (aM %[ad,mo|bc]))) ax)
  (aa (aF (af aN (aI aJ (bV (pv 1) T.cl Y.mW Y.GW MB Y.bW .nil aY) ad #[1]) aq (ao _)) (ac (aj (aM %[ad,ai fg hr #[0] rfl %[az (pv 1) rfl,2|bc]|bc]))) ax)
  (aa #[ah,3,b8,ad]
  (aa #[ah,4,b8,mo]
  (aa (cQ zG1 rfl (cI rfl B.range %[az (az (pv 1) rfl) rfl|bc]) (bt (i:=5) b8.nd rfl (.inl rfl)) (aa #[ah,6,b8,bV (pv 1) T.cl Z.mD Z.GD hr3 Z.bD .nil aY]
   (aa (aQ (bu (pv 6) T.cl Y.mT Y.GT hr17 Y.bT .nil aY %[5|bc]))
   (aa #[ah,7,b8,ai dX hr #[0] rfl %[bV (pv 0) TM.cl Z.mM Z.GM hr3 Z.bM .nil aY,6,am (pZ K) (pv 2) (aM %[5|bc])|bc]]
   (aa #[ah,3,b8,am aR (pv 3) (aI aJ (pv 7) ad #[1])]
   (ac (aF (af Ck (pv 4) mo (ao _)) (ac #[ah,4,b8,aI aJ (pv 7) ad #[1]]) ax)))))))
  (ac (aj (aM %[3,4|bc]))))))))),?_⟩
 let p2:=k.p2;let p9:=k.p9;let%[uok|uno]:=bg.settle (rows:=rows) k n6;let rec1:settle ns ts p rows 2 t=settle ns ts p rows 2 t:=rfl;generalize eu:settle ns ts p rows 2 t=u at uok uno cd cl;clear rec1;let c7:=kP (ts:=ts) n6;erw[IWb C CM CG H D M g h b c rows ns ts p u m,%[(2),t,(2),m,1,1,zH0 _,bg,λz=>absurd z ⋯,λz=>absurd z ⋯,eu,W,zH0 _|λ_ _ _ _ _ e=>e],6]
 rintro mm1 σ H1 ⟨t',j,m',rfl,rfl,j2,bg',ok',no',es,W1,m1,S1⟩;let DA:=W1.DA;let%[dx,aA,aC,aH,aT|R]:=id DA;erw[0,D,dx,0,R.hD,zh,D,g,t'.z,1,DA,λv hv=>?_];erw[av,1,hav]at hv;erw[av,_,(0),0,1,zB0 hav,HP _,1,0,6]
 by_cases ch:t'.z.aw.1="hear"
 . apply aU (congrArg V.str ch) %[_,λ_ _ h=>h|6];obtain⟨i,rfl⟩:∃i,mm1=i+1:=⟨mm1-1,by have:mm1≠0:=λz=>no' z ch;omega⟩
   let%[ak,bo,aw,a0,a5|ho]:=bg'.ask (rows:=rows) k n6 ch;erw[0,0,D,M,g,h,b,rows,ns,ts,p,t',m',1,W1,k,rg,ak,bo,aw,a0,a5,ho,3,λa6 H6 _ _ W6 S6=>?_];let ok2:=bg'.asked (rows:=rows) k n6 ch;erw[i,qV1 _,t'.ask ns ts p rows,i,m'+200,1,1,3,.inr ok2,λ_=>ok2,λz=>?_,6,W6,3,λa o h1 h2 h3 e=>S6 _ _ h1 h2 h3 (S1 _ _ h1 h2 h3 e)]
   . subst z;exact((ok' (zH0 _)).ask (rows:=rows) k n6 ch).2.2.2
   . rw[←es];exact(Mt ch).symm
 apply ay (neS ch) ?_;rw[de ch]at es;subst es;clear bg' ok' no' hav;erw[0,D,dx,0,R.hD,zh,D,g,t'.z,1,DA,λv hv=>?_];erw[av,1,hav]at hv;erw[av,_,(0),0,1,zB0 hav,HP _,1,0,6]
 by_cases cb:t'.z.aw.1="believed"
 . apply aU (congrArg V.str cb) %[y2S|λa ha=>?_];let I:=zC0 ha (.tup [.int 1,.non]);apply q a _ ?_ (λx o h1 h2 h3 e=>I _ _ (S1 _ _ h1 h2 h3 e));let e:fo ns ts p rows (bq ns ts) (n+1) t cs=(1,none):=by
    show(if(settle ns ts p rows 2 t).z.aw.1="believed" then _ else _)=_;rw[eu,Mt cb]
   rw[e];erw[.non,bh,1]
 apply ay (neS cb) ?_;clear hav;erw[0,D,dx,0,R.hD,zh,D,g,t'.z,1,DA,λv hv=>?_];erw[av,1,hav]at hv;erw[av,_,(0),0,1,zB0 hav,HP _,1,0,6];let hDM:c≠D/\c≠M/\c≠b:=by
  erw[dx0,_,_,_,_,R0]at W.DA;erw[dm0,hM0]at W.hM;erw[kv0,hb0,_]at W.BX;erw[bL hc R0.hD nofun,bL hc hM0 nofun,bL hc hb0 nofun]
 let hc1:=S1 _ _ hDM.1 hDM.2.1 hDM.2.2 hc
 by_cases cc:t'.z.aw.1="caught"
 . apply aU (congrArg V.str cc) %[0,D,C,dx,_,0,R.hD,T.cl,T.nG,jy,0,g,c,ns,ts,p,cs,1,W1.G,n6,hc1,3|λa2 H2 S2 h2=>?_];erw[y2S,λa ha=>?_];let I:=zC0 ha (.tup [.int 0,.ref a2]);apply q a _ ?_ (λx o h1 h2 h3 e=>I _ _ (S2 _ _ (S1 _ _ h1 h2 h3 e)));let e:fo ns ts p rows (bq ns ts) (n+1) t cs=(0,some (cs++List.replicate (bq ns ts-cs.length) 0)):=by
    show(if(settle ns ts p rows 2 t).z.aw.1="believed" then _ else if(settle ns ts p rows 2 t).z.aw.1="caught" then _ else _)=_;rw[eu,Mq cb,Mt cc]
   rw[e];erw[.ref a2,bh,a2,1,I _ _ h2]
 apply ay (neS cc) ?_;let co:=wQ uok uno cb cc;let e:fo ns ts p rows (bq ns ts) (n+1) t cs=jx (λr=>fo ns ts p rows (bq ns ts) n (t'.toss ns ts p r) (cs++[r])) p.toNat:=by
  show(if(settle ns ts p rows 2 t).z.aw.1="believed" then _ else if(settle ns ts p rows 2 t).z.aw.1="caught" then _ else _)=_;rw[eu,Mq cb,Mq cc]
 rw[e]at q;clear e hav eu bg W hc;let cp:=(kU uok (.inr co)).2 co;generalize ef:(λr=>fo ns ts p rows (bq ns ts) n (t'.toss ns ts p r) (cs++[r]))=fw at q;erw[ga,gb,gd,tv,%[dg|hg],_]at W1.G;erw[0,D,C,dx,_,0,R.hD,9,T.nG,jy,g,CG,dg,_,0,hg,TG.cl,TG.nF,iJ ..,p,1,3,3,dG (n:=p.toNat) (λi σ H'=>∃(v:V)(x5 x6 x7:Option V),σ=[some (.ref M),some (.ref D),some (.ref c),some (.int (jx fw i).1),some v,x5,x6,x7]/\OptAt H' v (jx fw i).2/\Same H1 H') %[.non,none,none,none,1,1|Same.refl _] ?_ ?_]
 . rintro i σ H2 hi ⟨v,x5,x6,x7,rfl,ov,S2⟩;rw[jI1];let W2:=W1.same S2;let DA2:=W2.DA;let%[Mw,_,_,_,_|R2]:=id DA2;erw[0,D,Mw,0,R2.hD,HD,D,g,t'.z,ns,ts,p,1,DA2,W2.G,λD3 H3 D30 S3 DA3=>?_];let%[dx3,_,_,_,_|R3]:=id DA3;let to:=uok.tossOk co (r:=(i:Int)) #[0] #[0];erw[0,D3,dx3,0,R3.hD,dl_n5,0,D3,g,t'.z,(i:Int),ns,ts,p,1,DA3,W2.G.same S3,k,to.aw,to.r0,to.r1,to.tl,to.ro,to.po,λH4 S4 DA4=>?_];let S24:Same H2 H4:=Same.but S3 D30 S4;let W4:=W2.same S24;erw[dm4,hM4]at W4.hM;erw[0,M,dm4,0,hM4,ml_n4,M,g,h,b,dm4,t'.nr,t'.bx,m',1,hM4,W4.BX,λM5 dm5 b5 H5 M50 b50 hM5 BX5 S5=>?_];erw[0,0,0,y1S,λz hz=>?_];let I6:=zC0 hz (.tup [.int (i:Int)]);let g6:upd H5 z (.tup [.int (i:Int)]) z=some (.tup ([(i:Int)].map V.int)):=bh;generalize upd H5 z (.tup [.int (i:Int)])=H6 at I6 g6;let S26:Same H2 H6:=S24.trans (S5.trans I6);apply qi (S26 _ _ (S2 _ _ hc1)) g6 (by rw[qL0];omega) λc7 H7 S7 h7=>?_
   let S47:Same H4 H7:=S5.trans (I6.trans S7);let S57:Same H5 H7:=I6.trans S7;let%[ok3,st3,co3|_]:=uok.toss k co to.r0 to.r1;let%[_,cs3|_]:=kY (rows:=rows) k n6 ok3;let el:(cs++[(i:Int)]).length=cs.length+1:=by rw[zK0];rfl
   let D3M5:D3≠M5:=by
    erw[_,_,_,_,_,R4]at DA4;exact bi R4.hD M50
   let W7:TalkAt C CM CG H7 D3 M5 g h b5 rows ns ts p (t'.toss ns ts p (i:Int)) m':=W4.twins S47 (DA4.same S47) (S57 _ _ hM5) (BX5.keep λo e=>S57 _ _ e) D3M5;erw[D3,M5,g,h,b5,c7,rows,ns,ts,p,t'.toss ns ts p (i:Int),m',cs++[(i:Int)],1,W7,k,n6,rg,.inr ok3,3,h7,3,3,λa8 H8 w8 S8=>?_];let S28:Same H2 H8:=λa o e=>S8 _ _ (bi e D30) (bi (S24 _ _ e) M50) (bi (S24 _ _ e) b50) (S26.trans S7 _ _ e)
   erw[v8,ha8,o8]at w8;let ef8:fo ns ts p rows (bq ns ts) n (t'.toss ns ts p (i:Int)) (cs++[(i:Int)])=fw (i:Int):=by rw[←ef]
   rw[ef8]at ha8 o8;erw[0,0,a8,_,(0),0,1,zB0 ha8,at0 _ _,2,6];erw[0,1,0,6];cases eo:(jx fw i).2 with
   |none=>
     rw[eo]at ov;let ov:v=.non:=ov;subst ov;apply aU rfl %[0,a8,_,(1),0,1,zB0 ha8,cK (j:=1) rfl|6];erw[v8,_,_,0,6,S2.trans S28];show OptAt H8 v8 ((jx fw i).2.or (fw (i:Int)).2);rw[eo];exact o8
   |some rr=>
     rw[eo]at ov;let ov':=ov;erw[bv,1,hbv]at ov';apply ay nofun ?_;erw[.ref bv,_,_,0,6,S2.trans S28];show OptAt H8 (.ref bv) ((jx fw i).2.or (fw (i:Int)).2);rw[eo];erw[bv,1,S28 _ _ hbv]
 . rintro σ H2 ⟨v,x5,x6,x7,rfl,ov,S2⟩;erw[0,0,y2S,λa ha=>?_];let I:=zC0 ha (.tup [.int (jx fw p.toNat).1,v]);exact q a _ %[v,bh|ov.mono (bp I)] (λx o h1 h2 h3 e=>I _ _ (S2 _ _ (S1 _ _ h1 h2 h3 e)))
def iU(F:#["weighed_behind",eg])(m:mg "weighed_behind"=some (.ref f))(B:Bl mg)(T:DTxt K mg C)(TM:MTxt K mg CM)(TG:GTxt K mg CG)(Y:Ways P w K mg base C CM CG fW fU fH fT fS fdW fdU fdH fdT fdS)(Z:Twins P w K mg base C CM CG fDt fMt fdDt fdMt)
 (eZ:#[26,"asked_once",Ws,spAsked C CM CG])(fg:#[2,"first_row",Wj,spFirst CG]):∀n:Nat,#[n+27,f,fd,Wb,spWB C CM CG n]
 |0=>Eh
 |n+1=>Ei F B T TM TG Y Z eZ fg (Cal.of F (iU F m B T TM TG Y Z eZ fg n) m (λ_ _ _ _ _ _ us hl=>by let%[u0,u1,u2|1]:=Fo hl;rfl))
end
section
variable {C CM CA CG:Addr}
instance spWeighed(C CM CG:Addr):∀(g h:Addr)(rv:List V)(rows:List Hr)(ns:List Str)(ts:List Tr)(p:Int),vs=[.ref g,.ref h]->Gm CG H g ns ts p->GmK ns ts p->ns.length<=6->H h=some (.tup rv)->RowsAt H rv rows->(∀r∈rows,r.good)->p ^ bq ns ts<=4000->(∀(a:Addr)(H':Hp),Same H H'->WtAt H' a (fo ns ts p rows (bq ns ts) 8 (Tk.new ts) [])->Q (.ref a) H'):=1
def E3:FnScope ["game","helper","rows"] WS (ag ow):=%[|5]
def xP(F:#["weighed",ow])(T:DTxt K mg C)(TM:MTxt K mg CM)(hmost:∃t,mg "MOST_ROWS_weighing"=some (.int 4000 t))
 (MD:Mk K C fI)(GD:#[1,fI,fdI,WP,spDInit C CG])(bD:Binds K fdI WP [])(MM:Mk K CM fM)(GM:#[1,fM,fdM,WQ,spMInit CM])(bM:Binds K fdM WQ [])
 (c8:#[2,"rows_of_coins",WH,spRowsC CG])(dX:#[35,"weighed_behind",Wb,spWB C CM CG 8]):#[36,f,fd,WS,spWeighed C CM CG]:=by
 exists E3
 erw[g,h,rv,rows,ns,ts,p,1,G,k,n6,hh,RW,rg,p4,q]at h;erw[te,ge]at hmost;let hr2:Room (1+1) _:=hr.mono ⋯;refine⟨_,(aa #[ah,2,E3,ai c8 hr ⋯ rfl %[0|bc]]
  (aa (aF (af fO (pv 2) (bQ (v:=.int 4000) rfl ge %[|0]) (ao _)) aX ax)
  (ac (aj (ai dX hr ⋯ rfl %[ib MM GM hr2 rfl TM.mgC bM .nil aY %[0,1|bc],ib MD GD hr2 rfl T.mgC bD .nil aY %[0|bc],aM bc|bc]))))),?_⟩
 let p2:=k.p2;let p9:=k.p9;erw[0,g,ns,ts,p,1,G,n6,3,3,6];erw[0,2,0,ay #[0] ?_];erw[0,0,λM dm hM0 hdm0 nM=>?_];let K1:Same H (upd (upd H dm (.own M)) M (.ins CM dm [])):=λa o e=>by
  rw[aB (bi e hM0),aB (bi e hdm0)];exact e
 erw[M,g,h,dm,1,bh,λb H2 b0 hM2 hb2 S2=>%[1|6]];let T2:Same H H2:=Same.but K1 hM0 S2;let b00:H b=none:=K1.free b0;clear K1 S2 b0;erw[0,λD dd hD0 hdd0 nD=>?_];let K3:Same H2 (upd (upd H2 dd (.own D)) D (.ins C dd [])):=λa o e=>by
  rw[aB (bi e hD0),aB (bi e hdd0)];exact e
 let G2:=G.same T2;let gD:g≠D:=by
  erw[_,_,_,_,%[dg|hg],_]at G2;exact bi hg hD0
 erw[D,g,dd,ns,ts,p,1,bh,G2.same K3,gD,λH4 S4 DA4=>%[1|6]];let T24:Same H2 H4:=Same.but K3 hD0 S4;let T4:Same H H4:=T2.trans T24;let D00:H D=none:=T2.free hD0;let nDM:D≠M:=(bi hM2 hD0).symm;let W4:TalkAt C CM CG H4 D M g h b rows ns ts p (Tk.new ts) 0:=⟨DA4,G.same T4,⟨dm,T24 _ _ hM2⟩,⟨rv,T4 _ _ hh,RW.mono (bp T4)⟩,⟨[],T24 _ _ hb2,zH0 _,λ_=>rfl⟩,nDM⟩
 erw[y0S,λc hc=>?_];let I:=zC0 hc (.tup []);let gc:upd H4 c (.tup []) c=some (.tup (([]:List Int).map V.int)):=bh;generalize upd H4 c (.tup [])=H5 at I gc;let%[_,c1|_]:=jD (rows:=rows) k n6;let c2:ns.length+(if 1<ts.length then 1 else 0)<=bq ns ts:=by
  unfold bq
  split <;> split <;> omega
 let c7:=kP (ts:=ts) n6;erw[D,M,g,h,b,c,rows,ns,ts,p,Tk.new ts,(0),[],1,W4.same I,k,n6,rg,.inl rfl,3,gc,(by show 0+_<=_;omega),4,λa H6 w6 S6=>q a H6 (λx o e=>?_) w6];exact S6 _ _ (bi e D00) (bi e hM0) (bi e b00) (I _ _ (T4 _ _ e))
end
def jk(p:Nat):Nat->List (List Int)
 |0=>[[]]
 |k+1=>(List.range p).flatMap λr:Nat=>(jk p k).map ((r:Int)::·)
def oi:∀(k:Nat)(c:List Int),c∈jk p k->c.length=k/\cR c (p:Int)
 |0,c,h=>by
   let e:c=[]:=by simpa [jk]using h
   subst e;erw[1,λx hx=>by cases hx]
 |k+1,c,h=>by
   unfold jk at h;let%[r,hr|h]:=List.mem_flatMap.mp h;let%[c',hc'|1]:=List.mem_map.mp h;let hr:=List.mem_range.mp hr;let%[l|o]:=oi k c' hc';erw[by rw[zM0,l],λx hx=>?_];rcases zS0 hx with e | e
   . subst e;omega
   . exact o x e
def tL{p:Nat}(hp:0<p):∀k,(jk p k).head?=some (List.replicate k 0)
 |0=>rfl
 |k+1=>by
   obtain⟨q,rfl⟩:∃q,p=q+1:=%[p-1|3]
   unfold jk;rw[List.range_succ_eq_map,List.flatMap_cons,List.head?_append,List.head?_map,tL hp k];rfl
def wT:∀k,(jk p k).length=p ^ k
 |0=>rfl
 |k+1=>by
   unfold jk;rw[List.length_flatMap]
   have:((List.range p).map λa:Nat=>((jk p k).map ((a:Int)::·)).length)=List.replicate p (p ^ k):=by
    rw[List.eq_replicate_iff];erw[by simp,λb hb=>?_];let%[a,_|1]:=List.mem_map.mp hb;rw[zF0,wT k]
   rw[this,List.sum_replicate_nat,Nat.pow_succ,Nat.mul_comm]
def kg(L:List (List Int))(b:List Int->Bool)(cs:List Int):Int×Option (List Int):=(((L.filter b).length:Int),((L.filter λc=>!b c).head?).map (cs++·))
def mi{L:List (List Int)}{b b':List Int->Bool}(h:∀c∈L,b c=b' c):kg L b cs=kg L b' cs:=by
 unfold kg;let e1:L.filter b=L.filter b':=List.filter_congr h;let e2:(L.filter λc=>!b c)=L.filter λc=>!b' c:=List.filter_congr λc hc=>by rw[h c hc]
 rw[e1,e2]
def BV{L M:List (List Int)}:kg (L++M) b cs=((kg L b cs).1+(kg M b cs).1,(kg L b cs).2.or (kg M b cs).2):=by
 unfold kg;rw[wF0,wF0,zK0,List.head?_append,jM0]
 congr 1
 cases(List.filter (λc=>!b c) L).head? <;> rfl
def BU{L:List (List Int)}{r:Int}:kg (L.map (r::·)) b cs=kg L (λc=>b (r::c)) (cs++[r]):=by
 unfold kg;rw[List.filter_map,List.filter_map,zF0,List.head?_map]
 congr 1
 show Option.map _ (Option.map _ _)=_;rw[Option.map_map]
 congr 1
 funext c
 show cs++(r::c)=(cs++[r])++c;rw[wH1];rfl
def tt{p j:Nat}{f:Int->Int×Option (List Int)}{b:List Int->Bool}{cs:List Int}(h:∀r:Nat,r<p->f (r:Int)=kg (jk p j) (λc=>b ((r:Int)::c)) (cs++[(r:Int)])):∀k,k<=p->jx f k=kg ((List.range k).flatMap λr:Nat=>(jk p j).map ((r:Int)::·)) b cs
 |0,_=>rfl
 |k+1,hk=>by
   show((jx f k).1+(f (k:Int)).1,(jx f k).2.or (f (k:Int)).2)=_;rw[tt h k #[0],h k #[0],jA0,List.flatMap_append,BV,List.flatMap_singleton,BU]
section
variable {ns:List Str}{ts:List Tr}{p:Int}{t:Tk}{rows:List Hr}
def Bv(z:Db):cv ns z<=2*ns.length+1:=by
 unfold cv
 split
 . omega
 . split
   . split <;> omega
   . omega
def AG(h:cR cs p)(p0:0<p):0<=cs.headD 0/\cs.headD 0<p:=by
 cases cs with
 |nil=>erw[qC1 0,p0]
 |cons a r=>exact h a (qB0 ..)
def Ev(h:cR cs p):cR cs.tail p:=λx hx=>h x (List.mem_of_mem_tail hx)
def lP(k:GmK ns ts p)(n6:ns.length<=6):∀(n:Nat)(t:Tk)(cs:List Int),TkOk ns ts p t->cR cs p->cv ns t.z<=n->(eA ns ts p rows cs (n+1) t).2=(eA ns ts p rows cs n t).2
 |0,t,cs,h,hc,hs=>by
   let h1:¬ t.z.aw.1="hear":=λz=>by have:=(kU h (.inl z)).1;omega
   let h2:¬ t.z.aw.1="coin":=λz=>by have:=(kU h (.inr z)).1;omega
   rw[ig h1 h2,ig h1 h2]
 |n+1,t,cs,h,hc,hs=>by
   let p2:=k.p2
   by_cases ch:t.z.aw.1="hear"
   . rw[lQ ch,lQ ch];let%[o,s|_]:=h.ask (rows:=rows) k n6 ch;exact lP k n6 n _ cs o hc #[0]
   . by_cases cc:t.z.aw.1="coin"
     . rw[lR cc,lR cc];let%[r0|r1]:=AG hc #[0];let%[o,s|_]:=h.toss k cc r0 r1;exact lP k n6 n _ cs.tail o (Ev hc) #[0]
     . rw[ig ch cc,ig ch cc]
def qo(k:GmK ns ts p)(n6:ns.length<=6)(h:TkOk ns ts p t)(hc:cR cs p){n:Nat}(hs:cv ns t.z<=n):∀m,(eA ns ts p rows cs (n+m) t).2=(eA ns ts p rows cs n t).2
 |0=>rfl
 |m+1=>by rw[←Nat.add_assoc,lP k n6 _ _ _ h hc #[0],qo k n6 h hc hs m]
def vy(k:GmK ns ts p)(n6:ns.length<=6)(h:TkOk ns ts p t)(hc:cR cs p){n m:Nat}(hn:13<=n)(hm:13<=m):(eA ns ts p rows cs n t).2=(eA ns ts p rows cs m t).2:=by
 have:=Bv (ns:=ns) t.z
 obtain⟨a,rfl⟩:∃a,n=13+a:=%[n-13|3]
 obtain⟨b,rfl⟩:∃b,m=13+b:=%[m-13|3]
 rw[qo k n6 h hc #[0],qo k n6 h hc #[0]]
def mx(k:GmK ns ts p)(n6:ns.length<=6)(h:TkOk ns ts p t)(hc:cR cs p){n m:Nat}(hn:14<=n)(hm:14<=m):(eA ns ts p rows cs n t).2=(eA ns ts p rows cs m (settle ns ts p rows 2 t)).2:=by
 by_cases ch:t.z.aw.1="hear"
 . let%[o,s,_|o4]:=h.ask (rows:=rows) k n6 ch;let e:settle ns ts p rows 2 t=t.ask ns ts p rows:=(Mt ch).trans (de o4 1);rw[e];obtain⟨a,rfl⟩:∃a,n=a+1:=%[n-1|3]
   rw[lQ ch];exact vy k n6 o hc #[0] #[0]
 . rw[de ch];exact vy k n6 h hc #[0] #[0]
structure Lf(ns:List Str)(t:Tk)(j:Nat):Prop where
 hc:t.z.aw.1="hear"∨t.z.aw.1="coin" -> cg ns t.z=j
 be:t.z.aw.1="believed" -> j=0
def ne_w5:¬ (("believed":Str)="hear"):=by decide
def FR:¬ (("coin":Str)="believed"):=by decide
def FQ:¬ (("caught":Str)="believed"):=by decide
def ne_w8:¬ (("hear":Str)="believed"):=by decide
def CP:¬ (("caught":Str)="coin"):=by decide
def vf(z:Db)(tl:z.to.length<=ns.length)(bx:Str->Int)(nr:Int):Lf ns %[goOn ns ts p z,bx|nr] (ns.length-z.to.length):=by
 unfold goOn
 by_cases c:z.to.length<ns.length
 . rw[Mt c];erw[λ_=>Mt rfl,λh=>absurd h ne_w8]
 . rw [Mq c];unfold eW
   by_cases e:z.ed=hor z.s p (ts.map λt=>t.worth ns z.to p)
   . rw[Mt e];erw[λh=>h.elim (λh=>absurd h ne_w5) (λh=>absurd h CQ),λ_=>(by show ns.length-z.to.length=0;omega)]
   . rw[Mq e];erw[λh=>h.elim (λh=>absurd h yZ) (λh=>absurd h CP),λh=>absurd h FQ]
def Lf.ask(k:GmK ns ts p)(n6:ns.length<=6){j:Nat}(h:TkOk ns ts p t)(l:Lf ns t j)(hw:t.z.aw.1="hear"):Lf ns (t.ask ns ts p rows) j:=by
 let ho:=h.hear (rows:=rows) k n6 hw;let x0:=h.gd.hear_ne k ho;let e:dC ns ts p (t.said ns ts p rows) t.z=eB p (t.said ns ts p rows) { t.z with pl:=t.z.pl+((t.said ns ts p rows).length:Int) }:=Mq h.cl;let l1:=l.hc (.inl hw);let s2:cg ns t.z=ns.length-t.z.to.length:=Mt hw;let ez:(t.ask ns ts p rows).z=eB p (t.said ns ts p rows) { t.z with pl:=t.z.pl+((t.said ns ts p rows).length:Int) }:=e;erw[λhh=>?_,λhh=>?_]
 . rw [ez]at hh ⊢;unfold eB at hh ⊢
   by_cases c:(val p (t.said ns ts p rows) 0+val p (t.said ns ts p rows) 1) % p=t.z.ed
   . rw[Mt c];show(if(("coin":Str)="hear")then _ else if(("coin":Str)="coin")then(if t.said ns ts p rows=[]then _ else _)else _)=j;rw[Mq ke,Mt rfl,Mq x0];show ns.length-t.z.to.length=j;omega
   . rw[Mq c]at hh;exact hh.elim (λh=>absurd h yZ) (λh=>absurd h CP)
 . rw [ez]at hh;unfold eB at hh
   by_cases c:(val p (t.said ns ts p rows) 0+val p (t.said ns ts p rows) 1) % p=t.z.ed
   . rw[Mt c]at hh;exact absurd hh FR
   . rw[Mq c]at hh;exact absurd hh FQ
def Lf.settle(k:GmK ns ts p)(n6:ns.length<=6)(h:TkOk ns ts p t)(l:Lf ns t j):Lf ns (settle ns ts p rows 2 t) j:=by
 by_cases ch:t.z.aw.1="hear"
 . let%[o,s,_|o4]:=h.ask (rows:=rows) k n6 ch;let e:Mine.settle ns ts p rows 2 t=t.ask ns ts p rows:=(Mt ch).trans (de o4 1);rw[e];exact l.ask k n6 h ch
 . rw[de ch];exact l
def Lf.toss(h:TkOk ns ts p t){j:Nat}(l:Lf ns t (j+1))(hw:t.z.aw.1="coin")(r:Int):Lf ns (t.toss ns ts p r) j:=by
 let nh:¬ t.z.aw.1="hear":=by rw[hw];exact ke
 let s2:cg ns t.z=if t.z.he=[]then ns.length+1 else ns.length-t.z.to.length:=by unfold cg;rw[Mq nh,Mt hw]
 let l1:=l.hc (.inr hw)
 by_cases c:t.z.he=[]
 . let et:=h.fi hw c;rw[Mt c]at s2;let e:t.toss ns ts p r=%[goOn ns ts p { t.z with pl:=t.z.pl+1,s:=r,ed:=hor r p t.z.cl },t.bx|t.nr]:=by
    unfold Tk.toss dJ wP;rw[Mt c]
   rw[e]
   have:=vf (ns:=ns) (ts:=ts) (p:=p) { t.z with pl:=t.z.pl+1,s:=r,ed:=hor r p t.z.cl } h.gd.tl t.bx t.nr
   let ej:ns.length-t.z.to.length=j:=by rw[et,zI1];omega
   rw[←ej];exact this
 . let tl:=((h.gd.co hw).2 c).2;rw[Mq c]at s2;let e:t.toss ns ts p r=%[goOn ns ts p { t.z with pl:=t.z.pl+1,ed:=val p t.z.he r,to:=t.z.to++[r] },t.bx|t.nr]:=by
    unfold Tk.toss dJ;rw[Mq c]
   rw[e];let el:(t.z.to++[r]).length=t.z.to.length+1:=by rw[zK0];rfl
   have:=vf (ns:=ns) (ts:=ts) (p:=p) { t.z with pl:=t.z.pl+1,ed:=val p t.z.he r,to:=t.z.to++[r] } (by show(t.z.to++[r]).length<=_;omega) t.bx t.nr
   let ej:ns.length-(t.z.to++[r]).length=j:=#[0]
   rw[←ej];exact this
def Lf.new(k:GmK ns ts p):Lf ns ‹Tk.a› (bq ns ts):=by
 let e0:dC ns ts p ‹Tk.s› (Db.new ts)=lI ns ts p ‹Tk.s› { Db.new ts with pl:=(Db.new ts).pl+(‹Tk.s›.length:Int) }:=Mt rfl
 by_cases c:ts.length=1
 . let e:(Tk.new ts).ask ns ts p rows=%[goOn ns ts p { Db.new ts with pl:=(Db.new ts).pl+(‹Tk.s›.length:Int),cl:=‹Tk.s›,s:=0,ed:=hor 0 p ‹Tk.s› },((Tk.new ts).run ns ts p rows).bx|(Tk.new ts).nr+1]:=by
    unfold Tk.ask
    congr 1
    exact e0.trans (Mt c)
   rw[e];let ej:bq ns ts=ns.length-([]:List Int).length:=Mt c;rw[ej];exact vf _ (zT0 _) _ _
 . let ez:‹Tk.a›.z={ Db.new ts with pl:=(Db.new ts).pl+(‹Tk.s›.length:Int),cl:=‹Tk.s›,aw:=("coin",none) }:=e0.trans (Mq c);let ej:bq ns ts=ns.length+1:=Mq c;erw[λ_=>?_,λh=>?_]
   . rw[ez,ej];show(if(("coin":Str)="hear")then _ else if(("coin":Str)="coin")then(if([]:List Int)=[]then ns.length+1 else _)else 0)=_;rw[Mq ke,Mt rfl,Mt rfl]
   . rw[ez]at h;exact absurd h FR
def yG(ns:List Str)(ts:List Tr)(p:Int)(rows:List Hr)(t:Tk)(c:List Int):Bool:=decide ((eA ns ts p rows c 20 t).2.z.aw.1="believed")
def sN(k:GmK ns ts p)(n6:ns.length<=6){cn:Nat}:∀(d j:Nat) (t:Tk) (cs:List Int),TkOk ns ts p (settle ns ts p rows 2 t)->¬ (settle ns ts p rows 2 t).z.aw.1="hear" -> Lf ns (settle ns ts p rows 2 t) j->j<d->cs.length+j=cn ->
 fo ns ts p rows cn d t cs=kg (jk p.toNat j) (yG ns ts p rows (settle ns ts p rows 2 t)) cs
 |0,j,_,_,_,_,_,hd,_=>absurd hd (Nat.not_lt_zero _)
 |d+1,j,t,cs,ok,no,lf,hd,hl=>by
   let p2:=k.p2;let ep:(p.toNat:Int)=p:=#[0]
   show(if(settle ns ts p rows 2 t).z.aw.1="believed" then _ else if(settle ns ts p rows 2 t).z.aw.1="caught" then _ else _)=_;generalize settle ns ts p rows 2 t=u at ok no lf
   by_cases cb:u.z.aw.1="believed"
   . rw [Mt cb];let e0:=lf.be cb;subst e0;let e1:yG ns ts p rows u []=true:=by
      unfold yG;rw[ig no (by rw[cb];exact CQ)];exact zD1 cb
     unfold kg jk;rw[List.filter_cons_of_pos e1,List.filter_cons_of_neg (by rw[e1];decide)];rfl
   . rw [Mq cb]
     by_cases cc:u.z.aw.1="caught"
     . rw [Mt cc];let e1:∀c∈jk p.toNat j,yG ns ts p rows u c=false:=λc _=>by
        unfold yG;rw[ig no (by rw[cc];exact CP)];exact zE1 cb
       rw[mi (b':=λ_=>false) e1];unfold kg;let e2:(jk p.toNat j).filter (λ_=>false)=[]:=List.filter_eq_nil_iff.mpr λ_ _=>by decide
       let e3:(jk p.toNat j).filter (λc=>!((λ_=>false) c))=jk p.toNat j:=List.filter_eq_self.mpr λ_ _=>rfl
       rw[e2,e3,tL #[0]];show(0,some (cs++List.replicate (cn-cs.length) 0))=((([]:List (List Int)).length:Int),some (cs++List.replicate j 0))
       rw[show cn-cs.length=j by omega];rfl
     . rw [Mq cc];let co:=wQ ok no cb cc;let cp:=(kU ok (.inr co)).2 co;obtain⟨i,rfl⟩:∃i,j=i+1:=%[j-1|by have:=lf.hc (.inr co);omega]
       apply tt (p:=p.toNat) (j:=i) (λr hr=>?_) p.toNat (zH0 _);let r0:(0:Int)<=(r:Int):=jM1 r;let r1:(r:Int)<p:=#[0]
       let%[ok3|_]:=ok.toss k co r0 r1;let%[ok4,_|no4]:=kY (rows:=rows) k n6 ok3;rw[sN k n6 d i _ (cs++[(r:Int)]) ok4 no4 ((lf.toss ok co (r:Int)).settle k n6 ok3) #[0] (by rw[zK0,qL0];omega)];apply mi λc hc=>?_
       let po:cR c p:=by
        have:=(oi _ _ hc).2
        rwa [ep]at this
       unfold yG;rw[←mx (n:=19) k n6 ok3 po ⋯ ⋯,lR (n:=19) co];rfl
def zu(k:GmK ns ts p)(n6:ns.length<=6):fo ns ts p rows (bq ns ts) 8 (Tk.new ts) []=kg (jk p.toNat (bq ns ts)) (λc=>decide ((Bn ns ts p rows c).2.z.aw.1="believed")) []:=by
 let%[o1,_|no1]:=jD (rows:=rows) k n6;let%[o2|_]:=uU (rows:=rows) k n6;let c7:=kP (ts:=ts) n6;let ep:(p.toNat:Int)=p:=by have:=k.p2;omega
 let e:settle ns ts p rows 2 (Tk.new ts)=settle ns ts p rows 1 ‹Tk.a›:=Mt rfl;let e2:settle ns ts p rows 2 (Tk.new ts)=settle ns ts p rows 2 ‹Tk.a›:=by
  rw[e]
  by_cases c:‹Tk.a›.z.aw.1="hear"
  . let n4:=(o2.ask (rows:=rows) k n6 c).2.2.2;show(if _ then _ else _)=(if _ then _ else _)
    rw[Mt c,Mt c,de n4,de n4]
  . rw[de c,de c]
 let lf:=(Lf.new (rows:=rows) k).settle (rows:=rows) k n6 o2;rw[←e2]at lf;rw[sN k n6 8 (bq ns ts) (Tk.new ts) [] o1 no1 lf #[0] (Nat.zero_add _)];apply mi λc hc=>?_
 let po:cR c p:=by
  have:=(oi _ _ hc).2
  rwa [ep]at this
 unfold yG;rw[e2,←mx (n:=20) k n6 o2 po ⋯ ⋯];rfl
end
def at1(x y:V)(xs:List V):atI (x::y::xs) 1=some y:=cK (j:=1) rfl
def at2(x y z:V)(xs:List V):atI (x::y::z::xs) 2=some z:=cK (j:=2) rfl
def Tm.ok:Tm->Prop
 |.num n=>0<=n/\n<1000000000000 | .box x=>NmK x | .plain w=>w∈plainW | .ask w a=>w∈askW/\a.ok | .op s a b=>s∈signW/\a.ok/\b.ok
def Tm.fit(m:Nat)(t:Tm):Prop:=t.ok/\t.size<=m/\t.depth<=8
def Hr.ok(m:Nat):Hr->Prop
 |.fin=>True | .go n=>0<=n/\n<1000000000000 | .iff t n=>t.fit m/\0<=n/\n<1000000000000 | .set x t=>NmK x/\t.fit m | .say t=>t.fit m
def LET:Str:="abcdefghijklmnopqrstuvwxyz"
def ENDS:Str:=" ()"
def isIn(L:Str)(c:Nat):Bool:=!(Builtin.Str.occurrences L %[|#[c]] 0 L.length 1).isEmpty
def iI(z:Str):Bool:=decide (1<=z.length)&&decide (z.length<=6)&&!inV (.str z) (kept.map V.str)&&z.cps.toList.all (isIn LET)
def FIG:Str:="0123456789"
def kN(z:Str):Bool:=decide (1<=z.length)&&decide (z.length<=12)&&!(decide (1<z.length)&&Txt.startswith z "0")&&z.cps.toList.all (isIn FIG)
def vB{z:Str}{c:Nat}(h:z.cps.toList[0]?=some c):Txt.startswith z "0"=decide (V.str %[|#[c]]=V.str "0"):=by
 let q:=StrLaws.subAt_one z 48 0;let e0:("0":Str)=%[|#[48]]:=by decide
 unfold Txt.startswith;rw[e0]
 by_cases hc:c=48
 . subst hc
   have:=q.mpr h
   rw[show decide (V.str (%[|#[48]]:Str)=V.str ⟨#[48]⟩)=true from zD1 rfl];simp only[qN1,decide_eq_true_eq];exact this
 . let hne:¬ (V.str (%[|#[c]]:Str)=V.str ⟨#[48]⟩):=λe=>hc (by
    have:=V.str.inj e
    injection this with this
    simpa using this)
   rw[show decide (V.str (%[|#[c]]:Str)=V.str ⟨#[48]⟩)=false from zE1 hne];rw[Bool.eq_false_iff];intro e;simp only[qN1,decide_eq_true_eq]at e
   have:=q.mp e
   rw[h]at this;exact hc (zV0 this)
instance spTxt(fB:Str->Bool):∀z:Str,vs=[.str z]->z.length<=1000->(∀H',Same H H'->Q (.bl (fB z)) H'):=1
structure Tx(K:W.Frag)(mg:#[9]):Prop where
 letters:∃t,mg "LETTERS"=some (.str LET t)
 longest:∃t,mg "LONGEST_NAME"=some (.int 6 t)
 keptW:∃a,mg "KEPT_WORDS"=some (.ref a)/\∀H,SqT K H a (kept.map V.str)
 ends:∃t,mg "WORD_ENDS"=some (.str ENDS t)
 within:∃t,mg "MOST_WITHIN_helptexts"=some (.int 8 t)
 parts:∃t,mg "MOST_PARTS_helptexts"=some (.int 20 t)
 figures:∃t,mg "FIGURES"=some (.str FIG t)
 most:∃t,mg "MOST_FIGURES"=some (.int 12 t)
 rows:∃t,mg "MOST_ROWS_helptexts"=some (.int 60 t)
 signs:∃a,mg "SIGNS"=some (.ref a)/\∀H,SqT K H a (signW.map V.str)
 asking:∃a,mg "ASKING_WORDS"=some (.ref a)/\∀H,SqT K H a (askW.map V.str)
 plain:∃a,mg "PLAIN_WORDS"=some (.ref a)/\∀H,SqT K H a (plainW.map V.str)
 gwithin:∃t,mg "MOST_WITHIN_reader"=some (.int 10 t)
 gparts:∃t,mg "MOST_PARTS_reader"=some (.int 30 t)
 switches:∃t,mg "MOST_SWITCHES"=some (.int 6 t)
 trees:∃t,mg "MOST_TREES"=some (.int 4 t)
 fhead:∃t,mg "FIELD_HEAD"=some (.str "field " t)
 thead:∃t,mg "TREE_HEAD"=some (.str "holds " t)
 first:∃t,mg "FIRST_TREE_ROW"=some (.int 2 t)
 joining:∃a,mg "JOINING_WORDS"=some (.ref a)/\∀H,SqT K H a (joinW.map V.str)
def rG(z:Str):z.cps.size=z.length:=rfl
def gt:bootBuiltins "str"=some (.type "str"):=by decide
def xu:FnScope WC WC (ag oz):=%[|5]
def xS(F:#["is_name",oz])(B:Bl mg)(T:Tx K mg):#[1,f,fd,WC,spTxt iI]:=by
 exists xu
 erw[z,1,hz,q]at h;erw[t1,g1]at T.letters;erw[t3,g3]at T.longest;erw[ka,g5,hk]at T.keptW;refine⟨_,(aa (aF (PW.pt (eF (af dM (aE cz rfl B.len zC1 %[0|bc]) ad (ao _)) (eF (af fO (aE cz rfl B.len zC1 %[0|bc]) (bQ (v:=.int 6) rfl g3 ⟨_,rfl⟩) (ao _)) (dZ (af gg (pv 0) (bQ (v:=.ref ka) rfl g5 rfl) (by rfl')))))) (ac (aj ju)) ax)
  (ac (aj (aE (og rfl) rfl B.all jF0 (ae (cJ (N:=[]) (ix:=[]) (cl:=[]) rfl #[5] rfl (Cd (pv 0))
   (λ_ _ _=>du (iT sU (pv 0) (bQ (v:=.str LET) rfl g1 %[|0]) (by rfl')))) bc))))),?_⟩
 let fls:iI z=false->Q (.bl false) H:=λe=>by
  have:=q H (Same.refl H)
  rw[e]at this;exact this
 erw[0,z,1,aV hz,2,0,6]
 by_cases c1:(z.length:Int)<1
 . apply aU c1 (ee ?_);exact fls (by unfold iI;rw[zE1 (show ¬ 1<=z.length by omega)];rfl)
 apply ay c1 ?_;erw[0,z,1,aV hz,2,0,6]
 by_cases c2:(6:Int)<(z.length:Int)
 . apply aU c2 (ee ?_);exact fls (by unfold iI;rw[zE1 (show ¬ z.length<=6 by omega)];simp)
 apply ay c2 ?_;erw[0,ka,0,.inr (hk _),1,⋯,0,6];cases c3:inV (.str z) (kept.map V.str)with
 |true=>
   apply ee ?_;exact fls (by unfold iI;rw[c3];simp)
 |false=>
   apply cV ?_;erw[0,z,1,λD hD=>?_];apply rW (z:=z) (λi H'=>H' D=some (.lst (((z.cps.toList.take i).map (isIn LET)).map V.bl))/\Same H H') %[by rw[bh];rfl|zC0 hD _] ?_ ?_
   . rintro i c H' hc ⟨hl,s0⟩;let hi:i<z.cps.size:=(Array.getElem?_eq_some_iff.mp hc).1;rw[rG]at hi;erw[0,2,_,hl,6,Nx.of hi %[6|6]]
     . rw[zF0,zF0,qE0];exact aO #[0]
     . rw [bh];let ec:z.cps.toList[i]?=some c:=#[hc,0]
       rw[qJ0,ec,zL0,zL0];rfl
     . intro b o e;rw[aB (bi e hD)];exact s0 b o e
   . rintro H' ⟨hl,s0⟩;rw[show z.cps.toList.take z.cps.size=z.cps.toList by rw[←zU1];exact qF0]at hl;erw[D,0,zG0 hl,6];let e:iI z=(z.cps.toList.map (isIn LET)).all id:=by
      unfold iI;rw[c3,zD1 (show 1<=z.length by omega),zD1 (show z.length<=6 by omega),List.all_map];rfl
     rw[←e];exact q H' s0
def sy:FnScope WC WC (ag jN):=%[|5]
def sG(F:#["is_figures",jN])(B:Bl mg)(T:Tx K mg):#[1,f,fd,WC,spTxt kN]:=by
 exists sy
 erw[z,1,hz,q]at h;erw[t1,g1]at T.figures;erw[t3,g3]at T.most;refine⟨_,(aa (aF (PW.pt (eF (af dM (aE cz rfl B.len zC1 %[0|bc]) ad (ao _)) (dZ (af fO (aE cz rfl B.len zC1 %[0|bc]) (bQ (v:=.int 12) rfl g3 ⟨_,rfl⟩) (ao _))))) (ac (aj ju)) ax)
  (aa (aF (PW.pt (oF (af fO (aE cz rfl B.len zC1 %[0|bc]) ad (ao _)) (ng (dN (cA zH1 qS1 qT1 jh (pv 0) %[aq|bc]))))) (ac (aj ju)) ax)
  (ac (aj (aE (og rfl) rfl B.all jF0 (ae (cJ (N:=[]) (ix:=[]) (cl:=[]) rfl #[5] rfl (Cd (pv 0))
   (λ_ _ _=>du (iT sU (pv 0) (bQ (v:=.str FIG) rfl g1 %[|0]) (by rfl')))) bc)))))),?_⟩
 let fls:kN z=false->Q (.bl false) H:=λe=>by
  have:=q H (Same.refl H)
  rw[e]at this;exact this
 erw[0,z,1,aV hz,2,0,6]
 by_cases c1:(z.length:Int)<1
 . apply aU c1 (ee ?_);exact fls (by unfold kN;rw[zE1 (show ¬ 1<=z.length by omega)];rfl)
 apply ay c1 ?_;erw[0,z,1,aV hz,2,0,6]
 by_cases c2:(12:Int)<(z.length:Int)
 . apply aU c2 ?_;exact fls (by unfold kN;rw[zE1 (show ¬ z.length<=12 by omega)];simp)
 apply ay c2 ?_;erw[0,z,1,aV hz,2,0,6]
 by_cases c4:(1:Int)<(z.length:Int)
 . apply aU c4 ?_;erw[0,1,z,0,1,0,6];cases c5:Txt.startswith z "0" with
   |true=>
     apply ee ?_;exact fls (by unfold kN;rw[c5,zD1 (show 1<z.length by omega)];simp)
   |false=>
     apply cV ?_;let c3:(decide (1<z.length)&&Txt.startswith z "0")=false:=by rw[c5];simp
     erw[0,z,1,λD hD=>?_];apply rW (z:=z) (λi H'=>H' D=some (.lst (((z.cps.toList.take i).map (isIn FIG)).map V.bl))/\Same H H') %[by rw[bh];rfl|zC0 hD _] ?_ ?_
     . rintro i c H' hc ⟨hl,s0⟩;let hi:i<z.cps.size:=(Array.getElem?_eq_some_iff.mp hc).1;rw[rG]at hi;erw[0,2,_,hl,6,Nx.of hi %[6|6]]
       . rw[zF0,zF0,qE0];exact aO #[0]
       . rw [bh];let ec:z.cps.toList[i]?=some c:=#[hc,0]
         rw[qJ0,ec,zL0,zL0];rfl
       . intro b o e;rw[aB (bi e hD)];exact s0 b o e
     . rintro H' ⟨hl,s0⟩;rw[show z.cps.toList.take z.cps.size=z.cps.toList by rw[←zU1];exact qF0]at hl;erw[D,0,zG0 hl,6];let e:kN z=(z.cps.toList.map (isIn FIG)).all id:=by
        unfold kN;rw[c3,zD1 (show 1<=z.length by omega),zD1 (show z.length<=12 by omega),List.all_map];rfl
       rw[←e];exact q H' s0
 . apply ay c4 ?_;apply cV ?_;let c3:(decide (1<z.length)&&Txt.startswith z "0")=false:=by rw[zE1 (show ¬ 1<z.length by omega)];rfl
   erw[0,z,1,λD hD=>?_];apply rW (z:=z) (λi H'=>H' D=some (.lst (((z.cps.toList.take i).map (isIn FIG)).map V.bl))/\Same H H') %[by rw[bh];rfl|zC0 hD _] ?_ ?_
   . rintro i c H' hc ⟨hl,s0⟩;let hi:i<z.cps.size:=(Array.getElem?_eq_some_iff.mp hc).1;rw[rG]at hi;erw[0,2,_,hl,6,Nx.of hi %[6|6]]
     . rw[zF0,zF0,qE0];exact aO #[0]
     . rw [bh];let ec:z.cps.toList[i]?=some c:=#[hc,0]
       rw[qJ0,ec,zL0,zL0];rfl
     . intro b o e;rw[aB (bi e hD)];exact s0 b o e
   . rintro H' ⟨hl,s0⟩;rw[show z.cps.toList.take z.cps.size=z.cps.toList by rw[←zU1];exact qF0]at hl;erw[D,0,zG0 hl,6];let e:kN z=(z.cps.toList.map (isIn FIG)).all id:=by
      unfold kN;rw[c3,zD1 (show 1<=z.length by omega),zD1 (show z.length<=12 by omega),List.all_map];rfl
     rw[←e];exact q H' s0
def Hf:∀c:Fin 26,isIn LET (97+c.val)=true:=by decide
def Fm:∀c:Fin 26,isIn ENDS (97+c.val)=false:=by decide
def ends_in:isIn ENDS 32=true/\isIn ENDS 40=true/\isIn ENDS 41=true:=by decide
def Du{c:Nat}(h:97<=c/\c<=122):isIn LET c=true:=by
 have:=Hf %[c-97|3]
 rwa [show 97+(%[c-97|3]:Fin 26).val=c by show 97+(c-97)=c;omega]at this
def oR{c:Nat}(h:97<=c/\c<=122):isIn ENDS c=false:=by
 have:=Fm %[c-97|3]
 rwa [show 97+(%[c-97|3]:Fin 26).val=c by show 97+(c-97)=c;omega]at this
def qb(h:NmK x):iI x=true:=by
 erw[%[_,hl|_],h1,h6,hk]at h;unfold iI;rw[eX,zD1 h1,zD1 h6,zE1 hk];simp only[Bool.and_self,Bool.not_false,Bool.true_and];rw[wM0];exact λc hc=>Du (hl c hc)
def stl(l:List Nat):Str:=%[|l.toArray]
def eI{a b:Str}(h:a.cps.toList=b.cps.toList):a=b:=by
 cases a with
 |mk x=>
   cases b with
   |mk y=>
     have:x=y:=Array.toList_inj.mp h
     rw[this]
def gQ(x:Str):stl x.cps.toList=x:=rfl
def tP(l:List Nat):(stl l).length=l.length:=by
 show l.toArray.size=_
 simp
def ci(a b:Str):(a++b).cps.toList=a.cps.toList++b.cps.toList:=by simp [jC0]
def jU:(("(":Str)).cps.toList=[40]:=by decide
def oP:((")":Str)).cps.toList=[41]:=by decide
def gi:((" ":Str)).cps.toList=[32]:=by decide
def Bu{a b:Str}(h:V.str a=V.str b):a=b:=V.str.inj h
def eU{a b:Str}(h:a≠b):¬ V.str a=V.str b:=λz=>h (Bu z)
def jn(c:Nat):List (List Nat)->List Nat
 | []=>[]
 | [a]=>a
 |a::b::r=>a++c::jn c (b::r)
def DV{c:Nat}:∀{a b x y:List Nat},c∉a->c∉b->a++c::x=b++c::y->a=b/\x=y
 | [],[],_,_,_,_,h=>%[1|(List.cons.inj h).2]
 | [],d::b,x,y,_,hb,h=>by
   have:=(List.cons.inj h).1
   exact absurd (by rw[this];exact qB0) hb
 |d::a,[],x,y,ha,_,h=>by
   have:=(List.cons.inj h).1
   exact absurd (by rw[←this];exact qB0) ha
 |d::a,e::b,x,y,ha,hb,h=>by
   let h':=List.cons.inj h;let r:=DV (λz=>ha (qK0 _ z)) (λz=>hb (qK0 _ z)) h'.2;erw[by rw[h'.1,r.1],r.2]
def Ds{c:Nat}:∀{l m:List (List Nat)},l≠[]->m≠[]->(∀a∈l,c∉a)->(∀a∈m,c∉a)->jn c l=jn c m->l=m
 | [],_,h,_,_,_,_=>absurd rfl h
 |_::_,[],_,h,_,_,_=>absurd rfl h
 | [a],[b],_,_,_,_,h=>congrArg (λz=>[z]) h
 | [a],b::d::r,_,_,hl,_,h=>by
   have:c∈a:=by
    rw[show a=b++c::jn c (d::r)from h]
    simp
   exact absurd this (hl a qB0)
 |a::d::r,[b],_,_,_,hm,h=>by
   have:c∈b:=by
    rw[show b=a++c::jn c (d::r)from h.symm]
    simp
   exact absurd this (hm b qB0)
 |a::d::r,b::e::s,_,_,hl,hm,h=>by
   let q:=DV (hl a qB0) (hm b qB0) (show a++c::jn c (d::r)=b++c::jn c (e::s)from h)
   have:=Ds #[2] #[2] (λz hz=>hl z (qK0 _ hz)) (λz hz=>hm z (qK0 _ hz)) q.2
   rw[q.1,this]
def cd(x:Str):List Nat:=x.cps.toList
def yB(h:cd x=cd y):x=y:=by
 have:x.cps=y.cps:=Array.toList_inj.mp h
 cases x;cases y;exact congrArg Str.mk this
def gq(x y:Str):cd (x++y)=cd x++cd y:=by
 unfold cd;rw[jC0]
 simp
def iW(c:Nat):∀ps:List Str,cd (Str.join %[|#[c]] ps)=jn c (ps.map cd)
 | []=>rfl
 | [a]=>rfl
 |a::b::r=>by
   show cd (a++%[|#[c]]++Str.join ⟨#[c]⟩ (b::r))=cd a++c::jn c ((b::r).map cd);rw[gq,gq,iW c (b::r)]
   simp [cd]
def nQ(sep:Str):∀ps:List Str,Txt.join sep ps=Str.join sep ps
 | []=>rfl
 |a::r=>StrLaws.glued_cons sep r a
def xg(x y:Str):Txt.split x y≠[]:=by
 unfold Txt.split
 split
 . exact jT1 _ _
 . split
   . exact jT1 _ _
   . intro h
     have:=length_partsBetween x (Builtin.Str.occurrences x y 0 x.length (x.length+1)) y.length
     rw[h]at this
     simp at this
def rF:∀{l m:List Str},l.map cd=m.map cd->l=m
 | [],[],_=>rfl
 | [],_::_,h=>by simp at h
 |_::_,[],h=>by simp at h
 |a::l,b::m,h=>by
   let h':=List.cons.inj h;rw[yB h'.1,rF h'.2]
def lT{c:Nat}{ps:List Str}(h0:ps≠[])(hf:∀p∈ps,c∉cd p):Txt.split (Str.join %[|#[c]] ps) ⟨#[c]⟩=ps:=by
 apply rF ?_;apply Ds (c:=c) (λh=>xg _ _ (List.map_eq_nil_iff.mp h)) (λh=>h0 (List.map_eq_nil_iff.mp h)) ?_ ?_ ?_
 . intro a ha;let%[p,hp|1]:=List.mem_map.mp ha;exact StrLaws.split_free _ c p hp
 . intro a ha;let%[p,hp|1]:=List.mem_map.mp ha;exact hf p hp
 . rw[←iW,←iW,StrLaws.join_split]
def bJ(n:Int):Str:=toString n
def uT(m:Nat):cd (bJ (m:Int))=(Nat.toDigits 10 m).map Char.toNat:=PySem.W.KIN.signs_num m
def jS{n:Int}(h0:0<=n):∀c∈cd (bJ n),48<=c/\c<=57:=by
 let%[m|1]:=qF1 h0;intro c hc;rw[uT]at hc;let%[ch,hch|e]:=List.mem_map.mp hc;rw[←e];exact PyProof.Rows.digit_range (Nat.isDigit_of_mem_toDigits ⋯ ⋯ hch)
def CJ{n:Int}(h0:0<=n):cd (bJ n)≠[]:=by
 let%[m|1]:=qF1 h0;rw[uT];intro e;let h:=PySem.toDigits_len_ge 10 m;rw[List.map_eq_nil_iff.mp e]at h;exact absurd h ⋯
def gH{n:Int}(h0:0<=n)(h1:n<1000000000000):(bJ n).length<=12:=jA1 h0 ⋯ (by show n<10 ^ 12;omega)
def we{n:Int}(h0:0<=n):1<=(bJ n).length:=by
 let h:=CJ h0;let e:(cd (bJ n)).length=(bJ n).length:=rfl;cases c:cd (bJ n)with
 |nil=>exact absurd c h
 |cons a r=>rw[←e,c];simp
def uR{n:Int}(h0:0<=n)(h1:n<1000000000000):PySem.intText? (bJ n)=some n:=by
 let e:=intText_digits (x:=bJ n) (jS h0) (CJ h0) (zN0 (gH h0 h1) ⋯);let%[m|1]:=qF1 h0;let e2:=uT m;unfold cd at e2;rw[e2,PySem.W.KIN.val_back]at e;exact e
def Ft(m:Nat)(h:0<m):∃d r,Nat.toDigits 10 m=d::r/\d.toNat≠48:=by
 induction m using Nat.strongRecOn with
 |_ m ih=>
   by_cases c:m<10
   . erw[Nat.digitChar m,[],Nat.toDigits_of_lt_base c,6]
     have:∀d:Nat,d<10->0<d->(Nat.digitChar d).toNat≠48:=by decide
     exact this m c h
   . let hm:m % 10<10:=Nat.mod_lt m ⋯;let t:Nat.toDigits 10 (m / 10)++Nat.toDigits 10 (m % 10)=Nat.toDigits 10 (10*(m / 10)+m % 10):=Nat.toDigits_append_toDigits ⋯ #[0] hm;rw[Nat.div_add_mod]at t;let%[d,r,e|hd]:=ih (m / 10) #[0] #[0];erw[d,r++Nat.toDigits 10 (m % 10),by rw[←t,e];rfl,hd]
def Hx:∀c:Nat,c<58->48<=c->isIn FIG c=true:=by decide
def uS{n:Int}(h0:0<=n)(h1:n<1000000000000):kN (bJ n)=true:=by
 unfold kN;rw[zD1 (we h0),zD1 (gH h0 h1)];let a:(cd (bJ n)).all (isIn FIG)=true:=List.all_eq_true.mpr λc hc=>by
  have:=jS h0 c hc
  exact Hx c #[0] this.1
 let a':(bJ n).cps.toList.all (isIn FIG)=true:=a;rw[a'];let b:(decide (1<(bJ n).length)&&Txt.startswith (bJ n) "0")=false:=by
  by_cases c:1<(bJ n).length
  . let%[m|1]:=qF1 h0;let hm:0<m:=by
     apply Nat.pos_of_ne_zero ?_;intro z;subst z
     revert c
     decide
    let%[d,r,e|hd]:=Ft m hm;let e0:(bJ (m:Int)).cps.toList[0]?=some d.toNat:=by
     have:=uT m
     unfold cd at this;rw[this,e];rfl
    let z:decide (V.str (%[|#[d.toNat]]:Str)=V.str "0")=false:=zE1 λz=>by
     have:=V.str.inj z
     let e1:("0":Str)=%[|#[48]]:=by decide
     rw[e1]at this;injection this with this
     have:=congrArg Array.toList this
     simp at this
     exact hd this
    rw[vB e0,z,wG0]
  . rw[zE1 c];rfl
 rw[b];rfl
def NL:Str:=%[|#[10]]
def CN:("\n":Str)=NL:=by decide
def lS{l:List Str}{b:Nat}(h:∀p∈l,p.length<=b):(l.map (·.length)).sum<=l.length*b:=by
 induction l with
 |nil=>simp
 |cons a r ih=>
   let h1:=h a qB0;let h2:=ih λp hp=>h p (qK0 _ hp)
   simp only[zY0,zV1,zM0];rw[Nat.succ_mul];omega
def lq{n:Int}(h0:0<=n)(h1:n<1000000000000):n.natAbs.log2<1920:=by
 let h2:n.natAbs<2 ^ 40:=#[0]
 by_cases c:n.natAbs=0
 . rw[c];decide
 . have:=(Nat.log2_lt c).mpr h2
   omega
def rT{xs:List V}{k:Nat}(hk:k<=xs.length):iM xs (some (k:Int)) none=xs.drop k:=by
 unfold iM;rw[HT.sIx_none,HT.sIx_nat,Nat.min_eq_left hk];exact List.take_of_length_le (by rw[jG1];exact zH0 _)
def Tm.txt:Tm->List Nat
 |.num n=>cd (bJ n)
 |.box x=>cd x
 |.plain w=>cd w
 |.ask w a=>[40]++(cd w++([32]++(a.txt++[41])))
 |.op s a b=>[40]++(cd s++([32]++(a.txt++([32]++(b.txt++[41])))))
def Tm.str(t:Tm):Str:=stl t.txt
def kJ:∀w∈plainW,w.length<=5/\1<=w.length/\(∀c∈w.cps.toList,97<=c/\c<=122)/\w≠"num"/\w≠"box"/\w≠"op":=by decide
def vo:∀w∈askW,w.length<=4/\1<=w.length/\(∀c∈w.cps.toList,97<=c/\c<=122)/\w≠"num"/\w≠"box"/\w≠"op"/\w∉plainW:=by decide
def pW:∀w∈signW,w.length=1/\(∀c∈w.cps.toList,42<=c/\c<=61)/\w∉askW:=by decide
def dO(x:Str):(cd x).length=x.length:=by unfold cd;rw[zU1];rfl
def Tm.txt_len:∀t:Tm,t.ok->t.txt.length<=14*t.size
 |.num n,h=>by
   have:=gH h.1 h.2
   show(cd (bJ n)).length<=14;rw[dO];omega
 |.box x,h=>by
   show(cd x).length<=14;rw[dO]
   have:=h.2.2.1
   omega
 |.plain w,h=>by
   show(cd w).length<=14;rw[dO]
   have:=(kJ w h).1
   omega
 |.ask w a,⟨h,h1⟩=>by
   have:=Tm.txt_len a h1
   let e4:=(vo w h).1;show([40]++(cd w++([32]++(a.txt++[41])))).length<=14*(a.size+1)
   simp only[zK0,zM0,zI1,dO];omega
 |.op o a b,⟨h,h1,h2⟩=>by
   let e1:=Tm.txt_len a h1;let e2:=Tm.txt_len b h2;let e4:=(pW o h).1;show([40]++(cd o++([32]++(a.txt++([32]++(b.txt++[41])))))).length<=14*(a.size+b.size+1)
   simp only[zK0,zM0,zI1,dO];omega
def Tm.str_len{t:Tm}(h:t.ok):t.str.length<=14*t.size:=by
 unfold Tm.str;rw[tP];exact t.txt_len h
def EA(n:Int):(Tm.num n).str=bJ n:=gQ _
def EC(x:Str):(Tm.box x).str=x:=gQ _
def zF(x:Str):(Tm.plain x).str=x:=gQ _
def brT(wd:Str)(ts:List Tm):Str:=((Str.empty++("(":Str))++Txt.join (" ":Str) (wd::ts.map Tm.str))++(")":Str)
def HM(wd:Str)(a:Tm):brT wd [a]=(Tm.ask wd a).str:=by
 apply eI ?_;unfold brT;rw[show Txt.join (" ":Str) (wd::[a].map Tm.str)=(wd++(" ":Str))++a.str from rfl];simp only[ci,jU,gi,oP];show((([]:List Nat)++[40])++((cd wd++[32])++a.txt))++[41]=[40]++(cd wd++([32]++(a.txt++[41])))
 simp
def br_op(wd:Str)(a b:Tm):brT wd [a,b]=(Tm.op wd a b).str:=by
 apply eI ?_;unfold brT;rw[show Txt.join (" ":Str) (wd::[a,b].map Tm.str)=(((wd++(" ":Str))++a.str)++(" ":Str))++b.str from rfl];simp only[ci,jU,gi,oP];show((([]:List Nat)++[40])++((((cd wd++[32])++a.txt)++[32])++b.txt))++[41]=[40]++(cd wd++([32]++(a.txt++([32]++(b.txt++[41])))))
 simp
def TmsAt(H:Hp)(tv:List V)(ts:List Tm):Prop:=tv.length=ts.length/\∀(i:Nat)(v:V)(t:Tm),tv[i]?=some v->ts[i]?=some t->TmAt H v t
def TmsAt.one(h:TmAt H v t):TmsAt H [v] [t]:=⟨rfl,λi a b ha hb=>by
 match i,ha,hb with
 |0,ha,hb=>cases ha;cases hb;exact h
 |i+1,ha,_=>simp at ha⟩
def TmsAt.two(h:TmAt H v t)(h2:TmAt H u r):TmsAt H [v,u] [t,r]:=⟨rfl,λi a b ha hb=>by
 match i,ha,hb with
 |0,ha,hb=>cases ha;cases hb;exact h
 |1,ha,hb=>cases ha;cases hb;exact h2
 |i+2,ha,_=>simp at ha⟩
instance spTTm(n:Nat):∀(v:V)(t:Tm),vs=[v]->TmAt H v t->t.ok->t.depth<=n->t.size<=40->(∀H',Same H H'->Q (.str t.str) H'):=1
instance spIB(n:Nat):∀(wd:Str)(a:Addr)(tv:List V)(ts:List Tm),vs=[.str wd,.ref a]->H a=some (.tup tv)->TmsAt H tv ts->ts.length<=2->wd.length<=10->(∀t∈ts,t.ok/\t.depth<=n/\t.size<=40)->(∀H',Same H H'->Q (.str (brT wd ts)) H'):=1
def qD:FnScope ["word","terms","inside"] ["word","terms"] (ag hZ):=%[|5]
def sI{n:Nat}(F:#["in_bracket",hZ])(eN:#[2*n+1,"term_text",["term"],spTTm n]):#[2*n+2,f,fd,["word","terms"],spIB n]:=by
 exists qD
 erw[wd,a,tv,ts,1,ha,TA,tl,wl,tk,k]at h;refine⟨_,(aa (ah (i:=2) qD.nd rfl (.inl rfl) (cA zH1 zQ1 zR1 eV aq (ae (am jg (dq %[0|bc]) (cJ (N:=[]) (ix:=[]) (cl:=[]) rfl #[5] rfl (eR (pv 1))
         (λ_ _ _=>du (ai eN hr #[0] rfl %[0|bc])))) bc)))
  (ac (aj (nq (dy aq (dy (oJ (pv 2)) (dy aq re))))))),?_⟩
 let ttl:=TA.1;erw[1,0,y1S,λL hL=>?_];let GL:=zC0 hL (.lst [.str wd]);let eL:upd H L (.lst [.str wd]) L=some (.lst [.str wd]):=bh;generalize upd H L (.lst [.str wd])=H1 at GL eL;let ha1:=GL _ _ ha;erw[0,a,1,%[_|zB0 ha1],λD hD=>?_];let LD:L≠D:=bi eL hD;apply eY (K:=K) (xs:=tv) (λi H'=>H' D=some (.lst (((ts.take i).map Tm.str).map V.str))/\Same H1 H') %[by rw[bh];rfl|zC0 hD _] (λi H' _ h=>zB0 (h.2 _ _ ha1)) ?_ ?_
 . rintro i z H2 hz ⟨hD2,S2⟩;let hi:=(zW0 hz).1;let ht:ts[i]?=some (ts[i]'#[0]):=zO0 #[0];let%[tok,td|tz]:=tk _ (qI0 ht);erw[0,z,0,(TA.2 i z _ hz ht).mono (bp (GL.trans S2)),tok,td,tz,λH3 S3=>?_];erw[_,S3 _ _ hD2,6,Nx.of hi %[6|λb' o' e'=>?_]]
   . rw[zF0,zF0,qE0];exact aO #[0]
   . rw[bh,qJ0,ht,zL0,zL0];rfl
   . rw[aB (bi e' hD)];exact S3 _ _ (S2 _ _ e')
 rintro H2 ⟨hD2,S2⟩;rw[show tv.length=ts.length from ttl,qF0]at hD2;erw[L,D,2,S2 _ _ eL,hD2,aV (by rw[zF0,zF0,qL0];omega),λM hM=>?_];let GM:=zC0 hM (.lst ([.str wd]++(ts.map Tm.str).map V.str));let eM:upd H2 M (.lst ([.str wd]++(ts.map Tm.str).map V.str)) M=some (.lst ((wd::ts.map Tm.str).map V.str)):=bh;let sl:=lS (l:=ts.map Tm.str) (b:=560) λp hp=>by
  let%[t,ht|1]:=List.mem_map.mp hp
  have:=Tm.str_len (tk t ht).1
  have:=(tk t ht).2.2
  omega
 rw[zF0]at sl;let sl2:ts.length*560<=1120:=#[0]
 let lsp:((" ":Str)).length=1:=by decide
 erw[_,M,0,1,zG0 eM,by rw[lsp];decide,6,6]
 . rw[zY0,zV1,zM0,zF0];omega
 let jlen:(Txt.join (" ":Str) (wd::ts.map Tm.str)).length<=2000:=by
  have:=size_glued (" ":Str) (wd::ts.map Tm.str)
  rw[lsp,zY0,zV1,zM0,zF0]at this;show(Builtin.Str.glued (" ":Str) (wd::ts.map Tm.str)).length<=2000;omega
 let z0:(Str.empty).length=0:=by decide
 let l1:(("(":Str)).length=1:=by decide
 let l3:((")":Str)).length=1:=by decide
 let big:∀{m:Nat},m<=3000->m<=sizeLine:=λh=>zN0 h ⋯
 erw[0,aV (by rw[zB1,z0,l1];omega),0,0,big #[0],0,big (by rw[zB1,zB1,z0,l1];omega),0,big (by rw[zB1,zB1,zB1,z0,l1,l3];omega),big (by rw[zB1,zB1,zB1,z0,l1,l3];omega),6];exact k _ (GL.trans (S2.trans GM))
def si:FnScope ["term","word"] ["term"] (ag iQ):=%[|5]
def ct1(x:V)(xs:List V):iM (x::xs) (some 1) none=xs:=rT (xs:=x::xs) (k:=1) #[2]
def ct2(x y:V)(xs:List V):iM (x::y::xs) (some 2) none=xs:=rT (xs:=x::y::xs) (k:=2) #[2]
def Es{n:Nat}(F:#["term_text",iQ])(B:Bl mg)(X:Tx K mg)(sj:#[2*n+2,"in_bracket",["word","terms"],spIB n]):#[2*(n+1)+1,f,fd,["term"],spTTm (n+1)]:=by
 exists si
 erw[v,t,1,T,ok,dn,sz,k]at h;erw[pa',gp,hp]at X.plain;refine⟨_,(aa #[ah,1,si,aI aJ (pv 0) ad #[1]]
  (aa (aF (af aN (pv 1) aq (ao _)) (ac (aj (aW ei rfl B.str gt %[aI aJ (pv 0) ad #[1]|bc]))) ax)
  (aa (aF (af aN (pv 1) aq (ao _)) (ac (aj (aI aJ (pv 0) ad #[1]))) ax)
  (aa (aF (af gg (pv 1) (bQ (v:=.ref pa') rfl gp rfl) (by rfl')) (ac (aj (pv 1))) ax)
  (aa (aF (af aN (pv 1) aq (ao _)) (ac (aj (ai sj hr #[0] rfl %[aI aJ (pv 0) ad #[1],dL yP (pv 0) (dQ ad) gG|bc]))) ax)
  (ac (aj (ai sj hr #[0] rfl %[1,dL yP (pv 0) (dQ ad) gG|bc])))))))),?_⟩
 cases T with
 | @num a m e=>
   erw[0,a,_,(0),0,1,zB0 e,at0 ..,6];erw[0,1,0,6];apply aU rfl ?_;erw[0,a,_,(1),0,1,zB0 e,at1 ..,m,1,lq ok.1 ok.2,6];let k':=k H (Same.refl H);rw[EA]at k';exact k'
 | @box a x e=>
   erw[0,a,_,(0),0,1,zB0 e,at0 ..,6];erw[0,1,0,6];apply ay (eU ⋯) ?_;erw[0,1,0,6];apply aU rfl ?_;let k':=k H (Same.refl H);rw[EC]at k';erw[0,a,_,(1),0,1,zB0 e,at1 ..,k']
 | @plain a x e=>
   let%[_,_,_,n1,n2|n3]:=kJ x ok;erw[0,a,_,(0),.str x,1,1,zB0 e,at0 ..,6];erw[0,1,0,6];apply ay (eU n1) ?_;erw[0,1,0,6];apply ay (eU n2) ?_;erw[0,pa',0,.inr (hp _),1,⋯,0,6];let ein:inV (.str x) (plainW.map V.str)=true:=by rw[eX,zD1 (show x∈plainW from ok)]
   rw[ein];apply ee ?_;let k':=k H (Same.refl H);rw[zF]at k';erw[0,k']
 | @ask a x u r e g=>
   erw[okw,ok1]at ok;let%[l4,_,_,n1,n2,n3|n4]:=vo x okw;let dr:r.depth<=n:=jN1 dn;let sr:r.size+1<=40:=sz;erw[0,a,_,(0),.str x,1,1,zB0 e,at0 ..,6];erw[0,1,0,6];apply ay (eU n1) ?_;erw[0,1,0,6];apply ay (eU n2) ?_;erw[0,pa',0,.inr (hp _),1,⋯,0,6];let ein:inV (.str x) (plainW.map V.str)=false:=by rw[eX,zE1 n4]
   rw[ein];apply cV ?_;erw[0,1,0,6];apply ay (eU n3) ?_;erw[0,0,(1),1,a,0,zB0 e,e,λp H1 S1 e1=>?_];rw[ct1]at e1;erw[x,p,_,[r],1,e1,TmsAt.one (g.mono (bp S1)),by simp,3,λt ht=>by rw[zR0 ht];erw[ok1,dr,3],λH2 S2=>?_];rw[HM];exact k H2 (S1.trans S2)
 | @op a x u u2 r r2 e g g2=>
   erw[okw,ok1,ok2]at ok;let%[l4,_|_]:=pW x okw;let dd:r.depth<=n/\r2.depth<=n:=by
    have:max r.depth r2.depth+1<=n+1:=dn
    omega
   let sr:r.size+r2.size+1<=40:=sz;erw[0,a,_,(0),.str "op",1,1,zB0 e,at0 ..,6];erw[0,1,0,6];apply ay (eU ⋯) ?_;erw[0,1,0,6];apply ay (eU ⋯) ?_;erw[0,pa',0,.inr (hp _),1,⋯,0,6];let ein:inV (.str "op") (plainW.map V.str)=false:=by rw[eX,zE1 ⋯]
   rw[ein];apply cV ?_;erw[0,1,0,6];apply aU rfl ?_;erw[0,a,_,(1),.str x,1,1,zB0 e,at1 ..,0,(2),1,a,0,zB0 e,e,λp H1 S1 e1=>?_];rw[ct2]at e1;erw[x,p,_,[r,r2],1,e1,TmsAt.two (g.mono (bp S1)) (g2.mono (bp S1)),by simp,3,λt ht=>?_,λH2 S2=>?_]
   . rcases zS0 ht with rfl | ht
     . erw[ok1,dd.1,3]
     . rw[zR0 ht];erw[ok2,dd.2,3]
   rw[br_op];exact k H2 (S1.trans S2)
def Er:#[1,f,fd,["term"],spTTm 0]:=by
 let no:∀vs H Q E,¬ spTTm 0 vs H Q E:=λvs H Q E h=>by
  erw[v,t,_,_,_,h1,_]at h
  have:=t.depth_pos
  omega
 exists 3
def nI(F:#["term_text",iQ])(F2:Fun K "in_bracket" "in_bracket" hZ f2 fd2)(B:Bl mg)(X:Tx K mg)(m:mg "term_text"=some (.ref f))(m2:mg "in_bracket"=some (.ref f2)):
 ∀n:Nat,#[2*n+1,f,fd,["term"],spTTm n]
 |0=>Er
 |n+1=>Es F B X (Cal.of F2 (sI F2 (Cal.of F (nI F F2 B X m m2 n) m (λ_ _ _ _ _ _ us hl=>by let%[u0|1]:=Aw hl;rfl))) m2 (λ_ _ _ _ _ _ us hl=>by let%[u0,u1|1]:=Av hl;rfl))
def Hr.ws:Hr->List Str
 |.fin=>["end"] | .go n=>["go",bJ n] | .iff t n=>["if",t.str,bJ n] | .set x t=>["set",x,t.str] | .say t=>["say",t.str]
def Hr.str(r:Hr):Str:=Txt.join (" ":Str) r.ws
def EB:Hr.fin.str="end":=by decide
def FY{r:Hr}(h:r.ok 20):r.ws.length<=3/\∀z∈r.ws,z.length<=280:=by
 let fixed:∀z∈(Wt:List Str),z.length<=280:=by decide
 let ft:∀{t:Tm},t.fit 20->t.str.length<=280:=fun{t} h=>by
  have:=Tm.str_len h.1
  have:=h.2.1
  omega
 cases r with
 |fin=>erw[4,λz hz=>fixed z (by rw[zR0 hz];decide)]
 |go n=>
   erw[by show 2<=3;decide,λz hz=>?_];rcases zS0 (show z∈[("go":Str),bJ n]from hz)with rfl | hz
   . exact fixed _ ⋯
   . rw [zR0 hz]
     have:=gH h.1 h.2
     omega
 |iff t n=>
   erw[by show 3<=3;decide,λz hz=>?_];rcases zS0 (show z∈[("if":Str),t.str,bJ n]from hz)with rfl | hz
   . exact fixed _ ⋯
   rcases zS0 hz with rfl | hz
   . exact ft h.1
   . rw [zR0 hz]
     have:=gH h.2.1 h.2.2
     omega
 |set x t=>
   erw[by show 3<=3;decide,λz hz=>?_];rcases zS0 (show z∈[("set":Str),x,t.str]from hz)with rfl | hz
   . exact fixed _ ⋯
   rcases zS0 hz with rfl | hz
   . have:=h.1.2.2.1
     omega
   . rw[zR0 hz];exact ft h.2
 |say t=>
   erw[by show 2<=3;decide,λz hz=>?_];rcases zS0 (show z∈[("say":Str),t.str]from hz)with rfl | hz
   . exact fixed _ ⋯
   . rw[zR0 hz];exact ft h
def wv(sep:Str)(zs:List Str)(h:sep.length=1):(Txt.join sep zs).length<=(zs.map (·.length)).sum+zs.length:=by
 have:=size_glued sep zs
 rw[h]at this;show(Builtin.Str.glued sep zs).length<=_;omega
def AY{r:Hr}(h:r.ok 20):(r.ws.map (·.length)).sum+r.ws.length<=900:=by
 let%[h1|h2]:=FY h
 have:=lS h2
 have:r.ws.length*280<=840:=#[0]
 omega
def Hr.str_len{r:Hr}(h:r.ok 20):r.str.length<=900:=zN0 (wv _ _ ⋯) (AY h)
instance spRT:∀(v:V)(r:Hr),vs=[v]->HrAt H v r->r.ok 20->(∀H',Same H H'->Q (.str r.str) H'):=1
def A8:FnScope ["row","word"] ["row"] (ag lX):=%[|5]
def vV(F:#["row_text",lX])(B:Bl mg)(eN:#[17,"term_text",["term"],spTTm 8]):#[18,f,fd,["row"],spRT]:=by
 exists A8
 erw[v,r,1,T,ok,k]at h;refine⟨_,(aa #[ah,1,A8,aI aJ (pv 0) ad #[1]]
  (aa (aF (af aN (pv 1) aq (ao _)) (ac (aj (cA zH1 zQ1 zR1 eV aq %[dq %[1,aI aJ (pv 0) ad #[1],ai eN hr ⋯ rfl %[aI aJ (pv 0) ad #[1]|bc]|bc]|bc]))) ax)
  (aa (aF (af aN (pv 1) aq (ao _)) (ac (aj (cA zH1 zQ1 zR1 eV aq %[dq %[1,ai eN hr ⋯ rfl %[aI aJ (pv 0) ad #[1]|bc]|bc]|bc]))) ax)
  (aa (aF (af aN (pv 1) aq (ao _)) (ac (aj (cA zH1 zQ1 zR1 eV aq %[dq %[1,ai eN hr ⋯ rfl %[aI aJ (pv 0) ad #[1]|bc],aW ei rfl B.str gt %[aI aJ (pv 0) ad #[1]|bc]|bc]|bc]))) ax)
  (aa (aF (af aN (pv 1) aq (ao _)) (ac (aj (cA zH1 zQ1 zR1 eV aq %[dq %[1,aW ei rfl B.str gt %[aI aJ (pv 0) ad #[1]|bc]|bc]|bc]))) ax)
  (ac (aj (pv 1)))))))),?_⟩
 let l2:((" ":Str)).length<=16:=by decide
 let big:∀{m:Nat},m<=900->m<=1048576:=λh=>zN0 h ⋯
 let wsum:=AY ok;cases T with
 | @fin a e=>
   erw[0,a,_,(0),.str "end",1,1,zB0 e,at0 ..,6];erw[0,1,0,6];apply ay (eU ⋯) ?_;erw[0,1,0,6];apply ay (eU ⋯) ?_;erw[0,1,0,6];apply ay (eU ⋯) ?_;erw[0,1,0,6];apply ay (eU ⋯) ?_;let k':=k H (Same.refl H);rw[EB]at k';erw[0,k']
 | @go a n e=>
   erw[0,a,_,(0),.str "go",1,1,zB0 e,at0 ..,6];erw[0,1,0,6];apply ay (eU ⋯) ?_;erw[0,1,0,6];apply ay (eU ⋯) ?_;erw[0,1,0,6];apply ay (eU ⋯) ?_;erw[0,1,0,6];apply aU rfl ?_;erw[1,0,0,a,_,(1),0,1,zB0 e,at1 ..,n,1,lq ok.1 ok.2,y2S,λL hL=>?_];let eL:upd H L (.lst [.str "go",.str (toString n)]) L=some (.lst ((Hr.go n).ws.map V.str)):=bh;erw[_,L,0,1,zG0 eL,l2,big wsum,k _ (zC0 hL _)]
 | @iff a v t n e g=>
   erw[0,a,_,(0),.str "if",1,1,zB0 e,at0 ..,6];erw[0,1,0,6];apply ay (eU ⋯) ?_;erw[0,1,0,6];apply ay (eU ⋯) ?_;erw[0,1,0,6];apply aU rfl ?_;erw[1,0,0,a,_,(1),0,1,zB0 e,at1 ..,v,t,1,g,ok.1.1,ok.1.2.2,by have:=ok.1.2.1;omega,λH1 S1=>?_];erw[0,a,_,(2),0,1,zB0 (S1 _ _ e),at2 ..,n,1,lq ok.2.1 ok.2.2,y3S,λL hL=>?_];let eL:upd H1 L (.lst [.str "if",.str t.str,.str (toString n)]) L=some (.lst ((Hr.iff t n).ws.map V.str)):=bh;erw[_,L,0,1,zG0 eL,l2,big wsum,k _ (S1.trans (zC0 hL _))]
 | @set a x v t e g=>
   erw[0,a,_,(0),.str "set",1,1,zB0 e,at0 ..,6];erw[0,1,0,6];apply aU rfl ?_;erw[1,0,0,a,_,(1),.str x,1,1,zB0 e,at1 ..,0,a,_,(2),v,1,1,zB0 e,at2 ..,v,t,1,g,ok.2.1,ok.2.2.2,by have:=ok.2.2.1;omega,λH1 S1=>?_];erw[y3S,λL hL=>?_];let eL:upd H1 L (.lst [.str "set",.str x,.str t.str]) L=some (.lst ((Hr.set x t).ws.map V.str)):=bh;erw[_,L,0,1,zG0 eL,l2,big wsum,k _ (S1.trans (zC0 hL _))]
 | @say a v t e g=>
   erw[0,a,_,(0),.str "say",1,1,zB0 e,at0 ..,6];erw[0,1,0,6];apply ay (eU ⋯) ?_;erw[0,1,0,6];apply aU rfl ?_;erw[1,0,0,a,_,(1),v,1,1,zB0 e,at1 ..,v,t,1,g,ok.1,ok.2.2,by have:=ok.2.1;omega,λH1 S1=>?_];erw[y2S,λL hL=>?_];let eL:upd H1 L (.lst [.str "say",.str t.str]) L=some (.lst ((Hr.say t).ws.map V.str)):=bh;erw[_,L,0,1,zG0 eL,l2,big wsum,k _ (S1.trans (zC0 hL _))]
def Dq{H:Hp}{b:Addr}{ys zs:List V}(h:H b=some (.lst ys)):cH H (upd H b (.lst zs)):=λa xs e=>by
 rw[aB (λz=>by rw[z,h]at e;cases e)];exact e
def RowsAt.nil:RowsAt H [] []:=%[1|λi v r h=>by simp at h]
def RowsAt.snoc(h:RowsAt H tv rs)(a:HrAt H v r):RowsAt H (tv++[v]) (rs++[r]):=by
 erw[by rw[zK0,zK0,h.1];rfl,λi u s hu hs=>?_];let hl:=h.1
 by_cases c:i<tv.length
 . rw[zP1 c]at hu;rw[zP1 #[0]]at hs;exact h.2 i u s hu hs
 . rw [zN1 #[0]]at hu;rw[zN1 #[0]]at hs;let e1:i-tv.length=0:=by
    have:=(zW0 hu).1
    rw[qL0]at this;omega
   let e2:i-rs.length=0:=#[0]
   rw[e1]at hu;rw[e2]at hs;cases hu;cases hs;exact a
def sk(rs:List Hr):Prop:=rs.length<=60/\∀r∈rs,r.ok 20
def lH(rs:List Hr):Str:=Txt.join ("\n":Str) (rs.map Hr.str)
def wD(g:sk rs):((rs.map Hr.str).map (·.length)).sum+(rs.map Hr.str).length<=60000:=by
 have:=lS (l:=rs.map Hr.str) (b:=900) λp hp=>by
  let%[r,hr|1]:=List.mem_map.mp hp;exact Hr.str_len (g.2 r hr)
 rw[zF0]at this ⊢;let h1:=g.1
 have:rs.length*900<=60*900:=Nat.mul_le_mul_right _ h1
 omega
def Dy(g:sk rs):(lH rs).length<=60000:=zN0 (wv _ _ ⋯) (wD g)
instance spHT:∀(a:Addr)(tv:List V)(rs:List Hr),vs=[.ref a]->H a=some (.tup tv)->RowsAt H tv rs->sk rs->(∀H',Same H H'->Q (.str (lH rs)) H'):=1
def qE:FnScope WT WT (ag jf):=%[|5]
def rA(F:#["helper_text",jf])(pe:#[18,"row_text",["row"],spRT]):#[19,f,fd,WT,spHT]:=by
 exists qE
 erw[a,tv,rs,1,ha,RA,gr,k]at h;refine⟨_,(ac (aj (cA zH1 zQ1 zR1 eV aq (ae (cJ (N:=[]) (ix:=[]) (cl:=[]) rfl #[5] rfl (eR (pv 0))
         (λ_ _ _=>du (ai pe hr ⋯ rfl %[0|bc]))) bc)))),?_⟩
 let rl:=RA.1;let r60:=gr.1;erw[1,0,a,1,%[_|zB0 ha],λD hD=>?_];apply eY (K:=K) (xs:=tv) (λi H'=>H' D=some (.lst (((rs.take i).map Hr.str).map V.str))/\Same H H') %[by rw[bh];rfl|zC0 hD _] (λi H' _ h=>zB0 (h.2 _ _ ha)) ?_ ?_
 . rintro i z H2 hz ⟨hD2,S2⟩;let hi:=(zW0 hz).1;let ht:rs[i]?=some (rs[i]'#[0]):=zO0 #[0];erw[0,z,0,(RA.2 i z _ hz ht).mono (bp S2),gr.2 _ (qI0 ht),λH3 S3=>?_];erw[_,S3 _ _ hD2,6,Nx.of hi %[6|λb' o' e'=>?_]]
   . rw[zF0,zF0,qE0];exact aO #[0]
   . rw[bh,qJ0,ht,zL0,zL0];rfl
   . rw[aB (bi e' hD)];exact S3 _ _ (S2 _ _ e')
 rintro H2 ⟨hD2,S2⟩;rw[rl,qF0]at hD2;erw[_,D,0,1,zG0 hD2,⋯,zN0 (wD gr) ⋯,k H2 S2]
abbrev oy:Stmt:=top 40
abbrev uc:Stmt:=bw oy 0
abbrev qH:Stmt:=bw oy 1
abbrev ub:Stmt:=bw oy 2
abbrev ua:Stmt:=bw oy 3
abbrev tZ:Stmt:=bw oy 4
abbrev ox:Stmt:=bw oy 5
structure STxt(K:W.Frag)(mg:#[9])(C:Addr):Prop where
 cl:Cls K C
 nX:NoAttr K C "text"
 nR:NoAttr K C "row"
 nW:NoAttr K C "most_within"
 nP:NoAttr K C "most_parts"
 nL:NoAttr K C "place"
 nN:NoAttr K C "parts"
 mgC:mg "Scan"=some (.ref C)
def qW(f:Str)(v:V):∀(fs:List (Str×V))(u:V),fs.lookup f=some u->(bN f v fs).length=fs.length
 | [],u,h=>by cases h
 | (g,x)::r,u,h=>by
   unfold bN
   by_cases e:g=f
   . rw[Mt e];rfl
   . rw [Mq e];let e':(f==g)=false:=#[λz=>e z.symm,0]
     simp only[List.lookup,e']at h;rw[zM0,zM0,qW f v r u h]
def cw(f:Str)(v:V):∀fs:List (Str×V),(bN f v fs).length<=fs.length+1
 | []=>zH0 _
 | (g,u)::r=>by
   have:=cw f v r
   unfold bN
   split
   . simp
   . simp only[zM0];omega
structure SF(T:Str)(p n:Nat)(fs:List (Str×V)):Prop where
 text:fs.lookup ("text":Str)=some (.str T)
 mw:∃i:Int,fs.lookup ("most_within":Str)=some (.int i)/\8<=i
 mp:∃i:Int,fs.lookup ("most_parts":Str)=some (.int i)/\20<=i
 place:fs.lookup ("place":Str)=some (.int (p:Int))
 parts:fs.lookup ("parts":Str)=some (.int (n:Int))
 no1:fs.lookup ("enter":Str)=none
 no2:fs.lookup ("sees":Str)=none
 no3:fs.lookup ("take":Str)=none
 no4:fs.lookup ("word":Str)=none
 no5:fs.lookup ("finish":Str)=none
 len:fs.length<=6
def SF.toPlace(h:SF T p n fs)(p':Nat):SF T p' n (bN "place" (.int (p':Int)) fs):=by
 erw[6,6,6,6,6,6,6,6,6,6,6]
 . rw[au,Mq ⋯];exact h.text
 . rw[au,Mq ⋯];exact h.mw
 . rw[au,Mq ⋯];exact h.mp
 . rw[au,Mt rfl]
 . rw[au,Mq ⋯];exact h.parts
 . rw[au,Mq ⋯];exact h.no1
 . rw[au,Mq ⋯];exact h.no2
 . rw[au,Mq ⋯];exact h.no3
 . rw[au,Mq ⋯];exact h.no4
 . rw[au,Mq ⋯];exact h.no5
 . rw[qW _ _ _ _ h.place];exact h.len
def SF.toParts(h:SF T p n fs)(n':Nat):SF T p n' (bN "parts" (.int (n':Int)) fs):=by
 erw[6,6,6,6,6,6,6,6,6,6,6]
 . rw[au,Mq ⋯];exact h.text
 . rw[au,Mq ⋯];exact h.mw
 . rw[au,Mq ⋯];exact h.mp
 . rw[au,Mq ⋯];exact h.place
 . rw[au,Mt rfl]
 . rw[au,Mq ⋯];exact h.no1
 . rw[au,Mq ⋯];exact h.no2
 . rw[au,Mq ⋯];exact h.no3
 . rw[au,Mq ⋯];exact h.no4
 . rw[au,Mq ⋯];exact h.no5
 . rw[qW _ _ _ _ h.parts];exact h.len
def sfs(T:Str)(k mw mp:Int):List (Str×V):=bN "parts" (.int 0) (bN "place" (.int 0) (bN "most_parts" (.int mp) (bN "most_within" (.int mw) (bN "row" (.int k) (bN "text" (.str T) [])))))
def Gv(T:Str)(k mw mp:Int)(h8:8<=mw)(h20:20<=mp):SF T 0 0 (sfs T k mw mp):=by
 let no:∀m:Str,m≠"parts" -> m≠"place" -> m≠"most_parts" -> m≠"most_within" -> m≠"row" -> m≠"text" -> (sfs T k mw mp).lookup m=none:=λm h1 h2 h3 h4 h5 h6=>by
  unfold sfs;rw[au,Mq h1,au,Mq h2,au,Mq h3,au,Mq h4,au,Mq h5,au,Mq h6];rfl
 erw[6,6,6,6,6,no _ ⋯ ⋯ ⋯ ⋯ ⋯ ⋯,no _ ⋯ ⋯ ⋯ ⋯ ⋯ ⋯,no _ ⋯ ⋯ ⋯ ⋯ ⋯ ⋯,no _ ⋯ ⋯ ⋯ ⋯ ⋯ ⋯,no _ ⋯ ⋯ ⋯ ⋯ ⋯ ⋯,6]
 . unfold sfs;rw[au,Mq ⋯,au,Mq ⋯,au,Mq ⋯,au,Mq ⋯,au,Mq ⋯,au,Mt rfl]
 . erw[mw,6,h8];unfold sfs;rw[au,Mq ⋯,au,Mq ⋯,au,Mq ⋯,au,Mt rfl]
 . erw[mp,6,h20];unfold sfs;rw[au,Mq ⋯,au,Mq ⋯,au,Mt rfl]
 . unfold sfs;rw[au,Mq ⋯,au,Mt rfl];rfl
 . unfold sfs;rw[au,Mt rfl];rfl
 . unfold sfs;apply zN0 (cw _ _ _) (zJ1 (zN0 (cw _ _ _) (zJ1 (zN0 (cw _ _ _) (zJ1 (zN0 (cw _ _ _) (zJ1 (zN0 (cw _ _ _) (zJ1 (cw _ _ _))))))))))
def ScanAt(C:Addr)(H:Hp)(sc:Addr)(T:Str)(p n:Nat):Prop:=∃dx fs,H sc=some (.ins C dx fs)/\SF T p n fs
instance spSInit(C:Addr):∀(g dx:Addr)(T:Str)(k mw mp:Int),vs=[.ref g,.str T,.int k,.int mw,.int mp]->8<=mw->20<=mp->H g=some (.ins C dx [])->(∀H',ScanAt C H' g T 0 0->SameBut g H H'->Q .non H'):=1
def BG:FnScope WU WU (ag uc):=%[|5]
def Cr(F:#["__init__","Scan.__init__",uc])(T:STxt K mg C):#[1,f,fd,WU,spSInit C]:=by
 exists BG
 erw[g,dx,Tx,kr,mw,mp,1,h8,h20,hg,q]at h;erw[_,(aa (aP (pv 0) (pv 1) rfl) (aa (aP (pv 0) (pv 2) rfl) (aa (aP (pv 0) (pv 3) rfl) (aa (aP (pv 0) (pv 4) rfl) (aa (aP (pv 0) ad rfl) (ac (aP (pv 0) ad rfl))))))),6];erw[0,0,g,C,dx,[],1,hg,T.cl,T.nX,(by show 0<1000;decide),6];erw[0,0,g,C,dx,0,bh,9,T.nR,(zO1 (cw _ _ _) (by show 1<1000;decide)),6];erw[0,0,g,C,dx,0,bh,9,T.nW,(zO1 (cw _ _ _) (zO1 (zJ1 (cw _ _ _)) (by show 2<1000;decide))),6];erw[0,0,g,C,dx,0,bh,9,T.nP,(zO1 (cw _ _ _) (zO1 (zJ1 (zN0 (cw _ _ _) (zJ1 (cw _ _ _)))) (by show 3<1000;decide))),6];erw[0,g,C,dx,0,bh,9,T.nL,(zO1 (cw _ _ _) (zO1 (zJ1 (zN0 (cw _ _ _) (zJ1 (zN0 (cw _ _ _) (zJ1 (cw _ _ _)))))) (by show 4<1000;decide))),6];erw[0,g,C,dx,0,bh,9,T.nN,(zO1 (cw _ _ _) (zO1 (zJ1 (zN0 (cw _ _ _) (zJ1 (zN0 (cw _ _ _) (zJ1 (zN0 (cw _ _ _) (zJ1 (cw _ _ _)))))))) (by show 5<1000;decide))),6];exact q _ ⟨dx,sfs Tx kr mw mp,bh,Gv Tx kr mw mp h8 h20⟩ ((SameBut.upd _).trans ((SameBut.upd _).trans ((SameBut.upd _).trans ((SameBut.upd _).trans ((SameBut.upd _).trans (SameBut.upd _))))))
def SF.size(h:SF T p n fs):fs.length<1000:=zO1 h.len ⋯
instance spEnter(C:Addr):∀(sc:Addr)(T:Str)(p n:Nat)(wi:Int),vs=[.ref sc,.int wi]->ScanAt C H sc T p n->wi<=8->n+1<=20->(∀H',ScanAt C H' sc T p (n+1)->SameBut sc H H'->Q .non H'):=1
def zJ:FnScope Wk Wk (ag qH):=%[|5]
def zY(F:#["enter","Scan.enter",qH])(T:STxt K mg C):#[1,f,fd,Wk,spEnter C]:=by
 exists zJ
 erw[sc,Tx,p,n,wi,1,%[dx,fs,hs|sf],w10,n30,q]at h;refine⟨_,(aa (aP (pv 0) (am aR (az (pv 0) rfl) ad) rfl)
  (ac (aF (PW.pt (eF (af fO (pv 1) (az (pv 0) rfl) (ao _)) (dZ (af fO (az (pv 0) rfl) (az (pv 0) rfl) (ao _))))) aX ax))),?_⟩
 let sf':=sf.toParts (n+1);erw[mw,emw,h8]at sf'.mw;erw[mp,emp,h20]at sf'.mp;erw[0,sc,C,dx,fs,0,hs,9,T.nN,sf.parts,2,0,sc,C,dx,fs,1,hs,9,T.nN,sf.size,6];let hs':upd H sc (.ins C dx (bN "parts" (.int ((n:Int)+1)) fs)) sc=some (.ins C dx (bN "parts" (.int ((n+1:Nat):Int)) fs)):=bh;erw[0,0,sc,C,dx,_,0,hs',9,T.nW,emw,2,0,6];apply ay #[0] ?_;erw[0,sc,C,dx,_,0,hs',9,T.nN,sf'.parts,0,sc,C,dx,_,0,hs',9,T.nP,emp,2,0,6];apply ay #[0] ?_;exact q _ ⟨dx,_,hs',sf'⟩ (SameBut.upd _)
instance spSees(C:Addr):∀(sc:Addr)(T u:Str)(p n:Nat),vs=[.ref sc,.str u]->ScanAt C H sc T p n->Q (.bl (eJ T u p)) H:=1
def BF:FnScope WI WI (ag ub):=%[|5]
def Cq(F:#["sees","Scan.sees",ub])(T:STxt K mg C):#[1,f,fd,WI,spSees C]:=by
 exists BF
 erw[sc,Tx,u,p,n,1,%[dx,fs,hs|sf],q]at h;erw[_,(ac (aj (cA zH1 qS1 qT1 wk (az (pv 0) rfl) %[1,az (pv 0) rfl|bc]))),6];erw[0,sc,C,dx,fs,0,hs,9,T.nX,sf.text,1,0,0,sc,C,dx,fs,0,hs,9,T.nL,sf.place,Tx,u,0,1,q]
instance spTake'(C:Addr):∀(sc:Addr)(T u:Str)(p n:Nat),vs=[.ref sc,.str u]->ScanAt C H sc T p n->eJ T u p=true->u.length<=10->(∀H',ScanAt C H' sc T (p+u.length) n->SameBut sc H H'->Q .non H'):=1
def BE:FnScope WI WI (ag ua):=%[|5]
def Cp(F:#["take","Scan.take",ua])(B:Bl mg)(T:STxt K mg C)(mS:Meth K C "sees" fS)(GS:#[1,fS,fdS,WI,spSees C])(bS:Binds K fdS WI []):#[2,f,fd,WI,spTake' C]:=by
 exists BE
 erw[sc,Tx,u,p,n,1,S,hu,u10,q]at h;let MB:Room 1 _:=hr.mono ⋯;refine⟨_,(aa (aF (eQ (dN (bu (pv 0) T.cl mS GS MB bS .nil aY %[1|bc]))) aX ax)
  (ac (aP (pv 0) (am aR (az (pv 0) rfl) (aE cz rfl B.len zC1 %[1|bc])) rfl))),?_⟩
 let%[dx,fs,hs|sf]:=id S;erw[0,sc,dx,fs,1,hs,sf.no2,0,sc,Tx,u,p,n,1,S,0,6];rw[hu];apply cV ?_;erw[0,sc,C,dx,fs,0,hs,9,T.nL,sf.place,0,u,1,aV #[0],2,0,sc,C,dx,fs,1,hs,T.cl,T.nL,sf.size,6];let hs':upd H sc (.ins C dx (bN "place" (.int ((p:Int)+(u.length:Int))) fs)) sc=some (.ins C dx (bN "place" (.int ((p+u.length:Nat):Int)) fs)):=by rw[bh,jM0]
 exact q _ %[dx,_,hs'|sf.toPlace _] (SameBut.upd _)
def tM(r:List Nat):Prop:=r=[]∨∃c r',r=c::r'/\(c=32∨c=40∨c=41)
instance spWord(C:Addr):∀(sc:Addr)(T:Str)(p n:Nat)(x r:List Nat),vs=[.ref sc]->ScanAt C H sc T p n->T.length<=1000->p<=T.length->T.cps.toList.drop p=x++r->(∀c∈x,isIn ENDS c=false)->tM r->(∀H',ScanAt C H' sc T (p+x.length) n->SameBut sc H H'->Q (.str (stl x)) H'):=1
def IX:FnScope ["self","start"] WB (ag tZ):=%[|5]
def Co(F:#["word","Scan.word",tZ])(B:Bl mg)(X:Tx K mg)(T:STxt K mg C):#[1,f,fd,WB,spWord C]:=by
 exists IX
 erw[sc,Tx,p,n,x,r,1,%[dx,fs,hs|sf],tl,pl,hd,xl,er,q]at h;erw[te,ge]at X.ends;refine⟨_,(aa #[ah,1,IX,az (pv 0) rfl]
  (aa (iF zG1 (PW.pt (oF (af dM (az (pv 0) rfl) (aE cz rfl B.len zC1 %[az (pv 0) rfl|bc]) (ao _)) (ng (af uC (aI uX (az (pv 0) rfl) (az (pv 0) rfl) #[1]) (bQ (v:=.str ENDS) rfl ge %[|0]) (by rfl'))))) (ac (aP (pv 0) (am aR (az (pv 0) rfl) ad) rfl)))
  (ac (aj (dL qz (az (pv 0) rfl) (dQ (pv 1)) (dQ (az (pv 0) rfl))))))),?_⟩
 let L:Tx.cps.toList.length=Tx.length:=by rw[zU1];rfl
 let hlen:Tx.length=p+(x.length+r.length):=by
  have:=congrArg List.length hd
  rw[jG1,zK0,L]at this;omega
 erw[0,sc,C,dx,fs,0,hs,9,T.nL,sf.place,6];erw[λm σ H'=>∃j:Nat,j<=x.length/\σ=[some (.ref sc),some (.int (p:Int))]/\ScanAt C H' sc Tx (p+j) n/\SameBut sc H H'/\m=x.length-j,%[_,(0),zT0 _,1,%[dx,fs,hs|sf],SameBut.refl _ _|1],6];rintro m σ H1 ⟨j,hj,rfl,⟨dx1,fs1,hs1,sf1⟩,S1,rfl⟩;erw[0,sc,C,dx1,fs1,0,hs1,9,T.nL,sf1.place,0,sc,C,dx1,fs1,0,hs1,9,T.nX,sf1.text,Tx,1,aV tl,2,0,6];let sl:j=x.length->Txt.slice Tx (some (p:Int)) (some ((p+j:Nat):Int))=stl x:=λej=>by
  let es:Txt.slice Tx (some (p:Int)) (some ((p+j:Nat):Int))=_:=StrLaws.sliceText_plain (i:=(p:Int)) (j:=((p+j:Nat):Int)) %[3,3|by rw[L];omega];rw[es];apply eI ?_;show(Tx.cps.toList.drop (p:Int).toNat).take (((p+j:Nat):Int)-(p:Int)).toNat=x;rw[show(p:Int).toNat=p by omega,show(((p+j:Nat):Int)-(p:Int)).toNat=x.length by omega,hd,List.take_left'];rfl
 by_cases c1:(((p+j:Nat):Int))<(Tx.length:Int)
 . apply aU c1 ?_;let hk:p+j<Tx.cps.toList.length:=by rw[L];omega
   let ha:atI Tx.cps.toList ((p+j:Nat):Int)=some Tx.cps.toList[p+j]:=cK (zO0 hk);let hx:Tx.cps.toList[p+j]?=(x++r)[j]?:=by rw[←hd,List.getElem?_drop]
   erw[0,sc,C,dx1,fs1,0,hs1,9,T.nX,sf1.text,0,sc,C,dx1,fs1,0,hs1,9,T.nL,sf1.place,Tx,2,aV tl,ha,2,0,6]
   by_cases c2:j<x.length
   . let ec:Tx.cps.toList[p+j]=x[j]:=by
      rw[zO0 hk,zP1 c2,zO0 c2]at hx;exact zV0 hx
     let en:(!isIn ENDS Tx.cps.toList[p+j])=true:=by rw[ec,xl _ (qO0 c2)];rfl
     let en':(!(!(Builtin.Str.occurrences ENDS %[|#[Tx.cps.toList[p+j]]] 0 ENDS.length 1).isEmpty))=true:=en;rw[en'];erw[_,λ_ _ h=>h,6];erw[0,sc,C,dx1,fs1,0,hs1,9,T.nL,sf1.place,2,0,sc,C,dx1,fs1,1,hs1,9,T.nL,sf1.size,6];let hs':upd H1 sc (.ins C dx1 (bN "place" (.int (((p+j:Nat):Int)+1)) fs1)) sc=some (.ins C dx1 (bN "place" (.int ((p+(j+1):Nat):Int)) fs1)):=by
      rw[bh,show((p+j:Nat):Int)+1=((p+(j+1):Nat):Int) by omega]
     erw[_,3,j+1,3,1,%[dx1,_,hs'|sf1.toPlace _],S1.trans (SameBut.upd _),1]
   . let ej:j=x.length:=#[0]
     let en:(!isIn ENDS Tx.cps.toList[p+j])=false:=by
      rcases er with rfl | ⟨c,r',rfl,hc⟩
      . rw[zI1]at hlen;omega
      . rw [zO0 hk,zN1 #[0],show j-x.length=0 by omega]at hx;let ec:Tx.cps.toList[p+j]=c:=zV0 hx;rw[ec];rcases hc with rfl | rfl | rfl
        . rw[ends_in.1];rfl
        . rw[ends_in.2.1];rfl
        . rw[ends_in.2.2];rfl
     let en':(!(!(Builtin.Str.occurrences ENDS %[|#[Tx.cps.toList[p+j]]] 0 ENDS.length 1).isEmpty))=false:=en;rw[en'];erw[0,sc,C,dx1,fs1,0,hs1,9,T.nX,sf1.text,0,0,0,sc,C,dx1,fs1,0,hs1,9,T.nL,sf1.place,0,Tx,1,aV tl,6];rw[sl ej];rw[ej]at sf1;exact q H1 ⟨dx1,fs1,hs1,sf1⟩ S1
 . apply ay c1 ?_;let ej:j=x.length:=#[0]
   erw[0,sc,C,dx1,fs1,0,hs1,9,T.nX,sf1.text,0,0,0,sc,C,dx1,fs1,0,hs1,9,T.nL,sf1.place,0,Tx,1,aV tl,6];rw[sl ej];rw[ej]at sf1;exact q H1 ⟨dx1,fs1,hs1,sf1⟩ S1
instance spFinish(C:Addr):∀(sc:Addr)(T:Str)(n:Nat),vs=[.ref sc]->ScanAt C H sc T T.length n->T.length<=1000->Q .non H:=1
def xt:FnScope WB WB (ag ox):=%[|5]
def xQ(F:#["finish","Scan.finish",ox])(B:Bl mg)(T:STxt K mg C):#[1,f,fd,WB,spFinish C]:=by
 exists xt
 erw[sc,Tx,n,1,%[dx,fs,hs|sf],tl,q]at h;erw[_,(ac (aF (af lE (az (pv 0) rfl) (aE cz rfl B.len zC1 %[az (pv 0) rfl|bc]) (ao _)) aX ax)),6];erw[0,sc,C,dx,fs,0,hs,9,T.nL,sf.place,0,sc,C,dx,fs,0,hs,9,T.nX,sf.text,Tx,1,aV tl,1,0,6];show if(!decide (V.int (Tx.length:Int)=V.int (Tx.length:Int)))=true then _ else _
 rw[zD1 rfl];exact cV q
def DH(n p:Nat):PySem.fromIndex n (p:Int)=p:=by
 unfold PySem.fromIndex;rw[Mq #[0]];omega
def tO(T u:Str)(p:Nat):Builtin.Str.subAt T u p=decide ((T.cps.toList.drop p).take u.length=u.cps.toList):=by
 unfold Builtin.Str.subAt;let e:(T.cps.extract p (p+u.length)).toList=(T.cps.toList.drop p).take u.length:=by
  rw[Array.toList_extract,List.extract_eq_drop_take]
  congr 1
  omega
 by_cases c:(T.cps.toList.drop p).take u.length=u.cps.toList
 . rw [zD1 c]
   have:T.cps.extract p (p+u.length)=u.cps:=Array.toList_inj.mp (e.trans c)
   rw[this]
   simp
 . rw [zE1 c]
   have:¬ T.cps.extract p (p+u.length)=u.cps:=λz=>c (by rw[←e,z])
   simpa using this
def dh(T:Str):T.cps.toList.length=T.length:=by rw[zU1];rfl
def iV{T:Str}{p:Nat}{u v:List Nat}(h:T.cps.toList.drop p=u++v)(hp:p<=T.length):p+u.length+v.length=T.length:=by
 have:=congrArg List.length h
 rw[jG1,zK0,dh]at this;omega
def bn{T:Str}{p:Nat}{u v:List Nat}(h:T.cps.toList.drop p=u++v):T.cps.toList.drop (p+u.length)=v:=by
 rw[←List.drop_drop,h,List.drop_left]
def cq{T u:Str}{p:Nat}{r:List Nat}(h:T.cps.toList.drop p=u.cps.toList++r)(hp:p<=T.length):eJ T u (p:Int)=true:=by
 unfold eJ;let hl:=iV h hp;rw[dh]at hl;rw[DH,tO,zD1 #[0],h,←dh u,List.take_left,zD1 rfl];rfl
def jo{T:Str}{p:Nat}{c:Nat}{r:List Nat}(h:T.cps.toList.drop p=c::r)(hc:c≠40):eJ T ("(":Str) (p:Int)=false:=by
 unfold eJ;let l1:(("(":Str)).length=1:=by decide
 rw[DH,tO,h,jU,l1]
 have:¬ (c::r).take 1=[40]:=λz=>hc #[z,0]
 rw[zE1 this,wG0]
def bX(S:ScanAt C H sc T p n)(s:SameBut sc H H'):cH H H':=λa xs h=>s a _ (λz=>by
 erw[dx,fs,e,_]at S;rw[z,e]at h;cases h) h
def ScanAt.same(S:ScanAt C H sc T p n)(s:Same H H'):ScanAt C H' sc T p n:=by
 erw[dx,fs,e,sf]at S;erw[dx,fs,s _ _ e,sf]
structure Mths(P:Program)(w:World)(K:W.Frag)(mg:#[9])(base:Heap)(C fE fS fT fW fF:Addr)(dE dS dT dW dF:FuncData):Prop where
 mE:Meth K C "enter" fE
 gE:#[1,fE,dE,Wk,spEnter C]
 bE:Binds K dE Wk []
 mS:Meth K C "sees" fS
 gS:#[1,fS,dS,WI,spSees C]
 bS:Binds K dS WI []
 mT:Meth K C "take" fT
 gT:#[2,fT,dT,WI,spTake' C]
 bT:Binds K dT WI []
 mW:Meth K C "word" fW
 gW:#[1,fW,dW,WB,spWord C]
 bW:Binds K dW WB []
 mF:Meth K C "finish" fF
 gF:#[1,fF,dF,WB,spFinish C]
 bF:Binds K dF WB []
def DK:∀c:Nat,c<62->42<=c->isIn ENDS c=false:=by decide
def Hw:∀c:Fin 26,isIn FIG (97+c.val)=false:=by decide
def Dv{c:Nat}(h:97<=c/\c<=122):isIn FIG c=false:=by
 have:=Hw %[c-97|3]
 rwa [show 97+(%[c-97|3]:Fin 26).val=c by show 97+(c-97)=c;omega]at this
def AI(h:NmK x):kN x=false:=by
 unfold kN;erw[%[_,hl|_],h1,_,_]at h
 have:x.cps.toList.all (isIn FIG)=false:=by
  cases e:x.cps.toList with
  |nil=>
    have:=dO x
    unfold cd at this;rw[e]at this
    simp at this
    omega
  |cons c r=>
    have:=Dv (hl c (by rw[e];exact qB0))
    rw[jK1,this];rfl
 rw[this,wG0]
def oX(l:List Nat):Prop:=∀c∈l,isIn ENDS c=false
def dH{l:List Nat}(h:∀c∈l,97<=c/\c<=122):oX l:=λc hc=>oR (h c hc)
def rc{l:List Nat}(h:∀c∈l,42<=c/\c<=61):oX l:=λc hc=>DK c (by have:=h c hc;omega) (h c hc).1
def rb{n:Int}(h:0<=n):oX (cd (bJ n)):=rc λc hc=>by have:=jS h c hc;omega
def zX(h:oX l)(h1:1<=l.length)(r:List Nat):∃c r',l++r=c::r'/\c≠40:=by
 cases l with
 |nil=>cases h1
 |cons c l'=>
   erw[c,l'++r,1,λe=>?_]
   have:=h c qB0
   rw[e,ends_in.2.1]at this;cases this
instance spNextT(C:Addr)(n:Nat):∀(sc:Addr)(wi:Int)(T:Str)(p k:Nat)(t:Tm)(r:List Nat),vs=[.ref sc,.int wi]->ScanAt C H sc T p k->T.length<=1000->p<=T.length->T.cps.toList.drop p=[32]++(t.txt++r)->tM r->t.ok->t.depth<=n->wi+(t.depth:Int)<=9->k+t.size<=20->(∀(v:V)(H':Hp),TmAt H' v t->ScanAt C H' sc T (p+1+t.txt.length) (k+t.size)->SameBut sc H H'->Q v H'):=1
instance spTB(C:Addr)(n:Nat):∀(sc:Addr)(wi:Int)(T:Str)(p k:Nat)(t:Tm)(r:List Nat),vs=[.ref sc,.int wi]->ScanAt C H sc T p (k+1)->T.length<=1000->p<=T.length->T.cps.toList.drop p=t.txt++r->t.ok->((∃w a,t=.ask w a)∨∃s a b,t=.op s a b)->t.depth<=n+1->wi+(t.depth:Int)<=9->k+t.size<=20->(∀(v:V)(H':Hp),TmAt H' v t->ScanAt C H' sc T (p+t.txt.length) (k+t.size)->SameBut sc H H'->Q v H'):=1
def cS:FnScope ["scan","within","word","first","term"] WE (ag dP):=%[|5]
def Et{n:Nat}(F:#["term_in_bracket",dP])(X:Tx K mg)(T:STxt K mg C)(M:Mths P w K mg base C fE fS fT fW fF dE dS dT dW dF)(c9:#[2*n+3,"next_term",WE,spNextT C n]):#[2*n+4,f,fd,WE,spTB C n]:=by
 exists cS
 erw[sc,wi,Tx,p,k,t,r,1,S0,tl,pl,hd,ok,kind,dn,wd,k20,q]at h;erw[ja,gj,hj]at X.asking;erw[sa,gs,hs]at X.signs;let MB:Room 1 _:=hr.mono #[0];let hr2:Room 2 _:=hr.mono #[0];refine⟨_,(aa (aQ (bu (pv 0) T.cl M.mT M.gT hr2 M.bT .nil aY %[aq|bc]))
  (aa #[ah,2,cS,bV (pv 0) T.cl M.mW M.gW MB M.bW .nil aY]
  (aa #[ah,3,cS,ai c9 hr #[0] rfl %[0,am aR (pv 1) ad|bc]]
  (aa (aF (af gg (pv 2) (bQ (v:=.ref ja) rfl gj rfl) (by rfl')) (ac #[ah,4,cS,aM %[2,3|bc]]) (ac (aF (af gg (pv 2) (bQ (v:=.ref sa) rfl gs rfl) (by rfl')) (ac #[ah,4,cS,aM %[aq,2,3,ai c9 hr #[0] rfl %[0,am aR (pv 1) ad|bc]|bc]]) aX)))
  (aa (aQ (bu (pv 0) T.cl M.mT M.gT hr2 M.bT .nil aY %[aq|bc]))
  (ac (aj (pv 4)))))))),?_⟩
 let l1:(("(":Str)).length=1:=by decide
 let l3:((")":Str)).length=1:=by decide
 let%[dx0,fs0,hs0|sf0]:=id S0;rcases kind with⟨wd',a,rfl⟩ | ⟨o,a,b,rfl⟩
 . erw[okw,oka]at ok;let%[_,w1,wl|_]:=vo wd' okw;let da:a.depth<=n:=jN1 dn;let ed:(((Tm.ask wd' a).depth:Nat):Int)=(a.depth:Int)+1:=by show((a.depth+1:Nat):Int)=_;omega
   let es:(Tm.ask wd' a).size=a.size+1:=rfl;let wlen:(cd wd').length=wd'.length:=dO _;let hd0:Tx.cps.toList.drop p=[40]++(cd wd'++([32]++(a.txt++([41]++r)))):=by
    rw[hd];show([40]++(cd wd'++([32]++(a.txt++[41]))))++r=_
    simp
   let tlen:(Tm.ask wd' a).txt.length=1+(wd'.length+(1+(a.txt.length+1))):=by
    show([40]++(cd wd'++([32]++(a.txt++[41])))).length=_;simp only[zK0,zM0,zI1,wlen]
   let hl0:=iV hd0 pl;simp only[zK0,zM0,zI1,wlen]at hl0;let hd1:=bn hd0;let hd2:=bn hd1;let hd3:=bn hd2;let hd4:=bn hd3;simp only[zM0,zI1,wlen]at hd1 hd2 hd3 hd4;erw[0,sc,dx0,fs0,1,hs0,sf0.no3,sc,Tx,_,p,0,S0,cq (r:=cd wd'++([32]++(a.txt++([41]++r)))) (by rw[jU];exact hd0) pl,by rw[l1];decide,λH1 S1 B1=>?_];rw[l1]at S1;let%[dx1,fs1,hs1|sf1]:=id S1;erw[0,sc,dx1,fs1,1,hs1,sf1.no4,sc,Tx,_,_,cd wd',0,S1,tl,3,hd1,dH wl,.inr %[(32),0|.inl rfl],λH2 S2 B2=>?_];rw[wlen]at S2;erw[0,0,2,sc,wi+1,Tx,_,_,a,0,S2,tl,3,hd2,.inr %[(41),r,1|.inr (.inr rfl)],oka,da,3,3,λv1 H3 T3 S3 B3=>?_];erw[0,ja,0,.inr (hj _),1,⋯,0,6];let einj:inV (.str (stl (cd wd'))) (askW.map V.str)=true:=by rw[show stl (cd wd')=wd' from gQ _,eX,zD1 okw]
   rw[einj];apply ee ?_;erw[0,0,y2S,λc hc=>?_];let G:=zC0 hc (.tup [.str (stl (cd wd')),v1]);let S4:=S3.same G;let ec:upd H3 c (.tup [.str (stl (cd wd')),v1]) c=some (.tup [.str wd',v1]):=bh;let T4:=T3.mono (bp G);generalize upd H3 c (.tup [.str (stl (cd wd')),v1])=H4 at G S4 ec T4;let%[dx4,fs4,hs4|sf4]:=id S4;erw[0,sc,dx4,fs4,1,hs4,sf4.no3,sc,Tx,_,_,0,S4,cq (r:=r) (by rw[oP,show p+1+wd'.length+1+a.txt.length=p+(0+1)+wd'.length+(0+1)+a.txt.length by omega];exact hd4) #[0],by rw[l3];decide,λH5 S5 B5=>?_];rw[l3]at S5;let k5:=bX S4 B5;erw[0,6];rw[show p+1+wd'.length+1+a.txt.length+1=p+(Tm.ask wd' a).txt.length by rw[tlen];omega,show k+1+a.size=k+(Tm.ask wd' a).size by rw[es];omega]at S5;exact q _ _ (.ask (k5 _ _ ec) (T4.mono k5)) S5 (B1.trans (B2.trans (B3.trans ((zI0 G).trans B5))))
 . erw[oko,oka,okb]at ok;let%[o1,ol|no]:=pW o oko;let dd:a.depth<=n/\b.depth<=n/\wi+(a.depth:Int)<=8/\wi+(b.depth:Int)<=8:=by
    let e1:(Tm.op o a b).depth=max a.depth b.depth+1:=rfl;rw[e1]at dn wd;omega
   let es:(Tm.op o a b).size=a.size+b.size+1:=rfl;let wlen:(cd o).length=o.length:=dO _;let hd0:Tx.cps.toList.drop p=[40]++(cd o++([32]++(a.txt++([32]++(b.txt++([41]++r)))))):=by
    rw[hd];show([40]++(cd o++([32]++(a.txt++([32]++(b.txt++[41]))))))++r=_
    simp
   let tlen:(Tm.op o a b).txt.length=1+(o.length+(1+(a.txt.length+(1+(b.txt.length+1))))):=by
    show([40]++(cd o++([32]++(a.txt++([32]++(b.txt++[41])))))).length=_;simp only[zK0,zM0,zI1,wlen]
   let hl0:=iV hd0 pl;simp only[zK0,zM0,zI1,wlen]at hl0;let hd1:=bn hd0;let hd2:=bn hd1;let hd3:=bn hd2;let hd4:=bn hd3;let hd5:=bn hd4;let hd6:=bn hd5;simp only[zM0,zI1,wlen]at hd1 hd2 hd3 hd4 hd5 hd6;erw[0,sc,dx0,fs0,1,hs0,sf0.no3,sc,Tx,_,p,0,S0,cq (r:=cd o++([32]++(a.txt++([32]++(b.txt++([41]++r)))))) (by rw[jU];exact hd0) pl,by rw[l1];decide,λH1 S1 B1=>?_];rw[l1]at S1;let%[dx1,fs1,hs1|sf1]:=id S1;erw[0,sc,dx1,fs1,1,hs1,sf1.no4,sc,Tx,_,_,cd o,0,S1,tl,3,hd1,rc ol,.inr %[(32),0|.inl rfl],λH2 S2 B2=>?_];rw[wlen]at S2;erw[0,0,2,sc,wi+1,Tx,_,_,a,0,S2,tl,3,hd2,.inr %[(32),0|.inl rfl],oka,dd.1,3,3,λv1 H3 T3 S3 B3=>?_];erw[0,ja,0,.inr (hj _),1,⋯,0,6];let einj:inV (.str (stl (cd o))) (askW.map V.str)=false:=by rw[show stl (cd o)=o from gQ _,eX,zE1 no]
   rw[einj];apply cV ?_;erw[0,sa,0,.inr (hs _),1,⋯,0,6];let eins:inV (.str (stl (cd o))) (signW.map V.str)=true:=by rw[show stl (cd o)=o from gQ _,eX,zD1 oko]
   rw [eins];apply ee ?_;let hd4':Tx.cps.toList.drop (p+1+o.length+1+a.txt.length)=[32]++(b.txt++([41]++r)):=by
    rw[show p+1+o.length+1+a.txt.length=p+(0+1)+o.length+(0+1)+a.txt.length by omega];exact hd4
   erw[0,0,0,0,2,sc,wi+1,Tx,_,_,b,0,S3,tl,3,hd4',.inr %[(41),r,1|.inr (.inr rfl)],okb,dd.2.1,3,3,λv2 H4 T4 S4 B4=>?_];let T3':=T3.mono (bX S3 B4);erw[y4S,λc hc=>?_];let G:=zC0 hc (.tup [.str "op",.str (stl (cd o)),v1,v2]);let S5:=S4.same G;let ec:upd H4 c (.tup [.str "op",.str (stl (cd o)),v1,v2]) c=some (.tup [.str "op",.str o,v1,v2]):=bh;let T5:=T4.mono (bp G);let T5':=T3'.mono (bp G);generalize upd H4 c (.tup [.str "op",.str (stl (cd o)),v1,v2])=H5 at G S5 ec T5 T5';let%[dx5,fs5,hs5|sf5]:=id S5;erw[0,sc,dx5,fs5,1,hs5,sf5.no3,sc,Tx,_,_,0,S5,cq (r:=r) (by rw[oP,show p+1+o.length+1+a.txt.length+1+b.txt.length=p+(0+1)+o.length+(0+1)+a.txt.length+(0+1)+b.txt.length by omega];exact hd6) #[0],by rw[l3];decide,λH6 S6 B6=>?_];rw[l3]at S6;let k6:=bX S5 B6;erw[0,6];rw[show p+1+o.length+1+a.txt.length+1+b.txt.length+1=p+(Tm.op o a b).txt.length by rw[tlen];omega,show k+1+a.size+b.size=k+(Tm.op o a b).size by rw[es];omega]at S6;exact q _ _ (.op (k6 _ _ ec) (T5'.mono k6) (T5.mono k6)) S6 (B1.trans (B2.trans (B3.trans (B4.trans ((zI0 G).trans B6)))))
def tS:FnScope ["scan","within","word"] WE (ag iS):=%[|5]
def uQ{n:Int}(h:0<=n):bJ n∉plainW:=λhm=>by
 let%[_,w1,wl|_]:=kJ _ hm;cases e:cd (bJ n)with
 |nil=>
   have:=dO (bJ n)
   rw[e]at this
   simp at this
   omega
 |cons c r=>
   let h1:=jS h c (by rw[e];exact qB0);let h2:=wl c (by show c∈cd (bJ n);rw[e];exact qB0);omega
def xI:∀w∈plainW,w∈kept:=by decide
def Fe{n:Nat}(F:#["next_term",iS])(B:Bl mg)(X:Tx K mg)(T:STxt K mg C)(M:Mths P w K mg base C fE fS fT fW fF dE dS dT dW dF)(bZ:#[1,"is_name",WC,spTxt iI])(b7:#[1,"is_figures",WC,spTxt kN])(y9:#[2*n+4,"term_in_bracket",WE,spTB C n]):#[2*(n+1)+3,f,fd,WE,spNextT C (n+1)]:=by
 exists tS
 erw[sc,wi,Tx,p,k,t,r,1,S0,tl,pl,hd,er,ok,dn,wd,k20,q]at h;erw[ja,gj,hj]at X.plain;let MB:Room 1 _:=hr.mono #[0];let hr2:Room 2 _:=hr.mono #[0];refine⟨_,(aa (aQ (bu (pv 0) T.cl M.mT M.gT hr2 M.bT .nil aY %[aq|bc]))
  (aa (aQ (bu (pv 0) T.cl M.mE M.gE MB M.bE .nil aY %[1|bc]))
  (aa (aF (dN (bu (pv 0) T.cl M.mS M.gS MB M.bS .nil aY %[aq|bc])) (ac (aj (ai y9 hr #[0] rfl %[0,1|bc]))) ax)
  (aa #[ah,2,tS,bV (pv 0) T.cl M.mW M.gW MB M.bW .nil aY]
  (aa (aF (af gg (pv 2) (bQ (v:=.ref ja) rfl gj rfl) (by rfl')) (ac (aj (aM %[2|bc]))) ax)
  (aa (aF (dN (ai b7 hr #[0] rfl %[2|bc])) (ac (aj (aM %[aq,aW jj rfl B.int io %[2|bc]|bc]))) ax)
  (aa (aF (eQ (dN (ai bZ hr #[0] rfl %[2|bc]))) aX ax)
  (ac (aj (aM %[aq,2|bc])))))))))),?_⟩
 let l2:((" ":Str)).length=1:=by decide
 let dp:=t.depth_pos;let sp:=t.size_pos;let hl0:=iV hd pl;let hd1:=bn hd;simp only[zK0,zM0,zI1]at hl0 hd1;let%[dx0,fs0,hs0|sf0]:=id S0;erw[0,sc,dx0,fs0,1,hs0,sf0.no3,sc,Tx,_,p,0,S0,cq (r:=t.txt++r) (by rw[gi];exact hd) pl,by rw[l2];decide,λH1 S1 B1=>?_];rw[l2]at S1;let%[dx1,fs1,hs1|sf1]:=id S1;erw[0,sc,dx1,fs1,1,hs1,sf1.no1,0,sc,Tx,_,k,wi,1,S1,3,3,λH2 S2 B2=>?_];let%[Mw,fs2,hs2|sf2]:=id S2;erw[0,sc,Mw,fs2,1,hs2,sf2.no2,sc,Tx,_,_,0,S2,0,6];let shape:(((∃w a,t=.ask w a)∨∃s a b,t=.op s a b)/\∃z,t.txt=40::z)∨∃x:Str,t.txt=cd x/\oX (cd x)/\1<=x.length/\t.size=1/\((t=.plain x/\x∈plainW)∨(∃m,t=.num m/\x=bJ m/\0<=m/\m<1000000000000)∨(t=.box x/\NmK x)):=by
  cases t with
  |ask w a=>exact .inl %[.inl %[w,a|1]|0]
  |op s a b=>exact .inl %[.inr %[s,a,b|1]|0]
  |plain x=>
    let okx:x∈plainW:=ok;let%[_,w1,wl|_]:=kJ x okx;exact .inr %[x,1,dH wl,w1,1|.inl %[1|okx]]
  |num m=>exact .inr %[bJ m,1,rb ok.1,we ok.1,1|.inr (.inl %[m,1,1,ok.1|ok.2])]
  |box x=>
    let okx:NmK x:=ok;exact .inr %[x,1,dH okx.1.2.1,okx.2.1,1|.inr (.inr %[1|okx])]
 rcases shape with⟨kind,z,ez⟩ | ⟨x,et,pc,x1,s1,kd⟩
 . let hs:eJ Tx ("(":Str) ((p+1:Nat):Int)=true:=cq (r:=z++r) (by rw[jU];show _=40::(z++r);rw[hd1,ez];rfl) #[0];rw[hs];apply ee ?_;erw[0,0,sc,wi,Tx,p+1,k,t,r,1,S2,tl,3,hd1,ok,kind,dn,wd,k20,λv H3 T3 S3 B3=>?_];exact q v H3 T3 S3 (B1.trans (B2.trans B3))
 let%[c,r',hc|c40]:=zX pc (by rw[dO];exact x1) r;let hd':Tx.cps.toList.drop (p+1)=cd x++r:=by rw[hd1,et]
 rw[jo (hd'.trans hc) c40];apply cV ?_;erw[0,sc,Mw,fs2,1,hs2,sf2.no4,sc,Tx,_,_,cd x,r,1,S2,tl,3,hd',pc,er,λH3 S3 B3'=>?_];rw[show stl (cd x)=x from gQ _];rw[←et,←s1]at S3;let B3:SameBut sc H H3:=B1.trans (B2.trans B3');erw[0,ja,0,.inr (hj _),1,⋯,0,6];show if inV (.str x) (plainW.map V.str)=true then _ else _
 rw[eX];rcases kd with⟨rfl,okx⟩ | ⟨m,rfl,rfl,m0,m1⟩ | ⟨rfl,okx⟩
 . apply aU okx ?_;erw[0,y1S,λc hc=>?_];let G:=zC0 hc (.tup [.str x]);exact q _ _ (.plain bh) (S3.same G) (B3.trans (zI0 G))
 . apply ay (uQ m0) ?_;let nl:=gH m0 m1;erw[0,bJ m,1,3,λH4 S4=>%[0|6]];rw[uS m0 m1];apply ee ?_;erw[0,bJ m,m,1,uR m0 m1,3,y2S,λc hc=>?_];let G:=zC0 hc (.tup [.str "num",.int m]);exact q _ _ (.num bh) ((S3.same S4).same G) (B3.trans (zI0 (S4.trans G)))
 . let%[%[_,xl|_],_,x6|xk]:=id okx;apply ay (λh=>xk (xI x h)) ?_;erw[0,x,1,3,λH4 S4=>%[0|6]];rw[AI okx];apply cV ?_;erw[0,x,1,3,λH5 S5=>%[0|6]];rw[qb okx];apply cV ?_;erw[0,y2S,λc hc=>?_];let G:=zC0 hc (.tup [.str "box",.str x]);exact q _ _ (.box bh) (((S3.same S4).same S5).same G) (B3.trans (zI0 (S4.trans (S5.trans G))))
def Fd:#[3,f,fd,WE,spNextT C 0]:=by
 let no:∀vs H Q E,¬ spNextT C 0 vs H Q E:=λvs H Q E h=>by
  erw[_,_,_,_,_,t,_,_,_,_,_,_,_,_,h1,_]at h
  have:=t.depth_pos
  omega
 exists 3
def nK(F:#["next_term",iS])(m:mg "next_term"=some (.ref f))(Fj:Fun K "term_in_bracket" "term_in_bracket" dP fj fdj)(mj:mg "term_in_bracket"=some (.ref fj))(B:Bl mg)(X:Tx K mg)(T:STxt K mg C)(M:Mths P w K mg base C fE fS fT fW fF dE dS dT dW dF)(bZ:#[1,"is_name",WC,spTxt iI])(b7:#[1,"is_figures",WC,spTxt kN]):
 ∀n:Nat,#[2*n+3,f,fd,WE,spNextT C n]
 |0=>Fd
 |n+1=>
   let c1:=Cal.of F (nK F m Fj mj B X T M bZ b7 n) m (λ_ _ _ _ _ _ us hl=>by let%[u0,u1|1]:=Av hl;rfl)
   Fe F B X T M bZ b7 (Cal.of Fj (Et Fj X T M c1) mj (λ_ _ _ _ _ _ us hl=>by let%[u0,u1|1]:=Av hl;rfl))
instance spNextN(C:Addr):∀(sc:Addr)(T:Str)(p k:Nat)(x:Str)(r:List Nat),vs=[.ref sc]->ScanAt C H sc T p k->T.length<=1000->p<=T.length->T.cps.toList.drop p=[32]++(cd x++r)->tM r->NmK x->(∀H',ScanAt C H' sc T (p+1+x.length) k->SameBut sc H H'->Q (.str x) H'):=1
def t7:FnScope ["scan","word"] ["scan"] (ag kx):=%[|5]
def uF(F:#["next_name",kx])(T:STxt K mg C)(M:Mths P w K mg base C fE fS fT fW fF dE dS dT dW dF)(bZ:#[1,"is_name",WC,spTxt iI]):#[3,f,fd,["scan"],spNextN C]:=by
 exists t7
 erw[sc,Tx,p,k,x,r,1,S0,tl,pl,hd,er,ok,q]at h;let MB:Room 1 _:=hr.mono #[0];let hr2:Room 2 _:=hr.mono #[0];refine⟨_,(aa (aQ (bu (pv 0) T.cl M.mT M.gT hr2 M.bT .nil aY %[aq|bc]))
  (aa #[ah,1,t7,bV (pv 0) T.cl M.mW M.gW MB M.bW .nil aY]
  (aa (aF (eQ (dN (ai bZ hr #[0] rfl %[1|bc]))) aX ax)
  (ac (aj (pv 1)))))),?_⟩
 let l2:((" ":Str)).length=1:=by decide
 let hl0:=iV hd pl;let hd1:=bn hd;simp only[zK0,zM0,zI1]at hl0 hd1;let%[dx0,fs0,hs0|sf0]:=id S0;erw[0,sc,dx0,fs0,1,hs0,sf0.no3,sc,Tx,_,p,0,S0,cq (r:=cd x++r) (by rw[gi];exact hd) pl,by rw[l2];decide,λH1 S1 B1=>?_];rw[l2]at S1;let%[dx1,fs1,hs1|sf1]:=id S1;erw[0,sc,dx1,fs1,1,hs1,sf1.no4,sc,Tx,_,_,cd x,r,1,S1,tl,3,hd1,dH ok.1.2.1,er,λH2 S2 B2=>?_];rw[show stl (cd x)=x from gQ _];rw[dO]at S2;let x6:=ok.2.2.1;erw[0,x,1,3,λH3 S3=>%[0|6]];rw[qb ok];apply cV ?_;erw[0,q H3 (S2.same S3) (B1.trans (B2.trans (zI0 S3)))]
instance spNextF(C:Addr):∀(sc:Addr)(T:Str)(p k:Nat)(m:Int)(r:List Nat),vs=[.ref sc]->ScanAt C H sc T p k->T.length<=1000->p<=T.length->T.cps.toList.drop p=[32]++(cd (bJ m)++r)->tM r->0<=m->m<1000000000000->(∀H',ScanAt C H' sc T (p+1+(bJ m).length) k->SameBut sc H H'->Q (.int m) H'):=1
def kq:FnScope ["scan","word"] ["scan"] (ag iz):=%[|5]
def pP(F:#["next_figures",iz])(B:Bl mg)(T:STxt K mg C)(M:Mths P w K mg base C fE fS fT fW fF dE dS dT dW dF)(b7:#[1,"is_figures",WC,spTxt kN]):#[3,f,fd,["scan"],spNextF C]:=by
 exists kq
 erw[sc,Tx,p,k,m,r,1,S0,tl,pl,hd,er,m0,m1,q]at h;let MB:Room 1 _:=hr.mono #[0];let hr2:Room 2 _:=hr.mono #[0];refine⟨_,(aa (aQ (bu (pv 0) T.cl M.mT M.gT hr2 M.bT .nil aY %[aq|bc]))
  (aa #[ah,1,kq,bV (pv 0) T.cl M.mW M.gW MB M.bW .nil aY]
  (aa (aF (eQ (dN (ai b7 hr #[0] rfl %[1|bc]))) aX ax)
  (ac (aj (aW jj rfl B.int io %[1|bc])))))),?_⟩
 let l2:((" ":Str)).length=1:=by decide
 let hl0:=iV hd pl;let hd1:=bn hd;simp only[zK0,zM0,zI1]at hl0 hd1;let nl:=gH m0 m1;let%[dx0,fs0,hs0|sf0]:=id S0;erw[0,sc,dx0,fs0,1,hs0,sf0.no3,sc,Tx,_,p,0,S0,cq (r:=cd (bJ m)++r) (by rw[gi];exact hd) pl,by rw[l2];decide,λH1 S1 B1=>?_];rw[l2]at S1;let%[dx1,fs1,hs1|sf1]:=id S1;erw[0,sc,dx1,fs1,1,hs1,sf1.no4,sc,Tx,_,_,cd (bJ m),r,1,S1,tl,3,hd1,rb m0,er,λH2 S2 B2=>?_];rw[show stl (cd (bJ m))=bJ m from gQ _];rw[dO]at S2;erw[0,bJ m,1,3,λH3 S3=>%[0|6]];rw[uS m0 m1];apply cV ?_;erw[0,bJ m,m,1,uR m0 m1,3,q H3 (S2.same S3) (B1.trans (B2.trans (zI0 S3)))]
def iteNT{c A B:Prop}[Decidable c](hc:c)(h:B):if(!decide c)=true then A else B:=by
 rw[zD1 hc];exact cV h
def Hr.wd:Hr->Str
 |.fin=>"end" | .go _=>"go" | .iff _ _=>"if" | .set _ _=>"set" | .say _=>"say"
def Hr.rest:Hr->List Nat
 |.fin=>[] | .go n=>[32]++cd (bJ n) | .iff t n=>[32]++(t.txt++([32]++cd (bJ n))) | .set x t=>[32]++(cd x++([32]++t.txt)) | .say t=>[32]++t.txt
def Hr.codes(r:Hr):r.str.cps.toList=cd r.wd++r.rest:=by
 cases r with
 |fin=>decide
 |go n=>
   rw[show(Hr.go n).str=(("go":Str)++(" ":Str))++bJ n from rfl,ci,ci,gi];show(cd "go"++[32])++cd (bJ n)=cd "go"++([32]++cd (bJ n))
   simp
 |iff t n=>
   rw[show(Hr.iff t n).str=(((("if":Str)++(" ":Str))++t.str)++(" ":Str))++bJ n from rfl];simp only[ci,gi];show(((cd "if"++[32])++t.txt)++[32])++cd (bJ n)=cd "if"++([32]++(t.txt++([32]++cd (bJ n))))
   simp
 |set x t=>
   rw[show(Hr.set x t).str=(((("set":Str)++(" ":Str))++x)++(" ":Str))++t.str from rfl];simp only[ci,gi];show(((cd "set"++[32])++cd x)++[32])++t.txt=cd "set"++([32]++(cd x++([32]++t.txt)))
   simp
 |say t=>
   rw[show(Hr.say t).str=(("say":Str)++(" ":Str))++t.str from rfl,ci,ci,gi];show(cd "say"++[32])++t.txt=cd "say"++([32]++t.txt)
   simp
def lx:∀x∈(Wt:List Str),∀c∈x.cps.toList,97<=c/\c<=122:=by decide
def Hr.wd_ok(r:Hr):oX (cd r.wd):=by
 cases r with
 |fin=>exact dH (lx "end" ⋯)
 |go n=>exact dH (lx "go" ⋯)
 |iff t n=>exact dH (lx "if" ⋯)
 |set x t=>exact dH (lx "set" ⋯)
 |say t=>exact dH (lx "say" ⋯)
def Hr.rest_ok(r:Hr):tM r.rest:=by
 cases r with
 |fin=>exact .inl rfl
 |go n=>exact .inr %[(32),0|.inl rfl]
 |iff t n=>exact .inr %[(32),0|.inl rfl]
 |set x t=>exact .inr %[(32),0|.inl rfl]
 |say t=>exact .inr %[(32),0|.inl rfl]
instance spHRw:∀(r:Hr)(k:Int),vs=[.str r.str,.int k]->r.ok 20->(∀(v:V)(H':Hp),HrAt H' v r->Same H H'->Q v H'):=1
def ca:FnScope ["text","number","scan","word","row"] ["text","number"] (ag jQ):=%[|5]
def sJ(F:#["helper_row",jQ])(X:Tx K mg)(T:STxt K mg C)(M:Mths P w K mg base C fE fS fT fW fF dE dS dT dW dF)(MK:Mk K C fI)(GI:#[1,fI,fdI,WU,spSInit C])(bI:Binds K fdI WU [])
 (mJ:#[3,"next_name",["scan"],spNextN C])(fV:#[3,"next_figures",["scan"],spNextF C])(c9:#[19,"next_term",WE,spNextT C 8]):#[20,f,fd,["text","number"],spHRw]:=by
 exists ca
 erw[r,k,1,ok,q]at h;erw[tw,gw]at X.within;erw[tp,gp]at X.parts;let MB:Room 1 _:=hr.mono ⋯;let hr2:Room 2 _:=hr.mono ⋯;refine⟨_,(aa #[ah,2,ca,ib MK GI hr2 rfl T.mgC bI .nil aY %[0,1,bQ (v:=.int 8) rfl gw %[|0],bQ (v:=.int 20) rfl gp ⟨_,rfl⟩|bc]]
  (aa #[ah,3,ca,bV (pv 2) T.cl M.mW M.gW MB M.bW .nil aY]
  (aa #[ah,4,ca,aM %[3|bc]]
  (aa (aF (af aN (pv 3) aq (ao _)) (ac #[ah,4,ca,am op_catT (pv 4) (aM %[ai mJ hr ⋯ rfl %[2|bc],ai c9 hr ⋯ rfl %[2,ad|bc]|bc])]) (ac (aF (af aN (pv 3) aq (ao _)) (ac #[ah,4,ca,am op_catT (pv 4) (aM %[ai c9 hr ⋯ rfl %[2,ad|bc]|bc])]) (ac (aF (af aN (pv 3) aq (ao _)) (ac #[ah,4,ca,am op_catT (pv 4) (aM %[ai c9 hr ⋯ rfl %[2,ad|bc],ai fV hr ⋯ rfl %[2|bc]|bc])]) (ac (aF (af aN (pv 3) aq (ao _)) (ac #[ah,4,ca,am op_catT (pv 4) (aM %[ai fV hr ⋯ rfl %[2|bc]|bc])]) (ac (aF (af lE (pv 3) aq (ao _)) aX ax)))))))))
  (aa (aQ (bV (pv 2) T.cl M.mF M.gF MB M.bF .nil aY))
  (ac (aj (pv 4)))))))),?_⟩
 erw[0,0,λg dx nx ndx nex=>?_];let s3:Same H (upd (upd H dx (.own g)) g (.ins C dx [])):=λb o e=>by
  rw[aB (bi e nx),aB (bi e ndx)];exact e
 erw[g,dx,r.str,k,_,0,4,4,bh,λH1 S1 B1=>%[1|6]];let N1:Same H H1:=λb o e=>B1 b o (bi e nx) (s3 b o e)
 let tl:r.str.length<=1000:=zN0 (Hr.str_len ok) ⋯;let hc:=r.codes;let hlen:r.str.length=r.wd.length+r.rest.length:=by
  have:=congrArg List.length hc
  rw[dh,zK0,dO]at this;exact this
 let hd0:r.str.cps.toList.drop 0=cd r.wd++r.rest:=by rw[qO1];exact hc
 let%[dx1,fs1,hs1|sf1]:=id S1;erw[0,g,dx1,fs1,1,hs1,sf1.no4,g,r.str,(0),(0),cd r.wd,r.rest,1,S1,tl,zT0 _,hd0,r.wd_ok,r.rest_ok,λH2 S2 B2=>?_];rw[show stl (cd r.wd)=r.wd from gQ _];let hd1:=bn hd0;rw[dO]at S2 hd1;let N2:Same H H2:=λb o e=>B2 b o (bi e nx) (N1 b o e)
 erw[0,y1S,λa ha=>?_];let Ga:=zC0 ha (.tup [.str r.wd]);let ea:upd H2 a (.tup [.str r.wd]) a=some (.tup [.str r.wd]):=bh;let S3:=S2.same Ga;generalize upd H2 a (.tup [.str r.wd])=H3 at Ga ea S3;let N3:=N2.trans Ga;let isF:∀{x y:Str},x≠y->¬ V.str x=V.str y:=λh=>eU h
 cases r with
 |fin=>
   erw[0,1,0,6];apply ay (isF (x:="end") ⋯) ?_;erw[0,1,0,6];apply ay (isF (x:="end") ⋯) ?_;erw[0,1,0,6];apply ay (isF (x:="end") ⋯) ?_;erw[0,1,0,6];apply ay (isF (x:="end") ⋯) ?_;erw[0,1,0,6];apply iteNT rfl ?_;let%[dx3,fs3,hs3|sf3]:=id S3;let el:0+(Hr.fin).wd.length=(Hr.fin).str.length:=by rw[hlen];show 0+_=_+0;omega
   rw[el]at S3;erw[0,g,dx3,fs3,1,hs3,sf3.no5,g,_,0,S3,tl,6];erw[0,q _ H3 (.fin ea) N3]
 |go n=>
   erw[0,1,0,6];apply ay (isF (x:="go") ⋯) ?_;erw[0,1,0,6];apply ay (isF (x:="go") ⋯) ?_;erw[0,1,0,6];apply ay (isF (x:="go") ⋯) ?_;erw[0,1,0,6];apply aU rfl ?_;let hrl:(Hr.go n).rest.length=1+(bJ n).length:=by
    show([32]++cd (bJ n)).length=_;rw[zK0,dO];rfl
   erw[0,0,g,_,_,_,n,[],1,S3,tl,3,by rw[hd1];show [32]++cd (bJ n)=[32]++(cd (bJ n)++[]);rw[qZ1],.inl rfl,ok.1,ok.2,λH4 S4 B4=>?_];let ea4:=bX S3 B4 _ _ ea;erw[y1S,λb hb=>?_];let Gb:=zC0 hb (.tup [.int n]);erw[a,b,2,zB0 (Gb _ _ ea4),zB0 bh,by simp,y2S,λz=>(by cases z),λ_ p hp=>?_];let Gp:=zC0 hp (.tup ([V.str (Hr.go n).wd]++[V.int n]));let S5:=(S4.same Gb).same Gp;let ep:upd (upd H4 b (.tup [.int n])) p (.tup ([V.str (Hr.go n).wd]++[V.int n])) p=some (.tup [.str "go",.int n]):=bh;let N5:=Gb.trans Gp;generalize upd (upd H4 b (.tup [.int n])) p (.tup ([V.str (Hr.go n).wd]++[V.int n]))=H5 at S5 ep N5;rw[show 0+(Hr.go n).wd.length+1+(bJ n).length=(Hr.go n).str.length by omega]at S5;let%[dx5,fs5,hs5|sf5]:=id S5;erw[0,g,dx5,fs5,1,hs5,sf5.no5,g,_,0,S5,tl,6];erw[0,q _ H5 (.go ep) λc o e=>N5 _ _ (B4 c o (bi e nx) (N3 c o e))]
 |say t=>
   erw[0,1,0,6];apply ay (isF (x:="say") ⋯) ?_;erw[0,1,0,6];apply aU rfl ?_;let hrl:(Hr.say t).rest.length=1+t.txt.length:=by
    show([32]++t.txt).length=_;rw[zK0];rfl
   let ok':t.fit 20:=ok;erw[0,0,g,(1),_,_,_,t,[],1,S3,tl,3,by rw[hd1];show [32]++t.txt=[32]++(t.txt++[]);rw[qZ1],.inl rfl,ok'.1,ok'.2.2,by have:=ok'.2.2;omega,by have:=ok'.2.1;omega,λv H4 T4 S4 B4=>?_];let ea4:=bX S3 B4 _ _ ea;erw[y1S,λb hb=>?_];let Gb:=zC0 hb (.tup [v]);erw[a,b,2,zB0 (Gb _ _ ea4),zB0 bh,by simp,y2S,λz=>(by cases z),λ_ p hp=>?_];let Gp:=zC0 hp (.tup ([V.str (Hr.say t).wd]++[v]));let S5:=(S4.same Gb).same Gp;let ep:upd (upd H4 b (.tup [v])) p (.tup ([V.str (Hr.say t).wd]++[v])) p=some (.tup [.str "say",v]):=bh;let N5:=Gb.trans Gp;generalize upd (upd H4 b (.tup [v])) p (.tup ([V.str (Hr.say t).wd]++[v]))=H5 at S5 ep N5;rw[show 0+(Hr.say t).wd.length+1+t.txt.length=(Hr.say t).str.length by omega]at S5;let%[dx5,fs5,hs5|sf5]:=id S5;erw[0,g,dx5,fs5,1,hs5,sf5.no5,g,_,0,S5,tl,6];erw[0,q _ H5 (.say ep (T4.mono (bp N5))) λc o e=>N5 _ _ (B4 c o (bi e nx) (N3 c o e))]
 |iff t n=>
   erw[0,1,0,6];apply ay (isF (x:="if") ⋯) ?_;erw[0,1,0,6];apply ay (isF (x:="if") ⋯) ?_;erw[0,1,0,6];apply aU rfl ?_;let hrl:(Hr.iff t n).rest.length=1+(t.txt.length+(1+(bJ n).length)):=by
    show([32]++(t.txt++([32]++cd (bJ n)))).length=_;simp only[zK0,zM0,zI1,dO]
   erw[ok',n0,n1]at ok;let hd2:(Hr.iff t n).str.cps.toList.drop (0+(Hr.iff t n).wd.length)=[32]++(t.txt++([32]++(cd (bJ n)++[]))):=by rw[hd1,qZ1];rfl
   let hd3:=bn (bn hd2);simp only[zM0,zI1]at hd3;erw[0,0,g,(1),_,_,_,t,0,S3,tl,3,hd2,.inr %[(32),0|.inl rfl],ok'.1,ok'.2.2,by have:=ok'.2.2;omega,by have:=ok'.2.1;omega,λv H4 T4 S4 B4=>?_];let ea4:=bX S3 B4 _ _ ea;erw[0,g,_,_,_,n,[],1,S4,tl,3,hd3,.inl rfl,n0,n1,λH5 S5 B5=>?_];let ea5:=bX S4 B5 _ _ ea4;let T5:=T4.mono (bX S4 B5);erw[y2S,λb hb=>?_];let Gb:=zC0 hb (.tup [v,.int n]);erw[a,b,2,zB0 (Gb _ _ ea5),zB0 bh,by simp,y3S,λz=>(by cases z),λ_ p hp=>?_];let Gp:=zC0 hp (.tup ([V.str (Hr.iff t n).wd]++[v,V.int n]));let S6:=(S5.same Gb).same Gp;let ep:upd (upd H5 b (.tup [v,.int n])) p (.tup ([V.str (Hr.iff t n).wd]++[v,V.int n])) p=some (.tup [.str "if",v,.int n]):=bh;let N6:=Gb.trans Gp;generalize upd (upd H5 b (.tup [v,.int n])) p (.tup ([V.str (Hr.iff t n).wd]++[v,V.int n]))=H6 at S6 ep N6;rw[show 0+(Hr.iff t n).wd.length+1+t.txt.length+1+(bJ n).length=(Hr.iff t n).str.length by omega]at S6;let%[dx6,fs6,hs6|sf6]:=id S6;erw[0,g,dx6,fs6,1,hs6,sf6.no5,g,_,0,S6,tl,6];erw[0,q _ H6 (.iff ep (T5.mono (bp N6))) λc o e=>N6 _ _ (B5 c o (bi e nx) (B4 c o (bi e nx) (N3 c o e)))]
 |set x t=>
   erw[0,1,0,6];apply aU rfl ?_;let hrl:(Hr.set x t).rest.length=1+(x.length+(1+t.txt.length)):=by
    show([32]++(cd x++([32]++t.txt))).length=_;simp only[zK0,zM0,zI1,dO]
   erw[okx,ok']at ok;let hd2:(Hr.set x t).str.cps.toList.drop (0+(Hr.set x t).wd.length)=[32]++(cd x++([32]++(t.txt++[]))):=by rw[hd1,qZ1];rfl
   let hd3:=bn (bn hd2);simp only[zM0,zI1,dO]at hd3;erw[0,0,g,_,_,_,x,0,S3,tl,3,hd2,.inr %[(32),0|.inl rfl],okx,λH4 S4 B4=>?_];let ea4:=bX S3 B4 _ _ ea;erw[0,g,(1),_,_,_,t,[],1,S4,tl,3,hd3,.inl rfl,ok'.1,ok'.2.2,by have:=ok'.2.2;omega,by have:=ok'.2.1;omega,λv H5 T5 S5 B5=>?_];let ea5:=bX S4 B5 _ _ ea4;erw[y2S,λb hb=>?_];let Gb:=zC0 hb (.tup [.str x,v]);erw[a,b,2,zB0 (Gb _ _ ea5),zB0 bh,by simp,y3S,λz=>(by cases z),λ_ p hp=>?_];let Gp:=zC0 hp (.tup ([V.str (Hr.set x t).wd]++[.str x,v]));let S6:=(S5.same Gb).same Gp;let ep:upd (upd H5 b (.tup [.str x,v])) p (.tup ([V.str (Hr.set x t).wd]++[.str x,v])) p=some (.tup [.str "set",.str x,v]):=bh;let N6:=Gb.trans Gp;generalize upd (upd H5 b (.tup [.str x,v])) p (.tup ([V.str (Hr.set x t).wd]++[.str x,v]))=H6 at S6 ep N6;rw[show 0+(Hr.set x t).wd.length+1+x.length+1+t.txt.length=(Hr.set x t).str.length by omega]at S6;let%[dx6,fs6,hs6|sf6]:=id S6;erw[0,g,dx6,fs6,1,hs6,sf6.no5,g,_,0,S6,tl,6];erw[0,q _ H6 (.set ep (T5.mono (bp N6))) λc o e=>N6 _ _ (B5 c o (bi e nx) (B4 c o (bi e nx) (N3 c o e)))]
def Tm.txt_hi:∀t:Tm,t.ok->∀c∈t.txt,32<=c
 |.num n,h,c,hc=>by have:=jS h.1 c hc;omega
 |.box x,h,c,hc=>by have:=h.1.2.1 c hc;omega
 |.plain w,h,c,hc=>by have:=(kJ w h).2.2.1 c hc;omega
 |.ask w a,⟨h,h1⟩,c,hc=>by
   let hc':c∈[40]++(cd w++([32]++(a.txt++[41]))):=hc;simp only[List.mem_append,qG1]at hc';rcases hc' with e | e | e | e | e
   . omega
   . have:=(vo w h).2.2.1 c e;omega
   . omega
   . exact Tm.txt_hi a h1 c e
   . omega
 |.op o a b,⟨h,h1,h2⟩,c,hc=>by
   let hc':c∈[40]++(cd o++([32]++(a.txt++([32]++(b.txt++[41]))))):=hc;simp only[List.mem_append,qG1]at hc';rcases hc' with e | e | e | e | e | e | e
   . omega
   . have:=(pW o h).2.1 c e;omega
   . omega
   . exact Tm.txt_hi a h1 c e
   . omega
   . exact Tm.txt_hi b h2 c e
   . omega
def Gx{r:Hr}(ok:r.ok 20):∀c∈cd r.str,32<=c:=by
 intro c hc;let hc1:c∈cd r.wd++r.rest:=by rw[←r.codes];exact hc
 let nm:∀{n:Int},0<=n->c∈cd (bJ n)->32<=c:=λh0 h=>by have:=jS h0 c h;omega
 rcases qG0 hc1 with h | h
 . have:=r.wd_ok
   let h5:∀x∈(Wt:List Str),c∈cd x->32<=c:=λx hx hc=>by have:=lx x hx c hc;omega
   cases r with
   |fin=>exact h5 "end" ⋯ h
   |go n=>exact h5 "go" ⋯ h
   |iff t n=>exact h5 "if" ⋯ h
   |set x t=>exact h5 "set" ⋯ h
   |say t=>exact h5 "say" ⋯ h
 . cases r with
   |fin=>cases h
   |go n=>
     let h':c∈[32]++cd (bJ n):=h;simp only[List.mem_append,qG1]at h';rcases h' with e | e
     . omega
     . exact nm ok.1 e
   |iff t n=>
     let h':c∈[32]++(t.txt++([32]++cd (bJ n))):=h;simp only[List.mem_append,qG1]at h';rcases h' with e | e | e | e
     . omega
     . exact Tm.txt_hi t ok.1.1 c e
     . omega
     . exact nm ok.2.1 e
   |set x t=>
     let h':c∈[32]++(cd x++([32]++t.txt)):=h;simp only[List.mem_append,qG1]at h';rcases h' with e | e | e | e
     . omega
     . have:=ok.1.1.2.1 c e;omega
     . omega
     . exact Tm.txt_hi t ok.2.1 c e
   |say t=>
     let h':c∈[32]++t.txt:=h;simp only[List.mem_append,qG1]at h';rcases h' with e | e
     . omega
     . exact Tm.txt_hi t (show t.fit 20 from ok).1 c e
def rN(g:sk rs)(h0:rs≠[]):Txt.split (lH rs) ("\n":Str)=rs.map Hr.str:=by
 unfold lH;rw[CN,nQ];apply lT (c:=10) (λz=>h0 (List.map_eq_nil_iff.mp z)) λp hp hc=>?_
 let%[r,hr|1]:=List.mem_map.mp hp
 have:=Gx (g.2 r hr) 10 hc
 omega
def AE(g:sk rs)(h0:rs≠[]):lH rs≠"":=λe=>by
 let h1:=rN g h0;rw[e,show Txt.split ("":Str) ("\n":Str)=[("":Str)]from by decide]at h1;cases rs with
 |nil=>exact h0 rfl
 |cons r l=>
   let h2:=(List.cons.inj h1).1;let h3:=r.codes;rw[←h2]at h3;let h4:cd r.wd=[]:=(List.append_eq_nil_iff.mp h3.symm).1;let h5:∀x∈(Wt:List Str),cd x≠[]:=by decide
   cases r with
   |fin=>exact h5 "end" ⋯ h4
   |go n=>exact h5 "go" ⋯ h4
   |iff t n=>exact h5 "if" ⋯ h4
   |set x t=>exact h5 "set" ⋯ h4
   |say t=>exact h5 "say" ⋯ h4
instance spReadH:∀rs:List Hr,vs=[.str (lH rs)]->sk rs->(∀(a:Addr)(tv:List V)(H':Hp),H' a=some (.tup tv)->RowsAt H' tv rs->Same H H'->Q (.ref a) H'):=1
def fX:FnScope ["text","helper","number","row"] WC (ag jb):=%[|5]
def rk(F:#["read_helper",jb])(B:Bl mg)(X:Tx K mg)(j9:#[20,"helper_row",["text","number"],spHRw]):#[21,f,fd,WC,spReadH]:=by
 exists fX
 erw[rs,1,g,q]at h;erw[tm,gm]at X.rows;refine⟨_,(aa (aF (af aN (pv 0) aq (ao _)) (ac (aj (aM bc))) ax)
  (aa #[ah,1,fX,dq bc]
  (aa (cQ zG1 rfl (EQ rfl B.enumerate (cA zH1 jO0 jO1 rD (pv 0) %[aq|bc])) (uA rfl (gN (bt (i:=2) fX.nd rfl (.inl rfl)) (gN (bt (i:=3) fX.nd rfl (.inl rfl)) pY))) (aa (aF (af aN (pv 2) (bQ (v:=.int 60) rfl gm ⟨_,rfl⟩) (ao _)) aX ax)
   (ac (aQ (cA zF1 zL1 zM1 cx (pv 1) %[ai j9 hr ⋯ rfl %[3,2|bc]|bc])))))
  (ac (aj (aW bz rfl B.tuple cj %[1|bc])))))),?_⟩
 let tl:=Dy g;let r60:=g.1;erw[0,1,0,6]
 by_cases c0:rs=[]
 . subst c0;apply aU (by show V.str (lH [])=V.str "";decide) ?_;erw[zT0 _,λt ht=>?_];exact q t [] _ bh RowsAt.nil (zC0 ht _)
 apply ay (λz=>AE g c0 (Bu z)) ?_;erw[zT0 _,λL hL=>?_];let GL:=zC0 hL (.lst []);let gL:upd H L (.lst []) L=some (.lst []):=bh;generalize upd H L (.lst [])=H1 at GL gL;let ts:=rN g c0;erw[0,1,2,⋯,3,by rw[ts,zF0];omega,λa ha=>?_];rw[ts];let Ga:=zC0 ha (.lst ((rs.map Hr.str).map V.str));let ga:upd H1 a (.lst ((rs.map Hr.str).map V.str)) a=some (.lst ((rs.map Hr.str).map V.str)):=bh;let aL:a≠L:=λz=>by rw[z,gL]at ha;cases ha
 generalize upd H1 a (.lst ((rs.map Hr.str).map V.str))=H2 at Ga ga;let gL2:=Ga _ _ gL;refine⟨a,rfl,%[_|zG0 ga],DG (K:=K) (xs:=(rs.map Hr.str).map V.str) (λi σ H'=>∃(x2 x3:Option V)(tv:List V),σ=[some (.str (lH rs)),some (.ref L),x2,x3]/\H' L=some (.lst tv)/\RowsAt H' tv (rs.take i)/\SameBut L H2 H')
  %[_,_,[],1,gL2,RowsAt.nil|SameBut.refl _ _] (λi σ H' _ Mx=>by erw[_,_,_,_,_,_,h]at Mx;exact zG0 (h _ _ aL ga)) ?_ ?_⟩
 . rintro i z σ H3 t hz ⟨x2,x3,tv,rfl,hL3,R3,S3⟩ ht;let hi:=(zW0 hz).1;rw[zF0,zF0]at hi;rw[zZ0,zZ0,Option.map_map]at hz;let%[r,hr'|1]:=qQ0 hz;let Gt:=zC0 ht (.tup [.int (i:Int),.str r.str]);let hL4:=Gt _ _ hL3;let vl:=R3.1;rw[qE0]at vl;erw[t,0,zB0 bh,1,_,0,2,6];erw[0,1,0,6];apply ay (λz=>by have:=V.int.inj z;omega) ?_;erw[0,.inl %[1,_|zG0 hL4],0,0,r,0,g.2 r (qI0 hr'),λv H4 ra S4=>?_];let S34:Same H3 H4:=Gt.trans S4;let hL5:=S34 _ _ hL3;let kp:cH H4 (upd H4 L (.lst (tv++[v]))):=Dq hL5;erw[L,2,hL5,aO #[0],6];erw[_,_,tv++[v],1,bh,6,6]
   . rw[qJ0,hr'];exact((R3.mono (bp S34)).mono kp).snoc (ra.mono kp)
   . exact S3.trans ((zI0 S34).trans (SameBut.upd _))
 . rintro σ H3 ⟨x2,x3,tv,rfl,hL3,R3,S3⟩;rw[zF0,zF0,qF0]at R3;erw[0,L,0,.inl %[zG0 hL3|λt ht=>?_]];let S03:Same H H3:=λb o e=>S3 b o (bi e hL) (Ga _ _ (GL _ _ e))
   exact q t tv _ bh (R3.mono (bp (zC0 ht _))) (S03.trans (zC0 ht _))
def Hr.leads(n:Nat):Hr->Prop
 |.go i=>0<=i/\i<(n:Int) | .iff _ i=>0<=i/\i<(n:Int) | _=>True
instance spLook:∀(a:Addr)(tv:List V)(rs:List Hr),vs=[.ref a]->H a=some (.tup tv)->RowsAt H tv rs->(∀r∈rs,r.leads rs.length)->(∀H',Same H H'->Q (.bl true) H'):=1
def iu:FnScope ["helper","number","row"] WT (ag je):=%[|5]
def inV_ig:inV (.str "if") [.str "if",.str "go"]=true/\inV (.str "go") [.str "if",.str "go"]=true/\inV (.str "set") [.str "if",.str "go"]=false/\inV (.str "say") [.str "if",.str "go"]=false/\inV (.str "end") [.str "if",.str "go"]=false:=by decide
def Fs{n:Nat}(h:HrAt H v r)(l:r.leads n):∃(a:Addr) (x:Str) (xs:List V),v=.ref a/\H a=some (.tup (.str x::xs))/\(inV (.str x) [.str "if",.str "go"]=false∨inV (.str x) [.str "if",.str "go"]=true/\∃i:Int,atI (.str x::xs) (-1)=some (.int i)/\0<=i/\i<(n:Int)):=by
 cases h with
 |fin e=>erw[_,_,0,e,.inl inV_ig.2.2.2.2]
 |go e=>erw[_,_,0,e,.inr %[inV_ig.2.1,0|l]]
 |iff e _=>erw[_,_,0,e,.inr %[inV_ig.1,0|l]]
 |set e _=>erw[_,_,0,e,.inl inV_ig.2.2.1]
 |say e _=>erw[_,_,0,e,.inl inV_ig.2.2.2.1]
def rm(F:#["look_helper",je])(B:Bl mg):#[1,f,fd,WT,spLook]:=by
 exists iu
 erw[a,tv,rs,1,ha,R,ld,q]at h;refine⟨_,(aa (cQ zG1 rfl (vN rfl B.enumerate (pv 0)) (uA rfl (gN (bt (i:=1) iu.nd rfl (.inl rfl)) (gN (bt (i:=2) iu.nd rfl (.inl rfl)) pY))) (ac (aF (PW.pt (oF (af gg (aI aJ (pv 2) ad #[1]) (aM %[aq,aq|bc]) (by rfl')) (ng (eQ (vK sT dM ad (aI aJ (pv 2) (vO qk ad) #[1]) (aE aD rfl B.len zC1 %[0|bc])))))) aX ax)))
  (ac (aj ju))),?_⟩
 erw[0,a,1,%[_|zB0 ha],tj (K:=K) (xs:=tv) (λi σ H'=>∃x1 x2:Option V,σ=[some (.ref a),x1,x2]/\Same H H') %[_,0|Same.refl _] (λi σ H' _ Mx=>by erw[_,_,_,h]at Mx;exact zB0 (h _ _ ha)) ?_ ?_]
 . rintro i z σ H1 t hz ⟨x1,x2,rfl,S1⟩ ht;let hi:i<rs.length:=by rw[←R.1];exact(zW0 hz).1
   let G:=zC0 ht (.tup [.int (i:Int),z]);let S2:=S1.trans G;let%[r,x,xs,1,er|cs]:=Fs ((R.2 i z _ hz (zO0 hi)).mono (bp S2)) (ld _ (qO0 hi));erw[t,0,zB0 bh,1,_,0,2,6];erw[0,r,_,(0),0,1,zB0 er,at0 ..,y2S,λL hL=>?_];let G3:=zC0 hL (.tup [.str "if",.str "go"]);erw[L,0,.inr (zB0 bh),1,1,0,6];rcases cs with c | ⟨c,n,hl,n0,n1⟩
   . rw[c];exact cV %[_,0|S2.trans G3]
   . rw[c];apply ee ?_;erw[0,0,r,_,-1,0,1,zB0 (G3 _ _ er),hl,2,0,6];rw[zD1 n0];apply ee ?_;erw[0,a,0,.inr (zB0 (G3 _ _ (S2 _ _ ha))),2,0,6];rw[R.1,zD1 n1];exact cV ⟨_,_,rfl,S2.trans G3⟩
 . rintro σ H1 ⟨x1,x2,rfl,S1⟩;exact q _ S1
def Tm.gs(m:Int)(t:Tm):Prop:=t.ok/\(t.size:Int)<=m
def gs1{t:Tm}(h:t.ok)(s:t.size=1):t.gs 1:=%[h|3]
def Tm.gs.up{t:Tm}{m n:Int}(h:t.gs m)(e:m<=n):t.gs n:=%[h.1|by have:=h.2;omega]
def Tm.ok_good:∀t:Tm,t.ok->t.good
 |.num _,_=>trivial
 |.box _,_=>trivial
 |.plain _,h=>h
 |.ask _ a,h=>%[h.1|Tm.ok_good a h.2]
 |.op _ a b,h=>%[h.1,Tm.ok_good a h.2.1|Tm.ok_good b h.2.2]
instance spTerm(n:Nat):∀(f b:Addr)(bs:List Str)(room deep:Int),vs=[.ref f,.ref b,.int room,.int deep]->FeedAt H f->H b=some (.lst (bs.map V.str))->b≠f->1<=bs.length->bs.length<=100->(∀x∈bs,NmK x)->1<=room->room<=100->1<=deep->deep<=(n:Int)->(∀(v:V)(t:Tm)(H':Hp),TmAt H' v t->t.gs room->(t.depth:Int)<=deep->FeedAt H' f->SameBut f H H'->Q v H'):=1
def i8:FnScope ["_law_feed_here","_law_boxes","_law_room","_law_deep","_law_form","_law_plain","_law_more","_law_one"] Wc (ag mX):=%[|5]
def EG:∀c∈(("+-*/=<":Str)).cps.toList,(%[|#[c]]:Str)∈signW:=by decide
def BC:(("+-*/=<":Str)).cps.toList.length=6:=by decide
instance tLeaf(Dn:Ends)(σ:St)(H:Hp):∀(x2 x3 x5 x6 x7:Option V)(f b:Addr)(bs:List Str)(fm:Int),σ=[some (.ref f),some (.ref b),x2,x3,some (.int fm),x5,x6,x7]->FeedAt H f->H b=some (.lst (bs.map V.str))->b≠f->1<=bs.length->bs.length<=100->(∀x∈bs,NmK x)->(∀(v:V)(t:Tm)(H':Hp),TmAt H' v t->t.gs 1->t.depth=1->FeedAt H' f->SameBut f H H'->Dn.rt v H'):=0
instance tAskT(n:Nat)(Dn:Ends)(σ:St)(H:Hp):∀(x4 x5 x6 x7:Option V)(f b:Addr)(bs:List Str)(room deep:Int),σ=[some (.ref f),some (.ref b),some (.int room),some (.int deep),x4,x5,x6,x7]->FeedAt H f->H b=some (.lst (bs.map V.str))->b≠f->1<=bs.length->bs.length<=100->(∀x∈bs,NmK x)->2<=room->room<=100->2<=deep->deep<=(n:Int)+1->(∀(v:V)(t:Tm)(H':Hp),TmAt H' v t->t.gs room->(t.depth:Int)<=deep->FeedAt H' f->SameBut f H H'->Dn.rt v H'):=0
structure PSW(X:Cx)(st:List Stmt)(t:TS):Prop where
 out:PSs X st t
def Gy{pos:Pos}(hc:PT X c tc)(ha:PSW X a t)(hb:PSs X b u):PS X (.If c a b pos) (Gj tc t u):=aF hc ha.out hb
def Dj{X:Cx}{i:Nat}{x:Str}{pos' pos p:Pos}{t':TS}(hN:X.N.Nodup)(hi:X.N[i]?=some x)(hx:Loc X.env.scope x)(h1:PE X e1 t1)(h2:PE X e2 t2)(h3:PE X e3 t3)(h4:PE X e4 t4)(h5:PE X e5 t5)(hr:PSs X rest u)
 (hw:∀D σ H,t' D σ H->Gg (Ey (tLst (qp t1 (qp t2 (qp t3 (qp t4 (qp t5 Ex)))))) (zb i)) u D σ H)
 (s1:starEach [e1,e2,e3,e4,e5] X.env=(false,eval e1 X.env)::starEach [e2,e3,e4,e5] X.env:=by rfl)(s2:starEach [e2,e3,e4,e5] X.env=(false,eval e2 X.env)::starEach [e3,e4,e5] X.env:=by rfl)(s3:starEach [e3,e4,e5] X.env=(false,eval e3 X.env)::starEach [e4,e5] X.env:=by rfl)(s4:starEach [e4,e5] X.env=(false,eval e4 X.env)::starEach [e5] X.env:=by rfl)(s5:starEach [e5] X.env=(false,eval e5 X.env)::starEach [] X.env:=by rfl)
 (hf:X.fn x=true∨X.env.scope.names.lookup x=some .local:=by first | exact .inl rfl | exact .inr rfl):PSW X (.Assign [.Name x pos'] (.List [e1,e2,e3,e4,e5] p) pos::rest) t':=
 %[|gC (aa (ah hN hi hx (dq (ae h1 (ae h2 (ae h3 (ae h4 (ae h5 bc s5) s4) s3) s2) s1)) rfl hf) hr) hw]
def Di{n:Nat}(F:Fun K "_law_term" "_law_term" mX fA fd)(B:Bl mg)(a7:#[1,"_law_take",WF,spTake])(fb:#[n+2,"_law_term",Wc,spTerm n]):#[n+3,fA,fd,Wc,spTerm (n+1)]:=by
 exists i8
 erw[f,b,bs,room,deep,1,F0,hb,nb,b1,b2,nk,r1,r2,d1,d2,q]at h;let hp12:(10:Int) ^ (12:Int).toNat=1000000000000:=by decide
 refine⟨_,(aa #[ah,4,i8,ai a7 hr #[0] rfl %[0,ad|bc]]
  (aa (Gy (PW.pt (eF (af dM (pv 2) ad (ao _)) (eF (af dM (pv 3) ad (ao _)) (dZ (af dM (pv 4) ad (ao _)))))) (Dj (t':=tLeaf) (i:=5) i8.nd rfl (.inl rfl) (aM %[aq|bc]) (aM %[aq|bc]) (aM %[aq|bc]) (aM %[aq,ai a7 hr #[0] rfl %[0,ad|bc]|bc]) (aM %[aq,ai a7 hr #[0] rfl %[0,am Cj ad ad|bc]|bc])
   (aa (aF (af aN (pv 4) ad (ao _)) (ac (aj (aM %[aq,aI ix_list (pv 1) (ai a7 hr #[0] rfl %[0,aE (x:="len") aD rfl B.len zC1 %[1|bc]|bc]) #[1]|bc]))) ax)
   (ac (aj (aI ix_list (pv 5) (ai a7 hr #[0] rfl %[0,ad|bc]) #[1])))) (by
    rintro Dn σ H ⟨x2,x3,x5,x6,x7,f,b,bs,fm,rfl,F0,hb,nb,b1,b2,nk,q⟩;erw[y1S,λp1 hp1=>%[y1S|λp2 hp2=>%[y1S|λp3 hp3=>?_]]];let g1:=zC0 hp1 (.tup [.str "round"]);let g2:=zC0 hp2 (.tup [.str "due"]);let g3:=zC0 hp3 (.tup [.str "asked"]);let e1:upd (upd (upd H p1 (.tup [.str "round"])) p2 (.tup [.str "due"])) p3 (.tup [.str "asked"]) p1=some (.tup [.str "round"]):=g3 _ _ (g2 _ _ bh);let e2:upd (upd (upd H p1 (.tup [.str "round"])) p2 (.tup [.str "due"])) p3 (.tup [.str "asked"]) p2=some (.tup [.str "due"]):=g3 _ _ bh;let e3:upd (upd (upd H p1 (.tup [.str "round"])) p2 (.tup [.str "due"])) p3 (.tup [.str "asked"]) p3=some (.tup [.str "asked"]):=bh;let S3:=g1.trans (g2.trans g3);generalize upd (upd (upd H p1 (.tup [.str "round"])) p2 (.tup [.str "due"])) p3 (.tup [.str "asked"])=H3 at e1 e2 e3 S3;erw[0,f,(5),1,F0.same S3,4,4,λw1 H4 a0 a1 F4 B4=>%[y2S|λp4 hp4=>?_]];let k4:=aZ (F0.same S3) B4;let g4:=zC0 hp4 (.tup [.str "num",.int w1]);let e4:upd H4 p4 (.tup [.str "num",.int w1]) p4=some (.tup [.str "num",.int w1]):=bh;generalize upd H4 p4 (.tup [.str "num",.int w1])=H5 at g4 e4;erw[0,2,%[4,4|4],f,0,F4.same g4,(by show(0:Int)<10 ^ (12:Int).toNat;rw[hp12];decide),(by show(10:Int) ^ (12:Int).toNat<2 ^ 63;rw[hp12];decide),λw2 H6 c0 c1 F6 B6=>%[y2S|λp5 hp5=>%[y5S|λL hL=>?_]]];let c1:w2<1000000000000:=by rw[←hp12];exact c1
    let k6:=aZ (F4.same g4) B6;let g5:=zC0 hp5 (.tup [.str "num",.int w2]);let g6:=zC0 hL (.lst [.ref p1,.ref p2,.ref p3,.ref p4,.ref p5]);let e5:upd (upd H6 p5 (.tup [.str "num",.int w2])) L (.lst [.ref p1,.ref p2,.ref p3,.ref p4,.ref p5]) p5=some (.tup [.str "num",.int w2]):=g6 _ _ bh;let eL:upd (upd H6 p5 (.tup [.str "num",.int w2])) L (.lst [.ref p1,.ref p2,.ref p3,.ref p4,.ref p5]) L=some (.lst [.ref p1,.ref p2,.ref p3,.ref p4,.ref p5]):=bh;let F7:=F6.same (g5.trans g6);let S7:SameBut f H (upd (upd H6 p5 (.tup [.str "num",.int w2])) L (.lst [.ref p1,.ref p2,.ref p3,.ref p4,.ref p5])):=(zI0 S3).trans (B4.trans ((zI0 g4).trans (B6.trans (zI0 (g5.trans g6)))));let Lf:L≠f:=(F6.same g5).ne hL;let J:cH H5 (upd (upd H6 p5 (.tup [.str "num",.int w2])) L (.lst [.ref p1,.ref p2,.ref p3,.ref p4,.ref p5])):=λa xs e=>(g5.trans g6) _ _ (k6 _ _ e)
    let J3:cH H3 (upd (upd H6 p5 (.tup [.str "num",.int w2])) L (.lst [.ref p1,.ref p2,.ref p3,.ref p4,.ref p5])):=λa xs e=>J _ _ (g4 _ _ (k4 _ _ e))
    let e1':=J3 _ _ e1;let e2':=J3 _ _ e2;let e3':=J3 _ _ e3;let e4':=J _ _ e4;generalize upd (upd H6 p5 (.tup [.str "num",.int w2])) L (.lst [.ref p1,.ref p2,.ref p3,.ref p4,.ref p5])=H7 at e1' e2' e3' e4' e5 eL F7 S7;let hb7:=S7 _ _ nb hb;clear J J3 e1 e2 e3 e4 k4 k6;erw[0,1,0,6]
    by_cases c:fm=3
    . apply aU (congrArg V.int c) ?_;let bl:(bs.map V.str).length=bs.length:=zF0 _;erw[0,0,0,b,0,.inl (zG0 hb7),f,0,F7,3,3,λd H8 d0 d1 F8 B8=>?_];let%[v,hv|vm]:=pJ (l:=bs.map V.str) (i:=d) d0 d1;let%[x,hx|1]:=List.mem_map.mp vm;erw[b,_,2,zG0 (B8 _ _ nb hb7),hv,y2S,λp8 hp8=>?_];let g8:=zC0 hp8 (.tup [.str "box",.str x]);exact q _ (.box x) _ (.box bh) (gs1 (nk x hx) rfl) rfl (F8.same g8) (S7.trans (B8.trans (zI0 g8)))
    . apply ay (λz=>c (V.int.inj z)) ?_;erw[0,0,f,(5),1,F7,4,4,λd H8 d0 d1 F8 B8=>?_];let k8:=aZ F7 B8;let hL8:=B8 _ _ Lf eL;let S8:=S7.trans B8
      have:d=0∨d=1∨d=2∨d=3∨d=4:=#[0]
      rcases this with rfl | rfl | rfl | rfl | rfl
      . erw[L,_,(0),.ref p1,1,1,zG0 hL8,1,q _ (.plain "round") _ (.plain (k8 _ _ e1')) (gs1 (show("round":Str)∈plainW by decide) rfl) rfl F8 S8]
      . erw[L,_,(1),.ref p2,1,1,zG0 hL8,1,q _ (.plain "due") _ (.plain (k8 _ _ e2')) (gs1 (show("due":Str)∈plainW by decide) rfl) rfl F8 S8]
      . erw[L,_,(2),.ref p3,1,1,zG0 hL8,1,q _ (.plain "asked") _ (.plain (k8 _ _ e3')) (gs1 (show("asked":Str)∈plainW by decide) rfl) rfl F8 S8]
      . erw[L,_,(3),.ref p4,1,1,zG0 hL8,1,q _ (.num w1) _ (.num (k8 _ _ e4')) (gs1 %[a0|3] rfl) rfl F8 S8]
      . erw[L,_,(4),.ref p5,1,1,zG0 hL8,1,q _ (.num w2) _ (.num (k8 _ _ e5)) (gs1 %[c0|c1] rfl) rfl F8 S8])) ax)
  (aa (aF (PW.pt (eF (af dM (pv 4) ad (ao _)) (dZ (af dM (pv 2) ad (ao _))))) (gC (t':=tAskT n) (ac (aj (aM %[aI ix_list (dq %[aq,aq|bc]) (ai a7 hr #[0] rfl %[0,ad|bc]) #[1],ai fb hr (zH0 _) rfl %[0,1,am bK (pv 2) ad,am bK (pv 3) ad|bc]|bc]))) (by
   rintro Dn σ H ⟨x4,x5,x6,x7,f,b,bs,room,deep,rfl,F0,hb,nb,b1,b2,nk,r1,r2,d1,d2,q⟩;erw[y2S,λL hL=>?_];let gL:=zC0 hL (.lst [.str "coin",.str "true"]);let eL:upd H L (.lst [.str "coin",.str "true"]) L=some (.lst [.str "coin",.str "true"]):=bh;let Lf:L≠f:=F0.ne hL;generalize upd H L (.lst [.str "coin",.str "true"])=H1 at gL eL;erw[0,f,(2),1,F0.same gL,4,4,λd H2 d0 d1' F2 B2=>?_];let aw:∃aw:Str,aw∈askW/\atI [V.str "coin",.str "true"] d=some (.str aw):=by
    have:d=0∨d=1:=#[0]
    rcases this with rfl | rfl
    . erw["coin",4,at0 ..]
    . erw["true",4,at1 ..]
   erw[aw,awm,haw]at aw;erw[L,_,2,zG0 (B2 _ _ Lf eL),haw,6];let hb2:=B2 _ _ nb (gL _ _ hb);refine⟨_,rfl,_,rfl,_,rfl,_,_,rfl,rfl,_,rfl,_,_,rfl,rfl,f,b,bs,room-1,deep-1,rfl,F2,hb2,nb,b1,b2,nk,#[0],#[0],#[0],#[0],λv t H3 T3 ok3 dp3 F3 B3=>?_⟩;erw[y2S,λp hp=>?_];let gp:=zC0 hp (.tup [.str aw,v]);let ed:((Tm.ask aw t).depth:Int)=(t.depth:Int)+1:=by show((t.depth+1:Nat):Int)=_;omega
   exact q _ (.ask aw t) _ (.ask bh (T3.mono (bp gp))) %[%[awm|ok3.1]|by have:=ok3.2;show((t.size+1:Nat):Int)<=room;omega] #[0] (F3.same gp) ((zI0 gL).trans (B2.trans (B3.trans (zI0 gp)))))) ax)
  (aa #[ah,6,i8,am aR ad (ai a7 hr #[0] rfl %[0,am bK (pv 2) ad|bc])]
  (aa #[ah,7,i8,ai fb hr (zH0 _) rfl %[0,1,6,am bK (pv 3) ad|bc]]
  (ac (aj (aM %[aq,aI uX aq (ai a7 hr #[0] rfl %[0,ad|bc]) #[1],7,ai fb hr (zH0 _) rfl %[0,1,am bK (am bK (pv 2) ad) (pv 6),am bK (pv 3) ad|bc]|bc])))))))),?_⟩
 erw[0,f,(9),1,F0,4,4,λfm H1 m0 m9 F1 B1=>?_];let hb1:=B1 _ _ nb hb;let leaf:∀(v:V)(t:Tm)(H':Hp),TmAt H' v t->t.gs 1->t.depth=1->FeedAt H' f->SameBut f H1 H'->Q v H':=λv t H' T g d FF BB=>q v t H' T (g.up r1) #[0] FF (B1.trans BB)
 erw[0,2,0,6]
 by_cases c1:room<2
 . exact aU c1 (ee %[_,_,_,_,_,f,b,bs,fm,1,F1,hb1,nb,b1,b2,nk|leaf])
 apply ay c1 %[0,2,0|6]
 by_cases c2:deep<2
 . exact aU c2 (ee %[_,_,_,_,_,f,b,bs,fm,1,F1,hb1,nb,b1,b2,nk|leaf])
 apply ay c2 %[0,2,0|6]
 by_cases c3:fm<4
 . exact aU c3 %[_,_,_,_,_,f,b,bs,fm,1,F1,hb1,nb,b1,b2,nk|leaf]
 apply ay c3 ?_;let ask:∀(v:V)(t:Tm)(H':Hp),TmAt H' v t->t.gs room->(t.depth:Int)<=deep->FeedAt H' f->SameBut f H1 H'->Q v H':=λv t H' T g d FF BB=>q v t H' T g d FF (B1.trans BB)
 erw[0,2,0,6]
 by_cases c4:fm<6
 . exact aU c4 (ee %[_,_,_,_,f,b,bs,room,deep,1,F1,hb1,nb,b1,b2,nk,3,r2,3,3|ask])
 apply ay c4 %[0,2,0|6]
 by_cases c5:room<3
 . exact aU c5 %[_,_,_,_,f,b,bs,room,deep,1,F1,hb1,nb,b1,b2,nk,3,r2,3,3|ask]
 apply ay c5 ?_;erw[0,0,2,f,room-2,1,F1,3,3,λd3 H2 a0 a1 F2 B2=>?_];erw[2,6];let hb2:=B2 _ _ nb hb1;erw[0,0,0,0,2,f,b,bs,1+d3,deep-1,1,F2,hb2,nb,b1,b2,nk,3,3,3,3,λv1 t1 H3 T1 ok1 dp1 F3 B3=>?_];let hb3:=B3 _ _ nb hb2;erw[0,f,(6),1,F3,4,4,λd4 H4 g0 g1 F4 B4=>?_];let%[c,hc|hm]:=pJ (l:=(("+-*/=<":Str)).cps.toList) (i:=d4) g0 (by rw[BC];exact g1);let hb4:=B4 _ _ nb hb3;erw[_,2,aV ⋯,hc,0,6];erw[0,0,0,2,0,2,0,2,f,b,bs,room-1-(1+d3),deep-1,1,F4,hb4,nb,b1,b2,nk,3,3,3,3,λv2 t2 H5 T2 ok2 dp2 F5 B5=>?_];let k35:cH H3 H5:=λa ys e=>aZ F4 B5 _ _ (aZ F3 B4 _ _ e)
 erw[y4S,λp hp=>?_];let gp:=zC0 hp (.tup [.str "op",.str %[|#[c]],v1,v2]);let ed:((Tm.op ⟨#[c]⟩ t1 t2).depth:Int)<=deep:=by
  show((max t1.depth t2.depth+1:Nat):Int)<=deep;omega
 exact q _ (.op %[|#[c]] t1 t2) _ (.op bh (T1.mono λa xs e=>gp _ _ (k35 _ _ e)) (T2.mono (bp gp))) %[%[EG c hm,ok1.1|ok2.1]|by have:=ok1.2;have:=ok2.2;show((t1.size+t2.size+1:Nat):Int)<=room;omega] ed (F5.same gp) (B1.trans (B2.trans (B3.trans (B4.trans (B5.trans (zI0 gp))))))
def Dh:#[2,f,fd,Wc,spTerm 0]:=by
 let no:∀vs H Q E,¬ spTerm 0 vs H Q E:=λvs H Q E h=>by
  erw[_,_,_,_,_,_,_,_,_,_,_,_,_,_,h1,h2,_]at h;omega
 exists 3
def sW(F:#["_law_term",mX])(B:Bl mg)(m:mg "_law_term"=some (.ref f))(a7:#[1,"_law_take",WF,spTake]):
 ∀n:Nat,#[n+2,f,fd,Wc,spTerm n]
 |0=>Dh
 |n+1=>Di F B a7 (Cal.of F (sW F B m a7 n) m (λ_ _ _ _ _ _ us hl=>by let%[u0,u1,u2,u3|1]:=Fn hl;rfl))
structure PEW(X:Cx)(e:Expr)(t:TE):Prop where
 out:PE X e t
structure PAW(X:Cx)(es:List Expr)(t:TA):Prop where
 out:PA X es t
structure PTW(X:Cx)(s:Stmt)(t:TS):Prop where
 out:PS X s t
section
variable {X:Cx}{e:Expr}{es:List Expr}{te:TE}{t:TA}{pos:Pos}
def cP:PAW X [] Ex:=.mk bc
def aG(ha:PEW X e te)(hr:PAW X es t)(hs:starEach (e::es) X.env=(false,eval e X.env)::starEach es X.env:=by rfl):PAW X (e::es) (qp te t):=%[|ae ha.out hr.out hs]
def cO{x1}(h:PAW X es t):PEW X (.Tuple es x1 pos) (tTup t):=%[|aM h.out]
def cf{x j}:PEW X (.Constant (.str x) j pos) (tC (.str x)):=%[|aq]
def wY{i j}:PEW X (.Constant (.int i) j pos) (tC (.int i)):=%[|ad]
def FX(h:PEW X e te):PTW X (.Return (some e) pos) (tRet te):=%[|aj h.out]
def lO{i:Nat}{x:Str}{pos':Pos}(hN:X.N.Nodup)(hi:X.N[i]?=some x)(hx:Loc X.env.scope x)(he:PEW X e te)(hs:swapsWith e (some (.Name x pos')) pos.line X.env=pure false:=by rfl)(hf:X.fn x=true∨X.env.scope.names.lookup x=some .local:=by first | exact .inl rfl | exact .inr rfl | assumption):
 PTW X (.Assign [.Name x pos'] e pos) (Ey te (zb i)):=%[|ah hN hi hx he.out hs hf]
def AZ:PSW X [] FI:=%[|ax]
def jC(h:PTW X s a)(k:PSW X ss b):PSW X (s::ss) (Gg a b):=%[|aa h.out k.out]
def wV(h:PTW X s a):PSW X [s] a:=%[|ac h.out]
def Ba{t':TS}(h:PSW X ss t0)(hw:∀D σ H,t' D σ H->t0 D σ H):PSW X ss t':=%[|gC h.out hw]
def FE(hc:PT X c tc)(ha:PSW X a t0)(hb:PSW X b u):PTW X (.If c a b pos) (Gj tc t0 u):=%[|aF hc ha.out hb.out]
end
def RowsAt.app(h:RowsAt H a r)(k:RowsAt H b s):RowsAt H (a++b) (r++s):=by
 erw[by rw[zK0,zK0,h.1,k.1],λi v x e1 e2=>?_]
 by_cases c:i<a.length
 . rw[zP1 c]at e1;rw[zP1 (by rw[←h.1];exact c)]at e2;exact h.2 i v x e1 e2
 . rw[zN1 #[0]]at e1;rw[zN1 (by rw[←h.1];omega),←h.1]at e2;exact k.2 _ v x e1 e2
def RowsAt.one(h:HrAt H v r):RowsAt H [v] [r]:=⟨rfl,λi u x e1 e2=>by
 cases i with
 |zero=>cases e1;cases e2;exact h
 |succ i=>cases e1⟩
def Hr.gk(m:Int)(r:Hr):Prop:=r.ok 20/\r.good/\∀n:Nat,m<=(n:Int)->r.leads n
def HOk(rs:List Hr):Prop:=sk rs/\(∀r∈rs,r.good)/\∀r∈rs,r.leads rs.length
def yt{t:Tm}{m:Int}(h:t.gs m)(d:t.depth<=8)(e:m<=20):t.fit 20:=%[h.1,by have:=h.2;omega|d]
def HOk.of{rs:List Hr}{m:Int}(h:∀r∈rs,r.gk m)(e:m=(rs.length:Int))(l:rs.length<=60):HOk rs:=%[%[l|λr hr=>(h r hr).1],λr hr=>(h r hr).2.1|λr hr=>(h r hr).2.2 _ (Int.le_of_eq e)]
instance spHelp:∀(f b:Addr)(bs:List Str)(most:Int),vs=[.ref f,.ref b,.int most]->FeedAt H f->H b=some (.lst (bs.map V.str))->b≠f->1<=bs.length->bs.length<=100->(∀x∈bs,NmK x)->0<=most->most<=60->(∀(h:Addr)(rv:List V)(rows:List Hr)(H':Hp),H' h=some (.tup rv)->RowsAt H' rv rows->HOk rows->FeedAt H' f->SameBut f H H'->Q (.ref h) H'):=1
def f6:FnScope ["_law_feed_here","_law_boxes","_law_most","_law_rows_here","_law_many","_law_k","_law_form"] Ww (ag ma):=%[|5]
def vY(F:#["_law_helper",ma])(B:Bl mg)(a7:#[1,"_law_take",WF,spTake])(fb:#[7,"_law_term",Wc,spTerm 5]):#[8,f,fd,Ww,spHelp]:=by
 exists f6
 erw[f,b,bs,most,1,F0,hb,nb,b1,b2,nk,m0,m1,q]at h;refine⟨_,(aa #[ah,3,f6,dq bc]
  (aa #[ah,4,f6,ai a7 hr ⋯ rfl %[0,am aR (pv 2) ad|bc]]
  (aa (cQ zG1 rfl (cI rfl B.range %[4|bc]) (bt (i:=5) f6.nd rfl (.inl rfl)) (aa #[ah,6,f6,ai a7 hr ⋯ rfl %[0,ad|bc]]
   (ac (aF (af dM (pv 6) ad (ao _)) (ac (aQ (cA zF1 zL1 zM1 cx (pv 3) %[aM %[aq,ai fb hr ⋯ rfl %[0,1,ad,ad|bc]|bc]|bc]))) (ac (aF (af dM (pv 6) ad (ao _)) (ac (aQ (cA zF1 zL1 zM1 cx (pv 3) %[aM %[aq,aI ix_list (pv 1) (ai a7 hr ⋯ rfl %[0,aE aD rfl B.len zC1 %[1|bc]|bc]) #[1],ai fb hr ⋯ rfl %[0,1,ad,ad|bc]|bc]|bc]))) (ac (aF (af aN (pv 6) ad (ao _)) (ac (aQ (cA zF1 zL1 zM1 cx (pv 3) %[aM %[aq,ai fb hr ⋯ rfl %[0,1,ad,ad|bc],ai a7 hr ⋯ rfl %[0,4|bc]|bc]|bc]))) (ac (aF (af aN (pv 6) ad (ao _)) (ac (aQ (cA zF1 zL1 zM1 cx (pv 3) %[aM %[aq,ai a7 hr ⋯ rfl %[0,4|bc]|bc]|bc]))) (ac (aQ (cA zF1 zL1 zM1 cx (pv 3) %[aM %[aq|bc]|bc])))))))))))))
  (ac (aj (aW bz rfl B.tuple cj %[3|bc])))))),?_⟩
 erw[y0S,λL hL=>?_];let I0:=zC0 hL (.lst []);let Lf:L≠f:=F0.ne hL;let g0:upd H L (.lst []) L=some (.lst []):=bh;generalize upd H L (.lst [])=H1 at I0 g0;erw[0,0,2,f,most+1,1,F0.same I0,3,3,λmn H2 n0 n1 F2 B2=>?_];let S2:SameBut f H H2:=(zI0 I0).trans B2;refine⟨_,rfl,_,rfl,#[0],#[0],dG (λi σ H'=>∃(x5 x6:Option V)(vs:List V)(rows:List Hr),σ=[some (.ref f),some (.ref b),some (.int most),some (.ref L),some (.int mn),x5,x6]/\FeedAt H' f/\SameBut f H H'/\H' L=some (.lst vs)/\RowsAt H' vs rows/\(∀r∈rows,r.gk mn)/\vs.length=i)
  %[_,_,[],[],1,F2,S2,B2 _ _ Lf g0,%[1|λi v r e=>by cases e],(λr hr=>by cases hr)|1] ?_ ?_⟩
 . rintro i σ H3 hi ⟨x5,x6,vs,rows,rfl,F3,S3,hL3,RW,rg,vl⟩;let hb3:=S3 _ _ nb hb;erw[0,f,(8),1,F3,4,4,λfm H4 f0 f1 F4 B4=>?_];let hb4:=B4 _ _ nb hb3;let hL4:=B4 _ _ Lf hL3;let S4:=S3.trans B4;let RW4:=RW.mono (aZ F3 B4);let fin:∀(r:Hr)(v:V)(H5:Hp),HrAt H5 v r->r.gk mn->FeedAt H5 f->SameBut f H4 H5->H5 L=some (.lst vs)/\vs.length<sizeLine/\∃(x5' x6':Option V)(vs':List V)(rows':List Hr),[some (V.ref f),some (.ref b),some (.int most),some (.ref L),some (.int mn),some (.int (0+(i:Int))),some (.int fm)]=[some (V.ref f),some (.ref b),some (.int most),some (.ref L),some (.int mn),x5',x6']/\FeedAt (upd H5 L (.lst (vs++[v]))) f/\SameBut f H (upd H5 L (.lst (vs++[v])))/\(upd H5 L (.lst (vs++[v]))) L=some (.lst vs')/\RowsAt (upd H5 L (.lst (vs++[v]))) vs' rows'/\(∀r∈rows',r.gk mn)/\vs'.length=i+1:=by
    intro r v H5 R5 g5 F5 B5;let hL5:=B5 _ _ Lf hL4;let k6:cH H5 (upd H5 L (.lst (vs++[v]))):=jv hL5;erw[hL5,aO #[0],_,_,vs++[v],rows++[r],1,6,6,bh,((RW4.mono (aZ F4 B5)).mono k6).app (RowsAt.one (R5.mono k6)),λr' hr'=>?_,by rw[zK0,vl];rfl]
    . erw[x,t,e,rr]at F5;erw[x,t,by rw[aB Lf.symm];exact e,rr]
    . intro c o hc e;rw[aB (bi e hL)];exact B5 _ _ hc (S4 _ _ hc e)
    . rcases qG0 hr' with h | h
      . exact rg r' h
      . rw[zR0 h];exact g5
   erw[0,2,0,6]
   by_cases c1:fm<3
   . apply aU c1 ?_;erw[0,.inl %[1,_|zG0 hL4],0,0,f,b,bs,(6),(5),1,F4,hb4,nb,b1,b2,nk,4,4,4,4,λv t H5 T5 g5 d5 F5 B5=>%[y2S|λp hp=>?_]];let Ip:=zC0 hp (.tup [.str "say",v]);let%[hLx,sz|iv]:=fin (.say t) (.ref p) _ (.say bh (T5.mono (bp Ip))) %[yt g5 #[0] ⋯,%[Tm.ok_good _ g5.1|3]|λ_ _=>trivial] (F5.same Ip) (B5.trans (zI0 Ip));erw[L,2,hLx,sz,iv]
   apply ay c1 %[0,2,0|6]
   by_cases c2:fm<5
   . apply aU c2 ?_;let bl:(bs.map V.str).length=bs.length:=zF0 _;erw[0,.inl %[1,_|zG0 hL4],0,0,0,b,0,.inl (zG0 hb4),f,0,F4,3,3,λd H5 d0 d1 F5 B5=>?_];let%[v,hv|vm]:=pJ (l:=bs.map V.str) (i:=d) d0 d1;let%[x,hx|1]:=List.mem_map.mp vm;let hb5:=B5 _ _ nb hb4;erw[b,_,2,zG0 hb5,hv,0,0,f,b,bs,(6),(5),1,F5,hb5,nb,b1,b2,nk,4,4,4,4,λv t H6 T6 g6 d6 F6 B6=>%[y3S|λp hp=>?_]];let Ip:=zC0 hp (.tup [.str "set",.str x,v]);let%[hLx,sz|iv]:=fin (.set x t) (.ref p) _ (.set bh (T6.mono (bp Ip))) %[%[nk x hx|yt g6 #[0] ⋯],%[Tm.ok_good _ g6.1|3]|λ_ _=>trivial] (F6.same Ip) (B5.trans (B6.trans (zI0 Ip)));erw[L,2,hLx,sz,iv]
   apply ay c2 %[0,1,0|6]
   by_cases c3:fm=5
   . apply aU (congrArg V.int c3) ?_;erw[0,.inl %[1,_|zG0 hL4],0,0,f,b,bs,(5),(4),1,F4,hb4,nb,b1,b2,nk,4,4,4,4,λv t H5 T5 g5 d5 F5 B5=>?_];erw[0,0,f,mn,1,F5,3,3,λd H6 d0 d1 F6 B6=>%[y3S|λp hp=>?_]];let Ip:=zC0 hp (.tup [.str "if",v,.int d]);let%[hLx,sz|iv]:=fin (.iff t d) (.ref p) _ (.iff bh (T5.mono λa xs e=>Ip _ _ (aZ F5 B6 _ _ e))) %[%[yt g5 #[0] ⋯,d0|3],%[Tm.ok_good _ g5.1,3|d0]|λn e=>%[d0|3]] (F6.same Ip) (B5.trans (B6.trans (zI0 Ip)));erw[L,2,hLx,sz,iv]
   apply ay (λz=>c3 (V.int.inj z)) %[0,1,0|6]
   by_cases c4:fm=6
   . apply aU (congrArg V.int c4) ?_;erw[0,.inl %[1,_|zG0 hL4],0,0,f,mn,1,F4,3,3,λd H6 d0 d1 F6 B6=>%[y2S|λp hp=>?_]];let Ip:=zC0 hp (.tup [.str "go",.int d]);let%[hLx,sz|iv]:=fin (.go d) (.ref p) _ (.go bh) %[%[d0|3],d0|λn e=>%[d0|3]] (F6.same Ip) (B6.trans (zI0 Ip));erw[L,2,hLx,sz,iv]
   apply ay (λz=>c4 (V.int.inj z)) ?_;erw[0,.inl %[1,_|zG0 hL4],y1S,λp hp=>?_];let Ip:=zC0 hp (.tup [.str "end"]);let%[hLx,sz|iv]:=fin .fin (.ref p) _ (.fin bh) %[trivial,trivial|λ_ _=>trivial] (F4.same Ip) (zI0 Ip);erw[L,2,hLx,sz,iv]
 . rintro σ H3 ⟨x5,x6,vs,rows,rfl,F3,S3,hL3,RW,rg,vl⟩;erw[0,L,0,.inl %[zG0 hL3|λh hh=>?_]];let Ih:=zC0 hh (.tup vs);let rl:=RW.1;exact q h vs rows _ bh (RW.mono (bp Ih)) (HOk.of rg #[0] #[0]) (F3.same Ih) (S3.trans (zI0 Ih))
instance spLiar:∀(f:Addr)(x:Str),vs=[.ref f,.str x]->NmK x->FeedAt H f->(∀(h:Addr)(rv:List V)(rows:List Hr)(H':Hp),H' h=some (.tup rv)->RowsAt H' rv rows->HOk rows->FeedAt H' f->SameBut f H H'->Q (.ref h) H'):=1
def e8:FnScope ["_law_feed_here","_law_box","_law_j","_law_wrong","_law_turn","_law_more","_law_told"] Wx (ag qL):=%[|5]
instance tLi1(Dn:Ends)(σ:St)(H:Hp):∀(x4 x5 x6:Option V)(f:Addr)(x:Str)(vj vw:V)(tw:Tm),σ=[some (.ref f),some (.str x),some vj,some vw,x4,x5,x6]->FeedAt H f->TmAt H vj (.box x)->TmAt H vw tw->tw.gs 7->tw.depth<=3->NmK x->(∀(h:Addr)(rv:List V)(rows:List Hr)(H':Hp),H' h=some (.tup rv)->RowsAt H' rv rows->HOk rows->FeedAt H' f->SameBut f H H'->Dn.rt (.ref h) H'):=0
instance tLi2(Dn:Ends)(σ:St)(H:Hp):∀(x3 x4 x6:Option V)(f:Addr)(x:Str)(vj vm:V)(tm:Tm),σ=[some (.ref f),some (.str x),some vj,x3,x4,some vm,x6]->FeedAt H f->TmAt H vj (.box x)->TmAt H vm tm->tm.gs 12->tm.depth<=4->NmK x->(∀(h:Addr)(rv:List V)(rows:List Hr)(H':Hp),H' h=some (.tup rv)->RowsAt H' rv rows->HOk rows->FeedAt H' f->SameBut f H H'->Dn.rt (.ref h) H'):=0
def GY{s:Str}{a b:Tm}{m:Nat}(h1:a.depth<=m)(h2:b.depth<=m):(Tm.op s a b).depth<=m+1:=by
 show max a.depth b.depth+1<=m+1;omega
def Ac(F:#["_law_liar",qL])(a7:#[1,"_law_take",WF,spTake]):#[2,f,fd,Wx,spLiar]:=by
 exists e8
 erw[f,x,1,nx,F0,q]at h;refine⟨_,PSW.out (jC #[lO,2,e8,cO (aG cf (aG (.mk (pv 1)) cP))]
  (jC #[lO,3,e8,cO (aG cf (aG cf (aG (.mk (pv 2)) (aG (cO (aG cf (aG (.mk (ai a7 hr ⋯ rfl %[0,ad|bc])) cP))) cP))))]
  (jC (FE (af fO (ai a7 hr ⋯ rfl %[0,ad|bc]) ad (ao _)) (jC #[lO,4,e8,cO (aG cf (aG cf (aG (cO (aG cf cP)) (aG (cO (aG cf (aG (.mk (ai a7 hr ⋯ rfl %[0,ad|bc])) cP))) cP))))]
   (wV #[lO,3,e8,cO (aG cf (aG cf (aG (.mk (pv 3)) (aG (.mk (pv 4)) cP))))])) AZ)
  (Ba (t':=tLi1) (jC #[lO,5,e8,cO (aG cf (aG cf (aG (.mk (pv 3)) (aG (cO (aG cf (aG (.mk (am aR ad (ai a7 hr ⋯ rfl %[0,ad|bc]))) cP))) cP))))]
  (jC (FE (af aN (ai a7 hr ⋯ rfl %[0,ad|bc]) ad (ao _)) (wV #[lO,5,e8,cO (aG cf (aG cf (aG (.mk (pv 3)) (aG (cO (aG cf (aG cf (aG (cO (aG cf (aG (cO (aG cf (aG (.mk (am aR ad (ai a7 hr ⋯ rfl %[0,ad|bc]))) cP))) cP))) (aG (cO (aG cf (aG (.mk (ai a7 hr ⋯ rfl %[0,ad|bc])) cP))) cP))))) cP))))] ) AZ)
  (Ba (t':=tLi2) (jC #[lO,6,e8,cO (aG cf (aG cf (aG (cO (aG cf (aG (.mk (pv 2)) cP))) (aG (.mk (pv 5)) cP))))]
  (wV (FX (cO (aG (cO (aG cf (aG (.mk (pv 1)) (aG (cO (aG cf (aG wY cP))) cP)))) (aG (cO (aG cf (aG (.mk (pv 6)) cP))) (aG (cO (aG cf (aG (.mk (pv 1)) (aG (cO (aG cf (aG cf (aG (.mk (pv 2)) (aG (cO (aG cf (aG wY cP))) cP))))) cP)))) (aG (cO (aG cf (aG wY cP))) cP)))))))) (by
   rintro Dn σ H ⟨x3,x4,x6,f,x,vj,vm,tm,rfl,F0,Tj,TMm,gm,dm,nx,q⟩;let s2:2<=sizeLine:=by decide
   let s3:3<=sizeLine:=by decide
   let s4:4<=sizeLine:=by decide
   erw[0,s2,λp1 h1=>%[0,s4|λp2 h2=>?_]];let I1:=zC0 h1 (.tup [.str "true",vj]);let I2:=zC0 h2 (.tup [.str "op",.str "+",.ref p1,vm]);let T2:TmAt (upd (upd H p1 (.tup [.str "true",vj])) p2 (.tup [.str "op",.str "+",.ref p1,vm])) (.ref p2) (.op "+" (.ask "true" (.box x)) tm):=.op bh (.ask (I2 _ _ bh) (Tj.mono (bp (I1.trans I2)))) (TMm.mono (bp (I1.trans I2)));let J2:=I1.trans I2;generalize upd (upd H p1 (.tup [.str "true",vj])) p2 (.tup [.str "op",.str "+",.ref p1,vm])=H2 at T2 J2;erw[0,s2,λp5 h5=>%[s3|λp6 h6=>%[0,s2|λp7 h7=>%[0,0,s2|λp3 h3=>%[s4|λp4 h4=>%[s3|λp8 h8=>%[s2|λp9 h9=>%[s4|λp h10=>?_]]]]]]]];let I5:=zC0 h5 (.tup [.str "num",.int 0]);let I6:=zC0 h6 (.tup [.str "set",.str x,.ref p5]);let I7:=zC0 h7 (.tup [.str "say",.ref p2]);let I3:=zC0 h3 (.tup [.str "num",.int 1]);let I4:=zC0 h4 (.tup [.str "op",.str "+",vj,.ref p3]);let I8:=zC0 h8 (.tup [.str "set",.str x,.ref p4]);let I9:=zC0 h9 (.tup [.str "go",.int 1]);let I10:=zC0 h10 (.tup [.ref p6,.ref p7,.ref p8,.ref p9]);let J9:=I9.trans I10;let J8:=I8.trans J9;let J4:=I4.trans J8;let J3:=I3.trans J4;let J7:=I7.trans J3;let J6:=I6.trans J7;let R6:=HrAt.set (J7 _ _ bh) (.num (J6 _ _ bh));let R7:=HrAt.say (J3 _ _ bh) (T2.mono (bp (I5.trans J6)));let R8:=HrAt.set (J9 _ _ bh) (.op (J8 _ _ bh) (Tj.mono (bp (J2.trans (I5.trans J6)))) (.num (J4 _ _ bh)));let R9:=HrAt.go (I10 _ _ bh);let JJ:=J2.trans (I5.trans J6);let pl:("+":Str)∈signW:=by decide
   apply q p _ _ _ bh ((((RowsAt.one R6).app (RowsAt.one R7)).app (RowsAt.one R8)).app (RowsAt.one R9)) (HOk.of (m:=4) (λr hr=>?_) rfl (by show 4<=60;decide)) (F0.same JJ) (zI0 JJ);simp only[List.mem_append,qG1]at hr;let sz:=gm.2;rcases hr with((rfl | rfl) | rfl) | rfl
   . erw[%[nx,%[4|4],4|4],%[trivial|(by show 1<=5;decide)],λ_ _=>trivial]
   . let dd:(Tm.op "+" (.ask "true" (.box x)) tm).depth<=5:=GY (m:=4) (by show 2<=4;decide) dm;let oo:(Tm.op "+" (.ask "true" (.box x)) tm).ok:=%[pl,%[4|nx]|gm.1]
     erw[%[oo,by show 2+tm.size+1<=20;omega|3],%[Tm.ok_good _ oo|dd],λ_ _=>trivial]
   . let oo:(Tm.op "+" (.box x) (.num 1)).ok:=%[pl,nx,4|4]
     erw[%[nx,oo,by show 3<=20;decide|by show 2<=8;decide],%[Tm.ok_good _ oo|(by show 2<=5;decide)],λ_ _=>trivial]
   . erw[%[4|4],(by show(0:Int)<=1;decide),λn e=>%[4|3]])))) (by
   rintro Dn σ H ⟨x4,x5,x6,f,x,vj,vw,tw,rfl,F0,Tj,Tw,gw,dw,nx,q⟩;let s2:2<=sizeLine:=by decide
   let s4:4<=sizeLine:=by decide
   let st:("*":Str)∈signW:=by decide
   let pl:("+":Str)∈signW:=by decide
   erw[0,0,f,(4),1,F0,4,4,λd1 H1 u0 u1 F1 B1=>%[2,s2|λp1 h1=>%[s4|λp2 h2=>?_]]];let k1:=aZ F0 B1;let I1:=zC0 h1 (.tup [.str "num",.int (1+d1)]);let I2:=zC0 h2 (.tup [.str "op",.str "*",vw,.ref p1]);let J2:=I1.trans I2;let T2:TmAt (upd (upd H1 p1 (.tup [.str "num",.int (1+d1)])) p2 (.tup [.str "op",.str "*",vw,.ref p1])) (.ref p2) (.op "*" tw (.num (1+d1))):=.op bh (Tw.mono λa xs e=>J2 _ _ (k1 _ _ e)) (.num (I2 _ _ bh));generalize upd (upd H1 p1 (.tup [.str "num",.int (1+d1)])) p2 (.tup [.str "op",.str "*",vw,.ref p1])=H2 at T2 J2;let F2:=F1.same J2;erw[0,f,(3),1,F2,4,4,λd2 H3 _ _ F3 B3=>%[1,0|6]];let k3:=aZ F2 B3;let S3:SameBut f H H3:=B1.trans ((zI0 J2).trans B3);let kk:cH H H3:=λa xs e=>k3 _ _ (J2 _ _ (k1 _ _ e))
   by_cases c:d2=0
   . apply aU (congrArg V.int c) ?_;erw[0,0,f,(3),1,F3,4,4,λd3 H4 u2 u3 F4 B4=>%[2,s2|λp3 h3=>%[s2|λp4 h4=>?_]]];let k4:=aZ F3 B4;let I3:=zC0 h3 (.tup [.str "num",.int (1+d3)]);let I4:=zC0 h4 (.tup [.str "coin",.ref p3]);let J4:=I3.trans I4;let T4:TmAt (upd (upd H4 p3 (.tup [.str "num",.int (1+d3)])) p4 (.tup [.str "coin",.ref p3])) (.ref p4) (.ask "coin" (.num (1+d3))):=.ask bh (.num (I4 _ _ bh));generalize upd (upd H4 p3 (.tup [.str "num",.int (1+d3)])) p4 (.tup [.str "coin",.ref p3])=H5 at T4 J4;let F5:=F4.same J4;erw[0,f,(3),1,F5,4,4,λd5 H6 u4 u5 F6 B6=>%[s2|λp5 h5=>%[s4|λp6 h6=>%[s4|λp7 h7=>?_]]]];let k6:=aZ F5 B6;let I5:=zC0 h5 (.tup [.str "num",.int d5]);let I6:=zC0 h6 (.tup [.str "op",.str "+",.ref p4,.ref p5]);let I7:=zC0 h7 (.tup [.str "op",.str "*",vw,.ref p6]);let J7:=I6.trans I7;let J6:=I5.trans J7;let kw:cH H _:=λa xs e=>J6 _ _ (k6 _ _ (J4 _ _ (k4 _ _ (kk _ _ e))))
     erw[_,_,_,f,x,vj,.ref p7,.op "*" tw (.op "+" (.ask "coin" (.num (1+d3))) (.num d5)),1,F6.same J6,Tj.mono kw,.op bh (Tw.mono kw) (.op (I7 _ _ bh) (T4.mono λa xs e=>J6 _ _ (k6 _ _ e)) (.num (J7 _ _ bh))),%[%[st,gw.1,pl,%[4,3|3],u4|3]|by have:=gw.2;show((tw.size+4+1:Nat):Int)<=12;omega],GY (m:=3) dw (by show 3<=3;decide),nx,λh rv rows H' h1 h2 h3 h4 h5=>q h rv rows H' h1 h2 h3 h4 (S3.trans (B4.trans ((zI0 J4).trans (B6.trans ((zI0 J6).trans h5)))))]
   . apply ay (λz=>c (V.int.inj z)) ?_;erw[_,_,_,f,x,vj,.ref p2,.op "*" tw (.num (1+d1)),1,F3,Tj.mono kk,T2.mono k3,%[%[st,gw.1,3|3]|by have:=gw.2;show((tw.size+1+1:Nat):Int)<=12;omega],GY (m:=3) dw (by show 1<=3;decide),nx,λh rv rows H' h1 h2 h3 h4 h5=>q h rv rows H' h1 h2 h3 h4 (S3.trans h5)]))))),?_⟩
 let s1:1<=sizeLine:=by decide
 let s2:2<=sizeLine:=by decide
 let s4:4<=sizeLine:=by decide
 let st:("*":Str)∈signW:=by decide
 let eqs:("=":Str)∈signW:=by decide
 erw[0,s2,λpj hj=>?_];let Ij:=zC0 hj (.tup [.str "box",.str x]);let Tj:TmAt (upd H pj (.tup [.str "box",.str x])) (.ref pj) (.box x):=.box bh;generalize upd H pj (.tup [.str "box",.str x])=H1 at Ij Tj;erw[0,0,f,(4),1,F0.same Ij,4,4,λd1 H2 u0 u1 F2 B2=>%[s2|λp1 h1=>%[s4|λp2 h2=>?_]]];let k2:=aZ (F0.same Ij) B2;let I1:=zC0 h1 (.tup [.str "num",.int d1]);let I2:=zC0 h2 (.tup [.str "op",.str "=",.ref pj,.ref p1]);let J2:=I1.trans I2;let T2:TmAt (upd (upd H2 p1 (.tup [.str "num",.int d1])) p2 (.tup [.str "op",.str "=",.ref pj,.ref p1])) (.ref p2) (.op "=" (.box x) (.num d1)):=.op bh (Tj.mono λa xs e=>J2 _ _ (k2 _ _ e)) (.num (I2 _ _ bh));let Tj2:=Tj.mono λa xs e=>J2 _ _ (k2 _ _ e)
 let S3:SameBut f H (upd (upd H2 p1 (.tup [.str "num",.int d1])) p2 (.tup [.str "op",.str "=",.ref pj,.ref p1])):=(zI0 Ij).trans (B2.trans (zI0 J2));let F3:=F2.same J2;generalize upd (upd H2 p1 (.tup [.str "num",.int d1])) p2 (.tup [.str "op",.str "=",.ref pj,.ref p1])=H3 at T2 Tj2 S3 F3;erw[0,f,(3),1,F3,4,4,λd2 H4 _ _ F4 B4=>%[2,0|6]];let k4:=aZ F3 B4;let S4:=S3.trans B4
 by_cases c:d2>0
 . apply aU c ?_;erw[s1,λp3 h3=>?_];let I3:=zC0 h3 (.tup [.str "round"]);let e3:upd H4 p3 (.tup [.str "round"]) p3=some (.tup [.str "round"]):=bh;generalize upd H4 p3 (.tup [.str "round"])=H5 at I3 e3;erw[0,f,(6),1,F4.same I3,4,4,λd5 H6 u4 u5 F6 B6=>%[s2|λp5 h5=>%[s4|λp6 h6=>?_]]];let k6:=aZ (F4.same I3) B6;let I5:=zC0 h5 (.tup [.str "num",.int d5]);let I6:=zC0 h6 (.tup [.str "op",.str "=",.ref p3,.ref p5]);let J6:=I5.trans I6;let T6:TmAt (upd (upd H6 p5 (.tup [.str "num",.int d5])) p6 (.tup [.str "op",.str "=",.ref p3,.ref p5])) (.ref p6) (.op "=" (.plain "round") (.num d5)):=.op bh (.plain (J6 _ _ (k6 _ _ e3))) (.num (I6 _ _ bh));generalize upd (upd H6 p5 (.tup [.str "num",.int d5])) p6 (.tup [.str "op",.str "=",.ref p3,.ref p5])=H7 at T6 J6;let kw:cH H3 H7:=λa xs e=>J6 _ _ (k6 _ _ (I3 _ _ (k4 _ _ e)))
   erw[0,0,s4,λp7 h7=>?_];let I7:=zC0 h7 (.tup [.str "op",.str "*",.ref p2,.ref p6]);erw[_,_,_,f,x,.ref pj,.ref p7,.op "*" (.op "=" (.box x) (.num d1)) (.op "=" (.plain "round") (.num d5)),1,F6.same (J6.trans I7),Tj2.mono (λa xs e=>I7 _ _ (kw _ _ e)),.op bh (T2.mono λa xs e=>I7 _ _ (kw _ _ e)) (T6.mono (bp I7)),%[%[st,%[eqs,nx,u0|3],eqs,(show("round":Str)∈plainW by decide),u4|3]|by show(7:Int)<=7;decide],(by show 3<=3;decide),nx,λh rv rows H' h1 h2 h3 h4 h5=>q h rv rows H' h1 h2 h3 h4 (S4.trans ((zI0 I3).trans (B6.trans ((zI0 (J6.trans I7)).trans h5))))]
 . apply ay c ?_;erw[_,_,_,f,x,.ref pj,.ref p2,.op "=" (.box x) (.num d1),1,F4,Tj2.mono k4,T2.mono k4,%[%[eqs,nx,u0|3]|by show(3:Int)<=7;decide],(by show 2<=3;decide),nx,λh rv rows H' h1 h2 h3 h4 h5=>q h rv rows H' h1 h2 h3 h4 (S4.trans h5)]
def Fl:(("not ":Str)).cps.toList=[110,111,116,32]:=by decide
def lit_n:(("not":Str)).cps.toList=[110,111,116]:=by decide
def lit_y:(("yes":Str)).cps.toList=[121,101,115]:=by decide
def lit_o:(("no":Str)).cps.toList=[110,111]:=by decide
def Tr.txt:Tr->List Nat
 |.is x=>x.cps.toList
 |.yes=>[121,101,115]
 |.no=>[110,111]
 |.not a=>[110,111,116,32]++a.txt
 |.bin o a b=>[40]++(a.txt++([32]++(o.cps.toList++([32]++(b.txt++[41])))))
def Tr.nm:Tr->Prop
 |.is x=>NmK x | .yes=>True | .no=>True | .not a=>a.nm | .bin w a b=>w∈joinW/\a.nm/\b.nm
def Tr.ok_nm{ns:List Str}(hn:∀x∈ns,NmK x):∀t:Tr,t.ok ns->t.nm
 |.is _,h=>hn _ h
 |.yes,_=>trivial
 |.no,_=>trivial
 |.not a,h=>Tr.ok_nm hn a h
 |.bin _ a b,⟨h,h1,h2⟩=>%[h,Tr.ok_nm hn a h1|Tr.ok_nm hn b h2]
def ie:∀w∈joinW,w.length<=4/\(∀c∈w.cps.toList,97<=c/\c<=122)/\1<=w.length:=by decide
def Tr.txt_len:∀t:Tr,t.nm->t.txt.length<=8*t.size
 |.is x,h=>by
   have:x.cps.toList.length=x.length:=by rw[zU1];rfl
   show x.cps.toList.length<=8
   have:=h.2.2.1
   omega
 |.yes,_=>by decide
 |.no,_=>by decide
 |.not a,h=>by
   have:=Tr.txt_len a h
   show([110,111,116,32]++a.txt).length<=8*(a.size+1)
   rw[zK0];simp only[zM0,zI1];omega
 |.bin o a b,⟨h,h1,h2⟩=>by
   let e1:=Tr.txt_len a h1;let e2:=Tr.txt_len b h2;let e3:o.cps.toList.length=o.length:=by rw[zU1];rfl
   let e4:=(ie o h).1;show([40]++(a.txt++([32]++(o.cps.toList++([32]++(b.txt++[41])))))).length<=8*(a.size+b.size+1)
   simp only[zK0,zM0,zI1];omega
def Tr.str(t:Tr):Str:=stl t.txt
def Tr.str_len{t:Tr}(h:t.nm):t.str.length<=8*t.size:=by
 unfold Tr.str;rw[tP];exact t.txt_len h
instance spTT(n:Nat):∀(v:V)(t:Tr),vs=[v]->TreeAt H v t->t.nm->t.depth<=n->t.size<=100->(∀H',Same H H'->Q (.str t.str) H'):=1
def hG:FnScope ["tree","word","first","second"] WD (ag iP):=%[|5]
def Fq:∀w∈joinW,w≠"is"/\w≠"yes"/\w≠"no"/\w≠"not":=by decide
def eT{a b:Str}(h:a≠b):¬ V.str a=V.str b:=λz=>h (gx z)
def El(a:Tr):(Str.empty++("not ":Str))++a.str=(Tr.not a).str:=by
 apply eI ?_;rw[ci,ci,Fl];show([]++[110,111,116,32])++a.txt=[110,111,116,32]++a.txt;rw[jY0]
def Em(o:Str)(a b:Tr):((((((Str.empty++("(":Str))++a.str)++(" ":Str))++o)++(" ":Str))++b.str)++(")":Str)=(Tr.bin o a b).str:=by
 apply eI ?_;simp only[ci,jU,gi,oP];show((((((([]:List Nat)++[40])++a.txt)++[32])++o.cps.toList)++[32])++b.txt)++[41]=[40]++(a.txt++([32]++(o.cps.toList++([32]++(b.txt++[41])))))
 simp
def yJ:Tr.yes.str="yes":=eI lit_y.symm
def Bi:Tr.no.str="no":=eI lit_o.symm
def Eo{n:Nat}(F:#["tree_text",iP])(fq:#[n+1,"tree_text",WD,spTT n]):#[n+2,f,fd,WD,spTT (n+1)]:=by
 exists hG
 erw[v,t,1,T,ok,dn,sz,k]at h;refine⟨_,(aa #[ah,1,hG,aI aJ (pv 0) ad #[1]]
  (aa (aF (af aN (pv 1) aq (ao _)) (ac (aj (aI aJ (pv 0) ad #[1]))) ax)
  (aa (aF (PW.pt (eF (af aN (pv 1) aq (ao _)) (dZ (af aN (pv 1) aq (ao _))))) (ac (aj (pv 1))) ax)
  (aa #[ah,2,hG,ai fq hr (zH0 _) rfl %[aI aJ (pv 0) ad #[1]|bc]]
  (aa (aF (af aN (pv 1) aq (ao _)) (ac (aj (nq (dy aq (dy (oJ (pv 2)) re))))) ax)
  (aa #[ah,3,hG,ai fq hr (zH0 _) rfl %[aI aJ (pv 0) ad #[1]|bc]]
  (ac (aj (nq (dy aq (dy (oJ (pv 2)) (dy aq (dy (oJ (pv 1)) (dy aq (dy (oJ (pv 3)) (dy aq re)))))))))))))))),?_⟩
 let z0:(Str.empty).length=0:=by decide
 cases T with
 | @is a x e=>
   erw[0,a,_,(0),0,1,zB0 e,at0 ..,6];erw[0,1,0,6];apply aU rfl ?_;erw[0,a,_,(1),0,1,zB0 e,at1 ..,k H (Same.refl H)]
 | @yes a e=>
   erw[0,a,_,(0),0,1,zB0 e,at0 ..,6];erw[0,1,0,6];apply ay (eT ⋯) ?_;erw[0,1,0,6];apply aU rfl ?_;apply ee ?_;let k':=k H (Same.refl H);rw[yJ]at k';erw[0,k']
 | @no a e=>
   erw[0,a,_,(0),0,1,zB0 e,at0 ..,6];erw[0,1,0,6];apply ay (eT ⋯) ?_;erw[0,1,0,6];apply ay (eT ⋯) ?_;erw[0,1,0,6];apply aU rfl ?_;let k':=k H (Same.refl H);rw[Bi]at k';erw[0,k']
 | @not a u r e g=>
   let dr:r.depth<=n:=jN1 dn;let sr:r.size+1<=100:=sz;let lr:=Tr.str_len (t:=r) ok;erw[0,a,_,(0),0,1,zB0 e,at0 ..,6];erw[0,1,0,6];apply ay (eT ⋯) ?_;erw[0,1,0,6];apply ay (eT ⋯) ?_;erw[0,1,0,6];apply ay (eT ⋯) ?_;erw[0,a,_,(1),0,1,zB0 e,at1 ..,u,r,1,g,ok,dr,3,λH1 S1=>?_];erw[0,1,0,6];apply aU rfl ?_;let l4:(("not ":Str)).length=4:=by decide
   erw[0,aV (by rw[zB1,z0,l4];omega),0,0,aV #[0],0,aV (by rw[zB1,zB1,z0,l4];omega),aV (by rw[zB1,zB1,z0,l4];omega),6];rw[El];exact k H1 S1
 | @bin a o u u2 r r2 e g g2=>
   erw[oj,ok1,ok2]at ok;let%[n1,n2,n3|n4]:=Fq o oj;let dd:r.depth<=n/\r2.depth<=n:=by
    have:max r.depth r2.depth+1<=n+1:=dn
    omega
   let sr:r.size+r2.size+1<=100:=sz;let lr:=Tr.str_len (t:=r) ok1;let lr2:=Tr.str_len (t:=r2) ok2;let ol:=(ie o oj).1;erw[0,a,_,(0),.str o,1,1,zB0 e,at0 ..,6];erw[0,1,0,6];apply ay (eT n1) ?_;erw[0,1,0,6];apply ay (eT n2) ?_;erw[0,1,0,6];apply ay (eT n3) ?_;erw[0,a,_,(1),u,1,1,zB0 e,at1 ..,u,r,1,g,ok1,dd.1,3,λH1 S1=>?_];erw[0,1,0,6];apply ay (eT n4) ?_;erw[0,a,_,(2),u2,1,1,zB0 (S1 _ _ e),at2 ..,u2,r2,1,g2.mono (bp S1),ok2,dd.2,3,λH2 S2=>?_];let l1:(("(":Str)).length=1:=by decide
   let l2:((" ":Str)).length=1:=by decide
   let l3:((")":Str)).length=1:=by decide
   erw[0,aV (by simp only[zB1,z0,l1];omega),0,0,aV #[0],0,aV (by simp only[zB1,z0,l1];omega),0,aV (by simp only[zB1,z0,l1,l2];omega),0,0,aV #[0],0,aV (by simp only[zB1,z0,l1,l2];omega),0,aV (by simp only[zB1,z0,l1,l2];omega),0,0,aV #[0],0,aV (by simp only[zB1,z0,l1,l2];omega),0,aV (by simp only[zB1,z0,l1,l2,l3];omega),aV (by simp only[zB1,z0,l1,l2,l3];omega),6];rw[Em];exact k H2 (S1.trans S2)
def En:#[1,f,fd,WD,spTT 0]:=by
 let no:∀vs H Q E,¬ spTT 0 vs H Q E:=λvs H Q E h=>by
  erw[v,t,_,_,_,h1,_]at h
  have:=t.depth_pos
  omega
 exists 3
def ny(F:#["tree_text",iP])(m:mg "tree_text"=some (.ref f)):
 ∀n:Nat,#[n+1,f,fd,WD,spTT n]
 |0=>En
 |n+1=>Eo F (Cal.of F (ny F m n) m (λ_ _ _ _ _ _ us hl=>by let%[u0|1]:=Aw hl;rfl))
def SP:Str:=%[|#[32]]
def yO:(" ":Str)=SP:=by decide
def Dd{x:Nat}:∀{l:List (List Nat)},x∈jn c l->x=c∨∃a∈l,x∈a
 | [],h=>by cases h
 | [a],h=>.inr %[a,qB0|h]
 |a::b::r,h=>by
   rcases qG0 (show x∈a++c::jn c (b::r)from h)with h | h
   . exact .inr %[a,qB0|h]
   . rcases zS0 h with h | h
     . exact .inl h
     . rcases Dd h with h | ⟨d,hd,h⟩
       . exact .inl h
       . exact .inr %[d,qK0 _ hd|h]
instance spNext(C:Addr)(n:Nat):∀(sc:Addr)(wi:Int)(T:Str)(p k:Nat)(t:Tr)(r:List Nat),vs=[.ref sc,.int wi]->ScanAt C H sc T p k->T.length<=1000->p<=T.length->T.cps.toList.drop p=t.txt++r->tM r->t.nm->t.depth<=n->wi+(t.depth:Int)<=9->k+t.size<=20->(∀(v:V)(H':Hp),TreeAt H' v t->ScanAt C H' sc T (p+t.txt.length) (k+t.size)->SameBut sc H H'->Q v H'):=1
instance spJoinT(C:Addr)(n:Nat):∀(sc:Addr)(wi:Int)(T:Str)(p k:Nat)(o:Str)(a b:Tr)(r:List Nat),vs=[.ref sc,.int wi]->ScanAt C H sc T p k->T.length<=1000->p<=T.length->T.cps.toList.drop p=(Tr.bin o a b).txt++r->o∈joinW->a.nm->b.nm->a.depth<=n->b.depth<=n->wi+(a.depth:Int)<=8->wi+(b.depth:Int)<=8->k+a.size+b.size<=20->(∀(v:V)(H':Hp),TreeAt H' v (.bin o a b)->ScanAt C H' sc T (p+(Tr.bin o a b).txt.length) (k+a.size+b.size)->SameBut sc H H'->Q v H'):=1
def fY:FnScope ["scan","within","left","word","right"] WE (ag gB):=%[|5]
def Fp{n:Nat}(F:#["joined_tree",gB])(X:Tx K mg)(T:STxt K mg C)(M:Mths P w K mg base C fE fS fT fW fF dE dS dT dW dF)(df:#[2*n+3,"next_tree",WE,spNext C n]):#[2*n+4,f,fd,WE,spJoinT C n]:=by
 exists fY
 erw[sc,wi,Tx,p,k,o,a,b,r,1,S0,tl,pl,hd,oj,na,nb,da,db,wa,wb,k30,q]at h;erw[ja,gj,hj]at X.joining;let MB:Room 1 _:=hr.mono #[0];let hr2:Room 2 _:=hr.mono #[0];refine⟨_,(aa (aQ (bu (pv 0) T.cl M.mT M.gT hr2 M.bT .nil aY %[aq|bc]))
  (aa #[ah,2,fY,ai df hr #[0] rfl %[0,am aR (pv 1) ad|bc]]
  (aa (aQ (bu (pv 0) T.cl M.mT M.gT hr2 M.bT .nil aY %[aq|bc]))
  (aa #[ah,3,fY,bV (pv 0) T.cl M.mW M.gW MB M.bW .nil aY]
  (aa (aF (af nu (pv 3) (bQ (v:=.ref ja) rfl gj rfl) (by rfl')) aX ax)
  (aa (aQ (bu (pv 0) T.cl M.mT M.gT hr2 M.bT .nil aY %[aq|bc]))
  (aa #[ah,4,fY,ai df hr #[0] rfl %[0,am aR (pv 1) ad|bc]]
  (aa (aQ (bu (pv 0) T.cl M.mT M.gT hr2 M.bT .nil aY %[aq|bc]))
  (ac (aj (aM %[3,2,4|bc]))))))))))),?_⟩
 let l1:(("(":Str)).length=1:=by decide
 let l2:((" ":Str)).length=1:=by decide
 let l3:((")":Str)).length=1:=by decide
 let olen:o.cps.toList.length=o.length:=dh o;let hd0:Tx.cps.toList.drop p=[40]++(a.txt++([32]++(o.cps.toList++([32]++(b.txt++([41]++r)))))):=by
  rw[hd];show([40]++(a.txt++([32]++(o.cps.toList++([32]++(b.txt++[41]))))))++r=_
  simp
 let tlen:(Tr.bin o a b).txt.length=1+(a.txt.length+(1+(o.length+(1+(b.txt.length+1))))):=by
  show([40]++(a.txt++([32]++(o.cps.toList++([32]++(b.txt++[41])))))).length=_;simp only[zK0,zM0,zI1,olen]
 let hl0:=iV hd0 pl;simp only[zK0,zM0,zI1,olen]at hl0;let hd1:=bn hd0;let hd2:=bn hd1;let hd3:=bn hd2;let hd4:=bn hd3;let hd5:=bn hd4;let hd6:=bn hd5;simp only[zM0,zI1,olen]at hd1 hd2 hd3 hd4 hd5 hd6;let%[dx0,fs0,hs0|sf0]:=id S0;erw[0,sc,dx0,fs0,1,hs0,sf0.no3,sc,Tx,_,p,k,1,S0,cq (r:=a.txt++([32]++(o.cps.toList++([32]++(b.txt++([41]++r)))))) (by rw[jU];exact hd0) pl,by rw[l1];decide,λH1 S1 B1=>?_];rw[l1]at S1;erw[0,0,2,sc,wi+1,Tx,p+1,k,a,0,S1,tl,3,hd1,.inr %[(32),0|.inl rfl],na,da,3,3,λv1 H2 T1 S2 B2=>?_];let%[Mw,fs2,hs2|sf2]:=id S2;erw[0,sc,Mw,fs2,1,hs2,sf2.no3,sc,Tx,_,_,0,S2,cq (r:=o.cps.toList++([32]++(b.txt++([41]++r)))) (by rw[gi];exact hd2) #[0],by rw[l2];decide,λH3 S3 B3=>?_];rw[l2]at S3;let T3:=T1.mono (bX S2 B3);let%[dx3,fs3,hs3|sf3]:=id S3;erw[0,sc,dx3,fs3,1,hs3,sf3.no4,sc,Tx,_,_,o.cps.toList,0,S3,tl,3,hd3,(λc hc=>oR ((ie o oj).2.1 c hc)),.inr %[(32),0|.inl rfl],λH4 S4 B4=>?_];rw[olen]at S4;let T4:=T3.mono (bX S3 B4);erw[0,ja,0,.inr (hj _),1,⋯,0,6];let einj:inV (.str (stl o.cps.toList)) (joinW.map V.str)=true:=by rw[gQ,eX,zD1 oj]
 rw[einj];apply cV ?_;let%[dx4,fs4,hs4|sf4]:=id S4;erw[0,sc,dx4,fs4,1,hs4,sf4.no3,sc,Tx,_,_,0,S4,cq (r:=b.txt++([41]++r)) (by rw[gi];exact hd4) #[0],by rw[l2];decide,λH5 S5 B5=>?_];rw[l2]at S5;let T5:=T4.mono (bX S4 B5);erw[0,0,2,sc,wi+1,Tx,_,_,b,0,S5,tl,3,hd5,.inr %[(41),r,1|.inr (.inr rfl)],nb,db,3,3,λv2 H6 T6 S6 B6=>?_];let T6':=T5.mono (bX S5 B6);let%[dx6,fs6,hs6|sf6]:=id S6;erw[0,sc,dx6,fs6,1,hs6,sf6.no3,sc,Tx,_,_,0,S6,cq (r:=r) (by rw[oP];exact hd6) #[0],by rw[l3];decide,λH7 S7 B7=>?_];rw[l3]at S7;let T7:=T6'.mono (bX S6 B7);let T7b:=T6.mono (bX S6 B7);erw[0,0,0,y3S,λc hc=>?_];let G:=zC0 hc (.tup [.str (stl o.cps.toList),v1,v2]);let ep:p+1+a.txt.length+1+o.length+1+b.txt.length+1=p+(Tr.bin o a b).txt.length:=by rw[tlen];omega
 rw[ep]at S7;apply q _ _ (.bin bh (T7.mono (bp G)) (T7b.mono (bp G))) (S7.same G) ?_;exact B1.trans (B2.trans (B3.trans (B4.trans (B5.trans (B6.trans (B7.trans (zI0 G)))))))
def t8:FnScope ["scan","within","word"] WE (ag iR):=%[|5]
def yj{l:List Nat}(h:∀c∈l,97<=c/\c<=122)(h1:1<=l.length)(r:List Nat):∃c r',l++r=c::r'/\c≠40:=by
 cases l with
 |nil=>cases h1
 |cons c l'=>
   have:=h c qB0
   erw[c,l'++r,1,3]
def CL{n:Nat}(F:#["next_tree",iR])(T:STxt K mg C)(M:Mths P w K mg base C fE fS fT fW fF dE dS dT dW dF)(bZ:#[1,"is_name",WC,spTxt iI])(df:#[2*n+3,"next_tree",WE,spNext C n])(IM:#[2*n+4,"joined_tree",WE,spJoinT C n]):#[2*n+5,f,fd,WE,spNext C (n+1)]:=by
 exists t8
 erw[sc,wi,Tx,p,k,t,r,1,S0,tl,pl,hd,er,nm,dn,wd,k30,q]at h;let MB:Room 1 _:=hr.mono #[0];let hr2:Room 2 _:=hr.mono #[0];refine⟨_,(aa (aQ (bu (pv 0) T.cl M.mE M.gE MB M.bE .nil aY %[1|bc]))
  (aa (aF (dN (bu (pv 0) T.cl M.mS M.gS MB M.bS .nil aY %[aq|bc])) (ac (aj (ai IM hr #[0] rfl %[0,1|bc]))) ax)
  (aa #[ah,2,t8,bV (pv 0) T.cl M.mW M.gW MB M.bW .nil aY]
  (aa (aF (af aN (pv 2) aq (ao _)) (aa (aQ (bu (pv 0) T.cl M.mT M.gT hr2 M.bT .nil aY %[aq|bc]))
   (ac (aj (aM %[aq,ai df hr #[0] rfl %[0,am aR (pv 1) ad|bc]|bc])))) ax)
  (aa (aF (PW.pt (eF (af aN (pv 2) aq (ao _)) (dZ (af aN (pv 2) aq (ao _))))) (ac (aj (aM %[2|bc]))) ax)
  (aa (aF (eQ (dN (ai bZ hr #[0] rfl %[2|bc]))) aX ax)
  (ac (aj (aM %[aq,2|bc]))))))))),?_⟩
 let dp:=t.depth_pos;let sp:=t.size_pos;let%[dx0,fs0,hs0|sf0]:=id S0;erw[0,sc,dx0,fs0,1,hs0,sf0.no1,0,sc,Tx,p,k,wi,1,S0,3,3,λH1 S1 B1=>?_];let%[dx1,fs1,hs1|sf1]:=id S1;erw[0,sc,dx1,fs1,1,hs1,sf1.no2,sc,Tx,_,p,0,S1,0,6];cases t with
 |bin o a b=>
   erw[oj,na,nb]at nm;let dd:a.depth<=n/\b.depth<=n/\wi+(a.depth:Int)<=8/\wi+(b.depth:Int)<=8:=by
    let e1:(Tr.bin o a b).depth=max a.depth b.depth+1:=rfl;rw[e1]at dn wd;omega
   let e2:(Tr.bin o a b).size=a.size+b.size+1:=rfl;let hs:eJ Tx ("(":Str) (p:Int)=true:=cq (r:=(a.txt++([32]++(o.cps.toList++([32]++(b.txt++[41])))))++r) (by rw[jU];exact hd) pl;rw[hs];apply ee ?_;erw[0,0,sc,wi,Tx,p,k+1,o,a,b,r,1,S1,tl,pl,hd,oj,na,nb,dd.1,dd.2.1,dd.2.2.1,dd.2.2.2,3,λv H2 T2 S2 B2=>?_];rw[show k+1+a.size+b.size=k+(Tr.bin o a b).size by rw[e2];omega]at S2;exact q v H2 T2 S2 (B1.trans B2)
 |is x=>
   let%[%[_,xl|_],x1,x6|xk]:=id nm;let x1':1<=x.cps.toList.length:=by rw[dh];exact x1
   let%[c,r',hc|c40]:=yj xl x1' r;let hd':Tx.cps.toList.drop p=x.cps.toList++r:=hd;rw[jo (hd'.trans hc) c40];apply cV ?_;erw[0,sc,dx1,fs1,1,hs1,sf1.no4,sc,Tx,p,_,x.cps.toList,r,1,S1,tl,pl,hd',(λc hc=>oR (xl c hc)),er,λH2 S2 B2=>?_];rw[gQ];let ne:∀z:Str,z∈kept->¬ V.str x=V.str z:=λz hz h=>xk (gx h▸hz)
   erw[0,1,0,6];apply ay (ne _ ⋯) ?_;erw[0,1,0,6];apply ay (ne _ ⋯) ?_;erw[0,1,0,6];apply ay (ne _ ⋯) ?_;erw[0,x,1,3,λH3 S3=>%[0|6]];rw[qb nm];apply cV ?_;erw[0,y2S,λa ha=>?_];let G:=zC0 ha (.tup [.str "is",.str x]);exact q _ _ (.is bh) (S2.same (S3.trans G)) (B1.trans (B2.trans (zI0 (S3.trans G))))
 |yes=>
   let hd':Tx.cps.toList.drop p=[121,101,115]++r:=hd;rw[jo (hd'.trans rfl) ⋯];apply cV ?_;erw[0,sc,dx1,fs1,1,hs1,sf1.no4,sc,Tx,p,_,[121,101,115],r,1,S1,tl,pl,hd',4,er,λH2 S2 B2=>?_];rw[show stl [121,101,115]=("yes":Str)from yJ];erw[0,1,0,6];apply ay (eT ⋯) ?_;erw[0,1,0,6];apply aU rfl ?_;apply ee ?_;erw[0,y1S,λa ha=>?_];let G:=zC0 ha (.tup [.str "yes"]);exact q _ _ (.yes bh) (S2.same G) (B1.trans (B2.trans (zI0 G)))
 |no=>
   let hd':Tx.cps.toList.drop p=[110,111]++r:=hd;rw[jo (hd'.trans rfl) ⋯];apply cV ?_;erw[0,sc,dx1,fs1,1,hs1,sf1.no4,sc,Tx,p,_,[110,111],r,1,S1,tl,pl,hd',4,er,λH2 S2 B2=>?_];rw[show stl [110,111]=("no":Str)from Bi];erw[0,1,0,6];apply ay (eT ⋯) ?_;erw[0,1,0,6];apply ay (eT ⋯) ?_;erw[0,1,0,6];apply aU rfl ?_;erw[0,y1S,λa ha=>?_];let G:=zC0 ha (.tup [.str "no"]);exact q _ _ (.no bh) (S2.same G) (B1.trans (B2.trans (zI0 G)))
 |not a=>
   let hd':Tx.cps.toList.drop p=[110,111,116]++([32]++(a.txt++r)):=hd;let hl:=iV hd' pl;let dd:a.depth<=n/\wi+1+(a.depth:Int)<=9:=by
    let e1:(Tr.not a).depth=a.depth+1:=rfl;rw[e1]at dn wd;omega
   let e2:(Tr.not a).size=a.size+1:=rfl;let e3:(Tr.not a).txt.length=4+a.txt.length:=by
    show([110,111,116,32]++a.txt).length=_;rw[zK0];rfl
   rw[jo (hd'.trans rfl) ⋯];apply cV ?_;erw[0,sc,dx1,fs1,1,hs1,sf1.no4,sc,Tx,p,_,[110,111,116],0,S1,tl,pl,hd',4,.inr %[(32),0|.inl rfl],λH2 S2 B2=>?_];rw[show stl [110,111,116]=("not":Str)from eI lit_n.symm];erw[0,1,0,6];apply aU rfl ?_;let hd2:=bn hd';let hd3:=bn hd2;let%[Mw,fs2,hs2|sf2]:=id S2;let l2:((" ":Str)).length=1:=by decide
   let hl':p+3+(1+(a.txt.length+r.length))=Tx.length:=by
    simp only[zK0,zM0,zI1]at hl;omega
   erw[0,sc,Mw,fs2,1,hs2,sf2.no3,sc,Tx,_,_,0,S2,cq (r:=a.txt++r) (by rw[gi];exact hd2) (by show p+3<=Tx.length;omega),by rw[l2];decide,λH3 S3 B3=>?_];rw[l2]at S3;erw[0,0,2,sc,wi+1,Tx,_,_,a,r,1,S3,tl,by show p+3+1<=Tx.length;omega,hd3,er,nm,dd.1,dd.2,3,λv H4 T4 S4 B4=>?_];erw[y2S,λc hc=>?_];let G:=zC0 hc (.tup [.str "not",v]);let S4':ScanAt C H4 sc Tx (p+(Tr.not a).txt.length) (k+(Tr.not a).size):=by
    rw[e2,e3,show p+(4+a.txt.length)=p+3+1+a.txt.length by omega,show k+(a.size+1)=k+1+a.size by omega];exact S4
   exact q _ _ (.not bh (T4.mono (bp G))) (S4'.same G) (B1.trans (B2.trans (B3.trans (B4.trans (zI0 G)))))
def CK:#[3,f,fd,WE,spNext C 0]:=by
 let no:∀vs H Q E,¬ spNext C 0 vs H Q E:=λvs H Q E h=>by
  erw[_,_,_,_,_,t,_,_,_,_,_,_,_,_,h1,_]at h
  have:=t.depth_pos
  omega
 exists 3
def nJ(F:#["next_tree",iR])(m:mg "next_tree"=some (.ref f))(Fj:Fun K "joined_tree" "joined_tree" gB fj fdj)(mj:mg "joined_tree"=some (.ref fj))(X:Tx K mg)(T:STxt K mg C)(M:Mths P w K mg base C fE fS fT fW fF dE dS dT dW dF)(bZ:#[1,"is_name",WC,spTxt iI]):
 ∀n:Nat,#[2*n+3,f,fd,WE,spNext C n]
 |0=>CK
 |n+1=>
   let c1:=Cal.of F (nJ F m Fj mj X T M bZ n) m (λ_ _ _ _ _ _ us hl=>by let%[u0,u1|1]:=Av hl;rfl)
   CL F T M bZ c1 (Cal.of Fj (Fp Fj X T M c1) mj (λ_ _ _ _ _ _ us hl=>by let%[u0,u1|1]:=Av hl;rfl))
instance spReadK:∀(t:Tr)(k:Int),vs=[.str t.str,.int k]->t.nm->t.depth<=8->t.size<=20->(∀(v:V)(H':Hp),TreeAt H' v t->Same H H'->Q v H'):=1
def iL:FnScope ["text","row","scan","tree"] ["text","row"] (ag iZ):=%[|5]
def rh(F:#["tree_in_row",iZ])(X:Tx K mg)(T:STxt K mg C)(M:Mths P w K mg base C fE fS fT fW fF dE dS dT dW dF)(MK:Mk K C fI)(GI:#[1,fI,fdI,WU,spSInit C])(bI:Binds K fdI WU [])
 (df:#[23,"next_tree",WE,spNext C 10]):#[24,f,fd,["text","row"],spReadK]:=by
 exists iL
 erw[t,k,1,nm,dp,sz,q]at h;erw[tw,gw]at X.gwithin;erw[tp,gp]at X.gparts;let MB:Room 1 _:=hr.mono ⋯;let hr2:Room 2 _:=hr.mono ⋯;refine⟨_,(aa #[ah,2,iL,ib MK GI hr2 rfl T.mgC bI .nil aY %[0,1,bQ (v:=.int 10) rfl gw %[|0],bQ (v:=.int 30) rfl gp ⟨_,rfl⟩|bc]]
  (aa #[ah,3,iL,ai df hr ⋯ rfl %[2,ad|bc]]
  (aa (aQ (bV (pv 2) T.cl M.mF M.gF MB M.bF .nil aY))
  (ac (aj (pv 3)))))),?_⟩
 erw[0,0,λg dx nx ndx nex=>?_];let s3:Same H (upd (upd H dx (.own g)) g (.ins C dx [])):=λb o e=>by
  rw[aB (bi e nx),aB (bi e ndx)];exact e
 erw[g,dx,t.str,k,_,0,4,4,bh,λH1 S1 B1=>%[1|6]];let tl:=Tr.str_len nm;let e0:t.str.length=t.txt.length:=tP _;erw[0,g,(1),t.str,(0),(0),t,[],1,S1,3,zT0 _,by rw[qO1,qZ1];rfl,.inl rfl,nm,3,3,3,λv H2 T2 S2 B2=>?_];rw[Nat.zero_add,←e0]at S2;let%[Mw,fs2,hs2|sf2]:=id S2;erw[0,g,Mw,fs2,1,hs2,sf2.no5,g,t.str,0,S2,3,6];erw[0,q v H2 T2 λb o e=>B2 b o (bi e nx) (B1 b o (bi e nx) (s3 b o e))]
def wS:∀n:Nat,(List.replicate n true).all id=true
 |0=>rfl
 |n+1=>by rw[zY1,jK1,wS n];rfl
def fk(n:Int):Str:=("field ":Str)++bJ n
def ki(xs:List Str):Str:=Str.join SP (("switches":Str)::xs)
def cX(t:Tr):Str:=("holds ":Str)++t.str
def eC(n:Int)(xs:List Str)(ts:List Tr):List Str:=fk n::ki xs::ts.map cX
def iK(n:Int)(xs:List Str)(ts:List Tr):Str:=Str.join NL (eC n xs ts)
structure Gmx(n:Int)(xs:List Str)(ts:List Tr):Prop where
 n0:0<=n
 n1:n<1000000000000
 x6:xs.length<=6
 xk:∀x∈xs,NmK x
 t1:1<=ts.length
 t4:ts.length<=4
 tk:∀t∈ts,t.nm/\t.depth<=8/\t.size<=20
def cd_f:cd (("field ":Str))=[102,105,101,108,100,32]:=by decide
def cd_h:cd (("holds ":Str))=[104,111,108,100,115,32]:=by decide
def cd_s:cd (("switches":Str))=[115,119,105,116,99,104,101,115]:=by decide
def wy:(("field ":Str)).length=6:=by decide
def wx:(("holds ":Str)).length=6:=by decide
def len_s:(("switches":Str)).length=8:=by decide
def Tr.txt_hi:∀t:Tr,t.nm->∀c∈t.txt,32<=c
 |.is x,h,c,hc=>by have:=h.1.2.1 c hc;omega
 |.yes,_,c,hc=>by revert c;decide
 |.no,_,c,hc=>by revert c;decide
 |.not a,h,c,hc=>by
   rcases qG0 (show c∈[110,111,116,32]++a.txt from hc)with h1 | h1
   . exact(by decide:∀c∈([110,111,116,32]:List Nat),32<=c) c h1
   . exact Tr.txt_hi a h c h1
 |.bin o a b,⟨h,h1,h2⟩,c,hc=>by
   let hc':c∈[40]++(a.txt++([32]++(o.cps.toList++([32]++(b.txt++[41]))))):=hc;simp only[List.mem_append,qG1]at hc';rcases hc' with e | e | e | e | e | e | e
   . omega
   . exact Tr.txt_hi a h1 c e
   . omega
   . have:=(ie o h).2.1 c e;omega
   . omega
   . exact Tr.txt_hi b h2 c e
   . omega
def Hs(g:Gmx n xs ts):∀r∈eC n xs ts,∀c∈cd r,32<=c:=by
 intro r hr c hc;rcases zS0 hr with rfl | hr
 . unfold fk at hc;rw[gq,cd_f]at hc;rcases qG0 hc with h | h
   . exact(by decide:∀c∈([102,105,101,108,100,32]:List Nat),32<=c) c h
   . have:=jS g.n0 c h;omega
 rcases zS0 hr with rfl | hr
 . unfold ki at hc;rw[show SP=%[|#[32]]from rfl,iW]at hc;rcases Dd hc with e | ⟨a,ha,h⟩
   . omega
   . let%[x,hx|1]:=List.mem_map.mp ha;rcases zS0 hx with rfl | hx
     . rw[cd_s]at h;exact(by decide:∀c∈([115,119,105,116,99,104,101,115]:List Nat),32<=c) c h
     . have:=(g.xk x hx).1.2.1 c h;omega
 . let%[t,ht|1]:=List.mem_map.mp hr;unfold cX at hc;rw[gq,cd_h]at hc;rcases qG0 hc with h | h
   . exact(by decide:∀c∈([104,111,108,100,115,32]:List Nat),32<=c) c h
   . exact Tr.txt_hi t (g.tk t ht).1 c h
def xF(g:Gmx n xs ts):Txt.split (iK n xs ts) NL=eC n xs ts:=lT (c:=10) (jT1 _ _) λp hp hc=>by
 have:=Hs g p hp 10 hc
 omega
def rH(c:Nat):∀ps:List Str,(Str.join %[|#[c]] ps).length<=(ps.map (·.length)).sum+ps.length
 | []=>zT0 _
 | [a]=>by
   show a.length<=a.length+0+1;omega
 |a::b::r=>by
   let ih:=rH c (b::r);let e:(Str.join %[|#[c]] (a::b::r)).length=a.length+1+(Str.join ⟨#[c]⟩ (b::r)).length:=by
    show(a++%[|#[c]]++Str.join ⟨#[c]⟩ (b::r)).length=_;rw[zB1,zB1];rfl
   rw[e,zY0,zV1,zM0];omega
def tu{n:Int}(h0:0<=n)(h1:n<1000000000000):(fk n).length<=18:=by
 unfold fk;rw[zB1,wy]
 have:=gH h0 h1
 omega
def Br{xs:List Str}(x6:xs.length<=6)(xk:∀x∈xs,NmK x):(((("switches":Str)::xs)).map (·.length)).sum+((("switches":Str)::xs)).length<=60:=by
 have:=lS (l:=xs) (b:=6) λp hp=>(xk p hp).2.2.1
 rw[zY0,zV1,len_s,zM0]
 have:xs.length*6<=36:=#[0]
 omega
def Bs{xs:List Str}(x6:xs.length<=6)(xk:∀x∈xs,NmK x):(ki xs).length<=60:=zN0 (rH 32 _) (Br x6 xk)
def vx{t:Tr}(h:t.nm)(hs:t.size<=20):(cX t).length<=246:=by
 unfold cX;rw[zB1,wx]
 have:=Tr.str_len h
 omega
def vH(g:Gmx n xs ts):((eC n xs ts).map (·.length)).sum+(eC n xs ts).length<=2000:=by
 let h1:=lS (l:=eC n xs ts) (b:=246) λp hp=>by
  rcases zS0 hp with rfl | hp
  . have:=tu g.n0 g.n1;omega
  rcases zS0 hp with rfl | hp
  . have:=Bs g.x6 g.xk;omega
  . let%[t,ht|1]:=List.mem_map.mp hp;exact vx (g.tk t ht).1 (g.tk t ht).2.2
 let h2:(eC n xs ts).length=ts.length+2:=by
  unfold eC
  simp
 let h3:=g.t4;rw[h2]at h1 ⊢
 have:(ts.length+2)*246<=6*246:=Nat.mul_le_mul_right _ #[0]
 omega
def DC(g:Gmx n xs ts):(iK n xs ts).length<=2000:=zN0 (rH 10 _) (vH g)
def qv{z u:Str}{r:List Nat}(h:z.cps.toList=u.cps.toList++r):Txt.startswith z u=true:=by
 let hl:=congrArg List.length h;rw[zK0,dh,dh]at hl;show(decide (0+u.length<=z.length)&&Builtin.Str.subAt z u 0)=true;rw[tO,qO1,h,←dh u,List.take_left,zD1 rfl,zD1 (by rw[dh];omega)];rfl
def qx{u y:Str}:Txt.slice (u++y) (some (u.length:Int)) none=y:=by
 let e:(u++y).cps.toList=u.cps.toList++y.cps.toList:=ci u y;let es:Txt.slice (u++y) (some (u.length:Int)) none=_:=StrLaws.sliceText_from (x:=u++y) (i:=(u.length:Int)) %[3|by rw[e,zK0,dh];omega];rw[es];apply eI ?_;show((u++y).cps.toList.drop (u.length:Int).toNat).take (((u++y).cps.toList.length:Int)-(u.length:Int)).toNat=y.cps.toList;rw[e,show(u.length:Int).toNat=u.cps.toList.length by rw[dh];omega,List.drop_left,List.take_of_length_le];rw[zK0,dh,dh];omega
instance spFieldR:∀n:Int,vs=[.str (fk n)]->0<=n->n<1000000000000->(∀H',Same H H'->Q (.int n) H'):=1
def kt:FnScope ["text","figures"] WC (ag iC):=%[|5]
def pS(F:#["field_in_row",iC])(B:Bl mg)(X:Tx K mg)(b7:#[1,"is_figures",WC,spTxt kN]):#[2,f,fd,WC,spFieldR]:=by
 exists kt
 erw[n,1,n0,n1,q]at h;erw[th,gh]at X.fhead;refine⟨_,(aa #[ah,1,kt,dL qz (pv 0) (dQ (aE cz rfl B.len zC1 %[bQ (v:=.str "field ") rfl gh %[|0]|bc])) gG]
  (aa (aF (PW.pt (eF (eQ (dN (cA zH1 qS1 qT1 jh (pv 0) %[bQ (v:=.str "field ") rfl gh %[|0]|bc]))) (dZ (eQ (dN (ai b7 hr ⋯ rfl %[1|bc])))))) aX ax)
  (ac (aj (aW jj rfl B.int io %[1|bc]))))),?_⟩
 let fl:=tu n0 n1;let nl:=gH n0 n1;erw[0,0,aV (by rw[wy];decide),0,0,aV #[0],6];let es:Txt.slice (fk n) (some ((("field ":Str)).length:Int)) none=bJ n:=qx;rw[es];erw[0,1,2,0,6];rw[qv (z:=fk n) (u:="field ") (r:=(bJ n).cps.toList) (ci _ _)];apply cV ?_;erw[0,bJ n,1,3,λH1 S1=>%[0|6]];rw[uS n0 n1];apply cV ?_;erw[0,_,0,uR n0 n1,3,q H1 S1]
instance spRowE:∀(a:Addr)(rs:List Str)(k:Nat)(r:Str),vs=[.ref a,.int (k:Int)]->H a=some (.lst (rs.map V.str))->rs[k]?=some r->Q (.str r) H:=1
def sw:FnScope Wu Wu (ag jI):=%[|5]
def yH{rs:List Str}{k:Nat}{r:Str}(h:rs[k]?=some r):atI (rs.map V.str) (k:Int)=some (.str r):=cK (by rw[zZ0,h];rfl)
def sC(F:#["row_or_end",jI])(B:Bl mg):#[1,f,fd,Wu,spRowE]:=by
 exists sw
 erw[a,rs,k,r,1,ha,hk,q]at h;refine⟨_,(aa (aF (af Cl (pv 1) (aE aD rfl B.len zC1 %[0|bc]) (ao _)) aX ax)
  (ac (aj (aI ix_list (pv 0) (pv 1) #[1])))),?_⟩
 let hi:=(zW0 hk).1;erw[0,0,a,0,.inl (zG0 ha),2,0,6];apply ay (by rw[zF0];omega) ?_;erw[0,0,a,_,2,zG0 ha,yH hk,q]
instance spSwR:∀(xs:List Str),vs=[.str (ki xs)]->xs.length<=6->(∀x∈xs,NmK x)->(∀(a:Addr)(H':Hp),H' a=some (.tup (xs.map V.str))->Same H H'->Q (.ref a) H'):=1
def zE{xs:List Str}(xk:∀x∈xs,NmK x):Txt.split (ki xs) SP=("switches":Str)::xs:=lT (c:=32) (jT1 _ _) λp hp hc=>by
 rcases zS0 hp with rfl | hp
 . rw [cd_s]at hc
   revert hc;decide
 . have:=(xk p hp).1.2.1 32 hc;omega
def fJ:FnScope ["text","words","names"] WC (ag eP):=%[|5]
def mq(F:#["switches_in_row",eP])(B:Bl mg)(X:Tx K mg)(bZ:#[1,"is_name",WC,spTxt iI]):#[2,f,fd,WC,spSwR]:=by
 exists fJ
 erw[xs,1,x6,xk,q]at h;erw[tm,gm]at X.switches;refine⟨_,(aa #[ah,1,fJ,cA zH1 jO0 jO1 rD (pv 0) %[aq|bc]]
  (aa #[ah,2,fJ,dL yQ (pv 1) (dQ ad) gG]
  (aa (aF (PW.pt (eF (af lE (aI ix_list (pv 1) ad #[1]) aq (ao _)) (dZ (af fO (aE aD rfl B.len zC1 %[2|bc]) (bQ (v:=.int 6) rfl gm ⟨_,rfl⟩) (ao _))))) aX ax)
  (aa (aF (eQ (dN (aE (og rfl) rfl B.all jF0 (ae (cJ (N:=[]) (ix:=[]) (cl:=[]) rfl #[5] rfl
   (ia (pv 2)) (λ_ _ _=>du (ai bZ hr ⋯ rfl %[0|bc]))) bc)))) aX ax)
  (ac (aj (aW bz rfl B.tuple cj %[2|bc]))))))),?_⟩
 let sl:=Bs x6 xk;let ps:=zE xk;let psp:Txt.split (ki xs) (" ":Str)=("switches":Str)::xs:=by rw[yO];exact ps
 erw[0,1,ki xs,0,1,⋯,3,by rw[psp,zM0];omega,λW hW=>?_];rw[psp];let GW:=zC0 hW (.lst ((("switches":Str)::xs).map V.str));let hW1:upd H W (.lst ((("switches":Str)::xs).map V.str)) W=some (.lst ((("switches":Str)::xs).map V.str)):=bh;generalize upd H W (.lst ((("switches":Str)::xs).map V.str))=H1 at GW hW1;erw[0,(1),1,W,0,zG0 hW1,λN hN=>?_];let ec:iM ((("switches":Str)::xs).map V.str) (some 1) none=xs.map V.str:=by
  have:=rT (xs:=(("switches":Str)::xs).map V.str) (k:=1) #[2]
  exact this
 rw[ec];let GN:=zC0 hN (.lst (xs.map V.str));let hN2:upd H1 N (.lst (xs.map V.str)) N=some (.lst (xs.map V.str)):=bh;generalize upd H1 N (.lst (xs.map V.str))=H2 at GN hN2;erw[0,W,_,(0),.str "switches",1,1,zG0 (GN _ _ hW1),at0 ..,1,0,6];show if(!decide (V.str "switches"=V.str "switches"))=true then _ else _
 rw[zD1 rfl];apply cV ?_;erw[0,N,0,.inl (zG0 hN2),2,0,6];apply ay (by rw[zF0];omega) ?_;erw[0,N,1,%[_|zG0 hN2],λD hD=>?_];apply jz (K:=K) (xs:=xs.map V.str) (λi H'=>H' D=some (.lst ((List.replicate i true).map V.bl))/\Same H2 H') %[by rw[bh];rfl|zC0 hD _] (λi H' _ h=>zG0 (h.2 _ _ hN2)) ?_ ?_
 . rintro i z H3 hz ⟨hD3,S3⟩;let hi:=(zW0 hz).1;let hi':=hi;rw[zF0]at hi';rw[zZ0]at hz;let%[x,hx|1]:=qQ0 hz;let xk':=xk x (qI0 hx);erw[0,x,1,by have:=xk'.2.2.1;omega,λH4 S4=>?_];rw[qb xk'];erw[_,S4 _ _ hD3,6,Nx.of hi %[6|λb' o' e'=>?_]]
   . rw[zF0,zT1];exact aO #[0]
   . rw[bh,List.replicate_succ',zL0];rfl
   . rw[aB (bi e' hD)];exact S4 _ _ (S3 _ _ e')
 . rintro H3 ⟨hD3,S3⟩;erw[D,0,zG0 hD3,0,6];rw[wS];apply cV ?_;erw[0,N,0,.inl %[zG0 (S3 _ _ hN2)|λt ht=>?_]];exact q t _ bh (GW.trans (GN.trans (S3.trans (zC0 ht _))))
def TsAt(H:Hp)(tv:List V)(ts:List Tr):Prop:=tv.length=ts.length/\∀(i:Nat)(v:V)(t:Tr),tv[i]?=some v->ts[i]?=some t->TreeAt H v t
def TsAt.mono(h:TsAt H tv ts)(k:cH H H'):TsAt H' tv ts:=%[h.1|λi v t hv ht=>(h.2 i v t hv ht).mono k]
def TsAt.snoc(h:TsAt H tv ts)(a:TreeAt H v t):TsAt H (tv++[v]) (ts++[t]):=by
 erw[by rw[zK0,zK0,h.1];rfl,λi u r hu hr=>?_];let hl:=h.1
 by_cases c:i<tv.length
 . rw[zP1 c]at hu;rw[zP1 #[0]]at hr;exact h.2 i u r hu hr
 . rw [zN1 #[0]]at hu;rw[zN1 #[0]]at hr;let e1:i-tv.length=0:=by
    have:=(zW0 hu).1
    rw[qL0]at this;omega
   let e2:i-ts.length=0:=#[0]
   rw[e1]at hu;rw[e2]at hr;cases hu;cases hr;exact a
instance spTsR:∀(a:Addr)(r0 r1:Str)(ts:List Tr),vs=[.ref a]->H a=some (.lst ((r0::r1::ts.map cX).map V.str))->ts.length<=4->(∀t∈ts,t.nm/\t.depth<=8/\t.size<=20)->(∀(b:Addr)(tv:List V)(H':Hp),H' b=some (.tup tv)->TsAt H' tv ts->Same H H'->Q (.ref b) H'):=1
def gA:FnScope ["rows","trees","number"] ["rows"] (ag gU):=%[|5]
def oK(F:#["trees_in_rows",gU])(B:Bl mg)(X:Tx K mg)(jr:#[24,"tree_in_row",["text","row"],spReadK]):#[25,f,fd,["rows"],spTsR]:=by
 exists gA
 erw[a,r0,r1,ts,1,ha,t4,tk,q]at h;erw[tf,gf]at X.first
 erw[tm,gm]at X.trees;erw[th,gh]at X.thead;refine⟨_,(aa #[ah,1,gA,dq bc]
  (aa (cQ zG1 rfl (oI rfl B.range %[bQ (v:=.int 2) rfl gf %[|0],aE aD rfl B.len zC1 %[0|bc]|bc]) (bt (i:=2) gA.nd rfl (.inl rfl)) (aa (aF (PW.pt (eF (af aN (aE aD rfl B.len zC1 %[1|bc]) (bQ (v:=.int 4) rfl gm ⟨_,rfl⟩) (ao _)) (dZ (eQ (dN (cA zH1 qS1 qT1 jh (aI ix_list (pv 0) (pv 2) #[1]) %[bQ (v:=.str "holds ") rfl gh %[|0]|bc])))))) aX ax)
   (ac (aQ (cA zF1 zL1 zM1 cx (pv 1) %[ai jr hr ⋯ rfl %[dL qz (aI ix_list (pv 0) (pv 2) #[1]) (dQ (aE cz rfl B.len zC1 %[bQ (v:=.str "holds ") rfl gh %[|0]|bc])) gG,2|bc]|bc])))))
  (ac (aj (aW bz rfl B.tuple cj %[1|bc]))))),?_⟩
 erw[y0S,λL hL=>?_];let GL:=zC0 hL (.lst []);let naL:a≠L:=bi ha hL;let rl:((r0::r1::ts.map cX).map V.str).length=ts.length+2:=by simp
 erw[0,a,0,.inl (zG0 (GL _ _ ha)),_,0,%[4,4,3|by rw[rl];omega],6];rw[rl,show(((ts.length+2:Nat):Int)-2).toNat=ts.length by omega];apply dG (λi σ H'=>∃(x2:Option V)(tv:List V),σ=[some (.ref a),some (.ref L),x2]/\H' L=some (.lst tv)/\TsAt H' tv (ts.take i)/\SameBut L H H') %[_,[],1,bh,%[1|λi v t hv=>by simp at hv]|zI0 GL] ?_ ?_
 . rintro i σ H1 hi ⟨x2,tv,rfl,hL1,TS1,B1⟩;let ht:ts[i]?=some ts[i]:=zO0 hi;let%[nm,td|tz]:=tk ts[i] (qO0 hi);let tvl:tv.length=i:=by rw[TS1.1,qE0];omega
   let ha1:=B1 _ _ naL ha;let hr':(r0::r1::ts.map cX)[i+2]?=some (cX ts[i]):=by
    show(ts.map cX)[i]?=_;rw[zZ0,ht];rfl
   let hat:atI ((r0::r1::ts.map cX).map V.str) (2+(i:Int))=some (.str (cX ts[i])):=by
    have:=yH hr'
    rwa [show((i+2:Nat):Int)=2+(i:Int) by omega]at this
   let tl:=vx nm tz;erw[0,L,0,.inl (zG0 hL1),1,0,6];apply ay (λz=>by have:=V.int.inj z;omega) ?_;erw[0,0,a,_,2,zG0 ha1,hat,1,2,0,6];rw[qv (z:=cX ts[i]) (u:="holds ") (r:=ts[i].str.cps.toList) (ci _ _)];apply cV ?_;erw[0,.inl %[1,_|zG0 hL1],0,0,a,_,2,zG0 ha1,hat,0,aV (by rw[wx];decide),0,0,aV #[0],6];let es:Txt.slice (cX ts[i]) (some ((("holds ":Str)).length:Int)) none=ts[i].str:=qx;rw[es];erw[0,ts[i],0,nm,td,tz,λv H2 T2 S2=>?_];let hL2:=S2 _ _ hL1;erw[L,2,hL2,aO #[0],6];let k1:cH H2 (upd H2 L (.lst (tv++[v]))):=jv hL2;erw[_,tv++[v],1,bh,6,λb o hb e=>?_]
   . rw[qJ0,ht];exact((TS1.mono (bp S2)).mono k1).snoc (T2.mono k1)
   . rw[aB hb];exact S2 _ _ (B1 b o hb e)
 . rintro σ H1 ⟨x2,tv,rfl,hL1,TS1,B1⟩;rw[qF0]at TS1;erw[0,L,0,.inl %[zG0 hL1|λt ht=>?_]];let G:=zC0 ht (.tup tv);exact q t tv _ bh (TS1.mono (bp G)) λb o e=>G _ _ (B1 b o (bi e hL) e)
def GameV(H:Hp)(v:V)(n:Int)(xs:List Str)(ts:List Tr):Prop:=∃(g a b:Addr)(tv:List V),v=.ref g/\H g=some (.tup [.ref a,.ref b,.int n])/\H a=some (.tup (xs.map V.str))/\H b=some (.tup tv)/\TsAt H tv ts
instance spReadG:∀(n:Int)(xs:List Str)(ts:List Tr),vs=[.str (iK n xs ts)]->Gmx n xs ts->(∀(v:V)(H':Hp),GameV H' v n xs ts->Same H H'->Q v H'):=1
def fK:FnScope ["text","rows","field","switches","trees"] WC (ag ku):=%[|5]
def uE(F:#["read_game",ku])(X:Tx K mg)(iO:#[2,"field_in_row",WC,spFieldR])(fZ:#[2,"switches_in_row",WC,spSwR])(hJ:#[1,"row_or_end",Wu,spRowE])(hU:#[25,"trees_in_rows",["rows"],spTsR]):#[26,f,fd,WC,spReadG]:=by
 exists fK
 erw[n,xs,ts,1,g,q]at h;erw[tf,gf]at X.first
 refine⟨_,(aa #[ah,1,fK,cA zH1 jO0 jO1 rD (pv 0) %[aq|bc]]
  (aa #[ah,2,fK,ai iO hr ⋯ rfl %[aI ix_list (pv 1) ad #[1]|bc]]
  (aa #[ah,3,fK,ai fZ hr ⋯ rfl %[ai hJ hr ⋯ rfl %[1,ad|bc]|bc]]
  (aa (aQ (ai hJ hr ⋯ rfl %[1,bQ (v:=.int 2) rfl gf %[|0]|bc]))
  (aa #[ah,4,fK,ai hU hr ⋯ rfl %[1|bc]]
  (ac (aj (aM %[3,4,2|bc])))))))),?_⟩
 let gl:=DC g;let rs:=xF g;let rsp:Txt.split (iK n xs ts) ("\n":Str)=eC n xs ts:=by rw[CN];exact rs
 let rlen:(eC n xs ts).length=ts.length+2:=by unfold eC;simp
 let t4:=g.t4;let t1:=g.t1;erw[0,1,iK n xs ts,0,1,⋯,3,by rw[rsp,rlen];omega,λW hW=>?_];rw[rsp];let GW:=zC0 hW (.lst ((eC n xs ts).map V.str));let hW1:upd H W (.lst ((eC n xs ts).map V.str)) W=some (.lst ((eC n xs ts).map V.str)):=bh;generalize upd H W (.lst ((eC n xs ts).map V.str))=H1 at GW hW1;let g0:(eC n xs ts)[0]?=some (fk n):=rfl;let g1:(eC n xs ts)[1]?=some (ki xs):=rfl;let g2:(eC n xs ts)[2]?=some (cX ts[0]):=by
  show(ts.map cX)[0]?=_;rw[zZ0,zO0 (show 0<ts.length by omega)];rfl
 erw[0,W,_,(0),0,1,zG0 hW1,yH g0,n,1,g.n0,g.n1,λH2 S2=>?_];erw[0,W,_,(1),0,S2 _ _ hW1,g1,xs,1,g.x6,g.xk,λa H3 ha3 S3=>?_];let S13:=S2.trans S3;erw[0,W,_,(2),0,S13 _ _ hW1,g2,6];erw[0,W,_,_,ts,1,S13 _ _ hW1,t4,g.tk,λb tv H4 hb4 TS4 S4=>?_];erw[0,0,0,y3S,λc hc=>?_];let G:=zC0 hc (.tup [.ref a,.ref b,.int n]);exact q _ _ %[c,a,b,tv,1,bh,G _ _ (S4 _ _ ha3),G _ _ hb4|TS4.mono (bp G)] (GW.trans (S13.trans (S4.trans G)))
def TsAt.get(h:TsAt H tv ts){i:Nat}{v:V}(hv:tv[i]?=some v):∃t,ts[i]?=some t/\TreeAt H v t:=by
 let hi:=(zW0 hv).1;let hi':i<ts.length:=by rw[←h.1];exact hi
 erw[ts[i],zO0 hi',h.2 i v _ hv (zO0 hi')]
instance spGText:∀(a b:Addr)(tv:List V)(n:Int)(xs:List Str)(ts:List Tr),vs=[.ref a,.ref b,.int n]->H a=some (.tup (xs.map V.str))->H b=some (.tup tv)->TsAt H tv ts->Gmx n xs ts->(∀H',Same H H'->Q (.str (iK n xs ts)) H'):=1
def ic:FnScope ["switches","trees","field","rows","tree","text"] Wy (ag kC):=%[|5]
def Fw(n:Int):(Str.empty++("field ":Str))++bJ n=fk n:=by
 apply eI ?_;unfold fk;rw[ci,ci,ci];rfl
def Hz(t:Tr):(Str.empty++("holds ":Str))++t.str=cX t:=by
 apply eI ?_;unfold cX;rw[ci,ci,ci];rfl
def j_sw(xs:List Str):Txt.join (" ":Str) (("switches":Str)::xs)=ki xs:=by rw[nQ,yO];rfl
def j_nl(rs:List Str):Txt.join ("\n":Str) rs=Str.join NL rs:=by rw[nQ,CN]
def uJ(F:#["game_text",kC])(B:Bl mg)(fq:#[11,"tree_text",WD,spTT 10]):#[12,f,fd,Wy,spGText]:=by
 exists ic
 erw[a,b,tv,n,xs,ts,1,ha,hb,TS,g,q]at h;refine⟨_,(aa #[ah,3,ic,dq %[nq (dy aq (dy (ER (pv 2)) re)),cA zH1 zQ1 zR1 eV aq %[am jg (dq %[aq|bc]) (aW jX rfl B.list jY %[0|bc])|bc]|bc]]
  (aa (cQ zG1 rfl (eR (pv 1)) (bt (i:=4) ic.nd rfl (.inl rfl)) (aa #[ah,5,ic,ai fq hr ⋯ rfl %[4|bc]]
   (ac (aQ (cA zF1 zL1 zM1 cx (pv 3) %[nq (dy aq (dy (oJ (pv 5)) re))|bc])))))
  (ac (aj (cA zH1 zQ1 zR1 eV aq %[3|bc]))))),?_⟩
 let z0:(Str.empty).length=0:=by decide
 let nl:=gH g.n0 g.n1;let lg:=lq g.n0 g.n1;let x6:=g.x6;let t4:=g.t4;let l1:((" ":Str)).length=1:=by decide
 let l2:(("\n":Str)).length=1:=by decide
 erw[0,aV (by rw[zB1,z0,wy];decide),0,n,1,lg,0,aV (by rw[zB1,zB1,z0,wy];show _+(bJ n).length<=1000;omega),aV (by rw[zB1,zB1,z0,wy];show _+(bJ n).length<=1000;omega),6];erw[1,y1S,λL0 hL0=>?_];let G0:=zC0 hL0 (.lst [.str "switches"]);let e0:upd H L0 (.lst [.str "switches"]) L0=some (.lst [.str "switches"]):=bh;erw[0,a,0,.inr (zB0 (G0 _ _ ha)),λL1 hL1=>?_];let G1:=zC0 hL1 (.lst (xs.map V.str));erw[L0,L1,2,G1 _ _ e0,bh,aV (by rw[zF0,qL0];omega),λL2 hL2=>?_];let G2:=zC0 hL2 (.lst ([.str "switches"]++xs.map V.str));let e2:upd (upd (upd H L0 (.lst [.str "switches"])) L1 (.lst (xs.map V.str))) L2 (.lst ([.str "switches"]++xs.map V.str)) L2=some (.lst (((("switches":Str)::xs)).map V.str)):=bh;let S2:=G0.trans (G1.trans G2);generalize upd (upd (upd H L0 (.lst [.str "switches"])) L1 (.lst (xs.map V.str))) L2 (.lst ([.str "switches"]++xs.map V.str))=H2 at S2 e2;erw[_,L2,0,1,zG0 e2,by rw[l1];decide,zN0 (Br x6 g.xk) ⋯,6];erw[y2S,λR hR=>?_];let ef:(Str.empty++("field ":Str))++(toString n:Str)=fk n:=Fw n;rw[ef,j_sw];let GR:=zC0 hR (.lst [.str (fk n),.str (ki xs)]);let S3:=S2.trans GR;let nbR:b≠R:=bi (S2 _ _ hb) hR;let hR0:H R=none:=S2.free hR;refine⟨_,rfl,b,rfl,%[_|zB0 (S3 _ _ hb)],nV (K:=K) (xs:=tv) (λi σ H'=>∃(x4 x5:Option V),σ=[some (.ref a),some (.ref b),some (.int n),some (.ref R),x4,x5]/\H' R=some (.lst ((fk n::ki xs::(ts.take i).map cX).map V.str))/\SameBut R H H')
  %[_,0,bh|zI0 S3] (λi σ H' _ Mx=>by erw[_,_,_,_,h]at Mx;exact zB0 (h _ _ nbR hb)) ?_ ?_⟩
 . rintro i v σ H4 hv ⟨x4,x5,rfl,hR4,B4⟩;let%[t,ht|T]:=TS.get hv;let%[nm,td|tz]:=g.tk t (qI0 ht);let hi:=(zW0 hv).1;let kT:cH H H4:=λc ys e=>B4 _ _ (bi e hR0) e
   erw[0,v,t,1,T.mono kT,nm,3,3,λH5 S5=>?_];let hR5:=S5 _ _ hR4;let sl:=Tr.str_len nm;erw[0,.inl %[1,_|zG0 hR5],0,aV (by rw[zB1,z0,wx];decide),0,0,aV #[0],0,aV (by rw[zB1,zB1,z0,wx];omega),aV (by rw[zB1,zB1,z0,wx];omega),6];erw[R,2,hR5,6,6]
   . rw[zF0,zM0,zM0,zF0,qE0];exact aO #[0]
   rw[Hz];erw[_,0,6,λc o hc e=>?_]
   . rw [bh,qJ0,ht]
     simp
   . rw[aB hc];exact S5 _ _ (B4 c o hc e)
 . rintro σ H4 ⟨x4,x5,rfl,hR4,B4⟩;rw[TS.1,qF0]at hR4;erw[1,0,_,R,0,1,zG0 hR4,by rw[l2];decide,zN0 (vH g) ⋯,6];rw[j_nl];exact q H4 λc o e=>B4 c o (bi e hR0) e
def wtx:V->Str
 |.int i=>bJ i
 |.str x=>x
 |_=>SP
def HU(v:V):Prop:=((∃i:Int,v=.int i/\i.natAbs.log2<1920)∨∃x:Str,v=.str x)/\(wtx v).length<=100
instance spWords:∀(l:Addr)(ws:List V),vs=[.ref l]->H l=some (.lst ws)->ws.length<=10->(∀v∈ws,HU v)->(∀H',Same H H'->Q (.str (Str.join SP (ws.map wtx))) H'):=1
def sv:FnScope ["words"] ["words"] (ag jG):=%[|5]
def sB(F:#["words_text",jG])(B:Bl mg):#[1,f,fd,["words"],spWords]:=by
 exists sv
 erw[l,ws,1,hl,wl,wok,q]at h;refine⟨_,(ac (aj (cA zH1 zQ1 zR1 eV aq (ae (cJ (N:=[]) (ix:=[]) (cl:=[]) rfl
  #[5] rfl (ia (pv 0)) (λ_ _ _=>du (aW AW rfl B.str gt %[0|bc]))) bc)))),?_⟩
 erw[1,0,l,1,%[_|zG0 hl],λD hD=>?_];apply jz (K:=K) (xs:=ws) (λi H'=>H' D=some (.lst (((ws.take i).map wtx).map V.str))/\Same H H') %[by rw[bh];rfl|zC0 hD _] (λi H' _ h=>zG0 (h.2 _ _ hl)) ?_ ?_
 . rintro i z H3 hz ⟨hD3,S3⟩;let hi:=(zW0 hz).1;let fin:∃ys,H3 D=some (.lst ys)/\ys.length<sizeLine/\Nx ws.length i (λj H'=>H' D=some (.lst (((ws.take j).map wtx).map V.str))/\Same H H') (upd H3 D (.lst (ys++[V.str (wtx z)]))):=by
    erw[_,hD3,6,Nx.of hi %[6|λb o e=>?_]]
    . rw[zF0,zF0,qE0];exact aO #[0]
    . rw[bh,qJ0,hz,zL0,zL0];rfl
    . rw[aB (bi e hD)];exact S3 _ _ e
   erw[0,6];rcases(wok z (qI0 hz)).1 with⟨n,rfl,hn⟩ | ⟨x,rfl⟩
   . exact .inl %[n,1,hn|fin]
   . exact .inr %[x,1|fin]
 rintro H3 ⟨hD3,S3⟩;rw[qF0]at hD3;erw[_,D,ws.map wtx,1,1,zG0 hD3,⋯,6,6]
 . have:=lS (l:=ws.map wtx) (b:=100) λp hp=>by
    let%[v,hv|1]:=List.mem_map.mp hp;exact(wok v hv).2
   rw[zF0]at this ⊢;omega
 . rw[yO,nQ];exact q _ S3
def TsAt.trees:∀{tv:List V}{ts:List Tr},TsAt H tv ts->TreesAt H tv ts
 | [],[],_=>.nil
 | [],_::_,h=>absurd h.1 #[2]
 |_::_,[],h=>absurd h.1 #[2]
 |v::vs,t::ts,h=>.cons (h.2 0 v t rfl rfl) (TsAt.trees %[by simpa using h.1|λi v' t' hv ht=>h.2 (i+1) v' t' hv ht])
def TreesAt.ts{ts:List Tr}(h:TreesAt H tv ts):TsAt H tv ts:=⟨h.length,λi v t hv ht=>by
 let%[u,hu|T]:=h.get hv;rw[ht]at hu;cases hu;exact T⟩
section
variable {C CM CA CG:Addr}
def DD{H:Hp}{a b g dx:Addr}{ns:List Str}{tv:List V}{Q:VK}(ha:H a=some (.tup (ns.map V.str)))(hb:H b=some (.tup tv))(TS:TreesAt H tv ts)(k:GmK ns ts p)(nd:ns.Nodup)(nx:H g=none)(ndx:H dx=none)(q:∀H',Same H H'->Gm CG H' g ns ts p->Q .non H'):
 spGInit CG [.ref g,.ref a,.ref b,.int p] (upd (upd H dx (.own g)) g (.ins CG dx [])) Q E:=by
 let s3:Same H (upd (upd H dx (.own g)) g (.ins CG dx [])):=λb o e=>by
  rw[aB (bi e nx),aB (bi e ndx)];exact e
 erw[g,dx,a,b,ns,tv,ts,p,1,bh,s3 _ _ ha,nd,k.n10,s3 _ _ hb,TS.mono (bp s3),k.t1,k.t10,k.tok,k.pr,k.p2,k.p9,k.tp,k.tc,λd H3 d0 GA hd S3=>?_];let S23:Same H H3:=λb o e=>S3 b o (bi e nx) (s3 b o e)
 exact q H3 S23 %[a,b,d,tv,GA,S23 _ _ ha,S23 _ _ hb,TS.mono (bp S23)|hd]
structure Gk(ns:List Str)(ts:List Tr)(p:Int):Prop where
 n6:ns.length<=6
 nk:∀x∈ns,NmK x
 nd:ns.Nodup
 k:GmK ns ts p
 t4:ts.length<=4
 tz:∀t∈ts,t.depth<=8/\t.size<=20
def Gk.gm(g:Gk ns ts p):Gmx p ns ts:=
 %[by have:=g.k.p2;omega,by have:=g.k.p9;omega,g.n6,g.nk,g.k.t1,g.t4|λt ht=>%[Tr.ok_nm g.nk t (g.k.tok t ht).1,(g.tz t ht).1|(g.tz t ht).2]]
instance spGameIn(CG:Addr):∀(ns:List Str)(ts:List Tr)(p:Int),vs=[.str (iK p ns ts)]->Gk ns ts p->(∀(g:Addr)(H':Hp),Gm CG H' g ns ts p->Same H H'->Q (.ref g) H'):=1
def E4:FnScope ["text","parts"] WC (ag oA):=%[|5]
def xT(F:#["game_in",oA])(T:GTxt K mg CG)(M:Mk K CG fI)(GI:#[14,fI,fdI,WM,spGInit CG])(bI:Binds K fdI WM [])
 (mK:#[26,"read_game",WC,spReadG]):#[27,f,fd,WC,spGameIn CG]:=by
 exists E4
 erw[ns,ts,p,1,gk,q]at h;let hr15:Room 15 _:=hr.mono ⋯;refine⟨_,(aa #[ah,1,E4,ai mK hr ⋯ rfl %[0|bc]]
  (ac (aj (ib M GI hr15 rfl T.mgC bI .nil aY %[aI aJ (pv 1) ad #[1],aI aJ (pv 1) ad #[1],aI aJ (pv 1) ad #[1]|bc])))),?_⟩
 erw[0,p,ns,ts,1,gk.gm,λv H1 GV S1=>?_];erw[g0,a,b,tv,1,hg,ha,hb,TS0]at GV;let TS:=TS0.trees;erw[0,g0,_,(0),0,1,zB0 hg,at0 ..,0,g0,_,(1),0,1,zB0 hg,at1 ..,0,g0,_,(2),0,1,zB0 hg,at2 ..,λg dx nx ndx nex=>?_];exact DD ha hb TS gk.k gk.nd nx ndx λH3 S3 G3=>%[1|q g H3 G3 (S1.trans S3)]
instance spHelpIn:∀(rs:List Hr),vs=[.str (lH rs)]->HOk rs->(∀(a:Addr)(tv:List V)(H':Hp),H' a=some (.tup tv)->RowsAt H' tv rs->Same H H'->Q (.ref a) H'):=1
def t9:FnScope ["text","helper"] WC (ag kA):=%[|5]
def uI(F:#["helper_in",kA])(jt:#[21,"read_helper",WC,spReadH])(jA:#[1,"look_helper",WT,spLook]):#[22,f,fd,WC,spHelpIn]:=by
 exists t9
 erw[rs,1,g,q]at h;refine⟨_,(aa #[ah,1,t9,ai jt hr ⋯ rfl %[0|bc]]
  (aa (aQ (ai jA hr ⋯ rfl %[1|bc]))
  (ac (aj (pv 1))))),?_⟩
 erw[0,rs,1,g.1,λa tv H1 ha R S1=>?_];erw[0,a,tv,rs,1,ha,R,g.2.2,λH2 S2=>?_];erw[0,q a tv H2 (S2 _ _ ha) (R.mono (bp S2)) (S1.trans S2)]
end
section
variable {C CM CA CG:Addr}
def sM(k:GmK ns ts p)(n6:ns.length<=6):0<=(fo ns ts p rows (bq ns ts) 8 (Tk.new ts) []).1/\(fo ns ts p rows (bq ns ts) 8 (Tk.new ts) []).1<=p ^ bq ns ts/\∀cs,(fo ns ts p rows (bq ns ts) 8 (Tk.new ts) []).2=some cs->cs.length=bq ns ts/\cR cs p:=by
 rw[zu k n6];let p2:=k.p2;obtain⟨q,rfl⟩:∃q:Nat,p=(q:Int):=%[p.toNat|3]
 erw[jM1 _,6,λcs h=>?_]
 . let h1:=List.length_filter_le (λc=>decide ((Bn ns ts (q:Int) rows c).2.z.aw.1="believed")) (jk (q:Int).toNat (bq ns ts));rw[wT,qP0]at h1;show(((List.filter _ (jk (q:Int).toNat (bq ns ts))).length:Nat):Int)<=_;rw[←Int.natCast_pow];exact Int.ofNat_le.mpr (by rw[qP0];exact h1)
 . let h:(((jk (q:Int).toNat (bq ns ts)).filter λc=>!decide ((Bn ns ts (q:Int) rows c).2.z.aw.1="believed")).head?).map ([]++·)=some cs:=h;let%[c,hc|1]:=qQ0 h;let hm:=(List.mem_filter.mp (List.mem_of_head? hc)).1
   have:=oi _ c hm
   rw[qP0]at this;exact this
def wdsR:Option (List Int)->List V
 |none=>[]
 |some cs=>.str "caught by"::cs.map V.int
def wdsV(x:Int×Option (List Int))(m:Int):List V:=[.str "let by",.int x.1,.str "of",.int m]++wdsR x.2
def tN(x:Int×Option (List Int))(m:Int):Str:=Str.join SP ((wdsV x m).map wtx)
def uP{n:Int}(h0:0<=n)(h1:n<10 ^ 24):HU (.int n):=by
 erw[.inl %[n,1|6],zN0 (jA1 h0 ⋯ h1:(bJ n).length<=24) ⋯];let h2:n.natAbs<2 ^ 100:=#[0]
 by_cases c:n.natAbs=0
 . rw[c];decide
 . have:=(Nat.log2_lt c).mpr h2
   omega
instance spWeighOf:∀(ns:List Str)(ts:List Tr)(p:Int)(rs:List Hr),vs=[.str (iK p ns ts),.str (lH rs)]->Gk ns ts p->ns.length<=4->HOk rs->p ^ bq ns ts<=4000->(∀H',Same H H'->Q (.str (tN (fo ns ts p rs (bq ns ts) 8 (Tk.new ts) []) (p ^ bq ns ts))) H'):=1
def f7:FnScope ["game","helper","asked","told","words"] WS (ag lU):=%[|5]
def vS(F:#["weigh_of",lU])(B:Bl mg)(u6:#[27,"game_in",WC,spGameIn CG])(mL:#[22,"helper_in",WC,spHelpIn])(gR:#[36,"weighed",WS,spWeighed C CM CG])(c8:#[2,"rows_of_coins",WH,spRowsC CG])(kc:#[1,"words_text",["words"],spWords]):#[37,f,fd,WS,spWeighOf]:=by
 exists f7
 erw[ns,ts,p,rs,1,gk,n4,ho,pw,q]at h;refine⟨_,(aa #[ah,2,f7,ai u6 hr ⋯ rfl %[0|bc]]
  (aa #[ah,3,f7,ai gR hr ⋯ rfl %[2,ai mL hr ⋯ rfl %[1|bc]|bc]]
  (aa #[ah,4,f7,dq %[aq,aI aJ (pv 3) ad #[1],aq,ai c8 hr ⋯ rfl %[2|bc]|bc]]
  (aa (aF (af yY (aI aJ (pv 3) ad #[1]) mo (ao _)) (ac #[ah,4,f7,am jg (am jg (pv 4) (dq %[aq|bc])) (aW jX rfl B.list jY %[aI aJ (pv 3) ad #[1]|bc])]) ax)
  (ac (aj (ai kc hr ⋯ rfl %[4|bc]))))))),?_⟩
 let k:=gk.k;let p2:=k.p2;let p9:=k.p9;let n6:=gk.n6;let WR:=sM (rows:=rs) k n6;erw[0,ns,ts,p,1,gk,λg H1 G1 S1=>?_];erw[0,0,rs,1,ho,λa tv H2 ha R S2=>?_];let G2:=G1.same S2;erw[g,a,tv,rs,ns,ts,p,1,G2,k,n6,ha,R,ho.2.1,pw,λc H3 S3 W=>?_];let G3:=G2.same S3;let S03:=S1.trans (S2.trans S3);let c7:bq ns ts<=5:=by unfold bq;split <;> omega
 generalize fo ns ts p rs (bq ns ts) 8 (Tk.new ts) []=x at WR W q;erw[n,r]at x;erw[v,hc,ov]at W;let m0:0<=p ^ bq ns ts:=Int.pow_nonneg #[0];erw[0,c,_,(0),0,1,zB0 hc,at0 ..,0,g,ns,ts,p,1,G3,n6,3,3,y4S,λL hL=>?_];let I4:=zC0 hL (.lst [.str "let by",.int n,.str "of",.int (p ^ bq ns ts)]);let e4:upd H3 L (.lst [.str "let by",.int n,.str "of",.int (p ^ bq ns ts)]) L=some (.lst [.str "let by",.int n,.str "of",.int (p ^ bq ns ts)]):=bh;generalize upd H3 L (.lst [.str "let by",.int n,.str "of",.int (p ^ bq ns ts)])=H4 at I4 e4;let S04:=S03.trans I4;let w4:∀v∈[V.str "let by",.int n,.str "of",.int (p ^ bq ns ts)],HU v:=by
  intro v hv;simp only[List.mem_cons,List.not_mem_nil,or_false]at hv;rcases hv with rfl | rfl | rfl | rfl
  . erw[.inr %[|0],4]
  . exact uP WR.1 (by have:=WR.2.1;omega)
  . erw[.inr %[|0],4]
  . exact uP m0 #[0]
 erw[0,c,_,(1),0,1,zB0 (I4 _ _ hc),at1 ..,1,0,6];cases r with
 |none=>
   let ov:v=.non:=ov;subst ov;apply cV ?_;erw[0,L,0,e4,(by show 4<=10;decide),w4,λH' S'=>?_];exact q H' (S04.trans S')
 |some cs=>
   erw[b,1,hb]at ov;let%[cl|co]:=WR.2.2 cs rfl;apply ee ?_;erw[0,y1S,λL1 hL1=>?_];let I5:=zC0 hL1 (.lst [.str "caught by"]);let e5:upd H4 L1 (.lst [.str "caught by"]) L1=some (.lst [.str "caught by"]):=bh;let e4':=I5 _ _ e4;generalize upd H4 L1 (.lst [.str "caught by"])=H5 at I5 e5 e4';erw[L,L1,2,e4',e5,y5S,λL2 hL2=>?_];let I6:=zC0 hL2 (.lst ([.str "let by",.int n,.str "of",.int (p ^ bq ns ts)]++[.str "caught by"]));let e6:upd H5 L2 (.lst ([.str "let by",.int n,.str "of",.int (p ^ bq ns ts)]++[.str "caught by"])) L2=some (.lst ([.str "let by",.int n,.str "of",.int (p ^ bq ns ts)]++[.str "caught by"])):=bh;generalize upd H5 L2 (.lst ([.str "let by",.int n,.str "of",.int (p ^ bq ns ts)]++[.str "caught by"]))=H6 at I6 e6;let S46:=I5.trans I6;erw[0,c,_,(1),0,1,zB0 (S46 _ _ (I4 _ _ hc)),at1 ..,b,0,.inr (zB0 (S46 _ _ (I4 _ _ hb))),λL3 hL3=>?_];let I7:=zC0 hL3 (.lst (cs.map V.int));erw[L2,L3,2,I7 _ _ e6,bh,aV (by rw[zF0];show 5+cs.length<=1000;omega),λL4 hL4=>?_];let I8:=zC0 hL4 (.lst (([.str "let by",.int n,.str "of",.int (p ^ bq ns ts)]++[.str "caught by"])++cs.map V.int));erw[0,L4,0,bh,by rw[zK0,zF0];show 5+cs.length<=10;omega,6,λH' S'=>?_]
   . intro v hv;rcases qG0 hv with h | h
     . rcases qG0 h with h | h
       . exact w4 v h
       . rw[zR0 h];erw[.inr %[|0],4]
     . let%[z,hz|1]:=List.mem_map.mp h;exact uP (co z hz).1 (by have:=(co z hz).2;omega)
   . let e:([V.str "let by",.int n,.str "of",.int (p ^ bq ns ts)]++[.str "caught by"])++cs.map V.int=wdsV (n,some cs) (p ^ bq ns ts):=rfl;rw[e];exact q H' (S04.trans (S46.trans (I7.trans (I8.trans S'))))
end
instance spLRows:∀(g a b:Addr)(ns:List Str)(tv:List V)(ts:List Tr)(p:Int),vs=[.ref g]->H g=some (.tup [.ref a,.ref b,.int p])->H a=some (.tup (ns.map V.str))->H b=some (.tup tv)->tv.length=ts.length->1<=ts.length->ns.length<=6->0<p->p<2 ^ 40->Q (.int (p ^ bq ns ts)) H:=1
def kQ:FnScope ["_law_game","_law_many","_law_k"] ["_law_game"] (ag qJ):=%[|5]
def Aa(F:#["_law_rows",qJ])(B:Bl mg):#[1,f,fd,["_law_game"],spLRows]:=by
 exists kQ
 erw[g,a,b,ns,tv,ts,p,1,hg,ha,hb,tl,t1,n6,p0,p1,q]at h;refine⟨_,(aa #[ah,1,kQ,ad]
  (aa (cQ zG1 rfl (cI rfl B.range %[am aR (aE aD rfl B.len zC1 %[aI aJ (pv 0) ad #[1]|bc]) (aW tF rfl B.int io %[iT fO (aE aD rfl B.len zC1 %[aI aJ (pv 0) ad #[1]|bc]) ad (ao _)|bc])|bc]) (bt (i:=2) kQ.nd rfl (.inl rfl)) (ac #[ah,1,kQ,am cG (pv 1) (aI aJ (pv 0) ad #[1])]))
  (ac (aj (pv 1))))),?_⟩
 let c7:=kP (ts:=ts) n6;let ec:((ns.map V.str).length:Int)+(if((tv.length:Int)>1)then 1 else 0)=(bq ns ts:Int):=by
  rw[zF0,tl];unfold bq
  split <;> split <;> omega
 erw[0,g,_,(0),0,1,zB0 hg,at0 ..,a,0,.inr (zB0 ha),0,g,_,(1),0,1,zB0 hg,at1 ..,b,0,.inr (zB0 hb),2,.inr %[0|6]];erw[2,(bq ns ts:Int),6,3,3,dG (n:=bq ns ts) (λi σ H'=>∃x2:Option V,σ=[some (.ref g),some (.int (p ^ i)),x2]/\H'=H) %[none,by rw[wQ1];rfl|1] ?_ ?_]
 . rw [←ec]
   by_cases c1:(tv.length:Int)>1
   . rw[Mt c1,show decide ((tv.length:Int)>1)=true from zD1 c1];rfl
   . rw[Mq c1,show decide ((tv.length:Int)>1)=false from zE1 c1];rfl
 . rintro i σ H1 hi ⟨x2,rfl,rfl⟩;erw[0,0,g,_,(2),0,1,zB0 hg,at2 ..,2,.inr %[3|3],6];erw[some (.int (0+(i:Int))),6,1];rw[qX1];rfl
 . rintro σ H1 ⟨x2,rfl,rfl⟩;erw[0,q]
def Tr.depth_size:∀t:Tr,t.depth<=t.size
 |.is _=>zH0 1
 |.yes=>zH0 1
 |.no=>zH0 1
 |.not a=>by
   have:=Tr.depth_size a
   show a.depth+1<=a.size+1;omega
 |.bin _ a b=>by
   have:=Tr.depth_size a
   have:=Tr.depth_size b
   show max a.depth b.depth+1<=a.size+b.size+1;omega
def pr_19:Pr 19:=yV ⋯
structure SmP(ns:List Str)(ts:List Tr):Prop where
 nk:∀x∈ns,NmK x
 nd:ns.Nodup
 n3:ns.length<=3
 t1:1<=ts.length
 t2:ts.length<=2
 tok:∀t∈ts,t.ok ns/\t.depth<=9/\(t.size:Int)<=8
def SmP.gk{m:Int}(s:SmP ns ts)(pp:Pr p)(p2:2<p)(p9:p<=999983)(mp:m<p)(tp:(ts.length:Int)<=m+1)(tc:∀t∈ts,∀x∈ns,(t.names.count x:Int)<=m):Gk ns ts p:=by
 let n3:=s.n3;let t2:=s.t2;let wf:∀t∈ts,t.wf:=λt ht=>Tr.ok_wf (λx hx=>(s.nk x hx).1) t (s.tok t ht).1
 erw[3,s.nk,s.nd,%[pp,p2,p9,3,s.t1,3,λt ht=>%[(s.tok t ht).1,wf t ht,by have:=(s.tok t ht).2.1;omega|by have:=(s.tok t ht).2.2;omega],3|λt ht x hx=>by have:=tc t ht x hx;omega],3,λt ht=>?_];let h1:=(s.tok t ht).2.2;let h2:=Tr.depth_size t;erw[3,3]
instance tF76(Dn:Ends)(σ:St)(H:Hp):∀(x0 x1 x2 x4 x5 x6:Option V)(nl b:Addr)(n m:Int)(ns:List Str)(tv:List V)(ts:List Tr),σ=[x0,x1,x2,some (.ref nl),x4,x5,x6,some (.ref b),some (.int n)]->H nl=some (.lst (ns.map V.str))->H b=some (.tup tv)->TreesAt H tv ts->SmP ns ts->2<=m->m<n->n<=999983->(ns=[]->n<=19)->(ts.length:Int)<=m+1->(∀t∈ts,∀x∈ns,(t.names.count x:Int)<=m)->(∀(nl' fd' a:Addr)(p:Int)(H':Hp),Same H H'->H' fd'=some (.tup [.ref a,.ref b,.int p])->H' a=some (.tup (ns.map V.str))->Gk ns ts p->(ns=[]->p<=19)->H' nl'=some (.lst (ns.dropLast.map V.str))->Dn.nx [x0,x1,x2,some (.ref nl'),x4,some (.ref fd'),x6,some (.ref b),some (.int p)] H'):=0
instance tB76(K:W.Frag)(Dn:Ends)(σ:St)(H:Hp):∀(x5 x6 x7 x8:Option V)(a0 fh nl:Addr)(sn:List Int)(k many:Int)(ns:List Str),σ=[some (.ref a0),some (.int k),some (.ref fh),some (.ref nl),some (.int many),x5,x6,x7,x8]->SqL K H a0 (sn.map V.int)->sn.length<=63->0<=k->k<900000->H nl=some (.lst (ns.map V.str))->(∀x∈ns,NmK x)->ns.Nodup->ns.length<=3->1<=many->many<=2->(∀(x6 x7 x8:Option V)(nl' fd' a b:Addr)(tv:List V)(ts:List Tr)(p:Int)(H':Hp),Same H H'->H' fd'=some (.tup [.ref a,.ref b,.int p])->H' a=some (.tup (ns.map V.str))->H' b=some (.tup tv)->TreesAt H' tv ts->Gk ns ts p->(ns=[]->p<=19)->H' nl'=some (.lst (ns.dropLast.map V.str))->Dn.nx [some (.ref a0),some (.int k),some (.ref fh),some (.ref nl'),some (.int many),some (.ref fd'),x6,x7,x8] H'):=0
instance spSmall(K:W.Frag):∀(a0:Addr)(sn:List Int)(k:Int),vs=[.ref a0,.int k]->SqL K H a0 (sn.map V.int)->sn.length<=63->0<=k->k<900000->(∀(g a b:Addr)(ns:List Str)(tv:List V)(ts:List Tr)(p:Int)(H':Hp),H' g=some (.tup [.ref a,.ref b,.int p])->H' a=some (.tup (ns.map V.str))->H' b=some (.tup tv)->TreesAt H' tv ts->Gk ns ts p->ns.length<=3->p ^ bq ns ts<=30->Same H H'->Q (.ref g) H'):=1
def DU(xs:List V):iM xs none (some (-1))=xs.dropLast:=by
 cases xs with
 |nil=>rfl
 |cons x r=>
   simp only[iM,HT.sIx,zM0];let e2:(-1+(((r.length+1:Nat)):Int)).toNat=r.length:=#[0]
   simp [e2,List.dropLast_eq_take]
   omega
def a9:FnScope ["_law_script","_law_k","_law_head","_law_names_here","_law_many","_law_found","_law_feed_here","_law_trees","_law_field"] WL (ag iA):=%[|5]
def sm_pw{ns:List Str}{p:Int}(p2:2<p)(e:ns=[]->p<=19)(h:ns=[]):p ^ bq ns ts<=30:=by
 let p19:=e h
 have:bq ns ts=0∨bq ns ts=1:=by
  unfold bq;rw[h]
  split
  . exact .inl rfl
  . exact .inr rfl
 rcases this with e | e <;> rw[e]
 . show p ^ 0<=30;rw[wQ1];decide
 . rw[qX1,wQ1];omega
inductive W76(K:W.Frag)(H0:Hp)(a0 fh:Addr)(sn:List Int)(k many:Int)(m:Nat)(σ:St)(H:Hp):Prop where
 |fst:∀(nl fd e:Addr)(ns:List Str),σ=[some (.ref a0),some (.int k),some (.ref fh),some (.ref nl),some (.int many),some (.ref fd),none,none,none]->m=5->Same H0 H->H nl=some (.lst (ns.map V.str))->(∀x∈ns,NmK x)->ns.Nodup->ns.length<=3->H fd=some (.tup [.ref nl,.ref e,.int 0])->W76 K H0 a0 fh sn k many m σ H
 |nxt:∀(x6 x7 x8:Option V)(nl fd a b:Addr)(ns:List Str)(tv:List V)(ts:List Tr)(p:Int),σ=[some (.ref a0),some (.int k),some (.ref fh),some (.ref nl),some (.int many),some (.ref fd),x6,x7,x8]->m=ns.length->Same H0 H->H fd=some (.tup [.ref a,.ref b,.int p])->H a=some (.tup (ns.map V.str))->H b=some (.tup tv)->TreesAt H tv ts->Gk ns ts p->(ns=[]->p<=19)->ns.length<=3->H nl=some (.lst (ns.dropLast.map V.str))->W76 K H0 a0 fh sn k many m σ H
def pQ(F:#["_law_small_game",iA])(B:Bl mg)(fc:#[1,"_law_feed",WL,spFeed K])(a7:#[1,"_law_take",WF,spTake])(gY:#[2,"_law_names",WF,spNamesN])
 (f9:#[12,"_law_tree",WV,spTree 10])(Ef:#[13,"_law_need",Wv,spNeed])(kj:#[1,"_law_is_prime",["_law_number"],spPrimeB])(iX:#[1,"_law_rows",["_law_game"],spLRows]):#[14,f,fd,WL,spSmall K]:=by
 exists a9
 erw[a0,sn,k,1,hS,h63,k0,k9,q]at h;refine⟨_,(aa #[ah,2,a9,ai fc hr ⋯ rfl %[0,1|bc]]
  (aa (ah (i:=3) a9.nd rfl (Or.inr rfl) (ai gY hr ⋯ rfl %[ai fc hr ⋯ rfl %[0,am aR (pv 1) ad|bc],ai a7 hr ⋯ rfl %[2,ad|bc]|bc]))
  (aa #[ah,4,a9,am aR ad (am uD (ai a7 hr ⋯ rfl %[2,ad|bc]) ad)]
  (aa #[ah,5,a9,aM %[3,aM bc,ad|bc]]
  (aa (iF zG1 (PW.pt (eF (af aN (aI aJ (pv 5) ad #[1]) ad (ao _)) (dZ (af fO (ai iX hr ⋯ rfl %[5|bc]) ad (ao _)))))
   (gC (t':=tB76 K) (aa (ah (i:=6) a9.nd rfl (Or.inr rfl) (ai fc hr ⋯ rfl %[0,am aR (pv 1) ad|bc]))
    (aa (ah (i:=7) a9.nd rfl (.inl rfl) (aW bz rfl B.tuple cj (ae (cJ (N:=["_law_names_here","_law_feed_here"]) (ix:=[3,6]) rfl
     #[4] rfl
     (cI rfl B.range %[4|bc])
     (λ_ _ _=>du (ai f9 hr ⋯ rfl %[2,1,am aR ad (ai a7 hr ⋯ rfl %[2,ad|bc]),ad|bc]))) bc)))
    (aa #[ah,8,a9,am aR (ai Ef hr ⋯ rfl %[3,7|bc]) ad]
    (aa (aF (af aN (am aR (aE aD rfl B.len zC1 %[3|bc]) (aW tF rfl B.int io %[iT fO (pv 4) ad (ao _)|bc])) ad (ao _)) (ac #[ah,8,a9,am aR (pv 8) (ai a7 hr ⋯ rfl %[6,ad|bc])]) ax)
    (gC (t':=tF76) (aa (iF zG1 (eQ (dN (ai kj hr ⋯ rfl %[8|bc]))) (ac #[ah,8,a9,am aR (pv 8) ad]))
    (aa #[ah,5,a9,aM %[aW bz rfl B.tuple cj %[3|bc],7,8|bc]]
    (ac (ah (i:=3) a9.nd rfl (Or.inr rfl) (dL yQ (pv 3) gG (dQ (vO qk ad))))))) ?cF))))) ?cB))
  (ac (aj (pv 5)))))))),?_⟩
 case cF=>
  rintro Dn σ H ⟨x0,x1,x2,x4,x5,x6,nl,b,n,m,ns,tv,ts,rfl,hnl,hb,TS,SP,m2,mn,n9,n19,tm,tc,q⟩;erw[λmm σ H'=>∃n:Int,σ=[x0,x1,x2,some (.ref nl),x4,x5,x6,some (.ref b),some (.int n)]/\H'=H/\m<n/\n<=999983/\(ns=[]->n<=19)/\mm=(999983-n).toNat,%[_,n,1,1,mn,n9,n19|1],6];rintro mm σ H' ⟨n,rfl,rfl,n0,n1,n5,rfl⟩;erw[0,n,1,λbb hbb=>%[bb,1|6]];cases bb with
  |true=>
    apply cV ?_;let gk:=SP.gk (hbb.mp rfl) #[0] n1 n0 tm tc;erw[0,nl,0,.inl %[zG0 hnl|λa ha=>?_]];let Ia:=zC0 ha (.tup (ns.map V.str));erw[0,0,y3S,λg hg=>?_];let Ig:=zC0 hg (.tup [.ref a,.ref b,.int n]);let Iag:=Ia.trans Ig;erw[0,(1),1,(-1),1,nl,0,zG0 (Iag _ _ hnl),λnb hnb=>?_];rw[DU,←List.map_dropLast];let Ib:=zC0 hnb (.lst (ns.dropLast.map V.str));exact q nb g a n _ (Iag.trans Ib) (Ib _ _ bh) (Ib _ _ (Ig _ _ bh)) gk n5 bh
  |false=>
    apply ee ?_;erw[_,λ_ _ h=>h,6];let ne:n≠999983:=λz=>by
     subst z;exact nomatch hbb.mpr zU
    let ne19:n≠19:=λz=>by
     subst z;exact nomatch hbb.mpr pr_19
    erw[0,2,6];erw[_,3,n+1,1,1,3,3,λe=>by have:=n5 e;omega,1]
 case cB=>
  rintro Dn σ H ⟨x5,x6,x7,x8,a0,fh,nl,sn,k,many,ns,rfl,hS,h63,k0,k9,hnl,nk,nd,n3,y1,y2,q⟩;erw[0,0,2,a0,sn,k+2,1,hS,h63,3,3,λf H1 f0 S1 F1=>?_];let hnl1:=S1 _ _ hnl;let nlf:nl≠f:=bi hnl f0;erw[0,many,1,3,3,λD hD=>?_];let Df:=F1.ne hD;let GD:=zC0 hD (.lst []);apply gn (λi H'=>∃(tv:List V)(ts:List Tr),H' D=some (.lst tv)/\TreesAt H' tv ts/\ts.length=i/\(∀t∈ts,t.ok ns/\t.depth<=9/\(t.size:Int)<=8)/\FeedAt H' f/\SameBut f H1 H') %[[],[],bh,.nil,1,(λt ht=>by cases ht),F1.same GD|zI0 GD] ?_ ?_
  . rintro i H4 hi ⟨tv,ts,hD4,TS,tl,tok,F4,S4⟩;let hi':i<many.toNat:=hi;let hnl4:=S4 nl _ nlf hnl1;erw[0,0,0,f,(8),1,F4,4,4,λe H5 e0 e1 F5 S5=>?_];let hnl5:=S5 nl _ nlf hnl4;erw[2,f,nl,_,_,ns,1,F5,.inl hnl5,3,3,3,4,4,λv t H6 F6 S6 T6 ok6 sz6 dp6=>?_];let S46:=S5.trans S6;let hD6:=S46 D _ Df hD4;let k46:=aZ F4 S46;let vl:=TS.length;erw[_,hD6,aO #[0],Nx.of hi ⟨tv++[v],ts++[t],bh,?_,?_,?_,nZ F6 Df,?_⟩]
    . let k:=jv (H:=H6) (b:=D) (ys:=tv) (zs:=tv++[v]) hD6;exact((TS.mono k46).mono k).append (.cons (T6.mono k) .nil)
    . rw[zK0,qL0,tl]
    . intro u hu;rcases qG0 hu with h | h
      . exact tok u h
      . rw[zR0 h];let d9:(t.depth:Int)<=9:=dp6;let s9:(t.size:Int)<=1+e:=sz6;erw[ok6,3,3]
    . intro b o hb eb;rw[aB (bi eb hD)];exact S46 b o hb (S4 b o hb eb)
  rintro H4 ⟨tv,ts,hD4,TS,tl,tok,F4,S4⟩;let hnl4:=S4 nl _ nlf hnl1;let tl':ts.length=many.toNat:=tl;let T4:Same H H4:=Same.but S1 f0 S4;erw[D,0,.inl %[zG0 hD4|λb hb=>?_]];let Gb:=zC0 hb (.tup tv);let hb5:upd H4 b (.tup tv) b=some (.tup tv):=bh;generalize upd H4 b (.tup tv)=H5 at Gb hb5;let SP:SmP ns ts:=%[nk,nd,n3,3,3|tok]
  let wfs:∀t∈ts,t.wf/\t.depth<=10/\t.size<=400:=λt ht=>%[Tr.ok_wf (λx hx=>(nk x hx).1) t (tok t ht).1,by have:=(tok t ht).2.1;omega|by have:=(tok t ht).2.2;omega]
  erw[0,0,nl,b,ns,tv,ts,1,Gb _ _ hnl4,hb5,TS.mono (bp Gb),3,wfs,λm H6 S6 m2 m4 me mt mc=>?_];let G46:=Gb.trans S6;let F6:=F4.same G46;erw[2,6];erw[0,nl,0,.inl (zG0 (G46 _ _ hnl4)),0,2,.inr %[0|6]];erw[2,1,0,6];let TS6:=TS.mono (bp G46)
  by_cases c:V.int (((ns.map V.str).length:Int)+(if decide (many>1)then 1 else 0))=V.int 1
  . apply aU c ?_;erw[0,0,f,(16),1,F6,4,4,λd H7 d0 d1 F7 S7=>%[2|6]];let T7:Same H H7:=Same.but (S1.trans (Same.refl _)) f0 (S4.trans ((zI0 G46).trans S7));erw[_,_,_,_,_,_,nl,b,m+1+d,m,ns,tv,ts,1,T7 _ _ hnl,S7 _ _ (F4.ne hb) (S6 _ _ hb5),TS6.mono (aZ F6 S7),SP,m2,3,3,λe=>by have:=me e #[0];omega,mt,mc,λnl' fd' a p H' S' h1 h2 h3 h4 h5=>q _ _ _ nl' fd' a b tv ts p H' (T7.trans S') h1 h2 (S' _ _ (S7 _ _ (F4.ne hb) (S6 _ _ hb5))) ((TS6.mono (aZ F6 S7)).mono (bp S')) h3 h4 h5]
  . apply ay c ?_;let T6:=T4.trans G46;erw[_,_,_,_,_,_,nl,b,m+1,m,ns,tv,ts,1,T6 _ _ hnl,S6 _ _ hb5,TS6,SP,m2,3,3,λe=>by have:=me e #[0];omega,mt,mc,λnl' fd' a p H' S' h1 h2 h3 h4 h5=>q _ _ _ nl' fd' a b tv ts p H' (T6.trans S') h1 h2 (S' _ _ (S6 _ _ hb5)) (TS6.mono (bp S')) h3 h4 h5]
 erw[0,0,a0,sn,k,1,hS,h63,k0,3,λfh H1 fh0 S1 F1=>?_];erw[0,0,2,a0,sn,k+1,1,S1.seq hS,h63,3,3,λf2 H2 f20 S2 F2=>?_];let n2h:f2≠fh:=F1.ne f20;erw[0,fh,(4),1,F1.same S2,4,4,λmk H3 m0 m4 F3 B3=>?_];let F2':FeedAt H3 f2:=by
  erw[x,t,e,rr]at F2;erw[x,t,B3 _ _ n2h e,rr]
 erw[f2,mk,1,F2',m0,3,λnl ns H4 nl0 nlf hnl nsl nk nd F4 B4=>?_];let F3':FeedAt H4 fh:=by
  erw[x,t,e,rr]at F3;erw[x,t,B4 _ _ n2h.symm e,rr]
 let T3:Same H H3:=Same.but (S1.trans S2) fh0 B3;let T4:Same H H4:=Same.but T3 (S1.free f20) B4;erw[0,fh,(3),1,F3',4,4,λd H5 d0 d3 F5 B5=>?_];let T5:Same H H5:=Same.but T4 fh0 B5;let nlh:nl≠fh:=F3.ne nl0;let hnl5:=B5 _ _ nlh hnl;erw[2,%[4|4],2,6];obtain⟨many,em,y1,y2⟩:∃many:Int,1+d / 2=many/\1<=many/\many<=2:=⟨_,rfl,#[0],#[0]⟩
 rw[em];erw[0,y0S,λe he=>%[y3S|λfd hfd=>?_]];let I6:=zC0 he (.tup []);let I7:=zC0 hfd (.tup [.ref nl,.ref e,.int 0]);let I67:=I6.trans I7;let hfd7:upd (upd H5 e (.tup [])) fd (.tup [.ref nl,.ref e,.int 0]) fd=some (.tup [.ref nl,.ref e,.int 0]):=bh;generalize upd (upd H5 e (.tup [])) fd (.tup [.ref nl,.ref e,.int 0])=H7 at I67 hfd7;let n3:ns.length<=3:=#[0]
 erw[W76 K H a0 fh sn k many,%[_|.fst nl fd e ns rfl rfl (T5.trans I67) (I67 _ _ hnl5) nk nd n3 hfd7],6];rintro mm σ H' W;cases W with
 |fst nl fd e ns e1 e2 S hnl nk nd n3 hfd=>
   subst e1 e2;erw[0,fd,_,(2),0,1,zB0 hfd,at2 ..,1,0,6];apply aU rfl (ee ?_);erw[_,λ_ _ h=>h,6];erw[_,_,_,_,a0,fh,nl,sn,k,many,ns,1,S.seq hS,h63,k0,k9,hnl,nk,nd,n3,y1,y2,λx6 x7 x8 nl' fd' a b tv ts p H' S' h1 h2 h3 h4 h5 h6 h7=>%[ns.length,3|.nxt x6 x7 x8 nl' fd' a b ns tv ts p rfl rfl (S.trans S') h1 h2 h3 h4 h5 h6 n3 h7]]
 |nxt x6 x7 x8 nl fd a b ns tv ts p e1 e2 S hfd ha hb TS gk p19 n3 hnl=>
   subst e1 e2;let p2:=gk.k.p2;let p9:=gk.k.p9;erw[0,fd,_,(2),0,1,zB0 hfd,at2 ..,1,0,6];apply ay (λz=>by have:=V.int.inj z;omega) ?_;erw[0,fd,a,b,ns,tv,ts,p,1,hfd,ha,hb,TS.length,gk.k.t1,gk.n6,3,3,6];erw[2,0,6]
   by_cases c:p ^ bq ns ts>30
   . apply aU c ?_;erw[_,λ_ _ h=>h,6];let ne:ns≠[]:=λz=>by
      have:=sm_pw (ts:=ts) p2 p19 z
      omega
     let l0:ns.dropLast.length<ns.length:=by
      have:0<ns.length:=List.length_pos_iff.mpr ne
      rw[List.length_dropLast];omega
     erw[_,_,_,_,a0,fh,nl,sn,k,many,ns.dropLast,1,S.seq hS,h63,k0,k9,hnl,λx hx=>gk.nk x (List.dropLast_subset _ hx),gk.nd.sublist (List.dropLast_sublist _),3,y1,y2,λx6 x7 x8 nl' fd' a b tv ts p H' S' h1 h2 h3 h4 h5 h6 h7=>%[ns.dropLast.length,l0|.nxt x6 x7 x8 nl' fd' a b ns.dropLast tv ts p rfl rfl (S.trans S') h1 h2 h3 h4 h5 h6 #[0] h7]]
   . apply ay c ?_;erw[0,q fd a b ns tv ts p H' hfd ha hb TS gk n3 #[0] S]
section
variable {C CM CA CG:Addr}
def lit_l:cd ("let by ":Str)=cd ("let by":Str)++[32]:=by decide
def He:cd (" of ":Str)=32::(cd ("of":Str)++[32]):=by decide
def HB(a b:Int):((("let by ":Str)++bJ a)++(" of ":Str))++bJ b=Str.join SP [("let by":Str),bJ a,("of":Str),bJ b]:=by
 apply yB ?_;let e1:cd (Str.join SP [("let by":Str),bJ a,("of":Str),bJ b])=jn 32 ([("let by":Str),bJ a,("of":Str),bJ b].map cd):=iW 32 _;rw[gq,gq,gq,e1,lit_l,He];show(((cd ("let by":Str)++[32])++cd (bJ a))++32::(cd ("of":Str)++[32]))++cd (bJ b)=cd ("let by":Str)++32::(cd (bJ a)++32::(cd ("of":Str)++32::cd (bJ b)))
 simp
def AV(a b c d x:Str)(r:List Str):Str.join SP (Str.join SP [a,b,c,d]::x::r)=Str.join SP ([a,b,c,d]++x::r):=by
 apply yB ?_;let e1:cd (Str.join SP (Str.join SP [a,b,c,d]::x::r))=jn 32 ((Str.join SP [a,b,c,d]::x::r).map cd):=iW 32 _;let e2:cd (Str.join SP ([a,b,c,d]++x::r))=jn 32 (([a,b,c,d]++x::r).map cd):=iW 32 _;let e3:cd (Str.join SP [a,b,c,d])=jn 32 ([a,b,c,d].map cd):=iW 32 _;rw[e1,e2];show cd (Str.join SP [a,b,c,d])++32::jn 32 ((x::r).map cd)=cd a++32::(cd b++32::(cd c++32::(cd d++32::jn 32 ((x::r).map cd))))
 rw[e3];show(cd a++32::(cd b++32::(cd c++32::cd d)))++32::_=_
 simp
structure W76l(K:W.Frag)(CG:Addr)(H:Hp)(a0 gr a b g l:Addr)(sn:List Int)(tv:List V)(ns:List Str)(ts:List Tr)(p:Int)(bs:List Str):Prop where
 S:SqL K H a0 (sn.map V.int)
 hd:H gr=some (.tup [.ref a,.ref b,.int p])
 ha:H a=some (.tup (ns.map V.str))
 hb:H b=some (.tup tv)
 TS:TreesAt H tv ts
 G:Gm CG H g ns ts p
 hl:H l=some (.lst (bs.map V.str))
def W76l.same(W:W76l K CG H a0 gr a b g l sn tv ns ts p bs)(S:Same H H'):W76l K CG H' a0 gr a b g l sn tv ns ts p bs:=%[S.seq W.S,S _ _ W.hd,S _ _ W.ha,S _ _ W.hb,W.TS.mono (bp S),W.G.same S|S _ _ W.hl]
instance tC76(K:W.Frag)(CG:Addr)(Dn:Ends)(σ:St)(H:Hp):∀(x6 x7 x8 x9 x10:Option V)(a0 gr a b g l:Addr)(sn:List Int)(k:Int)(tv:List V)(ns:List Str)(ts:List Tr)(p:Int)(bs:List Str),σ=[some (.ref a0),some (.ref gr),some (.str (iK p ns ts)),some (.ref g),some (.ref l),some (.int k),x6,x7,x8,x9,x10]->W76l K CG H a0 gr a b g l sn tv ns ts p bs->sn.length<=63->0<=k->k<1000->Gk ns ts p->ns.length<=3->p ^ bq ns ts<=30->bs.length=3->(∀x∈bs,NmK x)->(∀(x6 x7 x8 x9 x10:Option V)(H':Hp),Same H H'->Dn.nx [some (.ref a0),some (.ref gr),some (.str (iK p ns ts)),some (.ref g),some (.ref l),some (.int k),x6,x7,x8,x9,x10] H'):=0
instance tD76(K:W.Frag)(CG:Addr)(Dn:Ends)(σ:St)(H:Hp):∀(x6 x8 x9 x10:Option V)(a0 gr a b g l h:Addr)(sn:List Int)(k:Int)(tv:List V)(ns:List Str)(ts:List Tr)(p:Int)(bs:List Str)(rv:List V)(rows:List Hr),σ=[some (.ref a0),some (.ref gr),some (.str (iK p ns ts)),some (.ref g),some (.ref l),some (.int k),x6,some (.ref h),x8,x9,x10]->W76l K CG H a0 gr a b g l sn tv ns ts p bs->Gk ns ts p->ns.length<=3->p ^ bq ns ts<=30->H h=some (.tup rv)->RowsAt H rv rows->HOk rows->(∀(x8 x9 x10:Option V)(H':Hp),Same H H'->Dn.nx [some (.ref a0),some (.ref gr),some (.str (iK p ns ts)),some (.ref g),some (.ref l),some (.int k),x6,some (.ref h),x8,x9,x10] H'):=0
instance tE76(CG:Addr)(Dn:Ends)(σ:St)(H:Hp):∀(x0 x1 x3 x4 x5 x6 x8 x9:Option V)(h:Addr)(ns:List Str)(ts:List Tr)(p:Int)(rv:List V)(rows:List Hr)(x:Int×Option (List Int)),σ=[x0,x1,some (.str (iK p ns ts)),x3,x4,x5,x6,some (.ref h),x8,x9,some (.str (tN x (p ^ bq ns ts)))]->x=fo ns ts p rows (bq ns ts) 8 (Tk.new ts) []->Gk ns ts p->ns.length<=3->p ^ bq ns ts<=30->H h=some (.tup rv)->RowsAt H rv rows->HOk rows->(∀(H':Hp),Same H H'->Dn.nx [x0,x1,some (.str (iK p ns ts)),x3,x4,x5,x6,some (.ref h),x8,x9,some (.str (tN x (p ^ bq ns ts)))] H'):=0
def e7:FnScope ["_law_script","_law_game","_law_text","_law_known","_law_boxes","_law_k","_law_feed_here","_law_helper_here","_law_number","_law_row","_law_due"] ["_law_script"] (ag mQ):=%[|5]
def GZ(F:#["law",mQ])(B:Bl mg)(TG:GTxt K mg CG)(MG:Mk K CG fI)(GI:#[14,fI,fdI,WM,spGInit CG])(bI:Binds K fdI WM [])
 (fc:#[1,"_law_feed",WL,spFeed K])(a7:#[1,"_law_take",WF,spTake])(gY:#[2,"_law_names",WF,spNamesN])(iY:#[14,"_law_small_game",WL,spSmall K])(iX:#[1,"_law_rows",["_law_game"],spLRows])
 (pf:#[8,"_law_helper",Ww,spHelp])(E1:#[2,"_law_liar",Wx,spLiar])(mN:#[12,"game_text",Wy,spGText])(jB:#[19,"helper_text",WT,spHT])(gR:#[36,"weighed",WS,spWeighed C CM CG])(ph:#[37,"weigh_of",WS,spWeighOf]):#[38,f,fd,["_law_script"],spLaw K]:=by
 exists e7
 erw[a0,sn,1,hS,h63,q]at h;let hr15:Room (14+1) _:=hr.mono ⋯;refine⟨_,(aa #[ah,1,e7,ai iY hr ⋯ rfl %[0,ad|bc]]
  (aa #[ah,2,e7,ai mN hr ⋯ rfl %[aI aJ (pv 1) ad #[1],aI aJ (pv 1) ad #[1],aI aJ (pv 1) ad #[1]|bc]]
  (aa #[ah,3,e7,ib MG GI hr15 rfl TG.mgC bI .nil aY %[aI aJ (pv 1) ad #[1],aI aJ (pv 1) ad #[1],aI aJ (pv 1) ad #[1]|bc]]
  (aa #[ah,4,e7,ai gY hr ⋯ rfl %[ai fc hr ⋯ rfl %[0,ad|bc],ad|bc]]
  (aa (cQ zG1 rfl (oI rfl B.range %[ad,aE (oV rfl) rfl B.max qY0 %[ad,aE (AX rfl) rfl B.min PyProof.Rows.boot_min %[ad,aE aD rfl B.len zC1 %[0|bc]|bc]|bc]|bc]) (bt (i:=5) e7.nd rfl (.inl rfl)) (gC (t':=tC76 K CG) (aa #[ah,6,e7,ai fc hr ⋯ rfl %[0,5|bc]]
   (aa #[ah,7,e7,ai pf hr ⋯ rfl %[6,4,ad|bc]]
   (aa (aF (af fO (ai a7 hr ⋯ rfl %[6,ad|bc]) ad (ao _)) (ac #[ah,7,e7,ai E1 hr ⋯ rfl %[6,aI ix_list (pv 4) ad #[1]|bc]]) ax)
   (gC (t':=tD76 K CG) (aa (uz (ai gR hr ⋯ rfl %[3,7|bc]) (uA rfl (gN (bt (i:=8) e7.nd rfl (.inl rfl)) (gN (bt (i:=9) e7.nd rfl (.inl rfl)) pY))))
   (aa #[ah,10,e7,am iG (am iG (am iG aq (aW ei rfl B.str gt %[8|bc])) aq) (aW ei rfl B.str gt %[ai iX hr ⋯ rfl %[1|bc]|bc])]
   (aa (aF (af yY (pv 9) mo (ao _)) (ac #[ah,10,e7,cA zH1 zQ1 zR1 eV aq %[am jg (dq %[10,aq|bc]) (cJ (N:=[]) (ix:=[]) (cl:=[]) rfl #[5] rfl (eR (pv 9)) (λ_ _ _=>du (aW ei rfl B.str gt %[0|bc])))|bc]]) ax)
   (gC (t':=tE76 CG) (ac (aF (af lE (ai ph hr ⋯ rfl %[2,ai jB hr ⋯ rfl %[7|bc]|bc]) (pv 10) (ao _)) (ac (aj ju)) ax)) ?cE)))) ?cD)))) ?cC))
  (ac (aj ju))))))),?_⟩
 case cE=>
  rintro Dn σ H ⟨x0,x1,x3,x4,x5,x6,x8,x9,h,ns,ts,p,rv,rows,x,rfl,ex,gk,n3,pw,hh,RW,ho,q⟩;erw[0,0,h,rv,rows,1,hh,RW,ho.1,λH1 S1=>?_];erw[ns,ts,p,rows,1,gk,3,ho,3,λH2 S2=>?_];rw[←ex];erw[0,1,0,6];rw[zD1 rfl];apply cV ?_;exact q H2 (S1.trans S2)
 case cD =>
  rintro Dn σ H ⟨x6,x8,x9,x10,a0,gr,a,b,g,l,h,sn,k,tv,ns,ts,p,bs,rv,rows,rfl,W,gk,n3,pw,hh,RW,ho,q⟩;let p2:=gk.k.p2;let p9:=gk.k.p9;let n6:=gk.n6;let WR:=sM (rows:=rows) gk.k n6;erw[0,0,g,h,rv,rows,ns,ts,p,1,W.G,gk.k,n6,hh,RW,ho.2.1,3,λc H1 S1 WA=>?_];obtain⟨x,ex⟩:∃x,x=fo ns ts p rows (bq ns ts) 8 (Tk.new ts) []:=%[|0]
  rw [←ex]at WA WR;erw[n,r]at x;erw[v,hc,ov]at WA;let W1:=W.same S1;let m0:0<=p ^ bq ns ts:=Int.pow_nonneg #[0];let lg:∀n:Int,0<=n->n<=1000000->n.natAbs.log2<1920/\(bJ n).length<=24:=λn h0 h1=>by
   let%[h2|h3]:=uP h0 (show n<10 ^ 24 by omega);rcases h2 with⟨i,e,h⟩ | ⟨z,e⟩
   . cases e;erw[h,jA1 h0 ⋯ (show n<10 ^ 24 by omega)]
   . cases e
  let g1:=lg n WR.1 (by have:=WR.2.1;omega);let g2:=lg _ m0 #[0];let l1:("let by ":Str).length=7:=by decide
  let l2:(" of ":Str).length=4:=by decide
  let e1:((("let by ":Str)++bJ n)++(" of ":Str)).length=11+(bJ n).length:=by
   rw[zB1,zB1,l1,l2];omega
  let e2:=HB n (p ^ bq ns ts);let dl:(Str.join SP [("let by":Str),bJ n,("of":Str),bJ (p ^ bq ns ts)]).length<=100:=by
   rw[←e2,zB1,e1]
   have:=g1.2
   have:=g2.2
   omega
  erw[c,0,zB0 hc,1,_,0,2,6];erw[0,n,1,g1.1,2,aV (by rw[l1];show 7+(bJ n).length<=1000;omega),2,aV (by rw[zB1,l1,l2];show 7+(bJ n).length+4<=1000;omega),0,gr,a,b,ns,tv,ts,p,1,W1.hd,W1.ha,W1.hb,W1.TS.length,gk.k.t1,n6,3,3,0,g2.1,2,aV (by show((("let by ":Str)++bJ n)++(" of ":Str)).length+(bJ (p ^ bq ns ts)).length<=1000;rw[e1];omega),6];let e3:((("let by ":Str)++(toString n:Str))++(" of ":Str))++(toString (p ^ bq ns ts):Str)=Str.join SP [("let by":Str),bJ n,("of":Str),bJ (p ^ bq ns ts)]:=e2;rw[e3];erw[0,1,0,6];let hh1:=S1 _ _ hh;let RW1:=RW.mono (bp S1);cases r with
  |none=>
    let ov:v=.non:=ov;subst ov;apply cV ?_;erw[_,_,_,_,_,_,_,_,h,ns,ts,p,rv,rows,(n,none),1,ex,gk,n3,pw,hh1,RW1,ho,λH' S'=>q _ _ _ H' (S1.trans S')]
  |some cs=>
    erw[ba,1,hba]at ov;let%[cl|co]:=WR.2.2 cs rfl;let c7:bq ns ts<=4:=by unfold bq;split <;> omega
    apply ee ?_;erw[1,0,y2S,λL1 hL1=>?_];generalize eD:Str.join SP [("let by":Str),bJ n,("of":Str),bJ (p ^ bq ns ts)]=D0 at dl;let I2:=zC0 hL1 (.lst [.str D0,.str "caught by"]);let h2:upd H1 L1 (.lst [.str D0,.str "caught by"]) L1=some (.lst [.str D0,.str "caught by"]):=bh;generalize upd H1 L1 (.lst [.str D0,.str "caught by"])=H2 at I2 h2;erw[0,ba,1,%[_|zB0 (I2 _ _ hba)],λD hD=>?_];apply eY (K:=K) (xs:=cs.map V.int) (λi H'=>H' D=some (.lst (((cs.take i).map bJ).map V.str))/\Same H2 H') %[by rw[bh];rfl|zC0 hD _] (λi H' _ h=>zB0 (h.2 _ _ (I2 _ _ hba))) ?_ ?_
    . rintro i z H3 hz ⟨hD3,S3⟩;let hi:=(zW0 hz).1;rw[zZ0]at hz;let%[m,hm|1]:=qQ0 hz;let bm:=co m (qI0 hm);erw[0,m,1,(lg m bm.1 #[0]).1,_,hD3,6,Nx.of hi ⟨?_,λb' o' e'=>?_⟩]
      . rw[zF0,zF0,qE0];exact aO #[0]
      . rw[bh,qJ0,hm,zL0,zL0];rfl
      . rw[aB (bi e' hD)];exact S3 _ _ e'
    rintro H3 ⟨hD3,S3⟩;rw[zF0,qF0]at hD3;erw[L1,D,2,S3 _ _ h2,hD3,aV (by rw[zF0,zF0];show 2+cs.length<=1000;omega),λL4 hL4=>?_];let I4:=zC0 hL4 (.lst ([.str D0,.str "caught by"]++(cs.map bJ).map V.str));let h4:upd H3 L4 (.lst ([.str D0,.str "caught by"]++(cs.map bJ).map V.str)) L4=some (.lst ((D0::("caught by":Str)::cs.map bJ).map V.str)):=bh;generalize upd H3 L4 (.lst ([.str D0,.str "caught by"]++(cs.map bJ).map V.str))=H4 at I4 h4;let S14:=I2.trans (S3.trans I4);erw[_,L4,0,1,zG0 h4,⋯,6,6]
    . let l3:("caught by":Str).length=9:=by decide
      have:=lS (l:=cs.map bJ) (b:=24) λq hq=>by
       let%[m,hm|1]:=List.mem_map.mp hq;exact(lg m (co m hm).1 (by have:=(co m hm).2;omega)).2
      rw[zF0]at this;rw[zY0,zY0,zV1,zV1,zM0,zM0,zF0,l3];omega
    . let e5:Txt.join (" ":Str) (D0::("caught by":Str)::cs.map bJ)=tN (n,some cs) (p ^ bq ns ts):=by
       rw [yO,nQ,←eD,AV];let em:cs.map bJ=(cs.map V.int).map wtx:=by
        rw[List.map_map];rfl
       rw[em];rfl
      rw[e5];erw[_,_,_,_,_,_,_,_,h,ns,ts,p,rv,rows,(n,some cs),1,ex,gk,n3,pw,S14 _ _ hh1,RW1.mono (bp S14),ho,λH' S'=>q _ _ _ H' (S1.trans (S14.trans S'))]
 case cC=>
  rintro Dn σ H ⟨x6,x7,x8,x9,x10,a0,gr,a,b,g,l,sn,k,tv,ns,ts,p,bs,rfl,W,h63,k0,k9,gk,n3,pw,bl,nk,q⟩;erw[0,0,a0,sn,k,1,W.S,h63,k0,3,λf H1 f0 S1 F1=>?_];let W1:=W.same S1;let lf:l≠f:=bi W.hl f0;erw[0,0,f,l,bs,(10),1,F1,W1.hl,lf,3,3,nk,4,4,λh rv rows H2 hh RW ho F2 B2=>?_];let T2:Same H H2:=Same.but S1 f0 B2;erw[0,f,(3),1,F2,4,4,λd H3 d0 d3 F3 B3=>%[2,0|6]];let T3:Same H H3:=Same.but T2 f0 B3;let k3:=aZ F2 B3
  by_cases c:d>0
  . apply aU c ?_;cases bs with
    |nil=>cases bl
    |cons x br=>
      erw[0,0,l,_,(0),0,1,zG0 (T3 _ _ W.hl),at0 ..,f,x,1,nk x qB0,F3,λh' rv' rows' H4 hh' RW' ho' F4 B4=>?_];let T4:Same H H4:=Same.but T3 f0 B4;erw[_,_,_,_,a0,gr,a,b,g,l,h',sn,k,tv,ns,ts,p,_,rv',rows',1,W.same T4,gk,n3,pw,hh',RW',ho',λx8 x9 x10 H' S'=>q _ _ x8 x9 x10 H' (T4.trans S')]
  . apply ay c ?_;erw[_,_,_,_,a0,gr,a,b,g,l,h,sn,k,tv,ns,ts,p,bs,rv,rows,1,W.same T3,gk,n3,pw,k3 _ _ hh,RW.mono k3,ho,λx8 x9 x10 H' S'=>q _ _ x8 x9 x10 H' (T3.trans S')]
 erw[0,a0,sn,(1),1,hS,h63,4,4,λgr a b ns tv ts p H1 hd ha hb TS gk n3 pw S1=>?_];erw[0,gr,_,(0),0,1,zB0 hd,at0 ..,0,gr,_,(1),0,1,zB0 hd,at1 ..,0,gr,_,(2),0,1,zB0 hd,at2 ..,a,b,tv,p,ns,ts,1,ha,hb,TS.ts,gk.gm,λH2 S2=>?_];let hd2:=S2 _ _ hd;erw[0,gr,_,(0),0,1,zB0 hd2,at0 ..,0,gr,_,(1),0,1,zB0 hd2,at1 ..,0,gr,_,(2),0,1,zB0 hd2,at2 ..,λg dx nx ndx nex=>?_];apply DD (S2 _ _ ha) (S2 _ _ hb) (TS.mono (bp S2)) gk.k gk.nd nx ndx λH3 S3 G3=>%[1|6]
 let S23:=S2.trans S3;let S03:=S1.trans S23;erw[0,a0,sn,(4),1,S03.seq hS,h63,4,4,λf4 H4 f40 S4 F4=>?_];erw[f4,(3),1,F4,4,4,λl bs H5 l0 lf hl bl nk nd F5 B5=>?_];let T5:Same H3 H5:=Same.but S4 f40 B5;let S15:=S23.trans T5;let W5:W76l K CG H5 a0 gr a b g l sn tv ns ts p bs:=%[(S1.trans S15).seq hS,S15 _ _ hd,S15 _ _ ha,S15 _ _ hb,TS.mono (bp S15),G3.same T5|hl]
 let hlen:(sn.map V.int).length=sn.length:=zF0 _;erw[0,a0,0,.inl W5.S,_,0,_,0,6];erw[_,0,%[4,4,by(repeat' split) <;> omega|by(repeat' split) <;> omega],dG (λi σ H'=>∃(x5 x6 x7 x8 x9 x10:Option V),σ=[some (.ref a0),some (.ref gr),some (.str (iK p ns ts)),some (.ref g),some (.ref l),x5,x6,x7,x8,x9,x10]/\Same H5 H') %[_,_,_,_,_,0|Same.refl _] ?_ ?_]
 . rintro i σ H6 hi ⟨x5,x6,x7,x8,x9,x10,rfl,S6⟩;let hi':i<63:=by
    rw[hlen]at hi
    revert hi
    (repeat' split) <;> omega
   erw[_,_,_,_,_,a0,gr,a,b,g,l,sn,5+(i:Int),tv,ns,ts,p,bs,1,W5.same S6,h63,3,3,gk,n3,pw,bl,nk,λx6 x7 x8 x9 x10 H' S'=>%[_,x6,x7,x8,x9,x10,1|S6.trans S']]
 . rintro σ H6 ⟨x5,x6,x7,x8,x9,x10,rfl,S6⟩;exact q _
end
def kept_vals{a b c d e f g h i j k l:Tok}:Vals (kept.map V.str) [.str "yes" a,.str "no" b,.str "not" c,.str "and" d,.str "or" e,.str "odd" f,.str "same" g,.str "round" h,.str "due" i,.str "asked" j,.str "true" k,.str "coin" l]:=
 .cons %[|0] (.cons ⟨_,rfl⟩ (.cons ⟨_,rfl⟩ (.cons ⟨_,rfl⟩ (.cons ⟨_,rfl⟩ (.cons ⟨_,rfl⟩ (.cons ⟨_,rfl⟩ (.cons ⟨_,rfl⟩ (.cons ⟨_,rfl⟩ (.cons ⟨_,rfl⟩ (.cons ⟨_,rfl⟩ (.cons ⟨_,rfl⟩ .nil)))))))))))
def sign_vals{a b c d e f:Tok}:Vals (signW.map V.str) [.str "+" a,.str "-" b,.str "*" c,.str "/" d,.str "=" e,.str "<" f]:=
 .cons %[|0] (.cons ⟨_,rfl⟩ (.cons ⟨_,rfl⟩ (.cons ⟨_,rfl⟩ (.cons ⟨_,rfl⟩ (.cons ⟨_,rfl⟩ .nil)))))
def ask_vals{a b:Tok}:Vals (askW.map V.str) [.str "coin" a,.str "true" b]:=.cons %[|0] (.cons ⟨_,rfl⟩ .nil)
def plain_vals{a b c:Tok}:Vals (plainW.map V.str) [.str "round" a,.str "due" b,.str "asked" c]:=.cons %[|0] (.cons ⟨_,rfl⟩ (.cons ⟨_,rfl⟩ .nil))
def join_vals{a b c d:Tok}:Vals (joinW.map V.str) [.str "and" a,.str "or" b,.str "odd" c,.str "same" d]:=
 .cons %[|0] (.cons ⟨_,rfl⟩ (.cons ⟨_,rfl⟩ (.cons ⟨_,rfl⟩ .nil)))
end
abbrev FH(K:W.Frag)(x:Str)(s:Stmt):Prop:=∃f,W.nsIn K mainGlobals x=some (some (.ref f))/\∃fd,Fun K x x s f fd
abbrev MH(K:W.Frag)(C:Addr)(x y:Str)(s:Stmt):Prop:=∃g,W.findIn K (.ref C) x=some (some (.ref g))/\W.isFn K (.ref g)=true/\∃fd,Fun K x y s g fd
abbrev CH(K:W.Frag)(x:Str)(C:Addr):Prop:=W.nsIn K mainGlobals x=some (some (.ref C))/\W.plainGet K C Str.empty=true/\W.hasDictIn K C=true/\W.plainOver K C=true/\W.findIn K (.ref C) "__setattr__"=some (some (.builtin "object.__setattr__"))/\W.makesIn K C=true/\W.keepIn K (.ref C)=true
abbrev HF(K:W.Frag)(C:Addr)(x:Str):Prop:=W.findIn K (.ref C) x=some none
abbrev HZ(K:W.Frag)(x:Str):Prop:=W.nsIn K mainGlobals x=some none
def aS{K:W.Frag}{h:Heap}{mg:#[9]}(X:K.In h)(G:h.Ns mainGlobals mg)(z:FH K x s):∃f fd,Fun K x x s f fd/\mg x=some (.ref f):=by
 erw[f,a,fd,F]at z;erw[f,fd,F,qH1 X G a]
def cZ{K:W.Frag}(z:MH K C x y s):∃f fd,Fun K x y s f fd/\Meth K C x f:=by
 erw[f,a,i,fd,F]at z;erw[f,fd,F,a,i,F.kp]
def all_mk{l:PySem.W.OpenLaw}{w:World}{K:W.Frag}{h:Heap}{mg:#[9]}{fa fl CG C CA CM CS:Addr}(X:K.In h)(G:h.Ns mainGlobals mg)(hfa:mg "law"=some (.ref fa))
 {od an:Option Addr}{sl:Array (Option Value)}{oc kV dc pm cd ct:Value}
 {t1 t3 t4 t5 t6 u1 u2 u3:Tok}{ka ja qa pa:Addr}{kd jd qd pd:Option Addr}{kits jits qits pits:Array Value}{kn jn qn pn:Nat}{ksl jsl qsl psl:Array (Option Value)}
 {te tm tr:Tok}
 {rt2 rt3 rt4 rt5 rt6 rt7 rt8:Tok}{va:Addr}{vd:Option Addr}{vits:Array Value}{vn:Nat}{vsl:Array (Option Value)}
 (aL:W.nsIn K mainGlobals "law"=some (some (.ref fl)))(lL:K.lookup fl=some %[oc,od,.func (W.fnOf "law" "law" (jW mQ) (gI mQ) (ag mQ) .none kV dc pm an cd ct)|sl])(cL:W.codeIn K cd "law"=true)(kL:W.keepIn K (.ref fl)=true)
 (h0:FH K "is_field" mf)
 (h1:FH K "inverse_of" jO)
 (h2:FH K "is_number" kz)
 (h3:FH K "all_settings" iD)
 (h4:FH K "holds_at" jP)
 (h5:FH K "joined" qN)
 (h6:FH K "count_of" mh)
 (h7:FH K "trees_within" iy)
 (h8:FH K "size_of" lc)
 (h9:FH K "names_in" jJ)
 (h10:FH K "worth_of" jF)
 (h11:FH K "joined_worth" iB)
 (h12:FH K "degree_of" kE)
 (h13:FH K "look_switches" gX)
 (h14:FH K "look_names" jK)
 (h15:FH K "look_field" jL)
 (h16:FH K "look_size" ky)
 (h17:FH K "look_helper" je)
 (h18:FH K "is_name" oz)
 (h19:FH K "is_figures" jN)
 (h20:FH K "read_helper" jb)
 (h21:FH K "helper_row" jQ)
 (h22:FH K "next_name" kx)
 (h23:FH K "next_figures" iz)
 (h24:FH K "next_term" iS)
 (h25:FH K "term_in_bracket" dP)
 (h26:FH K "helper_text" jf)
 (h27:FH K "row_text" lX)
 (h28:FH K "term_text" iQ)
 (h29:FH K "in_bracket" hZ)
 (h30:FH K "value_at" lV)
 (h31:FH K "both_ends" kG)
 (h32:FH K "value_behind" iw)
 (h33:FH K "products" lY)
 (h34:FH K "inverse_factorials" dY)
 (h35:FH K "all_sizes" kI)
 (h36:FH K "power" ue)
 (h37:FH K "rows_of_coins" gV)
 (h38:FH K "counts_of" kF)
 (h39:FH K "true_row" lW)
 (h40:FH K "read_game" ku)
 (h41:FH K "row_or_end" jI)
 (h42:FH K "field_in_row" iC)
 (h43:FH K "switches_in_row" eP)
 (h44:FH K "trees_in_rows" gU)
 (h45:FH K "tree_in_row" iZ)
 (h46:FH K "next_tree" iR)
 (h47:FH K "joined_tree" gB)
 (h48:FH K "value_of" jH)
 (h49:FH K "op_value" lZ)
 (h50:FH K "divided" oB)
 (h51:FH K "asked_once" jR)
 (h52:FH K "weighed" ow)
 (h53:FH K "weighed_behind" eg)
 (h54:FH K "first_row" kD)
 (h55:FH K "weigh_of" lU)
 (h56:FH K "game_in" oA)
 (h57:FH K "helper_in" kA)
 (h58:FH K "words_text" jG)
 (h59:FH K "tree_text" iP)
 (h60:FH K "game_text" kC)
 (h61:FH K "_law_feed" qM)
 (h62:FH K "_law_take" qI)
 (h63:FH K "_law_names" cu)
 (h64:FH K "_law_tree" mV)
 (h65:FH K "_law_names_of" hV)
 (h66:FH K "_law_need" qK)
 (h67:FH K "_law_is_prime" jM)
 (h68:FH K "_law_term" mX)
 (h69:FH K "_law_helper" ma)
 (h70:FH K "_law_liar" qL)
 (h71:FH K "_law_rows" qJ)
 (h72:FH K "_law_small_game" iA)
 (gmc:CH K "Game" CG)
 (dbc:CH K "Doubter" C)
 (asc:CH K "Asking" CA)
 (mcc:CH K "Machine" CM)
 (scc:CH K "Scan" CS)
 (Lg:MH K CG "__init__" "Game.__init__" uh)
 (gmmM:MH K CG "mix" "Game.mix" xB)
 (gmmW:MH K CG "worth_at" "Game.worth_at" qO)
 (gmmC:MH K CG "coins" "Game.coins" qP)
 (dbmI:MH K C "__init__" "Doubter.__init__" ul)
 (dbmW:MH K C "waits" "Doubter.waits" qQ)
 (dbmU:MH K C "due" "Doubter.due" xD)
 (dbmH:MH K C "hear" "Doubter.hear" uo)
 (dbmT:MH K C "toss" "Doubter.toss" uk)
 (dbmC:MH K C "hear_claims" "Doubter.hear_claims" oC)
 (dbmB:MH K C "begin_rounds" "Doubter.begin_rounds" qS)
 (dbmR:MH K C "hear_row" "Doubter.hear_row" xC)
 (dbmG:MH K C "go_on" "Doubter.go_on" BO)
 (dbmE:MH K C "look_at_trees" "Doubter.look_at_trees" qR)
 (dbmN:MH K C "twin" "Doubter.twin" uj)
 (asmI:MH K CA "__init__" "Asking.__init__" ur)
 (asmP:MH K CA "plain_value" "Asking.plain_value" qT)
 (asmC:MH K CA "coin_at" "Asking.coin_at" ut)
 (asmN:MH K CA "true_numbers" "Asking.true_numbers" oE)
 (asmR:MH K CA "true_at" "Asking.true_at" uq)
 (mcmI:MH K CM "__init__" "Machine.__init__" ug)
 (mcmS:MH K CM "say" "Machine.say" xz)
 (mcmR:MH K CM "do_row" "Machine.do_row" xA)
 (mcmN:MH K CM "twin" "Machine.twin" uf)
 (scmI:MH K CS "__init__" "Scan.__init__" uc)
 (scmE:MH K CS "enter" "Scan.enter" qH)
 (scmS:MH K CS "sees" "Scan.sees" ub)
 (scmT:MH K CS "take" "Scan.take" ua)
 (scmW:MH K CS "word" "Scan.word" tZ)
 (scmF:MH K CS "finish" "Scan.finish" ox)
 (u7:HF K CG "switches")
 (gmn_trees:HF K CG "trees")
 (gmn_field:HF K CG "field")
 (gmn_degrees:HF K CG "degrees")
 (dbn_game:HF K C "game")
 (dbn_awaited:HF K C "awaited")
 (dbn_claims:HF K C "claims")
 (dbn_s:HF K C "s")
 (dbn_heard:HF K C "heard")
 (dbn_tossed:HF K C "tossed")
 (dbn_held:HF K C "held")
 (dbn_places:HF K C "places")
 (asn_game:HF K CA "game")
 (asn_number:HF K CA "number")
 (asn_many:HF K CA "many")
 (asn_held:HF K CA "held")
 (asn_s:HF K CA "s")
 (asn_tossed:HF K CA "tossed")
 (asn_truths:HF K CA "truths")
 (mcn_game:HF K CM "game")
 (mcn_helper:HF K CM "helper")
 (mcn_next_round:HF K CM "next_round")
 (mcn_boxes:HF K CM "boxes")
 (scn_text:HF K CS "text")
 (scn_row:HF K CS "row")
 (scn_most_within:HF K CS "most_within")
 (scn_most_parts:HF K CS "most_parts")
 (scn_place:HF K CS "place")
 (scn_parts:HF K CS "parts")
 (g1:W.nsIn K mainGlobals "LETTERS"=some (some (.str LET t1)))
 (g3:W.nsIn K mainGlobals "LONGEST_NAME"=some (some (.int 6 t3)))
 (g5:W.nsIn K mainGlobals "KEPT_WORDS"=some (some (.ref ka)))
 (g6:K.lookup ka=some %[.type "tuple",kd,.seq kits kn|ksl])
 (g7:kits.size<=100)
 (g8:Vals (kept.map V.str) kits.toList)
 (e1:W.nsIn K mainGlobals "WORD_ENDS"=some (some (.str ENDS t4)))
 (e2:W.nsIn K mainGlobals "MOST_WITHIN_helptexts"=some (some (.int 8 t5)))
 (e3:W.nsIn K mainGlobals "MOST_PARTS_helptexts"=some (some (.int 20 t6)))
 (w1:W.nsIn K mainGlobals "FIGURES"=some (some (.str FIG u1)))
 (w2:W.nsIn K mainGlobals "MOST_FIGURES"=some (some (.int 12 u2)))
 (w3:W.nsIn K mainGlobals "MOST_ROWS_helptexts"=some (some (.int 60 u3)))
 (j5:W.nsIn K mainGlobals "SIGNS"=some (some (.ref ja)))
 (j6:K.lookup ja=some %[.type "tuple",jd,.seq jits jn|jsl])
 (j7:jits.size<=100)
 (j8:Vals (signW.map V.str) jits.toList)
 (q5:W.nsIn K mainGlobals "ASKING_WORDS"=some (some (.ref qa)))
 (q6:K.lookup qa=some %[.type "tuple",qd,.seq qits qn|qsl])
 (q7:qits.size<=100)
 (q8:Vals (askW.map V.str) qits.toList)
 (p5:W.nsIn K mainGlobals "PLAIN_WORDS"=some (some (.ref pa)))
 (p6:K.lookup pa=some %[.type "tuple",pd,.seq pits pn|psl])
 (p7:pits.size<=100)
 (p8:Vals (plainW.map V.str) pits.toList)
 (r2:W.nsIn K mainGlobals "MOST_WITHIN_reader"=some (some (.int 10 rt2)))
 (r3:W.nsIn K mainGlobals "MOST_PARTS_reader"=some (some (.int 30 rt3)))
 (r4:W.nsIn K mainGlobals "MOST_SWITCHES"=some (some (.int 6 rt4)))
 (r5:W.nsIn K mainGlobals "MOST_TREES"=some (some (.int 4 rt5)))
 (r6:W.nsIn K mainGlobals "FIELD_HEAD"=some (some (.str "field " rt6)))
 (r7:W.nsIn K mainGlobals "TREE_HEAD"=some (some (.str "holds " rt7)))
 (r8:W.nsIn K mainGlobals "FIRST_TREE_ROW"=some (some (.int 2 rt8)))
 (v5:W.nsIn K mainGlobals "JOINING_WORDS"=some (some (.ref va)))
 (v6:K.lookup va=some %[.type "tuple",vd,.seq vits vn|vsl])
 (v7:vits.size<=100)
 (v8:Vals (joinW.map V.str) vits.toList)
 (xmr:W.nsIn K mainGlobals "MOST_ROWS_weighing"=some (some (.int 4000 tr)))
 (ge:W.nsIn K mainGlobals "FIELDS_END"=some (some (.int 1000000 te)))
 (xmo:W.nsIn K mainGlobals "MOST_ROWS_DONE"=some (some (.int 200 tm)))
 (z0:HZ K "len")(z1:HZ K "range")(z2:HZ K "isinstance")(z3:HZ K "int")(z4:HZ K "bool")(z5:HZ K "list")(z6:HZ K "tuple")(z7:HZ K "max")(z8:HZ K "min")(z9:HZ K "reversed")(z10:HZ K "enumerate")(z11:HZ K "sum")(z12:HZ K "all")(z13:HZ K "dict")(z14:HZ K "str"):
 ∃fd:FuncData,(∀(s:Shared) (v:Value),BindsTo s fd %[[v]|[]] [("_law_script",v)])/\∀base:Heap,K.In base->base.Ns mainGlobals mg->FnOk l.prog w K mg base CX0 38 fa fd ["_law_script"] (spLaw K):=by
 let e:=hfa.symm.trans (qH1 X G aL);cases e;let Lh:=Hv (st:=mQ) lL cL kL;exists 1,E5,JF,h0,u8,IY,h1,A9,Jt,h2,mO,Iy,h3,E6,E7,h4,IZ,JV,h5,E8,JG,h6,mY,Iz,h7,IF,IG,h8,E9,G7,h9,G9,HY,h10,m5,IA,h11,BM,Ju,h12,kZ,Ic,h13,u9,Ja,h14,vC,Jb,h15,B0,Jv,h16,qF,IN,h17,IH,JQ,h18,vE,Jc,h19,qG,IO,h20,vF,Jd,h21,B9,Jw,h22,m7,IB,h23,C0,C1,h24,A0,A3,h25,q0,IP,h26,Id,JH,h27,C2,C3,h28,Je,Jf,h29,Ie,JI,h30,C4,Jx,h31,m8,IC,h32,Ii,JK,h33,ii,pV,h34,C5,Jy,h35,JE,Le,h36,k7,Ik,h37,C6,Jz,h38,Il,JL,h39,C7,JA,h40,vG,Jg,h41,n8,ID,h42,jE,A4,h43,ly,Im,h44,rM,IQ,h45,C8,C9,h46,IR,IS,h47,Io,Iq,h48,Ir,JM,h49,II,JR,h50,v3,Jh,h51,IJ,JS,h52,km,ko,h53,D1,JB,h54,Iu,JN,h55,IK,JT,h56,D4,JC,h57,v4,Ji,h58,D6,D7,h59,D8,JD,h60,Jj,JW,h61,Jk,JX,h62,IL,JU,h63,Jl,Jm,h64,v9,y4,h65,Jn,JY,h66,y6,Jo,h67,Jp,Jq,h68,Iv,JO,h69,Jr,JZ,h70,Js,J0,h71,ou,IE,h72;erw[gmgg,gmpg,gmhdi,gmpov,gmsat,gmmki,gmkcl]at gmc;erw[dbgg,dbpg,dbhdi,dbpov,dbsat,dbmki,dbkcl]at dbc;erw[asgg,aspg,ashdi,aspov,assat,asmki,askcl]at asc;erw[mcgg,mcpg,mchdi,mcpov,mcsat,mcmki,mckcl]at mcc;erw[scgg,scpg,schdi,scpov,scsat,scmki,sckcl]at scc;exists 2,J1,J5,Lg,Ka,Kb,gmmM,Kc,Kd,gmmW,Ke,Kf,gmmC,Kg,Kh,dbmI,Ki,Li,dbmW,Kj,Lj,dbmU,Kk,Lk,dbmH,Kl,Ll,dbmT,Km,Lm,dbmC,Kn,Ko,dbmB,Kp,Ln,dbmR,Kq,Kr,dbmG,Ks,Lo,dbmE,Kt,Lq,dbmN,Ku,Kv,asmI,Kw,Lr,asmP,Kx,Ls,asmC,Ky,Lu,asmN,Kz,Lv,asmR,KA,KB,mcmI,KC,Lw,mcmS,KD,Lx,mcmR,KE,Ly,mcmN,KF,IT,scmI,KG,Lz,scmE,KH,KI,scmS,KJ,LA,scmT,KK,LB,scmW,KL,LC,scmF;let B:Bl mg:=%[qD1 X G z0,qD1 X G z1,qD1 X G z2,qD1 X G z3,qD1 X G z4,qD1 X G z5,qD1 X G z6,qD1 X G z7,qD1 X G z8,qD1 X G z9,qD1 X G z10,qD1 X G z11,qD1 X G z12,qD1 X G z13|qD1 X G z14]
 erw[W.fnOf "law" "law" (jW mQ) (gI mQ) (ag mQ) .none kV dc pm an cd ct,λs v=>.of_eq rfl,λbase _ _=>?_];let cal:=@Cal.of l.prog w K mg base;let TG:GTxt K mg CG:=%[%[gmpg,gmhdi,gmpov|gmsat],u7,gmn_trees,gmn_field,gmn_degrees|qH1 X G gmgg]
 let T:DTxt K mg C:=%[%[dbpg,dbhdi,dbpov|dbsat],dbn_game,dbn_awaited,dbn_claims,dbn_s,dbn_heard,dbn_tossed,dbn_held,dbn_places|qH1 X G dbgg]
 let TA:ATxt K mg CA:=%[%[aspg,ashdi,aspov|assat],asn_game,asn_number,asn_many,asn_held,asn_s,asn_tossed,asn_truths|qH1 X G asgg]
 let TM:MTxt K mg CM:=%[%[mcpg,mchdi,mcpov|mcsat],mcn_game,mcn_helper,mcn_next_round,mcn_boxes|qH1 X G mcgg]
 let TS:STxt K mg CS:=%[%[scpg,schdi,scpov|scsat],scn_text,scn_row,scn_most_within,scn_most_parts,scn_place,scn_parts|qH1 X G scgg]
 let TX:Tx K mg:=%[%[t1|qH1 X G g1],%[t3|qH1 X G g3],%[ka,qH1 X G g5|λ_=>.inr %[_,kits,kn,g6,1,1,zN0 g7 (aV ⋯)|g8]],%[t4|qH1 X G e1],%[t5|qH1 X G e2],%[t6|qH1 X G e3],%[u1|qH1 X G w1],%[u2|qH1 X G w2],%[u3|qH1 X G w3],%[ja,qH1 X G j5|λ_=>.inr %[_,jits,jn,j6,1,1,zN0 j7 (aV ⋯)|j8]],%[qa,qH1 X G q5|λ_=>.inr %[_,qits,qn,q6,1,1,zN0 q7 (aV ⋯)|q8]],%[pa,qH1 X G p5|λ_=>.inr %[_,pits,pn,p6,1,1,zN0 p7 (aV ⋯)|p8]],%[rt2|qH1 X G r2],%[rt3|qH1 X G r3],%[rt4|qH1 X G r4],%[rt5|qH1 X G r5],%[rt6|qH1 X G r6],%[rt7|qH1 X G r7],%[rt8|qH1 X G r8]|%[va,qH1 X G v5|λ_=>.inr %[_,vits,vn,v6,1,1,zN0 v7 (aV ⋯)|v8]]]
 let KM:=J1.binds (ps:=["self","switches","trees","field"]) ‹X.a›;let KN:=Ka.binds (ps:=["self","numbers","s"]) ‹X.a›;let KO:=Kc.binds (ps:=["self","point","s"]) ‹X.a›;let KP:=Ke.binds (ps:=["self"]) ‹X.a›;let KQ:=Kg.binds (ps:=["self","game"]) ‹X.a›;let LE:=Ki.binds (ps:=["self"]) ‹X.a›;let LF:=Kj.binds (ps:=["self"]) ‹X.a›;let LG:=Kk.binds (ps:=["self","values"]) ‹X.a›;let LH:=Kl.binds (ps:=["self","r"]) ‹X.a›;let LI:=Km.binds (ps:=["self","values"]) ‹X.a›;let KR:=Kn.binds (ps:=["self","s"]) ‹X.a›;let LJ:=Kp.binds (ps:=["self","values"]) ‹X.a›;let KS:=Kq.binds (ps:=["self"]) ‹X.a›;let LK:=Ks.binds (ps:=["self"]) ‹X.a›;let LL:=Kt.binds (ps:=["self"]) ‹X.a›;let LM:=Ku.binds (ps:=["self","game","number","many","due","s","coins"]) ‹X.a›;let LN:=Kw.binds (ps:=["self","word"]) ‹X.a›;let LO:=Kx.binds (ps:=["self","place"]) ‹X.a›;let LP:=Ky.binds (ps:=["self"]) ‹X.a›;let LQ:=Kz.binds (ps:=["self","place"]) ‹X.a›;let KU:=KA.binds (ps:=["self","game","helper"]) ‹X.a›;let LR:=KC.binds (ps:=["self","many","due","s","coins"]) ‹X.a›;let LS:=KD.binds (ps:=["self","place","said","asking"]) ‹X.a›;let LT:=KE.binds (ps:=["self"]) ‹X.a›;let KW:=KF.binds (ps:=["self","text","row","most_within","most_parts"]) ‹X.a›;let LU:=KG.binds (ps:=["self","within"]) ‹X.a›;let KY:=KH.binds (ps:=["self","signs"]) ‹X.a›;let LV:=KJ.binds (ps:=["self","signs"]) ‹X.a›;let LW:=KK.binds (ps:=["self"]) ‹X.a›;let LX:=KL.binds (ps:=["self"]) ‹X.a›;let fc:=cal Jj (Ad Jj B.len) JW ‹X.a›;let a7:=cal Jk (zZ Jk ) JX ‹X.a›;let o5:=cal E5 (vZ E5 ) JF ‹X.a›;let eO:=cal u8 (sH u8 ) IY ‹X.a›;let fe:=cal A9 (uH A9 B) Jt ‹X.a›;let eE:=cal Ii (vW Ii ) JK ‹X.a›;let e9:=cal ii (kh ii B eE eO) pV ‹X.a›;let ik:=cal m8 (pN m8 B eE e9) IC ‹X.a›;let cy:=cal Ie (vT Ie B ik) JI ‹X.a›;let l9:=cal C4 (uN C4 cy) Jx ‹X.a›;let bj:=cal mY (pO mY ) Iz ‹X.a›;let i7:=cal IF (rj IF B IG bj 10) IG ‹X.a›;let d8:=cal E9 (pA E9 G7 bj 10) G7 ‹X.a›;let dj:=cal m5 (pR m5 ) IA ‹X.a›;let fL:=cal G9 (pq G9 HY dj 10) HY ‹X.a›;let lD:=cal BM (uL BM B.max d8) Ju ‹X.a›;let g9:=cal kZ (oN kZ B.enumerate) Ic ‹X.a›;let jZ:=cal u9 (sD u9 d8) Ja ‹X.a›;let j4:=cal vC (sE vC %[te|qH1 X G ge] o5) Jb ‹X.a›;let l6:=cal B0 (uG B0 B.max) Jv ‹X.a›;let gY:=cal IL (xR IL B.range a7) JU ‹X.a›;let f9:=cal Jl (sV Jl B.len Jm a7 10) Jm ‹X.a›;let fu:=cal v9 (lF v9 y4 10) y4 ‹X.a›;let Ef:=cal Jn (Ab Jn B.len B.max fu) JY ‹X.a›;let kj:=cal y6 (sF y6 B.range) Jo ‹X.a›;let l8:=cal C5 (uO C5 B TG i7) Jy ‹X.a›;let KZ:=‹Cv.p› J1 TG B.tuple B.len lD g9 jZ j4 l6;let K2:=‹EZ.p› Ka TG B.reversed;let K5:=‹Af.p› Kc TG Kb K2 KN fL;let K7:=‹Ag.p› Ke TG B.len;let LY:=‹Ai.p› Ks B T TG Kd K5 KO l8;let K8:=‹Ha.p› Kq B T TG Lo LY LK;let K9:=‹Aj.p› Kn T TG Kb K2 KN Kr K8 KS;let LZ:=‹xV.p› Km B T TG Ko K9 KR;let L6:=‹Fa.p› Kp B T TG l9;let L7:=‹CB.p› Kk B T TG fe Lm LZ LI Ln L6 LJ;let L8:=‹Cy.p› Kl B T TG fe cy Ko K9 KR Kr K8 KS;let La:=‹Cz.p› Kg B T TG;let L9:=‹Ah.p› Ki T;let Ma:=‹Fb.p› Kj T;let dz:=cal mO (pT mO B.range) Iy ‹X.a›;let iq:=cal IZ (Ae IZ ) JV ‹X.a›;let fN:=cal E6 (pB E6 E7 iq 12) E7 ‹X.a›;let o6:=cal E8 (wc E8 B.len dz fN) JG ‹X.a›;let mI:=cal C6 (uM C6 TG o6) Jz ‹X.a›;let o7:=cal Il (vU Il B TG Kd K5 KO dz) JL ‹X.a›;let sg:=cal II (xU II eO) JR ‹X.a›;let fQ:=cal Ir (vX Ir sg) JM ‹X.a›;let Mb:=‹CD.p› Ku B TA;let Mc:=‹Al.p› Kw TA TG;let Md:=‹CF.p› Kx B TA TG;let Me:=‹xW.p› Ky TA mI o7;let Mf:=‹CC.p› Kz B TA TG Lu Me LP cy;let AF:AskF l.prog w K mg base CA CG _ _ _ _ _ _:=⟨Lr,Mc,LN,Ls,Md,LO,Lv,Mf,LQ⟩
 let cM:=cal Io (pz Io Iq TA TG AF fQ 5) Iq ‹X.a›;let Lb:=‹Cu.p› KA TM;let Mg:=‹EY.p› KD B TM cM;let Mh:=‹EX.p› KC B TM TA %[tm|qH1 X G xmo] ⟨asmki,Kv.1,Kv.2,askcl⟩ Mb LM Lx Mg LS;let Y:Ways l.prog w K mg base C CM CG _ _ _ _ _ _ _ _ _ _:=⟨Li,L9,LE,Lj,Ma,LF,Lk,L7,LG,Ll,L8,LH,Lw,Mh,LR⟩
 let MDk:Mk K C _:=%[dbmki,Kh.1,Kh.2|dbkcl]
 let MMk:Mk K CM _:=%[mcmki,KB.1,KB.2|mckcl]
 let Mi:=‹Cw.p› Kt T MDk La KQ;let Mj:=‹Ct.p› KE B TM MMk Lb KU;let Z:Twins l.prog w K mg base C CM CG _ _ _ _:=%[Lq,Mi,LL,Ly,Mj|LT]
 let eZ:=cal v3 (sK v3 B T TM Y) Jh ‹X.a›;let Ix:=cal JE (Cs JE B) Le ‹X.a›;let c8:=cal k7 (oM k7 TG Kf K7 KP Ix) Ik ‹X.a›;let fg:=cal D1 (uK D1 B TG Kf K7 KP) JB ‹X.a›;let dX:=cal km (iU km ko B T TM TG Y Z eZ fg 8) ko ‹X.a›;let gR:=cal IJ (xP IJ T TM %[tr|qH1 X G xmr] MDk La KQ MMk Lb KU c8 dX) JS ‹X.a›;let Lc:=‹Cr.p› KF TS;let Ml:=‹zY.p› KG TS;let Ld:=‹Cq.p› KH TS;let Mm:=‹Cp.p› KJ B TS KI Ld KY;let Mn:=‹Co.p› KK B TX TS;let Mo:=‹xQ.p› KL B TS;let M:Mths l.prog w K mg base CS _ _ _ _ _ _ _ _ _ _:=⟨Lz,Ml,LU,KI,Ld,KY,LA,Mm,LV,LB,Mn,LW,LC,Mo,LX⟩
 let bZ:=cal IH (xS IH B TX) JQ ‹X.a›;let b7:=cal vE (sG vE B TX) Jc ‹X.a›;let eN:=cal C2 (nI C2 Je B TX C3 Jf 8) C3 ‹X.a›;let pe:=cal Id (vV Id B eN) JH ‹X.a›;let jB:=cal q0 (rA q0 pe) IP ‹X.a›;let c9:=cal C0 (nK C0 C1 A0 A3 B TX TS M bZ b7 8) C1 ‹X.a›;let mJ:=cal B9 (uF B9 TS M bZ) Jw ‹X.a›;let fV:=cal m7 (pP m7 B TS M b7) IB ‹X.a›;let j9:=cal vF (sJ vF TX TS M %[scmki,IT.1,IT.2|sckcl] Lc KW mJ fV c9) Jd ‹X.a›;let jt:=cal qG (rk qG B TX j9) IO ‹X.a›;let jA:=cal qF (rm qF B) IN ‹X.a›;let fq:=cal D6 (ny D6 D7 10) D7 ‹X.a›;let df:=cal C8 (nJ C8 C9 IR IS TX TS M bZ 10) C9 ‹X.a›;let jr:=cal rM (rh rM TX TS M ⟨scmki,IT.1,IT.2,sckcl⟩ Lc KW df) IQ ‹X.a›;let iO:=cal n8 (pS n8 B TX b7) ID ‹X.a›;let fZ:=cal jE (mq jE B TX bZ) A4 ‹X.a›;let hJ:=cal vG (sC vG B) Jg ‹X.a›;let hU:=cal ly (oK ly B TX jr) Im ‹X.a›;let mK:=cal C7 (uE C7 TX iO fZ hJ hU) JA ‹X.a›;let mN:=cal D8 (uJ D8 B fq) JD ‹X.a›;let kc:=cal v4 (sB v4 B) Ji ‹X.a›;let MGk:Mk K CG _:=⟨gmmki,J5.1,J5.2,gmkcl⟩
 let u6:=cal IK (xT IK TG MGk KZ KM mK) JT ‹X.a›;let mL:=cal D4 (uI D4 jt jA) JC ‹X.a›;let ph:=cal Iu (vS Iu B u6 mL gR c8 kc) JN ‹X.a›;let fb:=cal Jp (sW Jp B Jq a7 5) Jq ‹X.a›;let pf:=cal Iv (vY Iv B a7 fb) JO ‹X.a›;let E1:=cal Jr (Ac Jr a7) JZ ‹X.a›;let iX:=cal Js (Aa Js B) J0 ‹X.a›;let iY:=cal ou (pQ ou B fc a7 gY f9 Ef kj iX) IE ‹X.a›;exact GZ Lh B TG MGk KZ KM fc a7 gY iY iX pf E1 mN jB gR ph
def walk{l:PySem.W.OpenLaw}{q:Program}{loose:List Str}{XP:(#[9])->Heap->Prop}{YP:World->Heap->Prop}{d:DefRec}{K:Params->PySem.W.Frag}(hn:l.most=some 63)(hdf:d.params.defaults=[])
 (hY:∀(w:World)(h:Heap),YP w h->(K w.params).In h)
 (F:∀(w:World)(mg:#[9])(fa:Addr)(h:Heap),(K w.params).In h->h.Ns mainGlobals mg->mg d.name=some (.ref fa) ->
  ∃fd:FuncData,(∀(s:Shared) (u:Value),BindsTo s fd %[[u]|[]] [("_law_script",u)])/\∀base:Heap,(K w.params).In base->base.Ns mainGlobals mg->FnOk l.prog w (K w.params) mg base CX0 38 fa fd ["_law_script"] (spLaw (K w.params))) :
 PySem.W.WalkO q loose XP YP l.row.toRowW d [] (λf vs=>PySem.call f vs):=
 L2.walk_of (n:=63) (k:=38) (x:="_law_script") (CX:=λ_=>CX0) (sp:=λw=>spLaw (K w.params)) hn ⋯ hdf %[1,1,4|4] hY F (λ_ _ a ns hl _ hS=>%[a,ns,1,hS,hl|λ_=>rfl]) λ_ _ _ _ _ z=>z
end Mine
namespace PySem.W.Fast
example:="9OF3xEmqth17IBU7xKIO1SKC1wUsF8h930k2UJAwYrIhF6dg9SRXqqF0g0V3EAOyqV1jgKzSPYTZxI4uov52kbigF3z73Rpac3TBkqoeY4FI59AeXUBeT07661ruxUUb7FE5Hfegc1wiqka7WKXEEq3a925IakCqILPu7Dh1dbCpn46gHw6FSveVwnNG5uchlJ6v1H7f15B5pxNEp38iKmCaJ2nL4y2dBFrtItuFag0wkJhcEjFPFL2pKoBds754exX61otE3x6nZcLVn9YEgXN1hGy6br6ehJQMG8XL19WQEXmzRYhZCXidCq33qmn3rzmitv4Dm9IjasSISUCv47d4J3NvJkh0C8OcpUJmDWA5LMCz96I3sy6qBbQjaFOQwKqABi2umf0C4L7tFDr63Rv4zqLrSaEdZUIIHmoWPKsYqKWrooSl12RdG55tsaOQhIQF63wqvDPfOtDfRYZGRZRBmFE8zzekWHDL9NGJ758bmI1IlwarXTCBfQ5OrMyLGPJ9F04CNAAtHBEfIFl30KqiWwH2oLJw6oxwX9In51z7eaboC6uxY6neW0hyLEXFp9kYMP99aLu0OqoiwT4Rx2c1WjLx6KXXgV0dZAix8BhEfMdvEJMELMIk5WHJqZ41MKKmJEyEJAKACBTSgNeS3TLaIL7QHRKFQQfP692yaoIesNhGrryor4VfClcqrQhd2IlC8gIBbfD3dIASGKtUkU3yJQbjiwsqg85r3RPyFZxSHy9v70ROWvxEN8ijWpEI4mFRXc4ymntP7IfmoAjXmSNL2LHt4rGOhwBKcHDlqxbiojCW2UYIkMxphGF5lKppDf5HJYhA91GkLOO8QgBx3BccuK2anhQNHCGGa6SecYEcVHheHN2gPnrRqMD26FIlD69EQ7DxGpNYA3MpNDiTM5M7XJHk7MniFzBHtjc4wKM0TPYIRd5klDQY6suWwGYp97rqw4Az4EdUx1qUr6xDyXWQwvmsT5KPvpJSlttlGJD1sUzVRPw79SOr0UXo60oEkpNpXjMiWSIywqw7bCHS02Fbbw4Um53CLuviTuzg0Av3PA8XDKcuvLGAmp0cf5OAVD2TuvxkNBEZ3uCRX1eC5GxKbJuZH1Xz93GEnkZnzKByy3imrXKAdTaMIlimk636IbQCnO2yqDXFs6GpWMe4ZkGAlHG6FOt9gvhs9gonRoV3aiwEu1QdQhVWHqKJEvEudVCfQ5v0QVxQat37HWKuDoSH5jl3WtcCJ2tr4vJC3j7aGN7TxFhScnlVqbNd4o6wWBEGM2m3Eb8t3n3kKhGmtLoP8z55x9PPAd418st2DzNia20KtArG6QG53FKgK60wCAm3UevIM7wQglmy0KQGDf57qJyaChrE4S8ooGZ6Zu928s9nKx4ELJ87qMfQCo9L9PC1iYzH7OXBC4eDjKhHSAGcHrQehk5aUJ2iQPThY0ul5L171EEf65v6YCElhOrUAX0mk0COZP2oQIyKsPdoQADD4iVEwwLVaCK3N4dEu9YeQBA60I6oVmAu13WzfvWgXrt12xHXJi7zLah0jBGs04DbwwEdL8x7MWlpvK4bWVJOEQVrJvLi9aSrWAzBkG4JCQJ5pYJZGyusKw9MxCpUIns4Ertt22EhpjptdVxLHlAvxy36LrC1IlcHD6pgp8WoDmwOtND0ALTMbqB3WEkFp9xyOSsNsY2qmDlDvMQ3h9b7G5Nm5XFJ9VvSY2X0oIbKQ5KSjQNy4hJD52jr0DxIU8GvJfNnRr02J0hls96SIL4Hfs9IDVsr6B74L5q3BS9wIJN8QBeY1M3G8kwQEMBglnv52XBDSO8EKP9sgPX3h2myjBQaumN2WXvoEekRoRt7k8VGLefTOg9uFfKkpJ3T9H5LNLq9VKJh5FaQ10Pa7ZXZeMC4SEwZcYM07ILInhcb3V5dWEv5r1Cyju6CKYM4nPAZBC40VSLUwbquBlID7xW6qcfjJ57yTuLL8g7aHAPRGDNuW7MH6APw8a7A7TIWPpsyJROkG7fCGv7Pu6z33XGHVuw2BUl0awvGeo0YBAIdPbAbvwLRJGfs4cC7QViIHpZNuBp9Dq3GZDFypN7zOm70tlH7x0ngL6Pvg80CO31QEzfQoI2WqbiC7okbK55xzG7THC1Fj5cgzKG24SDMXE7MCXNicNTsctjEJ7hebzqMSq7rSf3JytvSQBgOhTFFb7qA8iFUrvHEytN2AmU2C0nIl2KvohmdivcLn1opVRJSFkSUAeuuqjOYu9Q8fC47MVCWQIC6tA70HwrYODxoTeY34ufpBeIlyLBt1HiL4LrgDdEhKe7DHkYYRTPEE6NVSbgCvVuo0hTaUQWKz9i07RVmopYta23aV5xVDHqgTB4048lXzAbx2JPG1R5LQBo5wSlEKx4Nuo32Gu6L6itmxI8gQD4YgAbT8tM5ZHtKKa2Dsct2uQDpTTFFsllB3nNfC9pSvjtR7ycO065PV05D26F89J85o4j9bx06pMtT2Bqyl1MTokh82loSCmAv7w9bShdEdl4BtIWWoa7Bdcr8l4zCTJEoDf7CZ7K1C9CStMHwJMv0am7VCn7BntLOpBtNhKV8QFa62fXGYwEe3WNWuM2c4N9IkJIiCBjGVC8YsFiAe0zlL0EEX3qvGm5d0jieDoPNzdb4PxqpJYwBSrIu21YCNegdQH7Ph9RRw0g23CaTlxH8slm1pEGX2AhKmr52RRoBAyjx3D2DlXWVL2XHDxzffUoq6TU1Pvs9dneeCEJz8zxITztsGE80FZum8WX81mlzFbnIrMd3Cn98yhPrn4HXRpOwe5OkgBNYRcWC6uZ62c670qtiySNKnDmzownERG3fcnErlcTl79pVXQqPzkR0530J0FS7C8NIPsd9uSb5zWDTnGkXLcK0K9ih6z4O68dzDRKoSSxHUyj4zOn0g3tR5mKuzDhIlS2ncHzmpJNWzAK2AAKt0HGfihU0g5tOdKQayV7aKe7jTy6Qc5Cn9leGTtBJBh04dkizI4cDSGBANNz6e8HaiobEW7OCuBiIzEVTYGu71wcb4T5zodOJET1HPI08925k0k7h4HX4n3zeUvcU2Veq8qiWMwsB66KF06Z6X8kBmWDj3xJC0iIOGG6PqwyoBIquGGrMLgd3OLmIzuQBdBedQfAR7bGKqPMKMD1L4DVMVadr4qCZHXWha8oJfZ8kUTJA9x94Goi4uZapXI4F0z0jzGWC0C93yOBs51hEsDO9OHASX9J5Q08tDAwDF9A7Key6B7iB1Kk1sNkLboY0cPESnFEoSu1TQ0U4k7QMZGpC0QeMZxGx9mD9HygcHjd8f49Dcfh0vlG2v9dBAkxPDBranGrMsNsmLx4NbWOrPla6fu8ygr0xMQ4GWtvMl50nXBYAokIcWP5F7eCafd3StK9HsrhXhpU8V0C3tFOHfFa2ICoYXamk4yDqFwKwIyqhPa8KUy1JSakCPzJolCJsWCSyj160qxSOoZoV2SmMf4brOoY7KvIh40m2WKKMFaSnUJywEC3GYzgLETMXHPbYQoSaOj4BJsiC95Lu4P550sglVvqxTHOiC4l9qY7MDjlEH3XkDHj0rPOte8Nh9g5DdKBtamJ6wI9OiTxqlk6KKdwQbI3ow2H7McCUOplWTkAF7fQDyl26f5KT5KiiCeqjItU8DdiXeiWH7Fhbj9elApJjpuJrCQTs4H5OMt7k1PMmBrG6ICDKGDPDxcvTvV72geDqR9ojj9uqtBg2ZbQeauFRGkYe94GLFMiJKLsf1ajo0wIDArmMHhY1f5pHN1sdhoVKByTbya8gdfcBbutl40xKWCLkMDsugXhob57vL1zLZUfl3iYQUTuQgG7FbLkOnxYNOI8OEz5Scy1odAD3UlCBoArL8VIyG7jA0Q627KdUZpS1hA9eYdquydTXfAOemsmHf708LPqXqSS9dem8vPaGEjAvu9HlCx6ICrNX207c7ZmNsMknGuy9G3rv1Sk1IKLXDAL2gKAoYGnLUDP4k9lPrgw41VDb9fyATe6nRGT1hSxQgsjQhIJJ3WxyxfKG3JVjkMATWAKB1D6hLVDBPAcFeWbxCwZgKALRCw1OVpP6aJj3oUS5fFhGBzCS2dcz7mNCuKzkh6OZMpGWVBnqhbRY2AMe1gbQM8bYA9soeoehaje0fDXgA6QCZV9DhtzDKjQSf1E7SVu3NSZrDS1yat6aUoa2v4AjLuNo0WHrtoDwDWtDaHLTwWX3n1niICDMh1mBWop4Ki69VcAsyFFLnZ4rQ2GjP5PXmuI1vP7Z9TTE22pitEv1bJ8ZG6IwUB3WpwV5VImPTBKO1oliuVmZDlqZpqmpv9C0OLQWienMMoF2BR8C6T31aDGOwfAKEDeaGihIhsStr8eLGD0f13s7pmDlrucGQigRtGBMgpoHGKLH51TfCoR5l2i74at7W1R1WfKkWsrjlBejlJOhTogJL4b4ExByPfC2ka1IJ9LXaSwhcu3IY5e09MZIzJ7NLa7BDjdZHDdivzYqGIq3GLXiQDNRtl8C9c0b7Sgr7HNiyovgtHZFAs6ceFpNOIXGUGi19Tj5cDCephi8c8clR06zSEeKtonvFEwea7mvA3IGu26h0O1ffKBCQb5CcmG4sJY3G48jLTmyAMLrnROSDRjDEZyaYwRqnN7BCGbNhQyyq32IBPu2WZZa8BOnx6BOozZ35xQmL4utCS0eozHDXYaqfDNzpnjMML7uFHQ5Ecv71MnD1XL7qqQ2Bs8Z71B53EzwR8LLdluwH8klDKYrubXiySy3sLSoWctWj937IwOMg4aLq8ez53qSDX0aIs5181gDqOoBu3p9etfitd9DYvY7p8KLNGBMbuDltZGz23DjWeFsR5fKXFNms5ZEr32qOkW0KiWip9d37aSJyPD3GwblBGffjO018iNLIKIcwJ2ZORSMds2XI9nxk2DiBINd5cW5CEJ7iij8LQOdsxdmaF7XayAuQyrWxIE5F81AqAmYC9PJhilaAy87zuW4Caa8MkC11uUNN7BPy4vuj7uqXSX67xP2Vffuqd6D353QU1iyRU3XJ28rXKGVJIAzvtua3CEO1ZBsMzZhhz4BahBUUDV3C6HR0XxuLgqDvIwIMZRlcumNGIneWVZYpY4DgJ04tLxB298adiNWgZ7HS6Gh2EW4tAoSCFrzfPY7MUCFlEOXq11u9qBNvKIbcQqkF98m1DHRG5QO5sLMn43JPwe35g5MQRwNKzCESvn0NGJ8SAiNbUVH37Ow8gu4QCi91TC7G3ZuKRkap7JstIA8HD8TcIklff1wb84p80iPManeSyNHNwe9EVDd5SHLj82qtpRMf9pJWEpK6GEj3pCtbPs6ZGa2395KirUTj9H5mpVCCWSsRFxAmOPeqwLn8XjvBHdFUTL5L4YR6GoybO5s1fXt5kNC465mHqFMGECu8liTPvUBAbi0vWcwo7Agdg3YajO5od9fw8WQjgwznK030tNjVOxqGyR8FYaqVCd2UPL51Z54hEcF5LuBU8E7EwEZ4QjsvesYvi52FDkZVgFn9HA6EfjW8zEIEEk0EauaDaT0LVWXjgrRklB8aEAnBDnluF43daiqUOLQKCJhBoVLCiTJHw6NQpBcIfI5T8AN8zr1qLBWDDVvYqlmo4alhCCtnEPnIsiYrC0ZNJFDzP1csorM89AQYQKYO0VlU9jBho8Wcr4x6WpGxYaO1Gn68kSOtsMlqJLmHcgFCbMxpLCSz0Jd6JPeHC776AIDOJo73wIvpgrESZ91vlarTcbNA5iWY4WkwuGfEx1yJhS4JRt25TuXSha5677PsPyvXyg2J0BmC44Fp01JG1PNwa8hSvZLJm0A0NM9Wx5mVCAcJ40ux2TZttDWkA7j0fDcBbZs3tVF17JsMYBMqS5x3HRqj2iFRCCePBgtvq6oB6LVLqcTSwE3IlBxefmvmL2BhUA638p49DVx5xQwRxThCzonNccS9nh5pjB6dZRKu0KBQKVMu31pPKxD3Q88THFaHm3rEu5YSq13ilcT99XEIc9ayeG6uCePFGvdBhppMCZF0ZQ9mNfd82I55uJ4XJLq8gAy9kV4zO7gDLwvAwiCs1ly5aSyn4qZTTW9MzKA4usupA7lw0ZMJlleZ6WEAVctkJ4oKxo8wQH1j0PKzsSJTDZTwm0skjYDVIiaPC95nSHyCioU2j9z7AEAc2i1R2Qu3JdM0O4yASG3E1wzX4D2tKMImG3cCoeL8vJS83VEBMq8Kv2pwq3Pt3KCsEywM6ifez2qUTYOAfjG93qR9usLOdoSvzi3zGLou9JPzP9aa2gsWLNvD76JATnQEj5Egp52UDmQdBtnjwF8v46jDWQgB6VYEU2xO8vjJ7peU8WfoYw7SV03lZyhuaF93Fyag2Kxn7CEQgVmE6V3BLmXmxCFi0x8HpstlWeSczJrprhbRqbaS3oIzEagFWoILrhLlYVyJVC8dfv6GRYi9A0doI31ezedBDGba1OKtMYjJsSfr6SWPYvADOYqQAhB0vEoNksq4NPD8K3bKxmj7gGyAGvydAulwC50qLe14bQ3y8DNfk7IeZa4lGe2OOkGWhkpBiR97V89TbjDNVX6Ua42dv114IYYS3qrKGAItebdNxw3"
end PySem.W.Fast
open PySem PySem.W PyProof.Rows
set_option maxRecDepth 100000 in
set_option maxHeartbeats 0 in
theorem PySem.Challenge.cw_asktally_k76_weighed_at_the_desk_holds : PySem.Challenge.rw_asktally_k76_weighed_at_the_desk.Holds := by
 w_on; o_law; k_head; (case hw=>w_witness2)
 k_fill
 apply Mine.walk (l:=PySem.Challenge.rw_asktally_k76_weighed_at_the_desk) rfl rfl (λw h Y=>PySem.W.kIn_of Y) ?F
 case F =>
  intro w mg fa h KX G hmg
  refine' Mine.all_mk KX G hmg ?aL ?lL ?cL ?kL ?h0 ?h1 ?h2 ?h3 ?h4 ?h5 ?h6 ?h7 ?h8 ?h9 ?h10 ?h11 ?h12 ?h13 ?h14 ?h15 ?h16 ?h17 ?h18 ?h19 ?h20 ?h21 ?h22 ?h23 ?h24 ?h25 ?h26 ?h27 ?h28 ?h29 ?h30 ?h31 ?h32 ?h33 ?h34 ?h35 ?h36 ?h37 ?h38 ?h39 ?h40 ?h41 ?h42 ?h43 ?h44 ?h45 ?h46 ?h47 ?h48 ?h49 ?h50 ?h51 ?h52 ?h53 ?h54 ?h55 ?h56 ?h57 ?h58 ?h59 ?h60 ?h61 ?h62 ?h63 ?h64 ?h65 ?h66 ?h67 ?h68 ?h69 ?h70 ?h71 ?h72 ?gmc ?dbc ?asc ?mcc ?scc ?Lg ?gmmM ?gmmW ?gmmC ?dbmI ?dbmW ?dbmU ?dbmH ?dbmT ?dbmC ?dbmB ?dbmR ?dbmG ?dbmE ?dbmN ?asmI ?asmP ?asmC ?asmN ?asmR ?mcmI ?mcmS ?mcmR ?mcmN ?scmI ?scmE ?scmS ?scmT ?scmW ?scmF ?u7 ?gmn_trees ?gmn_field ?gmn_degrees ?dbn_game ?dbn_awaited ?dbn_claims ?dbn_s ?dbn_heard ?dbn_tossed ?dbn_held ?dbn_places ?asn_game ?asn_number ?asn_many ?asn_held ?asn_s ?asn_tossed ?asn_truths ?mcn_game ?mcn_helper ?mcn_next_round ?mcn_boxes ?scn_text ?scn_row ?scn_most_within ?scn_most_parts ?scn_place ?scn_parts ?g1 ?g3 ?g5 ?g6 ?g7 ?g8 ?e1 ?e2 ?e3 ?w1 ?w2 ?w3 ?j5 ?j6 ?j7 ?j8 ?q5 ?q6 ?q7 ?q8 ?p5 ?p6 ?p7 ?p8 ?r2 ?r3 ?r4 ?r5 ?r6 ?r7 ?r8 ?v5 ?v6 ?v7 ?v8 ?xmr ?ge ?xmo ?z0 ?z1 ?z2 ?z3 ?z4 ?z5 ?z6 ?z7 ?z8 ?z9 ?z10 ?z11 ?z12 ?z13 ?z14
  case aL|lL|cL|kL=>k_is
  case h0|h1|h2|h3|h4|h5|h6|h7|h8|h9|h10|h11|h12|h13|h14|h15|h16|h17|h18|h19|h20|h21|h22|h23|h24|h25|h26|h27|h28|h29|h30|h31|h32|h33|h34|h35|h36|h37|h38|h39|h40|h41|h42|h43|h44|h45|h46|h47|h48|h49|h50|h51|h52|h53|h54|h55|h56|h57|h58|h59|h60|h61|h62|h63|h64|h65|h66|h67|h68|h69|h70|h71|h72=>exact%[_,by k_is,_,%[_,_,_,_,_,_,_,_,0,by k_is|by k_is]|by k_is]
  case gmc|dbc|asc|mcc|scc=>exact%[by k_is,by k_is,by k_is,by k_is,by k_is,by k_is|by k_is]
  case Lg|gmmM|gmmW|gmmC|dbmI|dbmW|dbmU|dbmH|dbmT|dbmC|dbmB|dbmR|dbmG|dbmE|dbmN|asmI|asmP|asmC|asmN|asmR|mcmI|mcmS|mcmR|mcmN|scmI|scmE|scmS|scmT|scmW|scmF=>exact%[_,by k_is,by k_is,_,%[_,_,_,_,_,_,_,_,0,by k_is|by k_is]|by k_is]
  case u7|gmn_trees|gmn_field|gmn_degrees|dbn_game|dbn_awaited|dbn_claims|dbn_s|dbn_heard|dbn_tossed|dbn_held|dbn_places|asn_game|asn_number|asn_many|asn_held|asn_s|asn_tossed|asn_truths|mcn_game|mcn_helper|mcn_next_round|mcn_boxes|scn_text|scn_row|scn_most_within|scn_most_parts|scn_place|scn_parts=>delta Mine.HF; k_is
  case g1|g3|g5|g6|e1|e2|e3|w1|w2|w3|j5|j6|q5|q6|p5|p6|r2|r3|r4|r5|r6|r7|r8|v5|v6|xmr|ge|xmo=>k_is
  case g7|j7|q7|p7|v7=>decide
  case g8=>exact Mine.kept_vals
  case j8=>exact Mine.sign_vals
  case q8=>exact Mine.ask_vals
  case p8=>exact Mine.plain_vals
  case v8=>exact Mine.join_vals
  case z0|z1|z2|z3|z4|z5|z6|z7|z8|z9|z10|z11|z12|z13|z14=>delta Mine.HZ; k_is
