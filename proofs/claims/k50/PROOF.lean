import PyProof.Rows.All
import Wide.All
import OpenK.AllK
import Wide.FinOn
import Lean
import PyProof.EqAt
import PyProof.EqKinds
import PyProof.TupleCall
import PySem.Challenge.RW_asktally_k50_whole_talks_judged_again
set_option Elab.async false
set_option linter.all false
set_option maxRecDepth 100000
set_option bootstrap.genMatcherCode false
set_option compiler.extract_closed false
local macro_rules|`(%[$xs,*|$y])=>do
 if y.raw.isIdent then if y.raw.getId==`List.nil then Lean.Macro.throwUnsupported
 if y.raw.isIdent then if y.raw.getId==`aQ then return←xs.getElems.foldrM (fun x a=>do match x.raw.isNatLit? with|some _=>`($(Lean.mkIdent `ae) ($(Lean.mkIdent `pv) $x) $a)|_=>`($(Lean.mkIdent `ae) $x $a)) y
 let h←`(_);let r←`(rfl);let q←`(?_);let a←`(by omega);let b←`(by decide);let i:=Lean.mkIdent;let u←`($(i `ay) ($(i `neS) $b) ?_);let c←`($(i `T.cl))
 let o:=(xs.getElems.push y).flatMap fun x=>match x.raw.isNatLit? with|some 0=>#[h,r]|some 1=>#[r]|some 2=>#[h,h,r,r]|some 3=>#[a]|some 4=>#[b]|some 5=>#[r,r,r,b,r,b,b]|some 6=>#[q]|some 7=>#[u]|some 9=>#[c]|_=>#[x]
 `(⟨$o,*⟩)
local macro_rules|`(tactic|let%[$xs,*|$y]:=$e)=>do
 let g:=fun(f:Lean.Term->Lean.MacroM (Lean.TSyntax `rcasesPat))(t:Lean.Term)=>show Lean.MacroM (Lean.TSyntax `rcasesPat) from do
  match t with
  |`(%[$xs,*|$y])=>
   let p←(xs.getElems.push y).mapM fun x=>do let p←f x;`(Lean.Parser.Tactic.rcasesPatLo|$p:rcasesPat)
   `(rcasesPat|⟨$p,*⟩)
  |`($i:ident)=>`(rcasesPat|$i:ident)
  |_=>if t.raw.isNatLit?==some 1 then`(rcasesPat|$(Lean.mkIdent `rfl):ident)else`(rcasesPat|_)
 let p←g (g (g (g (g (g fun _=>`(rcasesPat|_)))))) (←`(%[$xs,*|$y]))
 `(tactic|obtain $p:rcasesPat:=$e)
local macro_rules|`(tactic|erw[$xs,*]$[at $h:ident]?)=>do
 let o:Array Lean.Term:=xs.getElems.map fun x=>⟨x.raw[1]⟩
 let l:=o.back!;let o:=o.pop
 match h with|some h=>`(tactic|let%[$o,*|$l]:=$h)|_=>`(tactic|refine %[$o,*|$l])
local macro_rules|`(⋯)=>`(by decide)
local macro_rules|`(#[1])=>`(λ _ _=>rfl)|`(#[2])=>`(by simp)|`(#[0])=>`(by omega)|`(#[$f:ident,$i:num,$s:ident,$e])=>`($f (i:=$i) ($s).nd rfl (Or.inl rfl) $e)
local macro_rules|`(tactic|exists $x:ident)=>do
 let i:=Lean.mkIdent
 `(tactic|refine $(i `F.ok) $x (fun _ _ _ _ h=>by cases h;subst_vars;rfl) (fun $(i `cdv) $(i `A) $(i `outer) $(i `s) $(i `H) $(i `vs) $(i `Q) $(i `E) $(i `hr) $(i `h)=>?_))
local macro_rules | `(tactic|omega)=>`(tactic|first | lia | omega +splitDisjunctions)
local macro_rules | `(command|def $n:declId $s:optDeclSig $b:declVal)=>`(command|noncomputable def $n:declId $s:optDeclSig $b:declVal)
local macro_rules | `(tactic|decide)=>`(tactic|decide +kernel)
local macro_rules | `(tactic|rfl')=>`(tactic|with_unfolding_all rfl)
local macro_rules | `(tactic|ac_rfl)=>`(tactic|(intro _ _ _ _ _ _ us hl;rcases us with _|⟨a,_|⟨b,_|⟨c,_|⟨d,_|⟨e,_|⟨f,_|⟨g,_|⟨h,us⟩⟩⟩⟩⟩⟩⟩⟩<;>first|rfl|(simp at hl)))
local macro_rules|`(#[$n,$f:ident,$d:ident,$p,$s])=>let i:=Lean.mkIdent;`($(i `FnOk) $(i `P) $(i `w) $(i `K) $(i `mg) $(i `base) $(i `CX0) $n $f $d $p $s)|`(#[$n,$x:str,$p,$s])=>let i:=Lean.mkIdent;`($(i `Cal) $(i `P) $(i `w) $(i `K) $(i `mg) $(i `base) $n $x $p $s)
local macro_rules|`(‹$x:ident›)=>return Lean.mkIdentFrom x (x.getId++`heap.objs.size)
local macro_rules|`(#[3])=>let i:=Lean.mkIdent;`($(i `CompScope.one) (by rfl') ⋯ rfl ⋯ rfl ⋯ (by rfl') (by rfl') (by rfl') rfl rfl)|`(#[4])=>let i:=Lean.mkIdent;`($(i `CompScope.two) (by rfl') ⋯ rfl ⋯ rfl ⋯ (by first | exact Or.inl rfl | exact Or.inr rfl) (by rfl') (by rfl') (by rfl') (by rfl') rfl rfl (by rfl') rfl rfl)|`(#[5])=>let i:=Lean.mkIdent;`($(i `CompScope.closed) (by rfl') ⋯ rfl ⋯ rfl (by rfl'))
local macro_rules|`(tactic|exists $n:num,$xs,*)=>do
 let i:=Lean.mkIdent;if n.getNat==4 then return ←`(tactic|intro $(i `Jx) $(i `s) $(i `σ) $(i `H) $(xs.getElems)*)
 let i:=Lean.mkIdent;let a:=xs.getElems;let mut r:Array (Lean.TSyntax `tactic):=#[]
 for k in [0:a.size/3] do
  let z:=a[3*k+2]!;let v←if n.getNat==1 then`($(i `aW) $(i `X) $(i `G) $z)else`($(i `cO) $z)
  r:=r.push (←`(tactic|let%[_,_,$(a[3*k]!)|$(a[3*k+1]!)]:=$v))
 `(tactic|($[$r];*))
local macro_rules|`(tactic|exists 3)=>let n:=Lean.mkIdent `no;`(tactic|refine ⟨fun vs H Q E h=>absurd h ($n vs H Q E),fun A outer s H args us vs Q E _ _ _ _ h=>absurd h ($n vs H Q E)⟩)
local macro_rules|`(command|instance $n:declId $s:declSig:=$v)=>do
 if v.raw.isNatLit?==none then Lean.Macro.throwUnsupported
 let i:=Lean.mkIdent;let b:=s.raw[0].getArgs
 let c:Lean.TSyntaxArray ``Lean.Parser.Term.bracketedBinder:=b.map (⟨·⟩)
 let a:Array Lean.Term:=b.flatMap fun x=>x[1].getArgs.map (⟨·⟩)
 let o:=v.raw.isNatLit?==some 1
 let r:=Lean.Syntax.mkApp ⟨n.raw[0]⟩ (if o then a++#[i `vs,i `H,i `Q,i `Jz]else a)
 let t:Lean.Term←Nat.repeat (fun (g:Lean.Term->Lean.MacroM Lean.Term) (t:Lean.Term)=>show Lean.MacroM Lean.Term from if t.raw.isOfKind ``Lean.Parser.Term.forall then do return⟨t.raw.setArg 4 (←g ⟨t.raw[4]⟩)⟩else if t.raw.isOfKind ``Lean.Parser.Term.arrow then do return⟨t.raw.setArg 2 (←g ⟨t.raw[2]⟩)⟩else`($t->$r)) 60 pure ⟨s.raw[1][1]⟩
 let m:=i `mk
 if o then`(command|inductive $n:declId $c* ($(i `vs):ident:List $(i `V)) ($(i `H):ident:$(i `Hp)) ($(i `Q):ident:$(i `VK)) ($(i `Jz):ident:$(i `XK)):Prop
 |$m:ident:$t)
 else`(command|inductive $n:declId $c*:Prop
 |$m:ident:$t)
local macro_rules|`(tactic|let $d:letDecl)=>if d.raw[0].isOfKind ``Lean.Parser.Term.letIdDecl then`(tactic|have $d:letDecl)else Lean.Macro.throwUnsupported
local macro_rules|`(let $d:letDecl;$b)=>`(have $d:letDecl;$b)
local macro_rules|`(command|example:=[$xs,*])=>do
 let a:=xs.getElems;let i:=Lean.mkIdent;if a[0]!.raw.isIdent then
  let c:Array Lean.Command←(Array.range (a.size/2)).mapM fun k=>do
   let x:Lean.Ident:=⟨a[2*k]!⟩;let y:=a[2*k+1]!
   if y.raw.isIdent then`(command|abbrev $x:ident := @$(⟨y.raw⟩):ident)else if y.raw.isOfKind `«term[_]» then`(command|abbrev $x:ident : List PySem.Str := $y)else if y.raw.isNatLit?.isSome then`(command|abbrev $x:ident : $(i `Stmt) := $(i `top) $y)else`(command|abbrev $x:ident : $(i `Stmt) := $(i `bp) $(⟨y.raw[0]⟩) $(⟨y.raw[1][0]⟩))
  return Lean.mkNullNode c
 Lean.Macro.throwUnsupported
local macro_rules|`(command|example:=$t:str)=>do
 let l:=t.getString.toList
 let c←(Array.range (l.length/11)).mapM fun k=>`(command|noncomputable def $(Lean.mkIdent (.mkSimple s!"tw{((l.drop (11*k)).take 11).foldl (fun a c=>let n:=c.toNat;a*62+(if n<58 then n-48 else if n<91 then n-55 else n-61)) 0}")):ident:=())
 return Lean.mkNullNode c
local macro_rules|`(#[6])=>let i:=Lean.mkIdent;`($(i `Value)->$(i `Shared)->Prop)|`(#[7])=>let i:=Lean.mkIdent;`(List ($(i `Addr)×$(i `Obj)))|`(#[8])=>let i:=Lean.mkIdent;`($(i `Inv) $(i `X) $(i `Jx) $(i `σ))|`(#[9])=>let i:=Lean.mkIdent;`($(i `Str)->Option $(i `Value))
local macro_rules|`(#[$e,0])=>`(by simpa using $e)
local macro_rules|`(tactic|exists 5)=>let i:=Lean.mkIdent;`(tactic|(intro $(i `X) $(i `hP) $(i `hw) $(i `hK) $(i `hc) $(i `i) $(i `Jx) $(i `s) $(i `σ) $(i `H) $(i `E) $(i `I) $(i `hf) $(i `st) $(i `hg);subst $(i `hP) $(i `hw) $(i `hK)))
local macro_rules|`(#[$x:str,$s:ident])=>let i:=Lean.mkIdent;`($(i `Fun) $(i `K) $x $x $s $(i `f) $(i `fd))|`(#[$x:str,$y:str,$s:ident])=>let i:=Lean.mkIdent;`($(i `Fun) $(i `K) $x $y $s $(i `f) $(i `fd))
local macro_rules|`(tactic|apply $e)=>`(tactic|refine $e)
local macro_rules|`(‹$x:ident›)=>do
 let i:=Lean.mkIdent;let n:=x.getId
 if let .str m "p":=n then return←`($(i m) (P:=$(i `l.prog)) (w:=$(i `w)) (base:=$(i `base)))
 if n==`X.a then`(by ac_rfl)else if n==`X.w then`($(i `wpAny) ($(i `model) $(i `X.prog) $(i `X.w)) $(i `X.A))else if n==`w.A then`($(i `wpAny) ($(i `model) $(i `prog) $(i `w)) $(i `A))else if n==`Tk.s then`(($(i `Tk.new) $(i `ts)).said $(i `ns) $(i `ts) $(i `p) $(i `rows))else if n==`Tk.a then`(($(i `Tk.new) $(i `ts)).ask $(i `ns) $(i `ts) $(i `p) $(i `rows))else Lean.Macro.throwUnsupported
noncomputable section
section
open PySem PySem.Spec PyProof.Rows
def Jy.{u}{c:Prop}{h:Decidable c}(hc:¬c){α:Sort u}{t e:α}:ite c t e=e:=if_neg hc
abbrev zD0:=@wpAny_bind
def JB.{u}{c:Prop}{h:Decidable c}(hc:c){α:Sort u}{t e:α}:ite c t e=t:=if_pos hc
example:=[zF0,List.length_map,zH0,Nat.le_refl,zI0,wpAny_pure,zK0,List.map_append,zL0,List.length_append,zM0,Nat.le_trans,zN0,List.size_toArray,zO0,Heap.lt_size]
def zP0.{u}{α:Type u}{a b:α}(h:a∈[b]):a=b:=List.mem_singleton.mp h
example:=[zQ0,Nat.zero_le,zR0,Heap.get?_push_of_some,zS0,List.getElem?_eq_getElem,zT0,Option.some.inj,zU0,List.length_cons]
def zV0.{u}{α:Type u}{a b:α}{l:List α}(h:a∈b::l):a=b∨a∈l:=List.mem_cons.mp h
example:=[zW0,List.mem_cons_self,zX0,List.getElem?_map,zY0,Bool.false_ne_true,zZ0,List.map_cons,qA0,Heap.get?_push_size,qB0,Nat.ne_of_lt,qC0,Int.emod_nonneg]
def qD0.{u}{α:Type u}{l:List α}{i:Nat}{a:α}(h:l[i]?=some a):∃h:i<l.length,l[i]=a:=List.getElem?_eq_some_iff.mp h
example:=[qE0,Int.emod_lt_of_pos,qF0,List.take_length,qG0,List.mem_of_getElem?,qH0,List.take_add_one,qI0,List.length_take]
def qJ0.{u}{α:Type u}{a:α}{s t:List α}(h:a∈s++t):a∈s∨a∈t:=List.mem_append.mp h
example:=[qK0,List.mem_cons_of_mem,qL0,Nat.lt_of_lt_of_le,qM0,Nat.le_succ,qN0,List.length_singleton,qO0,List.getElem_mem]
def qP0{α β:Type}{f:α->β}{x:Option α}{b:β}(h:x.map f=some b):∃a,x=some a/\f a=b:=Option.map_eq_some_iff.mp h
example:=[qQ0,List.getD_eq_getElem?_getD,qR0,List.mem_append_right,qS0,Int.toNat_natCast,qT0,List.length_range,qU0,Nat.lt_irrefl,qV0,Int.emod_eq_of_lt,qW0,Int.mul_le_mul_of_nonneg_left]
end
section
open PySem PySem.Spec PyProof.Rows
example:=[zB1,PySem.boot_len,zC1,PySem.F.plainAttrs_list,zD1,decide_eq_true,zE1,decide_eq_false,zF1,Nat.succ_le_succ,zG1,PassesOwn.never,zH1,PySem.F.slot_list_append,zI1,PySem.F.type_list_append,zJ1,Nat.lt_of_le_of_lt,zL1,List.getElem?_append_right,zM1,List.length_nil,zN1,PyProof.Rows.callWith_type1,zO1,List.getElem?_append_left,zP1,wpAny_callSpecial?_slot,zQ1,wpAny_newObj_type,zR1,of_decide_eq_true,zS1,PySem.F.plainAttrs_str,zT1,Array.length_toList,zU1,List.length_replicate,zV1,wpAny_truthy_bool,zW1,PySem.W.kia_one,zX1,wpAny_ite_split,zY1,wpAny_field,zZ1,PyProof.Rows.boot_max,qA1,W.mg_none_of,qB1,Int.le_refl,qC1,Int.eq_ofNat_of_zero_le,qD1,wpAny_call_entry,qE1,PySem.mem_of_lookup,qF1,PyProof.Rows.slot_tuple_getitem,qG1,List.replicate_succ,qH1,wpAny_holding,qI1,List.sum_cons,qJ1,Calls.spliced_cons,qK1,wpAny_Call_Name_kw,qL1,List.mem_singleton,qM1,Nat.lt_succ_self,qN1,Bool.and_eq_true,qO1,F.slot_tuple_iterator_next,qP1,F.plain_max_loop,qQ1,wpAny_of_eq,qR1,W.mg_of,qS1,wpAny_passesOwn,qT1,Calls.spliced_nil,qU1,List.append_nil,qV1,List.flatten_cons,qW1,wpAny_getItem_str_slice,qX0,Str.cps_append,qY0,wpAny_seqItems,qY1,Calls.callWith_builtin,qZ0,wpAny_pyIter_tuple,qZ1,PyProof.Rows.boot_isinstance,jA0,builtinLookup_eq_fast,jA1,Nat.le_add_left,jB0,List.find?_cons,jB1,Int.emod_add_mul_ediv,jC0,List.range_succ,jC1,PyProof.Rows.boot_all,jD0,wpAny_mono,jD1,wpAny_pyIter_list,jE0,call_meets,jE1,decide_eq_true_eq,jF0,Calls.evalArgs_plain,jF1,List.drop_zero,jG0,List.length_drop,jG1,List.all_eq_true,jH0,PySem.F.args_tuple_add_2,jH1,Int.mul_comm,jI0,Int.pow_succ,jI1,Int.zero_add,jJ0,wpAny_execs_nil,jJ1,Bool.eq_iff_iff,jK0,PySem.F.entry_tuple_add,jK1,List.any_cons,jL0,Int.le_of_dvd,jL1,PySem.F.slot_tuple_add,jM0,PySem.F.slot_str_split,jM1,PySem.F.type_str_split,jN0,List.append_assoc,jN1,wpAny_pyIter_enum,jO0,PyProof.Rows.toString_length_le,jO1,Txt.slice_le,jP0,PySem.F.slot_dict_get,jP1,List.getElem?_reverse,jQ0,Int.mul_emod,jQ1,PySem.F.slot_str_join,jR0,PySem.F.type_str_join,jR1,PyProof.Rows.boot_sum,jS1,List.cons_ne_nil,jT0,Around.under_plainId,jT1,List.count_le_length,jU0,List.all_cons,jU1,Int.emod_emod,jV0,typeIs_str,jW0,List.filterMap_cons,jW1,PySem.W.plainGet_of,jX0,post_val_or_str,jX1,typeLookup_type,jY0,wpAny_specialOf,jY1,Option.map_some,jZ0,wpAny_updateSeq,jZ1,wpAny_letGo,wA0,ne_true_of_eq_false,wA1,Int.dvd_add,wB0,Int.natCast_add,wB1,W.ke_canLayAll0,wC0,Nat.le_of_lt,wC1,PySem.W.callWith_K,wD0,wpAny_typeOf,wD1,wpAny_setField_rec,wE0,F.args_str_split_2,wE1,Nat.sub_zero,wF0,PySem.W.KFB.if_not,wF1,of_decide_eq_false,wG0,Nat.pos_of_ne_zero,wG1,Heap.size_push,wH0,Bool.and_false,wH1,isSubtype_type,wI0,wpAny_tryCatch,wI1,wpAny_sequenceKey,wJ0,Nat.lt_succ_of_lt,wJ1,F.entry_str_split,wK0,Str.length_append,wK1,wpAny_standAt,wL0,Int.mul_one,wL1,wpAny_attempt,wM0,plainId_quiet,wM1,W.ke_depthAll,wN0,Bool.true_and,wN1,noFill_tuple_add,wO0,wpAny_isInstance,wO1,F.entry_max_loop,wP0,F.slot_str_split,wP1,List.not_mem_nil,wQ0,Nat.ne_of_gt,wQ1,codeAny_mono,wR1,Int.add_emod,wS0,wpAny_rule]
end
example:=[WA,["self"],WB,["tree"],WC,["text"],WD,["_law_feed_here","_law_many"],WE,["self","values"],WF,["self","signs"],WG,["game"],WH,["scan","within"],WI,["values","r","p"],WJ,["self","place"],WK,["_law_tree_here"],WL,["self","point","s"],WM,["self","s"],WN,["self","r"],WO,["self","game"],WP,["_law_feed_here","_law_names_here","_law_room","_law_deep"],WQ,["tree","switches","point","p"],WR,["self","numbers","s"],WS,["tree","switches","setting"],WT,["term","boxes","asking"],WU,["text","number"],WV,["_law_feed_here","_law_boxes","_law_room","_law_deep"],WW,["self","switches","trees","field"],WX,["value","p"],WY,["word","first","second"],WZ,["sign","first","second","p"],Wa,["self","word"],Wb,["self","game","helper"],Wc,["self","game","number","many","due","s","coins"],Wd,["self","text","row","most_within","most_parts"],We,["self","within"],Wf,["_law_script","_law_k"],Wg,["word","first","second","p"],Wh,["name","trees"],Wi,["numbers","p"],Wj,["tree","switches"],Wk,["first","second","p"],Wl,["self","place","said","asking"],Wm,["self","many","due","s","coins"],Wn,["end","go","if","set","say"],Wo,["doubter","row","is_first"],Wp,["doubter","row","number"],Wq,["_law_feed_here","_law_game_here","_law_many"],Wr,["_law_names_here","_law_trees"],Ws,["_law_feed_here","_law_need_here"],Wt,["_law_feed_here","_law_most","_law_room"],Wu,["machine","doubter"],Wv,["game","helper","coins"],Ww,["_law_feed_here","_law_boxes","_law_most"],Wx,["_law_feed_here","_law_box"],Wy,["_law_game_here","_law_helper_here","_law_coins_here"],Wz,["_law_script","_law_great"]]
namespace L2
open PySem PySem.Spec PyProof.Rows
abbrev Key:=Sum Int Str
def qQ:Key->Value->Bool
 |.inl k,v=>Value.isInt k v
 |.inr x,v=>Value.isStrOf x v
def keyH(w:World):Key->Int
 |.inl k=>hashInt k
 |.inr x=>hashStr w x
def cH:∀{k:Key}{v:Value},qQ k v=true->(∃i t,k=Sum.inl i/\v=Value.int i t)∨(∃x t,k=Sum.inr x/\v=Value.str x t)
 |.inl i,v,h=>by
   let%[t|e]:=Value.isInt_shape (k:=i) (v:=v) h;exact .inl %[i,t,1|e]
 |.inr x,v,h=>by
   let%[t|e]:=Value.isStrOf_shape (x:=x) (v:=v) h;exact .inr %[x,t,1|e]
def yG(i:Int)(t:Tok):qQ (.inl i) (.int i t)=true:=by simp [qQ,Value.isInt]
def yF(x:Str)(t:Tok):qQ (.inr x) (.str x t)=true:=by simp [qQ,Value.isStrOf]
def EI(a b:Int):decide ((Sum.inl a:Key)=Sum.inl b)=(a==b):=by
 by_cases e:a=b
 . subst e;simp
 . let h:¬ (Sum.inl a:Key)=Sum.inl b:=λq=>e (Sum.inl.inj q)
   rw[zE1 h];exact(beq_eq_false_iff_ne.mpr e).symm
def EF(a b:Str):decide ((Sum.inr a:Key)=Sum.inr b)=decide (a=b):=by
 by_cases e:a=b
 . subst e;simp
 . let h:¬ (Sum.inr a:Key)=Sum.inr b:=λq=>e (Sum.inr.inj q)
   rw[zE1 h,zE1 e]
def EH(a:Int)(b:Str):decide ((Sum.inl a:Key)=Sum.inr b)=false:=zE1 (λq=>nomatch q)
def EG(a:Str)(b:Int):decide ((Sum.inr a:Key)=Sum.inl b)=false:=zE1 (λq=>nomatch q)
def cZ(prog:Program)(w:World):PySem.KeyKind prog w Key where
 is:=qQ
 hash:=keyH w
 inj:=λv a b ha hb=>by
  rcases cH ha with⟨i,t,rfl,rfl⟩ | ⟨x,t,rfl,rfl⟩
  . rcases cH hb with⟨j,u,rfl,e⟩ | ⟨y,u,rfl,e⟩
    . injection e with e1 _;rw[e1]
    . exact nomatch e
  . rcases cH hb with⟨j,u,rfl,e⟩ | ⟨y,u,rfl,e⟩
    . exact nomatch e
    . injection e with e1 _;rw[e1]
 byValue:=λk v h=>by
  rcases cH h with⟨i,t,rfl,rfl⟩ | ⟨x,t,rfl,rfl⟩ <;> rfl
 pyHash:=λhv h=>by
  rcases cH hv with⟨i,t,rfl,rfl⟩ | ⟨x,t,rfl,rfl⟩
  . exact wpAny_pyHash_int h
  . exact wpAny_pyHash_str h
 eqBool:=λhu hv h=>by
  rcases cH hu with⟨i,t,rfl,rfl⟩ | ⟨x,t,rfl,rfl⟩
  . rcases cH hv with⟨j,u,rfl,rfl⟩ | ⟨y,u,rfl,rfl⟩
    . rw[EI]at h;exact wpAny_eqBool_int h
    . rw[EH]at h;exact SeqAt.EqAt.int_str i t y u _ _ _ _ h
  . rcases cH hv with⟨j,u,rfl,rfl⟩ | ⟨y,u,rfl,rfl⟩
    . rw[EG]at h;exact SeqAt.EqAt.str_int x t j u _ _ _ _ h
    . rw[EF]at h;exact wpAny_eqBool_str h
 «strs»:=λk x t v h=>by
  rcases cH h with⟨i,u,rfl,e⟩ | ⟨y,u,rfl,e⟩
  . exact nomatch e
  . injection e with e1 _;subst e1;cases v <;> rfl
def uq(prog:Program)(w:World)(i:Int)(t:Tok):(cZ prog w).is (.inl i) (.int i t)=true:=yG i t
def uo(prog:Program)(w:World)(x:Str)(t:Tok):(cZ prog w).is (.inr x) (.str x t)=true:=yF x t
inductive V where
 |non | bl (b:Bool) | int (i:Int) | str (x:Str) | byt (b:Array UInt8) | flt (b:UInt64) | ref (a:Addr) | ty (n:String)
 deriving DecidableEq
def RelV:V->Value->Prop
 |.non,u=>u=Value.none
 |.bl b,u=>u=Value.bool b
 |.int i,u=>∃t,u=Value.int i t
 |.str x,u=>∃t,u=Value.str x t
 |.byt b,u=>∃t,u=Value.bytes b t
 |.flt b,u=>∃t,u=Value.float b t
 |.ref a,u=>u=Value.ref a
 |.ty n,u=>u=Value.type n
abbrev Vals:List V->List Value->Prop:=Paired RelV
def Vals.length(r:Vals xs us):xs.length=us.length:=Paired.length r
def Vals.get:∀{xs:List V}{us:List Value}{i:Nat}{x:V},Vals xs us->xs[i]?=some x->∃u,us[i]?=some u/\RelV x u
 |_,_,_,_,.nil,e=>by simp at e
 |_,_,0,_,.cons r _,e=>by simp at e;subst e;erw[0,r]
 |_,_,i+1,x,.cons _ t,e=>by
   let%[u,h1|h2]:=Vals.get (i:=i) (x:=x) t #[e,0];erw[u,by simpa using h1,h2]
def Vals.set{x:V}{u:Value}(r:RelV x u):∀{xs:List V}{us:List Value}(i:Nat),Vals xs us->Vals (xs.set i x) (us.set i u)
 |_,_,_,.nil=>.nil
 |_,_,0,.cons _ t=>.cons r t
 |_,_,i+1,.cons q t=>.cons q (Vals.set r i t)
def Vals.append:∀{xs ys:List V}{us ws:List Value},Vals xs us->Vals ys ws->Vals (xs++ys) (us++ws)
 |_,_,_,_,.nil,s=>s
 |_,_,_,_,.cons r t,s=>.cons r (Vals.append t s)
def Vals.take:∀{xs:List V}{us:List Value}(n:Nat),Vals xs us->Vals (xs.take n) (us.take n)
 |_,_,0,_=>.nil
 |_,_,_+1,.nil=>.nil
 |_,_,n+1,.cons r t=>.cons r (Vals.take n t)
def Vals.drop:∀{xs:List V}{us:List Value}(n:Nat),Vals xs us->Vals (xs.drop n) (us.drop n)
 |_,_,0,r=>r
 |_,_,_+1,.nil=>.nil
 |_,_,n+1,.cons _ t=>Vals.drop n t
def RelO:Option V->Option Value->Prop
 |some v,some u=>RelV v u
 |none,none=>True
 |_,_=>False
def KV{κ:Type}:List (κ×V)->List (κ×Value)->Prop:=Paired fun(p:κ×V)(q:κ×Value)=>p.1=q.1/\RelV p.2 q.2
def kV:Key->V
 |.inl i=>.int i
 |.inr x=>.str x
inductive HO where
 |lst (xs:List V)
 |tup (xs:List V)
 |dK (JA:List (Key×V)) | dT (JA:List (List Key×V))
 |set (S:Int->Bool) (n:Nat)
 |ins (C dx:Addr) (fs:List (Str×V))
 |own (x:Addr)
 |xd (fs:List (Str×V))
 |met (f x:Addr)
 |rng (lo hi:Int)
 |frz (o:Obj) (u:HO)
 |tbl (ps:Array Value)
 |ext (φ:Heap->Prop)
abbrev Hp:=Addr->Option HO
def upd(H:Hp)(a:Addr)(o:HO):Hp:=λb=>if b=a then some o else H b
def aO:upd H a o a=some o:=by unfold upd;rw[JB rfl]
def aD{a b:Addr}(h:b≠a):upd H a o b=H b:=by unfold upd;rw[Jy h]
def bi{H:Hp}{a b:Addr}{o u:HO}(h:H a=some o)(h':H b=some u)(d:o≠u):a≠b:=by
 intro e;subst e;rw[h]at h';exact d (zT0 h')
def aX{H:Hp}{a b:Addr}{o:HO}(h:H a=some o)(h':H b=none):a≠b:=by
 intro e;subst e;rw[h]at h';cases h'
section
variable (P:Program)(w:World)
def ObjOk(H:Hp)(h:Heap)(a:Addr):HO->Prop
 |.lst xs=>xs.length<=sizeLine/\∃(its:List Value) (n:Nat),Vals xs its/\h.get? a=some { cls:=.type "list",data:=.seq its.toArray n }
 |.tup xs=>xs.length<=sizeLine/\∃its:List Value,Vals xs its/\IsTup h a its.toArray/\∃o,h.get? a=some o/\o.dict=none
 |.dK JA=>JA.length<=sizeLine/\(a==sysModules)=false/\∃vs,KV JA vs/\h.DictOf (cZ P w) a vs
 | .dT JA=>JA.length<=sizeLine/\(a==sysModules)=false/\∃xs:List (List Key×Addr×Value),
  Paired (fun(p:List Key×V)(q:List Key×Addr×Value)=>p.1=q.1/\H q.2.1=some (.tup (p.1.map kV))/\RelV p.2 q.2.2) JA xs/\
  ∃o es ep,h.get? a=some o/\o.ExactDict/\o.data=.dict es ep/\es.toList=xs.map (entryOfKey (tupleKind (cZ P w)))/\(xs.map (·.1)).Nodup
 |.set S n=>h.SetOf (intKind P w) a S n
 | .ins C dx fs=>H dx=some (.own a)/\fs.length<=1000/\dx≠a/\h.get? a=some (PySem.W.instObj C dx)/\
  ∃mA,h.Ns1 dx mA/\(∀f,RelO (fs.lookup f) (mA f))/\PySem.Within mA (fs.map (·.1))
 |.own _=>∃o,h.get? a=some o
 |.xd fs=>∃mA,h.Ns1 a mA/\∀f,RelO (fs.lookup f) (mA f)
 |.rng lo hi=>∃t u v,h.get? a=some { cls:=.type "range",data:=.fields #[.int lo t,.int hi u,.int 1 v] }
 |.frz o u=>h.get? a=some o/\ObjOk H h a u
 |.tbl ps=>h.get? a=some { cls:=.none,data:=.fields ps }
 |.met f x=>h.get? a=some (PySem.W.methodObj (.ref f) (.ref x))
 |.ext φ=>φ h/\(∃o,h.get? a=some o)/\∀h1 h2:Heap,φ h1->(∀o,h1.get? a=some o->h2.get? a=some o)->φ h2
def HOk(H:Hp)(h:Heap):Prop:=∀a o,H a=some o->ObjOk P w H h a o
end
section
variable {P:Program}{w:World}{H H':Hp}{h h':Heap}{a:Addr}{o:HO}
def ObjOk.lt(x:ObjOk P w H h a o):a<h.objs.size:=by
 cases o with
 |lst xs=>erw[_,_,_,_,e]at x;exact zO0 e
 |tup xs=>erw[_,_,_,p,_]at x;exact p.lt
 |dK JA=>erw[_,_,_,_,o,_,_,e,_]at x;exact zO0 e
 |dT JA=>erw[_,_,_,_,o,_,_,e,_]at x;exact zO0 e
 |set S n=>erw[o,_,_,_,e,_]at x;exact zO0 e
 |ins C dx fs=>erw[_,_,_,e,_]at x;exact zO0 e
 |own y=>erw[_,e]at x;exact zO0 e
 |xd fs=>erw[_,%[_,_,_,e|_],_]at x;exact zO0 e
 |rng lo hi=>erw[_,_,_,e]at x;exact zO0 e
 |frz ob u=>erw[e,_]at x;exact zO0 e
 |tbl ps=>exact zO0 (show h.get? a=some _ from x)
 |met f y=>exact zO0 (show h.get? a=some _ from x)
 |ext φ=>erw[_,%[_|e],_]at x;exact zO0 e
def Paired.mapP{α β:Type}{F G:α->β->Prop}:∀{l₁:List α}{l₂:List β},Paired F l₁ l₂->(∀a b,F a b->G a b)->Paired G l₁ l₂
 |_,_,.nil,_=>.nil
 |_,_,.cons r t,f=>.cons (f _ _ r) (Paired.mapP t f)
def ObjOk.stay(x:ObjOk P w H h a o)(k:∀b u,(b=a∨H b=some (.own a))->h.get? b=some u->h'.get? b=some u)
 (ho:∀b,H b=some (.own a)->H' b=some (.own a))(ht:∀b xs,H b=some (.tup xs)->H' b=some (.tup xs)):ObjOk P w H' h' a o:=by
 induction o with
 |lst xs=>erw[z,its,n,r,e]at x;erw[z,its,n,r,k _ _ (.inl rfl) e]
 |tup xs=>erw[z,its,r,%[ob,e|c],od,e2,d]at x;erw[z,its,r,%[ob,k _ _ (.inl rfl) e|c],od,k _ _ (.inl rfl) e2,d]
 |dK JA=>erw[z,y,vs,r,ob,es,ep,e,c]at x;erw[z,y,vs,r,ob,es,ep,k _ _ (.inl rfl) e,c]
 |dT JA=>
   erw[z,y,xs,r,ob,es,ep,e,c]at x;erw[z,y,xs,Paired.mapP r λp q z=>%[z.1,ht _ _ z.2.1|z.2.2],ob,es,ep,k _ _ (.inl rfl) e,c]
 |set S n=>erw[ob,es,ep,t,e,c]at x;erw[ob,es,ep,t,k _ _ (.inl rfl) e,c]
 |ins C dx fs=>
   erw[d,z,ne,e,mA,%[od,es,ep,e2|c],r]at x;erw[ho _ d,z,ne,k _ _ (.inl rfl) e,mA,%[od,es,ep,k _ _ (.inr d) e2|c],r]
 |own y=>erw[ob,e]at x;erw[ob,k _ _ (.inl rfl) e]
 |xd fs=>erw[mA,%[od,es,ep,e|c],r]at x;erw[mA,%[od,es,ep,k _ _ (.inl rfl) e|c],r]
 |rng lo hi=>erw[t,u,v,e]at x;erw[t,u,v,k _ _ (.inl rfl) e]
 |frz ob u ih=>erw[e,q]at x;erw[k _ _ (.inl rfl) e,ih q]
 |tbl ps=>
   let e:h.get? a=some { cls:=.none,data:=.fields ps }:=x;show h'.get? a=some { cls:=.none,data:=.fields ps };exact k a _ (.inl rfl) e
 |met f y=>
   let e:h.get? a=some (PySem.W.methodObj (.ref f) (.ref y)):=x;show h'.get? a=some (PySem.W.methodObj (.ref f) (.ref y));exact k a _ (.inl rfl) e
 |ext φ=>erw[p,%[o|e],st]at x;erw[st _ _ p λo q=>k _ _ (.inl rfl) q,%[o|k _ _ (.inl rfl) e],st]
def HOk.lt(x:HOk P w H h)(e:H a=some o):a<h.objs.size:=(x a o e).lt
def HOk.fresh(x:HOk P w H h)(e:h.objs.size<=a):H a=none:=by
 cases q:H a with
 |none=>rfl
 |some u=>exact absurd (qL0 (x.lt q) e) (qU0 _)
def HOk.kept(x:HOk P w H h)(k:∀b u,h.get? b=some u->h'.get? b=some u):HOk P w H h':=λa o e=>
 (x a o e).stay (λb u _ q=>k b u q) (λ_ q=>q) λ_ _ q=>q
def HOk.laid(x:HOk P w H h)(k:∀b u,h.get? b=some u->h'.get? b=some u)(hp:h.objs.size<=a)(new:ObjOk P w (upd H a o) h' a o):HOk P w (upd H a o) h':=λb u e=>by
 let hn:=x.fresh hp
 by_cases hb:b=a
 . subst hb;rw[aO]at e;cases e;exact new
 . rw[aD hb]at e;exact(x b u e).stay (λc v _ q=>k c v q) (λc q=>by rw[aD (aX q hn)];exact q) λc xs q=>by rw[aD (aX q hn)];exact q
end
def Rd(H:Hp)(a:Addr)(u:HO):Prop:=H a=some u∨∃o,H a=some (.frz o u)
def Rd.ok{P:Program}{w:World}{h:Heap}(r:Rd H a u)(x:HOk P w H h):ObjOk P w H h a u:=by
 rcases r with r | ⟨o,r⟩
 . exact x a u r
 . let%[_|q]:=x a _ r;exact q
def Mut:Option HO->Prop
 |some (.lst _)=>True
 |some (.dK _)=>True
 |some (.dT _)=>True
 |some (.set _ _)=>True
 |some (.ins _ _ _)=>True
 |some (.ext _)=>True
 |_=>False
section
variable {P:Program}{w:World}{H:Hp}{h h':Heap}{x e:Addr}{o':HO}
def HOk.write(ok:HOk P w H h)(mu:Mut (H x))(he:e=x∨H e=some (.own x))(k:∀b u,b≠e->h.get? b=some u->h'.get? b=some u)(heo:∃u,h'.get? e=some u)
 (new:ObjOk P w (upd H x o') h' x o'):HOk P w (upd H x o') h':=λb u q=>by
 let nown:∀c y,H c=some (.own y)->c≠x:=λc y r z=>by subst z;rw[r]at mu;exact mu
 let ntup:∀c xs,H c=some (.tup xs)->c≠x:=λc xs r z=>by subst z;rw[r]at mu;exact mu
 by_cases hb:b=x
 . subst hb;rw[aO]at q;cases q;exact new
 . rw [aD hb]at q
   by_cases hbe:b=e
   . let q':H b=some (.own x):=by
      rcases he with z | z
      . exact absurd (hbe.trans z) hb
      . rw[hbe];exact z
     rw[q]at q';cases q';erw[v,hv]at heo;erw[v,by rw[hbe];exact hv]
   . apply (ok b u q).stay (λc v hc r=>k c v ?_ r) (λc r=>by rw[aD (nown c b r)];exact r) λc xs r=>by rw[aD (ntup c xs r)];exact r
     rcases hc with rfl | hc
     . exact hbe
     . rintro rfl;rcases he with z | z
       . exact nown c b hc z
       . rw[hc]at z;cases z;exact hb rfl
end
structure Un(fs ex:List Addr)(H H':Hp)(h h':Heap):Prop where
 keep:∀b o,h.get? b=some o->H b=none->b∉fs->b∉ex->h'.get? b=some o
 slot:∀b o,h.get? b=some o->H b=none->b∈fs->b∉ex->∃sl,h'.get? b=some { o with slots:=sl }
 free:∀b o,h.get? b=some o->H b=none->b∉ex->H' b=none
 there:∀b o,h.get? b=some o->b∉ex->∃o',h'.get? b=some o'
 tups:∀b xs,H b=some (.tup xs)->H' b=some (.tup xs)
 frzs:∀b o u,H b=some (.frz o u)->H' b=some (.frz o u)
 tbls:∀b ps,H b=some (.tbl ps)->∃more,H' b=some (.tbl (ps++more))
section
variable {fs fs' ex ex':List Addr}{H H1 H2:Hp}{h h1 h2 h':Heap}{a x e:Addr}{o:HO}
def Un.any(u:Un fs ex H H1 h h1){b:Addr}{ob:Obj}(q:h.get? b=some ob)(n:H b=none)(hx:b∉ex):∃sl,h1.get? b=some { ob with slots:=sl }:=by
 by_cases hb:b∈fs
 . exact u.slot b ob q n hb hx
 . erw[ob.slots,u.keep b ob q n hb hx]
def Un.kept(k:∀b u,h.get? b=some u->h'.get? b=some u):Un fs ex H H h h':=
 %[λb ob q _ _ _=>k b ob q,λb ob q _ _ _=>%[ob.slots|k b ob q],λ_ _ _ n _=>n,λb ob q _=>%[ob|k b ob q],λ_ _ q=>q,λ_ _ _ q=>q|λ_ ps q=>%[#[]|by rw[q];simp]]
def Un.refl:Un fs ex H H h h:=Un.kept λ_ _ q=>q
def Un.laid(k:∀b u,h.get? b=some u->h'.get? b=some u)(hp:h.objs.size<=a)(hn:H a=none):Un fs ex H (upd H a o) h h' where
 keep:=λb u q _ _ _=>k b u q
 slot:=λb u q _ _ _=>%[u.slots|k b u q]
 free:=λb u q n _=>by rw[aD (qB0 (qL0 (zO0 q) hp))];exact n
 there:=λb u q _=>%[u|k b u q]
 tups:=λb xs q=>by rw[aD (aX q hn)];exact q
 frzs:=λb u xs q=>by rw[aD (aX q hn)];exact q
 tbls:=λb ps q=>%[#[]|by rw[aD (aX q hn),q];simp]
def Un.write(mu:Mut (H x))(he:e=x∨H e=some (.own x))(k:∀b u,b≠e->h.get? b=some u->h'.get? b=some u)(heo:∃u,h'.get? e=some u):Un fs ex H (upd H x o) h h':=by
 let hx:∀b,H b=none->b≠x:=λb n z=>by subst z;rw[n]at mu;exact mu
 let hb:∀b,H b=none->b≠e:=λb n z=>by
  subst z;rcases he with r | r
  . exact hx b n r
  . rw[n]at r;cases r
 let hm:∀b u,H b=some u->¬ Mut (some u)->b≠x:=λb u q nm z=>by subst z;rw[q]at mu;exact nm mu
 erw[λb u q n _ _=>k b u (hb b n) q,λb u q n _ _=>%[u.slots|k b u (hb b n) q],λb u q n _=>by rw[aD (hx b n)];exact n,λb u q _=>?_,λb xs q=>by rw[aD (hm b _ q λz=>z)];exact q,λb u xs q=>by rw[aD (hm b _ q λz=>z)];exact q,λb ps q=>%[#[]|by rw[aD (hm b _ q λz=>z),q];simp]]
 by_cases hbe:b=e
 . subst hbe;exact heo
 . erw[u,k b u hbe q]
end
def trk(h:Heap)(H:Hp):List Addr:=(List.range h.objs.size).filter λa=>(H a).isSome
def sT(h:Heap)(H:Hp):Heap:=PySem.W.hideAll h (trk h H)
def yO(h:Heap)(H:Hp):(sT h H).objs.size=h.objs.size:=PySem.W.hideAll_size _ _
def Bp{h:Heap}{H:Hp}{b:Addr}{o:Obj}(e:h.get? b=some o)(n:H b=none):(sT h H).get? b=some o:=
 PySem.W.hideAll_get _ e λhm=>by
  let q:(H b).isSome=true:=(List.mem_filter.mp hm).2;rw[n]at q;simp at q
def CW{b:Addr}{o:Obj}(e:(sT h H).get? b=some o):h.get? b=some o/\H b=none:=by
 let e':h.get? b=some o:=PySem.W.of_hideAll (trk h H) e;erw[e',6];cases q:H b with
 |none=>rfl
 |some x=>
   let hm:b∈trk h H:=List.mem_filter.mpr %[List.mem_range.mpr (zO0 e')|by simp [q]];let z:(sT h H).get? b=none:=PySem.W.hideAll_none (trk h H) hm;rw[z]at e;cases e
structure Mod(K:W.Frag)(mg:#[9])(base:Heap):Prop where
 kin:K.In base
 glob:base.Ns mainGlobals mg
 blt:∃mb,base.Ns builtinsNs mb/\∀x:Str,x≠"__name__" -> mb x=bootBuiltins x
 nolimit:base.NoLimit
structure Cx where
 prog:Program
 w:World
 K:W.Frag
 mg:#[9]
 base:Heap
 A:Around
 N:List Str
 s₀:Shared
 H₀:Hp
 env:Env
 outer:List Env
 stack:List Env
 ex:List Addr
 fn:Str->Bool
 calm:Bool
 pn:#[7]
 xe:#[6]
def frs(l:List Env):List Addr:=l.filterMap (·.frame)
abbrev Cx.fs(X:Cx):List Addr:=frs X.outer
def Vis(sc:Scope)(x:Str):Prop:=sc.names.lookup x=some .local∨sc.names.lookup x=some .cell∨sc.names.lookup x=some .free
def Loc(sc:Scope)(x:Str):Prop:=sc.names.lookup x=some .local∨sc.names.lookup x=some .cell
def Look(env:Env)(h:Heap)(m:#[9])(x:Str)(u:Value):Prop:=
 (env.kindOf x=some .local/\m x=some u)∨((env.kindOf x=some .cell∨env.kindOf x=some .free)/\∃c,env.cells.lookup x=some c/\h.IsCell c (some u))
structure Cx.Ok(X:Cx):Prop where
 mod:Mod X.K X.mg X.base
 kind:X.env.scope.kind=.function
 glob:X.env.globals=mainGlobals
 blt:X.env.builtins=builtinsNs
 above:X.s₀.heap.objs.size<=X.env.locals
 inj:∀x y c,X.env.cells.lookup x=some c->X.env.cells.lookup y=some c->x=y
 has:∀x,(X.env.kindOf x=some .cell∨X.env.kindOf x=some .free)->∃c,X.env.cells.lookup x=some c
 cab:∀x c,X.fn x=true->X.env.cells.lookup x=some c->X.s₀.heap.objs.size<=c
 hd:X.calm=true->X.A.handled=none
 frames:X.A.frames=some X.stack
 stk:X.stack=X.outer∨(X.stack=X.env::X.outer/\X.env.frame=some X.env.locals)
 exf:∀b∈X.ex,b≠X.env.locals/\∀x c,X.env.cells.lookup x=some c->c≠b
 bs:∀b o,X.base.get? b=some o->X.s₀.heap.get? b=some o/\X.H₀ b=none
 bsz:X.base.objs.size<=X.s₀.heap.objs.size
 noex:∀b o,X.base.get? b=some o->b∉X.ex
 exfs:∀b∈X.ex,b∉X.fs
 funs:X.s₀.heap.FunFrames X.base X.outer
 frf:∀b∈X.fs,X.H₀ b=none
structure Inv(X:Cx)(Jx:#[7])(σ:List (Option V))(H:Hp)(s:Shared):Prop where
 ok:X.Ok
 os:s.os=X.s₀.os
 bare:AllBare s.gens
 base:Un X.fs X.ex X.H₀ H X.s₀.heap s.heap
 loc:∃m,s.heap.Ns X.env.locals m/\∀(i:Nat)(x:Str)(v:V),X.N[i]?=some x->σ[i]?=some (some v)->Vis X.env.scope x->∃u,RelV v u/\Look X.env s.heap m x u
 cell:∀x c,X.env.cells.lookup x=some c->∃v,s.heap.IsCell c v
 free:H X.env.locals=none
 freeC:∀x c,X.env.cells.lookup x=some c->H c=none
 pin:∀p∈X.pn++Jx,s.heap.get? p.1=some p.2/\H p.1=none/\p.1≠X.env.locals/\p.1∉X.fs/\∀v,p.2.data≠.cell v
 hok:HOk X.prog X.w H s.heap
 len:σ.length=X.N.length
section
variable {X:Cx}{Jx:#[7]}{σ:List (Option V)}{H H':Hp}{s:Shared}{h':Heap}
def Cx.Ok.nofr(ok:X.Ok){b:Addr}{o:Obj}(e:X.base.get? b=some o):b∉X.fs:=λhb=>by
 have:=(ok.funs.mem hb).1
 rw[e]at this;cases this
def Inv.bs(I:#[8] H s):∀b o,X.base.get? b=some o->s.heap.get? b=some o/\H b=none:=λb o e=>
 %[I.base.keep b o (I.ok.bs b o e).1 (I.ok.bs b o e).2 (I.ok.nofr e) (I.ok.noex b o e)|I.base.free b o (I.ok.bs b o e).1 (I.ok.bs b o e).2 (I.ok.noex b o e)]
def Inv.bk(I:#[8] H s):∀b o,X.base.get? b=some o->s.heap.get? b=some o:=λb o e=>(I.bs b o e).1
def Inv.mod(I:#[8] H s):Mod X.K X.mg X.base:=I.ok.mod
def Inv.kIn(I:#[8] H s):X.K.In s.heap:=I.ok.mod.kin.keeps I.bk
def Inv.lt(I:#[8] H s):X.env.locals<‹s›:=let⟨_,hn,_⟩:=I.loc;hn.lt
def Inv.sz(I:#[8] H s):X.s₀.heap.objs.size<=‹s›:=zM0 I.ok.above (wC0 I.lt)
def Inv.nofs(I:#[8] H s){a:Addr}(h:‹s›<=a):a∉X.fs:=λhb=>by
 let%[_,o,ho|_]:=I.ok.funs.mem hb;exact absurd (qL0 (zO0 ho) (zM0 I.sz h)) (qU0 _)
def Inv.cne(I:#[8] H s):∀x c,X.env.cells.lookup x=some c->c≠X.env.locals:=λx c e z=>by
 let%[v,o,ho|hd]:=I.cell x c e;erw[m,%[o',es,ep,ho',hd'|_],_]at I.loc;rw[z,ho']at ho;cases ho;rw[hd']at hd;cases hd
def Inv.funs(I:#[8] H s):s.heap.FunFrames X.base X.outer:=by
 let all:∀(l:List Env),(∀b∈frs l,b∈X.fs)->X.s₀.heap.FunFrames X.base l->s.heap.FunFrames X.base l:=by
  intro l
  induction l with
  |nil=>intro _ _;trivial
  |cons env r ih=>
    intro hs hl;erw[hk,%[L,o,hf,hn,ho|hd],hr]at hl;let hL:L∈X.fs:=hs L (by unfold frs;rw[jW0,hf];exact zW0);let%[sl|e]:=I.base.slot L o ho (I.ok.frf L hL) hL λz=>I.ok.exfs L z hL
    erw[hk,%[L,_,hf,hn,e|hd],ih (λb hb=>hs b (by unfold frs;rw[jW0,hf];exact qK0 _ hb)) hr]
 exact all X.outer (λ_ hb=>hb) I.ok.funs
def Inv.stack(I:#[8] H s):s.heap.FunFrames X.base X.stack:=by
 rcases I.ok.stk with e | ⟨e,hf⟩
 . rw[e];exact I.funs
 . rw[e];erw[m,hn,_]at I.loc;refine .cons (by rw[I.ok.kind];decide) hf hn ?_ I.funs;exact Heap.get?_none_of_le (zM0 I.ok.bsz I.ok.above)
def Inv.stkSub(I:#[8] H s):∀b∈frs X.stack,b∈X.env.locals::X.fs:=λb hb=>by
 rcases I.ok.stk with e | ⟨e,hf⟩
 . rw[e]at hb;exact qK0 _ hb
 . rw[e]at hb;unfold frs at hb;rw[jW0,hf]at hb;exact hb
def Inv.stkFree(I:#[8] H s):∀b∈frs X.stack,H b=none:=λb hb=>by
 rcases zV0 (I.stkSub b hb)with e | hb
 . rw[e];exact I.free
 . let%[_,o,ho|_]:=I.ok.funs.mem hb;exact I.base.free b o ho (I.ok.frf b hb) λz=>I.ok.exfs b z hb
def Inv.step{g':Array GenState}{t':Nat}{d':Drawn}{ch:List Addr}(I:#[8] H s)
 (hch:∀b∈ch,(b∈X.ex∨X.s₀.heap.objs.size<=b)/\b≠X.env.locals/\(∀x c,X.env.cells.lookup x=some c->c≠b)/\∀p∈X.pn++Jx,p.1≠b)
 (keep:∀b o,b≠X.env.locals->b∉X.fs->b∉ch->s.heap.get? b=some o->H b=none->h'.get? b=some o)
 (slot:∀b o,b≠X.env.locals->b∈X.fs->b∉ch->s.heap.get? b=some o->H b=none->∃sl,h'.get? b=some { o with slots:=sl })(free:∀b o,b∉ch->s.heap.get? b=some o->H b=none->H' b=none)
 (there:∀b o,b∉ch->s.heap.get? b=some o->∃o',h'.get? b=some o')
 (tups:∀b xs,H b=some (.tup xs)->H' b=some (.tup xs))(frzs:∀b o u,H b=some (.frz o u)->H' b=some (.frz o u))(tbls:∀b ps,H b=some (.tbl ps)->∃more,H' b=some (.tbl (ps++more)))
 (ns:∀m,s.heap.Ns X.env.locals m->h'.Ns X.env.locals m)(hok:HOk X.prog X.w H' h')(hg:AllBare g'):
 #[8] H' { s with heap:=h',gens:=g',drawn:=d',toks:=t' }:=by
 let neL:∀b o,X.s₀.heap.get? b=some o->b≠X.env.locals:=λb o e=>qB0 (qL0 (zO0 e) I.ok.above)
 let neC:∀b o,X.s₀.heap.get? b=some o->b∉X.ex->b∉ch:=λb o e hx hb=>by
  rcases(hch b hb).1 with z | z
  . exact hx z
  . exact absurd (qL0 (zO0 e) z) (qU0 _)
 let cellK:∀x c,X.env.cells.lookup x=some c->∀v,s.heap.IsCell c v->h'.IsCell c v:=λx c e v ⟨o,ho,hd⟩=>by
  let nch:c∉ch:=λz=>(hch c z).2.2.1 x c e rfl
  by_cases hc:c∈X.fs
  . let%[sl|q]:=slot c o (I.cne x c e) hc nch ho (I.freeC x c e);erw[_,q,hd]
  . erw[o,keep c o (I.cne x c e) hc nch ho (I.freeC x c e),hd]
 erw[I.ok,I.os,hg,%[λb o e n hb hx=>?_,λb o e n hb hx=>?_,λb o e n hx=>?_,λb o e hx=>?_,λb xs e=>tups b xs (I.base.tups b xs e),λb o xs e=>frzs b o xs (I.base.frzs b o xs e)|λb ps e=>?_],6,λx c e=>?_,6,λx c e=>?_,λp hp=>?_,hok,I.len]
 . exact keep b o (neL b o e) hb (neC b o e hx) (I.base.keep b o e n hb hx) (I.base.free b o e n hx)
 . let%[sl|e1]:=I.base.slot b o e n hb hx;let%[sl'|e2]:=slot b _ (neL b o e) hb (neC b o e hx) e1 (I.base.free b o e n hx);erw[sl',e2]
 . let%[o'|e1]:=I.base.there b o e hx;exact free b o' (neC b o e hx) e1 (I.base.free b o e n hx)
 . let%[o'|e1]:=I.base.there b o e hx;exact there b o' (neC b o e hx) e1
 . let%[m1|e1]:=I.base.tbls b ps e;let%[m2|e2]:=tbls b _ e1;erw[m1++m2,by rw[e2,Array.append_assoc]]
 . erw[m,hn,hl]at I.loc;erw[m,ns m hn,λi x v e1 e2 e3=>?_];let%[u,r|l]:=hl i x v e1 e2 e3;erw[u,r,6];rcases l with l | ⟨k,c,e,z⟩
   . exact .inl l
   . exact .inr %[k,c,e|cellK x c e _ z]
 . let%[v|z]:=I.cell x c e;erw[v,cellK x c e v z]
 . erw[m,%[o,_,_,ho|_],_]at I.loc;exact free _ o (λz=>(hch _ z).2.1 rfl) ho I.free
 . let%[v,o,ho|hd]:=I.cell x c e;exact free c o (λz=>(hch c z).2.2.1 x c e rfl) ho (I.freeC x c e)
 . let%[e,n,ne,nf|d]:=I.pin p hp;let nch:p.1∉ch:=λz=>(hch p.1 z).2.2.2 p hp rfl
   erw[keep p.1 p.2 ne nf nch e n,free p.1 p.2 nch e n,ne,nf,d]
def Inv.un{t':Nat}(I:#[8] H s)(u:Un X.fs [] H H' s.heap h')(hok:HOk X.prog X.w H' h'):#[8] H' { s with heap:=h',toks:=t' }:=by
 let%[m,%[o,es,ep,ho|r]|_]:=id I.loc;let%[sl|hL]:=u.any ho I.free #[2];exact I.step (g':=s.gens) (d':=s.drawn) (ch:=[]) (λ_ z=>nomatch z) (λb o _ hb _ e n=>u.keep b o e n hb #[2]) (λb o _ hb _ e n=>u.slot b o e n hb #[2]) (λb o _ e n=>u.free b o e n #[2]) (λb o _ e=>u.there b o e #[2]) u.tups u.frzs u.tbls (λm' hm=>by
  erw[o',es',ep',ho',r']at hm;rw[ho]at ho';cases ho';erw[_,es',ep',hL,r']) hok I.bare
def Inv.call{g':Array GenState}{t':Nat}{d':Drawn}{ch:List Addr}(I:#[8] H s)(u:Un (frs X.stack) ch H H' s.heap h')(hok:HOk X.prog X.w H' h')(hg:AllBare g')
 (hch:∀b∈ch,(b∈X.ex∨X.s₀.heap.objs.size<=b)/\b≠X.env.locals/\(∀x c,X.env.cells.lookup x=some c->c≠b)/\∀p∈X.pn++Jx,p.1≠b):
 #[8] H' { s with heap:=h',gens:=g',drawn:=d',toks:=t' }:=by
 let%[m,%[o,es,ep,ho|r]|_]:=id I.loc;let%[sl|hL]:=u.any ho I.free λz=>(hch _ z).2.1 rfl
 exact I.step (ch:=ch) hch (λb o hL hb hc e n=>u.keep b o e n (λz=>(zV0 (I.stkSub b z)).elim hL hb) hc) (λb o _ _ hc e n=>u.any e n hc) (λb o hc e n=>u.free b o e n hc) (λb o hc e=>u.there b o e hc) u.tups u.frzs u.tbls (λm' hm=>by
  erw[o',es',ep',ho',r']at hm;rw[ho]at ho';cases ho';erw[_,es',ep',hL,r']) hok hg
def Inv.turned{t':Nat}{it:Addr}(I:#[8] H s)(k:∀b o,b≠it->s.heap.get? b=some o->h'.get? b=some o)(hn:H it=none)(hL:it≠X.env.locals)
 (h1:it∈X.ex∨X.s₀.heap.objs.size<=it)(h2:∀x c,X.env.cells.lookup x=some c->c≠it)(h3:∀p∈X.pn++Jx,p.1≠it):#[8] H { s with heap:=h',toks:=t' }:=by
 let nit:∀b u,H b=some u->b≠it:=λb u e z=>by rw[z,hn]at e;cases e
 apply I.step (g':=s.gens) (d':=s.drawn) (ch:=[it]) (λb hb=>?_) (λb o _ _ hc e _=>k b o (λz=>hc (by simp [z])) e) (λb o _ _ hc e _=>%[o.slots|k b o (λz=>hc (by simp [z])) e]) (λ_ _ _ _ n=>n)
  (λb o hc e=>%[o|k b o (λz=>hc (by simp [z])) e]) (λ_ _ e=>e) (λ_ _ _ e=>e) (λb ps e=>%[#[]|by rw[e];simp]) (λm hm=>?_) (λb u e=>?_) I.bare
 . let e:b=it:=#[hb,0]
   subst e;erw[h1,hL,h2,h3]
 . erw[o,es,ep,ho,r]at hm;erw[o,es,ep,k _ o (Ne.symm hL) ho,r]
 . apply (I.hok b u e).stay (λc v hc q=>k c v ?_ q) (λ_ q=>q) λ_ _ q=>q
   rcases hc with z | z
   . rw[z];exact nit b u e
   . exact nit c _ z
def Inv.tok(I:#[8] H s)(t:Nat):#[8] H { s with toks:=t }:=I.un (h':=s.heap) (t':=t) Un.refl I.hok
def Inv.kept{t':Nat}(I:#[8] H s)(k:∀b u,s.heap.get? b=some u->h'.get? b=some u):#[8] H { s with heap:=h',toks:=t' }:=I.un (Un.kept k) (I.hok.kept k)
def Inv.laid{a:Addr}{t':Nat}(I:#[8] H s)(k:∀b u,s.heap.get? b=some u->h'.get? b=some u)(hp:‹s›<=a)(new:ObjOk X.prog X.w (upd H a o) h' a o):
 #[8] (upd H a o) { s with heap:=h',toks:=t' }:=I.un (Un.laid k hp (I.hok.fresh hp)) (I.hok.laid k hp new)
def Inv.write{x e:Addr}{t':Nat}(I:#[8] H s)(mu:Mut (H x))(he:e=x∨H e=some (.own x))(k:∀b u,b≠e->s.heap.get? b=some u->h'.get? b=some u)(heo:∃u,h'.get? e=some u)
 (new:ObjOk X.prog X.w (upd H x o) h' x o):#[8] (upd H x o) { s with heap:=h',toks:=t' }:=I.un (Un.write mu he k heo) (I.hok.write mu he k heo new)
def Inv.pins_of{pins':#[7]}(I:#[8] H s)(h:∀p∈pins',s.heap.get? p.1=some p.2/\H p.1=none/\p.1≠X.env.locals/\p.1∉X.fs/\∀v,p.2.data≠.cell v):Inv X pins' σ H s:=
 %[I.ok,I.os,I.bare,I.base,I.loc,I.cell,I.free,I.freeC,λp hp=>(qJ0 hp).elim (λz=>I.pin p (List.mem_append_left _ z)) (h p),I.hok|I.len]
def uj{N:List Str}(hN:N.Nodup){i j:Nat}{x:Str}(a:N[i]?=some x)(b:N[j]?=some x):i=j:=by
 let%[h1|e1]:=qD0 a;let%[h2|e2]:=qD0 b;exact(List.getElem_inj hN).mp (e1.trans e2.symm)
def qE{M:Model}{A:Around}{E:#[6]}{i:Nat}{x:Str}{Q:Unit->Shared->Prop}(I:#[8] H s)(hN:X.N.Nodup)(hi:X.N[i]?=some x)(hx:Loc X.env.scope x)(r:RelV v u)
 (h:∀s',Inv X Jx (σ.set i (some v)) H s'->(∃a,Heap.SameBut a s.heap s'.heap/\(a=X.env.locals∨X.env.cells.lookup x=some a))->Q () s')(hf:X.fn x=true∨X.env.scope.names.lookup x=some .local:=by first | exact .inl rfl | exact .inr rfl | assumption):wpAny M A (storeName X.env x u) Q E s:=by
 let%[m,hn|hl]:=id I.loc;let hcls:(X.env.scope.kind==.class||(X.env.scope.kind==.module&&X.env.locals != X.env.globals))=false:=by rw[I.ok.kind];rfl
 let hiσ:i<σ.length:=by rw[I.len];exact(qD0 hi).1
 let cne:=I.cne;let tracked:∀{a:Addr}{h':Heap},(∃o,s.heap.get? a=some o/\H a=none)->Heap.SameBut a s.heap h'->HOk X.prog X.w H h':=fun{a h'} ha hs b ob e=>by
  erw[_,_,hfree]at ha;refine(I.hok b ob e).stay (λc w' hc q=>(hs.2 c ?_).trans q) (λ_ q=>q) λ_ _ q=>q
  rintro rfl;rcases hc with rfl | hc
  . rw[hfree]at e;cases e
  . rw[hfree]at hc;cases hc
 rcases hx with hk | hk
 . apply wpAny_storeName_local hk hn (λh' hn' hs=>?_) hcls;let%[oL,_,_,hoL|_]:=id hn;apply h _ %[I.ok,I.os,I.bare,%[λb o e n hb hx=>?_,λb o e n hb hx=>?_,I.base.free,λb o e hx=>?_,I.base.tups,I.base.frzs|I.base.tbls],%[_,hn'|λj y v' e1 e2 e3=>?_],λy c e=>?_,I.free,I.freeC,λp hp=>?_,tracked %[oL,hoL|I.free] hs|by simpa using I.len] ⟨_,hs,.inl rfl⟩
   . exact(hs.2 b (qB0 (qL0 (zO0 e) I.ok.above))).trans (I.base.keep b o e n hb hx)
   . let%[sl|e1]:=I.base.slot b o e n hb hx;erw[sl,(hs.2 b (qB0 (qL0 (zO0 e) I.ok.above))).trans e1]
   . let%[o'|e1]:=I.base.there b o e hx;erw[o',(hs.2 b (qB0 (qL0 (zO0 e) I.ok.above))).trans e1]
   . by_cases hj:j=i
     . subst hj;rw[hi]at e1;cases e1;rw[List.getElem?_set_self hiσ]at e2;cases e2;erw[u,r,.inl %[hk|by simp]]
     . rw [List.getElem?_set_ne (Ne.symm hj)]at e2;let%[u',r'|q]:=hl j y v' e1 e2 e3;erw[u',r',6];rcases q with⟨k,e⟩ | ⟨k,c,e,z⟩
       . refine .inl %[k|6]
         have:y≠x:=λe=>hj (uj hN e1 (e▸hi))
         simp [this,e]
       . exact .inr %[k,c,e|z.sameBut hs (cne y c e)]
   . let%[w'|z]:=I.cell y c e;erw[w',z.sameBut hs (cne y c e)]
   . let%[e,n,ne,nf|d]:=I.pin p hp;erw[(hs.2 p.1 ne).trans e,n,ne,nf,d]
 . let hfn:X.fn x=true:=by
    rcases hf with z | z
    . exact z
    . rw[z]at hk;cases hk
   let%[c|hc]:=I.ok.has x (.inl hk);let%[w'|z]:=I.cell x c hc;apply wpAny_storeName_cell I.ok.kind hk hc z (λh' hc' hs=>?_);let%[oc,hoc|hocd]:=id z;apply h { s with heap:=h' } ⟨I.ok,I.os,I.bare,⟨λb o e n hb hx=>?_,λb o e n hb hx=>?_,I.base.free,λb o e hx=>?_,I.base.tups,I.base.frzs,I.base.tbls⟩,%[m,hn.sameBut hs (Ne.symm (cne x c hc))|λj y v' e1 e2 e3=>?_],λy c' e=>?_,I.free,I.freeC,λp hp=>?_,tracked %[oc,hoc|I.freeC x c hc] hs,by simpa using I.len⟩ ⟨c,hs,.inr hc⟩
   . exact(hs.2 b (qB0 (qL0 (zO0 e) (I.ok.cab x c hfn hc)))).trans (I.base.keep b o e n hb hx)
   . let%[sl|e1]:=I.base.slot b o e n hb hx;erw[sl,(hs.2 b (qB0 (qL0 (zO0 e) (I.ok.cab x c hfn hc)))).trans e1]
   . let%[o'|e1]:=I.base.there b o e hx;erw[o',(hs.2 b (qB0 (qL0 (zO0 e) (I.ok.cab x c hfn hc)))).trans e1]
   . by_cases hj:j=i
     . subst hj;rw[hi]at e1;cases e1;rw[List.getElem?_set_self hiσ]at e2;cases e2;erw[u,r,.inr %[.inl hk,c,hc|hc']]
     . rw [List.getElem?_set_ne (Ne.symm hj)]at e2;let%[u',r'|q]:=hl j y v' e1 e2 e3;erw[u',r',6];rcases q with q | ⟨k,c',e,z'⟩
       . exact .inl q
       . refine .inr %[k,c',e|z'.sameBut hs ?_];rintro rfl;exact hj (uj hN e1 (I.ok.inj _ _ _ e hc▸hi))
   . by_cases hcc:c'=c
     . subst hcc;erw[_,hc']
     . let%[w2|z2]:=I.cell y c' e;erw[w2,z2.sameBut hs hcc]
   . let%[e,n,ne,nf|d]:=I.pin p hp;erw[(hs.2 p.1 ?_).trans e,n,ne,nf,d];intro q;rw[q,hoc]at e;let q':oc=p.2:=zT0 e;exact d w' (by rw[←q'];exact hocd)
def tH{M:Model}{A:Around}{E:#[6]}{i:Nat}{x:Str}{Q:Unit->Shared->Prop}(I:#[8] H s)(hN:X.N.Nodup)(hi:X.N[i]?=some x)(hx:Loc X.env.scope x)(r:RelV v u)
 (h:∀s',Inv X Jx (σ.set i (some v)) H s'->Q () s')(hf:X.fn x=true∨X.env.scope.names.lookup x=some .local:=by first | exact .inl rfl | exact .inr rfl | assumption):wpAny M A (storeName X.env x u) Q E s:=
 qE I hN hi hx r (λs' I' _=>h s' I') hf
def Inv.call'{s':Shared}{ch:List Addr}(I:#[8] H s)(ho:s'.os=s.os)(u:Un (frs X.stack) ch H H' s.heap s'.heap)(hok:HOk X.prog X.w H' s'.heap)(hg:AllBare s'.gens)
 (hch:∀b∈ch,(b∈X.ex∨X.s₀.heap.objs.size<=b)/\b≠X.env.locals/\(∀x c,X.env.cells.lookup x=some c->c≠b)/\∀p∈X.pn++Jx,p.1≠b):#[8] H' s':=by
 erw[h',g',d',t',o']at s';let e:o'=s.os:=ho;subst e;exact I.call (g':=g') (t':=t') (d':=d') u hok hg hch
end
abbrev XK:=Value->Option Addr->Hp->Prop
abbrev St:=List (Option V)
abbrev VK:=V->Hp->Prop
abbrev TE:=St->Hp->VK->Prop
abbrev TT:=St->Hp->(Bool->Hp->Prop)->Prop
abbrev TA:=St->Hp->(List V->Hp->Prop)->Prop
structure Ends where
 nx:St->Hp->Prop
 rt:VK
 bk:St->Hp->Prop:=λ_ _=>False
 ct:St->Hp->Prop:=λ_ _=>False
abbrev TS:=Ends->St->Hp->Prop
instance EP(X:Cx)(Jx:#[7])(σ:St)(Q:VK)(u:Value)(s':Shared):∀v H',#[8] H' s'->RelV v u->Q v H':=0
instance TP(X:Cx)(Jx:#[7])(σ:St)(Q:Bool->Hp->Prop)(b:Bool)(s':Shared):∀H',#[8] H' s'->Q b H':=0
instance AP(X:Cx)(Jx:#[7])(σ:St)(Q:List V->Hp->Prop)(us:List Value)(s':Shared):∀vs H',#[8] H' s'->Vals vs us->Q vs H':=0
instance NP(X:Cx)(Jx:#[7])(N:St->Hp->Prop)(s':Shared):∀ σ' H',Inv X Jx σ' H' s'->N σ' H':=0
instance RP(X:Cx)(Jx:#[7])(Q:VK)(u:Value)(s':Shared):∀v σ' H',Inv X Jx σ' H' s'->RelV v u->Q v H':=0
instance HQ(X:Cx)(Jx:#[7])(σ:St)(Q:Hp->Prop)(s':Shared):∀H',#[8] H' s'->Q H':=0
def SP(X:Cx)(Jx:#[7])(D:Ends)(f:Flow)(s':Shared):Prop:=
 match f with
 |.next=>NP X Jx D.nx s'
 |.brk=>NP X Jx D.bk s'
 |.cont=>NP X Jx D.ct s'
 |.ret u=>RP X Jx D.rt u s'
def PE(X:Cx)(e:Expr)(t:TE):Prop:=
 ∀(Jx:#[7])(s:Shared)(σ:St)(H:Hp)(Q:VK),#[8] H s->t σ H Q->‹X.w› (eval e X.env) (EP X Jx σ Q) X.xe s
def PT(X:Cx)(e:Expr)(t:TT):Prop:=
 ∀(Jx:#[7])(s:Shared)(σ:St)(H:Hp)(Q:Bool->Hp->Prop),#[8] H s->t σ H Q->‹X.w› (isTrue e X.env (eval e X.env)) (TP X Jx σ Q) X.xe s
def PW(X:Cx)(e:Expr)(t:TT):Prop:=
 ∀(whole:Sem Value)(Jx:#[7])(s:Shared)(σ:St)(H:Hp)(Q:Bool->Hp->Prop),#[8] H s->t σ H Q->‹X.w› (isTrue e X.env whole) (TP X Jx σ Q) X.xe s
def PW.pt(h:PW X e t):PT X e t:=h _
def PA(X:Cx)(es:List Expr)(t:TA):Prop:=
 ∀(pos:Pos)(Jx:#[7])(s:Shared)(σ:St)(H:Hp)(Q:List V->Hp->Prop),#[8] H s->t σ H Q->‹X.w› (spliced (backTo pos (starEach es X.env))) (AP X Jx σ Q) X.xe s
def PS(X:Cx)(st:Stmt)(t:TS):Prop:=
 ∀(Jx:#[7])(s:Shared)(σ:St)(H:Hp)(D:Ends),#[8] H s->t D σ H->‹X.w› (exec st X.env) (SP X Jx D) X.xe s
def PSs(X:Cx)(st:List Stmt)(t:TS):Prop:=
 ∀(Jx:#[7])(s:Shared)(σ:St)(H:Hp)(D:Ends),#[8] H s->t D σ H->‹X.w› (execs st X.env) (SP X Jx D) X.xe s
def thn{α:Type}{t:Sem α}{Q Q':α->Shared->Prop}{M:Model}{A:Around}{E:#[6]}{s:Shared}(h:wpAny M A t Q E s)(hQ:∀a s,Q a s->Q' a s):wpAny M A t Q' E s:=jD0 h hQ λ_ _ x=>x
section
variable {X:Cx}
instance tVar(i:Nat)(σ:St)(H:Hp)(Q:VK):∀v,σ[i]?=some (some v)->Q v H:=0
def tC(v:V):TE:=λ_ H Q=>Q v H
def En{i:Nat}{x:Str}{pos:Pos}(hN:X.N[i]?=some x)(hv:Vis X.env.scope x)(hd:(x==("__debug__":Str))=false:=by decide)(hcd:(x==("__classdict__":Str))=false:=by decide):PE X (.Name x pos) (tVar i):=by
 exists 4,Q,I,h;erw[v,e,h]at h;erw[m,hn,hl]at I.loc;let%[u,r|l]:=hl i x v hN e hv;let fin:EP X Jx σ Q u s:=%[v,H,I,r|h]
 rcases l with⟨hk,hm⟩ | ⟨hk,c,hc,hcell⟩
 . exact wpAny_Name (wpAny_loadName_local I.ok.kind hk hn hm fin) hd
 . rcases hk with hk | hk
   . exact wpAny_Name (wpAny_loadName_cell I.ok.kind hk hc hcell fin) hd
   . exact wpAny_Name (wpAny_loadName_free I.ok.kind hk hc hcell fin hcd) hd
def ac{i j pos}:PE X (.Constant (.int i) j pos) (tC (.int i)):=λ_ _ _ H _ I h=>wpAny_Constant_int %[.int i,H,I.tok _,%[|0]|h]
def hR{b j pos}:PE X (.Constant (.bool b) j pos) (tC (.bl b)):=λ_ _ _ H _ I h=>Constant_bool %[.bl b,H,I,1|h]
def Au{j pos}:PE X (.Constant .none j pos) (tC .non):=λ_ _ _ H _ I h=>Constant_none %[.non,H,I,1|h]
def aB{x j pos}:PE X (.Constant (.str x) j pos) (tC (.str x)):=λ_ _ _ H _ I h=>Calls.Constant_str %[.str x,H,I.tok _,%[|0]|h]
def Gl(X:Cx)(x:Str):Prop:=X.env.kindOf x=some .globalImplicit
def nV{E:#[6]}{σ:St}{u:Value}{pos:Pos}{Q:#[6]}(I:#[8] H s)(hg:Gl X x)(hm:X.mg x=some u)(h:Q u s)
 (hd:(x==("__debug__":Str))=false:=by decide):‹X.w› (eval (.Name x pos) X.env) Q E s:=
 Calls.Name_function_global I.ok.kind hg (Calls.loadGlobal_global (by rw[I.ok.glob];exact I.mod.glob.keeps I.bk) hm h) hd
def gR{E:#[6]}{σ:St}{u:Value}{pos:Pos}{Q:#[6]}(I:#[8] H s)(hg:Gl X x)(hm:X.mg x=none)(hv:bootBuiltins x=some u)(h:Q u s)
 (hn:x≠"__name__":=by decide)(hd:(x==("__debug__":Str))=false:=by decide):‹X.w› (eval (.Name x pos) X.env) Q E s:=by
 erw[mb,h1,h2]at I.mod.blt;exact Calls.Name_function_global I.ok.kind hg (Calls.loadGlobal_builtin (by rw[I.ok.glob];exact I.mod.glob.keeps I.bk) hm (by rw[I.ok.blt];exact h1.keeps I.bk) ((h2 x hn).trans hv) h) hd
def cY{u:Value}{pos:Pos}(hg:Gl X x)(hm:X.mg x=some u)(r:RelV v u)(hd:(x==("__debug__":Str))=false:=by decide):PE X (.Name x pos) (tC v):=
 λ_ _ _ H _ I h=>nV I hg hm %[v,H,I,r|h] hd
def su{u:Value}{pos:Pos}(hg:Gl X x)(hm:X.mg x=none)(hv:bootBuiltins x=some u)(r:RelV v u)(hn:x≠"__name__":=by decide)(hd:(x==("__debug__":Str))=false:=by decide):PE X (.Name x pos) (tC v):=
 λ_ _ _ H _ I h=>gR I hg hm hv %[v,H,I,r|h] hn hd
variable {a b:Expr}{ta tb:TE}{pos:Pos}
instance ZtB(Q:(Bool->Hp->Prop))(x:V)(H1:Hp):∀c,x=.bl c->Q c H1:=0
def tB(t:TE):TT:=λσ H Q=>t σ H λx H1=>ZtB Q x H1
def dJ(h:PE X e t)(he:∀whole,isTrue e X.env whole=(do let v ←whole;standAt e.pos;holding [v] (truthy v)):=by intro _;rfl):PT X e (tB t):=by
 exists 4,Q,I,hw;apply isTrue_plain (thn (h Jx s σ H _ I hw) λv s1 ⟨x,H1,I1,r1,q1⟩=>?_) (he _);erw[d,1,q]at q1;cases r1;exact zV1 %[H1,I1|q]
variable {tA tB':TT}{rest:List Expr}
def tAnd(t u:TT):TT:=λσ H Q=>t σ H λc H1=>if c=true then u σ H1 Q else Q false H1
def tOr(t u:TT):TT:=λσ H Q=>t σ H λc H1=>if c=true then Q true H1 else u σ H1 Q
def tNot(t:TT):TT:=λσ H Q=>t σ H λc H1=>Q (!c) H1
def kN(ha:PT X a tA):PW X (.BoolOp .And [a] pos) tA:=by
 intro wh Jx s σ H Q I h;apply isTrue_and (thn (ha Jx s σ H Q I h) λc s1 e=>?_);cases c with
 |true=>exact isTrue_and_nil e
 |false=>exact e
def dI(ha:PT X a tA):PW X (.BoolOp .Or [a] pos) tA:=by
 intro wh Jx s σ H Q I h;apply isTrue_or (thn (ha Jx s σ H Q I h) λc s1 e=>?_);cases c with
 |false=>exact isTrue_or_nil e
 |true=>exact e
def lS(ha:PT X a tA)(hb:PW X (.BoolOp .And (b::rest) pos) tB'):PW X (.BoolOp .And (a::b::rest) pos) (tAnd tA tB'):=by
 intro wh Jx s σ H Q I h;apply isTrue_and (thn (ha Jx s σ H _ I h) λc s1 ⟨H1,I1,q1⟩=>?_);cases c with
 |true=>exact hb wh Jx s1 σ H1 Q I1 q1
 |false=>erw[H1,I1,q1]
def dR(ha:PT X a tA)(hb:PW X (.BoolOp .Or (b::rest) pos) tB'):PW X (.BoolOp .Or (a::b::rest) pos) (tOr tA tB'):=by
 intro wh Jx s σ H Q I h;apply isTrue_or (thn (ha Jx s σ H _ I h) λc s1 ⟨H1,I1,q1⟩=>?_);cases c with
 |true=>erw[H1,I1,q1]
 |false=>exact hb wh Jx s1 σ H1 Q I1 q1
def gy(ha:PT X a tA):PT X (.UnaryOp .Not a pos) (tNot tA):=by
 exists 4,Q,I,h;exact isTrue_not (thn (ha Jx s σ H (λc H1=>Q (!c) H1) I h) λ_ _ ⟨a,b,c⟩=>%[a,b|c])
instance ZtAndV(tb:TE)(σ:St)(Q:VK)(x:V)(H1:Hp):∀c,x=.bl c->(if c=true then tb σ H1 Q else Q (.bl false) H1):=0
def tAndV(ta tb:TE):TE:=λσ H Q=>ta σ H λx H1=>ZtAndV tb σ Q x H1
instance ZtOrV(tb:TE)(σ:St)(Q:VK)(x:V)(H1:Hp):∀c,x=.bl c->(if c=true then Q (.bl true) H1 else tb σ H1 Q):=0
def tOrV(ta tb:TE):TE:=λσ H Q=>ta σ H λx H1=>ZtOrV tb σ Q x H1
instance ZtNotV(Q:VK)(x:V)(H1:Hp):∀c,x=.bl c->Q (.bl (!c)) H1:=0
def tNotV(ta:TE):TE:=λσ H Q=>ta σ H λx H1=>ZtNotV Q x H1
def pw{op}(h:PE X a t):PE X (.BoolOp op [a] pos) t:=λJx s σ H Q I hw=>BoolOp_one (h Jx s σ H Q I hw)
def pA(ha:PE X a ta)(hb:PE X (.BoolOp .And (b::rest) pos) tb):PE X (.BoolOp .And (a::b::rest) pos) (tAndV ta tb):=by
 exists 4,Q,I,h;apply BoolOp_and (thn (ha Jx s σ H _ I h) λv s1 ⟨x,H1,I1,r1,q1⟩=>?_);erw[c,1,q1]at q1;cases r1;apply zV1 ?_;cases c with
 |true=>exact hb Jx s1 σ H1 Q I1 q1
 |false=>erw[.bl false,H1,I1,1,q1]
def DH(ha:PE X a ta)(hb:PE X (.BoolOp .Or (b::rest) pos) tb):PE X (.BoolOp .Or (a::b::rest) pos) (tOrV ta tb):=by
 exists 4,Q,I,h;apply BoolOp_or (thn (ha Jx s σ H _ I h) λv s1 ⟨x,H1,I1,r1,q1⟩=>?_);erw[c,1,q1]at q1;cases r1;apply zV1 ?_;cases c with
 |false=>exact hb Jx s1 σ H1 Q I1 q1
 |true=>erw[.bl true,H1,I1,1,q1]
def At(ha:PE X a ta):PE X (.UnaryOp .Not a pos) (tNotV ta):=by
 exists 4,Q,I,h;apply UnaryOp_ (thn (ha Jx s σ H _ I h) λv s1 ⟨x,H1,I1,r1,q1⟩=>?_);erw[c,1,q1]at q1;cases r1;exact not_of (zV1 %[.bl (!c),H1,I1,1|q1])
def tIf(t:TT)(ta tb:TE):TE:=λσ H Q=>t σ H λc H1=>if c=true then ta σ H1 Q else tb σ H1 Q
def pz(hc:PT X c tA)(ha:PE X a ta)(hb:PE X b tb):PE X (.IfExp c a b pos) (tIf tA ta tb):=by
 exists 4,Q,I,h;apply wpAny_IfExp (thn (hc Jx s σ H _ I h) λd s1 ⟨H1,I1,q1⟩=>?_);cases d with
 |true=>exact ha Jx s1 σ H1 Q I1 q1
 |false=>exact hb Jx s1 σ H1 Q I1 q1
end
def SqL(K:W.Frag)(H:Hp)(a:Addr)(xs:List V):Prop:=
 Rd H a (.lst xs)∨
  ∃(o:Obj) (its:Array Value) (n:Nat),K.lookup a=some o/\o.cls=.type "list"/\o.dict=none/\o.data=.seq its n/\its.size<=sizeLine/\Vals xs its.toList
def SqT(K:W.Frag)(H:Hp)(a:Addr)(xs:List V):Prop:=
 Rd H a (.tup xs)∨
  ∃(o:Obj) (its:Array Value) (n:Nat),K.lookup a=some o/\o.cls=.type "tuple"/\o.data=.seq its n/\its.size<=sizeLine/\Vals xs its.toList
def absV:Value->Option V
 |.none=>some .non
 |.bool b=>some (.bl b)
 |.int i _=>some (.int i)
 |.str x _=>some (.str x)
 |.bytes b _=>some (.byt b)
 |.float b _=>some (.flt b)
 |.ref a=>some (.ref a)
 |.type n=>some (.ty n)
 |_=>none
def RelV.abs(r:RelV x u):absV u=some x:=by
 cases x with
 |non=>cases r;rfl
 |bl _=>cases r;rfl
 |int _=>erw[t,1]at r;rfl
 |str _=>erw[t,1]at r;rfl
 |byt _=>erw[t,1]at r;rfl
 |flt _=>erw[t,1]at r;rfl
 |ref _=>cases r;rfl
 |ty _=>cases r;rfl
def RelV.inj(r:RelV x u)(q:RelV y u):x=y:=zT0 (r.abs.symm.trans q.abs)
def Vals.inj:∀{xs ys:List V}{us:List Value},Vals xs us->Vals ys us->xs=ys
 |_,_,_,.nil,.nil=>rfl
 |_,_,_,.cons r t,.cons r' t'=>by rw[r.inj r',Vals.inj t t']
section
variable {X:Cx}{Jx:#[7]}{σ:St}{H:Hp}{s:Shared}{a:Addr}{xs ys:List V}
def zG0{K:W.Frag}(h:H a=some (.lst xs)):SqL K H a xs:=.inl (.inl h)
abbrev SqL.of:=@zG0
def zB0{K:W.Frag}(h:H a=some (.tup xs)):SqT K H a xs:=.inl (.inl h)
abbrev SqT.of:=@zB0
def Inv.list(I:#[8] H s)(h:SqL X.K H a xs):∃its:List Value,Vals xs its/\PlainL s.heap a its.toArray/\xs.length<=sizeLine:=by
 rcases h with h | ⟨o,its,n,hk,hc,hd,hs,hz,r⟩
 . let%[z,its,n,r|e]:=h.ok I.hok;erw[its,r,%[_,n,e,1,1|1],z]
 . erw[its.toList,r,%[o,n,I.kIn a o hk,hc,hd|by simpa using hs],6];let e:=r.length;simp only[zT1]at e;omega
def Inv.tuple(I:#[8] H s)(h:SqT X.K H a xs):∃its:List Value,Vals xs its/\IsTup s.heap a its.toArray/\xs.length<=sizeLine:=by
 rcases h with h | ⟨o,its,n,hk,hc,hs,hz,r⟩
 . let%[z,its,r,p|_]:=h.ok I.hok;erw[its,r,p,z]
 . erw[its.toList,r,%[o,I.kIn a o hk,hc,n|by simpa using hs],6];let e:=r.length;simp only[zT1]at e;omega
def Inv.list_inj(I:#[8] H s)(h:SqL X.K H a xs)(h':SqL X.K H a ys):xs=ys:=by
 let%[its,r,%[o,n,e,_,_|d]|_]:=I.list h;let%[its',r',%[o',n',e',_,_|d']|_]:=I.list h';rw[e]at e';cases e';rw[d]at d';injection d' with d1 _
 have:its=its':=#[congrArg Array.toList d1,0]
 subst this;exact r.inj r'
def Inv.tuple_inj(I:#[8] H s)(h:SqT X.K H a xs)(h':SqT X.K H a ys):xs=ys:=by
 let%[its,r,%[o,e,_,n|d]|_]:=I.tuple h;let%[its',r',%[o',e',_,n'|d']|_]:=I.tuple h';rw[e]at e';cases e';rw[d]at d';injection d' with d1 _
 have:its=its':=#[congrArg Array.toList d1,0]
 subst this;exact r.inj r'
end
abbrev Cx.wish(X:Cx)(E:#[6]):Cx:={ X with xe:=E }
abbrev Cx.nox(X:Cx):Cx:=X.wish λ_ _=>False
def Cx.Ok.wish{X:Cx}(ok:X.Ok)(E:#[6]):(X.wish E).Ok:=
 %[ok.mod,ok.kind,ok.glob,ok.blt,ok.above,ok.inj,ok.has,ok.cab,ok.hd,ok.frames,ok.stk,ok.exf,ok.bs,ok.bsz,ok.noex,ok.exfs,ok.funs|ok.frf]
def Cx.Ok.unwish{X:Cx}{E:#[6]}(ok:(X.wish E).Ok):X.Ok:=
 %[ok.mod,ok.kind,ok.glob,ok.blt,ok.above,ok.inj,ok.has,ok.cab,ok.hd,ok.frames,ok.stk,ok.exf,ok.bs,ok.bsz,ok.noex,ok.exfs,ok.funs|ok.frf]
section
variable {X:Cx}{Jx:#[7]}{σ:St}{H:Hp}{s:Shared}{E:#[6]}
def Inv.wish(I:#[8] H s)(E:#[6]):Inv (X.wish E) Jx σ H s:=%[I.ok.wish E,I.os,I.bare,I.base,I.loc,I.cell,I.free,I.freeC,I.pin,I.hok|I.len]
def Inv.unwish(I:Inv (X.wish E) Jx σ H s):#[8] H s:=%[I.ok.unwish,I.os,I.bare,I.base,I.loc,I.cell,I.free,I.freeC,I.pin,I.hok|I.len]
def SP.unwish(h:SP (X.wish E) Jx D f s'):SP X Jx D f s':=by
 cases f with
 |next=>erw[σ',H',I,q]at h;erw[σ',H',I.unwish,q]
 |brk=>erw[σ',H',I,q]at h;erw[σ',H',I.unwish,q]
 |cont=>erw[σ',H',I,q]at h;erw[σ',H',I.unwish,q]
 |ret u=>erw[v,σ',H',I,r,q]at h;erw[v,σ',H',I.unwish,r,q]
def PSs.nox{st:List Stmt}(h:PSs X.nox st t):PSs X st t:=λJx s σ H D I hw=>
 jD0 (h Jx s σ H D (I.wish _) hw) (λ_ _ q=>q.unwish) λ_ _ z=>False.elim z
end
section
variable {X:Cx}{st:Stmt}{rest:List Stmt}{t u:TS}{e:Expr}{te:TE}{pos:Pos}
def DB:TS:=λD σ H=>D.nx σ H
def DX(t u:TS):TS:=λD σ H=>t { D with nx:=u D } σ H
def ax:PSs X [] DB:=λ_ _ σ H _ I h=>jJ0 %[σ,H,I|h]
def aa(h1:PS X st t)(h2:PSs X rest u):PSs X (st::rest) (DX t u):=by
 exists 4,D,I,h;apply wpAny_execs_cons (thn (h1 Jx s σ H { D with nx:=u D } I h) λf s1 q=>?_);cases f with
 |next=>
   erw[σ',H',I',q]at q;exact h2 Jx s1 σ' H' D I' q
 |ret v=>exact q
 |brk=>exact q
 |cont=>exact q
def ad(h1:PS X st t):PSs X [st] t:=by
 exists 4,D,I,h;apply wpAny_execs_cons (thn (h1 Jx s σ H D I h) λf s1 q=>?_);cases f with
 |next=>exact jJ0 q
 |ret v=>exact q
 |brk=>exact q
 |cont=>exact q
def Inv.quiet{σ:St}(I:#[8] H s):interactive X.env=false:=by simp [interactive,I.ok.kind]
def tDrop(te:TE):TS:=λD σ H=>te σ H λ_ H1=>D.nx σ H1
def aS(he:PE X e te)(hs:swapsWith e none pos.line X.env=pure false:=by rfl):PS X (.Expr e pos) (tDrop te):=by
 exists 4,D,I,h;exact wpAny_Expr_any (thn (he Jx s σ H _ I h) λv s1 ⟨x,H1,I1,r1,q1⟩=>%[σ,H1,I1|q1]) I.quiet hs
def tRet(te:TE):TS:=λD σ H=>te σ H D.rt
def aq(he:PE X e te):PS X (.Return (some e) pos) (tRet te):=by
 exists 4,D,I,h;exact wpAny_Return_some (thn (he Jx s σ H _ I h) λv s1 ⟨x,H1,I1,r1,q1⟩=>%[x,σ,H1,I1,r1|q1])
def DZ(c:TT)(t u:TS):TS:=λD σ H=>c σ H λb H1=>if b=true then t D σ H1 else u D σ H1
def aG(hc:PT X c tc)(ha:PSs X a t)(hb:PSs X b u):PS X (.If c a b pos) (DZ tc t u):=by
 exists 4,D,I,h;apply wpAny_If (thn (hc Jx s σ H _ I h) λd s1 ⟨H1,I1,q1⟩=>?_);cases d with
 |true=>exact ha Jx s1 σ H1 D I1 q1
 |false=>exact hb Jx s1 σ H1 D I1 q1
def zA:TS:=λ_ _ _=>False
def tQ:PS X st zA:=λ_ _ _ _ _ _ h=>h.elim
def bu:PSs X sts zA:=λ_ _ _ _ _ _ h=>h.elim
end
abbrev TG:=V->St->Hp->(St->Hp->Prop)->Prop
abbrev TGs:=List V->St->Hp->(St->Hp->Prop)->Prop
def PG(X:Cx)(target:Expr)(t:TG):Prop:=
 ∀(Jx:#[7])(s:Shared)(σ:St)(H:Hp)(v:V)(u:Value)(Q:St->Hp->Prop),#[8] H s->RelV v u->t v σ H Q ->
  ‹X.w› (assign target X.env u) (λ_ s'=>NP X Jx Q s') X.xe s
def PGs(X:Cx)(ts:List Expr)(t:TGs):Prop:=
 ∀(Jx:#[7])(s:Shared)(σ:St)(H:Hp)(vs:List V)(us:List Value)(Q:St->Hp->Prop),#[8] H s->Vals vs us->t vs σ H Q ->
  ‹X.w› (assignInOrder ((assignEach ts X.env).map (·.2)) us) (λ_ s'=>NP X Jx Q s') X.xe s
abbrev Fn:=V->V->V->Hp->(Hp->Prop)->Prop
def PSet(X:Cx)(t:Fn):Prop:=
 ∀(Jx:#[7])(s:Shared)(σ:St)(H:Hp)(o i v:V)(ov iv u:Value)(Q:Hp->Prop),#[8] H s->RelV o ov->RelV i iv->RelV v u->t o i v H Q ->
  ‹X.w› (setItem ov iv u) (λ_ s'=>HQ X Jx σ Q s') X.xe s
section
variable {X:Cx}{pos:Pos}
def uD(i:Nat):TG:=λv σ H Q=>Q (σ.set i (some v)) H
def bg{i:Nat}{x:Str}(hN:X.N.Nodup)(hi:X.N[i]?=some x)(hx:Loc X.env.scope x)(hf:X.fn x=true∨X.env.scope.names.lookup x=some .local:=by first | exact .inl rfl | exact .inr rfl | assumption):PG X (.Name x pos) (uD i):=by
 exists 4,v,u,Q,I,r,h;exact wpAny_assign_Name (tH I hN hi hx r (λs' I'=>%[_,H,I'|h]) hf)
instance gNil(vs:List V)(σ:St)(H:Hp)(Q:(St->Hp->Prop)):vs=[]->Q σ H:=0
instance gCons(t:TG)(u:TGs)(vs:List V)(σ:St)(H:Hp)(Q:(St->Hp->Prop)):∀v r,vs=v::r->(t v σ H λσ' H'=>u r σ' H' Q):=0
def jx:PGs X [] gNil:=by
 exists 4,vs,us,Q,I,r,h;erw[e,h]at h;subst e;cases r;exact assignInOrder_nil %[σ,H,I|h]
def db(h1:PG X e t)(h2:PGs X es u)
 (hs:(assignEach (e::es) X.env).map (·.2)=assign e X.env::(assignEach es X.env).map (·.2):=by rfl):PGs X (e::es) (gCons t u):=by
 exists 4,vs,us,Q,I,r,h;erw[v,vr,e1,h]at h;subst e1;cases r with
 |cons r rr=>
   rw[hs];apply assignInOrder_cons (thn (h1 Jx s σ H _ _ _ I r h) λ_ s1 ⟨σ1,H1,I1,q1⟩=>?_);exact h2 Jx s1 σ1 H1 _ _ Q I1 rr q1
instance gTup(K:W.Frag)(n:Nat)(t:TGs)(v:V)(σ:St)(H:Hp)(Q:(St->Hp->Prop)):∀a xs,v=.ref a->SqT K H a xs->xs.length=n->t xs σ H Q:=0
def lW{k:Nat}{n:Nat}(hc:X.calm=true)(h:PGs X es t)
 (hn:(assignEach es X.env).length=n:=by rfl)(JE:(assignEach es X.env).findIdx? (·.1)=none:=by rfl):PG X (.Tuple es k pos) (gTup X.K n t):=by
 exists 4,v,u,Q,I,r,hw;erw[a,xs,e1,hq,hl,hw]at hw;subst e1;cases r;let%[its,rv,ht|hz]:=I.tuple hq;apply assign_Tuple_tuple (I.ok.hd hc) ht (by simp [hn,←hl,rv.length]) JE λh' hx=>?_
 let I1:#[8] H { s with heap:=h' }:=I.kept (t':=s.toks) λb o e=>hx b o (qB0 (zO0 e)) e
 exact h Jx _ σ H xs _ Q I1 #[rv,0] hw
def gSub(to ti:TE)(t:Fn):TG:=λv σ H Q=>to σ H λo H1=>ti σ H1 λi H2=>t o i v H2 λH3=>Q σ H3
def vH(ho:PE X o to)(hi:PE X i ti)(hs:PSet X t)
 (ha:∀v,assign (.Subscript o i pos) X.env v=(do
  let ov ←holding [v] (eval o X.env)
  let iv ←holding [v,ov] (eval i X.env)
  standAt pos
  holding [v,ov,iv] (setItem ov iv v)
  release [v,ov,iv] []):=by intro _;rfl):PG X (.Subscript o i pos) (gSub to ti t):=by
 exists 4,v,u,Q,I,r,h;rw[ha];apply zD0 (qH1 (thn (ho Jx s σ H _ I h) λov s1 ⟨x,H1,I1,r1,q1⟩=>?_));apply zD0 (qH1 (thn (hi Jx s1 σ H1 _ I1 q1) λiv s2 ⟨y,H2,I2,r2,q2⟩=>?_));apply zD0 (wK1 (zD0 (qH1 (thn (hs Jx s2 σ H2 x y v ov iv u _ I2 r1 r2 r q2) λ_ s3 ⟨H3,I3,q3⟩=>?_))));exact wpAny_release %[σ,H3,I3|q3]
def zF(te:TE)(g:TG):TS:=λD σ H=>te σ H λx H1=>g x σ H1 D.nx
def lT(he:PE X e te)(hg:PG X tg g)(hs:swapsWithSole [tg] e pos.line X.env=pure false:=by rfl)(hw:swappedStores [tg] e X.env=pure none:=by rfl)
 (h1:(assignEach [tg] X.env).map (·.2)=[assign tg X.env]:=by rfl):PS X (.Assign [tg] e pos) (zF te g):=by
 exists 4,D,I,h;apply wpAny_Assign_stores (thn (he Jx s σ H _ I h) λv s1 ⟨x,H1,I1,r1,q1⟩=>?_) hs hw;rw[h1];exact thn (hg Jx s1 σ H1 x v _ I1 r1 q1) λ_ s2 q=>q
def am{i:Nat}{x:Str}{pos':Pos}(hN:X.N.Nodup)(hi:X.N[i]?=some x)(hx:Loc X.env.scope x)(he:PE X e te)(hs:swapsWith e (some (.Name x pos')) pos.line X.env=pure false:=by rfl)(hf:X.fn x=true∨X.env.scope.names.lookup x=some .local:=by first | exact .inl rfl | exact .inr rfl | assumption):
 PS X (.Assign [.Name x pos'] e pos) (zF te (uD i)):=by
 exists 4,D,I,h;apply wpAny_Assign_Name (thn (he Jx s σ H _ I h) λv s1 ⟨y,H1,I1,r1,q1⟩=>?_) hs;exact tH I1 hN hi hx r1 (λs2 I2=>%[_,H1,I2|q1]) hf
end
section
variable {X:Cx}{pos:Pos}
def zz(c:TT)(tb:TS):TS:=λD σ H=>∃W:Nat->St->Hp->Prop,(∃m,W m σ H)/\∀m σ H,W m σ H ->
 c σ H λb H1=>if b=true then ∃N:St->Hp->Prop,(∀ σ' H',N σ' H'->∃m',m'<m/\W m' σ' H')/\tb { D with nx:=N,ct:=N,bk:=D.nx } σ H1 else D.nx σ H1
def hJ(hp:PassesOwn (model X.prog X.w) X.A X.env X.xe)(hc:PT X c tc)(hb:PSs X body tb):PS X (.While c body [] pos) (zz tc tb):=by
 exists 4,D,I,h;erw[W,%[m0|w0],turn]at h;apply wpAny_While (codeAny_whileLoop (λn s'=>NP X Jx (W n) s') ?_ m0 %[σ,H,I|w0]);rintro n s1 ⟨σ1,H1,I1,w1⟩;apply qS1 hp (thn (hc Jx s1 σ1 H1 _ I1 (turn n σ1 H1 w1)) λb s2 ⟨H2,I2,q2⟩=>?_);cases b with
 |true=>
   erw[N,hN,q2]at q2;rw[JB rfl];apply qS1 hp (thn (hb Jx s2 σ1 H2 _ I2 q2) λf s3 q3=>?_);cases f with
   |next=>
     erw[σ3,H3,I3,n3]at q3;let%[m',hm|w3]:=hN σ3 H3 n3;erw[m',hm,σ3,H3,I3,w3]
   |cont=>
     erw[σ3,H3,I3,n3]at q3;let%[m',hm|w3]:=hN σ3 H3 n3;erw[m',hm,σ3,H3,I3,w3]
   |brk=>exact q3
   |ret v=>exact q3
 |false=>
   rw[Jy zY0];exact jJ0 %[σ1,H2,I2|q2]
end
structure It where
 go:Nat->Hp->Prop
 yld:Nat->Hp->V->Hp->Prop
 stop:Nat->Hp->Prop
def lB(X:Cx)(Jx:#[7])(H:Hp)(b:Addr):Prop:=
 H b=none/\b≠X.env.locals/\b∉X.fs/\(b∈X.ex∨X.s₀.heap.objs.size<=b)/\(∀x c,X.env.cells.lookup x=some c->c≠b)/\∀p∈X.pn++Jx,p.1≠b
def Inv.fpOk{σ:St}{H':Hp}{b:Addr}(I:#[8] H s)(hb:‹s›<=b)(hn:H' b=none):lB X Jx H' b:=by
 erw[hn,wQ0 (qL0 I.lt hb),I.nofs hb,.inr (zM0 I.sz hb),λx c e z=>?_,λp hp z=>?_]
 . let%[v|q]:=I.cell x c e;exact absurd (qL0 q.lt (by rw[z];exact hb)) (qU0 _)
 . exact absurd (qL0 (zO0 (I.pin p hp).1) (by rw[z];exact hb)) (qU0 _)
structure Turn(P:Program)(w:World)(K:W.Frag)(tg:Expr)(J:It)(fp:List Addr)(it:Addr)(tn:Nat->Heap->Prop):Prop where
 mem:it∈fp
 obj:∀i h,tn i h->∀b∈fp,∃o,h.get? b=some o/\∀v,o.data≠.cell v
 keep:∀i h h',tn i h->(∀b∈fp,∀o,h.get? b=some o->h'.get? b=some o)->tn i h'
 item:∀(X:Cx),X.prog=P->X.w=w->X.K=K->X.calm=true->∀(i:Nat)(Jx:#[7])(s:Shared)(σ:St)(H:Hp)(E:#[6]),#[8] H s->(∀b∈fp,lB X Jx H b)->tn i s.heap->J.go i H ->
  wpAny (model P w) X.A (pyNext (.ref it)) (λr s1=>∃u,r=some u/\
   wpAny (model P w) X.A (letOwnedTupleGo tg (.ref it) u) (λ_ s2=>∃x H',#[8] H' s2/\RelV x u/\J.yld i H x H'/\tn (i+1) s2.heap/\∀b∈fp,H' b=none) E s1) E s
 done:∀(X:Cx),X.prog=P->X.w=w->X.K=K->X.calm=true->∀(i:Nat)(Jx:#[7])(s:Shared)(σ:St)(H:Hp)(E:#[6]),#[8] H s->(∀b∈fp,lB X Jx H b)->tn i s.heap->J.stop i H ->
  wpAny (model P w) X.A (pyNext (.ref it)) (λr s1=>r=none/\#[8] H s1) E s
 self:∀(A:Around)(i:Nat)(s:Shared)(Q:#[6])(E:#[6]),tn i s.heap->Q (.ref it) s->wpAny (model P w) A (pyIter (.ref it)) Q E s
abbrev TI:=St->Hp->(It->Hp->Prop)->Prop
def PIE(X:Cx)(Jx:#[7])(σ:St)(tg:Expr)(R:It->Hp->Prop)(itv:Value)(s2:Shared):Prop:=
 ∃(it:Addr)(fp:List Addr)(tn:Nat->Heap->Prop)(J:It)(H':Hp),itv=.ref it/\#[8] H' s2/\Turn X.prog X.w X.K tg J fp it tn/\tn 0 s2.heap/\(∀b∈fp,lB X Jx H' b)/\R J H'
def PI(X:Cx)(tg iter:Expr)(wi:TI):Prop:=
 ∀(Jx:#[7])(s:Shared)(σ:St)(H:Hp)(R:It->Hp->Prop),#[8] H s->wi σ H R ->
  ‹X.w› (eval iter X.env) (λv s1=>‹X.w› (pyIter v) (PIE X Jx σ tg R) X.xe s1) X.xe s
def uB{M:Model}{A:Around}{E:#[6]}{s:Shared}{tg:Expr}{it:Addr}{u:Value}{o:Obj}{n:String}{vs:Array Value}{Q:Unit->Shared->Prop}(ho:s.heap.get? it=some o)(hc:o.cls=.type n)(hd:o.data=.fields vs)
 (hn:["enumerate","zip","dict_itemiterator","dict_reverseitemiterator","odict_iterator","itertools.zip_longest","itertools.pairwise"].contains n=false)(hQ:Q () s):wpAny M A (letOwnedTupleGo tg (.ref it) u) Q E s:=by
 unfold letOwnedTupleGo;cases tg <;> first
  |exact zI0 hQ
  | (cases u <;> first
   |exact zI0 hQ
   | (apply zD0 (wpAny_load ho ?_)
      rw[hc,hd];show wpAny M A (if(["enumerate","zip","dict_itemiterator","dict_reverseitemiterator","odict_iterator","itertools.zip_longest","itertools.pairwise"].contains n&&vs[0]?==some (rawInt _))=true then _ else _) Q E s;rw[Jy (by intro h;rw[hn,Bool.false_and]at h;cases h)];exact zI0 hQ))
def Itl(K:W.Frag)(a:Addr):It:=
 ⟨λi H=>∃xs x,SqL K H a xs/\xs[i]?=some x,λi H x H'=>H'=H/\∀xs,SqL K H a xs->xs[i]?=some x,λi H=>∃xs,SqL K H a xs/\xs.length<=i⟩
def Itt(K:W.Frag)(a:Addr):It:=
 ⟨λi H=>∃xs x,SqT K H a xs/\xs[i]?=some x,λi H x H'=>H'=H/\∀xs,SqT K H a xs->xs[i]?=some x,λi H=>∃xs,SqT K H a xs/\xs.length<=i⟩
def Itr(lo:Int)(n:Nat):It:=%[λi _=>i<n,λi H x H'=>H'=H/\x=.int (lo+i)|λi _=>n<=i]
def qB{K:W.Frag}(a it:Addr):Turn P w K tg (Itl K a) [it] it (λi h=>h.IsListIter it a i) where
 mem:=by simp
 obj:=λi h st b hb=>by
  let e:b=it:=#[hb,0]
  subst e;erw[o,e,c,d]at st;erw[o,e,λv z=>by rw[d]at z;cases z]
 keep:=λi h h' st k=>st.at λo e=>k it #[2] o e
 item:=by
  exists 5;erw[xs,x,hq,hx]at hg;let%[its,rv,p|hz]:=I.list hq;let%[u,hu|ru]:=rv.get hx;let%[f0,f1,f2,f3,f4|f5]:=hf it #[2];apply wpAny_pyNext_list_item st p.isList (x:=u) #[hu,0] λh' st' sb=>?_
  let I1:#[8] H { s with heap:=h' }:=I.turned (t':=s.toks) (λb o hb e=>(sb.2 b hb).trans e) f0 f1 f3 f4 f5;let%[o,e,c|d]:=id st';erw[u,1,uB (s:={ s with heap:=h' }) e c d ⋯ ⟨x,H,I1,ru,⟨rfl,λys hy=>by rw[I.list_inj hy hq];exact hx⟩,st',λb hb=>(hf b hb).1⟩]
 done:=by
  exists 5;erw[xs,hq,hx]at hg;let%[its,rv,p|hz]:=I.list hq;let%[f0,f1,f2,f3,f4|f5]:=hf it #[2];let hl:=rv.length;exact wpAny_pyNext_list_end (I.ok.hd hc) st p.isList (by simp;omega) λh' eb=>%[1|I.turned (t':=s.toks) (λb o hb e=>eb b o hb e) f0 f1 f3 f4 f5]
 self:=λ_ _ _ _ _ st h=>wpAny_pyIter_listiter st h
def oj{K:W.Frag}(a it:Addr):Turn P w K tg (Itt K a) [it] it (λi h=>h.IsTupleIter it a i) where
 mem:=by simp
 obj:=λi h st b hb=>by
  let e:b=it:=#[hb,0]
  subst e;erw[o,e,c,d]at st;erw[o,e,λv z=>by rw[d]at z;cases z]
 keep:=λi h h' st k=>st.at λo e=>k it #[2] o e
 item:=by
  exists 5;erw[xs,x,hq,hx]at hg;let%[its,rv,p|hz]:=I.tuple hq;let%[u,hu|ru]:=rv.get hx;let%[f0,f1,f2,f3,f4|f5]:=hf it #[2];apply wpAny_pyNext_tuple_item st (show s.heap.IsTuple a its.toArray from p) (x:=u) #[hu,0] λh' st' sb=>?_
  let I1:#[8] H { s with heap:=h' }:=I.turned (t':=s.toks) (λb o hb e=>(sb.2 b hb).trans e) f0 f1 f3 f4 f5;let%[o,e,c|d]:=id st';erw[u,1,uB (s:={ s with heap:=h' }) e c d ⋯ ⟨x,H,I1,ru,⟨rfl,λys hy=>by rw[I.tuple_inj hy hq];exact hx⟩,st',λb hb=>(hf b hb).1⟩]
 done:=by
  exists 5;erw[xs,hq,hx]at hg;let%[its,rv,p|hz]:=I.tuple hq;let%[f0,f1,f2,f3,f4|f5]:=hf it #[2];let hl:=rv.length;exact wpAny_pyNext_tuple_end (I.ok.hd hc) st (show s.heap.IsTuple a its.toArray from p) (by simp;omega) λh' eb=>%[1|I.turned (t':=s.toks) (λb o hb e=>eb b o hb e) f0 f1 f3 f4 f5]
 self:=λ_ _ _ _ _ st h=>wpAny_pyIter_tupleiter st h
def uX{K:W.Frag}(it:Addr)(lo:Int)(n:Nat):Turn P w K tg (Itr lo n) [it] it (λi h=>IsRangeIter h it (lo+(i:Nat)*1) ((n:Int)-(i:Nat)) 1) where
 mem:=by simp
 obj:=λi h st b hb=>by
  let e:b=it:=#[hb,0]
  subst e;exact⟨_,st,λv z=>by
   let z':Data.fields _=Data.cell v:=z;cases z'⟩
 keep:=λi h h' st k=>k it #[2] _ st
 item:=by
  exists 5;let%[f0,f1,f2,f3,f4|f5]:=hf it #[2];let W:=Walks.range (prog:=X.prog) (w:=X.w) (I.ok.hd hc) it lo 1 n;apply W.item i s _ _ hg st λv h' tk hv st' kk=>?_
  erw[t,1]at hv;let I1:#[8] H { s with heap:=h',toks:=tk }:=I.turned (λb o hb e=>kk b o #[hb,0] e) f0 f1 f3 f4 f5;erw[0,uB (s:={ s with heap:=h',toks:=tk }) (n:="range_iterator") st' rfl rfl ⋯ ⟨.int (lo+i),H,I1,⟨t,?_⟩,⟨rfl,rfl⟩,st',λb hb=>(hf b hb).1⟩];rw[wL0]
 done:=by
  exists 5;let%[f0,f1,f2,f3,f4|f5]:=hf it #[2];exact wpAny_pyNext_range_end (I.ok.hd hc) st (by have:n<=i:=hg;omega) λh' eb=>%[1|I.turned (t':=s.toks) (λb o hb e=>eb b o hb e) f0 f1 f3 f4 f5]
 self:=λ_ _ _ _ _ st h=>wpAny_pyIter_rangeiter st h
section
variable {X:Cx}{tg:Expr}
instance ZiList(K:W.Frag)(R:(It->Hp->Prop))(x:V)(H1:Hp):∀a,x=.ref a->(∃xs,SqL K H1 a xs)->R (Itl K a) H1:=0
def iList(K:W.Frag)(tl:TE):TI:=λσ H R=>tl σ H λx H1=>ZiList K R x H1
instance ZiTup(K:W.Frag)(R:(It->Hp->Prop))(x:V)(H1:Hp):∀a,x=.ref a->(∃xs,SqT K H1 a xs)->R (Itt K a) H1:=0
def iTup(K:W.Frag)(tl:TE):TI:=λσ H R=>tl σ H λx H1=>ZiTup K R x H1
def fL(hl:PE X l tl):PI X tg l (iList X.K tl):=by
 exists 4,R,I,h;apply thn (hl Jx s σ H _ I h) λv s1 ⟨x,H1,I1,r1,q1⟩=>?_
 erw[a,e,%[xs|hq],q]at q1;subst e;cases r1;let%[its,rv,p|hz]:=I1.list hq;apply jD1 p.isList ?_;erw[‹s1›,[‹s1›],_,_,H1,1,I1.kept (t':=s1.toks) λb o e=>zR0 _ e,qB a _,%[_,qA0 _ rfl,1|1],λb hb=>?_,q];let e:b=‹s1›:=#[hb,0]
 subst e;exact I1.fpOk (zH0 _) (I1.hok.fresh (zH0 _))
def fu(hl:PE X l tl):PI X tg l (iTup X.K tl):=by
 exists 4,R,I,h;apply thn (hl Jx s σ H _ I h) λv s1 ⟨x,H1,I1,r1,q1⟩=>?_
 erw[a,e,%[xs|hq],q]at q1;subst e;cases r1;let%[its,rv,p|hz]:=I1.tuple hq;apply qZ0 (show s1.heap.IsTuple a its.toArray from p) ?_;erw[‹s1›,[‹s1›],_,_,H1,1,I1.kept (t':=s1.toks) λb o e=>zR0 _ e,oj a _,%[_,qA0 _ rfl,1|1],λb hb=>?_,q];let e:b=‹s1›:=#[hb,0]
 subst e;exact I1.fpOk (zH0 _) (I1.hok.fresh (zH0 _))
def tO{σ:St}{R:It->Hp->Prop}{E:#[6]}{lo hi:Int}{t u v:Tok}{tk:Nat}(I:#[8] H s)(h1:-(2 ^ 62)<=lo)(h2:lo<2 ^ 62)(h3:-(2 ^ 62)<=hi)(h4:hi<2 ^ 62)
 (q:R (Itr lo (hi-lo).toNat) H):‹X.w› (pyIter (.ref ‹s›)) (PIE X Jx σ tg R) E { s with heap:=s.heap.push { cls:=.type "range",data:=.fields #[.int lo t,.int hi u,.int 1 v] },toks:=tk }:=by
 apply wpAny_pyIter_range (IsRange.new ..) (small_one h1 h2 h3 h4) ?_;let I1:#[8] H { s with heap:=s.heap.push { cls:=.type "range",data:=.fields #[.int lo t,.int hi u,.int 1 v] },toks:=tk }:=I.kept λb o e=>zR0 _ e
 erw[(s.heap.push { cls:=.type "range",data:=.fields #[.int lo t,.int hi u,.int 1 v] }).objs.size,[(s.heap.push { cls:=.type "range",data:=.fields #[.int lo t,.int hi u,.int 1 v] }).objs.size],_,_,H,1,I1.kept (t':=tk) λb o e=>zR0 _ e,uX _ lo (hi-lo).toNat,6,λb hb=>?_,q]
 . let e1:lo+((0:Nat):Int)*1=lo:=by simp
   let e2:(((hi-lo).toNat:Nat):Int)-((0:Nat):Int)=Builtin.Range.rangeSize lo hi 1:=by rw[rangeSize_one];split <;> omega
   show IsRangeIter _ _ (lo+((0:Nat):Int)*1) ((((hi-lo).toNat:Nat):Int)-((0:Nat):Int)) 1;rw[e1,e2];exact qA0 _ rfl
 . let e:b=(s.heap.push { cls:=.type "range",data:=.fields #[.int lo t,.int hi u,.int 1 v] }).objs.size:=#[hb,0]
   subst e;exact I1.fpOk (zH0 _) (I1.hok.fresh (zH0 _))
instance ZiRng1(R:(It->Hp->Prop))(vs:(List V))(H1:Hp):∀j:Int,vs=[.int j]->-(2 ^ 62)<=j->j<2 ^ 62->R (Itr 0 j.toNat) H1:=0
def iRng1(ta:TA):TI:=λσ H R=>ta σ H λvs H1=>ZiRng1 R vs H1
instance ZiRng2(R:(It->Hp->Prop))(vs:(List V))(H1:Hp):∀i j:Int,vs=[.int i,.int j]->-(2 ^ 62)<=i/\i<2 ^ 62/\-(2 ^ 62)<=j/\j<2 ^ 62->R (Itr i (j-i).toNat) H1:=0
def iRng2(ta:TA):TI:=λσ H R=>ta σ H λvs H1=>ZiRng2 R vs H1
def cu{a:Expr}{p pos:Pos}(hg:Gl X "range")(hm:X.mg "range"=none)(ha:PA X [a] ta)(hs:starEach [a] X.env=[(false,eval a X.env)]:=by rfl):PI X tg (.Call (.Name "range" p) [a] [] pos) (iRng1 ta):=by
 exists 4,R,I,h;apply Call_ (gR I hg hm boot_range (zN1 (thn (ha pos Jx s σ H _ I h) λus s1 ⟨vs,H1,I1,r1,q1⟩=>?_) hs rfl));erw[j,e,q1,q2,q]at q1;subst e;cases r1 with
 |cons r rr=>
   cases rr;erw[t,1]at r;exact call_range_1 (tO I1 #[0] #[0] q1 q2 #[q,0])
def qL{a b:Expr}{p pos:Pos}(hg:Gl X "range")(hm:X.mg "range"=none)(ha:PA X [a,b] ta)(hs:starEach [a,b] X.env=[(false,eval a X.env),(false,eval b X.env)]:=by rfl)(hs2:starEach [b] X.env=[(false,eval b X.env)]:=by rfl):
 PI X tg (.Call (.Name "range" p) [a,b] [] pos) (iRng2 ta):=by
 exists 4,R,I,h;apply Call_ (gR I hg hm boot_range (zN1 (thn (ha pos Jx s σ H _ I h) λus s1 ⟨vs,H1,I1,r1,q1⟩=>?_) (by rw[hs,hs2]) (by rw[hs2];rfl)));erw[i,j,e,%[q1,q2,q3|q4],q]at q1;subst e;cases r1 with
 |cons r rr=>
   cases rr with
   |cons r' rr=>
     cases rr;erw[t,1]at r;erw[t',1]at r';exact call_range_2 (tO I1 q1 q2 q3 q4 q)
def tFor(wi:TI)(g:TG)(tb:TS):TS:=λD σ H=>wi σ H λJ H1=>∃W:Nat->Nat->St->Hp->Prop,(∃m,W 0 m σ H1)/\∀i m σ H,W i m σ H ->
 (J.stop i H/\D.nx σ H)∨(J.go i H/\∃N:St->Hp->Prop,(∀ σ' H',N σ' H'->∃m',m'<m/\W (i+1) m' σ' H')/\∀x H',J.yld i H x H'->g x σ H' λσ2 H2=>tb { D with nx:=N,ct:=N,bk:=D.nx } σ2 H2)
def pq(fp:List Addr)(h:Heap):#[7]:=fp.filterMap λb=>(h.get? b).map λo=>(b,o)
def iB{fp:List Addr}{h:Heap}{b:Addr}{o:Obj}(hb:b∈fp)(e:h.get? b=some o):(b,o)∈pq fp h:=List.mem_filterMap.mpr %[b,hb|by rw[e];rfl]
def yv{p:Addr×Obj}(hp:p∈pq fp h):p.1∈fp/\h.get? p.1=some p.2:=by
 let%[b,hb|e]:=List.mem_filterMap.mp hp;cases q:h.get? b with
 |none=>rw[q]at e;cases e
 |some o=>
   rw[q]at e;let e':(b,o)=p:=zT0 e;subst e';erw[hb,q]
def Inv.pinned{σ:St}{fp:List Addr}(I:#[8] H s)(hf:∀b∈fp,lB X Jx H b)(ho:∀b∈fp,∃o,s.heap.get? b=some o/\∀v,o.data≠.cell v):Inv X (Jx++pq fp s.heap) σ H s:=
 I.pins_of λp hp=>(qJ0 hp).elim (λz=>I.pin p (qR0 _ z)) λz=>by
  let%[hb|e]:=yv z;let%[f0,f1,f2|_]:=hf p.1 hb;let%[o,e'|d]:=ho p.1 hb;rw[e]at e';cases e';erw[e,f0,f1,f2,d]
def Inv.unpinned{Jx pl:#[7]}{σ:St}(I:Inv X (Jx++pl) σ H s):#[8] H s:=I.pins_of λp hp=>I.pin p (qR0 _ (List.mem_append_left _ hp))
def cK{iter:Expr}{pos:Pos}(hp:PassesOwn (model X.prog X.w) X.A X.env X.xe)(hc:X.calm=true)(hi:PI X tg iter wi)(hg:PG X tg g)(hb:PSs X body tb)
 (hs:∀x,foldedSetIterable iter X.env x=pure x:=by intro _;rfl):PS X (.For tg iter body [] pos) (tFor wi g tb):=by
 exists 4,D,I,h;apply wpAny_For (thn (hi Jx s σ H _ I h) λv s1 h1=>thn h1 λitv s2 h2=>?_) hs;erw[it,fp,tn,J,H2,e,I2,T,st2,f2,W,%[m0|w0],turn]at h2;subst e;let stat:∀{H':Hp},(∀b∈fp,H' b=none)->∀b∈fp,lB X Jx H' b:=λhn b hb=>%[hn b hb|(f2 b hb).2]
 apply codeAny_forLoop_any (λn s'=>∃i σ' H',Inv X Jx σ' H' s'/\tn i s'.heap/\(∀b∈fp,H' b=none)/\W i n σ' H') ?_ m0 %[(0),σ,H2,I2,st2,λb hb=>(f2 b hb).1|w0];rintro n s3 ⟨i,σ3,H3,I3,st3,fr3,w3⟩;rcases turn i n σ3 H3 w3 with⟨stop,qn⟩ | ⟨go,N,hN,step⟩
 . apply qS1 hp (thn (T.done X rfl rfl rfl hc i Jx s3 σ3 H3 X.xe I3 (stat fr3) st3 stop) λr s4 ⟨hr,I4⟩=>?_);subst hr;exact jJ0 %[σ3,H3,I4|qn]
 . apply qS1 hp (thn (T.item X rfl rfl rfl hc i Jx s3 σ3 H3 X.xe I3 (stat fr3) st3 go) λr s4 ⟨u,hr,h4⟩=>?_);subst hr;apply qS1 hp (thn h4 λ_ s5 ⟨x,H5,I5,r5,y5,st5,fr5⟩=>?_);let I5':=I5.pinned (stat fr5) (T.obj _ _ st5);apply qS1 hp (thn (hg _ s5 σ3 H5 x u _ I5' r5 (step x H5 y5)) λ_ s6 ⟨σ6,H6,I6,q6⟩=>?_);apply qS1 hp (thn (hb _ s6 σ6 H6 _ I6 q6) λf s7 q7=>?_);let again:∀{σ7:St}{H7:Hp},Inv X (Jx++pq fp s5.heap) σ7 H7 s7->N σ7 H7->∃m,m<n/\∃i σ' H',Inv X Jx σ' H' s7/\tn i s7.heap/\(∀b∈fp,H' b=none)/\W i m σ' H':=fun{σ7 H7} I7 n7=>by
    let%[m',hm|w7]:=hN σ7 H7 n7;erw[m',hm,i+1,σ7,H7,I7.unpinned,T.keep _ _ _ st5 λb hb o e=>(I7.pin (b,o) (qR0 _ (qR0 _ (iB hb e)))).1,λb hb=>?_,w7];let%[o,e|d]:=T.obj _ _ st5 b hb;exact(I7.pin (b,o) (qR0 _ (qR0 _ (iB hb e)))).2.1
   cases f with
   |next=>erw[σ7,H7,I7,n7]at q7;exact again I7 n7
   |cont=>erw[σ7,H7,I7,n7]at q7;exact again I7 n7
   |brk=>erw[σ7,H7,I7,q7]at q7;erw[σ7,H7,I7.unpinned,q7]
   |ret v=>erw[x7,σ7,H7,I7,r7,q7]at q7;erw[x7,σ7,H7,I7.unpinned,r7,q7]
end
def je{K:W.Frag}{xs:List V}{g:TG}{tb:TS}{D:Ends}{σ:St}{H:Hp}(Pv:Nat->St->Hp->Prop)(h0:Pv 0 σ H)(hl:∀i σ H,i<=xs.length->Pv i σ H->SqL K H a xs)
 (hs:∀i x σ H,xs[i]?=some x->Pv i σ H->g x σ H λσ2 H2=>tb { D with nx:=Pv (i+1),ct:=Pv (i+1),bk:=D.nx } σ2 H2)(hd:∀ σ H,Pv xs.length σ H->D.nx σ H):
 ∃ W:Nat->Nat->St->Hp->Prop,(∃m,W 0 m σ H)/\∀i m σ H,W i m σ H ->
  ((Itl K a).stop i H/\D.nx σ H)∨((Itl K a).go i H/\∃N:St->Hp->Prop,(∀ σ' H',N σ' H'->∃m',m'<m/\W (i+1) m' σ' H')/\∀x H',(Itl K a).yld i H x H'->g x σ H' λσ2 H2=>tb { D with nx:=N,ct:=N,bk:=D.nx } σ2 H2):=by
 erw[λi m σ H=>m=xs.length-i/\i<=xs.length/\Pv i σ H,%[xs.length,by simp,zQ0 _|h0],6];rintro i m σ H ⟨rfl,hi,p⟩;let q:=hl i σ H hi p
 by_cases JD:i<xs.length
 . refine .inr %[%[xs,xs[i],q|by simp [JD]],Pv (i+1),λσ' H' p'=>%[xs.length-(i+1),3,1,JD|p']|λx H' y=>?_];erw[e,y]at y;subst e;exact hs i x σ _ (y xs q) p
 . let e:i=xs.length:=#[0]
   subst e;exact .inl %[%[xs,q|zH0 _]|hd σ H p]
def sV{K:W.Frag}{xs:List V}{g:TG}{tb:TS}{D:Ends}{σ:St}{H:Hp}(Pv:Nat->St->Hp->Prop)(h0:Pv 0 σ H)(hl:∀i σ H,i<=xs.length->Pv i σ H->SqT K H a xs)
 (hs:∀i x σ H,xs[i]?=some x->Pv i σ H->g x σ H λσ2 H2=>tb { D with nx:=Pv (i+1),ct:=Pv (i+1),bk:=D.nx } σ2 H2)(hd:∀ σ H,Pv xs.length σ H->D.nx σ H):
 ∃ W:Nat->Nat->St->Hp->Prop,(∃m,W 0 m σ H)/\∀i m σ H,W i m σ H ->
  ((Itt K a).stop i H/\D.nx σ H)∨((Itt K a).go i H/\∃N:St->Hp->Prop,(∀ σ' H',N σ' H'->∃m',m'<m/\W (i+1) m' σ' H')/\∀x H',(Itt K a).yld i H x H'->g x σ H' λσ2 H2=>tb { D with nx:=N,ct:=N,bk:=D.nx } σ2 H2):=by
 erw[λi m σ H=>m=xs.length-i/\i<=xs.length/\Pv i σ H,%[xs.length,by simp,zQ0 _|h0],6];rintro i m σ H ⟨rfl,hi,p⟩;let q:=hl i σ H hi p
 by_cases JD:i<xs.length
 . refine .inr %[%[xs,xs[i],q|by simp [JD]],Pv (i+1),λσ' H' p'=>%[xs.length-(i+1),3,1,JD|p']|λx H' y=>?_];erw[e,y]at y;subst e;exact hs i x σ _ (y xs q) p
 . let e:i=xs.length:=#[0]
   subst e;exact .inl %[%[xs,q|zH0 _]|hd σ H p]
def dU{lo:Int}{n:Nat}{g:TG}{tb:TS}{D:Ends}{σ:St}{H:Hp}(Pv:Nat->St->Hp->Prop)(h0:Pv 0 σ H)
 (hs:∀i σ H,i<n->Pv i σ H->g (.int (lo+i)) σ H λσ2 H2=>tb { D with nx:=Pv (i+1),ct:=Pv (i+1),bk:=D.nx } σ2 H2)(hd:∀ σ H,Pv n σ H->D.nx σ H):
 ∃ W:Nat->Nat->St->Hp->Prop,(∃m,W 0 m σ H)/\∀i m σ H,W i m σ H ->
  ((Itr lo n).stop i H/\D.nx σ H)∨((Itr lo n).go i H/\∃N:St->Hp->Prop,(∀ σ' H',N σ' H'->∃m',m'<m/\W (i+1) m' σ' H')/\∀x H',(Itr lo n).yld i H x H'->g x σ H' λσ2 H2=>tb { D with nx:=N,ct:=N,bk:=D.nx } σ2 H2):=by
 erw[λi m σ H=>m=n-i/\i<=n/\Pv i σ H,%[n,by simp,zQ0 _|h0],6];rintro i m σ H ⟨rfl,hi,p⟩
 by_cases JD:i<n
 . refine .inr %[JD,Pv (i+1),λσ' H' p'=>%[n-(i+1),3,1,JD|p']|λx H' y=>?_];erw[e,y]at y;subst e y;exact hs i σ _ JD p
 . let e:i=n:=#[0]
   subst e;exact .inl %[zH0 _|hd σ H p]
abbrev R2:=V->V->Hp->VK->Prop
def OpR(X:Cx)(f:Value->Value->Sem Value)(r:R2):Prop:=
 ∀(Jx:#[7])(s:Shared)(σ:St)(H:Hp)(x y:V)(v u:Value)(Q:VK),#[8] H s->RelV x v->RelV y u->r x y H Q ->
  ‹X.w› (f v u) (EP X Jx σ Q) X.xe s
def UnR(X:Cx)(f:Value->Sem Value)(r:V->Hp->VK->Prop):Prop:=
 ∀(Jx:#[7])(s:Shared)(σ:St)(H:Hp)(x:V)(v:Value)(Q:VK),#[8] H s->RelV x v->r x H Q ->
  ‹X.w› (f v) (EP X Jx σ Q) X.xe s
def gC(X:Cx)(f:Value)(r:List V->Hp->VK->Prop):Prop:=
 ∀(Jx:#[7])(s:Shared)(σ:St)(H:Hp)(xs:List V)(us:List Value)(Q:VK),#[8] H s->Vals xs us->r xs H Q ->
  ‹X.w› (call f us) (EP X Jx σ Q) X.xe s
def tOp(r:R2)(ta tb:TE):TE:=λσ H Q=>ta σ H λx H1=>tb σ H1 λy H2=>r x y H2 Q
def tUn(r:V->Hp->VK->Prop)(ta:TE):TE:=λσ H Q=>ta σ H λx H1=>r x H1 Q
instance rI(C:Int->Int->Prop)(g:Int->Int->V)(x:V)(y:V)(H:Hp)(Q:VK):∀i j,x=.int i->y=.int j->C i j->Q (g i j) H:=0
instance rI0(g:Int->Int->V)(x:V)(y:V)(H:Hp)(Q:VK):∀i j,x=.int i->y=.int j->Q (g i j) H:=0
instance rU(g:Int->V)(x:V)(H:Hp)(Q:VK):∀i,x=.int i->Q (g i) H:=0
section
variable {X:Cx}{a b c:Expr}{ta tb tc:TE}{pos:Pos}
def Fi(ha:PE X a ta)(hb:PE X b tb){σ:St}{R:V->V->Hp->Prop}(I:#[8] H s)
 (h:ta σ H λx H1=>tb σ H1 λy H2=>R x y H2){Q:#[6]}{f:Value->Value->Sem Value}
 (hf:∀v u s2 x y H2,#[8] H2 s2->RelV x v->RelV y u->R x y H2->‹X.w› (f v u) Q X.xe s2):
 ‹X.w› (eval a X.env) (λv s₁=>‹X.w› (eval b X.env) (λu s₂=>‹X.w› (f v u) Q X.xe s₂) X.xe s₁) X.xe s:=by
 apply thn (ha Jx s σ H _ I h) λv s1 ⟨x,H1,I1,r1,q1⟩=>?_
 apply thn (hb Jx s1 σ H1 _ I1 q1) λu s2 ⟨y,H2,I2,r2,q2⟩=>?_
 exact hf v u s2 x y H2 I2 r1 r2 q2
def au{op:Operator}(ho:OpR X (binaryOp op) r)(ha:PE X a ta)(hb:PE X b tb):PE X (.BinOp a op b pos) (tOp r ta tb):=by
 exists 4,Q,I,h;exact wpAny_BinOp (Fi ha hb I h λv u s2 x y H2 I2 rx ry q=>ho Jx s2 σ H2 x y v u Q I2 rx ry q)
def As{op:UnaryOp}(ho:UnR X (unaryOp op) r)(ha:PE X a ta):PE X (.UnaryOp op a pos) (tUn r ta):=by
 exists 4,Q,I,h;exact UnaryOp_ (thn (ha Jx s σ H _ I h) λv s1 ⟨x,H1,I1,r1,q1⟩=>ho Jx s1 σ H1 x v Q I1 r1 q1)
def opI{f:Value->Value->Sem Value}{C:Int->Int->Prop}{g:Int->Int->Int}
 (rule:∀(i j:Int)(t u:Tok)(s:Shared)(Q:#[6])(E:#[6]),C i j->Q (.int (g i j) s.toks) { s with toks:=s.toks+1 }->‹X.w› (f (.int i t) (.int j u)) Q E s):
 OpR X f (rI C λi j=>.int (g i j)):=by
 exists 4,x,y,v,u,Q,I,rx,ry,h;erw[i,j,1,1,hc,q]at h;erw[t,1]at rx;erw[t',1]at ry;exact rule i j t t' s _ _ hc %[.int (g i j),H,I.tok _,%[|0]|q]
def opI0{f:Value->Value->Sem Value}{g:Int->Int->Int}
 (rule:∀(i j:Int)(t u:Tok)(s:Shared)(Q:#[6])(E:#[6]),Q (.int (g i j) s.toks) { s with toks:=s.toks+1 }->‹X.w› (f (.int i t) (.int j u)) Q E s):
 OpR X f (rI0 λi j=>.int (g i j)):=by
 exists 4,x,y,v,u,Q,I,rx,ry,h;erw[i,j,1,1,q]at h;erw[t,1]at rx;erw[t',1]at ry;exact rule i j t t' s _ _ %[.int (g i j),H,I.tok _,%[|0]|q]
def CN{f:Value->Value->Sem Value}{g:Int->Int->Bool}
 (rule:∀(i j:Int)(t u:Tok)(s:Shared)(Q:#[6])(E:#[6]),Q (.bool (g i j)) s->‹X.w› (f (.int i t) (.int j u)) Q E s):
 OpR X f (rI0 λi j=>.bl (g i j)):=by
 exists 4,x,y,v,u,Q,I,rx,ry,h;erw[i,j,1,1,q]at h;erw[t,1]at rx;erw[t',1]at ry;exact rule i j t t' s _ _ %[.bl (g i j),H,I,1|q]
def CDiv(i j:Int):Prop:=0<j/\j<1073741824
def CPow(i j:Int):Prop:=0<=j/\j<=1000000/\i.natAbs<2 ^ 64
def CMul(i j:Int):Prop:=(-(2 ^ 64)<i/\i<2 ^ 64)∨(-(2 ^ 64)<j/\j<2 ^ 64)
def CMul.ok(h:CMul i j):IntMulOk i j:=by
 rcases h with⟨h1,h2⟩ | ⟨h1,h2⟩
 . exact .of_left (intBits_le_64 h1 h2)
 . exact .of_right (intBits_le_64 h1 h2)
def aR:OpR X (binaryOp .Add) (rI0 λi j=>.int (i+j)):=opI0 λ_ _ _ _ _ _ _ q=>add_int q
def bc:OpR X (binaryOp .Sub) (rI0 λi j=>.int (i-j)):=opI0 λ_ _ _ _ _ _ _ q=>sub_int q
def cq:OpR X (binaryOp .Mult) (rI CMul λi j=>.int (i*j)):=opI λ_ _ _ _ _ _ _ hc q=>mul_int q hc.ok
def wS:OpR X (binaryOp .FloorDiv) (rI CDiv λi j=>.int (i / j)):=opI λi j _ _ _ _ _ hc q=>by
 let h1:(0:Int)<j:=hc.1;let h2:j<1073741824:=hc.2;exact floordiv_int #[0] (by rw[Int.fdiv_eq_ediv_of_nonneg i #[0]];exact q) (.inl (PyProof.noPylong_small #[0]))
def aY:OpR X (binaryOp .Mod) (rI (λ_ j=>0<j) λi j=>.int (i % j)):=opI λi j _ _ _ _ _ hc q=>by
 let h1:(0:Int)<j:=hc;exact mod_int' #[0] (by rw[Int.fmod_eq_emod_of_nonneg i #[0]];exact q)
def Az:OpR X (binaryOp .Pow) (rI CPow λi j=>.int (i ^ j.toNat)):=opI λ_ _ _ _ _ _ _ hc q=>pow_int_small hc.1 hc.2.1 hc.2.2 q
def unI{f:Value->Sem Value}{g:Int->Int}
 (rule:∀(i:Int)(t:Tok)(s:Shared)(Q:#[6])(E:#[6]),Q (.int (g i) s.toks) { s with toks:=s.toks+1 }->‹X.w› (f (.int i t)) Q E s):
 UnR X f (rU λi=>.int (g i)):=by
 exists 4,x,v,Q,I,rx,h;erw[i,1,q]at h;erw[t,1]at rx;exact rule i t s _ _ %[.int (g i),H,I.tok _,%[|0]|q]
def uW:UnR X (unaryOp .USub) (rU λi=>.int (-i)):=unI λ_ _ _ _ _ q=>neg_int q
end
def scal:V->V->Bool
 |.non,.non=>true | .non,.int _=>true | .int _,.non=>true | .non,.bl _=>true | .bl _,.non=>true | .non,.str _=>true | .str _,.non=>true
 |.int _,.int _=>true | .bl _,.bl _=>true | .str _,.str _=>true | .byt _,.byt _=>true
 |.int _,.str _=>true | .str _,.int _=>true | .bl _,.str _=>true | .str _,.bl _=>true
 |_,_=>false
instance rEq(x:V)(y:V)(H:Hp)(Q:VK):scal x y=true->Q (.bl (decide (x=y))) H:=0
instance rNe(x:V)(y:V)(H:Hp)(Q:VK):scal x y=true->Q (.bl (!decide (x=y))) H:=0
def xf{i j:Int}:decide (V.int i=V.int j)=(i==j):=by
 rw[jJ1]
 simp
def BM{i j:Bool}:decide (V.bl i=V.bl j)=(i==j):=by
 rw[jJ1]
 simp
def xc{i j:Str}:decide (V.str i=V.str j)=(i==j):=by
 rw[jJ1]
 simp
def xg{i j:Array UInt8}:decide (V.byt i=V.byt j)=(i.toList==j.toList):=by
 rw[jJ1];cases i;cases j
 simp
section
variable {X:Cx}{a b c:Expr}{ta tb tc:TE}{pos:Pos}
def bz{σ:St}{Q:VK}{k k':Bool}(I:#[8] H s)(q:Q (.bl k) H)(e:k=k'):EP X Jx σ Q (.bool k') s:=by
 subst e;erw[.bl k,H,I,1,q]
def aP:OpR X (compareOp .Eq) rEq:=by
 exists 4,x,y,v,u,Q,I,rx,ry,h;erw[hs,q]at h;cases x with
 |non=>
   cases rx;cases y with
   |non=>cases ry;exact PySem.EqNone.eq_none_none (bz I q #[2])
   |bl j=>cases ry;exact PySem.EqNone.eq_none_bool (bz I q #[2])
   |int j=>erw[t',1]at ry;exact PySem.EqNone.eq_none_int (bz I q #[2])
   |str j=>erw[t',1]at ry;exact PySem.EqNone.eq_none_str (bz I q #[2])
   |_=>exact absurd (show false=true from hs) zY0
 |bl i=>
   cases rx;cases y with
   |non=>cases ry;exact PySem.EqNone.eq_bool_none (bz I q #[2])
   |bl j=>cases ry;exact eq_bool (bz I q BM)
   |str j=>erw[t',1]at ry;exact PySem.EqMixed.eq_bool_str (bz I q #[2])
   |_=>exact absurd (show false=true from hs) zY0
 |int i=>
   erw[t,1]at rx;cases y with
   |non=>cases ry;exact PySem.EqNone.eq_int_none (bz I q #[2])
   |int j=>erw[t',1]at ry;exact eq_int (bz I q xf)
   |str j=>erw[t',1]at ry;exact PySem.EqMixed.eq_int_str (bz I q #[2])
   |_=>exact absurd (show false=true from hs) zY0
 |str i=>
   erw[t,1]at rx;cases y with
   |non=>cases ry;exact PySem.EqNone.eq_str_none (bz I q #[2])
   |bl j=>cases ry;exact PySem.EqMixed.eq_str_bool (bz I q #[2])
   |int j=>erw[t',1]at ry;exact PySem.EqMixed.eq_str_int (bz I q #[2])
   |str j=>erw[t',1]at ry;exact eq_str (bz I q xc)
   |_=>exact absurd (show false=true from hs) zY0
 |byt i=>
   erw[t,1]at rx;cases y with
   |byt j=>erw[t',1]at ry;exact PySem.W.eq_bytes (bz I q xg)
   |_=>exact absurd (show false=true from hs) zY0
 |_=>cases y <;> exact absurd (show false=true from hs) zY0
def jN:OpR X (compareOp .NotEq) rNe:=by
 exists 4,x,y,v,u,Q,I,rx,ry,h;erw[hs,q]at h;cases x with
 |non=>
   cases rx;cases y with
   |non=>cases ry;exact PySem.EqNone.ne_none_none (bz I q #[2])
   |bl j=>cases ry;exact PySem.EqNone.ne_none_bool (bz I q #[2])
   |int j=>erw[t',1]at ry;exact PySem.EqNone.ne_none_int (bz I q #[2])
   |str j=>erw[t',1]at ry;exact PySem.EqNone.ne_none_str (bz I q #[2])
   |_=>exact absurd (show false=true from hs) zY0
 |bl i=>
   cases rx;cases y with
   |non=>cases ry;exact PySem.EqNone.ne_bool_none (bz I q #[2])
   |bl j=>cases ry;exact ne_bool (bz I q (congrArg not BM))
   |str j=>erw[t',1]at ry;exact PySem.EqMixed.ne_bool_str (bz I q #[2])
   |_=>exact absurd (show false=true from hs) zY0
 |int i=>
   erw[t,1]at rx;cases y with
   |non=>cases ry;exact PySem.EqNone.ne_int_none (bz I q #[2])
   |int j=>erw[t',1]at ry;exact ne_int (bz I q (congrArg not xf))
   |str j=>erw[t',1]at ry;exact PySem.EqMixed.ne_int_str (bz I q #[2])
   |_=>exact absurd (show false=true from hs) zY0
 |str i=>
   erw[t,1]at rx;cases y with
   |non=>cases ry;exact PySem.EqNone.ne_str_none (bz I q #[2])
   |bl j=>cases ry;exact PySem.EqMixed.ne_str_bool (bz I q #[2])
   |int j=>erw[t',1]at ry;exact PySem.EqMixed.ne_str_int (bz I q #[2])
   |str j=>erw[t',1]at ry;exact ne_str (bz I q (congrArg not xc))
   |_=>exact absurd (show false=true from hs) zY0
 |byt i=>
   erw[t,1]at rx;cases y with
   |byt j=>erw[t',1]at ry;exact PySem.W.ne_bytes (bz I q (congrArg not xg))
   |_=>exact absurd (show false=true from hs) zY0
 |_=>cases y <;> exact absurd (show false=true from hs) zY0
def du:OpR X (compareOp .Lt) (rI0 λi j=>.bl (decide (i<j))):=CN λ_ _ _ _ _ _ _ q=>lt_int q
def tW:OpR X (compareOp .LtE) (rI0 λi j=>.bl (decide (i<=j))):=CN λ_ _ _ _ _ _ _ q=>le_int q
def gz:OpR X (compareOp .Gt) (rI0 λi j=>.bl (decide (j<i))):=CN λ_ _ _ _ _ _ _ q=>gt_int q
def DI:OpR X (compareOp .GtE) (rI0 λi j=>.bl (decide (j<=i))):=CN λ_ _ _ _ _ _ _ q=>ge_int q
def qN:OpR X (compareOp .In) (λx y H Q=>∃i j,x=.str i/\y=.str j/\Q (.bl (!(Builtin.Str.occurrences j i 0 j.length 1).isEmpty)) H):=by
 exists 4,x,y,v,u,Q,I,rx,ry,h;erw[i,j,1,1,q]at h;erw[t,1]at rx;erw[t',1]at ry;exact in_str (bz I q rfl)
def Es:OpR X (compareOp .Is) (λx y H Q=>y=.non/\Q (.bl (decide (x=.non))) H):=by
 exists 4,x,y,v,u,Q,I,rx,ry,h;erw[1,q]at h;cases ry;apply is_none_gen (bz I q ?_);cases x <;> first
  | (cases rx;rfl)
  | (erw[t,1]at rx;rfl)
def OpR.or(h:OpR X f r)(h':OpR X f r'):OpR X f (λx y H Q=>r x y H Q∨r' x y H Q):=by
 exists 4,x,y,v,u,Q,I,rx,ry,q;rcases q with q | q
 . exact h Jx s σ H x y v u Q I rx ry q
 . exact h' Jx s σ H x y v u Q I rx ry q
def ao(b:Expr){op:CmpOp}(h:op≠.In:=by decide)(h2:op≠.NotIn:=by decide):behindInMarks op b=false:=by
 let e1:(op==CmpOp.In)=false:=by cases op <;> first | rfl | exact absurd rfl h
 let e2:(op==CmpOp.NotIn)=false:=by cases op <;> first | rfl | exact absurd rfl h2
 cases b <;> simp [behindInMarks,e1,e2]
def dq{op:CmpOp}(ho:OpR X (compareOp op) r)(ha:PE X a ta)(hb:PE X b tb)(hm:behindInMarks op b=false):PE X (.Compare a [op] [b] pos) (tOp r ta tb):=by
 exists 4,Q,I,h;exact wpAny_Compare1 (Fi ha hb I h λv u s2 x y H2 I2 rx ry q=>ho Jx s2 σ H2 x y v u Q I2 rx ry q) hm
instance ZtTest(Q:(Bool->Hp->Prop))(x:V)(H':Hp):∀k,x=.bl k->Q k H':=0
def Dz(t:TE):TT:=λσ H Q=>t σ H λx H'=>ZtTest Q x H'
def af{op:CmpOp}(ho:OpR X (compareOp op) r)(ha:PE X a ta)(hb:PE X b tb)(hm:behindInMarks op b=false):PT X (.Compare a [op] [b] pos) (Dz (tOp r ta tb)):=by
 exists 4,Q,I,h;apply wpAny_isTrue_Compare1 (thn (ha Jx s σ H _ I h) λv s1 ⟨x,H1,I1,r1,q1⟩=>thn (hb Jx s1 σ H1 _ I1 q1) λu s2 ⟨y,H2,I2,r2,q2⟩=>
  thn (ho Jx s2 σ H2 x y v u _ I2 r1 r2 q2) λc s3 ⟨z,H3,I3,r3,k,e,q3⟩=>?_) hm
 subst e;cases r3;exact zV1 %[H3,I3|q3]
instance ZtChain(r':R2)(tc:TE)(σ:St)(Q:VK)(y:V)(z:V)(H3:Hp):∀k,z=.bl k->(if k=true then tc σ H3 λw' H4=>r' y w' H4 Q else Q (.bl false) H3):=0
def zE(r r':R2)(ta tb tc:TE):TE:=λσ H Q=>ta σ H λx H1=>tb σ H1 λy H2=>r x y H2 λz H3=>ZtChain r' tc σ Q y z H3
def Ax{op op':CmpOp}(ho:OpR X (compareOp op) r)(ho':OpR X (compareOp op') r')(ha:PE X a ta)(hb:PE X b tb)(hc:PE X c tc)
 (hm:lastMarks [op,op'] [b,c]=false:=by rfl'):PE X (.Compare a [op,op'] [b,c] pos) (zE r r' ta tb tc):=by
 exists 4,Q,I,h;apply Compare_chain (thn (ha Jx s σ H _ I h) λv s1 ⟨x,H1,I1,r1,q1⟩=>chain_link (thn (hb Jx s1 σ H1 _ I1 q1) λu s2 ⟨y,H2,I2,r2,q2⟩=>
  thn (ho Jx s2 σ H2 x y v u _ I2 r1 r2 q2) λd s3 ⟨z,H3,I3,r3,k,e,q3⟩=>?_)) hm
 subst e;cases r3;apply zV1 ?_;cases k with
 |false=>exact ite_ff %[.bl false,H3,I3,1|q3]
 |true=>exact ite_tt (chain_last (thn (hc Jx s3 σ H3 _ I3 q3) λw' s4 ⟨z',H4,I4,r4,q4⟩=>ho' Jx s4 σ H4 y z' u w' Q I4 r2 r4 q4))
def Am{op op':CmpOp}(ho:OpR X (compareOp op) r)(ho':OpR X (compareOp op') r')(ha:PE X a ta)(hb:PE X b tb)(hc:PE X c tc)
 (hm:lastMarks [op,op'] [b,c]=false:=by rfl'):PT X (.Compare a [op,op'] [b,c] pos) (Dz (zE r r' ta tb tc)):=by
 exists 4,Q,I,h;apply isTrue_chain (thn (ha Jx s σ H _ I h) λv s1 ⟨x,H1,I1,r1,q1⟩=>test_link (thn (hb Jx s1 σ H1 _ I1 q1) λu s2 ⟨y,H2,I2,r2,q2⟩=>
  thn (ho Jx s2 σ H2 x y v u _ I2 r1 r2 q2) λd s3 ⟨z,H3,I3,r3,k,e,q3⟩=>?_)) hm
 subst e;cases r3;apply zV1 ?_;cases k with
 |false=>
   erw[k',e',q']at q3;cases e';exact ite_ff %[H3,I3|q']
 |true=>
   apply ite_tt (test_last (thn (hc Jx s3 σ H3 _ I3 q3) λw' s4 ⟨z',H4,I4,r4,q4⟩=>thn (ho' Jx s4 σ H4 y z' u w' _ I4 r2 r4 q4) λd' s5 ⟨z2,H5,I5,r5,k2,e2,q5⟩=>?_));subst e2;cases r5;exact zV1 %[H5,I5|q5]
def iC:(sizeLine:Nat)<2 ^ 63:=by rw[sizeLine_eq];decide
def pB:OpR X (binaryOp .Add) (λx y H Q=>∃i j,x=.str i/\y=.str j/\i.length+j.length<=sizeLine/\Q (.str (i++j)) H):=by
 exists 4,x,y,v,u,Q,I,rx,ry,h;erw[i,j,1,1,hz,q]at h;erw[t,1]at rx;erw[t',1]at ry;exact add_str (λt' tk=>%[.str (i++j),H,I.tok _,%[|0]|q]) hz
def kx{x:V}(r:Vals [x] us):∃u,us=[u]/\RelV x u:=by
 cases r with
 |cons r1 r2=>cases r2;erw[0,r1]
def zn{x y:V}(r:Vals [x,y] us):∃u w',us=[u,w']/\RelV x u/\RelV y w':=by
 cases r with
 |cons r1 r2=>
   cases r2 with
   |cons r3 r4=>cases r4;erw[_,0,r1,r3]
def jG(hc:X.calm=true):gC X (.builtin "max") (λxs H Q=>∃i j,xs=[.int i,.int j]/\Q (.int (if j>i then j else i)) H):=by
 exists 4,xs,us,Q,I,r,h;erw[i,j,1,q]at h;let%[u,w',1,%[t|1]|%[t'|1]]:=zn r;apply max_two_ints (I.ok.hd hc) λh' tk k=>%[_,H,I.kept k,6|q]
 by_cases hj:j>i
 . rw[JB hj,JB hj];erw[0]
 . rw[Jy hj,Jy hj];erw[0]
def zf(hc:X.calm=true):gC X (.builtin "min") (λxs H Q=>∃i j,xs=[.int i,.int j]/\Q (.int (if j<i then j else i)) H):=by
 exists 4,xs,us,Q,I,r,h;erw[i,j,1,q]at h;let%[u,w',1,%[t|1]|%[t'|1]]:=zn r;apply min_two_ints (I.ok.hd hc) λh' tk k=>%[_,H,I.kept k,6|q]
 by_cases hj:j<i
 . rw[JB hj,JB hj];erw[0]
 . rw[Jy hj,Jy hj];erw[0]
def sZ:gC X (.type "str") (λxs H Q=>∃i,xs=[.int i]/\i.natAbs.log2<1920/\Q (.str (toString i)) H):=by
 exists 4,xs,us,Q,I,r,h;erw[i,1,hz,q]at h;let%[u,1,t|1]:=kx r;exact PySem.P.str_of_int hz %[.str _,H,I.tok _,%[|0]|q]
end
structure ObjM(h:Heap)(x dx C:Addr)(mA:#[9]):Prop where
 obj:h.get? x=some (PySem.W.instObj C dx)
 ns:h.Ns1 dx mA
 ne:dx≠x
def yC{h:Heap}{dx:Addr}{mA:#[9]}(n:h.Ns1 dx mA):∃od,h.get? dx=some od/\∀name,PySem.W.lookIn name od=some (mA name):=by
 erw[o,es,ep,ho,hd,hk,_,hm]at n;erw[o,ho,λname=>?_];let e:=hm name;unfold nsFind findBy at e;rw[←Array.find?_toList]at e;unfold PySem.W.lookIn;rw[hd]
 dsimp only
 split
 . rename_i y q;rw[q]at e;exact congrArg some e
 . rename_i q;rw[q]at e;let a:es.toList.any (·.refKey)=false:=by
    rw[List.any_eq_false];intro y hy;let%[z,t|hkey]:=hk y (Array.mem_toList_iff.mp hy)
    simp [DictEntry.refKey,hkey]
   let a':¬ es.toList.any (·.refKey)=true:=by rw[a];exact zY0
   rw[Jy a'];exact congrArg some e
def ObjM.look(I:ObjM h x dx C mA):∃od,PySem.W.InstAt h x (PySem.W.instObj C dx) C (some od)/\∀name,PySem.W.lookIn name od=some (mA name):=
 let⟨od,ho,hl⟩:=yC I.ns
 %[od,%[I.obj,1,1|ho]|hl]
section
variable {prog:Program}{w:World}{A:Around}{E:#[6]}{s:Shared}{K:W.Frag}{x dx C f:Addr}{mA:#[9]}{name:Str}{v:Value}
def Dp{expr:Bool}{Q:#[6]}(X:K.In s.heap)(I:ObjM s.heap x dx C mA)(hg:PySem.W.plainGet K C name=true)(hh:PySem.W.hasDictIn K C=true)
 (ha:PySem.W.findIn K (.ref C) name=some none)(hv:mA name=some v)(hv':PySem.W.handedIn v=true)(h:Q v { s with toks:=s.toks+1 }):
 ‹w.A› (getAttr (.ref x) name expr) Q E s:=by
 erw[od,J,hl]at I.look;exact PySem.W.get_value X J (jW1 hg).1 (PySem.W.findObj_own hh ha rfl (by rw[hl,hv])) hv' h
def Bt{pl:Sem Bool}{Q:Value×List Value->Shared->Prop}(X:K.In s.heap)(I:ObjM s.heap x dx C mA)(hg:PySem.W.plainGet K C name=true)
 (hf:PySem.W.findIn K (.ref C) name=some (some (.ref f)))(ht:PySem.W.isFn K (.ref f)=true)(hv:mA name=none)(h:Q (.ref f,[.ref x]) s):
 ‹w.A› (getMethod (.ref x) name pl) Q E s:=by
 erw[od,J,hl]at I.look;exact PySem.W.method_fn X J (jW1 hg).1 (jW1 hg).2 hf (beq_iff_eq.mp ht) (by show(PySem.W.lookIn name od).map (·.isSome)=some false;rw[hl,hv];rfl) h
def Ct{ns:List Str}{Q:Unit->Shared->Prop}(X:K.In s.heap)(I:ObjM s.heap x dx C mA)
 (hs:PySem.W.findIn K (.ref C) "__setattr__"=some (some (.builtin "object.__setattr__")))(hp:PySem.W.plainOver K C=true)(ht:PySem.W.takerIn K C name=some none)(hh:PySem.W.hasDictIn K C=true)
 (hw:PySem.Within mA ns)(hsz:ns.length<=sizeLine)
 (h:∀h',ObjM h' x dx C (λy=>if y=name then some v else mA y)->Heap.SameBut dx s.heap h'->Q () { s with heap:=h',toks:=s.toks+2 }):
 ‹w.A› (setAttr (.ref x) name v) Q E s:=by
 erw[od,J,hl]at I.look;apply PySem.W.set_plain X J hs (PySem.W.osa_open (s:={ s with toks:=s.toks+1 }) (r:=none) X J hp ht λb=>?_);let%[cd,hc|hd']:=PySem.W.any_some hh;let hx:s.heap.get? x=some %[.ref C,some dx,.plain|#[]]:=I.obj;apply zD0 (zI0 (zD0 (zD0 (wpAny_loadPart hx (zD0 (PySem.W.Looks.here (s:={ s with toks:=s.toks+1 }) (PySem.W.looks_clsIn X hc) ?_))))));rw[hd'];apply zI0 (a:=some dx) (zD0 (zI0 (zD0 ?_)));apply wpAny_nsSet1 (s:={ s with toks:=s.toks+1 }) I.ns λh' hn2 hs2=>?_
 let%[oD,esD,epD,hoD,hdD|hcD]:=hn2.count (PySem.Within.cons name v hw);apply zD0 (wpAny_lookBehind hoD (by rw[hdD];exact pastItsLine_dict (zM0 hcD (by rw[zU0];omega))) ?_);exact zI0 (h _ %[(hs2.2 _ (Ne.symm I.ne)).trans I.obj,hn2|I.ne] hs2)
def Bb{R:Result->Shared->Prop}{vs:List Value}{kw:List (Str×Value)}(X:K.In s.heap)(hm:PySem.W.makesIn K C=true)
 (hi:PySem.W.findIn K (.ref C) "__init__"=some (some (.ref f)))(hf:PySem.W.typeIn K (.ref f)=some (.type "function"))
 (h:codeAny (model prog w) (A.under (.builtin "type.__call__" %[.ref C::vs|kw])) (.call (.ref f) ⟨.ref (‹s›+1)::vs,kw⟩) (PySem.W.InitBack (‹s›+1) R)
  { s with heap:=(s.heap.push PySem.W.emptyDict).push (PySem.W.instObj C ‹s›) }) :
 codeAny (model prog w) A (.call (.ref C) %[vs|kw]) R s:=by
 erw[hh,g,d,t,os]at s;exact PySem.W.make_core (PySem.W.makes_of X hm) (PySem.W.looks_findIn X hi) (λself=>PySem.W.bind_fn X self hf) (.inl rfl) h
end
def bq(f:Str)(v:V):List (Str×V)->List (Str×V)
 | []=>[(f,v)]
 | (g,x)::r=>if g=f then(g,v)::r else(g,x)::bq f v r
def aj(f g:Str)(v:V):∀fs:List (Str×V),(bq f v fs).lookup g=if g=f then some v else fs.lookup g
 | []=>by
   show List.lookup g [(f,v)]=_
   by_cases h:g=f
   . let hb:(g==f)=true:=beq_iff_eq.mpr h;simp only[List.lookup,hb,JB h]
   . let hb:(g==f)=false:=beq_eq_false_iff_ne.mpr h;simp only[List.lookup,hb,Jy h]
 | (k,x)::r=>by
   let ih:=aj f g v r;rw[show bq f v ((k,x)::r)=(if k=f then(k,v)::r else(k,x)::bq f v r)from rfl]
   by_cases hk:k=f
   . rw [JB hk]
     by_cases h:g=k
     . let hb:(g==k)=true:=beq_iff_eq.mpr h;simp only[List.lookup,hb,JB (h.trans hk)]
     . let hb:(g==k)=false:=beq_eq_false_iff_ne.mpr h;simp only[List.lookup,hb,Jy (λe:g=f=>h (e.trans hk.symm))]
   . rw [Jy hk]
     by_cases h:g=k
     . let hb:(g==k)=true:=beq_iff_eq.mpr h;simp only[List.lookup,hb,Jy (λe:g=f=>hk (h.symm.trans e))]
     . let hb:(g==k)=false:=beq_eq_false_iff_ne.mpr h;simp only[List.lookup,hb];exact ih
def mf(f:Str)(v:V):∀fs:List (Str×V),f∈(bq f v fs).map (·.1)/\∀g,g∈fs.map (·.1)->g∈(bq f v fs).map (·.1)
 | []=>%[by simp [bq]|λg h=>by simp at h]
 | (k,x)::r=>by
   let%[i1|i2]:=mf f v r;rw[show bq f v ((k,x)::r)=(if k=f then(k,v)::r else(k,x)::bq f v r)from rfl]
   by_cases hk:k=f
   . rw[JB hk];subst hk;erw[by simp,λg h=>by simpa using h]
   . rw [Jy hk];erw[6,λg h=>?_]
     . rw[zZ0];exact qK0 _ i1
     . rw [zZ0]at h ⊢;rcases zV0 h with e | e
       . exact List.mem_cons.mpr (.inl e)
       . exact qK0 _ (i2 g e)
def mY(f:Str)(v:V):∀fs:List (Str×V),(bq f v fs).length<=fs.length+1
 | []=>by simp [bq]
 | (k,x)::r=>by
   let ih:=mY f v r;rw[show bq f v ((k,x)::r)=(if k=f then(k,v)::r else(k,x)::bq f v r)from rfl]
   by_cases hk:k=f
   . rw[JB hk,zU0,zU0];omega
   . rw[Jy hk,zU0,zU0];omega
def RelO.some_of{v:V}(r:RelO (some v) o):∃u,o=some u/\RelV v u:=by
 cases o with
 |none=>exact(show False from r).elim
 |some u=>erw[u,1,r]
def RelO.none_of(r:RelO none o):o=none:=by
 cases o with
 |none=>rfl
 |some u=>exact(show False from r).elim
def yQ(r:RelV v u):PySem.W.handedIn u=true:=by
 cases v with
 |non=>cases(show u=Value.none from r);rfl
 |bl b=>cases(show u=Value.bool b from r);rfl
 |int i=>let%[t|e]:=(show ∃t,u=Value.int i t from r);cases e;rfl
 |str x=>let%[t|e]:=(show ∃t,u=Value.str x t from r);cases e;rfl
 |byt b=>let%[t|e]:=(show ∃t,u=Value.bytes b t from r);cases e;rfl
 |flt b=>let%[t|e]:=(show ∃t,u=Value.float b t from r);cases e;rfl
 |ref a=>cases(show u=Value.ref a from r);rfl
 |ty n=>cases(show u=Value.type n from r);rfl
section
variable {P:Program}{w:World}{H H':Hp}{h h':Heap}{a C dx:Addr}{fs fs':List (Str×V)}
def nY(hok:HOk P w H h)(e:H a=some (.ins C dx fs)):∃mA,ObjM h a dx C mA/\(∀f,RelO (fs.lookup f) (mA f))/\PySem.Within mA (fs.map (·.1))/\fs.length<=1000/\H dx=some (.own a):=by
 let%[d,z,ne,ob,mA,n,r|q]:=(show ObjOk P w H h a (.ins C dx fs)from hok a _ e)
 erw[mA,%[ob,n|ne],r,q,z,d]
end
structure Cls(K:W.Frag)(C:Addr):Prop where
 pg:PySem.W.plainGet K C Str.empty=true
 hd:PySem.W.hasDictIn K C=true
 po:PySem.W.plainOver K C=true
 sa:PySem.W.findIn K (.ref C) "__setattr__"=some (some (.builtin "object.__setattr__"))
def Cls.get{K:W.Frag}(c:Cls K C)(f:Str):PySem.W.plainGet K C f=true:=c.pg
def NoAttr(K:W.Frag)(C:Addr)(f:Str):Prop:=PySem.W.findIn K (.ref C) f=some none
def NoAttr.taker{K:W.Frag}(n:NoAttr K C f):PySem.W.takerIn K C f=some none:=by
 unfold PySem.W.takerIn;rw[show PySem.W.findIn K (.ref C) f=some none from n];rfl
structure Meth(K:W.Frag)(C:Addr)(m:Str)(f:Addr):Prop where
 at_:PySem.W.findIn K (.ref C) m=some (some (.ref f))
 fn:PySem.W.isFn K (.ref f)=true
 kp:PySem.W.keepIn K (.ref f)=true
section
variable {X:Cx}{Jx:#[7]}{σ:St}{H:Hp}{s:Shared}{a C dx:Addr}{fs:List (Str×V)}{f:Str}{v:V}{A:Around}{E:#[6]}
def wu{b:Bool}{Q:#[6]}(I:#[8] H s)(e:H a=some (.ins C dx fs))(c:Cls X.K C)(n:NoAttr X.K C f)(l:fs.lookup f=some v)
 (h:∀u s',#[8] H s'->RelV v u->Q u s'):wpAny (model X.prog X.w) A (getAttr (.ref a) f b) Q E s:=by
 let%[mA,O,r,_,_|_]:=nY I.hok e;let%[u,hu|ru]:=RelO.some_of (v:=v) (o:=mA f) (by rw[←l];exact r f);exact Dp I.kIn O (c.get f) c.hd n hu (yQ ru) (h u _ (I.tok _) ru)
def pS{pl:Sem Bool}{Q:Value×List Value->Shared->Prop}(I:#[8] H s)(e:H a=some (.ins C dx fs))(c:Cls X.K C)(k:Meth X.K C m g)(l:fs.lookup m=none)
 (h:Q (.ref g,[.ref a]) s):wpAny (model X.prog X.w) A (getMethod (.ref a) m pl) Q E s:=by
 let%[mA,O,r,_,_|_]:=nY I.hok e;let hn:mA m=none:=RelO.none_of (by rw[←l];exact r m);exact Bt I.kIn O (c.get m) k.at_ k.fn hn h
def vg{Q:Unit->Shared->Prop}(I:#[8] H s)(e:H a=some (.ins C dx fs))(c:Cls X.K C)(n:NoAttr X.K C f)(hl:fs.length<1000)(ry:RelV y u)
 (h:∀s',#[8] (upd H a (.ins C dx (bq f y fs))) s'->Q () s'):wpAny (model X.prog X.w) A (setAttr (.ref a) f u) Q E s:=by
 let%[mA,O,r,wi,_|ho]:=nY I.hok e;let hz:(fs.map (·.1)).length<=sizeLine:=by rw[zF0,sizeLine_eq];omega
 apply Ct I.kIn O c.sa c.po n.taker c.hd wi hz λh' O' sb=>h _ ?_
 let hd:∃o,h'.get? dx=some o:=let⟨o,_,_,e',_⟩:=O'.ns;%[o|e']
 apply I.write (x:=a) (e:=dx) (by rw[e];exact True.intro) (.inr ho) (λb q hb z=>(sb.2 b hb).trans z) hd ?_;erw[by rw[aD O.ne];exact ho,6,O.ne,O'.obj,_,O'.ns,λg=>?_,λg hg=>?_]
 . have:=mY f y fs;omega
 . show RelO ((bq f y fs).lookup g) (if g=f then some u else mA g);rw[aj]
   by_cases q:g=f
   . rw[JB q,JB q];exact ry
   . rw[Jy q,Jy q];exact r g
 . by_cases q:g=f
   . rw[q];exact(mf f y fs).1
   . refine(mf f y fs).2 g (wi g λz=>hg ?_);show(if g=f then some u else mA g)=none;rw[Jy q];exact z
def Inv.made(I:#[8] H s):#[8] (upd (upd H ‹s› (.own (‹s›+1))) (‹s›+1) (.ins C ‹s› []))
 { s with heap:=(s.heap.push PySem.W.emptyDict).push (PySem.W.instObj C ‹s›) }:=by
 let e1:(s.heap.push PySem.W.emptyDict).get? ‹s›=some PySem.W.emptyDict:=qA0 s.heap rfl;let e2:((s.heap.push PySem.W.emptyDict).push (PySem.W.instObj C ‹s›)).get? (‹s›+1)=some (PySem.W.instObj C ‹s›):=by
  have:=qA0 (s.heap.push PySem.W.emptyDict) (o:=PySem.W.instObj C ‹s›) rfl
  rwa [wG1]at this
 let e3:(s.heap.push PySem.W.emptyDict).Ns ‹s› (λ_=>none):=%[PySem.W.emptyDict,#[],_,e1,1,(λe he=>absurd he #[2])|λ_=>rfl]
 let I1:=I.laid (a:=‹s›) (o:=.own (‹s›+1)) (h':=s.heap.push PySem.W.emptyDict) (t':=s.toks) (λb u q=>zR0 _ q) (zH0 _) %[_|e1];apply I1.laid (a:=‹s›+1) (o:=.ins C ‹s› []) (t':=s.toks) (λb u q=>zR0 _ q) (Nat.le_of_eq (wG1 _ _)) ?_;let ne:‹s›≠‹s›+1:=qB0 (qM1 _);erw[by rw[aD ne,aO],zQ0 _,ne,e2,λ_=>none,(Heap.Ns1.of_empty e3).at λo q=>zR0 _ q,λ_=>True.intro,λy hy=>absurd rfl hy]
def Dt{prog:Program}{w:World}{env:Env}{e:Expr}{f:Str}{pos:Pos}{s:Shared}{Q:#[6]}(hb:attributeBase e f env (eval e env)=eval e env)
 (h:‹w.A› (eval e env) (λo s₁=>‹w.A› (getAttr o f true) Q E s₁) E s):‹w.A› (eval (.Attribute e f pos) env) Q E s:=
 Attribute_any_ h (by rw[arm_eval_Attribute,hb])
end
instance ZtFld(K:W.Frag)(f:Str)(Q:VK)(x:V)(H1:Hp):∀a C dx fs v,x=.ref a->H1 a=some (.ins C dx fs)->Cls K C->NoAttr K C f->fs.lookup f=some v->Q v H1:=0
def tFld(K:W.Frag)(ta:TE)(f:Str):TE:=λσ H Q=>ta σ H λx H1=>ZtFld K f Q x H1
instance ZsFld(K:W.Frag)(f:Str)(D:Ends)(σ:St)(y:V)(x:V)(H2:Hp):∀a C dx fs,x=.ref a->H2 a=some (.ins C dx fs)->Cls K C->NoAttr K C f->fs.length<1000->D.nx σ (upd H2 a (.ins C dx (bq f y fs))):=0
def sFld(K:W.Frag)(ta tv:TE)(f:Str):TS:=λD σ H=>tv σ H λy H1=>ta σ H1 λx H2=>ZsFld K f D σ y x H2
section
variable {X:Cx}{o e value:Expr}{f:Str}{pos pos' tpos:Pos}{ta tv:TE}
def az(he:PE X e ta)(hb:attributeBase e f X.env (eval e X.env)=eval e X.env):PE X (.Attribute e f pos) (tFld X.K ta f):=by
 exists 4,Q,I,h;apply Dt hb (thn (he Jx s σ H _ I h) λu s1 ⟨x,H1,I1,rx,a,C,dx,fs,v,ex,ea,c,n,l,q⟩=>?_);subst ex;obtain rfl:u=Value.ref a:=rx;exact wu I1 ea c n l λu' s2 I2 ru=>%[v,H1,I2,ru|q]
def aU(ha:PE X o ta)(hv:PE X value tv)(hs:swapsWith value (some (.Attribute o f pos')) pos.line X.env=pure false):PS X (.Assign [.Attribute o f pos'] value pos) (sFld X.K ta tv f):=by
 exists 4,D,I,h;apply plainObj_wpAny_Assign_Attribute (thn (hv Jx s σ H _ I h) λu s1 ⟨y,H1,I1,ry,q⟩=>thn (ha Jx s1 σ H1 _ I1 q) λov s2 ⟨x,H2,I2,rx,a,C,dx,fs,ex,ea,c,n,l,q2⟩=>?_) hs;subst ex;obtain rfl:ov=Value.ref a:=rx;exact vg I2 ea c n l ry λs3 I3=>%[σ,_,I3|q2]
end
section
variable {X:Cx}{Jx:#[7]}{σ:St}{H:Hp}{s:Shared}{A:Around}{E:#[6]}{Q:#[6]}{c:Value}{b:Bool}
inductive TyOf(K:W.Frag)(H:Hp):V->Value->Prop where
 |non:TyOf K H .non (.type "NoneType")
 |bl (x:Bool):TyOf K H (.bl x) (.type "bool")
 |int (i:Int):TyOf K H (.int i) (.type "int")
 |str (x:Str):TyOf K H (.str x) (.type "str")
 |flt (x:UInt64):TyOf K H (.flt x) (.type "float")
 |lst {a:Addr} {xs:List V} (e:H a=some (.lst xs)):TyOf K H (.ref a) (.type "list")
 |frz {a:Addr} {o:Obj} {xs:List V} (e:H a=some (.frz o (.lst xs))):TyOf K H (.ref a) (.type "list")
 |tup {a:Addr} {xs:List V} (e:H a=some (.tup xs)):TyOf K H (.ref a) (.type "tuple")
 |dK {a:Addr} {JA:List (Key×V)} (e:H a=some (.dK JA)):TyOf K H (.ref a) (.type "dict")
 |dT {a:Addr} {JA:List (List Key×V)} (e:H a=some (.dT JA)):TyOf K H (.ref a) (.type "dict")
 | ins {a C dx:Addr} {fs:List (Str×V)} (e:H a=some (.ins C dx fs)) (cl:Cls K C) (ha:PySem.W.findIn K (.ref C) "__class__"=some (some (.builtin "object.__class__")))
  (hn:PySem.W.specialIn K (.builtin "object.__class__") "__get__"=some (some (.builtin "getset_descriptor.__get__"))) (htk:PySem.W.takesIn K (.builtin "object.__class__")=some true)
  (hm:PySem.W.mroIn K C (.type "object")=some true):TyOf K H (.ref a) (.ref C)
def yJ(I:#[8] H s)(rx:RelV x u)(ty:TyOf X.K H x t)(e:PySem.W.kitOne X.K t c=some b)(h:∀tk,Q (.bool b) { s with toks:=tk }):
 wpAny (model X.prog X.w) A (call (.builtin "isinstance") [u,c]) Q E s:=by
 cases ty with
 |non=>cases(show u=Value.none from rx);exact zW1 PySem.W.kitx_none I.kIn True.intro e (λz=>nomatch z) h
 |bl y=>cases(show u=Value.bool y from rx);exact zW1 PySem.W.kitx_bool I.kIn True.intro e (λz=>nomatch z) h
 |int i=>let%[t|q]:=(show ∃t,u=Value.int i t from rx);cases q;exact zW1 PySem.W.kitx_int I.kIn True.intro e (λz=>nomatch z) h
 |str y=>let%[t|q]:=(show ∃t,u=Value.str y t from rx);cases q;exact zW1 PySem.W.kitx_str I.kIn True.intro e (λz=>nomatch z) h
 |flt y=>let%[t|q]:=(show ∃t,u=Value.float y t from rx);cases q;exact zW1 PySem.W.kitx_float I.kIn True.intro e (λz=>nomatch z) h
 | @lst a xs ea=>
   cases(show u=Value.ref a from rx);let%[_,_,n,_|h1]:=(show ObjOk X.prog X.w H s.heap a (.lst xs)from I.hok a _ ea)
   exact zW1 PySem.W.kitx_list I.kIn %[_,h1|1] e (λz=>nomatch z) h
 | @frz a ob xs ea=>
   cases(show u=Value.ref a from rx);let%[_,_,_,n,_|h1]:=(show ObjOk X.prog X.w H s.heap a (.frz ob (.lst xs))from I.hok a _ ea)
   exact zW1 PySem.W.kitx_list I.kIn %[_,h1|1] e (λz=>nomatch z) h
 | @tup a xs ea=>
   cases(show u=Value.ref a from rx);let%[_,_,_,p|_]:=(show ObjOk X.prog X.w H s.heap a (.tup xs)from I.hok a _ ea)
   erw[o,h1,h2,_]at p;exact zW1 PySem.W.kitx_tuple I.kIn %[o,h1|h2] e (λz=>nomatch z) h
 | @dK a JA ea=>
   cases(show u=Value.ref a from rx);let%[_,_,vs,_|p]:=(show ObjOk X.prog X.w H s.heap a (.dK JA)from I.hok a _ ea)
   erw[o,es,ep,h1,h2,_]at p;exact zW1 PySem.W.kitx_dict I.kIn %[o,h1|h2.1] e (λz=>nomatch z) h
 | @dT a JA ea=>
   cases(show u=Value.ref a from rx);let%[_,_,xs,_,o,es,ep,h1,h2|_]:=(show ObjOk X.prog X.w H s.heap a (.dT JA)from I.hok a _ ea)
   exact zW1 PySem.W.kitx_dict I.kIn %[o,h1|h2.1] e (λz=>nomatch z) h
 | @ins a C dx fs ea cl ha hn htk hm=>
   cases(show u=Value.ref a from rx);let%[mA,O|_]:=nY I.hok ea;erw[od,J,_]at O.look;exact zW1 (PySem.W.kitx_own (cl.get _) cl.hd ha hn htk hm) I.kIn J e (λz=>nomatch z) h
end
structure Room(k:Nat)(A:Around):Prop where
 hd:A.handled=none
 gd:A.guards=some []
 dp:A.depth+3*k+5<recursionLimit
 un:A.units+16*k+200<cLine
def Room.mono{j:Nat}(r:Room k A)(h:j<=k):Room j A:=%[r.hd,r.gd,by have:=r.dp;omega|by have:=r.un;omega]
def Room.deeper{k:Nat}(r:Room (k+1) A)(env:Env):Room k (A.deeper env):=
 %[r.hd,r.gd,by have:=r.dp;show A.depth+1+3*k+5<_;omega|by have:=r.un;show A.units+3+16*k+200<_;omega]
def wc{A:Around}{C:Addr}{us:List Value}{kw:List (Str×Value)}:(A.under (.builtin "type.__call__" %[.ref C::us|kw])).depth=A.depth+1:=by
 first | rfl | simp [Around.under,Code.weight,Code.isCreation,Code.isGuard,Code.isCaller,Code.frames,Code.isFrame,guardIds]
def wb{A:Around}{C:Addr}{us:List Value}{kw:List (Str×Value)}:(A.under (.builtin "type.__call__" %[.ref C::us|kw])).units=A.units+1:=by
 first | rfl | simp [Around.under,Code.cUnits,Code.frames,Code.isFrame]
def Room.make{k:Nat}(r:Room (k+1) A)(C:Addr)(us:List Value)(kw:List (Str×Value)):Room k (A.under (.builtin "type.__call__" %[.ref C::us|kw])):=
 %[r.hd,by simp [Around.under,Code.guards,Code.isGuard,guardIds,pushGuards,r.gd],by have:=r.dp;rw[wc];omega|by have:=r.un;rw[wb];omega]
def Room.depth(r:Room k A):A.depth<recursionLimit:=by have:=r.dp;omega
def Room.units(r:Room k A):A.units+64<cLine:=by have:=r.un;omega
def va:TA:=λ_ H Q=>Q [] H
def my(ta:TE)(tr:TA):TA:=λσ H Q=>ta σ H λx H1=>tr σ H1 λxs H2=>Q (x::xs) H2
section
variable {X:Cx}{e:Expr}{es:List Expr}{te:TE}{t:TA}{pos:Pos}
def aQ:PA X [] va:=λ_ _ _ _ H Q I h=>qT1 %[[],H,I,.nil|h]
def ae(ha:PE X e te)(hr:PA X es t)(hs:starEach (e::es) X.env=(false,eval e X.env)::starEach es X.env:=by rfl):PA X (e::es) (my te t):=by
 intro pos Jx s σ H Q I h;rw[hs];show wpAny _ _ (spliced ((false,eval e X.env)::backTo pos (starEach es X.env))) _ _ s;apply qJ1 (thn (ha Jx s σ H _ I h) λu s1 ⟨x,H1,I1,r1,q1⟩=>?_);exact thn (hr pos Jx s1 σ H1 _ I1 q1) λus s2 ⟨xs,H2,I2,r2,q2⟩=>%[x::xs,H2,I2,.cons r1 r2|q2]
instance ZtTup(Q:VK)(xs:(List V))(H1:Hp):xs.length<=sizeLine->(∀p,H1 p=none->Q (.ref p) (upd H1 p (.tup xs))):=0
def tTup(t:TA):TE:=λσ H Q=>t σ H λxs H1=>ZtTup Q xs H1
instance ZtLst(Q:VK)(xs:(List V))(H1:Hp):xs.length<=sizeLine->(∀p,H1 p=none->Q (.ref p) (upd H1 p (.lst xs))):=0
def tLst(t:TA):TE:=λσ H Q=>t σ H λxs H1=>ZtLst Q xs H1
def aM{x1}(h:PA X es t):PE X (.Tuple es x1 pos) (tTup t):=by
 exists 4,Q,I,hq;apply wpAny_Tuple_spliced (thn (h pos Jx s σ H _ I hq) λus s1 ⟨xs,H1,I1,r,z,q⟩=>%[by rw[←r.length];exact z|6]);let hf:H1 ‹s1›=none:=I1.hok.fresh (zH0 _);erw[.ref ‹s1›,upd H1 ‹s1› (.tup xs),I1.laid (t':=s1.toks) (λb u e=>zR0 _ e) (zH0 _) ?_,1,q _ hf];erw[z,us,r,%[_,qA0 _ rfl,1|0],_,qA0 _ rfl,1]
def cP(h:PA X es t):PE X (.List es pos) (tLst t):=by
 exists 4,Q,I,hq;apply wpAny_List_spliced (thn (h pos Jx s σ H _ I hq) λus s1 ⟨xs,H1,I1,r,z,q⟩=>%[by rw[←r.length];exact z|6]);let hf:H1 ‹s1›=none:=I1.hok.fresh (zH0 _);erw[.ref ‹s1›,upd H1 ‹s1› (.lst xs),I1.laid (t':=s1.toks) (λb u e=>zR0 _ e) (zH0 _) ?_,1,q _ hf];erw[z,us,(0),r,qA0 _ rfl]
end
abbrev Sp:=List V->Hp->VK->XK->Prop
abbrev CXT:=List Env->Hp->Shared->XK->#[6]
structure Env0(P:Program)(w:World)(K:W.Frag)(mg:#[9])(base:Heap)(A:Around)(outer:List Env)(s:Shared)(H:Hp):Prop where
 frames:A.frames=some outer
 mod:Mod K mg base
 bs:∀b o,base.get? b=some o->s.heap.get? b=some o/\H b=none
 bsz:base.objs.size<=‹s›
 funs:s.heap.FunFrames base outer
 frf:∀b∈frs outer,H b=none
 hok:HOk P w H s.heap
 bare:AllBare s.gens
def CE(outer:List Env)(P:Program)(w:World)(H:Hp)(s:Shared)(Q:VK)(u:Value)(s':Shared):Prop:=
 ∃v H',s'.os=s.os/\AllBare s'.gens/\Un (frs outer) [] H H' s.heap s'.heap/\HOk P w H' s'.heap/\RelV v u/\Q v H'
def CR(CX:CXT)(outer:List Env)(P:Program)(w:World)(H:Hp)(s:Shared)(Q:VK)(E:XK)(r:Result)(s':Shared):Prop:=
 match r with
 |.ok (.ret u)=>CE outer P w H s Q u s'
 |.ok _=>False
 |.error e=>CX outer H s E e s'
structure FnOk(P:Program)(w:World)(K:W.Frag)(mg:#[9])(base:Heap)(CX:CXT)(k:Nat)(f:Addr)(fd:FuncData)(ps:List Str)(sp:Sp):Prop where
 len:∀vs H Q E,sp vs H Q E->vs.length=ps.length
 run:∀(A:Around)(outer:List Env)(s:Shared)(H:Hp)(args:Args)(us:List Value)(vs:List V)(Q:VK)(E:XK),Room k A->Env0 P w K mg base A outer s H->BindsTo s fd args (ps.zip us)->Vals vs us->sp vs H Q E ->
  codeAny (model P w) A (.call (.ref f) args) (CR CX outer P w H s Q E) s
def Env0.make{K:W.Frag}(e:Env0 P w K mg base A outer s H)(C:Addr)(us:List Value)(kw:List (Str×Value)):
 Env0 P w K mg base (A.under (.builtin "type.__call__" %[.ref C::us|kw])) outer s H:=⟨by first | exact e.frames | (simpa [Around.under,Code.envs,Code.isFrame,pushEnvs]using e.frames),e.mod,e.bs,e.bsz,e.funs,e.frf,e.hok,e.bare⟩
section
variable {X:Cx}{Jx:#[7]}{σ:St}{H:Hp}{s s':Shared}
def Inv.env0(I:#[8] H s):Env0 X.prog X.w X.K X.mg X.base X.A X.stack s H:=
 %[I.ok.frames,I.ok.mod,I.bs,zM0 I.ok.bsz I.sz,I.stack,I.stkFree,I.hok|I.bare]
def Inv.after(I:#[8] H s)(h:CE X.stack X.prog X.w H s Q u s'):EP X Jx σ Q u s':=by
 erw[v,H',os,bare,un,hok,r,q]at h;erw[hh,g,d,t,os']at s';obtain rfl:os'=s.os:=os;erw[v,H',I.call (h':=hh) (g':=g) (d':=d) (t':=t) (ch:=[]) un hok bare (λb z=>absurd z #[2]),r,q]
end
def tF(sp:Sp)(dvs:List V)(E:XK)(t:TA):TE:=λσ H Q=>t σ H λvs H1=>sp (vs++dvs) H1 Q E
instance ZtMeth(C:Addr)(m:Str)(sp:Sp)(dvs:List V)(E:XK)(t:TA)(σ:St)(Q:VK)(x:V)(H1:Hp):∀a dx fs,x=.ref a->H1 a=some (.ins C dx fs)->fs.lookup m=none->(t σ H1 λvs H2=>sp (x::(vs++dvs)) H2 Q E):=0
def DC(C:Addr)(m:Str)(sp:Sp)(dvs:List V)(E:XK)(ta:TE)(t:TA):TE:=λσ H Q=>ta σ H λx H1=>ZtMeth C m sp dvs E t σ Q x H1
def tMake(C:Addr)(sp:Sp)(dvs:List V)(E:XK)(t:TA):TE:=λσ H Q=>t σ H λvs H1=>∀x dx,H1 x=none->H1 dx=none->dx≠x ->
 sp (.ref x::(vs++dvs)) (upd (upd H1 dx (.own x)) x (.ins C dx [])) (λv H2=>v=.non/\Q (.ref x) H2) E
def Binds(K:W.Frag)(fd:FuncData)(ps:List Str)(ds:List Value):Prop:=
 ∀(s:Shared)(us:List Value),K.In s.heap->(us++ds).length=ps.length->BindsTo s fd %[us|[]] (ps.zip (us++ds))
def Binds.all{K:W.Frag}{fd:FuncData}{ps:List Str}(h:∀us:List Value,us.length=ps.length->bindArgs fd %[us|[]]=pure (ps.zip us)):Binds K fd ps []:=λs us _ hl=>by
 rw[qU1]at hl ⊢;exact .of_eq (h us hl)
def jj(CX:CXT)(X:Cx)(E:XK):Prop:=∀(Jx:#[7])(σ:St)(H:Hp)(s:Shared)(e:Value)(s':Shared),#[8] H s->CX X.stack H s E e s'->X.xe e s'
section
variable {X:Cx}{CX:CXT}{k:Nat}{f C:Addr}{fd:FuncData}{ps:List Str}{sp:Sp}{dvs:List V}{ds:List Value}{E:XK}{x m:Str}{p pos JF:Pos}{e o:Expr}{es:List Expr}{ta:TE}{t:TA}
def sg{σ:St}{Q:VK}(F:FnOk X.prog X.w X.K X.mg X.base CX k f fd ps sp)(hr:Room k X.A)(hb:Binds X.K fd ps ds)(hd:Vals dvs ds)(hx:jj CX X E)
 (I:#[8] H s)(r:Vals vs us)(h:sp (vs++dvs) H Q E):‹X.w› (call (.ref f) us) (EP X Jx σ Q) X.xe s:=by
 let r2:Vals (vs++dvs) (us++ds):=r.append hd;let hl:(us++ds).length=ps.length:=by rw[←r2.length];exact F.len _ _ _ _ h
 apply wpAny_call (wQ1 (F.run X.A X.stack s H %[us|[]] (us++ds) (vs++dvs) Q E hr I.env0 (hb s us I.kIn hl) r2 h) λr s' hq=>?_);cases r with
 |error e=>exact hx Jx σ H s e s' I hq
 |ok fl=>
   cases fl with
   |ret u=>exact I.after hq
   |next=>exact False.elim hq
   |brk=>exact False.elim hq
   |cont=>exact False.elim hq
def CI(F:FnOk X.prog X.w X.K X.mg X.base CX k f fd ps sp)(hr:Room k X.A)(hg:Gl X x)(hm:X.mg x=some (.ref f))(hk:PySem.W.keepIn X.K (.ref f)=true)(hb:Binds X.K fd ps ds)(hd:Vals dvs ds)(hx:jj CX X E)
 (ha:PA X (e::es) t)(hdb:(x==("__debug__":Str))=false:=by decide)(he:starEach (e::es) X.env=(false,eval e X.env)::starEach es X.env:=by rfl)(hpl:(backTo pos (starEach es X.env)).any (·.1)=false:=by rfl):
 PE X (.Call (.Name x p) (e::es) [] pos) (tF sp dvs E t):=by
 exists 4,Q,I,h;apply qK1 (nV I hg hm ?_ hdb);apply wC1 (h₀:=X.base) I.ok.mod.kin hk (thn (ha pos Jx s σ H _ I h) λus s1 ⟨vs,H1,I1,r,q⟩=>%[I1.kIn|6]) he hpl;exact sg F hr hb hd hx I1 r q
def Ay(F:FnOk X.prog X.w X.K X.mg X.base CX k f fd ps sp)(hr:Room k X.A)(hg:Gl X x)(hm:X.mg x=some (.ref f))(hk:PySem.W.keepIn X.K (.ref f)=true)(hb:Binds X.K fd ps ds)(hd:Vals dvs ds)(hx:jj CX X E)
 (hdb:(x==("__debug__":Str))=false:=by decide):PE X (.Call (.Name x p) [] [] pos) (tF sp dvs E va):=by
 exists 4,Q,I,h;apply qK1 (nV I hg hm ?_ hdb);exact PySem.W.callWith_K0 I.kIn hk (sg (us:=[]) F hr hb hd hx I .nil h)
def bJ{pl:Sem Bool}(he:PE X o ta)(c:Cls X.K C)(hm:Meth X.K C m f)(F:FnOk X.prog X.w X.K X.mg X.base CX k f fd ps sp)(hr:Room k X.A)(hb:Binds X.K fd ps ds)(hd:Vals dvs ds)(hx:jj CX X E)(ha:PA X (e::es) t)
 (JE:starEach (e::es) X.env=(false,eval e X.env)::starEach es X.env:=by rfl)(hpl:(backTo pos (starEach es X.env)).any (·.1)=false:=by rfl)
 (ht:eval (.Call (.Attribute o m JF) (e::es) [] pos) X.env=(do
  let ov ←eval o X.env
  standAt JF.atName
  let(f,first) ←holding [ov] (getMethod ov m pl)
  callWith pos f first (backTo pos (starEach (e::es) X.env)) (backToKw pos (keywordEach [] X.env))):=by rfl) :
 PE X (.Call (.Attribute o m JF) (e::es) [] pos) (DC C m sp dvs E ta t):=by
 exists 4,Q,I,h;apply PySem.W.methodCall_KW (pl:=pl) (thn (he Jx s σ H _ I h) λu s1 ⟨x,H1,I1,rx,a,dx,fs,ex,ea,l,q⟩=>?_) ht;subst ex;obtain rfl:u=Value.ref a:=rx;apply pS I1 ea c hm l ?_;apply wC1 (first:=[.ref a]) (h₀:=X.base) I.ok.mod.kin hm.kp (thn (ha pos Jx s1 σ H1 _ I1 q) λus s2 ⟨vs,H2,I2,r,q2⟩=>%[I2.kIn|6]) JE hpl;exact sg (us:=.ref a::us) (vs:=.ref a::vs) F hr hb hd hx I2 (.cons rfl r) q2
def ca{pl:Sem Bool}(he:PE X o ta)(c:Cls X.K C)(hm:Meth X.K C m f)(F:FnOk X.prog X.w X.K X.mg X.base CX k f fd ps sp)(hr:Room k X.A)(hb:Binds X.K fd ps ds)(hd:Vals dvs ds)(hx:jj CX X E)
 (ht:eval (.Call (.Attribute o m JF) [] [] pos) X.env=(do
  let ov ←eval o X.env
  standAt JF.atName
  let(f,first) ←holding [ov] (getMethod ov m pl)
  callWith pos f first (backTo pos (starEach [] X.env)) (backToKw pos (keywordEach [] X.env))):=by rfl) :
 PE X (.Call (.Attribute o m JF) [] [] pos) (DC C m sp dvs E ta va):=by
 exists 4,Q,I,h;apply PySem.W.methodCall_KW (pl:=pl) (thn (he Jx s σ H _ I h) λu s1 ⟨x,H1,I1,rx,a,dx,fs,ex,ea,l,q⟩=>?_) ht;subst ex;obtain rfl:u=Value.ref a:=rx;apply pS I1 ea c hm l ?_;exact PySem.W.callWith_K0 (first:=[.ref a]) I1.kIn hm.kp (sg (us:=[.ref a]) (vs:=[.ref a]) F hr hb hd hx I1 (.cons rfl .nil) q)
structure Mk(K:W.Frag)(C f:Addr):Prop where
 makes:PySem.W.makesIn K C=true
 init:PySem.W.findIn K (.ref C) "__init__"=some (some (.ref f))
 fn:PySem.W.isFn K (.ref f)=true
 kp:PySem.W.keepIn K (.ref C)=true
def Ab{σ:St}{Q:VK}(M:Mk X.K C f)(F:FnOk X.prog X.w X.K X.mg X.base CX k f fd ps sp)(hr:Room (k+1) X.A)(hb:Binds X.K fd ps ds)(hd:Vals dvs ds)
 (hx:jj CX X E)(I:#[8] H s)(r:Vals vs us)
 (h:∀x dx,H x=none->H dx=none->dx≠x->sp (.ref x::(vs++dvs)) (upd (upd H dx (.own x)) x (.ins C dx [])) (λv H2=>v=.non/\Q (.ref x) H2) E):
 ‹X.w› (call (.ref C) us) (EP X Jx σ Q) X.xe s:=by
 let hq:=h (‹s›+1) ‹s› (I.hok.fresh (qM0 _)) (I.hok.fresh (zH0 _)) (qB0 (qM1 _));let I2:=Inv.made (C:=C) I;let r2:Vals (V.ref (‹s›+1)::(vs++dvs)) (Value.ref (‹s›+1)::(us++ds)):=.cons rfl (r.append hd);let hl:(Value.ref (‹s›+1)::us++ds).length=ps.length:=by
  let e:=r2.length;rw[F.len _ _ _ _ hq]at e;exact e.symm
 apply wpAny_call (Bb (f:=f) I.kIn M.makes M.init (beq_iff_eq.mp M.fn) (wQ1 (F.run _ X.stack _ _ %[Value.ref (‹s›+1)::us|[]] (Value.ref (‹s›+1)::(us++ds)) _ _ E (hr.make C us [])
  (I2.env0.make C us []) (hb _ (Value.ref (‹s›+1)::us) I2.kIn hl) r2 hq) λr s' hq'=>?_))
 cases r with
 |error e=>exact hx Jx σ _ _ e s' I2 hq'
 |ok fl=>
   cases fl with
   |ret u=>
     let%[v,H',I3,rv,ev|q3]:=I2.after hq';subst ev;erw[rv,%[V.ref (‹s›+1),H',I3,1|q3]]
   |next=>exact False.elim hq'
   |brk=>exact False.elim hq'
   |cont=>exact False.elim hq'
def jy(M:Mk X.K C f)(F:FnOk X.prog X.w X.K X.mg X.base CX k f fd ps sp)(hr:Room (k+1) X.A)(hg:Gl X x)(hm:X.mg x=some (.ref C))(hb:Binds X.K fd ps ds)(hd:Vals dvs ds)(hx:jj CX X E)
 (ha:PA X (e::es) t)(hdb:(x==("__debug__":Str))=false:=by decide)(he:starEach (e::es) X.env=(false,eval e X.env)::starEach es X.env:=by rfl)(hpl:(backTo pos (starEach es X.env)).any (·.1)=false:=by rfl):
 PE X (.Call (.Name x p) (e::es) [] pos) (tMake C sp dvs E t):=by
 exists 4,Q,I,h;apply qK1 (nV I hg hm ?_ hdb);apply wC1 (h₀:=X.base) I.ok.mod.kin M.kp (thn (ha pos Jx s σ H _ I h) λus s1 ⟨vs,H1,I1,r,q⟩=>%[I1.kIn|6]) he hpl;exact Ab M F hr hb hd hx I1 r q
end
structure FnScope(N P:List Str)(sc:Scope):Prop where
 kind:sc.kind=.function
 co:sc.isCoroutine=false
 gen:sc.isGenerator=false
 nd:N.Nodup
 pre:N.take P.length=P
 par:∀x∈P,sc.names.lookup x=some .local∨sc.names.lookup x=some .cell
 nofree:∀y∈sc.names,y.2≠.free
def rb{kindOf:Str->Option NameKind}{x:Str}:∀{binds:List (Str×Value)}{m:#[9]},(∀v,(x,v)∉binds)->bindL kindOf binds m x=m x
 | [],_,_=>rfl
 | (n,v)::r,m,h=>by
   unfold bindL;rw[rb λw hw=>h w (qK0 _ hw)]
   split
   . have:x≠n:=by rintro rfl;exact h v zW0
     simp [this]
   . rfl
def re{kindOf:Str->Option NameKind}{x:Str}:∀{binds:List (Str×Value)}{m:#[9]},(∀v,(x,v)∉binds)->bindC kindOf binds m x=m x
 | [],_,_=>rfl
 | (n,v)::r,m,h=>by
   unfold bindC;rw[re λw hw=>h w (qK0 _ hw)]
   split
   . rfl
   . have:x≠n:=by rintro rfl;exact h v zW0
     simp [this]
def rc{kindOf:Str->Option NameKind}{x:Str}{v:Value}:∀{P:List Str}{vs:List Value}{i:Nat}{m:#[9]},P.Nodup->P[i]?=some x->vs[i]?=some v->kindOf x=some .local ->
 bindL kindOf (P.zip vs) m x=some v
 | [],_,_,_,_,h,_,_=>by simp at h
 |_::_,[],_,_,_,_,h,_=>by simp at h
 |p::P,w::vs,0,m,nd,h1,h2,hk=>by
   simp at h1 h2;subst h1;subst h2
   show bindL kindOf ((p,w)::P.zip vs) m p=_;unfold bindL;rw[rb λv hv=>(List.nodup_cons.mp nd).1 (List.of_mem_zip hv).1,JB hk]
   simp
 |p::P,w::vs,i+1,m,nd,h1,h2,hk=>by
   show bindL kindOf ((p,w)::P.zip vs) m x=_;unfold bindL;exact rc (i:=i) (List.nodup_cons.mp nd).2 #[h1,0] #[h2,0] hk
def rf{kindOf:Str->Option NameKind}{x:Str}{v:Value}:∀{P:List Str}{vs:List Value}{i:Nat}{m:#[9]},P.Nodup->P[i]?=some x->vs[i]?=some v->kindOf x≠some .local ->
 bindC kindOf (P.zip vs) m x=some v
 | [],_,_,_,_,h,_,_=>by simp at h
 |_::_,[],_,_,_,_,h,_=>by simp at h
 |p::P,w::vs,0,m,nd,h1,h2,hk=>by
   simp at h1 h2;subst h1;subst h2
   show bindC kindOf ((p,w)::P.zip vs) m p=_;unfold bindC;rw[re λv hv=>(List.nodup_cons.mp nd).1 (List.of_mem_zip hv).1,Jy hk]
   simp
 |p::P,w::vs,i+1,m,nd,h1,h2,hk=>by
   show bindC kindOf ((p,w)::P.zip vs) m x=_;unfold bindC;exact rf (i:=i) (List.nodup_cons.mp nd).2 #[h1,0] #[h2,0] hk
def mD(N:List Str)(vs:List V):St:=vs.map some++List.replicate (N.length-vs.length) none
def zb(CX:CXT)(P:Program)(w:World)(K:W.Frag)(mg:#[9])(base:Heap)(N:List Str)(qual:Str)(scope:Scope)(f:Addr)(cd:Value)(A:Around)(outer:List Env)(s:Shared)(H:Hp)(E:XK):Cx where
 prog:=P
 w:=w
 K:=K
 mg:=mg
 base:=base
 A:=A.deeper (envOfC qual scope ‹s› f cd)
 N:=N
 s₀:=s
 H₀:=H
 env:=envOfC qual scope ‹s› f cd
 outer:=outer
 stack:=envOfC qual scope ‹s› f cd::outer
 ex:=[]
 calm:=true
 fn:=λ_=>true
 pn:=[]
 xe:=λe s'=>wpAny (model P w) (A.deeper (envOfC qual scope ‹s› f cd)) (leaving (envOfC qual scope ‹s› f cd) e) (λ_ s''=>CX outer H s E e s'') (λe' s''=>CX outer H s E e' s'') s'
def uK{sc:Scope}{n:Nat}{x:Str}(h:sc.names.lookup x=some .cell):∃c,(cellsFrom n sc.names []).lookup x=some c:=by
 let q:=PySem.W.cellsFrom_some sc.names n [] (.inl h);exact Option.isSome_iff_exists.mp q
def yL{K:W.Frag}{qual:Str}{f:Addr}{cd:Value}{A:Around}{s1:Shared}{vs:List V}
 (S:FnScope N ps scope)(hd:A.handled=none)(e0:Env0 P w K mg base A outer s H)(hl:vs.length=ps.length)(r:Vals vs us)
 (x:InCallC s ‹s› (bindL (envOfC qual scope ‹s› f cd).kindOf (ps.zip us) λ_=>none) (cellsFrom (‹s›+1) scope.names []) (bindC (envOfC qual scope ‹s› f cd).kindOf (ps.zip us) λ_=>none) s1):
 Inv (zb CX P w K mg base N qual scope f cd A outer s H E) [] (mD N vs) H s1:=by
 let hpl:ps.length<=N.length:=by have:=congrArg List.length S.pre;rw[qI0]at this;omega
 erw[h1,tk,1,hk]at x.done;let noA:∀b:Addr,b∉(zb CX P w K mg base N qual scope f cd A outer s H E).ex:=λb z=>absurd (show b∈([]:List Addr)from z) #[2]
 erw[%[e0.mod,S.kind,1,1,zH0 _,λy z c h1 h2=>?_,λy hy=>?_,λy c _ h=>?_,λ_=>hd,Around.frames_deeper e0.frames,.inr %[1|1],λb z=>absurd z (noA b),e0.bs,e0.bsz,λb _ _=>noA b,λb z=>absurd z (noA b),e0.funs|e0.frf],1,e0.bare,Un.kept hk,%[_,x.toInCall.ns|λi y v h1 h2 h3=>?_],λy c h=>%[_|x.cell y c h],e0.hok.fresh (zH0 _),λy c h=>?_,λp hp=>absurd (show p∈([]:#[7])from hp) #[2],e0.hok.kept hk,6]
 . exact name_of_addr x.apart (qE1 h1) (qE1 h2)
 . let hy:scope.names.lookup y=some .cell∨scope.names.lookup y=some .free:=hy;rcases hy with hy | hy
   . exact uK hy
   . exact absurd rfl (S.nofree _ (qE1 hy))
 . exact wC0 (x.above y c (qE1 h))
 . let hi:i<vs.length:=by
    unfold mD at h2
    by_cases hi:i<vs.length
    . exact hi
    . rw [zL1 #[hi,0]]at h2;rw[List.getElem?_replicate]at h2
      split at h2 <;> cases h2
   let ha:vs[i]?=some v:=by
    unfold mD at h2;rw[zO1 #[hi,0],zX0]at h2;cases e:vs[i]? with
    |none=>rw[e]at h2;cases h2
    |some a=>rw[e]at h2;cases h2;rfl
   let%[u,hu|rv]:=r.get ha;let hp:ps[i]?=some y:=by
    rw[←S.pre,List.getElem?_take_of_lt #[0]];exact h1
   let ndP:ps.Nodup:=by rw[←S.pre];exact S.nd.sublist (List.take_sublist _ _)
   erw[u,rv,6];rcases S.par y (qG0 hp)with k | k
   . exact .inl %[k|rc ndP hp hu k]
   . let%[c|e]:=uK (n:=‹s›+1) k;refine .inr %[.inl k,c,e|6];let q:=x.cell y c e;rw[rf ndP hp hu (by show scope.names.lookup y≠_;rw[k];decide)]at q;exact q
 . exact e0.hok.fresh (wC0 (x.above y c (qE1 h)))
 . unfold mD;show _=N.length;rw[zL0,zF0,zU1];omega
def fn_of{K:W.Frag}{f:Addr}{name qual:Str}{params:Arguments}{body:List Stmt}{scope:Scope}{dV kV doc pm cdv ct oc:Value}{an od:Option Addr}
 {osl:Array (Option Value)}{sp:Sp}(lk:K.lookup f=some %[oc,od,.func (PySem.W.fnOf name qual params body scope dV kV doc pm an cdv ct)|osl])(hcd:PySem.W.codeIn K cdv qual=true)(S:FnScope N ps scope)
 (len:∀vs H Q E,sp vs H Q E->vs.length=ps.length)
 (hbody:∀(A:Around)(outer:List Env)(s:Shared)(H:Hp)(vs:List V)(Q:VK)(E:XK),Room k (A.deeper (envOfC qual scope ‹s› f cdv))->sp vs H Q E ->
  ∃t,PSs (zb CX P w K mg base N qual scope f cdv A outer s H E) body t/\t { nx:=λ_ H'=>Q .non H',rt:=Q } (mD N vs) H) :
 FnOk P w K mg base CX (k+1) f (PySem.W.fnOf name qual params body scope dV kV doc pm an cdv ct) ps sp:=by
 erw[len,λA outer s H args us vs Q E hr e0 hb r hsp=>?_];let hl:=len _ _ _ _ hsp;let KX:K.In s.heap:=e0.mod.kin.keeps λb o e=>(e0.bs b o e).1
 let lim:s.heap.NoLimit:=e0.mod.nolimit.keeps λb o e=>(e0.bs b o e).1
 let hkind:∀y∈ps.zip us,scope.names.lookup y.1=some .local∨(scope.names.lookup y.1=some .cell/\((cellsFrom (‹s›+1) scope.names []).lookup y.1).isSome=true):=fun⟨n,v⟩ hy=>by
  rcases S.par n (List.of_mem_zip hy).1 with q | q
  . exact .inl q
  . exact .inr %[q|PySem.W.cellsFrom_some _ _ _ (.inl q)]
 apply codeAny_call_function hr.depth (KX _ _ lk) rfl S.co S.gen rfl (PySem.W.codeRec_of KX hcd) (hb _ _ _ _ ?_);apply wpAny_newFunctionEnv_cells S.kind hkind λenv he s1 x=>?_
 subst he;erw[lim.keeps x.toInCall.keep,codeAny_func ?_];let%[t,ht|hq]:=hbody A outer s H vs Q E (hr.deeper _) hsp;let I:Inv (zb CX P w K mg base N qual scope f cdv A outer s H E) [] (mD N vs) H s1:=yL S hr.hd e0 hl r x;apply jD0 (ht [] s1 (mD N vs) H _ I hq) (λfl s' hs=>?_) λe s' hs=>hs
 let fin:∀{σ':St}{H':Hp}{v:V}{u:Value},Inv (zb CX P w K mg base N qual scope f cdv A outer s H E) [] σ' H' s'->RelV v u->Q v H'->CE outer P w H s Q u s':=
  fun{σ' H' v u} J rv q=>%[v,H',J.os,J.bare,J.base,J.hok,rv|q]
 cases fl with
 |ret u=>
   erw[v,σ',H',J,rv,q]at hs;exact fin J rv q
 |next=>
   erw[σ',H',J,q]at hs;exact fin (v:=V.non) (u:=Value.none) J rfl q
 |brk=>
   erw[_,_,_,q]at hs;exact False.elim q
 |cont=>
   erw[_,_,_,q]at hs;exact False.elim q
section
variable {X:Cx}{x:Str}{p pos:Pos}{e:Expr}{es:List Expr}{t:TA}{id T:String}{r:List V->Hp->VK->Prop}
def tCB(r:List V->Hp->VK->Prop)(t:TA):TE:=λσ H Q=>t σ H λvs H1=>r vs H1 Q
def aE(hc:gC X (.builtin id) r)(hg:Gl X x)(hm:X.mg x=none)(hv:bootBuiltins x=some (.builtin id))(ha:PA X (e::es) t)(hn:x≠"__name__":=by decide)(hdb:(x==("__debug__":Str))=false:=by decide)
 (he:starEach (e::es) X.env=(false,eval e X.env)::starEach es X.env:=by rfl)(hpl:(backTo pos (starEach es X.env)).any (·.1)=false:=by rfl):PE X (.Call (.Name x p) (e::es) [] pos) (tCB r t):=by
 exists 4,Q,I,h;apply qK1 (gR I hg hm hv ?_ hn hdb);exact PyProof.Rows.callWith_builtin1 (thn (ha pos Jx s σ H _ I h) λus s1 ⟨vs,H1,I1,r1,q1⟩=>hc Jx s1 σ H1 vs us Q I1 r1 q1) he hpl
def bv(hc:gC X (.type T) r)(hg:Gl X x)(hm:X.mg x=none)(hv:bootBuiltins x=some (.type T))(ha:PA X (e::es) t)(hn:x≠"__name__":=by decide)(hdb:(x==("__debug__":Str))=false:=by decide)
 (he:starEach (e::es) X.env=(false,eval e X.env)::starEach es X.env:=by rfl)(hpl:(backTo pos (starEach es X.env)).any (·.1)=false:=by rfl):PE X (.Call (.Name x p) (e::es) [] pos) (tCB r t):=by
 exists 4,Q,I,h;apply qK1 (gR I hg hm hv ?_ hn hdb);exact zN1 (thn (ha pos Jx s σ H _ I h) λus s1 ⟨vs,H1,I1,r1,q1⟩=>hc Jx s1 σ H1 vs us Q I1 r1 q1) he hpl
end
end L2
namespace HT
open PySem PyProof.Rows
section
variable {prog:Program}{w:World}{A:Around}{E:#[6]}{s:Shared}
def cat_tup{t b:Addr}{vs ws:List Value}{Q:#[6]}(ht:IsTup s.heap t vs.toArray)(hb:IsTup s.heap b ws.toArray)(hv:vs≠[])
 (h1:ws=[]->Q (.ref t) s)(h2:ws≠[]->Q (.ref ‹s›) { s with heap:=s.heap.push { cls:=.type "tuple",data:=.seq (vs++ws).toArray } })
 (hsz:vs.length+ws.length<=sizeLine):‹w.A› (binaryOp .Add (.ref t) (.ref b)) Q E s:=by
 let%[%[cls,dd,data|sl],ho,hc,n|hd]:=id ht;let%[%[cls2,dd2,data2|sl2],ho2,hc2,n2|hd2]:=id hb;simp only at hc hd hc2 hd2;subst hc hd hc2 hd2;let e:vs.toArray++ws.toArray=(vs++ws).toArray:=by simp
 by_cases hw:ws=[]
 . exact concat_meets %[_,ho|1] ⟨_,ho2,rfl⟩ wN1 seq_tuple_add jL1 jK0 (jH0 _ _)
    (tuple_addW1 t b vs.toArray ws.toArray n n2 dd dd2 sl sl2 #[hv,0] (by simp [hw])) %[ho,ho2|h1 hw]
 . apply concat_meets %[_,ho|1] ⟨_,ho2,rfl⟩ wN1 seq_tuple_add jL1 jK0 (jH0 _ _)
    (tuple_addW2 t b vs.toArray ws.toArray n n2 dd dd2 sl sl2 #[hv,0] #[hw,0] (by rw[zN0,zN0];exact hsz)) %[ho,ho2|6]
   rw[e];exact h2 hw
def sIx(n d:Nat):Option Int->Nat
 |none=>d
 |some v=>if v<0 then(v+(n:Int)).toNat else min v.toNat n
def sIx_none(n d:Nat):sIx n d none=d:=rfl
def sIx_nat(n d k:Nat):sIx n d (some (k:Int))=min k n:=by
 show(if(k:Int)<0 then((k:Int)+(n:Int)).toNat else min (k:Int).toNat n)=min k n;rw[Jy #[0],qS0]
def Ef(n d:Nat)(hd:d<=n)(o:Option Int):sIx n d o<=n:=by
 cases o with
 |none=>exact hd
 |some v=>
   show(if v<0 then(v+(n:Int)).toNat else min v.toNat n)<=n
   by_cases hv:v<0
   . rw[JB hv];omega
   . rw[Jy hv];exact Nat.min_le_right _ _
def xq(v:Int)(n d:Nat):(if v<0 then max (v+(n:Int)) 0 else min v (n:Int))=((sIx n d (some v):Nat):Int):=by
 show(if v<0 then max (v+(n:Int)) 0 else min v (n:Int))=(((if v<0 then(v+(n:Int)).toNat else min v.toNat n):Nat):Int)
 by_cases hv:v<0
 . simp only[JB hv];omega
 . simp only[Jy hv];omega
def wG(lo hi:Option Int)(n:Nat):Builtin.Slice.sliceAdjust lo hi 1 (n:Int)=(((sIx n 0 lo:Nat):Int),((sIx n n hi:Nat):Int)):=by
 let h1:¬ ((1:Int)<0):=#[0]
 unfold Builtin.Slice.sliceAdjust;simp only[h1,if_false];apply Prod.ext ?_ ?_
 . cases lo with
   |none=>rfl
   |some v=>exact xq v n 0
 . cases hi with
   |none=>rfl
   |some v=>exact xq v n n
def vG(i j:Nat):Builtin.Slice.slicePlaces (i:Int) (j:Int) 1=j-i:=by
 unfold Builtin.Slice.slicePlaces;let h1:(1:Int)>0:=#[0]
 simp only[h1,if_true,Int.ediv_one]
 split <;> omega
def oy{v:Value}{o:Option Int}{Q:Option Int->Shared->Prop}(p:IsPart v o)(h:Q o s):‹w.A› (Builtin.Slice.slicePartIndex v) Q E s:=by
 cases p with
 |none=>exact slicePart_none h
 |int i t=>exact slicePart_int h
def gV{sl:Addr}{vl vu:Value}{lo hi:Option Int}{Q:Int×Int×Nat->Shared->Prop}(hs:s.heap.IsSliceOf sl vl vu .none)(pl:IsPart vl lo)(pu:IsPart vu hi)
 (h:Q (((sIx n 0 lo:Nat):Int),1,sIx n n hi-sIx n 0 lo) s):‹w.A› (Builtin.Slice.sliceApplied (.ref sl) (pure (n:Int))) Q E s:=by
 let%[os,hos,hcs|hds]:=id hs;unfold Builtin.Slice.sliceApplied Builtin.Slice.sliceFields;apply zD0 (zD0 (zY1 hos hds (x:=vl) rfl (zD0 (zY1 hos hds (x:=vu) rfl (zD0 (zY1 hos hds (x:=.none) rfl (zI0 ?_)))))));apply zD0 (slicePart_none ?_);show wpAny _ _ (if((1:Int)==0)=true then _ else _) _ _ s;rw[Jy ⋯];apply zD0 (oy pl (zD0 (oy pu (zD0 (zI0 ?_)))));show wpAny _ _ (match Builtin.Slice.sliceAdjust lo hi 1 (n:Int)with | (lo,hi)=>pure (lo,(1:Int),Builtin.Slice.slicePlaces lo hi 1)) _ _ s;rw[wG lo hi n];show wpAny _ _ (pure (((sIx n 0 lo:Nat):Int),(1:Int),Builtin.Slice.slicePlaces ((sIx n 0 lo:Nat):Int) ((sIx n n hi:Nat):Int) 1)) _ _ s;rw[vG];exact zI0 h
def Aq(xs:Array Value)(i k:Nat):((List.range k).filterMap fun(m:Nat)=>xs[((i:Int)+(m:Int)*1).toNat]?).toArray=((xs.toList.drop i).take k).toArray:=by
 let e:(fun(m:Nat)=>xs[((i:Int)+(m:Int)*1).toNat]?)=λm=>xs[i+m]?:=by
  funext m
  have:((i:Int)+(m:Int)*1).toNat=i+m:=#[0]
  rw[this]
 rw[e]
 have:=pick_run xs i k
 rw[List.filterMap_map]at this;let e2:((λx=>xs[x]?) ∘ λx=>i+x)=λm=>xs[i+m]?:=rfl
 rw[e2]at this;rw[this]
def getItem_tuple_cut{t sl:Addr}{items:Array Value}{vl vu:Value}{lo hi:Option Int}{Q:#[6]}(ht:IsTup s.heap t items)(hs:s.heap.IsSliceOf sl vl vu .none)(pl:IsPart vl lo)(pu:IsPart vu hi)
 (hw:¬ (sIx items.size 0 lo=0/\sIx items.size items.size hi=items.size))
 (h:Q (.ref ‹s›) { s with heap:=s.heap.push { cls:=.type "tuple",data:=.seq ((items.toList.drop (sIx items.size 0 lo)).take (sIx items.size items.size hi-sIx items.size 0 lo)).toArray } })
 (hsz:items.size<=sizeLine):‹w.A› (getItem (.ref t) (.ref sl)) Q E s:=by
 let htake:sizeOk (.seq ((items.toList.drop (sIx items.size 0 lo)).take (sIx items.size items.size hi-sIx items.size 0 lo)).toArray):=by
  show((items.toList.drop (sIx items.size 0 lo)).take (sIx items.size items.size hi-sIx items.size 0 lo)).toArray.size<=sizeLine;rw[zN0,qI0,jG0,zT1];omega
 let hj:sIx items.size items.size hi<=items.size:=Ef _ _ (zH0 _) hi;let%[os,hos,hcs|hds]:=id hs;let hTs:s.TypeIs (.ref sl) "slice":=%[os,hos|hcs]
 unfold getItem
 try with_reducible apply qH1 ?_
 first | apply zD0 (zI0 ?_) | skip
 apply zD0 (wI1 ht.typeIs ⋯ ?_);apply zD0 (zP1 (name:=Str.ofString "__getitem__") ht.typeIs qF1
  (qD1 qF1 ht.typeIs entry_tuple_getitem ?_ (args_tuple_getitem _ _)))
 show wpAny _ _ (Builtin.Tuple.tupleItemsOf (.ref t) >>= _) _ _ s;apply zD0 (tupleItemsOf_ ht ?_);apply zD0 (wD0 hTs ?_);rw[JB ⋯];apply zD0 (gV hs pl pu ?_);let hno:¬ ((((sIx items.size 0 lo:Nat):Int)==0&&(1:Int)==1&&(sIx items.size items.size hi-sIx items.size 0 lo)==items.size)=true):=by
  intro q;rw[qN1,qN1]at q;let q1:((sIx items.size 0 lo:Nat):Int)=0:=eq_of_beq q.1.1;let q2:sIx items.size items.size hi-sIx items.size 0 lo=items.size:=eq_of_beq q.2;exact hw %[3|3]
 show wpAny _ _ (if(((sIx items.size 0 lo:Nat):Int)==0&&(1:Int)==1&&(sIx items.size items.size hi-sIx items.size 0 lo)==items.size)=true then _ else _) _ _ s;rw[Jy hno,Aq]
 first
  |exact zD0 (m:=Builtin.Tuple.tupleExact _) (zQ1 (zI0 ⟨_,rfl,zI0 h⟩) htake)
  |exact zD0 (m:=Builtin.Tuple.tupleExact _) (zQ1 (zD0 (zI0 (zI0 ⟨_,rfl,zI0 h⟩))) htake)
  |exact zD0 (zD0 (m:=Builtin.Tuple.tupleExact _) (zQ1 (zI0 (zI0 ⟨_,rfl,zI0 h⟩)) htake))
  |exact zD0 (zD0 (m:=Builtin.Tuple.tupleExact _) (zQ1 (zI0 ⟨_,rfl,zI0 h⟩) htake))
end
end HT
namespace L2
open PySem PySem.Spec PyProof.Rows
abbrev TO:=St->Hp->(Option Int->Hp->Prop)->Prop
def PO(X:Cx)(e:Option Expr)(t:TO):Prop:=
 ∀(Jx:#[7])(s:Shared)(σ:St)(H:Hp)(Q:Option Int->Hp->Prop),#[8] H s->t σ H Q ->
  ‹X.w› (evalPart e X.env) (λu s'=>∃o H',#[8] H' s'/\IsPart u o/\Q o H') X.xe s
def Cj:TO:=λ_ H Q=>Q none H
instance ZtPart(Q:(Option Int->Hp->Prop))(x:V)(H1:Hp):∀i,x=.int i->Q (some i) H1:=0
def tPart(t:TE):TO:=λσ H Q=>t σ H λx H1=>ZtPart Q x H1
section
variable {X:Cx}{e:Expr}{te:TE}{lo hi:Option Expr}{tl th:TO}{pos p2:Pos}
def jw:PO X none Cj:=by
 exists 4,Q,I,h;rw[evalPart_none];exact zI0 %[none,H,I,.none|h]
def ee(h:PE X e te):PO X (some e) (tPart te):=by
 exists 4,Q,I,hw;rw[evalPart_some];apply thn (h Jx s σ H _ I hw) λu s1 ⟨x,H1,I1,r1,q1⟩=>?_
 erw[i,1,q]at q1;erw[t,1]at r1;erw[some i,H1,I1,.int i t,q]
def SlR(X:Cx)(r:V->Option Int->Option Int->Hp->VK->Prop):Prop:=
 ∀(Jx:#[7])(s:Shared)(σ:St)(H:Hp)(x:V)(v vl vu:Value)(lo hi:Option Int)(sl:Addr)(Q:VK),#[8] H s->RelV x v->s.heap.IsSliceOf sl vl vu .none->IsPart vl lo->IsPart vu hi->r x lo hi H Q ->
  ∃T id,typeLookup (.type T) "__getitem__"=pure (some (.builtin id))/\s.TypeIs v T/\‹X.w› (getItem v (.ref sl)) (EP X Jx σ Q) X.xe s
def tSl(r:V->Option Int->Option Int->Hp->VK->Prop)(te:TE)(tl th:TO):TE:=λσ H Q=>te σ H λx H1=>tl σ H1 λl H2=>th σ H2 λu H3=>r x l u H3 Q
def eZ(hr:SlR X r)(he:PE X e te)(hl:PO X lo tl)(hu:PO X hi th):PE X (.Subscript e (.Slice lo hi none p2) pos) (tSl r te tl th):=by
 exists 4,Q,I,h;apply Subscript_ (thn (he Jx s σ H _ I h) λv s1 ⟨x,H1,I1,r1,q1⟩=>?_);apply wpAny_Slice (thn (hl Jx s1 σ H1 _ I1 q1) λvl s2 ⟨l,H2,I2,pl,q2⟩=>thn (hu Jx s2 σ H2 _ I2 q2) λvu s3 ⟨u,H3,I3,pu,q3⟩=>?_);rw[evalPart_none];apply zI0 ?_;let I4:#[8] H3 { s3 with heap:=s3.heap.push { cls:=.type "slice",data:=.fields #[vl,vu,.none] } }:=I3.kept (t':=s3.toks) λb ob q=>zR0 _ q
 let%[T,id,hT,ht|hg]:=hr Jx { s3 with heap:=s3.heap.push { cls:=.type "slice",data:=.fields #[vl,vu,.none] } } σ H3 x v vl vu l u ‹s3› Q I4 r1 (Heap.IsSliceOf.new ..) pl pu q3;show ‹X.w› (subscriptTail e (.Slice lo hi none p2) v (.ref ‹s3›)) (EP X Jx σ Q) X.xe { s3 with heap:=s3.heap.push { cls:=.type "slice",data:=.fields #[vl,vu,.none] } };exact tail_any (ops:=[.ref ‹s3›,v]) ht hT hg (by rfl')
def hV(xs:List V)(lo hi:Option Int):List V:=(xs.drop (HT.sIx xs.length 0 lo)).take (HT.sIx xs.length xs.length hi-HT.sIx xs.length 0 lo)
def nn(xs:List V)(lo hi:Option Int):(hV xs lo hi).length<=xs.length:=by
 unfold hV;rw[qI0,jG0];omega
instance rSlT(K:W.Frag)(x:V)(lo:Option Int)(hi:Option Int)(H:Hp)(Q:VK):∀a xs,x=.ref a->SqT K H a xs->(¬ (HT.sIx xs.length 0 lo=0/\HT.sIx xs.length xs.length hi=xs.length))->(∀p,H p=none->Q (.ref p) (upd H p (.tup (hV xs lo hi)))):=0
def rA:SlR X (rSlT X.K):=by
 exists 4,x,v,vl,vu,lo,hi,sl,Q,I,rx,hs,pl,pu,h;erw[a,xs,1,hx,hw,q]at h;cases rx;let%[its,r,ht|hz]:=I.tuple hx;let hlen:its.toArray.size=xs.length:=by rw[zN0];exact r.length.symm
 erw["tuple",_,PyProof.Rows.slot_tuple_getitem.lookup,ht.typeIs,6];apply HT.getItem_tuple_cut ht hs pl pu (by rw[hlen];exact hw) ?_ (by rw[hlen];exact hz);rw[hlen];erw[.ref ‹s›,_,I.laid (t':=s.toks) (o:=.tup (hV xs lo hi)) (λb ob q=>zR0 _ q) (zH0 _) ?_,1,q _ (I.hok.fresh (zH0 _))];erw[zM0 (nn xs lo hi) hz,_,(r.drop (HT.sIx xs.length 0 lo)).take (HT.sIx xs.length xs.length hi-HT.sIx xs.length 0 lo),IsTup.new _ _,_,qA0 _ rfl,1]
instance rCatT(K:W.Frag)(x:V)(y:V)(H:Hp)(Q:VK):∀a b xs ys,x=.ref a->y=.ref b->SqT K H a xs->SqT K H b ys->xs≠[]->xs.length+ys.length<=sizeLine->(ys=[]->Q (.ref a) H)->(ys≠[]->∀p,H p=none->Q (.ref p) (upd H p (.tup (xs++ys)))):=0
def Vals.nil_iff(r:Vals xs us):us=[]↔xs=[]:=by
 cases r with
 |nil=>simp
 |cons _ _=>simp
def op_catT:OpR X (binaryOp .Add) (rCatT X.K):=by
 exists 4,x,y,v,u,Q,I,rx,ry,h;erw[a,b,xs,ys,1,1,ha,hb,hx,hz,q1,q2]at h;cases rx;cases ry;let%[its,r1,p1|_]:=I.tuple ha;let%[its2,r2,p2|_]:=I.tuple hb;apply HT.cat_tup p1 p2 (λz=>hx (r1.nil_iff.mp z)) (λz=>%[.ref a,H,I,1|q1 (r2.nil_iff.mp z)]) (λz=>?_) (by rw[←r1.length,←r2.length];exact hz);erw[.ref ‹s›,_,I.laid (t':=s.toks) (o:=.tup (xs++ys)) (λb ob q=>zR0 _ q) (zH0 _) ?_,1,q2 (λw=>z (r2.nil_iff.mpr w)) _ (I.hok.fresh (zH0 _))];erw[by rw[zL0];exact hz,_,r1.append r2,IsTup.new _ _,_,qA0 _ rfl,1]
end
def ixN(n:Nat)(i:Int):Option Nat:=if 0<=i then(if i<n then some i.toNat else none)else if -(n:Int)<=i then some (i+n).toNat else none
def atI{α:Type}(xs:List α)(i:Int):Option α:=(ixN xs.length i).bind λj=>xs[j]?
def sS{j:Nat}(h:ixN n i=some j):seqIndex? i n=some j/\j<n/\-(n:Int)<=i/\i<n:=by
 unfold ixN at h
 by_cases h0:0<=i
 . rw [JB h0]at h
   by_cases h1:i<n
   . rw[JB h1]at h;let e:i.toNat=j:=zT0 h;erw[by rw[seqIndex_of h0 h1,e],3,3,h1]
   . rw[Jy h1]at h;cases h
 . rw [Jy h0]at h
   by_cases h1:-(n:Int)<=i
   . rw[JB h1]at h;let e:(i+n).toNat=j:=zT0 h;erw[by rw[seqIndex_neg #[0] h1,e],3,h1,3]
   . rw[Jy h1]at h;cases h
def tj{α:Type}{xs:List α}{v:α}(h:atI xs i=some v):∃j,seqIndex? i xs.length=some j/\xs[j]?=some v/\j<xs.length/\-(xs.length:Int)<=i/\i<xs.length:=by
 unfold atI at h;cases e:ixN xs.length i with
 |none=>rw[e]at h;cases h
 |some j=>
   rw[e]at h;let%[h1,h2,h3|h4]:=sS e;erw[j,h1,h,h2,h3,h4]
def bw{α:Type}{xs:List α}{j:Nat}{v:α}(h:xs[j]?=some v):atI xs (j:Int)=some v:=by
 let hj:j<xs.length:=(qD0 h).1;let e:ixN xs.length (j:Int)=some j:=by
  unfold ixN;rw[JB #[0],JB #[0]];simp
 unfold atI;rw[e];exact h
def uO{α:Type}(xs:List α)(v:α):atI (xs++[v]) (-1)=some v:=by
 let hl:(xs++[v]).length=xs.length+1:=by simp
 let e:ixN (xs++[v]).length (-1)=some xs.length:=by
  unfold ixN;rw[hl,Jy ⋯,JB #[0]]
  congr 1
  omega
 unfold atI;rw[e];show(xs++[v])[xs.length]?=some v
 simp
def Dv(b:Expr):Prop:=∀o i,subscripted b false o i=operate [o,i] (getItem o i)
def IxR(X:Cx)(r:R2):Prop:=
 ∀(value slice:Expr)(Jx:#[7])(s:Shared)(σ:St)(H:Hp)(x y:V)(v u:Value)(Q:VK),#[8] H s->RelV x v->RelV y u->r x y H Q ->
  subscripted slice false v u=operate [v,u] (getItem v u)->‹X.w› (subscriptTail value slice v u) (EP X Jx σ Q) X.xe s
def MtR(X:Cx)(id:String)(r:V->List V->Hp->VK->Prop):Prop:=
 ∀(Jx:#[7])(s:Shared)(σ:St)(H:Hp)(x:V)(xs:List V)(v:Value)(us:List Value)(Q:VK),#[8] H s->RelV x v->Vals xs us->r x xs H Q ->
  ‹X.w› (call (.builtin id) (v::us)) (EP X Jx σ Q) X.xe s
section
variable {X:Cx}{a b:Expr}{ta tb:TE}{pos:Pos}
def IxR.or(h:IxR X r)(h':IxR X r'):IxR X (λx y H Q=>r x y H Q∨r' x y H Q):=by
 intro value slice Jx s σ H x y v u Q I rx ry q hs;rcases q with q | q
 . exact h value slice Jx s σ H x y v u Q I rx ry q hs
 . exact h' value slice Jx s σ H x y v u Q I rx ry q hs
def aJ(hr:IxR X r)(ha:PE X a ta)(hb:PE X b tb)(hs:Dv b):PE X (.Subscript a b pos) (tOp r ta tb):=by
 exists 4,Q,I,h;exact Subscript_ (Fi ha hb I h λv u s2 x y H2 I2 rx ry q=>hr a b Jx s2 σ H2 x y v u Q I2 rx ry q (hs _ _))
instance rIxL(K:W.Frag)(x:V)(y:V)(H:Hp)(Q:VK):∀p xs i v,x=.ref p->y=.int i->SqL K H p xs->atI xs i=some v->Q v H:=0
instance rIxT(K:W.Frag)(x:V)(y:V)(H:Hp)(Q:VK):∀p xs i v,x=.ref p->y=.int i->SqT K H p xs->atI xs i=some v->Q v H:=0
instance rIxS(x:V)(y:V)(H:Hp)(Q:VK):∀z i c,x=.str z->y=.int i->z.length<=sizeLine->atI z.cps.toList i=some c->Q (.str ⟨#[c]⟩) H:=0
def ix_list:IxR X (rIxL X.K):=by
 intro value slice Jx s σ H x y v u Q I rx ry h hs;erw[p,xs,i,z,1,1,hq,he,q]at h;cases rx;erw[t,1]at ry;let%[its,r,pl|hz]:=I.list hq;let%[j,h1,h2,h3,h4|h5]:=tj he;let%[w,ew|rw']:=r.get h2;let hl:=r.length;let hn:=iC;let fin:EP X Jx σ Q w s:=%[z,H,I,rw'|q]
 by_cases h0:0<=i
 . let hj:i.toNat=j:=by
    rw[seqIndex_of h0 h5]at h1;exact zT0 h1
   exact item_listR pl.isList h0 #[0] (by rw[hj];simpa using ew) fin hs
 . let hj:(i+(its.toArray.size:Int)).toNat=j:=by
    rw[seqIndex_neg #[0] h4]at h1;rw[zN0,←hl];exact zT0 h1
   exact subscriptTail_builtinR (x:=w) pl.isList.typeIs slot_list_getitem.lookup
    (wpAny_getItem_list_neg (Q:=λr s'=>r=w/\EP X Jx σ Q r s') pl.isList #[0] (by rw[zN0] <;> omega) #[0] (by rw[hj];simpa using ew) %[1|fin]) hs
def ix_tup:IxR X (rIxT X.K):=by
 intro value slice Jx s σ H x y v u Q I rx ry h hs;erw[p,xs,i,z,1,1,hq,he,q]at h;cases rx;erw[t,1]at ry;let%[its,r,pl|hz]:=I.tuple hq;let%[j,h1,h2,h3,h4|h5]:=tj he;let%[w,ew|rw']:=r.get h2;let hl:=r.length;let hn:=iC;let fin:EP X Jx σ Q w s:=%[z,H,I,rw'|q]
 exact subscriptTail_builtinR (x:=w) pl.typeIs slot_tuple_getitem.lookup
  (getItem_tuple (j:=j) (Q:=λr s'=>r=w/\EP X Jx σ Q r s') pl #[0] #[0] (by rw[zN0,←hl];exact h1) #[ew,0] %[1|fin]) hs
def pO:IxR X rIxS:=by
 intro value slice Jx s σ H x y v u Q I rx ry h hs;erw[z,i,c,1,1,hz,he,q]at h;erw[t,1]at rx;erw[t',1]at ry;let%[j,h1,h2,h3,h4|h5]:=tj he;let hl:z.cps.toList.length=z.length:=by simp [Str.length]
 rw [hl]at h1 h4 h5;let hn:=iC;exact tail_any (jV0 s z t) slot_str_getitem.lookup (getItem_str (c:=c) (by
  let e1:decide (i < -(2 ^ 63:Int))=false:=zE1 #[0];let e2:decide (i≥2 ^ 63)=false:=zE1 #[0];rw[e1,e2,Bool.or_false]) (by rw[h1];simpa using h2) %[.str %[|#[c]],H,I.tok _,%[|0]|q]) hs
def rIx(K:W.Frag):R2:=λx y H Q=>rIxL K x y H Q∨rIxT K x y H Q∨rIxS x y H Q
def Bk:IxR X (rIx X.K):=ix_list.or (ix_tup.or pO)
def wa(its:List Value)(n j:Nat)(u:Value):Obj.mapSeq (·.setIfInBounds j u) { cls:=.type "list",data:=.seq its.toArray n }={ cls:=.type "list",data:=.seq (its.set j u).toArray n }:=by
 simp [Obj.mapSeq]
def Inv.lst{Jx:#[7]}{σ:St}{H:Hp}{s:Shared}{p:Addr}{xs:List V}(I:#[8] H s)(h:H p=some (.lst xs)):
 ∃(its:List Value) (n:Nat),Vals xs its/\s.heap.get? p=some { cls:=.type "list",data:=.seq its.toArray n }/\xs.length<=sizeLine:=by
 let%[z,its,n,r|e]:=I.hok p _ h;erw[its,n,r,e,z]
def Inv.lstUpd{σ:St}{p:Addr}{xs:List V}{its its':List Value}{n n':Nat}{f:Obj->Obj}(I:#[8] H s)(h:H p=some (.lst xs))
 (ho:s.heap.get? p=some { cls:=.type "list",data:=.seq its.toArray n })(hf:f { cls:=.type "list",data:=.seq its.toArray n }={ cls:=.type "list",data:=.seq its'.toArray n' })(r:Vals ys its')(hz:ys.length<=sizeLine)(t:Nat):
 #[8] (upd H p (.lst ys)) { s with heap:=s.heap.update p f,toks:=t }:=by
 let e:(s.heap.update p f).get? p=some { cls:=.type "list",data:=.seq its'.toArray n' }:=by
  rw[Heap.get?_update_self f ho (by rw[hf] <;> rfl),hf]
 apply I.write (x:=p) (e:=p) (by rw[h];trivial) (.inl rfl) (λb u hb q=>(Heap.get?_update_other _ _ (Ne.symm hb)).trans q) %[_|e] ?_;erw[hz,its',n',r,e]
instance rSetL(o:V)(i:V)(v:V)(H:Hp)(Q:(Hp->Prop)):∀p xs k j,o=.ref p->i=.int k->H p=some (.lst xs)->ixN xs.length k=some j->Q (upd H p (.lst (xs.set j v))):=0
def oB:PSet X rSetL:=by
 exists 4,o,i,v,ov,iv,u,Q,I,ro,ri,rv,h;erw[p,xs,k,j,1,1,hp,hj,q]at h;cases ro;erw[t,1]at ri;let%[its,n,r,ho|hz]:=I.lst hp;let%[h1,h2,h3|h4]:=sS hj;let hl:=r.length;let hn:=iC;let I':#[8] (upd H p (.lst (xs.set j v))) { s with heap:=s.heap.update p (Obj.mapSeq (·.setIfInBounds j u)) }:=
  I.lstUpd hp ho (wa its n j u) (r.set rv j) (by rw[List.length_set];exact hz) s.toks
 by_cases h0:0<=k
 . let hk:k.toNat=j:=by
    rw[seqIndex_of h0 h4]at h1;exact zT0 h1
   exact PySem.W.ki_setAt ho h0 #[0] (by rw[zN0,←hl];exact h4) (by rw[hk];erw[_,I',q])
 . let hk:(k+(its.toArray.size:Int)).toNat=j:=by
    rw[seqIndex_neg #[0] h3]at h1;rw[zN0,←hl];exact zT0 h1
   exact PySem.W.ki_setBack ho #[0] (by rw[zN0,←hl];exact h3) #[0] (by rw[hk];erw[_,I',q])
def kD(lo hi:Option Int)(n:Nat):(sliceBounds lo hi none n).1=((HT.sIx n 0 lo:Nat):Int)/\(sliceBounds lo hi none n).2.1=((HT.sIx n n hi:Nat):Int)/\(sliceBounds lo hi none n).2.2=1:=by
 erw[6,6,1]
 . cases lo with
   |none=>simp [sliceBounds,HT.sIx]
   |some i=>
     simp only[sliceBounds,HT.sIx,Option.getD_none,show(1:Int)>0 by decide,if_true]
     by_cases h:i<0
     . simp only[h,if_true] <;> omega
     . simp only[h,if_false] <;> omega
 . cases hi with
   |none=>simp [sliceBounds,HT.sIx]
   |some i=>
     simp only[sliceBounds,HT.sIx,Option.getD_none,show(1:Int)>0 by decide,if_true]
     by_cases h:i<0
     . simp only[h,if_true] <;> omega
     . simp only[h,if_false] <;> omega
def qg(its:List Value)(lo hi:Option Int):slicePick its.toArray lo hi none=((its.drop (HT.sIx its.length 0 lo)).take (HT.sIx its.length its.length hi-HT.sIx its.length 0 lo)).toArray:=by
 let%[h1,h2|h3]:=kD lo hi its.toArray.size;unfold slicePick;rw[h1,h2,h3];simp only[sliceRange_one,pick_run,zN0] <;> rfl
instance rSlL(K:W.Frag)(x:V)(lo:Option Int)(hi:Option Int)(H:Hp)(Q:VK):∀a xs,x=.ref a->SqL K H a xs->(∀p,H p=none->Q (.ref p) (upd H p (.lst (hV xs lo hi)))):=0
def Cr:SlR X (rSlL X.K):=by
 exists 4,x,v,vl,vu,lo,hi,sl,Q,I,rx,hs,pl,pu,h;erw[a,xs,1,hx,q]at h;cases rx;let%[its,r,ht|hz]:=I.list hx;let hlen:=r.length;erw["list",_,slot_list_getitem.lookup,ht.isList.typeIs,6];apply wpAny_getItem_list_slice ht.isList hs pl pu .none #[2] ?_ (by rw[zN0] <;> omega);rw[qg,←hlen];erw[.ref ‹s›,_,I.laid (t':=s.toks) (o:=.lst (hV xs lo hi)) (λb ob q=>zR0 _ q) (zH0 _) ?_,1,q _ (I.hok.fresh (zH0 _))];erw[zM0 (nn xs lo hi) hz,_,(0),(r.drop (HT.sIx xs.length 0 lo)).take (HT.sIx xs.length xs.length hi-HT.sIx xs.length 0 lo),qA0 _ rfl]
def iH:V->Bool
 |.non=>true
 |.bl _=>true
 |.int _=>true
 |.str _=>true
 |_=>false
def eqV:V->V->Bool
 |.non,.non=>true
 |.bl a,.bl b=>a==b
 |.bl a,.int b=>(if a then 1 else 0)==b
 |.int a,.bl b=>a==(if b then 1 else 0)
 |.int a,.int b=>a==b
 |.str a,.str b=>a==b
 |_,_=>false
def EZ{A:Around}{s:Shared}(ry:RelV y u)(rx:RelV x v)(fy:iH y=true)(fx:iH x=true):SeqAt.EqAt A s u v (eqV y x):=by
 cases y with
 |non=>
   cases ry;cases x with
   |non=>cases rx;exact SeqAt.EqAt.same _
   |bl b=>cases rx;exact SeqAt.EqAt.none_bool b
   |int b=>erw[t,1]at rx;exact SeqAt.EqAt.none_int b t
   |str b=>erw[t,1]at rx;exact SeqAt.EqAt.none_str b t
   |_=>exact absurd (show false=true from fx) zY0
 |bl a=>
   cases ry;cases x with
   |non=>cases rx;exact SeqAt.EqAt.bool_none a
   |bl b=>cases rx;exact SeqAt.EqAt.bool_bool a b
   |int b=>erw[t,1]at rx;exact SeqAt.EqAt.bool_int a b t
   |str b=>erw[t,1]at rx;exact SeqAt.EqAt.bool_str a b t
   |_=>exact absurd (show false=true from fx) zY0
 |int a=>
   erw[t',1]at ry;cases x with
   |non=>cases rx;exact SeqAt.EqAt.int_none a t'
   |bl b=>cases rx;exact SeqAt.EqAt.int_bool a t' b
   |int b=>erw[t,1]at rx;exact SeqAt.EqAt.int_int a t' b t
   |str b=>erw[t,1]at rx;exact SeqAt.EqAt.int_str a t' b t
   |_=>exact absurd (show false=true from fx) zY0
 |str a=>
   erw[t',1]at ry;cases x with
   |non=>cases rx;exact SeqAt.EqAt.str_none a t'
   |bl b=>cases rx;exact SeqAt.EqAt.str_bool a t' b
   |int b=>erw[t,1]at rx;exact SeqAt.EqAt.str_int a t' b t
   |str b=>erw[t,1]at rx;exact SeqAt.EqAt.str_str a t' b t
   |_=>exact absurd (show false=true from fx) zY0
 |_=>exact absurd (show false=true from fy) zY0
def eqU(x:V)(u:Value):Bool:=match u with
 |.none=>eqV .non x
 |.bool b=>eqV (.bl b) x
 |.int i _=>eqV (.int i) x
 |.str z _=>eqV (.str z) x
 |_=>false
def wv(r:RelV y u)(f:iH y=true):eqU x u=eqV y x:=by
 cases y with
 |non=>cases r;rfl
 |bl b=>cases r;rfl
 |int i=>erw[t,1]at r;rfl
 |str z=>erw[t,1]at r;rfl
 |_=>exact absurd (show false=true from f) zY0
def lA:∀{xs:List V}{us:List Value},Vals xs us->xs.all iH=true->us.any (eqU x)=xs.any λy=>eqV y x
 |_,_,.nil,_=>rfl
 |y::xs,u::us,.cons r t,f=>by
   rw[jU0,qN1]at f;rw[jK1,jK1,wv r f.1,lA t f.2]
def fb{A:Around}{s:Shared}(rx:RelV x v)(fx:iH x=true):∀{xs:List V}{us:List Value},Vals xs us->xs.all iH=true->∀u∈us,SeqAt.EqAt A s u v (eqU x u)
 |_,_,.nil,_=>λu hu=>by cases hu
 |y::xs,u::us,.cons r t,f=>λu' hu=>by
   rw[jU0,qN1]at f;rcases zV0 hu with rfl | hu
   . rw[wv r f.1];exact EZ r rx f.1 fx
   . exact fb rx fx t f.2 u' hu
def inV(x:V)(xs:List V):Bool:=xs.any λy=>eqV y x
instance rIn(K:W.Frag)(neg:Bool)(x:V)(y:V)(H:Hp)(Q:VK):∀p xs,y=.ref p->SqL K H p xs∨SqT K H p xs->iH x=true->xs.all iH=true->Q (.bl (if neg then !inV x xs else inV x xs)) H:=0
def eP:OpR X (compareOp .In) (rIn X.K false):=by
 exists 4,x,y,v,u,Q,I,rx,ry,h;erw[p,xs,1,hq,fx,fs,q]at h;cases ry;rcases hq with hq | hq
 . let%[its,r,pl|hz]:=I.list hq;apply SeqAt.in_listAt (eqU x) pl.isList (λw hw=>fb rx fx r fs w #[hw,0]) %[.bl _,H,I,1|6];rw[show its.toArray.any (eqU x)=its.any (eqU x) by simp,lA r fs];exact q
 . let%[its,r,pl|hz]:=I.tuple hq;apply SeqAt.in_tupleAt (eqU x) pl (λw hw=>fb rx fx r fs w #[hw,0]) %[.bl _,H,I,1|6];rw[show its.toArray.any (eqU x)=its.any (eqU x) by simp,lA r fs];exact q
def kU:OpR X (compareOp .NotIn) (rIn X.K true):=by
 exists 4,x,y,v,u,Q,I,rx,ry,h;erw[p,xs,1,hq,fx,fs,q]at h;cases ry;rcases hq with hq | hq
 . let%[its,r,pl|hz]:=I.list hq;apply SeqAt.notIn_listAt (eqU x) pl.isList (λw hw=>fb rx fx r fs w #[hw,0]) %[.bl _,H,I,1|6];rw[show its.toArray.any (eqU x)=its.any (eqU x) by simp,lA r fs];exact q
 . let%[its,r,pl|hz]:=I.tuple hq;apply SeqAt.notIn_tupleAt (eqU x) pl (λw hw=>fb rx fx r fs w #[hw,0]) %[.bl _,H,I,1|6];rw[show its.toArray.any (eqU x)=its.any (eqU x) by simp,lA r fs];exact q
def sw:OpR X (compareOp .NotIn) (λx y H Q=>∃i j,x=.str i/\y=.str j/\Q (.bl (!(!(Builtin.Str.occurrences j i 0 j.length 1).isEmpty))) H):=by
 exists 4,x,y,v,u,Q,I,rx,ry,h;erw[i,j,1,1,q]at h;erw[t,1]at rx;erw[t',1]at ry;exact notIn_str %[.bl _,H,I,1|q]
instance rLen(K:W.Frag)(xs:List V)(H:Hp)(Q:VK):∀p ys,xs=[.ref p]->SqL K H p ys∨SqT K H p ys->Q (.int ys.length) H:=0
def aF:gC X (.builtin "len") (rLen X.K):=by
 exists 4,xs,us,Q,I,r,h;erw[p,ys,1,hq,q]at h;let%[u,1|rx]:=kx r;cases rx;let hn:=iC;rcases hq with hq | hq
 . let%[its,r',pl|hz]:=I.list hq;let hlen:=r'.length;exact Calls.call_len_list pl.isList (by simp only[zN0] <;> omega) %[.int ys.length,H,I.tok _,%[s.toks+1|by rw[zN0,hlen]]|q]
 . let%[its,r',pl|hz]:=I.tuple hq;let hlen:=r'.length;exact len_tuple pl (by simp only[zN0] <;> omega) %[.int ys.length,H,I.tok _,%[s.toks+1|by rw[zN0,hlen]]|q]
def cI:gC X (.builtin "len") (λxs H Q=>∃z,xs=[.str z]/\z.length<=sizeLine/\Q (.int z.length) H):=by
 exists 4,xs,us,Q,I,r,h;erw[z,1,hz,q]at h;let%[u,1,t|1]:=kx r;let hn:=iC;exact len_str #[0] %[.int z.length,H,I.tok _,%[|0]|q]
instance rListOf(K:W.Frag)(xs:List V)(H:Hp)(Q:VK):∀p ys,xs=[.ref p]->SqL K H p ys∨SqT K H p ys->(∀l,H l=none->Q (.ref l) (upd H l (.lst ys))):=0
def tf:gC X (.type "list") (rListOf X.K):=by
 exists 4,xs,us,Q,I,r,h;erw[p,ys,1,hq,q]at h;let%[u,1|rx]:=kx r;cases rx;let fin:∀(its:List Value),Vals ys its->ys.length<=sizeLine->∀(h':Heap)(c':Nat),(∀b o',s.heap.get? b=some o'->h'.get? b=some o') ->
  h'.get? ‹s›=some { cls:=.type "list",dict:=none,data:=.seq its.toArray c',slots:=#[] }->EP X Jx σ Q (.ref ‹s›) { s with heap:=h' }:=λits r' hz h' c' kp e=>
  %[.ref ‹s›,_,I.laid (t':=s.toks) kp (zH0 _) (show ObjOk X.prog X.w _ h' _ (.lst ys)from%[hz,its,c',r'|e]),1|q _ (I.hok.fresh (zH0 _))]
 rcases hq with hq | hq
 . let%[its,r',pl|hz]:=I.list hq;let hlen:=r'.length;erw[o,ho,hc,n,hd]at pl.isList;exact call_list_seq p (.inl rfl) ho hc hd (λh' c' kp e=>fin its r' hz h' c' kp e) (by simp only[zN0] <;> omega)
 . let%[its,r',pl|hz]:=I.tuple hq;let hlen:=r'.length;erw[o,ho,hc,n,hd]at pl;exact call_list_seq p (.inr rfl) ho hc hd (λh' c' kp e=>fin its r' hz h' c' kp e) (by simp only[zN0] <;> omega)
instance rTupOf(K:W.Frag)(xs:List V)(H:Hp)(Q:VK):∀p ys,xs=[.ref p]->(SqL K H p ys/\∀l,H l=none->Q (.ref l) (upd H l (.tup ys)))∨(SqT K H p ys/\Q (.ref p) H):=0
def bb:gC X (.type "tuple") (rTupOf X.K):=by
 exists 4,xs,us,Q,I,r,h;erw[p,ys,1,h]at h;let%[u,1|rx]:=kx r;cases rx;rcases h with⟨hq,q⟩ | ⟨hq,q⟩
 . let%[its,r',pl|hz]:=I.list hq;let hlen:=r'.length;apply call_tuple_list pl.isList (λh' kp=>?_) (by simp only[zN0] <;> omega);let I1:#[8] H { s with heap:=h' }:=I.kept (t':=s.toks) kp;let I2:#[8] (upd H h'.objs.size (.tup ys)) { s with heap:=h'.push { cls:=.type "tuple",data:=.seq its.toArray } }:=
    I1.laid (t':=s.toks) (λb o e=>zR0 _ e) (zH0 _) (show ObjOk X.prog X.w _ _ _ (.tup ys)from%[hz,its,r',IsTup.new _ _,_,qA0 _ rfl|1])
   erw[.ref h'.objs.size,_,I2,1,q _ (I1.hok.fresh (zH0 _))]
 . let%[its,r',pl|hz]:=I.tuple hq;exact call_tuple_same pl %[.ref p,H,I,1|q]
def tyV(K:W.Frag)(T:String)(x:V)(H:Hp):Prop:=match x with
 |.str _=>T="str"
 |.int _=>T="int"
 | .ref p=>(T="list"/\∃xs,SqL K H p xs)∨(T="tuple"/\∃o,K.lookup p=some o/\o.cls=.type "tuple"/\o.dict=none)∨
  (T="dict"/\((∃JA,H p=some (.dK JA))∨∃JA,H p=some (.dT JA)))∨(T="set"/\∃S n,H p=some (.set S n))
 |_=>False
def DW{σ:St}(I:#[8] H s)(r:RelV x v)(ty:tyV X.K T x H):
 s.TypeIs v T/\∀a,v=.ref a->∃ob,s.heap.get? a=some ob/\ob.dict=none:=by
 cases x with
 |str z=>
   erw[t,1]at r;cases(show T="str" from ty);erw[jV0 s z t,λ_ e=>nomatch e]
 |int i=>
   erw[t,1]at r;cases(show T="int" from ty);erw[typeIs_int s i t,λ_ e=>nomatch e]
 |ref p=>
   cases r;rcases ty with⟨rfl,xs,hq⟩ | ⟨rfl,o,hk,hc,hd⟩ | ⟨rfl,hk⟩ | ⟨rfl,S,n,hk⟩
   . let%[its,_,pl|_]:=I.list hq;erw[pl.isList.typeIs,λa e=>?_];cases e;erw[o,n,e,c,hd,_]at pl;erw[o,e,hd]
   . erw[%[o,I.kIn p o hk|hc],λa e=>?_];cases e;erw[o,I.kIn _ o hk,hd]
   . let z:∃o,s.heap.get? p=some o/\o.ExactDict:=by
      rcases hk with⟨JA,hk⟩ | ⟨JA,hk⟩
      . let%[_,_,_,_,o,_,_,e,ex|_]:=I.hok p _ hk;erw[o,e,ex]
      . let%[_,_,_,_,o,_,_,e,ex|_]:=I.hok p _ hk;erw[o,e,ex]
     erw[o,e,ex]at z;erw[%[o,e|ex.1],λa e2=>?_];cases e2;erw[o,e,ex.2.1]
   . let%[o,_,_,_,e,ex|_]:=I.hok p _ hk;erw[%[o,e|ex.1],λa e2=>?_];cases e2;erw[o,e,ex.2.1]
 |_=>exact False.elim ty
instance ZtBM(K:W.Frag)(T:String)(r:V->List V->Hp->VK->Prop)(t:TA)(σ:St)(Q:VK)(x:V)(H1:Hp):tyV K T x H1->(t σ H1 λxs H2=>r x xs H2 Q):=0
def tBM(K:W.Frag)(T:String)(r:V->List V->Hp->VK->Prop)(to:TE)(t:TA):TE:=λσ H Q=>to σ H λx H1=>ZtBM K T r t σ Q x H1
variable {o e:Expr}{es:List Expr}{to:TE}{t:TA}{name:Str}{JF JC:Pos}{T id:String}{r:V->List V->Hp->VK->Prop}
def cW(pa:PlainAttrs T)(slot:Slot T name id)(hty:typeOf (.builtin id)=pure (.type "method_descriptor"))(hm:MtR X id r)(ho:PE X o to)(ha:PA X (e::es) t)
 (hbase:attributeBase o name X.env (eval o X.env)=eval o X.env:=by rfl)
 (hfew:((backTo JC (starEach (e::es) X.env)).all (λx=>!x.1)&&(backToKw JC (keywordEach [] X.env)).all (λx=>x.1.isSome)
  &&decide ((e::es).length+([]:List Keyword).length+(if([]:List Keyword).isEmpty then 0 else 1)<30))=true:=by rfl)
 (hline:(JF.endLine==JC.line)=true:=by rfl) (hs:starEach (e::es) X.env=(false,eval e X.env)::starEach es X.env:=by rfl) (hplain:(backTo JC (starEach es X.env)).any (·.1)=false:=by rfl) :
 PE X (.Call (.Attribute o name JF) (e::es) [] JC) (tBM X.K T r to t):=by
 exists 4,Q,I,h;apply wpAny_Call_method_late hbase hfew hline rfl (thn (ho Jx s σ H _ I h) λv s1 ⟨x,H1,I1,r1,ty,q1⟩=>?_);let%[h1|h2]:=DW I1 r1 ty;erw[T,id,pa,slot,hty,h1,h2,6];let hA:=ha JC Jx s1 σ H1 _ I1 q1;rw[hs]at hA ⊢;apply qY1 (by show(false||(backTo JC (starEach es X.env)).any (·.1))=false;rw[hplain] <;> rfl) (jF0 ?_);exact thn hA λus s2 ⟨vs,H2,I2,r2,q2⟩=>hm Jx s2 σ H2 x vs v us Q I2 r1 r2 q2
end
def MtM(X:Cx)(id:String)(r:V->List V->Hp->VK->Prop):Prop:=
 ∀(Jx:#[7])(s:Shared)(σ:St)(H:Hp)(x:V)(xs:List V)(v:Value)(us:List Value)(Q:VK),#[8] H s->RelV x v->Vals xs us->r x xs H Q ->
  ‹X.w› (call (.builtin id) (v::us)) (EP X Jx σ Q) X.xe s
def Vals.one:∀{x:V}{us:List Value},Vals [x] us->∃u,us=[u]/\RelV x u
 |_,_,.cons r .nil=>%[0|r]
def Vals.rep(h:Vals xs us):∀k:Nat,Vals (List.replicate k xs).flatten (List.replicate k us).flatten
 |0=>.nil
 |k+1=>by
   rw[qG1,qG1,qV1,qV1];exact Vals.append h (Vals.rep h k)
def qV(its:List Value):∀(k:Nat)(acc:List Value),
 List.foldl (λx1 x2=>x1++x2) acc.toArray (List.replicate k its.toArray)=(acc++(List.replicate k its).flatten).toArray
 |0,acc=>by simp
 |k+1,acc=>by
   let e:acc.toArray++its.toArray=(acc++its).toArray:=by simp
   let e2:(acc++its)++(List.replicate k its).flatten=acc++(List.replicate (k+1) its).flatten:=by
    rw[qG1,qV1,jN0]
   rw[←e2,←qV its k (acc++its),←e,qG1,List.foldl_cons]
section
variable {X:Cx}{Jx:#[7]}{σ:St}{H:Hp}{s:Shared}{l b:Addr}{xs ys zs:List V}
def Inv.lset{its its':List Value}{n:Nat}{f:Array Value->Array Value}{t':Nat}(I:#[8] H s)(hH:H l=some (.lst xs))
 (e:s.heap.get? l=some { cls:=.type "list",data:=.seq its.toArray n })(hf:f its.toArray=its'.toArray)(hv:Vals ys its')(hz:ys.length<=sizeLine):
 #[8] (upd H l (.lst ys)) { s with heap:=s.heap.update l (Obj.mapSeq f),toks:=t' }:=by
 let q:=PySem.IsL.update e f;rw[hf]at q;apply I.write (x:=l) (e:=l) (by rw[hH];exact trivial) (.inl rfl) (λb' u hb hu=>(Heap.get?_update_other s.heap (Obj.mapSeq f) (Ne.symm hb)).trans hu) %[_|q] ?_;erw[hz,its',_,hv,q]
def Inv.lnew{t':Nat}(I:#[8] H s)(hv:Vals ys its)(hz:ys.length<=sizeLine):
 #[8] (upd H ‹s› (.lst ys)) { s with heap:=s.heap.push { cls:=.type "list",data:=.seq its.toArray },toks:=t' }:=
 I.laid (λ_ _ q=>zR0 _ q) (zH0 _) %[hz,its,(0),hv|qA0 _ rfl]
def Inv.fresh(I:#[8] H s):H ‹s›=none:=I.hok.fresh (zH0 _)
def Inv.lstM(I:#[8] H s)(hH:H l=some (.lst xs)):xs.length<=sizeLine/\∃(its:List Value) (n:Nat),Vals xs its/\xs.length=its.length/\s.heap.get? l=some { cls:=.type "list",data:=.seq its.toArray n }:=by
 let%[z,its,n,r|e]:=I.hok l _ hH;erw[z,its,n,r,r.length,e]
def kY{n:Nat}(h:n<=sizeLine):Builtin.List.listTooLong n=false:=by
 unfold Builtin.List.listTooLong;exact zE1 #[0]
end
section
variable {X:Cx}
instance rAppend(x:V)(vs:List V)(H:Hp)(Q:VK):∀l xs y,x=.ref l->vs=[y]->H l=some (.lst xs)->xs.length<sizeLine->Q .non (upd H l (.lst (xs++[y]))):=0
def bV:MtM X "list.append" rAppend:=by
 exists 4,x,vs,v,us,Q,I,rx,rv,h;erw[l,xs,y,1,1,hH,hz,q]at h;cases rx;erw[u,1,ru]at rv.one;let%[z,its,n,r,hl|e]:=I.lstM hH;apply jE0 F.slot_list_append %[_,e|1] F.entry_list_append (F.args_list_append_2 _ _) (PySem.list_append l its.toArray n u (by rw[zN0];omega)) ⟨e,?_⟩;erw[.non,_,I.lset (its':=its++[u]) hH e #[2] (r.append (.cons ru .nil)) ?_,1,q];rw[zL0,qN0];omega
instance rExtend(x:V)(vs:List V)(H:Hp)(Q:VK):∀l b xs zs,x=.ref l->vs=[.ref b]->H l=some (.lst xs)->H b=some (.lst zs)->xs.length+zs.length<=sizeLine->Q .non (upd H l (.lst (xs++zs))):=0
def yz:MtM X "list.extend" rExtend:=by
 exists 4,x,vs,v,us,Q,I,rx,rv,h;erw[l,b,xs,zs,1,1,hH,hB,hz,q]at h;cases rx;erw[u,1,ru]at rv.one;cases ru;let%[z,its,n,r,hl|e]:=I.lstM hH;let%[z2,its2,n2,r2,hl2|e2]:=I.lstM hB;let hsz:its.toArray.size+its2.toArray.size<=sizeLine:=by rw[zN0,zN0];omega
 let hlong:¬ (!its.toArray.isEmpty&&Builtin.List.listTooLong (its.toArray.size+its2.toArray.size))=true:=by
  rw[kY hsz,wH0];exact zY0
 apply jE0 F.slot_list_extend %[_,e|1] F.entry_list_extend (F.args_list_extend_2 _ _)
  (AutoSeq1.list_extend_list_list_0 l its.toArray n b its2.toArray n2 hlong (by rw[zN0];omega) #[0]) %[e,e2|6]
 erw[.non,_,I.lset (its':=its++its2) hH e #[2] (r.append r2) ?_,1,q];rw[zL0];omega
instance rCat(x:V)(y:V)(H:Hp)(Q:VK):∀l b xs zs,x=.ref l->y=.ref b->H l=some (.lst xs)->H b=some (.lst zs)->xs.length+zs.length<=sizeLine->(∀p,H p=none->Q (.ref p) (upd H p (.lst (xs++zs)))):=0
def lY:OpR X (binaryOp .Add) rCat:=by
 exists 4,x,y,v,u,Q,I,rx,ry,h;erw[l,b,xs,zs,1,1,hH,hB,hz,q]at h;cases rx;cases ry;let%[z,its,n,r,hl|e]:=I.lstM hH;let%[z2,its2,n2,r2,hl2|e2]:=I.lstM hB;apply PySem.P.add_list e e2 ?_ (by rw[zN0,zN0];omega);let ea:its.toArray++its2.toArray=(its++its2).toArray:=by simp
 rw[ea];erw[.ref _,_,I.lnew (t':=s.toks) (r.append r2) (by rw[zL0];omega),1,q _ I.fresh]
instance rRep(x:V)(y:V)(H:Hp)(Q:VK):∀l k xs,x=.ref l->y=.int k->H l=some (.lst xs)->-(2 ^ 63)<=k->k<2 ^ 63->xs.length*k.toNat<=sizeLine->(∀p,H p=none->Q (.ref p) (upd H p (.lst (List.replicate k.toNat xs).flatten))):=0
def Dh{α:Type}(xs:List α)(k:Nat):(List.replicate k xs).flatten.length=k*xs.length:=by
 induction k with
 |zero=>simp
 |succ k ih=>rw[qG1,qV1,zL0,ih,Nat.succ_mul,Nat.add_comm]
def Er:OpR X (binaryOp .Mult) rRep:=by
 exists 4,x,y,v,u,Q,I,rx,ry,h;erw[l,k,xs,1,1,hH,h1,h2,hz,q]at h;cases rx;erw[t,1]at ry;let%[z,its,n,r,hl|e]:=I.lstM hH;let hlen:its.toArray.size*k.toNat<=sizeLine:=by rw[zN0,←hl];exact hz
 let hcap:¬ its.toArray.size*k.toNat>(2 ^ 63-1) / 8:=by
  have:(sizeLine:Nat)<=(2 ^ 63-1) / 8:=by decide
  omega
 let hfit:¬ (!Builtin.List.listFitsIndex k)=true:=by
  rw[fitsIndex_both h1 h2];exact zY0
 let hlong:¬ Builtin.List.listTooLong (its.toArray.size*k.toNat)=true:=by
  rw[kY hlen];exact zY0
 let hnew:List.foldl (λx1 x2=>x1++x2) #[] (List.replicate (if its.toArray.isEmpty=true then 0 else k.toNat) its.toArray)=(List.replicate k.toNat its).flatten.toArray:=by
  let f0:∀m:Nat,List.foldl (λx1 x2=>x1++x2) #[] (List.replicate m its.toArray)=(List.replicate m its).flatten.toArray:=λm=>by
   have:=qV its m []
   rw[List.nil_append]at this;exact this
  rw[f0];cases its with
  |nil=>simp
  |cons a r'=>rw[Jy #[2]]
 apply wpAny_binaryOp_repeat_ref (T:="list") (U:="int") ⋯ %[_,e|1] (λs'=>typeIs_int s' k t) noFill_list_mul F.fills_int_mul F.slot_int_rmul repeat_list F.slot_int_index.lookup
  (jE0 F.slot_int_rmul (typeIs_int s k t) F.entry_int_rmul (F.args_int_rmul_2 _ _) (int___rmul___int_list k t l its.toArray n)
   %[e,1,%[_,e|1]|jE0 F.slot_list_mul ⟨_,e,rfl⟩ F.entry_list_mul (F.args_list_mul_2 _ _) (AutoListH.list___mul___list_int_3 l its.toArray n k t hfit hcap hlong) ⟨e,?_⟩])
 rw[hnew];erw[.ref _,_,I.lnew (t':=s.toks) (r.rep k.toNat) (by rw[Dh,Nat.mul_comm];exact hz),1,q _ I.fresh]
end
end L2
namespace Att
open PySem PySem.W PySem.Calls PyProof.Rows
def nO{P:Params}{h:Heap}:∀(ns:List Int)(vs:List Value),WellAll P h vs (ns.map WData.int)->IntsAre vs ns:=by
 intro ns
 induction ns with
 |nil=>
   intro vs w;rw[List.map_nil]at w;cases w;exact .nil
 |cons n ns ih=>
   intro vs w;rw[zZ0]at w;cases w with
   |cons a b=>
     cases a;exact .cons _ _ (ih _ b)
def xK{l:OpenLaw}{n:Nat}(hn:l.most=some n){P:Params}{h:Heap}{args:List WData}{vals:List Value}
 (hpre:l.row.toRowW.claim.pre args=true)(hwl:WellAll P h vals args):
 ∃a vs ns,vals=[Value.ref a]/\args=[WData.list (ns.map WData.int)]/\h.get? a=some { cls:=.type "list",data:=.seq vs.toArray }/\IntsAre vs ns/\ns.length<=n:=by
 let hsh:WShape.hasAll [] args [.list .int]=true:=(pre_splitW hpre).1;let hc:l.pre.holds [] { args:=args }=true:=(pre_splitW hpre).2;let%[d,r,1,h1|h2]:=hasAllW_cons hsh;obtain rfl:=hasAllW_nil h2;let%[xs,1|h3]:=hasW_list h1;let%[ns|1]:=items_int h3;let hlen:ns.length<=n:=by
  unfold OpenLaw.pre at hc;let h4:(WTm.not (.lt (.lit (.int (n:Int))) (.len (.arg 0)))).holds [] { args:=[.list (ns.map .int)] }=true:=by
   let h4:=(holds_andW hc).1;rw[hn]at h4;exact h4
  let h5:=condW_of h4 (w_not (w_lt w_lit (w_len_list (w_arg rfl))));rw[zF0]at h5;apply Nat.le_of_not_lt λq=>?_
  let q':(n:Int)<((ns.length:Nat):Int):=#[0]
  first
   | (rw[zD1 q']at h5;exact absurd h5 ⋯)
   | (simp at h5;omega)
 cases hwl with
 |cons w1 w2=>
   cases w2;cases w1 with
   |list ho hall=>erw[_,_,ns,1,1,ho,nO ns _ hall,hlen]
def xY(l:OpenLaw)(args:List WData):l.row.toRowW.claim.post args (.bool true) args=true:=
 postW_of (r:=l.row.toRowW) (X:=(true==true))
  (show WShape.has [] (.bool true) .bool=true by first | rfl | decide | simp [WShape.has,WShape.arms,WShape.armsAll])
  (show(WTm.eq .res (.lit (.bool true))).value [] { args:=args,res:=some (.bool true),after:=args }=some (.bool (true==true))from w_eq_bool (w_res rfl) w_lit) rfl
def attach_call{l:OpenLaw}{n:Nat}{q:Program}{loose:List Str}{XP:(#[9])->Heap->Prop}{YP:World->Heap->Prop}{d:DefRec}
 (hn:l.most=some n)(hdf:d.params.defaults=[])
 (call:∀(w:World)(s₀ s₁:Shared)(mg mb:#[9])(fa:Addr)(o:Obj)(pm cd doc:Value)(a:Addr)(vs:List Value)(ns:List Int),
  Ground q loose [] XP w s₀ mg mb s₁.heap->YP w s₁.heap ->
  s₁.heap.get? fa=some o->o.data=.func (docDef d.name d.params d.body d.scope pm cd doc)->s₁.heap.CodeRec cd d.name->mg d.name=some (.ref fa) ->
  s₁.heap.get? a=some { cls:=.type "list",data:=.seq vs.toArray }->IntsAre vs ns->ns.length<=n->s₁.gens=#[] ->
  codeAny (model l.prog w) callerA (.call (.ref fa) %[[.ref a]|[]]) (λr s'=>r=.ok (.ret (.bool true))/\OldK s₁.heap s'.heap/\s'.os=s₁.os/\AllBare s'.gens) s₁) :
 WalkO q loose XP YP l.row.toRowW d [] (λf vs=>PySem.call f vs):=by
 intro w s₀ s₁ mg mb G Y fa o pm cd doc dV kV ho hd hcd hD hmg hg args vals as hpre hlay hrd hwl hlo;obtain rfl:dV=.none:=Dflts.none hD hdf;obtain rfl:kV=.none:=Dflts.noKw hD;let%[a,vs,ns,1,1,hobj,hints|hlen]:=xK hn hpre hwl;apply enter_call (wQ1 (call w s₀ s₁ mg mb fa o pm cd doc a vs ns G Y ho (fd_plain hd) hcd hmg hobj hints hlen hg) λr s' hq=>?_);erw[1,h2,h3,h4]at hq;erw[.inl %[.bool true,.bool true,[],1,λ_=>rfl,.bool true,xY l _|λ_=>%[List.Pairwise.nil|λ_ hm=>(nomatch hm)]],h2,h3,h4]
end Att
namespace L2
open PySem PySem.Spec PyProof.Rows
def qz:∀{vs:List Value}{ns:List Int},IntsAre vs ns->Vals (ns.map V.int) vs
 |_,_,.nil=>.nil
 |_,_,.cons n t h=>.cons %[t|1] (qz h)
def Fo(H:Hp):Prop:=∀b,H b=none∨∃o xs,H b=some (.frz o (.lst xs))
def Be{K:W.Frag}{mg mb:#[9]}{a:Addr}{x:Str}{s₁:Shared}{vs:List Value}{ns:List Int}
 (KX:K.In s₁.heap)(hns:s₁.heap.Ns mainGlobals mg)(hb:s₁.heap.Ns builtinsNs mb)(hbb:∀x:Str,x≠"__name__" -> mb x=bootBuiltins x)(hlim:s₁.heap.NoLimit)(hg:s₁.gens=#[])
 (ha:s₁.heap.get? a=some { cls:=.type "list",data:=.seq vs.toArray })(hi:IntsAre vs ns)(hl:ns.length<=sizeLine)(hr:Room k callerA)
 (F:∀base:Heap,K.In base->base.Ns mainGlobals mg->FnOk P w K mg base CX k fa fd [x] sp)(hbind:∀(s:Shared)(u:Value),BindsTo s fd %[[u]|[]] [(x,u)])
 (hsp:∀H:Hp,Fo H->SqL K H a (ns.map V.int)->sp [.ref a] H (λv _=>v=.bl true) λ_ _ _=>False)
 (hCX:∀H e s',CX [] H s₁ (λ_ _ _=>False) e s'->False):
 codeAny (model P w) callerA (.call (.ref fa) %[[.ref a]|[]]) (λr s'=>r=.ok (.ret (.bool true))/\OldK s₁.heap s'.heap/\s'.os=s₁.os/\AllBare s'.gens) s₁:=by
 let rv:=qz hi;let lenV:=hi.length;let core:∀H:Hp,Fo H->SqL K H a (ns.map V.int)->HOk P w H s₁.heap->(∀b,H b≠none->b=a)->(H a≠none->K.lookup a=none) ->
  codeAny (model P w) callerA (.call (.ref fa) %[[.ref a]|[]]) (λr s'=>r=.ok (.ret (.bool true))/\OldK s₁.heap s'.heap/\s'.os=s₁.os/\AllBare s'.gens) s₁:=by
  intro H hO hS hok hA hK;let base_of:∀{b:Addr}{o:Obj},s₁.heap.get? b=some o->H b=none->(sT s₁.heap H).get? b=some o:=λe n=>Bp e n
  let noA:∀{b:Addr}{o:Obj}{es:Array DictEntry}{ep:Nat},s₁.heap.get? b=some o->o.data=.dict es ep->H b=none:=fun{b o es ep} e d=>by
   cases q:H b with
   |none=>rfl
   |some u=>
     let e':b=a:=hA b (by rw[q];simp);subst e';rw[ha]at e;cases e;let d':Data.seq vs.toArray _=Data.dict es ep:=d;cases d'
  let nsK:∀{b:Addr}{m:#[9]},s₁.heap.Ns b m->(sT s₁.heap H).Ns b m:=fun{b m} ⟨o,es,ep,e,d,r⟩=>%[o,es,ep,base_of e (noA e d),d|r]
  let hKb:K.In (sT s₁.heap H):=λb o e=>base_of (KX b o e) (by
   cases q:H b with
   |none=>rfl
   |some u=>
     let e':b=a:=hA b (by rw[q];simp);subst e';rw[hK (by rw[q];simp)]at e;cases e)
  let hM:Mod K mg (sT s₁.heap H):=%[hKb,nsK hns,%[mb,nsK hb|hbb]|let⟨mc,h1,h2⟩:=hlim;⟨mc,nsK h1,h2⟩]
  let e0:Env0 P w K mg (sT s₁.heap H) callerA [] s₁ H:=%[1,hM,λb o e=>CW e,Nat.le_of_eq (yO _ _),trivial,λb hb=>absurd (show b∈([]:List Addr)from hb) #[2],hok|.of_eq hg]
  apply wQ1 ((F _ hKb (nsK hns)).run callerA [] s₁ H %[[.ref a]|[]] [.ref a] [.ref a] _ _ hr e0 (hbind s₁ (.ref a)) (.cons rfl .nil) (hsp H hO hS)) λr s' h=>?_
  cases r with
  |error e=>exact(hCX H e s' h).elim
  |ok fl=>
    cases fl with
    |next=>exact False.elim h
    |brk=>exact False.elim h
    |cont=>exact False.elim h
    |ret u=>
      erw[v,H',os,bare,un,hok',r',q]at h;let q':v=.bl true:=q;subst q';obtain rfl:u=Value.bool true:=r';erw[1,OldK.of_keep λb o e=>?_,os,bare];cases q:H b with
      |none=>exact un.keep b o e q (by intro z;exact absurd (show b∈([]:List Addr)from z) #[2]) #[2]
      |some u=>
        rcases hO b with z | ⟨ob,xs,z⟩
        . rw[q]at z;cases z
        . let z2:=un.frzs b ob _ z;let%[e1|_]:=hok b _ z;let%[e2|_]:=hok' b _ z2;rw[e]at e1;cases e1;exact e2
 cases hk:K.lookup a with
 |some o=>
   let e:=KX a o hk;rw[ha]at e;cases e;apply core (λ_=>none) (λ_=>.inl rfl) (.inr %[_,vs.toArray,_,hk,1,1,1,by rw[zN0,lenV];exact hl|by simpa using rv]) (λb u z=>by let z':(none:Option HO)=some u:=z;cases z') (λb z=>absurd rfl z) λz=>absurd rfl z
 |none=>
   apply core (λb=>if b=a then some (.frz { cls:=.type "list",data:=.seq vs.toArray } (.lst (ns.map V.int)))else none) (λb=>?_) (.inl (.inr %[{ cls:=.type "list",data:=.seq vs.toArray }|JB rfl])) (λb u z=>?_) (λb z=>?_) λ_=>hk
   . by_cases hb:b=a
     . exact .inr %[_,_|JB hb]
     . exact .inl (Jy hb)
   . by_cases hb:b=a
     . let z':=(JB hb).symm.trans z;cases z';subst hb;erw[ha,by rw[zF0];exact hl,vs,_,rv,ha]
     . let z':=(Jy hb).symm.trans z;cases z'
   . by_cases hb:b=a
     . exact hb
     . exact absurd (Jy hb) z
def walk_of{l:PySem.W.OpenLaw}{n:Nat}{q:Program}{loose:List Str}{XP:(#[9])->Heap->Prop}{YP:World->Heap->Prop}{d:DefRec}{K:Params->PySem.W.Frag}{CX:World->CXT}{sp:World->Sp}{x:Str}
 (hn:l.most=some n)(hn2:n<=sizeLine)(hdf:d.params.defaults=[])(hr:Room k callerA)
 (hY:∀(w:World)(h:Heap),YP w h->(K w.params).In h)
 (F:∀(w:World)(mg:#[9])(fa:Addr)(h:Heap),(K w.params).In h->h.Ns mainGlobals mg->mg d.name=some (.ref fa) ->
  ∃ fd:FuncData,(∀(s:Shared)(u:Value),BindsTo s fd %[[u]|[]] [(x,u)])/\
   ∀base:Heap,(K w.params).In base->base.Ns mainGlobals mg->FnOk l.prog w (K w.params) mg base (CX w) k fa fd [x] (sp w))
 (hsp:∀(w:World)(H:Hp)(a:Addr)(ns:List Int),ns.length<=n->Fo H->SqL (K w.params) H a (ns.map V.int)->sp w [.ref a] H (λv _=>v=.bl true) λ_ _ _=>False)
 (hCX:∀(w:World)(H:Hp)(s:Shared)(e:Value)(s':Shared),CX w [] H s (λ_ _ _=>False) e s'->False) :
 PySem.W.WalkO q loose XP YP l.row.toRowW d [] (λf vs=>PySem.call f vs):=by
 apply Att.attach_call hn hdf λw s₀ s₁ mg mb fa o pm cd doc a vs ns G Y ho hd hcd hmg hobj hints hlen hg=>?_
 let KX:=hY w _ Y;let%[fd,hb|hF]:=F w mg fa _ KX G.T.g hmg;exact Be KX G.T.g G.T.b G.T.builtins G.T.nolimit hg hobj hints (zM0 hlen hn2) hr hF hb (λH hO hS=>hsp w H a ns hlen hO hS) λH e s'=>hCX w H s₁ e s'
end L2
namespace L2
open PySem PySem.Spec PyProof.Rows
def bn(s:Stmt)(j:Nat):Stmt:=match s with
 |.ClassDef _ _ _ body _ _ _ _ _ _ _=>body.getD j (.Pass %[(0),(0),(0)|(0)])
 |_=>.Pass %[(0),(0),(0)|(0)]
def iE(s:Stmt):Arguments:=match s with
 |.FunctionDef _ a _ _ _ _ _ _ _ _=>a
 |_=>{ posonlyargs:=[],args:=[],vararg:=none,kwonlyargs:=[],kw_defaults:=[],kwarg:=none,defaults:=[] }
def eV(s:Stmt):List Stmt:=match s with
 |.FunctionDef _ _ b _ _ _ _ _ _ _=>b
 |_=>[]
def ag(s:Stmt):Scope:=match s with
 |.FunctionDef _ _ _ _ _ _ sc _ _ _=>sc
 |_=>{ kind:=.function,names:=[],isGenerator:=false,isCoroutine:=false }
abbrev CX0:CXT:=λ_ _ _ _ _ _=>False
abbrev E0:XK:=λ_ _ _=>False
def bh:jj CX0 X E0:=λ_ _ _ _ _ _ _ h=>h.elim
structure Fun(K:W.Frag)(x qual:Str)(st:Stmt)(f:Addr)(fd:FuncData):Prop where
 ex:∃(oc:Value)(od:Option Addr)(kV doc pm:Value)(an:Option Addr)(cdv ct:Value)(osl:Array (Option Value)),
  fd=PySem.W.fnOf x qual (iE st) (eV st) (ag st) .none kV doc pm an cdv ct/\K.lookup f=some %[oc,od,.func fd|osl]/\PySem.W.codeIn K cdv qual=true
 kp:PySem.W.keepIn K (.ref f)=true
section
variable {P:Program}{w:World}{K:W.Frag}{mg:#[9]}{base:Heap}
def Fun.ok{st:Stmt}{sp:Sp}(F:Fun K x qual st f fd)(S:FnScope N ps (ag st))(len:∀vs H Q E,sp vs H Q E->vs.length=ps.length)
 (hbody:∀(cdv:Value)(A:Around)(outer:List Env)(s:Shared)(H:Hp)(vs:List V)(Q:VK)(E:XK),Room k (A.deeper (envOfC qual (ag st) ‹s› f cdv))->sp vs H Q E ->
  ∃t,PSs (zb CX0 P w K mg base N qual (ag st) f cdv A outer s H E).nox (eV st) t/\t { nx:=λ_ H'=>Q .non H',rt:=Q } (mD N vs) H):FnOk P w K mg base CX0 (k+1) f fd ps sp:=by
 erw[oc,od,kV,doc,pm,an,cdv,ct,osl,1,lk,hcd]at F.ex;apply fn_of lk hcd S len λA outer s H vs Q E hr hsp=>?_
 let%[t,h|q]:=hbody cdv A outer s H vs Q E hr hsp;erw[t,h.nox,q]
def Fun.binds{st:Stmt}{ps:List Str}(F:Fun K x qual st f fd)
 (h:∀(kV doc pm:Value)(an:Option Addr)(cdv ct:Value)(us:List Value),us.length=ps.length->bindArgs (PySem.W.fnOf x qual (iE st) (eV st) (ag st) .none kV doc pm an cdv ct) %[us|[]]=pure (ps.zip us)):Binds K fd ps []:=by
 erw[oc,od,kV,doc,pm,an,cdv,ct,osl,1,lk,hcd]at F.ex;exact .all (h kV doc pm an cdv ct)
def ET{x qual:Str}{st:Stmt}{f:Addr}{oc:Value}{od an:Option Addr}{osl:Array (Option Value)}{kV doc pm cdv ct:Value}(l:K.lookup f=some %[oc,od,.func (PySem.W.fnOf x qual (iE st) (eV st) (ag st) .none kV doc pm an cdv ct)|osl])
 (c:PySem.W.codeIn K cdv qual=true)(k:PySem.W.keepIn K (.ref f)=true):Fun K x qual st f (PySem.W.fnOf x qual (iE st) (eV st) (ag st) .none kV doc pm an cdv ct):=%[%[oc,od,kV,doc,pm,an,cdv,ct,osl,1,l|c]|k]
end
def DK(hr:Room k A):A.units+1<cLine:=zJ1 (Nat.add_le_add_left (by decide:1<=64) _) hr.units
def aN{n:Nat}(h:n<=1000):n<sizeLine:=zJ1 h ⋯
section
variable {X:Cx}
def pv(i:Nat){x:Str}{pos:Pos}(hN:X.N[i]?=some x:=by rfl)(hv:Vis X.env.scope x:=by first | exact Or.inl rfl | exact Or.inr (.inl rfl) | exact Or.inr (Or.inr rfl))(hd:(x==("__debug__":Str))=false:=by decide)
 (hcd:(x==("__classdict__":Str))=false:=by decide):PE X (.Name x pos) (tVar i):=En hN hv hd hcd
end
def cV{A B:Prop}(h:B):if false=true then A else B:=by
 rw[Jy zY0];exact h
def dL{A B:Prop}(h:A):if true=true then A else B:=by
 rw[JB rfl];exact h
def pP{c A B:Prop}[Decidable c](h1:c->A)(h2:¬ c->B):if c then A else B:=by
 by_cases h:c
 . rw[JB h];exact h1 h
 . rw[Jy h];exact h2 h
def mZ{c A B:Prop}[Decidable c](hc:c)(h:B):if(!decide c)=true then A else B:=by
 rw[zD1 hc];exact cV h
def Same(H H':Hp):Prop:=∀b o,H b=some o->H' b=some o
def Same.refl(H:Hp):Same H H:=λ_ _ h=>h
def Same.trans(a:Same H H1)(b:Same H1 H2):Same H H2:=λc o h=>b c o (a c o h)
def Same.free(e:Same H H'){l:Addr}(h:H' l=Option.none):H l=Option.none:=by
 cases q:H l with
 |none=>rfl
 |some o=>
   rw[e l o q]at h;cases h
def Same.seq{K:W.Frag}(e:Same H H')(h:SqL K H a xs):SqL K H' a xs:=by
 rcases h with(h | ⟨o,h⟩) | h
 . exact .inl (.inl (e _ _ h))
 . exact .inl (.inr %[o|e _ _ h])
 . exact .inr h
end L2
set_option maxHeartbeats 4000000
namespace L2
open PySem PySem.Spec PyProof.Rows
section
variable {X:Cx}
instance rIsi(K:W.Frag)(xs:List V)(H:Hp)(Q:VK):∀x t n b,xs=[x,.ty n]->TyOf K H x t->PySem.W.kitOne K t (.type n)=some b->Q (.bl b) H:=0
def ji:gC X (.builtin "isinstance") (rIsi X.K):=by
 exists 4,xs,us,Q,I,r,h;erw[x,t,n,b,1,ty,e,q]at h;let%[u,w',1,r1|r2]:=zn r;cases r2;exact yJ I r1 ty e (λtk=>%[.bl b,H,I.tok tk,1|q])
def uv(K:W.Frag)(n:String):PySem.W.kitOne K (.type n) (.type n)=some true:=by
 unfold PySem.W.kitOne;rw[JB #[2]]
def sQ(K:W.Frag):PySem.W.kitOne K (.type "int") (.type "bool")=some false:=by
 show(if((Value.type "int"==Value.type "bool")=true)then some true else if PySem.W.kitMeta "bool"=true then((fastBuiltinMro "int").map (·.contains (.type "bool")))else none)=some false;decide
def CDivL(_ j:Int):Prop:=0<j/\j<2 ^ 63
def AA:OpR X (binaryOp .FloorDiv) (rI CDivL λi j=>.int (i / j)):=opI λi j _ _ _ _ _ hc q=>by
 let e:Int.fdiv i j=i / j:=Int.fdiv_eq_ediv_of_nonneg i (Int.le_of_lt hc.1);rw[←e]at q;apply floordiv_int (by have:=hc.1;omega) q (.inl (PyProof.noPylong_of_log2 ?_));let h1:=hc.1;let h2:=hc.2;let h3:j.natAbs<2 ^ 63:=#[0]
 let h4:=(Nat.log2_lt (n:=j.natAbs) (k:=63) #[0]).mpr h3;omega
end
def jH:bootBuiltins "int"=some (.type "int"):=by decide
def wD:bootBuiltins "bool"=some (.type "bool"):=by decide
def qb:bootBuiltins "list"=some (.type "list"):=by decide
def bp:bootBuiltins "tuple"=some (.type "tuple"):=by decide
def pZ:bootBuiltins "reversed"=some (.type "reversed"):=by decide
structure Cal(P:Program)(w:World)(K:W.Frag)(mg:#[9])(base:Heap)(n:Nat)(x:Str)(ps:List Str)(sp:Sp):Prop where
 ex:∃(f:Addr)(fd:FuncData),FnOk P w K mg base CX0 n f fd ps sp/\Binds K fd ps []/\PySem.W.keepIn K (.ref f)=true/\mg x=some (.ref f)
def ai{X:Cx}{e:Expr}{es:List Expr}{p pos:Pos}(C:Cal X.prog X.w X.K X.mg X.base n x ps sp)(hr:Room k X.A)(hk:n<=k)(hg:Gl X x)
 (ha:PA X (e::es) t)(hdb:(x==("__debug__":Str))=false:=by decide)(he:starEach (e::es) X.env=(false,eval e X.env)::starEach es X.env:=by rfl)(hpl:(backTo pos (starEach es X.env)).any (·.1)=false:=by rfl):
 PE X (.Call (.Name x p) (e::es) [] pos) (tF sp [] E0 t):=by
 erw[f,fd,F,b,kp,m]at C.ex;exact CI F (hr.mono hk) hg m kp b .nil bh ha hdb he hpl
def Cal.of{P:Program}{w:World}{K:W.Frag}{mg:#[9]}{base:Heap}{n:Nat}{x qual:Str}{ps:List Str}{sp:Sp}{st:Stmt}{f:Addr}{fd:FuncData}(F:Fun K x qual st f fd)(O:FnOk P w K mg base CX0 n f fd ps sp)(m:mg x=some (.ref f))
 (h:∀(kV doc pm:Value)(an:Option Addr)(cdv ct:Value)(us:List Value),us.length=ps.length->bindArgs (PySem.W.fnOf x qual (iE st) (eV st) (ag st) .none kV doc pm an cdv ct) %[us|[]]=pure (ps.zip us)):Cal P w K mg base n x ps sp:=
 %[f,fd,O,F.binds h,F.kp|m]
def iteN{c A B:Prop}[Decidable c](hc:¬ c)(h:A):if(!decide c)=true then A else B:=by
 rw[zE1 hc];exact dL h
def aV{c A B:Prop}[Decidable c](hc:c)(h:A):if decide c=true then A else B:=by
 rw[zD1 hc];exact dL h
def ay{c A B:Prop}[Decidable c](hc:¬ c)(h:B):if decide c=true then A else B:=by
 rw[zE1 hc];exact cV h
def SameBut(f:Addr)(H H':Hp):Prop:=∀b o,b≠f->H b=some o->H' b=some o
def SameBut.trans(a:SameBut f H H1)(b:SameBut f H1 H2):SameBut f H H2:=λc o h e=>b c o h (a c o h e)
def SameBut.refl(f:Addr)(H:Hp):SameBut f H H:=λ_ _ _ h=>h
def zJ0{f:Addr}{H H':Hp}(h:Same H H'):SameBut f H H':=λb o _ e=>h b o e
abbrev SameBut.of:=@zJ0
def SameBut.upd(o:HO):SameBut f H (upd H f o):=λb u h e=>by rw[aD h];exact e
def zC0{H:Hp}{p:Addr}(h:H p=none)(o:HO):Same H (upd H p o):=λb u q=>by rw[aD (aX q h)];exact q
abbrev Same.new:=@zC0
def Same.but{f:Addr}(a:Same H0 H)(n:H0 f=none)(b:SameBut f H H'):Same H0 H':=λc o e=>b c o (aX e n) (a c o e)
def FeedAt(H:Hp)(f:Addr):Prop:=∃own st:Int,H f=some (.lst [.int own,.int st])/\0<=own/\0<=st/\st<=2147483646
def FeedAt.ne{b:Addr}(F:FeedAt H f)(h:H b=none):b≠f:=by
 erw[o,s,e,_]at F;intro z;subst z;rw[h]at e;cases e
def FeedAt.same(F:FeedAt H f)(s:Same H H'):FeedAt H' f:=by
 erw[o,t,e,h]at F;erw[o,t,s _ _ e,h]
instance spTake:∀(f:Addr)(m:Int),vs=[.ref f,.int m]->FeedAt H f->0<m->m<2 ^ 63->(∀(d:Int)(H':Hp),0<=d->d<m->FeedAt H' f->SameBut f H H'->Q (.int d) H'):=1
instance spFeed(K:W.Frag):∀(a:Addr)(ns:List Int)(k:Int),vs=[.ref a,.int k]->SqL K H a (ns.map V.int)->ns.length<=63->0<=k->k<1000000->(∀(p:Addr)(H':Hp),H p=none->Same H H'->FeedAt H' p->Q (.ref p) H'):=1
instance spLaw(K:W.Frag):∀(a:Addr)(ns:List Int),vs=[.ref a]->SqL K H a (ns.map V.int)->ns.length<=63->(∀H',Q (.bl true) H'):=1
def cg{n:Nat}(h:n<=1000):n<=sizeLine:=wC0 (aN h)
def BT{ns:List Int}{k:Int}(h0:0<=k)(h:k<(ns.length:Int)):∃v:Int,atI (ns.map V.int) k=some (.int v):=by
 let hk:k.toNat<ns.length:=#[0]
 let q:atI (ns.map V.int) ((k.toNat:Nat):Int)=some (.int ns[k.toNat]):=bw (by rw[zX0,zS0 hk] <;> rfl);let ek:((k.toNat:Nat):Int)=k:=#[0]
 rw[ek]at q;erw[_,q]
@[reducible] def jh (X:Cx) (N:List Str) (scope:Scope) (cl:List (Str×Addr)) (s:Shared) (H:Hp) (fp:List Addr):Cx where
 prog:=X.prog
 w:=X.w
 K:=X.K
 mg:=X.mg
 base:=X.base
 A:=X.A
 N:=N
 s₀:=s
 H₀:=H
 env:=compEnvC scope cl ‹s› X.env
 outer:=X.stack
 stack:=X.stack
 ex:=fp
 fn:=λ_=>false
 calm:=X.calm
 pn:=[]
 xe:=λ_ _=>False
structure CompScope(X:Cx)(x:Str)(N:List Str)(ix:List Nat)(scope:Scope)(cl:List (Str×Addr)):Prop where
 clos:closureFor scope X.env=pure cl
 nocell:∀y∈scope.names,y.2≠.cell
 kind:scope.kind=.function
 names:∀y∈scope.names,y.2=.local->scope.names.lookup y.1=some .local
 own:scope.names.lookup x=some .local
 nd:(x::N).Nodup
 sub:∀p∈cl,X.env.cells.lookup p.1=some p.2
 has:((relabel scope X.env).names.all λp=>!(p.2==.cell||p.2==.free)||(cl.lookup p.1).isSome)=true
 outs:∀(j:Nat)(y:Str),N[j]?=some y->(relabel scope X.env).names.lookup y=some .cell/\∃k c,ix[j]?=some k/\X.N[k]?=some y/\cl.lookup y=some c/\X.env.scope.names.lookup y=some .cell
def outs(ix:List Nat)(σ:St):St:=ix.map λk=>(σ[k]?).join
section
variable {X:Cx}{Jx:#[7]}{σ:St}{x:Str}{N:List Str}{ix:List Nat}{scope:Scope}{cl:List (Str×Addr)}{fp:List Addr}{H3:Hp}{s3:Shared}
def CompScope.cells(S:CompScope X x N ix scope cl){y:Str}{c:Addr}(h:cl.lookup y=some c):X.env.cells.lookup y=some c:=S.sub _ (qE1 h)
def xj{M:List Str}(S:CompScope X x N ix scope cl)(I3:#[8] H3 s3)(hf:∀b∈fp,lB X Jx H3 b)(JD:∀b∈fp,b<‹s3›):(jh X M scope cl s3 H3 fp).Ok where
 mod:=I3.ok.mod
 kind:=S.kind
 glob:=I3.ok.glob
 blt:=I3.ok.blt
 above:=zH0 _
 inj:=λy z c h1 h2=>I3.ok.inj y z c (S.cells h1) (S.cells h2)
 has:=λy hy=>by
  let q:=List.all_eq_true.mp S.has;let hy:(relabel scope X.env).names.lookup y=some .cell∨(relabel scope X.env).names.lookup y=some .free:=hy;let z:∀k:NameKind,(k==.cell||k==.free)=true->(relabel scope X.env).names.lookup y=some k->∃c,cl.lookup y=some c:=λk hk e=>by
   let r:=q _ (qE1 e);rw[hk]at r;exact Option.isSome_iff_exists.mp #[r,0]
  rcases hy with e | e
  . exact z _ (by rfl) e
  . exact z _ (by rfl) e
 cab:=λ_ _ h _=>nomatch h
 hd:=I3.ok.hd
 frames:=I3.ok.frames
 stk:=.inl rfl
 exf:=λb hb=>%[qB0 (JD b hb)|λy c e=>(hf b hb).2.2.2.2.1 y c (S.cells e)]
 bs:=λb o e=>I3.bs b o e
 bsz:=zM0 I3.ok.bsz I3.sz
 noex:=λb o e hb=>by
  rcases(hf b hb).2.2.2.1 with z | z
  . exact I3.ok.noex b o e z
  . exact absurd (qL0 (zO0 e) (zM0 I3.ok.bsz z)) (qU0 _)
 exfs:=λb hb z=>by
  rcases zV0 (I3.stkSub b z)with e | e
  . exact(hf b hb).2.1 e
  . exact(hf b hb).2.2.1 e
 funs:=I3.stack
 frf:=I3.stkFree
def wA(pre:List Str)(S:CompScope X x N ix scope cl)(I3:#[8] H3 s3)(hf:∀b∈fp,lB X Jx H3 b)(JD:∀b∈fp,b<‹s3›)(hix:ix.length=N.length){h1:Heap}{t':Nat}{m:#[9]}
 (hn:h1.Ns ‹s3› m)(hk:∀b o,s3.heap.get? b=some o->h1.get? b=some o):Inv (jh X (pre++N) scope cl s3 H3 fp) [] (List.replicate pre.length none++outs ix σ) H3 { s3 with heap:=h1,toks:=t' } where
 ok:=xj S I3 hf JD
 os:=rfl
 bare:=I3.bare
 base:=Un.kept hk
 loc:=by
  erw[m,hn,λi y v h1' h2 h3=>?_];let h1'':(pre++N)[i]?=some y:=h1';let h2':(List.replicate pre.length none++outs ix σ)[i]?=some (some v):=h2
  by_cases hi:i<pre.length
  . rw[zO1 (by rw[zU1];exact hi),List.getElem?_replicate,JB hi]at h2';cases h2'
  . let hj:=Nat.le_of_not_lt hi;rw[zL1 hj]at h1'';rw[zL1 (by rw[zU1];exact hj),zU1]at h2';generalize i-pre.length=j at h1'' h2';let%[hr,k,c,e1,e2,e3|e4]:=S.outs j y h1'';unfold outs at h2';rw[zX0,e1]at h2';let h2'':(σ[k]?).join=some v:=zT0 h2';let e5:σ[k]?=some (some v):=by
     cases q:σ[k]? with
     |none=>rw[q]at h2'';cases h2''
     |some o=>rw[q]at h2'';exact congrArg some h2''
    erw[m0,_,hl]at I3.loc;let%[u,r|l]:=hl k y v e2 e5 (.inr (.inl e4));erw[u,r,.inr %[.inl hr,c,e3|6]];rcases l with⟨kk,_⟩ | ⟨_,c',ec,z⟩
    . let kk':X.env.scope.names.lookup y=some .local:=kk;rw[e4]at kk';cases kk'
    . rw[S.cells e3]at ec;cases ec;erw[o,ho,hd]at z;erw[o,hk _ _ ho,hd]
 cell:=λy c e=>by
  let%[v,o,ho|hd]:=I3.cell y c (S.cells e);erw[v,o,hk _ _ ho,hd]
 free:=I3.hok.fresh (zH0 _)
 freeC:=λy c e=>I3.freeC y c (S.cells e)
 pin:=λp hp=>absurd (show p∈([]:#[7])from hp) #[2]
 hok:=I3.hok.kept hk
 len:=by
  show(List.replicate pre.length (none:Option V)++outs ix σ).length=(pre++N).length
  simp [outs,hix]
def zd(I3:#[8] H3 s3)(hf:∀b∈fp,lB X Jx H3 b){σ':St}{h'':Heap}{N':List Str}(J:Inv (jh X N' scope cl s3 H3 fp) [] σ' H' s')(hb:Heap.SameBut ‹s3› s'.heap h''):
 #[8] H' { s' with heap:=h'' }:=by
 let ne:∀b o,s3.heap.get? b=some o->b≠‹s3›:=λb o e=>qB0 (zO0 e)
 let B:Un (frs X.stack) fp H3 H' s3.heap s'.heap:=J.base;apply I3.call' (s':={ s' with heap:=h'' }) (ch:=fp) J.os ⟨λb o e n h1 h2=>(hb.2 b (ne b o e)).trans (B.keep b o e n h1 h2),λb o e n h1 h2=>?_,B.free,λb o e h2=>?_,B.tups,B.frzs,B.tbls⟩ (λb ob e=>?_) J.bare (λb z=>?_)
 . let%[sl|q]:=B.slot b o e n h1 h2;erw[sl,(hb.2 b (ne b o e)).trans q]
 . let%[o'|q]:=B.there b o e h2;erw[o',(hb.2 b (ne b o e)).trans q]
 . let fr:H' ‹s3›=none:=J.free;refine(J.hok b ob e).stay (λc w' hc q=>(hb.2 c ?_).trans q) (λ_ q=>q) λ_ _ q=>q
   rintro rfl;rcases hc with rfl | hc
   . rw[fr]at e;cases e
   . rw[fr]at hc;cases hc
 . let%[_,h2,_,h4,h5|h6]:=hf b z;erw[h4,h2,h5,h6]
end
abbrev TBl:=St->Hp->(Hp->Prop)->VK->Prop
def PB(X:Cx)(ifs:List Expr)(elt:Expr)(tb:TBl):Prop:=
 ∀(Jx:#[7])(s:Shared)(σ:St)(H:Hp)(skip:Hp->Prop)(keep:VK),#[8] H s->tb σ H skip keep ->
  ‹X.w› (forIn ifs true λc r=>if r=true then do let ok ←isTrue c X.env (eval c X.env);pure (ForInStep.yield ok)else pure (ForInStep.yield r))
   (λok s3=>if ok=true then ‹X.w› (eval elt X.env) (EP X Jx σ keep) X.xe s3 else ∃H',#[8] H' s3/\skip H') X.xe s
def tB0(te:TE):TBl:=λσ H _ keep=>te σ H keep
def tB1(tc:TT)(te:TE):TBl:=λσ H skip keep=>tc σ H λb H1=>if b=true then te σ H1 keep else skip H1
def cD(he:PE X elt te):PB X [] elt (tB0 te):=by
 exists 4,skip,keep,I,h;apply wpAny_tests_nil ?_;rw[JB rfl];exact he Jx s σ H keep I h
def pb_if(hc:PT X c tc)(he:PE X elt te):PB X [c] elt (tB1 tc te):=by
 exists 4,skip,keep,I,h;apply wpAny_tests_one (thn (hc Jx s σ H _ I h) λb s1 ⟨H1,I1,q1⟩=>?_);cases b with
 |true=>
   rw[JB rfl]at q1 ⊢;exact he Jx s1 σ H1 keep I1 q1
 |false=>
   rw[Jy ⋯]at q1 ⊢;erw[H1,I1,q1]
def mx(J:It)(D:Addr)(ix:List Nat)(tb:TBl)(σ:St)(H:Hp)(Q:VK):Prop:=∃W:Nat->Nat->Hp->Prop,(∃m,W 0 m (upd H D (.lst [])))/\∀i m H2,W i m H2 ->
 (J.stop i H2/\Q (.ref D) H2)∨(J.go i H2/\∀y H3,J.yld i H2 y H3->tb (some y::outs ix σ) H3 (λH4=>∃m',m'<m/\W (i+1) m' H4)
  λz H4=>∃ys,H4 D=some (.lst ys)/\ys.length<sizeLine/\∃m',m'<m/\W (i+1) m' (upd H4 D (.lst (ys++[z]))))
def zD(wi:TI)(ix:List Nat)(tb:TBl):TE:=λσ H Q=>wi σ H λJ H1=>∀D,H1 D=none->mx J D ix tb σ H1 Q
section
variable {prog:Program}{w:World}{A:Around}{E:#[6]}{R:Result->Shared->Prop}{s:Shared}
def uJ{elt target iter:Expr}{ifs:List Expr}{scope:Scope}{pos:Pos}{it acc:Value}{env:Env}(I:Nat->Shared->Prop)
 (turn:∀n s,I n s->‹w.A› (pyNext it) (λr s1=>match r with
  |none=>R (.ok .next) s1
  |some v=>‹w.A› (letOwnedTupleGo target it v) (λ_ s1'=>‹w.A› (assign target env v) (λ_ s2=>
   ‹w.A› (forIn ifs true λc r=>if r=true then do let ok ←isTrue c env (eval c env);pure (ForInStep.yield ok)else pure (ForInStep.yield r)) (λok s3=>
    if ok=true then ‹w.A› (eval elt env) (λx s4=>
     ‹w.A› (call (.builtin "list.append") [acc,x]) (λ_ s5=>∃m,m<n/\I m s5) (λ_ _=>False) s4) (λ_ _=>False) s3
    else ∃m,m<n/\I m s3) (λ_ _=>False) s2) (λ_ _=>False) s1') (λ_ _=>False) s1) (λ_ _=>False) s)
 (n:Nat) (h:I n s) :
 codeAny (model prog w) A (.compLoop (.ListComp elt [%[target,iter,ifs|(0)]] scope pos) 0 it acc env) R s:=by
 let up:∀{α:Type}{t:Sem α}{Q Q':α->Shared->Prop}{E':#[6]}{s:Shared},‹w.A› t Q (λ_ _=>False) s->(∀a s,Q a s->Q' a s)->‹w.A› t Q' E' s:=
  λh q=>jD0 h q λ_ _ f=>f.elim
 apply codeAny_loop rfl I (λn s hI=>?_) n h;show wpAny _ A ((compTurn (.ListComp elt [%[target,iter,ifs|(0)]] scope pos) 0 it acc env).onRaise (λx=>do noteFrame x env;theTreesLotGoes x)) _ _ s;apply wpAny_noted ?_;rw[compTurn_list];apply zD0 (wK1 (zD0 (up (turn n s hI) λr s1 h1=>?_)));cases r with
 |none=>exact zI0 h1
 |some v=>
   apply zD0 (up h1 λ_ s1' h1'=>?_);apply zD0 (up h1' λ_ s2 h2=>zD0 (up h2 λok s3 h3=>?_));cases ok with
   |false=>exact zI0 %[1|h3]
   |true=>
     exact zD0 (zD0 (up h3 λx s4 h4=>zD0 (up h4 λ_ s5 h5=>zI0 (zI0 %[1|h5]))))
end
def zc{Y:Cx}{iter:Expr}{scope:Scope}{pos:Pos}{D:Addr}{R:Result->Shared->Prop}{Pf:St->Prop}{W:Nat->Nat->Hp->Prop}{σ0:St}{m0:Nat}
 (hc:Y.calm=true)(hx:∀v s,Y.xe v s->False)(T:Turn Y.prog Y.w Y.K tgt J fp it tn)(hg:PG Y tgt g)(hb:PB Y ifs elt tb)(stat:∀{H':Hp},(∀b∈fp,H' b=none)->∀b∈fp,lB Y [] H' b)
 (turn:∀i m H2,W i m H2->(J.stop i H2/\∀ σ' s',Pf σ'->Inv Y [] σ' H2 s'->R (.ok .next) s')∨(J.go i H2/\∀y H3,J.yld i H2 y H3->∀ σ',Pf σ'->g y σ' H3 λσ8 H8=>Pf σ8/\tb σ8 H8 (λH4=>∃m',m'<m/\W (i+1) m' H4)
  λz H4=>∃ys,H4 D=some (.lst ys)/\ys.length<sizeLine/\∃m',m'<m/\W (i+1) m' (upd H4 D (.lst (ys++[z])))))
 (p0:Pf σ0) (I0:Inv Y [] σ0 H0 s0) (st0:tn 0 s0.heap) (f0:∀b∈fp,H0 b=none) (w0:W 0 m0 H0) :
 codeAny (model Y.prog Y.w) Y.A (.compLoop (.ListComp elt [%[tgt,iter,ifs|(0)]] scope pos) 0 (.ref it) (.ref D) Y.env) R s0:=by
 apply uJ (λn s'=>∃i σ' H',Pf σ'/\Inv Y [] σ' H' s'/\tn i s'.heap/\(∀b∈fp,H' b=none)/\W i n H') ?_ m0 %[(0),_,_,p0,I0,st0,f0|w0];rintro n s5 ⟨i,σ5,H5,p5,I5,st5,fr5,w5⟩;rcases turn i n H5 w5 with⟨stop,qn⟩ | ⟨go,step⟩
 . apply thn (T.done Y rfl rfl rfl hc i [] s5 _ H5 _ I5 (stat fr5) st5 stop) λr s6 ⟨hr,I6⟩=>?_
   subst hr;exact qn _ _ p5 I6
 . apply thn (T.item Y rfl rfl rfl hc i [] s5 _ H5 _ I5 (stat fr5) st5 go) λr s6 ⟨u,hr,h6⟩=>?_
   subst hr;apply thn h6 λ_ s7 ⟨y,H7,I7,r7,y7,st7,fr7⟩=>?_
   apply jD0 (hg _ s7 _ H7 y u _ (I7.pinned (stat fr7) (T.obj _ _ st7)) r7 (step y H7 y7 _ p5)) (λ_ s8 ⟨σ8,H8,I8,p8,q8⟩=>?_) hx;let again:∀{H9:Hp}{s9:Shared},Inv Y ([]++pq fp s7.heap) σ8 H9 s9->(∃m',m'<n/\W (i+1) m' H9) ->
    ∃m,m<n/\∃i σ' H',Pf σ'/\Inv Y [] σ' H' s9/\tn i s9.heap/\(∀b∈fp,H' b=none)/\W i m H':=fun{H9 s9} I9 ⟨m',hm,w9⟩=>by
    erw[m',hm,i+1,_,H9,p8,I9.unpinned,T.keep _ _ _ st7 λb hb o e=>(I9.pin (b,o) (qR0 _ (qR0 _ (iB hb e)))).1,λb hb=>?_,w9];let%[o,e|d]:=T.obj _ _ st7 b hb;exact(I9.pin (b,o) (qR0 _ (qR0 _ (iB hb e)))).2.1
   apply jD0 (hb _ s8 _ _ _ _ I8 q8) (λok s9 q9=>?_) hx;cases ok with
   |false=>
     rw[Jy ⋯]at q9 ⊢;erw[H9,I9,q9]at q9;exact again I9 q9
   |true=>
     rw[JB rfl]at q9 ⊢;apply jD0 q9 (λu s10 ⟨z,H10,I10,r10,ys,hy,hz,q10⟩=>?_) hx;apply jD0 (bV _ s10 _ H10 (.ref D) [z] (.ref D) [u] (λ_ H'=>∃m',m'<n/\W (i+1) m' H') I10 rfl (.cons r10 .nil) %[_,ys,z,1,1,hy,hz|q10]) (λ_ s11 ⟨_,H11,I11,_,q11⟩=>?_) hx;exact again I11 q11
structure Apart(X:Cx)(Jx:#[7])(H:Hp)(C:Addr):Prop where
 fr:H C=none
 lo:C≠X.env.locals
 sz:X.s₀.heap.objs.size<=C
 ce:∀y c,X.env.cells.lookup y=some c->c≠C
 pi:∀p∈X.pn++Jx,p.1≠C
def Apart.turn{σ:St}{h':Heap}(a:Apart X Jx H C)(I:#[8] H s)(hs:Heap.SameBut C s.heap h'):#[8] H { s with heap:=h' }:=
 I.turned (t':=s.toks) (λb o ne e=>(hs.2 b ne).trans e) a.fr a.lo (.inr a.sz) a.ce a.pi
section
variable {X:Cx}{x:Str}{N:List Str}{ix:List Nat}{scope:Scope}{cl:List (Str×Addr)}{elt iter:Expr}{ifs:List Expr}{px pos:Pos}{wi:TI}{tb:TBl}
def uI(hc:X.calm=true)(S:CompScope X x N ix scope cl)(hix:ix.length=N.length)(hb:∀s3 H3 fp,PB (jh X (x::N) scope cl s3 H3 fp) ifs elt tb)
 {σ:St}{Q:VK}{fp:List Addr}{RR:Value->Addr->Result->Shared->Prop}{E:#[6]}
 (I2:#[8] H2 s2)(T:Turn X.prog X.w X.K (.Name x px) J fp it tn)(st2:tn 0 s2.heap)(f2:∀b∈fp,lB X Jx H2 b)
 (h:∀D,H2 D=none->∃W:Nat->Nat->Hp->Prop,(∃m,W 0 m (upd H2 D (.lst [])))/\∀i m H3,W i m H3 ->
  (J.stop i H3/\Q (.ref D) H3)∨(J.go i H3/\∀y H4,J.yld i H3 y H4->tb (some y::outs ix σ) H4 (λH5=>∃m',m'<m/\W (i+1) m' H5)
   λz H5=>∃ys,H5 D=some (.lst ys)/\ys.length<sizeLine/\∃m',m'<m/\W (i+1) m' (upd H5 D (.lst (ys++[z])))))
 (hRR:∀(D C:Addr)(H':Hp)(s':Shared)(m:#[9]),s'.heap.Ns C m->Apart X Jx H' C->#[8] H' s'->Q (.ref D) H'->RR (.ref D) C (.ok .next) s') :
 ‹X.w› (newList []) (λacc s3=>‹X.w› (newFunctionEnv scope X.env.globals cl [] X.env.qual none .none (some X.env)) (λcenv s4=>
  codeAny (model X.prog X.w) X.A (.compStart (.ListComp elt [%[.Name x px,iter,ifs|(0)]] scope pos) 0 (.ref it) acc { cenv with scope:=relabel scope X.env }) (RR acc cenv.locals) s4) E s3) E s2:=by
 apply zQ1 (wpAny_newFunctionEnv S.nocell (by intro y hy;simp at hy) (λh1 hns1 hsb1=>?_) S.kind)
 dsimp only at hns1 hsb1 ⊢
 let I3:#[8] (upd H2 ‹s2› (.lst [])) { s2 with heap:=s2.heap.push { cls:=.type "list",dict:=none,data:=.seq ([]:List Value).toArray } }:=I2.lnew (its:=[]) (ys:=[]) (t':=s2.toks) .nil (zQ0 _);let hD:H2 ‹s2›=none:=I2.fresh;let%[W,%[m0|w0]|turn]:=h ‹s2› hD;let hltF:∀b∈fp,b<‹s2›:=λb hb=>by
  let%[o,e|_]:=T.obj 0 _ st2 b hb;exact zO0 e
 generalize hs3:({ s2 with heap:=s2.heap.push { cls:=.type "list",dict:=none,data:=.seq ([]:List Value).toArray } }:Shared)=s3 at I3;let eh:s2.heap.push { cls:=.type "list",dict:=none,data:=.seq ([]:List Value).toArray }=s3.heap:=by rw[←hs3]
 let et:s2.toks=s3.toks:=by rw[←hs3]
 rw[eh]at hns1 hsb1 ⊢;let sz3:‹s3›=‹s2›+1:=by rw[←eh,wG1]
 let hlt3:∀b∈fp,b<‹s3›:=λb hb=>qL0 (hltF b hb) (by rw[sz3];exact qM0 _)
 let f3:∀b∈fp,lB X Jx (upd H2 ‹s2› (.lst [])) b:=λb hb=>by
  let%[q1|q2]:=f2 b hb;erw[by rw[aD (qB0 (hltF b hb))];exact q1,q2]
 let up:∀b o,s3.heap.get? b=some o->h1.get? b=some o:=λb o e=>hsb1.extBut b o (qB0 (zO0 e)) (zR0 _ e)
 let old:∀b o,s2.heap.get? b=some o->h1.get? b=some o:=λb o e=>up b o (by rw[←eh];exact zR0 _ e)
 let es:({ s2 with heap:=h1,toks:=s2.toks+([]:List (Str×Value)).length }:Shared)={ s3 with heap:=h1,toks:=s2.toks+([]:List (Str×Value)).length }:=by rw[←hs3]
 rw [es];let I4:Inv (jh X (x::N) scope cl s3 (upd H2 ‹s2› (.lst [])) fp) [] (none::outs ix σ) (upd H2 ‹s2› (.lst [])) { s3 with heap:=h1,toks:=s2.toks+([]:List (Str×Value)).length }:=
  wA [x] S I3 f3 hlt3 hix hns1 up
 let st4:tn 0 h1:=T.keep 0 _ _ st2 λb _ o e=>old b o e
 let loop:codeAny (model X.prog X.w) X.A (.compLoop (.ListComp elt [%[.Name x px,iter,ifs|(0)]] scope pos) 0 (.ref it) (.ref ‹s2›) (compEnvC scope cl ‹s3› X.env)) (RR (.ref ‹s2›) ‹s3›)
  { s3 with heap:=h1,toks:=s2.toks+([]:List (Str×Value)).length }:=by
  let k:=xj (M:=x::N) S I3 f3 hlt3;apply zc (Y:=jh X (x::N) scope cl s3 (upd H2 ‹s2› (.lst [])) fp) (Pf:=λσ'=>∃v0,σ'=v0::outs ix σ) hc (λ_ _ z=>z) T (bg (i:=0) S.nd rfl (.inl (lookup_relabel_local S.own)) (.inr (lookup_relabel_local S.own))) (hb _ _ _) (λhn b hb=>%[hn b hb,(k.exf b hb).1,k.exfs b hb,.inl hb,(k.exf b hb).2|λp hp=>absurd (show p∈([]:#[7])from hp) #[2]]) (λi m H5 w5=>(turn i m H5 w5).imp (fun⟨stop,qn⟩=>%[stop|λσ' s6 _ I6=>?_]) (fun⟨go,step⟩=>⟨go,λy H3 y7 σ' ⟨v0,e⟩=>by
   subst e;erw[%[|0],step y H3 y7]⟩)) ⟨none,rfl⟩ I4 st4 (λb hb=>(f3 b hb).1) w0
  erw[m6,hn6,_]at I6.loc;exact hRR _ _ H5 s6 m6 hn6 ⟨I6.free,Ne.symm (qB0 I3.lt),I3.sz,λy c e z=>by
   let%[v|q]:=I3.cell y c e;exact absurd q.lt (by rw[z];exact qU0 _),λp hp z=>absurd (zO0 (I3.pin p hp).1) (by rw[z];exact qU0 _)⟩ (zd I3 f3 I6 (Heap.SameBut.refl _ _)) qn
 exact codeAny_compStart_list loop (T.self _ 0 _ _ _ st4 loop)
def cb(hc:X.calm=true)(S:CompScope X x N ix scope cl)(hix:ix.length=N.length)(hi:PI X (.Name x px) iter wi)(hb:∀s3 H3 fp,PB (jh X (x::N) scope cl s3 H3 fp) ifs elt tb)
 (hs:∀x,foldedSetIterable iter X.env x=pure x:=by intro _;rfl):PE X (.ListComp elt [%[.Name x px,iter,ifs|(0)]] scope pos) (zD wi ix tb):=by
 exists 4,Q,I,h;rw[eval_ListComp];apply wpAny_comprehension_free (use:=none) rfl hs S.clos S.kind S.names (thn (hi Jx s σ H _ I h) λxv s1 h1=>thn h1 λitv s2 h2=>?_);erw[it,fp,tn,J,H2,1,I2,T,st2,f2,R]at h2;apply uI hc S hix hb (RR:=λacc C=>compPost (model X.prog X.w) X.A X.xe none (EP X Jx σ Q) acc C) I2 T st2 f2 R ?_;intro D C H' s' m hn ap I' q;erw[m,hn,λh'' hb''=>%[.ref D,H',ap.turn I' hb'',1|q]]
def so{i:Nat}{y:Str}{py spos:Pos}(hN:X.N.Nodup)(hi0:X.N[i]?=some y)(hx:Loc X.env.scope y)(hc:X.calm=true)(S:CompScope X x N ix scope cl)(hix:ix.length=N.length)(hi:PI X (.Name x px) iter wi)(hb:∀s3 H3 fp,PB (jh X (x::N) scope cl s3 H3 fp) ifs elt tb)
 (hsw:swapsWith (.ListComp elt [%[.Name x px,iter,ifs|(0)]] scope pos) (some (.Name y py)) spos.line X.env=pure true:=by rfl')
 (hs:∀x,foldedSetIterable iter X.env x=pure x:=by intro _;rfl)(hf:X.fn y=true∨X.env.scope.names.lookup y=some .local:=by first | exact .inl rfl | exact .inr rfl | assumption):
 PS X (.Assign [.Name y py] (.ListComp elt [%[.Name x px,iter,ifs|(0)]] scope pos) spos) (λD σ H=>zD wi ix tb σ H λv H'=>D.nx (σ.set i (some v)) H'):=by
 exists 4,Dn,I,h;rw[exec_Assign_Name_used _ _ _ _ hsw];apply zD0 (wK1 (zD0 ?_));show wpAny _ X.A (do let _ ←comprehension (.ListComp elt [%[.Name x px,iter,ifs|(0)]] scope pos) scope X.env _ (newList []) false (eval iter X.env) (some (assign (.Name y py) X.env))) _ _ s;apply zD0 (jD0 (wpAny_comprehension_free (use:=some (assign (.Name y py) X.env)) (Q:=λ_ s'=>SP X Jx Dn .next s') rfl hs S.clos S.kind S.names
  (thn (hi Jx s σ H _ I h) λxv s1 h1=>thn h1 λitv s2 h2=>?_)) (λ_ s' hq=>zI0 (zI0 hq)) λ_ _ e=>e)
 erw[it,fp,tn,J,H2,1,I2,T,st2,f2,R]at h2;apply uI hc S hix hb (RR:=λacc C=>compPost (model X.prog X.w) X.A X.xe (some (assign (.Name y py) X.env)) (λ_ s'=>SP X Jx Dn .next s') acc C) (Q:=λv H'=>Dn.nx (σ.set i (some v)) H') I2 T st2 f2 R ?_;intro D C H' s' m hn ap I' q;show wpAny _ X.A (assign (.Name y py) X.env (.ref D)) _ _ _;apply wpAny_assign_Name (qE I' hN hi0 hx (v:=.ref D) rfl (λs'' I'' hsb=>?_) hf);erw[a,hsb,ha]at hsb;let ne:C≠a:=by
  rcases ha with z | z
  . rw[z];exact ap.lo
  . exact Ne.symm (ap.ce y a z)
 erw[m,hn.sameBut hsb ne,λh'' hb''=>%[_,H',ap.turn I'' hb''|q]]
end
section
variable {X:Cx}{Jx:#[7]}{σ:St}{H:Hp}{s:Shared}{h':Heap}
def Inv.turnedNew{t':Nat}{ch:List Addr}{T:Addr}(I:#[8] H s)(k:∀b u,b∉ch->s.heap.get? b=some u->h'.get? b=some u)(hf:∀b∈ch,lB X Jx H b)(hT:‹s›<=T)
 (new:ObjOk X.prog X.w (upd H T o) h' T o):#[8] (upd H T o) { s with heap:=h',toks:=t' }:=by
 let nit:∀b u,H b=some u->b∉ch:=λb u e z=>by rw[(hf b z).1]at e;cases e
 let hn:H T=none:=I.hok.fresh hT;let lt:∀b u,s.heap.get? b=some u->b≠T:=λb u e=>qB0 (qL0 (zO0 e) hT)
 apply I.step (g':=s.gens) (d':=s.drawn) (ch:=ch) (λb hb=>?_) (λb u _ _ hc e _=>k b u hc e) (λb u _ _ hc e _=>%[u.slots|k b u hc e]) (λb u _ e n=>by rw[aD (lt b u e)];exact n) (λb u hc e=>%[u|k b u hc e])
  (λb xs e=>by rw[aD (aX e hn)];exact e) (λb ob u e=>by rw[aD (aX e hn)];exact e) (λb ps e=>%[#[]|by rw[aD (aX e hn),e];simp]) (λm hm=>?_) (λb u e=>?_) I.bare
 . let%[_,h2,_,h4,h5|h6]:=hf b hb;erw[h4,h2,h5,h6]
 . erw[ob,es,ep,ho,r]at hm;erw[ob,es,ep,k _ ob (λz=>(hf _ z).2.1 rfl) ho,r]
 . by_cases hb:b=T
   . subst hb;rw[aO]at e;cases e;exact new
   . rw [aD hb]at e;refine(I.hok b u e).stay (λc v hc q=>k c v ?_ q) (λc q=>by rw[aD (aX q hn)];exact q) λc xs q=>by rw[aD (aX q hn)];exact q
     rcases hc with z | z
     . rw[z];exact nit b u e
     . exact nit c _ z
def Inv.turnedL{t':Nat}{ch:List Addr}(I:#[8] H s)(k:∀b u,b∉ch->s.heap.get? b=some u->h'.get? b=some u)(hf:∀b∈ch,lB X Jx H b):#[8] H { s with heap:=h',toks:=t' }:=by
 let nit:∀b u,H b=some u->b∉ch:=λb u e z=>by rw[(hf b z).1]at e;cases e
 apply I.step (g':=s.gens) (d':=s.drawn) (ch:=ch) (λb hb=>?_) (λb u _ _ hc e _=>k b u hc e) (λb u _ _ hc e _=>%[u.slots|k b u hc e]) (λ_ _ _ _ n=>n) (λb u hc e=>%[u|k b u hc e])
  (λ_ _ e=>e) (λ_ _ _ e=>e) (λb ps e=>%[#[]|by rw[e];simp]) (λm hm=>?_) (λb u e=>?_) I.bare
 . let%[_,h2,_,h4,h5|h6]:=hf b hb;erw[h4,h2,h5,h6]
 . erw[ob,es,ep,ho,r]at hm;erw[ob,es,ep,k _ ob (λz=>(hf _ z).2.1 rfl) ho,r]
 . apply (I.hok b u e).stay (λc v hc q=>k c v ?_ q) (λ_ q=>q) λ_ _ q=>q
   rcases hc with z | z
   . rw[z];exact nit b u e
   . exact nit c _ z
end
def Ite(K:W.Frag)(a:Addr):It:=
 ⟨λi H=>∃xs x,SqL K H a xs/\xs[i]?=some x,λi H y H'=>∃t,y=.ref t/\H t=none/\∀xs x,SqL K H a xs->xs[i]?=some x->H'=upd H t (.tup [.int i,x]),λi H=>∃xs,SqL K H a xs/\xs.length<=i⟩
def xy{K:W.Frag}{elts:List Expr}{k:Nat}{pos:Pos}(a e it:Addr)(hei:e≠it):
 Turn P w K (.Tuple elts k pos) (Ite K a) [e,it] e (λi h=>(∃old,IsEnum h e it i old)/\h.IsListIter it a i) where
 mem:=by simp
 obj:=λi h st b hb=>by
  erw[%[old|he],o,e2,c,d]at st;rcases zV0 hb with z | z
  . subst z;erw[_,he,λv z=>nomatch z]
  . let z':=zP0 z;subst z';erw[o,e2,λv z=>by rw[d]at z;cases z]
 keep:=λi h h' st k=>by
  erw[%[old|he],hit]at st;erw[%[old|k e #[2] _ he],hit.at λo x=>k it #[2] o x]
 item:=by
  exists 5;erw[xs,x,hq,hx]at hg;let%[its,rv,p|hz]:=I.list hq;let%[u,hu|ru]:=rv.get hx;erw[%[old|he],hit]at st;apply wpAny_pyNext_enum_item he hit p.isList (x:=u) #[hu,0] hei λh1 ho hit1 hT hsz hk=>?_
  erw[0,wpAny_letOwnedTupleGo_enum ho λh2 he2 hs2=>?_];let elt:e<‹s›:=zO0 he;let hT2:h2.get? ‹s›=some { cls:=.type "tuple",data:=.seq #[.int i s.toks,u] }:=(hs2.2 _ (Ne.symm (qB0 elt))).trans hT;let I2:#[8] (upd H ‹s› (.tup [.int i,x])) { s with heap:=h2,toks:=s.toks+1 }:=by
   apply I.turnedNew (ch:=[e,it]) (λb ob hb eb=>?_) hf (zH0 _) %[by show 2<=sizeLine;decide,[.int i s.toks,u],.cons %[|0] (.cons ru .nil),%[_,hT2,1|0],_,hT2|1];let b1:b≠e:=λz=>hb (by simp [z])
   let b2:b≠it:=λz=>hb (by simp [z])
   exact(hs2.2 b b1).trans (hk b ob b1 b2 eb)
  erw[.ref ‹s›,_,I2,1,%[0,I.hok.fresh (zH0 _)|λys y hy hyi=>?_],%[%[u|by simpa using he2]|hit1.at λo z=>(hs2.2 it (Ne.symm hei)).trans z],λb hb=>?_]
  . let e1:=I.list_inj hy hq;subst e1;rw[hx]at hyi;cases hyi;rfl
  . let z:=hf b hb;let JD:b<‹s›:=by
     rcases zV0 hb with y | y
     . rw[y];exact elt
     . rw[zP0 y];erw[o,e2,_]at hit;exact zO0 e2
    rw[aD (qB0 JD)];exact z.1
 done:=by
  exists 5;erw[xs,hq,hx]at hg;let%[its,rv,p|hz]:=I.list hq;erw[%[old|he],hit]at st;let hl:=rv.length;exact wpAny_pyNext_enum_end (I.ok.hd hc) he hit p.isList (Array.getElem?_eq_none (by simp;omega)) λh' eb=>%[1|I.turnedL (t':=s.toks) (ch:=[e,it]) (λb o hb eo=>eb b o (λz=>hb (by simp [z])) eo) hf]
 self:=λ_ _ _ _ _ st h=>by
  erw[%[old|he],_]at st;exact jN1 he h
section
variable {X:Cx}{elts:List Expr}{k:Nat}{tpos:Pos}
instance ZiEnum(K:W.Frag)(R:(It->Hp->Prop))(x:V)(H1:Hp):∀a,x=.ref a->(∃xs,SqL K H1 a xs)->R (Ite K a) H1:=0
def iEnum(K:W.Frag)(tl:TE):TI:=λσ H R=>tl σ H λx H1=>ZiEnum K R x H1
def wQ{p pos:Pos}(hg:Gl X "enumerate")(hm:X.mg "enumerate"=none)(hl:PE X l tl)(hs:starEach [l] X.env=[(false,eval l X.env)]:=by rfl):
 PI X (.Tuple elts k tpos) (.Call (.Name "enumerate" p) [l] [] pos) (iEnum X.K tl):=by
 exists 4,R,I,h;apply Call_ (gR I hg hm boot_enumerate (zN1 ?_ hs rfl));rw[hs];show wpAny _ _ (spliced ((false,eval l X.env)::backTo pos (starEach [] X.env))) _ _ s;apply qJ1 (thn (hl Jx s σ H _ I h) λu s1 ⟨x,H1,I1,r1,a,ex,⟨xs,hq⟩,q⟩=>?_);subst ex;cases r1;let%[its,rv,p|hz]:=I1.list hq;apply qT1 ?_;apply call_enumerate_list p.isList λh' he hit hsz hk=>?_
 apply jN1 he ?_;let I2:#[8] H1 { s1 with heap:=h' }:=I1.kept (t':=s1.toks) hk;erw[‹s1›+1,[‹s1›+1,‹s1›],_,_,H1,1,I2,xy a _ _ (wQ0 (qM1 _)),%[%[_|he]|hit],λb hb=>?_,q];rcases zV0 hb with z | z
 . rw[z];exact I1.fpOk (qM0 _) (I1.hok.fresh (qM0 _))
 . rw[zP0 z];exact I1.fpOk (zH0 _) (I1.hok.fresh (zH0 _))
end
def uE{K:W.Frag}{xs:List V}{g:TG}{tb:TS}{D:Ends}{σ:St}{H:Hp}(Pv:Nat->St->Hp->Prop)(h0:Pv 0 σ H)(hl:∀i σ H,i<=xs.length->Pv i σ H->SqL K H a xs)
 (hs:∀i x σ H t,xs[i]?=some x->Pv i σ H->H t=none->g (.ref t) σ (upd H t (.tup [.int i,x])) λσ2 H2=>tb { D with nx:=Pv (i+1),ct:=Pv (i+1),bk:=D.nx } σ2 H2)(hd:∀ σ H,Pv xs.length σ H->D.nx σ H):
 ∃ W:Nat->Nat->St->Hp->Prop,(∃m,W 0 m σ H)/\∀i m σ H,W i m σ H ->
  ((Ite K a).stop i H/\D.nx σ H)∨((Ite K a).go i H/\∃N:St->Hp->Prop,(∀ σ' H',N σ' H'->∃m',m'<m/\W (i+1) m' σ' H')/\∀x H',(Ite K a).yld i H x H'->g x σ H' λσ2 H2=>tb { D with nx:=N,ct:=N,bk:=D.nx } σ2 H2):=by
 erw[λi m σ H=>m=xs.length-i/\i<=xs.length/\Pv i σ H,%[xs.length,by simp,zQ0 _|h0],6];rintro i m σ H ⟨rfl,hi,p⟩;let q:=hl i σ H hi p
 by_cases JD:i<xs.length
 . refine .inr %[%[xs,xs[i],q|by simp [JD]],Pv (i+1),λσ' H' p'=>%[xs.length-(i+1),3,1,JD|p']|λx H' y=>?_];erw[t,1,ht,e]at y;let e':=e xs xs[i] q (by simp [JD]);subst e';exact hs i xs[i] σ H t (by simp [JD]) p ht
 . let e:i=xs.length:=#[0]
   subst e;exact .inl %[%[xs,q|zH0 _]|hd σ H p]
mutual
inductive Rep(K:W.Frag)(H:Hp):V->PyData->Prop
 |non:Rep K H .non .none
 |bl (b:Bool):Rep K H (.bl b) (.bool b)
 |int (i:Int):Rep K H (.int i) (.int i)
 |str (x:Str):Rep K H (.str x) (.str x)
 |tup {a:Addr} {xs:List V} {ds:List PyData}:SqT K H a xs->RepAll K H xs ds->Rep K H (.ref a) (.tuple ds)
 |lst {a:Addr} {xs:List V} {ds:List PyData}:SqL K H a xs->RepAll K H xs ds->Rep K H (.ref a) (.list ds)
inductive RepAll(K:W.Frag)(H:Hp):List V->List PyData->Prop
 |nil:RepAll K H [] []
 |cons {x:V} {d:PyData} {xs:List V} {ds:List PyData}:Rep K H x d->RepAll K H xs ds->RepAll K H (x::xs) (d::ds)
end
section
variable {X:Cx}{Jx:#[7]}{σ:St}{H:Hp}{s:Shared}
mutual
def Rep.reads(I:#[8] H s):∀{x:V}{d:PyData}{v:Value},Rep X.K H x d->RelV x v->∃as,Reads s.heap v d as
 |_,_,v,.non,r=>by cases(show v=Value.none from r);erw[_,Reads.none]
 |_,_,v,.bl b,r=>by cases(show v=Value.bool b from r);erw[_,Reads.bool b]
 |_,_,v,.int i,r=>by let%[t|e]:=(show ∃t,v=Value.int i t from r);cases e;erw[_,Reads.int i t]
 |_,_,v,.str x,r=>by let%[t|e]:=(show ∃t,v=Value.str x t from r);cases e;erw[_,Reads.str x t]
 |_,_,v,.tup (a:=a) h q,r=>by
   cases(show v=Value.ref a from r);let%[its,rv,%[o,ho,hc,n|hd]|_]:=I.tuple h;let%[as|z]:=RepAll.reads I q rv;erw[_,reads_tuple_at ho hc hd #[z,0]]
 |_,_,v,.lst (a:=a) h q,r=>by
   cases(show v=Value.ref a from r);let%[its,rv,%[o,n,ho,hc,_|hd]|_]:=I.list h;let%[as|z]:=RepAll.reads I q rv;erw[_,reads_list_at ho hc hd #[z,0]]
def RepAll.reads(I:#[8] H s):∀{xs:List V}{ds:List PyData}{vs:List Value},RepAll X.K H xs ds->Vals xs vs->∃as,ReadsAll s.heap vs ds as
 |_,_,_,.nil,.nil=>%[_|ReadsAll.nil]
 |_,_,_,.cons h q,.cons r rs=>by
   let%[as|z]:=Rep.reads I h r;let%[bs|y]:=RepAll.reads I q rs;erw[_,ReadsAll.cons z y]
end
end
def hG{K:W.Frag}:∀ns:List Int,RepAll K H (ns.map V.int) (ns.map PyData.int)
 | []=>.nil
 |n::r=>.cons (.int n) (hG r)
section
variable {X:Cx}
instance rEqD(K:W.Frag)(x:V)(y:V)(H:Hp)(Q:VK):∀d e,Rep K H x d->Rep K H y e->SeqAt.shaped d=true->SeqAt.shaped e=true->Q (.bl (PyData.eqv d e)) H:=0
instance rNeD(K:W.Frag)(x:V)(y:V)(H:Hp)(Q:VK):∀d e,Rep K H x d->Rep K H y e->SeqAt.shaped d=true->SeqAt.shaped e=true->Q (.bl (!PyData.eqv d e)) H:=0
def kt(hu:X.A.units+64<cLine):OpR X (compareOp .Eq) (rEqD X.K):=by
 exists 4,x,y,v,u,Q,I,rx,ry,h;erw[d,e,hd,he,sd,se,q]at h;let%[as|r1]:=Rep.reads I hd rx;let%[bs|r2]:=Rep.reads I he ry;exact eq_dataH r1 r2 sd se hu %[.bl _,H,I,1|q]
def vJ(hu:X.A.units+64<cLine):OpR X (compareOp .NotEq) (rNeD X.K):=by
 exists 4,x,y,v,u,Q,I,rx,ry,h;erw[d,e,hd,he,sd,se,q]at h;let%[as|r1]:=Rep.reads I hd rx;let%[bs|r2]:=Rep.reads I he ry;exact ne_dataH r1 r2 sd se hu %[.bl _,H,I,1|q]
instance rCatT0(K:W.Frag)(x:V)(y:V)(H:Hp)(Q:VK):∀a b ys,x=.ref a->y=.ref b->SqT K H a []->SqT K H b ys->Q (.ref b) H:=0
def kW:OpR X (binaryOp .Add) (rCatT0 X.K):=by
 exists 4,x,y,v,u,Q,I,rx,ry,h;erw[a,b,ys,1,1,ha,hb,q]at h;cases rx;cases ry;let%[its,r1,p1|_]:=I.tuple ha;let%[its2,r2,p2|_]:=I.tuple hb;let%[%[cls,dd,data|sl],ho,hc,n|hd]:=id p1;let%[%[cls2,dd2,data2|sl2],ho2,hc2,n2|hd2]:=id p2;simp only at hc hd hc2 hd2;subst hc hd hc2 hd2;let e:its=[]:=r1.nil_iff.mpr rfl;exact concat_meets %[_,ho|1] ⟨_,ho2,rfl⟩ wN1 seq_tuple_add jL1 jK0 (jH0 _ _)
  (tuple_addW0 a b its.toArray its2.toArray n n2 dd dd2 sl sl2 (by simp [e])) %[ho,ho2|%[.ref b,H,I,1|q]]
end
def Nx(n i:Nat)(Pv:Nat->Hp->Prop)(H:Hp):Prop:=∃m',m'<n-i/\(m'=n-(i+1)/\i+1<=n/\Pv (i+1) H)
def Nx.of{n i:Nat}{Pv:Nat->Hp->Prop}{H:Hp}(h:i<n)(p:Pv (i+1) H):Nx n i Pv H:=%[n-(i+1),3,1,h|p]
def dN{K:W.Frag}{xs:List V}{tb:TBl}{Q:VK}(Pv:Nat->Hp->Prop)(h0:Pv 0 (upd H D (.lst [])))(hl:∀i H,i<=xs.length->Pv i H->SqT K H a xs)
 (hs:∀i x H,xs[i]?=some x->Pv i H->tb (some x::outs ix σ) H (Nx xs.length i Pv) λz H'=>∃ys,H' D=some (.lst ys)/\ys.length<sizeLine/\Nx xs.length i Pv (upd H' D (.lst (ys++[z]))))(hd:∀H,Pv xs.length H->Q (.ref D) H):
 mx (Itt K a) D ix tb σ H Q:=by
 erw[λi m H=>m=xs.length-i/\i<=xs.length/\Pv i H,%[xs.length,by simp,zQ0 _|h0],6];rintro i m H ⟨rfl,hi,p⟩;let q:=hl i H hi p
 by_cases JD:i<xs.length
 . refine .inr %[%[xs,xs[i],q|by simp [JD]]|λx H' y=>?_];erw[e,y]at y;subst e;exact hs i x _ (y xs q) p
 . let e:i=xs.length:=#[0]
   subst e;exact .inl %[%[xs,q|zH0 _]|hd H p]
def hZ{K:W.Frag}{xs:List V}{tb:TBl}{Q:VK}(Pv:Nat->Hp->Prop)(h0:Pv 0 (upd H D (.lst [])))(hl:∀i H,i<=xs.length->Pv i H->SqL K H a xs)
 (hs:∀i x H,xs[i]?=some x->Pv i H->tb (some x::outs ix σ) H (Nx xs.length i Pv) λz H'=>∃ys,H' D=some (.lst ys)/\ys.length<sizeLine/\Nx xs.length i Pv (upd H' D (.lst (ys++[z]))))(hd:∀H,Pv xs.length H->Q (.ref D) H):
 mx (Itl K a) D ix tb σ H Q:=by
 erw[λi m H=>m=xs.length-i/\i<=xs.length/\Pv i H,%[xs.length,by simp,zQ0 _|h0],6];rintro i m H ⟨rfl,hi,p⟩;let q:=hl i H hi p
 by_cases JD:i<xs.length
 . refine .inr %[%[xs,xs[i],q|by simp [JD]]|λx H' y=>?_];erw[e,y]at y;subst e;exact hs i x _ (y xs q) p
 . let e:i=xs.length:=#[0]
   subst e;exact .inl %[%[xs,q|zH0 _]|hd H p]
def dP{lo:Int}{n:Nat}{tb:TBl}{Q:VK}(Pv:Nat->Hp->Prop)(h0:Pv 0 (upd H D (.lst [])))
 (hs:∀i H,i<n->Pv i H->tb (some (.int (lo+i))::outs ix σ) H (Nx n i Pv) λz H'=>∃ys,H' D=some (.lst ys)/\ys.length<sizeLine/\Nx n i Pv (upd H' D (.lst (ys++[z]))))(hd:∀H,Pv n H->Q (.ref D) H):
 mx (Itr lo n) D ix tb σ H Q:=by
 erw[λi m H=>m=n-i/\i<=n/\Pv i H,%[n,by simp,zQ0 _|h0],6];rintro i m H ⟨rfl,hi,p⟩
 by_cases JD:i<n
 . refine .inr %[JD|λx H' y=>?_];erw[e,y]at y;subst e y;exact hs i _ JD p
 . let e:i=n:=#[0]
   subst e;exact .inl %[zH0 _|hd H p]
def CompScope.closed{X:Cx}{x:Str}{scope:Scope}(c1:closureFor scope X.env=pure [])(c2:∀y∈scope.names,y.2≠.cell)(c3:scope.kind=.function)(c4:∀y∈scope.names,y.2=.local->scope.names.lookup y.1=some .local)
 (c5:scope.names.lookup x=some .local)(c6:((relabel scope X.env).names.all λp=>!(p.2==.cell||p.2==.free)||((([]:List (Str×Addr))).lookup p.1).isSome)=true):CompScope X x [] [] scope [] where
 clos:=c1
 nocell:=c2
 kind:=c3
 names:=c4
 own:=c5
 nd:=by simp
 sub:=λp hp=>absurd hp #[2]
 has:=c6
 outs:=λj y h=>by simp at h
section
variable {X:Cx}
def zg(K:W.Frag)(hK:X.K=K:=by rfl):gC X (.builtin "len") (rLen K):=by subst hK;exact aF
def ux(K:W.Frag)(hK:X.K=K:=by rfl):IxR X (rIxL K):=by subst hK;exact ix_list
def wV(K:W.Frag)(hK:X.K=K:=by rfl):IxR X (rIxT K):=by subst hK;exact ix_tup
end
def Its(z:Str):It:=⟨λi _=>i<z.cps.size,λi H x H'=>H'=H/\∃c,z.cps[i]?=some c/\x=.str %[|#[c]],λi _=>z.cps.size<=i⟩
def oi{prog:Program}{w:World}{A:Around}(hh:A.handled=none)(I:Addr)(x:Str)(t:Tok):Walks prog w A I [I] [I] x.cps.size (SignAt x) (λi h=>h.IsStrIter I (strIterType x) x t i):=by
 unfold strIterType
 split
 . exact Walks.strAscii hh I x t
 . exact Walks.strWide hh I x t
def zt{K:W.Frag}{y:Str}{py:Pos}(z:Str)(t:Tok)(it:Addr):Turn P w K (.Name y py) (Its z) [it] it (λi h=>i<=z.cps.size/\h.IsStrIter it (strIterType z) z t i) where
 mem:=by simp
 obj:=λi h st b hb=>by
  let e:b=it:=#[hb,0]
  subst e;erw[_,o,e,c,d]at st;erw[o,e,λv z=>by rw[d]at z;cases z]
 keep:=λi h h' st k=>by
  erw[hi,o,e,r]at st;erw[hi,o,k it #[2] o e,r]
 item:=by
  exists 5;let%[f0,f1,f2,f3,f4|f5]:=hf it #[2];refine(oi (I.ok.hd hc) it z t).item i s _ E hg st.2 λv h' tk hP JE hk=>?_
  erw[c,u,hcx,1]at hP;let I1:#[8] H { s with heap:=h',toks:=tk }:=I.turned (λb o hb e=>hk b o #[hb,0] e) f0 f1 f3 f4 f5;erw[0,qQ1 (a:=()) rfl %[.str %[|#[c]],H,I1,%[|0],%[1,c,hcx|1],%[hg|JE]|λb hb=>(hf b hb).1]]
 done:=by
  exists 5;let%[f0,f1,f2,f3,f4|f5]:=hf it #[2];let e:i=z.cps.size:=Nat.le_antisymm st.1 hg;subst e;refine(oi (I.ok.hd hc) it z t).done s _ E st.2 λh' tk hk=>?_
  erw[1,I.turned (λb o hb e=>hk b o #[hb,0] e) f0 f1 f3 f4 f5]
 self:=λA i s Q E st h=>by
  erw[_,st]at st;unfold strIterType at st
  split at st
  . exact wpAny_pyIter_striter_ascii st h
  . exact wpAny_pyIter_striter_wide st h
section
variable {X:Cx}{y:Str}{py:Pos}
instance ZiStr(R:(It->Hp->Prop))(x:V)(H1:Hp):∀z,x=.str z->R (Its z) H1:=0
def iStr(tl:TE):TI:=λσ H R=>tl σ H λx H1=>ZiStr R x H1
def Ar(hl:PE X l tl):PI X (.Name y py) l (iStr tl):=by
 exists 4,R,I,h;apply thn (hl Jx s σ H _ I h) λv s1 ⟨x,H1,I1,r1,q1⟩=>?_
 erw[z,e,q]at q1;subst e;erw[t,1]at r1;apply wpAny_pyIter_strU ?_;erw[‹s1›,[‹s1›],_,_,H1,1,I1.kept (t':=s1.toks) λb o e=>zR0 _ e,zt z t _,%[zQ0 _,_,qA0 _ rfl,1|1],λb hb=>?_,q];let e:b=‹s1›:=#[hb,0]
 subst e;exact I1.fpOk (zH0 _) (I1.hok.fresh (zH0 _))
end
def pX{z:Str}{tb:TBl}{Q:VK}(Pv:Nat->Hp->Prop)(h0:Pv 0 (upd H D (.lst [])))
 (hs:∀i c H,z.cps[i]?=some c->Pv i H->tb (some (.str %[|#[c]])::outs ix σ) H (Nx z.cps.size i Pv) λu H'=>∃ys,H' D=some (.lst ys)/\ys.length<sizeLine/\Nx z.cps.size i Pv (upd H' D (.lst (ys++[u]))))(hd:∀H,Pv z.cps.size H->Q (.ref D) H):
 mx (Its z) D ix tb σ H Q:=by
 erw[λi m H=>m=z.cps.size-i/\i<=z.cps.size/\Pv i H,%[z.cps.size,by simp,zQ0 _|h0],6];rintro i m H ⟨rfl,hi,p⟩
 by_cases JD:i<z.cps.size
 . refine .inr %[JD|λx H' y=>?_];erw[e,c,hc,1]at y;subst e;exact hs i c _ hc p
 . let e:i=z.cps.size:=#[0]
   subst e;exact .inl %[zH0 _|hd H p]
section
variable {X:Cx}
instance rSlS(x:V)(lo:Option Int)(hi:Option Int)(H:Hp)(Q:VK):∀z,x=.str z->z.length<=sizeLine->Q (.str (Txt.slice z lo hi)) H:=0
def ve:SlR X rSlS:=by
 exists 4,x,v,vl,vu,lo,hi,sl,Q,I,rx,hs,pl,pu,h;erw[z,1,hz,q]at h;erw[t,1]at rx;erw["str",_,F.slot_str_getitem.lookup,jV0 _ _ _,6];let fin:∀t' k,EP X Jx σ Q (.str (Txt.slice z lo hi) t') { s with toks:=k }:=λt' k=>%[.str _,H,I.tok k,%[|0]|q]
 erw[o,ho,hc,hd]at hs;cases pl with
 |none=>
   cases pu with
   |none=>exact qW1 (l:=none) (u:=none) (st:=none) %[o,ho,hc|hd] rfl (jX0 ⟨zM0 (jO1 z _ _) hz,fin⟩)
   |int j u=>exact qW1 (l:=none) (u:=some (j,u)) (st:=none) %[o,ho,hc|hd] rfl (jX0 ⟨zM0 (jO1 z _ _) hz,fin⟩)
 |int i u'=>
   cases pu with
   |none=>exact qW1 (l:=some (i,u')) (u:=none) (st:=none) %[o,ho,hc|hd] rfl (jX0 ⟨zM0 (jO1 z _ _) hz,fin⟩)
   |int j u=>exact qW1 (l:=some (i,u')) (u:=some (j,u)) (st:=none) %[o,ho,hc|hd] rfl (jX0 ⟨zM0 (jO1 z _ _) hz,fin⟩)
instance rStarts(x:V)(vs:List V)(H:Hp)(Q:VK):∀z u,x=.str z->vs=[.str u]->Q (.bl (Txt.startswith z u)) H:=0
def qx:MtR X "str.startswith" rStarts:=by
 exists 4,x,vs,v,us,Q,I,rx,rv,h;erw[z,u,1,1,q]at h;erw[t,1]at rx;erw[w',1,t',1]at rv.one;exact SC.startswith %[.bl _,H,I,1|q]
def ou:∀{zs:List Str}{us:List Value},Vals (zs.map V.str) us->StrsAre us zs
 | [],_,.nil=>.nil
 |_::_,_,.cons ⟨t,e⟩ r=>by subst e;exact .cons _ t (ou r)
instance rJoin(K:W.Frag)(x:V)(vs:List V)(H:Hp)(Q:VK):∀z a ys,x=.str z->vs=[.ref a]->SqL K H a (ys.map V.str)->z.length<=16->(ys.map (·.length)).sum+ys.length<=1048576->Q (.str (Txt.join z ys)) H:=0
def sO:MtR X "str.join" (rJoin X.K):=by
 exists 4,x,vs,v,us,Q,I,rx,rv,h;erw[z,a,ys,1,1,hq,hz,hw,q]at h;erw[t,1]at rx;erw[w',1,ra]at rv.one;cases ra;let%[its,r',p|_]:=I.list hq;exact join_listW p.isList #[ou r',0] hz hw λt' k=>%[.str _,H,I.tok k,%[|0]|q]
instance rAll(K:W.Frag)(xs:List V)(H:Hp)(Q:VK):∀(a:Addr)(bs:List Bool),xs=[.ref a]->SqL K H a (bs.map V.bl)->Q (.bl (bs.all id)) H:=0
def qZ:∀{bs:List Bool}{us:List Value}{i:Nat}{v:Value},Vals (bs.map V.bl) us->us[i]?=some v->∃b,bs[i]?=some b/\v=.bool b
 | [],_,_,_,.nil,h=>by simp at h
 |b::_,_,0,_,.cons r _,h=>by
   simp at h
   subst h;erw[b,1,r]
 |_::_,_,i+1,_,.cons _ t,h=>by
   let%[b,h1|h2]:=qZ (i:=i) t #[h,0];erw[b,by simpa using h1,h2]
def lx(hc:X.calm=true):gC X (.builtin "all") (rAll X.K):=by
 exists 4,xs,us,Q,I,r,h;erw[a,bs,1,hq,q]at h;let%[u,1|ru]:=kx r;cases ru;let%[its,r',p|hz]:=I.list hq;let hl:=r'.length;rw[zF0]at hl;let JD:a<‹s›:=by erw[o,n,e,_]at p;exact zO0 e
 apply call_all_walk (jD1 p.isList ?_);erw[‹s›,_,_,_,_,_,λi=>bs[i]?.getD true,1,Walks.list (A:=X.A.in1) (I.ok.hd hc) ‹s› a (qB0 JD) its.toArray,%[%[_,qA0 _ rfl,1|1]|p.isList.push _],6,6]
 . intro i v s' Q' E' hP hQ;let%[b,hb|1]:=qZ r' (i:=i) (v:=v) #[hP,0];let hQ':Q' b s':=by simpa [hb]using hQ
   exact zV1 hQ'
 . intro h' tk hk;let e:(List.range its.toArray.size).all (λi=>bs[i]?.getD true)=bs.all id:=by
    rw[zN0,←hl];rw[jJ1,jG1,jG1]
    constructor
    . intro h b hb;let%[i,hi|e]:=List.getElem_of_mem hb
      have:=h i (List.mem_range.mpr hi)
      rw[zS0 hi]at this
      simpa [e]using this
    . intro h i hi;let hi':=List.mem_range.mp hi;rw[zS0 hi'];exact h _ (qO0 hi')
   rw[e];erw[.bl _,H,6,1,q];let I1:#[8] H { s with heap:=s.heap.push { cls:=.type "list_iterator",data:=.fields #[.ref a,.int 0 0] } }:=I.kept (t':=s.toks) λb o e=>zR0 _ e
   apply I1.turnedL (t':=tk) (ch:=[‹s›]) (λb o hb e=>hk b o #[hb,0] e) λb hb=>?_
   rw[zP0 hb];exact I.fpOk (zH0 _) (I.hok.fresh (zH0 _))
end
def CJ{X:Cx}{p pos:Pos}(C:Cal X.prog X.w X.K X.mg X.base n x [] sp)(hr:Room k X.A)(hk:n<=k)(hg:Gl X x)(hdb:(x==("__debug__":Str))=false:=by decide):
 PE X (.Call (.Name x p) [] [] pos) (tF sp [] E0 va):=by
 erw[f,fd,F,b,kp,m]at C.ex;exact Ay F (hr.mono hk) hg m kp b .nil bh hdb
inductive Consts:List Expr->List Str->Prop
 |nil:Consts [] []
 |cons {x:Str} {j:Nat} {pos:Pos} {es:List Expr} {zs:List Str}:Consts es zs->Consts (.Constant (.str x) j pos::es) (x::zs)
def jB:∀{es:List Expr}{zs:List Str},Consts es zs->PA X es (λ_ H Q=>Q (zs.map V.str) H)
 |_,_,.nil=>aQ
 |_,_,.cons h=>λpos Jx s σ H Q I q=>ae aB (jB h) (by rfl) pos Jx s σ H Q I q
def CompScope.one{X:Cx}{x y:Str}{scope:Scope}{k:Nat}{c:Addr}(c1:closureFor scope X.env=pure [(y,c)])(c2:∀y∈scope.names,y.2≠.cell)(c3:scope.kind=.function)(c4:∀y∈scope.names,y.2=.local->scope.names.lookup y.1=some .local)
 (c5:scope.names.lookup x=some .local)(nd:[x,y].Nodup)(hc:X.env.cells.lookup y=some c)(c6:((relabel scope X.env).names.all λp=>!(p.2==.cell||p.2==.free)||(([(y,c)]:List (Str×Addr)).lookup p.1).isSome)=true)
 (hr:(relabel scope X.env).names.lookup y=some .cell)(hk:X.N[k]?=some y)(hs:X.env.scope.names.lookup y=some .cell):CompScope X x [y] [k] scope [(y,c)] where
 clos:=c1
 nocell:=c2
 kind:=c3
 names:=c4
 own:=c5
 nd:=nd
 sub:=λp hp=>by
  rw[zP0 hp];exact hc
 has:=c6
 outs:=λj z h=>by
  cases j with
  |zero=>
    let e:y=z:=zT0 h;subst e;erw[hr,k,c,1,hk,by simp [List.lookup],hs]
  |succ j=>simp at h
def CompScope.two{X:Cx}{x y z:Str}{scope:Scope}{k l:Nat}{c d:Addr}{cl:List (Str×Addr)}(c1:closureFor scope X.env=pure cl)(c2:∀y∈scope.names,y.2≠.cell)(c3:scope.kind=.function)(c4:∀y∈scope.names,y.2=.local->scope.names.lookup y.1=some .local)
 (c5:scope.names.lookup x=some .local)(nd:[x,y,z].Nodup)(hcl:cl=[(z,d),(y,c)]∨cl=[(y,c),(z,d)])(hc:X.env.cells.lookup y=some c)(hd:X.env.cells.lookup z=some d)(c6:((relabel scope X.env).names.all λp=>!(p.2==.cell||p.2==.free)||(cl.lookup p.1).isSome)=true)
 (hr:(relabel scope X.env).names.lookup y=some .cell)(hk:X.N[k]?=some y)(hs:X.env.scope.names.lookup y=some .cell)
 (hr2:(relabel scope X.env).names.lookup z=some .cell)(hk2:X.N[l]?=some z)(hs2:X.env.scope.names.lookup z=some .cell):CompScope X x [y,z] [k,l] scope cl where
 clos:=c1
 nocell:=c2
 kind:=c3
 names:=c4
 own:=c5
 nd:=nd
 sub:=λp hp=>by
  rcases hcl with rfl | rfl
  all_goals
   rcases zV0 hp with e | e
   . rw[e];assumption
   . rw[zP0 e];assumption
 has:=c6
 outs:=λj w h=>by
  let nyz:y≠z:=λe=>by simp [e]at nd
  match j,h with
  |0,h=>
    let e:y=w:=zT0 h;subst e;erw[hr,k,c,1,hk,6,hs];rcases hcl with rfl | rfl
    . have:(y==z)=false:=#[nyz,0]
      simp [List.lookup,this]
    . simp [List.lookup]
  |1,h=>
    let e:z=w:=zT0 h;subst e;erw[hr2,l,d,1,hk2,6,hs2];rcases hcl with rfl | rfl
    . simp [List.lookup]
    . have:(z==y)=false:=#[Ne.symm nyz,0]
      simp [List.lookup,this]
  |j+2,h=>simp at h
end L2
namespace Mine
open PySem L2
def qf(x:Str):Prop:=x.length<=20/\(∀c∈x.cps.toList,97<=c/\c<=122)/\x≠"aa"
def jC{x:Str}{l u:Option Int}{c:Nat}(h:c∈(Txt.slice x l u).cps.toList):c∈x.cps.toList:=by
 let e:Txt.slice x l u=StrLaws.sliceText x l u:=rfl;rw[e]at h;unfold StrLaws.sliceText at h
 split at h
 . exact h
 . let%[i,_|hi]:=List.mem_filterMap.mp (show c∈(List.filterMap _ _) by simpa using h)
   have:=Array.mem_of_getElem? hi
   simpa using this
def mem_append{x y:Str}{c:Nat}(h:c∈(x++y).cps.toList):c∈x.cps.toList∨c∈y.cps.toList:=by
 let e:(x++y).cps.toList=x.cps.toList++y.cps.toList:=by simp [qX0]
 rw[e]at h;exact qJ0 h
def yB{zs:List Str}{c:Nat}(h:c∈(Txt.join "" zs).cps.toList):∃z∈zs,c∈z.cps.toList:=by
 let e:Txt.join "" zs=Str.join "" zs:=by
  cases zs with
  |nil=>rfl
  |cons a r=>exact StrLaws.glued_cons "" r a
 rw[e]at h;rcases(PyProof.Rows.mem_join "" c zs).mp h with h | ⟨_,h⟩
 . exact h
 . let e0:(("":Str)).cps.toList=[]:=by decide
   rw[e0]at h;cases h
inductive Tr where
 |is (x:Str) | yes | no | not (a:Tr) | bin (w:Str) (a b:Tr)
def Tr.size:Tr->Nat
 |.is _=>1 | .yes=>1 | .no=>1 | .not a=>a.size+1 | .bin _ a b=>a.size+b.size+1
def Tr.depth:Tr->Nat
 |.is _=>1 | .yes=>1 | .no=>1 | .not a=>a.depth+1 | .bin _ a b=>max a.depth b.depth+1
def Tr.names:Tr->List Str
 |.is x=>[x] | .yes=>[] | .no=>[] | .not a=>a.names | .bin _ a b=>a.names++b.names
def joinW:List Str:=["and","or","odd","same"]
def Tr.ok(ns:List Str):Tr->Prop
 |.is x=>x∈ns | .yes=>True | .no=>True | .not a=>a.ok ns | .bin w a b=>w∈joinW/\a.ok ns/\b.ok ns
inductive TreeAt(H:Hp):V->Tr->Prop
 |is {a:Addr} {x:Str}:H a=some (.tup [.str "is",.str x])->TreeAt H (.ref a) (.is x)
 |yes {a:Addr}:H a=some (.tup [.str "yes"])->TreeAt H (.ref a) .yes
 |no {a:Addr}:H a=some (.tup [.str "no"])->TreeAt H (.ref a) .no
 |not {a:Addr} {v:V} {t:Tr}:H a=some (.tup [.str "not",v])->TreeAt H v t->TreeAt H (.ref a) (.not t)
 |bin {a:Addr} {w:Str} {v u:V} {t r:Tr}:H a=some (.tup [.str w,v,u])->TreeAt H v t->TreeAt H u r->TreeAt H (.ref a) (.bin w t r)
abbrev bN(H H':Hp):Prop:=∀a xs,H a=some (.tup xs)->H' a=some (.tup xs)
def TreeAt.mono(k:bN H H')(h:TreeAt H v t):TreeAt H' v t:=by
 induction h with
 |is e=>exact .is (k _ _ e)
 |yes e=>exact .yes (k _ _ e)
 |no e=>exact .no (k _ _ e)
 |not e _ ih=>exact .not (k _ _ e) ih
 |bin e _ _ i1 i2=>exact .bin (k _ _ e) i1 i2
def bd(s:Same H H'):bN H H':=λa _ h=>s a _ h
def aZ(F:FeedAt H f)(s:SameBut f H H'):bN H H':=λa xs h=>s a _ (λz=>by
 erw[o,t,e,_]at F;rw[z,e]at h;cases h) h
def NamesAt(H:Hp)(a:Addr)(ns:List Str):Prop:=H a=some (.lst (ns.map V.str))∨H a=some (.tup (ns.map V.str))
def NamesAt.ne(F:FeedAt H f)(h:NamesAt H a ns):a≠f:=λz=>by
 erw[o,t,e,_]at F;subst z;rcases h with h | h
 . rw [e]at h;let h':=HO.lst.inj (zT0 h);cases ns with
   |nil=>cases h'
   |cons x r=>simp at h'
 . rw[e]at h;cases h
def NamesAt.feed(F:FeedAt H f)(s:SameBut f H H')(h:NamesAt H a ns):NamesAt H' a ns:=by
 let ne:=h.ne F;rcases h with h | h
 . exact .inl (s _ _ ne h)
 . exact .inr (s _ _ ne h)
def NamesAt.same(s:Same H H')(h:NamesAt H a ns):NamesAt H' a ns:=by
 rcases h with h | h
 . exact .inl (s _ _ h)
 . exact .inr (s _ _ h)
def NamesAt.seq{K:W.Frag}(h:NamesAt H a ns):SqL K H a (ns.map V.str)∨SqT K H a (ns.map V.str):=by
 rcases h with h | h
 . exact .inl (zG0 h)
 . exact .inr (zB0 h)
def NamesAt.ix{K:W.Frag}{x:V}{Q:VK}(h:NamesAt H a ns)(hx:atI (ns.map V.str) i=some x)(q:Q x H):rIxL K (.ref a) (.int i) H Q∨rIxT K (.ref a) (.int i) H Q:=by
 rcases h with h | h
 . exact .inl %[a,_,i,x,1,1,zG0 h,hx|q]
 . exact .inr %[a,_,i,x,1,1,zB0 h,hx|q]
instance spTree(n:Nat):∀(f a:Addr)(room deep:Int)(ns:List Str),vs=[.ref f,.ref a,.int room,.int deep]->FeedAt H f->NamesAt H a ns->ns.length<=6->1<=room->room<=100->1<=deep->deep+1<=(n:Int)+1->(∀(v:V)(t:Tr)(H':Hp),FeedAt H' f->SameBut f H H'->TreeAt H' v t->t.ok ns->(t.size:Int)<=room->(t.depth:Int)<=deep->Q v H'):=1
def ly{α:Type}{l:List α}{i:Int}(h0:0<=i)(h:i<(l.length:Int)):∃v,atI l i=some v/\v∈l:=by
 let hk:i.toNat<l.length:=#[0]
 let q:atI l ((i.toNat:Nat):Int)=some l[i.toNat]:=bw (zS0 hk);let ek:((i.toNat:Nat):Int)=i:=#[0]
 rw[ek]at q;erw[_,q,qO0 hk]
end Mine
namespace L2
open PySem PySem.Spec PyProof.Rows
section
variable {X:Cx}
def si(lo:Int)(n:Nat):List Int:=(List.range n).map λi:Nat=>lo+(i:Int)
def Af(lo:Int)(n:Nat):(si lo n).length=n:=by unfold si;rw[zF0,qT0]
def xW{lo:Int}{n:Nat}{acc:List Value}(h:ItemsOf (λi v=>∃t,v=Value.int (lo+(i:Int)*1) t) acc.toArray n):Vals ((si lo n).map V.int) acc:=by
 erw[h1,h2]at h;let l1:acc.length=n:=#[h1,0]
 let key:∀(k:Nat)(l:List Value),(∀i v,l[i]?=some v->∃t,v=Value.int (lo+((k+i:Nat):Int)) t)->Vals (((List.range' k l.length).map λi:Nat=>lo+(i:Int)).map V.int) l:=by
  intro k l
  induction l generalizing k with
  |nil=>intro _;exact .nil
  |cons a r ih=>
    intro h;let%[t|e]:=h 0 a rfl;rw[zU0,List.range'_succ,zZ0,zZ0];refine .cons %[t|by simpa using e] (ih (k+1) λi v hv=>?_);let%[t|e]:=h (i+1) v #[hv,0];erw[t,by rw[e];congr 2;omega]
 have:=key 0 acc λi v hv=>by
  let%[t|e]:=h2 i v #[hv,0];erw[t,by simpa using e]
 unfold si;rw[←l1,List.range_eq_range'];exact this
instance ZtListRng(Q:VK)(vs:(List V))(H1:Hp):∀i j:Int,vs=[.int i,.int j]->-(2 ^ 62)<=i/\i<2 ^ 62/\-(2 ^ 62)<=j/\j<2 ^ 62->j-i<=1000->(∀p,H1 p=none->Q (.ref p) (upd H1 p (.lst ((si i (j-i).toNat).map V.int)))):=0
def zC(ta:TA):TE:=λσ H Q=>ta σ H λvs H1=>ZtListRng Q vs H1
def vI{a b:Expr}{p1 p2 pos1 pos2:Pos}(hc:X.calm=true)(hg1:Gl X "list")(hm1:X.mg "list"=none)(hg2:Gl X "range")(hm2:X.mg "range"=none)(ha:PA X [a,b] ta)
 (hs1:starEach [(.Call (.Name "range" p2) [a,b] [] pos2:Expr)] X.env=[(false,eval (.Call (.Name "range" p2) [a,b] [] pos2) X.env)]:=by rfl)(hs:starEach [a,b] X.env=[(false,eval a X.env),(false,eval b X.env)]:=by rfl)(hs2:starEach [b] X.env=[(false,eval b X.env)]:=by rfl):
 PE X (.Call (.Name "list" p1) [.Call (.Name "range" p2) [a,b] [] pos2] [] pos1) (zC ta):=by
 exists 4,Q,I,h;apply qK1 (gR I hg1 hm1 qb ?_);apply zN1 ?_ hs1 rfl;rw[hs1];show wpAny _ _ (spliced ((false,eval (.Call (.Name "range" p2) [a,b] [] pos2) X.env)::backTo pos1 (starEach [] X.env))) _ _ s;let step:‹X.w› (eval (.Call (.Name "range" p2) [a,b] [] pos2) X.env) (λv s1=>∃(r:Addr) (i j:Int) (t u k:Tok) (H1:Hp),v=.ref r/\#[8] H1 s1/\IsRange s1.heap r i j 1 t u k/\(-(2 ^ 62)<=i/\i<2 ^ 62/\-(2 ^ 62)<=j/\j<2 ^ 62)/\j-i<=1000/\
  ∀p,H1 p=none->Q (.ref p) (upd H1 p (.lst ((si i (j-i).toNat).map V.int)))) X.xe s:=by
  apply Call_ (gR I hg2 hm2 boot_range (zN1 (thn (ha pos2 Jx s σ H _ I h) λus s1 ⟨vs,H1,I1,r1,q1⟩=>?_) (by rw[hs,hs2]) (by rw[hs2];rfl)));erw[i,j,e,q1,q2,q]at q1;subst e;cases r1 with
  |cons r rr=>
    cases rr with
    |cons r' rr=>
      cases rr;erw[t,1]at r;erw[t',1]at r';apply call_range_2 %[_,i,j,_,_,_,H1,1,I1.kept λb o e=>zR0 _ e,IsRange.new ..,q1,q2|q]
 apply qJ1 (thn step λv s1 hv=>?_);erw[r,i,j,t,u,k,H1,1,I1,hr,%[a1,a2,a3|a4],hle,q]at hv;apply qT1 ?_;let e2:Builtin.Range.rangeSize i j 1=(((j-i).toNat:Nat):Int):=by rw[rangeSize_one];split <;> omega
 apply call_list_range (I1.ok.hd hc) hr (small_one a1 a2 a3 a4) e2 #[0] λh' tk acc' c' hk hS hacc=>?_
 obtain⟨acc,rfl⟩:∃acc:List Value,acc'=acc.toArray:=%[acc'.toList|by simp]
 let rr:=xW hacc;let I2:#[8] (upd H1 ‹s1› (.lst ((si i (j-i).toNat).map V.int))) { s1 with heap:=h',toks:=tk }:=by
  apply I1.turnedNew (ch:=[]) (λb ob _ eb=>hk b ob eb) (λb hb=>absurd hb #[2]) (zH0 _) %[6,acc,c',rr|hS];rw[zF0,Af];exact cg #[0]
 erw[.ref ‹s1›,_,I2,1,q _ (I1.hok.fresh (zH0 _))]
instance rSum(K:W.Frag)(xs:List V)(H:Hp)(Q:VK):∀(a:Addr)(ns:List Int),xs=[.ref a]->SqL K H a (ns.map V.int)->(∀n∈ns,0<=n)->ns.sum<2 ^ 63->Q (.int ns.sum) H:=0
def pQ:∀{bs:List Int}{us:List Value}{i:Nat}{v:Value},Vals (bs.map V.int) us->us[i]?=some v->∃b t,bs[i]?=some b/\v=.int b t
 | [],_,_,_,.nil,h=>by simp at h
 |b::_,_,0,_,.cons r _,h=>by
   simp at h
   subst h;erw[t,e]at r;erw[b,t,1,e]
 |_::_,_,i+1,_,.cons _ t,h=>by
   let%[b,t,h1|h2]:=pQ (i:=i) t #[h,0];erw[b,t,by simpa using h1,h2]
def mz{ns:List Int}(h:∀n∈ns,0<=n)(j:Nat):0<=(ns.take j).sum/\(ns.take j).sum<=ns.sum:=by
 induction ns generalizing j with
 |nil=>simp
 |cons a r ih=>
   cases j with
   |zero=>
     have:=ih (λn hn=>h n (qK0 _ hn)) r.length
     rw[qF0]at this;let a0:=h a zW0;simp only[List.take_zero,List.sum_nil,qI1];omega
   |succ j=>
     have:=ih (λn hn=>h n (qK0 _ hn)) j
     let a0:=h a zW0;simp only[List.take_succ_cons,qI1];omega
def mL(ns:List Int)(j:Nat):preSum (λi=>ns[i]?.getD 0) j=(ns.take j).sum:=by
 induction j with
 |zero=>simp;rfl
 |succ j ih=>
   show preSum (λi=>ns[i]?.getD 0) j+(λi=>ns[i]?.getD 0) j=_;rw[ih,qH0,List.sum_append];cases e:ns[j]? with
   |none=>simp [e]
   |some x=>simp [e]
def pY(hc:X.calm=true):gC X (.builtin "sum") (rSum X.K):=by
 exists 4,xs,us,Q,I,r,h;erw[a,ns,1,hq,n0,nb,q]at h;let%[u,1|ru]:=kx r;cases ru;let%[its,r',p|hz]:=I.list hq;let hl:=r'.length;rw[zF0]at hl;let JD:a<‹s›:=by erw[o,n,e,_]at p;exact zO0 e
 apply call_sum_walk (jD1 p.isList ?_);erw[‹s›,_,_,_,_,_,λi=>ns[i]?.getD 0,1,Walks.list (A:=X.A.in1) (I.ok.hd hc) ‹s› a (qB0 JD) its.toArray,%[%[_,qA0 _ rfl,1|1]|p.isList.push _],6,6,6,6]
 . intro b hb;let hpz:∀o:Obj,(s.heap.push o).objs.size=‹s›+1:=λo=>by simp [Heap.push]
   show b<(s.heap.push _).objs.size;rw[hpz];rcases zV0 hb with e | e
   . rw[e];exact qM1 _
   . rw[zP0 e];exact wJ0 JD
 . intro i v hP;let%[b,t,hb|1]:=pQ r' (i:=i) (v:=v) #[hP,0];erw[t,by simp [hb]]
 . intro j hj;let hj':j<ns.length:=by rw[hl];simpa using hj
   let s1:=mz n0 (j+1);rw[mL];erw[6,by unfold InLong;omega];let s2:=mz n0 j;let e:(ns.take (j+1)).sum=(ns.take j).sum+ns[j]:=by rw[qH0,List.sum_append,zS0 hj'];simp
   let n1:=n0 _ (qO0 hj');show InLong (ns[j]?.getD 0);rw[zS0 hj'];show InLong ns[j];unfold InLong;omega
 . intro h' tk t' hk;rw[mL,zN0,←hl,qF0];erw[.int _,H,6,%[|0],q];let I1:#[8] H { s with heap:=s.heap.push { cls:=.type "list_iterator",data:=.fields #[.ref a,.int 0 0] } }:=I.kept (t':=s.toks) λb o e=>zR0 _ e
   apply I1.turnedL (t':=tk) (ch:=[‹s›]) (λb o hb e=>hk b o #[hb,0] e) λb hb=>?_
   rw[zP0 hb];exact I.fpOk (zH0 _) (I.hok.fresh (zH0 _))
end
def wN:Slot "reversed" "__iter__" "reversed.__iter__":=Slot.of (owner:="reversed") (n:="__iter__") (by rw[jX1,jA0];kernel_rfl) ⋯ ⋯ ⋯ (by first | exact .inl ⋯ | exact .inr ⋯) (by rw[wH1];kernel_rfl) ⋯
def rv_next:Slot "reversed" "__next__" "reversed.__next__":=Slot.of (owner:="reversed") (n:="__next__") (by rw[jX1,jA0];kernel_rfl) ⋯ ⋯ ⋯ (by first | exact .inl ⋯ | exact .inr ⋯) (by rw[wH1];kernel_rfl) ⋯
def zw:typeLookup (.type "tuple") "__reversed__"=pure none:=by rw[jX1,jA0];kernel_rfl
def xU:entryFor table "reversed.__iter__"=some Builtin.«dict_keyiterator.__iter__»:=entryFor_alias (by kernel_rfl) rfl (show _="dict_keyiterator.__iter__" by decide) (by kernel_rfl)
def qI:entryFor table "reversed.__next__"=some Builtin.«reversed.__next__»:=entryFor_of_tree (by kernel_rfl)
def RevT(h:Heap)(it t:Addr)(i:Int):Prop:=h.get? it=some { cls:=.type "reversed",data:=.fields #[.ref t,rawInt i] }
section
variable {prog:Program}{w:World}{A:Around}{E:#[6]}{s:Shared}{R:Result->Shared->Prop}{it t:Addr}
def RevT.typeIs(h:RevT s.heap it t i):s.TypeIs (.ref it) "reversed":=%[_,h|1]
def qR{Q:#[6]}(h:RevT s.heap it t i)(q:Q (.ref it) s):‹w.A› (pyIter (.ref it)) Q E s:=
 wpAny_pyIter_slot h.typeIs wN (qD1 wN h.typeIs xU (zI0 %[0,"reversed",_,h.typeIs,rv_next.lookup|q]) (by rfl))
def pH{i:Nat}{items:Array Value}{x:Value}{Q:Option Value->Shared->Prop}(h:RevT s.heap it t (i:Int))(ht:IsTup s.heap t items)(hx:items[i]?=some x)(hi:(i:Int)<2 ^ 63)
 (q:∀h' tk,RevT h' it t ((i:Int)-1)->Heap.SameBut it s.heap h'->Q (some x) { s with heap:=h',toks:=tk }):‹w.A› (pyNext (.ref it)) Q E s:=by
 let hT:=h.typeIs;let hs:i<items.size:=(Array.getElem?_eq_some_iff.mp hx).1;unfold pyNext;apply zD0 (wL1 (zP1 hT rv_next (qD1 rv_next hT qI ?_ (by rfl))));unfold Builtin.«reversed.__next__»;apply zD0 (qQ1 (show slotArgs "__next__" 0 %[[.ref it]|[]]=pure (.ref it,[])from rfl) ?_);apply zD0 (zY1 h rfl rfl ?_);apply zD0 (zY1 h rfl rfl ?_);apply zX1 (λhab=>absurd hab #[0]) (λ_=>?_);apply zD0 (jY0 (show s.TypeIs (.ref t) "tuple" from ht.typeIs) PyProof.Rows.slot_tuple_getitem.lookup ?_);apply zX1 (λhab=>absurd hab #[2]) (λ_=>?_);apply zD0 (wpAny_mkInt ?_);let e1:seqIndex? (i:Int) items.size=some i:=(sS (by unfold ixN;rw[JB #[0],JB #[0]];simp)).1;apply zD0 (wL1 (PyProof.Rows.getItem_tuple (items:=items) (x:=x) ht #[0] hi e1 hx ?_));apply zD0 (zY1 h rfl rfl ?_);apply zD0 (wD1 h #[2] λh' e hb=>?_);apply zI0 %[0|zI0 (q h' _ ?_ hb)];exact e
def y0S:0<=sizeLine:=⋯
def y1S:1<=sizeLine:=⋯
def y2S:2<=sizeLine:=⋯
def y3S:3<=sizeLine:=⋯
def y4S:4<=sizeLine:=⋯
def y5S:5<=sizeLine:=⋯
def y6S:6<=sizeLine:=⋯
def y12S:12<=sizeLine:=⋯
def y18S:18<=sizeLine:=⋯
def y24S:24<=sizeLine:=⋯
def qw{Q:Option Value->Shared->Prop}(hh:A.handled=none)(h:RevT s.heap it t (-1))
 (q:∀h' tk,Heap.ExtBut it s.heap h'->Q none { s with heap:=h',toks:=tk }):‹w.A› (pyNext (.ref it)) Q E s:=by
 let hT:=h.typeIs;unfold pyNext;apply zD0 (wL1 (zP1 hT rv_next (qD1 rv_next hT qI ?_ (by rfl))));unfold Builtin.«reversed.__next__»;apply zD0 (qQ1 (show slotArgs "__next__" 0 %[[.ref it]|[]]=pure (.ref it,[])from rfl) ?_);apply zD0 (zY1 h rfl rfl ?_);apply zD0 (zY1 h rfl rfl ?_);apply zX1 (λ_=>?_) (λhab=>absurd ⋯ hab);apply zD0 (wS0 ?_);apply zD0 ?_;show wpAny _ _ (setField (.ref it) 1 (rawInt (-1)) >>= λ_=>setField (.ref it) 0 Value.none) _ _ _;apply zD0 (wD1 h #[2] λh1 e1 b1=>?_);apply wD1 e1 #[2] λh2 e2 b2=>?_
 apply zD0 ?_;unfold Builtin.SmallTypes.stopIteration newExc newTuple;apply zD0 (zD0 (zQ1 ?_ y0S));apply zD0 (qQ1 (show firstArgMember (.type "StopIteration") []=pure .none by rfl') ?_);apply zQ1 ?_ (sizeOk_excFields ..);apply wpAny_raiseNew_none hh ?_;apply zD0 (wO0 (T:="StopIteration") %[_,qA0 _ rfl|1] isSubtype_stop ?_);apply zX1 (λ_=>?_) (λhab=>absurd rfl hab);apply zI0 (q _ _ ?_);exact(b1.extBut.trans b2.extBut).trans λb o hb e=>zR0 _ (zR0 _ e)
def Cy:Slot "reversed" "__init__" "object.__init__":=Slot.of (owner:="object") (n:="__init__") (by rw[jX1,jA0];kernel_rfl) ⋯ ⋯ ⋯ (by first | exact .inl ⋯ | exact .inr ⋯) (by rw[wH1];kernel_rfl) ⋯
def xV:TypeCalled "reversed" "reversed.__new__" "object.__init__":=%[4,F.create_reversed,%[_,_|F.mro_reversed],F.made_reversed,F.plain_reversed_new,F.sub_reversed_self|Cy]
def xD:isSubtype (.type "tuple") (.type "dict")=pure false:=by rw[wH1];kernel_rfl
def lu{items:Array Value}{Q:#[6]}(ht:IsTup s.heap t items)(hz:items.size<=sizeLine)
 (q:∀tk,Q (.ref ‹s›) { s with heap:=s.heap.push { cls:=.type "reversed",data:=.fields #[.ref t,rawInt ((items.size:Int)-1)] },toks:=tk }):‹w.A› (call (.type "reversed") [.ref t]) Q E s:=by
 let h63:=iC;apply callType_newIn xV ⋯ (F.typeCall_reversed_1 _) (F.newCall_reversed_1 _) (λ_=>by rfl) F.entry_reversed_new
  (S:=λA R s=>wpAny (model prog w) A.in1 (Builtin.«reversed.__new__» %[[.type "reversed",.ref t]|[]]) (λfin s'=>match fin with | .done f=>R (.ok f) s' | .again c'=>c'.quiet=true/\codeAny (model prog w) A c' R s') (λe s'=>R (.error e) s') s) (λA R s h=>h) ?_
 unfold Builtin.«reversed.__new__»;apply zD0 (qQ1 (newClass_reversed _) ?_);apply zD0 (qQ1 (a:=()) rfl ?_);apply zD0 (qQ1 (a:=()) rfl ?_);apply zD0 (jY0 ht.typeIs zw ?_);apply zD0 ?_;apply zD0 (wO0 ht.typeIs xD ?_);apply zX1 (λhab=>absurd hab ⋯) (λ_=>?_);apply zD0 (jY0 ht.typeIs PyProof.Rows.slot_tuple_getitem.lookup ?_);apply zX1 (λ_=>?_) (λhab=>absurd ⋯ hab);apply zI0 ?_;apply zX1 (λhab=>absurd hab ⋯) (λ_=>?_);apply zD0 (len_tuple ht #[0] ?_);apply zD0 (zI0 ?_);apply zD0 (zQ1 (data:=.fields #[.ref t,rawInt ((items.size:Int)-1)]) ?_ (by show 2<=sizeLine+2;decide));apply zI0 ?_;erw[%[_,qA0 _ rfl|1],q _]
end
end L2
namespace Mine
open PySem L2
def Tr.wf:Tr->Prop
 |.is x=>qf x | .yes=>True | .no=>True | .not a=>a.wf | .bin w a b=>w∈joinW/\a.wf/\b.wf
def Tr.parts:Tr->List Tr
 |.is _=>[] | .yes=>[] | .no=>[] | .not a=>[a] | .bin _ a b=>[a,b]
def Tr.ok_wf{ns:List Str}(hn:∀x∈ns,qf x):∀t:Tr,t.ok ns->t.wf
 |.is _,h=>hn _ h
 |.yes,_=>trivial
 |.no,_=>trivial
 |.not a,h=>Tr.ok_wf hn a h
 |.bin _ a b,⟨h,h1,h2⟩=>%[h,Tr.ok_wf hn a h1|Tr.ok_wf hn b h2]
def Tr.depth_pos:∀t:Tr,1<=t.depth
 |.is _=>zH0 _ | .yes=>zH0 _ | .no=>zH0 _ | .not a=>jA1 .. | .bin _ a b=>jA1 ..
def gX(ts:List Tr):Nat:=(ts.map Tr.size).sum
def gA(ts:List Tr):List Str:=(ts.map Tr.names).flatten
def Tr.size_parts(t:Tr):t.size=gX t.parts+1:=by
 cases t <;> simp [Tr.size,Tr.parts,gX]
def Tr.names_parts(t:Tr)(h:∀x,t≠.is x):t.names=gA t.parts:=by
 cases t with
 |is x=>exact absurd rfl (h x)
 |_=>simp [Tr.names,Tr.parts,gA]
def Tr.parts_mem{t u:Tr}(h:u∈t.parts)(w:t.wf):u.wf/\u.depth+1<=t.depth/\u.size+1<=t.size:=by
 cases t with
 |is x=>simp [Tr.parts]at h
 |yes=>simp [Tr.parts]at h
 |no=>simp [Tr.parts]at h
 |not a=>
   rw[zP0 h];erw[w,zH0 _,zH0 _]
 |bin o a b=>
   erw[_,w1,w2]at w;rcases zV0 h with e | e
   . rw [e];erw[w1,6,6]
     . show a.depth+1<=max a.depth b.depth+1;omega
     . show a.size+1<=a.size+b.size+1;omega
   . rw [zP0 e];erw[w2,6,6]
     . show b.depth+1<=max a.depth b.depth+1;omega
     . show b.size+1<=a.size+b.size+1;omega
inductive TreesAt(H:Hp):List V->List Tr->Prop
 |nil:TreesAt H [] []
 |cons {v:V} {t:Tr} {vs:List V} {ts:List Tr}:TreeAt H v t->TreesAt H vs ts->TreesAt H (v::vs) (t::ts)
def TreesAt.mono(k:bN H H')(h:TreesAt H vs ts):TreesAt H' vs ts:=by
 induction h with
 |nil=>exact .nil
 |cons a _ ih=>exact .cons (a.mono k) ih
def TreesAt.append(h:TreesAt H vs ts)(g:TreesAt H us rs):TreesAt H (vs++us) (ts++rs):=by
 induction h with
 |nil=>exact g
 |cons a _ ih=>exact .cons a ih
def TreesAt.length(h:TreesAt H vs ts):vs.length=ts.length:=by
 induction h with
 |nil=>rfl
 |cons _ _ ih=>rw[zU0,zU0,ih]
def TreesAt.get(h:TreesAt H vs ts):∀{i:Nat}{v:V},vs[i]?=some v->∃t,ts[i]?=some t/\TreeAt H v t:=by
 induction h with
 |nil=>intro i v e;simp at e
 |cons a _ ih=>
   intro i v e;cases i with
   |zero=>cases(zT0 e);erw[0,a]
   |succ i=>exact ih (i:=i) #[e,0]
def wk{w:Str}(h:w∈joinW):w≠"is":=(by decide:∀w∈joinW,w≠("is":Str)) w h
def TreeAt.view(h:TreeAt H v t)(w:t.wf):(∃(a:Addr) (x:Str),v=.ref a/\t=.is x/\qf x/\H a=some (.tup [.str "is",.str x]))∨
 ∃(a:Addr) (o:Str) (xs:List V),v=.ref a/\o≠"is"/\xs.length<=2/\H a=some (.tup (.str o::xs))/\TreesAt H xs t.parts/\(∀x,t≠.is x):=by
 cases h with
 |is e=>exact .inl %[2,w|e]
 |yes e=>exact .inr %[_,_,[],1,4,by simp,e,.nil|λx z=>by cases z]
 |no e=>exact .inr %[_,_,[],1,4,by simp,e,.nil|λx z=>by cases z]
 |not e g=>exact .inr %[_,_,[_],1,4,by simp,e,.cons g .nil|λx z=>by cases z]
 |bin e g g2=>exact .inr %[_,_,[_,_],1,wk w.1,by simp,e,.cons g (.cons g2 .nil)|λx z=>by cases z]
def cut1(o:V):∀xs:List V,xs.length<=2->hV (o::xs) (some 1) none=xs/\¬ (HT.sIx (o::xs).length 0 (some 1)=0/\HT.sIx (o::xs).length (o::xs).length none=(o::xs).length)
 | [],_=>%[1|λh=>absurd h.1 (show ¬ HT.sIx 1 0 (some 1)=0 by decide)]
 | [_],_=>%[1|λh=>absurd h.1 (show ¬ HT.sIx 2 0 (some 1)=0 by decide)]
 | [_,_],_=>%[1|λh=>absurd h.1 (show ¬ HT.sIx 3 0 (some 1)=0 by decide)]
 |_::_::_::_,h=>absurd h #[2]
def Tr.data:Tr->PyData
 |.is x=>.tuple [.str "is",.str x] | .yes=>.tuple [.str "yes"] | .no=>.tuple [.str "no"] | .not a=>.tuple [.str "not",a.data] | .bin w a b=>.tuple [.str w,a.data,b.data]
def Ag{K:W.Frag}(h:TreeAt H v t):Rep K H v t.data:=by
 induction h with
 |is e=>exact .tup (zB0 e) (.cons (.str _) (.cons (.str _) .nil))
 |yes e=>exact .tup (zB0 e) (.cons (.str _) .nil)
 |no e=>exact .tup (zB0 e) (.cons (.str _) .nil)
 |not e _ ih=>exact .tup (zB0 e) (.cons (.str _) (.cons ih .nil))
 |bin e _ _ i1 i2=>exact .tup (zB0 e) (.cons (.str _) (.cons i1 (.cons i2 .nil)))
def qJ{K:W.Frag}(h:TreesAt H vs ts):RepAll K H vs (ts.map Tr.data):=by
 induction h with
 |nil=>exact .nil
 |cons a _ ih=>exact .cons (Ag a) ih
def oW{K:W.Frag}:∀ns:List Str,RepAll K H (ns.map V.str) (ns.map PyData.str)
 | []=>.nil
 |n::r=>.cons (.str n) (oW r)
def tG(h:qf x):PyData.strOk x=true:=by
 unfold PyData.strOk;rw[←Array.all_toList,jG1];intro c hc
 have:=h.2.1 c hc
 exact zD1 #[0]
def og:∀t:Tr,t.wf->PyData.canLay0 t.data=true/\PyData.depth t.data<=t.depth+1
 |.is x,h=>by
   have:=tG h
   simp [Tr.data,PyData.canLay0,PyData.canLayAll0,PyData.depth,PyData.depthAll,Tr.depth,this]
   decide
 |.yes,_=>by
   simp [Tr.data,PyData.canLay0,PyData.canLayAll0,PyData.depth,PyData.depthAll,Tr.depth]
   decide
 |.no,_=>by
   simp [Tr.data,PyData.canLay0,PyData.canLayAll0,PyData.depth,PyData.depthAll,Tr.depth]
   decide
 |.not a,h=>by
   let ih:=og a h;let w0:PyData.strOk "not"=true:=by decide
   simp [Tr.data,PyData.canLay0,PyData.canLayAll0,PyData.depth,PyData.depthAll,Tr.depth,ih.1,w0]
   omega
 |.bin w a b,⟨hw,h1,h2⟩=>by
   let i1:=og a h1;let i2:=og b h2;let w0:PyData.strOk w=true:=(by decide:∀w∈joinW,PyData.strOk w=true) w hw
   simp [Tr.data,PyData.canLay0,PyData.canLayAll0,PyData.depth,PyData.depthAll,Tr.depth,i1.1,i2.1,w0]
   omega
def tK{ns:List Str}(h:∀x∈ns,qf x):PyData.canLayAll0 (ns.map PyData.str)=true/\PyData.depthAll (ns.map PyData.str)=0:=by
 induction ns with
 |nil=>simp [PyData.canLayAll0,PyData.depthAll]
 |cons a r ih=>
   let i1:=ih λt ht=>h t (qK0 _ ht)
   rw[zZ0,PyData.canLayAll0,PyData.depthAll,i1.1,i1.2];erw[6,6]
   . rw[PyData.canLay0,tG (h a zW0)];rfl
   . simp [PyData.depth]
def Tr.names_len:∀t:Tr,t.names.length<=t.size
 |.is _=>zH0 _
 |.yes=>zQ0 _
 |.no=>zQ0 _
 |.not a=>Nat.le_succ_of_le (Tr.names_len a)
 |.bin _ a b=>by
   have:=Tr.names_len a
   have:=Tr.names_len b
   show(a.names++b.names).length<=a.size+b.size+1;rw[zL0];omega
end Mine
namespace L2
open PySem PySem.Spec PyProof.Rows
section
variable {prog:Program}{w:World}{A:Around}{E:#[6]}{s:Shared}
def EN(xs:Array Value)(x:Value):Nat->Option PySem.Fin×Unit->Sem (ForInStep (Option PySem.Fin×Unit)):=λi _=>match xs[i]? with
 |some y=>do
   let b ←eqBool y x
   if b=true then do
    let r ←retInt (i:Int)
    pure (ForInStep.done (some r,()))
    else pure (ForInStep.yield (none,()))
 |_=>pure (ForInStep.yield (none,()))
def uy{xs:Array Value}{x:Value}{e:Value->Bool}(he:∀y∈xs,SeqAt.EqAt A s y x (e y)){j:Nat}(hj:j<xs.size)(ej:e xs[j]=true)(bf:∀(m:Nat) (hm:m<xs.size),m<j->e xs[m]=false){Q:Option PySem.Fin×Unit->Shared->Prop}
 (q:Q (some (.done (.ret (.int (j:Int) s.toks))),()) { s with toks:=s.toks+1 }):∀(n k:Nat),k<=j->j<k+n->k+n<=xs.size->‹w.A› (forIn (List.range' k n 1) ((none:Option PySem.Fin),()) (EN xs x)) Q E s
 |0,k,h1,h2,_=>absurd h2 #[0]
 |n+1,k,h1,h2,h3=>by
   let hk:k<xs.size:=#[0]
   rw [List.range'_succ,List.forIn_cons];apply zD0 ?_;let e1:EN xs x k ((none:Option PySem.Fin),())=(do
    let b ←eqBool xs[k] x
    if b=true then do
     let r ←retInt (k:Int)
     pure (ForInStep.done (some r,()))
     else pure (ForInStep.yield (none,()))):=by
    unfold EN;rw[Array.getElem?_eq_getElem hk]
   rw[e1];apply zD0 (he _ (Array.getElem_mem hk) prog w _ _ ?_)
   by_cases c:k=j
   . subst c;rw[ej];apply zX1 (λ_=>?_) (λhab=>absurd rfl hab);apply zD0 ?_;apply zD0 (wpAny_mkInt ?_);apply zI0 ?_;apply zI0 ?_;exact zI0 q
   . rw[bf k hk #[0]];apply zX1 (λhab=>absurd hab ⋯) (λ_=>?_);apply zI0 ?_;exact uy he hj ej bf q n (k+1) #[0] #[0] #[0]
def pK(l:Addr)(items:Array Value)(n:Nat)(dd:Option Addr)(sl:Array (Option Value))(x:Value)(e:Value->Bool)(j:Nat)(hj:j<items.size)(ej:e items[j]=true)(bf:∀(m:Nat) (hm:m<items.size),m<j->e items[m]=false):
 Meets (Builtin.«tuple.index» { pos:=[.ref l,x] }) λA R s=>s.heap.get? l=some { cls:=.type "tuple",dict:=dd,data:=.seq items n,slots:=sl }/\(∀y∈items,SeqAt.EqAt A.in1 s y x (e y))/\R (.ok (.ret (.int (j:Int) s.toks))) { s with toks:=s.toks+1 }:=by
 intro prog w A R s ⟨hl,he,q⟩;unfold Builtin.«tuple.index»;apply zD0 (qQ1 (a:=(Value.ref l,[x])) rfl ?_);apply zD0 (wpAny_tupleItemsOf hl rfl ?_);apply zD0 (zI0 ?_);apply zD0 (zI0 ?_);apply zD0 ?_;rw[Std.Legacy.Range.forIn_eq_forIn_range'];let e1:Std.Legacy.Range.size [0:min items.size items.size]=items.size:=by simp [Std.Legacy.Range.size]
 rw[e1];apply uy he hj ej bf ?_ items.size 0 (zQ0 _) #[0] #[0];exact zI0 q
end
section
variable {X:Cx}
def fD(z:Str):List Str->Option Nat
 | []=>none
 |a::r=>if a=z then some 0 else(fD z r).map (·+1)
def tR:∀{ns:List Str}{j:Nat},fD z ns=some j->ns[j]?=some z/\∀m,m<j->∀y,ns[m]?=some y->y≠z
 | [],_,h=>by simp [fD]at h
 |a::r,j,h=>by
   unfold fD at h
   by_cases c:a=z
   . rw[JB c]at h;cases h;erw[by simp [c],λm hm=>absurd hm #[0]]
   . rw [Jy c]at h;let%[i,hi|1]:=qP0 h;let%[h1|h2]:=tR hi;erw[by simpa using h1,λm hm y hy=>?_];cases m with
     |zero=>cases(zT0 hy);exact c
     |succ m=>exact h2 m #[0] y #[hy,0]
def ot:∀{bs:List Str}{us:List Value}{i:Nat}{v:Value},Vals (bs.map V.str) us->us[i]?=some v->∃b t,bs[i]?=some b/\v=.str b t
 | [],_,_,_,.nil,h=>by simp at h
 |b::_,_,0,_,.cons r _,h=>by
   simp at h
   subst h;erw[t,e]at r;erw[b,t,1,e]
 |_::_,_,i+1,_,.cons _ t,h=>by
   let%[b,t,h1|h2]:=ot (i:=i) t #[h,0];erw[b,t,by simpa using h1,h2]
def fY(ns:List Str):(ns.map V.str).all iH=true:=by
 induction ns with
 |nil=>rfl
 |cons a r ih=>rw[zZ0,jU0,ih];rfl
def na{ns:List Str}{j:Nat}(r:Vals (ns.map V.str) its)(h:fD z ns=some j):
 ∃hj:j<its.toArray.size,eqU (.str z) its.toArray[j]=true/\∀(m:Nat)(hm:m<its.toArray.size),m<j->eqU (.str z) its.toArray[m]=false:=by
 let%[h1|h2]:=tR h;let hl:=r.length;rw[zF0]at hl;let jl:j<ns.length:=(qD0 h1).1;let hj:j<its.toArray.size:=by rw[zN0,←hl];exact jl
 erw[hj,6,λm hm mj=>?_]
 . let%[b,t,e1|e2]:=ot r (i:=j) (v:=its.toArray[j]) #[2];rw[e2];rw[h1]at e1;cases e1;show(z==z)=true
   simp
 . let%[b,t,e1|e2]:=ot r (i:=m) (v:=its.toArray[m]) #[2];rw[e2];show(b==z)=false
   have:=h2 m mj b e1
   simpa using this
instance rIndexT(K:W.Frag)(x:V)(vs:List V)(H:Hp)(Q:VK):∀(a:Addr)(ns:List Str)(z:Str)(j:Nat),x=.ref a->vs=[.str z]->SqT K H a (ns.map V.str)->fD z ns=some j->Q (.int (j:Int)) H:=0
def yx:MtR X "tuple.index" (rIndexT X.K):=by
 exists 4,x,vs,v,us,Q,I,rx,rv,h;erw[a,ns,z,j,1,1,hq,hp,q]at h;cases rx;erw[u,1,ru]at rv.one;let%[its,r,%[%[cls,dd,data|sl],ho,hc,n|hd]|hz]:=I.tuple hq;simp only at hc hd;subst hc hd;let%[hj,e1|e2]:=na r hp;apply jE0 F.slot_tuple_index %[_,ho|1] F.entry_tuple_index (F.args_tuple_index_2 _ _) (pK a its.toArray n dd sl u (eqU (.str z)) j hj e1 e2) ⟨ho,λy hy=>?_,?_⟩
 . exact fb ru rfl r (fY ns) y #[hy,0]
 . erw[.int (j:Int),H,I.tok _,%[|0],q]
instance rIndexL(K:W.Frag)(x:V)(vs:List V)(H:Hp)(Q:VK):∀(a:Addr)(ns:List Str)(z:Str)(j:Nat),x=.ref a->vs=[.str z]->SqL K H a (ns.map V.str)->fD z ns=some j->Q (.int (j:Int)) H:=0
def yy:MtR X "list.index" (rIndexL X.K):=by
 exists 4,x,vs,v,us,Q,I,rx,rv,h;erw[a,ns,z,j,1,1,hq,hp,q]at h;cases rx;erw[u,1,ru]at rv.one;let%[its,r,%[%[cls,dd,data|sl],n,ho,hc,hdd|hd]|hz]:=I.list hq;simp only at hc hd;subst hc hd;let%[hj,e1|e2]:=na r hp;let h63:=iC;let hl:=r.length;apply jE0 F.slot_list_index %[_,ho|1] F.entry_list_index (F.args_list_index_2 _ _) (SeqAt.list_indexAt a its.toArray n dd sl u (eqU (.str z)) j hj (by rw[zN0]at hj;omega) e1 e2) ⟨ho,λy hy=>?_,?_⟩
 . exact fb ru rfl r (fY ns) y #[hy,0]
 . erw[.int (j:Int),H,I.tok _,%[|0],q]
end
section
variable {κ:Type}[DecidableEq κ]
def fZ(JA:List (κ×V))(k:κ):Option V:=(JA.find? λkv=>decide (kv.1=k)).map (·.2)
def kO(JA:List (κ×V))(k:κ)(v:V):List (κ×V):=
 if(JA.any λkv=>decide (kv.1=k))=true then JA.map (λkv=>if kv.1=k then(kv.1,v)else kv)else JA++[(k,v)]
def dy{p:κ×V}{r:List (κ×V)}{k:κ}(e:p.1=k):fZ (p::r) k=some p.2:=by simp [fZ,jB0,e]
def dz{p:κ×V}{r:List (κ×V)}{k:κ}(e:¬ p.1=k):fZ (p::r) k=fZ r k:=by simp [fZ,jB0,e]
def ky(k:κ):∀JA:List (κ×V),(JA.any λkv=>decide (kv.1=k))=(fZ JA k).isSome
 | []=>rfl
 |p::r=>by
   rw[jK1]
   by_cases e:p.1=k
   . simp only[dy e,zD1 e,Bool.true_or,Option.isSome_some]
   . rw[dz e,zE1 e,Bool.false_or];exact ky k r
def tD(k j:κ)(y:V):∀JA:List (κ×V),fZ (JA.map λkv=>if kv.1=k then(kv.1,y)else kv) j=(fZ JA j).map λx=>if j=k then y else x
 | []=>rfl
 |p::r=>by
   let ih:=tD k j y r;rw[zZ0]
   by_cases h:p.1=k
   . rw [JB h]
     by_cases e:p.1=j
     . rw[dy (p:=(p.1,y)) e,dy e,jY1,JB (e.symm.trans h)]
     . rw[dz (p:=(p.1,y)) e,dz e,ih]
   . rw [Jy h]
     by_cases e:p.1=j
     . rw[dy (p:=p) e,dy e,jY1,Jy (λz=>h (e.trans z))]
     . rw[dz (p:=p) e,dz e,ih]
def qA(k j:κ)(y:V):∀JA:List (κ×V),fZ JA k=none->fZ (JA++[(k,y)]) j=if j=k then some y else fZ JA j
 | [],_=>by
   by_cases e:k=j
   . rw[JB e.symm];exact dy (p:=(k,y)) e
   . rw[Jy (λz=>e z.symm)];exact dz (p:=(k,y)) e
 |p::r,hn=>by
   rw[List.cons_append];let hk:¬ p.1=k:=λz=>by rw[dy z]at hn;cases hn
   rw[dz hk]at hn;let ih:=qA k j y r hn
   by_cases e:p.1=j
   . rw[dy e,dy e,Jy (λz=>hk (e.trans z))]
   . rw[dz e,dz e,ih]
def zq(JA:List (κ×V))(k j:κ)(y:V):fZ (kO JA k y) j=if j=k then some y else fZ JA j:=by
 unfold kO
 by_cases a:(JA.any λkv=>decide (kv.1=k))=true
 . rw [JB a,tD];rw[ky]at a
   by_cases e:j=k
   . let%[x|hx]:=Option.isSome_iff_exists.mp a;rw[JB e,e,hx,jY1,JB rfl]
   . rw [Jy e];cases fZ JA j with
     |none=>rfl
     |some x=>rw[jY1,Jy e]
 . rw [Jy a];apply qA k j y JA ?_;rw[ky]at a;cases q:fZ JA k with
   |none=>rfl
   |some x=>rw[q]at a;exact(a rfl).elim
def jb(JA:List (κ×V))(k:κ)(v:V):(kO JA k v).length<=JA.length+1:=by
 unfold kO
 split
 . rw[zF0];omega
 . rw[zL0,zU0,zM1];omega
def RelO.isSome_eq(r:RelO o u):o.isSome=u.isSome:=by
 cases o with
 | none=>cases u with
   |none=>rfl
   |some _=>exact(show False from r).elim
 | some _=>cases u with
   |none=>exact(show False from r).elim
   |some _=>rfl
def RelO.getD(r:RelO o u)(rd:RelV d d'):RelV (o.getD d) (u.getD d'):=by
 cases o with
 | none=>cases u with
   |none=>exact rd
   |some _=>exact(show False from r).elim
 | some _=>cases u with
   |none=>exact(show False from r).elim
   |some _=>exact r
def KV.val{JA:List (κ×V)}{vs:List (κ×Value)}(r:KV JA vs)(k:κ):RelO (fZ JA k) (valueAt vs k):=by
 unfold KV at r
 induction r with
 |nil=>exact True.intro
 | @cons p q ps qs h t ih=>
   erw[h1,h2]at h
   by_cases e:p.1=k
   . let e':q.1=k:=h1.symm.trans e;let b:valueAt (q::qs) k=some q.2:=by simp [valueAt,jB0,e']
     rw[dy e,b];exact h2
   . let e':¬ q.1=k:=λz=>e (h1.trans z)
     let b:valueAt (q::qs) k=valueAt qs k:=by simp [valueAt,jB0,e']
     rw[dz e,b];exact ih
def KV.any{JA:List (κ×V)}{vs:List (κ×Value)}(r:KV JA vs)(k:κ):(JA.any λkv=>decide (kv.1=k))=vs.any λkv=>decide (kv.1=k):=by
 unfold KV at r
 induction r with
 |nil=>rfl
 |cons h t ih=>rw[jK1,jK1,ih,h.1]
def KV.repl{JA:List (κ×V)}{vs:List (κ×Value)}(r:KV JA vs)(k:κ)(ry:RelV y u):
 KV (JA.map λkv=>if kv.1=k then(kv.1,y)else kv) (vs.map λkv=>if kv.1=k then(kv.1,u)else kv):=by
 unfold KV at r ⊢
 induction r with
 |nil=>exact .nil
 | @cons p q ps qs h t ih=>
   rw[zZ0,zZ0];refine .cons ?_ ih;erw[h1,h2]at h
   by_cases e:p.1=k
   . rw[JB e,JB (h1.symm.trans e)];erw[h1,ry]
   . rw[Jy e,Jy (λz=>e (h1.trans z))];erw[h1,h2]
def KV.put{JA:List (κ×V)}{vs:List (κ×Value)}(r:KV JA vs)(k:κ)(ry:RelV y u):KV (kO JA k y) (stored vs k u):=by
 unfold kO stored;rw[r.any k]
 by_cases e:(vs.any λkv=>decide (kv.1=k))=true
 . rw[JB e,JB e];exact r.repl k ry
 . rw[Jy e,Jy e];exact Paired.snoc r %[1|ry]
def KV.length{JA:List (κ×V)}{vs:List (κ×Value)}(r:KV JA vs):JA.length=vs.length:=Paired.length r
end
def Bi(r:RelV (kV k) u):(cZ P w).is k u=true:=by
 cases k with
 |inl i=>let%[t|e]:=(show ∃t,u=Value.int i t from r);subst e;exact uq P w i t
 |inr x=>let%[t|e]:=(show ∃t,u=Value.str x t from r);subst e;exact uo P w x t
def qS:∀{ks:List Key}{us:List Value},Vals (ks.map kV) us->ItemsAre (cZ P w) ks us
 | [],_,r=>by rw[List.map_nil]at r;cases r;exact .nil
 |k::ks,_,r=>by
   rw[zZ0]at r;cases r with
   |cons h t=>exact .cons (Bi h) (qS t)
abbrev KT(H:Hp):List (List Key×V)->List (List Key×Addr×Value)->Prop:=Paired λp q=>p.1=q.1/\H q.2.1=some (.tup (p.1.map kV))/\RelV p.2 q.2.2
def KT.val{JA:List (List Key×V)}{xs:List (List Key×Addr×Value)}(r:KT H JA xs)(k:List Key):RelO (fZ JA k) ((atKey xs k).map (·.2)):=by
 induction r with
 |nil=>exact True.intro
 | @cons p q ps qs h t ih=>
   erw[h1,_,h2]at h
   by_cases e:p.1=k
   . let e':q.1=k:=h1.symm.trans e;let b:atKey (q::qs) k=some q.2:=by simp [atKey,jB0,e']
     rw[dy e,b];exact h2
   . let e':¬ q.1=k:=λz=>e (h1.trans z)
     let b:atKey (q::qs) k=atKey qs k:=by simp [atKey,jB0,e']
     rw[dz e,b];exact ih
def KT.repl{JA:List (List Key×V)}{xs:List (List Key×Addr×Value)}(r:KT H JA xs)(k:List Key)(ry:RelV y u):
 KT H (JA.map λkv=>if kv.1=k then(kv.1,y)else kv) (xs.map (putAt k u)):=by
 induction r with
 |nil=>exact .nil
 | @cons p q ps qs h t ih=>
   rw[zZ0,zZ0];refine .cons ?_ ih;erw[h1,h2,h3]at h;unfold putAt
   by_cases e:p.1=k
   . rw[JB e,JB (h1.symm.trans e)];erw[h1,h2,ry]
   . rw[Jy e,Jy (λz=>e (h1.trans z))];erw[h1,h2,h3]
def KT.put{JA:List (List Key×V)}{xs:List (List Key×Addr×Value)}(r:KT H JA xs)(k:List Key){b:Addr}(hb:H b=some (.tup (k.map kV)))(ry:RelV y u):
 KT H (kO JA k y) (storedH xs k b u):=by
 let e:(JA.any λkv=>decide (kv.1=k))=(atKey xs k).isSome:=by
  rw[ky,(r.val k).isSome_eq,Option.isSome_map]
 unfold kO storedH;rw[e]
 by_cases q:(atKey xs k).isSome=true
 . rw[JB q,JB q];exact r.repl k ry
 . rw[Jy q,Jy q];exact Paired.snoc r %[1,hb|ry]
def KT.keeps{H':Hp}{JA:List (List Key×V)}{xs:List (List Key×Addr×Value)}(r:KT H JA xs)(ht:∀b ys,H b=some (.tup ys)->H' b=some (.tup ys)):KT H' JA xs:=
 Paired.mapP r λ_ _ z=>%[z.1,ht _ _ z.2.1|z.2.2]
section
variable {P:Program}{w:World}{H:Hp}{h:Heap}{a:Addr}
def DF(ok:HOk P w H h)(e:Rd H a u):ObjOk P w H h a u:=e.ok ok
def BI{JA:List (Key×V)}(ok:HOk P w H h)(e:Rd H a (.dK JA)):JA.length<=sizeLine/\(a==sysModules)=false/\∃vs,KV JA vs/\h.DictOf (cZ P w) a vs:=
 show ObjOk P w H h a (.dK JA)from DF ok e
def dk_of{JA:List (Key×V)}(ok:HOk P w H h)(e:H a=some (.dK JA)):JA.length<=sizeLine/\(a==sysModules)=false/\∃vs,KV JA vs/\h.DictOf (cZ P w) a vs:=BI ok (.inl e)
def wj{ks:List Key}(ok:HOk P w H h)(e:H a=some (.tup (ks.map kV))):(tupleKind (cZ P w)).is h ks a:=by
 let%[_,its,r,%[o,h1,h2,n|h3]|_]:=(show ObjOk P w H h a (.tup (ks.map kV))from ok a _ e)
 erw[o,its.toArray,n,h1,h2,h3,by simpa using qS r]
def BD{JA:List (List Key×V)}(ok:HOk P w H h)(e:Rd H a (.dT JA)):JA.length<=sizeLine/\(a==sysModules)=false/\
 ∃xs,KT H JA xs/\h.DictOfH (tupleKind (cZ P w)) a xs:=by
 let%[z,y,xs,r,o,es,ep,h1,h2,h3,h4|h5]:=(show ObjOk P w H h a (.dT JA)from DF ok e)
 erw[z,y,xs,r,o,es,ep,h1,h2,h3,h4,λx hx=>?_,h5];let all:∀{l:List (List Key×V)}{m:List (List Key×Addr×Value)},KT H l m->∀x∈m,(tupleKind (cZ P w)).is h x.1 x.2.1:=by
  intro l m q
  induction q with
  |nil=>intro x hx;exact nomatch hx
  | @cons p q ps qs hq t ih=>
    intro x hx;rcases zV0 hx with e | hx
    . subst e;exact wj ok (by rw[←hq.1];exact hq.2.1)
    . exact ih x hx
 exact all r x hx
def dt_of{JA:List (List Key×V)}(ok:HOk P w H h)(e:H a=some (.dT JA)):JA.length<=sizeLine/\(a==sysModules)=false/\
 ∃xs,KT H JA xs/\h.DictOfH (tupleKind (cZ P w)) a xs:=BD ok (.inl e)
end
def DGet(H:Hp)(a:Addr)(y:V)(r:Option V):Prop:=
 (∃JA k,Rd H a (.dK JA)/\y=kV k/\r=fZ JA k)∨∃JA k b,Rd H a (.dT JA)/\y=.ref b/\H b=some (.tup (k.map kV))/\r=fZ JA k
def DPut(H:Hp)(a:Addr)(y v:V)(H':Hp):Prop:=
 (∃JA k,H a=some (.dK JA)/\y=kV k/\JA.length<sizeLine/\H'=upd H a (.dK (kO JA k v)))∨
 ∃JA k b,H a=some (.dT JA)/\y=.ref b/\H b=some (.tup (k.map kV))/\JA.length<sizeLine/\H'=upd H a (.dT (kO JA k v))
def DGet.k{H:Hp}{a:Addr}{JA:List (Key×V)}{k:Key}(e:H a=some (.dK JA)):DGet H a (kV k) (fZ JA k):=.inl %[JA,k,.inl e,1|1]
def DPut.k{H:Hp}{a:Addr}{JA:List (Key×V)}{k:Key}(e:H a=some (.dK JA))(hl:JA.length<sizeLine):DPut H a (kV k) v (upd H a (.dK (kO JA k v))):=.inl %[JA,k,e,1,hl|1]
section
variable {X:Cx}{Jx:#[7]}{σ:St}{H:Hp}{s:Shared}{a:Addr}{y v:V}{u r:Value}{o:Option V}{A:Around}{E:#[6]}
def Inv.big(I:#[8] H s):sysModules<‹s›:=by
 let h:mainGlobals<‹s›:=(I.mod.glob.keeps I.bk).lt;exact Nat.lt_trans ⋯ h
def xh{h':Heap}{t':Nat}(I:#[8] H s)(mu:Mut (H a))(hs:Heap.SameBut a s.heap h')(he:∃q,h'.get? a=some q)(new:ObjOk X.prog X.w (upd H a ob) h' a ob):
 #[8] (upd H a ob) { s with heap:=h',toks:=t' }:=
 I.write (x:=a) (e:=a) mu (.inl rfl) (λb q hb z=>(hs.2 b hb).trans z) he new
def Fb{H':Hp}{h':Heap}{JA:List (Key×V)}{vs:List (Key×Value)}(z:JA.length<=sizeLine)(hd:(a==sysModules)=false)(rel:KV JA vs)(dd:h'.DictOf (cZ P w) a vs):
 ObjOk P w H' h' a (.dK JA):=%[z,hd,vs,rel|dd]
def za{Q:Unit->Shared->Prop}(hu:A.units+1<cLine)(I:#[8] H s)(g:DPut H a y v H')(ry:RelV y u)(rv:RelV v r)(h:∀s',#[8] H' s'->Q () s'):
 wpAny (model X.prog X.w) A (setItem (.ref a) u r) Q E s:=by
 rcases g with⟨JA,k,e,ey,l,eH⟩ | ⟨JA,k,b,e,ey,eb,l,eH⟩
 . subst ey eH;let%[z,hd,vs,rel|dd]:=dk_of I.hok e;let hz:vs.length<=sizeLine:=by rw[←rel.length];exact z
   let hl:(kO JA k v).length<=sizeLine:=by have:=jb JA k v;omega
   apply wpAny_setItem_pairs (hsz:=hz) (Bi ry) dd λh' dd' hs=>h _ ?_
   let he:∃q,h'.get? a=some q:=let⟨q,_,_,hq,_⟩:=dd';%[q|hq]
   exact xh I (by rw[e];exact True.intro) hs he (Fb hl hd (rel.put k rv) dd')
 . subst ey eH;cases(show u=Value.ref b from ry);let%[z,hd,xs,rel|dd]:=dt_of I.hok e;let hz:xs.length<=sizeLine:=by rw[←Paired.length rel];exact z
   let hl:(kO JA k v).length<=sizeLine:=by have:=jb JA k v;omega
   apply wpAny_setItem_heap (hsz:=hz) (tupleKind_room_in1 hu) (wj I.hok eb) dd λh' dd' hs=>h _ ?_
   erw[q,es,ep,hq,h2,h3,h4,_,h5]at dd';apply xh I (by rw[e];exact True.intro) hs ⟨q,hq⟩ ⟨hl,hd,_,(rel.put k eb rv).keeps λc ys ec=>?_,q,es,ep,hq,h2,h3,h4,h5⟩;rw[aD (bi ec e (λz=>nomatch z))];exact ec
end
instance ZsDPut(D:Ends)(σ:St)(v:V)(x:V)(y:V)(H3:Hp):∀a H4,x=.ref a->DPut H3 a y v H4->D.nx σ H4:=0
def sDPut(td ty tv:TE):TS:=λD σ H=>tv σ H λv H1=>td σ H1 λx H2=>ty σ H2 λy H3=>ZsDPut D σ v x y H3
section
variable {X:Cx}{o i e value:Expr}{pos pos' tpos:Pos}{td ty tv:TE}
def CB(hu:X.A.units+1<cLine)(ho:PE X o td)(hi:PE X i ty)(hv:PE X value tv)(hs:swapsWith value (some (.Subscript o i pos')) pos.line X.env=pure false):
 PS X (.Assign [.Subscript o i pos'] value pos) (sDPut td ty tv):=by
 exists 4,D,I,h;apply wpAny_Assign_Subscript (thn (hv Jx s σ H _ I h) λr s1 ⟨v,H1,I1,rv,q1⟩=>thn (ho Jx s1 σ H1 _ I1 q1) λu s2 ⟨x,H2,I2,rx,q2⟩=>thn (hi Jx s2 σ H2 _ I2 q2) λiv s3 ⟨y,H3,I3,ry,a,H4,ex,g,q3⟩=>?_) hs;subst ex;obtain rfl:u=Value.ref a:=rx;exact za hu I3 g ry rv λs4 I4=>%[σ,H4,I4|q3]
end
def BJ{P:Program}{w:World}{H:Hp}(h:Heap)(hb:sysModules<h.objs.size):ObjOk P w H (h.push { cls:=.type "dict",data:=.dict #[] }) h.objs.size (.dK []):=
 %[zQ0 _,beq_eq_false_iff_ne.mpr (Ne.symm (qB0 hb)),[],.nil|Heap.DictOf.new h]
def Ea:TE:=λ_ H Q=>∀p,H p=none->Q (.ref p) (upd H p (.dK []))
section
variable {X:Cx}{pos:Pos}
def Av:PE X (.Dict [] [] pos) Ea:=λJx s σ H Q I h=>
 wpAny_Dict_empty %[.ref ‹s›,_,I.laid (a:=‹s›) (o:=.dK []) (t':=s.toks) (λ_ _ q=>zR0 _ q) (zH0 _) (BJ s.heap I.big),1|h _ (I.hok.fresh (zH0 _))]
end
structure M2(X:Cx)(o:Expr)(m:Str)(JF:Pos)(e f:Expr)(JC:Pos):Prop where
 base:attributeBase o m X.env (eval o X.env)=eval o X.env
 few:((backTo JC (starEach [e,f] X.env)).all (λx=>!x.1)&&(backToKw JC (keywordEach [] X.env)).all (λx=>x.1.isSome)
  &&decide (([e,f]:List Expr).length+([]:List Keyword).length+(if([]:List Keyword).isEmpty then 0 else 1)<30))=true
 line:(JF.endLine==JC.line)=true
 trees:backTo JC (starEach [e,f] X.env)=[(false,eval e X.env),(false,eval f X.env)]
def IsD(H:Hp)(a:Addr):Prop:=(∃JA,Rd H a (.dK JA))∨∃JA,Rd H a (.dT JA)
def EJ{σ:St}(I:#[8] H s)(d:IsD H a):
 s.TypeIs (.ref a) "dict"/\(∀b,Value.ref a=.ref b->∃ob,s.heap.get? b=some ob/\ob.dict=none)/\(a==sysModules)=false:=by
 rcases d with⟨JA,e⟩ | ⟨JA,e⟩
 . let%[_,hd,vs,_|dd]:=BI I.hok e;erw[dd.typeIs,λb q=>?_,hd];cases q;erw[ob,_,_,h1,h2,_]at dd;erw[ob,h1,h2.2.1]
 . let%[_,hd,xs,_|dd]:=BD I.hok e;erw[dd.typeIs,λb q=>?_,hd];cases q;erw[ob,_,_,h1,h2,_]at dd;erw[ob,h1,h2.2.1]
section
variable {X:Cx}{Jx:#[7]}{σ:St}{H:Hp}{s:Shared}{a:Addr}{y d:V}{u r:Value}{o:Option V}{A:Around}{E:#[6]}
def Fc{Q:#[6]}(hu:A.units+1<cLine)(I:#[8] H s)(g:DGet H a y o)(ry:RelV y u)(rd:RelV d r)(h:∀w' s',#[8] H s'->RelV (o.getD d) w'->Q w' s'):
 wpAny (model X.prog X.w) A (call (.builtin "dict.get") [.ref a,u,r]) Q E s:=by
 rcases g with⟨JA,k,e,ey,l⟩ | ⟨JA,k,b,e,ey,eb,l⟩
 . subst ey;let%[z,hd,vs,rel|dd]:=BI I.hok e;apply call_meetsIn jP0 dd.typeIs PySem.F.entry_dict_get (PySem.F.args_dict_get_3 _ _ _) (meets_dict_get_default (cZ X.prog X.w) a (Bi ry) hd r) %[_,dd.mapOf|h _ _ (I.tok _) ?_];rw[l];exact(rel.val k).getD rd
 . subst ey;cases(show u=Value.ref b from ry);let%[z,hd,xs,rel|dd]:=BD I.hok e;apply call_meetsIn jP0 dd.typeIs PySem.F.entry_dict_get (PySem.F.args_dict_get_3 _ _ _) (meetsH_dict_get_default (tupleKind (cZ X.prog X.w)) a b hd r) %[tupleKind_room_in1 hu,k,xs,wj I.hok eb,dd|h _ _ (I.tok _) ?_];rw[l];exact(rel.val k).getD rd
end
instance ZtDGet2(ty:TE)(tx:TE)(σ:St)(Q:VK)(x:V)(H1:Hp):∀a,x=.ref a->IsD H1 a->(ty σ H1 λy H2=>tx σ H2 λz H3=>∃o,DGet H3 a y o/\Q (o.getD z) H3):=0
def Eb(td ty tx:TE):TE:=λσ H Q=>td σ H λx H1=>ZtDGet2 ty tx σ Q x H1
section
variable {X:Cx}{o e f:Expr}{JF JC:Pos}{td ty tx:TE}
def Aw(hu:X.A.units+1<cLine)(ho:PE X o td)(he:PE X e ty)(hf:PE X f tx)(m:M2 X o "get" JF e f JC):PE X (.Call (.Attribute o "get" JF) [e,f] [] JC) (Eb td ty tx):=by
 exists 4,Q,I,h;apply wpAny_Call_method m.base m.few m.line PySem.F.plainAttrs_dict jP0 PySem.F.type_dict_get (thn (ho Jx s σ H _ I h) λu s1 ⟨x,H1,I1,rx,a,ex,d,q1⟩=>?_);subst ex;obtain rfl:u=Value.ref a:=rx;let%[t1,t2|_]:=EJ I1 d;erw[t1,t2,6];rw[m.trees];apply qY1 rfl (jF0 (qJ1 (thn (he Jx s1 σ H1 _ I1 q1) λiv s2 ⟨y,H2,I2,ry,q2⟩=>
  qJ1 (thn (hf Jx s2 σ H2 _ I2 q2) λfv s3 ⟨z,H3,I3,rz,ov,g,q3⟩=>qT1 ?_))))
 exact Fc hu I3 g ry rz λw' s4 I4 rw'=>%[_,H3,I4,rw'|q3]
end
section
variable {X:Cx}
def Inv.tupD{σ:St}{a:Addr}{xs:List V}(I:#[8] H s)(h:H a=some (.tup xs)):∃ob,s.heap.get? a=some ob/\ob.dict=none:=by
 let%[_,_,_,_,o,e|d]:=(show ObjOk X.prog X.w H s.heap a (.tup xs)from I.hok a _ h)
 erw[o,e,d]
instance ZtIndex(t:TA)(σ:St)(Q:VK)(x:V)(H1:Hp):∀(a:Addr)(ns:List Str),x=.ref a->H1 a=some (.lst (ns.map V.str))∨H1 a=some (.tup (ns.map V.str))->(t σ H1 λvs H2=>(H2 a=H1 a)/\∃(z:Str)(j:Nat),vs=[.str z]/\fD z ns=some j/\Q (.int (j:Int)) H2):=0
def DY(K:W.Frag)(to:TE)(t:TA):TE:=λσ H Q=>to σ H λx H1=>ZtIndex t σ Q x H1
variable {o e:Expr}{es:List Expr}{to:TE}{t:TA}{JF JC:Pos}
def tT(pl:PlainAttrs "list")(pt:PlainAttrs "tuple")(ho:PE X o to)(ha:PA X (e::es) t)
 (hbase:attributeBase o "index" X.env (eval o X.env)=eval o X.env:=by rfl)
 (hfew:((backTo JC (starEach (e::es) X.env)).all (λx=>!x.1)&&(backToKw JC (keywordEach [] X.env)).all (λx=>x.1.isSome)
  &&decide ((e::es).length+([]:List Keyword).length+(if([]:List Keyword).isEmpty then 0 else 1)<30))=true:=by rfl)
 (hline:(JF.endLine==JC.line)=true:=by rfl) (hs:starEach (e::es) X.env=(false,eval e X.env)::starEach es X.env:=by rfl) (hplain:(backTo JC (starEach es X.env)).any (·.1)=false:=by rfl) :
 PE X (.Call (.Attribute o "index" JF) (e::es) [] JC) (DY X.K to t):=by
 exists 4,Q,I,h;apply wpAny_Call_method_late hbase hfew hline rfl (thn (ho Jx s σ H _ I h) λv s1 ⟨x,H1,I1,r1,a,ns,ex,hh,q1⟩=>?_);subst ex;cases r1;let hA:=ha JC Jx s1 σ H1 _ I1 q1;rw[hs]at hA ⊢;rcases hh with hh | hh
 . let%[its,_,p|_]:=I1.list (zG0 hh);let%[ob,n,e1,c,d|_]:=id p;erw["list","list.index",pl,F.slot_list_index,F.type_list_index,p.isList.typeIs,λb eb=>?_,6]
   . cases eb;erw[ob,e1,d]
   . apply qY1 (by show(false||(backTo JC (starEach es X.env)).any (·.1))=false;rw[hplain] <;> rfl) (jF0 ?_);exact thn hA λus s2 ⟨vs,H2,I2,r2,ek,z,j,ez,hp,q2⟩=>yy Jx s2 σ H2 (.ref a) vs (.ref a) us Q I2 rfl r2 %[a,ns,z,j,1,ez,zG0 (ek.trans hh),hp|q2]
 . let%[its,_,p|_]:=I1.tuple (zB0 hh);erw["tuple","tuple.index",pt,F.slot_tuple_index,F.type_tuple_index,p.typeIs,λb eb=>?_,6]
   . cases eb;exact I1.tupD hh
   . apply qY1 (by show(false||(backTo JC (starEach es X.env)).any (·.1))=false;rw[hplain] <;> rfl) (jF0 ?_);exact thn hA λus s2 ⟨vs,H2,I2,r2,ek,z,j,ez,hp,q2⟩=>yx Jx s2 σ H2 (.ref a) vs (.ref a) us Q I2 rfl r2 %[a,ns,z,j,1,ez,zB0 (ek.trans hh),hp|q2]
end
def CompScope.three{X:Cx}{x y z u:Str}{scope:Scope}{k l m:Nat}{c d e:Addr}{cl:List (Str×Addr)}(c1:closureFor scope X.env=pure cl)(c2:∀y∈scope.names,y.2≠.cell)(c3:scope.kind=.function)(c4:∀y∈scope.names,y.2=.local->scope.names.lookup y.1=some .local)
 (c5:scope.names.lookup x=some .local)(nd:[x,y,z,u].Nodup)(hcl:cl=[(y,c),(z,d),(u,e)])(hc:X.env.cells.lookup y=some c)(hd:X.env.cells.lookup z=some d)(he:X.env.cells.lookup u=some e)(c6:((relabel scope X.env).names.all λp=>!(p.2==.cell||p.2==.free)||(cl.lookup p.1).isSome)=true)
 (hr:(relabel scope X.env).names.lookup y=some .cell)(hk:X.N[k]?=some y)(hs:X.env.scope.names.lookup y=some .cell)
 (hr2:(relabel scope X.env).names.lookup z=some .cell)(hk2:X.N[l]?=some z)(hs2:X.env.scope.names.lookup z=some .cell)
 (hr3:(relabel scope X.env).names.lookup u=some .cell)(hk3:X.N[m]?=some u)(hs3:X.env.scope.names.lookup u=some .cell):CompScope X x [y,z,u] [k,l,m] scope cl where
 clos:=c1
 nocell:=c2
 kind:=c3
 names:=c4
 own:=c5
 nd:=nd
 sub:=λp hp=>by
  subst hcl;rcases zV0 hp with h | h
  . rw[h];assumption
  . rcases zV0 h with h | h
    . rw[h];assumption
    . rw[zP0 h];assumption
 has:=c6
 outs:=λj w h=>by
  let nyz:y≠z:=λe=>by simp [e]at nd
  let nyu:y≠u:=λe=>by simp [e]at nd
  let nzu:z≠u:=λe=>by simp [e]at nd
  subst hcl
  match j,h with
  |0,h=>
    let e:y=w:=zT0 h;subst e;erw[hr,k,c,1,hk,by simp [List.lookup],hs]
  |1,h=>
    let e:z=w:=zT0 h;subst e
    have:(z==y)=false:=#[Ne.symm nyz,0]
    erw[hr2,l,d,1,hk2,by simp [List.lookup,this],hs2]
  |2,h=>
    let ew:u=w:=zT0 h;subst ew;let h1:(u==y)=false:=#[Ne.symm nyu,0]
    let h2:(u==z)=false:=#[Ne.symm nzu,0]
    erw[hr3,m,e,1,hk3,by simp [List.lookup,h1,h2],hs3]
  |j+3,h=>simp at h
section
variable {X:Cx}
def qX:∀{xs:List V}{us:List Value},Vals xs us->xs.all iH=true->us.countP (eqU x)=xs.countP λy=>eqV y x
 |_,_,.nil,_=>rfl
 |y::xs,u::us,.cons r t,f=>by
   rw[jU0,qN1]at f;rw[List.countP_cons,List.countP_cons,wv r f.1,qX t f.2]
instance rCountL(K:W.Frag)(x:V)(vs:List V)(H:Hp)(Q:VK):∀(a:Addr)(xs:List V)(z:V),x=.ref a->vs=[z]->SqL K H a xs->xs.all iH=true->iH z=true->Q (.int ((xs.countP λy=>eqV y z:Nat):Int)) H:=0
def ul:MtR X "list.count" (rCountL X.K):=by
 exists 4,x,vs,v,us,Q,I,rx,rv,h;erw[a,xs,z,1,1,hq,fs,fz,q]at h;cases rx;erw[u,1,ru]at rv.one;let%[its,r,%[%[cls,dd,data|sl],n,ho,hc,hdd|hd]|hz]:=I.list hq;simp only at hc hd;subst hc hd;apply jE0 F.slot_list_count %[_,ho|1] F.entry_list_count (F.args_list_count_2 _ _) (SeqAt.list_countAt a its.toArray n dd sl u (eqU z)) ⟨ho,λy hy=>?_,?_⟩
 . exact fb ru fz r fs y #[hy,0]
 . rw[show its.toArray.toList=its from rfl,qX r fs];erw[.int ((xs.countP λy=>eqV y z:Nat):Int),H,I.tok _,%[|0],q]
end
def dX(g:Nat->Int):Nat->Int
 |0=>g 0
 |k+1=>if dX g k<g (k+1)then g (k+1)else dX g k
def Ba(ns:List Int)(d:Int):Int:=match ns with | []=>d | _::_=>dX (λi=>ns[i]?.getD 0) (ns.length-1)
section
variable {prog:Program}{w:World}{A:Around}{R:Result->Shared->Prop}{I S:Addr}{fp wr:List Addr}{n:Nat}{P:Nat->Value->Prop}{St:Nat->Heap->Prop}{g:Nat->Int}{kw:List (Str×Value)}
def nU:(toString "max"++toString ".loop":String)="max.loop":=by decide
def AX(W:Walks prog w A.in1 I fp wr n P St)(gv:∀i v,P i v->∃t,v=Value.int (g i) t)(nS:S∉fp):∀(k j:Nat)(s:Shared)(t:Tok)(c:Nat),j+1+k=n->St (j+1) s.heap ->
 s.heap.get? S=some { cls:=.type "list",dict:=none,data:=.seq #[.int (dX g j) t,.int (dX g j) t] c,slots:=#[] } ->
 (∀t' h' tk,(∀b o,b∉wr->b≠S->s.heap.get? b=some o->h'.get? b=some o)->R (.ok (.ret (.int (dX g (n-1)) t'))) { s with heap:=h',toks:=tk }) ->
 codeAny (model prog w) A (.builtin "max.loop" %[[.ref I,.none,.ref S]|kw]) R s:=by
 let nw:S∉wr:=λz=>nS (W.sub _ z)
 intro k
 induction k with
 |zero=>
   intro j s t c ek st eS q;apply codeAny_builtin wO1 ?_;rw[jT0 qP1 _];show wpAny _ A.in1 (seqItems? (.ref S) >>= _) _ _ s;apply zD0 (qY0 eS rfl ?_);show wpAny _ A.in1 (tryCatch (pyNext (.ref I)) _ >>= _) _ _ s;apply zD0 (wI0 (W.done s _ _ (by rw[←ek];exact st) λh' tk kp=>?_));show wpAny _ A.in1 (updateSeq S (λ_=>#[]) >>= _) _ _ _;apply zD0 ?_;apply jZ0 (kp S _ nw eS) rfl (zD0 (jZ1 (zI0 ?_)));let e:n-1=j:=#[0]
   rw[e]at q;exact q t _ tk λb o h1 h2 eb=>(Heap.get?_update_other _ _ (Ne.symm h2)).trans (kp b o h1 eb)
 |succ k ih=>
   intro j s t c ek st eS q;apply codeAny_builtin wO1 ?_;rw[jT0 qP1 _];show wpAny _ A.in1 (seqItems? (.ref S) >>= _) _ _ s;apply zD0 (qY0 eS rfl ?_);show wpAny _ A.in1 (tryCatch (pyNext (.ref I)) _ >>= _) _ _ s;apply zD0 (wI0 (W.item (j+1) s _ _ #[0] st λv h' tk pv st' kp=>?_));let%[tv|1]:=gv _ _ pv;let eS':=kp S _ nw eS;show wpAny _ A.in1 (tryCatch (holding [Value.int (g (j+1)) tv,Value.int (g (j+1)) tv] (richCompare .Gt (Value.int (g (j+1)) tv) (Value.int (dX g j) t) >>= _)) _ >>= _) _ _ _;apply zD0 (wI0 (qH1 (zD0 (CmpOf.ints_gt (prog:=prog) (w:=w) (A:=A.in1) (P:=λi v=>∃t,v=Value.int (if i=0 then dX g j else g (j+1)) t) (λi=>if i=0 then dX g j else g (j+1)) (λi v h=>h) 1 0 _ _ _ _ _ %[tv|1] ⟨t,rfl⟩ ?_))));apply zD0 (qH1 (zV1 ?_));apply zD0 (jZ1 (zI0 ?_))
   by_cases c1:dX g j<g (j+1)
   . let e1:dX g (j+1)=g (j+1):=by unfold dX;rw[JB c1]
     apply zX1 (λ_=>?_) (λhab=>absurd (zD1 c1) hab);apply zD0 ?_;apply jZ0 eS' rfl (zD0 (jZ1 ?_));rw[nU];apply zI0 %[wM0 qP1 _|ih (j+1) _ tv _ #[0] (W.frame _ _ _ st' λb hb o eb=>?_) (by rw[e1];exact Heap.get?_update_self _ eS' rfl) λt' h2 tk2 kp2=>?_]
     . exact(Heap.get?_update_other _ _ (λz:S=b=>nS (by rw[z];exact hb))).trans eb
     . exact q t' h2 tk2 λb o h1 h3 eb=>kp2 b o h1 h3 ((Heap.get?_update_other _ _ (Ne.symm h3)).trans (kp b o h1 eb))
   . let e1:dX g (j+1)=dX g j:=by unfold dX;rw[Jy c1];cases j <;> rfl
     apply zX1 (λhab=>absurd (zR1 hab) c1) (λ_=>?_);apply zD0 (jZ1 ?_);rw[nU];apply zI0 %[wM0 qP1 _|ih (j+1) _ t c #[0] st' (by rw[e1];exact eS') λt' h2 tk2 kp2=>?_];exact q t' h2 tk2 λb o h1 h3 eb=>kp2 b o h1 h3 (kp b o h1 eb)
def AY(W:Walks prog w A.in1 I fp wr n P St)(gv:∀i v,P i v->∃t,v=Value.int (g i) t)(nS:S∉fp)(hn:0<n){s:Shared}{c:Nat}(st:St 0 s.heap)(eS:s.heap.get? S=some { cls:=.type "list",dict:=none,data:=.seq #[] c,slots:=#[] })
 (q:∀t' h' tk,(∀b o,b∉wr->b≠S->s.heap.get? b=some o->h'.get? b=some o)->R (.ok (.ret (.int (dX g (n-1)) t'))) { s with heap:=h',toks:=tk }):
 codeAny (model prog w) A (.builtin "max.loop" %[[.ref I,.none,.ref S]|kw]) R s:=by
 let nw:S∉wr:=λz=>nS (W.sub _ z)
 apply codeAny_builtin wO1 ?_;rw[jT0 qP1 _];show wpAny _ A.in1 (seqItems? (.ref S) >>= _) _ _ s;apply zD0 (qY0 eS rfl ?_);show wpAny _ A.in1 (tryCatch (pyNext (.ref I)) _ >>= _) _ _ s;apply zD0 (wI0 (W.item 0 s _ _ hn st λv h' tk pv st' kp=>?_));let%[tv|1]:=gv _ _ pv;let eS':=kp S _ nw eS;show wpAny _ A.in1 (updateSeq S (λ_=>#[Value.int (g 0) tv,Value.int (g 0) tv]) >>= _) _ _ _;apply zD0 ?_;apply jZ0 eS' rfl ?_;rw[nU];apply zI0 %[wM0 qP1 _|AX W gv nS (n-1) 0 _ tv _ #[0] (W.frame _ _ _ st' λb hb o eb=>?_) (Heap.get?_update_self _ eS' rfl) λt' h2 tk2 kp2=>?_]
 . exact(Heap.get?_update_other _ _ (λz:S=b=>nS (by rw[z];exact hb))).trans eb
 . exact q t' h2 tk2 λb o h1 h3 eb=>kp2 b o h1 h3 ((Heap.get?_update_other _ _ (Ne.symm h3)).trans (kp b o h1 eb))
end
section
variable {X:Cx}{e k:Expr}{te tk:TE}{pos p1 kp:Pos}
instance rMax1(K:W.Frag)(xs:List V)(H:Hp)(Q:VK):∀a ns,xs=[.ref a]->SqL K H a (ns.map V.int)->ns≠[]->Q (.int (Ba ns 0)) H:=0
def mq(hc:X.calm=true):gC X (.builtin "max") (rMax1 X.K):=by
 intro Jx s2 σ H2 xs us Q I2 r h;erw[a,ns,1,hq,hn,q]at h;let%[u,1|ru]:=kx r;cases ru;let%[its,r',p|hz]:=I2.list hq;let hl:=r'.length;rw[zF0]at hl;let JD:a<‹s2›:=by erw[o,n,e,_]at p;exact zO0 e
 apply call_function_tree F.kind_max F.plain_max F.entry_max (F.args_max1 _) ?_;show wpAny _ X.A.in1 (Builtin.Builtins.bindParams "max" ["key","default"] 0 %[[]|[]] >>= λ_=>_) _ _ s2;apply zD0 (qQ1 (a:=[none,none]) rfl ?_);apply zD0 (zI0 ?_);apply zD0 (jD1 p.isList ?_);apply zD0 (zQ1 ?_);rw[nU];let hne:a≠‹s2›:=qB0 JD;let W:=Walks.list (prog:=X.prog) (w:=X.w) (A:=X.A.in1) (I2.ok.hd hc) ‹s2› a hne its.toArray;let I3:#[8] H2 { s2 with heap:=s2.heap.push { cls:=.type "list_iterator",data:=.fields #[.ref a,.int 0 0] } }:=I2.kept (t':=s2.toks) λb o eb=>zR0 _ eb
 let I4:#[8] H2 { s2 with heap:=(s2.heap.push { cls:=.type "list_iterator",data:=.fields #[.ref a,.int 0 0] }).push { cls:=.type "list",data:=.seq #[] } }:=I3.kept (t':=s2.toks) λb o eb=>zR0 _ eb
 let hz1:∀o:Obj,(s2.heap.push o).objs.size=‹s2›+1:=λo=>by simp [Heap.push]
 let nS:(s2.heap.push { cls:=.type "list_iterator",data:=.fields #[.ref a,.int 0 0] }).objs.size∉[‹s2›,a]:=by
  intro hm;rcases zV0 hm with z | z
  . rw[hz1]at z;exact absurd z (Nat.succ_ne_self _)
  . let z:=zP0 z;rw[hz1]at z;exact absurd z (wQ0 (wJ0 JD))
 let gv:∀i v,its.toArray[i]?=some v->∃t,v=Value.int (ns[i]?.getD 0) t:=λi v hv=>by
  let%[b,t,hb|1]:=pQ r' (i:=i) (v:=v) (by first | exact hv | simpa using hv | (rw[List.getElem?_toArray]at hv;exact hv));erw[t,by rw[hb];rfl]
 let n0:0<ns.length:=List.length_pos_iff.mpr hn;apply zI0 %[wM0 qP1 _|AY (g:=λi=>ns[i]?.getD 0) W gv nS (by rw[zN0,←hl];exact n0) %[%[_,zR0 _ (qA0 _ rfl),1|1]|(p.isList.push _).push _] (qA0 _ rfl) λt' h' tk kp=>?_];rw[zN0,←hl];let em:dX (λi=>ns[i]?.getD 0) (ns.length-1)=Ba ns 0:=by
  cases ns with
  |nil=>exact absurd rfl hn
  |cons _ _=>rfl
 rw[em];erw[.int _,H2,6,%[|0],q];let J:=Inv.turnedL (h':=h') (t':=tk) (ch:=[‹s2›,‹s2›+1]) I4 (λb o hb eb=>kp b o (λz=>hb (by rw[zP0 z];exact zW0)) (λz=>hb (by rw[z,hz1];exact qK0 _ zW0)) eb);apply J λb hb=>?_
 rcases zV0 hb with h | h
 . rw[h];exact I2.fpOk (zH0 _) (I2.hok.fresh (zH0 _))
 . rw[zP0 h];exact I2.fpOk (qM0 _) (I2.hok.fresh (qM0 _))
end
section
variable {prog:Program}{w:World}{A:Around}{E:#[6]}{s:Shared}
def Ce{it t:Addr}{i:Nat}{items:Array Value}{x:Value}{Q:#[6]}(hit:s.heap.IsTupleIter it t i)(ht:s.heap.IsTuple t items)(hx:items[i]?=some x)
 (q:∀h',h'.IsTupleIter it t (i+1)->Heap.SameBut it s.heap h'->Q x { s with heap:=h' }):‹w.A› (Builtin.SmallTypes.nextOf (.ref it)) Q E s:=by
 let%[o,ho,hc|hd]:=id hit;erw[ol,hol,_,nl,hdl]at ht;unfold Builtin.SmallTypes.nextOf;apply zD0 (zP1 (name:=Str.ofString "__next__") hit.typeIs qO1 (qD1 qO1 hit.typeIs F.entry_tuple_iterator_next ?_ (F.args_tuple_iterator_next_1 _)));show wpAny _ _ (field (.ref it) 0 >>= _) _ _ s;apply zD0 (zY1 ho hd (x:=.ref t) rfl ?_);show wpAny _ _ (if(Value.ref t==Value.none)=true then _ else _) _ _ s;rw[Jy (show ¬ ((Value.ref t==Value.none)=true)from zY0)];show wpAny _ _ (field (.ref it) 1 >>= _) _ _ s;apply zD0 (zY1 ho hd (x:=.int i 0) rfl ?_);show wpAny _ _ (seqItems? (.ref t) >>= _) _ _ s;apply zD0 (qY0 hol hdl ?_);simp only[qS0,hx];apply zD0 (wpAny_setField ho hd #[2] (zI0 %[x,1|zI0 (q _ ?_ (Heap.SameBut.update ..))]));erw[_,Heap.get?_update_self _ ho (Obj.isFreed_of_fields (Obj.data_mapFields hd _)),(Obj.cls_mapFields ..).trans hc,by rw[Obj.data_mapFields hd];simp [rawInt]]
def zx{it t:Addr}{i:Nat}{items:Array Value}{Q:#[6]}(hh:A.handled=none)(hit:s.heap.IsTupleIter it t i)(ht:s.heap.IsTuple t items)(hx:items[i]?=none)
 (q:∀h' e,Heap.ExtBut it s.heap h'->(∃o,h'.get? e=some o/\o.cls=.type "StopIteration")->E (.ref e) { s with heap:=h' }):‹w.A› (Builtin.SmallTypes.nextOf (.ref it)) Q E s:=by
 let%[o,ho,hc|hd]:=id hit;erw[ol,hol,_,nl,hdl]at ht;unfold Builtin.SmallTypes.nextOf;apply zD0 (zP1 (name:=Str.ofString "__next__") hit.typeIs qO1 (qD1 qO1 hit.typeIs F.entry_tuple_iterator_next ?_ (F.args_tuple_iterator_next_1 _)));show wpAny _ _ (field (.ref it) 0 >>= _) _ _ s;apply zD0 (zY1 ho hd (x:=.ref t) rfl ?_);show wpAny _ _ (if(Value.ref t==Value.none)=true then _ else _) _ _ s;rw[Jy (show ¬ ((Value.ref t==Value.none)=true)from zY0)];show wpAny _ _ (field (.ref it) 1 >>= _) _ _ s;apply zD0 (zY1 ho hd (x:=.int i 0) rfl ?_);show wpAny _ _ (seqItems? (.ref t) >>= _) _ _ s;apply zD0 (qY0 hol hdl ?_);simp only[qS0,hx]
 first
  |apply zD0 (wS0 (zD0 (wpAny_setField ho hd #[2] (zD0 (jZ1 ?_)))))
  |apply zD0 (wS0 (zD0 (wpAny_setField ho hd #[2] ?_)))
 show wpAny _ _ (newExc (.type "StopIteration") [] >>= _) _ _ _;apply zD0 ?_;simp only[newExc,newTuple];apply zD0 (zQ1 ?_ (by size_fits));apply zD0 (m:=firstArgMember _ _) (qQ1 (a:=Value.none) (by first | rfl | (simp only[firstArgMember];rfl)) ?_);apply zQ1 ?_ (by size_fits);simp only[raiseNew];apply zD0 (wpAny_handled ?_)
 first | rw[show A.in1.handled=none from hh] | rw[hh]
 apply zD0 (zI0 (wpAny_throw ?_));exact q _ _ (((Heap.SameBut.update ..).extBut.push _).push _) %[_,qA0 _ rfl|1]
def yW{e it t:Addr}{j:Nat}{i:Int}{old:Value}{items:Array Value}{Q:Option Value->Shared->Prop}(hh:A.handled=none)(he:IsEnum s.heap e it i old)(hit:s.heap.IsTupleIter it t j)(ht:s.heap.IsTuple t items)(hx:items[j]?=none)
 (q:∀h',Heap.ExtBut it s.heap h'->Q none { s with heap:=h' }):‹w.A› (pyNext (.ref e)) Q E s:=by
 let hT:s.TypeIs (.ref e) "enumerate":=%[_,he|1]
 unfold pyNext;apply zD0 (wL1 (zP1 (name:=Str.ofString "__next__") hT F.slot_enumerate_next (qD1 F.slot_enumerate_next hT F.entry_enumerate_next ?_ (F.args_enumerate_next_1 _))));show wpAny _ _ (field (.ref e) 2 >>= _) _ _ _;apply zD0 (zY1 he rfl (x:=.ref it) rfl ?_);apply zD0 (zx hh hit ht hx λh' x he' hx'=>?_);erw[o,ho,hc]at hx';apply zD0 (wO0 (T:="StopIteration") (b:=true) %[o,ho|hc] isSubtype_stop ?_);exact zI0 (q h' he')
end
def yY{prog:Program}{w:World}{A:Around}(hh:A.handled=none)(it l:Addr)(hne:l≠it)(items:Array Value):Draws prog w A it [it,l] items.size (λi v=>items[i]?=some v) (λi h=>h.IsTupleIter it l i/\h.IsTuple l items) where
 live:=λ_ _ st=>let⟨o,ho,_⟩:=st.1;%[o|ho]
 frame:=λ_ _ _ st k=>%[st.1.at λo e=>k it #[2] o e|st.2.at λo e=>k l #[2] o e]
 item:=λi s Q E hi st q=>by
  apply Ce st.1 st.2 (x:=items[i]) (by simp [hi]) λh' a b=>?_
  exact q _ h' s.toks (by simp [hi]) %[a|st.2.extBut b.extBut hne] b
 done:=λs Q E st q=>zx hh st.1 st.2 #[2] q
open AutoSeq1 (wpAny_loadPart') in
set_option maxHeartbeats 1000000 in
def ur(l:Addr)(items:Array Value)(n:Nat)(dct:Option Addr)(sl:Array (Option Value)):
 Meets (Builtin.«enumerate.__new__» %[[.type "enumerate",.ref l]|[]]) (λ_ R s=>s.heap.get? l=some { cls:=.type "tuple",dict:=dct,data:=.seq items n,slots:=sl }/\
  R (.ok (.ret (.ref (s.heap.push { cls:=.type "tuple_iterator",data:=.fields #[.ref l,.int 0 0] }).objs.size)))
   { s with heap:=(s.heap.push { cls:=.type "tuple_iterator",data:=.fields #[.ref l,.int 0 0] }).push { cls:=.type "enumerate",data:=.fields #[.none,.bool false,.ref ‹s›,rawInt 0,.none,.none] } }):=
 .of_wp λprog w A R s h=>by
  erw[hp,g,d,tk,os]at s;erw[hl,h]at h;let hsub:=sub_enumerate;let hL:Heap.IsTuple (Shared.heap %[hp,g,d,tk|os]) l items:=⟨_,hl,rfl,n,rfl⟩
  wp_walk using wpAny_loadPart' hl
  apply wpAny_stack_any λst=>zI0 ?_
  split
  . rename_i c _ _ _ _ _;cases(c==Value.type "enumerate")
    . wp_walk using wpAny_loadPart' hl,qZ0 hL
      erw[0,h]
    . wp_walk using wpAny_loadPart' hl,qZ0 hL
      erw[0,h]
  . wp_walk using wpAny_loadPart' hl,qZ0 hL
    erw[0,h]
section
variable {prog:Program}{w:World}{A:Around}{E:#[6]}{s:Shared}
def wB{l:Addr}{items:Array Value}{Q:#[6]}(hL:s.heap.IsTuple l items)
 (q:∀h',IsEnum h' (‹s›+1) ‹s› 0 .none->h'.IsTupleIter ‹s› l 0->(∀b o,s.heap.get? b=some o->h'.get? b=some o)->Q (.ref (‹s›+1)) { s with heap:=h' }):
 ‹w.A› (call (.type "enumerate") [.ref l]) Q E s:=by
 erw[%[c,dct,dt|sl],hl,hc,n,hd]at hL
 replace hc:c=.type "tuple":=hc
 replace hd:dt=.seq items n:=hd
 subst hc hd;apply callType_new F.called_enumerate ⋯ (F.typeCall_enumerate_1 _) (F.newCall_enumerate_1 _) (λobj=>F.args_object_init_2 obj _) F.entry_enumerate_new (ur l items n dct sl) %[hl|6];let hz:(s.heap.push { cls:=.type "tuple_iterator",data:=.fields #[.ref l,.int 0 0] }).objs.size=‹s›+1:=wG1 ..;show _/\_;rw[hz];let he:IsEnum ((s.heap.push { cls:=.type "tuple_iterator",data:=.fields #[.ref l,.int 0 0] }).push { cls:=.type "enumerate",data:=.fields #[.none,.bool false,.ref ‹s›,rawInt 0,.none,.none] }) (‹s›+1) ‹s› 0 .none:=by
  have:=qA0 (s.heap.push { cls:=.type "tuple_iterator",data:=.fields #[.ref l,.int 0 0] }) (o:={ cls:=.type "enumerate",data:=.fields #[.none,.bool false,.ref ‹s›,rawInt 0,.none,.none] }) rfl
  rw[hz]at this;exact this
 erw[%[_,he|1],q _ he ⟨_,zR0 _ (qA0 _ rfl),rfl,rfl⟩ λb o x=>zR0 _ (zR0 _ x)]
end
def BY(K:W.Frag)(a:Addr):It:=
 ⟨λi H=>∃xs x,SqT K H a xs/\xs[i]?=some x,λi H y H'=>∃t,y=.ref t/\H t=none/\∀xs x,SqT K H a xs->xs[i]?=some x->H'=upd H t (.tup [.int i,x]),λi H=>∃xs,SqT K H a xs/\xs.length<=i⟩
def uY{K:W.Frag}{elts:List Expr}{k:Nat}{pos:Pos}(a e it:Addr)(hei:e≠it)(hai:a≠it)(hae:a≠e):
 Turn P w K (.Tuple elts k pos) (BY K a) [e,it] e (λi h=>(∃old,IsEnum h e it i old)/\h.IsTupleIter it a i) where
 mem:=by simp
 obj:=λi h st b hb=>by
  erw[%[old|he],o,e2,c,d]at st;rcases zV0 hb with z | z
  . subst z;erw[_,he,λv z=>nomatch z]
  . let z':=zP0 z;subst z';erw[o,e2,λv z=>by rw[d]at z;cases z]
 keep:=λi h h' st k=>by
  erw[%[old|he],hit]at st;erw[%[old|k e #[2] _ he],hit.at λo x=>k it #[2] o x]
 item:=by
  exists 5;erw[xs,x,hq,hx]at hg;let%[its,rv,p|hz]:=I.tuple hq;let%[u,hu|ru]:=rv.get hx;erw[%[old|he],hit]at st;let hi:i<its.toArray.size:=by
   rw[zN0];exact(qD0 hu).1
  apply wpAny_pyNext_enum_itemD (yY (prog:=X.prog) (w:=X.w) (A:=X.A.in1) (I.ok.hd hc) it a hai its.toArray) he %[hit|p] hi hei (by simp [hei,Ne.symm hae]) λy h1 tk hy ho hst1 hT hsz hk=>?_
  let ey:y=u:=by
   let h1:its.toArray[i]?=some u:=#[hu,0]
   rw[h1]at hy;exact(zT0 hy).symm
  subst ey;erw[0,wpAny_letOwnedTupleGo_enum ho λh2 he2 hs2=>?_];let elt:e<‹s›:=zO0 he;let hT2:h2.get? ‹s›=some { cls:=.type "tuple",data:=.seq #[.int i tk,y] }:=(hs2.2 _ (Ne.symm (qB0 elt))).trans hT;let I2:#[8] (upd H ‹s› (.tup [.int i,x])) { s with heap:=h2,toks:=tk+1 }:=by
   apply I.turnedNew (ch:=[e,it]) (λb ob hb eb=>?_) hf (zH0 _) %[by show 2<=sizeLine;decide,[.int i tk,y],.cons %[|0] (.cons ru .nil),%[_,hT2,1|0],_,hT2|1];let b1:b≠e:=λz=>hb (by simp [z])
   let b2:b≠it:=λz=>hb (by simp [z])
   exact(hs2.2 b b1).trans (hk b ob b1 b2 eb)
  erw[.ref ‹s›,_,I2,1,%[0,I.hok.fresh (zH0 _)|λys z hy hyi=>?_],%[%[y|by simpa using he2]|hst1.1.at λo z=>(hs2.2 it (Ne.symm hei)).trans z],λb hb=>?_]
  . let e1:=I.tuple_inj hy hq;subst e1;rw[hx]at hyi;cases hyi;rfl
  . let z:=hf b hb;let JD:b<‹s›:=by
     rcases zV0 hb with y | y
     . rw[y];exact elt
     . rw[zP0 y];erw[o,e2,_]at hit;exact zO0 e2
    rw[aD (qB0 JD)];exact z.1
 done:=by
  exists 5;erw[xs,hq,hx]at hg;let%[its,rv,p|hz]:=I.tuple hq;erw[%[old|he],hit]at st;let hl:=rv.length;exact yW (I.ok.hd hc) he hit p (Array.getElem?_eq_none (by simp;omega)) λh' eb=>%[1|I.turnedL (t':=s.toks) (ch:=[e,it]) (λb o hb eo=>eb b o (λz=>hb (by simp [z])) eo) hf]
 self:=λ_ _ _ _ _ st h=>by
  erw[%[old|he],_]at st;exact jN1 he h
section
variable {X:Cx}{elts:List Expr}{k:Nat}{tpos:Pos}
instance ZiEnumT(K:W.Frag)(R:(It->Hp->Prop))(x:V)(H1:Hp):∀a,x=.ref a->(∃xs,SqT K H1 a xs)->R (BY K a) H1:=0
def EO(K:W.Frag)(tl:TE):TI:=λσ H R=>tl σ H λx H1=>ZiEnumT K R x H1
def tS{p pos:Pos}(hg:Gl X "enumerate")(hm:X.mg "enumerate"=none)(hl:PE X l tl)(hs:starEach [l] X.env=[(false,eval l X.env)]:=by rfl):
 PI X (.Tuple elts k tpos) (.Call (.Name "enumerate" p) [l] [] pos) (EO X.K tl):=by
 exists 4,R,I,h;apply Call_ (gR I hg hm boot_enumerate (zN1 ?_ hs rfl));rw[hs];show wpAny _ _ (spliced ((false,eval l X.env)::backTo pos (starEach [] X.env))) _ _ s;apply qJ1 (thn (hl Jx s σ H _ I h) λu s1 ⟨x,H1,I1,r1,a,ex,⟨xs,hq⟩,q⟩=>?_);subst ex;cases r1;let%[its,rv,p|hz]:=I1.tuple hq;let alt:=p.lt;apply qT1 ?_;apply wB p λh' he hit hk=>?_
 apply jN1 he ?_;let I2:#[8] H1 { s1 with heap:=h' }:=I1.kept (t':=s1.toks) hk;erw[‹s1›+1,[‹s1›+1,‹s1›],_,_,H1,1,I2,uY a _ _ (wQ0 (qM1 _)) (qB0 alt) (qB0 (wJ0 alt)),%[%[_|he]|hit],λb hb=>?_,q];rcases zV0 hb with z | z
 . rw[z];exact I1.fpOk (qM0 _) (I1.hok.fresh (qM0 _))
 . rw[zP0 z];exact I1.fpOk (zH0 _) (I1.hok.fresh (zH0 _))
end
def qU{K:W.Frag}{xs:List V}{g:TG}{tb:TS}{D:Ends}{σ:St}{H:Hp}(Pv:Nat->St->Hp->Prop)(h0:Pv 0 σ H)(hl:∀i σ H,i<=xs.length->Pv i σ H->SqT K H a xs)
 (hs:∀i x σ H t,xs[i]?=some x->Pv i σ H->H t=none->g (.ref t) σ (upd H t (.tup [.int i,x])) λσ2 H2=>tb { D with nx:=Pv (i+1),ct:=Pv (i+1),bk:=D.nx } σ2 H2)(hd:∀ σ H,Pv xs.length σ H->D.nx σ H):
 ∃ W:Nat->Nat->St->Hp->Prop,(∃m,W 0 m σ H)/\∀i m σ H,W i m σ H ->
  ((BY K a).stop i H/\D.nx σ H)∨((BY K a).go i H/\∃N:St->Hp->Prop,(∀ σ' H',N σ' H'->∃m',m'<m/\W (i+1) m' σ' H')/\∀x H',(BY K a).yld i H x H'->g x σ H' λσ2 H2=>tb { D with nx:=N,ct:=N,bk:=D.nx } σ2 H2):=by
 erw[λi m σ H=>m=xs.length-i/\i<=xs.length/\Pv i σ H,%[xs.length,by simp,zQ0 _|h0],6];rintro i m σ H ⟨rfl,hi,p⟩;let q:=hl i σ H hi p
 by_cases JD:i<xs.length
 . refine .inr %[%[xs,xs[i],q|by simp [JD]],Pv (i+1),λσ' H' p'=>%[xs.length-(i+1),3,1,JD|p']|λx H' y=>?_];erw[t,1,ht,e]at y;let e':=e xs xs[i] q (by simp [JD]);subst e';exact hs i xs[i] σ H t (by simp [JD]) p ht
 . let e:i=xs.length:=#[0]
   subst e;exact .inl %[%[xs,q|zH0 _]|hd σ H p]
def ItV(K:W.Frag)(a:Addr)(xs:List V):It:=%[λi H=>SqL K H a xs/\i<xs.length,λi H y H'=>H'=H/\xs.reverse[i]?=some y|λi _=>xs.length<=i]
def xw{K:W.Frag}(a it:Addr)(xs:List V):Turn P w K tg (ItV K a xs) [it] it (λi h=>i<=xs.length/\h.IsRevIter it a ((xs.length:Int)-1-(i:Int))) where
 mem:=by simp
 obj:=λi h st b hb=>by
  let e:b=it:=#[hb,0]
  subst e;erw[_,o,e,c,d]at st;erw[o,e,λv z=>by rw[d]at z;cases z]
 keep:=λi h h' st k=>%[st.1|st.2.at λo e=>k it #[2] o e]
 item:=by
  exists 5;erw[hq,hi]at hg;let%[its,rv,p|hz]:=I.list hq;let hj:xs.length-1-i<xs.length:=#[0]
  let hx:xs[xs.length-1-i]?=some xs[xs.length-1-i]:=zS0 hj;let%[u,hu|ru]:=rv.get hx;let%[f0,f1,f2,f3,f4|f5]:=hf it #[2];erw[_,hit]at st;let e1:((xs.length:Int)-1-(i:Int))=((xs.length-1-i:Nat):Int):=#[0]
  rw[e1]at hit;apply wpAny_pyNext_rev_item hit p.isList (x:=u) #[hu,0] λh' st' sb=>?_
  let I1:#[8] H { s with heap:=h' }:=I.turned (t':=s.toks) (λb o hb e=>(sb.2 b hb).trans e) f0 f1 f3 f4 f5;let e2:((xs.length-1-i:Nat):Int)-1=(xs.length:Int)-1-((i+1:Nat):Int):=#[0]
  rw[e2]at st';let%[o,e,c|d]:=id st';erw[u,1,uB (s:={ s with heap:=h' }) e c d ⋯ ⟨xs[xs.length-1-i],H,I1,ru,⟨rfl,?_⟩,⟨#[0],st'⟩,λb hb=>(hf b hb).1⟩];rw[jP1 hi,hx]
 done:=by
  exists 5;let hg:xs.length<=i:=hg;let%[f0,f1,f2,f3,f4|f5]:=hf it #[2];erw[hi,hit]at st;let e1:(xs.length:Int)-1-(i:Int)=-1:=#[0]
  rw[e1]at hit;exact wpAny_pyNext_rev_end (I.ok.hd hc) hit λh' eb=>%[1|I.turned (t':=s.toks) (λb o hb e=>eb b o hb e) f0 f1 f3 f4 f5]
 self:=λ_ _ _ _ _ st h=>wpAny_pyIter_revIter st.2 h
def Bu{K:W.Frag}{xs:List V}{g:TG}{tb:TS}{D:Ends}{σ:St}{H:Hp}(Pv:Nat->St->Hp->Prop)(h0:Pv 0 σ H)(hl:∀i σ H,i<=xs.length->Pv i σ H->SqL K H a xs)
 (hs:∀i x σ H,i<xs.length->xs.reverse[i]?=some x->Pv i σ H->g x σ H λσ2 H2=>tb { D with nx:=Pv (i+1),ct:=Pv (i+1),bk:=D.nx } σ2 H2)(hd:∀ σ H,Pv xs.length σ H->D.nx σ H):
 ∃ W:Nat->Nat->St->Hp->Prop,(∃m,W 0 m σ H)/\∀i m σ H,W i m σ H ->
  ((ItV K a xs).stop i H/\D.nx σ H)∨((ItV K a xs).go i H/\∃N:St->Hp->Prop,(∀ σ' H',N σ' H'->∃m',m'<m/\W (i+1) m' σ' H')/\∀x H',(ItV K a xs).yld i H x H'->g x σ H' λσ2 H2=>tb { D with nx:=N,ct:=N,bk:=D.nx } σ2 H2):=by
 erw[λi m σ H=>m=xs.length-i/\i<=xs.length/\Pv i σ H,%[xs.length,by simp,zQ0 _|h0],6];rintro i m σ H ⟨rfl,hi,p⟩;let q:=hl i σ H hi p
 by_cases JD:i<xs.length
 . refine .inr %[%[q|JD],Pv (i+1),λσ' H' p'=>%[xs.length-(i+1),3,1,JD|p']|λx H' y=>?_];erw[e,ex]at y;subst e;exact hs i x σ _ JD ex p
 . let e:i=xs.length:=#[0]
   subst e;exact .inl %[zH0 _|hd σ H p]
def yA{X:Cx}(K:W.Frag)(h:X.K=K:=by rfl):MtR X "list.count" (rCountL K):=by subst h;exact ul
section
variable {X:Cx}{o e:Expr}{es:List Expr}{to ta:TE}{t:TA}{T id:String}{name f:Str}{r:V->List V->Hp->VK->Prop}{JF JC pos:Pos}
def Eo(K:W.Frag)(pa:PlainAttrs T)(slot:Slot T name id)(hty:typeOf (.builtin id)=pure (.type "method_descriptor"))(hm:MtR X id r)(ho:PE X o to)(ha:PA X (e::es) t)(hK:X.K=K:=by rfl)
 (hbase:attributeBase o name X.env (eval o X.env)=eval o X.env:=by rfl)
 (hfew:((backTo JC (starEach (e::es) X.env)).all (λx=>!x.1)&&(backToKw JC (keywordEach [] X.env)).all (λx=>x.1.isSome)&&decide ((e::es).length+([]:List Keyword).length+(if([]:List Keyword).isEmpty then 0 else 1)<30))=true:=by rfl)
 (hline:(JF.endLine==JC.line)=true:=by rfl)(hs:starEach (e::es) X.env=(false,eval e X.env)::starEach es X.env:=by rfl)(hplain:(backTo JC (starEach es X.env)).any (·.1)=false:=by rfl):
 PE X (.Call (.Attribute o name JF) (e::es) [] JC) (tBM K T r to t):=by subst hK;exact cW pa slot hty hm ho ha hbase hfew hline hs hplain
def jz(K:W.Frag)(he:PE X e ta)(hK:X.K=K:=by rfl)(hb:attributeBase e f X.env (eval e X.env)=eval e X.env:=by rfl):PE X (.Attribute e f pos) (tFld K ta f):=by subst hK;exact az he hb
end
@[reducible] def cxCompO (X:Cx) (x:Str) (N:List Str) (scope:Scope) (cl:List (Str×Addr)) (s:Shared) (H:Hp) (fp:List Addr):Cx where
 prog:=X.prog
 w:=X.w
 K:=X.K
 mg:=X.mg
 base:=X.base
 A:=X.A
 N:=x::N
 s₀:=s
 H₀:=H
 env:=compEnvC scope ((x,‹s›+1)::cl) ‹s› X.env
 outer:=X.stack
 stack:=X.stack
 ex:=fp
 fn:=λy=>y==x
 calm:=X.calm
 pn:=[]
 xe:=λ_ _=>False
def CompScope.four{X:Cx}{x y z u v:Str}{scope:Scope}{k l m n:Nat}{c d e g:Addr}{cl:List (Str×Addr)}(c1:closureFor scope X.env=pure cl)(c2:∀y∈scope.names,y.2≠.cell)(c3:scope.kind=.function)(c4:∀y∈scope.names,y.2=.local->scope.names.lookup y.1=some .local)
 (c5:scope.names.lookup x=some .local)(nd:[x,y,z,u,v].Nodup)(hcl:cl=[(y,c),(z,d),(u,e),(v,g)])(hc:X.env.cells.lookup y=some c)(hd:X.env.cells.lookup z=some d)(he:X.env.cells.lookup u=some e)(hg:X.env.cells.lookup v=some g)(c6:((relabel scope X.env).names.all λp=>!(p.2==.cell||p.2==.free)||(cl.lookup p.1).isSome)=true)
 (hr:(relabel scope X.env).names.lookup y=some .cell)(hk:X.N[k]?=some y)(hs:X.env.scope.names.lookup y=some .cell)
 (hr2:(relabel scope X.env).names.lookup z=some .cell)(hk2:X.N[l]?=some z)(hs2:X.env.scope.names.lookup z=some .cell)
 (hr3:(relabel scope X.env).names.lookup u=some .cell)(hk3:X.N[m]?=some u)(hs3:X.env.scope.names.lookup u=some .cell)
 (hr4:(relabel scope X.env).names.lookup v=some .cell)(hk4:X.N[n]?=some v)(hs4:X.env.scope.names.lookup v=some .cell):CompScope X x [y,z,u,v] [k,l,m,n] scope cl where
 clos:=c1
 nocell:=c2
 kind:=c3
 names:=c4
 own:=c5
 nd:=nd
 sub:=λp hp=>by
  subst hcl;rcases zV0 hp with h | h
  . rw[h];assumption
  . rcases zV0 h with h | h
    . rw[h];assumption
    . rcases zV0 h with h | h
      . rw[h];assumption
      . rw[zP0 h];assumption
 has:=c6
 outs:=λj w h=>by
  let nyz:y≠z:=λe=>by simp [e]at nd
  let nyu:y≠u:=λe=>by simp [e]at nd
  let nyv:y≠v:=λe=>by simp [e]at nd
  let nzu:z≠u:=λe=>by simp [e]at nd
  let nzv:z≠v:=λe=>by simp [e]at nd
  let nuv:u≠v:=λe=>by simp [e]at nd
  subst hcl
  match j,h with
  |0,h=>
    let e:y=w:=zT0 h;subst e;erw[hr,k,c,1,hk,by simp [List.lookup],hs]
  |1,h=>
    let e:z=w:=zT0 h;subst e
    have:(z==y)=false:=#[Ne.symm nyz,0]
    erw[hr2,l,d,1,hk2,by simp [List.lookup,this],hs2]
  |2,h=>
    let ew:u=w:=zT0 h;subst ew;let h1:(u==y)=false:=#[Ne.symm nyu,0]
    let h2:(u==z)=false:=#[Ne.symm nzu,0]
    erw[hr3,m,e,1,hk3,by simp [List.lookup,h1,h2],hs3]
  |3,h=>
    let ew:v=w:=zT0 h;subst ew;let h1:(v==y)=false:=#[Ne.symm nyv,0]
    let h2:(v==z)=false:=#[Ne.symm nzv,0]
    let h3:(v==u)=false:=#[Ne.symm nuv,0]
    erw[hr4,n,g,1,hk4,by simp [List.lookup,h1,h2,h3],hs4]
  |j+4,h=>simp at h
end L2
namespace L2
open PySem PySem.Spec PyProof.Rows PySem.Builtin PySem.Builtin.Str
section
variable {prog:Program}{w:World}{A:Around}{E:#[6]}{s:Shared}{Q:#[6]}{x:PySem.Str}{t:Tok}
def vc{y:PySem.Str}{u:Tok}(hy:(y.length==0)=false)
 (h:∀l k,l.map (·.1)=Txt.split x y->Q (.ref ‹s›) { s with heap:=s.heap.push { cls:=.type "list",data:=.seq (strValues l).toArray },toks:=k })
 (hsz:x.length+2<=sizeLine):‹w.A› (call (.builtin "str.split") [.str x t,.str y u]) Q E s:=by
 let hn:(partsBetween x (occurrences x y 0 x.length (x.length+1)) y.length).length<=sizeLine:=by
  let e1:=StrLaws.occ_length_le x y 0 x.length (x.length+1);rw[length_partsBetween];omega
 cases h1:(decide (x.length<y.length)||decide (strKind x<strKind y))
 . cases hf:(occurrences x y 0 x.length (x.length+1)).isEmpty
   . apply jE0 wP0 (jV0 _ _ _) wJ1 (wE0 _ _) (meets_str_split_sep x y t u h1 hy hf #[0] hn) ?_;show wants Q E _ { s with toks:=_,heap:=s.heap.push { cls:=.type "list",data:=.seq (strsFrom s.toks (partsBetween x (occurrences x y 0 x.length (x.length+1)) y.length)).toArray } };rw[strsFrom_eq];exact h (numbered s.toks _) _ ((numbered_texts _ _).trans ((Jy (wA0 h1)).trans (Jy (wA0 hf))).symm)
   . exact jE0 wP0 (jV0 _ _ _) wJ1 (wE0 _ _) (meets_str_split_not_found x y t u h1 hy hf)
      (h [(x,t)] s.toks ((Jy (wA0 h1)).trans (JB hf)).symm)
 . exact jE0 wP0 (jV0 _ _ _) wJ1 (wE0 _ _) (meets_str_split_cannot_occur x y t u h1)
    (h [(x,t)] s.toks (JB h1).symm)
end
def wL:∀l:List (PySem.Str×Tok),Vals ((l.map (·.1)).map V.str) (strValues l)
 | []=>.nil
 | (x,t)::r=>.cons %[t|1] (wL r)
section
variable {X:Cx}
instance rSplit(x:V)(vs:List V)(H:Hp)(Q:VK):∀z u,x=.str z->vs=[.str u]->0<u.length->z.length<=100000->(Txt.split z u).length<=100000->(∀p,H p=none->Q (.ref p) (upd H p (.lst ((Txt.split z u).map V.str)))):=0
def pJ:MtR X "str.split" rSplit:=by
 exists 4,x,vs,v,us,Q,I,rx,rv,h;erw[z,u,1,1,hu,hz,hl,q]at h;erw[t,1]at rx;erw[w',1,t',1]at rv.one;let sl:sizeLine=16777216:=sizeLine_eq;apply vc (by rw[beq_eq_false_iff_ne];omega) (λl k e=>?_) #[0];let r:=wL l;rw[e]at r;erw[.ref _,_,I.lnew (t':=k) r (by rw[zF0];omega),1,q _ I.fresh]
def gU:gC X (.type "int") (λxs H Q=>∃x n,xs=[.str x]/\PySem.intText? x=some n/\x.length<=640/\Q (.int n) H):=by
 exists 4,xs,us,Q,I,r,h;erw[x,n,1,e,hl,q]at h;let%[u,1,t|1]:=kx r;exact PySem.W.KIN.call_text e hl %[.int n,H,I.tok _,%[|0]|q]
end
end L2
namespace HT
open PySem PyProof.Rows
section
variable {prog:Program}{w:World}{A:Around}{E:#[6]}{s:Shared}
def getItem_tuple_whole{t sl:Addr}{items:Array Value}{vl vu:Value}{lo hi:Option Int}{Q:#[6]}(ht:IsTup s.heap t items)(hs:s.heap.IsSliceOf sl vl vu .none)(pl:IsPart vl lo)(pu:IsPart vu hi)
 (hw:sIx items.size 0 lo=0/\sIx items.size items.size hi=items.size)(h:Q (.ref t) s):‹w.A› (getItem (.ref t) (.ref sl)) Q E s:=by
 let%[os,hos,hcs|hds]:=id hs;let hTs:s.TypeIs (.ref sl) "slice":=%[os,hos|hcs]
 unfold getItem
 try with_reducible apply qH1 ?_
 first | apply zD0 (zI0 ?_) | skip
 apply zD0 (wI1 ht.typeIs ⋯ ?_);apply zD0 (zP1 (name:=Str.ofString "__getitem__") ht.typeIs qF1
  (qD1 qF1 ht.typeIs entry_tuple_getitem ?_ (args_tuple_getitem _ _)))
 show wpAny _ _ (Builtin.Tuple.tupleItemsOf (.ref t) >>= _) _ _ s;apply zD0 (tupleItemsOf_ ht ?_);apply zD0 (wD0 hTs ?_);rw[JB ⋯];apply zD0 (gV hs pl pu ?_);let hyes:(((sIx items.size 0 lo:Nat):Int)==0&&(1:Int)==1&&(sIx items.size items.size hi-sIx items.size 0 lo)==items.size)=true:=by
  rw[hw.1,hw.2,wE1]
  simp
 show wpAny _ _ (if(((sIx items.size 0 lo:Nat):Int)==0&&(1:Int)==1&&(sIx items.size items.size hi-sIx items.size 0 lo)==items.size)=true then _ else _) _ _ s;rw[JB hyes];apply zD0 ?_;unfold Builtin.Tuple.tupleIsExact;apply zD0 (wD0 ht.typeIs (zI0 ?_));rw[JB ⋯]
 first
  |exact zD0 (wS0 (zI0 ⟨_,rfl,zI0 h⟩))
  | (apply zI0 ?_;erw[0,zI0 h])
  | (apply zD0 (zI0 ?_);apply zI0 ?_;erw[0,zI0 h])
  | (apply zD0 (zI0 ?_);apply zD0 (zI0 ?_);apply zI0 ?_;erw[0,zI0 h])
  | (apply zD0 (zD0 (zI0 ?_));apply zI0 ?_;erw[0,zI0 h])
end
end HT
namespace L2
open PySem PySem.Spec PyProof.Rows
section
variable {X:Cx}
instance rSlTW(K:W.Frag)(x:V)(lo:Option Int)(hi:Option Int)(H:Hp)(Q:VK):∀a xs,x=.ref a->SqT K H a xs->HT.sIx xs.length 0 lo=0/\HT.sIx xs.length xs.length hi=xs.length->Q (.ref a) H:=0
def Cp:SlR X (rSlTW X.K):=by
 exists 4,x,v,vl,vu,lo,hi,sl,Q,I,rx,hs,pl,pu,h;erw[a,xs,1,hx,hw,q]at h;cases rx;let%[its,r,ht|hz]:=I.tuple hx;let hlen:its.toArray.size=xs.length:=by rw[zN0];exact r.length.symm
 erw["tuple",_,PyProof.Rows.slot_tuple_getitem.lookup,ht.typeIs,6];exact HT.getItem_tuple_whole ht hs pl pu (by rw[hlen];exact hw) ⟨.ref a,H,I,rfl,q⟩
def wz{xs:List V}{lo hi:Option Int}(hw:HT.sIx xs.length 0 lo=0/\HT.sIx xs.length xs.length hi=xs.length):hV xs lo hi=xs:=by
 unfold hV;rw[hw.1,hw.2,jF1,wE1,qF0]
instance rSlTA(K:W.Frag)(x:V)(lo:Option Int)(hi:Option Int)(H:Hp)(Q:VK):∀a xs,x=.ref a->SqT K H a xs->H a=some (.tup xs)->(∀p H',Same H H'->H' p=some (.tup (hV xs lo hi))->Q (.ref p) H'):=0
def Cq:SlR X (rSlTA X.K):=by
 exists 4,x,v,vl,vu,lo,hi,sl,Q,I,rx,hs,pl,pu,h;erw[a,xs,1,hx,ha,q]at h
 by_cases hw:HT.sIx xs.length 0 lo=0/\HT.sIx xs.length xs.length hi=xs.length
 . exact Cp Jx s σ H _ v vl vu lo hi sl Q I rx hs pl pu %[a,xs,1,hx,hw|q a H (Same.refl _) (by rw[wz hw];exact ha)]
 . exact rA Jx s σ H _ v vl vu lo hi sl Q I rx hs pl pu %[a,xs,1,hx,hw|λp hp=>q p _ (zC0 hp _) aO]
end
def SqB(K:W.Frag)(b:Bool)(H:Hp)(a:Addr)(xs:List V):Prop:=if b=true then SqL K H a xs else SqT K H a xs
section
variable {X:Cx}
def eW(z u:Str)(i:Int):Bool:=decide (PySem.fromIndex z.length i+u.length<=z.length)&&Builtin.Str.subAt z u (PySem.fromIndex z.length i)
instance rStartsAt(x:V)(vs:List V)(H:Hp)(Q:VK):∀z u i,x=.str z->vs=[.str u,.int i]->Q (.bl (eW z u i)) H:=0
def uk:MtR X "str.startswith" rStartsAt:=by
 exists 4,x,vs,v,us,Q,I,rx,rv,h;erw[z,u,i,1,1,q]at h;erw[t,1]at rx;cases rv with
 |cons r1 rv1=>
   cases rv1 with
   |cons r2 rv2=>
     cases rv2;erw[t1,1]at r1;erw[t2,1]at r2;exact call_gives F.slot_str_startswith (jV0 _ _ _) F.entry_str_startswith (F.args_str_startswith_3 _ _ _) (gives_str_startswith_from z u i t t1 t2) %[.bl _,H,I,1|q]
end
def Fp(K:W.Frag)(a:Addr)(xs:List V):It:=%[λi H=>SqT K H a xs/\i<xs.length,λi H y H'=>H'=H/\xs.reverse[i]?=some y|λi _=>xs.length<=i]
def RevT.keep{h':Heap}(x:RevT h it t i)(k:∀o,h.get? it=some o->h'.get? it=some o):RevT h' it t i:=k _ x
def xx{K:W.Frag}(a it:Addr)(xs:List V):Turn P w K tg (Fp K a xs) [it] it (λi h=>i<=xs.length/\RevT h it a ((xs.length:Int)-1-(i:Int))) where
 mem:=by simp
 obj:=λi h st b hb=>by
  let e:b=it:=#[hb,0]
  subst e;erw[_,st.2,λv z=>by cases z]
 keep:=λi h h' st k=>%[st.1|st.2.keep λo e=>k it #[2] o e]
 item:=by
  exists 5;erw[hq,hi]at hg;let%[its,rv,p|hz]:=I.tuple hq;let hj:xs.length-1-i<xs.length:=#[0]
  let hx:xs[xs.length-1-i]?=some xs[xs.length-1-i]:=zS0 hj;let%[u,hu|ru]:=rv.get hx;let%[f0,f1,f2,f3,f4|f5]:=hf it #[2];erw[_,hit]at st;let e1:((xs.length:Int)-1-(i:Int))=((xs.length-1-i:Nat):Int):=#[0]
  rw[e1]at hit;let h63:=iC;apply pH hit p (x:=u) #[hu,0] #[0] λh' tk st' sb=>?_
  let I1:#[8] H { s with heap:=h',toks:=tk }:=I.turned (t':=tk) (λb o hb e=>(sb.2 b hb).trans e) f0 f1 f3 f4 f5;let e2:((xs.length-1-i:Nat):Int)-1=(xs.length:Int)-1-((i+1:Nat):Int):=#[0]
  rw[e2]at st';erw[u,1,uB (s:={ s with heap:=h',toks:=tk }) st' rfl rfl ⋯ ⟨xs[xs.length-1-i],H,I1,ru,⟨rfl,?_⟩,⟨#[0],st'⟩,λb hb=>(hf b hb).1⟩];rw[jP1 hi,hx]
 done:=by
  exists 5;let hg:xs.length<=i:=hg;let%[f0,f1,f2,f3,f4|f5]:=hf it #[2];erw[hi,hit]at st;let e1:(xs.length:Int)-1-(i:Int)=-1:=#[0]
  rw[e1]at hit;exact qw (I.ok.hd hc) hit λh' tk eb=>%[1|I.turned (t':=tk) (λb o hb e=>eb b o hb e) f0 f1 f3 f4 f5]
 self:=λ_ _ _ _ _ st h=>qR st.2 h
def Dw(K:W.Frag)(c:Bool)(a:Addr)(xs:List V):It:=if c=true then ItV K a xs else Fp K a xs
section
variable {X:Cx}{tg:Expr}
instance ZiRevB(K:W.Frag)(R:(It->Hp->Prop))(x:V)(H1:Hp):∀c a xs,x=.ref a->SqB K c H1 a xs->R (Dw K c a xs) H1:=0
def iRevB(K:W.Frag)(tl:TE):TI:=λσ H R=>tl σ H λx H1=>ZiRevB K R x H1
def CF{p pos:Pos}(hg:Gl X "reversed")(hm:X.mg "reversed"=none)(hl:PE X l tl)(hs:starEach [l] X.env=[(false,eval l X.env)]:=by rfl):
 PI X tg (.Call (.Name "reversed" p) [l] [] pos) (iRevB X.K tl):=by
 exists 4,R,I,h;apply qK1 (gR I hg hm pZ ?_);apply zN1 ?_ hs rfl;rw[hs];show wpAny _ _ (spliced ((false,eval l X.env)::backTo pos (starEach [] X.env))) _ _ s;apply qJ1 (thn (hl Jx s σ H _ I h) λu s1 ⟨x,H1,I1,r1,c,a,xs,ex,hq,q⟩=>?_);subst ex;cases r1;apply qT1 ?_;cases c with
 |true=>
   let hq:SqL X.K H1 a xs:=hq;let q:R (ItV X.K a xs) H1:=q;let%[its,rv,p|hz]:=I1.list hq;let hlen:=rv.length;apply call_reversed_list p.isList ?_;let hr:(s1.heap.push (revObj a ((its.toArray.size:Int)-1))).IsRevIter ‹s1› a ((xs.length:Int)-1-((0:Nat):Int)):=by
    let e:(xs.length:Int)-1-((0:Nat):Int)=(its.toArray.size:Int)-1:=by rw[zN0];omega
    rw[e];erw[_,qA0 _ rfl,1,1]
   apply wpAny_pyIter_revIter hr ?_;erw[‹s1›,[‹s1›],_,_,H1,1,I1.kept (t':=s1.toks) λb o e=>zR0 _ e,xw a _ xs,%[zQ0 _|hr],λb hb=>?_,q];let e:b=‹s1›:=#[hb,0]
   subst e;exact I1.fpOk (zH0 _) (I1.hok.fresh (zH0 _))
 |false=>
   let hq:SqT X.K H1 a xs:=hq;let q:R (Fp X.K a xs) H1:=q;let%[its,rv,p|hz]:=I1.tuple hq;let hlen:=rv.length;apply lu p (by rw[zN0,←rv.length];exact hz) λtk=>?_
   let hr:RevT (s1.heap.push { cls:=.type "reversed",data:=.fields #[.ref a,rawInt ((its.toArray.size:Int)-1)] }) ‹s1› a ((xs.length:Int)-1-((0:Nat):Int)):=by
    let e:(xs.length:Int)-1-((0:Nat):Int)=(its.toArray.size:Int)-1:=by rw[zN0];omega
    rw[e];exact qA0 _ rfl
   apply qR hr ?_;erw[‹s1›,[‹s1›],_,_,H1,1,I1.kept (t':=tk) λb o e=>zR0 _ e,xx a _ xs,%[zQ0 _|hr],λb hb=>?_,q];let e:b=‹s1›:=#[hb,0]
   subst e;exact I1.fpOk (zH0 _) (I1.hok.fresh (zH0 _))
end
def Bv{K:W.Frag}{xs:List V}{g:TG}{tb:TS}{D:Ends}{σ:St}{H:Hp}(Pv:Nat->St->Hp->Prop)(h0:Pv 0 σ H)(hl:∀i σ H,i<=xs.length->Pv i σ H->SqB K c H a xs)
 (hs:∀i x σ H,i<xs.length->xs.reverse[i]?=some x->Pv i σ H->g x σ H λσ2 H2=>tb { D with nx:=Pv (i+1),ct:=Pv (i+1),bk:=D.nx } σ2 H2)(hd:∀ σ H,Pv xs.length σ H->D.nx σ H):
 ∃ W:Nat->Nat->St->Hp->Prop,(∃m,W 0 m σ H)/\∀i m σ H,W i m σ H ->
  ((Dw K c a xs).stop i H/\D.nx σ H)∨((Dw K c a xs).go i H/\∃N:St->Hp->Prop,(∀ σ' H',N σ' H'->∃m',m'<m/\W (i+1) m' σ' H')/\∀x H',(Dw K c a xs).yld i H x H'->g x σ H' λσ2 H2=>tb { D with nx:=N,ct:=N,bk:=D.nx } σ2 H2):=by
 cases c with
 |true=>exact Bu Pv h0 hl hs hd
 |false=>
   erw[λi m σ H=>m=xs.length-i/\i<=xs.length/\Pv i σ H,%[xs.length,by simp,zQ0 _|h0],6];rintro i m σ H ⟨rfl,hi,p⟩;let q:=hl i σ H hi p
   by_cases JD:i<xs.length
   . refine .inr %[%[q|JD],Pv (i+1),λσ' H' p'=>%[xs.length-(i+1),3,1,JD|p']|λx H' y=>?_];erw[e,ex]at y;subst e;exact hs i x σ _ JD ex p
   . let e:i=xs.length:=#[0]
     subst e;exact .inl %[zH0 _|hd σ H p]
def ItB(K:W.Frag)(c:Bool)(a:Addr):It:=if c=true then Itl K a else Itt K a
section
variable {X:Cx}{tg:Expr}
instance ZiAny(K:W.Frag)(R:(It->Hp->Prop))(x:V)(H1:Hp):∀c a,x=.ref a->(∃xs,SqB K c H1 a xs)->R (ItB K c a) H1:=0
def iAny(K:W.Frag)(tl:TE):TI:=λσ H R=>tl σ H λx H1=>ZiAny K R x H1
def Em(hl:PE X l tl):PI X tg l (iAny X.K tl):=by
 exists 4,R,I,h;apply thn (hl Jx s σ H _ I h) λv s1 ⟨x,H1,I1,r1,q1⟩=>?_
 erw[c,a,e,%[xs|hq],q]at q1;subst e;cases r1;cases c with
 |true=>
   let hq:SqL X.K H1 a xs:=hq;let q:R (Itl X.K a) H1:=q;let%[its,rv,p|hz]:=I1.list hq;apply jD1 p.isList ?_;erw[‹s1›,[‹s1›],_,_,H1,1,I1.kept (t':=s1.toks) λb o e=>zR0 _ e,qB a _,%[_,qA0 _ rfl,1|1],λb hb=>?_,q];let e:b=‹s1›:=#[hb,0]
   subst e;exact I1.fpOk (zH0 _) (I1.hok.fresh (zH0 _))
 |false=>
   let hq:SqT X.K H1 a xs:=hq;let q:R (Itt X.K a) H1:=q;let%[its,rv,p|hz]:=I1.tuple hq;apply qZ0 (show s1.heap.IsTuple a its.toArray from p) ?_;erw[‹s1›,[‹s1›],_,_,H1,1,I1.kept (t':=s1.toks) λb o e=>zR0 _ e,oj a _,%[_,qA0 _ rfl,1|1],λb hb=>?_,q];let e:b=‹s1›:=#[hb,0]
   subst e;exact I1.fpOk (zH0 _) (I1.hok.fresh (zH0 _))
end
def BP{K:W.Frag}{xs:List V}{tb:TBl}{Q:VK}(Pv:Nat->Hp->Prop)(h0:Pv 0 (upd H D (.lst [])))(hl:∀i H,i<=xs.length->Pv i H->SqB K c H a xs)
 (hs:∀i x H,xs[i]?=some x->Pv i H->tb (some x::outs ix σ) H (Nx xs.length i Pv) λz H'=>∃ys,H' D=some (.lst ys)/\ys.length<sizeLine/\Nx xs.length i Pv (upd H' D (.lst (ys++[z]))))(hd:∀H,Pv xs.length H->Q (.ref D) H):
 mx (ItB K c a) D ix tb σ H Q:=by
 cases c with
 |true=>exact hZ (K:=K) (xs:=xs) Pv h0 hl hs hd
 |false=>exact dN (K:=K) (xs:=xs) Pv h0 hl hs hd
section
variable {prog:Program}{w:World}{A:Around}{E:#[6]}{s:Shared}
def wC(n:Nat):sliceBounds (some ((0:Nat):Int)) none none n=(((0:Nat):Int),(n:Int),1):=by
 let%[h1,h2|h3]:=kD (some ((0:Nat):Int)) none n;rw[HT.sIx_nat,Nat.zero_min]at h1;rw[HT.sIx_none]at h2;exact Prod.ext h1 (Prod.ext h2 h3)
set_option maxRecDepth 100000 in
def oC{l b sl:Addr}{items new:Array Value}{n n2:Nat}{vl:Value}{Q:Unit->Shared->Prop}
 (e:s.heap.get? l=some { cls:=.type "list",data:=.seq items n })(e2:s.heap.get? b=some { cls:=.type "list",data:=.seq new n2 })(hne:l≠b)
 (hs:s.heap.IsSliceOf sl vl .none .none)(pl:IsPart vl (some ((0:Nat):Int)))
 (hsz:items.size+new.size<=sizeLine)(h:Q () { s with heap:=s.heap.update l (Obj.mapSeq λxs=>xs.extract 0 0++new++xs.extract items.size xs.size) }):
 ‹w.A› (setItem (.ref l) (.ref sl) (.ref b)) Q E s:=by
 let hl:s.heap.IsList l items:=PySem.IsL.isList e;let hb:s.heap.IsList b new:=PySem.IsL.isList e2;let%[os,hos,hcs|hds]:=id hs;let hTs:s.TypeIs (.ref sl) "slice":=%[os,hos|hcs]
 let hstep:¬ ((rawPart none==rawInt 0)=true):=zY0;let hsame:Builtin.List.listSameRef (.ref l) (.ref b)=false:=by
  unfold Builtin.List.listSameRef;exact beq_eq_false_iff_ne.mpr hne
 let hmax:(max ((0:Nat):Int) (items.size:Int)).toNat=items.size:=#[0]
 let hz':((λxs:Array Value=>xs.extract 0 0++new++xs.extract items.size xs.size) items).size<=sizeLine+1:=by
  simp only[Array.size_append,Array.size_extract];omega
 unfold setItem
 try with_reducible apply qH1 ?_
 first | apply zD0 (zI0 ?_) | skip
 apply zD0 (wI1 hl.typeIs ⋯ ?_);apply zD0 (zP1 (name:=Str.ofString "__setitem__") hl.typeIs slot_list_setitem
  (qD1 slot_list_setitem hl.typeIs entry_list_setitem ?_ (args_list_setitem _ _ _)))
 show wpAny _ _ (Builtin.List.listSubscript? (.ref sl) >>= _) _ _ s;apply zD0 ?_;unfold Builtin.List.listSubscript?;apply zD0 (jY0 hTs slice_no_index ?_);simp only[Option.isNone_none,if_true];apply zI0 ?_;show wpAny _ _ (typeOf (.ref sl) >>= _) _ _ s;apply zD0 (wD0 hTs ?_)
 first
  |rw[Jy ⋯]
  |apply wF0 ⋯ ?_
 rw[listSliceParts_eq];apply zD0 (zD0 (zY1 hos hds (x:=.none) rfl (zD0 (wpAny_listPart .none ?_))));rw[Jy hstep];apply zD0 (zY1 hos hds (x:=vl) rfl (zD0 (wpAny_listPart pl ?_)));apply zD0 (zY1 hos hds (x:=.none) rfl (zD0 (wpAny_listPart .none (zI0 ?_))))
 first
  |simp only[hsame,Bool.false_eq_true,if_false]
  |apply wF0 hsame ?_
  | (dsimp only
     rw[Jy (by rw[hsame];exact zY0)])
 apply zD0 (m:=Builtin.List.listAllItems (.ref b) "must assign iterable to extended slice") ?_;unfold Builtin.List.listAllItems;apply zD0 (wD0 hb.typeIs ?_)
 first
  |apply PySem.W.KFB.if_so ⋯ ?_
  |rw[JB ⋯]
  |simp only[beq_self_eq_true,Bool.true_or,if_true]
 unfold Builtin.List.listItems;apply zD0 (qY0 e2 rfl (zI0 ?_));apply zD0 (zD0 (qY0 e rfl (zI0 ?_)));apply zD0 (qQ1 ((sliceIndices_raw (some ((0:Nat):Int)) none none items.size #[2]).trans (congrArg (pure:Int×Int×Int->Sem (Int×Int×Int)) (wC items.size))) ?_);show wpAny _ _ (if((1:Int)==1)=true then _ else _) _ _ s;rw[JB ⋯];apply zD0 (wS0 ?_)
 first
  |simp only[kY hsz,Bool.false_eq_true,if_false]
  |apply wF0 (kY hsz) ?_
 first | apply zD0 (zI0 ?_) | skip
 show wpAny _ _ (updateSeq l (λxs=>xs.extract 0 (((0:Nat):Int)).toNat++new++xs.extract (max ((0:Nat):Int) (items.size:Int)).toNat xs.size) >>= _) _ _ s;rw[hmax,qS0];apply zD0 (jZ0 (hz:=zM0 (Nat.le_add_right _ _) hsz) (_hz':=hz') e rfl ?_);apply zD0 (jZ1 ?_)
 first
  |exact zD0 (zI0 (zI0 ⟨.none,rfl,zI0 h⟩))
  |exact zI0 ⟨.none,rfl,zI0 h⟩
end
section
variable {X:Cx}
instance gSl0(to:TE)(x:V)(σ:St)(H:Hp)(Q:St->Hp->Prop):to σ H (λo H1=>∃l b xs ys,o=.ref l/\x=.ref b/\l≠b/\H1 l=some (.lst xs)/\H1 b=some (.lst ys)/\xs.length+ys.length<=1000/\Q σ (upd H1 l (.lst ys))):=0
def yb{j pos p2 p3}(ho:PE X o to)
 (ha:∀v,assign (.Subscript o (.Slice (some (.Constant (.int 0) j p3)) none none p2) pos) X.env v=(do
  let ov ←holding [v] (eval o X.env)
  let iv ←holding [v,ov] (eval (.Slice (some (.Constant (.int 0) j p3)) none none p2) X.env)
  standAt pos
  holding [v,ov,iv] (setItem ov iv v)
  release [iv,v,ov] []):=by intro _;rfl):PG X (.Subscript o (.Slice (some (.Constant (.int 0) j p3)) none none p2) pos) (gSl0 to):=by
 exists 4,v,u,Q,I,r,h;rw[ha];apply zD0 (qH1 (thn (ho Jx s σ H _ I h.1) λov s1 ⟨x,H1,I1,r1,l,b,xs,ys,e1,e2,ne,hl,hb,hz,q⟩=>?_));subst e1 e2;cases r1;cases r;apply zD0 (qH1 (wpAny_Slice (thn (ee (e:=.Constant (.int 0) j p3) ac Jx s1 σ H1 (λk H2=>k=some 0/\H2=H1) I1 %[(0),1,1|1]) λvl s2 ⟨k,H2,I2,pl,ek,eh⟩=>?_)));subst ek eh;rw[evalPart_none];apply zI0 (zI0 ?_);let I4:#[8] H2 { s2 with heap:=s2.heap.push { cls:=.type "slice",data:=.fields #[vl,.none,.none] } }:=I2.kept (t':=s2.toks) λb ob q=>zR0 _ q
 apply zD0 (wK1 (zD0 (qH1 ?_)));let%[z,its,n,r,hll|e]:=I4.lstM hl;let%[z2,its2,n2,r2,hl2|e2]:=I4.lstM hb;let e3:((λxs:Array Value=>xs.extract 0 0++its2.toArray++xs.extract its.toArray.size xs.size) its.toArray)=its2.toArray:=by simp
 let hs:(1000:Nat)<=sizeLine:=by decide
 apply oC e e2 ne (Heap.IsSliceOf.new ..) pl (by rw[zN0,zN0];omega) (wpAny_release ?_);erw[σ,_,I4.lset (its':=its2) (t':=s2.toks) hl e e3 r2 z2,q]
end
end L2
namespace Mine
def Pr(n:Int):Prop:=2<=n/\∀k:Int,2<=k->k<=1000->k*k<=n->n % k≠0
def mr(n:Int)(j:Int):Prop:=∀k:Int,2<=k->k<j->k*k<=n/\n % k≠0
def qF{a b:Int}(h0:0<=a)(h:a<=b):a*a<=b*b:=Int.mul_le_mul h h h0 (Int.le_trans h0 h)
def Ek{n k:Int}(h2:2<=n)(h0:2<=k)(u:mr n k)(h:n<k*k):Pr n:=by
 erw[h2,λj j2 _ js=>?_]
 by_cases c:j<k
 . exact(u j j2 c).2
 . have:=qF (a:=k) (b:=j) #[0] #[0]
   omega
def El{n:Int}(h2:2<=n)(u:mr n 1001):Pr n:=%[h2|λj j2 j3 _=>(u j j2 #[0]).2]
def Ei{n k:Int}(h0:2<=k)(h1:k<=1000)(hs:k*k<=n)(h:n % k=0):¬ Pr n:=λp=>p.2 k h0 h1 hs h
def uV(n:Int):mr n 2:=λk a b=>#[0]
def xu(u:mr n k)(hs:k*k<=n)(h:n % k≠0):mr n (k+1):=λj a b=>by
 by_cases c:j<k
 . exact u j a c
 . let e:j=k:=#[0]
   subst e;erw[hs,h]
def prB(n:Int):Bool:=decide (2<=n)&&(List.range 999).all λi=>decide (n<((i:Int)+2)*((i:Int)+2))||decide (n % ((i:Int)+2)≠0)
def CC(h:prB n=true):Pr n:=by
 unfold prB at h;rw[qN1]at h;erw[zR1 h.1,λk k2 k3 ks=>?_];let q:=List.all_eq_true.mp h.2 (k.toNat-2) (List.mem_range.mpr #[0]);let e:(((k.toNat-2:Nat):Int)+2)=k:=#[0]
 rw[e,Bool.or_eq_true]at q;rcases q with q | q
 . have:=zR1 q;omega
 . exact zR1 q
def xX:Pr 999983:=CC ⋯
def Ej{d:Int}(h:Pr p)(hp:p<1002001)(d0:1<d)(d1:d<p)(hd:d ∣ p):False:=by
 erw[e,he]at hd;let e0:1<e:=by
  by_cases c:e<=1
  . have:d*e<=d*1:=qW0 c #[0]
    omega
  . omega
 by_cases c:d<=e
 . let s:d*d<=p:=by
    have:=qW0 c (show(0:Int)<=d by omega)
    omega
   let t:d<=1000:=by
    by_cases c2:1001<=d
    . have:=qF (a:=1001) (b:=d) #[0] c2
      omega
    . omega
   apply h.2 d #[0] t s ?_;rw[he];exact Int.mul_emod_right d e
 . let c':e<=d:=#[0]
   let s:e*e<=p:=by
    have:=Int.mul_le_mul_of_nonneg_right c' (show(0:Int)<=e by omega)
    omega
   let t:e<=1000:=by
    by_cases c2:1001<=e
    . have:=qF (a:=1001) (b:=e) #[0] c2
      omega
    . omega
   apply h.2 e #[0] t s ?_;rw[he,jH1];exact Int.mul_emod_right e d
def Cop(x y:Int):Prop:=∀d:Int,0<d->d ∣ x->d ∣ y->d=1
def Fe{a:Int}(h:Pr p)(hp:p<1002001)(a0:0<a)(a1:a<p):Cop p a:=λd d0 h1 h2=>by
 have:=jL0 a0 h2
 by_cases c:1<d
 . exact(Ej h hp c #[0] h1).elim
 . omega
structure Eu(a p former ff rest f:Int):Prop where
 r0:0<rest
 rp:rest<p
 fr:rest<former
 f0:0<=f
 f1:f<p
 g0:0<=ff
 g1:ff<p
 cop:Cop former rest
 d1:p ∣ former-a*ff
 d2:p ∣ rest-a*f
def uH{a:Int}(h:Pr p)(hp:p<1002001)(a0:0<a)(a1:a<p):Eu a p p 0 (a % p) 1:=by
 let e:a % p=a:=qV0 #[0] a1;rw[e];erw[a0,a1,a1,3,3,3,3,Fe h hp a0 a1,by rw[Int.mul_zero,Int.sub_zero];exact Int.dvd_refl p,by rw[wL0,Int.sub_self];exact Int.dvd_zero p]
def wZ(E:Eu a p former ff rest f)(h1:rest≠1):Eu a p rest f (former-former / rest*rest) ((ff-former / rest*f) % p)/\(former-former / rest*rest).toNat<rest.toNat:=by
 let r0:=E.r0;let rp:=E.rp;let em:former-former / rest*rest=former % rest:=by
  have:=jB1 former rest
  rw[jH1]at this;omega
 let l0:0<=former % rest:=qC0 _ #[0];let l1:former % rest<rest:=qE0 _ r0;let cop':Cop rest (former % rest):=λd d0 x y=>by
  apply E.cop d d0 ?_ x
  have:=jB1 former rest
  rw[←this];exact wA1 y (Int.dvd_trans x (Int.dvd_mul_right _ _))
 let lz:former % rest≠0:=λz=>by
  have:=cop' rest r0 (Int.dvd_refl _) (by rw[z];exact Int.dvd_zero _)
  exact h1 this
 rw [em];erw[%[3,3,l1,qC0 _ #[0],qE0 _ #[0],E.f0,E.f1,cop',E.d2|6],3];let q:p ∣ (former-a*ff)-former / rest*(rest-a*f):=Int.dvd_sub E.d1 (Int.dvd_trans E.d2 (Int.dvd_mul_left _ _));let q2:p ∣ (ff-former / rest*f)-(ff-former / rest*f) % p:=Int.dvd_self_sub_emod;let q3:p ∣ a*((ff-former / rest*f)-(ff-former / rest*f) % p):=Int.dvd_trans q2 (Int.dvd_mul_left _ _);let q4:=wA1 q q3;let e2:former-a*ff-former / rest*(rest-a*f)+a*(ff-former / rest*f-(ff-former / rest*f) % p)=former % rest-a*((ff-former / rest*f) % p):=by
  rw[←em];generalize former / rest=t;generalize (ff-t*f) % p=u;rw[Int.mul_sub,Int.mul_sub,Int.mul_sub,Int.mul_left_comm t a f];omega
 rw[e2]at q4;exact q4
def By(E:Eu a p former ff rest f)(h1:rest=1)(hp:1<p):0<f/\f<p/\f*a % p=1:=by
 subst h1;let d2:=E.d2;let f0:=E.f0;let hm:f*a % p=1:=by
  erw[c,hc]at d2;let e:f*a=1+p*(-c):=by
   rw[jH1 f a,Int.mul_neg];omega
  rw[e,Int.add_mul_emod_self_left];exact qV0 #[0] hp
 erw[6,E.f1,hm]
 by_cases c:f=0
 . subst c;simp at hm
 . omega
end Mine
namespace Mine
def uP(n d:Int):Prop:=∀k:Int,3<=k->k % 2=1->k<d->n % k≠0
def yw(n:Int):uP n 3:=λk a _ c=>#[0]
def AQ(u:uP n d)(hd:d % 2=1)(h:n % d≠0):uP n (d+2):=λk a b c=>by
 by_cases e:k<d
 . exact u k a b e
 . have:k=d:=#[0]
   subst this;exact h
def yT{n d:Int}(h3:3<=n)(h2:n % 2≠0)(h0:3<=d)(u:uP n d)(hd:n<d*d):Pr n:=by
 erw[3,λk k2 k3 ks z=>?_];let%[q|hq]:=Int.dvd_of_emod_eq_zero z
 by_cases e:k % 2=1
 . by_cases c:k<d
   . exact u k #[0] e c z
   . have:=qF (a:=d) (b:=k) #[0] #[0]
     omega
 . obtain ⟨j,hj⟩:∃j,k=2*j:=%[k / 2|3]
   rw[hj,Int.mul_assoc]at hq;omega
def yV{n:Int}(h2:n % 2=0)(h3:2<n):¬ Pr n:=λp=>p.2 2 #[0] #[0] #[0] h2
def yU{n d:Int}(h9:n<=999999)(h0:3<=d)(hs:d*d<=n)(h:n % d=0):¬ Pr n:=λp=>by
 let t:d<=1000:=by
  by_cases c2:1001<=d
  . have:=qF (a:=1001) (b:=d) #[0] c2
    omega
  . omega
 exact p.2 d #[0] t hs h
def vd{n d:Int}(h9:n<=999999)(h0:3<=d)(hs:d*d<=n):d<=999:=by
 by_cases c2:1000<=d
 . have:=qF (a:=1000) (b:=d) #[0] c2
   omega
 . omega
def Cz{n d:Int}(h0:3<=d)(hs:d*d<=n):d<=n:=by
 have:=qW0 (show(1:Int)<=d by omega) (show(0:Int)<=d by omega)
 omega
end Mine
namespace Mine
def cQ:Nat->List (List Int)
 |0=>[[]]
 |n+1=>(cQ n).flatMap λs=>[s++[0],s++[1]]
def mi{α β:Type}(f g:α->β):∀l:List α,(l.flatMap λs=>[f s,g s]).length=2*l.length
 | []=>rfl
 |x::r=>by
   let ih:=mi f g r;simp only[List.flatMap_cons,zL0,zU0,zM1];omega
def jq:∀n:Nat,(cQ n).length=2 ^ n
 |0=>rfl
 |n+1=>by rw[cQ,mi,jq n,Nat.pow_succ];omega
def eT:∀(n:Nat)(s:List Int),s∈cQ n->s.length=n
 |0,s,h=>by
   have:s=[]:=by simpa [cQ]using h
   subst this;rfl
 |n+1,s,h=>by
   rw[cQ,List.mem_flatMap]at h;erw[t,ht,hs]at h
   have:=eT n t ht
   simp at hs
   rcases hs with rfl | rfl <;> simp [this]
def lU{n:Nat}(h:n<=6):2 ^ n<=64:=Nat.pow_le_pow_right ⋯ h
end Mine
namespace Mine
def Pm(p:Int):Prop:=1<p/\∀a:Int,¬ p ∣ a->∃f:Int,p ∣ f*a-1
def Bx{p:Int}(hp:1<p):∀(n:Nat){former ff rest f:Int},rest.toNat<=n->Eu a p former ff rest f->∃g:Int,g*a % p=1
 |0,former,ff,rest,f,hn,E=>by
   have:=E.r0
   omega
 |n+1,former,ff,rest,f,hn,E=>by
   by_cases c:rest=1
   . erw[f,(By E c hp).2.2]
   . let%[E2|lt]:=wZ E c;exact Bx hp n #[0] E2
def Ap(h:Pr p)(hp:p<1002001):Pm p:=by
 let p1:1<p:=by have:=h.1;omega
 erw[p1,λa ha=>?_];let a0:0<a % p:=by
  have:=qC0 a (show p≠0 by omega)
  by_cases c:a % p=0
  . exact absurd (Int.dvd_of_emod_eq_zero c) ha
  . omega
 let a1:a % p<p:=qE0 _ #[0];let%[g|hg]:=Bx p1 _ (zH0 _) (uH h hp a0 a1);erw[g,6];let e1:g*a % p=1:=by rw[←hg,jQ0 g (a % p),jU1,←jQ0]
 have:=jB1 (g*a) p
 erw[g*a / p,3]
def Pm.mul{a b:Int}(h:Pm p)(hd:p ∣ a*b)(ha:¬ p ∣ a):p ∣ b:=by
 let%[f,k|hk]:=h.2 a ha;erw[m,hm]at hd;erw[f*m-k*b,by grind]
def Pm.not_mul{a b:Int}(h:Pm p)(ha:¬ p ∣ a)(hb:¬ p ∣ b):¬ p ∣ a*b:=λz=>hb (h.mul z ha)
def ch:Nat->Nat->Nat
 |_,0=>1
 |0,_+1=>0
 |n+1,k+1=>ch n k+ch n (k+1)
def lr(n:Nat):ch n 0=1:=by cases n <;> rfl
def mo:∀(n k:Nat),n<k->ch n k=0
 |0,k+1,_=>rfl
 |n+1,k+1,h=>by
   show ch n k+ch n (k+1)=0;rw[mo n k #[0],mo n (k+1) #[0]]
def Ds(n:Nat):ch n n=1:=by
 induction n with
 |zero=>rfl
 |succ n ih=>
   show ch n n+ch n (n+1)=1;rw[ih,mo n (n+1) #[0]]
def sY:∀(n k:Nat),(k+1)*ch (n+1) (k+1)=(n+1)*ch n k
 |0,0=>rfl
 |0,k+1=>by
   show(k+2)*(ch 0 (k+1)+ch 0 (k+2))=1*ch 0 (k+1);rw[mo 0 (k+1) #[0],mo 0 (k+2) #[0]]
   simp
 |n+1,0=>by
   let h:=sY n 0;rw[lr n]at h;show(0+1)*(ch (n+1) 0+ch (n+1) (0+1))=(n+1+1)*ch (n+1) 0;rw[lr (n+1)];omega
 |n+1,k+1=>by
   let h1:=sY n k;let h2:=sY n (k+1);show(k+2)*(ch (n+1) (k+1)+ch (n+1) (k+2))=(n+2)*ch (n+1) (k+1);let e:ch (n+1) (k+1)=ch n k+ch n (k+1):=rfl
   grind
def sm(f:Nat->Int):Nat->Int
 |0=>0
 |n+1=>sm f n+f n
def ox{f g:Nat->Int}:∀n,(∀k,k<n->f k=g k)->sm f n=sm g n
 |0,_=>rfl
 |n+1,h=>by
   show sm f n+f n=sm g n+g n;rw[ox n (λk hk=>h k #[0]),h n #[0]]
def zN(f g:Nat->Int):∀n,sm (λk=>f k+g k) n=sm f n+sm g n
 |0=>rfl
 |n+1=>by
   show sm (λk=>f k+g k) n+(f n+g n)=(sm f n+f n)+(sm g n+g n)
   rw[zN f g n];omega
def zL(c:Int)(f:Nat->Int):∀n,sm (λk=>c*f k) n=c*sm f n
 |0=>by simp [sm]
 |n+1=>by
   show sm (λk=>c*f k) n+c*f n=c*(sm f n+f n)
   rw[zL c f n]
   grind
def kC(f:Nat->Int):∀n,sm f (n+1)=f 0+sm (λk=>f (k+1)) n
 |0=>by simp [sm]
 |n+1=>by
   show sm f (n+1)+f (n+1)=f 0+(sm (λk=>f (k+1)) n+f (n+1))
   rw[kC f n];omega
def zM{p:Int}{f:Nat->Int}:∀n,(∀k,k<n->p ∣ f k)->p ∣ sm f n
 |0,_=>%[(0)|by simp [sm]]
 |n+1,h=>wA1 (zM n λk hk=>h k #[0]) (h n #[0])
def DO(a:Int):∀n:Nat,(a+1) ^ n=sm (λk=>(ch n k:Int)*a ^ k) (n+1)
 |0=>by simp [sm,ch]
 |n+1=>by
   let ih:=DO a n;rw[jI0,ih,kC (λk=>((ch (n+1) k:Nat):Int)*a ^ k) (n+1)];let e1:sm (λk=>((ch (n+1) (k+1):Nat):Int)*a ^ (k+1)) (n+1)=a*sm (λk=>(ch n k:Int)*a ^ k) (n+1)+sm (λk=>(ch n (k+1):Int)*a ^ (k+1)) (n+1):=by
    rw[←zL,←zN];apply ox _ λk _=>?_
    have:ch (n+1) (k+1)=ch n k+ch n (k+1):=rfl
    rw[this,wB0,jI0]
    grind
   let e2:sm (λk=>(ch n k:Int)*a ^ k) (n+1)=1+sm (λk=>(ch n (k+1):Int)*a ^ (k+1)) (n+1):=by
    rw[kC]
    have:sm (λk=>(ch n (k+1):Int)*a ^ (k+1)) (n+1)=sm (λk=>(ch n (k+1):Int)*a ^ (k+1)) n:=by
     show _+(ch n (n+1):Int)*a ^ (n+1)=_;rw[mo n (n+1) #[0]]
     simp
    rw[this,lr]
    simp
   rw[e1,lr]
   grind
def Ff(h:Pm p){n k:Nat}(hn:(n:Int)+1=p)(hk:k<n):p ∣ ((ch (n+1) (k+1):Nat):Int):=by
 let e:((k:Int)+1)*((ch (n+1) (k+1):Nat):Int)=p*((ch n k:Nat):Int):=by
  have:=sY n k
  rw[←hn];exact_mod_cast this
 apply h.mul (a:=(k:Int)+1) %[_|e] λhd=>?_
 have:=jL0 #[0] hd
 omega
def pT(h:Pm p):∀a:Nat,p ∣ (a:Int) ^ p.toNat-a
 |0=>by
   have:p.toNat≠0:=by have:=h.1;omega
   simp [Int.zero_pow this]
 |a+1=>by
   let ih:=pT h a;obtain⟨n,hn⟩:∃n:Nat,p.toNat=n+1:=%[p.toNat-1|by have:=h.1;omega]
   let hp:(n:Int)+1=p:=by have:=h.1;omega
   rw [hn]at ih ⊢;let b:=DO (a:Int) (n+1);let e:sm (λk=>(ch (n+1) k:Int)*(a:Int) ^ k) (n+1+1)=sm (λk=>(ch (n+1) (k+1):Int)*(a:Int) ^ (k+1)) n+(a:Int) ^ (n+1)+1:=by
    rw[kC];show _+(sm _ n+(ch (n+1) (n+1):Int)*(a:Int) ^ (n+1))=_;rw[Ds,lr]
    simp
    omega
   let d:p ∣ sm (λk=>(ch (n+1) (k+1):Int)*(a:Int) ^ (k+1)) n:=zM n λk hk=>Int.dvd_mul_of_dvd_left (Ff h hp hk)
   erw[u,hu]at ih;erw[v,hv]at d;erw[u+v,6];rw[wB0];show((a:Int)+1) ^ (n+1)-((a:Int)+1)=_;rw[b,e]
   grind
def EW{a:Int}(h:Pm p)(ha:¬ p ∣ a)(a0:0<=a):p ∣ a*a ^ (p-2).toNat-1:=by
 obtain⟨n,hn⟩:∃n:Nat,p.toNat=n+2:=%[p.toNat-2|by have:=h.1;omega]
 let e:(p-2).toNat=n:=#[0]
 let f:=pT h a.toNat;rw[Int.toNat_of_nonneg a0,hn]at f;rw[e];let g:a ^ (n+2)-a=a*(a*a ^ n-1):=by
  rw[jI0,jI0]
  grind
 rw[g]at f;exact h.mul f ha
def IsPoly:Nat->(Int->Int)->Prop
 |0,f=>∀x,f x=0
 |n+1,f=>∃(a:Int)(g:Int->Int),IsPoly n g/\∀x,f x=a+x*g x
def IsPoly.congr:∀{n:Nat}{f g:Int->Int},IsPoly n f->(∀x,g x=f x)->IsPoly n g
 |0,_,_,h,e=>λx=>(e x).trans (h x)
 |_+1,_,_,⟨a,k,hk,h⟩,e=>%[a,k,hk|λx=>(e x).trans (h x)]
def IsPoly.zero:∀n:Nat,IsPoly n λ_=>0
 |0=>λ_=>rfl
 |n+1=>%[(0),λ_=>0,IsPoly.zero n|λx=>by simp]
def IsPoly.up:∀{n:Nat}{f:Int->Int},IsPoly n f->IsPoly (n+1) f
 |0,f,h=>%[(0),λ_=>0,λ_=>rfl|λx=>by rw[h x];simp]
 |n+1,f,⟨a,g,hg,h⟩=>%[a,g,hg.up|h]
def IsPoly.add:∀{n:Nat}{f g:Int->Int},IsPoly n f->IsPoly n g->IsPoly n λx=>f x+g x
 |0,f,g,h,k=>λx=>by show f x+g x=0;rw[h x,k x];rfl
 |n+1,f,g,⟨a,u,hu,h⟩,⟨b,v,hv,k⟩=>%[a+b,λx=>u x+v x,hu.add hv|λx=>by show f x+g x=a+b+x*(u x+v x);rw[h x,k x];grind]
def IsPoly.mul(c:Int):∀{n:Nat}{f:Int->Int},IsPoly n f->IsPoly n λx=>c*f x
 |0,f,h=>λx=>by show c*f x=0;rw[h x];simp
 |n+1,f,⟨a,u,hu,h⟩=>%[c*a,λx=>c*u x,hu.mul c|λx=>by show c*f x=c*a+x*(c*u x);rw[h x];grind]
def IsPoly.lin{n:Nat}{f:Int->Int}(h:IsPoly n f)(r:Int):IsPoly (n+1) λx=>(x-r)*f x:=by
 let h1:IsPoly (n+1) λx=>x*f x:=%[(0),f,h|λx=>by simp]
 exact(h1.add (h.up.mul (-r))).congr λx=>by grind
def IsPoly.div:∀{n:Nat}{f:Int->Int},IsPoly (n+1) f->∀r:Int,∃q,IsPoly n q/\∀x,f x-f r=(x-r)*q x
 |0,f,⟨a,g,hg,h⟩,r=>%[λ_=>0,λ_=>rfl|λx=>by rw[h x,h r,hg x,hg r];simp]
 |n+1,f,⟨a,g,hg,h⟩,r=>by
   let%[q,hq|e]:=IsPoly.div hg r;erw[λx=>g x+r*q x,hg.add (hq.up.mul r),λx=>?_]
   have:=e x
   rw[h x,h r]
   grind
def IsPoly.roots(hp:Pm p):∀{n:Nat}{f:Int->Int}(rs:List Int),IsPoly n f->rs.length=n->rs.Pairwise (λa b=>¬ p ∣ b-a)->(∀r∈rs,p ∣ f r)->∀x,p ∣ f x
 |0,f,_,h,_,_,_,x=>%[(0)|by rw[h x];simp]
 |n+1,f,[],_,hl,_,_,_=>by simp at hl
 |n+1,f,r::rs,h,hl,hd,hr,x=>by
   let%[q,hq|e]:=h.div r;let hd':=List.pairwise_cons.mp hd;let z:=IsPoly.roots hp rs hq #[hl,0] hd'.2 (λs hs=>by
    let h1:p ∣ (s-r)*q s:=by
     rw[←e s];exact Int.dvd_sub (hr s (qK0 _ hs)) (hr r zW0)
    exact hp.mul h1 (hd'.1 s hs)) x
   have:f x=f r+(x-r)*q x:=by have:=e x;omega
   rw[this];exact wA1 (hr r zW0) (Int.dvd_mul_of_dvd_right z)
end Mine
namespace Mine
def pr(g:Nat->Int):Nat->Int
 |0=>1
 |n+1=>pr g n*g n
def pe{f g:Nat->Int}:∀n,(∀k,k<n->f k=g k)->pr f n=pr g n
 |0,_=>rfl
 |n+1,h=>by
   show pr f n*f n=pr g n*g n;rw[pe n (λk hk=>h k #[0]),h n #[0]]
def oZ(g:Nat->Int):∀n,pr g (n+1)=g 0*pr (λk=>g (k+1)) n
 |0=>by simp [pr]
 |n+1=>by
   show pr g (n+1)*g (n+1)=g 0*(pr (λk=>g (k+1)) n*g (n+1))
   rw[oZ g n,Int.mul_assoc]
def px(x:Int)(i:Nat):Nat->Int
 |0=>1
 |n+1=>if n=i then px x i n else px x i n*(x-n)
def wO(i:Nat):∀n,IsPoly (if i<n then n else n+1) λx=>px x i n
 |0=>%[(1),λ_=>0,λ_=>rfl|λx=>by simp [px]]
 |n+1=>by
   let ih:=wO i n
   by_cases c:n=i
   . subst c;rw[Jy (qU0 n)]at ih;rw[JB (qM1 n)];exact ih.congr λx=>by simp [px]
   . let e:∀x,px x i (n+1)=(x-n)*px x i n:=λx=>by
      show(if n=i then px x i n else px x i n*(x-n))=_;rw[Jy c,jH1]
     by_cases c2:i<n
     . rw[JB c2]at ih;rw[JB #[0]];exact(ih.lin n).congr e
     . rw[Jy c2]at ih;rw[Jy #[0]];exact(ih.lin n).congr e
def sj{k i:Nat}(h:k≠i):∀n,k<n->px (k:Int) i n=0
 |n+1,hk=>by
   show(if n=i then px (k:Int) i n else px (k:Int) i n*((k:Int)-n))=0
   by_cases c:n=i
   . rw[JB c];exact sj h n #[0]
   . rw [Jy c]
     by_cases c2:k=n
     . subst c2
       simp
     . rw [sj h n #[0]]
       simp
def lag(v u:Nat->Int)(n:Nat)(x:Int):Int:=sm (λi=>v i*px x i n*u i) n
def Co{n m:Nat}{f:Nat->Int->Int}:(∀i,i<m->IsPoly n (f i))->IsPoly n λx=>sm (λi=>f i x) m:=by
 induction m with
 |zero=>exact λ_=>IsPoly.zero n
 |succ m ih=>exact λh=>(ih λi hi=>h i #[0]).add (h m #[0])
def uu(v u:Nat->Int)(n:Nat):IsPoly n (lag v u n):=Co λi hi=>by
 let h:=wO i n;rw[JB hi]at h;exact(h.mul (v i*u i)).congr λx=>by grind
def zK{f:Nat->Int}{k:Nat}:∀n,k<n->(∀i,i<n->i≠k->f i=0)->sm f n=f k
 |n+1,hk,h=>by
   show sm f n+f n=f k
   by_cases c:k=n
   . subst c;let z:sm f k=0:=by
      have:sm f k=sm (λ_=>0) k:=ox k λi hi=>h i #[0] #[0]
      rw[this];clear this h hk
      induction k with
      |zero=>rfl
      |succ k ih=>show sm (λ_=>0) k+0=0;rw[ih];rfl
     rw[z]
     simp
   . rw [zK n #[0] (λi hi=>h i #[0]),h n #[0] #[0]]
     simp
def Wgt(p:Int)(n:Nat)(u:Nat->Int):Prop:=∀i,i<n->p ∣ px (i:Int) i n*u i-1
def wg{k:Nat}(hu:Wgt p n u)(hk:k<n):p ∣ lag v u n k-v k:=by
 unfold lag;rw[zK n hk λi hi hne=>by rw[sj (Ne.symm hne) n hk];simp];let%[m|hm]:=hu k hk;erw[v k*m,by grind]
def far{p:Int}{n:Nat}(hn:(n:Int)<=p):((List.range n).map λk:Nat=>(k:Int)).Pairwise λa b=>¬ p ∣ b-a:=by
 rw[List.pairwise_map];apply List.Pairwise.imp_of_mem (fun{a b} ha hb h=>?_) List.pairwise_lt_range;intro d
 have:=jL0 #[0] d
 let hb':=List.mem_range.mp hb;omega
def alike(hp:Pm p){n:Nat}(hn:(n:Int)<=p){f g:Int->Int}(hf:IsPoly n f)(hg:IsPoly n g)(h:∀k:Nat,k<n->p ∣ f k-g k)(x:Int):p ∣ f x-g x:=by
 let hd:IsPoly n λx=>f x-g x:=(hf.add (hg.mul (-1))).congr λx=>by grind
 apply hd.roots hp ((List.range n).map λk:Nat=>(k:Int)) #[2] (far hn) (λr hr=>?_) x;let%[k,hk|1]:=List.mem_map.mp hr;exact h k (List.mem_range.mp hk)
def Bg(hp:Pm p){n:Nat}(hn:(n:Int)<=p){v:Nat->Int}{P:Int->Int}(hu:Wgt p n u)(hP:IsPoly n P)(h:∀k:Nat,k<n->p ∣ v k-P k)(x:Int):p ∣ lag v u n x-P x:=
 alike hp hn (uu v u n) hP (λk hk=>by
  let h1:=wg (v:=v) hu hk;let h2:=h k hk
  have:lag v u n k-P k=(lag v u n k-v k)+(v k-P k):=#[0]
  rw[this];exact wA1 h1 h2) x
def Bf(hp:Pm p){n:Nat}(hn:(n:Int)<=p)(hu:Wgt p n u)(hu':Wgt p n u')(x:Int):p ∣ lag v u n x-lag v u' n x:=
 Bg hp hn hu (uu v u' n) (λk hk=>by
  let%[m|hm]:=wg (v:=v) hu' hk;erw[-m,by grind]) x
def oX(x:Int)(i:Nat):∀m,px x i (i+1+m)=pr (λj=>x-j) i*pr (λj=>x-(i+1+j:Nat)) m
 |0=>by
   let h:∀k,k<=i->px x i k=pr (λj=>x-j) k:=λk=>by
    induction k with
    |zero=>exact λ_=>rfl
    |succ k ih=>
      intro hk;show(if k=i then px x i k else px x i k*(x-k))=pr (λj=>x-j) k*(x-k)
      rw[Jy #[0],ih #[0]]
   show(if i=i then px x i i else _)=_*1;rw[JB rfl,h i (zH0 _),wL0]
 |m+1=>by
   show(if i+1+m=i then _ else px x i (i+1+m)*(x-(i+1+m:Nat)))=pr (λj=>x-j) i*(pr (λj=>x-(i+1+j:Nat)) m*(x-(i+1+m:Nat)))
   rw[Jy #[0],oX x i m,Int.mul_assoc]
def wP(x:Int)(i:Nat):∀m,pr (λj=>x-(i+m:Nat)+j) m=pr (λj=>x-(i+1+j:Nat)) m
 |0=>rfl
 |m+1=>by
   rw[oZ];show _=pr (λj=>x-(i+1+j:Nat)) m*(x-(i+1+m:Nat))
   let e:pr (λk=>x-(i+(m+1):Nat)+(k+1:Nat)) m=pr (λj=>x-(i+m:Nat)+j) m:=pe m λk _=>#[0]
   rw[e,wP x i m,jH1]
   congr 1
   omega
def fac:Nat->Int
 |0=>1
 |n+1=>fac n*((n:Int)+1)
def uG:∀n:Nat,pr (λj=>(n:Int)-j) n=fac n
 |0=>rfl
 |n+1=>by
   rw[oZ];let e:pr (λk=>((n+1:Nat):Int)-(k+1:Nat)) n=pr (λj=>(n:Int)-j) n:=pe n λk _=>#[0]
   rw[e,uG n];show((n+1:Nat)-(0:Nat):Int)*fac n=fac n*((n:Int)+1)
   rw[jH1]
   congr 1
def wY(i:Nat):∀m:Nat,pr (λj=>(i:Int)-(i+1+j:Nat)) m=(-1) ^ m*fac m
 |0=>rfl
 |m+1=>by
   show pr _ m*((i:Int)-(i+1+m:Nat))=(-1) ^ (m+1)*(fac m*((m:Int)+1))
   rw[wY i m,jI0]
   have:((i:Int)-(i+1+m:Nat))=-((m:Int)+1):=#[0]
   rw[this]
   grind
def Aj(i m:Nat):px (i:Int) i (i+1+m)=fac i*((-1) ^ m*fac m):=by rw[oX,uG,wY]
def uF:∀(k d:Nat),fac d*pr (λj=>((d+k:Nat):Int)-j) k=fac (d+k)
 |0,d=>by simp [pr]
 |k+1,d=>by
   let ih:=uF k (d+1);rw[show d+1+k=d+(k+1) by omega]at ih;rw[←ih];show fac d*(pr (λj=>((d+(k+1):Nat):Int)-j) k*(((d+(k+1):Nat):Int)-k))=fac d*((d:Int)+1)*pr (λj=>((d+(k+1):Nat):Int)-j) k
   have:(((d+(k+1):Nat):Int)-k)=(d:Int)+1:=#[0]
   rw[this]
   grind
def sW(hp:Pm p):∀n:Nat,(n:Int)<p->¬ p ∣ fac n
 |0,_=>λd=>by
   have:=jL0 ⋯ (show p ∣ 1 from d)
   have:=hp.1
   omega
 |n+1,h=>hp.not_mul (sW hp n #[0]) λd=>by
   have:=jL0 #[0] d
   omega
def wM(m:Nat):((-1:Int) ^ m)*(-1) ^ m=1:=by
 induction m with
 |zero=>rfl
 |succ m ih=>rw[jI0];grind
def Ep(hp:Pm p){n i:Nat}(hn:(n:Int)<=p)(hi:i<n):¬ p ∣ px (i:Int) i n:=by
 obtain⟨m,rfl⟩:∃m,n=i+1+m:=%[n-(i+1)|3]
 rw[Aj];apply hp.not_mul (sW hp i #[0]) (hp.not_mul (λd=>?_) (sW hp m #[0]));erw[k,hk]at d;let s:=wM m
 have:p ∣ 1:=%[k*(-1) ^ m|by grind]
 have:=jL0 ⋯ this
 have:=hp.1
 omega
def Cb{p:Int}{last:Nat}{sh:Nat->Int}(h:∀k,k<=last->p ∣ sh k*fac k-1):Wgt p (last+1) λi=>(-1) ^ (last-i)*(sh i*sh (last-i)):=λi hi=>by
 obtain⟨m,rfl⟩:∃m,last=i+m:=%[last-i|3]
 show p ∣ px (i:Int) i (i+m+1)*((-1) ^ (i+m-i)*(sh i*sh (i+m-i)))-1;rw[show i+m+1=i+1+m by omega,Aj,show i+m-i=m by omega];let%[a|ha]:=h i #[0];let%[b|hb]:=h m #[0];let s:=wM m;erw[a*(sh m*fac m)+b,6];let e:fac i*((-1) ^ m*fac m)*((-1) ^ m*(sh i*sh m))=((-1) ^ m*(-1) ^ m)*((sh i*fac i)*(sh m*fac m)):=by grind
 rw[e,s]
 grind
end Mine
namespace Mine
open PySem L2
def Dj{us:List Value}(h:us.length=1):∃a,us=[a]:=by
 cases us with
 |nil=>cases h
 |cons a r=>
   cases r with
   |nil=>erw[a,1]
   |cons _ _=>cases h
def yE{us:List Value}{n:Nat}(h:us.length=n+1):∃a r,us=a::r/\r.length=n:=by
 cases us with
 |nil=>cases h
 |cons a r=>erw[a,r,1,Nat.succ.inj h]
def EE{us:List Value}(h:us.length=2):∃a b,us=[a,b]:=by
 let%[a,r,1|h1]:=yE h;let%[b|1]:=Dj h1;erw[a,b,1]
def ED{us:List Value}(h:us.length=3):∃a b c,us=[a,b,c]:=by
 let%[a,r,1|h1]:=yE h;let%[b,c|1]:=EE h1;erw[a,b,c,1]
def Di{us:List Value}(h:us.length=4):∃a b c d,us=[a,b,c,d]:=by
 let%[a,r,1|h1]:=yE h;let%[b,c,d|1]:=ED h1;erw[a,b,c,d,1]
def len5{us:List Value}(h:us.length=5):∃a b c d e,us=[a,b,c,d,e]:=by
 let%[a,r,1|h1]:=yE h;let%[b,c,d,e|1]:=Di h1;erw[a,b,c,d,e,1]
def len6{us:List Value}(h:us.length=6):∃a b c d e f,us=[a,b,c,d,e,f]:=by
 let%[a,r,1|h1]:=yE h;let%[b,c,d,e,f|1]:=len5 h1;erw[a,b,c,d,e,f,1]
def len7{us:List Value}(h:us.length=7):∃a b c d e f g,us=[a,b,c,d,e,f,g]:=by
 let%[a,r,1|h1]:=yE h;let%[b,c,d,e,f,g|1]:=len6 h1;erw[a,b,c,d,e,f,g,1]
def top(i:Nat):Stmt:=PySem.Challenge.pw_asktally_k50_whole_talks_judged_again.main.body.getD i (.Pass %[(0),(0),(0)|(0)])
example:=[ko,12,iu,13,iS,14,ke,16,iV,17,gh,18,ki,19,dC,20,gr,22,iw,23,oO,24,kq,25,gi,26,jt,27,il,28,iX,31,oN,33,fk,34,vt,35,ii,37,gq,38,iT,42,fo,43,im,44,io,45,iR,46,lN,56,ir,57,gP,65,iy,66,iQ,67,gn,68,gJ,69,dj,70,iU,72,kf,73,oP,76,ik,80,kj,81,lO,82,iz,87,oF,88,iP,90,kg,91,iO,92,kh,93,oM,95,oH,96,bQ,97,kI,98,fK,99,oI,100,ip,101,lJ,102,oK,103,kJ,104,km,105,oJ,106,lK,107,gQ,108,iq,109,fq,110,lI,111,kH,112]
section
variable {P:Program}{w:World}{K:W.Frag}{mg:#[9]}{base:Heap}
example:=[de,30,iW,78,lH,85,rS,41]
structure Bl(mg:#[9]):Prop where
 len:mg "len"=none
 range:mg "range"=none
 isinstance:mg "isinstance"=none
 int:mg "int"=none
 bool:mg "bool"=none
 list:mg "list"=none
 tuple:mg "tuple"=none
 max:mg "max"=none
 min:mg "min"=none
 reversed:mg "reversed"=none
 enumerate:mg "enumerate"=none
 sum:mg "sum"=none
 all:mg "all"=none
 str:mg "str"=none
def wX(z:Int):0<=z % 2147483646+1/\z % 2147483646+1<=2147483646:=#[0]
def eO:FnScope ["_law_script","_law_k","_law_cell","_law_own"] Wf (ag oM):=%[|5]
def yi(F:#["_law_feed",oM])(hlen:mg "len"=none):#[1,f,fd,Wf,spFeed K]:=by
 exists eO
 erw[a,ns,k,1,hS,h63,k0,k1,q]at h;refine⟨_,(aa #[am,2,eO,au aR (au cq ac (pv 1)) ac]
  (aa (aG (af du (pv 1) (aE aF rfl hlen zB1 %[0|aQ]) (ao _)) (ad #[am,2,eO,aJ ix_list (pv 0) (pv 1) #[1]]) (ad (aG (af gz (aE aF rfl hlen zB1 %[0|aQ]) ac (ao _)) (ad #[am,2,eO,au aR (au cq (au aY (aJ ix_list (pv 0) (au aY (pv 1) (aE aF rfl hlen zB1 %[0|aQ])) #[1]) ac) ac) (au cq ac (pv 1))]) ax)))
  (aa #[am,3,eO,ac]
  (aa (aG (af DI (pv 2) (au Az ac ac) (ao _)) (ad #[am,3,eO,pv 2]) ax)
  (ad (aq (cP %[3,au aR (au aY (au aR (au cq (au aY (pv 2) ac) ac) (au cq ac (pv 1))) ac) ac|aQ]))))))),?_⟩
 let hl:(ns.map V.int).length=ns.length:=zF0 _;let hp:(10:Int) ^ (18:Int).toNat=1000000000000000000:=by decide
 erw[0,2,.inl %[4|4],2,6];erw[0,0,a,0,.inl hS,2,0,6];apply pP (λc=>?b1) (λc=>?b2)
 case' b1=>
  let c':k<(((ns.map V.int).length:Nat):Int):=zR1 c;rw[hl]at c';let%[v|hv]:=BT (ns:=ns) k0 c';erw[0,0,a,_,2,hS,hv,6]
 case' b2=>
  erw[0,a,0,.inl hS,2,0,6];apply pP (λc2=>?b3) (λc2=>?b4)
  case' b3=>
   let c':(0:Int)<(((ns.map V.int).length:Nat):Int):=zR1 c2;let m0:=qC0 k (b:=(((ns.map V.int).length:Nat):Int)) #[0];let m1:=qE0 k c';let%[v|hv]:=BT (ns:=ns) m0 (by rw[hl]at m1 ⊢;exact m1);let n0:=qC0 v (b:=2147483629) ⋯;let n1:=qE0 v (b:=2147483629) ⋯;erw[0,0,0,a,0,.inl hS,2,c',a,_,2,hS,hv,2,(by show(0:Int)<_;decide),2,.inr %[4|4],0,2,.inl %[4|4],2,6]
 all_goals
  erw[0,2,%[4,4|4],2,0,6];apply pP (λc3=>?_) (λc3=>?_)
  . let c4:=zR1 c3;rw[hp]at c4;erw[0,0,0,2,(by show(0:Int)<_;decide),2,.inr %[4|4],0,2,.inl %[4|4],2,2,(by show(0:Int)<_;decide),2,y2S,λp hp=>?_];apply q p _ hp (zC0 hp _) %[_,_,aO,Int.le_trans ⋯ c4,(wX _).1|(wX _).2]
  . erw[0,0,2,(by show(0:Int)<_;decide),2,.inr %[4|4],0,2,.inl %[4|4],2,2,(by show(0:Int)<_;decide),2,y2S,λp hp=>?_];apply q p _ hp (zC0 hp _) %[_,_,aO,qB1 0,(wX _).1|(wX _).2]
def mI:FnScope ["_law_feed_here","_law_many","_law_digit","_law_one"] WD (ag oH):=%[|5]
def ye(F:#["_law_take",oH]):#[1,f,fd,WD,spTake]:=by
 exists mI
 erw[f,m,1,%[own,st,hf,o0,s0|s1],m0,m1,q]at h;refine⟨_,(aa (aG (af gz (aJ ix_list (pv 0) ac #[1]) ac (ao _)) (aa #[am,2,mI,au aY (aJ ix_list (pv 0) ac #[1]) (pv 1)]
  (aa (lT (au AA (aJ ix_list (pv 0) ac #[1]) (pv 1)) (vH (pv 0) ac oB))
  (ad (aq (pv 2))))) ax)
  (aa #[am,3,mI,au aY (au cq (aJ ix_list (pv 0) ac #[1]) ac) ac]
  (aa (lT (au aR (au aY (au aR (au cq (pv 3) ac) ac) ac) ac) (vH (pv 0) ac oB))
  (ad (aq (au aY (au wS (au aR (au cq (pv 3) ac) (aJ ix_list (pv 0) ac #[1])) ac) (pv 1))))))),?_⟩
 erw[0,f,_,(0),0,1,zG0 hf,1,2,0,6];apply pP (λc=>?_) (λc=>?_)
 . erw[0,f,_,(0),0,1,zG0 hf,1,0,2,m0,6];erw[0,f,_,(0),0,1,zG0 hf,1,0,2,%[m0|m1],0,f,_,(0),(0),1,1,hf,1,6];erw[0,6];exact q _ _ (qC0 _ #[0]) (qE0 _ m0) ⟨_,_,aO,Int.ediv_nonneg o0 #[0],s0,s1⟩ (SameBut.upd _)
 . let a0:=qC0 (st*69621) (b:=2147483647) ⋯;let a1:=qE0 (st*69621) (b:=2147483647) ⋯;erw[0,f,_,(1),0,1,zG0 hf,1,2,.inr %[4|4],2,(by show(0:Int)<_;decide),6];erw[0,2,.inr %[4|4],2,2,(by show(0:Int)<_;decide),2,0,f,_,(1),(1),1,1,hf,1,6];let b0:=qC0 (st*69621 % 2147483647*48271+30103) (b:=2147483646) ⋯;let b1:=qE0 (st*69621 % 2147483647*48271+30103) (b:=2147483646) ⋯;erw[0,2,.inr %[4|4],0,f,_,(1),0,1,zG0 aO,1,2,2,%[4|4],0,2,m0,6];exact q _ _ (qC0 _ #[0]) (qE0 _ m0) ⟨_,_,aO,o0,#[0],#[0]⟩ (SameBut.upd _)
def fX:FnScope ["_law_feed_here","_law_names_here","_law_room","_law_deep","_law_form","_law_more","_law_one","_law_word"] WP (ag kI):=%[|5]
def lf{a X Y B:Prop}[Decidable a](x:X)(h:¬ a->X->B):if decide a=true then(if true=true then X else Y)else B:=by
 by_cases c:a
 . rw[zD1 c];exact dL (dL x)
 . rw[zE1 c];exact cV (h c x)
def xC{n:Nat}(F:#["_law_tree",kI])(hlen:mg "len"=none)(a7:#[1,"_law_take",WD,spTake])
 (eM:#[n+2,"_law_tree",WP,spTree n]):#[n+3,f,fd,WP,spTree (n+1)]:=by
 exists fX
 erw[f,a,room,deep,ns,1,hF,hN,nl,r1,r100,d1,dn,q]at h;refine⟨_,(aa #[am,4,fX,ai a7 hr (zF1 (zQ0 _)) rfl %[0,ac|aQ]]
  (aa (aG (PW.pt (dR (af du (pv 2) ac (ao _)) (dR (af du (pv 3) ac (ao _)) (dI (af aP (pv 4) ac (ao _)))))) (aa (aG (PW.pt (dR (af aP (au aY (pv 4) ac) ac (ao _)) (dI (af aP (aE aF rfl hlen zB1 %[1|aQ]) ac (ao _))))) (ad (aq (aJ ix_list (cP %[aM %[aB|aQ],aM %[aB|aQ]|aQ]) (ai a7 hr (zF1 (zQ0 _)) rfl %[0,ac|aQ]) #[1]))) ax)
   (ad (aq (aM %[aB,aJ (ix_list.or ix_tup) (pv 1) (ai a7 hr (zF1 (zQ0 _)) rfl %[0,aE aF rfl hlen zB1 %[1|aQ]|aQ]) #[1]|aQ])))) ax)
  (aa (aG (PW.pt (dR (af du (pv 2) ac (ao _)) (dI (af aP (pv 4) ac (ao _))))) (ad (aq (aM %[aB,ai eM hr (zH0 _) rfl %[0,1,au bc (pv 2) ac,au bc (pv 3) ac|aQ]|aQ]))) ax)
  (aa #[am,5,fX,au aR ac (ai a7 hr (zF1 (zQ0 _)) rfl %[0,au bc (pv 2) ac|aQ])]
  (aa #[am,6,fX,ai eM hr (zH0 _) rfl %[0,1,5,au bc (pv 3) ac|aQ]]
  (aa #[am,7,fX,aJ ix_list (cP %[aB,aB,aB,aB|aQ]) (au aY (pv 4) ac) #[1]]
  (ad (aq (aM %[7,6,ai eM hr (zH0 _) rfl %[0,1,au bc (au bc (pv 2) ac) (pv 5),au bc (pv 3) ac|aQ]|aQ]))))))))),?_⟩
 erw[0,f,(10),1,hF,4,4,λfm H1 f0 f10 F1 S1=>?_];let N1:=hN.feed hF S1;erw[0,2,0,6];apply lf ?leaf λc1 hX=>?_
 case leaf=>
  erw[0,2,(by show(0:Int)<_;decide),1,0,6];apply lf ?yn λc6 hY=>?_
  case yn=>
   erw[y1S,λp1 h1=>?_];erw[y1S,λp2 h2=>?_];erw[y2S,λl hl=>?_];let ga:=zC0 h1 (.tup [.str "yes"]);let gb:=zC0 h2 (.tup [.str "no"]);let gc:=zC0 hl (.lst [.ref p1,.ref p2]);let G:=ga.trans (gb.trans gc);let nlf:=(F1.same (ga.trans gb)).ne hl;erw[0,f,(2),1,F1.same G,4,4,λd H2 d0 d2 F2 S2=>?_];let y2:H2 p1=some (.tup [.str "yes"]):=aZ (F1.same G) S2 _ _ (gc _ _ (gb _ _ aO));let n2:H2 p2=some (.tup [.str "no"]):=aZ (F1.same G) S2 _ _ (gc _ _ aO);let l2:=S2 l _ nlf aO
   have:d=0∨d=1:=#[0]
   rcases this with rfl | rfl
   . erw[l,_,(0),0,1,zG0 l2,1,q (.ref p1) .yes H2 F2 (S1.trans ((zJ0 G).trans S2)) (.yes y2) trivial (show(1:Int)<=room from r1) (show(1:Int)<=deep from d1)]
   . erw[l,_,(1),0,1,zG0 l2,1,q (.ref p2) .no H2 F2 (S1.trans ((zJ0 G).trans S2)) (.no n2) trivial (show(1:Int)<=room from r1) (show(1:Int)<=deep from d1)]
  erw[0,a,0,N1.seq,1,0,6]
  by_cases c7:V.int ((ns.map V.str).length:Int)=V.int 0
  . exact aV c7 hY
  apply ay c7 ?_;let nz:0<ns.length:=by
   let z:¬ ((ns.map V.str).length:Int)=0:=λz=>c7 (congrArg V.int z)
   rw[zF0]at z;omega
  erw[0,0,0,a,0,N1.seq,f,0,F1,(show(0:Int)<((ns.map V.str).length:Int) by rw[zF0];omega),by rw[zF0];omega,λd H2 d0 d9 F2 S2=>?_];let%[v,hv|vm]:=ly (l:=ns.map V.str) (i:=d) d0 d9;let%[x,hx|1]:=List.mem_map.mp vm;refine(N1.feed F1 S2).ix hv ?_;erw[y2S,λp hp=>?_];let G:=zC0 hp (.tup [.str "is",.str x]);exact q (.ref p) (.is x) _ (F2.same G) (S1.trans (S2.trans (zJ0 G))) (.is aO) hx (show(1:Int)<=room from r1) (show(1:Int)<=deep from d1)
 erw[0,2,0,6]
 by_cases c2:deep<2
 . exact aV c2 (dL hX)
 apply ay c2 ?_;erw[0,1,0,6]
 by_cases c3:V.int fm=V.int 9
 . exact aV c3 hX
 apply ay c3 ?_;erw[0,2,0,6];let d2:2<=deep:=#[0]
 let dd:1<=deep-1:=#[0]
 let ddn:deep-1+1<=(n:Int)+1:=#[0]
 apply lf ?nt λc4 hN=>?_
 case nt=>
  erw[0,0,0,2,0,2,f,a,_,_,ns,1,F1,N1,nl,(show 1<=room-1 by omega),3,dd,ddn,λv1 t1 H3 F3 S3 T1 o1 z1 p1=>?_];erw[y2S,λp hp=>?_];let G5:=zC0 hp (.tup [.str "not",v1]);apply q (.ref p) (.not t1) _ (F3.same G5) (S1.trans (S3.trans (zJ0 G5))) (.not aO (T1.mono (bd G5))) o1 ?_ ?_
  . show((t1.size+1:Nat):Int)<=room;omega
  . show((t1.depth+1:Nat):Int)<=deep;omega
 erw[0,1,0,6]
 by_cases c5:V.int fm=V.int 8
 . exact aV c5 hN
 apply ay c5 ?_;erw[0,0,2,f,0,F1,(show(0:Int)<room-2 by omega),(show room-2<2 ^ 63 by omega),λe H2 e0 e1 F2 S2=>?_];erw[2,6];let N2:=N1.feed F1 S2;erw[0,0,0,0,2,f,a,_,_,ns,1,F2,N2,nl,3,3,dd,ddn,λv1 t1 H3 F3 S3 T1 o1 z1 p1=>?_];let N3:=N2.feed F2 S3;erw[y4S,λl hl=>?_];let%[wd,hw|wm]:=ly (l:=joinW.map V.str) (i:=fm % 4) #[0] (by
  have:(joinW.map V.str).length=4:=by rfl
  omega)
 let%[x,hx|1]:=List.mem_map.mp wm;erw[0,2,(by show(0:Int)<_;decide),l,_,2,zG0 aO,hw,6];let G:=zC0 hl (.lst [.str "and",.str "or",.str "odd",.str "same"]);erw[0,0,0,0,0,2,0,2,0,2,f,a,_,_,ns,1,F3.same G,N3.same G,nl,(show 1<=room-1-(1+e) by omega),3,dd,ddn,λv2 t2 H4 F4 S4 T2 o2 z2 p2=>?_];erw[y3S,λp hp=>?_];let G5:=zC0 hp (.tup [.str x,v1,v2]);let T1':TreeAt H4 v1 t1:=(T1.mono (bd G)).mono (aZ (F3.same G) S4);apply q (.ref p) (.bin x t1 t2) _ (F4.same G5) (S1.trans (S2.trans (S3.trans ((zJ0 G).trans (S4.trans (zJ0 G5)))))) (.bin aO (T1'.mono (bd G5)) (T2.mono (bd G5))) %[hx,o1|o2] ?_ ?_
 . show((t1.size+t2.size+1:Nat):Int)<=room;omega
 . show((max t1.depth t2.depth+1:Nat):Int)<=deep;omega
def xB:#[2,f,fd,WP,spTree 0]:=by
 let no:∀vs H Q E,¬ spTree 0 vs H Q E:=λvs H Q E h=>by
  erw[f,a,room,deep,ns,_,_,_,_,_,_,h1,h2,_]at h;omega
 exists 3
def qO(F:#["_law_tree",kI])(hlen:mg "len"=none)(m:mg "_law_tree"=some (.ref f))(a7:#[1,"_law_take",WD,spTake]):
 ∀n:Nat,#[n+2,f,fd,WP,spTree n]
 |0=>xB
 |n+1=>xC F hlen a7 (Cal.of F (qO F hlen m a7 n) m (λ_ _ _ _ _ _ us hl=>by let%[u0,u1,u2,u3|1]:=Di hl;rfl))
def EM:Stmt->List Stmt
 |.If _ b _ _=>b
 |_=>[]
def EL:Stmt->Expr
 |.If c _ _ _=>c
 |_=>.Constant .none 0 %[(0),(0),(0)|(0)]
def zr:Stmt->Expr
 |.Assign _ v _=>v
 |.Return (some v) _=>v
 |_=>.Constant .none 0 %[(0),(0),(0)|(0)]
def wx:Expr->List Expr
 |.List es _=>es
 |.BinOp _ _ (.List es _) _=>es
 |.Subscript (.List es _) _ _=>es
 |_=>[]
abbrev stm(s:Stmt)(i:Nat):Stmt:=(eV s).getD i (.Pass %[(0),(0),(0)|(0)])
abbrev Cm(s:Stmt)(i j:Nat):Stmt:=(EM (stm s i)).getD j (.Pass %[(0),(0),(0)|(0)])
def wordsA:List Str:=["is","set","say","if","go","end","num","box","op","field","holds","claims"]
def wordsB:List Str:=["nota","nob","yesx","andy","ors","oddly"]
def wordsC:List Str:=["samey","rounds","dues","coins","truex","asks"]
@[irreducible] def vY:List Expr:=wx (zr (Cm bQ 6 0))
@[irreducible] def vX:List Expr:=wx (zr (Cm bQ 6 1))
@[irreducible] def vW:List Expr:=wx (zr (Cm bQ 6 2))
def AW:Consts vY wordsA:=by
 unfold vY;exact .cons (.cons (.cons (.cons (.cons (.cons (.cons (.cons (.cons (.cons (.cons (.cons .nil)))))))))))
def AV:Consts vX wordsB:=by
 unfold vX;exact .cons (.cons (.cons (.cons (.cons (.cons .nil)))))
def AU:Consts vW wordsC:=by
 unfold vW;exact .cons (.cons (.cons (.cons (.cons (.cons .nil)))))
def vV:∃p1 p2 p3 p4 p5 p6 p7 p8 p9 q1 q2 q3 q4 q5,eV bQ=[stm bQ 0,stm bQ 1,stm bQ 2,stm bQ 3,stm bQ 4,stm bQ 5,
 .If (EL (stm bQ 6)) [.Assign [.Name "_law_words" p1] (.List vY p2) p3,.Assign [.Name "_law_words" p4] (.BinOp (.Name "_law_words" p5) .Add (.List vX p6) p7) p8,.Assign [.Name "_law_words" p9] (.BinOp (.Name "_law_words" q1) .Add (.List vW q2) q3) q4,Cm bQ 6 3] [] q5,stm bQ 7]:=
 %[_,_,_,_,_,_,_,_,_,_,_,_,_,_|by rfl']
def LTR:Str:="bcdfghjklmnpqrstvwxz"
def EB:∀c∈LTR.cps.toList,c≠97:=by decide
def we:∀c∈LTR.cps.toList,97<=c/\c<=122:=by decide
def zk:∀x∈(wordsA++wordsB)++wordsC,x.length<=20/\(∀c∈x.cps.toList,97<=c/\c<=122)/\x≠"aa":=by decide
instance spNamesN:∀(f:Addr)(m:Int),vs=[.ref f,.int m]->FeedAt H f->0<=m->m<=6->(∀(l:Addr)(ns:List Str)(H':Hp),H l=none->l≠f->H' l=some (.lst (ns.map V.str))->ns.length=m.toNat->(∀x∈ns,qf x)->ns.Nodup->FeedAt H' f->SameBut f H H'->Q (.ref l) H'):=1
def xt:∀x∈(wordsA++wordsB)++wordsC,∃c∈x.cps.toList,c∉LTR.cps.toList:=by decide
def De:∀a b:Fin 20,LTR.cps.toList[a.val]?=LTR.cps.toList[b.val]?->a=b:=by decide
def AT{ns:List Str}{t:Nat}{u:Int}(u0:0<=u)(u20:u<20)(hl:ns.length<=6)(h:∀(k:Nat) x,ns[k]?=some x->x.cps.toList[t]?=LTR.cps.toList[((u+7*(k:Int)) % 20).toNat]?):ns.Nodup:=by
 apply List.pairwise_iff_getElem.mpr λi j hi hj ij e=>?_
 let h1:=h i _ (zS0 hi);let h2:=h j _ (zS0 hj);rw[e]at h1;let h3:=h1.symm.trans h2;let h4:=De %[((u+7*(i:Int)) % 20).toNat|3] ⟨((u+7*(j:Int)) % 20).toNat,#[0]⟩ h3;let h5:=congrArg Fin.val h4;simp only at h5;omega
def Ex{ns:List Str}{x:Str}{j:Nat}(h:ns.Nodup)(hx:x∉ns):(ns.set j x).Nodup:=by
 apply List.pairwise_iff_getElem.mpr λa b ha hb ab=>?_
 rw[List.length_set]at ha hb;rw[List.getElem_set,List.getElem_set]
 split
 . split
   . omega
   . intro e;exact hx (e▸qO0 hb)
 . split
   . intro e;exact hx (e▸qO0 ha)
   . exact List.pairwise_iff_getElem.mp h a b ha hb ab
def Fl{α:Type}{l:List α}{i:Int}{v:α}(h0:0<=i)(h:atI l i=some v):l[i.toNat]?=some v:=by
 let ek:((i.toNat:Nat):Int)=i:=#[0]
 by_cases c:i.toNat<l.length
 . let q:atI l ((i.toNat:Nat):Int)=some l[i.toNat]:=bw (zS0 c);rw[ek,h]at q;rw[zS0 c];exact q.symm
 . exfalso
   unfold atI ixN at h;rw[JB h0,Jy #[0]]at h;cases h
def zG{zs:List Str}(h:∀z∈zs,z.length=1/\∀c∈z.cps.toList,c∈LTR.cps.toList):(zs.map (·.length)).sum=zs.length:=by
 induction zs with
 |nil=>rfl
 |cons a r ih=>
   rw[zZ0,qI1,ih λz hz=>h z (qK0 _ hz),(h a zW0).1,zU0];omega
def bt:FnScope ["_law_feed_here","_law_many","_law_letters","_law_common","_law_at","_law_first","_law_found","_law_k","_law_tail","_law_sign","_law_words"] WD (ag bQ):=%[|5]
def lq{p:Addr}(F:FeedAt H f)(h:p≠f):FeedAt (upd H p o) f:=by
 erw[x,t,e,r]at F;erw[x,t,by rw[aD (Ne.symm h)];exact e,r]
def vM(F:#["_law_names",bQ])(hrange:mg "range"=none)(a7:#[1,"_law_take",WD,spTake]):#[2,f,fd,WD,spNamesN]:=by
 exists bt
 erw[f,m,1,hF,m0,m6,q]at h;erw[p1,p2,p3,p4,p5,p6,p7,p8,p9,q1,q2,q3,q4,q5,ebody]at vV;rw[ebody];refine⟨_,(aa (am (i:=2) bt.nd rfl (Or.inr rfl) aB)
  (aa (am (i:=3) bt.nd rfl (.inl rfl) (cW zS1 jQ1 jR0 sO aB (ae (cb (N:=["_law_letters","_law_feed_here"]) (ix:=[2,0]) rfl
   #[4] rfl
   (cu rfl hrange %[ac|aQ])
   (λ_ _ _=>cD (aJ pO (pv 1) (ai a7 hr ⋯ rfl %[2,ac|aQ]) #[1]))) aQ)))
  (aa #[am,4,bt,ai a7 hr ⋯ rfl %[0,ac|aQ]]
  (aa #[am,5,bt,ai a7 hr ⋯ rfl %[0,ac|aQ]]
  (aa #[am,6,bt,cP aQ]
  (aa (cK zG1 rfl (cu rfl hrange %[1|aQ]) (bg (i:=7) bt.nd rfl (.inl rfl)) (aa #[am,8,bt,au aY (ai a7 hr ⋯ rfl %[0,au bc ac (pv 4)|aQ]) ac]
   (aa #[am,9,bt,aJ pO (pv 2) (au aY (au aR (pv 5) (au cq ac (pv 7))) ac) #[1]]
   (ad (aS (cW zC1 zH1 zI1 bV (pv 6) %[au pB (au pB (eZ ve (pv 3) jw (ee (pv 4))) (pv 9)) (eZ ve (pv 3) (ee (pv 4)) (ee (au aR (pv 4) (pv 8))))|aQ]))))))
  (aa (aG (PW.pt (lS (af gz (pv 1) ac (ao _)) (kN (af aP (ai a7 hr ⋯ rfl %[0,ac|aQ]) ac (ao _))))) (aa #[am,10,bt,cP (jB AW)]
   (aa #[am,10,bt,au lY (pv 10) (cP (jB AV))]
   (aa #[am,10,bt,au lY (pv 10) (cP (jB AU))]
   (ad (lT (aJ ix_list (pv 10) (ai a7 hr ⋯ rfl %[0,ac|aQ]) #[1]) (vH (pv 6) (ai a7 hr ⋯ rfl %[0,1|aQ]) oB)))))) ax)
  (ad (aq (pv 6)))))))))),?_⟩
 erw[1,(5),1,4,4,λD hD=>?_];let Df:=hF.ne hD;let L20:LTR.cps.toList.length=20:=by decide
 apply dP (λi H'=>∃zs:List Str,H' D=some (.lst (zs.map V.str))/\zs.length=i/\(∀z∈zs,z.length=1/\∀c∈z.cps.toList,c∈LTR.cps.toList)/\FeedAt H' f/\SameBut f H H') %[[],by rw[aO];rfl,1,by simp,hF.same (zC0 hD _)|zJ0 (zC0 hD _)] ?_ ?_
 . rintro i H3 hi ⟨zs,hl,zl,z1,F3,S3⟩;let i5:i<5:=hi;erw[0,0,f,(20),1,F3,4,4,λd H4 d0 d26 F4 S4=>?_];let%[c,hc|hm]:=ly (l:=LTR.cps.toList) (i:=d) d0 (by rw[L20];exact d26);let hD4:H4 D=some (.lst (zs.map V.str)):=S4 D _ Df hl;erw[_,d,c,1,1,cg ⋯,hc,_,hD4,6,Nx.of hi %[zs++[⟨#[c]⟩],6,6,6,lq F4 Df|6]]
   . rw[zF0,zl];exact aN (wC0 (Nat.lt_trans i5 ⋯))
   . rw[aO,zK0];rfl
   . rw[zL0,qN0,zl]
   . intro z hz;rcases qJ0 hz with h | h
     . exact z1 z h
     . rw [zP0 h];erw[1,λc' hc'=>?_]
       have:c'=c:=#[hc',0]
       subst this;exact hm
   . intro b o hb e;rw[aD (aX e hD)];exact S4 b o hb (S3 b o hb e)
 rintro H3 ⟨zs,hl,zl,z1,F3,S3⟩;let sl:=zG z1;let zl5:zs.length=5:=zl;erw[_,D,zs,1,1,zG0 hl,⋯,3,6];let jl:(Txt.join "" zs).length=5:=by
  have:=size_glued "" zs
  let e0:(("":Str)).length=0:=by decide
  rw[e0,Nat.mul_zero]at this;show(Builtin.Str.glued "" zs).length=5;omega
 let jc:∀c∈(Txt.join "" zs).cps.toList,c∈LTR.cps.toList:=λc hc=>by
  let%[z,hz|h]:=yB hc;exact(z1 z hz).2 c h
 generalize Txt.join "" zs=cm at jl jc;erw[0,f,(6),1,F3,4,4,λt H4 t0 t6 F4 S4=>?_];erw[0,f,(20),1,F4,4,4,λu H5 u0 u20 F5 S5=>?_];erw[y0S,λL hL=>?_];let S05:SameBut f H H5:=S3.trans (S4.trans S5);let Lf:=F5.ne hL;let L0:H L=none:=by
  cases e:H L with
  |none=>rfl
  |some o=>rw[S05 L o Lf e]at hL;cases hL
 refine⟨_,rfl,m,rfl,#[0],#[0],dU (λi σ H'=>∃(x7 x8 x9:Option V)(ns:List Str),σ=[some (.ref f),some (.int m),some (.str LTR),some (.str cm),some (.int t),some (.int u),some (.ref L),x7,x8,x9,none]/\H' L=some (.lst (ns.map V.str))/\ns.length=i/\(∀x∈ns,qf x)/\(∀x∈ns,∀c∈x.cps.toList,c∈LTR.cps.toList)/\(∀(k:Nat) x,ns[k]?=some x->x.cps.toList[t.toNat]?=LTR.cps.toList[((u+7*(k:Int)) % 20).toNat]?)/\FeedAt H' f/\SameBut f H H')
  %[_,_,_,[],1,by rw[aO];rfl,1,by simp,by simp,by simp,F5.same (zC0 hL _)|S05.trans (zJ0 (zC0 hL _))] ?_ ?_⟩
 . rintro i σ H6 hi ⟨x7,x8,x9,ns,rfl,hns,nl,nok,nlt,nat,F6,S6⟩;erw[0,0,2,f,0,F6,(Int.sub_pos_of_lt t6),(Int.lt_of_le_of_lt (Int.sub_le_self 6 t0) ⋯),λd H7 d0 d1 F7 S7=>?_];erw[2,(by show(0:Int)<_;decide),6];let%[c,hc|hm]:=ly (l:=LTR.cps.toList) (i:=(u+7*(0+(i:Int))) % 20) (qC0 _ ⋯) (by rw[L20];exact qE0 _ ⋯);erw[0,0,0,2,6,2,2,(by show(0:Int)<_;decide),_,_,c,1,1,cg ⋯,hc,6]
   . exact .inl %[4|4]
   let hL7:=S7 L _ Lf hns;let z1:(Txt.slice cm none (some t)).length<=cm.length:=jO1 cm none (some t);let z2:(Txt.slice cm (some t) (some (t+d % 3))).length<=cm.length:=jO1 cm _ _;let z3:((%[|#[c]]:Str)).length=1:=rfl;erw[0,.inl %[1,_|zG0 hL7],6];erw[0,0,0,0,cg (by rw[jl];decide),0,2,cg (by rw[z3];omega),6];erw[0,0,0,0,0,2,0,0,cg (by rw[jl];decide),2,cg (by rw[wK0,z3];omega),6];erw[L,2,hL7,6,6]
   . rw[zF0];exact aN #[0]
   erw[_,_,_,ns++[(Txt.slice cm none (some t)++%[|#[c]])++Txt.slice cm (some t) (some (t+d % 3))],1,6,6,6,6,6,lq F7 Lf,6]
   . rw[aO,zK0];rfl
   . rw[zL0,qN0,nl]
   . intro x hx;rcases qJ0 hx with h | h
     . exact nok x h
     . rw [zP0 h];erw[6,λc' hc'=>?_,λea=>?_]
       . rw[wK0,wK0,z3];omega
       rotate_left
       . let cm1:c∈(((Txt.slice cm none (some t)++%[|#[c]])++Txt.slice cm (some t) (some (t+d % 3)):Str)).cps.toList:=by
          rw[qX0,qX0]
          simp
         rw[ea]at cm1;exact EB c hm ((by decide:∀c∈(("aa":Str)).cps.toList,c=97) c cm1)
       . rcases mem_append hc' with h | h
         . rcases mem_append h with h | h
           . exact we _ (jc _ (jC h))
           . have:c'=c:=#[h,0]
             subst this;exact we _ hm
         . exact we _ (jc _ (jC h))
   . intro x hx c' hc';rcases qJ0 hx with h | h
     . exact nlt x h c' hc'
     . rw [zP0 h]at hc';rcases mem_append hc' with h | h
       . rcases mem_append h with h | h
         . exact jc _ (jC h)
         . have:c'=c:=#[h,0]
           subst this;exact hm
       . exact jc _ (jC h)
   . intro k x hx
     by_cases ck:k<ns.length
     . rw[zO1 ck]at hx;exact nat k x hx
     . let kl:k<(ns++[(Txt.slice cm none (some t)++%[|#[c]])++Txt.slice cm (some t) (some (t+d % 3))]).length:=(qD0 hx).1;rw[zL0,qN0]at kl;let ek:k=i:=#[0]
       subst ek;rw[zL1 #[0],nl,Nat.sub_self]at hx;let ex:(Txt.slice cm none (some t)++%[|#[c]])++Txt.slice cm (some t) (some (t+d % 3))=x:=zT0 hx;rw[←ex];let cl:cm.cps.toList.length=5:=jl;let es:Txt.slice cm none (some t)=⟨((cm.cps.toList.drop 0).take (t-0).toNat).toArray⟩:=StrLaws.sliceText_to ⟨t0,#[0]⟩;let el:(Txt.slice cm none (some t)).cps.toList.length=t.toNat:=by
        rw[es];simp only[jF1,Int.sub_zero,qI0];omega
       let ea:((Txt.slice cm none (some t)++%[|#[c]])++Txt.slice cm (some t) (some (t+d % 3))).cps.toList=(Txt.slice cm none (some t)).cps.toList++([c]++(Txt.slice cm (some t) (some (t+d % 3))).cps.toList):=by
        rw[qX0,qX0]
        simp
       rw[ea,zL1 #[0],el,Nat.sub_self];let hc2:LTR.cps.toList[((u+7*(0+(k:Int))) % 20).toNat]?=some c:=Fl (qC0 _ ⋯) hc;rw[jI1]at hc2;rw[hc2];rfl
   . intro b o hb e;rw[aD (aX e L0)];exact S7 b o hb (S6 b o hb e)
 . rintro σ H6 ⟨x7,x8,x9,ns,rfl,hns,nl,nok,nlt,nat,F6,S6⟩;let nnd:ns.Nodup:=AT u0 u20 #[0] nat;erw[0,2,0,6];let fin:∀H':Hp,∀ns:List Str,H' L=some (.lst (ns.map V.str))->ns.length=m.toNat->(∀x∈ns,qf x)->ns.Nodup->FeedAt H' f->SameBut f H H'->Q (.ref L) H':=λH' ns a b c nd d e=>q L ns H' L0 Lf a b c nd d e
   by_cases c1:(0:Int)<m
   . apply aV c1 ?_;erw[0,f,(3),1,F6,4,4,λd H7 d0 d1 F7 S7=>?_];erw[1,0,6];let hL7:=S7 L _ Lf hns;apply pP (λ_=>?_) (λ_=>?_)
     . erw[y12S,λl1 h1=>?_];erw[0,y6S,λl2 h2=>?_];erw[l1,l2,wordsA.map V.str,wordsB.map V.str,1,1,zC0 h2 _ _ _ aO,aO,y18S,λl3 h3=>?_];erw[0,y6S,λl4 h4=>?_];erw[l3,l4,wordsA.map V.str++wordsB.map V.str,wordsC.map V.str,1,1,zC0 h4 _ _ _ aO,aO,y24S,λl5 h5=>?_];let G:=(zC0 h1 (.lst (wordsA.map V.str))).trans ((zC0 h2 (.lst (wordsB.map V.str))).trans ((zC0 h3 (.lst (wordsA.map V.str++wordsB.map V.str))).trans ((zC0 h4 (.lst (wordsC.map V.str))).trans (zC0 h5 (.lst ((wordsA.map V.str++wordsB.map V.str)++wordsC.map V.str))))));let F8:=F7.same G;let n5:=(F7.same ((zC0 h1 (.lst (wordsA.map V.str))).trans ((zC0 h2 (.lst (wordsB.map V.str))).trans ((zC0 h3 (.lst (wordsA.map V.str++wordsB.map V.str))).trans (zC0 h4 (.lst (wordsC.map V.str))))))).ne h5;erw[0,0,f,(24),1,F8,4,4,λe H9 e0 e1 F9 S9=>?_];let%[v,hv|vm]:=ly (l:=(wordsA.map V.str++wordsB.map V.str)++wordsC.map V.str) (i:=e) e0 (by
        have:((wordsA.map V.str++wordsB.map V.str)++wordsC.map V.str).length=24:=by rfl
        omega)
       rw[←zK0,←zK0]at vm;let%[x,hx|1]:=List.mem_map.mp vm;erw[l5,_,e,0,1,zG0 (S9 l5 _ n5 aO),hv,6];erw[0,0,0,f,m,1,F9,c1,3,λj H10 j0 j1 F10 S10=>?_];let hL10:=S10 L _ Lf (S9 L _ Lf (G L _ hL7));erw[L,_,j,j.toNat,1,1,hL10,6,6]
       . let jl:j<((ns.map V.str).length:Int):=by rw[zF0];omega
         unfold ixN;rw[JB j0,JB jl]
       erw[0,6];apply fin _ (ns.set j.toNat x) (by rw[aO,List.map_set]) (by rw[List.length_set];exact nl) ?_ ?_ (lq F10 Lf) ?_
       . intro y hy;rcases List.mem_or_eq_of_mem_set hy with h | h
         . exact nok y h
         . rw[h];exact zk x hx
       . apply Ex nnd λhm=>?_
         let%[c,c1|c2]:=xt x hx;exact c2 (nlt x hm c c1)
       . intro b o hb e';rw[aD (aX e' L0)];exact S10 b o hb (S9 b o hb (G b o (S7 b o hb (S6 b o hb e'))))
     . erw[0,6];exact fin H7 ns hL7 nl nok nnd F7 (S6.trans S7)
   . apply ay c1 ?_;apply cV ?_;erw[0,6];exact fin H6 ns hns nl nok nnd F6 S6
def jv{x:Str}:∀{ns:List Str},x∈ns->∃j,fD x ns=some j/\j<ns.length
 | [],h=>by cases h
 |a::r,h=>by
   unfold fD
   by_cases c:a=x
   . erw[(0),by rw[JB c],by simp]
   . rw [Jy c];rcases zV0 h with e | e
     . exact absurd e.symm c
     . let%[j,h1|h2]:=jv e;erw[j+1,by rw[h1];rfl,by simpa using h2]
def gG{a b:Str}(h:V.str a=V.str b):a=b:=by injection h
def hU(p:Int)(o:Str)(x y:Int):Int:=if o="and" then x*y % p else if o="or" then(x+y-x*y) % p else if o="odd" then(x+y-2*(x*y)) % p else(1-(x+y-2*(x*y))) % p
def Tr.worth(ns:List Str)(pt:List Int)(p:Int):Tr->Int
 |.is x=>match fD x ns with | some j=>pt.getD j 0 | none=>0
 |.yes=>1
 |.no=>0
 |.not a=>(1-a.worth ns pt p) % p
 |.bin o a b=>hU p o (a.worth ns pt p) (b.worth ns pt p)
def cy(pt:List Int)(p:Int):Prop:=∀x∈pt,0<=x/\x<p
def yI{p:Int}(hp:0<p)(o:Str)(x y:Int):0<=hU p o x y/\hU p o x y<p:=by
 let key:∀z:Int,0<=z % p/\z % p<p:=λz=>%[qC0 _ #[0]|qE0 _ hp]
 unfold hU
 repeat' split
 all_goals exact key _
def uC{l:List Int}{j:Nat}(h:j<l.length):l.getD j 0=l[j]:=by
 rw[qQ0,zS0 h];rfl
def worth_rng{ns:List Str}{p:Int}(hp:1<p)(h:cy pt p)(hl:pt.length=ns.length):∀t:Tr,t.ok ns->0<=t.worth ns pt p/\t.worth ns pt p<p
 |.is x,ok=>by
   let%[j,hj|jl]:=jv ok;show 0<=(match fD x ns with | some j=>pt.getD j 0 | none=>0)/\(match fD x ns with | some j=>pt.getD j 0 | none=>0)<p;rw[hj];show 0<=pt.getD j 0/\pt.getD j 0<p;rw[uC #[0]];exact h _ (qO0 _)
 |.yes,_=>%[by show(0:Int)<=1;decide|hp]
 |.no,_=>%[qB1 0|by show(0:Int)<p;omega]
 |.not a,_=>%[qC0 _ #[0]|qE0 _ #[0]]
 |.bin o a b,_=>yI #[0] _ _ _
instance spJW:∀(o:Str)(x y p:Int),vs=[.str o,.int x,.int y,.int p]->0<=x->x<p->p<2 ^ 40->Q (.int (hU p o x y)) H:=1
def e7:FnScope ["word","first","second","p","both","odd"] Wg (ag gq):=%[|5]
def nJ(F:#["joined_worth",gq]):#[1,f,fd,Wg,spJW]:=by
 exists e7
 erw[o,x,y,p,1,x0,xp,pb,k]at h;refine⟨_,(aa #[am,4,e7,au cq (pv 1) (pv 2)]
  (aa (aG (af aP (pv 0) aB (ao _)) (ad (aq (au aY (pv 4) (pv 3)))) ax)
  (aa (aG (af aP (pv 0) aB (ao _)) (ad (aq (au aY (au bc (au aR (pv 1) (pv 2)) (pv 4)) (pv 3)))) ax)
  (aa #[am,5,e7,au bc (au aR (pv 1) (pv 2)) (au cq ac (pv 4))]
  (aa (aG (af aP (pv 0) aB (ao _)) (ad (aq (au aY (pv 5) (pv 3)))) ax)
  (ad (aq (au aY (au bc ac (pv 5)) (pv 3))))))))),?_⟩
 erw[0,0,2,.inl %[3|3],6];erw[0,1,0,6]
 by_cases c1:V.str o=V.str "and"
 . apply aV c1 ?_;let e:hU p o x y=x*y % p:=by unfold hU;rw[JB (gG c1)]
   rw[e]at k;erw[0,0,2,(show(0:Int)<p by omega),k]
 apply ay c1 ?_;let n1:¬ o="and":=λz=>c1 (by rw[z])
 erw[0,1,0,6]
 by_cases c2:V.str o=V.str "or"
 . apply aV c2 ?_;let e:hU p o x y=(x+y-x*y) % p:=by unfold hU;rw[Jy n1,JB (gG c2)]
   rw[e]at k;erw[0,0,2,0,2,0,2,(show(0:Int)<p by omega),k]
 apply ay c2 ?_;let n2:¬ o="or":=λz=>c2 (by rw[z])
 erw[0,0,2,0,2,.inl %[4|4],2,6];erw[0,1,0,6]
 by_cases c3:V.str o=V.str "odd"
 . apply aV c3 ?_;let e:hU p o x y=(x+y-2*(x*y)) % p:=by unfold hU;rw[Jy n1,Jy n2,JB (gG c3)]
   rw[e]at k;erw[0,0,2,(show(0:Int)<p by omega),k]
 apply ay c3 ?_;let n3:¬ o="odd":=λz=>c3 (by rw[z])
 let e:hU p o x y=(1-(x+y-2*(x*y))) % p:=by unfold hU;rw[Jy n1,Jy n2,Jy n3]
 rw[e]at k;erw[0,2,0,2,(show(0:Int)<p by omega),k]
instance spWorth(n:Nat):∀(v:V)(t:Tr)(a b:Addr)(ns:List Str)(pt:List Int)(p:Int),vs=[v,.ref a,.ref b,.int p]->TreeAt H v t->t.ok ns->t.depth<=n->NamesAt H a ns->H b=some (.tup (pt.map V.int))->pt.length=ns.length->1<p->p<2 ^ 40->cy pt p->Q (.int (t.worth ns pt p)) H:=1
def iK:FnScope ["tree","switches","point","p","word","first"] WQ (ag ii):=%[|5]
def uT{n:Nat}(F:#["worth_of",ii])(cz:#[1,"joined_worth",Wg,spJW])(d8:#[n+2,"worth_of",WQ,spWorth n]):#[n+3,f,fd,WQ,spWorth (n+1)]:=by
 exists iK
 erw[v,t,a,b,ns,pt,p,1,T,ok,dn,hN,hb,sl,p1,p40,po,k]at h;let p0:(0:Int)<p:=#[0]
 refine⟨_,(aa #[am,4,iK,aJ ix_tup (pv 0) ac #[1]]
  (aa (aG (af aP (pv 4) aB (ao _)) (ad (aq (au aY (aJ ix_tup (pv 2) (tT zC1 PySem.F.plainAttrs_tuple (pv 1) %[aJ ix_tup (pv 0) ac #[1]|aQ]) #[1]) (pv 3)))) ax)
  (aa (aG (af aP (pv 4) aB (ao _)) (ad (aq ac)) ax)
  (aa (aG (af aP (pv 4) aB (ao _)) (ad (aq ac)) ax)
  (aa #[am,5,iK,ai d8 hr (zH0 _) rfl %[aJ ix_tup (pv 0) ac #[1],1,2,3|aQ]]
  (aa (aG (af aP (pv 4) aB (ao _)) (ad (aq (au aY (au bc ac (pv 5)) (pv 3)))) ax)
  (ad (aq (ai cz hr #[0] rfl %[4,5,ai d8 hr (zH0 _) rfl %[aJ ix_tup (pv 0) ac #[1],1,2,3|aQ],3|aQ]))))))))),?_⟩
 cases T with
 | @is q x e=>
   erw[0,q,_,(0),0,1,zB0 e,1,6];erw[0,1,0,6];apply aV rfl ?_;let%[j,hj|jl]:=jv ok;let jl':j<pt.length:=#[0]
   erw[0,0,a,ns,1,hN,0,q,_,(1),0,1,zB0 e,1,1,x,j,1,hj,b,_,(j:Int),.int pt[j],1,1,zB0 hb,6,0,2,p0,6]
   . apply bw ?_;rw[zX0,zS0 jl'];rfl
   . let e1:(Tr.is x).worth ns pt p=pt[j] % p:=by
      show(match fD x ns with | some j=>pt.getD j 0 | none=>0)=_;rw[hj];show pt.getD j 0=_;rw[uC jl']
      have:=po _ (qO0 jl')
      rw[qV0 this.1 this.2]
     rw[e1]at k;exact k
 | @yes q e=>
   erw[0,q,_,(0),0,1,zB0 e,1,6];erw[0,1,0,6];apply ay ⋯ ?_;erw[0,1,0,6];exact aV rfl k
 | @no q e=>
   erw[0,q,_,(0),0,1,zB0 e,1,6];erw[0,1,0,6];apply ay ⋯ ?_;erw[0,1,0,6];apply ay ⋯ ?_;erw[0,1,0,6];exact aV rfl k
 | @not q u r e T1=>
   let dp:r.depth+1<=n+1:=dn;erw[0,q,_,(0),0,1,zB0 e,1,6];erw[0,1,0,6];apply ay ⋯ ?_;erw[0,1,0,6];apply ay ⋯ ?_;erw[0,1,0,6];apply ay ⋯ ?_;erw[0,q,_,(1),0,1,zB0 e,1,0,0,0,u,r,a,b,ns,pt,p,1,T1,ok,3,hN,hb,sl,p1,p40,po,6];erw[0,1,0,6];apply aV rfl ?_;erw[0,2,0,2,p0,k]
 | @bin q o u u2 r r2 e T1 T2=>
   erw[ho,ok1,ok2]at ok;let dp:max r.depth r2.depth+1<=n+1:=dn;let ne:∀z:Str,z∉joinW->¬ V.str o=V.str z:=λz hz h=>hz (gG h▸ho)
   erw[0,q,_,(0),0,1,zB0 e,1,6];erw[0,1,0,6];apply ay (ne _ ⋯) ?_;erw[0,1,0,6];apply ay (ne _ ⋯) ?_;erw[0,1,0,6];apply ay (ne _ ⋯) ?_;erw[0,q,_,(1),0,1,zB0 e,1,0,0,0,u,r,a,b,ns,pt,p,1,T1,ok1,3,hN,hb,sl,p1,p40,po,6];erw[0,1,0,6];apply ay (ne _ ⋯) ?_;let wr:=worth_rng p1 po sl r ok1;erw[0,0,0,q,_,(2),0,1,zB0 e,1,0,0,0,u2,r2,a,b,ns,pt,p,1,T2,ok2,3,hN,hb,sl,p1,p40,po,6];erw[0,o,_,_,p,1,wr.1,wr.2,p40,k]
def uS:#[2,f,fd,WQ,spWorth 0]:=by
 let no:∀vs H Q E,¬ spWorth 0 vs H Q E:=λvs H Q E h=>by
  erw[v,t,_,_,_,_,_,_,_,_,h1,_]at h
  have:=t.depth_pos
  omega
 exists 3
def mN(F:#["worth_of",ii])(m:mg "worth_of"=some (.ref f))(cz:#[1,"joined_worth",Wg,spJW]):
 ∀n:Nat,#[n+2,f,fd,WQ,spWorth n]
 |0=>uS
 |n+1=>uT F cz (Cal.of F (mN F m cz n) m (λ_ _ _ _ _ _ us hl=>by let%[u0,u1,u2,u3|1]:=Di hl;rfl))
def eR{H:Hp}{b:Addr}{ys zs:List V}(h:H b=some (.lst ys)):∀a xs,H a=some (.tup xs)->(upd H b (.lst zs)) a=some (.tup xs):=λa xs e=>by
 rw[aD]
 . exact e
 . intro z;rw[z,h]at e;cases e
def at0(x:V)(xs:List V):atI (x::xs) 0=some x:=bw (j:=0) rfl
def mX{ts:List Tr}{i:Nat}{u:Tr}(h:ts[i]?=some u):gA (ts.take (i+1))=gA (ts.take i)++u.names:=by
 unfold gA;rw[qH0,h,zK0,List.flatten_append]
 simp
def pI(ts:List Tr):(gA ts).length<=gX ts:=by
 induction ts with
 |nil=>simp [gA,gX]
 |cons a r ih=>
   have:=a.names_len
   simp only[gA,gX,zZ0,qV1,zL0,qI1]at ih ⊢;omega
def oz(ts:List Tr)(i:Nat):gX (ts.take i)<=gX ts:=by
 induction ts generalizing i with
 |nil=>simp
 |cons a r ih=>
   cases i with
   |zero=>simp [gX]
   |succ i=>
     have:=ih i
     simp only[gX,List.take_succ_cons,zZ0,qI1]at this ⊢;omega
instance spNO(n:Nat):∀(v:V)(t:Tr),vs=[v]->TreeAt H v t->t.wf->t.depth<=n->t.size<=400->(∀(l:Addr)(H':Hp),H l=none->Same H H'->H' l=some (.lst (t.names.map V.str))->Q (.ref l) H'):=1
def eI:FnScope ["_law_tree_here","_law_found","_law_part"] WK (ag fK):=%[|5]
def Dc{n:Nat}(F:#["_law_names_of",fK])(b7:#[n+2,"_law_names_of",WK,spNO n]):#[n+3,f,fd,WK,spNO (n+1)]:=by
 exists eI
 erw[v,t,1,T,wf,dn,sz,q]at h;refine⟨_,(aa (aG (af aP (aJ ix_tup (pv 0) ac #[1]) aB (ao _)) (ad (aq (cP %[aJ ix_tup (pv 0) ac #[1]|aQ]))) ax)
  (aa #[am,1,eI,cP aQ]
  (aa (cK zG1 rfl (fu (eZ rA (pv 0) (ee ac) jw)) (bg (i:=2) eI.nd rfl (.inl rfl)) (ad #[am,1,eI,au lY (pv 1) (ai b7 hr (zH0 _) rfl %[2|aQ])]))
  (ad (aq (pv 1)))))),?_⟩
 rcases T.view wf with⟨a,x,rfl,rfl,_,e⟩ | ⟨a,o,xs,rfl,no,xl0,e,TS0,nis⟩
 . erw[0,a,_,(0),0,1,zB0 e,1,1,0,6];apply aV rfl ?_;erw[0,a,_,(1),0,1,zB0 e,1,y1S,λp hp=>?_];exact q p _ hp (zC0 hp _) aO
 . erw[0,a,_,(0),.str o,1,1,zB0 e,at0 ..,1,0,6];apply ay (λz=>no (by injection z)) ?_;erw[y0S,λL hL=>?_];let G0:=zC0 hL (.lst []);let%[c1|c2]:=cut1 (.str o) xs xl0;erw[0,(1),1,a,0,zB0 (G0 _ _ e),c2,λp hp=>?_];rw[c1];let G1:=zC0 hp (.tup xs);let hp1:upd (upd H L (.lst [])) p (.tup xs) p=some (.tup xs):=aO;let hL1:upd (upd H L (.lst [])) p (.tup xs) L=some (.lst []):=G1 _ _ aO;let S1:Same H (upd (upd H L (.lst [])) p (.tup xs)):=G0.trans G1;generalize upd (upd H L (.lst [])) p (.tup xs)=H1 at hp1 hL1 S1;let TS:=TS0.mono (bd S1);let xl:=TS.length;let sp:=t.size_parts;erw[p,1,%[_|zB0 hp1],sV (K:=K) (xs:=xs) (λi σ H'=>∃(M:Addr)(x2:Option V),σ=[some (.ref a),some (.ref M),x2]/\H M=none/\H' M=some (.lst ((gA (t.parts.take i)).map V.str))/\Same H1 H') %[L,0,hL,hL1|Same.refl _] (λi σ H' _ JE=>by erw[_,_,_,_,_,h]at JE;exact zB0 (h _ _ hp1)) ?_ ?_]
   . rintro i x σ H2 hx ⟨M,x2,rfl,M0,hM,S2⟩;let%[u,hu|Tu]:=TS.get hx;let um:=qG0 hu;let%[uw,ud|us]:=Tr.parts_mem um wf;erw[0,0,x,u,1,Tu.mono (bd S2),uw,3,3,λl H3 l0 S3 hl3=>?_];let nl:=u.names_len;let nl2:=pI (t.parts.take i);let nl3:=oz t.parts i;erw[M,l,2,S3 _ _ hM,hl3,6,λr hr0=>?_]
     . rw[zF0,zF0];exact cg #[0]
     . let S4:=(S2.trans S3).trans (zC0 hr0 (.lst ((gA (t.parts.take i)).map V.str++u.names.map V.str)));erw[r,0,(S1.trans (S2.trans S3)).free hr0,6,S4];rw[aO,mX hu,zK0]
   . rintro σ H2 ⟨M,x2,rfl,M0,hM,S2⟩;rw[xl,qF0,←t.names_parts nis]at hM;erw[0,q M H2 M0 (S1.trans S2) hM]
def Da:#[2,f,fd,WK,spNO 0]:=by
 let no:∀vs H Q E,¬ spNO 0 vs H Q E:=λvs H Q E h=>by
  erw[v,t,_,_,_,h1,_]at h
  have:=t.depth_pos
  omega
 exists 3
def jO(F:#["_law_names_of",fK])(m:mg "_law_names_of"=some (.ref f)):
 ∀n:Nat,#[n+2,f,fd,WK,spNO n]
 |0=>Da
 |n+1=>Dc F (Cal.of F (jO F m n) m (λ_ _ _ _ _ _ us hl=>by let%[u0|1]:=Dj hl;rfl))
def pW(ns:List Str)(z:Str):((ns.map V.str).countP λy=>eqV y (.str z))=ns.count z:=by
 rw[List.countP_map];rfl
instance spNeed:∀(a b:Addr)(ns:List Str)(tv:List V)(ts:List Tr),vs=[.ref a,.ref b]->H a=some (.lst (ns.map V.str))->H b=some (.lst tv)->TreesAt H tv ts->ts.length<=10->(∀t∈ts,t.wf/\t.depth<=10/\t.size<=400)->(∀(m:Int)(H':Hp),Same H H'->2<=m->m<=400->(ts.length:Int)<=m+1->(∀t∈ts,∀x∈ns,(t.names.count x:Int)<=m)->Q (.int m) H'):=1
def eU:FnScope ["_law_names_here","_law_trees","_law_need_here","_law_tree_here","_law_found","_law_name"] Wr (ag oI):=%[|5]
def yf(F:#["_law_need",oI])(hlen:mg "len"=none)(hmax:mg "max"=none)(b7:#[12,"_law_names_of",WK,spNO 10]):#[13,f,fd,Wr,spNeed]:=by
 exists eU
 erw[a,b,ns,tv,ts,1,ha,hb,TS,tl,tok,q]at h;refine⟨_,(aa #[am,2,eU,aE (jG rfl) rfl hmax zZ1 %[ac,au bc (aE aF rfl hlen zB1 %[1|aQ]) ac|aQ]]
  (aa (cK zG1 rfl (fL (pv 1)) (bg (i:=3) eU.nd rfl (.inl rfl)) (aa #[am,4,eU,ai b7 hr ⋯ rfl %[3|aQ]]
   (ad (cK zG1 rfl (fL (pv 0)) (bg (i:=5) eU.nd rfl (.inl rfl)) (ad #[am,2,eU,aE (jG rfl) rfl hmax zZ1 %[2,cW zC1 PySem.F.slot_list_count PySem.F.type_list_count ul (pv 4) %[5|aQ]|aQ]])))))
  (ad (aq (pv 2))))),?_⟩
 let vl:=TS.length;erw[0,b,0,.inl (zG0 hb),2,_,0,6];obtain⟨m,em,m2,m4,mt⟩:∃m:Int,(if((tv.length:Int)-1)>2 then((tv.length:Int)-1)else 2)=m/\2<=m/\m<=400/\(ts.length:Int)<=m+1:=⟨_,rfl,by split <;> omega,by split <;> omega,by split <;> omega⟩
 rw [em];refine⟨_,rfl,b,rfl,%[_|zG0 hb],je (K:=K) (xs:=tv) (λi σ H'=>∃(m:Int)(x3 x4 x5:Option V),σ=[some (.ref a),some (.ref b),some (.int m),x3,x4,x5]/\2<=m/\m<=400/\(ts.length:Int)<=m+1/\(∀t∈ts.take i,∀x∈ns,(t.names.count x:Int)<=m)/\Same H H')
  %[m,_,_,0,m2,m4,mt,by simp|Same.refl _] (λi σ H' _ JE=>by erw[_,_,_,_,_,_,_,_,_,h]at JE;exact zG0 (h _ _ hb)) ?_ ?_⟩
 . rintro i v σ H1 hv ⟨m,x3,x4,x5,rfl,m2,m4,mt,mc,S1⟩;let%[t,ht|T]:=TS.get hv;let tm:=qG0 ht;let%[tw,td|tz]:=tok t tm;erw[0,v,t,1,T.mono (bd S1),tw,3,tz,λl H2 l0 S2 hl=>?_];let S12:=S1.trans S2;let tn:=t.names_len;refine⟨_,rfl,a,rfl,%[_|zG0 (S12 _ _ ha)],je (K:=K) (xs:=ns.map V.str) (λj σ H'=>∃(m':Int)(x5:Option V),σ=[some (.ref a),some (.ref b),some (.int m'),some v,some (.ref l),x5]/\m<=m'/\m'<=400/\(∀x∈ns.take j,(t.names.count x:Int)<=m')/\H'=H2)
    %[m,0,qB1 _,m4,by simp|1] (λj σ H' _ JE=>by erw[_,_,_,_,_,_,h]at JE;subst h;exact zG0 (S12 _ _ ha)) ?_ ?_⟩
   . rintro j y σ H3 hy ⟨m',y5,rfl,mm,m4',mc',rfl⟩;rw[zX0]at hy;let%[x,hx|1]:=qP0 hy;erw[0,0,.inl %[1,_|zG0 hl],0,l,2,zG0 hl,fY _,1,_,0,6];rw[pW];let cl:=jT1 (a:=x) (l:=t.names);erw[_,0,by split <;> omega,by split <;> omega,λz hz=>?_,1];rw[qH0,hx]at hz;rcases qJ0 hz with h | h
     . have:=mc' z h
       split <;> omega
     . let e:z=x:=#[h,0]
       subst e
       split <;> omega
   . rintro σ H3 ⟨m',y5,rfl,mm,m4',mc',rfl⟩;rw[zF0,qF0]at mc';erw[m',_,_,0,3,m4',3,λu hu x hx=>?_,S12];rw[qH0,ht]at hu;rcases qJ0 hu with h | h
     . have:=mc u h x hx
       omega
     . let e:u=t:=#[h,0]
       subst e;exact mc' x hx
 . rintro σ H1 ⟨m,x3,x4,x5,rfl,m2,m4,mt,mc,S1⟩;rw[vl,qF0]at mc;erw[0,q m H1 S1 m2 m4 mt mc]
instance spPrimeB:∀n:Int,vs=[.int n]->(∀b:Bool,(b=true↔Pr n)->Q (.bl b) H):=1
def l6:FnScope ["_law_number","_law_k"] ["_law_number"] (ag ip):=%[|5]
def qo(F:#["_law_is_prime",ip])(hrange:mg "range"=none):#[1,f,fd,["_law_number"],spPrimeB]:=by
 exists l6
 erw[n,1,q]at h;refine⟨_,(aa (aG (af du (pv 0) ac (ao _)) (ad (aq hR)) ax)
  (aa (cK zG1 rfl (qL rfl hrange %[ac,ac|aQ]) (bg (i:=1) l6.nd rfl (.inl rfl)) (aa (aG (af gz (au cq (pv 1) (pv 1)) (pv 0) (ao _)) (ad (aq hR)) ax)
   (ad (aG (af aP (au aY (pv 0) (pv 1)) ac (ao _)) (ad (aq hR)) ax))))
  (ad (aq hR)))),?_⟩
 erw[0,2,0,6];apply pP (λc=>?_) (λc=>?_)
 . let c':=zR1 c;exact q false %[λz=>(nomatch z)|λz=>by have:=z.1;omega]
 let c':¬ n<2:=wF1 (Bool.eq_false_iff.mpr c);erw[(2),(1001),1,%[4,4,4|4],dU (λi σ H'=>∃x,σ=[some (.int n),x]/\H'=H/\mr n (2+(i:Int))) %[0,1|by simpa using uV n] ?_ ?_]
 . rintro i σ H' hi ⟨x,rfl,rfl,u⟩;let hi':i<999:=hi;erw[0,0,2,.inl %[3|3],0,2,0,6];apply pP (λc1=>?_) (λc1=>?_)
   . let c2:=zR1 c1;exact q true %[λ_=>Ek #[0] #[0] u c2|λ_=>rfl]
   . let c2:=wF1 (Bool.eq_false_iff.mpr c1);erw[0,0,2,(show(0:Int)<2+(i:Int) by omega),1,0,6];apply pP (λc3=>?_) (λc3=>?_)
     . let c4:=V.int.inj (zR1 c3);exact q false %[λz=>(nomatch z)|λz=>(Ei #[0] #[0] #[0] c4 z).elim]
     . let c4:=wF1 (Bool.eq_false_iff.mpr c3);erw[0,1,6];let e:(2:Int)+((i+1:Nat):Int)=2+(i:Int)+1:=#[0]
       rw[e];exact xu u #[0] (λz=>c4 (congrArg V.int z))
 . rintro σ H' ⟨x,rfl,rfl,u⟩;exact q true %[λ_=>El #[0] u|λ_=>rfl]
instance spFieldL:∀(f:Addr)(m:Int),vs=[.ref f,.int m]->FeedAt H f->2<=m->m<=400->(∀(p:Int)(H':Hp),Pr p->m<p->p<=999983->FeedAt H' f->SameBut f H H'->Q (.int p) H'):=1
def vC{f:Addr}{m fm:Int}{D:Ends}{H:Hp}(hD:∀p:Int,Pr p->m<p->p<=999983->D.nx [some (.ref f),some (.int m),some (.int fm),some (.int p)] H)(n:Int)(h1:m<n)(h2:n<=999983):
 zz (tNot (tB (tF spPrimeB [] E0 (my (tVar 3) va)))) (zF (tOp (rI0 λi j=>V.int (i+j)) (tVar 3) (tC (V.int 1))) (uD 3)) D [some (.ref f),some (.int m),some (.int fm),some (.int n)] H:=by
 erw[λmm σ H'=>∃n:Int,σ=[some (.ref f),some (.int m),some (.int fm),some (.int n)]/\H'=H/\m<n/\n<=999983/\mm=(999983-n).toNat,%[2,h1,h2|1],6];rintro mm σ H' ⟨n,rfl,rfl,n0,n1,rfl⟩;erw[0,n,1,λb hb=>%[b,1|6]];cases b with
 |true=>exact cV (hD n (hb.mp rfl) n0 n1)
 |false=>
   apply dL ?_;erw[_,λ_ _ h=>h,6];let ne:n≠999983:=λz=>by
    subst z;exact nomatch hb.mpr xX
   erw[0,2,6];erw[_,3,n+1,1,1,3,3,1]
def ef:FnScope ["_law_feed_here","_law_need_here","_law_form","_law_number"] Ws (ag lJ):=%[|5]
def vN(F:#["_law_field",lJ])(a7:#[1,"_law_take",WD,spTake])(gI:#[1,"_law_is_prime",["_law_number"],spPrimeB]):#[2,f,fd,Ws,spFieldL]:=by
 exists ef
 erw[f,m,1,hF,m2,m4,q]at h;refine⟨_,(aa #[am,2,ef,ai a7 hr ⋯ rfl %[0,ac|aQ]]
  (aa #[am,3,ef,au aR (pv 1) ac]
  (aa (aG (af aP (pv 2) ac (ao _)) (ad #[am,3,ef,au aR (au aR (pv 1) ac) (ai a7 hr ⋯ rfl %[0,ac|aQ])]) ax)
  (aa (aG (af aP (pv 2) ac (ao _)) (ad #[am,3,ef,au aR (au aR (pv 1) ac) (ai a7 hr ⋯ rfl %[0,au bc ac (pv 1)|aQ])]) ax)
  (aa (hJ zG1 (gy (dJ (ai gI hr ⋯ rfl %[3|aQ]))) (ad #[am,3,ef,au aR (pv 3) ac]))
  (ad (aq (pv 3)))))))),?_⟩
 erw[0,f,(4),1,hF,4,4,λfm H1 _ _ F1 S1=>?_];erw[0,2,6];erw[0,1,0,6];apply pP (λc1=>?b1) (λc1=>?b2)
 case' b1=>
  erw[0,2,0,f,(60),1,F1,4,4,λd H2 d0 d1 F2 S2=>?_];erw[2,6];let G2:=S1.trans S2;let n1:m<m+1+d:=#[0]
  let n2:m+1+d<=999983:=#[0]
 case' b2=>
  let F2:=F1;let G2:=S1;let n1:m<m+1:=#[0]
  let n2:m+1<=999983:=#[0]
 all_goals
  erw[0,1,0,6];apply pP (λc2=>?_) (λc2=>?_);erw[0,2,0,0,2,f,0,F2,(show(0:Int)<999983-m by omega),(show(999983:Int)-m<2 ^ 63 by omega),λd H3 d0 d1 F3 S3=>?_];erw[2,6];let G3:=G2.trans S3;clear n1 n2;let n1:m<m+1+d:=#[0]
  let n2:m+1+d<=999983:=by
   have:d<999983-m:=d1
   omega
  rotate_left
  let F3:=F2;let G3:=G2
  rotate_left
  all_goals
   apply vC (λp pp mp p9=>?_) _ n1 n2;erw[0,q p _ pp mp p9 F3 G3]
inductive spGame(vs:List V)(H:Hp)(Q:VK)(Jz:XK):Prop
 |mk:∀(f:Addr)(most room:Int),vs=[.ref f,.int most,.int room]->FeedAt H f->0<=most->most<=6->1<=room->room<=30->(∀(g a b:Addr)(ns:List Str)(tv:List V)(ts:List Tr)(p:Int)(H':Hp),H' g=some (.tup [.ref a,.ref b,.int p])->H' a=some (.tup (ns.map V.str))->(ns.length:Int)<=most->(∀x∈ns,qf x)->ns.Nodup->H' b=some (.tup tv)->TreesAt H' tv ts->1<=ts.length->ts.length<=4 ->
   (∀t∈ts,t.ok ns/\t.depth<=9/\(t.size:Int)<=room)->Pr p->2<p->p<=999983->(ts.length:Int)<=p->(∀t∈ts,∀x∈ns,(t.names.count x:Int)<p)->FeedAt H' f->SameBut f H H'->Q (.ref g) H')->spGame vs H Q Jz
def mB{m:Int}(h0:0<=m)(h6:m<=6):(0:Int)<m+1/\m+1<2 ^ 63:=#[0]
def zB{z:Int}(h0:1<=z)(h6:z<=4):-(2 ^ 62)<=z/\z<2 ^ 62:=#[0]
def rB{r:Int}(h0:1<=r)(h6:r<=30):0<r/\r<2 ^ 63:=#[0]
def eB{e r:Int}(h0:0<=e)(h1:e<r)(h6:r<=30):(1:Int)<=1+e/\(1:Int)+e<=100:=#[0]
def ib:FnScope ["_law_feed_here","_law_most","_law_room","_law_names_here","_law_many","_law_trees"] Wt (ag oK):=%[|5]
def yh(F:#["_law_game",oK])(hrange:mg "range"=none)(htuple:mg "tuple"=none)(a7:#[1,"_law_take",WD,spTake])(eX:#[2,"_law_names",WD,spNamesN])
 (eM:#[12,"_law_tree",WP,spTree 10])(v7:#[13,"_law_need",Wr,spNeed])(mJ:#[2,"_law_field",Ws,spFieldL]):#[14,f,fd,Wt,spGame]:=by
 exists ib
 erw[f,most,room,1,hF,m0,m6,r1,r30,q]at h;refine⟨_,(aa (am (i:=3) ib.nd rfl (Or.inr rfl) (ai eX hr ⋯ rfl %[0,ai a7 hr ⋯ rfl %[0,au aR (pv 1) ac|aQ]|aQ]))
  (aa #[am,4,ib,aJ ix_list (cP %[ac,ac,ac,ac,ac,ac|aQ]) (ai a7 hr ⋯ rfl %[0,ac|aQ]) #[1]]
  (aa (so (i:=5) (N:=["_law_room","_law_names_here","_law_feed_here"]) (ix:=[2,3,0]) ib.nd rfl (.inl rfl) rfl
   (CompScope.three (by rfl') ⋯ rfl ⋯ rfl ⋯ rfl (by rfl') (by rfl') (by rfl') (by rfl') (by rfl') rfl rfl (by rfl') rfl rfl (by rfl') rfl rfl) rfl
   (cu rfl hrange %[4|aQ])
   (λ_ _ _=>cD (ai eM hr ⋯ rfl %[3,2,au aR ac (ai a7 hr ⋯ rfl %[3,1|aQ]),ac|aQ])))
  (ad (aq (aM %[bv bb rfl htuple bp %[3|aQ],bv bb rfl htuple bp %[5|aQ],ai mJ hr ⋯ rfl %[0,ai v7 hr ⋯ rfl %[3,5|aQ]|aQ]|aQ])))))),?_⟩
 erw[0,0,0,2,f,0,hF,(mB m0 m6).1,(mB m0 m6).2,λmk H1 k0 k7 F1 S1=>?_];erw[f,mk,1,F1,k0,3,λnl ns H2 nl0 nlf hnl nsl nok nnd F2 S2=>?_];let S02:=S1.trans S2;erw[y6S,λl hl=>?_];let lf:=F2.ne hl;let G2:=zC0 hl (.lst [.int 1,.int 1,.int 1,.int 2,.int 3,.int 4]);erw[0,f,(6),1,F2.same G2,4,4,λj H3 j0 j6 F3 S3=>?_];let hl3:=S3 l _ lf aO;let%[x,hx|xm]:=ly (l:=[V.int 1,V.int 1,V.int 1,V.int 2,V.int 3,V.int 4]) (i:=j) j0 (by show j<6;omega);obtain⟨z,rfl,z0,z4⟩:∃z:Int,x=.int z/\1<=z/\z<=4:=by
  simp only[List.mem_cons,wP1,or_false]at xm;rcases xm with h | h | h | h | h | h <;> erw[_,h,4,4]
 erw[l,_,2,zG0 hl3,hx,6];let S23:SameBut f H2 H3:=(zJ0 G2).trans S3;let hnl3:=S23 nl _ nlf hnl;let S03:=S02.trans S23;let nl6:ns.length<=6:=#[0]
 erw[0,z,1,(zB z0 z4).1,(zB z0 z4).2,λD hD=>?_];let Df:=F3.ne hD;let nD:nl≠D:=aX hnl3 hD;let GD:=zC0 hD (.lst []);apply dP (λi H'=>∃(tv:List V)(ts:List Tr),H' D=some (.lst tv)/\TreesAt H' tv ts/\ts.length=i/\(∀t∈ts,t.ok ns/\t.depth<=9/\(t.size:Int)<=room)/\FeedAt H' f/\SameBut f H3 H') %[[],[],aO,.nil,1,(λt ht=>by cases ht),F3.same GD|zJ0 GD] ?_ ?_
 . rintro i H4 hi ⟨tv,ts,hD4,TS,tl,tok,F4,S4⟩;let hi':i<z.toNat:=hi;let hnl4:=S4 nl _ nlf hnl3;erw[0,0,0,0,f,room,1,F4,(rB r1 r30).1,(rB r1 r30).2,λe H5 e0 e1 F5 S5=>?_];let hnl5:=S5 nl _ nlf hnl4;erw[2,f,nl,_,_,ns,1,F5,.inl hnl5,nl6,(eB e0 e1 r30).1,(eB e0 e1 r30).2,4,4,λv t H6 F6 S6 T6 ok6 sz6 dp6=>?_];let S46:=S5.trans S6;let hD6:=S46 D _ Df hD4;let k46:=aZ F4 S46;let vl:=TS.length;erw[_,hD6,aN #[0],Nx.of hi ⟨tv++[v],ts++[t],aO,?_,?_,?_,lq F6 Df,?_⟩]
   . let k:=eR (H:=H6) (b:=D) (ys:=tv) (zs:=tv++[v]) hD6;exact((TS.mono k46).mono k).append (.cons (T6.mono k) .nil)
   . rw[zL0,qN0,tl]
   . intro u hu;rcases qJ0 hu with h | h
     . exact tok u h
     . rw[zP0 h];let d9:(t.depth:Int)<=9:=dp6;let s9:(t.size:Int)<=1+e:=sz6;erw[ok6,3,3]
   . intro b o hb eb;rw[aD (aX eb hD)];exact S46 b o hb (S4 b o hb eb)
 . rintro H4 ⟨tv,ts,hD4,TS,tl,tok,F4,S4⟩;let hnl4:=S4 nl _ nlf hnl3;let tl':ts.length=z.toNat:=tl;let tl1:1<=ts.length:=#[0]
   let tl4:ts.length<=4:=#[0]
   erw[0,nl,0,.inl %[zG0 hnl4|λa ha=>?_]];let Ga:=zC0 ha (.tup (ns.map V.str));erw[0,D,0,.inl %[zG0 (Ga _ _ hD4)|λb hb=>?_]];let Gb:=zC0 hb (.tup tv);let Gab:=Ga.trans Gb;let wfs:∀t∈ts,t.wf:=λt ht=>Tr.ok_wf nok t (tok t ht).1
   erw[0,0,0,nl,D,ns,tv,ts,1,Gab _ _ hnl4,Gab _ _ hD4,TS.mono (bd Gab),zM0 tl4 ⋯,λt ht=>%[wfs t ht,zM0 (tok t ht).2.1 ⋯|by have:=(tok t ht).2.2;omega],λm H5 S5 m2 m4 mt mc=>?_];let F5:=(F4.same Gab).same S5;erw[f,m,1,F5,m2,m4,λp H6 pp mp p9 F6 S6=>?_];erw[y3S,λg hg=>?_];let Gg:=zC0 hg (.tup [.ref a,.ref b,.int p]);let k6:bN (upd (upd H4 a (.tup (ns.map V.str))) b (.tup tv)) (upd H6 g (.tup [.ref a,.ref b,.int p])):=λc ys h=>Gg _ _ (aZ F5 S6 _ _ (S5 _ _ h))
   apply q g a b ns tv ts p _ aO (k6 _ _ (Gb _ _ aO)) #[0] nok nnd (k6 _ _ aO) ((TS.mono (bd Gab)).mono k6) tl1 tl4 tok pp #[0] p9 #[0] (λt ht x hx=>by have:=mc t ht x hx;omega) (F6.same Gg) ?_;exact S03.trans (S4.trans ((zJ0 (Gab.trans S5)).trans (S6.trans (zJ0 Gg))))
instance spWithin:∀(v:V)(t:Tr),vs=[v]->TreeAt H v t->t.wf->(∀(p:Addr)(xs:List V)(H':Hp),Same H H'->H' p=some (.tup xs)->TreesAt H' xs t.parts->Q (.ref p) H'):=1
def nq:FnScope WB WB (ag gi):=%[|5]
def ny(F:#["trees_within",gi]):#[1,f,fd,WB,spWithin]:=by
 exists nq
 erw[v,t,1,T,wf,q]at h;refine⟨_,(aa (aG (af aP (aJ ix_tup (pv 0) ac #[1]) aB (ao _)) (ad (aq (aM aQ))) ax)
  (ad (aq (eZ rA (pv 0) (ee ac) jw)))),?_⟩
 rcases T.view wf with⟨a,x,rfl,rfl,_,e⟩ | ⟨a,o,xs,rfl,no,xl,e,TS,_⟩
 . erw[0,a,_,(0),0,1,zB0 e,1,1,0,6];apply aV rfl ?_;erw[y0S,λp hp=>?_];exact q p [] _ (zC0 hp _) aO .nil
 . erw[0,a,_,(0),.str o,1,1,zB0 e,at0 ..,1,0,6];apply ay (λz=>no (by injection z)) ?_;let%[c1|c2]:=cut1 (.str o) xs xl;erw[0,(1),1,a,0,zB0 e,c2,λp hp=>?_];rw[c1];exact q p xs _ (zC0 hp _) aO (TS.mono (bd (zC0 hp _)))
instance spNamesIn(n:Nat):∀(v:V)(t:Tr),vs=[v]->TreeAt H v t->t.wf->t.depth<=n->t.size<=400->(∀(l:Addr)(H':Hp),H l=none->Same H H'->H' l=some (.lst (t.names.map V.str))->Q (.ref l) H'):=1
def iL:FnScope ["tree","names","part"] WB (ag il):=%[|5]
def vU{n:Nat}(F:#["names_in",il])(a8:#[1,"trees_within",WB,spWithin])(cJ:#[n+2,"names_in",WB,spNamesIn n]):#[n+3,f,fd,WB,spNamesIn (n+1)]:=by
 exists iL
 erw[v,t,1,T,wf,dn,sz,q]at h;refine⟨_,(aa (aG (af aP (aJ ix_tup (pv 0) ac #[1]) aB (ao _)) (ad (aq (cP %[aJ ix_tup (pv 0) ac #[1]|aQ]))) ax)
  (aa #[am,1,iL,cP aQ]
  (aa (cK zG1 rfl (fu (ai a8 hr #[0] rfl %[0|aQ])) (bg (i:=2) iL.nd rfl (.inl rfl)) (ad (aS (cW zC1 PySem.F.slot_list_extend PySem.F.type_list_extend yz (pv 1) %[ai cJ hr (zH0 _) rfl %[2|aQ]|aQ]))))
  (ad (aq (pv 1)))))),?_⟩
 let wf':=wf;rcases T.view wf with⟨a,x,rfl,rfl,_,e⟩ | ⟨a,o,xs0,rfl,no,xl0,e,_,nis⟩
 . erw[0,a,_,(0),0,1,zB0 e,1,1,0,6];apply aV rfl ?_;erw[0,a,_,(1),0,1,zB0 e,1,y1S,λp hp=>?_];exact q p _ hp (zC0 hp _) aO
 . erw[0,a,_,(0),.str o,1,1,zB0 e,at0 ..,1,0,6];apply ay (λz=>no (by injection z)) ?_;erw[y0S,λL hL=>?_];let G0:=zC0 hL (.lst []);erw[0,_,t,1,T.mono (bd G0),wf,λp xs H1 S1 hp TS=>?_];let hL1:H1 L=some (.lst []):=S1 _ _ aO;let pL:p≠L:=λz=>by rw[z,hL1]at hp;cases hp
   let xl:=TS.length;let sp:=t.size_parts;erw[p,1,%[_|zB0 hp],sV (K:=K) (xs:=xs) (λi σ H'=>∃x2,σ=[some (.ref a),some (.ref L),x2]/\H' L=some (.lst ((gA (t.parts.take i)).map V.str))/\SameBut L H1 H') %[0,hL1|SameBut.refl _ _] (λi σ H' _ JE=>by erw[_,_,_,h]at JE;exact zB0 (h _ _ pL hp)) ?_ ?_]
   . rintro i x σ H2 hx ⟨x2,rfl,hl,S2⟩;let%[u,hu|Tu]:=TS.get hx;let um:=qG0 hu;let%[uw,ud|us]:=Tr.parts_mem um wf;let Tu2:TreeAt H2 x u:=Tu.mono λb ys h=>S2 b _ (λz=>by rw[z,hL1]at h;cases h) h
     erw[0,.inl %[1,_|zG0 hl],0,x,u,1,Tu2,uw,3,3,λl H3 l0 S3 hl3=>?_];let nl:=u.names_len;let nl2:=pI (t.parts.take i);let nl3:=oz t.parts i;erw[L,l,2,S3 _ _ hl,hl3,6,6]
     . rw[zF0,zF0];exact cg #[0]
     erw[0,6,λb o hb h=>?_]
     . rw[aO,mX hu,zK0]
     . rw[aD hb];exact S3 _ _ (S2 _ _ hb h)
   . rintro σ H2 ⟨x2,rfl,hl,S2⟩;rw[xl,qF0,←t.names_parts nis]at hl;erw[0,6];apply q L H2 hL (λb o h=>?_) hl;exact S2 b o (aX h hL) (S1 _ _ (G0 _ _ h))
def vT:#[2,f,fd,WB,spNamesIn 0]:=by
 let no:∀vs H Q E,¬ spNamesIn 0 vs H Q E:=λvs H Q E h=>by
  erw[v,t,_,_,_,h1,_]at h
  have:=t.depth_pos
  omega
 exists 3
def mQ(F:#["names_in",il])(m:mg "names_in"=some (.ref f))(a8:#[1,"trees_within",WB,spWithin]):
 ∀n:Nat,#[n+2,f,fd,WB,spNamesIn n]
 |0=>vT
 |n+1=>vU F a8 (Cal.of F (mQ F m a8 n) m (λ_ _ _ _ _ _ us hl=>by let%[u0|1]:=Dj hl;rfl))
instance spField:∀n:Int,vs=[.int n]->n<=999999->(∀b:Bool,(b=true↔2<n/\Pr n)->Q (.bl b) H):=1
def iM:FnScope ["number","divisor"] ["number"] (ag ko):=%[|5]
def uf(F:#["is_field",ko]):#[1,f,fd,["number"],spField]:=by
 exists iM
 erw[n,1,n9,q]at h;refine⟨_,(aa (aG (PW.pt (dR (af du (pv 0) ac (ao _)) (dI (af aP (au aY (pv 0) ac) ac (ao _))))) (ad (aq hR)) ax)
  (aa #[am,1,iM,ac]
  (aa (hJ zG1 (af tW (au cq (pv 1) (pv 1)) (pv 0) (ao _)) (aa (aG (af aP (au aY (pv 0) (pv 1)) ac (ao _)) (ad (aq hR)) ax)
   (ad #[am,1,iM,au aR (pv 1) ac])))
  (ad (aq hR))))),?_⟩
 erw[0,2,0,6]
 by_cases c:n<3
 . apply aV c ?_;apply dL ?_;exact q false %[λz=>(nomatch z)|λz=>#[0]]
 apply ay c ?_;erw[0,2,(by show(0:Int)<_;decide),1,0,6]
 by_cases c2:n % 2=0
 . apply aV (congrArg V.int c2) ?_;exact q false %[λz=>(nomatch z)|λz=>absurd z.2 (yV c2 #[0])]
 apply ay (λz=>c2 (V.int.inj z)) ?_;erw[λm σ H'=>∃d:Int,σ=[some (.int n),some (.int d)]/\H'=H/\3<=d/\d<=1001/\d % 2=1/\uP n d/\m=(n+3-d).toNat,%[_,(3),1,1,3,3,3,yw n|1],6];rintro m σ H' ⟨d,rfl,rfl,d3,d9,d2,u,rfl⟩;erw[0,0,2,.inl %[3|3],0,2,0,6]
 by_cases c3:d*d<=n
 . apply aV c3 ?_;let r1:=vd n9 d3 c3;let r2:=Cz d3 c3;erw[_,λ_ _ h=>h,6];erw[0,0,2,(show 0<d by omega),1,0,6]
   by_cases c4:n % d=0
   . apply aV (congrArg V.int c4) ?_;exact q false %[λz=>(nomatch z)|λz=>absurd z.2 (yU n9 d3 c3 c4)]
   apply ay (λz=>c4 (V.int.inj z)) ?_;erw[0,2,6];erw[_,3,d+2,1,1,3,3,3,AQ u d2 c4,1]
 . apply ay c3 ?_;exact q true %[λ_=>%[3|yT #[0] c2 d3 u #[0]]|λ_=>rfl]
abbrev rR:Stmt:=bn rS 0
abbrev vy:Stmt:=bn rS 1
abbrev oQ:Stmt:=bn rS 2
abbrev oR:Stmt:=bn rS 3
def gf(a b:Addr)(p:Int)(d:Addr):List (Str×V):=bq "degrees" (.ref d) (bq "field" (.int p) (bq "trees" (.ref b) (bq "switches" (.ref a) [])))
def lm(a b:Addr)(p:Int)(d:Addr):(gf a b p d).lookup ("switches":Str)=some (.ref a):=by
 unfold gf;rw[aj,Jy ⋯,aj,Jy ⋯,aj,Jy ⋯,aj,JB rfl]
def jQ(a b:Addr)(p:Int)(d:Addr):(gf a b p d).lookup ("trees":Str)=some (.ref b):=by
 unfold gf;rw[aj,Jy ⋯,aj,Jy ⋯,aj,JB rfl]
def gN(a b:Addr)(p:Int)(d:Addr):(gf a b p d).lookup ("field":Str)=some (.int p):=by
 unfold gf;rw[aj,Jy ⋯,aj,JB rfl]
def Bs(a b:Addr)(p:Int)(d:Addr):(gf a b p d).lookup ("degrees":Str)=some (.ref d):=by
 unfold gf;rw[aj,JB rfl]
def qT(a b:Addr)(p:Int)(d:Addr){m:Str}(h1:¬ m="degrees")(h2:¬ m="field")(h3:¬ m="trees")(h4:¬ m="switches"):(gf a b p d).lookup m=none:=by
 unfold gf;rw[aj,Jy h1,aj,Jy h2,aj,Jy h3,aj,Jy h4]
 all_goals rfl
structure GTxt(K:W.Frag)(mg:#[9])(C:Addr):Prop where
 cl:Cls K C
 nS:NoAttr K C "switches"
 nT:NoAttr K C "trees"
 nF:NoAttr K C "field"
 nD:NoAttr K C "degrees"
 mgC:mg "Game"=some (.ref C)
def uN(g:Nat->Int):∀n,∃k,k<=n/\dX g n=g k
 |0=>%[(0),zH0 _|1]
 |n+1=>by
   let%[k,hk|e]:=uN g n;unfold dX
   split
   . erw[n+1,zH0 _,1]
   . erw[k,3,e]
def iZ{ns:List Int}(h:ns≠[]):Ba ns 0∈ns:=by
 cases ns with
 |nil=>exact absurd rfl h
 |cons a r=>
   let%[k,hk|e]:=uN (λi=>(a::r)[i]?.getD 0) ((a::r).length-1);let e1:Ba (a::r) 0=dX (λi=>(a::r)[i]?.getD 0) ((a::r).length-1):=rfl;let hl:k<(a::r).length:=by
    rw[zU0]at hk ⊢;omega
   rw[e1,e];show(a::r)[k]?.getD 0∈a::r;rw[zS0 hl];exact qO0 hl
def bO(ts:List Tr)(x:Str):Int:=Ba (ts.map λt=>(t.names.count x:Int)) 0
def pV{ts:List Tr}{x:Str}{p:Int}(h0:ts≠[])(h:∀t∈ts,(t.names.count x:Int)<p):bO ts x<p:=by
 have:=iZ (ns:=ts.map λt=>(t.names.count x:Int)) #[h0,0]
 let%[t,ht|e]:=List.mem_map.mp this;unfold bO;rw[←e];exact h t ht
instance spDeg:∀(x:Str)(b:Addr)(tv:List V)(ts:List Tr),vs=[.str x,.ref b]->H b=some (.tup tv)->TreesAt H tv ts->ts≠[]->ts.length<=10->(∀t∈ts,t.wf/\t.depth<=10/\t.size<=400)->(∀H',Same H H'->Q (.int (bO ts x)) H'):=1
def rG:FnScope Wh Wh (ag iT):=%[|5]
def sD(F:#["degree_of",iT])(hmax:mg "max"=none)(cJ:#[12,"names_in",WB,spNamesIn 10]):#[13,f,fd,Wh,spDeg]:=by
 exists rG
 erw[x,b,tv,ts,1,hb,TS,t0,tl,tok,q]at h;refine⟨_,(ad (aq (aE (mq rfl) rfl hmax zZ1 (ae (cb (N:=["name"]) (ix:=[0]) rfl
  #[3] rfl
  (fu (pv 1)) (λ_ _ _=>cD (Eo K zC1 PySem.F.slot_list_count PySem.F.type_list_count (yA K) (ai cJ hr ⋯ rfl %[0|aQ]) %[1|aQ]))) aQ)))),?_⟩
 let vl:=TS.length;erw[0,b,1,%[_|zB0 hb],λD hD=>?_];apply dN (K:=K) (xs:=tv) (λi H'=>H' D=some (.lst (((ts.take i).map λt=>(t.names.count x:Int)).map V.int))/\Same H H') %[by rw[aO];rfl|zC0 hD _] (λi H' _ h=>zB0 (h.2 _ _ hb)) ?_ ?_
 . rintro i z H2 hz ⟨hl,S2⟩;let%[t,ht|T]:=TS.get hz;let%[tw,td|tz]:=tok t (qG0 ht);let hi:i<tv.length:=(qD0 hz).1;erw[0,z,t,1,T.mono (bd S2),tw,3,tz,λl H3 l0 S3 hl3=>?_];erw[.inl %[1,_|zG0 hl3],0,l,2,zG0 hl3,fY _,1,6];rw[pW];erw[_,S3 _ _ hl,6,Nx.of hi %[6|λb' o' e'=>?_]]
   . rw[zF0,zF0,qI0];exact aN #[0]
   . rw[aO,qH0,ht,zK0,zK0];rfl
   . rw[aD (aX e' hD)];exact S3 _ _ (S2 _ _ e')
 . rintro H2 ⟨hl,S2⟩;rw[vl,qF0]at hl;erw[D,0,zG0 hl,by simpa using t0,q H2 S2]
instance spLookS:∀(a:Addr)(ns:List Str),vs=[.ref a]->H a=some (.tup (ns.map V.str))->ns.Nodup->ns.length<=10->(∀H',Same H H'->Q .non H'):=1
def iD(x:Str)(ns:List Str):inV (.str x) (ns.map V.str)=decide (x∈ns):=by
 unfold inV
 induction ns with
 |nil=>rfl
 |cons a r ih=>
   rw [zZ0,jK1,ih];let e:eqV (.str a) (.str x)=decide (x=a):=by
    show(a==x)=_
    by_cases c:x=a
    . subst c;simp
    . rw[zE1 c];simpa using λh=>c h.symm
   rw[e]
   by_cases c1:x=a <;> by_cases c2:x∈r <;> simp [c1,c2]
def eN:FnScope ["switches","place","name"] ["switches"] (ag fo):=%[|5]
def ma(F:#["look_switches",fo])(henum:mg "enumerate"=none):#[1,f,fd,["switches"],spLookS]:=by
 exists eN
 erw[a,ns,1,ha,nd,nl,q]at h;refine⟨_,(ad (cK zG1 rfl (tS rfl henum (pv 0)) (lW rfl (db (bg (i:=1) eN.nd rfl (.inl rfl)) (db (bg (i:=2) eN.nd rfl (.inl rfl)) jx)))
  (ad (aG (af eP (pv 2) (eZ rA (pv 0) jw (ee (pv 1))) (by rfl')) bu ax)))),?_⟩
 erw[0,a,1,%[_|zB0 ha],qU (K:=K) (xs:=ns.map V.str) (λi σ H'=>∃x1 x2:Option V,σ=[some (.ref a),x1,x2]/\Same H H') %[_,0|Same.refl _] (λi σ H' _ JE=>by erw[_,_,_,h]at JE;exact zB0 (h _ _ ha)) ?_ ?_]
 . rintro i z σ H1 t hz ⟨x1,x2,rfl,S1⟩ ht;let hi:i<(ns.map V.str).length:=(qD0 hz).1;rw[zX0]at hz;let%[x,hx|1]:=qP0 hz;let G:=zC0 ht (.tup [.int (i:Int),.str x]);let S2:=S1.trans G;let hi':i<ns.length:=by rw[zF0]at hi;exact hi
   erw[t,0,zB0 aO,1,_,0,2,6];erw[0,0,0,(i:Int),1,a,0,zB0 (S2 _ _ ha),6,λc hc=>?_]
   . rintro⟨_,h⟩;rw[HT.sIx_nat]at h;omega
   . erw[c,0,.inr (zB0 aO),1,6,0,6]
     . let ec:hV (ns.map V.str) none (some (i:Int))=(ns.take i).map V.str:=by
        unfold hV;rw[HT.sIx_none,HT.sIx_nat,jF1,wE1,List.map_take]
        congr 1
        omega
       rw[ec];exact fY _
     . let ec:hV (ns.map V.str) none (some (i:Int))=(ns.take i).map V.str:=by
        unfold hV;rw[HT.sIx_none,HT.sIx_nat,jF1,wE1,List.map_take]
        congr 1
        omega
       show if inV (.str x) (hV (ns.map V.str) none (some (i:Int)))=true then _ else _
       rw[ec,iD,zE1 ?_]
       . apply cV ?_;erw[_,0,S2.trans (zC0 hc _)]
       . intro hm;let%[j,hj|e]:=List.getElem_of_mem hm;rw[qI0]at hj;rw[List.getElem_take]at e;let ex:ns[i]=x:=by
          rw[zS0 hi']at hx;exact zT0 hx
         exact List.pairwise_iff_getElem.mp nd j i #[0] hi' #[0] (e.trans ex.symm)
 . rintro σ H1 ⟨x1,x2,rfl,S1⟩;exact q H1 S1
def ld{ns:List Str}:∀t:Tr,t.ok ns->∀x∈t.names,x∈ns
 |.is y,h,x,hx=>by rw[zP0 hx];exact h
 |.yes,_,x,hx=>by cases hx
 |.no,_,x,hx=>by cases hx
 |.not a,h,x,hx=>ld a h x hx
 |.bin _ a b,⟨_,h1,h2⟩,x,hx=>by
   rcases qJ0 hx with h | h
   . exact ld a h1 x h
   . exact ld b h2 x h
instance spLookN:∀(a b:Addr)(ns:List Str)(tv:List V)(ts:List Tr),vs=[.ref b,.ref a]->H a=some (.tup (ns.map V.str))->H b=some (.tup tv)->TreesAt H tv ts->(∀t∈ts,t.ok ns/\t.wf/\t.depth<=10/\t.size<=400)->(∀H',Same H H'->Q .non H'):=1
def f9:FnScope ["trees","switches","tree","name"] ["trees","switches"] (ag im):=%[|5]
def ql(F:#["look_names",im])(cJ:#[12,"names_in",WB,spNamesIn 10]):#[13,f,fd,["trees","switches"],spLookN]:=by
 exists f9
 erw[a,b,ns,tv,ts,1,ha,hb,TS,tok,q]at h;refine⟨_,(ad (cK zG1 rfl (fu (pv 0)) (bg (i:=2) f9.nd rfl (.inl rfl))
  (ad (cK zG1 rfl (fL (ai cJ hr ⋯ rfl %[2|aQ])) (bg (i:=3) f9.nd rfl (.inl rfl))
   (ad (aG (af kU (pv 3) (pv 1) (by rfl')) bu ax)))))),?_⟩
 erw[0,b,1,%[_|zB0 hb],sV (K:=K) (xs:=tv) (λi σ H'=>∃x2 x3:Option V,σ=[some (.ref b),some (.ref a),x2,x3]/\Same H H') %[_,0|Same.refl _] (λi σ H' _ JE=>by erw[_,_,_,h]at JE;exact zB0 (h _ _ hb)) ?_ ?_]
 . rintro i z σ H1 hz ⟨x2,x3,rfl,S1⟩;let%[t,ht|T]:=TS.get hz;let%[tk,tw,td|tz]:=tok t (qG0 ht);erw[0,z,t,1,T.mono (bd S1),tw,3,tz,λl H2 l0 S2 hl=>?_];let S12:=S1.trans S2;erw[l,1,%[_|zG0 hl],je (K:=K) (xs:=t.names.map V.str) (λj σ H'=>∃x3:Option V,σ=[some (.ref b),some (.ref a),some z,x3]/\H'=H2) %[0|1] (λj σ H' _ JE=>by erw[_,_,h]at JE;subst h;exact zG0 hl) ?_ ?_]
   . rintro j y σ H3 hy ⟨y3,rfl,rfl⟩;rw[zX0]at hy;let%[x,hx|1]:=qP0 hy;erw[0,0,a,0,.inr (zB0 (S12 _ _ ha)),1,fY _,0,6];show if(!inV (.str x) (ns.map V.str))=true then _ else _
     rw[iD,zD1 (ld t tk x (qG0 hx))];apply cV ?_;erw[0,1]
   . rintro σ H3 ⟨y3,rfl,rfl⟩;erw[_,0,S12]
 . rintro σ H1 ⟨x2,x3,rfl,S1⟩;exact q H1 S1
instance spLookF:∀p:Int,vs=[.int p]->Pr p->2<p->p<=999983->Q .non H:=1
def qh:FnScope ["field"] ["field"] (ag io):=%[|5]
def qm(F:#["look_field",io])(hend:∃t,mg "FIELDS_END"=some (.int 1000000 t))(kE:#[1,"is_field",["number"],spField]):#[2,f,fd,["field"],spLookF]:=by
 exists qh
 erw[p,1,pp,p2,p9,q]at h;erw[te,ge]at hend;erw[_,(ad (aG (PW.pt (dR (af DI (pv 0) (cY (v:=.int 1000000) rfl ge %[|0]) (ao _)) (dI (gy (dJ (ai kE hr ⋯ rfl %[0|aQ])))))) bu ax)),6];erw[0,2,0,6];apply ay #[0] ?_;erw[0,p,1,3,λb hb=>%[b,1|6]];rw[hb.mpr ⟨p2,pp⟩];exact cV q
instance spLookZ:∀(p:Int)(d:Addr)(ns:List Int),vs=[.int p,.ref d]->H d=some (.lst (ns.map V.int))->ns≠[]->(∀n∈ns,n<p)->Q .non H:=1
def mK:FnScope ["field","degrees","greatest"] ["field","degrees"] (ag iR):=%[|5]
def sB(F:#["look_size",iR])(hmax:mg "max"=none):#[1,f,fd,["field","degrees"],spLookZ]:=by
 exists mK
 erw[p,d,ns,1,hd,n0,nl,q]at h;refine⟨_,(aa #[am,2,mK,aE (mq rfl) rfl hmax zZ1 %[1|aQ]]
  (ad (aG (af tW (pv 0) (pv 2) (ao _)) bu ax))),?_⟩
 erw[0,d,ns,1,zG0 hd,n0,6];erw[0,0,2,0,6]
 have:=nl _ (iZ n0)
 exact ay #[0] q
def gu(f:Str)(v:V):∀fs:List (Str×V),(bq f v fs).length<=fs.length+1
 | []=>zH0 _
 | (g,u)::r=>by
   have:=gu f v r
   unfold bq
   split
   . simp
   . simp only[zU0];omega
def gf3(a b:Addr)(p:Int):List (Str×V):=bq "field" (.int p) (bq "trees" (.ref b) (bq "switches" (.ref a) []))
def ER(a b:Addr)(p:Int):(gf3 a b p).lookup ("switches":Str)=some (.ref a):=by
 unfold gf3;rw[aj,Jy ⋯,aj,Jy ⋯,aj,JB rfl]
def EQ(a b:Addr)(p:Int):(gf3 a b p).lookup ("trees":Str)=some (.ref b):=by
 unfold gf3;rw[aj,Jy ⋯,aj,JB rfl]
def GameAt(C:Addr)(H:Hp)(g a b d:Addr)(p:Int):Prop:=∃dx,H g=some (.ins C dx (gf a b p d))
def GameAt.same(h:GameAt C H g a b d p)(s:Same H H'):GameAt C H' g a b d p:=by
 erw[dx,e]at h;erw[dx,s _ _ e]
instance spGInit(C:Addr):∀(g dx a b:Addr)(ns:List Str)(tv:List V)(ts:List Tr)(p:Int),vs=[.ref g,.ref a,.ref b,.int p]->H g=some (.ins C dx [])->H a=some (.tup (ns.map V.str))->ns.Nodup->ns.length<=10->H b=some (.tup tv)->TreesAt H tv ts->1<=ts.length->ts.length<=10->(∀t∈ts,t.ok ns/\t.wf/\t.depth<=10/\t.size<=400)->Pr p->2<p->p<=999983->(ts.length:Int)<=p->(∀t∈ts,∀x∈ns,(t.names.count x:Int)<p)->(∀(d:Addr)(H':Hp),H d=none->GameAt C H' g a b d p->H' d=some (.lst ((ns.map (bO ts)).map V.int))->SameBut g H H'->Q .non H'):=1
def zU:FnScope WW WW (ag rR):=%[|5]
def AH(F:#["__init__","Game.__init__",rR])(T:GTxt K mg C)(htuple:mg "tuple"=none)(hlen:mg "len"=none)(iN:#[13,"degree_of",Wh,spDeg])(e8:#[1,"look_switches",["switches"],spLookS])
 (gO:#[13,"look_names",["trees","switches"],spLookN])(gY:#[2,"look_field",["field"],spLookF])(i3:#[1,"look_size",["field","degrees"],spLookZ]):#[14,f,fd,WW,spGInit C]:=by
 exists zU
 erw[g,dx,a,b,ns,tv,ts,p,1,hg,ha,nd,nl,hb,TS,t1,t10,tok,pp,p2,p9,tp,tc,q]at h;refine⟨_,(aa (aU (pv 0) (bv bb rfl htuple bp %[1|aQ]) rfl)
  (aa (aU (pv 0) (bv bb rfl htuple bp %[2|aQ]) rfl)
  (aa (aU (pv 0) (pv 3) rfl)
  (aa (aU (pv 0) (cb (N:=WA) (ix:=[0]) rfl
   #[3] rfl
   (fu (az (pv 0) rfl)) (λ_ _ _=>cD (ai iN hr ⋯ rfl %[0,jz K (pv 1)|aQ]))) rfl)
  (aa (aS (ai e8 hr ⋯ rfl %[az (pv 0) rfl|aQ]))
  (aa (aS (ai gO hr ⋯ rfl %[az (pv 0) rfl,az (pv 0) rfl|aQ]))
  (aa (aS (ai gY hr ⋯ rfl %[3|aQ]))
  (ad (aS (ai i3 hr ⋯ rfl %[3,au lY (az (pv 0) rfl) (cP %[au bc (aE aF rfl hlen zB1 %[az (pv 0) rfl|aQ]) ac|aQ])|aQ])))))))))),?_⟩
 let nag:a≠g:=bi ha hg nofun;let nbg:b≠g:=bi hb hg nofun;let vl:=TS.length;erw[0,a,0,.inr %[zB0 ha,0,g,C,dx,[],1,hg,T.cl,T.nS,(by show 0<1000;decide)|6]];erw[0,b,0,.inr %[zB0 (by rw[aD nbg];exact hb),0,g,C,dx,0,aO,T.cl,T.nT,(zJ1 (gu _ _ _) (by show 1<1000;decide))|6]];erw[0,0,g,C,dx,0,aO,9,T.nF,(zJ1 (gu _ _ _) (zJ1 (zF1 (gu _ _ _)) (by show 2<1000;decide))),6];let S3:SameBut g H (upd (upd (upd H g (.ins C dx (bq "switches" (.ref a) []))) g (.ins C dx (bq "trees" (.ref b) (bq "switches" (.ref a) [])))) g (.ins C dx (bq "field" (.int p) (bq "trees" (.ref b) (bq "switches" (.ref a) []))))):=
  (SameBut.upd _).trans ((SameBut.upd _).trans (SameBut.upd _))
 let hg3:upd (upd (upd H g (.ins C dx (bq "switches" (.ref a) []))) g (.ins C dx (bq "trees" (.ref b) (bq "switches" (.ref a) [])))) g (.ins C dx (bq "field" (.int p) (bq "trees" (.ref b) (bq "switches" (.ref a) [])))) g=some (.ins C dx (gf3 a b p)):=aO;generalize upd (upd (upd H g (.ins C dx (bq "switches" (.ref a) []))) g (.ins C dx (bq "trees" (.ref b) (bq "switches" (.ref a) [])))) g (.ins C dx (bq "field" (.int p) (bq "trees" (.ref b) (bq "switches" (.ref a) []))))=H3 at S3 hg3;let kT:bN H H3:=λc xs h=>S3 c _ (bi h hg nofun) h
 let ha3:=kT _ _ ha;let hb3:=kT _ _ hb;let TS3:=TS.mono kT;erw[0,g,C,dx,_,0,hg3,9,T.nS,ER ..,a,1,%[_|zB0 ha3],λD hD=>?_];let D0:H D=none:=by
  cases e:H D with
  |none=>rfl
  |some o=>
    by_cases c:D=g
    . rw[c,hg3]at hD;cases hD
    . rw[S3 D o c e]at hD;cases hD
 apply dN (K:=K) (xs:=ns.map V.str) (λi H'=>H' D=some (.lst (((ns.take i).map (bO ts)).map V.int))/\Same H3 H') %[by rw[aO];rfl|zC0 hD _] (λi H' _ h=>zB0 (h.2 _ _ ha3)) ?_ ?_
 . rintro i z H4 hz ⟨hl,S4⟩;let hi:i<(ns.map V.str).length:=(qD0 hz).1;rw[zX0]at hz;let%[x,hx|1]:=qP0 hz;erw[0,0,g,C,dx,_,0,S4 _ _ hg3,9,T.nT,EQ ..,x,b,tv,ts,1,S4 _ _ hb3,TS3.mono (bd S4),6,t10,λt ht=>(tok t ht).2,λH5 S5=>?_]
   . intro e;rw[e]at t1;exact absurd t1 ⋯
   erw[_,S5 _ _ hl,6,Nx.of hi %[6|λb' o' e'=>?_]]
   . rw[zF0,zF0,qI0];exact aN #[0]
   . rw[aO,qH0,hx,zK0,zK0];rfl
   . rw[aD (aX e' hD)];exact S5 _ _ (S4 _ _ e')
 rintro H4 ⟨hl,S4⟩;rw[zF0,qF0]at hl;erw[0,g,C,dx,0,S4 _ _ hg3,9,T.nD,6,6]
 . exact zJ1 (zM0 (gu _ _ _) (zF1 (zM0 (gu _ _ _) (zF1 (gu _ _ _))))) (by show 3<1000;decide)
 let nDg:D≠g:=λz=>by rw[z,hg3]at hD;cases hD
 let hg5:upd H4 g (.ins C dx (gf a b p D)) g=some (.ins C dx (gf a b p D)):=aO;let S5:SameBut g H (upd H4 g (.ins C dx (gf a b p D))):=S3.trans ((zJ0 S4).trans (SameBut.upd _));let hD5:upd H4 g (.ins C dx (gf a b p D)) D=some (.lst ((ns.map (bO ts)).map V.int)):=by rw[aD nDg];exact hl
 show _;generalize he5:upd H4 g (.ins C dx (gf a b p D))=H5 at hg5 S5 hD5;let kT5:bN H H5:=λc xs h=>S5 c _ (bi h hg nofun) h
 rw[show upd H4 g (.ins C dx (bq "degrees" (.ref D) (gf3 a b p)))=H5 from he5];erw[0,g,C,dx,_,0,hg5,9,T.nS,lm ..,a,ns,1,kT5 _ _ ha,nd,nl,λH6 S6=>?_];let kT6:bN H H6:=λc xs h=>S6 _ _ (kT5 c xs h)
 erw[0,g,C,dx,_,0,S6 _ _ hg5,9,T.nT,jQ ..,0,g,C,dx,_,0,S6 _ _ hg5,9,T.nS,lm ..,a,b,ns,tv,ts,1,kT6 _ _ ha,kT6 _ _ hb,TS.mono kT6,tok,λH7 S7=>?_];let S57:=S6.trans S7;erw[0,p,1,pp,p2,p9,6];erw[0,0,g,C,dx,_,0,S57 _ _ hg5,9,T.nD,Bs ..,0,g,C,dx,_,0,S57 _ _ hg5,9,T.nT,jQ ..,b,0,.inr (zB0 (S57 _ _ (kT5 _ _ hb))),2,y1S,λl hl2=>?_];let Gl:=zC0 hl2 (.lst [.int ((tv.length:Int)-1)]);erw[D,l,2,Gl _ _ (S57 _ _ hD5),aO,6,λr hr0=>?_]
 . rw[zF0,zF0];exact cg (by simp;omega)
 let Gr:=zC0 hr0 (.lst ((ns.map (bO ts)).map V.int++[.int ((tv.length:Int)-1)]));erw[p,r,ns.map (bO ts)++[(tv.length:Int)-1],1,6,by simp,λn hn=>?_,6]
 . rw[aO,zK0];rfl
 . rcases qJ0 hn with h | h
   . let%[x,hx|1]:=List.mem_map.mp h;apply pV ?_ λt ht=>tc t ht x hx
     intro e;rw[e]at t1;exact absurd t1 ⋯
   . rw[zP0 h];omega
 . let S59:=S57.trans (Gl.trans Gr);exact q D _ D0 %[dx|S59 _ _ hg5] (S59 _ _ hD5) (S5.trans (zJ0 S59))
instance spInv:∀a p:Int,vs=[.int a,.int p]->Pr p->p<=999983->0<a->a<p->(∀g:Int,0<g->g<p->g*a % p=1->Q (.int g) H):=1
def be:FnScope ["a","p","former","former_factor","rest","factor","times","lesser","lesser_factor"] ["a","p"] (ag iu):=%[|5]
def qt(F:#["inverse_of",iu]):#[1,f,fd,["a","p"],spInv]:=by
 exists be
 erw[a,p,1,pr,p1,a0,a1,q]at h;let p2:2<=p:=pr.1;refine⟨_,(aa #[am,2,be,pv 1]
  (aa #[am,3,be,ac]
  (aa #[am,4,be,au aY (pv 0) (pv 1)]
  (aa #[am,5,be,ac]
  (aa (hJ zG1 (af jN (pv 4) ac (ao _)) (aa #[am,6,be,au wS (pv 2) (pv 4)]
   (aa #[am,7,be,au bc (pv 2) (au cq (pv 6) (pv 4))]
   (aa #[am,8,be,au aY (au bc (pv 3) (au cq (pv 6) (pv 5))) (pv 1)]
   (aa #[am,2,be,pv 4]
   (aa #[am,3,be,pv 5]
   (aa #[am,4,be,pv 7]
   (ad #[am,5,be,pv 8]))))))))
  (ad (aq (pv 5)))))))),?_⟩
 erw[0,6];erw[0,0,2,(show 0<p by omega),6];erw[λm σ H'=>∃(former ff rest g:Int)(x6 x7 x8:Option V),σ=[some (.int a),some (.int p),some (.int former),some (.int ff),some (.int rest),some (.int g),x6,x7,x8]/\H'=H/\Eu a p former ff rest g/\m=rest.toNat,%[_,_,_,_,_,_,2,uH pr #[0] a0 a1|1],6]
 rintro m σ H' ⟨former,ff,rest,g,x6,x7,x8,rfl,rfl,eu,rfl⟩;erw[0,1,0,6]
 by_cases c:rest=1
 . apply mZ (congrArg V.int c) ?_;let%[g0,g1|g2]:=By eu c #[0];erw[0,q g g0 g1 g2]
 . apply iteN (λz=>c (V.int.inj z)) ?_;erw[_,λ_ _ h=>h,6];let r0:=eu.r0;let rp:=eu.rp;let f0:=eu.f0;let f1:=eu.f1;let%[nx|lt]:=wZ eu c;erw[0,0,2,%[r0|3],6];erw[0,0,0,2,.inr %[3|3],2,6];erw[0,0,0,2,.inr %[3|3],2,0,2,(show 0<p by omega),6];erw[0,0,0,0,6];erw[_,lt,_,_,_,_,_,2,nx,1]
def md{p x y:Int}(h:p ∣ x-y):x % p=y % p:=by
 erw[k,hk]at h
 have:x=y+p*k:=#[0]
 rw[this,Int.add_mul_emod_self_left]
def dm(p x:Int):p ∣ x % p-x:=⟨-(x / p),by
 have:=jB1 x p
 rw[Int.mul_neg];omega⟩
def pmd(p:Int)(g:Nat->Int):Nat->Int
 |0=>1
 |k+1=>pmd p g k*g k % p
def kQ(p:Int)(g:Nat->Int):∀k,p ∣ pmd p g k-pr g k
 |0=>%[(0)|by simp [pmd,pr]]
 |k+1=>by
   let%[a|ha]:=kQ p g k;let%[b|hb]:=dm p (pmd p g k*g k);erw[b+a*g k,by show pmd p g k*g k % p-pr g k*g k=_;grind]
def kP{p:Int}(hp:1<p)(g:Nat->Int):∀k,0<=pmd p g k/\pmd p g k<p
 |0=>%[by show(0:Int)<=1;decide|hp]
 |k+1=>%[qC0 _ #[0]|qE0 _ #[0]]
def prL(p:Int)(g:Nat->Int)(n:Nat):List V:=((List.range n).map (pmd p g)).map V.int
def pf(p:Int)(g:Nat->Int)(n:Nat):prL p g (n+1)=prL p g n++[.int (pmd p g n)]:=by
 unfold prL;rw[jC0,zK0,zK0];rfl
def CD(p:Int)(g:Nat->Int)(n:Nat):(prL p g n).length=n:=by
 unfold prL;rw[zF0,zF0,qT0]
def vZ{f:Nat->Int}{n k:Nat}(h:k<n):atI (((List.range n).map f).map V.int) (k:Int)=some (.int (f k)):=by
 apply bw ?_;rw[zX0,zX0,List.getElem?_range h];rfl
def vD{n k:Nat}(h:k<n):atI (prL p g n) (k:Int)=some (.int (pmd p g k)):=vZ h
instance spProd:∀(a:Addr)(g:Nat->Int)(n:Nat)(p:Int),vs=[.ref a,.int p]->H a=some (.lst (((List.range n).map g).map V.int))->n<=500->1<p->p<2 ^ 40->(∀(l:Addr)(H':Hp),H l=none->Same H H'->H' l=some (.lst (prL p g (n+1)))->Q (.ref l) H'):=1
def i4:FnScope ["numbers","p","told","number"] Wi (ag ki):=%[|5]
def ub(F:#["products",ki]):#[1,f,fd,Wi,spProd]:=by
 exists i4
 erw[a,g,n,p,1,ha,n5,p1,p40,q]at h;refine⟨_,(aa #[am,2,i4,cP %[ac|aQ]]
  (aa (cK zG1 rfl (fL (pv 0)) (bg (i:=3) i4.nd rfl (.inl rfl)) (ad (aS (cW zC1 zH1 zI1 bV (pv 2) %[au aY (au cq (aJ ix_list (pv 2) (As uW ac) #[1]) (pv 3)) (pv 1)|aQ]))))
  (ad (aq (pv 2))))),?_⟩
 erw[y1S,λL hL=>?_];let aL:a≠L:=aX ha hL;refine⟨_,rfl,a,rfl,%[_|zG0 ((zC0 hL _) _ _ ha)],je (K:=K) (xs:=((List.range n).map g).map V.int) (λi σ H'=>∃x3:Option V,σ=[some (.ref a),some (.int p),some (.ref L),x3]/\H' L=some (.lst (prL p g (i+1)))/\SameBut L H H')
  %[0,by rw[aO];rfl|SameBut.upd _] (λi σ H' _ JE=>by erw[_,_,_,h]at JE;exact zG0 (h _ _ aL ha)) ?_ ?_⟩
 . rintro i z σ H1 hz ⟨x3,rfl,hL1,S1⟩;let hi:=(qD0 hz).1;rw[zF0,zF0,qT0]at hi;rw[zX0,zX0,List.getElem?_range hi]at hz;obtain rfl:V.int (g i)=z:=zT0 hz;let rg:=kP p1 g i;erw[0,.inl %[1,_|zG0 hL1],6];erw[0,0,L,_,_,.int (pmd p g i),1,1,zG0 hL1,6,0,2,.inl %[3|3],0,2,#[0],L,2,hL1,6,6]
   . rw[pf];exact uO _ _
   . rw[CD];exact aN #[0]
   . erw[0,6,λc o hc e=>?_]
     . rw[aO,pf p g (i+1)];rfl
     . rw[aD hc];exact S1 c o hc e
 . rintro σ H1 ⟨x3,rfl,hL1,S1⟩;rw[zF0,zF0,qT0]at hL1;erw[0,q L H1 hL (λb o e=>S1 b o (aX e hL) e) hL1]
def Ao:∀n:Nat,pr (λk=>1+(k:Int)) n=fac n
 |0=>rfl
 |n+1=>by
   show pr (λk=>1+(k:Int)) n*(1+(n:Int))=fac n*((n:Int)+1)
   rw[Ao n,Int.add_comm]
def zP{p g a t s:Int}{k m:Nat}(hg:g*a % p=1)(p1:1<p)(ha:p ∣ a-fac (k+m))(ht:p ∣ t-pr (λj=>((k+m:Nat):Int)-j) m)(hs:p ∣ s-g*t):p ∣ s*fac k-1:=by
 let f:=uF m k;erw[x,hx]at ha;erw[y,hy]at ht;erw[z,hz]at hs;let%[e|he]:=dm p (g*a);rw[hg]at he;erw[z*fac k+g*y*fac k-g*x-e,by grind]
instance spFacs:∀(L:Nat)(p:Int),vs=[.int (L:Int),.int p]->L<=500->(L:Int)<p->Pr p->p<=999983->(∀(l:Addr)(H':Hp)(sh:Nat->Int),H l=none->Same H H'->(∀k,k<=L->p ∣ sh k*fac k-1)->(∀k,0<=sh k/\sh k<p)->H' l=some (.lst (((List.range (L+1)).map sh).map V.int))->Q (.ref l) H'):=1
def cf:FnScope ["last","p","numbers","whole","told"] ["last","p"] (ag dC):=%[|5]
def iI(F:#["inverse_factorials",dC])(B:Bl mg)(cR:#[1,"products",Wi,spProd])(c9:#[1,"inverse_of",["a","p"],spInv]):#[2,f,fd,["last","p"],spFacs]:=by
 exists cf
 erw[L,p,1,L5,Lp,pp,p9,q]at h;refine⟨_,(aa #[am,2,cf,vI rfl rfl B.list rfl B.range %[ac,au aR (pv 0) ac|aQ]]
  (aa (am (i:=3) cf.nd rfl (Or.inr rfl) (ai c9 hr ⋯ rfl %[aJ ix_list (ai cR hr ⋯ rfl %[2,1|aQ]) (As uW ac) #[1],1|aQ]))
  (aa (am (i:=4) cf.nd rfl (Or.inr rfl) (ai cR hr ⋯ rfl (ae (cb (N:=["last"]) (ix:=[0]) rfl
   #[3] rfl
   (cu rfl B.range %[0|aQ]) (λ_ _ _=>cD (au bc (pv 1) (pv 0)))) %[1|aQ])))
  (ad (aq (cb (N:=["whole","told","p","last"]) (ix:=[3,4,1,0]) rfl
   (CompScope.four (by rfl') ⋯ rfl ⋯ rfl ⋯ rfl (by rfl') (by rfl') (by rfl') (by rfl') (by rfl') (by rfl') rfl rfl (by rfl') rfl rfl (by rfl') rfl rfl (by rfl') rfl rfl) rfl
   (cu rfl B.range %[au aR (pv 0) ac|aQ]) (λ_ _ _=>cD (au aY (au cq (pv 1) (aJ (ux K) (pv 2) (au bc (pv 4) (pv 0)) #[1])) (pv 3))))))))),?_⟩
 let p2:=pp.1;let hP:=Ap pp #[0];erw[0,2,(1),0,%[4,4,3|3],3,λa ha=>?_];let e1:si 1 ((L:Int)+1-1).toNat=(List.range L).map λk:Nat=>1+(k:Int):=by
  unfold si;rw[show((L:Int)+1-1).toNat=L by omega]
 rw [e1];let Ga:=zC0 ha (.lst (((List.range L).map λk:Nat=>1+(k:Int)).map V.int));erw[0,0,a,_,L,p,1,aO,L5,3,3,λl H2 l0 S2 hl2=>?_];let rg:=kP (show 1<p by omega) (λk:Nat=>1+(k:Int)) L;let dv:=kQ p (λk:Nat=>1+(k:Int)) L;rw[Ao]at dv;let ne0:pmd p (λk:Nat=>1+(k:Int)) L≠0:=λz=>by
  rw[z]at dv;erw[m,hm]at dv;exact sW hP L Lp %[-m|by rw[Int.mul_neg];omega]
 erw[0,l,_,_,.int (pmd p (λk:Nat=>1+(k:Int)) L),1,1,zG0 hl2,by rw[pf];exact uO _ _,0,_,p,1,pp,p9,3,rg.2,λg g0 g1 hg=>?_];let SH2:=Ga.trans S2;erw[0,0,3,3,λD hD=>?_];apply dP (λi H'=>H' D=some (.lst (((List.range i).map λj:Nat=>(L:Int)-j).map V.int))/\Same H2 H') %[by rw[aO];rfl|zC0 hD _] ?_ ?_
 . rintro i H3 hi ⟨hD3,S3⟩;erw[0,0,2,_,hD3,6,Nx.of hi %[6|λb o e=>?_]]
   . rw[zF0,zF0,qT0];exact aN #[0]
   . rw[aO,jC0,zK0,zK0,jI1];rfl
   . rw[aD (aX e hD)];exact S3 _ _ e
 rintro H3 ⟨hD3,S3⟩;rw[show((L:Int)).toNat=L from qS0 L]at hD3;erw[0,D,_,L,p,1,hD3,L5,3,3,λt H4 t0 S4 ht4=>?_];erw[0,2,0,3,3,λD2 hD2=>?_];apply dP (λi H'=>H' D2=some (.lst (((List.range i).map λk:Nat=>g*pmd p (λj:Nat=>(L:Int)-j) (L-k) % p).map V.int))/\Same H4 H') %[by rw[aO];rfl|zC0 hD2 _] ?_ ?_
 . rintro i H5 hi ⟨hD5,S5⟩;let hi':i<L+1:=#[0]
   let rg2:=kP (show 1<p by omega) (λj:Nat=>(L:Int)-j) (L-i);let e2:(L:Int)-(0+(i:Int))=((L-i:Nat):Int):=#[0]
   erw[0,0,0,0,2,t,_,_,.int (pmd p (λj:Nat=>(L:Int)-j) (L-i)),1,1,zG0 (S5 _ _ ht4),by rw[e2];exact vD #[0],2,.inl %[3|3],0,2,#[0],_,hD5,6,Nx.of hi ⟨?_,λb o e=>?_⟩]
   . rw[zF0,zF0,qT0];exact aN #[0]
   . rw[aO,jC0,zK0,zK0];rfl
   . rw[aD (aX e hD2)];exact S5 _ _ e
 rintro H5 ⟨hD5,S5⟩;rw[show((L:Int)+1).toNat=L+1 by omega]at hD5;let S05:=SH2.trans (S3.trans (S4.trans S5));apply q D2 H5 (λk=>g*pmd p (λj:Nat=>(L:Int)-j) (L-k) % p) ((SH2.trans (S3.trans S4)).free hD2) S05 (λk hk=>?_) (λk=>%[qC0 _ #[0]|qE0 _ #[0]]) hD5;obtain⟨m,rfl⟩:∃m,L=k+m:=⟨L-k,#[0]⟩
 rw[show k+m-k=m by omega];exact zP hg #[0] dv (kQ p _ m) (dm p _)
def wt(p:Int)(n i:Nat):Int:=(px (i:Int) i n % p) ^ (p-2).toNat
def zm(hp:Pm p){n:Nat}(hn:(n:Int)<=p):Wgt p n (wt p n):=λi hi=>by
 let h1:=Ep hp hn hi;let%[k|hk]:=dm p (px (i:Int) i n);let h2:¬ p ∣ px (i:Int) i n % p:=fun⟨m,hm⟩=>h1 %[m-k|by grind]
 let%[m|hm]:=EW hp h2 (qC0 _ (by have:=hp.1;omega));erw[m-k*(px (i:Int) i n % p) ^ (p-2).toNat,by unfold wt;grind]
def val(p:Int)(xs:List Int)(r:Int):Int:=lag (λi=>xs.getD i 0) (wt p xs.length) xs.length r % p
def DU{t:Int}{xs:List Int}(hp:Pm p)(hn:(xs.length:Int)<=p)(hu:Wgt p xs.length u)(t0:0<=t)(t1:t<p)(h:p ∣ t-lag (λi=>xs.getD i 0) u xs.length r):t=val p xs r:=by
 let e:p ∣ t-lag (λi=>xs.getD i 0) (wt p xs.length) xs.length r:=by
  have:=Bf hp hn (v:=λi=>xs.getD i 0) hu (zm hp hn) r
  let z:=wA1 h this;let e2:t-lag (λi=>xs.getD i 0) u xs.length r+(lag (λi=>xs.getD i 0) u xs.length r-lag (λi=>xs.getD i 0) (wt p xs.length) xs.length r)=t-lag (λi=>xs.getD i 0) (wt p xs.length) xs.length r:=#[0]
  rw[e2]at z;exact z
 have:=md e
 rw[qV0 t0 t1]at this;exact this
def Cd{p:Int}(hp:1<p)(xs:List Int)(r:Int):0<=val p xs r/\val p xs r<p:=%[qC0 _ #[0]|qE0 _ #[0]]
def DV{xs:List Int}{k:Nat}(hp:Pm p)(hn:(xs.length:Int)<=p)(hk:k<xs.length):val p xs k=xs.getD k 0 % p:=md (wg (zm hp hn) hk)
def sgn(m:Nat):(-1:Int) ^ m=if m % 2=1 then -1 else 1:=by
 induction m with
 |zero=>rfl
 |succ m ih=>
   rw[jI0,ih]
   by_cases c:m % 2=1
   . rw[JB c,Jy #[0]];rfl
   . rw[Jy c,JB #[0]];rfl
def Cc{p r v t s a b c d e:Int}{m:Nat}{x y:Int}(ht:p ∣ t-s)(ha:p ∣ a-pr (λj=>r-j) i)(hb:p ∣ b-pr (λj=>r-(i+m:Nat)+j) m)(hc:p ∣ c-v*a*b)(hd:p ∣ d-x*y)(he:p ∣ e-(t+(if m % 2=1 then -(c*d)else c*d))):
 p ∣ e-(s+v*px r i (i+m+1)*((-1) ^ m*(x*y))):=by
 rw[show i+m+1=i+1+m by omega,oX,sgn];rw[wP]at hb;generalize pr (λj=>r-j) i=A at *
 generalize pr (λj=>r-(i+1+j:Nat)) m=B at *
 erw[t',ht]at ht;erw[a',ha]at ha;erw[b',hb]at hb;erw[c',hc]at hc;erw[d',hd]at hd;erw[e',he]at he;let e1:c*d-v*(A*B)*(x*y)=p*(c'*d+v*(a'*b+A*b')*d+v*A*B*d'):=by grind
 by_cases z:m % 2=1
 . rw [JB z]at *
   erw[e'+t'-(c'*d+v*(a'*b+A*b')*d+v*A*B*d'),by grind]
 . rw [Jy z]at *
   erw[e'+t'+(c'*d+v*(a'*b+A*b')*d+v*A*B*d'),by grind]
def IntsAt(H:Hp)(a:Addr)(xs:List Int):Prop:=H a=some (.lst (xs.map V.int))∨H a=some (.tup (xs.map V.int))
def IntsAt.same(h:IntsAt H a xs)(s:Same H H'):IntsAt H' a xs:=h.elim (λe=>.inl (s _ _ e)) (λe=>.inr (s _ _ e))
def IntsAt.seq{K:W.Frag}(h:IntsAt H a xs):SqL K H a (xs.map V.int)∨SqT K H a (xs.map V.int):=h.elim (λe=>.inl (zG0 e)) (λe=>.inr (zB0 e))
def IntsAt.ix{K:W.Frag}{k:Nat}{Q:VK}(h:IntsAt H a xs)(hk:k<xs.length)(q:Q (.int (xs.getD k 0)) H):rIxL K (.ref a) (.int (k:Int)) H Q∨rIxT K (.ref a) (.int (k:Int)) H Q:=by
 let e:atI (xs.map V.int) (k:Int)=some (.int (xs.getD k 0)):=bw (by rw[zX0,zS0 hk,qQ0,zS0 hk];rfl);rcases h with h | h
 . exact .inl %[a,_,2,zG0 h,e|q]
 . exact .inr %[a,_,2,zB0 h,e|q]
def jT(xs:List Int)(p:Int):Prop:=1<=xs.length/\xs.length<=500/\(xs.length:Int)<=p/\∀k,0<=xs.getD k 0/\xs.getD k 0<2 ^ 40
instance spVal:∀(a:Addr)(xs:List Int)(r p:Int),vs=[.ref a,.int r,.int p]->IntsAt H a xs->jT xs p->Pr p->p<=999983->0<=r->r<p->(∀H',Same H H'->Q (.int (val p xs r)) H'):=1
def ba:FnScope ["values","r","p","last","ahead","behind","shares","total","place","share","part"] WI (ag gh):=%[|5]
def nv(F:#["value_behind",gh])(B:Bl mg)(cR:#[1,"products",Wi,spProd])(dD:#[2,"inverse_factorials",["last","p"],spFacs]):#[3,f,fd,WI,spVal]:=by
 exists ba
 erw[a,xs,r,p,1,ha,%[x1,x5,xp|xb],pp,p9,r0,r1,q]at h;refine⟨_,(aa (am (i:=3) ba.nd rfl (Or.inr rfl) (au bc (aE aF rfl B.len zB1 %[0|aQ]) ac))
  (aa (am (i:=4) ba.nd rfl (.inl rfl) (ai cR hr ⋯ rfl (ae (cb (N:=["r"]) (ix:=[1]) rfl
   #[3] rfl
   (cu rfl B.range %[3|aQ]) (λ_ _ _=>cD (au bc (pv 1) (pv 0)))) %[2|aQ])))
  (aa (am (i:=5) ba.nd rfl (.inl rfl) (ai cR hr ⋯ rfl (ae (cb (N:=["r","last"]) (ix:=[1,3]) rfl
   #[4] rfl
   (cu rfl B.range %[3|aQ]) (λ_ _ _=>cD (au aR (au bc (pv 1) (pv 2)) (pv 0)))) %[2|aQ])))
  (aa #[am,6,ba,ai dD hr ⋯ rfl %[3,2|aQ]]
  (aa #[am,7,ba,ac]
  (aa (cK zG1 rfl (cu rfl B.range %[au aR (pv 3) ac|aQ]) (bg (i:=8) ba.nd rfl (.inl rfl)) (aa #[am,9,ba,au aY (au cq (aJ ix_list (pv 6) (pv 8) #[1]) (aJ ix_list (pv 6) (au bc (pv 3) (pv 8)) #[1])) (pv 2)]
   (aa #[am,10,ba,au cq (au aY (au cq (au cq (aJ (ix_list.or ix_tup) (pv 0) (pv 8) #[1]) (aJ ix_list (pv 4) (pv 8) #[1])) (aJ ix_list (pv 5) (au bc (pv 3) (pv 8)) #[1])) (pv 2)) (pv 9)]
   (aa (aG (af aP (au aY (au bc (pv 3) (pv 8)) ac) ac (ao _)) (ad #[am,10,ba,As uW (pv 10)]) ax)
   (ad #[am,7,ba,au aY (au aR (pv 7) (pv 10)) (pv 2)])))))
  (ad (aq (pv 7))))))))),?_⟩
 let p2:=pp.1;let p1:1<p:=#[0]
 let p0:0<p:=#[0]
 let hP:=Ap pp #[0];obtain⟨L,hL⟩:∃L,xs.length=L+1:=%[xs.length-1|3]
 let eL:(((xs.map V.int).length:Nat):Int)-1=(L:Int):=by rw[zF0];omega
 erw[0,a,0,ha.seq,2,6]
 dsimp only
 rw[eL];erw[0,(L:Int),1,3,3,λD hD=>?_];apply dP (λi H'=>H' D=some (.lst (((List.range i).map λj:Nat=>r-j).map V.int))/\Same H H') %[by rw[aO];rfl|zC0 hD _] ?_ ?_
 . rintro i H3 hi ⟨hD3,S3⟩;erw[0,0,2,_,hD3,6,Nx.of hi %[6|λb o e=>?_]]
   . rw[zF0,zF0,qT0];exact aN #[0]
   . rw[aO,jC0,zK0,zK0,jI1];rfl
   . rw[aD (aX e hD)];exact S3 _ _ e
 rintro H1 ⟨hD1,S1⟩;rw[show((L:Int)).toNat=L from qS0 L]at hD1;erw[0,D,_,L,p,1,hD1,3,p1,3,λla H2 la0 S2 hla=>?_];erw[0,(L:Int),1,3,3,λD2 hD2=>?_];apply dP (λi H'=>H' D2=some (.lst (((List.range i).map λj:Nat=>r-(L:Int)+j).map V.int))/\Same H2 H') %[by rw[aO];rfl|zC0 hD2 _] ?_ ?_
 . rintro i H3 hi ⟨hD3,S3⟩;erw[0,0,2,0,2,_,hD3,6,Nx.of hi %[6|λb o e=>?_]]
   . rw[zF0,zF0,qT0];exact aN #[0]
   . rw[aO,jC0,zK0,zK0,jI1];rfl
   . rw[aD (aX e hD2)];exact S3 _ _ e
 rintro H3 ⟨hD3,S3⟩;rw[show((L:Int)).toNat=L from qS0 L]at hD3;erw[0,D2,_,L,p,1,hD3,3,p1,3,λlb H4 lb0 S4 hlb=>?_];erw[0,0,L,p,1,3,3,pp,p9,λls H5 sh ls0 S5 hsh hsr hls=>?_];let S25:=S3.trans (S4.trans S5);let S05:=S1.trans (S2.trans S25);let hla5:=S25 _ _ hla;let hlb5:=S5 _ _ hlb;let ha5:=ha.same S05;let hW:=Cb hsh;refine⟨_,rfl,_,_,rfl,rfl,_,rfl,#[0],#[0],dU (λi σ H'=>∃(t:Int)(x8 x9 x10:Option V),σ=[some (.ref a),some (.int r),some (.int p),some (.int L),some (.ref la),some (.ref lb),some (.ref ls),some (.int t),x8,x9,x10]/\0<=t/\t<p/\p ∣ t-sm (λi=>xs.getD i 0*px r i (L+1)*((-1) ^ (L-i)*(sh i*sh (L-i)))) i/\H'=H5)
  %[(0),_,_,0,4,p0,%[(0)|by simp [sm]]|1] ?_ ?_⟩
 . rintro i σ H6 hi ⟨t,x8,x9,x10,rfl,t0,t1,td,rfl⟩;let hi':i<L+1:=#[0]
   obtain⟨m,hm⟩:∃m,L=i+m:=%[L-i|3]
   let e0:(0:Int)+(i:Int)=(i:Int):=jI1 _;let e1:(L:Int)-(0+(i:Int))=(m:Int):=#[0]
   let r1':=hsr i;let r2':=hsr m;let ar:=kP p1 (λj:Nat=>r-j) i;let br:=kP p1 (λj:Nat=>r-(L:Int)+j) m;let xi:=xb i;let m1:∀z:Int,0<=z % p:=λz=>qC0 _ #[0]
   let m2:∀z:Int,z % p<p:=λz=>qE0 _ p0
   erw[0,0,ls,_,_,.int (sh i),1,1,zG0 hls,by rw[e0];exact vZ hi',0,0,0,2,ls,_,_,.int (sh m),1,1,zG0 hls,by rw[e1];exact vZ #[0],2,.inl %[3|3],0,2,p0,6];erw[0,0,6];rw[e0];apply ha5.ix #[0] ?_;erw[0,0,la,_,_,.int (pmd p (λj:Nat=>r-j) i),1,1,zG0 hla5,vD hi',2,.inl %[3|3],6];erw[0,0,0,2,lb,_,_,.int (pmd p (λj:Nat=>r-(L:Int)+j) m),1,1,zG0 hlb5,by rw[←e0,e1];exact vD #[0],2,.inr %[3|3],0,2,p0,6];let s1:=m1 (sh i*sh m);let s2:=m2 (sh i*sh m);erw[0,2,.inr %[3|3],6];erw[0,0,2,2,(by show(0:Int)<_;decide),1,0,6];let fin:∀z:Int,z=(if m % 2=1 then -(xs.getD i 0*pmd p (λj:Nat=>r-j) i*pmd p (λj:Nat=>r-(L:Int)+j) m % p*(sh i*sh m % p))else xs.getD i 0*pmd p (λj:Nat=>r-j) i*pmd p (λj:Nat=>r-(L:Int)+j) m % p*(sh i*sh m % p)) ->
    p ∣ (t+z) % p-sm (λi=>xs.getD i 0*px r i (L+1)*((-1) ^ (L-i)*(sh i*sh (L-i)))) (i+1):=λz hz=>by
    show p ∣ _-(sm _ i+xs.getD i 0*px r i (L+1)*((-1) ^ (L-i)*(sh i*sh (L-i))))
    let em:L-i=m:=#[0]
    let hb:p ∣ pmd p (λj:Nat=>r-(L:Int)+j) m-pr (λj=>r-(i+m:Nat)+j) m:=by
     rw[←hm];exact kQ p _ m
    subst hz;rw[em];let el:L+1=i+m+1:=#[0]
    rw[el]at td ⊢;exact Cc td (kQ p _ i) hb (dm p _) (dm p _) (dm p _)
   by_cases c:m % 2=1
   . apply aV (congrArg V.int #[0]) ?_;erw[0,0,6];erw[0,0,2,0,2,p0,6];erw[_,_,_,0,m1 _,m2 _,fin _ (by rw[JB c]),1]
   . apply ay (λz=>c (by have:=V.int.inj z;omega)) ?_;erw[0,0,2,0,2,p0,6];erw[_,_,_,0,m1 _,m2 _,fin _ (by rw[Jy c]),1]
 . rintro σ H6 ⟨t,x8,x9,x10,rfl,t0,t1,td,rfl⟩;rw[show((L:Int)+1).toNat=L+1 by omega]at td;rw[←hL]at hW;let e:=DU (r:=r) hP xp hW t0 t1 (by
    unfold lag;rw[hL];exact td)
   rw[e];erw[0,q H6 S05]
def tL:FnScope ["values","r","p","place"] WI (ag ke):=%[|5]
def tX(F:#["value_at",ke])(B:Bl mg)(fw:#[3,"value_behind",WI,spVal]):#[4,f,fd,WI,spVal]:=by
 exists tL
 erw[a,xs,r,p,1,ha,ok,pp,p9,r0,r1,q]at h;refine⟨_,(aa #[am,3,tL,au aY (pv 1) (pv 2)]
  (aa (aG (af du (pv 3) (aE aF rfl B.len zB1 %[0|aQ]) (ao _)) (ad (aq (au aY (aJ (ix_list.or ix_tup) (pv 0) (pv 3) #[1]) (pv 2)))) ax)
  (ad (aq (ai fw hr ⋯ rfl %[0,3,2|aQ]))))),?_⟩
 let p0:0<p:=#[0]
 let hP:=Ap pp #[0];let er:r % p=r:=qV0 r0 r1;erw[0,0,2,p0,6]
 dsimp only
 rw[er];erw[0,0,a,0,ha.seq,2,0,6];apply pP (λc=>?_) (λc=>?_)
 . let c':=zR1 c;rw[zF0]at c';obtain⟨k,rfl⟩:∃k:Nat,r=(k:Int):=%[r.toNat|3]
   erw[0,0,6];apply ha.ix #[0] ?_;erw[0,2,p0,6];show Q (.int (xs.getD k 0 % p)) H;rw[←DV hP ok.2.2.1 #[0]];exact q H (Same.refl _)
 . erw[0,0,0,a,xs,r,p,1,ha,ok,pp,p9,r0,r1,q]
instance spEnds:∀(a:Addr)(xs:List Int)(p:Int),vs=[.ref a,.int p]->IntsAt H a xs->jT xs p->Pr p->p<=999983->(∀H',Same H H'->Q (.int ((val p xs 0+val p xs 1) % p)) H'):=1
def rJ:FnScope ["values","p"] ["values","p"] (ag iV):=%[|5]
def sF(F:#["both_ends",iV])(b5:#[4,"value_at",WI,spVal]):#[5,f,fd,["values","p"],spEnds]:=by
 exists rJ
 erw[a,xs,p,1,ha,ok,pp,p9,q]at h;erw[_,(ad (aq (au aY (au aR (ai b5 hr ⋯ rfl %[0,ac,1|aQ]) (ai b5 hr ⋯ rfl %[0,ac,1|aQ])) (pv 1)))),6];let p2:=pp.1;erw[0,0,a,xs,(0),p,1,ha,ok,pp,p9,4,3,λH1 S1=>?_];erw[0,0,a,xs,(1),p,1,ha.same S1,ok,pp,p9,4,3,λH2 S2=>?_];erw[2,0,2,#[0],q H2 (S1.trans S2)]
def IntsAt.sqB{K:W.Frag}(h:IntsAt H a xs):∃c,SqB K c H a (xs.map V.int):=h.elim (λe=>%[true|zG0 e]) (λe=>%[false|zB0 e])
def hor(s p:Int):List Int->Int
 | []=>0
 |a::r=>(hor s p r*s+a) % p
def nZ{p:Int}(hp:0<p):∀ns,0<=hor s p ns/\hor s p ns<p
 | []=>%[qB1 0|hp]
 |a::r=>%[qC0 _ #[0]|qE0 _ hp]
instance spMix(C:Addr):∀(g a b d l:Addr)(ns:List Int)(s p:Int),vs=[.ref g,.ref l,.int s]->GameAt C H g a b d p->0<p->p<2 ^ 40->IntsAt H l ns->Q (.int (hor s p ns)) H:=1
def rE:FnScope ["self","numbers","s","total","number"] WR (ag vy):=%[|5]
def CT(F:#["mix","Game.mix",vy])(T:GTxt K mg C)(hrev:mg "reversed"=none):#[1,f,fd,WR,spMix C]:=by
 exists rE
 erw[g,a,b,d,l,ns,s,p,1,%[dx|hg],p0,p40,hl,q]at h;refine⟨_,(aa #[am,3,rE,ac]
  (aa (cK zG1 rfl (CF rfl hrev (pv 1)) (bg (i:=4) rE.nd rfl (.inl rfl)) (ad #[am,3,rE,au aY (au aR (au cq (pv 3) (pv 2)) (pv 4)) (az (pv 0) rfl)]))
  (ad (aq (pv 3))))),?_⟩
 let%[c|hl]:=hl.sqB (K:=K);refine⟨_,rfl,c,l,_,rfl,hl,Bv (K:=K) (c:=c) (xs:=ns.map V.int) (λi σ H'=>∃(x4:Option V)(t:Int),σ=[some (.ref g),some (.ref l),some (.int s),some (.int t),x4]/\t=hor s p (ns.drop (ns.length-i))/\H'=H)
  %[_,(0),1,by rw[wE1,List.drop_length];rfl|1] (λi σ H' _ JE=>by erw[_,_,_,_,h]at JE;subst h;exact hl) ?_ ?_⟩
 . rintro i z σ H1 hi hz ⟨x4,t,rfl,rfl,rfl⟩;rw[zF0]at hi;rw[←List.map_reverse,zX0]at hz;let%[x,hx|1]:=qP0 hz;rw[jP1 hi]at hx;let hr2:=nZ (s:=s) p0 (ns.drop (ns.length-i));erw[0,0,2,.inl %[3|3],0,2,0,g,C,dx,_,0,hg,T.cl,T.nF,gN ..,2,p0,6];erw[_,0,6,1];let hj:ns.length-1-i<ns.length:=#[0]
   let ed:ns.drop (ns.length-(i+1))=x::ns.drop (ns.length-i):=by
    let e1:ns.length-(i+1)=ns.length-1-i:=#[0]
    let e2:ns.length-i=ns.length-1-i+1:=#[0]
    rw[e1,e2,List.drop_eq_getElem_cons hj]
    congr 1
    rw[zS0 hj]at hx;exact zT0 hx
   rw[ed];rfl
 . rintro σ H1 ⟨x4,t,rfl,rfl,rfl⟩;rw[zF0,Nat.sub_self,jF1];erw[0,q]
instance spWAt(C:Addr):∀(g a b d r:Addr)(ns:List Str)(tv:List V)(ts:List Tr)(pt:List Int)(s p:Int),vs=[.ref g,.ref r,.int s]->GameAt C H g a b d p->1<p->p<2 ^ 40->H a=some (.tup (ns.map V.str))->H b=some (.tup tv)->TreesAt H tv ts->ts.length<=10->(∀t∈ts,t.ok ns/\t.depth<=10)->H r=some (.tup (pt.map V.int))->pt.length=ns.length->cy pt p->(∀H',Same H H'->Q (.int (hor s p (ts.map λt=>t.worth ns pt p))) H'):=1
def xO:FnScope WL WL (ag oQ):=%[|5]
def yo(F:#["worth_at","Game.worth_at",oQ])(T:GTxt K mg C)(mM:Meth K C "mix" fm)(GM:#[1,fm,fdm,WR,spMix C])(bM:Binds K fdm WR [])(d8:#[12,"worth_of",WQ,spWorth 10]):#[13,f,fd,WL,spWAt C]:=by
 exists xO
 erw[g,a,b,d,r,ns,tv,ts,pt,s,p,1,%[dx|hg],p1,p40,ha,hb,TS,t10,tok,hr0,pl,po,q]at h;let hr1:Room 1 _:=hr.mono ⋯;refine⟨_,(ad (aq (bJ (pv 0) T.cl mM GM hr1 bM .nil bh (ae (cb (N:=["self","point"]) (ix:=[0,1]) rfl
  #[4] rfl
  (fu (az (pv 0) rfl)) (λ_ _ _=>cD (ai d8 hr ⋯ rfl %[0,jz K (pv 1),2,jz K (pv 1)|aQ]))) %[2|aQ])))),?_⟩
 let vl:=TS.length;erw[0,g,dx,0,hg,qT _ _ _ _ ⋯ ⋯ ⋯ ⋯,6];erw[0,g,C,dx,_,0,hg,9,T.nT,jQ ..,b,1,%[_|zB0 hb],λD hD=>?_];apply dN (K:=K) (xs:=tv) (λi H'=>H' D=some (.lst (((ts.take i).map λt=>t.worth ns pt p).map V.int))/\Same H H') %[by rw[aO];rfl|zC0 hD _] (λi H' _ h=>zB0 (h.2 _ _ hb)) ?_ ?_
 . rintro i z H2 hz ⟨hl,S2⟩;let%[t,ht|Tt]:=TS.get hz;let%[tk|td]:=tok t (qG0 ht);let hi:i<tv.length:=(qD0 hz).1;erw[0,0,g,C,dx,_,0,S2 _ _ hg,9,T.nS,lm ..,0,0,g,C,dx,_,0,S2 _ _ hg,9,T.nF,gN ..,z,t,a,r,ns,pt,p,1,Tt.mono (bd S2),tk,td,.inr (S2 _ _ ha),S2 _ _ hr0,pl,p1,p40,po,6];erw[_,hl,6,Nx.of hi %[6|λb' o' e'=>?_]]
   . rw[zF0,zF0,qI0];exact aN #[0]
   . rw[aO,qH0,ht,zK0,zK0];rfl
   . rw[aD (aX e' hD)];exact S2 _ _ e'
 . rintro H2 ⟨hl,S2⟩;rw[vl,qF0]at hl;erw[0,g,a,b,d,D,_,s,p,1,%[dx|S2 _ _ hg],3,p40,.inl hl,q H2 S2]
instance spCoins(C:Addr):∀(g a b d:Addr)(ns:List Str)(tv:List V)(p:Int),vs=[.ref g]->GameAt C H g a b d p->H a=some (.tup (ns.map V.str))->H b=some (.tup tv)->Q (.int (if tv.length=1 then(ns.length:Int)else(ns.length:Int)+1)) H:=1
def xP:FnScope WA WA (ag oR):=%[|5]
def yp(F:#["coins","Game.coins",oR])(T:GTxt K mg C)(hlen:mg "len"=none):#[1,f,fd,WA,spCoins C]:=by
 exists xP
 erw[g,a,b,d,ns,tv,p,1,%[dx|hg],ha,hb,q]at h;refine⟨_,(aa (aG (af aP (aE aF rfl hlen zB1 %[az (pv 0) rfl|aQ]) ac (ao _)) (ad (aq (aE aF rfl hlen zB1 %[az (pv 0) rfl|aQ]))) ax)
  (ad (aq (au aR (aE aF rfl hlen zB1 %[az (pv 0) rfl|aQ]) ac)))),?_⟩
 erw[0,g,C,dx,_,0,hg,9,T.nT,jQ ..,b,0,.inr (zB0 hb),1,0,6]
 by_cases c:V.int (tv.length:Int)=V.int 1
 . apply aV c ?_;let c':tv.length=1:=by have:=V.int.inj c;omega
   rw[JB c']at q;erw[0,g,C,dx,_,0,hg,9,T.nS,lm ..,a,0,.inr (zB0 ha),6];rw[zF0];exact q
 . apply ay c ?_;let c':¬ tv.length=1:=λz=>c (by rw[z];rfl)
   rw[Jy c']at q;erw[0,g,C,dx,_,0,hg,9,T.nS,lm ..,a,0,.inr (zB0 ha),6];rw[zF0];erw[2,q]
instance spSize(n:Nat):∀(v:V)(t:Tr),vs=[v]->TreeAt H v t->t.wf->t.depth<=n->t.size<=400->(∀H',Same H H'->Q (.int t.size) H'):=1
def vf(ts:List Tr):(ts.map λu=>(u.size:Int)).sum=(gX ts:Int):=by
 induction ts with
 |nil=>rfl
 |cons a r ih=>
   simp only[gX,zZ0,qI1]at ih ⊢;rw[ih];omega
def vh:FnScope WB WB (ag jt):=%[|5]
def xJ{n:Nat}(F:#["size_of",jt])(B:Bl mg)(a8:#[1,"trees_within",WB,spWithin])(f6:#[n+2,"size_of",WB,spSize n]):#[n+3,f,fd,WB,spSize (n+1)]:=by
 exists vh
 erw[v,t,1,T,wf,dn,sz,q]at h;refine⟨_,(ad (aq (au aR ac (aE (pY rfl) rfl B.sum jR1 (ae (cb (N:=[]) (ix:=[]) (cl:=[]) rfl #[5] rfl
  (fu (ai a8 hr #[0] rfl %[0|aQ])) (λ_ _ _=>cD (ai f6 hr (zH0 _) rfl %[0|aQ]))) aQ))))),?_⟩
 erw[0,v,t,1,T,wf,λp xs H1 S1 hp TS=>?_];erw[p,1,%[_|zB0 hp],λD hD=>?_];let pD:p≠D:=aX hp hD;let xl:=TS.length;let sp:=t.size_parts;apply dN (K:=K) (xs:=xs) (λi H'=>H' D=some (.lst (((t.parts.take i).map λu=>(u.size:Int)).map V.int))/\Same H1 H') %[by rw[aO];rfl|zC0 hD _] (λi H' _ h=>zB0 (h.2 _ _ hp)) ?_ ?_
 . rintro i x H2 hx ⟨hl,S2⟩;let%[u,hu|Tu]:=TS.get hx;let um:=qG0 hu;let%[uw,ud|us]:=Tr.parts_mem um wf;let hi:i<xs.length:=(qD0 hx).1;erw[0,x,u,1,Tu.mono (bd S2),uw,3,3,λH3 S3=>?_];erw[_,S3 _ _ hl,6,Nx.of hi %[6|λb o e=>?_]]
   . have:t.parts.length<=2:=by cases t <;> simp [Tr.parts]
     rw[zF0,zF0,qI0];exact aN #[0]
   . rw[aO,qH0,hu,zK0,zK0];rfl
   . rw[aD (aX e hD)];exact S3 _ _ (S2 _ _ e)
 . rintro H2 ⟨hl,S2⟩;rw[xl,qF0]at hl;let sc:=vf t.parts;erw[D,0,zG0 hl,6,6,6]
   . intro n hn;let%[u,_|1]:=List.mem_map.mp hn;omega
   . rw[sc];omega
   . rw [sc];erw[2,6];let e:(1:Int)+(gX t.parts:Int)=(t.size:Int):=#[0]
     show Q (.int (1+(gX t.parts:Int))) H2;rw[e];exact q H2 (S1.trans S2)
def xI:#[2,f,fd,WB,spSize 0]:=by
 let no:∀vs H Q E,¬ spSize 0 vs H Q E:=λvs H Q E h=>by
  erw[v,t,_,_,_,h1,_]at h
  have:=t.depth_pos
  omega
 exists 3
def pC(F:#["size_of",jt])(B:Bl mg)(m:mg "size_of"=some (.ref f))(a8:#[1,"trees_within",WB,spWithin]):
 ∀n:Nat,#[n+2,f,fd,WB,spSize n]
 |0=>xI
 |n+1=>xJ F B a8 (Cal.of F (pC F B m a8 n) m (λ_ _ _ _ _ _ us hl=>by let%[u0|1]:=Dj hl;rfl))
abbrev rV:Stmt:=bn de 0
abbrev oS:Stmt:=bn de 1
abbrev vA:Stmt:=bn de 2
abbrev rW:Stmt:=bn de 4
abbrev rT:Stmt:=bn de 5
abbrev lP:Stmt:=bn de 6
abbrev oU:Stmt:=bn de 7
abbrev vz:Stmt:=bn de 8
abbrev Aa:Stmt:=bn de 9
abbrev oT:Stmt:=bn de 10
def dl(g aA aC:Addr)(s:Int)(aH aT:Addr)(ed pl:Int):List (Str×V):=[("game",.ref g),("awaited",.ref aA),("claims",.ref aC),("s",.int s),("heard",.ref aH),("tossed",.ref aT),("held",.int ed),("places",.int pl)]
section
variable {g aA aC aH aT:Addr}{s ed pl:Int}
def jg:(dl g aA aC s aH aT ed pl).lookup ("game":Str)=some (.ref g):=by rfl'
def Dq:(dl g aA aC s aH aT ed pl).lookup ("awaited":Str)=some (.ref aA):=by rfl'
def dl_c:(dl g aA aC s aH aT ed pl).lookup ("claims":Str)=some (.ref aC):=by rfl'
def dl_s:(dl g aA aC s aH aT ed pl).lookup ("s":Str)=some (.int s):=by rfl'
def dl_h:(dl g aA aC s aH aT ed pl).lookup ("heard":Str)=some (.ref aH):=by rfl'
def yZ:(dl g aA aC s aH aT ed pl).lookup ("tossed":Str)=some (.ref aT):=by rfl'
def BH:(dl g aA aC s aH aT ed pl).lookup ("held":Str)=some (.int ed):=by rfl'
def BE:(dl g aA aC s aH aT ed pl).lookup ("places":Str)=some (.int pl):=by rfl'
def qW:(dl g aA aC s aH aT ed pl).lookup ("waits":Str)=none:=by rfl'
def dl_n2:(dl g aA aC s aH aT ed pl).lookup ("due":Str)=none:=by rfl'
def BG:(dl g aA aC s aH aT ed pl).lookup ("hear":Str)=none:=by rfl'
def DN:(dl g aA aC s aH aT ed pl).lookup ("toss":Str)=none:=by rfl'
def dl_n6:(dl g aA aC s aH aT ed pl).lookup ("hear_claims":Str)=none:=by rfl'
def DM:(dl g aA aC s aH aT ed pl).lookup ("begin_rounds":Str)=none:=by rfl'
def dl_n8:(dl g aA aC s aH aT ed pl).lookup ("hear_row":Str)=none:=by rfl'
def BF:(dl g aA aC s aH aT ed pl).lookup ("go_on":Str)=none:=by rfl'
def Fa:(dl g aA aC s aH aT ed pl).lookup ("look_at_trees":Str)=none:=by rfl'
def qK{v:Addr}:bq "awaited" (.ref v) (dl g aA aC s aH aT ed pl)=dl g v aC s aH aT ed pl:=by rfl'
def put_c{v:Addr}:bq "claims" (.ref v) (dl g aA aC s aH aT ed pl)=dl g aA v s aH aT ed pl:=by rfl'
def put_s{v:Int}:bq "s" (.int v) (dl g aA aC s aH aT ed pl)=dl g aA aC v aH aT ed pl:=by rfl'
def put_h{v:Addr}:bq "heard" (.ref v) (dl g aA aC s aH aT ed pl)=dl g aA aC s v aT ed pl:=by rfl'
def DG{v:Addr}:bq "tossed" (.ref v) (dl g aA aC s aH aT ed pl)=dl g aA aC s aH v ed pl:=by rfl'
def Al{v:Int}:bq "held" (.int v) (dl g aA aC s aH aT ed pl)=dl g aA aC s aH aT v pl:=by rfl'
def vB{v:Int}:bq "places" (.int v) (dl g aA aC s aH aT ed pl)=dl g aA aC s aH aT ed v:=by rfl'
def dM:(dl g aA aC s aH aT ed pl).length<1000:=by show 8<1000;decide
end
structure DTxt(K:W.Frag)(mg:#[9])(C:Addr):Prop where
 cl:Cls K C
 nG:NoAttr K C "game"
 nA:NoAttr K C "awaited"
 nC:NoAttr K C "claims"
 nS:NoAttr K C "s"
 nH:NoAttr K C "heard"
 nT:NoAttr K C "tossed"
 nE:NoAttr K C "held"
 nP:NoAttr K C "places"
 mgC:mg "Doubter"=some (.ref C)
structure Db where
 aw:Str×Option Int
 cl:List Int
 s:Int
 he:List Int
 to:List Int
 ed:Int
 pl:Int
def awV(a:Str×Option Int):List V:=match a.2 with
 |none=>[.str a.1]
 |some n=>[.str a.1,.int n]
structure DbR(C:Addr)(H:Hp)(D g:Addr)(z:Db)(dx aA aC aH aT:Addr):Prop where
 hD:H D=some (.ins C dx (dl g aA aC z.s aH aT z.ed z.pl))
 hA:H aA=some (.tup (awV z.aw))
 hC:H aC=some (.tup (z.cl.map V.int))
 hH:H aH=some (.tup (z.he.map V.int))
 hT:H aT=some (.tup (z.to.map V.int))
def DbR.same(h:DbR C H D g z dx aA aC aH aT)(s:Same H H'):DbR C H' D g z dx aA aC aH aT:=%[s _ _ h.hD,s _ _ h.hA,s _ _ h.hC,s _ _ h.hH|s _ _ h.hT]
def DbR.set{C:Addr}{H:Hp}{D g:Addr}{z:Db}{dx aA aC aH aT C' dx':Addr}{fs:List (Str×V)}(hD:H D=some (.ins C' dx' fs))(hA:H aA=some (.tup (awV z.aw)))(hC:H aC=some (.tup (z.cl.map V.int)))(hH:H aH=some (.tup (z.he.map V.int)))(hT:H aT=some (.tup (z.to.map V.int))):
 DbR C (upd H D (.ins C dx (dl g aA aC z.s aH aT z.ed z.pl))) D g z dx aA aC aH aT:=by
 erw[aO,6,6,6,6]
 . rw[aD (bi hA hD nofun)];exact hA
 . rw[aD (bi hC hD nofun)];exact hC
 . rw[aD (bi hH hD nofun)];exact hH
 . rw[aD (bi hT hD nofun)];exact hT
def DbAt(C:Addr)(H:Hp)(D g:Addr)(z:Db):Prop:=∃dx aA aC aH aT,DbR C H D g z dx aA aC aH aT
def DbAt.same(h:DbAt C H D g z)(s:Same H H'):DbAt C H' D g z:=by
 erw[_,_,_,_,_,r]at h;erw[_,_,_,_,_,r.same s]
def Gm(CG:Addr)(H:Hp)(g:Addr)(ns:List Str)(ts:List Tr)(p:Int):Prop:=∃(a b d:Addr)(tv:List V),GameAt CG H g a b d p/\H a=some (.tup (ns.map V.str))/\H b=some (.tup tv)/\TreesAt H tv ts/\H d=some (.lst ((ns.map (bO ts)).map V.int))
def Gm.same(h:Gm CG H g ns ts p)(s:Same H H'):Gm CG H' g ns ts p:=by
 erw[a,b,d,tv,h1,h2,h3,h4,h5]at h;erw[a,b,d,tv,h1.same s,s _ _ h2,s _ _ h3,h4.mono (bd s),s _ _ h5]
def Do(a b:Addr)(p:Int)(d:Addr):(gf a b p d).lookup ("game":Str)=none:=qT _ _ _ _ ⋯ ⋯ ⋯ ⋯
def Gm.ne{C:Addr}{D:Addr}{dx:Addr}{fs:List (Str×V)}{v:V}(h:Gm CG H g ns ts p)(hD:H D=some (.ins C dx fs))(hg:fs.lookup ("game":Str)=some v):g≠D:=λz=>by
 erw[a,b,d,tv,%[dx'|e],_]at h;rw[z,hD]at e;cases e;rw[Do]at hg;cases hg
def Gm.but{C:Addr}{D:Addr}{dx:Addr}{fs:List (Str×V)}(h:Gm CG H g ns ts p)(hD:H D=some (.ins C dx fs))(hg:g≠D)(s:SameBut D H H'):Gm CG H' g ns ts p:=by
 erw[a,b,d,tv,%[dx'|e],h2,h3,h4,h5]at h;erw[a,b,d,tv,%[dx'|s _ _ hg e],s _ _ (bi h2 hD nofun) h2,s _ _ (bi h3 hD nofun) h3,h4.mono (λc xs hc=>s _ _ (bi hc hD nofun) hc),s _ _ (bi h5 hD nofun) h5]
structure GmK(ns:List Str)(ts:List Tr)(p:Int):Prop where
 pr:Pr p
 p2:2<p
 p9:p<=999983
 n10:ns.length<=10
 t1:1<=ts.length
 t10:ts.length<=10
 tok:∀t∈ts,t.ok ns/\t.wf/\t.depth<=10/\t.size<=400
 tp:(ts.length:Int)<=p
 tc:∀t∈ts,∀x∈ns,(t.names.count x:Int)<p
def GmK.deg(k:GmK ns ts p):∀x∈ns,0<=bO ts x/\bO ts x<p:=λx hx=>by
 let t0:ts≠[]:=λz=>by have:=k.t1;rw[z]at this;cases this
 erw[6,pV t0 λt ht=>k.tc t ht x hx]
 have:=iZ (ns:=ts.map λt=>(t.names.count x:Int)) #[t0,0]
 let%[t,_|e]:=List.mem_map.mp this;unfold bO;rw[←e];omega
def szs(ts:List Tr):Int:=(ts.map λt=>(t.size:Int)).sum
def eQ(ns:List Str)(ts:List Tr)(p:Int)(z:Db):Db:=
 { z with pl:=z.pl+szs ts,aw:=if z.ed=hor z.s p (ts.map λt=>t.worth ns z.to p)then("believed",none)else("caught",some ((z.to.length:Int)+1)) }
def goOn(ns:List Str)(ts:List Tr)(p:Int)(z:Db):Db:=
 if z.to.length<ns.length then { z with aw:=("hear",some (bO ts (ns.getD z.to.length "")+1)) }else eQ ns ts p z
def wE(ns:List Str)(ts:List Tr)(p s:Int)(z:Db):Db:=goOn ns ts p { z with s:=s,ed:=hor s p z.cl }
def lj(ns:List Str)(ts:List Tr)(p:Int)(xs:List Int)(z:Db):Db:=
 if ts.length=1 then wE ns ts p 0 { z with cl:=xs }else { z with cl:=xs,aw:=("coin",none) }
def fc(p:Int)(xs:List Int)(z:Db):Db:=
 { z with he:=xs,aw:=if(val p xs 0+val p xs 1) % p=z.ed then("coin",none)else("caught",some ((z.to.length:Int)+1)) }
def cS(ns:List Str)(ts:List Tr)(p:Int)(xs:List Int)(z:Db):Db:=
 if z.cl=[]then lj ns ts p xs { z with pl:=z.pl+(xs.length:Int) }else fc p xs { z with pl:=z.pl+(xs.length:Int) }
def di(ns:List Str)(ts:List Tr)(p r:Int)(z:Db):Db:=
 if z.he=[]then wE ns ts p r { z with pl:=z.pl+1 }else goOn ns ts p { z with pl:=z.pl+1,ed:=val p z.he r,to:=z.to++[r] }
def Db.new(ts:List Tr):Db:=%[("hear",some (ts.length:Int)),[],(0),[],[],(0)|(0)]
instance spIsNum:∀n p:Int,vs=[.int n,.int p]->Q (.bl (decide (0<=n)&&decide (n<p))) H:=1
def rF:FnScope WX WX (ag iS):=%[|5]
def sC(F:#["is_number",iS])(B:Bl mg):#[1,f,fd,WX,spIsNum]:=by
 exists rF
 erw[n,p,1,q]at h;erw[_,(ad (aq (pA (aE ji rfl B.isinstance qZ1 %[0,su (v:=V.ty "int") rfl B.int jH rfl|aQ]) (pA (At (aE ji rfl B.isinstance qZ1 %[0,su (v:=V.ty "bool") rfl B.bool wD rfl|aQ])) (pw (Ax tW du ac (pv 0) (pv 1))))))),6];erw[0,_,_,"int",true,1,TyOf.int _,uv _ _,true,1,dL ?_];erw[0,_,_,"bool",false,1,TyOf.int _,sQ _,false,1,true,1,dL ?_];erw[0,2,0,6]
 by_cases c:0<=n
 . rw[zD1 c]at q;apply aV c %[0,2|6];exact q
 . rw[zE1 c]at q;apply ay c ?_;exact q
instance spAllSz(C:Addr):∀(g:Addr)(ns:List Str)(ts:List Tr)(p:Int),vs=[.ref g]->Gm C H g ns ts p->GmK ns ts p->(∀H',Same H H'->Q (.int (szs ts)) H'):=1
def rK:FnScope WG WG (ag iX):=%[|5]
def Ck{ts:List Tr}(h:∀t∈ts,t.size<=400)(hl:ts.length<=10):0<=szs ts/\szs ts<=4000:=by
 have:∀l:List Tr,(∀t∈l,t.size<=400)->0<=szs l/\szs l<=400*(l.length:Int):=λl=>by
  induction l with
  |nil=>intro _;erw[qB1 _,qB1 _]
  |cons t r ih=>
    intro hh;let h1:=ih λu hu=>hh u (qK0 _ hu)
    let h2:=hh t (zW0 ..);let e:szs (t::r)=(t.size:Int)+szs r:=by unfold szs;rw[zZ0,qI1]
    rw[e,zU0];omega
 have:=this ts h
 omega
def sG(F:#["all_sizes",iX])(B:Bl mg)(T:GTxt K mg C)(f6:#[12,"size_of",WB,spSize 10]):#[13,f,fd,WG,spAllSz C]:=by
 exists rK
 erw[g,ns,ts,p,1,%[a,b,d,tv,%[dx|hg],ha,hb,TS|hd],k,q]at h;refine⟨_,(ad (aq (aE (pY rfl) rfl B.sum jR1 (ae (cb (N:=[]) (ix:=[]) (cl:=[]) rfl #[5] rfl
  (fu (az (pv 0) rfl)) (λ_ _ _=>cD (ai f6 hr ⋯ rfl %[0|aQ]))) aQ)))),?_⟩
 let vl:=TS.length;erw[0,g,C,dx,_,0,hg,9,T.nT,jQ ..,b,1,%[_|zB0 hb],λD hD=>?_];apply dN (K:=K) (xs:=tv) (λi H'=>H' D=some (.lst (((ts.take i).map λt=>(t.size:Int)).map V.int))/\Same H H') %[by rw[aO];rfl|zC0 hD _] (λi H' _ h=>zB0 (h.2 _ _ hb)) ?_ ?_
 . rintro i x H2 hx ⟨hl,S2⟩;let%[u,hu|Tu]:=TS.get hx;let%[_,uw,ud|us]:=k.tok u (qG0 hu);let hi:i<tv.length:=(qD0 hx).1
   have:=k.t10
   erw[0,x,u,1,Tu.mono (bd S2),uw,ud,us,λH3 S3=>?_];erw[_,S3 _ _ hl,6,Nx.of hi %[6|λb o e=>?_]]
   . rw[zF0,zF0,qI0];exact aN #[0]
   . rw[aO,qH0,hu,zK0,zK0];rfl
   . rw[aD (aX e hD)];exact S3 _ _ (S2 _ _ e)
 . rintro H2 ⟨hl,S2⟩;rw[vl,qF0]at hl;let sr:=Ck (λt ht=>(k.tok t ht).2.2.2) k.t10;erw[D,0,zG0 hl,6,6,6]
   . intro n hn;let%[u,hu|1]:=List.mem_map.mp hn
     have:=(k.tok u hu).2.2.2
     omega
   . let e:((ts.map λt=>(t.size:Int)).sum)=szs ts:=rfl;rw[e];omega
   . exact q H2 S2
section
variable {C CG:Addr}
instance spTrees(C CG:Addr):∀(D g:Addr)(z:Db)(ns:List Str)(ts:List Tr)(p:Int),vs=[.ref D]->DbAt C H D g z->Gm CG H g ns ts p->GmK ns ts p->z.to.length=ns.length->cy z.to p->(∀H',SameBut D H H'->DbAt C H' D g (eQ ns ts p z)->Q .non H'):=1
def xR:FnScope WA WA (ag oT):=%[|5]
def yr(F:#["look_at_trees","Doubter.look_at_trees",oT])(B:Bl mg)(T:DTxt K mg C)(TG:GTxt K mg CG)(mW:Meth K CG "worth_at" fW)(GW:#[13,fW,fdW,WL,spWAt CG])(bW:Binds K fdW WL [])
 (i7:#[13,"all_sizes",WG,spAllSz CG]):#[14,f,fd,WA,spTrees C CG]:=by
 exists xR
 erw[D,g,z,ns,ts,p,1,%[dx,aA,aC,aH,aT|R],G,k,tl,po,q]at h;let hr13:Room 13 _:=hr;refine⟨_,(aa (aU (pv 0) (au aR (az (pv 0) rfl) (ai i7 hr ⋯ rfl %[az (pv 0) rfl|aQ])) rfl)
  (ad (aG (af aP (az (pv 0) rfl) (bJ (az (pv 0) rfl) TG.cl mW GW hr13 bW .nil bh %[az (pv 0) rfl,az (pv 0) rfl|aQ]) (ao _))
   (ad (aU (pv 0) (aM %[aB|aQ]) rfl))
   (ad (aU (pv 0) (aM %[aB,au aR (aE aF rfl B.len zB1 %[az (pv 0) rfl|aQ]) ac|aQ]) rfl))))),?_⟩
 let gD:=G.ne R.hD jg;erw[0,D,C,dx,_,0,R.hD,9,T.nP,BE,0,D,C,dx,_,0,R.hD,9,T.nG,jg,g,ns,ts,p,1,G,k,λH1 S1=>?_];let R1:=R.same S1;erw[2,0,D,C,dx,0,R1.hD,9,T.nP,dM,6];rw[vB];let S2:SameBut D H1 (upd H1 D (.ins C dx (dl g aA aC z.s aH aT z.ed (z.pl+szs ts)))):=SameBut.upd _;let R2:DbR C (upd H1 D (.ins C dx (dl g aA aC z.s aH aT z.ed (z.pl+szs ts)))) D g { z with pl:=z.pl+szs ts } dx aA aC aH aT:=DbR.set (z:={ z with pl:=z.pl+szs ts }) R1.hD R1.hA R1.hC R1.hH R1.hT;let G2:=(G.same S1).but R1.hD gD S2;generalize upd H1 D (.ins C dx (dl g aA aC z.s aH aT z.ed (z.pl+szs ts)))=H2 at S2 R2 G2;let G2':=G2;erw[a,b,d,tv,GA,ha,hb,TS,hd]at G2';erw[dg,hg]at GA;let p2:=k.p2;let p9:=k.p9;erw[0,D,C,dx,_,0,R2.hD,T.cl,T.nE,BH,0,D,C,dx,_,0,R2.hD,T.cl,T.nG,jg,g,dg,0,hg,qT _ _ _ _ ⋯ ⋯ ⋯ ⋯,0,D,C,dx,_,0,R2.hD,9,T.nT,yZ,0,D,C,dx,_,0,R2.hD,9,T.nS,dl_s,6];erw[g,a,b,d,aT,ns,tv,ts,z.to,z.s,p,1,%[dg|hg],3,3,ha,hb,TS,k.t10,λt ht=>%[(k.tok t ht).1|(k.tok t ht).2.2.1],R2.hT,tl,po,λH3 S3=>?_];let R3:=R2.same S3;let S03:SameBut D H H3:=(zJ0 S1).trans (S2.trans (zJ0 S3));erw[1,0,6]
 by_cases c:z.ed=hor z.s p (ts.map λt=>t.worth ns z.to p)
 . apply aV (congrArg V.int c) ?_;erw[y1S,λt ht=>?_];let I:=zC0 ht (.tup [.str "believed"]);let R4:=R3.same I;erw[0,D,C,dx,0,R4.hD,9,T.nA,dM,6];rw[qK];let e:eQ ns ts p z={ z with pl:=z.pl+szs ts,aw:=("believed",none) }:=by
    unfold eQ;rw[JB c]
   apply q _ (S03.trans ((zJ0 I).trans (SameBut.upd _))) ?_;rw[e];erw[dx,t,aC,aH,aT,DbR.set (z:={ z with pl:=z.pl+szs ts,aw:=("believed",none) }) R4.hD aO R4.hC R4.hH R4.hT]
 . apply ay (λe=>c (V.int.inj e)) ?_;erw[0,D,C,dx,_,0,R3.hD,9,T.nT,yZ,aT,0,.inr (zB0 R3.hT),2,y2S,λt ht=>?_];let I:=zC0 ht (.tup [.str "caught",.int (((z.to.map V.int).length:Int)+1)]);let R4:=R3.same I;erw[0,D,C,dx,0,R4.hD,9,T.nA,dM,6];rw[qK];let e:eQ ns ts p z={ z with pl:=z.pl+szs ts,aw:=("caught",some ((z.to.length:Int)+1)) }:=by
    unfold eQ;rw[Jy c]
   apply q _ (S03.trans ((zJ0 I).trans (SameBut.upd _))) ?_;rw[e];erw[dx,t,aC,aH,aT,DbR.set (z:={ z with pl:=z.pl+szs ts,aw:=("caught",some ((z.to.length:Int)+1)) }) R4.hD ?_ R4.hC R4.hH R4.hT];rw[aO,zF0];rfl
def li{xs:List Int}{j:Nat}(h:j<xs.length):atI (xs.map V.int) (j:Int)=some (.int (xs.getD j 0)):=bw (by rw[zX0,zS0 h,qQ0,zS0 h];rfl)
def Dr{ns:List Str}{j:Nat}(h:j<ns.length):(ns.map (bO ts)).getD j 0=bO ts (ns.getD j ""):=by
 rw[qQ0,zX0,qQ0,zS0 h];rfl
instance spGo(C CG:Addr):∀(D g:Addr)(z:Db)(ns:List Str)(ts:List Tr)(p:Int),vs=[.ref D]->DbAt C H D g z->Gm CG H g ns ts p->GmK ns ts p->z.to.length<=ns.length->cy z.to p->(∀H',SameBut D H H'->DbAt C H' D g (goOn ns ts p z)->Q .non H'):=1
def Go:FnScope ["self","done"] WA (ag Aa):=%[|5]
def Ew(F:#["go_on","Doubter.go_on",Aa])(B:Bl mg)(T:DTxt K mg C)(TG:GTxt K mg CG)(mT:Meth K C "look_at_trees" fT)(GT:#[14,fT,fdT,WA,spTrees C CG])(bT:Binds K fdT WA []):#[15,f,fd,WA,spGo C CG]:=by
 exists Go
 erw[D,g,z,ns,ts,p,1,%[dx,aA,aC,aH,aT|R],G,k,tl,po,q]at h;refine⟨_,(aa #[am,1,Go,aE aF rfl B.len zB1 %[az (pv 0) rfl|aQ]]
  (ad (aG (af du (pv 1) (aE aF rfl B.len zB1 %[az (az (pv 0) rfl) rfl|aQ]) (ao _))
   (ad (aU (pv 0) (aM %[aB,au aR (aJ ix_list (az (az (pv 0) rfl) rfl) (pv 1) #[1]) ac|aQ]) rfl))
   (ad (aS (ca (pv 0) T.cl mT GT hr bT .nil bh)))))),?_⟩
 let G':=G;erw[a,b,d,tv,%[dg|hg],ha,hb,TS,hd]at G';erw[0,D,C,dx,_,0,R.hD,9,T.nT,yZ,aT,0,.inr (zB0 R.hT),6];erw[0,0,D,C,dx,_,0,R.hD,9,T.nG,jg,g,CG,dg,_,0,hg,TG.cl,TG.nS,lm ..,a,0,.inr (zB0 ha),2,0,6]
 by_cases c:z.to.length<ns.length
 . apply aV (by rw[zF0,zF0];omega) ?_;let ej:((z.to.map V.int).length:Int)=(z.to.length:Int):=by rw[zF0]
   let hx:ns.getD z.to.length ""∈ns:=by
    rw[qQ0,zS0 c];exact qO0 c
   let dr:=k.deg _ hx;erw[0,D,C,dx,_,0,R.hD,9,T.nG,jg,g,CG,dg,_,0,hg,TG.cl,TG.nD,Bs ..,0,d,_,2,zG0 hd,by rw[ej];exact li (by rw[zF0];exact c),2,y2S,λt ht=>?_];rw[Dr c]at *
   let I:=zC0 ht (.tup [.str "hear",.int (bO ts (ns.getD z.to.length "")+1)]);let R4:=R.same I;erw[0,D,C,dx,0,R4.hD,9,T.nA,dM,6];rw[qK];let e:goOn ns ts p z={ z with aw:=("hear",some (bO ts (ns.getD z.to.length "")+1)) }:=by
    unfold goOn;rw[JB c]
   apply q _ ((zJ0 I).trans (SameBut.upd _)) ?_;rw[e];erw[dx,t,aC,aH,aT,DbR.set (z:={ z with aw:=("hear",some (bO ts (ns.getD z.to.length "")+1)) }) R4.hD aO R4.hC R4.hH R4.hT]
 . apply ay (by rw[zF0,zF0];omega) ?_;let e:goOn ns ts p z=eQ ns ts p z:=by
    unfold goOn;rw[Jy c]
   rw[e]at q;erw[0,D,dx,0,R.hD,Fa,6];erw[D,g,z,ns,ts,p,1,%[dx,aA,aC,aH,aT|R],G,k,3,po,q]
instance spBeg(C CG:Addr):∀(D g:Addr)(z:Db)(s:Int)(ns:List Str)(ts:List Tr)(p:Int),vs=[.ref D,.int s]->DbAt C H D g z->Gm CG H g ns ts p->GmK ns ts p->z.to.length<=ns.length->cy z.to p->(∀H',SameBut D H H'->DbAt C H' D g (wE ns ts p s z)->Q .non H'):=1
def xS:FnScope WM WM (ag oU):=%[|5]
def yt(F:#["begin_rounds","Doubter.begin_rounds",oU])(T:DTxt K mg C)(TG:GTxt K mg CG)(mM:Meth K CG "mix" fM)(GM:#[1,fM,fdM,WR,spMix CG])(bM:Binds K fdM WR [])
 (mG:Meth K C "go_on" fG)(GG:#[15,fG,fdG,WA,spGo C CG])(bG:Binds K fdG WA []):#[16,f,fd,WM,spBeg C CG]:=by
 exists xS
 erw[D,g,z,s,ns,ts,p,1,%[dx,aA,aC,aH,aT|R],G,k,tl,po,q]at h;let hr1:Room 1 _:=hr.mono ⋯;refine⟨_,(aa (aU (pv 0) (pv 1) rfl)
  (aa (aU (pv 0) (bJ (az (pv 0) rfl) TG.cl mM GM hr1 bM .nil bh %[az (pv 0) rfl,1|aQ]) rfl)
  (ad (aS (ca (pv 0) T.cl mG GG hr bG .nil bh))))),?_⟩
 let gD:=G.ne R.hD jg;let p2:=k.p2;let p9:=k.p9;erw[0,0,D,C,dx,0,R.hD,9,T.nS,dM,6];rw[put_s];let S1:SameBut D H (upd H D (.ins C dx (dl g aA aC s aH aT z.ed z.pl))):=SameBut.upd _;let R1:DbR C (upd H D (.ins C dx (dl g aA aC s aH aT z.ed z.pl))) D g { z with s:=s } dx aA aC aH aT:=DbR.set (z:={ z with s:=s }) R.hD R.hA R.hC R.hH R.hT;let G1:=G.but R.hD gD S1;generalize upd H D (.ins C dx (dl g aA aC s aH aT z.ed z.pl))=H1 at S1 R1 G1;let G1':=G1;erw[a,b,d,tv,%[dg|hg],ha,hb,TS,hd]at G1';erw[0,D,C,dx,_,0,R1.hD,9,T.nG,jg,g,dg,0,hg,qT _ _ _ _ ⋯ ⋯ ⋯ ⋯,0,D,C,dx,_,0,R1.hD,9,T.nC,dl_c,0,6];erw[g,a,b,d,aC,z.cl,s,p,1,%[dg|hg],3,3,.inr R1.hC,6];erw[0,D,C,dx,0,R1.hD,9,T.nE,dM,6];rw[Al];let S2:SameBut D H1 (upd H1 D (.ins C dx (dl g aA aC s aH aT (hor s p z.cl) z.pl))):=SameBut.upd _;let R2:DbR C (upd H1 D (.ins C dx (dl g aA aC s aH aT (hor s p z.cl) z.pl))) D g { z with s:=s,ed:=hor s p z.cl } dx aA aC aH aT:=DbR.set (z:={ z with s:=s,ed:=hor s p z.cl }) R1.hD R1.hA R1.hC R1.hH R1.hT;let G2:=G1.but R1.hD gD S2;generalize upd H1 D (.ins C dx (dl g aA aC s aH aT (hor s p z.cl) z.pl))=H2 at S2 R2 G2;erw[0,D,dx,0,R2.hD,BF,6];erw[D,g,_,ns,ts,p,1,%[dx,aA,aC,aH,aT|R2],G2,k,tl,po,λH3 S3 D3=>q H3 (S1.trans (S2.trans S3)) D3]
instance spClaims(C CG:Addr):∀(D g l:Addr)(z:Db)(xs:List Int)(ns:List Str)(ts:List Tr)(p:Int),vs=[.ref D,.ref l]->DbAt C H D g z->Gm CG H g ns ts p->GmK ns ts p->H l=some (.tup (xs.map V.int))->z.to.length<=ns.length->cy z.to p->(∀H',SameBut D H H'->DbAt C H' D g (lj ns ts p xs z)->Q .non H'):=1
def vp:FnScope WE WE (ag lP):=%[|5]
def vR(F:#["hear_claims","Doubter.hear_claims",lP])(B:Bl mg)(T:DTxt K mg C)(TG:GTxt K mg CG)(mB:Meth K C "begin_rounds" fB)(GB:#[16,fB,fdB,WM,spBeg C CG])(bB:Binds K fdB WM []):#[17,f,fd,WE,spClaims C CG]:=by
 exists vp
 erw[D,g,l,z,xs,ns,ts,p,1,%[dx,aA,aC,aH,aT|R],G,k,hl,tl,po,q]at h;refine⟨_,(aa (aU (pv 0) (pv 1) rfl)
  (ad (aG (af aP (aE aF rfl B.len zB1 %[az (az (pv 0) rfl) rfl|aQ]) ac (ao _))
   (ad (aS (bJ (pv 0) T.cl mB GB hr bB .nil bh %[ac|aQ])))
   (ad (aU (pv 0) (aM %[aB|aQ]) rfl))))),?_⟩
 let gD:=G.ne R.hD jg;erw[0,0,D,C,dx,0,R.hD,9,T.nC,dM,6];rw[put_c];let S1:SameBut D H (upd H D (.ins C dx (dl g aA l z.s aH aT z.ed z.pl))):=SameBut.upd _;let R1:DbR C (upd H D (.ins C dx (dl g aA l z.s aH aT z.ed z.pl))) D g { z with cl:=xs } dx aA l aH aT:=DbR.set (z:={ z with cl:=xs }) R.hD R.hA hl R.hH R.hT;let G1:=G.but R.hD gD S1;generalize upd H D (.ins C dx (dl g aA l z.s aH aT z.ed z.pl))=H1 at S1 R1 G1;let G1':=G1;erw[a,b,d,tv,%[dg|hg],ha,hb,TS,hd]at G1';let vl:=TS.length;erw[0,D,C,dx,_,0,R1.hD,9,T.nG,jg,g,CG,dg,_,0,hg,TG.cl,TG.nT,jQ ..,b,0,.inr (zB0 hb),1,0,6]
 by_cases c:ts.length=1
 . apply aV (congrArg V.int #[0]) ?_;let e:lj ns ts p xs z=wE ns ts p 0 { z with cl:=xs }:=by
    unfold lj;rw[JB c]
   rw[e]at q;erw[0,D,dx,0,R1.hD,DM,6];erw[D,g,_,(0),ns,ts,p,1,%[dx,aA,l,aH,aT|R1],G1,k,tl,po,λH3 S3 D3=>q H3 (S1.trans S3) D3]
 . apply ay (λe=>c (by have:=V.int.inj e;omega)) ?_;let e:lj ns ts p xs z={ z with cl:=xs,aw:=("coin",none) }:=by
    unfold lj;rw[Jy c]
   erw[y1S,λt ht=>?_];let I:=zC0 ht (.tup [.str "coin"]);let R4:=R1.same I;erw[0,D,C,dx,0,R4.hD,9,T.nA,dM,6];rw[qK];apply q _ (S1.trans ((zJ0 I).trans (SameBut.upd _))) ?_;rw[e];erw[dx,t,l,aH,aT,DbR.set (z:={ z with cl:=xs,aw:=("coin",none) }) R4.hD aO R4.hC R4.hH R4.hT]
instance spHRow(C CG:Addr):∀(D g l:Addr)(z:Db)(xs:List Int)(ns:List Str)(ts:List Tr)(p:Int),vs=[.ref D,.ref l]->DbAt C H D g z->Gm CG H g ns ts p->GmK ns ts p->H l=some (.tup (xs.map V.int))->jT xs p->(∀H',SameBut D H H'->DbAt C H' D g (fc p xs z)->Q .non H'):=1
def Cv:FnScope WE WE (ag vz):=%[|5]
def CU(F:#["hear_row","Doubter.hear_row",vz])(B:Bl mg)(T:DTxt K mg C)(TG:GTxt K mg CG)(i8:#[5,"both_ends",["values","p"],spEnds]):#[6,f,fd,WE,spHRow C CG]:=by
 exists Cv
 erw[D,g,l,z,xs,ns,ts,p,1,%[dx,aA,aC,aH,aT|R],G,k,hl,ro,q]at h;refine⟨_,(aa (aU (pv 0) (pv 1) rfl)
  (ad (aG (af aP (ai i8 hr ⋯ rfl %[1,az (az (pv 0) rfl) rfl|aQ]) (az (pv 0) rfl) (ao _))
   (ad (aU (pv 0) (aM %[aB|aQ]) rfl))
   (ad (aU (pv 0) (aM %[aB,au aR (aE aF rfl B.len zB1 %[az (pv 0) rfl|aQ]) ac|aQ]) rfl))))),?_⟩
 let gD:=G.ne R.hD jg;erw[0,0,D,C,dx,0,R.hD,9,T.nH,dM,6];rw[put_h];let S1:SameBut D H (upd H D (.ins C dx (dl g aA aC z.s l aT z.ed z.pl))):=SameBut.upd _;let R1:DbR C (upd H D (.ins C dx (dl g aA aC z.s l aT z.ed z.pl))) D g { z with he:=xs } dx aA aC l aT:=DbR.set (z:={ z with he:=xs }) R.hD R.hA R.hC hl R.hT;let G1:=G.but R.hD gD S1;generalize upd H D (.ins C dx (dl g aA aC z.s l aT z.ed z.pl))=H1 at S1 R1 G1;let G1':=G1;erw[a,b,d,tv,%[dg|hg],ha,hb,TS,hd]at G1';erw[0,0,D,C,dx,_,0,R1.hD,9,T.nG,jg,g,CG,dg,_,0,hg,TG.cl,TG.nF,gN ..,l,xs,p,1,.inr R1.hH,ro,k.pr,k.p9,λH2 S2=>?_];let R2:=R1.same S2;erw[0,D,C,dx,_,0,R2.hD,9,T.nE,BH,1,0,6];let S02:SameBut D H H2:=S1.trans (zJ0 S2)
 by_cases c:(val p xs 0+val p xs 1) % p=z.ed
 . apply aV (congrArg V.int c) ?_;let e:fc p xs z={ z with he:=xs,aw:=("coin",none) }:=by
    unfold fc;rw[JB c]
   erw[y1S,λt ht=>?_];let I:=zC0 ht (.tup [.str "coin"]);let R4:=R2.same I;erw[0,D,C,dx,0,R4.hD,9,T.nA,dM,6];rw[qK];apply q _ (S02.trans ((zJ0 I).trans (SameBut.upd _))) ?_;rw[e];erw[dx,t,aC,l,aT,DbR.set (z:={ z with he:=xs,aw:=("coin",none) }) R4.hD aO R4.hC R4.hH R4.hT]
 . apply ay (λe=>c (V.int.inj e)) ?_;let e:fc p xs z={ z with he:=xs,aw:=("caught",some ((z.to.length:Int)+1)) }:=by
    unfold fc;rw[Jy c]
   erw[0,D,C,dx,_,0,R2.hD,9,T.nT,yZ,aT,0,.inr (zB0 R2.hT),2,y2S,λt ht=>?_];let I:=zC0 ht (.tup [.str "caught",.int (((z.to.map V.int).length:Int)+1)]);let R4:=R2.same I;erw[0,D,C,dx,0,R4.hD,9,T.nA,dM,6];rw[qK];apply q _ (S02.trans ((zJ0 I).trans (SameBut.upd _))) ?_;rw[e];erw[dx,t,aC,l,aT,DbR.set (z:={ z with he:=xs,aw:=("caught",some ((z.to.length:Int)+1)) }) R4.hD ?_ R4.hC R4.hH R4.hT];rw[aO,zF0];rfl
end
section
variable {C CG:Addr}
def ju{K:W.Frag}{H:Hp}{a:Addr}{xs:List Int}(h:H a=some (.tup (xs.map V.int))):Rep K H (.ref a) (.tuple (xs.map PyData.int)):=.tup (zB0 h) (hG xs)
def xa(xs:List Int):PyData.eqv (.tuple (xs.map PyData.int)) (.tuple [])=decide (xs=[]):=by
 cases xs with
 |nil=>rfl
 |cons a r=>rfl
def jp(ns:List Int):SeqAt.shaped (.tuple (ns.map PyData.int))=true:=by
 simp [SeqAt.shaped,PyData.canLay0,PyData.depth,wB1,wM1]
def IntsAt.sq{K:W.Frag}(h:IntsAt H l xs):SqL K H l (xs.map V.int)∨SqT K H l (xs.map V.int):=h.elim (λe=>.inl (zG0 e)) λe=>.inr (zB0 e)
def zu{K:W.Frag}{Q:VK}(h:IntsAt H c cs)(q:∀ah H1,Same H H1->H1 ah=some (.tup (cs.map V.int))->Q (.ref ah) H1):rTupOf K [.ref c] H Q:=by
 rcases h with h | h
 . erw[c,0,.inl %[zG0 h|λl hl=>q l _ (zC0 hl _) aO]]
 . erw[c,0,.inr %[zB0 h|q c H (λ_ _ e=>e) h]]
instance spHear(C CG:Addr):∀(D g l:Addr) (z:Db) (xs:List Int) (ns:List Str) (ts:List Tr) (p:Int),vs=[.ref D,.ref l]->DbAt C H D g z->Gm CG H g ns ts p->GmK ns ts p->IntsAt H l xs->z.aw=(("hear":Str),some (xs.length:Int))->cy xs p->xs.length<=500->(z.cl≠[]->jT xs p)->z.to.length<=ns.length->cy z.to p->(∀H',SameBut D H H'->DbAt C H' D g (cS ns ts p xs z)->Q .non H'):=1
def zX:FnScope WE WE (ag rW):=%[|5]
def AL(F:#["hear","Doubter.hear",rW])(B:Bl mg)(T:DTxt K mg C)(TG:GTxt K mg CG)(dZ:#[1,"is_number",WX,spIsNum])
 (mC:Meth K C "hear_claims" fC)(GC:#[17,fC,fdC,WE,spClaims C CG])(bC:Binds K fdC WE [])
 (mR:Meth K C "hear_row" fR)(GR:#[6,fR,fdR,WE,spHRow C CG])(bR:Binds K fdR WE []):#[18,f,fd,WE,spHear C CG]:=by
 exists zX
 erw[D,g,l,z,xs,ns,ts,p,1,%[dx,aA,aC,aH,aT|R],G,k,hl,ea,xo,xl,ro,tl,po,q]at h;let hr6:Room 6 _:=hr.mono ⋯;refine⟨_,(aa (aG (af jN (aJ ix_tup (az (pv 0) rfl) ac #[1]) aB (ao _)) bu ax)
  (aa (aG (af jN (aE aF rfl B.len zB1 %[1|aQ]) (aJ ix_tup (az (pv 0) rfl) ac #[1]) (ao _)) bu ax)
  (aa (aG (gy (dJ (aE (lx rfl) rfl B.all jC1 (ae (cb (N:=WA) (ix:=[0]) rfl
   #[3] rfl
   (Em (pv 1)) (λ_ _ _=>cD (ai dZ hr ⋯ rfl %[0,jz K (jz K (pv 1))|aQ]))) aQ)))) bu ax)
  (aa (aU (pv 0) (au aR (az (pv 0) rfl) (aE aF rfl B.len zB1 %[1|aQ])) rfl)
  (ad (aG (af (kt hr.units) (az (pv 0) rfl) (aM aQ) (ao _))
   (ad (aS (bJ (pv 0) T.cl mC GC hr bC .nil bh %[bv bb rfl B.tuple bp %[1|aQ]|aQ])))
   (ad (aS (bJ (pv 0) T.cl mR GR hr6 bR .nil bh %[bv bb rfl B.tuple bp %[1|aQ]|aQ]))))))))),?_⟩
 let gD:=G.ne R.hD jg;let hA:=R.hA;rw[ea]at hA;let hA:H aA=some (.tup [.str "hear",.int (xs.length:Int)]):=hA;erw[0,D,C,dx,_,0,R.hD,9,T.nA,Dq,aA,_,2,zB0 hA,bw (j:=0) rfl,1,0,6];apply mZ rfl ?_;erw[0,l,0,hl.sq,0,D,C,dx,_,0,R.hD,9,T.nA,Dq,aA,_,2,zB0 hA,bw (j:=1) rfl,1,0,6];apply mZ (by rw[zF0]) ?_;let G':=G;erw[a,b,d,tv,%[dg|hg],ha,hb,TS,hd]at G';obtain⟨c0,hB⟩:∃c0:Bool,∀H',Same H H'->SqB K c0 H' l (xs.map V.int):=hl.elim (λe=>%[true|λH' S=>zG0 (S _ _ e)]) λe=>%[false|λH' S=>zB0 (S _ _ e)]
 erw[0,c0,l,1,%[_|hB H (Same.refl _)],λW hW=>?_];apply BP (K:=K) (c:=c0) (xs:=xs.map V.int) (λi H'=>H' W=some (.lst ((List.replicate i true).map V.bl))/\Same H H') %[by rw[aO];rfl|zC0 hW _] (λi H' _ h=>hB H' h.2) ?_ ?_
 . rintro i v H2 hv ⟨hW2,S2⟩;let hi:=(qD0 hv).1;rw[zX0]at hv;let%[n,hn|1]:=qP0 hv;let nr:=xo n (qG0 hn);erw[0,0,D,C,dx,_,0,S2 _ _ R.hD,9,T.nG,jg,g,CG,dg,_,0,S2 _ _ hg,TG.cl,TG.nF,gN ..,n,p,1,6];rw[zD1 nr.1,zD1 nr.2];erw[_,hW2,6,Nx.of hi %[6|λb o e=>?_]]
   . rw[zF0,zU1];rw[zF0]at hi;exact aN #[0]
   . rw[aO,List.replicate_succ',zK0];rfl
   . rw[aD (aX e hW)];exact S2 _ _ e
 rintro H1 ⟨hW1,S1⟩;erw[W,0,zG0 hW1,6];let ea:(List.replicate (xs.map V.int).length true).all id=true:=by simp
 rw[ea];erw[0,6];apply cV ?_;let R1:=R.same S1;let G1:=G.same S1;erw[0,D,C,dx,_,0,R1.hD,9,T.nP,BE,0,l,0,(hl.same S1).sq,2,0,D,C,dx,0,R1.hD,9,T.nP,dM,6];rw[vB,zF0];let S2:SameBut D H1 (upd H1 D (.ins C dx (dl g aA aC z.s aH aT z.ed (z.pl+(xs.length:Int))))):=SameBut.upd _;let R2:DbR C (upd H1 D (.ins C dx (dl g aA aC z.s aH aT z.ed (z.pl+(xs.length:Int))))) D g { z with pl:=z.pl+(xs.length:Int) } dx aA aC aH aT:=DbR.set (z:={ z with pl:=z.pl+(xs.length:Int) }) R1.hD R1.hA R1.hC R1.hH R1.hT;let G2:=G1.but R1.hD gD S2;let hl2:upd H1 D (.ins C dx (dl g aA aC z.s aH aT z.ed (z.pl+(xs.length:Int)))) l=H1 l:=aD (hl.elim (λe=>bi e R.hD nofun) λe=>bi e R.hD nofun);let hl2:IntsAt (upd H1 D (.ins C dx (dl g aA aC z.s aH aT z.ed (z.pl+(xs.length:Int))))) l xs:=(hl.same S1).elim (λe=>.inl (hl2.trans e)) λe=>.inr (hl2.trans e)
 generalize upd H1 D (.ins C dx (dl g aA aC z.s aH aT z.ed (z.pl+(xs.length:Int))))=H2 at S2 R2 G2 hl2;erw[0,D,C,dx,_,0,R2.hD,9,T.nC,dl_c,y0S,λu hu=>?_];let I:=zC0 hu (.tup []);let R3:=R2.same I;let hu3:upd H2 u (.tup []) u=some (.tup []):=aO;let hl3:=hl2.same I;let G3:=G2.same I;generalize upd H2 u (.tup [])=H3 at I R3 hu3 hl3 G3;let S03:SameBut D H H3:=(zJ0 S1).trans (S2.trans (zJ0 I));erw[_,_,ju R3.hC,ju (xs:=[]) hu3,jp _,jp [],0,6];rw[show PyData.eqv (.tuple (z.cl.map PyData.int)) (.tuple (([]:List Int).map PyData.int))=decide (z.cl=[])from xa z.cl]
 by_cases c:z.cl=[]
 . apply aV c ?_;let e:cS ns ts p xs z=lj ns ts p xs { z with pl:=z.pl+(xs.length:Int) }:=by
    unfold cS;rw[JB c]
   rw[e]at q;erw[0,D,dx,0,R3.hD,dl_n6,6];erw[0,zu hl3 λt H4 J ht=>?_];erw[D,g,t,_,xs,ns,ts,p,1,%[dx,aA,aC,aH,aT|R3.same J],G3.same J,k,ht,tl,po,λH5 S5 D5=>q H5 (S03.trans ((zJ0 J).trans S5)) D5]
 . apply ay c ?_;let e:cS ns ts p xs z=fc p xs { z with pl:=z.pl+(xs.length:Int) }:=by
    unfold cS;rw[Jy c]
   rw[e]at q;erw[0,D,dx,0,R3.hD,dl_n8,6];erw[0,zu hl3 λt H4 J ht=>?_];erw[D,g,t,_,xs,ns,ts,p,1,%[dx,aA,aC,aH,aT|R3.same J],G3.same J,k,ht,ro c,λH5 S5 D5=>q H5 (S03.trans ((zJ0 J).trans S5)) D5]
instance spToss(C CG:Addr):∀(D g:Addr) (z:Db) (r:Int) (ns:List Str) (ts:List Tr) (p:Int),vs=[.ref D,.int r]->DbAt C H D g z->Gm CG H g ns ts p->GmK ns ts p->z.aw.1="coin"->0<=r->r<p->z.to.length<=ns.length->(z.he≠[]->jT z.he p/\z.to.length<ns.length)->cy z.to p->(∀H',SameBut D H H'->DbAt C H' D g (di ns ts p r z)->Q .non H'):=1
def zV:FnScope WN WN (ag rT):=%[|5]
def DP(a:Str×Option Int):(awV a)[0]?=some (.str a.1):=by
 unfold awV
 split <;> rfl
instance rCatA(K:W.Frag)(x:V)(y:V)(H:Hp)(Q:VK):∀a b xs ys,x=.ref a->y=.ref b->SqT K H a xs->SqT K H b ys->ys≠[]->xs.length+ys.length<=sizeLine->(xs=[]->Q (.ref b) H)->(xs≠[]->∀p,H p=none->Q (.ref p) (upd H p (.tup (xs++ys)))):=0
def CK:OpR X (binaryOp .Add) (rCatA X.K):=by
 exists 4,x,y,v,u,Q,I,rx,ry,h;erw[a,b,xs,ys,ex,ey,ha,hb,hy,hz,q1,q2]at h
 by_cases c:xs=[]
 . subst c;exact kW Jx s σ H x y v u Q I rx ry %[a,b,ys,ex,ey,ha,hb|q1 rfl]
 . exact op_catT Jx s σ H x y v u Q I rx ry %[a,b,xs,ys,ex,ey,ha,hb,c,hz,λz=>absurd z hy|λ_=>q2 c]
def AI(F:#["toss","Doubter.toss",rT])(B:Bl mg)(T:DTxt K mg C)(TG:GTxt K mg CG)(dZ:#[1,"is_number",WX,spIsNum])(b5:#[4,"value_at",WI,spVal])
 (mB:Meth K C "begin_rounds" fB)(GB:#[16,fB,fdB,WM,spBeg C CG])(bB:Binds K fdB WM [])
 (mG:Meth K C "go_on" fG)(GG:#[15,fG,fdG,WA,spGo C CG])(bG:Binds K fdG WA []):#[17,f,fd,WN,spToss C CG]:=by
 exists zV
 erw[D,g,z,r,ns,ts,p,1,%[dx,aA,aC,aH,aT|R],G,k,ea,r0,r1,tl,ro,po,q]at h;let hr15:Room 15 _:=hr.mono ⋯;refine⟨_,(aa (aG (af jN (aJ ix_tup (az (pv 0) rfl) ac #[1]) aB (ao _)) bu ax)
  (aa (aG (gy (dJ (ai dZ hr ⋯ rfl %[1,az (az (pv 0) rfl) rfl|aQ]))) bu ax)
  (aa (aU (pv 0) (au aR (az (pv 0) rfl) ac) rfl)
  (ad (aG (af (kt hr.units) (az (pv 0) rfl) (aM aQ) (ao _))
   (ad (aS (bJ (pv 0) T.cl mB GB hr bB .nil bh %[1|aQ])))
   (aa (aU (pv 0) (ai b5 hr ⋯ rfl %[az (pv 0) rfl,1,az (az (pv 0) rfl) rfl|aQ]) rfl)
   (aa (aU (pv 0) (au CK (az (pv 0) rfl) (aM %[1|aQ])) rfl)
   (ad (aS (ca (pv 0) T.cl mG GG hr15 bG .nil bh)))))))))),?_⟩
 let gD:=G.ne R.hD jg;let G':=G;erw[a,b,d,tv,%[dg|hg],ha,hb,TS,hd]at G';erw[0,D,C,dx,_,0,R.hD,9,T.nA,Dq,aA,_,2,zB0 R.hA,bw (j:=0) (DP _),1,0,6];apply mZ (congrArg V.str ea) ?_;erw[0,0,D,C,dx,_,0,R.hD,9,T.nG,jg,g,CG,dg,_,0,hg,TG.cl,TG.nF,gN ..,r,p,1,6];rw[zD1 r0,zD1 r1];erw[0,6];apply cV ?_;erw[0,D,C,dx,_,0,R.hD,9,T.nP,BE,2,0,D,C,dx,0,R.hD,9,T.nP,dM,6];rw[vB];let S2:SameBut D H (upd H D (.ins C dx (dl g aA aC z.s aH aT z.ed (z.pl+1)))):=SameBut.upd _;let R2:DbR C (upd H D (.ins C dx (dl g aA aC z.s aH aT z.ed (z.pl+1)))) D g { z with pl:=z.pl+1 } dx aA aC aH aT:=DbR.set (z:={ z with pl:=z.pl+1 }) R.hD R.hA R.hC R.hH R.hT;let G2:=G.but R.hD gD S2;generalize upd H D (.ins C dx (dl g aA aC z.s aH aT z.ed (z.pl+1)))=H2 at S2 R2 G2;erw[0,D,C,dx,_,0,R2.hD,9,T.nH,dl_h,y0S,λu hu=>?_];let I:=zC0 hu (.tup []);let R3:=R2.same I;let hu3:upd H2 u (.tup []) u=some (.tup []):=aO;let G3:=G2.same I;generalize upd H2 u (.tup [])=H3 at I R3 hu3 G3;let S03:SameBut D H H3:=S2.trans (zJ0 I);erw[_,_,ju R3.hH,ju (xs:=[]) hu3,jp _,jp [],0,6];rw[show PyData.eqv (.tuple (z.he.map PyData.int)) (.tuple (([]:List Int).map PyData.int))=decide (z.he=[])from xa z.he]
 by_cases c:z.he=[]
 . apply aV c ?_;let e:di ns ts p r z=wE ns ts p r { z with pl:=z.pl+1 }:=by
    unfold di;rw[JB c]
   rw[e]at q;erw[0,D,dx,0,R3.hD,DM,0,6];erw[D,g,_,r,ns,ts,p,1,%[dx,aA,aC,aH,aT|R3],G3,k,tl,po,λH5 S5 D5=>q H5 (S03.trans S5) D5]
 . apply ay c ?_;let%[rok|tl']:=ro c;let e:di ns ts p r z=goOn ns ts p { z with pl:=z.pl+1,ed:=val p z.he r,to:=z.to++[r] }:=by
    unfold di;rw[Jy c]
   rw [e]at q;let G3':=G3;erw[a3,b3,d3,tv3,%[dg3|hg3],_]at G3';erw[0,D,C,dx,_,0,R3.hD,9,T.nH,dl_h,0,0,D,C,dx,_,0,R3.hD,9,T.nG,jg,g,CG,dg3,_,0,hg3,TG.cl,TG.nF,gN ..,aH,z.he,r,p,1,.inr R3.hH,rok,k.pr,k.p9,r0,r1,λH4 S4=>?_];let R4:=R3.same S4;let G4:=G3.same S4;erw[0,D,C,dx,0,R4.hD,9,T.nE,dM,6];rw[Al];let S5:SameBut D H4 (upd H4 D (.ins C dx (dl g aA aC z.s aH aT (val p z.he r) (z.pl+1)))):=SameBut.upd _;let R5:DbR C (upd H4 D (.ins C dx (dl g aA aC z.s aH aT (val p z.he r) (z.pl+1)))) D g { z with pl:=z.pl+1,ed:=val p z.he r } dx aA aC aH aT:=DbR.set (z:={ z with pl:=z.pl+1,ed:=val p z.he r }) R4.hD R4.hA R4.hC R4.hH R4.hT;let G5:=G4.but R4.hD gD S5;generalize upd H4 D (.ins C dx (dl g aA aC z.s aH aT (val p z.he r) (z.pl+1)))=H5 at S5 R5 G5;let S05:SameBut D H H5:=S03.trans ((zJ0 S4).trans S5);erw[0,D,C,dx,_,0,R5.hD,9,T.nT,yZ,0,y1S,λt ht=>?_];let J:=zC0 ht (.tup [.int r]);let R6:=R5.same J;let G6:=G5.same J;let ht6:upd H5 t (.tup [.int r]) t=some (.tup [.int r]):=aO;generalize upd H5 t (.tup [.int r])=H6 at J R6 G6 ht6;let n10:=k.n10;let fin:∀(x:Addr)(H7:Hp),Same H6 H7->H7 x=some (.tup ((z.to++[r]).map V.int))->(ps_fin:True)->∀QQ:Hp->Prop,(∀H8,SameBut D H7 H8->DbR C H8 D g { z with pl:=z.pl+1,ed:=val p z.he r,to:=z.to++[r] } dx aA aC aH x->Gm CG H8 g ns ts p->QQ H8)->QQ (upd H7 D (.ins C dx (dl g aA aC z.s aH x (val p z.he r) (z.pl+1)))):=by
    intro x H7 s7 hx _ QQ hq;let R7:=R6.same s7;exact hq _ (SameBut.upd _) (DbR.set (z:={ z with pl:=z.pl+1,ed:=val p z.he r,to:=z.to++[r] }) R7.hD R7.hA R7.hC R7.hH hx) ((G6.same s7).but R7.hD gD (SameBut.upd _))
   let po2:cy (z.to++[r]) p:=λx hx=>by
    rcases qJ0 hx with h | h
    . exact po x h
    . rw[zP0 h];erw[r0,r1]
   let tl2:(z.to++[r]).length<=ns.length:=by
    rw[zL0,qN0];omega
   let S06:SameBut D H H6:=S05.trans (zJ0 J);erw[aT,t,2,zB0 R6.hT,zB0 ht6,(λz=>by cases z),cg (by rw[zF0];show z.to.length+1<=1000;omega),λz0=>?_,λz0 p7 hp7=>?_]
   . let e0:z.to=[]:=#[z0,0]
     erw[0,D,C,dx,0,R6.hD,9,T.nT,dM,6];rw[DG];apply fin t H6 (Same.refl _) (by rw[e0];exact ht6) trivial _ λH8 S8 R8 G8=>?_
     erw[0,D,dx,0,R8.hD,BF,6];erw[D,g,_,ns,ts,p,1,%[dx,aA,aC,aH,t|R8],G8,k,tl2,po2,λH9 S9 D9=>q H9 (S06.trans (S8.trans S9)) D9]
   . let L:=zC0 hp7 (.tup (z.to.map V.int++[.int r]));let R7:=R6.same L;erw[0,D,C,dx,0,R7.hD,9,T.nT,dM,6];rw[DG];apply fin p7 _ L (by rw[aO,zK0];rfl) trivial _ λH8 S8 R8 G8=>?_
     erw[0,D,dx,0,R8.hD,BF,6];erw[D,g,_,ns,ts,p,1,%[dx,aA,aC,aH,p7|R8],G8,k,tl2,po2,λH9 S9 D9=>q H9 (S06.trans ((zJ0 L).trans (S8.trans S9))) D9]
instance spDInit(C CG:Addr):∀(D g dx:Addr)(ns:List Str)(ts:List Tr)(p:Int),vs=[.ref D,.ref g]->H D=some (.ins C dx [])->Gm CG H g ns ts p->g≠D->(∀H',SameBut D H H'->DbAt C H' D g (Db.new ts)->Q .non H'):=1
def zW:FnScope WO WO (ag rV):=%[|5]
instance spOf(C:Addr)(t:Db->V->Hp->Prop):∀(D g:Addr)(z:Db),vs=[.ref D]->DbAt C H D g z->(∀v,t z v H->Q v H):=1
def Cw:FnScope WA WA (ag vA):=%[|5]
def CV(F:#["due","Doubter.due",vA])(T:DTxt K mg C):#[1,f,fd,WA,spOf C λz v _=>v=.int z.ed]:=by
 exists Cw
 erw[D,g,z,1,%[dx,aA,aC,aH,aT|R],q]at h;erw[_,(ad (aq (az (pv 0) rfl))),6];erw[0,D,C,dx,_,0,R.hD,9,T.nE,BH,q _ rfl]
def xQ:FnScope WA WA (ag oS):=%[|5]
def yq(F:#["waits","Doubter.waits",oS])(T:DTxt K mg C):#[1,f,fd,WA,spOf C λz v H=>∃a,v=.ref a/\H a=some (.tup (awV z.aw))]:=by
 exists xQ
 erw[D,g,z,1,%[dx,aA,aC,aH,aT|R],q]at h;erw[_,(ad (aq (az (pv 0) rfl))),6];erw[0,D,C,dx,_,0,R.hD,9,T.nA,Dq,q _ %[aA,1|R.hA]]
end
section
variable {C CG:Addr}
def sN{b:Addr}{o:HO}(F:FeedAt H f)(h:H b=some o)(n:∀ys,o≠.lst ys):b≠f:=λz=>by
 erw[u,t,e,_]at F;rw[z,e]at h;exact n _ (zT0 h).symm
def awD(a:Str×Option Int):PyData:=match a.2 with
 |none=>.tuple [.str a.1]
 |some n=>.tuple [.str a.1,.int n]
def lR{K:W.Frag}{H:Hp}{c:Addr}(h:H c=some (.tup (awV a))):Rep K H (.ref c) (awD a):=by
 erw[x,n]at a;cases n with
 |none=>exact .tup (zB0 h) (.cons (.str x) .nil)
 |some n=>exact .tup (zB0 h) (.cons (.str x) (.cons (.int n) .nil))
def AwW(x:Str):Prop:=x="hear"∨x="coin"∨x="caught"∨x="believed"
def AwW.ok(h:AwW x):PyData.strOk x=true:=by
 rcases h with rfl | rfl | rfl | rfl <;> decide
def nj:∀ns ms:List Int,PyData.eqvAll (ns.map PyData.int) (ms.map PyData.int)=decide (ns=ms)
 | [],[]=>rfl
 | [],_::_=>rfl
 |_::_,[]=>rfl
 |a::r,b::t=>by
   simp only[zZ0,PyData.eqvAll,PyData.eqv,nj r t]
   by_cases h1:a=b <;> by_cases h2:r=t <;> simp [h1,h2]
def EY(ns ms:List Int):PyData.eqv (.list (ns.map PyData.int)) (.list (ms.map PyData.int))=decide (ns=ms):=by simp [PyData.eqv,nj]
def qH(ns:List Int):SeqAt.shaped (.list (ns.map PyData.int))=true:=by
 simp [SeqAt.shaped,PyData.canLay0,PyData.depth,wB1,wM1]
end
section
variable {C CG:Addr}
def d1(g:Addr):List (Str×V):=[("game",.ref g)]
def d2(g t1:Addr):List (Str×V):=[("game",.ref g),("awaited",.ref t1)]
def d3(g t1 t2:Addr):List (Str×V):=[("game",.ref g),("awaited",.ref t1),("claims",.ref t2)]
def d4(g t1 t2:Addr):List (Str×V):=[("game",.ref g),("awaited",.ref t1),("claims",.ref t2),("s",.int 0)]
def d5(g t1 t2 t3:Addr):List (Str×V):=[("game",.ref g),("awaited",.ref t1),("claims",.ref t2),("s",.int 0),("heard",.ref t3)]
def d6(g t1 t2 t3 t4:Addr):List (Str×V):=[("game",.ref g),("awaited",.ref t1),("claims",.ref t2),("s",.int 0),("heard",.ref t3),("tossed",.ref t4)]
def d7(g t1 t2 t3 t4:Addr):List (Str×V):=[("game",.ref g),("awaited",.ref t1),("claims",.ref t2),("s",.int 0),("heard",.ref t3),("tossed",.ref t4),("held",.int 0)]
def pd1(g:Addr):bq "game" (.ref g) []=d1 g:=by rfl'
def pd2(g t1:Addr):bq "awaited" (.ref t1) (d1 g)=d2 g t1:=by rfl'
def pd3(g t1 t2:Addr):bq "claims" (.ref t2) (d2 g t1)=d3 g t1 t2:=by rfl'
def pd4(g t1 t2:Addr):bq "s" (.int 0) (d3 g t1 t2)=d4 g t1 t2:=by rfl'
def pd5(g t1 t2 t3:Addr):bq "heard" (.ref t3) (d4 g t1 t2)=d5 g t1 t2 t3:=by rfl'
def pd6(g t1 t2 t3 t4:Addr):bq "tossed" (.ref t4) (d5 g t1 t2 t3)=d6 g t1 t2 t3 t4:=by rfl'
def pd7(g t1 t2 t3 t4:Addr):bq "held" (.int 0) (d6 g t1 t2 t3 t4)=d7 g t1 t2 t3 t4:=by rfl'
def pd8(g t1 t2 t3 t4:Addr):bq "places" (.int 0) (d7 g t1 t2 t3 t4)=dl g t1 t2 0 t3 t4 0 0:=by rfl'
def AJ(F:#["__init__","Doubter.__init__",rV])(B:Bl mg)(T:DTxt K mg C)(TG:GTxt K mg CG):#[1,f,fd,WO,spDInit C CG]:=by
 exists zW
 erw[D,g,dx,ns,ts,p,1,hD,G,gD,q]at h;refine⟨_,(aa (aU (pv 0) (pv 1) rfl)
  (aa (aU (pv 0) (aM %[aB,aE aF rfl B.len zB1 %[az (pv 1) rfl|aQ]|aQ]) rfl)
  (aa (aU (pv 0) (aM aQ) rfl)
  (aa (aU (pv 0) ac rfl)
  (aa (aU (pv 0) (aM aQ) rfl)
  (aa (aU (pv 0) (aM aQ) rfl)
  (aa (aU (pv 0) ac rfl)
  (ad (aU (pv 0) ac rfl))))))))),?_⟩
 erw[a,b,d,tv,%[dg|hg],ha,hb,TS,hd]at G;let vl:=TS.length;erw[0,0,D,C,dx,0,hD,9,T.nG,(by show 0<1000;decide),6];rw[pd1];let S1:SameBut D H (upd H D (.ins C dx (d1 g))):=SameBut.upd _;let h1:upd H D (.ins C dx (d1 g)) D=some (.ins C dx (d1 g)):=aO;generalize upd H D (.ins C dx (d1 g))=H1 at S1 h1;let nb:=bi hb hD nofun;erw[0,g,CG,dg,_,0,S1 _ _ gD hg,TG.cl,TG.nT,jQ ..,b,0,.inr (zB0 (S1 _ _ nb hb)),y2S,λt1 ht1=>?_];let I1:=zC0 ht1 (.tup [.str "hear",.int (tv.length:Int)]);let g1:upd H1 t1 (.tup [.str "hear",.int (tv.length:Int)]) t1=some (.tup [.str "hear",.int (tv.length:Int)]):=aO;generalize upd H1 t1 (.tup [.str "hear",.int (tv.length:Int)])=H2 at I1 g1;erw[0,D,C,dx,0,I1 _ _ h1,9,T.nA,(by show 1<1000;decide),6];rw[pd2];let n1:t1≠D:=(aX h1 ht1).symm;let S2:SameBut D H2 (upd H2 D (.ins C dx (d2 g t1))):=SameBut.upd _;let h2:upd H2 D (.ins C dx (d2 g t1)) D=some (.ins C dx (d2 g t1)):=aO;let k1:=S2 _ _ n1 g1;generalize upd H2 D (.ins C dx (d2 g t1))=H3 at S2 h2 k1;erw[y0S,λt2 ht2=>?_];let I2:=zC0 ht2 (.tup []);let g2:upd H3 t2 (.tup []) t2=some (.tup []):=aO;generalize upd H3 t2 (.tup [])=H4 at I2 g2;erw[0,D,C,dx,0,I2 _ _ h2,9,T.nC,(by show 2<1000;decide),6];rw[pd3];let n2:t2≠D:=(aX h2 ht2).symm;let S3:SameBut D H4 (upd H4 D (.ins C dx (d3 g t1 t2))):=SameBut.upd _;let h3:upd H4 D (.ins C dx (d3 g t1 t2)) D=some (.ins C dx (d3 g t1 t2)):=aO;generalize upd H4 D (.ins C dx (d3 g t1 t2))=H5 at S3 h3;erw[0,D,C,dx,0,h3,9,T.nS,(by show 3<1000;decide),6];rw[pd4];let S4:SameBut D H5 (upd H5 D (.ins C dx (d4 g t1 t2))):=SameBut.upd _;let h4:upd H5 D (.ins C dx (d4 g t1 t2)) D=some (.ins C dx (d4 g t1 t2)):=aO;generalize upd H5 D (.ins C dx (d4 g t1 t2))=H6 at S4 h4;erw[y0S,λt3 ht3=>?_];let I3:=zC0 ht3 (.tup []);let g3:upd H6 t3 (.tup []) t3=some (.tup []):=aO;generalize upd H6 t3 (.tup [])=H7 at I3 g3;erw[0,D,C,dx,0,I3 _ _ h4,9,T.nH,(by show 4<1000;decide),6];rw[pd5];let n3:t3≠D:=(aX h4 ht3).symm;let S5:SameBut D H7 (upd H7 D (.ins C dx (d5 g t1 t2 t3))):=SameBut.upd _;let h5:upd H7 D (.ins C dx (d5 g t1 t2 t3)) D=some (.ins C dx (d5 g t1 t2 t3)):=aO;generalize upd H7 D (.ins C dx (d5 g t1 t2 t3))=H8 at S5 h5;erw[y0S,λt4 ht4=>?_];let I4:=zC0 ht4 (.tup []);let g4:upd H8 t4 (.tup []) t4=some (.tup []):=aO;generalize upd H8 t4 (.tup [])=H9 at I4 g4;erw[0,D,C,dx,0,I4 _ _ h5,9,T.nT,(by show 5<1000;decide),6];rw[pd6];let n4:t4≠D:=(aX h5 ht4).symm;erw[0,D,C,dx,0,aO,9,T.nE,(by show 6<1000;decide),6];rw[pd7];erw[0,D,C,dx,0,aO,9,T.nP,(by show 7<1000;decide),6];rw[pd8];let W:∀{x:Addr} {H':Hp} {o1 o2 o3:HO} {u:HO},x≠D->H' x=some u->upd (upd (upd H' D o1) D o2) D o3 x=some u:=λ{x H' o1 o2 o3 u} n e=>by
  rw[aD n,aD n,aD n];exact e
 let k2:=S3 _ _ n2 g2;let k3:=S5 _ _ n3 g3;apply q _ (S1.trans ((zJ0 I1).trans (S2.trans ((zJ0 I2).trans (S3.trans (S4.trans ((zJ0 I3).trans (S5.trans ((zJ0 I4).trans ((SameBut.upd _).trans ((SameBut.upd _).trans (SameBut.upd _)))))))))))) %[dx,t1,t2,t3,t4,aO,6,6,6|W n4 g4]
 . rw[vl]at k1;exact W n1 (I4 _ _ (S5 _ _ n1 (I3 _ _ (S4 _ _ n1 (S3 _ _ n1 (I2 _ _ k1))))))
 . exact W n2 (I4 _ _ (S5 _ _ n2 (I3 _ _ (S4 _ _ n2 k2))))
 . exact W n3 (I4 _ _ k3)
end
def jP(o:Str)(p q:Bool):Bool:=if o="and" then p&&q else if o="or" then p||q else if o="odd" then p != q else p==q
def Tr.holds(ns:List Str)(st:List Int):Tr->Bool
 |.is x=>match fD x ns with | some j=>decide (st.getD j 0=1) | none=>false
 |.yes=>true
 |.no=>false
 |.not a=>!a.holds ns st
 |.bin o a b=>jP o (a.holds ns st) (b.holds ns st)
instance spJoined:∀(o:Str)(p q:Bool),vs=[.str o,.bl p,.bl q]->Q (.bl (jP o p q)) H:=1
def xM:FnScope WY WY (ag oO):=%[|5]
def yk(F:#["joined",oO]):#[1,f,fd,WY,spJoined]:=by
 exists xM
 erw[o,p,q,1,k]at h;refine⟨_,(aa (aG (af aP (pv 0) aB (ao _)) (ad (aq (pA (pv 1) (pw (pv 2))))) ax)
  (aa (aG (af aP (pv 0) aB (ao _)) (ad (aq (DH (pv 1) (pw (pv 2))))) ax)
  (aa (aG (af aP (pv 0) aB (ao _)) (ad (aq (dq jN (pv 1) (pv 2) (ao _)))) ax)
  (ad (aq (dq aP (pv 1) (pv 2) (ao _))))))),?_⟩
 erw[0,1,0,6]
 by_cases c1:V.str o=V.str "and"
 . apply aV c1 ?_;let e:jP o p q=(p&&q):=by unfold jP;rw[JB (gG c1)]
   rw[e]at k;erw[0,p,1,6];cases p with
   |true=>exact dL %[0|by simpa using k]
   |false=>exact cV #[k,0]
 apply ay c1 ?_;let n1:¬ o="and":=λz=>c1 (by rw[z])
 erw[0,1,0,6]
 by_cases c2:V.str o=V.str "or"
 . apply aV c2 ?_;let e:jP o p q=(p||q):=by unfold jP;rw[Jy n1,JB (gG c2)]
   rw[e]at k;erw[0,p,1,6];cases p with
   |true=>exact dL #[k,0]
   |false=>exact cV %[0|by simpa using k]
 apply ay c2 ?_;let n2:¬ o="or":=λz=>c2 (by rw[z])
 erw[0,1,0,6]
 by_cases c3:V.str o=V.str "odd"
 . apply aV c3 ?_;let e:jP o p q=(p != q):=by unfold jP;rw[Jy n1,Jy n2,JB (gG c3)]
   rw[e]at k;erw[0,0,1,6];let e2:(!decide (V.bl p=V.bl q))=(p != q):=by cases p <;> cases q <;> decide
   show Q (.bl (!decide (V.bl p=V.bl q))) H;rw[e2];exact k
 apply ay c3 ?_;let n3:¬ o="odd":=λz=>c3 (by rw[z])
 let e:jP o p q=(p==q):=by unfold jP;rw[Jy n1,Jy n2,Jy n3]
 rw[e]at k;erw[0,0,1,6];let e2:decide (V.bl p=V.bl q)=(p==q):=by cases p <;> cases q <;> decide
 show Q (.bl (decide (V.bl p=V.bl q))) H;rw[e2];exact k
instance spHolds(n:Nat):∀(v:V)(t:Tr)(a b:Addr)(ns:List Str)(st:List Int),vs=[v,.ref a,.ref b]->TreeAt H v t->t.ok ns->t.depth<=n->NamesAt H a ns->H b=some (.tup (st.map V.int))->st.length=ns.length->Q (.bl (t.holds ns st)) H:=1
def i9:FnScope ["tree","switches","setting","word","first"] WS (ag iw):=%[|5]
def wo{n:Nat}(F:#["holds_at",iw])(fJ:#[1,"joined",WY,spJoined])(eg:#[n+2,"holds_at",WS,spHolds n]):#[n+3,f,fd,WS,spHolds (n+1)]:=by
 exists i9
 erw[v,t,a,b,ns,st,1,T,ok,dn,hN,hb,sl,k]at h;refine⟨_,(aa #[am,3,i9,aJ ix_tup (pv 0) ac #[1]]
  (aa (aG (af aP (pv 3) aB (ao _)) (ad (aq (dq aP (aJ ix_tup (pv 2) (tT zC1 PySem.F.plainAttrs_tuple (pv 1) %[aJ ix_tup (pv 0) ac #[1]|aQ]) #[1]) ac (ao _)))) ax)
  (aa (aG (PW.pt (dR (af aP (pv 3) aB (ao _)) (dI (af aP (pv 3) aB (ao _))))) (ad (aq (dq aP (pv 3) aB (ao _)))) ax)
  (aa #[am,4,i9,ai eg hr (zH0 _) rfl %[aJ ix_tup (pv 0) ac #[1],1,2|aQ]]
  (aa (aG (af aP (pv 3) aB (ao _)) (ad (aq (At (pv 4)))) ax)
  (ad (aq (ai fJ hr #[0] rfl %[3,4,ai eg hr (zH0 _) rfl %[aJ ix_tup (pv 0) ac #[1],1,2|aQ]|aQ])))))))),?_⟩
 cases T with
 | @is p x e=>
   erw[0,p,_,(0),0,1,zB0 e,1,6];erw[0,1,0,6];apply aV rfl ?_;let%[j,hj|jl]:=jv ok;let jl':j<st.length:=#[0]
   erw[0,0,a,ns,1,hN,0,p,_,(1),0,1,zB0 e,1,1,x,j,1,hj,b,_,(j:Int),.int st[j],1,1,zB0 hb,6,1,6]
   . apply bw ?_;rw[zX0,zS0 jl'];rfl
   . let e1:(Tr.is x).holds ns st=decide (V.int st[j]=V.int 1):=by
      show(match fD x ns with | some j=>decide (st.getD j 0=1) | none=>false)=_;rw[hj];show decide (st.getD j 0=1)=_;rw[qQ0,zS0 jl']
      simp
     rw[e1]at k;exact k
 | @yes p e=>
   erw[0,p,_,(0),0,1,zB0 e,1,6];erw[0,1,0,6];apply ay ⋯ ?_;erw[0,1,0,6];apply aV rfl (dL ?_);erw[0,1,k]
 | @no p e=>
   erw[0,p,_,(0),0,1,zB0 e,1,6];erw[0,1,0,6];apply ay ⋯ ?_;erw[0,1,0,6];apply ay ⋯ ?_;erw[0,1,0,6];apply aV rfl ?_;erw[0,1,6];let e1:decide (V.str "no"=V.str "yes")=false:=by decide
   show Q (.bl (decide (V.str "no"=V.str "yes"))) H;rw[e1];exact k
 | @not p u r e T1=>
   let dp:r.depth+1<=n+1:=dn;erw[0,p,_,(0),0,1,zB0 e,1,6];erw[0,1,0,6];apply ay ⋯ ?_;erw[0,1,0,6];apply ay ⋯ ?_;erw[0,1,0,6];apply ay ⋯ ?_;erw[0,p,_,(1),0,1,zB0 e,1,0,0,u,r,a,b,ns,st,1,T1,ok,3,hN,hb,sl,6];erw[0,1,0,6];apply aV rfl ?_;erw[0,0,k]
 | @bin p o u u2 r r2 e T1 T2=>
   erw[ho,ok1,ok2]at ok;let dp:max r.depth r2.depth+1<=n+1:=dn;let ne:∀z:Str,z∉joinW->¬ V.str o=V.str z:=λz hz h=>hz (gG h▸ho)
   erw[0,p,_,(0),0,1,zB0 e,1,6];erw[0,1,0,6];apply ay (ne _ ⋯) ?_;erw[0,1,0,6];apply ay (ne _ ⋯) ?_;erw[0,1,0,6];apply ay (ne _ ⋯) ?_;erw[0,p,_,(1),0,1,zB0 e,1,0,0,u,r,a,b,ns,st,1,T1,ok1,3,hN,hb,sl,6];erw[0,1,0,6];apply ay (ne _ ⋯) ?_;erw[0,0,0,p,_,(2),0,1,zB0 e,1,0,0,u2,r2,a,b,ns,st,1,T2,ok2,3,hN,hb,sl,6];erw[o,_,0,k]
def wn:#[2,f,fd,WS,spHolds 0]:=by
 let no:∀vs H Q E,¬ spHolds 0 vs H Q E:=λvs H Q E h=>by
  erw[v,t,_,_,_,_,_,_,_,h1,_]at h
  have:=t.depth_pos
  omega
 exists 3
def mV(F:#["holds_at",iw])(m:mg "holds_at"=some (.ref f))(fJ:#[1,"joined",WY,spJoined]):
 ∀n:Nat,#[n+2,f,fd,WS,spHolds n]
 |0=>wn
 |n+1=>wo F fJ (Cal.of F (mV F m fJ n) m (λ_ _ _ _ _ _ us hl=>by let%[u0,u1,u2|1]:=ED hl;rfl))
def DQ(H:Hp)(v:V)(s:List Int):Prop:=∃a,v=.ref a/\H a=some (.tup (s.map V.int))
abbrev TupsAt(H:Hp):List V->List (List Int)->Prop:=PySem.Paired (DQ H)
def BW(H:Hp)(r:Addr)(ss:List (List Int)):Prop:=∃rs,H r=some (.lst rs)/\TupsAt H rs ss
def TupsAt.mono{H H':Hp}(k:∀a xs,H a=some (.tup xs)->H' a=some (.tup xs)):∀{rs:List V}{ss:List (List Int)},TupsAt H rs ss->TupsAt H' rs ss
 |_,_,.nil=>.nil
 |_,_,.cons ⟨a,e,h⟩ t=>.cons %[a,e|k _ _ h] (TupsAt.mono k t)
def TupsAt.get:∀{rs:List V}{ss:List (List Int)}{i:Nat}{v:V},TupsAt H rs ss->rs[i]?=some v->∃s,ss[i]?=some s/\DQ H v s
 |_,_,_,_,.nil,h=>by simp at h
 |_,_,0,_,.cons h _,e=>by
   simp at e
   subst e;erw[0,h]
 |_,_,i+1,v,.cons _ t,e=>by
   let%[s,h1|h2]:=TupsAt.get (i:=i) t #[e,0];erw[s,by simpa using h1,h2]
def yH{ys:List V}(s:SameBut b H H')(h:H b=some (.lst ys)∨H b=none):∀a xs,H a=some (.tup xs)->H' a=some (.tup xs):=λa xs e=>s a _ (λz=>by
 rw[z]at e;rcases h with h | h
 . rw[h]at e;cases e
 . rw[h]at e;cases e) e
def uL{K:W.Frag}{H1:Hp}{a p:Addr}{s:List Int}{z:Int}{Q:VK}(ha:H1 a=some (.tup (s.map V.int)))(hp:H1 p=some (.tup [.int z]))(hl:s.length<=100)
 (q:∀t H2,Same H1 H2->H2 t=some (.tup ((s++[z]).map V.int))->Q (.ref t) H2):rCatT K (.ref a) (.ref p) H1 Q∨rCatT0 K (.ref a) (.ref p) H1 Q:=by
 cases s with
 |nil=>exact .inr %[a,p,0,1,zB0 ha,zB0 hp|q p H1 (Same.refl _) hp]
 |cons x r=>
   refine .inl %[a,p,2,zB0 ha,zB0 hp,by simp,cg (by simp at hl ⊢;omega),(λz=>nomatch z)|(λ_ t ht=>q t _ (zC0 ht _) ?_)];rw[aO,zK0];rfl
instance spSetts:∀n:Int,vs=[.int n]->0<=n->n<=6->(∀(r:Addr)(H':Hp),H r=none->Same H H'->BW H' r (cQ n.toNat)->Q (.ref r) H'):=1
def cr:FnScope ["n","told","switch","longer","setting"] ["n"] (ag gr):=%[|5]
def nK(F:#["all_settings",gr])(hrange:mg "range"=none):#[1,f,fd,["n"],spSetts]:=by
 exists cr
 erw[n,1,n0,n6,q]at h;refine⟨_,(aa #[am,1,cr,cP %[aM aQ|aQ]]
  (aa (cK zG1 rfl (cu rfl hrange %[0|aQ]) (bg (i:=2) cr.nd rfl (.inl rfl)) (aa #[am,3,cr,cP aQ]
   (aa (cK zG1 rfl (fL (pv 1)) (bg (i:=4) cr.nd rfl (.inl rfl)) (aa (aS (cW zC1 zH1 zI1 bV (pv 3) %[au (op_catT.or kW) (pv 4) (aM %[ac|aQ])|aQ]))
    (ad (aS (cW zC1 zH1 zI1 bV (pv 3) %[au (op_catT.or kW) (pv 4) (aM %[ac|aQ])|aQ])))))
   (ad #[am,1,cr,pv 3]))))
  (ad (aq (pv 1))))),?_⟩
 erw[y0S,λp hp=>?_];erw[y1S,λa ha=>?_];let np:p≠a:=λz=>by
  subst z;rw[aO]at ha;cases ha
 let ha0:H a=none:=(zC0 hp _).free ha;refine⟨_,rfl,n,rfl,#[0],#[0],dU (λi σ H'=>∃(a:Addr)(x2 x3 x4:Option V),σ=[some (.int n),some (.ref a),x2,x3,x4]/\H a=none/\Same H H'/\BW H' a (cQ i))
  %[a,_,_,0,ha0,(zC0 hp _).trans (zC0 ha _),[.ref p],aO|.cons ⟨p,rfl,by rw[aD np,aO];rfl⟩ .nil] ?_ ?_⟩
 . rintro i σ H' hi ⟨a,x2,x3,x4,rfl,a0,s0,rs,hrs,T⟩;let i6:i<6:=#[0]
   let sl:=jq i;let s64:=lU (n:=i) #[0];erw[y0S,λb hb=>?_];let ab:a≠b:=aX hrs hb;refine⟨_,rfl,a,rfl,%[_|zG0 (by rw[aD ab];exact hrs)],je (K:=K) (xs:=rs) (λj σ H2=>∃(x4:Option V)(bs:List V),σ=[some (.int n),some (.ref a),some (.int (0+(i:Int))),some (.ref b),x4]/\SameBut b H' H2/\H2 b=some (.lst bs)/\TupsAt H2 bs (((cQ i).take j).flatMap λs=>[s++[0],s++[1]]))
    %[_,[],1,SameBut.upd _,aO|.nil] (λj σ H2 _ JE=>by erw[_,_,_,sb,_]at JE;exact zG0 (sb a _ ab hrs)) ?_ ?_⟩
   . rintro j y σ H2 hj ⟨x4,bs,rfl,sb,hbs,TB⟩;let T2:TupsAt H2 rs (cQ i):=T.mono (yH (ys:=[]) sb (.inr hb));let%[s,hs,t,1|ht]:=T2.get hj;let hsm:s∈cQ i:=qG0 hs;let hsl:=eT i s hsm;let hbl:=TB.length;rw[mi,qI0]at hbl;erw[0,.inl %[1,_|zG0 hbs],6];erw[0,y1S,λp1 hp1=>?_];let S1:Same H2 (upd H2 p1 (.tup [.int 0])):=zC0 hp1 _;apply uL (s:=s) (z:=0) (S1 _ _ ht) aO #[0] λt1 H3 S3 e3=>?_
     let S13:Same H2 H3:=S1.trans S3;erw[b,bs,0,1,S13 _ _ hbs,aN #[0],6];let K4:=eR (H:=H3) (b:=b) (ys:=bs) (zs:=bs++[.ref t1]) (S13 _ _ hbs);let e4:=K4 _ _ e3;let t4:=K4 _ _ (S13 _ _ ht);erw[0,.inl %[1,_|zG0 aO],6];erw[0,y1S,λp2 hp2=>?_];let S4:Same (upd H3 b (.lst (bs++[.ref t1]))) (upd (upd H3 b (.lst (bs++[.ref t1]))) p2 (.tup [.int 1])):=zC0 hp2 _;apply uL (s:=s) (z:=1) (S4 _ _ t4) aO #[0] λt2 H5 S5 e5=>?_
     let S45:=S4.trans S5;let hb5:H5 b=some (.lst (bs++[.ref t1])):=S45 _ _ aO;erw[b,bs++[.ref t1],0,1,hb5,aN (by rw[zL0,qN0];omega),6];let K6:=eR (H:=H5) (b:=b) (ys:=bs++[.ref t1]) (zs:=bs++[.ref t1]++[.ref t2]) hb5;erw[_,bs++[.ref t1]++[.ref t2],1,6,aO,6]
     . let q1:SameBut b H' H3:=sb.trans (zJ0 S13);let q2:SameBut b H' H5:=(q1.trans (SameBut.upd _)).trans (zJ0 S45);exact q2.trans (SameBut.upd _)
     . let hbase:TupsAt (upd H5 b (.lst (bs++[.ref t1]++[.ref t2]))) bs (((cQ i).take j).flatMap λs=>[s++[0],s++[1]]):=
        TB.mono λa xs e=>K6 _ _ (S45 _ _ (K4 _ _ (S13 _ _ e)))
       rw[qH0,hs,List.flatMap_append];let e:((some s).toList.flatMap λs:List Int=>[s++[0],s++[1]])=[s++[0]]++[s++[1]]:=by simp
       rw[e,←jN0];exact(hbase.snoc %[t1,1|K6 _ _ (S45 _ _ e4)]).snoc ⟨t2,rfl,K6 _ _ e5⟩
   . rintro σ H2 ⟨x4,bs,rfl,sb,hbs,TB⟩;let rl:=T.length;rw[rl,qF0]at TB;erw[0,b,_,_,0,s0.free hb,s0.but (s0.free hb) sb,bs,hbs,TB]
 . rintro σ H' ⟨a,x2,x3,x4,rfl,a0,s0,S⟩;erw[0,q a H' a0 s0 S]
def cnt(t:Tr)(ns:List Str):Nat:=((cQ ns.length).filter λst=>t.holds ns st).length
instance spCount:∀(v:V)(t:Tr)(a:Addr)(ns:List Str),vs=[v,.ref a]->TreeAt H v t->t.ok ns->t.depth<=12->NamesAt H a ns->ns.length<=6->(∀H',Same H H'->Q (.int (cnt t ns:Int)) H'):=1
def tN:FnScope ["tree","switches","holding"] Wj (ag kq):=%[|5]
def ug(F:#["count_of",kq])(hlen:mg "len"=none)(cF:#[1,"all_settings",["n"],spSetts])(eg:#[14,"holds_at",WS,spHolds 12]):#[15,f,fd,Wj,spCount]:=by
 exists tN
 erw[v,t,a,ns,1,T,ok,dp,hN,nl,q]at h;refine⟨_,(aa (so (i:=2) (N:=Wj) (ix:=[0,1]) tN.nd rfl (.inl rfl) rfl
  #[4] rfl
  (fL (ai cF hr ⋯ rfl %[aE aF rfl hlen zB1 %[1|aQ]|aQ]))
  (λ_ _ _=>pb_if (dJ (ai eg hr ⋯ rfl %[1,2,0|aQ])) (pv 0)))
  (ad (aq (aE aF rfl hlen zB1 %[2|aQ])))),?_⟩
 let en:((ns.map V.str).length:Int)=(ns.length:Int):=by rw[zF0]
 erw[0,a,0,hN.seq,0,3,3,λr H1 r0 S1 R1=>?_];rw[en]at R1;let e2:((ns.length:Int)).toNat=ns.length:=#[0]
 rw[e2]at R1;erw[rs,hrs,TS]at R1;let rl:=TS.length;let sl:=jq ns.length;let s64:=lU nl;erw[r,1,%[_|zG0 hrs],λD hD=>?_];apply hZ (K:=K) (xs:=rs) (λi H'=>∃ys,H' D=some (.lst ys)/\ys.length=(((cQ ns.length).take i).filter λst=>t.holds ns st).length/\Same H1 H') %[[],aO,1|zC0 hD _] (λi H' _ JE=>by erw[_,_,_,h]at JE;exact zG0 (h _ _ hrs)) ?_ ?_
 . rintro i x H2 hx ⟨ys,hl,yl,S2⟩;let hi:i<rs.length:=(qD0 hx).1;let TS2:=TS.mono (bd S2);let%[st,JE,b,1|hb]:=TS2.get hx;let stl:=eT _ _ (qG0 JE);let S02:=S1.trans S2;let tk:((cQ ns.length).take (i+1)).filter (λst=>t.holds ns st)=((cQ ns.length).take i).filter (λst=>t.holds ns st)++[st].filter (λst=>t.holds ns st):=by
    rw[qH0,JE,List.filter_append];rfl
   erw[0,0,0,v,t,a,b,ns,st,1,T.mono (bd S02),ok,dp,hN.same S02,hb,stl,0,6];cases c:t.holds ns st with
   |true=>
     apply dL ?_;erw[0,ys,hl,6,Nx.of hi %[_,aO,6|λb' o e=>?_]]
     . have:=List.length_filter_le (λst=>t.holds ns st) ((cQ ns.length).take i)
       rw[qI0]at this;exact aN #[0]
     . rw [tk,zL0,zL0,yl]
       simp [c]
     . rw[aD (aX e hD)];exact S2 _ _ e
   |false=>
     apply cV ?_;apply Nx.of hi %[ys,hl,6|S2];rw[tk,zL0,yl]
     simp [c]
 . rintro H2 ⟨ys,hl,yl,S2⟩;let e3:rs.length=(cQ ns.length).length:=rl;rw[e3,qF0]at yl;erw[0,D,0,.inl (zG0 hl),6];rw[yl];exact q H2 (S1.trans S2)
instance spCounts(C:Addr):∀(g a b d:Addr)(ns:List Str)(tv:List V)(ts:List Tr)(p:Int),vs=[.ref g]->GameAt C H g a b d p->H a=some (.tup (ns.map V.str))->ns.length<=6->H b=some (.tup tv)->TreesAt H tv ts->ts.length<=10->(∀t∈ts,t.ok ns/\t.depth<=12)->(∀(l:Addr)(H':Hp),H l=none->Same H H'->H' l=some (.lst ((ts.map λt=>(cnt t ns:Int)).map V.int))->Q (.ref l) H'):=1
def rH:FnScope WG WG (ag iU):=%[|5]
def sE(F:#["counts_of",iU])(T:GTxt K mg C)(kF:#[15,"count_of",Wj,spCount]):#[16,f,fd,WG,spCounts C]:=by
 exists rH
 erw[g,a,b,d,ns,tv,ts,p,1,%[dx|hg],ha,nl,hb,TS,t10,tok,q]at h;refine⟨_,(ad (aq (cb (N:=WG) (ix:=[0]) rfl
  #[3] rfl
  (fu (az (pv 0) rfl)) (λ_ _ _=>cD (ai kF hr ⋯ rfl %[0,jz K (pv 1)|aQ]))))),?_⟩
 let vl:=TS.length;erw[0,g,C,dx,_,0,hg,9,T.nT,jQ ..,b,1,%[_|zB0 hb],λD hD=>?_];apply dN (K:=K) (xs:=tv) (λi H'=>H' D=some (.lst (((ts.take i).map λt=>(cnt t ns:Int)).map V.int))/\Same H H') %[by rw[aO];rfl|zC0 hD _] (λi H' _ h=>zB0 (h.2 _ _ hb)) ?_ ?_
 . rintro i z H2 hz ⟨hl,S2⟩;let%[t,ht|Tt]:=TS.get hz;let%[tk|td]:=tok t (qG0 ht);let hi:i<tv.length:=(qD0 hz).1;erw[0,0,g,C,dx,_,0,S2 _ _ hg,9,T.nS,lm ..,z,t,a,ns,1,Tt.mono (bd S2),tk,td,.inr (S2 _ _ ha),nl,λH3 S3=>?_];erw[_,S3 _ _ hl,6,Nx.of hi %[6|λb' o' e'=>?_]]
   . rw[zF0,zF0,qI0];exact aN #[0]
   . rw[aO,qH0,ht,zK0,zK0];rfl
   . rw[aD (aX e' hD)];exact S3 _ _ (S2 _ _ e')
 . rintro H2 ⟨hl,S2⟩;rw[vl,qF0]at hl;exact q D H2 hD S2 hl
def xZ(s:Int):List Int->Int
 | []=>0
 |a::r=>a+s*xZ s r
def uz(s p:Int):∀ns,hor s p ns=xZ s ns % p
 | []=>(Int.zero_emod p).symm
 |a::r=>by
   show(hor s p r*s+a) % p=(a+s*xZ s r) % p;rw[uz s p r,wR1,jQ0,jU1,←jQ0,←wR1,jH1,Int.add_comm]
def oA:∀(n:Nat)(s:List Int),s∈cQ n->∀x∈s,x=0∨x=1
 |0,s,h,x,hx=>by
   have:s=[]:=by simpa [cQ]using h
   subst this;cases hx
 |n+1,s,h,x,hx=>by
   rw[cQ,List.mem_flatMap]at h;erw[t,ht,hs]at h
   simp at hs
   rcases hs with rfl | rfl
   . rcases qJ0 hx with h | h
     . exact oA n t ht x h
     . exact .inl (zP0 h)
   . rcases qJ0 hx with h | h
     . exact oA n t ht x h
     . exact .inr (zP0 h)
def xr{K:W.Frag}{H1:Hp}{a b:Addr}{xs ys:List Int}{Q:VK}(ha:H1 a=some (.tup (xs.map V.int)))(hb:H1 b=some (.tup (ys.map V.int)))(hl:xs.length+ys.length<=100)
 (q:∀t H2,Same H1 H2->H2 t=some (.tup ((xs++ys).map V.int))->Q (.ref t) H2):rCatT K (.ref a) (.ref b) H1 Q∨rCatT0 K (.ref a) (.ref b) H1 Q:=by
 cases xs with
 |nil=>exact .inr %[a,b,0,1,zB0 ha,zB0 hb|q b H1 (Same.refl _) hb]
 |cons x r=>
   refine .inl %[a,b,2,zB0 ha,zB0 hb,by simp,cg (by simp at hl ⊢;omega),(λz=>?_)|(λ_ t ht=>q t _ (zC0 ht _) ?_)]
   . cases ys with
     |nil=>
       apply q a H1 (Same.refl _) ?_;rw[qU1];exact ha
     |cons y r2=>exact nomatch z
   . rw[aO,zK0]
def Ae(ns:List Str)(ts:List Tr)(s p:Int)(pt:List Int):Int:=((cQ (ns.length-pt.length)).map λst=>xZ s (ts.map λt=>t.worth ns (pt++st) p)).sum % p
def wI{α:Type}(p:Int)(f:α->Int):∀l:List α,(l.map λx=>f x % p).sum % p=(l.map f).sum % p
 | []=>rfl
 |a::r=>by
   rw[zZ0,zZ0,qI1,qI1,wR1,jU1,wI p f r,←wR1]
def wH{α:Type}{p:Int}(hp:0<p)(f:α->Int)(h:∀x,0<=f x/\f x<p):∀l:List α,0<=(l.map f).sum/\(l.map f).sum<=p*l.length
 | []=>%[qB1 0|by simp]
 |a::r=>by
   let h1:=h a;let h2:=wH hp f h r;rw[zZ0,qI1,zU0];erw[3,6]
   have:p*((r.length+1:Nat):Int)=p*(r.length:Int)+p:=by
    rw[wB0,Int.mul_add]
    simp
   omega
def tP(h:cy a p)(h2:cy b p):cy (a++b) p:=λx hx=>by
 rcases qJ0 hx with e | e
 . exact h x e
 . exact h2 x e
def pt01{b:List Int}(h:cy a p)(p1:1<p)(h2:∀x∈b,x=0∨x=1):cy (a++b) p:=tP h λx hx=>by rcases h2 x hx with e | e <;> omega
def wT{X:Cx}(K:W.Frag)(hK:X.K=K:=by rfl):OpR X (binaryOp .Add) (λx y H Q=>rCatT K x y H Q∨rCatT0 K x y H Q):=by subst hK;exact op_catT.or kW
def BL{ts:List Tr}(h0:ts≠[]):0<=bO ts x:=by
 have:=iZ (ns:=ts.map λt=>(t.names.count x:Int)) #[h0,0]
 let%[t,ht|e]:=List.mem_map.mp this;unfold bO;rw[←e];exact Int.natCast_nonneg _
def nu(ns:List Str)(ts:List Tr)(s p:Int)(cs:List Int)(n:Nat):List Int:=(List.range n).map λk:Nat=>Ae ns ts s p (cs++[(k:Int)])
def Ed{d:Int}{i:Nat}(hi:i<(d+1).toNat)(h:d<=500):((nu ns ts s p cs i).map V.int).length<sizeLine:=by
 unfold nu;rw[zF0,zF0,qT0];exact aN #[0]
def ptI{d:Int}{i:Nat}(h:cy a p)(hi:i<(d+1).toNat)(hd:d<p):cy (a++[(i:Int)]) p:=tP h λx hx=>by
 rw[zP0 hx];omega
def cat1{n k:Nat}(h:n<k)(h6:k<=6):n+([(0:Int)]:List Int).length<=100/\n+1<=k:=by
 rw[qN0];omega
def s64{n k:Nat}(h6:n<=6):(cQ (n-(k+1))).length<=64:=by
 let s64:=jq (n-(k+1));let p64:=lU (n:=n-(k+1)) #[0];omega
def Ec{α:Type}{f:α->Int}{l:List α}{j:Nat}(h:l.length<=64):(((l.take j).map f).map V.int).length<sizeLine:=by
 rw[zF0,zF0,qI0];exact aN #[0]
def sum63{p x:Int}{n:Nat}(p0:0<p)(p40:p<2 ^ 40)(h:n<=64)(hx:x<=p*(n:Int)):x<2 ^ 63:=by
 have:p*(n:Int)<=p*64:=qW0 #[0] #[0]
 omega
instance spTrue(C:Addr):∀(g a b d c:Addr)(ns:List Str)(tv:List V)(ts:List Tr)(cs:List Int)(x:Str)(s p:Int),vs=[.ref g,.int s,.ref c]->GameAt C H g a b d p->H a=some (.tup (ns.map V.str))->ns.length<=6->H b=some (.tup tv)->TreesAt H tv ts->ts≠[]->ts.length<=10->(∀t∈ts,t.ok ns/\t.depth<=10)->H d=some (.lst ((ns.map (bO ts)).map V.int))->H c=some (.tup (cs.map V.int))->ns[cs.length]?=some x->bO ts x<p->bO ts x<=500->cy cs p->1<p->p<2 ^ 40->(∀(l:Addr)(H':Hp),H l=none->Same H H'->H' l=some (.lst ((nu ns ts s p cs (bO ts x+1).toNat).map V.int))->Q (.ref l) H'):=1
def c8:FnScope ["game","s","coins","ahead","switch","behind","row","x","worths"] ["game","s","coins"] (ag kf):=%[|5]
def tY(F:#["true_row",kf])(B:Bl mg)(T:GTxt K mg C)(mW:Meth K C "worth_at" fW)(GW:#[13,fW,fdW,WL,spWAt C])(bW:Binds K fdW WL [])(cF:#[1,"all_settings",["n"],spSetts]):#[14,f,fd,["game","s","coins"],spTrue C]:=by
 exists c8
 erw[g,a,b,d,c,ns,tv,ts,cs,x,s,p,1,%[dx|hg],ha,nl,hb,TS,tne,t10,tok,hd,hc,hx,dp,d500,po,p1,p40,q]at h;refine⟨_,(aa (am (i:=3) c8.nd rfl (Or.inr rfl) (bv bb rfl B.tuple bp %[2|aQ]))
  (aa #[am,4,c8,aE aF rfl B.len zB1 %[3|aQ]]
  (aa #[am,5,c8,ai cF hr ⋯ rfl %[au bc (au bc (aE aF rfl B.len zB1 %[az (pv 0) rfl|aQ]) (pv 4)) ac|aQ]]
  (aa #[am,6,c8,cP aQ]
  (aa (cK zG1 rfl (cu rfl B.range %[au aR (aJ ix_list (az (pv 0) rfl) (pv 4) #[1]) ac|aQ]) (bg (i:=7) c8.nd rfl (Or.inr rfl)) (aa (so (i:=8) (N:=["x","s","game","ahead"]) (ix:=[7,1,0,3]) c8.nd rfl (.inl rfl) rfl
   (CompScope.four (by rfl') ⋯ rfl ⋯ rfl ⋯ rfl (by rfl') (by rfl') (by rfl') (by rfl') (by rfl') (by rfl') rfl rfl (by rfl') rfl rfl (by rfl') rfl rfl (by rfl') rfl rfl) rfl
   (fL (pv 5)) (λ_ _ _=>cD (bJ (pv 3) T.cl mW GW hr bW .nil bh %[au (wT K) (au (wT K) (pv 4) (aM %[1|aQ])) (pv 0),2|aQ])))
   (ad (aS (cW zC1 zH1 zI1 bV (pv 6) %[au aY (aE (pY rfl) rfl B.sum jR1 %[8|aQ]) (az (pv 0) rfl)|aQ])))))
  (ad (aq (pv 6)))))))),?_⟩
 let kl:cs.length<ns.length:=(qD0 hx).1;let d0:=BL (x:=x) tne;let p0:0<p:=Int.lt_trans Int.zero_lt_one p1;erw[0,c,0,.inr %[zB0 hc|6]];let G1:Same H H:=λ_ _ e=>e
 let hah1:=hc;erw[0,c,0,.inr (zB0 hah1),6];erw[0,g,C,dx,_,0,G1 _ _ hg,9,T.nS,lm ..,a,0,.inr (zB0 (G1 _ _ ha)),0,2,2,0,by rw[zF0,zF0];omega,by rw[zF0,zF0];omega,λr H2 r0 S2 R2=>?_];let en:((((ns.map V.str).length:Nat):Int)-(((cs.map V.int).length:Nat):Int)-1).toNat=ns.length-(cs.length+1):=by rw[zF0,zF0];omega
 rw[en]at R2;erw[rs,hrs,TB]at R2;let rl:=TB.length;erw[y0S,λL hL=>?_];let S02:=G1.trans S2;let GL:=zC0 hL (.lst []);let S03:=S02.trans GL;let L0:H L=none:=S02.free hL;let e1:(((cs.map V.int).length:Nat):Int)=(cs.length:Int):=by rw[zF0]
 erw[0,g,C,dx,_,0,S03 _ _ hg,9,T.nD,Bs ..,0,d,_,_,.int (bO ts x),1,1,zG0 (S03 _ _ hd),6,2,0,3,3,dU (λi σ H'=>∃x7 x8:Option V,σ=[some (.ref g),some (.int s),some (.ref c),some (.ref c),some (.int (((cs.map V.int).length:Nat):Int)),some (.ref r),some (.ref L),x7,x8]/\H' L=some (.lst ((nu ns ts s p cs i).map V.int))/\SameBut L H2 H') %[_,0,by rw[aO];rfl|SameBut.upd _] ?_ ?_]
 . rw[e1];apply bw ?_;rw[zX0,zX0,hx];rfl
 . rintro i σ H4 hi ⟨x7,x8,rfl,hL4,S4⟩;let gL:g≠L:=aX (S02 _ _ hg) hL;let rL:r≠L:=aX hrs hL;let kT:bN H2 H4:=λc xs h=>S4 c _ (aX h hL) h
   let hg4:=S4 g _ gL (S02 _ _ hg);let hrs4:=S4 r _ rL hrs;let ha4:=kT _ _ (S02 _ _ ha);let hb4:=kT _ _ (S02 _ _ hb);let hah4:=kT _ _ (S2 _ _ hah1);let TS4:=(TS.mono (bd S02)).mono kT;let TB4:=TB.mono kT;erw[0,r,1,%[_|zG0 hrs4],λD hD=>?_];apply hZ (K:=K) (xs:=rs) (λj H'=>H' D=some (.lst ((((cQ (ns.length-(cs.length+1))).take j).map λst=>hor s p (ts.map λt=>t.worth ns (cs++[(i:Int)]++st) p)).map V.int))/\Same H4 H') %[by rw[aO];rfl|zC0 hD _] (λj H' _ h=>zG0 (h.2 _ _ hrs4)) ?_ ?_
   . rintro j z H5 hz ⟨hD5,S5⟩;let%[st,JE,y,1|hy]:=(TB4.mono (bd S5)).get hz;let stm:=qG0 JE;let stl:=eT _ _ stm;let s01:=oA _ _ stm;let hj:j<rs.length:=(qD0 hz).1;let po2:cy (cs++[(i:Int)]++st) p:=pt01 (ptI po hi dp) p1 s01;let pl2:(cs++[(i:Int)]++st).length=ns.length:=by rw[zL0,zL0,qN0];omega
     erw[0,g,dx,0,S5 _ _ hg4,qT _ _ _ _ ⋯ ⋯ ⋯ ⋯,6];erw[0,0,y1S,λu hu=>?_];let Gu:=zC0 hu (.tup [.int (0+(i:Int))]);let hu6:upd H5 u (.tup [.int (0+(i:Int))]) u=some (.tup ([(i:Int)].map V.int)):=by rw[aO,jI1];rfl
     generalize upd H5 u (.tup [.int (0+(i:Int))])=H6 at Gu hu6;apply xr (Gu _ _ (S5 _ _ hah4)) hu6 (cat1 kl nl).1 λt1 H7 S7 h7=>?_
     erw[0,6];let S57:=Gu.trans S7;apply xr h7 (S57 _ _ hy) (by rw[zL0,qN0];omega) λt2 H8 S8 h8=>?_
     let S48:=S5.trans (S57.trans S8);erw[0,g,a,b,d,t2,ns,tv,ts,_,s,p,1,%[dx|S48 _ _ hg4],p1,p40,S48 _ _ ha4,S48 _ _ hb4,TS4.mono (bd S48),t10,tok,h8,pl2,po2,λH9 S9=>?_];erw[_,S9 _ _ ((S57.trans S8) _ _ hD5),6,Nx.of hj %[6|λb' o' e'=>?_]]
     . exact Ec (s64 nl)
     . rw[aO,qH0,JE,zK0,zK0];rfl
     . rw[aD (aX e' hD)];exact S9 _ _ (S48 _ _ e')
   rintro H5 ⟨hD5,S5⟩;rw[rl,qF0]at hD5;let hor_r:=λst:List Int=>nZ (s:=s) (p:=p) p0 (ts.map λt=>t.worth ns (cs++[(i:Int)]++st) p)
   let sr:=wH (p:=p) p0 (λst:List Int=>hor s p (ts.map λt=>t.worth ns (cs++[(i:Int)]++st) p)) hor_r (cQ (ns.length-(cs.length+1)));let hL5:=S5 _ _ hL4;erw[0,.inl %[1,_|zG0 hL5],0,D,0,zG0 hD5,6,6,6]
   . intro n hn;let%[st,_|1]:=List.mem_map.mp hn;exact(hor_r st).1
   . exact sum63 p0 p40 (s64 nl) sr.2
   erw[0,g,C,dx,_,0,S5 _ _ hg4,9,T.nF,gN ..,2,p0,L,2,hL5,6,6]
   . exact Ed hi d500
   . erw[_,0,6,λc o hc e=>?_]
     . rw [aO];unfold nu;rw[jC0,zK0,zK0];let e2:((cQ (ns.length-(cs.length+1))).map λst=>hor s p (ts.map λt=>t.worth ns (cs++[(i:Int)]++st) p)).sum % p=Ae ns ts s p (cs++[(i:Int)]):=by
        unfold Ae;rw[zL0,qN0,show(λst:List Int=>hor s p (ts.map λt=>t.worth ns (cs++[(i:Int)]++st) p))=λst=>xZ s (ts.map λt=>t.worth ns (cs++[(i:Int)]++st) p) % p from funext λst=>uz _ _ _];exact wI p (λst:List Int=>xZ s (ts.map λt=>t.worth ns (cs++[(i:Int)]++st) p)) _
       show some (HO.lst (_++[V.int (((cQ (ns.length-(cs.length+1))).map λst=>hor s p (ts.map λt=>t.worth ns (cs++[(i:Int)]++st) p)).sum % p)]))=_;rw[e2];rfl
     . rw[aD hc];exact S5 _ _ (S4 c o hc e)
 . rintro σ H4 ⟨x7,x8,rfl,hL4,S4⟩;erw[0,q L H4 L0 (S02.but L0 S4) hL4]
def neS{a b:Str}(h:¬ a=b):¬ V.str a=V.str b:=λz=>h (V.str.inj z)
open Classical in
def EK(p a:Int):Int:=if h:∃g:Int,0<g/\g<p/\g*a % p=1 then h.choose else 0
def Bo{p a g k:Int}(g0:0<g)(g1:g<p)(hg:g*a % p=1)(k0:0<k)(k1:k<p)(hk:k*a % p=1):g=k:=by
 let e1:g*(k*a) % p=g:=by
  rw[jQ0,hk,wL0,jU1,qV0 #[0] g1]
 let e2:k*(g*a) % p=k:=by
  rw[jQ0,hg,wL0,jU1,qV0 #[0] k1]
 let e3:g*(k*a) % p=k*(g*a) % p:=by rw[Int.mul_left_comm]
 exact e1.symm.trans (e3.trans e2)
def Dk{p a g:Int}(g0:0<g)(g1:g<p)(hg:g*a % p=1):EK p a=g:=by
 let h:∃g:Int,0<g/\g<p/\g*a % p=1:=%[g,g0,g1|hg]
 unfold EK;rw[dif_pos h];erw[k0,k1,hk]at h.choose_spec;exact Bo k0 k1 hk g0 g1 hg
def wy(p x y:Int):Int:=if y=0 then 0 else x*EK p y % p
def opV(p:Int)(s:Str)(x y:Int):Int:=
 if s="+" then(x+y) % p else if s="-" then(x-y) % p else if s="*" then x*y % p else if s="/" then wy p x y else if s="=" then(if x=y then 1 else 0)else if x<y then 1 else 0
def BK{p:Int}(hp:0<p):0<=wy p x y/\wy p x y<p:=by
 unfold wy
 split
 . omega
 . erw[qC0 _ #[0],qE0 _ hp]
def CL{p:Int}(hp:1<p):0<=opV p s x y/\opV p s x y<p:=by
 let m:∀z:Int,0<=z % p/\z % p<p:=λz=>%[qC0 _ #[0]|qE0 _ #[0]]
 unfold opV
 split
 . exact m _
 . split
   . exact m _
   . split
     . exact m _
     . split
       . exact BK #[0]
       . split <;> split <;> omega
instance spDiv:∀(x y p:Int),vs=[.int x,.int y,.int p]->Pr p->p<=999983->0<=x->x<p->0<=y->y<p->Q (.int (wy p x y)) H:=1
def vo:FnScope Wk Wk (ag lO):=%[|5]
def vQ(F:#["divided",lO])(c9:#[1,"inverse_of",["a","p"],spInv]):#[2,f,fd,Wk,spDiv]:=by
 exists vo
 erw[x,y,p,1,pp,p9,x0,x1,y0,y1,q]at h;refine⟨_,(aa (aG (af aP (pv 1) ac (ao _)) (ad (aq ac)) ax)
  (ad (aq (au aY (au cq (pv 0) (ai c9 hr ⋯ rfl %[1,2|aQ])) (pv 2))))),?_⟩
 unfold wy at q;erw[0,1,0,6]
 by_cases c:y=0
 . rw[JB c]at q;exact aV (congrArg V.int c) q
 . rw[Jy c]at q;apply ay (λz=>c (V.int.inj z)) ?_;erw[0,0,0,y,p,1,pp,p9,3,y1,λg g0 g1 hg=>?_];rw[Dk g0 g1 hg]at q;erw[2,.inl %[3|3],0,2,(by show 0<p;omega),q]
def signW:List Str:=["+","-","*","/","=","<"]
instance spOp:∀(s:Str)(x y p:Int),vs=[.str s,.int x,.int y,.int p]->s∈signW->Pr p->p<=999983->0<=x->x<p->0<=y->y<p->Q (.int (opV p s x y)) H:=1
def tM:FnScope WZ WZ (ag kj):=%[|5]
def opV_1:opV p "+" x y=(x+y) % p:=JB rfl
def opV_2:opV p "-" x y=(x-y) % p:=by unfold opV;rw[Jy ⋯,JB rfl]
def opV_3:opV p "*" x y=x*y % p:=by unfold opV;rw[Jy ⋯,Jy ⋯,JB rfl]
def opV_4:opV p "/" x y=wy p x y:=by unfold opV;rw[Jy ⋯,Jy ⋯,Jy ⋯,JB rfl]
def opV_5:opV p "=" x y=if x=y then 1 else 0:=by unfold opV;rw[Jy ⋯,Jy ⋯,Jy ⋯,Jy ⋯,JB rfl]
def opV_6:opV p "<" x y=if x<y then 1 else 0:=by unfold opV;rw[Jy ⋯,Jy ⋯,Jy ⋯,Jy ⋯,Jy ⋯]
def uc(F:#["op_value",kj])(m5:#[2,"divided",Wk,spDiv]):#[3,f,fd,WZ,spOp]:=by
 exists tM
 erw[s,x,y,p,1,hs,pp,p9,x0,x1,y0,y1,q]at h;let p0:0<p:=#[0]
 refine⟨_,(aa (aG (af aP (pv 0) aB (ao _)) (ad (aq (au aY (au aR (pv 1) (pv 2)) (pv 3)))) ax)
  (aa (aG (af aP (pv 0) aB (ao _)) (ad (aq (au aY (au bc (pv 1) (pv 2)) (pv 3)))) ax)
  (aa (aG (af aP (pv 0) aB (ao _)) (ad (aq (au aY (au cq (pv 1) (pv 2)) (pv 3)))) ax)
  (aa (aG (af aP (pv 0) aB (ao _)) (ad (aq (ai m5 hr ⋯ rfl %[1,2,3|aQ]))) ax)
  (aa (aG (af aP (pv 0) aB (ao _)) (ad (aq (pz (af aP (pv 1) (pv 2) (ao _)) ac ac))) ax)
  (ad (aq (pz (af du (pv 1) (pv 2) (ao _)) ac ac)))))))),?_⟩
 let hs':s="+"∨s="-"∨s="*"∨s="/"∨s="="∨s="<":=by simpa [signW]using hs
 rcases hs' with rfl | rfl | rfl | rfl | rfl | rfl
 . rw[opV_1]at q;erw[0,1,0,aV rfl ?_];erw[0,0,2,0,2,p0,q]
 . rw[opV_2]at q;erw[0,1,0,7];erw[0,1,0,aV rfl ?_];erw[0,0,2,0,2,p0,q]
 . rw[opV_3]at q;erw[0,1,0,7];erw[0,1,0,7];erw[0,1,0,aV rfl ?_];erw[0,0,2,.inl %[3|3],0,2,p0,q]
 . rw[opV_4]at q;erw[0,1,0,7];erw[0,1,0,7];erw[0,1,0,7];erw[0,1,0,aV rfl ?_];erw[0,0,0,x,y,p,1,pp,p9,x0,x1,y0,y1,q]
 . rw [opV_5]at q;erw[0,1,0,7];erw[0,1,0,7];erw[0,1,0,7];erw[0,1,0,7];erw[0,1,0,aV rfl ?_];erw[0,0,1,0,6]
   by_cases c:x=y
   . rw[JB c]at q;exact aV (congrArg V.int c) q
   . rw[Jy c]at q;exact ay (λz=>c (V.int.inj z)) q
 . rw [opV_6]at q;erw[0,1,0,7];erw[0,1,0,7];erw[0,1,0,7];erw[0,1,0,7];erw[0,1,0,7];erw[0,0,2,0,6]
   by_cases c:x<y
   . rw[JB c]at q;exact aV c q
   . rw[Jy c]at q;exact ay c q
def dO{t':TS}(h:PSs X ss t)(hw:∀D σ H,t' D σ H->t D σ H):PSs X ss t':=λJx s σ H D I k=>h Jx s σ H D I (hw _ _ _ k)
inductive Tm where
 |num (n:Int) | box (x:Str) | plain (w:Str) | ask (w:Str) (a:Tm) | op (s:Str) (a b:Tm)
def Tm.size:Tm->Nat
 |.num _=>1 | .box _=>1 | .plain _=>1 | .ask _ a=>a.size+1 | .op _ a b=>a.size+b.size+1
def Tm.depth:Tm->Nat
 |.num _=>1 | .box _=>1 | .plain _=>1 | .ask _ a=>a.depth+1 | .op _ a b=>max a.depth b.depth+1
def Tm.depth_pos:∀t:Tm,1<=t.depth
 |.num _=>zH0 _ | .box _=>zH0 _ | .plain _=>zH0 _ | .ask _ a=>jA1 .. | .op _ a b=>jA1 ..
def Tm.size_pos:∀t:Tm,1<=t.size
 |.num _=>zH0 _ | .box _=>zH0 _ | .plain _=>zH0 _ | .ask _ a=>jA1 .. | .op _ a b=>jA1 ..
def plainW:List Str:=["round","due","asked"]
def askW:List Str:=["coin","true"]
inductive TmAt(H:Hp):V->Tm->Prop
 |num {a:Addr} {n:Int}:H a=some (.tup [.str "num",.int n])->TmAt H (.ref a) (.num n)
 |box {a:Addr} {x:Str}:H a=some (.tup [.str "box",.str x])->TmAt H (.ref a) (.box x)
 |plain {a:Addr} {w:Str}:H a=some (.tup [.str w])->TmAt H (.ref a) (.plain w)
 |ask {a:Addr} {w:Str} {v:V} {t:Tm}:H a=some (.tup [.str w,v])->TmAt H v t->TmAt H (.ref a) (.ask w t)
 |op {a:Addr} {s:Str} {v u:V} {t r:Tm}:H a=some (.tup [.str "op",.str s,v,u])->TmAt H v t->TmAt H u r->TmAt H (.ref a) (.op s t r)
def TmAt.mono(k:bN H H')(h:TmAt H v t):TmAt H' v t:=by
 induction h with
 |num e=>exact .num (k _ _ e)
 |box e=>exact .box (k _ _ e)
 |plain e=>exact .plain (k _ _ e)
 |ask e _ ih=>exact .ask (k _ _ e) ih
 |op e _ _ i1 i2=>exact .op (k _ _ e) i1 i2
inductive Hr where
 |fin | go (n:Int) | iff (t:Tm) (n:Int) | set (x:Str) (t:Tm) | say (t:Tm)
inductive HrAt(H:Hp):V->Hr->Prop
 |fin {a:Addr}:H a=some (.tup [.str "end"])->HrAt H (.ref a) .fin
 |go {a:Addr} {n:Int}:H a=some (.tup [.str "go",.int n])->HrAt H (.ref a) (.go n)
 |iff {a:Addr} {v:V} {t:Tm} {n:Int}:H a=some (.tup [.str "if",v,.int n])->TmAt H v t->HrAt H (.ref a) (.iff t n)
 |set {a:Addr} {x:Str} {v:V} {t:Tm}:H a=some (.tup [.str "set",.str x,v])->TmAt H v t->HrAt H (.ref a) (.set x t)
 |say {a:Addr} {v:V} {t:Tm}:H a=some (.tup [.str "say",v])->TmAt H v t->HrAt H (.ref a) (.say t)
def HrAt.mono(k:bN H H')(h:HrAt H v r):HrAt H' v r:=by
 cases h with
 |fin e=>exact .fin (k _ _ e)
 |go e=>exact .go (k _ _ e)
 |iff e t=>exact .iff (k _ _ e) (t.mono k)
 |set e t=>exact .set (k _ _ e) (t.mono k)
 |say e t=>exact .say (k _ _ e) (t.mono k)
section
variable {CM CA CG:Addr}
abbrev rY:Stmt:=bn iW 0
abbrev oV:Stmt:=bn iW 1
abbrev rZ:Stmt:=bn iW 2
abbrev lQ:Stmt:=bn iW 3
abbrev rX:Stmt:=bn iW 4
abbrev rQ:Stmt:=bn lH 0
abbrev vv:Stmt:=bn lH 1
abbrev vx:Stmt:=bn lH 2
def al(g:Addr)(nr mn hd s:Int)(aT:Addr)(tr:V):List (Str×V):=[("game",.ref g),("number",.int nr),("many",.int mn),("held",.int hd),("s",.int s),("tossed",.ref aT),("truths",tr)]
def tt:(al g nr mn hd s aT tr).lookup ("game":Str)=some (.ref g):=by rfl'
structure ATxt(K:W.Frag)(mg:#[9])(C:Addr):Prop where
 cl:Cls K C
 nG:NoAttr K C "game"
 nN:NoAttr K C "number"
 nM:NoAttr K C "many"
 nH:NoAttr K C "held"
 nS:NoAttr K C "s"
 nT:NoAttr K C "tossed"
 nR:NoAttr K C "truths"
 mgC:mg "Asking"=some (.ref C)
def ml(g h:Addr)(r:Int)(b:Addr):List (Str×V):=[("game",.ref g),("helper",.ref h),("next_round",.int r),("boxes",.ref b)]
section
variable {g h b:Addr}{r:Int}
def ml_g:(ml g h r b).lookup ("game":Str)=some (.ref g):=by rfl'
def EA:(ml g h r b).lookup ("helper":Str)=some (.ref h):=by rfl'
def ml_r:(ml g h r b).lookup ("next_round":Str)=some (.int r):=by rfl'
def Dd:(ml g h r b).lookup ("boxes":Str)=some (.ref b):=by rfl'
def ml_n1:(ml g h r b).lookup ("do_row":Str)=none:=by rfl'
def ml_n2:(ml g h r b).lookup ("say":Str)=none:=by rfl'
def Ez:(ml g h r b).length<1000:=by show 4<1000;decide
def Ey{v:Int}:bq "next_round" (.int v) (ml g h r b)=ml g h v b:=by rfl'
end
structure MTxt(K:W.Frag)(mg:#[9])(C:Addr):Prop where
 cl:Cls K C
 nG:NoAttr K C "game"
 nH:NoAttr K C "helper"
 nR:NoAttr K C "next_round"
 nB:NoAttr K C "boxes"
 mgC:mg "Machine"=some (.ref C)
def BxAt(H:Hp)(b:Addr)(bx:Str->Int)(m:Nat):Prop:=∃JA:List (Key×V),H b=some (.dK JA)/\JA.length<=m/\∀x:Str,(fZ JA (.inr x)).getD (.int 0)=.int (bx x)
def uM(bx:Str->Int)(x:Str)(n:Int):Str->Int:=λy=>if y=x then n else bx y
def BxAt.keep{H':Hp}(h:BxAt H b bx m)(k:∀o,H b=some o->H' b=some o):BxAt H' b bx m:=by
 erw[JA,e,r]at h;erw[JA,k _ e,r]
def Fh{JA:List (Key×V)}{bx:Str->Int}(x:Str)(n:Int)(h:∀x:Str,(fZ JA (.inr x)).getD (.int 0)=.int (bx x)):∀y:Str,(fZ (kO JA (.inr x) (.int n)) (.inr y)).getD (.int 0)=.int (uM bx x n y):=λy=>by
 rw[zq];unfold uM
 by_cases c:y=x
 . rw[JB (by rw[c]),JB c];rfl
 . rw[Jy (λz=>c (Sum.inr.inj z)),Jy c];exact h y
section
variable {g aT:Addr}{nr mn hd s:Int}{tr:V}
def Fm:(al g nr mn hd s aT tr).lookup ("number":Str)=some (.int nr):=by rfl'
def al_m:(al g nr mn hd s aT tr).lookup ("many":Str)=some (.int mn):=by rfl'
def al_h:(al g nr mn hd s aT tr).lookup ("held":Str)=some (.int hd):=by rfl'
def al_s:(al g nr mn hd s aT tr).lookup ("s":Str)=some (.int s):=by rfl'
def al_t:(al g nr mn hd s aT tr).lookup ("tossed":Str)=some (.ref aT):=by rfl'
def Du:(al g nr mn hd s aT tr).lookup ("truths":Str)=some tr:=by rfl'
def al_n1:(al g nr mn hd s aT tr).lookup ("plain_value":Str)=none:=by rfl'
def al_n2:(al g nr mn hd s aT tr).lookup ("coin_at":Str)=none:=by rfl'
def al_n3:(al g nr mn hd s aT tr).lookup ("true_numbers":Str)=none:=by rfl'
def al_n4:(al g nr mn hd s aT tr).lookup ("true_at":Str)=none:=by rfl'
def BU:bq "truths" v (al g nr mn hd s aT tr)=al g nr mn hd s aT v:=by rfl'
def BV:(al g nr mn hd s aT tr).length<1000:=by show 7<1000;decide
end
structure Ak where
 ns:List Str
 ts:List Tr
 p:Int
 nr:Int
 mn:Int
 hd:Int
 s:Int
 to:List Int
def Ak.tru(z:Ak):List Int:=if z.nr=0 then z.ts.map (λt=>(cnt t z.ns:Int))else nu z.ns z.ts z.s z.p z.to (bO z.ts (z.ns.getD z.to.length "")+1).toNat
structure AkOk(z:Ak):Prop where
 gk:GmK z.ns z.ts z.p
 n6:z.ns.length<=6
 nr0:0<=z.nr
 nrt:0<z.nr->z.to.length<z.ns.length
 po:cy z.to z.p
 s0:0<=z.s
 s1:z.s<z.p
 h0:0<=z.hd
 h1:z.hd<z.p
 tl:z.to.length<=100
def AkAt(CA CG:Addr)(H:Hp)(k g v:Addr)(z:Ak):Prop:=∃(dk aT a b d:Addr)(tv:List V)(tr:V),H k=some (.ins CA dk (al g z.nr z.mn z.hd z.s aT tr))/\GameAt CG H g a b d z.p/\H a=some (.tup (z.ns.map V.str))/\H b=some (.tup tv)/\TreesAt H tv z.ts/\H d=some (.lst ((z.ns.map (bO z.ts)).map V.int))/\d≠v/\H aT=some (.tup (z.to.map V.int))/\(tr=.non∨∃l,tr=.ref l/\l≠v/\H l=some (.lst (z.tru.map V.int)))
def AkAt.same(h:AkAt CA CG H k g v z)(s:Same H H'):AkAt CA CG H' k g v z:=by
 erw[dk,aT,a,b,d,tv,tr,h1,h2,h3,h4,h5,h6,h7,h8,h9]at h;erw[dk,aT,a,b,d,tv,tr,s _ _ h1,h2.same s,s _ _ h3,s _ _ h4,h5.mono (bd s),s _ _ h6,h7,s _ _ h8,h9.imp_right fun⟨l,e,n,r⟩=>%[l,e,n|s _ _ r]]
def AkAt.but2{H':Hp}{b:Addr}{JA:List (Key×V)}{ys:List V}(h:AkAt CA CG H k g v z)(hb:H b=some (.dK JA))(hv:H v=some (.lst ys))(s:∀a o,a≠b->a≠v->H a=some o->H' a=some o):AkAt CA CG H' k g v z:=by
 erw[dk,aT,a,b',d,tv,tr,h1,%[dg|h2],h3,h4,h5,h6,h7,h8,h9]at h;let T:bN H H':=λc xs e=>s _ _ (bi e hb nofun) (bi e hv nofun) e
 erw[dk,aT,a,b',d,tv,tr,s _ _ (bi h1 hb nofun) (bi h1 hv nofun) h1,%[dg|s _ _ (bi h2 hb nofun) (bi h2 hv nofun) h2],T _ _ h3,T _ _ h4,h5.mono T,s _ _ (bi h6 hb nofun) h7 h6,h7,T _ _ h8,h9.imp_right fun⟨l,e,n,r⟩=>%[l,e,n|s _ _ (bi r hb nofun) n r]]
def jR(z:Ak):List Int:=if 1<z.ts.length then z.s::z.to else z.to
def jS(z:Ak)(i:Int):Int:=if 1<=i/\i<=((jR z).length:Int)then(jR z).getD (i-1).toNat 0 else 0
def kz(z:Ak)(i:Int):Int:=if 0<z.nr then val z.p z.tru i else if i<(z.tru.length:Int)then z.tru.getD i.toNat 0 % z.p else 0
def lV(z:Ak)(w:Str):Int:=if w="round" then z.nr % z.p else if w="asked" then z.mn % z.p else z.hd
def AkOk.p0(k:AkOk z):2<z.p:=k.gk.p2
def lp(h:cy xs p)(p0:0<p)(i:Nat):0<=xs.getD i 0/\xs.getD i 0<p:=by
 rw[qQ0];cases e:xs[i]? with
 |none=>erw[qB1 0,p0]
 |some x=>exact h x (qG0 e)
def BQ(k:AkOk z):cy (jR z) z.p:=by
 unfold jR
 split
 . intro x hx;rcases zV0 hx with rfl | hx
   . erw[k.s0,k.s1]
   . exact k.po x hx
 . exact k.po
def ze(k:AkOk z)(i:Int):0<=jS z i/\jS z i<z.p:=by
 have:=k.p0
 unfold jS
 split
 . exact lp (BQ k) #[0] _
 . omega
def xz(k:AkOk z)(i:Int):0<=kz z i/\kz z i<z.p:=by
 have:=k.p0
 unfold kz
 split
 . erw[qC0 _ #[0],qE0 _ #[0]]
 . split
   . erw[qC0 _ #[0],qE0 _ #[0]]
   . omega
def vF(k:AkOk z)(w:Str):0<=lV z w/\lV z w<z.p:=by
 have:=k.p0
 unfold lV
 split
 . erw[qC0 _ #[0],qE0 _ #[0]]
 . split
   . erw[qC0 _ #[0],qE0 _ #[0]]
   . erw[k.h0,k.h1]
instance spPlain(CA CG:Addr):∀(k g v:Addr)(z:Ak)(w:Str),vs=[.ref k,.str w]->AkAt CA CG H k g v z->0<z.p->Q (.int (lV z w)) H:=1
def xT:FnScope Wa Wa (ag oV):=%[|5]
def yu(F:#["plain_value","Asking.plain_value",oV])(TA:ATxt K mg CA)(TG:GTxt K mg CG):#[1,f,fd,Wa,spPlain CA CG]:=by
 exists xT
 erw[k,g,v,z,w,1,%[dk,aT,a,b,d,tv,tr,hk,%[dg|hg]|_],p0,q]at h;refine⟨_,(aa (aG (af aP (pv 1) aB (ao _)) (ad (aq (au aY (az (pv 0) rfl) (az (az (pv 0) rfl) rfl)))) ax)
  (aa (aG (af aP (pv 1) aB (ao _)) (ad (aq (au aY (az (pv 0) rfl) (az (az (pv 0) rfl) rfl)))) ax)
  (ad (aq (az (pv 0) rfl))))),?_⟩
 unfold lV at q;erw[0,1,0,6]
 by_cases c:w="round"
 . rw[JB c]at q;apply aV (congrArg V.str c) ?_;erw[0,k,CA,dk,_,0,hk,TA.cl,TA.nN,Fm,0,k,CA,dk,_,0,hk,TA.cl,TA.nG,tt,g,CG,dg,_,0,hg,TG.cl,TG.nF,gN ..,2,p0,q]
 . rw [Jy c]at q;apply ay (neS c) ?_;erw[0,1,0,6]
   by_cases c:w="asked"
   . rw[JB c]at q;apply aV (congrArg V.str c) ?_;erw[0,k,CA,dk,_,0,hk,TA.cl,TA.nM,al_m,0,k,CA,dk,_,0,hk,TA.cl,TA.nG,tt,g,CG,dg,_,0,hg,TG.cl,TG.nF,gN ..,2,p0,q]
   . rw[Jy c]at q;apply ay (neS c) ?_;erw[0,k,CA,dk,_,0,hk,TA.cl,TA.nH,al_h,q]
instance spCoinAt(CA CG:Addr):∀(k g v:Addr)(z:Ak)(i:Int),vs=[.ref k,.int i]->AkAt CA CG H k g v z->z.to.length<=100->(∀H',Same H H'->Q (.int (jS z i)) H'):=1
def v8:FnScope ["self","place","tossed"] WJ (ag rZ):=%[|5]
instance tCoinE(z:Ak)(Dn:Ends)(σ:St)(H:Hp):∀(x0:Option V)(a:Addr)(i:Int),σ=[x0,some (.int i),some (.ref a)]->H a=some (.tup ((jR z).map V.int))->Dn.rt (.int (jS z i)) H:=0
def AO(F:#["coin_at","Asking.coin_at",rZ])(B:Bl mg)(TA:ATxt K mg CA)(TG:GTxt K mg CG):#[1,f,fd,WJ,spCoinAt CA CG]:=by
 exists v8
 erw[k,g,v,z,i,1,%[dk,aT,a,b,d,tv,tr,hk,%[dg|hg],ha,hb,TS,_,_,hT|_],tl,q]at h;let vl:=TS.length;refine⟨_,(aa #[am,2,v8,az (pv 0) rfl]
  (aa (aG (af gz (aE aF rfl B.len zB1 %[az (az (pv 0) rfl) rfl|aQ]) ac (ao _)) (ad #[am,2,v8,au op_catT (aM %[az (pv 0) rfl|aQ]) (pv 2)]) ax)
  (dO (t':=tCoinE z) (aa (aG (Am tW tW ac (pv 1) (aE aF rfl B.len zB1 %[2|aQ])) (ad (aq (aJ ix_tup (pv 2) (au bc (pv 1) ac) #[1]))) ax)
  (ad (aq ac))) (by
   rintro Dn σ H ⟨x0,a,i,rfl,ha,q⟩;unfold jS at q;erw[0,2,0,6];let el:(((jR z).map V.int).length:Int)=((jR z).length:Int):=by rw[zF0]
   by_cases c1:1<=i
   . apply aV c1 ?_;erw[0,a,0,.inr (zB0 ha),2,0,6]
     by_cases c2:i<=((jR z).length:Int)
     . rw [JB %[c1|c2]]at q;apply aV (by rw[el];exact c2) ?_;obtain⟨j,ej⟩:∃j:Nat,i-1=(j:Int):=⟨(i-1).toNat,#[0]⟩
       rw[ej,qS0]at q;erw[0,0,2,a,_,2,zB0 ha,6,q];rw[ej];exact li #[0]
     . rw[Jy (λz=>c2 z.2)]at q;exact ay (by rw[el];exact c2) q
   . rw[Jy (λz=>c1 z.1)]at q;exact ay c1 %[0|cV q])))),?_⟩
 erw[0,k,CA,dk,_,0,hk,TA.cl,TA.nT,al_t,6];erw[0,k,CA,dk,_,0,hk,TA.cl,TA.nG,tt,g,CG,dg,_,0,hg,TG.cl,TG.nT,jQ ..,b,0,.inr (zB0 hb),2,0,6]
 by_cases c:1<z.ts.length
 . apply aV (by rw[vl];omega) ?_;let ec:jR z=z.s::z.to:=JB c;erw[0,k,CA,dk,_,0,hk,TA.cl,TA.nS,al_s,y1S,λt ht=>?_];let I:=zC0 ht (.tup [.int z.s]);let g1:upd H t (.tup [.int z.s]) t=some (.tup [.int z.s]):=aO;generalize upd H t (.tup [.int z.s])=H1 at I g1;erw[0,t,aT,2,zB0 g1,zB0 (I _ _ hT),(λz=>nomatch z),cg (by show 1+(z.to.map V.int).length<=1000;rw[zF0];omega),λe=>?_,λ_ y hy=>?_]
   . erw[_,t,i,1,6,q _ I];rw[ec,g1,zZ0,e]
   . erw[_,y,i,1,6,q _ (I.trans (zC0 hy _))];rw[aO,ec];rfl
 . apply ay (by rw[vl];omega) ?_;let ec:jR z=z.to:=Jy c;erw[_,aT,i,1,by rw[ec];exact hT,q _ λ_ _ e=>e]
end
section
variable {CM CA CG:Addr}
def Ad(ns:List Str)(ts:List Tr)(s p:Int)(cs:List Int)(n:Nat):(nu ns ts s p cs n).length=n:=by
 unfold nu;rw[zF0,qT0]
def Ac{p:Int}(hp:0<p):cy (nu ns ts s p cs n) p:=λx hx=>by
 unfold nu at hx;let%[k,_|1]:=List.mem_map.mp hx;erw[qC0 _ #[0],qE0 _ hp]
def AkOk.deg(k:AkOk z)(h:0<z.nr):∃x,z.ns[z.to.length]?=some x/\z.ns.getD z.to.length ""=x/\0<=bO z.ts x/\bO z.ts x<z.p/\bO z.ts x<=400:=by
 let hl:=k.nrt h;erw[z.ns[z.to.length],zS0 hl,by rw[qQ0,zS0 hl];rfl,6];let hm:=qO0 hl;let%[d0|d1]:=k.gk.deg _ hm;erw[d0,d1,6];let t0:z.ts≠[]:=λe=>by have:=k.gk.t1;rw[e]at this;cases this
 have:=pV (p:=401) (x:=z.ns[z.to.length]) t0 λt ht=>by
  let h1:=(k.gk.tok t ht).2.2.2;let h2:=t.names_len;let h3:=jT1 (a:=z.ns[z.to.length]) (l:=t.names);omega
 omega
def AkOk.row(k:AkOk z)(h:0<z.nr):jT z.tru z.p:=by
 let%[x,hx,ex,d0,d1|d4]:=k.deg h;let p2:=k.p0;let p9:=k.gk.p9;let e:z.tru=nu z.ns z.ts z.s z.p z.to (bO z.ts x+1).toNat:=by
  unfold Ak.tru;rw[Jy #[0],ex]
 rw[e];unfold jT;rw[Ad];erw[3,3,3,λj=>?_]
 have:=lp (Ac (ns:=z.ns) (ts:=z.ts) (s:=z.s) (cs:=z.to) (n:=(bO z.ts x+1).toNat) (show 0<z.p by omega)) #[0] j
 omega
instance spTruths(CA CG:Addr):∀(k g v:Addr)(z:Ak)(ys:List V),vs=[.ref k]->AkAt CA CG H k g v z->AkOk z->H v=some (.lst ys)->(∀(l:Addr)(H':Hp),H' l=some (.lst (z.tru.map V.int))->AkAt CA CG H' k g v z->SameBut k H H'->Q (.ref l) H'):=1
def vq:FnScope WA WA (ag lQ):=%[|5]
def vS(F:#["true_numbers","Asking.true_numbers",lQ])(TA:ATxt K mg CA)(jk:#[16,"counts_of",WG,spCounts CG])(kG:#[14,"true_row",["game","s","coins"],spTrue CG]):#[17,f,fd,WA,spTruths CA CG]:=by
 exists vq
 erw[k,g,v,z,ys,1,AK,ok,hv,q]at h;refine⟨_,(aa (aG (af Es (az (pv 0) rfl) Au (ao _)) (ad (aG (af aP (az (pv 0) rfl) ac (ao _)) (ad (aU (pv 0) (ai jk hr ⋯ rfl %[az (pv 0) rfl|aQ]) rfl)) (ad (aU (pv 0) (ai kG hr ⋯ rfl %[az (pv 0) rfl,az (pv 0) rfl,az (pv 0) rfl|aQ]) rfl)))) ax)
  (ad (aq (az (pv 0) rfl)))),?_⟩
 let AK':=AK;erw[dk,aT,a,b,d,tv,tr,hk,GA,ha,hb,TS,hd,dv,hT,ht]at AK';let t0:z.ts≠[]:=λe=>by have:=ok.gk.t1;rw[e]at this;cases this
 let t10:=ok.gk.t10;let p2:=ok.p0;let p9:=ok.gk.p9;erw[0,k,CA,dk,_,0,hk,TA.cl,TA.nR,Du,6];rcases ht with rfl | ⟨l,rfl,lv,hl⟩
 . -- not yet asked
   let put:∀(l:Addr)(H1:Hp),H l=none->Same H H1->H1 l=some (.lst (z.tru.map V.int))->AkAt CA CG (upd H1 k (.ins CA dk (al g z.nr z.mn z.hd z.s aT (.ref l)))) k g v z/\(upd H1 k (.ins CA dk (al g z.nr z.mn z.hd z.s aT (.ref l)))) l=some (.lst (z.tru.map V.int))/\SameBut k H (upd H1 k (.ins CA dk (al g z.nr z.mn z.hd z.s aT (.ref l)))):=by
    intro l H1 l0 S1 hl;let lk:l≠k:=(aX hk l0).symm;let U:∀{c:Addr}{o:HO},c≠k->H1 c=some o->(upd H1 k (.ins CA dk (al g z.nr z.mn z.hd z.s aT (.ref l)))) c=some o:=λn e=>by rw[aD n];exact e
    let gk:g≠k:=λe=>by
     erw[dg,hg]at GA;rw[e,hk]at hg;cases hg
    let kT:bN H (upd H1 k (.ins CA dk (al g z.nr z.mn z.hd z.s aT (.ref l)))):=λc xs e=>U (bi e hk nofun) (S1 _ _ e)
    erw[dg,hg]at GA;erw[%[dk,aT,a,b,d,tv,.ref l,aO,%[dg|U gk (S1 _ _ hg)],kT _ _ ha,kT _ _ hb,TS.mono kT,U (bi hd hk nofun) (S1 _ _ hd),dv,kT _ _ hT|.inr %[l,1,(aX hv l0).symm|U lk hl]],U lk hl,(zJ0 S1).trans (SameBut.upd _)]
   erw[1,0,dL ?_];erw[0,k,CA,dk,_,0,hk,TA.cl,TA.nN,Fm,1,0,6]
   by_cases c:z.nr=0
   . apply aV (congrArg V.int c) ?_;erw[0,k,CA,dk,_,0,hk,TA.cl,TA.nG,tt,g,a,b,d,z.ns,tv,z.ts,z.p,1,GA,ha,ok.n6,hb,TS,t10,λt ht=>%[(ok.gk.tok t ht).1|by have:=(ok.gk.tok t ht).2.2.1;omega],λl H1 l0 S1 hl=>?_];let et:z.tru=z.ts.map (λt=>(cnt t z.ns:Int)):=JB c;rw[←et]at hl;let%[A1,L1|B1]:=put l H1 l0 S1 hl;erw[0,k,CA,dk,0,S1 _ _ hk,TA.cl,TA.nR,BV,6];rw[BU];erw[0,k,CA,dk,_,0,aO,TA.cl,TA.nR,Du,q l _ L1 A1 B1]
   . apply ay (λe=>c (V.int.inj e)) ?_;let n0:=ok.nr0;let%[x,hx,ex,d0,d1|d4]:=ok.deg #[0];erw[0,k,CA,dk,_,0,hk,TA.cl,TA.nG,tt,0,k,CA,dk,_,0,hk,TA.cl,TA.nS,al_s,0,k,CA,dk,_,0,hk,TA.cl,TA.nT,al_t,g,a,b,d,aT,z.ns,tv,z.ts,z.to,x,z.s,z.p,1,GA,ha,ok.n6,hb,TS,t0,t10,λt ht=>%[(ok.gk.tok t ht).1|(ok.gk.tok t ht).2.2.1],hd,hT,hx,d1,3,ok.po,3,3,λl H1 l0 S1 hl=>?_];let et:z.tru=nu z.ns z.ts z.s z.p z.to (bO z.ts x+1).toNat:=by
      unfold Ak.tru;rw[Jy c,ex]
     rw[←et]at hl;let%[A1,L1|B1]:=put l H1 l0 S1 hl;erw[0,k,CA,dk,0,S1 _ _ hk,TA.cl,TA.nR,BV,6];rw[BU];erw[0,k,CA,dk,_,0,aO,TA.cl,TA.nR,Du,q l _ L1 A1 B1]
 . erw[1,0,cV ?_];erw[0,k,CA,dk,_,0,hk,TA.cl,TA.nR,Du,q l H hl AK (SameBut.refl _ _)]
instance spTrueAt(CA CG:Addr):∀(k g v:Addr)(z:Ak)(ys:List V)(i:Int),vs=[.ref k,.int i]->AkAt CA CG H k g v z->AkOk z->H v=some (.lst ys)->0<=i->i<z.p->(∀H',AkAt CA CG H' k g v z->SameBut k H H'->Q (.int (kz z i)) H'):=1
def E9:FnScope ["self","place","truths"] WJ (ag rX):=%[|5]
def AM(F:#["true_at","Asking.true_at",rX])(B:Bl mg)(TA:ATxt K mg CA)(TG:GTxt K mg CG)(mT:Meth K CA "true_numbers" fT)(GT:#[17,fT,fdT,WA,spTruths CA CG])(bT:Binds K fdT WA [])(b5:#[4,"value_at",WI,spVal]):#[18,f,fd,WJ,spTrueAt CA CG]:=by
 exists E9
 erw[k,g,v,z,ys,i,1,AK,ok,hv,i0,i1,q]at h;refine⟨_,(aa #[am,2,E9,ca (pv 0) TA.cl mT GT hr bT .nil bh]
  (aa (aG (af gz (az (pv 0) rfl) ac (ao _)) (ad (aq (ai b5 hr ⋯ rfl %[2,1,az (az (pv 0) rfl) rfl|aQ]))) ax)
  (aa (aG (af du (pv 1) (aE aF rfl B.len zB1 %[2|aQ]) (ao _)) (ad (aq (au aY (aJ ix_list (pv 2) (pv 1) #[1]) (az (az (pv 0) rfl) rfl)))) ax)
  (ad (aq ac))))),?_⟩
 let p2:=ok.p0;let p9:=ok.gk.p9;let%[dk,aT,_,_,_,_,tr,hk|_]:=id AK;erw[0,k,dk,0,hk,al_n3,k,g,v,z,ys,1,AK,ok,hv,λl H1 hl A1 S1=>?_];let A1':=A1;erw[dk1,aT1,a1,b1,d1,tv1,tr1,hk1,%[dg1|hg1],_]at A1';unfold kz at q;erw[0,k,CA,dk1,_,0,hk1,TA.cl,TA.nN,Fm,2,0,6]
 by_cases c:0<z.nr
 . rw[JB c]at q;apply aV c ?_;erw[0,0,0,k,CA,dk1,_,0,hk1,TA.cl,TA.nG,tt,g,CG,dg1,_,0,hg1,TG.cl,TG.nF,gN ..,l,z.tru,i,z.p,1,.inl hl,ok.row c,ok.gk.pr,p9,i0,i1,λH2 S2=>q H2 (A1.same S2) (S1.trans (zJ0 S2))]
 . rw [Jy c]at q;apply ay c ?_;erw[0,0,l,0,.inl (zG0 hl),2,0,6];let el:((z.tru.map V.int).length:Int)=(z.tru.length:Int):=by rw[zF0]
   by_cases c2:i<(z.tru.length:Int)
   . rw[JB c2]at q;apply aV (by rw[el];exact c2) ?_;let%[j|1]:=qC1 i0;rw[qS0]at q;erw[0,0,l,_,2,zG0 hl,li #[0],0,k,CA,dk1,_,0,hk1,TA.cl,TA.nG,tt,g,CG,dg1,_,0,hg1,TG.cl,TG.nF,gN ..,2,(by show 0<z.p;omega),q H1 A1 S1]
   . rw[Jy c2]at q;apply ay (by rw[el];exact c2) ?_;exact q H1 A1 S1
def Tm.worth(z:Ak)(bx:Str->Int):Tm->Int
 |.num n=>n % z.p | .box x=>bx x | .plain w=>lV z w
 |.ask w a=>if w="coin" then jS z (a.worth z bx)else kz z (a.worth z bx)
 |.op s a b=>opV z.p s (a.worth z bx) (b.worth z bx)
def Tm.good:Tm->Prop
 |.num _=>True | .box _=>True | .plain w=>w∈plainW | .ask w a=>w∈askW/\a.good | .op s a b=>s∈signW/\a.good/\b.good
def jJ(p:Int)(bx:Str->Int):Prop:=∀x,0<=bx x/\bx x<p
def Tm.worth_rng(k:AkOk z)(hb:jJ z.p bx):∀t:Tm,0<=t.worth z bx/\t.worth z bx<z.p
 |.num n=>by have:=k.p0;erw[qC0 _ #[0],qE0 _ #[0]]
 |.box x=>hb x
 |.plain w=>vF k w
 |.ask w a=>by
   show 0<=(if w="coin" then jS z (a.worth z bx)else kz z (a.worth z bx))/\(if w="coin" then jS z (a.worth z bx)else kz z (a.worth z bx))<z.p
   split
   . exact ze k _
   . exact xz k _
 |.op s a b=>by have:=k.p0;exact CL #[0]
instance spTm(CA CG:Addr)(n:Nat):∀(v:V)(t:Tm)(b k g sd:Addr)(z:Ak)(ys:List V)(bx:Str->Int)(m:Nat),vs=[v,.ref b,.ref k]->TmAt H v t->t.good->t.depth<=n->BxAt H b bx m->jJ z.p bx->AkAt CA CG H k g sd z->AkOk z->H sd=some (.lst ys)->(∀H',AkAt CA CG H' k g sd z->SameBut k H H'->Q (.int (t.worth z bx)) H'):=1
def fV:FnScope ["term","boxes","asking","word","first","second"] WT (ag ik):=%[|5]
structure AskF(P:Program)(w:World)(K:W.Frag)(mg:#[9])(base:Heap)(CA CG fP fC fR:Addr)(fdP fdC fdR:FuncData):Prop where
 mP:Meth K CA "plain_value" fP
 GP:#[1,fP,fdP,Wa,spPlain CA CG]
 bP:Binds K fdP Wa []
 mC:Meth K CA "coin_at" fC
 GC:#[1,fC,fdC,WJ,spCoinAt CA CG]
 bC:Binds K fdC WJ []
 mR:Meth K CA "true_at" fR
 GR:#[18,fR,fdR,WJ,spTrueAt CA CG]
 bR:Binds K fdR WJ []
def zp{n:Nat}(F:#["value_of",ik])(TA:ATxt K mg CA)(TG:GTxt K mg CG)(M:AskF P w K mg base CA CG fP fC fR fdP fdC fdR)(ei:#[3,"op_value",WZ,spOp])(b6:#[n+18,"value_of",WT,spTm CA CG n]):#[n+19,f,fd,WT,spTm CA CG (n+1)]:=by
 exists fV
 erw[v,t,b,k,g,sd,z,ys,bx,m,1,T,tg,td,BX,bo,AK,ok,hs,q]at h;let hu:=DK hr;let hr1:Room 1 _:=hr.mono #[0];let hr18:Room 18 _:=hr.mono #[0];refine⟨_,(aa #[am,3,fV,aJ ix_tup (pv 0) ac #[1]]
  (aa (aG (af aP (pv 3) aB (ao _)) (ad (aq (au aY (aJ ix_tup (pv 0) ac #[1]) (az (az (pv 2) rfl) rfl)))) ax)
  (aa (aG (af aP (pv 3) aB (ao _)) (ad (aq (Aw hu (pv 1) (aJ ix_tup (pv 0) ac #[1]) ac %[1,1,1|1]))) ax)
  (aa (aG (af aP (pv 3) aB (ao _)) (ad (aq (bJ (pv 2) TA.cl M.mC M.GC hr1 M.bC .nil bh %[ai b6 hr (zH0 _) rfl %[aJ ix_tup (pv 0) ac #[1],1,2|aQ]|aQ]))) ax)
  (aa (aG (af aP (pv 3) aB (ao _)) (ad (aq (bJ (pv 2) TA.cl M.mR M.GR hr18 M.bR .nil bh %[ai b6 hr (zH0 _) rfl %[aJ ix_tup (pv 0) ac #[1],1,2|aQ]|aQ]))) ax)
  (aa (aG (af aP (pv 3) aB (ao _)) (aa #[am,4,fV,ai b6 hr (zH0 _) rfl %[aJ ix_tup (pv 0) ac #[1],1,2|aQ]]
   (aa #[am,5,fV,ai b6 hr (zH0 _) rfl %[aJ ix_tup (pv 0) ac #[1],1,2|aQ]]
   (ad (aq (ai ei hr #[0] rfl %[aJ ix_tup (pv 0) ac #[1],4,5,az (az (pv 2) rfl) rfl|aQ]))))) ax)
  (ad (aq (bJ (pv 2) TA.cl M.mP M.GP hr1 M.bP .nil bh %[3|aQ]))))))))),?_⟩
 let AK':=AK;erw[dk,aT,ga,gb,gd,tv,tr,hk,%[dg|hg],_]at AK';let p2:=ok.p0;let p0:0<z.p:=#[0]
 let kT:∀{H':Hp},SameBut k H H'->bN H H':=λs c xs e=>s _ _ (bi e hk nofun) e
 let kB:∀{H':Hp},SameBut k H H'->BxAt H' b bx m:=λs=>BX.keep λo e=>s _ _ (by
  erw[JA,e',_]at BX;exact bi e' hk nofun) e
 let kS:∀{H':Hp},SameBut k H H'->H' sd=some (.lst ys):=λs=>s _ _ (bi hs hk nofun) hs
 cases T with
 | @num a n e=>
   erw[0,a,_,(0),0,1,zB0 e,1,6];erw[0,1,0,aV rfl ?_];erw[0,a,_,(1),0,1,zB0 e,1,0,k,CA,dk,_,0,hk,TA.cl,TA.nG,tt,g,CG,dg,_,0,hg,TG.cl,TG.nF,gN ..,2,p0,q H AK (SameBut.refl _ _)]
 | @box a x e=>
   erw[0,a,_,(0),0,1,zB0 e,1,6];erw[0,1,0,7];erw[0,1,0,aV rfl ?_];erw[JA,hb,_,hx]at BX;erw[0,b,1,.inl %[JA|.inl hb],0,a,_,(1),0,1,zB0 e,1,_,DGet.k (k:=.inr x) hb,6];rw[hx];exact q H AK (SameBut.refl _ _)
 | @plain a wd e=>
   let no:∀x:Str,x∉plainW->¬ V.str wd=V.str x:=λx hx e=>hx (by rw[←V.str.inj e];exact tg)
   erw[0,a,_,(0),0,1,zB0 e,1,6];erw[0,1,0,ay (no _ ⋯) ?_];erw[0,1,0,ay (no _ ⋯) ?_];erw[0,1,0,ay (no _ ⋯) ?_];erw[0,1,0,ay (no _ ⋯) ?_];erw[0,1,0,ay (no _ ⋯) ?_];erw[0,k,dk,0,hk,al_n1,0,k,g,sd,z,wd,1,AK,p0,q H AK (SameBut.refl _ _)]
 | @ask a wd v1 t1 e T1=>
   erw[wq,tq]at tg;let hw:wd="coin"∨wd="true":=by simpa [askW]using wq
   let d1:t1.depth<=n:=by have:t1.depth+1<=n+1:=td;omega
   let wr:=Tm.worth_rng ok bo t1;erw[0,a,_,(0),0,1,zB0 e,1,6];rcases hw with rfl | rfl
   . erw[0,1,0,7];erw[0,1,0,7];erw[0,1,0,aV rfl ?_];erw[0,k,dk,0,hk,al_n2,0,a,_,(1),0,1,zB0 e,1,0,0,v1,t1,b,k,g,sd,z,ys,bx,m,1,T1,tq,d1,BX,bo,AK,ok,hs,λH1 A1 S1=>?_];erw[k,g,sd,z,0,A1,ok.tl,λH2 S2=>?_];let qq:=q H2 (A1.same S2) (S1.trans (zJ0 S2));let e1:(Tm.ask "coin" t1).worth z bx=jS z (t1.worth z bx):=JB rfl;rw[e1]at qq;exact qq
   . erw[0,1,0,7];erw[0,1,0,7];erw[0,1,0,7];erw[0,1,0,aV rfl ?_];erw[0,k,dk,0,hk,al_n4,0,a,_,(1),0,1,zB0 e,1,0,0,v1,t1,b,k,g,sd,z,ys,bx,m,1,T1,tq,d1,BX,bo,AK,ok,hs,λH1 A1 S1=>?_];erw[k,g,sd,z,ys,0,A1,ok,kS S1,wr.1,wr.2,λH2 A2 S2=>?_];let qq:=q H2 A2 (S1.trans S2);let e1:(Tm.ask "true" t1).worth z bx=kz z (t1.worth z bx):=Jy ⋯;rw[e1]at qq;exact qq
 | @op a o v1 v2 t1 t2 e T1 T2=>
   erw[oq,q1,q2]at tg;let d1:t1.depth<=n:=by have:max t1.depth t2.depth+1<=n+1:=td;omega
   let d2:t2.depth<=n:=by have:max t1.depth t2.depth+1<=n+1:=td;omega
   let w1:=Tm.worth_rng ok bo t1;let w2:=Tm.worth_rng ok bo t2;erw[0,a,_,(0),0,1,zB0 e,1,6];erw[0,1,0,7];erw[0,1,0,7];erw[0,1,0,7];erw[0,1,0,7];erw[0,1,0,aV rfl ?_];erw[0,a,_,(2),0,1,zB0 e,1,0,0,v1,t1,b,k,g,sd,z,ys,bx,m,1,T1,q1,d1,BX,bo,AK,ok,hs,λH1 A1 S1=>?_];let e1:=kT S1 _ _ e;erw[0,a,_,(3),0,1,zB0 e1,1,0,0,v2,t2,b,k,g,sd,z,ys,bx,m,1,T2.mono (kT S1),q2,d2,kB S1,bo,A1,ok,kS S1,λH2 A2 S2=>?_];let e2:=kT (S1.trans S2) _ _ e;let%[dk2,aT2,_,_,_,_,tr2,hk2,%[dg2|hg2]|_]:=id A2;erw[0,a,_,(1),0,1,zB0 e2,1,0,0,0,k,CA,dk2,_,0,hk2,TA.cl,TA.nG,tt,g,CG,dg2,_,0,hg2,TG.cl,TG.nF,gN ..,o,_,_,z.p,1,oq,ok.gk.pr,ok.gk.p9,w1.1,w1.2,w2.1,w2.2,q H2 A2 (S1.trans S2)]
def zo:#[18,f,fd,WT,spTm CA CG 0]:=by
 let no:∀vs H Q E,¬ spTm CA CG 0 vs H Q E:=λvs H Q E h=>by
  erw[v,t,_,_,_,_,_,_,_,_,_,_,_,h1,_]at h
  have:=t.depth_pos
  omega
 exists 3
def mO(F:#["value_of",ik])(m:mg "value_of"=some (.ref f))(TA:ATxt K mg CA)(TG:GTxt K mg CG)(M:AskF P w K mg base CA CG fP fC fR fdP fdC fdR)(ei:#[3,"op_value",WZ,spOp]):
 ∀n:Nat,#[n+18,f,fd,WT,spTm CA CG n]
 |0=>zo
 |n+1=>zp F TA TG M ei (Cal.of F (mO F m TA TG M ei n) m (λ_ _ _ _ _ _ us hl=>by let%[u0,u1,u2|1]:=ED hl;rfl))
end
section
variable {CM CA CG:Addr}
structure MS where
 pl:Int
 bx:Str->Int
 sd:List Int
def DD(z:Ak)(len:Int)(s:MS):Hr->MS
 |.fin=>%[len,s.bx|s.sd]
 |.go n=>%[n,s.bx|s.sd]
 |.iff t n=>%[if t.worth z s.bx=0 then s.pl+1 else n,s.bx|s.sd]
 |.set x t=>%[s.pl+1,uM s.bx x (t.worth z s.bx)|s.sd]
 |.say t=>%[s.pl+1,s.bx|s.sd++[t.worth z s.bx]]
def gH(z:Ak)(rows:List Hr)(s:MS):MS:=match rows[s.pl.toNat]? with
 |some r=>DD z rows.length s r
 |none=>s
def qk(z:Ak)(rows:List Hr):Nat->MS->MS
 |0,s=>s
 |n+1,s=>if s.pl<(rows.length:Int)/\(s.sd.length:Int)<z.mn then qk z rows n (gH z rows s)else s
def sv(mn:Int)(sd:List Int):List Int:=sd++List.replicate (mn-(sd.length:Int)).toNat 0
def Hr.good:Hr->Prop
 |.fin=>True | .go n=>0<=n | .iff t n=>t.good/\t.depth<=5/\0<=n | .set _ t=>t.good/\t.depth<=5 | .say t=>t.good/\t.depth<=5
def zJ{rows:List Hr}(hq:∀r∈rows,r.good){s:MS}(h:0<=s.pl):0<=(gH z rows s).pl:=by
 unfold gH;cases e:rows[s.pl.toNat]? with
 |none=>exact h
 |some r=>
   let q:=hq r (qG0 e);cases r with
   |fin=>exact Int.natCast_nonneg _
   |go n=>exact q
   |iff t n=>
     show 0<=if t.worth z s.bx=0 then s.pl+1 else n
     by_cases c:t.worth z s.bx=0
     . rw[JB c];omega
     . rw[Jy c];exact q.2.2
   |set x t=>show 0<=s.pl+1;omega
   |say t=>show 0<=s.pl+1;omega
def tI:(gH z rows s).sd.length<=s.sd.length+1:=by
 unfold gH;cases e:rows[s.pl.toNat]? with
 |none=>exact qM0 _
 |some r=>
   cases r with
   |fin=>exact qM0 _
   |go n=>exact qM0 _
   |iff t n=>exact qM0 _
   |set x t=>exact qM0 _
   |say t=>show(s.sd++[_]).length<=_;rw[zL0];exact zH0 _
def BR{n:Int}(h:jJ p bx)(h0:0<=n)(h1:n<p):jJ p (uM bx x n):=λy=>by
 unfold uM
 split
 . erw[h0,h1]
 . exact h y
def ow{s:MS}(k:AkOk z)(h:jJ z.p s.bx)(hs:cy s.sd z.p):jJ z.p (gH z rows s).bx/\cy (gH z rows s).sd z.p:=by
 unfold gH;cases e:rows[s.pl.toNat]? with
 |none=>erw[h,hs]
 |some r=>
   cases r with
   |fin=>erw[h,hs]
   |go n=>erw[h,hs]
   |iff t n=>erw[h,hs]
   |set x t=>
     let w:=Tm.worth_rng k h t;erw[BR h w.1 w.2,hs]
   |say t=>
     let w:=Tm.worth_rng k h t;erw[h,λy hy=>?_];rcases qJ0 hy with hy | hy
     . exact hs y hy
     . rw[zP0 hy];exact w
def kM(k:AkOk z):∀(n:Nat)(s:MS),jJ z.p s.bx->cy s.sd z.p->(s.sd.length:Int)<=z.mn->jJ z.p (qk z rows n s).bx/\cy (qk z rows n s).sd z.p/\((qk z rows n s).sd.length:Int)<=z.mn
 |0,s,h,hs,hl=>%[h,hs|hl]
 |n+1,s,h,hs,hl=>by
   show jJ z.p (if _ then _ else _:MS).bx/\cy (if _ then _ else _:MS).sd z.p/\((if _ then _ else _:MS).sd.length:Int)<=z.mn
   by_cases c:s.pl<(rows.length:Int)/\(s.sd.length:Int)<z.mn
   . rw [JB c];let%[h1|h2]:=ow (rows:=rows) k h hs
     have:=tI (z:=z) (rows:=rows) (s:=s)
     exact kM k n _ h1 h2 #[0]
   . rw[Jy c];erw[h,hs,hl]
def tV{mn:Int}{sd:List Int}(h:(sd.length:Int)<=mn):((sv mn sd).length:Int)=mn:=by
 unfold sv;rw[zL0,zU1];omega
def wR(h:cy sd p)(p0:0<p):cy (sv mn sd) p:=λx hx=>by
 unfold sv at hx;rcases qJ0 hx with hx | hx
 . exact h x hx
 . rw[List.eq_of_mem_replicate hx];omega
def RowsAt(H:Hp)(rv:List V)(rows:List Hr):Prop:=rv.length=rows.length/\∀(i:Nat)(v:V)(r:Hr),rv[i]?=some v->rows[i]?=some r->HrAt H v r
def RowsAt.mono(h:RowsAt H rv rows)(k:bN H H'):RowsAt H' rv rows:=%[h.1|λi v r h1 h2=>(h.2 i v r h1 h2).mono k]
def Dx(b c:Addr)(H H':Hp):Prop:=∀a o,a≠b->a≠c->H a=some o->H' a=some o
def BxAt.le{n:Nat}(h:BxAt H b bx m)(k:m<=n):BxAt H b bx n:=by
 erw[JA,e,l,r]at h;erw[JA,e,zM0 l k,r]
def But3(b c d:Addr)(H H':Hp):Prop:=∀a o,a≠b->a≠c->a≠d->H a=some o->H' a=some o
def But3.trans(x:But3 b c d H H1)(y:But3 b c d H1 H2):But3 b c d H H2:=λa o h1 h2 h3 e=>y a o h1 h2 h3 (x a o h1 h2 h3 e)
instance spRowM(CM CA CG:Addr):∀(M g h b dm k sd:Addr)(rv:List V)(r pl:Int)(z:Ak)(rows:List Hr)(bx:Str->Int)(m:Nat)(said:List Int),vs=[.ref M,.int pl,.ref sd,.ref k]->H M=some (.ins CM dm (ml g h r b))->M≠k->H h=some (.tup rv)->RowsAt H rv rows->(∀r∈rows,r.good)->0<=pl->pl<(rows.length:Int)->BxAt H b bx m->jJ z.p bx->m<=10000->H sd=some (.lst (said.map V.int))->said.length<=900->AkAt CA CG H k g sd z->AkOk z->(∀H',H' sd=some (.lst ((gH z rows ⟨pl,bx,said⟩).sd.map V.int))->BxAt H' b (gH z rows ⟨pl,bx,said⟩).bx (m+1)->AkAt CA CG H' k g sd z->But3 b sd k H H'->Q (.int (gH z rows ⟨pl,bx,said⟩).pl) H'):=1
def C5:FnScope ["self","place","said","asking","row","word"] Wl (ag vx):=%[|5]
def CQ(F:#["do_row","Machine.do_row",vx])(B:Bl mg)(TM:MTxt K mg CM)(b6:#[23,"value_of",WT,spTm CA CG 5]):#[24,f,fd,Wl,spRowM CM CA CG]:=by
 exists C5
 erw[M,g,h,b,dm,k,sd,rv,rn,pl,z,rows,bx,m,said,1,hM,nMk,hh,RW,rq,pl0,pl1,BX,bo,m1,hsd,sl,AK,ok,q]at h;let hu:=DK hr;refine⟨_,(aa #[am,4,C5,aJ ix_tup (az (pv 0) rfl) (pv 1) #[1]]
  (aa #[am,5,C5,aJ ix_tup (pv 4) ac #[1]]
  (aa (aG (af aP (pv 5) aB (ao _)) (ad (aq (aE aF rfl B.len zB1 %[az (pv 0) rfl|aQ]))) ax)
  (aa (aG (af aP (pv 5) aB (ao _)) (ad (aq (aJ ix_tup (pv 4) ac #[1]))) ax)
  (aa (aG (af aP (pv 5) aB (ao _)) (ad (CB hu (az (pv 0) rfl) (aJ ix_tup (pv 4) ac #[1]) (ai b6 hr ⋯ rfl %[aJ ix_tup (pv 4) ac #[1],az (pv 0) rfl,3|aQ]) rfl)) (ad (aG (af aP (pv 5) aB (ao _)) (ad (aS (cW zC1 zH1 zI1 bV (pv 2) %[ai b6 hr ⋯ rfl %[aJ ix_tup (pv 4) ac #[1],az (pv 0) rfl,3|aQ]|aQ]))) (ad (aG (af jN (ai b6 hr ⋯ rfl %[aJ ix_tup (pv 4) ac #[1],az (pv 0) rfl,3|aQ]) ac (ao _)) (ad (aq (aJ ix_tup (pv 4) ac #[1]))) ax)))))
  (ad (aq (au aR (pv 1) ac)))))))),?_⟩
 let%[i|1]:=qC1 pl0;let hi:i<rows.length:=#[0]
 let hi':i<rv.length:=by rw[RW.1];exact hi
 let er:rows[i]?=some rows[i]:=zS0 hi;let ev:rv[i]?=some rv[i]:=zS0 hi';let RA:=RW.2 i _ _ ev er;let rqi:=rq _ (qO0 hi);let JE:gH z rows %[(i:Int),bx|said]=DD z rows.length ⟨(i:Int),bx,said⟩ rows[i]:=by
  unfold gH;rw[show((%[(i:Int),bx|said]:MS).pl.toNat)=i from qS0 i,er]
 rw[JE]at q;generalize rows[i]=row at RA rqi q er JE;let at_:atI rv (i:Int)=some rv[i]:=bw ev;generalize rv[i]=v at RA at_ ev;erw[0,M,CM,dm,_,0,hM,TM.cl,TM.nH,EA,0,h,_,_,v,1,1,zB0 hh,at_,6];let K0:But3 b sd k H H:=λ_ _ _ _ _ e=>e
 let nBS:sd≠b:=by
  erw[JA,e,_]at BX;exact bi hsd e nofun
 let%[JA,hb,kl|hx]:=id BX;let%[dk,_,_,_,_,_,_,hk|_]:=id AK;let kT:∀{H':Hp},SameBut k H H'->bN H H':=λs c xs e=>s _ _ (bi e hk nofun) e
 let nbk:b≠k:=bi hb hk nofun;let nsk:sd≠k:=bi hsd hk nofun;cases RA with
 | @fin a e=>
   erw[0,a,_,(0),0,1,zB0 e,1,6];erw[0,1,0,aV rfl ?_];erw[0,M,CM,dm,_,0,hM,TM.cl,TM.nH,EA,h,0,.inr (zB0 hh),6];rw[RW.1];exact q H hsd (BX.le (qM0 _)) AK K0
 | @go a n e=>
   erw[0,a,_,(0),0,1,zB0 e,1,6];erw[0,1,0,7];erw[0,1,0,aV rfl ?_];erw[0,a,_,(1),0,1,zB0 e,1,q H hsd (BX.le (qM0 _)) AK K0]
 | @iff a u t n e T=>
   erw[0,a,_,(0),0,1,zB0 e,1,6];erw[0,1,0,7];erw[0,1,0,7];erw[0,1,0,7];erw[0,1,0,7];erw[0,a,_,(1),0,1,zB0 e,1,0,M,CM,dm,_,0,hM,TM.cl,TM.nB,Dd,0,u,t,b,k,g,sd,z,_,bx,m,1,T,rqi.1,rqi.2.1,BX,bo,AK,ok,hsd,λH1 A1 S1=>?_];erw[1,0,6];let q':∀H',H' sd=some (.lst (said.map V.int))->BxAt H' b bx (m+1)->AkAt CA CG H' k g sd z->But3 b sd k H H'->Q (.int (if t.worth z bx=0 then(i:Int)+1 else n)) H':=q
   let q1:=q' H1 (S1 _ _ nsk hsd) ((BX.keep λo e=>S1 _ _ nbk e).le (qM0 _)) A1 (λc o _ _ h3 e=>S1 _ _ h3 e)
   by_cases c:t.worth z bx=0
   . rw[JB c]at q1;apply mZ (congrArg V.int c) ?_;erw[0,2,q1]
   . rw[Jy c]at q1;apply iteN (λz=>c (V.int.inj z)) ?_;erw[0,a,_,(2),0,1,zB0 (kT S1 _ _ e),1,q1]
 | @set a x u t e T=>
   erw[0,a,_,(0),0,1,zB0 e,1,6];erw[0,1,0,7];erw[0,1,0,7];erw[0,1,0,aV rfl ?_];erw[0,a,_,(2),0,1,zB0 e,1,0,M,CM,dm,_,0,hM,TM.cl,TM.nB,Dd,0,u,t,b,k,g,sd,z,_,bx,m,1,T,rqi.1,rqi.2,BX,bo,AK,ok,hsd,λH1 A1 S1=>?_];let hb1:=S1 _ _ nbk hb;let hs1:=S1 _ _ nsk hsd;erw[0,M,CM,dm,_,0,S1 _ _ nMk hM,TM.cl,TM.nB,Dd,0,a,_,(1),0,1,zB0 (kT S1 _ _ e),1,b,0,DPut.k (k:=.inr x) hb1 ?_,6]
   . exact zJ1 kl (zJ1 m1 ⋯)
   erw[0,2,6];apply q _ ?_ ⟨_,aO,zM0 (jb _ _ _) (zF1 kl),Fh x _ hx⟩ (A1.but2 hb1 hs1 λc o h1 _ e=>by rw[aD h1];exact e) (λc o h1 _ h3 e=>by rw[aD h1];exact S1 _ _ h3 e);rw[aD nBS];exact hs1
 | @say a u t e T=>
   erw[0,a,_,(0),0,1,zB0 e,1,6];erw[0,1,0,7];erw[0,1,0,7];erw[0,1,0,7];erw[0,1,0,aV rfl ?_];erw[0,.inl %[1,_|zG0 hsd],6];erw[0,a,_,(1),0,1,zB0 e,1,0,M,CM,dm,_,0,hM,TM.cl,TM.nB,Dd,0,u,t,b,k,g,sd,z,_,bx,m,1,T,rqi.1,rqi.2,BX,bo,AK,ok,hsd,λH1 A1 S1=>?_];let hb1:=S1 _ _ nbk hb;let hs1:=S1 _ _ nsk hsd;erw[sd,2,hs1,6,6]
   . rw[zF0];exact aN #[0]
   erw[0,2,6];apply q _ ?_ ((BX.keep λo e=>by rw[aD nBS.symm];exact S1 _ _ nbk e).le (qM0 _)) (A1.but2 hb1 hs1 λc o _ h2 e=>by rw[aD h2];exact e) (λc o _ h2 h3 e=>by rw[aD h2];exact S1 _ _ h3 e);rw[aO];show _=some (HO.lst ((said++[t.worth z bx]).map V.int));rw[zK0];rfl
end
section
variable {CM CA CG:Addr}
def m1(g:Addr):List (Str×V):=[("game",.ref g)]
def m2(g h:Addr):List (Str×V):=[("game",.ref g),("helper",.ref h)]
def m3(g h:Addr):List (Str×V):=[("game",.ref g),("helper",.ref h),("next_round",.int 0)]
def pm1{g:Addr}:bq "game" (.ref g) []=m1 g:=by rfl'
def pm2{h:Addr}:bq "helper" (.ref h) (m1 g)=m2 g h:=by rfl'
def pm3:bq "next_round" (.int 0) (m2 g h)=m3 g h:=by rfl'
def pm4{b:Addr}:bq "boxes" (.ref b) (m3 g h)=ml g h 0 b:=by rfl'
instance spMInit(CM:Addr):∀(M g h dm:Addr),vs=[.ref M,.ref g,.ref h]->H M=some (.ins CM dm [])->(∀(b:Addr)(H':Hp),H b=none->H' M=some (.ins CM dm (ml g h 0 b))->H' b=some (.dK [])->SameBut M H H'->Q .non H'):=1
def zT:FnScope Wb Wb (ag rQ):=%[|5]
def AG(F:#["__init__","Machine.__init__",rQ])(T:MTxt K mg CM):#[1,f,fd,Wb,spMInit CM]:=by
 exists zT
 erw[M,g,h,dm,1,hM,q]at h;refine⟨_,(aa (aU (pv 0) (pv 1) rfl)
  (aa (aU (pv 0) (pv 2) rfl)
  (aa (aU (pv 0) ac rfl)
  (ad (aU (pv 0) Av rfl))))),?_⟩
 erw[0,0,M,CM,dm,0,hM,9,T.nG,(by show 0<1000;decide),6];rw[pm1];erw[0,0,M,CM,dm,0,aO,9,T.nH,(by show 1<1000;decide),6];rw[pm2];erw[0,M,CM,dm,0,aO,9,T.nR,(by show 2<1000;decide),6];rw[pm3];let S3:SameBut M H (upd (upd (upd H M (.ins CM dm (m1 g))) M (.ins CM dm (m2 g h))) M (.ins CM dm (m3 g h))):=(SameBut.upd _).trans ((SameBut.upd _).trans (SameBut.upd _));let g3:upd (upd (upd H M (.ins CM dm (m1 g))) M (.ins CM dm (m2 g h))) M (.ins CM dm (m3 g h)) M=some (.ins CM dm (m3 g h)):=aO;generalize upd (upd (upd H M (.ins CM dm (m1 g))) M (.ins CM dm (m2 g h))) M (.ins CM dm (m3 g h))=H3 at S3 g3;intro b hb;let bM:b≠M:=(aX g3 hb).symm;erw[0,M,CM,dm,0,by rw[aD bM.symm];exact g3,T.cl,T.nB,(by show 3<1000;decide),6];rw[pm4];apply q b _ ?_ aO (by rw[aD bM];exact aO) (S3.trans ((zJ0 (zC0 hb _)).trans (SameBut.upd _)));cases e:H b with
 |none=>rfl
 |some o=>rw[S3 b o bM e]at hb;cases hb
def a1(g:Addr):List (Str×V):=[("game",.ref g)]
def a2(g:Addr)(nr:Int):List (Str×V):=[("game",.ref g),("number",.int nr)]
def a3(g:Addr)(nr mn:Int):List (Str×V):=[("game",.ref g),("number",.int nr),("many",.int mn)]
def a4(g:Addr)(nr mn hd:Int):List (Str×V):=[("game",.ref g),("number",.int nr),("many",.int mn),("held",.int hd)]
def a5(g:Addr)(nr mn hd s:Int):List (Str×V):=[("game",.ref g),("number",.int nr),("many",.int mn),("held",.int hd),("s",.int s)]
def a6(g:Addr)(nr mn hd s:Int)(aT:Addr):List (Str×V):=[("game",.ref g),("number",.int nr),("many",.int mn),("held",.int hd),("s",.int s),("tossed",.ref aT)]
section
variable {g aT:Addr}{nr mn hd s:Int}
def pa1:bq "game" (.ref g) []=a1 g:=by rfl'
def pa2:bq "number" (.int nr) (a1 g)=a2 g nr:=by rfl'
def pa3:bq "many" (.int mn) (a2 g nr)=a3 g nr mn:=by rfl'
def pa4:bq "held" (.int hd) (a3 g nr mn)=a4 g nr mn hd:=by rfl'
def pa5:bq "s" (.int s) (a4 g nr mn hd)=a5 g nr mn hd s:=by rfl'
def pa6:bq "tossed" (.ref aT) (a5 g nr mn hd s)=a6 g nr mn hd s aT:=by rfl'
def pa7:bq "truths" .non (a6 g nr mn hd s aT)=al g nr mn hd s aT .non:=by rfl'
end
instance spAInit(CA:Addr):∀(k dk g c:Addr)(nr mn hd s:Int)(xs:List V),vs=[.ref k,.ref g,.int nr,.int mn,.int hd,.int s,.ref c]->H k=some (.ins CA dk [])->H c=some (.lst xs)∨H c=some (.tup xs)->(∀(aT:Addr)(H':Hp),H' k=some (.ins CA dk (al g nr mn hd s aT .non))->H' aT=some (.tup xs)->SameBut k H H'->Q .non H'):=1
def zZ:FnScope Wc Wc (ag rY):=%[|5]
def AN(F:#["__init__","Asking.__init__",rY])(B:Bl mg)(T:ATxt K mg CA):#[1,f,fd,Wc,spAInit CA]:=by
 exists zZ
 erw[k,dk,g,c,nr,mn,hd,s,xs,1,hk,hc,q]at h;refine⟨_,(aa (aU (pv 0) (pv 1) rfl)
  (aa (aU (pv 0) (pv 2) rfl)
  (aa (aU (pv 0) (pv 3) rfl)
  (aa (aU (pv 0) (pv 4) rfl)
  (aa (aU (pv 0) (pv 5) rfl)
  (aa (aU (pv 0) (bv bb rfl B.tuple bp %[6|aQ]) rfl)
  (ad (aU (pv 0) Au rfl)))))))),?_⟩
 erw[0,0,k,CA,dk,0,hk,9,T.nG,(by show 0<1000;decide),6];rw[pa1];erw[0,0,k,CA,dk,0,aO,9,T.nN,(by show 1<1000;decide),6];rw[pa2];erw[0,0,k,CA,dk,0,aO,9,T.nM,(by show 2<1000;decide),6];rw[pa3];erw[0,0,k,CA,dk,0,aO,9,T.nH,(by show 3<1000;decide),6];rw[pa4];erw[0,0,k,CA,dk,0,aO,9,T.nS,(by show 4<1000;decide),6];rw[pa5];let S5:SameBut k H (upd (upd (upd (upd (upd H k (.ins CA dk (a1 g))) k (.ins CA dk (a2 g nr))) k (.ins CA dk (a3 g nr mn))) k (.ins CA dk (a4 g nr mn hd))) k (.ins CA dk (a5 g nr mn hd s))):=(SameBut.upd _).trans ((SameBut.upd _).trans ((SameBut.upd _).trans ((SameBut.upd _).trans (SameBut.upd _))));let g5:upd (upd (upd (upd (upd H k (.ins CA dk (a1 g))) k (.ins CA dk (a2 g nr))) k (.ins CA dk (a3 g nr mn))) k (.ins CA dk (a4 g nr mn hd))) k (.ins CA dk (a5 g nr mn hd s)) k=some (.ins CA dk (a5 g nr mn hd s)):=aO;generalize upd (upd (upd (upd (upd H k (.ins CA dk (a1 g))) k (.ins CA dk (a2 g nr))) k (.ins CA dk (a3 g nr mn))) k (.ins CA dk (a4 g nr mn hd))) k (.ins CA dk (a5 g nr mn hd s))=H5 at S5 g5;rcases hc with hc | hc
 . let hc5:=S5 _ _ (bi hc hk nofun) hc;erw[0,c,0,.inl %[zG0 hc5|λaT ha=>?_]];let aK:aT≠k:=(aX g5 ha).symm;erw[0,k,CA,dk,0,by rw[aD aK.symm];exact g5,T.cl,T.nT,(by show 5<1000;decide),6];rw[pa6];erw[0,k,CA,dk,0,aO,9,T.nR,(by show 6<1000;decide),6];rw[pa7];exact q aT _ aO (by rw[aD aK,aD aK];exact aO) (S5.trans ((zJ0 (zC0 ha _)).trans ((SameBut.upd _).trans (SameBut.upd _))))
 . let nc:=bi hc hk nofun;let hc5:=S5 _ _ nc hc;erw[0,c,0,.inr %[zB0 hc5|6]];erw[0,k,CA,dk,0,g5,9,T.nT,(by show 5<1000;decide),6];rw[pa6];erw[0,k,CA,dk,0,aO,9,T.nR,(by show 6<1000;decide),6];rw[pa7];exact q c _ aO (by rw[aD nc,aD nc];exact hc5) (S5.trans ((SameBut.upd _).trans (SameBut.upd _)))
instance spSay(CM CG:Addr):∀(M g h b dm c:Addr)(rv:List V)(z:Ak)(rows:List Hr)(bx:Str->Int)(m:Nat),vs=[.ref M,.int z.mn,.int z.hd,.int z.s,.ref c]->H M=some (.ins CM dm (ml g h z.nr b))->H h=some (.tup rv)->RowsAt H rv rows->(∀r∈rows,r.good)->BxAt H b bx m->jJ z.p bx->m<=5000->Gm CG H g z.ns z.ts z.p->AkOk z->H c=some (.lst (z.to.map V.int))∨H c=some (.tup (z.to.map V.int))->0<=z.mn->z.mn<=500->(∀(l:Addr)(H':Hp),H l=none->H' l=some (.lst ((sv z.mn (qk z rows 200 ⟨0,bx,[]⟩).sd).map V.int))->BxAt H' b (qk z rows 200 ⟨0,bx,[]⟩).bx (m+200)->H' M=some (.ins CM dm (ml g h (z.nr+1) b))->Dx M b H H'->Q (.ref l) H'):=1
def fN:FnScope ["self","many","due","s","coins","asking","said","place","done"] Wm (ag vv):=%[|5]
def Ai(k:Nat)(x:V):(List.replicate k [x]).flatten=List.replicate k x:=by
 induction k with
 |zero=>rfl
 |succ k ih=>rw[qG1,qV1,ih,qG1];rfl
instance tSayE(Dn:Ends)(σ:St)(H:Hp):∀(x0 x2 x3 x4 x5 x7 x8:Option V)(sd:Addr)(mn:Int)(xs:List Int),σ=[x0,some (.int mn),x2,x3,x4,x5,some (.ref sd),x7,x8]->H sd=some (.lst (xs.map V.int))->xs.length<=200->0<=mn->mn<=500->(∀(l:Addr)(H':Hp),H l=none->Same H H'->H' l=some (.lst ((sv mn xs).map V.int))->Dn.rt (.ref l) H'):=0
def CP(F:#["say","Machine.say",vv])(B:Bl mg)(TM:MTxt K mg CM)(TA:ATxt K mg CA)(hmost:∃t,mg "MOST_ROWS_DONE"=some (.int 200 t))
 (MA:Mk K CA fA)(GA:#[1,fA,fdA,Wc,spAInit CA])(bA:Binds K fdA Wc [])
 (mR:Meth K CM "do_row" fR)(GR:#[24,fR,fdR,Wl,spRowM CM CA CG])(bR:Binds K fdR Wl []):#[25,f,fd,Wm,spSay CM CG]:=by
 exists fN
 erw[M,g,h,b,dm,c,rv,z,rows,bx,m,1,hM,hh,RW,rq,BX,bo,mm,GG,ok,hc,mn0,mn1,q]at h;erw[a',b',d',tv,G,hga,hgb,TS,hgd]at GG;erw[te,ge]at hmost;let hr2:Room (1+1) _:=hr.mono ⋯;let hr7:Room 24 _:=hr.mono ⋯;refine⟨_,(aa #[am,5,fN,jy MA GA hr2 rfl TA.mgC bA .nil bh %[az (pv 0) rfl,az (pv 0) rfl,1,2,3,4|aQ]]
  (aa (aU (pv 0) (au aR (az (pv 0) rfl) ac) rfl)
  (aa #[am,6,fN,cP aQ]
  (aa #[am,7,fN,ac]
  (aa #[am,8,fN,ac]
  (aa (hJ zG1 (PW.pt (lS (af du (pv 7) (aE aF rfl B.len zB1 %[az (pv 0) rfl|aQ]) (ao _)) (lS (af du (aE aF rfl B.len zB1 %[6|aQ]) (pv 1) (ao _)) (kN (af du (pv 8) (cY (v:=.int 200) rfl ge ⟨_,rfl⟩) (ao _)))))) (aa #[am,7,fN,bJ (pv 0) TM.cl mR GR hr7 bR .nil bh %[7,6,5|aQ]]
   (ad #[am,8,fN,au aR (pv 8) ac])))
  (dO (t':=tSayE) (ad (aq (au lY (pv 6) (au Er (cP %[ac|aQ]) (au bc (pv 1) (aE aF rfl B.len zB1 %[6|aQ])))))) (by
   rintro Dn σ H ⟨x0,x2,x3,x4,x5,x7,x8,sd,mn,xs,rfl,hsd,xl,mn0,mn1,q⟩;erw[0,y1S,λz hz=>?_];let I1:=zC0 hz (.lst [.int 0]);let g1:upd H z (.lst [.int 0]) z=some (.lst [.int 0]):=aO;generalize upd H z (.lst [.int 0])=H1 at I1 g1;erw[0,0,sd,0,.inl (zG0 (I1 _ _ hsd)),2,6];let el:((xs.map V.int).length:Int)=(xs.length:Int):=by rw[zF0]
   erw[z,2,g1,3,3,cg (by show 1*(mn-((xs.map V.int).length:Int)).toNat<=1000;omega),λy hy=>?_];rw[Ai];let I2:=zC0 hy (.lst (List.replicate (mn-((xs.map V.int).length:Int)).toNat (.int 0)));let g2:upd H1 y (.lst (List.replicate (mn-((xs.map V.int).length:Int)).toNat (.int 0))) y=some (.lst (List.replicate (mn-((xs.map V.int).length:Int)).toNat (.int 0))):=aO;generalize upd H1 y (.lst (List.replicate (mn-((xs.map V.int).length:Int)).toNat (.int 0)))=H2 at I2 g2;erw[sd,y,2,I2 _ _ (I1 _ _ hsd),g2,6,λl hl=>?_]
   . rw[zU1,zF0];exact cg #[0]
   apply q l _ ?_ (I1.trans (I2.trans (zC0 hl _))) ?_
   . cases e:H l with
     |none=>rfl
     |some o=>rw[I2 _ _ (I1 _ _ e)]at hl;cases hl
   . rw[aO,el];unfold sv;rw[zK0,List.map_replicate])))))))),?_⟩
 erw[0,M,CM,dm,_,0,hM,TM.cl,TM.nG,ml_g,0,M,CM,dm,_,0,hM,TM.cl,TM.nR,ml_r,0,0,0,0,λk dk hk hdk nk=>?_];let S1:Same H (upd (upd H dk (.own k)) k (.ins CA dk [])):=λa o e=>by
  rw[aD (aX e hk),aD (aX e hdk)];exact e
 let g1:upd (upd H dk (.own k)) k (.ins CA dk []) k=some (.ins CA dk []):=aO;generalize upd (upd H dk (.own k)) k (.ins CA dk [])=H1 at S1 g1;erw[k,dk,g,c,z.nr,z.mn,z.hd,z.s,z.to.map V.int,1,g1,hc.imp (S1 _ _) (S1 _ _),λaT H2 hk2 hT2 S2=>%[1|6]];let S02:Same H H2:=Same.but S1 hk S2;clear S1 S2 g1;let hM2:=S02 _ _ hM;erw[0,M,CM,dm,_,0,hM2,TM.cl,TM.nR,ml_r,2,0,M,CM,dm,0,hM2,TM.cl,TM.nR,Ez,6];rw[Ey];let nMk:M≠k:=aX hM hk;let S3:SameBut M H2 (upd H2 M (.ins CM dm (ml g h (z.nr+1) b))):=SameBut.upd _;let hM3:upd H2 M (.ins CM dm (ml g h (z.nr+1) b)) M=some (.ins CM dm (ml g h (z.nr+1) b)):=aO;generalize upd H2 M (.ins CM dm (ml g h (z.nr+1) b))=H3 at S3 hM3;erw[y0S,λsd hsd=>?_];let I4:=zC0 hsd (.lst []);let g4:upd H3 sd (.lst []) sd=some (.lst []):=aO;generalize upd H3 sd (.lst [])=H4 at I4 g4;let gM:g≠M:=λe=>by
  erw[dg,hg]at G;rw[e,hM]at hg;cases hg
 let nbM:b≠M:=by
  erw[JA,e,_]at BX;exact bi e hM nofun
 let S04:SameBut M H H4:=(zJ0 S02).trans (S3.trans (zJ0 I4));let hM4:=I4 _ _ hM3;let kT:bN H H4:=λc xs h=>S04 c _ (bi h hM nofun) h
 let hh4:=kT _ _ hh;let RW4:=RW.mono kT;let BX4:BxAt H4 b bx m:=BX.keep λo e=>S04 b o nbM e
 let G4:GameAt CG H4 g a' b' d' z.p:=by
  erw[dg,hg]at G;erw[dg,S04 _ _ gM hg]
 let hT4:H4 aT=some (.tup (z.to.map V.int)):=I4 _ _ (S3 _ _ (bi hT2 hM2 nofun) hT2);let hgd4:=S04 _ _ (bi hgd hM nofun) hgd;let nds:d'≠sd:=aX (S3 _ _ (bi hgd hM nofun) (S02 _ _ hgd)) hsd;let hk4:=I4 _ _ (S3 _ _ nMk.symm hk2);let b4:∃JA,H4 b=some (.dK JA):=by
  erw[JA,e,_]at BX4;erw[JA,e]
 erw[kv4,hb4]at b4;let nbs:b≠sd:=bi hb4 g4 nofun;let nhb:h≠b:=bi hh4 hb4 nofun;let nhs:h≠sd:=bi hh4 g4 nofun;let nMs:M≠sd:=bi hM4 g4 nofun;let nkb:k≠b:=bi hk4 hb4 nofun;let nks:k≠sd:=bi hk4 g4 nofun;let AK4:AkAt CA CG H4 k g sd z:=%[dk,aT,a',b',d',tv,.non,hk4,G4,kT _ _ hga,kT _ _ hgb,TS.mono kT,hgd4,nds,hT4|.inl rfl]
 let sd0:H sd=none:=by
  cases e:H sd with
  |none=>rfl
  |some o=>rw[S3 _ _ nMs.symm (S02 _ _ e)]at hsd;cases hsd
 erw[λmm σ H'=>∃(st:MS)(d:Nat),σ=[some (.ref M),some (.int z.mn),some (.int z.hd),some (.int z.s),some (.ref c),some (.ref k),some (.ref sd),some (.int st.pl),some (.int (d:Int))]/\d<=200/\mm=200-d/\0<=st.pl/\st.sd.length<=d/\qk z rows (200-d) st=qk z rows 200 %[(0),bx|[]]/\H' sd=some (.lst (st.sd.map V.int))/\BxAt H' b st.bx (m+d)/\jJ z.p st.bx/\cy st.sd z.p/\AkAt CA CG H' k g sd z/\But3 b sd k H4 H',%[_,%[(0),bx|[]],(0),1,zQ0 _,1,qB1 0,zH0 _,1,g4,BX4,bo,(λx hx=>by cases hx),AK4|λ_ _ _ _ _ e=>e],6]
 rintro mm σ H' ⟨st,d,rfl,d2,rfl,st0,sl,hrun,hsd',BX',bo',so',AK',S'⟩;let hM':=S' _ _ nbM.symm nMs nMk hM4;let hh':=S' _ _ nhb nhs (bi hh4 hk4 nofun) hh4;let kT':bN H4 H':=λc xs h=>S' c _ (bi h hb4 nofun) (bi h g4 nofun) (bi h hk4 nofun) h
 let RW':=RW4.mono kT';let fin:qk z rows (200-d) st=st->∀(l:Addr)(H5:Hp),H' l=none->Same H' H5->H5 l=some (.lst ((sv z.mn st.sd).map V.int))->Q (.ref l) H5:=λer l H5 l0 S5 hl=>by
  rw[er]at hrun;rw[←hrun]at q;apply q l H5 ?_ hl ((BX'.keep λo e=>S5 b o e).le #[0]) (S5 _ _ hM') (λa o h1 h2 e=>?_)
  . cases e:H l with
    |none=>rfl
    |some o=>
      let lM:l≠M:=λz=>by rw[z,hM']at l0;cases l0
      let lb:l≠b:=λz=>by
       erw[JA,e',_]at BX';rw[z,e']at l0;cases l0
      let ls:l≠sd:=λz=>by rw[z,hsd']at l0;cases l0
      rw[S' _ _ lb ls (aX e hk) (S04 _ _ lM e)]at l0;cases l0
  . exact S5 _ _ (S' _ _ h2 (aX e sd0) (aX e hk) (S04 _ _ h1 e))
 erw[0,0,M,CM,dm,_,0,hM',TM.cl,TM.nH,EA,h,0,.inr (zB0 hh'),2,0,6];rw[RW.1]
 by_cases c1:st.pl<(rows.length:Int)
 . apply aV c1 ?_;erw[0,sd,0,.inl (zG0 hsd'),0,2,0,6];rw[zF0]
   by_cases c2:(st.sd.length:Int)<z.mn
   . apply aV c2 ?_;erw[0,2,0,6]
     by_cases c3:d<200
     . apply aV #[0] ?_;erw[_,λ_ _ h=>h,6];erw[0,M,dm,0,hM',ml_n1,0,0,0,M,g,h,b,dm,k,sd,rv,_,st.pl,z,rows,st.bx,m+d,st.sd,1,hM',nMk,hh',RW',rq,st0,c1,BX',bo',3,hsd',3,AK',ok,λH6 hs6 BX6 A6 S6=>?_];erw[0,2,6];erw[_,(show 200-(d+1)<200-d by omega),gH z rows st,d+1,1,c3,1,zJ rq st0,zM0 tI (zF1 sl),6,hs6,BX6,(ow ok bo' so').1,(ow ok bo' so').2,A6,S'.trans S6];rw[←hrun,show 200-d=(200-(d+1))+1 by omega];exact(JB ⟨c1,c2⟩).symm
     . apply ay #[0] ?_;let ed:200-d=0:=#[0]
       erw[_,_,_,_,_,_,_,sd,z.mn,st.sd,1,hsd',3,mn0,mn1,fin (by rw[ed];rfl)]
   . apply ay c2 (cV ?_);erw[_,_,_,_,_,_,_,sd,z.mn,st.sd,1,hsd',3,mn0,mn1,fin ?_];cases 200-d with
     |zero=>rfl
     |succ n=>exact Jy (λz=>c2 z.2)
 . apply ay c1 (cV ?_);erw[_,_,_,_,_,_,_,sd,z.mn,st.sd,1,hsd',3,mn0,mn1,fin ?_];cases 200-d with
   |zero=>rfl
   |succ n=>exact Jy (λz=>c1 z.1)
end
section
variable {ns:List Str}{ts:List Tr}{p:Int}
def sX(k:GmK ns ts p)(x:Str):0<=bO ts x/\bO ts x<=400:=by
 let t0:ts≠[]:=λz=>by have:=k.t1;rw[z]at this;cases this
 have:=iZ (ns:=ts.map λt=>(t.names.count x:Int)) #[t0,0]
 let%[t,ht|e]:=List.mem_map.mp this;unfold bO;rw[←e];let h1:=jT1 (a:=x) (l:=t.names);let h2:=t.names_len;let h3:=(k.tok t ht).2.2.2;omega
end
structure HearOk(ns:List Str)(p:Int)(z:Db)(xs:List Int):Prop where
 aw:z.aw=(("hear":Str),some (xs.length:Int))
 xo:cy xs p
 x5:xs.length<=500
 ro:z.cl≠[]->jT xs p
 tl:z.to.length<=ns.length
 po:cy z.to p
structure TossOk(ns:List Str)(p:Int)(z:Db)(r:Int):Prop where
 aw:z.aw.1="coin"
 r0:0<=r
 r1:r<p
 tl:z.to.length<=ns.length
 ro:z.he≠[]->jT z.he p/\z.to.length<ns.length
 po:cy z.to p
section
variable {C CG cT cC cN:Addr}
structure Gd(ns:List Str)(ts:List Tr)(p:Int)(z:Db):Prop where
 tl:z.to.length<=ns.length
 po:cy z.to p
 e0:0<=z.ed
 e1:z.ed<p
 he:z.aw.1="hear" -> (z.cl=[]/\z.aw=(("hear":Str),some (ts.length:Int)))∨(z.cl≠[]/\z.to.length<ns.length/\z.aw=(("hear":Str),some (bO ts (ns.getD z.to.length "")+1)))
 co:z.aw.1="coin" -> z.cl≠[]/\(z.he≠[]->jT z.he p/\z.to.length<ns.length)
 h0:z.cl=[]->z.he=[]
 ww:AwW z.aw.1
section
variable {ns:List Str}{ts:List Tr}{p:Int}{z:Db}
def Gd.new(k:GmK ns ts p):Gd ns ts p (Db.new ts):=by
 have:=k.p2
 erw[zQ0 _,(λx hx=>by cases hx),qB1 _,(by show(0:Int)<p;omega),λ_=>.inl %[1|1],(λh=>by cases h),λ_=>rfl,.inl rfl]
def Gd.goOn(tl:z.to.length<=ns.length)(po:cy z.to p)(e0:0<=z.ed)(e1:z.ed<p)(cl:z.cl≠[]):Gd ns ts p (goOn ns ts p z):=by
 unfold Mine.goOn
 by_cases c:z.to.length<ns.length
 . rw[JB c];erw[tl,po,e0,e1,λ_=>.inr %[cl,c|1],(λh=>by cases h),λh=>absurd h cl,.inl rfl]
 . rw [Jy c];unfold eQ
   by_cases e:z.ed=hor z.s p (ts.map λt=>t.worth ns z.to p)
   . rw[JB e];erw[tl,po,e0,e1,(λh=>by cases h),(λh=>by cases h),λh=>absurd h cl,.inr (.inr (.inr rfl))]
   . rw[Jy e];erw[tl,po,e0,e1,(λh=>by cases h),(λh=>by cases h),λh=>absurd h cl,.inr (.inr (.inl rfl))]
def Gd.hear_ne(k:GmK ns ts p)(h:Gd ns ts p z)(ok:HearOk ns p z xs):xs≠[]:=λe=>by
 let a:=ok.aw;rw[e,zM1]at a;let t1:=k.t1;rcases h.he (by rw[a])with⟨_,w⟩ | ⟨_,_,w⟩
 . rw [w]at a
   have:=zT0 (Prod.mk.inj a).2
   omega
 . rw [w]at a
   have:=zT0 (Prod.mk.inj a).2
   have:=sX k (ns.getD z.to.length "")
   omega
def Gd.hear(k:GmK ns ts p)(h:Gd ns ts p z)(ok:HearOk ns p z xs):Gd ns ts p (cS ns ts p xs z)/\(cS ns ts p xs z).cl≠[]:=by
 let p2:=k.p2;let xn:=h.hear_ne k ok;let a1:z.aw.1="hear":=by rw[ok.aw]
 unfold cS
 by_cases c:z.cl=[]
 . rw [JB c];unfold lj
   by_cases c1:ts.length=1
   . rw [JB c1];unfold wE;let hr:=nZ (s:=0) (p:=p) #[0] xs;erw[Gd.goOn h.tl h.po hr.1 hr.2 xn,6];unfold Mine.goOn eQ
     split <;> exact xn
   . rw[Jy c1];erw[%[h.tl,h.po,h.e0,h.e1,(λz=>by cases z),λ_=>%[xn|λe=>absurd (h.h0 c) e],λe=>absurd e xn|.inr (.inl rfl)],xn]
 . rw [Jy c];unfold fc;let tl:z.to.length<ns.length:=by
    rcases h.he a1 with⟨e,_⟩ | ⟨_,t,_⟩
    . exact absurd e c
    . exact t
   by_cases e:(val p xs 0+val p xs 1) % p=z.ed
   . rw[JB e];erw[%[h.tl,h.po,h.e0,h.e1,(λz=>by cases z),λ_=>%[c|λ_=>%[ok.ro c|tl]],λe=>absurd e c|.inr (.inl rfl)],c]
   . rw[Jy e];erw[%[h.tl,h.po,h.e0,h.e1,(λz=>by cases z),(λz=>by cases z),λe=>absurd e c|.inr (.inr (.inl rfl))],c]
def Gd.toss(k:GmK ns ts p)(h:Gd ns ts p z)(ok:TossOk ns p z r):Gd ns ts p (di ns ts p r z)/\(di ns ts p r z).cl≠[]:=by
 let p2:=k.p2;let%[cl|ro]:=h.co ok.aw;unfold di
 by_cases c:z.he=[]
 . rw [JB c];unfold wE;let hr:=nZ (s:=r) (p:=p) #[0] z.cl;erw[Gd.goOn h.tl h.po hr.1 hr.2 cl,6];unfold Mine.goOn eQ
   split <;> exact cl
 . rw [Jy c];let hr:=Cd (p:=p) #[0] z.he r;erw[Gd.goOn ?_ (λx hx=>?_) hr.1 hr.2 cl,6]
   . show (z.to++[r]).length<=_;rw[zL0,qN0]
     have:=(ro c).2
     omega
   . rcases qJ0 hx with h' | h'
     . exact h.po x h'
     . rw[zP0 h'];erw[ok.r0,ok.r1]
   . unfold Mine.goOn eQ
     split <;> exact cl
end
end
structure Tk where
 z:Db
 bx:Str->Int
 nr:Int
def awN(z:Db):Int:=z.aw.2.getD 0
def Tk.ak(ns:List Str)(ts:List Tr)(p:Int)(t:Tk):Ak:=%[ns,ts,p,t.nr,awN t.z,t.z.ed,t.z.s|t.z.to]
def Tk.run(ns:List Str)(ts:List Tr)(p:Int)(rows:List Hr)(t:Tk):MS:=qk (t.ak ns ts p) rows 200 %[(0),t.bx|[]]
def Tk.said(ns:List Str)(ts:List Tr)(p:Int)(rows:List Hr)(t:Tk):List Int:=sv (awN t.z) (t.run ns ts p rows).sd
def Tk.ask(ns:List Str)(ts:List Tr)(p:Int)(rows:List Hr)(t:Tk):Tk:=%[cS ns ts p (t.said ns ts p rows) t.z,(t.run ns ts p rows).bx|t.nr+1]
def Tk.toss(ns:List Str)(ts:List Tr)(p r:Int)(t:Tk):Tk:=%[di ns ts p r t.z,t.bx|t.nr]
def Tk.new(ts:List Tr):Tk:=%[Db.new ts,λ_=>0|(0)]
def bZ(ns:List Str)(z:Db):Nat:=if z.aw.1="hear" then 2*(ns.length-z.to.length)else if z.aw.1="coin" then(if z.he=[]then 2*ns.length+1 else 2*(ns.length-z.to.length)-1)else 0
def cw(ns:List Str)(z:Db):Nat:=if z.aw.1="hear" then ns.length-z.to.length else if z.aw.1="coin" then(if z.he=[]then ns.length+1 else ns.length-z.to.length)else 0
structure TkOk(ns:List Str)(ts:List Tr)(p:Int)(t:Tk):Prop where
 gd:Gd ns ts p t.z
 cl:t.z.cl≠[]
 s0:0<=t.z.s
 s1:t.z.s<p
 bo:jJ p t.bx
 nr:1<=t.nr
 fi:t.z.aw.1="coin" -> t.z.he=[]->t.z.to=[]
section
variable {ns:List Str}{ts:List Tr}{p:Int}{t:Tk}{rows:List Hr}
def kZ:¬ (("coin":Str)="hear"):=by decide
def DJ:¬ (("caught":Str)="hear"):=by decide
def ne_w3:¬ (("caught":Str)="coin"):=by decide
def ne_w4:¬ (("believed":Str)="coin"):=by decide
def sU(z:Db):(goOn ns ts p z).s=z.s/\(goOn ns ts p z).to=z.to/\(goOn ns ts p z).he=z.he/\(goOn ns ts p z).cl=z.cl:=by
 unfold goOn eQ
 split <;> erw[1,1,1,1]
def oa(z:Db):¬ (goOn ns ts p z).aw.1="coin":=by
 unfold goOn eQ
 split
 . exact λh=>kZ h.symm
 . show ¬ (if _ then _ else _:Str×Option Int).1="coin"
   split
   . exact ne_w4
   . exact ne_w3
def mh(z:Db):bZ ns (goOn ns ts p z)<=2*(ns.length-z.to.length)/\cw ns (goOn ns ts p z)<=ns.length-z.to.length:=by
 let%[_,e|_]:=sU (ns:=ns) (ts:=ts) (p:=p) z;let no:=oa (ns:=ns) (ts:=ts) (p:=p) z;unfold bZ cw;rw[e,Jy no,Jy no]
 constructor <;> split <;> omega
def TkOk.ak(k:GmK ns ts p)(n6:ns.length<=6)(h:TkOk ns ts p t)(hw:t.z.aw.1="hear"):AkOk (t.ak ns ts p)/\0<=awN t.z/\awN t.z<=500/\t.z.to.length<ns.length/\t.z.aw=(("hear":Str),some (awN t.z))/\awN t.z=bO ts (ns.getD t.z.to.length "")+1:=by
 rcases h.gd.he hw with⟨e,_⟩ | ⟨_,tl,aw⟩
 . exact absurd e h.cl
 let ea:awN t.z=bO ts (ns.getD t.z.to.length "")+1:=by unfold awN;rw[aw];rfl
 let%[d0|d4]:=sX k (ns.getD t.z.to.length "");let nr:=h.nr;erw[%[k,n6,by show 0<=t.nr;omega,λ_=>tl,h.gd.po,h.s0,h.s1,h.gd.e0,h.gd.e1|by show t.z.to.length<=100;omega],3,3,tl,by rw[ea];exact aw,ea]
def TkOk.hear(k:GmK ns ts p)(n6:ns.length<=6)(h:TkOk ns ts p t)(hw:t.z.aw.1="hear"):HearOk ns p t.z (t.said ns ts p rows):=by
 let%[ok,a0,a5,tl,aw|ea]:=h.ak k n6 hw;let p2:=k.p2;let p9:=k.p9;let%[_,r2|r3]:=kM (rows:=rows) ok 200 %[(0),t.bx|[]] h.bo (λx hx=>by cases hx) a0;let xo:cy (t.said ns ts p rows) p:=wR r2 (by show 0<p;omega);let xl:((t.said ns ts p rows).length:Int)=awN t.z:=tV r3;let hx:ns.getD t.z.to.length ""∈ns:=by
  rw[qQ0,zS0 tl];exact qO0 tl
 let%[d0|d1]:=k.deg _ hx;let%[_|d4]:=sX k (ns.getD t.z.to.length "");erw[by rw[xl];exact aw,xo,3,λ_=>%[3,3,3|λj=>?_],h.gd.tl,h.gd.po]
 have:=lp xo #[0] j
 omega
def wp(z:Db)(xs:List Int)(x0:xs≠[]):bZ ns (fc p xs z)<=2*(ns.length-z.to.length)-1/\cw ns (fc p xs z)<=ns.length-z.to.length:=by
 let h1:(fc p xs z).to=z.to:=rfl;let h2:(fc p xs z).he=xs:=rfl;unfold bZ cw;rw[h1,h2,Jy x0,Jy x0];let nh:¬ (fc p xs z).aw.1="hear":=by
  unfold fc;show ¬ (if _ then _ else _:Str×Option Int).1="hear"
  split
  . exact kZ
  . exact DJ
 rw[Jy nh,Jy nh]
 constructor <;> split <;> omega
def TkOk.ask(k:GmK ns ts p)(n6:ns.length<=6)(h:TkOk ns ts p t)(hw:t.z.aw.1="hear"):TkOk ns ts p (t.ask ns ts p rows)/\bZ ns (t.ask ns ts p rows).z<bZ ns t.z/\cw ns (t.ask ns ts p rows).z<=cw ns t.z/\¬ (t.ask ns ts p rows).z.aw.1="hear":=by
 let%[ok,a0,a5,tl,aw|ea]:=h.ak k n6 hw;let ho:=h.hear (rows:=rows) k n6 hw;let%[r1,_|_]:=kM (rows:=rows) ok 200 %[(0),t.bx|[]] h.bo (λx hx=>by cases hx) a0;let%[g1|g2]:=h.gd.hear k ho;let x0:=h.gd.hear_ne k ho;let e:cS ns ts p (t.said ns ts p rows) t.z=fc p (t.said ns ts p rows) { t.z with pl:=t.z.pl+((t.said ns ts p rows).length:Int) }:=Jy h.cl;let nr:=h.nr;let%[l1|l2]:=wp (ns:=ns) (p:=p) { t.z with pl:=t.z.pl+((t.said ns ts p rows).length:Int) } _ x0;let s1:bZ ns t.z=2*(ns.length-t.z.to.length):=JB hw;let s2:cw ns t.z=ns.length-t.z.to.length:=JB hw;erw[%[g1,g2,6,6,r1,by show 1<=t.nr+1;omega|λ_ he=>?_],6,6,6]
 . show 0<=(cS ns ts p _ t.z).s;rw[e];exact h.s0
 . show(cS ns ts p _ t.z).s<p;rw[e];exact h.s1
 . have:(cS ns ts p (t.said ns ts p rows) t.z).he=[]:=he
   rw[e]at this;exact absurd this x0
 . show bZ ns (cS ns ts p _ t.z)<_;rw[e,s1];let l1':bZ ns (fc p (t.said ns ts p rows) { t.z with pl:=t.z.pl+((t.said ns ts p rows).length:Int) })<=2*(ns.length-t.z.to.length)-1:=l1;omega
 . show cw ns (cS ns ts p _ t.z)<=_;rw[e,s2];exact l2
 . show ¬ (cS ns ts p _ t.z).aw.1="hear";rw[e];unfold fc;show ¬ (if _ then _ else _:Str×Option Int).1="hear"
   split
   . exact kZ
   . exact DJ
def TkOk.tossOk(h:TkOk ns ts p t)(hw:t.z.aw.1="coin"){r:Int}(r0:0<=r)(r1:r<p):TossOk ns p t.z r:=%[hw,r0,r1,h.gd.tl,(h.gd.co hw).2|h.gd.po]
def TkOk.toss(k:GmK ns ts p)(h:TkOk ns ts p t)(hw:t.z.aw.1="coin"){r:Int}(r0:0<=r)(r1:r<p):TkOk ns ts p (t.toss ns ts p r)/\bZ ns (t.toss ns ts p r).z<bZ ns t.z/\cw ns (t.toss ns ts p r).z+1<=cw ns t.z/\¬ (t.toss ns ts p r).z.aw.1="coin"/\(t.z.he=[]->(t.toss ns ts p r).z.s=r/\(t.toss ns ts p r).z.to=[])/\(t.z.he≠[]->(t.toss ns ts p r).z.s=t.z.s/\(t.toss ns ts p r).z.to=t.z.to++[r]):=by
 let ok:=h.tossOk hw r0 r1;let%[g1|g2]:=h.gd.toss k ok;let nh:¬ t.z.aw.1="hear":=by rw[hw];exact kZ
 let s1:bZ ns t.z=if t.z.he=[]then 2*ns.length+1 else 2*(ns.length-t.z.to.length)-1:=by unfold bZ;rw[Jy nh,JB hw]
 let s2:cw ns t.z=if t.z.he=[]then ns.length+1 else ns.length-t.z.to.length:=by unfold cw;rw[Jy nh,JB hw]
 let nr:=h.nr
 by_cases c:t.z.he=[]
 . let et:=h.fi hw c;let e:di ns ts p r t.z=goOn ns ts p { t.z with pl:=t.z.pl+1,s:=r,ed:=hor r p t.z.cl }:=JB c;let lw:=sU (ns:=ns) (ts:=ts) (p:=p) { t.z with pl:=t.z.pl+1,s:=r,ed:=hor r p t.z.cl };let ll:=mh (ns:=ns) (ts:=ts) (p:=p) { t.z with pl:=t.z.pl+1,s:=r,ed:=hor r p t.z.cl };let ln:=oa (ns:=ns) (ts:=ts) (p:=p) { t.z with pl:=t.z.pl+1,s:=r,ed:=hor r p t.z.cl };rw[←e]at lw ll ln;erw[w1,w2,w3,w4]at lw;let l1:bZ ns (di ns ts p r t.z)<=2*(ns.length-t.z.to.length):=ll.1;let l2:cw ns (di ns ts p r t.z)<=ns.length-t.z.to.length:=ll.2;rw[JB c]at s1 s2;erw[%[g1,g2,6,6,h.bo,nr|λa=>absurd a ln],6,6,ln,λ_=>%[w1|w2.trans et],λz=>absurd c z]
   . show 0<=(di ns ts p r t.z).s;rw[w1];exact r0
   . show(di ns ts p r t.z).s<p;rw[w1];exact r1
   . show bZ ns (di ns ts p r t.z)<_;omega
   . show cw ns (di ns ts p r t.z)+1<=_;omega
 . let tl:=((h.gd.co hw).2 c).2;let e:di ns ts p r t.z=goOn ns ts p { t.z with pl:=t.z.pl+1,ed:=val p t.z.he r,to:=t.z.to++[r] }:=Jy c;let lw:=sU (ns:=ns) (ts:=ts) (p:=p) { t.z with pl:=t.z.pl+1,ed:=val p t.z.he r,to:=t.z.to++[r] };let ll:=mh (ns:=ns) (ts:=ts) (p:=p) { t.z with pl:=t.z.pl+1,ed:=val p t.z.he r,to:=t.z.to++[r] };let ln:=oa (ns:=ns) (ts:=ts) (p:=p) { t.z with pl:=t.z.pl+1,ed:=val p t.z.he r,to:=t.z.to++[r] };rw[←e]at lw ll ln;erw[w1,w2,w3,w4]at lw;let el:(t.z.to++[r]).length=t.z.to.length+1:=by rw[zL0];rfl
   let l1:bZ ns (di ns ts p r t.z)<=2*(ns.length-(t.z.to++[r]).length):=ll.1;let l2:cw ns (di ns ts p r t.z)<=ns.length-(t.z.to++[r]).length:=ll.2;rw[el]at l1 l2;rw[Jy c]at s1 s2;erw[%[g1,g2,6,6,h.bo,nr|λa=>absurd a ln],6,6,ln,λz=>absurd z c,λ_=>%[w1|w2]]
   . show 0<=(di ns ts p r t.z).s;rw[w1];exact h.s0
   . show(di ns ts p r t.z).s<p;rw[w1];exact h.s1
   . show bZ ns (di ns ts p r t.z)<_;omega
   . show cw ns (di ns ts p r t.z)+1<=_;omega
def sM(k:GmK ns ts p)(n6:ns.length<=6):AkOk ((Tk.new ts).ak ns ts p)/\awN (Tk.new ts).z=(ts.length:Int)/\HearOk ns p (Db.new ts) ‹Tk.s›/\jJ p (Tk.new ts).bx:=by
 let p2:=k.p2;let t1:=k.t1;let t10:=k.t10;let b0:jJ p (Tk.new ts).bx:=λx=>by show(0:Int)<=0/\(0:Int)<p;omega
 let ok:AkOk ((Tk.new ts).ak ns ts p):=%[k,n6,qB1 0,λz=>absurd z (by show ¬ (0:Int)<0;omega),(λx hx=>by cases hx),qB1 0,(by show(0:Int)<p;omega),qB1 0,(by show(0:Int)<p;omega)|zQ0 _]
 let%[_,r2|r3]:=kM (rows:=rows) ok 200 %[(0),(Tk.new ts).bx|[]] b0 (λx hx=>by cases hx) (by show(0:Int)<=(ts.length:Int);omega);let xl:(‹Tk.s›.length:Int)=(ts.length:Int):=tV r3;erw[ok,1,%[6,wR r2 (by show 0<p;omega),3,λz=>absurd rfl z,zQ0 _|λx hx=>by cases hx],b0];rw[xl];rfl
def sL(k:GmK ns ts p)(n6:ns.length<=6):TkOk ns ts p ‹Tk.a›/\bZ ns ‹Tk.a›.z<=2*ns.length+1/\cw ns ‹Tk.a›.z<=ns.length+(if 1<ts.length then 1 else 0)/\(1<ts.length->‹Tk.a›.z.aw=(("coin":Str),none)/\‹Tk.a›.z.he=[]/\‹Tk.a›.z.to=[])/\(¬ 1<ts.length->¬ ‹Tk.a›.z.aw.1="coin"/\‹Tk.a›.z.s=0/\‹Tk.a›.z.to=[]):=by
 let p2:=k.p2;let t1:=k.t1;let%[ok,_,ho|b0]:=sM (rows:=rows) k n6;let%[r1,_|_]:=kM (rows:=rows) ok 200 %[(0),(Tk.new ts).bx|[]] b0 (λx hx=>by cases hx) (by show(0:Int)<=(ts.length:Int);omega);let%[g1|g2]:=(Gd.new k).hear k ho;let e0:cS ns ts p ‹Tk.s› (Db.new ts)=lj ns ts p ‹Tk.s› { Db.new ts with pl:=(Db.new ts).pl+(‹Tk.s›.length:Int) }:=JB rfl
 by_cases c:ts.length=1
 . let e:cS ns ts p ‹Tk.s› (Db.new ts)=goOn ns ts p { Db.new ts with pl:=(Db.new ts).pl+(‹Tk.s›.length:Int),cl:=‹Tk.s›,s:=0,ed:=hor 0 p ‹Tk.s› }:=by
    rw[e0];exact JB c
   let lw:=sU (ns:=ns) (ts:=ts) (p:=p) { Db.new ts with pl:=(Db.new ts).pl+(‹Tk.s›.length:Int),cl:=‹Tk.s›,s:=0,ed:=hor 0 p ‹Tk.s› };let ll:=mh (ns:=ns) (ts:=ts) (p:=p) { Db.new ts with pl:=(Db.new ts).pl+(‹Tk.s›.length:Int),cl:=‹Tk.s›,s:=0,ed:=hor 0 p ‹Tk.s› };let ln:=oa (ns:=ns) (ts:=ts) (p:=p) { Db.new ts with pl:=(Db.new ts).pl+(‹Tk.s›.length:Int),cl:=‹Tk.s›,s:=0,ed:=hor 0 p ‹Tk.s› };rw[←e]at lw ll ln;erw[w1,w2,w3,w4]at lw;let l1:bZ ns (cS ns ts p ‹Tk.s› (Db.new ts))<=2*(ns.length-0):=ll.1;let l2:cw ns (cS ns ts p ‹Tk.s› (Db.new ts))<=ns.length-0:=ll.2;erw[%[g1,g2,6,6,r1,by show(1:Int)<=0+1;decide|λa=>absurd a ln],6,6,λz=>#[0],λ_=>%[ln,w1|w2]]
   . show 0<=(cS ns ts p _ (Db.new ts)).s;rw[w1];exact qB1 0
   . show(cS ns ts p _ (Db.new ts)).s<p;rw[w1];show(0:Int)<p;omega
   . show bZ ns (cS ns ts p _ (Db.new ts))<=_;omega
   . show cw ns (cS ns ts p _ (Db.new ts))<=_;rw[Jy #[0]];omega
 . let e:cS ns ts p ‹Tk.s› (Db.new ts)={ Db.new ts with pl:=(Db.new ts).pl+(‹Tk.s›.length:Int),cl:=‹Tk.s›,aw:=("coin",none) }:=by
    rw[e0];exact Jy c
   let ez:‹Tk.a›.z={ Db.new ts with pl:=(Db.new ts).pl+(‹Tk.s›.length:Int),cl:=‹Tk.s›,aw:=("coin",none) }:=e;erw[%[g1,g2,6,6,r1,by show(1:Int)<=0+1;decide|λ_ _=>?_],6,6,λ_=>%[6,6|6],λz=>#[0]]
   . rw[ez];exact qB1 0
   . rw[ez];show(0:Int)<p;omega
   . rw[ez];rfl
   . rw[ez];show(if(("coin":Str)="hear")then _ else if(("coin":Str)="coin")then(if([]:List Int)=[]then 2*ns.length+1 else _)else 0)<=_;rw[Jy kZ,JB rfl,JB rfl];exact zH0 _
   . rw[ez];show(if(("coin":Str)="hear")then _ else if(("coin":Str)="coin")then(if([]:List Int)=[]then ns.length+1 else _)else 0)<=_;rw[Jy kZ,JB rfl,JB rfl,JB #[0]];exact zH0 _
   . rw[ez]
   . rw[ez];rfl
   . rw[ez];rfl
end
inductive TR where
 |claims (xs:List Int) | say (xs:List Int) | coin (r:Int)
def dH(ns:List Str)(ts:List Tr)(p:Int)(rows:List Hr):List Int->Nat->Tk->List TR×Tk
 |_,0,t=>([],t)
 | cs,n+1,t=>if t.z.aw.1="hear" then(.say (t.said ns ts p rows)::(dH ns ts p rows cs n (t.ask ns ts p rows)).1,(dH ns ts p rows cs n (t.ask ns ts p rows)).2)
   else if t.z.aw.1="coin" then(.coin (cs.headD 0)::(dH ns ts p rows cs.tail n (t.toss ns ts p (cs.headD 0))).1,(dH ns ts p rows cs.tail n (t.toss ns ts p (cs.headD 0))).2)
   else([],t)
def jK(ns:List Str)(ts:List Tr)(p:Int)(rows:List Hr)(cs:List Int):List TR×Tk:=(.claims ‹Tk.s›::(dH ns ts p rows cs 20 ‹Tk.a›).1,(dH ns ts p rows cs 20 ‹Tk.a›).2)
def lC{t:Tk}(h1:¬ t.z.aw.1="hear")(h2:¬ t.z.aw.1="coin"):∀n,dH ns ts p rows cs n t=([],t)
 |0=>rfl
 |n+1=>by
   show(if _ then _ else _)=_;rw[Jy h1,Jy h2]
section
variable {C CM CA CG:Addr}
structure TalkAt(C CM CG:Addr)(H:Hp)(D M g h b:Addr)(rows:List Hr)(ns:List Str)(ts:List Tr)(p:Int)(t:Tk)(m:Nat):Prop where
 DA:DbAt C H D g t.z
 G:Gm CG H g ns ts p
 hM:∃dm,H M=some (.ins CM dm (ml g h t.nr b))
 hh:∃rv,H h=some (.tup rv)/\RowsAt H rv rows
 BX:BxAt H b t.bx m
 ne:D≠M
def TalkAt.same(w:TalkAt C CM CG H D M g h b rows ns ts p t m)(s:Same H H'):TalkAt C CM CG H' D M g h b rows ns ts p t m:=by
 erw[DA,G,%[dm|hM],%[rv,hh|R],B,ne]at w;erw[DA.same s,G.same s,%[dm|s _ _ hM],%[rv,s _ _ hh|R.mono (bd s)],B.keep λo e=>s _ _ e,ne]
def DbAt.but2{C' dm:Addr}{fs:List (Str×V)}{JA:List (Key×V)}(h:DbAt C H D g z)(s:Dx M b H H')(hM:H M=some (.ins C' dm fs))(hb:H b=some (.dK JA))(ne:D≠M):DbAt C H' D g z:=by
 erw[dx,aA,aC,aH,aT,R]at h;let kT:bN H H':=λa xs e=>s _ _ (bi e hM nofun) (bi e hb nofun) e
 erw[dx,aA,aC,aH,aT,s _ _ ne (bi R.hD hb nofun) R.hD,kT _ _ R.hA,kT _ _ R.hC,kT _ _ R.hH,kT _ _ R.hT]
def Gm.but2{dm:Addr}{JA:List (Key×V)}(G:Gm CG H g ns ts p)(s:Dx M b H H')(hM:H M=some (.ins CM dm (ml g' h r b')))(hb:H b=some (.dK JA)):Gm CG H' g ns ts p:=by
 erw[a,b1,d,tv,%[dg|hg],h2,h3,h4,h5]at G;let kT:bN H H':=λa xs e=>s _ _ (bi e hM nofun) (bi e hb nofun) e
 let gM:g≠M:=λe=>by
  rw[e,hM]at hg;cases hg
 erw[a,b1,d,tv,%[dg|s _ _ gM (bi hg hb nofun) hg],kT _ _ h2,kT _ _ h3,h4.mono kT,s _ _ (bi h5 hM nofun) (bi h5 hb nofun) h5]
def TalkAt.doub(w:TalkAt C CM CG H D M g h b rows ns ts p t m)(s:SameBut D H H')(DA:DbAt C H' D g z'):TalkAt C CM CG H' D M g h b rows ns ts p %[z',t.bx|t.nr] m:=by
 erw[DA0,G,%[dm|hM],%[rv,hh|R],B,ne]at w;erw[dx,aA,aC,aH,aT,R0]at DA0;let kT:bN H H':=λa xs e=>s _ _ (bi e R0.hD nofun) e
 let%[JA,hb|_]:=id B;erw[DA,G.but R0.hD (G.ne R0.hD jg) s,%[dm|s _ _ ne.symm hM],%[rv,kT _ _ hh|R.mono kT],B.keep λo e=>s _ _ (bi hb R0.hD nofun) e,ne]
instance spAsked(C CM CG:Addr):∀(D M g h b:Addr) (rows:List Hr) (ns:List Str) (ts:List Tr) (p:Int) (t:Tk) (m:Nat),vs=[.ref M,.ref D]->TalkAt C CM CG H D M g h b rows ns ts p t m->GmK ns ts p->(∀r∈rows,r.good)->AkOk (t.ak ns ts p)->jJ p t.bx->t.z.aw=(("hear":Str),some (awN t.z))->0<=awN t.z->awN t.z<=500->HearOk ns p t.z (t.said ns ts p rows)->m<=5000->(∀(a:Addr) (H':Hp),H a=none->H' a=some (.tup ((t.said ns ts p rows).map V.int))->TalkAt C CM CG H' D M g h b rows ns ts p (t.ask ns ts p rows) (m+200)->But3 D M b H H'->Q (.ref a) H'):=1
def l7:FnScope ["machine","doubter","values"] Wu (ag iz):=%[|5]
structure Ways(P:Program)(w:World)(K:W.Frag)(mg:#[9])(base:Heap)(C CM CG fW fU fH fT fS:Addr)(fdW fdU fdH fdT fdS:FuncData):Prop where
 mW:Meth K C "waits" fW
 GW:#[1,fW,fdW,WA,spOf C λz v H=>∃a,v=.ref a/\H a=some (.tup (awV z.aw))]
 bW:Binds K fdW WA []
 mU:Meth K C "due" fU
 GU:#[1,fU,fdU,WA,spOf C λz v _=>v=.int z.ed]
 bU:Binds K fdU WA []
 mH:Meth K C "hear" fH
 GH:#[18,fH,fdH,WE,spHear C CG]
 bH:Binds K fdH WE []
 mT:Meth K C "toss" fT
 GT:#[17,fT,fdT,WN,spToss C CG]
 bT:Binds K fdT WN []
 mS:Meth K CM "say" fS
 GS:#[25,fS,fdS,Wm,spSay CM CG]
 bS:Binds K fdS Wm []
def TalkAt.asked{dm:Addr}{n1:Int}(w:TalkAt C CM CG H D M g h b rows ns ts p t m)(hM:H M=some (.ins CM dm (ml g h t.nr b)))(B1:BxAt H1 b (t.run ns ts p rows).bx (m+200))(hM1:H1 M=some (.ins CM dm (ml g h (t.nr+1) b)))(s1:Dx M b H H1)(e1:n1=t.nr+1):TalkAt C CM CG H1 D M g h b rows ns ts p %[t.z,(t.run ns ts p rows).bx|n1] (m+200):=by
 erw[DA0,G,_,%[rv,hh|R],B,ne]at w;let%[JA,hb|_]:=id B;let kT:bN H H1:=λa xs e=>s1 _ _ (bi e hM nofun) (bi e hb nofun) e
 subst e1;erw[DA0.but2 s1 hM hb ne,G.but2 s1 hM hb,%[dm|hM1],%[rv,kT _ _ hh|R.mono kT],B1,ne]
def qv(F:#["asked_once",iz])(B:Bl mg)(T:DTxt K mg C)(TM:MTxt K mg CM)(Y:Ways P w K mg base C CM CG fW fU fH fT fS fdW fdU fdH fdT fdS):#[26,f,fd,Wu,spAsked C CM CG]:=by
 exists l7
 erw[D,M,g,h,b,rows,ns,ts,p,t,m,1,W,k,rg,ok,bo,aw,a0,a5,ho,mm,q]at h;let hr1:Room 1 _:=hr.mono ⋯;let hr18:Room 18 _:=hr.mono ⋯;let hr25:Room 25 _:=hr.mono ⋯;refine⟨_,(aa #[am,2,l7,bJ (pv 0) TM.cl Y.mS Y.GS hr25 Y.bS .nil bh %[aJ ix_tup (ca (pv 1) T.cl Y.mW Y.GW hr1 Y.bW .nil bh) ac #[1],ca (pv 1) T.cl Y.mU Y.GU hr1 Y.bU .nil bh,az (pv 1) rfl,bv tf rfl B.list qb %[az (pv 1) rfl|aQ]|aQ]]
  (aa (aS (bJ (pv 1) T.cl Y.mH Y.GH hr18 Y.bH .nil bh %[2|aQ]))
  (ad (aq (bv bb rfl B.tuple bp %[2|aQ]))))),?_⟩
 erw[dm,hM]at W.hM;let DA:=W.DA;let%[dx,aA,aC,aH,aT|R]:=id DA;erw[0,M,dm,0,hM,ml_n2,0,D,dx,0,R.hD,qW,D,g,t.z,1,DA,λv hv=>?_];erw[av,1,hav]at hv;rw[aw]at hav;erw[av,_,(1),.int (awN t.z),1,1,zB0 hav,1,0,D,dx,0,R.hD,dl_n2,D,g,t.z,1,DA,λv hv=>?_];subst hv;erw[0,D,C,dx,_,0,R.hD,9,T.nS,dl_s,0,D,C,dx,_,0,R.hD,9,T.nT,yZ,aT,0,.inr (zB0 R.hT),λl hl=>?_];let I:=zC0 hl (.lst (t.z.to.map V.int));let g1:upd H l (.lst (t.z.to.map V.int)) l=some (.lst (t.z.to.map V.int)):=aO;generalize upd H l (.lst (t.z.to.map V.int))=H1 at I g1;let W1:=W.same I;erw[rv,hh,RW]at W1.hh;erw[M,g,h,b,dm,l,rv,t.ak ns ts p,rows,t.bx,m,1,I _ _ hM,hh,RW,rg,W1.BX,bo,mm,W1.G,ok,.inl g1,a0,a5,λl2 H2 l20 hl2 B2 hM2 S2=>?_];let hs:H2 l2=some (.lst ((t.said ns ts p rows).map V.int)):=hl2;let W2:=W1.asked (n1:=t.nr+1) (I _ _ hM) B2 hM2 S2 rfl;let%[dx2,_,_,_,_|R2]:=id W2.DA;erw[0,D,dx2,0,R2.hD,BG,0,D,g,l2,t.z,t.said ns ts p rows,ns,ts,p,1,W2.DA,W2.G,k,.inl hs,ho.aw,ho.xo,ho.x5,ho.ro,ho.tl,ho.po,λH3 S3 DA3=>?_];let W3:=W2.doub S3 DA3;let hs3:=S3 _ _ (bi hs R2.hD nofun) hs;erw[0,l2,0,.inl %[zG0 hs3|λa ha=>?_]];let J:=zC0 ha (.tup ((t.said ns ts p rows).map V.int));let fr:But3 D M b H H3:=λc o h1 h2 h3 e=>S3 _ _ h1 (S2 _ _ h2 h3 (I _ _ e))
 apply q a _ ?_ aO (W3.same J) (λc o h1 h2 h3 e=>J _ _ (fr c o h1 h2 h3 e));cases e:H a with
 |none=>rfl
 |some o=>
   erw[dx3,_,_,_,_,R3]at W3.DA;erw[dm3,hM3]at W3.hM;erw[JA,hb3,_]at W3.BX;let n1:a≠D:=λz=>by rw[z,R3.hD]at ha;cases ha
   let n2:a≠M:=λz=>by rw[z,hM3]at ha;cases ha
   let n3:a≠b:=λz=>by rw[z,hb3]at ha;cases ha
   rw[fr a o n1 n2 n3 e]at ha;cases ha
end
section
variable {C CM CA CG:Addr}
inductive TRAt(H:Hp):V->TR->Prop
 |claims {a b:Addr} {xs:List Int}:H a=some (.tup [.str "claims",.ref b])->H b=some (.tup (xs.map V.int))->TRAt H (.ref a) (.claims xs)
 |say {a b:Addr} {xs:List Int}:H a=some (.tup [.str "say",.ref b])->H b=some (.tup (xs.map V.int))->TRAt H (.ref a) (.say xs)
 |coin {a:Addr} {r:Int}:H a=some (.tup [.str "coin",.int r])->TRAt H (.ref a) (.coin r)
def TRAt.mono(k:bN H H')(h:TRAt H v r):TRAt H' v r:=by
 cases h with
 |claims e f=>exact .claims (k _ _ e) (k _ _ f)
 |say e f=>exact .say (k _ _ e) (k _ _ f)
 |coin e=>exact .coin (k _ _ e)
def TRsAt(H:Hp):List V->List TR->Prop
 | [],[]=>True
 |v::vs,r::rs=>TRAt H v r/\TRsAt H vs rs
 |_,_=>False
def TRsAt.mono(k:bN H H'):∀{vs:List V}{rs:List TR},TRsAt H vs rs->TRsAt H' vs rs
 | [],[],_=>trivial
 |_::_,_::_,h=>%[h.1.mono k|TRsAt.mono k h.2]
 | [],_::_,h=>h.elim
 |_::_,[],h=>h.elim
def TRsAt.snoc(hr:TRAt H v r):∀{vs:List V}{rs:List TR},TRsAt H vs rs->TRsAt H (vs++[v]) (rs++[r])
 | [],[],_=>%[hr|trivial]
 |_::_,_::_,h=>%[h.1|TRsAt.snoc hr h.2]
 | [],_::_,h=>h.elim
 |_::_,[],h=>h.elim
structure Told(H:Hp)(a:Addr)(x:List TR×Tk):Prop where
 ex:∃(b c:Addr)(vs:List V),H a=some (.tup [.ref b,.ref c])/\H b=some (.tup vs)/\TRsAt H vs x.1/\H c=some (.tup (awV x.2.z.aw))
def DL(o:Str):inV (.str o) [.str "hear",.str "coin"]=(decide (o="hear")||decide (o="coin")):=by
 show (("hear"==o)||(("coin"==o)||false))=_;rw[Bool.or_false];let e:∀z:Str,(z==o)=decide (o=z):=λz=>by
  by_cases c:o=z
  . subst c;simp
  . rw[zE1 c];simpa using λh=>c h.symm
 rw[e,e]
instance spTalked(C CM CG:Addr):∀(g h c:Addr)(rv:List V)(rows:List Hr)(ns:List Str)(ts:List Tr)(p:Int)(cs:List Int),vs=[.ref g,.ref h,.ref c]->Gm CG H g ns ts p->GmK ns ts p->ns.length<=6->H h=some (.tup rv)->RowsAt H rv rows->(∀r∈rows,r.good)->IntsAt H c cs->cy cs p->ns.length+(if 1<ts.length then 1 else 0)<=cs.length->cs.length<=100->(∀(a:Addr)(H':Hp),Same H H'->Told H' a (jK ns ts p rows cs)->Q (.ref a) H'):=1
def eY:FnScope ["game","helper","coins","machine","doubter","talk","tossed"] Wv (ag oF):=%[|5]
def BS(a:Str×Option Int):atI (awV a) 0=some (.str a.1):=bw (j:=0) (DP a)
def jW{n:Nat}{t:Tk}(h:t.z.aw.1="hear"):dH ns ts p rows cs (n+1) t=(.say (t.said ns ts p rows)::(dH ns ts p rows cs n (t.ask ns ts p rows)).1,(dH ns ts p rows cs n (t.ask ns ts p rows)).2):=JB h
def jX{n:Nat}{t:Tk}(h:t.z.aw.1="coin"):dH ns ts p rows cs (n+1) t=(.coin (cs.headD 0)::(dH ns ts p rows cs.tail n (t.toss ns ts p (cs.headD 0))).1,(dH ns ts p rows cs.tail n (t.toss ns ts p (cs.headD 0))).2):=by
 show(if _ then _ else if _ then _ else _)=_;rw[Jy (by rw[h];exact kZ),JB h]
def jo(h:TkOk ns ts p t)(hw:t.z.aw.1="hear"∨t.z.aw.1="coin"):1<=bZ ns t.z/\(t.z.aw.1="coin" -> 1<=cw ns t.z):=by
 rcases hw with hw | hw
 . let tl:t.z.to.length<ns.length:=by
    rcases h.gd.he hw with⟨e,_⟩ | ⟨_,tl,_⟩
    . exact absurd e h.cl
    . exact tl
   erw[6,λz=>absurd (z.symm.trans hw) kZ]
   have:bZ ns t.z=2*(ns.length-t.z.to.length):=JB hw
   omega
 . let nh:¬ t.z.aw.1="hear":=by rw[hw];exact kZ
   let s1:bZ ns t.z=if t.z.he=[]then 2*ns.length+1 else 2*(ns.length-t.z.to.length)-1:=by unfold bZ;rw[Jy nh,JB hw]
   let s2:cw ns t.z=if t.z.he=[]then ns.length+1 else ns.length-t.z.to.length:=by unfold cw;rw[Jy nh,JB hw]
   by_cases c:t.z.he=[]
   . rw[JB c]at s1 s2;erw[3,λ_=>#[0]]
   . let tl:=((h.gd.co hw).2 c).2;rw[Jy c]at s1 s2;erw[3,λ_=>#[0]]
def yX{cs:List Int}{u:Nat}(h:u<cs.length):(cs.drop u).headD 0=cs.getD u 0/\(cs.drop u).tail=cs.drop (u+1):=by
 rw[List.drop_eq_getElem_cons h,qQ0,zS0 h];erw[1,1]
def wW{K:W.Frag}{u:Nat}{Q:VK}(h:IntsAt H c cs)(hu:u<cs.length)(q:Q (.int (cs.getD u 0)) H):rIx K (.ref c) (.int (u:Int)) H Q:=
 h.elim (λe=>.inl %[c,_,2,zG0 e,li hu|q]) (λe=>.inr (.inl %[c,_,2,zB0 e,li hu|q]))
def TalkAt.put{L:Addr}{ys zs:List V}(w:TalkAt C CM CG H D M g h b rows ns ts p t m)(hL:H L=some (.lst ys))(G:Gm CG (upd H L (.lst zs)) g ns ts p):TalkAt C CM CG (upd H L (.lst zs)) D M g h b rows ns ts p t m:=by
 erw[%[dx,aA,aC,aH,aT|R],_,%[dm|hM],%[rv,hh|RR],B,ne]at w;let kT:bN H (upd H L (.lst zs)):=eR hL;let U:∀{c:Addr}{o:HO},c≠L->H c=some o->upd H L (.lst zs) c=some o:=λn e=>by rw[aD n];exact e
 let%[JA,hb|_]:=id B;erw[%[dx,aA,aC,aH,aT,U (bi R.hD hL nofun) R.hD,kT _ _ R.hA,kT _ _ R.hC,kT _ _ R.hH|kT _ _ R.hT],G,%[dm|U (bi hM hL nofun) hM],%[rv,kT _ _ hh|RR.mono kT],B.keep λo e=>U (bi hb hL nofun) e,ne]
def TRsAt.len:∀{vs:List V}{rs:List TR},TRsAt H vs rs->vs.length=rs.length
 | [],[],_=>rfl
 |_::_,_::_,h=>congrArg (·+1) (TRsAt.len h.2)
 | [],_::_,h=>h.elim
 |_::_,[],h=>h.elim
def yc(F:#["talked",oF])(B:Bl mg)(T:DTxt K mg C)(TM:MTxt K mg CM)(Y:Ways P w K mg base C CM CG fW fU fH fT fS fdW fdU fdH fdT fdS)
 (MD:Mk K C fI)(GD:#[1,fI,fdI,WO,spDInit C CG])(bD:Binds K fdI WO [])(MM:Mk K CM fM)(GM:#[1,fM,fdM,Wb,spMInit CM])(bM:Binds K fdM Wb [])
 (e9:#[26,"asked_once",Wu,spAsked C CM CG]):#[27,f,fd,Wv,spTalked C CM CG]:=by
 exists eY
 erw[g,h,c,rv,rows,ns,ts,p,cs,1,G,k,n6,hh,RW,rg,hc,co,cl,c100,q]at h;let hr1:Room 1 _:=hr.mono ⋯;let hr2:Room (1+1) _:=hr.mono ⋯;let hr17:Room 17 _:=hr.mono ⋯;refine⟨_,(aa #[am,3,eY,jy MM GM hr2 rfl TM.mgC bM .nil bh %[0,1|aQ]]
  (aa #[am,4,eY,jy MD GD hr2 rfl T.mgC bD .nil bh %[0|aQ]]
  (aa #[am,5,eY,cP %[aM %[aB,ai e9 hr ⋯ rfl %[3,4|aQ]|aQ]|aQ]]
  (aa #[am,6,eY,ac]
  (aa (hJ zG1 (af eP (aJ ix_tup (ca (pv 4) T.cl Y.mW Y.GW hr1 Y.bW .nil bh) ac #[1]) (aM %[aB,aB|aQ]) (by rfl')) (ad (aG (af aP (aJ ix_tup (ca (pv 4) T.cl Y.mW Y.GW hr1 Y.bW .nil bh) ac #[1]) aB (ao _)) (ad (aS (cW zC1 zH1 zI1 bV (pv 5) %[aM %[aB,ai e9 hr ⋯ rfl %[3,4|aQ]|aQ]|aQ]))) (aa (aS (bJ (pv 4) T.cl Y.mT Y.GT hr17 Y.bT .nil bh %[aJ Bk (pv 2) (pv 6) #[1]|aQ]))
   (aa (aS (cW zC1 zH1 zI1 bV (pv 5) %[aM %[aB,aJ Bk (pv 2) (pv 6) #[1]|aQ]|aQ]))
   (ad #[am,6,eY,au aR (pv 6) ac]))))))
  (ad (aq (aM %[bv bb rfl B.tuple bp %[5|aQ],ca (pv 4) T.cl Y.mW Y.GW hr1 Y.bW .nil bh|aQ])))))))),?_⟩
 erw[0,0,λM dm hM0 hdm0 nM=>?_];let K1:Same H (upd (upd H dm (.own M)) M (.ins CM dm [])):=λa o e=>by
  rw[aD (aX e hM0),aD (aX e hdm0)];exact e
 erw[M,g,h,dm,1,aO,λb H2 b0 hM2 hb2 S2=>%[1|6]];let T2:Same H H2:=Same.but K1 hM0 S2;let b00:H b=none:=K1.free b0;clear K1 S2 b0;erw[0,λD dd hD0 hdd0 nD=>?_];let K3:Same H2 (upd (upd H2 dd (.own D)) D (.ins C dd [])):=λa o e=>by
  rw[aD (aX e hD0),aD (aX e hdd0)];exact e
 let G2:=G.same T2;let gD:g≠D:=by
  erw[_,_,_,_,%[dg|hg],_]at G2;exact aX hg hD0
 erw[D,g,dd,ns,ts,p,1,aO,G2.same K3,gD,λH4 S4 DA4=>%[1|6]];let T24:Same H2 H4:=Same.but K3 hD0 S4;let T4:Same H H4:=T2.trans T24;let D00:H D=none:=T2.free hD0;let nDM:D≠M:=(aX hM2 hD0).symm;let W4:TalkAt C CM CG H4 D M g h b rows ns ts p (Tk.new ts) 0:=⟨DA4,G.same T4,⟨dm,T24 _ _ hM2⟩,⟨rv,T4 _ _ hh,RW.mono (bd T4)⟩,⟨[],T24 _ _ hb2,zH0 _,λ_=>rfl⟩,nDM⟩
 clear K3 S4 DA4 T24 hM2 hb2 G2 T2;let%[ak0,an0,ho0|bo0]:=sM (rows:=rows) k n6;let t1:=k.t1;let t10:=k.t10;erw[0,0,D,M,g,h,b,rows,ns,ts,p,Tk.new ts,(0),1,W4,k,rg,ak0,bo0,1,by rw[an0];omega,by rw[an0];omega,ho0,4,λa5 H5 a50 ha5 W5 S5=>?_];let T5:Same H H5:=λa o e=>S5 _ _ (aX e D00) (aX e hM0) (aX e b00) (T4 _ _ e)
 erw[y2S,λt6 h6=>%[y1S|λL hL=>?_]];let I6:=zC0 h6 (.tup [.str "claims",.ref a5]);let I7:=zC0 hL (.lst [.ref t6]);let R7:TRsAt (upd (upd H5 t6 (.tup [.str "claims",.ref a5])) L (.lst [.ref t6])) [.ref t6] [.claims ‹Tk.s›]:=%[.claims (I7 _ _ aO) (I7 _ _ (I6 _ _ ha5))|trivial]
 let g7:upd (upd H5 t6 (.tup [.str "claims",.ref a5])) L (.lst [.ref t6]) L=some (.lst [.ref t6]):=aO;let J7:=I6.trans I7;let L00:H L=none:=(T5.trans I6).free hL;generalize upd (upd H5 t6 (.tup [.str "claims",.ref a5])) L (.lst [.ref t6])=H7 at R7 g7 J7;let%[ok7,st7,co7|_]:=sL (rows:=rows) k n6;let W7:=W5.same J7;let T7:=T5.trans J7;clear I6 I7 J7 S5 T5 W5 W4 T4 ha5 h6 hL;erw[λmm σ H'=>∃(t:Tk) (n u m:Nat) (rs:List TR) (vs:List V),σ=[some (.ref g),some (.ref h),some (.ref c),some (.ref M),some (.ref D),some (.ref L),some (.int (u:Int))]/\mm=n/\bZ ns t.z<=n/\n<=20/\TalkAt C CM CG H' D M g h b rows ns ts p t m/\TkOk ns ts p t/\H' L=some (.lst vs)/\TRsAt H' vs rs/\(rs++(dH ns ts p rows (cs.drop u) n t).1,(dH ns ts p rows (cs.drop u) n t).2)=jK ns ts p rows cs/\cw ns t.z+u<=cs.length/\m+200*n<=4200/\rs.length+n<=21/\Same H H',%[(20),‹Tk.a›,(20),(0),(200),2,3,zH0 _,W7,ok7,g7,R7,1,3,4,(by show 1+20<=21;decide)|T7],6]
 clear st7 co7 ok7 W7 T7 R7 g7 ak0 an0 ho0 bo0;rintro mm σ H' ⟨t,n,u,m,rs,vs,rfl,rfl,sn,n20,W,ok,hL,TR,eq,cn,mn,rn,S⟩;let DA:=W.DA;let%[dx,aA,aC,aH,aT|R]:=id DA;let p2:=k.p2;let vl:=TR.len;erw[0,D,dx,0,R.hD,qW,D,g,t.z,1,DA,λv hv=>?_];erw[av,1,hav]at hv;erw[av,_,(0),0,1,zB0 hav,BS _,y2S,λc1 hc1=>?_];let I1:=zC0 hc1 (.tup [.str "hear",.str "coin"]);erw[c1,0,.inr (zB0 aO),1,1,0,6];generalize upd H' c1 (.tup [.str "hear",.str "coin"])=H1 at I1;let W1:=W.same I1;let DA1:=W1.DA;let hL1:=I1 _ _ hL;let TR1:=TR.mono (bd I1);let S1:=S.trans I1;let%[dx1,aA1,aC1,aH1,aT1|R1]:=id DA1;show if inV (.str t.z.aw.1) [.str "hear",.str "coin"]=true then _ else _
 rw[DL];clear W DA R hL TR S hav I1
 by_cases ch:t.z.aw.1="hear"
 . rw [zD1 ch,Bool.true_or];apply dL ?_;erw[_,λ_ _ h=>h,6];erw[0,D,dx1,0,R1.hD,qW,D,g,t.z,1,DA1,λv hv=>?_];erw[av2,1,hav2]at hv;erw[av2,_,(0),0,1,zB0 hav2,BS _,1,0,aV (congrArg V.str ch) ?_];let sp:=(jo ok (.inl ch)).1;obtain⟨n',rfl⟩:∃n',mm=n'+1:=⟨mm-1,#[0]⟩
   let%[ak,a0,a5,tl,aw|ea]:=ok.ak k n6 ch;let ho:=ok.hear (rows:=rows) k n6 ch;let%[ok',st',co'|_]:=ok.ask (rows:=rows) k n6 ch;erw[0,.inl %[1,_|zG0 hL1],0,0,D,M,g,h,b,rows,ns,ts,p,t,m,1,W1,k,rg,ak,ok.bo,aw,a0,a5,ho,3,λa6 H6 a60 ha6 W6 S6=>?_];erw[dmw,hMw]at W1.hM;erw[kvw,hbw,_]at W1.BX;let kT6:bN H1 H6:=λa xs e=>S6 _ _ (bi e R1.hD nofun) (bi e hMw nofun) (bi e hbw nofun) e
   let hL6:=S6 _ _ (bi hL1 R1.hD nofun) (bi hL1 hMw nofun) (bi hL1 hbw nofun) hL1;let S06:Same H H6:=λa o e=>S6 _ _ (aX e D00) (aX e hM0) (aX e b00) (S1 _ _ e)
   erw[y2S,λt7 h7=>?_];let I7:=zC0 h7 (.tup [.str "say",.ref a6]);let R7:TRAt (upd H6 t7 (.tup [.str "say",.ref a6])) (.ref t7) (.say (t.said ns ts p rows)):=.say aO (I7 _ _ ha6);generalize upd H6 t7 (.tup [.str "say",.ref a6])=H7 at I7 R7;let hL7:=I7 _ _ hL6;erw[L,2,hL7,aN #[0],6];let k8:bN H7 (upd H7 L (.lst (vs++[.ref t7]))):=eR hL7;let S8:Same H (upd H7 L (.lst (vs++[.ref t7]))):=λa o e=>by
    rw[aD (aX e L00)];exact I7 _ _ (S06 _ _ e)
   erw[n',qM1 _,t.ask ns ts p rows,n',u,m+200,rs++[.say (t.said ns ts p rows)],0,1,3,3,(W6.same I7).put hL7 (G.same S8),ok',aO,((TR1.mono (λa xs e=>k8 _ _ (I7 _ _ (kT6 _ _ e)))).snoc (R7.mono k8)),6,3,3,by rw[zL0];show rs.length+1+n'<=21;omega,S8];rw[←eq,jW ch,jN0];rfl
 . rw [zE1 ch,Bool.false_or]
   by_cases cc:t.z.aw.1="coin"
   . rw [zD1 cc];apply dL ?_;erw[_,λ_ _ h=>h,6];erw[0,D,dx1,0,R1.hD,qW,D,g,t.z,1,DA1,λv hv=>?_];erw[av2,1,hav2]at hv;erw[av2,_,(0),0,1,zB0 hav2,BS _,1,0,ay (neS ch) ?_];let%[sp|cp]:=jo ok (.inr cc);let cp:=cp cc;obtain⟨n',rfl⟩:∃n',mm=n'+1:=⟨mm-1,#[0]⟩
     let hu:u<cs.length:=#[0]
     let%[dh|dt]:=yX hu;let rr:=lp co #[0] u;let%[ok',st',co'|_]:=ok.toss k cc rr.1 rr.2;let to:=ok.tossOk cc rr.1 rr.2;erw[0,D,dx1,0,R1.hD,DN,0,0,wW (hc.same S1) hu ?_];erw[D,g,t.z,cs.getD u 0,ns,ts,p,1,DA1,W1.G,k,to.aw,to.r0,to.r1,to.tl,to.ro,to.po,λH6 S6 DA6=>?_];let W6:=W1.doub S6 DA6;let kT6:bN H1 H6:=λa xs e=>S6 _ _ (bi e R1.hD nofun) e
     let hL6:=S6 _ _ (bi hL1 R1.hD nofun) hL1;let S06:Same H H6:=λa o e=>S6 _ _ (aX e D00) (S1 _ _ e)
     erw[0,.inl %[1,_|zG0 hL6],0,0,wW (hc.same S06) hu ?_];erw[y2S,λt7 h7=>?_];let I7:=zC0 h7 (.tup [.str "coin",.int (cs.getD u 0)]);let R7:TRAt (upd H6 t7 (.tup [.str "coin",.int (cs.getD u 0)])) (.ref t7) (.coin (cs.getD u 0)):=.coin aO;generalize upd H6 t7 (.tup [.str "coin",.int (cs.getD u 0)])=H7 at I7 R7;let hL7:=I7 _ _ hL6;erw[L,2,hL7,aN #[0],6];let k8:bN H7 (upd H7 L (.lst (vs++[.ref t7]))):=eR hL7;let S8:Same H (upd H7 L (.lst (vs++[.ref t7]))):=λa o e=>by
      rw[aD (aX e L00)];exact I7 _ _ (S06 _ _ e)
     erw[0,2,6];erw[n',qM1 _,t.toss ns ts p (cs.getD u 0),n',u+1,m,rs++[.coin (cs.getD u 0)],0,1,3,3,(W6.same I7).put hL7 (G.same S8),ok',aO,((TR1.mono (λa xs e=>k8 _ _ (I7 _ _ (kT6 _ _ e)))).snoc (R7.mono k8)),6,3,3,by rw[zL0];show rs.length+1+n'<=21;omega,S8];rw[←eq,jX cc,dh,dt,jN0];rfl
   . rw [zE1 cc];apply cV ?_;rw[lC ch cc,qU1]at eq;erw[0,L,0,.inl %[zG0 hL1|λb8 hb8=>?_]];let I8:=zC0 hb8 (.tup vs);let g8:upd H1 b8 (.tup vs) b8=some (.tup vs):=aO;generalize upd H1 b8 (.tup vs)=H8 at I8 g8;let DA8:=DA1.same I8;let%[dx8,_,_,_,_|R8]:=id DA8;erw[0,D,dx8,0,R8.hD,qW,D,g,t.z,1,DA8,λv hv=>?_];erw[av2,1,hav2]at hv;erw[y2S,λa9 ha9=>?_];let I9:=zC0 ha9 (.tup [.ref b8,.ref av2]);apply q a9 _ (S1.trans (I8.trans I9)) %[b8,av2,vs,aO,I9 _ _ g8,6|6]
     . rw[←eq];exact TR1.mono (bd (I8.trans I9))
     . rw[←eq];exact I9 _ _ hav2
end
def kept:List Str:=["yes","no","not","and","or","odd","same","round","due","asked","true","coin"]
def NmK(x:Str):Prop:=(∀c∈x.cps.toList,97<=c/\c<=122)/\1<=x.length/\x.length<=6/\x∉kept
def Tm.ok:Tm->Prop
 |.num n=>0<=n/\n<1000000000000 | .box x=>NmK x | .plain w=>w∈plainW | .ask w a=>w∈askW/\a.ok | .op s a b=>s∈signW/\a.ok/\b.ok
def Tm.fit(m:Nat)(t:Tm):Prop:=t.ok/\t.size<=m/\t.depth<=8
def Hr.ok(m:Nat):Hr->Prop
 |.fin=>True | .go n=>0<=n/\n<1000000000000 | .iff t n=>t.fit m/\0<=n/\n<1000000000000 | .set x t=>NmK x/\t.fit m | .say t=>t.fit m
def LET:Str:="abcdefghijklmnopqrstuvwxyz"
def ENDS:Str:=" ()"
def isIn(L:Str)(c:Nat):Bool:=!(Builtin.Str.occurrences L %[|#[c]] 0 L.length 1).isEmpty
def iG(z:Str):Bool:=decide (1<=z.length)&&decide (z.length<=6)&&!inV (.str z) (kept.map V.str)&&z.cps.toList.all (isIn LET)
def FIG:Str:="0123456789"
def jf(z:Str):Bool:=decide (1<=z.length)&&decide (z.length<=12)&&!(decide (1<z.length)&&Txt.startswith z "0")&&z.cps.toList.all (isIn FIG)
def tJ{z:Str}{c:Nat}(h:z.cps.toList[0]?=some c):Txt.startswith z "0"=decide (V.str %[|#[c]]=V.str "0"):=by
 let q:=StrLaws.subAt_one z 48 0;let e0:("0":Str)=%[|#[48]]:=by decide
 unfold Txt.startswith;rw[e0]
 by_cases hc:c=48
 . subst hc
   have:=q.mpr h
   rw[show decide (V.str (%[|#[48]]:Str)=V.str ⟨#[48]⟩)=true from zD1 rfl];simp only[qN1,jE1];exact this
 . let hne:¬ (V.str (%[|#[c]]:Str)=V.str ⟨#[48]⟩):=λe=>hc (by
    have:=V.str.inj e
    injection this with this
    simpa using this)
   rw[show decide (V.str (%[|#[c]]:Str)=V.str ⟨#[48]⟩)=false from zE1 hne];rw[Bool.eq_false_iff];intro e;simp only[qN1,jE1]at e
   have:=q.mp e
   rw[h]at this;exact hc (zT0 this)
instance spTxt(fB:Str->Bool):∀z:Str,vs=[.str z]->z.length<=1000->(∀H',Same H H'->Q (.bl (fB z)) H'):=1
structure Tx(K:W.Frag)(mg:#[9]):Prop where
 letters:∃t,mg "LETTERS"=some (.str LET t)
 longest:∃t,mg "LONGEST_NAME"=some (.int 6 t)
 keptW:∃a,mg "KEPT_WORDS"=some (.ref a)/\∀H,SqT K H a (kept.map V.str)
 ends:∃t,mg "WORD_ENDS"=some (.str ENDS t)
 within:∃t,mg "MOST_WITHIN"=some (.int 8 t)
 parts:∃t,mg "MOST_PARTS"=some (.int 20 t)
 figures:∃t,mg "FIGURES"=some (.str FIG t)
 most:∃t,mg "MOST_FIGURES"=some (.int 12 t)
 rows:∃t,mg "MOST_ROWS"=some (.int 60 t)
 signs:∃a,mg "SIGNS"=some (.ref a)/\∀H,SqT K H a (signW.map V.str)
 asking:∃a,mg "ASKING_WORDS"=some (.ref a)/\∀H,SqT K H a (askW.map V.str)
 plain:∃a,mg "PLAIN_WORDS"=some (.ref a)/\∀H,SqT K H a (plainW.map V.str)
def pN(z:Str):z.cps.size=z.length:=rfl
def vn:FnScope WC WC (ag lN):=%[|5]
def vP(F:#["is_name",lN])(B:Bl mg)(T:Tx K mg):#[1,f,fd,WC,spTxt iG]:=by
 exists vn
 erw[z,1,hz,q]at h;erw[t1,g1]at T.letters;erw[t3,g3]at T.longest;erw[ka,g5,hk]at T.keptW;refine⟨_,(aa (aG (PW.pt (dR (af du (aE cI rfl B.len zB1 %[0|aQ]) ac (ao _)) (dR (af gz (aE cI rfl B.len zB1 %[0|aQ]) (cY (v:=.int 6) rfl g3 ⟨_,rfl⟩) (ao _)) (dI (af eP (pv 0) (cY (v:=.ref ka) rfl g5 rfl) (by rfl')))))) (ad (aq hR)) ax)
  (ad (aq (aE (lx rfl) rfl B.all jC1 (ae (cb (N:=[]) (ix:=[]) (cl:=[]) rfl #[5] rfl (Ar (pv 0))
   (λ_ _ _=>cD (dq qN (pv 0) (cY (v:=.str LET) rfl g1 %[|0]) (by rfl')))) aQ))))),?_⟩
 let fls:iG z=false->Q (.bl false) H:=λe=>by
  have:=q H (Same.refl H)
  rw[e]at this;exact this
 erw[0,z,1,cg hz,2,0,6]
 by_cases c1:(z.length:Int)<1
 . apply aV c1 (dL ?_);exact fls (by unfold iG;rw[zE1 (show ¬ 1<=z.length by omega)];rfl)
 apply ay c1 ?_;erw[0,z,1,cg hz,2,0,6]
 by_cases c2:(6:Int)<(z.length:Int)
 . apply aV c2 (dL ?_);exact fls (by unfold iG;rw[zE1 (show ¬ z.length<=6 by omega)];simp)
 apply ay c2 ?_;erw[0,ka,0,.inr (hk _),1,⋯,0,6];cases c3:inV (.str z) (kept.map V.str)with
 |true=>
   apply dL ?_;exact fls (by unfold iG;rw[c3];simp)
 |false=>
   apply cV ?_;erw[0,z,1,λD hD=>?_];apply pX (z:=z) (λi H'=>H' D=some (.lst (((z.cps.toList.take i).map (isIn LET)).map V.bl))/\Same H H') %[by rw[aO];rfl|zC0 hD _] ?_ ?_
   . rintro i c H' hc ⟨hl,s0⟩;let hi:i<z.cps.size:=(Array.getElem?_eq_some_iff.mp hc).1;rw[pN]at hi;erw[0,2,_,hl,6,Nx.of hi %[6|6]]
     . rw[zF0,zF0,qI0];exact aN #[0]
     . rw [aO];let ec:z.cps.toList[i]?=some c:=#[hc,0]
       rw[qH0,ec,zK0,zK0];rfl
     . intro b o e;rw[aD (aX e hD)];exact s0 b o e
   . rintro H' ⟨hl,s0⟩;rw[show z.cps.toList.take z.cps.size=z.cps.toList by rw[←zT1];exact qF0]at hl;erw[D,0,zG0 hl,6];let e:iG z=(z.cps.toList.map (isIn LET)).all id:=by
      unfold iG;rw[c3,zD1 (show 1<=z.length by omega),zD1 (show z.length<=6 by omega),List.all_map];rfl
     rw[←e];exact q H' s0
def qj:FnScope WC WC (ag ir):=%[|5]
def qr(F:#["is_figures",ir])(B:Bl mg)(T:Tx K mg):#[1,f,fd,WC,spTxt jf]:=by
 exists qj
 erw[z,1,hz,q]at h;erw[t1,g1]at T.figures;erw[t3,g3]at T.most;refine⟨_,(aa (aG (PW.pt (dR (af du (aE cI rfl B.len zB1 %[0|aQ]) ac (ao _)) (dI (af gz (aE cI rfl B.len zB1 %[0|aQ]) (cY (v:=.int 12) rfl g3 ⟨_,rfl⟩) (ao _))))) (ad (aq hR)) ax)
  (aa (aG (PW.pt (lS (af gz (aE cI rfl B.len zB1 %[0|aQ]) ac (ao _)) (kN (dJ (cW zS1 PySem.F.slot_str_startswith PySem.F.type_str_startswith qx (pv 0) %[aB|aQ]))))) (ad (aq hR)) ax)
  (ad (aq (aE (lx rfl) rfl B.all jC1 (ae (cb (N:=[]) (ix:=[]) (cl:=[]) rfl #[5] rfl (Ar (pv 0))
   (λ_ _ _=>cD (dq qN (pv 0) (cY (v:=.str FIG) rfl g1 %[|0]) (by rfl')))) aQ)))))),?_⟩
 let fls:jf z=false->Q (.bl false) H:=λe=>by
  have:=q H (Same.refl H)
  rw[e]at this;exact this
 erw[0,z,1,cg hz,2,0,6]
 by_cases c1:(z.length:Int)<1
 . apply aV c1 (dL ?_);exact fls (by unfold jf;rw[zE1 (show ¬ 1<=z.length by omega)];rfl)
 apply ay c1 ?_;erw[0,z,1,cg hz,2,0,6]
 by_cases c2:(12:Int)<(z.length:Int)
 . apply aV c2 ?_;exact fls (by unfold jf;rw[zE1 (show ¬ z.length<=12 by omega)];simp)
 apply ay c2 ?_;erw[0,z,1,cg hz,2,0,6]
 by_cases c4:(1:Int)<(z.length:Int)
 . apply aV c4 ?_;erw[0,1,z,0,1,0,6];cases c5:Txt.startswith z "0" with
   |true=>
     apply dL ?_;exact fls (by unfold jf;rw[c5,zD1 (show 1<z.length by omega)];simp)
   |false=>
     apply cV ?_;let c3:(decide (1<z.length)&&Txt.startswith z "0")=false:=by rw[c5];simp
     erw[0,z,1,λD hD=>?_];apply pX (z:=z) (λi H'=>H' D=some (.lst (((z.cps.toList.take i).map (isIn FIG)).map V.bl))/\Same H H') %[by rw[aO];rfl|zC0 hD _] ?_ ?_
     . rintro i c H' hc ⟨hl,s0⟩;let hi:i<z.cps.size:=(Array.getElem?_eq_some_iff.mp hc).1;rw[pN]at hi;erw[0,2,_,hl,6,Nx.of hi %[6|6]]
       . rw[zF0,zF0,qI0];exact aN #[0]
       . rw [aO];let ec:z.cps.toList[i]?=some c:=#[hc,0]
         rw[qH0,ec,zK0,zK0];rfl
       . intro b o e;rw[aD (aX e hD)];exact s0 b o e
     . rintro H' ⟨hl,s0⟩;rw[show z.cps.toList.take z.cps.size=z.cps.toList by rw[←zT1];exact qF0]at hl;erw[D,0,zG0 hl,6];let e:jf z=(z.cps.toList.map (isIn FIG)).all id:=by
        unfold jf;rw[c3,zD1 (show 1<=z.length by omega),zD1 (show z.length<=12 by omega),List.all_map];rfl
       rw[←e];exact q H' s0
 . apply ay c4 ?_;apply cV ?_;let c3:(decide (1<z.length)&&Txt.startswith z "0")=false:=by rw[zE1 (show ¬ 1<z.length by omega)];rfl
   erw[0,z,1,λD hD=>?_];apply pX (z:=z) (λi H'=>H' D=some (.lst (((z.cps.toList.take i).map (isIn FIG)).map V.bl))/\Same H H') %[by rw[aO];rfl|zC0 hD _] ?_ ?_
   . rintro i c H' hc ⟨hl,s0⟩;let hi:i<z.cps.size:=(Array.getElem?_eq_some_iff.mp hc).1;rw[pN]at hi;erw[0,2,_,hl,6,Nx.of hi %[6|6]]
     . rw[zF0,zF0,qI0];exact aN #[0]
     . rw [aO];let ec:z.cps.toList[i]?=some c:=#[hc,0]
       rw[qH0,ec,zK0,zK0];rfl
     . intro b o e;rw[aD (aX e hD)];exact s0 b o e
   . rintro H' ⟨hl,s0⟩;rw[show z.cps.toList.take z.cps.size=z.cps.toList by rw[←zT1];exact qF0]at hl;erw[D,0,zG0 hl,6];let e:jf z=(z.cps.toList.map (isIn FIG)).all id:=by
      unfold jf;rw[c3,zD1 (show 1<=z.length by omega),zD1 (show z.length<=12 by omega),List.all_map];rfl
     rw[←e];exact q H' s0
def EC:∀c:Fin 26,isIn LET (97+c.val)=true:=by decide
def Dg:∀c:Fin 26,isIn ENDS (97+c.val)=false:=by decide
def ends_in:isIn ENDS 32=true/\isIn ENDS 40=true/\isIn ENDS 41=true:=by decide
def Bm{c:Nat}(h:97<=c/\c<=122):isIn LET c=true:=by
 have:=EC %[c-97|3]
 rwa [show 97+(%[c-97|3]:Fin 26).val=c by show 97+(c-97)=c;omega]at this
def yK{c:Nat}(h:97<=c/\c<=122):isIn ENDS c=false:=by
 have:=Dg %[c-97|3]
 rwa [show 97+(%[c-97|3]:Fin 26).val=c by show 97+(c-97)=c;omega]at this
def wU(h:NmK x):iG x=true:=by
 erw[hl,h1,h6,hk]at h;unfold iG;rw[iD,zD1 h1,zD1 h6,zE1 hk];simp only[Bool.and_self,Bool.not_false,wN0];rw[jG1];exact λc hc=>Bm (hl c hc)
def stl(l:List Nat):Str:=%[|l.toArray]
def Cl{a b:Str}(h:a.cps.toList=b.cps.toList):a=b:=by
 cases a with
 |mk x=>
   cases b with
   |mk y=>
     have:x=y:=Array.toList_inj.mp h
     rw[this]
def jY(x:Str):stl x.cps.toList=x:=rfl
def Cn(l:List Nat):(stl l).length=l.length:=by
 show l.toArray.size=_
 simp
def ia(a b:Str):(a++b).cps.toList=a.cps.toList++b.cps.toList:=by simp [qX0]
def sP:(("(":Str)).cps.toList=[40]:=by decide
def Bc:((")":Str)).cps.toList=[41]:=by decide
def ku:((" ":Str)).cps.toList=[32]:=by decide
def zI{a b:Str}(h:V.str a=V.str b):a=b:=V.str.inj h
def neStr{a b:Str}(h:a≠b):¬ V.str a=V.str b:=λz=>h (zI z)
def jn(c:Nat):List (List Nat)->List Nat
 | []=>[]
 | [a]=>a
 |a::b::r=>a++c::jn c (b::r)
def BO{c:Nat}:∀{a b x y:List Nat},c∉a->c∉b->a++c::x=b++c::y->a=b/\x=y
 | [],[],_,_,_,_,h=>%[1|(List.cons.inj h).2]
 | [],d::b,x,y,_,hb,h=>by
   have:=(List.cons.inj h).1
   exact absurd (by rw[this];exact zW0) hb
 |d::a,[],x,y,ha,_,h=>by
   have:=(List.cons.inj h).1
   exact absurd (by rw[←this];exact zW0) ha
 |d::a,e::b,x,y,ha,hb,h=>by
   let h':=List.cons.inj h;let r:=BO (λz=>ha (qK0 _ z)) (λz=>hb (qK0 _ z)) h'.2;erw[by rw[h'.1,r.1],r.2]
def Bj{c:Nat}:∀{l m:List (List Nat)},l≠[]->m≠[]->(∀a∈l,c∉a)->(∀a∈m,c∉a)->jn c l=jn c m->l=m
 | [],_,h,_,_,_,_=>absurd rfl h
 |_::_,[],_,h,_,_,_=>absurd rfl h
 | [a],[b],_,_,_,_,h=>congrArg (λz=>[z]) h
 | [a],b::d::r,_,_,hl,_,h=>by
   have:c∈a:=by
    rw[show a=b++c::jn c (d::r)from h]
    simp
   exact absurd this (hl a zW0)
 |a::d::r,[b],_,_,_,hm,h=>by
   have:c∈b:=by
    rw[show b=a++c::jn c (d::r)from h.symm]
    simp
   exact absurd this (hm b zW0)
 |a::d::r,b::e::s,_,_,hl,hm,h=>by
   let q:=BO (hl a zW0) (hm b zW0) (show a++c::jn c (d::r)=b++c::jn c (e::s)from h)
   have:=Bj #[2] #[2] (λz hz=>hl z (qK0 _ hz)) (λz hz=>hm z (qK0 _ hz)) q.2
   rw[q.1,this]
def cd(x:Str):List Nat:=x.cps.toList
def Fg(h:cd x=cd y):x=y:=by
 have:x.cps=y.cps:=Array.toList_inj.mp h
 cases x;cases y;exact congrArg Str.mk this
def qY(x y:Str):cd (x++y)=cd x++cd y:=by
 unfold cd;rw[qX0]
 simp
def jF(c:Nat):∀ps:List Str,cd (Str.join %[|#[c]] ps)=jn c (ps.map cd)
 | []=>rfl
 | [a]=>rfl
 |a::b::r=>by
   show cd (a++%[|#[c]]++Str.join ⟨#[c]⟩ (b::r))=cd a++c::jn c ((b::r).map cd);rw[qY,qY,jF c (b::r)]
   simp [cd]
def sR(sep:Str):∀ps:List Str,Txt.join sep ps=Str.join sep ps
 | []=>rfl
 |a::r=>StrLaws.glued_cons sep r a
def vb(x y:Str):Txt.split x y≠[]:=by
 unfold Txt.split
 split
 . exact jS1 _ _
 . split
   . exact jS1 _ _
   . intro h
     have:=length_partsBetween x (Builtin.Str.occurrences x y 0 x.length (x.length+1)) y.length
     rw[h]at this
     simp at this
def pM:∀{l m:List Str},l.map cd=m.map cd->l=m
 | [],[],_=>rfl
 | [],_::_,h=>by simp at h
 |_::_,[],h=>by simp at h
 |a::l,b::m,h=>by
   let h':=List.cons.inj h;rw[Fg h'.1,pM h'.2]
def jZ{c:Nat}{ps:List Str}(h0:ps≠[])(hf:∀p∈ps,c∉cd p):Txt.split (Str.join %[|#[c]] ps) ⟨#[c]⟩=ps:=by
 apply pM ?_;apply Bj (c:=c) (λh=>vb _ _ (List.map_eq_nil_iff.mp h)) (λh=>h0 (List.map_eq_nil_iff.mp h)) ?_ ?_ ?_
 . intro a ha;let%[p,hp|1]:=List.mem_map.mp ha;exact StrLaws.split_free _ c p hp
 . intro a ha;let%[p,hp|1]:=List.mem_map.mp ha;exact hf p hp
 . rw[←jF,←jF,StrLaws.join_split]
def cv(n:Int):Str:=toString n
def sK(m:Nat):cd (cv (m:Int))=(Nat.toDigits 10 m).map Char.toNat:=PySem.W.KIN.signs_num m
def gK{n:Int}(h0:0<=n):∀c∈cd (cv n),48<=c/\c<=57:=by
 let%[m|1]:=qC1 h0;intro c hc;rw[sK]at hc;let%[ch,hch|e]:=List.mem_map.mp hc;rw[←e];exact PyProof.Rows.digit_range (Nat.isDigit_of_mem_toDigits ⋯ ⋯ hch)
def AR{n:Int}(h0:0<=n):cd (cv n)≠[]:=by
 let%[m|1]:=qC1 h0;rw[sK];intro e;let h:=PySem.toDigits_len_ge 10 m;rw[List.map_eq_nil_iff.mp e]at h;exact absurd h ⋯
def iA{n:Int}(h0:0<=n)(h1:n<1000000000000):(cv n).length<=12:=jO0 h0 ⋯ (by show n<10 ^ 12;omega)
def ui{n:Int}(h0:0<=n):1<=(cv n).length:=by
 let h:=AR h0;let e:(cd (cv n)).length=(cv n).length:=rfl;cases c:cd (cv n)with
 |nil=>exact absurd c h
 |cons a r=>rw[←e,c];simp
def sI{n:Int}(h0:0<=n)(h1:n<1000000000000):PySem.intText? (cv n)=some n:=by
 let e:=intText_digits (x:=cv n) (gK h0) (AR h0) (zM0 (iA h0 h1) ⋯);let%[m|1]:=qC1 h0;let e2:=sK m;unfold cd at e2;rw[e2,PySem.W.KIN.val_back]at e;exact e
def Dm(m:Nat)(h:0<m):∃d r,Nat.toDigits 10 m=d::r/\d.toNat≠48:=by
 induction m using Nat.strongRecOn with
 |_ m ih=>
   by_cases c:m<10
   . erw[Nat.digitChar m,[],Nat.toDigits_of_lt_base c,6]
     have:∀d:Nat,d<10->0<d->(Nat.digitChar d).toNat≠48:=by decide
     exact this m c h
   . let hm:m % 10<10:=Nat.mod_lt m ⋯;let t:Nat.toDigits 10 (m / 10)++Nat.toDigits 10 (m % 10)=Nat.toDigits 10 (10*(m / 10)+m % 10):=Nat.toDigits_append_toDigits ⋯ #[0] hm;rw[Nat.div_add_mod]at t;let%[d,r,e|hd]:=ih (m / 10) #[0] #[0];erw[d,r++Nat.toDigits 10 (m % 10),by rw[←t,e];rfl,hd]
def EV:∀c:Nat,c<58->48<=c->isIn FIG c=true:=by decide
def sJ{n:Int}(h0:0<=n)(h1:n<1000000000000):jf (cv n)=true:=by
 unfold jf;rw[zD1 (ui h0),zD1 (iA h0 h1)];let a:(cd (cv n)).all (isIn FIG)=true:=List.all_eq_true.mpr λc hc=>by
  have:=gK h0 c hc
  exact EV c #[0] this.1
 let a':(cv n).cps.toList.all (isIn FIG)=true:=a;rw[a'];let b:(decide (1<(cv n).length)&&Txt.startswith (cv n) "0")=false:=by
  by_cases c:1<(cv n).length
  . let%[m|1]:=qC1 h0;let hm:0<m:=by
     apply wG0 ?_;intro z;subst z
     revert c
     decide
    let%[d,r,e|hd]:=Dm m hm;let e0:(cv (m:Int)).cps.toList[0]?=some d.toNat:=by
     have:=sK m
     unfold cd at this;rw[this,e];rfl
    let z:decide (V.str (%[|#[d.toNat]]:Str)=V.str "0")=false:=zE1 λz=>by
     have:=V.str.inj z
     let e1:("0":Str)=%[|#[48]]:=by decide
     rw[e1]at this;injection this with this
     have:=congrArg Array.toList this
     simp at this
     exact hd this
    rw[tJ e0,z,wH0]
  . rw[zE1 c];rfl
 rw[b];rfl
def NL:Str:=%[|#[10]]
def AS:("\n":Str)=NL:=by decide
def rm{l:List Str}{b:Nat}(h:∀p∈l,p.length<=b):(l.map (·.length)).sum<=l.length*b:=by
 induction l with
 |nil=>simp
 |cons a r ih=>
   let h1:=h a zW0;let h2:=ih λp hp=>h p (qK0 _ hp)
   simp only[zZ0,qI1,zU0];rw[Nat.succ_mul];omega
def Tm.txt:Tm->List Nat
 |.num n=>cd (cv n)
 |.box x=>cd x
 |.plain w=>cd w
 |.ask w a=>[40]++(cd w++([32]++(a.txt++[41])))
 |.op s a b=>[40]++(cd s++([32]++(a.txt++([32]++(b.txt++[41])))))
def Tm.str(t:Tm):Str:=stl t.txt
def kR:∀w∈plainW,w.length<=5/\1<=w.length/\(∀c∈w.cps.toList,97<=c/\c<=122)/\w≠"num"/\w≠"box"/\w≠"op":=by decide
def wF:∀w∈askW,w.length<=4/\1<=w.length/\(∀c∈w.cps.toList,97<=c/\c<=122)/\w≠"num"/\w≠"box"/\w≠"op"/\w∉plainW:=by decide
def rC:∀w∈signW,w.length=1/\(∀c∈w.cps.toList,42<=c/\c<=61)/\w∉askW:=by decide
def df(x:Str):(cd x).length=x.length:=by unfold cd;rw[zT1];rfl
def Tm.txt_len:∀t:Tm,t.ok->t.txt.length<=14*t.size
 |.num n,h=>by
   have:=iA h.1 h.2
   show(cd (cv n)).length<=14;rw[df];omega
 |.box x,h=>by
   show(cd x).length<=14;rw[df]
   have:=h.2.2.1
   omega
 |.plain w,h=>by
   show(cd w).length<=14;rw[df]
   have:=(kR w h).1
   omega
 |.ask w a,⟨h,h1⟩=>by
   have:=Tm.txt_len a h1
   let e4:=(wF w h).1;show([40]++(cd w++([32]++(a.txt++[41])))).length<=14*(a.size+1)
   simp only[zL0,zU0,zM1,df];omega
 |.op o a b,⟨h,h1,h2⟩=>by
   let e1:=Tm.txt_len a h1;let e2:=Tm.txt_len b h2;let e4:=(rC o h).1;show([40]++(cd o++([32]++(a.txt++([32]++(b.txt++[41])))))).length<=14*(a.size+b.size+1)
   simp only[zL0,zU0,zM1,df];omega
def Tm.str_len{t:Tm}(h:t.ok):t.str.length<=14*t.size:=by
 unfold Tm.str;rw[Cn];exact t.txt_len h
def Hr.ws:Hr->List Str
 |.fin=>["end"] | .go n=>["go",cv n] | .iff t n=>["if",t.str,cv n] | .set x t=>["set",x,t.str] | .say t=>["say",t.str]
def Hr.str(r:Hr):Str:=Txt.join (" ":Str) r.ws
def DT{r:Hr}(h:r.ok 20):r.ws.length<=3/\∀z∈r.ws,z.length<=280:=by
 let fixed:∀z∈(Wn:List Str),z.length<=280:=by decide
 let ft:∀{t:Tm},t.fit 20->t.str.length<=280:=fun{t} h=>by
  have:=Tm.str_len h.1
  have:=h.2.1
  omega
 cases r with
 |fin=>erw[4,λz hz=>fixed z (by rw[zP0 hz];decide)]
 |go n=>
   erw[by show 2<=3;decide,λz hz=>?_];rcases zV0 (show z∈[("go":Str),cv n]from hz)with rfl | hz
   . exact fixed _ ⋯
   . rw [zP0 hz]
     have:=iA h.1 h.2
     omega
 |iff t n=>
   erw[by show 3<=3;decide,λz hz=>?_];rcases zV0 (show z∈[("if":Str),t.str,cv n]from hz)with rfl | hz
   . exact fixed _ ⋯
   rcases zV0 hz with rfl | hz
   . exact ft h.1
   . rw [zP0 hz]
     have:=iA h.2.1 h.2.2
     omega
 |set x t=>
   erw[by show 3<=3;decide,λz hz=>?_];rcases zV0 (show z∈[("set":Str),x,t.str]from hz)with rfl | hz
   . exact fixed _ ⋯
   rcases zV0 hz with rfl | hz
   . have:=h.1.2.2.1
     omega
   . rw[zP0 hz];exact ft h.2
 |say t=>
   erw[by show 2<=3;decide,λz hz=>?_];rcases zV0 (show z∈[("say":Str),t.str]from hz)with rfl | hz
   . exact fixed _ ⋯
   . rw[zP0 hz];exact ft h
def ut(sep:Str)(zs:List Str)(h:sep.length=1):(Txt.join sep zs).length<=(zs.map (·.length)).sum+zs.length:=by
 have:=size_glued sep zs
 rw[h]at this;show(Builtin.Str.glued sep zs).length<=_;omega
def DS{r:Hr}(h:r.ok 20):(r.ws.map (·.length)).sum+r.ws.length<=900:=by
 let%[h1|h2]:=DT h
 have:=rm h2
 have:r.ws.length*280<=840:=#[0]
 omega
def Hr.str_len{r:Hr}(h:r.ok 20):r.str.length<=900:=zM0 (ut _ _ ⋯) (DS h)
def Bh{H:Hp}{b:Addr}{ys zs:List V}(h:H b=some (.lst ys)):bN H (upd H b (.lst zs)):=λa xs e=>by
 rw[aD (λz=>by rw[z,h]at e;cases e)];exact e
def RowsAt.nil:RowsAt H [] []:=%[1|λi v r h=>by simp at h]
def RowsAt.snoc(h:RowsAt H tv rs)(a:HrAt H v r):RowsAt H (tv++[v]) (rs++[r]):=by
 erw[by rw[zL0,zL0,h.1];rfl,λi u s hu hs=>?_];let hl:=h.1
 by_cases c:i<tv.length
 . rw[zO1 c]at hu;rw[zO1 #[0]]at hs;exact h.2 i u s hu hs
 . rw [zL1 #[0]]at hu;rw[zL1 #[0]]at hs;let e1:i-tv.length=0:=by
    have:=(qD0 hu).1
    rw[qN0]at this;omega
   let e2:i-rs.length=0:=#[0]
   rw[e1]at hu;rw[e2]at hs;cases hu;cases hs;exact a
def rh(rs:List Hr):Prop:=rs.length<=60/\∀r∈rs,r.ok 20
def ng(rs:List Hr):Str:=Txt.join ("\n":Str) (rs.map Hr.str)
def Bq(g:rh rs):((rs.map Hr.str).map (·.length)).sum+(rs.map Hr.str).length<=60000:=by
 have:=rm (l:=rs.map Hr.str) (b:=900) λp hp=>by
  let%[r,hr|1]:=List.mem_map.mp hp;exact Hr.str_len (g.2 r hr)
 rw[zF0]at this ⊢;let h1:=g.1
 have:rs.length*900<=60*900:=Nat.mul_le_mul_right _ h1
 omega
def Br(g:rh rs):(ng rs).length<=60000:=zM0 (ut _ _ ⋯) (Bq g)
abbrev lG:Stmt:=top 49
abbrev rP:Stmt:=bn lG 0
abbrev oG:Stmt:=bn lG 1
abbrev rO:Stmt:=bn lG 2
abbrev rN:Stmt:=bn lG 3
abbrev rM:Stmt:=bn lG 4
abbrev lF:Stmt:=bn lG 5
structure STxt(K:W.Frag)(mg:#[9])(C:Addr):Prop where
 cl:Cls K C
 nX:NoAttr K C "text"
 nR:NoAttr K C "row"
 nW:NoAttr K C "most_within"
 nP:NoAttr K C "most_parts"
 nL:NoAttr K C "place"
 nN:NoAttr K C "parts"
 mgC:mg "Scan"=some (.ref C)
def oY(f:Str)(v:V):∀(fs:List (Str×V))(u:V),fs.lookup f=some u->(bq f v fs).length=fs.length
 | [],u,h=>by cases h
 | (g,x)::r,u,h=>by
   unfold bq
   by_cases e:g=f
   . rw[JB e];rfl
   . rw [Jy e];let e':(f==g)=false:=#[λz=>e z.symm,0]
     simp only[List.lookup,e']at h;rw[zU0,zU0,oY f v r u h]
def bX(f:Str)(v:V):∀fs:List (Str×V),(bq f v fs).length<=fs.length+1
 | []=>zH0 _
 | (g,u)::r=>by
   have:=bX f v r
   unfold bq
   split
   . simp
   . simp only[zU0];omega
structure SF(T:Str)(p n:Nat)(fs:List (Str×V)):Prop where
 text:fs.lookup ("text":Str)=some (.str T)
 mw:fs.lookup ("most_within":Str)=some (.int 8)
 mp:fs.lookup ("most_parts":Str)=some (.int 20)
 place:fs.lookup ("place":Str)=some (.int (p:Int))
 parts:fs.lookup ("parts":Str)=some (.int (n:Int))
 no1:fs.lookup ("enter":Str)=none
 no2:fs.lookup ("sees":Str)=none
 no3:fs.lookup ("take":Str)=none
 no4:fs.lookup ("word":Str)=none
 no5:fs.lookup ("finish":Str)=none
 len:fs.length<=6
def SF.toPlace(h:SF T p n fs)(p':Nat):SF T p' n (bq "place" (.int (p':Int)) fs):=by
 erw[6,6,6,6,6,6,6,6,6,6,6]
 . rw[aj,Jy ⋯];exact h.text
 . rw[aj,Jy ⋯];exact h.mw
 . rw[aj,Jy ⋯];exact h.mp
 . rw[aj,JB rfl]
 . rw[aj,Jy ⋯];exact h.parts
 . rw[aj,Jy ⋯];exact h.no1
 . rw[aj,Jy ⋯];exact h.no2
 . rw[aj,Jy ⋯];exact h.no3
 . rw[aj,Jy ⋯];exact h.no4
 . rw[aj,Jy ⋯];exact h.no5
 . rw[oY _ _ _ _ h.place];exact h.len
def SF.toParts(h:SF T p n fs)(n':Nat):SF T p n' (bq "parts" (.int (n':Int)) fs):=by
 erw[6,6,6,6,6,6,6,6,6,6,6]
 . rw[aj,Jy ⋯];exact h.text
 . rw[aj,Jy ⋯];exact h.mw
 . rw[aj,Jy ⋯];exact h.mp
 . rw[aj,Jy ⋯];exact h.place
 . rw[aj,JB rfl]
 . rw[aj,Jy ⋯];exact h.no1
 . rw[aj,Jy ⋯];exact h.no2
 . rw[aj,Jy ⋯];exact h.no3
 . rw[aj,Jy ⋯];exact h.no4
 . rw[aj,Jy ⋯];exact h.no5
 . rw[oY _ _ _ _ h.parts];exact h.len
def sfs(T:Str)(k:Int):List (Str×V):=bq "parts" (.int 0) (bq "place" (.int 0) (bq "most_parts" (.int 20) (bq "most_within" (.int 8) (bq "row" (.int k) (bq "text" (.str T) [])))))
def Ee(T:Str)(k:Int):SF T 0 0 (sfs T k):=by
 let no:∀m:Str,m≠"parts" -> m≠"place" -> m≠"most_parts" -> m≠"most_within" -> m≠"row" -> m≠"text" -> (sfs T k).lookup m=none:=λm h1 h2 h3 h4 h5 h6=>by
  unfold sfs;rw[aj,Jy h1,aj,Jy h2,aj,Jy h3,aj,Jy h4,aj,Jy h5,aj,Jy h6];rfl
 erw[6,6,6,6,6,no _ ⋯ ⋯ ⋯ ⋯ ⋯ ⋯,no _ ⋯ ⋯ ⋯ ⋯ ⋯ ⋯,no _ ⋯ ⋯ ⋯ ⋯ ⋯ ⋯,no _ ⋯ ⋯ ⋯ ⋯ ⋯ ⋯,no _ ⋯ ⋯ ⋯ ⋯ ⋯ ⋯,6]
 . unfold sfs;rw[aj,Jy ⋯,aj,Jy ⋯,aj,Jy ⋯,aj,Jy ⋯,aj,Jy ⋯,aj,JB rfl]
 . unfold sfs;rw[aj,Jy ⋯,aj,Jy ⋯,aj,Jy ⋯,aj,JB rfl]
 . unfold sfs;rw[aj,Jy ⋯,aj,Jy ⋯,aj,JB rfl]
 . unfold sfs;rw[aj,Jy ⋯,aj,JB rfl];rfl
 . unfold sfs;rw[aj,JB rfl];rfl
 . unfold sfs;apply zM0 (bX _ _ _) (zF1 (zM0 (bX _ _ _) (zF1 (zM0 (bX _ _ _) (zF1 (zM0 (bX _ _ _) (zF1 (zM0 (bX _ _ _) (zF1 (bX _ _ _))))))))))
def ScanAt(C:Addr)(H:Hp)(sc:Addr)(T:Str)(p n:Nat):Prop:=∃dx fs,H sc=some (.ins C dx fs)/\SF T p n fs
instance spSInit(C:Addr):∀(g dx:Addr)(T:Str)(k:Int),vs=[.ref g,.str T,.int k,.int 8,.int 20]->H g=some (.ins C dx [])->(∀H',ScanAt C H' g T 0 0->SameBut g H H'->Q .non H'):=1
def zS:FnScope Wd Wd (ag rP):=%[|5]
def AE(F:#["__init__","Scan.__init__",rP])(T:STxt K mg C):#[1,f,fd,Wd,spSInit C]:=by
 exists zS
 erw[g,dx,Tx,kr,1,hg,q]at h;erw[_,(aa (aU (pv 0) (pv 1) rfl) (aa (aU (pv 0) (pv 2) rfl) (aa (aU (pv 0) (pv 3) rfl) (aa (aU (pv 0) (pv 4) rfl) (aa (aU (pv 0) ac rfl) (ad (aU (pv 0) ac rfl))))))),6];erw[0,0,g,C,dx,[],1,hg,T.cl,T.nX,(by show 0<1000;decide),6];erw[0,0,g,C,dx,0,aO,9,T.nR,(zJ1 (bX _ _ _) (by show 1<1000;decide)),6];erw[0,0,g,C,dx,0,aO,9,T.nW,(zJ1 (bX _ _ _) (zJ1 (zF1 (bX _ _ _)) (by show 2<1000;decide))),6];erw[0,0,g,C,dx,0,aO,9,T.nP,(zJ1 (bX _ _ _) (zJ1 (zF1 (zM0 (bX _ _ _) (zF1 (bX _ _ _)))) (by show 3<1000;decide))),6];erw[0,g,C,dx,0,aO,9,T.nL,(zJ1 (bX _ _ _) (zJ1 (zF1 (zM0 (bX _ _ _) (zF1 (zM0 (bX _ _ _) (zF1 (bX _ _ _)))))) (by show 4<1000;decide))),6];erw[0,g,C,dx,0,aO,9,T.nN,(zJ1 (bX _ _ _) (zJ1 (zF1 (zM0 (bX _ _ _) (zF1 (zM0 (bX _ _ _) (zF1 (zM0 (bX _ _ _) (zF1 (bX _ _ _)))))))) (by show 5<1000;decide))),6];exact q _ ⟨dx,sfs Tx kr,aO,Ee Tx kr⟩ ((SameBut.upd _).trans ((SameBut.upd _).trans ((SameBut.upd _).trans ((SameBut.upd _).trans ((SameBut.upd _).trans (SameBut.upd _))))))
def SF.size(h:SF T p n fs):fs.length<1000:=zJ1 h.len ⋯
instance spEnter(C:Addr):∀(sc:Addr)(T:Str)(p n:Nat)(wi:Int),vs=[.ref sc,.int wi]->ScanAt C H sc T p n->wi<=8->n+1<=20->(∀H',ScanAt C H' sc T p (n+1)->SameBut sc H H'->Q .non H'):=1
def xL:FnScope We We (ag oG):=%[|5]
def yd(F:#["enter","Scan.enter",oG])(T:STxt K mg C):#[1,f,fd,We,spEnter C]:=by
 exists xL
 erw[sc,Tx,p,n,wi,1,%[dx,fs,hs|sf],w10,n30,q]at h;refine⟨_,(aa (aU (pv 0) (au aR (az (pv 0) rfl) ac) rfl)
  (ad (aG (PW.pt (dR (af gz (pv 1) (az (pv 0) rfl) (ao _)) (dI (af gz (az (pv 0) rfl) (az (pv 0) rfl) (ao _))))) bu ax))),?_⟩
 let sf':=sf.toParts (n+1);erw[0,sc,C,dx,fs,0,hs,9,T.nN,sf.parts,2,0,sc,C,dx,fs,1,hs,9,T.nN,sf.size,6];let hs':upd H sc (.ins C dx (bq "parts" (.int ((n:Int)+1)) fs)) sc=some (.ins C dx (bq "parts" (.int ((n+1:Nat):Int)) fs)):=aO;erw[0,0,sc,C,dx,_,0,hs',9,T.nW,sf'.mw,2,0,6];apply ay #[0] ?_;erw[0,sc,C,dx,_,0,hs',9,T.nN,sf'.parts,0,sc,C,dx,_,0,hs',9,T.nP,sf'.mp,2,0,6];apply ay #[0] ?_;exact q _ ⟨dx,_,hs',sf'⟩ (SameBut.upd _)
instance spSees(C:Addr):∀(sc:Addr)(T u:Str)(p n:Nat),vs=[.ref sc,.str u]->ScanAt C H sc T p n->Q (.bl (eW T u p)) H:=1
def zR:FnScope WF WF (ag rO):=%[|5]
def AD(F:#["sees","Scan.sees",rO])(T:STxt K mg C):#[1,f,fd,WF,spSees C]:=by
 exists zR
 erw[sc,Tx,u,p,n,1,%[dx,fs,hs|sf],q]at h;erw[_,(ad (aq (cW zS1 PySem.F.slot_str_startswith PySem.F.type_str_startswith uk (az (pv 0) rfl) %[1,az (pv 0) rfl|aQ]))),6];erw[0,sc,C,dx,fs,0,hs,9,T.nX,sf.text,1,0,0,sc,C,dx,fs,0,hs,9,T.nL,sf.place,Tx,u,0,1,q]
instance spTake'(C:Addr):∀(sc:Addr)(T u:Str)(p n:Nat),vs=[.ref sc,.str u]->ScanAt C H sc T p n->eW T u p=true->u.length<=10->(∀H',ScanAt C H' sc T (p+u.length) n->SameBut sc H H'->Q .non H'):=1
def zQ:FnScope WF WF (ag rN):=%[|5]
def AC(F:#["take","Scan.take",rN])(B:Bl mg)(T:STxt K mg C)(mS:Meth K C "sees" fS)(GS:#[1,fS,fdS,WF,spSees C])(bS:Binds K fdS WF []):#[2,f,fd,WF,spTake' C]:=by
 exists zQ
 erw[sc,Tx,u,p,n,1,S,hu,u10,q]at h;let hr1:Room 1 _:=hr.mono ⋯;refine⟨_,(aa (aG (gy (dJ (bJ (pv 0) T.cl mS GS hr1 bS .nil bh %[1|aQ]))) bu ax)
  (ad (aU (pv 0) (au aR (az (pv 0) rfl) (aE cI rfl B.len zB1 %[1|aQ])) rfl))),?_⟩
 let%[dx,fs,hs|sf]:=id S;erw[0,sc,dx,fs,1,hs,sf.no2,0,sc,Tx,u,p,n,1,S,0,6];rw[hu];apply cV ?_;erw[0,sc,C,dx,fs,0,hs,9,T.nL,sf.place,0,u,1,cg #[0],2,0,sc,C,dx,fs,1,hs,T.cl,T.nL,sf.size,6];let hs':upd H sc (.ins C dx (bq "place" (.int ((p:Int)+(u.length:Int))) fs)) sc=some (.ins C dx (bq "place" (.int ((p+u.length:Nat):Int)) fs)):=by rw[aO,wB0]
 exact q _ %[dx,_,hs'|sf.toPlace _] (SameBut.upd _)
def uQ(r:List Nat):Prop:=r=[]∨∃c r',r=c::r'/\(c=32∨c=40∨c=41)
instance spWord(C:Addr):∀(sc:Addr)(T:Str)(p n:Nat)(x r:List Nat),vs=[.ref sc]->ScanAt C H sc T p n->T.length<=1000->p<=T.length->T.cps.toList.drop p=x++r->(∀c∈x,isIn ENDS c=false)->uQ r->(∀H',ScanAt C H' sc T (p+x.length) n->SameBut sc H H'->Q (.str (stl x)) H'):=1
def Fq:FnScope ["self","start"] WA (ag rM):=%[|5]
def AB(F:#["word","Scan.word",rM])(B:Bl mg)(X:Tx K mg)(T:STxt K mg C):#[1,f,fd,WA,spWord C]:=by
 exists Fq
 erw[sc,Tx,p,n,x,r,1,%[dx,fs,hs|sf],tl,pl,hd,xl,er,q]at h;erw[te,ge]at X.ends;refine⟨_,(aa #[am,1,Fq,az (pv 0) rfl]
  (aa (hJ zG1 (PW.pt (lS (af du (az (pv 0) rfl) (aE cI rfl B.len zB1 %[az (pv 0) rfl|aQ]) (ao _)) (kN (af sw (aJ pO (az (pv 0) rfl) (az (pv 0) rfl) #[1]) (cY (v:=.str ENDS) rfl ge %[|0]) (by rfl'))))) (ad (aU (pv 0) (au aR (az (pv 0) rfl) ac) rfl)))
  (ad (aq (eZ ve (az (pv 0) rfl) (ee (pv 1)) (ee (az (pv 0) rfl))))))),?_⟩
 let L:Tx.cps.toList.length=Tx.length:=by rw[zT1];rfl
 let hlen:Tx.length=p+(x.length+r.length):=by
  have:=congrArg List.length hd
  rw[jG0,zL0,L]at this;omega
 erw[0,sc,C,dx,fs,0,hs,9,T.nL,sf.place,6];erw[λm σ H'=>∃j:Nat,j<=x.length/\σ=[some (.ref sc),some (.int (p:Int))]/\ScanAt C H' sc Tx (p+j) n/\SameBut sc H H'/\m=x.length-j,%[_,(0),zQ0 _,1,%[dx,fs,hs|sf],SameBut.refl _ _|1],6];rintro m σ H1 ⟨j,hj,rfl,⟨dx1,fs1,hs1,sf1⟩,S1,rfl⟩;erw[0,sc,C,dx1,fs1,0,hs1,9,T.nL,sf1.place,0,sc,C,dx1,fs1,0,hs1,9,T.nX,sf1.text,Tx,1,cg tl,2,0,6];let sl:j=x.length->Txt.slice Tx (some (p:Int)) (some ((p+j:Nat):Int))=stl x:=λej=>by
  let es:Txt.slice Tx (some (p:Int)) (some ((p+j:Nat):Int))=_:=StrLaws.sliceText_plain (i:=(p:Int)) (j:=((p+j:Nat):Int)) %[3,3|by rw[L];omega];rw[es];apply Cl ?_;show(Tx.cps.toList.drop (p:Int).toNat).take (((p+j:Nat):Int)-(p:Int)).toNat=x;rw[show(p:Int).toNat=p by omega,show(((p+j:Nat):Int)-(p:Int)).toNat=x.length by omega,hd,List.take_left'];rfl
 by_cases c1:(((p+j:Nat):Int))<(Tx.length:Int)
 . apply aV c1 ?_;let hk:p+j<Tx.cps.toList.length:=by rw[L];omega
   let ha:atI Tx.cps.toList ((p+j:Nat):Int)=some Tx.cps.toList[p+j]:=bw (zS0 hk);let hx:Tx.cps.toList[p+j]?=(x++r)[j]?:=by rw[←hd,List.getElem?_drop]
   erw[0,sc,C,dx1,fs1,0,hs1,9,T.nX,sf1.text,0,sc,C,dx1,fs1,0,hs1,9,T.nL,sf1.place,Tx,2,cg tl,ha,2,0,6]
   by_cases c2:j<x.length
   . let ec:Tx.cps.toList[p+j]=x[j]:=by
      rw[zS0 hk,zO1 c2,zS0 c2]at hx;exact zT0 hx
     let en:(!isIn ENDS Tx.cps.toList[p+j])=true:=by rw[ec,xl _ (qO0 c2)];rfl
     let en':(!(!(Builtin.Str.occurrences ENDS %[|#[Tx.cps.toList[p+j]]] 0 ENDS.length 1).isEmpty))=true:=en;rw[en'];erw[_,λ_ _ h=>h,6];erw[0,sc,C,dx1,fs1,0,hs1,9,T.nL,sf1.place,2,0,sc,C,dx1,fs1,1,hs1,9,T.nL,sf1.size,6];let hs':upd H1 sc (.ins C dx1 (bq "place" (.int (((p+j:Nat):Int)+1)) fs1)) sc=some (.ins C dx1 (bq "place" (.int ((p+(j+1):Nat):Int)) fs1)):=by
      rw[aO,show((p+j:Nat):Int)+1=((p+(j+1):Nat):Int) by omega]
     erw[_,3,j+1,3,1,%[dx1,_,hs'|sf1.toPlace _],S1.trans (SameBut.upd _),1]
   . let ej:j=x.length:=#[0]
     let en:(!isIn ENDS Tx.cps.toList[p+j])=false:=by
      rcases er with rfl | ⟨c,r',rfl,hc⟩
      . rw[zM1]at hlen;omega
      . rw [zS0 hk,zL1 #[0],show j-x.length=0 by omega]at hx;let ec:Tx.cps.toList[p+j]=c:=zT0 hx;rw[ec];rcases hc with rfl | rfl | rfl
        . rw[ends_in.1];rfl
        . rw[ends_in.2.1];rfl
        . rw[ends_in.2.2];rfl
     let en':(!(!(Builtin.Str.occurrences ENDS %[|#[Tx.cps.toList[p+j]]] 0 ENDS.length 1).isEmpty))=false:=en;rw[en'];erw[0,sc,C,dx1,fs1,0,hs1,9,T.nX,sf1.text,0,0,0,sc,C,dx1,fs1,0,hs1,9,T.nL,sf1.place,0,Tx,1,cg tl,6];rw[sl ej];rw[ej]at sf1;exact q H1 ⟨dx1,fs1,hs1,sf1⟩ S1
 . apply ay c1 ?_;let ej:j=x.length:=#[0]
   erw[0,sc,C,dx1,fs1,0,hs1,9,T.nX,sf1.text,0,0,0,sc,C,dx1,fs1,0,hs1,9,T.nL,sf1.place,0,Tx,1,cg tl,6];rw[sl ej];rw[ej]at sf1;exact q H1 ⟨dx1,fs1,hs1,sf1⟩ S1
instance spFinish(C:Addr):∀(sc:Addr)(T:Str)(n:Nat),vs=[.ref sc]->ScanAt C H sc T T.length n->T.length<=1000->Q .non H:=1
def vi:FnScope WA WA (ag lF):=%[|5]
def vK(F:#["finish","Scan.finish",lF])(B:Bl mg)(T:STxt K mg C):#[1,f,fd,WA,spFinish C]:=by
 exists vi
 erw[sc,Tx,n,1,%[dx,fs,hs|sf],tl,q]at h;erw[_,(ad (aG (af jN (az (pv 0) rfl) (aE cI rfl B.len zB1 %[az (pv 0) rfl|aQ]) (ao _)) bu ax)),6];erw[0,sc,C,dx,fs,0,hs,9,T.nL,sf.place,0,sc,C,dx,fs,0,hs,9,T.nX,sf.text,Tx,1,cg tl,1,0,6];show if(!decide (V.int (Tx.length:Int)=V.int (Tx.length:Int)))=true then _ else _
 rw[zD1 rfl];exact cV q
def Bw(n p:Nat):PySem.fromIndex n (p:Int)=p:=by
 unfold PySem.fromIndex;rw[Jy #[0]];omega
def wJ(T u:Str)(p:Nat):Builtin.Str.subAt T u p=decide ((T.cps.toList.drop p).take u.length=u.cps.toList):=by
 unfold Builtin.Str.subAt;let e:(T.cps.extract p (p+u.length)).toList=(T.cps.toList.drop p).take u.length:=by
  rw[Array.toList_extract,List.extract_eq_drop_take]
  congr 1
  omega
 by_cases c:(T.cps.toList.drop p).take u.length=u.cps.toList
 . rw [zD1 c]
   have:T.cps.extract p (p+u.length)=u.cps:=Array.toList_inj.mp (e.trans c)
   rw[this]
   simp
 . rw [zE1 c]
   have:¬ T.cps.extract p (p+u.length)=u.cps:=λz=>c (by rw[←e,z])
   simpa using this
def lg(T:Str):T.cps.toList.length=T.length:=by rw[zT1];rfl
def jD{T:Str}{p:Nat}{u v:List Nat}(h:T.cps.toList.drop p=u++v)(hp:p<=T.length):p+u.length+v.length=T.length:=by
 have:=congrArg List.length h
 rw[jG0,zL0,lg]at this;omega
def bY{T:Str}{p:Nat}{u v:List Nat}(h:T.cps.toList.drop p=u++v):T.cps.toList.drop (p+u.length)=v:=by
 rw[←List.drop_drop,h,List.drop_left]
def dA{T u:Str}{p:Nat}{r:List Nat}(h:T.cps.toList.drop p=u.cps.toList++r)(hp:p<=T.length):eW T u (p:Int)=true:=by
 unfold eW;let hl:=jD h hp;rw[lg]at hl;rw[Bw,wJ,zD1 #[0],h,←lg u,List.take_left,zD1 rfl];rfl
def xH{T:Str}{p:Nat}{c:Nat}{r:List Nat}(h:T.cps.toList.drop p=c::r)(hc:c≠40):eW T ("(":Str) (p:Int)=false:=by
 unfold eW;let l1:(("(":Str)).length=1:=by decide
 rw[Bw,wJ,h,sP,l1]
 have:¬ (c::r).take 1=[40]:=λz=>hc #[z,0]
 rw[zE1 this,wH0]
def cM(S:ScanAt C H sc T p n)(s:SameBut sc H H'):bN H H':=λa xs h=>s a _ (λz=>by
 erw[dx,fs,e,_]at S;rw[z,e]at h;cases h) h
def ScanAt.same(S:ScanAt C H sc T p n)(s:Same H H'):ScanAt C H' sc T p n:=by
 erw[dx,fs,e,sf]at S;erw[dx,fs,s _ _ e,sf]
structure Mths(P:Program)(w:World)(K:W.Frag)(mg:#[9])(base:Heap)(C fE fS fT fW fF:Addr)(dE dS dT dW dF:FuncData):Prop where
 mE:Meth K C "enter" fE
 gE:#[1,fE,dE,We,spEnter C]
 bE:Binds K dE We []
 mS:Meth K C "sees" fS
 gS:#[1,fS,dS,WF,spSees C]
 bS:Binds K dS WF []
 mT:Meth K C "take" fT
 gT:#[2,fT,dT,WF,spTake' C]
 bT:Binds K dT WF []
 mW:Meth K C "word" fW
 gW:#[1,fW,dW,WA,spWord C]
 bW:Binds K dW WA []
 mF:Meth K C "finish" fF
 gF:#[1,fF,dF,WA,spFinish C]
 bF:Binds K dF WA []
def Bz:∀c:Nat,c<62->42<=c->isIn ENDS c=false:=by decide
def EU:∀c:Fin 26,isIn FIG (97+c.val)=false:=by decide
def Bn{c:Nat}(h:97<=c/\c<=122):isIn FIG c=false:=by
 have:=EU %[c-97|3]
 rwa [show 97+(%[c-97|3]:Fin 26).val=c by show 97+(c-97)=c;omega]at this
def yS(h:NmK x):jf x=false:=by
 unfold jf;erw[hl,h1,_,_]at h
 have:x.cps.toList.all (isIn FIG)=false:=by
  cases e:x.cps.toList with
  |nil=>
    have:=df x
    unfold cd at this;rw[e]at this
    simp at this
    omega
  |cons c r=>
    have:=Bn (hl c (by rw[e];exact zW0))
    rw[jU0,this];rfl
 rw[this,wH0]
def mv(l:List Nat):Prop:=∀c∈l,isIn ENDS c=false
def cX{l:List Nat}(h:∀c∈l,97<=c/\c<=122):mv l:=λc hc=>yK (h c hc)
def pk{l:List Nat}(h:∀c∈l,42<=c/\c<=61):mv l:=λc hc=>Bz c (by have:=h c hc;omega) (h c hc).1
def ph{n:Int}(h:0<=n):mv (cd (cv n)):=pk λc hc=>by have:=gK h c hc;omega
def ya(h:mv l)(h1:1<=l.length)(r:List Nat):∃c r',l++r=c::r'/\c≠40:=by
 cases l with
 |nil=>cases h1
 |cons c l'=>
   erw[c,l'++r,1,λe=>?_]
   have:=h c zW0
   rw[e,ends_in.2.1]at this;cases this
instance spNextT(C:Addr)(n:Nat):∀(sc:Addr)(wi:Int)(T:Str)(p k:Nat)(t:Tm)(r:List Nat),vs=[.ref sc,.int wi]->ScanAt C H sc T p k->T.length<=1000->p<=T.length->T.cps.toList.drop p=[32]++(t.txt++r)->uQ r->t.ok->t.depth<=n->wi+(t.depth:Int)<=9->k+t.size<=20->(∀(v:V)(H':Hp),TmAt H' v t->ScanAt C H' sc T (p+1+t.txt.length) (k+t.size)->SameBut sc H H'->Q v H'):=1
instance spTB(C:Addr)(n:Nat):∀(sc:Addr)(wi:Int)(T:Str)(p k:Nat)(t:Tm)(r:List Nat),vs=[.ref sc,.int wi]->ScanAt C H sc T p (k+1)->T.length<=1000->p<=T.length->T.cps.toList.drop p=t.txt++r->t.ok->((∃w a,t=.ask w a)∨∃s a b,t=.op s a b)->t.depth<=n+1->wi+(t.depth:Int)<=9->k+t.size<=20->(∀(v:V)(H':Hp),TmAt H' v t->ScanAt C H' sc T (p+t.txt.length) (k+t.size)->SameBut sc H H'->Q v H'):=1
def b9:FnScope ["scan","within","word","first","term"] WH (ag dj):=%[|5]
def Ci{n:Nat}(F:#["term_in_bracket",dj])(X:Tx K mg)(T:STxt K mg C)(M:Mths P w K mg base C fE fS fT fW fF dE dS dT dW dF)(cx:#[2*n+3,"next_term",WH,spNextT C n]):#[2*n+4,f,fd,WH,spTB C n]:=by
 exists b9
 erw[sc,wi,Tx,p,k,t,r,1,S0,tl,pl,hd,ok,kind,dn,wd,k20,q]at h;erw[ja,gj,hj]at X.asking;erw[sa,gs,hs]at X.signs;let hr1:Room 1 _:=hr.mono #[0];let hr2:Room 2 _:=hr.mono #[0];refine⟨_,(aa (aS (bJ (pv 0) T.cl M.mT M.gT hr2 M.bT .nil bh %[aB|aQ]))
  (aa #[am,2,b9,ca (pv 0) T.cl M.mW M.gW hr1 M.bW .nil bh]
  (aa #[am,3,b9,ai cx hr #[0] rfl %[0,au aR (pv 1) ac|aQ]]
  (aa (aG (af eP (pv 2) (cY (v:=.ref ja) rfl gj rfl) (by rfl')) (ad #[am,4,b9,aM %[2,3|aQ]]) (ad (aG (af eP (pv 2) (cY (v:=.ref sa) rfl gs rfl) (by rfl')) (ad #[am,4,b9,aM %[aB,2,3,ai cx hr #[0] rfl %[0,au aR (pv 1) ac|aQ]|aQ]]) bu)))
  (aa (aS (bJ (pv 0) T.cl M.mT M.gT hr2 M.bT .nil bh %[aB|aQ]))
  (ad (aq (pv 4)))))))),?_⟩
 let l1:(("(":Str)).length=1:=by decide
 let l3:((")":Str)).length=1:=by decide
 let%[dx0,fs0,hs0|sf0]:=id S0;rcases kind with⟨wd',a,rfl⟩ | ⟨o,a,b,rfl⟩
 . erw[okw,oka]at ok;let%[_,w1,wl|_]:=wF wd' okw;let da:a.depth<=n:=Nat.le_of_succ_le_succ dn;let ed:(((Tm.ask wd' a).depth:Nat):Int)=(a.depth:Int)+1:=by show((a.depth+1:Nat):Int)=_;omega
   let es:(Tm.ask wd' a).size=a.size+1:=rfl;let wlen:(cd wd').length=wd'.length:=df _;let hd0:Tx.cps.toList.drop p=[40]++(cd wd'++([32]++(a.txt++([41]++r)))):=by
    rw[hd];show([40]++(cd wd'++([32]++(a.txt++[41]))))++r=_
    simp
   let tlen:(Tm.ask wd' a).txt.length=1+(wd'.length+(1+(a.txt.length+1))):=by
    show([40]++(cd wd'++([32]++(a.txt++[41])))).length=_;simp only[zL0,zU0,zM1,wlen]
   let hl0:=jD hd0 pl;simp only[zL0,zU0,zM1,wlen]at hl0;let hd1:=bY hd0;let hd2:=bY hd1;let hd3:=bY hd2;let hd4:=bY hd3;simp only[zU0,zM1,wlen]at hd1 hd2 hd3 hd4;erw[0,sc,dx0,fs0,1,hs0,sf0.no3,sc,Tx,_,p,0,S0,dA (r:=cd wd'++([32]++(a.txt++([41]++r)))) (by rw[sP];exact hd0) pl,by rw[l1];decide,λH1 S1 B1=>?_];rw[l1]at S1;let%[dx1,fs1,hs1|sf1]:=id S1;erw[0,sc,dx1,fs1,1,hs1,sf1.no4,sc,Tx,_,_,cd wd',0,S1,tl,3,hd1,cX wl,.inr %[(32),0|.inl rfl],λH2 S2 B2=>?_];rw[wlen]at S2;erw[0,0,2,sc,wi+1,Tx,_,_,a,0,S2,tl,3,hd2,.inr %[(41),r,1|.inr (.inr rfl)],oka,da,3,3,λv1 H3 T3 S3 B3=>?_];erw[0,ja,0,.inr (hj _),1,⋯,0,6];let einj:inV (.str (stl (cd wd'))) (askW.map V.str)=true:=by rw[show stl (cd wd')=wd' from jY _,iD,zD1 okw]
   rw[einj];apply dL ?_;erw[0,0,y2S,λc hc=>?_];let G:=zC0 hc (.tup [.str (stl (cd wd')),v1]);let S4:=S3.same G;let ec:upd H3 c (.tup [.str (stl (cd wd')),v1]) c=some (.tup [.str wd',v1]):=aO;let T4:=T3.mono (bd G);generalize upd H3 c (.tup [.str (stl (cd wd')),v1])=H4 at G S4 ec T4;let%[dx4,fs4,hs4|sf4]:=id S4;erw[0,sc,dx4,fs4,1,hs4,sf4.no3,sc,Tx,_,_,0,S4,dA (r:=r) (by rw[Bc,show p+1+wd'.length+1+a.txt.length=p+(0+1)+wd'.length+(0+1)+a.txt.length by omega];exact hd4) #[0],by rw[l3];decide,λH5 S5 B5=>?_];rw[l3]at S5;let k5:=cM S4 B5;erw[0,6];rw[show p+1+wd'.length+1+a.txt.length+1=p+(Tm.ask wd' a).txt.length by rw[tlen];omega,show k+1+a.size=k+(Tm.ask wd' a).size by rw[es];omega]at S5;exact q _ _ (.ask (k5 _ _ ec) (T4.mono k5)) S5 (B1.trans (B2.trans (B3.trans ((zJ0 G).trans B5))))
 . erw[oko,oka,okb]at ok;let%[o1,ol|no]:=rC o oko;let dd:a.depth<=n/\b.depth<=n/\wi+(a.depth:Int)<=8/\wi+(b.depth:Int)<=8:=by
    let e1:(Tm.op o a b).depth=max a.depth b.depth+1:=rfl;rw[e1]at dn wd;omega
   let es:(Tm.op o a b).size=a.size+b.size+1:=rfl;let wlen:(cd o).length=o.length:=df _;let hd0:Tx.cps.toList.drop p=[40]++(cd o++([32]++(a.txt++([32]++(b.txt++([41]++r)))))):=by
    rw[hd];show([40]++(cd o++([32]++(a.txt++([32]++(b.txt++[41]))))))++r=_
    simp
   let tlen:(Tm.op o a b).txt.length=1+(o.length+(1+(a.txt.length+(1+(b.txt.length+1))))):=by
    show([40]++(cd o++([32]++(a.txt++([32]++(b.txt++[41])))))).length=_;simp only[zL0,zU0,zM1,wlen]
   let hl0:=jD hd0 pl;simp only[zL0,zU0,zM1,wlen]at hl0;let hd1:=bY hd0;let hd2:=bY hd1;let hd3:=bY hd2;let hd4:=bY hd3;let hd5:=bY hd4;let hd6:=bY hd5;simp only[zU0,zM1,wlen]at hd1 hd2 hd3 hd4 hd5 hd6;erw[0,sc,dx0,fs0,1,hs0,sf0.no3,sc,Tx,_,p,0,S0,dA (r:=cd o++([32]++(a.txt++([32]++(b.txt++([41]++r)))))) (by rw[sP];exact hd0) pl,by rw[l1];decide,λH1 S1 B1=>?_];rw[l1]at S1;let%[dx1,fs1,hs1|sf1]:=id S1;erw[0,sc,dx1,fs1,1,hs1,sf1.no4,sc,Tx,_,_,cd o,0,S1,tl,3,hd1,pk ol,.inr %[(32),0|.inl rfl],λH2 S2 B2=>?_];rw[wlen]at S2;erw[0,0,2,sc,wi+1,Tx,_,_,a,0,S2,tl,3,hd2,.inr %[(32),0|.inl rfl],oka,dd.1,3,3,λv1 H3 T3 S3 B3=>?_];erw[0,ja,0,.inr (hj _),1,⋯,0,6];let einj:inV (.str (stl (cd o))) (askW.map V.str)=false:=by rw[show stl (cd o)=o from jY _,iD,zE1 no]
   rw[einj];apply cV ?_;erw[0,sa,0,.inr (hs _),1,⋯,0,6];let eins:inV (.str (stl (cd o))) (signW.map V.str)=true:=by rw[show stl (cd o)=o from jY _,iD,zD1 oko]
   rw [eins];apply dL ?_;let hd4':Tx.cps.toList.drop (p+1+o.length+1+a.txt.length)=[32]++(b.txt++([41]++r)):=by
    rw[show p+1+o.length+1+a.txt.length=p+(0+1)+o.length+(0+1)+a.txt.length by omega];exact hd4
   erw[0,0,0,0,2,sc,wi+1,Tx,_,_,b,0,S3,tl,3,hd4',.inr %[(41),r,1|.inr (.inr rfl)],okb,dd.2.1,3,3,λv2 H4 T4 S4 B4=>?_];let T3':=T3.mono (cM S3 B4);erw[y4S,λc hc=>?_];let G:=zC0 hc (.tup [.str "op",.str (stl (cd o)),v1,v2]);let S5:=S4.same G;let ec:upd H4 c (.tup [.str "op",.str (stl (cd o)),v1,v2]) c=some (.tup [.str "op",.str o,v1,v2]):=aO;let T5:=T4.mono (bd G);let T5':=T3'.mono (bd G);generalize upd H4 c (.tup [.str "op",.str (stl (cd o)),v1,v2])=H5 at G S5 ec T5 T5';let%[dx5,fs5,hs5|sf5]:=id S5;erw[0,sc,dx5,fs5,1,hs5,sf5.no3,sc,Tx,_,_,0,S5,dA (r:=r) (by rw[Bc,show p+1+o.length+1+a.txt.length+1+b.txt.length=p+(0+1)+o.length+(0+1)+a.txt.length+(0+1)+b.txt.length by omega];exact hd6) #[0],by rw[l3];decide,λH6 S6 B6=>?_];rw[l3]at S6;let k6:=cM S5 B6;erw[0,6];rw[show p+1+o.length+1+a.txt.length+1+b.txt.length+1=p+(Tm.op o a b).txt.length by rw[tlen];omega,show k+1+a.size+b.size=k+(Tm.op o a b).size by rw[es];omega]at S6;exact q _ _ (.op (k6 _ _ ec) (T5'.mono k6) (T5.mono k6)) S6 (B1.trans (B2.trans (B3.trans (B4.trans ((zJ0 G).trans B6)))))
def m7:FnScope ["scan","within","word"] WH (ag gJ):=%[|5]
def sH{n:Int}(h:0<=n):cv n∉plainW:=λhm=>by
 let%[_,w1,wl|_]:=kR _ hm;cases e:cd (cv n)with
 |nil=>
   have:=df (cv n)
   rw[e]at this
   simp at this
   omega
 |cons c r=>
   let h1:=gK h c (by rw[e];exact zW0);let h2:=wl c (by show c∈cd (cv n);rw[e];exact zW0);omega
def vE:∀w∈plainW,w∈kept:=by decide
def CZ{n:Nat}(F:#["next_term",gJ])(B:Bl mg)(X:Tx K mg)(T:STxt K mg C)(M:Mths P w K mg base C fE fS fT fW fF dE dS dT dW dF)(cU:#[1,"is_name",WC,spTxt iG])(bj:#[1,"is_figures",WC,spTxt jf])(r6:#[2*n+4,"term_in_bracket",WH,spTB C n]):#[2*(n+1)+3,f,fd,WH,spNextT C (n+1)]:=by
 exists m7
 erw[sc,wi,Tx,p,k,t,r,1,S0,tl,pl,hd,er,ok,dn,wd,k20,q]at h;erw[ja,gj,hj]at X.plain;let hr1:Room 1 _:=hr.mono #[0];let hr2:Room 2 _:=hr.mono #[0];refine⟨_,(aa (aS (bJ (pv 0) T.cl M.mT M.gT hr2 M.bT .nil bh %[aB|aQ]))
  (aa (aS (bJ (pv 0) T.cl M.mE M.gE hr1 M.bE .nil bh %[1|aQ]))
  (aa (aG (dJ (bJ (pv 0) T.cl M.mS M.gS hr1 M.bS .nil bh %[aB|aQ])) (ad (aq (ai r6 hr #[0] rfl %[0,1|aQ]))) ax)
  (aa #[am,2,m7,ca (pv 0) T.cl M.mW M.gW hr1 M.bW .nil bh]
  (aa (aG (af eP (pv 2) (cY (v:=.ref ja) rfl gj rfl) (by rfl')) (ad (aq (aM %[2|aQ]))) ax)
  (aa (aG (dJ (ai bj hr #[0] rfl %[2|aQ])) (ad (aq (aM %[aB,bv gU rfl B.int jH %[2|aQ]|aQ]))) ax)
  (aa (aG (gy (dJ (ai cU hr #[0] rfl %[2|aQ]))) bu ax)
  (ad (aq (aM %[aB,2|aQ])))))))))),?_⟩
 let l2:((" ":Str)).length=1:=by decide
 let dp:=t.depth_pos;let sp:=t.size_pos;let hl0:=jD hd pl;let hd1:=bY hd;simp only[zL0,zU0,zM1]at hl0 hd1;let%[dx0,fs0,hs0|sf0]:=id S0;erw[0,sc,dx0,fs0,1,hs0,sf0.no3,sc,Tx,_,p,0,S0,dA (r:=t.txt++r) (by rw[ku];exact hd) pl,by rw[l2];decide,λH1 S1 B1=>?_];rw[l2]at S1;let%[dx1,fs1,hs1|sf1]:=id S1;erw[0,sc,dx1,fs1,1,hs1,sf1.no1,0,sc,Tx,_,k,wi,1,S1,3,3,λH2 S2 B2=>?_];let%[dx2,fs2,hs2|sf2]:=id S2;erw[0,sc,dx2,fs2,1,hs2,sf2.no2,sc,Tx,_,_,0,S2,0,6];let shape:(((∃w a,t=.ask w a)∨∃s a b,t=.op s a b)/\∃z,t.txt=40::z)∨∃x:Str,t.txt=cd x/\mv (cd x)/\1<=x.length/\t.size=1/\((t=.plain x/\x∈plainW)∨(∃m,t=.num m/\x=cv m/\0<=m/\m<1000000000000)∨(t=.box x/\NmK x)):=by
  cases t with
  |ask w a=>exact .inl %[.inl %[w,a|1]|0]
  |op s a b=>exact .inl %[.inr %[s,a,b|1]|0]
  |plain x=>
    let okx:x∈plainW:=ok;let%[_,w1,wl|_]:=kR x okx;exact .inr %[x,1,cX wl,w1,1|.inl %[1|okx]]
  |num m=>exact .inr %[cv m,1,ph ok.1,ui ok.1,1|.inr (.inl %[m,1,1,ok.1|ok.2])]
  |box x=>
    let okx:NmK x:=ok;exact .inr %[x,1,cX okx.1,okx.2.1,1|.inr (.inr %[1|okx])]
 rcases shape with⟨kind,z,ez⟩ | ⟨x,et,pc,x1,s1,kd⟩
 . let hs:eW Tx ("(":Str) ((p+1:Nat):Int)=true:=dA (r:=z++r) (by rw[sP];show _=40::(z++r);rw[hd1,ez];rfl) #[0];rw[hs];apply dL ?_;erw[0,0,sc,wi,Tx,p+1,k,t,r,1,S2,tl,3,hd1,ok,kind,dn,wd,k20,λv H3 T3 S3 B3=>?_];exact q v H3 T3 S3 (B1.trans (B2.trans B3))
 let%[c,r',hc|c40]:=ya pc (by rw[df];exact x1) r;let hd':Tx.cps.toList.drop (p+1)=cd x++r:=by rw[hd1,et]
 rw[xH (hd'.trans hc) c40];apply cV ?_;erw[0,sc,dx2,fs2,1,hs2,sf2.no4,sc,Tx,_,_,cd x,r,1,S2,tl,3,hd',pc,er,λH3 S3 B3'=>?_];rw[show stl (cd x)=x from jY _];rw[←et,←s1]at S3;let B3:SameBut sc H H3:=B1.trans (B2.trans B3');erw[0,ja,0,.inr (hj _),1,⋯,0,6];show if inV (.str x) (plainW.map V.str)=true then _ else _
 rw[iD];rcases kd with⟨rfl,okx⟩ | ⟨m,rfl,rfl,m0,m1⟩ | ⟨rfl,okx⟩
 . apply aV okx ?_;erw[0,y1S,λc hc=>?_];let G:=zC0 hc (.tup [.str x]);exact q _ _ (.plain aO) (S3.same G) (B3.trans (zJ0 G))
 . apply ay (sH m0) ?_;let nl:=iA m0 m1;erw[0,cv m,1,3,λH4 S4=>%[0|6]];rw[sJ m0 m1];apply dL ?_;erw[0,cv m,m,1,sI m0 m1,3,y2S,λc hc=>?_];let G:=zC0 hc (.tup [.str "num",.int m]);exact q _ _ (.num aO) ((S3.same S4).same G) (B3.trans (zJ0 (S4.trans G)))
 . let%[xl,_,x6|xk]:=id okx;apply ay (λh=>xk (vE x h)) ?_;erw[0,x,1,3,λH4 S4=>%[0|6]];rw[yS okx];apply cV ?_;erw[0,x,1,3,λH5 S5=>%[0|6]];rw[wU okx];apply cV ?_;erw[0,y2S,λc hc=>?_];let G:=zC0 hc (.tup [.str "box",.str x]);exact q _ _ (.box aO) (((S3.same S4).same S5).same G) (B3.trans (zJ0 (S4.trans (S5.trans G))))
def CY:#[3,f,fd,WH,spNextT C 0]:=by
 let no:∀vs H Q E,¬ spNextT C 0 vs H Q E:=λvs H Q E h=>by
  erw[_,_,_,_,_,t,_,_,_,_,_,_,_,_,h1,_]at h
  have:=t.depth_pos
  omega
 exists 3
def kX(F:#["next_term",gJ])(m:mg "next_term"=some (.ref f))(Fj:Fun K "term_in_bracket" "term_in_bracket" dj fj fdj)(mj:mg "term_in_bracket"=some (.ref fj))(B:Bl mg)(X:Tx K mg)(T:STxt K mg C)(M:Mths P w K mg base C fE fS fT fW fF dE dS dT dW dF)(cU:#[1,"is_name",WC,spTxt iG])(bj:#[1,"is_figures",WC,spTxt jf]):
 ∀n:Nat,#[2*n+3,f,fd,WH,spNextT C n]
 |0=>CY
 |n+1=>
   let c1:=Cal.of F (kX F m Fj mj B X T M cU bj n) m (λ_ _ _ _ _ _ us hl=>by let%[u0,u1|1]:=EE hl;rfl)
   CZ F B X T M cU bj (Cal.of Fj (Ci Fj X T M c1) mj (λ_ _ _ _ _ _ us hl=>by let%[u0,u1|1]:=EE hl;rfl))
instance spNextN(C:Addr):∀(sc:Addr)(T:Str)(p k:Nat)(x:Str)(r:List Nat),vs=[.ref sc]->ScanAt C H sc T p k->T.length<=1000->p<=T.length->T.cps.toList.drop p=[32]++(cd x++r)->uQ r->NmK x->(∀H',ScanAt C H' sc T (p+1+x.length) k->SameBut sc H H'->Q (.str x) H'):=1
def m8:FnScope ["scan","word"] ["scan"] (ag iQ):=%[|5]
def sA(F:#["next_name",iQ])(T:STxt K mg C)(M:Mths P w K mg base C fE fS fT fW fF dE dS dT dW dF)(cU:#[1,"is_name",WC,spTxt iG]):#[3,f,fd,["scan"],spNextN C]:=by
 exists m8
 erw[sc,Tx,p,k,x,r,1,S0,tl,pl,hd,er,ok,q]at h;let hr1:Room 1 _:=hr.mono #[0];let hr2:Room 2 _:=hr.mono #[0];refine⟨_,(aa (aS (bJ (pv 0) T.cl M.mT M.gT hr2 M.bT .nil bh %[aB|aQ]))
  (aa #[am,1,m8,ca (pv 0) T.cl M.mW M.gW hr1 M.bW .nil bh]
  (aa (aG (gy (dJ (ai cU hr #[0] rfl %[1|aQ]))) bu ax)
  (ad (aq (pv 1)))))),?_⟩
 let l2:((" ":Str)).length=1:=by decide
 let hl0:=jD hd pl;let hd1:=bY hd;simp only[zL0,zU0,zM1]at hl0 hd1;let%[dx0,fs0,hs0|sf0]:=id S0;erw[0,sc,dx0,fs0,1,hs0,sf0.no3,sc,Tx,_,p,0,S0,dA (r:=cd x++r) (by rw[ku];exact hd) pl,by rw[l2];decide,λH1 S1 B1=>?_];rw[l2]at S1;let%[dx1,fs1,hs1|sf1]:=id S1;erw[0,sc,dx1,fs1,1,hs1,sf1.no4,sc,Tx,_,_,cd x,r,1,S1,tl,3,hd1,cX ok.1,er,λH2 S2 B2=>?_];rw[show stl (cd x)=x from jY _];rw[df]at S2;let x6:=ok.2.2.1;erw[0,x,1,3,λH3 S3=>%[0|6]];rw[wU ok];apply cV ?_;erw[0,q H3 (S2.same S3) (B1.trans (B2.trans (zJ0 S3)))]
instance spNextF(C:Addr):∀(sc:Addr)(T:Str)(p k:Nat)(m:Int)(r:List Nat),vs=[.ref sc]->ScanAt C H sc T p k->T.length<=1000->p<=T.length->T.cps.toList.drop p=[32]++(cd (cv m)++r)->uQ r->0<=m->m<1000000000000->(∀H',ScanAt C H' sc T (p+1+(cv m).length) k->SameBut sc H H'->Q (.int m) H'):=1
def ie:FnScope ["scan","word"] ["scan"] (ag gn):=%[|5]
def nI(F:#["next_figures",gn])(B:Bl mg)(T:STxt K mg C)(M:Mths P w K mg base C fE fS fT fW fF dE dS dT dW dF)(bj:#[1,"is_figures",WC,spTxt jf]):#[3,f,fd,["scan"],spNextF C]:=by
 exists ie
 erw[sc,Tx,p,k,m,r,1,S0,tl,pl,hd,er,m0,m1,q]at h;let hr1:Room 1 _:=hr.mono #[0];let hr2:Room 2 _:=hr.mono #[0];refine⟨_,(aa (aS (bJ (pv 0) T.cl M.mT M.gT hr2 M.bT .nil bh %[aB|aQ]))
  (aa #[am,1,ie,ca (pv 0) T.cl M.mW M.gW hr1 M.bW .nil bh]
  (aa (aG (gy (dJ (ai bj hr #[0] rfl %[1|aQ]))) bu ax)
  (ad (aq (bv gU rfl B.int jH %[1|aQ])))))),?_⟩
 let l2:((" ":Str)).length=1:=by decide
 let hl0:=jD hd pl;let hd1:=bY hd;simp only[zL0,zU0,zM1]at hl0 hd1;let nl:=iA m0 m1;let%[dx0,fs0,hs0|sf0]:=id S0;erw[0,sc,dx0,fs0,1,hs0,sf0.no3,sc,Tx,_,p,0,S0,dA (r:=cd (cv m)++r) (by rw[ku];exact hd) pl,by rw[l2];decide,λH1 S1 B1=>?_];rw[l2]at S1;let%[dx1,fs1,hs1|sf1]:=id S1;erw[0,sc,dx1,fs1,1,hs1,sf1.no4,sc,Tx,_,_,cd (cv m),r,1,S1,tl,3,hd1,ph m0,er,λH2 S2 B2=>?_];rw[show stl (cd (cv m))=cv m from jY _];rw[df]at S2;erw[0,cv m,1,3,λH3 S3=>%[0|6]];rw[sJ m0 m1];apply cV ?_;erw[0,cv m,m,1,sI m0 m1,3,q H3 (S2.same S3) (B1.trans (B2.trans (zJ0 S3)))]
def iteNT{c A B:Prop}[Decidable c](hc:c)(h:B):if(!decide c)=true then A else B:=by
 rw[zD1 hc];exact cV h
def Hr.wd:Hr->Str
 |.fin=>"end" | .go _=>"go" | .iff _ _=>"if" | .set _ _=>"set" | .say _=>"say"
def Hr.rest:Hr->List Nat
 |.fin=>[] | .go n=>[32]++cd (cv n) | .iff t n=>[32]++(t.txt++([32]++cd (cv n))) | .set x t=>[32]++(cd x++([32]++t.txt)) | .say t=>[32]++t.txt
def Hr.codes(r:Hr):r.str.cps.toList=cd r.wd++r.rest:=by
 cases r with
 |fin=>decide
 |go n=>
   rw[show(Hr.go n).str=(("go":Str)++(" ":Str))++cv n from rfl,ia,ia,ku];show(cd "go"++[32])++cd (cv n)=cd "go"++([32]++cd (cv n))
   simp
 |iff t n=>
   rw[show(Hr.iff t n).str=(((("if":Str)++(" ":Str))++t.str)++(" ":Str))++cv n from rfl];simp only[ia,ku];show(((cd "if"++[32])++t.txt)++[32])++cd (cv n)=cd "if"++([32]++(t.txt++([32]++cd (cv n))))
   simp
 |set x t=>
   rw[show(Hr.set x t).str=(((("set":Str)++(" ":Str))++x)++(" ":Str))++t.str from rfl];simp only[ia,ku];show(((cd "set"++[32])++cd x)++[32])++t.txt=cd "set"++([32]++(cd x++([32]++t.txt)))
   simp
 |say t=>
   rw[show(Hr.say t).str=(("say":Str)++(" ":Str))++t.str from rfl,ia,ia,ku];show(cd "say"++[32])++t.txt=cd "say"++([32]++t.txt)
   simp
def jE:∀x∈(Wn:List Str),∀c∈x.cps.toList,97<=c/\c<=122:=by decide
def Hr.wd_ok(r:Hr):mv (cd r.wd):=by
 cases r with
 |fin=>exact cX (jE "end" ⋯)
 |go n=>exact cX (jE "go" ⋯)
 |iff t n=>exact cX (jE "if" ⋯)
 |set x t=>exact cX (jE "set" ⋯)
 |say t=>exact cX (jE "say" ⋯)
def Hr.rest_ok(r:Hr):uQ r.rest:=by
 cases r with
 |fin=>exact .inl rfl
 |go n=>exact .inr %[(32),0|.inl rfl]
 |iff t n=>exact .inr %[(32),0|.inl rfl]
 |set x t=>exact .inr %[(32),0|.inl rfl]
 |say t=>exact .inr %[(32),0|.inl rfl]
instance spHRw:∀(r:Hr)(k:Int),vs=[.str r.str,.int k]->r.ok 20->(∀(v:V)(H':Hp),HrAt H' v r->Same H H'->Q v H'):=1
def bL:FnScope ["text","number","scan","word","row"] WU (ag iy):=%[|5]
def qu(F:#["helper_row",iy])(X:Tx K mg)(T:STxt K mg C)(M:Mths P w K mg base C fE fS fT fW fF dE dS dT dW dF)(MK:Mk K C fI)(GI:#[1,fI,fdI,Wd,spSInit C])(bI:Binds K fdI Wd [])
 (jm:#[3,"next_name",["scan"],spNextN C])(eA:#[3,"next_figures",["scan"],spNextF C])(cx:#[19,"next_term",WH,spNextT C 8]):#[20,f,fd,WU,spHRw]:=by
 exists bL
 erw[r,k,1,ok,q]at h;erw[tw,gw]at X.within;erw[tp,gp]at X.parts;let hr1:Room 1 _:=hr.mono ⋯;let hr2:Room 2 _:=hr.mono ⋯;refine⟨_,(aa #[am,2,bL,jy MK GI hr2 rfl T.mgC bI .nil bh %[0,1,cY (v:=.int 8) rfl gw %[|0],cY (v:=.int 20) rfl gp ⟨_,rfl⟩|aQ]]
  (aa #[am,3,bL,ca (pv 2) T.cl M.mW M.gW hr1 M.bW .nil bh]
  (aa #[am,4,bL,aM %[3|aQ]]
  (aa (aG (af aP (pv 3) aB (ao _)) (ad #[am,4,bL,au op_catT (pv 4) (aM %[ai jm hr ⋯ rfl %[2|aQ],ai cx hr ⋯ rfl %[2,ac|aQ]|aQ])]) (ad (aG (af aP (pv 3) aB (ao _)) (ad #[am,4,bL,au op_catT (pv 4) (aM %[ai cx hr ⋯ rfl %[2,ac|aQ]|aQ])]) (ad (aG (af aP (pv 3) aB (ao _)) (ad #[am,4,bL,au op_catT (pv 4) (aM %[ai cx hr ⋯ rfl %[2,ac|aQ],ai eA hr ⋯ rfl %[2|aQ]|aQ])]) (ad (aG (af aP (pv 3) aB (ao _)) (ad #[am,4,bL,au op_catT (pv 4) (aM %[ai eA hr ⋯ rfl %[2|aQ]|aQ])]) (ad (aG (af jN (pv 3) aB (ao _)) bu ax)))))))))
  (aa (aS (ca (pv 2) T.cl M.mF M.gF hr1 M.bF .nil bh))
  (ad (aq (pv 4)))))))),?_⟩
 erw[0,0,λg dx nx ndx nex=>?_];let s3:Same H (upd (upd H dx (.own g)) g (.ins C dx [])):=λb o e=>by
  rw[aD (aX e nx),aD (aX e ndx)];exact e
 erw[g,dx,r.str,k,1,aO,λH1 S1 B1=>%[1|6]];let N1:Same H H1:=λb o e=>B1 b o (aX e nx) (s3 b o e)
 let tl:r.str.length<=1000:=zM0 (Hr.str_len ok) ⋯;let hc:=r.codes;let hlen:r.str.length=r.wd.length+r.rest.length:=by
  have:=congrArg List.length hc
  rw[lg,zL0,df]at this;exact this
 let hd0:r.str.cps.toList.drop 0=cd r.wd++r.rest:=by rw[jF1];exact hc
 let%[dx1,fs1,hs1|sf1]:=id S1;erw[0,g,dx1,fs1,1,hs1,sf1.no4,g,r.str,(0),(0),cd r.wd,r.rest,1,S1,tl,zQ0 _,hd0,r.wd_ok,r.rest_ok,λH2 S2 B2=>?_];rw[show stl (cd r.wd)=r.wd from jY _];let hd1:=bY hd0;rw[df]at S2 hd1;let N2:Same H H2:=λb o e=>B2 b o (aX e nx) (N1 b o e)
 erw[0,y1S,λa ha=>?_];let Ga:=zC0 ha (.tup [.str r.wd]);let ea:upd H2 a (.tup [.str r.wd]) a=some (.tup [.str r.wd]):=aO;let S3:=S2.same Ga;generalize upd H2 a (.tup [.str r.wd])=H3 at Ga ea S3;let N3:=N2.trans Ga;let isF:∀{x y:Str},x≠y->¬ V.str x=V.str y:=λh=>neStr h
 cases r with
 |fin=>
   erw[0,1,0,6];apply ay (isF (x:="end") ⋯) ?_;erw[0,1,0,6];apply ay (isF (x:="end") ⋯) ?_;erw[0,1,0,6];apply ay (isF (x:="end") ⋯) ?_;erw[0,1,0,6];apply ay (isF (x:="end") ⋯) ?_;erw[0,1,0,6];apply iteNT rfl ?_;let%[dx3,fs3,hs3|sf3]:=id S3;let el:0+(Hr.fin).wd.length=(Hr.fin).str.length:=by rw[hlen];show 0+_=_+0;omega
   rw[el]at S3;erw[0,g,dx3,fs3,1,hs3,sf3.no5,g,_,0,S3,tl,6];erw[0,q _ H3 (.fin ea) N3]
 |go n=>
   erw[0,1,0,6];apply ay (isF (x:="go") ⋯) ?_;erw[0,1,0,6];apply ay (isF (x:="go") ⋯) ?_;erw[0,1,0,6];apply ay (isF (x:="go") ⋯) ?_;erw[0,1,0,6];apply aV rfl ?_;let hrl:(Hr.go n).rest.length=1+(cv n).length:=by
    show([32]++cd (cv n)).length=_;rw[zL0,df];rfl
   erw[0,0,g,_,_,_,n,[],1,S3,tl,3,by rw[hd1];show [32]++cd (cv n)=[32]++(cd (cv n)++[]);rw[qU1],.inl rfl,ok.1,ok.2,λH4 S4 B4=>?_];let ea4:=cM S3 B4 _ _ ea;erw[y1S,λb hb=>?_];let Gb:=zC0 hb (.tup [.int n]);erw[a,b,2,zB0 (Gb _ _ ea4),zB0 aO,by simp,y2S,λz=>(by cases z),λ_ p hp=>?_];let Gp:=zC0 hp (.tup ([V.str (Hr.go n).wd]++[V.int n]));let S5:=(S4.same Gb).same Gp;let ep:upd (upd H4 b (.tup [.int n])) p (.tup ([V.str (Hr.go n).wd]++[V.int n])) p=some (.tup [.str "go",.int n]):=aO;let N5:=Gb.trans Gp;generalize upd (upd H4 b (.tup [.int n])) p (.tup ([V.str (Hr.go n).wd]++[V.int n]))=H5 at S5 ep N5;rw[show 0+(Hr.go n).wd.length+1+(cv n).length=(Hr.go n).str.length by omega]at S5;let%[dx5,fs5,hs5|sf5]:=id S5;erw[0,g,dx5,fs5,1,hs5,sf5.no5,g,_,0,S5,tl,6];erw[0,q _ H5 (.go ep) λc o e=>N5 _ _ (B4 c o (aX e nx) (N3 c o e))]
 |say t=>
   erw[0,1,0,6];apply ay (isF (x:="say") ⋯) ?_;erw[0,1,0,6];apply aV rfl ?_;let hrl:(Hr.say t).rest.length=1+t.txt.length:=by
    show([32]++t.txt).length=_;rw[zL0];rfl
   let ok':t.fit 20:=ok;erw[0,0,g,(1),_,_,_,t,[],1,S3,tl,3,by rw[hd1];show [32]++t.txt=[32]++(t.txt++[]);rw[qU1],.inl rfl,ok'.1,ok'.2.2,by have:=ok'.2.2;omega,by have:=ok'.2.1;omega,λv H4 T4 S4 B4=>?_];let ea4:=cM S3 B4 _ _ ea;erw[y1S,λb hb=>?_];let Gb:=zC0 hb (.tup [v]);erw[a,b,2,zB0 (Gb _ _ ea4),zB0 aO,by simp,y2S,λz=>(by cases z),λ_ p hp=>?_];let Gp:=zC0 hp (.tup ([V.str (Hr.say t).wd]++[v]));let S5:=(S4.same Gb).same Gp;let ep:upd (upd H4 b (.tup [v])) p (.tup ([V.str (Hr.say t).wd]++[v])) p=some (.tup [.str "say",v]):=aO;let N5:=Gb.trans Gp;generalize upd (upd H4 b (.tup [v])) p (.tup ([V.str (Hr.say t).wd]++[v]))=H5 at S5 ep N5;rw[show 0+(Hr.say t).wd.length+1+t.txt.length=(Hr.say t).str.length by omega]at S5;let%[dx5,fs5,hs5|sf5]:=id S5;erw[0,g,dx5,fs5,1,hs5,sf5.no5,g,_,0,S5,tl,6];erw[0,q _ H5 (.say ep (T4.mono (bd N5))) λc o e=>N5 _ _ (B4 c o (aX e nx) (N3 c o e))]
 |iff t n=>
   erw[0,1,0,6];apply ay (isF (x:="if") ⋯) ?_;erw[0,1,0,6];apply ay (isF (x:="if") ⋯) ?_;erw[0,1,0,6];apply aV rfl ?_;let hrl:(Hr.iff t n).rest.length=1+(t.txt.length+(1+(cv n).length)):=by
    show([32]++(t.txt++([32]++cd (cv n)))).length=_;simp only[zL0,zU0,zM1,df]
   erw[ok',n0,n1]at ok;let hd2:(Hr.iff t n).str.cps.toList.drop (0+(Hr.iff t n).wd.length)=[32]++(t.txt++([32]++(cd (cv n)++[]))):=by rw[hd1,qU1];rfl
   let hd3:=bY (bY hd2);simp only[zU0,zM1]at hd3;erw[0,0,g,(1),_,_,_,t,0,S3,tl,3,hd2,.inr %[(32),0|.inl rfl],ok'.1,ok'.2.2,by have:=ok'.2.2;omega,by have:=ok'.2.1;omega,λv H4 T4 S4 B4=>?_];let ea4:=cM S3 B4 _ _ ea;erw[0,g,_,_,_,n,[],1,S4,tl,3,hd3,.inl rfl,n0,n1,λH5 S5 B5=>?_];let ea5:=cM S4 B5 _ _ ea4;let T5:=T4.mono (cM S4 B5);erw[y2S,λb hb=>?_];let Gb:=zC0 hb (.tup [v,.int n]);erw[a,b,2,zB0 (Gb _ _ ea5),zB0 aO,by simp,y3S,λz=>(by cases z),λ_ p hp=>?_];let Gp:=zC0 hp (.tup ([V.str (Hr.iff t n).wd]++[v,V.int n]));let S6:=(S5.same Gb).same Gp;let ep:upd (upd H5 b (.tup [v,.int n])) p (.tup ([V.str (Hr.iff t n).wd]++[v,V.int n])) p=some (.tup [.str "if",v,.int n]):=aO;let N6:=Gb.trans Gp;generalize upd (upd H5 b (.tup [v,.int n])) p (.tup ([V.str (Hr.iff t n).wd]++[v,V.int n]))=H6 at S6 ep N6;rw[show 0+(Hr.iff t n).wd.length+1+t.txt.length+1+(cv n).length=(Hr.iff t n).str.length by omega]at S6;let%[dx6,fs6,hs6|sf6]:=id S6;erw[0,g,dx6,fs6,1,hs6,sf6.no5,g,_,0,S6,tl,6];erw[0,q _ H6 (.iff ep (T5.mono (bd N6))) λc o e=>N6 _ _ (B5 c o (aX e nx) (B4 c o (aX e nx) (N3 c o e)))]
 |set x t=>
   erw[0,1,0,6];apply aV rfl ?_;let hrl:(Hr.set x t).rest.length=1+(x.length+(1+t.txt.length)):=by
    show([32]++(cd x++([32]++t.txt))).length=_;simp only[zL0,zU0,zM1,df]
   erw[okx,ok']at ok;let hd2:(Hr.set x t).str.cps.toList.drop (0+(Hr.set x t).wd.length)=[32]++(cd x++([32]++(t.txt++[]))):=by rw[hd1,qU1];rfl
   let hd3:=bY (bY hd2);simp only[zU0,zM1,df]at hd3;erw[0,0,g,_,_,_,x,0,S3,tl,3,hd2,.inr %[(32),0|.inl rfl],okx,λH4 S4 B4=>?_];let ea4:=cM S3 B4 _ _ ea;erw[0,g,(1),_,_,_,t,[],1,S4,tl,3,hd3,.inl rfl,ok'.1,ok'.2.2,by have:=ok'.2.2;omega,by have:=ok'.2.1;omega,λv H5 T5 S5 B5=>?_];let ea5:=cM S4 B5 _ _ ea4;erw[y2S,λb hb=>?_];let Gb:=zC0 hb (.tup [.str x,v]);erw[a,b,2,zB0 (Gb _ _ ea5),zB0 aO,by simp,y3S,λz=>(by cases z),λ_ p hp=>?_];let Gp:=zC0 hp (.tup ([V.str (Hr.set x t).wd]++[.str x,v]));let S6:=(S5.same Gb).same Gp;let ep:upd (upd H5 b (.tup [.str x,v])) p (.tup ([V.str (Hr.set x t).wd]++[.str x,v])) p=some (.tup [.str "set",.str x,v]):=aO;let N6:=Gb.trans Gp;generalize upd (upd H5 b (.tup [.str x,v])) p (.tup ([V.str (Hr.set x t).wd]++[.str x,v]))=H6 at S6 ep N6;rw[show 0+(Hr.set x t).wd.length+1+x.length+1+t.txt.length=(Hr.set x t).str.length by omega]at S6;let%[dx6,fs6,hs6|sf6]:=id S6;erw[0,g,dx6,fs6,1,hs6,sf6.no5,g,_,0,S6,tl,6];erw[0,q _ H6 (.set ep (T5.mono (bd N6))) λc o e=>N6 _ _ (B5 c o (aX e nx) (B4 c o (aX e nx) (N3 c o e)))]
def Tm.txt_hi:∀t:Tm,t.ok->∀c∈t.txt,32<=c
 |.num n,h,c,hc=>by have:=gK h.1 c hc;omega
 |.box x,h,c,hc=>by have:=h.1 c hc;omega
 |.plain w,h,c,hc=>by have:=(kR w h).2.2.1 c hc;omega
 |.ask w a,⟨h,h1⟩,c,hc=>by
   let hc':c∈[40]++(cd w++([32]++(a.txt++[41]))):=hc;simp only[List.mem_append,qL1]at hc';rcases hc' with e | e | e | e | e
   . omega
   . have:=(wF w h).2.2.1 c e;omega
   . omega
   . exact Tm.txt_hi a h1 c e
   . omega
 |.op o a b,⟨h,h1,h2⟩,c,hc=>by
   let hc':c∈[40]++(cd o++([32]++(a.txt++([32]++(b.txt++[41]))))):=hc;simp only[List.mem_append,qL1]at hc';rcases hc' with e | e | e | e | e | e | e
   . omega
   . have:=(rC o h).2.1 c e;omega
   . omega
   . exact Tm.txt_hi a h1 c e
   . omega
   . exact Tm.txt_hi b h2 c e
   . omega
def Eg{r:Hr}(ok:r.ok 20):∀c∈cd r.str,32<=c:=by
 intro c hc;let hc1:c∈cd r.wd++r.rest:=by rw[←r.codes];exact hc
 let nm:∀{n:Int},0<=n->c∈cd (cv n)->32<=c:=λh0 h=>by have:=gK h0 c h;omega
 rcases qJ0 hc1 with h | h
 . have:=r.wd_ok
   let h5:∀x∈(Wn:List Str),c∈cd x->32<=c:=λx hx hc=>by have:=jE x hx c hc;omega
   cases r with
   |fin=>exact h5 "end" ⋯ h
   |go n=>exact h5 "go" ⋯ h
   |iff t n=>exact h5 "if" ⋯ h
   |set x t=>exact h5 "set" ⋯ h
   |say t=>exact h5 "say" ⋯ h
 . cases r with
   |fin=>cases h
   |go n=>
     let h':c∈[32]++cd (cv n):=h;simp only[List.mem_append,qL1]at h';rcases h' with e | e
     . omega
     . exact nm ok.1 e
   |iff t n=>
     let h':c∈[32]++(t.txt++([32]++cd (cv n))):=h;simp only[List.mem_append,qL1]at h';rcases h' with e | e | e | e
     . omega
     . exact Tm.txt_hi t ok.1.1 c e
     . omega
     . exact nm ok.2.1 e
   |set x t=>
     let h':c∈[32]++(cd x++([32]++t.txt)):=h;simp only[List.mem_append,qL1]at h';rcases h' with e | e | e | e
     . omega
     . have:=ok.1.1 c e;omega
     . omega
     . exact Tm.txt_hi t ok.2.1 c e
   |say t=>
     let h':c∈[32]++t.txt:=h;simp only[List.mem_append,qL1]at h';rcases h' with e | e
     . omega
     . exact Tm.txt_hi t (show t.fit 20 from ok).1 c e
def pR(g:rh rs)(h0:rs≠[]):Txt.split (ng rs) ("\n":Str)=rs.map Hr.str:=by
 unfold ng;rw[AS,sR];apply jZ (c:=10) (λz=>h0 (List.map_eq_nil_iff.mp z)) λp hp hc=>?_
 let%[r,hr|1]:=List.mem_map.mp hp
 have:=Eg (g.2 r hr) 10 hc
 omega
def yP(g:rh rs)(h0:rs≠[]):ng rs≠"":=λe=>by
 let h1:=pR g h0;rw[e,show Txt.split ("":Str) ("\n":Str)=[("":Str)]from by decide]at h1;cases rs with
 |nil=>exact h0 rfl
 |cons r l=>
   let h2:=(List.cons.inj h1).1;let h3:=r.codes;rw[←h2]at h3;let h4:cd r.wd=[]:=(List.append_eq_nil_iff.mp h3.symm).1;let h5:∀x∈(Wn:List Str),cd x≠[]:=by decide
   cases r with
   |fin=>exact h5 "end" ⋯ h4
   |go n=>exact h5 "go" ⋯ h4
   |iff t n=>exact h5 "if" ⋯ h4
   |set x t=>exact h5 "set" ⋯ h4
   |say t=>exact h5 "say" ⋯ h4
instance spReadH:∀rs:List Hr,vs=[.str (ng rs)]->rh rs->(∀(a:Addr)(tv:List V)(H':Hp),H' a=some (.tup tv)->RowsAt H' tv rs->Same H H'->Q (.ref a) H'):=1
def eC:FnScope ["text","helper","number","row"] WC (ag gP):=%[|5]
def pE(F:#["read_helper",gP])(B:Bl mg)(X:Tx K mg)(gZ:#[20,"helper_row",WU,spHRw]):#[21,f,fd,WC,spReadH]:=by
 exists eC
 erw[rs,1,g,q]at h;erw[tm,gm]at X.rows;refine⟨_,(aa (aG (af aP (pv 0) aB (ao _)) (ad (aq (aM aQ))) ax)
  (aa #[am,1,eC,cP aQ]
  (aa (cK zG1 rfl (wQ rfl B.enumerate (cW zS1 jM0 jM1 pJ (pv 0) %[aB|aQ])) (lW rfl (db (bg (i:=2) eC.nd rfl (.inl rfl)) (db (bg (i:=3) eC.nd rfl (.inl rfl)) jx))) (aa (aG (af aP (pv 2) (cY (v:=.int 60) rfl gm ⟨_,rfl⟩) (ao _)) bu ax)
   (ad (aS (cW zC1 zH1 zI1 bV (pv 1) %[ai gZ hr ⋯ rfl %[3,2|aQ]|aQ])))))
  (ad (aq (bv bb rfl B.tuple bp %[1|aQ])))))),?_⟩
 let tl:=Br g;let r60:=g.1;erw[0,1,0,6]
 by_cases c0:rs=[]
 . subst c0;apply aV (by show V.str (ng [])=V.str "";decide) ?_;erw[zQ0 _,λt ht=>?_];exact q t [] _ aO RowsAt.nil (zC0 ht _)
 apply ay (λz=>yP g c0 (zI z)) ?_;erw[zQ0 _,λL hL=>?_];let GL:=zC0 hL (.lst []);let gL:upd H L (.lst []) L=some (.lst []):=aO;generalize upd H L (.lst [])=H1 at GL gL;let ts:=pR g c0;erw[0,1,2,⋯,3,by rw[ts,zF0];omega,λa ha=>?_];rw[ts];let Ga:=zC0 ha (.lst ((rs.map Hr.str).map V.str));let ga:upd H1 a (.lst ((rs.map Hr.str).map V.str)) a=some (.lst ((rs.map Hr.str).map V.str)):=aO;let aL:a≠L:=λz=>by rw[z,gL]at ha;cases ha
 generalize upd H1 a (.lst ((rs.map Hr.str).map V.str))=H2 at Ga ga;let gL2:=Ga _ _ gL;refine⟨a,rfl,%[_|zG0 ga],uE (K:=K) (xs:=(rs.map Hr.str).map V.str) (λi σ H'=>∃(x2 x3:Option V)(tv:List V),σ=[some (.str (ng rs)),some (.ref L),x2,x3]/\H' L=some (.lst tv)/\RowsAt H' tv (rs.take i)/\SameBut L H2 H')
  %[_,_,[],1,gL2,RowsAt.nil|SameBut.refl _ _] (λi σ H' _ JE=>by erw[_,_,_,_,_,_,h]at JE;exact zG0 (h _ _ aL ga)) ?_ ?_⟩
 . rintro i z σ H3 t hz ⟨x2,x3,tv,rfl,hL3,R3,S3⟩ ht;let hi:=(qD0 hz).1;rw[zF0,zF0]at hi;rw[zX0,zX0,Option.map_map]at hz;let%[r,hr'|1]:=qP0 hz;let Gt:=zC0 ht (.tup [.int (i:Int),.str r.str]);let hL4:=Gt _ _ hL3;let vl:=R3.1;rw[qI0]at vl;erw[t,0,zB0 aO,1,_,0,2,6];erw[0,1,0,6];apply ay (λz=>by have:=V.int.inj z;omega) ?_;erw[0,.inl %[1,_|zG0 hL4],0,0,r,0,g.2 r (qG0 hr'),λv H4 ra S4=>?_];let S34:Same H3 H4:=Gt.trans S4;let hL5:=S34 _ _ hL3;let kp:bN H4 (upd H4 L (.lst (tv++[v]))):=Bh hL5;erw[L,2,hL5,aN #[0],6];erw[_,_,tv++[v],1,aO,6,6]
   . rw[qH0,hr'];exact((R3.mono (bd S34)).mono kp).snoc (ra.mono kp)
   . exact S3.trans ((zJ0 S34).trans (SameBut.upd _))
 . rintro σ H3 ⟨x2,x3,tv,rfl,hL3,R3,S3⟩;rw[zF0,zF0,qF0]at R3;erw[0,L,0,.inl %[zG0 hL3|λt ht=>?_]];let S03:Same H H3:=λb o e=>S3 b o (aX e hL) (Ga _ _ (GL _ _ e))
   exact q t tv _ aO (R3.mono (bd (zC0 ht _))) (S03.trans (zC0 ht _))
instance spTerm(n:Nat):∀(f b:Addr)(bs:List Str)(room deep:Int),vs=[.ref f,.ref b,.int room,.int deep]->FeedAt H f->H b=some (.lst (bs.map V.str))->b≠f->1<=bs.length->bs.length<=100->1<=room->room<=100->1<=deep->deep<=(n:Int)->(∀(v:V)(t:Tm)(H':Hp),TmAt H' v t->t.good->(t.depth:Int)<=deep->FeedAt H' f->SameBut f H H'->Q v H'):=1
def f7:FnScope ["_law_feed_here","_law_boxes","_law_room","_law_deep","_law_form","_law_plain","_law_more","_law_one"] WV (ag kJ):=%[|5]
def Cs:∀c∈(("+-*/=<":Str)).cps.toList,(%[|#[c]]:Str)∈signW:=by decide
def zO:(("+-*/=<":Str)).cps.toList.length=6:=by decide
def at1(x y:V)(xs:List V):atI (x::y::xs) 1=some y:=bw (j:=1) rfl
instance tLeaf(Dn:Ends)(σ:St)(H:Hp):∀(x2 x3 x5 x6 x7:Option V)(f b:Addr)(bs:List Str)(fm:Int),σ=[some (.ref f),some (.ref b),x2,x3,some (.int fm),x5,x6,x7]->FeedAt H f->H b=some (.lst (bs.map V.str))->b≠f->1<=bs.length->bs.length<=100->(∀(v:V)(t:Tm)(H':Hp),TmAt H' v t->t.good->t.depth=1->FeedAt H' f->SameBut f H H'->Dn.rt v H'):=0
instance tAskT(n:Nat)(Dn:Ends)(σ:St)(H:Hp):∀(x4 x5 x6 x7:Option V)(f b:Addr)(bs:List Str)(room deep:Int),σ=[some (.ref f),some (.ref b),some (.int room),some (.int deep),x4,x5,x6,x7]->FeedAt H f->H b=some (.lst (bs.map V.str))->b≠f->1<=bs.length->bs.length<=100->2<=room->room<=100->2<=deep->deep<=(n:Int)+1->(∀(v:V)(t:Tm)(H':Hp),TmAt H' v t->t.good->(t.depth:Int)<=deep->FeedAt H' f->SameBut f H H'->Dn.rt v H'):=0
structure PSW(X:Cx)(st:List Stmt)(t:TS):Prop where
 out:PSs X st t
def Eh{pos:Pos}(hc:PT X c tc)(ha:PSW X a t)(hb:PSs X b u):PS X (.If c a b pos) (DZ tc t u):=aG hc ha.out hb
def Bd{X:Cx}{i:Nat}{x:Str}{pos' pos p:Pos}{t':TS}(hN:X.N.Nodup)(hi:X.N[i]?=some x)(hx:Loc X.env.scope x)(h1:PE X e1 t1)(h2:PE X e2 t2)(h3:PE X e3 t3)(h4:PE X e4 t4)(h5:PE X e5 t5)(hr:PSs X rest u)
 (hw:∀D σ H,t' D σ H->DX (zF (tLst (my t1 (my t2 (my t3 (my t4 (my t5 va)))))) (uD i)) u D σ H)
 (s1:starEach [e1,e2,e3,e4,e5] X.env=(false,eval e1 X.env)::starEach [e2,e3,e4,e5] X.env:=by rfl)(s2:starEach [e2,e3,e4,e5] X.env=(false,eval e2 X.env)::starEach [e3,e4,e5] X.env:=by rfl)(s3:starEach [e3,e4,e5] X.env=(false,eval e3 X.env)::starEach [e4,e5] X.env:=by rfl)(s4:starEach [e4,e5] X.env=(false,eval e4 X.env)::starEach [e5] X.env:=by rfl)(s5:starEach [e5] X.env=(false,eval e5 X.env)::starEach [] X.env:=by rfl)
 (hf:X.fn x=true∨X.env.scope.names.lookup x=some .local:=by first | exact .inl rfl | exact .inr rfl):PSW X (.Assign [.Name x pos'] (.List [e1,e2,e3,e4,e5] p) pos::rest) t':=
 %[|dO (aa (am hN hi hx (cP (ae h1 (ae h2 (ae h3 (ae h4 (ae h5 aQ s5) s4) s3) s2) s1)) rfl hf) hr) hw]
def Cg{n:Nat}(F:Fun K "_law_term" "_law_term" kJ fA fd)(B:Bl mg)(a7:#[1,"_law_take",WD,spTake])(dQ:#[n+2,"_law_term",WV,spTerm n]):#[n+3,fA,fd,WV,spTerm (n+1)]:=by
 exists f7
 erw[f,b,bs,room,deep,1,F0,hb,nb,b1,b2,r1,r2,d1,d2,q]at h;let hp12:(10:Int) ^ (12:Int).toNat=1000000000000:=by decide
 refine⟨_,(aa #[am,4,f7,ai a7 hr #[0] rfl %[0,ac|aQ]]
  (aa (Eh (PW.pt (dR (af du (pv 2) ac (ao _)) (dR (af du (pv 3) ac (ao _)) (dI (af du (pv 4) ac (ao _)))))) (Bd (t':=tLeaf) (i:=5) f7.nd rfl (.inl rfl) (aM %[aB|aQ]) (aM %[aB|aQ]) (aM %[aB|aQ]) (aM %[aB,ai a7 hr #[0] rfl %[0,ac|aQ]|aQ]) (aM %[aB,ai a7 hr #[0] rfl %[0,au Az ac ac|aQ]|aQ])
   (aa (aG (af aP (pv 4) ac (ao _)) (ad (aq (aM %[aB,aJ ix_list (pv 1) (ai a7 hr #[0] rfl %[0,aE (x:="len") aF rfl B.len zB1 %[1|aQ]|aQ]) #[1]|aQ]))) ax)
   (ad (aq (aJ ix_list (pv 5) (ai a7 hr #[0] rfl %[0,ac|aQ]) #[1])))) (by
    rintro Dn σ H ⟨x2,x3,x5,x6,x7,f,b,bs,fm,rfl,F0,hb,nb,b1,b2,q⟩;erw[y1S,λp1 hp1=>%[y1S|λp2 hp2=>%[y1S|λp3 hp3=>?_]]];let g1:=zC0 hp1 (.tup [.str "round"]);let g2:=zC0 hp2 (.tup [.str "due"]);let g3:=zC0 hp3 (.tup [.str "asked"]);let e1:upd (upd (upd H p1 (.tup [.str "round"])) p2 (.tup [.str "due"])) p3 (.tup [.str "asked"]) p1=some (.tup [.str "round"]):=g3 _ _ (g2 _ _ aO);let e2:upd (upd (upd H p1 (.tup [.str "round"])) p2 (.tup [.str "due"])) p3 (.tup [.str "asked"]) p2=some (.tup [.str "due"]):=g3 _ _ aO;let e3:upd (upd (upd H p1 (.tup [.str "round"])) p2 (.tup [.str "due"])) p3 (.tup [.str "asked"]) p3=some (.tup [.str "asked"]):=aO;let S3:=g1.trans (g2.trans g3);generalize upd (upd (upd H p1 (.tup [.str "round"])) p2 (.tup [.str "due"])) p3 (.tup [.str "asked"])=H3 at e1 e2 e3 S3;erw[0,f,(5),1,F0.same S3,4,4,λw1 H4 _ _ F4 B4=>%[y2S|λp4 hp4=>?_]];let k4:=aZ (F0.same S3) B4;let g4:=zC0 hp4 (.tup [.str "num",.int w1]);let e4:upd H4 p4 (.tup [.str "num",.int w1]) p4=some (.tup [.str "num",.int w1]):=aO;generalize upd H4 p4 (.tup [.str "num",.int w1])=H5 at g4 e4;erw[0,2,%[4,4|4],f,0,F4.same g4,(by show(0:Int)<10 ^ (12:Int).toNat;rw[hp12];decide),(by show(10:Int) ^ (12:Int).toNat<2 ^ 63;rw[hp12];decide),λw2 H6 _ _ F6 B6=>%[y2S|λp5 hp5=>%[y5S|λL hL=>?_]]];let k6:=aZ (F4.same g4) B6;let g5:=zC0 hp5 (.tup [.str "num",.int w2]);let g6:=zC0 hL (.lst [.ref p1,.ref p2,.ref p3,.ref p4,.ref p5]);let e5:upd (upd H6 p5 (.tup [.str "num",.int w2])) L (.lst [.ref p1,.ref p2,.ref p3,.ref p4,.ref p5]) p5=some (.tup [.str "num",.int w2]):=g6 _ _ aO;let eL:upd (upd H6 p5 (.tup [.str "num",.int w2])) L (.lst [.ref p1,.ref p2,.ref p3,.ref p4,.ref p5]) L=some (.lst [.ref p1,.ref p2,.ref p3,.ref p4,.ref p5]):=aO;let F7:=F6.same (g5.trans g6);let S7:SameBut f H (upd (upd H6 p5 (.tup [.str "num",.int w2])) L (.lst [.ref p1,.ref p2,.ref p3,.ref p4,.ref p5])):=(zJ0 S3).trans (B4.trans ((zJ0 g4).trans (B6.trans (zJ0 (g5.trans g6)))));let Lf:L≠f:=(F6.same g5).ne hL;let J:bN H5 (upd (upd H6 p5 (.tup [.str "num",.int w2])) L (.lst [.ref p1,.ref p2,.ref p3,.ref p4,.ref p5])):=λa xs e=>(g5.trans g6) _ _ (k6 _ _ e)
    let J3:bN H3 (upd (upd H6 p5 (.tup [.str "num",.int w2])) L (.lst [.ref p1,.ref p2,.ref p3,.ref p4,.ref p5])):=λa xs e=>J _ _ (g4 _ _ (k4 _ _ e))
    let e1':=J3 _ _ e1;let e2':=J3 _ _ e2;let e3':=J3 _ _ e3;let e4':=J _ _ e4;generalize upd (upd H6 p5 (.tup [.str "num",.int w2])) L (.lst [.ref p1,.ref p2,.ref p3,.ref p4,.ref p5])=H7 at e1' e2' e3' e4' e5 eL F7 S7;let hb7:=S7 _ _ nb hb;clear J J3 e1 e2 e3 e4 k4 k6;erw[0,1,0,6]
    by_cases c:fm=3
    . apply aV (congrArg V.int c) ?_;let bl:(bs.map V.str).length=bs.length:=zF0 _;erw[0,0,0,b,0,.inl (zG0 hb7),f,0,F7,3,3,λd H8 d0 d1 F8 B8=>?_];let%[v,hv|vm]:=ly (l:=bs.map V.str) (i:=d) d0 d1;let%[x,hx|1]:=List.mem_map.mp vm;erw[b,_,2,zG0 (B8 _ _ nb hb7),hv,y2S,λp8 hp8=>?_];let g8:=zC0 hp8 (.tup [.str "box",.str x]);exact q _ (.box x) _ (.box aO) trivial rfl (F8.same g8) (S7.trans (B8.trans (zJ0 g8)))
    . apply ay (λz=>c (V.int.inj z)) ?_;erw[0,0,f,(5),1,F7,4,4,λd H8 d0 d1 F8 B8=>?_];let k8:=aZ F7 B8;let hL8:=B8 _ _ Lf eL;let S8:=S7.trans B8
      have:d=0∨d=1∨d=2∨d=3∨d=4:=#[0]
      rcases this with rfl | rfl | rfl | rfl | rfl
      . erw[L,_,(0),.ref p1,1,1,zG0 hL8,1,q _ (.plain "round") _ (.plain (k8 _ _ e1')) (show("round":Str)∈plainW by decide) rfl F8 S8]
      . erw[L,_,(1),.ref p2,1,1,zG0 hL8,1,q _ (.plain "due") _ (.plain (k8 _ _ e2')) (show("due":Str)∈plainW by decide) rfl F8 S8]
      . erw[L,_,(2),.ref p3,1,1,zG0 hL8,1,q _ (.plain "asked") _ (.plain (k8 _ _ e3')) (show("asked":Str)∈plainW by decide) rfl F8 S8]
      . erw[L,_,(3),.ref p4,1,1,zG0 hL8,1,q _ (.num w1) _ (.num (k8 _ _ e4')) trivial rfl F8 S8]
      . erw[L,_,(4),.ref p5,1,1,zG0 hL8,1,q _ (.num w2) _ (.num (k8 _ _ e5)) trivial rfl F8 S8])) ax)
  (aa (aG (PW.pt (dR (af du (pv 4) ac (ao _)) (dI (af du (pv 2) ac (ao _))))) (dO (t':=tAskT n) (ad (aq (aM %[aJ ix_list (cP %[aB,aB|aQ]) (ai a7 hr #[0] rfl %[0,ac|aQ]) #[1],ai dQ hr (zH0 _) rfl %[0,1,au bc (pv 2) ac,au bc (pv 3) ac|aQ]|aQ]))) (by
   rintro Dn σ H ⟨x4,x5,x6,x7,f,b,bs,room,deep,rfl,F0,hb,nb,b1,b2,r1,r2,d1,d2,q⟩;erw[y2S,λL hL=>?_];let gL:=zC0 hL (.lst [.str "coin",.str "true"]);let eL:upd H L (.lst [.str "coin",.str "true"]) L=some (.lst [.str "coin",.str "true"]):=aO;let Lf:L≠f:=F0.ne hL;generalize upd H L (.lst [.str "coin",.str "true"])=H1 at gL eL;erw[0,f,(2),1,F0.same gL,4,4,λd H2 d0 d1' F2 B2=>?_];let aw:∃aw:Str,aw∈askW/\atI [V.str "coin",.str "true"] d=some (.str aw):=by
    have:d=0∨d=1:=#[0]
    rcases this with rfl | rfl
    . erw["coin",4,at0 ..]
    . erw["true",4,at1 ..]
   erw[aw,awm,haw]at aw;erw[L,_,2,zG0 (B2 _ _ Lf eL),haw,6];let hb2:=B2 _ _ nb (gL _ _ hb);refine⟨_,rfl,_,rfl,_,rfl,_,_,rfl,rfl,_,rfl,_,_,rfl,rfl,f,b,bs,room-1,deep-1,rfl,F2,hb2,nb,b1,b2,#[0],#[0],#[0],#[0],λv t H3 T3 ok3 dp3 F3 B3=>?_⟩;erw[y2S,λp hp=>?_];let gp:=zC0 hp (.tup [.str aw,v]);let ed:((Tm.ask aw t).depth:Int)=(t.depth:Int)+1:=by show((t.depth+1:Nat):Int)=_;omega
   exact q _ (.ask aw t) _ (.ask aO (T3.mono (bd gp))) %[awm|ok3] #[0] (F3.same gp) ((zJ0 gL).trans (B2.trans (B3.trans (zJ0 gp)))))) ax)
  (aa #[am,6,f7,au aR ac (ai a7 hr #[0] rfl %[0,au bc (pv 2) ac|aQ])]
  (aa #[am,7,f7,ai dQ hr (zH0 _) rfl %[0,1,6,au bc (pv 3) ac|aQ]]
  (ad (aq (aM %[aB,aJ pO aB (ai a7 hr #[0] rfl %[0,ac|aQ]) #[1],7,ai dQ hr (zH0 _) rfl %[0,1,au bc (au bc (pv 2) ac) (pv 6),au bc (pv 3) ac|aQ]|aQ])))))))),?_⟩
 erw[0,f,(9),1,F0,4,4,λfm H1 m0 m9 F1 B1=>?_];let hb1:=B1 _ _ nb hb;let leaf:∀(v:V)(t:Tm)(H':Hp),TmAt H' v t->t.good->t.depth=1->FeedAt H' f->SameBut f H1 H'->Q v H':=λv t H' T g d FF BB=>q v t H' T g #[0] FF (B1.trans BB)
 erw[0,2,0,6]
 by_cases c1:room<2
 . exact aV c1 (dL %[_,_,_,_,_,f,b,bs,fm,1,F1,hb1,nb,b1,b2|leaf])
 apply ay c1 %[0,2,0|6]
 by_cases c2:deep<2
 . exact aV c2 (dL %[_,_,_,_,_,f,b,bs,fm,1,F1,hb1,nb,b1,b2|leaf])
 apply ay c2 %[0,2,0|6]
 by_cases c3:fm<4
 . exact aV c3 %[_,_,_,_,_,f,b,bs,fm,1,F1,hb1,nb,b1,b2|leaf]
 apply ay c3 ?_;let ask:∀(v:V)(t:Tm)(H':Hp),TmAt H' v t->t.good->(t.depth:Int)<=deep->FeedAt H' f->SameBut f H1 H'->Q v H':=λv t H' T g d FF BB=>q v t H' T g d FF (B1.trans BB)
 erw[0,2,0,6]
 by_cases c4:fm<6
 . exact aV c4 (dL %[_,_,_,_,f,b,bs,room,deep,1,F1,hb1,nb,b1,b2,3,r2,3,3|ask])
 apply ay c4 %[0,2,0|6]
 by_cases c5:room<3
 . exact aV c5 %[_,_,_,_,f,b,bs,room,deep,1,F1,hb1,nb,b1,b2,3,r2,3,3|ask]
 apply ay c5 ?_;erw[0,0,2,f,room-2,1,F1,3,3,λd3 H2 a0 a1 F2 B2=>?_];erw[2,6];let hb2:=B2 _ _ nb hb1;erw[0,0,0,0,2,f,b,bs,1+d3,deep-1,1,F2,hb2,nb,b1,b2,3,3,3,3,λv1 t1 H3 T1 ok1 dp1 F3 B3=>?_];let hb3:=B3 _ _ nb hb2;erw[0,f,(6),1,F3,4,4,λd4 H4 g0 g1 F4 B4=>?_];let%[c,hc|hm]:=ly (l:=(("+-*/=<":Str)).cps.toList) (i:=d4) g0 (by rw[zO];exact g1);let hb4:=B4 _ _ nb hb3;erw[_,2,cg ⋯,hc,0,6];erw[0,0,0,2,0,2,0,2,f,b,bs,room-1-(1+d3),deep-1,1,F4,hb4,nb,b1,b2,3,3,3,3,λv2 t2 H5 T2 ok2 dp2 F5 B5=>?_];let k35:bN H3 H5:=λa ys e=>aZ F4 B5 _ _ (aZ F3 B4 _ _ e)
 erw[y4S,λp hp=>?_];let gp:=zC0 hp (.tup [.str "op",.str %[|#[c]],v1,v2]);let ed:((Tm.op ⟨#[c]⟩ t1 t2).depth:Int)<=deep:=by
  show((max t1.depth t2.depth+1:Nat):Int)<=deep;omega
 exact q _ (.op %[|#[c]] t1 t2) _ (.op aO (T1.mono λa xs e=>gp _ _ (k35 _ _ e)) (T2.mono (bd gp))) %[Cs c hm,ok1|ok2] ed (F5.same gp) (B1.trans (B2.trans (B3.trans (B4.trans (B5.trans (zJ0 gp))))))
def Cf:#[2,f,fd,WV,spTerm 0]:=by
 let no:∀vs H Q E,¬ spTerm 0 vs H Q E:=λvs H Q E h=>by
  erw[_,_,_,_,_,_,_,_,_,_,_,_,_,h1,h2,_]at h;omega
 exists 3
def qP(F:#["_law_term",kJ])(B:Bl mg)(m:mg "_law_term"=some (.ref f))(a7:#[1,"_law_take",WD,spTake]):
 ∀n:Nat,#[n+2,f,fd,WV,spTerm n]
 |0=>Cf
 |n+1=>Cg F B a7 (Cal.of F (qP F B m a7 n) m (λ_ _ _ _ _ _ us hl=>by let%[u0,u1,u2,u3|1]:=Di hl;rfl))
structure PEW(X:Cx)(e:Expr)(t:TE):Prop where
 out:PE X e t
structure PAW(X:Cx)(es:List Expr)(t:TA):Prop where
 out:PA X es t
structure PTW(X:Cx)(s:Stmt)(t:TS):Prop where
 out:PS X s t
section
variable {X:Cx}{e:Expr}{es:List Expr}{te:TE}{t:TA}{pos:Pos}
def cj:PAW X [] va:=.mk aQ
def aI(ha:PEW X e te)(hr:PAW X es t)(hs:starEach (e::es) X.env=(false,eval e X.env)::starEach es X.env:=by rfl):PAW X (e::es) (my te t):=%[|ae ha.out hr.out hs]
def ci{x1}(h:PAW X es t):PEW X (.Tuple es x1 pos) (tTup t):=%[|aM h.out]
def bK{x j}:PEW X (.Constant (.str x) j pos) (tC (.str x)):=%[|aB]
def uU{i j}:PEW X (.Constant (.int i) j pos) (tC (.int i)):=%[|ac]
def DR(h:PEW X e te):PTW X (.Return (some e) pos) (tRet te):=%[|aq h.out]
def jU{i:Nat}{x:Str}{pos':Pos}(hN:X.N.Nodup)(hi:X.N[i]?=some x)(hx:Loc X.env.scope x)(he:PEW X e te)(hs:swapsWith e (some (.Name x pos')) pos.line X.env=pure false:=by rfl)(hf:X.fn x=true∨X.env.scope.names.lookup x=some .local:=by first | exact .inl rfl | exact .inr rfl | assumption):
 PTW X (.Assign [.Name x pos'] e pos) (zF te (uD i)):=%[|am hN hi hx he.out hs hf]
def zi:PSW X [] DB:=%[|ax]
def ic(h:PTW X s a)(k:PSW X ss b):PSW X (s::ss) (DX a b):=%[|aa h.out k.out]
def uR(h:PTW X s a):PSW X [s] a:=%[|ad h.out]
def zj{t':TS}(h:PSW X ss t0)(hw:∀D σ H,t' D σ H->t0 D σ H):PSW X ss t':=%[|dO h.out hw]
def Dy(hc:PT X c tc)(ha:PSW X a t0)(hb:PSW X b u):PTW X (.If c a b pos) (DZ tc t0 u):=%[|aG hc ha.out hb.out]
end
def RowsAt.app(h:RowsAt H a r)(k:RowsAt H b s):RowsAt H (a++b) (r++s):=by
 erw[by rw[zL0,zL0,h.1,k.1],λi v x e1 e2=>?_]
 by_cases c:i<a.length
 . rw[zO1 c]at e1;rw[zO1 (by rw[←h.1];exact c)]at e2;exact h.2 i v x e1 e2
 . rw[zL1 #[0]]at e1;rw[zL1 (by rw[←h.1];omega),←h.1]at e2;exact k.2 _ v x e1 e2
def RowsAt.one(h:HrAt H v r):RowsAt H [v] [r]:=⟨rfl,λi u x e1 e2=>by
 cases i with
 |zero=>cases e1;cases e2;exact h
 |succ i=>cases e1⟩
instance spHelp:∀(f b:Addr)(bs:List Str)(most:Int),vs=[.ref f,.ref b,.int most]->FeedAt H f->H b=some (.lst (bs.map V.str))->b≠f->1<=bs.length->bs.length<=100->0<=most->most<=60->(∀(h:Addr)(rv:List V)(rows:List Hr)(H':Hp),H' h=some (.tup rv)->RowsAt H' rv rows->(∀r∈rows,r.good)->FeedAt H' f->SameBut f H H'->Q (.ref h) H'):=1
def eF:FnScope ["_law_feed_here","_law_boxes","_law_most","_law_rows","_law_many","_law_k","_law_form"] Ww (ag km):=%[|5]
def ue(F:#["_law_helper",km])(B:Bl mg)(a7:#[1,"_law_take",WD,spTake])(dQ:#[7,"_law_term",WV,spTerm 5]):#[8,f,fd,Ww,spHelp]:=by
 exists eF
 erw[f,b,bs,most,1,F0,hb,nb,b1,b2,m0,m1,q]at h;refine⟨_,(aa #[am,3,eF,cP aQ]
  (aa #[am,4,eF,ai a7 hr ⋯ rfl %[0,au aR (pv 2) ac|aQ]]
  (aa (cK zG1 rfl (cu rfl B.range %[4|aQ]) (bg (i:=5) eF.nd rfl (.inl rfl)) (aa #[am,6,eF,ai a7 hr ⋯ rfl %[0,ac|aQ]]
   (ad (aG (af du (pv 6) ac (ao _)) (ad (aS (cW zC1 zH1 zI1 bV (pv 3) %[aM %[aB,ai dQ hr ⋯ rfl %[0,1,ac,ac|aQ]|aQ]|aQ]))) (ad (aG (af du (pv 6) ac (ao _)) (ad (aS (cW zC1 zH1 zI1 bV (pv 3) %[aM %[aB,aJ ix_list (pv 1) (ai a7 hr ⋯ rfl %[0,aE aF rfl B.len zB1 %[1|aQ]|aQ]) #[1],ai dQ hr ⋯ rfl %[0,1,ac,ac|aQ]|aQ]|aQ]))) (ad (aG (af aP (pv 6) ac (ao _)) (ad (aS (cW zC1 zH1 zI1 bV (pv 3) %[aM %[aB,ai dQ hr ⋯ rfl %[0,1,ac,ac|aQ],ai a7 hr ⋯ rfl %[0,4|aQ]|aQ]|aQ]))) (ad (aG (af aP (pv 6) ac (ao _)) (ad (aS (cW zC1 zH1 zI1 bV (pv 3) %[aM %[aB,ai a7 hr ⋯ rfl %[0,4|aQ]|aQ]|aQ]))) (ad (aS (cW zC1 zH1 zI1 bV (pv 3) %[aM %[aB|aQ]|aQ])))))))))))))
  (ad (aq (bv bb rfl B.tuple bp %[3|aQ])))))),?_⟩
 erw[y0S,λL hL=>?_];let I0:=zC0 hL (.lst []);let Lf:L≠f:=F0.ne hL;let g0:upd H L (.lst []) L=some (.lst []):=aO;generalize upd H L (.lst [])=H1 at I0 g0;erw[0,0,2,f,most+1,1,F0.same I0,3,3,λmn H2 n0 n1 F2 B2=>?_];let S2:SameBut f H H2:=(zJ0 I0).trans B2;refine⟨_,rfl,_,rfl,#[0],#[0],dU (λi σ H'=>∃(x5 x6:Option V)(vs:List V)(rows:List Hr),σ=[some (.ref f),some (.ref b),some (.int most),some (.ref L),some (.int mn),x5,x6]/\FeedAt H' f/\SameBut f H H'/\H' L=some (.lst vs)/\RowsAt H' vs rows/\(∀r∈rows,r.good)/\vs.length=i)
  %[_,_,[],[],1,F2,S2,B2 _ _ Lf g0,%[1|λi v r e=>by cases e],(λr hr=>by cases hr)|1] ?_ ?_⟩
 . rintro i σ H3 hi ⟨x5,x6,vs,rows,rfl,F3,S3,hL3,RW,rg,vl⟩;let hb3:=S3 _ _ nb hb;erw[0,f,(8),1,F3,4,4,λfm H4 f0 f1 F4 B4=>?_];let hb4:=B4 _ _ nb hb3;let hL4:=B4 _ _ Lf hL3;let S4:=S3.trans B4;let RW4:=RW.mono (aZ F3 B4);let fin:∀(r:Hr)(v:V)(H5:Hp),HrAt H5 v r->r.good->FeedAt H5 f->SameBut f H4 H5->H5 L=some (.lst vs)/\vs.length<sizeLine/\∃(x5' x6':Option V)(vs':List V)(rows':List Hr),[some (V.ref f),some (.ref b),some (.int most),some (.ref L),some (.int mn),some (.int (0+(i:Int))),some (.int fm)]=[some (V.ref f),some (.ref b),some (.int most),some (.ref L),some (.int mn),x5',x6']/\FeedAt (upd H5 L (.lst (vs++[v]))) f/\SameBut f H (upd H5 L (.lst (vs++[v])))/\(upd H5 L (.lst (vs++[v]))) L=some (.lst vs')/\RowsAt (upd H5 L (.lst (vs++[v]))) vs' rows'/\(∀r∈rows',r.good)/\vs'.length=i+1:=by
    intro r v H5 R5 g5 F5 B5;let hL5:=B5 _ _ Lf hL4;let k6:bN H5 (upd H5 L (.lst (vs++[v]))):=eR hL5;erw[hL5,aN #[0],_,_,vs++[v],rows++[r],1,6,6,aO,((RW4.mono (aZ F4 B5)).mono k6).app (RowsAt.one (R5.mono k6)),λr' hr'=>?_,by rw[zL0,vl];rfl]
    . erw[x,t,e,rr]at F5;erw[x,t,by rw[aD Lf.symm];exact e,rr]
    . intro c o hc e;rw[aD (aX e hL)];exact B5 _ _ hc (S4 _ _ hc e)
    . rcases qJ0 hr' with h | h
      . exact rg r' h
      . rw[zP0 h];exact g5
   erw[0,2,0,6]
   by_cases c1:fm<3
   . apply aV c1 ?_;erw[0,.inl %[1,_|zG0 hL4],0,0,f,b,bs,(6),(5),1,F4,hb4,nb,b1,b2,4,4,4,4,λv t H5 T5 g5 d5 F5 B5=>%[y2S|λp hp=>?_]];let Ip:=zC0 hp (.tup [.str "say",v]);let%[hLx,sz|iv]:=fin (.say t) (.ref p) _ (.say aO (T5.mono (bd Ip))) %[g5|3] (F5.same Ip) (B5.trans (zJ0 Ip));erw[L,2,hLx,sz,iv]
   apply ay c1 %[0,2,0|6]
   by_cases c2:fm<5
   . apply aV c2 ?_;let bl:(bs.map V.str).length=bs.length:=zF0 _;erw[0,.inl %[1,_|zG0 hL4],0,0,0,b,0,.inl (zG0 hb4),f,0,F4,3,3,λd H5 d0 d1 F5 B5=>?_];let%[v,hv|vm]:=ly (l:=bs.map V.str) (i:=d) d0 d1;let%[x,hx|1]:=List.mem_map.mp vm;let hb5:=B5 _ _ nb hb4;erw[b,_,2,zG0 hb5,hv,0,0,f,b,bs,(6),(5),1,F5,hb5,nb,b1,b2,4,4,4,4,λv t H6 T6 g6 d6 F6 B6=>%[y3S|λp hp=>?_]];let Ip:=zC0 hp (.tup [.str "set",.str x,v]);let%[hLx,sz|iv]:=fin (.set x t) (.ref p) _ (.set aO (T6.mono (bd Ip))) %[g6|3] (F6.same Ip) (B5.trans (B6.trans (zJ0 Ip)));erw[L,2,hLx,sz,iv]
   apply ay c2 %[0,1,0|6]
   by_cases c3:fm=5
   . apply aV (congrArg V.int c3) ?_;erw[0,.inl %[1,_|zG0 hL4],0,0,f,b,bs,(5),(4),1,F4,hb4,nb,b1,b2,4,4,4,4,λv t H5 T5 g5 d5 F5 B5=>?_];erw[0,0,f,mn,1,F5,3,3,λd H6 d0 d1 F6 B6=>%[y3S|λp hp=>?_]];let Ip:=zC0 hp (.tup [.str "if",v,.int d]);let%[hLx,sz|iv]:=fin (.iff t d) (.ref p) _ (.iff aO (T5.mono λa xs e=>Ip _ _ (aZ F5 B6 _ _ e))) %[g5,3|d0] (F6.same Ip) (B5.trans (B6.trans (zJ0 Ip)));erw[L,2,hLx,sz,iv]
   apply ay (λz=>c3 (V.int.inj z)) %[0,1,0|6]
   by_cases c4:fm=6
   . apply aV (congrArg V.int c4) ?_;erw[0,.inl %[1,_|zG0 hL4],0,0,f,mn,1,F4,3,3,λd H6 d0 d1 F6 B6=>%[y2S|λp hp=>?_]];let Ip:=zC0 hp (.tup [.str "go",.int d]);let%[hLx,sz|iv]:=fin (.go d) (.ref p) _ (.go aO) d0 (F6.same Ip) (B6.trans (zJ0 Ip));erw[L,2,hLx,sz,iv]
   apply ay (λz=>c4 (V.int.inj z)) ?_;erw[0,.inl %[1,_|zG0 hL4],y1S,λp hp=>?_];let Ip:=zC0 hp (.tup [.str "end"]);let%[hLx,sz|iv]:=fin .fin (.ref p) _ (.fin aO) trivial (F4.same Ip) (zJ0 Ip);erw[L,2,hLx,sz,iv]
 . rintro σ H3 ⟨x5,x6,vs,rows,rfl,F3,S3,hL3,RW,rg,vl⟩;erw[0,L,0,.inl %[zG0 hL3|λh hh=>?_]];let Ih:=zC0 hh (.tup vs);exact q h vs rows _ aO (RW.mono (bd Ih)) rg (F3.same Ih) (S3.trans (zJ0 Ih))
instance spLiar:∀(f:Addr)(x:Str),vs=[.ref f,.str x]->FeedAt H f->(∀(h:Addr)(rv:List V)(rows:List Hr)(H':Hp),H' h=some (.tup rv)->RowsAt H' rv rows->(∀r∈rows,r.good)->FeedAt H' f->SameBut f H H'->Q (.ref h) H'):=1
def dB:FnScope ["_law_feed_here","_law_box","_law_j","_law_wrong","_law_turn","_law_more","_law_told"] Wx (ag oJ):=%[|5]
instance tLi1(Dn:Ends)(σ:St)(H:Hp):∀(x4 x5 x6:Option V)(f:Addr)(x:Str)(vj vw:V)(tw:Tm),σ=[some (.ref f),some (.str x),some vj,some vw,x4,x5,x6]->FeedAt H f->TmAt H vj (.box x)->TmAt H vw tw->tw.good->tw.depth<=3->(∀(h:Addr)(rv:List V)(rows:List Hr)(H':Hp),H' h=some (.tup rv)->RowsAt H' rv rows->(∀r∈rows,r.good)->FeedAt H' f->SameBut f H H'->Dn.rt (.ref h) H'):=0
instance tLi2(Dn:Ends)(σ:St)(H:Hp):∀(x3 x4 x6:Option V)(f:Addr)(x:Str)(vj vm:V)(tm:Tm),σ=[some (.ref f),some (.str x),some vj,x3,x4,some vm,x6]->FeedAt H f->TmAt H vj (.box x)->TmAt H vm tm->tm.good->tm.depth<=4->(∀(h:Addr)(rv:List V)(rows:List Hr)(H':Hp),H' h=some (.tup rv)->RowsAt H' rv rows->(∀r∈rows,r.good)->FeedAt H' f->SameBut f H H'->Dn.rt (.ref h) H'):=0
def Et{s:Str}{a b:Tm}{m:Nat}(h1:a.depth<=m)(h2:b.depth<=m):(Tm.op s a b).depth<=m+1:=by
 show max a.depth b.depth+1<=m+1;omega
def yg(F:#["_law_liar",oJ])(a7:#[1,"_law_take",WD,spTake]):#[2,f,fd,Wx,spLiar]:=by
 exists dB
 erw[f,x,1,F0,q]at h;refine⟨_,PSW.out (ic #[jU,2,dB,ci (aI bK (aI (.mk (pv 1)) cj))]
  (ic #[jU,3,dB,ci (aI bK (aI bK (aI (.mk (pv 2)) (aI (ci (aI bK (aI (.mk (ai a7 hr ⋯ rfl %[0,ac|aQ])) cj))) cj))))]
  (ic (Dy (af gz (ai a7 hr ⋯ rfl %[0,ac|aQ]) ac (ao _)) (ic #[jU,4,dB,ci (aI bK (aI bK (aI (ci (aI bK cj)) (aI (ci (aI bK (aI (.mk (ai a7 hr ⋯ rfl %[0,ac|aQ])) cj))) cj))))]
   (uR #[jU,3,dB,ci (aI bK (aI bK (aI (.mk (pv 3)) (aI (.mk (pv 4)) cj))))])) zi)
  (zj (t':=tLi1) (ic #[jU,5,dB,ci (aI bK (aI bK (aI (.mk (pv 3)) (aI (ci (aI bK (aI (.mk (au aR ac (ai a7 hr ⋯ rfl %[0,ac|aQ]))) cj))) cj))))]
  (ic (Dy (af aP (ai a7 hr ⋯ rfl %[0,ac|aQ]) ac (ao _)) (uR #[jU,5,dB,ci (aI bK (aI bK (aI (.mk (pv 3)) (aI (ci (aI bK (aI bK (aI (ci (aI bK (aI (ci (aI bK (aI (.mk (au aR ac (ai a7 hr ⋯ rfl %[0,ac|aQ]))) cj))) cj))) (aI (ci (aI bK (aI (.mk (ai a7 hr ⋯ rfl %[0,ac|aQ])) cj))) cj))))) cj))))] ) zi)
  (zj (t':=tLi2) (ic #[jU,6,dB,ci (aI bK (aI bK (aI (ci (aI bK (aI (.mk (pv 2)) cj))) (aI (.mk (pv 5)) cj))))]
  (uR (DR (ci (aI (ci (aI bK (aI (.mk (pv 1)) (aI (ci (aI bK (aI uU cj))) cj)))) (aI (ci (aI bK (aI (.mk (pv 6)) cj))) (aI (ci (aI bK (aI (.mk (pv 1)) (aI (ci (aI bK (aI bK (aI (.mk (pv 2)) (aI (ci (aI bK (aI uU cj))) cj))))) cj)))) (aI (ci (aI bK (aI uU cj))) cj)))))))) (by
   rintro Dn σ H ⟨x3,x4,x6,f,x,vj,vm,tm,rfl,F0,Tj,Tm,gm,dm,q⟩;let s2:2<=sizeLine:=by decide
   let s3:3<=sizeLine:=by decide
   let s4:4<=sizeLine:=by decide
   erw[0,s2,λp1 h1=>%[0,s4|λp2 h2=>?_]];let I1:=zC0 h1 (.tup [.str "true",vj]);let I2:=zC0 h2 (.tup [.str "op",.str "+",.ref p1,vm]);let T2:TmAt (upd (upd H p1 (.tup [.str "true",vj])) p2 (.tup [.str "op",.str "+",.ref p1,vm])) (.ref p2) (.op "+" (.ask "true" (.box x)) tm):=.op aO (.ask (I2 _ _ aO) (Tj.mono (bd (I1.trans I2)))) (Tm.mono (bd (I1.trans I2)));let J2:=I1.trans I2;generalize upd (upd H p1 (.tup [.str "true",vj])) p2 (.tup [.str "op",.str "+",.ref p1,vm])=H2 at T2 J2;erw[0,s2,λp5 h5=>%[s3|λp6 h6=>%[0,s2|λp7 h7=>%[0,0,s2|λp3 h3=>%[s4|λp4 h4=>%[s3|λp8 h8=>%[s2|λp9 h9=>%[s4|λp h10=>?_]]]]]]]];let I5:=zC0 h5 (.tup [.str "num",.int 0]);let I6:=zC0 h6 (.tup [.str "set",.str x,.ref p5]);let I7:=zC0 h7 (.tup [.str "say",.ref p2]);let I3:=zC0 h3 (.tup [.str "num",.int 1]);let I4:=zC0 h4 (.tup [.str "op",.str "+",vj,.ref p3]);let I8:=zC0 h8 (.tup [.str "set",.str x,.ref p4]);let I9:=zC0 h9 (.tup [.str "go",.int 1]);let I10:=zC0 h10 (.tup [.ref p6,.ref p7,.ref p8,.ref p9]);let J9:=I9.trans I10;let J8:=I8.trans J9;let J4:=I4.trans J8;let J3:=I3.trans J4;let J7:=I7.trans J3;let J6:=I6.trans J7;let R6:=HrAt.set (J7 _ _ aO) (.num (J6 _ _ aO));let R7:=HrAt.say (J3 _ _ aO) (T2.mono (bd (I5.trans J6)));let R8:=HrAt.set (J9 _ _ aO) (.op (J8 _ _ aO) (Tj.mono (bd (J2.trans (I5.trans J6)))) (.num (J4 _ _ aO)));let R9:=HrAt.go (I10 _ _ aO);let JJ:=J2.trans (I5.trans J6);let pl:("+":Str)∈signW:=by decide
   apply q p _ _ _ aO ((((RowsAt.one R6).app (RowsAt.one R7)).app (RowsAt.one R8)).app (RowsAt.one R9)) (λr hr=>?_) (F0.same JJ) (zJ0 JJ);simp only[List.mem_append,qL1]at hr;rcases hr with((rfl | rfl) | rfl) | rfl
   . erw[trivial,(by show 1<=5;decide)]
   . erw[%[pl,%[4|trivial]|gm],Et (m:=4) (by show 2<=4;decide) dm]
   . erw[%[pl,trivial|trivial],(by show 2<=5;decide)]
   . exact(by show(0:Int)<=1;decide))))) (by
   rintro Dn σ H ⟨x4,x5,x6,f,x,vj,vw,tw,rfl,F0,Tj,Tw,gw,dw,q⟩;let s2:2<=sizeLine:=by decide
   let s4:4<=sizeLine:=by decide
   let st:("*":Str)∈signW:=by decide
   let pl:("+":Str)∈signW:=by decide
   erw[0,0,f,(4),1,F0,4,4,λd1 H1 _ _ F1 B1=>%[2,s2|λp1 h1=>%[s4|λp2 h2=>?_]]];let k1:=aZ F0 B1;let I1:=zC0 h1 (.tup [.str "num",.int (1+d1)]);let I2:=zC0 h2 (.tup [.str "op",.str "*",vw,.ref p1]);let J2:=I1.trans I2;let T2:TmAt (upd (upd H1 p1 (.tup [.str "num",.int (1+d1)])) p2 (.tup [.str "op",.str "*",vw,.ref p1])) (.ref p2) (.op "*" tw (.num (1+d1))):=.op aO (Tw.mono λa xs e=>J2 _ _ (k1 _ _ e)) (.num (I2 _ _ aO));generalize upd (upd H1 p1 (.tup [.str "num",.int (1+d1)])) p2 (.tup [.str "op",.str "*",vw,.ref p1])=H2 at T2 J2;let F2:=F1.same J2;erw[0,f,(3),1,F2,4,4,λd2 H3 _ _ F3 B3=>%[1,0|6]];let k3:=aZ F2 B3;let S3:SameBut f H H3:=B1.trans ((zJ0 J2).trans B3);let kk:bN H H3:=λa xs e=>k3 _ _ (J2 _ _ (k1 _ _ e))
   by_cases c:d2=0
   . apply aV (congrArg V.int c) ?_;erw[0,0,f,(3),1,F3,4,4,λd3 H4 _ _ F4 B4=>%[2,s2|λp3 h3=>%[s2|λp4 h4=>?_]]];let k4:=aZ F3 B4;let I3:=zC0 h3 (.tup [.str "num",.int (1+d3)]);let I4:=zC0 h4 (.tup [.str "coin",.ref p3]);let J4:=I3.trans I4;let T4:TmAt (upd (upd H4 p3 (.tup [.str "num",.int (1+d3)])) p4 (.tup [.str "coin",.ref p3])) (.ref p4) (.ask "coin" (.num (1+d3))):=.ask aO (.num (I4 _ _ aO));generalize upd (upd H4 p3 (.tup [.str "num",.int (1+d3)])) p4 (.tup [.str "coin",.ref p3])=H5 at T4 J4;let F5:=F4.same J4;erw[0,f,(3),1,F5,4,4,λd5 H6 _ _ F6 B6=>%[s2|λp5 h5=>%[s4|λp6 h6=>%[s4|λp7 h7=>?_]]]];let k6:=aZ F5 B6;let I5:=zC0 h5 (.tup [.str "num",.int d5]);let I6:=zC0 h6 (.tup [.str "op",.str "+",.ref p4,.ref p5]);let I7:=zC0 h7 (.tup [.str "op",.str "*",vw,.ref p6]);let J7:=I6.trans I7;let J6:=I5.trans J7;let kw:bN H _:=λa xs e=>J6 _ _ (k6 _ _ (J4 _ _ (k4 _ _ (kk _ _ e))))
     erw[_,_,_,f,x,vj,.ref p7,.op "*" tw (.op "+" (.ask "coin" (.num (1+d3))) (.num d5)),1,F6.same J6,Tj.mono kw,.op aO (Tw.mono kw) (.op (I7 _ _ aO) (T4.mono λa xs e=>J6 _ _ (k6 _ _ e)) (.num (J7 _ _ aO))),%[st,gw,pl,%[4|trivial]|trivial],Et (m:=3) dw (by show 3<=3;decide),λh rv rows H' h1 h2 h3 h4 h5=>q h rv rows H' h1 h2 h3 h4 (S3.trans (B4.trans ((zJ0 J4).trans (B6.trans ((zJ0 J6).trans h5)))))]
   . apply ay (λz=>c (V.int.inj z)) ?_;erw[_,_,_,f,x,vj,.ref p2,.op "*" tw (.num (1+d1)),1,F3,Tj.mono kk,T2.mono k3,%[st,gw|trivial],Et (m:=3) dw (by show 1<=3;decide),λh rv rows H' h1 h2 h3 h4 h5=>q h rv rows H' h1 h2 h3 h4 (S3.trans h5)]))))),?_⟩
 let s1:1<=sizeLine:=by decide
 let s2:2<=sizeLine:=by decide
 let s4:4<=sizeLine:=by decide
 let st:("*":Str)∈signW:=by decide
 let eqs:("=":Str)∈signW:=by decide
 erw[0,s2,λpj hj=>?_];let Ij:=zC0 hj (.tup [.str "box",.str x]);let Tj:TmAt (upd H pj (.tup [.str "box",.str x])) (.ref pj) (.box x):=.box aO;generalize upd H pj (.tup [.str "box",.str x])=H1 at Ij Tj;erw[0,0,f,(4),1,F0.same Ij,4,4,λd1 H2 _ _ F2 B2=>%[s2|λp1 h1=>%[s4|λp2 h2=>?_]]];let k2:=aZ (F0.same Ij) B2;let I1:=zC0 h1 (.tup [.str "num",.int d1]);let I2:=zC0 h2 (.tup [.str "op",.str "=",.ref pj,.ref p1]);let J2:=I1.trans I2;let T2:TmAt (upd (upd H2 p1 (.tup [.str "num",.int d1])) p2 (.tup [.str "op",.str "=",.ref pj,.ref p1])) (.ref p2) (.op "=" (.box x) (.num d1)):=.op aO (Tj.mono λa xs e=>J2 _ _ (k2 _ _ e)) (.num (I2 _ _ aO));let Tj2:=Tj.mono λa xs e=>J2 _ _ (k2 _ _ e)
 let S3:SameBut f H (upd (upd H2 p1 (.tup [.str "num",.int d1])) p2 (.tup [.str "op",.str "=",.ref pj,.ref p1])):=(zJ0 Ij).trans (B2.trans (zJ0 J2));let F3:=F2.same J2;generalize upd (upd H2 p1 (.tup [.str "num",.int d1])) p2 (.tup [.str "op",.str "=",.ref pj,.ref p1])=H3 at T2 Tj2 S3 F3;erw[0,f,(3),1,F3,4,4,λd2 H4 _ _ F4 B4=>%[2,0|6]];let k4:=aZ F3 B4;let S4:=S3.trans B4
 by_cases c:d2>0
 . apply aV c ?_;erw[s1,λp3 h3=>?_];let I3:=zC0 h3 (.tup [.str "round"]);let e3:upd H4 p3 (.tup [.str "round"]) p3=some (.tup [.str "round"]):=aO;generalize upd H4 p3 (.tup [.str "round"])=H5 at I3 e3;erw[0,f,(6),1,F4.same I3,4,4,λd5 H6 _ _ F6 B6=>%[s2|λp5 h5=>%[s4|λp6 h6=>?_]]];let k6:=aZ (F4.same I3) B6;let I5:=zC0 h5 (.tup [.str "num",.int d5]);let I6:=zC0 h6 (.tup [.str "op",.str "=",.ref p3,.ref p5]);let J6:=I5.trans I6;let T6:TmAt (upd (upd H6 p5 (.tup [.str "num",.int d5])) p6 (.tup [.str "op",.str "=",.ref p3,.ref p5])) (.ref p6) (.op "=" (.plain "round") (.num d5)):=.op aO (.plain (J6 _ _ (k6 _ _ e3))) (.num (I6 _ _ aO));generalize upd (upd H6 p5 (.tup [.str "num",.int d5])) p6 (.tup [.str "op",.str "=",.ref p3,.ref p5])=H7 at T6 J6;let kw:bN H3 H7:=λa xs e=>J6 _ _ (k6 _ _ (I3 _ _ (k4 _ _ e)))
   erw[0,0,s4,λp7 h7=>?_];let I7:=zC0 h7 (.tup [.str "op",.str "*",.ref p2,.ref p6]);erw[_,_,_,f,x,.ref pj,.ref p7,.op "*" (.op "=" (.box x) (.num d1)) (.op "=" (.plain "round") (.num d5)),1,F6.same (J6.trans I7),Tj2.mono (λa xs e=>I7 _ _ (kw _ _ e)),.op aO (T2.mono λa xs e=>I7 _ _ (kw _ _ e)) (T6.mono (bd I7)),%[st,%[eqs,trivial|trivial],eqs,(show("round":Str)∈plainW by decide)|trivial],(by show 3<=3;decide),λh rv rows H' h1 h2 h3 h4 h5=>q h rv rows H' h1 h2 h3 h4 (S4.trans ((zJ0 I3).trans (B6.trans ((zJ0 (J6.trans I7)).trans h5))))]
 . apply ay c ?_;erw[_,_,_,f,x,.ref pj,.ref p2,.op "=" (.box x) (.num d1),1,F4,Tj2.mono k4,T2.mono k4,%[eqs,trivial|trivial],(by show 2<=3;decide),λh rv rows H' h1 h2 h3 h4 h5=>q h rv rows H' h1 h2 h3 h4 (S4.trans h5)]
section
variable {X:Cx}
def An{st:List Stmt}{h0:ExceptHandler}{hs:List ExceptHandler}{pos:Pos}(hb:PSs X st t)(hx:∀v s,X.xe v s->False:=by exact λ_ _ z=>z):PS X (.Try st (h0::hs) [] [] pos) t:=by
 exists 4,D,I,h;apply wpAny_Try_except (jD0 (hb Jx s σ H D I h) (λf s1 q=>?_) λv s z=>(hx v s z).elim);cases f with
 |next=>exact jJ0 q
 |brk=>exact q
 |cont=>exact q
 |ret v=>exact q
end
section
variable {C CM CA CG:Addr}
def eJ(ns:List Str)(ts:List Tr)(p:Int)(z:Db):TR->Db
 |.claims xs=>cS ns ts p xs z
 |.say xs=>cS ns ts p xs z
 |.coin r=>di ns ts p r z
def tu(ns:List Str)(p:Int)(b:Bool)(z:Db):TR->Prop
 |.claims xs=>b=true/\HearOk ns p z xs
 |.say xs=>b=false/\HearOk ns p z xs
 |.coin r=>TossOk ns p z r
def fO(ns:List Str)(ts:List Tr)(p:Int):Bool->Db->List TR->Prop
 |_,_,[]=>True
 |b,z,r::rs=>tu ns p b z r/\fO ns ts p false (eJ ns ts p z r) rs
def om:∀(rs:List TR)(b:Bool)(z:Db)(k:Nat),fO ns ts p b z rs->fO ns ts p b z (rs.take k)
 | [],_,_,k,_=>by rw[List.take_nil];trivial
 |_::_,_,_,0,_=>trivial
 |r::rs,b,z,k+1,h=>%[h.1|om rs false _ k h.2]
def rj(k:GmK ns ts p)(n6:ns.length<=6):∀(n:Nat)(t:Tk)(cs:List Int),TkOk ns ts p t->cy cs p->fO ns ts p false t.z (dH ns ts p rows cs n t).1/\(dH ns ts p rows cs n t).1.foldl (eJ ns ts p) t.z=(dH ns ts p rows cs n t).2.z
 |0,t,cs,h,hc=>%[trivial|1]
 |n+1,t,cs,h,hc=>by
   let p2:=k.p2
   by_cases ch:t.z.aw.1="hear"
   . rw[jW ch];let%[o|_]:=h.ask (rows:=rows) k n6 ch;let%[h1|h2]:=rj k n6 n (t.ask ns ts p rows) cs o hc;erw[%[%[1|h.hear k n6 ch]|h1],h2]
   . by_cases cc:t.z.aw.1="coin"
     . rw [jX cc];obtain⟨r0,r1⟩:0<=cs.headD 0/\cs.headD 0<p:=by
        cases cs with
        |nil=>show(0:Int)<=0/\(0:Int)<p;omega
        |cons c cs=>exact hc c zW0
       let%[o|_]:=h.toss k cc r0 r1;let%[h1|h2]:=rj k n6 n (t.toss ns ts p (cs.headD 0)) cs.tail o (λx hx=>hc x (List.mem_of_mem_tail hx));erw[%[h.tossOk cc r0 r1|h1],h2]
     . rw[lC ch cc];erw[trivial,1]
def Ch(k:GmK ns ts p)(n6:ns.length<=6)(hc:cy cs p):fO ns ts p true (Db.new ts) (jK ns ts p rows cs).1/\(jK ns ts p rows cs).1.foldl (eJ ns ts p) (Db.new ts)=(jK ns ts p rows cs).2.z:=by
 let%[_,_,ho|_]:=sM (rows:=rows) k n6;let%[o|_]:=sL (rows:=rows) k n6;let%[h1|h2]:=rj (rows:=rows) k n6 20 ‹Tk.a› cs o hc;erw[%[%[1|ho]|h1],h2]
def oo:∀(rs:List TR) (b:Bool) (z:Db) (k:Nat),fO ns ts p b z rs->k<rs.length->((rs.take k).foldl (eJ ns ts p) z).aw.1="hear"∨((rs.take k).foldl (eJ ns ts p) z).aw.1="coin"
 | [],_,_,k,_,h=>absurd h (Nat.not_lt_zero _)
 |r::rs,b,z,0,h,_=>by
   show z.aw.1="hear"∨z.aw.1="coin";cases r with
   |claims xs=>exact .inl (by rw[h.1.2.aw])
   |say xs=>exact .inl (by rw[h.1.2.aw])
   |coin r=>exact .inr h.1.aw
 |r::rs,b,z,k+1,h,hk=>oo rs false _ k h.2 (by rw[zU0]at hk;omega)
instance spTell(C CG:Addr):∀(D g:Addr)(v:V)(b:Bool)(z:Db)(r:TR)(ns:List Str)(ts:List Tr)(p:Int),vs=[.ref D,v,.bl b]->DbAt C H D g z->Gm CG H g ns ts p->GmK ns ts p->TRAt H v r->tu ns p b z r->(∀H',SameBut D H H'->DbAt C H' D g (eJ ns ts p z r)->Q .non H'):=1
def Cu:FnScope Wo Wo (ag vt):=%[|5]
def CO(F:#["tell",vt])(T:DTxt K mg C)(mH:Meth K C "hear" fH)(GH:#[18,fH,fdH,WE,spHear C CG])(bH:Binds K fdH WE [])(mT:Meth K C "toss" fT)(GT:#[17,fT,fdT,WN,spToss C CG])(bT:Binds K fdT WN []):#[19,f,fd,Wo,spTell C CG]:=by
 exists Cu
 erw[D,g,v,b,z,r,ns,ts,p,1,DA,G,k,TA,ok,q]at h;let hr18:Room 18 _:=hr.mono ⋯;let hr17:Room 17 _:=hr.mono ⋯;erw[_,(ad (aG (af aP (aJ ix_tup (pv 1) ac #[1]) aB (ao _)) (ad (aS (bJ (pv 0) T.cl mT GT hr17 bT .nil bh %[aJ ix_tup (pv 1) ac #[1]|aQ]))) (ad (aG (af jN (dq aP (aJ ix_tup (pv 1) ac #[1]) aB (ao _)) (pv 2) (ao _)) bu (ad (aS (bJ (pv 0) T.cl mH GH hr18 bH .nil bh %[aJ ix_tup (pv 1) ac #[1]|aQ]))))))),6];let%[dx,aA,aC,aH,aT|R]:=id DA;cases TA with
 | @claims a a1 xs h1 h2=>
   erw[1,ho]at ok;erw[0,a,_,(0),0,1,zB0 h1,bw (j:=0) rfl,1,0,ay (λz=>absurd (V.str.inj z) ⋯) ?_];erw[0,a,_,(0),0,1,zB0 h1,bw (j:=0) rfl,1,0,1,0,mZ rfl ?_];erw[0,D,dx,0,R.hD,BG,0,a,_,(1),0,1,zB0 h1,bw (j:=1) rfl,D,g,a1,z,xs,ns,ts,p,1,DA,G,k,.inr h2,ho.aw,ho.xo,ho.x5,ho.ro,ho.tl,ho.po,λH' S D'=>q H' S D']
 | @say a a1 xs h1 h2=>
   erw[1,ho]at ok;erw[0,a,_,(0),0,1,zB0 h1,bw (j:=0) rfl,1,0,ay (λz=>absurd (V.str.inj z) ⋯) ?_];erw[0,a,_,(0),0,1,zB0 h1,bw (j:=0) rfl,1,0,1,0,mZ rfl ?_];erw[0,D,dx,0,R.hD,BG,0,a,_,(1),0,1,zB0 h1,bw (j:=1) rfl,D,g,a1,z,xs,ns,ts,p,1,DA,G,k,.inr h2,ho.aw,ho.xo,ho.x5,ho.ro,ho.tl,ho.po,λH' S D'=>q H' S D']
 | @coin a r h1=>
   erw[0,a,_,(0),0,1,zB0 h1,bw (j:=0) rfl,1,0,aV rfl ?_];erw[0,D,dx,0,R.hD,DN,0,a,_,(1),0,1,zB0 h1,bw (j:=1) rfl,D,g,z,r,ns,ts,p,1,DA,G,k,ok.aw,ok.r0,ok.r1,ok.tl,ok.ro,ok.po,λH' S D'=>q H' S D']
end
section
variable {C CG:Addr}
instance spTellN(C CG:Addr):∀(D g:Addr)(v:V)(n:Int)(z:Db)(r:TR)(ns:List Str)(ts:List Tr)(p:Int),vs=[.ref D,v,.int n]->DbAt C H D g z->Gm CG H g ns ts p->GmK ns ts p->TRAt H v r->tu ns p (decide (V.int n=.int 0)) z r->(∀H',SameBut D H H'->DbAt C H' D g (eJ ns ts p z r)->Q .non H'):=1
def lD:FnScope Wp Wp (ag fk):=%[|5]
def lZ(F:#["tell_numbered",fk])(Fr:#[19,"tell",Wo,spTell C CG]):#[21,f,fd,Wp,spTellN C CG]:=by
 exists lD
 erw[D,g,v,n,z,r,ns,ts,p,1,DA,G,k,TA,ok,q]at h;erw[_,(ad (An (ad (aS (ai Fr hr ⋯ rfl %[0,1,dq aP (pv 2) ac (ao _)|aQ]))))),6];erw[0,0,0,1,D,g,v,_,z,r,ns,ts,p,1,DA,G,k,TA,ok,λH' S D'=>q H' S D']
def BC(z:Db):List V:=if z.aw.1="hear"∨z.aw.1="coin" then [.str "open"]else awV z.aw
instance spJudged(C CG:Addr):∀(g a:Addr)(tv:List V)(rs:List TR)(ns:List Str)(ts:List Tr)(p:Int),vs=[.ref g,.ref a]->Gm CG H g ns ts p->GmK ns ts p->H a=some (.tup tv)->TRsAt H tv rs->fO ns ts p true (Db.new ts) rs->(∀(e:Addr)(H':Hp),Same H H'->H' e=some (.tup (BC (rs.foldl (eJ ns ts p) (Db.new ts))))->Q (.ref e) H'):=1
def f8:FnScope ["game","talk","doubter","number","row","end"] ["game","talk"] (ag oN):=%[|5]
def qD:∀(rs:List TR)(b:Bool)(z:Db)(i:Nat)(r:TR),fO ns ts p b z rs->rs[i]?=some r->tu ns p (if i=0 then b else false) ((rs.take i).foldl (eJ ns ts p) z) r
 | [],_,_,i,_,_,h=>by rw[List.getElem?_nil]at h;cases h
 |r0::rs,b,z,0,r,h,e=>by
   rw[List.getElem?_cons_zero]at e;cases e;exact h.1
 |r0::rs,b,z,i+1,r,h,e=>by
   rw[List.getElem?_cons_succ]at e
   have:=qD rs false _ i r h.2 e
   rw[ite_self]at this;rw[Jy (Nat.succ_ne_zero i)];exact this
def TRsAt.nth:∀{vs:List V}{rs:List TR}{i:Nat}{v:V},TRsAt H vs rs->vs[i]?=some v->∃r,rs[i]?=some r/\TRAt H v r
 | [],[],i,v,_,h=>by rw[List.getElem?_nil]at h;cases h
 |v0::vs,r0::rs,0,v,h,e=>by
   rw[List.getElem?_cons_zero]at e;cases e;erw[r0,1,h.1]
 |v0::vs,r0::rs,i+1,v,h,e=>TRsAt.nth (i:=i) h.2 (by rw[List.getElem?_cons_succ]at e;exact e)
 | [],_::_,_,_,h,_=>h.elim
 |_::_,[],_,_,h,_=>h.elim
def yj(F:#["judged",oN])(B:Bl mg)(T:DTxt K mg C)
 (MD:Mk K C fI)(GD:#[1,fI,fdI,WO,spDInit C CG])(bD:Binds K fdI WO [])
 (mW:Meth K C "waits" fW)(GW:#[1,fW,fdW,WA,spOf C λz v H=>∃a,v=.ref a/\H a=some (.tup (awV z.aw))])(bW:Binds K fdW WA [])
 (Jw:#[21,"tell_numbered",Wp,spTellN C CG]):#[23,f,fd,["game","talk"],spJudged C CG]:=by
 exists f8
 erw[g,a,tv,rs,ns,ts,p,1,G,k,ha,TR,ok,q]at h;let hr1:Room 1 _:=hr.mono ⋯;let hr2:Room (1+1) _:=hr.mono ⋯;refine⟨_,(aa #[am,2,f8,jy MD GD hr2 rfl T.mgC bD .nil bh %[0|aQ]]
  (aa (cK zG1 rfl (tS rfl B.enumerate (pv 1)) (lW rfl (db (bg (i:=3) f8.nd rfl (.inl rfl)) (db (bg (i:=4) f8.nd rfl (.inl rfl)) jx))) (ad (aS (ai Jw hr ⋯ rfl %[2,4,3|aQ]))))
  (aa #[am,5,f8,ca (pv 2) T.cl mW GW hr1 bW .nil bh]
  (aa (aG (af eP (aJ ix_tup (pv 5) ac #[1]) (aM %[aB,aB|aQ]) (by rfl')) (ad (aq (aM %[aB|aQ]))) ax)
  (ad (aq (pv 5))))))),?_⟩
 erw[0,λD dd hD0 hdd0 nD=>?_];let K3:Same H (upd (upd H dd (.own D)) D (.ins C dd [])):=λa o e=>by
  rw[aD (aX e hD0),aD (aX e hdd0)];exact e
 let gD:g≠D:=by
  erw[_,_,_,_,%[dg|hg],_]at G;exact aX hg hD0
 erw[D,g,dd,ns,ts,p,1,aO,G.same K3,gD,λH4 S4 DA4=>%[1|6]];let T4:Same H H4:=Same.but K3 hD0 S4;erw[0,a,1,%[_|zB0 (T4 _ _ ha)],qU (K:=K) (xs:=tv) (λi σ H'=>∃x3 x4:Option V,σ=[some (.ref g),some (.ref a),some (.ref D),x3,x4,none]/\DbAt C H' D g ((rs.take i).foldl (eJ ns ts p) (Db.new ts))/\Same H H') %[_,0,DA4|T4] (λi σ H' _ JE=>by erw[_,_,_,_,h]at JE;exact zB0 (h _ _ ha)) ?_ ?_]
 . rintro i v σ H1 t hz ⟨x3,x4,rfl,D1,S1⟩ ht;let I:=zC0 ht (.tup [.int (i:Int),v]);let%[r,er|TA]:=TR.nth hz;let ok1:=qD rs true _ i r ok er;let S2:=S1.trans I;erw[t,0,zB0 aO,1,_,0,2,6];erw[0,0,0,D,g,v,_,_,r,ns,ts,p,1,D1.same I,G.same S2,k,TA.mono (bd S2),6,λH5 S5 D5=>?_]
   . let e:decide (V.int (i:Int)=.int 0)=(if i=0 then true else false):=by
      by_cases c:i=0
      . subst c;rfl
      . rw[Jy c];exact zE1 λz=>c (by have:=V.int.inj z;omega)
     rw[e];exact ok1
   . erw[_,0,6,λc o e=>S5 _ _ (aX e hD0) (S2 _ _ e)];rw[qH0,er,List.foldl_append];exact D5
 . rintro σ H1 ⟨x3,x4,rfl,D1,S1⟩;rw[TR.len,qF0]at D1;let%[dx,aA,aC,aH,aT|R]:=id D1;erw[0,D,dx,0,R.hD,qW,D,g,0,D1,λv hv=>?_];erw[av,1,hav]at hv;erw[0,av,_,(0),0,1,zB0 hav,BS _,y2S,λc1 hc1=>?_];let I1:=zC0 hc1 (.tup [.str "hear",.str "coin"]);erw[c1,0,.inr (zB0 aO),1,1,0,6];generalize upd H1 c1 (.tup [.str "hear",.str "coin"])=H2 at I1;show if inV (.str (rs.foldl (eJ ns ts p) (Db.new ts)).aw.1) [.str "hear",.str "coin"]=true then _ else _
   rw[DL]
   by_cases ch:(rs.foldl (eJ ns ts p) (Db.new ts)).aw.1="hear"∨(rs.foldl (eJ ns ts p) (Db.new ts)).aw.1="coin"
   . let e:(decide ((rs.foldl (eJ ns ts p) (Db.new ts)).aw.1="hear")||decide ((rs.foldl (eJ ns ts p) (Db.new ts)).aw.1="coin"))=true:=#[ch,0]
     rw[e];apply dL ?_;erw[y1S,λo ho=>?_];apply q o _ (S1.trans (I1.trans (zC0 ho _))) ?_;rw[BC,JB ch];exact aO
   . let e:(decide ((rs.foldl (eJ ns ts p) (Db.new ts)).aw.1="hear")||decide ((rs.foldl (eJ ns ts p) (Db.new ts)).aw.1="coin"))=false:=#[ch,0]
     rw[e];apply cV ?_;erw[0,q av _ (S1.trans I1) ?_];rw[BC,Jy ch];exact I1 _ _ hav
end
def TR.ints:TR->List Int
 |.claims xs=>xs
 |.say xs=>xs
 |.coin r=>[r]
def TR.word:TR->Str
 |.claims _=>"claims"
 |.say _=>"say"
 |.coin _=>"coin"
def TR.ok(r:TR):Prop:=1<=r.ints.length/\r.ints.length<=500/\∀n∈r.ints,0<=n/\n<1000000
def TR.parts(r:TR):List Str:=r.word::r.ints.map cv
def SPA:Str:=%[|#[32]]
def DE:(" ":Str)=SPA:=by decide
def TR.text(r:TR):Str:=Str.join SPA r.parts
def kA(rs:List TR):Str:=Str.join NL (rs.map TR.text)
def oh(r:TR):(∀c∈cd r.word,97<=c/\c<=122)/\r.word.length<=6/\1<=r.word.length:=by
 let e:r.word="coin"∨r.word="claims"∨r.word="say":=by cases r <;> simp [TR.word]
 rcases e with e | e | e <;> rw[e] <;> decide
def pG{n:Int}(h0:0<=n)(h1:n<1000000):(cv n).length<=6:=jO0 h0 ⋯ (by show n<10 ^ 6;omega)
def iY{r:TR}(h:r.ok):∀p∈r.parts,(∀c∈cd p,48<=c)/\p.length<=6:=by
 intro p hp;rcases zV0 hp with e | e
 . rw [e]
   have:=oh r
   erw[λc hc=>by have:=this.1 c hc;omega,this.2.1]
 . let%[n,hn|1]:=List.mem_map.mp e;let b:=h.2.2 n hn;erw[λc hc=>(gK b.1 c hc).1,pG b.1 b.2]
def AZ{x:Nat}:∀{l:List (List Nat)},x∈jn c l->x=c∨∃a∈l,x∈a
 | [],h=>by cases h
 | [a],h=>.inr %[a,zW0|h]
 |a::b::r,h=>by
   rcases qJ0 (show x∈a++c::jn c (b::r)from h)with h | h
   . exact .inr %[a,zW0|h]
   . rcases zV0 h with h | h
     . exact .inl h
     . rcases AZ h with h | ⟨d,hd,h⟩
       . exact .inl h
       . exact .inr %[d,qK0 _ hd|h]
def tU{r:TR}(h:r.ok):Txt.split r.text SPA=r.parts:=jZ (c:=32) (jS1 _ _) λp hp hc=>by
 have:=(iY h p hp).1 32 hc
 omega
def uZ{rs:List TR}(h:∀r∈rs,r.ok)(h0:rs≠[]):Txt.split (kA rs) NL=rs.map TR.text:=jZ (c:=10) (λz=>h0 (List.map_eq_nil_iff.mp z)) λp hp hc=>by
 let%[r,hr|1]:=List.mem_map.mp hp;unfold TR.text SPA at hc;rw[jF]at hc;rcases AZ hc with e | ⟨a,ha,e⟩
 . cases e
 . let%[p,hp|1]:=List.mem_map.mp ha
   have:=(iY (h r hr) p hp).1 10 e
   omega
def jA(r:TR):r.parts.length=r.ints.length+1:=by unfold TR.parts;simp
def qM{r:TR}(h:r.ok):(r.parts.map (·.length)).sum<=3006:=by
 have:=rm λp hp=>(iY h p hp).2
 let l:=jA r
 have:=h.2.1
 omega
def tE{r:TR}(h:r.ok):r.text.length<=3600:=by
 have:=StrLaws.join_length_le SPA r.parts
 rw[show SPA.length=1 from rfl,Nat.mul_one]at this;let s:=qM h;let l:=jA r
 have:=h.2.1
 unfold TR.text;omega
def qC{rs:List TR}(h:∀r∈rs,r.ok):((rs.map TR.text).map (·.length)).sum<=rs.length*3600:=by
 have:=rm (l:=rs.map TR.text) (b:=3600) λp hp=>by
  let%[r,hr|1]:=List.mem_map.mp hp;exact tE (h r hr)
 rw[zF0]at this;exact this
def zy{rs:List TR}(h:∀r∈rs,r.ok)(hl:rs.length<=25):(kA rs).length<=100000:=by
 have:=StrLaws.join_length_le NL (rs.map TR.text)
 rw[show NL.length=1 from rfl,Nat.mul_one]at this;let s:=qC h;rw[zF0]at this;unfold kA;omega
def xE{r:TR}{rs:List TR}(h:r.ok):kA (r::rs)≠"":=λe=>by
 let e1:cd (kA (r::rs))=[]:=by rw[e];decide
 let w:=(oh r).2.2;let hw:cd r.word≠[]:=λz=>by
  have:(cd r.word).length=r.word.length:=rfl
  rw[z]at this
  simp at this
  omega
 let ht:cd r.text≠[]:=λz=>by
  unfold TR.text SPA TR.parts at z;rw[jF]at z;cases hp:r.ints with
  |nil=>have:=h.1;rw[hp]at this;simp at this
  |cons a l=>
    rw[hp]at z
    have:cd r.word++32::jn 32 (((a::l).map cv).map cd)=[]:=z
    simp at this
 unfold kA NL at e1;rw[jF]at e1;cases rs with
 |nil=>exact ht e1
 |cons a l=>
   have:cd r.text++10::jn 10 (((a::l).map TR.text).map cd)=[]:=e1
   simp at this
def yD{n:Int}(h0:0<=n)(h1:n<1000000):n.natAbs.log2<1920:=by
 let h2:n.natAbs<2 ^ 40:=#[0]
 by_cases c:n.natAbs=0
 . rw[c];decide
 . have:=(Nat.log2_lt c).mpr h2
   omega
def zH(h:∀c∈cd x,c<1000):PyData.strOk x=true:=by
 unfold PyData.strOk;rw[←Array.all_toList,jG1];intro c hc
 have:=h c hc
 exact zD1 #[0]
def zh:bootBuiltins "str"=some (.type "str"):=by decide
instance spRowT:∀(v:V)(r:TR),vs=[v]->TRAt H v r->r.ok->(∀H',Same H H'->Q (.str r.text) H'):=1
instance tRowT(D:Ends)(σ:St)(H:Hp):∀(a b:Addr)(y:V)(r:TR),σ=[some (.ref a),some (.ref b)]->H a=some (.tup [.str r.word,y])->H b=some (.tup (r.ints.map V.int))->r.ok->(∀H',Same H H'->D.rt (.str r.text) H'):=0
def t8:FnScope ["row","values"] ["row"] (ag kh):=%[|5]
def ua(F:#["row_text",kh])(B:Bl mg):#[1,f,fd,["row"],spRowT]:=by
 exists t8
 erw[v,r,1,T,ok,q]at h;refine⟨_,(aa #[am,1,t8,pz (af aP (aJ ix_tup (pv 0) ac #[1]) aB (ao _)) (aM %[aJ ix_tup (pv 0) ac #[1]|aQ]) (aJ ix_tup (pv 0) ac #[1])]
  (dO (t':=tRowT) (ad (aq (cW zS1 jQ1 jR0 sO aB (ae (au lY (cP %[aJ ix_tup (pv 0) ac #[1]|aQ]) (cb (N:=[]) (ix:=[]) (cl:=[]) rfl
   #[5] rfl (fu (pv 1)) (λ_ _ _=>cD (bv sZ rfl B.str zh %[0|aQ])))) aQ)))) (by
   rintro D σ H ⟨a,b,y,r,rfl,ga,gb,ok,q⟩;erw[1,0,a,_,(0),0,1,zB0 ga,1,y1S,λl hl=>?_];let G1:=zC0 hl (.lst [.str r.word]);let gl:upd H l (.lst [.str r.word]) l=some (.lst [.str r.word]):=aO;generalize upd H l (.lst [.str r.word])=H2 at G1 gl;let gb2:=G1 _ _ gb;erw[0,b,1,%[_|zB0 gb2],λD hD=>?_];apply dN (K:=K) (xs:=r.ints.map V.int) (λi H'=>H' D=some (.lst (((r.ints.take i).map cv).map V.str))/\Same H2 H') %[by rw[aO];rfl|zC0 hD _] (λi H' _ h=>zB0 (h.2 _ _ gb2)) ?_ ?_
   . rintro i z H3 hz ⟨hD3,S3⟩;let hi:=(qD0 hz).1;rw[zX0]at hz;let%[m,hm|1]:=qP0 hz;let bm:=ok.2.2 m (qG0 hm);erw[0,m,1,yD bm.1 bm.2,6];refine⟨_,hD3,?_,Nx.of hi ⟨?_,λb o e=>?_⟩⟩
     . rw[zF0,zF0,qI0];exact aN (by have:=ok.2.1;omega)
     . rw[aO,qH0,hm,zK0,zK0];rfl
     . rw[aD (aX e hD)];exact S3 _ _ e
   rintro H3 ⟨hD3,S3⟩;rw[zF0,qF0]at hD3;let gl3:=S3 _ _ gl;erw[l,D,2,gl3,hD3,6,λo ho=>?_]
   . rw[zF0,zF0];exact cg (by have:=ok.2.1;show 1+r.ints.length<=1000;omega)
   let G4:=zC0 ho (.lst ([.str r.word]++(r.ints.map cv).map V.str));let s1:=qM ok;let s2:=jA r;let s3:=ok.2.1;erw[_,o,r.parts,1,1,zG0 (by rw[aO];rfl),4,3,6];rw[DE,sR];exact q _ (G1.trans (S3.trans G4))))),?_⟩
 let sk:∀w:Str,w="claims"∨w="say" -> ¬ V.str w=V.str "coin":=λw e=>by rcases e with z | z <;> rw[z] <;> decide
 cases T with
 | @coin a n e=>
   erw[0,a,_,(0),0,1,zB0 e,1,1,0,aV rfl ?_];erw[0,a,_,(1),0,1,zB0 e,1,y1S,λb hb=>?_];let G:=zC0 hb (.tup [.int n]);erw[a,b,.int n,.coin n,1,G _ _ e,aO,ok,λH' S=>q _ (G.trans S)]
 | @claims a b xs e e2=>
   erw[0,a,_,(0),0,1,zB0 e,1,1,0,ay (sk _ (.inl rfl)) ?_];erw[0,a,_,(1),0,1,zB0 e,1,a,b,.ref b,.claims xs,1,e,e2,ok,q]
 | @say a b xs e e2=>
   erw[0,a,_,(0),0,1,zB0 e,1,1,0,ay (sk _ (.inr rfl)) ?_];erw[0,a,_,(1),0,1,zB0 e,1,a,b,.ref b,.say xs,1,e,e2,ok,q]
instance spTalkT:∀(a:Addr)(tv:List V)(rs:List TR),vs=[.ref a]->H a=some (.tup tv)->TRsAt H tv rs->(∀r∈rs,r.ok)->rs.length<=25->(∀H',Same H H'->Q (.str (kA rs)) H'):=1
def rD:FnScope ["talk"] ["talk"] (ag iO):=%[|5]
def sx(F:#["talk_text",iO])(kK:#[1,"row_text",["row"],spRowT]):#[2,f,fd,["talk"],spTalkT]:=by
 exists rD
 erw[a,vs,rs,1,ha,R,ok,hl,q]at h;refine⟨_,(ad (aq (cW zS1 jQ1 jR0 sO aB (ae (cb (N:=[]) (ix:=[]) (cl:=[]) rfl
  #[5] rfl (fu (pv 0)) (λ_ _ _=>cD (ai kK hr ⋯ rfl %[0|aQ]))) aQ)))),?_⟩
 let vl:=R.len;erw[1,0,a,1,%[_|zB0 ha],λD hD=>?_];apply dN (K:=K) (xs:=vs) (λi H'=>H' D=some (.lst (((rs.take i).map TR.text).map V.str))/\Same H H') %[by rw[aO];rfl|zC0 hD _] (λi H' _ h=>zB0 (h.2 _ _ ha)) ?_ ?_
 . rintro i z H3 hz ⟨hD3,S3⟩;let hi:=(qD0 hz).1;let%[r,hr'|ra]:=R.nth hz;erw[0,z,r,1,ra.mono (bd S3),ok r (qG0 hr'),λH4 S4=>?_];erw[_,S4 _ _ hD3,6,Nx.of hi %[6|λb o e=>?_]]
   . rw[zF0,zF0,qI0];exact aN #[0]
   . rw[aO,qH0,hr',zK0,zK0];rfl
   . rw[aD (aX e hD)];exact S4 _ _ (S3 _ _ e)
 rintro H3 ⟨hD3,S3⟩;rw[vl,qF0]at hD3;let s1:=qC ok;erw[_,D,rs.map TR.text,1,1,zG0 hD3,⋯,6,6]
 . rw[zF0];omega
 rw[AS,sR];exact q _ S3
instance spTalkR:∀(r:TR)(k:Int),vs=[.str r.text,.int k]->r.ok->(∀v H',Same H H'->TRAt H' v r->Q v H'):=1
def EX(ss:List Str):PyData.eqv (.list (ss.map PyData.str)) (.list [])=decide (ss=[]):=by
 cases ss <;> simp [PyData.eqv,PyData.eqvAll]
def Ah{K:W.Frag}:∀ss:List Str,RepAll K H (ss.map V.str) (ss.map PyData.str)
 | []=>.nil
 |n::r=>.cons (.str n) (Ah r)
def wK:∀{ss:List Str},(∀x∈ss,∀c∈cd x,c<1000)->PyData.canLayAll0 (ss.map PyData.str)=true/\PyData.depthAll (ss.map PyData.str)<=1
 | [],_=>by simp [PyData.canLayAll0,PyData.depthAll]
 |r::rs,h=>by
   let h1:=zH (h r zW0);let h2:=wK λx hx=>h x (qK0 _ hx)
   simp only[zZ0,PyData.canLayAll0,PyData.depthAll,h2.1,PyData.canLay0,PyData.depth,h1];erw[1,3]
def qG{ss:List Str}(hs:∀x∈ss,∀c∈cd x,c<1000):SeqAt.shaped (.list (ss.map PyData.str))=true:=by
 let h:=wK hs;unfold SeqAt.shaped;rw[PyData.canLay0,h.1,wN0,jE1];show PyData.depthAll _+1<=64;omega
def BN{xs:List V}{k:Nat}(hk:k<=xs.length):hV xs (some (k:Int)) none=xs.drop k:=by
 unfold hV;rw[HT.sIx_none,HT.sIx_nat,Nat.min_eq_left hk];exact List.take_of_length_le (by rw[jG0];exact zH0 _)
def eG:FnScope ["text","number","words","word","figures","values"] WU (ag kg):=%[|5]
def tZ(F:#["talk_row",kg])(B:Bl mg)(bj:#[1,"is_figures",WC,spTxt jf]):#[2,f,fd,WU,spTalkR]:=by
 exists eG
 erw[r,k,1,ok,q]at h;refine⟨_,(aa #[am,2,eG,cW zS1 jM0 jM1 pJ (pv 0) %[aB|aQ]]
  (aa #[am,3,eG,aJ ix_list (pv 2) ac #[1]]
  (aa #[am,4,eG,eZ Cr (pv 2) (ee ac) jw]
  (aa (aG (PW.pt (dR (af (kt hr.units) (pv 4) (cP aQ) (ao _)) (dI (gy (dJ (aE (lx rfl) rfl B.all jC1 (ae (cb (N:=[]) (ix:=[]) (cl:=[]) rfl
   #[5] rfl (fL (pv 4)) (λ_ _ _=>cD (ai bj hr ⋯ rfl %[0|aQ]))) aQ))))))) (ad tQ) ax)
  (aa (am (i:=5) eG.nd rfl (.inl rfl) (bv bb rfl B.tuple bp (ae (cb (N:=[]) (ix:=[]) (cl:=[]) rfl
   #[5] rfl (fL (pv 4)) (λ_ _ _=>cD (bv gU rfl B.int jH %[0|aQ]))) aQ)))
  (aa (aG (PW.pt (dR (af aP (pv 3) aB (ao _)) (dI (af aP (pv 3) aB (ao _))))) (ad (aq (aM %[3,5|aQ]))) ax)
  (aa (aG (PW.pt (dR (af jN (pv 3) aB (ao _)) (dI (af gz (aE aF rfl B.len zB1 %[5|aQ]) ac (ao _))))) (ad tQ) ax)
  (ad (aq (aM %[3,aJ ix_tup (pv 5) ac #[1]|aQ])))))))))),?_⟩
 let tl:=tE ok;let pl:=jA r;let ps:=tU ok;let o5:=ok.2.1;rw[←DE]at ps;erw[0,1,2,⋯,3,by rw[ps];omega,λa ha=>?_];rw[ps];let Ga:=zC0 ha (.lst (r.parts.map V.str));let ga:upd H a (.lst (r.parts.map V.str)) a=some (.lst (r.parts.map V.str)):=aO;generalize upd H a (.lst (r.parts.map V.str))=H1 at Ga ga;erw[0,a,_,(0),.str r.word,1,1,zG0 ga,bw (j:=0) (by show((r.word::r.ints.map cv).map V.str)[0]?=_;simp),6];erw[0,(1),1,a,0,zG0 ga,λb hb=>?_];let ec:hV (r.parts.map V.str) (some 1) none=(r.ints.map cv).map V.str:=BN (k:=1) (by rw[zF0];omega);rw[ec];let Gb:=zC0 hb (.lst ((r.ints.map cv).map V.str));let gb:upd H1 b (.lst ((r.ints.map cv).map V.str)) b=some (.lst ((r.ints.map cv).map V.str)):=aO;generalize upd H1 b (.lst ((r.ints.map cv).map V.str))=H2 at Gb gb;erw[0,zQ0 _,λe he=>?_];let Ge:=zC0 he (.lst []);let ge:upd H2 e (.lst []) e=some (.lst []):=aO;generalize upd H2 e (.lst [])=H3 at Ge ge;let gb3:=Ge _ _ gb;refine⟨_,_,.lst (zG0 gb3) (Ah _),.lst (zG0 ge) .nil,qG (λx hx c hc=>by
  let%[m,hm|1]:=List.mem_map.mp hx
  have:=(gK (ok.2.2 m hm).1 c hc).2
  omega),qG (ss:=[]) (λx hx=>by cases hx),_,rfl,?_⟩
 rw[EX,zE1 (λz=>by let h1:=ok.1;rw[List.map_eq_nil_iff.mp z]at h1;exact absurd h1 ⋯)];apply cV ?_;erw[0,b,1,%[_|zG0 gb3],λD hD=>?_];apply hZ (K:=K) (xs:=(r.ints.map cv).map V.str) (λi H'=>H' D=some (.lst ((List.replicate i true).map V.bl))/\Same H3 H') %[by rw[aO];rfl|zC0 hD _] (λi H' _ h=>zG0 (h.2 _ _ gb3)) ?_ ?_
 . rintro i z H4 hz ⟨hD4,S4⟩;let hi:=(qD0 hz).1;rw[zX0]at hz;let%[x,hx|1]:=qP0 hz;let%[m,hm|1]:=List.mem_map.mp (qG0 hx);let bm:=ok.2.2 m hm;let ml:=pG bm.1 bm.2;erw[0,cv m,1,3,λH5 S5=>?_];rw[sJ bm.1 #[0]];erw[_,S5 _ _ hD4,6,Nx.of hi %[6|λb o e=>?_]]
   . rw[zF0,zU1];rw[zF0,zF0]at hi;exact aN #[0]
   . rw[aO,List.replicate_succ',zK0];rfl
   . rw[aD (aX e hD)];exact S5 _ _ (S4 _ _ e)
 rintro H4 ⟨hD4,S4⟩;erw[D,0,zG0 hD4,0,6];rw[show(List.replicate ((r.ints.map cv).map V.str).length true).all id=true from by simp];apply cV ?_;let gb4:=S4 _ _ gb3;erw[0,b,1,%[_|zG0 gb4],λD2 hD2=>?_];apply hZ (K:=K) (xs:=(r.ints.map cv).map V.str) (λi H'=>H' D2=some (.lst ((r.ints.take i).map V.int))/\Same H4 H') %[by rw[aO];rfl|zC0 hD2 _] (λi H' _ h=>zG0 (h.2 _ _ gb4)) ?_ ?_
 . rintro i z H5 hz ⟨hD5,S5⟩;let hi:=(qD0 hz).1;rw[zX0,zX0,Option.map_map]at hz;let%[m,hm|1]:=qP0 hz;let bm:=ok.2.2 m (qG0 hm);let ml:=pG bm.1 bm.2;erw[0,cv m,m,1,sI bm.1 #[0],3,6];erw[_,hD5,6,Nx.of hi %[6|λb o e=>?_]]
   . rw[zF0,qI0];exact aN #[0]
   . rw[aO,qH0,hm,zK0];rfl
   . rw[aD (aX e hD2)];exact S5 _ _ e
 rintro H5 ⟨hD5,S5⟩;rw[zF0,zF0,qF0]at hD5;erw[D2,0,.inl %[zG0 hD5|λt ht=>?_]];let Gt:=zC0 ht (.tup (r.ints.map V.int));let gt:upd H5 t (.tup (r.ints.map V.int)) t=some (.tup (r.ints.map V.int)):=aO;generalize upd H5 t (.tup (r.ints.map V.int))=H6 at Gt gt;let S06:Same H H6:=Ga.trans (Gb.trans (Ge.trans (S4.trans (S5.trans Gt))));cases r with
 |coin n=>
   erw[0,1,0,6];apply ay (by show ¬ V.str "coin"=V.str "claims";decide) ?_;erw[0,1,0,6];apply ay (by show ¬ V.str "coin"=V.str "say";decide) ?_;erw[0,1,0,6];apply mZ rfl ?_;erw[0,t,0,.inr (zB0 gt),2,0,6];apply ay (by show ¬ (1:Int)<1;decide) ?_;erw[0,0,t,_,(0),.int n,1,1,zB0 gt,1,y2S,λo ho=>?_];exact q _ _ (S06.trans (zC0 ho _)) (.coin aO)
 |claims ns=>
   erw[0,1,0,aV rfl (dL %[0,0,y2S|λo ho=>q _ _ (S06.trans (zC0 ho _)) (.claims aO (zC0 ho _ _ _ gt))])]
 |say ns=>
   erw[0,1,0,ay (by show ¬ V.str "say"=V.str "claims";decide) %[0,1,0|aV rfl %[0,0,y2S|λo ho=>q _ _ (S06.trans (zC0 ho _)) (.say aO (zC0 ho _ _ _ gt))]]]
instance spTalkRd:∀(rs:List TR),vs=[.str (kA rs)]->rs≠[]->(∀r∈rs,r.ok)->rs.length<=25->(∀(t:Addr)(tv:List V)(H':Hp),Same H H'->H' t=some (.tup tv)->TRsAt H' tv rs->Q (.ref t) H'):=1
def fe:FnScope ["text","talk","number","row"] WC (ag iP):=%[|5]
def sy(F:#["read_talk",iP])(B:Bl mg)(k9:#[2,"talk_row",WU,spTalkR]):#[3,f,fd,WC,spTalkRd]:=by
 exists fe
 erw[rs,1,c0,ok,hl,q]at h;refine⟨_,(aa (aG (af aP (pv 0) aB (ao _)) (ad (aq (aM aQ))) ax)
  (aa #[am,1,fe,cP aQ]
  (aa (cK zG1 rfl (wQ rfl B.enumerate (cW zS1 jM0 jM1 pJ (pv 0) %[aB|aQ])) (lW rfl (db (bg (i:=2) fe.nd rfl (.inl rfl)) (db (bg (i:=3) fe.nd rfl (.inl rfl)) jx))) (ad (aS (cW zC1 zH1 zI1 bV (pv 1) %[ai k9 hr ⋯ rfl %[3,2|aQ]|aQ]))))
  (ad (aq (bv bb rfl B.tuple bp %[1|aQ])))))),?_⟩
 let tl:=zy ok hl;erw[0,1,0,ay (λz=>?_) ?_]
 . cases rs with
   |nil=>exact c0 rfl
   |cons r rs=>exact xE (ok r zW0) (V.str.inj z)
 erw[zQ0 _,λL hL=>?_];let GL:=zC0 hL (.lst []);let gL:upd H L (.lst []) L=some (.lst []):=aO;generalize upd H L (.lst [])=H1 at GL gL;let ts:=uZ ok c0;rw[←AS]at ts;erw[0,1,2,⋯,3,by rw[ts,zF0];omega,λa ha=>?_];rw[ts];let Ga:=zC0 ha (.lst ((rs.map TR.text).map V.str));let ga:upd H1 a (.lst ((rs.map TR.text).map V.str)) a=some (.lst ((rs.map TR.text).map V.str)):=aO;let aL:a≠L:=λz=>by rw[z,gL]at ha;cases ha
 generalize upd H1 a (.lst ((rs.map TR.text).map V.str))=H2 at Ga ga;let gL2:=Ga _ _ gL;refine⟨a,rfl,%[_|zG0 ga],uE (K:=K) (xs:=(rs.map TR.text).map V.str) (λi σ H'=>∃(x2 x3:Option V)(vs:List V),σ=[some (.str (kA rs)),some (.ref L),x2,x3]/\H' L=some (.lst vs)/\TRsAt H' vs (rs.take i)/\SameBut L H2 H')
  %[_,_,[],1,gL2,trivial|SameBut.refl _ _] (λi σ H' _ JE=>by erw[_,_,_,_,_,_,h]at JE;exact zG0 (h _ _ aL ga)) ?_ ?_⟩
 . rintro i z σ H3 t hz ⟨x2,x3,vs,rfl,hL3,R3,S3⟩ ht;rw[zX0,zX0,Option.map_map]at hz;let%[r,hr'|1]:=qP0 hz;let Gt:=zC0 ht (.tup [.int (i:Int),.str r.text]);let vl:=R3.len;rw[qI0]at vl;erw[t,0,zB0 aO,1,_,0,2,6];erw[0,.inl %[1,_|zG0 (Gt _ _ hL3)],0,0,r,0,ok r (qG0 hr'),λv H4 S4 ra=>?_];let S34:Same H3 H4:=Gt.trans S4;let kp:bN H4 (upd H4 L (.lst (vs++[v]))):=λa xs e=>by
    rw[aD]
    . exact e
    . intro z;rw[z,S34 _ _ hL3]at e;cases e
   erw[L,2,S34 _ _ hL3,aN #[0],6];erw[_,_,vs++[v],1,aO,6,6]
   . rw[qH0,hr'];exact TRsAt.snoc (ra.mono kp) ((R3.mono (bd S34)).mono kp)
   . exact S3.trans ((zJ0 S34).trans (SameBut.upd _))
 . rintro σ H3 ⟨x2,x3,vs,rfl,hL3,R3,S3⟩;rw[zF0,zF0,qF0]at R3;erw[0,L,0,.inl %[zG0 hL3|λt ht=>?_]];let S03:Same H H3:=λb o e=>S3 b o (aX e hL) (Ga _ _ (GL _ _ e))
   exact q _ vs _ (S03.trans (zC0 ht _)) aO (R3.mono (bd (zC0 ht _)))
section
variable {C CM CA CG:Addr}
def TR.data:TR->PyData
 |.claims xs=>.tuple [.str "claims",.tuple (xs.map PyData.int)]
 |.say xs=>.tuple [.str "say",.tuple (xs.map PyData.int)]
 |.coin r=>.tuple [.str "coin",.int r]
def TRAt.rep{K:W.Frag}(h:TRAt H v r):Rep K H v r.data:=by
 cases h with
 |claims e e2=>exact .tup (zB0 e) (.cons (.str _) (.cons (.tup (zB0 e2) (hG _)) .nil))
 |say e e2=>exact .tup (zB0 e) (.cons (.str _) (.cons (.tup (zB0 e2) (hG _)) .nil))
 |coin e=>exact .tup (zB0 e) (.cons (.str _) (.cons (.int _) .nil))
def TRsAt.rep{K:W.Frag}:∀{vs:List V}{rs:List TR},TRsAt H vs rs->RepAll K H vs (rs.map TR.data)
 | [],[],_=>.nil
 |_::_,_::_,h=>.cons h.1.rep (TRsAt.rep h.2)
 | [],_::_,h=>h.elim
 |_::_,[],h=>h.elim
def tr_ok(r:TR):r.data.canLay0=true/\r.data.depth<=3:=by
 let w1:PyData.strOk "claims"=true:=by decide
 let w2:PyData.strOk "say"=true:=by decide
 let w3:PyData.strOk "coin"=true:=by decide
 cases r with
 |claims xs=>simp [TR.data,PyData.canLay0,PyData.depth,PyData.canLayAll0,PyData.depthAll,wB1,wM1,w1]
 |say xs=>simp [TR.data,PyData.canLay0,PyData.depth,PyData.canLayAll0,PyData.depthAll,wB1,wM1,w2]
 |coin n=>simp [TR.data,PyData.canLay0,PyData.depth,PyData.canLayAll0,PyData.depthAll,w3]
def zv:∀rs:List TR,PyData.canLayAll0 (rs.map TR.data)=true/\PyData.depthAll (rs.map TR.data)<=3
 | []=>by simp [PyData.canLayAll0,PyData.depthAll]
 |r::rs=>by
   let h1:=tr_ok r;let h2:=zv rs;simp only[zZ0,PyData.canLayAll0,PyData.depthAll,h1.1,h2.1];erw[1,3]
def Fk{a:Str×Option Int}(h:AwW a.1):(awD a).canLay0=true/\(awD a).depth<=1:=by
 let w:=h.ok;erw[x,o]at a;cases o <;> simp_all [awD,PyData.canLay0,PyData.depth,PyData.canLayAll0,PyData.depthAll]
def dG{a:Str×Option Int}(h:AwW a.1):SeqAt.shaped (awD a)=true:=by
 let h2:=Fk h;unfold SeqAt.shaped;rw[h2.1,wN0,jE1];omega
def jV(rs:List TR):SeqAt.shaped (.tuple (rs.map TR.data))=true:=by
 let h:=zv rs;unfold SeqAt.shaped;rw[PyData.canLay0,h.1,wN0,jE1];show PyData.depthAll _+1<=64;omega
def eK{d:PyData}(h:SeqAt.shaped d=true):PyData.eqv d d=true:=PySem.SeqAt.eqv_refl _ (SeqAt.canLay_of_shaped h)
def xF(k:GmK ns ts p)(n6:ns.length<=6):∀(n:Nat) (t:Tk) (cs:List Int),TkOk ns ts p t->cy cs p->bZ ns t.z<=n->((dH ns ts p rows cs n t).2.z.aw.1="caught"∨(dH ns ts p rows cs n t).2.z.aw.1="believed")/\(dH ns ts p rows cs n t).1.length<=n/\∀r∈(dH ns ts p rows cs n t).1,r.ok:=by
 let p2:=k.p2;let p9:=k.p9;let fin:∀{t:Tk},TkOk ns ts p t->¬ t.z.aw.1="hear" -> ¬ t.z.aw.1="coin" -> t.z.aw.1="caught"∨t.z.aw.1="believed":=λh a b=>by
  rcases h.gd.ww with c | c | c | c
  . exact absurd c a
  . exact absurd c b
  . exact .inl c
  . exact .inr c
 intro n
 induction n with
 |zero=>
   intro t cs h hc hs;erw[fin h (λz=>?_) (λz=>?_),zH0 _,λr hr=>by cases hr]
   . have:=(jo h (.inl z)).1
     omega
   . have:=(jo h (.inr z)).1
     omega
 |succ n ih=>
   intro t cs h hc hs
   by_cases ch:t.z.aw.1="hear"
   . rw [jW ch];let%[o,l|_]:=h.ask (rows:=rows) k n6 ch;let%[h1,h2|h3]:=ih _ cs o hc #[0];let ho:=h.hear (rows:=rows) k n6 ch;let x0:=h.gd.hear_ne k ho;erw[h1,zF1 h2,λr hr=>?_];rcases zV0 hr with rfl | hr
     . erw[wG0 λz=>x0 (List.length_eq_zero_iff.mp z),ho.x5,λx hx=>?_]
       have:=ho.xo x hx
       omega
     . exact h3 r hr
   . by_cases cc:t.z.aw.1="coin"
     . rw [jX cc];obtain⟨r0,r1⟩:0<=cs.headD 0/\cs.headD 0<p:=by
        cases cs with
        |nil=>show(0:Int)<=0/\(0:Int)<p;omega
        |cons c cs=>exact hc c zW0
       let%[o,l|_]:=h.toss k cc r0 r1;let%[h1,h2|h3]:=ih _ cs.tail o (λx hx=>hc x (List.mem_of_mem_tail hx)) #[0];erw[h1,zF1 h2,λr hr=>?_];rcases zV0 hr with rfl | hr
       . erw[zH0 1,by show 1<=500;decide,λx hx=>?_];rw[zP0 hx];omega
       . exact h3 r hr
     . rw[lC ch cc];erw[fin h ch cc,zQ0 _,λr hr=>by cases hr]
def xG(k:GmK ns ts p)(n6:ns.length<=6)(hc:cy cs p):((jK ns ts p rows cs).2.z.aw.1="caught"∨(jK ns ts p rows cs).2.z.aw.1="believed")/\(jK ns ts p rows cs).1.length<=21/\(∀r∈(jK ns ts p rows cs).1,r.ok)/\(jK ns ts p rows cs).1≠[]:=by
 let%[ok,ea,ho|_]:=sM (rows:=rows) k n6;let%[o,l|_]:=sL (rows:=rows) k n6;let%[h1,h2|h3]:=xF (rows:=rows) k n6 20 _ cs o hc #[0];let p9:=k.p9;let x0:=(Gd.new k).hear_ne k ho;erw[h1,zF1 h2,λr hr=>?_,jS1 _ _];rcases zV0 hr with rfl | hr
 . erw[wG0 λz=>x0 (List.length_eq_zero_iff.mp z),ho.x5,λx hx=>?_]
   have:=ho.xo x hx
   omega
 . exact h3 r hr
def pU{z:Db}(h:z.aw.1="caught"∨z.aw.1="believed"):BC z=awV z.aw:=by
 apply Jy λc=>?_
 rcases h with h | h <;> rw[h]at c <;> rcases c with c | c <;> revert c <;> decide
def BA{z:Db}(h:z.aw.1="hear"∨z.aw.1="coin"):BC z=[.str "open"]:=JB h
def TRsAt.take:∀{vs:List V}{rs:List TR}(k:Nat),TRsAt H vs rs->TRsAt H (vs.take k) (rs.take k)
 | [],[],k,h=>by rw[List.take_nil,List.take_nil];exact h
 |_::_,_::_,0,_=>trivial
 |_::_,_::_,k+1,h=>%[h.1|TRsAt.take k h.2]
 | [],_::_,_,h=>h.elim
 |_::_,[],_,h=>h.elim
def Fd{xs:List V}{k:Nat}(hk:k<=xs.length):hV xs none (some (k:Int))=xs.take k:=by
 unfold hV;rw[HT.sIx_none,HT.sIx_nat,Nat.min_eq_left hk];rfl
def lX:SeqAt.shaped (.tuple [.str "open"])=true:=by decide
instance spRight(CG:Addr):∀(g h c:Addr)(rv:List V)(rows:List Hr)(ns:List Str)(ts:List Tr)(p:Int)(cs:List Int),vs=[.ref g,.ref h,.ref c]->Gm CG H g ns ts p->GmK ns ts p->ns.length<=6->H h=some (.tup rv)->RowsAt H rv rows->(∀r∈rows,r.good)->IntsAt H c cs->cy cs p->ns.length+(if 1<ts.length then 1 else 0)<=cs.length->cs.length<=100->(∀H',Same H H'->Q (.bl true) H'):=1
structure WR50(CG:Addr)(H:Hp)(g b e:Addr)(tv:List V)(ns:List Str)(ts:List Tr)(p:Int)(rs:List TR)(z:Db):Prop where
 G:Gm CG H g ns ts p
 hb:H b=some (.tup tv)
 TV:TRsAt H tv rs
 he:H e=some (.tup (awV z.aw))
def WR50.same(w:WR50 CG H g b e tv ns ts p rs z)(s:Same H H'):WR50 CG H' g b e tv ns ts p rs z:=%[w.G.same s,s _ _ w.hb,w.TV.mono (bd s)|s _ _ w.he]
structure PR50(ns:List Str)(ts:List Tr)(p:Int)(rs:List TR)(z:Db):Prop where
 k:GmK ns ts p
 ok:fO ns ts p true (Db.new ts) rs
 fd:rs.foldl (eJ ns ts p) (Db.new ts)=z
 en:z.aw.1="caught"∨z.aw.1="believed"
 le:rs.length<=21
 rk:∀r∈rs,r.ok
 ne:rs≠[]
def PR50.ww(h:PR50 ns ts p rs z):AwW z.aw.1:=.inr (.inr h.en)
instance tR50(CG:Addr)(D:Ends)(σ:St)(H:Hp):∀(g b e:Addr)(x1 x2 x5 x6 x7:Option V)(tv:List V)(ns:List Str)(ts:List Tr)(p:Int)(rs:List TR)(z:Db),σ=[some (.ref g),x1,x2,some (.ref b),some (.ref e),x5,x6,x7]->WR50 CG H g b e tv ns ts p rs z->PR50 ns ts p rs z->(∀H',Same H H'->D.rt (.bl true) H'):=0
def eD:FnScope ["_law_game_here","_law_helper_here","_law_coins_here","_law_talk","_law_end","_law_found","_law_k","_law_again"] Wy (ag lI):=%[|5]
def bc_in{o:Str}(h:o="caught"∨o="believed"):inV (.str o) [.str "believed",.str "caught"]=true:=by rcases h with h | h <;> rw[h] <;> decide
def vL(F:#["_law_right",lI])(B:Bl mg)(v9:#[27,"talked",Wv,spTalked C CM CG])(fQ:#[23,"judged",["game","talk"],spJudged C CG])(jr:#[2,"talk_text",["talk"],spTalkT])(jI:#[3,"read_talk",WC,spTalkRd]):#[28,f,fd,Wy,spRight CG]:=by
 exists eD
 erw[g,h,c,rv,rows,ns,ts,p,cs,1,G,k,n6,hh,RW,rg,hc,co,c1,c2,q]at h;refine⟨_,(aa (lT (ai v9 hr ⋯ rfl %[0,1,2|aQ]) (lW rfl (db (bg (i:=3) eD.nd rfl (.inl rfl)) (db (bg (i:=4) eD.nd rfl (.inl rfl)) jx))))
  (dO (t':=tR50 CG) (aa #[am,5,eD,ai fQ hr ⋯ rfl %[0,3|aQ]]
  (aa (aG (PW.pt (dR (af (vJ hr.units) (pv 5) (pv 4) (ao _)) (dR (gy (dJ (aE ji rfl B.isinstance qZ1 %[5,su (v:=V.ty "tuple") rfl B.tuple bp rfl|aQ]))) (dI (af kU (aJ ix_tup (pv 5) ac #[1]) (aM %[aB,aB|aQ]) (by rfl')))))) (ad (aq hR)) ax)
  (dO (t':=tR50 CG) (aa (cK zG1 rfl (cu rfl B.range %[aE aF rfl B.len zB1 %[3|aQ]|aQ]) (bg (i:=6) eD.nd rfl (.inl rfl)) (ad (aG (af (vJ hr.units) (ai fQ hr ⋯ rfl %[0,eZ Cq (pv 3) jw (ee (pv 6))|aQ]) (aM %[aB|aQ]) (ao _)) (ad (aq hR)) ax)))
  (dO (t':=tR50 CG) (aa #[am,7,eD,ai jI hr ⋯ rfl %[ai jr hr ⋯ rfl %[3|aQ]|aQ]]
  (ad (aq (pA (dq (kt hr.units) (pv 7) (pv 3) (ao _)) (pA (dq (kt hr.units) (ai fQ hr ⋯ rfl %[0,7|aQ]) (pv 4) (ao _)) (pw (dq (kt hr.units) (ai fQ hr ⋯ rfl %[0,3|aQ]) (pv 4) (ao _)))))))) ?cC)) ?cB))) ?cA)),?_⟩
 case cA=>
  rintro D σ H ⟨g,b,e,x1,x2,x5,x6,x7,tv,ns,ts,p,rs,z,rfl,W,R,q⟩;erw[0,0,g,b,tv,rs,ns,ts,p,1,W.G,R.k,W.hb,W.TV,R.ok,λa H1 S1 ha=>?_];rw[R.fd,pU R.en]at ha;let W1:=W.same S1;erw[0,0,_,_,lR ha,lR W1.he,dG R.ww,dG R.ww,0,6];rw[eK (dG R.ww)];apply cV ?_;erw[0,_,_,"tuple",true,1,TyOf.tup ha,uv _ _,0,cV ?_];erw[0,a,_,(0),0,1,zB0 ha,BS _,y2S,λc1 hc1=>?_];let I1:=zC0 hc1 (.tup [.str "believed",.str "caught"]);erw[c1,0,.inr (zB0 aO),1,1,0,6];rw[bc_in R.en];apply cV ?_;erw[g,b,e,x1,x2,_,x6,x7,tv,ns,ts,p,rs,z,1,W1.same I1,R,λH' S'=>q H' (S1.trans (I1.trans S'))]
 case cB=>
  rintro D σ H ⟨g,b,e,x1,x2,x5,x6,x7,tv,ns,ts,p,rs,z,rfl,W,R,q⟩;let tl:=W.TV.len;let le:=R.le;erw[0,b,0,.inr (zB0 W.hb),0,3,3,dU (λi σ H'=>∃x6:Option V,σ=[some (.ref g),x1,x2,some (.ref b),some (.ref e),x5,x6,x7]/\Same H H') %[0|Same.refl H] ?_ ?_]
  . rintro i σ H1 hi ⟨x6,rfl,S1⟩;let W1:=W.same S1;let hi':i<rs.length:=#[0]
    erw[0,0,0,0,b,tv,1,zB0 W1.hb,W1.hb,λt H2 S2 ht=>?_];rw[jI1,Fd #[0]]at ht;let W2:=W1.same S2;erw[g,t,_,rs.take i,ns,ts,p,1,W2.G,R.k,ht,W2.TV.take i,om rs true _ i R.ok,λa H3 S3 ha=>?_];rw[BA (oo rs true _ i R.ok hi')]at ha;erw[y1S,λo ho=>?_];let I4:=zC0 ho (.tup [.str "open"]);erw[_,_,.tup (zB0 (I4 _ _ ha)) (.cons (.str _) .nil),.tup (zB0 aO) (.cons (.str _) .nil),lX,lX,0,6];rw[eK lX];exact cV ⟨_,rfl,S1.trans (S2.trans (S3.trans I4))⟩
  . rintro σ H1 ⟨x6,rfl,S1⟩;erw[g,b,e,x1,x2,_,_,x7,tv,ns,ts,p,rs,z,1,W.same S1,R,λH' S'=>q H' (S1.trans S')]
 case cC=>
  rintro D σ H ⟨g,b,e,x1,x2,x5,x6,x7,tv,ns,ts,p,rs,z,rfl,W,R,q⟩;let le:=R.le;erw[0,b,tv,rs,1,W.hb,W.TV,R.rk,3,λH1 S1=>?_];erw[rs,1,R.ne,R.rk,3,λt tv2 H2 S2 ht T2=>?_];let W2:=(W.same S1).same S2;erw[0,0,_,_,.tup (zB0 ht) T2.rep,.tup (zB0 W2.hb) W2.TV.rep,jV _,jV _,0,6];rw[eK (jV _)];apply dL ?_;erw[0,0,g,t,tv2,rs,ns,ts,p,1,W2.G,R.k,ht,T2,R.ok,λa H3 S3 ha=>?_];rw[R.fd,pU R.en]at ha;let W3:=W2.same S3;erw[0,_,_,lR ha,lR W3.he,dG R.ww,dG R.ww,0,6];rw[eK (dG R.ww)];apply dL ?_;erw[0,0,g,b,tv,rs,ns,ts,p,1,W3.G,R.k,W3.hb,W3.TV,R.ok,λa H4 S4 ha=>?_];rw[R.fd,pU R.en]at ha;erw[0,_,_,lR ha,lR (W3.same S4).he,dG R.ww,dG R.ww,6];rw[eK (dG R.ww)];exact q _ (S1.trans (S2.trans (S3.trans S4)))
 let%[en,le,rk|ne]:=xG (rows:=rows) k n6 co;let%[ok|fd']:=Ch (rows:=rows) k n6 co;erw[0,0,0,g,h,c,rv,rows,ns,ts,p,cs,1,G,k,n6,hh,RW,rg,hc,co,c1,c2,λa H1 S1 Td=>?_];erw[b,e,tv,h1,h2,h3,h4]at Td.ex;erw[a,0,zB0 h1,1,_,0,2,6];erw[g,b,e,_,_,_,_,_,tv,ns,ts,p,_,0,%[G.same S1,h2,h3|h4],%[k,ok,fd',en,le,rk|ne],λH' S'=>q H' (S1.trans S')]
end
section
variable {C CM CA CG:Addr}
def hB(x:Str):List Hr:=[.set x (.num 0),.say (.ask "true" (.box x)),.set x (.op "+" (.box x) (.num 1)),.go 1]
end
def uA:List Hr:=hB "i"
def yN:rh uA:=by
 erw[4,λr hr=>?_];unfold uA hB at hr;simp only[List.mem_cons,wP1,or_false]at hr;let ni:NmK "i":=by unfold NmK;decide
 rcases hr with rfl | rfl | rfl | rfl
 . erw[ni,%[4|4],4,4]
 . erw[%[4|ni],4,4]
 . erw[ni,%[4,ni,4|4],4,4]
 . erw[4,4]
def yM:ng uA="set i 0\nsay (true i)\nset i (+ i 1)\ngo 1":=by decide
instance spHonest:vs=[]->(∀(a:Addr)(tv:List V)(H':Hp),H' a=some (.tup tv)->RowsAt H' tv uA->Same H H'->Q (.ref a) H'):=1
def xN:FnScope [] [] (ag oP):=%[|5]
def ym(F:#["honest",oP])(X:∃t,mg "HONEST_ROWS"=some (.str ("set i 0\nsay (true i)\nset i (+ i 1)\ngo 1":Str) t))(gg:#[21,"read_helper",WC,spReadH]):#[22,f,fd,[],spHonest]:=by
 exists xN
 erw[1,q]at h;erw[t,gx]at X;erw[_,(ad (aq (ai gg hr ⋯ rfl %[cY (v:=.str ("set i 0\nsay (true i)\nset i (+ i 1)\ngo 1":Str)) rfl gx %[|0]|aQ]))),6];erw[uA,by rw[yM];rfl,yN,q]
def Dl:∀r∈uA,r.good:=by
 intro r hr;unfold uA hB at hr;simp only[List.mem_cons,wP1,or_false]at hr;rcases hr with rfl | rfl | rfl | rfl
 . erw[trivial,4]
 . erw[%[4|trivial],4]
 . erw[%[4,trivial|trivial],4]
 . exact(by decide:(0:Int)<=1)
section
variable {C CM CA CG:Addr}
structure Drn(H:Hp)(dr a b:Addr)(tv:List V)(ns:List Str)(ts:List Tr)(p:Int):Prop where
 hd:H dr=some (.tup [.ref a,.ref b,.int p])
 ha:H a=some (.tup (ns.map V.str))
 hb:H b=some (.tup tv)
 TS:TreesAt H tv ts
 k:GmK ns ts p
 nd:ns.Nodup
 n6:ns.length<=6
 nm:∀x∈ns,qf x
def Drn.mono(w:Drn H dr a b tv ns ts p)(s:bN H H'):Drn H' dr a b tv ns ts p:=%[s _ _ w.hd,s _ _ w.ha,s _ _ w.hb,w.TS.mono s,w.k,w.nd,w.n6|w.nm]
instance spSGame:∀f:Addr,vs=[.ref f]->FeedAt H f->(∀(dr a b:Addr)(tv:List V)(ns:List Str)(ts:List Tr)(p:Int)(H':Hp),Drn H' dr a b tv ns ts p->FeedAt H' f->SameBut f H H'->Q (.ref dr) H'):=1
def eE:FnScope ["_law_feed_here","_law_form","_law_most","_law_room"] ["_law_feed_here"] (ag gQ):=%[|5]
def pF(F:#["_law_some_game",gQ])(B:Bl mg)(a7:#[1,"_law_take",WD,spTake])(w6:#[14,"_law_game",Wt,spGame]):#[15,f,fd,["_law_feed_here"],spSGame]:=by
 exists eE
 erw[f,1,F0,q]at h;refine⟨_,(aa #[am,1,eE,ai a7 hr ⋯ rfl %[0,ac|aQ]]
  (aa (lT (aJ ix_list (cP %[aM %[ac,ac|aQ],aM %[ac,ac|aQ],aM %[ac,ac|aQ]|aQ]) (aE (jG rfl) rfl B.max zZ1 %[ac,au bc (pv 1) ac|aQ]) #[1]) (lW rfl (db (bg (i:=2) eE.nd rfl (.inl rfl)) (db (bg (i:=3) eE.nd rfl (.inl rfl)) jx))))
  (ad (aq (ai w6 hr ⋯ rfl %[0,2,3|aQ]))))),?_⟩
 let s2:2<=sizeLine:=by decide
 let s3:3<=sizeLine:=by decide
 erw[0,f,(8),1,F0,4,4,λz H1 z0 z1 F1 B1=>?_];erw[s2,λt1 h1=>%[s2|λt2 h2=>%[s2|λt3 h3=>%[s3|λl hl=>?_]]]];let I1:=zC0 h1 (.tup [.int 4,.int 8]);let I2:=zC0 h2 (.tup [.int 6,.int 4]);let I3:=zC0 h3 (.tup [.int 2,.int 30]);let I4:=zC0 hl (.lst [.ref t1,.ref t2,.ref t3]);let J3:=I3.trans I4;let J2:=I2.trans J3;let JJ:=I1.trans J2;let e1:=J2 _ _ (aO (a:=t1));let e2:=J3 _ _ (aO (a:=t2));let e3:=I4 _ _ (aO (a:=t3));let e4:upd (upd (upd (upd H1 t1 (.tup [.int 4,.int 8])) t2 (.tup [.int 6,.int 4])) t3 (.tup [.int 2,.int 30])) l (.lst [.ref t1,.ref t2,.ref t3]) l=_:=aO;generalize upd (upd (upd (upd H1 t1 (.tup [.int 4,.int 8])) t2 (.tup [.int 6,.int 4])) t3 (.tup [.int 2,.int 30])) l (.lst [.ref t1,.ref t2,.ref t3])=H2 at JJ e1 e2 e3 e4;erw[0,2,_,0,6];obtain⟨t,m,r,et,ht,m0,m6,r1,r30⟩:∃(t:Addr)(m r:Int),atI [V.ref t1,V.ref t2,V.ref t3] (if z-5>0 then z-5 else 0)=some (.ref t)/\H2 t=some (.tup [.int m,.int r])/\0<=m/\m<=6/\1<=r/\r<=30:=by
  by_cases c:z-5>0
  . rw [JB c]
    by_cases c2:z=6
    . subst c2;erw[t2,(6),(4),1,e2,4,4,4,4]
    . obtain rfl:z=7:=#[0]
      erw[t3,(2),(30),1,e3,4,4,4,4]
  . rw[Jy c];erw[t1,(4),(8),1,e1,4,4,4,4]
 erw[l,_,2,zG0 e4,et,6];erw[t,0,zB0 ht,1,_,0,2,6];erw[0,0,0,f,m,r,1,F1.same JJ,m0,m6,r1,r30,λdr a b ns tv ts p H3 hdr ha nl snok nd hb TS tl1 tl4 tok pp p3 p9 tp tc F3 S3=>?_];let k:GmK ns ts p:=%[pp,p3,p9,3,tl1,3,λt ht=>%[(tok t ht).1,Tr.ok_wf snok t (tok t ht).1,by have:=(tok t ht).2.1;omega|by have:=(tok t ht).2.2;omega],tp|tc]
 exact q dr a b tv ns ts p H3 %[hdr,ha,hb,TS,k,nd,3|snok] F3 (B1.trans ((zJ0 JJ).trans S3))
instance spGreat:∀(dr a b:Addr)(tv:List V)(ns:List Str)(ts:List Tr)(p:Int),vs=[.ref dr]->Drn H dr a b tv ns ts p->(∀(c:Bool)(H':Hp),Same H H'->Q (.bl c) H'):=1
def qi:FnScope ["_law_told"] ["_law_told"] (ag iq):=%[|5]
def qp(F:#["_law_is_great",iq])(B:Bl mg)(b7:#[12,"_law_names_of",WK,spNO 10]):#[13,f,fd,["_law_told"],spGreat]:=by
 exists qi
 erw[dr,a,b,tv,ns,ts,p,1,W,q]at h;refine⟨_,(ad (aq (DH (dq gz (aE aF rfl B.len zB1 %[aJ ix_tup (pv 0) ac #[1]|aQ]) ac (ao _)) (pw (dq gz (aE (mq rfl) rfl B.max zZ1 (ae (cb (N:=[]) (ix:=[]) (cl:=[]) rfl
  #[5] rfl (fu (aJ ix_tup (pv 0) ac #[1])) (λ_ _ _=>cD (aE (zg K) rfl B.len zB1 %[ai b7 hr ⋯ rfl %[0|aQ]|aQ]))) aQ)) ac (ao _)))))),?_⟩
 let tl:=W.TS.length;let t1:=W.k.t1;let t10:=W.k.t10;erw[0,dr,_,(0),0,1,zB0 W.hd,1,a,0,.inr (zB0 W.ha),2,0,6]
 by_cases c:((ns.map V.str).length:Int)>4
 . exact aV c (q _ _ (Same.refl H))
 apply ay c ?_;erw[0,dr,_,(1),0,1,zB0 W.hd,1,b,1,%[_|zB0 W.hb],λD hD=>?_];apply dN (K:=K) (xs:=tv) (λi H'=>∃xs:List Int,H' D=some (.lst (xs.map V.int))/\xs.length=i/\Same H H') %[[],aO,1|zC0 hD _] (λi H' _ JE=>by erw[_,_,_,h]at JE;exact zB0 (h _ _ W.hb)) ?_ ?_
 . rintro i z H3 hz ⟨xs,hD3,xl,S3⟩;let hi:=(qD0 hz).1;let%[t,ht|ta]:=W.TS.get hz;let tk:=W.k.tok t (qG0 ht);erw[0,z,t,1,ta.mono (bd S3),tk.2.1,tk.2.2.1,tk.2.2.2,λl H4 l0 S4 hl=>?_];erw[l,0,.inl (zG0 hl),6];erw[_,S4 _ _ hD3,6,Nx.of hi %[xs++[_],by rw[aO,zK0];rfl,by rw[zL0,xl];rfl|λb o e=>?_]]
   . rw[zF0];exact aN #[0]
   . rw[aD (aX e hD)];exact S4 _ _ (S3 _ _ e)
 rintro H3 ⟨xs,hD3,xl,S3⟩;erw[D,xs,1,zG0 hD3,λz=>?_,2,q _ _ S3];rw[z]at xl
 simp at xl
 omega
instance spSHelp(K:W.Frag):∀(a:Addr)(sn:List Int)(c:Bool),vs=[.ref a,.bl c]->SqL K H a (sn.map V.int)->sn.length<=63->(∀(h:Addr)(rv:List V)(rows:List Hr)(H':Hp),Same H H'->H' h=some (.tup rv)->RowsAt H' rv rows->(∀r∈rows,r.good)->Q (.ref h) H'):=1
instance tSH50(Dn:Ends)(σ:St)(H:Hp):∀(f b:Addr)(x0 x1:Option V)(bs:List Str)(z:Int)(H0:Hp),σ=[x0,x1,some (.ref b),some (.ref f),some (.int z)]->Same H0 H->H0 f=none->FeedAt H f->H b=some (.lst (bs.map V.str))->b≠f->bs.length=3->(∀(h:Addr)(rv:List V)(rows:List Hr)(H':Hp),Same H0 H'->H' h=some (.tup rv)->RowsAt H' rv rows->(∀r∈rows,r.good)->Dn.rt (.ref h) H'):=0
def cG:FnScope ["_law_script","_law_great","_law_boxes","_law_feed_here","_law_form"] Wz (ag fq):=%[|5]
def me(F:#["_law_some_helper",fq])(dY:#[1,"_law_feed",Wf,spFeed K])(a7:#[1,"_law_take",WD,spTake])(eX:#[2,"_law_names",WD,spNamesN])
 (w8:#[22,"honest",[],spHonest])(lh:#[8,"_law_helper",Ww,spHelp])(y4:#[2,"_law_liar",Wx,spLiar]):#[23,f,fd,Wz,spSHelp K]:=by
 exists cG
 erw[a,sn,c,1,hS,h63,q]at h;refine⟨_,(aa #[am,2,cG,ai eX hr ⋯ rfl %[ai dY hr ⋯ rfl %[0,ac|aQ],ac|aQ]]
  (aa #[am,3,cG,ai dY hr ⋯ rfl %[0,ac|aQ]]
  (aa #[am,4,cG,ai a7 hr ⋯ rfl %[ai dY hr ⋯ rfl %[0,ac|aQ],ac|aQ]]
  (aa (aG (PW.pt (lS (dJ (pv 1)) (kN (af aP (pv 4) ac (ao _))))) (ad #[am,4,cG,ac]) ax)
  (dO (t':=tSH50) (aa (aG (af aP (pv 4) ac (ao _)) (ad (aq (CJ w8 hr ⋯ rfl))) ax)
  (aa (aG (af aP (pv 4) ac (ao _)) (ad (aq (ai lh hr ⋯ rfl %[3,2,ac|aQ]))) ax)
  (ad (aq (ai y4 hr ⋯ rfl %[3,aJ ix_list (pv 2) ac #[1]|aQ]))))) ?cA))))),?_⟩
 case cA=>
  rintro Dn σ H ⟨f,b,x0,x1,bs,z,H0,rfl,S,f0,FH,hb,nb,b3,q⟩;let but:∀{H':Hp},SameBut f H H'->Same H0 H':=λB c o e=>B _ _ (aX e f0) (S _ _ e)
  erw[0,1,0,6]
  by_cases c:z=0
  . apply aV (congrArg V.int c) ?_;erw[1,λa tv H' ha R S'=>q a tv uA H' (S.trans S') ha R Dl]
  apply ay (λy=>c (V.int.inj y)) ?_;erw[0,1,0,6]
  by_cases c:z=1
  . apply aV (congrArg V.int c) ?_;erw[0,0,f,b,bs,(10),1,FH,hb,nb,3,3,4,4,λh rv rows H' h1 h2 h3 _ B=>q h rv rows H' (but B) h1 h2 h3]
  apply ay (λy=>c (V.int.inj y)) ?_;obtain⟨x,ex⟩:∃x,atI (bs.map V.str) 0=some (.str x):=by
   cases bs with
   |nil=>cases b3
   |cons x r=>erw[x,bw (j:=0) rfl]
  erw[0,0,b,_,(0),0,1,zG0 hb,ex,f,x,1,FH,λh rv rows H' h1 h2 h3 _ B=>q h rv rows H' (but B) h1 h2 h3]
 erw[0,a,sn,(3),1,hS,h63,4,4,λf3 H1 f30 S1 F1=>?_];erw[f3,(3),1,F1,4,4,λb bs H2 b0 bf hb bl _ _ F2 S2=>?_];let T2:Same H H2:=Same.but S1 f30 S2;erw[0,a,sn,(2),1,T2.seq hS,h63,4,4,λf2 H3 f20 S3 F3=>?_];let T3:=T2.trans S3;erw[0,a,sn,(4),1,T3.seq hS,h63,4,4,λf4 H4 f40 S4 F4=>?_];erw[f4,(4),1,F4,4,4,λz H5 z0 z1 F5 S5=>?_];let T45:Same H3 H5:=Same.but S4 f40 S5;let hb5:=T45 _ _ (S3 _ _ hb);let nb:=aX hb f20;let fin:∀y:Int,tSH50 { nx:=λ_ H'=>Q .non H',rt:=Q } [some (.ref a),some (.bl c),some (.ref b),some (.ref f2),some (.int y)] H5:=λy=>%[f2,b,_,_,bs,y,H,1,T3.trans T45,T2.free f20,F3.same T45,hb5,nb,bl|q]
 erw[0,c,1,6];cases c with
 |false=>exact cV (fin z)
 |true=>
   apply dL %[0,1,0|6]
   by_cases c:z=1
   . exact aV (congrArg V.int c) (fin 0)
   . exact ay (λy=>c (V.int.inj y)) (fin z)
end
instance spLCoins:∀(f dr a b:Addr)(p m:Int),vs=[.ref f,.ref dr,.int m]->FeedAt H f->H dr=some (.tup [.ref a,.ref b,.int p])->2<p->p<=999983->0<=m->m<=20->(∀(l:Addr)(cs:List Int)(H':Hp),H l=none->H' l=some (.lst (cs.map V.int))->(cs.length:Int)=m->cy cs p->FeedAt H' f->SameBut f H H'->Q (.ref l) H'):=1
def vk:FnScope Wq Wq (ag lK):=%[|5]
def vO(F:#["_law_coins",lK])(B:Bl mg)(a7:#[1,"_law_take",WD,spTake]):#[2,f,fd,Wq,spLCoins]:=by
 exists vk
 erw[f,dr,a,b,p,m,1,F0,hd,p2,p9,m0,m1,q]at h;refine⟨_,(ad (aq (cb (N:=["_law_feed_here","_law_game_here"]) (ix:=[0,1]) rfl
  #[4] rfl
  (cu rfl B.range %[2|aQ]) (λ_ _ _=>cD (aJ (ux K) (cP %[ai a7 hr ⋯ rfl %[1,aJ (wV K) (pv 2) ac #[1]|aQ],ai a7 hr ⋯ rfl %[1,ac|aQ],au bc (aJ (wV K) (pv 2) ac #[1]) ac|aQ]) (ai a7 hr ⋯ rfl %[1,ac|aQ]) #[1]))))),?_⟩
 erw[0,0,3,3,λD hD=>?_];let Df:D≠f:=F0.ne hD;apply dP (λi H'=>∃cs:List Int,H' D=some (.lst (cs.map V.int))/\cs.length=i/\cy cs p/\FeedAt H' f/\SameBut f H H') %[[],by rw[aO];rfl,1,(λx hx=>by cases hx),F0.same (zC0 hD _)|zJ0 (zC0 hD _)] ?_ ?_
 . rintro i H1 hi ⟨cs,hc,cl,co,F1,S1⟩;let hd1:=S1 _ _ (sN F0 hd (by intro ys z;cases z)) hd;erw[0,0,dr,_,(2),0,1,zB0 hd1,1,f,p,1,F1,3,3,λd1 H2 a0 a1 F2 B2=>?_];let hd2:=B2 _ _ (sN F1 hd1 (by intro ys z;cases z)) hd1;erw[0,f,(2),1,F2,4,4,λd2 H3 b0 b1 F3 B3=>?_];let hd3:=B3 _ _ (sN F2 hd2 (by intro ys z;cases z)) hd2;erw[0,dr,_,(2),0,1,zB0 hd3,1,2,y3S,λL hL=>?_];let IL:=zC0 hL (.lst [.int d1,.int d2,.int (p-1)]);let eL:upd H3 L (.lst [.int d1,.int d2,.int (p-1)]) L=some (.lst [.int d1,.int d2,.int (p-1)]):=aO;let Lf:L≠f:=F3.ne hL;generalize upd H3 L (.lst [.int d1,.int d2,.int (p-1)])=H4 at IL eL;erw[0,f,(3),1,F3.same IL,4,4,λd3 H5 c0 c1 F5 B5=>?_];let eL5:=B5 _ _ Lf eL;let S5:SameBut f H1 H5:=B2.trans (B3.trans ((zJ0 IL).trans B5));let hc5:=S5 _ _ Df hc;let fin:∀r:Int,0<=r->r<p->∃ys,H5 D=some (.lst ys)/\ys.length<sizeLine/\Nx m.toNat i (λi H'=>∃cs:List Int,H' D=some (.lst (cs.map V.int))/\cs.length=i/\cy cs p/\FeedAt H' f/\SameBut f H H') (upd H5 D (.lst (ys++[.int r]))):=λr r0 r1=>by
    erw[_,hc5,aN (by rw[zF0];omega),Nx.of hi ⟨cs++[r],by rw[aO,zK0];rfl,by rw[zL0,cl];rfl,λx hx=>?_,?_,λc o h e=>?_⟩]
    . rcases qJ0 hx with h | h
      . exact co x h
      . rw[zP0 h];erw[r0,r1]
    . erw[x,t,e,rr]at F5;erw[x,t,by rw[aD Df.symm];exact e,rr]
    . rw[aD (aX e hD)];exact S5 _ _ h (S1 _ _ h e)
   have:d3=0∨d3=1∨d3=2:=#[0]
   rcases this with rfl | rfl | rfl
   . erw[L,_,(0),.int d1,1,1,zG0 eL5,1,fin d1 a0 a1]
   . erw[L,_,(1),.int d2,1,1,zG0 eL5,1,fin d2 b0 #[0]]
   . erw[L,_,(2),.int (p-1),1,1,zG0 eL5,1,fin (p-1) #[0] #[0]]
 . rintro H1 ⟨cs,hc,cl,co,F1,S1⟩;exact q D cs H1 hD hc #[0] co F1 S1
section
variable {C CM CA CG:Addr}
def ES{H:Hp}{a b g dx:Addr}{ns:List Str}{tv:List V}{Q:VK}(ha:H a=some (.tup (ns.map V.str)))(hb:H b=some (.tup tv))(TS:TreesAt H tv ts)(k:GmK ns ts p)(nd:ns.Nodup)(nx:H g=none)(ndx:H dx=none)(q:∀H',Same H H'->Gm CG H' g ns ts p->Q .non H'):
 spGInit CG [.ref g,.ref a,.ref b,.int p] (upd (upd H dx (.own g)) g (.ins CG dx [])) Q E:=by
 let s3:Same H (upd (upd H dx (.own g)) g (.ins CG dx [])):=λb o e=>by
  rw[aD (aX e nx),aD (aX e ndx)];exact e
 erw[g,dx,a,b,ns,tv,ts,p,1,aO,s3 _ _ ha,nd,k.n10,s3 _ _ hb,TS.mono (bd s3),k.t1,k.t10,k.tok,k.pr,k.p2,k.p9,k.tp,k.tc,λd H3 d0 GA hd S3=>?_];let S23:Same H H3:=λb o e=>S3 b o (aX e nx) (s3 b o e)
 exact q H3 S23 %[a,b,d,tv,GA,S23 _ _ ha,S23 _ _ hb,TS.mono (bd S23)|hd]
def xA{ts:List Tr}(h:∀t∈ts,t.wf/\t.depth<=10):PyData.canLayAll0 (ts.map Tr.data)=true/\PyData.depthAll (ts.map Tr.data)<=11:=by
 induction ts with
 |nil=>simp [PyData.canLayAll0,PyData.depthAll]
 |cons a r ih=>
   let i1:=ih λt ht=>h t (qK0 _ ht)
   let ha:=h a zW0;let i2:=og a ha.1;rw[zZ0,PyData.canLayAll0,PyData.depthAll,i1.1,i2.1];erw[1,6];omega
def gmD(ns:List Str)(ts:List Tr)(p:Int):PyData:=.tuple [.tuple (ns.map PyData.str),.tuple (ts.map Tr.data),.int p]
def yR{ns:List Str}{ts:List Tr}(hx:∀x∈ns,qf x)(ht:∀t∈ts,t.wf/\t.depth<=10):SeqAt.shaped (gmD ns ts p)=true:=by
 let h1:=tK hx;let h2:=xA ht
 simp [gmD,SeqAt.shaped,PyData.canLay0,PyData.canLayAll0,PyData.depth,PyData.depthAll,h1.1,h1.2,h2.1]
 omega
structure W50(K:W.Frag)(CG:Addr)(H:Hp)(a0 dr a b g h:Addr)(sn:List Int)(tv rv:List V)(rows:List Hr)(ns:List Str)(ts:List Tr)(p:Int):Prop where
 S:SqL K H a0 (sn.map V.int)
 D:Drn H dr a b tv ns ts p
 G:Gm CG H g ns ts p
 hh:H h=some (.tup rv)
 RW:RowsAt H rv rows
def W50.same(w:W50 K CG H a0 dr a b g h sn tv rv rows ns ts p)(s:Same H H'):W50 K CG H' a0 dr a b g h sn tv rv rows ns ts p:=%[s.seq w.S,w.D.mono (bd s),w.G.same s,s _ _ w.hh|w.RW.mono (bd s)]
instance tE50(CG:Addr)(Dn:Ends)(σ:St)(H:Hp):∀(dr a b g:Addr)(x0 x3 x4 x5 x6:Option V)(tv:List V)(ns:List Str)(ts:List Tr)(p:Int),σ=[x0,some (.ref dr),some (.ref g),x3,x4,x5,x6]->Drn H dr a b tv ns ts p->Gm CG H g ns ts p->(∀H',Dn.rt (.bl true) H'):=0
instance tC50(K:W.Frag)(CG:Addr)(Dn:Ends)(σ:St)(H:Hp):∀(a0 dr a b g h L:Addr)(k:Int)(x6:Option V)(sn hs:List Int)(tv rv:List V)(rows:List Hr)(ns:List Str)(ts:List Tr)(p:Int)(H0:Hp),σ=[some (.ref a0),some (.ref dr),some (.ref g),some (.ref h),some (.ref L),some (.int k),x6]->0<=k->k<1000->W50 K CG H0 a0 dr a b g h sn tv rv rows ns ts p->sn.length<=63->(∀r∈rows,r.good)->H0 L=none->Same H0 H->H L=some (.lst (hs.map V.int))->hs.length<=100->(∀(x6:Option V)(hs:List Int)(H':Hp),Same H0 H'->H' L=some (.lst (hs.map V.int))->hs.length<=100->Dn.nx [some (.ref a0),some (.ref dr),some (.ref g),some (.ref h),some (.ref L),some (.int k),x6] H'):=0
def g9:FnScope ["_law_script","_law_told","_law_game_here","_law_helper_here","_law_handed","_law_k","_law_coins_here"] ["_law_script"] (ag kH):=%[|5]
def Ev(F:#["law",kH])(B:Bl mg)(TG:GTxt K mg CG)(MG:Mk K CG fI)(GI:#[14,fI,fdI,WW,spGInit CG])(bI:Binds K fdI WW [])
 (mC:Meth K CG "coins" fC)(GC:#[1,fC,fdC,WA,spCoins CG])(bC:Binds K fdC WA [])
 (dY:#[1,"_law_feed",Wf,spFeed K])(gB:#[15,"_law_some_game",["_law_feed_here"],spSGame])(hE:#[13,"_law_is_great",["_law_told"],spGreat])(fg:#[23,"_law_some_helper",Wz,spSHelp K])
 (nQ:#[2,"_law_coins",Wq,spLCoins])(n8:#[28,"_law_right",Wy,spRight CG]):#[30,f,fd,["_law_script"],spLaw K]:=by
 exists g9
 erw[a0,sn,1,hS,h63,q]at h;let hr1:Room 1 _:=hr.mono ⋯;let hr15:Room (14+1) _:=hr.mono ⋯;refine⟨_,(aa #[am,1,g9,ai gB hr ⋯ rfl %[ai dY hr ⋯ rfl %[0,ac|aQ]|aQ]]
  (aa #[am,2,g9,jy MG GI hr15 rfl TG.mgC bI .nil bh %[aJ ix_tup (pv 1) ac #[1],aJ ix_tup (pv 1) ac #[1],aJ ix_tup (pv 1) ac #[1]|aQ]]
  (aa #[am,3,g9,ai fg hr ⋯ rfl %[0,ai hE hr ⋯ rfl %[1|aQ]|aQ]]
  (aa #[am,4,g9,cP aQ]
  (aa (cK zG1 rfl (qL rfl B.range %[ac,aE (jG rfl) rfl B.max zZ1 %[ac,aE (zf rfl) rfl B.min PyProof.Rows.boot_min %[ac,aE aF rfl B.len zB1 %[0|aQ]|aQ]|aQ]|aQ]) (bg (i:=5) g9.nd rfl (.inl rfl)) (dO (t':=tC50 K CG) (aa #[am,6,g9,ai nQ hr ⋯ rfl %[ai dY hr ⋯ rfl %[0,5|aQ],1,ca (pv 2) TG.cl mC GC hr1 bC .nil bh|aQ]]
   (aa (lT (pv 6) (yb (pv 4)))
   (ad (aG (PW.pt (dR (gy (dJ (ai n8 hr ⋯ rfl %[2,3,4|aQ]))) (dI (af (vJ hr.units) (pv 4) (pv 6) (ao _))))) (ad (aq hR)) ax)))) ?cC))
  (dO (t':=tE50 CG) (ad (aq (dq (kt hr.units) (aM %[az (pv 2) rfl,az (pv 2) rfl,az (pv 2) rfl|aQ]) (pv 1) (ao _)))) ?cE)))))),?_⟩
 case cE=>
  rintro Dn σ H ⟨dr,a,b,g,x0,x3,x4,x5,x6,tv,ns,ts,p,rfl,D,G,q⟩;erw[ga,gb,gd,gv,%[dx|hg],ha,hb,TS,_]at G;erw[0,g,CG,dx,_,0,hg,TG.cl,TG.nS,lm ..,0,g,CG,dx,_,0,hg,TG.cl,TG.nT,jQ ..,0,g,CG,dx,_,0,hg,TG.cl,TG.nF,gN ..,y3S,λu hu=>?_];let I:=zC0 hu (.tup [.ref ga,.ref gb,.int p]);let sh:=yR (p:=p) D.nm (λt ht=>%[(D.k.tok t ht).2.1|(D.k.tok t ht).2.2.1]);let D1:=D.mono (bd I);erw[0,gmD ns ts p,gmD ns ts p,.tup (zB0 aO) (.cons (.tup (zB0 (I _ _ ha)) (oW _)) (.cons (.tup (zB0 (I _ _ hb)) (qJ (TS.mono (bd I)))) (.cons (.int _) .nil))),.tup (zB0 D1.hd) (.cons (.tup (zB0 D1.ha) (oW _)) (.cons (.tup (zB0 D1.hb) (qJ D1.TS)) (.cons (.int _) .nil))),sh,sh,6];rw[eK sh];exact q _
 case cC=>
  rintro Dn σ H ⟨a0,dr,a,b,g,h,L,kk,x6,sn,hs,tv,rv,rows,ns,ts,p,H0,rfl,k0,k1,W,h63,rg,L0,S,hL,hl,q⟩;let k:=W.D.k;let n6:=W.D.n6;let p2:=k.p2;let p9:=k.p9;let t1:=k.t1;let W1:=W.same S;erw[0,0,a0,sn,kk,1,W1.S,h63,k0,3,λf1 H1 f10 S1 F1=>?_];let W2:=W1.same S1;let%[ga,gb,gd,gv,GA,gha,ghb,GTS|ghd]:=id W2.G;let gl:=GTS.length;let%[gx|hgx]:=id GA;erw[0,0,g,gx,0,hgx,qT _ _ _ _ ⋯ ⋯ ⋯ ⋯,g,ga,gb,gd,ns,gv,p,1,GA,gha,ghb,6];obtain⟨m,em,m1,m2⟩:∃m:Int,(if gv.length=1 then(ns.length:Int)else(ns.length:Int)+1)=m/\m<=7/\(ns.length:Int)+((if 1<ts.length then 1 else 0:Nat):Int)<=m:=⟨_,rfl,by split <;> omega,by split <;> split <;> omega⟩
  rw[em];erw[f1,dr,a,b,p,m,1,F1,W2.D.hd,p2,p9,3,3,λlc cs H2 lc0 hlc cl co F2 B2=>?_];let T2:Same H H2:=Same.but S1 f10 B2;let hL2:=T2 _ _ hL;let nLc:L≠lc:=aX (S1 _ _ hL) lc0;erw[0,0,L,lc,2,nLc,hL2,hlc,by rw[zF0,zF0];omega,6];let hL3:upd H2 L (.lst (cs.map V.int)) L=_:=aO;let hc3:upd H2 L (.lst (cs.map V.int)) lc=some (.lst (cs.map V.int)):=by rw[aD (Ne.symm nLc)];exact hlc
  let T3:Same H0 (upd H2 L (.lst (cs.map V.int))):=λc o e=>by
   rw[aD (aX e L0)];exact T2 _ _ (S _ _ e)
  generalize upd H2 L (.lst (cs.map V.int))=H3 at hL3 hc3 T3;let W3:=W.same T3;erw[0,0,0,g,h,L,rv,rows,ns,ts,p,cs,1,W3.G,k,n6,W3.hh,W3.RW,rg,.inl hL3,co,3,3,λH4 S4=>?_];erw[0,cV ?_];erw[0,0,_,_,.lst (zG0 (S4 _ _ hL3)) (hG _),.lst (zG0 (S4 _ _ hc3)) (hG _),qH _,qH _,0,6];rw[EY,zD1 rfl];exact cV (q _ cs H4 (T3.trans S4) (S4 _ _ hL3) #[0])
 erw[0,a0,sn,(1),1,hS,h63,4,4,λf1 H1 f10 S1 F1=>?_];erw[f1,1,F1,λdr a b tv ns ts p H2 D F2 B2=>?_];let T2:Same H H2:=Same.but S1 f10 B2;erw[0,dr,_,(0),0,1,zB0 D.hd,1,0,dr,_,(1),0,1,zB0 D.hd,1,0,dr,_,(2),0,1,zB0 D.hd,1,λg dx nx ndx nex=>?_];apply ES D.ha D.hb D.TS D.k D.nd nx ndx λH3 S3 G3=>%[1|6]
 let T3:=T2.trans S3;let D3:=D.mono (bd S3);erw[0,0,dr,a,b,tv,ns,ts,p,1,D3,λc H4 S4=>?_];let T4:=T3.trans S4;erw[a0,sn,c,1,T4.seq hS,h63,λh rv rows H5 S5 hh RW rg=>?_];let S35:=S4.trans S5;let T5:=T3.trans S35;let W5:W50 K CG H5 a0 dr a b g h sn tv rv rows ns ts p:=%[T5.seq hS,D3.mono (bd S35),G3.same S35,hh|RW]
 erw[zQ0 _,λL hL=>?_];let I6:=zC0 hL (.lst []);let e6:upd H5 L (.lst []) L=some (.lst (([]:List Int).map V.int)):=aO;generalize upd H5 L (.lst [])=H6 at I6 e6;let W6:=W5.same I6;let hlen:(sn.map V.int).length=sn.length:=zF0 _;erw[0,a0,0,.inl W6.S,_,0,_,0,6];erw[_,0,%[4,4,by(repeat' split) <;> omega|by(repeat' split) <;> omega],dU (λi σ H'=>∃(x5 x6:Option V)(hs:List Int),σ=[some (.ref a0),some (.ref dr),some (.ref g),some (.ref h),some (.ref L),x5,x6]/\Same H5 H'/\H' L=some (.lst (hs.map V.int))/\hs.length<=100) %[_,_,[],1,I6,e6|4] ?_ ?_]
 . rintro i σ H7 hi ⟨x5,x6,hs,rfl,S7,hL7,hl⟩;let hi':i<63:=by
    rw[hlen]at hi
    revert hi
    (repeat' split) <;> omega
   erw[a0,dr,a,b,g,h,L,5+(i:Int),_,sn,hs,tv,rv,rows,ns,ts,p,H5,1,3,3,W5,h63,rg,hL,S7,hL7,hl,λx6 hs H' S' e1 e2=>%[_,_,hs,1,S',e1|e2]]
 . rintro σ H7 ⟨x5,x6,hs,rfl,S7,hL7,hl⟩;let W7:=W5.same S7;erw[dr,a,b,g,_,_,_,_,_,tv,ns,ts,p,1,W7.D,W7.G,λH'=>q H']
end
def kept_vals{a b c d e f g h i j k l:Tok}:Vals (kept.map V.str) [.str "yes" a,.str "no" b,.str "not" c,.str "and" d,.str "or" e,.str "odd" f,.str "same" g,.str "round" h,.str "due" i,.str "asked" j,.str "true" k,.str "coin" l]:=
 .cons %[|0] (.cons ⟨_,rfl⟩ (.cons ⟨_,rfl⟩ (.cons ⟨_,rfl⟩ (.cons ⟨_,rfl⟩ (.cons ⟨_,rfl⟩ (.cons ⟨_,rfl⟩ (.cons ⟨_,rfl⟩ (.cons ⟨_,rfl⟩ (.cons ⟨_,rfl⟩ (.cons ⟨_,rfl⟩ (.cons ⟨_,rfl⟩ .nil)))))))))))
def sign_vals{a b c d e f:Tok}:Vals (signW.map V.str) [.str "+" a,.str "-" b,.str "*" c,.str "/" d,.str "=" e,.str "<" f]:=
 .cons %[|0] (.cons ⟨_,rfl⟩ (.cons ⟨_,rfl⟩ (.cons ⟨_,rfl⟩ (.cons ⟨_,rfl⟩ (.cons ⟨_,rfl⟩ .nil)))))
def ask_vals{a b:Tok}:Vals (askW.map V.str) [.str "coin" a,.str "true" b]:=.cons %[|0] (.cons ⟨_,rfl⟩ .nil)
def plain_vals{a b c:Tok}:Vals (plainW.map V.str) [.str "round" a,.str "due" b,.str "asked" c]:=.cons %[|0] (.cons ⟨_,rfl⟩ (.cons ⟨_,rfl⟩ .nil))
end
abbrev FH(K:W.Frag)(x:Str)(s:Stmt):Prop:=∃f,W.nsIn K mainGlobals x=some (some (.ref f))/\∃fd,Fun K x x s f fd
abbrev MH(K:W.Frag)(C:Addr)(x y:Str)(s:Stmt):Prop:=∃g,W.findIn K (.ref C) x=some (some (.ref g))/\W.isFn K (.ref g)=true/\∃fd,Fun K x y s g fd
abbrev CH(K:W.Frag)(x:Str)(C:Addr):Prop:=W.nsIn K mainGlobals x=some (some (.ref C))/\W.plainGet K C Str.empty=true/\W.hasDictIn K C=true/\W.plainOver K C=true/\W.findIn K (.ref C) "__setattr__"=some (some (.builtin "object.__setattr__"))/\W.makesIn K C=true/\W.keepIn K (.ref C)=true
abbrev HF(K:W.Frag)(C:Addr)(x:Str):Prop:=W.findIn K (.ref C) x=some none
abbrev HZ(K:W.Frag)(x:Str):Prop:=W.nsIn K mainGlobals x=some none
def aW{K:W.Frag}{h:Heap}{mg:#[9]}(X:K.In h)(G:h.Ns mainGlobals mg)(z:FH K x s):∃f fd,Fun K x x s f fd/\mg x=some (.ref f):=by
 erw[f,a,fd,F]at z;erw[f,fd,F,qR1 X G a]
def cO{K:W.Frag}(z:MH K C x y s):∃f fd,Fun K x y s f fd/\Meth K C x f:=by
 erw[f,a,i,fd,F]at z;erw[f,fd,F,a,i,F.kp]
def all_mk{l:PySem.W.OpenLaw}{w:World}{K:W.Frag}{h:Heap}{mg:#[9]}{fa fl CG C CA CM CS:Addr}(X:K.In h)(G:h.Ns mainGlobals mg)(hfa:mg "law"=some (.ref fa))
 {od an:Option Addr}{sl:Array (Option Value)}{oc kV dc pm cd ct:Value}
 {t1 t3 t4 t5 t6 u1 u2 u3 uh:Tok}{ka ja qa pa:Addr}{kd jd qd pd:Option Addr}{kits jits qits pits:Array Value}{kn jn qn pn:Nat}{ksl jsl qsl psl:Array (Option Value)}
 {te tm:Tok}
 (aL:W.nsIn K mainGlobals "law"=some (some (.ref fl)))(lL:K.lookup fl=some %[oc,od,.func (W.fnOf "law" "law" (iE kH) (eV kH) (ag kH) .none kV dc pm an cd ct)|sl])(cL:W.codeIn K cd "law"=true)(kL:W.keepIn K (.ref fl)=true)
 (h0:FH K "is_field" ko)
 (h1:FH K "inverse_of" iu)
 (h2:FH K "is_number" iS)
 (h3:FH K "value_at" ke)
 (h4:FH K "both_ends" iV)
 (h5:FH K "value_behind" gh)
 (h6:FH K "products" ki)
 (h7:FH K "inverse_factorials" dC)
 (h8:FH K "all_settings" gr)
 (h9:FH K "holds_at" iw)
 (h10:FH K "joined" oO)
 (h11:FH K "count_of" kq)
 (h12:FH K "trees_within" gi)
 (h13:FH K "size_of" jt)
 (h14:FH K "names_in" il)
 (h15:FH K "all_sizes" iX)
 (h16:FH K "judged" oN)
 (h17:FH K "tell_numbered" fk)
 (h18:FH K "tell" vt)
 (h19:FH K "worth_of" ii)
 (h20:FH K "joined_worth" gq)
 (h21:FH K "degree_of" iT)
 (h22:FH K "look_switches" fo)
 (h23:FH K "look_names" im)
 (h24:FH K "look_field" io)
 (h25:FH K "look_size" iR)
 (h26:FH K "is_name" lN)
 (h27:FH K "is_figures" ir)
 (h28:FH K "read_helper" gP)
 (h29:FH K "helper_row" iy)
 (h30:FH K "next_name" iQ)
 (h31:FH K "next_figures" gn)
 (h32:FH K "next_term" gJ)
 (h33:FH K "term_in_bracket" dj)
 (h34:FH K "counts_of" iU)
 (h35:FH K "true_row" kf)
 (h36:FH K "honest" oP)
 (h37:FH K "value_of" ik)
 (h38:FH K "op_value" kj)
 (h39:FH K "divided" lO)
 (h40:FH K "asked_once" iz)
 (h41:FH K "talked" oF)
 (h42:FH K "read_talk" iP)
 (h43:FH K "talk_row" kg)
 (h44:FH K "talk_text" iO)
 (h45:FH K "row_text" kh)
 (h46:FH K "_law_feed" oM)
 (h47:FH K "_law_take" oH)
 (h48:FH K "_law_names" bQ)
 (h49:FH K "_law_tree" kI)
 (h50:FH K "_law_names_of" fK)
 (h51:FH K "_law_need" oI)
 (h52:FH K "_law_is_prime" ip)
 (h53:FH K "_law_field" lJ)
 (h54:FH K "_law_game" oK)
 (h55:FH K "_law_term" kJ)
 (h56:FH K "_law_helper" km)
 (h57:FH K "_law_liar" oJ)
 (h58:FH K "_law_coins" lK)
 (h59:FH K "_law_some_game" gQ)
 (h60:FH K "_law_is_great" iq)
 (h61:FH K "_law_some_helper" fq)
 (h62:FH K "_law_right" lI)
 (gmc:CH K "Game" CG)
 (dbc:CH K "Doubter" C)
 (asc:CH K "Asking" CA)
 (mcc:CH K "Machine" CM)
 (scc:CH K "Scan" CS)
 (Io:MH K CG "__init__" "Game.__init__" rR)
 (gmmM:MH K CG "mix" "Game.mix" vy)
 (gmmW:MH K CG "worth_at" "Game.worth_at" oQ)
 (gmmC:MH K CG "coins" "Game.coins" oR)
 (dbmI:MH K C "__init__" "Doubter.__init__" rV)
 (dbmW:MH K C "waits" "Doubter.waits" oS)
 (dbmU:MH K C "due" "Doubter.due" vA)
 (dbmH:MH K C "hear" "Doubter.hear" rW)
 (dbmT:MH K C "toss" "Doubter.toss" rT)
 (dbmC:MH K C "hear_claims" "Doubter.hear_claims" lP)
 (dbmB:MH K C "begin_rounds" "Doubter.begin_rounds" oU)
 (dbmR:MH K C "hear_row" "Doubter.hear_row" vz)
 (dbmG:MH K C "go_on" "Doubter.go_on" Aa)
 (dbmE:MH K C "look_at_trees" "Doubter.look_at_trees" oT)
 (asmI:MH K CA "__init__" "Asking.__init__" rY)
 (asmP:MH K CA "plain_value" "Asking.plain_value" oV)
 (asmC:MH K CA "coin_at" "Asking.coin_at" rZ)
 (asmN:MH K CA "true_numbers" "Asking.true_numbers" lQ)
 (asmR:MH K CA "true_at" "Asking.true_at" rX)
 (mcmI:MH K CM "__init__" "Machine.__init__" rQ)
 (mcmS:MH K CM "say" "Machine.say" vv)
 (mcmR:MH K CM "do_row" "Machine.do_row" vx)
 (scmI:MH K CS "__init__" "Scan.__init__" rP)
 (scmE:MH K CS "enter" "Scan.enter" oG)
 (scmS:MH K CS "sees" "Scan.sees" rO)
 (scmT:MH K CS "take" "Scan.take" rN)
 (scmW:MH K CS "word" "Scan.word" rM)
 (scmF:MH K CS "finish" "Scan.finish" lF)
 (oe:HF K CG "switches")
 (gmn_trees:HF K CG "trees")
 (gmn_field:HF K CG "field")
 (gmn_degrees:HF K CG "degrees")
 (dbn_game:HF K C "game")
 (dbn_awaited:HF K C "awaited")
 (dbn_claims:HF K C "claims")
 (dbn_s:HF K C "s")
 (dbn_heard:HF K C "heard")
 (dbn_tossed:HF K C "tossed")
 (dbn_held:HF K C "held")
 (dbn_places:HF K C "places")
 (asn_game:HF K CA "game")
 (asn_number:HF K CA "number")
 (asn_many:HF K CA "many")
 (asn_held:HF K CA "held")
 (asn_s:HF K CA "s")
 (asn_tossed:HF K CA "tossed")
 (asn_truths:HF K CA "truths")
 (mcn_game:HF K CM "game")
 (mcn_helper:HF K CM "helper")
 (mcn_next_round:HF K CM "next_round")
 (mcn_boxes:HF K CM "boxes")
 (scn_text:HF K CS "text")
 (scn_row:HF K CS "row")
 (scn_most_within:HF K CS "most_within")
 (scn_most_parts:HF K CS "most_parts")
 (scn_place:HF K CS "place")
 (scn_parts:HF K CS "parts")
 (g1:W.nsIn K mainGlobals "LETTERS"=some (some (.str LET t1)))
 (g3:W.nsIn K mainGlobals "LONGEST_NAME"=some (some (.int 6 t3)))
 (g5:W.nsIn K mainGlobals "KEPT_WORDS"=some (some (.ref ka)))
 (g6:K.lookup ka=some %[.type "tuple",kd,.seq kits kn|ksl])
 (g7:kits.size<=100)
 (g8:Vals (kept.map V.str) kits.toList)
 (e1:W.nsIn K mainGlobals "WORD_ENDS"=some (some (.str ENDS t4)))
 (e2:W.nsIn K mainGlobals "MOST_WITHIN"=some (some (.int 8 t5)))
 (e3:W.nsIn K mainGlobals "MOST_PARTS"=some (some (.int 20 t6)))
 (w1:W.nsIn K mainGlobals "FIGURES"=some (some (.str FIG u1)))
 (w2:W.nsIn K mainGlobals "MOST_FIGURES"=some (some (.int 12 u2)))
 (w3:W.nsIn K mainGlobals "MOST_ROWS"=some (some (.int 60 u3)))
 (j5:W.nsIn K mainGlobals "SIGNS"=some (some (.ref ja)))
 (j6:K.lookup ja=some %[.type "tuple",jd,.seq jits jn|jsl])
 (j7:jits.size<=100)
 (j8:Vals (signW.map V.str) jits.toList)
 (q5:W.nsIn K mainGlobals "ASKING_WORDS"=some (some (.ref qa)))
 (q6:K.lookup qa=some %[.type "tuple",qd,.seq qits qn|qsl])
 (q7:qits.size<=100)
 (q8:Vals (askW.map V.str) qits.toList)
 (p5:W.nsIn K mainGlobals "PLAIN_WORDS"=some (some (.ref pa)))
 (p6:K.lookup pa=some %[.type "tuple",pd,.seq pits pn|psl])
 (p7:pits.size<=100)
 (p8:Vals (plainW.map V.str) pits.toList)
 (wh:W.nsIn K mainGlobals "HONEST_ROWS"=some (some (.str ("set i 0\nsay (true i)\nset i (+ i 1)\ngo 1":Str) uh)))
 (ge:W.nsIn K mainGlobals "FIELDS_END"=some (some (.int 1000000 te)))
 (xmo:W.nsIn K mainGlobals "MOST_ROWS_DONE"=some (some (.int 200 tm)))
 (z0:HZ K "len")(z1:HZ K "range")(z2:HZ K "isinstance")(z3:HZ K "int")(z4:HZ K "bool")(z5:HZ K "list")(z6:HZ K "tuple")(z7:HZ K "max")(z8:HZ K "min")(z9:HZ K "reversed")(z10:HZ K "enumerate")(z11:HZ K "sum")(z12:HZ K "all")(z13:HZ K "str"):
 ∃fd:FuncData,(∀(s:Shared) (v:Value),BindsTo s fd %[[v]|[]] [("_law_script",v)])/\∀base:Heap,K.In base->base.Ns mainGlobals mg->FnOk l.prog w K mg base CX0 30 fa fd ["_law_script"] (spLaw K):=by
 let e:=hfa.symm.trans (qR1 X G aL);cases e;let Ir:=ET (st:=kH) lL cL kL;exists 1,y6,FY,h0,oE,Fs,h1,t9,FP,h2,y8,FZ,h3,u4,FQ,h4,jL,C6,h5,y9,Gc,h6,fh,lE,h7,jM,C7,h8,zY,A0,h9,Ft,GE,h10,A3,Gf,h11,j4,C8,h12,D6,D7,h13,A4,A5,h14,u5,FR,h15,Fu,GF,h16,ig,A7,h17,Gq,Iq,h18,A8,A9,h19,j9,C9,h20,u6,FS,h21,iF,BZ,h22,o4,Fv,h23,o6,Fw,h24,u7,FT,h25,D8,Gs,h26,o7,Fx,h27,l8,E7,h28,o8,Fy,h29,u8,FU,h30,kc,D4,h31,u9,v3,h32,r8,r9,h33,v4,FV,h34,B0,Gh,h35,Fz,GJ,h36,B7,B9,h37,Ca,Gi,h38,E1,Gv,h39,o9,FA,h40,FB,GK,h41,v5,FW,h42,C0,Gj,h43,v6,FX,h44,C1,Gk,h45,FC,GN,h46,FD,GO,h47,E3,Gw,h48,FE,FG,h49,qc,qe,h50,FI,GQ,h51,qy,FJ,h52,E4,Gx,h53,FK,GV,h54,FL,FM,h55,C2,Gn,h56,FN,GX,h57,E5,Gy,h58,l9,E8,h59,q0,FO,h60,iJ,C3,h61,E6,Gz,h62;erw[gmgg,gmpg,gmhdi,gmpov,gmsat,gmmki,gmkcl]at gmc;erw[dbgg,dbpg,dbhdi,dbpov,dbsat,dbmki,dbkcl]at dbc;erw[asgg,aspg,ashdi,aspov,assat,asmki,askcl]at asc;erw[mcgg,mcpg,mchdi,mcpov,mcsat,mcmki,mckcl]at mcc;erw[scgg,scpg,schdi,scpov,scsat,scmki,sckcl]at scc;exists 2,GY,GZ,Io,G7,G9,gmmM,Ha,Hb,gmmW,Hc,Iu,gmmC,Hd,He,dbmI,Hf,Hg,dbmW,Hh,Iv,dbmU,Hi,Hj,dbmH,Hk,Hl,dbmT,Hm,Iw,dbmC,Hn,Ho,dbmB,Hq,Ix,dbmR,Hs,Ht,dbmG,Hu,Iy,dbmE,Hv,Hw,asmI,Hx,Iz,asmP,Hy,IA,asmC,Hz,IB,asmN,HA,IC,asmR,HB,HC,mcmI,HD,ID,mcmS,HE,IE,mcmR,HG,HH,scmI,HI,IF,scmE,HJ,HK,scmS,HL,IG,scmT,HM,IH,scmW,HN,II,scmF;let B:Bl mg:=%[qA1 X G z0,qA1 X G z1,qA1 X G z2,qA1 X G z3,qA1 X G z4,qA1 X G z5,qA1 X G z6,qA1 X G z7,qA1 X G z8,qA1 X G z9,qA1 X G z10,qA1 X G z11,qA1 X G z12|qA1 X G z13]
 erw[W.fnOf "law" "law" (iE kH) (eV kH) (ag kH) .none kV dc pm an cd ct,λs v=>.of_eq rfl,λbase _ _=>?_];let cal:=@Cal.of l.prog w K mg base;let TG:GTxt K mg CG:=%[%[gmpg,gmhdi,gmpov|gmsat],oe,gmn_trees,gmn_field,gmn_degrees|qR1 X G gmgg]
 let T:DTxt K mg C:=%[%[dbpg,dbhdi,dbpov|dbsat],dbn_game,dbn_awaited,dbn_claims,dbn_s,dbn_heard,dbn_tossed,dbn_held,dbn_places|qR1 X G dbgg]
 let TA:ATxt K mg CA:=%[%[aspg,ashdi,aspov|assat],asn_game,asn_number,asn_many,asn_held,asn_s,asn_tossed,asn_truths|qR1 X G asgg]
 let TM:MTxt K mg CM:=%[%[mcpg,mchdi,mcpov|mcsat],mcn_game,mcn_helper,mcn_next_round,mcn_boxes|qR1 X G mcgg]
 let TS:STxt K mg CS:=%[%[scpg,schdi,scpov|scsat],scn_text,scn_row,scn_most_within,scn_most_parts,scn_place,scn_parts|qR1 X G scgg]
 let TX:Tx K mg:=%[%[t1|qR1 X G g1],%[t3|qR1 X G g3],%[ka,qR1 X G g5|λ_=>.inr %[_,kits,kn,g6,1,1,zM0 g7 (cg ⋯)|g8]],%[t4|qR1 X G e1],%[t5|qR1 X G e2],%[t6|qR1 X G e3],%[u1|qR1 X G w1],%[u2|qR1 X G w2],%[u3|qR1 X G w3],%[ja,qR1 X G j5|λ_=>.inr %[_,jits,jn,j6,1,1,zM0 j7 (cg ⋯)|j8]],%[qa,qR1 X G q5|λ_=>.inr %[_,qits,qn,q6,1,1,zM0 q7 (cg ⋯)|q8]]|%[pa,qR1 X G p5|λ_=>.inr %[_,pits,pn,p6,1,1,zM0 p7 (cg ⋯)|p8]]]
 let IJ:=GY.binds (ps:=["self","switches","trees","field"]) ‹X.a›;let HP:=G7.binds (ps:=["self","numbers","s"]) ‹X.a›;let HR:=Ha.binds (ps:=["self","point","s"]) ‹X.a›;let IK:=Hc.binds (ps:=["self"]) ‹X.a›;let HS:=Hd.binds (ps:=["self","game"]) ‹X.a›;let HU:=Hf.binds (ps:=["self"]) ‹X.a›;let IM:=Hh.binds (ps:=["self"]) ‹X.a›;let HV:=Hi.binds (ps:=["self","values"]) ‹X.a›;let HW:=Hk.binds (ps:=["self","r"]) ‹X.a›;let IN:=Hm.binds (ps:=["self","values"]) ‹X.a›;let HX:=Hn.binds (ps:=["self","s"]) ‹X.a›;let IO:=Hq.binds (ps:=["self","values"]) ‹X.a›;let HY:=Hs.binds (ps:=["self"]) ‹X.a›;let IP:=Hu.binds (ps:=["self"]) ‹X.a›;let IQ:=Hv.binds (ps:=["self","game","number","many","due","s","coins"]) ‹X.a›;let IR:=Hx.binds (ps:=["self","word"]) ‹X.a›;let IS:=Hy.binds (ps:=["self","place"]) ‹X.a›;let IT:=Hz.binds (ps:=["self"]) ‹X.a›;let IU:=HA.binds (ps:=["self","place"]) ‹X.a›;let IV:=HB.binds (ps:=["self","game","helper"]) ‹X.a›;let IW:=HD.binds (ps:=["self","many","due","s","coins"]) ‹X.a›;let IX:=HE.binds (ps:=["self","place","said","asking"]) ‹X.a›;let IY:=HG.binds (ps:=["self","text","row","most_within","most_parts"]) ‹X.a›;let IZ:=HI.binds (ps:=["self","within"]) ‹X.a›;let Ia:=HJ.binds (ps:=["self","signs"]) ‹X.a›;let Ja:=HL.binds (ps:=["self","signs"]) ‹X.a›;let Jb:=HM.binds (ps:=["self"]) ‹X.a›;let Jc:=HN.binds (ps:=["self"]) ‹X.a›;let dY:=cal FC (yi FC B.len) GN ‹X.a›;let a7:=cal FD (ye FD ) GO ‹X.a›;let kE:=cal y6 (uf y6 ) FY ‹X.a›;let c9:=cal oE (qt oE ) Fs ‹X.a›;let dZ:=cal t9 (sC t9 B) FP ‹X.a›;let cR:=cal y9 (ub y9 ) Gc ‹X.a›;let dD:=cal fh (iI fh B cR c9) lE ‹X.a›;let fw:=cal jL (nv jL B cR dD) C6 ‹X.a›;let b5:=cal y8 (tX y8 B fw) FZ ‹X.a›;let i8:=cal u4 (sF u4 b5) FQ ‹X.a›;let a8:=cal j4 (ny j4 ) C8 ‹X.a›;let f6:=cal D6 (pC D6 B D7 a8 10) D7 ‹X.a›;let cJ:=cal A4 (mQ A4 A5 a8 10) A5 ‹X.a›;let cz:=cal j9 (nJ j9 ) C9 ‹X.a›;let d8:=cal A8 (mN A8 A9 cz 10) A9 ‹X.a›;let iN:=cal u6 (sD u6 B.max cJ) FS ‹X.a›;let e8:=cal iF (ma iF B.enumerate) BZ ‹X.a›;let gO:=cal o4 (ql o4 cJ) Fv ‹X.a›;let gY:=cal o6 (qm o6 %[te|qR1 X G ge] kE) Fw ‹X.a›;let i3:=cal u7 (sB u7 B.max) FT ‹X.a›;let eX:=cal E3 (vM E3 B.range a7) Gw ‹X.a›;let eM:=cal FE (qO FE B.len FG a7 10) FG ‹X.a›;let b7:=cal qc (jO qc qe 10) qe ‹X.a›;let v7:=cal FI (yf FI B.len B.max b7) GQ ‹X.a›;let gI:=cal qy (qo qy B.range) FJ ‹X.a›;let mJ:=cal E4 (vN E4 a7 gI) Gx ‹X.a›;let w6:=cal FK (yh FK B.range B.tuple a7 eX eM v7 mJ) GV ‹X.a›;let i7:=cal u5 (sG u5 B TG f6) FR ‹X.a›;let Jd:=‹AH.p› GY TG B.tuple B.len iN e8 gO gY i3;let Ib:=‹CT.p› G7 TG B.reversed;let Ic:=‹yo.p› Ha TG G9 Ib HP d8;let Je:=‹yp.p› Hc TG B.len;let Jf:=‹yr.p› Hu B T TG Hb Ic HR i7;let Id:=‹Ew.p› Hs B T TG Iy Jf IP;let Ie:=‹yt.p› Hn T TG G9 Ib HP Ht Id HY;let Jg:=‹vR.p› Hm B T TG Ho Ie HX;let Jh:=‹CU.p› Hq B T TG i8;let Ig:=‹AL.p› Hi B T TG dZ Iw Jg IN Ix Jh IO;let Ii:=‹AI.p› Hk B T TG dZ b5 Ho Ie HX Ht Id HY;let Ik:=‹AJ.p› Hd B T TG;let Il:=‹yq.p› Hf T;let Ji:=‹CV.p› Hh T;let cF:=cal jM (nK jM B.range) C7 ‹X.a›;let fJ:=cal Ft (yk Ft ) GE ‹X.a›;let eg:=cal zY (mV zY A0 fJ 12) A0 ‹X.a›;let kF:=cal A3 (ug A3 B.len cF eg) Gf ‹X.a›;let jk:=cal v4 (sE v4 TG kF) FV ‹X.a›;let kG:=cal B0 (tY B0 B TG Hb Ic HR cF) Gh ‹X.a›;let m5:=cal E1 (vQ E1 c9) Gv ‹X.a›;let ei:=cal Ca (uc Ca m5) Gi ‹X.a›;let Jj:=‹AN.p› Hv B TA;let Jk:=‹yu.p› Hx TA TG;let Jl:=‹AO.p› Hy B TA TG;let Jm:=‹vS.p› Hz TA jk kG;let Jn:=‹AM.p› HA B TA TG IB Jm IT b5;let AF:AskF l.prog w K mg base CA CG _ _ _ _ _ _:=⟨Iz,Jk,IR,IA,Jl,IS,IC,Jn,IU⟩
 let b6:=cal B7 (mO B7 B9 TA TG AF ei 5) B9 ‹X.a›;let Jo:=‹AG.p› HB TM;let Jp:=‹CQ.p› HE B TM b6;let Jq:=‹CP.p› HD B TM TA %[tm|qR1 X G xmo] ⟨asmki,Hw.1,Hw.2,askcl⟩ Jj IQ IE Jp IX;let Y:Ways l.prog w K mg base C CM CG _ _ _ _ _ _ _ _ _ _:=⟨Hg,Il,HU,Iv,Ji,IM,Hj,Ig,HV,Hl,Ii,HW,ID,Jq,IW⟩
 let MDk:Mk K C _:=%[dbmki,He.1,He.2|dbkcl]
 let MMk:Mk K CM _:=%[mcmki,HC.1,HC.2|mckcl]
 let e9:=cal o9 (qv o9 B T TM Y) FA ‹X.a›;let v9:=cal FB (yc FB B T TM Y MDk Ik HS MMk Jo IV e9) GK ‹X.a›;let Jr:=‹AE.p› HG TS;let Js:=‹yd.p› HI TS;let Im:=‹AD.p› HJ TS;let Jt:=‹AC.p› HL B TS HK Im Ia;let Ju:=‹AB.p› HM B TX TS;let Jv:=‹vK.p› HN B TS;let M:Mths l.prog w K mg base CS _ _ _ _ _ _ _ _ _ _:=%[IF,Js,IZ,HK,Im,Ia,IG,Jt,Ja,IH,Ju,Jb,II,Jv|Jc]
 let cU:=cal D8 (vP D8 B TX) Gs ‹X.a›;let bj:=cal o7 (qr o7 B TX) Fx ‹X.a›;let cx:=cal u9 (kX u9 v3 r8 r9 B TX TS M cU bj 8) v3 ‹X.a›;let jm:=cal u8 (sA u8 TS M cU) FU ‹X.a›;let eA:=cal kc (nI kc B TS M bj) D4 ‹X.a›;let gZ:=cal o8 (qu o8 TX TS M %[scmki,HH.1,HH.2|sckcl] Jr IY jm eA cx) Fy ‹X.a›;let gg:=cal l8 (pE l8 B TX gZ) E7 ‹X.a›;let w8:=cal Fz (ym Fz ⟨uh,qR1 X G wh⟩ gg) GJ ‹X.a›;let kK:=cal C1 (ua C1 B) Gk ‹X.a›;let jr:=cal v6 (sx v6 kK) FX ‹X.a›;let k9:=cal C0 (tZ C0 B bj) Gj ‹X.a›;let jI:=cal v5 (sy v5 B k9) FW ‹X.a›;let Fr:=cal Gq (CO Gq T Hj Ig HV Hl Ii HW) Iq ‹X.a›;let C4:=cal ig (lZ ig Fr) A7 ‹X.a›;let fQ:=cal Fu (yj Fu B T MDk Ik HS Hg Il HU C4) GF ‹X.a›;let dQ:=cal FL (qP FL B FM a7 5) FM ‹X.a›;let lh:=cal C2 (ue C2 B a7 dQ) Gn ‹X.a›;let y4:=cal FN (yg FN a7) GX ‹X.a›;let nQ:=cal E5 (vO E5 B a7) Gy ‹X.a›;let gB:=cal l9 (pF l9 B a7 w6) E8 ‹X.a›;let hE:=cal q0 (qp q0 B b7) FO ‹X.a›;let fg:=cal iJ (me iJ dY a7 eX w8 lh y4) C3 ‹X.a›;let n8:=cal E6 (vL E6 B v9 fQ jr jI) Gz ‹X.a›;let MGk:Mk K CG _:=⟨gmmki,GZ.1,GZ.2,gmkcl⟩
 exact Ev Ir B TG MGk Jd IJ Iu Je IK dY gB hE fg nQ n8
def walk{l:PySem.W.OpenLaw}{q:Program}{loose:List Str}{XP:(#[9])->Heap->Prop}{YP:World->Heap->Prop}{d:DefRec}{K:Params->PySem.W.Frag}(hn:l.most=some 63)(hdf:d.params.defaults=[])
 (hY:∀(w:World)(h:Heap),YP w h->(K w.params).In h)
 (F:∀(w:World)(mg:#[9])(fa:Addr)(h:Heap),(K w.params).In h->h.Ns mainGlobals mg->mg d.name=some (.ref fa) ->
  ∃fd:FuncData,(∀(s:Shared) (u:Value),BindsTo s fd %[[u]|[]] [("_law_script",u)])/\∀base:Heap,(K w.params).In base->base.Ns mainGlobals mg->FnOk l.prog w (K w.params) mg base CX0 30 fa fd ["_law_script"] (spLaw (K w.params))) :
 PySem.W.WalkO q loose XP YP l.row.toRowW d [] (λf vs=>PySem.call f vs):=
 L2.walk_of (n:=63) (k:=30) (x:="_law_script") (CX:=λ_=>CX0) (sp:=λw=>spLaw (K w.params)) hn ⋯ hdf %[1,1,4|4] hY F (λ_ _ a ns hl _ hS=>%[a,ns,1,hS,hl|λ_=>rfl]) λ_ _ _ _ _ z=>z
end Mine
namespace PySem.W.Fast
example:="FQkINcUSSD275NzdCZMzk14rJsvgZtYOtHLNf94Ilj4kC7BvG3IvolMKeBe9YMOSuFCI6CJKj9t3s0pBdT6NTYKk3VuZMXR83ISCd5fQjdtyVCF5D4YTtnEjwDtlCGBV8s5W95hwP9CzQrp35o3KplI0587cmCkx7Z7d8L23XVUVKqvQCsr1c3cPBQ2AoBcw0VPI8QId8esoXhQER7aDx9zwKTnbE52AN0EShDQI4QuK89vj4S1fGU3Vw4mc4KWChbr7mcoDFM5OiJCzLxmHOiUj5oQWGt5luxxnX992N0tJD2D6NU2pC8NrqhJwCEP03RJE7UhoZV4OLhgjKJ0oFEEej4nWEBBIEcmxzbnP4BlDLaDx4df5KDHzD66BlP0gl8LklZSbhxlhIsHTeVTG9fZERWadxWLxWkDDpjgpXQGHf03al6SsgTnTBWEg8FQEXfyB4Kz75aV6DcKH5rUrNXtJW97hRSsWT58HK01O9DUO4D6DCHogN5N1hAFrj4gzz2S2u9yWKVe48T1OIfluBaJeGkaDrEOVpkxOuqBGo33mVQHNi0xxhdUenzod7uJELePdFq94icKGn4G8HEDxTTEqeoZHkDPGgF7GsU175YkzEIDnpvmG6dQWw7zLjHFQ9Zovc3HTaFk1CfV4T3gF62KqHzmmOw99na7nwIg7Cr5wR7WBb0IfPEnoxOf5Tpnc5zqAodQeAzD1KcDWw1ysOJKwleuUWR2tb9s13iDmx6cGIwpvbvbNR3P8FYTR4P1HcN6KMvee2QrI7BMT04Nzx3iKLvzMLnYIYZyL3sD8BVbzDO5ISmbt2kalMDLDVv5AnMfY4rxkOBjHzlcBy0iYmh2fQIKPu9BaZDkvKGYARLSrQI1jH2iG58Ow6ybCzvN7hAhLznHESRdLRkwRH0HAEBqy3xf529LYD1b3XEu4PKPC7BHlUt1v8TwDY8XAbFz4lTAXQLusCL9UuctCpysHn3xDFHgKL57qDDwKmkc522Xn5KMokCVI4auSwGIb5jqGuBt7CoQ1zIA1cqa3FTwDeJPc3br6t7K21IuQOOcgAA59bXtW8sutz24EaSdAQsiSt3nvaNUA9uaWB987VvkjIrO6URJeK5PTz6ErZu8y2vE3i1OuKzsn0E3J9L7BYmGl1xuIybCuzessZiKg7xRS81JXs8THFFRnYDB7D6EL65CvdcQ45zJsWSvOqDEaZSwenCc1p3k1MK0vJxOf9Wd7vCy60ed617z3rNIx3YE345PxZIYJLKCXXpwMhdddBNT4PyvfjZjFnkvvNaW4i89Ekaa1lJBSi6tMODfFx9nCHjXgK4I3QIkGhGiC5v5ZoT4vN06gMWsRnDA8xL2MaRtTD6t3O65RkjH1hSDsjUczUI7DUdmuYCOdYLRRi0SiaCzvBsGdbjAPHD95LP1ntblrhdL7J6AgNMxnmKEmcRs4TuaaFBrhAamAp6IDmhrEm4cKlG6CsZLZnRHQ4D6Jf6W0nGYkKsH82lh9Bwa6fludWy1CnQEn9JBr2adzOCadFc37qZIyAXkusxU8OroKAFkGVRJ9abBBQUf8gCJ65KvN8liYpTmC6cnxjXlgfMv4t7w2kTzQSHIAqljEaOv5MCc6RXjPGdBJ7FqGKYc1baTIdmsoY36N8nJDTf9aJHdjWELNmVDPxkpQL0gJNW7i1x5AfTfNL93h431y64YlhGsoW8IHFyO7pEeq2YIW0CKoxDp00gzjVeg5Gl1fHadR0vmm6BKrU47uufS2D8CmYMTDe1VAAlOxlLgFsA0P5krqj4GeoGmJKPEFwdd2BjMzfGQ13uv3yYdkgnb4qaK8YfM5zbO0d1p8b8HPpANe80ye6w1MUnXFqHplIpBQDS7Zgqu2LfDXM9wVAm5xR4n52iPvY6qeMfID534I3I8GvC2SqdjUH6Vyi6x6aJ80Eh5VBkMcyt99Pfo2dRLGPRmL3LJxFzkPFqT6WFbAsxfnZqqAK8blhCIoiNy7T3WqDS8Qm2CAnthNTQe6aB21XclXAc0I3p1NxMPuWRyGZ0v4vIbiA4J2FROeWYTf24cHpSXtpTwgIaZjYIsHaWqJwNdsn0Clog394HnnX3HuXC5X9e6Fmwk98hY7tumxyYcAFss1UwcBNsF7eteTOw7Qz7OUkajA0CehA1FOazDKuKjJArmnfG1xfjK0GJGkZ2p0G5vxLmx0NzZgALmvBe6aRW6KJRTbqxz6Df6OxcwoQHLZaDQACrxDM299GWSKNc1ZbvM8YNNhUCh45R61aH68W4awQJDw2Y66FcA01kJsjZyBBkhIySqVpMuG9xJ2qa87maV8MDsPyIWnUeWC6VmTGXvIeliLNtsyhoPXS5F7quVeXjq41KWp1PCm5nqeIuiBM5JcgNCJWfGbfZ0v42GgpopmGkSiV2u3WTDzN0z2KgIvpU8CzMyAYpH9zzelOE3ESZS8tJVDs93gfEMCNMRTFo6GFZlMw8V5Q6GUgVvUglIwTTyUoqlrbGDiRjxSWGh1KGWVPtBrV8P1gBTadeagDJ0Ae0k287Jk3JY2CbM7UKuj5XkP84na8KVDKBTAzYpHWiFGdarkXjP7qIVwhdLmS4E1FMLBqJypA4JAWunIXgL6gxHpOdGkj3G0A1ZIHcuYcmF53JsYRt9Kpo5B7AWn3gQJd5JVQkl8TJ0VwGagl5vPB5fe6uFX20TkyplHaTc5BLjnzW1XYNnL2QLj33DQyE2hdgs88wfo45JpxhG83g2OZb5oooBZ65HXewhFP28yxo692xDXF9vxqcFbg4t6nuYVI1yVapAtT5HgVawScFlh3Luizgdr0QPiSWj2nB8HG3NZERnQlp7GFXxI1gh69IaX99NvuisY7zYvXVEWucb4xyvFgGu5bb51gGwSZRL4ILT9FQxrRT2qDq0Rv6O8GiyCHLf1japs7M4TGtnc3FQC0BVG5tg9vVGAFSzicgsoNB33DlM4SIyCsK2fHTwpq1302IwUpe6CLWc6ID2ANWYby34BBbYlpkfi23D884bvBa7w5BZtQ0yDLJAU4x1jhOCw3DG4PsAgt33fC6J3fXiC7SWZo2WWwgpedgNr6OQKMun1WBF7N0scKMKBzeFhq4rHeA7ikGEjccdlXOpY3OA8e0ty2qBF6dPx9FKei12sSOZGCT7O5330ZPLq5uVnHACKakKMgCv0XagKXcXAufKdt2goDTFYu1n4okkihOUQ6sltJZxOeTfHe1EtHPcyyz7nk8XJ4SQVfAZ5iCQ2PiR91Bqnwgn58s10LKhMi3ILBYEoBgA7JU3QfGcDYA7eKagWCMpbA4sBKzV41afsUtahpvGtzZtcTjdsqAmei0h12XY2DvLJyKHOolbJV6pTCoh4EY1Ek2eFndhqUE4gYW0aWalY5ACD4jmJqYf4L81xozhvcx2wLZlFHj8BPKIH5P74nz7IJjZi3iThVoM2qqiygILq0n171kHDs5xIy7M79bNAZnTOEL2v654s3XcGl0aMduHUXiEvc56FpNDyRFYKIS0EkUFyI3uGekeSLgnAe0Lf6V6kaJ4urzyBzstYv1V9rQJyPfrI8mugzYG47ve0NE6hMBnp1qDrqOtcIBbPdK98pFnjuf047N1UCXegIFXFYKOZ3YLZeX2hU8rv28ABs6UamgobKdjp7KWLpaBlsYfLwd6GZLV8xg1qFf1aTp0V78jAScnyKFP8AeAmZC2kNAn9QipJE4Fdy14HH7itiVqHqDugepiuoZZRDy8NORWR9y2GMAhgwCuxnwLK8enNrnPJf3OzWKF7Ot1w9ZwJGlVRmgnBWFjyFSEXpnDHMeVjHLzI4D7hpB3DcOtnLiS1S9cjcGf4TtPtUc26p2Kd4rUcmfSOJ7yUan702xYt0EO8xGAKwhS4tvBIsuNAdYH40MXC4c63S0GLLtsyA0BXCSW3Off34Xr7XT0uIraBxV42kD6FnIv77JPvNSqk7eMwG8naP3ckX0f9pX16UoyLlL0zlCtZI6fvgKPUaBQ3RrtCAlQCOHWjwhkJcjyZ02wgNNC4jiz16R0HR4NimBeCruagHRKqmrrLYMl3ulR1izlxol0aEMfkGpD1sAWwIZmLWkuC3F9i7bwGu1e6FW1ak2s1VVFrSJKlczSgr8HofXwTXrNMLAmqhpTY3tzLmmeciZu9FmDfKfC4ZzGbU38LcIGzp1TI8vt0BNXioY5379XIjEl4bBJJW6B5nD6x139c7ikfl6tq2Sel66vkpqnCCHB2pGRbz86xLT6DRhCaY6VnUaZThRTi6w4KnRnEhW7DsvTpQicEIc9AL8U3ore7rLiHPTsy1xci584gNUhAQHYEEVHoS19graHqef1zhZwdJDd6MAwc6DmUEcj0tMztXm5L9U9Fa1jN5W3zN5Op0nKzNEuxqkL5zded7KYseQAhCG7KFSdyC8DEIOAzxtCpQ2nB2J8vc71RbPRrIoOhiJAFRDkEz6i2OBV2ro8xcTR3EaVvr2D5z908MfTM9JwYSw2MA6P7joUiLVc4th8MJHWck1akQ2a4SWUqeYhGFy1IpTLADw6KJFXkeGz9mzD4BYhyei7NqJsRCReCGbxrDvVjB7wonD9GpvZehKPTaGFSk5JZFcI6F45Chd1RUq1sL2M6qp5ZdZmFj0mor3FNUZ5xLSK5ihbFVHb9ZdfSyA2E6XcOG72IvDk0EYDnhTz6f0Gj56npRGWXm7CBkKRKecP224NiqcXUbQZIlDibuhpJ81KKY1SB0wArLIO9Rwj4UNZ5KxLQHXqoXDaDqWtcrw0SIB00CsEpL6jr6Iblug6bKbFJKgxlFJfeu2tBL3UECwuD11FDieDADSrBnCvHMwnYzYsu24jTvvxIHOD7sIUbPg7gtz0hUmEldnEKQGykMjVQ1vvw4NyFzNZZwtDEXwZ8aY6UmQC3083A2v2vS7ZTkoM3O73c0tmKC09XtwM4FWkkv6czhtAP9N3BWQUTYCIcv80vVgjSBgaqPgU9LTg9o2cB4WqI4OK0rFrNjpGEv8hCnNt3b6I7JmL5uHuFDXSLhiNf4lkeSQCKuiZ77VZpx3BFqcVMU6bg1cC64n6vwTYJizfTJJSM930ZI0UrAMAFVJ3fnkjZeGleHuz94VTELFQ79gEpaFzIddLaycQKqyfTS3eOCqk2kVyd3cZ99JJF5QF4Hx5p0oCF3bDhQDU7y1RmF0rAeSHMd5Os6nvg5lJYsw6Jnf10NcIFIU5s3ErRQDXAE0foBxltPWAu9xxIRfIzGbJ9MVlEVu88B70yIZ8cUiLDD0K6NEOkAGmu3eAmSvQvQl4EN71fzVeEay83O3mppEaYOKGLBAPql0n35FvMOFT1ny26a0k06tfDRW07SQb7qxBcCEorqDGd6EXo3Gbk05F83BWAUaJEO5QdhvLWnQMmq56Vy7t1JfQVUrtQ4HUEIUQvovy4LsRlaM2kYN7Q903Fa2ZRc8uNC1vGNJ6P4sFO8lLqyfP6dgujzFRiG625FthlXcpFM9bdiN5IPige4UQfZvOGabtJfhC4TszaBoA72Bkvvx8B54HislZSKhJZ9PrLyc4CBCbDo1h9TPzvqkD47LwOo2vJf1HCLPBKp2rBGcA6r6H9t4QLcJMzfEbdcBF4SBldvtvVjLeOpCAvTlxUD7widyFNXNW3IcW9GuNh2UIMODpNAr3T5I9psHlSd7F1Be0e0DSmMbF6e58Ho9JXcn3JlNdM6CPc07VxxmFOioMe2eUlmn052eZ8klA5Q9azqV9L8wF36yNXTDtJSX4IrEddDK2CIRPgTZT5ACqTEfjgyoHDqQUGk0PFt3TgsTqScZ094XX7yjX3z0cDVZJNuNlCjIJ2Bn0NbIsz92EoA9mL4qur6rmZUHI53zcKLoV6PBTSKU8MqQtPjZSAtKLi20Od5SyS2LNTtmAT7iOBhyXgoAzpFs7mD81p8INm01F94Cwd6ZZDGyETqYOkPq221m8X0Qhz1KLFYALEeNjnt8FRde4b6jMHHK6ckiCaHPD1GiC4yG9dKr3dc1qRezKnw2cWpX2SD9T38d8uE4eDARCDJgLKHL2aoTFQvcfBEogQhBR30V08D3hL2gZ5TOKzzuZHCeqXCJyC4YHbiWgGEpl9ICMdWFKVsurtJ23YNp3tjjU6PxqrjSDTEs5JFIA9gML3zDgRyuENHN2J2J7ruqm0MLa8dqELBQ0HKy1Sa9wDQjs3lJLXruh1rxHHGNr1IRLabVK81vpYL2EaP7LgR2X5c5VZYFu7rB5Z0TSdIfZldIOVwW2C3ay3oTn83DCUkJ2irfw3ND3zGVMWIaeKCt5nBmvPHq3IKEhKStS6LmEWNcflLCq9d81JteY6v2tP4M8lOuUw1bK7jHB50Rg5QCIzk0MlXCWdoBemG7CS8jtfLft6PHX5XYX7whwKq0JWwa0hhggBrEvPTDCVchUXr509AlJMX3Ds1Tj9bdF785QjbOJbA4Xz3GkEWEjdVdJCDR3J6m6Vvxb3rnW0vomnwnJFJMGXpZz9zmjuF7hVqWQnAYuKGL9qQf3XuJOCwVshFaTQeI3schKrx4eL63ZUCxkJhDysLDL5uW83rSn2WNtOmflTrT3MUCXMgwHZjKhObo19eyE4Bo2K5mtoo7sIdhjiRyjRt6LBYfzD5fCea1ABZHhjJQps14U3ErktErZ2SkFHPjhcXh1GgzLm5GBcCHl8F9wkTIMeKnREgurItGIBFMQ4vf9xPjIwGbS4Yd42W1O0IdFHzAVq4v9n2V9HGnnK1PWUSu2q7RA1kp0W5WqTp17QjCjuA0c0CLBLXKVH9AZIW3qqiCfhVtIxlT8Dukuk6HRG1vMW0ZX0B52040zsCvT2sTwne4goWt3WvAs9DXTVT0X5ZCaK2ZgaI2hFyLEd7eA41K2skoMfkR0pQLAE4epH75LEbySn9nI84ANG7opURxTCsoeIZix32kKsf5RARxEBwAemdLTXGcCwENL5Nkf570WHAznceH5wG0LEtdHPMbRI9E6gEUl9zlCJ15EFib2z7uNFYs3q6IuOXVEDoqBTr9bzVLsrIiYYdhkK"
end PySem.W.Fast
open PySem PySem.W PyProof.Rows
set_option maxRecDepth 100000 in
set_option maxHeartbeats 0 in
theorem PySem.Challenge.cw_asktally_k50_whole_talks_judged_again_holds : PySem.Challenge.rw_asktally_k50_whole_talks_judged_again.Holds := by
 w_on; o_law; k_head; (case hw=>w_witness2)
 k_fill
 apply Mine.walk (l:=PySem.Challenge.rw_asktally_k50_whole_talks_judged_again) rfl rfl (λw h Y=>PySem.W.kIn_of Y) ?F
 case F =>
  intro w mg fa h KX G hmg
  refine' Mine.all_mk KX G hmg ?aL ?lL ?cL ?kL ?h0 ?h1 ?h2 ?h3 ?h4 ?h5 ?h6 ?h7 ?h8 ?h9 ?h10 ?h11 ?h12 ?h13 ?h14 ?h15 ?h16 ?h17 ?h18 ?h19 ?h20 ?h21 ?h22 ?h23 ?h24 ?h25 ?h26 ?h27 ?h28 ?h29 ?h30 ?h31 ?h32 ?h33 ?h34 ?h35 ?h36 ?h37 ?h38 ?h39 ?h40 ?h41 ?h42 ?h43 ?h44 ?h45 ?h46 ?h47 ?h48 ?h49 ?h50 ?h51 ?h52 ?h53 ?h54 ?h55 ?h56 ?h57 ?h58 ?h59 ?h60 ?h61 ?h62 ?gmc ?dbc ?asc ?mcc ?scc ?Io ?gmmM ?gmmW ?gmmC ?dbmI ?dbmW ?dbmU ?dbmH ?dbmT ?dbmC ?dbmB ?dbmR ?dbmG ?dbmE ?asmI ?asmP ?asmC ?asmN ?asmR ?mcmI ?mcmS ?mcmR ?scmI ?scmE ?scmS ?scmT ?scmW ?scmF ?oe ?gmn_trees ?gmn_field ?gmn_degrees ?dbn_game ?dbn_awaited ?dbn_claims ?dbn_s ?dbn_heard ?dbn_tossed ?dbn_held ?dbn_places ?asn_game ?asn_number ?asn_many ?asn_held ?asn_s ?asn_tossed ?asn_truths ?mcn_game ?mcn_helper ?mcn_next_round ?mcn_boxes ?scn_text ?scn_row ?scn_most_within ?scn_most_parts ?scn_place ?scn_parts ?g1 ?g3 ?g5 ?g6 ?g7 ?g8 ?e1 ?e2 ?e3 ?w1 ?w2 ?w3 ?j5 ?j6 ?j7 ?j8 ?q5 ?q6 ?q7 ?q8 ?p5 ?p6 ?p7 ?p8 ?wh ?ge ?xmo ?z0 ?z1 ?z2 ?z3 ?z4 ?z5 ?z6 ?z7 ?z8 ?z9 ?z10 ?z11 ?z12 ?z13
  case aL|lL|cL|kL=>k_is
  case h0|h1|h2|h3|h4|h5|h6|h7|h8|h9|h10|h11|h12|h13|h14|h15|h16|h17|h18|h19|h20|h21|h22|h23|h24|h25|h26|h27|h28|h29|h30|h31|h32|h33|h34|h35|h36|h37|h38|h39|h40|h41|h42|h43|h44|h45|h46|h47|h48|h49|h50|h51|h52|h53|h54|h55|h56|h57|h58|h59|h60|h61|h62=>exact%[_,by k_is,_,%[_,_,_,_,_,_,_,_,0,by k_is|by k_is]|by k_is]
  case gmc|dbc|asc|mcc|scc=>exact%[by k_is,by k_is,by k_is,by k_is,by k_is,by k_is|by k_is]
  case Io|gmmM|gmmW|gmmC|dbmI|dbmW|dbmU|dbmH|dbmT|dbmC|dbmB|dbmR|dbmG|dbmE|asmI|asmP|asmC|asmN|asmR|mcmI|mcmS|mcmR|scmI|scmE|scmS|scmT|scmW|scmF=>exact%[_,by k_is,by k_is,_,%[_,_,_,_,_,_,_,_,0,by k_is|by k_is]|by k_is]
  case oe|gmn_trees|gmn_field|gmn_degrees|dbn_game|dbn_awaited|dbn_claims|dbn_s|dbn_heard|dbn_tossed|dbn_held|dbn_places|asn_game|asn_number|asn_many|asn_held|asn_s|asn_tossed|asn_truths|mcn_game|mcn_helper|mcn_next_round|mcn_boxes|scn_text|scn_row|scn_most_within|scn_most_parts|scn_place|scn_parts=>delta Mine.HF; k_is
  case g1|g3|g5|g6|e1|e2|e3|w1|w2|w3|j5|j6|q5|q6|p5|p6|wh|ge|xmo=>k_is
  case g7|j7|q7|p7=>decide
  case g8=>exact Mine.kept_vals
  case j8=>exact Mine.sign_vals
  case q8=>exact Mine.ask_vals
  case p8=>exact Mine.plain_vals
  case z0|z1|z2|z3|z4|z5|z6|z7|z8|z9|z10|z11|z12|z13=>delta Mine.HZ; k_is
