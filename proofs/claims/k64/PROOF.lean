import PyProof.Rows.All
import Wide.All
import OpenK.AllK
import Wide.FinOn
import Lean
import PyProof.EqAt
import PyProof.EqKinds
import PyProof.TupleCall
import PySem.Challenge.RW_asktally_k64_best_liar_row_by_row
set_option Elab.async false
set_option linter.all false
set_option maxRecDepth 100000
set_option bootstrap.genMatcherCode false
set_option compiler.extract_closed false
local macro_rules|`(%[$xs,*|$y])=>do
 if y.raw.isIdent then if y.raw.getId==`List.nil then Lean.Macro.throwUnsupported
 if y.raw.isIdent then if y.raw.getId==`ae then return←xs.getElems.foldrM (fun x a=>do match x.raw.isNatLit? with|some _=>`($(Lean.mkIdent `aa) ($(Lean.mkIdent `pv) $x) $a)|_=>`($(Lean.mkIdent `aa) $x $a)) y
 let h←`(_);let r←`(rfl);let q←`(?_);let a←`(by omega);let b←`(by decide);let i:=Lean.mkIdent;let u←`($(i `aF) ($(i `neS) $b) ?_);let c←`($(i `T.cl))
 let o:=(xs.getElems.push y).flatMap fun x=>match x.raw.isNatLit? with|some 0=>#[h,r]|some 1=>#[r]|some 2=>#[h,h,r,r]|some 3=>#[a]|some 4=>#[b]|some 5=>#[r,r,r,b,r,b,b]|some 6=>#[q]|some 7=>#[u]|some 9=>#[c]|_=>#[x]
 `(⟨$o,*⟩)
local macro_rules|`(tactic|let%[$xs,*|$y]:=$e)=>do
 let g:=fun(f:Lean.Term->Lean.MacroM (Lean.TSyntax `rcasesPat))(t:Lean.Term)=>show Lean.MacroM (Lean.TSyntax `rcasesPat) from do
  match t with
  |`(%[$xs,*|$y])=>
   let p←(xs.getElems.push y).mapM fun x=>do let p←f x;`(Lean.Parser.Tactic.rcasesPatLo|$p:rcasesPat)
   `(rcasesPat|⟨$p,*⟩)
  |`($i:ident)=>`(rcasesPat|$i:ident)
  |_=>if t.raw.isNatLit?==some 1 then`(rcasesPat|$(Lean.mkIdent `rfl):ident)else`(rcasesPat|_)
 let p←g (g (g (g (g (g fun _=>`(rcasesPat|_)))))) (←`(%[$xs,*|$y]))
 `(tactic|obtain $p:rcasesPat:=$e)
local macro_rules|`(tactic|erw[$xs,*]$[at $h:ident]?)=>do
 let o:Array Lean.Term:=xs.getElems.map fun x=>⟨x.raw[1]⟩
 let l:=o.back!;let o:=o.pop
 match h with|some h=>`(tactic|let%[$o,*|$l]:=$h)|_=>`(tactic|refine %[$o,*|$l])
local macro_rules|`(⋯)=>`(by decide)
local macro_rules|`(#[1])=>`(λ _ _=>rfl)|`(#[2])=>`(by simp)|`(#[0])=>`(by omega)|`(#[$f:ident,$i:num,$s:ident,$e])=>`($f (i:=$i) ($s).nd rfl (Or.inl rfl) $e)
local macro_rules|`(tactic|exists $x:ident)=>do
 let i:=Lean.mkIdent
 `(tactic|refine $(i `F.ok) $x (fun _ _ _ _ h=>by cases h;subst_vars;rfl) (fun $(i `cdv) $(i `A) $(i `outer) $(i `s) $(i `H) $(i `vs) $(i `Q) $(i `E) $(i `hr) $(i `h)=>?_))
local macro_rules | `(tactic|omega)=>`(tactic|first | lia | omega +splitDisjunctions)
local macro_rules | `(command|def $n:declId $s:optDeclSig $b:declVal)=>`(command|noncomputable def $n:declId $s:optDeclSig $b:declVal)
local macro_rules | `(tactic|decide)=>`(tactic|decide +kernel)
local macro_rules | `(tactic|rfl')=>`(tactic|with_unfolding_all rfl)
local macro_rules | `(tactic|ac_rfl)=>`(tactic|(intro _ _ _ _ _ _ us hl;rcases us with _|⟨a,_|⟨b,_|⟨c,_|⟨d,_|⟨e,_|⟨f,_|⟨g,_|⟨h,us⟩⟩⟩⟩⟩⟩⟩⟩<;>first|rfl|(simp at hl)))
local macro_rules|`(#[$n,$f:ident,$d:ident,$p,$s])=>let i:=Lean.mkIdent;`($(i `FnOk) $(i `P) $(i `w) $(i `K) $(i `mg) $(i `base) $(i `CX0) $n $f $d $p $s)|`(#[$n,$x:str,$p,$s])=>let i:=Lean.mkIdent;`($(i `Cal) $(i `P) $(i `w) $(i `K) $(i `mg) $(i `base) $n $x $p $s)
local macro_rules|`(‹$x:ident›)=>return Lean.mkIdentFrom x (x.getId++`heap.objs.size)
local macro_rules|`(#[3])=>let i:=Lean.mkIdent;`($(i `CompScope.one) (by rfl') ⋯ rfl ⋯ rfl ⋯ (by rfl') (by rfl') (by rfl') rfl rfl)|`(#[4])=>let i:=Lean.mkIdent;`($(i `CompScope.two) (by rfl') ⋯ rfl ⋯ rfl ⋯ (by first | exact Or.inl rfl | exact Or.inr rfl) (by rfl') (by rfl') (by rfl') (by rfl') rfl rfl (by rfl') rfl rfl)|`(#[5])=>let i:=Lean.mkIdent;`($(i `CompScope.closed) (by rfl') ⋯ rfl ⋯ rfl (by rfl'))
local macro_rules|`(tactic|exists $n:num,$xs,*)=>do
 let i:=Lean.mkIdent;if n.getNat==4 then return ←`(tactic|intro $(i `NC) $(i `s) $(i `σ) $(i `H) $(xs.getElems)*)
 let i:=Lean.mkIdent;let a:=xs.getElems;let mut r:Array (Lean.TSyntax `tactic):=#[]
 for k in [0:a.size/3] do
  let z:=a[3*k+2]!;let v←if n.getNat==1 then`($(i `aZ) $(i `X) $(i `G) $z)else`($(i `cW) $z)
  r:=r.push (←`(tactic|let%[_,_,$(a[3*k]!)|$(a[3*k+1]!)]:=$v))
 `(tactic|($[$r];*))
local macro_rules|`(tactic|exists 3)=>let n:=Lean.mkIdent `no;`(tactic|refine ⟨fun vs H Q E h=>absurd h ($n vs H Q E),fun A outer s H args us vs Q E _ _ _ _ h=>absurd h ($n vs H Q E)⟩)
local macro_rules|`(command|instance $n:declId $s:declSig:=$v)=>do
 if v.raw.isNatLit?==none then Lean.Macro.throwUnsupported
 let i:=Lean.mkIdent;let b:=s.raw[0].getArgs
 let c:Lean.TSyntaxArray ``Lean.Parser.Term.bracketedBinder:=b.map (⟨·⟩)
 let a:Array Lean.Term:=b.flatMap fun x=>x[1].getArgs.map (⟨·⟩)
 let o:=v.raw.isNatLit?==some 1
 let r:=Lean.Syntax.mkApp ⟨n.raw[0]⟩ (if o then a++#[i `vs,i `H,i `Q,i `NG]else a)
 let t:Lean.Term←Nat.repeat (fun (g:Lean.Term->Lean.MacroM Lean.Term) (t:Lean.Term)=>show Lean.MacroM Lean.Term from if t.raw.isOfKind ``Lean.Parser.Term.forall then do return⟨t.raw.setArg 4 (←g ⟨t.raw[4]⟩)⟩else if t.raw.isOfKind ``Lean.Parser.Term.arrow then do return⟨t.raw.setArg 2 (←g ⟨t.raw[2]⟩)⟩else`($t->$r)) 60 pure ⟨s.raw[1][1]⟩
 let m:=i `mk
 if o then`(command|inductive $n:declId $c* ($(i `vs):ident:List $(i `V)) ($(i `H):ident:$(i `Hp)) ($(i `Q):ident:$(i `VK)) ($(i `NG):ident:$(i `XK)):Prop
 |$m:ident:$t)
 else`(command|inductive $n:declId $c*:Prop
 |$m:ident:$t)
local macro_rules|`(tactic|let $d:letDecl)=>if d.raw[0].isOfKind ``Lean.Parser.Term.letIdDecl then`(tactic|have $d:letDecl)else Lean.Macro.throwUnsupported
local macro_rules|`(let $d:letDecl;$b)=>`(have $d:letDecl;$b)
local macro_rules|`(command|example:=[$xs,*])=>do
 let a:=xs.getElems;let i:=Lean.mkIdent;if a[0]!.raw.isIdent then
  let c:Array Lean.Command←(Array.range (a.size/2)).mapM fun k=>do
   let x:Lean.Ident:=⟨a[2*k]!⟩;let y:=a[2*k+1]!
   if y.raw.isIdent then`(command|abbrev $x:ident := @$(⟨y.raw⟩):ident)else if y.raw.isOfKind `«term[_]» then`(command|abbrev $x:ident : List PySem.Str := $y)else if y.raw.isNatLit?.isSome then`(command|abbrev $x:ident : $(i `Stmt) := $(i `top) $y)else`(command|abbrev $x:ident : $(i `Stmt) := $(i `bp) $(⟨y.raw[0]⟩) $(⟨y.raw[1][0]⟩))
  return Lean.mkNullNode c
 Lean.Macro.throwUnsupported
local macro_rules|`(command|example:=$t:str)=>do
 let l:=t.getString.toList
 let c←(Array.range (l.length/11)).mapM fun k=>`(command|noncomputable def $(Lean.mkIdent (.mkSimple s!"tw{((l.drop (11*k)).take 11).foldl (fun a c=>let n:=c.toNat;a*62+(if n<58 then n-48 else if n<91 then n-55 else n-61)) 0}")):ident:=())
 return Lean.mkNullNode c
local macro_rules|`(#[6])=>let i:=Lean.mkIdent;`($(i `Value)->$(i `Shared)->Prop)|`(#[7])=>let i:=Lean.mkIdent;`(List ($(i `Addr)×$(i `Obj)))|`(#[8])=>let i:=Lean.mkIdent;`($(i `Inv) $(i `X) $(i `NC) $(i `σ))|`(#[9])=>let i:=Lean.mkIdent;`($(i `Str)->Option $(i `Value))
local macro_rules|`(#[$e,0])=>`(by simpa using $e)
local macro_rules|`(tactic|exists 5)=>let i:=Lean.mkIdent;`(tactic|(intro $(i `X) $(i `hP) $(i `hw) $(i `hK) $(i `hc) $(i `i) $(i `NC) $(i `s) $(i `σ) $(i `H) $(i `E) $(i `I) $(i `hf) $(i `st) $(i `hg);subst $(i `hP) $(i `hw) $(i `hK)))
local macro_rules|`(#[$x:str,$s:ident])=>let i:=Lean.mkIdent;`($(i `Fun) $(i `K) $x $x $s $(i `f) $(i `fd))|`(#[$x:str,$y:str,$s:ident])=>let i:=Lean.mkIdent;`($(i `Fun) $(i `K) $x $y $s $(i `f) $(i `fd))
local macro_rules|`(tactic|apply $e)=>`(tactic|refine $e)
local macro_rules|`(‹$x:ident›)=>do
 let i:=Lean.mkIdent;let n:=x.getId
 if let .str m "p":=n then return←`($(i m) (P:=$(i `l.prog)) (w:=$(i `w)) (base:=$(i `base)))
 if n==`X.a then`(by ac_rfl)else if n==`X.w then`($(i `wpAny) ($(i `model) $(i `X.prog) $(i `X.w)) $(i `X.A))else if n==`w.A then`($(i `wpAny) ($(i `model) $(i `prog) $(i `w)) $(i `A))else if n==`Tk.s then`(($(i `Tk.new) $(i `ts)).said $(i `ns) $(i `ts) $(i `p) $(i `rows))else if n==`Tk.a then`(($(i `Tk.new) $(i `ts)).ask $(i `ns) $(i `ts) $(i `p) $(i `rows))else Lean.Macro.throwUnsupported
noncomputable section
section
open PySem PySem.Spec PyProof.Rows
def ND.{u}{c:Prop}{h:Decidable c}(hc:¬c){α:Sort u}{t e:α}:ite c t e=e:=if_neg hc
def NE.{u}{c:Prop}{h:Decidable c}(hc:c){α:Sort u}{t e:α}:ite c t e=t:=if_pos hc
example:=[zD0,wpAny_bind,zF0,List.length_map,zH0,Nat.le_refl,zI0,wpAny_pure,zJ0,List.length_append,zK0,List.map_append,zM0,List.getElem?_eq_getElem,zN0,Heap.lt_size,zO0,Heap.get?_push_of_some,zP0,List.length_cons,zQ0,Nat.le_trans]
def NK.{u}{α:Type u}{a b:α}(h:a∈[b]):a=b:=List.mem_singleton.mp h
example:=[zS0,List.size_toArray,zT0,Option.some.inj,zU0,Nat.zero_le,zV0,Nat.ne_of_lt,zW0,List.getElem?_map]
def zX0.{u}{α:Type u}{l:List α}{i:Nat}{a:α}(h:l[i]?=some a):∃h:i<l.length,l[i]=a:=List.getElem?_eq_some_iff.mp h
def zY0.{u}{α:Type u}{a b:α}{l:List α}(h:a∈b::l):a=b∨a∈l:=List.mem_cons.mp h
example:=[zZ0,List.take_add_one,qA0,List.take_length,qB0,Heap.get?_push_size,qC0,List.mem_of_getElem?,qD0,Int.emod_nonneg,qE0,List.map_cons,qF0,List.mem_cons_self,qG0,List.getD_eq_getElem?_getD,qH0,Int.emod_lt_of_pos,qI0,Bool.false_ne_true,qJ0,List.length_take,qK0,List.length_singleton,qL0,Int.emod_eq_of_lt,qM0,List.mem_cons_of_mem,qN0,Nat.le_succ,qO0,List.length_range]
def qP0.{u}{α:Type u}{a:α}{s t:List α}(h:a∈s++t):a∈s∨a∈t:=List.mem_append.mp h
example:=[qQ0,Nat.lt_of_lt_of_le,qR0,List.getElem_mem,qS0,Int.toNat_natCast,qT0,Nat.lt_irrefl]
def qU0{α β:Type}{f:α->β}{x:Option α}{b:β}(h:x.map f=some b):∃a,x=some a/\f a=b:=Option.map_eq_some_iff.mp h
abbrev qV0:=@List.mem_append_right
abbrev qW0:=@Int.mul_le_mul_of_nonneg_left
end
section
open PySem PySem.Spec PyProof.Rows
example:=[zB1,decide_eq_false,zC1,decide_eq_true,zD1,PySem.boot_len,zE1,PassesOwn.never,zF1,PySem.F.plainAttrs_list,zG1,Nat.succ_le_succ,zH1,List.length_nil,zJ1,Nat.lt_of_le_of_lt,zK1,PyProof.Rows.callWith_type1,zL1,List.getElem?_append_right,zM1,PySem.F.slot_list_append,zN1,PySem.F.type_list_append,zO1,wpAny_newObj_type,zP1,List.range_succ,zQ1,wpAny_callSpecial?_slot,zR1,List.getElem?_append_left,zS1,wpAny_field,zT1,wpAny_ite_split,zU1,of_decide_eq_true,zV1,List.length_replicate,zW1,Int.eq_ofNat_of_zero_le,zX1,List.sum_cons,zY1,Array.length_toList,zZ1,PySem.mem_of_lookup,qA1,List.replicate_succ,qB1,Int.le_refl,qC1,wpAny_truthy_bool,qD1,wpAny_setField_rec,qE1,PySem.W.kia_one,qF1,wpAny_call_entry,qG1,W.mg_none_of,qH1,wpAny_seqItems,qI1,Calls.spliced_cons,qJ1,List.length_set,qK1,Int.dvd_of_emod_eq_zero,qL1,List.filter_append,qM1,Nat.lt_succ_self,qN1,Int.pow_succ,qO1,PyProof.Rows.slot_tuple_getitem,qP1,List.map_congr_left,qQ1,List.drop_eq_getElem_cons,qR1,List.append_nil,qS1,wpAny_Call_Name_kw,qT1,call_meets,qU1,Bool.and_eq_true,qV1,List.not_mem_nil,qW1,lookup_relabel_local,qX0,Int.mul_comm,qX1,Int.zero_add,qY0,Calls.spliced_nil,qY1,List.flatten_cons,qZ0,F.slot_tuple_iterator_next,qZ1,W.mg_of,jA0,F.plain_max_loop,jA1,Int.emod_add_mul_ediv,jB0,Int.emod_emod,jB1,PyProof.Rows.boot_max,jC0,List.mem_singleton,jC1,Heap.size_push,jD0,wpAny_passesOwn,jD1,List.append_assoc,jE0,wpAny_comprehension_free,jE1,List.filter_congr,jF0,wpAny_of_eq,jF1,wpAny_getItem_str_slice,jG0,List.mem_cons,jG1,List.getElem?_range,jH0,Str.cps_append,jI0,List.drop_zero,jI1,List.getElem?_set_self,jJ0,Calls.callWith_builtin,jJ1,PySem.F.plainAttrs_str,jK0,wpAny_pyIter_tuple,jK1,Int.mul_one,jL0,builtinLookup_eq_fast,jL1,Nat.le_add_left,jM0,List.find?_cons,jM1,List.getElem?_reverse,jN0,Int.mul_emod,jN1,Int.natCast_add,jO0,List.length_filter_le,jO1,Int.add_emod,jP0,wpAny_mono,jP1,wpAny_holding,jQ0,wpAny_pyIter_list,jQ1,Int.zero_emod,jR0,Int.fdiv_eq_ediv_of_nonneg,jR1,List.getElem?_set_ne,jS0,Calls.evalArgs_plain,jS1,List.count_le_length,jT0,List.length_drop,jT1,wpAny_letGo,jU0,Nat.ne_of_gt,jU1,PySem.F.args_tuple_add_2,jV0,PySem.F.plainAttrs_tuple,jV1,Int.lt_or_le,jW0,Int.mul_nonpos_of_nonneg_of_nonpos,jW1,Int.natCast_nonneg,jX0,Bool.eq_iff_iff,jX1,PySem.F.entry_tuple_add,jY0,List.any_cons,jY1,List.sum_append,jZ0,wpAny_attempt,jZ1,Int.le_of_dvd,wA0,PySem.F.slot_list_count,wA1,PySem.F.type_list_count,wB0,PySem.F.slot_tuple_add,wB1,codeAny_compStart_list,wC1,wpAny_pyIter_enum,wD0,Nat.lt_succ_of_lt,wD1,List.flatMap_cons,wE0,Int.emod_add_emod,wE1,Txt.slice_le,wF0,PySem.F.slot_dict_get,wF1,Nat.sub_zero,wG0,Int.mul_le_mul_of_nonneg_right,wG1,PyProof.Rows.boot_sum,wH0,PyProof.Rows.boot_all,wI0,List.all_eq_true,wI1,wpAny_isInstance,wJ0,Nat.le_add_right,wJ1,List.mem_append_left,wK0,Around.under_plainId,wK1,wpAny_pyIter_revIter,wL0,wpAny_updateSeq_pair,wL1,Nat.pow_le_pow_right,wM0,Nat.mul_le_mul_right,wM1,List.all_cons,wN0,Int.mul_assoc,wN1,typeIs_str,wO0,List.filterMap_cons,wO1,wpAny_execs_nil,wP0,PySem.W.plainGet_of,wP1,List.nil_append,wQ0,F.slot_int_rmul,wQ1,post_val_or_str,wR0,List.getElem_of_mem,wR1,typeLookup_type,wS0,Option.map_some,wS1,ne_true_of_eq_false,wT0,F.slot_zip_next,wT1,Int.dvd_add,wU0,Int.mul_sub,wU1,List.flatMap_append,wV0,List.length_flatMap,wV1,List.filter_map,wW0,Int.natCast_pow,wW1,Nat.le_of_lt,wX0,PySem.W.callWith_K,wX1,F.args_str_split_2,wY0,F.args_tuple_mul_2,wY1,Int.pow_zero,wZ0,Nat.sub_self,wZ1,of_decide_eq_false,vA0,List.getElem?_drop,vA1,Bool.and_false,vB0,isSubtype_type,vB1,wpAny_tryCatch,vC0,wpAny_rule,vC1,F.entry_str_split,vD0,F.entry_tuple_mul,vD1,Str.length_append,vE0,decide_eq_true_eq,vE1,Bool.or_false,vF0,plainId_quiet,vG0,wpAny_onRaise,vG1,or_false,vH0,Int.mul_add,vH1,noFill_tuple_add,vI0,F.entry_max_loop,vI1,F.slot_str_split,vJ0,F.slot_tuple_mul,vJ1,codeAny_mono,vK0,if_true,vK1,Nat.succ_mul,vL0,Nat.pow_succ,vL1,Int.add_comm,vM0,typeIs_int]
end
example:=[WA,["self"],WB,["tree"],WC,["self","values"],WD,["text"],WE,["game"],WF,["self","signs"],WG,["_law_feed_here","_law_many"],WH,["values","r","p"],WI,["self","game"],WJ,["self","game","helper"],WK,["scan","within"],WL,["self","numbers","s"],WM,["self","place"],WN,["_law_tree_here"],WO,["self","point","s"],WP,["self","s"],WQ,["_law_p","_law_many"],WR,["_law_tree_here","_law_name"],WT,["_law_feed_here","_law_names_here","_law_room","_law_deep"],WU,["tree","switches","point","p"],WV,["_law_names_here","_law_trees"],WW,["tree","switches","setting"],WX,["term","boxes","asking"],WY,["machine","doubter","coins"],WZ,["_law_tree_here","_law_switches","_law_setting"],Wa,["self","switches","trees","field"],Wb,["value","p"],Wc,["self","r"],Wd,["word","first","second"],We,["sign","first","second","p"],Wf,["self","word"],Wg,["self","game","number","many","due","s","coins"],Wh,["machine","doubter"],Wi,["game","coins"],Wj,["_law_many"],Wk,["self","text","row","most_within","most_parts"],Wl,["self","within"],Wm,["word","first","second","p"],Wn,["name","trees"],Wo,["numbers","p"],Wp,["tree","switches"],Wq,["game","s","coins"],Wr,["first","second","p"],Ws,["self","place","said","asking"],Wt,["self","many","due","s","coins"],Wu,["end","go","if","set","say"],Wv,["_law_script","_law_k"],Ww,["game","helper","coins"],Wx,["_law_trees","_law_switches"],Wy,["_law_feed_here","_law_counts_here","_law_p"],Wz,["_law_switches","_law_trees","_law_p","_law_over"],W9,["_law_feed_here","_law_most","_law_room"]]
abbrev VA:List PySem.Str:=["_law_game","_law_claims_here","_law_talk"]
namespace L2
open PySem PySem.Spec PyProof.Rows
abbrev Key:=Sum Int Str
def tY:Key->Value->Bool
 |.inl k,v=>Value.isInt k v
 |.inr x,v=>Value.isStrOf x v
def keyH(w:World):Key->Int
 |.inl k=>hashInt k
 |.inr x=>hashStr w x
def de:∀{k:Key}{v:Value},tY k v=true->(∃i t,k=Sum.inl i/\v=Value.int i t)∨(∃x t,k=Sum.inr x/\v=Value.str x t)
 |.inl i,v,h=>by
   let%[t|e]:=Value.isInt_shape (k:=i) (v:=v) h;exact .inl %[i,t,1|e]
 |.inr x,v,h=>by
   let%[t|e]:=Value.isStrOf_shape (x:=x) (v:=v) h;exact .inr %[x,t,1|e]
def BK(i:Int)(t:Tok):tY (.inl i) (.int i t)=true:=by simp [tY,Value.isInt]
def BJ(x:Str)(t:Tok):tY (.inr x) (.str x t)=true:=by simp [tY,Value.isStrOf]
def Jv(a b:Int):decide ((Sum.inl a:Key)=Sum.inl b)=(a==b):=by
 by_cases e:a=b
 . subst e;simp
 . let h:¬ (Sum.inl a:Key)=Sum.inl b:=λq=>e (Sum.inl.inj q)
   rw[zB1 h];exact(beq_eq_false_iff_ne.mpr e).symm
def Js(a b:Str):decide ((Sum.inr a:Key)=Sum.inr b)=decide (a=b):=by
 by_cases e:a=b
 . subst e;simp
 . let h:¬ (Sum.inr a:Key)=Sum.inr b:=λq=>e (Sum.inr.inj q)
   rw[zB1 h,zB1 e]
def Ju(a:Int)(b:Str):decide ((Sum.inl a:Key)=Sum.inr b)=false:=zB1 (λq=>nomatch q)
def Jt(a:Str)(b:Int):decide ((Sum.inr a:Key)=Sum.inl b)=false:=zB1 (λq=>nomatch q)
def dN(prog:Program)(w:World):PySem.KeyKind prog w Key where
 is:=tY
 hash:=keyH w
 inj:=λv a b ha hb=>by
  rcases de ha with⟨i,t,rfl,rfl⟩ | ⟨x,t,rfl,rfl⟩
  . rcases de hb with⟨j,u,rfl,e⟩ | ⟨y,u,rfl,e⟩
    . injection e with e1 _;rw[e1]
    . exact nomatch e
  . rcases de hb with⟨j,u,rfl,e⟩ | ⟨y,u,rfl,e⟩
    . exact nomatch e
    . injection e with e1 _;rw[e1]
 byValue:=λk v h=>by
  rcases de h with⟨i,t,rfl,rfl⟩ | ⟨x,t,rfl,rfl⟩ <;> rfl
 pyHash:=λhv h=>by
  rcases de hv with⟨i,t,rfl,rfl⟩ | ⟨x,t,rfl,rfl⟩
  . exact wpAny_pyHash_int h
  . exact wpAny_pyHash_str h
 eqBool:=λhu hv h=>by
  rcases de hu with⟨i,t,rfl,rfl⟩ | ⟨x,t,rfl,rfl⟩
  . rcases de hv with⟨j,u,rfl,rfl⟩ | ⟨y,u,rfl,rfl⟩
    . rw[Jv]at h;exact wpAny_eqBool_int h
    . rw[Ju]at h;exact SeqAt.EqAt.int_str i t y u _ _ _ _ h
  . rcases de hv with⟨j,u,rfl,rfl⟩ | ⟨y,u,rfl,rfl⟩
    . rw[Jt]at h;exact SeqAt.EqAt.str_int x t j u _ _ _ _ h
    . rw[Js]at h;exact wpAny_eqBool_str h
 «strs»:=λk x t v h=>by
  rcases de h with⟨i,u,rfl,e⟩ | ⟨y,u,rfl,e⟩
  . exact nomatch e
  . injection e with e1 _;subst e1;cases v <;> rfl
def wU(prog:Program)(w:World)(i:Int)(t:Tok):(dN prog w).is (.inl i) (.int i t)=true:=BK i t
def wT(prog:Program)(w:World)(x:Str)(t:Tok):(dN prog w).is (.inr x) (.str x t)=true:=BJ x t
inductive V where
 |non | bl (b:Bool) | int (i:Int) | str (x:Str) | byt (b:Array UInt8) | flt (b:UInt64) | ref (a:Addr) | ty (n:String)
 deriving DecidableEq
def RelV:V->Value->Prop
 |.non,u=>u=Value.none
 |.bl b,u=>u=Value.bool b
 |.int i,u=>∃t,u=Value.int i t
 |.str x,u=>∃t,u=Value.str x t
 |.byt b,u=>∃t,u=Value.bytes b t
 |.flt b,u=>∃t,u=Value.float b t
 |.ref a,u=>u=Value.ref a
 |.ty n,u=>u=Value.type n
abbrev Vals:List V->List Value->Prop:=Paired RelV
def Vals.length(r:Vals xs us):xs.length=us.length:=Paired.length r
def Vals.get:∀{xs:List V}{us:List Value}{i:Nat}{x:V},Vals xs us->xs[i]?=some x->∃u,us[i]?=some u/\RelV x u
 |_,_,_,_,.nil,e=>by simp at e
 |_,_,0,_,.cons r _,e=>by simp at e;subst e;erw[0,r]
 |_,_,i+1,x,.cons _ t,e=>by
   let%[u,h1|h2]:=Vals.get (i:=i) (x:=x) t #[e,0];erw[u,by simpa using h1,h2]
def Vals.set{x:V}{u:Value}(r:RelV x u):∀{xs:List V}{us:List Value}(i:Nat),Vals xs us->Vals (xs.set i x) (us.set i u)
 |_,_,_,.nil=>.nil
 |_,_,0,.cons _ t=>.cons r t
 |_,_,i+1,.cons q t=>.cons q (Vals.set r i t)
def Vals.append:∀{xs ys:List V}{us ws:List Value},Vals xs us->Vals ys ws->Vals (xs++ys) (us++ws)
 |_,_,_,_,.nil,s=>s
 |_,_,_,_,.cons r t,s=>.cons r (Vals.append t s)
def Vals.take:∀{xs:List V}{us:List Value}(n:Nat),Vals xs us->Vals (xs.take n) (us.take n)
 |_,_,0,_=>.nil
 |_,_,_+1,.nil=>.nil
 |_,_,n+1,.cons r t=>.cons r (Vals.take n t)
def Vals.drop:∀{xs:List V}{us:List Value}(n:Nat),Vals xs us->Vals (xs.drop n) (us.drop n)
 |_,_,0,r=>r
 |_,_,_+1,.nil=>.nil
 |_,_,n+1,.cons _ t=>Vals.drop n t
def RelO:Option V->Option Value->Prop
 |some v,some u=>RelV v u
 |none,none=>True
 |_,_=>False
def KV{κ:Type}:List (κ×V)->List (κ×Value)->Prop:=Paired fun(p:κ×V)(q:κ×Value)=>p.1=q.1/\RelV p.2 q.2
def kV:Key->V
 |.inl i=>.int i
 |.inr x=>.str x
inductive HO where
 |lst (xs:List V)
 |tup (xs:List V)
 |dK (NF:List (Key×V)) | dT (NF:List (List Key×V))
 |set (S:Int->Bool) (n:Nat)
 |ins (C dx:Addr) (fs:List (Str×V))
 |own (x:Addr)
 |xd (fs:List (Str×V))
 |met (f x:Addr)
 |rng (lo hi:Int)
 |frz (o:Obj) (u:HO)
 |tbl (ps:Array Value)
 |ext (φ:Heap->Prop)
abbrev Hp:=Addr->Option HO
def upd(H:Hp)(a:Addr)(o:HO):Hp:=λb=>if b=a then some o else H b
def ai:upd H a o a=some o:=by unfold upd;rw[NE rfl]
def ay{a b:Addr}(h:b≠a):upd H a o b=H b:=by unfold upd;rw[ND h]
def bu{H:Hp}{a b:Addr}{o u:HO}(h:H a=some o)(h':H b=some u)(d:o≠u):a≠b:=by
 intro e;subst e;rw[h]at h';exact d (zT0 h')
def aP{H:Hp}{a b:Addr}{o:HO}(h:H a=some o)(h':H b=none):a≠b:=by
 intro e;subst e;rw[h]at h';cases h'
section
variable (P:Program)(w:World)
def ObjOk(H:Hp)(h:Heap)(a:Addr):HO->Prop
 |.lst xs=>xs.length<=sizeLine/\∃(its:List Value) (n:Nat),Vals xs its/\h.get? a=some { cls:=.type "list",data:=.seq its.toArray n }
 |.tup xs=>xs.length<=sizeLine/\∃its:List Value,Vals xs its/\IsTup h a its.toArray/\∃o,h.get? a=some o/\o.dict=none
 |.dK NF=>NF.length<=sizeLine/\(a==sysModules)=false/\∃vs,KV NF vs/\h.DictOf (dN P w) a vs
 | .dT NF=>NF.length<=sizeLine/\(a==sysModules)=false/\∃xs:List (List Key×Addr×Value),
  Paired (fun(p:List Key×V)(q:List Key×Addr×Value)=>p.1=q.1/\H q.2.1=some (.tup (p.1.map kV))/\RelV p.2 q.2.2) NF xs/\
  ∃o es ep,h.get? a=some o/\o.ExactDict/\o.data=.dict es ep/\es.toList=xs.map (entryOfKey (tupleKind (dN P w)))/\(xs.map (·.1)).Nodup
 |.set S n=>h.SetOf (intKind P w) a S n
 | .ins C dx fs=>H dx=some (.own a)/\fs.length<=1000/\dx≠a/\h.get? a=some (PySem.W.instObj C dx)/\
  ∃mA,h.Ns1 dx mA/\(∀f,RelO (fs.lookup f) (mA f))/\PySem.Within mA (fs.map (·.1))
 |.own _=>∃o,h.get? a=some o
 |.xd fs=>∃mA,h.Ns1 a mA/\∀f,RelO (fs.lookup f) (mA f)
 |.rng lo hi=>∃t u v,h.get? a=some { cls:=.type "range",data:=.fields #[.int lo t,.int hi u,.int 1 v] }
 |.frz o u=>h.get? a=some o/\ObjOk H h a u
 |.tbl ps=>h.get? a=some { cls:=.none,data:=.fields ps }
 |.met f x=>h.get? a=some (PySem.W.methodObj (.ref f) (.ref x))
 |.ext φ=>φ h/\(∃o,h.get? a=some o)/\∀h1 h2:Heap,φ h1->(∀o,h1.get? a=some o->h2.get? a=some o)->φ h2
def HOk(H:Hp)(h:Heap):Prop:=∀a o,H a=some o->ObjOk P w H h a o
end
section
variable {P:Program}{w:World}{H H':Hp}{h h':Heap}{a:Addr}{o:HO}
def ObjOk.lt(x:ObjOk P w H h a o):a<h.objs.size:=by
 cases o with
 |lst xs=>erw[_,_,_,_,e]at x;exact zN0 e
 |tup xs=>erw[_,_,_,p,_]at x;exact p.lt
 |dK NF=>erw[_,_,_,_,o,_,_,e,_]at x;exact zN0 e
 |dT NF=>erw[_,_,_,_,o,_,_,e,_]at x;exact zN0 e
 |set S n=>erw[o,_,_,_,e,_]at x;exact zN0 e
 |ins C dx fs=>erw[_,_,_,e,_]at x;exact zN0 e
 |own y=>erw[_,e]at x;exact zN0 e
 |xd fs=>erw[_,%[_,_,_,e|_],_]at x;exact zN0 e
 |rng lo hi=>erw[_,_,_,e]at x;exact zN0 e
 |frz ob u=>erw[e,_]at x;exact zN0 e
 |tbl ps=>exact zN0 (show h.get? a=some _ from x)
 |met f y=>exact zN0 (show h.get? a=some _ from x)
 |ext φ=>erw[_,%[_|e],_]at x;exact zN0 e
def Paired.mapP{α β:Type}{F G:α->β->Prop}:∀{l₁:List α}{l₂:List β},Paired F l₁ l₂->(∀a b,F a b->G a b)->Paired G l₁ l₂
 |_,_,.nil,_=>.nil
 |_,_,.cons r t,f=>.cons (f _ _ r) (Paired.mapP t f)
def ObjOk.stay(x:ObjOk P w H h a o)(k:∀b u,(b=a∨H b=some (.own a))->h.get? b=some u->h'.get? b=some u)
 (ho:∀b,H b=some (.own a)->H' b=some (.own a))(ht:∀b xs,H b=some (.tup xs)->H' b=some (.tup xs)):ObjOk P w H' h' a o:=by
 induction o with
 |lst xs=>erw[z,its,n,r,e]at x;erw[z,its,n,r,k _ _ (.inl rfl) e]
 |tup xs=>erw[z,its,r,%[ob,e|c],od,e2,d]at x;erw[z,its,r,%[ob,k _ _ (.inl rfl) e|c],od,k _ _ (.inl rfl) e2,d]
 |dK NF=>erw[z,y,vs,r,ob,es,ep,e,c]at x;erw[z,y,vs,r,ob,es,ep,k _ _ (.inl rfl) e,c]
 |dT NF=>
   erw[z,y,xs,r,ob,es,ep,e,c]at x;erw[z,y,xs,Paired.mapP r λp q z=>%[z.1,ht _ _ z.2.1|z.2.2],ob,es,ep,k _ _ (.inl rfl) e,c]
 |set S n=>erw[ob,es,ep,t,e,c]at x;erw[ob,es,ep,t,k _ _ (.inl rfl) e,c]
 |ins C dx fs=>
   erw[d,z,ne,e,mA,%[od,es,ep,e2|c],r]at x;erw[ho _ d,z,ne,k _ _ (.inl rfl) e,mA,%[od,es,ep,k _ _ (.inr d) e2|c],r]
 |own y=>erw[ob,e]at x;erw[ob,k _ _ (.inl rfl) e]
 |xd fs=>erw[mA,%[od,es,ep,e|c],r]at x;erw[mA,%[od,es,ep,k _ _ (.inl rfl) e|c],r]
 |rng lo hi=>erw[t,u,v,e]at x;erw[t,u,v,k _ _ (.inl rfl) e]
 |frz ob u ih=>erw[e,q]at x;erw[k _ _ (.inl rfl) e,ih q]
 |tbl ps=>
   let e:h.get? a=some { cls:=.none,data:=.fields ps }:=x;show h'.get? a=some { cls:=.none,data:=.fields ps };exact k a _ (.inl rfl) e
 |met f y=>
   let e:h.get? a=some (PySem.W.methodObj (.ref f) (.ref y)):=x;show h'.get? a=some (PySem.W.methodObj (.ref f) (.ref y));exact k a _ (.inl rfl) e
 |ext φ=>erw[p,%[o|e],st]at x;erw[st _ _ p λo q=>k _ _ (.inl rfl) q,%[o|k _ _ (.inl rfl) e],st]
def HOk.lt(x:HOk P w H h)(e:H a=some o):a<h.objs.size:=(x a o e).lt
def HOk.fresh(x:HOk P w H h)(e:h.objs.size<=a):H a=none:=by
 cases q:H a with
 |none=>rfl
 |some u=>exact absurd (qQ0 (x.lt q) e) (qT0 _)
def HOk.kept(x:HOk P w H h)(k:∀b u,h.get? b=some u->h'.get? b=some u):HOk P w H h':=λa o e=>
 (x a o e).stay (λb u _ q=>k b u q) (λ_ q=>q) λ_ _ q=>q
def HOk.laid(x:HOk P w H h)(k:∀b u,h.get? b=some u->h'.get? b=some u)(hp:h.objs.size<=a)(new:ObjOk P w (upd H a o) h' a o):HOk P w (upd H a o) h':=λb u e=>by
 let hn:=x.fresh hp
 by_cases hb:b=a
 . subst hb;rw[ai]at e;cases e;exact new
 . rw[ay hb]at e;exact(x b u e).stay (λc v _ q=>k c v q) (λc q=>by rw[ay (aP q hn)];exact q) λc xs q=>by rw[ay (aP q hn)];exact q
end
def Rd(H:Hp)(a:Addr)(u:HO):Prop:=H a=some u∨∃o,H a=some (.frz o u)
def Rd.ok{P:Program}{w:World}{h:Heap}(r:Rd H a u)(x:HOk P w H h):ObjOk P w H h a u:=by
 rcases r with r | ⟨o,r⟩
 . exact x a u r
 . let%[_|q]:=x a _ r;exact q
def Mut:Option HO->Prop
 |some (.lst _)=>True
 |some (.dK _)=>True
 |some (.dT _)=>True
 |some (.set _ _)=>True
 |some (.ins _ _ _)=>True
 |some (.ext _)=>True
 |_=>False
section
variable {P:Program}{w:World}{H:Hp}{h h':Heap}{x e:Addr}{o':HO}
def HOk.write(ok:HOk P w H h)(mu:Mut (H x))(he:e=x∨H e=some (.own x))(k:∀b u,b≠e->h.get? b=some u->h'.get? b=some u)(heo:∃u,h'.get? e=some u)
 (new:ObjOk P w (upd H x o') h' x o'):HOk P w (upd H x o') h':=λb u q=>by
 let nown:∀c y,H c=some (.own y)->c≠x:=λc y r z=>by subst z;rw[r]at mu;exact mu
 let ntup:∀c xs,H c=some (.tup xs)->c≠x:=λc xs r z=>by subst z;rw[r]at mu;exact mu
 by_cases hb:b=x
 . subst hb;rw[ai]at q;cases q;exact new
 . rw [ay hb]at q
   by_cases hbe:b=e
   . let q':H b=some (.own x):=by
      rcases he with z | z
      . exact absurd (hbe.trans z) hb
      . rw[hbe];exact z
     rw[q]at q';cases q';erw[v,hv]at heo;erw[v,by rw[hbe];exact hv]
   . apply (ok b u q).stay (λc v hc r=>k c v ?_ r) (λc r=>by rw[ay (nown c b r)];exact r) λc xs r=>by rw[ay (ntup c xs r)];exact r
     rcases hc with rfl | hc
     . exact hbe
     . rintro rfl;rcases he with z | z
       . exact nown c b hc z
       . rw[hc]at z;cases z;exact hb rfl
end
structure Un(fs ex:List Addr)(H H':Hp)(h h':Heap):Prop where
 keep:∀b o,h.get? b=some o->H b=none->b∉fs->b∉ex->h'.get? b=some o
 slot:∀b o,h.get? b=some o->H b=none->b∈fs->b∉ex->∃sl,h'.get? b=some { o with slots:=sl }
 free:∀b o,h.get? b=some o->H b=none->b∉ex->H' b=none
 there:∀b o,h.get? b=some o->b∉ex->∃o',h'.get? b=some o'
 tups:∀b xs,H b=some (.tup xs)->H' b=some (.tup xs)
 frzs:∀b o u,H b=some (.frz o u)->H' b=some (.frz o u)
 tbls:∀b ps,H b=some (.tbl ps)->∃more,H' b=some (.tbl (ps++more))
section
variable {fs fs' ex ex':List Addr}{H H1 H2:Hp}{h h1 h2 h':Heap}{a x e:Addr}{o:HO}
def Un.any(u:Un fs ex H H1 h h1){b:Addr}{ob:Obj}(q:h.get? b=some ob)(n:H b=none)(hx:b∉ex):∃sl,h1.get? b=some { ob with slots:=sl }:=by
 by_cases hb:b∈fs
 . exact u.slot b ob q n hb hx
 . erw[ob.slots,u.keep b ob q n hb hx]
def Un.kept(k:∀b u,h.get? b=some u->h'.get? b=some u):Un fs ex H H h h':=
 %[λb ob q _ _ _=>k b ob q,λb ob q _ _ _=>%[ob.slots|k b ob q],λ_ _ _ n _=>n,λb ob q _=>%[ob|k b ob q],λ_ _ q=>q,λ_ _ _ q=>q|λ_ ps q=>%[#[]|by rw[q];simp]]
def Un.refl:Un fs ex H H h h:=Un.kept λ_ _ q=>q
def Un.laid(k:∀b u,h.get? b=some u->h'.get? b=some u)(hp:h.objs.size<=a)(hn:H a=none):Un fs ex H (upd H a o) h h' where
 keep:=λb u q _ _ _=>k b u q
 slot:=λb u q _ _ _=>%[u.slots|k b u q]
 free:=λb u q n _=>by rw[ay (zV0 (qQ0 (zN0 q) hp))];exact n
 there:=λb u q _=>%[u|k b u q]
 tups:=λb xs q=>by rw[ay (aP q hn)];exact q
 frzs:=λb u xs q=>by rw[ay (aP q hn)];exact q
 tbls:=λb ps q=>%[#[]|by rw[ay (aP q hn),q];simp]
def Un.write(mu:Mut (H x))(he:e=x∨H e=some (.own x))(k:∀b u,b≠e->h.get? b=some u->h'.get? b=some u)(heo:∃u,h'.get? e=some u):Un fs ex H (upd H x o) h h':=by
 let hx:∀b,H b=none->b≠x:=λb n z=>by subst z;rw[n]at mu;exact mu
 let hb:∀b,H b=none->b≠e:=λb n z=>by
  subst z;rcases he with r | r
  . exact hx b n r
  . rw[n]at r;cases r
 let hm:∀b u,H b=some u->¬ Mut (some u)->b≠x:=λb u q nm z=>by subst z;rw[q]at mu;exact nm mu
 erw[λb u q n _ _=>k b u (hb b n) q,λb u q n _ _=>%[u.slots|k b u (hb b n) q],λb u q n _=>by rw[ay (hx b n)];exact n,λb u q _=>?_,λb xs q=>by rw[ay (hm b _ q λz=>z)];exact q,λb u xs q=>by rw[ay (hm b _ q λz=>z)];exact q,λb ps q=>%[#[]|by rw[ay (hm b _ q λz=>z),q];simp]]
 by_cases hbe:b=e
 . subst hbe;exact heo
 . erw[u,k b u hbe q]
end
def trk(h:Heap)(H:Hp):List Addr:=(List.range h.objs.size).filter λa=>(H a).isSome
def vO(h:Heap)(H:Hp):Heap:=PySem.W.hideAll h (trk h H)
def BR(h:Heap)(H:Hp):(vO h H).objs.size=h.objs.size:=PySem.W.hideAll_size _ _
def EW{h:Heap}{H:Hp}{b:Addr}{o:Obj}(e:h.get? b=some o)(n:H b=none):(vO h H).get? b=some o:=
 PySem.W.hideAll_get _ e λhm=>by
  let q:(H b).isSome=true:=(List.mem_filter.mp hm).2;rw[n]at q;simp at q
def He{b:Addr}{o:Obj}(e:(vO h H).get? b=some o):h.get? b=some o/\H b=none:=by
 let e':h.get? b=some o:=PySem.W.of_hideAll (trk h H) e;erw[e',6];cases q:H b with
 |none=>rfl
 |some x=>
   let hm:b∈trk h H:=List.mem_filter.mpr %[List.mem_range.mpr (zN0 e')|by simp [q]];let z:(vO h H).get? b=none:=PySem.W.hideAll_none (trk h H) hm;rw[z]at e;cases e
structure Mod(K:W.Frag)(mg:#[9])(base:Heap):Prop where
 kin:K.In base
 glob:base.Ns mainGlobals mg
 blt:∃mb,base.Ns builtinsNs mb/\∀x:Str,x≠"__name__" -> mb x=bootBuiltins x
 nolimit:base.NoLimit
structure Cx where
 prog:Program
 w:World
 K:W.Frag
 mg:#[9]
 base:Heap
 A:Around
 N:List Str
 s₀:Shared
 H₀:Hp
 env:Env
 outer:List Env
 stack:List Env
 ex:List Addr
 fn:Str->Bool
 calm:Bool
 pn:#[7]
 xe:#[6]
def frs(l:List Env):List Addr:=l.filterMap (·.frame)
abbrev Cx.fs(X:Cx):List Addr:=frs X.outer
def Vis(sc:Scope)(x:Str):Prop:=sc.names.lookup x=some .local∨sc.names.lookup x=some .cell∨sc.names.lookup x=some .free
def Loc(sc:Scope)(x:Str):Prop:=sc.names.lookup x=some .local∨sc.names.lookup x=some .cell
def Look(env:Env)(h:Heap)(m:#[9])(x:Str)(u:Value):Prop:=
 (env.kindOf x=some .local/\m x=some u)∨((env.kindOf x=some .cell∨env.kindOf x=some .free)/\∃c,env.cells.lookup x=some c/\h.IsCell c (some u))
structure Cx.Ok(X:Cx):Prop where
 mod:Mod X.K X.mg X.base
 kind:X.env.scope.kind=.function
 glob:X.env.globals=mainGlobals
 blt:X.env.builtins=builtinsNs
 above:X.s₀.heap.objs.size<=X.env.locals
 inj:∀x y c,X.env.cells.lookup x=some c->X.env.cells.lookup y=some c->x=y
 has:∀x,(X.env.kindOf x=some .cell∨X.env.kindOf x=some .free)->∃c,X.env.cells.lookup x=some c
 cab:∀x c,X.fn x=true->X.env.cells.lookup x=some c->X.s₀.heap.objs.size<=c
 hd:X.calm=true->X.A.handled=none
 frames:X.A.frames=some X.stack
 stk:X.stack=X.outer∨(X.stack=X.env::X.outer/\X.env.frame=some X.env.locals)
 exf:∀b∈X.ex,b≠X.env.locals/\∀x c,X.env.cells.lookup x=some c->c≠b
 bs:∀b o,X.base.get? b=some o->X.s₀.heap.get? b=some o/\X.H₀ b=none
 bsz:X.base.objs.size<=X.s₀.heap.objs.size
 noex:∀b o,X.base.get? b=some o->b∉X.ex
 exfs:∀b∈X.ex,b∉X.fs
 funs:X.s₀.heap.FunFrames X.base X.outer
 frf:∀b∈X.fs,X.H₀ b=none
structure Inv(X:Cx)(NC:#[7])(σ:List (Option V))(H:Hp)(s:Shared):Prop where
 ok:X.Ok
 os:s.os=X.s₀.os
 bare:AllBare s.gens
 base:Un X.fs X.ex X.H₀ H X.s₀.heap s.heap
 loc:∃m,s.heap.Ns X.env.locals m/\∀(i:Nat)(x:Str)(v:V),X.N[i]?=some x->σ[i]?=some (some v)->Vis X.env.scope x->∃u,RelV v u/\Look X.env s.heap m x u
 cell:∀x c,X.env.cells.lookup x=some c->∃v,s.heap.IsCell c v
 free:H X.env.locals=none
 freeC:∀x c,X.env.cells.lookup x=some c->H c=none
 pin:∀p∈X.pn++NC,s.heap.get? p.1=some p.2/\H p.1=none/\p.1≠X.env.locals/\p.1∉X.fs/\∀v,p.2.data≠.cell v
 hok:HOk X.prog X.w H s.heap
 len:σ.length=X.N.length
section
variable {X:Cx}{NC:#[7]}{σ:List (Option V)}{H H':Hp}{s:Shared}{h':Heap}
def Cx.Ok.nofr(ok:X.Ok){b:Addr}{o:Obj}(e:X.base.get? b=some o):b∉X.fs:=λhb=>by
 have:=(ok.funs.mem hb).1
 rw[e]at this;cases this
def Inv.bs(I:#[8] H s):∀b o,X.base.get? b=some o->s.heap.get? b=some o/\H b=none:=λb o e=>
 %[I.base.keep b o (I.ok.bs b o e).1 (I.ok.bs b o e).2 (I.ok.nofr e) (I.ok.noex b o e)|I.base.free b o (I.ok.bs b o e).1 (I.ok.bs b o e).2 (I.ok.noex b o e)]
def Inv.bk(I:#[8] H s):∀b o,X.base.get? b=some o->s.heap.get? b=some o:=λb o e=>(I.bs b o e).1
def Inv.mod(I:#[8] H s):Mod X.K X.mg X.base:=I.ok.mod
def Inv.kIn(I:#[8] H s):X.K.In s.heap:=I.ok.mod.kin.keeps I.bk
def Inv.lt(I:#[8] H s):X.env.locals<‹s›:=let⟨_,hn,_⟩:=I.loc;hn.lt
def Inv.sz(I:#[8] H s):X.s₀.heap.objs.size<=‹s›:=zQ0 I.ok.above (wW1 I.lt)
def Inv.nofs(I:#[8] H s){a:Addr}(h:‹s›<=a):a∉X.fs:=λhb=>by
 let%[_,o,ho|_]:=I.ok.funs.mem hb;exact absurd (qQ0 (zN0 ho) (zQ0 I.sz h)) (qT0 _)
def Inv.cne(I:#[8] H s):∀x c,X.env.cells.lookup x=some c->c≠X.env.locals:=λx c e z=>by
 let%[v,o,ho|hd]:=I.cell x c e;erw[m,%[o',es,ep,ho',hd'|_],_]at I.loc;rw[z,ho']at ho;cases ho;rw[hd']at hd;cases hd
def Inv.funs(I:#[8] H s):s.heap.FunFrames X.base X.outer:=by
 let all:∀(l:List Env),(∀b∈frs l,b∈X.fs)->X.s₀.heap.FunFrames X.base l->s.heap.FunFrames X.base l:=by
  intro l
  induction l with
  |nil=>intro _ _;trivial
  |cons env r ih=>
    intro hs hl;erw[hk,%[L,o,hf,hn,ho|hd],hr]at hl;let hL:L∈X.fs:=hs L (by unfold frs;rw[wO0,hf];exact qF0);let%[sl|e]:=I.base.slot L o ho (I.ok.frf L hL) hL λz=>I.ok.exfs L z hL
    erw[hk,%[L,_,hf,hn,e|hd],ih (λb hb=>hs b (by unfold frs;rw[wO0,hf];exact qM0 _ hb)) hr]
 exact all X.outer (λ_ hb=>hb) I.ok.funs
def Inv.stack(I:#[8] H s):s.heap.FunFrames X.base X.stack:=by
 rcases I.ok.stk with e | ⟨e,hf⟩
 . rw[e];exact I.funs
 . rw[e];erw[m,hn,_]at I.loc;refine .cons (by rw[I.ok.kind];decide) hf hn ?_ I.funs;exact Heap.get?_none_of_le (zQ0 I.ok.bsz I.ok.above)
def Inv.stkSub(I:#[8] H s):∀b∈frs X.stack,b∈X.env.locals::X.fs:=λb hb=>by
 rcases I.ok.stk with e | ⟨e,hf⟩
 . rw[e]at hb;exact qM0 _ hb
 . rw[e]at hb;unfold frs at hb;rw[wO0,hf]at hb;exact hb
def Inv.stkFree(I:#[8] H s):∀b∈frs X.stack,H b=none:=λb hb=>by
 rcases zY0 (I.stkSub b hb)with e | hb
 . rw[e];exact I.free
 . let%[_,o,ho|_]:=I.ok.funs.mem hb;exact I.base.free b o ho (I.ok.frf b hb) λz=>I.ok.exfs b z hb
def Inv.step{g':Array GenState}{t':Nat}{d':Drawn}{ch:List Addr}(I:#[8] H s)
 (hch:∀b∈ch,(b∈X.ex∨X.s₀.heap.objs.size<=b)/\b≠X.env.locals/\(∀x c,X.env.cells.lookup x=some c->c≠b)/\∀p∈X.pn++NC,p.1≠b)
 (keep:∀b o,b≠X.env.locals->b∉X.fs->b∉ch->s.heap.get? b=some o->H b=none->h'.get? b=some o)
 (slot:∀b o,b≠X.env.locals->b∈X.fs->b∉ch->s.heap.get? b=some o->H b=none->∃sl,h'.get? b=some { o with slots:=sl })(free:∀b o,b∉ch->s.heap.get? b=some o->H b=none->H' b=none)
 (there:∀b o,b∉ch->s.heap.get? b=some o->∃o',h'.get? b=some o')
 (tups:∀b xs,H b=some (.tup xs)->H' b=some (.tup xs))(frzs:∀b o u,H b=some (.frz o u)->H' b=some (.frz o u))(tbls:∀b ps,H b=some (.tbl ps)->∃more,H' b=some (.tbl (ps++more)))
 (ns:∀m,s.heap.Ns X.env.locals m->h'.Ns X.env.locals m)(hok:HOk X.prog X.w H' h')(hg:AllBare g'):
 #[8] H' { s with heap:=h',gens:=g',drawn:=d',toks:=t' }:=by
 let neL:∀b o,X.s₀.heap.get? b=some o->b≠X.env.locals:=λb o e=>zV0 (qQ0 (zN0 e) I.ok.above)
 let neC:∀b o,X.s₀.heap.get? b=some o->b∉X.ex->b∉ch:=λb o e hx hb=>by
  rcases(hch b hb).1 with z | z
  . exact hx z
  . exact absurd (qQ0 (zN0 e) z) (qT0 _)
 let cellK:∀x c,X.env.cells.lookup x=some c->∀v,s.heap.IsCell c v->h'.IsCell c v:=λx c e v ⟨o,ho,hd⟩=>by
  let nch:c∉ch:=λz=>(hch c z).2.2.1 x c e rfl
  by_cases hc:c∈X.fs
  . let%[sl|q]:=slot c o (I.cne x c e) hc nch ho (I.freeC x c e);erw[_,q,hd]
  . erw[o,keep c o (I.cne x c e) hc nch ho (I.freeC x c e),hd]
 erw[I.ok,I.os,hg,%[λb o e n hb hx=>?_,λb o e n hb hx=>?_,λb o e n hx=>?_,λb o e hx=>?_,λb xs e=>tups b xs (I.base.tups b xs e),λb o xs e=>frzs b o xs (I.base.frzs b o xs e)|λb ps e=>?_],6,λx c e=>?_,6,λx c e=>?_,λp hp=>?_,hok,I.len]
 . exact keep b o (neL b o e) hb (neC b o e hx) (I.base.keep b o e n hb hx) (I.base.free b o e n hx)
 . let%[sl|e1]:=I.base.slot b o e n hb hx;let%[sl'|e2]:=slot b _ (neL b o e) hb (neC b o e hx) e1 (I.base.free b o e n hx);erw[sl',e2]
 . let%[o'|e1]:=I.base.there b o e hx;exact free b o' (neC b o e hx) e1 (I.base.free b o e n hx)
 . let%[o'|e1]:=I.base.there b o e hx;exact there b o' (neC b o e hx) e1
 . let%[m1|e1]:=I.base.tbls b ps e;let%[m2|e2]:=tbls b _ e1;erw[m1++m2,by rw[e2,Array.append_assoc]]
 . erw[m,hn,hl]at I.loc;erw[m,ns m hn,λi x v e1 e2 e3=>?_];let%[u,r|l]:=hl i x v e1 e2 e3;erw[u,r,6];rcases l with l | ⟨k,c,e,z⟩
   . exact .inl l
   . exact .inr %[k,c,e|cellK x c e _ z]
 . let%[v|z]:=I.cell x c e;erw[v,cellK x c e v z]
 . erw[m,%[o,_,_,ho|_],_]at I.loc;exact free _ o (λz=>(hch _ z).2.1 rfl) ho I.free
 . let%[v,o,ho|hd]:=I.cell x c e;exact free c o (λz=>(hch c z).2.2.1 x c e rfl) ho (I.freeC x c e)
 . let%[e,n,ne,nf|d]:=I.pin p hp;let nch:p.1∉ch:=λz=>(hch p.1 z).2.2.2 p hp rfl
   erw[keep p.1 p.2 ne nf nch e n,free p.1 p.2 nch e n,ne,nf,d]
def Inv.un{t':Nat}(I:#[8] H s)(u:Un X.fs [] H H' s.heap h')(hok:HOk X.prog X.w H' h'):#[8] H' { s with heap:=h',toks:=t' }:=by
 let%[m,%[o,es,ep,ho|r]|_]:=id I.loc;let%[sl|hL]:=u.any ho I.free #[2];exact I.step (g':=s.gens) (d':=s.drawn) (ch:=[]) (λ_ z=>nomatch z) (λb o _ hb _ e n=>u.keep b o e n hb #[2]) (λb o _ hb _ e n=>u.slot b o e n hb #[2]) (λb o _ e n=>u.free b o e n #[2]) (λb o _ e=>u.there b o e #[2]) u.tups u.frzs u.tbls (λm' hm=>by
  erw[o',es',ep',ho',r']at hm;rw[ho]at ho';cases ho';erw[_,es',ep',hL,r']) hok I.bare
def Inv.call{g':Array GenState}{t':Nat}{d':Drawn}{ch:List Addr}(I:#[8] H s)(u:Un (frs X.stack) ch H H' s.heap h')(hok:HOk X.prog X.w H' h')(hg:AllBare g')
 (hch:∀b∈ch,(b∈X.ex∨X.s₀.heap.objs.size<=b)/\b≠X.env.locals/\(∀x c,X.env.cells.lookup x=some c->c≠b)/\∀p∈X.pn++NC,p.1≠b):
 #[8] H' { s with heap:=h',gens:=g',drawn:=d',toks:=t' }:=by
 let%[m,%[o,es,ep,ho|r]|_]:=id I.loc;let%[sl|hL]:=u.any ho I.free λz=>(hch _ z).2.1 rfl
 exact I.step (ch:=ch) hch (λb o hL hb hc e n=>u.keep b o e n (λz=>(zY0 (I.stkSub b z)).elim hL hb) hc) (λb o _ _ hc e n=>u.any e n hc) (λb o hc e n=>u.free b o e n hc) (λb o hc e=>u.there b o e hc) u.tups u.frzs u.tbls (λm' hm=>by
  erw[o',es',ep',ho',r']at hm;rw[ho]at ho';cases ho';erw[_,es',ep',hL,r']) hok hg
def Inv.turned{t':Nat}{it:Addr}(I:#[8] H s)(k:∀b o,b≠it->s.heap.get? b=some o->h'.get? b=some o)(hn:H it=none)(hL:it≠X.env.locals)
 (h1:it∈X.ex∨X.s₀.heap.objs.size<=it)(h2:∀x c,X.env.cells.lookup x=some c->c≠it)(h3:∀p∈X.pn++NC,p.1≠it):#[8] H { s with heap:=h',toks:=t' }:=by
 let nit:∀b u,H b=some u->b≠it:=λb u e z=>by rw[z,hn]at e;cases e
 apply I.step (g':=s.gens) (d':=s.drawn) (ch:=[it]) (λb hb=>?_) (λb o _ _ hc e _=>k b o (λz=>hc (by simp [z])) e) (λb o _ _ hc e _=>%[o.slots|k b o (λz=>hc (by simp [z])) e]) (λ_ _ _ _ n=>n)
  (λb o hc e=>%[o|k b o (λz=>hc (by simp [z])) e]) (λ_ _ e=>e) (λ_ _ _ e=>e) (λb ps e=>%[#[]|by rw[e];simp]) (λm hm=>?_) (λb u e=>?_) I.bare
 . let e:b=it:=#[hb,0]
   subst e;erw[h1,hL,h2,h3]
 . erw[o,es,ep,ho,r]at hm;erw[o,es,ep,k _ o (Ne.symm hL) ho,r]
 . apply (I.hok b u e).stay (λc v hc q=>k c v ?_ q) (λ_ q=>q) λ_ _ q=>q
   rcases hc with z | z
   . rw[z];exact nit b u e
   . exact nit c _ z
def Inv.tok(I:#[8] H s)(t:Nat):#[8] H { s with toks:=t }:=I.un (h':=s.heap) (t':=t) Un.refl I.hok
def Inv.kept{t':Nat}(I:#[8] H s)(k:∀b u,s.heap.get? b=some u->h'.get? b=some u):#[8] H { s with heap:=h',toks:=t' }:=I.un (Un.kept k) (I.hok.kept k)
def Inv.laid{a:Addr}{t':Nat}(I:#[8] H s)(k:∀b u,s.heap.get? b=some u->h'.get? b=some u)(hp:‹s›<=a)(new:ObjOk X.prog X.w (upd H a o) h' a o):
 #[8] (upd H a o) { s with heap:=h',toks:=t' }:=I.un (Un.laid k hp (I.hok.fresh hp)) (I.hok.laid k hp new)
def Inv.write{x e:Addr}{t':Nat}(I:#[8] H s)(mu:Mut (H x))(he:e=x∨H e=some (.own x))(k:∀b u,b≠e->s.heap.get? b=some u->h'.get? b=some u)(heo:∃u,h'.get? e=some u)
 (new:ObjOk X.prog X.w (upd H x o) h' x o):#[8] (upd H x o) { s with heap:=h',toks:=t' }:=I.un (Un.write mu he k heo) (I.hok.write mu he k heo new)
def Inv.pins_of{pins':#[7]}(I:#[8] H s)(h:∀p∈pins',s.heap.get? p.1=some p.2/\H p.1=none/\p.1≠X.env.locals/\p.1∉X.fs/\∀v,p.2.data≠.cell v):Inv X pins' σ H s:=
 %[I.ok,I.os,I.bare,I.base,I.loc,I.cell,I.free,I.freeC,λp hp=>(qP0 hp).elim (λz=>I.pin p (wJ1 _ z)) (h p),I.hok|I.len]
def wN{N:List Str}(hN:N.Nodup){i j:Nat}{x:Str}(a:N[i]?=some x)(b:N[j]?=some x):i=j:=by
 let%[h1|e1]:=zX0 a;let%[h2|e2]:=zX0 b;exact(List.getElem_inj hN).mp (e1.trans e2.symm)
def tI{M:Model}{A:Around}{E:#[6]}{i:Nat}{x:Str}{Q:Unit->Shared->Prop}(I:#[8] H s)(hN:X.N.Nodup)(hi:X.N[i]?=some x)(hx:Loc X.env.scope x)(r:RelV v u)
 (h:∀s',Inv X NC (σ.set i (some v)) H s'->(∃a,Heap.SameBut a s.heap s'.heap/\(a=X.env.locals∨X.env.cells.lookup x=some a))->Q () s')(hf:X.fn x=true∨X.env.scope.names.lookup x=some .local:=by first | exact .inl rfl | exact .inr rfl | assumption):wpAny M A (storeName X.env x u) Q E s:=by
 let%[m,hn|hl]:=id I.loc;let hcls:(X.env.scope.kind==.class||(X.env.scope.kind==.module&&X.env.locals != X.env.globals))=false:=by rw[I.ok.kind];rfl
 let hiσ:i<σ.length:=by rw[I.len];exact(zX0 hi).1
 let cne:=I.cne;let tracked:∀{a:Addr}{h':Heap},(∃o,s.heap.get? a=some o/\H a=none)->Heap.SameBut a s.heap h'->HOk X.prog X.w H h':=fun{a h'} ha hs b ob e=>by
  erw[_,_,hfree]at ha;refine(I.hok b ob e).stay (λc w' hc q=>(hs.2 c ?_).trans q) (λ_ q=>q) λ_ _ q=>q
  rintro rfl;rcases hc with rfl | hc
  . rw[hfree]at e;cases e
  . rw[hfree]at hc;cases hc
 rcases hx with hk | hk
 . apply wpAny_storeName_local hk hn (λh' hn' hs=>?_) hcls;let%[oL,_,_,hoL|_]:=id hn;apply h _ %[I.ok,I.os,I.bare,%[λb o e n hb hx=>?_,λb o e n hb hx=>?_,I.base.free,λb o e hx=>?_,I.base.tups,I.base.frzs|I.base.tbls],%[_,hn'|λj y v' e1 e2 e3=>?_],λy c e=>?_,I.free,I.freeC,λp hp=>?_,tracked %[oL,hoL|I.free] hs|by simpa using I.len] ⟨_,hs,.inl rfl⟩
   . exact(hs.2 b (zV0 (qQ0 (zN0 e) I.ok.above))).trans (I.base.keep b o e n hb hx)
   . let%[sl|e1]:=I.base.slot b o e n hb hx;erw[sl,(hs.2 b (zV0 (qQ0 (zN0 e) I.ok.above))).trans e1]
   . let%[o'|e1]:=I.base.there b o e hx;erw[o',(hs.2 b (zV0 (qQ0 (zN0 e) I.ok.above))).trans e1]
   . by_cases hj:j=i
     . subst hj;rw[hi]at e1;cases e1;rw[jI1 hiσ]at e2;cases e2;erw[u,r,.inl %[hk|by simp]]
     . rw [jR1 (Ne.symm hj)]at e2;let%[u',r'|q]:=hl j y v' e1 e2 e3;erw[u',r',6];rcases q with⟨k,e⟩ | ⟨k,c,e,z⟩
       . refine .inl %[k|6]
         have:y≠x:=λe=>hj (wN hN e1 (e▸hi))
         simp [this,e]
       . exact .inr %[k,c,e|z.sameBut hs (cne y c e)]
   . let%[w'|z]:=I.cell y c e;erw[w',z.sameBut hs (cne y c e)]
   . let%[e,n,ne,nf|d]:=I.pin p hp;erw[(hs.2 p.1 ne).trans e,n,ne,nf,d]
 . let hfn:X.fn x=true:=by
    rcases hf with z | z
    . exact z
    . rw[z]at hk;cases hk
   let%[c|hc]:=I.ok.has x (.inl hk);let%[w'|z]:=I.cell x c hc;apply wpAny_storeName_cell I.ok.kind hk hc z (λh' hc' hs=>?_);let%[oc,hoc|hocd]:=id z;apply h { s with heap:=h' } ⟨I.ok,I.os,I.bare,⟨λb o e n hb hx=>?_,λb o e n hb hx=>?_,I.base.free,λb o e hx=>?_,I.base.tups,I.base.frzs,I.base.tbls⟩,%[m,hn.sameBut hs (Ne.symm (cne x c hc))|λj y v' e1 e2 e3=>?_],λy c' e=>?_,I.free,I.freeC,λp hp=>?_,tracked %[oc,hoc|I.freeC x c hc] hs,by simpa using I.len⟩ ⟨c,hs,.inr hc⟩
   . exact(hs.2 b (zV0 (qQ0 (zN0 e) (I.ok.cab x c hfn hc)))).trans (I.base.keep b o e n hb hx)
   . let%[sl|e1]:=I.base.slot b o e n hb hx;erw[sl,(hs.2 b (zV0 (qQ0 (zN0 e) (I.ok.cab x c hfn hc)))).trans e1]
   . let%[o'|e1]:=I.base.there b o e hx;erw[o',(hs.2 b (zV0 (qQ0 (zN0 e) (I.ok.cab x c hfn hc)))).trans e1]
   . by_cases hj:j=i
     . subst hj;rw[hi]at e1;cases e1;rw[jI1 hiσ]at e2;cases e2;erw[u,r,.inr %[.inl hk,c,hc|hc']]
     . rw [jR1 (Ne.symm hj)]at e2;let%[u',r'|q]:=hl j y v' e1 e2 e3;erw[u',r',6];rcases q with q | ⟨k,c',e,z'⟩
       . exact .inl q
       . refine .inr %[k,c',e|z'.sameBut hs ?_];rintro rfl;exact hj (wN hN e1 (I.ok.inj _ _ _ e hc▸hi))
   . by_cases hcc:c'=c
     . subst hcc;erw[_,hc']
     . let%[w2|z2]:=I.cell y c' e;erw[w2,z2.sameBut hs hcc]
   . let%[e,n,ne,nf|d]:=I.pin p hp;erw[(hs.2 p.1 ?_).trans e,n,ne,nf,d];intro q;rw[q,hoc]at e;let q':oc=p.2:=zT0 e;exact d w' (by rw[←q'];exact hocd)
def wc{M:Model}{A:Around}{E:#[6]}{i:Nat}{x:Str}{Q:Unit->Shared->Prop}(I:#[8] H s)(hN:X.N.Nodup)(hi:X.N[i]?=some x)(hx:Loc X.env.scope x)(r:RelV v u)
 (h:∀s',Inv X NC (σ.set i (some v)) H s'->Q () s')(hf:X.fn x=true∨X.env.scope.names.lookup x=some .local:=by first | exact .inl rfl | exact .inr rfl | assumption):wpAny M A (storeName X.env x u) Q E s:=
 tI I hN hi hx r (λs' I' _=>h s' I') hf
def Inv.call'{s':Shared}{ch:List Addr}(I:#[8] H s)(ho:s'.os=s.os)(u:Un (frs X.stack) ch H H' s.heap s'.heap)(hok:HOk X.prog X.w H' s'.heap)(hg:AllBare s'.gens)
 (hch:∀b∈ch,(b∈X.ex∨X.s₀.heap.objs.size<=b)/\b≠X.env.locals/\(∀x c,X.env.cells.lookup x=some c->c≠b)/\∀p∈X.pn++NC,p.1≠b):#[8] H' s':=by
 erw[h',g',d',t',o']at s';let e:o'=s.os:=ho;subst e;exact I.call (g':=g') (t':=t') (d':=d') u hok hg hch
end
abbrev XK:=Value->Option Addr->Hp->Prop
abbrev St:=List (Option V)
abbrev VK:=V->Hp->Prop
abbrev TE:=St->Hp->VK->Prop
abbrev TT:=St->Hp->(Bool->Hp->Prop)->Prop
abbrev TA:=St->Hp->(List V->Hp->Prop)->Prop
structure Ends where
 nx:St->Hp->Prop
 rt:VK
 bk:St->Hp->Prop:=λ_ _=>False
 ct:St->Hp->Prop:=λ_ _=>False
abbrev TS:=Ends->St->Hp->Prop
instance EP(X:Cx)(NC:#[7])(σ:St)(Q:VK)(u:Value)(s':Shared):∀v H',#[8] H' s'->RelV v u->Q v H':=0
instance TP(X:Cx)(NC:#[7])(σ:St)(Q:Bool->Hp->Prop)(b:Bool)(s':Shared):∀H',#[8] H' s'->Q b H':=0
instance AP(X:Cx)(NC:#[7])(σ:St)(Q:List V->Hp->Prop)(us:List Value)(s':Shared):∀vs H',#[8] H' s'->Vals vs us->Q vs H':=0
instance NP(X:Cx)(NC:#[7])(N:St->Hp->Prop)(s':Shared):∀ σ' H',Inv X NC σ' H' s'->N σ' H':=0
instance RP(X:Cx)(NC:#[7])(Q:VK)(u:Value)(s':Shared):∀v σ' H',Inv X NC σ' H' s'->RelV v u->Q v H':=0
instance HQ(X:Cx)(NC:#[7])(σ:St)(Q:Hp->Prop)(s':Shared):∀H',#[8] H' s'->Q H':=0
def SP(X:Cx)(NC:#[7])(D:Ends)(f:Flow)(s':Shared):Prop:=
 match f with
 |.next=>NP X NC D.nx s'
 |.brk=>NP X NC D.bk s'
 |.cont=>NP X NC D.ct s'
 |.ret u=>RP X NC D.rt u s'
def PE(X:Cx)(e:Expr)(t:TE):Prop:=
 ∀(NC:#[7])(s:Shared)(σ:St)(H:Hp)(Q:VK),#[8] H s->t σ H Q->‹X.w› (eval e X.env) (EP X NC σ Q) X.xe s
def PT(X:Cx)(e:Expr)(t:TT):Prop:=
 ∀(NC:#[7])(s:Shared)(σ:St)(H:Hp)(Q:Bool->Hp->Prop),#[8] H s->t σ H Q->‹X.w› (isTrue e X.env (eval e X.env)) (TP X NC σ Q) X.xe s
def PW(X:Cx)(e:Expr)(t:TT):Prop:=
 ∀(whole:Sem Value)(NC:#[7])(s:Shared)(σ:St)(H:Hp)(Q:Bool->Hp->Prop),#[8] H s->t σ H Q->‹X.w› (isTrue e X.env whole) (TP X NC σ Q) X.xe s
def PW.pt(h:PW X e t):PT X e t:=h _
def PA(X:Cx)(es:List Expr)(t:TA):Prop:=
 ∀(pos:Pos)(NC:#[7])(s:Shared)(σ:St)(H:Hp)(Q:List V->Hp->Prop),#[8] H s->t σ H Q->‹X.w› (spliced (backTo pos (starEach es X.env))) (AP X NC σ Q) X.xe s
def PS(X:Cx)(st:Stmt)(t:TS):Prop:=
 ∀(NC:#[7])(s:Shared)(σ:St)(H:Hp)(D:Ends),#[8] H s->t D σ H->‹X.w› (exec st X.env) (SP X NC D) X.xe s
def PSs(X:Cx)(st:List Stmt)(t:TS):Prop:=
 ∀(NC:#[7])(s:Shared)(σ:St)(H:Hp)(D:Ends),#[8] H s->t D σ H->‹X.w› (execs st X.env) (SP X NC D) X.xe s
def thn{α:Type}{t:Sem α}{Q Q':α->Shared->Prop}{M:Model}{A:Around}{E:#[6]}{s:Shared}(h:wpAny M A t Q E s)(hQ:∀a s,Q a s->Q' a s):wpAny M A t Q' E s:=jP0 h hQ λ_ _ x=>x
section
variable {X:Cx}
instance tVar(i:Nat)(σ:St)(H:Hp)(Q:VK):∀v,σ[i]?=some (some v)->Q v H:=0
def tC(v:V):TE:=λ_ H Q=>Q v H
def Jc{i:Nat}{x:Str}{pos:Pos}(hN:X.N[i]?=some x)(hv:Vis X.env.scope x)(hd:(x==("__debug__":Str))=false:=by decide)(hcd:(x==("__classdict__":Str))=false:=by decide):PE X (.Name x pos) (tVar i):=by
 exists 4,Q,I,h;erw[v,e,h]at h;erw[m,hn,hl]at I.loc;let%[u,r|l]:=hl i x v hN e hv;let fin:EP X NC σ Q u s:=%[v,H,I,r|h]
 rcases l with⟨hk,hm⟩ | ⟨hk,c,hc,hcell⟩
 . exact wpAny_Name (wpAny_loadName_local I.ok.kind hk hn hm fin) hd
 . rcases hk with hk | hk
   . exact wpAny_Name (wpAny_loadName_cell I.ok.kind hk hc hcell fin) hd
   . exact wpAny_Name (wpAny_loadName_free I.ok.kind hk hc hcell fin hcd) hd
def ag{i j pos}:PE X (.Constant (.int i) j pos) (tC (.int i)):=λ_ _ _ H _ I h=>wpAny_Constant_int %[.int i,H,I.tok _,%[|0]|h]
def iH{b j pos}:PE X (.Constant (.bool b) j pos) (tC (.bl b)):=λ_ _ _ H _ I h=>Constant_bool %[.bl b,H,I,1|h]
def ma{j pos}:PE X (.Constant .none j pos) (tC .non):=λ_ _ _ H _ I h=>Constant_none %[.non,H,I,1|h]
def aI{x j pos}:PE X (.Constant (.str x) j pos) (tC (.str x)):=λ_ _ _ H _ I h=>Calls.Constant_str %[.str x,H,I.tok _,%[|0]|h]
def Gl(X:Cx)(x:Str):Prop:=X.env.kindOf x=some .globalImplicit
def vI{E:#[6]}{σ:St}{u:Value}{pos:Pos}{Q:#[6]}(I:#[8] H s)(hg:Gl X x)(hm:X.mg x=some u)(h:Q u s)
 (hd:(x==("__debug__":Str))=false:=by decide):‹X.w› (eval (.Name x pos) X.env) Q E s:=
 Calls.Name_function_global I.ok.kind hg (Calls.loadGlobal_global (by rw[I.ok.glob];exact I.mod.glob.keeps I.bk) hm h) hd
def gr{E:#[6]}{σ:St}{u:Value}{pos:Pos}{Q:#[6]}(I:#[8] H s)(hg:Gl X x)(hm:X.mg x=none)(hv:bootBuiltins x=some u)(h:Q u s)
 (hn:x≠"__name__":=by decide)(hd:(x==("__debug__":Str))=false:=by decide):‹X.w› (eval (.Name x pos) X.env) Q E s:=by
 erw[mb,h1,h2]at I.mod.blt;exact Calls.Name_function_global I.ok.kind hg (Calls.loadGlobal_builtin (by rw[I.ok.glob];exact I.mod.glob.keeps I.bk) hm (by rw[I.ok.blt];exact h1.keeps I.bk) ((h2 x hn).trans hv) h) hd
def dw{u:Value}{pos:Pos}(hg:Gl X x)(hm:X.mg x=some u)(r:RelV v u)(hd:(x==("__debug__":Str))=false:=by decide):PE X (.Name x pos) (tC v):=
 λ_ _ _ H _ I h=>vI I hg hm %[v,H,I,r|h] hd
def zW{u:Value}{pos:Pos}(hg:Gl X x)(hm:X.mg x=none)(hv:bootBuiltins x=some u)(r:RelV v u)(hn:x≠"__name__":=by decide)(hd:(x==("__debug__":Str))=false:=by decide):PE X (.Name x pos) (tC v):=
 λ_ _ _ H _ I h=>gr I hg hm hv %[v,H,I,r|h] hn hd
variable {a b:Expr}{ta tb:TE}{pos:Pos}
instance ZtB(Q:(Bool->Hp->Prop))(x:V)(H1:Hp):∀c,x=.bl c->Q c H1:=0
def tB(t:TE):TT:=λσ H Q=>t σ H λx H1=>ZtB Q x H1
def fk(h:PE X e t)(he:∀whole,isTrue e X.env whole=(do let v ←whole;standAt e.pos;holding [v] (truthy v)):=by intro _;rfl):PT X e (tB t):=by
 exists 4,Q,I,hw;apply isTrue_plain (thn (h NC s σ H _ I hw) λv s1 ⟨x,H1,I1,r1,q1⟩=>?_) (he _);erw[d,1,q]at q1;cases r1;exact qC1 %[H1,I1|q]
variable {tA tB':TT}{rest:List Expr}
def tAnd(t u:TT):TT:=λσ H Q=>t σ H λc H1=>if c=true then u σ H1 Q else Q false H1
def tOr(t u:TT):TT:=λσ H Q=>t σ H λc H1=>if c=true then Q true H1 else u σ H1 Q
def tNot(t:TT):TT:=λσ H Q=>t σ H λc H1=>Q (!c) H1
def qm(ha:PT X a tA):PW X (.BoolOp .And [a] pos) tA:=by
 intro wh NC s σ H Q I h;apply isTrue_and (thn (ha NC s σ H Q I h) λc s1 e=>?_);cases c with
 |true=>exact isTrue_and_nil e
 |false=>exact e
def jI(ha:PT X a tA):PW X (.BoolOp .Or [a] pos) tA:=by
 intro wh NC s σ H Q I h;apply isTrue_or (thn (ha NC s σ H Q I h) λc s1 e=>?_);cases c with
 |false=>exact isTrue_or_nil e
 |true=>exact e
def rf(ha:PT X a tA)(hb:PW X (.BoolOp .And (b::rest) pos) tB'):PW X (.BoolOp .And (a::b::rest) pos) (tAnd tA tB'):=by
 intro wh NC s σ H Q I h;apply isTrue_and (thn (ha NC s σ H _ I h) λc s1 ⟨H1,I1,q1⟩=>?_);cases c with
 |true=>exact hb wh NC s1 σ H1 Q I1 q1
 |false=>erw[H1,I1,q1]
def kH(ha:PT X a tA)(hb:PW X (.BoolOp .Or (b::rest) pos) tB'):PW X (.BoolOp .Or (a::b::rest) pos) (tOr tA tB'):=by
 intro wh NC s σ H Q I h;apply isTrue_or (thn (ha NC s σ H _ I h) λc s1 ⟨H1,I1,q1⟩=>?_);cases c with
 |true=>erw[H1,I1,q1]
 |false=>exact hb wh NC s1 σ H1 Q I1 q1
def jJ(ha:PT X a tA):PT X (.UnaryOp .Not a pos) (tNot tA):=by
 exists 4,Q,I,h;exact isTrue_not (thn (ha NC s σ H (λc H1=>Q (!c) H1) I h) λ_ _ ⟨a,b,c⟩=>%[a,b|c])
instance ZtAndV(tb:TE)(σ:St)(Q:VK)(x:V)(H1:Hp):∀c,x=.bl c->(if c=true then tb σ H1 Q else Q (.bl false) H1):=0
def tAndV(ta tb:TE):TE:=λσ H Q=>ta σ H λx H1=>ZtAndV tb σ Q x H1
instance ZtOrV(tb:TE)(σ:St)(Q:VK)(x:V)(H1:Hp):∀c,x=.bl c->(if c=true then Q (.bl true) H1 else tb σ H1 Q):=0
def tOrV(ta tb:TE):TE:=λσ H Q=>ta σ H λx H1=>ZtOrV tb σ Q x H1
instance ZtNotV(Q:VK)(x:V)(H1:Hp):∀c,x=.bl c->Q (.bl (!c)) H1:=0
def tNotV(ta:TE):TE:=λσ H Q=>ta σ H λx H1=>ZtNotV Q x H1
def rJ{op}(h:PE X a t):PE X (.BoolOp op [a] pos) t:=λNC s σ H Q I hw=>BoolOp_one (h NC s σ H Q I hw)
def vn(ha:PE X a ta)(hb:PE X (.BoolOp .And (b::rest) pos) tb):PE X (.BoolOp .And (a::b::rest) pos) (tAndV ta tb):=by
 exists 4,Q,I,h;apply BoolOp_and (thn (ha NC s σ H _ I h) λv s1 ⟨x,H1,I1,r1,q1⟩=>?_);erw[c,1,q1]at q1;cases r1;apply qC1 ?_;cases c with
 |true=>exact hb NC s1 σ H1 Q I1 q1
 |false=>erw[.bl false,H1,I1,1,q1]
def Ih(ha:PE X a ta)(hb:PE X (.BoolOp .Or (b::rest) pos) tb):PE X (.BoolOp .Or (a::b::rest) pos) (tOrV ta tb):=by
 exists 4,Q,I,h;apply BoolOp_or (thn (ha NC s σ H _ I h) λv s1 ⟨x,H1,I1,r1,q1⟩=>?_);erw[c,1,q1]at q1;cases r1;apply qC1 ?_;cases c with
 |false=>exact hb NC s1 σ H1 Q I1 q1
 |true=>erw[.bl true,H1,I1,1,q1]
def yz(ha:PE X a ta):PE X (.UnaryOp .Not a pos) (tNotV ta):=by
 exists 4,Q,I,h;apply UnaryOp_ (thn (ha NC s σ H _ I h) λv s1 ⟨x,H1,I1,r1,q1⟩=>?_);erw[c,1,q1]at q1;cases r1;exact not_of (qC1 %[.bl (!c),H1,I1,1|q1])
def tIf(t:TT)(ta tb:TE):TE:=λσ H Q=>t σ H λc H1=>if c=true then ta σ H1 Q else tb σ H1 Q
def wz(hc:PT X c tA)(ha:PE X a ta)(hb:PE X b tb):PE X (.IfExp c a b pos) (tIf tA ta tb):=by
 exists 4,Q,I,h;apply wpAny_IfExp (thn (hc NC s σ H _ I h) λd s1 ⟨H1,I1,q1⟩=>?_);cases d with
 |true=>exact ha NC s1 σ H1 Q I1 q1
 |false=>exact hb NC s1 σ H1 Q I1 q1
end
def SqL(K:W.Frag)(H:Hp)(a:Addr)(xs:List V):Prop:=
 Rd H a (.lst xs)∨
  ∃(o:Obj) (its:Array Value) (n:Nat),K.lookup a=some o/\o.cls=.type "list"/\o.dict=none/\o.data=.seq its n/\its.size<=sizeLine/\Vals xs its.toList
def SqT(K:W.Frag)(H:Hp)(a:Addr)(xs:List V):Prop:=
 Rd H a (.tup xs)∨
  ∃(o:Obj) (its:Array Value) (n:Nat),K.lookup a=some o/\o.cls=.type "tuple"/\o.data=.seq its n/\its.size<=sizeLine/\Vals xs its.toList
def absV:Value->Option V
 |.none=>some .non
 |.bool b=>some (.bl b)
 |.int i _=>some (.int i)
 |.str x _=>some (.str x)
 |.bytes b _=>some (.byt b)
 |.float b _=>some (.flt b)
 |.ref a=>some (.ref a)
 |.type n=>some (.ty n)
 |_=>none
def RelV.abs(r:RelV x u):absV u=some x:=by
 cases x with
 |non=>cases r;rfl
 |bl _=>cases r;rfl
 |int _=>erw[t,1]at r;rfl
 |str _=>erw[t,1]at r;rfl
 |byt _=>erw[t,1]at r;rfl
 |flt _=>erw[t,1]at r;rfl
 |ref _=>cases r;rfl
 |ty _=>cases r;rfl
def RelV.inj(r:RelV x u)(q:RelV y u):x=y:=zT0 (r.abs.symm.trans q.abs)
def Vals.inj:∀{xs ys:List V}{us:List Value},Vals xs us->Vals ys us->xs=ys
 |_,_,_,.nil,.nil=>rfl
 |_,_,_,.cons r t,.cons r' t'=>by rw[r.inj r',Vals.inj t t']
section
variable {X:Cx}{NC:#[7]}{σ:St}{H:Hp}{s:Shared}{a:Addr}{xs ys:List V}
def zG0{K:W.Frag}(h:H a=some (.lst xs)):SqL K H a xs:=.inl (.inl h)
abbrev SqL.of:=@zG0
def zC0{K:W.Frag}(h:H a=some (.tup xs)):SqT K H a xs:=.inl (.inl h)
abbrev SqT.of:=@zC0
def Inv.list(I:#[8] H s)(h:SqL X.K H a xs):∃its:List Value,Vals xs its/\PlainL s.heap a its.toArray/\xs.length<=sizeLine:=by
 rcases h with h | ⟨o,its,n,hk,hc,hd,hs,hz,r⟩
 . let%[z,its,n,r|e]:=h.ok I.hok;erw[its,r,%[_,n,e,1,1|1],z]
 . erw[its.toList,r,%[o,n,I.kIn a o hk,hc,hd|by simpa using hs],6];let e:=r.length;simp only[zY1]at e;omega
def Inv.tuple(I:#[8] H s)(h:SqT X.K H a xs):∃its:List Value,Vals xs its/\IsTup s.heap a its.toArray/\xs.length<=sizeLine:=by
 rcases h with h | ⟨o,its,n,hk,hc,hs,hz,r⟩
 . let%[z,its,r,p|_]:=h.ok I.hok;erw[its,r,p,z]
 . erw[its.toList,r,%[o,I.kIn a o hk,hc,n|by simpa using hs],6];let e:=r.length;simp only[zY1]at e;omega
def Inv.list_inj(I:#[8] H s)(h:SqL X.K H a xs)(h':SqL X.K H a ys):xs=ys:=by
 let%[its,r,%[o,n,e,_,_|d]|_]:=I.list h;let%[its',r',%[o',n',e',_,_|d']|_]:=I.list h';rw[e]at e';cases e';rw[d]at d';injection d' with d1 _
 have:its=its':=#[congrArg Array.toList d1,0]
 subst this;exact r.inj r'
def Inv.tuple_inj(I:#[8] H s)(h:SqT X.K H a xs)(h':SqT X.K H a ys):xs=ys:=by
 let%[its,r,%[o,e,_,n|d]|_]:=I.tuple h;let%[its',r',%[o',e',_,n'|d']|_]:=I.tuple h';rw[e]at e';cases e';rw[d]at d';injection d' with d1 _
 have:its=its':=#[congrArg Array.toList d1,0]
 subst this;exact r.inj r'
end
abbrev Cx.wish(X:Cx)(E:#[6]):Cx:={ X with xe:=E }
abbrev Cx.nox(X:Cx):Cx:=X.wish λ_ _=>False
def Cx.Ok.wish{X:Cx}(ok:X.Ok)(E:#[6]):(X.wish E).Ok:=
 %[ok.mod,ok.kind,ok.glob,ok.blt,ok.above,ok.inj,ok.has,ok.cab,ok.hd,ok.frames,ok.stk,ok.exf,ok.bs,ok.bsz,ok.noex,ok.exfs,ok.funs|ok.frf]
def Cx.Ok.unwish{X:Cx}{E:#[6]}(ok:(X.wish E).Ok):X.Ok:=
 %[ok.mod,ok.kind,ok.glob,ok.blt,ok.above,ok.inj,ok.has,ok.cab,ok.hd,ok.frames,ok.stk,ok.exf,ok.bs,ok.bsz,ok.noex,ok.exfs,ok.funs|ok.frf]
section
variable {X:Cx}{NC:#[7]}{σ:St}{H:Hp}{s:Shared}{E:#[6]}
def Inv.wish(I:#[8] H s)(E:#[6]):Inv (X.wish E) NC σ H s:=%[I.ok.wish E,I.os,I.bare,I.base,I.loc,I.cell,I.free,I.freeC,I.pin,I.hok|I.len]
def Inv.unwish(I:Inv (X.wish E) NC σ H s):#[8] H s:=%[I.ok.unwish,I.os,I.bare,I.base,I.loc,I.cell,I.free,I.freeC,I.pin,I.hok|I.len]
def SP.unwish(h:SP (X.wish E) NC D f s'):SP X NC D f s':=by
 cases f with
 |next=>erw[σ',H',I,q]at h;erw[σ',H',I.unwish,q]
 |brk=>erw[σ',H',I,q]at h;erw[σ',H',I.unwish,q]
 |cont=>erw[σ',H',I,q]at h;erw[σ',H',I.unwish,q]
 |ret u=>erw[v,σ',H',I,r,q]at h;erw[v,σ',H',I.unwish,r,q]
def PSs.nox{st:List Stmt}(h:PSs X.nox st t):PSs X st t:=λNC s σ H D I hw=>
 jP0 (h NC s σ H D (I.wish _) hw) (λ_ _ q=>q.unwish) λ_ _ z=>False.elim z
end
section
variable {X:Cx}{st:Stmt}{rest:List Stmt}{t u:TS}{e:Expr}{te:TE}{pos:Pos}
def tNext:TS:=λD σ H=>D.nx σ H
def tSeq(t u:TS):TS:=λD σ H=>t { D with nx:=u D } σ H
def aE:PSs X [] tNext:=λ_ _ σ H _ I h=>wO1 %[σ,H,I|h]
def ad(h1:PS X st t)(h2:PSs X rest u):PSs X (st::rest) (tSeq t u):=by
 exists 4,D,I,h;apply wpAny_execs_cons (thn (h1 NC s σ H { D with nx:=u D } I h) λf s1 q=>?_);cases f with
 |next=>
   erw[σ',H',I',q]at q;exact h2 NC s1 σ' H' D I' q
 |ret v=>exact q
 |brk=>exact q
 |cont=>exact q
def af(h1:PS X st t):PSs X [st] t:=by
 exists 4,D,I,h;apply wpAny_execs_cons (thn (h1 NC s σ H D I h) λf s1 q=>?_);cases f with
 |next=>exact wO1 q
 |ret v=>exact q
 |brk=>exact q
 |cont=>exact q
def Inv.quiet{σ:St}(I:#[8] H s):interactive X.env=false:=by simp [interactive,I.ok.kind]
def tDrop(te:TE):TS:=λD σ H=>te σ H λ_ H1=>D.nx σ H1
def bb(he:PE X e te)(hs:swapsWith e none pos.line X.env=pure false:=by rfl):PS X (.Expr e pos) (tDrop te):=by
 exists 4,D,I,h;exact wpAny_Expr_any (thn (he NC s σ H _ I h) λv s1 ⟨x,H1,I1,r1,q1⟩=>%[σ,H1,I1|q1]) I.quiet hs
def tRet(te:TE):TS:=λD σ H=>te σ H D.rt
def ax(he:PE X e te):PS X (.Return (some e) pos) (tRet te):=by
 exists 4,D,I,h;exact wpAny_Return_some (thn (he NC s σ H _ I h) λv s1 ⟨x,H1,I1,r1,q1⟩=>%[x,σ,H1,I1,r1|q1])
def tIfS(c:TT)(t u:TS):TS:=λD σ H=>c σ H λb H1=>if b=true then t D σ H1 else u D σ H1
def aM(hc:PT X c tc)(ha:PSs X a t)(hb:PSs X b u):PS X (.If c a b pos) (tIfS tc t u):=by
 exists 4,D,I,h;apply wpAny_If (thn (hc NC s σ H _ I h) λd s1 ⟨H1,I1,q1⟩=>?_);cases d with
 |true=>exact ha NC s1 σ H1 D I1 q1
 |false=>exact hb NC s1 σ H1 D I1 q1
def IK:TS:=λ_ _ _=>False
def bz:PSs X sts IK:=λ_ _ _ _ _ _ h=>h.elim
end
abbrev TG:=V->St->Hp->(St->Hp->Prop)->Prop
abbrev TGs:=List V->St->Hp->(St->Hp->Prop)->Prop
def PG(X:Cx)(target:Expr)(t:TG):Prop:=
 ∀(NC:#[7])(s:Shared)(σ:St)(H:Hp)(v:V)(u:Value)(Q:St->Hp->Prop),#[8] H s->RelV v u->t v σ H Q ->
  ‹X.w› (assign target X.env u) (λ_ s'=>NP X NC Q s') X.xe s
def PGs(X:Cx)(ts:List Expr)(t:TGs):Prop:=
 ∀(NC:#[7])(s:Shared)(σ:St)(H:Hp)(vs:List V)(us:List Value)(Q:St->Hp->Prop),#[8] H s->Vals vs us->t vs σ H Q ->
  ‹X.w› (assignInOrder ((assignEach ts X.env).map (·.2)) us) (λ_ s'=>NP X NC Q s') X.xe s
abbrev Kb:=V->V->V->Hp->(Hp->Prop)->Prop
def PSet(X:Cx)(t:Kb):Prop:=
 ∀(NC:#[7])(s:Shared)(σ:St)(H:Hp)(o i v:V)(ov iv u:Value)(Q:Hp->Prop),#[8] H s->RelV o ov->RelV i iv->RelV v u->t o i v H Q ->
  ‹X.w› (setItem ov iv u) (λ_ s'=>HQ X NC σ Q s') X.xe s
section
variable {X:Cx}{pos:Pos}
def Iu(i:Nat):TG:=λv σ H Q=>Q (σ.set i (some v)) H
def aX{i:Nat}{x:Str}(hN:X.N.Nodup)(hi:X.N[i]?=some x)(hx:Loc X.env.scope x)(hf:X.fn x=true∨X.env.scope.names.lookup x=some .local:=by first | exact .inl rfl | exact .inr rfl | assumption):PG X (.Name x pos) (Iu i):=by
 exists 4,v,u,Q,I,r,h;exact wpAny_assign_Name (wc I hN hi hx r (λs' I'=>%[_,H,I'|h]) hf)
instance gNil(vs:List V)(σ:St)(H:Hp)(Q:(St->Hp->Prop)):vs=[]->Q σ H:=0
instance gCons(t:TG)(u:TGs)(vs:List V)(σ:St)(H:Hp)(Q:(St->Hp->Prop)):∀v r,vs=v::r->(t v σ H λσ' H'=>u r σ' H' Q):=0
def ny:PGs X [] gNil:=by
 exists 4,vs,us,Q,I,r,h;erw[e,h]at h;subst e;cases r;exact assignInOrder_nil %[σ,H,I|h]
def eE(h1:PG X e t)(h2:PGs X es u)
 (hs:(assignEach (e::es) X.env).map (·.2)=assign e X.env::(assignEach es X.env).map (·.2):=by rfl):PGs X (e::es) (gCons t u):=by
 exists 4,vs,us,Q,I,r,h;erw[v,vr,e1,h]at h;subst e1;cases r with
 |cons r rr=>
   rw[hs];apply assignInOrder_cons (thn (h1 NC s σ H _ _ _ I r h) λ_ s1 ⟨σ1,H1,I1,q1⟩=>?_);exact h2 NC s1 σ1 H1 _ _ Q I1 rr q1
instance gTup(K:W.Frag)(n:Nat)(t:TGs)(v:V)(σ:St)(H:Hp)(Q:(St->Hp->Prop)):∀a xs,v=.ref a->SqT K H a xs->xs.length=n->t xs σ H Q:=0
def rH{k:Nat}{n:Nat}(hc:X.calm=true)(h:PGs X es t)
 (hn:(assignEach es X.env).length=n:=by rfl)(NI:(assignEach es X.env).findIdx? (·.1)=none:=by rfl):PG X (.Tuple es k pos) (gTup X.K n t):=by
 exists 4,v,u,Q,I,r,hw;erw[a,xs,e1,hq,hl,hw]at hw;subst e1;cases r;let%[its,rv,ht|hz]:=I.tuple hq;apply assign_Tuple_tuple (I.ok.hd hc) ht (by simp [hn,←hl,rv.length]) NI λh' hx=>?_
 let I1:#[8] H { s with heap:=h' }:=I.kept (t':=s.toks) λb o e=>hx b o (zV0 (zN0 e)) e
 exact h NC _ σ H xs _ Q I1 #[rv,0] hw
def gSub(to ti:TE)(t:Kb):TG:=λv σ H Q=>to σ H λo H1=>ti σ H1 λi H2=>t o i v H2 λH3=>Q σ H3
def vk(ho:PE X o to)(hi:PE X i ti)(hs:PSet X t)
 (ha:∀v,assign (.Subscript o i pos) X.env v=(do
  let ov ←holding [v] (eval o X.env)
  let iv ←holding [v,ov] (eval i X.env)
  standAt pos
  holding [v,ov,iv] (setItem ov iv v)
  release [v,ov,iv] []):=by intro _;rfl):PG X (.Subscript o i pos) (gSub to ti t):=by
 exists 4,v,u,Q,I,r,h;rw[ha];apply zD0 (jP1 (thn (ho NC s σ H _ I h) λov s1 ⟨x,H1,I1,r1,q1⟩=>?_));apply zD0 (jP1 (thn (hi NC s1 σ H1 _ I1 q1) λiv s2 ⟨y,H2,I2,r2,q2⟩=>?_));apply zD0 (wpAny_standAt (zD0 (jP1 (thn (hs NC s2 σ H2 x y v ov iv u _ I2 r1 r2 r q2) λ_ s3 ⟨H3,I3,q3⟩=>?_))));exact wpAny_release %[σ,H3,I3|q3]
def tAsg(te:TE)(g:TG):TS:=λD σ H=>te σ H λx H1=>g x σ H1 D.nx
def oS(he:PE X e te)(hg:PG X tg g)(hs:swapsWithSole [tg] e pos.line X.env=pure false:=by rfl)(hw:swappedStores [tg] e X.env=pure none:=by rfl)
 (h1:(assignEach [tg] X.env).map (·.2)=[assign tg X.env]:=by rfl):PS X (.Assign [tg] e pos) (tAsg te g):=by
 exists 4,D,I,h;apply wpAny_Assign_stores (thn (he NC s σ H _ I h) λv s1 ⟨x,H1,I1,r1,q1⟩=>?_) hs hw;rw[h1];exact thn (hg NC s1 σ H1 x v _ I1 r1 q1) λ_ s2 q=>q
def aj{i:Nat}{x:Str}{pos':Pos}(hN:X.N.Nodup)(hi:X.N[i]?=some x)(hx:Loc X.env.scope x)(he:PE X e te)(hs:swapsWith e (some (.Name x pos')) pos.line X.env=pure false:=by rfl)(hf:X.fn x=true∨X.env.scope.names.lookup x=some .local:=by first | exact .inl rfl | exact .inr rfl | assumption):
 PS X (.Assign [.Name x pos'] e pos) (tAsg te (Iu i)):=by
 exists 4,D,I,h;apply wpAny_Assign_Name (thn (he NC s σ H _ I h) λv s1 ⟨y,H1,I1,r1,q1⟩=>?_) hs;exact wc I1 hN hi hx r1 (λs2 I2=>%[_,H1,I2|q1]) hf
end
section
variable {X:Cx}{pos:Pos}
def IJ(c:TT)(tb:TS):TS:=λD σ H=>∃W:Nat->St->Hp->Prop,(∃m,W m σ H)/\∀m σ H,W m σ H ->
 c σ H λb H1=>if b=true then ∃N:St->Hp->Prop,(∀ σ' H',N σ' H'->∃m',m'<m/\W m' σ' H')/\tb { D with nx:=N,ct:=N,bk:=D.nx } σ H1 else D.nx σ H1
def iw(hp:PassesOwn (model X.prog X.w) X.A X.env X.xe)(hc:PT X c tc)(hb:PSs X body tb):PS X (.While c body [] pos) (IJ tc tb):=by
 exists 4,D,I,h;erw[W,%[m0|w0],turn]at h;apply wpAny_While (codeAny_whileLoop (λn s'=>NP X NC (W n) s') ?_ m0 %[σ,H,I|w0]);rintro n s1 ⟨σ1,H1,I1,w1⟩;apply jD0 hp (thn (hc NC s1 σ1 H1 _ I1 (turn n σ1 H1 w1)) λb s2 ⟨H2,I2,q2⟩=>?_);cases b with
 |true=>
   erw[N,hN,q2]at q2;rw[NE rfl];apply jD0 hp (thn (hb NC s2 σ1 H2 _ I2 q2) λf s3 q3=>?_);cases f with
   |next=>
     erw[σ3,H3,I3,n3]at q3;let%[m',hm|w3]:=hN σ3 H3 n3;erw[m',hm,σ3,H3,I3,w3]
   |cont=>
     erw[σ3,H3,I3,n3]at q3;let%[m',hm|w3]:=hN σ3 H3 n3;erw[m',hm,σ3,H3,I3,w3]
   |brk=>exact q3
   |ret v=>exact q3
 |false=>
   rw[ND qI0];exact wO1 %[σ1,H2,I2|q2]
end
structure It where
 go:Nat->Hp->Prop
 yld:Nat->Hp->V->Hp->Prop
 stop:Nat->Hp->Prop
def iN(X:Cx)(NC:#[7])(H:Hp)(b:Addr):Prop:=
 H b=none/\b≠X.env.locals/\b∉X.fs/\(b∈X.ex∨X.s₀.heap.objs.size<=b)/\(∀x c,X.env.cells.lookup x=some c->c≠b)/\∀p∈X.pn++NC,p.1≠b
def Inv.fpOk{σ:St}{H':Hp}{b:Addr}(I:#[8] H s)(hb:‹s›<=b)(hn:H' b=none):iN X NC H' b:=by
 erw[hn,jU0 (qQ0 I.lt hb),I.nofs hb,.inr (zQ0 I.sz hb),λx c e z=>?_,λp hp z=>?_]
 . let%[v|q]:=I.cell x c e;exact absurd (qQ0 q.lt (by rw[z];exact hb)) (qT0 _)
 . exact absurd (qQ0 (zN0 (I.pin p hp).1) (by rw[z];exact hb)) (qT0 _)
structure Turn(P:Program)(w:World)(K:W.Frag)(tg:Expr)(J:It)(fp:List Addr)(it:Addr)(tn:Nat->Heap->Prop):Prop where
 mem:it∈fp
 obj:∀i h,tn i h->∀b∈fp,∃o,h.get? b=some o/\∀v,o.data≠.cell v
 keep:∀i h h',tn i h->(∀b∈fp,∀o,h.get? b=some o->h'.get? b=some o)->tn i h'
 item:∀(X:Cx),X.prog=P->X.w=w->X.K=K->X.calm=true->∀(i:Nat)(NC:#[7])(s:Shared)(σ:St)(H:Hp)(E:#[6]),#[8] H s->(∀b∈fp,iN X NC H b)->tn i s.heap->J.go i H ->
  wpAny (model P w) X.A (pyNext (.ref it)) (λr s1=>∃u,r=some u/\
   wpAny (model P w) X.A (letOwnedTupleGo tg (.ref it) u) (λ_ s2=>∃x H',#[8] H' s2/\RelV x u/\J.yld i H x H'/\tn (i+1) s2.heap/\∀b∈fp,H' b=none) E s1) E s
 done:∀(X:Cx),X.prog=P->X.w=w->X.K=K->X.calm=true->∀(i:Nat)(NC:#[7])(s:Shared)(σ:St)(H:Hp)(E:#[6]),#[8] H s->(∀b∈fp,iN X NC H b)->tn i s.heap->J.stop i H ->
  wpAny (model P w) X.A (pyNext (.ref it)) (λr s1=>r=none/\#[8] H s1) E s
 self:∀(A:Around)(i:Nat)(s:Shared)(Q:#[6])(E:#[6]),tn i s.heap->Q (.ref it) s->wpAny (model P w) A (pyIter (.ref it)) Q E s
abbrev TI:=St->Hp->(It->Hp->Prop)->Prop
def PIE(X:Cx)(NC:#[7])(σ:St)(tg:Expr)(R:It->Hp->Prop)(itv:Value)(s2:Shared):Prop:=
 ∃(it:Addr)(fp:List Addr)(tn:Nat->Heap->Prop)(J:It)(H':Hp),itv=.ref it/\#[8] H' s2/\Turn X.prog X.w X.K tg J fp it tn/\tn 0 s2.heap/\(∀b∈fp,iN X NC H' b)/\R J H'
def PI(X:Cx)(tg iter:Expr)(wi:TI):Prop:=
 ∀(NC:#[7])(s:Shared)(σ:St)(H:Hp)(R:It->Hp->Prop),#[8] H s->wi σ H R ->
  ‹X.w› (eval iter X.env) (λv s1=>‹X.w› (pyIter v) (PIE X NC σ tg R) X.xe s1) X.xe s
def ub{M:Model}{A:Around}{E:#[6]}{s:Shared}{tg:Expr}{it:Addr}{u:Value}{o:Obj}{n:String}{vs:Array Value}{Q:Unit->Shared->Prop}(ho:s.heap.get? it=some o)(hc:o.cls=.type n)(hd:o.data=.fields vs)
 (hn:["enumerate","zip","dict_itemiterator","dict_reverseitemiterator","odict_iterator","itertools.zip_longest","itertools.pairwise"].contains n=false)(hQ:Q () s):wpAny M A (letOwnedTupleGo tg (.ref it) u) Q E s:=by
 unfold letOwnedTupleGo;cases tg <;> first
  |exact zI0 hQ
  | (cases u <;> first
   |exact zI0 hQ
   | (apply zD0 (wpAny_load ho ?_)
      rw[hc,hd];show wpAny M A (if(["enumerate","zip","dict_itemiterator","dict_reverseitemiterator","odict_iterator","itertools.zip_longest","itertools.pairwise"].contains n&&vs[0]?==some (rawInt _))=true then _ else _) Q E s;rw[ND (by intro h;rw[hn,Bool.false_and]at h;cases h)];exact zI0 hQ))
def Itl(K:W.Frag)(a:Addr):It:=
 ⟨λi H=>∃xs x,SqL K H a xs/\xs[i]?=some x,λi H x H'=>H'=H/\∀xs,SqL K H a xs->xs[i]?=some x,λi H=>∃xs,SqL K H a xs/\xs.length<=i⟩
def Itt(K:W.Frag)(a:Addr):It:=
 ⟨λi H=>∃xs x,SqT K H a xs/\xs[i]?=some x,λi H x H'=>H'=H/\∀xs,SqT K H a xs->xs[i]?=some x,λi H=>∃xs,SqT K H a xs/\xs.length<=i⟩
def Itr(lo:Int)(n:Nat):It:=%[λi _=>i<n,λi H x H'=>H'=H/\x=.int (lo+i)|λi _=>n<=i]
def AG{K:W.Frag}(a it:Addr):Turn P w K tg (Itl K a) [it] it (λi h=>h.IsListIter it a i) where
 mem:=by simp
 obj:=λi h st b hb=>by
  let e:b=it:=#[hb,0]
  subst e;erw[o,e,c,d]at st;erw[o,e,λv z=>by rw[d]at z;cases z]
 keep:=λi h h' st k=>st.at λo e=>k it #[2] o e
 item:=by
  exists 5;erw[xs,x,hq,hx]at hg;let%[its,rv,p|hz]:=I.list hq;let%[u,hu|ru]:=rv.get hx;let%[f0,f1,f2,f3,f4|f5]:=hf it #[2];apply wpAny_pyNext_list_item st p.isList (x:=u) #[hu,0] λh' st' sb=>?_
  let I1:#[8] H { s with heap:=h' }:=I.turned (t':=s.toks) (λb o hb e=>(sb.2 b hb).trans e) f0 f1 f3 f4 f5;let%[o,e,c|d]:=id st';erw[u,1,ub (s:={ s with heap:=h' }) e c d ⋯ ⟨x,H,I1,ru,⟨rfl,λys hy=>by rw[I.list_inj hy hq];exact hx⟩,st',λb hb=>(hf b hb).1⟩]
 done:=by
  exists 5;erw[xs,hq,hx]at hg;let%[its,rv,p|hz]:=I.list hq;let%[f0,f1,f2,f3,f4|f5]:=hf it #[2];let hl:=rv.length;exact wpAny_pyNext_list_end (I.ok.hd hc) st p.isList (by simp;omega) λh' eb=>%[1|I.turned (t':=s.toks) (λb o hb e=>eb b o hb e) f0 f1 f3 f4 f5]
 self:=λ_ _ _ _ _ st h=>wpAny_pyIter_listiter st h
def xR{K:W.Frag}(a it:Addr):Turn P w K tg (Itt K a) [it] it (λi h=>h.IsTupleIter it a i) where
 mem:=by simp
 obj:=λi h st b hb=>by
  let e:b=it:=#[hb,0]
  subst e;erw[o,e,c,d]at st;erw[o,e,λv z=>by rw[d]at z;cases z]
 keep:=λi h h' st k=>st.at λo e=>k it #[2] o e
 item:=by
  exists 5;erw[xs,x,hq,hx]at hg;let%[its,rv,p|hz]:=I.tuple hq;let%[u,hu|ru]:=rv.get hx;let%[f0,f1,f2,f3,f4|f5]:=hf it #[2];apply wpAny_pyNext_tuple_item st (show s.heap.IsTuple a its.toArray from p) (x:=u) #[hu,0] λh' st' sb=>?_
  let I1:#[8] H { s with heap:=h' }:=I.turned (t':=s.toks) (λb o hb e=>(sb.2 b hb).trans e) f0 f1 f3 f4 f5;let%[o,e,c|d]:=id st';erw[u,1,ub (s:={ s with heap:=h' }) e c d ⋯ ⟨x,H,I1,ru,⟨rfl,λys hy=>by rw[I.tuple_inj hy hq];exact hx⟩,st',λb hb=>(hf b hb).1⟩]
 done:=by
  exists 5;erw[xs,hq,hx]at hg;let%[its,rv,p|hz]:=I.tuple hq;let%[f0,f1,f2,f3,f4|f5]:=hf it #[2];let hl:=rv.length;exact wpAny_pyNext_tuple_end (I.ok.hd hc) st (show s.heap.IsTuple a its.toArray from p) (by simp;omega) λh' eb=>%[1|I.turned (t':=s.toks) (λb o hb e=>eb b o hb e) f0 f1 f3 f4 f5]
 self:=λ_ _ _ _ _ st h=>wpAny_pyIter_tupleiter st h
def xS{K:W.Frag}(it:Addr)(lo:Int)(n:Nat):Turn P w K tg (Itr lo n) [it] it (λi h=>IsRangeIter h it (lo+(i:Nat)*1) ((n:Int)-(i:Nat)) 1) where
 mem:=by simp
 obj:=λi h st b hb=>by
  let e:b=it:=#[hb,0]
  subst e;exact⟨_,st,λv z=>by
   let z':Data.fields _=Data.cell v:=z;cases z'⟩
 keep:=λi h h' st k=>k it #[2] _ st
 item:=by
  exists 5;let%[f0,f1,f2,f3,f4|f5]:=hf it #[2];let W:=Walks.range (prog:=X.prog) (w:=X.w) (I.ok.hd hc) it lo 1 n;apply W.item i s _ _ hg st λv h' tk hv st' kk=>?_
  erw[t,1]at hv;let I1:#[8] H { s with heap:=h',toks:=tk }:=I.turned (λb o hb e=>kk b o #[hb,0] e) f0 f1 f3 f4 f5;erw[0,ub (s:={ s with heap:=h',toks:=tk }) (n:="range_iterator") st' rfl rfl ⋯ ⟨.int (lo+i),H,I1,⟨t,?_⟩,⟨rfl,rfl⟩,st',λb hb=>(hf b hb).1⟩];rw[jK1]
 done:=by
  exists 5;let%[f0,f1,f2,f3,f4|f5]:=hf it #[2];exact wpAny_pyNext_range_end (I.ok.hd hc) st (by have:n<=i:=hg;omega) λh' eb=>%[1|I.turned (t':=s.toks) (λb o hb e=>eb b o hb e) f0 f1 f3 f4 f5]
 self:=λ_ _ _ _ _ st h=>wpAny_pyIter_rangeiter st h
section
variable {X:Cx}{tg:Expr}
instance ZiList(K:W.Frag)(R:(It->Hp->Prop))(x:V)(H1:Hp):∀a,x=.ref a->(∃xs,SqL K H1 a xs)->R (Itl K a) H1:=0
def Iq(K:W.Frag)(tl:TE):TI:=λσ H R=>tl σ H λx H1=>ZiList K R x H1
instance ZiTup(K:W.Frag)(R:(It->Hp->Prop))(x:V)(H1:Hp):∀a,x=.ref a->(∃xs,SqT K H1 a xs)->R (Itt K a) H1:=0
def iTup(K:W.Frag)(tl:TE):TI:=λσ H R=>tl σ H λx H1=>ZiTup K R x H1
def dU(hl:PE X l tl):PI X tg l (Iq X.K tl):=by
 exists 4,R,I,h;apply thn (hl NC s σ H _ I h) λv s1 ⟨x,H1,I1,r1,q1⟩=>?_
 erw[a,e,%[xs|hq],q]at q1;subst e;cases r1;let%[its,rv,p|hz]:=I1.list hq;apply jQ0 p.isList ?_;erw[‹s1›,[‹s1›],_,_,H1,1,I1.kept (t':=s1.toks) λb o e=>zO0 _ e,AG a _,%[_,qB0 _ rfl,1|1],λb hb=>?_,q];let e:b=‹s1›:=#[hb,0]
 subst e;exact I1.fpOk (zH0 _) (I1.hok.fresh (zH0 _))
def fo(hl:PE X l tl):PI X tg l (iTup X.K tl):=by
 exists 4,R,I,h;apply thn (hl NC s σ H _ I h) λv s1 ⟨x,H1,I1,r1,q1⟩=>?_
 erw[a,e,%[xs|hq],q]at q1;subst e;cases r1;let%[its,rv,p|hz]:=I1.tuple hq;apply jK0 (show s1.heap.IsTuple a its.toArray from p) ?_;erw[‹s1›,[‹s1›],_,_,H1,1,I1.kept (t':=s1.toks) λb o e=>zO0 _ e,xR a _,%[_,qB0 _ rfl,1|1],λb hb=>?_,q];let e:b=‹s1›:=#[hb,0]
 subst e;exact I1.fpOk (zH0 _) (I1.hok.fresh (zH0 _))
def wx{σ:St}{R:It->Hp->Prop}{E:#[6]}{lo hi:Int}{t u v:Tok}{tk:Nat}(I:#[8] H s)(h1:-(2 ^ 62)<=lo)(h2:lo<2 ^ 62)(h3:-(2 ^ 62)<=hi)(h4:hi<2 ^ 62)
 (q:R (Itr lo (hi-lo).toNat) H):‹X.w› (pyIter (.ref ‹s›)) (PIE X NC σ tg R) E { s with heap:=s.heap.push { cls:=.type "range",data:=.fields #[.int lo t,.int hi u,.int 1 v] },toks:=tk }:=by
 apply wpAny_pyIter_range (IsRange.new ..) (small_one h1 h2 h3 h4) ?_;let I1:#[8] H { s with heap:=s.heap.push { cls:=.type "range",data:=.fields #[.int lo t,.int hi u,.int 1 v] },toks:=tk }:=I.kept λb o e=>zO0 _ e
 erw[(s.heap.push { cls:=.type "range",data:=.fields #[.int lo t,.int hi u,.int 1 v] }).objs.size,[(s.heap.push { cls:=.type "range",data:=.fields #[.int lo t,.int hi u,.int 1 v] }).objs.size],_,_,H,1,I1.kept (t':=tk) λb o e=>zO0 _ e,xS _ lo (hi-lo).toNat,6,λb hb=>?_,q]
 . let e1:lo+((0:Nat):Int)*1=lo:=by simp
   let e2:(((hi-lo).toNat:Nat):Int)-((0:Nat):Int)=Builtin.Range.rangeSize lo hi 1:=by rw[rangeSize_one];split <;> omega
   show IsRangeIter _ _ (lo+((0:Nat):Int)*1) ((((hi-lo).toNat:Nat):Int)-((0:Nat):Int)) 1;rw[e1,e2];exact qB0 _ rfl
 . let e:b=(s.heap.push { cls:=.type "range",data:=.fields #[.int lo t,.int hi u,.int 1 v] }).objs.size:=#[hb,0]
   subst e;exact I1.fpOk (zH0 _) (I1.hok.fresh (zH0 _))
instance ZiRng1(R:(It->Hp->Prop))(vs:(List V))(H1:Hp):∀j:Int,vs=[.int j]->-(2 ^ 62)<=j->j<2 ^ 62->R (Itr 0 j.toNat) H1:=0
def iRng1(ta:TA):TI:=λσ H R=>ta σ H λvs H1=>ZiRng1 R vs H1
instance ZiRng2(R:(It->Hp->Prop))(vs:(List V))(H1:Hp):∀i j:Int,vs=[.int i,.int j]->-(2 ^ 62)<=i/\i<2 ^ 62/\-(2 ^ 62)<=j/\j<2 ^ 62->R (Itr i (j-i).toNat) H1:=0
def iRng2(ta:TA):TI:=λσ H R=>ta σ H λvs H1=>ZiRng2 R vs H1
def bJ{a:Expr}{p pos:Pos}(hg:Gl X "range")(hm:X.mg "range"=none)(ha:PA X [a] ta)(hs:starEach [a] X.env=[(false,eval a X.env)]:=by rfl):PI X tg (.Call (.Name "range" p) [a] [] pos) (iRng1 ta):=by
 exists 4,R,I,h;apply Call_ (gr I hg hm boot_range (zK1 (thn (ha pos NC s σ H _ I h) λus s1 ⟨vs,H1,I1,r1,q1⟩=>?_) hs rfl));erw[j,e,q1,q2,q]at q1;subst e;cases r1 with
 |cons r rr=>
   cases rr;erw[t,1]at r;exact call_range_1 (wx I1 #[0] #[0] q1 q2 #[q,0])
def Bm{a b:Expr}{p pos:Pos}(hg:Gl X "range")(hm:X.mg "range"=none)(ha:PA X [a,b] ta)(hs:starEach [a,b] X.env=[(false,eval a X.env),(false,eval b X.env)]:=by rfl)(hs2:starEach [b] X.env=[(false,eval b X.env)]:=by rfl):
 PI X tg (.Call (.Name "range" p) [a,b] [] pos) (iRng2 ta):=by
 exists 4,R,I,h;apply Call_ (gr I hg hm boot_range (zK1 (thn (ha pos NC s σ H _ I h) λus s1 ⟨vs,H1,I1,r1,q1⟩=>?_) (by rw[hs,hs2]) (by rw[hs2];rfl)));erw[i,j,e,%[q1,q2,q3|q4],q]at q1;subst e;cases r1 with
 |cons r rr=>
   cases rr with
   |cons r' rr=>
     cases rr;erw[t,1]at r;erw[t',1]at r';exact call_range_2 (wx I1 q1 q2 q3 q4 q)
def tFor(wi:TI)(g:TG)(tb:TS):TS:=λD σ H=>wi σ H λJ H1=>∃W:Nat->Nat->St->Hp->Prop,(∃m,W 0 m σ H1)/\∀i m σ H,W i m σ H ->
 (J.stop i H/\D.nx σ H)∨(J.go i H/\∃N:St->Hp->Prop,(∀ σ' H',N σ' H'->∃m',m'<m/\W (i+1) m' σ' H')/\∀x H',J.yld i H x H'->g x σ H' λσ2 H2=>tb { D with nx:=N,ct:=N,bk:=D.nx } σ2 H2)
def rG(fp:List Addr)(h:Heap):#[7]:=fp.filterMap λb=>(h.get? b).map λo=>(b,o)
def jL{fp:List Addr}{h:Heap}{b:Addr}{o:Obj}(hb:b∈fp)(e:h.get? b=some o):(b,o)∈rG fp h:=List.mem_filterMap.mpr %[b,hb|by rw[e];rfl]
def Bz{p:Addr×Obj}(hp:p∈rG fp h):p.1∈fp/\h.get? p.1=some p.2:=by
 let%[b,hb|e]:=List.mem_filterMap.mp hp;cases q:h.get? b with
 |none=>rw[q]at e;cases e
 |some o=>
   rw[q]at e;let e':(b,o)=p:=zT0 e;subst e';erw[hb,q]
def Inv.pinned{σ:St}{fp:List Addr}(I:#[8] H s)(hf:∀b∈fp,iN X NC H b)(ho:∀b∈fp,∃o,s.heap.get? b=some o/\∀v,o.data≠.cell v):Inv X (NC++rG fp s.heap) σ H s:=
 I.pins_of λp hp=>(qP0 hp).elim (λz=>I.pin p (qV0 _ z)) λz=>by
  let%[hb|e]:=Bz z;let%[f0,f1,f2|_]:=hf p.1 hb;let%[o,e'|d]:=ho p.1 hb;rw[e]at e';cases e';erw[e,f0,f1,f2,d]
def Inv.unpinned{NC pl:#[7]}{σ:St}(I:Inv X (NC++pl) σ H s):#[8] H s:=I.pins_of λp hp=>I.pin p (qV0 _ (wJ1 _ hp))
def cx{iter:Expr}{pos:Pos}(hp:PassesOwn (model X.prog X.w) X.A X.env X.xe)(hc:X.calm=true)(hi:PI X tg iter wi)(hg:PG X tg g)(hb:PSs X body tb)
 (hs:∀x,foldedSetIterable iter X.env x=pure x:=by intro _;rfl):PS X (.For tg iter body [] pos) (tFor wi g tb):=by
 exists 4,D,I,h;apply wpAny_For (thn (hi NC s σ H _ I h) λv s1 h1=>thn h1 λitv s2 h2=>?_) hs;erw[it,fp,tn,J,H2,e,I2,T,st2,f2,W,%[m0|w0],turn]at h2;subst e;let stat:∀{H':Hp},(∀b∈fp,H' b=none)->∀b∈fp,iN X NC H' b:=λhn b hb=>%[hn b hb|(f2 b hb).2]
 apply codeAny_forLoop_any (λn s'=>∃i σ' H',Inv X NC σ' H' s'/\tn i s'.heap/\(∀b∈fp,H' b=none)/\W i n σ' H') ?_ m0 %[(0),σ,H2,I2,st2,λb hb=>(f2 b hb).1|w0];rintro n s3 ⟨i,σ3,H3,I3,st3,fr3,w3⟩;rcases turn i n σ3 H3 w3 with⟨stop,qn⟩ | ⟨go,N,hN,step⟩
 . apply jD0 hp (thn (T.done X rfl rfl rfl hc i NC s3 σ3 H3 X.xe I3 (stat fr3) st3 stop) λr s4 ⟨hr,I4⟩=>?_);subst hr;exact wO1 %[σ3,H3,I4|qn]
 . apply jD0 hp (thn (T.item X rfl rfl rfl hc i NC s3 σ3 H3 X.xe I3 (stat fr3) st3 go) λr s4 ⟨u,hr,h4⟩=>?_);subst hr;apply jD0 hp (thn h4 λ_ s5 ⟨x,H5,I5,r5,y5,st5,fr5⟩=>?_);let I5':=I5.pinned (stat fr5) (T.obj _ _ st5);apply jD0 hp (thn (hg _ s5 σ3 H5 x u _ I5' r5 (step x H5 y5)) λ_ s6 ⟨σ6,H6,I6,q6⟩=>?_);apply jD0 hp (thn (hb _ s6 σ6 H6 _ I6 q6) λf s7 q7=>?_);let again:∀{σ7:St}{H7:Hp},Inv X (NC++rG fp s5.heap) σ7 H7 s7->N σ7 H7->∃m,m<n/\∃i σ' H',Inv X NC σ' H' s7/\tn i s7.heap/\(∀b∈fp,H' b=none)/\W i m σ' H':=fun{σ7 H7} I7 n7=>by
    let%[m',hm|w7]:=hN σ7 H7 n7;erw[m',hm,i+1,σ7,H7,I7.unpinned,T.keep _ _ _ st5 λb hb o e=>(I7.pin (b,o) (qV0 _ (qV0 _ (jL hb e)))).1,λb hb=>?_,w7];let%[o,e|d]:=T.obj _ _ st5 b hb;exact(I7.pin (b,o) (qV0 _ (qV0 _ (jL hb e)))).2.1
   cases f with
   |next=>erw[σ7,H7,I7,n7]at q7;exact again I7 n7
   |cont=>erw[σ7,H7,I7,n7]at q7;exact again I7 n7
   |brk=>erw[σ7,H7,I7,q7]at q7;erw[σ7,H7,I7.unpinned,q7]
   |ret v=>erw[x7,σ7,H7,I7,r7,q7]at q7;erw[x7,σ7,H7,I7.unpinned,r7,q7]
end
def gN{K:W.Frag}{xs:List V}{g:TG}{tb:TS}{D:Ends}{σ:St}{H:Hp}(Pv:Nat->St->Hp->Prop)(h0:Pv 0 σ H)(hl:∀i σ H,i<=xs.length->Pv i σ H->SqL K H a xs)
 (hs:∀i x σ H,xs[i]?=some x->Pv i σ H->g x σ H λσ2 H2=>tb { D with nx:=Pv (i+1),ct:=Pv (i+1),bk:=D.nx } σ2 H2)(hd:∀ σ H,Pv xs.length σ H->D.nx σ H):
 ∃ W:Nat->Nat->St->Hp->Prop,(∃m,W 0 m σ H)/\∀i m σ H,W i m σ H ->
  ((Itl K a).stop i H/\D.nx σ H)∨((Itl K a).go i H/\∃N:St->Hp->Prop,(∀ σ' H',N σ' H'->∃m',m'<m/\W (i+1) m' σ' H')/\∀x H',(Itl K a).yld i H x H'->g x σ H' λσ2 H2=>tb { D with nx:=N,ct:=N,bk:=D.nx } σ2 H2):=by
 erw[λi m σ H=>m=xs.length-i/\i<=xs.length/\Pv i σ H,%[xs.length,by simp,zU0 _|h0],6];rintro i m σ H ⟨rfl,hi,p⟩;let q:=hl i σ H hi p
 by_cases NH:i<xs.length
 . refine .inr %[%[xs,xs[i],q|by simp [NH]],Pv (i+1),λσ' H' p'=>%[xs.length-(i+1),3,1,NH|p']|λx H' y=>?_];erw[e,y]at y;subst e;exact hs i x σ _ (y xs q) p
 . let e:i=xs.length:=#[0]
   subst e;exact .inl %[%[xs,q|zH0 _]|hd σ H p]
def qv{K:W.Frag}{xs:List V}{g:TG}{tb:TS}{D:Ends}{σ:St}{H:Hp}(Pv:Nat->St->Hp->Prop)(h0:Pv 0 σ H)(hl:∀i σ H,i<=xs.length->Pv i σ H->SqT K H a xs)
 (hs:∀i x σ H,xs[i]?=some x->Pv i σ H->g x σ H λσ2 H2=>tb { D with nx:=Pv (i+1),ct:=Pv (i+1),bk:=D.nx } σ2 H2)(hd:∀ σ H,Pv xs.length σ H->D.nx σ H):
 ∃ W:Nat->Nat->St->Hp->Prop,(∃m,W 0 m σ H)/\∀i m σ H,W i m σ H ->
  ((Itt K a).stop i H/\D.nx σ H)∨((Itt K a).go i H/\∃N:St->Hp->Prop,(∀ σ' H',N σ' H'->∃m',m'<m/\W (i+1) m' σ' H')/\∀x H',(Itt K a).yld i H x H'->g x σ H' λσ2 H2=>tb { D with nx:=N,ct:=N,bk:=D.nx } σ2 H2):=by
 erw[λi m σ H=>m=xs.length-i/\i<=xs.length/\Pv i σ H,%[xs.length,by simp,zU0 _|h0],6];rintro i m σ H ⟨rfl,hi,p⟩;let q:=hl i σ H hi p
 by_cases NH:i<xs.length
 . refine .inr %[%[xs,xs[i],q|by simp [NH]],Pv (i+1),λσ' H' p'=>%[xs.length-(i+1),3,1,NH|p']|λx H' y=>?_];erw[e,y]at y;subst e;exact hs i x σ _ (y xs q) p
 . let e:i=xs.length:=#[0]
   subst e;exact .inl %[%[xs,q|zH0 _]|hd σ H p]
def dH{lo:Int}{n:Nat}{g:TG}{tb:TS}{D:Ends}{σ:St}{H:Hp}(Pv:Nat->St->Hp->Prop)(h0:Pv 0 σ H)
 (hs:∀i σ H,i<n->Pv i σ H->g (.int (lo+i)) σ H λσ2 H2=>tb { D with nx:=Pv (i+1),ct:=Pv (i+1),bk:=D.nx } σ2 H2)(hd:∀ σ H,Pv n σ H->D.nx σ H):
 ∃ W:Nat->Nat->St->Hp->Prop,(∃m,W 0 m σ H)/\∀i m σ H,W i m σ H ->
  ((Itr lo n).stop i H/\D.nx σ H)∨((Itr lo n).go i H/\∃N:St->Hp->Prop,(∀ σ' H',N σ' H'->∃m',m'<m/\W (i+1) m' σ' H')/\∀x H',(Itr lo n).yld i H x H'->g x σ H' λσ2 H2=>tb { D with nx:=N,ct:=N,bk:=D.nx } σ2 H2):=by
 erw[λi m σ H=>m=n-i/\i<=n/\Pv i σ H,%[n,by simp,zU0 _|h0],6];rintro i m σ H ⟨rfl,hi,p⟩
 by_cases NH:i<n
 . refine .inr %[NH,Pv (i+1),λσ' H' p'=>%[n-(i+1),3,1,NH|p']|λx H' y=>?_];erw[e,y]at y;subst e y;exact hs i σ _ NH p
 . let e:i=n:=#[0]
   subst e;exact .inl %[zH0 _|hd σ H p]
abbrev R2:=V->V->Hp->VK->Prop
def OpR(X:Cx)(f:Value->Value->Sem Value)(r:R2):Prop:=
 ∀(NC:#[7])(s:Shared)(σ:St)(H:Hp)(x y:V)(v u:Value)(Q:VK),#[8] H s->RelV x v->RelV y u->r x y H Q ->
  ‹X.w› (f v u) (EP X NC σ Q) X.xe s
def UnR(X:Cx)(f:Value->Sem Value)(r:V->Hp->VK->Prop):Prop:=
 ∀(NC:#[7])(s:Shared)(σ:St)(H:Hp)(x:V)(v:Value)(Q:VK),#[8] H s->RelV x v->r x H Q ->
  ‹X.w› (f v) (EP X NC σ Q) X.xe s
def hV(X:Cx)(f:Value)(r:List V->Hp->VK->Prop):Prop:=
 ∀(NC:#[7])(s:Shared)(σ:St)(H:Hp)(xs:List V)(us:List Value)(Q:VK),#[8] H s->Vals xs us->r xs H Q ->
  ‹X.w› (call f us) (EP X NC σ Q) X.xe s
def tOp(r:R2)(ta tb:TE):TE:=λσ H Q=>ta σ H λx H1=>tb σ H1 λy H2=>r x y H2 Q
def tUn(r:V->Hp->VK->Prop)(ta:TE):TE:=λσ H Q=>ta σ H λx H1=>r x H1 Q
instance rI(C:Int->Int->Prop)(g:Int->Int->V)(x:V)(y:V)(H:Hp)(Q:VK):∀i j,x=.int i->y=.int j->C i j->Q (g i j) H:=0
instance rI0(g:Int->Int->V)(x:V)(y:V)(H:Hp)(Q:VK):∀i j,x=.int i->y=.int j->Q (g i j) H:=0
instance rU(g:Int->V)(x:V)(H:Hp)(Q:VK):∀i,x=.int i->Q (g i) H:=0
section
variable {X:Cx}{a b c:Expr}{ta tb tc:TE}{pos:Pos}
def JX(ha:PE X a ta)(hb:PE X b tb){σ:St}{R:V->V->Hp->Prop}(I:#[8] H s)
 (h:ta σ H λx H1=>tb σ H1 λy H2=>R x y H2){Q:#[6]}{f:Value->Value->Sem Value}
 (hf:∀v u s2 x y H2,#[8] H2 s2->RelV x v->RelV y u->R x y H2->‹X.w› (f v u) Q X.xe s2):
 ‹X.w› (eval a X.env) (λv s₁=>‹X.w› (eval b X.env) (λu s₂=>‹X.w› (f v u) Q X.xe s₂) X.xe s₁) X.xe s:=by
 apply thn (ha NC s σ H _ I h) λv s1 ⟨x,H1,I1,r1,q1⟩=>?_
 apply thn (hb NC s1 σ H1 _ I1 q1) λu s2 ⟨y,H2,I2,r2,q2⟩=>?_
 exact hf v u s2 x y H2 I2 r1 r2 q2
def aq{op:Operator}(ho:OpR X (binaryOp op) r)(ha:PE X a ta)(hb:PE X b tb):PE X (.BinOp a op b pos) (tOp r ta tb):=by
 exists 4,Q,I,h;exact wpAny_BinOp (JX ha hb I h λv u s2 x y H2 I2 rx ry q=>ho NC s2 σ H2 x y v u Q I2 rx ry q)
def tO{op:UnaryOp}(ho:UnR X (unaryOp op) r)(ha:PE X a ta):PE X (.UnaryOp op a pos) (tUn r ta):=by
 exists 4,Q,I,h;exact UnaryOp_ (thn (ha NC s σ H _ I h) λv s1 ⟨x,H1,I1,r1,q1⟩=>ho NC s1 σ H1 x v Q I1 r1 q1)
def opI{f:Value->Value->Sem Value}{C:Int->Int->Prop}{g:Int->Int->Int}
 (rule:∀(i j:Int)(t u:Tok)(s:Shared)(Q:#[6])(E:#[6]),C i j->Q (.int (g i j) s.toks) { s with toks:=s.toks+1 }->‹X.w› (f (.int i t) (.int j u)) Q E s):
 OpR X f (rI C λi j=>.int (g i j)):=by
 exists 4,x,y,v,u,Q,I,rx,ry,h;erw[i,j,1,1,hc,q]at h;erw[t,1]at rx;erw[t',1]at ry;exact rule i j t t' s _ _ hc %[.int (g i j),H,I.tok _,%[|0]|q]
def Jj{f:Value->Value->Sem Value}{g:Int->Int->Int}
 (rule:∀(i j:Int)(t u:Tok)(s:Shared)(Q:#[6])(E:#[6]),Q (.int (g i j) s.toks) { s with toks:=s.toks+1 }->‹X.w› (f (.int i t) (.int j u)) Q E s):
 OpR X f (rI0 λi j=>.int (g i j)):=by
 exists 4,x,y,v,u,Q,I,rx,ry,h;erw[i,j,1,1,q]at h;erw[t,1]at rx;erw[t',1]at ry;exact rule i j t t' s _ _ %[.int (g i j),H,I.tok _,%[|0]|q]
def GY{f:Value->Value->Sem Value}{g:Int->Int->Bool}
 (rule:∀(i j:Int)(t u:Tok)(s:Shared)(Q:#[6])(E:#[6]),Q (.bool (g i j)) s->‹X.w› (f (.int i t) (.int j u)) Q E s):
 OpR X f (rI0 λi j=>.bl (g i j)):=by
 exists 4,x,y,v,u,Q,I,rx,ry,h;erw[i,j,1,1,q]at h;erw[t,1]at rx;erw[t',1]at ry;exact rule i j t t' s _ _ %[.bl (g i j),H,I,1|q]
def CDiv(i j:Int):Prop:=0<j/\j<1073741824
def CPow(i j:Int):Prop:=0<=j/\j<=1000000/\i.natAbs<2 ^ 64
def CMul(i j:Int):Prop:=(-(2 ^ 64)<i/\i<2 ^ 64)∨(-(2 ^ 64)<j/\j<2 ^ 64)
def CMul.ok(h:CMul i j):IntMulOk i j:=by
 rcases h with⟨h1,h2⟩ | ⟨h1,h2⟩
 . exact .of_left (intBits_le_64 h1 h2)
 . exact .of_right (intBits_le_64 h1 h2)
def xQ(k:Nat):(0:Int)<=2 ^ k:=by
 rw[two_pow_cast];exact jW1 _
def aW:OpR X (binaryOp .Add) (rI0 λi j=>.int (i+j)):=Jj λ_ _ _ _ _ _ _ q=>add_int q
def bj:OpR X (binaryOp .Sub) (rI0 λi j=>.int (i-j)):=Jj λ_ _ _ _ _ _ _ q=>sub_int q
def cg:OpR X (binaryOp .Mult) (rI CMul λi j=>.int (i*j)):=opI λ_ _ _ _ _ _ _ hc q=>mul_int q hc.ok
def zZ:OpR X (binaryOp .FloorDiv) (rI CDiv λi j=>.int (i / j)):=opI λi j _ _ _ _ _ hc q=>by
 let h1:(0:Int)<j:=hc.1;let h2:j<1073741824:=hc.2;exact floordiv_int #[0] (by rw[jR0 i #[0]];exact q) (.inl (PyProof.noPylong_small #[0]))
def ba:OpR X (binaryOp .Mod) (rI (λ_ j=>0<j) λi j=>.int (i % j)):=opI λi j _ _ _ _ _ hc q=>by
 let h1:(0:Int)<j:=hc;exact mod_int' #[0] (by rw[Int.fmod_eq_emod_of_nonneg i #[0]];exact q)
def DO:OpR X (binaryOp .Pow) (rI CPow λi j=>.int (i ^ j.toNat)):=opI λ_ _ _ _ _ _ _ hc q=>pow_int_small hc.1 hc.2.1 hc.2.2 q
def Jg:OpR X (binaryOp .LShift) (rI CPow λi j=>.int (i*2 ^ j.toNat)):=opI λ_ _ _ _ _ _ _ hc q=>lshift_int_small hc.1 hc.2.1 hc.2.2 q
def Jf:OpR X (binaryOp .RShift) (rI (λ_ j=>0<=j) λi j=>.int (i / 2 ^ j.toNat)):=opI λi j _ _ _ _ _ hc q=>
 rshift_int hc (by rw[jR0 i (xQ _)];exact q)
def Ji:OpR X (binaryOp .BitAnd) (rI0 λi j=>.int (Builtin.bitAnd i j)):=Jj λ_ _ _ _ _ _ _ q=>and_int q
def unI{f:Value->Sem Value}{g:Int->Int}
 (rule:∀(i:Int)(t:Tok)(s:Shared)(Q:#[6])(E:#[6]),Q (.int (g i) s.toks) { s with toks:=s.toks+1 }->‹X.w› (f (.int i t)) Q E s):
 UnR X f (rU λi=>.int (g i)):=by
 exists 4,x,v,Q,I,rx,h;erw[i,1,q]at h;erw[t,1]at rx;exact rule i t s _ _ %[.int (g i),H,I.tok _,%[|0]|q]
def oA:UnR X (unaryOp .USub) (rU λi=>.int (-i)):=unI λ_ _ _ _ _ q=>neg_int q
end
def scal:V->V->Bool
 |.non,.non=>true | .non,.int _=>true | .int _,.non=>true | .non,.bl _=>true | .bl _,.non=>true | .non,.str _=>true | .str _,.non=>true
 |.int _,.int _=>true | .bl _,.bl _=>true | .str _,.str _=>true | .byt _,.byt _=>true
 |.int _,.str _=>true | .str _,.int _=>true | .bl _,.str _=>true | .str _,.bl _=>true
 |_,_=>false
instance rEq(x:V)(y:V)(H:Hp)(Q:VK):scal x y=true->Q (.bl (decide (x=y))) H:=0
instance rNe(x:V)(y:V)(H:Hp)(Q:VK):scal x y=true->Q (.bl (!decide (x=y))) H:=0
def Au{i j:Int}:decide (V.int i=V.int j)=(i==j):=by
 rw[jX0]
 simp
def Fo{i j:Bool}:decide (V.bl i=V.bl j)=(i==j):=by
 rw[jX0]
 simp
def At{i j:Str}:decide (V.str i=V.str j)=(i==j):=by
 rw[jX0]
 simp
def Av{i j:Array UInt8}:decide (V.byt i=V.byt j)=(i.toList==j.toList):=by
 rw[jX0];cases i;cases j
 simp
section
variable {X:Cx}{a b c:Expr}{ta tb tc:TE}{pos:Pos}
def bQ{σ:St}{Q:VK}{k k':Bool}(I:#[8] H s)(q:Q (.bl k) H)(e:k=k'):EP X NC σ Q (.bool k') s:=by
 subst e;erw[.bl k,H,I,1,q]
def aS:OpR X (compareOp .Eq) rEq:=by
 exists 4,x,y,v,u,Q,I,rx,ry,h;erw[hs,q]at h;cases x with
 |non=>
   cases rx;cases y with
   |non=>cases ry;exact PySem.EqNone.eq_none_none (bQ I q #[2])
   |bl j=>cases ry;exact PySem.EqNone.eq_none_bool (bQ I q #[2])
   |int j=>erw[t',1]at ry;exact PySem.EqNone.eq_none_int (bQ I q #[2])
   |str j=>erw[t',1]at ry;exact PySem.EqNone.eq_none_str (bQ I q #[2])
   |_=>exact absurd (show false=true from hs) qI0
 |bl i=>
   cases rx;cases y with
   |non=>cases ry;exact PySem.EqNone.eq_bool_none (bQ I q #[2])
   |bl j=>cases ry;exact eq_bool (bQ I q Fo)
   |str j=>erw[t',1]at ry;exact PySem.EqMixed.eq_bool_str (bQ I q #[2])
   |_=>exact absurd (show false=true from hs) qI0
 |int i=>
   erw[t,1]at rx;cases y with
   |non=>cases ry;exact PySem.EqNone.eq_int_none (bQ I q #[2])
   |int j=>erw[t',1]at ry;exact eq_int (bQ I q Au)
   |str j=>erw[t',1]at ry;exact PySem.EqMixed.eq_int_str (bQ I q #[2])
   |_=>exact absurd (show false=true from hs) qI0
 |str i=>
   erw[t,1]at rx;cases y with
   |non=>cases ry;exact PySem.EqNone.eq_str_none (bQ I q #[2])
   |bl j=>cases ry;exact PySem.EqMixed.eq_str_bool (bQ I q #[2])
   |int j=>erw[t',1]at ry;exact PySem.EqMixed.eq_str_int (bQ I q #[2])
   |str j=>erw[t',1]at ry;exact eq_str (bQ I q At)
   |_=>exact absurd (show false=true from hs) qI0
 |byt i=>
   erw[t,1]at rx;cases y with
   |byt j=>erw[t',1]at ry;exact PySem.W.eq_bytes (bQ I q Av)
   |_=>exact absurd (show false=true from hs) qI0
 |_=>cases y <;> exact absurd (show false=true from hs) qI0
def nI:OpR X (compareOp .NotEq) rNe:=by
 exists 4,x,y,v,u,Q,I,rx,ry,h;erw[hs,q]at h;cases x with
 |non=>
   cases rx;cases y with
   |non=>cases ry;exact PySem.EqNone.ne_none_none (bQ I q #[2])
   |bl j=>cases ry;exact PySem.EqNone.ne_none_bool (bQ I q #[2])
   |int j=>erw[t',1]at ry;exact PySem.EqNone.ne_none_int (bQ I q #[2])
   |str j=>erw[t',1]at ry;exact PySem.EqNone.ne_none_str (bQ I q #[2])
   |_=>exact absurd (show false=true from hs) qI0
 |bl i=>
   cases rx;cases y with
   |non=>cases ry;exact PySem.EqNone.ne_bool_none (bQ I q #[2])
   |bl j=>cases ry;exact ne_bool (bQ I q (congrArg not Fo))
   |str j=>erw[t',1]at ry;exact PySem.EqMixed.ne_bool_str (bQ I q #[2])
   |_=>exact absurd (show false=true from hs) qI0
 |int i=>
   erw[t,1]at rx;cases y with
   |non=>cases ry;exact PySem.EqNone.ne_int_none (bQ I q #[2])
   |int j=>erw[t',1]at ry;exact ne_int (bQ I q (congrArg not Au))
   |str j=>erw[t',1]at ry;exact PySem.EqMixed.ne_int_str (bQ I q #[2])
   |_=>exact absurd (show false=true from hs) qI0
 |str i=>
   erw[t,1]at rx;cases y with
   |non=>cases ry;exact PySem.EqNone.ne_str_none (bQ I q #[2])
   |bl j=>cases ry;exact PySem.EqMixed.ne_str_bool (bQ I q #[2])
   |int j=>erw[t',1]at ry;exact PySem.EqMixed.ne_str_int (bQ I q #[2])
   |str j=>erw[t',1]at ry;exact ne_str (bQ I q (congrArg not At))
   |_=>exact absurd (show false=true from hs) qI0
 |byt i=>
   erw[t,1]at rx;cases y with
   |byt j=>erw[t',1]at ry;exact PySem.W.ne_bytes (bQ I q (congrArg not Av))
   |_=>exact absurd (show false=true from hs) qI0
 |_=>cases y <;> exact absurd (show false=true from hs) qI0
def gJ:OpR X (compareOp .Lt) (rI0 λi j=>.bl (decide (i<j))):=GY λ_ _ _ _ _ _ _ q=>lt_int q
def wC:OpR X (compareOp .LtE) (rI0 λi j=>.bl (decide (i<=j))):=GY λ_ _ _ _ _ _ _ q=>le_int q
def iz:OpR X (compareOp .Gt) (rI0 λi j=>.bl (decide (j<i))):=GY λ_ _ _ _ _ _ _ q=>gt_int q
def Ik:OpR X (compareOp .GtE) (rI0 λi j=>.bl (decide (j<=i))):=GY λ_ _ _ _ _ _ _ q=>ge_int q
def tQ:OpR X (compareOp .In) (λx y H Q=>∃i j,x=.str i/\y=.str j/\Q (.bl (!(Builtin.Str.occurrences j i 0 j.length 1).isEmpty)) H):=by
 exists 4,x,y,v,u,Q,I,rx,ry,h;erw[i,j,1,1,q]at h;erw[t,1]at rx;erw[t',1]at ry;exact in_str (bQ I q rfl)
def yC:OpR X (compareOp .Is) (λx y H Q=>y=.non/\Q (.bl (decide (x=.non))) H):=by
 exists 4,x,y,v,u,Q,I,rx,ry,h;erw[1,q]at h;cases ry;apply is_none_gen (bQ I q ?_);cases x <;> first
  | (cases rx;rfl)
  | (erw[t,1]at rx;rfl)
def OpR.or(h:OpR X f r)(h':OpR X f r'):OpR X f (λx y H Q=>r x y H Q∨r' x y H Q):=by
 exists 4,x,y,v,u,Q,I,rx,ry,q;rcases q with q | q
 . exact h NC s σ H x y v u Q I rx ry q
 . exact h' NC s σ H x y v u Q I rx ry q
def az(b:Expr){op:CmpOp}(h:op≠.In:=by decide)(h2:op≠.NotIn:=by decide):behindInMarks op b=false:=by
 let e1:(op==CmpOp.In)=false:=by cases op <;> first | rfl | exact absurd rfl h
 let e2:(op==CmpOp.NotIn)=false:=by cases op <;> first | rfl | exact absurd rfl h2
 cases b <;> simp [behindInMarks,e1,e2]
def dy{op:CmpOp}(ho:OpR X (compareOp op) r)(ha:PE X a ta)(hb:PE X b tb)(hm:behindInMarks op b=false):PE X (.Compare a [op] [b] pos) (tOp r ta tb):=by
 exists 4,Q,I,h;exact wpAny_Compare1 (JX ha hb I h λv u s2 x y H2 I2 rx ry q=>ho NC s2 σ H2 x y v u Q I2 rx ry q) hm
instance ZtTest(Q:(Bool->Hp->Prop))(x:V)(H':Hp):∀k,x=.bl k->Q k H':=0
def HY(t:TE):TT:=λσ H Q=>t σ H λx H'=>ZtTest Q x H'
def am{op:CmpOp}(ho:OpR X (compareOp op) r)(ha:PE X a ta)(hb:PE X b tb)(hm:behindInMarks op b=false):PT X (.Compare a [op] [b] pos) (HY (tOp r ta tb)):=by
 exists 4,Q,I,h;apply wpAny_isTrue_Compare1 (thn (ha NC s σ H _ I h) λv s1 ⟨x,H1,I1,r1,q1⟩=>thn (hb NC s1 σ H1 _ I1 q1) λu s2 ⟨y,H2,I2,r2,q2⟩=>
  thn (ho NC s2 σ H2 x y v u _ I2 r1 r2 q2) λc s3 ⟨z,H3,I3,r3,k,e,q3⟩=>?_) hm
 subst e;cases r3;exact qC1 %[H3,I3|q3]
instance ZtChain(r':R2)(tc:TE)(σ:St)(Q:VK)(y:V)(z:V)(H3:Hp):∀k,z=.bl k->(if k=true then tc σ H3 λw' H4=>r' y w' H4 Q else Q (.bl false) H3):=0
def CC(r r':R2)(ta tb tc:TE):TE:=λσ H Q=>ta σ H λx H1=>tb σ H1 λy H2=>r x y H2 λz H3=>ZtChain r' tc σ Q y z H3
def DJ{op op':CmpOp}(ho:OpR X (compareOp op) r)(ho':OpR X (compareOp op') r')(ha:PE X a ta)(hb:PE X b tb)(hc:PE X c tc)
 (hm:lastMarks [op,op'] [b,c]=false:=by rfl'):PE X (.Compare a [op,op'] [b,c] pos) (CC r r' ta tb tc):=by
 exists 4,Q,I,h;apply Compare_chain (thn (ha NC s σ H _ I h) λv s1 ⟨x,H1,I1,r1,q1⟩=>chain_link (thn (hb NC s1 σ H1 _ I1 q1) λu s2 ⟨y,H2,I2,r2,q2⟩=>
  thn (ho NC s2 σ H2 x y v u _ I2 r1 r2 q2) λd s3 ⟨z,H3,I3,r3,k,e,q3⟩=>?_)) hm
 subst e;cases r3;apply qC1 ?_;cases k with
 |false=>exact ite_ff %[.bl false,H3,I3,1|q3]
 |true=>exact ite_tt (chain_last (thn (hc NC s3 σ H3 _ I3 q3) λw' s4 ⟨z',H4,I4,r4,q4⟩=>ho' NC s4 σ H4 y z' u w' Q I4 r2 r4 q4))
def Dz{op op':CmpOp}(ho:OpR X (compareOp op) r)(ho':OpR X (compareOp op') r')(ha:PE X a ta)(hb:PE X b tb)(hc:PE X c tc)
 (hm:lastMarks [op,op'] [b,c]=false:=by rfl'):PT X (.Compare a [op,op'] [b,c] pos) (HY (CC r r' ta tb tc)):=by
 exists 4,Q,I,h;apply isTrue_chain (thn (ha NC s σ H _ I h) λv s1 ⟨x,H1,I1,r1,q1⟩=>test_link (thn (hb NC s1 σ H1 _ I1 q1) λu s2 ⟨y,H2,I2,r2,q2⟩=>
  thn (ho NC s2 σ H2 x y v u _ I2 r1 r2 q2) λd s3 ⟨z,H3,I3,r3,k,e,q3⟩=>?_)) hm
 subst e;cases r3;apply qC1 ?_;cases k with
 |false=>
   erw[k',e',q']at q3;cases e';exact ite_ff %[H3,I3|q']
 |true=>
   apply ite_tt (test_last (thn (hc NC s3 σ H3 _ I3 q3) λw' s4 ⟨z',H4,I4,r4,q4⟩=>thn (ho' NC s4 σ H4 y z' u w' _ I4 r2 r4 q4) λd' s5 ⟨z2,H5,I5,r5,k2,e2,q5⟩=>?_));subst e2;cases r5;exact qC1 %[H5,I5|q5]
def jM:(sizeLine:Nat)<2 ^ 63:=by rw[sizeLine_eq];decide
def rO:OpR X (binaryOp .Add) (λx y H Q=>∃i j,x=.str i/\y=.str j/\i.length+j.length<=sizeLine/\Q (.str (i++j)) H):=by
 exists 4,x,y,v,u,Q,I,rx,ry,h;erw[i,j,1,1,hz,q]at h;erw[t,1]at rx;erw[t',1]at ry;exact add_str (λt' tk=>%[.str (i++j),H,I.tok _,%[|0]|q]) hz
def lE{x:V}(r:Vals [x] us):∃u,us=[u]/\RelV x u:=by
 cases r with
 |cons r1 r2=>cases r2;erw[0,r1]
def HX{x y:V}(r:Vals [x,y] us):∃u w',us=[u,w']/\RelV x u/\RelV y w':=by
 cases r with
 |cons r1 r2=>
   cases r2 with
   |cons r3 r4=>cases r4;erw[_,0,r1,r3]
def uk(hc:X.calm=true):hV X (.builtin "max") (λxs H Q=>∃i j,xs=[.int i,.int j]/\Q (.int (if j>i then j else i)) H):=by
 exists 4,xs,us,Q,I,r,h;erw[i,j,1,q]at h;let%[u,w',1,%[t|1]|%[t'|1]]:=HX r;apply max_two_ints (I.ok.hd hc) λh' tk k=>%[_,H,I.kept k,6|q]
 by_cases hj:j>i
 . rw[NE hj,NE hj];erw[0]
 . rw[ND hj,ND hj];erw[0]
def lA:hV X (.type "int") (λxs H Q=>(∃i,xs=[.int i]/\Q (.int i) H)∨∃k,xs=[.bl k]/\Q (.int (if k then 1 else 0)) H):=by
 exists 4,xs,us,Q,I,r,h;rcases h with⟨i,rfl,q⟩ | ⟨k,rfl,q⟩
 . let%[u,1,t|1]:=lE r;exact call_int_int %[.int i,H,I,%[|0]|q]
 . let%[u,1|r1]:=lE r;cases r1;exact call_int_bool %[.int (if k then 1 else 0),H,I.tok _,%[|0]|q]
end
structure ObjM(h:Heap)(x dx C:Addr)(mA:#[9]):Prop where
 obj:h.get? x=some (PySem.W.instObj C dx)
 ns:h.Ns1 dx mA
 ne:dx≠x
def BF{h:Heap}{dx:Addr}{mA:#[9]}(n:h.Ns1 dx mA):∃od,h.get? dx=some od/\∀name,PySem.W.lookIn name od=some (mA name):=by
 erw[o,es,ep,ho,hd,hk,_,hm]at n;erw[o,ho,λname=>?_];let e:=hm name;unfold nsFind findBy at e;rw[←Array.find?_toList]at e;unfold PySem.W.lookIn;rw[hd]
 dsimp only
 split
 . rename_i y q;rw[q]at e;exact congrArg some e
 . rename_i q;rw[q]at e;let a:es.toList.any (·.refKey)=false:=by
    rw[List.any_eq_false];intro y hy;let%[z,t|hkey]:=hk y (Array.mem_toList_iff.mp hy)
    simp [DictEntry.refKey,hkey]
   let a':¬ es.toList.any (·.refKey)=true:=by rw[a];exact qI0
   rw[ND a'];exact congrArg some e
def ObjM.look(I:ObjM h x dx C mA):∃od,PySem.W.InstAt h x (PySem.W.instObj C dx) C (some od)/\∀name,PySem.W.lookIn name od=some (mA name):=
 let⟨od,ho,hl⟩:=BF I.ns
 %[od,%[I.obj,1,1|ho]|hl]
section
variable {prog:Program}{w:World}{A:Around}{E:#[6]}{s:Shared}{K:W.Frag}{x dx C f:Addr}{mA:#[9]}{name:Str}{v:Value}
def HD{expr:Bool}{Q:#[6]}(X:K.In s.heap)(I:ObjM s.heap x dx C mA)(hg:PySem.W.plainGet K C name=true)(hh:PySem.W.hasDictIn K C=true)
 (ha:PySem.W.findIn K (.ref C) name=some none)(hv:mA name=some v)(hv':PySem.W.handedIn v=true)(h:Q v { s with toks:=s.toks+1 }):
 ‹w.A› (getAttr (.ref x) name expr) Q E s:=by
 erw[od,J,hl]at I.look;exact PySem.W.get_value X J (wP0 hg).1 (PySem.W.findObj_own hh ha rfl (by rw[hl,hv])) hv' h
def Fb{pl:Sem Bool}{Q:Value×List Value->Shared->Prop}(X:K.In s.heap)(I:ObjM s.heap x dx C mA)(hg:PySem.W.plainGet K C name=true)
 (hf:PySem.W.findIn K (.ref C) name=some (some (.ref f)))(ht:PySem.W.isFn K (.ref f)=true)(hv:mA name=none)(h:Q (.ref f,[.ref x]) s):
 ‹w.A› (getMethod (.ref x) name pl) Q E s:=by
 erw[od,J,hl]at I.look;exact PySem.W.method_fn X J (wP0 hg).1 (wP0 hg).2 hf (beq_iff_eq.mp ht) (by show(PySem.W.lookIn name od).map (·.isSome)=some false;rw[hl,hv];rfl) h
def Gs{ns:List Str}{Q:Unit->Shared->Prop}(X:K.In s.heap)(I:ObjM s.heap x dx C mA)
 (hs:PySem.W.findIn K (.ref C) "__setattr__"=some (some (.builtin "object.__setattr__")))(hp:PySem.W.plainOver K C=true)(ht:PySem.W.takerIn K C name=some none)(hh:PySem.W.hasDictIn K C=true)
 (hw:PySem.Within mA ns)(hsz:ns.length<=sizeLine)
 (h:∀h',ObjM h' x dx C (λy=>if y=name then some v else mA y)->Heap.SameBut dx s.heap h'->Q () { s with heap:=h',toks:=s.toks+2 }):
 ‹w.A› (setAttr (.ref x) name v) Q E s:=by
 erw[od,J,hl]at I.look;apply PySem.W.set_plain X J hs (PySem.W.osa_open (s:={ s with toks:=s.toks+1 }) (r:=none) X J hp ht λb=>?_);let%[cd,hc|hd']:=PySem.W.any_some hh;let hx:s.heap.get? x=some %[.ref C,some dx,.plain|#[]]:=I.obj;apply zD0 (zI0 (zD0 (zD0 (wpAny_loadPart hx (zD0 (PySem.W.Looks.here (s:={ s with toks:=s.toks+1 }) (PySem.W.looks_clsIn X hc) ?_))))));rw[hd'];apply zI0 (a:=some dx) (zD0 (zI0 (zD0 ?_)));apply wpAny_nsSet1 (s:={ s with toks:=s.toks+1 }) I.ns λh' hn2 hs2=>?_
 let%[oD,esD,epD,hoD,hdD|hcD]:=hn2.count (PySem.Within.cons name v hw);apply zD0 (wpAny_lookBehind hoD (by rw[hdD];exact pastItsLine_dict (zQ0 hcD (by rw[zP0];omega))) ?_);exact zI0 (h _ %[(hs2.2 _ (Ne.symm I.ne)).trans I.obj,hn2|I.ne] hs2)
def EA{R:Result->Shared->Prop}{vs:List Value}{kw:List (Str×Value)}(X:K.In s.heap)(hm:PySem.W.makesIn K C=true)
 (hi:PySem.W.findIn K (.ref C) "__init__"=some (some (.ref f)))(hf:PySem.W.typeIn K (.ref f)=some (.type "function"))
 (h:codeAny (model prog w) (A.under (.builtin "type.__call__" %[.ref C::vs|kw])) (.call (.ref f) ⟨.ref (‹s›+1)::vs,kw⟩) (PySem.W.InitBack (‹s›+1) R)
  { s with heap:=(s.heap.push PySem.W.emptyDict).push (PySem.W.instObj C ‹s›) }) :
 codeAny (model prog w) A (.call (.ref C) %[vs|kw]) R s:=by
 erw[hh,g,d,t,os]at s;exact PySem.W.make_core (PySem.W.makes_of X hm) (PySem.W.looks_findIn X hi) (λself=>PySem.W.bind_fn X self hf) (.inl rfl) h
end
def bY(f:Str)(v:V):List (Str×V)->List (Str×V)
 | []=>[(f,v)]
 | (g,x)::r=>if g=f then(g,v)::r else(g,x)::bY f v r
def au(f g:Str)(v:V):∀fs:List (Str×V),(bY f v fs).lookup g=if g=f then some v else fs.lookup g
 | []=>by
   show List.lookup g [(f,v)]=_
   by_cases h:g=f
   . let hb:(g==f)=true:=beq_iff_eq.mpr h;simp only[List.lookup,hb,NE h]
   . let hb:(g==f)=false:=beq_eq_false_iff_ne.mpr h;simp only[List.lookup,hb,ND h]
 | (k,x)::r=>by
   let ih:=au f g v r;rw[show bY f v ((k,x)::r)=(if k=f then(k,v)::r else(k,x)::bY f v r)from rfl]
   by_cases hk:k=f
   . rw [NE hk]
     by_cases h:g=k
     . let hb:(g==k)=true:=beq_iff_eq.mpr h;simp only[List.lookup,hb,NE (h.trans hk)]
     . let hb:(g==k)=false:=beq_eq_false_iff_ne.mpr h;simp only[List.lookup,hb,ND (λe:g=f=>h (e.trans hk.symm))]
   . rw [ND hk]
     by_cases h:g=k
     . let hb:(g==k)=true:=beq_iff_eq.mpr h;simp only[List.lookup,hb,ND (λe:g=f=>hk (h.symm.trans e))]
     . let hb:(g==k)=false:=beq_eq_false_iff_ne.mpr h;simp only[List.lookup,hb];exact ih
def oY(f:Str)(v:V):∀fs:List (Str×V),f∈(bY f v fs).map (·.1)/\∀g,g∈fs.map (·.1)->g∈(bY f v fs).map (·.1)
 | []=>%[by simp [bY]|λg h=>by simp at h]
 | (k,x)::r=>by
   let%[i1|i2]:=oY f v r;rw[show bY f v ((k,x)::r)=(if k=f then(k,v)::r else(k,x)::bY f v r)from rfl]
   by_cases hk:k=f
   . rw[NE hk];subst hk;erw[by simp,λg h=>by simpa using h]
   . rw [ND hk];erw[6,λg h=>?_]
     . rw[qE0];exact qM0 _ i1
     . rw [qE0]at h ⊢;rcases zY0 h with e | e
       . exact List.mem_cons.mpr (.inl e)
       . exact qM0 _ (i2 g e)
def pQ(f:Str)(v:V):∀fs:List (Str×V),(bY f v fs).length<=fs.length+1
 | []=>by simp [bY]
 | (k,x)::r=>by
   let ih:=pQ f v r;rw[show bY f v ((k,x)::r)=(if k=f then(k,v)::r else(k,x)::bY f v r)from rfl]
   by_cases hk:k=f
   . rw[NE hk,zP0,zP0];omega
   . rw[ND hk,zP0,zP0];omega
def RelO.some_of{v:V}(r:RelO (some v) o):∃u,o=some u/\RelV v u:=by
 cases o with
 |none=>exact(show False from r).elim
 |some u=>erw[u,1,r]
def RelO.none_of(r:RelO none o):o=none:=by
 cases o with
 |none=>rfl
 |some u=>exact(show False from r).elim
def BT(r:RelV v u):PySem.W.handedIn u=true:=by
 cases v with
 |non=>cases(show u=Value.none from r);rfl
 |bl b=>cases(show u=Value.bool b from r);rfl
 |int i=>let%[t|e]:=(show ∃t,u=Value.int i t from r);cases e;rfl
 |str x=>let%[t|e]:=(show ∃t,u=Value.str x t from r);cases e;rfl
 |byt b=>let%[t|e]:=(show ∃t,u=Value.bytes b t from r);cases e;rfl
 |flt b=>let%[t|e]:=(show ∃t,u=Value.float b t from r);cases e;rfl
 |ref a=>cases(show u=Value.ref a from r);rfl
 |ty n=>cases(show u=Value.type n from r);rfl
section
variable {P:Program}{w:World}{H H':Hp}{h h':Heap}{a C dx:Addr}{fs fs':List (Str×V)}
def qr(hok:HOk P w H h)(e:H a=some (.ins C dx fs)):∃mA,ObjM h a dx C mA/\(∀f,RelO (fs.lookup f) (mA f))/\PySem.Within mA (fs.map (·.1))/\fs.length<=1000/\H dx=some (.own a):=by
 let%[d,z,ne,ob,mA,n,r|q]:=(show ObjOk P w H h a (.ins C dx fs)from hok a _ e)
 erw[mA,%[ob,n|ne],r,q,z,d]
end
structure Cls(K:W.Frag)(C:Addr):Prop where
 pg:PySem.W.plainGet K C Str.empty=true
 hd:PySem.W.hasDictIn K C=true
 po:PySem.W.plainOver K C=true
 sa:PySem.W.findIn K (.ref C) "__setattr__"=some (some (.builtin "object.__setattr__"))
def Cls.get{K:W.Frag}(c:Cls K C)(f:Str):PySem.W.plainGet K C f=true:=c.pg
def NoAttr(K:W.Frag)(C:Addr)(f:Str):Prop:=PySem.W.findIn K (.ref C) f=some none
def NoAttr.taker{K:W.Frag}(n:NoAttr K C f):PySem.W.takerIn K C f=some none:=by
 unfold PySem.W.takerIn;rw[show PySem.W.findIn K (.ref C) f=some none from n];rfl
structure Meth(K:W.Frag)(C:Addr)(m:Str)(f:Addr):Prop where
 at_:PySem.W.findIn K (.ref C) m=some (some (.ref f))
 fn:PySem.W.isFn K (.ref f)=true
 kp:PySem.W.keepIn K (.ref f)=true
section
variable {X:Cx}{NC:#[7]}{σ:St}{H:Hp}{s:Shared}{a C dx:Addr}{fs:List (Str×V)}{f:Str}{v:V}{A:Around}{E:#[6]}
def zp{b:Bool}{Q:#[6]}(I:#[8] H s)(e:H a=some (.ins C dx fs))(c:Cls X.K C)(n:NoAttr X.K C f)(l:fs.lookup f=some v)
 (h:∀u s',#[8] H s'->RelV v u->Q u s'):wpAny (model X.prog X.w) A (getAttr (.ref a) f b) Q E s:=by
 let%[mA,O,r,_,_|_]:=qr I.hok e;let%[u,hu|ru]:=RelO.some_of (v:=v) (o:=mA f) (by rw[←l];exact r f);exact HD I.kIn O (c.get f) c.hd n hu (BT ru) (h u _ (I.tok _) ru)
def sy{pl:Sem Bool}{Q:Value×List Value->Shared->Prop}(I:#[8] H s)(e:H a=some (.ins C dx fs))(c:Cls X.K C)(k:Meth X.K C m g)(l:fs.lookup m=none)
 (h:Q (.ref g,[.ref a]) s):wpAny (model X.prog X.w) A (getMethod (.ref a) m pl) Q E s:=by
 let%[mA,O,r,_,_|_]:=qr I.hok e;let hn:mA m=none:=RelO.none_of (by rw[←l];exact r m);exact Fb I.kIn O (c.get m) k.at_ k.fn hn h
def ye{Q:Unit->Shared->Prop}(I:#[8] H s)(e:H a=some (.ins C dx fs))(c:Cls X.K C)(n:NoAttr X.K C f)(hl:fs.length<1000)(ry:RelV y u)
 (h:∀s',#[8] (upd H a (.ins C dx (bY f y fs))) s'->Q () s'):wpAny (model X.prog X.w) A (setAttr (.ref a) f u) Q E s:=by
 let%[mA,O,r,wi,_|ho]:=qr I.hok e;let hz:(fs.map (·.1)).length<=sizeLine:=by rw[zF0,sizeLine_eq];omega
 apply Gs I.kIn O c.sa c.po n.taker c.hd wi hz λh' O' sb=>h _ ?_
 let hd:∃o,h'.get? dx=some o:=let⟨o,_,_,e',_⟩:=O'.ns;%[o|e']
 apply I.write (x:=a) (e:=dx) (by rw[e];exact True.intro) (.inr ho) (λb q hb z=>(sb.2 b hb).trans z) hd ?_;erw[by rw[ay O.ne];exact ho,6,O.ne,O'.obj,_,O'.ns,λg=>?_,λg hg=>?_]
 . have:=pQ f y fs;omega
 . show RelO ((bY f y fs).lookup g) (if g=f then some u else mA g);rw[au]
   by_cases q:g=f
   . rw[NE q,NE q];exact ry
   . rw[ND q,ND q];exact r g
 . by_cases q:g=f
   . rw[q];exact(oY f y fs).1
   . refine(oY f y fs).2 g (wi g λz=>hg ?_);show(if g=f then some u else mA g)=none;rw[ND q];exact z
def Inv.made(I:#[8] H s):#[8] (upd (upd H ‹s› (.own (‹s›+1))) (‹s›+1) (.ins C ‹s› []))
 { s with heap:=(s.heap.push PySem.W.emptyDict).push (PySem.W.instObj C ‹s›) }:=by
 let e1:(s.heap.push PySem.W.emptyDict).get? ‹s›=some PySem.W.emptyDict:=qB0 s.heap rfl;let e2:((s.heap.push PySem.W.emptyDict).push (PySem.W.instObj C ‹s›)).get? (‹s›+1)=some (PySem.W.instObj C ‹s›):=by
  have:=qB0 (s.heap.push PySem.W.emptyDict) (o:=PySem.W.instObj C ‹s›) rfl
  rwa [jC1]at this
 let e3:(s.heap.push PySem.W.emptyDict).Ns ‹s› (λ_=>none):=%[PySem.W.emptyDict,#[],_,e1,1,(λe he=>absurd he #[2])|λ_=>rfl]
 let I1:=I.laid (a:=‹s›) (o:=.own (‹s›+1)) (h':=s.heap.push PySem.W.emptyDict) (t':=s.toks) (λb u q=>zO0 _ q) (zH0 _) %[_|e1];apply I1.laid (a:=‹s›+1) (o:=.ins C ‹s› []) (t':=s.toks) (λb u q=>zO0 _ q) (Nat.le_of_eq (jC1 _ _)) ?_;let ne:‹s›≠‹s›+1:=zV0 (qM1 _);erw[by rw[ay ne,ai],zU0 _,ne,e2,λ_=>none,(Heap.Ns1.of_empty e3).at λo q=>zO0 _ q,λ_=>True.intro,λy hy=>absurd rfl hy]
def HN{prog:Program}{w:World}{env:Env}{e:Expr}{f:Str}{pos:Pos}{s:Shared}{Q:#[6]}(hb:attributeBase e f env (eval e env)=eval e env)
 (h:‹w.A› (eval e env) (λo s₁=>‹w.A› (getAttr o f true) Q E s₁) E s):‹w.A› (eval (.Attribute e f pos) env) Q E s:=
 Attribute_any_ h (by rw[arm_eval_Attribute,hb])
end
instance ZtFld(K:W.Frag)(f:Str)(Q:VK)(x:V)(H1:Hp):∀a C dx fs v,x=.ref a->H1 a=some (.ins C dx fs)->Cls K C->NoAttr K C f->fs.lookup f=some v->Q v H1:=0
def tFld(K:W.Frag)(ta:TE)(f:Str):TE:=λσ H Q=>ta σ H λx H1=>ZtFld K f Q x H1
instance ZsFld(K:W.Frag)(f:Str)(D:Ends)(σ:St)(y:V)(x:V)(H2:Hp):∀a C dx fs,x=.ref a->H2 a=some (.ins C dx fs)->Cls K C->NoAttr K C f->fs.length<1000->D.nx σ (upd H2 a (.ins C dx (bY f y fs))):=0
def sFld(K:W.Frag)(ta tv:TE)(f:Str):TS:=λD σ H=>tv σ H λy H1=>ta σ H1 λx H2=>ZsFld K f D σ y x H2
section
variable {X:Cx}{o e value:Expr}{f:Str}{pos pos' tpos:Pos}{ta tv:TE}
def aB(he:PE X e ta)(hb:attributeBase e f X.env (eval e X.env)=eval e X.env):PE X (.Attribute e f pos) (tFld X.K ta f):=by
 exists 4,Q,I,h;apply HN hb (thn (he NC s σ H _ I h) λu s1 ⟨x,H1,I1,rx,a,C,dx,fs,v,ex,ea,c,n,l,q⟩=>?_);subst ex;obtain rfl:u=Value.ref a:=rx;exact zp I1 ea c n l λu' s2 I2 ru=>%[v,H1,I2,ru|q]
def aR(ha:PE X o ta)(hv:PE X value tv)(hs:swapsWith value (some (.Attribute o f pos')) pos.line X.env=pure false):PS X (.Assign [.Attribute o f pos'] value pos) (sFld X.K ta tv f):=by
 exists 4,D,I,h;apply plainObj_wpAny_Assign_Attribute (thn (hv NC s σ H _ I h) λu s1 ⟨y,H1,I1,ry,q⟩=>thn (ha NC s1 σ H1 _ I1 q) λov s2 ⟨x,H2,I2,rx,a,C,dx,fs,ex,ea,c,n,l,q2⟩=>?_) hs;subst ex;obtain rfl:ov=Value.ref a:=rx;exact ye I2 ea c n l ry λs3 I3=>%[σ,_,I3|q2]
end
section
variable {X:Cx}{NC:#[7]}{σ:St}{H:Hp}{s:Shared}{A:Around}{E:#[6]}{Q:#[6]}{c:Value}{b:Bool}
inductive TyOf(K:W.Frag)(H:Hp):V->Value->Prop where
 |non:TyOf K H .non (.type "NoneType")
 |bl (x:Bool):TyOf K H (.bl x) (.type "bool")
 |int (i:Int):TyOf K H (.int i) (.type "int")
 |str (x:Str):TyOf K H (.str x) (.type "str")
 |flt (x:UInt64):TyOf K H (.flt x) (.type "float")
 |lst {a:Addr} {xs:List V} (e:H a=some (.lst xs)):TyOf K H (.ref a) (.type "list")
 |frz {a:Addr} {o:Obj} {xs:List V} (e:H a=some (.frz o (.lst xs))):TyOf K H (.ref a) (.type "list")
 |tup {a:Addr} {xs:List V} (e:H a=some (.tup xs)):TyOf K H (.ref a) (.type "tuple")
 |dK {a:Addr} {NF:List (Key×V)} (e:H a=some (.dK NF)):TyOf K H (.ref a) (.type "dict")
 |dT {a:Addr} {NF:List (List Key×V)} (e:H a=some (.dT NF)):TyOf K H (.ref a) (.type "dict")
 | ins {a C dx:Addr} {fs:List (Str×V)} (e:H a=some (.ins C dx fs)) (cl:Cls K C) (ha:PySem.W.findIn K (.ref C) "__class__"=some (some (.builtin "object.__class__")))
  (hn:PySem.W.specialIn K (.builtin "object.__class__") "__get__"=some (some (.builtin "getset_descriptor.__get__"))) (htk:PySem.W.takesIn K (.builtin "object.__class__")=some true)
  (hm:PySem.W.mroIn K C (.type "object")=some true):TyOf K H (.ref a) (.ref C)
def BO(I:#[8] H s)(rx:RelV x u)(ty:TyOf X.K H x t)(e:PySem.W.kitOne X.K t c=some b)(h:∀tk,Q (.bool b) { s with toks:=tk }):
 wpAny (model X.prog X.w) A (call (.builtin "isinstance") [u,c]) Q E s:=by
 cases ty with
 |non=>cases(show u=Value.none from rx);exact qE1 PySem.W.kitx_none I.kIn True.intro e (λz=>nomatch z) h
 |bl y=>cases(show u=Value.bool y from rx);exact qE1 PySem.W.kitx_bool I.kIn True.intro e (λz=>nomatch z) h
 |int i=>let%[t|q]:=(show ∃t,u=Value.int i t from rx);cases q;exact qE1 PySem.W.kitx_int I.kIn True.intro e (λz=>nomatch z) h
 |str y=>let%[t|q]:=(show ∃t,u=Value.str y t from rx);cases q;exact qE1 PySem.W.kitx_str I.kIn True.intro e (λz=>nomatch z) h
 |flt y=>let%[t|q]:=(show ∃t,u=Value.float y t from rx);cases q;exact qE1 PySem.W.kitx_float I.kIn True.intro e (λz=>nomatch z) h
 | @lst a xs ea=>
   cases(show u=Value.ref a from rx);let%[_,_,n,_|h1]:=(show ObjOk X.prog X.w H s.heap a (.lst xs)from I.hok a _ ea)
   exact qE1 PySem.W.kitx_list I.kIn %[_,h1|1] e (λz=>nomatch z) h
 | @frz a ob xs ea=>
   cases(show u=Value.ref a from rx);let%[_,_,_,n,_|h1]:=(show ObjOk X.prog X.w H s.heap a (.frz ob (.lst xs))from I.hok a _ ea)
   exact qE1 PySem.W.kitx_list I.kIn %[_,h1|1] e (λz=>nomatch z) h
 | @tup a xs ea=>
   cases(show u=Value.ref a from rx);let%[_,_,_,p|_]:=(show ObjOk X.prog X.w H s.heap a (.tup xs)from I.hok a _ ea)
   erw[o,h1,h2,_]at p;exact qE1 PySem.W.kitx_tuple I.kIn %[o,h1|h2] e (λz=>nomatch z) h
 | @dK a NF ea=>
   cases(show u=Value.ref a from rx);let%[_,_,vs,_|p]:=(show ObjOk X.prog X.w H s.heap a (.dK NF)from I.hok a _ ea)
   erw[o,es,ep,h1,h2,_]at p;exact qE1 PySem.W.kitx_dict I.kIn %[o,h1|h2.1] e (λz=>nomatch z) h
 | @dT a NF ea=>
   cases(show u=Value.ref a from rx);let%[_,_,xs,_,o,es,ep,h1,h2|_]:=(show ObjOk X.prog X.w H s.heap a (.dT NF)from I.hok a _ ea)
   exact qE1 PySem.W.kitx_dict I.kIn %[o,h1|h2.1] e (λz=>nomatch z) h
 | @ins a C dx fs ea cl ha hn htk hm=>
   cases(show u=Value.ref a from rx);let%[mA,O|_]:=qr I.hok ea;erw[od,J,_]at O.look;exact qE1 (PySem.W.kitx_own (cl.get _) cl.hd ha hn htk hm) I.kIn J e (λz=>nomatch z) h
end
structure Room(k:Nat)(A:Around):Prop where
 hd:A.handled=none
 gd:A.guards=some []
 dp:A.depth+3*k+5<recursionLimit
 un:A.units+16*k+200<cLine
def Room.mono{j:Nat}(r:Room k A)(h:j<=k):Room j A:=%[r.hd,r.gd,by have:=r.dp;omega|by have:=r.un;omega]
def Room.deeper{k:Nat}(r:Room (k+1) A)(env:Env):Room k (A.deeper env):=
 %[r.hd,r.gd,by have:=r.dp;show A.depth+1+3*k+5<_;omega|by have:=r.un;show A.units+3+16*k+200<_;omega]
def yY{A:Around}{C:Addr}{us:List Value}{kw:List (Str×Value)}:(A.under (.builtin "type.__call__" %[.ref C::us|kw])).depth=A.depth+1:=by
 first | rfl | simp [Around.under,Code.weight,Code.isCreation,Code.isGuard,Code.isCaller,Code.frames,Code.isFrame,guardIds]
def yX{A:Around}{C:Addr}{us:List Value}{kw:List (Str×Value)}:(A.under (.builtin "type.__call__" %[.ref C::us|kw])).units=A.units+1:=by
 first | rfl | simp [Around.under,Code.cUnits,Code.frames,Code.isFrame]
def Room.make{k:Nat}(r:Room (k+1) A)(C:Addr)(us:List Value)(kw:List (Str×Value)):Room k (A.under (.builtin "type.__call__" %[.ref C::us|kw])):=
 %[r.hd,by simp [Around.under,Code.guards,Code.isGuard,guardIds,pushGuards,r.gd],by have:=r.dp;rw[yY];omega|by have:=r.un;rw[yX];omega]
def Room.depth(r:Room k A):A.depth<recursionLimit:=by have:=r.dp;omega
def Room.units(r:Room k A):A.units+64<cLine:=by have:=r.un;omega
def tNil:TA:=λ_ H Q=>Q [] H
def tCons(ta:TE)(tr:TA):TA:=λσ H Q=>ta σ H λx H1=>tr σ H1 λxs H2=>Q (x::xs) H2
section
variable {X:Cx}{e:Expr}{es:List Expr}{te:TE}{t:TA}{pos:Pos}
def ae:PA X [] tNil:=λ_ _ _ _ H Q I h=>qY0 %[[],H,I,.nil|h]
def aa(ha:PE X e te)(hr:PA X es t)(hs:starEach (e::es) X.env=(false,eval e X.env)::starEach es X.env:=by rfl):PA X (e::es) (tCons te t):=by
 intro pos NC s σ H Q I h;rw[hs];show wpAny _ _ (spliced ((false,eval e X.env)::backTo pos (starEach es X.env))) _ _ s;apply qI1 (thn (ha NC s σ H _ I h) λu s1 ⟨x,H1,I1,r1,q1⟩=>?_);exact thn (hr pos NC s1 σ H1 _ I1 q1) λus s2 ⟨xs,H2,I2,r2,q2⟩=>%[x::xs,H2,I2,.cons r1 r2|q2]
instance ZtTup(Q:VK)(xs:(List V))(H1:Hp):xs.length<=sizeLine->(∀p,H1 p=none->Q (.ref p) (upd H1 p (.tup xs))):=0
def tTup(t:TA):TE:=λσ H Q=>t σ H λxs H1=>ZtTup Q xs H1
instance ZtLst(Q:VK)(xs:(List V))(H1:Hp):xs.length<=sizeLine->(∀p,H1 p=none->Q (.ref p) (upd H1 p (.lst xs))):=0
def tLst(t:TA):TE:=λσ H Q=>t σ H λxs H1=>ZtLst Q xs H1
def aU{x1}(h:PA X es t):PE X (.Tuple es x1 pos) (tTup t):=by
 exists 4,Q,I,hq;apply wpAny_Tuple_spliced (thn (h pos NC s σ H _ I hq) λus s1 ⟨xs,H1,I1,r,z,q⟩=>%[by rw[←r.length];exact z|6]);let hf:H1 ‹s1›=none:=I1.hok.fresh (zH0 _);erw[.ref ‹s1›,upd H1 ‹s1› (.tup xs),I1.laid (t':=s1.toks) (λb u e=>zO0 _ e) (zH0 _) ?_,1,q _ hf];erw[z,us,r,%[_,qB0 _ rfl,1|0],_,qB0 _ rfl,1]
def cq(h:PA X es t):PE X (.List es pos) (tLst t):=by
 exists 4,Q,I,hq;apply wpAny_List_spliced (thn (h pos NC s σ H _ I hq) λus s1 ⟨xs,H1,I1,r,z,q⟩=>%[by rw[←r.length];exact z|6]);let hf:H1 ‹s1›=none:=I1.hok.fresh (zH0 _);erw[.ref ‹s1›,upd H1 ‹s1› (.lst xs),I1.laid (t':=s1.toks) (λb u e=>zO0 _ e) (zH0 _) ?_,1,q _ hf];erw[z,us,(0),r,qB0 _ rfl]
end
abbrev Sp:=List V->Hp->VK->XK->Prop
abbrev CXT:=List Env->Hp->Shared->XK->#[6]
structure Env0(P:Program)(w:World)(K:W.Frag)(mg:#[9])(base:Heap)(A:Around)(outer:List Env)(s:Shared)(H:Hp):Prop where
 frames:A.frames=some outer
 mod:Mod K mg base
 bs:∀b o,base.get? b=some o->s.heap.get? b=some o/\H b=none
 bsz:base.objs.size<=‹s›
 funs:s.heap.FunFrames base outer
 frf:∀b∈frs outer,H b=none
 hok:HOk P w H s.heap
 bare:AllBare s.gens
def CE(outer:List Env)(P:Program)(w:World)(H:Hp)(s:Shared)(Q:VK)(u:Value)(s':Shared):Prop:=
 ∃v H',s'.os=s.os/\AllBare s'.gens/\Un (frs outer) [] H H' s.heap s'.heap/\HOk P w H' s'.heap/\RelV v u/\Q v H'
def CR(CX:CXT)(outer:List Env)(P:Program)(w:World)(H:Hp)(s:Shared)(Q:VK)(E:XK)(r:Result)(s':Shared):Prop:=
 match r with
 |.ok (.ret u)=>CE outer P w H s Q u s'
 |.ok _=>False
 |.error e=>CX outer H s E e s'
structure FnOk(P:Program)(w:World)(K:W.Frag)(mg:#[9])(base:Heap)(CX:CXT)(k:Nat)(f:Addr)(fd:FuncData)(ps:List Str)(sp:Sp):Prop where
 len:∀vs H Q E,sp vs H Q E->vs.length=ps.length
 run:∀(A:Around)(outer:List Env)(s:Shared)(H:Hp)(args:Args)(us:List Value)(vs:List V)(Q:VK)(E:XK),Room k A->Env0 P w K mg base A outer s H->BindsTo s fd args (ps.zip us)->Vals vs us->sp vs H Q E ->
  codeAny (model P w) A (.call (.ref f) args) (CR CX outer P w H s Q E) s
def Env0.make{K:W.Frag}(e:Env0 P w K mg base A outer s H)(C:Addr)(us:List Value)(kw:List (Str×Value)):
 Env0 P w K mg base (A.under (.builtin "type.__call__" %[.ref C::us|kw])) outer s H:=⟨by first | exact e.frames | (simpa [Around.under,Code.envs,Code.isFrame,pushEnvs]using e.frames),e.mod,e.bs,e.bsz,e.funs,e.frf,e.hok,e.bare⟩
section
variable {X:Cx}{NC:#[7]}{σ:St}{H:Hp}{s s':Shared}
def Inv.env0(I:#[8] H s):Env0 X.prog X.w X.K X.mg X.base X.A X.stack s H:=
 %[I.ok.frames,I.ok.mod,I.bs,zQ0 I.ok.bsz I.sz,I.stack,I.stkFree,I.hok|I.bare]
def Inv.after(I:#[8] H s)(h:CE X.stack X.prog X.w H s Q u s'):EP X NC σ Q u s':=by
 erw[v,H',os,bare,un,hok,r,q]at h;erw[hh,g,d,t,os']at s';obtain rfl:os'=s.os:=os;erw[v,H',I.call (h':=hh) (g':=g) (d':=d) (t':=t) (ch:=[]) un hok bare (λb z=>absurd z #[2]),r,q]
end
def Ib(sp:Sp)(dvs:List V)(E:XK)(t:TA):TE:=λσ H Q=>t σ H λvs H1=>sp (vs++dvs) H1 Q E
instance ZtMeth(C:Addr)(m:Str)(sp:Sp)(dvs:List V)(E:XK)(t:TA)(σ:St)(Q:VK)(x:V)(H1:Hp):∀a dx fs,x=.ref a->H1 a=some (.ins C dx fs)->fs.lookup m=none->(t σ H1 λvs H2=>sp (x::(vs++dvs)) H2 Q E):=0
def Ia(C:Addr)(m:Str)(sp:Sp)(dvs:List V)(E:XK)(ta:TE)(t:TA):TE:=λσ H Q=>ta σ H λx H1=>ZtMeth C m sp dvs E t σ Q x H1
def tMake(C:Addr)(sp:Sp)(dvs:List V)(E:XK)(t:TA):TE:=λσ H Q=>t σ H λvs H1=>∀x dx,H1 x=none->H1 dx=none->dx≠x ->
 sp (.ref x::(vs++dvs)) (upd (upd H1 dx (.own x)) x (.ins C dx [])) (λv H2=>v=.non/\Q (.ref x) H2) E
def Binds(K:W.Frag)(fd:FuncData)(ps:List Str)(ds:List Value):Prop:=
 ∀(s:Shared)(us:List Value),K.In s.heap->(us++ds).length=ps.length->BindsTo s fd %[us|[]] (ps.zip (us++ds))
def Binds.all{K:W.Frag}{fd:FuncData}{ps:List Str}(h:∀us:List Value,us.length=ps.length->bindArgs fd %[us|[]]=pure (ps.zip us)):Binds K fd ps []:=λs us _ hl=>by
 rw[qR1]at hl ⊢;exact .of_eq (h us hl)
def mo(CX:CXT)(X:Cx)(E:XK):Prop:=∀(NC:#[7])(σ:St)(H:Hp)(s:Shared)(e:Value)(s':Shared),#[8] H s->CX X.stack H s E e s'->X.xe e s'
section
variable {X:Cx}{CX:CXT}{k:Nat}{f C:Addr}{fd:FuncData}{ps:List Str}{sp:Sp}{dvs:List V}{ds:List Value}{E:XK}{x m:Str}{p pos NN:Pos}{e o:Expr}{es:List Expr}{ta:TE}{t:TA}
def yt{σ:St}{Q:VK}(F:FnOk X.prog X.w X.K X.mg X.base CX k f fd ps sp)(hr:Room k X.A)(hb:Binds X.K fd ps ds)(hd:Vals dvs ds)(hx:mo CX X E)
 (I:#[8] H s)(r:Vals vs us)(h:sp (vs++dvs) H Q E):‹X.w› (call (.ref f) us) (EP X NC σ Q) X.xe s:=by
 let r2:Vals (vs++dvs) (us++ds):=r.append hd;let hl:(us++ds).length=ps.length:=by rw[←r2.length];exact F.len _ _ _ _ h
 apply wpAny_call (vJ1 (F.run X.A X.stack s H %[us|[]] (us++ds) (vs++dvs) Q E hr I.env0 (hb s us I.kIn hl) r2 h) λr s' hq=>?_);cases r with
 |error e=>exact hx NC σ H s e s' I hq
 |ok fl=>
   cases fl with
   |ret u=>exact I.after hq
   |next=>exact False.elim hq
   |brk=>exact False.elim hq
   |cont=>exact False.elim hq
def GO(F:FnOk X.prog X.w X.K X.mg X.base CX k f fd ps sp)(hr:Room k X.A)(hg:Gl X x)(hm:X.mg x=some (.ref f))(hk:PySem.W.keepIn X.K (.ref f)=true)(hb:Binds X.K fd ps ds)(hd:Vals dvs ds)(hx:mo CX X E)
 (ha:PA X (e::es) t)(hdb:(x==("__debug__":Str))=false:=by decide)(he:starEach (e::es) X.env=(false,eval e X.env)::starEach es X.env:=by rfl)(hpl:(backTo pos (starEach es X.env)).any (·.1)=false:=by rfl):
 PE X (.Call (.Name x p) (e::es) [] pos) (Ib sp dvs E t):=by
 exists 4,Q,I,h;apply qS1 (vI I hg hm ?_ hdb);apply wX0 (h₀:=X.base) I.ok.mod.kin hk (thn (ha pos NC s σ H _ I h) λus s1 ⟨vs,H1,I1,r,q⟩=>%[I1.kIn|6]) he hpl;exact yt F hr hb hd hx I1 r q
def bZ{pl:Sem Bool}(he:PE X o ta)(c:Cls X.K C)(hm:Meth X.K C m f)(F:FnOk X.prog X.w X.K X.mg X.base CX k f fd ps sp)(hr:Room k X.A)(hb:Binds X.K fd ps ds)(hd:Vals dvs ds)(hx:mo CX X E)(ha:PA X (e::es) t)
 (NI:starEach (e::es) X.env=(false,eval e X.env)::starEach es X.env:=by rfl)(hpl:(backTo pos (starEach es X.env)).any (·.1)=false:=by rfl)
 (ht:eval (.Call (.Attribute o m NN) (e::es) [] pos) X.env=(do
  let ov ←eval o X.env
  standAt NN.atName
  let(f,first) ←holding [ov] (getMethod ov m pl)
  callWith pos f first (backTo pos (starEach (e::es) X.env)) (backToKw pos (keywordEach [] X.env))):=by rfl) :
 PE X (.Call (.Attribute o m NN) (e::es) [] pos) (Ia C m sp dvs E ta t):=by
 exists 4,Q,I,h;apply PySem.W.methodCall_KW (pl:=pl) (thn (he NC s σ H _ I h) λu s1 ⟨x,H1,I1,rx,a,dx,fs,ex,ea,l,q⟩=>?_) ht;subst ex;obtain rfl:u=Value.ref a:=rx;apply sy I1 ea c hm l ?_;apply wX0 (first:=[.ref a]) (h₀:=X.base) I.ok.mod.kin hm.kp (thn (ha pos NC s1 σ H1 _ I1 q) λus s2 ⟨vs,H2,I2,r,q2⟩=>%[I2.kIn|6]) NI hpl;exact yt (us:=.ref a::us) (vs:=.ref a::vs) F hr hb hd hx I2 (.cons rfl r) q2
def bq{pl:Sem Bool}(he:PE X o ta)(c:Cls X.K C)(hm:Meth X.K C m f)(F:FnOk X.prog X.w X.K X.mg X.base CX k f fd ps sp)(hr:Room k X.A)(hb:Binds X.K fd ps ds)(hd:Vals dvs ds)(hx:mo CX X E)
 (ht:eval (.Call (.Attribute o m NN) [] [] pos) X.env=(do
  let ov ←eval o X.env
  standAt NN.atName
  let(f,first) ←holding [ov] (getMethod ov m pl)
  callWith pos f first (backTo pos (starEach [] X.env)) (backToKw pos (keywordEach [] X.env))):=by rfl) :
 PE X (.Call (.Attribute o m NN) [] [] pos) (Ia C m sp dvs E ta tNil):=by
 exists 4,Q,I,h;apply PySem.W.methodCall_KW (pl:=pl) (thn (he NC s σ H _ I h) λu s1 ⟨x,H1,I1,rx,a,dx,fs,ex,ea,l,q⟩=>?_) ht;subst ex;obtain rfl:u=Value.ref a:=rx;apply sy I1 ea c hm l ?_;exact PySem.W.callWith_K0 (first:=[.ref a]) I1.kIn hm.kp (yt (us:=[.ref a]) (vs:=[.ref a]) F hr hb hd hx I1 (.cons rfl .nil) q)
structure Mk(K:W.Frag)(C f:Addr):Prop where
 makes:PySem.W.makesIn K C=true
 init:PySem.W.findIn K (.ref C) "__init__"=some (some (.ref f))
 fn:PySem.W.isFn K (.ref f)=true
 kp:PySem.W.keepIn K (.ref C)=true
def Do{σ:St}{Q:VK}(M:Mk X.K C f)(F:FnOk X.prog X.w X.K X.mg X.base CX k f fd ps sp)(hr:Room (k+1) X.A)(hb:Binds X.K fd ps ds)(hd:Vals dvs ds)
 (hx:mo CX X E)(I:#[8] H s)(r:Vals vs us)
 (h:∀x dx,H x=none->H dx=none->dx≠x->sp (.ref x::(vs++dvs)) (upd (upd H dx (.own x)) x (.ins C dx [])) (λv H2=>v=.non/\Q (.ref x) H2) E):
 ‹X.w› (call (.ref C) us) (EP X NC σ Q) X.xe s:=by
 let hq:=h (‹s›+1) ‹s› (I.hok.fresh (qN0 _)) (I.hok.fresh (zH0 _)) (zV0 (qM1 _));let I2:=Inv.made (C:=C) I;let r2:Vals (V.ref (‹s›+1)::(vs++dvs)) (Value.ref (‹s›+1)::(us++ds)):=.cons rfl (r.append hd);let hl:(Value.ref (‹s›+1)::us++ds).length=ps.length:=by
  let e:=r2.length;rw[F.len _ _ _ _ hq]at e;exact e.symm
 apply wpAny_call (EA (f:=f) I.kIn M.makes M.init (beq_iff_eq.mp M.fn) (vJ1 (F.run _ X.stack _ _ %[Value.ref (‹s›+1)::us|[]] (Value.ref (‹s›+1)::(us++ds)) _ _ E (hr.make C us [])
  (I2.env0.make C us []) (hb _ (Value.ref (‹s›+1)::us) I2.kIn hl) r2 hq) λr s' hq'=>?_))
 cases r with
 |error e=>exact hx NC σ _ _ e s' I2 hq'
 |ok fl=>
   cases fl with
   |ret u=>
     let%[v,H',I3,rv,ev|q3]:=I2.after hq';subst ev;erw[rv,%[V.ref (‹s›+1),H',I3,1|q3]]
   |next=>exact False.elim hq'
   |brk=>exact False.elim hq'
   |cont=>exact False.elim hq'
def ia(M:Mk X.K C f)(F:FnOk X.prog X.w X.K X.mg X.base CX k f fd ps sp)(hr:Room (k+1) X.A)(hg:Gl X x)(hm:X.mg x=some (.ref C))(hb:Binds X.K fd ps ds)(hd:Vals dvs ds)(hx:mo CX X E)
 (ha:PA X (e::es) t)(hdb:(x==("__debug__":Str))=false:=by decide)(he:starEach (e::es) X.env=(false,eval e X.env)::starEach es X.env:=by rfl)(hpl:(backTo pos (starEach es X.env)).any (·.1)=false:=by rfl):
 PE X (.Call (.Name x p) (e::es) [] pos) (tMake C sp dvs E t):=by
 exists 4,Q,I,h;apply qS1 (vI I hg hm ?_ hdb);apply wX0 (h₀:=X.base) I.ok.mod.kin M.kp (thn (ha pos NC s σ H _ I h) λus s1 ⟨vs,H1,I1,r,q⟩=>%[I1.kIn|6]) he hpl;exact Do M F hr hb hd hx I1 r q
end
structure FnScope(N P:List Str)(sc:Scope):Prop where
 kind:sc.kind=.function
 co:sc.isCoroutine=false
 gen:sc.isGenerator=false
 nd:N.Nodup
 pre:N.take P.length=P
 par:∀x∈P,sc.names.lookup x=some .local∨sc.names.lookup x=some .cell
 nofree:∀y∈sc.names,y.2≠.free
def uq{kindOf:Str->Option NameKind}{x:Str}:∀{binds:List (Str×Value)}{m:#[9]},(∀v,(x,v)∉binds)->bindL kindOf binds m x=m x
 | [],_,_=>rfl
 | (n,v)::r,m,h=>by
   unfold bindL;rw[uq λw hw=>h w (qM0 _ hw)]
   split
   . have:x≠n:=by rintro rfl;exact h v qF0
     simp [this]
   . rfl
def ut{kindOf:Str->Option NameKind}{x:Str}:∀{binds:List (Str×Value)}{m:#[9]},(∀v,(x,v)∉binds)->bindC kindOf binds m x=m x
 | [],_,_=>rfl
 | (n,v)::r,m,h=>by
   unfold bindC;rw[ut λw hw=>h w (qM0 _ hw)]
   split
   . rfl
   . have:x≠n:=by rintro rfl;exact h v qF0
     simp [this]
def ur{kindOf:Str->Option NameKind}{x:Str}{v:Value}:∀{P:List Str}{vs:List Value}{i:Nat}{m:#[9]},P.Nodup->P[i]?=some x->vs[i]?=some v->kindOf x=some .local ->
 bindL kindOf (P.zip vs) m x=some v
 | [],_,_,_,_,h,_,_=>by simp at h
 |_::_,[],_,_,_,_,h,_=>by simp at h
 |p::P,w::vs,0,m,nd,h1,h2,hk=>by
   simp at h1 h2;subst h1;subst h2
   show bindL kindOf ((p,w)::P.zip vs) m p=_;unfold bindL;rw[uq λv hv=>(List.nodup_cons.mp nd).1 (List.of_mem_zip hv).1,NE hk]
   simp
 |p::P,w::vs,i+1,m,nd,h1,h2,hk=>by
   show bindL kindOf ((p,w)::P.zip vs) m x=_;unfold bindL;exact ur (i:=i) (List.nodup_cons.mp nd).2 #[h1,0] #[h2,0] hk
def uu{kindOf:Str->Option NameKind}{x:Str}{v:Value}:∀{P:List Str}{vs:List Value}{i:Nat}{m:#[9]},P.Nodup->P[i]?=some x->vs[i]?=some v->kindOf x≠some .local ->
 bindC kindOf (P.zip vs) m x=some v
 | [],_,_,_,_,h,_,_=>by simp at h
 |_::_,[],_,_,_,_,h,_=>by simp at h
 |p::P,w::vs,0,m,nd,h1,h2,hk=>by
   simp at h1 h2;subst h1;subst h2
   show bindC kindOf ((p,w)::P.zip vs) m p=_;unfold bindC;rw[ut λv hv=>(List.nodup_cons.mp nd).1 (List.of_mem_zip hv).1,ND hk]
   simp
 |p::P,w::vs,i+1,m,nd,h1,h2,hk=>by
   show bindC kindOf ((p,w)::P.zip vs) m x=_;unfold bindC;exact uu (i:=i) (List.nodup_cons.mp nd).2 #[h1,0] #[h2,0] hk
def pB(N:List Str)(vs:List V):St:=vs.map some++List.replicate (N.length-vs.length) none
def Cf(CX:CXT)(P:Program)(w:World)(K:W.Frag)(mg:#[9])(base:Heap)(N:List Str)(qual:Str)(scope:Scope)(f:Addr)(cd:Value)(A:Around)(outer:List Env)(s:Shared)(H:Hp)(E:XK):Cx where
 prog:=P
 w:=w
 K:=K
 mg:=mg
 base:=base
 A:=A.deeper (envOfC qual scope ‹s› f cd)
 N:=N
 s₀:=s
 H₀:=H
 env:=envOfC qual scope ‹s› f cd
 outer:=outer
 stack:=envOfC qual scope ‹s› f cd::outer
 ex:=[]
 calm:=true
 fn:=λ_=>true
 pn:=[]
 xe:=λe s'=>wpAny (model P w) (A.deeper (envOfC qual scope ‹s› f cd)) (leaving (envOfC qual scope ‹s› f cd) e) (λ_ s''=>CX outer H s E e s'') (λe' s''=>CX outer H s E e' s'') s'
def xE{sc:Scope}{n:Nat}{x:Str}(h:sc.names.lookup x=some .cell):∃c,(cellsFrom n sc.names []).lookup x=some c:=by
 let q:=PySem.W.cellsFrom_some sc.names n [] (.inl h);exact Option.isSome_iff_exists.mp q
def BQ{K:W.Frag}{qual:Str}{f:Addr}{cd:Value}{A:Around}{s1:Shared}{vs:List V}
 (S:FnScope N ps scope)(hd:A.handled=none)(e0:Env0 P w K mg base A outer s H)(hl:vs.length=ps.length)(r:Vals vs us)
 (x:InCallC s ‹s› (bindL (envOfC qual scope ‹s› f cd).kindOf (ps.zip us) λ_=>none) (cellsFrom (‹s›+1) scope.names []) (bindC (envOfC qual scope ‹s› f cd).kindOf (ps.zip us) λ_=>none) s1):
 Inv (Cf CX P w K mg base N qual scope f cd A outer s H E) [] (pB N vs) H s1:=by
 let hpl:ps.length<=N.length:=by have:=congrArg List.length S.pre;rw[qJ0]at this;omega
 erw[h1,tk,1,hk]at x.done;let noA:∀b:Addr,b∉(Cf CX P w K mg base N qual scope f cd A outer s H E).ex:=λb z=>absurd (show b∈([]:List Addr)from z) #[2]
 erw[%[e0.mod,S.kind,1,1,zH0 _,λy z c h1 h2=>?_,λy hy=>?_,λy c _ h=>?_,λ_=>hd,Around.frames_deeper e0.frames,.inr %[1|1],λb z=>absurd z (noA b),e0.bs,e0.bsz,λb _ _=>noA b,λb z=>absurd z (noA b),e0.funs|e0.frf],1,e0.bare,Un.kept hk,%[_,x.toInCall.ns|λi y v h1 h2 h3=>?_],λy c h=>%[_|x.cell y c h],e0.hok.fresh (zH0 _),λy c h=>?_,λp hp=>absurd (show p∈([]:#[7])from hp) #[2],e0.hok.kept hk,6]
 . exact name_of_addr x.apart (zZ1 h1) (zZ1 h2)
 . let hy:scope.names.lookup y=some .cell∨scope.names.lookup y=some .free:=hy;rcases hy with hy | hy
   . exact xE hy
   . exact absurd rfl (S.nofree _ (zZ1 hy))
 . exact wW1 (x.above y c (zZ1 h))
 . let hi:i<vs.length:=by
    unfold pB at h2
    by_cases hi:i<vs.length
    . exact hi
    . rw [zL1 #[hi,0]]at h2;rw[List.getElem?_replicate]at h2
      split at h2 <;> cases h2
   let ha:vs[i]?=some v:=by
    unfold pB at h2;rw[zR1 #[hi,0],zW0]at h2;cases e:vs[i]? with
    |none=>rw[e]at h2;cases h2
    |some a=>rw[e]at h2;cases h2;rfl
   let%[u,hu|rv]:=r.get ha;let hp:ps[i]?=some y:=by
    rw[←S.pre,List.getElem?_take_of_lt #[0]];exact h1
   let ndP:ps.Nodup:=by rw[←S.pre];exact S.nd.sublist (List.take_sublist _ _)
   erw[u,rv,6];rcases S.par y (qC0 hp)with k | k
   . exact .inl %[k|ur ndP hp hu k]
   . let%[c|e]:=xE (n:=‹s›+1) k;refine .inr %[.inl k,c,e|6];let q:=x.cell y c e;rw[uu ndP hp hu (by show scope.names.lookup y≠_;rw[k];decide)]at q;exact q
 . exact e0.hok.fresh (wW1 (x.above y c (zZ1 h)))
 . unfold pB;show _=N.length;rw[zJ0,zF0,zV1];omega
def fn_of{K:W.Frag}{f:Addr}{name qual:Str}{params:Arguments}{body:List Stmt}{scope:Scope}{dV kV doc pm cdv ct oc:Value}{an od:Option Addr}
 {osl:Array (Option Value)}{sp:Sp}(lk:K.lookup f=some %[oc,od,.func (PySem.W.fnOf name qual params body scope dV kV doc pm an cdv ct)|osl])(hcd:PySem.W.codeIn K cdv qual=true)(S:FnScope N ps scope)
 (len:∀vs H Q E,sp vs H Q E->vs.length=ps.length)
 (hbody:∀(A:Around)(outer:List Env)(s:Shared)(H:Hp)(vs:List V)(Q:VK)(E:XK),Room k (A.deeper (envOfC qual scope ‹s› f cdv))->sp vs H Q E ->
  ∃t,PSs (Cf CX P w K mg base N qual scope f cdv A outer s H E) body t/\t { nx:=λ_ H'=>Q .non H',rt:=Q } (pB N vs) H) :
 FnOk P w K mg base CX (k+1) f (PySem.W.fnOf name qual params body scope dV kV doc pm an cdv ct) ps sp:=by
 erw[len,λA outer s H args us vs Q E hr e0 hb r hsp=>?_];let hl:=len _ _ _ _ hsp;let KX:K.In s.heap:=e0.mod.kin.keeps λb o e=>(e0.bs b o e).1
 let lim:s.heap.NoLimit:=e0.mod.nolimit.keeps λb o e=>(e0.bs b o e).1
 let hkind:∀y∈ps.zip us,scope.names.lookup y.1=some .local∨(scope.names.lookup y.1=some .cell/\((cellsFrom (‹s›+1) scope.names []).lookup y.1).isSome=true):=fun⟨n,v⟩ hy=>by
  rcases S.par n (List.of_mem_zip hy).1 with q | q
  . exact .inl q
  . exact .inr %[q|PySem.W.cellsFrom_some _ _ _ (.inl q)]
 apply codeAny_call_function hr.depth (KX _ _ lk) rfl S.co S.gen rfl (PySem.W.codeRec_of KX hcd) (hb _ _ _ _ ?_);apply wpAny_newFunctionEnv_cells S.kind hkind λenv he s1 x=>?_
 subst he;erw[lim.keeps x.toInCall.keep,codeAny_func ?_];let%[t,ht|hq]:=hbody A outer s H vs Q E (hr.deeper _) hsp;let I:Inv (Cf CX P w K mg base N qual scope f cdv A outer s H E) [] (pB N vs) H s1:=BQ S hr.hd e0 hl r x;apply jP0 (ht [] s1 (pB N vs) H _ I hq) (λfl s' hs=>?_) λe s' hs=>hs
 let fin:∀{σ':St}{H':Hp}{v:V}{u:Value},Inv (Cf CX P w K mg base N qual scope f cdv A outer s H E) [] σ' H' s'->RelV v u->Q v H'->CE outer P w H s Q u s':=
  fun{σ' H' v u} J rv q=>%[v,H',J.os,J.bare,J.base,J.hok,rv|q]
 cases fl with
 |ret u=>
   erw[v,σ',H',J,rv,q]at hs;exact fin J rv q
 |next=>
   erw[σ',H',J,q]at hs;exact fin (v:=V.non) (u:=Value.none) J rfl q
 |brk=>
   erw[_,_,_,q]at hs;exact False.elim q
 |cont=>
   erw[_,_,_,q]at hs;exact False.elim q
section
variable {X:Cx}{x:Str}{p pos:Pos}{e:Expr}{es:List Expr}{t:TA}{id T:String}{r:List V->Hp->VK->Prop}
def tCB(r:List V->Hp->VK->Prop)(t:TA):TE:=λσ H Q=>t σ H λvs H1=>r vs H1 Q
def aJ(hc:hV X (.builtin id) r)(hg:Gl X x)(hm:X.mg x=none)(hv:bootBuiltins x=some (.builtin id))(ha:PA X (e::es) t)(hn:x≠"__name__":=by decide)(hdb:(x==("__debug__":Str))=false:=by decide)
 (he:starEach (e::es) X.env=(false,eval e X.env)::starEach es X.env:=by rfl)(hpl:(backTo pos (starEach es X.env)).any (·.1)=false:=by rfl):PE X (.Call (.Name x p) (e::es) [] pos) (tCB r t):=by
 exists 4,Q,I,h;apply qS1 (gr I hg hm hv ?_ hn hdb);exact PyProof.Rows.callWith_builtin1 (thn (ha pos NC s σ H _ I h) λus s1 ⟨vs,H1,I1,r1,q1⟩=>hc NC s1 σ H1 vs us Q I1 r1 q1) he hpl
def bc(hc:hV X (.type T) r)(hg:Gl X x)(hm:X.mg x=none)(hv:bootBuiltins x=some (.type T))(ha:PA X (e::es) t)(hn:x≠"__name__":=by decide)(hdb:(x==("__debug__":Str))=false:=by decide)
 (he:starEach (e::es) X.env=(false,eval e X.env)::starEach es X.env:=by rfl)(hpl:(backTo pos (starEach es X.env)).any (·.1)=false:=by rfl):PE X (.Call (.Name x p) (e::es) [] pos) (tCB r t):=by
 exists 4,Q,I,h;apply qS1 (gr I hg hm hv ?_ hn hdb);exact zK1 (thn (ha pos NC s σ H _ I h) λus s1 ⟨vs,H1,I1,r1,q1⟩=>hc NC s1 σ H1 vs us Q I1 r1 q1) he hpl
end
end L2
namespace HT
open PySem PyProof.Rows
section
variable {prog:Program}{w:World}{A:Around}{E:#[6]}{s:Shared}
def cat_tup{t b:Addr}{vs ws:List Value}{Q:#[6]}(ht:IsTup s.heap t vs.toArray)(hb:IsTup s.heap b ws.toArray)(hv:vs≠[])
 (h1:ws=[]->Q (.ref t) s)(h2:ws≠[]->Q (.ref ‹s›) { s with heap:=s.heap.push { cls:=.type "tuple",data:=.seq (vs++ws).toArray } })
 (hsz:vs.length+ws.length<=sizeLine):‹w.A› (binaryOp .Add (.ref t) (.ref b)) Q E s:=by
 let%[%[cls,dd,data|sl],ho,hc,n|hd]:=id ht;let%[%[cls2,dd2,data2|sl2],ho2,hc2,n2|hd2]:=id hb;simp only at hc hd hc2 hd2;subst hc hd hc2 hd2;let e:vs.toArray++ws.toArray=(vs++ws).toArray:=by simp
 by_cases hw:ws=[]
 . exact concat_meets %[_,ho|1] ⟨_,ho2,rfl⟩ vH1 seq_tuple_add wB0 jX1 (jU1 _ _)
    (tuple_addW1 t b vs.toArray ws.toArray n n2 dd dd2 sl sl2 #[hv,0] (by simp [hw])) %[ho,ho2|h1 hw]
 . apply concat_meets %[_,ho|1] ⟨_,ho2,rfl⟩ vH1 seq_tuple_add wB0 jX1 (jU1 _ _)
    (tuple_addW2 t b vs.toArray ws.toArray n n2 dd dd2 sl sl2 #[hv,0] #[hw,0] (by rw[zS0,zS0];exact hsz)) %[ho,ho2|6]
   rw[e];exact h2 hw
def sIx(n d:Nat):Option Int->Nat
 |none=>d
 |some v=>if v<0 then(v+(n:Int)).toNat else min v.toNat n
def sIx_none(n d:Nat):sIx n d none=d:=rfl
def sIx_nat(n d k:Nat):sIx n d (some (k:Int))=min k n:=by
 show(if(k:Int)<0 then((k:Int)+(n:Int)).toNat else min (k:Int).toNat n)=min k n;rw[ND #[0],qS0]
def IT(n d:Nat)(hd:d<=n)(o:Option Int):sIx n d o<=n:=by
 cases o with
 |none=>exact hd
 |some v=>
   show(if v<0 then(v+(n:Int)).toNat else min v.toNat n)<=n
   by_cases hv:v<0
   . rw[NE hv];omega
   . rw[ND hv];exact Nat.min_le_right _ _
def Ay(v:Int)(n d:Nat):(if v<0 then max (v+(n:Int)) 0 else min v (n:Int))=((sIx n d (some v):Nat):Int):=by
 show(if v<0 then max (v+(n:Int)) 0 else min v (n:Int))=(((if v<0 then(v+(n:Int)).toNat else min v.toNat n):Nat):Int)
 by_cases hv:v<0
 . simp only[NE hv];omega
 . simp only[ND hv];omega
def zD(lo hi:Option Int)(n:Nat):Builtin.Slice.sliceAdjust lo hi 1 (n:Int)=(((sIx n 0 lo:Nat):Int),((sIx n n hi:Nat):Int)):=by
 let h1:¬ ((1:Int)<0):=#[0]
 unfold Builtin.Slice.sliceAdjust;simp only[h1,if_false];apply Prod.ext ?_ ?_
 . cases lo with
   |none=>rfl
   |some v=>exact Ay v n 0
 . cases hi with
   |none=>rfl
   |some v=>exact Ay v n n
def yy(i j:Nat):Builtin.Slice.slicePlaces (i:Int) (j:Int) 1=j-i:=by
 unfold Builtin.Slice.slicePlaces;let h1:(1:Int)>0:=#[0]
 simp only[h1,vK0,Int.ediv_one]
 split <;> omega
def qK{v:Value}{o:Option Int}{Q:Option Int->Shared->Prop}(p:IsPart v o)(h:Q o s):‹w.A› (Builtin.Slice.slicePartIndex v) Q E s:=by
 cases p with
 |none=>exact slicePart_none h
 |int i t=>exact slicePart_int h
def iP{sl:Addr}{vl vu:Value}{lo hi:Option Int}{Q:Int×Int×Nat->Shared->Prop}(hs:s.heap.IsSliceOf sl vl vu .none)(pl:IsPart vl lo)(pu:IsPart vu hi)
 (h:Q (((sIx n 0 lo:Nat):Int),1,sIx n n hi-sIx n 0 lo) s):‹w.A› (Builtin.Slice.sliceApplied (.ref sl) (pure (n:Int))) Q E s:=by
 let%[os,hos,hcs|hds]:=id hs;unfold Builtin.Slice.sliceApplied Builtin.Slice.sliceFields;apply zD0 (zD0 (zS1 hos hds (x:=vl) rfl (zD0 (zS1 hos hds (x:=vu) rfl (zD0 (zS1 hos hds (x:=.none) rfl (zI0 ?_)))))));apply zD0 (slicePart_none ?_);show wpAny _ _ (if((1:Int)==0)=true then _ else _) _ _ s;rw[ND ⋯];apply zD0 (qK pl (zD0 (qK pu (zD0 (zI0 ?_)))));show wpAny _ _ (match Builtin.Slice.sliceAdjust lo hi 1 (n:Int)with | (lo,hi)=>pure (lo,(1:Int),Builtin.Slice.slicePlaces lo hi 1)) _ _ s;rw[zD lo hi n];show wpAny _ _ (pure (((sIx n 0 lo:Nat):Int),(1:Int),Builtin.Slice.slicePlaces ((sIx n 0 lo:Nat):Int) ((sIx n n hi:Nat):Int) 1)) _ _ s;rw[yy];exact zI0 h
def DC(xs:Array Value)(i k:Nat):((List.range k).filterMap fun(m:Nat)=>xs[((i:Int)+(m:Int)*1).toNat]?).toArray=((xs.toList.drop i).take k).toArray:=by
 let e:(fun(m:Nat)=>xs[((i:Int)+(m:Int)*1).toNat]?)=λm=>xs[i+m]?:=by
  funext m
  have:((i:Int)+(m:Int)*1).toNat=i+m:=#[0]
  rw[this]
 rw[e]
 have:=pick_run xs i k
 rw[List.filterMap_map]at this;let e2:((λx=>xs[x]?) ∘ λx=>i+x)=λm=>xs[i+m]?:=rfl
 rw[e2]at this;rw[this]
def getItem_tuple_cut{t sl:Addr}{items:Array Value}{vl vu:Value}{lo hi:Option Int}{Q:#[6]}(ht:IsTup s.heap t items)(hs:s.heap.IsSliceOf sl vl vu .none)(pl:IsPart vl lo)(pu:IsPart vu hi)
 (hw:¬ (sIx items.size 0 lo=0/\sIx items.size items.size hi=items.size))
 (h:Q (.ref ‹s›) { s with heap:=s.heap.push { cls:=.type "tuple",data:=.seq ((items.toList.drop (sIx items.size 0 lo)).take (sIx items.size items.size hi-sIx items.size 0 lo)).toArray } })
 (hsz:items.size<=sizeLine):‹w.A› (getItem (.ref t) (.ref sl)) Q E s:=by
 let htake:sizeOk (.seq ((items.toList.drop (sIx items.size 0 lo)).take (sIx items.size items.size hi-sIx items.size 0 lo)).toArray):=by
  show((items.toList.drop (sIx items.size 0 lo)).take (sIx items.size items.size hi-sIx items.size 0 lo)).toArray.size<=sizeLine;rw[zS0,qJ0,jT0,zY1];omega
 let hj:sIx items.size items.size hi<=items.size:=IT _ _ (zH0 _) hi;let%[os,hos,hcs|hds]:=id hs;let hTs:s.TypeIs (.ref sl) "slice":=%[os,hos|hcs]
 unfold getItem
 try with_reducible apply jP1 ?_
 first | apply zD0 (zI0 ?_) | skip
 apply zD0 (wpAny_sequenceKey ht.typeIs ⋯ ?_);apply zD0 (zQ1 (name:=Str.ofString "__getitem__") ht.typeIs qO1
  (qF1 qO1 ht.typeIs entry_tuple_getitem ?_ (args_tuple_getitem _ _)))
 show wpAny _ _ (Builtin.Tuple.tupleItemsOf (.ref t) >>= _) _ _ s;apply zD0 (tupleItemsOf_ ht ?_);apply zD0 (wpAny_typeOf hTs ?_);rw[NE ⋯];apply zD0 (iP hs pl pu ?_);let hno:¬ ((((sIx items.size 0 lo:Nat):Int)==0&&(1:Int)==1&&(sIx items.size items.size hi-sIx items.size 0 lo)==items.size)=true):=by
  intro q;rw[qU1,qU1]at q;let q1:((sIx items.size 0 lo:Nat):Int)=0:=eq_of_beq q.1.1;let q2:sIx items.size items.size hi-sIx items.size 0 lo=items.size:=eq_of_beq q.2;exact hw %[3|3]
 show wpAny _ _ (if(((sIx items.size 0 lo:Nat):Int)==0&&(1:Int)==1&&(sIx items.size items.size hi-sIx items.size 0 lo)==items.size)=true then _ else _) _ _ s;rw[ND hno,DC]
 first
  |exact zD0 (m:=Builtin.Tuple.tupleExact _) (zO1 (zI0 ⟨_,rfl,zI0 h⟩) htake)
  |exact zD0 (m:=Builtin.Tuple.tupleExact _) (zO1 (zD0 (zI0 (zI0 ⟨_,rfl,zI0 h⟩))) htake)
  |exact zD0 (zD0 (m:=Builtin.Tuple.tupleExact _) (zO1 (zI0 (zI0 ⟨_,rfl,zI0 h⟩)) htake))
  |exact zD0 (zD0 (m:=Builtin.Tuple.tupleExact _) (zO1 (zI0 ⟨_,rfl,zI0 h⟩) htake))
end
end HT
namespace L2
open PySem PySem.Spec PyProof.Rows
abbrev TO:=St->Hp->(Option Int->Hp->Prop)->Prop
def PO(X:Cx)(e:Option Expr)(t:TO):Prop:=
 ∀(NC:#[7])(s:Shared)(σ:St)(H:Hp)(Q:Option Int->Hp->Prop),#[8] H s->t σ H Q ->
  ‹X.w› (evalPart e X.env) (λu s'=>∃o H',#[8] H' s'/\IsPart u o/\Q o H') X.xe s
def FX:TO:=λ_ H Q=>Q none H
instance ZtPart(Q:(Option Int->Hp->Prop))(x:V)(H1:Hp):∀i,x=.int i->Q (some i) H1:=0
def tPart(t:TE):TO:=λσ H Q=>t σ H λx H1=>ZtPart Q x H1
section
variable {X:Cx}{e:Expr}{te:TE}{lo hi:Option Expr}{tl th:TO}{pos p2:Pos}
def iG:PO X none FX:=by
 exists 4,Q,I,h;rw[evalPart_none];exact zI0 %[none,H,I,.none|h]
def eY(h:PE X e te):PO X (some e) (tPart te):=by
 exists 4,Q,I,hw;rw[evalPart_some];apply thn (h NC s σ H _ I hw) λu s1 ⟨x,H1,I1,r1,q1⟩=>?_
 erw[i,1,q]at q1;erw[t,1]at r1;erw[some i,H1,I1,.int i t,q]
def SlR(X:Cx)(r:V->Option Int->Option Int->Hp->VK->Prop):Prop:=
 ∀(NC:#[7])(s:Shared)(σ:St)(H:Hp)(x:V)(v vl vu:Value)(lo hi:Option Int)(sl:Addr)(Q:VK),#[8] H s->RelV x v->s.heap.IsSliceOf sl vl vu .none->IsPart vl lo->IsPart vu hi->r x lo hi H Q ->
  ∃T id,typeLookup (.type T) "__getitem__"=pure (some (.builtin id))/\s.TypeIs v T/\‹X.w› (getItem v (.ref sl)) (EP X NC σ Q) X.xe s
def tSl(r:V->Option Int->Option Int->Hp->VK->Prop)(te:TE)(tl th:TO):TE:=λσ H Q=>te σ H λx H1=>tl σ H1 λl H2=>th σ H2 λu H3=>r x l u H3 Q
def eQ(hr:SlR X r)(he:PE X e te)(hl:PO X lo tl)(hu:PO X hi th):PE X (.Subscript e (.Slice lo hi none p2) pos) (tSl r te tl th):=by
 exists 4,Q,I,h;apply Subscript_ (thn (he NC s σ H _ I h) λv s1 ⟨x,H1,I1,r1,q1⟩=>?_);apply wpAny_Slice (thn (hl NC s1 σ H1 _ I1 q1) λvl s2 ⟨l,H2,I2,pl,q2⟩=>thn (hu NC s2 σ H2 _ I2 q2) λvu s3 ⟨u,H3,I3,pu,q3⟩=>?_);rw[evalPart_none];apply zI0 ?_;let I4:#[8] H3 { s3 with heap:=s3.heap.push { cls:=.type "slice",data:=.fields #[vl,vu,.none] } }:=I3.kept (t':=s3.toks) λb ob q=>zO0 _ q
 let%[T,id,hT,ht|hg]:=hr NC { s3 with heap:=s3.heap.push { cls:=.type "slice",data:=.fields #[vl,vu,.none] } } σ H3 x v vl vu l u ‹s3› Q I4 r1 (Heap.IsSliceOf.new ..) pl pu q3;show ‹X.w› (subscriptTail e (.Slice lo hi none p2) v (.ref ‹s3›)) (EP X NC σ Q) X.xe { s3 with heap:=s3.heap.push { cls:=.type "slice",data:=.fields #[vl,vu,.none] } };exact tail_any (ops:=[.ref ‹s3›,v]) ht hT hg (by rfl')
def jf(xs:List V)(lo hi:Option Int):List V:=(xs.drop (HT.sIx xs.length 0 lo)).take (HT.sIx xs.length xs.length hi-HT.sIx xs.length 0 lo)
def pX(xs:List V)(lo hi:Option Int):(jf xs lo hi).length<=xs.length:=by
 unfold jf;rw[qJ0,jT0];omega
instance rSlT(K:W.Frag)(x:V)(lo:Option Int)(hi:Option Int)(H:Hp)(Q:VK):∀a xs,x=.ref a->SqT K H a xs->(¬ (HT.sIx xs.length 0 lo=0/\HT.sIx xs.length xs.length hi=xs.length))->(∀p,H p=none->Q (.ref p) (upd H p (.tup (jf xs lo hi)))):=0
def oB:SlR X (rSlT X.K):=by
 exists 4,x,v,vl,vu,lo,hi,sl,Q,I,rx,hs,pl,pu,h;erw[a,xs,1,hx,hw,q]at h;cases rx;let%[its,r,ht|hz]:=I.tuple hx;let hlen:its.toArray.size=xs.length:=by rw[zS0];exact r.length.symm
 erw["tuple",_,PyProof.Rows.slot_tuple_getitem.lookup,ht.typeIs,6];apply HT.getItem_tuple_cut ht hs pl pu (by rw[hlen];exact hw) ?_ (by rw[hlen];exact hz);rw[hlen];erw[.ref ‹s›,_,I.laid (t':=s.toks) (o:=.tup (jf xs lo hi)) (λb ob q=>zO0 _ q) (zH0 _) ?_,1,q _ (I.hok.fresh (zH0 _))];erw[zQ0 (pX xs lo hi) hz,_,(r.drop (HT.sIx xs.length 0 lo)).take (HT.sIx xs.length xs.length hi-HT.sIx xs.length 0 lo),IsTup.new _ _,_,qB0 _ rfl,1]
instance rCatT(K:W.Frag)(x:V)(y:V)(H:Hp)(Q:VK):∀a b xs ys,x=.ref a->y=.ref b->SqT K H a xs->SqT K H b ys->xs≠[]->xs.length+ys.length<=sizeLine->(ys=[]->Q (.ref a) H)->(ys≠[]->∀p,H p=none->Q (.ref p) (upd H p (.tup (xs++ys)))):=0
def Vals.nil_iff(r:Vals xs us):us=[]↔xs=[]:=by
 cases r with
 |nil=>simp
 |cons _ _=>simp
def op_catT:OpR X (binaryOp .Add) (rCatT X.K):=by
 exists 4,x,y,v,u,Q,I,rx,ry,h;erw[a,b,xs,ys,1,1,ha,hb,hx,hz,q1,q2]at h;cases rx;cases ry;let%[its,r1,p1|_]:=I.tuple ha;let%[its2,r2,p2|_]:=I.tuple hb;apply HT.cat_tup p1 p2 (λz=>hx (r1.nil_iff.mp z)) (λz=>%[.ref a,H,I,1|q1 (r2.nil_iff.mp z)]) (λz=>?_) (by rw[←r1.length,←r2.length];exact hz);erw[.ref ‹s›,_,I.laid (t':=s.toks) (o:=.tup (xs++ys)) (λb ob q=>zO0 _ q) (zH0 _) ?_,1,q2 (λw=>z (r2.nil_iff.mpr w)) _ (I.hok.fresh (zH0 _))];erw[by rw[zJ0];exact hz,_,r1.append r2,IsTup.new _ _,_,qB0 _ rfl,1]
end
def ixN(n:Nat)(i:Int):Option Nat:=if 0<=i then(if i<n then some i.toNat else none)else if -(n:Int)<=i then some (i+n).toNat else none
def atI{α:Type}(xs:List α)(i:Int):Option α:=(ixN xs.length i).bind λj=>xs[j]?
def vM{j:Nat}(h:ixN n i=some j):seqIndex? i n=some j/\j<n/\-(n:Int)<=i/\i<n:=by
 unfold ixN at h
 by_cases h0:0<=i
 . rw [NE h0]at h
   by_cases h1:i<n
   . rw[NE h1]at h;let e:i.toNat=j:=zT0 h;erw[by rw[seqIndex_of h0 h1,e],3,3,h1]
   . rw[ND h1]at h;cases h
 . rw [ND h0]at h
   by_cases h1:-(n:Int)<=i
   . rw[NE h1]at h;let e:(i+n).toNat=j:=zT0 h;erw[by rw[seqIndex_neg #[0] h1,e],3,h1,3]
   . rw[ND h1]at h;cases h
def vV{α:Type}{xs:List α}{v:α}(h:atI xs i=some v):∃j,seqIndex? i xs.length=some j/\xs[j]?=some v/\j<xs.length/\-(xs.length:Int)<=i/\i<xs.length:=by
 unfold atI at h;cases e:ixN xs.length i with
 |none=>rw[e]at h;cases h
 |some j=>
   rw[e]at h;let%[h1,h2,h3|h4]:=vM e;erw[j,h1,h,h2,h3,h4]
def bK{α:Type}{xs:List α}{j:Nat}{v:α}(h:xs[j]?=some v):atI xs (j:Int)=some v:=by
 let hj:j<xs.length:=(zX0 h).1;let e:ixN xs.length (j:Int)=some j:=by
  unfold ixN;rw[NE #[0],NE #[0]];simp
 unfold atI;rw[e];exact h
def xK{α:Type}(xs:List α)(v:α):atI (xs++[v]) (-1)=some v:=by
 let hl:(xs++[v]).length=xs.length+1:=by simp
 let e:ixN (xs++[v]).length (-1)=some xs.length:=by
  unfold ixN;rw[hl,ND ⋯,NE #[0]]
  congr 1
  omega
 unfold atI;rw[e];show(xs++[v])[xs.length]?=some v
 simp
def HU(b:Expr):Prop:=∀o i,subscripted b false o i=operate [o,i] (getItem o i)
def IxR(X:Cx)(r:R2):Prop:=
 ∀(value slice:Expr)(NC:#[7])(s:Shared)(σ:St)(H:Hp)(x y:V)(v u:Value)(Q:VK),#[8] H s->RelV x v->RelV y u->r x y H Q ->
  subscripted slice false v u=operate [v,u] (getItem v u)->‹X.w› (subscriptTail value slice v u) (EP X NC σ Q) X.xe s
def MtR(X:Cx)(id:String)(r:V->List V->Hp->VK->Prop):Prop:=
 ∀(NC:#[7])(s:Shared)(σ:St)(H:Hp)(x:V)(xs:List V)(v:Value)(us:List Value)(Q:VK),#[8] H s->RelV x v->Vals xs us->r x xs H Q ->
  ‹X.w› (call (.builtin id) (v::us)) (EP X NC σ Q) X.xe s
section
variable {X:Cx}{a b:Expr}{ta tb:TE}{pos:Pos}
def IxR.or(h:IxR X r)(h':IxR X r'):IxR X (λx y H Q=>r x y H Q∨r' x y H Q):=by
 intro value slice NC s σ H x y v u Q I rx ry q hs;rcases q with q | q
 . exact h value slice NC s σ H x y v u Q I rx ry q hs
 . exact h' value slice NC s σ H x y v u Q I rx ry q hs
def aN(hr:IxR X r)(ha:PE X a ta)(hb:PE X b tb)(hs:HU b):PE X (.Subscript a b pos) (tOp r ta tb):=by
 exists 4,Q,I,h;exact Subscript_ (JX ha hb I h λv u s2 x y H2 I2 rx ry q=>hr a b NC s2 σ H2 x y v u Q I2 rx ry q (hs _ _))
instance rIxL(K:W.Frag)(x:V)(y:V)(H:Hp)(Q:VK):∀p xs i v,x=.ref p->y=.int i->SqL K H p xs->atI xs i=some v->Q v H:=0
instance rIxT(K:W.Frag)(x:V)(y:V)(H:Hp)(Q:VK):∀p xs i v,x=.ref p->y=.int i->SqT K H p xs->atI xs i=some v->Q v H:=0
instance rIxS(x:V)(y:V)(H:Hp)(Q:VK):∀z i c,x=.str z->y=.int i->z.length<=sizeLine->atI z.cps.toList i=some c->Q (.str ⟨#[c]⟩) H:=0
def ix_list:IxR X (rIxL X.K):=by
 intro value slice NC s σ H x y v u Q I rx ry h hs;erw[p,xs,i,z,1,1,hq,he,q]at h;cases rx;erw[t,1]at ry;let%[its,r,pl|hz]:=I.list hq;let%[j,h1,h2,h3,h4|h5]:=vV he;let%[w,ew|rw']:=r.get h2;let hl:=r.length;let hn:=jM;let fin:EP X NC σ Q w s:=%[z,H,I,rw'|q]
 by_cases h0:0<=i
 . let hj:i.toNat=j:=by
    rw[seqIndex_of h0 h5]at h1;exact zT0 h1
   exact item_listR pl.isList h0 #[0] (by rw[hj];simpa using ew) fin hs
 . let hj:(i+(its.toArray.size:Int)).toNat=j:=by
    rw[seqIndex_neg #[0] h4]at h1;rw[zS0,←hl];exact zT0 h1
   exact subscriptTail_builtinR (x:=w) pl.isList.typeIs slot_list_getitem.lookup
    (wpAny_getItem_list_neg (Q:=λr s'=>r=w/\EP X NC σ Q r s') pl.isList #[0] (by rw[zS0] <;> omega) #[0] (by rw[hj];simpa using ew) %[1|fin]) hs
def ix_tup:IxR X (rIxT X.K):=by
 intro value slice NC s σ H x y v u Q I rx ry h hs;erw[p,xs,i,z,1,1,hq,he,q]at h;cases rx;erw[t,1]at ry;let%[its,r,pl|hz]:=I.tuple hq;let%[j,h1,h2,h3,h4|h5]:=vV he;let%[w,ew|rw']:=r.get h2;let hl:=r.length;let hn:=jM;let fin:EP X NC σ Q w s:=%[z,H,I,rw'|q]
 exact subscriptTail_builtinR (x:=w) pl.typeIs slot_tuple_getitem.lookup
  (getItem_tuple (j:=j) (Q:=λr s'=>r=w/\EP X NC σ Q r s') pl #[0] #[0] (by rw[zS0,←hl];exact h1) #[ew,0] %[1|fin]) hs
def vL:IxR X rIxS:=by
 intro value slice NC s σ H x y v u Q I rx ry h hs;erw[z,i,c,1,1,hz,he,q]at h;erw[t,1]at rx;erw[t',1]at ry;let%[j,h1,h2,h3,h4|h5]:=vV he;let hl:z.cps.toList.length=z.length:=by simp [Str.length]
 rw [hl]at h1 h4 h5;let hn:=jM;exact tail_any (wN1 s z t) slot_str_getitem.lookup (getItem_str (c:=c) (by
  let e1:decide (i < -(2 ^ 63:Int))=false:=zB1 #[0];let e2:decide (i≥2 ^ 63)=false:=zB1 #[0];rw[e1,e2,vE1]) (by rw[h1];simpa using h2) %[.str %[|#[c]],H,I.tok _,%[|0]|q]) hs
def rIx(K:W.Frag):R2:=λx y H Q=>rIxL K x y H Q∨rIxT K x y H Q∨rIxS x y H Q
def ER:IxR X (rIx X.K):=ix_list.or (ix_tup.or vL)
def yW(its:List Value)(n j:Nat)(u:Value):Obj.mapSeq (·.setIfInBounds j u) { cls:=.type "list",data:=.seq its.toArray n }={ cls:=.type "list",data:=.seq (its.set j u).toArray n }:=by
 simp [Obj.mapSeq]
def Inv.lst{NC:#[7]}{σ:St}{H:Hp}{s:Shared}{p:Addr}{xs:List V}(I:#[8] H s)(h:H p=some (.lst xs)):
 ∃(its:List Value) (n:Nat),Vals xs its/\s.heap.get? p=some { cls:=.type "list",data:=.seq its.toArray n }/\xs.length<=sizeLine:=by
 let%[z,its,n,r|e]:=I.hok p _ h;erw[its,n,r,e,z]
def Inv.lstUpd{σ:St}{p:Addr}{xs:List V}{its its':List Value}{n n':Nat}{f:Obj->Obj}(I:#[8] H s)(h:H p=some (.lst xs))
 (ho:s.heap.get? p=some { cls:=.type "list",data:=.seq its.toArray n })(hf:f { cls:=.type "list",data:=.seq its.toArray n }={ cls:=.type "list",data:=.seq its'.toArray n' })(r:Vals ys its')(hz:ys.length<=sizeLine)(t:Nat):
 #[8] (upd H p (.lst ys)) { s with heap:=s.heap.update p f,toks:=t }:=by
 let e:(s.heap.update p f).get? p=some { cls:=.type "list",data:=.seq its'.toArray n' }:=by
  rw[Heap.get?_update_self f ho (by rw[hf] <;> rfl),hf]
 apply I.write (x:=p) (e:=p) (by rw[h];trivial) (.inl rfl) (λb u hb q=>(Heap.get?_update_other _ _ (Ne.symm hb)).trans q) %[_|e] ?_;erw[hz,its',n',r,e]
instance rSetL(o:V)(i:V)(v:V)(H:Hp)(Q:(Hp->Prop)):∀p xs k j,o=.ref p->i=.int k->H p=some (.lst xs)->ixN xs.length k=some j->Q (upd H p (.lst (xs.set j v))):=0
def mJ:PSet X rSetL:=by
 exists 4,o,i,v,ov,iv,u,Q,I,ro,ri,rv,h;erw[p,xs,k,j,1,1,hp,hj,q]at h;cases ro;erw[t,1]at ri;let%[its,n,r,ho|hz]:=I.lst hp;let%[h1,h2,h3|h4]:=vM hj;let hl:=r.length;let hn:=jM;let I':#[8] (upd H p (.lst (xs.set j v))) { s with heap:=s.heap.update p (Obj.mapSeq (·.setIfInBounds j u)) }:=
  I.lstUpd hp ho (yW its n j u) (r.set rv j) (by rw[qJ1];exact hz) s.toks
 by_cases h0:0<=k
 . let hk:k.toNat=j:=by
    rw[seqIndex_of h0 h4]at h1;exact zT0 h1
   exact PySem.W.ki_setAt ho h0 #[0] (by rw[zS0,←hl];exact h4) (by rw[hk];erw[_,I',q])
 . let hk:(k+(its.toArray.size:Int)).toNat=j:=by
    rw[seqIndex_neg #[0] h3]at h1;rw[zS0,←hl];exact zT0 h1
   exact PySem.W.ki_setBack ho #[0] (by rw[zS0,←hl];exact h3) #[0] (by rw[hk];erw[_,I',q])
def uD(lo hi:Option Int)(n:Nat):(sliceBounds lo hi none n).1=((HT.sIx n 0 lo:Nat):Int)/\(sliceBounds lo hi none n).2.1=((HT.sIx n n hi:Nat):Int)/\(sliceBounds lo hi none n).2.2=1:=by
 erw[6,6,1]
 . cases lo with
   |none=>simp [sliceBounds,HT.sIx]
   |some i=>
     simp only[sliceBounds,HT.sIx,Option.getD_none,show(1:Int)>0 by decide,vK0]
     by_cases h:i<0
     . simp only[h,vK0] <;> omega
     . simp only[h,if_false] <;> omega
 . cases hi with
   |none=>simp [sliceBounds,HT.sIx]
   |some i=>
     simp only[sliceBounds,HT.sIx,Option.getD_none,show(1:Int)>0 by decide,vK0]
     by_cases h:i<0
     . simp only[h,vK0] <;> omega
     . simp only[h,if_false] <;> omega
def sO(its:List Value)(lo hi:Option Int):slicePick its.toArray lo hi none=((its.drop (HT.sIx its.length 0 lo)).take (HT.sIx its.length its.length hi-HT.sIx its.length 0 lo)).toArray:=by
 let%[h1,h2|h3]:=uD lo hi its.toArray.size;unfold slicePick;rw[h1,h2,h3];simp only[sliceRange_one,pick_run,zS0] <;> rfl
instance rSlL(K:W.Frag)(x:V)(lo:Option Int)(hi:Option Int)(H:Hp)(Q:VK):∀a xs,x=.ref a->SqL K H a xs->(∀p,H p=none->Q (.ref p) (upd H p (.lst (jf xs lo hi)))):=0
def Gq:SlR X (rSlL X.K):=by
 exists 4,x,v,vl,vu,lo,hi,sl,Q,I,rx,hs,pl,pu,h;erw[a,xs,1,hx,q]at h;cases rx;let%[its,r,ht|hz]:=I.list hx;let hlen:=r.length;erw["list",_,slot_list_getitem.lookup,ht.isList.typeIs,6];apply wpAny_getItem_list_slice ht.isList hs pl pu .none #[2] ?_ (by rw[zS0] <;> omega);rw[sO,←hlen];erw[.ref ‹s›,_,I.laid (t':=s.toks) (o:=.lst (jf xs lo hi)) (λb ob q=>zO0 _ q) (zH0 _) ?_,1,q _ (I.hok.fresh (zH0 _))];erw[zQ0 (pX xs lo hi) hz,_,(0),(r.drop (HT.sIx xs.length 0 lo)).take (HT.sIx xs.length xs.length hi-HT.sIx xs.length 0 lo),qB0 _ rfl]
def jY:V->Bool
 |.non=>true
 |.bl _=>true
 |.int _=>true
 |.str _=>true
 |_=>false
def eqV:V->V->Bool
 |.non,.non=>true
 |.bl a,.bl b=>a==b
 |.bl a,.int b=>(if a then 1 else 0)==b
 |.int a,.bl b=>a==(if b then 1 else 0)
 |.int a,.int b=>a==b
 |.str a,.str b=>a==b
 |_,_=>false
def JK{A:Around}{s:Shared}(ry:RelV y u)(rx:RelV x v)(fy:jY y=true)(fx:jY x=true):SeqAt.EqAt A s u v (eqV y x):=by
 cases y with
 |non=>
   cases ry;cases x with
   |non=>cases rx;exact SeqAt.EqAt.same _
   |bl b=>cases rx;exact SeqAt.EqAt.none_bool b
   |int b=>erw[t,1]at rx;exact SeqAt.EqAt.none_int b t
   |str b=>erw[t,1]at rx;exact SeqAt.EqAt.none_str b t
   |_=>exact absurd (show false=true from fx) qI0
 |bl a=>
   cases ry;cases x with
   |non=>cases rx;exact SeqAt.EqAt.bool_none a
   |bl b=>cases rx;exact SeqAt.EqAt.bool_bool a b
   |int b=>erw[t,1]at rx;exact SeqAt.EqAt.bool_int a b t
   |str b=>erw[t,1]at rx;exact SeqAt.EqAt.bool_str a b t
   |_=>exact absurd (show false=true from fx) qI0
 |int a=>
   erw[t',1]at ry;cases x with
   |non=>cases rx;exact SeqAt.EqAt.int_none a t'
   |bl b=>cases rx;exact SeqAt.EqAt.int_bool a t' b
   |int b=>erw[t,1]at rx;exact SeqAt.EqAt.int_int a t' b t
   |str b=>erw[t,1]at rx;exact SeqAt.EqAt.int_str a t' b t
   |_=>exact absurd (show false=true from fx) qI0
 |str a=>
   erw[t',1]at ry;cases x with
   |non=>cases rx;exact SeqAt.EqAt.str_none a t'
   |bl b=>cases rx;exact SeqAt.EqAt.str_bool a t' b
   |int b=>erw[t,1]at rx;exact SeqAt.EqAt.str_int a t' b t
   |str b=>erw[t,1]at rx;exact SeqAt.EqAt.str_str a t' b t
   |_=>exact absurd (show false=true from fx) qI0
 |_=>exact absurd (show false=true from fy) qI0
def eqU(x:V)(u:Value):Bool:=match u with
 |.none=>eqV .non x
 |.bool b=>eqV (.bl b) x
 |.int i _=>eqV (.int i) x
 |.str z _=>eqV (.str z) x
 |_=>false
def zr(r:RelV y u)(f:jY y=true):eqU x u=eqV y x:=by
 cases y with
 |non=>cases r;rfl
 |bl b=>cases r;rfl
 |int i=>erw[t,1]at r;rfl
 |str z=>erw[t,1]at r;rfl
 |_=>exact absurd (show false=true from f) qI0
def ox:∀{xs:List V}{us:List Value},Vals xs us->xs.all jY=true->us.any (eqU x)=xs.any λy=>eqV y x
 |_,_,.nil,_=>rfl
 |y::xs,u::us,.cons r t,f=>by
   rw[wM1,qU1]at f;rw[jY0,jY0,zr r f.1,ox t f.2]
def gK{A:Around}{s:Shared}(rx:RelV x v)(fx:jY x=true):∀{xs:List V}{us:List Value},Vals xs us->xs.all jY=true->∀u∈us,SeqAt.EqAt A s u v (eqU x u)
 |_,_,.nil,_=>λu hu=>by cases hu
 |y::xs,u::us,.cons r t,f=>λu' hu=>by
   rw[wM1,qU1]at f;rcases zY0 hu with rfl | hu
   . rw[zr r f.1];exact JK r rx f.1 fx
   . exact gK rx fx t f.2 u' hu
def inV(x:V)(xs:List V):Bool:=xs.any λy=>eqV y x
instance rIn(K:W.Frag)(neg:Bool)(x:V)(y:V)(H:Hp)(Q:VK):∀p xs,y=.ref p->SqL K H p xs∨SqT K H p xs->jY x=true->xs.all jY=true->Q (.bl (if neg then !inV x xs else inV x xs)) H:=0
def fe:OpR X (compareOp .In) (rIn X.K false):=by
 exists 4,x,y,v,u,Q,I,rx,ry,h;erw[p,xs,1,hq,fx,fs,q]at h;cases ry;rcases hq with hq | hq
 . let%[its,r,pl|hz]:=I.list hq;apply SeqAt.in_listAt (eqU x) pl.isList (λw hw=>gK rx fx r fs w #[hw,0]) %[.bl _,H,I,1|6];rw[show its.toArray.any (eqU x)=its.any (eqU x) by simp,ox r fs];exact q
 . let%[its,r,pl|hz]:=I.tuple hq;apply SeqAt.in_tupleAt (eqU x) pl (λw hw=>gK rx fx r fs w #[hw,0]) %[.bl _,H,I,1|6];rw[show its.toArray.any (eqU x)=its.any (eqU x) by simp,ox r fs];exact q
def vq:OpR X (compareOp .NotIn) (rIn X.K true):=by
 exists 4,x,y,v,u,Q,I,rx,ry,h;erw[p,xs,1,hq,fx,fs,q]at h;cases ry;rcases hq with hq | hq
 . let%[its,r,pl|hz]:=I.list hq;apply SeqAt.notIn_listAt (eqU x) pl.isList (λw hw=>gK rx fx r fs w #[hw,0]) %[.bl _,H,I,1|6];rw[show its.toArray.any (eqU x)=its.any (eqU x) by simp,ox r fs];exact q
 . let%[its,r,pl|hz]:=I.tuple hq;apply SeqAt.notIn_tupleAt (eqU x) pl (λw hw=>gK rx fx r fs w #[hw,0]) %[.bl _,H,I,1|6];rw[show its.toArray.any (eqU x)=its.any (eqU x) by simp,ox r fs];exact q
def vp:OpR X (compareOp .NotIn) (λx y H Q=>∃i j,x=.str i/\y=.str j/\Q (.bl (!(!(Builtin.Str.occurrences j i 0 j.length 1).isEmpty))) H):=by
 exists 4,x,y,v,u,Q,I,rx,ry,h;erw[i,j,1,1,q]at h;erw[t,1]at rx;erw[t',1]at ry;exact notIn_str %[.bl _,H,I,1|q]
instance rLen(K:W.Frag)(xs:List V)(H:Hp)(Q:VK):∀p ys,xs=[.ref p]->SqL K H p ys∨SqT K H p ys->Q (.int ys.length) H:=0
def aG:hV X (.builtin "len") (rLen X.K):=by
 exists 4,xs,us,Q,I,r,h;erw[p,ys,1,hq,q]at h;let%[u,1|rx]:=lE r;cases rx;let hn:=jM;rcases hq with hq | hq
 . let%[its,r',pl|hz]:=I.list hq;let hlen:=r'.length;exact Calls.call_len_list pl.isList (by simp only[zS0] <;> omega) %[.int ys.length,H,I.tok _,%[s.toks+1|by rw[zS0,hlen]]|q]
 . let%[its,r',pl|hz]:=I.tuple hq;let hlen:=r'.length;exact len_tuple pl (by simp only[zS0] <;> omega) %[.int ys.length,H,I.tok _,%[s.toks+1|by rw[zS0,hlen]]|q]
def df:hV X (.builtin "len") (λxs H Q=>∃z,xs=[.str z]/\z.length<=sizeLine/\Q (.int z.length) H):=by
 exists 4,xs,us,Q,I,r,h;erw[z,1,hz,q]at h;let%[u,1,t|1]:=lE r;let hn:=jM;exact len_str #[0] %[.int z.length,H,I.tok _,%[|0]|q]
instance rListOf(K:W.Frag)(xs:List V)(H:Hp)(Q:VK):∀p ys,xs=[.ref p]->SqL K H p ys∨SqT K H p ys->(∀l,H l=none->Q (.ref l) (upd H l (.lst ys))):=0
def jR:hV X (.type "list") (rListOf X.K):=by
 exists 4,xs,us,Q,I,r,h;erw[p,ys,1,hq,q]at h;let%[u,1|rx]:=lE r;cases rx;let fin:∀(its:List Value),Vals ys its->ys.length<=sizeLine->∀(h':Heap)(c':Nat),(∀b o',s.heap.get? b=some o'->h'.get? b=some o') ->
  h'.get? ‹s›=some { cls:=.type "list",dict:=none,data:=.seq its.toArray c',slots:=#[] }->EP X NC σ Q (.ref ‹s›) { s with heap:=h' }:=λits r' hz h' c' kp e=>
  %[.ref ‹s›,_,I.laid (t':=s.toks) kp (zH0 _) (show ObjOk X.prog X.w _ h' _ (.lst ys)from%[hz,its,c',r'|e]),1|q _ (I.hok.fresh (zH0 _))]
 rcases hq with hq | hq
 . let%[its,r',pl|hz]:=I.list hq;let hlen:=r'.length;erw[o,ho,hc,n,hd]at pl.isList;exact call_list_seq p (.inl rfl) ho hc hd (λh' c' kp e=>fin its r' hz h' c' kp e) (by simp only[zS0] <;> omega)
 . let%[its,r',pl|hz]:=I.tuple hq;let hlen:=r'.length;erw[o,ho,hc,n,hd]at pl;exact call_list_seq p (.inr rfl) ho hc hd (λh' c' kp e=>fin its r' hz h' c' kp e) (by simp only[zS0] <;> omega)
instance rTupOf(K:W.Frag)(xs:List V)(H:Hp)(Q:VK):∀p ys,xs=[.ref p]->(SqL K H p ys/\∀l,H l=none->Q (.ref l) (upd H l (.tup ys)))∨(SqT K H p ys/\Q (.ref p) H):=0
def bi:hV X (.type "tuple") (rTupOf X.K):=by
 exists 4,xs,us,Q,I,r,h;erw[p,ys,1,h]at h;let%[u,1|rx]:=lE r;cases rx;rcases h with⟨hq,q⟩ | ⟨hq,q⟩
 . let%[its,r',pl|hz]:=I.list hq;let hlen:=r'.length;apply call_tuple_list pl.isList (λh' kp=>?_) (by simp only[zS0] <;> omega);let I1:#[8] H { s with heap:=h' }:=I.kept (t':=s.toks) kp;let I2:#[8] (upd H h'.objs.size (.tup ys)) { s with heap:=h'.push { cls:=.type "tuple",data:=.seq its.toArray } }:=
    I1.laid (t':=s.toks) (λb o e=>zO0 _ e) (zH0 _) (show ObjOk X.prog X.w _ _ _ (.tup ys)from%[hz,its,r',IsTup.new _ _,_,qB0 _ rfl|1])
   erw[.ref h'.objs.size,_,I2,1,q _ (I1.hok.fresh (zH0 _))]
 . let%[its,r',pl|hz]:=I.tuple hq;exact call_tuple_same pl %[.ref p,H,I,1|q]
def tyV(K:W.Frag)(T:String)(x:V)(H:Hp):Prop:=match x with
 |.str _=>T="str"
 |.int _=>T="int"
 | .ref p=>(T="list"/\∃xs,SqL K H p xs)∨(T="tuple"/\∃o,K.lookup p=some o/\o.cls=.type "tuple"/\o.dict=none)∨
  (T="dict"/\((∃NF,H p=some (.dK NF))∨∃NF,H p=some (.dT NF)))∨(T="set"/\∃S n,H p=some (.set S n))
 |_=>False
def II{σ:St}(I:#[8] H s)(r:RelV x v)(ty:tyV X.K T x H):
 s.TypeIs v T/\∀a,v=.ref a->∃ob,s.heap.get? a=some ob/\ob.dict=none:=by
 cases x with
 |str z=>
   erw[t,1]at r;cases(show T="str" from ty);erw[wN1 s z t,λ_ e=>nomatch e]
 |int i=>
   erw[t,1]at r;cases(show T="int" from ty);erw[vM0 s i t,λ_ e=>nomatch e]
 |ref p=>
   cases r;rcases ty with⟨rfl,xs,hq⟩ | ⟨rfl,o,hk,hc,hd⟩ | ⟨rfl,hk⟩ | ⟨rfl,S,n,hk⟩
   . let%[its,_,pl|_]:=I.list hq;erw[pl.isList.typeIs,λa e=>?_];cases e;erw[o,n,e,c,hd,_]at pl;erw[o,e,hd]
   . erw[%[o,I.kIn p o hk|hc],λa e=>?_];cases e;erw[o,I.kIn _ o hk,hd]
   . let z:∃o,s.heap.get? p=some o/\o.ExactDict:=by
      rcases hk with⟨NF,hk⟩ | ⟨NF,hk⟩
      . let%[_,_,_,_,o,_,_,e,ex|_]:=I.hok p _ hk;erw[o,e,ex]
      . let%[_,_,_,_,o,_,_,e,ex|_]:=I.hok p _ hk;erw[o,e,ex]
     erw[o,e,ex]at z;erw[%[o,e|ex.1],λa e2=>?_];cases e2;erw[o,e,ex.2.1]
   . let%[o,_,_,_,e,ex|_]:=I.hok p _ hk;erw[%[o,e|ex.1],λa e2=>?_];cases e2;erw[o,e,ex.2.1]
 |_=>exact False.elim ty
instance ZtBM(K:W.Frag)(T:String)(r:V->List V->Hp->VK->Prop)(t:TA)(σ:St)(Q:VK)(x:V)(H1:Hp):tyV K T x H1->(t σ H1 λxs H2=>r x xs H2 Q):=0
def tBM(K:W.Frag)(T:String)(r:V->List V->Hp->VK->Prop)(to:TE)(t:TA):TE:=λσ H Q=>to σ H λx H1=>ZtBM K T r t σ Q x H1
variable {o e:Expr}{es:List Expr}{to:TE}{t:TA}{name:Str}{NN NJ:Pos}{T id:String}{r:V->List V->Hp->VK->Prop}
def eR(pa:PlainAttrs T)(slot:Slot T name id)(hty:typeOf (.builtin id)=pure (.type "method_descriptor"))(hm:MtR X id r)(ho:PE X o to)(ha:PA X (e::es) t)
 (hbase:attributeBase o name X.env (eval o X.env)=eval o X.env:=by rfl)
 (hfew:((backTo NJ (starEach (e::es) X.env)).all (λx=>!x.1)&&(backToKw NJ (keywordEach [] X.env)).all (λx=>x.1.isSome)
  &&decide ((e::es).length+([]:List Keyword).length+(if([]:List Keyword).isEmpty then 0 else 1)<30))=true:=by rfl)
 (hline:(NN.endLine==NJ.line)=true:=by rfl) (hs:starEach (e::es) X.env=(false,eval e X.env)::starEach es X.env:=by rfl) (hplain:(backTo NJ (starEach es X.env)).any (·.1)=false:=by rfl) :
 PE X (.Call (.Attribute o name NN) (e::es) [] NJ) (tBM X.K T r to t):=by
 exists 4,Q,I,h;apply wpAny_Call_method_late hbase hfew hline rfl (thn (ho NC s σ H _ I h) λv s1 ⟨x,H1,I1,r1,ty,q1⟩=>?_);let%[h1|h2]:=II I1 r1 ty;erw[T,id,pa,slot,hty,h1,h2,6];let hA:=ha NJ NC s1 σ H1 _ I1 q1;rw[hs]at hA ⊢;apply jJ0 (by show(false||(backTo NJ (starEach es X.env)).any (·.1))=false;rw[hplain] <;> rfl) (jS0 ?_);exact thn hA λus s2 ⟨vs,H2,I2,r2,q2⟩=>hm NC s2 σ H2 x vs v us Q I2 r1 r2 q2
end
def MtM(X:Cx)(id:String)(r:V->List V->Hp->VK->Prop):Prop:=
 ∀(NC:#[7])(s:Shared)(σ:St)(H:Hp)(x:V)(xs:List V)(v:Value)(us:List Value)(Q:VK),#[8] H s->RelV x v->Vals xs us->r x xs H Q ->
  ‹X.w› (call (.builtin id) (v::us)) (EP X NC σ Q) X.xe s
def Vals.one:∀{x:V}{us:List Value},Vals [x] us->∃u,us=[u]/\RelV x u
 |_,_,.cons r .nil=>%[0|r]
def Vals.eraseIdx:∀{xs:List V}{us:List Value}(i:Nat),Vals xs us->Vals (xs.eraseIdx i) (us.eraseIdx i)
 |_,_,_,.nil=>.nil
 |_,_,0,.cons _ t=>t
 |_,_,i+1,.cons r t=>.cons r (Vals.eraseIdx i t)
def Vals.rep(h:Vals xs us):∀k:Nat,Vals (List.replicate k xs).flatten (List.replicate k us).flatten
 |0=>.nil
 |k+1=>by
   rw[qA1,qA1,qY1,qY1];exact Vals.append h (Vals.rep h k)
def tX{α:Type}:∀(l:List α)(i:Nat),(l.eraseIdx i).length<=l.length
 | [],_=>zH0 _
 |_::_,0=>qN0 _
 |_::r,i+1=>zG1 (tX r i)
def lx(its:List Value):∀(k:Nat)(acc:List Value),
 List.foldl (λx1 x2=>x1++x2) acc.toArray (List.replicate k its.toArray)=(acc++(List.replicate k its).flatten).toArray
 |0,acc=>by simp
 |k+1,acc=>by
   let e:acc.toArray++its.toArray=(acc++its).toArray:=by simp
   let e2:(acc++its)++(List.replicate k its).flatten=acc++(List.replicate (k+1) its).flatten:=by
    rw[qA1,qY1,jD1]
   rw[←e2,←lx its k (acc++its),←e,qA1,List.foldl_cons]
section
variable {X:Cx}{NC:#[7]}{σ:St}{H:Hp}{s:Shared}{l b:Addr}{xs ys zs:List V}
def Inv.lset{its its':List Value}{n:Nat}{f:Array Value->Array Value}{t':Nat}(I:#[8] H s)(hH:H l=some (.lst xs))
 (e:s.heap.get? l=some { cls:=.type "list",data:=.seq its.toArray n })(hf:f its.toArray=its'.toArray)(hv:Vals ys its')(hz:ys.length<=sizeLine):
 #[8] (upd H l (.lst ys)) { s with heap:=s.heap.update l (Obj.mapSeq f),toks:=t' }:=by
 let q:=PySem.IsL.update e f;rw[hf]at q;apply I.write (x:=l) (e:=l) (by rw[hH];exact trivial) (.inl rfl) (λb' u hb hu=>(Heap.get?_update_other s.heap (Obj.mapSeq f) (Ne.symm hb)).trans hu) %[_|q] ?_;erw[hz,its',_,hv,q]
def Inv.lnew{t':Nat}(I:#[8] H s)(hv:Vals ys its)(hz:ys.length<=sizeLine):
 #[8] (upd H ‹s› (.lst ys)) { s with heap:=s.heap.push { cls:=.type "list",data:=.seq its.toArray },toks:=t' }:=
 I.laid (λ_ _ q=>zO0 _ q) (zH0 _) %[hz,its,(0),hv|qB0 _ rfl]
def Inv.fresh(I:#[8] H s):H ‹s›=none:=I.hok.fresh (zH0 _)
def Inv.lstM(I:#[8] H s)(hH:H l=some (.lst xs)):xs.length<=sizeLine/\∃(its:List Value) (n:Nat),Vals xs its/\xs.length=its.length/\s.heap.get? l=some { cls:=.type "list",data:=.seq its.toArray n }:=by
 let%[z,its,n,r|e]:=I.hok l _ hH;erw[z,its,n,r,r.length,e]
def wM{n:Nat}(h:n<=sizeLine):Builtin.List.listTooLong n=false:=by
 unfold Builtin.List.listTooLong;exact zB1 #[0]
end
section
variable {X:Cx}
instance rAppend(x:V)(vs:List V)(H:Hp)(Q:VK):∀l xs y,x=.ref l->vs=[y]->H l=some (.lst xs)->xs.length<sizeLine->Q .non (upd H l (.lst (xs++[y]))):=0
def cP:MtM X "list.append" rAppend:=by
 exists 4,x,vs,v,us,Q,I,rx,rv,h;erw[l,xs,y,1,1,hH,hz,q]at h;cases rx;erw[u,1,ru]at rv.one;let%[z,its,n,r,hl|e]:=I.lstM hH;apply qT1 F.slot_list_append %[_,e|1] F.entry_list_append (F.args_list_append_2 _ _) (PySem.list_append l its.toArray n u (by rw[zS0];omega)) ⟨e,?_⟩;erw[.non,_,I.lset (its':=its++[u]) hH e #[2] (r.append (.cons ru .nil)) ?_,1,q];rw[zJ0,qK0];omega
instance rExtend(x:V)(vs:List V)(H:Hp)(Q:VK):∀l b xs zs,x=.ref l->vs=[.ref b]->H l=some (.lst xs)->H b=some (.lst zs)->xs.length+zs.length<=sizeLine->Q .non (upd H l (.lst (xs++zs))):=0
def tS:MtM X "list.extend" rExtend:=by
 exists 4,x,vs,v,us,Q,I,rx,rv,h;erw[l,b,xs,zs,1,1,hH,hB,hz,q]at h;cases rx;erw[u,1,ru]at rv.one;cases ru;let%[z,its,n,r,hl|e]:=I.lstM hH;let%[z2,its2,n2,r2,hl2|e2]:=I.lstM hB;let hsz:its.toArray.size+its2.toArray.size<=sizeLine:=by rw[zS0,zS0];omega
 let hlong:¬ (!its.toArray.isEmpty&&Builtin.List.listTooLong (its.toArray.size+its2.toArray.size))=true:=by
  rw[wM hsz,vA1];exact qI0
 apply qT1 F.slot_list_extend %[_,e|1] F.entry_list_extend (F.args_list_extend_2 _ _)
  (AutoSeq1.list_extend_list_list_0 l its.toArray n b its2.toArray n2 hlong (by rw[zS0];omega) #[0]) %[e,e2|6]
 erw[.non,_,I.lset (its':=its++its2) hH e #[2] (r.append r2) ?_,1,q];rw[zJ0];omega
instance rPopAt(x:V)(vs:List V)(H:Hp)(Q:VK):∀l xs i k y,x=.ref l->vs=[.int i]->H l=some (.lst xs)->-(2 ^ 63)<=i->i<2 ^ 63->seqIndex? i xs.length=some k->xs[k]?=some y->Q y (upd H l (.lst (xs.eraseIdx k))):=0
def Ev:MtM X "list.pop" rPopAt:=by
 exists 4,x,vs,v,us,Q,I,rx,rv,h;erw[l,xs,i,k,y,1,1,hH,h1,h2,hk,hy,q]at h;cases rx;erw[u,1,ru]at rv.one;erw[t,1]at ru;let%[z,its,n,r,hl|e]:=I.lstM hH;let%[w,hw|rw']:=r.get hy;apply qT1 F.slot_list_pop %[_,e|1] F.entry_list_pop (F.args_list_pop_2 _ _)
  (MeetsSeq.list_pop_at l its.toArray n i t k w (fitsIndex_both h1 h2) (by rw[zS0,←hl];exact hk) (by rw[←Array.getElem?_toList];exact hw) (by rw[zS0];omega)) %[e|6]
 erw[y,_,I.lset (its':=its.eraseIdx k) hH e ?_ (r.eraseIdx k) ?_,rw',q]
 . show its.toArray.eraseIdxIfInBounds k=(its.eraseIdx k).toArray;rw[List.eraseIdxIfInBounds_toArray]
 . have:=tX xs k
   omega
instance rCat(x:V)(y:V)(H:Hp)(Q:VK):∀l b xs zs,x=.ref l->y=.ref b->H l=some (.lst xs)->H b=some (.lst zs)->xs.length+zs.length<=sizeLine->(∀p,H p=none->Q (.ref p) (upd H p (.lst (xs++zs)))):=0
def oU:OpR X (binaryOp .Add) rCat:=by
 exists 4,x,y,v,u,Q,I,rx,ry,h;erw[l,b,xs,zs,1,1,hH,hB,hz,q]at h;cases rx;cases ry;let%[z,its,n,r,hl|e]:=I.lstM hH;let%[z2,its2,n2,r2,hl2|e2]:=I.lstM hB;apply PySem.P.add_list e e2 ?_ (by rw[zS0,zS0];omega);let ea:its.toArray++its2.toArray=(its++its2).toArray:=by simp
 rw[ea];erw[.ref _,_,I.lnew (t':=s.toks) (r.append r2) (by rw[zJ0];omega),1,q _ I.fresh]
instance rRep(x:V)(y:V)(H:Hp)(Q:VK):∀l k xs,x=.ref l->y=.int k->H l=some (.lst xs)->-(2 ^ 63)<=k->k<2 ^ 63->xs.length*k.toNat<=sizeLine->(∀p,H p=none->Q (.ref p) (upd H p (.lst (List.replicate k.toNat xs).flatten))):=0
def Ag{α:Type}(xs:List α)(k:Nat):(List.replicate k xs).flatten.length=k*xs.length:=by
 induction k with
 |zero=>simp
 |succ k ih=>rw[qA1,qY1,zJ0,ih,vK1,Nat.add_comm]
def DN:OpR X (binaryOp .Mult) rRep:=by
 exists 4,x,y,v,u,Q,I,rx,ry,h;erw[l,k,xs,1,1,hH,h1,h2,hz,q]at h;cases rx;erw[t,1]at ry;let%[z,its,n,r,hl|e]:=I.lstM hH;let hlen:its.toArray.size*k.toNat<=sizeLine:=by rw[zS0,←hl];exact hz
 let hcap:¬ its.toArray.size*k.toNat>(2 ^ 63-1) / 8:=by
  have:(sizeLine:Nat)<=(2 ^ 63-1) / 8:=by decide
  omega
 let hfit:¬ (!Builtin.List.listFitsIndex k)=true:=by
  rw[fitsIndex_both h1 h2];exact qI0
 let hlong:¬ Builtin.List.listTooLong (its.toArray.size*k.toNat)=true:=by
  rw[wM hlen];exact qI0
 let hnew:List.foldl (λx1 x2=>x1++x2) #[] (List.replicate (if its.toArray.isEmpty=true then 0 else k.toNat) its.toArray)=(List.replicate k.toNat its).flatten.toArray:=by
  let f0:∀m:Nat,List.foldl (λx1 x2=>x1++x2) #[] (List.replicate m its.toArray)=(List.replicate m its).flatten.toArray:=λm=>by
   have:=lx its m []
   rw[wP1]at this;exact this
  rw[f0];cases its with
  |nil=>simp
  |cons a r'=>rw[ND #[2]]
 apply wpAny_binaryOp_repeat_ref (T:="list") (U:="int") ⋯ %[_,e|1] (λs'=>vM0 s' k t) noFill_list_mul F.fills_int_mul wQ0 repeat_list F.slot_int_index.lookup
  (qT1 wQ0 (vM0 s k t) F.entry_int_rmul (F.args_int_rmul_2 _ _) (int___rmul___int_list k t l its.toArray n)
   %[e,1,%[_,e|1]|qT1 F.slot_list_mul ⟨_,e,rfl⟩ F.entry_list_mul (F.args_list_mul_2 _ _) (AutoListH.list___mul___list_int_3 l its.toArray n k t hfit hcap hlong) ⟨e,?_⟩])
 rw[hnew];erw[.ref _,_,I.lnew (t':=s.toks) (r.rep k.toNat) (by rw[Ag,Nat.mul_comm];exact hz),1,q _ I.fresh]
end
end L2
namespace Att
open PySem PySem.W PySem.Calls PyProof.Rows
def qi{P:Params}{h:Heap}:∀(ns:List Int)(vs:List Value),WellAll P h vs (ns.map WData.int)->IntsAre vs ns:=by
 intro ns
 induction ns with
 |nil=>
   intro vs w;rw[List.map_nil]at w;cases w;exact .nil
 |cons n ns ih=>
   intro vs w;rw[qE0]at w;cases w with
   |cons a b=>
     cases a;exact .cons _ _ (ih _ b)
def AT{l:OpenLaw}{n:Nat}(hn:l.most=some n){P:Params}{h:Heap}{args:List WData}{vals:List Value}
 (hpre:l.row.toRowW.claim.pre args=true)(hwl:WellAll P h vals args):
 ∃a vs ns,vals=[Value.ref a]/\args=[WData.list (ns.map WData.int)]/\h.get? a=some { cls:=.type "list",data:=.seq vs.toArray }/\IntsAre vs ns/\ns.length<=n:=by
 let hsh:WShape.hasAll [] args [.list .int]=true:=(pre_splitW hpre).1;let hc:l.pre.holds [] { args:=args }=true:=(pre_splitW hpre).2;let%[d,r,1,h1|h2]:=hasAllW_cons hsh;obtain rfl:=hasAllW_nil h2;let%[xs,1|h3]:=hasW_list h1;let%[ns|1]:=items_int h3;let hlen:ns.length<=n:=by
  unfold OpenLaw.pre at hc;let h4:(WTm.not (.lt (.lit (.int (n:Int))) (.len (.arg 0)))).holds [] { args:=[.list (ns.map .int)] }=true:=by
   let h4:=(holds_andW hc).1;rw[hn]at h4;exact h4
  let h5:=condW_of h4 (w_not (w_lt w_lit (w_len_list (w_arg rfl))));rw[zF0]at h5;apply Nat.le_of_not_lt λq=>?_
  let q':(n:Int)<((ns.length:Nat):Int):=#[0]
  first
   | (rw[zC1 q']at h5;exact absurd h5 ⋯)
   | (simp at h5;omega)
 cases hwl with
 |cons w1 w2=>
   cases w2;cases w1 with
   |list ho hall=>erw[_,_,ns,1,1,ho,qi ns _ hall,hlen]
def Bi(l:OpenLaw)(args:List WData):l.row.toRowW.claim.post args (.bool true) args=true:=
 postW_of (r:=l.row.toRowW) (X:=(true==true))
  (show WShape.has [] (.bool true) .bool=true by first | rfl | decide | simp [WShape.has,WShape.arms,WShape.armsAll])
  (show(WTm.eq .res (.lit (.bool true))).value [] { args:=args,res:=some (.bool true),after:=args }=some (.bool (true==true))from w_eq_bool (w_res rfl) w_lit) rfl
def attach_call{l:OpenLaw}{n:Nat}{q:Program}{loose:List Str}{XP:(#[9])->Heap->Prop}{YP:World->Heap->Prop}{d:DefRec}
 (hn:l.most=some n)(hdf:d.params.defaults=[])
 (call:∀(w:World)(s₀ s₁:Shared)(mg mb:#[9])(fa:Addr)(o:Obj)(pm cd doc:Value)(a:Addr)(vs:List Value)(ns:List Int),
  Ground q loose [] XP w s₀ mg mb s₁.heap->YP w s₁.heap ->
  s₁.heap.get? fa=some o->o.data=.func (docDef d.name d.params d.body d.scope pm cd doc)->s₁.heap.CodeRec cd d.name->mg d.name=some (.ref fa) ->
  s₁.heap.get? a=some { cls:=.type "list",data:=.seq vs.toArray }->IntsAre vs ns->ns.length<=n->s₁.gens=#[] ->
  codeAny (model l.prog w) callerA (.call (.ref fa) %[[.ref a]|[]]) (λr s'=>r=.ok (.ret (.bool true))/\OldK s₁.heap s'.heap/\s'.os=s₁.os/\AllBare s'.gens) s₁) :
 WalkO q loose XP YP l.row.toRowW d [] (λf vs=>PySem.call f vs):=by
 intro w s₀ s₁ mg mb G Y fa o pm cd doc dV kV ho hd hcd hD hmg hg args vals as hpre hlay hrd hwl hlo;obtain rfl:dV=.none:=Dflts.none hD hdf;obtain rfl:kV=.none:=Dflts.noKw hD;let%[a,vs,ns,1,1,hobj,hints|hlen]:=AT hn hpre hwl;apply enter_call (vJ1 (call w s₀ s₁ mg mb fa o pm cd doc a vs ns G Y ho (fd_plain hd) hcd hmg hobj hints hlen hg) λr s' hq=>?_);erw[1,h2,h3,h4]at hq;erw[.inl %[.bool true,.bool true,[],1,λ_=>rfl,.bool true,Bi l _|λ_=>%[List.Pairwise.nil|λ_ hm=>(nomatch hm)]],h2,h3,h4]
end Att
namespace L2
open PySem PySem.Spec PyProof.Rows
def tE:∀{vs:List Value}{ns:List Int},IntsAre vs ns->Vals (ns.map V.int) vs
 |_,_,.nil=>.nil
 |_,_,.cons n t h=>.cons %[t|1] (tE h)
def Kc(H:Hp):Prop:=∀b,H b=none∨∃o xs,H b=some (.frz o (.lst xs))
def EK{K:W.Frag}{mg mb:#[9]}{a:Addr}{x:Str}{s₁:Shared}{vs:List Value}{ns:List Int}
 (KX:K.In s₁.heap)(hns:s₁.heap.Ns mainGlobals mg)(hb:s₁.heap.Ns builtinsNs mb)(hbb:∀x:Str,x≠"__name__" -> mb x=bootBuiltins x)(hlim:s₁.heap.NoLimit)(hg:s₁.gens=#[])
 (ha:s₁.heap.get? a=some { cls:=.type "list",data:=.seq vs.toArray })(hi:IntsAre vs ns)(hl:ns.length<=sizeLine)(hr:Room k callerA)
 (F:∀base:Heap,K.In base->base.Ns mainGlobals mg->FnOk P w K mg base CX k fa fd [x] sp)(hbind:∀(s:Shared)(u:Value),BindsTo s fd %[[u]|[]] [(x,u)])
 (hsp:∀H:Hp,Kc H->SqL K H a (ns.map V.int)->sp [.ref a] H (λv _=>v=.bl true) λ_ _ _=>False)
 (hCX:∀H e s',CX [] H s₁ (λ_ _ _=>False) e s'->False):
 codeAny (model P w) callerA (.call (.ref fa) %[[.ref a]|[]]) (λr s'=>r=.ok (.ret (.bool true))/\OldK s₁.heap s'.heap/\s'.os=s₁.os/\AllBare s'.gens) s₁:=by
 let rv:=tE hi;let lenV:=hi.length;let core:∀H:Hp,Kc H->SqL K H a (ns.map V.int)->HOk P w H s₁.heap->(∀b,H b≠none->b=a)->(H a≠none->K.lookup a=none) ->
  codeAny (model P w) callerA (.call (.ref fa) %[[.ref a]|[]]) (λr s'=>r=.ok (.ret (.bool true))/\OldK s₁.heap s'.heap/\s'.os=s₁.os/\AllBare s'.gens) s₁:=by
  intro H hO hS hok hA hK;let base_of:∀{b:Addr}{o:Obj},s₁.heap.get? b=some o->H b=none->(vO s₁.heap H).get? b=some o:=λe n=>EW e n
  let noA:∀{b:Addr}{o:Obj}{es:Array DictEntry}{ep:Nat},s₁.heap.get? b=some o->o.data=.dict es ep->H b=none:=fun{b o es ep} e d=>by
   cases q:H b with
   |none=>rfl
   |some u=>
     let e':b=a:=hA b (by rw[q];simp);subst e';rw[ha]at e;cases e;let d':Data.seq vs.toArray _=Data.dict es ep:=d;cases d'
  let nsK:∀{b:Addr}{m:#[9]},s₁.heap.Ns b m->(vO s₁.heap H).Ns b m:=fun{b m} ⟨o,es,ep,e,d,r⟩=>%[o,es,ep,base_of e (noA e d),d|r]
  let hKb:K.In (vO s₁.heap H):=λb o e=>base_of (KX b o e) (by
   cases q:H b with
   |none=>rfl
   |some u=>
     let e':b=a:=hA b (by rw[q];simp);subst e';rw[hK (by rw[q];simp)]at e;cases e)
  let hM:Mod K mg (vO s₁.heap H):=%[hKb,nsK hns,%[mb,nsK hb|hbb]|let⟨mc,h1,h2⟩:=hlim;⟨mc,nsK h1,h2⟩]
  let e0:Env0 P w K mg (vO s₁.heap H) callerA [] s₁ H:=%[1,hM,λb o e=>He e,Nat.le_of_eq (BR _ _),trivial,λb hb=>absurd (show b∈([]:List Addr)from hb) #[2],hok|.of_eq hg]
  apply vJ1 ((F _ hKb (nsK hns)).run callerA [] s₁ H %[[.ref a]|[]] [.ref a] [.ref a] _ _ hr e0 (hbind s₁ (.ref a)) (.cons rfl .nil) (hsp H hO hS)) λr s' h=>?_
  cases r with
  |error e=>exact(hCX H e s' h).elim
  |ok fl=>
    cases fl with
    |next=>exact False.elim h
    |brk=>exact False.elim h
    |cont=>exact False.elim h
    |ret u=>
      erw[v,H',os,bare,un,hok',r',q]at h;let q':v=.bl true:=q;subst q';obtain rfl:u=Value.bool true:=r';erw[1,OldK.of_keep λb o e=>?_,os,bare];cases q:H b with
      |none=>exact un.keep b o e q (by intro z;exact absurd (show b∈([]:List Addr)from z) #[2]) #[2]
      |some u=>
        rcases hO b with z | ⟨ob,xs,z⟩
        . rw[q]at z;cases z
        . let z2:=un.frzs b ob _ z;let%[e1|_]:=hok b _ z;let%[e2|_]:=hok' b _ z2;rw[e]at e1;cases e1;exact e2
 cases hk:K.lookup a with
 |some o=>
   let e:=KX a o hk;rw[ha]at e;cases e;apply core (λ_=>none) (λ_=>.inl rfl) (.inr %[_,vs.toArray,_,hk,1,1,1,by rw[zS0,lenV];exact hl|by simpa using rv]) (λb u z=>by let z':(none:Option HO)=some u:=z;cases z') (λb z=>absurd rfl z) λz=>absurd rfl z
 |none=>
   apply core (λb=>if b=a then some (.frz { cls:=.type "list",data:=.seq vs.toArray } (.lst (ns.map V.int)))else none) (λb=>?_) (.inl (.inr %[{ cls:=.type "list",data:=.seq vs.toArray }|NE rfl])) (λb u z=>?_) (λb z=>?_) λ_=>hk
   . by_cases hb:b=a
     . exact .inr %[_,_|NE hb]
     . exact .inl (ND hb)
   . by_cases hb:b=a
     . let z':=(NE hb).symm.trans z;cases z';subst hb;erw[ha,by rw[zF0];exact hl,vs,_,rv,ha]
     . let z':=(ND hb).symm.trans z;cases z'
   . by_cases hb:b=a
     . exact hb
     . exact absurd (ND hb) z
def walk_of{l:PySem.W.OpenLaw}{n:Nat}{q:Program}{loose:List Str}{XP:(#[9])->Heap->Prop}{YP:World->Heap->Prop}{d:DefRec}{K:Params->PySem.W.Frag}{CX:World->CXT}{sp:World->Sp}{x:Str}
 (hn:l.most=some n)(hn2:n<=sizeLine)(hdf:d.params.defaults=[])(hr:Room k callerA)
 (hY:∀(w:World)(h:Heap),YP w h->(K w.params).In h)
 (F:∀(w:World)(mg:#[9])(fa:Addr)(h:Heap),(K w.params).In h->h.Ns mainGlobals mg->mg d.name=some (.ref fa) ->
  ∃ fd:FuncData,(∀(s:Shared)(u:Value),BindsTo s fd %[[u]|[]] [(x,u)])/\
   ∀base:Heap,(K w.params).In base->base.Ns mainGlobals mg->FnOk l.prog w (K w.params) mg base (CX w) k fa fd [x] (sp w))
 (hsp:∀(w:World)(H:Hp)(a:Addr)(ns:List Int),ns.length<=n->Kc H->SqL (K w.params) H a (ns.map V.int)->sp w [.ref a] H (λv _=>v=.bl true) λ_ _ _=>False)
 (hCX:∀(w:World)(H:Hp)(s:Shared)(e:Value)(s':Shared),CX w [] H s (λ_ _ _=>False) e s'->False) :
 PySem.W.WalkO q loose XP YP l.row.toRowW d [] (λf vs=>PySem.call f vs):=by
 apply Att.attach_call hn hdf λw s₀ s₁ mg mb fa o pm cd doc a vs ns G Y ho hd hcd hmg hobj hints hlen hg=>?_
 let KX:=hY w _ Y;let%[fd,hb|hF]:=F w mg fa _ KX G.T.g hmg;exact EK KX G.T.g G.T.b G.T.builtins G.T.nolimit hg hobj hints (zQ0 hlen hn2) hr hF hb (λH hO hS=>hsp w H a ns hlen hO hS) λH e s'=>hCX w H s₁ e s'
end L2
namespace L2
open PySem PySem.Spec PyProof.Rows
def bp(s:Stmt)(j:Nat):Stmt:=match s with
 |.ClassDef _ _ _ body _ _ _ _ _ _ _=>body.getD j (.Pass %[(0),(0),(0)|(0)])
 |_=>.Pass %[(0),(0),(0)|(0)]
def jP(s:Stmt):Arguments:=match s with
 |.FunctionDef _ a _ _ _ _ _ _ _ _=>a
 |_=>{ posonlyargs:=[],args:=[],vararg:=none,kwonlyargs:=[],kw_defaults:=[],kwarg:=none,defaults:=[] }
def gG(s:Stmt):List Stmt:=match s with
 |.FunctionDef _ _ b _ _ _ _ _ _ _=>b
 |_=>[]
def ao(s:Stmt):Scope:=match s with
 |.FunctionDef _ _ _ _ _ _ sc _ _ _=>sc
 |_=>{ kind:=.function,names:=[],isGenerator:=false,isCoroutine:=false }
abbrev CX0:CXT:=λ_ _ _ _ _ _=>False
abbrev E0:XK:=λ_ _ _=>False
def bh:mo CX0 X E0:=λ_ _ _ _ _ _ _ h=>h.elim
structure Fun(K:W.Frag)(x qual:Str)(st:Stmt)(f:Addr)(fd:FuncData):Prop where
 ex:∃(oc:Value)(od:Option Addr)(kV doc pm:Value)(an:Option Addr)(cdv ct:Value)(osl:Array (Option Value)),
  fd=PySem.W.fnOf x qual (jP st) (gG st) (ao st) .none kV doc pm an cdv ct/\K.lookup f=some %[oc,od,.func fd|osl]/\PySem.W.codeIn K cdv qual=true
 kp:PySem.W.keepIn K (.ref f)=true
section
variable {P:Program}{w:World}{K:W.Frag}{mg:#[9]}{base:Heap}
def Fun.ok{st:Stmt}{sp:Sp}(F:Fun K x qual st f fd)(S:FnScope N ps (ao st))(len:∀vs H Q E,sp vs H Q E->vs.length=ps.length)
 (hbody:∀(cdv:Value)(A:Around)(outer:List Env)(s:Shared)(H:Hp)(vs:List V)(Q:VK)(E:XK),Room k (A.deeper (envOfC qual (ao st) ‹s› f cdv))->sp vs H Q E ->
  ∃t,PSs (Cf CX0 P w K mg base N qual (ao st) f cdv A outer s H E).nox (gG st) t/\t { nx:=λ_ H'=>Q .non H',rt:=Q } (pB N vs) H):FnOk P w K mg base CX0 (k+1) f fd ps sp:=by
 erw[oc,od,kV,doc,pm,an,cdv,ct,osl,1,lk,hcd]at F.ex;apply fn_of lk hcd S len λA outer s H vs Q E hr hsp=>?_
 let%[t,h|q]:=hbody cdv A outer s H vs Q E hr hsp;erw[t,h.nox,q]
def Fun.binds{st:Stmt}{ps:List Str}(F:Fun K x qual st f fd)
 (h:∀(kV doc pm:Value)(an:Option Addr)(cdv ct:Value)(us:List Value),us.length=ps.length->bindArgs (PySem.W.fnOf x qual (jP st) (gG st) (ao st) .none kV doc pm an cdv ct) %[us|[]]=pure (ps.zip us)):Binds K fd ps []:=by
 erw[oc,od,kV,doc,pm,an,cdv,ct,osl,1,lk,hcd]at F.ex;exact .all (h kV doc pm an cdv ct)
def JD{x qual:Str}{st:Stmt}{f:Addr}{oc:Value}{od an:Option Addr}{osl:Array (Option Value)}{kV doc pm cdv ct:Value}(l:K.lookup f=some %[oc,od,.func (PySem.W.fnOf x qual (jP st) (gG st) (ao st) .none kV doc pm an cdv ct)|osl])
 (c:PySem.W.codeIn K cdv qual=true)(k:PySem.W.keepIn K (.ref f)=true):Fun K x qual st f (PySem.W.fnOf x qual (jP st) (gG st) (ao st) .none kV doc pm an cdv ct):=%[%[oc,od,kV,doc,pm,an,cdv,ct,osl,1,l|c]|k]
end
def Ir(hr:Room k A):A.units+1<cLine:=zJ1 (Nat.add_le_add_left (by decide:1<=64) _) hr.units
def aO{n:Nat}(h:n<=1000):n<sizeLine:=zJ1 h ⋯
section
variable {X:Cx}
def pv(i:Nat){x:Str}{pos:Pos}(hN:X.N[i]?=some x:=by rfl)(hv:Vis X.env.scope x:=by first | exact Or.inl rfl | exact Or.inr (.inl rfl) | exact Or.inr (Or.inr rfl))(hd:(x==("__debug__":Str))=false:=by decide)
 (hcd:(x==("__classdict__":Str))=false:=by decide):PE X (.Name x pos) (tVar i):=Jc hN hv hd hcd
end
def dG{A B:Prop}(h:B):if false=true then A else B:=by
 rw[ND qI0];exact h
def eU{A B:Prop}(h:A):if true=true then A else B:=by
 rw[NE rfl];exact h
def vN{c A B:Prop}[Decidable c](h1:c->A)(h2:¬ c->B):if c then A else B:=by
 by_cases h:c
 . rw[NE h];exact h1 h
 . rw[ND h];exact h2 h
def xc{c A B:Prop}[Decidable c](hc:c)(h:B):if(!decide c)=true then A else B:=by
 rw[zC1 hc];exact dG h
def Same(H H':Hp):Prop:=∀b o,H b=some o->H' b=some o
def Same.refl(H:Hp):Same H H:=λ_ _ h=>h
def Same.trans(a:Same H H1)(b:Same H1 H2):Same H H2:=λc o h=>b c o (a c o h)
def Same.free(e:Same H H'){l:Addr}(h:H' l=Option.none):H l=Option.none:=by
 cases q:H l with
 |none=>rfl
 |some o=>
   rw[e l o q]at h;cases h
end L2
set_option maxHeartbeats 4000000
namespace L2
open PySem PySem.Spec PyProof.Rows
section
variable {X:Cx}
instance rIsi(K:W.Frag)(xs:List V)(H:Hp)(Q:VK):∀x t n b,xs=[x,.ty n]->TyOf K H x t->PySem.W.kitOne K t (.type n)=some b->Q (.bl b) H:=0
def pY:hV X (.builtin "isinstance") (rIsi X.K):=by
 exists 4,xs,us,Q,I,r,h;erw[x,t,n,b,1,ty,e,q]at h;let%[u,w',1,r1|r2]:=HX r;cases r2;exact BO I r1 ty e (λtk=>%[.bl b,H,I.tok tk,1|q])
def EM(K:W.Frag)(n:String):PySem.W.kitOne K (.type n) (.type n)=some true:=by
 unfold PySem.W.kitOne;rw[NE #[2]]
def vJ(K:W.Frag):PySem.W.kitOne K (.type "int") (.type "bool")=some false:=by
 show(if((Value.type "int"==Value.type "bool")=true)then some true else if PySem.W.kitMeta "bool"=true then((fastBuiltinMro "int").map (·.contains (.type "bool")))else none)=some false;decide
def CDivL(_ j:Int):Prop:=0<j/\j<2 ^ 63
def DP:OpR X (binaryOp .FloorDiv) (rI CDivL λi j=>.int (i / j)):=opI λi j _ _ _ _ _ hc q=>by
 let e:Int.fdiv i j=i / j:=jR0 i (Int.le_of_lt hc.1);rw[←e]at q;apply floordiv_int (by have:=hc.1;omega) q (.inl (PyProof.noPylong_of_log2 ?_));let h1:=hc.1;let h2:=hc.2;let h3:j.natAbs<2 ^ 63:=#[0]
 let h4:=(Nat.log2_lt (n:=j.natAbs) (k:=63) #[0]).mpr h3;omega
end
def gA:bootBuiltins "int"=some (.type "int"):=by decide
def zA:bootBuiltins "bool"=some (.type "bool"):=by decide
def jS:bootBuiltins "list"=some (.type "list"):=by decide
def bt:bootBuiltins "tuple"=some (.type "tuple"):=by decide
def kM:bootBuiltins "reversed"=some (.type "reversed"):=by decide
structure Cal(P:Program)(w:World)(K:W.Frag)(mg:#[9])(base:Heap)(n:Nat)(x:Str)(ps:List Str)(sp:Sp):Prop where
 ex:∃(f:Addr)(fd:FuncData),FnOk P w K mg base CX0 n f fd ps sp/\Binds K fd ps []/\PySem.W.keepIn K (.ref f)=true/\mg x=some (.ref f)
def aD{X:Cx}{e:Expr}{es:List Expr}{p pos:Pos}(C:Cal X.prog X.w X.K X.mg X.base n x ps sp)(hr:Room k X.A)(hk:n<=k)(hg:Gl X x)
 (ha:PA X (e::es) t)(hdb:(x==("__debug__":Str))=false:=by decide)(he:starEach (e::es) X.env=(false,eval e X.env)::starEach es X.env:=by rfl)(hpl:(backTo pos (starEach es X.env)).any (·.1)=false:=by rfl):
 PE X (.Call (.Name x p) (e::es) [] pos) (Ib sp [] E0 t):=by
 erw[f,fd,F,b,kp,m]at C.ex;exact GO F (hr.mono hk) hg m kp b .nil bh ha hdb he hpl
def Cal.of{P:Program}{w:World}{K:W.Frag}{mg:#[9]}{base:Heap}{n:Nat}{x qual:Str}{ps:List Str}{sp:Sp}{st:Stmt}{f:Addr}{fd:FuncData}(F:Fun K x qual st f fd)(O:FnOk P w K mg base CX0 n f fd ps sp)(m:mg x=some (.ref f))
 (h:∀(kV doc pm:Value)(an:Option Addr)(cdv ct:Value)(us:List Value),us.length=ps.length->bindArgs (PySem.W.fnOf x qual (jP st) (gG st) (ao st) .none kV doc pm an cdv ct) %[us|[]]=pure (ps.zip us)):Cal P w K mg base n x ps sp:=
 %[f,fd,O,F.binds h,F.kp|m]
def iteN{c A B:Prop}[Decidable c](hc:¬ c)(h:A):if(!decide c)=true then A else B:=by
 rw[zB1 hc];exact eU h
def bd{c A B:Prop}[Decidable c](hc:c)(h:A):if decide c=true then A else B:=by
 rw[zC1 hc];exact eU h
def aF{c A B:Prop}[Decidable c](hc:¬ c)(h:B):if decide c=true then A else B:=by
 rw[zB1 hc];exact dG h
def SameBut(f:Addr)(H H':Hp):Prop:=∀b o,b≠f->H b=some o->H' b=some o
def SameBut.trans(a:SameBut f H H1)(b:SameBut f H1 H2):SameBut f H H2:=λc o h e=>b c o h (a c o h e)
def SameBut.refl(f:Addr)(H:Hp):SameBut f H H:=λ_ _ _ h=>h
def zL0{f:Addr}{H H':Hp}(h:Same H H'):SameBut f H H':=λb o _ e=>h b o e
abbrev SameBut.of:=@zL0
def SameBut.upd(o:HO):SameBut f H (upd H f o):=λb u h e=>by rw[ay h];exact e
def zE0{H:Hp}{p:Addr}(h:H p=none)(o:HO):Same H (upd H p o):=λb u q=>by rw[ay (aP q h)];exact q
abbrev Same.new:=@zE0
def Same.but{f:Addr}(a:Same H0 H)(n:H0 f=none)(b:SameBut f H H'):Same H0 H':=λc o e=>b c o (aP e n) (a c o e)
def FeedAt(H:Hp)(f:Addr):Prop:=∃own st:Int,H f=some (.lst [.int own,.int st])/\0<=own/\0<=st/\st<=2147483646
def FeedAt.ne{b:Addr}(F:FeedAt H f)(h:H b=none):b≠f:=by
 erw[o,s,e,_]at F;intro z;subst z;rw[h]at e;cases e
def FeedAt.same(F:FeedAt H f)(s:Same H H'):FeedAt H' f:=by
 erw[o,t,e,h]at F;erw[o,t,s _ _ e,h]
instance spTake:∀(f:Addr)(m:Int),vs=[.ref f,.int m]->FeedAt H f->0<m->m<2 ^ 63->(∀(d:Int)(H':Hp),0<=d->d<m->FeedAt H' f->SameBut f H H'->Q (.int d) H'):=1
instance spFeed(K:W.Frag):∀(a:Addr)(ns:List Int)(k:Int),vs=[.ref a,.int k]->SqL K H a (ns.map V.int)->ns.length<=63->0<=k->k<1000000->(∀(p:Addr)(H':Hp),H p=none->Same H H'->FeedAt H' p->Q (.ref p) H'):=1
instance spLaw(K:W.Frag):∀(a:Addr)(ns:List Int),vs=[.ref a]->SqL K H a (ns.map V.int)->ns.length<=63->(∀H',Q (.bl true) H'):=1
def small{n:Nat}(h:n<=1000):n<=sizeLine:=wW1 (aO h)
def FE{ns:List Int}{k:Int}(h0:0<=k)(h:k<(ns.length:Int)):∃v:Int,atI (ns.map V.int) k=some (.int v):=by
 let hk:k.toNat<ns.length:=#[0]
 let q:atI (ns.map V.int) ((k.toNat:Nat):Int)=some (.int ns[k.toNat]):=bK (by rw[zW0,zM0 hk] <;> rfl);let ek:((k.toNat:Nat):Int)=k:=#[0]
 rw[ek]at q;erw[_,q]
@[reducible] def gY (X:Cx) (N:List Str) (scope:Scope) (cl:List (Str×Addr)) (s:Shared) (H:Hp) (fp:List Addr):Cx where
 prog:=X.prog
 w:=X.w
 K:=X.K
 mg:=X.mg
 base:=X.base
 A:=X.A
 N:=N
 s₀:=s
 H₀:=H
 env:=compEnvC scope cl ‹s› X.env
 outer:=X.stack
 stack:=X.stack
 ex:=fp
 fn:=λ_=>false
 calm:=X.calm
 pn:=[]
 xe:=λ_ _=>False
structure CompScope(X:Cx)(x:Str)(N:List Str)(ix:List Nat)(scope:Scope)(cl:List (Str×Addr)):Prop where
 clos:closureFor scope X.env=pure cl
 nocell:∀y∈scope.names,y.2≠.cell
 kind:scope.kind=.function
 names:∀y∈scope.names,y.2=.local->scope.names.lookup y.1=some .local
 own:scope.names.lookup x=some .local
 nd:(x::N).Nodup
 sub:∀p∈cl,X.env.cells.lookup p.1=some p.2
 has:((relabel scope X.env).names.all λp=>!(p.2==.cell||p.2==.free)||(cl.lookup p.1).isSome)=true
 outs:∀(j:Nat)(y:Str),N[j]?=some y->(relabel scope X.env).names.lookup y=some .cell/\∃k c,ix[j]?=some k/\X.N[k]?=some y/\cl.lookup y=some c/\X.env.scope.names.lookup y=some .cell
def outs(ix:List Nat)(σ:St):St:=ix.map λk=>(σ[k]?).join
section
variable {X:Cx}{NC:#[7]}{σ:St}{x:Str}{N:List Str}{ix:List Nat}{scope:Scope}{cl:List (Str×Addr)}{fp:List Addr}{H3:Hp}{s3:Shared}
def CompScope.cells(S:CompScope X x N ix scope cl){y:Str}{c:Addr}(h:cl.lookup y=some c):X.env.cells.lookup y=some c:=S.sub _ (zZ1 h)
def vS{M:List Str}(S:CompScope X x N ix scope cl)(I3:#[8] H3 s3)(hf:∀b∈fp,iN X NC H3 b)(NH:∀b∈fp,b<‹s3›):(gY X M scope cl s3 H3 fp).Ok where
 mod:=I3.ok.mod
 kind:=S.kind
 glob:=I3.ok.glob
 blt:=I3.ok.blt
 above:=zH0 _
 inj:=λy z c h1 h2=>I3.ok.inj y z c (S.cells h1) (S.cells h2)
 has:=λy hy=>by
  let q:=List.all_eq_true.mp S.has;let hy:(relabel scope X.env).names.lookup y=some .cell∨(relabel scope X.env).names.lookup y=some .free:=hy;let z:∀k:NameKind,(k==.cell||k==.free)=true->(relabel scope X.env).names.lookup y=some k->∃c,cl.lookup y=some c:=λk hk e=>by
   let r:=q _ (zZ1 e);rw[hk]at r;exact Option.isSome_iff_exists.mp #[r,0]
  rcases hy with e | e
  . exact z _ (by rfl) e
  . exact z _ (by rfl) e
 cab:=λ_ _ h _=>nomatch h
 hd:=I3.ok.hd
 frames:=I3.ok.frames
 stk:=.inl rfl
 exf:=λb hb=>%[zV0 (NH b hb)|λy c e=>(hf b hb).2.2.2.2.1 y c (S.cells e)]
 bs:=λb o e=>I3.bs b o e
 bsz:=zQ0 I3.ok.bsz I3.sz
 noex:=λb o e hb=>by
  rcases(hf b hb).2.2.2.1 with z | z
  . exact I3.ok.noex b o e z
  . exact absurd (qQ0 (zN0 e) (zQ0 I3.ok.bsz z)) (qT0 _)
 exfs:=λb hb z=>by
  rcases zY0 (I3.stkSub b z)with e | e
  . exact(hf b hb).2.1 e
  . exact(hf b hb).2.2.1 e
 funs:=I3.stack
 frf:=I3.stkFree
def sF(pre:List Str)(S:CompScope X x N ix scope cl)(I3:#[8] H3 s3)(hf:∀b∈fp,iN X NC H3 b)(NH:∀b∈fp,b<‹s3›)(hix:ix.length=N.length){h1:Heap}{t':Nat}{m:#[9]}
 (hn:h1.Ns ‹s3› m)(hk:∀b o,s3.heap.get? b=some o->h1.get? b=some o):Inv (gY X (pre++N) scope cl s3 H3 fp) [] (List.replicate pre.length none++outs ix σ) H3 { s3 with heap:=h1,toks:=t' } where
 ok:=vS S I3 hf NH
 os:=rfl
 bare:=I3.bare
 base:=Un.kept hk
 loc:=by
  erw[m,hn,λi y v h1' h2 h3=>?_];let h1'':(pre++N)[i]?=some y:=h1';let h2':(List.replicate pre.length none++outs ix σ)[i]?=some (some v):=h2
  by_cases hi:i<pre.length
  . rw[zR1 (by rw[zV1];exact hi),List.getElem?_replicate,NE hi]at h2';cases h2'
  . let hj:=Nat.le_of_not_lt hi;rw[zL1 hj]at h1'';rw[zL1 (by rw[zV1];exact hj),zV1]at h2';generalize i-pre.length=j at h1'' h2';let%[hr,k,c,e1,e2,e3|e4]:=S.outs j y h1'';unfold outs at h2';rw[zW0,e1]at h2';let h2'':(σ[k]?).join=some v:=zT0 h2';let e5:σ[k]?=some (some v):=by
     cases q:σ[k]? with
     |none=>rw[q]at h2'';cases h2''
     |some o=>rw[q]at h2'';exact congrArg some h2''
    erw[m0,_,hl]at I3.loc;let%[u,r|l]:=hl k y v e2 e5 (.inr (.inl e4));erw[u,r,.inr %[.inl hr,c,e3|6]];rcases l with⟨kk,_⟩ | ⟨_,c',ec,z⟩
    . let kk':X.env.scope.names.lookup y=some .local:=kk;rw[e4]at kk';cases kk'
    . rw[S.cells e3]at ec;cases ec;erw[o,ho,hd]at z;erw[o,hk _ _ ho,hd]
 cell:=λy c e=>by
  let%[v,o,ho|hd]:=I3.cell y c (S.cells e);erw[v,o,hk _ _ ho,hd]
 free:=I3.hok.fresh (zH0 _)
 freeC:=λy c e=>I3.freeC y c (S.cells e)
 pin:=λp hp=>absurd (show p∈([]:#[7])from hp) #[2]
 hok:=I3.hok.kept hk
 len:=by
  show(List.replicate pre.length (none:Option V)++outs ix σ).length=(pre++N).length
  simp [outs,hix]
def ui(I3:#[8] H3 s3)(hf:∀b∈fp,iN X NC H3 b){σ':St}{h'':Heap}{N':List Str}(J:Inv (gY X N' scope cl s3 H3 fp) [] σ' H' s')(hb:Heap.SameBut ‹s3› s'.heap h''):
 #[8] H' { s' with heap:=h'' }:=by
 let ne:∀b o,s3.heap.get? b=some o->b≠‹s3›:=λb o e=>zV0 (zN0 e)
 let B:Un (frs X.stack) fp H3 H' s3.heap s'.heap:=J.base;apply I3.call' (s':={ s' with heap:=h'' }) (ch:=fp) J.os ⟨λb o e n h1 h2=>(hb.2 b (ne b o e)).trans (B.keep b o e n h1 h2),λb o e n h1 h2=>?_,B.free,λb o e h2=>?_,B.tups,B.frzs,B.tbls⟩ (λb ob e=>?_) J.bare (λb z=>?_)
 . let%[sl|q]:=B.slot b o e n h1 h2;erw[sl,(hb.2 b (ne b o e)).trans q]
 . let%[o'|q]:=B.there b o e h2;erw[o',(hb.2 b (ne b o e)).trans q]
 . let fr:H' ‹s3›=none:=J.free;refine(J.hok b ob e).stay (λc w' hc q=>(hb.2 c ?_).trans q) (λ_ q=>q) λ_ _ q=>q
   rintro rfl;rcases hc with rfl | hc
   . rw[fr]at e;cases e
   . rw[fr]at hc;cases hc
 . let%[_,h2,_,h4,h5|h6]:=hf b z;erw[h4,h2,h5,h6]
end
abbrev TBl:=St->Hp->(Hp->Prop)->VK->Prop
def PB(X:Cx)(ifs:List Expr)(elt:Expr)(tb:TBl):Prop:=
 ∀(NC:#[7])(s:Shared)(σ:St)(H:Hp)(skip:Hp->Prop)(keep:VK),#[8] H s->tb σ H skip keep ->
  ‹X.w› (forIn ifs true λc r=>if r=true then do let ok ←isTrue c X.env (eval c X.env);pure (ForInStep.yield ok)else pure (ForInStep.yield r))
   (λok s3=>if ok=true then ‹X.w› (eval elt X.env) (EP X NC σ keep) X.xe s3 else ∃H',#[8] H' s3/\skip H') X.xe s
def tB0(te:TE):TBl:=λσ H _ keep=>te σ H keep
def tB1(tc:TT)(te:TE):TBl:=λσ H skip keep=>tc σ H λb H1=>if b=true then te σ H1 keep else skip H1
def cE(he:PE X elt te):PB X [] elt (tB0 te):=by
 exists 4,skip,keep,I,h;apply wpAny_tests_nil ?_;rw[NE rfl];exact he NC s σ H keep I h
def Ii(hc:PT X c tc)(he:PE X elt te):PB X [c] elt (tB1 tc te):=by
 exists 4,skip,keep,I,h;apply wpAny_tests_one (thn (hc NC s σ H _ I h) λb s1 ⟨H1,I1,q1⟩=>?_);cases b with
 |true=>
   rw[NE rfl]at q1 ⊢;exact he NC s1 σ H1 keep I1 q1
 |false=>
   rw[ND ⋯]at q1 ⊢;erw[H1,I1,q1]
def sM(J:It)(D:Addr)(ix:List Nat)(tb:TBl)(σ:St)(H:Hp)(Q:VK):Prop:=∃W:Nat->Nat->Hp->Prop,(∃m,W 0 m (upd H D (.lst [])))/\∀i m H2,W i m H2 ->
 (J.stop i H2/\Q (.ref D) H2)∨(J.go i H2/\∀y H3,J.yld i H2 y H3->tb (some y::outs ix σ) H3 (λH4=>∃m',m'<m/\W (i+1) m' H4)
  λz H4=>∃ys,H4 D=some (.lst ys)/\ys.length<sizeLine/\∃m',m'<m/\W (i+1) m' (upd H4 D (.lst (ys++[z]))))
def xV(wi:TI)(ix:List Nat)(tb:TBl):TE:=λσ H Q=>wi σ H λJ H1=>∀D,H1 D=none->sM J D ix tb σ H1 Q
section
variable {prog:Program}{w:World}{A:Around}{E:#[6]}{R:Result->Shared->Prop}{s:Shared}
def xC{elt target iter:Expr}{ifs:List Expr}{scope:Scope}{pos:Pos}{it acc:Value}{env:Env}(I:Nat->Shared->Prop)
 (turn:∀n s,I n s->‹w.A› (pyNext it) (λr s1=>match r with
  |none=>R (.ok .next) s1
  |some v=>‹w.A› (letOwnedTupleGo target it v) (λ_ s1'=>‹w.A› (assign target env v) (λ_ s2=>
   ‹w.A› (forIn ifs true λc r=>if r=true then do let ok ←isTrue c env (eval c env);pure (ForInStep.yield ok)else pure (ForInStep.yield r)) (λok s3=>
    if ok=true then ‹w.A› (eval elt env) (λx s4=>
     ‹w.A› (call (.builtin "list.append") [acc,x]) (λ_ s5=>∃m,m<n/\I m s5) (λ_ _=>False) s4) (λ_ _=>False) s3
    else ∃m,m<n/\I m s3) (λ_ _=>False) s2) (λ_ _=>False) s1') (λ_ _=>False) s1) (λ_ _=>False) s)
 (n:Nat) (h:I n s) :
 codeAny (model prog w) A (.compLoop (.ListComp elt [%[target,iter,ifs|(0)]] scope pos) 0 it acc env) R s:=by
 let up:∀{α:Type}{t:Sem α}{Q Q':α->Shared->Prop}{E':#[6]}{s:Shared},‹w.A› t Q (λ_ _=>False) s->(∀a s,Q a s->Q' a s)->‹w.A› t Q' E' s:=
  λh q=>jP0 h q λ_ _ f=>f.elim
 apply codeAny_loop rfl I (λn s hI=>?_) n h;show wpAny _ A ((compTurn (.ListComp elt [%[target,iter,ifs|(0)]] scope pos) 0 it acc env).onRaise (λx=>do noteFrame x env;theTreesLotGoes x)) _ _ s;apply wpAny_noted ?_;rw[compTurn_list];apply zD0 (wpAny_standAt (zD0 (up (turn n s hI) λr s1 h1=>?_)));cases r with
 |none=>exact zI0 h1
 |some v=>
   apply zD0 (up h1 λ_ s1' h1'=>?_);apply zD0 (up h1' λ_ s2 h2=>zD0 (up h2 λok s3 h3=>?_));cases ok with
   |false=>exact zI0 %[1|h3]
   |true=>
     exact zD0 (zD0 (up h3 λx s4 h4=>zD0 (up h4 λ_ s5 h5=>zI0 (zI0 %[1|h5]))))
end
def pe{Y:Cx}{iter:Expr}{scope:Scope}{pos:Pos}{D:Addr}{R:Result->Shared->Prop}{Pf:St->Prop}{W:Nat->Nat->Hp->Prop}{σ0:St}{m0:Nat}
 (hc:Y.calm=true)(hx:∀v s,Y.xe v s->False)(T:Turn Y.prog Y.w Y.K tgt J fp it tn)(hg:PG Y tgt g)(hb:PB Y ifs elt tb)(stat:∀{H':Hp},(∀b∈fp,H' b=none)->∀b∈fp,iN Y [] H' b)
 (turn:∀i m H2,W i m H2->(J.stop i H2/\∀ σ' s',Pf σ'->Inv Y [] σ' H2 s'->R (.ok .next) s')∨(J.go i H2/\∀y H3,J.yld i H2 y H3->∀ σ',Pf σ'->g y σ' H3 λσ8 H8=>Pf σ8/\tb σ8 H8 (λH4=>∃m',m'<m/\W (i+1) m' H4)
  λz H4=>∃ys,H4 D=some (.lst ys)/\ys.length<sizeLine/\∃m',m'<m/\W (i+1) m' (upd H4 D (.lst (ys++[z])))))
 (p0:Pf σ0) (I0:Inv Y [] σ0 H0 s0) (st0:tn 0 s0.heap) (f0:∀b∈fp,H0 b=none) (w0:W 0 m0 H0) :
 codeAny (model Y.prog Y.w) Y.A (.compLoop (.ListComp elt [%[tgt,iter,ifs|(0)]] scope pos) 0 (.ref it) (.ref D) Y.env) R s0:=by
 apply xC (λn s'=>∃i σ' H',Pf σ'/\Inv Y [] σ' H' s'/\tn i s'.heap/\(∀b∈fp,H' b=none)/\W i n H') ?_ m0 %[(0),_,_,p0,I0,st0,f0|w0];rintro n s5 ⟨i,σ5,H5,p5,I5,st5,fr5,w5⟩;rcases turn i n H5 w5 with⟨stop,qn⟩ | ⟨go,step⟩
 . apply thn (T.done Y rfl rfl rfl hc i [] s5 _ H5 _ I5 (stat fr5) st5 stop) λr s6 ⟨hr,I6⟩=>?_
   subst hr;exact qn _ _ p5 I6
 . apply thn (T.item Y rfl rfl rfl hc i [] s5 _ H5 _ I5 (stat fr5) st5 go) λr s6 ⟨u,hr,h6⟩=>?_
   subst hr;apply thn h6 λ_ s7 ⟨y,H7,I7,r7,y7,st7,fr7⟩=>?_
   apply jP0 (hg _ s7 _ H7 y u _ (I7.pinned (stat fr7) (T.obj _ _ st7)) r7 (step y H7 y7 _ p5)) (λ_ s8 ⟨σ8,H8,I8,p8,q8⟩=>?_) hx;let again:∀{H9:Hp}{s9:Shared},Inv Y ([]++rG fp s7.heap) σ8 H9 s9->(∃m',m'<n/\W (i+1) m' H9) ->
    ∃m,m<n/\∃i σ' H',Pf σ'/\Inv Y [] σ' H' s9/\tn i s9.heap/\(∀b∈fp,H' b=none)/\W i m H':=fun{H9 s9} I9 ⟨m',hm,w9⟩=>by
    erw[m',hm,i+1,_,H9,p8,I9.unpinned,T.keep _ _ _ st7 λb hb o e=>(I9.pin (b,o) (qV0 _ (qV0 _ (jL hb e)))).1,λb hb=>?_,w9];let%[o,e|d]:=T.obj _ _ st7 b hb;exact(I9.pin (b,o) (qV0 _ (qV0 _ (jL hb e)))).2.1
   apply jP0 (hb _ s8 _ _ _ _ I8 q8) (λok s9 q9=>?_) hx;cases ok with
   |false=>
     rw[ND ⋯]at q9 ⊢;erw[H9,I9,q9]at q9;exact again I9 q9
   |true=>
     rw[NE rfl]at q9 ⊢;apply jP0 q9 (λu s10 ⟨z,H10,I10,r10,ys,hy,hz,q10⟩=>?_) hx;apply jP0 (cP _ s10 _ H10 (.ref D) [z] (.ref D) [u] (λ_ H'=>∃m',m'<n/\W (i+1) m' H') I10 rfl (.cons r10 .nil) %[_,ys,z,1,1,hy,hz|q10]) (λ_ s11 ⟨_,H11,I11,_,q11⟩=>?_) hx;exact again I11 q11
structure Apart(X:Cx)(NC:#[7])(H:Hp)(C:Addr):Prop where
 fr:H C=none
 lo:C≠X.env.locals
 sz:X.s₀.heap.objs.size<=C
 ce:∀y c,X.env.cells.lookup y=some c->c≠C
 pi:∀p∈X.pn++NC,p.1≠C
def Apart.turn{σ:St}{h':Heap}(a:Apart X NC H C)(I:#[8] H s)(hs:Heap.SameBut C s.heap h'):#[8] H { s with heap:=h' }:=
 I.turned (t':=s.toks) (λb o ne e=>(hs.2 b ne).trans e) a.fr a.lo (.inr a.sz) a.ce a.pi
section
variable {X:Cx}{x:Str}{N:List Str}{ix:List Nat}{scope:Scope}{cl:List (Str×Addr)}{elt iter:Expr}{ifs:List Expr}{px pos:Pos}{wi:TI}{tb:TBl}
def xz(hc:X.calm=true)(S:CompScope X x N ix scope cl)(hix:ix.length=N.length)(hb:∀s3 H3 fp,PB (gY X (x::N) scope cl s3 H3 fp) ifs elt tb)
 {σ:St}{Q:VK}{fp:List Addr}{RR:Value->Addr->Result->Shared->Prop}{E:#[6]}
 (I2:#[8] H2 s2)(T:Turn X.prog X.w X.K (.Name x px) J fp it tn)(st2:tn 0 s2.heap)(f2:∀b∈fp,iN X NC H2 b)
 (h:∀D,H2 D=none->∃W:Nat->Nat->Hp->Prop,(∃m,W 0 m (upd H2 D (.lst [])))/\∀i m H3,W i m H3 ->
  (J.stop i H3/\Q (.ref D) H3)∨(J.go i H3/\∀y H4,J.yld i H3 y H4->tb (some y::outs ix σ) H4 (λH5=>∃m',m'<m/\W (i+1) m' H5)
   λz H5=>∃ys,H5 D=some (.lst ys)/\ys.length<sizeLine/\∃m',m'<m/\W (i+1) m' (upd H5 D (.lst (ys++[z])))))
 (hRR:∀(D C:Addr)(H':Hp)(s':Shared)(m:#[9]),s'.heap.Ns C m->Apart X NC H' C->#[8] H' s'->Q (.ref D) H'->RR (.ref D) C (.ok .next) s') :
 ‹X.w› (newList []) (λacc s3=>‹X.w› (newFunctionEnv scope X.env.globals cl [] X.env.qual none .none (some X.env)) (λcenv s4=>
  codeAny (model X.prog X.w) X.A (.compStart (.ListComp elt [%[.Name x px,iter,ifs|(0)]] scope pos) 0 (.ref it) acc { cenv with scope:=relabel scope X.env }) (RR acc cenv.locals) s4) E s3) E s2:=by
 apply zO1 (wpAny_newFunctionEnv S.nocell (by intro y hy;simp at hy) (λh1 hns1 hsb1=>?_) S.kind)
 dsimp only at hns1 hsb1 ⊢
 let I3:#[8] (upd H2 ‹s2› (.lst [])) { s2 with heap:=s2.heap.push { cls:=.type "list",dict:=none,data:=.seq ([]:List Value).toArray } }:=I2.lnew (its:=[]) (ys:=[]) (t':=s2.toks) .nil (zU0 _);let hD:H2 ‹s2›=none:=I2.fresh;let%[W,%[m0|w0]|turn]:=h ‹s2› hD;let hltF:∀b∈fp,b<‹s2›:=λb hb=>by
  let%[o,e|_]:=T.obj 0 _ st2 b hb;exact zN0 e
 generalize hs3:({ s2 with heap:=s2.heap.push { cls:=.type "list",dict:=none,data:=.seq ([]:List Value).toArray } }:Shared)=s3 at I3;let eh:s2.heap.push { cls:=.type "list",dict:=none,data:=.seq ([]:List Value).toArray }=s3.heap:=by rw[←hs3]
 let et:s2.toks=s3.toks:=by rw[←hs3]
 rw[eh]at hns1 hsb1 ⊢;let sz3:‹s3›=‹s2›+1:=by rw[←eh,jC1]
 let hlt3:∀b∈fp,b<‹s3›:=λb hb=>qQ0 (hltF b hb) (by rw[sz3];exact qN0 _)
 let f3:∀b∈fp,iN X NC (upd H2 ‹s2› (.lst [])) b:=λb hb=>by
  let%[q1|q2]:=f2 b hb;erw[by rw[ay (zV0 (hltF b hb))];exact q1,q2]
 let up:∀b o,s3.heap.get? b=some o->h1.get? b=some o:=λb o e=>hsb1.extBut b o (zV0 (zN0 e)) (zO0 _ e)
 let old:∀b o,s2.heap.get? b=some o->h1.get? b=some o:=λb o e=>up b o (by rw[←eh];exact zO0 _ e)
 let es:({ s2 with heap:=h1,toks:=s2.toks+([]:List (Str×Value)).length }:Shared)={ s3 with heap:=h1,toks:=s2.toks+([]:List (Str×Value)).length }:=by rw[←hs3]
 rw [es];let I4:Inv (gY X (x::N) scope cl s3 (upd H2 ‹s2› (.lst [])) fp) [] (none::outs ix σ) (upd H2 ‹s2› (.lst [])) { s3 with heap:=h1,toks:=s2.toks+([]:List (Str×Value)).length }:=
  sF [x] S I3 f3 hlt3 hix hns1 up
 let st4:tn 0 h1:=T.keep 0 _ _ st2 λb _ o e=>old b o e
 let loop:codeAny (model X.prog X.w) X.A (.compLoop (.ListComp elt [%[.Name x px,iter,ifs|(0)]] scope pos) 0 (.ref it) (.ref ‹s2›) (compEnvC scope cl ‹s3› X.env)) (RR (.ref ‹s2›) ‹s3›)
  { s3 with heap:=h1,toks:=s2.toks+([]:List (Str×Value)).length }:=by
  let k:=vS (M:=x::N) S I3 f3 hlt3;apply pe (Y:=gY X (x::N) scope cl s3 (upd H2 ‹s2› (.lst [])) fp) (Pf:=λσ'=>∃v0,σ'=v0::outs ix σ) hc (λ_ _ z=>z) T (aX (i:=0) S.nd rfl (.inl (qW1 S.own)) (.inr (qW1 S.own))) (hb _ _ _) (λhn b hb=>%[hn b hb,(k.exf b hb).1,k.exfs b hb,.inl hb,(k.exf b hb).2|λp hp=>absurd (show p∈([]:#[7])from hp) #[2]]) (λi m H5 w5=>(turn i m H5 w5).imp (fun⟨stop,qn⟩=>%[stop|λσ' s6 _ I6=>?_]) (fun⟨go,step⟩=>⟨go,λy H3 y7 σ' ⟨v0,e⟩=>by
   subst e;erw[%[|0],step y H3 y7]⟩)) ⟨none,rfl⟩ I4 st4 (λb hb=>(f3 b hb).1) w0
  erw[m6,hn6,_]at I6.loc;exact hRR _ _ H5 s6 m6 hn6 ⟨I6.free,Ne.symm (zV0 I3.lt),I3.sz,λy c e z=>by
   let%[v|q]:=I3.cell y c e;exact absurd q.lt (by rw[z];exact qT0 _),λp hp z=>absurd (zN0 (I3.pin p hp).1) (by rw[z];exact qT0 _)⟩ (ui I3 f3 I6 (Heap.SameBut.refl _ _)) qn
 exact wB1 loop (T.self _ 0 _ _ _ st4 loop)
def cH(hc:X.calm=true)(S:CompScope X x N ix scope cl)(hix:ix.length=N.length)(hi:PI X (.Name x px) iter wi)(hb:∀s3 H3 fp,PB (gY X (x::N) scope cl s3 H3 fp) ifs elt tb)
 (hs:∀x,foldedSetIterable iter X.env x=pure x:=by intro _;rfl):PE X (.ListComp elt [%[.Name x px,iter,ifs|(0)]] scope pos) (xV wi ix tb):=by
 exists 4,Q,I,h;rw[eval_ListComp];apply jE0 (use:=none) rfl hs S.clos S.kind S.names (thn (hi NC s σ H _ I h) λxv s1 h1=>thn h1 λitv s2 h2=>?_);erw[it,fp,tn,J,H2,1,I2,T,st2,f2,R]at h2;apply xz hc S hix hb (RR:=λacc C=>compPost (model X.prog X.w) X.A X.xe none (EP X NC σ Q) acc C) I2 T st2 f2 R ?_;intro D C H' s' m hn ap I' q;erw[m,hn,λh'' hb''=>%[.ref D,H',ap.turn I' hb'',1|q]]
def nn{i:Nat}{y:Str}{py spos:Pos}(hN:X.N.Nodup)(hi0:X.N[i]?=some y)(hx:Loc X.env.scope y)(hc:X.calm=true)(S:CompScope X x N ix scope cl)(hix:ix.length=N.length)(hi:PI X (.Name x px) iter wi)(hb:∀s3 H3 fp,PB (gY X (x::N) scope cl s3 H3 fp) ifs elt tb)
 (hsw:swapsWith (.ListComp elt [%[.Name x px,iter,ifs|(0)]] scope pos) (some (.Name y py)) spos.line X.env=pure true:=by rfl')
 (hs:∀x,foldedSetIterable iter X.env x=pure x:=by intro _;rfl)(hf:X.fn y=true∨X.env.scope.names.lookup y=some .local:=by first | exact .inl rfl | exact .inr rfl | assumption):
 PS X (.Assign [.Name y py] (.ListComp elt [%[.Name x px,iter,ifs|(0)]] scope pos) spos) (λD σ H=>xV wi ix tb σ H λv H'=>D.nx (σ.set i (some v)) H'):=by
 exists 4,Dn,I,h;rw[exec_Assign_Name_used _ _ _ _ hsw];apply zD0 (wpAny_standAt (zD0 ?_));show wpAny _ X.A (do let _ ←comprehension (.ListComp elt [%[.Name x px,iter,ifs|(0)]] scope pos) scope X.env _ (newList []) false (eval iter X.env) (some (assign (.Name y py) X.env))) _ _ s;apply zD0 (jP0 (jE0 (use:=some (assign (.Name y py) X.env)) (Q:=λ_ s'=>SP X NC Dn .next s') rfl hs S.clos S.kind S.names
  (thn (hi NC s σ H _ I h) λxv s1 h1=>thn h1 λitv s2 h2=>?_)) (λ_ s' hq=>zI0 (zI0 hq)) λ_ _ e=>e)
 erw[it,fp,tn,J,H2,1,I2,T,st2,f2,R]at h2;apply xz hc S hix hb (RR:=λacc C=>compPost (model X.prog X.w) X.A X.xe (some (assign (.Name y py) X.env)) (λ_ s'=>SP X NC Dn .next s') acc C) (Q:=λv H'=>Dn.nx (σ.set i (some v)) H') I2 T st2 f2 R ?_;intro D C H' s' m hn ap I' q;show wpAny _ X.A (assign (.Name y py) X.env (.ref D)) _ _ _;apply wpAny_assign_Name (tI I' hN hi0 hx (v:=.ref D) rfl (λs'' I'' hsb=>?_) hf);erw[a,hsb,ha]at hsb;let ne:C≠a:=by
  rcases ha with z | z
  . rw[z];exact ap.lo
  . exact Ne.symm (ap.ce y a z)
 erw[m,hn.sameBut hsb ne,λh'' hb''=>%[_,H',ap.turn I'' hb''|q]]
end
section
variable {X:Cx}{NC:#[7]}{σ:St}{H:Hp}{s:Shared}{h':Heap}
def Inv.turnedNew{t':Nat}{ch:List Addr}{T:Addr}(I:#[8] H s)(k:∀b u,b∉ch->s.heap.get? b=some u->h'.get? b=some u)(hf:∀b∈ch,iN X NC H b)(hT:‹s›<=T)
 (new:ObjOk X.prog X.w (upd H T o) h' T o):#[8] (upd H T o) { s with heap:=h',toks:=t' }:=by
 let nit:∀b u,H b=some u->b∉ch:=λb u e z=>by rw[(hf b z).1]at e;cases e
 let hn:H T=none:=I.hok.fresh hT;let lt:∀b u,s.heap.get? b=some u->b≠T:=λb u e=>zV0 (qQ0 (zN0 e) hT)
 apply I.step (g':=s.gens) (d':=s.drawn) (ch:=ch) (λb hb=>?_) (λb u _ _ hc e _=>k b u hc e) (λb u _ _ hc e _=>%[u.slots|k b u hc e]) (λb u _ e n=>by rw[ay (lt b u e)];exact n) (λb u hc e=>%[u|k b u hc e])
  (λb xs e=>by rw[ay (aP e hn)];exact e) (λb ob u e=>by rw[ay (aP e hn)];exact e) (λb ps e=>%[#[]|by rw[ay (aP e hn),e];simp]) (λm hm=>?_) (λb u e=>?_) I.bare
 . let%[_,h2,_,h4,h5|h6]:=hf b hb;erw[h4,h2,h5,h6]
 . erw[ob,es,ep,ho,r]at hm;erw[ob,es,ep,k _ ob (λz=>(hf _ z).2.1 rfl) ho,r]
 . by_cases hb:b=T
   . subst hb;rw[ai]at e;cases e;exact new
   . rw [ay hb]at e;refine(I.hok b u e).stay (λc v hc q=>k c v ?_ q) (λc q=>by rw[ay (aP q hn)];exact q) λc xs q=>by rw[ay (aP q hn)];exact q
     rcases hc with z | z
     . rw[z];exact nit b u e
     . exact nit c _ z
def Inv.turnedL{t':Nat}{ch:List Addr}(I:#[8] H s)(k:∀b u,b∉ch->s.heap.get? b=some u->h'.get? b=some u)(hf:∀b∈ch,iN X NC H b):#[8] H { s with heap:=h',toks:=t' }:=by
 let nit:∀b u,H b=some u->b∉ch:=λb u e z=>by rw[(hf b z).1]at e;cases e
 apply I.step (g':=s.gens) (d':=s.drawn) (ch:=ch) (λb hb=>?_) (λb u _ _ hc e _=>k b u hc e) (λb u _ _ hc e _=>%[u.slots|k b u hc e]) (λ_ _ _ _ n=>n) (λb u hc e=>%[u|k b u hc e])
  (λ_ _ e=>e) (λ_ _ _ e=>e) (λb ps e=>%[#[]|by rw[e];simp]) (λm hm=>?_) (λb u e=>?_) I.bare
 . let%[_,h2,_,h4,h5|h6]:=hf b hb;erw[h4,h2,h5,h6]
 . erw[ob,es,ep,ho,r]at hm;erw[ob,es,ep,k _ ob (λz=>(hf _ z).2.1 rfl) ho,r]
 . apply (I.hok b u e).stay (λc v hc q=>k c v ?_ q) (λ_ q=>q) λ_ _ q=>q
   rcases hc with z | z
   . rw[z];exact nit b u e
   . exact nit c _ z
end
def Ite(K:W.Frag)(a:Addr):It:=
 ⟨λi H=>∃xs x,SqL K H a xs/\xs[i]?=some x,λi H y H'=>∃t,y=.ref t/\H t=none/\∀xs x,SqL K H a xs->xs[i]?=some x->H'=upd H t (.tup [.int i,x]),λi H=>∃xs,SqL K H a xs/\xs.length<=i⟩
def AH{K:W.Frag}{elts:List Expr}{k:Nat}{pos:Pos}(a e it:Addr)(hei:e≠it):
 Turn P w K (.Tuple elts k pos) (Ite K a) [e,it] e (λi h=>(∃old,IsEnum h e it i old)/\h.IsListIter it a i) where
 mem:=by simp
 obj:=λi h st b hb=>by
  erw[%[old|he],o,e2,c,d]at st;rcases zY0 hb with z | z
  . subst z;erw[_,he,λv z=>nomatch z]
  . let z':=NK z;subst z';erw[o,e2,λv z=>by rw[d]at z;cases z]
 keep:=λi h h' st k=>by
  erw[%[old|he],hit]at st;erw[%[old|k e #[2] _ he],hit.at λo x=>k it #[2] o x]
 item:=by
  exists 5;erw[xs,x,hq,hx]at hg;let%[its,rv,p|hz]:=I.list hq;let%[u,hu|ru]:=rv.get hx;erw[%[old|he],hit]at st;apply wpAny_pyNext_enum_item he hit p.isList (x:=u) #[hu,0] hei λh1 ho hit1 hT hsz hk=>?_
  erw[0,wpAny_letOwnedTupleGo_enum ho λh2 he2 hs2=>?_];let elt:e<‹s›:=zN0 he;let hT2:h2.get? ‹s›=some { cls:=.type "tuple",data:=.seq #[.int i s.toks,u] }:=(hs2.2 _ (Ne.symm (zV0 elt))).trans hT;let I2:#[8] (upd H ‹s› (.tup [.int i,x])) { s with heap:=h2,toks:=s.toks+1 }:=by
   apply I.turnedNew (ch:=[e,it]) (λb ob hb eb=>?_) hf (zH0 _) %[by show 2<=sizeLine;decide,[.int i s.toks,u],.cons %[|0] (.cons ru .nil),%[_,hT2,1|0],_,hT2|1];let b1:b≠e:=λz=>hb (by simp [z])
   let b2:b≠it:=λz=>hb (by simp [z])
   exact(hs2.2 b b1).trans (hk b ob b1 b2 eb)
  erw[.ref ‹s›,_,I2,1,%[0,I.hok.fresh (zH0 _)|λys y hy hyi=>?_],%[%[u|by simpa using he2]|hit1.at λo z=>(hs2.2 it (Ne.symm hei)).trans z],λb hb=>?_]
  . let e1:=I.list_inj hy hq;subst e1;rw[hx]at hyi;cases hyi;rfl
  . let z:=hf b hb;let NH:b<‹s›:=by
     rcases zY0 hb with y | y
     . rw[y];exact elt
     . rw[NK y];erw[o,e2,_]at hit;exact zN0 e2
    rw[ay (zV0 NH)];exact z.1
 done:=by
  exists 5;erw[xs,hq,hx]at hg;let%[its,rv,p|hz]:=I.list hq;erw[%[old|he],hit]at st;let hl:=rv.length;exact wpAny_pyNext_enum_end (I.ok.hd hc) he hit p.isList (Array.getElem?_eq_none (by simp;omega)) λh' eb=>%[1|I.turnedL (t':=s.toks) (ch:=[e,it]) (λb o hb eo=>eb b o (λz=>hb (by simp [z])) eo) hf]
 self:=λ_ _ _ _ _ st h=>by
  erw[%[old|he],_]at st;exact wC1 he h
section
variable {X:Cx}{elts:List Expr}{k:Nat}{tpos:Pos}
instance ZiEnum(K:W.Frag)(R:(It->Hp->Prop))(x:V)(H1:Hp):∀a,x=.ref a->(∃xs,SqL K H1 a xs)->R (Ite K a) H1:=0
def iEnum(K:W.Frag)(tl:TE):TI:=λσ H R=>tl σ H λx H1=>ZiEnum K R x H1
def GN{p pos:Pos}(hg:Gl X "enumerate")(hm:X.mg "enumerate"=none)(hl:PE X l tl)(hs:starEach [l] X.env=[(false,eval l X.env)]:=by rfl):
 PI X (.Tuple elts k tpos) (.Call (.Name "enumerate" p) [l] [] pos) (iEnum X.K tl):=by
 exists 4,R,I,h;apply Call_ (gr I hg hm boot_enumerate (zK1 ?_ hs rfl));rw[hs];show wpAny _ _ (spliced ((false,eval l X.env)::backTo pos (starEach [] X.env))) _ _ s;apply qI1 (thn (hl NC s σ H _ I h) λu s1 ⟨x,H1,I1,r1,a,ex,⟨xs,hq⟩,q⟩=>?_);subst ex;cases r1;let%[its,rv,p|hz]:=I1.list hq;apply qY0 ?_;apply call_enumerate_list p.isList λh' he hit hsz hk=>?_
 apply wC1 he ?_;let I2:#[8] H1 { s1 with heap:=h' }:=I1.kept (t':=s1.toks) hk;erw[‹s1›+1,[‹s1›+1,‹s1›],_,_,H1,1,I2,AH a _ _ (jU0 (qM1 _)),%[%[_|he]|hit],λb hb=>?_,q];rcases zY0 hb with z | z
 . rw[z];exact I1.fpOk (qN0 _) (I1.hok.fresh (qN0 _))
 . rw[NK z];exact I1.fpOk (zH0 _) (I1.hok.fresh (zH0 _))
end
def Fd{K:W.Frag}{xs:List V}{g:TG}{tb:TS}{D:Ends}{σ:St}{H:Hp}(Pv:Nat->St->Hp->Prop)(h0:Pv 0 σ H)(hl:∀i σ H,i<=xs.length->Pv i σ H->SqL K H a xs)
 (hs:∀i x σ H t,xs[i]?=some x->Pv i σ H->H t=none->g (.ref t) σ (upd H t (.tup [.int i,x])) λσ2 H2=>tb { D with nx:=Pv (i+1),ct:=Pv (i+1),bk:=D.nx } σ2 H2)(hd:∀ σ H,Pv xs.length σ H->D.nx σ H):
 ∃ W:Nat->Nat->St->Hp->Prop,(∃m,W 0 m σ H)/\∀i m σ H,W i m σ H ->
  ((Ite K a).stop i H/\D.nx σ H)∨((Ite K a).go i H/\∃N:St->Hp->Prop,(∀ σ' H',N σ' H'->∃m',m'<m/\W (i+1) m' σ' H')/\∀x H',(Ite K a).yld i H x H'->g x σ H' λσ2 H2=>tb { D with nx:=N,ct:=N,bk:=D.nx } σ2 H2):=by
 erw[λi m σ H=>m=xs.length-i/\i<=xs.length/\Pv i σ H,%[xs.length,by simp,zU0 _|h0],6];rintro i m σ H ⟨rfl,hi,p⟩;let q:=hl i σ H hi p
 by_cases NH:i<xs.length
 . refine .inr %[%[xs,xs[i],q|by simp [NH]],Pv (i+1),λσ' H' p'=>%[xs.length-(i+1),3,1,NH|p']|λx H' y=>?_];erw[t,1,ht,e]at y;let e':=e xs xs[i] q (by simp [NH]);subst e';exact hs i xs[i] σ H t (by simp [NH]) p ht
 . let e:i=xs.length:=#[0]
   subst e;exact .inl %[%[xs,q|zH0 _]|hd σ H p]
mutual
inductive Rep(K:W.Frag)(H:Hp):V->PyData->Prop
 |non:Rep K H .non .none
 |bl (b:Bool):Rep K H (.bl b) (.bool b)
 |int (i:Int):Rep K H (.int i) (.int i)
 |str (x:Str):Rep K H (.str x) (.str x)
 |tup {a:Addr} {xs:List V} {ds:List PyData}:SqT K H a xs->RepAll K H xs ds->Rep K H (.ref a) (.tuple ds)
 |lst {a:Addr} {xs:List V} {ds:List PyData}:SqL K H a xs->RepAll K H xs ds->Rep K H (.ref a) (.list ds)
inductive RepAll(K:W.Frag)(H:Hp):List V->List PyData->Prop
 |nil:RepAll K H [] []
 |cons {x:V} {d:PyData} {xs:List V} {ds:List PyData}:Rep K H x d->RepAll K H xs ds->RepAll K H (x::xs) (d::ds)
end
section
variable {X:Cx}{NC:#[7]}{σ:St}{H:Hp}{s:Shared}
mutual
def Rep.reads(I:#[8] H s):∀{x:V}{d:PyData}{v:Value},Rep X.K H x d->RelV x v->∃as,Reads s.heap v d as
 |_,_,v,.non,r=>by cases(show v=Value.none from r);erw[_,Reads.none]
 |_,_,v,.bl b,r=>by cases(show v=Value.bool b from r);erw[_,Reads.bool b]
 |_,_,v,.int i,r=>by let%[t|e]:=(show ∃t,v=Value.int i t from r);cases e;erw[_,Reads.int i t]
 |_,_,v,.str x,r=>by let%[t|e]:=(show ∃t,v=Value.str x t from r);cases e;erw[_,Reads.str x t]
 |_,_,v,.tup (a:=a) h q,r=>by
   cases(show v=Value.ref a from r);let%[its,rv,%[o,ho,hc,n|hd]|_]:=I.tuple h;let%[as|z]:=RepAll.reads I q rv;erw[_,reads_tuple_at ho hc hd #[z,0]]
 |_,_,v,.lst (a:=a) h q,r=>by
   cases(show v=Value.ref a from r);let%[its,rv,%[o,n,ho,hc,_|hd]|_]:=I.list h;let%[as|z]:=RepAll.reads I q rv;erw[_,reads_list_at ho hc hd #[z,0]]
def RepAll.reads(I:#[8] H s):∀{xs:List V}{ds:List PyData}{vs:List Value},RepAll X.K H xs ds->Vals xs vs->∃as,ReadsAll s.heap vs ds as
 |_,_,_,.nil,.nil=>%[_|ReadsAll.nil]
 |_,_,_,.cons h q,.cons r rs=>by
   let%[as|z]:=Rep.reads I h r;let%[bs|y]:=RepAll.reads I q rs;erw[_,ReadsAll.cons z y]
end
end
def ng{K:W.Frag}:∀ns:List Int,RepAll K H (ns.map V.int) (ns.map PyData.int)
 | []=>.nil
 |n::r=>.cons (.int n) (ng r)
section
variable {X:Cx}
instance rEqD(K:W.Frag)(x:V)(y:V)(H:Hp)(Q:VK):∀d e,Rep K H x d->Rep K H y e->SeqAt.shaped d=true->SeqAt.shaped e=true->Q (.bl (PyData.eqv d e)) H:=0
instance rNeD(K:W.Frag)(x:V)(y:V)(H:Hp)(Q:VK):∀d e,Rep K H x d->Rep K H y e->SeqAt.shaped d=true->SeqAt.shaped e=true->Q (.bl (!PyData.eqv d e)) H:=0
def rN(hu:X.A.units+64<cLine):OpR X (compareOp .Eq) (rEqD X.K):=by
 exists 4,x,y,v,u,Q,I,rx,ry,h;erw[d,e,hd,he,sd,se,q]at h;let%[as|r1]:=Rep.reads I hd rx;let%[bs|r2]:=Rep.reads I he ry;exact eq_dataH r1 r2 sd se hu %[.bl _,H,I,1|q]
def Jh(hu:X.A.units+64<cLine):OpR X (compareOp .NotEq) (rNeD X.K):=by
 exists 4,x,y,v,u,Q,I,rx,ry,h;erw[d,e,hd,he,sd,se,q]at h;let%[as|r1]:=Rep.reads I hd rx;let%[bs|r2]:=Rep.reads I he ry;exact ne_dataH r1 r2 sd se hu %[.bl _,H,I,1|q]
instance rCatT0(K:W.Frag)(x:V)(y:V)(H:Hp)(Q:VK):∀a b ys,x=.ref a->y=.ref b->SqT K H a []->SqT K H b ys->Q (.ref b) H:=0
def nJ:OpR X (binaryOp .Add) (rCatT0 X.K):=by
 exists 4,x,y,v,u,Q,I,rx,ry,h;erw[a,b,ys,1,1,ha,hb,q]at h;cases rx;cases ry;let%[its,r1,p1|_]:=I.tuple ha;let%[its2,r2,p2|_]:=I.tuple hb;let%[%[cls,dd,data|sl],ho,hc,n|hd]:=id p1;let%[%[cls2,dd2,data2|sl2],ho2,hc2,n2|hd2]:=id p2;simp only at hc hd hc2 hd2;subst hc hd hc2 hd2;let e:its=[]:=r1.nil_iff.mpr rfl;exact concat_meets %[_,ho|1] ⟨_,ho2,rfl⟩ vH1 seq_tuple_add wB0 jX1 (jU1 _ _)
  (tuple_addW0 a b its.toArray its2.toArray n n2 dd dd2 sl sl2 (by simp [e])) %[ho,ho2|%[.ref b,H,I,1|q]]
end
def Nx(n i:Nat)(Pv:Nat->Hp->Prop)(H:Hp):Prop:=∃m',m'<n-i/\(m'=n-(i+1)/\i+1<=n/\Pv (i+1) H)
def Nx.of{n i:Nat}{Pv:Nat->Hp->Prop}{H:Hp}(h:i<n)(p:Pv (i+1) H):Nx n i Pv H:=%[n-(i+1),3,1,h|p]
def eV{K:W.Frag}{xs:List V}{tb:TBl}{Q:VK}(Pv:Nat->Hp->Prop)(h0:Pv 0 (upd H D (.lst [])))(hl:∀i H,i<=xs.length->Pv i H->SqT K H a xs)
 (hs:∀i x H,xs[i]?=some x->Pv i H->tb (some x::outs ix σ) H (Nx xs.length i Pv) λz H'=>∃ys,H' D=some (.lst ys)/\ys.length<sizeLine/\Nx xs.length i Pv (upd H' D (.lst (ys++[z]))))(hd:∀H,Pv xs.length H->Q (.ref D) H):
 sM (Itt K a) D ix tb σ H Q:=by
 erw[λi m H=>m=xs.length-i/\i<=xs.length/\Pv i H,%[xs.length,by simp,zU0 _|h0],6];rintro i m H ⟨rfl,hi,p⟩;let q:=hl i H hi p
 by_cases NH:i<xs.length
 . refine .inr %[%[xs,xs[i],q|by simp [NH]]|λx H' y=>?_];erw[e,y]at y;subst e;exact hs i x _ (y xs q) p
 . let e:i=xs.length:=#[0]
   subst e;exact .inl %[%[xs,q|zH0 _]|hd H p]
def ig{K:W.Frag}{xs:List V}{tb:TBl}{Q:VK}(Pv:Nat->Hp->Prop)(h0:Pv 0 (upd H D (.lst [])))(hl:∀i H,i<=xs.length->Pv i H->SqL K H a xs)
 (hs:∀i x H,xs[i]?=some x->Pv i H->tb (some x::outs ix σ) H (Nx xs.length i Pv) λz H'=>∃ys,H' D=some (.lst ys)/\ys.length<sizeLine/\Nx xs.length i Pv (upd H' D (.lst (ys++[z]))))(hd:∀H,Pv xs.length H->Q (.ref D) H):
 sM (Itl K a) D ix tb σ H Q:=by
 erw[λi m H=>m=xs.length-i/\i<=xs.length/\Pv i H,%[xs.length,by simp,zU0 _|h0],6];rintro i m H ⟨rfl,hi,p⟩;let q:=hl i H hi p
 by_cases NH:i<xs.length
 . refine .inr %[%[xs,xs[i],q|by simp [NH]]|λx H' y=>?_];erw[e,y]at y;subst e;exact hs i x _ (y xs q) p
 . let e:i=xs.length:=#[0]
   subst e;exact .inl %[%[xs,q|zH0 _]|hd H p]
def dO{lo:Int}{n:Nat}{tb:TBl}{Q:VK}(Pv:Nat->Hp->Prop)(h0:Pv 0 (upd H D (.lst [])))
 (hs:∀i H,i<n->Pv i H->tb (some (.int (lo+i))::outs ix σ) H (Nx n i Pv) λz H'=>∃ys,H' D=some (.lst ys)/\ys.length<sizeLine/\Nx n i Pv (upd H' D (.lst (ys++[z]))))(hd:∀H,Pv n H->Q (.ref D) H):
 sM (Itr lo n) D ix tb σ H Q:=by
 erw[λi m H=>m=n-i/\i<=n/\Pv i H,%[n,by simp,zU0 _|h0],6];rintro i m H ⟨rfl,hi,p⟩
 by_cases NH:i<n
 . refine .inr %[NH|λx H' y=>?_];erw[e,y]at y;subst e y;exact hs i _ NH p
 . let e:i=n:=#[0]
   subst e;exact .inl %[zH0 _|hd H p]
def CompScope.closed{X:Cx}{x:Str}{scope:Scope}(c1:closureFor scope X.env=pure [])(c2:∀y∈scope.names,y.2≠.cell)(c3:scope.kind=.function)(c4:∀y∈scope.names,y.2=.local->scope.names.lookup y.1=some .local)
 (c5:scope.names.lookup x=some .local)(c6:((relabel scope X.env).names.all λp=>!(p.2==.cell||p.2==.free)||((([]:List (Str×Addr))).lookup p.1).isSome)=true):CompScope X x [] [] scope [] where
 clos:=c1
 nocell:=c2
 kind:=c3
 names:=c4
 own:=c5
 nd:=by simp
 sub:=λp hp=>absurd hp #[2]
 has:=c6
 outs:=λj y h=>by simp at h
section
variable {X:Cx}
def Cj(K:W.Frag)(hK:X.K=K:=by rfl):hV X (.builtin "len") (rLen K):=by subst hK;exact aG
def xa(K:W.Frag)(hK:X.K=K:=by rfl):IxR X (rIxL K):=by subst hK;exact ix_list
end
def Its(z:Str):It:=⟨λi _=>i<z.cps.size,λi H x H'=>H'=H/\∃c,z.cps[i]?=some c/\x=.str %[|#[c]],λi _=>z.cps.size<=i⟩
def qA{prog:Program}{w:World}{A:Around}(hh:A.handled=none)(I:Addr)(x:Str)(t:Tok):Walks prog w A I [I] [I] x.cps.size (SignAt x) (λi h=>h.IsStrIter I (strIterType x) x t i):=by
 unfold strIterType
 split
 . exact Walks.strAscii hh I x t
 . exact Walks.strWide hh I x t
def Cv{K:W.Frag}{y:Str}{py:Pos}(z:Str)(t:Tok)(it:Addr):Turn P w K (.Name y py) (Its z) [it] it (λi h=>i<=z.cps.size/\h.IsStrIter it (strIterType z) z t i) where
 mem:=by simp
 obj:=λi h st b hb=>by
  let e:b=it:=#[hb,0]
  subst e;erw[_,o,e,c,d]at st;erw[o,e,λv z=>by rw[d]at z;cases z]
 keep:=λi h h' st k=>by
  erw[hi,o,e,r]at st;erw[hi,o,k it #[2] o e,r]
 item:=by
  exists 5;let%[f0,f1,f2,f3,f4|f5]:=hf it #[2];refine(qA (I.ok.hd hc) it z t).item i s _ E hg st.2 λv h' tk hP NI hk=>?_
  erw[c,u,hcx,1]at hP;let I1:#[8] H { s with heap:=h',toks:=tk }:=I.turned (λb o hb e=>hk b o #[hb,0] e) f0 f1 f3 f4 f5;erw[0,jF0 (a:=()) rfl %[.str %[|#[c]],H,I1,%[|0],%[1,c,hcx|1],%[hg|NI]|λb hb=>(hf b hb).1]]
 done:=by
  exists 5;let%[f0,f1,f2,f3,f4|f5]:=hf it #[2];let e:i=z.cps.size:=Nat.le_antisymm st.1 hg;subst e;refine(qA (I.ok.hd hc) it z t).done s _ E st.2 λh' tk hk=>?_
  erw[1,I.turned (λb o hb e=>hk b o #[hb,0] e) f0 f1 f3 f4 f5]
 self:=λA i s Q E st h=>by
  erw[_,st]at st;unfold strIterType at st
  split at st
  . exact wpAny_pyIter_striter_ascii st h
  . exact wpAny_pyIter_striter_wide st h
section
variable {X:Cx}{y:Str}{py:Pos}
instance ZiStr(R:(It->Hp->Prop))(x:V)(H1:Hp):∀z,x=.str z->R (Its z) H1:=0
def iStr(tl:TE):TI:=λσ H R=>tl σ H λx H1=>ZiStr R x H1
def DD(hl:PE X l tl):PI X (.Name y py) l (iStr tl):=by
 exists 4,R,I,h;apply thn (hl NC s σ H _ I h) λv s1 ⟨x,H1,I1,r1,q1⟩=>?_
 erw[z,e,q]at q1;subst e;erw[t,1]at r1;apply wpAny_pyIter_strU ?_;erw[‹s1›,[‹s1›],_,_,H1,1,I1.kept (t':=s1.toks) λb o e=>zO0 _ e,Cv z t _,%[zU0 _,_,qB0 _ rfl,1|1],λb hb=>?_,q];let e:b=‹s1›:=#[hb,0]
 subst e;exact I1.fpOk (zH0 _) (I1.hok.fresh (zH0 _))
end
def sE{z:Str}{tb:TBl}{Q:VK}(Pv:Nat->Hp->Prop)(h0:Pv 0 (upd H D (.lst [])))
 (hs:∀i c H,z.cps[i]?=some c->Pv i H->tb (some (.str %[|#[c]])::outs ix σ) H (Nx z.cps.size i Pv) λu H'=>∃ys,H' D=some (.lst ys)/\ys.length<sizeLine/\Nx z.cps.size i Pv (upd H' D (.lst (ys++[u]))))(hd:∀H,Pv z.cps.size H->Q (.ref D) H):
 sM (Its z) D ix tb σ H Q:=by
 erw[λi m H=>m=z.cps.size-i/\i<=z.cps.size/\Pv i H,%[z.cps.size,by simp,zU0 _|h0],6];rintro i m H ⟨rfl,hi,p⟩
 by_cases NH:i<z.cps.size
 . refine .inr %[NH|λx H' y=>?_];erw[e,c,hc,1]at y;subst e;exact hs i c _ hc p
 . let e:i=z.cps.size:=#[0]
   subst e;exact .inl %[zH0 _|hd H p]
section
variable {X:Cx}
instance rSlS(x:V)(lo:Option Int)(hi:Option Int)(H:Hp)(Q:VK):∀z,x=.str z->z.length<=sizeLine->Q (.str (Txt.slice z lo hi)) H:=0
def yb:SlR X rSlS:=by
 exists 4,x,v,vl,vu,lo,hi,sl,Q,I,rx,hs,pl,pu,h;erw[z,1,hz,q]at h;erw[t,1]at rx;erw["str",_,F.slot_str_getitem.lookup,wN1 _ _ _,6];let fin:∀t' k,EP X NC σ Q (.str (Txt.slice z lo hi) t') { s with toks:=k }:=λt' k=>%[.str _,H,I.tok k,%[|0]|q]
 erw[o,ho,hc,hd]at hs;cases pl with
 |none=>
   cases pu with
   |none=>exact jF1 (l:=none) (u:=none) (st:=none) %[o,ho,hc|hd] rfl (wQ1 ⟨zQ0 (wE1 z _ _) hz,fin⟩)
   |int j u=>exact jF1 (l:=none) (u:=some (j,u)) (st:=none) %[o,ho,hc|hd] rfl (wQ1 ⟨zQ0 (wE1 z _ _) hz,fin⟩)
 |int i u'=>
   cases pu with
   |none=>exact jF1 (l:=some (i,u')) (u:=none) (st:=none) %[o,ho,hc|hd] rfl (wQ1 ⟨zQ0 (wE1 z _ _) hz,fin⟩)
   |int j u=>exact jF1 (l:=some (i,u')) (u:=some (j,u)) (st:=none) %[o,ho,hc|hd] rfl (wQ1 ⟨zQ0 (wE1 z _ _) hz,fin⟩)
instance rStarts(x:V)(vs:List V)(H:Hp)(Q:VK):∀z u,x=.str z->vs=[.str u]->Q (.bl (Txt.startswith z u)) H:=0
def tj:MtR X "str.startswith" rStarts:=by
 exists 4,x,vs,v,us,Q,I,rx,rv,h;erw[z,u,1,1,q]at h;erw[t,1]at rx;erw[w',1,t',1]at rv.one;exact SC.startswith %[.bl _,H,I,1|q]
def qH:∀{zs:List Str}{us:List Value},Vals (zs.map V.str) us->StrsAre us zs
 | [],_,.nil=>.nil
 |_::_,_,.cons ⟨t,e⟩ r=>by subst e;exact .cons _ t (qH r)
instance rJoin(K:W.Frag)(x:V)(vs:List V)(H:Hp)(Q:VK):∀z a ys,x=.str z->vs=[.ref a]->SqL K H a (ys.map V.str)->z.length<=16->(ys.map (·.length)).sum+ys.length<=1048576->Q (.str (Txt.join z ys)) H:=0
def Hj:MtR X "str.join" (rJoin X.K):=by
 exists 4,x,vs,v,us,Q,I,rx,rv,h;erw[z,a,ys,1,1,hq,hz,hw,q]at h;erw[t,1]at rx;erw[w',1,ra]at rv.one;cases ra;let%[its,r',p|_]:=I.list hq;exact join_listW p.isList #[qH r',0] hz hw λt' k=>%[.str _,H,I.tok k,%[|0]|q]
instance rAll(K:W.Frag)(xs:List V)(H:Hp)(Q:VK):∀(a:Addr)(bs:List Bool),xs=[.ref a]->SqL K H a (bs.map V.bl)->Q (.bl (bs.all id)) H:=0
def uo:∀{bs:List Bool}{us:List Value}{i:Nat}{v:Value},Vals (bs.map V.bl) us->us[i]?=some v->∃b,bs[i]?=some b/\v=.bool b
 | [],_,_,_,.nil,h=>by simp at h
 |b::_,_,0,_,.cons r _,h=>by
   simp at h
   subst h;erw[b,1,r]
 |_::_,_,i+1,_,.cons _ t,h=>by
   let%[b,h1|h2]:=uo (i:=i) t #[h,0];erw[b,by simpa using h1,h2]
def sK(hc:X.calm=true):hV X (.builtin "all") (rAll X.K):=by
 exists 4,xs,us,Q,I,r,h;erw[a,bs,1,hq,q]at h;let%[u,1|ru]:=lE r;cases ru;let%[its,r',p|hz]:=I.list hq;let hl:=r'.length;rw[zF0]at hl;let NH:a<‹s›:=by erw[o,n,e,_]at p;exact zN0 e
 apply call_all_walk (jQ0 p.isList ?_);erw[‹s›,_,_,_,_,_,λi=>bs[i]?.getD true,1,Walks.list (A:=X.A.in1) (I.ok.hd hc) ‹s› a (zV0 NH) its.toArray,%[%[_,qB0 _ rfl,1|1]|p.isList.push _],6,6]
 . intro i v s' Q' E' hP hQ;let%[b,hb|1]:=uo r' (i:=i) (v:=v) #[hP,0];let hQ':Q' b s':=by simpa [hb]using hQ
   exact qC1 hQ'
 . intro h' tk hk;let e:(List.range its.toArray.size).all (λi=>bs[i]?.getD true)=bs.all id:=by
    rw[zS0,←hl];rw[jX0,wI0,wI0]
    constructor
    . intro h b hb;let%[i,hi|e]:=wR0 hb
      have:=h i (List.mem_range.mpr hi)
      rw[zM0 hi]at this
      simpa [e]using this
    . intro h i hi;let hi':=List.mem_range.mp hi;rw[zM0 hi'];exact h _ (qR0 hi')
   rw[e];erw[.bl _,H,6,1,q];let I1:#[8] H { s with heap:=s.heap.push { cls:=.type "list_iterator",data:=.fields #[.ref a,.int 0 0] } }:=I.kept (t':=s.toks) λb o e=>zO0 _ e
   apply I1.turnedL (t':=tk) (ch:=[‹s›]) (λb o hb e=>hk b o #[hb,0] e) λb hb=>?_
   rw[NK hb];exact I.fpOk (zH0 _) (I.hok.fresh (zH0 _))
end
inductive Consts:List Expr->List Str->Prop
 |nil:Consts [] []
 |cons {x:Str} {j:Nat} {pos:Pos} {es:List Expr} {zs:List Str}:Consts es zs->Consts (.Constant (.str x) j pos::es) (x::zs)
def lg:∀{es:List Expr}{zs:List Str},Consts es zs->PA X es (λ_ H Q=>Q (zs.map V.str) H)
 |_,_,.nil=>ae
 |_,_,.cons h=>λpos NC s σ H Q I q=>aa aI (lg h) (by rfl) pos NC s σ H Q I q
def CompScope.one{X:Cx}{x y:Str}{scope:Scope}{k:Nat}{c:Addr}(c1:closureFor scope X.env=pure [(y,c)])(c2:∀y∈scope.names,y.2≠.cell)(c3:scope.kind=.function)(c4:∀y∈scope.names,y.2=.local->scope.names.lookup y.1=some .local)
 (c5:scope.names.lookup x=some .local)(nd:[x,y].Nodup)(hc:X.env.cells.lookup y=some c)(c6:((relabel scope X.env).names.all λp=>!(p.2==.cell||p.2==.free)||(([(y,c)]:List (Str×Addr)).lookup p.1).isSome)=true)
 (hr:(relabel scope X.env).names.lookup y=some .cell)(hk:X.N[k]?=some y)(hs:X.env.scope.names.lookup y=some .cell):CompScope X x [y] [k] scope [(y,c)] where
 clos:=c1
 nocell:=c2
 kind:=c3
 names:=c4
 own:=c5
 nd:=nd
 sub:=λp hp=>by
  rw[NK hp];exact hc
 has:=c6
 outs:=λj z h=>by
  cases j with
  |zero=>
    let e:y=z:=zT0 h;subst e;erw[hr,k,c,1,hk,by simp [List.lookup],hs]
  |succ j=>simp at h
def CompScope.two{X:Cx}{x y z:Str}{scope:Scope}{k l:Nat}{c d:Addr}{cl:List (Str×Addr)}(c1:closureFor scope X.env=pure cl)(c2:∀y∈scope.names,y.2≠.cell)(c3:scope.kind=.function)(c4:∀y∈scope.names,y.2=.local->scope.names.lookup y.1=some .local)
 (c5:scope.names.lookup x=some .local)(nd:[x,y,z].Nodup)(hcl:cl=[(z,d),(y,c)]∨cl=[(y,c),(z,d)])(hc:X.env.cells.lookup y=some c)(hd:X.env.cells.lookup z=some d)(c6:((relabel scope X.env).names.all λp=>!(p.2==.cell||p.2==.free)||(cl.lookup p.1).isSome)=true)
 (hr:(relabel scope X.env).names.lookup y=some .cell)(hk:X.N[k]?=some y)(hs:X.env.scope.names.lookup y=some .cell)
 (hr2:(relabel scope X.env).names.lookup z=some .cell)(hk2:X.N[l]?=some z)(hs2:X.env.scope.names.lookup z=some .cell):CompScope X x [y,z] [k,l] scope cl where
 clos:=c1
 nocell:=c2
 kind:=c3
 names:=c4
 own:=c5
 nd:=nd
 sub:=λp hp=>by
  rcases hcl with rfl | rfl
  all_goals
   rcases zY0 hp with e | e
   . rw[e];assumption
   . rw[NK e];assumption
 has:=c6
 outs:=λj w h=>by
  let nyz:y≠z:=λe=>by simp [e]at nd
  match j,h with
  |0,h=>
    let e:y=w:=zT0 h;subst e;erw[hr,k,c,1,hk,6,hs];rcases hcl with rfl | rfl
    . have:(y==z)=false:=#[nyz,0]
      simp [List.lookup,this]
    . simp [List.lookup]
  |1,h=>
    let e:z=w:=zT0 h;subst e;erw[hr2,l,d,1,hk2,6,hs2];rcases hcl with rfl | rfl
    . simp [List.lookup]
    . have:(z==y)=false:=#[Ne.symm nyz,0]
      simp [List.lookup,this]
  |j+2,h=>simp at h
end L2
namespace Mine
open PySem L2
def pq(x:Str):Prop:=x.length<=20/\(∀c∈x.cps.toList,97<=c/\c<=122)/\x≠"aa"
def lj{x:Str}{l u:Option Int}{c:Nat}(h:c∈(Txt.slice x l u).cps.toList):c∈x.cps.toList:=by
 let e:Txt.slice x l u=StrLaws.sliceText x l u:=rfl;rw[e]at h;unfold StrLaws.sliceText at h
 split at h
 . exact h
 . let%[i,_|hi]:=List.mem_filterMap.mp (show c∈(List.filterMap _ _) by simpa using h)
   have:=Array.mem_of_getElem? hi
   simpa using this
def mem_append{x y:Str}{c:Nat}(h:c∈(x++y).cps.toList):c∈x.cps.toList∨c∈y.cps.toList:=by
 let e:(x++y).cps.toList=x.cps.toList++y.cps.toList:=by simp [jH0]
 rw[e]at h;exact qP0 h
def BD{zs:List Str}{c:Nat}(h:c∈(Txt.join "" zs).cps.toList):∃z∈zs,c∈z.cps.toList:=by
 let e:Txt.join "" zs=Str.join "" zs:=by
  cases zs with
  |nil=>rfl
  |cons a r=>exact StrLaws.glued_cons "" r a
 rw[e]at h;rcases(PyProof.Rows.mem_join "" c zs).mp h with h | ⟨_,h⟩
 . exact h
 . let e0:(("":Str)).cps.toList=[]:=by decide
   rw[e0]at h;cases h
inductive Tr where
 |is (x:Str) | yes | no | not (a:Tr) | bin (w:Str) (a b:Tr)
def Tr.size:Tr->Nat
 |.is _=>1 | .yes=>1 | .no=>1 | .not a=>a.size+1 | .bin _ a b=>a.size+b.size+1
def Tr.depth:Tr->Nat
 |.is _=>1 | .yes=>1 | .no=>1 | .not a=>a.depth+1 | .bin _ a b=>max a.depth b.depth+1
def Tr.names:Tr->List Str
 |.is x=>[x] | .yes=>[] | .no=>[] | .not a=>a.names | .bin _ a b=>a.names++b.names
def joinW:List Str:=["and","or","odd","same"]
def Tr.ok(ns:List Str):Tr->Prop
 |.is x=>x∈ns | .yes=>True | .no=>True | .not a=>a.ok ns | .bin w a b=>w∈joinW/\a.ok ns/\b.ok ns
inductive TreeAt(H:Hp):V->Tr->Prop
 |is {a:Addr} {x:Str}:H a=some (.tup [.str "is",.str x])->TreeAt H (.ref a) (.is x)
 |yes {a:Addr}:H a=some (.tup [.str "yes"])->TreeAt H (.ref a) .yes
 |no {a:Addr}:H a=some (.tup [.str "no"])->TreeAt H (.ref a) .no
 |not {a:Addr} {v:V} {t:Tr}:H a=some (.tup [.str "not",v])->TreeAt H v t->TreeAt H (.ref a) (.not t)
 |bin {a:Addr} {w:Str} {v u:V} {t r:Tr}:H a=some (.tup [.str w,v,u])->TreeAt H v t->TreeAt H u r->TreeAt H (.ref a) (.bin w t r)
abbrev cF(H H':Hp):Prop:=∀a xs,H a=some (.tup xs)->H' a=some (.tup xs)
def TreeAt.mono(k:cF H H')(h:TreeAt H v t):TreeAt H' v t:=by
 induction h with
 |is e=>exact .is (k _ _ e)
 |yes e=>exact .yes (k _ _ e)
 |no e=>exact .no (k _ _ e)
 |not e _ ih=>exact .not (k _ _ e) ih
 |bin e _ _ i1 i2=>exact .bin (k _ _ e) i1 i2
def aV(s:Same H H'):cF H H':=λa _ h=>s a _ h
def jN(F:FeedAt H f)(s:SameBut f H H'):cF H H':=λa xs h=>s a _ (λz=>by
 erw[o,t,e,_]at F;rw[z,e]at h;cases h) h
def NamesAt(H:Hp)(a:Addr)(ns:List Str):Prop:=H a=some (.lst (ns.map V.str))∨H a=some (.tup (ns.map V.str))
def NamesAt.ne(F:FeedAt H f)(h:NamesAt H a ns):a≠f:=λz=>by
 erw[o,t,e,_]at F;subst z;rcases h with h | h
 . rw [e]at h;let h':=HO.lst.inj (zT0 h);cases ns with
   |nil=>cases h'
   |cons x r=>simp at h'
 . rw[e]at h;cases h
def NamesAt.feed(F:FeedAt H f)(s:SameBut f H H')(h:NamesAt H a ns):NamesAt H' a ns:=by
 let ne:=h.ne F;rcases h with h | h
 . exact .inl (s _ _ ne h)
 . exact .inr (s _ _ ne h)
def NamesAt.same(s:Same H H')(h:NamesAt H a ns):NamesAt H' a ns:=by
 rcases h with h | h
 . exact .inl (s _ _ h)
 . exact .inr (s _ _ h)
def NamesAt.seq{K:W.Frag}(h:NamesAt H a ns):SqL K H a (ns.map V.str)∨SqT K H a (ns.map V.str):=by
 rcases h with h | h
 . exact .inl (zG0 h)
 . exact .inr (zC0 h)
def NamesAt.ix{K:W.Frag}{x:V}{Q:VK}(h:NamesAt H a ns)(hx:atI (ns.map V.str) i=some x)(q:Q x H):rIxL K (.ref a) (.int i) H Q∨rIxT K (.ref a) (.int i) H Q:=by
 rcases h with h | h
 . exact .inl %[a,_,i,x,1,1,zG0 h,hx|q]
 . exact .inr %[a,_,i,x,1,1,zC0 h,hx|q]
instance spTree(n:Nat):∀(f a:Addr)(room deep:Int)(ns:List Str),vs=[.ref f,.ref a,.int room,.int deep]->FeedAt H f->NamesAt H a ns->ns.length<=6->1<=room->room<=100->1<=deep->deep+1<=(n:Int)+1->(∀(v:V)(t:Tr)(H':Hp),FeedAt H' f->SameBut f H H'->TreeAt H' v t->t.ok ns->(t.size:Int)<=room->(t.depth:Int)<=deep->Q v H'):=1
def uv{α:Type}{l:List α}{i:Int}(h0:0<=i)(h:i<(l.length:Int)):∃v,atI l i=some v/\v∈l:=by
 let hk:i.toNat<l.length:=#[0]
 let q:atI l ((i.toNat:Nat):Int)=some l[i.toNat]:=bK (zM0 hk);let ek:((i.toNat:Nat):Int)=i:=#[0]
 rw[ek]at q;erw[_,q,qR0 hk]
end Mine
namespace L2
open PySem PySem.Spec PyProof.Rows
section
variable {X:Cx}
def vg(lo:Int)(n:Nat):List Int:=(List.range n).map λi:Nat=>lo+(i:Int)
def Ds(lo:Int)(n:Nat):(vg lo n).length=n:=by unfold vg;rw[zF0,qO0]
def Be{lo:Int}{n:Nat}{acc:List Value}(h:ItemsOf (λi v=>∃t,v=Value.int (lo+(i:Int)*1) t) acc.toArray n):Vals ((vg lo n).map V.int) acc:=by
 erw[h1,h2]at h;let l1:acc.length=n:=#[h1,0]
 let key:∀(k:Nat)(l:List Value),(∀i v,l[i]?=some v->∃t,v=Value.int (lo+((k+i:Nat):Int)) t)->Vals (((List.range' k l.length).map λi:Nat=>lo+(i:Int)).map V.int) l:=by
  intro k l
  induction l generalizing k with
  |nil=>intro _;exact .nil
  |cons a r ih=>
    intro h;let%[t|e]:=h 0 a rfl;rw[zP0,List.range'_succ,qE0,qE0];refine .cons %[t|by simpa using e] (ih (k+1) λi v hv=>?_);let%[t|e]:=h (i+1) v #[hv,0];erw[t,by rw[e];congr 2;omega]
 have:=key 0 acc λi v hv=>by
  let%[t|e]:=h2 i v #[hv,0];erw[t,by simpa using e]
 unfold vg;rw[←l1,List.range_eq_range'];exact this
instance ZtListRng(Q:VK)(vs:(List V))(H1:Hp):∀i j:Int,vs=[.int i,.int j]->-(2 ^ 62)<=i/\i<2 ^ 62/\-(2 ^ 62)<=j/\j<2 ^ 62->j-i<=1000->(∀p,H1 p=none->Q (.ref p) (upd H1 p (.lst ((vg i (j-i).toNat).map V.int)))):=0
def CB(ta:TA):TE:=λσ H Q=>ta σ H λvs H1=>ZtListRng Q vs H1
def yA{a b:Expr}{p1 p2 pos1 pos2:Pos}(hc:X.calm=true)(hg1:Gl X "list")(hm1:X.mg "list"=none)(hg2:Gl X "range")(hm2:X.mg "range"=none)(ha:PA X [a,b] ta)
 (hs1:starEach [(.Call (.Name "range" p2) [a,b] [] pos2:Expr)] X.env=[(false,eval (.Call (.Name "range" p2) [a,b] [] pos2) X.env)]:=by rfl)(hs:starEach [a,b] X.env=[(false,eval a X.env),(false,eval b X.env)]:=by rfl)(hs2:starEach [b] X.env=[(false,eval b X.env)]:=by rfl):
 PE X (.Call (.Name "list" p1) [.Call (.Name "range" p2) [a,b] [] pos2] [] pos1) (CB ta):=by
 exists 4,Q,I,h;apply qS1 (gr I hg1 hm1 jS ?_);apply zK1 ?_ hs1 rfl;rw[hs1];show wpAny _ _ (spliced ((false,eval (.Call (.Name "range" p2) [a,b] [] pos2) X.env)::backTo pos1 (starEach [] X.env))) _ _ s;let step:‹X.w› (eval (.Call (.Name "range" p2) [a,b] [] pos2) X.env) (λv s1=>∃(r:Addr) (i j:Int) (t u k:Tok) (H1:Hp),v=.ref r/\#[8] H1 s1/\IsRange s1.heap r i j 1 t u k/\(-(2 ^ 62)<=i/\i<2 ^ 62/\-(2 ^ 62)<=j/\j<2 ^ 62)/\j-i<=1000/\
  ∀p,H1 p=none->Q (.ref p) (upd H1 p (.lst ((vg i (j-i).toNat).map V.int)))) X.xe s:=by
  apply Call_ (gr I hg2 hm2 boot_range (zK1 (thn (ha pos2 NC s σ H _ I h) λus s1 ⟨vs,H1,I1,r1,q1⟩=>?_) (by rw[hs,hs2]) (by rw[hs2];rfl)));erw[i,j,e,q1,q2,q]at q1;subst e;cases r1 with
  |cons r rr=>
    cases rr with
    |cons r' rr=>
      cases rr;erw[t,1]at r;erw[t',1]at r';apply call_range_2 %[_,i,j,_,_,_,H1,1,I1.kept λb o e=>zO0 _ e,IsRange.new ..,q1,q2|q]
 apply qI1 (thn step λv s1 hv=>?_);erw[r,i,j,t,u,k,H1,1,I1,hr,%[a1,a2,a3|a4],hle,q]at hv;apply qY0 ?_;let e2:Builtin.Range.rangeSize i j 1=(((j-i).toNat:Nat):Int):=by rw[rangeSize_one];split <;> omega
 apply call_list_range (I1.ok.hd hc) hr (small_one a1 a2 a3 a4) e2 #[0] λh' tk acc' c' hk hS hacc=>?_
 obtain⟨acc,rfl⟩:∃acc:List Value,acc'=acc.toArray:=%[acc'.toList|by simp]
 let rr:=Be hacc;let I2:#[8] (upd H1 ‹s1› (.lst ((vg i (j-i).toNat).map V.int))) { s1 with heap:=h',toks:=tk }:=by
  apply I1.turnedNew (ch:=[]) (λb ob _ eb=>hk b ob eb) (λb hb=>absurd hb #[2]) (zH0 _) %[6,acc,c',rr|hS];rw[zF0,Ds];exact small #[0]
 erw[.ref ‹s1›,_,I2,1,q _ (I1.hok.fresh (zH0 _))]
instance rSum(K:W.Frag)(xs:List V)(H:Hp)(Q:VK):∀(a:Addr)(ns:List Int),xs=[.ref a]->SqL K H a (ns.map V.int)->(∀n∈ns,0<=n)->ns.sum<2 ^ 63->Q (.int ns.sum) H:=0
def sk:∀{bs:List Int}{us:List Value}{i:Nat}{v:Value},Vals (bs.map V.int) us->us[i]?=some v->∃b t,bs[i]?=some b/\v=.int b t
 | [],_,_,_,.nil,h=>by simp at h
 |b::_,_,0,_,.cons r _,h=>by
   simp at h
   subst h;erw[t,e]at r;erw[b,t,1,e]
 |_::_,_,i+1,_,.cons _ t,h=>by
   let%[b,t,h1|h2]:=sk (i:=i) t #[h,0];erw[b,t,by simpa using h1,h2]
def pA{ns:List Int}(h:∀n∈ns,0<=n)(j:Nat):0<=(ns.take j).sum/\(ns.take j).sum<=ns.sum:=by
 induction ns generalizing j with
 |nil=>simp
 |cons a r ih=>
   cases j with
   |zero=>
     have:=ih (λn hn=>h n (qM0 _ hn)) r.length
     rw[qA0]at this;let a0:=h a qF0;simp only[List.take_zero,List.sum_nil,zX1];omega
   |succ j=>
     have:=ih (λn hn=>h n (qM0 _ hn)) j
     let a0:=h a qF0;simp only[List.take_succ_cons,zX1];omega
def pI(ns:List Int)(j:Nat):preSum (λi=>ns[i]?.getD 0) j=(ns.take j).sum:=by
 induction j with
 |zero=>simp;rfl
 |succ j ih=>
   show preSum (λi=>ns[i]?.getD 0) j+(λi=>ns[i]?.getD 0) j=_;rw[ih,zZ0,jY1];cases e:ns[j]? with
   |none=>simp [e]
   |some x=>simp [e]
def sJ(hc:X.calm=true):hV X (.builtin "sum") (rSum X.K):=by
 exists 4,xs,us,Q,I,r,h;erw[a,ns,1,hq,n0,nb,q]at h;let%[u,1|ru]:=lE r;cases ru;let%[its,r',p|hz]:=I.list hq;let hl:=r'.length;rw[zF0]at hl;let NH:a<‹s›:=by erw[o,n,e,_]at p;exact zN0 e
 apply call_sum_walk (jQ0 p.isList ?_);erw[‹s›,_,_,_,_,_,λi=>ns[i]?.getD 0,1,Walks.list (A:=X.A.in1) (I.ok.hd hc) ‹s› a (zV0 NH) its.toArray,%[%[_,qB0 _ rfl,1|1]|p.isList.push _],6,6,6,6]
 . intro b hb;let hpz:∀o:Obj,(s.heap.push o).objs.size=‹s›+1:=λo=>by simp [Heap.push]
   show b<(s.heap.push _).objs.size;rw[hpz];rcases zY0 hb with e | e
   . rw[e];exact qM1 _
   . rw[NK e];exact wD0 NH
 . intro i v hP;let%[b,t,hb|1]:=sk r' (i:=i) (v:=v) #[hP,0];erw[t,by simp [hb]]
 . intro j hj;let hj':j<ns.length:=by rw[hl];simpa using hj
   let s1:=pA n0 (j+1);rw[pI];erw[6,by unfold InLong;omega];let s2:=pA n0 j;let e:(ns.take (j+1)).sum=(ns.take j).sum+ns[j]:=by rw[zZ0,jY1,zM0 hj'];simp
   let n1:=n0 _ (qR0 hj');show InLong (ns[j]?.getD 0);rw[zM0 hj'];show InLong ns[j];unfold InLong;omega
 . intro h' tk t' hk;rw[pI,zS0,←hl,qA0];erw[.int _,H,6,%[|0],q];let I1:#[8] H { s with heap:=s.heap.push { cls:=.type "list_iterator",data:=.fields #[.ref a,.int 0 0] } }:=I.kept (t':=s.toks) λb o e=>zO0 _ e
   apply I1.turnedL (t':=tk) (ch:=[‹s›]) (λb o hb e=>hk b o #[hb,0] e) λb hb=>?_
   rw[NK hb];exact I.fpOk (zH0 _) (I.hok.fresh (zH0 _))
end
def zQ:Slot "reversed" "__iter__" "reversed.__iter__":=Slot.of (owner:="reversed") (n:="__iter__") (by rw[wR1,jL0];kernel_rfl) ⋯ ⋯ ⋯ (by first | exact .inl ⋯ | exact .inr ⋯) (by rw[vB0];kernel_rfl) ⋯
def rv_next:Slot "reversed" "__next__" "reversed.__next__":=Slot.of (owner:="reversed") (n:="__next__") (by rw[wR1,jL0];kernel_rfl) ⋯ ⋯ ⋯ (by first | exact .inl ⋯ | exact .inr ⋯) (by rw[vB0];kernel_rfl) ⋯
def Cy:typeLookup (.type "tuple") "__reversed__"=pure none:=by rw[wR1,jL0];kernel_rfl
def Bc:entryFor table "reversed.__iter__"=some Builtin.«dict_keyiterator.__iter__»:=entryFor_alias (by kernel_rfl) rfl (show _="dict_keyiterator.__iter__" by decide) (by kernel_rfl)
def tN:entryFor table "reversed.__next__"=some Builtin.«reversed.__next__»:=entryFor_of_tree (by kernel_rfl)
def RevT(h:Heap)(it t:Addr)(i:Int):Prop:=h.get? it=some { cls:=.type "reversed",data:=.fields #[.ref t,rawInt i] }
section
variable {prog:Program}{w:World}{A:Around}{E:#[6]}{s:Shared}{R:Result->Shared->Prop}{it t:Addr}
def RevT.typeIs(h:RevT s.heap it t i):s.TypeIs (.ref it) "reversed":=%[_,h|1]
def tZ{Q:#[6]}(h:RevT s.heap it t i)(q:Q (.ref it) s):‹w.A› (pyIter (.ref it)) Q E s:=
 wpAny_pyIter_slot h.typeIs zQ (qF1 zQ h.typeIs Bc (zI0 %[0,"reversed",_,h.typeIs,rv_next.lookup|q]) (by rfl))
def rT{i:Nat}{items:Array Value}{x:Value}{Q:Option Value->Shared->Prop}(h:RevT s.heap it t (i:Int))(ht:IsTup s.heap t items)(hx:items[i]?=some x)(hi:(i:Int)<2 ^ 63)
 (q:∀h' tk,RevT h' it t ((i:Int)-1)->Heap.SameBut it s.heap h'->Q (some x) { s with heap:=h',toks:=tk }):‹w.A› (pyNext (.ref it)) Q E s:=by
 let hT:=h.typeIs;let hs:i<items.size:=(Array.getElem?_eq_some_iff.mp hx).1;unfold pyNext;apply zD0 (jZ0 (zQ1 hT rv_next (qF1 rv_next hT tN ?_ (by rfl))));unfold Builtin.«reversed.__next__»;apply zD0 (jF0 (show slotArgs "__next__" 0 %[[.ref it]|[]]=pure (.ref it,[])from rfl) ?_);apply zD0 (zS1 h rfl rfl ?_);apply zD0 (zS1 h rfl rfl ?_);apply zT1 (λhab=>absurd hab #[0]) (λ_=>?_);apply zD0 (wpAny_specialOf (show s.TypeIs (.ref t) "tuple" from ht.typeIs) PyProof.Rows.slot_tuple_getitem.lookup ?_);apply zT1 (λhab=>absurd hab #[2]) (λ_=>?_);apply zD0 (wpAny_mkInt ?_);let e1:seqIndex? (i:Int) items.size=some i:=(vM (by unfold ixN;rw[NE #[0],NE #[0]];simp)).1;apply zD0 (jZ0 (PyProof.Rows.getItem_tuple (items:=items) (x:=x) ht #[0] hi e1 hx ?_));apply zD0 (zS1 h rfl rfl ?_);apply zD0 (qD1 h #[2] λh' e hb=>?_);apply zI0 %[0|zI0 (q h' _ ?_ hb)];exact e
def y0S:0<=sizeLine:=⋯
def y1S:1<=sizeLine:=⋯
def y2S:2<=sizeLine:=⋯
def y3S:3<=sizeLine:=⋯
def y4S:4<=sizeLine:=⋯
def y5S:5<=sizeLine:=⋯
def y6S:6<=sizeLine:=⋯
def y12S:12<=sizeLine:=⋯
def y18S:18<=sizeLine:=⋯
def y24S:24<=sizeLine:=⋯
def tf{Q:Option Value->Shared->Prop}(hh:A.handled=none)(h:RevT s.heap it t (-1))
 (q:∀h' tk,Heap.ExtBut it s.heap h'->Q none { s with heap:=h',toks:=tk }):‹w.A› (pyNext (.ref it)) Q E s:=by
 let hT:=h.typeIs;unfold pyNext;apply zD0 (jZ0 (zQ1 hT rv_next (qF1 rv_next hT tN ?_ (by rfl))));unfold Builtin.«reversed.__next__»;apply zD0 (jF0 (show slotArgs "__next__" 0 %[[.ref it]|[]]=pure (.ref it,[])from rfl) ?_);apply zD0 (zS1 h rfl rfl ?_);apply zD0 (zS1 h rfl rfl ?_);apply zT1 (λ_=>?_) (λhab=>absurd ⋯ hab);apply zD0 (vC0 ?_);apply zD0 ?_;show wpAny _ _ (setField (.ref it) 1 (rawInt (-1)) >>= λ_=>setField (.ref it) 0 Value.none) _ _ _;apply zD0 (qD1 h #[2] λh1 e1 b1=>?_);apply qD1 e1 #[2] λh2 e2 b2=>?_
 apply zD0 ?_;unfold Builtin.SmallTypes.stopIteration newExc newTuple;apply zD0 (zD0 (zO1 ?_ y0S));apply zD0 (jF0 (show firstArgMember (.type "StopIteration") []=pure .none by rfl') ?_);apply zO1 ?_ (sizeOk_excFields ..);apply wpAny_raiseNew_none hh ?_;apply zD0 (wI1 (T:="StopIteration") %[_,qB0 _ rfl|1] isSubtype_stop ?_);apply zT1 (λ_=>?_) (λhab=>absurd rfl hab);apply zI0 (q _ _ ?_);exact(b1.extBut.trans b2.extBut).trans λb o hb e=>zO0 _ (zO0 _ e)
def Gx:Slot "reversed" "__init__" "object.__init__":=Slot.of (owner:="object") (n:="__init__") (by rw[wR1,jL0];kernel_rfl) ⋯ ⋯ ⋯ (by first | exact .inl ⋯ | exact .inr ⋯) (by rw[vB0];kernel_rfl) ⋯
def Bd:TypeCalled "reversed" "reversed.__new__" "object.__init__":=%[4,F.create_reversed,%[_,_|F.mro_reversed],F.made_reversed,F.plain_reversed_new,F.sub_reversed_self|Gx]
def AN:isSubtype (.type "tuple") (.type "dict")=pure false:=by rw[vB0];kernel_rfl
def ou{items:Array Value}{Q:#[6]}(ht:IsTup s.heap t items)(hz:items.size<=sizeLine)
 (q:∀tk,Q (.ref ‹s›) { s with heap:=s.heap.push { cls:=.type "reversed",data:=.fields #[.ref t,rawInt ((items.size:Int)-1)] },toks:=tk }):‹w.A› (call (.type "reversed") [.ref t]) Q E s:=by
 let h63:=jM;apply callType_newIn Bd ⋯ (F.typeCall_reversed_1 _) (F.newCall_reversed_1 _) (λ_=>by rfl) F.entry_reversed_new
  (S:=λA R s=>wpAny (model prog w) A.in1 (Builtin.«reversed.__new__» %[[.type "reversed",.ref t]|[]]) (λfin s'=>match fin with | .done f=>R (.ok f) s' | .again c'=>c'.quiet=true/\codeAny (model prog w) A c' R s') (λe s'=>R (.error e) s') s) (λA R s h=>h) ?_
 unfold Builtin.«reversed.__new__»;apply zD0 (jF0 (newClass_reversed _) ?_);apply zD0 (jF0 (a:=()) rfl ?_);apply zD0 (jF0 (a:=()) rfl ?_);apply zD0 (wpAny_specialOf ht.typeIs Cy ?_);apply zD0 ?_;apply zD0 (wI1 ht.typeIs AN ?_);apply zT1 (λhab=>absurd hab ⋯) (λ_=>?_);apply zD0 (wpAny_specialOf ht.typeIs PyProof.Rows.slot_tuple_getitem.lookup ?_);apply zT1 (λ_=>?_) (λhab=>absurd ⋯ hab);apply zI0 ?_;apply zT1 (λhab=>absurd hab ⋯) (λ_=>?_);apply zD0 (len_tuple ht #[0] ?_);apply zD0 (zI0 ?_);apply zD0 (zO1 (data:=.fields #[.ref t,rawInt ((items.size:Int)-1)]) ?_ (by show 2<=sizeLine+2;decide));apply zI0 ?_;erw[%[_,qB0 _ rfl|1],q _]
end
end L2
namespace Mine
open PySem L2
def Tr.wf:Tr->Prop
 |.is x=>pq x | .yes=>True | .no=>True | .not a=>a.wf | .bin w a b=>w∈joinW/\a.wf/\b.wf
def Tr.parts:Tr->List Tr
 |.is _=>[] | .yes=>[] | .no=>[] | .not a=>[a] | .bin _ a b=>[a,b]
def Tr.ok_wf{ns:List Str}(hn:∀x∈ns,pq x):∀t:Tr,t.ok ns->t.wf
 |.is _,h=>hn _ h
 |.yes,_=>trivial
 |.no,_=>trivial
 |.not a,h=>Tr.ok_wf hn a h
 |.bin _ a b,⟨h,h1,h2⟩=>%[h,Tr.ok_wf hn a h1|Tr.ok_wf hn b h2]
def Tr.depth_pos:∀t:Tr,1<=t.depth
 |.is _=>zH0 _ | .yes=>zH0 _ | .no=>zH0 _ | .not a=>jL1 .. | .bin _ a b=>jL1 ..
def iQ(ts:List Tr):Nat:=(ts.map Tr.size).sum
def iA(ts:List Tr):List Str:=(ts.map Tr.names).flatten
def Tr.size_parts(t:Tr):t.size=iQ t.parts+1:=by
 cases t <;> simp [Tr.size,Tr.parts,iQ]
def Tr.names_parts(t:Tr)(h:∀x,t≠.is x):t.names=iA t.parts:=by
 cases t with
 |is x=>exact absurd rfl (h x)
 |_=>simp [Tr.names,Tr.parts,iA]
def Tr.parts_mem{t u:Tr}(h:u∈t.parts)(w:t.wf):u.wf/\u.depth+1<=t.depth/\u.size+1<=t.size:=by
 cases t with
 |is x=>simp [Tr.parts]at h
 |yes=>simp [Tr.parts]at h
 |no=>simp [Tr.parts]at h
 |not a=>
   rw[NK h];erw[w,zH0 _,zH0 _]
 |bin o a b=>
   erw[_,w1,w2]at w;rcases zY0 h with e | e
   . rw [e];erw[w1,6,6]
     . show a.depth+1<=max a.depth b.depth+1;omega
     . show a.size+1<=a.size+b.size+1;omega
   . rw [NK e];erw[w2,6,6]
     . show b.depth+1<=max a.depth b.depth+1;omega
     . show b.size+1<=a.size+b.size+1;omega
inductive TreesAt(H:Hp):List V->List Tr->Prop
 |nil:TreesAt H [] []
 |cons {v:V} {t:Tr} {vs:List V} {ts:List Tr}:TreeAt H v t->TreesAt H vs ts->TreesAt H (v::vs) (t::ts)
def TreesAt.mono(k:cF H H')(h:TreesAt H vs ts):TreesAt H' vs ts:=by
 induction h with
 |nil=>exact .nil
 |cons a _ ih=>exact .cons (a.mono k) ih
def TreesAt.append(h:TreesAt H vs ts)(g:TreesAt H us rs):TreesAt H (vs++us) (ts++rs):=by
 induction h with
 |nil=>exact g
 |cons a _ ih=>exact .cons a ih
def TreesAt.length(h:TreesAt H vs ts):vs.length=ts.length:=by
 induction h with
 |nil=>rfl
 |cons _ _ ih=>rw[zP0,zP0,ih]
def TreesAt.get(h:TreesAt H vs ts):∀{i:Nat}{v:V},vs[i]?=some v->∃t,ts[i]?=some t/\TreeAt H v t:=by
 induction h with
 |nil=>intro i v e;simp at e
 |cons a _ ih=>
   intro i v e;cases i with
   |zero=>cases(zT0 e);erw[0,a]
   |succ i=>exact ih (i:=i) #[e,0]
def zk{w:Str}(h:w∈joinW):w≠"is":=(by decide:∀w∈joinW,w≠("is":Str)) w h
def TreeAt.view(h:TreeAt H v t)(w:t.wf):(∃(a:Addr) (x:Str),v=.ref a/\t=.is x/\pq x/\H a=some (.tup [.str "is",.str x]))∨
 ∃(a:Addr) (o:Str) (xs:List V),v=.ref a/\o≠"is"/\xs.length<=2/\H a=some (.tup (.str o::xs))/\TreesAt H xs t.parts/\(∀x,t≠.is x):=by
 cases h with
 |is e=>exact .inl %[2,w|e]
 |yes e=>exact .inr %[_,_,[],1,4,by simp,e,.nil|λx z=>by cases z]
 |no e=>exact .inr %[_,_,[],1,4,by simp,e,.nil|λx z=>by cases z]
 |not e g=>exact .inr %[_,_,[_],1,4,by simp,e,.cons g .nil|λx z=>by cases z]
 |bin e g g2=>exact .inr %[_,_,[_,_],1,zk w.1,by simp,e,.cons g (.cons g2 .nil)|λx z=>by cases z]
def HH(o:V):∀xs:List V,xs.length<=2->jf (o::xs) (some 1) none=xs/\¬ (HT.sIx (o::xs).length 0 (some 1)=0/\HT.sIx (o::xs).length (o::xs).length none=(o::xs).length)
 | [],_=>%[1|λh=>absurd h.1 (show ¬ HT.sIx 1 0 (some 1)=0 by decide)]
 | [_],_=>%[1|λh=>absurd h.1 (show ¬ HT.sIx 2 0 (some 1)=0 by decide)]
 | [_,_],_=>%[1|λh=>absurd h.1 (show ¬ HT.sIx 3 0 (some 1)=0 by decide)]
 |_::_::_::_,h=>absurd h #[2]
def Tr.data:Tr->PyData
 |.is x=>.tuple [.str "is",.str x] | .yes=>.tuple [.str "yes"] | .no=>.tuple [.str "no"] | .not a=>.tuple [.str "not",a.data] | .bin w a b=>.tuple [.str w,a.data,b.data]
def Du{K:W.Frag}(h:TreeAt H v t):Rep K H v t.data:=by
 induction h with
 |is e=>exact .tup (zC0 e) (.cons (.str _) (.cons (.str _) .nil))
 |yes e=>exact .tup (zC0 e) (.cons (.str _) .nil)
 |no e=>exact .tup (zC0 e) (.cons (.str _) .nil)
 |not e _ ih=>exact .tup (zC0 e) (.cons (.str _) (.cons ih .nil))
 |bin e _ _ i1 i2=>exact .tup (zC0 e) (.cons (.str _) (.cons i1 (.cons i2 .nil)))
def CI(h:pq x):PyData.strOk x=true:=by
 unfold PyData.strOk;rw[←Array.all_toList,wI0];intro c hc
 have:=h.2.1 c hc
 exact zC1 #[0]
def qy:∀t:Tr,t.wf->PyData.canLay0 t.data=true/\PyData.depth t.data<=t.depth+1
 |.is x,h=>by
   have:=CI h
   simp [Tr.data,PyData.canLay0,PyData.canLayAll0,PyData.depth,PyData.depthAll,Tr.depth,this]
   decide
 |.yes,_=>by
   simp [Tr.data,PyData.canLay0,PyData.canLayAll0,PyData.depth,PyData.depthAll,Tr.depth]
   decide
 |.no,_=>by
   simp [Tr.data,PyData.canLay0,PyData.canLayAll0,PyData.depth,PyData.depthAll,Tr.depth]
   decide
 |.not a,h=>by
   let ih:=qy a h;let w0:PyData.strOk "not"=true:=by decide
   simp [Tr.data,PyData.canLay0,PyData.canLayAll0,PyData.depth,PyData.depthAll,Tr.depth,ih.1,w0]
   omega
 |.bin w a b,⟨hw,h1,h2⟩=>by
   let i1:=qy a h1;let i2:=qy b h2;let w0:PyData.strOk w=true:=(by decide:∀w∈joinW,PyData.strOk w=true) w hw
   simp [Tr.data,PyData.canLay0,PyData.canLayAll0,PyData.depth,PyData.depthAll,Tr.depth,i1.1,i2.1,w0]
   omega
def Tr.names_len:∀t:Tr,t.names.length<=t.size
 |.is _=>zH0 _
 |.yes=>zU0 _
 |.no=>zU0 _
 |.not a=>Nat.le_succ_of_le (Tr.names_len a)
 |.bin _ a b=>by
   have:=Tr.names_len a
   have:=Tr.names_len b
   show(a.names++b.names).length<=a.size+b.size+1;rw[zJ0];omega
end Mine
namespace L2
open PySem PySem.Spec PyProof.Rows
section
variable {prog:Program}{w:World}{A:Around}{E:#[6]}{s:Shared}
def Jz(xs:Array Value)(x:Value):Nat->Option PySem.Fin×Unit->Sem (ForInStep (Option PySem.Fin×Unit)):=λi _=>match xs[i]? with
 |some y=>do
   let b ←eqBool y x
   if b=true then do
    let r ←retInt (i:Int)
    pure (ForInStep.done (some r,()))
    else pure (ForInStep.yield (none,()))
 |_=>pure (ForInStep.yield (none,()))
def xf{xs:Array Value}{x:Value}{e:Value->Bool}(he:∀y∈xs,SeqAt.EqAt A s y x (e y)){j:Nat}(hj:j<xs.size)(ej:e xs[j]=true)(bf:∀(m:Nat) (hm:m<xs.size),m<j->e xs[m]=false){Q:Option PySem.Fin×Unit->Shared->Prop}
 (q:Q (some (.done (.ret (.int (j:Int) s.toks))),()) { s with toks:=s.toks+1 }):∀(n k:Nat),k<=j->j<k+n->k+n<=xs.size->‹w.A› (forIn (List.range' k n 1) ((none:Option PySem.Fin),()) (Jz xs x)) Q E s
 |0,k,h1,h2,_=>absurd h2 #[0]
 |n+1,k,h1,h2,h3=>by
   let hk:k<xs.size:=#[0]
   rw [List.range'_succ,List.forIn_cons];apply zD0 ?_;let e1:Jz xs x k ((none:Option PySem.Fin),())=(do
    let b ←eqBool xs[k] x
    if b=true then do
     let r ←retInt (k:Int)
     pure (ForInStep.done (some r,()))
     else pure (ForInStep.yield (none,()))):=by
    unfold Jz;rw[Array.getElem?_eq_getElem hk]
   rw[e1];apply zD0 (he _ (Array.getElem_mem hk) prog w _ _ ?_)
   by_cases c:k=j
   . subst c;rw[ej];apply zT1 (λ_=>?_) (λhab=>absurd rfl hab);apply zD0 ?_;apply zD0 (wpAny_mkInt ?_);apply zI0 ?_;apply zI0 ?_;exact zI0 q
   . rw[bf k hk #[0]];apply zT1 (λhab=>absurd hab ⋯) (λ_=>?_);apply zI0 ?_;exact xf he hj ej bf q n (k+1) #[0] #[0] #[0]
def rX(l:Addr)(items:Array Value)(n:Nat)(dd:Option Addr)(sl:Array (Option Value))(x:Value)(e:Value->Bool)(j:Nat)(hj:j<items.size)(ej:e items[j]=true)(bf:∀(m:Nat) (hm:m<items.size),m<j->e items[m]=false):
 Meets (Builtin.«tuple.index» { pos:=[.ref l,x] }) λA R s=>s.heap.get? l=some { cls:=.type "tuple",dict:=dd,data:=.seq items n,slots:=sl }/\(∀y∈items,SeqAt.EqAt A.in1 s y x (e y))/\R (.ok (.ret (.int (j:Int) s.toks))) { s with toks:=s.toks+1 }:=by
 intro prog w A R s ⟨hl,he,q⟩;unfold Builtin.«tuple.index»;apply zD0 (jF0 (a:=(Value.ref l,[x])) rfl ?_);apply zD0 (wpAny_tupleItemsOf hl rfl ?_);apply zD0 (zI0 ?_);apply zD0 (zI0 ?_);apply zD0 ?_;rw[Std.Legacy.Range.forIn_eq_forIn_range'];let e1:Std.Legacy.Range.size [0:min items.size items.size]=items.size:=by simp [Std.Legacy.Range.size]
 rw[e1];apply xf he hj ej bf ?_ items.size 0 (zU0 _) #[0] #[0];exact zI0 q
end
section
variable {X:Cx}
def fc(z:Str):List Str->Option Nat
 | []=>none
 |a::r=>if a=z then some 0 else(fc z r).map (·+1)
def rB:∀{ns:List Str}{j:Nat},fc z ns=some j->ns[j]?=some z/\∀m,m<j->∀y,ns[m]?=some y->y≠z
 | [],_,h=>by simp [fc]at h
 |a::r,j,h=>by
   unfold fc at h
   by_cases c:a=z
   . rw[NE c]at h;cases h;erw[by simp [c],λm hm=>absurd hm #[0]]
   . rw [ND c]at h;let%[i,hi|1]:=qU0 h;let%[h1|h2]:=rB hi;erw[by simpa using h1,λm hm y hy=>?_];cases m with
     |zero=>cases(zT0 hy);exact c
     |succ m=>exact h2 m #[0] y #[hy,0]
def qG:∀{bs:List Str}{us:List Value}{i:Nat}{v:Value},Vals (bs.map V.str) us->us[i]?=some v->∃b t,bs[i]?=some b/\v=.str b t
 | [],_,_,_,.nil,h=>by simp at h
 |b::_,_,0,_,.cons r _,h=>by
   simp at h
   subst h;erw[t,e]at r;erw[b,t,1,e]
 |_::_,_,i+1,_,.cons _ t,h=>by
   let%[b,t,h1|h2]:=qG (i:=i) t #[h,0];erw[b,t,by simpa using h1,h2]
def gu(ns:List Str):(ns.map V.str).all jY=true:=by
 induction ns with
 |nil=>rfl
 |cons a r ih=>rw[qE0,wM1,ih];rfl
def pS{ns:List Str}{j:Nat}(r:Vals (ns.map V.str) its)(h:fc z ns=some j):
 ∃hj:j<its.toArray.size,eqU (.str z) its.toArray[j]=true/\∀(m:Nat)(hm:m<its.toArray.size),m<j->eqU (.str z) its.toArray[m]=false:=by
 let%[h1|h2]:=rB h;let hl:=r.length;rw[zF0]at hl;let jl:j<ns.length:=(zX0 h1).1;let hj:j<its.toArray.size:=by rw[zS0,←hl];exact jl
 erw[hj,6,λm hm mj=>?_]
 . let%[b,t,e1|e2]:=qG r (i:=j) (v:=its.toArray[j]) #[2];rw[e2];rw[h1]at e1;cases e1;show(z==z)=true
   simp
 . let%[b,t,e1|e2]:=qG r (i:=m) (v:=its.toArray[m]) #[2];rw[e2];show(b==z)=false
   have:=h2 m mj b e1
   simpa using this
instance rIndexT(K:W.Frag)(x:V)(vs:List V)(H:Hp)(Q:VK):∀(a:Addr)(ns:List Str)(z:Str)(j:Nat),x=.ref a->vs=[.str z]->SqT K H a (ns.map V.str)->fc z ns=some j->Q (.int (j:Int)) H:=0
def BB:MtR X "tuple.index" (rIndexT X.K):=by
 exists 4,x,vs,v,us,Q,I,rx,rv,h;erw[a,ns,z,j,1,1,hq,hp,q]at h;cases rx;erw[u,1,ru]at rv.one;let%[its,r,%[%[cls,dd,data|sl],ho,hc,n|hd]|hz]:=I.tuple hq;simp only at hc hd;subst hc hd;let%[hj,e1|e2]:=pS r hp;apply qT1 F.slot_tuple_index %[_,ho|1] F.entry_tuple_index (F.args_tuple_index_2 _ _) (rX a its.toArray n dd sl u (eqU (.str z)) j hj e1 e2) ⟨ho,λy hy=>?_,?_⟩
 . exact gK ru rfl r (gu ns) y #[hy,0]
 . erw[.int (j:Int),H,I.tok _,%[|0],q]
instance rIndexL(K:W.Frag)(x:V)(vs:List V)(H:Hp)(Q:VK):∀(a:Addr)(ns:List Str)(z:Str)(j:Nat),x=.ref a->vs=[.str z]->SqL K H a (ns.map V.str)->fc z ns=some j->Q (.int (j:Int)) H:=0
def BC:MtR X "list.index" (rIndexL X.K):=by
 exists 4,x,vs,v,us,Q,I,rx,rv,h;erw[a,ns,z,j,1,1,hq,hp,q]at h;cases rx;erw[u,1,ru]at rv.one;let%[its,r,%[%[cls,dd,data|sl],n,ho,hc,hdd|hd]|hz]:=I.list hq;simp only at hc hd;subst hc hd;let%[hj,e1|e2]:=pS r hp;let h63:=jM;let hl:=r.length;apply qT1 F.slot_list_index %[_,ho|1] F.entry_list_index (F.args_list_index_2 _ _) (SeqAt.list_indexAt a its.toArray n dd sl u (eqU (.str z)) j hj (by rw[zS0]at hj;omega) e1 e2) ⟨ho,λy hy=>?_,?_⟩
 . exact gK ru rfl r (gu ns) y #[hy,0]
 . erw[.int (j:Int),H,I.tok _,%[|0],q]
end
section
variable {κ:Type}[DecidableEq κ]
def ik(NF:List (κ×V))(k:κ):Option V:=(NF.find? λkv=>decide (kv.1=k)).map (·.2)
def nj(NF:List (κ×V))(k:κ)(v:V):List (κ×V):=
 if(NF.any λkv=>decide (kv.1=k))=true then NF.map (λkv=>if kv.1=k then(kv.1,v)else kv)else NF++[(k,v)]
def dX{p:κ×V}{r:List (κ×V)}{k:κ}(e:p.1=k):ik (p::r) k=some p.2:=by simp [ik,jM0,e]
def dY{p:κ×V}{r:List (κ×V)}{k:κ}(e:¬ p.1=k):ik (p::r) k=ik r k:=by simp [ik,jM0,e]
def mr(k:κ):∀NF:List (κ×V),(NF.any λkv=>decide (kv.1=k))=(ik NF k).isSome
 | []=>rfl
 |p::r=>by
   rw[jY0]
   by_cases e:p.1=k
   . simp only[dX e,zC1 e,Bool.true_or,Option.isSome_some]
   . rw[dY e,zB1 e,Bool.false_or];exact mr k r
def vY(k j:κ)(y:V):∀NF:List (κ×V),ik (NF.map λkv=>if kv.1=k then(kv.1,y)else kv) j=(ik NF j).map λx=>if j=k then y else x
 | []=>rfl
 |p::r=>by
   let ih:=vY k j y r;rw[qE0]
   by_cases h:p.1=k
   . rw [NE h]
     by_cases e:p.1=j
     . rw[dX (p:=(p.1,y)) e,dX e,wS0,NE (e.symm.trans h)]
     . rw[dY (p:=(p.1,y)) e,dY e,ih]
   . rw [ND h]
     by_cases e:p.1=j
     . rw[dX (p:=p) e,dX e,wS0,ND (λz=>h (e.trans z))]
     . rw[dY (p:=p) e,dY e,ih]
def tF(k j:κ)(y:V):∀NF:List (κ×V),ik NF k=none->ik (NF++[(k,y)]) j=if j=k then some y else ik NF j
 | [],_=>by
   by_cases e:k=j
   . rw[NE e.symm];exact dX (p:=(k,y)) e
   . rw[ND (λz=>e z.symm)];exact dY (p:=(k,y)) e
 |p::r,hn=>by
   rw[List.cons_append];let hk:¬ p.1=k:=λz=>by rw[dX z]at hn;cases hn
   rw[dY hk]at hn;let ih:=tF k j y r hn
   by_cases e:p.1=j
   . rw[dX e,dX e,ND (λz=>hk (e.trans z))]
   . rw[dY e,dY e,ih]
def Cs(NF:List (κ×V))(k j:κ)(y:V):ik (nj NF k y) j=if j=k then some y else ik NF j:=by
 unfold nj
 by_cases a:(NF.any λkv=>decide (kv.1=k))=true
 . rw [NE a,vY];rw[mr]at a
   by_cases e:j=k
   . let%[x|hx]:=Option.isSome_iff_exists.mp a;rw[NE e,e,hx,wS0,NE rfl]
   . rw [ND e];cases ik NF j with
     |none=>rfl
     |some x=>rw[wS0,ND e]
 . rw [ND a];apply tF k j y NF ?_;rw[mr]at a;cases q:ik NF k with
   |none=>rfl
   |some x=>rw[q]at a;exact(a rfl).elim
def kJ(NF:List (κ×V))(k:κ)(v:V):(nj NF k v).length<=NF.length+1:=by
 unfold nj
 split
 . rw[zF0];omega
 . rw[zJ0,zP0,zH1];omega
def RelO.isSome_eq(r:RelO o u):o.isSome=u.isSome:=by
 cases o with
 | none=>cases u with
   |none=>rfl
   |some _=>exact(show False from r).elim
 | some _=>cases u with
   |none=>exact(show False from r).elim
   |some _=>rfl
def RelO.getD(r:RelO o u)(rd:RelV d d'):RelV (o.getD d) (u.getD d'):=by
 cases o with
 | none=>cases u with
   |none=>exact rd
   |some _=>exact(show False from r).elim
 | some _=>cases u with
   |none=>exact(show False from r).elim
   |some _=>exact r
def KV.val{NF:List (κ×V)}{vs:List (κ×Value)}(r:KV NF vs)(k:κ):RelO (ik NF k) (valueAt vs k):=by
 unfold KV at r
 induction r with
 |nil=>exact True.intro
 | @cons p q ps qs h t ih=>
   erw[h1,h2]at h
   by_cases e:p.1=k
   . let e':q.1=k:=h1.symm.trans e;let b:valueAt (q::qs) k=some q.2:=by simp [valueAt,jM0,e']
     rw[dX e,b];exact h2
   . let e':¬ q.1=k:=λz=>e (h1.trans z)
     let b:valueAt (q::qs) k=valueAt qs k:=by simp [valueAt,jM0,e']
     rw[dY e,b];exact ih
def KV.any{NF:List (κ×V)}{vs:List (κ×Value)}(r:KV NF vs)(k:κ):(NF.any λkv=>decide (kv.1=k))=vs.any λkv=>decide (kv.1=k):=by
 unfold KV at r
 induction r with
 |nil=>rfl
 |cons h t ih=>rw[jY0,jY0,ih,h.1]
def KV.repl{NF:List (κ×V)}{vs:List (κ×Value)}(r:KV NF vs)(k:κ)(ry:RelV y u):
 KV (NF.map λkv=>if kv.1=k then(kv.1,y)else kv) (vs.map λkv=>if kv.1=k then(kv.1,u)else kv):=by
 unfold KV at r ⊢
 induction r with
 |nil=>exact .nil
 | @cons p q ps qs h t ih=>
   rw[qE0,qE0];refine .cons ?_ ih;erw[h1,h2]at h
   by_cases e:p.1=k
   . rw[NE e,NE (h1.symm.trans e)];erw[h1,ry]
   . rw[ND e,ND (λz=>e (h1.trans z))];erw[h1,h2]
def KV.put{NF:List (κ×V)}{vs:List (κ×Value)}(r:KV NF vs)(k:κ)(ry:RelV y u):KV (nj NF k y) (stored vs k u):=by
 unfold nj stored;rw[r.any k]
 by_cases e:(vs.any λkv=>decide (kv.1=k))=true
 . rw[NE e,NE e];exact r.repl k ry
 . rw[ND e,ND e];exact Paired.snoc r %[1|ry]
def KV.length{NF:List (κ×V)}{vs:List (κ×Value)}(r:KV NF vs):NF.length=vs.length:=Paired.length r
end
def EO(r:RelV (kV k) u):(dN P w).is k u=true:=by
 cases k with
 |inl i=>let%[t|e]:=(show ∃t,u=Value.int i t from r);subst e;exact wU P w i t
 |inr x=>let%[t|e]:=(show ∃t,u=Value.str x t from r);subst e;exact wT P w x t
def ua:∀{ks:List Key}{us:List Value},Vals (ks.map kV) us->ItemsAre (dN P w) ks us
 | [],_,r=>by rw[List.map_nil]at r;cases r;exact .nil
 |k::ks,_,r=>by
   rw[qE0]at r;cases r with
   |cons h t=>exact .cons (EO h) (ua t)
abbrev KT(H:Hp):List (List Key×V)->List (List Key×Addr×Value)->Prop:=Paired λp q=>p.1=q.1/\H q.2.1=some (.tup (p.1.map kV))/\RelV p.2 q.2.2
def KT.val{NF:List (List Key×V)}{xs:List (List Key×Addr×Value)}(r:KT H NF xs)(k:List Key):RelO (ik NF k) ((atKey xs k).map (·.2)):=by
 induction r with
 |nil=>exact True.intro
 | @cons p q ps qs h t ih=>
   erw[h1,_,h2]at h
   by_cases e:p.1=k
   . let e':q.1=k:=h1.symm.trans e;let b:atKey (q::qs) k=some q.2:=by simp [atKey,jM0,e']
     rw[dX e,b];exact h2
   . let e':¬ q.1=k:=λz=>e (h1.trans z)
     let b:atKey (q::qs) k=atKey qs k:=by simp [atKey,jM0,e']
     rw[dY e,b];exact ih
def KT.repl{NF:List (List Key×V)}{xs:List (List Key×Addr×Value)}(r:KT H NF xs)(k:List Key)(ry:RelV y u):
 KT H (NF.map λkv=>if kv.1=k then(kv.1,y)else kv) (xs.map (putAt k u)):=by
 induction r with
 |nil=>exact .nil
 | @cons p q ps qs h t ih=>
   rw[qE0,qE0];refine .cons ?_ ih;erw[h1,h2,h3]at h;unfold putAt
   by_cases e:p.1=k
   . rw[NE e,NE (h1.symm.trans e)];erw[h1,h2,ry]
   . rw[ND e,ND (λz=>e (h1.trans z))];erw[h1,h2,h3]
def KT.put{NF:List (List Key×V)}{xs:List (List Key×Addr×Value)}(r:KT H NF xs)(k:List Key){b:Addr}(hb:H b=some (.tup (k.map kV)))(ry:RelV y u):
 KT H (nj NF k y) (storedH xs k b u):=by
 let e:(NF.any λkv=>decide (kv.1=k))=(atKey xs k).isSome:=by
  rw[mr,(r.val k).isSome_eq,Option.isSome_map]
 unfold nj storedH;rw[e]
 by_cases q:(atKey xs k).isSome=true
 . rw[NE q,NE q];exact r.repl k ry
 . rw[ND q,ND q];exact Paired.snoc r %[1,hb|ry]
def KT.keeps{H':Hp}{NF:List (List Key×V)}{xs:List (List Key×Addr×Value)}(r:KT H NF xs)(ht:∀b ys,H b=some (.tup ys)->H' b=some (.tup ys)):KT H' NF xs:=
 Paired.mapP r λ_ _ z=>%[z.1,ht _ _ z.2.1|z.2.2]
section
variable {P:Program}{w:World}{H:Hp}{h:Heap}{a:Addr}
def Ic(ok:HOk P w H h)(e:Rd H a u):ObjOk P w H h a u:=e.ok ok
def As{NF:List (Key×V)}(ok:HOk P w H h)(e:Rd H a (.dK NF)):NF.length<=sizeLine/\(a==sysModules)=false/\∃vs,KV NF vs/\h.DictOf (dN P w) a vs:=
 show ObjOk P w H h a (.dK NF)from Ic ok e
def dk_of{NF:List (Key×V)}(ok:HOk P w H h)(e:H a=some (.dK NF)):NF.length<=sizeLine/\(a==sysModules)=false/\∃vs,KV NF vs/\h.DictOf (dN P w) a vs:=As ok (.inl e)
def zj{ks:List Key}(ok:HOk P w H h)(e:H a=some (.tup (ks.map kV))):(tupleKind (dN P w)).is h ks a:=by
 let%[_,its,r,%[o,h1,h2,n|h3]|_]:=(show ObjOk P w H h a (.tup (ks.map kV))from ok a _ e)
 erw[o,its.toArray,n,h1,h2,h3,by simpa using ua r]
def Fi{NF:List (List Key×V)}(ok:HOk P w H h)(e:Rd H a (.dT NF)):NF.length<=sizeLine/\(a==sysModules)=false/\
 ∃xs,KT H NF xs/\h.DictOfH (tupleKind (dN P w)) a xs:=by
 let%[z,y,xs,r,o,es,ep,h1,h2,h3,h4|h5]:=(show ObjOk P w H h a (.dT NF)from Ic ok e)
 erw[z,y,xs,r,o,es,ep,h1,h2,h3,h4,λx hx=>?_,h5];let all:∀{l:List (List Key×V)}{m:List (List Key×Addr×Value)},KT H l m->∀x∈m,(tupleKind (dN P w)).is h x.1 x.2.1:=by
  intro l m q
  induction q with
  |nil=>intro x hx;exact nomatch hx
  | @cons p q ps qs hq t ih=>
    intro x hx;rcases zY0 hx with e | hx
    . subst e;exact zj ok (by rw[←hq.1];exact hq.2.1)
    . exact ih x hx
 exact all r x hx
def dt_of{NF:List (List Key×V)}(ok:HOk P w H h)(e:H a=some (.dT NF)):NF.length<=sizeLine/\(a==sysModules)=false/\
 ∃xs,KT H NF xs/\h.DictOfH (tupleKind (dN P w)) a xs:=Fi ok (.inl e)
end
def DGet(H:Hp)(a:Addr)(y:V)(r:Option V):Prop:=
 (∃NF k,Rd H a (.dK NF)/\y=kV k/\r=ik NF k)∨∃NF k b,Rd H a (.dT NF)/\y=.ref b/\H b=some (.tup (k.map kV))/\r=ik NF k
def DPut(H:Hp)(a:Addr)(y v:V)(H':Hp):Prop:=
 (∃NF k,H a=some (.dK NF)/\y=kV k/\NF.length<sizeLine/\H'=upd H a (.dK (nj NF k v)))∨
 ∃NF k b,H a=some (.dT NF)/\y=.ref b/\H b=some (.tup (k.map kV))/\NF.length<sizeLine/\H'=upd H a (.dT (nj NF k v))
def DGet.k{H:Hp}{a:Addr}{NF:List (Key×V)}{k:Key}(e:H a=some (.dK NF)):DGet H a (kV k) (ik NF k):=.inl %[NF,k,.inl e,1|1]
def DPut.k{H:Hp}{a:Addr}{NF:List (Key×V)}{k:Key}(e:H a=some (.dK NF))(hl:NF.length<sizeLine):DPut H a (kV k) v (upd H a (.dK (nj NF k v))):=.inl %[NF,k,e,1,hl|1]
section
variable {X:Cx}{NC:#[7]}{σ:St}{H:Hp}{s:Shared}{a:Addr}{y v:V}{u r:Value}{o:Option V}{A:Around}{E:#[6]}
def Inv.big(I:#[8] H s):sysModules<‹s›:=by
 let h:mainGlobals<‹s›:=(I.mod.glob.keeps I.bk).lt;exact Nat.lt_trans ⋯ h
def Aw{h':Heap}{t':Nat}(I:#[8] H s)(mu:Mut (H a))(hs:Heap.SameBut a s.heap h')(he:∃q,h'.get? a=some q)(new:ObjOk X.prog X.w (upd H a ob) h' a ob):
 #[8] (upd H a ob) { s with heap:=h',toks:=t' }:=
 I.write (x:=a) (e:=a) mu (.inl rfl) (λb q hb z=>(hs.2 b hb).trans z) he new
def Fm{H':Hp}{h':Heap}{NF:List (Key×V)}{vs:List (Key×Value)}(z:NF.length<=sizeLine)(hd:(a==sysModules)=false)(rel:KV NF vs)(dd:h'.DictOf (dN P w) a vs):
 ObjOk P w H' h' a (.dK NF):=%[z,hd,vs,rel|dd]
def Ce{Q:Unit->Shared->Prop}(hu:A.units+1<cLine)(I:#[8] H s)(g:DPut H a y v H')(ry:RelV y u)(rv:RelV v r)(h:∀s',#[8] H' s'->Q () s'):
 wpAny (model X.prog X.w) A (setItem (.ref a) u r) Q E s:=by
 rcases g with⟨NF,k,e,ey,l,eH⟩ | ⟨NF,k,b,e,ey,eb,l,eH⟩
 . subst ey eH;let%[z,hd,vs,rel|dd]:=dk_of I.hok e;let hz:vs.length<=sizeLine:=by rw[←rel.length];exact z
   let hl:(nj NF k v).length<=sizeLine:=by have:=kJ NF k v;omega
   apply wpAny_setItem_pairs (hsz:=hz) (EO ry) dd λh' dd' hs=>h _ ?_
   let he:∃q,h'.get? a=some q:=let⟨q,_,_,hq,_⟩:=dd';%[q|hq]
   exact Aw I (by rw[e];exact True.intro) hs he (Fm hl hd (rel.put k rv) dd')
 . subst ey eH;cases(show u=Value.ref b from ry);let%[z,hd,xs,rel|dd]:=dt_of I.hok e;let hz:xs.length<=sizeLine:=by rw[←Paired.length rel];exact z
   let hl:(nj NF k v).length<=sizeLine:=by have:=kJ NF k v;omega
   apply wpAny_setItem_heap (hsz:=hz) (tupleKind_room_in1 hu) (zj I.hok eb) dd λh' dd' hs=>h _ ?_
   erw[q,es,ep,hq,h2,h3,h4,_,h5]at dd';apply Aw I (by rw[e];exact True.intro) hs ⟨q,hq⟩ ⟨hl,hd,_,(rel.put k eb rv).keeps λc ys ec=>?_,q,es,ep,hq,h2,h3,h4,h5⟩;rw[ay (bu ec e (λz=>nomatch z))];exact ec
end
instance ZsDPut(D:Ends)(σ:St)(v:V)(x:V)(y:V)(H3:Hp):∀a H4,x=.ref a->DPut H3 a y v H4->D.nx σ H4:=0
def sDPut(td ty tv:TE):TS:=λD σ H=>tv σ H λv H1=>td σ H1 λx H2=>ty σ H2 λy H3=>ZsDPut D σ v x y H3
section
variable {X:Cx}{o i e value:Expr}{pos pos' tpos:Pos}{td ty tv:TE}
def Gz(hu:X.A.units+1<cLine)(ho:PE X o td)(hi:PE X i ty)(hv:PE X value tv)(hs:swapsWith value (some (.Subscript o i pos')) pos.line X.env=pure false):
 PS X (.Assign [.Subscript o i pos'] value pos) (sDPut td ty tv):=by
 exists 4,D,I,h;apply wpAny_Assign_Subscript (thn (hv NC s σ H _ I h) λr s1 ⟨v,H1,I1,rv,q1⟩=>thn (ho NC s1 σ H1 _ I1 q1) λu s2 ⟨x,H2,I2,rx,q2⟩=>thn (hi NC s2 σ H2 _ I2 q2) λiv s3 ⟨y,H3,I3,ry,a,H4,ex,g,q3⟩=>?_) hs;subst ex;obtain rfl:u=Value.ref a:=rx;exact Ce hu I3 g ry rv λs4 I4=>%[σ,H4,I4|q3]
end
def Fn{P:Program}{w:World}{H:Hp}(h:Heap)(hb:sysModules<h.objs.size):ObjOk P w H (h.push { cls:=.type "dict",data:=.dict #[] }) h.objs.size (.dK []):=
 %[zU0 _,beq_eq_false_iff_ne.mpr (Ne.symm (zV0 hb)),[],.nil|Heap.DictOf.new h]
def IM:TE:=λ_ H Q=>∀p,H p=none->Q (.ref p) (upd H p (.dK []))
section
variable {X:Cx}{pos:Pos}
def DG:PE X (.Dict [] [] pos) IM:=λNC s σ H Q I h=>
 wpAny_Dict_empty %[.ref ‹s›,_,I.laid (a:=‹s›) (o:=.dK []) (t':=s.toks) (λ_ _ q=>zO0 _ q) (zH0 _) (Fn s.heap I.big),1|h _ (I.hok.fresh (zH0 _))]
end
structure M2(X:Cx)(o:Expr)(m:Str)(NN:Pos)(e f:Expr)(NJ:Pos):Prop where
 base:attributeBase o m X.env (eval o X.env)=eval o X.env
 few:((backTo NJ (starEach [e,f] X.env)).all (λx=>!x.1)&&(backToKw NJ (keywordEach [] X.env)).all (λx=>x.1.isSome)
  &&decide (([e,f]:List Expr).length+([]:List Keyword).length+(if([]:List Keyword).isEmpty then 0 else 1)<30))=true
 line:(NN.endLine==NJ.line)=true
 trees:backTo NJ (starEach [e,f] X.env)=[(false,eval e X.env),(false,eval f X.env)]
def IsD(H:Hp)(a:Addr):Prop:=(∃NF,Rd H a (.dK NF))∨∃NF,Rd H a (.dT NF)
def Jw{σ:St}(I:#[8] H s)(d:IsD H a):
 s.TypeIs (.ref a) "dict"/\(∀b,Value.ref a=.ref b->∃ob,s.heap.get? b=some ob/\ob.dict=none)/\(a==sysModules)=false:=by
 rcases d with⟨NF,e⟩ | ⟨NF,e⟩
 . let%[_,hd,vs,_|dd]:=As I.hok e;erw[dd.typeIs,λb q=>?_,hd];cases q;erw[ob,_,_,h1,h2,_]at dd;erw[ob,h1,h2.2.1]
 . let%[_,hd,xs,_|dd]:=Fi I.hok e;erw[dd.typeIs,λb q=>?_,hd];cases q;erw[ob,_,_,h1,h2,_]at dd;erw[ob,h1,h2.2.1]
section
variable {X:Cx}{NC:#[7]}{σ:St}{H:Hp}{s:Shared}{a:Addr}{y d:V}{u r:Value}{o:Option V}{A:Around}{E:#[6]}
def JR{Q:#[6]}(hu:A.units+1<cLine)(I:#[8] H s)(g:DGet H a y o)(ry:RelV y u)(rd:RelV d r)(h:∀w' s',#[8] H s'->RelV (o.getD d) w'->Q w' s'):
 wpAny (model X.prog X.w) A (call (.builtin "dict.get") [.ref a,u,r]) Q E s:=by
 rcases g with⟨NF,k,e,ey,l⟩ | ⟨NF,k,b,e,ey,eb,l⟩
 . subst ey;let%[z,hd,vs,rel|dd]:=As I.hok e;apply call_meetsIn wF0 dd.typeIs PySem.F.entry_dict_get (PySem.F.args_dict_get_3 _ _ _) (meets_dict_get_default (dN X.prog X.w) a (EO ry) hd r) %[_,dd.mapOf|h _ _ (I.tok _) ?_];rw[l];exact(rel.val k).getD rd
 . subst ey;cases(show u=Value.ref b from ry);let%[z,hd,xs,rel|dd]:=Fi I.hok e;apply call_meetsIn wF0 dd.typeIs PySem.F.entry_dict_get (PySem.F.args_dict_get_3 _ _ _) (meetsH_dict_get_default (tupleKind (dN X.prog X.w)) a b hd r) %[tupleKind_room_in1 hu,k,xs,zj I.hok eb,dd|h _ _ (I.tok _) ?_];rw[l];exact(rel.val k).getD rd
end
instance ZtDGet2(ty:TE)(tx:TE)(σ:St)(Q:VK)(x:V)(H1:Hp):∀a,x=.ref a->IsD H1 a->(ty σ H1 λy H2=>tx σ H2 λz H3=>∃o,DGet H3 a y o/\Q (o.getD z) H3):=0
def IN(td ty tx:TE):TE:=λσ H Q=>td σ H λx H1=>ZtDGet2 ty tx σ Q x H1
section
variable {X:Cx}{o e f:Expr}{NN NJ:Pos}{td ty tx:TE}
def DH(hu:X.A.units+1<cLine)(ho:PE X o td)(he:PE X e ty)(hf:PE X f tx)(m:M2 X o "get" NN e f NJ):PE X (.Call (.Attribute o "get" NN) [e,f] [] NJ) (IN td ty tx):=by
 exists 4,Q,I,h;apply wpAny_Call_method m.base m.few m.line PySem.F.plainAttrs_dict wF0 PySem.F.type_dict_get (thn (ho NC s σ H _ I h) λu s1 ⟨x,H1,I1,rx,a,ex,d,q1⟩=>?_);subst ex;obtain rfl:u=Value.ref a:=rx;let%[t1,t2|_]:=Jw I1 d;erw[t1,t2,6];rw[m.trees];apply jJ0 rfl (jS0 (qI1 (thn (he NC s1 σ H1 _ I1 q1) λiv s2 ⟨y,H2,I2,ry,q2⟩=>
  qI1 (thn (hf NC s2 σ H2 _ I2 q2) λfv s3 ⟨z,H3,I3,rz,ov,g,q3⟩=>qY0 ?_))))
 exact JR hu I3 g ry rz λw' s4 I4 rw'=>%[_,H3,I4,rw'|q3]
end
section
variable {X:Cx}{NC:#[7]}{σ:St}{H:Hp}{s:Shared}{a:Addr}{NF:List (Key×V)}{A:Around}{E:#[6]}
def Fp{Q:#[6]}(I:#[8] H s)(e:Rd H a (.dK NF))(h:∀p s',H p=none->#[8] (upd H p (.dK NF)) s'->Q (.ref p) s'):wpAny (model X.prog X.w) A (call (.type "dict") [.ref a]) Q E s:=by
 let%[z,hd,vs,rel|dd]:=As I.hok e;apply kt_call_dict hd dd (by rw[←rel.length];exact z) λh' dd' hs=>?_
 apply h _ _ (I.hok.fresh (zH0 _)) (I.laid (a:=‹s›) (o:=.dK NF) (t':=s.toks) (λb q hq=>?_) (zH0 _) (Fm z (beq_eq_false_iff_ne.mpr (Ne.symm (zV0 I.big))) rel dd'));exact(hs.2 b (zV0 (zN0 hq))).trans (zO0 _ hq)
end
section
variable {X:Cx}
def Inv.tupD{σ:St}{a:Addr}{xs:List V}(I:#[8] H s)(h:H a=some (.tup xs)):∃ob,s.heap.get? a=some ob/\ob.dict=none:=by
 let%[_,_,_,_,o,e|d]:=(show ObjOk X.prog X.w H s.heap a (.tup xs)from I.hok a _ h)
 erw[o,e,d]
instance ZtIndex(t:TA)(σ:St)(Q:VK)(x:V)(H1:Hp):∀(a:Addr)(ns:List Str),x=.ref a->H1 a=some (.lst (ns.map V.str))∨H1 a=some (.tup (ns.map V.str))->(t σ H1 λvs H2=>(H2 a=H1 a)/\∃(z:Str)(j:Nat),vs=[.str z]/\fc z ns=some j/\Q (.int (j:Int)) H2):=0
def IL(K:W.Frag)(to:TE)(t:TA):TE:=λσ H Q=>to σ H λx H1=>ZtIndex t σ Q x H1
variable {o e:Expr}{es:List Expr}{to:TE}{t:TA}{NN NJ:Pos}
def rK(pl:PlainAttrs "list")(pt:PlainAttrs "tuple")(ho:PE X o to)(ha:PA X (e::es) t)
 (hbase:attributeBase o "index" X.env (eval o X.env)=eval o X.env:=by rfl)
 (hfew:((backTo NJ (starEach (e::es) X.env)).all (λx=>!x.1)&&(backToKw NJ (keywordEach [] X.env)).all (λx=>x.1.isSome)
  &&decide ((e::es).length+([]:List Keyword).length+(if([]:List Keyword).isEmpty then 0 else 1)<30))=true:=by rfl)
 (hline:(NN.endLine==NJ.line)=true:=by rfl) (hs:starEach (e::es) X.env=(false,eval e X.env)::starEach es X.env:=by rfl) (hplain:(backTo NJ (starEach es X.env)).any (·.1)=false:=by rfl) :
 PE X (.Call (.Attribute o "index" NN) (e::es) [] NJ) (IL X.K to t):=by
 exists 4,Q,I,h;apply wpAny_Call_method_late hbase hfew hline rfl (thn (ho NC s σ H _ I h) λv s1 ⟨x,H1,I1,r1,a,ns,ex,hh,q1⟩=>?_);subst ex;cases r1;let hA:=ha NJ NC s1 σ H1 _ I1 q1;rw[hs]at hA ⊢;rcases hh with hh | hh
 . let%[its,_,p|_]:=I1.list (zG0 hh);let%[ob,n,e1,c,d|_]:=id p;erw["list","list.index",pl,F.slot_list_index,F.type_list_index,p.isList.typeIs,λb eb=>?_,6]
   . cases eb;erw[ob,e1,d]
   . apply jJ0 (by show(false||(backTo NJ (starEach es X.env)).any (·.1))=false;rw[hplain] <;> rfl) (jS0 ?_);exact thn hA λus s2 ⟨vs,H2,I2,r2,ek,z,j,ez,hp,q2⟩=>BC NC s2 σ H2 (.ref a) vs (.ref a) us Q I2 rfl r2 %[a,ns,z,j,1,ez,zG0 (ek.trans hh),hp|q2]
 . let%[its,_,p|_]:=I1.tuple (zC0 hh);erw["tuple","tuple.index",pt,F.slot_tuple_index,F.type_tuple_index,p.typeIs,λb eb=>?_,6]
   . cases eb;exact I1.tupD hh
   . apply jJ0 (by show(false||(backTo NJ (starEach es X.env)).any (·.1))=false;rw[hplain] <;> rfl) (jS0 ?_);exact thn hA λus s2 ⟨vs,H2,I2,r2,ek,z,j,ez,hp,q2⟩=>BB NC s2 σ H2 (.ref a) vs (.ref a) us Q I2 rfl r2 %[a,ns,z,j,1,ez,zC0 (ek.trans hh),hp|q2]
end
def CompScope.three{X:Cx}{x y z u:Str}{scope:Scope}{k l m:Nat}{c d e:Addr}{cl:List (Str×Addr)}(c1:closureFor scope X.env=pure cl)(c2:∀y∈scope.names,y.2≠.cell)(c3:scope.kind=.function)(c4:∀y∈scope.names,y.2=.local->scope.names.lookup y.1=some .local)
 (c5:scope.names.lookup x=some .local)(nd:[x,y,z,u].Nodup)(hcl:cl=[(y,c),(z,d),(u,e)])(hc:X.env.cells.lookup y=some c)(hd:X.env.cells.lookup z=some d)(he:X.env.cells.lookup u=some e)(c6:((relabel scope X.env).names.all λp=>!(p.2==.cell||p.2==.free)||(cl.lookup p.1).isSome)=true)
 (hr:(relabel scope X.env).names.lookup y=some .cell)(hk:X.N[k]?=some y)(hs:X.env.scope.names.lookup y=some .cell)
 (hr2:(relabel scope X.env).names.lookup z=some .cell)(hk2:X.N[l]?=some z)(hs2:X.env.scope.names.lookup z=some .cell)
 (hr3:(relabel scope X.env).names.lookup u=some .cell)(hk3:X.N[m]?=some u)(hs3:X.env.scope.names.lookup u=some .cell):CompScope X x [y,z,u] [k,l,m] scope cl where
 clos:=c1
 nocell:=c2
 kind:=c3
 names:=c4
 own:=c5
 nd:=nd
 sub:=λp hp=>by
  subst hcl;rcases zY0 hp with h | h
  . rw[h];assumption
  . rcases zY0 h with h | h
    . rw[h];assumption
    . rw[NK h];assumption
 has:=c6
 outs:=λj w h=>by
  let nyz:y≠z:=λe=>by simp [e]at nd
  let nyu:y≠u:=λe=>by simp [e]at nd
  let nzu:z≠u:=λe=>by simp [e]at nd
  subst hcl
  match j,h with
  |0,h=>
    let e:y=w:=zT0 h;subst e;erw[hr,k,c,1,hk,by simp [List.lookup],hs]
  |1,h=>
    let e:z=w:=zT0 h;subst e
    have:(z==y)=false:=#[Ne.symm nyz,0]
    erw[hr2,l,d,1,hk2,by simp [List.lookup,this],hs2]
  |2,h=>
    let ew:u=w:=zT0 h;subst ew;let h1:(u==y)=false:=#[Ne.symm nyu,0]
    let h2:(u==z)=false:=#[Ne.symm nzu,0]
    erw[hr3,m,e,1,hk3,by simp [List.lookup,h1,h2],hs3]
  |j+3,h=>simp at h
section
variable {X:Cx}
def ug:∀{xs:List V}{us:List Value},Vals xs us->xs.all jY=true->us.countP (eqU x)=xs.countP λy=>eqV y x
 |_,_,.nil,_=>rfl
 |y::xs,u::us,.cons r t,f=>by
   rw[wM1,qU1]at f;rw[List.countP_cons,List.countP_cons,zr r f.1,ug t f.2]
instance rCountL(K:W.Frag)(x:V)(vs:List V)(H:Hp)(Q:VK):∀(a:Addr)(xs:List V)(z:V),x=.ref a->vs=[z]->SqL K H a xs->xs.all jY=true->jY z=true->Q (.int ((xs.countP λy=>eqV y z:Nat):Int)) H:=0
def wR:MtR X "list.count" (rCountL X.K):=by
 exists 4,x,vs,v,us,Q,I,rx,rv,h;erw[a,xs,z,1,1,hq,fs,fz,q]at h;cases rx;erw[u,1,ru]at rv.one;let%[its,r,%[%[cls,dd,data|sl],n,ho,hc,hdd|hd]|hz]:=I.list hq;simp only at hc hd;subst hc hd;apply qT1 F.slot_list_count %[_,ho|1] F.entry_list_count (F.args_list_count_2 _ _) (SeqAt.list_countAt a its.toArray n dd sl u (eqU z)) ⟨ho,λy hy=>?_,?_⟩
 . exact gK ru fz r fs y #[hy,0]
 . rw[show its.toArray.toList=its from rfl,ug r fs];erw[.int ((xs.countP λy=>eqV y z:Nat):Int),H,I.tok _,%[|0],q]
end
def eJ(g:Nat->Int):Nat->Int
 |0=>g 0
 |k+1=>if eJ g k<g (k+1)then g (k+1)else eJ g k
def xG(g:Nat->Int):∀n k,k<=n->g k<=eJ g n
 |0,k,h=>by
   let e:k=0:=#[0]
   subst e;exact qB1 _
 |n+1,k,h=>by
   unfold eJ
   by_cases c:k=n+1
   . subst c
     split <;> omega
   . have:=xG g n k #[0]
     split <;> omega
def BE(ns:List Int)(d:Int):Int:=match ns with | []=>d | _::_=>eJ (λi=>ns[i]?.getD 0) (ns.length-1)
def Hm{ns:List Int}{x:Int}(h:x∈ns):x<=BE ns d:=by
 let%[i,hi|e]:=wR0 h;cases ns with
 |nil=>cases h
 |cons a r=>
   have:=xG (λi=>(a::r)[i]?.getD 0) ((a::r).length-1) i #[0]
   simp only[zM0 hi,Option.getD_some,e]at this;exact this
section
variable {prog:Program}{w:World}{A:Around}{R:Result->Shared->Prop}{I S:Addr}{fp wr:List Addr}{n:Nat}{P:Nat->Value->Prop}{St:Nat->Heap->Prop}{g:Nat->Int}{kw:List (Str×Value)}
def qp:(toString "max"++toString ".loop":String)="max.loop":=by decide
def Er(W:Walks prog w A.in1 I fp wr n P St)(gv:∀i v,P i v->∃t,v=Value.int (g i) t)(nS:S∉fp):∀(k j:Nat)(s:Shared)(t:Tok)(c:Nat),j+1+k=n->St (j+1) s.heap ->
 s.heap.get? S=some { cls:=.type "list",dict:=none,data:=.seq #[.int (eJ g j) t,.int (eJ g j) t] c,slots:=#[] } ->
 (∀t' h' tk,(∀b o,b∉wr->b≠S->s.heap.get? b=some o->h'.get? b=some o)->R (.ok (.ret (.int (eJ g (n-1)) t'))) { s with heap:=h',toks:=tk }) ->
 codeAny (model prog w) A (.builtin "max.loop" %[[.ref I,.none,.ref S]|kw]) R s:=by
 let nw:S∉wr:=λz=>nS (W.sub _ z)
 intro k
 induction k with
 |zero=>
   intro j s t c ek st eS q;apply codeAny_builtin vI0 ?_;rw[wK0 jA0 _];show wpAny _ A.in1 (seqItems? (.ref S) >>= _) _ _ s;apply zD0 (qH1 eS rfl ?_);show wpAny _ A.in1 (tryCatch (pyNext (.ref I)) _ >>= _) _ _ s;apply zD0 (vB1 (W.done s _ _ (by rw[←ek];exact st) λh' tk kp=>?_));show wpAny _ A.in1 (updateSeq S (λ_=>#[]) >>= _) _ _ _;apply zD0 ?_;apply wpAny_updateSeq (kp S _ nw eS) rfl (zD0 (jT1 (zI0 ?_)));let e:n-1=j:=#[0]
   rw[e]at q;exact q t _ tk λb o h1 h2 eb=>(Heap.get?_update_other _ _ (Ne.symm h2)).trans (kp b o h1 eb)
 |succ k ih=>
   intro j s t c ek st eS q;apply codeAny_builtin vI0 ?_;rw[wK0 jA0 _];show wpAny _ A.in1 (seqItems? (.ref S) >>= _) _ _ s;apply zD0 (qH1 eS rfl ?_);show wpAny _ A.in1 (tryCatch (pyNext (.ref I)) _ >>= _) _ _ s;apply zD0 (vB1 (W.item (j+1) s _ _ #[0] st λv h' tk pv st' kp=>?_));let%[tv|1]:=gv _ _ pv;let eS':=kp S _ nw eS;show wpAny _ A.in1 (tryCatch (holding [Value.int (g (j+1)) tv,Value.int (g (j+1)) tv] (richCompare .Gt (Value.int (g (j+1)) tv) (Value.int (eJ g j) t) >>= _)) _ >>= _) _ _ _;apply zD0 (vB1 (jP1 (zD0 (CmpOf.ints_gt (prog:=prog) (w:=w) (A:=A.in1) (P:=λi v=>∃t,v=Value.int (if i=0 then eJ g j else g (j+1)) t) (λi=>if i=0 then eJ g j else g (j+1)) (λi v h=>h) 1 0 _ _ _ _ _ %[tv|1] ⟨t,rfl⟩ ?_))));apply zD0 (jP1 (qC1 ?_));apply zD0 (jT1 (zI0 ?_))
   by_cases c1:eJ g j<g (j+1)
   . let e1:eJ g (j+1)=g (j+1):=by unfold eJ;rw[NE c1]
     apply zT1 (λ_=>?_) (λhab=>absurd (zC1 c1) hab);apply zD0 ?_;apply wpAny_updateSeq eS' rfl (zD0 (jT1 ?_));rw[qp];apply zI0 %[vF0 jA0 _|ih (j+1) _ tv _ #[0] (W.frame _ _ _ st' λb hb o eb=>?_) (by rw[e1];exact Heap.get?_update_self _ eS' rfl) λt' h2 tk2 kp2=>?_]
     . exact(Heap.get?_update_other _ _ (λz:S=b=>nS (by rw[z];exact hb))).trans eb
     . exact q t' h2 tk2 λb o h1 h3 eb=>kp2 b o h1 h3 ((Heap.get?_update_other _ _ (Ne.symm h3)).trans (kp b o h1 eb))
   . let e1:eJ g (j+1)=eJ g j:=by unfold eJ;rw[ND c1];cases j <;> rfl
     apply zT1 (λhab=>absurd (zU1 hab) c1) (λ_=>?_);apply zD0 (jT1 ?_);rw[qp];apply zI0 %[vF0 jA0 _|ih (j+1) _ t c #[0] st' (by rw[e1];exact eS') λt' h2 tk2 kp2=>?_];exact q t' h2 tk2 λb o h1 h3 eb=>kp2 b o h1 h3 (kp b o h1 eb)
def Es(W:Walks prog w A.in1 I fp wr n P St)(gv:∀i v,P i v->∃t,v=Value.int (g i) t)(nS:S∉fp)(hn:0<n){s:Shared}{c:Nat}(st:St 0 s.heap)(eS:s.heap.get? S=some { cls:=.type "list",dict:=none,data:=.seq #[] c,slots:=#[] })
 (q:∀t' h' tk,(∀b o,b∉wr->b≠S->s.heap.get? b=some o->h'.get? b=some o)->R (.ok (.ret (.int (eJ g (n-1)) t'))) { s with heap:=h',toks:=tk }):
 codeAny (model prog w) A (.builtin "max.loop" %[[.ref I,.none,.ref S]|kw]) R s:=by
 let nw:S∉wr:=λz=>nS (W.sub _ z)
 apply codeAny_builtin vI0 ?_;rw[wK0 jA0 _];show wpAny _ A.in1 (seqItems? (.ref S) >>= _) _ _ s;apply zD0 (qH1 eS rfl ?_);show wpAny _ A.in1 (tryCatch (pyNext (.ref I)) _ >>= _) _ _ s;apply zD0 (vB1 (W.item 0 s _ _ hn st λv h' tk pv st' kp=>?_));let%[tv|1]:=gv _ _ pv;let eS':=kp S _ nw eS;show wpAny _ A.in1 (updateSeq S (λ_=>#[Value.int (g 0) tv,Value.int (g 0) tv]) >>= _) _ _ _;apply zD0 ?_;apply wpAny_updateSeq eS' rfl ?_;rw[qp];apply zI0 %[vF0 jA0 _|Er W gv nS (n-1) 0 _ tv _ #[0] (W.frame _ _ _ st' λb hb o eb=>?_) (Heap.get?_update_self _ eS' rfl) λt' h2 tk2 kp2=>?_]
 . exact(Heap.get?_update_other _ _ (λz:S=b=>nS (by rw[z];exact hb))).trans eb
 . exact q t' h2 tk2 λb o h1 h3 eb=>kp2 b o h1 h3 ((Heap.get?_update_other _ _ (Ne.symm h3)).trans (kp b o h1 eb))
end
section
variable {X:Cx}{e k:Expr}{te tk:TE}{pos p1 kp:Pos}
instance rMax1(K:W.Frag)(xs:List V)(H:Hp)(Q:VK):∀a ns,xs=[.ref a]->SqL K H a (ns.map V.int)->ns≠[]->Q (.int (BE ns 0)) H:=0
def ph(hc:X.calm=true):hV X (.builtin "max") (rMax1 X.K):=by
 intro NC s2 σ H2 xs us Q I2 r h;erw[a,ns,1,hq,hn,q]at h;let%[u,1|ru]:=lE r;cases ru;let%[its,r',p|hz]:=I2.list hq;let hl:=r'.length;rw[zF0]at hl;let NH:a<‹s2›:=by erw[o,n,e,_]at p;exact zN0 e
 apply call_function_tree F.kind_max F.plain_max F.entry_max (F.args_max1 _) ?_;show wpAny _ X.A.in1 (Builtin.Builtins.bindParams "max" ["key","default"] 0 %[[]|[]] >>= λ_=>_) _ _ s2;apply zD0 (jF0 (a:=[none,none]) rfl ?_);apply zD0 (zI0 ?_);apply zD0 (jQ0 p.isList ?_);apply zD0 (zO1 ?_);rw[qp];let hne:a≠‹s2›:=zV0 NH;let W:=Walks.list (prog:=X.prog) (w:=X.w) (A:=X.A.in1) (I2.ok.hd hc) ‹s2› a hne its.toArray;let I3:#[8] H2 { s2 with heap:=s2.heap.push { cls:=.type "list_iterator",data:=.fields #[.ref a,.int 0 0] } }:=I2.kept (t':=s2.toks) λb o eb=>zO0 _ eb
 let I4:#[8] H2 { s2 with heap:=(s2.heap.push { cls:=.type "list_iterator",data:=.fields #[.ref a,.int 0 0] }).push { cls:=.type "list",data:=.seq #[] } }:=I3.kept (t':=s2.toks) λb o eb=>zO0 _ eb
 let hz1:∀o:Obj,(s2.heap.push o).objs.size=‹s2›+1:=λo=>by simp [Heap.push]
 let nS:(s2.heap.push { cls:=.type "list_iterator",data:=.fields #[.ref a,.int 0 0] }).objs.size∉[‹s2›,a]:=by
  intro hm;rcases zY0 hm with z | z
  . rw[hz1]at z;exact absurd z (Nat.succ_ne_self _)
  . let z:=NK z;rw[hz1]at z;exact absurd z (jU0 (wD0 NH))
 let gv:∀i v,its.toArray[i]?=some v->∃t,v=Value.int (ns[i]?.getD 0) t:=λi v hv=>by
  let%[b,t,hb|1]:=sk r' (i:=i) (v:=v) (by first | exact hv | simpa using hv | (rw[List.getElem?_toArray]at hv;exact hv));erw[t,by rw[hb];rfl]
 let n0:0<ns.length:=List.length_pos_iff.mpr hn;apply zI0 %[vF0 jA0 _|Es (g:=λi=>ns[i]?.getD 0) W gv nS (by rw[zS0,←hl];exact n0) %[%[_,zO0 _ (qB0 _ rfl),1|1]|(p.isList.push _).push _] (qB0 _ rfl) λt' h' tk kp=>?_];rw[zS0,←hl];let em:eJ (λi=>ns[i]?.getD 0) (ns.length-1)=BE ns 0:=by
  cases ns with
  |nil=>exact absurd rfl hn
  |cons _ _=>rfl
 rw[em];erw[.int _,H2,6,%[|0],q];let J:=Inv.turnedL (h':=h') (t':=tk) (ch:=[‹s2›,‹s2›+1]) I4 (λb o hb eb=>kp b o (λz=>hb (by rw[NK z];exact qF0)) (λz=>hb (by rw[z,hz1];exact qM0 _ qF0)) eb);apply J λb hb=>?_
 rcases zY0 hb with h | h
 . rw[h];exact I2.fpOk (zH0 _) (I2.hok.fresh (zH0 _))
 . rw[NK h];exact I2.fpOk (qN0 _) (I2.hok.fresh (qN0 _))
end
section
variable {prog:Program}{w:World}{A:Around}{E:#[6]}{s:Shared}
def zH{it t:Addr}{i:Nat}{items:Array Value}{x:Value}{Q:#[6]}(hit:s.heap.IsTupleIter it t i)(ht:s.heap.IsTuple t items)(hx:items[i]?=some x)
 (q:∀h',h'.IsTupleIter it t (i+1)->Heap.SameBut it s.heap h'->Q x { s with heap:=h' }):‹w.A› (Builtin.SmallTypes.nextOf (.ref it)) Q E s:=by
 let%[o,ho,hc|hd]:=id hit;erw[ol,hol,_,nl,hdl]at ht;unfold Builtin.SmallTypes.nextOf;apply zD0 (zQ1 (name:=Str.ofString "__next__") hit.typeIs qZ0 (qF1 qZ0 hit.typeIs F.entry_tuple_iterator_next ?_ (F.args_tuple_iterator_next_1 _)));show wpAny _ _ (field (.ref it) 0 >>= _) _ _ s;apply zD0 (zS1 ho hd (x:=.ref t) rfl ?_);show wpAny _ _ (if(Value.ref t==Value.none)=true then _ else _) _ _ s;rw[ND (show ¬ ((Value.ref t==Value.none)=true)from qI0)];show wpAny _ _ (field (.ref it) 1 >>= _) _ _ s;apply zD0 (zS1 ho hd (x:=.int i 0) rfl ?_);show wpAny _ _ (seqItems? (.ref t) >>= _) _ _ s;apply zD0 (qH1 hol hdl ?_);simp only[qS0,hx];apply zD0 (wpAny_setField ho hd #[2] (zI0 %[x,1|zI0 (q _ ?_ (Heap.SameBut.update ..))]));erw[_,Heap.get?_update_self _ ho (Obj.isFreed_of_fields (Obj.data_mapFields hd _)),(Obj.cls_mapFields ..).trans hc,by rw[Obj.data_mapFields hd];simp [rawInt]]
def xU{it t:Addr}{i:Nat}{items:Array Value}{Q:#[6]}(hh:A.handled=none)(hit:s.heap.IsTupleIter it t i)(ht:s.heap.IsTuple t items)(hx:items[i]?=none)
 (q:∀h' e,Heap.ExtBut it s.heap h'->(∃o,h'.get? e=some o/\o.cls=.type "StopIteration")->E (.ref e) { s with heap:=h' }):‹w.A› (Builtin.SmallTypes.nextOf (.ref it)) Q E s:=by
 let%[o,ho,hc|hd]:=id hit;erw[ol,hol,_,nl,hdl]at ht;unfold Builtin.SmallTypes.nextOf;apply zD0 (zQ1 (name:=Str.ofString "__next__") hit.typeIs qZ0 (qF1 qZ0 hit.typeIs F.entry_tuple_iterator_next ?_ (F.args_tuple_iterator_next_1 _)));show wpAny _ _ (field (.ref it) 0 >>= _) _ _ s;apply zD0 (zS1 ho hd (x:=.ref t) rfl ?_);show wpAny _ _ (if(Value.ref t==Value.none)=true then _ else _) _ _ s;rw[ND (show ¬ ((Value.ref t==Value.none)=true)from qI0)];show wpAny _ _ (field (.ref it) 1 >>= _) _ _ s;apply zD0 (zS1 ho hd (x:=.int i 0) rfl ?_);show wpAny _ _ (seqItems? (.ref t) >>= _) _ _ s;apply zD0 (qH1 hol hdl ?_);simp only[qS0,hx]
 first
  |apply zD0 (vC0 (zD0 (wpAny_setField ho hd #[2] (zD0 (jT1 ?_)))))
  |apply zD0 (vC0 (zD0 (wpAny_setField ho hd #[2] ?_)))
 show wpAny _ _ (newExc (.type "StopIteration") [] >>= _) _ _ _;apply zD0 ?_;simp only[newExc,newTuple];apply zD0 (zO1 ?_ (by size_fits));apply zD0 (m:=firstArgMember _ _) (jF0 (a:=Value.none) (by first | rfl | (simp only[firstArgMember];rfl)) ?_);apply zO1 ?_ (by size_fits);simp only[raiseNew];apply zD0 (wpAny_handled ?_)
 first | rw[show A.in1.handled=none from hh] | rw[hh]
 apply zD0 (zI0 (wpAny_throw ?_));exact q _ _ (((Heap.SameBut.update ..).extBut.push _).push _) %[_,qB0 _ rfl|1]
def Ca{e it t:Addr}{j:Nat}{i:Int}{old:Value}{items:Array Value}{Q:Option Value->Shared->Prop}(hh:A.handled=none)(he:IsEnum s.heap e it i old)(hit:s.heap.IsTupleIter it t j)(ht:s.heap.IsTuple t items)(hx:items[j]?=none)
 (q:∀h',Heap.ExtBut it s.heap h'->Q none { s with heap:=h' }):‹w.A› (pyNext (.ref e)) Q E s:=by
 let hT:s.TypeIs (.ref e) "enumerate":=%[_,he|1]
 unfold pyNext;apply zD0 (jZ0 (zQ1 (name:=Str.ofString "__next__") hT F.slot_enumerate_next (qF1 F.slot_enumerate_next hT F.entry_enumerate_next ?_ (F.args_enumerate_next_1 _))));show wpAny _ _ (field (.ref e) 2 >>= _) _ _ _;apply zD0 (zS1 he rfl (x:=.ref it) rfl ?_);apply zD0 (xU hh hit ht hx λh' x he' hx'=>?_);erw[o,ho,hc]at hx';apply zD0 (wI1 (T:="StopIteration") (b:=true) %[o,ho|hc] isSubtype_stop ?_);exact zI0 (q h' he')
end
def Cd{prog:Program}{w:World}{A:Around}(hh:A.handled=none)(it l:Addr)(hne:l≠it)(items:Array Value):Draws prog w A it [it,l] items.size (λi v=>items[i]?=some v) (λi h=>h.IsTupleIter it l i/\h.IsTuple l items) where
 live:=λ_ _ st=>let⟨o,ho,_⟩:=st.1;%[o|ho]
 frame:=λ_ _ _ st k=>%[st.1.at λo e=>k it #[2] o e|st.2.at λo e=>k l #[2] o e]
 item:=λi s Q E hi st q=>by
  apply zH st.1 st.2 (x:=items[i]) (by simp [hi]) λh' a b=>?_
  exact q _ h' s.toks (by simp [hi]) %[a|st.2.extBut b.extBut hne] b
 done:=λs Q E st q=>xU hh st.1 st.2 #[2] q
open AutoSeq1 (wpAny_loadPart') in
set_option maxHeartbeats 1000000 in
def wV(l:Addr)(items:Array Value)(n:Nat)(dct:Option Addr)(sl:Array (Option Value)):
 Meets (Builtin.«enumerate.__new__» %[[.type "enumerate",.ref l]|[]]) (λ_ R s=>s.heap.get? l=some { cls:=.type "tuple",dict:=dct,data:=.seq items n,slots:=sl }/\
  R (.ok (.ret (.ref (s.heap.push { cls:=.type "tuple_iterator",data:=.fields #[.ref l,.int 0 0] }).objs.size)))
   { s with heap:=(s.heap.push { cls:=.type "tuple_iterator",data:=.fields #[.ref l,.int 0 0] }).push { cls:=.type "enumerate",data:=.fields #[.none,.bool false,.ref ‹s›,rawInt 0,.none,.none] } }):=
 .of_wp λprog w A R s h=>by
  erw[hp,g,d,tk,os]at s;erw[hl,h]at h;let hsub:=sub_enumerate;let hL:Heap.IsTuple (Shared.heap %[hp,g,d,tk|os]) l items:=⟨_,hl,rfl,n,rfl⟩
  wp_walk using wpAny_loadPart' hl
  apply wpAny_stack_any λst=>zI0 ?_
  split
  . rename_i c _ _ _ _ _;cases(c==Value.type "enumerate")
    . wp_walk using wpAny_loadPart' hl,jK0 hL
      erw[0,h]
    . wp_walk using wpAny_loadPart' hl,jK0 hL
      erw[0,h]
  . wp_walk using wpAny_loadPart' hl,jK0 hL
    erw[0,h]
section
variable {prog:Program}{w:World}{A:Around}{E:#[6]}{s:Shared}
def zx{l:Addr}{items:Array Value}{Q:#[6]}(hL:s.heap.IsTuple l items)
 (q:∀h',IsEnum h' (‹s›+1) ‹s› 0 .none->h'.IsTupleIter ‹s› l 0->(∀b o,s.heap.get? b=some o->h'.get? b=some o)->Q (.ref (‹s›+1)) { s with heap:=h' }):
 ‹w.A› (call (.type "enumerate") [.ref l]) Q E s:=by
 erw[%[c,dct,dt|sl],hl,hc,n,hd]at hL
 replace hc:c=.type "tuple":=hc
 replace hd:dt=.seq items n:=hd
 subst hc hd;apply callType_new F.called_enumerate ⋯ (F.typeCall_enumerate_1 _) (F.newCall_enumerate_1 _) (λobj=>F.args_object_init_2 obj _) F.entry_enumerate_new (wV l items n dct sl) %[hl|6];let hz:(s.heap.push { cls:=.type "tuple_iterator",data:=.fields #[.ref l,.int 0 0] }).objs.size=‹s›+1:=jC1 ..;show _/\_;rw[hz];let he:IsEnum ((s.heap.push { cls:=.type "tuple_iterator",data:=.fields #[.ref l,.int 0 0] }).push { cls:=.type "enumerate",data:=.fields #[.none,.bool false,.ref ‹s›,rawInt 0,.none,.none] }) (‹s›+1) ‹s› 0 .none:=by
  have:=qB0 (s.heap.push { cls:=.type "tuple_iterator",data:=.fields #[.ref l,.int 0 0] }) (o:={ cls:=.type "enumerate",data:=.fields #[.none,.bool false,.ref ‹s›,rawInt 0,.none,.none] }) rfl
  rw[hz]at this;exact this
 erw[%[_,he|1],q _ he ⟨_,zO0 _ (qB0 _ rfl),rfl,rfl⟩ λb o x=>zO0 _ (zO0 _ x)]
end
def FK(K:W.Frag)(a:Addr):It:=
 ⟨λi H=>∃xs x,SqT K H a xs/\xs[i]?=some x,λi H y H'=>∃t,y=.ref t/\H t=none/\∀xs x,SqT K H a xs->xs[i]?=some x->H'=upd H t (.tup [.int i,x]),λi H=>∃xs,SqT K H a xs/\xs.length<=i⟩
def xT{K:W.Frag}{elts:List Expr}{k:Nat}{pos:Pos}(a e it:Addr)(hei:e≠it)(hai:a≠it)(hae:a≠e):
 Turn P w K (.Tuple elts k pos) (FK K a) [e,it] e (λi h=>(∃old,IsEnum h e it i old)/\h.IsTupleIter it a i) where
 mem:=by simp
 obj:=λi h st b hb=>by
  erw[%[old|he],o,e2,c,d]at st;rcases zY0 hb with z | z
  . subst z;erw[_,he,λv z=>nomatch z]
  . let z':=NK z;subst z';erw[o,e2,λv z=>by rw[d]at z;cases z]
 keep:=λi h h' st k=>by
  erw[%[old|he],hit]at st;erw[%[old|k e #[2] _ he],hit.at λo x=>k it #[2] o x]
 item:=by
  exists 5;erw[xs,x,hq,hx]at hg;let%[its,rv,p|hz]:=I.tuple hq;let%[u,hu|ru]:=rv.get hx;erw[%[old|he],hit]at st;let hi:i<its.toArray.size:=by
   rw[zS0];exact(zX0 hu).1
  apply wpAny_pyNext_enum_itemD (Cd (prog:=X.prog) (w:=X.w) (A:=X.A.in1) (I.ok.hd hc) it a hai its.toArray) he %[hit|p] hi hei (by simp [hei,Ne.symm hae]) λy h1 tk hy ho hst1 hT hsz hk=>?_
  let ey:y=u:=by
   let h1:its.toArray[i]?=some u:=#[hu,0]
   rw[h1]at hy;exact(zT0 hy).symm
  subst ey;erw[0,wpAny_letOwnedTupleGo_enum ho λh2 he2 hs2=>?_];let elt:e<‹s›:=zN0 he;let hT2:h2.get? ‹s›=some { cls:=.type "tuple",data:=.seq #[.int i tk,y] }:=(hs2.2 _ (Ne.symm (zV0 elt))).trans hT;let I2:#[8] (upd H ‹s› (.tup [.int i,x])) { s with heap:=h2,toks:=tk+1 }:=by
   apply I.turnedNew (ch:=[e,it]) (λb ob hb eb=>?_) hf (zH0 _) %[by show 2<=sizeLine;decide,[.int i tk,y],.cons %[|0] (.cons ru .nil),%[_,hT2,1|0],_,hT2|1];let b1:b≠e:=λz=>hb (by simp [z])
   let b2:b≠it:=λz=>hb (by simp [z])
   exact(hs2.2 b b1).trans (hk b ob b1 b2 eb)
  erw[.ref ‹s›,_,I2,1,%[0,I.hok.fresh (zH0 _)|λys z hy hyi=>?_],%[%[y|by simpa using he2]|hst1.1.at λo z=>(hs2.2 it (Ne.symm hei)).trans z],λb hb=>?_]
  . let e1:=I.tuple_inj hy hq;subst e1;rw[hx]at hyi;cases hyi;rfl
  . let z:=hf b hb;let NH:b<‹s›:=by
     rcases zY0 hb with y | y
     . rw[y];exact elt
     . rw[NK y];erw[o,e2,_]at hit;exact zN0 e2
    rw[ay (zV0 NH)];exact z.1
 done:=by
  exists 5;erw[xs,hq,hx]at hg;let%[its,rv,p|hz]:=I.tuple hq;erw[%[old|he],hit]at st;let hl:=rv.length;exact Ca (I.ok.hd hc) he hit p (Array.getElem?_eq_none (by simp;omega)) λh' eb=>%[1|I.turnedL (t':=s.toks) (ch:=[e,it]) (λb o hb eo=>eb b o (λz=>hb (by simp [z])) eo) hf]
 self:=λ_ _ _ _ _ st h=>by
  erw[%[old|he],_]at st;exact wC1 he h
section
variable {X:Cx}{elts:List Expr}{k:Nat}{tpos:Pos}
instance ZiEnumT(K:W.Frag)(R:(It->Hp->Prop))(x:V)(H1:Hp):∀a,x=.ref a->(∃xs,SqT K H1 a xs)->R (FK K a) H1:=0
def JA(K:W.Frag)(tl:TE):TI:=λσ H R=>tl σ H λx H1=>ZiEnumT K R x H1
def DF{p pos:Pos}(hg:Gl X "enumerate")(hm:X.mg "enumerate"=none)(hl:PE X l tl)(hs:starEach [l] X.env=[(false,eval l X.env)]:=by rfl):
 PI X (.Tuple elts k tpos) (.Call (.Name "enumerate" p) [l] [] pos) (JA X.K tl):=by
 exists 4,R,I,h;apply Call_ (gr I hg hm boot_enumerate (zK1 ?_ hs rfl));rw[hs];show wpAny _ _ (spliced ((false,eval l X.env)::backTo pos (starEach [] X.env))) _ _ s;apply qI1 (thn (hl NC s σ H _ I h) λu s1 ⟨x,H1,I1,r1,a,ex,⟨xs,hq⟩,q⟩=>?_);subst ex;cases r1;let%[its,rv,p|hz]:=I1.tuple hq;let alt:=p.lt;apply qY0 ?_;apply zx p λh' he hit hk=>?_
 apply wC1 he ?_;let I2:#[8] H1 { s1 with heap:=h' }:=I1.kept (t':=s1.toks) hk;erw[‹s1›+1,[‹s1›+1,‹s1›],_,_,H1,1,I2,xT a _ _ (jU0 (qM1 _)) (zV0 alt) (zV0 (wD0 alt)),%[%[_|he]|hit],λb hb=>?_,q];rcases zY0 hb with z | z
 . rw[z];exact I1.fpOk (qN0 _) (I1.hok.fresh (qN0 _))
 . rw[NK z];exact I1.fpOk (zH0 _) (I1.hok.fresh (zH0 _))
end
def BU{K:W.Frag}{xs:List V}{g:TG}{tb:TS}{D:Ends}{σ:St}{H:Hp}(Pv:Nat->St->Hp->Prop)(h0:Pv 0 σ H)(hl:∀i σ H,i<=xs.length->Pv i σ H->SqT K H a xs)
 (hs:∀i x σ H t,xs[i]?=some x->Pv i σ H->H t=none->g (.ref t) σ (upd H t (.tup [.int i,x])) λσ2 H2=>tb { D with nx:=Pv (i+1),ct:=Pv (i+1),bk:=D.nx } σ2 H2)(hd:∀ σ H,Pv xs.length σ H->D.nx σ H):
 ∃ W:Nat->Nat->St->Hp->Prop,(∃m,W 0 m σ H)/\∀i m σ H,W i m σ H ->
  ((FK K a).stop i H/\D.nx σ H)∨((FK K a).go i H/\∃N:St->Hp->Prop,(∀ σ' H',N σ' H'->∃m',m'<m/\W (i+1) m' σ' H')/\∀x H',(FK K a).yld i H x H'->g x σ H' λσ2 H2=>tb { D with nx:=N,ct:=N,bk:=D.nx } σ2 H2):=by
 erw[λi m σ H=>m=xs.length-i/\i<=xs.length/\Pv i σ H,%[xs.length,by simp,zU0 _|h0],6];rintro i m σ H ⟨rfl,hi,p⟩;let q:=hl i σ H hi p
 by_cases NH:i<xs.length
 . refine .inr %[%[xs,xs[i],q|by simp [NH]],Pv (i+1),λσ' H' p'=>%[xs.length-(i+1),3,1,NH|p']|λx H' y=>?_];erw[t,1,ht,e]at y;let e':=e xs xs[i] q (by simp [NH]);subst e';exact hs i xs[i] σ H t (by simp [NH]) p ht
 . let e:i=xs.length:=#[0]
   subst e;exact .inl %[%[xs,q|zH0 _]|hd σ H p]
def ItV(K:W.Frag)(a:Addr)(xs:List V):It:=%[λi H=>SqL K H a xs/\i<xs.length,λi H y H'=>H'=H/\xs.reverse[i]?=some y|λi _=>xs.length<=i]
def tG{K:W.Frag}(a it:Addr)(xs:List V):Turn P w K tg (ItV K a xs) [it] it (λi h=>i<=xs.length/\h.IsRevIter it a ((xs.length:Int)-1-(i:Int))) where
 mem:=by simp
 obj:=λi h st b hb=>by
  let e:b=it:=#[hb,0]
  subst e;erw[_,o,e,c,d]at st;erw[o,e,λv z=>by rw[d]at z;cases z]
 keep:=λi h h' st k=>%[st.1|st.2.at λo e=>k it #[2] o e]
 item:=by
  exists 5;erw[hq,hi]at hg;let%[its,rv,p|hz]:=I.list hq;let hj:xs.length-1-i<xs.length:=#[0]
  let hx:xs[xs.length-1-i]?=some xs[xs.length-1-i]:=zM0 hj;let%[u,hu|ru]:=rv.get hx;let%[f0,f1,f2,f3,f4|f5]:=hf it #[2];erw[_,hit]at st;let e1:((xs.length:Int)-1-(i:Int))=((xs.length-1-i:Nat):Int):=#[0]
  rw[e1]at hit;apply wpAny_pyNext_rev_item hit p.isList (x:=u) #[hu,0] λh' st' sb=>?_
  let I1:#[8] H { s with heap:=h' }:=I.turned (t':=s.toks) (λb o hb e=>(sb.2 b hb).trans e) f0 f1 f3 f4 f5;let e2:((xs.length-1-i:Nat):Int)-1=(xs.length:Int)-1-((i+1:Nat):Int):=#[0]
  rw[e2]at st';let%[o,e,c|d]:=id st';erw[u,1,ub (s:={ s with heap:=h' }) e c d ⋯ ⟨xs[xs.length-1-i],H,I1,ru,⟨rfl,?_⟩,⟨#[0],st'⟩,λb hb=>(hf b hb).1⟩];rw[jM1 hi,hx]
 done:=by
  exists 5;let hg:xs.length<=i:=hg;let%[f0,f1,f2,f3,f4|f5]:=hf it #[2];erw[hi,hit]at st;let e1:(xs.length:Int)-1-(i:Int)=-1:=#[0]
  rw[e1]at hit;exact wpAny_pyNext_rev_end (I.ok.hd hc) hit λh' eb=>%[1|I.turned (t':=s.toks) (λb o hb e=>eb b o hb e) f0 f1 f3 f4 f5]
 self:=λ_ _ _ _ _ st h=>wK1 st.2 h
section
variable {X:Cx}{tg:Expr}
instance ZiRevL(K:W.Frag)(R:(It->Hp->Prop))(x:V)(H1:Hp):∀a xs,x=.ref a->SqL K H1 a xs->R (ItV K a xs) H1:=0
def iRevL(K:W.Frag)(tl:TE):TI:=λσ H R=>tl σ H λx H1=>ZiRevL K R x H1
def GJ{p pos:Pos}(hg:Gl X "reversed")(hm:X.mg "reversed"=none)(hl:PE X l tl)(hs:starEach [l] X.env=[(false,eval l X.env)]:=by rfl):
 PI X tg (.Call (.Name "reversed" p) [l] [] pos) (iRevL X.K tl):=by
 exists 4,R,I,h;apply qS1 (gr I hg hm kM ?_);apply zK1 ?_ hs rfl;rw[hs];show wpAny _ _ (spliced ((false,eval l X.env)::backTo pos (starEach [] X.env))) _ _ s;apply qI1 (thn (hl NC s σ H _ I h) λu s1 ⟨x,H1,I1,r1,a,xs,ex,hq,q⟩=>?_);subst ex;cases r1;let%[its,rv,p|hz]:=I1.list hq;let hlen:=rv.length;apply qY0 ?_;apply call_reversed_list p.isList ?_;let hr:(s1.heap.push (revObj a ((its.toArray.size:Int)-1))).IsRevIter ‹s1› a ((xs.length:Int)-1-((0:Nat):Int)):=by
  let e:(xs.length:Int)-1-((0:Nat):Int)=(its.toArray.size:Int)-1:=by rw[zS0];omega
  rw[e];erw[_,qB0 _ rfl,1,1]
 apply wK1 hr ?_;erw[‹s1›,[‹s1›],_,_,H1,1,I1.kept (t':=s1.toks) λb o e=>zO0 _ e,tG a _ xs,%[zU0 _|hr],λb hb=>?_,q];let e:b=‹s1›:=#[hb,0]
 subst e;exact I1.fpOk (zH0 _) (I1.hok.fresh (zH0 _))
end
def xg{K:W.Frag}{xs:List V}{g:TG}{tb:TS}{D:Ends}{σ:St}{H:Hp}(Pv:Nat->St->Hp->Prop)(h0:Pv 0 σ H)(hl:∀i σ H,i<=xs.length->Pv i σ H->SqL K H a xs)
 (hs:∀i x σ H,i<xs.length->xs.reverse[i]?=some x->Pv i σ H->g x σ H λσ2 H2=>tb { D with nx:=Pv (i+1),ct:=Pv (i+1),bk:=D.nx } σ2 H2)(hd:∀ σ H,Pv xs.length σ H->D.nx σ H):
 ∃ W:Nat->Nat->St->Hp->Prop,(∃m,W 0 m σ H)/\∀i m σ H,W i m σ H ->
  ((ItV K a xs).stop i H/\D.nx σ H)∨((ItV K a xs).go i H/\∃N:St->Hp->Prop,(∀ σ' H',N σ' H'->∃m',m'<m/\W (i+1) m' σ' H')/\∀x H',(ItV K a xs).yld i H x H'->g x σ H' λσ2 H2=>tb { D with nx:=N,ct:=N,bk:=D.nx } σ2 H2):=by
 erw[λi m σ H=>m=xs.length-i/\i<=xs.length/\Pv i σ H,%[xs.length,by simp,zU0 _|h0],6];rintro i m σ H ⟨rfl,hi,p⟩;let q:=hl i σ H hi p
 by_cases NH:i<xs.length
 . refine .inr %[%[q|NH],Pv (i+1),λσ' H' p'=>%[xs.length-(i+1),3,1,NH|p']|λx H' y=>?_];erw[e,ex]at y;subst e;exact hs i x σ _ NH ex p
 . let e:i=xs.length:=#[0]
   subst e;exact .inl %[zH0 _|hd σ H p]
def tT{X:Cx}(K:W.Frag)(h:X.K=K:=by rfl):MtR X "list.count" (rCountL K):=by subst h;exact wR
section
variable {X:Cx}{o e:Expr}{es:List Expr}{to ta:TE}{t:TA}{T id:String}{name f:Str}{r:V->List V->Hp->VK->Prop}{NN NJ pos:Pos}
def DK(K:W.Frag)(pa:PlainAttrs T)(slot:Slot T name id)(hty:typeOf (.builtin id)=pure (.type "method_descriptor"))(hm:MtR X id r)(ho:PE X o to)(ha:PA X (e::es) t)(hK:X.K=K:=by rfl)
 (hbase:attributeBase o name X.env (eval o X.env)=eval o X.env:=by rfl)
 (hfew:((backTo NJ (starEach (e::es) X.env)).all (λx=>!x.1)&&(backToKw NJ (keywordEach [] X.env)).all (λx=>x.1.isSome)&&decide ((e::es).length+([]:List Keyword).length+(if([]:List Keyword).isEmpty then 0 else 1)<30))=true:=by rfl)
 (hline:(NN.endLine==NJ.line)=true:=by rfl)(hs:starEach (e::es) X.env=(false,eval e X.env)::starEach es X.env:=by rfl)(hplain:(backTo NJ (starEach es X.env)).any (·.1)=false:=by rfl):
 PE X (.Call (.Attribute o name NN) (e::es) [] NJ) (tBM K T r to t):=by subst hK;exact eR pa slot hty hm ho ha hbase hfew hline hs hplain
def ld(K:W.Frag)(he:PE X e ta)(hK:X.K=K:=by rfl)(hb:attributeBase e f X.env (eval e X.env)=eval e X.env:=by rfl):PE X (.Attribute e f pos) (tFld K ta f):=by subst hK;exact aB he hb
end
@[reducible] def jQ (X:Cx) (x:Str) (N:List Str) (scope:Scope) (cl:List (Str×Addr)) (s:Shared) (H:Hp) (fp:List Addr):Cx where
 prog:=X.prog
 w:=X.w
 K:=X.K
 mg:=X.mg
 base:=X.base
 A:=X.A
 N:=x::N
 s₀:=s
 H₀:=H
 env:=compEnvC scope ((x,‹s›+1)::cl) ‹s› X.env
 outer:=X.stack
 stack:=X.stack
 ex:=fp
 fn:=λy=>y==x
 calm:=X.calm
 pn:=[]
 xe:=λ_ _=>False
structure CompScopeO(X:Cx)(x:Str)(N:List Str)(ix:List Nat)(scope:Scope)(cl:List (Str×Addr)):Prop where
 clos:closureFor scope X.env=pure cl
 lay:∀(n:Addr) (h:Heap),cellsFrom n scope.names cl=(x,n)::cl/\pushCells h scope.names=h.push { cls:=.type "cell",data:=.cell none }
 kind:scope.kind=.function
 names:∀y∈scope.names,y.2=.local->scope.names.lookup y.1=some .local
 own:(relabel scope X.env).names.lookup x=some .cell
 nd:(x::N).Nodup
 sub:∀p∈cl,X.env.cells.lookup p.1=some p.2
 has:((relabel scope X.env).names.all λp=>!(p.2==.cell||p.2==.free)||(p.1==x||(cl.lookup p.1).isSome))=true
 outs:∀(j:Nat)(y:Str),N[j]?=some y->(relabel scope X.env).names.lookup y=some .cell/\∃k c,ix[j]?=some k/\X.N[k]?=some y/\cl.lookup y=some c/\X.env.scope.names.lookup y=some .cell
section
variable {X:Cx}{NC:#[7]}{σ:St}{x:Str}{N:List Str}{ix:List Nat}{scope:Scope}{cl:List (Str×Addr)}{fp:List Addr}{H3:Hp}{s3:Shared}
def CompScopeO.cells(S:CompScopeO X x N ix scope cl){y:Str}{c:Addr}(h:cl.lookup y=some c):X.env.cells.lookup y=some c:=S.sub _ (zZ1 h)
def fg{x y:Str}{n c:Addr}{cl:List (Str×Addr)}(h:((x,n)::cl).lookup y=some c):(y=x/\c=n)∨(y≠x/\cl.lookup y=some c):=by
 by_cases e:y=x
 . subst e
   simp [List.lookup]at h
   exact .inl %[1|h.symm]
 . let e':(y==x)=false:=#[e,0]
   simp only[List.lookup,e']at h;exact .inr %[e|h]
def kK{x y:Str}{n:Addr}{cl:List (Str×Addr)}(e:y≠x):((x,n)::cl).lookup y=cl.lookup y:=by
 let e':(y==x)=false:=#[e,0]
 simp only[List.lookup,e']
def xB(S:CompScopeO X x N ix scope cl)(I3:#[8] H3 s3)(hf:∀b∈fp,iN X NC H3 b)(NH:∀b∈fp,b<‹s3›):(jQ X x N scope cl s3 H3 fp).Ok where
 mod:=I3.ok.mod
 kind:=S.kind
 glob:=I3.ok.glob
 blt:=I3.ok.blt
 above:=zH0 _
 inj:=λy z c h1 h2=>by
  let lt:∀y c,cl.lookup y=some c->c<‹s3›:=λy c e=>by
   let%[v|q]:=I3.cell y c (S.cells e);exact q.lt
  rcases fg h1 with⟨e1,c1⟩ | ⟨e1,l1⟩ <;> rcases fg h2 with⟨e2,c2⟩ | ⟨e2,l2⟩
  . rw[e1,e2]
  . exact absurd (lt z c l2) (by rw[c1];exact Nat.not_lt.mpr (qN0 _))
  . exact absurd (lt y c l1) (by rw[c2];exact Nat.not_lt.mpr (qN0 _))
  . exact I3.ok.inj y z c (S.cells l1) (S.cells l2)
 has:=λy hy=>by
  by_cases e:y=x
  . subst e;erw[‹s3›+1,by show((y,‹s3›+1)::cl).lookup y=_;simp [List.lookup]]
  let q:=List.all_eq_true.mp S.has;let hy:(relabel scope X.env).names.lookup y=some .cell∨(relabel scope X.env).names.lookup y=some .free:=hy;let z:∀k:NameKind,(k==.cell||k==.free)=true->(relabel scope X.env).names.lookup y=some k->∃c,((x,‹s3›+1)::cl).lookup y=some c:=λk hk e2=>by
   let r:=q _ (zZ1 e2);let ey:(y==x)=false:=#[e,0]
   rw[hk]at r;rw[kK e];let r':(cl.lookup y).isSome=true:=by simpa [ey]using r
   exact Option.isSome_iff_exists.mp r'
  rcases hy with e | e
  . exact z _ (by rfl) e
  . exact z _ (by rfl) e
 cab:=λy c h e=>by
  let ey:y=x:=by simpa using(show(y==x)=true from h)
  rcases fg e with⟨_,c1⟩ | ⟨n,_⟩
  . rw[c1];exact qN0 _
  . exact absurd ey n
 hd:=I3.ok.hd
 frames:=I3.ok.frames
 stk:=.inl rfl
 exf:=λb hb=>⟨zV0 (NH b hb),λy c e=>by
  rcases fg e with⟨_,c1⟩ | ⟨_,l⟩
  . rw[c1];exact jU0 (wD0 (NH b hb))
  . exact(hf b hb).2.2.2.2.1 y c (S.cells l)⟩
 bs:=λb o e=>I3.bs b o e
 bsz:=zQ0 I3.ok.bsz I3.sz
 noex:=λb o e hb=>by
  rcases(hf b hb).2.2.2.1 with z | z
  . exact I3.ok.noex b o e z
  . exact absurd (qQ0 (zN0 e) (zQ0 I3.ok.bsz z)) (qT0 _)
 exfs:=λb hb z=>by
  rcases zY0 (I3.stkSub b z)with e | e
  . exact(hf b hb).2.1 e
  . exact(hf b hb).2.2.1 e
 funs:=I3.stack
 frf:=I3.stkFree
def xA(S:CompScopeO X x N ix scope cl)(I3:#[8] H3 s3)(hf:∀b∈fp,iN X NC H3 b)(NH:∀b∈fp,b<‹s3›)(hix:ix.length=N.length){h1:Heap}{t':Nat}{m:#[9]}
 (hn:h1.Ns ‹s3› m)(hc:h1.IsCell (‹s3›+1) none)(hk:∀b o,s3.heap.get? b=some o->h1.get? b=some o):Inv (jQ X x N scope cl s3 H3 fp) [] (none::outs ix σ) H3 { s3 with heap:=h1,toks:=t' } where
 ok:=xB S I3 hf NH
 os:=rfl
 bare:=I3.bare
 base:=Un.kept hk
 loc:=by
  erw[m,hn,λi y v h1' h2 h3=>?_];cases i with
  |zero=>
    let h2':(some (none:Option V))=some (some v):=h2;cases h2'
  |succ j=>
    let h1'':N[j]?=some y:=h1';let h2':(outs ix σ)[j]?=some (some v):=h2;let nyx:y≠x:=λz=>(List.nodup_cons.mp S.nd).1 (z▸qC0 h1'')
    let%[hr,k,c,e1,e2,e3|e4]:=S.outs j y h1'';unfold outs at h2';rw[zW0,e1]at h2';let h2'':(σ[k]?).join=some v:=zT0 h2';let e5:σ[k]?=some (some v):=by
     cases q:σ[k]? with
     |none=>rw[q]at h2'';cases h2''
     |some o=>rw[q]at h2'';exact congrArg some h2''
    erw[m0,_,hl]at I3.loc;let%[u,r|l]:=hl k y v e2 e5 (.inr (.inl e4));erw[u,r,.inr %[.inl hr,c,(kK nyx).trans e3|6]];rcases l with⟨kk,_⟩ | ⟨_,c',ec,z⟩
    . let kk':X.env.scope.names.lookup y=some .local:=kk;rw[e4]at kk';cases kk'
    . rw[S.cells e3]at ec;cases ec;erw[o,ho,hd]at z;erw[o,hk _ _ ho,hd]
 cell:=λy c e=>by
  rcases fg e with⟨_,c1⟩ | ⟨_,l⟩
  . rw[c1];erw[none,hc]
  . let%[v,o,ho|hd]:=I3.cell y c (S.cells l);erw[v,o,hk _ _ ho,hd]
 free:=I3.hok.fresh (zH0 _)
 freeC:=λy c e=>by
  rcases fg e with⟨_,c1⟩ | ⟨_,l⟩
  . rw[c1];exact I3.hok.fresh (qN0 _)
  . exact I3.freeC y c (S.cells l)
 pin:=λp hp=>absurd (show p∈([]:#[7])from hp) #[2]
 hok:=I3.hok.kept hk
 len:=by
  show(none::outs ix σ).length=(x::N).length;rw[zP0,zP0];unfold outs;rw[zF0,hix]
def zw(I3:#[8] H3 s3)(hf:∀b∈fp,iN X NC H3 b){σ':St}{h'':Heap}(J:Inv (jQ X x N scope cl s3 H3 fp) [] σ' H' s')(hb:Heap.SameBut ‹s3› s'.heap h''):
 #[8] H' { s' with heap:=h'' }:=by
 let ne:∀b o,s3.heap.get? b=some o->b≠‹s3›:=λb o e=>zV0 (zN0 e)
 let B:Un (frs X.stack) fp H3 H' s3.heap s'.heap:=J.base;apply I3.call' (s':={ s' with heap:=h'' }) (ch:=fp) J.os ⟨λb o e n h1 h2=>(hb.2 b (ne b o e)).trans (B.keep b o e n h1 h2),λb o e n h1 h2=>?_,B.free,λb o e h2=>?_,B.tups,B.frzs,B.tbls⟩ (λb ob e=>?_) J.bare (λb z=>?_)
 . let%[sl|q]:=B.slot b o e n h1 h2;erw[sl,(hb.2 b (ne b o e)).trans q]
 . let%[o'|q]:=B.there b o e h2;erw[o',(hb.2 b (ne b o e)).trans q]
 . let fr:H' ‹s3›=none:=J.free;refine(J.hok b ob e).stay (λc w' hc q=>(hb.2 c ?_).trans q) (λ_ q=>q) λ_ _ q=>q
   rintro rfl;rcases hc with rfl | hc
   . rw[fr]at e;cases e
   . rw[fr]at hc;cases hc
 . let%[_,h2,_,h4,h5|h6]:=hf b z;erw[h4,h2,h5,h6]
end
section
variable {M:Model}{A:Around}{E:#[6]}{s:Shared}
def Ei{scope:Scope}{globals:Addr}{cl:List (Str×Addr)}{x qual:Str}{env:Env}{Q:Env->Shared->Prop}(lay:∀(n:Addr) (h:Heap),cellsFrom n scope.names cl=(x,n)::cl/\pushCells h scope.names=h.push { cls:=.type "cell",data:=.cell none })
 (q:∀h',h'.Ns ‹s› (λ_=>none)->h'.IsCell (‹s›+1) none->(∀b o,s.heap.get? b=some o->h'.get? b=some o) ->
  Q { scope:=scope,locals:=‹s›,globals:=globals,cells:=(x,‹s›+1)::cl,qual:=qual,func:=none,code:=env.code,frame:=env.frame,builtins:=env.builtins } { s with heap:=h' }) :
 wpAny M A (newFunctionEnv scope globals cl [] qual none .none (some env)) Q E s:=by
 simp only[newFunctionEnv,Option.isSome_some,vK0];apply zD0 (wpAny_alloc ?_);apply zD0 (wpAny_layCells _ (λname kind cells=>by cases hkc:kind==NameKind.cell <;> simp [hkc]) _ _ _ _ ?_);let hz:(s.heap.push { cls:=.type "dict",data:=.dict #[] }).objs.size=‹s›+1:=jC1 ..;rw[show({ s with heap:=s.heap.push { cls:=.type "dict",data:=.dict #[] } }:Shared).heap.objs.size=‹s›+1 from hz,(lay _ s.heap).1];show wpAny M A (do let _ ←(forIn [] PUnit.unit λ_ _=>_:Sem PUnit);pure _) Q E _;rw[List.forIn_nil];apply zD0 (zI0 (zI0 ?_));rw[(lay 0 _).2];apply q _ ((Heap.Ns.new s.heap (.type "dict")).keeps λb o e=>zO0 _ e) ?_ λb o e=>zO0 _ (zO0 _ e)
 rw[←hz];erw[_,qB0 _ rfl,1]
end
section
variable {X:Cx}{x:Str}{N:List Str}{ix:List Nat}{scope:Scope}{cl:List (Str×Addr)}{elt iter:Expr}{ifs:List Expr}{px pos:Pos}{wi:TI}{tb:TBl}
def Ch(hc:X.calm=true)(S:CompScopeO X x N ix scope cl)(hix:ix.length=N.length)(hb:∀s3 H3 fp,PB (jQ X x N scope cl s3 H3 fp) ifs elt tb)
 {σ:St}{Q:VK}{fp:List Addr}{RR:Value->Addr->Result->Shared->Prop}{E:#[6]}
 (I2:#[8] H2 s2)(T:Turn X.prog X.w X.K (.Name x px) J fp it tn)(st2:tn 0 s2.heap)(f2:∀b∈fp,iN X NC H2 b)
 (h:∀D,H2 D=none->∃W:Nat->Nat->Hp->Prop,(∃m,W 0 m (upd H2 D (.lst [])))/\∀i m H3,W i m H3 ->
  (J.stop i H3/\Q (.ref D) H3)∨(J.go i H3/\∀y H4,J.yld i H3 y H4->tb (some y::outs ix σ) H4 (λH5=>∃m',m'<m/\W (i+1) m' H5)
   λz H5=>∃ys,H5 D=some (.lst ys)/\ys.length<sizeLine/\∃m',m'<m/\W (i+1) m' (upd H5 D (.lst (ys++[z])))))
 (hRR:∀(D C:Addr)(H':Hp)(s':Shared)(m:#[9]),s'.heap.Ns C m->Apart X NC H' C->#[8] H' s'->Q (.ref D) H'->RR (.ref D) C (.ok .next) s') :
 ‹X.w› (newList []) (λacc s3=>‹X.w› (newFunctionEnv scope X.env.globals cl [] X.env.qual none .none (some X.env)) (λcenv s4=>
  codeAny (model X.prog X.w) X.A (.compStart (.ListComp elt [%[.Name x px,iter,ifs|(0)]] scope pos) 0 (.ref it) acc { cenv with scope:=relabel scope X.env }) (RR acc cenv.locals) s4) E s3) E s2:=by
 apply zO1 (Ei S.lay λh1 hns1 hcl1 up1=>?_)
 dsimp only at hns1 hcl1 up1 ⊢
 let I3:#[8] (upd H2 ‹s2› (.lst [])) { s2 with heap:=s2.heap.push { cls:=.type "list",dict:=none,data:=.seq ([]:List Value).toArray } }:=I2.lnew (its:=[]) (ys:=[]) (t':=s2.toks) .nil (zU0 _);let hD:H2 ‹s2›=none:=I2.fresh;let%[W,%[m0|w0]|turn]:=h ‹s2› hD;let hltF:∀b∈fp,b<‹s2›:=λb hb=>by
  let%[o,e|_]:=T.obj 0 _ st2 b hb;exact zN0 e
 generalize hs3:({ s2 with heap:=s2.heap.push { cls:=.type "list",dict:=none,data:=.seq ([]:List Value).toArray } }:Shared)=s3 at I3;let eh:s2.heap.push { cls:=.type "list",dict:=none,data:=.seq ([]:List Value).toArray }=s3.heap:=by rw[←hs3]
 let et:s2.toks=s3.toks:=by rw[←hs3]
 rw[eh]at hns1 hcl1 up1 ⊢;let sz3:‹s3›=‹s2›+1:=by rw[←eh,jC1]
 let hlt3:∀b∈fp,b<‹s3›:=λb hb=>qQ0 (hltF b hb) (by rw[sz3];exact qN0 _)
 let f3:∀b∈fp,iN X NC (upd H2 ‹s2› (.lst [])) b:=λb hb=>by
  let%[q1|q2]:=f2 b hb;erw[by rw[ay (zV0 (hltF b hb))];exact q1,q2]
 let up:∀b o,s3.heap.get? b=some o->h1.get? b=some o:=up1
 let old:∀b o,s2.heap.get? b=some o->h1.get? b=some o:=λb o e=>up b o (by rw[←eh];exact zO0 _ e)
 let es:({ s2 with heap:=h1 }:Shared)={ s3 with heap:=h1,toks:=s3.toks }:=by rw[←hs3]
 rw [es];let I4:Inv (jQ X x N scope cl s3 (upd H2 ‹s2› (.lst [])) fp) [] (none::outs ix σ) (upd H2 ‹s2› (.lst [])) { s3 with heap:=h1,toks:=s3.toks }:=
  xA S I3 f3 hlt3 hix hns1 hcl1 up
 let st4:tn 0 h1:=T.keep 0 _ _ st2 λb _ o e=>old b o e
 let loop:codeAny (model X.prog X.w) X.A (.compLoop (.ListComp elt [%[.Name x px,iter,ifs|(0)]] scope pos) 0 (.ref it) (.ref ‹s2›) (compEnvC scope ((x,‹s3›+1)::cl) ‹s3› X.env)) (RR (.ref ‹s2›) ‹s3›)
  { s3 with heap:=h1,toks:=s3.toks }:=by
  let k:=xB S I3 f3 hlt3;apply pe (Y:=jQ X x N scope cl s3 (upd H2 ‹s2› (.lst [])) fp) (Pf:=λσ'=>∃v0,σ'=v0::outs ix σ) hc (λ_ _ z=>z) T (aX (i:=0) S.nd rfl (.inr S.own) (.inl (by show(x==x)=true;simp))) (hb _ _ _) (λhn b hb=>%[hn b hb,(k.exf b hb).1,k.exfs b hb,.inl hb,(k.exf b hb).2|λp hp=>absurd (show p∈([]:#[7])from hp) #[2]]) (λi m H5 w5=>(turn i m H5 w5).imp (fun⟨stop,qn⟩=>%[stop|λσ' s6 _ I6=>?_]) (fun⟨go,step⟩=>⟨go,λy H3 y7 σ' ⟨v0,e⟩=>by
   subst e;erw[%[|0],step y H3 y7]⟩)) ⟨none,rfl⟩ I4 st4 (λb hb=>(f3 b hb).1) w0
  erw[m6,hn6,_]at I6.loc;exact hRR _ _ H5 s6 m6 hn6 ⟨I6.free,Ne.symm (zV0 I3.lt),I3.sz,λy c e z=>by
   let%[v|q]:=I3.cell y c e;exact absurd q.lt (by rw[z];exact qT0 _),λp hp z=>absurd (zN0 (I3.pin p hp).1) (by rw[z];exact qT0 _)⟩ (zw I3 f3 I6 (Heap.SameBut.refl _ _)) qn
 exact wB1 loop (T.self _ 0 _ _ _ st4 loop)
def wA(hc:X.calm=true)(S:CompScopeO X x N ix scope cl)(hix:ix.length=N.length)(hi:PI X (.Name x px) iter wi)(hb:∀s3 H3 fp,PB (jQ X x N scope cl s3 H3 fp) ifs elt tb)
 (hs:∀x,foldedSetIterable iter X.env x=pure x:=by intro _;rfl):PE X (.ListComp elt [%[.Name x px,iter,ifs|(0)]] scope pos) (xV wi ix tb):=by
 exists 4,Q,I,h;rw[eval_ListComp];apply jE0 (use:=none) rfl hs S.clos S.kind S.names (thn (hi NC s σ H _ I h) λxv s1 h1=>thn h1 λitv s2 h2=>?_);erw[it,fp,tn,J,H2,1,I2,T,st2,f2,R]at h2;apply Ch hc S hix hb (RR:=λacc C=>compPost (model X.prog X.w) X.A X.xe none (EP X NC σ Q) acc C) I2 T st2 f2 R ?_;intro D C H' s' m hn ap I' q;erw[m,hn,λh'' hb''=>%[.ref D,H',ap.turn I' hb'',1|q]]
def CompScopeO.one{y:Str}{k:Nat}{c:Addr}(c1:closureFor scope X.env=pure [(y,c)])(c2:∀(n:Addr) (h:Heap),cellsFrom n scope.names [(y,c)]=(x,n)::[(y,c)]/\pushCells h scope.names=h.push { cls:=.type "cell",data:=.cell none })(c3:scope.kind=.function)(c4:∀y∈scope.names,y.2=.local->scope.names.lookup y.1=some .local)
 (c5:(relabel scope X.env).names.lookup x=some .cell)(nd:[x,y].Nodup)(hc:X.env.cells.lookup y=some c)(c6:((relabel scope X.env).names.all λp=>!(p.2==.cell||p.2==.free)||(p.1==x||(([(y,c)]:List (Str×Addr)).lookup p.1).isSome))=true)
 (hr:(relabel scope X.env).names.lookup y=some .cell)(hk:X.N[k]?=some y)(hs:X.env.scope.names.lookup y=some .cell):CompScopeO X x [y] [k] scope [(y,c)] where
 clos:=c1
 lay:=c2
 kind:=c3
 names:=c4
 own:=c5
 nd:=nd
 sub:=λp hp=>by
  rw[NK hp];exact hc
 has:=c6
 outs:=λj z h=>by
  cases j with
  |zero=>
    let e:y=z:=zT0 h;subst e;erw[hr,k,c,1,hk,by simp [List.lookup],hs]
  |succ j=>simp at h
def sI(K:W.Frag)(hK:X.K=K:=by rfl):hV X (.type "tuple") (rTupOf K):=by subst hK;exact bi
end
def CompScope.four{X:Cx}{x y z u v:Str}{scope:Scope}{k l m n:Nat}{c d e g:Addr}{cl:List (Str×Addr)}(c1:closureFor scope X.env=pure cl)(c2:∀y∈scope.names,y.2≠.cell)(c3:scope.kind=.function)(c4:∀y∈scope.names,y.2=.local->scope.names.lookup y.1=some .local)
 (c5:scope.names.lookup x=some .local)(nd:[x,y,z,u,v].Nodup)(hcl:cl=[(y,c),(z,d),(u,e),(v,g)])(hc:X.env.cells.lookup y=some c)(hd:X.env.cells.lookup z=some d)(he:X.env.cells.lookup u=some e)(hg:X.env.cells.lookup v=some g)(c6:((relabel scope X.env).names.all λp=>!(p.2==.cell||p.2==.free)||(cl.lookup p.1).isSome)=true)
 (hr:(relabel scope X.env).names.lookup y=some .cell)(hk:X.N[k]?=some y)(hs:X.env.scope.names.lookup y=some .cell)
 (hr2:(relabel scope X.env).names.lookup z=some .cell)(hk2:X.N[l]?=some z)(hs2:X.env.scope.names.lookup z=some .cell)
 (hr3:(relabel scope X.env).names.lookup u=some .cell)(hk3:X.N[m]?=some u)(hs3:X.env.scope.names.lookup u=some .cell)
 (hr4:(relabel scope X.env).names.lookup v=some .cell)(hk4:X.N[n]?=some v)(hs4:X.env.scope.names.lookup v=some .cell):CompScope X x [y,z,u,v] [k,l,m,n] scope cl where
 clos:=c1
 nocell:=c2
 kind:=c3
 names:=c4
 own:=c5
 nd:=nd
 sub:=λp hp=>by
  subst hcl;rcases zY0 hp with h | h
  . rw[h];assumption
  . rcases zY0 h with h | h
    . rw[h];assumption
    . rcases zY0 h with h | h
      . rw[h];assumption
      . rw[NK h];assumption
 has:=c6
 outs:=λj w h=>by
  let nyz:y≠z:=λe=>by simp [e]at nd
  let nyu:y≠u:=λe=>by simp [e]at nd
  let nyv:y≠v:=λe=>by simp [e]at nd
  let nzu:z≠u:=λe=>by simp [e]at nd
  let nzv:z≠v:=λe=>by simp [e]at nd
  let nuv:u≠v:=λe=>by simp [e]at nd
  subst hcl
  match j,h with
  |0,h=>
    let e:y=w:=zT0 h;subst e;erw[hr,k,c,1,hk,by simp [List.lookup],hs]
  |1,h=>
    let e:z=w:=zT0 h;subst e
    have:(z==y)=false:=#[Ne.symm nyz,0]
    erw[hr2,l,d,1,hk2,by simp [List.lookup,this],hs2]
  |2,h=>
    let ew:u=w:=zT0 h;subst ew;let h1:(u==y)=false:=#[Ne.symm nyu,0]
    let h2:(u==z)=false:=#[Ne.symm nzu,0]
    erw[hr3,m,e,1,hk3,by simp [List.lookup,h1,h2],hs3]
  |3,h=>
    let ew:v=w:=zT0 h;subst ew;let h1:(v==y)=false:=#[Ne.symm nyv,0]
    let h2:(v==z)=false:=#[Ne.symm nzv,0]
    let h3:(v==u)=false:=#[Ne.symm nuv,0]
    erw[hr4,n,g,1,hk4,by simp [List.lookup,h1,h2,h3],hs4]
  |j+4,h=>simp at h
def Cm(lo c:Int)(n:Nat):It:=%[λi _=>i<n,λi H x H'=>H'=H/\x=.int (lo+i*c)|λi _=>n<=i]
def vZ{K:W.Frag}(it:Addr)(lo c:Int)(n:Nat):Turn P w K tg (Cm lo c n) [it] it (λi h=>IsRangeIter h it (lo+(i:Nat)*c) ((n:Int)-(i:Nat)) c) where
 mem:=by simp
 obj:=λi h st b hb=>by
  let e:b=it:=#[hb,0]
  subst e;exact⟨_,st,λv z=>by
   let z':Data.fields _=Data.cell v:=z;cases z'⟩
 keep:=λi h h' st k=>k it #[2] _ st
 item:=by
  exists 5;let%[f0,f1,f2,f3,f4|f5]:=hf it #[2];let W:=Walks.range (prog:=X.prog) (w:=X.w) (I.ok.hd hc) it lo c n;apply W.item i s _ _ hg st λv h' tk hv st' kk=>?_
  erw[t,1]at hv;let I1:#[8] H { s with heap:=h',toks:=tk }:=I.turned (λb o hb e=>kk b o #[hb,0] e) f0 f1 f3 f4 f5;erw[0,ub (s:={ s with heap:=h',toks:=tk }) (n:="range_iterator") st' rfl rfl ⋯ ⟨.int (lo+i*c),H,I1,⟨t,rfl⟩,⟨rfl,rfl⟩,st',λb hb=>(hf b hb).1⟩]
 done:=by
  exists 5;let%[f0,f1,f2,f3,f4|f5]:=hf it #[2];exact wpAny_pyNext_range_end (I.ok.hd hc) st (by have:n<=i:=hg;omega) λh' eb=>%[1|I.turned (t':=s.toks) (λb o hb e=>eb b o hb e) f0 f1 f3 f4 f5]
 self:=λ_ _ _ _ _ st h=>wpAny_pyIter_rangeiter st h
section
variable {X:Cx}{tg:Expr}
def Bg{σ:St}{R:It->Hp->Prop}{E:#[6]}{lo hi c:Int}{t u v:Tok}{tk:Nat}(I:#[8] H s)(hs:Builtin.Range.small lo hi c=true)
 (q:R (Cm lo c (Builtin.Range.rangeSize lo hi c).toNat) H):‹X.w› (pyIter (.ref ‹s›)) (PIE X NC σ tg R) E { s with heap:=s.heap.push { cls:=.type "range",data:=.fields #[.int lo t,.int hi u,.int c v] },toks:=tk }:=by
 apply wpAny_pyIter_range (IsRange.new ..) hs ?_;let I1:#[8] H { s with heap:=s.heap.push { cls:=.type "range",data:=.fields #[.int lo t,.int hi u,.int c v] },toks:=tk }:=I.kept λb o e=>zO0 _ e
 erw[(s.heap.push { cls:=.type "range",data:=.fields #[.int lo t,.int hi u,.int c v] }).objs.size,[(s.heap.push { cls:=.type "range",data:=.fields #[.int lo t,.int hi u,.int c v] }).objs.size],_,_,H,1,I1.kept (t':=tk) λb o e=>zO0 _ e,vZ _ lo c (Builtin.Range.rangeSize lo hi c).toNat,6,λb hb=>?_,q]
 . let e1:lo+((0:Nat):Int)*c=lo:=by simp
   let e2:(((Builtin.Range.rangeSize lo hi c).toNat:Nat):Int)-((0:Nat):Int)=Builtin.Range.rangeSize lo hi c:=by rw[←rangeSize_toNat];simp
   show IsRangeIter _ _ (lo+((0:Nat):Int)*c) ((((Builtin.Range.rangeSize lo hi c).toNat:Nat):Int)-((0:Nat):Int)) c;rw[e1,e2];exact qB0 _ rfl
 . let e:b=(s.heap.push { cls:=.type "range",data:=.fields #[.int lo t,.int hi u,.int c v] }).objs.size:=#[hb,0]
   subst e;exact I1.fpOk (zH0 _) (I1.hok.fresh (zH0 _))
instance ZiRng3(R:(It->Hp->Prop))(vs:(List V))(H1:Hp):∀i j c:Int,vs=[.int i,.int j,.int c]->0<c->c<1000000->Builtin.Range.small i j c=true->R (Cm i c (Builtin.Range.rangeSize i j c).toNat) H1:=0
def iRng3(ta:TA):TI:=λσ H R=>ta σ H λvs H1=>ZiRng3 R vs H1
def Bk{a b c:Expr}{p pos:Pos}(hg:Gl X "range")(hm:X.mg "range"=none)(ha:PA X [a,b,c] ta)(hs:starEach [a,b,c] X.env=[(false,eval a X.env),(false,eval b X.env),(false,eval c X.env)]:=by rfl)(hs2:starEach [b,c] X.env=[(false,eval b X.env),(false,eval c X.env)]:=by rfl):
 PI X tg (.Call (.Name "range" p) [a,b,c] [] pos) (iRng3 ta):=by
 exists 4,R,I,h;apply Call_ (gr I hg hm boot_range (zK1 (thn (ha pos NC s σ H _ I h) λus s1 ⟨vs,H1,I1,r1,q1⟩=>?_) (by rw[hs,hs2]) (by rw[hs2];rfl)));erw[i,j,d,e,d0,d9,q1,q]at q1;subst e;cases r1 with
 |cons r rr=>
   cases rr with
   |cons r' rr=>
     cases rr with
     |cons r3 rr=>
       cases rr;erw[t,1]at r;erw[t',1]at r';erw[t3,1]at r3;exact call_range_3 #[0] (Bg I1 q1 q) (Or.inl (PyProof.noPylong_small #[0]))
end
def zq{lo c:Int}{n:Nat}{g:TG}{tb:TS}{D:Ends}{σ:St}{H:Hp}(Pv:Nat->St->Hp->Prop)(h0:Pv 0 σ H)
 (hs:∀i σ H,i<n->Pv i σ H->g (.int (lo+i*c)) σ H λσ2 H2=>tb { D with nx:=Pv (i+1),ct:=Pv (i+1),bk:=D.nx } σ2 H2)(hd:∀ σ H,Pv n σ H->D.nx σ H):
 ∃ W:Nat->Nat->St->Hp->Prop,(∃m,W 0 m σ H)/\∀i m σ H,W i m σ H ->
  ((Cm lo c n).stop i H/\D.nx σ H)∨((Cm lo c n).go i H/\∃N:St->Hp->Prop,(∀ σ' H',N σ' H'->∃m',m'<m/\W (i+1) m' σ' H')/\∀x H',(Cm lo c n).yld i H x H'->g x σ H' λσ2 H2=>tb { D with nx:=N,ct:=N,bk:=D.nx } σ2 H2):=by
 erw[λi m σ H=>m=n-i/\i<=n/\Pv i σ H,%[n,by simp,zU0 _|h0],6];rintro i m σ H ⟨rfl,hi,p⟩
 by_cases NH:i<n
 . refine .inr %[NH,Pv (i+1),λσ' H' p'=>%[n-(i+1),3,1,NH|p']|λx H' y=>?_];erw[e,y]at y;subst e y;exact hs i σ _ NH p
 . let e:i=n:=#[0]
   subst e;exact .inl %[zH0 _|hd σ H p]
end L2
namespace L2
open PySem PySem.Spec PyProof.Rows PySem.Builtin PySem.Builtin.Str
section
variable {prog:Program}{w:World}{A:Around}{E:#[6]}{s:Shared}{Q:#[6]}{x:PySem.Str}{t:Tok}
def xX{y:PySem.Str}{u:Tok}(hy:(y.length==0)=false)
 (h:∀l k,l.map (·.1)=Txt.split x y->Q (.ref ‹s›) { s with heap:=s.heap.push { cls:=.type "list",data:=.seq (strValues l).toArray },toks:=k })
 (hsz:x.length+2<=sizeLine):‹w.A› (call (.builtin "str.split") [.str x t,.str y u]) Q E s:=by
 let hn:(partsBetween x (occurrences x y 0 x.length (x.length+1)) y.length).length<=sizeLine:=by
  let e1:=StrLaws.occ_length_le x y 0 x.length (x.length+1);rw[length_partsBetween];omega
 cases h1:(decide (x.length<y.length)||decide (strKind x<strKind y))
 . cases hf:(occurrences x y 0 x.length (x.length+1)).isEmpty
   . apply qT1 vI1 (wN1 _ _ _) vC1 (wX1 _ _) (meets_str_split_sep x y t u h1 hy hf #[0] hn) ?_;show wants Q E _ { s with toks:=_,heap:=s.heap.push { cls:=.type "list",data:=.seq (strsFrom s.toks (partsBetween x (occurrences x y 0 x.length (x.length+1)) y.length)).toArray } };rw[strsFrom_eq];exact h (numbered s.toks _) _ ((numbered_texts _ _).trans ((ND (wS1 h1)).trans (ND (wS1 hf))).symm)
   . exact qT1 vI1 (wN1 _ _ _) vC1 (wX1 _ _) (meets_str_split_not_found x y t u h1 hy hf)
      (h [(x,t)] s.toks ((ND (wS1 h1)).trans (NE hf)).symm)
 . exact qT1 vI1 (wN1 _ _ _) vC1 (wX1 _ _) (meets_str_split_cannot_occur x y t u h1)
    (h [(x,t)] s.toks (NE h1).symm)
end
def zM:∀l:List (PySem.Str×Tok),Vals ((l.map (·.1)).map V.str) (strValues l)
 | []=>.nil
 | (x,t)::r=>.cons %[t|1] (zM r)
section
variable {X:Cx}
instance rSplit(x:V)(vs:List V)(H:Hp)(Q:VK):∀z u,x=.str z->vs=[.str u]->0<u.length->z.length<=100000->(Txt.split z u).length<=100000->(∀p,H p=none->Q (.ref p) (upd H p (.lst ((Txt.split z u).map V.str)))):=0
def Et:MtR X "str.split" rSplit:=by
 exists 4,x,vs,v,us,Q,I,rx,rv,h;erw[z,u,1,1,hu,hz,hl,q]at h;erw[t,1]at rx;erw[w',1,t',1]at rv.one;let sl:sizeLine=16777216:=sizeLine_eq;apply xX (by rw[beq_eq_false_iff_ne];omega) (λl k e=>?_) #[0];let r:=zM l;rw[e]at r;erw[.ref _,_,I.lnew (t':=k) r (by rw[zF0];omega),1,q _ I.fresh]
def lN:hV X (.type "int") (λxs H Q=>∃x n,xs=[.str x]/\PySem.intText? x=some n/\x.length<=640/\Q (.int n) H):=by
 exists 4,xs,us,Q,I,r,h;erw[x,n,1,e,hl,q]at h;let%[u,1,t|1]:=lE r;exact PySem.W.KIN.call_text e hl %[.int n,H,I.tok _,%[|0]|q]
end
end L2
namespace HT
open PySem PyProof.Rows
section
variable {prog:Program}{w:World}{A:Around}{E:#[6]}{s:Shared}
def getItem_tuple_whole{t sl:Addr}{items:Array Value}{vl vu:Value}{lo hi:Option Int}{Q:#[6]}(ht:IsTup s.heap t items)(hs:s.heap.IsSliceOf sl vl vu .none)(pl:IsPart vl lo)(pu:IsPart vu hi)
 (hw:sIx items.size 0 lo=0/\sIx items.size items.size hi=items.size)(h:Q (.ref t) s):‹w.A› (getItem (.ref t) (.ref sl)) Q E s:=by
 let%[os,hos,hcs|hds]:=id hs;let hTs:s.TypeIs (.ref sl) "slice":=%[os,hos|hcs]
 unfold getItem
 try with_reducible apply jP1 ?_
 first | apply zD0 (zI0 ?_) | skip
 apply zD0 (wpAny_sequenceKey ht.typeIs ⋯ ?_);apply zD0 (zQ1 (name:=Str.ofString "__getitem__") ht.typeIs qO1
  (qF1 qO1 ht.typeIs entry_tuple_getitem ?_ (args_tuple_getitem _ _)))
 show wpAny _ _ (Builtin.Tuple.tupleItemsOf (.ref t) >>= _) _ _ s;apply zD0 (tupleItemsOf_ ht ?_);apply zD0 (wpAny_typeOf hTs ?_);rw[NE ⋯];apply zD0 (iP hs pl pu ?_);let hyes:(((sIx items.size 0 lo:Nat):Int)==0&&(1:Int)==1&&(sIx items.size items.size hi-sIx items.size 0 lo)==items.size)=true:=by
  rw[hw.1,hw.2,wF1]
  simp
 show wpAny _ _ (if(((sIx items.size 0 lo:Nat):Int)==0&&(1:Int)==1&&(sIx items.size items.size hi-sIx items.size 0 lo)==items.size)=true then _ else _) _ _ s;rw[NE hyes];apply zD0 ?_;unfold Builtin.Tuple.tupleIsExact;apply zD0 (wpAny_typeOf ht.typeIs (zI0 ?_));rw[NE ⋯]
 first
  |exact zD0 (vC0 (zI0 ⟨_,rfl,zI0 h⟩))
  | (apply zI0 ?_;erw[0,zI0 h])
  | (apply zD0 (zI0 ?_);apply zI0 ?_;erw[0,zI0 h])
  | (apply zD0 (zI0 ?_);apply zD0 (zI0 ?_);apply zI0 ?_;erw[0,zI0 h])
  | (apply zD0 (zD0 (zI0 ?_));apply zI0 ?_;erw[0,zI0 h])
end
end HT
namespace L2
open PySem PySem.Spec PyProof.Rows
section
variable {X:Cx}
instance rSlTW(K:W.Frag)(x:V)(lo:Option Int)(hi:Option Int)(H:Hp)(Q:VK):∀a xs,x=.ref a->SqT K H a xs->HT.sIx xs.length 0 lo=0/\HT.sIx xs.length xs.length hi=xs.length->Q (.ref a) H:=0
def Gn:SlR X (rSlTW X.K):=by
 exists 4,x,v,vl,vu,lo,hi,sl,Q,I,rx,hs,pl,pu,h;erw[a,xs,1,hx,hw,q]at h;cases rx;let%[its,r,ht|hz]:=I.tuple hx;let hlen:its.toArray.size=xs.length:=by rw[zS0];exact r.length.symm
 erw["tuple",_,PyProof.Rows.slot_tuple_getitem.lookup,ht.typeIs,6];exact HT.getItem_tuple_whole ht hs pl pu (by rw[hlen];exact hw) ⟨.ref a,H,I,rfl,q⟩
def zv{xs:List V}{lo hi:Option Int}(hw:HT.sIx xs.length 0 lo=0/\HT.sIx xs.length xs.length hi=xs.length):jf xs lo hi=xs:=by
 unfold jf;rw[hw.1,hw.2,jI0,wF1,qA0]
instance rSlTA(K:W.Frag)(x:V)(lo:Option Int)(hi:Option Int)(H:Hp)(Q:VK):∀a xs,x=.ref a->SqT K H a xs->H a=some (.tup xs)->(∀p H',Same H H'->H' p=some (.tup (jf xs lo hi))->Q (.ref p) H'):=0
def Go:SlR X (rSlTA X.K):=by
 exists 4,x,v,vl,vu,lo,hi,sl,Q,I,rx,hs,pl,pu,h;erw[a,xs,1,hx,ha,q]at h
 by_cases hw:HT.sIx xs.length 0 lo=0/\HT.sIx xs.length xs.length hi=xs.length
 . exact Gn NC s σ H _ v vl vu lo hi sl Q I rx hs pl pu %[a,xs,1,hx,hw|q a H (Same.refl _) (by rw[zv hw];exact ha)]
 . exact oB NC s σ H _ v vl vu lo hi sl Q I rx hs pl pu %[a,xs,1,hx,hw|λp hp=>q p _ (zE0 hp _) ai]
end
def SqIt(h:Heap)(i l:Addr)(k:Nat)(xs:Array Value):Prop:=(h.IsListIter i l k/\h.IsList l xs)∨(h.IsTupleIter i l k/\h.IsTuple l xs)
def SqIt.at{h':Heap}(q:SqIt h i l k xs)(e1:∀o,h.get? i=some o->h'.get? i=some o)(e2:∀o,h.get? l=some o->h'.get? l=some o):SqIt h' i l k xs:=by
 rcases q with⟨a,b⟩ | ⟨a,b⟩
 . exact .inl %[a.at e1|b.at e2]
 . exact .inr %[a.at e1|b.at e2]
def SqIt.ext{h':Heap}{c:Addr}(q:SqIt h i l k xs)(e:Heap.ExtBut c h h')(n1:i≠c)(n2:l≠c):SqIt h' i l k xs:=q.at (λo z=>e _ o n1 z) (λo z=>e _ o n2 z)
section
variable {prog:Program}{w:World}{A:Around}{E:#[6]}{s:Shared}
def uC{x:Value}{Q:#[6]}(q:SqIt s.heap i l k xs)(n:l≠i)(hx:xs[k]?=some x)
 (hQ:∀h',SqIt h' i l (k+1) xs->Heap.SameBut i s.heap h'->Q x { s with heap:=h' }):‹w.A› (Builtin.SmallTypes.nextOf (.ref i)) Q E s:=by
 rcases q with⟨a,b⟩ | ⟨a,b⟩
 . exact wpAny_nextOf_list_item a b hx λh' a' e=>hQ h' (.inl %[a'|b.extBut e.extBut n]) e
 . exact zH a b hx λh' a' e=>hQ h' (.inr %[a'|b.extBut e.extBut n]) e
def CO{Q:#[6]}(hh:A.handled=none)(q:SqIt s.heap i l k xs)(hx:xs[k]?=none)
 (hE:∀h' e,Heap.ExtBut i s.heap h'->(∃o,h'.get? e=some o/\o.cls=.type "StopIteration")->E (.ref e) { s with heap:=h' }):‹w.A› (Builtin.SmallTypes.nextOf (.ref i)) Q E s:=by
 rcases q with⟨a,b⟩ | ⟨a,b⟩
 . exact wpAny_nextOf_list_end hh a b hx hE
 . exact xU hh a b hx hE
def FN{z TI TO i1 i2 l1 l2:Addr}{x y a b:Value}{Q:Option Value->Shared->Prop}(D:ZipApart z TI TO i1 i2 l1 l2)
 (hz:IsZip s.heap z TI TO .none)(hTI:IsPair s.heap TI (.ref i1) (.ref i2))(hTO:IsPair s.heap TO a b)(h1:SqIt s.heap i1 l1 k1 xs)(h2:SqIt s.heap i2 l2 k2 ys)(hx:xs[k1]?=some x)(hy:ys[k2]?=some y)
 (hQ:∀h',IsZip h' z TI TO (rawInt ‹s›)->IsPair h' TO x y->SqIt h' i1 l1 (k1+1) xs->SqIt h' i2 l2 (k2+1) ys->IsPair h' ‹s› x y ->
  (∀c o,c≠z->c≠TO->c≠i1->c≠i2->s.heap.get? c=some o->h'.get? c=some o)->Q (some (.ref ‹s›)) { s with heap:=h' }) :
 ‹w.A› (pyNext (.ref z)) Q E s:=by
 let hT:s.TypeIs (.ref z) "zip":=%[_,hz|1]
 unfold pyNext;apply zD0 (jZ0 (zQ1 (name:=Str.ofString "__next__") hT wT0 (qF1 wT0 hT F.entry_zip_next ?_ (F.args_zip_next_1 _))));show wpAny _ _ (field (.ref z) 2 >>= _) _ _ _;apply zD0 (zS1 hz rfl (x:=.bool false) rfl ?_);show wpAny _ _ (field (.ref z) 3 >>= _) _ _ _;apply zD0 (zS1 hz rfl (x:=.ref TI) rfl (zD0 (qH1 hTI rfl ?_)));show wpAny _ _ (Builtin.SmallTypes.ownedTupleIsFree (.ref z) >>= _) _ _ _;apply zD0 ?_;unfold Builtin.SmallTypes.ownedTupleIsFree;apply zD0 (zS1 hz rfl (x:=.none) rfl (zI0 ?_));simp only[vK0];apply zD0 (vC0 (zD0 (zS1 hz rfl (x:=.ref TO) rfl (zD0 (qD1 hz #[2] λha za sa=>zD0 ?_)))))
 replace za:IsZip ha z TI TO .ellipsis:=za
 simp only[List.zipIdx_cons,List.zipIdx_nil,List.forIn_cons,List.forIn_nil];apply zD0 (zD0 (vG0 ?_));show wpAny _ _ (Builtin.SmallTypes.nextOf (.ref i1) >>= _) _ _ _;apply zD0 (uC (h1.ext sa.extBut D.i1z D.l1z) D.l1i1 hx λhb q1 sb=>zI0 ?_);let TOb:IsPair hb TO a b:=sb.extBut _ _ D.TOi1 (sa.extBut _ _ D.TOz hTO);apply zD0 (qH1 TOb rfl (zD0 (wL0 TOb λhc TOc sc=>?_)))
 replace TOc:IsPair hc TO x b:=TOc
 apply zD0 (jT1 (zI0 (zD0 (zD0 (vG0 ?_)))));show wpAny _ _ (Builtin.SmallTypes.nextOf (.ref i2) >>= _) _ _ _;apply zD0 (uC (((h2.ext sa.extBut D.i2z D.l2z).ext sb.extBut D.i12.symm D.l2i1).ext sc.extBut D.TOi2.symm D.l2TO) D.l2i2 hy λhd q2 sd=>zI0 ?_);let TOd:IsPair hd TO x b:=sd.extBut _ _ D.TOi2 TOc;apply zD0 (qH1 TOd rfl (zD0 (wL0 TOd λhe TOe se=>?_)))
 replace TOe:IsPair he TO x y:=TOe
 apply zD0 (jT1 (zI0 (zI0 (zD0 (qH1 TOe rfl (zD0 (wpAny_newTuple ?_)))))));let sz:he.objs.size=‹s›:=by rw[se.1,sd.1,sc.1,sb.1,sa.1]
 let ze:IsZip he z TI TO .ellipsis:=se.extBut _ _ D.TOz.symm (sd.extBut _ _ D.i2z.symm (sc.extBut _ _ D.TOz.symm (sb.extBut _ _ D.i1z.symm za)));let ke:∀c o,c≠z->c≠TO->c≠i1->c≠i2->s.heap.get? c=some o->he.get? c=some o:=λc o c1 c2 c3 c4 e=>se.extBut _ _ c2 (sd.extBut _ _ c4 (sc.extBut _ _ c2 (sb.extBut _ _ c3 (sa.extBut _ _ c1 e))))
 let q1e:=((q1.ext sc.extBut D.TOi1.symm D.l1TO).ext sd.extBut D.i12 D.l1i2).ext se.extBut D.TOi1.symm D.l1TO;let q2e:=q2.ext se.extBut D.TOi2.symm D.l2TO;let zlt:z<he.objs.size:=zN0 ze;show wpAny _ _ (Builtin.SmallTypes.ownedTupleHandOut (.ref z) (.ref he.objs.size) >>= _) _ _ _;apply zD0 ?_;unfold Builtin.SmallTypes.ownedTupleHandOut;let zf:IsZip (he.push { cls:=.type "tuple",data:=.seq #[x,y] }) z TI TO .ellipsis:=zO0 _ ze;apply zD0 (qD1 zf #[2] λhg zg sg=>?_)
 replace zg:IsZip hg z TI TO (rawInt he.objs.size):=zg
 apply qD1 zg #[2] λhi zi si=>?_
 replace zi:IsZip hi z TI TO (rawInt he.objs.size):=zi
 let up:∀c o,c≠z->he.get? c=some o->hi.get? c=some o:=λc o c1 e=>si.extBut _ _ c1 (sg.extBut _ _ c1 (zO0 _ e))
 let Ti:IsPair hi he.objs.size x y:=si.extBut _ _ (jU0 zlt) (sg.extBut _ _ (jU0 zlt) (qB0 _ rfl));rw[sz]at zi Ti;apply zI0 %[0|zI0 ?_];show Q (some (.ref he.objs.size)) _;rw[sz];exact hQ hi zi (up _ _ D.TOz TOe) (q1e.at (λo e=>up _ o D.i1z e) (λo e=>up _ o D.l1z e)) (q2e.at (λo e=>up _ o D.i2z e) (λo e=>up _ o D.l2z e)) Ti λc o c1 c2 c3 c4 e=>up c o c1 (ke c o c1 c2 c3 c4 e)
def IA{z TI TO i1 i2 l1 l2:Addr}{a b:Value}{Q:Option Value->Shared->Prop}(hh:A.handled=none)(D:ZipApart z TI TO i1 i2 l1 l2)
 (hz:IsZip s.heap z TI TO .none)(hTI:IsPair s.heap TI (.ref i1) (.ref i2))(hTO:IsPair s.heap TO a b)(h1:SqIt s.heap i1 l1 k1 xs)(h2:SqIt s.heap i2 l2 k2 ys)(hend:xs[k1]?=none∨ys[k2]?=none)
 (hQ:∀h',(∀c o,c≠z->c≠TO->c≠i1->c≠i2->s.heap.get? c=some o->h'.get? c=some o)->Q none { s with heap:=h' }):‹w.A› (pyNext (.ref z)) Q E s:=by
 let hT:s.TypeIs (.ref z) "zip":=%[_,hz|1]
 unfold pyNext;let hh1:A.in1.handled=none:=hh
 suffices hs:wpAny (model prog w) A.in1 (Builtin.«zip.__next__» %[[.ref z]|[]]) (λfin s'=>∃v,fin=.done (.ret v)/\False)
  (λv s'=>∃h' e,v=.ref e/\s'={ s with heap:=h' }/\(∀c o,c≠z->c≠TO->c≠i1->c≠i2->s.heap.get? c=some o->h'.get? c=some o)/\∃o,h'.get? e=some o/\o.cls=.type "StopIteration") s by
  apply zD0 (jZ0 (zQ1 (name:=Str.ofString "__next__") hT wT0 (qF1 wT0 hT F.entry_zip_next (jP0 hs (λ_ _ h=>by erw[_,_,f]at h;exact f.elim) ?_) (F.args_zip_next_1 _))));rintro _ _ ⟨h',e,rfl,rfl,hk,o,ho,hc⟩;exact zD0 (wI1 (T:="StopIteration") (b:=true) %[o,ho|hc] isSubtype_stop (zI0 (hQ _ hk)))
 show wpAny _ _ (field (.ref z) 2 >>= _) _ _ _;apply zD0 (zS1 hz rfl (x:=.bool false) rfl ?_);show wpAny _ _ (field (.ref z) 3 >>= _) _ _ _;apply zD0 (zS1 hz rfl (x:=.ref TI) rfl (zD0 (qH1 hTI rfl ?_)));show wpAny _ _ (Builtin.SmallTypes.ownedTupleIsFree (.ref z) >>= _) _ _ _;apply zD0 ?_;unfold Builtin.SmallTypes.ownedTupleIsFree;apply zD0 (zS1 hz rfl (x:=.none) rfl (zI0 ?_));simp only[vK0];apply zD0 (vC0 (zD0 (zS1 hz rfl (x:=.ref TO) rfl (zD0 (qD1 hz #[2] λha za sa=>zD0 ?_)))))
 replace za:IsZip ha z TI TO .ellipsis:=za
 simp only[List.zipIdx_cons,List.zipIdx_nil,List.forIn_cons,List.forIn_nil];apply zD0 (zD0 (vG0 ?_));show wpAny _ _ (Builtin.SmallTypes.nextOf (.ref i1) >>= _) _ _ _;cases hx:xs[k1]? with
 |none=>
   apply zD0 (CO hh1 (h1.ext sa.extBut D.i1z D.l1z) hx λhb e sb ⟨oe,hoe,hce⟩=>?_);let zb:IsZip hb z TI TO .ellipsis:=sb _ _ D.i1z.symm za;let ez:e≠z:=λx=>by subst x;rw[zb]at hoe;cases hoe;simp at hce
   exact qD1 zb #[2] λhc _ sc=>%[hc,e,1,1,λc o c1 _ c3 _ x=>sc.extBut _ _ c1 (sb _ _ c3 (sa.extBut _ _ c1 x)),oe,sc.extBut _ _ ez hoe|hce]
 |some x=>
   let hy:ys[k2]?=none:=by
    rcases hend with h | h
    . rw[hx]at h;cases h
    . exact h
   apply zD0 (uC (h1.ext sa.extBut D.i1z D.l1z) D.l1i1 hx λhb q1 sb=>zI0 ?_);let TOb:IsPair hb TO a b:=sb.extBut _ _ D.TOi1 (sa.extBut _ _ D.TOz hTO);apply zD0 (qH1 TOb rfl (zD0 (wL0 TOb λhc TOc sc=>?_)));apply zD0 (jT1 (zI0 (zD0 (zD0 (vG0 ?_)))));show wpAny _ _ (Builtin.SmallTypes.nextOf (.ref i2) >>= _) _ _ _;apply zD0 (CO hh1 (((h2.ext sa.extBut D.i2z D.l2z).ext sb.extBut D.i12.symm D.l2i1).ext sc.extBut D.TOi2.symm D.l2TO) hy λhd e sd ⟨oe,hoe,hce⟩=>?_);let zd:IsZip hd z TI TO .ellipsis:=sd _ _ D.i2z.symm (sc.extBut _ _ D.TOz.symm (sb.extBut _ _ D.i1z.symm za));let ez:e≠z:=λx=>by subst x;rw[zd]at hoe;cases hoe;simp at hce
   exact qD1 zd #[2] λhe _ se=>%[he,e,1,1,λc o c1 c2 c3 c4 x=>se.extBut _ _ c1 (sd _ _ c4 (sc.extBut _ _ c2 (sb.extBut _ _ c3 (sa.extBut _ _ c1 x)))),oe,se.extBut _ _ ez hoe|hce]
end
def itO(b:Bool)(l:Addr):Obj:={ cls:=.type (if b=true then "list_iterator" else "tuple_iterator"),data:=.fields #[.ref l,.int 0 0] }
def SqO(b:Bool)(h:Heap)(l:Addr)(xs:Array Value):Prop:=if b=true then h.IsList l xs else h.IsTuple l xs
abbrev zqH(h:Heap)(b1 b2:Bool)(l1 l2:Addr):Heap:=((((h.push (itO b1 l1)).push (itO b2 l2)).push { cls:=.type "tuple",data:=.seq #[.ref h.objs.size,.ref (h.push (itO b1 l1)).objs.size] }).push { cls:=.type "tuple",data:=.seq #[.none,.none] }).push
 { cls:=.type "zip",data:=.fields #[.none,.bool false,.bool false,.ref ((h.push (itO b1 l1)).push (itO b2 l2)).objs.size,.ref (((h.push (itO b1 l1)).push (itO b2 l2)).push { cls:=.type "tuple",data:=.seq #[.ref h.objs.size,.ref (h.push (itO b1 l1)).objs.size] }).objs.size] }
abbrev zqA(h:Heap)(b1 b2:Bool)(l1 l2:Addr):Addr:=((((h.push (itO b1 l1)).push (itO b2 l2)).push { cls:=.type "tuple",data:=.seq #[.ref h.objs.size,.ref (h.push (itO b1 l1)).objs.size] }).push { cls:=.type "tuple",data:=.seq #[.none,.none] }).objs.size
def CP(q:SqO b h l xs)(o:Obj):SqO b (h.push o) l xs:=by
 cases b
 . exact Heap.IsTuple.at q λo' e=>zO0 _ e
 . exact Heap.IsList.push q _
def wj{prog:Program}{w:World}{A:Around}{E:#[6]}{s:Shared}{Q:#[6]}(q:SqO b s.heap l xs)(hQ:Q (.ref ‹s›) { s with heap:=s.heap.push (itO b l) }):
 ‹w.A› (pyIter (.ref l)) Q E s:=by
 cases b
 . exact jK0 (t:=l) (items:=xs) q hQ
 . exact jQ0 (l:=l) (items:=xs) q hQ
set_option maxHeartbeats 1000000 in
def Ez(b1 b2:Bool)(l1 l2:Addr)(xs ys:Array Value):
 Meets (Builtin.«zip.__new__» %[[.type "zip",.ref l1,.ref l2]|[]]) (λ_ R s=>SqO b1 s.heap l1 xs/\SqO b2 s.heap l2 ys/\
  R (.ok (.ret (.ref (zqA s.heap b1 b2 l1 l2)))) { s with heap:=zqH s.heap b1 b2 l1 l2 }):=
 .of_wp λprog w A R s h=>by
  erw[hp,g,d,tk,os]at s;erw[hl1,hl2,h]at h;let hsub:=sub_zip;let hL1:SqO b1 (Shared.heap %[hp,g,d,tk|os]) l1 xs:=hl1;let hL2:SqO b2 (Shared.heap ⟨hp.push (itO b1 l1),g,d,tk,os⟩) l2 ys:=CP hl2 _
  wp_walk using wj hL1,wj hL2
  erw[0,h]
section
variable {prog:Program}{w:World}{A:Around}{E:#[6]}{s:Shared}
def ES{h':Heap}{n:Addr}(e:h'.get? n=some (itO b l))(q:SqO b h l xs)(k:∀o,h.get? l=some o->h'.get? l=some o):SqIt h' n l 0 xs:=by
 cases b
 . exact .inr %[%[_,e,1|1]|Heap.IsTuple.at q k]
 . exact .inl %[%[_,e,1|1]|Heap.IsList.at q k]
def HM{Q:#[6]}(hl1:SqO b1 s.heap l1 xs)(hl2:SqO b2 s.heap l2 ys)
 (h:∀h',IsZip h' (‹s›+4) (‹s›+2) (‹s›+3) .none->IsPair h' (‹s›+2) (.ref ‹s›) (.ref (‹s›+1)) ->
  IsPair h' (‹s›+3) .none .none->SqIt h' ‹s› l1 0 xs->SqIt h' (‹s›+1) l2 0 ys ->
  (∀c o,s.heap.get? c=some o->h'.get? c=some o)->Q (.ref (‹s›+4)) { s with heap:=h' }) :
 ‹w.A› (call (.type "zip") [.ref l1,.ref l2]) Q E s:=by
 apply callType_new F.called_zip ⋯ (F.typeCall_zip_2 _ _) (F.newCall_zip_2 _ _) (λobj=>F.args_object_init_3 obj _ _) F.entry_zip_new (Ez b1 b2 l1 l2 xs ys) %[hl1,hl2|6];let z1:∀(h:Heap)(o:Obj),(h.push o).objs.size=h.objs.size+1:=λh o=>jC1 ..
 let up:∀(h:Heap)(o:Obj)(c:Addr)(u:Obj),h.get? c=some u->(h.push o).get? c=some u:=λh o c u e=>zO0 _ e
 let top:∀(h:Heap)(o:Obj)(n:Nat),o.isFreed=false->h.objs.size=n->(h.push o).get? n=some o:=λh o n f e=>by rw[←e];exact qB0 _ f
 let f1:∀b l,(itO b l).isFreed=false:=λ_ _=>rfl
 show _/\_;let g1:(zqH s.heap b1 b2 l1 l2).get? ‹s›=some (itO b1 l1):=up _ _ _ _ (up _ _ _ _ (up _ _ _ _ (up _ _ _ _ (top _ _ _ (f1 _ _) rfl))));let g2:(zqH s.heap b1 b2 l1 l2).get? (‹s›+1)=some (itO b2 l2):=up _ _ _ _ (up _ _ _ _ (up _ _ _ _ (top _ _ _ (f1 _ _) (z1 _ _))));let g3:IsPair (zqH s.heap b1 b2 l1 l2) (‹s›+2) (.ref ‹s›) (.ref (‹s›+1)):=by
  have:=up _ { cls:=.type "zip",data:=.fields #[.none,.bool false,.bool false,.ref ((s.heap.push (itO b1 l1)).push (itO b2 l2)).objs.size,.ref (((s.heap.push (itO b1 l1)).push (itO b2 l2)).push { cls:=.type "tuple",data:=.seq #[.ref ‹s›,.ref (s.heap.push (itO b1 l1)).objs.size] }).objs.size] } _ _ (up _ { cls:=.type "tuple",data:=.seq #[.none,.none] } _ _ (top ((s.heap.push (itO b1 l1)).push (itO b2 l2)) { cls:=.type "tuple",data:=.seq #[.ref ‹s›,.ref (s.heap.push (itO b1 l1)).objs.size] } (‹s›+2) rfl (by rw[z1,z1])))
  exact this.trans (by rw[z1])
 let g4:IsPair (zqH s.heap b1 b2 l1 l2) (‹s›+3) .none .none:=up _ _ _ _ (top _ _ _ rfl (by rw[z1,z1,z1]));let g5:IsZip (zqH s.heap b1 b2 l1 l2) (‹s›+4) (‹s›+2) (‹s›+3) .none:=by
  have:=top ((((s.heap.push (itO b1 l1)).push (itO b2 l2)).push { cls:=.type "tuple",data:=.seq #[.ref ‹s›,.ref (s.heap.push (itO b1 l1)).objs.size] }).push { cls:=.type "tuple",data:=.seq #[.none,.none] })
   { cls:=.type "zip",data:=.fields #[.none,.bool false,.bool false,.ref ((s.heap.push (itO b1 l1)).push (itO b2 l2)).objs.size,.ref (((s.heap.push (itO b1 l1)).push (itO b2 l2)).push { cls:=.type "tuple",data:=.seq #[.ref ‹s›,.ref (s.heap.push (itO b1 l1)).objs.size] }).objs.size] } (‹s›+4) rfl (by rw[z1,z1,z1,z1])
  exact this.trans (by simp only[z1])
 let ea:zqA s.heap b1 b2 l1 l2=‹s›+4:=by simp only[zqA,z1]
 let keep:∀c o,s.heap.get? c=some o->(zqH s.heap b1 b2 l1 l2).get? c=some o:=λc o e=>up _ _ _ _ (up _ _ _ _ (up _ _ _ _ (up _ _ _ _ (up _ _ _ _ e))))
 rw[ea];erw[%[_,g5|1],h _ g5 g3 g4 (ES g1 hl1 (keep _)) (ES g2 hl2 (keep _)) keep]
end
def SqB(K:W.Frag)(b:Bool)(H:Hp)(a:Addr)(xs:List V):Prop:=if b=true then SqL K H a xs else SqT K H a xs
def SqB.at{σ:St}(I:#[8] H s)(q:SqB X.K b H a xs):∃its,Vals xs its/\SqO b s.heap a its.toArray/\a<‹s›:=by
 cases b
 . let%[its,rv,p|_]:=I.tuple q;erw[its,rv,p,p.lt]
 . let%[its,rv,p|_]:=I.list q;erw[its,rv,p.isList,p.lt]
def SqB.inj{σ:St}(I:#[8] H s)(q:SqB X.K b H a xs)(r:SqB X.K b H a ys):xs=ys:=by
 cases b
 . exact I.tuple_inj q r
 . exact I.list_inj q r
def Itz(K:W.Frag)(c d:Bool)(a b:Addr):It:=
 ⟨λi H=>∃xs ys x y,SqB K c H a xs/\SqB K d H b ys/\xs[i]?=some x/\ys[i]?=some y,λi H v H'=>∃t,v=.ref t/\H t=none/\∀xs ys x y,SqB K c H a xs->SqB K d H b ys->xs[i]?=some x->ys[i]?=some y->H'=upd H t (.tup [x,y]),
  λi H=>∃xs ys,SqB K c H a xs/\SqB K d H b ys/\(xs.length<=i∨ys.length<=i)⟩
def zipAp{n l1 l2:Nat}(h1:l1<n)(h2:l2<n):ZipApart (n+4) (n+2) (n+3) n (n+1) l1 l2:=by
 constructor <;> exact λy=>by
  let y':(_:Nat)=_:=y;omega
def Cu{K:W.Frag}{elts:List Expr}{k:Nat}{pos:Pos}(c d:Bool)(a b z TI TO i1 i2:Addr)(D:ZipApart z TI TO i1 i2 a b):
 Turn P w K (.Tuple elts k pos) (Itz K c d a b) [z,TI,TO,i1,i2] z (λi h=>IsZip h z TI TO .none/\IsPair h TI (.ref i1) (.ref i2)/\(∃p q,IsPair h TO p q)/\(∃o,h.get? i1=some o/\o.cls=.type (if c=true then "list_iterator" else "tuple_iterator")/\o.data=.fields #[.ref a,.int i 0])/\
  ∃o,h.get? i2=some o/\o.cls=.type (if d=true then "list_iterator" else "tuple_iterator")/\o.data=.fields #[.ref b,.int i 0]) where
 mem:=by simp
 obj:=λi h st x hx=>by
  erw[hz,hTI,%[p,q|hTO],%[o1,e1,_|d1],o2,e2,_,d2]at st;simp only[jG0,qV1,vG1]at hx;rcases hx with rfl | rfl | rfl | rfl | rfl
  . erw[_,hz,λv y=>nomatch y]
  . erw[_,hTI,λv y=>nomatch y]
  . erw[_,hTO,λv y=>nomatch y]
  . erw[o1,e1,λv y=>by rw[d1]at y;cases y]
  . erw[o2,e2,λv y=>by rw[d2]at y;cases y]
 keep:=λi h h' st kp=>by
  erw[hz,hTI,%[p,q|hTO],%[o1,e1|r1],o2,e2,r2]at st;erw[kp z #[2] _ hz,kp TI #[2] _ hTI,%[p,q|kp TO #[2] _ hTO],%[o1,kp i1 #[2] _ e1|r1],o2,kp i2 #[2] _ e2,r2]
 item:=by
  exists 5;erw[xs,ys,x,y,hq1,hq2,hx,hy]at hg;let%[its1,rv1,s1|_]:=SqB.at I hq1;let%[its2,rv2,s2|_]:=SqB.at I hq2;let%[u,hu|ru]:=rv1.get hx;let%[v,hv|rv]:=rv2.get hy;erw[hz,hTI,%[p,q|hTO],it1,it2]at st;let S1:SqIt s.heap i1 a i its1.toArray:=by
   cases c
   . exact .inr %[it1|s1]
   . exact .inl %[it1|s1]
  let S2:SqIt s.heap i2 b i its2.toArray:=by
   cases d
   . exact .inr %[it2|s2]
   . exact .inl %[it2|s2]
  apply FN D hz hTI hTO S1 S2 (x:=u) (y:=v) #[hu,0] #[hv,0] λh1 z1 TO1 q1 q2 T1 k1=>?_
  erw[0,wpAny_letOwnedTupleGo_zip z1 λh2 z2 s2'=>?_];let zlt:z<‹s›:=zN0 hz;let T2:h2.get? ‹s›=some { cls:=.type "tuple",data:=.seq #[u,v] }:=(s2'.2 _ (Ne.symm (zV0 zlt))).trans T1;let I2:#[8] (upd H ‹s› (.tup [x,y])) { s with heap:=h2 }:=by
   apply I.turnedNew (t':=s.toks) (ch:=[z,TI,TO,i1,i2]) (λe ob he ee=>?_) hf (zH0 _) %[by show 2<=sizeLine;decide,[u,v],.cons ru (.cons rv .nil),%[_,T2,1|0],_,T2|1];let n1:e≠z:=λy=>he (by simp [y])
   exact(s2'.2 e n1).trans (k1 e ob n1 (λy=>he (by simp [y])) (λy=>he (by simp [y])) (λy=>he (by simp [y])) ee)
  let g1:SqIt h2 i1 a (i+1) its1.toArray:=q1.at (λo e=>(s2'.2 _ D.i1z).trans e) (λo e=>(s2'.2 _ D.l1z).trans e);let g2:SqIt h2 i2 b (i+1) its2.toArray:=q2.at (λo e=>(s2'.2 _ D.i2z).trans e) (λo e=>(s2'.2 _ D.l2z).trans e);let kd:∀{c:Bool} {i1 a:Addr} {its its':Array Value},SqO c h2 a its'->SqIt h2 i1 a (i+1) its->∃o,h2.get? i1=some o/\o.cls=.type (if c=true then "list_iterator" else "tuple_iterator")/\o.data=.fields #[.ref a,.int ((i+1:Nat):Int) 0]:=λ{c i1 a its its'} o q=>by
   cases c
   . rcases q with⟨_,⟨o1,e1,c1,_⟩⟩ | ⟨q,_⟩
     . let%[o2,e2,c2|_]:=(show h2.IsTuple a its' from o)
       rw[e1]at e2;cases e2;rw[c1]at c2;exact absurd (Value.type.inj c2) ⋯
     . exact q
   . rcases q with⟨q,_⟩ | ⟨_,⟨o1,e1,c1,_⟩⟩
     . exact q
     . let%[o2,e2,c2|_]:=(show h2.IsList a its' from o)
       rw[e1]at e2;cases e2;rw[c1]at c2;exact absurd (Value.type.inj c2) ⋯
  let ko:∀{c:Bool}{a:Addr}{its:Array Value},SqO c s.heap a its->a≠z->a≠TO->a≠i1->a≠i2->SqO c h2 a its:=fun{c a its} o n1 n2 n3 n4=>by
   let kk:∀ob,s.heap.get? a=some ob->h2.get? a=some ob:=λob e=>(s2'.2 _ n1).trans (k1 _ _ n1 n2 n3 n4 e)
   cases c
   . exact Heap.IsTuple.at o kk
   . exact Heap.IsList.at o kk
  erw[.ref ‹s›,_,I2,1,%[0,I.hok.fresh (zH0 _)|λxs' ys' x' y' h1' h2' hx' hy'=>?_],%[z2,(s2'.2 _ D.TIz).trans (k1 _ _ D.TIz D.TITO D.TIi1 D.TIi2 hTI),%[_,_|(s2'.2 _ D.TOz).trans TO1],kd (ko s1 D.l1z D.l1TO D.l1i1 D.l1i2) g1|kd (ko s2 D.l2z D.l2TO D.l2i1 D.l2i2) g2],λe he=>?_]
  . let e1:=SqB.inj I h1' hq1;let e2:=SqB.inj I h2' hq2;subst e1 e2;rw[hx]at hx';rw[hy]at hy';cases hx';cases hy';rfl
  . let zf:=hf e he;let NH:e<‹s›:=by
     simp only[jG0,qV1,vG1]at he;rcases he with rfl | rfl | rfl | rfl | rfl
     . exact zlt
     . exact zN0 hTI
     . exact zN0 hTO
     . erw[_,e,_]at it1;exact zN0 e
     . erw[_,e,_]at it2;exact zN0 e
    rw[ay (zV0 NH)];exact zf.1
 done:=by
  exists 5;erw[xs,ys,hq1,hq2,hend]at hg;let%[its1,rv1,s1|_]:=SqB.at I hq1;let%[its2,rv2,s2|_]:=SqB.at I hq2;erw[hz,hTI,%[p,q|hTO],it1,it2]at st;let S1:SqIt s.heap i1 a i its1.toArray:=by
   cases c
   . exact .inr %[it1|s1]
   . exact .inl %[it1|s1]
  let S2:SqIt s.heap i2 b i its2.toArray:=by
   cases d
   . exact .inr %[it2|s2]
   . exact .inl %[it2|s2]
  let l1:=rv1.length;let l2:=rv2.length;exact IA (I.ok.hd hc) D hz hTI hTO S1 S2 (hend.imp (λh=>Array.getElem?_eq_none (by simp;omega)) (λh=>Array.getElem?_eq_none (by simp;omega))) λh' eb=>
   %[1|I.turnedL (t':=s.toks) (ch:=[z,TI,TO,i1,i2]) (λe o he eo=>eb e o (λy=>he (by simp [y])) (λy=>he (by simp [y])) (λy=>he (by simp [y])) (λy=>he (by simp [y])) eo) hf]
 self:=λ_ _ _ _ _ st h=>wpAny_pyIter_zip st.1 h
section
variable {X:Cx}{elts:List Expr}{k:Nat}{tpos:Pos}
instance ZiZip(K:W.Frag)(R:(It->Hp->Prop))(vs:(List V))(H1:Hp):∀a b c d,vs=[.ref a,.ref b]->(∃xs,SqB K c H1 a xs)->(∃ys,SqB K d H1 b ys)->R (Itz K c d a b) H1:=0
def iZip(K:W.Frag)(tl:TA):TI:=λσ H R=>tl σ H λvs H1=>ZiZip K R vs H1
def Ck:bootBuiltins ("zip":Str)=some (.type "zip"):=by decide
def Cn{h h':Heap}(keep:∀e o,h.get? e=some o->h'.get? e=some o)(o:SqO c h l its')(q:SqIt h' n l 0 its):
 ∃o,h'.get? n=some o/\o.cls=.type (if c=true then "list_iterator" else "tuple_iterator")/\o.data=.fields #[.ref l,.int ((0:Nat):Int) 0]:=by
 cases c
 . rcases q with⟨_,⟨o1,e1,c1,_⟩⟩ | ⟨q,_⟩
   . let%[o2,e2,c2|_]:=(show h'.IsTuple l its' from Heap.IsTuple.at o λob e=>keep _ _ e)
     rw[e1]at e2;cases e2;rw[c1]at c2;exact absurd (Value.type.inj c2) ⋯
   . exact q
 . rcases q with⟨q,_⟩ | ⟨_,⟨o1,e1,c1,_⟩⟩
   . exact q
   . let%[o2,e2,c2|_]:=(show h'.IsList l its' from Heap.IsList.at o λob e=>keep _ _ e)
     rw[e1]at e2;cases e2;rw[c1]at c2;exact absurd (Value.type.inj c2) ⋯
def IB{σ:St}{R:It->Hp->Prop}{E:#[6]}(I1:#[8] H1 s1)(hq1:SqB X.K c H1 a xs)(hq2:SqB X.K d H1 b ys)(q:R (Itz X.K c d a b) H1):
 ‹X.w› (call (.type "zip") [.ref a,.ref b]) (λv s2=>‹X.w› (pyIter v) (PIE X NC σ (.Tuple elts k tpos) R) E s2) E s1:=by
 let%[its1,rv1,o1|l1]:=SqB.at I1 hq1;let%[its2,rv2,o2|l2]:=SqB.at I1 hq2;apply HM o1 o2 λh' z1 p1 p2 q1 q2 keep=>?_
 apply wpAny_pyIter_zip z1 ?_;let I2:#[8] H1 { s1 with heap:=h' }:=I1.kept (t':=s1.toks) keep;erw[‹s1›+4,[‹s1›+4,‹s1›+2,‹s1›+3,‹s1›,‹s1›+1],_,_,H1,1,I2,Cu c d a b _ _ _ _ _ (zipAp l1 l2),%[z1,p1,%[_,_|p2],Cn keep o1 q1|Cn keep o2 q2],λe he=>?_,q];let ge:‹s1›<=e:=by
  simp only[jG0,qV1,vG1]at he;rcases he with h | h | h | h | h <;> rw[h]
  . exact wJ0 ..
  . exact wJ0 ..
  . exact wJ0 ..
  . exact zH0 _
  . exact wJ0 ..
 exact I1.fpOk ge (I1.hok.fresh ge)
def Jb{e1 e2:Expr}{p pos:Pos}(hg:Gl X "zip")(hm:X.mg "zip"=none)(ha:PA X [e1,e2] t)(hs:starEach [e1,e2] X.env=[(false,eval e1 X.env),(false,eval e2 X.env)]:=by rfl)(hs2:starEach [e2] X.env=[(false,eval e2 X.env)]:=by rfl):
 PI X (.Tuple elts k tpos) (.Call (.Name "zip" p) [e1,e2] [] pos) (iZip X.K t):=by
 exists 4,R,I,h;apply Call_ (gr I hg hm Ck (zK1 (thn (ha pos NC s σ H _ I h) λus s1 ⟨vs,H1,I1,r1,q1⟩=>?_) (by rw[hs,hs2]) (by rw[hs2];rfl)));erw[a,b,c,d,ev,%[xs|hq1],%[ys|hq2],q]at q1;subst ev;cases r1 with
 |cons r rr=>
   cases rr with
   |cons r' rr=>
     cases rr;cases r;cases r';exact IB I1 hq1 hq2 q
end
section
variable {X:Cx}{x y2:Str}{N:List Str}{ix:List Nat}{scope:Scope}{cl:List (Str×Addr)}{elt iter:Expr}{ifs:List Expr}{px py pt pos:Pos}{kt:Nat}{wi:TI}{tb:TBl}
def AA(K:W.Frag)(J:It)(D:Addr)(ix:List Nat)(tb:TBl)(σ:St)(H:Hp)(Q:VK):Prop:=∃W:Nat->Nat->Hp->Prop,(∃m,W 0 m (upd H D (.lst [])))/\∀i m H2,W i m H2 ->
 (J.stop i H2/\Q (.ref D) H2)∨(J.go i H2/\∀y H3,J.yld i H2 y H3->∃t v1 v2,y=.ref t/\SqT K H3 t [v1,v2]/\tb (some v1::some v2::outs ix σ) H3 (λH4=>∃m',m'<m/\W (i+1) m' H4)
  λz H4=>∃ys,H4 D=some (.lst ys)/\ys.length<sizeLine/\∃m',m'<m/\W (i+1) m' (upd H4 D (.lst (ys++[z]))))
def FY(K:W.Frag)(wi:TI)(ix:List Nat)(tb:TBl):TE:=λσ H Q=>wi σ H λJ H1=>∀D,H1 D=none->AA K J D ix tb σ H1 Q
def Cg(hc:X.calm=true)(S:CompScope X x N ix scope cl)(S2:scope.names.lookup y2=some .local)(nd2:(x::y2::N).Nodup)(hix:ix.length=N.length)(hb:∀s3 H3 fp,PB (gY X (x::y2::N) scope cl s3 H3 fp) ifs elt tb)
 {σ:St}{Q:VK}{fp:List Addr}{RR:Value->Addr->Result->Shared->Prop}{E:#[6]}
 (I2:#[8] H2 s2)(T:Turn X.prog X.w X.K (.Tuple [.Name x px,.Name y2 py] kt pt) J fp it tn)(st2:tn 0 s2.heap)(f2:∀b∈fp,iN X NC H2 b)
 (h:∀D,H2 D=none->∃W:Nat->Nat->Hp->Prop,(∃m,W 0 m (upd H2 D (.lst [])))/\∀i m H3,W i m H3 ->
  (J.stop i H3/\Q (.ref D) H3)∨(J.go i H3/\∀y H4,J.yld i H3 y H4->∃t v1 v2,y=.ref t/\SqT X.K H4 t [v1,v2]/\tb (some v1::some v2::outs ix σ) H4 (λH5=>∃m',m'<m/\W (i+1) m' H5)
   λz H5=>∃ys,H5 D=some (.lst ys)/\ys.length<sizeLine/\∃m',m'<m/\W (i+1) m' (upd H5 D (.lst (ys++[z])))))
 (hRR:∀(D C:Addr)(H':Hp)(s':Shared)(m:#[9]),s'.heap.Ns C m->Apart X NC H' C->#[8] H' s'->Q (.ref D) H'->RR (.ref D) C (.ok .next) s') :
 ‹X.w› (newList []) (λacc s3=>‹X.w› (newFunctionEnv scope X.env.globals cl [] X.env.qual none .none (some X.env)) (λcenv s4=>
  codeAny (model X.prog X.w) X.A (.compStart (.ListComp elt [%[.Tuple [.Name x px,.Name y2 py] kt pt,iter,ifs|(0)]] scope pos) 0 (.ref it) acc { cenv with scope:=relabel scope X.env }) (RR acc cenv.locals) s4) E s3) E s2:=by
 apply zO1 (wpAny_newFunctionEnv S.nocell (by intro y hy;simp at hy) (λh1 hns1 hsb1=>?_) S.kind)
 dsimp only at hns1 hsb1 ⊢
 let I3:#[8] (upd H2 ‹s2› (.lst [])) { s2 with heap:=s2.heap.push { cls:=.type "list",dict:=none,data:=.seq ([]:List Value).toArray } }:=I2.lnew (its:=[]) (ys:=[]) (t':=s2.toks) .nil (zU0 _);let hD:H2 ‹s2›=none:=I2.fresh;let%[W,%[m0|w0]|turn]:=h ‹s2› hD;let hltF:∀b∈fp,b<‹s2›:=λb hb=>by
  let%[o,e|_]:=T.obj 0 _ st2 b hb;exact zN0 e
 generalize hs3:({ s2 with heap:=s2.heap.push { cls:=.type "list",dict:=none,data:=.seq ([]:List Value).toArray } }:Shared)=s3 at I3;let eh:s2.heap.push { cls:=.type "list",dict:=none,data:=.seq ([]:List Value).toArray }=s3.heap:=by rw[←hs3]
 let et:s2.toks=s3.toks:=by rw[←hs3]
 rw[eh]at hns1 hsb1 ⊢;let sz3:‹s3›=‹s2›+1:=by rw[←eh,jC1]
 let hlt3:∀b∈fp,b<‹s3›:=λb hb=>qQ0 (hltF b hb) (by rw[sz3];exact qN0 _)
 let f3:∀b∈fp,iN X NC (upd H2 ‹s2› (.lst [])) b:=λb hb=>by
  let%[q1|q2]:=f2 b hb;erw[by rw[ay (zV0 (hltF b hb))];exact q1,q2]
 let up:∀b o,s3.heap.get? b=some o->h1.get? b=some o:=λb o e=>hsb1.extBut b o (zV0 (zN0 e)) (zO0 _ e)
 let old:∀b o,s2.heap.get? b=some o->h1.get? b=some o:=λb o e=>up b o (by rw[←eh];exact zO0 _ e)
 let es:({ s2 with heap:=h1,toks:=s2.toks+([]:List (Str×Value)).length }:Shared)={ s3 with heap:=h1,toks:=s2.toks+([]:List (Str×Value)).length }:=by rw[←hs3]
 rw [es];let I4:Inv (gY X (x::y2::N) scope cl s3 (upd H2 ‹s2› (.lst [])) fp) [] (none::none::outs ix σ) (upd H2 ‹s2› (.lst [])) { s3 with heap:=h1,toks:=s2.toks+([]:List (Str×Value)).length }:=
  sF [x,y2] S I3 f3 hlt3 hix hns1 up
 let st4:tn 0 h1:=T.keep 0 _ _ st2 λb _ o e=>old b o e
 let loop:codeAny (model X.prog X.w) X.A (.compLoop (.ListComp elt [%[.Tuple [.Name x px,.Name y2 py] kt pt,iter,ifs|(0)]] scope pos) 0 (.ref it) (.ref ‹s2›) (compEnvC scope cl ‹s3› X.env)) (RR (.ref ‹s2›) ‹s3›)
  { s3 with heap:=h1,toks:=s2.toks+([]:List (Str×Value)).length }:=by
  let k:=vS (M:=x::y2::N) S I3 f3 hlt3;apply pe (Y:=gY X (x::y2::N) scope cl s3 (upd H2 ‹s2› (.lst [])) fp) (Pf:=λσ'=>∃v0 v00,σ'=v0::v00::outs ix σ) hc (λ_ _ z=>z) T (rH hc (eE (aX (i:=0) nd2 rfl (.inl (qW1 S.own)) (.inr (qW1 S.own))) (eE (aX (i:=1) nd2 rfl (.inl (qW1 S2)) (.inr (qW1 S2))) ny))) (hb _ _ _) (λhn b hb=>%[hn b hb,(k.exf b hb).1,k.exfs b hb,.inl hb,(k.exf b hb).2|λp hp=>absurd (show p∈([]:#[7])from hp) #[2]]) (λi m H5 w5=>(turn i m H5 w5).imp (fun⟨stop,qn⟩=>%[stop|λσ' s6 _ I6=>?_]) (fun⟨go,step⟩=>⟨go,λy H3 y7 σ' ⟨v0,v00,e⟩=>by
   subst e;let%[tt,v1,v2,1,sq|stp]:=step y H3 y7;erw[tt,0,sq,1,v1,0,v2,0,1,%[_|0],stp]⟩)) ⟨none,none,rfl⟩ I4 st4 (λb hb=>(f3 b hb).1) w0
  erw[m6,hn6,_]at I6.loc;exact hRR _ _ H5 s6 m6 hn6 ⟨I6.free,Ne.symm (zV0 I3.lt),I3.sz,λy c e z=>by
   let%[v|q]:=I3.cell y c e;exact absurd q.lt (by rw[z];exact qT0 _),λp hp z=>absurd (zN0 (I3.pin p hp).1) (by rw[z];exact qT0 _)⟩ (ui I3 f3 I6 (Heap.SameBut.refl _ _)) qn
 exact wB1 loop (T.self _ 0 _ _ _ st4 loop)
def DI(hc:X.calm=true)(S:CompScope X x N ix scope cl)(S2:scope.names.lookup y2=some .local)(nd2:(x::y2::N).Nodup)(hix:ix.length=N.length)(hi:PI X (.Tuple [.Name x px,.Name y2 py] kt pt) iter wi)(hb:∀s3 H3 fp,PB (gY X (x::y2::N) scope cl s3 H3 fp) ifs elt tb)
 (hs:∀x,foldedSetIterable iter X.env x=pure x:=by intro _;rfl):PE X (.ListComp elt [%[.Tuple [.Name x px,.Name y2 py] kt pt,iter,ifs|(0)]] scope pos) (FY X.K wi ix tb):=by
 exists 4,Q,I,h;rw[eval_ListComp];apply jE0 (use:=none) rfl hs S.clos S.kind S.names (thn (hi NC s σ H _ I h) λxv s1 h1=>thn h1 λitv s2 h2=>?_);erw[it,fp,tn,J,H2,1,I2,T,st2,f2,R]at h2;apply Cg hc S S2 nd2 hix hb (RR:=λacc C=>compPost (model X.prog X.w) X.A X.xe none (EP X NC σ Q) acc C) I2 T st2 f2 R ?_;intro D C H' s' m hn ap I' q;erw[m,hn,λh'' hb''=>%[.ref D,H',ap.turn I' hb'',1|q]]
end
def Fs{K:W.Frag}{xs ys:List V}{tb:TBl}{Q:VK}(hxy:xs.length=ys.length)(Pv:Nat->Hp->Prop)(h0:Pv 0 (upd H D (.lst [])))(hl:∀i H,i<=xs.length->Pv i H->SqB K c H a xs/\SqB K d H b ys)
 (hs:∀i x y t H,xs[i]?=some x->ys[i]?=some y->Pv i H->H t=none->tb (some x::some y::outs ix σ) (upd H t (.tup [x,y])) (Nx xs.length i Pv) λz H'=>∃ys,H' D=some (.lst ys)/\ys.length<sizeLine/\Nx xs.length i Pv (upd H' D (.lst (ys++[z]))))(hd:∀H,Pv xs.length H->Q (.ref D) H):
 AA K (Itz K c d a b) D ix tb σ H Q:=by
 erw[λi m H=>m=xs.length-i/\i<=xs.length/\Pv i H,%[xs.length,by simp,zU0 _|h0],6];rintro i m H ⟨rfl,hi,p⟩;let%[q1|q2]:=hl i H hi p
 by_cases NH:i<xs.length
 . let hlt2:i<ys.length:=#[0]
   refine .inr %[%[xs,ys,xs[i],ys[i],q1,q2,by simp [NH]|by simp [hlt2]]|λv H' y=>?_];erw[t,1,ht,e]at y;let e':=e xs ys xs[i] ys[i] q1 q2 (by simp [NH]) (by simp [hlt2]);subst e';erw[t,_,0,zC0 ai,hs i xs[i] ys[i] t H (by simp [NH]) (by simp [hlt2]) p ht]
 . let e:i=xs.length:=#[0]
   subst e;exact .inl %[%[xs,ys,q1,q2|.inl (zH0 _)]|hd H p]
end L2
namespace L2
open PySem PyProof.Rows HT
section
variable {X:Cx}
def CompScopeO.two{x y z:Str}{scope:Scope}{k l:Nat}{c d:Addr}{cl:List (Str×Addr)}(c1:closureFor scope X.env=pure cl)(c2:∀(n:Addr) (h:Heap),cellsFrom n scope.names cl=(x,n)::cl/\pushCells h scope.names=h.push { cls:=.type "cell",data:=.cell none })(c3:scope.kind=.function)(c4:∀y∈scope.names,y.2=.local->scope.names.lookup y.1=some .local)
 (c5:(relabel scope X.env).names.lookup x=some .cell)(nd:[x,y,z].Nodup)(hcl:cl=[(z,d),(y,c)]∨cl=[(y,c),(z,d)])(hc:X.env.cells.lookup y=some c)(hd:X.env.cells.lookup z=some d)(c6:((relabel scope X.env).names.all λp=>!(p.2==.cell||p.2==.free)||(p.1==x||(cl.lookup p.1).isSome))=true)
 (hr:(relabel scope X.env).names.lookup y=some .cell)(hk:X.N[k]?=some y)(hs:X.env.scope.names.lookup y=some .cell)
 (hr2:(relabel scope X.env).names.lookup z=some .cell)(hk2:X.N[l]?=some z)(hs2:X.env.scope.names.lookup z=some .cell):CompScopeO X x [y,z] [k,l] scope cl where
 clos:=c1
 lay:=c2
 kind:=c3
 names:=c4
 own:=c5
 nd:=nd
 sub:=λp hp=>by
  rcases hcl with rfl | rfl
  all_goals
   rcases zY0 hp with e | e
   . rw[e];assumption
   . rw[NK e];assumption
 has:=c6
 outs:=λj w h=>by
  let nyz:y≠z:=λe=>by simp [e]at nd
  let e1:(y==z)=false:=#[nyz,0]
  let e2:(z==y)=false:=#[Ne.symm nyz,0]
  match j,h with
  |0,h=>
    let e:y=w:=zT0 h;subst e;erw[hr,k,c,1,hk,6,hs];rcases hcl with rfl | rfl <;> simp [List.lookup,e1]
  |1,h=>
    let e:z=w:=zT0 h;subst e;erw[hr2,l,d,1,hk2,6,hs2];rcases hcl with rfl | rfl <;> simp [List.lookup,e2]
  |j+2,h=>simp at h
def DE(K:W.Frag)(hl:PE X l tl)(hK:X.K=K:=by rfl):PI X tg l (Iq K tl):=by subst hK;exact dU hl
end
end L2
namespace L2
open PySem PySem.Spec PyProof.Rows
section
variable {X:Cx}
def gH(z u:Str)(i:Int):Bool:=decide (PySem.fromIndex z.length i+u.length<=z.length)&&Builtin.Str.subAt z u (PySem.fromIndex z.length i)
instance rStartsAt(x:V)(vs:List V)(H:Hp)(Q:VK):∀z u i,x=.str z->vs=[.str u,.int i]->Q (.bl (gH z u i)) H:=0
def wQ:MtR X "str.startswith" rStartsAt:=by
 exists 4,x,vs,v,us,Q,I,rx,rv,h;erw[z,u,i,1,1,q]at h;erw[t,1]at rx;cases rv with
 |cons r1 rv1=>
   cases rv1 with
   |cons r2 rv2=>
     cases rv2;erw[t1,1]at r1;erw[t2,1]at r2;exact call_gives F.slot_str_startswith (wN1 _ _ _) F.entry_str_startswith (F.args_str_startswith_3 _ _ _) (gives_str_startswith_from z u i t t1 t2) %[.bl _,H,I,1|q]
end
def Ke(K:W.Frag)(a:Addr)(xs:List V):It:=%[λi H=>SqT K H a xs/\i<xs.length,λi H y H'=>H'=H/\xs.reverse[i]?=some y|λi _=>xs.length<=i]
def RevT.keep{h':Heap}(x:RevT h it t i)(k:∀o,h.get? it=some o->h'.get? it=some o):RevT h' it t i:=k _ x
def AE{K:W.Frag}(a it:Addr)(xs:List V):Turn P w K tg (Ke K a xs) [it] it (λi h=>i<=xs.length/\RevT h it a ((xs.length:Int)-1-(i:Int))) where
 mem:=by simp
 obj:=λi h st b hb=>by
  let e:b=it:=#[hb,0]
  subst e;erw[_,st.2,λv z=>by cases z]
 keep:=λi h h' st k=>%[st.1|st.2.keep λo e=>k it #[2] o e]
 item:=by
  exists 5;erw[hq,hi]at hg;let%[its,rv,p|hz]:=I.tuple hq;let hj:xs.length-1-i<xs.length:=#[0]
  let hx:xs[xs.length-1-i]?=some xs[xs.length-1-i]:=zM0 hj;let%[u,hu|ru]:=rv.get hx;let%[f0,f1,f2,f3,f4|f5]:=hf it #[2];erw[_,hit]at st;let e1:((xs.length:Int)-1-(i:Int))=((xs.length-1-i:Nat):Int):=#[0]
  rw[e1]at hit;let h63:=jM;apply rT hit p (x:=u) #[hu,0] #[0] λh' tk st' sb=>?_
  let I1:#[8] H { s with heap:=h',toks:=tk }:=I.turned (t':=tk) (λb o hb e=>(sb.2 b hb).trans e) f0 f1 f3 f4 f5;let e2:((xs.length-1-i:Nat):Int)-1=(xs.length:Int)-1-((i+1:Nat):Int):=#[0]
  rw[e2]at st';erw[u,1,ub (s:={ s with heap:=h',toks:=tk }) st' rfl rfl ⋯ ⟨xs[xs.length-1-i],H,I1,ru,⟨rfl,?_⟩,⟨#[0],st'⟩,λb hb=>(hf b hb).1⟩];rw[jM1 hi,hx]
 done:=by
  exists 5;let hg:xs.length<=i:=hg;let%[f0,f1,f2,f3,f4|f5]:=hf it #[2];erw[hi,hit]at st;let e1:(xs.length:Int)-1-(i:Int)=-1:=#[0]
  rw[e1]at hit;exact tf (I.ok.hd hc) hit λh' tk eb=>%[1|I.turned (t':=tk) (λb o hb e=>eb b o hb e) f0 f1 f3 f4 f5]
 self:=λ_ _ _ _ _ st h=>tZ st.2 h
def HV(K:W.Frag)(c:Bool)(a:Addr)(xs:List V):It:=if c=true then ItV K a xs else Ke K a xs
section
variable {X:Cx}{tg:Expr}
instance ZiRevB(K:W.Frag)(R:(It->Hp->Prop))(x:V)(H1:Hp):∀c a xs,x=.ref a->SqB K c H1 a xs->R (HV K c a xs) H1:=0
def iRevB(K:W.Frag)(tl:TE):TI:=λσ H R=>tl σ H λx H1=>ZiRevB K R x H1
def GK{p pos:Pos}(hg:Gl X "reversed")(hm:X.mg "reversed"=none)(hl:PE X l tl)(hs:starEach [l] X.env=[(false,eval l X.env)]:=by rfl):
 PI X tg (.Call (.Name "reversed" p) [l] [] pos) (iRevB X.K tl):=by
 exists 4,R,I,h;apply qS1 (gr I hg hm kM ?_);apply zK1 ?_ hs rfl;rw[hs];show wpAny _ _ (spliced ((false,eval l X.env)::backTo pos (starEach [] X.env))) _ _ s;apply qI1 (thn (hl NC s σ H _ I h) λu s1 ⟨x,H1,I1,r1,c,a,xs,ex,hq,q⟩=>?_);subst ex;cases r1;apply qY0 ?_;cases c with
 |true=>
   let hq:SqL X.K H1 a xs:=hq;let q:R (ItV X.K a xs) H1:=q;let%[its,rv,p|hz]:=I1.list hq;let hlen:=rv.length;apply call_reversed_list p.isList ?_;let hr:(s1.heap.push (revObj a ((its.toArray.size:Int)-1))).IsRevIter ‹s1› a ((xs.length:Int)-1-((0:Nat):Int)):=by
    let e:(xs.length:Int)-1-((0:Nat):Int)=(its.toArray.size:Int)-1:=by rw[zS0];omega
    rw[e];erw[_,qB0 _ rfl,1,1]
   apply wK1 hr ?_;erw[‹s1›,[‹s1›],_,_,H1,1,I1.kept (t':=s1.toks) λb o e=>zO0 _ e,tG a _ xs,%[zU0 _|hr],λb hb=>?_,q];let e:b=‹s1›:=#[hb,0]
   subst e;exact I1.fpOk (zH0 _) (I1.hok.fresh (zH0 _))
 |false=>
   let hq:SqT X.K H1 a xs:=hq;let q:R (Ke X.K a xs) H1:=q;let%[its,rv,p|hz]:=I1.tuple hq;let hlen:=rv.length;apply ou p (by rw[zS0,←rv.length];exact hz) λtk=>?_
   let hr:RevT (s1.heap.push { cls:=.type "reversed",data:=.fields #[.ref a,rawInt ((its.toArray.size:Int)-1)] }) ‹s1› a ((xs.length:Int)-1-((0:Nat):Int)):=by
    let e:(xs.length:Int)-1-((0:Nat):Int)=(its.toArray.size:Int)-1:=by rw[zS0];omega
    rw[e];exact qB0 _ rfl
   apply tZ hr ?_;erw[‹s1›,[‹s1›],_,_,H1,1,I1.kept (t':=tk) λb o e=>zO0 _ e,AE a _ xs,%[zU0 _|hr],λb hb=>?_,q];let e:b=‹s1›:=#[hb,0]
   subst e;exact I1.fpOk (zH0 _) (I1.hok.fresh (zH0 _))
end
def Fc{K:W.Frag}{xs:List V}{g:TG}{tb:TS}{D:Ends}{σ:St}{H:Hp}(Pv:Nat->St->Hp->Prop)(h0:Pv 0 σ H)(hl:∀i σ H,i<=xs.length->Pv i σ H->SqB K c H a xs)
 (hs:∀i x σ H,i<xs.length->xs.reverse[i]?=some x->Pv i σ H->g x σ H λσ2 H2=>tb { D with nx:=Pv (i+1),ct:=Pv (i+1),bk:=D.nx } σ2 H2)(hd:∀ σ H,Pv xs.length σ H->D.nx σ H):
 ∃ W:Nat->Nat->St->Hp->Prop,(∃m,W 0 m σ H)/\∀i m σ H,W i m σ H ->
  ((HV K c a xs).stop i H/\D.nx σ H)∨((HV K c a xs).go i H/\∃N:St->Hp->Prop,(∀ σ' H',N σ' H'->∃m',m'<m/\W (i+1) m' σ' H')/\∀x H',(HV K c a xs).yld i H x H'->g x σ H' λσ2 H2=>tb { D with nx:=N,ct:=N,bk:=D.nx } σ2 H2):=by
 cases c with
 |true=>exact xg Pv h0 hl hs hd
 |false=>
   erw[λi m σ H=>m=xs.length-i/\i<=xs.length/\Pv i σ H,%[xs.length,by simp,zU0 _|h0],6];rintro i m σ H ⟨rfl,hi,p⟩;let q:=hl i σ H hi p
   by_cases NH:i<xs.length
   . refine .inr %[%[q|NH],Pv (i+1),λσ' H' p'=>%[xs.length-(i+1),3,1,NH|p']|λx H' y=>?_];erw[e,ex]at y;subst e;exact hs i x σ _ NH ex p
   . let e:i=xs.length:=#[0]
     subst e;exact .inl %[zH0 _|hd σ H p]
set_option maxRecDepth 100000
def oX:fillsNumberSlot (.type "tuple") "mul"=pure false:=
 PySem.fillsNumberSlot_seq (id:="tuple.__mul__") (r:=some (.builtin "tuple.__rmul__")) F.slot_tuple_mul.lookup ⋯ F.slot_tuple_rmul.lookup ⋯
def vh:seqRepeat? (.type "tuple")=pure (some (.builtin "tuple.__mul__")):=by
 unfold seqRepeat?;rw[PySem.seqSlot_of (T:="tuple") (name:="__mul__") (id:="tuple.__mul__") F.slot_tuple_mul.lookup ⋯,PySem.seqSlot_of (T:="tuple") (name:="__rmul__") (id:="tuple.__rmul__") F.slot_tuple_rmul.lookup ⋯];rfl
def so(a:Int)(t:Tok)(l:Addr)(items:Array Value)(n:Nat)(dd:Option Addr)(sl:Array (Option Value)):
 Meets (Builtin.«int.__rmul__» %[[.int a t,.ref l]|[]]) (λ_ R s=>s.heap.get? l=some { cls:=.type "tuple",dict:=dd,data:=.seq items n,slots:=sl }/\R (.ok (.ret Value.notImplemented)) s):=
 .of_wp λprog w A R s h=>by erw[hp,g,d,tk,os]at s;erw[hl,h]at h;wp_walk;erw[0,h]
def sN(l:Addr)(items:Array Value)(n:Nat)(dd:Option Addr)(sl:Array (Option Value))(u:Tok):
 Meets (Builtin.«tuple.__mul__» %[[.ref l,.int 1 u]|[]]) (λ_ R s=>s.heap.get? l=some { cls:=.type "tuple",dict:=dd,data:=.seq items n,slots:=sl }/\R (.ok (.ret (.ref l))) s):=
 .of_wp λprog w A R s h=>by erw[hp,g,d,tk,os]at s;erw[hl,h]at h;wp_walk;erw[0,h]
def qB(l:Addr)(v:Value)(n:Nat)(dd:Option Addr)(sl:Array (Option Value))(u:Tok):
 Meets (Builtin.«tuple.__mul__» %[[.ref l,.int 0 u]|[]]) (λ_ R s=>s.heap.get? l=some { cls:=.type "tuple",dict:=dd,data:=.seq #[v] n,slots:=sl }/\R (.ok (.ret (.ref ‹s›))) { s with heap:=s.heap.push { cls:=.type "tuple",data:=.seq #[] },toks:=s.toks }):=
 .of_wp λprog w A R s h=>by erw[hp,g,d,tk,os]at s;erw[hl,h]at h;wp_walk;erw[0,h]
def qC(l:Addr)(v:Value)(n:Nat)(dd:Option Addr)(sl:Array (Option Value))(x:Int)(u:Tok)(h2:2<=x)(hx:x<=1000):
 Meets (Builtin.«tuple.__mul__» %[[.ref l,.int x u]|[]]) (λ_ R s=>s.heap.get? l=some { cls:=.type "tuple",dict:=dd,data:=.seq #[v] n,slots:=sl }/\R (.ok (.ret (.ref ‹s›))) { s with heap:=s.heap.push { cls:=.type "tuple",data:=.seq ((List.replicate x.toNat #[v]).foldl (·++·) #[]) },toks:=s.toks }):=
 .of_wp λprog w A R s h=>by
  erw[hp,g,d,tk,os]at s;erw[hl,h]at h;let c1:(decide (x < -(2 ^ 63))||decide (x≥2 ^ 63))=false:=by
   rw[zB1 #[0],zB1 #[0]];rfl
  let c2:(x==1)=false:=by simpa using(show x≠1 by omega)
  let c3:decide (x<=0)=false:=zB1 #[0];let c4:¬ ((1:Int)*x>(2 ^ 63-1) / 8):=#[0]
  let c5:Builtin.Tuple.tupleTooMany (1*x)=false:=by
   unfold Builtin.Tuple.tupleTooMany
   have:(sizeLine:Int)≥1000:=by decide
   exact zB1 #[0]
  wp_walk
  apply zT1 (λhab=>by rw[c1]at hab;cases hab) (λ_=>?_);show wpAny _ _ (do let xs ←Builtin.Tuple.tupleItemsOf (Value.ref l);_) _ _ _
  wp_walk
  apply zT1 (λhab=>absurd hab c4) (λ_=>?_);apply zT1 (λhab=>by rw[show Builtin.Tuple.tupleTooMany (((#[v]:Array Value).size:Int)*x)=false from c5]at hab;cases hab) (λ_=>?_);let sz:((List.replicate x.toNat #[v]).foldl (·++·) #[]).size<=sizeLine:=by
   let e:(List.replicate x.toNat (#[v]:Array Value)).foldl (·++·) #[]=(List.replicate x.toNat [v]).flatten.toArray:=by
    have:=lx [v] x.toNat []
    rw[wP1]at this;exact this
   rw[e,zS0,Ag];exact small (by show x.toNat*1<=1000;omega)
  apply zD0 (zO1 ?_ sz);exact zI0 %[0|h]
section
variable {X:Cx}
instance rRepT(K:W.Frag)(x:V)(y:V)(H:Hp)(Q:VK):∀a v k,x=.ref a->y=.int k->SqT K H a [v]->0<=k->k<=1000->(k=1->Q (.ref a) H)->(k≠1->∀p,H p=none->Q (.ref p) (upd H p (.tup (List.replicate k.toNat v)))):=0
def vX(r:RelV v u):∀n,Vals (List.replicate n v) (List.replicate n u)
 |0=>.nil
 |n+1=>.cons r (vX r n)
def GQ:OpR X (binaryOp .Mult) (rRepT X.K):=by
 exists 4,x,y,vv,u,Q,I,rx,ry,h;erw[a,v,k,1,1,hq,k0,k1,q1,q2]at h;cases rx;erw[t,1]at ry;let%[its,r,p|hz]:=I.tuple hq;obtain⟨w,rfl,rw'⟩:∃w,its=[w]/\RelV v w:=by
  cases r with
  |cons h1 h2=>cases h2;erw[0,h1]
 erw[o,e,hc,n,hd]at p;erw[cls,dd,data,sl]at o;cases hc;cases hd;let e:s.heap.get? a=some { cls:=.type "tuple",dict:=dd,data:=.seq #[w] n,slots:=sl }:=e;apply wpAny_binaryOp_repeat_ref (T:="tuple") (U:="int") ⋯ %[_,e|1] (λs'=>vM0 s' k t) oX F.fills_int_mul wQ0 vh F.slot_int_index.lookup
  (qT1 wQ0 (vM0 s k t) F.entry_int_rmul (F.args_int_rmul_2 _ _) (so k t a #[w] n dd sl)
   %[e,1,%[_,e|1]|6])
 by_cases c1:k=1
 . subst c1;exact qT1 vJ0 %[_,e|1] vD0 (wY0 _ _) (sN a #[w] n dd sl t) ⟨e,.ref a,H,I,rfl,q1 rfl⟩
 let laid:∀m:Nat,m<=1000->#[8] (upd H ‹s› (.tup (List.replicate m v))) { s with heap:=s.heap.push { cls:=.type "tuple",data:=.seq (List.replicate m w).toArray },toks:=s.toks }:=λm hm=>
  I.laid (t':=s.toks) (o:=.tup (List.replicate m v)) (λb ob q=>zO0 _ q) (zH0 _) %[by rw[zV1];exact small hm,_,vX rw' m,IsTup.new _ _,_,qB0 _ rfl|1]
 by_cases c0:k=0
 . subst c0;exact qT1 vJ0 %[_,e|1] vD0 (wY0 _ _) (qB a w n dd sl t) ⟨e,.ref _,_,laid 0 ⋯,rfl,q2 ⋯ _ (I.hok.fresh (zH0 _))⟩
 . let ef:(List.replicate k.toNat (#[w]:Array Value)).foldl (·++·) #[]=(List.replicate k.toNat w).toArray:=by
    have:=lx [w] k.toNat []
    rw [wP1]at this;rw[show(List.replicate k.toNat w)=(List.replicate k.toNat [w]).flatten by
     induction k.toNat with
     |zero=>rfl
     |succ m ih=>rw[qA1,qA1,qY1,ih];rfl]
    exact this
   apply qT1 vJ0 %[_,e|1] vD0 (wY0 _ _) (qC a w n dd sl k t #[0] k1) ⟨e,?_⟩;rw[ef];erw[.ref _,_,laid k.toNat #[0],1,q2 c1 _ (I.hok.fresh (zH0 _))]
def DM(K:W.Frag)(hK:X.K=K:=by rfl):OpR X (binaryOp .Mult) (rRepT K):=by subst hK;exact GQ
end
section
variable {X:Cx}
instance rDictD(xs:List V)(H:Hp)(Q:VK):∀(a:Addr)(NF:List (Key×V)),xs=[.ref a]->H a=some (.dK NF)->(∀p,H p=none->Q (.ref p) (upd H p (.dK NF))):=0
def zy:hV X (.type "dict") rDictD:=by
 exists 4,xs,us,Q,I,r,h;erw[a,NF,1,ha,q]at h;cases r with
 |cons ra rr=>
   cases rr;cases ra;exact Fp I (.inl ha) λp s' hp I'=>%[.ref p,_,I',1|q p hp]
end
def zz:bootBuiltins ("dict":Str)=some (.type "dict"):=by decide
end L2
namespace Mine
def Pr(n:Int):Prop:=2<=n/\∀k:Int,2<=k->k<=1000->k*k<=n->n % k≠0
def pj(n:Int)(j:Int):Prop:=∀k:Int,2<=k->k<j->k*k<=n/\n % k≠0
def tJ{a b:Int}(h0:0<=a)(h:a<=b):a*a<=b*b:=Int.mul_le_mul h h h0 (Int.le_trans h0 h)
def IZ{n k:Int}(h2:2<=n)(h0:2<=k)(u:pj n k)(h:n<k*k):Pr n:=by
 erw[h2,λj j2 _ js=>?_]
 by_cases c:j<k
 . exact(u j j2 c).2
 . have:=tJ (a:=k) (b:=j) #[0] #[0]
   omega
def Ja{n:Int}(h2:2<=n)(u:pj n 1001):Pr n:=%[h2|λj j2 j3 _=>(u j j2 #[0]).2]
def IX{n k:Int}(h0:2<=k)(h1:k<=1000)(hs:k*k<=n)(h:n % k=0):¬ Pr n:=λp=>p.2 k h0 h1 hs h
def xP(n:Int):pj n 2:=λk a b=>#[0]
def AD(u:pj n k)(hs:k*k<=n)(h:n % k≠0):pj n (k+1):=λj a b=>by
 by_cases c:j<k
 . exact u j a c
 . let e:j=k:=#[0]
   subst e;erw[hs,h]
def prB(n:Int):Bool:=decide (2<=n)&&(List.range 999).all λi=>decide (n<((i:Int)+2)*((i:Int)+2))||decide (n % ((i:Int)+2)≠0)
def zU(h:prB n=true):Pr n:=by
 unfold prB at h;rw[qU1]at h;erw[zU1 h.1,λk k2 k3 ks=>?_];let q:=List.all_eq_true.mp h.2 (k.toNat-2) (List.mem_range.mpr #[0]);let e:(((k.toNat-2:Nat):Int)+2)=k:=#[0]
 rw[e,Bool.or_eq_true]at q;rcases q with q | q
 . have:=zU1 q;omega
 . exact zU1 q
def Bh:Pr 999983:=zU ⋯
def IY{d:Int}(h:Pr p)(hp:p<1002001)(d0:1<d)(d1:d<p)(hd:d ∣ p):False:=by
 erw[e,he]at hd;let e0:1<e:=by
  by_cases c:e<=1
  . have:d*e<=d*1:=qW0 c #[0]
    omega
  . omega
 by_cases c:d<=e
 . let s:d*d<=p:=by
    have:=qW0 c (show(0:Int)<=d by omega)
    omega
   let t:d<=1000:=by
    by_cases c2:1001<=d
    . have:=tJ (a:=1001) (b:=d) #[0] c2
      omega
    . omega
   apply h.2 d #[0] t s ?_;rw[he];exact Int.mul_emod_right d e
 . let c':e<=d:=#[0]
   let s:e*e<=p:=by
    have:=wG0 c' (show(0:Int)<=e by omega)
    omega
   let t:e<=1000:=by
    by_cases c2:1001<=e
    . have:=tJ (a:=1001) (b:=e) #[0] c2
      omega
    . omega
   apply h.2 e #[0] t s ?_;rw[he,qX0];exact Int.mul_emod_right e d
def Cop(x y:Int):Prop:=∀d:Int,0<d->d ∣ x->d ∣ y->d=1
def JS{a:Int}(h:Pr p)(hp:p<1002001)(a0:0<a)(a1:a<p):Cop p a:=λd d0 h1 h2=>by
 have:=jZ1 a0 h2
 by_cases c:1<d
 . exact(IY h hp c #[0] h1).elim
 . omega
structure Eu(a p former ff rest f:Int):Prop where
 r0:0<rest
 rp:rest<p
 fr:rest<former
 f0:0<=f
 f1:f<p
 g0:0<=ff
 g1:ff<p
 cop:Cop former rest
 d1:p ∣ former-a*ff
 d2:p ∣ rest-a*f
def xw{a:Int}(h:Pr p)(hp:p<1002001)(a0:0<a)(a1:a<p):Eu a p p 0 (a % p) 1:=by
 let e:a % p=a:=qL0 #[0] a1;rw[e];erw[a0,a1,a1,3,3,3,3,JS h hp a0 a1,by rw[Int.mul_zero,Int.sub_zero];exact Int.dvd_refl p,by rw[jK1,Int.sub_self];exact Int.dvd_zero p]
def An(E:Eu a p former ff rest f)(h1:rest≠1):Eu a p rest f (former-former / rest*rest) ((ff-former / rest*f) % p)/\(former-former / rest*rest).toNat<rest.toNat:=by
 let r0:=E.r0;let rp:=E.rp;let em:former-former / rest*rest=former % rest:=by
  have:=jA1 former rest
  rw[qX0]at this;omega
 let l0:0<=former % rest:=qD0 _ #[0];let l1:former % rest<rest:=qH0 _ r0;let cop':Cop rest (former % rest):=λd d0 x y=>by
  apply E.cop d d0 ?_ x
  have:=jA1 former rest
  rw[←this];exact wT1 y (Int.dvd_trans x (Int.dvd_mul_right _ _))
 let lz:former % rest≠0:=λz=>by
  have:=cop' rest r0 (Int.dvd_refl _) (by rw[z];exact Int.dvd_zero _)
  exact h1 this
 rw [em];erw[%[3,3,l1,qD0 _ #[0],qH0 _ #[0],E.f0,E.f1,cop',E.d2|6],3];let q:p ∣ (former-a*ff)-former / rest*(rest-a*f):=Int.dvd_sub E.d1 (Int.dvd_trans E.d2 (Int.dvd_mul_left _ _));let q2:p ∣ (ff-former / rest*f)-(ff-former / rest*f) % p:=Int.dvd_self_sub_emod;let q3:p ∣ a*((ff-former / rest*f)-(ff-former / rest*f) % p):=Int.dvd_trans q2 (Int.dvd_mul_left _ _);let q4:=wT1 q q3;let e2:former-a*ff-former / rest*(rest-a*f)+a*(ff-former / rest*f-(ff-former / rest*f) % p)=former % rest-a*((ff-former / rest*f) % p):=by
  rw[←em];generalize former / rest=t;generalize (ff-t*f) % p=u;rw[wU0,wU0,wU0,Int.mul_left_comm t a f];omega
 rw[e2]at q4;exact q4
def Fg(E:Eu a p former ff rest f)(h1:rest=1)(hp:1<p):0<f/\f<p/\f*a % p=1:=by
 subst h1;let d2:=E.d2;let f0:=E.f0;let hm:f*a % p=1:=by
  erw[c,hc]at d2;let e:f*a=1+p*(-c):=by
   rw[qX0 f a,Int.mul_neg];omega
  rw[e,Int.add_mul_emod_self_left];exact qL0 #[0] hp
 erw[6,E.f1,hm]
 by_cases c:f=0
 . subst c;simp at hm
 . omega
end Mine
namespace Mine
def xL(n d:Int):Prop:=∀k:Int,3<=k->k % 2=1->k<d->n % k≠0
def BA(n:Int):xL n 3:=λk a _ c=>#[0]
def Eg(u:xL n d)(hd:d % 2=1)(h:n % d≠0):xL n (d+2):=λk a b c=>by
 by_cases e:k<d
 . exact u k a b e
 . have:k=d:=#[0]
   subst this;exact h
def BW{n d:Int}(h3:3<=n)(h2:n % 2≠0)(h0:3<=d)(u:xL n d)(hd:n<d*d):Pr n:=by
 erw[3,λk k2 k3 ks z=>?_];let%[q|hq]:=qK1 z
 by_cases e:k % 2=1
 . by_cases c:k<d
   . exact u k #[0] e c z
   . have:=tJ (a:=d) (b:=k) #[0] #[0]
     omega
 . obtain ⟨j,hj⟩:∃j,k=2*j:=%[k / 2|3]
   rw[hj,wN0]at hq;omega
def BZ{n:Int}(h2:n % 2=0)(h3:2<n):¬ Pr n:=λp=>p.2 2 #[0] #[0] #[0] h2
def BY{n d:Int}(h9:n<=999999)(h0:3<=d)(hs:d*d<=n)(h:n % d=0):¬ Pr n:=λp=>by
 let t:d<=1000:=by
  by_cases c2:1001<=d
  . have:=tJ (a:=1001) (b:=d) #[0] c2
    omega
  . omega
 exact p.2 d #[0] t hs h
def ya{n d:Int}(h9:n<=999999)(h0:3<=d)(hs:d*d<=n):d<=999:=by
 by_cases c2:1000<=d
 . have:=tJ (a:=1000) (b:=d) #[0] c2
   omega
 . omega
def Gy{n d:Int}(h0:3<=d)(hs:d*d<=n):d<=n:=by
 have:=qW0 (show(1:Int)<=d by omega) (show(0:Int)<=d by omega)
 omega
end Mine
namespace Mine
def cG:Nat->List (List Int)
 |0=>[[]]
 |n+1=>(cG n).flatMap λs=>[s++[0],s++[1]]
def gy(k:Int):Nat->List Int
 |0=>[]
 |j+1=>(k / 2 ^ j % 2)::gy k j
def pZ(k:Int):∀n:Nat,gy k (n+1)=gy (k / 2) n++[k % 2]
 |0=>by simp [gy]
 |n+1=>by
   let ih:=pZ k n;show(k / 2 ^ (n+1) % 2)::gy k (n+1)=(k / 2 / 2 ^ n % 2)::gy (k / 2) n++[k % 2]
   rw[ih,Int.ediv_ediv_of_nonneg ⋯,qN1,qX0 2];rfl
def uf{α β:Type}(f g:α->β):∀(l:List α)(i:Nat),(l.flatMap λs=>[f s,g s])[2*i]?=l[i]?.map f/\(l.flatMap λs=>[f s,g s])[2*i+1]?=l[i]?.map g
 | [],i=>by simp
 |x::r,0=>by simp
 |x::r,i+1=>by
   let ih:=uf f g r i;let e1:2*(i+1)=(2*i)+2:=#[0]
   let e2:2*(i+1)+1=(2*i+1)+2:=#[0]
   constructor
   . rw[e1];simpa using ih.1
   . rw[e2];simpa using ih.2
def oZ{α β:Type}(f g:α->β):∀l:List α,(l.flatMap λs=>[f s,g s]).length=2*l.length
 | []=>rfl
 |x::r=>by
   let ih:=oZ f g r;simp only[wD1,zJ0,zP0,zH1];omega
def gl:∀n:Nat,(cG n).length=2 ^ n
 |0=>rfl
 |n+1=>by rw[cG,oZ,gl n,vL0];omega
def tM:∀(n k:Nat),k<2 ^ n->(cG n)[k]?=some (gy (k:Int) n)
 |0,k,h=>by
   have:k=0:=#[h,0]
   subst this;rfl
 |n+1,k,h=>by
   let hk:k / 2<2 ^ n:=by rw[vL0]at h;omega
   let ih:=tM n (k / 2) hk;let ec:((k:Nat):Int) / 2=((k / 2:Nat):Int):=#[0]
   rw[pZ,ec];rw[cG];let q:=uf (λs:List Int=>s++[0]) (λs:List Int=>s++[1]) (cG n) (k / 2)
   by_cases c:k % 2=0
   . let e:k=2*(k / 2):=#[0]
     let e2:((k:Nat):Int) % 2=0:=#[0]
     rw[e2];let q1:=q.1;rw[←e,ih]at q1
     simpa using q1
   . let e:k=2*(k / 2)+1:=#[0]
     let e2:((k:Nat):Int) % 2=1:=#[0]
     rw[e2];let q1:=q.2;rw[←e,ih]at q1
     simpa using q1
def eO:∀(n:Nat)(s:List Int),s∈cG n->s.length=n
 |0,s,h=>by
   have:s=[]:=by simpa [cG]using h
   subst this;rfl
 |n+1,s,h=>by
   rw[cG,List.mem_flatMap]at h;erw[t,ht,hs]at h
   have:=eO n t ht
   simp at hs
   rcases hs with rfl | rfl <;> simp [this]
def iT{n:Nat}(h:n<=6):2 ^ n<=64:=wL1 ⋯ h
end Mine
namespace Mine
def Pm(p:Int):Prop:=1<p/\∀a:Int,¬ p ∣ a->∃f:Int,p ∣ f*a-1
def Ff{p:Int}(hp:1<p):∀(n:Nat){former ff rest f:Int},rest.toNat<=n->Eu a p former ff rest f->∃g:Int,g*a % p=1
 |0,former,ff,rest,f,hn,E=>by
   have:=E.r0
   omega
 |n+1,former,ff,rest,f,hn,E=>by
   by_cases c:rest=1
   . erw[f,(Fg E c hp).2.2]
   . let%[E2|lt]:=An E c;exact Ff hp n #[0] E2
def rD(h:Pr p)(hp:p<1002001):Pm p:=by
 let p1:1<p:=by have:=h.1;omega
 erw[p1,λa ha=>?_];let a0:0<a % p:=by
  have:=qD0 a (show p≠0 by omega)
  by_cases c:a % p=0
  . exact absurd (qK1 c) ha
  . omega
 let a1:a % p<p:=qH0 _ #[0];let%[g|hg]:=Ff p1 _ (zH0 _) (xw h hp a0 a1);erw[g,6];let e1:g*a % p=1:=by rw[←hg,jN0 g (a % p),jB0,←jN0]
 have:=jA1 (g*a) p
 erw[g*a / p,3]
def Pm.mul{a b:Int}(h:Pm p)(hd:p ∣ a*b)(ha:¬ p ∣ a):p ∣ b:=by
 let%[f,k|hk]:=h.2 a ha;erw[m,hm]at hd;erw[f*m-k*b,by grind]
def Pm.not_mul{a b:Int}(h:Pm p)(ha:¬ p ∣ a)(hb:¬ p ∣ b):¬ p ∣ a*b:=λz=>hb (h.mul z ha)
def ch:Nat->Nat->Nat
 |_,0=>1
 |0,_+1=>0
 |n+1,k+1=>ch n k+ch n (k+1)
def ot(n:Nat):ch n 0=1:=by cases n <;> rfl
def pf:∀(n k:Nat),n<k->ch n k=0
 |0,k+1,_=>rfl
 |n+1,k+1,h=>by
   show ch n k+ch n (k+1)=0;rw[pf n k #[0],pf n (k+1) #[0]]
def HK(n:Nat):ch n n=1:=by
 induction n with
 |zero=>rfl
 |succ n ih=>
   show ch n n+ch n (n+1)=1;rw[ih,pf n (n+1) #[0]]
def vT:∀(n k:Nat),(k+1)*ch (n+1) (k+1)=(n+1)*ch n k
 |0,0=>rfl
 |0,k+1=>by
   show(k+2)*(ch 0 (k+1)+ch 0 (k+2))=1*ch 0 (k+1);rw[pf 0 (k+1) #[0],pf 0 (k+2) #[0]]
   simp
 |n+1,0=>by
   let h:=vT n 0;rw[ot n]at h;show(0+1)*(ch (n+1) 0+ch (n+1) (0+1))=(n+1+1)*ch (n+1) 0;rw[ot (n+1)];omega
 |n+1,k+1=>by
   let h1:=vT n k;let h2:=vT n (k+1);show(k+2)*(ch (n+1) (k+1)+ch (n+1) (k+2))=(n+2)*ch (n+1) (k+1);let e:ch (n+1) (k+1)=ch n k+ch n (k+1):=rfl
   grind
def sm(f:Nat->Int):Nat->Int
 |0=>0
 |n+1=>sm f n+f n
def qJ{f g:Nat->Int}:∀n,(∀k,k<n->f k=g k)->sm f n=sm g n
 |0,_=>rfl
 |n+1,h=>by
   show sm f n+f n=sm g n+g n;rw[qJ n (λk hk=>h k #[0]),h n #[0]]
def CV(f g:Nat->Int):∀n,sm (λk=>f k+g k) n=sm f n+sm g n
 |0=>rfl
 |n+1=>by
   show sm (λk=>f k+g k) n+(f n+g n)=(sm f n+f n)+(sm g n+g n)
   rw[CV f g n];omega
def CT(c:Int)(f:Nat->Int):∀n,sm (λk=>c*f k) n=c*sm f n
 |0=>by simp [sm]
 |n+1=>by
   show sm (λk=>c*f k) n+c*f n=c*(sm f n+f n)
   rw[CT c f n]
   grind
def my(f:Nat->Int):∀n,sm f (n+1)=f 0+sm (λk=>f (k+1)) n
 |0=>by simp [sm]
 |n+1=>by
   show sm f (n+1)+f (n+1)=f 0+(sm (λk=>f (k+1)) n+f (n+1))
   rw[my f n];omega
def CU{p:Int}{f:Nat->Int}:∀n,(∀k,k<n->p ∣ f k)->p ∣ sm f n
 |0,_=>%[(0)|by simp [sm]]
 |n+1,h=>wT1 (CU n λk hk=>h k #[0]) (h n #[0])
def Ix(a:Int):∀n:Nat,(a+1) ^ n=sm (λk=>(ch n k:Int)*a ^ k) (n+1)
 |0=>by simp [sm,ch]
 |n+1=>by
   let ih:=Ix a n;rw[qN1,ih,my (λk=>((ch (n+1) k:Nat):Int)*a ^ k) (n+1)];let e1:sm (λk=>((ch (n+1) (k+1):Nat):Int)*a ^ (k+1)) (n+1)=a*sm (λk=>(ch n k:Int)*a ^ k) (n+1)+sm (λk=>(ch n (k+1):Int)*a ^ (k+1)) (n+1):=by
    rw[←CT,←CV];apply qJ _ λk _=>?_
    have:ch (n+1) (k+1)=ch n k+ch n (k+1):=rfl
    rw[this,jN1,qN1]
    grind
   let e2:sm (λk=>(ch n k:Int)*a ^ k) (n+1)=1+sm (λk=>(ch n (k+1):Int)*a ^ (k+1)) (n+1):=by
    rw[my]
    have:sm (λk=>(ch n (k+1):Int)*a ^ (k+1)) (n+1)=sm (λk=>(ch n (k+1):Int)*a ^ (k+1)) n:=by
     show _+(ch n (n+1):Int)*a ^ (n+1)=_;rw[pf n (n+1) #[0]]
     simp
    rw[this,ot]
    simp
   rw[e1,ot]
   grind
def JU(h:Pm p){n k:Nat}(hn:(n:Int)+1=p)(hk:k<n):p ∣ ((ch (n+1) (k+1):Nat):Int):=by
 let e:((k:Int)+1)*((ch (n+1) (k+1):Nat):Int)=p*((ch n k:Nat):Int):=by
  have:=vT n k
  rw[←hn];exact_mod_cast this
 apply h.mul (a:=(k:Int)+1) %[_|e] λhd=>?_
 have:=jZ1 #[0] hd
 omega
def sC(h:Pm p):∀a:Nat,p ∣ (a:Int) ^ p.toNat-a
 |0=>by
   have:p.toNat≠0:=by have:=h.1;omega
   simp [Int.zero_pow this]
 |a+1=>by
   let ih:=sC h a;obtain⟨n,hn⟩:∃n:Nat,p.toNat=n+1:=%[p.toNat-1|by have:=h.1;omega]
   let hp:(n:Int)+1=p:=by have:=h.1;omega
   rw [hn]at ih ⊢;let b:=Ix (a:Int) (n+1);let e:sm (λk=>(ch (n+1) k:Int)*(a:Int) ^ k) (n+1+1)=sm (λk=>(ch (n+1) (k+1):Int)*(a:Int) ^ (k+1)) n+(a:Int) ^ (n+1)+1:=by
    rw[my];show _+(sm _ n+(ch (n+1) (n+1):Int)*(a:Int) ^ (n+1))=_;rw[HK,ot]
    simp
    omega
   let d:p ∣ sm (λk=>(ch (n+1) (k+1):Int)*(a:Int) ^ (k+1)) n:=CU n λk hk=>Int.dvd_mul_of_dvd_left (JU h hp hk)
   erw[u,hu]at ih;erw[v,hv]at d;erw[u+v,6];rw[jN1];show((a:Int)+1) ^ (n+1)-((a:Int)+1)=_;rw[b,e]
   grind
def JG{a:Int}(h:Pm p)(ha:¬ p ∣ a)(a0:0<=a):p ∣ a*a ^ (p-2).toNat-1:=by
 obtain⟨n,hn⟩:∃n:Nat,p.toNat=n+2:=%[p.toNat-2|by have:=h.1;omega]
 let e:(p-2).toNat=n:=#[0]
 let f:=sC h a.toNat;rw[Int.toNat_of_nonneg a0,hn]at f;rw[e];let g:a ^ (n+2)-a=a*(a*a ^ n-1):=by
  rw[qN1,qN1]
  grind
 rw[g]at f;exact h.mul f ha
def IsPoly:Nat->(Int->Int)->Prop
 |0,f=>∀x,f x=0
 |n+1,f=>∃(a:Int)(g:Int->Int),IsPoly n g/\∀x,f x=a+x*g x
def IsPoly.congr:∀{n:Nat}{f g:Int->Int},IsPoly n f->(∀x,g x=f x)->IsPoly n g
 |0,_,_,h,e=>λx=>(e x).trans (h x)
 |_+1,_,_,⟨a,k,hk,h⟩,e=>%[a,k,hk|λx=>(e x).trans (h x)]
def IsPoly.zero:∀n:Nat,IsPoly n λ_=>0
 |0=>λ_=>rfl
 |n+1=>%[(0),λ_=>0,IsPoly.zero n|λx=>by simp]
def IsPoly.up:∀{n:Nat}{f:Int->Int},IsPoly n f->IsPoly (n+1) f
 |0,f,h=>%[(0),λ_=>0,λ_=>rfl|λx=>by rw[h x];simp]
 |n+1,f,⟨a,g,hg,h⟩=>%[a,g,hg.up|h]
def IsPoly.upTo{n:Nat}{f:Int->Int}(h:IsPoly n f):∀m,n<=m->IsPoly m f:=λm hm=>by
 obtain⟨k,rfl⟩:∃k,m=n+k:=%[m-n|3]
 clear hm
 induction k with
 |zero=>exact h
 |succ k ih=>exact ih.up
def IsPoly.add:∀{n:Nat}{f g:Int->Int},IsPoly n f->IsPoly n g->IsPoly n λx=>f x+g x
 |0,f,g,h,k=>λx=>by show f x+g x=0;rw[h x,k x];rfl
 |n+1,f,g,⟨a,u,hu,h⟩,⟨b,v,hv,k⟩=>%[a+b,λx=>u x+v x,hu.add hv|λx=>by show f x+g x=a+b+x*(u x+v x);rw[h x,k x];grind]
def IsPoly.mul(c:Int):∀{n:Nat}{f:Int->Int},IsPoly n f->IsPoly n λx=>c*f x
 |0,f,h=>λx=>by show c*f x=0;rw[h x];simp
 |n+1,f,⟨a,u,hu,h⟩=>%[c*a,λx=>c*u x,hu.mul c|λx=>by show c*f x=c*a+x*(c*u x);rw[h x];grind]
def IsPoly.lin{n:Nat}{f:Int->Int}(h:IsPoly n f)(r:Int):IsPoly (n+1) λx=>(x-r)*f x:=by
 let h1:IsPoly (n+1) λx=>x*f x:=%[(0),f,h|λx=>by simp]
 exact(h1.add (h.up.mul (-r))).congr λx=>by grind
def IsPoly.div:∀{n:Nat}{f:Int->Int},IsPoly (n+1) f->∀r:Int,∃q,IsPoly n q/\∀x,f x-f r=(x-r)*q x
 |0,f,⟨a,g,hg,h⟩,r=>%[λ_=>0,λ_=>rfl|λx=>by rw[h x,h r,hg x,hg r];simp]
 |n+1,f,⟨a,g,hg,h⟩,r=>by
   let%[q,hq|e]:=IsPoly.div hg r;erw[λx=>g x+r*q x,hg.add (hq.up.mul r),λx=>?_]
   have:=e x
   rw[h x,h r]
   grind
def IsPoly.roots(hp:Pm p):∀{n:Nat}{f:Int->Int}(rs:List Int),IsPoly n f->rs.length=n->rs.Pairwise (λa b=>¬ p ∣ b-a)->(∀r∈rs,p ∣ f r)->∀x,p ∣ f x
 |0,f,_,h,_,_,_,x=>%[(0)|by rw[h x];simp]
 |n+1,f,[],_,hl,_,_,_=>by simp at hl
 |n+1,f,r::rs,h,hl,hd,hr,x=>by
   let%[q,hq|e]:=h.div r;let hd':=List.pairwise_cons.mp hd;let z:=IsPoly.roots hp rs hq #[hl,0] hd'.2 (λs hs=>by
    let h1:p ∣ (s-r)*q s:=by
     rw[←e s];exact Int.dvd_sub (hr s (qM0 _ hs)) (hr r qF0)
    exact hp.mul h1 (hd'.1 s hs)) x
   have:f x=f r+(x-r)*q x:=by have:=e x;omega
   rw[this];exact wT1 (hr r qF0) (Int.dvd_mul_of_dvd_right z)
end Mine
namespace Mine
def pr(g:Nat->Int):Nat->Int
 |0=>1
 |n+1=>pr g n*g n
def rm{f g:Nat->Int}:∀n,(∀k,k<n->f k=g k)->pr f n=pr g n
 |0,_=>rfl
 |n+1,h=>by
   show pr f n*f n=pr g n*g n;rw[rm n (λk hk=>h k #[0]),h n #[0]]
def rk(g:Nat->Int):∀n,pr g (n+1)=g 0*pr (λk=>g (k+1)) n
 |0=>by simp [pr]
 |n+1=>by
   show pr g (n+1)*g (n+1)=g 0*(pr (λk=>g (k+1)) n*g (n+1))
   rw[rk g n,wN0]
def px(x:Int)(i:Nat):Nat->Int
 |0=>1
 |n+1=>if n=i then px x i n else px x i n*(x-n)
def zS(i:Nat):∀n,IsPoly (if i<n then n else n+1) λx=>px x i n
 |0=>%[(1),λ_=>0,λ_=>rfl|λx=>by simp [px]]
 |n+1=>by
   let ih:=zS i n
   by_cases c:n=i
   . subst c;rw[ND (qT0 n)]at ih;rw[NE (qM1 n)];exact ih.congr λx=>by simp [px]
   . let e:∀x,px x i (n+1)=(x-n)*px x i n:=λx=>by
      show(if n=i then px x i n else px x i n*(x-n))=_;rw[ND c,qX0]
     by_cases c2:i<n
     . rw[NE c2]at ih;rw[NE #[0]];exact(ih.lin n).congr e
     . rw[ND c2]at ih;rw[ND #[0]];exact(ih.lin n).congr e
def vi{k i:Nat}(h:k≠i):∀n,k<n->px (k:Int) i n=0
 |n+1,hk=>by
   show(if n=i then px (k:Int) i n else px (k:Int) i n*((k:Int)-n))=0
   by_cases c:n=i
   . rw[NE c];exact vi h n #[0]
   . rw [ND c]
     by_cases c2:k=n
     . subst c2
       simp
     . rw [vi h n #[0]]
       simp
def lag(v u:Nat->Int)(n:Nat)(x:Int):Int:=sm (λi=>v i*px x i n*u i) n
def Gk{n m:Nat}{f:Nat->Int->Int}:(∀i,i<m->IsPoly n (f i))->IsPoly n λx=>sm (λi=>f i x) m:=by
 induction m with
 |zero=>exact λ_=>IsPoly.zero n
 |succ m ih=>exact λh=>(ih λi hi=>h i #[0]).add (h m #[0])
def nZ(v u:Nat->Int)(n:Nat):IsPoly n (lag v u n):=Gk λi hi=>by
 let h:=zS i n;rw[NE hi]at h;exact(h.mul (v i*u i)).congr λx=>by grind
def CQ{f:Nat->Int}{k:Nat}:∀n,k<n->(∀i,i<n->i≠k->f i=0)->sm f n=f k
 |n+1,hk,h=>by
   show sm f n+f n=f k
   by_cases c:k=n
   . subst c;let z:sm f k=0:=by
      have:sm f k=sm (λ_=>0) k:=qJ k λi hi=>h i #[0] #[0]
      rw[this];clear this h hk
      induction k with
      |zero=>rfl
      |succ k ih=>show sm (λ_=>0) k+0=0;rw[ih];rfl
     rw[z]
     simp
   . rw [CQ n #[0] (λi hi=>h i #[0]),h n #[0] #[0]]
     simp
def Wgt(p:Int)(n:Nat)(u:Nat->Int):Prop:=∀i,i<n->p ∣ px (i:Int) i n*u i-1
def mh{k:Nat}(hu:Wgt p n u)(hk:k<n):p ∣ lag v u n k-v k:=by
 unfold lag;rw[CQ n hk λi hi hne=>by rw[vi (Ne.symm hne) n hk];simp];let%[m|hm]:=hu k hk;erw[v k*m,by grind]
def far{p:Int}{n:Nat}(hn:(n:Int)<=p):((List.range n).map λk:Nat=>(k:Int)).Pairwise λa b=>¬ p ∣ b-a:=by
 rw[List.pairwise_map];apply List.Pairwise.imp_of_mem (fun{a b} ha hb h=>?_) List.pairwise_lt_range;intro d
 have:=jZ1 #[0] d
 let hb':=List.mem_range.mp hb;omega
def alike(hp:Pm p){n:Nat}(hn:(n:Int)<=p){f g:Int->Int}(hf:IsPoly n f)(hg:IsPoly n g)(h:∀k:Nat,k<n->p ∣ f k-g k)(x:Int):p ∣ f x-g x:=by
 let hd:IsPoly n λx=>f x-g x:=(hf.add (hg.mul (-1))).congr λx=>by grind
 apply hd.roots hp ((List.range n).map λk:Nat=>(k:Int)) #[2] (far hn) (λr hr=>?_) x;let%[k,hk|1]:=List.mem_map.mp hr;exact h k (List.mem_range.mp hk)
def wZ(hp:Pm p){n:Nat}(hn:(n:Int)<=p){v:Nat->Int}{P:Int->Int}(hu:Wgt p n u)(hP:IsPoly n P)(h:∀k:Nat,k<n->p ∣ v k-P k)(x:Int):p ∣ lag v u n x-P x:=
 alike hp hn (nZ v u n) hP (λk hk=>by
  let h1:=mh (v:=v) hu hk;let h2:=h k hk
  have:lag v u n k-P k=(lag v u n k-v k)+(v k-P k):=#[0]
  rw[this];exact wT1 h1 h2) x
def EL(hp:Pm p){n:Nat}(hn:(n:Int)<=p)(hu:Wgt p n u)(hu':Wgt p n u')(x:Int):p ∣ lag v u n x-lag v u' n x:=
 wZ hp hn hu (nZ v u' n) (λk hk=>by
  let%[m|hm]:=mh (v:=v) hu' hk;erw[-m,by grind]) x
def re(x:Int)(i:Nat):∀m,px x i (i+1+m)=pr (λj=>x-j) i*pr (λj=>x-(i+1+j:Nat)) m
 |0=>by
   let h:∀k,k<=i->px x i k=pr (λj=>x-j) k:=λk=>by
    induction k with
    |zero=>exact λ_=>rfl
    |succ k ih=>
      intro hk;show(if k=i then px x i k else px x i k*(x-k))=pr (λj=>x-j) k*(x-k)
      rw[ND #[0],ih #[0]]
   show(if i=i then px x i i else _)=_*1;rw[NE rfl,h i (zH0 _),jK1]
 |m+1=>by
   show(if i+1+m=i then _ else px x i (i+1+m)*(x-(i+1+m:Nat)))=pr (λj=>x-j) i*(pr (λj=>x-(i+1+j:Nat)) m*(x-(i+1+m:Nat)))
   rw[ND #[0],re x i m,wN0]
def zT(x:Int)(i:Nat):∀m,pr (λj=>x-(i+m:Nat)+j) m=pr (λj=>x-(i+1+j:Nat)) m
 |0=>rfl
 |m+1=>by
   rw[rk];show _=pr (λj=>x-(i+1+j:Nat)) m*(x-(i+1+m:Nat))
   let e:pr (λk=>x-(i+(m+1):Nat)+(k+1:Nat)) m=pr (λj=>x-(i+m:Nat)+j) m:=rm m λk _=>#[0]
   rw[e,zT x i m,qX0]
   congr 1
   omega
def fac:Nat->Int
 |0=>1
 |n+1=>fac n*((n:Int)+1)
def xt:∀n:Nat,pr (λj=>(n:Int)-j) n=fac n
 |0=>rfl
 |n+1=>by
   rw[rk];let e:pr (λk=>((n+1:Nat):Int)-(k+1:Nat)) n=pr (λj=>(n:Int)-j) n:=rm n λk _=>#[0]
   rw[e,xt n];show((n+1:Nat)-(0:Nat):Int)*fac n=fac n*((n:Int)+1)
   rw[qX0]
   congr 1
def Al(i:Nat):∀m:Nat,pr (λj=>(i:Int)-(i+1+j:Nat)) m=(-1) ^ m*fac m
 |0=>rfl
 |m+1=>by
   show pr _ m*((i:Int)-(i+1+m:Nat))=(-1) ^ (m+1)*(fac m*((m:Int)+1))
   rw[Al i m,qN1]
   have:((i:Int)-(i+1+m:Nat))=-((m:Int)+1):=#[0]
   rw[this]
   grind
def Dx(i m:Nat):px (i:Int) i (i+1+m)=fac i*((-1) ^ m*fac m):=by rw[re,xt,Al]
def xq:∀(k d:Nat),fac d*pr (λj=>((d+k:Nat):Int)-j) k=fac (d+k)
 |0,d=>by simp [pr]
 |k+1,d=>by
   let ih:=xq k (d+1);rw[show d+1+k=d+(k+1) by omega]at ih;rw[←ih];show fac d*(pr (λj=>((d+(k+1):Nat):Int)-j) k*(((d+(k+1):Nat):Int)-k))=fac d*((d:Int)+1)*pr (λj=>((d+(k+1):Nat):Int)-j) k
   have:(((d+(k+1):Nat):Int)-k)=(d:Int)+1:=#[0]
   rw[this]
   grind
def vR(hp:Pm p):∀n:Nat,(n:Int)<p->¬ p ∣ fac n
 |0,_=>λd=>by
   have:=jZ1 ⋯ (show p ∣ 1 from d)
   have:=hp.1
   omega
 |n+1,h=>hp.not_mul (vR hp n #[0]) λd=>by
   have:=jZ1 #[0] d
   omega
def zN(m:Nat):((-1:Int) ^ m)*(-1) ^ m=1:=by
 induction m with
 |zero=>rfl
 |succ m ih=>rw[qN1];grind
def Jd(hp:Pm p){n i:Nat}(hn:(n:Int)<=p)(hi:i<n):¬ p ∣ px (i:Int) i n:=by
 obtain⟨m,rfl⟩:∃m,n=i+1+m:=%[n-(i+1)|3]
 rw[Dx];apply hp.not_mul (vR hp i #[0]) (hp.not_mul (λd=>?_) (vR hp m #[0]));erw[k,hk]at d;let s:=zN m
 have:p ∣ 1:=%[k*(-1) ^ m|by grind]
 have:=jZ1 ⋯ this
 have:=hp.1
 omega
def FR{p:Int}{last:Nat}{sh:Nat->Int}(h:∀k,k<=last->p ∣ sh k*fac k-1):Wgt p (last+1) λi=>(-1) ^ (last-i)*(sh i*sh (last-i)):=λi hi=>by
 obtain⟨m,rfl⟩:∃m,last=i+m:=%[last-i|3]
 show p ∣ px (i:Int) i (i+m+1)*((-1) ^ (i+m-i)*(sh i*sh (i+m-i)))-1;rw[show i+m+1=i+1+m by omega,Dx,show i+m-i=m by omega];let%[a|ha]:=h i #[0];let%[b|hb]:=h m #[0];let s:=zN m;erw[a*(sh m*fac m)+b,6];let e:fac i*((-1) ^ m*fac m)*((-1) ^ m*(sh i*sh m))=((-1) ^ m*(-1) ^ m)*((sh i*fac i)*(sh m*fac m)):=by grind
 rw[e,s]
 grind
end Mine
namespace Mine
def fnd(g:Nat->Bool)(i:Nat):List Int:=((List.range i).filter g).map λk:Nat=>(k:Int)
def xh(g:Nat->Bool)(i:Nat):fnd g (i+1)=fnd g i++if g i=true then [(i:Int)]else []:=by
 unfold fnd;rw[zP1,qL1,zK0];cases h:g i <;> simp [List.filter,h]
def HE(g:Nat->Bool)(i:Nat):(fnd g i).length<=i:=by
 unfold fnd;rw[zF0];exact zQ0 (jO0 _ _) (by rw[qO0];exact zH0 _)
end Mine
namespace Mine
def IsPoly.prod:∀{m n:Nat}{f g:Int->Int},IsPoly (m+1) f->IsPoly (n+1) g->IsPoly (m+n+1) λx=>f x*g x
 |0,n,f,g,⟨a,u,hu,e⟩,hg=>by
   rw[Nat.zero_add];exact(hg.mul a).congr λx=>by rw[e x,hu x];simp
 |m+1,n,f,g,⟨a,u,hu,e⟩,hg=>by
   let ih:=IsPoly.prod hu hg;let h1:IsPoly (m+n+1+1) λx=>x*(u x*g x):=%[(0),_,ih|λx=>by simp]
   let h2:IsPoly (m+n+1+1) λx=>a*g x:=(hg.mul a).upTo _ #[0]
   rw[show m+1+n+1=m+n+1+1 by omega];exact(h2.add h1).congr λx=>by rw[e x];grind
def IsPoly.const(c:Int)(n:Nat):IsPoly (n+1) λ_=>c:=%[c,λ_=>0,IsPoly.zero n|λx=>by simp]
def IsPoly.self:IsPoly 2 λx=>x:=%[(0),λ_=>1,IsPoly.const 1 0|λx=>by simp]
def sD(p x:Int):p ∣ x % p-x:=⟨-(x / p),by
 have:=jA1 x p
 rw[Int.mul_neg];omega⟩
end Mine
namespace Mine
def evl(x:Int)(c:List Int):Int:=c.foldr (λa r=>a+x*r) 0
def xu(x a:Int)(r:List Int):evl x (a::r)=a+x*evl x r:=rfl
def zO(p:Int)(c:List Int):List Int:=fnd (λs=>decide (evl (s:Int) c % p=0)) p.toNat
def ovr(xs cs:List Int):List Int:=List.zipWith (· - ·) xs cs
def zX{xs cs:List Int}(h:xs.length=cs.length):(ovr xs cs).length=xs.length:=by
 unfold ovr;rw[List.length_zipWith];omega
def DL{xs cs:List Int}{i:Nat}{x c:Int}(hx:xs[i]?=some x)(hc:cs[i]?=some c):(ovr xs cs).take (i+1)=(ovr xs cs).take i++[x-c]:=by
 have:(ovr xs cs)[i]?=some (x-c):=by
  unfold ovr;rw[List.getElem?_zipWith,hx,hc]
 rw[zZ0,this];rfl
end Mine
namespace Mine
def cgt(p:Int)(ds:List Int):Int:=ds.foldl (λa d=>a*(p-d)) 1
def Fw(p:Int)(ds:List Int)(d:Int):cgt p (ds++[d])=cgt p ds*(p-d):=by
 unfold cgt;rw[List.foldl_append];rfl
def Cb(p:Int)(n m:Nat)(g:Int)(c:List Int):Int:=
 if m=1 then(if c.headD 0 % p=0 then p ^ n else p ^ n-g)else((zO p c).length:Int)*p ^ n+(p-((zO p c).length:Int))*(p ^ n-g)
def zV{p:Int}(h:0<p):∀n:Nat,0<p ^ n
 |0=>by rw[wY1];decide
 |n+1=>by rw[qN1];exact Int.mul_pos (zV h n) h
end Mine
namespace Mine
open PySem L2
def Hx{us:List Value}(h:us.length=1):∃a,us=[a]:=by
 cases us with
 |nil=>cases h
 |cons a r=>
   cases r with
   |nil=>erw[a,1]
   |cons _ _=>cases h
def BI{us:List Value}{n:Nat}(h:us.length=n+1):∃a r,us=a::r/\r.length=n:=by
 cases us with
 |nil=>cases h
 |cons a r=>erw[a,r,1,Nat.succ.inj h]
def Hw{us:List Value}(h:us.length=2):∃a b,us=[a,b]:=by
 let%[a,r,1|h1]:=BI h;let%[b|1]:=Hx h1;erw[a,b,1]
def EJ{us:List Value}(h:us.length=3):∃a b c,us=[a,b,c]:=by
 let%[a,r,1|h1]:=BI h;let%[b,c|1]:=Hw h1;erw[a,b,c,1]
def Jr{us:List Value}(h:us.length=4):∃a b c d,us=[a,b,c,d]:=by
 let%[a,r,1|h1]:=BI h;let%[b,c,d|1]:=EJ h1;erw[a,b,c,d,1]
def len5{us:List Value}(h:us.length=5):∃a b c d e,us=[a,b,c,d,e]:=by
 let%[a,r,1|h1]:=BI h;let%[b,c,d,e|1]:=Jr h1;erw[a,b,c,d,e,1]
def len6{us:List Value}(h:us.length=6):∃a b c d e f,us=[a,b,c,d,e,f]:=by
 let%[a,r,1|h1]:=BI h;let%[b,c,d,e,f|1]:=len5 h1;erw[a,b,c,d,e,f,1]
def len7{us:List Value}(h:us.length=7):∃a b c d e f g,us=[a,b,c,d,e,f,g]:=by
 let%[a,r,1|h1]:=BI h;let%[b,c,d,e,f,g|1]:=len6 h1;erw[a,b,c,d,e,f,g,1]
def top(i:Nat):Stmt:=PySem.Challenge.pw_asktally_k64_best_liar_row_by_row.main.body.getD i (.Pass %[(0),(0),(0)|(0)])
example:=[oN,21,jC,22,iL,30,jF,31,kq,32,ip,33,iE,34,dR,35,uS,37,gU,38,ir,40,jE,41,qU,42,lZ,43,io,44,kW,45,jx,46,kC,48,lT,49,kE,52,lY,54,jD,55,ky,56,jv,58,iq,59,kA,63,gV,64,jy,65,jz,66,ku,67,lS,69,kD,70,im,71,lU,72,eB,73,kG,76,jw,80,lV,81,oO,82,jG,87,qP,88,oG,91,eG,92,kz,93,oK,95,qT,96,qR,97,cv,98,mV,99,hZ,100,qS,101,jB,102,iF,103,oJ,104,oM,105,kY,106,jA,107,lW,108,lX,109,uV,110,iM,111,kx,112,mQ,113]
section
variable {P:Program}{w:World}{K:W.Frag}{mg:#[9]}{base:Heap}
example:=[dC,75,kF,78,kX,85,uX,62]
structure Bl(mg:#[9]):Prop where
 len:mg "len"=none
 range:mg "range"=none
 isinstance:mg "isinstance"=none
 int:mg "int"=none
 bool:mg "bool"=none
 list:mg "list"=none
 tuple:mg "tuple"=none
 max:mg "max"=none
 reversed:mg "reversed"=none
 enumerate:mg "enumerate"=none
 sum:mg "sum"=none
 all:mg "all"=none
 zip:mg "zip"=none
 dict:mg "dict"=none
def Aj(z:Int):0<=z % 2147483646+1/\z % 2147483646+1<=2147483646:=#[0]
def f8:FnScope ["_law_script","_law_k","_law_cell","_law_own"] Wv (ao qT):=%[|5]
def Br(F:#["_law_feed",qT])(hlen:mg "len"=none):#[1,f,fd,Wv,spFeed K]:=by
 exists f8
 erw[a,ns,k,1,hS,h63,k0,k1,q]at h;refine⟨_,(ad #[aj,2,f8,aq aW (aq cg ag (pv 1)) ag]
  (ad (aM (am gJ (pv 1) (aJ aG rfl hlen zD1 %[0|ae]) (az _)) (af #[aj,2,f8,aN ix_list (pv 0) (pv 1) #[1]]) (af (aM (am iz (aJ aG rfl hlen zD1 %[0|ae]) ag (az _)) (af #[aj,2,f8,aq aW (aq cg (aq ba (aN ix_list (pv 0) (aq ba (pv 1) (aJ aG rfl hlen zD1 %[0|ae])) #[1]) ag) ag) (aq cg ag (pv 1))]) aE)))
  (ad #[aj,3,f8,ag]
  (ad (aM (am Ik (pv 2) (aq DO ag ag) (az _)) (af #[aj,3,f8,pv 2]) aE)
  (af (ax (cq %[3,aq aW (aq ba (aq aW (aq cg (aq ba (pv 2) ag) ag) (aq cg ag (pv 1))) ag) ag|ae]))))))),?_⟩
 let hl:(ns.map V.int).length=ns.length:=zF0 _;let hp:(10:Int) ^ (18:Int).toNat=1000000000000000000:=by decide
 erw[0,2,.inl %[4|4],2,6];erw[0,0,a,0,.inl hS,2,0,6];apply vN (λc=>?b1) (λc=>?b2)
 case' b1=>
  let c':k<(((ns.map V.int).length:Nat):Int):=zU1 c;rw[hl]at c';let%[v|hv]:=FE (ns:=ns) k0 c';erw[0,0,a,_,2,hS,hv,6]
 case' b2=>
  erw[0,a,0,.inl hS,2,0,6];apply vN (λc2=>?b3) (λc2=>?b4)
  case' b3=>
   let c':(0:Int)<(((ns.map V.int).length:Nat):Int):=zU1 c2;let m0:=qD0 k (b:=(((ns.map V.int).length:Nat):Int)) #[0];let m1:=qH0 k c';let%[v|hv]:=FE (ns:=ns) m0 (by rw[hl]at m1 ⊢;exact m1);let n0:=qD0 v (b:=2147483629) ⋯;let n1:=qH0 v (b:=2147483629) ⋯;erw[0,0,0,a,0,.inl hS,2,c',a,_,2,hS,hv,2,(by show(0:Int)<_;decide),2,.inr %[4|4],0,2,.inl %[4|4],2,6]
 all_goals
  erw[0,2,%[4,4|4],2,0,6];apply vN (λc3=>?_) (λc3=>?_)
  . let c4:=zU1 c3;rw[hp]at c4;erw[0,0,0,2,(by show(0:Int)<_;decide),2,.inr %[4|4],0,2,.inl %[4|4],2,2,(by show(0:Int)<_;decide),2,y2S,λp hp=>?_];apply q p _ hp (zE0 hp _) %[_,_,ai,Int.le_trans ⋯ c4,(Aj _).1|(Aj _).2]
  . erw[0,0,2,(by show(0:Int)<_;decide),2,.inr %[4|4],0,2,.inl %[4|4],2,2,(by show(0:Int)<_;decide),2,y2S,λp hp=>?_];apply q p _ hp (zE0 hp _) %[_,_,ai,qB1 0,(Aj _).1|(Aj _).2]
def o5:FnScope ["_law_feed_here","_law_many","_law_digit","_law_one"] WG (ao qR):=%[|5]
def Bp(F:#["_law_take",qR]):#[1,f,fd,WG,spTake]:=by
 exists o5
 erw[f,m,1,%[own,st,hf,o0,s0|s1],m0,m1,q]at h;refine⟨_,(ad (aM (am iz (aN ix_list (pv 0) ag #[1]) ag (az _)) (ad #[aj,2,o5,aq ba (aN ix_list (pv 0) ag #[1]) (pv 1)]
  (ad (oS (aq DP (aN ix_list (pv 0) ag #[1]) (pv 1)) (vk (pv 0) ag mJ))
  (af (ax (pv 2))))) aE)
  (ad #[aj,3,o5,aq ba (aq cg (aN ix_list (pv 0) ag #[1]) ag) ag]
  (ad (oS (aq aW (aq ba (aq aW (aq cg (pv 3) ag) ag) ag) ag) (vk (pv 0) ag mJ))
  (af (ax (aq ba (aq zZ (aq aW (aq cg (pv 3) ag) (aN ix_list (pv 0) ag #[1])) ag) (pv 1))))))),?_⟩
 erw[0,f,_,(0),0,1,zG0 hf,1,2,0,6];apply vN (λc=>?_) (λc=>?_)
 . erw[0,f,_,(0),0,1,zG0 hf,1,0,2,m0,6];erw[0,f,_,(0),0,1,zG0 hf,1,0,2,%[m0|m1],0,f,_,(0),(0),1,1,hf,1,6];erw[0,6];exact q _ _ (qD0 _ #[0]) (qH0 _ m0) ⟨_,_,ai,Int.ediv_nonneg o0 #[0],s0,s1⟩ (SameBut.upd _)
 . let a0:=qD0 (st*69621) (b:=2147483647) ⋯;let a1:=qH0 (st*69621) (b:=2147483647) ⋯;erw[0,f,_,(1),0,1,zG0 hf,1,2,.inr %[4|4],2,(by show(0:Int)<_;decide),6];erw[0,2,.inr %[4|4],2,2,(by show(0:Int)<_;decide),2,0,f,_,(1),(1),1,1,hf,1,6];let b0:=qD0 (st*69621 % 2147483647*48271+30103) (b:=2147483646) ⋯;let b1:=qH0 (st*69621 % 2147483647*48271+30103) (b:=2147483646) ⋯;erw[0,2,.inr %[4|4],0,f,_,(1),0,1,zG0 ai,1,2,2,%[4|4],0,2,m0,6];exact q _ _ (qD0 _ #[0]) (qH0 _ m0) ⟨_,_,ai,o0,#[0],#[0]⟩ (SameBut.upd _)
def ib:FnScope ["_law_feed_here","_law_names_here","_law_room","_law_deep","_law_form","_law_more","_law_one","_law_word"] WT (ao mV):=%[|5]
def lf{a X Y B:Prop}[Decidable a](x:X)(h:¬ a->X->B):if decide a=true then(if true=true then X else Y)else B:=by
 by_cases c:a
 . rw[zC1 c];exact eU (eU x)
 . rw[zB1 c];exact dG (h c x)
def AM{n:Nat}(F:#["_law_tree",mV])(hlen:mg "len"=none)(aQ:#[1,"_law_take",WG,spTake])
 (f6:#[n+2,"_law_tree",WT,spTree n]):#[n+3,f,fd,WT,spTree (n+1)]:=by
 exists ib
 erw[f,a,room,deep,ns,1,hF,hN,nl,r1,r100,d1,dn,q]at h;refine⟨_,(ad #[aj,4,ib,aD aQ hr (zG1 (zU0 _)) rfl %[0,ag|ae]]
  (ad (aM (PW.pt (kH (am gJ (pv 2) ag (az _)) (kH (am gJ (pv 3) ag (az _)) (jI (am aS (pv 4) ag (az _)))))) (ad (aM (PW.pt (kH (am aS (aq ba (pv 4) ag) ag (az _)) (jI (am aS (aJ aG rfl hlen zD1 %[1|ae]) ag (az _))))) (af (ax (aN ix_list (cq %[aU %[aI|ae],aU %[aI|ae]|ae]) (aD aQ hr (zG1 (zU0 _)) rfl %[0,ag|ae]) #[1]))) aE)
   (af (ax (aU %[aI,aN (ix_list.or ix_tup) (pv 1) (aD aQ hr (zG1 (zU0 _)) rfl %[0,aJ aG rfl hlen zD1 %[1|ae]|ae]) #[1]|ae])))) aE)
  (ad (aM (PW.pt (kH (am gJ (pv 2) ag (az _)) (jI (am aS (pv 4) ag (az _))))) (af (ax (aU %[aI,aD f6 hr (zH0 _) rfl %[0,1,aq bj (pv 2) ag,aq bj (pv 3) ag|ae]|ae]))) aE)
  (ad #[aj,5,ib,aq aW ag (aD aQ hr (zG1 (zU0 _)) rfl %[0,aq bj (pv 2) ag|ae])]
  (ad #[aj,6,ib,aD f6 hr (zH0 _) rfl %[0,1,5,aq bj (pv 3) ag|ae]]
  (ad #[aj,7,ib,aN ix_list (cq %[aI,aI,aI,aI|ae]) (aq ba (pv 4) ag) #[1]]
  (af (ax (aU %[7,6,aD f6 hr (zH0 _) rfl %[0,1,aq bj (aq bj (pv 2) ag) (pv 5),aq bj (pv 3) ag|ae]|ae]))))))))),?_⟩
 erw[0,f,(10),1,hF,4,4,λfm H1 f0 f10 F1 S1=>?_];let N1:=hN.feed hF S1;erw[0,2,0,6];apply lf ?leaf λc1 hX=>?_
 case leaf=>
  erw[0,2,(by show(0:Int)<_;decide),1,0,6];apply lf ?yn λc6 hY=>?_
  case yn=>
   erw[y1S,λp1 h1=>?_];erw[y1S,λp2 h2=>?_];erw[y2S,λl hl=>?_];let ga:=zE0 h1 (.tup [.str "yes"]);let gb:=zE0 h2 (.tup [.str "no"]);let gc:=zE0 hl (.lst [.ref p1,.ref p2]);let G:=ga.trans (gb.trans gc);let nlf:=(F1.same (ga.trans gb)).ne hl;erw[0,f,(2),1,F1.same G,4,4,λd H2 d0 d2 F2 S2=>?_];let y2:H2 p1=some (.tup [.str "yes"]):=jN (F1.same G) S2 _ _ (gc _ _ (gb _ _ ai));let n2:H2 p2=some (.tup [.str "no"]):=jN (F1.same G) S2 _ _ (gc _ _ ai);let l2:=S2 l _ nlf ai
   have:d=0∨d=1:=#[0]
   rcases this with rfl | rfl
   . erw[l,_,(0),0,1,zG0 l2,1,q (.ref p1) .yes H2 F2 (S1.trans ((zL0 G).trans S2)) (.yes y2) trivial (show(1:Int)<=room from r1) (show(1:Int)<=deep from d1)]
   . erw[l,_,(1),0,1,zG0 l2,1,q (.ref p2) .no H2 F2 (S1.trans ((zL0 G).trans S2)) (.no n2) trivial (show(1:Int)<=room from r1) (show(1:Int)<=deep from d1)]
  erw[0,a,0,N1.seq,1,0,6]
  by_cases c7:V.int ((ns.map V.str).length:Int)=V.int 0
  . exact bd c7 hY
  apply aF c7 ?_;let nz:0<ns.length:=by
   let z:¬ ((ns.map V.str).length:Int)=0:=λz=>c7 (congrArg V.int z)
   rw[zF0]at z;omega
  erw[0,0,0,a,0,N1.seq,f,0,F1,(show(0:Int)<((ns.map V.str).length:Int) by rw[zF0];omega),by rw[zF0];omega,λd H2 d0 d9 F2 S2=>?_];let%[v,hv|vm]:=uv (l:=ns.map V.str) (i:=d) d0 d9;let%[x,hx|1]:=List.mem_map.mp vm;refine(N1.feed F1 S2).ix hv ?_;erw[y2S,λp hp=>?_];let G:=zE0 hp (.tup [.str "is",.str x]);exact q (.ref p) (.is x) _ (F2.same G) (S1.trans (S2.trans (zL0 G))) (.is ai) hx (show(1:Int)<=room from r1) (show(1:Int)<=deep from d1)
 erw[0,2,0,6]
 by_cases c2:deep<2
 . exact bd c2 (eU hX)
 apply aF c2 ?_;erw[0,1,0,6]
 by_cases c3:V.int fm=V.int 9
 . exact bd c3 hX
 apply aF c3 ?_;erw[0,2,0,6];let d2:2<=deep:=#[0]
 let dd:1<=deep-1:=#[0]
 let ddn:deep-1+1<=(n:Int)+1:=#[0]
 apply lf ?nt λc4 hN=>?_
 case nt=>
  erw[0,0,0,2,0,2,f,a,_,_,ns,1,F1,N1,nl,(show 1<=room-1 by omega),3,dd,ddn,λv1 t1 H3 F3 S3 T1 o1 z1 p1=>?_];erw[y2S,λp hp=>?_];let G5:=zE0 hp (.tup [.str "not",v1]);apply q (.ref p) (.not t1) _ (F3.same G5) (S1.trans (S3.trans (zL0 G5))) (.not ai (T1.mono (aV G5))) o1 ?_ ?_
  . show((t1.size+1:Nat):Int)<=room;omega
  . show((t1.depth+1:Nat):Int)<=deep;omega
 erw[0,1,0,6]
 by_cases c5:V.int fm=V.int 8
 . exact bd c5 hN
 apply aF c5 ?_;erw[0,0,2,f,0,F1,(show(0:Int)<room-2 by omega),(show room-2<2 ^ 63 by omega),λe H2 e0 e1 F2 S2=>?_];erw[2,6];let N2:=N1.feed F1 S2;erw[0,0,0,0,2,f,a,_,_,ns,1,F2,N2,nl,3,3,dd,ddn,λv1 t1 H3 F3 S3 T1 o1 z1 p1=>?_];let N3:=N2.feed F2 S3;erw[y4S,λl hl=>?_];let%[wd,hw|wm]:=uv (l:=joinW.map V.str) (i:=fm % 4) #[0] (by
  have:(joinW.map V.str).length=4:=by rfl
  omega)
 let%[x,hx|1]:=List.mem_map.mp wm;erw[0,2,(by show(0:Int)<_;decide),l,_,2,zG0 ai,hw,6];let G:=zE0 hl (.lst [.str "and",.str "or",.str "odd",.str "same"]);erw[0,0,0,0,0,2,0,2,0,2,f,a,_,_,ns,1,F3.same G,N3.same G,nl,(show 1<=room-1-(1+e) by omega),3,dd,ddn,λv2 t2 H4 F4 S4 T2 o2 z2 p2=>?_];erw[y3S,λp hp=>?_];let G5:=zE0 hp (.tup [.str x,v1,v2]);let T1':TreeAt H4 v1 t1:=(T1.mono (aV G)).mono (jN (F3.same G) S4);apply q (.ref p) (.bin x t1 t2) _ (F4.same G5) (S1.trans (S2.trans (S3.trans ((zL0 G).trans (S4.trans (zL0 G5)))))) (.bin ai (T1'.mono (aV G5)) (T2.mono (aV G5))) %[hx,o1|o2] ?_ ?_
 . show((t1.size+t2.size+1:Nat):Int)<=room;omega
 . show((max t1.depth t2.depth+1:Nat):Int)<=deep;omega
def AL:#[2,f,fd,WT,spTree 0]:=by
 let no:∀vs H Q E,¬ spTree 0 vs H Q E:=λvs H Q E h=>by
  erw[f,a,room,deep,ns,_,_,_,_,_,_,h1,h2,_]at h;omega
 exists 3
def tR(F:#["_law_tree",mV])(hlen:mg "len"=none)(m:mg "_law_tree"=some (.ref f))(aQ:#[1,"_law_take",WG,spTake]):
 ∀n:Nat,#[n+2,f,fd,WT,spTree n]
 |0=>AL
 |n+1=>AM F hlen aQ (Cal.of F (tR F hlen m aQ n) m (λ_ _ _ _ _ _ us hl=>by let%[u0,u1,u2,u3|1]:=Jr hl;rfl))
def Jy:Stmt->List Stmt
 |.If _ b _ _=>b
 |_=>[]
def Jx:Stmt->Expr
 |.If c _ _ _=>c
 |_=>.Constant .none 0 %[(0),(0),(0)|(0)]
def Ct:Stmt->Expr
 |.Assign _ v _=>v
 |.Return (some v) _=>v
 |_=>.Constant .none 0 %[(0),(0),(0)|(0)]
def zt:Expr->List Expr
 |.List es _=>es
 |.BinOp _ _ (.List es _) _=>es
 |.Subscript (.List es _) _ _=>es
 |_=>[]
abbrev stm(s:Stmt)(i:Nat):Stmt:=(gG s).getD i (.Pass %[(0),(0),(0)|(0)])
abbrev Gi(s:Stmt)(i j:Nat):Stmt:=(Jy (stm s i)).getD j (.Pass %[(0),(0),(0)|(0)])
def wordsA:List Str:=["is","set","say","if","go","end","num","box","op","field","holds","claims"]
def wordsB:List Str:=["nota","nob","yesx","andy","ors","oddly"]
def wordsC:List Str:=["samey","rounds","dues","coins","truex","asks"]
@[irreducible] def yT:List Expr:=zt (Ct (Gi cv 6 0))
@[irreducible] def yS:List Expr:=zt (Ct (Gi cv 6 1))
@[irreducible] def yR:List Expr:=zt (Ct (Gi cv 6 2))
def Ep:Consts yT wordsA:=by
 unfold yT;exact .cons (.cons (.cons (.cons (.cons (.cons (.cons (.cons (.cons (.cons (.cons (.cons .nil)))))))))))
def Eo:Consts yS wordsB:=by
 unfold yS;exact .cons (.cons (.cons (.cons (.cons (.cons .nil)))))
def En:Consts yR wordsC:=by
 unfold yR;exact .cons (.cons (.cons (.cons (.cons (.cons .nil)))))
def yQ:∃p1 p2 p3 p4 p5 p6 p7 p8 p9 q1 q2 q3 q4 q5,gG cv=[stm cv 0,stm cv 1,stm cv 2,stm cv 3,stm cv 4,stm cv 5,
 .If (Jx (stm cv 6)) [.Assign [.Name "_law_words" p1] (.List yT p2) p3,.Assign [.Name "_law_words" p4] (.BinOp (.Name "_law_words" p5) .Add (.List yS p6) p7) p8,.Assign [.Name "_law_words" p9] (.BinOp (.Name "_law_words" q1) .Add (.List yR q2) q3) q4,Gi cv 6 3] [] q5,stm cv 7]:=
 %[_,_,_,_,_,_,_,_,_,_,_,_,_,_|by rfl']
def LTR:Str:="bcdfghjklmnpqrstvwxz"
def Jp:∀c∈LTR.cps.toList,c≠97:=by decide
def yZ:∀c∈LTR.cps.toList,97<=c/\c<=122:=by decide
def Co:∀x∈(wordsA++wordsB)++wordsC,x.length<=20/\(∀c∈x.cps.toList,97<=c/\c<=122)/\x≠"aa":=by decide
instance spNamesN:∀(f:Addr)(m:Int),vs=[.ref f,.int m]->FeedAt H f->0<=m->m<=6->(∀(l:Addr)(ns:List Str)(H':Hp),H l=none->l≠f->H' l=some (.lst (ns.map V.str))->ns.length=m.toNat->(∀x∈ns,pq x)->ns.Nodup->FeedAt H' f->SameBut f H H'->Q (.ref l) H'):=1
def AB:∀x∈(wordsA++wordsB)++wordsC,∃c∈x.cps.toList,c∉LTR.cps.toList:=by decide
def Hn:∀a b:Fin 20,LTR.cps.toList[a.val]?=LTR.cps.toList[b.val]?->a=b:=by decide
def Em{ns:List Str}{t:Nat}{u:Int}(u0:0<=u)(u20:u<20)(hl:ns.length<=6)(h:∀(k:Nat) x,ns[k]?=some x->x.cps.toList[t]?=LTR.cps.toList[((u+7*(k:Int)) % 20).toNat]?):ns.Nodup:=by
 apply List.pairwise_iff_getElem.mpr λi j hi hj ij e=>?_
 let h1:=h i _ (zM0 hi);let h2:=h j _ (zM0 hj);rw[e]at h1;let h3:=h1.symm.trans h2;let h4:=Hn %[((u+7*(i:Int)) % 20).toNat|3] ⟨((u+7*(j:Int)) % 20).toNat,#[0]⟩ h3;let h5:=congrArg Fin.val h4;simp only at h5;omega
def Jn{ns:List Str}{x:Str}{j:Nat}(h:ns.Nodup)(hx:x∉ns):(ns.set j x).Nodup:=by
 apply List.pairwise_iff_getElem.mpr λa b ha hb ab=>?_
 rw[qJ1]at ha hb;rw[List.getElem_set,List.getElem_set]
 split
 . split
   . omega
   . intro e;exact hx (e▸qR0 hb)
 . split
   . intro e;exact hx (e▸qR0 ha)
   . exact List.pairwise_iff_getElem.mp h a b ha hb ab
def JY{α:Type}{l:List α}{i:Int}{v:α}(h0:0<=i)(h:atI l i=some v):l[i.toNat]?=some v:=by
 let ek:((i.toNat:Nat):Int)=i:=#[0]
 by_cases c:i.toNat<l.length
 . let q:atI l ((i.toNat:Nat):Int)=some l[i.toNat]:=bK (zM0 c);rw[ek,h]at q;rw[zM0 c];exact q.symm
 . exfalso
   unfold atI ixN at h;rw[NE h0,ND #[0]]at h;cases h
def CD{zs:List Str}(h:∀z∈zs,z.length=1/\∀c∈z.cps.toList,c∈LTR.cps.toList):(zs.map (·.length)).sum=zs.length:=by
 induction zs with
 |nil=>rfl
 |cons a r ih=>
   rw[qE0,zX1,ih λz hz=>h z (qM0 _ hz),(h a qF0).1,zP0];omega
def b9:FnScope ["_law_feed_here","_law_many","_law_letters","_law_common","_law_at","_law_first","_law_found","_law_k","_law_tail","_law_sign","_law_words"] WG (ao cv):=%[|5]
def jb{p:Addr}(F:FeedAt H f)(h:p≠f):FeedAt (upd H p o) f:=by
 erw[x,t,e,r]at F;erw[x,t,by rw[ay (Ne.symm h)];exact e,r]
def yH(F:#["_law_names",cv])(hrange:mg "range"=none)(aQ:#[1,"_law_take",WG,spTake]):#[2,f,fd,WG,spNamesN]:=by
 exists b9
 erw[f,m,1,hF,m0,m6,q]at h;erw[p1,p2,p3,p4,p5,p6,p7,p8,p9,q1,q2,q3,q4,q5,ebody]at yQ;rw[ebody];refine⟨_,(ad (aj (i:=2) b9.nd rfl (Or.inr rfl) aI)
  (ad (aj (i:=3) b9.nd rfl (.inl rfl) (eR jJ1 PySem.F.slot_str_join PySem.F.type_str_join Hj aI (aa (cH (N:=["_law_letters","_law_feed_here"]) (ix:=[2,0]) rfl
   #[4] rfl
   (bJ rfl hrange %[ag|ae])
   (λ_ _ _=>cE (aN vL (pv 1) (aD aQ hr ⋯ rfl %[2,ag|ae]) #[1]))) ae)))
  (ad #[aj,4,b9,aD aQ hr ⋯ rfl %[0,ag|ae]]
  (ad #[aj,5,b9,aD aQ hr ⋯ rfl %[0,ag|ae]]
  (ad #[aj,6,b9,cq ae]
  (ad (cx zE1 rfl (bJ rfl hrange %[1|ae]) (aX (i:=7) b9.nd rfl (.inl rfl)) (ad #[aj,8,b9,aq ba (aD aQ hr ⋯ rfl %[0,aq bj ag (pv 4)|ae]) ag]
   (ad #[aj,9,b9,aN vL (pv 2) (aq ba (aq aW (pv 5) (aq cg ag (pv 7))) ag) #[1]]
   (af (bb (eR zF1 zM1 zN1 cP (pv 6) %[aq rO (aq rO (eQ yb (pv 3) iG (eY (pv 4))) (pv 9)) (eQ yb (pv 3) (eY (pv 4)) (eY (aq aW (pv 4) (pv 8))))|ae]))))))
  (ad (aM (PW.pt (rf (am iz (pv 1) ag (az _)) (qm (am aS (aD aQ hr ⋯ rfl %[0,ag|ae]) ag (az _))))) (ad #[aj,10,b9,cq (lg Ep)]
   (ad #[aj,10,b9,aq oU (pv 10) (cq (lg Eo))]
   (ad #[aj,10,b9,aq oU (pv 10) (cq (lg En))]
   (af (oS (aN ix_list (pv 10) (aD aQ hr ⋯ rfl %[0,ag|ae]) #[1]) (vk (pv 6) (aD aQ hr ⋯ rfl %[0,1|ae]) mJ)))))) aE)
  (af (ax (pv 6)))))))))),?_⟩
 erw[1,(5),1,4,4,λD hD=>?_];let Df:=hF.ne hD;let L20:LTR.cps.toList.length=20:=by decide
 apply dO (λi H'=>∃zs:List Str,H' D=some (.lst (zs.map V.str))/\zs.length=i/\(∀z∈zs,z.length=1/\∀c∈z.cps.toList,c∈LTR.cps.toList)/\FeedAt H' f/\SameBut f H H') %[[],by rw[ai];rfl,1,by simp,hF.same (zE0 hD _)|zL0 (zE0 hD _)] ?_ ?_
 . rintro i H3 hi ⟨zs,hl,zl,z1,F3,S3⟩;let i5:i<5:=hi;erw[0,0,f,(20),1,F3,4,4,λd H4 d0 d26 F4 S4=>?_];let%[c,hc|hm]:=uv (l:=LTR.cps.toList) (i:=d) d0 (by rw[L20];exact d26);let hD4:H4 D=some (.lst (zs.map V.str)):=S4 D _ Df hl;erw[_,d,c,1,1,small ⋯,hc,_,hD4,6,Nx.of hi %[zs++[⟨#[c]⟩],6,6,6,jb F4 Df|6]]
   . rw[zF0,zl];exact aO (wW1 (Nat.lt_trans i5 ⋯))
   . rw[ai,zK0];rfl
   . rw[zJ0,qK0,zl]
   . intro z hz;rcases qP0 hz with h | h
     . exact z1 z h
     . rw [NK h];erw[1,λc' hc'=>?_]
       have:c'=c:=#[hc',0]
       subst this;exact hm
   . intro b o hb e;rw[ay (aP e hD)];exact S4 b o hb (S3 b o hb e)
 rintro H3 ⟨zs,hl,zl,z1,F3,S3⟩;let sl:=CD z1;let zl5:zs.length=5:=zl;erw[_,D,zs,1,1,zG0 hl,⋯,3,6];let jl:(Txt.join "" zs).length=5:=by
  have:=size_glued "" zs
  let e0:(("":Str)).length=0:=by decide
  rw[e0,Nat.mul_zero]at this;show(Builtin.Str.glued "" zs).length=5;omega
 let jc:∀c∈(Txt.join "" zs).cps.toList,c∈LTR.cps.toList:=λc hc=>by
  let%[z,hz|h]:=BD hc;exact(z1 z hz).2 c h
 generalize Txt.join "" zs=cm at jl jc;erw[0,f,(6),1,F3,4,4,λt H4 t0 t6 F4 S4=>?_];erw[0,f,(20),1,F4,4,4,λu H5 u0 u20 F5 S5=>?_];erw[y0S,λL hL=>?_];let S05:SameBut f H H5:=S3.trans (S4.trans S5);let Lf:=F5.ne hL;let L0:H L=none:=by
  cases e:H L with
  |none=>rfl
  |some o=>rw[S05 L o Lf e]at hL;cases hL
 refine⟨_,rfl,m,rfl,#[0],#[0],dH (λi σ H'=>∃(x7 x8 x9:Option V)(ns:List Str),σ=[some (.ref f),some (.int m),some (.str LTR),some (.str cm),some (.int t),some (.int u),some (.ref L),x7,x8,x9,none]/\H' L=some (.lst (ns.map V.str))/\ns.length=i/\(∀x∈ns,pq x)/\(∀x∈ns,∀c∈x.cps.toList,c∈LTR.cps.toList)/\(∀(k:Nat) x,ns[k]?=some x->x.cps.toList[t.toNat]?=LTR.cps.toList[((u+7*(k:Int)) % 20).toNat]?)/\FeedAt H' f/\SameBut f H H')
  %[_,_,_,[],1,by rw[ai];rfl,1,by simp,by simp,by simp,F5.same (zE0 hL _)|S05.trans (zL0 (zE0 hL _))] ?_ ?_⟩
 . rintro i σ H6 hi ⟨x7,x8,x9,ns,rfl,hns,nl,nok,nlt,nat,F6,S6⟩;erw[0,0,2,f,0,F6,(Int.sub_pos_of_lt t6),(Int.lt_of_le_of_lt (Int.sub_le_self 6 t0) ⋯),λd H7 d0 d1 F7 S7=>?_];erw[2,(by show(0:Int)<_;decide),6];let%[c,hc|hm]:=uv (l:=LTR.cps.toList) (i:=(u+7*(0+(i:Int))) % 20) (qD0 _ ⋯) (by rw[L20];exact qH0 _ ⋯);erw[0,0,0,2,6,2,2,(by show(0:Int)<_;decide),_,_,c,1,1,small ⋯,hc,6]
   . exact .inl %[4|4]
   let hL7:=S7 L _ Lf hns;let z1:(Txt.slice cm none (some t)).length<=cm.length:=wE1 cm none (some t);let z2:(Txt.slice cm (some t) (some (t+d % 3))).length<=cm.length:=wE1 cm _ _;let z3:((%[|#[c]]:Str)).length=1:=rfl;erw[0,.inl %[1,_|zG0 hL7],6];erw[0,0,0,0,small (by rw[jl];decide),0,2,small (by rw[z3];omega),6];erw[0,0,0,0,0,2,0,0,small (by rw[jl];decide),2,small (by rw[vD1,z3];omega),6];erw[L,2,hL7,6,6]
   . rw[zF0];exact aO #[0]
   erw[_,_,_,ns++[(Txt.slice cm none (some t)++%[|#[c]])++Txt.slice cm (some t) (some (t+d % 3))],1,6,6,6,6,6,jb F7 Lf,6]
   . rw[ai,zK0];rfl
   . rw[zJ0,qK0,nl]
   . intro x hx;rcases qP0 hx with h | h
     . exact nok x h
     . rw [NK h];erw[6,λc' hc'=>?_,λea=>?_]
       . rw[vD1,vD1,z3];omega
       rotate_left
       . let cm1:c∈(((Txt.slice cm none (some t)++%[|#[c]])++Txt.slice cm (some t) (some (t+d % 3)):Str)).cps.toList:=by
          rw[jH0,jH0]
          simp
         rw[ea]at cm1;exact Jp c hm ((by decide:∀c∈(("aa":Str)).cps.toList,c=97) c cm1)
       . rcases mem_append hc' with h | h
         . rcases mem_append h with h | h
           . exact yZ _ (jc _ (lj h))
           . have:c'=c:=#[h,0]
             subst this;exact yZ _ hm
         . exact yZ _ (jc _ (lj h))
   . intro x hx c' hc';rcases qP0 hx with h | h
     . exact nlt x h c' hc'
     . rw [NK h]at hc';rcases mem_append hc' with h | h
       . rcases mem_append h with h | h
         . exact jc _ (lj h)
         . have:c'=c:=#[h,0]
           subst this;exact hm
       . exact jc _ (lj h)
   . intro k x hx
     by_cases ck:k<ns.length
     . rw[zR1 ck]at hx;exact nat k x hx
     . let kl:k<(ns++[(Txt.slice cm none (some t)++%[|#[c]])++Txt.slice cm (some t) (some (t+d % 3))]).length:=(zX0 hx).1;rw[zJ0,qK0]at kl;let ek:k=i:=#[0]
       subst ek;rw[zL1 #[0],nl,wZ0]at hx;let ex:(Txt.slice cm none (some t)++%[|#[c]])++Txt.slice cm (some t) (some (t+d % 3))=x:=zT0 hx;rw[←ex];let cl:cm.cps.toList.length=5:=jl;let es:Txt.slice cm none (some t)=⟨((cm.cps.toList.drop 0).take (t-0).toNat).toArray⟩:=StrLaws.sliceText_to ⟨t0,#[0]⟩;let el:(Txt.slice cm none (some t)).cps.toList.length=t.toNat:=by
        rw[es];simp only[jI0,Int.sub_zero,qJ0];omega
       let ea:((Txt.slice cm none (some t)++%[|#[c]])++Txt.slice cm (some t) (some (t+d % 3))).cps.toList=(Txt.slice cm none (some t)).cps.toList++([c]++(Txt.slice cm (some t) (some (t+d % 3))).cps.toList):=by
        rw[jH0,jH0]
        simp
       rw[ea,zL1 #[0],el,wZ0];let hc2:LTR.cps.toList[((u+7*(0+(k:Int))) % 20).toNat]?=some c:=JY (qD0 _ ⋯) hc;rw[qX1]at hc2;rw[hc2];rfl
   . intro b o hb e;rw[ay (aP e L0)];exact S7 b o hb (S6 b o hb e)
 . rintro σ H6 ⟨x7,x8,x9,ns,rfl,hns,nl,nok,nlt,nat,F6,S6⟩;let nnd:ns.Nodup:=Em u0 u20 #[0] nat;erw[0,2,0,6];let fin:∀H':Hp,∀ns:List Str,H' L=some (.lst (ns.map V.str))->ns.length=m.toNat->(∀x∈ns,pq x)->ns.Nodup->FeedAt H' f->SameBut f H H'->Q (.ref L) H':=λH' ns a b c nd d e=>q L ns H' L0 Lf a b c nd d e
   by_cases c1:(0:Int)<m
   . apply bd c1 ?_;erw[0,f,(3),1,F6,4,4,λd H7 d0 d1 F7 S7=>?_];erw[1,0,6];let hL7:=S7 L _ Lf hns;apply vN (λ_=>?_) (λ_=>?_)
     . erw[y12S,λl1 h1=>?_];erw[0,y6S,λl2 h2=>?_];erw[l1,l2,wordsA.map V.str,wordsB.map V.str,1,1,zE0 h2 _ _ _ ai,ai,y18S,λl3 h3=>?_];erw[0,y6S,λl4 h4=>?_];erw[l3,l4,wordsA.map V.str++wordsB.map V.str,wordsC.map V.str,1,1,zE0 h4 _ _ _ ai,ai,y24S,λl5 h5=>?_];let G:=(zE0 h1 (.lst (wordsA.map V.str))).trans ((zE0 h2 (.lst (wordsB.map V.str))).trans ((zE0 h3 (.lst (wordsA.map V.str++wordsB.map V.str))).trans ((zE0 h4 (.lst (wordsC.map V.str))).trans (zE0 h5 (.lst ((wordsA.map V.str++wordsB.map V.str)++wordsC.map V.str))))));let F8:=F7.same G;let n5:=(F7.same ((zE0 h1 (.lst (wordsA.map V.str))).trans ((zE0 h2 (.lst (wordsB.map V.str))).trans ((zE0 h3 (.lst (wordsA.map V.str++wordsB.map V.str))).trans (zE0 h4 (.lst (wordsC.map V.str))))))).ne h5;erw[0,0,f,(24),1,F8,4,4,λe H9 e0 e1 F9 S9=>?_];let%[v,hv|vm]:=uv (l:=(wordsA.map V.str++wordsB.map V.str)++wordsC.map V.str) (i:=e) e0 (by
        have:((wordsA.map V.str++wordsB.map V.str)++wordsC.map V.str).length=24:=by rfl
        omega)
       rw[←zK0,←zK0]at vm;let%[x,hx|1]:=List.mem_map.mp vm;erw[l5,_,e,0,1,zG0 (S9 l5 _ n5 ai),hv,6];erw[0,0,0,f,m,1,F9,c1,3,λj H10 j0 j1 F10 S10=>?_];let hL10:=S10 L _ Lf (S9 L _ Lf (G L _ hL7));erw[L,_,j,j.toNat,1,1,hL10,6,6]
       . let jl:j<((ns.map V.str).length:Int):=by rw[zF0];omega
         unfold ixN;rw[NE j0,NE jl]
       erw[0,6];apply fin _ (ns.set j.toNat x) (by rw[ai,List.map_set]) (by rw[qJ1];exact nl) ?_ ?_ (jb F10 Lf) ?_
       . intro y hy;rcases List.mem_or_eq_of_mem_set hy with h | h
         . exact nok y h
         . rw[h];exact Co x hx
       . apply Jn nnd λhm=>?_
         let%[c,c1|c2]:=AB x hx;exact c2 (nlt x hm c c1)
       . intro b o hb e';rw[ay (aP e' L0)];exact S10 b o hb (S9 b o hb (G b o (S7 b o hb (S6 b o hb e'))))
     . erw[0,6];exact fin H7 ns hL7 nl nok nnd F7 (S6.trans S7)
   . apply aF c1 ?_;apply dG ?_;erw[0,6];exact fin H6 ns hns nl nok nnd F6 S6
def gq{x:Str}:∀{ns:List Str},x∈ns->∃j,fc x ns=some j/\j<ns.length
 | [],h=>by cases h
 |a::r,h=>by
   unfold fc
   by_cases c:a=x
   . erw[(0),by rw[NE c],by simp]
   . rw [ND c];rcases zY0 h with e | e
     . exact absurd e.symm c
     . let%[j,h1|h2]:=gq e;erw[j+1,by rw[h1];rfl,by simpa using h2]
def eW{a b:Str}(h:V.str a=V.str b):a=b:=by injection h
def eT(p:Int)(o:Str)(x y:Int):Int:=if o="and" then x*y % p else if o="or" then(x+y-x*y) % p else if o="odd" then(x+y-2*(x*y)) % p else(1-(x+y-2*(x*y))) % p
def Tr.worth(ns:List Str)(pt:List Int)(p:Int):Tr->Int
 |.is x=>match fc x ns with | some j=>pt.getD j 0 | none=>0
 |.yes=>1
 |.no=>0
 |.not a=>(1-a.worth ns pt p) % p
 |.bin o a b=>eT p o (a.worth ns pt p) (b.worth ns pt p)
def bL(pt:List Int)(p:Int):Prop:=∀x∈pt,0<=x/\x<p
def BN{p:Int}(hp:0<p)(o:Str)(x y:Int):0<=eT p o x y/\eT p o x y<p:=by
 let key:∀z:Int,0<=z % p/\z % p<p:=λz=>%[qD0 _ #[0]|qH0 _ hp]
 unfold eT
 repeat' split
 all_goals exact key _
def sA{l:List Int}{j:Nat}(h:j<l.length):l.getD j 0=l[j]:=by
 rw[qG0,zM0 h];rfl
def worth_rng{ns:List Str}{p:Int}(hp:1<p)(h:bL pt p)(hl:pt.length=ns.length):∀t:Tr,t.ok ns->0<=t.worth ns pt p/\t.worth ns pt p<p
 |.is x,ok=>by
   let%[j,hj|jl]:=gq ok;show 0<=(match fc x ns with | some j=>pt.getD j 0 | none=>0)/\(match fc x ns with | some j=>pt.getD j 0 | none=>0)<p;rw[hj];show 0<=pt.getD j 0/\pt.getD j 0<p;rw[sA #[0]];exact h _ (qR0 _)
 |.yes,_=>%[by show(0:Int)<=1;decide|hp]
 |.no,_=>%[qB1 0|by show(0:Int)<p;omega]
 |.not a,_=>%[qD0 _ #[0]|qH0 _ #[0]]
 |.bin o a b,_=>BN #[0] _ _ _
instance spJW:∀(o:Str)(x y p:Int),vs=[.str o,.int x,.int y,.int p]->0<=x->x<p->p<2 ^ 40->Q (.int (eT p o x y)) H:=1
def gB:FnScope ["word","first","second","p","both","odd"] Wm (ao iq):=%[|5]
def qg(F:#["joined_worth",iq]):#[1,f,fd,Wm,spJW]:=by
 exists gB
 erw[o,x,y,p,1,x0,xp,pb,k]at h;refine⟨_,(ad #[aj,4,gB,aq cg (pv 1) (pv 2)]
  (ad (aM (am aS (pv 0) aI (az _)) (af (ax (aq ba (pv 4) (pv 3)))) aE)
  (ad (aM (am aS (pv 0) aI (az _)) (af (ax (aq ba (aq bj (aq aW (pv 1) (pv 2)) (pv 4)) (pv 3)))) aE)
  (ad #[aj,5,gB,aq bj (aq aW (pv 1) (pv 2)) (aq cg ag (pv 4))]
  (ad (aM (am aS (pv 0) aI (az _)) (af (ax (aq ba (pv 5) (pv 3)))) aE)
  (af (ax (aq ba (aq bj ag (pv 5)) (pv 3))))))))),?_⟩
 erw[0,0,2,.inl %[3|3],6];erw[0,1,0,6]
 by_cases c1:V.str o=V.str "and"
 . apply bd c1 ?_;let e:eT p o x y=x*y % p:=by unfold eT;rw[NE (eW c1)]
   rw[e]at k;erw[0,0,2,(show(0:Int)<p by omega),k]
 apply aF c1 ?_;let n1:¬ o="and":=λz=>c1 (by rw[z])
 erw[0,1,0,6]
 by_cases c2:V.str o=V.str "or"
 . apply bd c2 ?_;let e:eT p o x y=(x+y-x*y) % p:=by unfold eT;rw[ND n1,NE (eW c2)]
   rw[e]at k;erw[0,0,2,0,2,0,2,(show(0:Int)<p by omega),k]
 apply aF c2 ?_;let n2:¬ o="or":=λz=>c2 (by rw[z])
 erw[0,0,2,0,2,.inl %[4|4],2,6];erw[0,1,0,6]
 by_cases c3:V.str o=V.str "odd"
 . apply bd c3 ?_;let e:eT p o x y=(x+y-2*(x*y)) % p:=by unfold eT;rw[ND n1,ND n2,NE (eW c3)]
   rw[e]at k;erw[0,0,2,(show(0:Int)<p by omega),k]
 apply aF c3 ?_;let n3:¬ o="odd":=λz=>c3 (by rw[z])
 let e:eT p o x y=(1-(x+y-2*(x*y))) % p:=by unfold eT;rw[ND n1,ND n2,ND n3]
 rw[e]at k;erw[0,2,0,2,(show(0:Int)<p by omega),k]
instance spWorth(n:Nat):∀(v:V)(t:Tr)(a b:Addr)(ns:List Str)(pt:List Int)(p:Int),vs=[v,.ref a,.ref b,.int p]->TreeAt H v t->t.ok ns->t.depth<=n->NamesAt H a ns->H b=some (.tup (pt.map V.int))->pt.length=ns.length->1<p->p<2 ^ 40->bL pt p->Q (.int (t.worth ns pt p)) H:=1
def jX:FnScope ["tree","switches","point","p","word","first"] WU (ao jv):=%[|5]
def xO{n:Nat}(F:#["worth_of",jv])(di:#[1,"joined_worth",Wm,spJW])(fK:#[n+2,"worth_of",WU,spWorth n]):#[n+3,f,fd,WU,spWorth (n+1)]:=by
 exists jX
 erw[v,t,a,b,ns,pt,p,1,T,ok,dn,hN,hb,sl,p1,p40,po,k]at h;let p0:(0:Int)<p:=#[0]
 refine⟨_,(ad #[aj,4,jX,aN ix_tup (pv 0) ag #[1]]
  (ad (aM (am aS (pv 4) aI (az _)) (af (ax (aq ba (aN ix_tup (pv 2) (rK zF1 jV0 (pv 1) %[aN ix_tup (pv 0) ag #[1]|ae]) #[1]) (pv 3)))) aE)
  (ad (aM (am aS (pv 4) aI (az _)) (af (ax ag)) aE)
  (ad (aM (am aS (pv 4) aI (az _)) (af (ax ag)) aE)
  (ad #[aj,5,jX,aD fK hr (zH0 _) rfl %[aN ix_tup (pv 0) ag #[1],1,2,3|ae]]
  (ad (aM (am aS (pv 4) aI (az _)) (af (ax (aq ba (aq bj ag (pv 5)) (pv 3)))) aE)
  (af (ax (aD di hr #[0] rfl %[4,5,aD fK hr (zH0 _) rfl %[aN ix_tup (pv 0) ag #[1],1,2,3|ae],3|ae]))))))))),?_⟩
 cases T with
 | @is q x e=>
   erw[0,q,_,(0),0,1,zC0 e,1,6];erw[0,1,0,6];apply bd rfl ?_;let%[j,hj|jl]:=gq ok;let jl':j<pt.length:=#[0]
   erw[0,0,a,ns,1,hN,0,q,_,(1),0,1,zC0 e,1,1,x,j,1,hj,b,_,(j:Int),.int pt[j],1,1,zC0 hb,6,0,2,p0,6]
   . apply bK ?_;rw[zW0,zM0 jl'];rfl
   . let e1:(Tr.is x).worth ns pt p=pt[j] % p:=by
      show(match fc x ns with | some j=>pt.getD j 0 | none=>0)=_;rw[hj];show pt.getD j 0=_;rw[sA jl']
      have:=po _ (qR0 jl')
      rw[qL0 this.1 this.2]
     rw[e1]at k;exact k
 | @yes q e=>
   erw[0,q,_,(0),0,1,zC0 e,1,6];erw[0,1,0,6];apply aF ⋯ ?_;erw[0,1,0,6];exact bd rfl k
 | @no q e=>
   erw[0,q,_,(0),0,1,zC0 e,1,6];erw[0,1,0,6];apply aF ⋯ ?_;erw[0,1,0,6];apply aF ⋯ ?_;erw[0,1,0,6];exact bd rfl k
 | @not q u r e T1=>
   let dp:r.depth+1<=n+1:=dn;erw[0,q,_,(0),0,1,zC0 e,1,6];erw[0,1,0,6];apply aF ⋯ ?_;erw[0,1,0,6];apply aF ⋯ ?_;erw[0,1,0,6];apply aF ⋯ ?_;erw[0,q,_,(1),0,1,zC0 e,1,0,0,0,u,r,a,b,ns,pt,p,1,T1,ok,3,hN,hb,sl,p1,p40,po,6];erw[0,1,0,6];apply bd rfl ?_;erw[0,2,0,2,p0,k]
 | @bin q o u u2 r r2 e T1 T2=>
   erw[ho,ok1,ok2]at ok;let dp:max r.depth r2.depth+1<=n+1:=dn;let ne:∀z:Str,z∉joinW->¬ V.str o=V.str z:=λz hz h=>hz (eW h▸ho)
   erw[0,q,_,(0),0,1,zC0 e,1,6];erw[0,1,0,6];apply aF (ne _ ⋯) ?_;erw[0,1,0,6];apply aF (ne _ ⋯) ?_;erw[0,1,0,6];apply aF (ne _ ⋯) ?_;erw[0,q,_,(1),0,1,zC0 e,1,0,0,0,u,r,a,b,ns,pt,p,1,T1,ok1,3,hN,hb,sl,p1,p40,po,6];erw[0,1,0,6];apply aF (ne _ ⋯) ?_;let wr:=worth_rng p1 po sl r ok1;erw[0,0,0,q,_,(2),0,1,zC0 e,1,0,0,0,u2,r2,a,b,ns,pt,p,1,T2,ok2,3,hN,hb,sl,p1,p40,po,6];erw[0,o,_,_,p,1,wr.1,wr.2,p40,k]
def xN:#[2,f,fd,WU,spWorth 0]:=by
 let no:∀vs H Q E,¬ spWorth 0 vs H Q E:=λvs H Q E h=>by
  erw[v,t,_,_,_,_,_,_,_,_,h1,_]at h
  have:=t.depth_pos
  omega
 exists 3
def pJ(F:#["worth_of",jv])(m:mg "worth_of"=some (.ref f))(di:#[1,"joined_worth",Wm,spJW]):
 ∀n:Nat,#[n+2,f,fd,WU,spWorth n]
 |0=>xN
 |n+1=>xO F di (Cal.of F (pJ F m di n) m (λ_ _ _ _ _ _ us hl=>by let%[u0,u1,u2,u3|1]:=Jr hl;rfl))
def dP{H:Hp}{b:Addr}{ys zs:List V}(h:H b=some (.lst ys)):∀a xs,H a=some (.tup xs)->(upd H b (.lst zs)) a=some (.tup xs):=λa xs e=>by
 rw[ay]
 . exact e
 . intro z;rw[z,h]at e;cases e
def at0(x:V)(xs:List V):atI (x::xs) 0=some x:=bK (j:=0) rfl
def pO{ts:List Tr}{i:Nat}{u:Tr}(h:ts[i]?=some u):iA (ts.take (i+1))=iA (ts.take i)++u.names:=by
 unfold iA;rw[zZ0,h,zK0,List.flatten_append]
 simp
def rV(ts:List Tr):(iA ts).length<=iQ ts:=by
 induction ts with
 |nil=>simp [iA,iQ]
 |cons a r ih=>
   have:=a.names_len
   simp only[iA,iQ,qE0,qY1,zJ0,zX1]at ih ⊢;omega
def qL(ts:List Tr)(i:Nat):iQ (ts.take i)<=iQ ts:=by
 induction ts generalizing i with
 |nil=>simp
 |cons a r ih=>
   cases i with
   |zero=>simp [iQ]
   |succ i=>
     have:=ih i
     simp only[iQ,List.take_succ_cons,qE0,zX1]at this ⊢;omega
instance spNO(n:Nat):∀(v:V)(t:Tr),vs=[v]->TreeAt H v t->t.wf->t.depth<=n->t.size<=400->(∀(l:Addr)(H':Hp),H l=none->Same H H'->H' l=some (.lst (t.names.map V.str))->Q (.ref l) H'):=1
def fZ:FnScope ["_law_tree_here","_law_found","_law_part"] WN (ao hZ):=%[|5]
def Hi{n:Nat}(F:#["_law_names_of",hZ])(cQ:#[n+2,"_law_names_of",WN,spNO n]):#[n+3,f,fd,WN,spNO (n+1)]:=by
 exists fZ
 erw[v,t,1,T,wf,dn,sz,q]at h;refine⟨_,(ad (aM (am aS (aN ix_tup (pv 0) ag #[1]) aI (az _)) (af (ax (cq %[aN ix_tup (pv 0) ag #[1]|ae]))) aE)
  (ad #[aj,1,fZ,cq ae]
  (ad (cx zE1 rfl (fo (eQ oB (pv 0) (eY ag) iG)) (aX (i:=2) fZ.nd rfl (.inl rfl)) (af #[aj,1,fZ,aq oU (pv 1) (aD cQ hr (zH0 _) rfl %[2|ae])]))
  (af (ax (pv 1)))))),?_⟩
 rcases T.view wf with⟨a,x,rfl,rfl,_,e⟩ | ⟨a,o,xs,rfl,no,xl0,e,TS0,nis⟩
 . erw[0,a,_,(0),0,1,zC0 e,1,1,0,6];apply bd rfl ?_;erw[0,a,_,(1),0,1,zC0 e,1,y1S,λp hp=>?_];exact q p _ hp (zE0 hp _) ai
 . erw[0,a,_,(0),.str o,1,1,zC0 e,at0 ..,1,0,6];apply aF (λz=>no (by injection z)) ?_;erw[y0S,λL hL=>?_];let G0:=zE0 hL (.lst []);let%[c1|c2]:=HH (.str o) xs xl0;erw[0,(1),1,a,0,zC0 (G0 _ _ e),c2,λp hp=>?_];rw[c1];let G1:=zE0 hp (.tup xs);let hp1:upd (upd H L (.lst [])) p (.tup xs) p=some (.tup xs):=ai;let hL1:upd (upd H L (.lst [])) p (.tup xs) L=some (.lst []):=G1 _ _ ai;let S1:Same H (upd (upd H L (.lst [])) p (.tup xs)):=G0.trans G1;generalize upd (upd H L (.lst [])) p (.tup xs)=H1 at hp1 hL1 S1;let TS:=TS0.mono (aV S1);let xl:=TS.length;let sp:=t.size_parts;erw[p,1,%[_|zC0 hp1],qv (K:=K) (xs:=xs) (λi σ H'=>∃(M:Addr)(x2:Option V),σ=[some (.ref a),some (.ref M),x2]/\H M=none/\H' M=some (.lst ((iA (t.parts.take i)).map V.str))/\Same H1 H') %[L,0,hL,hL1|Same.refl _] (λi σ H' _ NI=>by erw[_,_,_,_,_,h]at NI;exact zC0 (h _ _ hp1)) ?_ ?_]
   . rintro i x σ H2 hx ⟨M,x2,rfl,M0,hM,S2⟩;let%[u,hu|Tu]:=TS.get hx;let um:=qC0 hu;let%[uw,ud|us]:=Tr.parts_mem um wf;erw[0,0,x,u,1,Tu.mono (aV S2),uw,3,3,λl H3 l0 S3 hl3=>?_];let nl:=u.names_len;let nl2:=rV (t.parts.take i);let nl3:=qL t.parts i;erw[M,l,2,S3 _ _ hM,hl3,6,λr hr0=>?_]
     . rw[zF0,zF0];exact small #[0]
     . let S4:=(S2.trans S3).trans (zE0 hr0 (.lst ((iA (t.parts.take i)).map V.str++u.names.map V.str)));erw[r,0,(S1.trans (S2.trans S3)).free hr0,6,S4];rw[ai,pO hu,zK0]
   . rintro σ H2 ⟨M,x2,rfl,M0,hM,S2⟩;rw[xl,qA0,←t.names_parts nis]at hM;erw[0,q M H2 M0 (S1.trans S2) hM]
def Hh:#[2,f,fd,WN,spNO 0]:=by
 let no:∀vs H Q E,¬ spNO 0 vs H Q E:=λvs H Q E h=>by
  erw[v,t,_,_,_,h1,_]at h
  have:=t.depth_pos
  omega
 exists 3
def lI(F:#["_law_names_of",hZ])(m:mg "_law_names_of"=some (.ref f)):
 ∀n:Nat,#[n+2,f,fd,WN,spNO n]
 |0=>Hh
 |n+1=>Hi F (Cal.of F (lI F m n) m (λ_ _ _ _ _ _ us hl=>by let%[u0|1]:=Hx hl;rfl))
def mi(ns:List Str)(z:Str):((ns.map V.str).countP λy=>eqV y (.str z))=ns.count z:=by
 rw[List.countP_map];rfl
instance spNeed:∀(a b:Addr)(ns:List Str)(tv:List V)(ts:List Tr),vs=[.ref a,.ref b]->H a=some (.lst (ns.map V.str))->H b=some (.lst tv)->TreesAt H tv ts->ts.length<=10->(∀t∈ts,t.wf/\t.depth<=10/\t.size<=400)->(∀(m:Int)(H':Hp),Same H H'->2<=m->m<=400->(ns=[]->ts.length<=4->m<=3)->(ts.length:Int)<=m+1->(∀t∈ts,∀x∈ns,(t.names.count x:Int)<=m)->Q (.int m) H'):=1
def f9:FnScope ["_law_names_here","_law_trees","_law_need_here","_law_tree_here","_law_found","_law_name"] WV (ao qS):=%[|5]
def Bq(F:#["_law_need",qS])(hlen:mg "len"=none)(hmax:mg "max"=none)(cQ:#[12,"_law_names_of",WN,spNO 10]):#[13,f,fd,WV,spNeed]:=by
 exists f9
 erw[a,b,ns,tv,ts,1,ha,hb,TS,tl,tok,q]at h;refine⟨_,(ad #[aj,2,f9,aJ (uk rfl) rfl hmax jB1 %[ag,aq bj (aJ aG rfl hlen zD1 %[1|ae]) ag|ae]]
  (ad (cx zE1 rfl (dU (pv 1)) (aX (i:=3) f9.nd rfl (.inl rfl)) (ad #[aj,4,f9,aD cQ hr ⋯ rfl %[3|ae]]
   (af (cx zE1 rfl (dU (pv 0)) (aX (i:=5) f9.nd rfl (.inl rfl)) (af #[aj,2,f9,aJ (uk rfl) rfl hmax jB1 %[2,eR zF1 wA0 wA1 wR (pv 4) %[5|ae]|ae]])))))
  (af (ax (pv 2))))),?_⟩
 let vl:=TS.length;erw[0,b,0,.inl (zG0 hb),2,_,0,6];obtain⟨m,em,m2,m4,mt,m3⟩:∃m:Int,(if((tv.length:Int)-1)>2 then((tv.length:Int)-1)else 2)=m/\2<=m/\m<=400/\(ts.length:Int)<=m+1/\(ts.length<=4->m<=3):=⟨_,rfl,by split <;> omega,by split <;> omega,by split <;> omega,λ_=>by split <;> omega⟩
 rw [em];refine⟨_,rfl,b,rfl,%[_|zG0 hb],gN (K:=K) (xs:=tv) (λi σ H'=>∃(m:Int)(x3 x4 x5:Option V),σ=[some (.ref a),some (.ref b),some (.int m),x3,x4,x5]/\2<=m/\m<=400/\(ts.length:Int)<=m+1/\(∀t∈ts.take i,∀x∈ns,(t.names.count x:Int)<=m)/\Same H H'/\(ns=[]->ts.length<=4->m<=3))
  %[m,_,_,0,m2,m4,mt,by simp,Same.refl _|λ_=>m3] (λi σ H' _ NI=>by erw[_,_,_,_,_,_,_,_,_,h,_]at NI;exact zG0 (h _ _ hb)) ?_ ?_⟩
 . rintro i v σ H1 hv ⟨m,x3,x4,x5,rfl,m2,m4,mt,mc,S1,me⟩;let%[t,ht|T]:=TS.get hv;let tm:=qC0 ht;let%[tw,td|tz]:=tok t tm;erw[0,v,t,1,T.mono (aV S1),tw,3,tz,λl H2 l0 S2 hl=>?_];let S12:=S1.trans S2;let tn:=t.names_len;refine⟨_,rfl,a,rfl,%[_|zG0 (S12 _ _ ha)],gN (K:=K) (xs:=ns.map V.str) (λj σ H'=>∃(m':Int)(x5:Option V),σ=[some (.ref a),some (.ref b),some (.int m'),some v,some (.ref l),x5]/\m<=m'/\m'<=400/\(∀x∈ns.take j,(t.names.count x:Int)<=m')/\(ns=[]->m'<=m)/\H'=H2)
    %[m,0,qB1 _,m4,by simp,λ_=>qB1 _|1] (λj σ H' _ NI=>by erw[_,_,_,_,_,_,_,h]at NI;subst h;exact zG0 (S12 _ _ ha)) ?_ ?_⟩
   . rintro j y σ H3 hy ⟨m',y5,rfl,mm,m4',mc',me',rfl⟩;rw[zW0]at hy;let%[x,hx|1]:=qU0 hy;erw[0,0,.inl %[1,_|zG0 hl],0,l,2,zG0 hl,gu _,1,_,0,6];rw[mi];let cl:=jS1 (a:=x) (l:=t.names);erw[_,0,by split <;> omega,by split <;> omega,λz hz=>?_,λe=>(by subst e;cases hx),1];rw[zZ0,hx]at hz;rcases qP0 hz with h | h
     . have:=mc' z h
       split <;> omega
     . let e:z=x:=#[h,0]
       subst e
       split <;> omega
   . rintro σ H3 ⟨m',y5,rfl,mm,m4',mc',me',rfl⟩;rw[zF0,qA0]at mc';erw[m',_,_,0,3,m4',3,λu hu x hx=>?_,S12,λe f=>(by have:=me' e;have:=me e f;omega)];rw[zZ0,ht]at hu;rcases qP0 hu with h | h
     . have:=mc u h x hx
       omega
     . let e:u=t:=#[h,0]
       subst e;exact mc' x hx
 . rintro σ H1 ⟨m,x3,x4,x5,rfl,m2,m4,mt,mc,S1,me⟩;rw[vl,qA0]at mc;erw[0,q m H1 S1 m2 m4 me mt mc]
instance spPrimeB:∀n:Int,vs=[.int n]->(∀b:Bool,(b=true↔Pr n)->Q (.bl b) H):=1
def m8:FnScope ["_law_number","_law_k"] ["_law_number"] (ao jB):=%[|5]
def sV(F:#["_law_is_prime",jB])(hrange:mg "range"=none):#[1,f,fd,["_law_number"],spPrimeB]:=by
 exists m8
 erw[n,1,q]at h;refine⟨_,(ad (aM (am gJ (pv 0) ag (az _)) (af (ax iH)) aE)
  (ad (cx zE1 rfl (Bm rfl hrange %[ag,ag|ae]) (aX (i:=1) m8.nd rfl (.inl rfl)) (ad (aM (am iz (aq cg (pv 1) (pv 1)) (pv 0) (az _)) (af (ax iH)) aE)
   (af (aM (am aS (aq ba (pv 0) (pv 1)) ag (az _)) (af (ax iH)) aE))))
  (af (ax iH)))),?_⟩
 erw[0,2,0,6];apply vN (λc=>?_) (λc=>?_)
 . let c':=zU1 c;exact q false %[λz=>(nomatch z)|λz=>by have:=z.1;omega]
 let c':¬ n<2:=wZ1 (Bool.eq_false_iff.mpr c);erw[(2),(1001),1,%[4,4,4|4],dH (λi σ H'=>∃x,σ=[some (.int n),x]/\H'=H/\pj n (2+(i:Int))) %[0,1|by simpa using xP n] ?_ ?_]
 . rintro i σ H' hi ⟨x,rfl,rfl,u⟩;let hi':i<999:=hi;erw[0,0,2,.inl %[3|3],0,2,0,6];apply vN (λc1=>?_) (λc1=>?_)
   . let c2:=zU1 c1;exact q true %[λ_=>IZ #[0] #[0] u c2|λ_=>rfl]
   . let c2:=wZ1 (Bool.eq_false_iff.mpr c1);erw[0,0,2,(show(0:Int)<2+(i:Int) by omega),1,0,6];apply vN (λc3=>?_) (λc3=>?_)
     . let c4:=V.int.inj (zU1 c3);exact q false %[λz=>(nomatch z)|λz=>(IX #[0] #[0] #[0] c4 z).elim]
     . let c4:=wZ1 (Bool.eq_false_iff.mpr c3);erw[0,1,6];let e:(2:Int)+((i+1:Nat):Int)=2+(i:Int)+1:=#[0]
       rw[e];exact AD u #[0] (λz=>c4 (congrArg V.int z))
 . rintro σ H' ⟨x,rfl,rfl,u⟩;exact q true %[λ_=>Ja #[0] u|λ_=>rfl]
instance spWithin:∀(v:V)(t:Tr),vs=[v]->TreeAt H v t->t.wf->(∀(p:Addr)(xs:List V)(H':Hp),Same H H'->H' p=some (.tup xs)->TreesAt H' xs t.parts->Q (.ref p) H'):=1
def qb:FnScope WB WB (ao io):=%[|5]
def qe(F:#["trees_within",io]):#[1,f,fd,WB,spWithin]:=by
 exists qb
 erw[v,t,1,T,wf,q]at h;refine⟨_,(ad (aM (am aS (aN ix_tup (pv 0) ag #[1]) aI (az _)) (af (ax (aU ae))) aE)
  (af (ax (eQ oB (pv 0) (eY ag) iG)))),?_⟩
 rcases T.view wf with⟨a,x,rfl,rfl,_,e⟩ | ⟨a,o,xs,rfl,no,xl,e,TS,_⟩
 . erw[0,a,_,(0),0,1,zC0 e,1,1,0,6];apply bd rfl ?_;erw[y0S,λp hp=>?_];exact q p [] _ (zE0 hp _) ai .nil
 . erw[0,a,_,(0),.str o,1,1,zC0 e,at0 ..,1,0,6];apply aF (λz=>no (by injection z)) ?_;let%[c1|c2]:=HH (.str o) xs xl;erw[0,(1),1,a,0,zC0 e,c2,λp hp=>?_];rw[c1];exact q p xs _ (zE0 hp _) ai (TS.mono (aV (zE0 hp _)))
instance spNamesIn(n:Nat):∀(v:V)(t:Tr),vs=[v]->TreeAt H v t->t.wf->t.depth<=n->t.size<=400->(∀(l:Addr)(H':Hp),H l=none->Same H H'->H' l=some (.lst (t.names.map V.str))->Q (.ref l) H'):=1
def j4:FnScope ["tree","names","part"] WB (ao jx):=%[|5]
def yP{n:Nat}(F:#["names_in",jx])(a7:#[1,"trees_within",WB,spWithin])(eg:#[n+2,"names_in",WB,spNamesIn n]):#[n+3,f,fd,WB,spNamesIn (n+1)]:=by
 exists j4
 erw[v,t,1,T,wf,dn,sz,q]at h;refine⟨_,(ad (aM (am aS (aN ix_tup (pv 0) ag #[1]) aI (az _)) (af (ax (cq %[aN ix_tup (pv 0) ag #[1]|ae]))) aE)
  (ad #[aj,1,j4,cq ae]
  (ad (cx zE1 rfl (fo (aD a7 hr #[0] rfl %[0|ae])) (aX (i:=2) j4.nd rfl (.inl rfl)) (af (bb (eR zF1 PySem.F.slot_list_extend PySem.F.type_list_extend tS (pv 1) %[aD eg hr (zH0 _) rfl %[2|ae]|ae]))))
  (af (ax (pv 1)))))),?_⟩
 let wf':=wf;rcases T.view wf with⟨a,x,rfl,rfl,_,e⟩ | ⟨a,o,xs0,rfl,no,xl0,e,_,nis⟩
 . erw[0,a,_,(0),0,1,zC0 e,1,1,0,6];apply bd rfl ?_;erw[0,a,_,(1),0,1,zC0 e,1,y1S,λp hp=>?_];exact q p _ hp (zE0 hp _) ai
 . erw[0,a,_,(0),.str o,1,1,zC0 e,at0 ..,1,0,6];apply aF (λz=>no (by injection z)) ?_;erw[y0S,λL hL=>?_];let G0:=zE0 hL (.lst []);erw[0,_,t,1,T.mono (aV G0),wf,λp xs H1 S1 hp TS=>?_];let hL1:H1 L=some (.lst []):=S1 _ _ ai;let pL:p≠L:=λz=>by rw[z,hL1]at hp;cases hp
   let xl:=TS.length;let sp:=t.size_parts;erw[p,1,%[_|zC0 hp],qv (K:=K) (xs:=xs) (λi σ H'=>∃x2,σ=[some (.ref a),some (.ref L),x2]/\H' L=some (.lst ((iA (t.parts.take i)).map V.str))/\SameBut L H1 H') %[0,hL1|SameBut.refl _ _] (λi σ H' _ NI=>by erw[_,_,_,h]at NI;exact zC0 (h _ _ pL hp)) ?_ ?_]
   . rintro i x σ H2 hx ⟨x2,rfl,hl,S2⟩;let%[u,hu|Tu]:=TS.get hx;let um:=qC0 hu;let%[uw,ud|us]:=Tr.parts_mem um wf;let Tu2:TreeAt H2 x u:=Tu.mono λb ys h=>S2 b _ (λz=>by rw[z,hL1]at h;cases h) h
     erw[0,.inl %[1,_|zG0 hl],0,x,u,1,Tu2,uw,3,3,λl H3 l0 S3 hl3=>?_];let nl:=u.names_len;let nl2:=rV (t.parts.take i);let nl3:=qL t.parts i;erw[L,l,2,S3 _ _ hl,hl3,6,6]
     . rw[zF0,zF0];exact small #[0]
     erw[0,6,λb o hb h=>?_]
     . rw[ai,pO hu,zK0]
     . rw[ay hb];exact S3 _ _ (S2 _ _ hb h)
   . rintro σ H2 ⟨x2,rfl,hl,S2⟩;rw[xl,qA0,←t.names_parts nis]at hl;erw[0,6];apply q L H2 hL (λb o h=>?_) hl;exact S2 b o (aP h hL) (S1 _ _ (G0 _ _ h))
def yO:#[2,f,fd,WB,spNamesIn 0]:=by
 let no:∀vs H Q E,¬ spNamesIn 0 vs H Q E:=λvs H Q E h=>by
  erw[v,t,_,_,_,h1,_]at h
  have:=t.depth_pos
  omega
 exists 3
def pM(F:#["names_in",jx])(m:mg "names_in"=some (.ref f))(a7:#[1,"trees_within",WB,spWithin]):
 ∀n:Nat,#[n+2,f,fd,WB,spNamesIn n]
 |0=>yO
 |n+1=>yP F a7 (Cal.of F (pM F m a7 n) m (λ_ _ _ _ _ _ us hl=>by let%[u0|1]:=Hx hl;rfl))
instance spField:∀n:Int,vs=[.int n]->n<=999999->(∀b:Bool,(b=true↔2<n/\Pr n)->Q (.bl b) H):=1
def j9:FnScope ["number","divisor"] ["number"] (ao lY):=%[|5]
def wJ(F:#["is_field",lY]):#[1,f,fd,["number"],spField]:=by
 exists j9
 erw[n,1,n9,q]at h;refine⟨_,(ad (aM (PW.pt (kH (am gJ (pv 0) ag (az _)) (jI (am aS (aq ba (pv 0) ag) ag (az _))))) (af (ax iH)) aE)
  (ad #[aj,1,j9,ag]
  (ad (iw zE1 (am wC (aq cg (pv 1) (pv 1)) (pv 0) (az _)) (ad (aM (am aS (aq ba (pv 0) (pv 1)) ag (az _)) (af (ax iH)) aE)
   (af #[aj,1,j9,aq aW (pv 1) ag])))
  (af (ax iH))))),?_⟩
 erw[0,2,0,6]
 by_cases c:n<3
 . apply bd c ?_;apply eU ?_;exact q false %[λz=>(nomatch z)|λz=>#[0]]
 apply aF c ?_;erw[0,2,(by show(0:Int)<_;decide),1,0,6]
 by_cases c2:n % 2=0
 . apply bd (congrArg V.int c2) ?_;exact q false %[λz=>(nomatch z)|λz=>absurd z.2 (BZ c2 #[0])]
 apply aF (λz=>c2 (V.int.inj z)) ?_;erw[λm σ H'=>∃d:Int,σ=[some (.int n),some (.int d)]/\H'=H/\3<=d/\d<=1001/\d % 2=1/\xL n d/\m=(n+3-d).toNat,%[_,(3),1,1,3,3,3,BA n|1],6];rintro m σ H' ⟨d,rfl,rfl,d3,d9,d2,u,rfl⟩;erw[0,0,2,.inl %[3|3],0,2,0,6]
 by_cases c3:d*d<=n
 . apply bd c3 ?_;let r1:=ya n9 d3 c3;let r2:=Gy d3 c3;erw[_,λ_ _ h=>h,6];erw[0,0,2,(show 0<d by omega),1,0,6]
   by_cases c4:n % d=0
   . apply bd (congrArg V.int c4) ?_;exact q false %[λz=>(nomatch z)|λz=>absurd z.2 (BY n9 d3 c3 c4)]
   apply aF (λz=>c4 (V.int.inj z)) ?_;erw[0,2,6];erw[_,3,d+2,1,1,3,3,3,Eg u d2 c4,1]
 . apply aF c3 ?_;exact q true %[λ_=>%[3|BW #[0] c2 d3 u #[0]]|λ_=>rfl]
example:=[uW,uX 0,yp,uX 1,qV,uX 2,qW,uX 3]
def gf(a b:Addr)(p:Int)(d:Addr):List (Str×V):=bY "degrees" (.ref d) (bY "field" (.int p) (bY "trees" (.ref b) (bY "switches" (.ref a) [])))
def pU(a b:Addr)(p:Int)(d:Addr):(gf a b p d).lookup ("switches":Str)=some (.ref a):=by
 unfold gf;rw[au,ND ⋯,au,ND ⋯,au,ND ⋯,au,NE rfl]
def lJ(a b:Addr)(p:Int)(d:Addr):(gf a b p d).lookup ("trees":Str)=some (.ref b):=by
 unfold gf;rw[au,ND ⋯,au,ND ⋯,au,NE rfl]
def hU(a b:Addr)(p:Int)(d:Addr):(gf a b p d).lookup ("field":Str)=some (.int p):=by
 unfold gf;rw[au,ND ⋯,au,NE rfl]
def Fa(a b:Addr)(p:Int)(d:Addr):(gf a b p d).lookup ("degrees":Str)=some (.ref d):=by
 unfold gf;rw[au,NE rfl]
def oi(a b:Addr)(p:Int)(d:Addr){m:Str}(h1:¬ m="degrees")(h2:¬ m="field")(h3:¬ m="trees")(h4:¬ m="switches"):(gf a b p d).lookup m=none:=by
 unfold gf;rw[au,ND h1,au,ND h2,au,ND h3,au,ND h4]
 all_goals rfl
structure GTxt(K:W.Frag)(mg:#[9])(C:Addr):Prop where
 cl:Cls K C
 nS:NoAttr K C "switches"
 nT:NoAttr K C "trees"
 nF:NoAttr K C "field"
 nD:NoAttr K C "degrees"
 mgC:mg "Game"=some (.ref C)
def xH(g:Nat->Int):∀n,∃k,k<=n/\eJ g n=g k
 |0=>%[(0),zH0 _|1]
 |n+1=>by
   let%[k,hk|e]:=xH g n;unfold eJ
   split
   . erw[n+1,zH0 _,1]
   . erw[k,3,e]
def kI{ns:List Int}(h:ns≠[]):BE ns 0∈ns:=by
 cases ns with
 |nil=>exact absurd rfl h
 |cons a r=>
   let%[k,hk|e]:=xH (λi=>(a::r)[i]?.getD 0) ((a::r).length-1);let e1:BE (a::r) 0=eJ (λi=>(a::r)[i]?.getD 0) ((a::r).length-1):=rfl;let hl:k<(a::r).length:=by
    rw[zP0]at hk ⊢;omega
   rw[e1,e];show(a::r)[k]?.getD 0∈a::r;rw[zM0 hl];exact qR0 hl
def aY(ts:List Tr)(x:Str):Int:=BE (ts.map λt=>(t.names.count x:Int)) 0
def oo{ts:List Tr}{x:Str}{p:Int}(h0:ts≠[])(h:∀t∈ts,(t.names.count x:Int)<p):aY ts x<p:=by
 have:=kI (ns:=ts.map λt=>(t.names.count x:Int)) #[h0,0]
 let%[t,ht|e]:=List.mem_map.mp this;unfold aY;rw[←e];exact h t ht
instance spDeg:∀(x:Str)(b:Addr)(tv:List V)(ts:List Tr),vs=[.str x,.ref b]->H b=some (.tup tv)->TreesAt H tv ts->ts≠[]->ts.length<=10->(∀t∈ts,t.wf/\t.depth<=10/\t.size<=400)->(∀H',Same H H'->Q (.int (aY ts x)) H'):=1
def uJ:FnScope Wn Wn (ao kA):=%[|5]
def vA(F:#["degree_of",kA])(hmax:mg "max"=none)(eg:#[12,"names_in",WB,spNamesIn 10]):#[13,f,fd,Wn,spDeg]:=by
 exists uJ
 erw[x,b,tv,ts,1,hb,TS,t0,tl,tok,q]at h;refine⟨_,(af (ax (aJ (ph rfl) rfl hmax jB1 (aa (cH (N:=["name"]) (ix:=[0]) rfl
  #[3] rfl
  (fo (pv 1)) (λ_ _ _=>cE (DK K zF1 wA0 wA1 (tT K) (aD eg hr ⋯ rfl %[0|ae]) %[1|ae]))) ae)))),?_⟩
 let vl:=TS.length;erw[0,b,1,%[_|zC0 hb],λD hD=>?_];apply eV (K:=K) (xs:=tv) (λi H'=>H' D=some (.lst (((ts.take i).map λt=>(t.names.count x:Int)).map V.int))/\Same H H') %[by rw[ai];rfl|zE0 hD _] (λi H' _ h=>zC0 (h.2 _ _ hb)) ?_ ?_
 . rintro i z H2 hz ⟨hl,S2⟩;let%[t,ht|T]:=TS.get hz;let%[tw,td|tz]:=tok t (qC0 ht);let hi:i<tv.length:=(zX0 hz).1;erw[0,z,t,1,T.mono (aV S2),tw,3,tz,λl H3 l0 S3 hl3=>?_];erw[.inl %[1,_|zG0 hl3],0,l,2,zG0 hl3,gu _,1,6];rw[mi];erw[_,S3 _ _ hl,6,Nx.of hi %[6|λb' o' e'=>?_]]
   . rw[zF0,zF0,qJ0];exact aO #[0]
   . rw[ai,zZ0,ht,zK0,zK0];rfl
   . rw[ay (aP e' hD)];exact S3 _ _ (S2 _ _ e')
 . rintro H2 ⟨hl,S2⟩;rw[vl,qA0]at hl;erw[D,0,zG0 hl,by simpa using t0,q H2 S2]
instance spLookS:∀(a:Addr)(ns:List Str),vs=[.ref a]->H a=some (.tup (ns.map V.str))->ns.Nodup->ns.length<=10->(∀H',Same H H'->Q .non H'):=1
def jO(x:Str)(ns:List Str):inV (.str x) (ns.map V.str)=decide (x∈ns):=by
 unfold inV
 induction ns with
 |nil=>rfl
 |cons a r ih=>
   rw [qE0,jY0,ih];let e:eqV (.str a) (.str x)=decide (x=a):=by
    show(a==x)=_
    by_cases c:x=a
    . subst c;simp
    . rw[zB1 c];simpa using λh=>c h.symm
   rw[e]
   by_cases c1:x=a <;> by_cases c2:x∈r <;> simp [c1,c2]
def f7:FnScope ["switches","place","name"] ["switches"] (ao gV):=%[|5]
def oW(F:#["look_switches",gV])(henum:mg "enumerate"=none):#[1,f,fd,["switches"],spLookS]:=by
 exists f7
 erw[a,ns,1,ha,nd,nl,q]at h;refine⟨_,(af (cx zE1 rfl (DF rfl henum (pv 0)) (rH rfl (eE (aX (i:=1) f7.nd rfl (.inl rfl)) (eE (aX (i:=2) f7.nd rfl (.inl rfl)) ny)))
  (af (aM (am fe (pv 2) (eQ oB (pv 0) iG (eY (pv 1))) (by rfl')) bz aE)))),?_⟩
 erw[0,a,1,%[_|zC0 ha],BU (K:=K) (xs:=ns.map V.str) (λi σ H'=>∃x1 x2:Option V,σ=[some (.ref a),x1,x2]/\Same H H') %[_,0|Same.refl _] (λi σ H' _ NI=>by erw[_,_,_,h]at NI;exact zC0 (h _ _ ha)) ?_ ?_]
 . rintro i z σ H1 t hz ⟨x1,x2,rfl,S1⟩ ht;let hi:i<(ns.map V.str).length:=(zX0 hz).1;rw[zW0]at hz;let%[x,hx|1]:=qU0 hz;let G:=zE0 ht (.tup [.int (i:Int),.str x]);let S2:=S1.trans G;let hi':i<ns.length:=by rw[zF0]at hi;exact hi
   erw[t,0,zC0 ai,1,_,0,2,6];erw[0,0,0,(i:Int),1,a,0,zC0 (S2 _ _ ha),6,λc hc=>?_]
   . rintro⟨_,h⟩;rw[HT.sIx_nat]at h;omega
   . erw[c,0,.inr (zC0 ai),1,6,0,6]
     . let ec:jf (ns.map V.str) none (some (i:Int))=(ns.take i).map V.str:=by
        unfold jf;rw[HT.sIx_none,HT.sIx_nat,jI0,wF1,List.map_take]
        congr 1
        omega
       rw[ec];exact gu _
     . let ec:jf (ns.map V.str) none (some (i:Int))=(ns.take i).map V.str:=by
        unfold jf;rw[HT.sIx_none,HT.sIx_nat,jI0,wF1,List.map_take]
        congr 1
        omega
       show if inV (.str x) (jf (ns.map V.str) none (some (i:Int)))=true then _ else _
       rw[ec,jO,zB1 ?_]
       . apply dG ?_;erw[_,0,S2.trans (zE0 hc _)]
       . intro hm;let%[j,hj|e]:=wR0 hm;rw[qJ0]at hj;rw[List.getElem_take]at e;let ex:ns[i]=x:=by
          rw[zM0 hi']at hx;exact zT0 hx
         exact List.pairwise_iff_getElem.mp nd j i #[0] hi' #[0] (e.trans ex.symm)
 . rintro σ H1 ⟨x1,x2,rfl,S1⟩;exact q H1 S1
def nQ{ns:List Str}:∀t:Tr,t.ok ns->∀x∈t.names,x∈ns
 |.is y,h,x,hx=>by rw[NK hx];exact h
 |.yes,_,x,hx=>by cases hx
 |.no,_,x,hx=>by cases hx
 |.not a,h,x,hx=>nQ a h x hx
 |.bin _ a b,⟨_,h1,h2⟩,x,hx=>by
   rcases qP0 hx with h | h
   . exact nQ a h1 x h
   . exact nQ b h2 x h
instance spLookN:∀(a b:Addr)(ns:List Str)(tv:List V)(ts:List Tr),vs=[.ref b,.ref a]->H a=some (.tup (ns.map V.str))->H b=some (.tup tv)->TreesAt H tv ts->(∀t∈ts,t.ok ns/\t.wf/\t.depth<=10/\t.size<=400)->(∀H',Same H H'->Q .non H'):=1
def iC:FnScope ["trees","switches","tree","name"] ["trees","switches"] (ao jy):=%[|5]
def sS(F:#["look_names",jy])(eg:#[12,"names_in",WB,spNamesIn 10]):#[13,f,fd,["trees","switches"],spLookN]:=by
 exists iC
 erw[a,b,ns,tv,ts,1,ha,hb,TS,tok,q]at h;refine⟨_,(af (cx zE1 rfl (fo (pv 0)) (aX (i:=2) iC.nd rfl (.inl rfl))
  (af (cx zE1 rfl (dU (aD eg hr ⋯ rfl %[2|ae])) (aX (i:=3) iC.nd rfl (.inl rfl))
   (af (aM (am vq (pv 3) (pv 1) (by rfl')) bz aE)))))),?_⟩
 erw[0,b,1,%[_|zC0 hb],qv (K:=K) (xs:=tv) (λi σ H'=>∃x2 x3:Option V,σ=[some (.ref b),some (.ref a),x2,x3]/\Same H H') %[_,0|Same.refl _] (λi σ H' _ NI=>by erw[_,_,_,h]at NI;exact zC0 (h _ _ hb)) ?_ ?_]
 . rintro i z σ H1 hz ⟨x2,x3,rfl,S1⟩;let%[t,ht|T]:=TS.get hz;let%[tk,tw,td|tz]:=tok t (qC0 ht);erw[0,z,t,1,T.mono (aV S1),tw,3,tz,λl H2 l0 S2 hl=>?_];let S12:=S1.trans S2;erw[l,1,%[_|zG0 hl],gN (K:=K) (xs:=t.names.map V.str) (λj σ H'=>∃x3:Option V,σ=[some (.ref b),some (.ref a),some z,x3]/\H'=H2) %[0|1] (λj σ H' _ NI=>by erw[_,_,h]at NI;subst h;exact zG0 hl) ?_ ?_]
   . rintro j y σ H3 hy ⟨y3,rfl,rfl⟩;rw[zW0]at hy;let%[x,hx|1]:=qU0 hy;erw[0,0,a,0,.inr (zC0 (S12 _ _ ha)),1,gu _,0,6];show if(!inV (.str x) (ns.map V.str))=true then _ else _
     rw[jO,zC1 (nQ t tk x (qC0 hx))];apply dG ?_;erw[0,1]
   . rintro σ H3 ⟨y3,rfl,rfl⟩;erw[_,0,S12]
 . rintro σ H1 ⟨x2,x3,rfl,S1⟩;exact q H1 S1
instance spLookF:∀p:Int,vs=[.int p]->Pr p->2<p->p<=999983->Q .non H:=1
def sP:FnScope ["field"] ["field"] (ao jz):=%[|5]
def sT(F:#["look_field",jz])(hend:∃t,mg "FIELDS_END"=some (.int 1000000 t))(mz:#[1,"is_field",["number"],spField]):#[2,f,fd,["field"],spLookF]:=by
 exists sP
 erw[p,1,pp,p2,p9,q]at h;erw[te,ge]at hend;erw[_,(af (aM (PW.pt (kH (am Ik (pv 0) (dw (v:=.int 1000000) rfl ge %[|0]) (az _)) (jI (jJ (fk (aD mz hr ⋯ rfl %[0|ae])))))) bz aE)),6];erw[0,2,0,6];apply aF #[0] ?_;erw[0,p,1,3,λb hb=>%[b,1|6]];rw[hb.mpr ⟨p2,pp⟩];exact dG q
instance spLookZ:∀(p:Int)(d:Addr)(ns:List Int),vs=[.int p,.ref d]->H d=some (.lst (ns.map V.int))->ns≠[]->(∀n∈ns,n<p)->Q .non H:=1
def o6:FnScope ["field","degrees","greatest"] ["field","degrees"] (ao ku):=%[|5]
def vw(F:#["look_size",ku])(hmax:mg "max"=none):#[1,f,fd,["field","degrees"],spLookZ]:=by
 exists o6
 erw[p,d,ns,1,hd,n0,nl,q]at h;refine⟨_,(ad #[aj,2,o6,aJ (ph rfl) rfl hmax jB1 %[1|ae]]
  (af (aM (am wC (pv 0) (pv 2) (az _)) bz aE))),?_⟩
 erw[0,d,ns,1,zG0 hd,n0,6];erw[0,0,2,0,6]
 have:=nl _ (kI n0)
 exact aF #[0] q
def iu(f:Str)(v:V):∀fs:List (Str×V),(bY f v fs).length<=fs.length+1
 | []=>zH0 _
 | (g,u)::r=>by
   have:=iu f v r
   unfold bY
   split
   . simp
   . simp only[zP0];omega
def gf3(a b:Addr)(p:Int):List (Str×V):=bY "field" (.int p) (bY "trees" (.ref b) (bY "switches" (.ref a) []))
def JC(a b:Addr)(p:Int):(gf3 a b p).lookup ("switches":Str)=some (.ref a):=by
 unfold gf3;rw[au,ND ⋯,au,ND ⋯,au,NE rfl]
def JB(a b:Addr)(p:Int):(gf3 a b p).lookup ("trees":Str)=some (.ref b):=by
 unfold gf3;rw[au,ND ⋯,au,NE rfl]
def GameAt(C:Addr)(H:Hp)(g a b d:Addr)(p:Int):Prop:=∃dx,H g=some (.ins C dx (gf a b p d))
def GameAt.same(h:GameAt C H g a b d p)(s:Same H H'):GameAt C H' g a b d p:=by
 erw[dx,e]at h;erw[dx,s _ _ e]
instance spGInit(C:Addr):∀(g dx a b:Addr)(ns:List Str)(tv:List V)(ts:List Tr)(p:Int),vs=[.ref g,.ref a,.ref b,.int p]->H g=some (.ins C dx [])->H a=some (.tup (ns.map V.str))->ns.Nodup->ns.length<=10->H b=some (.tup tv)->TreesAt H tv ts->1<=ts.length->ts.length<=10->(∀t∈ts,t.ok ns/\t.wf/\t.depth<=10/\t.size<=400)->Pr p->2<p->p<=999983->(ts.length:Int)<=p->(∀t∈ts,∀x∈ns,(t.names.count x:Int)<p)->(∀(d:Addr)(H':Hp),H d=none->GameAt C H' g a b d p->H' d=some (.lst ((ns.map (aY ts)).map V.int))->SameBut g H H'->Q .non H'):=1
def Dg:FnScope Wa Wa (ao uW):=%[|5]
def DY(F:#["__init__","Game.__init__",uW])(T:GTxt K mg C)(htuple:mg "tuple"=none)(hlen:mg "len"=none)(kg:#[13,"degree_of",Wn,spDeg])(gC:#[1,"look_switches",["switches"],spLookS])
 (i3:#[13,"look_names",["trees","switches"],spLookN])(i4:#[2,"look_field",["field"],spLookF])(kh:#[1,"look_size",["field","degrees"],spLookZ]):#[14,f,fd,Wa,spGInit C]:=by
 exists Dg
 erw[g,dx,a,b,ns,tv,ts,p,1,hg,ha,nd,nl,hb,TS,t1,t10,tok,pp,p2,p9,tp,tc,q]at h;refine⟨_,(ad (aR (pv 0) (bc bi rfl htuple bt %[1|ae]) rfl)
  (ad (aR (pv 0) (bc bi rfl htuple bt %[2|ae]) rfl)
  (ad (aR (pv 0) (pv 3) rfl)
  (ad (aR (pv 0) (cH (N:=WA) (ix:=[0]) rfl
   #[3] rfl
   (fo (aB (pv 0) rfl)) (λ_ _ _=>cE (aD kg hr ⋯ rfl %[0,ld K (pv 1)|ae]))) rfl)
  (ad (bb (aD gC hr ⋯ rfl %[aB (pv 0) rfl|ae]))
  (ad (bb (aD i3 hr ⋯ rfl %[aB (pv 0) rfl,aB (pv 0) rfl|ae]))
  (ad (bb (aD i4 hr ⋯ rfl %[3|ae]))
  (af (bb (aD kh hr ⋯ rfl %[3,aq oU (aB (pv 0) rfl) (cq %[aq bj (aJ aG rfl hlen zD1 %[aB (pv 0) rfl|ae]) ag|ae])|ae])))))))))),?_⟩
 let nag:a≠g:=bu ha hg nofun;let nbg:b≠g:=bu hb hg nofun;let vl:=TS.length;erw[0,a,0,.inr %[zC0 ha,0,g,C,dx,[],1,hg,T.cl,T.nS,(by show 0<1000;decide)|6]];erw[0,b,0,.inr %[zC0 (by rw[ay nbg];exact hb),0,g,C,dx,0,ai,T.cl,T.nT,(zJ1 (iu _ _ _) (by show 1<1000;decide))|6]];erw[0,0,g,C,dx,0,ai,9,T.nF,(zJ1 (iu _ _ _) (zJ1 (zG1 (iu _ _ _)) (by show 2<1000;decide))),6];let S3:SameBut g H (upd (upd (upd H g (.ins C dx (bY "switches" (.ref a) []))) g (.ins C dx (bY "trees" (.ref b) (bY "switches" (.ref a) [])))) g (.ins C dx (bY "field" (.int p) (bY "trees" (.ref b) (bY "switches" (.ref a) []))))):=
  (SameBut.upd _).trans ((SameBut.upd _).trans (SameBut.upd _))
 let hg3:upd (upd (upd H g (.ins C dx (bY "switches" (.ref a) []))) g (.ins C dx (bY "trees" (.ref b) (bY "switches" (.ref a) [])))) g (.ins C dx (bY "field" (.int p) (bY "trees" (.ref b) (bY "switches" (.ref a) [])))) g=some (.ins C dx (gf3 a b p)):=ai;generalize upd (upd (upd H g (.ins C dx (bY "switches" (.ref a) []))) g (.ins C dx (bY "trees" (.ref b) (bY "switches" (.ref a) [])))) g (.ins C dx (bY "field" (.int p) (bY "trees" (.ref b) (bY "switches" (.ref a) []))))=H3 at S3 hg3;let kT:cF H H3:=λc xs h=>S3 c _ (bu h hg nofun) h
 let ha3:=kT _ _ ha;let hb3:=kT _ _ hb;let TS3:=TS.mono kT;erw[0,g,C,dx,_,0,hg3,9,T.nS,JC ..,a,1,%[_|zC0 ha3],λD hD=>?_];let D0:H D=none:=by
  cases e:H D with
  |none=>rfl
  |some o=>
    by_cases c:D=g
    . rw[c,hg3]at hD;cases hD
    . rw[S3 D o c e]at hD;cases hD
 apply eV (K:=K) (xs:=ns.map V.str) (λi H'=>H' D=some (.lst (((ns.take i).map (aY ts)).map V.int))/\Same H3 H') %[by rw[ai];rfl|zE0 hD _] (λi H' _ h=>zC0 (h.2 _ _ ha3)) ?_ ?_
 . rintro i z H4 hz ⟨hl,S4⟩;let hi:i<(ns.map V.str).length:=(zX0 hz).1;rw[zW0]at hz;let%[x,hx|1]:=qU0 hz;erw[0,0,g,C,dx,_,0,S4 _ _ hg3,9,T.nT,JB ..,x,b,tv,ts,1,S4 _ _ hb3,TS3.mono (aV S4),6,t10,λt ht=>(tok t ht).2,λH5 S5=>?_]
   . intro e;rw[e]at t1;exact absurd t1 ⋯
   erw[_,S5 _ _ hl,6,Nx.of hi %[6|λb' o' e'=>?_]]
   . rw[zF0,zF0,qJ0];exact aO #[0]
   . rw[ai,zZ0,hx,zK0,zK0];rfl
   . rw[ay (aP e' hD)];exact S5 _ _ (S4 _ _ e')
 rintro H4 ⟨hl,S4⟩;rw[zF0,qA0]at hl;erw[0,g,C,dx,0,S4 _ _ hg3,9,T.nD,6,6]
 . exact zJ1 (zQ0 (iu _ _ _) (zG1 (zQ0 (iu _ _ _) (zG1 (iu _ _ _))))) (by show 3<1000;decide)
 let nDg:D≠g:=λz=>by rw[z,hg3]at hD;cases hD
 let hg5:upd H4 g (.ins C dx (gf a b p D)) g=some (.ins C dx (gf a b p D)):=ai;let S5:SameBut g H (upd H4 g (.ins C dx (gf a b p D))):=S3.trans ((zL0 S4).trans (SameBut.upd _));let hD5:upd H4 g (.ins C dx (gf a b p D)) D=some (.lst ((ns.map (aY ts)).map V.int)):=by rw[ay nDg];exact hl
 show _;generalize he5:upd H4 g (.ins C dx (gf a b p D))=H5 at hg5 S5 hD5;let kT5:cF H H5:=λc xs h=>S5 c _ (bu h hg nofun) h
 rw[show upd H4 g (.ins C dx (bY "degrees" (.ref D) (gf3 a b p)))=H5 from he5];erw[0,g,C,dx,_,0,hg5,9,T.nS,pU ..,a,ns,1,kT5 _ _ ha,nd,nl,λH6 S6=>?_];let kT6:cF H H6:=λc xs h=>S6 _ _ (kT5 c xs h)
 erw[0,g,C,dx,_,0,S6 _ _ hg5,9,T.nT,lJ ..,0,g,C,dx,_,0,S6 _ _ hg5,9,T.nS,pU ..,a,b,ns,tv,ts,1,kT6 _ _ ha,kT6 _ _ hb,TS.mono kT6,tok,λH7 S7=>?_];let S57:=S6.trans S7;erw[0,p,1,pp,p2,p9,6];erw[0,0,g,C,dx,_,0,S57 _ _ hg5,9,T.nD,Fa ..,0,g,C,dx,_,0,S57 _ _ hg5,9,T.nT,lJ ..,b,0,.inr (zC0 (S57 _ _ (kT5 _ _ hb))),2,y1S,λl hl2=>?_];let Gl:=zE0 hl2 (.lst [.int ((tv.length:Int)-1)]);erw[D,l,2,Gl _ _ (S57 _ _ hD5),ai,6,λr hr0=>?_]
 . rw[zF0,zF0];exact small (by simp;omega)
 let Gr:=zE0 hr0 (.lst ((ns.map (aY ts)).map V.int++[.int ((tv.length:Int)-1)]));erw[p,r,ns.map (aY ts)++[(tv.length:Int)-1],1,6,by simp,λn hn=>?_,6]
 . rw[ai,zK0];rfl
 . rcases qP0 hn with h | h
   . let%[x,hx|1]:=List.mem_map.mp h;apply oo ?_ λt ht=>tc t ht x hx
     intro e;rw[e]at t1;exact absurd t1 ⋯
   . rw[NK h];omega
 . let S59:=S57.trans (Gl.trans Gr);exact q D _ D0 %[dx|S59 _ _ hg5] (S59 _ _ hD5) (S5.trans (zL0 S59))
instance spInv:∀a p:Int,vs=[.int a,.int p]->Pr p->p<=999983->0<a->a<p->(∀g:Int,0<g->g<p->g*a % p=1->Q (.int g) H):=1
def bn:FnScope ["a","p","former","former_factor","rest","factor","times","lesser","lesser_factor"] ["a","p"] (ao jD):=%[|5]
def sX(F:#["inverse_of",jD]):#[1,f,fd,["a","p"],spInv]:=by
 exists bn
 erw[a,p,1,pr,p1,a0,a1,q]at h;let p2:2<=p:=pr.1;refine⟨_,(ad #[aj,2,bn,pv 1]
  (ad #[aj,3,bn,ag]
  (ad #[aj,4,bn,aq ba (pv 0) (pv 1)]
  (ad #[aj,5,bn,ag]
  (ad (iw zE1 (am nI (pv 4) ag (az _)) (ad #[aj,6,bn,aq zZ (pv 2) (pv 4)]
   (ad #[aj,7,bn,aq bj (pv 2) (aq cg (pv 6) (pv 4))]
   (ad #[aj,8,bn,aq ba (aq bj (pv 3) (aq cg (pv 6) (pv 5))) (pv 1)]
   (ad #[aj,2,bn,pv 4]
   (ad #[aj,3,bn,pv 5]
   (ad #[aj,4,bn,pv 7]
   (af #[aj,5,bn,pv 8]))))))))
  (af (ax (pv 5)))))))),?_⟩
 erw[0,6];erw[0,0,2,(show 0<p by omega),6];erw[λm σ H'=>∃(former ff rest g:Int)(x6 x7 x8:Option V),σ=[some (.int a),some (.int p),some (.int former),some (.int ff),some (.int rest),some (.int g),x6,x7,x8]/\H'=H/\Eu a p former ff rest g/\m=rest.toNat,%[_,_,_,_,_,_,2,xw pr #[0] a0 a1|1],6]
 rintro m σ H' ⟨former,ff,rest,g,x6,x7,x8,rfl,rfl,eu,rfl⟩;erw[0,1,0,6]
 by_cases c:rest=1
 . apply xc (congrArg V.int c) ?_;let%[g0,g1|g2]:=Fg eu c #[0];erw[0,q g g0 g1 g2]
 . apply iteN (λz=>c (V.int.inj z)) ?_;erw[_,λ_ _ h=>h,6];let r0:=eu.r0;let rp:=eu.rp;let f0:=eu.f0;let f1:=eu.f1;let%[nx|lt]:=An eu c;erw[0,0,2,%[r0|3],6];erw[0,0,0,2,.inr %[3|3],2,6];erw[0,0,0,2,.inr %[3|3],2,0,2,(show 0<p by omega),6];erw[0,0,0,0,6];erw[_,lt,_,_,_,_,_,2,nx,1]
def md{p x y:Int}(h:p ∣ x-y):x % p=y % p:=by
 erw[k,hk]at h
 have:x=y+p*k:=#[0]
 rw[this,Int.add_mul_emod_self_left]
def dm(p x:Int):p ∣ x % p-x:=⟨-(x / p),by
 have:=jA1 x p
 rw[Int.mul_neg];omega⟩
def pmd(p:Int)(g:Nat->Int):Nat->Int
 |0=>1
 |k+1=>pmd p g k*g k % p
def nu(p:Int)(g:Nat->Int):∀k,p ∣ pmd p g k-pr g k
 |0=>%[(0)|by simp [pmd,pr]]
 |k+1=>by
   let%[a|ha]:=nu p g k;let%[b|hb]:=dm p (pmd p g k*g k);erw[b+a*g k,by show pmd p g k*g k % p-pr g k*g k=_;grind]
def nq{p:Int}(hp:1<p)(g:Nat->Int):∀k,0<=pmd p g k/\pmd p g k<p
 |0=>%[by show(0:Int)<=1;decide|hp]
 |k+1=>%[qD0 _ #[0]|qH0 _ #[0]]
def prL(p:Int)(g:Nat->Int)(n:Nat):List V:=((List.range n).map (pmd p g)).map V.int
def rA(p:Int)(g:Nat->Int)(n:Nat):prL p g (n+1)=prL p g n++[.int (pmd p g n)]:=by
 unfold prL;rw[zP1,zK0,zK0];rfl
def GE(p:Int)(g:Nat->Int)(n:Nat):(prL p g n).length=n:=by
 unfold prL;rw[zF0,zF0,qO0]
def yV{f:Nat->Int}{n k:Nat}(h:k<n):atI (((List.range n).map f).map V.int) (k:Int)=some (.int (f k)):=by
 apply bK ?_;rw[zW0,zW0,jG1 h];rfl
def yv{n k:Nat}(h:k<n):atI (prL p g n) (k:Int)=some (.int (pmd p g k)):=yV h
instance spProd:∀(a:Addr)(g:Nat->Int)(n:Nat)(p:Int),vs=[.ref a,.int p]->H a=some (.lst (((List.range n).map g).map V.int))->n<=500->1<p->p<2 ^ 40->(∀(l:Addr)(H':Hp),H l=none->Same H H'->H' l=some (.lst (prL p g (n+1)))->Q (.ref l) H'):=1
def ki:FnScope ["numbers","p","told","number"] Wo (ao lU):=%[|5]
def wF(F:#["products",lU]):#[1,f,fd,Wo,spProd]:=by
 exists ki
 erw[a,g,n,p,1,ha,n5,p1,p40,q]at h;refine⟨_,(ad #[aj,2,ki,cq %[ag|ae]]
  (ad (cx zE1 rfl (dU (pv 0)) (aX (i:=3) ki.nd rfl (.inl rfl)) (af (bb (eR zF1 zM1 zN1 cP (pv 2) %[aq ba (aq cg (aN ix_list (pv 2) (tO oA ag) #[1]) (pv 3)) (pv 1)|ae]))))
  (af (ax (pv 2))))),?_⟩
 erw[y1S,λL hL=>?_];let aL:a≠L:=aP ha hL;refine⟨_,rfl,a,rfl,%[_|zG0 ((zE0 hL _) _ _ ha)],gN (K:=K) (xs:=((List.range n).map g).map V.int) (λi σ H'=>∃x3:Option V,σ=[some (.ref a),some (.int p),some (.ref L),x3]/\H' L=some (.lst (prL p g (i+1)))/\SameBut L H H')
  %[0,by rw[ai];rfl|SameBut.upd _] (λi σ H' _ NI=>by erw[_,_,_,h]at NI;exact zG0 (h _ _ aL ha)) ?_ ?_⟩
 . rintro i z σ H1 hz ⟨x3,rfl,hL1,S1⟩;let hi:=(zX0 hz).1;rw[zF0,zF0,qO0]at hi;rw[zW0,zW0,jG1 hi]at hz;obtain rfl:V.int (g i)=z:=zT0 hz;let rg:=nq p1 g i;erw[0,.inl %[1,_|zG0 hL1],6];erw[0,0,L,_,_,.int (pmd p g i),1,1,zG0 hL1,6,0,2,.inl %[3|3],0,2,#[0],L,2,hL1,6,6]
   . rw[rA];exact xK _ _
   . rw[GE];exact aO #[0]
   . erw[0,6,λc o hc e=>?_]
     . rw[ai,rA p g (i+1)];rfl
     . rw[ay hc];exact S1 c o hc e
 . rintro σ H1 ⟨x3,rfl,hL1,S1⟩;rw[zF0,zF0,qO0]at hL1;erw[0,q L H1 hL (λb o e=>S1 b o (aP e hL) e) hL1]
def DB:∀n:Nat,pr (λk=>1+(k:Int)) n=fac n
 |0=>rfl
 |n+1=>by
   show pr (λk=>1+(k:Int)) n*(1+(n:Int))=fac n*((n:Int)+1)
   rw[DB n,vL1]
def CW{p g a t s:Int}{k m:Nat}(hg:g*a % p=1)(p1:1<p)(ha:p ∣ a-fac (k+m))(ht:p ∣ t-pr (λj=>((k+m:Nat):Int)-j) m)(hs:p ∣ s-g*t):p ∣ s*fac k-1:=by
 let f:=xq m k;erw[x,hx]at ha;erw[y,hy]at ht;erw[z,hz]at hs;let%[e|he]:=dm p (g*a);rw[hg]at he;erw[z*fac k+g*y*fac k-g*x-e,by grind]
instance spFacs:∀(L:Nat)(p:Int),vs=[.int (L:Int),.int p]->L<=500->(L:Int)<p->Pr p->p<=999983->(∀(l:Addr)(H':Hp)(sh:Nat->Int),H l=none->Same H H'->(∀k,k<=L->p ∣ sh k*fac k-1)->(∀k,0<=sh k/\sh k<p)->H' l=some (.lst (((List.range (L+1)).map sh).map V.int))->Q (.ref l) H'):=1
def cY:FnScope ["last","p","numbers","whole","told"] ["last","p"] (ao eB):=%[|5]
def kf(F:#["inverse_factorials",eB])(B:Bl mg)(ei:#[1,"products",Wo,spProd])(eN:#[1,"inverse_of",["a","p"],spInv]):#[2,f,fd,["last","p"],spFacs]:=by
 exists cY
 erw[L,p,1,L5,Lp,pp,p9,q]at h;refine⟨_,(ad #[aj,2,cY,yA rfl rfl B.list rfl B.range %[ag,aq aW (pv 0) ag|ae]]
  (ad (aj (i:=3) cY.nd rfl (Or.inr rfl) (aD eN hr ⋯ rfl %[aN ix_list (aD ei hr ⋯ rfl %[2,1|ae]) (tO oA ag) #[1],1|ae]))
  (ad (aj (i:=4) cY.nd rfl (Or.inr rfl) (aD ei hr ⋯ rfl (aa (cH (N:=["last"]) (ix:=[0]) rfl
   #[3] rfl
   (bJ rfl B.range %[0|ae]) (λ_ _ _=>cE (aq bj (pv 1) (pv 0)))) %[1|ae])))
  (af (ax (cH (N:=["whole","told","p","last"]) (ix:=[3,4,1,0]) rfl
   (CompScope.four (by rfl') ⋯ rfl ⋯ rfl ⋯ rfl (by rfl') (by rfl') (by rfl') (by rfl') (by rfl') (by rfl') rfl rfl (by rfl') rfl rfl (by rfl') rfl rfl (by rfl') rfl rfl) rfl
   (bJ rfl B.range %[aq aW (pv 0) ag|ae]) (λ_ _ _=>cE (aq ba (aq cg (pv 1) (aN (xa K) (pv 2) (aq bj (pv 4) (pv 0)) #[1])) (pv 3))))))))),?_⟩
 let p2:=pp.1;let hP:=rD pp #[0];erw[0,2,(1),0,%[4,4,3|3],3,λa ha=>?_];let e1:vg 1 ((L:Int)+1-1).toNat=(List.range L).map λk:Nat=>1+(k:Int):=by
  unfold vg;rw[show((L:Int)+1-1).toNat=L by omega]
 rw [e1];let Ga:=zE0 ha (.lst (((List.range L).map λk:Nat=>1+(k:Int)).map V.int));erw[0,0,a,_,L,p,1,ai,L5,3,3,λl H2 l0 S2 hl2=>?_];let rg:=nq (show 1<p by omega) (λk:Nat=>1+(k:Int)) L;let dv:=nu p (λk:Nat=>1+(k:Int)) L;rw[DB]at dv;let ne0:pmd p (λk:Nat=>1+(k:Int)) L≠0:=λz=>by
  rw[z]at dv;erw[m,hm]at dv;exact vR hP L Lp %[-m|by rw[Int.mul_neg];omega]
 erw[0,l,_,_,.int (pmd p (λk:Nat=>1+(k:Int)) L),1,1,zG0 hl2,by rw[rA];exact xK _ _,0,_,p,1,pp,p9,3,rg.2,λg g0 g1 hg=>?_];let SH2:=Ga.trans S2;erw[0,0,3,3,λD hD=>?_];apply dO (λi H'=>H' D=some (.lst (((List.range i).map λj:Nat=>(L:Int)-j).map V.int))/\Same H2 H') %[by rw[ai];rfl|zE0 hD _] ?_ ?_
 . rintro i H3 hi ⟨hD3,S3⟩;erw[0,0,2,_,hD3,6,Nx.of hi %[6|λb o e=>?_]]
   . rw[zF0,zF0,qO0];exact aO #[0]
   . rw[ai,zP1,zK0,zK0,qX1];rfl
   . rw[ay (aP e hD)];exact S3 _ _ e
 rintro H3 ⟨hD3,S3⟩;rw[show((L:Int)).toNat=L from qS0 L]at hD3;erw[0,D,_,L,p,1,hD3,L5,3,3,λt H4 t0 S4 ht4=>?_];erw[0,2,0,3,3,λD2 hD2=>?_];apply dO (λi H'=>H' D2=some (.lst (((List.range i).map λk:Nat=>g*pmd p (λj:Nat=>(L:Int)-j) (L-k) % p).map V.int))/\Same H4 H') %[by rw[ai];rfl|zE0 hD2 _] ?_ ?_
 . rintro i H5 hi ⟨hD5,S5⟩;let hi':i<L+1:=#[0]
   let rg2:=nq (show 1<p by omega) (λj:Nat=>(L:Int)-j) (L-i);let e2:(L:Int)-(0+(i:Int))=((L-i:Nat):Int):=#[0]
   erw[0,0,0,0,2,t,_,_,.int (pmd p (λj:Nat=>(L:Int)-j) (L-i)),1,1,zG0 (S5 _ _ ht4),by rw[e2];exact yv #[0],2,.inl %[3|3],0,2,#[0],_,hD5,6,Nx.of hi ⟨?_,λb o e=>?_⟩]
   . rw[zF0,zF0,qO0];exact aO #[0]
   . rw[ai,zP1,zK0,zK0];rfl
   . rw[ay (aP e hD2)];exact S5 _ _ e
 rintro H5 ⟨hD5,S5⟩;rw[show((L:Int)+1).toNat=L+1 by omega]at hD5;let S05:=SH2.trans (S3.trans (S4.trans S5));apply q D2 H5 (λk=>g*pmd p (λj:Nat=>(L:Int)-j) (L-k) % p) ((SH2.trans (S3.trans S4)).free hD2) S05 (λk hk=>?_) (λk=>%[qD0 _ #[0]|qH0 _ #[0]]) hD5;obtain⟨m,rfl⟩:∃m,L=k+m:=⟨L-k,#[0]⟩
 rw[show k+m-k=m by omega];exact CW hg #[0] dv (nu p _ m) (dm p _)
def wt(p:Int)(n i:Nat):Int:=(px (i:Int) i n % p) ^ (p-2).toNat
def uA(hp:Pm p){n:Nat}(hn:(n:Int)<=p):Wgt p n (wt p n):=λi hi=>by
 let h1:=Jd hp hn hi;let%[k|hk]:=dm p (px (i:Int) i n);let h2:¬ p ∣ px (i:Int) i n % p:=fun⟨m,hm⟩=>h1 %[m-k|by grind]
 let%[m|hm]:=JG hp h2 (qD0 _ (by have:=hp.1;omega));erw[m-k*(px (i:Int) i n % p) ^ (p-2).toNat,by unfold wt;grind]
def val(p:Int)(xs:List Int)(r:Int):Int:=lag (λi=>xs.getD i 0) (wt p xs.length) xs.length r % p
def IH{t:Int}{xs:List Int}(hp:Pm p)(hn:(xs.length:Int)<=p)(hu:Wgt p xs.length u)(t0:0<=t)(t1:t<p)(h:p ∣ t-lag (λi=>xs.getD i 0) u xs.length r):t=val p xs r:=by
 let e:p ∣ t-lag (λi=>xs.getD i 0) (wt p xs.length) xs.length r:=by
  have:=EL hp hn (v:=λi=>xs.getD i 0) hu (uA hp hn) r
  let z:=wT1 h this;let e2:t-lag (λi=>xs.getD i 0) u xs.length r+(lag (λi=>xs.getD i 0) u xs.length r-lag (λi=>xs.getD i 0) (wt p xs.length) xs.length r)=t-lag (λi=>xs.getD i 0) (wt p xs.length) xs.length r:=#[0]
  rw[e2]at z;exact z
 have:=md e
 rw[qL0 t0 t1]at this;exact this
def uB{p:Int}(hp:1<p)(xs:List Int)(r:Int):0<=val p xs r/\val p xs r<p:=%[qD0 _ #[0]|qH0 _ #[0]]
def jq{xs:List Int}{k:Nat}(hp:Pm p)(hn:(xs.length:Int)<=p)(hk:k<xs.length):val p xs k=xs.getD k 0 % p:=md (mh (uA hp hn) hk)
def sgn(m:Nat):(-1:Int) ^ m=if m % 2=1 then -1 else 1:=by
 induction m with
 |zero=>rfl
 |succ m ih=>
   rw[qN1,ih]
   by_cases c:m % 2=1
   . rw[NE c,ND #[0]];rfl
   . rw[ND c,NE #[0]];rfl
def FU{p r v t s a b c d e:Int}{m:Nat}{x y:Int}(ht:p ∣ t-s)(ha:p ∣ a-pr (λj=>r-j) i)(hb:p ∣ b-pr (λj=>r-(i+m:Nat)+j) m)(hc:p ∣ c-v*a*b)(hd:p ∣ d-x*y)(he:p ∣ e-(t+(if m % 2=1 then -(c*d)else c*d))):
 p ∣ e-(s+v*px r i (i+m+1)*((-1) ^ m*(x*y))):=by
 rw[show i+m+1=i+1+m by omega,re,sgn];rw[zT]at hb;generalize pr (λj=>r-j) i=A at *
 generalize pr (λj=>r-(i+1+j:Nat)) m=B at *
 erw[t',ht]at ht;erw[a',ha]at ha;erw[b',hb]at hb;erw[c',hc]at hc;erw[d',hd]at hd;erw[e',he]at he;let e1:c*d-v*(A*B)*(x*y)=p*(c'*d+v*(a'*b+A*b')*d+v*A*B*d'):=by grind
 by_cases z:m % 2=1
 . rw [NE z]at *
   erw[e'+t'-(c'*d+v*(a'*b+A*b')*d+v*A*B*d'),by grind]
 . rw [ND z]at *
   erw[e'+t'+(c'*d+v*(a'*b+A*b')*d+v*A*B*d'),by grind]
def IntsAt(H:Hp)(a:Addr)(xs:List Int):Prop:=H a=some (.lst (xs.map V.int))∨H a=some (.tup (xs.map V.int))
def IntsAt.same(h:IntsAt H a xs)(s:Same H H'):IntsAt H' a xs:=h.elim (λe=>.inl (s _ _ e)) (λe=>.inr (s _ _ e))
def IntsAt.seq{K:W.Frag}(h:IntsAt H a xs):SqL K H a (xs.map V.int)∨SqT K H a (xs.map V.int):=h.elim (λe=>.inl (zG0 e)) (λe=>.inr (zC0 e))
def IntsAt.ix{K:W.Frag}{k:Nat}{Q:VK}(h:IntsAt H a xs)(hk:k<xs.length)(q:Q (.int (xs.getD k 0)) H):rIxL K (.ref a) (.int (k:Int)) H Q∨rIxT K (.ref a) (.int (k:Int)) H Q:=by
 let e:atI (xs.map V.int) (k:Int)=some (.int (xs.getD k 0)):=bK (by rw[zW0,zM0 hk,qG0,zM0 hk];rfl);rcases h with h | h
 . exact .inl %[a,_,2,zG0 h,e|q]
 . exact .inr %[a,_,2,zC0 h,e|q]
def jZ(xs:List Int)(p:Int):Prop:=1<=xs.length/\xs.length<=500/\(xs.length:Int)<=p/\∀k,0<=xs.getD k 0/\xs.getD k 0<2 ^ 40
instance spVal:∀(a:Addr)(xs:List Int)(r p:Int),vs=[.ref a,.int r,.int p]->IntsAt H a xs->jZ xs p->Pr p->p<=999983->0<=r->r<p->(∀H',Same H H'->Q (.int (val p xs r)) H'):=1
def bm:FnScope ["values","r","p","last","ahead","behind","shares","total","place","share","part"] WH (ao im):=%[|5]
def qc(F:#["value_behind",im])(B:Bl mg)(ei:#[1,"products",Wo,spProd])(e7:#[2,"inverse_factorials",["last","p"],spFacs]):#[3,f,fd,WH,spVal]:=by
 exists bm
 erw[a,xs,r,p,1,ha,%[x1,x5,xp|xb],pp,p9,r0,r1,q]at h;refine⟨_,(ad (aj (i:=3) bm.nd rfl (Or.inr rfl) (aq bj (aJ aG rfl B.len zD1 %[0|ae]) ag))
  (ad (aj (i:=4) bm.nd rfl (.inl rfl) (aD ei hr ⋯ rfl (aa (cH (N:=["r"]) (ix:=[1]) rfl
   #[3] rfl
   (bJ rfl B.range %[3|ae]) (λ_ _ _=>cE (aq bj (pv 1) (pv 0)))) %[2|ae])))
  (ad (aj (i:=5) bm.nd rfl (.inl rfl) (aD ei hr ⋯ rfl (aa (cH (N:=["r","last"]) (ix:=[1,3]) rfl
   #[4] rfl
   (bJ rfl B.range %[3|ae]) (λ_ _ _=>cE (aq aW (aq bj (pv 1) (pv 2)) (pv 0)))) %[2|ae])))
  (ad #[aj,6,bm,aD e7 hr ⋯ rfl %[3,2|ae]]
  (ad #[aj,7,bm,ag]
  (ad (cx zE1 rfl (bJ rfl B.range %[aq aW (pv 3) ag|ae]) (aX (i:=8) bm.nd rfl (.inl rfl)) (ad #[aj,9,bm,aq ba (aq cg (aN ix_list (pv 6) (pv 8) #[1]) (aN ix_list (pv 6) (aq bj (pv 3) (pv 8)) #[1])) (pv 2)]
   (ad #[aj,10,bm,aq cg (aq ba (aq cg (aq cg (aN (ix_list.or ix_tup) (pv 0) (pv 8) #[1]) (aN ix_list (pv 4) (pv 8) #[1])) (aN ix_list (pv 5) (aq bj (pv 3) (pv 8)) #[1])) (pv 2)) (pv 9)]
   (ad (aM (am aS (aq ba (aq bj (pv 3) (pv 8)) ag) ag (az _)) (af #[aj,10,bm,tO oA (pv 10)]) aE)
   (af #[aj,7,bm,aq ba (aq aW (pv 7) (pv 10)) (pv 2)])))))
  (af (ax (pv 7))))))))),?_⟩
 let p2:=pp.1;let p1:1<p:=#[0]
 let p0:0<p:=#[0]
 let hP:=rD pp #[0];obtain⟨L,hL⟩:∃L,xs.length=L+1:=%[xs.length-1|3]
 let eL:(((xs.map V.int).length:Nat):Int)-1=(L:Int):=by rw[zF0];omega
 erw[0,a,0,ha.seq,2,6]
 dsimp only
 rw[eL];erw[0,(L:Int),1,3,3,λD hD=>?_];apply dO (λi H'=>H' D=some (.lst (((List.range i).map λj:Nat=>r-j).map V.int))/\Same H H') %[by rw[ai];rfl|zE0 hD _] ?_ ?_
 . rintro i H3 hi ⟨hD3,S3⟩;erw[0,0,2,_,hD3,6,Nx.of hi %[6|λb o e=>?_]]
   . rw[zF0,zF0,qO0];exact aO #[0]
   . rw[ai,zP1,zK0,zK0,qX1];rfl
   . rw[ay (aP e hD)];exact S3 _ _ e
 rintro H1 ⟨hD1,S1⟩;rw[show((L:Int)).toNat=L from qS0 L]at hD1;erw[0,D,_,L,p,1,hD1,3,p1,3,λla H2 la0 S2 hla=>?_];erw[0,(L:Int),1,3,3,λD2 hD2=>?_];apply dO (λi H'=>H' D2=some (.lst (((List.range i).map λj:Nat=>r-(L:Int)+j).map V.int))/\Same H2 H') %[by rw[ai];rfl|zE0 hD2 _] ?_ ?_
 . rintro i H3 hi ⟨hD3,S3⟩;erw[0,0,2,0,2,_,hD3,6,Nx.of hi %[6|λb o e=>?_]]
   . rw[zF0,zF0,qO0];exact aO #[0]
   . rw[ai,zP1,zK0,zK0,qX1];rfl
   . rw[ay (aP e hD2)];exact S3 _ _ e
 rintro H3 ⟨hD3,S3⟩;rw[show((L:Int)).toNat=L from qS0 L]at hD3;erw[0,D2,_,L,p,1,hD3,3,p1,3,λlb H4 lb0 S4 hlb=>?_];erw[0,0,L,p,1,3,3,pp,p9,λls H5 sh ls0 S5 hsh hsr hls=>?_];let S25:=S3.trans (S4.trans S5);let S05:=S1.trans (S2.trans S25);let hla5:=S25 _ _ hla;let hlb5:=S5 _ _ hlb;let ha5:=ha.same S05;let hW:=FR hsh;refine⟨_,rfl,_,_,rfl,rfl,_,rfl,#[0],#[0],dH (λi σ H'=>∃(t:Int)(x8 x9 x10:Option V),σ=[some (.ref a),some (.int r),some (.int p),some (.int L),some (.ref la),some (.ref lb),some (.ref ls),some (.int t),x8,x9,x10]/\0<=t/\t<p/\p ∣ t-sm (λi=>xs.getD i 0*px r i (L+1)*((-1) ^ (L-i)*(sh i*sh (L-i)))) i/\H'=H5)
  %[(0),_,_,0,4,p0,%[(0)|by simp [sm]]|1] ?_ ?_⟩
 . rintro i σ H6 hi ⟨t,x8,x9,x10,rfl,t0,t1,td,rfl⟩;let hi':i<L+1:=#[0]
   obtain⟨m,hm⟩:∃m,L=i+m:=%[L-i|3]
   let e0:(0:Int)+(i:Int)=(i:Int):=qX1 _;let e1:(L:Int)-(0+(i:Int))=(m:Int):=#[0]
   let r1':=hsr i;let r2':=hsr m;let ar:=nq p1 (λj:Nat=>r-j) i;let br:=nq p1 (λj:Nat=>r-(L:Int)+j) m;let xi:=xb i;let m1:∀z:Int,0<=z % p:=λz=>qD0 _ #[0]
   let m2:∀z:Int,z % p<p:=λz=>qH0 _ p0
   erw[0,0,ls,_,_,.int (sh i),1,1,zG0 hls,by rw[e0];exact yV hi',0,0,0,2,ls,_,_,.int (sh m),1,1,zG0 hls,by rw[e1];exact yV #[0],2,.inl %[3|3],0,2,p0,6];erw[0,0,6];rw[e0];apply ha5.ix #[0] ?_;erw[0,0,la,_,_,.int (pmd p (λj:Nat=>r-j) i),1,1,zG0 hla5,yv hi',2,.inl %[3|3],6];erw[0,0,0,2,lb,_,_,.int (pmd p (λj:Nat=>r-(L:Int)+j) m),1,1,zG0 hlb5,by rw[←e0,e1];exact yv #[0],2,.inr %[3|3],0,2,p0,6];let s1:=m1 (sh i*sh m);let s2:=m2 (sh i*sh m);erw[0,2,.inr %[3|3],6];erw[0,0,2,2,(by show(0:Int)<_;decide),1,0,6];let fin:∀z:Int,z=(if m % 2=1 then -(xs.getD i 0*pmd p (λj:Nat=>r-j) i*pmd p (λj:Nat=>r-(L:Int)+j) m % p*(sh i*sh m % p))else xs.getD i 0*pmd p (λj:Nat=>r-j) i*pmd p (λj:Nat=>r-(L:Int)+j) m % p*(sh i*sh m % p)) ->
    p ∣ (t+z) % p-sm (λi=>xs.getD i 0*px r i (L+1)*((-1) ^ (L-i)*(sh i*sh (L-i)))) (i+1):=λz hz=>by
    show p ∣ _-(sm _ i+xs.getD i 0*px r i (L+1)*((-1) ^ (L-i)*(sh i*sh (L-i))))
    let em:L-i=m:=#[0]
    let hb:p ∣ pmd p (λj:Nat=>r-(L:Int)+j) m-pr (λj=>r-(i+m:Nat)+j) m:=by
     rw[←hm];exact nu p _ m
    subst hz;rw[em];let el:L+1=i+m+1:=#[0]
    rw[el]at td ⊢;exact FU td (nu p _ i) hb (dm p _) (dm p _) (dm p _)
   by_cases c:m % 2=1
   . apply bd (congrArg V.int #[0]) ?_;erw[0,0,6];erw[0,0,2,0,2,p0,6];erw[_,_,_,0,m1 _,m2 _,fin _ (by rw[NE c]),1]
   . apply aF (λz=>c (by have:=V.int.inj z;omega)) ?_;erw[0,0,2,0,2,p0,6];erw[_,_,_,0,m1 _,m2 _,fin _ (by rw[ND c]),1]
 . rintro σ H6 ⟨t,x8,x9,x10,rfl,t0,t1,td,rfl⟩;rw[show((L:Int)+1).toNat=L+1 by omega]at td;rw[←hL]at hW;let e:=IH (r:=r) hP xp hW t0 t1 (by
    unfold lag;rw[hL];exact td)
   rw[e];erw[0,q H6 S05]
def u4:FnScope ["values","r","p","place"] WH (ao lS):=%[|5]
def wD(F:#["value_at",lS])(B:Bl mg)(gQ:#[3,"value_behind",WH,spVal]):#[4,f,fd,WH,spVal]:=by
 exists u4
 erw[a,xs,r,p,1,ha,ok,pp,p9,r0,r1,q]at h;refine⟨_,(ad #[aj,3,u4,aq ba (pv 1) (pv 2)]
  (ad (aM (am gJ (pv 3) (aJ aG rfl B.len zD1 %[0|ae]) (az _)) (af (ax (aq ba (aN (ix_list.or ix_tup) (pv 0) (pv 3) #[1]) (pv 2)))) aE)
  (af (ax (aD gQ hr ⋯ rfl %[0,3,2|ae]))))),?_⟩
 let p0:0<p:=#[0]
 let hP:=rD pp #[0];let er:r % p=r:=qL0 r0 r1;erw[0,0,2,p0,6]
 dsimp only
 rw[er];erw[0,0,a,0,ha.seq,2,0,6];apply vN (λc=>?_) (λc=>?_)
 . let c':=zU1 c;rw[zF0]at c';obtain⟨k,rfl⟩:∃k:Nat,r=(k:Int):=%[r.toNat|3]
   erw[0,0,6];apply ha.ix #[0] ?_;erw[0,2,p0,6];show Q (.int (xs.getD k 0 % p)) H;rw[←jq hP ok.2.2.1 #[0]];exact q H (Same.refl _)
 . erw[0,0,0,a,xs,r,p,1,ha,ok,pp,p9,r0,r1,q]
instance spEnds:∀(a:Addr)(xs:List Int)(p:Int),vs=[.ref a,.int p]->IntsAt H a xs->jZ xs p->Pr p->p<=999983->(∀H',Same H H'->Q (.int ((val p xs 0+val p xs 1) % p)) H'):=1
def uL:FnScope ["values","p"] ["values","p"] (ao kD):=%[|5]
def vC(F:#["both_ends",kD])(b6:#[4,"value_at",WH,spVal]):#[5,f,fd,["values","p"],spEnds]:=by
 exists uL
 erw[a,xs,p,1,ha,ok,pp,p9,q]at h;erw[_,(af (ax (aq ba (aq aW (aD b6 hr ⋯ rfl %[0,ag,1|ae]) (aD b6 hr ⋯ rfl %[0,ag,1|ae])) (pv 1)))),6];let p2:=pp.1;erw[0,0,a,xs,(0),p,1,ha,ok,pp,p9,4,3,λH1 S1=>?_];erw[0,0,a,xs,(1),p,1,ha.same S1,ok,pp,p9,4,3,λH2 S2=>?_];erw[2,0,2,#[0],q H2 (S1.trans S2)]
def IntsAt.sqB{K:W.Frag}(h:IntsAt H a xs):∃c,SqB K c H a (xs.map V.int):=h.elim (λe=>%[true|zG0 e]) (λe=>%[false|zC0 e])
def hor(s p:Int):List Int->Int
 | []=>0
 |a::r=>(hor s p r*s+a) % p
def og{p:Int}(hp:0<p):∀ns,0<=hor s p ns/\hor s p ns<p
 | []=>%[qB1 0|hp]
 |a::r=>%[qD0 _ #[0]|qH0 _ hp]
instance spMix(C:Addr):∀(g a b d l:Addr)(ns:List Int)(s p:Int),vs=[.ref g,.ref l,.int s]->GameAt C H g a b d p->0<p->p<2 ^ 40->IntsAt H l ns->Q (.int (hor s p ns)) H:=1
def tu:FnScope ["self","numbers","s","total","number"] WL (ao yp):=%[|5]
def Hb(F:#["mix","Game.mix",yp])(T:GTxt K mg C)(hrev:mg "reversed"=none):#[1,f,fd,WL,spMix C]:=by
 exists tu
 erw[g,a,b,d,l,ns,s,p,1,%[dx|hg],p0,p40,hl,q]at h;refine⟨_,(ad #[aj,3,tu,ag]
  (ad (cx zE1 rfl (GK rfl hrev (pv 1)) (aX (i:=4) tu.nd rfl (.inl rfl)) (af #[aj,3,tu,aq ba (aq aW (aq cg (pv 3) (pv 2)) (pv 4)) (aB (pv 0) rfl)]))
  (af (ax (pv 3))))),?_⟩
 let%[c|hl]:=hl.sqB (K:=K);refine⟨_,rfl,c,l,_,rfl,hl,Fc (K:=K) (c:=c) (xs:=ns.map V.int) (λi σ H'=>∃(x4:Option V)(t:Int),σ=[some (.ref g),some (.ref l),some (.int s),some (.int t),x4]/\t=hor s p (ns.drop (ns.length-i))/\H'=H)
  %[_,(0),1,by rw[wF1,List.drop_length];rfl|1] (λi σ H' _ NI=>by erw[_,_,_,_,h]at NI;subst h;exact hl) ?_ ?_⟩
 . rintro i z σ H1 hi hz ⟨x4,t,rfl,rfl,rfl⟩;rw[zF0]at hi;rw[←List.map_reverse,zW0]at hz;let%[x,hx|1]:=qU0 hz;rw[jM1 hi]at hx;let hr2:=og (s:=s) p0 (ns.drop (ns.length-i));erw[0,0,2,.inl %[3|3],0,2,0,g,C,dx,_,0,hg,T.cl,T.nF,hU ..,2,p0,6];erw[_,0,6,1];let hj:ns.length-1-i<ns.length:=#[0]
   let ed:ns.drop (ns.length-(i+1))=x::ns.drop (ns.length-i):=by
    let e1:ns.length-(i+1)=ns.length-1-i:=#[0]
    let e2:ns.length-i=ns.length-1-i+1:=#[0]
    rw[e1,e2,qQ1 hj]
    congr 1
    rw[zM0 hj]at hx;exact zT0 hx
   rw[ed];rfl
 . rintro σ H1 ⟨x4,t,rfl,rfl,rfl⟩;rw[zF0,wZ0,jI0];erw[0,q]
instance spWAt(C:Addr):∀(g a b d r:Addr)(ns:List Str)(tv:List V)(ts:List Tr)(pt:List Int)(s p:Int),vs=[.ref g,.ref r,.int s]->GameAt C H g a b d p->1<p->p<2 ^ 40->H a=some (.tup (ns.map V.str))->H b=some (.tup tv)->TreesAt H tv ts->ts.length<=10->(∀t∈ts,t.ok ns/\t.depth<=10)->H r=some (.tup (pt.map V.int))->pt.length=ns.length->bL pt p->(∀H',Same H H'->Q (.int (hor s p (ts.map λt=>t.worth ns pt p))) H'):=1
def AW:FnScope WO WO (ao qV):=%[|5]
def Bt(F:#["worth_at","Game.worth_at",qV])(T:GTxt K mg C)(mM:Meth K C "mix" fm)(GM:#[1,fm,fdm,WL,spMix C])(bM:Binds K fdm WL [])(fK:#[12,"worth_of",WU,spWorth 10]):#[13,f,fd,WO,spWAt C]:=by
 exists AW
 erw[g,a,b,d,r,ns,tv,ts,pt,s,p,1,%[dx|hg],p1,p40,ha,hb,TS,t10,tok,hr0,pl,po,q]at h;let NO:Room 1 _:=hr.mono ⋯;refine⟨_,(af (ax (bZ (pv 0) T.cl mM GM NO bM .nil bh (aa (cH (N:=["self","point"]) (ix:=[0,1]) rfl
  #[4] rfl
  (fo (aB (pv 0) rfl)) (λ_ _ _=>cE (aD fK hr ⋯ rfl %[0,ld K (pv 1),2,ld K (pv 1)|ae]))) %[2|ae])))),?_⟩
 let vl:=TS.length;erw[0,g,dx,0,hg,oi _ _ _ _ ⋯ ⋯ ⋯ ⋯,6];erw[0,g,C,dx,_,0,hg,9,T.nT,lJ ..,b,1,%[_|zC0 hb],λD hD=>?_];apply eV (K:=K) (xs:=tv) (λi H'=>H' D=some (.lst (((ts.take i).map λt=>t.worth ns pt p).map V.int))/\Same H H') %[by rw[ai];rfl|zE0 hD _] (λi H' _ h=>zC0 (h.2 _ _ hb)) ?_ ?_
 . rintro i z H2 hz ⟨hl,S2⟩;let%[t,ht|Tt]:=TS.get hz;let%[tk|td]:=tok t (qC0 ht);let hi:i<tv.length:=(zX0 hz).1;erw[0,0,g,C,dx,_,0,S2 _ _ hg,9,T.nS,pU ..,0,0,g,C,dx,_,0,S2 _ _ hg,9,T.nF,hU ..,z,t,a,r,ns,pt,p,1,Tt.mono (aV S2),tk,td,.inr (S2 _ _ ha),S2 _ _ hr0,pl,p1,p40,po,6];erw[_,hl,6,Nx.of hi %[6|λb' o' e'=>?_]]
   . rw[zF0,zF0,qJ0];exact aO #[0]
   . rw[ai,zZ0,ht,zK0,zK0];rfl
   . rw[ay (aP e' hD)];exact S2 _ _ e'
 . rintro H2 ⟨hl,S2⟩;rw[vl,qA0]at hl;erw[0,g,a,b,d,D,_,s,p,1,%[dx|S2 _ _ hg],3,p40,.inl hl,q H2 S2]
instance spCoins(C:Addr):∀(g a b d:Addr)(ns:List Str)(tv:List V)(p:Int),vs=[.ref g]->GameAt C H g a b d p->H a=some (.tup (ns.map V.str))->H b=some (.tup tv)->Q (.int (if tv.length=1 then(ns.length:Int)else(ns.length:Int)+1)) H:=1
def AX:FnScope WA WA (ao qW):=%[|5]
def Bu(F:#["coins","Game.coins",qW])(T:GTxt K mg C)(hlen:mg "len"=none):#[1,f,fd,WA,spCoins C]:=by
 exists AX
 erw[g,a,b,d,ns,tv,p,1,%[dx|hg],ha,hb,q]at h;refine⟨_,(ad (aM (am aS (aJ aG rfl hlen zD1 %[aB (pv 0) rfl|ae]) ag (az _)) (af (ax (aJ aG rfl hlen zD1 %[aB (pv 0) rfl|ae]))) aE)
  (af (ax (aq aW (aJ aG rfl hlen zD1 %[aB (pv 0) rfl|ae]) ag)))),?_⟩
 erw[0,g,C,dx,_,0,hg,9,T.nT,lJ ..,b,0,.inr (zC0 hb),1,0,6]
 by_cases c:V.int (tv.length:Int)=V.int 1
 . apply bd c ?_;let c':tv.length=1:=by have:=V.int.inj c;omega
   rw[NE c']at q;erw[0,g,C,dx,_,0,hg,9,T.nS,pU ..,a,0,.inr (zC0 ha),6];rw[zF0];exact q
 . apply aF c ?_;let c':¬ tv.length=1:=λz=>c (by rw[z];rfl)
   rw[ND c']at q;erw[0,g,C,dx,_,0,hg,9,T.nS,pU ..,a,0,.inr (zC0 ha),6];rw[zF0];erw[2,q]
instance spSize(n:Nat):∀(v:V)(t:Tr),vs=[v]->TreeAt H v t->t.wf->t.depth<=n->t.size<=400->(∀H',Same H H'->Q (.int t.size) H'):=1
def yc(ts:List Tr):(ts.map λu=>(u.size:Int)).sum=(iQ ts:Int):=by
 induction ts with
 |nil=>rfl
 |cons a r ih=>
   simp only[iQ,qE0,zX1]at ih ⊢;rw[ih];omega
def yf:FnScope WB WB (ao kW):=%[|5]
def AS{n:Nat}(F:#["size_of",kW])(B:Bl mg)(a7:#[1,"trees_within",WB,spWithin])(ic:#[n+2,"size_of",WB,spSize n]):#[n+3,f,fd,WB,spSize (n+1)]:=by
 exists yf
 erw[v,t,1,T,wf,dn,sz,q]at h;refine⟨_,(af (ax (aq aW ag (aJ (sJ rfl) rfl B.sum wG1 (aa (cH (N:=[]) (ix:=[]) (cl:=[]) rfl #[5] rfl
  (fo (aD a7 hr #[0] rfl %[0|ae])) (λ_ _ _=>cE (aD ic hr (zH0 _) rfl %[0|ae]))) ae))))),?_⟩
 erw[0,v,t,1,T,wf,λp xs H1 S1 hp TS=>?_];erw[p,1,%[_|zC0 hp],λD hD=>?_];let pD:p≠D:=aP hp hD;let xl:=TS.length;let sp:=t.size_parts;apply eV (K:=K) (xs:=xs) (λi H'=>H' D=some (.lst (((t.parts.take i).map λu=>(u.size:Int)).map V.int))/\Same H1 H') %[by rw[ai];rfl|zE0 hD _] (λi H' _ h=>zC0 (h.2 _ _ hp)) ?_ ?_
 . rintro i x H2 hx ⟨hl,S2⟩;let%[u,hu|Tu]:=TS.get hx;let um:=qC0 hu;let%[uw,ud|us]:=Tr.parts_mem um wf;let hi:i<xs.length:=(zX0 hx).1;erw[0,x,u,1,Tu.mono (aV S2),uw,3,3,λH3 S3=>?_];erw[_,S3 _ _ hl,6,Nx.of hi %[6|λb o e=>?_]]
   . have:t.parts.length<=2:=by cases t <;> simp [Tr.parts]
     rw[zF0,zF0,qJ0];exact aO #[0]
   . rw[ai,zZ0,hu,zK0,zK0];rfl
   . rw[ay (aP e hD)];exact S3 _ _ (S2 _ _ e)
 . rintro H2 ⟨hl,S2⟩;rw[xl,qA0]at hl;let sc:=yc t.parts;erw[D,0,zG0 hl,6,6,6]
   . intro n hn;let%[u,_|1]:=List.mem_map.mp hn;omega
   . rw[sc];omega
   . rw [sc];erw[2,6];let e:(1:Int)+(iQ t.parts:Int)=(t.size:Int):=#[0]
     show Q (.int (1+(iQ t.parts:Int))) H2;rw[e];exact q H2 (S1.trans S2)
def AR:#[2,f,fd,WB,spSize 0]:=by
 let no:∀vs H Q E,¬ spSize 0 vs H Q E:=λvs H Q E h=>by
  erw[v,t,_,_,_,h1,_]at h
  have:=t.depth_pos
  omega
 exists 3
def rP(F:#["size_of",kW])(B:Bl mg)(m:mg "size_of"=some (.ref f))(a7:#[1,"trees_within",WB,spWithin]):
 ∀n:Nat,#[n+2,f,fd,WB,spSize n]
 |0=>AR
 |n+1=>AS F B a7 (Cal.of F (rP F B m a7 n) m (λ_ _ _ _ _ _ us hl=>by let%[u0|1]:=Hx hl;rfl))
example:=[va,dC 0,qX,dC 1,yr,dC 2,vb,dC 4,uZ,dC 5,oP,dC 6,qZ,dC 7,yq,dC 8,Dm,dC 9,qY,dC 10]
def dl(g aA aC:Addr)(s:Int)(aH aT:Addr)(ed pl:Int):List (Str×V):=[("game",.ref g),("awaited",.ref aA),("claims",.ref aC),("s",.int s),("heard",.ref aH),("tossed",.ref aT),("held",.int ed),("places",.int pl)]
section
variable {g aA aC aH aT:Addr}{s ed pl:Int}
def je:(dl g aA aC s aH aT ed pl).lookup ("game":Str)=some (.ref g):=by rfl'
def Fl:(dl g aA aC s aH aT ed pl).lookup ("awaited":Str)=some (.ref aA):=by rfl'
def JP:(dl g aA aC s aH aT ed pl).lookup ("claims":Str)=some (.ref aC):=by rfl'
def JL:(dl g aA aC s aH aT ed pl).lookup ("s":Str)=some (.int s):=by rfl'
def JO:(dl g aA aC s aH aT ed pl).lookup ("heard":Str)=some (.ref aH):=by rfl'
def zu:(dl g aA aC s aH aT ed pl).lookup ("tossed":Str)=some (.ref aT):=by rfl'
def Ar:(dl g aA aC s aH aT ed pl).lookup ("held":Str)=some (.int ed):=by rfl'
def Aq:(dl g aA aC s aH aT ed pl).lookup ("places":Str)=some (.int pl):=by rfl'
def pW:(dl g aA aC s aH aT ed pl).lookup ("waits":Str)=none:=by rfl'
def dl_n2:(dl g aA aC s aH aT ed pl).lookup ("due":Str)=none:=by rfl'
def dl_n4:(dl g aA aC s aH aT ed pl).lookup ("hear":Str)=none:=by rfl'
def Iw:(dl g aA aC s aH aT ed pl).lookup ("toss":Str)=none:=by rfl'
def dl_n6:(dl g aA aC s aH aT ed pl).lookup ("hear_claims":Str)=none:=by rfl'
def Iv:(dl g aA aC s aH aT ed pl).lookup ("begin_rounds":Str)=none:=by rfl'
def dl_n8:(dl g aA aC s aH aT ed pl).lookup ("hear_row":Str)=none:=by rfl'
def Fk:(dl g aA aC s aH aT ed pl).lookup ("go_on":Str)=none:=by rfl'
def JN:(dl g aA aC s aH aT ed pl).lookup ("look_at_trees":Str)=none:=by rfl'
def rh{v:Addr}:bY "awaited" (.ref v) (dl g aA aC s aH aT ed pl)=dl g v aC s aH aT ed pl:=by rfl'
def Ig{v:Addr}:bY "claims" (.ref v) (dl g aA aC s aH aT ed pl)=dl g aA v s aH aT ed pl:=by rfl'
def Id{v:Int}:bY "s" (.int v) (dl g aA aC s aH aT ed pl)=dl g aA aC v aH aT ed pl:=by rfl'
def Ie{v:Addr}:bY "heard" (.ref v) (dl g aA aC s aH aT ed pl)=dl g aA aC s v aT ed pl:=by rfl'
def Dy{v:Addr}:bY "tossed" (.ref v) (dl g aA aC s aH aT ed pl)=dl g aA aC s aH v ed pl:=by rfl'
def yu{v:Int}:bY "held" (.int v) (dl g aA aC s aH aT ed pl)=dl g aA aC s aH aT v pl:=by rfl'
def vj{v:Int}:bY "places" (.int v) (dl g aA aC s aH aT ed pl)=dl g aA aC s aH aT ed v:=by rfl'
def cS:(dl g aA aC s aH aT ed pl).length<1000:=by show 8<1000;decide
end
structure DTxt(K:W.Frag)(mg:#[9])(C:Addr):Prop where
 cl:Cls K C
 nG:NoAttr K C "game"
 nA:NoAttr K C "awaited"
 nC:NoAttr K C "claims"
 nS:NoAttr K C "s"
 nH:NoAttr K C "heard"
 nT:NoAttr K C "tossed"
 nE:NoAttr K C "held"
 nP:NoAttr K C "places"
 mgC:mg "Doubter"=some (.ref C)
structure Db where
 aw:Str×Option Int
 cl:List Int
 s:Int
 he:List Int
 to:List Int
 ed:Int
 pl:Int
def awV(a:Str×Option Int):List V:=match a.2 with
 |none=>[.str a.1]
 |some n=>[.str a.1,.int n]
structure DbR(C:Addr)(H:Hp)(D g:Addr)(z:Db)(dx aA aC aH aT:Addr):Prop where
 hD:H D=some (.ins C dx (dl g aA aC z.s aH aT z.ed z.pl))
 hA:H aA=some (.tup (awV z.aw))
 hC:H aC=some (.tup (z.cl.map V.int))
 hH:H aH=some (.tup (z.he.map V.int))
 hT:H aT=some (.tup (z.to.map V.int))
def DbR.same(h:DbR C H D g z dx aA aC aH aT)(s:Same H H'):DbR C H' D g z dx aA aC aH aT:=%[s _ _ h.hD,s _ _ h.hA,s _ _ h.hC,s _ _ h.hH|s _ _ h.hT]
def DbR.set{C:Addr}{H:Hp}{D g:Addr}{z:Db}{dx aA aC aH aT C' dx':Addr}{fs:List (Str×V)}(hD:H D=some (.ins C' dx' fs))(hA:H aA=some (.tup (awV z.aw)))(hC:H aC=some (.tup (z.cl.map V.int)))(hH:H aH=some (.tup (z.he.map V.int)))(hT:H aT=some (.tup (z.to.map V.int))):
 DbR C (upd H D (.ins C dx (dl g aA aC z.s aH aT z.ed z.pl))) D g z dx aA aC aH aT:=by
 erw[ai,6,6,6,6]
 . rw[ay (bu hA hD nofun)];exact hA
 . rw[ay (bu hC hD nofun)];exact hC
 . rw[ay (bu hH hD nofun)];exact hH
 . rw[ay (bu hT hD nofun)];exact hT
def DbAt(C:Addr)(H:Hp)(D g:Addr)(z:Db):Prop:=∃dx aA aC aH aT,DbR C H D g z dx aA aC aH aT
def DbAt.same(h:DbAt C H D g z)(s:Same H H'):DbAt C H' D g z:=by
 erw[_,_,_,_,_,r]at h;erw[_,_,_,_,_,r.same s]
def Gm(CG:Addr)(H:Hp)(g:Addr)(ns:List Str)(ts:List Tr)(p:Int):Prop:=∃(a b d:Addr)(tv:List V),GameAt CG H g a b d p/\H a=some (.tup (ns.map V.str))/\H b=some (.tup tv)/\TreesAt H tv ts/\H d=some (.lst ((ns.map (aY ts)).map V.int))
def Gm.same(h:Gm CG H g ns ts p)(s:Same H H'):Gm CG H' g ns ts p:=by
 erw[a,b,d,tv,h1,h2,h3,h4,h5]at h;erw[a,b,d,tv,h1.same s,s _ _ h2,s _ _ h3,h4.mono (aV s),s _ _ h5]
def HC(a b:Addr)(p:Int)(d:Addr):(gf a b p d).lookup ("game":Str)=none:=oi _ _ _ _ ⋯ ⋯ ⋯ ⋯
def Gm.ne{C:Addr}{D:Addr}{dx:Addr}{fs:List (Str×V)}{v:V}(h:Gm CG H g ns ts p)(hD:H D=some (.ins C dx fs))(hg:fs.lookup ("game":Str)=some v):g≠D:=λz=>by
 erw[a,b,d,tv,%[dx'|e],_]at h;rw[z,hD]at e;cases e;rw[HC]at hg;cases hg
def Gm.but{C:Addr}{D:Addr}{dx:Addr}{fs:List (Str×V)}(h:Gm CG H g ns ts p)(hD:H D=some (.ins C dx fs))(hg:g≠D)(s:SameBut D H H'):Gm CG H' g ns ts p:=by
 erw[a,b,d,tv,%[dx'|e],h2,h3,h4,h5]at h;erw[a,b,d,tv,%[dx'|s _ _ hg e],s _ _ (bu h2 hD nofun) h2,s _ _ (bu h3 hD nofun) h3,h4.mono (λc xs hc=>s _ _ (bu hc hD nofun) hc),s _ _ (bu h5 hD nofun) h5]
structure GmK(ns:List Str)(ts:List Tr)(p:Int):Prop where
 pr:Pr p
 p2:2<p
 p9:p<=999983
 n10:ns.length<=10
 t1:1<=ts.length
 t10:ts.length<=10
 tok:∀t∈ts,t.ok ns/\t.wf/\t.depth<=10/\t.size<=400
 tp:(ts.length:Int)<=p
 tc:∀t∈ts,∀x∈ns,(t.names.count x:Int)<p
def GmK.deg(k:GmK ns ts p):∀x∈ns,0<=aY ts x/\aY ts x<p:=λx hx=>by
 let t0:ts≠[]:=λz=>by have:=k.t1;rw[z]at this;cases this
 erw[6,oo t0 λt ht=>k.tc t ht x hx]
 have:=kI (ns:=ts.map λt=>(t.names.count x:Int)) #[t0,0]
 let%[t,_|e]:=List.mem_map.mp this;unfold aY;rw[←e];omega
def szs(ts:List Tr):Int:=(ts.map λt=>(t.size:Int)).sum
def eF(ns:List Str)(ts:List Tr)(p:Int)(z:Db):Db:=
 { z with pl:=z.pl+szs ts,aw:=if z.ed=hor z.s p (ts.map λt=>t.worth ns z.to p)then("believed",none)else("caught",some ((z.to.length:Int)+1)) }
def goOn(ns:List Str)(ts:List Tr)(p:Int)(z:Db):Db:=
 if z.to.length<ns.length then { z with aw:=("hear",some (aY ts (ns.getD z.to.length "")+1)) }else eF ns ts p z
def xI(ns:List Str)(ts:List Tr)(p s:Int)(z:Db):Db:=goOn ns ts p { z with s:=s,ed:=hor s p z.cl }
def iW(ns:List Str)(ts:List Tr)(p:Int)(xs:List Int)(z:Db):Db:=
 if ts.length=1 then xI ns ts p 0 { z with cl:=xs }else { z with cl:=xs,aw:=("coin",none) }
def dI(p:Int)(xs:List Int)(z:Db):Db:=
 { z with he:=xs,aw:=if(val p xs 0+val p xs 1) % p=z.ed then("coin",none)else("caught",some ((z.to.length:Int)+1)) }
def cX(ns:List Str)(ts:List Tr)(p:Int)(xs:List Int)(z:Db):Db:=
 if z.cl=[]then iW ns ts p xs { z with pl:=z.pl+(xs.length:Int) }else dI p xs { z with pl:=z.pl+(xs.length:Int) }
def dz(ns:List Str)(ts:List Tr)(p r:Int)(z:Db):Db:=
 if z.he=[]then xI ns ts p r { z with pl:=z.pl+1 }else goOn ns ts p { z with pl:=z.pl+1,ed:=val p z.he r,to:=z.to++[r] }
def Db.new(ts:List Tr):Db:=%[("hear",some (ts.length:Int)),[],(0),[],[],(0)|(0)]
instance spIsNum:∀n p:Int,vs=[.int n,.int p]->Q (.bl (decide (0<=n)&&decide (n<p))) H:=1
def uH:FnScope Wb Wb (ao ky):=%[|5]
def vy(F:#["is_number",ky])(B:Bl mg):#[1,f,fd,Wb,spIsNum]:=by
 exists uH
 erw[n,p,1,q]at h;erw[_,(af (ax (vn (aJ pY rfl B.isinstance PyProof.Rows.boot_isinstance %[0,zW (v:=V.ty "int") rfl B.int gA rfl|ae]) (vn (yz (aJ pY rfl B.isinstance PyProof.Rows.boot_isinstance %[0,zW (v:=V.ty "bool") rfl B.bool zA rfl|ae])) (rJ (DJ wC gJ ag (pv 0) (pv 1))))))),6];erw[0,_,_,"int",true,1,TyOf.int _,EM _ _,true,1,eU ?_];erw[0,_,_,"bool",false,1,TyOf.int _,vJ _,false,1,true,1,eU ?_];erw[0,2,0,6]
 by_cases c:0<=n
 . rw[zC1 c]at q;apply bd c %[0,2|6];exact q
 . rw[zB1 c]at q;apply aF c ?_;exact q
instance spAllSz(C:Addr):∀(g:Addr)(ns:List Str)(ts:List Tr)(p:Int),vs=[.ref g]->Gm C H g ns ts p->GmK ns ts p->(∀H',Same H H'->Q (.int (szs ts)) H'):=1
def uN:FnScope WE WE (ao kG):=%[|5]
def FZ{ts:List Tr}(h:∀t∈ts,t.size<=400)(hl:ts.length<=10):0<=szs ts/\szs ts<=4000:=by
 have:∀l:List Tr,(∀t∈l,t.size<=400)->0<=szs l/\szs l<=400*(l.length:Int):=λl=>by
  induction l with
  |nil=>intro _;erw[qB1 _,qB1 _]
  |cons t r ih=>
    intro hh;let h1:=ih λu hu=>hh u (qM0 _ hu)
    let h2:=hh t (qF0 ..);let e:szs (t::r)=(t.size:Int)+szs r:=by unfold szs;rw[qE0,zX1]
    rw[e,zP0];omega
 have:=this ts h
 omega
def vE(F:#["all_sizes",kG])(B:Bl mg)(T:GTxt K mg C)(ic:#[12,"size_of",WB,spSize 10]):#[13,f,fd,WE,spAllSz C]:=by
 exists uN
 erw[g,ns,ts,p,1,%[a,b,d,tv,%[dx|hg],ha,hb,TS|hd],k,q]at h;refine⟨_,(af (ax (aJ (sJ rfl) rfl B.sum wG1 (aa (cH (N:=[]) (ix:=[]) (cl:=[]) rfl #[5] rfl
  (fo (aB (pv 0) rfl)) (λ_ _ _=>cE (aD ic hr ⋯ rfl %[0|ae]))) ae)))),?_⟩
 let vl:=TS.length;erw[0,g,C,dx,_,0,hg,9,T.nT,lJ ..,b,1,%[_|zC0 hb],λD hD=>?_];apply eV (K:=K) (xs:=tv) (λi H'=>H' D=some (.lst (((ts.take i).map λt=>(t.size:Int)).map V.int))/\Same H H') %[by rw[ai];rfl|zE0 hD _] (λi H' _ h=>zC0 (h.2 _ _ hb)) ?_ ?_
 . rintro i x H2 hx ⟨hl,S2⟩;let%[u,hu|Tu]:=TS.get hx;let%[_,uw,ud|us]:=k.tok u (qC0 hu);let hi:i<tv.length:=(zX0 hx).1
   have:=k.t10
   erw[0,x,u,1,Tu.mono (aV S2),uw,ud,us,λH3 S3=>?_];erw[_,S3 _ _ hl,6,Nx.of hi %[6|λb o e=>?_]]
   . rw[zF0,zF0,qJ0];exact aO #[0]
   . rw[ai,zZ0,hu,zK0,zK0];rfl
   . rw[ay (aP e hD)];exact S3 _ _ (S2 _ _ e)
 . rintro H2 ⟨hl,S2⟩;rw[vl,qA0]at hl;let sr:=FZ (λt ht=>(k.tok t ht).2.2.2) k.t10;erw[D,0,zG0 hl,6,6,6]
   . intro n hn;let%[u,hu|1]:=List.mem_map.mp hn
     have:=(k.tok u hu).2.2.2
     omega
   . let e:((ts.map λt=>(t.size:Int)).sum)=szs ts:=rfl;rw[e];omega
   . exact q H2 S2
section
variable {C CG:Addr}
instance spTrees(C CG:Addr):∀(D g:Addr)(z:Db)(ns:List Str)(ts:List Tr)(p:Int),vs=[.ref D]->DbAt C H D g z->Gm CG H g ns ts p->GmK ns ts p->z.to.length=ns.length->bL z.to p->(∀H',SameBut D H H'->DbAt C H' D g (eF ns ts p z)->Q .non H'):=1
def AZ:FnScope WA WA (ao qY):=%[|5]
def Bw(F:#["look_at_trees","Doubter.look_at_trees",qY])(B:Bl mg)(T:DTxt K mg C)(TG:GTxt K mg CG)(mW:Meth K CG "worth_at" fW)(GW:#[13,fW,fdW,WO,spWAt CG])(bW:Binds K fdW WO [])
 (kj:#[13,"all_sizes",WE,spAllSz CG]):#[14,f,fd,WA,spTrees C CG]:=by
 exists AZ
 erw[D,g,z,ns,ts,p,1,%[dx,aA,aC,aH,aT|R],G,k,tl,po,q]at h;let hr13:Room 13 _:=hr;refine⟨_,(ad (aR (pv 0) (aq aW (aB (pv 0) rfl) (aD kj hr ⋯ rfl %[aB (pv 0) rfl|ae])) rfl)
  (af (aM (am aS (aB (pv 0) rfl) (bZ (aB (pv 0) rfl) TG.cl mW GW hr13 bW .nil bh %[aB (pv 0) rfl,aB (pv 0) rfl|ae]) (az _))
   (af (aR (pv 0) (aU %[aI|ae]) rfl))
   (af (aR (pv 0) (aU %[aI,aq aW (aJ aG rfl B.len zD1 %[aB (pv 0) rfl|ae]) ag|ae]) rfl))))),?_⟩
 let gD:=G.ne R.hD je;erw[0,D,C,dx,_,0,R.hD,9,T.nP,Aq,0,D,C,dx,_,0,R.hD,9,T.nG,je,g,ns,ts,p,1,G,k,λH1 S1=>?_];let R1:=R.same S1;erw[2,0,D,C,dx,0,R1.hD,9,T.nP,cS,6];rw[vj];let S2:SameBut D H1 (upd H1 D (.ins C dx (dl g aA aC z.s aH aT z.ed (z.pl+szs ts)))):=SameBut.upd _;let R2:DbR C (upd H1 D (.ins C dx (dl g aA aC z.s aH aT z.ed (z.pl+szs ts)))) D g { z with pl:=z.pl+szs ts } dx aA aC aH aT:=DbR.set (z:={ z with pl:=z.pl+szs ts }) R1.hD R1.hA R1.hC R1.hH R1.hT;let G2:=(G.same S1).but R1.hD gD S2;generalize upd H1 D (.ins C dx (dl g aA aC z.s aH aT z.ed (z.pl+szs ts)))=H2 at S2 R2 G2;let G2':=G2;erw[a,b,d,tv,GA,ha,hb,TS,hd]at G2';erw[dg,hg]at GA;let p2:=k.p2;let p9:=k.p9;erw[0,D,C,dx,_,0,R2.hD,T.cl,T.nE,Ar,0,D,C,dx,_,0,R2.hD,T.cl,T.nG,je,g,dg,0,hg,oi _ _ _ _ ⋯ ⋯ ⋯ ⋯,0,D,C,dx,_,0,R2.hD,9,T.nT,zu,0,D,C,dx,_,0,R2.hD,9,T.nS,JL,6];erw[g,a,b,d,aT,ns,tv,ts,z.to,z.s,p,1,%[dg|hg],3,3,ha,hb,TS,k.t10,λt ht=>%[(k.tok t ht).1|(k.tok t ht).2.2.1],R2.hT,tl,po,λH3 S3=>?_];let R3:=R2.same S3;let S03:SameBut D H H3:=(zL0 S1).trans (S2.trans (zL0 S3));erw[1,0,6]
 by_cases c:z.ed=hor z.s p (ts.map λt=>t.worth ns z.to p)
 . apply bd (congrArg V.int c) ?_;erw[y1S,λt ht=>?_];let I:=zE0 ht (.tup [.str "believed"]);let R4:=R3.same I;erw[0,D,C,dx,0,R4.hD,9,T.nA,cS,6];rw[rh];let e:eF ns ts p z={ z with pl:=z.pl+szs ts,aw:=("believed",none) }:=by
    unfold eF;rw[NE c]
   apply q _ (S03.trans ((zL0 I).trans (SameBut.upd _))) ?_;rw[e];erw[dx,t,aC,aH,aT,DbR.set (z:={ z with pl:=z.pl+szs ts,aw:=("believed",none) }) R4.hD ai R4.hC R4.hH R4.hT]
 . apply aF (λe=>c (V.int.inj e)) ?_;erw[0,D,C,dx,_,0,R3.hD,9,T.nT,zu,aT,0,.inr (zC0 R3.hT),2,y2S,λt ht=>?_];let I:=zE0 ht (.tup [.str "caught",.int (((z.to.map V.int).length:Int)+1)]);let R4:=R3.same I;erw[0,D,C,dx,0,R4.hD,9,T.nA,cS,6];rw[rh];let e:eF ns ts p z={ z with pl:=z.pl+szs ts,aw:=("caught",some ((z.to.length:Int)+1)) }:=by
    unfold eF;rw[ND c]
   apply q _ (S03.trans ((zL0 I).trans (SameBut.upd _))) ?_;rw[e];erw[dx,t,aC,aH,aT,DbR.set (z:={ z with pl:=z.pl+szs ts,aw:=("caught",some ((z.to.length:Int)+1)) }) R4.hD ?_ R4.hC R4.hH R4.hT];rw[ai,zF0];rfl
def oa{xs:List Int}{j:Nat}(h:j<xs.length):atI (xs.map V.int) (j:Int)=some (.int (xs.getD j 0)):=bK (by rw[zW0,zM0 h,qG0,zM0 h];rfl)
def HG{ns:List Str}{j:Nat}(h:j<ns.length):(ns.map (aY ts)).getD j 0=aY ts (ns.getD j ""):=by
 rw[qG0,zW0,qG0,zM0 h];rfl
instance spGo(C CG:Addr):∀(D g:Addr)(z:Db)(ns:List Str)(ts:List Tr)(p:Int),vs=[.ref D]->DbAt C H D g z->Gm CG H g ns ts p->GmK ns ts p->z.to.length<=ns.length->bL z.to p->(∀H',SameBut D H H'->DbAt C H' D g (goOn ns ts p z)->Q .non H'):=1
def Lb:FnScope ["self","done"] WA (ao Dm):=%[|5]
def Jl(F:#["go_on","Doubter.go_on",Dm])(B:Bl mg)(T:DTxt K mg C)(TG:GTxt K mg CG)(mT:Meth K C "look_at_trees" fT)(GT:#[14,fT,fdT,WA,spTrees C CG])(bT:Binds K fdT WA []):#[15,f,fd,WA,spGo C CG]:=by
 exists Lb
 erw[D,g,z,ns,ts,p,1,%[dx,aA,aC,aH,aT|R],G,k,tl,po,q]at h;refine⟨_,(ad #[aj,1,Lb,aJ aG rfl B.len zD1 %[aB (pv 0) rfl|ae]]
  (af (aM (am gJ (pv 1) (aJ aG rfl B.len zD1 %[aB (aB (pv 0) rfl) rfl|ae]) (az _))
   (af (aR (pv 0) (aU %[aI,aq aW (aN ix_list (aB (aB (pv 0) rfl) rfl) (pv 1) #[1]) ag|ae]) rfl))
   (af (bb (bq (pv 0) T.cl mT GT hr bT .nil bh)))))),?_⟩
 let G':=G;erw[a,b,d,tv,%[dg|hg],ha,hb,TS,hd]at G';erw[0,D,C,dx,_,0,R.hD,9,T.nT,zu,aT,0,.inr (zC0 R.hT),6];erw[0,0,D,C,dx,_,0,R.hD,9,T.nG,je,g,CG,dg,_,0,hg,TG.cl,TG.nS,pU ..,a,0,.inr (zC0 ha),2,0,6]
 by_cases c:z.to.length<ns.length
 . apply bd (by rw[zF0,zF0];omega) ?_;let ej:((z.to.map V.int).length:Int)=(z.to.length:Int):=by rw[zF0]
   let hx:ns.getD z.to.length ""∈ns:=by
    rw[qG0,zM0 c];exact qR0 c
   let dr:=k.deg _ hx;erw[0,D,C,dx,_,0,R.hD,9,T.nG,je,g,CG,dg,_,0,hg,TG.cl,TG.nD,Fa ..,0,d,_,2,zG0 hd,by rw[ej];exact oa (by rw[zF0];exact c),2,y2S,λt ht=>?_];rw[HG c]at *
   let I:=zE0 ht (.tup [.str "hear",.int (aY ts (ns.getD z.to.length "")+1)]);let R4:=R.same I;erw[0,D,C,dx,0,R4.hD,9,T.nA,cS,6];rw[rh];let e:goOn ns ts p z={ z with aw:=("hear",some (aY ts (ns.getD z.to.length "")+1)) }:=by
    unfold goOn;rw[NE c]
   apply q _ ((zL0 I).trans (SameBut.upd _)) ?_;rw[e];erw[dx,t,aC,aH,aT,DbR.set (z:={ z with aw:=("hear",some (aY ts (ns.getD z.to.length "")+1)) }) R4.hD ai R4.hC R4.hH R4.hT]
 . apply aF (by rw[zF0,zF0];omega) ?_;let e:goOn ns ts p z=eF ns ts p z:=by
    unfold goOn;rw[ND c]
   rw[e]at q;erw[0,D,dx,0,R.hD,JN,6];erw[D,g,z,ns,ts,p,1,%[dx,aA,aC,aH,aT|R],G,k,3,po,q]
instance spBeg(C CG:Addr):∀(D g:Addr)(z:Db)(s:Int)(ns:List Str)(ts:List Tr)(p:Int),vs=[.ref D,.int s]->DbAt C H D g z->Gm CG H g ns ts p->GmK ns ts p->z.to.length<=ns.length->bL z.to p->(∀H',SameBut D H H'->DbAt C H' D g (xI ns ts p s z)->Q .non H'):=1
def Ba:FnScope WP WP (ao qZ):=%[|5]
def Bx(F:#["begin_rounds","Doubter.begin_rounds",qZ])(T:DTxt K mg C)(TG:GTxt K mg CG)(mM:Meth K CG "mix" fM)(GM:#[1,fM,fdM,WL,spMix CG])(bM:Binds K fdM WL [])
 (mG:Meth K C "go_on" fG)(GG:#[15,fG,fdG,WA,spGo C CG])(bG:Binds K fdG WA []):#[16,f,fd,WP,spBeg C CG]:=by
 exists Ba
 erw[D,g,z,s,ns,ts,p,1,%[dx,aA,aC,aH,aT|R],G,k,tl,po,q]at h;let NO:Room 1 _:=hr.mono ⋯;refine⟨_,(ad (aR (pv 0) (pv 1) rfl)
  (ad (aR (pv 0) (bZ (aB (pv 0) rfl) TG.cl mM GM NO bM .nil bh %[aB (pv 0) rfl,1|ae]) rfl)
  (af (bb (bq (pv 0) T.cl mG GG hr bG .nil bh))))),?_⟩
 let gD:=G.ne R.hD je;let p2:=k.p2;let p9:=k.p9;erw[0,0,D,C,dx,0,R.hD,9,T.nS,cS,6];rw[Id];let S1:SameBut D H (upd H D (.ins C dx (dl g aA aC s aH aT z.ed z.pl))):=SameBut.upd _;let R1:DbR C (upd H D (.ins C dx (dl g aA aC s aH aT z.ed z.pl))) D g { z with s:=s } dx aA aC aH aT:=DbR.set (z:={ z with s:=s }) R.hD R.hA R.hC R.hH R.hT;let G1:=G.but R.hD gD S1;generalize upd H D (.ins C dx (dl g aA aC s aH aT z.ed z.pl))=H1 at S1 R1 G1;let G1':=G1;erw[a,b,d,tv,%[dg|hg],ha,hb,TS,hd]at G1';erw[0,D,C,dx,_,0,R1.hD,9,T.nG,je,g,dg,0,hg,oi _ _ _ _ ⋯ ⋯ ⋯ ⋯,0,D,C,dx,_,0,R1.hD,9,T.nC,JP,0,6];erw[g,a,b,d,aC,z.cl,s,p,1,%[dg|hg],3,3,.inr R1.hC,6];erw[0,D,C,dx,0,R1.hD,9,T.nE,cS,6];rw[yu];let S2:SameBut D H1 (upd H1 D (.ins C dx (dl g aA aC s aH aT (hor s p z.cl) z.pl))):=SameBut.upd _;let R2:DbR C (upd H1 D (.ins C dx (dl g aA aC s aH aT (hor s p z.cl) z.pl))) D g { z with s:=s,ed:=hor s p z.cl } dx aA aC aH aT:=DbR.set (z:={ z with s:=s,ed:=hor s p z.cl }) R1.hD R1.hA R1.hC R1.hH R1.hT;let G2:=G1.but R1.hD gD S2;generalize upd H1 D (.ins C dx (dl g aA aC s aH aT (hor s p z.cl) z.pl))=H2 at S2 R2 G2;erw[0,D,dx,0,R2.hD,Fk,6];erw[D,g,_,ns,ts,p,1,%[dx,aA,aC,aH,aT|R2],G2,k,tl,po,λH3 S3 D3=>q H3 (S1.trans (S2.trans S3)) D3]
instance spClaims(C CG:Addr):∀(D g l:Addr)(z:Db)(xs:List Int)(ns:List Str)(ts:List Tr)(p:Int),vs=[.ref D,.ref l]->DbAt C H D g z->Gm CG H g ns ts p->GmK ns ts p->H l=some (.tup (xs.map V.int))->z.to.length<=ns.length->bL z.to p->(∀H',SameBut D H H'->DbAt C H' D g (iW ns ts p xs z)->Q .non H'):=1
def yj:FnScope WC WC (ao oP):=%[|5]
def yL(F:#["hear_claims","Doubter.hear_claims",oP])(B:Bl mg)(T:DTxt K mg C)(TG:GTxt K mg CG)(mB:Meth K C "begin_rounds" fB)(GB:#[16,fB,fdB,WP,spBeg C CG])(bB:Binds K fdB WP []):#[17,f,fd,WC,spClaims C CG]:=by
 exists yj
 erw[D,g,l,z,xs,ns,ts,p,1,%[dx,aA,aC,aH,aT|R],G,k,hl,tl,po,q]at h;refine⟨_,(ad (aR (pv 0) (pv 1) rfl)
  (af (aM (am aS (aJ aG rfl B.len zD1 %[aB (aB (pv 0) rfl) rfl|ae]) ag (az _))
   (af (bb (bZ (pv 0) T.cl mB GB hr bB .nil bh %[ag|ae])))
   (af (aR (pv 0) (aU %[aI|ae]) rfl))))),?_⟩
 let gD:=G.ne R.hD je;erw[0,0,D,C,dx,0,R.hD,9,T.nC,cS,6];rw[Ig];let S1:SameBut D H (upd H D (.ins C dx (dl g aA l z.s aH aT z.ed z.pl))):=SameBut.upd _;let R1:DbR C (upd H D (.ins C dx (dl g aA l z.s aH aT z.ed z.pl))) D g { z with cl:=xs } dx aA l aH aT:=DbR.set (z:={ z with cl:=xs }) R.hD R.hA hl R.hH R.hT;let G1:=G.but R.hD gD S1;generalize upd H D (.ins C dx (dl g aA l z.s aH aT z.ed z.pl))=H1 at S1 R1 G1;let G1':=G1;erw[a,b,d,tv,%[dg|hg],ha,hb,TS,hd]at G1';let vl:=TS.length;erw[0,D,C,dx,_,0,R1.hD,9,T.nG,je,g,CG,dg,_,0,hg,TG.cl,TG.nT,lJ ..,b,0,.inr (zC0 hb),1,0,6]
 by_cases c:ts.length=1
 . apply bd (congrArg V.int #[0]) ?_;let e:iW ns ts p xs z=xI ns ts p 0 { z with cl:=xs }:=by
    unfold iW;rw[NE c]
   rw[e]at q;erw[0,D,dx,0,R1.hD,Iv,6];erw[D,g,_,(0),ns,ts,p,1,%[dx,aA,l,aH,aT|R1],G1,k,tl,po,λH3 S3 D3=>q H3 (S1.trans S3) D3]
 . apply aF (λe=>c (by have:=V.int.inj e;omega)) ?_;let e:iW ns ts p xs z={ z with cl:=xs,aw:=("coin",none) }:=by
    unfold iW;rw[ND c]
   erw[y1S,λt ht=>?_];let I:=zE0 ht (.tup [.str "coin"]);let R4:=R1.same I;erw[0,D,C,dx,0,R4.hD,9,T.nA,cS,6];rw[rh];apply q _ (S1.trans ((zL0 I).trans (SameBut.upd _))) ?_;rw[e];erw[dx,t,l,aH,aT,DbR.set (z:={ z with cl:=xs,aw:=("coin",none) }) R4.hD ai R4.hC R4.hH R4.hT]
instance spHRow(C CG:Addr):∀(D g l:Addr)(z:Db)(xs:List Int)(ns:List Str)(ts:List Tr)(p:Int),vs=[.ref D,.ref l]->DbAt C H D g z->Gm CG H g ns ts p->GmK ns ts p->H l=some (.tup (xs.map V.int))->jZ xs p->(∀H',SameBut D H H'->DbAt C H' D g (dI p xs z)->Q .non H'):=1
def Gv:FnScope WC WC (ao yq):=%[|5]
def Hc(F:#["hear_row","Doubter.hear_row",yq])(B:Bl mg)(T:DTxt K mg C)(TG:GTxt K mg CG)(km:#[5,"both_ends",["values","p"],spEnds]):#[6,f,fd,WC,spHRow C CG]:=by
 exists Gv
 erw[D,g,l,z,xs,ns,ts,p,1,%[dx,aA,aC,aH,aT|R],G,k,hl,ro,q]at h;refine⟨_,(ad (aR (pv 0) (pv 1) rfl)
  (af (aM (am aS (aD km hr ⋯ rfl %[1,aB (aB (pv 0) rfl) rfl|ae]) (aB (pv 0) rfl) (az _))
   (af (aR (pv 0) (aU %[aI|ae]) rfl))
   (af (aR (pv 0) (aU %[aI,aq aW (aJ aG rfl B.len zD1 %[aB (pv 0) rfl|ae]) ag|ae]) rfl))))),?_⟩
 let gD:=G.ne R.hD je;erw[0,0,D,C,dx,0,R.hD,9,T.nH,cS,6];rw[Ie];let S1:SameBut D H (upd H D (.ins C dx (dl g aA aC z.s l aT z.ed z.pl))):=SameBut.upd _;let R1:DbR C (upd H D (.ins C dx (dl g aA aC z.s l aT z.ed z.pl))) D g { z with he:=xs } dx aA aC l aT:=DbR.set (z:={ z with he:=xs }) R.hD R.hA R.hC hl R.hT;let G1:=G.but R.hD gD S1;generalize upd H D (.ins C dx (dl g aA aC z.s l aT z.ed z.pl))=H1 at S1 R1 G1;let G1':=G1;erw[a,b,d,tv,%[dg|hg],ha,hb,TS,hd]at G1';erw[0,0,D,C,dx,_,0,R1.hD,9,T.nG,je,g,CG,dg,_,0,hg,TG.cl,TG.nF,hU ..,l,xs,p,1,.inr R1.hH,ro,k.pr,k.p9,λH2 S2=>?_];let R2:=R1.same S2;erw[0,D,C,dx,_,0,R2.hD,9,T.nE,Ar,1,0,6];let S02:SameBut D H H2:=S1.trans (zL0 S2)
 by_cases c:(val p xs 0+val p xs 1) % p=z.ed
 . apply bd (congrArg V.int c) ?_;let e:dI p xs z={ z with he:=xs,aw:=("coin",none) }:=by
    unfold dI;rw[NE c]
   erw[y1S,λt ht=>?_];let I:=zE0 ht (.tup [.str "coin"]);let R4:=R2.same I;erw[0,D,C,dx,0,R4.hD,9,T.nA,cS,6];rw[rh];apply q _ (S02.trans ((zL0 I).trans (SameBut.upd _))) ?_;rw[e];erw[dx,t,aC,l,aT,DbR.set (z:={ z with he:=xs,aw:=("coin",none) }) R4.hD ai R4.hC R4.hH R4.hT]
 . apply aF (λe=>c (V.int.inj e)) ?_;let e:dI p xs z={ z with he:=xs,aw:=("caught",some ((z.to.length:Int)+1)) }:=by
    unfold dI;rw[ND c]
   erw[0,D,C,dx,_,0,R2.hD,9,T.nT,zu,aT,0,.inr (zC0 R2.hT),2,y2S,λt ht=>?_];let I:=zE0 ht (.tup [.str "caught",.int (((z.to.map V.int).length:Int)+1)]);let R4:=R2.same I;erw[0,D,C,dx,0,R4.hD,9,T.nA,cS,6];rw[rh];apply q _ (S02.trans ((zL0 I).trans (SameBut.upd _))) ?_;rw[e];erw[dx,t,aC,l,aT,DbR.set (z:={ z with he:=xs,aw:=("caught",some ((z.to.length:Int)+1)) }) R4.hD ?_ R4.hC R4.hH R4.hT];rw[ai,zF0];rfl
end
section
variable {C CG:Addr}
def kZ{K:W.Frag}{H:Hp}{a:Addr}{xs:List Int}(h:H a=some (.tup (xs.map V.int))):Rep K H (.ref a) (.tuple (xs.map PyData.int)):=.tup (zC0 h) (ng xs)
def Ao(xs:List Int):PyData.eqv (.tuple (xs.map PyData.int)) (.tuple [])=decide (xs=[]):=by
 cases xs with
 |nil=>rfl
 |cons a r=>rfl
def kR(ns:List Int):SeqAt.shaped (.tuple (ns.map PyData.int))=true:=by
 simp [SeqAt.shaped,PyData.canLay0,PyData.depth,W.ke_canLayAll0,W.ke_depthAll]
instance spHear(C CG:Addr):∀(D g l:Addr) (z:Db) (xs:List Int) (ns:List Str) (ts:List Tr) (p:Int),vs=[.ref D,.ref l]->DbAt C H D g z->Gm CG H g ns ts p->GmK ns ts p->H l=some (.lst (xs.map V.int))->z.aw=(("hear":Str),some (xs.length:Int))->bL xs p->xs.length<=500->(z.cl≠[]->jZ xs p)->z.to.length<=ns.length->bL z.to p->(∀H',SameBut D H H'->DbAt C H' D g (cX ns ts p xs z)->Q .non H'):=1
def Dj:FnScope WC WC (ao vb):=%[|5]
def Ec(F:#["hear","Doubter.hear",vb])(B:Bl mg)(T:DTxt K mg C)(TG:GTxt K mg CG)(e9:#[1,"is_number",Wb,spIsNum])
 (mC:Meth K C "hear_claims" fC)(GC:#[17,fC,fdC,WC,spClaims C CG])(bC:Binds K fdC WC [])
 (mR:Meth K C "hear_row" fR)(GR:#[6,fR,fdR,WC,spHRow C CG])(bR:Binds K fdR WC []):#[18,f,fd,WC,spHear C CG]:=by
 exists Dj
 erw[D,g,l,z,xs,ns,ts,p,1,%[dx,aA,aC,aH,aT|R],G,k,hl,ea,xo,xl,ro,tl,po,q]at h;let hr6:Room 6 _:=hr.mono ⋯;refine⟨_,(ad (aM (am nI (aN ix_tup (aB (pv 0) rfl) ag #[1]) aI (az _)) bz aE)
  (ad (aM (am nI (aJ aG rfl B.len zD1 %[1|ae]) (aN ix_tup (aB (pv 0) rfl) ag #[1]) (az _)) bz aE)
  (ad (aM (jJ (fk (aJ (sK rfl) rfl B.all wH0 (aa (cH (N:=WA) (ix:=[0]) rfl
   #[3] rfl
   (dU (pv 1)) (λ_ _ _=>cE (aD e9 hr ⋯ rfl %[0,ld K (ld K (pv 1))|ae]))) ae)))) bz aE)
  (ad (aR (pv 0) (aq aW (aB (pv 0) rfl) (aJ aG rfl B.len zD1 %[1|ae])) rfl)
  (af (aM (am (rN hr.units) (aB (pv 0) rfl) (aU ae) (az _))
   (af (bb (bZ (pv 0) T.cl mC GC hr bC .nil bh %[bc bi rfl B.tuple bt %[1|ae]|ae])))
   (af (bb (bZ (pv 0) T.cl mR GR hr6 bR .nil bh %[bc bi rfl B.tuple bt %[1|ae]|ae]))))))))),?_⟩
 let gD:=G.ne R.hD je;let hA:=R.hA;rw[ea]at hA;let hA:H aA=some (.tup [.str "hear",.int (xs.length:Int)]):=hA;erw[0,D,C,dx,_,0,R.hD,9,T.nA,Fl,aA,_,2,zC0 hA,bK (j:=0) rfl,1,0,6];apply xc rfl ?_;erw[0,l,0,.inl (zG0 hl),0,D,C,dx,_,0,R.hD,9,T.nA,Fl,aA,_,2,zC0 hA,bK (j:=1) rfl,1,0,6];apply xc (by rw[zF0]) ?_;let G':=G;erw[a,b,d,tv,%[dg|hg],ha,hb,TS,hd]at G';erw[0,l,1,%[_|zG0 hl],λW hW=>?_];apply ig (K:=K) (xs:=xs.map V.int) (λi H'=>H' W=some (.lst ((List.replicate i true).map V.bl))/\Same H H') %[by rw[ai];rfl|zE0 hW _] (λi H' _ h=>zG0 (h.2 _ _ hl)) ?_ ?_
 . rintro i v H2 hv ⟨hW2,S2⟩;let hi:=(zX0 hv).1;rw[zW0]at hv;let%[n,hn|1]:=qU0 hv;let nr:=xo n (qC0 hn);erw[0,0,D,C,dx,_,0,S2 _ _ R.hD,9,T.nG,je,g,CG,dg,_,0,S2 _ _ hg,TG.cl,TG.nF,hU ..,n,p,1,6];rw[zC1 nr.1,zC1 nr.2];erw[_,hW2,6,Nx.of hi %[6|λb o e=>?_]]
   . rw[zF0,zV1];rw[zF0]at hi;exact aO #[0]
   . rw[ai,List.replicate_succ',zK0];rfl
   . rw[ay (aP e hW)];exact S2 _ _ e
 rintro H1 ⟨hW1,S1⟩;erw[W,0,zG0 hW1,6];let ea:(List.replicate (xs.map V.int).length true).all id=true:=by simp
 rw [ea];erw[0,6];apply dG ?_;let R1:=R.same S1;let G1:=G.same S1;erw[0,D,C,dx,_,0,R1.hD,9,T.nP,Aq,0,l,0,.inl (zG0 (S1 _ _ hl)),2,0,D,C,dx,0,R1.hD,9,T.nP,cS,6];rw[vj,zF0];let S2:SameBut D H1 (upd H1 D (.ins C dx (dl g aA aC z.s aH aT z.ed (z.pl+(xs.length:Int))))):=SameBut.upd _;let R2:DbR C (upd H1 D (.ins C dx (dl g aA aC z.s aH aT z.ed (z.pl+(xs.length:Int))))) D g { z with pl:=z.pl+(xs.length:Int) } dx aA aC aH aT:=DbR.set (z:={ z with pl:=z.pl+(xs.length:Int) }) R1.hD R1.hA R1.hC R1.hH R1.hT;let G2:=G1.but R1.hD gD S2;let hl2:upd H1 D (.ins C dx (dl g aA aC z.s aH aT z.ed (z.pl+(xs.length:Int)))) l=some (.lst (xs.map V.int)):=by
  rw[ay (bu hl R.hD nofun)];exact S1 _ _ hl
 generalize upd H1 D (.ins C dx (dl g aA aC z.s aH aT z.ed (z.pl+(xs.length:Int))))=H2 at S2 R2 G2 hl2;erw[0,D,C,dx,_,0,R2.hD,9,T.nC,JP,y0S,λu hu=>?_];let I:=zE0 hu (.tup []);let R3:=R2.same I;let hu3:upd H2 u (.tup []) u=some (.tup []):=ai;let hl3:=I _ _ hl2;let G3:=G2.same I;generalize upd H2 u (.tup [])=H3 at I R3 hu3 hl3 G3;let S03:SameBut D H H3:=(zL0 S1).trans (S2.trans (zL0 I));erw[_,_,kZ R3.hC,kZ (xs:=[]) hu3,kR _,kR [],0,6];rw[show PyData.eqv (.tuple (z.cl.map PyData.int)) (.tuple (([]:List Int).map PyData.int))=decide (z.cl=[])from Ao z.cl]
 by_cases c:z.cl=[]
 . apply bd c ?_;let e:cX ns ts p xs z=iW ns ts p xs { z with pl:=z.pl+(xs.length:Int) }:=by
    unfold cX;rw[NE c]
   rw[e]at q;erw[0,D,dx,0,R3.hD,dl_n6,6];erw[0,l,0,.inl %[zG0 hl3|λt ht=>?_]];let J:=zE0 ht (.tup (xs.map V.int));erw[D,g,t,_,xs,ns,ts,p,1,%[dx,aA,aC,aH,aT|R3.same J],G3.same J,k,ai,tl,po,λH5 S5 D5=>q H5 (S03.trans ((zL0 J).trans S5)) D5]
 . apply aF c ?_;let e:cX ns ts p xs z=dI p xs { z with pl:=z.pl+(xs.length:Int) }:=by
    unfold cX;rw[ND c]
   rw[e]at q;erw[0,D,dx,0,R3.hD,dl_n8,6];erw[0,l,0,.inl %[zG0 hl3|λt ht=>?_]];let J:=zE0 ht (.tup (xs.map V.int));erw[D,g,t,_,xs,ns,ts,p,1,%[dx,aA,aC,aH,aT|R3.same J],G3.same J,k,ai,ro c,λH5 S5 D5=>q H5 (S03.trans ((zL0 J).trans S5)) D5]
instance spToss(C CG:Addr):∀(D g:Addr) (z:Db) (r:Int) (ns:List Str) (ts:List Tr) (p:Int),vs=[.ref D,.int r]->DbAt C H D g z->Gm CG H g ns ts p->GmK ns ts p->z.aw.1="coin"->0<=r->r<p->z.to.length<=ns.length->(z.he≠[]->jZ z.he p/\z.to.length<ns.length)->bL z.to p->(∀H',SameBut D H H'->DbAt C H' D g (dz ns ts p r z)->Q .non H'):=1
def Dh:FnScope Wc Wc (ao uZ):=%[|5]
def Iy(a:Str×Option Int):(awV a)[0]?=some (.str a.1):=by
 unfold awV
 split <;> rfl
instance rCatA(K:W.Frag)(x:V)(y:V)(H:Hp)(Q:VK):∀a b xs ys,x=.ref a->y=.ref b->SqT K H a xs->SqT K H b ys->ys≠[]->xs.length+ys.length<=sizeLine->(xs=[]->Q (.ref b) H)->(xs≠[]->∀p,H p=none->Q (.ref p) (upd H p (.tup (xs++ys)))):=0
def GV:OpR X (binaryOp .Add) (rCatA X.K):=by
 exists 4,x,y,v,u,Q,I,rx,ry,h;erw[a,b,xs,ys,ex,ey,ha,hb,hy,hz,q1,q2]at h
 by_cases c:xs=[]
 . subst c;exact nJ NC s σ H x y v u Q I rx ry %[a,b,ys,ex,ey,ha,hb|q1 rfl]
 . exact op_catT NC s σ H x y v u Q I rx ry %[a,b,xs,ys,ex,ey,ha,hb,c,hz,λz=>absurd z hy|λ_=>q2 c]
def Ea(F:#["toss","Doubter.toss",uZ])(B:Bl mg)(T:DTxt K mg C)(TG:GTxt K mg CG)(e9:#[1,"is_number",Wb,spIsNum])(b6:#[4,"value_at",WH,spVal])
 (mB:Meth K C "begin_rounds" fB)(GB:#[16,fB,fdB,WP,spBeg C CG])(bB:Binds K fdB WP [])
 (mG:Meth K C "go_on" fG)(GG:#[15,fG,fdG,WA,spGo C CG])(bG:Binds K fdG WA []):#[17,f,fd,Wc,spToss C CG]:=by
 exists Dh
 erw[D,g,z,r,ns,ts,p,1,%[dx,aA,aC,aH,aT|R],G,k,ea,r0,r1,tl,ro,po,q]at h;let hr15:Room 15 _:=hr.mono ⋯;refine⟨_,(ad (aM (am nI (aN ix_tup (aB (pv 0) rfl) ag #[1]) aI (az _)) bz aE)
  (ad (aM (jJ (fk (aD e9 hr ⋯ rfl %[1,aB (aB (pv 0) rfl) rfl|ae]))) bz aE)
  (ad (aR (pv 0) (aq aW (aB (pv 0) rfl) ag) rfl)
  (af (aM (am (rN hr.units) (aB (pv 0) rfl) (aU ae) (az _))
   (af (bb (bZ (pv 0) T.cl mB GB hr bB .nil bh %[1|ae])))
   (ad (aR (pv 0) (aD b6 hr ⋯ rfl %[aB (pv 0) rfl,1,aB (aB (pv 0) rfl) rfl|ae]) rfl)
   (ad (aR (pv 0) (aq GV (aB (pv 0) rfl) (aU %[1|ae])) rfl)
   (af (bb (bq (pv 0) T.cl mG GG hr15 bG .nil bh)))))))))),?_⟩
 let gD:=G.ne R.hD je;let G':=G;erw[a,b,d,tv,%[dg|hg],ha,hb,TS,hd]at G';erw[0,D,C,dx,_,0,R.hD,9,T.nA,Fl,aA,_,2,zC0 R.hA,bK (j:=0) (Iy _),1,0,6];apply xc (congrArg V.str ea) ?_;erw[0,0,D,C,dx,_,0,R.hD,9,T.nG,je,g,CG,dg,_,0,hg,TG.cl,TG.nF,hU ..,r,p,1,6];rw[zC1 r0,zC1 r1];erw[0,6];apply dG ?_;erw[0,D,C,dx,_,0,R.hD,9,T.nP,Aq,2,0,D,C,dx,0,R.hD,9,T.nP,cS,6];rw[vj];let S2:SameBut D H (upd H D (.ins C dx (dl g aA aC z.s aH aT z.ed (z.pl+1)))):=SameBut.upd _;let R2:DbR C (upd H D (.ins C dx (dl g aA aC z.s aH aT z.ed (z.pl+1)))) D g { z with pl:=z.pl+1 } dx aA aC aH aT:=DbR.set (z:={ z with pl:=z.pl+1 }) R.hD R.hA R.hC R.hH R.hT;let G2:=G.but R.hD gD S2;generalize upd H D (.ins C dx (dl g aA aC z.s aH aT z.ed (z.pl+1)))=H2 at S2 R2 G2;erw[0,D,C,dx,_,0,R2.hD,9,T.nH,JO,y0S,λu hu=>?_];let I:=zE0 hu (.tup []);let R3:=R2.same I;let hu3:upd H2 u (.tup []) u=some (.tup []):=ai;let G3:=G2.same I;generalize upd H2 u (.tup [])=H3 at I R3 hu3 G3;let S03:SameBut D H H3:=S2.trans (zL0 I);erw[_,_,kZ R3.hH,kZ (xs:=[]) hu3,kR _,kR [],0,6];rw[show PyData.eqv (.tuple (z.he.map PyData.int)) (.tuple (([]:List Int).map PyData.int))=decide (z.he=[])from Ao z.he]
 by_cases c:z.he=[]
 . apply bd c ?_;let e:dz ns ts p r z=xI ns ts p r { z with pl:=z.pl+1 }:=by
    unfold dz;rw[NE c]
   rw[e]at q;erw[0,D,dx,0,R3.hD,Iv,0,6];erw[D,g,_,r,ns,ts,p,1,%[dx,aA,aC,aH,aT|R3],G3,k,tl,po,λH5 S5 D5=>q H5 (S03.trans S5) D5]
 . apply aF c ?_;let%[rok|tl']:=ro c;let e:dz ns ts p r z=goOn ns ts p { z with pl:=z.pl+1,ed:=val p z.he r,to:=z.to++[r] }:=by
    unfold dz;rw[ND c]
   rw [e]at q;let G3':=G3;erw[a3,b3,d3,tv3,%[dg3|hg3],_]at G3';erw[0,D,C,dx,_,0,R3.hD,9,T.nH,JO,0,0,D,C,dx,_,0,R3.hD,9,T.nG,je,g,CG,dg3,_,0,hg3,TG.cl,TG.nF,hU ..,aH,z.he,r,p,1,.inr R3.hH,rok,k.pr,k.p9,r0,r1,λH4 S4=>?_];let R4:=R3.same S4;let G4:=G3.same S4;erw[0,D,C,dx,0,R4.hD,9,T.nE,cS,6];rw[yu];let S5:SameBut D H4 (upd H4 D (.ins C dx (dl g aA aC z.s aH aT (val p z.he r) (z.pl+1)))):=SameBut.upd _;let R5:DbR C (upd H4 D (.ins C dx (dl g aA aC z.s aH aT (val p z.he r) (z.pl+1)))) D g { z with pl:=z.pl+1,ed:=val p z.he r } dx aA aC aH aT:=DbR.set (z:={ z with pl:=z.pl+1,ed:=val p z.he r }) R4.hD R4.hA R4.hC R4.hH R4.hT;let G5:=G4.but R4.hD gD S5;generalize upd H4 D (.ins C dx (dl g aA aC z.s aH aT (val p z.he r) (z.pl+1)))=H5 at S5 R5 G5;let S05:SameBut D H H5:=S03.trans ((zL0 S4).trans S5);erw[0,D,C,dx,_,0,R5.hD,9,T.nT,zu,0,y1S,λt ht=>?_];let J:=zE0 ht (.tup [.int r]);let R6:=R5.same J;let G6:=G5.same J;let ht6:upd H5 t (.tup [.int r]) t=some (.tup [.int r]):=ai;generalize upd H5 t (.tup [.int r])=H6 at J R6 G6 ht6;let n10:=k.n10;let fin:∀(x:Addr)(H7:Hp),Same H6 H7->H7 x=some (.tup ((z.to++[r]).map V.int))->(ps_fin:True)->∀QQ:Hp->Prop,(∀H8,SameBut D H7 H8->DbR C H8 D g { z with pl:=z.pl+1,ed:=val p z.he r,to:=z.to++[r] } dx aA aC aH x->Gm CG H8 g ns ts p->QQ H8)->QQ (upd H7 D (.ins C dx (dl g aA aC z.s aH x (val p z.he r) (z.pl+1)))):=by
    intro x H7 s7 hx _ QQ hq;let R7:=R6.same s7;exact hq _ (SameBut.upd _) (DbR.set (z:={ z with pl:=z.pl+1,ed:=val p z.he r,to:=z.to++[r] }) R7.hD R7.hA R7.hC R7.hH hx) ((G6.same s7).but R7.hD gD (SameBut.upd _))
   let po2:bL (z.to++[r]) p:=λx hx=>by
    rcases qP0 hx with h | h
    . exact po x h
    . rw[NK h];erw[r0,r1]
   let tl2:(z.to++[r]).length<=ns.length:=by
    rw[zJ0,qK0];omega
   let S06:SameBut D H H6:=S05.trans (zL0 J);erw[aT,t,2,zC0 R6.hT,zC0 ht6,(λz=>by cases z),small (by rw[zF0];show z.to.length+1<=1000;omega),λz0=>?_,λz0 p7 hp7=>?_]
   . let e0:z.to=[]:=#[z0,0]
     erw[0,D,C,dx,0,R6.hD,9,T.nT,cS,6];rw[Dy];apply fin t H6 (Same.refl _) (by rw[e0];exact ht6) trivial _ λH8 S8 R8 G8=>?_
     erw[0,D,dx,0,R8.hD,Fk,6];erw[D,g,_,ns,ts,p,1,%[dx,aA,aC,aH,t|R8],G8,k,tl2,po2,λH9 S9 D9=>q H9 (S06.trans (S8.trans S9)) D9]
   . let L:=zE0 hp7 (.tup (z.to.map V.int++[.int r]));let R7:=R6.same L;erw[0,D,C,dx,0,R7.hD,9,T.nT,cS,6];rw[Dy];apply fin p7 _ L (by rw[ai,zK0];rfl) trivial _ λH8 S8 R8 G8=>?_
     erw[0,D,dx,0,R8.hD,Fk,6];erw[D,g,_,ns,ts,p,1,%[dx,aA,aC,aH,p7|R8],G8,k,tl2,po2,λH9 S9 D9=>q H9 (S06.trans ((zL0 L).trans (S8.trans S9))) D9]
instance spDInit(C CG:Addr):∀(D g dx:Addr)(ns:List Str)(ts:List Tr)(p:Int),vs=[.ref D,.ref g]->H D=some (.ins C dx [])->Gm CG H g ns ts p->g≠D->(∀H',SameBut D H H'->DbAt C H' D g (Db.new ts)->Q .non H'):=1
def Di:FnScope WI WI (ao va):=%[|5]
instance spOf(C:Addr)(t:Db->V->Hp->Prop):∀(D g:Addr)(z:Db),vs=[.ref D]->DbAt C H D g z->(∀v,t z v H->Q v H):=1
def Gw:FnScope WA WA (ao yr):=%[|5]
def Hd(F:#["due","Doubter.due",yr])(T:DTxt K mg C):#[1,f,fd,WA,spOf C λz v _=>v=.int z.ed]:=by
 exists Gw
 erw[D,g,z,1,%[dx,aA,aC,aH,aT|R],q]at h;erw[_,(af (ax (aB (pv 0) rfl))),6];erw[0,D,C,dx,_,0,R.hD,9,T.nE,Ar,q _ rfl]
def AY:FnScope WA WA (ao qX):=%[|5]
def Bv(F:#["waits","Doubter.waits",qX])(T:DTxt K mg C):#[1,f,fd,WA,spOf C λz v H=>∃a,v=.ref a/\H a=some (.tup (awV z.aw))]:=by
 exists AY
 erw[D,g,z,1,%[dx,aA,aC,aH,aT|R],q]at h;erw[_,(af (ax (aB (pv 0) rfl))),6];erw[0,D,C,dx,_,0,R.hD,9,T.nA,Fl,q _ %[aA,1|R.hA]]
end
section
variable {C CG:Addr}
def awD(a:Str×Option Int):PyData:=match a.2 with
 |none=>.tuple [.str a.1]
 |some n=>.tuple [.str a.1,.int n]
def IW{K:W.Frag}{H:Hp}{c:Addr}(h:H c=some (.tup (awV a))):Rep K H (.ref c) (awD a):=by
 erw[x,n]at a;cases n with
 |none=>exact .tup (zC0 h) (.cons (.str x) .nil)
 |some n=>exact .tup (zC0 h) (.cons (.str x) (.cons (.int n) .nil))
def AwW(x:Str):Prop:=x="hear"∨x="coin"∨x="caught"∨x="believed"
def AwW.ok(h:AwW x):PyData.strOk x=true:=by
 rcases h with rfl | rfl | rfl | rfl <;> decide
def tL{a:Str×Option Int}(h:AwW a.1):SeqAt.shaped (awD a)=true:=by
 erw[x,n]at a
 have:=h.ok
 cases n <;> simp [awD,SeqAt.shaped,PyData.canLay0,PyData.depth,PyData.canLayAll0,PyData.depthAll] <;> exact this
def Gh(x y:Str):(x==y)=decide (x=y):=by
 by_cases c:x=y
 . subst c;simp
 . rw[zB1 c];simpa using c
def JJ(a b:Str×Option Int):PyData.eqv (awD a) (awD b)=decide (a=b):=by
 erw[x,n]at a;erw[y,m]at b;cases n <;> cases m <;> simp [awD,PyData.eqv,PyData.eqvAll,Gh]
 rename_i u v
 by_cases c:u=v
 . subst c;simp
 . simp [c]
def pV:∀ns ms:List Int,PyData.eqvAll (ns.map PyData.int) (ms.map PyData.int)=decide (ns=ms)
 | [],[]=>rfl
 | [],_::_=>rfl
 |_::_,[]=>rfl
 |a::r,b::t=>by
   simp only[qE0,PyData.eqvAll,PyData.eqv,pV r t]
   by_cases h1:a=b <;> by_cases h2:r=t <;> simp [h1,h2]
def JH(ns ms:List Int):PyData.eqv (.list (ns.map PyData.int)) (.list (ms.map PyData.int))=decide (ns=ms):=by simp [PyData.eqv,pV]
def tK(ns:List Int):SeqAt.shaped (.list (ns.map PyData.int))=true:=by
 simp [SeqAt.shaped,PyData.canLay0,PyData.depth,W.ke_canLayAll0,W.ke_depthAll]
end
section
variable {C CG:Addr}
def d1(g:Addr):List (Str×V):=[("game",.ref g)]
def d2(g t1:Addr):List (Str×V):=[("game",.ref g),("awaited",.ref t1)]
def d3(g t1 t2:Addr):List (Str×V):=[("game",.ref g),("awaited",.ref t1),("claims",.ref t2)]
def d4(g t1 t2:Addr):List (Str×V):=[("game",.ref g),("awaited",.ref t1),("claims",.ref t2),("s",.int 0)]
def d5(g t1 t2 t3:Addr):List (Str×V):=[("game",.ref g),("awaited",.ref t1),("claims",.ref t2),("s",.int 0),("heard",.ref t3)]
def d6(g t1 t2 t3 t4:Addr):List (Str×V):=[("game",.ref g),("awaited",.ref t1),("claims",.ref t2),("s",.int 0),("heard",.ref t3),("tossed",.ref t4)]
def d7(g t1 t2 t3 t4:Addr):List (Str×V):=[("game",.ref g),("awaited",.ref t1),("claims",.ref t2),("s",.int 0),("heard",.ref t3),("tossed",.ref t4),("held",.int 0)]
def pd1(g:Addr):bY "game" (.ref g) []=d1 g:=by rfl'
def pd2(g t1:Addr):bY "awaited" (.ref t1) (d1 g)=d2 g t1:=by rfl'
def pd3(g t1 t2:Addr):bY "claims" (.ref t2) (d2 g t1)=d3 g t1 t2:=by rfl'
def pd4(g t1 t2:Addr):bY "s" (.int 0) (d3 g t1 t2)=d4 g t1 t2:=by rfl'
def pd5(g t1 t2 t3:Addr):bY "heard" (.ref t3) (d4 g t1 t2)=d5 g t1 t2 t3:=by rfl'
def pd6(g t1 t2 t3 t4:Addr):bY "tossed" (.ref t4) (d5 g t1 t2 t3)=d6 g t1 t2 t3 t4:=by rfl'
def pd7(g t1 t2 t3 t4:Addr):bY "held" (.int 0) (d6 g t1 t2 t3 t4)=d7 g t1 t2 t3 t4:=by rfl'
def pd8(g t1 t2 t3 t4:Addr):bY "places" (.int 0) (d7 g t1 t2 t3 t4)=dl g t1 t2 0 t3 t4 0 0:=by rfl'
def Eb(F:#["__init__","Doubter.__init__",va])(B:Bl mg)(T:DTxt K mg C)(TG:GTxt K mg CG):#[1,f,fd,WI,spDInit C CG]:=by
 exists Di
 erw[D,g,dx,ns,ts,p,1,hD,G,gD,q]at h;refine⟨_,(ad (aR (pv 0) (pv 1) rfl)
  (ad (aR (pv 0) (aU %[aI,aJ aG rfl B.len zD1 %[aB (pv 1) rfl|ae]|ae]) rfl)
  (ad (aR (pv 0) (aU ae) rfl)
  (ad (aR (pv 0) ag rfl)
  (ad (aR (pv 0) (aU ae) rfl)
  (ad (aR (pv 0) (aU ae) rfl)
  (ad (aR (pv 0) ag rfl)
  (af (aR (pv 0) ag rfl))))))))),?_⟩
 erw[a,b,d,tv,%[dg|hg],ha,hb,TS,hd]at G;let vl:=TS.length;erw[0,0,D,C,dx,0,hD,9,T.nG,(by show 0<1000;decide),6];rw[pd1];let S1:SameBut D H (upd H D (.ins C dx (d1 g))):=SameBut.upd _;let h1:upd H D (.ins C dx (d1 g)) D=some (.ins C dx (d1 g)):=ai;generalize upd H D (.ins C dx (d1 g))=H1 at S1 h1;let nb:=bu hb hD nofun;erw[0,g,CG,dg,_,0,S1 _ _ gD hg,TG.cl,TG.nT,lJ ..,b,0,.inr (zC0 (S1 _ _ nb hb)),y2S,λt1 ht1=>?_];let I1:=zE0 ht1 (.tup [.str "hear",.int (tv.length:Int)]);let g1:upd H1 t1 (.tup [.str "hear",.int (tv.length:Int)]) t1=some (.tup [.str "hear",.int (tv.length:Int)]):=ai;generalize upd H1 t1 (.tup [.str "hear",.int (tv.length:Int)])=H2 at I1 g1;erw[0,D,C,dx,0,I1 _ _ h1,9,T.nA,(by show 1<1000;decide),6];rw[pd2];let n1:t1≠D:=(aP h1 ht1).symm;let S2:SameBut D H2 (upd H2 D (.ins C dx (d2 g t1))):=SameBut.upd _;let h2:upd H2 D (.ins C dx (d2 g t1)) D=some (.ins C dx (d2 g t1)):=ai;let k1:=S2 _ _ n1 g1;generalize upd H2 D (.ins C dx (d2 g t1))=H3 at S2 h2 k1;erw[y0S,λt2 ht2=>?_];let I2:=zE0 ht2 (.tup []);let g2:upd H3 t2 (.tup []) t2=some (.tup []):=ai;generalize upd H3 t2 (.tup [])=H4 at I2 g2;erw[0,D,C,dx,0,I2 _ _ h2,9,T.nC,(by show 2<1000;decide),6];rw[pd3];let n2:t2≠D:=(aP h2 ht2).symm;let S3:SameBut D H4 (upd H4 D (.ins C dx (d3 g t1 t2))):=SameBut.upd _;let h3:upd H4 D (.ins C dx (d3 g t1 t2)) D=some (.ins C dx (d3 g t1 t2)):=ai;generalize upd H4 D (.ins C dx (d3 g t1 t2))=H5 at S3 h3;erw[0,D,C,dx,0,h3,9,T.nS,(by show 3<1000;decide),6];rw[pd4];let S4:SameBut D H5 (upd H5 D (.ins C dx (d4 g t1 t2))):=SameBut.upd _;let h4:upd H5 D (.ins C dx (d4 g t1 t2)) D=some (.ins C dx (d4 g t1 t2)):=ai;generalize upd H5 D (.ins C dx (d4 g t1 t2))=H6 at S4 h4;erw[y0S,λt3 ht3=>?_];let I3:=zE0 ht3 (.tup []);let g3:upd H6 t3 (.tup []) t3=some (.tup []):=ai;generalize upd H6 t3 (.tup [])=H7 at I3 g3;erw[0,D,C,dx,0,I3 _ _ h4,9,T.nH,(by show 4<1000;decide),6];rw[pd5];let n3:t3≠D:=(aP h4 ht3).symm;let S5:SameBut D H7 (upd H7 D (.ins C dx (d5 g t1 t2 t3))):=SameBut.upd _;let h5:upd H7 D (.ins C dx (d5 g t1 t2 t3)) D=some (.ins C dx (d5 g t1 t2 t3)):=ai;generalize upd H7 D (.ins C dx (d5 g t1 t2 t3))=H8 at S5 h5;erw[y0S,λt4 ht4=>?_];let I4:=zE0 ht4 (.tup []);let g4:upd H8 t4 (.tup []) t4=some (.tup []):=ai;generalize upd H8 t4 (.tup [])=H9 at I4 g4;erw[0,D,C,dx,0,I4 _ _ h5,9,T.nT,(by show 5<1000;decide),6];rw[pd6];let n4:t4≠D:=(aP h5 ht4).symm;erw[0,D,C,dx,0,ai,9,T.nE,(by show 6<1000;decide),6];rw[pd7];erw[0,D,C,dx,0,ai,9,T.nP,(by show 7<1000;decide),6];rw[pd8];let W:∀{x:Addr} {H':Hp} {o1 o2 o3:HO} {u:HO},x≠D->H' x=some u->upd (upd (upd H' D o1) D o2) D o3 x=some u:=λ{x H' o1 o2 o3 u} n e=>by
  rw[ay n,ay n,ay n];exact e
 let k2:=S3 _ _ n2 g2;let k3:=S5 _ _ n3 g3;apply q _ (S1.trans ((zL0 I1).trans (S2.trans ((zL0 I2).trans (S3.trans (S4.trans ((zL0 I3).trans (S5.trans ((zL0 I4).trans ((SameBut.upd _).trans ((SameBut.upd _).trans (SameBut.upd _)))))))))))) %[dx,t1,t2,t3,t4,ai,6,6,6|W n4 g4]
 . rw[vl]at k1;exact W n1 (I4 _ _ (S5 _ _ n1 (I3 _ _ (S4 _ _ n1 (S3 _ _ n1 (I2 _ _ k1))))))
 . exact W n2 (I4 _ _ (S5 _ _ n2 (I3 _ _ (S4 _ _ n2 k2))))
 . exact W n3 (I4 _ _ k3)
end
def eI(o:Str)(p q:Bool):Bool:=if o="and" then p&&q else if o="or" then p||q else if o="odd" then p != q else p==q
def Tr.holds(ns:List Str)(st:List Int):Tr->Bool
 |.is x=>match fc x ns with | some j=>decide (st.getD j 0=1) | none=>false
 |.yes=>true
 |.no=>false
 |.not a=>!a.holds ns st
 |.bin o a b=>eI o (a.holds ns st) (b.holds ns st)
instance spJoined:∀(o:Str)(p q:Bool),vs=[.str o,.bl p,.bl q]->Q (.bl (eI o p q)) H:=1
def AV:FnScope Wd Wd (ao qU):=%[|5]
def Bs(F:#["joined",qU]):#[1,f,fd,Wd,spJoined]:=by
 exists AV
 erw[o,p,q,1,k]at h;refine⟨_,(ad (aM (am aS (pv 0) aI (az _)) (af (ax (vn (pv 1) (rJ (pv 2))))) aE)
  (ad (aM (am aS (pv 0) aI (az _)) (af (ax (Ih (pv 1) (rJ (pv 2))))) aE)
  (ad (aM (am aS (pv 0) aI (az _)) (af (ax (dy nI (pv 1) (pv 2) (az _)))) aE)
  (af (ax (dy aS (pv 1) (pv 2) (az _))))))),?_⟩
 erw[0,1,0,6]
 by_cases c1:V.str o=V.str "and"
 . apply bd c1 ?_;let e:eI o p q=(p&&q):=by unfold eI;rw[NE (eW c1)]
   rw[e]at k;erw[0,p,1,6];cases p with
   |true=>exact eU %[0|by simpa using k]
   |false=>exact dG #[k,0]
 apply aF c1 ?_;let n1:¬ o="and":=λz=>c1 (by rw[z])
 erw[0,1,0,6]
 by_cases c2:V.str o=V.str "or"
 . apply bd c2 ?_;let e:eI o p q=(p||q):=by unfold eI;rw[ND n1,NE (eW c2)]
   rw[e]at k;erw[0,p,1,6];cases p with
   |true=>exact eU #[k,0]
   |false=>exact dG %[0|by simpa using k]
 apply aF c2 ?_;let n2:¬ o="or":=λz=>c2 (by rw[z])
 erw[0,1,0,6]
 by_cases c3:V.str o=V.str "odd"
 . apply bd c3 ?_;let e:eI o p q=(p != q):=by unfold eI;rw[ND n1,ND n2,NE (eW c3)]
   rw[e]at k;erw[0,0,1,6];let e2:(!decide (V.bl p=V.bl q))=(p != q):=by cases p <;> cases q <;> decide
   show Q (.bl (!decide (V.bl p=V.bl q))) H;rw[e2];exact k
 apply aF c3 ?_;let n3:¬ o="odd":=λz=>c3 (by rw[z])
 let e:eI o p q=(p==q):=by unfold eI;rw[ND n1,ND n2,ND n3]
 rw[e]at k;erw[0,0,1,6];let e2:decide (V.bl p=V.bl q)=(p==q):=by cases p <;> cases q <;> decide
 show Q (.bl (decide (V.bl p=V.bl q))) H;rw[e2];exact k
instance spHolds(n:Nat):∀(v:V)(t:Tr)(a b:Addr)(ns:List Str)(st:List Int),vs=[v,.ref a,.ref b]->TreeAt H v t->t.ok ns->t.depth<=n->NamesAt H a ns->H b=some (.tup (st.map V.int))->st.length=ns.length->Q (.bl (t.holds ns st)) H:=1
def kO:FnScope ["tree","switches","setting","word","first"] WW (ao jE):=%[|5]
def zn{n:Nat}(F:#["holds_at",jE])(gR:#[1,"joined",Wd,spJoined])(fL:#[n+2,"holds_at",WW,spHolds n]):#[n+3,f,fd,WW,spHolds (n+1)]:=by
 exists kO
 erw[v,t,a,b,ns,st,1,T,ok,dn,hN,hb,sl,k]at h;refine⟨_,(ad #[aj,3,kO,aN ix_tup (pv 0) ag #[1]]
  (ad (aM (am aS (pv 3) aI (az _)) (af (ax (dy aS (aN ix_tup (pv 2) (rK zF1 jV0 (pv 1) %[aN ix_tup (pv 0) ag #[1]|ae]) #[1]) ag (az _)))) aE)
  (ad (aM (PW.pt (kH (am aS (pv 3) aI (az _)) (jI (am aS (pv 3) aI (az _))))) (af (ax (dy aS (pv 3) aI (az _)))) aE)
  (ad #[aj,4,kO,aD fL hr (zH0 _) rfl %[aN ix_tup (pv 0) ag #[1],1,2|ae]]
  (ad (aM (am aS (pv 3) aI (az _)) (af (ax (yz (pv 4)))) aE)
  (af (ax (aD gR hr #[0] rfl %[3,4,aD fL hr (zH0 _) rfl %[aN ix_tup (pv 0) ag #[1],1,2|ae]|ae])))))))),?_⟩
 cases T with
 | @is p x e=>
   erw[0,p,_,(0),0,1,zC0 e,1,6];erw[0,1,0,6];apply bd rfl ?_;let%[j,hj|jl]:=gq ok;let jl':j<st.length:=#[0]
   erw[0,0,a,ns,1,hN,0,p,_,(1),0,1,zC0 e,1,1,x,j,1,hj,b,_,(j:Int),.int st[j],1,1,zC0 hb,6,1,6]
   . apply bK ?_;rw[zW0,zM0 jl'];rfl
   . let e1:(Tr.is x).holds ns st=decide (V.int st[j]=V.int 1):=by
      show(match fc x ns with | some j=>decide (st.getD j 0=1) | none=>false)=_;rw[hj];show decide (st.getD j 0=1)=_;rw[qG0,zM0 jl']
      simp
     rw[e1]at k;exact k
 | @yes p e=>
   erw[0,p,_,(0),0,1,zC0 e,1,6];erw[0,1,0,6];apply aF ⋯ ?_;erw[0,1,0,6];apply bd rfl (eU ?_);erw[0,1,k]
 | @no p e=>
   erw[0,p,_,(0),0,1,zC0 e,1,6];erw[0,1,0,6];apply aF ⋯ ?_;erw[0,1,0,6];apply aF ⋯ ?_;erw[0,1,0,6];apply bd rfl ?_;erw[0,1,6];let e1:decide (V.str "no"=V.str "yes")=false:=by decide
   show Q (.bl (decide (V.str "no"=V.str "yes"))) H;rw[e1];exact k
 | @not p u r e T1=>
   let dp:r.depth+1<=n+1:=dn;erw[0,p,_,(0),0,1,zC0 e,1,6];erw[0,1,0,6];apply aF ⋯ ?_;erw[0,1,0,6];apply aF ⋯ ?_;erw[0,1,0,6];apply aF ⋯ ?_;erw[0,p,_,(1),0,1,zC0 e,1,0,0,u,r,a,b,ns,st,1,T1,ok,3,hN,hb,sl,6];erw[0,1,0,6];apply bd rfl ?_;erw[0,0,k]
 | @bin p o u u2 r r2 e T1 T2=>
   erw[ho,ok1,ok2]at ok;let dp:max r.depth r2.depth+1<=n+1:=dn;let ne:∀z:Str,z∉joinW->¬ V.str o=V.str z:=λz hz h=>hz (eW h▸ho)
   erw[0,p,_,(0),0,1,zC0 e,1,6];erw[0,1,0,6];apply aF (ne _ ⋯) ?_;erw[0,1,0,6];apply aF (ne _ ⋯) ?_;erw[0,1,0,6];apply aF (ne _ ⋯) ?_;erw[0,p,_,(1),0,1,zC0 e,1,0,0,u,r,a,b,ns,st,1,T1,ok1,3,hN,hb,sl,6];erw[0,1,0,6];apply aF (ne _ ⋯) ?_;erw[0,0,0,p,_,(2),0,1,zC0 e,1,0,0,u2,r2,a,b,ns,st,1,T2,ok2,3,hN,hb,sl,6];erw[o,_,0,k]
def zm:#[2,f,fd,WW,spHolds 0]:=by
 let no:∀vs H Q E,¬ spHolds 0 vs H Q E:=λvs H Q E h=>by
  erw[v,t,_,_,_,_,_,_,_,h1,_]at h
  have:=t.depth_pos
  omega
 exists 3
def pN(F:#["holds_at",jE])(m:mg "holds_at"=some (.ref f))(gR:#[1,"joined",Wd,spJoined]):
 ∀n:Nat,#[n+2,f,fd,WW,spHolds n]
 |0=>zm
 |n+1=>zn F gR (Cal.of F (pN F m gR n) m (λ_ _ _ _ _ _ us hl=>by let%[u0,u1,u2|1]:=EJ hl;rfl))
def Iz(H:Hp)(v:V)(s:List Int):Prop:=∃a,v=.ref a/\H a=some (.tup (s.map V.int))
abbrev TupsAt(H:Hp):List V->List (List Int)->Prop:=PySem.Paired (Iz H)
def FJ(H:Hp)(r:Addr)(ss:List (List Int)):Prop:=∃rs,H r=some (.lst rs)/\TupsAt H rs ss
def TupsAt.mono{H H':Hp}(k:∀a xs,H a=some (.tup xs)->H' a=some (.tup xs)):∀{rs:List V}{ss:List (List Int)},TupsAt H rs ss->TupsAt H' rs ss
 |_,_,.nil=>.nil
 |_,_,.cons ⟨a,e,h⟩ t=>.cons %[a,e|k _ _ h] (TupsAt.mono k t)
def TupsAt.get:∀{rs:List V}{ss:List (List Int)}{i:Nat}{v:V},TupsAt H rs ss->rs[i]?=some v->∃s,ss[i]?=some s/\Iz H v s
 |_,_,_,_,.nil,h=>by simp at h
 |_,_,0,_,.cons h _,e=>by
   simp at e
   subst e;erw[0,h]
 |_,_,i+1,v,.cons _ t,e=>by
   let%[s,h1|h2]:=TupsAt.get (i:=i) t #[e,0];erw[s,by simpa using h1,h2]
def BL{ys:List V}(s:SameBut b H H')(h:H b=some (.lst ys)∨H b=none):∀a xs,H a=some (.tup xs)->H' a=some (.tup xs):=λa xs e=>s a _ (λz=>by
 rw[z]at e;rcases h with h | h
 . rw[h]at e;cases e
 . rw[h]at e;cases e) e
def xF{K:W.Frag}{H1:Hp}{a p:Addr}{s:List Int}{z:Int}{Q:VK}(ha:H1 a=some (.tup (s.map V.int)))(hp:H1 p=some (.tup [.int z]))(hl:s.length<=100)
 (q:∀t H2,Same H1 H2->H2 t=some (.tup ((s++[z]).map V.int))->Q (.ref t) H2):rCatT K (.ref a) (.ref p) H1 Q∨rCatT0 K (.ref a) (.ref p) H1 Q:=by
 cases s with
 |nil=>exact .inr %[a,p,0,1,zC0 ha,zC0 hp|q p H1 (Same.refl _) hp]
 |cons x r=>
   refine .inl %[a,p,2,zC0 ha,zC0 hp,by simp,small (by simp at hl ⊢;omega),(λz=>nomatch z)|(λ_ t ht=>q t _ (zE0 ht _) ?_)];rw[ai,zK0];rfl
instance spSetts:∀n:Int,vs=[.int n]->0<=n->n<=6->(∀(r:Addr)(H':Hp),H r=none->Same H H'->FJ H' r (cG n.toNat)->Q (.ref r) H'):=1
def c8:FnScope ["n","told","switch","longer","setting"] ["n"] (ao ir):=%[|5]
def qh(F:#["all_settings",ir])(hrange:mg "range"=none):#[1,f,fd,["n"],spSetts]:=by
 exists c8
 erw[n,1,n0,n6,q]at h;refine⟨_,(ad #[aj,1,c8,cq %[aU ae|ae]]
  (ad (cx zE1 rfl (bJ rfl hrange %[0|ae]) (aX (i:=2) c8.nd rfl (.inl rfl)) (ad #[aj,3,c8,cq ae]
   (ad (cx zE1 rfl (dU (pv 1)) (aX (i:=4) c8.nd rfl (.inl rfl)) (ad (bb (eR zF1 zM1 zN1 cP (pv 3) %[aq (op_catT.or nJ) (pv 4) (aU %[ag|ae])|ae]))
    (af (bb (eR zF1 zM1 zN1 cP (pv 3) %[aq (op_catT.or nJ) (pv 4) (aU %[ag|ae])|ae])))))
   (af #[aj,1,c8,pv 3]))))
  (af (ax (pv 1))))),?_⟩
 erw[y0S,λp hp=>?_];erw[y1S,λa ha=>?_];let np:p≠a:=λz=>by
  subst z;rw[ai]at ha;cases ha
 let ha0:H a=none:=(zE0 hp _).free ha;refine⟨_,rfl,n,rfl,#[0],#[0],dH (λi σ H'=>∃(a:Addr)(x2 x3 x4:Option V),σ=[some (.int n),some (.ref a),x2,x3,x4]/\H a=none/\Same H H'/\FJ H' a (cG i))
  %[a,_,_,0,ha0,(zE0 hp _).trans (zE0 ha _),[.ref p],ai|.cons ⟨p,rfl,by rw[ay np,ai];rfl⟩ .nil] ?_ ?_⟩
 . rintro i σ H' hi ⟨a,x2,x3,x4,rfl,a0,s0,rs,hrs,T⟩;let i6:i<6:=#[0]
   let sl:=gl i;let s64:=iT (n:=i) #[0];erw[y0S,λb hb=>?_];let ab:a≠b:=aP hrs hb;refine⟨_,rfl,a,rfl,%[_|zG0 (by rw[ay ab];exact hrs)],gN (K:=K) (xs:=rs) (λj σ H2=>∃(x4:Option V)(bs:List V),σ=[some (.int n),some (.ref a),some (.int (0+(i:Int))),some (.ref b),x4]/\SameBut b H' H2/\H2 b=some (.lst bs)/\TupsAt H2 bs (((cG i).take j).flatMap λs=>[s++[0],s++[1]]))
    %[_,[],1,SameBut.upd _,ai|.nil] (λj σ H2 _ NI=>by erw[_,_,_,sb,_]at NI;exact zG0 (sb a _ ab hrs)) ?_ ?_⟩
   . rintro j y σ H2 hj ⟨x4,bs,rfl,sb,hbs,TB⟩;let T2:TupsAt H2 rs (cG i):=T.mono (BL (ys:=[]) sb (.inr hb));let%[s,hs,t,1|ht]:=T2.get hj;let hsm:s∈cG i:=qC0 hs;let hsl:=eO i s hsm;let hbl:=TB.length;rw[oZ,qJ0]at hbl;erw[0,.inl %[1,_|zG0 hbs],6];erw[0,y1S,λp1 hp1=>?_];let S1:Same H2 (upd H2 p1 (.tup [.int 0])):=zE0 hp1 _;apply xF (s:=s) (z:=0) (S1 _ _ ht) ai #[0] λt1 H3 S3 e3=>?_
     let S13:Same H2 H3:=S1.trans S3;erw[b,bs,0,1,S13 _ _ hbs,aO #[0],6];let K4:=dP (H:=H3) (b:=b) (ys:=bs) (zs:=bs++[.ref t1]) (S13 _ _ hbs);let e4:=K4 _ _ e3;let t4:=K4 _ _ (S13 _ _ ht);erw[0,.inl %[1,_|zG0 ai],6];erw[0,y1S,λp2 hp2=>?_];let S4:Same (upd H3 b (.lst (bs++[.ref t1]))) (upd (upd H3 b (.lst (bs++[.ref t1]))) p2 (.tup [.int 1])):=zE0 hp2 _;apply xF (s:=s) (z:=1) (S4 _ _ t4) ai #[0] λt2 H5 S5 e5=>?_
     let S45:=S4.trans S5;let hb5:H5 b=some (.lst (bs++[.ref t1])):=S45 _ _ ai;erw[b,bs++[.ref t1],0,1,hb5,aO (by rw[zJ0,qK0];omega),6];let K6:=dP (H:=H5) (b:=b) (ys:=bs++[.ref t1]) (zs:=bs++[.ref t1]++[.ref t2]) hb5;erw[_,bs++[.ref t1]++[.ref t2],1,6,ai,6]
     . let q1:SameBut b H' H3:=sb.trans (zL0 S13);let q2:SameBut b H' H5:=(q1.trans (SameBut.upd _)).trans (zL0 S45);exact q2.trans (SameBut.upd _)
     . let hbase:TupsAt (upd H5 b (.lst (bs++[.ref t1]++[.ref t2]))) bs (((cG i).take j).flatMap λs=>[s++[0],s++[1]]):=
        TB.mono λa xs e=>K6 _ _ (S45 _ _ (K4 _ _ (S13 _ _ e)))
       rw[zZ0,hs,wU1];let e:((some s).toList.flatMap λs:List Int=>[s++[0],s++[1]])=[s++[0]]++[s++[1]]:=by simp
       rw[e,←jD1];exact(hbase.snoc %[t1,1|K6 _ _ (S45 _ _ e4)]).snoc ⟨t2,rfl,K6 _ _ e5⟩
   . rintro σ H2 ⟨x4,bs,rfl,sb,hbs,TB⟩;let rl:=T.length;rw[rl,qA0]at TB;erw[0,b,_,_,0,s0.free hb,s0.but (s0.free hb) sb,bs,hbs,TB]
 . rintro σ H' ⟨a,x2,x3,x4,rfl,a0,s0,S⟩;erw[0,q a H' a0 s0 S]
def cnt(t:Tr)(ns:List Str):Nat:=((cG ns.length).filter λst=>t.holds ns st).length
instance spCount:∀(v:V)(t:Tr)(a:Addr)(ns:List Str),vs=[v,.ref a]->TreeAt H v t->t.ok ns->t.depth<=12->NamesAt H a ns->ns.length<=6->(∀H',Same H H'->Q (.int (cnt t ns:Int)) H'):=1
def u5:FnScope ["tree","switches","holding"] Wp (ao lZ):=%[|5]
def wK(F:#["count_of",lZ])(hlen:mg "len"=none)(dq:#[1,"all_settings",["n"],spSetts])(fL:#[14,"holds_at",WW,spHolds 12]):#[15,f,fd,Wp,spCount]:=by
 exists u5
 erw[v,t,a,ns,1,T,ok,dp,hN,nl,q]at h;refine⟨_,(ad (nn (i:=2) (N:=Wp) (ix:=[0,1]) u5.nd rfl (.inl rfl) rfl
  #[4] rfl
  (dU (aD dq hr ⋯ rfl %[aJ aG rfl hlen zD1 %[1|ae]|ae]))
  (λ_ _ _=>Ii (fk (aD fL hr ⋯ rfl %[1,2,0|ae])) (pv 0)))
  (af (ax (aJ aG rfl hlen zD1 %[2|ae])))),?_⟩
 let en:((ns.map V.str).length:Int)=(ns.length:Int):=by rw[zF0]
 erw[0,a,0,hN.seq,0,3,3,λr H1 r0 S1 R1=>?_];rw[en]at R1;let e2:((ns.length:Int)).toNat=ns.length:=#[0]
 rw[e2]at R1;erw[rs,hrs,TS]at R1;let rl:=TS.length;let sl:=gl ns.length;let s64:=iT nl;erw[r,1,%[_|zG0 hrs],λD hD=>?_];apply ig (K:=K) (xs:=rs) (λi H'=>∃ys,H' D=some (.lst ys)/\ys.length=(((cG ns.length).take i).filter λst=>t.holds ns st).length/\Same H1 H') %[[],ai,1|zE0 hD _] (λi H' _ NI=>by erw[_,_,_,h]at NI;exact zG0 (h _ _ hrs)) ?_ ?_
 . rintro i x H2 hx ⟨ys,hl,yl,S2⟩;let hi:i<rs.length:=(zX0 hx).1;let TS2:=TS.mono (aV S2);let%[st,NI,b,1|hb]:=TS2.get hx;let stl:=eO _ _ (qC0 NI);let S02:=S1.trans S2;let tk:((cG ns.length).take (i+1)).filter (λst=>t.holds ns st)=((cG ns.length).take i).filter (λst=>t.holds ns st)++[st].filter (λst=>t.holds ns st):=by
    rw[zZ0,NI,qL1];rfl
   erw[0,0,0,v,t,a,b,ns,st,1,T.mono (aV S02),ok,dp,hN.same S02,hb,stl,0,6];cases c:t.holds ns st with
   |true=>
     apply eU ?_;erw[0,ys,hl,6,Nx.of hi %[_,ai,6|λb' o e=>?_]]
     . have:=jO0 (λst=>t.holds ns st) ((cG ns.length).take i)
       rw[qJ0]at this;exact aO #[0]
     . rw [tk,zJ0,zJ0,yl]
       simp [c]
     . rw[ay (aP e hD)];exact S2 _ _ e
   |false=>
     apply dG ?_;apply Nx.of hi %[ys,hl,6|S2];rw[tk,zJ0,yl]
     simp [c]
 . rintro H2 ⟨ys,hl,yl,S2⟩;let e3:rs.length=(cG ns.length).length:=rl;rw[e3,qA0]at yl;erw[0,D,0,.inl (zG0 hl),6];rw[yl];exact q H2 (S1.trans S2)
instance spCounts(C:Addr):∀(g a b d:Addr)(ns:List Str)(tv:List V)(ts:List Tr)(p:Int),vs=[.ref g]->GameAt C H g a b d p->H a=some (.tup (ns.map V.str))->ns.length<=6->H b=some (.tup tv)->TreesAt H tv ts->ts.length<=10->(∀t∈ts,t.ok ns/\t.depth<=12)->(∀(l:Addr)(H':Hp),H l=none->Same H H'->H' l=some (.lst ((ts.map λt=>(cnt t ns:Int)).map V.int))->Q (.ref l) H'):=1
def uK:FnScope WE WE (ao kC):=%[|5]
def vB(F:#["counts_of",kC])(T:GTxt K mg C)(mK:#[15,"count_of",Wp,spCount]):#[16,f,fd,WE,spCounts C]:=by
 exists uK
 erw[g,a,b,d,ns,tv,ts,p,1,%[dx|hg],ha,nl,hb,TS,t10,tok,q]at h;refine⟨_,(af (ax (cH (N:=WE) (ix:=[0]) rfl
  #[3] rfl
  (fo (aB (pv 0) rfl)) (λ_ _ _=>cE (aD mK hr ⋯ rfl %[0,ld K (pv 1)|ae]))))),?_⟩
 let vl:=TS.length;erw[0,g,C,dx,_,0,hg,9,T.nT,lJ ..,b,1,%[_|zC0 hb],λD hD=>?_];apply eV (K:=K) (xs:=tv) (λi H'=>H' D=some (.lst (((ts.take i).map λt=>(cnt t ns:Int)).map V.int))/\Same H H') %[by rw[ai];rfl|zE0 hD _] (λi H' _ h=>zC0 (h.2 _ _ hb)) ?_ ?_
 . rintro i z H2 hz ⟨hl,S2⟩;let%[t,ht|Tt]:=TS.get hz;let%[tk|td]:=tok t (qC0 ht);let hi:i<tv.length:=(zX0 hz).1;erw[0,0,g,C,dx,_,0,S2 _ _ hg,9,T.nS,pU ..,z,t,a,ns,1,Tt.mono (aV S2),tk,td,.inr (S2 _ _ ha),nl,λH3 S3=>?_];erw[_,S3 _ _ hl,6,Nx.of hi %[6|λb' o' e'=>?_]]
   . rw[zF0,zF0,qJ0];exact aO #[0]
   . rw[ai,zZ0,ht,zK0,zK0];rfl
   . rw[ay (aP e' hD)];exact S3 _ _ (S2 _ _ e')
 . rintro H2 ⟨hl,S2⟩;rw[vl,qA0]at hl;exact q D H2 hD S2 hl
def iy(s:Int):List Int->Int
 | []=>0
 |a::r=>a+s*iy s r
def oh(s p:Int):∀ns,hor s p ns=iy s ns % p
 | []=>(jQ1 p).symm
 |a::r=>by
   show(hor s p r*s+a) % p=(a+s*iy s r) % p;rw[oh s p r,jO1,jN0,jB0,←jN0,←jO1,qX0,vL1]
def mI:∀(n:Nat)(s:List Int),s∈cG n->∀x∈s,x=0∨x=1
 |0,s,h,x,hx=>by
   have:s=[]:=by simpa [cG]using h
   subst this;cases hx
 |n+1,s,h,x,hx=>by
   rw[cG,List.mem_flatMap]at h;erw[t,ht,hs]at h
   simp at hs
   rcases hs with rfl | rfl
   . rcases qP0 hx with h | h
     . exact mI n t ht x h
     . exact .inl (NK h)
   . rcases qP0 hx with h | h
     . exact mI n t ht x h
     . exact .inr (NK h)
def qz{K:W.Frag}{H1:Hp}{a b:Addr}{xs ys:List Int}{Q:VK}(ha:H1 a=some (.tup (xs.map V.int)))(hb:H1 b=some (.tup (ys.map V.int)))(hl:xs.length+ys.length<=100)
 (q:∀t H2,Same H1 H2->H2 t=some (.tup ((xs++ys).map V.int))->Q (.ref t) H2):rCatT K (.ref a) (.ref b) H1 Q∨rCatT0 K (.ref a) (.ref b) H1 Q:=by
 cases xs with
 |nil=>exact .inr %[a,b,0,1,zC0 ha,zC0 hb|q b H1 (Same.refl _) hb]
 |cons x r=>
   refine .inl %[a,b,2,zC0 ha,zC0 hb,by simp,small (by simp at hl ⊢;omega),(λz=>?_)|(λ_ t ht=>q t _ (zE0 ht _) ?_)]
   . cases ys with
     |nil=>
       apply q a H1 (Same.refl _) ?_;rw[qR1];exact ha
     |cons y r2=>exact nomatch z
   . rw[ai,zK0]
def cR(ns:List Str)(ts:List Tr)(s p:Int)(pt:List Int):Int:=((cG (ns.length-pt.length)).map λst=>iy s (ts.map λt=>t.worth ns (pt++st) p)).sum % p
def zK{α:Type}(p:Int)(f:α->Int):∀l:List α,(l.map λx=>f x % p).sum % p=(l.map f).sum % p
 | []=>rfl
 |a::r=>by
   rw[qE0,qE0,zX1,zX1,jO1,jB0,zK p f r,←jO1]
def zJ{α:Type}{p:Int}(hp:0<p)(f:α->Int)(h:∀x,0<=f x/\f x<p):∀l:List α,0<=(l.map f).sum/\(l.map f).sum<=p*l.length
 | []=>%[qB1 0|by simp]
 |a::r=>by
   let h1:=h a;let h2:=zJ hp f h r;rw[qE0,zX1,zP0];erw[3,6]
   have:p*((r.length+1:Nat):Int)=p*(r.length:Int)+p:=by
    rw[jN1,vH0]
    simp
   omega
def wy(h:bL a p)(h2:bL b p):bL (a++b) p:=λx hx=>by
 rcases qP0 hx with e | e
 . exact h x e
 . exact h2 x e
def pt01{b:List Int}(h:bL a p)(p1:1<p)(h2:∀x∈b,x=0∨x=1):bL (a++b) p:=wy h λx hx=>by rcases h2 x hx with e | e <;> omega
def qo{X:Cx}(K:W.Frag)(hK:X.K=K:=by rfl):OpR X (binaryOp .Add) (λx y H Q=>rCatT K x y H Q∨rCatT0 K x y H Q):=by subst hK;exact op_catT.or nJ
def xy{ts:List Tr}(h0:ts≠[]):0<=aY ts x:=by
 have:=kI (ns:=ts.map λt=>(t.names.count x:Int)) #[h0,0]
 let%[t,ht|e]:=List.mem_map.mp this;unfold aY;rw[←e];exact jW1 _
def fh(ns:List Str)(ts:List Tr)(s p:Int)(cs:List Int)(n:Nat):List Int:=(List.range n).map λk:Nat=>cR ns ts s p (cs++[(k:Int)])
def IP{d:Int}{i:Nat}(hi:i<(d+1).toNat)(h:d<=500):((fh ns ts s p cs i).map V.int).length<sizeLine:=by
 unfold fh;rw[zF0,zF0,qO0];exact aO #[0]
def ptI{d:Int}{i:Nat}(h:bL a p)(hi:i<(d+1).toNat)(hd:d<p):bL (a++[(i:Int)]) p:=wy h λx hx=>by
 rw[NK hx];omega
def cat1{n k:Nat}(h:n<k)(h6:k<=6):n+([(0:Int)]:List Int).length<=100/\n+1<=k:=by
 rw[qK0];omega
def s64{n k:Nat}(h6:n<=6):(cG (n-(k+1))).length<=64:=by
 let s64:=gl (n-(k+1));let p64:=iT (n:=n-(k+1)) #[0];omega
def IO{α:Type}{f:α->Int}{l:List α}{j:Nat}(h:l.length<=64):(((l.take j).map f).map V.int).length<sizeLine:=by
 rw[zF0,zF0,qJ0];exact aO #[0]
def sum63{p x:Int}{n:Nat}(p0:0<p)(p40:p<2 ^ 40)(h:n<=64)(hx:x<=p*(n:Int)):x<2 ^ 63:=by
 have:p*(n:Int)<=p*64:=qW0 #[0] #[0]
 omega
def FV{K:W.Frag}{Q:VK}(h:IntsAt H c cs)(q:∀ah H1,Same H H1->H1 ah=some (.tup (cs.map V.int))->Q (.ref ah) H1):rTupOf K [.ref c] H Q:=by
 rcases h with h | h
 . erw[c,0,.inl %[zG0 h|λl hl=>q l _ (zE0 hl _) ai]]
 . erw[c,0,.inr %[zC0 h|q c H (λ_ _ e=>e) h]]
instance spTrue(C:Addr):∀(g a b d c:Addr)(ns:List Str)(tv:List V)(ts:List Tr)(cs:List Int)(x:Str)(s p:Int),vs=[.ref g,.int s,.ref c]->GameAt C H g a b d p->H a=some (.tup (ns.map V.str))->ns.length<=6->H b=some (.tup tv)->TreesAt H tv ts->ts≠[]->ts.length<=10->(∀t∈ts,t.ok ns/\t.depth<=10)->H d=some (.lst ((ns.map (aY ts)).map V.int))->IntsAt H c cs->ns[cs.length]?=some x->aY ts x<p->aY ts x<=500->bL cs p->1<p->p<2 ^ 40->(∀(l:Addr)(H':Hp),H l=none->Same H H'->H' l=some (.lst ((fh ns ts s p cs (aY ts x+1).toNat).map V.int))->Q (.ref l) H'):=1
def eM:FnScope ["game","s","coins","ahead","switch","behind","row","x","worths"] Wq (ao lT):=%[|5]
def wE(F:#["true_row",lT])(B:Bl mg)(T:GTxt K mg C)(mW:Meth K C "worth_at" fW)(GW:#[13,fW,fdW,WO,spWAt C])(bW:Binds K fdW WO [])(dq:#[1,"all_settings",["n"],spSetts]):#[14,f,fd,Wq,spTrue C]:=by
 exists eM
 erw[g,a,b,d,c,ns,tv,ts,cs,x,s,p,1,%[dx|hg],ha,nl,hb,TS,tne,t10,tok,hd,hc,hx,dp,d500,po,p1,p40,q]at h;refine⟨_,(ad (aj (i:=3) eM.nd rfl (Or.inr rfl) (bc bi rfl B.tuple bt %[2|ae]))
  (ad #[aj,4,eM,aJ aG rfl B.len zD1 %[3|ae]]
  (ad #[aj,5,eM,aD dq hr ⋯ rfl %[aq bj (aq bj (aJ aG rfl B.len zD1 %[aB (pv 0) rfl|ae]) (pv 4)) ag|ae]]
  (ad #[aj,6,eM,cq ae]
  (ad (cx zE1 rfl (bJ rfl B.range %[aq aW (aN ix_list (aB (pv 0) rfl) (pv 4) #[1]) ag|ae]) (aX (i:=7) eM.nd rfl (Or.inr rfl)) (ad (nn (i:=8) (N:=["x","s","game","ahead"]) (ix:=[7,1,0,3]) eM.nd rfl (.inl rfl) rfl
   (CompScope.four (by rfl') ⋯ rfl ⋯ rfl ⋯ rfl (by rfl') (by rfl') (by rfl') (by rfl') (by rfl') (by rfl') rfl rfl (by rfl') rfl rfl (by rfl') rfl rfl (by rfl') rfl rfl) rfl
   (dU (pv 5)) (λ_ _ _=>cE (bZ (pv 3) T.cl mW GW hr bW .nil bh %[aq (qo K) (aq (qo K) (pv 4) (aU %[1|ae])) (pv 0),2|ae])))
   (af (bb (eR zF1 zM1 zN1 cP (pv 6) %[aq ba (aJ (sJ rfl) rfl B.sum wG1 %[8|ae]) (aB (pv 0) rfl)|ae])))))
  (af (ax (pv 6)))))))),?_⟩
 let kl:cs.length<ns.length:=(zX0 hx).1;let d0:=xy (x:=x) tne;let p0:0<p:=Int.lt_trans Int.zero_lt_one p1;erw[0,FV hc λah H1 G1 hah1=>?_];erw[0,ah,0,.inr (zC0 hah1),6];erw[0,g,C,dx,_,0,G1 _ _ hg,9,T.nS,pU ..,a,0,.inr (zC0 (G1 _ _ ha)),0,2,2,0,by rw[zF0,zF0];omega,by rw[zF0,zF0];omega,λr H2 r0 S2 R2=>?_];let en:((((ns.map V.str).length:Nat):Int)-(((cs.map V.int).length:Nat):Int)-1).toNat=ns.length-(cs.length+1):=by rw[zF0,zF0];omega
 rw[en]at R2;erw[rs,hrs,TB]at R2;let rl:=TB.length;erw[y0S,λL hL=>?_];let S02:=G1.trans S2;let GL:=zE0 hL (.lst []);let S03:=S02.trans GL;let L0:H L=none:=S02.free hL;let e1:(((cs.map V.int).length:Nat):Int)=(cs.length:Int):=by rw[zF0]
 erw[0,g,C,dx,_,0,S03 _ _ hg,9,T.nD,Fa ..,0,d,_,_,.int (aY ts x),1,1,zG0 (S03 _ _ hd),6,2,0,3,3,dH (λi σ H'=>∃x7 x8:Option V,σ=[some (.ref g),some (.int s),some (.ref c),some (.ref ah),some (.int (((cs.map V.int).length:Nat):Int)),some (.ref r),some (.ref L),x7,x8]/\H' L=some (.lst ((fh ns ts s p cs i).map V.int))/\SameBut L H2 H') %[_,0,by rw[ai];rfl|SameBut.upd _] ?_ ?_]
 . rw[e1];apply bK ?_;rw[zW0,zW0,hx];rfl
 . rintro i σ H4 hi ⟨x7,x8,rfl,hL4,S4⟩;let gL:g≠L:=aP (S02 _ _ hg) hL;let rL:r≠L:=aP hrs hL;let kT:cF H2 H4:=λc xs h=>S4 c _ (aP h hL) h
   let hg4:=S4 g _ gL (S02 _ _ hg);let hrs4:=S4 r _ rL hrs;let ha4:=kT _ _ (S02 _ _ ha);let hb4:=kT _ _ (S02 _ _ hb);let hah4:=kT _ _ (S2 _ _ hah1);let TS4:=(TS.mono (aV S02)).mono kT;let TB4:=TB.mono kT;erw[0,r,1,%[_|zG0 hrs4],λD hD=>?_];apply ig (K:=K) (xs:=rs) (λj H'=>H' D=some (.lst ((((cG (ns.length-(cs.length+1))).take j).map λst=>hor s p (ts.map λt=>t.worth ns (cs++[(i:Int)]++st) p)).map V.int))/\Same H4 H') %[by rw[ai];rfl|zE0 hD _] (λj H' _ h=>zG0 (h.2 _ _ hrs4)) ?_ ?_
   . rintro j z H5 hz ⟨hD5,S5⟩;let%[st,NI,y,1|hy]:=(TB4.mono (aV S5)).get hz;let stm:=qC0 NI;let stl:=eO _ _ stm;let s01:=mI _ _ stm;let hj:j<rs.length:=(zX0 hz).1;let po2:bL (cs++[(i:Int)]++st) p:=pt01 (ptI po hi dp) p1 s01;let pl2:(cs++[(i:Int)]++st).length=ns.length:=by rw[zJ0,zJ0,qK0];omega
     erw[0,g,dx,0,S5 _ _ hg4,oi _ _ _ _ ⋯ ⋯ ⋯ ⋯,6];erw[0,0,y1S,λu hu=>?_];let Gu:=zE0 hu (.tup [.int (0+(i:Int))]);let hu6:upd H5 u (.tup [.int (0+(i:Int))]) u=some (.tup ([(i:Int)].map V.int)):=by rw[ai,qX1];rfl
     generalize upd H5 u (.tup [.int (0+(i:Int))])=H6 at Gu hu6;apply qz (Gu _ _ (S5 _ _ hah4)) hu6 (cat1 kl nl).1 λt1 H7 S7 h7=>?_
     erw[0,6];let S57:=Gu.trans S7;apply qz h7 (S57 _ _ hy) (by rw[zJ0,qK0];omega) λt2 H8 S8 h8=>?_
     let S48:=S5.trans (S57.trans S8);erw[0,g,a,b,d,t2,ns,tv,ts,_,s,p,1,%[dx|S48 _ _ hg4],p1,p40,S48 _ _ ha4,S48 _ _ hb4,TS4.mono (aV S48),t10,tok,h8,pl2,po2,λH9 S9=>?_];erw[_,S9 _ _ ((S57.trans S8) _ _ hD5),6,Nx.of hj %[6|λb' o' e'=>?_]]
     . exact IO (s64 nl)
     . rw[ai,zZ0,NI,zK0,zK0];rfl
     . rw[ay (aP e' hD)];exact S9 _ _ (S48 _ _ e')
   rintro H5 ⟨hD5,S5⟩;rw[rl,qA0]at hD5;let hor_r:=λst:List Int=>og (s:=s) (p:=p) p0 (ts.map λt=>t.worth ns (cs++[(i:Int)]++st) p)
   let sr:=zJ (p:=p) p0 (λst:List Int=>hor s p (ts.map λt=>t.worth ns (cs++[(i:Int)]++st) p)) hor_r (cG (ns.length-(cs.length+1)));let hL5:=S5 _ _ hL4;erw[0,.inl %[1,_|zG0 hL5],0,D,0,zG0 hD5,6,6,6]
   . intro n hn;let%[st,_|1]:=List.mem_map.mp hn;exact(hor_r st).1
   . exact sum63 p0 p40 (s64 nl) sr.2
   erw[0,g,C,dx,_,0,S5 _ _ hg4,9,T.nF,hU ..,2,p0,L,2,hL5,6,6]
   . exact IP hi d500
   . erw[_,0,6,λc o hc e=>?_]
     . rw [ai];unfold fh;rw[zP1,zK0,zK0];let e2:((cG (ns.length-(cs.length+1))).map λst=>hor s p (ts.map λt=>t.worth ns (cs++[(i:Int)]++st) p)).sum % p=cR ns ts s p (cs++[(i:Int)]):=by
        unfold cR;rw[zJ0,qK0,show(λst:List Int=>hor s p (ts.map λt=>t.worth ns (cs++[(i:Int)]++st) p))=λst=>iy s (ts.map λt=>t.worth ns (cs++[(i:Int)]++st) p) % p from funext λst=>oh _ _ _];exact zK p (λst:List Int=>iy s (ts.map λt=>t.worth ns (cs++[(i:Int)]++st) p)) _
       show some (HO.lst (_++[V.int (((cG (ns.length-(cs.length+1))).map λst=>hor s p (ts.map λt=>t.worth ns (cs++[(i:Int)]++st) p)).sum % p)]))=_;rw[e2];rfl
     . rw[ay hc];exact S5 _ _ (S4 c o hc e)
 . rintro σ H4 ⟨x7,x8,rfl,hL4,S4⟩;erw[0,q L H4 L0 (S02.but L0 S4) hL4]
def neS{a b:Str}(h:¬ a=b):¬ V.str a=V.str b:=λz=>h (V.str.inj z)
open Classical in
def HA(p a:Int):Int:=if h:∃g:Int,0<g/\g<p/\g*a % p=1 then h.choose else 0
def EV{p a g k:Int}(g0:0<g)(g1:g<p)(hg:g*a % p=1)(k0:0<k)(k1:k<p)(hk:k*a % p=1):g=k:=by
 let e1:g*(k*a) % p=g:=by
  rw[jN0,hk,jK1,jB0,qL0 #[0] g1]
 let e2:k*(g*a) % p=k:=by
  rw[jN0,hg,jK1,jB0,qL0 #[0] k1]
 let e3:g*(k*a) % p=k*(g*a) % p:=by rw[Int.mul_left_comm]
 exact e1.symm.trans (e3.trans e2)
def Ai{p a g:Int}(g0:0<g)(g1:g<p)(hg:g*a % p=1):HA p a=g:=by
 let h:∃g:Int,0<g/\g<p/\g*a % p=1:=%[g,g0,g1|hg]
 unfold HA;rw[dif_pos h];erw[k0,k1,hk]at h.choose_spec;exact EV k0 k1 hk g0 g1 hg
def lC(p x y:Int):Int:=if y=0 then 0 else x*HA p y % p
def opV(p:Int)(s:Str)(x y:Int):Int:=
 if s="+" then(x+y) % p else if s="-" then(x-y) % p else if s="*" then x*y % p else if s="/" then lC p x y else if s="=" then(if x=y then 1 else 0)else if x<y then 1 else 0
def xx{p:Int}(hp:0<p):0<=lC p x y/\lC p x y<p:=by
 unfold lC
 split
 . omega
 . erw[qD0 _ #[0],qH0 _ hp]
def GX{p:Int}(hp:1<p):0<=opV p s x y/\opV p s x y<p:=by
 let m:∀z:Int,0<=z % p/\z % p<p:=λz=>%[qD0 _ #[0]|qH0 _ #[0]]
 unfold opV
 split
 . exact m _
 . split
   . exact m _
   . split
     . exact m _
     . split
       . exact xx #[0]
       . split <;> split <;> omega
instance spDiv:∀(x y p:Int),vs=[.int x,.int y,.int p]->Pr p->p<=999983->0<=x->x<p->0<=y->y<p->Q (.int (lC p x y)) H:=1
def yi:FnScope Wr Wr (ao oO):=%[|5]
def yK(F:#["divided",oO])(eN:#[1,"inverse_of",["a","p"],spInv]):#[2,f,fd,Wr,spDiv]:=by
 exists yi
 erw[x,y,p,1,pp,p9,x0,x1,y0,y1,q]at h;refine⟨_,(ad (aM (am aS (pv 1) ag (az _)) (af (ax ag)) aE)
  (af (ax (aq ba (aq cg (pv 0) (aD eN hr ⋯ rfl %[1,2|ae])) (pv 2))))),?_⟩
 unfold lC at q;erw[0,1,0,6]
 by_cases c:y=0
 . rw[NE c]at q;exact bd (congrArg V.int c) q
 . rw[ND c]at q;apply aF (λz=>c (V.int.inj z)) ?_;erw[0,0,0,y,p,1,pp,p9,3,y1,λg g0 g1 hg=>?_];rw[Ai g0 g1 hg]at q;erw[2,.inl %[3|3],0,2,(by show 0<p;omega),q]
def signW:List Str:=["+","-","*","/","=","<"]
instance spOp:∀(s:Str)(x y p:Int),vs=[.str s,.int x,.int y,.int p]->s∈signW->Pr p->p<=999983->0<=x->x<p->0<=y->y<p->Q (.int (opV p s x y)) H:=1
def wn:FnScope We We (ao lV):=%[|5]
def opV_1:opV p "+" x y=(x+y) % p:=NE rfl
def opV_2:opV p "-" x y=(x-y) % p:=by unfold opV;rw[ND ⋯,NE rfl]
def opV_3:opV p "*" x y=x*y % p:=by unfold opV;rw[ND ⋯,ND ⋯,NE rfl]
def opV_4:opV p "/" x y=lC p x y:=by unfold opV;rw[ND ⋯,ND ⋯,ND ⋯,NE rfl]
def opV_5:opV p "=" x y=if x=y then 1 else 0:=by unfold opV;rw[ND ⋯,ND ⋯,ND ⋯,ND ⋯,NE rfl]
def opV_6:opV p "<" x y=if x<y then 1 else 0:=by unfold opV;rw[ND ⋯,ND ⋯,ND ⋯,ND ⋯,ND ⋯]
def wG(F:#["op_value",lV])(o7:#[2,"divided",Wr,spDiv]):#[3,f,fd,We,spOp]:=by
 exists wn
 erw[s,x,y,p,1,hs,pp,p9,x0,x1,y0,y1,q]at h;let p0:0<p:=#[0]
 refine⟨_,(ad (aM (am aS (pv 0) aI (az _)) (af (ax (aq ba (aq aW (pv 1) (pv 2)) (pv 3)))) aE)
  (ad (aM (am aS (pv 0) aI (az _)) (af (ax (aq ba (aq bj (pv 1) (pv 2)) (pv 3)))) aE)
  (ad (aM (am aS (pv 0) aI (az _)) (af (ax (aq ba (aq cg (pv 1) (pv 2)) (pv 3)))) aE)
  (ad (aM (am aS (pv 0) aI (az _)) (af (ax (aD o7 hr ⋯ rfl %[1,2,3|ae]))) aE)
  (ad (aM (am aS (pv 0) aI (az _)) (af (ax (wz (am aS (pv 1) (pv 2) (az _)) ag ag))) aE)
  (af (ax (wz (am gJ (pv 1) (pv 2) (az _)) ag ag)))))))),?_⟩
 let hs':s="+"∨s="-"∨s="*"∨s="/"∨s="="∨s="<":=by simpa [signW]using hs
 rcases hs' with rfl | rfl | rfl | rfl | rfl | rfl
 . rw[opV_1]at q;erw[0,1,0,bd rfl ?_];erw[0,0,2,0,2,p0,q]
 . rw[opV_2]at q;erw[0,1,0,7];erw[0,1,0,bd rfl ?_];erw[0,0,2,0,2,p0,q]
 . rw[opV_3]at q;erw[0,1,0,7];erw[0,1,0,7];erw[0,1,0,bd rfl ?_];erw[0,0,2,.inl %[3|3],0,2,p0,q]
 . rw[opV_4]at q;erw[0,1,0,7];erw[0,1,0,7];erw[0,1,0,7];erw[0,1,0,bd rfl ?_];erw[0,0,0,x,y,p,1,pp,p9,x0,x1,y0,y1,q]
 . rw [opV_5]at q;erw[0,1,0,7];erw[0,1,0,7];erw[0,1,0,7];erw[0,1,0,7];erw[0,1,0,bd rfl ?_];erw[0,0,1,0,6]
   by_cases c:x=y
   . rw[NE c]at q;exact bd (congrArg V.int c) q
   . rw[ND c]at q;exact aF (λz=>c (V.int.inj z)) q
 . rw [opV_6]at q;erw[0,1,0,7];erw[0,1,0,7];erw[0,1,0,7];erw[0,1,0,7];erw[0,1,0,7];erw[0,0,2,0,6]
   by_cases c:x<y
   . rw[NE c]at q;exact bd c q
   . rw[ND c]at q;exact aF c q
def lc{t':TS}(h:PSs X ss t)(hw:∀D σ H,t' D σ H->t D σ H):PSs X ss t':=λNC s σ H D I k=>h NC s σ H D I (hw _ _ _ k)
inductive Tm where
 |num (n:Int) | box (x:Str) | plain (w:Str) | ask (w:Str) (a:Tm) | op (s:Str) (a b:Tm)
def Tm.size:Tm->Nat
 |.num _=>1 | .box _=>1 | .plain _=>1 | .ask _ a=>a.size+1 | .op _ a b=>a.size+b.size+1
def Tm.depth:Tm->Nat
 |.num _=>1 | .box _=>1 | .plain _=>1 | .ask _ a=>a.depth+1 | .op _ a b=>max a.depth b.depth+1
def Tm.depth_pos:∀t:Tm,1<=t.depth
 |.num _=>zH0 _ | .box _=>zH0 _ | .plain _=>zH0 _ | .ask _ a=>jL1 .. | .op _ a b=>jL1 ..
def Tm.size_pos:∀t:Tm,1<=t.size
 |.num _=>zH0 _ | .box _=>zH0 _ | .plain _=>zH0 _ | .ask _ a=>jL1 .. | .op _ a b=>jL1 ..
def plainW:List Str:=["round","due","asked"]
def askW:List Str:=["coin","true"]
inductive TmAt(H:Hp):V->Tm->Prop
 |num {a:Addr} {n:Int}:H a=some (.tup [.str "num",.int n])->TmAt H (.ref a) (.num n)
 |box {a:Addr} {x:Str}:H a=some (.tup [.str "box",.str x])->TmAt H (.ref a) (.box x)
 |plain {a:Addr} {w:Str}:H a=some (.tup [.str w])->TmAt H (.ref a) (.plain w)
 |ask {a:Addr} {w:Str} {v:V} {t:Tm}:H a=some (.tup [.str w,v])->TmAt H v t->TmAt H (.ref a) (.ask w t)
 |op {a:Addr} {s:Str} {v u:V} {t r:Tm}:H a=some (.tup [.str "op",.str s,v,u])->TmAt H v t->TmAt H u r->TmAt H (.ref a) (.op s t r)
def TmAt.mono(k:cF H H')(h:TmAt H v t):TmAt H' v t:=by
 induction h with
 |num e=>exact .num (k _ _ e)
 |box e=>exact .box (k _ _ e)
 |plain e=>exact .plain (k _ _ e)
 |ask e _ ih=>exact .ask (k _ _ e) ih
 |op e _ _ i1 i2=>exact .op (k _ _ e) i1 i2
inductive Hr where
 |fin | go (n:Int) | iff (t:Tm) (n:Int) | set (x:Str) (t:Tm) | say (t:Tm)
inductive HrAt(H:Hp):V->Hr->Prop
 |fin {a:Addr}:H a=some (.tup [.str "end"])->HrAt H (.ref a) .fin
 |go {a:Addr} {n:Int}:H a=some (.tup [.str "go",.int n])->HrAt H (.ref a) (.go n)
 |iff {a:Addr} {v:V} {t:Tm} {n:Int}:H a=some (.tup [.str "if",v,.int n])->TmAt H v t->HrAt H (.ref a) (.iff t n)
 |set {a:Addr} {x:Str} {v:V} {t:Tm}:H a=some (.tup [.str "set",.str x,v])->TmAt H v t->HrAt H (.ref a) (.set x t)
 |say {a:Addr} {v:V} {t:Tm}:H a=some (.tup [.str "say",v])->TmAt H v t->HrAt H (.ref a) (.say t)
def HrAt.mono(k:cF H H')(h:HrAt H v r):HrAt H' v r:=by
 cases h with
 |fin e=>exact .fin (k _ _ e)
 |go e=>exact .go (k _ _ e)
 |iff e t=>exact .iff (k _ _ e) (t.mono k)
 |set e t=>exact .set (k _ _ e) (t.mono k)
 |say e t=>exact .say (k _ _ e) (t.mono k)
section
variable {CM CA CG:Addr}
example:=[vd,kF 0,rb,kF 1,ve,kF 2,oQ,kF 3,vc,kF 4,uU,kX 0,ym,kX 1,yo,kX 2]
def al(g:Addr)(nr mn hd s:Int)(aT:Addr)(tr:V):List (Str×V):=[("game",.ref g),("number",.int nr),("many",.int mn),("held",.int hd),("s",.int s),("tossed",.ref aT),("truths",tr)]
def vW:(al g nr mn hd s aT tr).lookup ("game":Str)=some (.ref g):=by rfl'
structure ATxt(K:W.Frag)(mg:#[9])(C:Addr):Prop where
 cl:Cls K C
 nG:NoAttr K C "game"
 nN:NoAttr K C "number"
 nM:NoAttr K C "many"
 nH:NoAttr K C "held"
 nS:NoAttr K C "s"
 nT:NoAttr K C "tossed"
 nR:NoAttr K C "truths"
 mgC:mg "Asking"=some (.ref C)
def ml(g h:Addr)(r:Int)(b:Addr):List (Str×V):=[("game",.ref g),("helper",.ref h),("next_round",.int r),("boxes",.ref b)]
section
variable {g h b:Addr}{r:Int}
def ml_g:(ml g h r b).lookup ("game":Str)=some (.ref g):=by rfl'
def Hl:(ml g h r b).lookup ("helper":Str)=some (.ref h):=by rfl'
def Jo:(ml g h r b).lookup ("next_round":Str)=some (.int r):=by rfl'
def Ex:(ml g h r b).lookup ("boxes":Str)=some (.ref b):=by rfl'
def ml_n1:(ml g h r b).lookup ("do_row":Str)=none:=by rfl'
def ml_n2:(ml g h r b).lookup ("say":Str)=none:=by rfl'
def yU:(ml g h r b).length<1000:=by show 4<1000;decide
def Ew{v:Int}:bY "next_round" (.int v) (ml g h r b)=ml g h v b:=by rfl'
end
structure MTxt(K:W.Frag)(mg:#[9])(C:Addr):Prop where
 cl:Cls K C
 nG:NoAttr K C "game"
 nH:NoAttr K C "helper"
 nR:NoAttr K C "next_round"
 nB:NoAttr K C "boxes"
 mgC:mg "Machine"=some (.ref C)
def BxAt(H:Hp)(b:Addr)(bx:Str->Int)(m:Nat):Prop:=∃NF:List (Key×V),H b=some (.dK NF)/\NF.length<=m/\∀x:Str,(ik NF (.inr x)).getD (.int 0)=.int (bx x)
def gi(bx:Str->Int)(x:Str)(n:Int):Str->Int:=λy=>if y=x then n else bx y
def BxAt.keep{H':Hp}(h:BxAt H b bx m)(k:∀o,H b=some o->H' b=some o):BxAt H' b bx m:=by
 erw[NF,e,r]at h;erw[NF,k _ e,r]
def JW{NF:List (Key×V)}{bx:Str->Int}(x:Str)(n:Int)(h:∀x:Str,(ik NF (.inr x)).getD (.int 0)=.int (bx x)):∀y:Str,(ik (nj NF (.inr x) (.int n)) (.inr y)).getD (.int 0)=.int (gi bx x n y):=λy=>by
 rw[Cs];unfold gi
 by_cases c:y=x
 . rw[NE (by rw[c]),NE c];rfl
 . rw[ND (λz=>c (Sum.inr.inj z)),ND c];exact h y
section
variable {g aT:Addr}{nr mn hd s:Int}{tr:V}
def JZ:(al g nr mn hd s aT tr).lookup ("number":Str)=some (.int nr):=by rfl'
def al_m:(al g nr mn hd s aT tr).lookup ("many":Str)=some (.int mn):=by rfl'
def al_h:(al g nr mn hd s aT tr).lookup ("held":Str)=some (.int hd):=by rfl'
def al_s:(al g nr mn hd s aT tr).lookup ("s":Str)=some (.int s):=by rfl'
def al_t:(al g nr mn hd s aT tr).lookup ("tossed":Str)=some (.ref aT):=by rfl'
def HS:(al g nr mn hd s aT tr).lookup ("truths":Str)=some tr:=by rfl'
def al_n1:(al g nr mn hd s aT tr).lookup ("plain_value":Str)=none:=by rfl'
def al_n2:(al g nr mn hd s aT tr).lookup ("coin_at":Str)=none:=by rfl'
def al_n3:(al g nr mn hd s aT tr).lookup ("true_numbers":Str)=none:=by rfl'
def al_n4:(al g nr mn hd s aT tr).lookup ("true_at":Str)=none:=by rfl'
def FG:bY "truths" v (al g nr mn hd s aT tr)=al g nr mn hd s aT v:=by rfl'
def FI:(al g nr mn hd s aT tr).length<1000:=by show 7<1000;decide
end
structure Ak where
 ns:List Str
 ts:List Tr
 p:Int
 nr:Int
 mn:Int
 hd:Int
 s:Int
 to:List Int
def Ak.tru(z:Ak):List Int:=if z.nr=0 then z.ts.map (λt=>(cnt t z.ns:Int))else fh z.ns z.ts z.s z.p z.to (aY z.ts (z.ns.getD z.to.length "")+1).toNat
structure AkOk(z:Ak):Prop where
 gk:GmK z.ns z.ts z.p
 n6:z.ns.length<=6
 nr0:0<=z.nr
 nrt:0<z.nr->z.to.length<z.ns.length
 po:bL z.to z.p
 s0:0<=z.s
 s1:z.s<z.p
 h0:0<=z.hd
 h1:z.hd<z.p
 tl:z.to.length<=100
def AkAt(CA CG:Addr)(H:Hp)(k g v:Addr)(z:Ak):Prop:=∃(dk aT a b d:Addr)(tv:List V)(tr:V),H k=some (.ins CA dk (al g z.nr z.mn z.hd z.s aT tr))/\GameAt CG H g a b d z.p/\H a=some (.tup (z.ns.map V.str))/\H b=some (.tup tv)/\TreesAt H tv z.ts/\H d=some (.lst ((z.ns.map (aY z.ts)).map V.int))/\d≠v/\H aT=some (.tup (z.to.map V.int))/\(tr=.non∨∃l,tr=.ref l/\l≠v/\H l=some (.lst (z.tru.map V.int)))
def AkAt.same(h:AkAt CA CG H k g v z)(s:Same H H'):AkAt CA CG H' k g v z:=by
 erw[dk,aT,a,b,d,tv,tr,h1,h2,h3,h4,h5,h6,h7,h8,h9]at h;erw[dk,aT,a,b,d,tv,tr,s _ _ h1,h2.same s,s _ _ h3,s _ _ h4,h5.mono (aV s),s _ _ h6,h7,s _ _ h8,h9.imp_right fun⟨l,e,n,r⟩=>%[l,e,n|s _ _ r]]
def AkAt.but2{H':Hp}{b:Addr}{NF:List (Key×V)}{ys:List V}(h:AkAt CA CG H k g v z)(hb:H b=some (.dK NF))(hv:H v=some (.lst ys))(s:∀a o,a≠b->a≠v->H a=some o->H' a=some o):AkAt CA CG H' k g v z:=by
 erw[dk,aT,a,b',d,tv,tr,h1,%[dg|h2],h3,h4,h5,h6,h7,h8,h9]at h;let T:cF H H':=λc xs e=>s _ _ (bu e hb nofun) (bu e hv nofun) e
 erw[dk,aT,a,b',d,tv,tr,s _ _ (bu h1 hb nofun) (bu h1 hv nofun) h1,%[dg|s _ _ (bu h2 hb nofun) (bu h2 hv nofun) h2],T _ _ h3,T _ _ h4,h5.mono T,s _ _ (bu h6 hb nofun) h7 h6,h7,T _ _ h8,h9.imp_right fun⟨l,e,n,r⟩=>%[l,e,n|s _ _ (bu r hb nofun) n r]]
def lK(z:Ak):List Int:=if 1<z.ts.length then z.s::z.to else z.to
def jh(z:Ak)(i:Int):Int:=if 1<=i/\i<=((lK z).length:Int)then(lK z).getD (i-1).toNat 0 else 0
def fJ(z:Ak)(i:Int):Int:=if 0<z.nr then val z.p z.tru i else if i<(z.tru.length:Int)then z.tru.getD i.toNat 0 % z.p else 0
def oT(z:Ak)(w:Str):Int:=if w="round" then z.nr % z.p else if w="asked" then z.mn % z.p else z.hd
def AkOk.p0(k:AkOk z):2<z.p:=k.gk.p2
def iY(h:bL xs p)(p0:0<p)(i:Nat):0<=xs.getD i 0/\xs.getD i 0<p:=by
 rw[qG0];cases e:xs[i]? with
 |none=>erw[qB1 0,p0]
 |some x=>exact h x (qC0 e)
def Ft(k:AkOk z):bL (lK z) z.p:=by
 unfold lK
 split
 . intro x hx;rcases zY0 hx with rfl | hx
   . erw[k.s0,k.s1]
   . exact k.po x hx
 . exact k.po
def Ci(k:AkOk z)(i:Int):0<=jh z i/\jh z i<z.p:=by
 have:=k.p0
 unfold jh
 split
 . exact iY (Ft k) #[0] _
 . omega
def AJ(k:AkOk z)(i:Int):0<=fJ z i/\fJ z i<z.p:=by
 have:=k.p0
 unfold fJ
 split
 . erw[qD0 _ #[0],qH0 _ #[0]]
 . split
   . erw[qD0 _ #[0],qH0 _ #[0]]
   . omega
def yx(k:AkOk z)(w:Str):0<=oT z w/\oT z w<z.p:=by
 have:=k.p0
 unfold oT
 split
 . erw[qD0 _ #[0],qH0 _ #[0]]
 . split
   . erw[qD0 _ #[0],qH0 _ #[0]]
   . erw[k.h0,k.h1]
instance spPlain(CA CG:Addr):∀(k g v:Addr)(z:Ak)(w:Str),vs=[.ref k,.str w]->AkAt CA CG H k g v z->0<z.p->Q (.int (oT z w)) H:=1
def Bb:FnScope Wf Wf (ao rb):=%[|5]
def By(F:#["plain_value","Asking.plain_value",rb])(TA:ATxt K mg CA)(TG:GTxt K mg CG):#[1,f,fd,Wf,spPlain CA CG]:=by
 exists Bb
 erw[k,g,v,z,w,1,%[dk,aT,a,b,d,tv,tr,hk,%[dg|hg]|_],p0,q]at h;refine⟨_,(ad (aM (am aS (pv 1) aI (az _)) (af (ax (aq ba (aB (pv 0) rfl) (aB (aB (pv 0) rfl) rfl)))) aE)
  (ad (aM (am aS (pv 1) aI (az _)) (af (ax (aq ba (aB (pv 0) rfl) (aB (aB (pv 0) rfl) rfl)))) aE)
  (af (ax (aB (pv 0) rfl))))),?_⟩
 unfold oT at q;erw[0,1,0,6]
 by_cases c:w="round"
 . rw[NE c]at q;apply bd (congrArg V.str c) ?_;erw[0,k,CA,dk,_,0,hk,TA.cl,TA.nN,JZ,0,k,CA,dk,_,0,hk,TA.cl,TA.nG,vW,g,CG,dg,_,0,hg,TG.cl,TG.nF,hU ..,2,p0,q]
 . rw [ND c]at q;apply aF (neS c) ?_;erw[0,1,0,6]
   by_cases c:w="asked"
   . rw[NE c]at q;apply bd (congrArg V.str c) ?_;erw[0,k,CA,dk,_,0,hk,TA.cl,TA.nM,al_m,0,k,CA,dk,_,0,hk,TA.cl,TA.nG,vW,g,CG,dg,_,0,hg,TG.cl,TG.nF,hU ..,2,p0,q]
   . rw[ND c]at q;apply aF (neS c) ?_;erw[0,k,CA,dk,_,0,hk,TA.cl,TA.nH,al_h,q]
instance spCoinAt(CA CG:Addr):∀(k g v:Addr)(z:Ak)(i:Int),vs=[.ref k,.int i]->AkAt CA CG H k g v z->z.to.length<=100->(∀H',Same H H'->Q (.int (jh z i)) H'):=1
def A0:FnScope ["self","place","tossed"] WM (ao ve):=%[|5]
instance tCoinE(z:Ak)(Dn:Ends)(σ:St)(H:Hp):∀(x0:Option V)(a:Addr)(i:Int),σ=[x0,some (.int i),some (.ref a)]->H a=some (.tup ((lK z).map V.int))->Dn.rt (.int (jh z i)) H:=0
def Ef(F:#["coin_at","Asking.coin_at",ve])(B:Bl mg)(TA:ATxt K mg CA)(TG:GTxt K mg CG):#[1,f,fd,WM,spCoinAt CA CG]:=by
 exists A0
 erw[k,g,v,z,i,1,%[dk,aT,a,b,d,tv,tr,hk,%[dg|hg],ha,hb,TS,_,_,hT|_],tl,q]at h;let vl:=TS.length;refine⟨_,(ad #[aj,2,A0,aB (pv 0) rfl]
  (ad (aM (am iz (aJ aG rfl B.len zD1 %[aB (aB (pv 0) rfl) rfl|ae]) ag (az _)) (af #[aj,2,A0,aq op_catT (aU %[aB (pv 0) rfl|ae]) (pv 2)]) aE)
  (lc (t':=tCoinE z) (ad (aM (Dz wC wC ag (pv 1) (aJ aG rfl B.len zD1 %[2|ae])) (af (ax (aN ix_tup (pv 2) (aq bj (pv 1) ag) #[1]))) aE)
  (af (ax ag))) (by
   rintro Dn σ H ⟨x0,a,i,rfl,ha,q⟩;unfold jh at q;erw[0,2,0,6];let el:(((lK z).map V.int).length:Int)=((lK z).length:Int):=by rw[zF0]
   by_cases c1:1<=i
   . apply bd c1 ?_;erw[0,a,0,.inr (zC0 ha),2,0,6]
     by_cases c2:i<=((lK z).length:Int)
     . rw [NE %[c1|c2]]at q;apply bd (by rw[el];exact c2) ?_;obtain⟨j,ej⟩:∃j:Nat,i-1=(j:Int):=⟨(i-1).toNat,#[0]⟩
       rw[ej,qS0]at q;erw[0,0,2,a,_,2,zC0 ha,6,q];rw[ej];exact oa #[0]
     . rw[ND (λz=>c2 z.2)]at q;exact aF (by rw[el];exact c2) q
   . rw[ND (λz=>c1 z.1)]at q;exact aF c1 %[0|dG q])))),?_⟩
 erw[0,k,CA,dk,_,0,hk,TA.cl,TA.nT,al_t,6];erw[0,k,CA,dk,_,0,hk,TA.cl,TA.nG,vW,g,CG,dg,_,0,hg,TG.cl,TG.nT,lJ ..,b,0,.inr (zC0 hb),2,0,6]
 by_cases c:1<z.ts.length
 . apply bd (by rw[vl];omega) ?_;let ec:lK z=z.s::z.to:=NE c;erw[0,k,CA,dk,_,0,hk,TA.cl,TA.nS,al_s,y1S,λt ht=>?_];let I:=zE0 ht (.tup [.int z.s]);let g1:upd H t (.tup [.int z.s]) t=some (.tup [.int z.s]):=ai;generalize upd H t (.tup [.int z.s])=H1 at I g1;erw[0,t,aT,2,zC0 g1,zC0 (I _ _ hT),(λz=>nomatch z),small (by show 1+(z.to.map V.int).length<=1000;rw[zF0];omega),λe=>?_,λ_ y hy=>?_]
   . erw[_,t,i,1,6,q _ I];rw[ec,g1,qE0,e]
   . erw[_,y,i,1,6,q _ (I.trans (zE0 hy _))];rw[ai,ec];rfl
 . apply aF (by rw[vl];omega) ?_;let ec:lK z=z.to:=ND c;erw[_,aT,i,1,by rw[ec];exact hT,q _ λ_ _ e=>e]
end
section
variable {CM CA CG:Addr}
def iS(ns:List Str)(ts:List Tr)(s p:Int)(cs:List Int)(n:Nat):(fh ns ts s p cs n).length=n:=by
 unfold fh;rw[zF0,qO0]
def Dr{p:Int}(hp:0<p):bL (fh ns ts s p cs n) p:=λx hx=>by
 unfold fh at hx;let%[k,_|1]:=List.mem_map.mp hx;erw[qD0 _ #[0],qH0 _ hp]
def AkOk.deg(k:AkOk z)(h:0<z.nr):∃x,z.ns[z.to.length]?=some x/\z.ns.getD z.to.length ""=x/\0<=aY z.ts x/\aY z.ts x<z.p/\aY z.ts x<=400:=by
 let hl:=k.nrt h;erw[z.ns[z.to.length],zM0 hl,by rw[qG0,zM0 hl];rfl,6];let hm:=qR0 hl;let%[d0|d1]:=k.gk.deg _ hm;erw[d0,d1,6];let t0:z.ts≠[]:=λe=>by have:=k.gk.t1;rw[e]at this;cases this
 have:=oo (p:=401) (x:=z.ns[z.to.length]) t0 λt ht=>by
  let h1:=(k.gk.tok t ht).2.2.2;let h2:=t.names_len;let h3:=jS1 (a:=z.ns[z.to.length]) (l:=t.names);omega
 omega
def AkOk.row(k:AkOk z)(h:0<z.nr):jZ z.tru z.p:=by
 let%[x,hx,ex,d0,d1|d4]:=k.deg h;let p2:=k.p0;let p9:=k.gk.p9;let e:z.tru=fh z.ns z.ts z.s z.p z.to (aY z.ts x+1).toNat:=by
  unfold Ak.tru;rw[ND #[0],ex]
 rw[e];unfold jZ;rw[iS];erw[3,3,3,λj=>?_]
 have:=iY (Dr (ns:=z.ns) (ts:=z.ts) (s:=z.s) (cs:=z.to) (n:=(aY z.ts x+1).toNat) (show 0<z.p by omega)) #[0] j
 omega
instance spTruths(CA CG:Addr):∀(k g v:Addr)(z:Ak)(ys:List V),vs=[.ref k]->AkAt CA CG H k g v z->AkOk z->H v=some (.lst ys)->(∀(l:Addr)(H':Hp),H' l=some (.lst (z.tru.map V.int))->AkAt CA CG H' k g v z->SameBut k H H'->Q (.ref l) H'):=1
def yk:FnScope WA WA (ao oQ):=%[|5]
def yM(F:#["true_numbers","Asking.true_numbers",oQ])(TA:ATxt K mg CA)(kP:#[16,"counts_of",WE,spCounts CG])(fN:#[14,"true_row",Wq,spTrue CG]):#[17,f,fd,WA,spTruths CA CG]:=by
 exists yk
 erw[k,g,v,z,ys,1,AK,ok,hv,q]at h;refine⟨_,(ad (aM (am yC (aB (pv 0) rfl) ma (az _)) (af (aM (am aS (aB (pv 0) rfl) ag (az _)) (af (aR (pv 0) (aD kP hr ⋯ rfl %[aB (pv 0) rfl|ae]) rfl)) (af (aR (pv 0) (aD fN hr ⋯ rfl %[aB (pv 0) rfl,aB (pv 0) rfl,aB (pv 0) rfl|ae]) rfl)))) aE)
  (af (ax (aB (pv 0) rfl)))),?_⟩
 let AK':=AK;erw[dk,aT,a,b,d,tv,tr,hk,GA,ha,hb,TS,hd,dv,hT,ht]at AK';let t0:z.ts≠[]:=λe=>by have:=ok.gk.t1;rw[e]at this;cases this
 let t10:=ok.gk.t10;let p2:=ok.p0;let p9:=ok.gk.p9;erw[0,k,CA,dk,_,0,hk,TA.cl,TA.nR,HS,6];rcases ht with rfl | ⟨l,rfl,lv,hl⟩
 . -- not yet asked
   let put:∀(l:Addr)(H1:Hp),H l=none->Same H H1->H1 l=some (.lst (z.tru.map V.int))->AkAt CA CG (upd H1 k (.ins CA dk (al g z.nr z.mn z.hd z.s aT (.ref l)))) k g v z/\(upd H1 k (.ins CA dk (al g z.nr z.mn z.hd z.s aT (.ref l)))) l=some (.lst (z.tru.map V.int))/\SameBut k H (upd H1 k (.ins CA dk (al g z.nr z.mn z.hd z.s aT (.ref l)))):=by
    intro l H1 l0 S1 hl;let lk:l≠k:=(aP hk l0).symm;let U:∀{c:Addr}{o:HO},c≠k->H1 c=some o->(upd H1 k (.ins CA dk (al g z.nr z.mn z.hd z.s aT (.ref l)))) c=some o:=λn e=>by rw[ay n];exact e
    let gk:g≠k:=λe=>by
     erw[dg,hg]at GA;rw[e,hk]at hg;cases hg
    let kT:cF H (upd H1 k (.ins CA dk (al g z.nr z.mn z.hd z.s aT (.ref l)))):=λc xs e=>U (bu e hk nofun) (S1 _ _ e)
    erw[dg,hg]at GA;erw[%[dk,aT,a,b,d,tv,.ref l,ai,%[dg|U gk (S1 _ _ hg)],kT _ _ ha,kT _ _ hb,TS.mono kT,U (bu hd hk nofun) (S1 _ _ hd),dv,kT _ _ hT|.inr %[l,1,(aP hv l0).symm|U lk hl]],U lk hl,(zL0 S1).trans (SameBut.upd _)]
   erw[1,0,eU ?_];erw[0,k,CA,dk,_,0,hk,TA.cl,TA.nN,JZ,1,0,6]
   by_cases c:z.nr=0
   . apply bd (congrArg V.int c) ?_;erw[0,k,CA,dk,_,0,hk,TA.cl,TA.nG,vW,g,a,b,d,z.ns,tv,z.ts,z.p,1,GA,ha,ok.n6,hb,TS,t10,λt ht=>%[(ok.gk.tok t ht).1|by have:=(ok.gk.tok t ht).2.2.1;omega],λl H1 l0 S1 hl=>?_];let et:z.tru=z.ts.map (λt=>(cnt t z.ns:Int)):=NE c;rw[←et]at hl;let%[A1,L1|B1]:=put l H1 l0 S1 hl;erw[0,k,CA,dk,0,S1 _ _ hk,TA.cl,TA.nR,FI,6];rw[FG];erw[0,k,CA,dk,_,0,ai,TA.cl,TA.nR,HS,q l _ L1 A1 B1]
   . apply aF (λe=>c (V.int.inj e)) ?_;let n0:=ok.nr0;let%[x,hx,ex,d0,d1|d4]:=ok.deg #[0];erw[0,k,CA,dk,_,0,hk,TA.cl,TA.nG,vW,0,k,CA,dk,_,0,hk,TA.cl,TA.nS,al_s,0,k,CA,dk,_,0,hk,TA.cl,TA.nT,al_t,g,a,b,d,aT,z.ns,tv,z.ts,z.to,x,z.s,z.p,1,GA,ha,ok.n6,hb,TS,t0,t10,λt ht=>%[(ok.gk.tok t ht).1|(ok.gk.tok t ht).2.2.1],hd,.inr hT,hx,d1,3,ok.po,3,3,λl H1 l0 S1 hl=>?_];let et:z.tru=fh z.ns z.ts z.s z.p z.to (aY z.ts x+1).toNat:=by
      unfold Ak.tru;rw[ND c,ex]
     rw[←et]at hl;let%[A1,L1|B1]:=put l H1 l0 S1 hl;erw[0,k,CA,dk,0,S1 _ _ hk,TA.cl,TA.nR,FI,6];rw[FG];erw[0,k,CA,dk,_,0,ai,TA.cl,TA.nR,HS,q l _ L1 A1 B1]
 . erw[1,0,dG ?_];erw[0,k,CA,dk,_,0,hk,TA.cl,TA.nR,HS,q l H hl AK (SameBut.refl _ _)]
instance spTrueAt(CA CG:Addr):∀(k g v:Addr)(z:Ak)(ys:List V)(i:Int),vs=[.ref k,.int i]->AkAt CA CG H k g v z->AkOk z->H v=some (.lst ys)->0<=i->i<z.p->(∀H',AkAt CA CG H' k g v z->SameBut k H H'->Q (.int (fJ z i)) H'):=1
def Kg:FnScope ["self","place","truths"] WM (ao vc):=%[|5]
def Ed(F:#["true_at","Asking.true_at",vc])(B:Bl mg)(TA:ATxt K mg CA)(TG:GTxt K mg CG)(mT:Meth K CA "true_numbers" fT)(GT:#[17,fT,fdT,WA,spTruths CA CG])(bT:Binds K fdT WA [])(b6:#[4,"value_at",WH,spVal]):#[18,f,fd,WM,spTrueAt CA CG]:=by
 exists Kg
 erw[k,g,v,z,ys,i,1,AK,ok,hv,i0,i1,q]at h;refine⟨_,(ad #[aj,2,Kg,bq (pv 0) TA.cl mT GT hr bT .nil bh]
  (ad (aM (am iz (aB (pv 0) rfl) ag (az _)) (af (ax (aD b6 hr ⋯ rfl %[2,1,aB (aB (pv 0) rfl) rfl|ae]))) aE)
  (ad (aM (am gJ (pv 1) (aJ aG rfl B.len zD1 %[2|ae]) (az _)) (af (ax (aq ba (aN ix_list (pv 2) (pv 1) #[1]) (aB (aB (pv 0) rfl) rfl)))) aE)
  (af (ax ag))))),?_⟩
 let p2:=ok.p0;let p9:=ok.gk.p9;let%[dk,aT,_,_,_,_,tr,hk|_]:=id AK;erw[0,k,dk,0,hk,al_n3,k,g,v,z,ys,1,AK,ok,hv,λl H1 hl A1 S1=>?_];let A1':=A1;erw[dk1,aT1,a1,b1,d1,tv1,tr1,hk1,%[dg1|hg1],_]at A1';unfold fJ at q;erw[0,k,CA,dk1,_,0,hk1,TA.cl,TA.nN,JZ,2,0,6]
 by_cases c:0<z.nr
 . rw[NE c]at q;apply bd c ?_;erw[0,0,0,k,CA,dk1,_,0,hk1,TA.cl,TA.nG,vW,g,CG,dg1,_,0,hg1,TG.cl,TG.nF,hU ..,l,z.tru,i,z.p,1,.inl hl,ok.row c,ok.gk.pr,p9,i0,i1,λH2 S2=>q H2 (A1.same S2) (S1.trans (zL0 S2))]
 . rw [ND c]at q;apply aF c ?_;erw[0,0,l,0,.inl (zG0 hl),2,0,6];let el:((z.tru.map V.int).length:Int)=(z.tru.length:Int):=by rw[zF0]
   by_cases c2:i<(z.tru.length:Int)
   . rw[NE c2]at q;apply bd (by rw[el];exact c2) ?_;let%[j|1]:=zW1 i0;rw[qS0]at q;erw[0,0,l,_,2,zG0 hl,oa #[0],0,k,CA,dk1,_,0,hk1,TA.cl,TA.nG,vW,g,CG,dg1,_,0,hg1,TG.cl,TG.nF,hU ..,2,(by show 0<z.p;omega),q H1 A1 S1]
   . rw[ND c2]at q;apply aF (by rw[el];exact c2) ?_;exact q H1 A1 S1
def Tm.worth(z:Ak)(bx:Str->Int):Tm->Int
 |.num n=>n % z.p | .box x=>bx x | .plain w=>oT z w
 |.ask w a=>if w="coin" then jh z (a.worth z bx)else fJ z (a.worth z bx)
 |.op s a b=>opV z.p s (a.worth z bx) (b.worth z bx)
def Tm.good:Tm->Prop
 |.num _=>True | .box _=>True | .plain w=>w∈plainW | .ask w a=>w∈askW/\a.good | .op s a b=>s∈signW/\a.good/\b.good
def kQ(p:Int)(bx:Str->Int):Prop:=∀x,0<=bx x/\bx x<p
def Tm.worth_rng(k:AkOk z)(hb:kQ z.p bx):∀t:Tm,0<=t.worth z bx/\t.worth z bx<z.p
 |.num n=>by have:=k.p0;erw[qD0 _ #[0],qH0 _ #[0]]
 |.box x=>hb x
 |.plain w=>yx k w
 |.ask w a=>by
   show 0<=(if w="coin" then jh z (a.worth z bx)else fJ z (a.worth z bx))/\(if w="coin" then jh z (a.worth z bx)else fJ z (a.worth z bx))<z.p
   split
   . exact Ci k _
   . exact AJ k _
 |.op s a b=>by have:=k.p0;exact GX #[0]
instance spTm(CA CG:Addr)(n:Nat):∀(v:V)(t:Tm)(b k g sd:Addr)(z:Ak)(ys:List V)(bx:Str->Int)(m:Nat),vs=[v,.ref b,.ref k]->TmAt H v t->t.good->t.depth<=n->BxAt H b bx m->kQ z.p bx->AkAt CA CG H k g sd z->AkOk z->H sd=some (.lst ys)->(∀H',AkAt CA CG H' k g sd z->SameBut k H H'->Q (.int (t.worth z bx)) H'):=1
def g9:FnScope ["term","boxes","asking","word","first","second"] WX (ao jw):=%[|5]
structure AskF(P:Program)(w:World)(K:W.Frag)(mg:#[9])(base:Heap)(CA CG fP fC fR:Addr)(fdP fdC fdR:FuncData):Prop where
 mP:Meth K CA "plain_value" fP
 GP:#[1,fP,fdP,Wf,spPlain CA CG]
 bP:Binds K fdP Wf []
 mC:Meth K CA "coin_at" fC
 GC:#[1,fC,fdC,WM,spCoinAt CA CG]
 bC:Binds K fdC WM []
 mR:Meth K CA "true_at" fR
 GR:#[18,fR,fdR,WM,spTrueAt CA CG]
 bR:Binds K fdR WM []
def Cq{n:Nat}(F:#["value_of",jw])(TA:ATxt K mg CA)(TG:GTxt K mg CG)(M:AskF P w K mg base CA CG fP fC fR fdP fdC fdR)(fO:#[3,"op_value",We,spOp])(cO:#[n+18,"value_of",WX,spTm CA CG n]):#[n+19,f,fd,WX,spTm CA CG (n+1)]:=by
 exists g9
 erw[v,t,b,k,g,sd,z,ys,bx,m,1,T,tg,td,BX,bo,AK,ok,hs,q]at h;let hu:=Ir hr;let NO:Room 1 _:=hr.mono #[0];let hr18:Room 18 _:=hr.mono #[0];refine⟨_,(ad #[aj,3,g9,aN ix_tup (pv 0) ag #[1]]
  (ad (aM (am aS (pv 3) aI (az _)) (af (ax (aq ba (aN ix_tup (pv 0) ag #[1]) (aB (aB (pv 2) rfl) rfl)))) aE)
  (ad (aM (am aS (pv 3) aI (az _)) (af (ax (DH hu (pv 1) (aN ix_tup (pv 0) ag #[1]) ag %[1,1,1|1]))) aE)
  (ad (aM (am aS (pv 3) aI (az _)) (af (ax (bZ (pv 2) TA.cl M.mC M.GC NO M.bC .nil bh %[aD cO hr (zH0 _) rfl %[aN ix_tup (pv 0) ag #[1],1,2|ae]|ae]))) aE)
  (ad (aM (am aS (pv 3) aI (az _)) (af (ax (bZ (pv 2) TA.cl M.mR M.GR hr18 M.bR .nil bh %[aD cO hr (zH0 _) rfl %[aN ix_tup (pv 0) ag #[1],1,2|ae]|ae]))) aE)
  (ad (aM (am aS (pv 3) aI (az _)) (ad #[aj,4,g9,aD cO hr (zH0 _) rfl %[aN ix_tup (pv 0) ag #[1],1,2|ae]]
   (ad #[aj,5,g9,aD cO hr (zH0 _) rfl %[aN ix_tup (pv 0) ag #[1],1,2|ae]]
   (af (ax (aD fO hr #[0] rfl %[aN ix_tup (pv 0) ag #[1],4,5,aB (aB (pv 2) rfl) rfl|ae]))))) aE)
  (af (ax (bZ (pv 2) TA.cl M.mP M.GP NO M.bP .nil bh %[3|ae]))))))))),?_⟩
 let AK':=AK;erw[dk,aT,ga,gb,gd,tv,tr,hk,%[dg|hg],_]at AK';let p2:=ok.p0;let p0:0<z.p:=#[0]
 let kT:∀{H':Hp},SameBut k H H'->cF H H':=λs c xs e=>s _ _ (bu e hk nofun) e
 let kB:∀{H':Hp},SameBut k H H'->BxAt H' b bx m:=λs=>BX.keep λo e=>s _ _ (by
  erw[NF,e',_]at BX;exact bu e' hk nofun) e
 let kS:∀{H':Hp},SameBut k H H'->H' sd=some (.lst ys):=λs=>s _ _ (bu hs hk nofun) hs
 cases T with
 | @num a n e=>
   erw[0,a,_,(0),0,1,zC0 e,1,6];erw[0,1,0,bd rfl ?_];erw[0,a,_,(1),0,1,zC0 e,1,0,k,CA,dk,_,0,hk,TA.cl,TA.nG,vW,g,CG,dg,_,0,hg,TG.cl,TG.nF,hU ..,2,p0,q H AK (SameBut.refl _ _)]
 | @box a x e=>
   erw[0,a,_,(0),0,1,zC0 e,1,6];erw[0,1,0,7];erw[0,1,0,bd rfl ?_];erw[NF,hb,_,hx]at BX;erw[0,b,1,.inl %[NF|.inl hb],0,a,_,(1),0,1,zC0 e,1,_,DGet.k (k:=.inr x) hb,6];rw[hx];exact q H AK (SameBut.refl _ _)
 | @plain a wd e=>
   let no:∀x:Str,x∉plainW->¬ V.str wd=V.str x:=λx hx e=>hx (by rw[←V.str.inj e];exact tg)
   erw[0,a,_,(0),0,1,zC0 e,1,6];erw[0,1,0,aF (no _ ⋯) ?_];erw[0,1,0,aF (no _ ⋯) ?_];erw[0,1,0,aF (no _ ⋯) ?_];erw[0,1,0,aF (no _ ⋯) ?_];erw[0,1,0,aF (no _ ⋯) ?_];erw[0,k,dk,0,hk,al_n1,0,k,g,sd,z,wd,1,AK,p0,q H AK (SameBut.refl _ _)]
 | @ask a wd v1 t1 e T1=>
   erw[wq,tq]at tg;let hw:wd="coin"∨wd="true":=by simpa [askW]using wq
   let d1:t1.depth<=n:=by have:t1.depth+1<=n+1:=td;omega
   let wr:=Tm.worth_rng ok bo t1;erw[0,a,_,(0),0,1,zC0 e,1,6];rcases hw with rfl | rfl
   . erw[0,1,0,7];erw[0,1,0,7];erw[0,1,0,bd rfl ?_];erw[0,k,dk,0,hk,al_n2,0,a,_,(1),0,1,zC0 e,1,0,0,v1,t1,b,k,g,sd,z,ys,bx,m,1,T1,tq,d1,BX,bo,AK,ok,hs,λH1 A1 S1=>?_];erw[k,g,sd,z,0,A1,ok.tl,λH2 S2=>?_];let qq:=q H2 (A1.same S2) (S1.trans (zL0 S2));let e1:(Tm.ask "coin" t1).worth z bx=jh z (t1.worth z bx):=NE rfl;rw[e1]at qq;exact qq
   . erw[0,1,0,7];erw[0,1,0,7];erw[0,1,0,7];erw[0,1,0,bd rfl ?_];erw[0,k,dk,0,hk,al_n4,0,a,_,(1),0,1,zC0 e,1,0,0,v1,t1,b,k,g,sd,z,ys,bx,m,1,T1,tq,d1,BX,bo,AK,ok,hs,λH1 A1 S1=>?_];erw[k,g,sd,z,ys,0,A1,ok,kS S1,wr.1,wr.2,λH2 A2 S2=>?_];let qq:=q H2 A2 (S1.trans S2);let e1:(Tm.ask "true" t1).worth z bx=fJ z (t1.worth z bx):=ND ⋯;rw[e1]at qq;exact qq
 | @op a o v1 v2 t1 t2 e T1 T2=>
   erw[oq,q1,q2]at tg;let d1:t1.depth<=n:=by have:max t1.depth t2.depth+1<=n+1:=td;omega
   let d2:t2.depth<=n:=by have:max t1.depth t2.depth+1<=n+1:=td;omega
   let w1:=Tm.worth_rng ok bo t1;let w2:=Tm.worth_rng ok bo t2;erw[0,a,_,(0),0,1,zC0 e,1,6];erw[0,1,0,7];erw[0,1,0,7];erw[0,1,0,7];erw[0,1,0,7];erw[0,1,0,bd rfl ?_];erw[0,a,_,(2),0,1,zC0 e,1,0,0,v1,t1,b,k,g,sd,z,ys,bx,m,1,T1,q1,d1,BX,bo,AK,ok,hs,λH1 A1 S1=>?_];let e1:=kT S1 _ _ e;erw[0,a,_,(3),0,1,zC0 e1,1,0,0,v2,t2,b,k,g,sd,z,ys,bx,m,1,T2.mono (kT S1),q2,d2,kB S1,bo,A1,ok,kS S1,λH2 A2 S2=>?_];let e2:=kT (S1.trans S2) _ _ e;let%[dk2,aT2,_,_,_,_,tr2,hk2,%[dg2|hg2]|_]:=id A2;erw[0,a,_,(1),0,1,zC0 e2,1,0,0,0,k,CA,dk2,_,0,hk2,TA.cl,TA.nG,vW,g,CG,dg2,_,0,hg2,TG.cl,TG.nF,hU ..,o,_,_,z.p,1,oq,ok.gk.pr,ok.gk.p9,w1.1,w1.2,w2.1,w2.2,q H2 A2 (S1.trans S2)]
def Cp:#[18,f,fd,WX,spTm CA CG 0]:=by
 let no:∀vs H Q E,¬ spTm CA CG 0 vs H Q E:=λvs H Q E h=>by
  erw[v,t,_,_,_,_,_,_,_,_,_,_,_,h1,_]at h
  have:=t.depth_pos
  omega
 exists 3
def pK(F:#["value_of",jw])(m:mg "value_of"=some (.ref f))(TA:ATxt K mg CA)(TG:GTxt K mg CG)(M:AskF P w K mg base CA CG fP fC fR fdP fdC fdR)(fO:#[3,"op_value",We,spOp]):
 ∀n:Nat,#[n+18,f,fd,WX,spTm CA CG n]
 |0=>Cp
 |n+1=>Cq F TA TG M fO (Cal.of F (pK F m TA TG M fO n) m (λ_ _ _ _ _ _ us hl=>by let%[u0,u1,u2|1]:=EJ hl;rfl))
end
section
variable {CM CA CG:Addr}
structure MS where
 pl:Int
 bx:Str->Int
 sd:List Int
def CL(z:Ak)(len:Int)(s:MS):Hr->MS
 |.fin=>%[len,s.bx|s.sd]
 |.go n=>%[n,s.bx|s.sd]
 |.iff t n=>%[if t.worth z s.bx=0 then s.pl+1 else n,s.bx|s.sd]
 |.set x t=>%[s.pl+1,gi s.bx x (t.worth z s.bx)|s.sd]
 |.say t=>%[s.pl+1,s.bx|s.sd++[t.worth z s.bx]]
def cV(z:Ak)(rows:List Hr)(s:MS):MS:=match rows[s.pl.toNat]? with
 |some r=>CL z rows.length s r
 |none=>s
def kc(z:Ak)(rows:List Hr):Nat->MS->MS
 |0,s=>s
 |n+1,s=>if s.pl<(rows.length:Int)/\(s.sd.length:Int)<z.mn then kc z rows n (cV z rows s)else s
def rM(mn:Int)(sd:List Int):List Int:=sd++List.replicate (mn-(sd.length:Int)).toNat 0
def Hr.good:Hr->Prop
 |.fin=>True | .go n=>0<=n | .iff t n=>t.good/\t.depth<=5/\0<=n | .set _ t=>t.good/\t.depth<=5 | .say t=>t.good/\t.depth<=5
def CN{rows:List Hr}(hq:∀r∈rows,r.good){s:MS}(h:0<=s.pl):0<=(cV z rows s).pl:=by
 unfold cV;cases e:rows[s.pl.toNat]? with
 |none=>exact h
 |some r=>
   let q:=hq r (qC0 e);cases r with
   |fin=>exact jW1 _
   |go n=>exact q
   |iff t n=>
     show 0<=if t.worth z s.bx=0 then s.pl+1 else n
     by_cases c:t.worth z s.bx=0
     . rw[NE c];omega
     . rw[ND c];exact q.2.2
   |set x t=>show 0<=s.pl+1;omega
   |say t=>show 0<=s.pl+1;omega
def we:(cV z rows s).sd.length<=s.sd.length+1:=by
 unfold cV;cases e:rows[s.pl.toNat]? with
 |none=>exact qN0 _
 |some r=>
   cases r with
   |fin=>exact qN0 _
   |go n=>exact qN0 _
   |iff t n=>exact qN0 _
   |set x t=>exact qN0 _
   |say t=>show(s.sd++[_]).length<=_;rw[zJ0];exact zH0 _
def Fx{n:Int}(h:kQ p bx)(h0:0<=n)(h1:n<p):kQ p (gi bx x n):=λy=>by
 unfold gi
 split
 . erw[h0,h1]
 . exact h y
def qI{s:MS}(k:AkOk z)(h:kQ z.p s.bx)(hs:bL s.sd z.p):kQ z.p (cV z rows s).bx/\bL (cV z rows s).sd z.p:=by
 unfold cV;cases e:rows[s.pl.toNat]? with
 |none=>erw[h,hs]
 |some r=>
   cases r with
   |fin=>erw[h,hs]
   |go n=>erw[h,hs]
   |iff t n=>erw[h,hs]
   |set x t=>
     let w:=Tm.worth_rng k h t;erw[Fx h w.1 w.2,hs]
   |say t=>
     let w:=Tm.worth_rng k h t;erw[h,λy hy=>?_];rcases qP0 hy with hy | hy
     . exact hs y hy
     . rw[NK hy];exact w
def mZ(k:AkOk z):∀(n:Nat)(s:MS),kQ z.p s.bx->bL s.sd z.p->(s.sd.length:Int)<=z.mn->kQ z.p (kc z rows n s).bx/\bL (kc z rows n s).sd z.p/\((kc z rows n s).sd.length:Int)<=z.mn
 |0,s,h,hs,hl=>%[h,hs|hl]
 |n+1,s,h,hs,hl=>by
   show kQ z.p (if _ then _ else _:MS).bx/\bL (if _ then _ else _:MS).sd z.p/\((if _ then _ else _:MS).sd.length:Int)<=z.mn
   by_cases c:s.pl<(rows.length:Int)/\(s.sd.length:Int)<z.mn
   . rw [NE c];let%[h1|h2]:=qI (rows:=rows) k h hs
     have:=we (z:=z) (rows:=rows) (s:=s)
     exact mZ k n _ h1 h2 #[0]
   . rw[ND c];erw[h,hs,hl]
def wB{mn:Int}{sd:List Int}(h:(sd.length:Int)<=mn):((rM mn sd).length:Int)=mn:=by
 unfold rM;rw[zJ0,zV1];omega
def zY(h:bL sd p)(p0:0<p):bL (rM mn sd) p:=λx hx=>by
 unfold rM at hx;rcases qP0 hx with hx | hx
 . exact h x hx
 . rw[List.eq_of_mem_replicate hx];omega
def RowsAt(H:Hp)(rv:List V)(rows:List Hr):Prop:=rv.length=rows.length/\∀(i:Nat)(v:V)(r:Hr),rv[i]?=some v->rows[i]?=some r->HrAt H v r
def RowsAt.mono(h:RowsAt H rv rows)(k:cF H H'):RowsAt H' rv rows:=%[h.1|λi v r h1 h2=>(h.2 i v r h1 h2).mono k]
def HW(b c:Addr)(H H':Hp):Prop:=∀a o,a≠b->a≠c->H a=some o->H' a=some o
def BxAt.le{n:Nat}(h:BxAt H b bx m)(k:m<=n):BxAt H b bx n:=by
 erw[NF,e,l,r]at h;erw[NF,e,zQ0 l k,r]
def But3(b c d:Addr)(H H':Hp):Prop:=∀a o,a≠b->a≠c->a≠d->H a=some o->H' a=some o
def But3.trans(x:But3 b c d H H1)(y:But3 b c d H1 H2):But3 b c d H H2:=λa o h1 h2 h3 e=>y a o h1 h2 h3 (x a o h1 h2 h3 e)
instance spRowM(CM CA CG:Addr):∀(M g h b dm k sd:Addr)(rv:List V)(r pl:Int)(z:Ak)(rows:List Hr)(bx:Str->Int)(m:Nat)(said:List Int),vs=[.ref M,.int pl,.ref sd,.ref k]->H M=some (.ins CM dm (ml g h r b))->M≠k->H h=some (.tup rv)->RowsAt H rv rows->(∀r∈rows,r.good)->0<=pl->pl<(rows.length:Int)->BxAt H b bx m->kQ z.p bx->m<=10000->H sd=some (.lst (said.map V.int))->said.length<=900->AkAt CA CG H k g sd z->AkOk z->(∀H',H' sd=some (.lst ((cV z rows ⟨pl,bx,said⟩).sd.map V.int))->BxAt H' b (cV z rows ⟨pl,bx,said⟩).bx (m+1)->AkAt CA CG H' k g sd z->But3 b sd k H H'->Q (.int (cV z rows ⟨pl,bx,said⟩).pl) H'):=1
def D6:FnScope ["self","place","said","asking","row","word"] Ws (ao yo):=%[|5]
def Ha(F:#["do_row","Machine.do_row",yo])(B:Bl mg)(TM:MTxt K mg CM)(cO:#[23,"value_of",WX,spTm CA CG 5]):#[24,f,fd,Ws,spRowM CM CA CG]:=by
 exists D6
 erw[M,g,h,b,dm,k,sd,rv,rn,pl,z,rows,bx,m,said,1,hM,nMk,hh,RW,rq,pl0,pl1,BX,bo,m1,hsd,sl,AK,ok,q]at h;let hu:=Ir hr;refine⟨_,(ad #[aj,4,D6,aN ix_tup (aB (pv 0) rfl) (pv 1) #[1]]
  (ad #[aj,5,D6,aN ix_tup (pv 4) ag #[1]]
  (ad (aM (am aS (pv 5) aI (az _)) (af (ax (aJ aG rfl B.len zD1 %[aB (pv 0) rfl|ae]))) aE)
  (ad (aM (am aS (pv 5) aI (az _)) (af (ax (aN ix_tup (pv 4) ag #[1]))) aE)
  (ad (aM (am aS (pv 5) aI (az _)) (af (Gz hu (aB (pv 0) rfl) (aN ix_tup (pv 4) ag #[1]) (aD cO hr ⋯ rfl %[aN ix_tup (pv 4) ag #[1],aB (pv 0) rfl,3|ae]) rfl)) (af (aM (am aS (pv 5) aI (az _)) (af (bb (eR zF1 zM1 zN1 cP (pv 2) %[aD cO hr ⋯ rfl %[aN ix_tup (pv 4) ag #[1],aB (pv 0) rfl,3|ae]|ae]))) (af (aM (am nI (aD cO hr ⋯ rfl %[aN ix_tup (pv 4) ag #[1],aB (pv 0) rfl,3|ae]) ag (az _)) (af (ax (aN ix_tup (pv 4) ag #[1]))) aE)))))
  (af (ax (aq aW (pv 1) ag)))))))),?_⟩
 let%[i|1]:=zW1 pl0;let hi:i<rows.length:=#[0]
 let hi':i<rv.length:=by rw[RW.1];exact hi
 let er:rows[i]?=some rows[i]:=zM0 hi;let ev:rv[i]?=some rv[i]:=zM0 hi';let RA:=RW.2 i _ _ ev er;let rqi:=rq _ (qR0 hi);let NI:cV z rows %[(i:Int),bx|said]=CL z rows.length ⟨(i:Int),bx,said⟩ rows[i]:=by
  unfold cV;rw[show((%[(i:Int),bx|said]:MS).pl.toNat)=i from qS0 i,er]
 rw[NI]at q;generalize rows[i]=row at RA rqi q er NI;let at_:atI rv (i:Int)=some rv[i]:=bK ev;generalize rv[i]=v at RA at_ ev;erw[0,M,CM,dm,_,0,hM,TM.cl,TM.nH,Hl,0,h,_,_,v,1,1,zC0 hh,at_,6];let K0:But3 b sd k H H:=λ_ _ _ _ _ e=>e
 let nBS:sd≠b:=by
  erw[NF,e,_]at BX;exact bu hsd e nofun
 let%[NF,hb,kl|hx]:=id BX;let%[dk,_,_,_,_,_,_,hk|_]:=id AK;let kT:∀{H':Hp},SameBut k H H'->cF H H':=λs c xs e=>s _ _ (bu e hk nofun) e
 let nbk:b≠k:=bu hb hk nofun;let nsk:sd≠k:=bu hsd hk nofun;cases RA with
 | @fin a e=>
   erw[0,a,_,(0),0,1,zC0 e,1,6];erw[0,1,0,bd rfl ?_];erw[0,M,CM,dm,_,0,hM,TM.cl,TM.nH,Hl,h,0,.inr (zC0 hh),6];rw[RW.1];exact q H hsd (BX.le (qN0 _)) AK K0
 | @go a n e=>
   erw[0,a,_,(0),0,1,zC0 e,1,6];erw[0,1,0,7];erw[0,1,0,bd rfl ?_];erw[0,a,_,(1),0,1,zC0 e,1,q H hsd (BX.le (qN0 _)) AK K0]
 | @iff a u t n e T=>
   erw[0,a,_,(0),0,1,zC0 e,1,6];erw[0,1,0,7];erw[0,1,0,7];erw[0,1,0,7];erw[0,1,0,7];erw[0,a,_,(1),0,1,zC0 e,1,0,M,CM,dm,_,0,hM,TM.cl,TM.nB,Ex,0,u,t,b,k,g,sd,z,_,bx,m,1,T,rqi.1,rqi.2.1,BX,bo,AK,ok,hsd,λH1 A1 S1=>?_];erw[1,0,6];let q':∀H',H' sd=some (.lst (said.map V.int))->BxAt H' b bx (m+1)->AkAt CA CG H' k g sd z->But3 b sd k H H'->Q (.int (if t.worth z bx=0 then(i:Int)+1 else n)) H':=q
   let q1:=q' H1 (S1 _ _ nsk hsd) ((BX.keep λo e=>S1 _ _ nbk e).le (qN0 _)) A1 (λc o _ _ h3 e=>S1 _ _ h3 e)
   by_cases c:t.worth z bx=0
   . rw[NE c]at q1;apply xc (congrArg V.int c) ?_;erw[0,2,q1]
   . rw[ND c]at q1;apply iteN (λz=>c (V.int.inj z)) ?_;erw[0,a,_,(2),0,1,zC0 (kT S1 _ _ e),1,q1]
 | @set a x u t e T=>
   erw[0,a,_,(0),0,1,zC0 e,1,6];erw[0,1,0,7];erw[0,1,0,7];erw[0,1,0,bd rfl ?_];erw[0,a,_,(2),0,1,zC0 e,1,0,M,CM,dm,_,0,hM,TM.cl,TM.nB,Ex,0,u,t,b,k,g,sd,z,_,bx,m,1,T,rqi.1,rqi.2,BX,bo,AK,ok,hsd,λH1 A1 S1=>?_];let hb1:=S1 _ _ nbk hb;let hs1:=S1 _ _ nsk hsd;erw[0,M,CM,dm,_,0,S1 _ _ nMk hM,TM.cl,TM.nB,Ex,0,a,_,(1),0,1,zC0 (kT S1 _ _ e),1,b,0,DPut.k (k:=.inr x) hb1 ?_,6]
   . exact zJ1 kl (zJ1 m1 ⋯)
   erw[0,2,6];apply q _ ?_ ⟨_,ai,zQ0 (kJ _ _ _) (zG1 kl),JW x _ hx⟩ (A1.but2 hb1 hs1 λc o h1 _ e=>by rw[ay h1];exact e) (λc o h1 _ h3 e=>by rw[ay h1];exact S1 _ _ h3 e);rw[ay nBS];exact hs1
 | @say a u t e T=>
   erw[0,a,_,(0),0,1,zC0 e,1,6];erw[0,1,0,7];erw[0,1,0,7];erw[0,1,0,7];erw[0,1,0,bd rfl ?_];erw[0,.inl %[1,_|zG0 hsd],6];erw[0,a,_,(1),0,1,zC0 e,1,0,M,CM,dm,_,0,hM,TM.cl,TM.nB,Ex,0,u,t,b,k,g,sd,z,_,bx,m,1,T,rqi.1,rqi.2,BX,bo,AK,ok,hsd,λH1 A1 S1=>?_];let hb1:=S1 _ _ nbk hb;let hs1:=S1 _ _ nsk hsd;erw[sd,2,hs1,6,6]
   . rw[zF0];exact aO #[0]
   erw[0,2,6];apply q _ ?_ ((BX.keep λo e=>by rw[ay nBS.symm];exact S1 _ _ nbk e).le (qN0 _)) (A1.but2 hb1 hs1 λc o _ h2 e=>by rw[ay h2];exact e) (λc o _ h2 h3 e=>by rw[ay h2];exact S1 _ _ h3 e);rw[ai];show _=some (HO.lst ((said++[t.worth z bx]).map V.int));rw[zK0];rfl
end
section
variable {CM CA CG:Addr}
def m1(g:Addr):List (Str×V):=[("game",.ref g)]
def m2(g h:Addr):List (Str×V):=[("game",.ref g),("helper",.ref h)]
def m3(g h:Addr):List (Str×V):=[("game",.ref g),("helper",.ref h),("next_round",.int 0)]
def pm1{g:Addr}:bY "game" (.ref g) []=m1 g:=by rfl'
def pm2{h:Addr}:bY "helper" (.ref h) (m1 g)=m2 g h:=by rfl'
def pm3:bY "next_round" (.int 0) (m2 g h)=m3 g h:=by rfl'
def pm4{b:Addr}:bY "boxes" (.ref b) (m3 g h)=ml g h 0 b:=by rfl'
instance spMInit(CM:Addr):∀(M g h dm:Addr),vs=[.ref M,.ref g,.ref h]->H M=some (.ins CM dm [])->(∀(b:Addr)(H':Hp),H b=none->H' M=some (.ins CM dm (ml g h 0 b))->H' b=some (.dK [])->SameBut M H H'->Q .non H'):=1
def De:FnScope WJ WJ (ao uU):=%[|5]
def DW(F:#["__init__","Machine.__init__",uU])(T:MTxt K mg CM):#[1,f,fd,WJ,spMInit CM]:=by
 exists De
 erw[M,g,h,dm,1,hM,q]at h;refine⟨_,(ad (aR (pv 0) (pv 1) rfl)
  (ad (aR (pv 0) (pv 2) rfl)
  (ad (aR (pv 0) ag rfl)
  (af (aR (pv 0) DG rfl))))),?_⟩
 erw[0,0,M,CM,dm,0,hM,9,T.nG,(by show 0<1000;decide),6];rw[pm1];erw[0,0,M,CM,dm,0,ai,9,T.nH,(by show 1<1000;decide),6];rw[pm2];erw[0,M,CM,dm,0,ai,9,T.nR,(by show 2<1000;decide),6];rw[pm3];let S3:SameBut M H (upd (upd (upd H M (.ins CM dm (m1 g))) M (.ins CM dm (m2 g h))) M (.ins CM dm (m3 g h))):=(SameBut.upd _).trans ((SameBut.upd _).trans (SameBut.upd _));let g3:upd (upd (upd H M (.ins CM dm (m1 g))) M (.ins CM dm (m2 g h))) M (.ins CM dm (m3 g h)) M=some (.ins CM dm (m3 g h)):=ai;generalize upd (upd (upd H M (.ins CM dm (m1 g))) M (.ins CM dm (m2 g h))) M (.ins CM dm (m3 g h))=H3 at S3 g3;intro b hb;let bM:b≠M:=(aP g3 hb).symm;erw[0,M,CM,dm,0,by rw[ay bM.symm];exact g3,T.cl,T.nB,(by show 3<1000;decide),6];rw[pm4];apply q b _ ?_ ai (by rw[ay bM];exact ai) (S3.trans ((zL0 (zE0 hb _)).trans (SameBut.upd _)));cases e:H b with
 |none=>rfl
 |some o=>rw[S3 b o bM e]at hb;cases hb
def a1(g:Addr):List (Str×V):=[("game",.ref g)]
def a2(g:Addr)(nr:Int):List (Str×V):=[("game",.ref g),("number",.int nr)]
def a3(g:Addr)(nr mn:Int):List (Str×V):=[("game",.ref g),("number",.int nr),("many",.int mn)]
def a4(g:Addr)(nr mn hd:Int):List (Str×V):=[("game",.ref g),("number",.int nr),("many",.int mn),("held",.int hd)]
def a5(g:Addr)(nr mn hd s:Int):List (Str×V):=[("game",.ref g),("number",.int nr),("many",.int mn),("held",.int hd),("s",.int s)]
def a6(g:Addr)(nr mn hd s:Int)(aT:Addr):List (Str×V):=[("game",.ref g),("number",.int nr),("many",.int mn),("held",.int hd),("s",.int s),("tossed",.ref aT)]
section
variable {g aT:Addr}{nr mn hd s:Int}
def pa1:bY "game" (.ref g) []=a1 g:=by rfl'
def pa2:bY "number" (.int nr) (a1 g)=a2 g nr:=by rfl'
def pa3:bY "many" (.int mn) (a2 g nr)=a3 g nr mn:=by rfl'
def pa4:bY "held" (.int hd) (a3 g nr mn)=a4 g nr mn hd:=by rfl'
def pa5:bY "s" (.int s) (a4 g nr mn hd)=a5 g nr mn hd s:=by rfl'
def pa6:bY "tossed" (.ref aT) (a5 g nr mn hd s)=a6 g nr mn hd s aT:=by rfl'
def pa7:bY "truths" .non (a6 g nr mn hd s aT)=al g nr mn hd s aT .non:=by rfl'
end
instance spAInit(CA:Addr):∀(k dk g c:Addr)(nr mn hd s:Int)(xs:List V),vs=[.ref k,.ref g,.int nr,.int mn,.int hd,.int s,.ref c]->H k=some (.ins CA dk [])->H c=some (.lst xs)∨H c=some (.tup xs)->(∀(aT:Addr)(H':Hp),H' k=some (.ins CA dk (al g nr mn hd s aT .non))->H' aT=some (.tup xs)->SameBut k H H'->Q .non H'):=1
def Dl:FnScope Wg Wg (ao vd):=%[|5]
def Ee(F:#["__init__","Asking.__init__",vd])(B:Bl mg)(T:ATxt K mg CA):#[1,f,fd,Wg,spAInit CA]:=by
 exists Dl
 erw[k,dk,g,c,nr,mn,hd,s,xs,1,hk,hc,q]at h;refine⟨_,(ad (aR (pv 0) (pv 1) rfl)
  (ad (aR (pv 0) (pv 2) rfl)
  (ad (aR (pv 0) (pv 3) rfl)
  (ad (aR (pv 0) (pv 4) rfl)
  (ad (aR (pv 0) (pv 5) rfl)
  (ad (aR (pv 0) (bc bi rfl B.tuple bt %[6|ae]) rfl)
  (af (aR (pv 0) ma rfl)))))))),?_⟩
 erw[0,0,k,CA,dk,0,hk,9,T.nG,(by show 0<1000;decide),6];rw[pa1];erw[0,0,k,CA,dk,0,ai,9,T.nN,(by show 1<1000;decide),6];rw[pa2];erw[0,0,k,CA,dk,0,ai,9,T.nM,(by show 2<1000;decide),6];rw[pa3];erw[0,0,k,CA,dk,0,ai,9,T.nH,(by show 3<1000;decide),6];rw[pa4];erw[0,0,k,CA,dk,0,ai,9,T.nS,(by show 4<1000;decide),6];rw[pa5];let S5:SameBut k H (upd (upd (upd (upd (upd H k (.ins CA dk (a1 g))) k (.ins CA dk (a2 g nr))) k (.ins CA dk (a3 g nr mn))) k (.ins CA dk (a4 g nr mn hd))) k (.ins CA dk (a5 g nr mn hd s))):=(SameBut.upd _).trans ((SameBut.upd _).trans ((SameBut.upd _).trans ((SameBut.upd _).trans (SameBut.upd _))));let g5:upd (upd (upd (upd (upd H k (.ins CA dk (a1 g))) k (.ins CA dk (a2 g nr))) k (.ins CA dk (a3 g nr mn))) k (.ins CA dk (a4 g nr mn hd))) k (.ins CA dk (a5 g nr mn hd s)) k=some (.ins CA dk (a5 g nr mn hd s)):=ai;generalize upd (upd (upd (upd (upd H k (.ins CA dk (a1 g))) k (.ins CA dk (a2 g nr))) k (.ins CA dk (a3 g nr mn))) k (.ins CA dk (a4 g nr mn hd))) k (.ins CA dk (a5 g nr mn hd s))=H5 at S5 g5;rcases hc with hc | hc
 . let hc5:=S5 _ _ (bu hc hk nofun) hc;erw[0,c,0,.inl %[zG0 hc5|λaT ha=>?_]];let aK:aT≠k:=(aP g5 ha).symm;erw[0,k,CA,dk,0,by rw[ay aK.symm];exact g5,T.cl,T.nT,(by show 5<1000;decide),6];rw[pa6];erw[0,k,CA,dk,0,ai,9,T.nR,(by show 6<1000;decide),6];rw[pa7];exact q aT _ ai (by rw[ay aK,ay aK];exact ai) (S5.trans ((zL0 (zE0 ha _)).trans ((SameBut.upd _).trans (SameBut.upd _))))
 . let nc:=bu hc hk nofun;let hc5:=S5 _ _ nc hc;erw[0,c,0,.inr %[zC0 hc5|6]];erw[0,k,CA,dk,0,g5,9,T.nT,(by show 5<1000;decide),6];rw[pa6];erw[0,k,CA,dk,0,ai,9,T.nR,(by show 6<1000;decide),6];rw[pa7];exact q c _ ai (by rw[ay nc,ay nc];exact hc5) (S5.trans ((SameBut.upd _).trans (SameBut.upd _)))
instance spSay(CM CG:Addr):∀(M g h b dm c:Addr)(rv:List V)(z:Ak)(rows:List Hr)(bx:Str->Int)(m:Nat),vs=[.ref M,.int z.mn,.int z.hd,.int z.s,.ref c]->H M=some (.ins CM dm (ml g h z.nr b))->H h=some (.tup rv)->RowsAt H rv rows->(∀r∈rows,r.good)->BxAt H b bx m->kQ z.p bx->m<=5000->Gm CG H g z.ns z.ts z.p->AkOk z->H c=some (.lst (z.to.map V.int))∨H c=some (.tup (z.to.map V.int))->0<=z.mn->z.mn<=500->(∀(l:Addr)(H':Hp),H l=none->H' l=some (.lst ((rM z.mn (kc z rows 200 ⟨0,bx,[]⟩).sd).map V.int))->BxAt H' b (kc z rows 200 ⟨0,bx,[]⟩).bx (m+200)->H' M=some (.ins CM dm (ml g h (z.nr+1) b))->HW M b H H'->Q (.ref l) H'):=1
def gZ:FnScope ["self","many","due","s","coins","asking","said","place","done"] Wt (ao ym):=%[|5]
def Dw(k:Nat)(x:V):(List.replicate k [x]).flatten=List.replicate k x:=by
 induction k with
 |zero=>rfl
 |succ k ih=>rw[qA1,qY1,ih,qA1];rfl
instance tSayE(Dn:Ends)(σ:St)(H:Hp):∀(x0 x2 x3 x4 x5 x7 x8:Option V)(sd:Addr)(mn:Int)(xs:List Int),σ=[x0,some (.int mn),x2,x3,x4,x5,some (.ref sd),x7,x8]->H sd=some (.lst (xs.map V.int))->xs.length<=200->0<=mn->mn<=500->(∀(l:Addr)(H':Hp),H l=none->Same H H'->H' l=some (.lst ((rM mn xs).map V.int))->Dn.rt (.ref l) H'):=0
def GZ(F:#["say","Machine.say",ym])(B:Bl mg)(TM:MTxt K mg CM)(TA:ATxt K mg CA)(hmost:∃t,mg "MOST_ROWS_DONE"=some (.int 200 t))
 (MA:Mk K CA fA)(GA:#[1,fA,fdA,Wg,spAInit CA])(bA:Binds K fdA Wg [])
 (mR:Meth K CM "do_row" fR)(GR:#[24,fR,fdR,Ws,spRowM CM CA CG])(bR:Binds K fdR Ws []):#[25,f,fd,Wt,spSay CM CG]:=by
 exists gZ
 erw[M,g,h,b,dm,c,rv,z,rows,bx,m,1,hM,hh,RW,rq,BX,bo,mm,GG,ok,hc,mn0,mn1,q]at h;erw[a',b',d',tv,G,hga,hgb,TS,hgd]at GG;erw[te,ge]at hmost;let hr2:Room (1+1) _:=hr.mono ⋯;let hr7:Room 24 _:=hr.mono ⋯;refine⟨_,(ad #[aj,5,gZ,ia MA GA hr2 rfl TA.mgC bA .nil bh %[aB (pv 0) rfl,aB (pv 0) rfl,1,2,3,4|ae]]
  (ad (aR (pv 0) (aq aW (aB (pv 0) rfl) ag) rfl)
  (ad #[aj,6,gZ,cq ae]
  (ad #[aj,7,gZ,ag]
  (ad #[aj,8,gZ,ag]
  (ad (iw zE1 (PW.pt (rf (am gJ (pv 7) (aJ aG rfl B.len zD1 %[aB (pv 0) rfl|ae]) (az _)) (rf (am gJ (aJ aG rfl B.len zD1 %[6|ae]) (pv 1) (az _)) (qm (am gJ (pv 8) (dw (v:=.int 200) rfl ge ⟨_,rfl⟩) (az _)))))) (ad #[aj,7,gZ,bZ (pv 0) TM.cl mR GR hr7 bR .nil bh %[7,6,5|ae]]
   (af #[aj,8,gZ,aq aW (pv 8) ag])))
  (lc (t':=tSayE) (af (ax (aq oU (pv 6) (aq DN (cq %[ag|ae]) (aq bj (pv 1) (aJ aG rfl B.len zD1 %[6|ae])))))) (by
   rintro Dn σ H ⟨x0,x2,x3,x4,x5,x7,x8,sd,mn,xs,rfl,hsd,xl,mn0,mn1,q⟩;erw[0,y1S,λz hz=>?_];let I1:=zE0 hz (.lst [.int 0]);let g1:upd H z (.lst [.int 0]) z=some (.lst [.int 0]):=ai;generalize upd H z (.lst [.int 0])=H1 at I1 g1;erw[0,0,sd,0,.inl (zG0 (I1 _ _ hsd)),2,6];let el:((xs.map V.int).length:Int)=(xs.length:Int):=by rw[zF0]
   erw[z,2,g1,3,3,small (by show 1*(mn-((xs.map V.int).length:Int)).toNat<=1000;omega),λy hy=>?_];rw[Dw];let I2:=zE0 hy (.lst (List.replicate (mn-((xs.map V.int).length:Int)).toNat (.int 0)));let g2:upd H1 y (.lst (List.replicate (mn-((xs.map V.int).length:Int)).toNat (.int 0))) y=some (.lst (List.replicate (mn-((xs.map V.int).length:Int)).toNat (.int 0))):=ai;generalize upd H1 y (.lst (List.replicate (mn-((xs.map V.int).length:Int)).toNat (.int 0)))=H2 at I2 g2;erw[sd,y,2,I2 _ _ (I1 _ _ hsd),g2,6,λl hl=>?_]
   . rw[zV1,zF0];exact small #[0]
   apply q l _ ?_ (I1.trans (I2.trans (zE0 hl _))) ?_
   . cases e:H l with
     |none=>rfl
     |some o=>rw[I2 _ _ (I1 _ _ e)]at hl;cases hl
   . rw[ai,el];unfold rM;rw[zK0,List.map_replicate])))))))),?_⟩
 erw[0,M,CM,dm,_,0,hM,TM.cl,TM.nG,ml_g,0,M,CM,dm,_,0,hM,TM.cl,TM.nR,Jo,0,0,0,0,λk dk hk hdk nk=>?_];let S1:Same H (upd (upd H dk (.own k)) k (.ins CA dk [])):=λa o e=>by
  rw[ay (aP e hk),ay (aP e hdk)];exact e
 let g1:upd (upd H dk (.own k)) k (.ins CA dk []) k=some (.ins CA dk []):=ai;generalize upd (upd H dk (.own k)) k (.ins CA dk [])=H1 at S1 g1;erw[k,dk,g,c,z.nr,z.mn,z.hd,z.s,z.to.map V.int,1,g1,hc.imp (S1 _ _) (S1 _ _),λaT H2 hk2 hT2 S2=>%[1|6]];let S02:Same H H2:=Same.but S1 hk S2;clear S1 S2 g1;let hM2:=S02 _ _ hM;erw[0,M,CM,dm,_,0,hM2,TM.cl,TM.nR,Jo,2,0,M,CM,dm,0,hM2,TM.cl,TM.nR,yU,6];rw[Ew];let nMk:M≠k:=aP hM hk;let S3:SameBut M H2 (upd H2 M (.ins CM dm (ml g h (z.nr+1) b))):=SameBut.upd _;let hM3:upd H2 M (.ins CM dm (ml g h (z.nr+1) b)) M=some (.ins CM dm (ml g h (z.nr+1) b)):=ai;generalize upd H2 M (.ins CM dm (ml g h (z.nr+1) b))=H3 at S3 hM3;erw[y0S,λsd hsd=>?_];let I4:=zE0 hsd (.lst []);let g4:upd H3 sd (.lst []) sd=some (.lst []):=ai;generalize upd H3 sd (.lst [])=H4 at I4 g4;let gM:g≠M:=λe=>by
  erw[dg,hg]at G;rw[e,hM]at hg;cases hg
 let nbM:b≠M:=by
  erw[NF,e,_]at BX;exact bu e hM nofun
 let S04:SameBut M H H4:=(zL0 S02).trans (S3.trans (zL0 I4));let hM4:=I4 _ _ hM3;let kT:cF H H4:=λc xs h=>S04 c _ (bu h hM nofun) h
 let hh4:=kT _ _ hh;let RW4:=RW.mono kT;let BX4:BxAt H4 b bx m:=BX.keep λo e=>S04 b o nbM e
 let G4:GameAt CG H4 g a' b' d' z.p:=by
  erw[dg,hg]at G;erw[dg,S04 _ _ gM hg]
 let hT4:H4 aT=some (.tup (z.to.map V.int)):=I4 _ _ (S3 _ _ (bu hT2 hM2 nofun) hT2);let hgd4:=S04 _ _ (bu hgd hM nofun) hgd;let nds:d'≠sd:=aP (S3 _ _ (bu hgd hM nofun) (S02 _ _ hgd)) hsd;let hk4:=I4 _ _ (S3 _ _ nMk.symm hk2);let b4:∃NF,H4 b=some (.dK NF):=by
  erw[NF,e,_]at BX4;erw[NF,e]
 erw[kv4,hb4]at b4;let nbs:b≠sd:=bu hb4 g4 nofun;let nhb:h≠b:=bu hh4 hb4 nofun;let nhs:h≠sd:=bu hh4 g4 nofun;let nMs:M≠sd:=bu hM4 g4 nofun;let nkb:k≠b:=bu hk4 hb4 nofun;let nks:k≠sd:=bu hk4 g4 nofun;let AK4:AkAt CA CG H4 k g sd z:=%[dk,aT,a',b',d',tv,.non,hk4,G4,kT _ _ hga,kT _ _ hgb,TS.mono kT,hgd4,nds,hT4|.inl rfl]
 let sd0:H sd=none:=by
  cases e:H sd with
  |none=>rfl
  |some o=>rw[S3 _ _ nMs.symm (S02 _ _ e)]at hsd;cases hsd
 erw[λmm σ H'=>∃(st:MS)(d:Nat),σ=[some (.ref M),some (.int z.mn),some (.int z.hd),some (.int z.s),some (.ref c),some (.ref k),some (.ref sd),some (.int st.pl),some (.int (d:Int))]/\d<=200/\mm=200-d/\0<=st.pl/\st.sd.length<=d/\kc z rows (200-d) st=kc z rows 200 %[(0),bx|[]]/\H' sd=some (.lst (st.sd.map V.int))/\BxAt H' b st.bx (m+d)/\kQ z.p st.bx/\bL st.sd z.p/\AkAt CA CG H' k g sd z/\But3 b sd k H4 H',%[_,%[(0),bx|[]],(0),1,zU0 _,1,qB1 0,zH0 _,1,g4,BX4,bo,(λx hx=>by cases hx),AK4|λ_ _ _ _ _ e=>e],6]
 rintro mm σ H' ⟨st,d,rfl,d2,rfl,st0,sl,hrun,hsd',BX',bo',so',AK',S'⟩;let hM':=S' _ _ nbM.symm nMs nMk hM4;let hh':=S' _ _ nhb nhs (bu hh4 hk4 nofun) hh4;let kT':cF H4 H':=λc xs h=>S' c _ (bu h hb4 nofun) (bu h g4 nofun) (bu h hk4 nofun) h
 let RW':=RW4.mono kT';let fin:kc z rows (200-d) st=st->∀(l:Addr)(H5:Hp),H' l=none->Same H' H5->H5 l=some (.lst ((rM z.mn st.sd).map V.int))->Q (.ref l) H5:=λer l H5 l0 S5 hl=>by
  rw[er]at hrun;rw[←hrun]at q;apply q l H5 ?_ hl ((BX'.keep λo e=>S5 b o e).le #[0]) (S5 _ _ hM') (λa o h1 h2 e=>?_)
  . cases e:H l with
    |none=>rfl
    |some o=>
      let lM:l≠M:=λz=>by rw[z,hM']at l0;cases l0
      let lb:l≠b:=λz=>by
       erw[NF,e',_]at BX';rw[z,e']at l0;cases l0
      let ls:l≠sd:=λz=>by rw[z,hsd']at l0;cases l0
      rw[S' _ _ lb ls (aP e hk) (S04 _ _ lM e)]at l0;cases l0
  . exact S5 _ _ (S' _ _ h2 (aP e sd0) (aP e hk) (S04 _ _ h1 e))
 erw[0,0,M,CM,dm,_,0,hM',TM.cl,TM.nH,Hl,h,0,.inr (zC0 hh'),2,0,6];rw[RW.1]
 by_cases c1:st.pl<(rows.length:Int)
 . apply bd c1 ?_;erw[0,sd,0,.inl (zG0 hsd'),0,2,0,6];rw[zF0]
   by_cases c2:(st.sd.length:Int)<z.mn
   . apply bd c2 ?_;erw[0,2,0,6]
     by_cases c3:d<200
     . apply bd #[0] ?_;erw[_,λ_ _ h=>h,6];erw[0,M,dm,0,hM',ml_n1,0,0,0,M,g,h,b,dm,k,sd,rv,_,st.pl,z,rows,st.bx,m+d,st.sd,1,hM',nMk,hh',RW',rq,st0,c1,BX',bo',3,hsd',3,AK',ok,λH6 hs6 BX6 A6 S6=>?_];erw[0,2,6];erw[_,(show 200-(d+1)<200-d by omega),cV z rows st,d+1,1,c3,1,CN rq st0,zQ0 we (zG1 sl),6,hs6,BX6,(qI ok bo' so').1,(qI ok bo' so').2,A6,S'.trans S6];rw[←hrun,show 200-d=(200-(d+1))+1 by omega];exact(NE ⟨c1,c2⟩).symm
     . apply aF #[0] ?_;let ed:200-d=0:=#[0]
       erw[_,_,_,_,_,_,_,sd,z.mn,st.sd,1,hsd',3,mn0,mn1,fin (by rw[ed];rfl)]
   . apply aF c2 (dG ?_);erw[_,_,_,_,_,_,_,sd,z.mn,st.sd,1,hsd',3,mn0,mn1,fin ?_];cases 200-d with
     |zero=>rfl
     |succ n=>exact ND (λz=>c2 z.2)
 . apply aF c1 (dG ?_);erw[_,_,_,_,_,_,_,sd,z.mn,st.sd,1,hsd',3,mn0,mn1,fin ?_];cases 200-d with
   |zero=>rfl
   |succ n=>exact ND (λz=>c1 z.1)
end
section
variable {ns:List Str}{ts:List Tr}{p:Int}
def qx(k:GmK ns ts p)(x:Str):0<=aY ts x/\aY ts x<=400:=by
 let t0:ts≠[]:=λz=>by have:=k.t1;rw[z]at this;cases this
 have:=kI (ns:=ts.map λt=>(t.names.count x:Int)) #[t0,0]
 let%[t,ht|e]:=List.mem_map.mp this;unfold aY;rw[←e];let h1:=jS1 (a:=x) (l:=t.names);let h2:=t.names_len;let h3:=(k.tok t ht).2.2.2;omega
end
structure HearOk(ns:List Str)(p:Int)(z:Db)(xs:List Int):Prop where
 aw:z.aw=(("hear":Str),some (xs.length:Int))
 xo:bL xs p
 x5:xs.length<=500
 ro:z.cl≠[]->jZ xs p
 tl:z.to.length<=ns.length
 po:bL z.to p
structure TossOk(ns:List Str)(p:Int)(z:Db)(r:Int):Prop where
 aw:z.aw.1="coin"
 r0:0<=r
 r1:r<p
 tl:z.to.length<=ns.length
 ro:z.he≠[]->jZ z.he p/\z.to.length<ns.length
 po:bL z.to p
section
variable {C CG cT cC cN:Addr}
structure Gd(ns:List Str)(ts:List Tr)(p:Int)(z:Db):Prop where
 tl:z.to.length<=ns.length
 po:bL z.to p
 e0:0<=z.ed
 e1:z.ed<p
 he:z.aw.1="hear" -> (z.cl=[]/\z.aw=(("hear":Str),some (ts.length:Int)))∨(z.cl≠[]/\z.to.length<ns.length/\z.aw=(("hear":Str),some (aY ts (ns.getD z.to.length "")+1)))
 co:z.aw.1="coin" -> z.cl≠[]/\(z.he≠[]->jZ z.he p/\z.to.length<ns.length)
 h0:z.cl=[]->z.he=[]
 ww:AwW z.aw.1
section
variable {ns:List Str}{ts:List Tr}{p:Int}{z:Db}
def Gd.new(k:GmK ns ts p):Gd ns ts p (Db.new ts):=by
 have:=k.p2
 erw[zU0 _,(λx hx=>by cases hx),qB1 _,(by show(0:Int)<p;omega),λ_=>.inl %[1|1],(λh=>by cases h),λ_=>rfl,.inl rfl]
def Gd.goOn(tl:z.to.length<=ns.length)(po:bL z.to p)(e0:0<=z.ed)(e1:z.ed<p)(cl:z.cl≠[]):Gd ns ts p (goOn ns ts p z):=by
 unfold Mine.goOn
 by_cases c:z.to.length<ns.length
 . rw[NE c];erw[tl,po,e0,e1,λ_=>.inr %[cl,c|1],(λh=>by cases h),λh=>absurd h cl,.inl rfl]
 . rw [ND c];unfold eF
   by_cases e:z.ed=hor z.s p (ts.map λt=>t.worth ns z.to p)
   . rw[NE e];erw[tl,po,e0,e1,(λh=>by cases h),(λh=>by cases h),λh=>absurd h cl,.inr (.inr (.inr rfl))]
   . rw[ND e];erw[tl,po,e0,e1,(λh=>by cases h),(λh=>by cases h),λh=>absurd h cl,.inr (.inr (.inl rfl))]
def Gd.hear_ne(k:GmK ns ts p)(h:Gd ns ts p z)(ok:HearOk ns p z xs):xs≠[]:=λe=>by
 let a:=ok.aw;rw[e,zH1]at a;let t1:=k.t1;rcases h.he (by rw[a])with⟨_,w⟩ | ⟨_,_,w⟩
 . rw [w]at a
   have:=zT0 (Prod.mk.inj a).2
   omega
 . rw [w]at a
   have:=zT0 (Prod.mk.inj a).2
   have:=qx k (ns.getD z.to.length "")
   omega
def Gd.hear(k:GmK ns ts p)(h:Gd ns ts p z)(ok:HearOk ns p z xs):Gd ns ts p (cX ns ts p xs z)/\(cX ns ts p xs z).cl≠[]:=by
 let p2:=k.p2;let xn:=h.hear_ne k ok;let a1:z.aw.1="hear":=by rw[ok.aw]
 unfold cX
 by_cases c:z.cl=[]
 . rw [NE c];unfold iW
   by_cases c1:ts.length=1
   . rw [NE c1];unfold xI;let hr:=og (s:=0) (p:=p) #[0] xs;erw[Gd.goOn h.tl h.po hr.1 hr.2 xn,6];unfold Mine.goOn eF
     split <;> exact xn
   . rw[ND c1];erw[%[h.tl,h.po,h.e0,h.e1,(λz=>by cases z),λ_=>%[xn|λe=>absurd (h.h0 c) e],λe=>absurd e xn|.inr (.inl rfl)],xn]
 . rw [ND c];unfold dI;let tl:z.to.length<ns.length:=by
    rcases h.he a1 with⟨e,_⟩ | ⟨_,t,_⟩
    . exact absurd e c
    . exact t
   by_cases e:(val p xs 0+val p xs 1) % p=z.ed
   . rw[NE e];erw[%[h.tl,h.po,h.e0,h.e1,(λz=>by cases z),λ_=>%[c|λ_=>%[ok.ro c|tl]],λe=>absurd e c|.inr (.inl rfl)],c]
   . rw[ND e];erw[%[h.tl,h.po,h.e0,h.e1,(λz=>by cases z),(λz=>by cases z),λe=>absurd e c|.inr (.inr (.inl rfl))],c]
def Gd.toss(k:GmK ns ts p)(h:Gd ns ts p z)(ok:TossOk ns p z r):Gd ns ts p (dz ns ts p r z)/\(dz ns ts p r z).cl≠[]:=by
 let p2:=k.p2;let%[cl|ro]:=h.co ok.aw;unfold dz
 by_cases c:z.he=[]
 . rw [NE c];unfold xI;let hr:=og (s:=r) (p:=p) #[0] z.cl;erw[Gd.goOn h.tl h.po hr.1 hr.2 cl,6];unfold Mine.goOn eF
   split <;> exact cl
 . rw [ND c];let hr:=uB (p:=p) #[0] z.he r;erw[Gd.goOn ?_ (λx hx=>?_) hr.1 hr.2 cl,6]
   . show (z.to++[r]).length<=_;rw[zJ0,qK0]
     have:=(ro c).2
     omega
   . rcases qP0 hx with h' | h'
     . exact h.po x h'
     . rw[NK h'];erw[ok.r0,ok.r1]
   . unfold Mine.goOn eF
     split <;> exact cl
end
end
structure Tk where
 z:Db
 bx:Str->Int
 nr:Int
def awN(z:Db):Int:=z.aw.2.getD 0
def Tk.ak(ns:List Str)(ts:List Tr)(p:Int)(t:Tk):Ak:=%[ns,ts,p,t.nr,awN t.z,t.z.ed,t.z.s|t.z.to]
def Tk.run(ns:List Str)(ts:List Tr)(p:Int)(rows:List Hr)(t:Tk):MS:=kc (t.ak ns ts p) rows 200 %[(0),t.bx|[]]
def Tk.said(ns:List Str)(ts:List Tr)(p:Int)(rows:List Hr)(t:Tk):List Int:=rM (awN t.z) (t.run ns ts p rows).sd
def Tk.ask(ns:List Str)(ts:List Tr)(p:Int)(rows:List Hr)(t:Tk):Tk:=%[cX ns ts p (t.said ns ts p rows) t.z,(t.run ns ts p rows).bx|t.nr+1]
def Tk.toss(ns:List Str)(ts:List Tr)(p r:Int)(t:Tk):Tk:=%[dz ns ts p r t.z,t.bx|t.nr]
def Tk.new(ts:List Tr):Tk:=%[Db.new ts,λ_=>0|(0)]
def bO(ns:List Str)(z:Db):Nat:=if z.aw.1="hear" then 2*(ns.length-z.to.length)else if z.aw.1="coin" then(if z.he=[]then 2*ns.length+1 else 2*(ns.length-z.to.length)-1)else 0
def bV(ns:List Str)(z:Db):Nat:=if z.aw.1="hear" then ns.length-z.to.length else if z.aw.1="coin" then(if z.he=[]then ns.length+1 else ns.length-z.to.length)else 0
structure TkOk(ns:List Str)(ts:List Tr)(p:Int)(t:Tk):Prop where
 gd:Gd ns ts p t.z
 cl:t.z.cl≠[]
 s0:0<=t.z.s
 s1:t.z.s<p
 bo:kQ p t.bx
 nr:1<=t.nr
 fi:t.z.aw.1="coin" -> t.z.he=[]->t.z.to=[]
section
variable {ns:List Str}{ts:List Tr}{p:Int}{t:Tk}{rows:List Hr}
def iU:¬ (("coin":Str)="hear"):=by decide
def wP:¬ (("caught":Str)="hear"):=by decide
def Io:¬ (("caught":Str)="coin"):=by decide
def Ek:¬ (("believed":Str)="coin"):=by decide
def sw(z:Db):(goOn ns ts p z).s=z.s/\(goOn ns ts p z).to=z.to/\(goOn ns ts p z).he=z.he/\(goOn ns ts p z).cl=z.cl:=by
 unfold goOn eF
 split <;> erw[1,1,1,1]
def iJ(z:Db):¬ (goOn ns ts p z).aw.1="coin":=by
 unfold goOn eF
 split
 . exact λh=>iU h.symm
 . show ¬ (if _ then _ else _:Str×Option Int).1="coin"
   split
   . exact Ek
   . exact Io
def iX(z:Db):bO ns (goOn ns ts p z)<=2*(ns.length-z.to.length)/\bV ns (goOn ns ts p z)<=ns.length-z.to.length:=by
 let%[_,e|_]:=sw (ns:=ns) (ts:=ts) (p:=p) z;let no:=iJ (ns:=ns) (ts:=ts) (p:=p) z;unfold bO bV;rw[e,ND no,ND no]
 constructor <;> split <;> omega
def TkOk.ak(k:GmK ns ts p)(n6:ns.length<=6)(h:TkOk ns ts p t)(hw:t.z.aw.1="hear"):AkOk (t.ak ns ts p)/\0<=awN t.z/\awN t.z<=500/\t.z.to.length<ns.length/\t.z.aw=(("hear":Str),some (awN t.z))/\awN t.z=aY ts (ns.getD t.z.to.length "")+1:=by
 rcases h.gd.he hw with⟨e,_⟩ | ⟨_,tl,aw⟩
 . exact absurd e h.cl
 let ea:awN t.z=aY ts (ns.getD t.z.to.length "")+1:=by unfold awN;rw[aw];rfl
 let%[d0|d4]:=qx k (ns.getD t.z.to.length "");let nr:=h.nr;erw[%[k,n6,by show 0<=t.nr;omega,λ_=>tl,h.gd.po,h.s0,h.s1,h.gd.e0,h.gd.e1|by show t.z.to.length<=100;omega],3,3,tl,by rw[ea];exact aw,ea]
def TkOk.hear(k:GmK ns ts p)(n6:ns.length<=6)(h:TkOk ns ts p t)(hw:t.z.aw.1="hear"):HearOk ns p t.z (t.said ns ts p rows):=by
 let%[ok,a0,a5,tl,aw|ea]:=h.ak k n6 hw;let p2:=k.p2;let p9:=k.p9;let%[_,r2|r3]:=mZ (rows:=rows) ok 200 %[(0),t.bx|[]] h.bo (λx hx=>by cases hx) a0;let xo:bL (t.said ns ts p rows) p:=zY r2 (by show 0<p;omega);let xl:((t.said ns ts p rows).length:Int)=awN t.z:=wB r3;let hx:ns.getD t.z.to.length ""∈ns:=by
  rw[qG0,zM0 tl];exact qR0 tl
 let%[d0|d1]:=k.deg _ hx;let%[_|d4]:=qx k (ns.getD t.z.to.length "");erw[by rw[xl];exact aw,xo,3,λ_=>%[3,3,3|λj=>?_],h.gd.tl,h.gd.po]
 have:=iY xo #[0] j
 omega
def zo(z:Db)(xs:List Int)(x0:xs≠[]):bO ns (dI p xs z)<=2*(ns.length-z.to.length)-1/\bV ns (dI p xs z)<=ns.length-z.to.length:=by
 let h1:(dI p xs z).to=z.to:=rfl;let h2:(dI p xs z).he=xs:=rfl;unfold bO bV;rw[h1,h2,ND x0,ND x0];let nh:¬ (dI p xs z).aw.1="hear":=by
  unfold dI;show ¬ (if _ then _ else _:Str×Option Int).1="hear"
  split
  . exact iU
  . exact wP
 rw[ND nh,ND nh]
 constructor <;> split <;> omega
def TkOk.ask(k:GmK ns ts p)(n6:ns.length<=6)(h:TkOk ns ts p t)(hw:t.z.aw.1="hear"):TkOk ns ts p (t.ask ns ts p rows)/\bO ns (t.ask ns ts p rows).z<bO ns t.z/\bV ns (t.ask ns ts p rows).z<=bV ns t.z/\¬ (t.ask ns ts p rows).z.aw.1="hear":=by
 let%[ok,a0,a5,tl,aw|ea]:=h.ak k n6 hw;let ho:=h.hear (rows:=rows) k n6 hw;let%[r1,_|_]:=mZ (rows:=rows) ok 200 %[(0),t.bx|[]] h.bo (λx hx=>by cases hx) a0;let%[g1|g2]:=h.gd.hear k ho;let x0:=h.gd.hear_ne k ho;let e:cX ns ts p (t.said ns ts p rows) t.z=dI p (t.said ns ts p rows) { t.z with pl:=t.z.pl+((t.said ns ts p rows).length:Int) }:=ND h.cl;let nr:=h.nr;let%[l1|l2]:=zo (ns:=ns) (p:=p) { t.z with pl:=t.z.pl+((t.said ns ts p rows).length:Int) } _ x0;let s1:bO ns t.z=2*(ns.length-t.z.to.length):=NE hw;let s2:bV ns t.z=ns.length-t.z.to.length:=NE hw;erw[%[g1,g2,6,6,r1,by show 1<=t.nr+1;omega|λ_ he=>?_],6,6,6]
 . show 0<=(cX ns ts p _ t.z).s;rw[e];exact h.s0
 . show(cX ns ts p _ t.z).s<p;rw[e];exact h.s1
 . have:(cX ns ts p (t.said ns ts p rows) t.z).he=[]:=he
   rw[e]at this;exact absurd this x0
 . show bO ns (cX ns ts p _ t.z)<_;rw[e,s1];let l1':bO ns (dI p (t.said ns ts p rows) { t.z with pl:=t.z.pl+((t.said ns ts p rows).length:Int) })<=2*(ns.length-t.z.to.length)-1:=l1;omega
 . show bV ns (cX ns ts p _ t.z)<=_;rw[e,s2];exact l2
 . show ¬ (cX ns ts p _ t.z).aw.1="hear";rw[e];unfold dI;show ¬ (if _ then _ else _:Str×Option Int).1="hear"
   split
   . exact iU
   . exact wP
def TkOk.tossOk(h:TkOk ns ts p t)(hw:t.z.aw.1="coin"){r:Int}(r0:0<=r)(r1:r<p):TossOk ns p t.z r:=%[hw,r0,r1,h.gd.tl,(h.gd.co hw).2|h.gd.po]
def TkOk.toss(k:GmK ns ts p)(h:TkOk ns ts p t)(hw:t.z.aw.1="coin"){r:Int}(r0:0<=r)(r1:r<p):TkOk ns ts p (t.toss ns ts p r)/\bO ns (t.toss ns ts p r).z<bO ns t.z/\bV ns (t.toss ns ts p r).z+1<=bV ns t.z/\¬ (t.toss ns ts p r).z.aw.1="coin"/\(t.z.he=[]->(t.toss ns ts p r).z.s=r/\(t.toss ns ts p r).z.to=[])/\(t.z.he≠[]->(t.toss ns ts p r).z.s=t.z.s/\(t.toss ns ts p r).z.to=t.z.to++[r]):=by
 let ok:=h.tossOk hw r0 r1;let%[g1|g2]:=h.gd.toss k ok;let nh:¬ t.z.aw.1="hear":=by rw[hw];exact iU
 let s1:bO ns t.z=if t.z.he=[]then 2*ns.length+1 else 2*(ns.length-t.z.to.length)-1:=by unfold bO;rw[ND nh,NE hw]
 let s2:bV ns t.z=if t.z.he=[]then ns.length+1 else ns.length-t.z.to.length:=by unfold bV;rw[ND nh,NE hw]
 let nr:=h.nr
 by_cases c:t.z.he=[]
 . let et:=h.fi hw c;let e:dz ns ts p r t.z=goOn ns ts p { t.z with pl:=t.z.pl+1,s:=r,ed:=hor r p t.z.cl }:=NE c;let lw:=sw (ns:=ns) (ts:=ts) (p:=p) { t.z with pl:=t.z.pl+1,s:=r,ed:=hor r p t.z.cl };let ll:=iX (ns:=ns) (ts:=ts) (p:=p) { t.z with pl:=t.z.pl+1,s:=r,ed:=hor r p t.z.cl };let ln:=iJ (ns:=ns) (ts:=ts) (p:=p) { t.z with pl:=t.z.pl+1,s:=r,ed:=hor r p t.z.cl };rw[←e]at lw ll ln;erw[w1,w2,w3,w4]at lw;let l1:bO ns (dz ns ts p r t.z)<=2*(ns.length-t.z.to.length):=ll.1;let l2:bV ns (dz ns ts p r t.z)<=ns.length-t.z.to.length:=ll.2;rw[NE c]at s1 s2;erw[%[g1,g2,6,6,h.bo,nr|λa=>absurd a ln],6,6,ln,λ_=>%[w1|w2.trans et],λz=>absurd c z]
   . show 0<=(dz ns ts p r t.z).s;rw[w1];exact r0
   . show(dz ns ts p r t.z).s<p;rw[w1];exact r1
   . show bO ns (dz ns ts p r t.z)<_;omega
   . show bV ns (dz ns ts p r t.z)+1<=_;omega
 . let tl:=((h.gd.co hw).2 c).2;let e:dz ns ts p r t.z=goOn ns ts p { t.z with pl:=t.z.pl+1,ed:=val p t.z.he r,to:=t.z.to++[r] }:=ND c;let lw:=sw (ns:=ns) (ts:=ts) (p:=p) { t.z with pl:=t.z.pl+1,ed:=val p t.z.he r,to:=t.z.to++[r] };let ll:=iX (ns:=ns) (ts:=ts) (p:=p) { t.z with pl:=t.z.pl+1,ed:=val p t.z.he r,to:=t.z.to++[r] };let ln:=iJ (ns:=ns) (ts:=ts) (p:=p) { t.z with pl:=t.z.pl+1,ed:=val p t.z.he r,to:=t.z.to++[r] };rw[←e]at lw ll ln;erw[w1,w2,w3,w4]at lw;let el:(t.z.to++[r]).length=t.z.to.length+1:=by rw[zJ0];rfl
   let l1:bO ns (dz ns ts p r t.z)<=2*(ns.length-(t.z.to++[r]).length):=ll.1;let l2:bV ns (dz ns ts p r t.z)<=ns.length-(t.z.to++[r]).length:=ll.2;rw[el]at l1 l2;rw[ND c]at s1 s2;erw[%[g1,g2,6,6,h.bo,nr|λa=>absurd a ln],6,6,ln,λz=>absurd z c,λ_=>%[w1|w2]]
   . show 0<=(dz ns ts p r t.z).s;rw[w1];exact h.s0
   . show(dz ns ts p r t.z).s<p;rw[w1];exact h.s1
   . show bO ns (dz ns ts p r t.z)<_;omega
   . show bV ns (dz ns ts p r t.z)+1<=_;omega
def yN(k:GmK ns ts p)(n6:ns.length<=6):AkOk ((Tk.new ts).ak ns ts p)/\awN (Tk.new ts).z=(ts.length:Int)/\HearOk ns p (Db.new ts) ‹Tk.s›/\kQ p (Tk.new ts).bx:=by
 let p2:=k.p2;let t1:=k.t1;let t10:=k.t10;let b0:kQ p (Tk.new ts).bx:=λx=>by show(0:Int)<=0/\(0:Int)<p;omega
 let ok:AkOk ((Tk.new ts).ak ns ts p):=%[k,n6,qB1 0,λz=>absurd z (by show ¬ (0:Int)<0;omega),(λx hx=>by cases hx),qB1 0,(by show(0:Int)<p;omega),qB1 0,(by show(0:Int)<p;omega)|zU0 _]
 let%[_,r2|r3]:=mZ (rows:=rows) ok 200 %[(0),(Tk.new ts).bx|[]] b0 (λx hx=>by cases hx) (by show(0:Int)<=(ts.length:Int);omega);let xl:(‹Tk.s›.length:Int)=(ts.length:Int):=wB r3;erw[ok,1,%[6,zY r2 (by show 0<p;omega),3,λz=>absurd rfl z,zU0 _|λx hx=>by cases hx],b0];rw[xl];rfl
def li(k:GmK ns ts p)(n6:ns.length<=6):TkOk ns ts p ‹Tk.a›/\bO ns ‹Tk.a›.z<=2*ns.length+1/\bV ns ‹Tk.a›.z<=ns.length+(if 1<ts.length then 1 else 0)/\(1<ts.length->‹Tk.a›.z.aw=(("coin":Str),none)/\‹Tk.a›.z.he=[]/\‹Tk.a›.z.to=[])/\(¬ 1<ts.length->¬ ‹Tk.a›.z.aw.1="coin"/\‹Tk.a›.z.s=0/\‹Tk.a›.z.to=[]):=by
 let p2:=k.p2;let t1:=k.t1;let%[ok,_,ho|b0]:=yN (rows:=rows) k n6;let%[r1,_|_]:=mZ (rows:=rows) ok 200 %[(0),(Tk.new ts).bx|[]] b0 (λx hx=>by cases hx) (by show(0:Int)<=(ts.length:Int);omega);let%[g1|g2]:=(Gd.new k).hear k ho;let e0:cX ns ts p ‹Tk.s› (Db.new ts)=iW ns ts p ‹Tk.s› { Db.new ts with pl:=(Db.new ts).pl+(‹Tk.s›.length:Int) }:=NE rfl
 by_cases c:ts.length=1
 . let e:cX ns ts p ‹Tk.s› (Db.new ts)=goOn ns ts p { Db.new ts with pl:=(Db.new ts).pl+(‹Tk.s›.length:Int),cl:=‹Tk.s›,s:=0,ed:=hor 0 p ‹Tk.s› }:=by
    rw[e0];exact NE c
   let lw:=sw (ns:=ns) (ts:=ts) (p:=p) { Db.new ts with pl:=(Db.new ts).pl+(‹Tk.s›.length:Int),cl:=‹Tk.s›,s:=0,ed:=hor 0 p ‹Tk.s› };let ll:=iX (ns:=ns) (ts:=ts) (p:=p) { Db.new ts with pl:=(Db.new ts).pl+(‹Tk.s›.length:Int),cl:=‹Tk.s›,s:=0,ed:=hor 0 p ‹Tk.s› };let ln:=iJ (ns:=ns) (ts:=ts) (p:=p) { Db.new ts with pl:=(Db.new ts).pl+(‹Tk.s›.length:Int),cl:=‹Tk.s›,s:=0,ed:=hor 0 p ‹Tk.s› };rw[←e]at lw ll ln;erw[w1,w2,w3,w4]at lw;let l1:bO ns (cX ns ts p ‹Tk.s› (Db.new ts))<=2*(ns.length-0):=ll.1;let l2:bV ns (cX ns ts p ‹Tk.s› (Db.new ts))<=ns.length-0:=ll.2;erw[%[g1,g2,6,6,r1,by show(1:Int)<=0+1;decide|λa=>absurd a ln],6,6,λz=>#[0],λ_=>%[ln,w1|w2]]
   . show 0<=(cX ns ts p _ (Db.new ts)).s;rw[w1];exact qB1 0
   . show(cX ns ts p _ (Db.new ts)).s<p;rw[w1];show(0:Int)<p;omega
   . show bO ns (cX ns ts p _ (Db.new ts))<=_;omega
   . show bV ns (cX ns ts p _ (Db.new ts))<=_;rw[ND #[0]];omega
 . let e:cX ns ts p ‹Tk.s› (Db.new ts)={ Db.new ts with pl:=(Db.new ts).pl+(‹Tk.s›.length:Int),cl:=‹Tk.s›,aw:=("coin",none) }:=by
    rw[e0];exact ND c
   let ez:‹Tk.a›.z={ Db.new ts with pl:=(Db.new ts).pl+(‹Tk.s›.length:Int),cl:=‹Tk.s›,aw:=("coin",none) }:=e;erw[%[g1,g2,6,6,r1,by show(1:Int)<=0+1;decide|λ_ _=>?_],6,6,λ_=>%[6,6|6],λz=>#[0]]
   . rw[ez];exact qB1 0
   . rw[ez];show(0:Int)<p;omega
   . rw[ez];rfl
   . rw[ez];show(if(("coin":Str)="hear")then _ else if(("coin":Str)="coin")then(if([]:List Int)=[]then 2*ns.length+1 else _)else 0)<=_;rw[ND iU,NE rfl,NE rfl];exact zH0 _
   . rw[ez];show(if(("coin":Str)="hear")then _ else if(("coin":Str)="coin")then(if([]:List Int)=[]then ns.length+1 else _)else 0)<=_;rw[ND iU,NE rfl,NE rfl,NE #[0]];exact zH0 _
   . rw[ez]
   . rw[ez];rfl
   . rw[ez];rfl
end
inductive TR where
 |claims (xs:List Int) | say (xs:List Int) | coin (r:Int)
def cw(ns:List Str)(ts:List Tr)(p:Int)(rows:List Hr):List Int->Nat->Tk->List TR×Tk
 |_,0,t=>([],t)
 | cs,n+1,t=>if t.z.aw.1="hear" then(.say (t.said ns ts p rows)::(cw ns ts p rows cs n (t.ask ns ts p rows)).1,(cw ns ts p rows cs n (t.ask ns ts p rows)).2)
   else if t.z.aw.1="coin" then(.coin (cs.headD 0)::(cw ns ts p rows cs.tail n (t.toss ns ts p (cs.headD 0))).1,(cw ns ts p rows cs.tail n (t.toss ns ts p (cs.headD 0))).2)
   else([],t)
def jT(ns:List Str)(ts:List Tr)(p:Int)(rows:List Hr)(cs:List Int):List TR×Tk:=(.claims ‹Tk.s›::(cw ns ts p rows cs 20 ‹Tk.a›).1,(cw ns ts p rows cs 20 ‹Tk.a›).2)
def dA{t:Tk}(h1:¬ t.z.aw.1="hear")(h2:¬ t.z.aw.1="coin"):∀n,cw ns ts p rows cs n t=([],t)
 |0=>rfl
 |n+1=>by
   show(if _ then _ else _)=_;rw[ND h1,ND h2]
def settle(ns:List Str)(ts:List Tr)(p:Int)(rows:List Hr):Nat->Tk->Tk
 |0,t=>t
 |n+1,t=>if t.z.aw.1="hear" then settle ns ts p rows n (t.ask ns ts p rows)else t
def iZ(f:Int->Int×Option (List Int)):Nat->Int×Option (List Int)
 |0=>(0,none)
 |k+1=>((iZ f k).1+(f (k:Int)).1,(iZ f k).2.or (f (k:Int)).2)
def ii(ns:List Str)(ts:List Tr)(p:Int)(rows:List Hr)(cn:Nat):Nat->Tk->List Int->Int×Option (List Int)
 |0,_,_=>(0,none)
 | d+1,t,cs=>if(settle ns ts p rows 2 t).z.aw.1="believed" then(1,none)else if(settle ns ts p rows 2 t).z.aw.1="caught" then(0,some (cs++List.replicate (cn-cs.length) 0))
   else iZ (λr=>ii ns ts p rows cn d ((settle ns ts p rows 2 t).toss ns ts p r) (cs++[r])) p.toNat
def Beg(ns:List Str)(ts:List Tr)(p:Int)(t:Tk):Prop:=t=Tk.new ts∨TkOk ns ts p t
section
variable {ns:List Str}{ts:List Tr}{p:Int}{t:Tk}{rows:List Hr}
def cZ(h:¬ t.z.aw.1="hear"):∀n,settle ns ts p rows n t=t
 |0=>rfl
 |n+1=>ND h
def kU(k:GmK ns ts p)(n6:ns.length<=6)(h:TkOk ns ts p t):TkOk ns ts p (settle ns ts p rows 2 t)/\bV ns (settle ns ts p rows 2 t).z<=bV ns t.z/\¬ (settle ns ts p rows 2 t).z.aw.1="hear":=by
 by_cases c:t.z.aw.1="hear"
 . let%[o1,_,o3|o4]:=h.ask (rows:=rows) k n6 c;let e:settle ns ts p rows 2 t=t.ask ns ts p rows:=(NE c).trans (cZ o4 1);rw[e];erw[o1,o3,o4]
 . rw[cZ c];erw[h,zH0 _,c]
def jr(k:GmK ns ts p)(n6:ns.length<=6):TkOk ns ts p (settle ns ts p rows 2 (Tk.new ts))/\bV ns (settle ns ts p rows 2 (Tk.new ts)).z<=ns.length+(if 1<ts.length then 1 else 0)/\¬ (settle ns ts p rows 2 (Tk.new ts)).z.aw.1="hear":=by
 let%[o1,_,o3,_|_]:=li (rows:=rows) k n6;let e:settle ns ts p rows 2 (Tk.new ts)=settle ns ts p rows 1 ‹Tk.a›:=NE rfl;rw[e]
 by_cases c:‹Tk.a›.z.aw.1="hear"
 . let%[q1,_,q3|q4]:=o1.ask (rows:=rows) k n6 c;let e:settle ns ts p rows 1 ‹Tk.a›=‹Tk.a›.ask ns ts p rows:=NE c;rw[e];erw[q1,zQ0 q3 o3,q4]
 . rw[cZ c];erw[o1,o3,c]
def Beg.settle(k:GmK ns ts p)(n6:ns.length<=6)(h:Beg ns ts p t):TkOk ns ts p (settle ns ts p rows 2 t)/\¬ (settle ns ts p rows 2 t).z.aw.1="hear":=by
 rcases h with rfl | h
 . erw[(jr k n6).1,(jr k n6).2.2]
 . erw[(kU k n6 h).1,(kU k n6 h).2.2]
def xJ(h:TkOk ns ts p t)(hn:¬ t.z.aw.1="hear")(h1:¬ t.z.aw.1="believed")(h2:¬ t.z.aw.1="caught"):t.z.aw.1="coin":=by
 rcases h.gd.ww with e | e | e | e
 . exact absurd e hn
 . exact e
 . exact absurd e h2
 . exact absurd e h1
structure AskOk(ns:List Str)(ts:List Tr)(p:Int)(rows:List Hr)(t:Tk):Prop where
 ak:AkOk (t.ak ns ts p)
 bo:kQ p t.bx
 aw:t.z.aw=(("hear":Str),some (awN t.z))
 a0:0<=awN t.z
 a5:awN t.z<=500
 ho:HearOk ns p t.z (t.said ns ts p rows)
def Beg.ask(k:GmK ns ts p)(n6:ns.length<=6)(h:Beg ns ts p t)(hw:t.z.aw.1="hear"):AskOk ns ts p rows t:=by
 rcases h with rfl | h
 . let%[ak0,an0,ho0|bo0]:=yN (rows:=rows) k n6;let t1:=k.t1;let t10:=k.t10;erw[ak0,bo0,1,by rw[an0];omega,by rw[an0];omega,ho0]
 . let%[ak,a0,a5,tl,aw|ea]:=h.ak k n6 hw;erw[ak,h.bo,aw,a0,a5,h.hear (rows:=rows) k n6 hw]
def Beg.asked(k:GmK ns ts p)(n6:ns.length<=6)(h:Beg ns ts p t)(hw:t.z.aw.1="hear"):TkOk ns ts p (t.ask ns ts p rows):=by
 rcases h with rfl | h
 . exact(li (rows:=rows) k n6).1
 . exact(h.ask (rows:=rows) k n6 hw).1
end
section
variable {C CM CA CG:Addr}
structure TalkAt(C CM CG:Addr)(H:Hp)(D M g h b:Addr)(rows:List Hr)(ns:List Str)(ts:List Tr)(p:Int)(t:Tk)(m:Nat):Prop where
 DA:DbAt C H D g t.z
 G:Gm CG H g ns ts p
 hM:∃dm,H M=some (.ins CM dm (ml g h t.nr b))
 hh:∃rv,H h=some (.tup rv)/\RowsAt H rv rows
 BX:BxAt H b t.bx m
 ne:D≠M
def TalkAt.same(w:TalkAt C CM CG H D M g h b rows ns ts p t m)(s:Same H H'):TalkAt C CM CG H' D M g h b rows ns ts p t m:=by
 erw[DA,G,%[dm|hM],%[rv,hh|R],B,ne]at w;erw[DA.same s,G.same s,%[dm|s _ _ hM],%[rv,s _ _ hh|R.mono (aV s)],B.keep λo e=>s _ _ e,ne]
def DbAt.but2{C' dm:Addr}{fs:List (Str×V)}{NF:List (Key×V)}(h:DbAt C H D g z)(s:HW M b H H')(hM:H M=some (.ins C' dm fs))(hb:H b=some (.dK NF))(ne:D≠M):DbAt C H' D g z:=by
 erw[dx,aA,aC,aH,aT,R]at h;let kT:cF H H':=λa xs e=>s _ _ (bu e hM nofun) (bu e hb nofun) e
 erw[dx,aA,aC,aH,aT,s _ _ ne (bu R.hD hb nofun) R.hD,kT _ _ R.hA,kT _ _ R.hC,kT _ _ R.hH,kT _ _ R.hT]
def Gm.but2{dm:Addr}{NF:List (Key×V)}(G:Gm CG H g ns ts p)(s:HW M b H H')(hM:H M=some (.ins CM dm (ml g' h r b')))(hb:H b=some (.dK NF)):Gm CG H' g ns ts p:=by
 erw[a,b1,d,tv,%[dg|hg],h2,h3,h4,h5]at G;let kT:cF H H':=λa xs e=>s _ _ (bu e hM nofun) (bu e hb nofun) e
 let gM:g≠M:=λe=>by
  rw[e,hM]at hg;cases hg
 erw[a,b1,d,tv,%[dg|s _ _ gM (bu hg hb nofun) hg],kT _ _ h2,kT _ _ h3,h4.mono kT,s _ _ (bu h5 hM nofun) (bu h5 hb nofun) h5]
def TalkAt.doub(w:TalkAt C CM CG H D M g h b rows ns ts p t m)(s:SameBut D H H')(DA:DbAt C H' D g z'):TalkAt C CM CG H' D M g h b rows ns ts p %[z',t.bx|t.nr] m:=by
 erw[DA0,G,%[dm|hM],%[rv,hh|R],B,ne]at w;erw[dx,aA,aC,aH,aT,R0]at DA0;let kT:cF H H':=λa xs e=>s _ _ (bu e R0.hD nofun) e
 let%[NF,hb|_]:=id B;erw[DA,G.but R0.hD (G.ne R0.hD je) s,%[dm|s _ _ ne.symm hM],%[rv,kT _ _ hh|R.mono kT],B.keep λo e=>s _ _ (bu hb R0.hD nofun) e,ne]
instance spAsked(C CM CG:Addr):∀(D M g h b:Addr) (rows:List Hr) (ns:List Str) (ts:List Tr) (p:Int) (t:Tk) (m:Nat),vs=[.ref M,.ref D]->TalkAt C CM CG H D M g h b rows ns ts p t m->GmK ns ts p->(∀r∈rows,r.good)->AkOk (t.ak ns ts p)->kQ p t.bx->t.z.aw=(("hear":Str),some (awN t.z))->0<=awN t.z->awN t.z<=500->HearOk ns p t.z (t.said ns ts p rows)->m<=5000->(∀(a:Addr) (H':Hp),H a=none->H' a=some (.tup ((t.said ns ts p rows).map V.int))->TalkAt C CM CG H' D M g h b rows ns ts p (t.ask ns ts p rows) (m+200)->But3 D M b H H'->Q (.ref a) H'):=1
def m9:FnScope ["machine","doubter","values"] Wh (ao jG):=%[|5]
structure Ways(P:Program)(w:World)(K:W.Frag)(mg:#[9])(base:Heap)(C CM CG fW fU fH fT fS:Addr)(fdW fdU fdH fdT fdS:FuncData):Prop where
 mW:Meth K C "waits" fW
 GW:#[1,fW,fdW,WA,spOf C λz v H=>∃a,v=.ref a/\H a=some (.tup (awV z.aw))]
 bW:Binds K fdW WA []
 mU:Meth K C "due" fU
 GU:#[1,fU,fdU,WA,spOf C λz v _=>v=.int z.ed]
 bU:Binds K fdU WA []
 mH:Meth K C "hear" fH
 GH:#[18,fH,fdH,WC,spHear C CG]
 bH:Binds K fdH WC []
 mT:Meth K C "toss" fT
 GT:#[17,fT,fdT,Wc,spToss C CG]
 bT:Binds K fdT Wc []
 mS:Meth K CM "say" fS
 GS:#[25,fS,fdS,Wt,spSay CM CG]
 bS:Binds K fdS Wt []
def TalkAt.asked{dm:Addr}{n1:Int}(w:TalkAt C CM CG H D M g h b rows ns ts p t m)(hM:H M=some (.ins CM dm (ml g h t.nr b)))(B1:BxAt H1 b (t.run ns ts p rows).bx (m+200))(hM1:H1 M=some (.ins CM dm (ml g h (t.nr+1) b)))(s1:HW M b H H1)(e1:n1=t.nr+1):TalkAt C CM CG H1 D M g h b rows ns ts p %[t.z,(t.run ns ts p rows).bx|n1] (m+200):=by
 erw[DA0,G,_,%[rv,hh|R],B,ne]at w;let%[NF,hb|_]:=id B;let kT:cF H H1:=λa xs e=>s1 _ _ (bu e hM nofun) (bu e hb nofun) e
 subst e1;erw[DA0.but2 s1 hM hb ne,G.but2 s1 hM hb,%[dm|hM1],%[rv,kT _ _ hh|R.mono kT],B1,ne]
def sZ(F:#["asked_once",jG])(B:Bl mg)(T:DTxt K mg C)(TM:MTxt K mg CM)(Y:Ways P w K mg base C CM CG fW fU fH fT fS fdW fdU fdH fdT fdS):#[26,f,fd,Wh,spAsked C CM CG]:=by
 exists m9
 erw[D,M,g,h,b,rows,ns,ts,p,t,m,1,W,k,rg,ok,bo,aw,a0,a5,ho,mm,q]at h;let NO:Room 1 _:=hr.mono ⋯;let hr18:Room 18 _:=hr.mono ⋯;let hr25:Room 25 _:=hr.mono ⋯;refine⟨_,(ad #[aj,2,m9,bZ (pv 0) TM.cl Y.mS Y.GS hr25 Y.bS .nil bh %[aN ix_tup (bq (pv 1) T.cl Y.mW Y.GW NO Y.bW .nil bh) ag #[1],bq (pv 1) T.cl Y.mU Y.GU NO Y.bU .nil bh,aB (pv 1) rfl,bc jR rfl B.list jS %[aB (pv 1) rfl|ae]|ae]]
  (ad (bb (bZ (pv 1) T.cl Y.mH Y.GH hr18 Y.bH .nil bh %[2|ae]))
  (af (ax (bc bi rfl B.tuple bt %[2|ae]))))),?_⟩
 erw[dm,hM]at W.hM;let DA:=W.DA;let%[dx,aA,aC,aH,aT|R]:=id DA;erw[0,M,dm,0,hM,ml_n2,0,D,dx,0,R.hD,pW,D,g,t.z,1,DA,λv hv=>?_];erw[av,1,hav]at hv;rw[aw]at hav;erw[av,_,(1),.int (awN t.z),1,1,zC0 hav,1,0,D,dx,0,R.hD,dl_n2,D,g,t.z,1,DA,λv hv=>?_];subst hv;erw[0,D,C,dx,_,0,R.hD,9,T.nS,JL,0,D,C,dx,_,0,R.hD,9,T.nT,zu,aT,0,.inr (zC0 R.hT),λl hl=>?_];let I:=zE0 hl (.lst (t.z.to.map V.int));let g1:upd H l (.lst (t.z.to.map V.int)) l=some (.lst (t.z.to.map V.int)):=ai;generalize upd H l (.lst (t.z.to.map V.int))=H1 at I g1;let W1:=W.same I;erw[rv,hh,RW]at W1.hh;erw[M,g,h,b,dm,l,rv,t.ak ns ts p,rows,t.bx,m,1,I _ _ hM,hh,RW,rg,W1.BX,bo,mm,W1.G,ok,.inl g1,a0,a5,λl2 H2 l20 hl2 B2 hM2 S2=>?_];let hs:H2 l2=some (.lst ((t.said ns ts p rows).map V.int)):=hl2;let W2:=W1.asked (n1:=t.nr+1) (I _ _ hM) B2 hM2 S2 rfl;let%[NM,_,_,_,_|R2]:=id W2.DA;erw[0,D,NM,0,R2.hD,dl_n4,0,D,g,l2,t.z,t.said ns ts p rows,ns,ts,p,1,W2.DA,W2.G,k,hs,ho.aw,ho.xo,ho.x5,ho.ro,ho.tl,ho.po,λH3 S3 DA3=>?_];let W3:=W2.doub S3 DA3;let hs3:=S3 _ _ (bu hs R2.hD nofun) hs;erw[0,l2,0,.inl %[zG0 hs3|λa ha=>?_]];let J:=zE0 ha (.tup ((t.said ns ts p rows).map V.int));let fr:But3 D M b H H3:=λc o h1 h2 h3 e=>S3 _ _ h1 (S2 _ _ h2 h3 (I _ _ e))
 apply q a _ ?_ ai (W3.same J) (λc o h1 h2 h3 e=>J _ _ (fr c o h1 h2 h3 e));cases e:H a with
 |none=>rfl
 |some o=>
   erw[dx3,_,_,_,_,R3]at W3.DA;erw[dm3,hM3]at W3.hM;erw[NF,hb3,_]at W3.BX;let n1:a≠D:=λz=>by rw[z,R3.hD]at ha;cases ha
   let n2:a≠M:=λz=>by rw[z,hM3]at ha;cases ha
   let n3:a≠b:=λz=>by rw[z,hb3]at ha;cases ha
   rw[fr a o n1 n2 n3 e]at ha;cases ha
end
section
variable {C CM CA CG:Addr}
inductive TRAt(H:Hp):V->TR->Prop
 |claims {a b:Addr} {xs:List Int}:H a=some (.tup [.str "claims",.ref b])->H b=some (.tup (xs.map V.int))->TRAt H (.ref a) (.claims xs)
 |say {a b:Addr} {xs:List Int}:H a=some (.tup [.str "say",.ref b])->H b=some (.tup (xs.map V.int))->TRAt H (.ref a) (.say xs)
 |coin {a:Addr} {r:Int}:H a=some (.tup [.str "coin",.int r])->TRAt H (.ref a) (.coin r)
def TRAt.mono(k:cF H H')(h:TRAt H v r):TRAt H' v r:=by
 cases h with
 |claims e f=>exact .claims (k _ _ e) (k _ _ f)
 |say e f=>exact .say (k _ _ e) (k _ _ f)
 |coin e=>exact .coin (k _ _ e)
def TRsAt(H:Hp):List V->List TR->Prop
 | [],[]=>True
 |v::vs,r::rs=>TRAt H v r/\TRsAt H vs rs
 |_,_=>False
def TRsAt.mono(k:cF H H'):∀{vs:List V}{rs:List TR},TRsAt H vs rs->TRsAt H' vs rs
 | [],[],_=>trivial
 |_::_,_::_,h=>%[h.1.mono k|TRsAt.mono k h.2]
 | [],_::_,h=>h.elim
 |_::_,[],h=>h.elim
def TRsAt.snoc(hr:TRAt H v r):∀{vs:List V}{rs:List TR},TRsAt H vs rs->TRsAt H (vs++[v]) (rs++[r])
 | [],[],_=>%[hr|trivial]
 |_::_,_::_,h=>%[h.1|TRsAt.snoc hr h.2]
 | [],_::_,h=>h.elim
 |_::_,[],h=>h.elim
structure Told(H:Hp)(a:Addr)(x:List TR×Tk):Prop where
 ex:∃(b c:Addr)(vs:List V),H a=some (.tup [.ref b,.ref c])/\H b=some (.tup vs)/\TRsAt H vs x.1/\H c=some (.tup (awV x.2.z.aw))
def hc_in(o:Str):inV (.str o) [.str "hear",.str "coin"]=(decide (o="hear")||decide (o="coin")):=by
 show (("hear"==o)||(("coin"==o)||false))=_;rw[vE1];let e:∀z:Str,(z==o)=decide (o=z):=λz=>by
  by_cases c:o=z
  . subst c;simp
  . rw[zB1 c];simpa using λh=>c h.symm
 rw[e,e]
instance spTalked(C CM CG:Addr):∀(g h c:Addr)(rv:List V)(rows:List Hr)(ns:List Str)(ts:List Tr)(p:Int)(cs:List Int),vs=[.ref g,.ref h,.ref c]->Gm CG H g ns ts p->GmK ns ts p->ns.length<=6->H h=some (.tup rv)->RowsAt H rv rows->(∀r∈rows,r.good)->IntsAt H c cs->bL cs p->ns.length+(if 1<ts.length then 1 else 0)<=cs.length->cs.length<=100->(∀(a:Addr)(H':Hp),Same H H'->Told H' a (jT ns ts p rows cs)->Q (.ref a) H'):=1
def gh:FnScope ["game","helper","coins","machine","doubter","talk","tossed"] Ww (ao qP):=%[|5]
def Cl(a:Str×Option Int):atI (awV a) 0=some (.str a.1):=bK (j:=0) (Iy a)
def eZ{n:Nat}{t:Tk}(h:t.z.aw.1="hear"):cw ns ts p rows cs (n+1) t=(.say (t.said ns ts p rows)::(cw ns ts p rows cs n (t.ask ns ts p rows)).1,(cw ns ts p rows cs n (t.ask ns ts p rows)).2):=NE h
def dJ{n:Nat}{t:Tk}(h:t.z.aw.1="coin"):cw ns ts p rows cs (n+1) t=(.coin (cs.headD 0)::(cw ns ts p rows cs.tail n (t.toss ns ts p (cs.headD 0))).1,(cw ns ts p rows cs.tail n (t.toss ns ts p (cs.headD 0))).2):=by
 show(if _ then _ else if _ then _ else _)=_;rw[ND (by rw[h];exact iU),NE h]
def fb(h:TkOk ns ts p t)(hw:t.z.aw.1="hear"∨t.z.aw.1="coin"):1<=bO ns t.z/\(t.z.aw.1="coin" -> 1<=bV ns t.z):=by
 rcases hw with hw | hw
 . let tl:t.z.to.length<ns.length:=by
    rcases h.gd.he hw with⟨e,_⟩ | ⟨_,tl,_⟩
    . exact absurd e h.cl
    . exact tl
   erw[6,λz=>absurd (z.symm.trans hw) iU]
   have:bO ns t.z=2*(ns.length-t.z.to.length):=NE hw
   omega
 . let nh:¬ t.z.aw.1="hear":=by rw[hw];exact iU
   let s1:bO ns t.z=if t.z.he=[]then 2*ns.length+1 else 2*(ns.length-t.z.to.length)-1:=by unfold bO;rw[ND nh,NE hw]
   let s2:bV ns t.z=if t.z.he=[]then ns.length+1 else ns.length-t.z.to.length:=by unfold bV;rw[ND nh,NE hw]
   by_cases c:t.z.he=[]
   . rw[NE c]at s1 s2;erw[3,λ_=>#[0]]
   . let tl:=((h.gd.co hw).2 c).2;rw[ND c]at s1 s2;erw[3,λ_=>#[0]]
def Cc{cs:List Int}{u:Nat}(h:u<cs.length):(cs.drop u).headD 0=cs.getD u 0/\(cs.drop u).tail=cs.drop (u+1):=by
 rw[qQ1 h,qG0,zM0 h];erw[1,1]
def Ah{K:W.Frag}{u:Nat}{Q:VK}(h:IntsAt H c cs)(hu:u<cs.length)(q:Q (.int (cs.getD u 0)) H):rIx K (.ref c) (.int (u:Int)) H Q:=
 h.elim (λe=>.inl %[c,_,2,zG0 e,oa hu|q]) (λe=>.inr (.inl %[c,_,2,zC0 e,oa hu|q]))
def TalkAt.put{L:Addr}{ys zs:List V}(w:TalkAt C CM CG H D M g h b rows ns ts p t m)(hL:H L=some (.lst ys))(G:Gm CG (upd H L (.lst zs)) g ns ts p):TalkAt C CM CG (upd H L (.lst zs)) D M g h b rows ns ts p t m:=by
 erw[%[dx,aA,aC,aH,aT|R],_,%[dm|hM],%[rv,hh|RR],B,ne]at w;let kT:cF H (upd H L (.lst zs)):=dP hL;let U:∀{c:Addr}{o:HO},c≠L->H c=some o->upd H L (.lst zs) c=some o:=λn e=>by rw[ay n];exact e
 let%[NF,hb|_]:=id B;erw[%[dx,aA,aC,aH,aT,U (bu R.hD hL nofun) R.hD,kT _ _ R.hA,kT _ _ R.hC,kT _ _ R.hH|kT _ _ R.hT],G,%[dm|U (bu hM hL nofun) hM],%[rv,kT _ _ hh|RR.mono kT],B.keep λo e=>U (bu hb hL nofun) e,ne]
def TRsAt.len:∀{vs:List V}{rs:List TR},TRsAt H vs rs->vs.length=rs.length
 | [],[],_=>rfl
 |_::_,_::_,h=>congrArg (·+1) (TRsAt.len h.2)
 | [],_::_,h=>h.elim
 |_::_,[],h=>h.elim
def Bn(F:#["talked",qP])(B:Bl mg)(T:DTxt K mg C)(TM:MTxt K mg CM)(Y:Ways P w K mg base C CM CG fW fU fH fT fS fdW fdU fdH fdT fdS)
 (MD:Mk K C fI)(GD:#[1,fI,fdI,WI,spDInit C CG])(bD:Binds K fdI WI [])(MM:Mk K CM fM)(GM:#[1,fM,fdM,WJ,spMInit CM])(bM:Binds K fdM WJ [])
 (b7:#[26,"asked_once",Wh,spAsked C CM CG]):#[27,f,fd,Ww,spTalked C CM CG]:=by
 exists gh
 erw[g,h,c,rv,rows,ns,ts,p,cs,1,G,k,n6,hh,RW,rg,hc,co,cl,c100,q]at h;let NO:Room 1 _:=hr.mono ⋯;let hr2:Room (1+1) _:=hr.mono ⋯;let hr17:Room 17 _:=hr.mono ⋯;refine⟨_,(ad #[aj,3,gh,ia MM GM hr2 rfl TM.mgC bM .nil bh %[0,1|ae]]
  (ad #[aj,4,gh,ia MD GD hr2 rfl T.mgC bD .nil bh %[0|ae]]
  (ad #[aj,5,gh,cq %[aU %[aI,aD b7 hr ⋯ rfl %[3,4|ae]|ae]|ae]]
  (ad #[aj,6,gh,ag]
  (ad (iw zE1 (am fe (aN ix_tup (bq (pv 4) T.cl Y.mW Y.GW NO Y.bW .nil bh) ag #[1]) (aU %[aI,aI|ae]) (by rfl')) (af (aM (am aS (aN ix_tup (bq (pv 4) T.cl Y.mW Y.GW NO Y.bW .nil bh) ag #[1]) aI (az _)) (af (bb (eR zF1 zM1 zN1 cP (pv 5) %[aU %[aI,aD b7 hr ⋯ rfl %[3,4|ae]|ae]|ae]))) (ad (bb (bZ (pv 4) T.cl Y.mT Y.GT hr17 Y.bT .nil bh %[aN ER (pv 2) (pv 6) #[1]|ae]))
   (ad (bb (eR zF1 zM1 zN1 cP (pv 5) %[aU %[aI,aN ER (pv 2) (pv 6) #[1]|ae]|ae]))
   (af #[aj,6,gh,aq aW (pv 6) ag]))))))
  (af (ax (aU %[bc bi rfl B.tuple bt %[5|ae],bq (pv 4) T.cl Y.mW Y.GW NO Y.bW .nil bh|ae])))))))),?_⟩
 erw[0,0,λM dm hM0 hdm0 nM=>?_];let K1:Same H (upd (upd H dm (.own M)) M (.ins CM dm [])):=λa o e=>by
  rw[ay (aP e hM0),ay (aP e hdm0)];exact e
 erw[M,g,h,dm,1,ai,λb H2 b0 hM2 hb2 S2=>%[1|6]];let T2:Same H H2:=Same.but K1 hM0 S2;let b00:H b=none:=K1.free b0;clear K1 S2 b0;erw[0,λD dd hD0 hdd0 nD=>?_];let K3:Same H2 (upd (upd H2 dd (.own D)) D (.ins C dd [])):=λa o e=>by
  rw[ay (aP e hD0),ay (aP e hdd0)];exact e
 let G2:=G.same T2;let gD:g≠D:=by
  erw[_,_,_,_,%[dg|hg],_]at G2;exact aP hg hD0
 erw[D,g,dd,ns,ts,p,1,ai,G2.same K3,gD,λH4 S4 DA4=>%[1|6]];let T24:Same H2 H4:=Same.but K3 hD0 S4;let T4:Same H H4:=T2.trans T24;let D00:H D=none:=T2.free hD0;let nDM:D≠M:=(aP hM2 hD0).symm;let W4:TalkAt C CM CG H4 D M g h b rows ns ts p (Tk.new ts) 0:=⟨DA4,G.same T4,⟨dm,T24 _ _ hM2⟩,⟨rv,T4 _ _ hh,RW.mono (aV T4)⟩,⟨[],T24 _ _ hb2,zH0 _,λ_=>rfl⟩,nDM⟩
 clear K3 S4 DA4 T24 hM2 hb2 G2 T2;let%[ak0,an0,ho0|bo0]:=yN (rows:=rows) k n6;let t1:=k.t1;let t10:=k.t10;erw[0,0,D,M,g,h,b,rows,ns,ts,p,Tk.new ts,(0),1,W4,k,rg,ak0,bo0,1,by rw[an0];omega,by rw[an0];omega,ho0,4,λa5 H5 a50 ha5 W5 S5=>?_];let T5:Same H H5:=λa o e=>S5 _ _ (aP e D00) (aP e hM0) (aP e b00) (T4 _ _ e)
 erw[y2S,λt6 h6=>%[y1S|λL hL=>?_]];let I6:=zE0 h6 (.tup [.str "claims",.ref a5]);let I7:=zE0 hL (.lst [.ref t6]);let R7:TRsAt (upd (upd H5 t6 (.tup [.str "claims",.ref a5])) L (.lst [.ref t6])) [.ref t6] [.claims ‹Tk.s›]:=%[.claims (I7 _ _ ai) (I7 _ _ (I6 _ _ ha5))|trivial]
 let g7:upd (upd H5 t6 (.tup [.str "claims",.ref a5])) L (.lst [.ref t6]) L=some (.lst [.ref t6]):=ai;let J7:=I6.trans I7;let L00:H L=none:=(T5.trans I6).free hL;generalize upd (upd H5 t6 (.tup [.str "claims",.ref a5])) L (.lst [.ref t6])=H7 at R7 g7 J7;let%[ok7,st7,co7|_]:=li (rows:=rows) k n6;let W7:=W5.same J7;let T7:=T5.trans J7;clear I6 I7 J7 S5 T5 W5 W4 T4 ha5 h6 hL;erw[λmm σ H'=>∃(t:Tk) (n u m:Nat) (rs:List TR) (vs:List V),σ=[some (.ref g),some (.ref h),some (.ref c),some (.ref M),some (.ref D),some (.ref L),some (.int (u:Int))]/\mm=n/\bO ns t.z<=n/\n<=20/\TalkAt C CM CG H' D M g h b rows ns ts p t m/\TkOk ns ts p t/\H' L=some (.lst vs)/\TRsAt H' vs rs/\(rs++(cw ns ts p rows (cs.drop u) n t).1,(cw ns ts p rows (cs.drop u) n t).2)=jT ns ts p rows cs/\bV ns t.z+u<=cs.length/\m+200*n<=4200/\rs.length+n<=21/\Same H H',%[(20),‹Tk.a›,(20),(0),(200),2,3,zH0 _,W7,ok7,g7,R7,1,3,4,(by show 1+20<=21;decide)|T7],6]
 clear st7 co7 ok7 W7 T7 R7 g7 ak0 an0 ho0 bo0;rintro mm σ H' ⟨t,n,u,m,rs,vs,rfl,rfl,sn,n20,W,ok,hL,TR,eq,cn,mn,rn,S⟩;let DA:=W.DA;let%[dx,aA,aC,aH,aT|R]:=id DA;let p2:=k.p2;let vl:=TR.len;erw[0,D,dx,0,R.hD,pW,D,g,t.z,1,DA,λv hv=>?_];erw[av,1,hav]at hv;erw[av,_,(0),0,1,zC0 hav,Cl _,y2S,λc1 hc1=>?_];let I1:=zE0 hc1 (.tup [.str "hear",.str "coin"]);erw[c1,0,.inr (zC0 ai),1,1,0,6];generalize upd H' c1 (.tup [.str "hear",.str "coin"])=H1 at I1;let W1:=W.same I1;let DA1:=W1.DA;let hL1:=I1 _ _ hL;let TR1:=TR.mono (aV I1);let S1:=S.trans I1;let%[dx1,aA1,aC1,aH1,aT1|R1]:=id DA1;show if inV (.str t.z.aw.1) [.str "hear",.str "coin"]=true then _ else _
 rw[hc_in];clear W DA R hL TR S hav I1
 by_cases ch:t.z.aw.1="hear"
 . rw [zC1 ch,Bool.true_or];apply eU ?_;erw[_,λ_ _ h=>h,6];erw[0,D,dx1,0,R1.hD,pW,D,g,t.z,1,DA1,λv hv=>?_];erw[av2,1,hav2]at hv;erw[av2,_,(0),0,1,zC0 hav2,Cl _,1,0,bd (congrArg V.str ch) ?_];let sp:=(fb ok (.inl ch)).1;obtain⟨n',rfl⟩:∃n',mm=n'+1:=⟨mm-1,#[0]⟩
   let%[ak,a0,a5,tl,aw|ea]:=ok.ak k n6 ch;let ho:=ok.hear (rows:=rows) k n6 ch;let%[ok',st',co'|_]:=ok.ask (rows:=rows) k n6 ch;erw[0,.inl %[1,_|zG0 hL1],0,0,D,M,g,h,b,rows,ns,ts,p,t,m,1,W1,k,rg,ak,ok.bo,aw,a0,a5,ho,3,λa6 H6 a60 ha6 W6 S6=>?_];erw[dmw,hMw]at W1.hM;erw[kvw,hbw,_]at W1.BX;let kT6:cF H1 H6:=λa xs e=>S6 _ _ (bu e R1.hD nofun) (bu e hMw nofun) (bu e hbw nofun) e
   let hL6:=S6 _ _ (bu hL1 R1.hD nofun) (bu hL1 hMw nofun) (bu hL1 hbw nofun) hL1;let S06:Same H H6:=λa o e=>S6 _ _ (aP e D00) (aP e hM0) (aP e b00) (S1 _ _ e)
   erw[y2S,λt7 h7=>?_];let I7:=zE0 h7 (.tup [.str "say",.ref a6]);let R7:TRAt (upd H6 t7 (.tup [.str "say",.ref a6])) (.ref t7) (.say (t.said ns ts p rows)):=.say ai (I7 _ _ ha6);generalize upd H6 t7 (.tup [.str "say",.ref a6])=H7 at I7 R7;let hL7:=I7 _ _ hL6;erw[L,2,hL7,aO #[0],6];let k8:cF H7 (upd H7 L (.lst (vs++[.ref t7]))):=dP hL7;let S8:Same H (upd H7 L (.lst (vs++[.ref t7]))):=λa o e=>by
    rw[ay (aP e L00)];exact I7 _ _ (S06 _ _ e)
   erw[n',qM1 _,t.ask ns ts p rows,n',u,m+200,rs++[.say (t.said ns ts p rows)],0,1,3,3,(W6.same I7).put hL7 (G.same S8),ok',ai,((TR1.mono (λa xs e=>k8 _ _ (I7 _ _ (kT6 _ _ e)))).snoc (R7.mono k8)),6,3,3,by rw[zJ0];show rs.length+1+n'<=21;omega,S8];rw[←eq,eZ ch,jD1];rfl
 . rw [zB1 ch,Bool.false_or]
   by_cases cc:t.z.aw.1="coin"
   . rw [zC1 cc];apply eU ?_;erw[_,λ_ _ h=>h,6];erw[0,D,dx1,0,R1.hD,pW,D,g,t.z,1,DA1,λv hv=>?_];erw[av2,1,hav2]at hv;erw[av2,_,(0),0,1,zC0 hav2,Cl _,1,0,aF (neS ch) ?_];let%[sp|cp]:=fb ok (.inr cc);let cp:=cp cc;obtain⟨n',rfl⟩:∃n',mm=n'+1:=⟨mm-1,#[0]⟩
     let hu:u<cs.length:=#[0]
     let%[dh|dt]:=Cc hu;let rr:=iY co #[0] u;let%[ok',st',co'|_]:=ok.toss k cc rr.1 rr.2;let to:=ok.tossOk cc rr.1 rr.2;erw[0,D,dx1,0,R1.hD,Iw,0,0,Ah (hc.same S1) hu ?_];erw[D,g,t.z,cs.getD u 0,ns,ts,p,1,DA1,W1.G,k,to.aw,to.r0,to.r1,to.tl,to.ro,to.po,λH6 S6 DA6=>?_];let W6:=W1.doub S6 DA6;let kT6:cF H1 H6:=λa xs e=>S6 _ _ (bu e R1.hD nofun) e
     let hL6:=S6 _ _ (bu hL1 R1.hD nofun) hL1;let S06:Same H H6:=λa o e=>S6 _ _ (aP e D00) (S1 _ _ e)
     erw[0,.inl %[1,_|zG0 hL6],0,0,Ah (hc.same S06) hu ?_];erw[y2S,λt7 h7=>?_];let I7:=zE0 h7 (.tup [.str "coin",.int (cs.getD u 0)]);let R7:TRAt (upd H6 t7 (.tup [.str "coin",.int (cs.getD u 0)])) (.ref t7) (.coin (cs.getD u 0)):=.coin ai;generalize upd H6 t7 (.tup [.str "coin",.int (cs.getD u 0)])=H7 at I7 R7;let hL7:=I7 _ _ hL6;erw[L,2,hL7,aO #[0],6];let k8:cF H7 (upd H7 L (.lst (vs++[.ref t7]))):=dP hL7;let S8:Same H (upd H7 L (.lst (vs++[.ref t7]))):=λa o e=>by
      rw[ay (aP e L00)];exact I7 _ _ (S06 _ _ e)
     erw[0,2,6];erw[n',qM1 _,t.toss ns ts p (cs.getD u 0),n',u+1,m,rs++[.coin (cs.getD u 0)],0,1,3,3,(W6.same I7).put hL7 (G.same S8),ok',ai,((TR1.mono (λa xs e=>k8 _ _ (I7 _ _ (kT6 _ _ e)))).snoc (R7.mono k8)),6,3,3,by rw[zJ0];show rs.length+1+n'<=21;omega,S8];rw[←eq,dJ cc,dh,dt,jD1];rfl
   . rw [zB1 cc];apply dG ?_;rw[dA ch cc,qR1]at eq;erw[0,L,0,.inl %[zG0 hL1|λb8 hb8=>?_]];let I8:=zE0 hb8 (.tup vs);let g8:upd H1 b8 (.tup vs) b8=some (.tup vs):=ai;generalize upd H1 b8 (.tup vs)=H8 at I8 g8;let DA8:=DA1.same I8;let%[dx8,_,_,_,_|R8]:=id DA8;erw[0,D,dx8,0,R8.hD,pW,D,g,t.z,1,DA8,λv hv=>?_];erw[av2,1,hav2]at hv;erw[y2S,λa9 ha9=>?_];let I9:=zE0 ha9 (.tup [.ref b8,.ref av2]);apply q a9 _ (S1.trans (I8.trans I9)) %[b8,av2,vs,ai,I9 _ _ g8,6|6]
     . rw[←eq];exact TR1.mono (aV (I8.trans I9))
     . rw[←eq];exact I9 _ _ hav2
end
section
variable {C CG:Addr}
abbrev uY:Stmt:=bp dC 11
instance spTwin(C CG:Addr):∀(D g:Addr)(z:Db)(ns:List Str)(ts:List Tr)(p:Int),vs=[.ref D]->DbAt C H D g z->Gm CG H g ns ts p->(∀(D2:Addr)(H':Hp),H D2=none->Same H H'->DbAt C H' D2 g z->Q (.ref D2) H'):=1
def Kh:FnScope ["self","other"] WA (ao uY):=%[|5]
def DZ(F:#["twin","Doubter.twin",uY])(T:DTxt K mg C)(MD:Mk K C fD)(GD:#[1,fD,fdD,WI,spDInit C CG])(bD:Binds K fdD WI []):#[3,f,fd,WA,spTwin C CG]:=by
 exists Kh
 erw[D,g,z,ns,ts,p,1,%[dx,aA,aC,aH,aT|R],G,q]at h;let hr2:Room (1+1) _:=hr.mono ⋯;refine⟨_,(ad #[aj,1,Kh,ia MD GD hr2 rfl T.mgC bD .nil bh %[aB (pv 0) rfl|ae]]
  (ad (aR (pv 1) (aB (pv 0) rfl) rfl)
  (ad (aR (pv 1) (aB (pv 0) rfl) rfl)
  (ad (aR (pv 1) (aB (pv 0) rfl) rfl)
  (ad (aR (pv 1) (aB (pv 0) rfl) rfl)
  (ad (aR (pv 1) (aB (pv 0) rfl) rfl)
  (ad (aR (pv 1) (aB (pv 0) rfl) rfl)
  (ad (aR (pv 1) (aB (pv 0) rfl) rfl)
  (af (ax (pv 1))))))))))),?_⟩
 erw[0,D,C,dx,_,0,R.hD,9,T.nG,je,λD2 dD nD ndD neD=>?_];let s10:Same H (upd (upd H dD (.own D2)) D2 (.ins C dD [])):=λb o e=>by
  rw[ay (aP e nD),ay (aP e ndD)];exact e
 let gD:g≠D2:=by
  let%[a,b,d,tv,%[dg|hg]|_]:=id G;exact aP hg nD
 erw[D2,g,dD,ns,ts,p,1,ai,G.same s10,gD,λH0 S0 D0=>%[1|6]];let S00:Same H H0:=λb o e=>S0 b o (aP e nD) (s10 b o e)
 let nDD:D≠D2:=aP R.hD nD;erw[NM,aA2,aC2,aH2,aT2,R2]at D0;let h0:=R2.hD;generalize (Db.new ts).s=s2,(Db.new ts).ed=ed2,(Db.new ts).pl=pl2 at h0;let hD0:=S00 _ _ R.hD;erw[0,D,C,dx,_,0,hD0,9,T.nA,Fl,0,D2,C,NM,0,h0,9,T.nA,cS,6];rw[rh];let U0:SameBut D2 H0 (upd H0 D2 (.ins C NM (dl g aA aC2 s2 aH2 aT2 ed2 pl2))):=SameBut.upd _;let h1:upd H0 D2 (.ins C NM (dl g aA aC2 s2 aH2 aT2 ed2 pl2)) D2=some (.ins C NM (dl g aA aC2 s2 aH2 aT2 ed2 pl2)):=ai;let hD1:=U0 _ _ nDD hD0;generalize upd H0 D2 (.ins C NM (dl g aA aC2 s2 aH2 aT2 ed2 pl2))=H1 at U0 h1 hD1;erw[0,D,C,dx,_,0,hD1,9,T.nC,JP,0,D2,C,NM,0,h1,9,T.nC,cS,6];rw[Ig];let U1:SameBut D2 H1 (upd H1 D2 (.ins C NM (dl g aA aC s2 aH2 aT2 ed2 pl2))):=SameBut.upd _;let h2:upd H1 D2 (.ins C NM (dl g aA aC s2 aH2 aT2 ed2 pl2)) D2=some (.ins C NM (dl g aA aC s2 aH2 aT2 ed2 pl2)):=ai;let hD2:=U1 _ _ nDD hD1;generalize upd H1 D2 (.ins C NM (dl g aA aC s2 aH2 aT2 ed2 pl2))=H2 at U1 h2 hD2;erw[0,D,C,dx,_,0,hD2,9,T.nS,JL,0,D2,C,NM,0,h2,9,T.nS,cS,6];rw[Id];let U2:SameBut D2 H2 (upd H2 D2 (.ins C NM (dl g aA aC z.s aH2 aT2 ed2 pl2))):=SameBut.upd _;let h3:upd H2 D2 (.ins C NM (dl g aA aC z.s aH2 aT2 ed2 pl2)) D2=some (.ins C NM (dl g aA aC z.s aH2 aT2 ed2 pl2)):=ai;let hD3:=U2 _ _ nDD hD2;generalize upd H2 D2 (.ins C NM (dl g aA aC z.s aH2 aT2 ed2 pl2))=H3 at U2 h3 hD3;erw[0,D,C,dx,_,0,hD3,9,T.nH,JO,0,D2,C,NM,0,h3,9,T.nH,cS,6];rw[Ie];let U3:SameBut D2 H3 (upd H3 D2 (.ins C NM (dl g aA aC z.s aH aT2 ed2 pl2))):=SameBut.upd _;let h4:upd H3 D2 (.ins C NM (dl g aA aC z.s aH aT2 ed2 pl2)) D2=some (.ins C NM (dl g aA aC z.s aH aT2 ed2 pl2)):=ai;let hD4:=U3 _ _ nDD hD3;generalize upd H3 D2 (.ins C NM (dl g aA aC z.s aH aT2 ed2 pl2))=H4 at U3 h4 hD4;erw[0,D,C,dx,_,0,hD4,9,T.nT,zu,0,D2,C,NM,0,h4,9,T.nT,cS,6];rw[Dy];let U4:SameBut D2 H4 (upd H4 D2 (.ins C NM (dl g aA aC z.s aH aT ed2 pl2))):=SameBut.upd _;let h5:upd H4 D2 (.ins C NM (dl g aA aC z.s aH aT ed2 pl2)) D2=some (.ins C NM (dl g aA aC z.s aH aT ed2 pl2)):=ai;let hD5:=U4 _ _ nDD hD4;generalize upd H4 D2 (.ins C NM (dl g aA aC z.s aH aT ed2 pl2))=H5 at U4 h5 hD5;erw[0,D,C,dx,_,0,hD5,9,T.nE,Ar,0,D2,C,NM,0,h5,9,T.nE,cS,6];rw[yu];let U5:SameBut D2 H5 (upd H5 D2 (.ins C NM (dl g aA aC z.s aH aT z.ed pl2))):=SameBut.upd _;let h6:upd H5 D2 (.ins C NM (dl g aA aC z.s aH aT z.ed pl2)) D2=some (.ins C NM (dl g aA aC z.s aH aT z.ed pl2)):=ai;let hD6:=U5 _ _ nDD hD5;generalize upd H5 D2 (.ins C NM (dl g aA aC z.s aH aT z.ed pl2))=H6 at U5 h6 hD6;erw[0,D,C,dx,_,0,hD6,9,T.nP,Aq,0,D2,C,NM,0,h6,9,T.nP,cS,6];rw[vj];let U6:SameBut D2 H6 (upd H6 D2 (.ins C NM (dl g aA aC z.s aH aT z.ed z.pl))):=SameBut.upd _;let h7:upd H6 D2 (.ins C NM (dl g aA aC z.s aH aT z.ed z.pl)) D2=some (.ins C NM (dl g aA aC z.s aH aT z.ed z.pl)):=ai;let hD7:=U6 _ _ nDD hD6;generalize upd H6 D2 (.ins C NM (dl g aA aC z.s aH aT z.ed z.pl))=H7 at U6 h7 hD7;let U:SameBut D2 H0 H7:=U0.trans (U1.trans (U2.trans (U3.trans (U4.trans (U5.trans U6)))));let S07:Same H H7:=λb o e=>U b o (aP e nD) (S00 b o e)
 erw[0,q D2 H7 nD S07 %[NM,aA,aC,aH,aT,h7,S07 _ _ R.hA,S07 _ _ R.hC,S07 _ _ R.hH|S07 _ _ R.hT]]
end
section
variable {CM CA CG:Addr}
abbrev uT:Stmt:=bp kX 4
def ml_n4:(ml g h r b).lookup ("twin":Str)=none:=by rfl'
def Hk{b':Addr}:bY "boxes" (.ref b') (ml g h r b)=ml g h r b':=by rfl'
instance spMTwin(CM:Addr):∀(M g h b dm:Addr)(r:Int)(bx:Str->Int)(m:Nat),vs=[.ref M]->H M=some (.ins CM dm (ml g h r b))->BxAt H b bx m->(∀(M' dm' b':Addr)(H':Hp),H M'=none->H b'=none->H' M'=some (.ins CM dm' (ml g h r b'))->BxAt H' b' bx m->Same H H'->Q (.ref M') H'):=1
def Ki:FnScope ["self","other"] WA (ao uT):=%[|5]
def DV(F:#["twin","Machine.twin",uT])(B:Bl mg)(T:MTxt K mg CM)(MM:Mk K CM fI)(GI:#[1,fI,fdI,WJ,spMInit CM])(bI:Binds K fdI WJ []):#[3,f,fd,WA,spMTwin CM]:=by
 exists Ki
 erw[M,g,h,b,dm,r,bx,m,1,hM,BX,q]at h;let hr2:Room (1+1) _:=hr.mono ⋯;refine⟨_,(ad #[aj,1,Ki,ia MM GI hr2 rfl T.mgC bI .nil bh %[aB (pv 0) rfl,aB (pv 0) rfl|ae]]
  (ad (aR (pv 1) (aB (pv 0) rfl) rfl)
  (ad (aR (pv 1) (bc zy rfl B.dict zz %[aB (pv 0) rfl|ae]) rfl)
  (af (ax (pv 1)))))),?_⟩
 erw[0,M,CM,dm,_,0,hM,9,T.nG,ml_g,0,M,CM,dm,_,0,hM,9,T.nH,Hl,λN dn hN hdn nN=>?_];let S1:Same H (upd (upd H dn (.own N)) N (.ins CM dn [])):=λa o e=>by
  rw[ay (aP e hN),ay (aP e hdn)];exact e
 let g1:upd (upd H dn (.own N)) N (.ins CM dn []) N=some (.ins CM dn []):=ai;generalize upd (upd H dn (.own N)) N (.ins CM dn [])=H1 at S1 g1;erw[N,g,h,dn,1,g1,λb1 H2 hb1 hN2 _ S2=>%[1|6]];let S02:Same H H2:=Same.but S1 hN S2;let hM2:=S02 _ _ hM;let nMN:M≠N:=aP hM hN;erw[0,M,CM,dm,_,0,hM2,9,T.nR,Jo,0,N,CM,dn,0,hN2,9,T.nR,yU,6];rw[Ew];let S3:SameBut N H2 (upd H2 N (.ins CM dn (ml g h r b1))):=SameBut.upd _;let hN3:upd H2 N (.ins CM dn (ml g h r b1)) N=some (.ins CM dn (ml g h r b1)):=ai;generalize upd H2 N (.ins CM dn (ml g h r b1))=H3 at S3 hN3;let S03:Same H H3:=Same.but S02 hN S3;erw[NF,eb,lb,hx]at BX;erw[0,M,CM,dm,_,0,S03 _ _ hM,9,T.nB,Ex,b,NF,1,S03 _ _ eb,λc hc=>?_];let cN:c≠N:=(aP hN3 hc).symm;let c0:H c=none:=S03.free hc;erw[0,N,CM,dn,0,by rw[ay cN.symm];exact hN3,T.cl,T.nB,yU,6];rw[Hk];erw[0,q N dn c _ hN c0 ai %[NF,by rw[ay cN];exact ai,lb|hx] λa o e=>?_];rw[ay (aP e hN),ay (aP e c0)];exact S03 _ _ e
end
instance spPow:∀(x k:Int),vs=[.int x,.int k]->0<=k->k<=100->0<x->x<2 ^ 40->Q (.int (x ^ k.toNat)) H:=1
def mL:FnScope ["number","times","told","step"] ["number","times"] (ao uS):=%[|5]
def DU(F:#["power",uS])(B:Bl mg):#[1,f,fd,["number","times"],spPow]:=by
 exists mL
 erw[x,k,1,k0,k1,x0,x1,q]at h;refine⟨_,(ad #[aj,2,mL,ag]
  (ad (cx zE1 rfl (bJ rfl B.range %[1|ae]) (aX (i:=3) mL.nd rfl (.inl rfl)) (af #[aj,2,mL,aq cg (pv 2) (pv 0)]))
  (af (ax (pv 2))))),?_⟩
 erw[0,k,1,3,3,dH (n:=k.toNat) (λi σ H'=>∃x3:Option V,σ=[some (.int x),some (.int k),some (.int (x ^ i)),x3]/\H'=H) %[none,by rw[wY1];rfl|1] ?_ ?_]
 . rintro i σ H1 hi ⟨x3,rfl,rfl⟩;erw[0,0,2,.inr %[3|3],6];erw[some (.int (0+(i:Int))),6,1];rw[qN1];rfl
 . rintro σ H1 ⟨x3,rfl,rfl⟩;erw[0,q]
section
variable {C CM CA CG:Addr}
def JM:(dl g aA aC s aH aT ed pl).lookup ("twin":Str)=none:=by rfl'
def OptAt(H:Hp)(v:V):Option (List Int)->Prop
 |none=>v=.non
 |some cs=>∃b,v=.ref b/\H b=some (.tup (cs.map V.int))
def OptAt.mono{x:Option (List Int)}(h:OptAt H v x)(k:cF H H'):OptAt H' v x:=by
 cases x with
 |none=>exact h
 |some cs=>erw[b,e,hb]at h;erw[b,e,k _ _ hb]
def WtAt(H:Hp)(a:Addr)(x:Int×Option (List Int)):Prop:=∃v,H a=some (.tup [.int x.1,v])/\OptAt H v x.2
def bN(ns:List Str)(ts:List Tr):Nat:=if ts.length=1 then ns.length else ns.length+1
def jg{ns:List Str}(h:ns.length<=6):bN ns ts<=7:=by unfold bN;split <;> omega
instance spFirst(CG:Addr):∀(g c:Addr)(ns:List Str)(ts:List Tr)(p:Int)(cs:List Int),vs=[.ref g,.ref c]->Gm CG H g ns ts p->ns.length<=6->H c=some (.tup (cs.map V.int))->cs.length<=bN ns ts->(∀(a:Addr)(H':Hp),Same H H'->H' a=some (.tup ((cs++List.replicate (bN ns ts-cs.length) 0).map V.int))->Q (.ref a) H'):=1
def uI:FnScope Wi Wi (ao kz):=%[|5]
def vz(F:#["first_row",kz])(B:Bl mg)(TG:GTxt K mg CG)(mC:Meth K CG "coins" fC)(GC:#[1,fC,fdC,WA,spCoins CG])(bC:Binds K fdC WA []):#[2,f,fd,Wi,spFirst CG]:=by
 exists uI
 erw[g,c,ns,ts,p,cs,1,G,n6,hc,cl,q]at h;let NO:Room 1 _:=hr.mono ⋯;erw[_,(af (ax (aq (qo K) (pv 1) (aq (DM K) (aU %[ag|ae]) (aq bj (bq (pv 0) TG.cl mC GC NO bC .nil bh) (aJ aG rfl B.len zD1 %[1|ae])))))),6];erw[0,y1S,λz hz=>?_];let I:=zE0 hz (.tup [.int 0]);let gz:upd H z (.tup [.int 0]) z=some (.tup [.int 0]):=ai;generalize upd H z (.tup [.int 0])=H1 at I gz;let%[a,b,d,tv,%[dx|hg],ha,hb,TS|hd]:=G.same I;let vl:=TS.length;let noc:(gf a b p d).lookup ("coins":Str)=none:=oi _ _ _ _ ⋯ ⋯ ⋯ ⋯;erw[0,g,dx,0,hg,noc,g,a,b,d,ns,tv,p,1,%[dx|hg],ha,hb,6];let hc1:=I _ _ hc;erw[0,c,0,.inr (zC0 hc1),2,6];let ek:(if tv.length=1 then(ns.length:Int)else(ns.length:Int)+1)-((cs.map V.int).length:Int)=((bN ns ts-cs.length:Nat):Int):=by
  rw[zF0,vl];unfold bN at cl ⊢
  split <;> rename_i h <;> (first | rw[NE h]at cl | rw[ND h]at cl) <;> omega
 show rRepT K (.ref z) (.int ((if tv.length=1 then(ns.length:Int)else(ns.length:Int)+1)-((cs.map V.int).length:Int))) H1 _;rw[ek];let c7:=jg (ts:=ts) n6;let fin:∀(y:Addr)(H2:Hp),Same H1 H2->H2 y=some (.tup ((List.replicate (bN ns ts-cs.length) (0:Int)).map V.int))->rCatT K (.ref c) (.ref y) H2 Q∨rCatT0 K (.ref c) (.ref y) H2 Q:=λy H2 S2 hy=>
  qz (S2 _ _ hc1) hy (by rw[zV1];omega) λt H3 S3 h3=>q t H3 (I.trans (S2.trans S3)) h3
 erw[z,.int 0,((bN ns ts-cs.length:Nat):Int),1,1,zC0 gz,3,3,λe=>fin z H1 (Same.refl _) ?_,λ_ y hy=>fin y _ (zE0 hy _) ?_]
 . let e1:bN ns ts-cs.length=1:=#[0]
   rw[e1];exact gz
 . rw[ai,List.map_replicate,qS0]
instance spRowsC(CG:Addr):∀(g:Addr)(ns:List Str)(ts:List Tr)(p:Int),vs=[.ref g]->Gm CG H g ns ts p->ns.length<=6->0<p->p<2 ^ 40->Q (.int (p ^ bN ns ts)) H:=1
def oE:FnScope WE WE (ao gU):=%[|5]
def oV(F:#["rows_of_coins",gU])(T:GTxt K mg CG)(mC:Meth K CG "coins" fC)(GC:#[1,fC,fdC,WA,spCoins CG])(bC:Binds K fdC WA [])(D7:#[1,"power",["number","times"],spPow]):#[2,f,fd,WE,spRowsC CG]:=by
 exists oE
 erw[g,ns,ts,p,1,%[a,b,d,tv,%[dx|hg],ha,hb,TS|hd],nl,p0,p40,q]at h;let NO:Room 1 _:=hr.mono ⋯;erw[_,(af (ax (aD D7 hr ⋯ rfl %[aB (pv 0) rfl,bq (pv 0) T.cl mC GC NO bC .nil bh|ae]))),6];let noc:(gf a b p d).lookup ("coins":Str)=none:=oi _ _ _ _ ⋯ ⋯ ⋯ ⋯;let vl:=TS.length;erw[0,g,CG,dx,_,0,hg,9,T.nF,hU ..,0,g,dx,0,hg,noc,g,a,b,d,ns,tv,p,1,%[dx|hg],ha,hb,p,0,6,6,p0,p40,6]
 . split <;> omega
 . split <;> omega
 . let e:(if tv.length=1 then(ns.length:Int)else(ns.length:Int)+1).toNat=bN ns ts:=by
    rw[vl];unfold bN
    split <;> omega
   rw[e];exact q
structure Twins(P:Program)(w:World)(K:W.Frag)(mg:#[9])(base:Heap)(C CM CG fD fM:Addr)(fdD fdM:FuncData):Prop where
 mD:Meth K C "twin" fD
 GD:#[3,fD,fdD,WA,spTwin C CG]
 bD:Binds K fdD WA []
 mM:Meth K CM "twin" fM
 GM:#[3,fM,fdM,WA,spMTwin CM]
 bM:Binds K fdM WA []
instance spWB(C CM CG:Addr)(d:Nat):∀(D M g h b c:Addr)(rows:List Hr)(ns:List Str)(ts:List Tr)(p:Int)(t:Tk)(m:Nat)(cs:List Int),vs=[.ref M,.ref D,.ref c]->TalkAt C CM CG H D M g h b rows ns ts p t m->GmK ns ts p->ns.length<=6->(∀r∈rows,r.good)->Beg ns ts p t->bV ns (settle ns ts p rows 2 t).z<d->H c=some (.tup (cs.map V.int))->cs.length+bV ns (settle ns ts p rows 2 t).z<=bN ns ts->m+400*d<=5000->(∀(a:Addr)(H':Hp),WtAt H' a (ii ns ts p rows (bN ns ts) d t cs)->But3 D M b H H'->Q (.ref a) H'):=1
def bX:FnScope ["machine","doubter","coins","number","row","coin","behind","told"] WY (ao eG):=%[|5]
def FS:#[27,f,fd,WY,spWB C CM CG 0]:=by
 let no:∀vs H Q E,¬ spWB C CM CG 0 vs H Q E:=λvs H Q E h=>by
  erw[D,M,g,h,b,c,rows,ns,ts,p,t,m,cs,_,_,_,_,_,_,h1,_]at h;exact absurd h1 (Nat.not_lt_zero _)
 exists 3
def TalkAt.twins{M2 dm2:Addr}(w:TalkAt C CM CG H D M g h b rows ns ts p t m)(s:Same H H')(DA:DbAt C H' D2 g z)(hM:H' M2=some (.ins CM dm2 (ml g h t.nr b2)))(B:BxAt H' b2 t.bx m)(ne:D2≠M2):TalkAt C CM CG H' D2 M2 g h b2 rows ns ts p %[z,t.bx|t.nr] m:=by
 let%[_,G,_,%[rv,hh|R],_|_]:=w.same s;erw[DA,G,%[dm2|hM],%[rv,hh|R],B,ne]
def FT{n:Nat}(F:#["weighed_behind",eG])(B:Bl mg)(T:DTxt K mg C)(TM:MTxt K mg CM)(TG:GTxt K mg CG)(Y:Ways P w K mg base C CM CG fW fU fH fT fS fdW fdU fdH fdT fdS)(Z:Twins P w K mg base C CM CG fDt fMt fdDt fdMt)
 (b7:#[26,"asked_once",Wh,spAsked C CM CG])(fq:#[2,"first_row",Wi,spFirst CG])(dL:#[n+27,"weighed_behind",WY,spWB C CM CG n]):#[n+28,f,fd,WY,spWB C CM CG (n+1)]:=by
 exists bX
 erw[D,M,g,h,b,c,rows,ns,ts,p,t,m,cs,1,W,k,n6,rg,bg,cd,hc,cl,mm,q]at h;let NO:Room 1 _:=hr.mono #[0];let hr3:Room 3 _:=hr.mono #[0];let hr17:Room 17 _:=hr.mono #[0];refine⟨_,(ad (iw zE1 (am aS (aN ix_tup (bq (pv 1) T.cl Y.mW Y.GW NO Y.bW .nil bh) ag #[1]) aI (az _)) (af (bb (aD b7 hr #[0] rfl %[0,1|ae]))))
  (ad (aM (am aS (aN ix_tup (bq (pv 1) T.cl Y.mW Y.GW NO Y.bW .nil bh) ag #[1]) aI (az _)) (af (ax (aU %[ag,ma|ae]))) aE)
  (ad (aM (am aS (aN ix_tup (bq (pv 1) T.cl Y.mW Y.GW NO Y.bW .nil bh) ag #[1]) aI (az _)) (af (ax (aU %[ag,aD fq hr #[0] rfl %[aB (pv 1) rfl,2|ae]|ae]))) aE)
  (ad #[aj,3,bX,ag]
  (ad #[aj,4,bX,ma]
  (ad (cx zE1 rfl (bJ rfl B.range %[aB (aB (pv 1) rfl) rfl|ae]) (aX (i:=5) bX.nd rfl (.inl rfl)) (ad #[aj,6,bX,bq (pv 1) T.cl Z.mD Z.GD hr3 Z.bD .nil bh]
   (ad (bb (bZ (pv 6) T.cl Y.mT Y.GT hr17 Y.bT .nil bh %[5|ae]))
   (ad #[aj,7,bX,aD dL hr #[0] rfl %[bq (pv 0) TM.cl Z.mM Z.GM hr3 Z.bM .nil bh,6,aq (qo K) (pv 2) (aU %[5|ae])|ae]]
   (ad #[aj,3,bX,aq aW (pv 3) (aN ix_tup (pv 7) ag #[1])]
   (af (aM (am yC (pv 4) ma (az _)) (af #[aj,4,bX,aN ix_tup (pv 7) ag #[1]]) aE)))))))
  (af (ax (aU %[3,4|ae]))))))))),?_⟩
 let p2:=k.p2;let p9:=k.p9;let%[uok|uno]:=bg.settle (rows:=rows) k n6;let rec1:settle ns ts p rows 2 t=settle ns ts p rows 2 t:=rfl;generalize eu:settle ns ts p rows 2 t=u at uok uno cd cl;clear rec1;let c7:=jg (ts:=ts) n6;erw[λmm σ H'=>∃(t':Tk) (j m':Nat),σ=[some (.ref M),some (.ref D),some (.ref c),none,none,none,none,none]/\mm=j/\j<=2/\Beg ns ts p t'/\(j<=1->TkOk ns ts p t')/\(j=0->¬ t'.z.aw.1="hear")/\settle ns ts p rows j t'=u/\TalkAt C CM CG H' D M g h b rows ns ts p t' m'/\m'+200*j<=m+400/\But3 D M b H H',%[(2),t,(2),m,1,1,zH0 _,bg,λz=>absurd z ⋯,λz=>absurd z ⋯,eu,W,zH0 _|λ_ _ _ _ _ e=>e],6]
 rintro mm1 σ H1 ⟨t',j,m',rfl,rfl,j2,bg',ok',no',es,W1,m1,S1⟩;let DA:=W1.DA;let%[dx,aA,aC,aH,aT|R]:=id DA;erw[0,D,dx,0,R.hD,pW,D,g,t'.z,1,DA,λv hv=>?_];erw[av,1,hav]at hv;erw[av,_,(0),0,1,zC0 hav,Cl _,1,0,6]
 by_cases ch:t'.z.aw.1="hear"
 . apply bd (congrArg V.str ch) %[_,λ_ _ h=>h|6];obtain⟨i,rfl⟩:∃i,mm1=i+1:=⟨mm1-1,by have:mm1≠0:=λz=>no' z ch;omega⟩
   let%[ak,bo,aw,a0,a5|ho]:=bg'.ask (rows:=rows) k n6 ch;erw[0,0,D,M,g,h,b,rows,ns,ts,p,t',m',1,W1,k,rg,ak,bo,aw,a0,a5,ho,3,λa6 H6 _ _ W6 S6=>?_];let ok2:=bg'.asked (rows:=rows) k n6 ch;erw[i,qM1 _,t'.ask ns ts p rows,i,m'+200,1,1,3,.inr ok2,λ_=>ok2,λz=>?_,6,W6,3,λa o h1 h2 h3 e=>S6 _ _ h1 h2 h3 (S1 _ _ h1 h2 h3 e)]
   . subst z;exact((ok' (zH0 _)).ask (rows:=rows) k n6 ch).2.2.2
   . rw[←es];exact(NE ch).symm
 apply aF (neS ch) ?_;rw[cZ ch]at es;subst es;clear bg' ok' no' hav;erw[0,D,dx,0,R.hD,pW,D,g,t'.z,1,DA,λv hv=>?_];erw[av,1,hav]at hv;erw[av,_,(0),0,1,zC0 hav,Cl _,1,0,6]
 by_cases cb:t'.z.aw.1="believed"
 . apply bd (congrArg V.str cb) %[y2S|λa ha=>?_];let I:=zE0 ha (.tup [.int 1,.non]);apply q a _ ?_ (λx o h1 h2 h3 e=>I _ _ (S1 _ _ h1 h2 h3 e));let e:ii ns ts p rows (bN ns ts) (n+1) t cs=(1,none):=by
    show(if(settle ns ts p rows 2 t).z.aw.1="believed" then _ else _)=_;rw[eu,NE cb]
   rw[e];erw[.non,ai,1]
 apply aF (neS cb) ?_;clear hav;erw[0,D,dx,0,R.hD,pW,D,g,t'.z,1,DA,λv hv=>?_];erw[av,1,hav]at hv;erw[av,_,(0),0,1,zC0 hav,Cl _,1,0,6];let hDM:c≠D/\c≠M/\c≠b:=by
  erw[dx0,_,_,_,_,R0]at W.DA;erw[dm0,hM0]at W.hM;erw[kv0,hb0,_]at W.BX;erw[bu hc R0.hD nofun,bu hc hM0 nofun,bu hc hb0 nofun]
 let hc1:=S1 _ _ hDM.1 hDM.2.1 hDM.2.2 hc
 by_cases cc:t'.z.aw.1="caught"
 . apply bd (congrArg V.str cc) %[0,D,C,dx,_,0,R.hD,T.cl,T.nG,je,0,g,c,ns,ts,p,cs,1,W1.G,n6,hc1,3|λa2 H2 S2 h2=>?_];erw[y2S,λa ha=>?_];let I:=zE0 ha (.tup [.int 0,.ref a2]);apply q a _ ?_ (λx o h1 h2 h3 e=>I _ _ (S2 _ _ (S1 _ _ h1 h2 h3 e)));let e:ii ns ts p rows (bN ns ts) (n+1) t cs=(0,some (cs++List.replicate (bN ns ts-cs.length) 0)):=by
    show(if(settle ns ts p rows 2 t).z.aw.1="believed" then _ else if(settle ns ts p rows 2 t).z.aw.1="caught" then _ else _)=_;rw[eu,ND cb,NE cc]
   rw[e];erw[.ref a2,ai,a2,1,I _ _ h2]
 apply aF (neS cc) ?_;let co:=xJ uok uno cb cc;let e:ii ns ts p rows (bN ns ts) (n+1) t cs=iZ (λr=>ii ns ts p rows (bN ns ts) n (t'.toss ns ts p r) (cs++[r])) p.toNat:=by
  show(if(settle ns ts p rows 2 t).z.aw.1="believed" then _ else if(settle ns ts p rows 2 t).z.aw.1="caught" then _ else _)=_;rw[eu,ND cb,ND cc]
 rw[e]at q;clear e hav eu bg W hc;let cp:=(fb uok (.inr co)).2 co;generalize ef:(λr=>ii ns ts p rows (bN ns ts) n (t'.toss ns ts p r) (cs++[r]))=fw at q;erw[ga,gb,gd,tv,%[dg|hg],_]at W1.G;erw[0,D,C,dx,_,0,R.hD,9,T.nG,je,g,CG,dg,_,0,hg,TG.cl,TG.nF,hU ..,p,1,3,3,dH (n:=p.toNat) (λi σ H'=>∃(v:V)(x5 x6 x7:Option V),σ=[some (.ref M),some (.ref D),some (.ref c),some (.int (iZ fw i).1),some v,x5,x6,x7]/\OptAt H' v (iZ fw i).2/\Same H1 H') %[.non,none,none,none,1,1|Same.refl _] ?_ ?_]
 . rintro i σ H2 hi ⟨v,x5,x6,x7,rfl,ov,S2⟩;rw[qX1];let W2:=W1.same S2;let DA2:=W2.DA;let%[NM,_,_,_,_|R2]:=id DA2;erw[0,D,NM,0,R2.hD,JM,D,g,t'.z,ns,ts,p,1,DA2,W2.G,λD3 H3 D30 S3 DA3=>?_];let%[dx3,_,_,_,_|R3]:=id DA3;let to:=uok.tossOk co (r:=(i:Int)) #[0] #[0];erw[0,D3,dx3,0,R3.hD,Iw,0,D3,g,t'.z,(i:Int),ns,ts,p,1,DA3,W2.G.same S3,k,to.aw,to.r0,to.r1,to.tl,to.ro,to.po,λH4 S4 DA4=>?_];let S24:Same H2 H4:=Same.but S3 D30 S4;let W4:=W2.same S24;erw[dm4,hM4]at W4.hM;erw[0,M,dm4,0,hM4,ml_n4,M,g,h,b,dm4,t'.nr,t'.bx,m',1,hM4,W4.BX,λM5 dm5 b5 H5 M50 b50 hM5 BX5 S5=>?_];erw[0,0,0,y1S,λz hz=>?_];let I6:=zE0 hz (.tup [.int (i:Int)]);let g6:upd H5 z (.tup [.int (i:Int)]) z=some (.tup ([(i:Int)].map V.int)):=ai;generalize upd H5 z (.tup [.int (i:Int)])=H6 at I6 g6;let S26:Same H2 H6:=S24.trans (S5.trans I6);apply qz (S26 _ _ (S2 _ _ hc1)) g6 (by rw[qK0];omega) λc7 H7 S7 h7=>?_
   let S47:Same H4 H7:=S5.trans (I6.trans S7);let S57:Same H5 H7:=I6.trans S7;let%[ok3,st3,co3|_]:=uok.toss k co to.r0 to.r1;let%[_,cs3|_]:=kU (rows:=rows) k n6 ok3;let el:(cs++[(i:Int)]).length=cs.length+1:=by rw[zJ0];rfl
   let D3M5:D3≠M5:=by
    erw[_,_,_,_,_,R4]at DA4;exact aP R4.hD M50
   let W7:TalkAt C CM CG H7 D3 M5 g h b5 rows ns ts p (t'.toss ns ts p (i:Int)) m':=W4.twins S47 (DA4.same S47) (S57 _ _ hM5) (BX5.keep λo e=>S57 _ _ e) D3M5;erw[D3,M5,g,h,b5,c7,rows,ns,ts,p,t'.toss ns ts p (i:Int),m',cs++[(i:Int)],1,W7,k,n6,rg,.inr ok3,3,h7,3,3,λa8 H8 w8 S8=>?_];let S28:Same H2 H8:=λa o e=>S8 _ _ (aP e D30) (aP (S24 _ _ e) M50) (aP (S24 _ _ e) b50) (S26.trans S7 _ _ e)
   erw[v8,ha8,o8]at w8;let ef8:ii ns ts p rows (bN ns ts) n (t'.toss ns ts p (i:Int)) (cs++[(i:Int)])=fw (i:Int):=by rw[←ef]
   rw[ef8]at ha8 o8;erw[0,0,a8,_,(0),0,1,zC0 ha8,at0 _ _,2,6];erw[0,1,0,6];cases eo:(iZ fw i).2 with
   |none=>
     rw[eo]at ov;let ov:v=.non:=ov;subst ov;apply bd rfl %[0,a8,_,(1),0,1,zC0 ha8,bK (j:=1) rfl|6];erw[v8,_,_,0,6,S2.trans S28];show OptAt H8 v8 ((iZ fw i).2.or (fw (i:Int)).2);rw[eo];exact o8
   |some rr=>
     rw[eo]at ov;let ov':=ov;erw[bv,1,hbv]at ov';apply aF nofun ?_;erw[.ref bv,_,_,0,6,S2.trans S28];show OptAt H8 (.ref bv) ((iZ fw i).2.or (fw (i:Int)).2);rw[eo];erw[bv,1,S28 _ _ hbv]
 . rintro σ H2 ⟨v,x5,x6,x7,rfl,ov,S2⟩;erw[0,0,y2S,λa ha=>?_];let I:=zE0 ha (.tup [.int (iZ fw p.toNat).1,v]);exact q a _ %[v,ai|ov.mono (aV I)] (λx o h1 h2 h3 e=>I _ _ (S2 _ _ (S1 _ _ h1 h2 h3 e)))
def iI(F:#["weighed_behind",eG])(m:mg "weighed_behind"=some (.ref f))(B:Bl mg)(T:DTxt K mg C)(TM:MTxt K mg CM)(TG:GTxt K mg CG)(Y:Ways P w K mg base C CM CG fW fU fH fT fS fdW fdU fdH fdT fdS)(Z:Twins P w K mg base C CM CG fDt fMt fdDt fdMt)
 (b7:#[26,"asked_once",Wh,spAsked C CM CG])(fq:#[2,"first_row",Wi,spFirst CG]):∀n:Nat,#[n+27,f,fd,WY,spWB C CM CG n]
 |0=>FS
 |n+1=>FT F B T TM TG Y Z b7 fq (Cal.of F (iI F m B T TM TG Y Z b7 fq n) m (λ_ _ _ _ _ _ us hl=>by let%[u0,u1,u2|1]:=EJ hl;rfl))
end
section
variable {C CM CA CG:Addr}
instance spWeighed(C CM CG:Addr):∀(g h:Addr)(rv:List V)(rows:List Hr)(ns:List Str)(ts:List Tr)(p:Int),vs=[.ref g,.ref h]->Gm CG H g ns ts p->GmK ns ts p->ns.length<=6->H h=some (.tup rv)->RowsAt H rv rows->(∀r∈rows,r.good)->p ^ bN ns ts<=4000->(∀(a:Addr)(H':Hp),Same H H'->WtAt H' a (ii ns ts p rows (bN ns ts) 8 (Tk.new ts) [])->Q (.ref a) H'):=1
def A7:FnScope ["game","helper","rows"] ["game","helper"] (ao oG):=%[|5]
def yD(F:#["weighed",oG])(T:DTxt K mg C)(TM:MTxt K mg CM)(hmost:∃t,mg "MOST_ROWS_weighing"=some (.int 4000 t))
 (MD:Mk K C fI)(GD:#[1,fI,fdI,WI,spDInit C CG])(bD:Binds K fdI WI [])(MM:Mk K CM fM)(GM:#[1,fM,fdM,WJ,spMInit CM])(bM:Binds K fdM WJ [])
 (gO:#[2,"rows_of_coins",WE,spRowsC CG])(dL:#[35,"weighed_behind",WY,spWB C CM CG 8]):#[36,f,fd,["game","helper"],spWeighed C CM CG]:=by
 exists A7
 erw[g,h,rv,rows,ns,ts,p,1,G,k,n6,hh,RW,rg,p4,q]at h;erw[te,ge]at hmost;let hr2:Room (1+1) _:=hr.mono ⋯;refine⟨_,(ad #[aj,2,A7,aD gO hr ⋯ rfl %[0|ae]]
  (ad (aM (am iz (pv 2) (dw (v:=.int 4000) rfl ge %[|0]) (az _)) bz aE)
  (af (ax (aD dL hr ⋯ rfl %[ia MM GM hr2 rfl TM.mgC bM .nil bh %[0,1|ae],ia MD GD hr2 rfl T.mgC bD .nil bh %[0|ae],aU ae|ae]))))),?_⟩
 let p2:=k.p2;let p9:=k.p9;erw[0,g,ns,ts,p,1,G,n6,3,3,6];erw[0,2,0,aF #[0] ?_];erw[0,0,λM dm hM0 hdm0 nM=>?_];let K1:Same H (upd (upd H dm (.own M)) M (.ins CM dm [])):=λa o e=>by
  rw[ay (aP e hM0),ay (aP e hdm0)];exact e
 erw[M,g,h,dm,1,ai,λb H2 b0 hM2 hb2 S2=>%[1|6]];let T2:Same H H2:=Same.but K1 hM0 S2;let b00:H b=none:=K1.free b0;clear K1 S2 b0;erw[0,λD dd hD0 hdd0 nD=>?_];let K3:Same H2 (upd (upd H2 dd (.own D)) D (.ins C dd [])):=λa o e=>by
  rw[ay (aP e hD0),ay (aP e hdd0)];exact e
 let G2:=G.same T2;let gD:g≠D:=by
  erw[_,_,_,_,%[dg|hg],_]at G2;exact aP hg hD0
 erw[D,g,dd,ns,ts,p,1,ai,G2.same K3,gD,λH4 S4 DA4=>%[1|6]];let T24:Same H2 H4:=Same.but K3 hD0 S4;let T4:Same H H4:=T2.trans T24;let D00:H D=none:=T2.free hD0;let nDM:D≠M:=(aP hM2 hD0).symm;let W4:TalkAt C CM CG H4 D M g h b rows ns ts p (Tk.new ts) 0:=⟨DA4,G.same T4,⟨dm,T24 _ _ hM2⟩,⟨rv,T4 _ _ hh,RW.mono (aV T4)⟩,⟨[],T24 _ _ hb2,zH0 _,λ_=>rfl⟩,nDM⟩
 erw[y0S,λc hc=>?_];let I:=zE0 hc (.tup []);let gc:upd H4 c (.tup []) c=some (.tup (([]:List Int).map V.int)):=ai;generalize upd H4 c (.tup [])=H5 at I gc;let%[_,c1|_]:=jr (rows:=rows) k n6;let c2:ns.length+(if 1<ts.length then 1 else 0)<=bN ns ts:=by
  unfold bN
  split <;> split <;> omega
 let c7:=jg (ts:=ts) n6;erw[D,M,g,h,b,c,rows,ns,ts,p,Tk.new ts,(0),[],1,W4.same I,k,n6,rg,.inl rfl,3,gc,(by show 0+_<=_;omega),4,λa H6 w6 S6=>q a H6 (λx o e=>?_) w6];exact S6 _ _ (aP e D00) (aP e hM0) (aP e b00) (I _ _ (T4 _ _ e))
end
def cJ(p:Nat):Nat->List (List Int)
 |0=>[[]]
 |k+1=>(List.range p).flatMap λr:Nat=>(cJ p k).map ((r:Int)::·)
def jj:∀(k:Nat)(c:List Int),c∈cJ p k->c.length=k/\bL c (p:Int)
 |0,c,h=>by
   let e:c=[]:=by simpa [cJ]using h
   subst e;erw[1,λx hx=>by cases hx]
 |k+1,c,h=>by
   unfold cJ at h;let%[r,hr|h]:=List.mem_flatMap.mp h;let%[c',hc'|1]:=List.mem_map.mp h;let hr:=List.mem_range.mp hr;let%[l|o]:=jj k c' hc';erw[by rw[zP0,l],λx hx=>?_];rcases zY0 hx with e | e
   . subst e;omega
   . exact o x e
def ux{p:Nat}(hp:0<p):∀k,(cJ p k).head?=some (List.replicate k 0)
 |0=>rfl
 |k+1=>by
   obtain⟨q,rfl⟩:∃q,p=q+1:=%[p-1|3]
   unfold cJ;rw[List.range_succ_eq_map,wD1,List.head?_append,List.head?_map,ux hp k];rfl
def kN:∀k,(cJ p k).length=p ^ k
 |0=>rfl
 |k+1=>by
   unfold cJ;rw[wV0]
   have:((List.range p).map λa:Nat=>((cJ p k).map ((a:Int)::·)).length)=List.replicate p (p ^ k):=by
    rw[List.eq_replicate_iff];erw[by simp,λb hb=>?_];let%[a,_|1]:=List.mem_map.mp hb;rw[zF0,kN k]
   rw[this,List.sum_replicate_nat,vL0,Nat.mul_comm]
def eP(L:List (List Int))(b:List Int->Bool)(cs:List Int):Int×Option (List Int):=(((L.filter b).length:Int),((L.filter λc=>!b c).head?).map (cs++·))
def jH{L:List (List Int)}{b b':List Int->Bool}(h:∀c∈L,b c=b' c):eP L b cs=eP L b' cs:=by
 unfold eP;let e1:L.filter b=L.filter b':=jE1 h;let e2:(L.filter λc=>!b c)=L.filter λc=>!b' c:=jE1 λc hc=>by rw[h c hc]
 rw[e1,e2]
def wv{L M:List (List Int)}:eP (L++M) b cs=((eP L b cs).1+(eP M b cs).1,(eP L b cs).2.or (eP M b cs).2):=by
 unfold eP;rw[qL1,qL1,zJ0,List.head?_append,jN1]
 congr 1
 cases(List.filter (λc=>!b c) L).head? <;> rfl
def Dt{L:List (List Int)}{r:Int}:eP (L.map (r::·)) b cs=eP L (λc=>b (r::c)) (cs++[r]):=by
 unfold eP;rw[wV1,wV1,zF0,List.head?_map]
 congr 1
 show Option.map _ (Option.map _ _)=_;rw[Option.map_map]
 congr 1
 funext c
 show cs++(r::c)=(cs++[r])++c;rw[jD1];rfl
def ue{p j:Nat}{f:Int->Int×Option (List Int)}{b:List Int->Bool}{cs:List Int}(h:∀r:Nat,r<p->f (r:Int)=eP (cJ p j) (λc=>b ((r:Int)::c)) (cs++[(r:Int)])):∀k,k<=p->iZ f k=eP ((List.range k).flatMap λr:Nat=>(cJ p j).map ((r:Int)::·)) b cs
 |0,_=>rfl
 |k+1,hk=>by
   show((iZ f k).1+(f (k:Int)).1,(iZ f k).2.or (f (k:Int)).2)=_;rw[ue h k #[0],h k #[0],zP1,wU1,wv,List.flatMap_singleton,Dt]
section
variable {ns:List Str}{ts:List Tr}{p:Int}{t:Tk}{rows:List Hr}
def CK(z:Db):bO ns z<=2*ns.length+1:=by
 unfold bO
 split
 . omega
 . split
   . split <;> omega
   . omega
def lu(h:bL cs p)(p0:0<p):0<=cs.headD 0/\cs.headD 0<p:=by
 cases cs with
 |nil=>erw[qB1 0,p0]
 |cons a r=>exact h a (qF0 ..)
def mx(h:bL cs p):bL cs.tail p:=λx hx=>h x (List.mem_of_mem_tail hx)
def lP(k:GmK ns ts p)(n6:ns.length<=6):∀(n:Nat)(t:Tk)(cs:List Int),TkOk ns ts p t->bL cs p->bO ns t.z<=n->(cw ns ts p rows cs (n+1) t).2=(cw ns ts p rows cs n t).2
 |0,t,cs,h,hc,hs=>by
   let h1:¬ t.z.aw.1="hear":=λz=>by have:=(fb h (.inl z)).1;omega
   let h2:¬ t.z.aw.1="coin":=λz=>by have:=(fb h (.inr z)).1;omega
   rw[dA h1 h2,dA h1 h2]
 |n+1,t,cs,h,hc,hs=>by
   let p2:=k.p2
   by_cases ch:t.z.aw.1="hear"
   . rw[eZ ch,eZ ch];let%[o,s|_]:=h.ask (rows:=rows) k n6 ch;exact lP k n6 n _ cs o hc #[0]
   . by_cases cc:t.z.aw.1="coin"
     . rw[dJ cc,dJ cc];let%[r0|r1]:=lu hc #[0];let%[o,s|_]:=h.toss k cc r0 r1;exact lP k n6 n _ cs.tail o (mx hc) #[0]
     . rw[dA ch cc,dA ch cc]
def qD(k:GmK ns ts p)(n6:ns.length<=6)(h:TkOk ns ts p t)(hc:bL cs p){n:Nat}(hs:bO ns t.z<=n):∀m,(cw ns ts p rows cs (n+m) t).2=(cw ns ts p rows cs n t).2
 |0=>rfl
 |m+1=>by rw[←Nat.add_assoc,lP k n6 _ _ _ h hc #[0],qD k n6 h hc hs m]
def wa(k:GmK ns ts p)(n6:ns.length<=6)(h:TkOk ns ts p t)(hc:bL cs p){n m:Nat}(hn:13<=n)(hm:13<=m):(cw ns ts p rows cs n t).2=(cw ns ts p rows cs m t).2:=by
 have:=CK (ns:=ns) t.z
 obtain⟨a,rfl⟩:∃a,n=13+a:=%[n-13|3]
 obtain⟨b,rfl⟩:∃b,m=13+b:=%[m-13|3]
 rw[qD k n6 h hc #[0],qD k n6 h hc #[0]]
def mv(k:GmK ns ts p)(n6:ns.length<=6)(h:TkOk ns ts p t)(hc:bL cs p){n m:Nat}(hn:14<=n)(hm:14<=m):(cw ns ts p rows cs n t).2=(cw ns ts p rows cs m (settle ns ts p rows 2 t)).2:=by
 by_cases ch:t.z.aw.1="hear"
 . let%[o,s,_|o4]:=h.ask (rows:=rows) k n6 ch;let e:settle ns ts p rows 2 t=t.ask ns ts p rows:=(NE ch).trans (cZ o4 1);rw[e];obtain⟨a,rfl⟩:∃a,n=a+1:=%[n-1|3]
   rw[eZ ch];exact wa k n6 o hc #[0] #[0]
 . rw[cZ ch];exact wa k n6 h hc #[0] #[0]
structure Lf(ns:List Str)(t:Tk)(j:Nat):Prop where
 hc:t.z.aw.1="hear"∨t.z.aw.1="coin" -> bV ns t.z=j
 be:t.z.aw.1="believed" -> j=0
def Im:¬ (("believed":Str)="hear"):=by decide
def Ac:¬ (("coin":Str)="believed"):=by decide
def wO:¬ (("caught":Str)="believed"):=by decide
def Il:¬ (("hear":Str)="believed"):=by decide
def Ej:¬ (("caught":Str)="coin"):=by decide
def vP(z:Db)(tl:z.to.length<=ns.length)(bx:Str->Int)(nr:Int):Lf ns %[goOn ns ts p z,bx|nr] (ns.length-z.to.length):=by
 unfold goOn
 by_cases c:z.to.length<ns.length
 . rw[NE c];erw[λ_=>NE rfl,λh=>absurd h Il]
 . rw [ND c];unfold eF
   by_cases e:z.ed=hor z.s p (ts.map λt=>t.worth ns z.to p)
   . rw[NE e];erw[λh=>h.elim (λh=>absurd h Im) (λh=>absurd h Ek),λ_=>(by show ns.length-z.to.length=0;omega)]
   . rw[ND e];erw[λh=>h.elim (λh=>absurd h wP) (λh=>absurd h Ej),λh=>absurd h wO]
def Lf.ask(k:GmK ns ts p)(n6:ns.length<=6){j:Nat}(h:TkOk ns ts p t)(l:Lf ns t j)(hw:t.z.aw.1="hear"):Lf ns (t.ask ns ts p rows) j:=by
 let ho:=h.hear (rows:=rows) k n6 hw;let x0:=h.gd.hear_ne k ho;let e:cX ns ts p (t.said ns ts p rows) t.z=dI p (t.said ns ts p rows) { t.z with pl:=t.z.pl+((t.said ns ts p rows).length:Int) }:=ND h.cl;let l1:=l.hc (.inl hw);let s2:bV ns t.z=ns.length-t.z.to.length:=NE hw;let ez:(t.ask ns ts p rows).z=dI p (t.said ns ts p rows) { t.z with pl:=t.z.pl+((t.said ns ts p rows).length:Int) }:=e;erw[λhh=>?_,λhh=>?_]
 . rw [ez]at hh ⊢;unfold dI at hh ⊢
   by_cases c:(val p (t.said ns ts p rows) 0+val p (t.said ns ts p rows) 1) % p=t.z.ed
   . rw[NE c];show(if(("coin":Str)="hear")then _ else if(("coin":Str)="coin")then(if t.said ns ts p rows=[]then _ else _)else _)=j;rw[ND iU,NE rfl,ND x0];show ns.length-t.z.to.length=j;omega
   . rw[ND c]at hh;exact hh.elim (λh=>absurd h wP) (λh=>absurd h Ej)
 . rw [ez]at hh;unfold dI at hh
   by_cases c:(val p (t.said ns ts p rows) 0+val p (t.said ns ts p rows) 1) % p=t.z.ed
   . rw[NE c]at hh;exact absurd hh Ac
   . rw[ND c]at hh;exact absurd hh wO
def Lf.settle(k:GmK ns ts p)(n6:ns.length<=6)(h:TkOk ns ts p t)(l:Lf ns t j):Lf ns (settle ns ts p rows 2 t) j:=by
 by_cases ch:t.z.aw.1="hear"
 . let%[o,s,_|o4]:=h.ask (rows:=rows) k n6 ch;let e:Mine.settle ns ts p rows 2 t=t.ask ns ts p rows:=(NE ch).trans (cZ o4 1);rw[e];exact l.ask k n6 h ch
 . rw[cZ ch];exact l
def Lf.toss(h:TkOk ns ts p t){j:Nat}(l:Lf ns t (j+1))(hw:t.z.aw.1="coin")(r:Int):Lf ns (t.toss ns ts p r) j:=by
 let nh:¬ t.z.aw.1="hear":=by rw[hw];exact iU
 let s2:bV ns t.z=if t.z.he=[]then ns.length+1 else ns.length-t.z.to.length:=by unfold bV;rw[ND nh,NE hw]
 let l1:=l.hc (.inr hw)
 by_cases c:t.z.he=[]
 . let et:=h.fi hw c;rw[NE c]at s2;let e:t.toss ns ts p r=%[goOn ns ts p { t.z with pl:=t.z.pl+1,s:=r,ed:=hor r p t.z.cl },t.bx|t.nr]:=by
    unfold Tk.toss dz xI;rw[NE c]
   rw[e]
   have:=vP (ns:=ns) (ts:=ts) (p:=p) { t.z with pl:=t.z.pl+1,s:=r,ed:=hor r p t.z.cl } h.gd.tl t.bx t.nr
   let ej:ns.length-t.z.to.length=j:=by rw[et,zH1];omega
   rw[←ej];exact this
 . let tl:=((h.gd.co hw).2 c).2;rw[ND c]at s2;let e:t.toss ns ts p r=%[goOn ns ts p { t.z with pl:=t.z.pl+1,ed:=val p t.z.he r,to:=t.z.to++[r] },t.bx|t.nr]:=by
    unfold Tk.toss dz;rw[ND c]
   rw[e];let el:(t.z.to++[r]).length=t.z.to.length+1:=by rw[zJ0];rfl
   have:=vP (ns:=ns) (ts:=ts) (p:=p) { t.z with pl:=t.z.pl+1,ed:=val p t.z.he r,to:=t.z.to++[r] } (by show(t.z.to++[r]).length<=_;omega) t.bx t.nr
   let ej:ns.length-(t.z.to++[r]).length=j:=#[0]
   rw[←ej];exact this
def Lf.new(k:GmK ns ts p):Lf ns ‹Tk.a› (bN ns ts):=by
 let e0:cX ns ts p ‹Tk.s› (Db.new ts)=iW ns ts p ‹Tk.s› { Db.new ts with pl:=(Db.new ts).pl+(‹Tk.s›.length:Int) }:=NE rfl
 by_cases c:ts.length=1
 . let e:(Tk.new ts).ask ns ts p rows=%[goOn ns ts p { Db.new ts with pl:=(Db.new ts).pl+(‹Tk.s›.length:Int),cl:=‹Tk.s›,s:=0,ed:=hor 0 p ‹Tk.s› },((Tk.new ts).run ns ts p rows).bx|(Tk.new ts).nr+1]:=by
    unfold Tk.ask
    congr 1
    exact e0.trans (NE c)
   rw[e];let ej:bN ns ts=ns.length-([]:List Int).length:=NE c;rw[ej];exact vP _ (zU0 _) _ _
 . let ez:‹Tk.a›.z={ Db.new ts with pl:=(Db.new ts).pl+(‹Tk.s›.length:Int),cl:=‹Tk.s›,aw:=("coin",none) }:=e0.trans (ND c);let ej:bN ns ts=ns.length+1:=ND c;erw[λ_=>?_,λh=>?_]
   . rw[ez,ej];show(if(("coin":Str)="hear")then _ else if(("coin":Str)="coin")then(if([]:List Int)=[]then ns.length+1 else _)else 0)=_;rw[ND iU,NE rfl,NE rfl]
   . rw[ez]at h;exact absurd h Ac
def zB(ns:List Str)(ts:List Tr)(p:Int)(rows:List Hr)(t:Tk)(c:List Int):Bool:=decide ((cw ns ts p rows c 20 t).2.z.aw.1="believed")
def tD(k:GmK ns ts p)(n6:ns.length<=6){cn:Nat}:∀(d j:Nat) (t:Tk) (cs:List Int),TkOk ns ts p (settle ns ts p rows 2 t)->¬ (settle ns ts p rows 2 t).z.aw.1="hear" -> Lf ns (settle ns ts p rows 2 t) j->j<d->cs.length+j=cn ->
 ii ns ts p rows cn d t cs=eP (cJ p.toNat j) (zB ns ts p rows (settle ns ts p rows 2 t)) cs
 |0,j,_,_,_,_,_,hd,_=>absurd hd (Nat.not_lt_zero _)
 |d+1,j,t,cs,ok,no,lf,hd,hl=>by
   let p2:=k.p2;let ep:(p.toNat:Int)=p:=#[0]
   show(if(settle ns ts p rows 2 t).z.aw.1="believed" then _ else if(settle ns ts p rows 2 t).z.aw.1="caught" then _ else _)=_;generalize settle ns ts p rows 2 t=u at ok no lf
   by_cases cb:u.z.aw.1="believed"
   . rw [NE cb];let e0:=lf.be cb;subst e0;let e1:zB ns ts p rows u []=true:=by
      unfold zB;rw[dA no (by rw[cb];exact Ek)];exact zC1 cb
     unfold eP cJ;rw[List.filter_cons_of_pos e1,List.filter_cons_of_neg (by rw[e1];decide)];rfl
   . rw [ND cb]
     by_cases cc:u.z.aw.1="caught"
     . rw [NE cc];let e1:∀c∈cJ p.toNat j,zB ns ts p rows u c=false:=λc _=>by
        unfold zB;rw[dA no (by rw[cc];exact Ej)];exact zB1 cb
       rw[jH (b':=λ_=>false) e1];unfold eP;let e2:(cJ p.toNat j).filter (λ_=>false)=[]:=List.filter_eq_nil_iff.mpr λ_ _=>by decide
       let e3:(cJ p.toNat j).filter (λc=>!((λ_=>false) c))=cJ p.toNat j:=List.filter_eq_self.mpr λ_ _=>rfl
       rw[e2,e3,ux #[0]];show(0,some (cs++List.replicate (cn-cs.length) 0))=((([]:List (List Int)).length:Int),some (cs++List.replicate j 0))
       rw[show cn-cs.length=j by omega];rfl
     . rw [ND cc];let co:=xJ ok no cb cc;let cp:=(fb ok (.inr co)).2 co;obtain⟨i,rfl⟩:∃i,j=i+1:=%[j-1|by have:=lf.hc (.inr co);omega]
       apply ue (p:=p.toNat) (j:=i) (λr hr=>?_) p.toNat (zH0 _);let r0:(0:Int)<=(r:Int):=jW1 r;let r1:(r:Int)<p:=#[0]
       let%[ok3|_]:=ok.toss k co r0 r1;let%[ok4,_|no4]:=kU (rows:=rows) k n6 ok3;rw[tD k n6 d i _ (cs++[(r:Int)]) ok4 no4 ((lf.toss ok co (r:Int)).settle k n6 ok3) #[0] (by rw[zJ0,qK0];omega)];apply jH λc hc=>?_
       let po:bL c p:=by
        have:=(jj _ _ hc).2
        rwa [ep]at this
       unfold zB;rw[←mv (n:=19) k n6 ok3 po ⋯ ⋯,dJ (n:=19) co];rfl
def AC(k:GmK ns ts p)(n6:ns.length<=6):ii ns ts p rows (bN ns ts) 8 (Tk.new ts) []=eP (cJ p.toNat (bN ns ts)) (λc=>decide ((jT ns ts p rows c).2.z.aw.1="believed")) []:=by
 let%[o1,_|no1]:=jr (rows:=rows) k n6;let%[o2|_]:=li (rows:=rows) k n6;let c7:=jg (ts:=ts) n6;let ep:(p.toNat:Int)=p:=by have:=k.p2;omega
 let e:settle ns ts p rows 2 (Tk.new ts)=settle ns ts p rows 1 ‹Tk.a›:=NE rfl;let e2:settle ns ts p rows 2 (Tk.new ts)=settle ns ts p rows 2 ‹Tk.a›:=by
  rw[e]
  by_cases c:‹Tk.a›.z.aw.1="hear"
  . let n4:=(o2.ask (rows:=rows) k n6 c).2.2.2;show(if _ then _ else _)=(if _ then _ else _)
    rw[NE c,NE c,cZ n4,cZ n4]
  . rw[cZ c,cZ c]
 let lf:=(Lf.new (rows:=rows) k).settle (rows:=rows) k n6 o2;rw[←e2]at lf;rw[tD k n6 8 (bN ns ts) (Tk.new ts) [] o1 no1 lf #[0] (Nat.zero_add _)];apply jH λc hc=>?_
 let po:bL c p:=by
  have:=(jj _ _ hc).2
  rwa [ep]at this
 unfold zB;rw[e2,←mv (n:=20) k n6 o2 po ⋯ ⋯];rfl
end
def BM{p x y:Int}(hp:1<p)(bx cy:Bool)(hx:x=if bx then 1 else 0)(hy:y=if cy then 1 else 0):eT p o x y=if eI o bx cy then 1 else 0:=by
 let m0:(0:Int) % p=0:=jQ1 p;let m1:(1:Int) % p=1:=qL0 ⋯ hp;subst hx hy;unfold eT eI;cases bx <;> cases cy <;> (repeat' split) <;> simp_all
def iB{ns:List Str}{st:List Int}{p:Int}(hp:1<p)(h:∀x∈st,x=0∨x=1)(hl:st.length=ns.length):∀t:Tr,t.ok ns->t.worth ns st p=if t.holds ns st then 1 else 0
 |.is x,ok=>by
   let%[j,hj|jl]:=gq ok;show(match fc x ns with | some j=>st.getD j 0 | none=>0)=if(match fc x ns with | some j=>decide (st.getD j 0=1) | none=>false)=true then 1 else 0
   rw[hj];show st.getD j 0=if decide (st.getD j 0=1)=true then 1 else 0
   rw[sA #[0]];rcases h _ (qR0 (show j<st.length by omega))with e | e <;> rw[e] <;> rfl
 |.yes,_=>rfl
 |.no,_=>rfl
 |.not a,ok=>by
   let m0:(0:Int) % p=0:=jQ1 p;let m1:(1:Int) % p=1:=qL0 ⋯ hp;show(1-a.worth ns st p) % p=if(!a.holds ns st)=true then 1 else 0
   rw[iB hp h hl a ok];cases a.holds ns st
   . exact m1
   . exact m0
 |.bin o a b,⟨_,k1,k2⟩=>BM hp _ _ (iB hp h hl a k1) (iB hp h hl b k2)
def nd_at{ns:List Str}(nd:ns.Nodup){i j:Nat}{z:Str}(hi:ns[i]?=some z)(hj:ns[j]?=some z):i=j:=by
 let%[h1|e1]:=zX0 hi;let%[h2|e2]:=zX0 hj;rcases Nat.lt_trichotomy i j with h | h | h
 . exact absurd (e1.trans e2.symm) (List.pairwise_iff_getElem.mp nd i j h1 h2 h)
 . exact h
 . exact absurd (e2.trans e1.symm) (List.pairwise_iff_getElem.mp nd j i h2 h1 h)
def CZ{pt:List Int}{j i:Nat}{x:Int}(hj:j<pt.length):(pt.set j x).getD i 0=if i=j then x else pt.getD i 0:=by
 rw[qG0,qG0,List.getElem?_set]
 by_cases c:j=i
 . subst c
   simp [hj]
 . rw[ND c,ND (Ne.symm c)]
def jo{ns:List Str}{pt:List Int}{p:Int}{j:Nat}{y:Str}(hy:ns[j]?=some y)(hl:pt.length=ns.length)(nd:ns.Nodup):∀t:Tr,t.ok ns->∃f:Int->Int,IsPoly (t.names.count y+1) f/\∀x:Int,p ∣ t.worth ns (pt.set j x) p-f x
 |.is z,ok=>by
   let jl:j<ns.length:=(zX0 hy).1;let%[i,hi|il]:=gq ok;let hz:=(rB hi).1;let e:∀x,(Tr.is z).worth ns (pt.set j x) p=if i=j then x else pt.getD i 0:=λx=>by
    show(match fc z ns with | some j'=>(pt.set j x).getD j' 0 | none=>0)=_;rw[hi];exact CZ #[0]
   by_cases c:i=j
   . subst c;let ez:z=y:=zT0 (hz.symm.trans hy);subst ez;erw[λx=>x,6,λx=>%[(0)|by rw[e x,NE rfl];simp]]
     have:(Tr.is z).names.count z=1:=by simp [Tr.names]
     rw[this];exact IsPoly.self
   . let ez:z≠y:=λh=>c (by
      subst h;exact nd_at nd hz hy)
     erw[λ_=>pt.getD i 0,6,λx=>%[(0)|by rw[e x,ND c];simp]];exact IsPoly.const _ _
 |.yes,_=>%[λ_=>1,IsPoly.const _ _|λx=>%[(0)|by show(1:Int)-1=_;simp]]
 |.no,_=>%[λ_=>0,IsPoly.const _ _|λx=>%[(0)|by show(0:Int)-0=_;simp]]
 |.not a,ok=>by
   let%[f,hf|h]:=jo (p:=p) hy hl nd a ok;erw[λx=>1+(-1)*f x,(IsPoly.const 1 _).add (hf.mul (-1)),λx=>?_];let%[k|hk]:=h x;let%[m|hm]:=sD p (1-a.worth ns (pt.set j x) p);show p ∣ (1-a.worth ns (pt.set j x) p) % p-_;erw[m-k,by grind]
 |.bin o a b,⟨_,ok1,ok2⟩=>by
   let%[f,hf|h]:=jo (p:=p) hy hl nd a ok1;let%[g,hg|h']:=jo (p:=p) hy hl nd b ok2;let ec:(Tr.bin o a b).names.count y+1=a.names.count y+b.names.count y+1:=by
    show(a.names++b.names).count y+1=_;rw[List.count_append]
   rw [ec];let hF:IsPoly (a.names.count y+b.names.count y+1) f:=hf.upTo _ #[0];let hG:IsPoly (a.names.count y+b.names.count y+1) g:=hg.upTo _ #[0];let hP:=hf.prod hg;let fin:∀(c0 c1 c2:Int),(∀u v:Int,eT p o u v=(c0+c1*(u+v)+c2*(u*v)) % p)->∃F:Int->Int,IsPoly (a.names.count y+b.names.count y+1) F/\∀x:Int,p ∣ (Tr.bin o a b).worth ns (pt.set j x) p-F x:=λc0 c1 c2 hJ=>by
    erw[λx=>c0+c1*(f x+g x)+c2*(f x*g x),((IsPoly.const c0 _).add ((hF.add hG).mul c1)).add (hP.mul c2),λx=>?_];let%[k|hk]:=h x;let%[l|hl]:=h' x;show p ∣ eT p o (a.worth ns (pt.set j x) p) (b.worth ns (pt.set j x) p)-_;rw[hJ];generalize a.worth ns (pt.set j x) p=u at *
    generalize b.worth ns (pt.set j x) p=v at *
    let%[m|hm]:=sD p (c0+c1*(u+v)+c2*(u*v));erw[m+c1*(k+l)+c2*(k*v+f x*l),by grind]
   by_cases c1:o="and"
   . exact fin 0 0 1 λu v=>by unfold eT;rw[NE c1];congr 1;grind
   by_cases c2:o="or"
   . exact fin 0 1 (-1) λu v=>by unfold eT;rw[ND c1,NE c2];congr 1;grind
   by_cases c3:o="odd"
   . exact fin 0 1 (-2) λu v=>by unfold eT;rw[ND c1,ND c2,NE c3];congr 1;grind
   . exact fin 1 (-1) 2 λu v=>by unfold eT;rw[ND c1,ND c2,ND c3];congr 1;grind
def wS{ns:List Str}{pt:List Int}{p:Int}{j D:Nat}{y:Str}(hy:ns[j]?=some y)(hl:pt.length=ns.length)(nd:ns.Nodup):∀ts:List Tr,(∀t∈ts,t.ok ns/\t.names.count y<=D)->∃f:Int->Int,IsPoly (D+1) f/\∀x:Int,p ∣ iy s (ts.map λt=>t.worth ns (pt.set j x) p)-f x
 | [],_=>%[λ_=>0,IsPoly.const _ _|λx=>%[(0)|by simp [iy]]]
 |t::ts,h=>by
   let%[f,hf|h1]:=jo (p:=p) hy hl nd t (h t qF0).1;let%[g,hg|h2]:=wS (p:=p) (s:=s) hy hl nd ts λu hu=>h u (qM0 _ hu)
   let hd:=(h t qF0).2;erw[λx=>f x+s*g x,(hf.upTo _ #[0]).add (hg.mul s),λx=>?_];let%[k|hk]:=h1 x;let%[l|hl]:=h2 x;show p ∣ t.worth ns (pt.set j x) p+s*iy s (ts.map λt=>t.worth ns (pt.set j x) p)-_;erw[k+s*l,by grind]
def Cr(hp:Pm p){xs:List Int}{f:Int->Int}(hn:(xs.length:Int)<=p)(hf:IsPoly xs.length f)(h:∀k,k<xs.length->p ∣ xs.getD k 0-f k)(r:Int):val p xs r=f r % p:=
 md (wZ hp hn (uA hp hn) hf h r)
def JQ{ts:List Tr}{x:Str}:∀t∈ts,t.names.count x<=(aY ts x).toNat:=λt ht=>by
 have:=Hm (d:=0) (List.mem_map.mpr %[t,ht|1]:((t.names.count x:Nat):Int)∈ts.map λt=>(t.names.count x:Int))
 unfold aY;omega
def zP:∀(cs st:List Int)(x z:Int),(cs++[z]++st).set cs.length x=cs++[x]++st
 | [],_,_,_=>rfl
 |a::cs,st,x,z=>congrArg (a::·) (zP cs st x z)
def wb{ns:List Str}{cs:List Int}{p:Int}{D:Nat}{y:Str}{ts:List Tr}(hy:ns[cs.length]?=some y)(nd:ns.Nodup)(h:∀t∈ts,t.ok ns/\t.names.count y<=D):∀l:List (List Int),(∀st∈l,cs.length+1+st.length=ns.length) ->
 ∃f:Int->Int,IsPoly (D+1) f/\∀x:Int,p ∣ (l.map λst=>iy s (ts.map λt=>t.worth ns (cs++[x]++st) p)).sum-f x
 | [],_=>%[λ_=>0,IsPoly.const _ _|λx=>%[(0)|by simp]]
 |st::l,hs=>by
   let%[f,hf|h1]:=wS (p:=p) (s:=s) (pt:=cs++[0]++st) hy (by rw[zJ0,zJ0,qK0];exact hs st qF0) nd ts h;let%[g,hg|h2]:=wb (p:=p) (s:=s) hy nd h l λu hu=>hs u (qM0 _ hu)
   erw[λx=>f x+g x,hf.add hg,λx=>?_];let%[k|hk]:=h1 x;rw[zP]at hk;let%[m|hm]:=h2 x;erw[k+m,6];simp only[qE0,zX1];rw[vH0];omega
def oC:∀(n:Nat)(s:List Int),s∈cG n->s.length=n
 |0,s,h=>by rw[NK h];rfl
 |n+1,s,h=>by
   let%[t,ht|h]:=List.mem_flatMap.mp h
   have:=oC n t ht
   rcases zY0 h with h | h
   . rw[h,zJ0,this];rfl
   . rw[NK h,zJ0,this];rfl
def zG{ns:List Str}{ts:List Tr}{cs:List Int}{y:Str}(hp:Pm p)(hy:ns[cs.length]?=some y)(nd:ns.Nodup)(ok:∀t∈ts,t.ok ns)(tne:ts≠[])(dp:aY ts y<p)(r:Int):
 val p (fh ns ts s p cs (aY ts y+1).toNat) r=cR ns ts s p (cs++[r]):=by
 let cl:cs.length<ns.length:=(zX0 hy).1;let d0:=xy (x:=y) tne;let%[f,hf|h]:=wb (p:=p) (s:=s) hy nd (λt ht=>%[ok t ht|JQ t ht]) (cG (ns.length-(cs.length+1))) λst NI=>by
  have:=oC _ _ NI
  omega
 let ll:(fh ns ts s p cs (aY ts y+1).toNat).length=(aY ts y).toNat+1:=by
  unfold fh;rw[zF0,qO0];omega
 let eq:∀x:Int,cR ns ts s p (cs++[x])=((cG (ns.length-(cs.length+1))).map λst=>iy s (ts.map λt=>t.worth ns (cs++[x]++st) p)).sum % p:=λx=>by
  unfold cR;rw[zJ0,qK0]
 rw [Cr hp (f:=f) (by rw[ll];omega) (by rw[ll];exact hf) (λk hk=>by
  let e:(fh ns ts s p cs (aY ts y+1).toNat).getD k 0=cR ns ts s p (cs++[(k:Int)]):=by
   unfold fh at hk ⊢;rw[zF0,qO0]at hk;rw[qG0,zW0,jG1 hk];rfl
  rw[e,eq];let%[a|ha]:=h k;let%[b|hb]:=sD p ((cG (ns.length-(cs.length+1))).map λst=>iy s (ts.map λt=>t.worth ns (cs++[(k:Int)]++st) p)).sum;erw[a+b,by grind]) r,eq]
 let%[a|ha]:=h r;exact md %[-a|by grind]
def zI{α:Type}(F:List α->Int)(G:List α->Int):∀l:List (List α),(l.map λs=>F s+G s).sum=(l.map F).sum+(l.map G).sum
 | []=>rfl
 |a::l=>by
   simp only[qE0,zX1,zI F G l];omega
def qF(F:List Int->Int):∀l:List (List Int),((l.flatMap λs=>[s++[0],s++[1]]).map F).sum=(l.map λs=>F (s++[0])+F (s++[1])).sum
 | []=>rfl
 |a::l=>by
   rw[wD1,zK0,jY1,qF F l]
   simp
def pE:∀(n:Nat)(F:List Int->Int),((cG (n+1)).map F).sum=((cG n).map λs=>F (0::s)+F (1::s)).sum
 |0,F=>by simp [cG]
 |n+1,F=>by
   let e1:((cG (n+1+1)).map F).sum=((cG (n+1)).map λs=>F (s++[0])+F (s++[1])).sum:=qF F _;rw[e1,pE n λs=>F (s++[0])+F (s++[1])];let e2:((cG (n+1)).map λs=>F (0::s)+F (1::s)).sum=((cG n).map λs=>(F (0::(s++[0]))+F (1::(s++[0])))+(F (0::(s++[1]))+F (1::(s++[1])))).sum:=qF (λs=>F (0::s)+F (1::s)) _;rw[e2]
   congr 1
   apply qP1 λs _=>?_
   show F (0::s++[0])+F (0::s++[1])+(F (1::s++[0])+F (1::s++[1]))=_;simp only[List.cons_append];omega
def oR{ns:List Str}{cs:List Int}(cl:cs.length<ns.length):(cR ns ts s p (cs++[0])+cR ns ts s p (cs++[1])) % p=cR ns ts s p cs:=by
 let eq:∀x:Int,cR ns ts s p (cs++[x])=((cG (ns.length-(cs.length+1))).map λst=>iy s (ts.map λt=>t.worth ns (cs++[x]++st) p)).sum % p:=λx=>by
  unfold cR;rw[zJ0,qK0]
 let e0:cR ns ts s p cs=((cG (ns.length-(cs.length+1)+1)).map λst=>iy s (ts.map λt=>t.worth ns (cs++st) p)).sum % p:=by
  unfold cR;rw[show ns.length-cs.length=ns.length-(cs.length+1)+1 by omega]
 rw [e0,pE,eq,eq];let e1:((cG (ns.length-(cs.length+1))).map λst=>iy s (ts.map λt=>t.worth ns (cs++0::st) p)+iy s (ts.map λt=>t.worth ns (cs++1::st) p)).sum
  = ((cG (ns.length-(cs.length+1))).map λst=>iy s (ts.map λt=>t.worth ns (cs++[0]++st) p)).sum+((cG (ns.length-(cs.length+1))).map λst=>iy s (ts.map λt=>t.worth ns (cs++[1]++st) p)).sum:=by
  rw[←zI]
  congr 1
  apply qP1 λst _=>?_
  simp only[jD1,List.singleton_append]
 rw[e1,←jO1]
def rC(s:Int){α:Type}(F:Tr->α->Int)(l:List α):∀ts:List Tr,iy s (ts.map λt=>(l.map (F t)).sum)=(l.map λa=>iy s (ts.map λt=>F t a)).sum
 | []=>by
   simp only[List.map_nil,iy]
   induction l with
   |nil=>rfl
   |cons a l ih=>simpa using ih
 |t::ts=>by
   show(l.map (F t)).sum+s*iy s (ts.map λt=>(l.map (F t)).sum)=_;rw[rC s F l ts];clear rC
   induction l with
   |nil=>simp
   |cons a l ih=>
     simp only[qE0,zX1,iy]at ih ⊢
     grind
def zR{ns:List Str}{cs:List Int}(cl:cs.length=ns.length):cR ns ts s p cs=hor s p (ts.map λt=>t.worth ns cs p):=by
 rw[oh];unfold cR;rw[cl,wZ0]
 simp [cG]
def oz:List Str:=["not","and","or","odd","same"]
def pR{o:Str}(h:o∈joinW):o∈oz:=qM0 _ h
def zE(o:Str):inV (.str o) [.str "yes",.str "no"]=(decide (o="yes")||decide (o="no")):=by
 show (("yes"==o)||(("no"==o)||false))=_;rw[vE1];let e:∀z:Str,(z==o)=decide (o=z):=λz=>by
  by_cases c:o=z
  . subst c;simp
  . rw[zB1 c];simpa using λh=>c h.symm
 rw[e,e]
def IC{o:Str}(h:o∈oz):inV (.str o) [.str "yes",.str "no"]=false:=by
 rw[zE,zB1,zB1]
 . rfl
 . intro z;subst z;revert h;decide
 . intro z;subst z;revert h;decide
def Jm{o:Str}(h:o∈oz):¬ V.str o=V.str "is":=λz=>by
 rw[eW z]at h
 revert h
 decide
def TreeAt.viewH{ns:List Str}(h:TreeAt H v t)(ok:t.ok ns):(∃(a:Addr) (x:Str),v=.ref a/\t=.is x/\x∈ns/\H a=some (.tup [.str "is",.str x]))∨(∃a:Addr,v=.ref a/\t=.yes/\H a=some (.tup [.str "yes"]))∨(∃a:Addr,v=.ref a/\t=.no/\H a=some (.tup [.str "no"]))∨
 ∃(a:Addr) (o:Str) (xs:List V),v=.ref a/\o∈oz/\xs.length<=2/\H a=some (.tup (.str o::xs))/\TreesAt H xs t.parts/\(∀u∈t.parts,u.ok ns/\u.depth+1<=t.depth)/\((o="not"/\∃r,t=.not r)∨(o∈joinW/\∃r r2,t=.bin o r r2)):=by
 cases h with
 |is e=>exact .inl %[2,ok|e]
 |yes e=>exact .inr (.inl %[0,1|e])
 |no e=>exact .inr (.inr (.inl %[0,1|e]))
 | @not a u r e g=>
   refine .inr (.inr (.inr %[_,"not",[u],1,4,by simp,e,.cons g .nil,λz hz=>?_|.inl ⟨rfl,_,rfl⟩]));rw[NK hz];erw[ok,zH0 _]
 | @bin a o u u2 r r2 e g g2=>
   erw[ho,ok1,ok2]at ok;refine .inr (.inr (.inr %[_,o,[u,u2],1,pR ho,by simp,e,.cons g (.cons g2 .nil),λz hz=>?_|.inr ⟨ho,_,_,rfl⟩]));rcases zY0 hz with h | h
   . rw[h];erw[ok1,6];show r.depth+1<=max r.depth r2.depth+1;omega
   . rw[NK h];erw[ok2,6];show r2.depth+1<=max r.depth r2.depth+1;omega
instance spLH(n:Nat):∀(v:V)(t:Tr)(a b:Addr)(ns:List Str)(st:List Int),vs=[v,.ref a,.ref b]->TreeAt H v t->t.ok ns->t.depth<=n->NamesAt H a ns->H b=some (.tup (st.map V.int))->st.length=ns.length->(∀H',Same H H'->Q (.bl (t.holds ns st)) H'):=1
def A8:FnScope ["_law_tree_here","_law_switches","_law_setting","_law_parts"] WZ (ao kY):=%[|5]
def Hu{n:Nat}(F:#["_law_holds",kY])(ie:#[n+2,"_law_holds",WZ,spLH n]):#[n+3,f,fd,WZ,spLH (n+1)]:=by
 exists A8
 erw[v,t,a,b,ns,st,1,T,ok,dn,hN,hb,sl,k]at h;refine⟨_,(ad (aM (am fe (aN ix_tup (pv 0) ag #[1]) (aU %[aI,aI|ae]) (by rfl')) (af (ax (dy aS (aN ix_tup (pv 0) ag #[1]) aI (az _)))) aE)
  (ad (aM (am aS (aN ix_tup (pv 0) ag #[1]) aI (az _)) (af (ax (dy aS (aN ix_tup (pv 2) (rK zF1 jV0 (pv 1) %[aN ix_tup (pv 0) ag #[1]|ae]) #[1]) ag (az _)))) aE)
  (ad (nn (i:=3) (N:=["_law_switches","_law_setting"]) (ix:=[1,2]) A8.nd rfl (.inl rfl) rfl
   #[4] rfl
   (fo (eQ oB (pv 0) (eY ag) iG))
   (λ_ _ _=>cE (aD ie hr (zH0 _) rfl %[0,1,2|ae])))
  (ad (aM (am aS (aN ix_tup (pv 0) ag #[1]) aI (az _)) (af (ax (yz (aN ix_list (pv 3) ag #[1])))) aE)
  (ad (aM (am aS (aN ix_tup (pv 0) ag #[1]) aI (az _)) (af (ax (vn (aN ix_list (pv 3) ag #[1]) (rJ (aN ix_list (pv 3) ag #[1]))))) aE)
  (ad (aM (am aS (aN ix_tup (pv 0) ag #[1]) aI (az _)) (af (ax (Ih (aN ix_list (pv 3) ag #[1]) (rJ (aN ix_list (pv 3) ag #[1]))))) aE)
  (af (ax (dy aS (dy aS (aN ix_list (pv 3) ag #[1]) (aN ix_list (pv 3) ag #[1]) (az _)) (dy aS (aN ix_tup (pv 0) ag #[1]) aI (az _)) (az _)))))))))),?_⟩
 rcases T.viewH ok with⟨q,x,rfl,rfl,xm,e⟩ | ⟨q,rfl,rfl,e⟩ | ⟨q,rfl,rfl,e⟩ | ⟨q,o,xs,rfl,om,xl0,e,TS0,pok,fm⟩
 . erw[0,q,_,(0),0,1,zC0 e,1,y2S,λc hc=>?_];let G:=zE0 hc (.tup [.str "yes",.str "no"]);erw[c,0,.inr (zC0 ai),1,1,0,6];let e0:inV (.str "is") [.str "yes",.str "no"]=false:=by rw[zE];decide
   show if inV (.str "is") [.str "yes",.str "no"]=true then _ else _
   rw[e0];apply dG ?_;erw[0,q,_,(0),0,1,zC0 (G _ _ e),1,1,0,6];apply bd rfl ?_;let%[j,hj|jl]:=gq xm;let jl':j<st.length:=#[0]
   erw[0,0,a,ns,1,hN.same G,0,q,_,(1),0,1,zC0 (G _ _ e),1,1,x,j,1,hj,b,_,(j:Int),.int st[j],1,1,zC0 (G _ _ hb),6,1,6]
   . apply bK ?_;rw[zW0,zM0 jl'];rfl
   . let e1:(Tr.is x).holds ns st=decide (V.int st[j]=V.int 1):=by
      show(match fc x ns with | some j=>decide (st.getD j 0=1) | none=>false)=_;rw[hj];show decide (st.getD j 0=1)=_;rw[qG0,zM0 jl']
      simp
     let k':=k _ G;rw[e1]at k';exact k'
 . erw[0,q,_,(0),0,1,zC0 e,1,y2S,λc hc=>?_];let G:=zE0 hc (.tup [.str "yes",.str "no"]);erw[c,0,.inr (zC0 ai),1,1,0,6];let e0:inV (.str "yes") [.str "yes",.str "no"]=true:=by rw[zE];decide
   show if inV (.str "yes") [.str "yes",.str "no"]=true then _ else _
   rw[e0];apply eU ?_;erw[0,q,_,(0),0,1,zC0 (G _ _ e),1,1,6];exact k _ G
 . erw[0,q,_,(0),0,1,zC0 e,1,y2S,λc hc=>?_];let G:=zE0 hc (.tup [.str "yes",.str "no"]);erw[c,0,.inr (zC0 ai),1,1,0,6];let e0:inV (.str "no") [.str "yes",.str "no"]=true:=by rw[zE];decide
   show if inV (.str "no") [.str "yes",.str "no"]=true then _ else _
   rw[e0];apply eU ?_;erw[0,q,_,(0),0,1,zC0 (G _ _ e),1,1,6];let e1:decide (V.str "no"=V.str "yes")=false:=by decide
   show Q (.bl (decide (V.str "no"=V.str "yes"))) _;rw[e1];exact k _ G
 . erw[0,q,_,(0),.str o,1,1,zC0 e,at0 ..,y2S,λc hc=>?_];let G:=zE0 hc (.tup [.str "yes",.str "no"]);erw[c,0,.inr (zC0 ai),1,1,0,6];show if inV (.str o) [.str "yes",.str "no"]=true then _ else _
   rw[IC om];apply dG ?_;erw[0,q,_,(0),.str o,1,1,zC0 (G _ _ e),at0 ..,1,0,6];apply aF (Jm om) ?_;let%[c1|c2]:=HH (.str o) xs xl0;erw[0,(1),1,q,0,zC0 (G _ _ e),c2,λc' hc'=>?_];rw[c1];let G1:=zE0 hc' (.tup xs);let S1:Same H (upd (upd H c (.tup [.str "yes",.str "no"])) c' (.tup xs)):=G.trans G1;let hc1:upd (upd H c (.tup [.str "yes",.str "no"])) c' (.tup xs) c'=some (.tup xs):=ai;generalize upd (upd H c (.tup [.str "yes",.str "no"])) c' (.tup xs)=H1 at S1 hc1;let TS:=TS0.mono (aV S1);let xl:=TS.length;erw[c',1,%[_|zC0 hc1],λD hD=>?_];apply eV (K:=K) (xs:=xs) (λi H'=>H' D=some (.lst ((t.parts.take i).map λu=>V.bl (u.holds ns st)))/\Same H1 H') %[by rw[ai];rfl|zE0 hD _] (λi H' _ h=>zC0 (h.2 _ _ hc1)) ?_ ?_
   . rintro i z H2 hz ⟨hl,S2⟩;let%[u,hu'|Tu]:=TS.get hz;let%[uok|ud]:=pok u (qC0 hu');let hi:i<xs.length:=(zX0 hz).1;let S02:=S1.trans S2;erw[0,0,0,z,u,a,b,ns,st,1,Tu.mono (aV S2),uok,3,hN.same S02,S02 _ _ hb,sl,λH3 S3=>?_];erw[_,S3 _ _ hl,6,Nx.of hi %[6|λb' o' e'=>?_]]
     . rw[zF0,qJ0];exact aO #[0]
     . rw[ai,zZ0,hu',zK0];rfl
     . rw[ay (aP e' hD)];exact S3 _ _ (S2 _ _ e')
   . rintro H2 ⟨hl,S2⟩;rw[xl,qA0]at hl;let S02:=S1.trans S2;let e2:=S02 _ _ e;let k':=k _ S02;erw[0,q,_,(0),.str o,1,1,zC0 e2,at0 ..,1,0,6];rcases fm with⟨rfl,r,rfl⟩ | ⟨oj,r,r2,rfl⟩
     . apply bd rfl ?_;erw[0,D,_,(0),0,1,zG0 hl,at0 ..,0,k']
     . let ne:∀z:Str,z∉joinW->¬ V.str o=V.str z:=λz hz h=>hz (eW h▸oj)
       let hl':H2 D=some (.lst [V.bl (r.holds ns st),V.bl (r2.holds ns st)]):=hl;let k2:Q (.bl (eI o (r.holds ns st) (r2.holds ns st))) H2:=k';generalize r.holds ns st=x at hl' k2;generalize r2.holds ns st=y at hl' k2;apply aF (ne _ ⋯) ?_;erw[0,q,_,(0),.str o,1,1,zC0 e2,at0 ..,1,0,6]
       by_cases c1:V.str o=V.str "and"
       . apply bd c1 ?_;rw[eW c1]at k2;let ej:eI "and" x y=(x&&y):=by unfold eI;rw[NE rfl]
         rw[ej]at k2;erw[0,D,_,(0),0,1,zG0 hl',1,x,1,6];cases x with
         |true=>exact eU %[0,D,_,(1),0,1,zG0 hl',1|by simpa using k2]
         |false=>exact dG #[k2,0]
       apply aF c1 ?_;erw[0,q,_,(0),.str o,1,1,zC0 e2,at0 ..,1,0,6]
       by_cases c2:V.str o=V.str "or"
       . apply bd c2 ?_;rw[eW c2]at k2;let ej:eI "or" x y=(x||y):=by unfold eI;rw[ND ⋯,NE rfl]
         rw[ej]at k2;erw[0,D,_,(0),0,1,zG0 hl',1,x,1,6];cases x with
         |true=>exact eU #[k2,0]
         |false=>exact dG %[0,D,_,(1),0,1,zG0 hl',1|by simpa using k2]
       apply aF c2 ?_;erw[0,D,_,(0),0,1,zG0 hl',1,0,D,_,(1),0,1,zG0 hl',1,1,0,q,_,(0),.str o,1,1,zC0 e2,at0 ..,1,1,6];let o3:o="odd"∨o="same":=by
        have:o∈(["and","or","odd","same"]:List Str):=oj
        simp only[jG0,qV1,vG1]at this;rcases this with h | h | h | h
        . exact absurd (by rw[h]) c1
        . exact absurd (by rw[h]) c2
        . exact .inl h
        . exact .inr h
       let ev:decide (V.bl (decide (V.bl x=V.bl y))=V.bl (decide (V.str o=V.str "same")))=eI o x y:=by
        rcases o3 with rfl | rfl
        . let ej:eI "odd" x y=(x != y):=by unfold eI;rw[ND ⋯,ND ⋯,NE rfl]
          let e1:decide (V.str "odd"=V.str "same")=false:=by decide
          rw[ej,e1];cases x <;> cases y <;> decide
        . let ej:eI "same" x y=(x==y):=by unfold eI;rw[ND ⋯,ND ⋯,ND ⋯]
          let e1:decide (V.str "same"=V.str "same")=true:=zC1 rfl;rw[ej,e1];cases x <;> cases y <;> decide
       show Q (.bl (decide (V.bl (decide (V.bl x=V.bl y))=V.bl (decide (V.str o=V.str "same"))))) H2;rw[ev];exact k2
def Ht:#[2,f,fd,WZ,spLH 0]:=by
 let no:∀vs H Q E,¬ spLH 0 vs H Q E:=λvs H Q E h=>by
  erw[v,t,_,_,_,_,_,_,_,h1,_]at h
  have:=t.depth_pos
  omega
 exists 3
def rR(F:#["_law_holds",kY])(m:mg "_law_holds"=some (.ref f)):
 ∀n:Nat,#[n+2,f,fd,WZ,spLH n]
 |0=>Ht
 |n+1=>Hu F (Cal.of F (rR F m n) m (λ_ _ _ _ _ _ us hl=>by let%[u0,u1,u2|1]:=EJ hl;rfl))
def CY(n:Nat):cG n=(List.range (2 ^ n)).map λk:Nat=>gy (k:Int) n:=by
 apply List.ext_getElem? λi=>?_
 by_cases h:i<2 ^ n
 . rw[tM n i h,zW0,jG1 h];rfl
 . rw[List.getElem?_eq_none (by rw[gl];omega),List.getElem?_eq_none (by rw[zF0,qO0];omega)]
def Az(k:Int):∀n:Nat,((List.range n).map λj:Nat=>k / 2 ^ (n-1-j) % 2)=gy k n
 |0=>rfl
 |n+1=>by
   rw[List.range_succ_eq_map,qE0,List.map_map];show k / 2 ^ (n+1-1-0) % 2::_=k / 2 ^ n % 2::gy k n;rw[←Az k n]
   congr 1
   apply qP1 λj hj=>?_
   show k / 2 ^ (n+1-1-(j+1)) % 2=_;rw[show n+1-1-(j+1)=n-1-j by omega]
def sQ:FnScope Wj Wj (ao jA):=%[|5]
def sU(F:#["_law_settings",jA])(hrange:mg "range"=none)(htuple:mg "tuple"=none):#[1,f,fd,Wj,spSetts]:=by
 exists sQ
 erw[n,1,n0,n6,q]at h;refine⟨_,(af (ax (wA (N:=Wj) (ix:=[0]) rfl
  (CompScopeO.one (by rfl') (λ_ _=>%[by rfl'|by rfl']) rfl ⋯ (by rfl') ⋯ (by rfl') (by rfl') (by rfl') rfl rfl) rfl
  (bJ rfl hrange %[aq Jg ag (pv 0)|ae])
  (λ_ _ _=>cE (bc (sI K) rfl htuple bt (aa (cH (N:=["_law_many","_law_number"]) (ix:=[1,0]) rfl
   (CompScope.two (by rfl') ⋯ rfl ⋯ rfl ⋯ (by first | exact Or.inl rfl | exact Or.inr rfl) (by rfl') (by rfl') (by rfl') (by rfl') rfl (by rfl') (by rfl') rfl (by rfl')) rfl
   (bJ rfl hrange %[1|ae])
   (λ_ _ _=>cE (aq Ji (aq Jf (pv 2) (aq bj (aq bj (pv 1) ag) (pv 0))) ag))) ae)))))),?_⟩
 obtain⟨m,hm⟩:∃m:Nat,2 ^ n.toNat=m:=%[|0]
 let s64:=iT (n:=n.toNat) #[0];rw[hm]at s64;let e64:(1:Int)*2 ^ n.toNat=(m:Int):=by
  rw[Int.one_mul,←hm];exact(wW0 2 n.toNat).symm
 erw[0,2,%[3,3|4],0,(by show -(2 ^ 62)<=(1:Int)*2 ^ n.toNat;rw[e64];omega),(by show(1:Int)*2 ^ n.toNat<2 ^ 62;rw[e64];omega),λD hD=>?_];rw[e64];let e3:((m:Int)).toNat=m:=#[0]
 rw[e3];apply dO (λi H'=>∃rs,H' D=some (.lst rs)/\TupsAt H' rs ((List.range i).map λk:Nat=>gy (k:Int) n.toNat)/\Same H H') %[[],ai,.nil|zE0 hD _] ?_ ?_
 . rintro i H2 hi ⟨rs,hrs,TB,S2⟩;erw[0,n,1,3,3,λD2 hD2=>?_];apply dO (λj H'=>H' D2=some (.lst (((List.range j).map λj:Nat=>(0+(i:Int)) / 2 ^ (n.toNat-1-j) % 2).map V.int))/\Same H2 H') %[by rw[ai];rfl|zE0 hD2 _] ?_ ?_
   . rintro j H3 hj ⟨hl,S3⟩;erw[0,0,2,0,2,2,(show(0:Int)<=n-1-(0+(j:Int)) by omega),2,_,hl,6,Nx.of hj %[6|λb o e=>?_]]
     . rw[zF0,zF0,qO0];exact aO #[0]
     . rw[ai,zP1,zK0,zK0];show some (HO.lst (_++[V.int (Builtin.bitAnd ((0+(i:Int)) / 2 ^ (n-1-(0+(j:Int))).toNat) 1)]))=_;rw[PyProof.Rows.bitAnd_m1,show(n-1-(0+(j:Int))).toNat=n.toNat-1-j by omega];rfl
     . rw[ay (aP e hD2)];exact S3 _ _ e
   . rintro H3 ⟨hl,S3⟩;rw[Az,qX1]at hl;erw[D2,0,.inl %[zG0 hl|λt ht=>?_]];let Gt:=zE0 ht (.tup ((gy (i:Int) n.toNat).map V.int));let S24:=S3.trans Gt;let rl:=TB.length;rw[zF0,qO0]at rl;let hD4:=S24 _ _ hrs;let k6:=dP (H:=upd H3 t (.tup ((gy (i:Int) n.toNat).map V.int))) (b:=D) (ys:=rs) (zs:=rs++[.ref t]) hD4;erw[_,hD4,aO #[0],Nx.of hi ⟨rs++[.ref t],ai,?_,λb o e=>?_⟩]
     . rw[zP1,zK0];exact(TB.mono λa xs e=>k6 _ _ (S24 _ _ e)).snoc %[t,1|k6 _ _ ai]
     . rw[ay (aP e hD)];exact S24 _ _ (S2 _ _ e)
 . rintro H2 ⟨rs,hrs,TB,S2⟩;rw[←hm,←CY]at TB;exact q D H2 hD S2 %[rs,hrs|TB]
def sH(ts:List Tr)(ns:List Str):List Int:=ts.map λt=>(cnt t ns:Int)
def sG(ts:List Tr)(ns:List Str):(sH ts ns).length=ts.length:=zF0 _
instance spLC:∀(sa sb:Addr)(sn:List Str)(tv:List V)(ts:List Tr),vs=[.ref sb,.ref sa]->H sa=some (.tup (sn.map V.str))->sn.length<=6->H sb=some (.tup tv)->TreesAt H tv ts->ts.length<=10->(∀t∈ts,t.ok sn/\t.depth<=10)->(∀(l:Addr)(H':Hp),H l=none->Same H H'->H' l=some (.lst ((sH ts sn).map V.int))->Q (.ref l) H'):=1
def u6:FnScope ["_law_trees","_law_switches","_law_settings_here"] Wx (ao lW):=%[|5]
def wH(F:#["_law_counts",lW])(B:Bl mg)(i7:#[1,"_law_settings",Wj,spSetts])(ie:#[12,"_law_holds",WZ,spLH 10]):#[13,f,fd,Wx,spLC]:=by
 exists u6
 erw[sa,sb,sn,tv,ts,1,hsa,sl6,hsb,TS,t10,tok,q]at h;refine⟨_,(ad (aj (i:=2) u6.nd rfl (Or.inr rfl) (aD i7 hr ⋯ rfl %[aJ aG rfl B.len zD1 %[1|ae]|ae]))
  (af (ax (wA (N:=["_law_switches","_law_settings_here"]) (ix:=[1,2]) rfl
   (CompScopeO.two (by rfl') (λ_ _=>%[by rfl'|by rfl']) rfl ⋯ (by rfl') ⋯ (by first | exact Or.inl rfl | exact Or.inr rfl) (by rfl') (by rfl') (by rfl') (by rfl') rfl rfl (by rfl') rfl rfl) rfl
   (fo (pv 0)) (λ_ _ _=>cE (aJ (Cj K) rfl B.len zD1 (aa (cH (N:=["_law_switches","_law_tree_here"]) (ix:=[1,0]) rfl
    (CompScope.two (by rfl') ⋯ rfl ⋯ rfl ⋯ (by first | exact Or.inl rfl | exact Or.inr rfl) (by rfl') (by rfl') (by rfl') (by rfl') rfl (by rfl') (by rfl') rfl (by rfl')) rfl
    (DE K (pv 2)) (λ_ _ _=>Ii (fk (aD ie hr ⋯ rfl %[2,1,0|ae])) ag)) ae))))))),?_⟩
 let vl:=TS.length;let en:(((sn.map V.str).length:Nat):Int).toNat=sn.length:=by rw[zF0];omega
 erw[0,sa,0,.inr (zC0 hsa),0,3,by rw[zF0];omega,λr H1 r0 S1 R1=>?_];rw[en]at R1;erw[rs,hrs,TB]at R1;let rl:=TB.length;let sl:=gl sn.length;let s64:=iT sl6;erw[0,sb,1,%[_|zC0 (S1 _ _ hsb)],λD hD=>?_];apply eV (K:=K) (xs:=tv) (λi H'=>H' D=some (.lst ((sH (ts.take i) sn).map V.int))/\Same H1 H') %[by rw[ai];rfl|zE0 hD _] (λi H' _ h=>zC0 (h.2 _ _ (S1 _ _ hsb))) ?_ ?_
 . rintro i z H2 hz ⟨hl2,S2⟩;let%[t,ht|Tt]:=TS.get hz;let%[tk|td]:=tok t (qC0 ht);let hi:i<tv.length:=(zX0 hz).1;let S02:=S1.trans S2;let hrs2:=S2 _ _ hrs;erw[0,r,1,%[_|zG0 hrs2],λD2 hD2=>?_];apply ig (K:=K) (xs:=rs) (λj H'=>∃ys,H' D2=some (.lst ys)/\ys.length=(((cG sn.length).take j).filter λst=>t.holds sn st).length/\Same H2 H') %[[],ai,1|zE0 hD2 _] (λi H' _ NI=>by erw[_,_,_,h]at NI;exact zG0 (h _ _ hrs2)) ?_ ?_
   . rintro j x H3 hx ⟨ys,hl3,yl,S3⟩;let hj:j<rs.length:=(zX0 hx).1;let S13:=S2.trans S3;let S03:=S1.trans S13;let TB3:=TB.mono (aV S13);let%[st,NI,b,1|hb]:=TB3.get hx;let stl:=eO _ _ (qC0 NI);let tkn:((cG sn.length).take (j+1)).filter (λst=>t.holds sn st)=((cG sn.length).take j).filter (λst=>t.holds sn st)++[st].filter (λst=>t.holds sn st):=by
      rw[zZ0,NI,qL1];rfl
     erw[0,0,0,z,t,sa,b,sn,st,1,Tt.mono (aV S03),tk,td,.inr (S03 _ _ hsa),hb,stl,λH4 S4=>%[0|6]];cases c:t.holds sn st with
     |true=>
       apply eU ?_;erw[ys,S4 _ _ hl3,6,Nx.of hj %[_,ai,6|λb' o e=>?_]]
       . have:=jO0 (λst=>t.holds sn st) ((cG sn.length).take j)
         rw[qJ0]at this;exact aO #[0]
       . rw [tkn,zJ0,zJ0,yl]
         simp [c]
       . rw[ay (aP e hD2)];exact S4 _ _ (S3 _ _ e)
     |false=>
       apply dG ?_;apply Nx.of hj %[ys,S4 _ _ hl3,6|S3.trans S4];rw[tkn,zJ0,yl]
       simp [c]
   . rintro H3 ⟨ys,hl3,yl,S3⟩;rw[rl,qA0]at yl;erw[D2,0,.inl (zG0 hl3),6];erw[_,S3 _ _ hl2,6,Nx.of hi %[6|λb' o' e'=>?_]]
     . rw[zF0,sG,qJ0];exact aO #[0]
     . rw[ai,zZ0,ht,yl];unfold sH;rw[zK0,zK0];rfl
     . rw[ay (aP e' hD)];exact S3 _ _ (S2 _ _ e')
 . rintro H2 ⟨hl2,S2⟩;rw[vl,qA0]at hl2;exact q D H2 (S1.free hD) (S1.trans S2) hl2
def HR{ns:List Int}{k:Int}(h0:0<=k)(h:k<(ns.length:Int)):∃v:Int,atI (ns.map V.int) k=some (.int v)/\v∈ns:=by
 let hk:k.toNat<ns.length:=#[0]
 let q:atI (ns.map V.int) ((k.toNat:Nat):Int)=some (.int ns[k.toNat]):=bK (by rw[zW0,zM0 hk] <;> rfl);let ek:((k.toNat:Nat):Int)=k:=#[0]
 rw[ek]at q;erw[_,q,qR0 hk]
instance spClm64:∀(f c:Addr)(cs:List Int)(p:Int),vs=[.ref f,.ref c,.int p]->FeedAt H f->H c=some (.lst (cs.map V.int))->c≠f->cs.length<=10->(∀x∈cs,0<=x/\x<=100)->0<p->p<2 ^ 40->(∀(D:Addr)(xs:List Int)(H':Hp),H D=none->H' D=some (.lst (xs.map V.int))->xs.length=cs.length->(∀x∈xs,0<=x/\x<2 ^ 60)->FeedAt H' f->SameBut f H H'->Q (.ref D) H'):=1
def hR:FnScope ["_law_feed_here","_law_counts_here","_law_p","_law_claims_here","_law_count","_law_some"] Wy (ao lX):=%[|5]
def wI(F:#["_law_claims",lX])(aQ:#[1,"_law_take",WG,spTake]):#[2,f,fd,Wy,spClm64]:=by
 exists hR
 erw[f,c,cs,p,1,F0,hc,ncf,c10,cr,p0,p40,q]at h;refine⟨_,(ad #[aj,3,hR,cq ae]
  (ad (cx zE1 rfl (dU (pv 1)) (aX (i:=4) hR.nd rfl (.inl rfl)) (ad #[aj,5,hR,cq %[4,4,aq aW (pv 4) (pv 2),aD aQ hr ⋯ rfl %[0,2|ae],aD aQ hr ⋯ rfl %[0,ag|ae],aq aW (pv 4) ag|ae]]
   (ad (bb (eR zF1 zM1 zN1 cP (pv 5) %[aD aQ hr ⋯ rfl %[0,aq bj (aq DO ag ag) ag|ae]|ae]))
   (af (bb (eR zF1 zM1 zN1 cP (pv 3) %[aN ix_list (pv 5) (aD aQ hr ⋯ rfl %[0,ag|ae]) #[1]|ae]))))))
  (af (ax (pv 3))))),?_⟩
 let hp12:(10:Int) ^ (12:Int).toNat=1000000000000:=by decide
 erw[y0S,λD hD=>?_];let GD:=zE0 hD (.lst []);let ncD:c≠D:=aP hc hD;let nDf:=F0.ne hD;refine⟨_,rfl,c,rfl,%[_|zG0 (GD _ _ hc)],gN (K:=K) (xs:=cs.map V.int) (λi σ H'=>∃(x4 x5:Option V)(xs:List Int),σ=[some (.ref f),some (.ref c),some (.int p),some (.ref D),x4,x5]/\H' D=some (.lst (xs.map V.int))/\xs.length=i/\(∀x∈xs,0<=x/\x<2 ^ 60)/\FeedAt H' f/\SameBut f H H')
  %[_,_,[],1,ai,1,(λx hx=>by cases hx),F0.same GD|zL0 GD] (λi σ H' _ NI=>by erw[_,_,_,_,_,_,_,_,h]at NI;exact zG0 (h _ _ ncf hc)) ?_ ?_⟩
 . rintro i z σ H1 hz ⟨x4,x5,xs,rfl,hD1,xl,xr,F1,S1⟩;let hi:=(zX0 hz).1;rw[zF0]at hi;rw[zW0]at hz;let%[n,hn|1]:=qU0 hz;let nr:=cr n (qC0 hn);erw[0,0,0,0,2,0,0,f,p,1,F1,p0,3,λd1 H2 a0 a1 F2 S2=>?_];erw[0,f,(40),1,F2,4,4,λd2 H3 b0 b1 F3 S3=>?_];erw[0,2,y6S,λL hL=>?_];let GL:=zE0 hL (.lst ([n,n,n+p,d1,d2,n+1].map V.int));let nLf:=F3.ne hL;let hL4:upd H3 L (.lst ([n,n,n+p,d1,d2,n+1].map V.int)) L=some (.lst ([n,n,n+p,d1,d2,n+1].map V.int)):=ai;let F4:=F3.same GL;let hD3:=S3 _ _ nDf (S2 _ _ nDf hD1);let nDL:D≠L:=aP hD3 hL;let hD4:=GL _ _ hD3;let S4:SameBut f H (upd H3 L (.lst ([n,n,n+p,d1,d2,n+1].map V.int))):=(S1.trans (S2.trans S3)).trans (zL0 GL);let nL0:H L=none:=by
    cases e:H L with
    |none=>rfl
    |some o=>
      have:=S3 _ _ nLf (S2 _ _ nLf (S1 _ _ nLf e))
      rw[hL]at this;cases this
   erw[0,.inl %[1,_|zG0 hL4],0,2,%[4,4|4],2,f,0,F4,(by show(0:Int)<10 ^ (12:Int).toNat-1;rw[hp12];decide),(by show(10:Int) ^ (12:Int).toNat-1<2 ^ 63;rw[hp12];decide),λd3 H5 e0 e1 F5 S5=>?_];rw[hp12]at e1;let hL5:=S5 _ _ nLf hL4;let hD5:=S5 _ _ nDf hD4;erw[L,2,hL5,aO (show 6<=1000 by decide),6];let F6:=jb (o:=.lst ([n,n,n+p,d1,d2,n+1].map V.int++[.int d3])) F5 nLf;let hL6:upd H5 L (.lst ([n,n,n+p,d1,d2,n+1].map V.int++[.int d3])) L=some (.lst ([n,n,n+p,d1,d2,n+1,d3].map V.int)):=ai;let hD6:upd H5 L (.lst ([n,n,n+p,d1,d2,n+1].map V.int++[.int d3])) D=some (.lst (xs.map V.int)):=by rw[ay nDL];exact hD5
   let S6:SameBut f H (upd H5 L (.lst ([n,n,n+p,d1,d2,n+1].map V.int++[.int d3]))):=λb o hb e=>by
    rw[ay (aP e nL0)];exact S5 b o hb (S4 b o hb e)
   generalize upd H5 L (.lst ([n,n,n+p,d1,d2,n+1].map V.int++[.int d3]))=H6 at F6 hL6 hD6 S6;erw[0,.inl %[1,_|zG0 hD6],0,0,f,(7),1,F6,4,4,λd4 H7 g0 g1 F7 S7=>?_];let%[v,hv|vm]:=HR (ns:=[n,n,n+p,d1,d2,n+1,d3]) g0 g1;let vr:0<=v/\v<2 ^ 60:=by
    simp only[jG0,qV1,vG1]at vm;omega
   let hD7:=S7 _ _ nDf hD6;erw[L,_,2,zG0 (S7 _ _ nLf hL6),hv,D,2,hD7,6,6]
   . rw[zF0];exact aO #[0]
   erw[_,_,xs++[v],1,6,6,6,jb F7 nDf,λb o hb e=>?_]
   . rw[ai,zK0];rfl
   . rw[zJ0,qK0,xl]
   . intro x hx;rcases qP0 hx with h | h
     . exact xr x h
     . rw[NK h];exact vr
   . rw[ay (aP e hD)];exact S7 b o hb (S6 b o hb e)
 . rintro σ H1 ⟨x4,x5,xs,rfl,hD1,xl,xr,F1,S1⟩;rw[zF0]at xl;erw[0,q D xs H1 hD hD1 xl xr F1 S1]
def iR:FnScope ["_law_p","_law_many","_law_found","_law_k"] WQ (ao oK):=%[|5]
def yG(F:#["_law_power",oK])(B:Bl mg):#[1,f,fd,WQ,spPow]:=by
 exists iR
 erw[x,k,1,k0,k1,x0,x1,q]at h;refine⟨_,(ad #[aj,2,iR,ag]
  (ad (cx zE1 rfl (bJ rfl B.range %[1|ae]) (aX (i:=3) iR.nd rfl (.inl rfl)) (af #[aj,2,iR,aq cg (pv 2) (pv 0)]))
  (af (ax (pv 2))))),?_⟩
 erw[0,k,1,3,3,dH (n:=k.toNat) (λi σ H'=>∃x3:Option V,σ=[some (.int x),some (.int k),some (.int (x ^ i)),x3]/\H'=H) %[none,by rw[wY1];rfl|1] ?_ ?_]
 . rintro i σ H1 hi ⟨x3,rfl,rfl⟩;erw[0,0,2,.inr %[3|3],6];erw[some (.int (0+(i:Int))),6,1];rw[qN1];rfl
 . rintro σ H1 ⟨x3,rfl,rfl⟩;erw[0,q]
instance spDue:∀(sa sb o:Addr)(ns:List Str)(tv:List V)(ts:List Tr)(c:List Int)(p:Int),vs=[.ref sa,.ref sb,.int p,.ref o]->H sa=some (.tup (ns.map V.str))->ns.length<=6->H sb=some (.tup tv)->TreesAt H tv ts->1<=ts.length->ts.length<=10->(∀t∈ts,t.wf/\t.depth<=10/\t.size<=400)->H o=some (.lst (c.map V.int))->c.length=ts.length->0<p->p<1500->(∀x∈ns,-(2 ^ 40)<aY ts x/\aY ts x<p)->(∀(H':Hp),Same H H'->Q (.int (Cb p ns.length ts.length (cgt p (ns.map (aY ts))) c)) H'):=1
def d8:FnScope ["_law_switches","_law_trees","_law_p","_law_over","_law_rows","_law_caught","_law_name","_law_blind","_law_s","_law_total","_law_number"] Wz (ao uV):=%[|5]
def DX(F:#["_law_due",uV])(B:Bl mg)(gn:#[1,"_law_power",WQ,spPow])(cQ:#[12,"_law_names_of",WN,spNO 10]):#[13,f,fd,Wz,spDue]:=by
 exists d8
 erw[sa,sb,o,ns,tv,ts,c,p,1,hsa,nl,hsb,TS,t1,t10,tok,ho,cl,p0,p15,dr,q]at h;refine⟨_,(ad #[aj,4,d8,aD gn hr ⋯ rfl %[2,aJ aG rfl B.len zD1 %[0|ae]|ae]]
  (ad #[aj,5,d8,ag]
  (ad (cx zE1 rfl (fo (pv 0)) (aX (i:=6) d8.nd rfl (Or.inr rfl)) (af (aj (i:=5) d8.nd rfl (.inl rfl) (aq cg (pv 5) (aq bj (pv 2) (aJ (ph rfl) rfl B.max jB1 (aa (cH (N:=["_law_name"]) (ix:=[6]) rfl
   #[3] rfl
   (fo (pv 1)) (λ_ _ _=>cE (DK K zF1 wA0 wA1 (tT K) (aD cQ hr ⋯ rfl %[0|ae]) %[1|ae]))) ae)))))))
  (ad (aM (am aS (aJ aG rfl B.len zD1 %[1|ae]) ag (az _)) (af (ax (aN ix_list (cq %[aq bj (pv 4) (pv 5),4|ae]) (bc lA rfl B.int gA %[dy aS (aq ba (aN ix_list (pv 3) ag #[1]) (pv 2)) ag (az _)|ae]) #[1]))) aE)
  (ad #[aj,7,d8,ag]
  (ad (cx zE1 rfl (bJ rfl B.range %[2|ae]) (aX (i:=8) d8.nd rfl (.inl rfl)) (ad #[aj,9,d8,ag]
   (ad (cx zE1 rfl (GJ rfl B.reversed (pv 3)) (aX (i:=10) d8.nd rfl (.inl rfl)) (af #[aj,9,d8,aq aW (aq cg (pv 9) (pv 8)) (pv 10)]))
   (af #[aj,7,d8,aq aW (pv 7) (bc lA rfl B.int gA %[dy aS (aq ba (pv 9) (pv 2)) ag (az _)|ae])]))))
  (af (ax (aq aW (aq cg (pv 7) (pv 4)) (aq cg (aq bj (pv 2) (pv 7)) (aq bj (pv 4) (pv 5)))))))))))),?_⟩
 let vl:=TS.length;let en:(((ns.map V.str).length:Nat):Int).toNat=ns.length:=by rw[zF0];omega
 let t0:ts≠[]:=λz=>by rw[z]at t1;cases t1
 erw[0,0,sa,0,.inr (zC0 hsa),p,0,3,by rw[zF0];omega,p0,3,6];rw[en];refine⟨_,rfl,sa,rfl,⟨_,zC0 hsa⟩,qv (K:=K) (xs:=ns.map V.str) (λi σ H'=>∃x6 x7 x8 x9 x10:Option V,σ=[some (.ref sa),some (.ref sb),some (.int p),some (.ref o),some (.int (p ^ ns.length)),some (.int (cgt p ((ns.map (aY ts)).take i))),x6,x7,x8,x9,x10]/\Same H H')
  %[_,_,_,_,0|Same.refl _] (λi σ H' _ NI=>by erw[_,_,_,_,_,_,h]at NI;exact zC0 (h _ _ hsa)) ?_ ?_⟩
 . rintro i z σ H1 hz ⟨x6,x7,x8,x9,x10,rfl,S1⟩;rw[zW0]at hz;let%[x,hx|1]:=qU0 hz;let nr:=dr x (qC0 hx);let et:cgt p ((ns.map (aY ts)).take (i+1))=cgt p ((ns.map (aY ts)).take i)*(p-aY ts x):=by
    rw[zZ0,zW0,hx];exact Fw p _ _
   let hsb1:=S1 _ _ hsb;erw[0,0,0,sb,1,%[_|zC0 hsb1],λD hD=>?_];apply eV (K:=K) (xs:=tv) (λi H'=>H' D=some (.lst (((ts.take i).map λt=>(t.names.count x:Int)).map V.int))/\Same H1 H') %[by rw[ai];rfl|zE0 hD _] (λi H' _ h=>zC0 (h.2 _ _ hsb1)) ?_ ?_
   . rintro i z H2 hz ⟨hl,S2⟩;let%[t,ht|Tt]:=TS.get hz;let%[tw,td|tz]:=tok t (qC0 ht);let hi:i<tv.length:=(zX0 hz).1;erw[0,z,t,1,Tt.mono (aV (S1.trans S2)),tw,3,tz,λl H3 l0 S3 hl3=>?_];erw[.inl %[1,_|zG0 hl3],0,l,2,zG0 hl3,gu _,1,6];rw[mi];erw[_,S3 _ _ hl,6,Nx.of hi %[6|λb' o' e'=>?_]]
     . rw[zF0,zF0,qJ0];exact aO #[0]
     . rw[ai,zZ0,ht,zK0,zK0];rfl
     . rw[ay (aP e' hD)];exact S3 _ _ (S2 _ _ e')
   . rintro H2 ⟨hl,S2⟩;rw[vl,qA0]at hl;erw[D,0,zG0 hl,by simpa using t0,6];erw[2,2,.inr %[by show -(2 ^ 64)<p-aY ts x;omega|by show p-aY ts x<2 ^ 64;omega],6];erw[some (.str x),x7,x8,x9,x10,6,S1.trans S2];rw[et];rfl
 rintro σ H1 ⟨x6,x7,x8,x9,x10,rfl,S1⟩;rw[zF0,show(ns.map (aY ts)).take ns.length=ns.map (aY ts) by rw[←zF0 (f:=aY ts) (as:=ns),qA0]];let ho1:=S1 _ _ ho;let qq:=q;erw[0,sb,0,.inr (zC0 (S1 _ _ hsb)),1,0,6];generalize cgt p (ns.map (aY ts))=gg at qq
 by_cases e1:V.int (tv.length:Int)=V.int 1
 . apply bd e1 ?_;let c':ts.length=1:=by have:=V.int.inj e1;omega
   obtain⟨a,rfl⟩:∃a,c=[a]:=List.length_eq_one_iff.mp (cl.trans c')
   erw[0,0,2,0,y2S,λL hL=>?_];let GL:=zE0 hL (.lst [.int (p ^ ns.length-gg),.int (p ^ ns.length)]);let q2:=qq _ (S1.trans GL);unfold Cb at q2;rw[NE c']at q2;erw[0,o,_,(0),.int a,1,1,zG0 (GL _ _ ho1),1,0,2,p0,1,.inr %[0|6]]
   by_cases h:a % p=0
   . erw[L,_,(1),.int (p ^ ns.length),1,6,zG0 ai,1,6]
     . show V.int (if decide (V.int (a % p)=V.int 0)=true then 1 else 0)=V.int 1;rw[zC1 (congrArg V.int h),NE rfl]
     . rw[show([a]:List Int).headD 0=a from rfl,NE h]at q2;exact q2
   . erw[L,_,(0),.int (p ^ ns.length-gg),1,6,zG0 ai,1,6]
     . show V.int (if decide (V.int (a % p)=V.int 0)=true then 1 else 0)=V.int 0;rw[zB1 (λz=>h (V.int.inj z)),ND qI0]
     . rw[show([a]:List Int).headD 0=a from rfl,ND h]at q2;exact q2
 . apply aF e1 ?_;let c':¬ ts.length=1:=λz=>e1 (by rw[vl,z];rfl)
   let q2:=qq H1 S1;unfold Cb at q2;rw[ND c']at q2;refine⟨_,rfl,p,rfl,#[0],#[0],dH (n:=p.toNat) (λi σ H'=>∃x6 x8 x9 x10:Option V,σ=[some (.ref sa),some (.ref sb),some (.int p),some (.ref o),some (.int (p ^ ns.length)),some (.int gg),x6,some (.int ((fnd (λs=>decide (evl (s:Int) c % p=0)) i).length:Int)),x8,x9,x10]/\H'=H1)
    %[_,_|2] ?_ ?_⟩
   . rintro i σ H2 hi ⟨y6,y8,y9,y10,rfl,rfl⟩;refine⟨_,rfl,o,_,rfl,zG0 ho1,xg (K:=K) (xs:=c.map V.int) (λj σ H'=>∃(x10:Option V)(t:Int),σ=[some (.ref sa),some (.ref sb),some (.int p),some (.ref o),some (.int (p ^ ns.length)),some (.int gg),y6,some (.int ((fnd (λs=>decide (evl (s:Int) c % p=0)) i).length:Int)),some (.int (0+(i:Int))),some (.int t),x10]/\t=evl (i:Int) (c.drop (c.length-j))/\H'=H2)
      %[_,(0),1,by rw[wF1,List.drop_length];rfl|1] (λj σ H' _ NI=>by erw[_,_,_,_,h]at NI;subst h;exact zG0 ho1) ?_ ?_⟩
     . rintro j z σ H3 hj hz ⟨z10,t,rfl,rfl,rfl⟩;rw[zF0]at hj;rw[←List.map_reverse,zW0]at hz;let%[x,hx|1]:=qU0 hz;rw[jM1 hj]at hx;erw[0,0,2,.inr %[3|3],0,2,6];erw[_,0,6,1];let hk:c.length-1-j<c.length:=#[0]
       let ed:c.drop (c.length-(j+1))=x::c.drop (c.length-j):=by
        let e1:c.length-(j+1)=c.length-1-j:=#[0]
        let e2:c.length-j=c.length-1-j+1:=#[0]
        rw[e1,e2,qQ1 hk]
        congr 1
        rw[zM0 hk]at hx;exact zT0 hx
       rw[ed,xu,qX1,qX0,vL1]
     . rintro σ H3 ⟨z10,t,rfl,rfl,rfl⟩;rw[zF0,wZ0,jI0];erw[0,0,0,2,p0,1,.inr %[0,2|6]];erw[y6,some (.int (0+(i:Int))),some (.int (evl (i:Int) c)),z10,6,1];let e2:((fnd (λs=>decide (evl (s:Int) c % p=0)) (i+1)).length:Int)=((fnd (λs=>decide (evl (s:Int) c % p=0)) i).length:Int)+(if decide (V.int (evl (i:Int) c % p)=V.int 0)=true then 1 else 0):=by
        by_cases h:evl (i:Int) c % p=0
        . rw[zC1 (congrArg V.int h),NE rfl,xh,NE (zC1 h),zJ0,qK0];omega
        . rw[zB1 (λz=>h (V.int.inj z)),ND qI0,xh,ND (by rw[zB1 h];exact qI0),qR1];omega
       rw[e2];rfl
   . rintro σ H2 ⟨y6,y8,y9,y10,rfl,rfl⟩;let bl:=HE (λs=>decide (evl (s:Int) c % p=0)) p.toNat;erw[0,0,2,.inl %[3|3],0,0,2,0,0,2,2,.inl %[3|3],2,6];exact q2
def pr_5:Pr 5:=zU ⋯
instance spLeast:∀(a b:Addr)(ns:List Str)(tv:List V)(ts:List Tr),vs=[.ref a,.ref b]->H a=some (.lst (ns.map V.str))->H b=some (.lst tv)->TreesAt H tv ts->ts.length<=10->(∀t∈ts,t.wf/\t.depth<=10/\t.size<=400)->(∀(p:Int)(H':Hp),Same H H'->Pr p->2<p->p<=999983->(ns=[]->ts.length<=4->p<=5)->(ts.length:Int)<=p->(∀t∈ts,∀x∈ns,(t.names.count x:Int)<p)->Q (.int p) H'):=1
def mN:FnScope ["_law_names_here","_law_trees","_law_number"] WV (ao oM):=%[|5]
def yI(F:#["_law_least",oM])(A3:#[13,"_law_need",WV,spNeed])(i8:#[1,"_law_is_prime",["_law_number"],spPrimeB]):#[14,f,fd,WV,spLeast]:=by
 exists mN
 erw[a,b,ns,tv,ts,1,ha,hb,TS,tl,tok,q]at h;refine⟨_,(ad #[aj,2,mN,aq aW (aD A3 hr ⋯ rfl %[0,1|ae]) ag]
  (ad (iw zE1 (jJ (fk (aD i8 hr ⋯ rfl %[2|ae]))) (af #[aj,2,mN,aq aW (pv 2) ag]))
  (af (ax (pv 2))))),?_⟩
 erw[0,0,a,b,ns,tv,ts,1,ha,hb,TS,tl,tok,λm H1 S1 m2 m4 me mt mc=>?_];erw[2,6];erw[λmm σ H'=>∃n:Int,σ=[some (.ref a),some (.ref b),some (.int n)]/\H'=H1/\m<n/\n<=999983/\(m<=3->n<=5)/\mm=(999983-n).toNat,%[_,m+1,1,1,3,3,3|1],6];rintro mm σ H' ⟨n,rfl,rfl,n0,n1,n5,rfl⟩;erw[0,n,1,λb hb=>%[b,1|6]];cases b with
 |true=>
   apply dG ?_;erw[0,q n _ S1 (hb.mp rfl) #[0] n1 (λe f=>n5 (me e f)) #[0] λt ht x hx=>by have:=mc t ht x hx;omega]
 |false=>
   apply eU ?_;erw[_,λ_ _ h=>h,6];let ne:n≠999983:=λz=>by
    subst z;exact nomatch hb.mpr Bh
   let ne5:n≠5:=λz=>by
    subst z;exact nomatch hb.mpr pr_5
   erw[0,2,6];erw[_,3,n+1,1,1,3,3,3,1]
def Tr.without(x:Str):Tr->Tr
 |.is y=>if y=x then .yes else .is y
 |.yes=>.yes
 |.no=>.no
 |.not a=>.not (a.without x)
 |.bin w a b=>.bin w (a.without x) (b.without x)
def qk(x:Str):∀t:Tr,(t.without x).size=t.size
 |.is y=>by unfold Tr.without;split <;> rfl
 |.yes=>rfl
 |.no=>rfl
 |.not a=>by show(a.without x).size+1=a.size+1;rw[qk x a]
 |.bin w a b=>by show(a.without x).size+(b.without x).size+1=_;rw[qk x a,qk x b];rfl
def mq(x:Str):∀t:Tr,(t.without x).depth=t.depth
 |.is y=>by unfold Tr.without;split <;> rfl
 |.yes=>rfl
 |.no=>rfl
 |.not a=>by show(a.without x).depth+1=a.depth+1;rw[mq x a]
 |.bin w a b=>by show max (a.without x).depth (b.without x).depth+1=_;rw[mq x a,mq x b];rfl
def zF{ns:List Str}{x:Str}:∀t:Tr,t.ok (ns++[x])->(t.without x).ok ns
 |.is y,h=>by
   unfold Tr.without
   split
   . trivial
   . rename_i c;let h:y∈ns++[x]:=h;rcases qP0 h with h | h
     . exact h
     . exact absurd (NK h) c
 |.yes,_=>trivial
 |.no,_=>trivial
 |.not a,h=>zF a h
 |.bin w a b,⟨h1,h2,h3⟩=>%[h1,zF a h2|zF b h3]
def vK(o:Str):inV (.str o) [.str "is",.str "yes",.str "no"]=(decide (o="is")||(decide (o="yes")||decide (o="no"))):=by
 show (("is"==o)||(("yes"==o)||(("no"==o)||false)))=_;rw[vE1];let e:∀z:Str,(z==o)=decide (o=z):=λz=>by
  by_cases c:o=z
  . subst c;simp
  . rw[zB1 c];simpa using λh=>c h.symm
 rw[e,e,e]
def Hz{o:Str}(h:o∈oz):inV (.str o) [.str "is",.str "yes",.str "no"]=false:=by
 rw[vK,zB1,zB1,zB1]
 . rfl
 . intro z;subst z;revert h;decide
 . intro z;subst z;revert h;decide
 . intro z;subst z;revert h;decide
def isD(x:Str):Tr->Bool
 |.is y=>decide (y=x)
 |_=>false
def JI(t:Tr)(x:Str)(w:t.wf):PyData.eqv t.data (.tuple [.str "is",.str x])=isD x t:=by
 cases t with
 |is y=>
   simp only[Tr.data,PyData.eqv,PyData.eqvAll,isD,Bool.and_true]
   by_cases c:y=x
   . subst c;simp
   . simp [c]
 |yes=>simp [Tr.data,PyData.eqv,PyData.eqvAll,isD]
 |no=>simp [Tr.data,PyData.eqv,PyData.eqvAll,isD]
 |not a=>
   have:(("not":Str)=="is")=false:=by decide
   simp only[Tr.data,PyData.eqv,PyData.eqvAll,isD,this,Bool.false_and]
 |bin o a b=>simp [Tr.data,PyData.eqv,PyData.eqvAll,isD]
def pC{t:Tr}(w:t.wf)(d:t.depth<=20):SeqAt.shaped t.data=true:=by
 let h:=qy t w;simp only[SeqAt.shaped,h.1,Bool.true_and];exact zC1 #[0]
def yd(h:pq x):SeqAt.shaped (.tuple [.str "is",.str x])=true:=pC (t:=.is x) h (by show 1<=20;decide)
instance spWo(n:Nat):∀(v:V)(t:Tr)(x:Str),vs=[v,.str x]->TreeAt H v t->t.wf->pq x->t.depth<=n->t.depth<=10->(∀(v':V)(H':Hp),Same H H'->TreeAt H' v' (t.without x)->Q v' H'):=1
def uG:FnScope WR WR (ao iF):=%[|5]
def FQ{H:Hp}{a:Addr}{o:Str}{t:Tr}{us:List V}(h:∃xs,t.parts.length=xs/\1<=xs)(nt:(∃r,t=.not r/\o="not")∨∃r r2,t=.bin o r r2)(ha:H a=some (.tup (.str o::us)))(TS:TreesAt H us (t.parts.map (Tr.without x))):TreeAt H (.ref a) (t.without x):=by
 rcases nt with⟨r,rfl,rfl⟩ | ⟨r,r2,rfl⟩
 . cases TS with
   |cons g r=>cases r;exact .not ha g
 . cases TS with
   | cons g r=>cases r with
     |cons g2 r=>cases r;exact .bin ha g g2
def FP{n:Nat}(F:#["_law_without",iF])(B:Bl mg)(fY:#[n+2,"_law_without",WR,spWo n]):#[n+3,f,fd,WR,spWo (n+1)]:=by
 exists uG
 erw[v,t,x,1,T,wf,nx,dn,d10,q]at h;refine⟨_,(ad (aM (am (rN hr.units) (pv 0) (aU %[aI,1|ae]) (az _)) (af (ax (aU %[aI|ae]))) aE)
  (ad (aM (am fe (aN ix_tup (pv 0) ag #[1]) (aU %[aI,aI,aI|ae]) (by rfl')) (af (ax (pv 0))) aE)
  (af (ax (aq op_catT (aU %[aN ix_tup (pv 0) ag #[1]|ae]) (bc bi rfl B.tuple bt (aa (cH (N:=["_law_name"]) (ix:=[1]) rfl
   #[3] rfl
   (fo (eQ oB (pv 0) (eY ag) iG)) (λ_ _ _=>cE (aD fY hr (zH0 _) rfl %[0,1|ae]))) ae))))))),?_⟩
 erw[0,0,y2S,λc hc=>?_];let I1:=zE0 hc (.tup [.str "is",.str x]);let g1:upd H c (.tup [.str "is",.str x]) c=some (.tup [.str "is",.str x]):=ai;generalize upd H c (.tup [.str "is",.str x])=H1 at I1 g1;let T1:=T.mono (aV I1);erw[t.data,.tuple [.str "is",.str x],Du T1,.tup (zC0 g1) (.cons (.str _) (.cons (.str _) .nil)),pC wf #[0],yd nx,0,6];rw[JI t x wf];let cs:t=.is x∨(∃(a:Addr) (o:Str) (us:List V),v=.ref a/\H1 a=some (.tup (.str o::us))/\inV (.str o) [.str "is",.str "yes",.str "no"]=true/\t.without x=t/\isD x t=false)∨(∃(a:Addr) (o:Str) (us:List V),v=.ref a/\H1 a=some (.tup (.str o::us))/\o∈oz/\us.length<=2/\us≠[]/\TreesAt H1 us t.parts/\((∃r,t=.not r/\o="not")∨∃r r2,t=.bin o r r2)/\isD x t=false):=by
  cases id T1 with
  | @is a y e=>
    by_cases c:y=x
    . exact .inl (by rw[c])
    . exact .inr (.inl %[a,"is",0,e,by rw[vK];decide,ND c|zB1 c])
  | @yes a e=>exact .inr (.inl %[a,"yes",0,e,by rw[vK];decide,1|1])
  | @no a e=>exact .inr (.inl %[a,"no",0,e,by rw[vK];decide,1|1])
  | @not a u r e g=>exact .inr (.inr %[a,"not",[u],1,e,4,(by show 1<=2;decide),by simp,.cons g .nil,.inl %[r,1|1]|1])
  | @bin a o u u2 r r2 e g g2=>exact .inr (.inr %[a,o,[u,u2],1,e,pR wf.1,(by show 2<=2;decide),by simp,.cons g (.cons g2 .nil),.inr %[r,r2|1]|1])
 rcases cs with rfl | ⟨a,o,us,rfl,e2,e3,e4,eD⟩ | ⟨a,o,us,rfl,e2,om,ul,u0,TS0,nt,eD⟩
 . rw[show isD x (.is x)=true from zC1 rfl];apply eU %[y1S|λz hz=>q (.ref z) _ (I1.trans (zE0 hz _)) ?_];rw[show(Tr.is x).without x=.yes from NE rfl];exact .yes ai
 . rw [eD];apply dG ?_;erw[0,a,_,(0),.str o,1,1,zC0 e2,at0 ..,y3S,λc2 hc2=>?_];let I2:=zE0 hc2 (.tup [.str "is",.str "yes",.str "no"]);erw[c2,0,.inr (zC0 ai),1,1,0,6];show if inV (.str o) [.str "is",.str "yes",.str "no"]=true then _ else _
   rw[e3];apply eU %[0|q _ _ (I1.trans I2) ?_];rw[e4];exact T1.mono (aV I2)
 . rw [eD];apply dG ?_;erw[0,a,_,(0),.str o,1,1,zC0 e2,at0 ..,y3S,λc2 hc2=>?_];let I2:=zE0 hc2 (.tup [.str "is",.str "yes",.str "no"]);erw[c2,0,.inr (zC0 ai),1,1,0,6];show if inV (.str o) [.str "is",.str "yes",.str "no"]=true then _ else _
   rw[Hz om];apply dG ?_;generalize upd H1 c2 (.tup [.str "is",.str "yes",.str "no"])=H2 at I2;erw[0,a,_,(0),.str o,1,1,zC0 (I2 _ _ e2),at0 ..,y1S,λc3 hc3=>?_];let I3:=zE0 hc3 (.tup [.str o]);let g3:upd H2 c3 (.tup [.str o]) c3=some (.tup [.str o]):=ai;generalize upd H2 c3 (.tup [.str o])=H3 at I3 g3;let I13:=I2.trans I3;let%[w1|w2]:=HH (.str o) us ul;erw[0,(1),1,a,0,zC0 (I13 _ _ e2),w2,λc4 hc4=>?_];rw[w1];let I4:=zE0 hc4 (.tup us);let g4:upd H3 c4 (.tup us) c4=some (.tup us):=ai;generalize upd H3 c4 (.tup us)=H4 at I4 g4;let I14:=I13.trans I4;let TS:=TS0.mono (aV I14);let xl:=TS.length;erw[c4,1,%[_|zC0 g4],λD hD=>?_];apply eV (K:=K) (xs:=us) (λi H'=>∃vs:List V,H' D=some (.lst vs)/\vs.length=i/\TreesAt H' vs ((t.parts.take i).map (Tr.without x))/\Same H4 H') %[[],by rw[ai],1,.nil|zE0 hD _] (λi H' _ NI=>by erw[_,_,_,_,h]at NI;exact zC0 (h _ _ g4)) ?_ ?_
   . rintro i z H5 hz ⟨vs,hl,vl,TV,S5⟩;let%[u,hu'|Tu]:=TS.get hz;let um:=qC0 hu';let%[uw,ud|us']:=Tr.parts_mem um wf;let hi:i<us.length:=(zX0 hz).1;erw[0,0,z,u,x,1,Tu.mono (aV S5),uw,nx,3,3,λv' H6 S6 T6=>?_];let hl6:=S6 _ _ hl;let k7:=dP (H:=H6) (b:=D) (ys:=vs) (zs:=vs++[v']) hl6;erw[_,hl6,aO #[0],Nx.of hi ⟨vs++[v'],ai,by rw[zJ0,vl];rfl,?_,λb' o' e'=>?_⟩]
     . rw[zZ0,hu',zK0];exact((TV.mono (aV S6)).mono k7).append (.cons (T6.mono k7) .nil)
     . rw[ay (aP e' hD)];exact S6 _ _ (S5 _ _ e')
   . rintro H5 ⟨vs,hl,vl,TV,S5⟩;rw[xl,qA0]at TV;erw[D,0,.inl %[zG0 hl|λc6 hc6=>?_]];let I6:=zE0 hc6 (.tup vs);let g6:upd H5 c6 (.tup vs) c6=some (.tup vs):=ai;generalize upd H5 c6 (.tup vs)=H6 at I6 g6;let v0:vs≠[]:=λz=>by
      rw[z]at vl;exact u0 (List.eq_nil_of_length_eq_zero vl.symm)
     let S36:Same H3 H6:=I4.trans (S5.trans I6);erw[c3,c6,2,zC0 (S36 _ _ g3),zC0 g6,by simp,small (by show 1+vs.length<=1000;omega),λz=>absurd z v0,λ_ t7 ht7=>?_];let I7:=zE0 ht7 (.tup ([.str o]++vs));apply q (.ref t7) _ (I1.trans (I13.trans (I4.trans (S5.trans (I6.trans I7))))) ?_;exact FQ ⟨_,rfl,by rw[←xl];cases us with | nil=>exact absurd rfl u0 | cons _ _=>exact zG1 (zU0 _)⟩ nt (by rw[ai];rfl) ((TV.mono (aV I6)).mono (aV I7))
def FO:#[2,f,fd,WR,spWo 0]:=by
 let no:∀vs H Q E,¬ spWo 0 vs H Q E:=λvs H Q E h=>by
  erw[v,t,x,_,_,_,_,h1,_]at h
  have:=t.depth_pos
  omega
 exists 3
def nO(F:#["_law_without",iF])(m:mg "_law_without"=some (.ref f))(B:Bl mg):
 ∀n:Nat,#[n+2,f,fd,WR,spWo n]
 |0=>FO
 |n+1=>FP F B (Cal.of F (nO F m B n) m (λ_ _ _ _ _ _ us hl=>by let%[u0,u1|1]:=Hw hl;rfl))
structure SmallG(ns:List Str)(ts:List Tr)(p:Int):Prop where
 nl:ns.length<=5
 nok:∀x∈ns,pq x
 nd:ns.Nodup
 t1:1<=ts.length
 t4:ts.length<=4
 tok:∀t∈ts,t.ok ns/\t.depth<=9/\t.size<=8
 pp:Pr p
 p2:2<p
 p9:p<=999983
 p5:ns=[]->p<=5
 tp:(ts.length:Int)<=p
 tc:∀t∈ts,∀x∈ns,(t.names.count x:Int)<p
def SmallG.ne(h:SmallG ns ts p)(hp:¬ p ^ bN ns ts<=81):ns≠[]:=λz=>by
 let p5:=h.p5 z;let p2:=h.p2;apply hp ?_
 have:bN ns ts=0∨bN ns ts=1:=by
  unfold bN;rw[z]
  split
  . exact .inl rfl
  . exact .inr rfl
 rcases this with e | e <;> rw[e]
 . show p ^ 0<=81;rw[wY1];decide
 . rw[qN1,wY1];omega
instance spSmall:∀(f:Addr),vs=[.ref f,.int 81,.int 6]->FeedAt H f->(∀(g a b:Addr)(ns:List Str)(tv:List V)(ts:List Tr)(p:Int)(H':Hp),H' g=some (.tup [.ref a,.ref b,.int p])->H' a=some (.tup (ns.map V.str))->H' b=some (.tup tv)->TreesAt H' tv ts->SmallG ns ts p->p ^ bN ns ts<=81->FeedAt H' f->SameBut f H H'->Q (.ref g) H'):=1
def eA:FnScope ["_law_feed_here","_law_most","_law_room","_law_names_here","_law_trees","_law_p","_law_turn"] W9 (ao oJ):=%[|5]
def SmallG.wf{ns:List Str}{ts:List Tr}(nok:∀x∈ns,pq x)(tok:∀t∈ts,t.ok ns/\t.depth<=9/\t.size<=8):∀t∈ts,t.wf/\t.depth<=10/\t.size<=400:=λt ht=>%[Tr.ok_wf nok t (tok t ht).1,by have:=(tok t ht).2.1;omega|by have:=(tok t ht).2.2;omega]
def IG{ns:List Str}{x:Str}{ts:List Tr}(tok:∀t∈ts,t.ok (ns++[x])/\t.depth<=9/\t.size<=8):∀t∈ts.map (Tr.without x),t.ok ns/\t.depth<=9/\t.size<=8:=λt ht=>by
 let%[u,hu|1]:=List.mem_map.mp ht;let%[h1,h2|h3]:=tok u hu;erw[zF u h1,by rw[mq];exact h2,by rw[qk];exact h3]
def Fq(xs:List V)(a:V):jf (xs++[a]) none (some (-1))=xs:=by
 simp only[jf,HT.sIx,zJ0,zP0,zH1];let e:(-1+(((xs.length+(0+1):Nat)):Int)).toNat=xs.length:=#[0]
 simp
 let e2:(-1+((xs.length:Int)+1)).toNat=xs.length:=#[0]
 rw[e2]
 simp
def HP(xs:List V)(a:V):atI (xs++[a]) (-1)=some a:=by
 unfold atI ixN;rw[zJ0,qK0];let e2:(-1+(((xs.length+1:Nat)):Int)).toNat=xs.length:=#[0]
 rw[ND ⋯,NE #[0],e2];show(xs++[a])[xs.length]?=some a
 simp
def yF(F:#["_law_small",oJ])(B:Bl mg)(aQ:#[1,"_law_take",WG,spTake])(o9:#[2,"_law_names",WG,spNamesN])
 (f6:#[12,"_law_tree",WT,spTree 10])(jp:#[14,"_law_least",WV,spLeast])(gn:#[1,"_law_power",WQ,spPow])(fY:#[12,"_law_without",WR,spWo 10]):#[15,f,fd,W9,spSmall]:=by
 exists eA
 erw[f,1,hF,q]at h;refine⟨_,(ad (aj (i:=3) eA.nd rfl (Or.inr rfl) (aD o9 hr ⋯ rfl %[0,aD aQ hr ⋯ rfl %[0,ag|ae]|ae]))
  (ad (nn (i:=4) (N:=["_law_room","_law_names_here","_law_feed_here"]) (ix:=[2,3,0]) eA.nd rfl (.inl rfl) rfl
   (CompScope.three (by rfl') ⋯ rfl ⋯ rfl ⋯ rfl (by rfl') (by rfl') (by rfl') (by rfl') (by rfl') rfl rfl (by rfl') rfl rfl (by rfl') rfl rfl) rfl
   (bJ rfl B.range %[aN ix_list (cq %[ag,ag,ag,ag,ag|ae]) (aD aQ hr ⋯ rfl %[0,ag|ae]) #[1]|ae])
   (λ_ _ _=>cE (aD f6 hr ⋯ rfl %[3,2,aq aW ag (aD aQ hr ⋯ rfl %[3,1|ae]),ag|ae])))
  (ad #[aj,5,eA,aD jp hr ⋯ rfl %[3,4|ae]]
  (ad (cx zE1 rfl (bJ rfl B.range %[ag|ae]) (aX (i:=6) eA.nd rfl (.inl rfl)) (af (aM (am iz (aD gn hr ⋯ rfl %[5,aq aW (aJ aG rfl B.len zD1 %[3|ae]) (bc lA rfl B.int gA %[dy iz (aJ aG rfl B.len zD1 %[4|ae]) ag (az _)|ae])|ae]) (pv 1) (az _)) (ad (nn (i:=4) (N:=["_law_names_here"]) (ix:=[3]) eA.nd rfl (.inl rfl) rfl
   #[3] rfl
   (dU (pv 4)) (λ_ _ _=>cE (aD fY hr ⋯ rfl %[0,aN (xa K) (pv 1) (tO oA ag) #[1]|ae])))
   (ad (aj (i:=3) eA.nd rfl (Or.inr rfl) (eQ Gq (pv 3) iG (eY (tO oA ag))))
   (af #[aj,5,eA,aD jp hr ⋯ rfl %[3,4|ae]]))) aE)))
  (af (ax (aU %[bc bi rfl B.tuple bt %[3|ae],bc bi rfl B.tuple bt %[4|ae],5|ae]))))))),?_⟩
 erw[0,0,f,(6),1,hF,4,4,λmk H1 k0 k7 F1 S1=>?_];erw[f,mk,1,F1,k0,3,λnl ns H2 nl0 nlf hnl nsl nok nnd F2 S2=>?_];let S02:=S1.trans S2;let nl6:ns.length<=5:=by have:mk<6:=k7;omega
 erw[y5S,λl hl=>?_];let lf:=F2.ne hl;let G2:=zE0 hl (.lst [.int 1,.int 1,.int 2,.int 3,.int 4]);erw[0,f,(5),1,F2.same G2,4,4,λj H3 j0 j6 F3 S3=>?_];let hl3:=S3 l _ lf ai;let%[x,hx|xm]:=uv (l:=[V.int 1,V.int 1,V.int 2,V.int 3,V.int 4]) (i:=j) j0 (by show j<5;omega);obtain⟨z,rfl,z0,z4⟩:∃z:Int,x=.int z/\1<=z/\z<=4:=by
  simp only[jG0,qV1,vG1]at xm;rcases xm with h | h | h | h | h <;> erw[_,h,4,4]
 erw[l,_,2,zG0 hl3,hx,6];let S23:SameBut f H2 H3:=(zL0 G2).trans S3;let hnl3:=S23 nl _ nlf hnl;let S03:=S02.trans S23;erw[z,1,3,3,λD hD=>?_];let Df:=F3.ne hD;let nD:nl≠D:=aP hnl3 hD;let GD:=zE0 hD (.lst []);apply dO (λi H'=>∃(tv:List V)(ts:List Tr),H' D=some (.lst tv)/\TreesAt H' tv ts/\ts.length=i/\(∀t∈ts,t.ok ns/\t.depth<=9/\t.size<=8)/\FeedAt H' f/\SameBut f H3 H') %[[],[],ai,.nil,1,(λt ht=>by cases ht),F3.same GD|zL0 GD] ?_ ?_
 . rintro i H4 hi ⟨tv,ts,hD4,TS,tl,tok,F4,S4⟩;let hi':i<z.toNat:=hi;let hnl4:=S4 nl _ nlf hnl3;erw[0,0,0,0,f,(6),1,F4,4,4,λe H5 e0 e1 F5 S5=>?_];let hnl5:=S5 nl _ nlf hnl4;let e8:e<8:=#[0]
   erw[2,f,nl,_,_,ns,1,F5,.inl hnl5,3,3,3,4,4,λv t H6 F6 S6 T6 ok6 sz6 dp6=>?_];let S46:=S5.trans S6;let hD6:=S46 D _ Df hD4;let k46:=jN F4 S46;let vl:=TS.length;erw[_,hD6,aO #[0],Nx.of hi ⟨tv++[v],ts++[t],ai,?_,?_,?_,jb F6 Df,?_⟩]
   . let k:=dP (H:=H6) (b:=D) (ys:=tv) (zs:=tv++[v]) hD6;exact((TS.mono k46).mono k).append (.cons (T6.mono k) .nil)
   . rw[zJ0,qK0,tl]
   . intro u hu;rcases qP0 hu with h | h
     . exact tok u h
     . rw[NK h];let d9:(t.depth:Int)<=9:=dp6;let s9:(t.size:Int)<=1+e:=sz6;erw[ok6,3,3]
   . intro b o hb eb;rw[ay (aP eb hD)];exact S46 b o hb (S4 b o hb eb)
 rintro H4 ⟨tv,ts,hD4,TS,tl,tok,F4,S4⟩;let hnl4:=S4 nl _ nlf hnl3;let tl':ts.length=z.toNat:=tl;let tl1:1<=ts.length:=#[0]
 let tl4:ts.length<=4:=#[0]
 let S04:=S03.trans S4;erw[0,0,nl,D,ns,tv,ts,1,hnl4,hD4,TS,3,SmallG.wf nok tok,λp H5 S5 pp p2 p9 p5 tp tc=>?_];let SG:SmallG ns ts p:=%[nl6,nok,nnd,tl1,tl4,tok,pp,p2,p9,λe=>p5 e tl4,tp|tc]
 let hnl5:=S5 _ _ hnl4;let hD5:=S5 _ _ hD4;let TS5:=TS.mono (aV S5);let S05:=S04.trans (zL0 S5);let F5:=F4.same S5;clear hnl4 hD4 TS S04 S03 S02 S4 hnl3 hl3 F4 F3 F2 F1 S1 S2 S3 S23 G2 GD tok tl tl' tl1 tl4 p5 tp tc pp p2 p9 hnl nsl nok nnd nl6 xm hx;refine⟨6,rfl,by decide,by decide,dH (n:=6) (λi σ H'=>∃(na ta:Addr)(ns:List Str)(tv:List V)(ts:List Tr)(p:Int)(x6:Option V),σ=[some (.ref f),some (.int 81),some (.int 6),some (.ref na),some (.ref ta),some (.int p),x6]/\H' na=some (.lst (ns.map V.str))/\H' ta=some (.lst tv)/\TreesAt H' tv ts/\SmallG ns ts p/\(ns.length+i<=5∨p ^ bN ns ts<=81)/\Same H5 H')
  %[nl,D,ns,tv,ts,p,0,hnl5,hD5,TS5,SG,.inl SG.nl|Same.refl _] ?_ ?_⟩
 . clear hnl5 hD5 TS5 SG;rintro i σ H6 hi ⟨na,ta,ns,tv,ts,p,x6,rfl,hna,hta,TS,SG,dj,S6⟩;let p2:=SG.p2;let p9:=SG.p9;let t1:=SG.t1;let n5:=SG.nl;let vl:=TS.length;let ec:((ns.map V.str).length:Int)+(if((tv.length:Int)>1)then 1 else 0)=(bN ns ts:Int):=by
    rw[zF0,vl];unfold bN
    split <;> split <;> omega
   erw[0,0,na,0,.inl (zG0 hna),0,ta,0,.inl (zG0 hta),2,.inr %[0|6]];erw[2,p,(bN ns ts:Int),6,3,by have:=jg (ts:=ts) (show ns.length<=6 by omega);omega,3,3,6]
   . rw [←ec]
     by_cases c1:(tv.length:Int)>1
     . rw[NE c1,show decide ((tv.length:Int)>1)=true from zC1 c1];rfl
     . rw[ND c1,show decide ((tv.length:Int)>1)=false from zB1 c1];rfl
   rw[qS0];erw[0,2,0,6]
   by_cases c1:p ^ bN ns ts<=81
   . apply aF #[0] ?_;erw[na,ta,ns,tv,ts,p,0,hna,hta,TS,SG,.inr c1,S6]
   apply bd #[0] ?_;let nz:=SG.ne c1;let dl:ns.length+i<=5:=dj.elim id λh=>absurd h c1
   obtain⟨ns',x,rfl⟩:∃ns' x,ns=ns'++[x]:=%[ns.dropLast,ns.getLast nz|(List.dropLast_concat_getLast nz).symm]
   let nok':∀y∈ns',pq y:=λy hy=>SG.nok y (wJ1 _ hy)
   let nx:pq x:=SG.nok x (qV0 _ (List.mem_singleton.mpr rfl));let wfs:=SmallG.wf SG.nok SG.tok;erw[0,ta,1,%[_|zG0 hta],λD hD=>?_];apply ig (K:=K) (xs:=tv) (λu H'=>∃vs:List V,H' D=some (.lst vs)/\TreesAt H' vs ((ts.take u).map (Tr.without x))/\vs.length=u/\Same H6 H') %[[],ai,.nil,1|zE0 hD _] (λu H' _ NI=>by erw[_,_,_,_,h]at NI;exact zG0 (h _ _ hta)) ?_ ?_
   . rintro u y H7 hy ⟨vs,hD7,TV,vl7,S7⟩;let%[t,ht|Tt]:=TS.get hy;let tm:=qC0 ht;let%[tw,td|_]:=wfs t tm;let hu:u<tv.length:=(zX0 hy).1;erw[0,0,(1),1,na,_,(-1),0,1,zG0 (S7 _ _ hna),6,y,t,x,1,Tt.mono (aV S7),tw,nx,td,td,λv' H8 S8 T8=>?_]
     . rw[zK0];exact HP _ _
     let hD8:=S8 _ _ hD7;let k9:=dP (H:=H8) (b:=D) (ys:=vs) (zs:=vs++[v']) hD8;let t4:=SG.t4;erw[_,hD8,aO #[0],Nx.of hu ⟨vs++[v'],ai,?_,by rw[zJ0,vl7];rfl,λb' o' e'=>?_⟩]
     . rw[zZ0,ht,zK0];exact((TV.mono (aV S8)).mono k9).append (.cons (T8.mono k9) .nil)
     . rw[ay (aP e' hD)];exact S8 _ _ (S7 _ _ e')
   rintro H7 ⟨vs,hD7,TV,vl7,S7⟩;rw[vl,qA0]at TV;erw[0,(1),1,(-1),1,na,0,zG0 (S7 _ _ hna),λnb hnb=>?_];rw[zK0,List.map_singleton,Fq];let I8:=zE0 hnb (.lst (ns'.map V.str));let g8:upd H7 nb (.lst (ns'.map V.str)) nb=some (.lst (ns'.map V.str)):=ai;generalize upd H7 nb (.lst (ns'.map V.str))=H8 at I8 g8;let tok':=IG SG.tok;let t4:=SG.t4;let tml:(ts.map (Tr.without x)).length=ts.length:=zF0 _;erw[0,0,nb,D,ns',vs,ts.map (Tr.without x),1,g8,I8 _ _ hD7,TV.mono (aV I8),3,SmallG.wf nok' tok',λp' H9 S9 pp' p2' p9' p5' tp' tc'=>?_];let S89:=I8.trans S9;let nl':ns'.length+1+i<=5:=by
    rw[zJ0,qK0]at dl;exact dl
   erw[nb,D,ns',vs,ts.map (Tr.without x),p',0,S9 _ _ g8,S89 _ _ hD7,TV.mono (aV S89),%[3,nok',(List.nodup_append.mp SG.nd).1,3,3,tok',pp',p2',p9',λe=>p5' e #[0],tp'|tc'],.inl #[0],S6.trans (S7.trans S89)]
 . rintro σ H6 ⟨na,ta,ns,tv,ts,p,x6,rfl,hna,hta,TS,SG,dj,S6⟩;let pw:p ^ bN ns ts<=81:=dj.elim (λh=>absurd h #[0]) id;erw[0,na,0,.inl %[zG0 hna|λa ha=>?_]];let Ga:=zE0 ha (.tup (ns.map V.str));erw[0,ta,0,.inl %[zG0 (Ga _ _ hta)|λb hb=>?_]];let Gb:=zE0 hb (.tup tv);erw[0,y3S,λg hg=>?_];let Gg:=zE0 hg (.tup [.ref a,.ref b,.int p]);exact q g a b ns tv ts p _ ai (Gg _ _ (Gb _ _ ai)) (Gg _ _ ai) (TS.mono (aV (Ga.trans (Gb.trans Gg)))) SG pw (F5.same (S6.trans (Ga.trans (Gb.trans Gg)))) (S05.trans (zL0 (S6.trans (Ga.trans (Gb.trans Gg)))))
def kept:List Str:=["yes","no","not","and","or","odd","same","round","due","asked","true","coin"]
def NmK(x:Str):Prop:=(∀c∈x.cps.toList,97<=c/\c<=122)/\1<=x.length/\x.length<=6/\x∉kept
def Tm.ok:Tm->Prop
 |.num n=>0<=n/\n<1000000000000 | .box x=>NmK x | .plain w=>w∈plainW | .ask w a=>w∈askW/\a.ok | .op s a b=>s∈signW/\a.ok/\b.ok
def Tm.fit(m:Nat)(t:Tm):Prop:=t.ok/\t.size<=m/\t.depth<=8
def Hr.ok(m:Nat):Hr->Prop
 |.fin=>True | .go n=>0<=n/\n<1000000000000 | .iff t n=>t.fit m/\0<=n/\n<1000000000000 | .set x t=>NmK x/\t.fit m | .say t=>t.fit m
def LET:Str:="abcdefghijklmnopqrstuvwxyz"
def ENDS:Str:=" ()"
def isIn(L:Str)(c:Nat):Bool:=!(Builtin.Str.occurrences L %[|#[c]] 0 L.length 1).isEmpty
def jW(z:Str):Bool:=decide (1<=z.length)&&decide (z.length<=6)&&!inV (.str z) (kept.map V.str)&&z.cps.toList.all (isIn LET)
def FIG:Str:="0123456789"
def lB(z:Str):Bool:=decide (1<=z.length)&&decide (z.length<=12)&&!(decide (1<z.length)&&Txt.startswith z "0")&&z.cps.toList.all (isIn FIG)
def wg{z:Str}{c:Nat}(h:z.cps.toList[0]?=some c):Txt.startswith z "0"=decide (V.str %[|#[c]]=V.str "0"):=by
 let q:=StrLaws.subAt_one z 48 0;let e0:("0":Str)=%[|#[48]]:=by decide
 unfold Txt.startswith;rw[e0]
 by_cases hc:c=48
 . subst hc
   have:=q.mpr h
   rw[show decide (V.str (%[|#[48]]:Str)=V.str ⟨#[48]⟩)=true from zC1 rfl];simp only[qU1,vE0];exact this
 . let hne:¬ (V.str (%[|#[c]]:Str)=V.str ⟨#[48]⟩):=λe=>hc (by
    have:=V.str.inj e
    injection this with this
    simpa using this)
   rw[show decide (V.str (%[|#[c]]:Str)=V.str ⟨#[48]⟩)=false from zB1 hne];rw[Bool.eq_false_iff];intro e;simp only[qU1,vE0]at e
   have:=q.mp e
   rw[h]at this;exact hc (zT0 this)
instance spTxt(fB:Str->Bool):∀z:Str,vs=[.str z]->z.length<=1000->(∀H',Same H H'->Q (.bl (fB z)) H'):=1
structure Tx(K:W.Frag)(mg:#[9]):Prop where
 letters:∃t,mg "LETTERS"=some (.str LET t)
 longest:∃t,mg "LONGEST_NAME"=some (.int 6 t)
 keptW:∃a,mg "KEPT_WORDS"=some (.ref a)/\∀H,SqT K H a (kept.map V.str)
 ends:∃t,mg "WORD_ENDS"=some (.str ENDS t)
 within:∃t,mg "MOST_WITHIN"=some (.int 8 t)
 parts:∃t,mg "MOST_PARTS"=some (.int 20 t)
 figures:∃t,mg "FIGURES"=some (.str FIG t)
 most:∃t,mg "MOST_FIGURES"=some (.int 12 t)
 rows:∃t,mg "MOST_ROWS_helptexts"=some (.int 60 t)
 signs:∃a,mg "SIGNS"=some (.ref a)/\∀H,SqT K H a (signW.map V.str)
 asking:∃a,mg "ASKING_WORDS"=some (.ref a)/\∀H,SqT K H a (askW.map V.str)
 plain:∃a,mg "PLAIN_WORDS"=some (.ref a)/\∀H,SqT K H a (plainW.map V.str)
def sj(z:Str):z.cps.size=z.length:=rfl
def yh:FnScope WD WD (ao oN):=%[|5]
def yJ(F:#["is_name",oN])(B:Bl mg)(T:Tx K mg):#[1,f,fd,WD,spTxt jW]:=by
 exists yh
 erw[z,1,hz,q]at h;erw[t1,g1]at T.letters;erw[t3,g3]at T.longest;erw[ka,g5,hk]at T.keptW;refine⟨_,(ad (aM (PW.pt (kH (am gJ (aJ df rfl B.len zD1 %[0|ae]) ag (az _)) (kH (am iz (aJ df rfl B.len zD1 %[0|ae]) (dw (v:=.int 6) rfl g3 ⟨_,rfl⟩) (az _)) (jI (am fe (pv 0) (dw (v:=.ref ka) rfl g5 rfl) (by rfl')))))) (af (ax iH)) aE)
  (af (ax (aJ (sK rfl) rfl B.all wH0 (aa (cH (N:=[]) (ix:=[]) (cl:=[]) rfl #[5] rfl (DD (pv 0))
   (λ_ _ _=>cE (dy tQ (pv 0) (dw (v:=.str LET) rfl g1 %[|0]) (by rfl')))) ae))))),?_⟩
 let fls:jW z=false->Q (.bl false) H:=λe=>by
  have:=q H (Same.refl H)
  rw[e]at this;exact this
 erw[0,z,1,small hz,2,0,6]
 by_cases c1:(z.length:Int)<1
 . apply bd c1 (eU ?_);exact fls (by unfold jW;rw[zB1 (show ¬ 1<=z.length by omega)];rfl)
 apply aF c1 ?_;erw[0,z,1,small hz,2,0,6]
 by_cases c2:(6:Int)<(z.length:Int)
 . apply bd c2 (eU ?_);exact fls (by unfold jW;rw[zB1 (show ¬ z.length<=6 by omega)];simp)
 apply aF c2 ?_;erw[0,ka,0,.inr (hk _),1,⋯,0,6];cases c3:inV (.str z) (kept.map V.str)with
 |true=>
   apply eU ?_;exact fls (by unfold jW;rw[c3];simp)
 |false=>
   apply dG ?_;erw[0,z,1,λD hD=>?_];apply sE (z:=z) (λi H'=>H' D=some (.lst (((z.cps.toList.take i).map (isIn LET)).map V.bl))/\Same H H') %[by rw[ai];rfl|zE0 hD _] ?_ ?_
   . rintro i c H' hc ⟨hl,s0⟩;let hi:i<z.cps.size:=(Array.getElem?_eq_some_iff.mp hc).1;rw[sj]at hi;erw[0,2,_,hl,6,Nx.of hi %[6|6]]
     . rw[zF0,zF0,qJ0];exact aO #[0]
     . rw [ai];let ec:z.cps.toList[i]?=some c:=#[hc,0]
       rw[zZ0,ec,zK0,zK0];rfl
     . intro b o e;rw[ay (aP e hD)];exact s0 b o e
   . rintro H' ⟨hl,s0⟩;rw[show z.cps.toList.take z.cps.size=z.cps.toList by rw[←zY1];exact qA0]at hl;erw[D,0,zG0 hl,6];let e:jW z=(z.cps.toList.map (isIn LET)).all id:=by
      unfold jW;rw[c3,zC1 (show 1<=z.length by omega),zC1 (show z.length<=6 by omega),List.all_map];rfl
     rw[←e];exact q H' s0
def sR:FnScope WD WD (ao jC):=%[|5]
def sW(F:#["is_figures",jC])(B:Bl mg)(T:Tx K mg):#[1,f,fd,WD,spTxt lB]:=by
 exists sR
 erw[z,1,hz,q]at h;erw[t1,g1]at T.figures;erw[t3,g3]at T.most;refine⟨_,(ad (aM (PW.pt (kH (am gJ (aJ df rfl B.len zD1 %[0|ae]) ag (az _)) (jI (am iz (aJ df rfl B.len zD1 %[0|ae]) (dw (v:=.int 12) rfl g3 ⟨_,rfl⟩) (az _))))) (af (ax iH)) aE)
  (ad (aM (PW.pt (rf (am iz (aJ df rfl B.len zD1 %[0|ae]) ag (az _)) (qm (fk (eR jJ1 PySem.F.slot_str_startswith PySem.F.type_str_startswith tj (pv 0) %[aI|ae]))))) (af (ax iH)) aE)
  (af (ax (aJ (sK rfl) rfl B.all wH0 (aa (cH (N:=[]) (ix:=[]) (cl:=[]) rfl #[5] rfl (DD (pv 0))
   (λ_ _ _=>cE (dy tQ (pv 0) (dw (v:=.str FIG) rfl g1 %[|0]) (by rfl')))) ae)))))),?_⟩
 let fls:lB z=false->Q (.bl false) H:=λe=>by
  have:=q H (Same.refl H)
  rw[e]at this;exact this
 erw[0,z,1,small hz,2,0,6]
 by_cases c1:(z.length:Int)<1
 . apply bd c1 (eU ?_);exact fls (by unfold lB;rw[zB1 (show ¬ 1<=z.length by omega)];rfl)
 apply aF c1 ?_;erw[0,z,1,small hz,2,0,6]
 by_cases c2:(12:Int)<(z.length:Int)
 . apply bd c2 ?_;exact fls (by unfold lB;rw[zB1 (show ¬ z.length<=12 by omega)];simp)
 apply aF c2 ?_;erw[0,z,1,small hz,2,0,6]
 by_cases c4:(1:Int)<(z.length:Int)
 . apply bd c4 ?_;erw[0,1,z,0,1,0,6];cases c5:Txt.startswith z "0" with
   |true=>
     apply eU ?_;exact fls (by unfold lB;rw[c5,zC1 (show 1<z.length by omega)];simp)
   |false=>
     apply dG ?_;let c3:(decide (1<z.length)&&Txt.startswith z "0")=false:=by rw[c5];simp
     erw[0,z,1,λD hD=>?_];apply sE (z:=z) (λi H'=>H' D=some (.lst (((z.cps.toList.take i).map (isIn FIG)).map V.bl))/\Same H H') %[by rw[ai];rfl|zE0 hD _] ?_ ?_
     . rintro i c H' hc ⟨hl,s0⟩;let hi:i<z.cps.size:=(Array.getElem?_eq_some_iff.mp hc).1;rw[sj]at hi;erw[0,2,_,hl,6,Nx.of hi %[6|6]]
       . rw[zF0,zF0,qJ0];exact aO #[0]
       . rw [ai];let ec:z.cps.toList[i]?=some c:=#[hc,0]
         rw[zZ0,ec,zK0,zK0];rfl
       . intro b o e;rw[ay (aP e hD)];exact s0 b o e
     . rintro H' ⟨hl,s0⟩;rw[show z.cps.toList.take z.cps.size=z.cps.toList by rw[←zY1];exact qA0]at hl;erw[D,0,zG0 hl,6];let e:lB z=(z.cps.toList.map (isIn FIG)).all id:=by
        unfold lB;rw[c3,zC1 (show 1<=z.length by omega),zC1 (show z.length<=12 by omega),List.all_map];rfl
       rw[←e];exact q H' s0
 . apply aF c4 ?_;apply dG ?_;let c3:(decide (1<z.length)&&Txt.startswith z "0")=false:=by rw[zB1 (show ¬ 1<z.length by omega)];rfl
   erw[0,z,1,λD hD=>?_];apply sE (z:=z) (λi H'=>H' D=some (.lst (((z.cps.toList.take i).map (isIn FIG)).map V.bl))/\Same H H') %[by rw[ai];rfl|zE0 hD _] ?_ ?_
   . rintro i c H' hc ⟨hl,s0⟩;let hi:i<z.cps.size:=(Array.getElem?_eq_some_iff.mp hc).1;rw[sj]at hi;erw[0,2,_,hl,6,Nx.of hi %[6|6]]
     . rw[zF0,zF0,qJ0];exact aO #[0]
     . rw [ai];let ec:z.cps.toList[i]?=some c:=#[hc,0]
       rw[zZ0,ec,zK0,zK0];rfl
     . intro b o e;rw[ay (aP e hD)];exact s0 b o e
   . rintro H' ⟨hl,s0⟩;rw[show z.cps.toList.take z.cps.size=z.cps.toList by rw[←zY1];exact qA0]at hl;erw[D,0,zG0 hl,6];let e:lB z=(z.cps.toList.map (isIn FIG)).all id:=by
      unfold lB;rw[c3,zC1 (show 1<=z.length by omega),zC1 (show z.length<=12 by omega),List.all_map];rfl
     rw[←e];exact q H' s0
def Jq:∀c:Fin 26,isIn LET (97+c.val)=true:=by decide
def Hv:∀c:Fin 26,isIn ENDS (97+c.val)=false:=by decide
def ends_in:isIn ENDS 32=true/\isIn ENDS 40=true/\isIn ENDS 41=true:=by decide
def ET{c:Nat}(h:97<=c/\c<=122):isIn LET c=true:=by
 have:=Jq %[c-97|3]
 rwa [show 97+(%[c-97|3]:Fin 26).val=c by show 97+(c-97)=c;omega]at this
def BP{c:Nat}(h:97<=c/\c<=122):isIn ENDS c=false:=by
 have:=Hv %[c-97|3]
 rwa [show 97+(%[c-97|3]:Fin 26).val=c by show 97+(c-97)=c;omega]at this
def Ad(h:NmK x):jW x=true:=by
 erw[hl,h1,h6,hk]at h;unfold jW;rw[jO,zC1 h1,zC1 h6,zB1 hk];simp only[Bool.and_self,Bool.not_false,Bool.true_and];rw[wI0];exact λc hc=>ET (hl c hc)
def stl(l:List Nat):Str:=%[|l.toArray]
def Gf{a b:Str}(h:a.cps.toList=b.cps.toList):a=b:=by
 cases a with
 |mk x=>
   cases b with
   |mk y=>
     have:x=y:=Array.toList_inj.mp h
     rw[this]
def lQ(x:Str):stl x.cps.toList=x:=rfl
def Gj(l:List Nat):(stl l).length=l.length:=by
 show l.toArray.size=_
 simp
def ji(a b:Str):(a++b).cps.toList=a.cps.toList++b.cps.toList:=by simp [jH0]
def vH:(("(":Str)).cps.toList=[40]:=by decide
def EB:((")":Str)).cps.toList=[41]:=by decide
def mf:((" ":Str)).cps.toList=[32]:=by decide
def CJ{a b:Str}(h:V.str a=V.str b):a=b:=V.str.inj h
def neStr{a b:Str}(h:a≠b):¬ V.str a=V.str b:=λz=>h (CJ z)
def jn(c:Nat):List (List Nat)->List Nat
 | []=>[]
 | [a]=>a
 |a::b::r=>a++c::jn c (b::r)
def Fr{c:Nat}:∀{a b x y:List Nat},c∉a->c∉b->a++c::x=b++c::y->a=b/\x=y
 | [],[],_,_,_,_,h=>%[1|(List.cons.inj h).2]
 | [],d::b,x,y,_,hb,h=>by
   have:=(List.cons.inj h).1
   exact absurd (by rw[this];exact qF0) hb
 |d::a,[],x,y,ha,_,h=>by
   have:=(List.cons.inj h).1
   exact absurd (by rw[←this];exact qF0) ha
 |d::a,e::b,x,y,ha,hb,h=>by
   let h':=List.cons.inj h;let r:=Fr (λz=>ha (qM0 _ z)) (λz=>hb (qM0 _ z)) h'.2;erw[by rw[h'.1,r.1],r.2]
def EQ{c:Nat}:∀{l m:List (List Nat)},l≠[]->m≠[]->(∀a∈l,c∉a)->(∀a∈m,c∉a)->jn c l=jn c m->l=m
 | [],_,h,_,_,_,_=>absurd rfl h
 |_::_,[],_,h,_,_,_=>absurd rfl h
 | [a],[b],_,_,_,_,h=>congrArg (λz=>[z]) h
 | [a],b::d::r,_,_,hl,_,h=>by
   have:c∈a:=by
    rw[show a=b++c::jn c (d::r)from h]
    simp
   exact absurd this (hl a qF0)
 |a::d::r,[b],_,_,_,hm,h=>by
   have:c∈b:=by
    rw[show b=a++c::jn c (d::r)from h.symm]
    simp
   exact absurd this (hm b qF0)
 |a::d::r,b::e::s,_,_,hl,hm,h=>by
   let q:=Fr (hl a qF0) (hm b qF0) (show a++c::jn c (d::r)=b++c::jn c (e::s)from h)
   have:=EQ #[2] #[2] (λz hz=>hl z (qM0 _ hz)) (λz hz=>hm z (qM0 _ hz)) q.2
   rw[q.1,this]
def cd(x:Str):List Nat:=x.cps.toList
def JV(h:cd x=cd y):x=y:=by
 have:x.cps=y.cps:=Array.toList_inj.mp h
 cases x;cases y;exact congrArg Str.mk this
def uj(x y:Str):cd (x++y)=cd x++cd y:=by
 unfold cd;rw[jH0]
 simp
def vU(c:Nat):∀ps:List Str,cd (Str.join %[|#[c]] ps)=jn c (ps.map cd)
 | []=>rfl
 | [a]=>rfl
 |a::b::r=>by
   show cd (a++%[|#[c]]++Str.join ⟨#[c]⟩ (b::r))=cd a++c::jn c ((b::r).map cd);rw[uj,uj,vU c (b::r)]
   simp [cd]
def Hy(sep:Str):∀ps:List Str,Txt.join sep ps=Str.join sep ps
 | []=>rfl
 |a::r=>StrLaws.glued_cons sep r a
def xW(x y:Str):Txt.split x y≠[]:=by
 unfold Txt.split
 split
 . exact List.cons_ne_nil _ _
 . split
   . exact List.cons_ne_nil _ _
   . intro h
     have:=length_partsBetween x (Builtin.Str.occurrences x y 0 x.length (x.length+1)) y.length
     rw[h]at this
     simp at this
def rY:∀{l m:List Str},l.map cd=m.map cd->l=m
 | [],[],_=>rfl
 | [],_::_,h=>by simp at h
 |_::_,[],h=>by simp at h
 |a::l,b::m,h=>by
   let h':=List.cons.inj h;rw[JV h'.1,rY h'.2]
def xY{c:Nat}{ps:List Str}(h0:ps≠[])(hf:∀p∈ps,c∉cd p):Txt.split (Str.join %[|#[c]] ps) ⟨#[c]⟩=ps:=by
 apply rY ?_;apply EQ (c:=c) (λh=>xW _ _ (List.map_eq_nil_iff.mp h)) (λh=>h0 (List.map_eq_nil_iff.mp h)) ?_ ?_ ?_
 . intro a ha;let%[p,hp|1]:=List.mem_map.mp ha;exact StrLaws.split_free _ c p hp
 . intro a ha;let%[p,hp|1]:=List.mem_map.mp ha;exact hf p hp
 . rw[←vU,←vU,StrLaws.join_split]
def cu(n:Int):Str:=toString n
def vG(m:Nat):cd (cu (m:Int))=(Nat.toDigits 10 m).map Char.toNat:=PySem.W.KIN.signs_num m
def lh{n:Int}(h0:0<=n):∀c∈cd (cu n),48<=c/\c<=57:=by
 let%[m|1]:=zW1 h0;intro c hc;rw[vG]at hc;let%[ch,hch|e]:=List.mem_map.mp hc;rw[←e];exact PyProof.Rows.digit_range (Nat.isDigit_of_mem_toDigits ⋯ ⋯ hch)
def Eh{n:Int}(h0:0<=n):cd (cu n)≠[]:=by
 let%[m|1]:=zW1 h0;rw[vG];intro e;let h:=PySem.toDigits_len_ge 10 m;rw[List.map_eq_nil_iff.mp e]at h;exact absurd h ⋯
def jK{n:Int}(h0:0<=n)(h1:n<1000000000000):(cu n).length<=12:=PyProof.Rows.toString_length_le h0 ⋯ (by show n<10 ^ 12;omega)
def wL{n:Int}(h0:0<=n):1<=(cu n).length:=by
 let h:=Eh h0;let e:(cd (cu n)).length=(cu n).length:=rfl;cases c:cd (cu n)with
 |nil=>exact absurd c h
 |cons a r=>rw[←e,c];simp
def Aa{n:Int}(h0:0<=n)(h1:n<1000000000000):PySem.intText? (cu n)=some n:=by
 let e:=intText_digits (x:=cu n) (lh h0) (Eh h0) (zQ0 (jK h0 h1) ⋯);let%[m|1]:=zW1 h0;let e2:=vG m;unfold cd at e2;rw[e2,PySem.W.KIN.val_back]at e;exact e
def HB(m:Nat)(h:0<m):∃d r,Nat.toDigits 10 m=d::r/\d.toNat≠48:=by
 induction m using Nat.strongRecOn with
 |_ m ih=>
   by_cases c:m<10
   . erw[Nat.digitChar m,[],Nat.toDigits_of_lt_base c,6]
     have:∀d:Nat,d<10->0<d->(Nat.digitChar d).toNat≠48:=by decide
     exact this m c h
   . let hm:m % 10<10:=Nat.mod_lt m ⋯;let t:Nat.toDigits 10 (m / 10)++Nat.toDigits 10 (m % 10)=Nat.toDigits 10 (10*(m / 10)+m % 10):=Nat.toDigits_append_toDigits ⋯ #[0] hm;rw[Nat.div_add_mod]at t;let%[d,r,e|hd]:=ih (m / 10) #[0] #[0];erw[d,r++Nat.toDigits 10 (m % 10),by rw[←t,e];rfl,hd]
def JF:∀c:Nat,c<58->48<=c->isIn FIG c=true:=by decide
def Ab{n:Int}(h0:0<=n)(h1:n<1000000000000):lB (cu n)=true:=by
 unfold lB;rw[zC1 (wL h0),zC1 (jK h0 h1)];let a:(cd (cu n)).all (isIn FIG)=true:=List.all_eq_true.mpr λc hc=>by
  have:=lh h0 c hc
  exact JF c #[0] this.1
 let a':(cu n).cps.toList.all (isIn FIG)=true:=a;rw[a'];let b:(decide (1<(cu n).length)&&Txt.startswith (cu n) "0")=false:=by
  by_cases c:1<(cu n).length
  . let%[m|1]:=zW1 h0;let hm:0<m:=by
     apply Nat.pos_of_ne_zero ?_;intro z;subst z
     revert c
     decide
    let%[d,r,e|hd]:=HB m hm;let e0:(cu (m:Int)).cps.toList[0]?=some d.toNat:=by
     have:=vG m
     unfold cd at this;rw[this,e];rfl
    let z:decide (V.str (%[|#[d.toNat]]:Str)=V.str "0")=false:=zB1 λz=>by
     have:=V.str.inj z
     let e1:("0":Str)=%[|#[48]]:=by decide
     rw[e1]at this;injection this with this
     have:=congrArg Array.toList this
     simp at this
     exact hd this
    rw[wg e0,z,vA1]
  . rw[zB1 c];rfl
 rw[b];rfl
def NL:Str:=%[|#[10]]
def nl_eq:("\n":Str)=NL:=by decide
def CF{l:List Str}{b:Nat}(h:∀p∈l,p.length<=b):(l.map (·.length)).sum<=l.length*b:=by
 induction l with
 |nil=>simp
 |cons a r ih=>
   let h1:=h a qF0;let h2:=ih λp hp=>h p (qM0 _ hp)
   simp only[qE0,zX1,zP0];rw[vK1];omega
def Tm.txt:Tm->List Nat
 |.num n=>cd (cu n)
 |.box x=>cd x
 |.plain w=>cd w
 |.ask w a=>[40]++(cd w++([32]++(a.txt++[41])))
 |.op s a b=>[40]++(cd s++([32]++(a.txt++([32]++(b.txt++[41])))))
def Tm.str(t:Tm):Str:=stl t.txt
def nv:∀w∈plainW,w.length<=5/\1<=w.length/\(∀c∈w.cps.toList,97<=c/\c<=122)/\w≠"num"/\w≠"box"/\w≠"op":=by decide
def zC:∀w∈askW,w.length<=4/\1<=w.length/\(∀c∈w.cps.toList,97<=c/\c<=122)/\w≠"num"/\w≠"box"/\w≠"op"/\w∉plainW:=by decide
def uE:∀w∈signW,w.length=1/\(∀c∈w.cps.toList,42<=c/\c<=61)/\w∉askW:=by decide
def dQ(x:Str):(cd x).length=x.length:=by unfold cd;rw[zY1];rfl
def Tm.txt_len:∀t:Tm,t.ok->t.txt.length<=14*t.size
 |.num n,h=>by
   have:=jK h.1 h.2
   show(cd (cu n)).length<=14;rw[dQ];omega
 |.box x,h=>by
   show(cd x).length<=14;rw[dQ]
   have:=h.2.2.1
   omega
 |.plain w,h=>by
   show(cd w).length<=14;rw[dQ]
   have:=(nv w h).1
   omega
 |.ask w a,⟨h,h1⟩=>by
   have:=Tm.txt_len a h1
   let e4:=(zC w h).1;show([40]++(cd w++([32]++(a.txt++[41])))).length<=14*(a.size+1)
   simp only[zJ0,zP0,zH1,dQ];omega
 |.op o a b,⟨h,h1,h2⟩=>by
   let e1:=Tm.txt_len a h1;let e2:=Tm.txt_len b h2;let e4:=(uE o h).1;show([40]++(cd o++([32]++(a.txt++([32]++(b.txt++[41])))))).length<=14*(a.size+b.size+1)
   simp only[zJ0,zP0,zH1,dQ];omega
def Tm.str_len{t:Tm}(h:t.ok):t.str.length<=14*t.size:=by
 unfold Tm.str;rw[Gj];exact t.txt_len h
def Hr.ws:Hr->List Str
 |.fin=>["end"] | .go n=>["go",cu n] | .iff t n=>["if",t.str,cu n] | .set x t=>["set",x,t.str] | .say t=>["say",t.str]
def Hr.str(r:Hr):Str:=Txt.join (" ":Str) r.ws
def IF{r:Hr}(h:r.ok 20):r.ws.length<=3/\∀z∈r.ws,z.length<=280:=by
 let fixed:∀z∈(Wu:List Str),z.length<=280:=by decide
 let ft:∀{t:Tm},t.fit 20->t.str.length<=280:=fun{t} h=>by
  have:=Tm.str_len h.1
  have:=h.2.1
  omega
 cases r with
 |fin=>erw[4,λz hz=>fixed z (by rw[NK hz];decide)]
 |go n=>
   erw[by show 2<=3;decide,λz hz=>?_];rcases zY0 (show z∈[("go":Str),cu n]from hz)with rfl | hz
   . exact fixed _ ⋯
   . rw [NK hz]
     have:=jK h.1 h.2
     omega
 |iff t n=>
   erw[by show 3<=3;decide,λz hz=>?_];rcases zY0 (show z∈[("if":Str),t.str,cu n]from hz)with rfl | hz
   . exact fixed _ ⋯
   rcases zY0 hz with rfl | hz
   . exact ft h.1
   . rw [NK hz]
     have:=jK h.2.1 h.2.2
     omega
 |set x t=>
   erw[by show 3<=3;decide,λz hz=>?_];rcases zY0 (show z∈[("set":Str),x,t.str]from hz)with rfl | hz
   . exact fixed _ ⋯
   rcases zY0 hz with rfl | hz
   . have:=h.1.2.2.1
     omega
   . rw[NK hz];exact ft h.2
 |say t=>
   erw[by show 2<=3;decide,λz hz=>?_];rcases zY0 (show z∈[("say":Str),t.str]from hz)with rfl | hz
   . exact fixed _ ⋯
   . rw[NK hz];exact ft h
def wY(sep:Str)(zs:List Str)(h:sep.length=1):(Txt.join sep zs).length<=(zs.map (·.length)).sum+zs.length:=by
 have:=size_glued sep zs
 rw[h]at this;show(Builtin.Str.glued sep zs).length<=_;omega
def IE{r:Hr}(h:r.ok 20):(r.ws.map (·.length)).sum+r.ws.length<=900:=by
 let%[h1|h2]:=IF h
 have:=CF h2
 have:r.ws.length*280<=840:=#[0]
 omega
def Hr.str_len{r:Hr}(h:r.ok 20):r.str.length<=900:=zQ0 (wY _ _ ⋯) (IE h)
def EN{H:Hp}{b:Addr}{ys zs:List V}(h:H b=some (.lst ys)):cF H (upd H b (.lst zs)):=λa xs e=>by
 rw[ay (λz=>by rw[z,h]at e;cases e)];exact e
def RowsAt.nil:RowsAt H [] []:=%[1|λi v r h=>by simp at h]
def RowsAt.snoc(h:RowsAt H tv rs)(a:HrAt H v r):RowsAt H (tv++[v]) (rs++[r]):=by
 erw[by rw[zJ0,zJ0,h.1];rfl,λi u s hu hs=>?_];let hl:=h.1
 by_cases c:i<tv.length
 . rw[zR1 c]at hu;rw[zR1 #[0]]at hs;exact h.2 i u s hu hs
 . rw [zL1 #[0]]at hu;rw[zL1 #[0]]at hs;let e1:i-tv.length=0:=by
    have:=(zX0 hu).1
    rw[qK0]at this;omega
   let e2:i-rs.length=0:=#[0]
   rw[e1]at hu;rw[e2]at hs;cases hu;cases hs;exact a
def uz(rs:List Hr):Prop:=rs.length<=60/\∀r∈rs,r.ok 20
def pT(rs:List Hr):Str:=Txt.join ("\n":Str) (rs.map Hr.str)
def EX(g:uz rs):((rs.map Hr.str).map (·.length)).sum+(rs.map Hr.str).length<=60000:=by
 have:=CF (l:=rs.map Hr.str) (b:=900) λp hp=>by
  let%[r,hr|1]:=List.mem_map.mp hp;exact Hr.str_len (g.2 r hr)
 rw[zF0]at this ⊢;let h1:=g.1
 have:rs.length*900<=60*900:=wM0 _ h1
 omega
def EY(g:uz rs):(pT rs).length<=60000:=zQ0 (wY _ _ ⋯) (EX g)
example:=[oI,14,uR,oI 0,qQ,oI 1,uQ,oI 2,uP,oI 3,uO,oI 4,oH,oI 5]
structure STxt(K:W.Frag)(mg:#[9])(C:Addr):Prop where
 cl:Cls K C
 nX:NoAttr K C "text"
 nR:NoAttr K C "row"
 nW:NoAttr K C "most_within"
 nP:NoAttr K C "most_parts"
 nL:NoAttr K C "place"
 nN:NoAttr K C "parts"
 mgC:mg "Scan"=some (.ref C)
def rj(f:Str)(v:V):∀(fs:List (Str×V))(u:V),fs.lookup f=some u->(bY f v fs).length=fs.length
 | [],u,h=>by cases h
 | (g,x)::r,u,h=>by
   unfold bY
   by_cases e:g=f
   . rw[NE e];rfl
   . rw [ND e];let e':(f==g)=false:=#[λz=>e z.symm,0]
     simp only[List.lookup,e']at h;rw[zP0,zP0,rj f v r u h]
def cz(f:Str)(v:V):∀fs:List (Str×V),(bY f v fs).length<=fs.length+1
 | []=>zH0 _
 | (g,u)::r=>by
   have:=cz f v r
   unfold bY
   split
   . simp
   . simp only[zP0];omega
structure SF(T:Str)(p n:Nat)(fs:List (Str×V)):Prop where
 text:fs.lookup ("text":Str)=some (.str T)
 mw:fs.lookup ("most_within":Str)=some (.int 8)
 mp:fs.lookup ("most_parts":Str)=some (.int 20)
 place:fs.lookup ("place":Str)=some (.int (p:Int))
 parts:fs.lookup ("parts":Str)=some (.int (n:Int))
 no1:fs.lookup ("enter":Str)=none
 no2:fs.lookup ("sees":Str)=none
 no3:fs.lookup ("take":Str)=none
 no4:fs.lookup ("word":Str)=none
 no5:fs.lookup ("finish":Str)=none
 len:fs.length<=6
def SF.toPlace(h:SF T p n fs)(p':Nat):SF T p' n (bY "place" (.int (p':Int)) fs):=by
 erw[6,6,6,6,6,6,6,6,6,6,6]
 . rw[au,ND ⋯];exact h.text
 . rw[au,ND ⋯];exact h.mw
 . rw[au,ND ⋯];exact h.mp
 . rw[au,NE rfl]
 . rw[au,ND ⋯];exact h.parts
 . rw[au,ND ⋯];exact h.no1
 . rw[au,ND ⋯];exact h.no2
 . rw[au,ND ⋯];exact h.no3
 . rw[au,ND ⋯];exact h.no4
 . rw[au,ND ⋯];exact h.no5
 . rw[rj _ _ _ _ h.place];exact h.len
def SF.toParts(h:SF T p n fs)(n':Nat):SF T p n' (bY "parts" (.int (n':Int)) fs):=by
 erw[6,6,6,6,6,6,6,6,6,6,6]
 . rw[au,ND ⋯];exact h.text
 . rw[au,ND ⋯];exact h.mw
 . rw[au,ND ⋯];exact h.mp
 . rw[au,ND ⋯];exact h.place
 . rw[au,NE rfl]
 . rw[au,ND ⋯];exact h.no1
 . rw[au,ND ⋯];exact h.no2
 . rw[au,ND ⋯];exact h.no3
 . rw[au,ND ⋯];exact h.no4
 . rw[au,ND ⋯];exact h.no5
 . rw[rj _ _ _ _ h.parts];exact h.len
def sfs(T:Str)(k:Int):List (Str×V):=bY "parts" (.int 0) (bY "place" (.int 0) (bY "most_parts" (.int 20) (bY "most_within" (.int 8) (bY "row" (.int k) (bY "text" (.str T) [])))))
def IQ(T:Str)(k:Int):SF T 0 0 (sfs T k):=by
 let no:∀m:Str,m≠"parts" -> m≠"place" -> m≠"most_parts" -> m≠"most_within" -> m≠"row" -> m≠"text" -> (sfs T k).lookup m=none:=λm h1 h2 h3 h4 h5 h6=>by
  unfold sfs;rw[au,ND h1,au,ND h2,au,ND h3,au,ND h4,au,ND h5,au,ND h6];rfl
 erw[6,6,6,6,6,no _ ⋯ ⋯ ⋯ ⋯ ⋯ ⋯,no _ ⋯ ⋯ ⋯ ⋯ ⋯ ⋯,no _ ⋯ ⋯ ⋯ ⋯ ⋯ ⋯,no _ ⋯ ⋯ ⋯ ⋯ ⋯ ⋯,no _ ⋯ ⋯ ⋯ ⋯ ⋯ ⋯,6]
 . unfold sfs;rw[au,ND ⋯,au,ND ⋯,au,ND ⋯,au,ND ⋯,au,ND ⋯,au,NE rfl]
 . unfold sfs;rw[au,ND ⋯,au,ND ⋯,au,ND ⋯,au,NE rfl]
 . unfold sfs;rw[au,ND ⋯,au,ND ⋯,au,NE rfl]
 . unfold sfs;rw[au,ND ⋯,au,NE rfl];rfl
 . unfold sfs;rw[au,NE rfl];rfl
 . unfold sfs;apply zQ0 (cz _ _ _) (zG1 (zQ0 (cz _ _ _) (zG1 (zQ0 (cz _ _ _) (zG1 (zQ0 (cz _ _ _) (zG1 (zQ0 (cz _ _ _) (zG1 (cz _ _ _))))))))))
def ScanAt(C:Addr)(H:Hp)(sc:Addr)(T:Str)(p n:Nat):Prop:=∃dx fs,H sc=some (.ins C dx fs)/\SF T p n fs
instance spSInit(C:Addr):∀(g dx:Addr)(T:Str)(k:Int),vs=[.ref g,.str T,.int k,.int 8,.int 20]->H g=some (.ins C dx [])->(∀H',ScanAt C H' g T 0 0->SameBut g H H'->Q .non H'):=1
def Dd:FnScope Wk Wk (ao uR):=%[|5]
def DT(F:#["__init__","Scan.__init__",uR])(T:STxt K mg C):#[1,f,fd,Wk,spSInit C]:=by
 exists Dd
 erw[g,dx,Tx,kr,1,hg,q]at h;erw[_,(ad (aR (pv 0) (pv 1) rfl) (ad (aR (pv 0) (pv 2) rfl) (ad (aR (pv 0) (pv 3) rfl) (ad (aR (pv 0) (pv 4) rfl) (ad (aR (pv 0) ag rfl) (af (aR (pv 0) ag rfl))))))),6];erw[0,0,g,C,dx,[],1,hg,T.cl,T.nX,(by show 0<1000;decide),6];erw[0,0,g,C,dx,0,ai,9,T.nR,(zJ1 (cz _ _ _) (by show 1<1000;decide)),6];erw[0,0,g,C,dx,0,ai,9,T.nW,(zJ1 (cz _ _ _) (zJ1 (zG1 (cz _ _ _)) (by show 2<1000;decide))),6];erw[0,0,g,C,dx,0,ai,9,T.nP,(zJ1 (cz _ _ _) (zJ1 (zG1 (zQ0 (cz _ _ _) (zG1 (cz _ _ _)))) (by show 3<1000;decide))),6];erw[0,g,C,dx,0,ai,9,T.nL,(zJ1 (cz _ _ _) (zJ1 (zG1 (zQ0 (cz _ _ _) (zG1 (zQ0 (cz _ _ _) (zG1 (cz _ _ _)))))) (by show 4<1000;decide))),6];erw[0,g,C,dx,0,ai,9,T.nN,(zJ1 (cz _ _ _) (zJ1 (zG1 (zQ0 (cz _ _ _) (zG1 (zQ0 (cz _ _ _) (zG1 (zQ0 (cz _ _ _) (zG1 (cz _ _ _)))))))) (by show 5<1000;decide))),6];exact q _ ⟨dx,sfs Tx kr,ai,IQ Tx kr⟩ ((SameBut.upd _).trans ((SameBut.upd _).trans ((SameBut.upd _).trans ((SameBut.upd _).trans ((SameBut.upd _).trans (SameBut.upd _))))))
def SF.size(h:SF T p n fs):fs.length<1000:=zJ1 h.len ⋯
instance spEnter(C:Addr):∀(sc:Addr)(T:Str)(p n:Nat)(wi:Int),vs=[.ref sc,.int wi]->ScanAt C H sc T p n->wi<=8->n+1<=20->(∀H',ScanAt C H' sc T p (n+1)->SameBut sc H H'->Q .non H'):=1
def AU:FnScope Wl Wl (ao qQ):=%[|5]
def Bo(F:#["enter","Scan.enter",qQ])(T:STxt K mg C):#[1,f,fd,Wl,spEnter C]:=by
 exists AU
 erw[sc,Tx,p,n,wi,1,%[dx,fs,hs|sf],w10,n30,q]at h;refine⟨_,(ad (aR (pv 0) (aq aW (aB (pv 0) rfl) ag) rfl)
  (af (aM (PW.pt (kH (am iz (pv 1) (aB (pv 0) rfl) (az _)) (jI (am iz (aB (pv 0) rfl) (aB (pv 0) rfl) (az _))))) bz aE))),?_⟩
 let sf':=sf.toParts (n+1);erw[0,sc,C,dx,fs,0,hs,9,T.nN,sf.parts,2,0,sc,C,dx,fs,1,hs,9,T.nN,sf.size,6];let hs':upd H sc (.ins C dx (bY "parts" (.int ((n:Int)+1)) fs)) sc=some (.ins C dx (bY "parts" (.int ((n+1:Nat):Int)) fs)):=ai;erw[0,0,sc,C,dx,_,0,hs',9,T.nW,sf'.mw,2,0,6];apply aF #[0] ?_;erw[0,sc,C,dx,_,0,hs',9,T.nN,sf'.parts,0,sc,C,dx,_,0,hs',9,T.nP,sf'.mp,2,0,6];apply aF #[0] ?_;exact q _ ⟨dx,_,hs',sf'⟩ (SameBut.upd _)
instance spSees(C:Addr):∀(sc:Addr)(T u:Str)(p n:Nat),vs=[.ref sc,.str u]->ScanAt C H sc T p n->Q (.bl (gH T u p)) H:=1
def Dc:FnScope WF WF (ao uQ):=%[|5]
def DS(F:#["sees","Scan.sees",uQ])(T:STxt K mg C):#[1,f,fd,WF,spSees C]:=by
 exists Dc
 erw[sc,Tx,u,p,n,1,%[dx,fs,hs|sf],q]at h;erw[_,(af (ax (eR jJ1 PySem.F.slot_str_startswith PySem.F.type_str_startswith wQ (aB (pv 0) rfl) %[1,aB (pv 0) rfl|ae]))),6];erw[0,sc,C,dx,fs,0,hs,9,T.nX,sf.text,1,0,0,sc,C,dx,fs,0,hs,9,T.nL,sf.place,Tx,u,0,1,q]
instance spTake'(C:Addr):∀(sc:Addr)(T u:Str)(p n:Nat),vs=[.ref sc,.str u]->ScanAt C H sc T p n->gH T u p=true->u.length<=10->(∀H',ScanAt C H' sc T (p+u.length) n->SameBut sc H H'->Q .non H'):=1
def Da:FnScope WF WF (ao uP):=%[|5]
def DR(F:#["take","Scan.take",uP])(B:Bl mg)(T:STxt K mg C)(mS:Meth K C "sees" fS)(GS:#[1,fS,fdS,WF,spSees C])(bS:Binds K fdS WF []):#[2,f,fd,WF,spTake' C]:=by
 exists Da
 erw[sc,Tx,u,p,n,1,S,hu,u10,q]at h;let NO:Room 1 _:=hr.mono ⋯;refine⟨_,(ad (aM (jJ (fk (bZ (pv 0) T.cl mS GS NO bS .nil bh %[1|ae]))) bz aE)
  (af (aR (pv 0) (aq aW (aB (pv 0) rfl) (aJ df rfl B.len zD1 %[1|ae])) rfl))),?_⟩
 let%[dx,fs,hs|sf]:=id S;erw[0,sc,dx,fs,1,hs,sf.no2,0,sc,Tx,u,p,n,1,S,0,6];rw[hu];apply dG ?_;erw[0,sc,C,dx,fs,0,hs,9,T.nL,sf.place,0,u,1,small #[0],2,0,sc,C,dx,fs,1,hs,T.cl,T.nL,sf.size,6];let hs':upd H sc (.ins C dx (bY "place" (.int ((p:Int)+(u.length:Int))) fs)) sc=some (.ins C dx (bY "place" (.int ((p+u.length:Nat):Int)) fs)):=by rw[ai,jN1]
 exact q _ %[dx,_,hs'|sf.toPlace _] (SameBut.upd _)
def xM(r:List Nat):Prop:=r=[]∨∃c r',r=c::r'/\(c=32∨c=40∨c=41)
instance spWord(C:Addr):∀(sc:Addr)(T:Str)(p n:Nat)(x r:List Nat),vs=[.ref sc]->ScanAt C H sc T p n->T.length<=1000->p<=T.length->T.cps.toList.drop p=x++r->(∀c∈x,isIn ENDS c=false)->xM r->(∀H',ScanAt C H' sc T (p+x.length) n->SameBut sc H H'->Q (.str (stl x)) H'):=1
def Kj:FnScope ["self","start"] WA (ao uO):=%[|5]
def DQ(F:#["word","Scan.word",uO])(B:Bl mg)(X:Tx K mg)(T:STxt K mg C):#[1,f,fd,WA,spWord C]:=by
 exists Kj
 erw[sc,Tx,p,n,x,r,1,%[dx,fs,hs|sf],tl,pl,hd,xl,er,q]at h;erw[te,ge]at X.ends;refine⟨_,(ad #[aj,1,Kj,aB (pv 0) rfl]
  (ad (iw zE1 (PW.pt (rf (am gJ (aB (pv 0) rfl) (aJ df rfl B.len zD1 %[aB (pv 0) rfl|ae]) (az _)) (qm (am vp (aN vL (aB (pv 0) rfl) (aB (pv 0) rfl) #[1]) (dw (v:=.str ENDS) rfl ge %[|0]) (by rfl'))))) (af (aR (pv 0) (aq aW (aB (pv 0) rfl) ag) rfl)))
  (af (ax (eQ yb (aB (pv 0) rfl) (eY (pv 1)) (eY (aB (pv 0) rfl))))))),?_⟩
 let L:Tx.cps.toList.length=Tx.length:=by rw[zY1];rfl
 let hlen:Tx.length=p+(x.length+r.length):=by
  have:=congrArg List.length hd
  rw[jT0,zJ0,L]at this;omega
 erw[0,sc,C,dx,fs,0,hs,9,T.nL,sf.place,6];erw[λm σ H'=>∃j:Nat,j<=x.length/\σ=[some (.ref sc),some (.int (p:Int))]/\ScanAt C H' sc Tx (p+j) n/\SameBut sc H H'/\m=x.length-j,%[_,(0),zU0 _,1,%[dx,fs,hs|sf],SameBut.refl _ _|1],6];rintro m σ H1 ⟨j,hj,rfl,⟨dx1,fs1,hs1,sf1⟩,S1,rfl⟩;erw[0,sc,C,dx1,fs1,0,hs1,9,T.nL,sf1.place,0,sc,C,dx1,fs1,0,hs1,9,T.nX,sf1.text,Tx,1,small tl,2,0,6];let sl:j=x.length->Txt.slice Tx (some (p:Int)) (some ((p+j:Nat):Int))=stl x:=λej=>by
  let es:Txt.slice Tx (some (p:Int)) (some ((p+j:Nat):Int))=_:=StrLaws.sliceText_plain (i:=(p:Int)) (j:=((p+j:Nat):Int)) %[3,3|by rw[L];omega];rw[es];apply Gf ?_;show(Tx.cps.toList.drop (p:Int).toNat).take (((p+j:Nat):Int)-(p:Int)).toNat=x;rw[show(p:Int).toNat=p by omega,show(((p+j:Nat):Int)-(p:Int)).toNat=x.length by omega,hd,List.take_left'];rfl
 by_cases c1:(((p+j:Nat):Int))<(Tx.length:Int)
 . apply bd c1 ?_;let hk:p+j<Tx.cps.toList.length:=by rw[L];omega
   let ha:atI Tx.cps.toList ((p+j:Nat):Int)=some Tx.cps.toList[p+j]:=bK (zM0 hk);let hx:Tx.cps.toList[p+j]?=(x++r)[j]?:=by rw[←hd,vA0]
   erw[0,sc,C,dx1,fs1,0,hs1,9,T.nX,sf1.text,0,sc,C,dx1,fs1,0,hs1,9,T.nL,sf1.place,Tx,2,small tl,ha,2,0,6]
   by_cases c2:j<x.length
   . let ec:Tx.cps.toList[p+j]=x[j]:=by
      rw[zM0 hk,zR1 c2,zM0 c2]at hx;exact zT0 hx
     let en:(!isIn ENDS Tx.cps.toList[p+j])=true:=by rw[ec,xl _ (qR0 c2)];rfl
     let en':(!(!(Builtin.Str.occurrences ENDS %[|#[Tx.cps.toList[p+j]]] 0 ENDS.length 1).isEmpty))=true:=en;rw[en'];erw[_,λ_ _ h=>h,6];erw[0,sc,C,dx1,fs1,0,hs1,9,T.nL,sf1.place,2,0,sc,C,dx1,fs1,1,hs1,9,T.nL,sf1.size,6];let hs':upd H1 sc (.ins C dx1 (bY "place" (.int (((p+j:Nat):Int)+1)) fs1)) sc=some (.ins C dx1 (bY "place" (.int ((p+(j+1):Nat):Int)) fs1)):=by
      rw[ai,show((p+j:Nat):Int)+1=((p+(j+1):Nat):Int) by omega]
     erw[_,3,j+1,3,1,%[dx1,_,hs'|sf1.toPlace _],S1.trans (SameBut.upd _),1]
   . let ej:j=x.length:=#[0]
     let en:(!isIn ENDS Tx.cps.toList[p+j])=false:=by
      rcases er with rfl | ⟨c,r',rfl,hc⟩
      . rw[zH1]at hlen;omega
      . rw [zM0 hk,zL1 #[0],show j-x.length=0 by omega]at hx;let ec:Tx.cps.toList[p+j]=c:=zT0 hx;rw[ec];rcases hc with rfl | rfl | rfl
        . rw[ends_in.1];rfl
        . rw[ends_in.2.1];rfl
        . rw[ends_in.2.2];rfl
     let en':(!(!(Builtin.Str.occurrences ENDS %[|#[Tx.cps.toList[p+j]]] 0 ENDS.length 1).isEmpty))=false:=en;rw[en'];erw[0,sc,C,dx1,fs1,0,hs1,9,T.nX,sf1.text,0,0,0,sc,C,dx1,fs1,0,hs1,9,T.nL,sf1.place,0,Tx,1,small tl,6];rw[sl ej];rw[ej]at sf1;exact q H1 ⟨dx1,fs1,hs1,sf1⟩ S1
 . apply aF c1 ?_;let ej:j=x.length:=#[0]
   erw[0,sc,C,dx1,fs1,0,hs1,9,T.nX,sf1.text,0,0,0,sc,C,dx1,fs1,0,hs1,9,T.nL,sf1.place,0,Tx,1,small tl,6];rw[sl ej];rw[ej]at sf1;exact q H1 ⟨dx1,fs1,hs1,sf1⟩ S1
instance spFinish(C:Addr):∀(sc:Addr)(T:Str)(n:Nat),vs=[.ref sc]->ScanAt C H sc T T.length n->T.length<=1000->Q .non H:=1
def yg:FnScope WA WA (ao oH):=%[|5]
def yE(F:#["finish","Scan.finish",oH])(B:Bl mg)(T:STxt K mg C):#[1,f,fd,WA,spFinish C]:=by
 exists yg
 erw[sc,Tx,n,1,%[dx,fs,hs|sf],tl,q]at h;erw[_,(af (aM (am nI (aB (pv 0) rfl) (aJ df rfl B.len zD1 %[aB (pv 0) rfl|ae]) (az _)) bz aE)),6];erw[0,sc,C,dx,fs,0,hs,9,T.nL,sf.place,0,sc,C,dx,fs,0,hs,9,T.nX,sf.text,Tx,1,small tl,1,0,6];show if(!decide (V.int (Tx.length:Int)=V.int (Tx.length:Int)))=true then _ else _
 rw[zC1 rfl];exact dG q
def Fe(n p:Nat):PySem.fromIndex n (p:Int)=p:=by
 unfold PySem.fromIndex;rw[ND #[0]];omega
def zL(T u:Str)(p:Nat):Builtin.Str.subAt T u p=decide ((T.cps.toList.drop p).take u.length=u.cps.toList):=by
 unfold Builtin.Str.subAt;let e:(T.cps.extract p (p+u.length)).toList=(T.cps.toList.drop p).take u.length:=by
  rw[Array.toList_extract,List.extract_eq_drop_take]
  congr 1
  omega
 by_cases c:(T.cps.toList.drop p).take u.length=u.cps.toList
 . rw [zC1 c]
   have:T.cps.extract p (p+u.length)=u.cps:=Array.toList_inj.mp (e.trans c)
   rw[this]
   simp
 . rw [zB1 c]
   have:¬ T.cps.extract p (p+u.length)=u.cps:=λz=>c (by rw[←e,z])
   simpa using this
def nY(T:Str):T.cps.toList.length=T.length:=by rw[zY1];rfl
def lr{T:Str}{p:Nat}{u v:List Nat}(h:T.cps.toList.drop p=u++v)(hp:p<=T.length):p+u.length+v.length=T.length:=by
 have:=congrArg List.length h
 rw[jT0,zJ0,nY]at this;omega
def cD{T:Str}{p:Nat}{u v:List Nat}(h:T.cps.toList.drop p=u++v):T.cps.toList.drop (p+u.length)=v:=by
 rw[←List.drop_drop,h,List.drop_left]
def dZ{T u:Str}{p:Nat}{r:List Nat}(h:T.cps.toList.drop p=u.cps.toList++r)(hp:p<=T.length):gH T u (p:Int)=true:=by
 unfold gH;let hl:=lr h hp;rw[nY]at hl;rw[Fe,zL,zC1 #[0],h,←nY u,List.take_left,zC1 rfl];rfl
def AQ{T:Str}{p:Nat}{c:Nat}{r:List Nat}(h:T.cps.toList.drop p=c::r)(hc:c≠40):gH T ("(":Str) (p:Int)=false:=by
 unfold gH;let l1:(("(":Str)).length=1:=by decide
 rw[Fe,zL,h,vH,l1]
 have:¬ (c::r).take 1=[40]:=λz=>hc #[z,0]
 rw[zB1 this,vA1]
def du(S:ScanAt C H sc T p n)(s:SameBut sc H H'):cF H H':=λa xs h=>s a _ (λz=>by
 erw[dx,fs,e,_]at S;rw[z,e]at h;cases h) h
def ScanAt.same(S:ScanAt C H sc T p n)(s:Same H H'):ScanAt C H' sc T p n:=by
 erw[dx,fs,e,sf]at S;erw[dx,fs,s _ _ e,sf]
structure Mths(P:Program)(w:World)(K:W.Frag)(mg:#[9])(base:Heap)(C fE fS fT fW fF:Addr)(dE dS dT dW dF:FuncData):Prop where
 mE:Meth K C "enter" fE
 gE:#[1,fE,dE,Wl,spEnter C]
 bE:Binds K dE Wl []
 mS:Meth K C "sees" fS
 gS:#[1,fS,dS,WF,spSees C]
 bS:Binds K dS WF []
 mT:Meth K C "take" fT
 gT:#[2,fT,dT,WF,spTake' C]
 bT:Binds K dT WF []
 mW:Meth K C "word" fW
 gW:#[1,fW,dW,WA,spWord C]
 bW:Binds K dW WA []
 mF:Meth K C "finish" fF
 gF:#[1,fF,dF,WA,spFinish C]
 bF:Binds K dF WA []
def Fh:∀c:Nat,c<62->42<=c->isIn ENDS c=false:=by decide
def JE:∀c:Fin 26,isIn FIG (97+c.val)=false:=by decide
def EU{c:Nat}(h:97<=c/\c<=122):isIn FIG c=false:=by
 have:=JE %[c-97|3]
 rwa [show 97+(%[c-97|3]:Fin 26).val=c by show 97+(c-97)=c;omega]at this
def BV(h:NmK x):lB x=false:=by
 unfold lB;erw[hl,h1,_,_]at h
 have:x.cps.toList.all (isIn FIG)=false:=by
  cases e:x.cps.toList with
  |nil=>
    have:=dQ x
    unfold cd at this;rw[e]at this
    simp at this
    omega
  |cons c r=>
    have:=EU (hl c (by rw[e];exact qF0))
    rw[wM1,this];rfl
 rw[this,vA1]
def pk(l:List Nat):Prop:=∀c∈l,isIn ENDS c=false
def dM{l:List Nat}(h:∀c∈l,97<=c/\c<=122):pk l:=λc hc=>BP (h c hc)
def rF{l:List Nat}(h:∀c∈l,42<=c/\c<=61):pk l:=λc hc=>Fh c (by have:=h c hc;omega) (h c hc).1
def rE{n:Int}(h:0<=n):pk (cd (cu n)):=rF λc hc=>by have:=lh h c hc;omega
def Bj(h:pk l)(h1:1<=l.length)(r:List Nat):∃c r',l++r=c::r'/\c≠40:=by
 cases l with
 |nil=>cases h1
 |cons c l'=>
   erw[c,l'++r,1,λe=>?_]
   have:=h c qF0
   rw[e,ends_in.2.1]at this;cases this
instance spNextT(C:Addr)(n:Nat):∀(sc:Addr)(wi:Int)(T:Str)(p k:Nat)(t:Tm)(r:List Nat),vs=[.ref sc,.int wi]->ScanAt C H sc T p k->T.length<=1000->p<=T.length->T.cps.toList.drop p=[32]++(t.txt++r)->xM r->t.ok->t.depth<=n->wi+(t.depth:Int)<=9->k+t.size<=20->(∀(v:V)(H':Hp),TmAt H' v t->ScanAt C H' sc T (p+1+t.txt.length) (k+t.size)->SameBut sc H H'->Q v H'):=1
instance spTB(C:Addr)(n:Nat):∀(sc:Addr)(wi:Int)(T:Str)(p k:Nat)(t:Tm)(r:List Nat),vs=[.ref sc,.int wi]->ScanAt C H sc T p (k+1)->T.length<=1000->p<=T.length->T.cps.toList.drop p=t.txt++r->t.ok->((∃w a,t=.ask w a)∨∃s a b,t=.op s a b)->t.depth<=n+1->wi+(t.depth:Int)<=9->k+t.size<=20->(∀(v:V)(H':Hp),TmAt H' v t->ScanAt C H' sc T (p+t.txt.length) (k+t.size)->SameBut sc H H'->Q v H'):=1
def cU:FnScope ["scan","within","word","first","term"] WK (ao dR):=%[|5]
def FW{n:Nat}(F:#["term_in_bracket",dR])(X:Tx K mg)(T:STxt K mg C)(M:Mths P w K mg base C fE fS fT fW fF dE dS dT dW dF)(db:#[2*n+3,"next_term",WK,spNextT C n]):#[2*n+4,f,fd,WK,spTB C n]:=by
 exists cU
 erw[sc,wi,Tx,p,k,t,r,1,S0,tl,pl,hd,ok,kind,dn,wd,k20,q]at h;erw[ja,gj,hj]at X.asking;erw[sa,gs,hs]at X.signs;let NO:Room 1 _:=hr.mono #[0];let hr2:Room 2 _:=hr.mono #[0];refine⟨_,(ad (bb (bZ (pv 0) T.cl M.mT M.gT hr2 M.bT .nil bh %[aI|ae]))
  (ad #[aj,2,cU,bq (pv 0) T.cl M.mW M.gW NO M.bW .nil bh]
  (ad #[aj,3,cU,aD db hr #[0] rfl %[0,aq aW (pv 1) ag|ae]]
  (ad (aM (am fe (pv 2) (dw (v:=.ref ja) rfl gj rfl) (by rfl')) (af #[aj,4,cU,aU %[2,3|ae]]) (af (aM (am fe (pv 2) (dw (v:=.ref sa) rfl gs rfl) (by rfl')) (af #[aj,4,cU,aU %[aI,2,3,aD db hr #[0] rfl %[0,aq aW (pv 1) ag|ae]|ae]]) bz)))
  (ad (bb (bZ (pv 0) T.cl M.mT M.gT hr2 M.bT .nil bh %[aI|ae]))
  (af (ax (pv 4)))))))),?_⟩
 let l1:(("(":Str)).length=1:=by decide
 let l3:((")":Str)).length=1:=by decide
 let%[dx0,fs0,hs0|sf0]:=id S0;rcases kind with⟨wd',a,rfl⟩ | ⟨o,a,b,rfl⟩
 . erw[okw,oka]at ok;let%[_,w1,wl|_]:=zC wd' okw;let da:a.depth<=n:=Nat.le_of_succ_le_succ dn;let ed:(((Tm.ask wd' a).depth:Nat):Int)=(a.depth:Int)+1:=by show((a.depth+1:Nat):Int)=_;omega
   let es:(Tm.ask wd' a).size=a.size+1:=rfl;let wlen:(cd wd').length=wd'.length:=dQ _;let hd0:Tx.cps.toList.drop p=[40]++(cd wd'++([32]++(a.txt++([41]++r)))):=by
    rw[hd];show([40]++(cd wd'++([32]++(a.txt++[41]))))++r=_
    simp
   let tlen:(Tm.ask wd' a).txt.length=1+(wd'.length+(1+(a.txt.length+1))):=by
    show([40]++(cd wd'++([32]++(a.txt++[41])))).length=_;simp only[zJ0,zP0,zH1,wlen]
   let hl0:=lr hd0 pl;simp only[zJ0,zP0,zH1,wlen]at hl0;let hd1:=cD hd0;let hd2:=cD hd1;let hd3:=cD hd2;let hd4:=cD hd3;simp only[zP0,zH1,wlen]at hd1 hd2 hd3 hd4;erw[0,sc,dx0,fs0,1,hs0,sf0.no3,sc,Tx,_,p,0,S0,dZ (r:=cd wd'++([32]++(a.txt++([41]++r)))) (by rw[vH];exact hd0) pl,by rw[l1];decide,λH1 S1 B1=>?_];rw[l1]at S1;let%[dx1,fs1,hs1|sf1]:=id S1;erw[0,sc,dx1,fs1,1,hs1,sf1.no4,sc,Tx,_,_,cd wd',0,S1,tl,3,hd1,dM wl,.inr %[(32),0|.inl rfl],λH2 S2 B2=>?_];rw[wlen]at S2;erw[0,0,2,sc,wi+1,Tx,_,_,a,0,S2,tl,3,hd2,.inr %[(41),r,1|.inr (.inr rfl)],oka,da,3,3,λv1 H3 T3 S3 B3=>?_];erw[0,ja,0,.inr (hj _),1,⋯,0,6];let einj:inV (.str (stl (cd wd'))) (askW.map V.str)=true:=by rw[show stl (cd wd')=wd' from lQ _,jO,zC1 okw]
   rw[einj];apply eU ?_;erw[0,0,y2S,λc hc=>?_];let G:=zE0 hc (.tup [.str (stl (cd wd')),v1]);let S4:=S3.same G;let ec:upd H3 c (.tup [.str (stl (cd wd')),v1]) c=some (.tup [.str wd',v1]):=ai;let T4:=T3.mono (aV G);generalize upd H3 c (.tup [.str (stl (cd wd')),v1])=H4 at G S4 ec T4;let%[dx4,fs4,hs4|sf4]:=id S4;erw[0,sc,dx4,fs4,1,hs4,sf4.no3,sc,Tx,_,_,0,S4,dZ (r:=r) (by rw[EB,show p+1+wd'.length+1+a.txt.length=p+(0+1)+wd'.length+(0+1)+a.txt.length by omega];exact hd4) #[0],by rw[l3];decide,λH5 S5 B5=>?_];rw[l3]at S5;let k5:=du S4 B5;erw[0,6];rw[show p+1+wd'.length+1+a.txt.length+1=p+(Tm.ask wd' a).txt.length by rw[tlen];omega,show k+1+a.size=k+(Tm.ask wd' a).size by rw[es];omega]at S5;exact q _ _ (.ask (k5 _ _ ec) (T4.mono k5)) S5 (B1.trans (B2.trans (B3.trans ((zL0 G).trans B5))))
 . erw[oko,oka,okb]at ok;let%[o1,ol|no]:=uE o oko;let dd:a.depth<=n/\b.depth<=n/\wi+(a.depth:Int)<=8/\wi+(b.depth:Int)<=8:=by
    let e1:(Tm.op o a b).depth=max a.depth b.depth+1:=rfl;rw[e1]at dn wd;omega
   let es:(Tm.op o a b).size=a.size+b.size+1:=rfl;let wlen:(cd o).length=o.length:=dQ _;let hd0:Tx.cps.toList.drop p=[40]++(cd o++([32]++(a.txt++([32]++(b.txt++([41]++r)))))):=by
    rw[hd];show([40]++(cd o++([32]++(a.txt++([32]++(b.txt++[41]))))))++r=_
    simp
   let tlen:(Tm.op o a b).txt.length=1+(o.length+(1+(a.txt.length+(1+(b.txt.length+1))))):=by
    show([40]++(cd o++([32]++(a.txt++([32]++(b.txt++[41])))))).length=_;simp only[zJ0,zP0,zH1,wlen]
   let hl0:=lr hd0 pl;simp only[zJ0,zP0,zH1,wlen]at hl0;let hd1:=cD hd0;let hd2:=cD hd1;let hd3:=cD hd2;let hd4:=cD hd3;let hd5:=cD hd4;let hd6:=cD hd5;simp only[zP0,zH1,wlen]at hd1 hd2 hd3 hd4 hd5 hd6;erw[0,sc,dx0,fs0,1,hs0,sf0.no3,sc,Tx,_,p,0,S0,dZ (r:=cd o++([32]++(a.txt++([32]++(b.txt++([41]++r)))))) (by rw[vH];exact hd0) pl,by rw[l1];decide,λH1 S1 B1=>?_];rw[l1]at S1;let%[dx1,fs1,hs1|sf1]:=id S1;erw[0,sc,dx1,fs1,1,hs1,sf1.no4,sc,Tx,_,_,cd o,0,S1,tl,3,hd1,rF ol,.inr %[(32),0|.inl rfl],λH2 S2 B2=>?_];rw[wlen]at S2;erw[0,0,2,sc,wi+1,Tx,_,_,a,0,S2,tl,3,hd2,.inr %[(32),0|.inl rfl],oka,dd.1,3,3,λv1 H3 T3 S3 B3=>?_];erw[0,ja,0,.inr (hj _),1,⋯,0,6];let einj:inV (.str (stl (cd o))) (askW.map V.str)=false:=by rw[show stl (cd o)=o from lQ _,jO,zB1 no]
   rw[einj];apply dG ?_;erw[0,sa,0,.inr (hs _),1,⋯,0,6];let eins:inV (.str (stl (cd o))) (signW.map V.str)=true:=by rw[show stl (cd o)=o from lQ _,jO,zC1 oko]
   rw [eins];apply eU ?_;let hd4':Tx.cps.toList.drop (p+1+o.length+1+a.txt.length)=[32]++(b.txt++([41]++r)):=by
    rw[show p+1+o.length+1+a.txt.length=p+(0+1)+o.length+(0+1)+a.txt.length by omega];exact hd4
   erw[0,0,0,0,2,sc,wi+1,Tx,_,_,b,0,S3,tl,3,hd4',.inr %[(41),r,1|.inr (.inr rfl)],okb,dd.2.1,3,3,λv2 H4 T4 S4 B4=>?_];let T3':=T3.mono (du S3 B4);erw[y4S,λc hc=>?_];let G:=zE0 hc (.tup [.str "op",.str (stl (cd o)),v1,v2]);let S5:=S4.same G;let ec:upd H4 c (.tup [.str "op",.str (stl (cd o)),v1,v2]) c=some (.tup [.str "op",.str o,v1,v2]):=ai;let T5:=T4.mono (aV G);let T5':=T3'.mono (aV G);generalize upd H4 c (.tup [.str "op",.str (stl (cd o)),v1,v2])=H5 at G S5 ec T5 T5';let%[dx5,fs5,hs5|sf5]:=id S5;erw[0,sc,dx5,fs5,1,hs5,sf5.no3,sc,Tx,_,_,0,S5,dZ (r:=r) (by rw[EB,show p+1+o.length+1+a.txt.length+1+b.txt.length=p+(0+1)+o.length+(0+1)+a.txt.length+(0+1)+b.txt.length by omega];exact hd6) #[0],by rw[l3];decide,λH6 S6 B6=>?_];rw[l3]at S6;let k6:=du S5 B6;erw[0,6];rw[show p+1+o.length+1+a.txt.length+1+b.txt.length+1=p+(Tm.op o a b).txt.length by rw[tlen];omega,show k+1+a.size+b.size=k+(Tm.op o a b).size by rw[es];omega]at S6;exact q _ _ (.op (k6 _ _ ec) (T5'.mono k6) (T5.mono k6)) S6 (B1.trans (B2.trans (B3.trans (B4.trans ((zL0 G).trans B6)))))
def pF:FnScope ["scan","within","word"] WK (ao iE):=%[|5]
def vF{n:Int}(h:0<=n):cu n∉plainW:=λhm=>by
 let%[_,w1,wl|_]:=nv _ hm;cases e:cd (cu n)with
 |nil=>
   have:=dQ (cu n)
   rw[e]at this
   simp at this
   omega
 |cons c r=>
   let h1:=lh h c (by rw[e];exact qF0);let h2:=wl c (by show c∈cd (cu n);rw[e];exact qF0);omega
def yw:∀w∈plainW,w∈kept:=by decide
def Hg{n:Nat}(F:#["next_term",iE])(B:Bl mg)(X:Tx K mg)(T:STxt K mg C)(M:Mths P w K mg base C fE fS fT fW fF dE dS dT dW dF)(eK:#[1,"is_name",WD,spTxt jW])(cI:#[1,"is_figures",WD,spTxt lB])(t8:#[2*n+4,"term_in_bracket",WK,spTB C n]):#[2*(n+1)+3,f,fd,WK,spNextT C (n+1)]:=by
 exists pF
 erw[sc,wi,Tx,p,k,t,r,1,S0,tl,pl,hd,er,ok,dn,wd,k20,q]at h;erw[ja,gj,hj]at X.plain;let NO:Room 1 _:=hr.mono #[0];let hr2:Room 2 _:=hr.mono #[0];refine⟨_,(ad (bb (bZ (pv 0) T.cl M.mT M.gT hr2 M.bT .nil bh %[aI|ae]))
  (ad (bb (bZ (pv 0) T.cl M.mE M.gE NO M.bE .nil bh %[1|ae]))
  (ad (aM (fk (bZ (pv 0) T.cl M.mS M.gS NO M.bS .nil bh %[aI|ae])) (af (ax (aD t8 hr #[0] rfl %[0,1|ae]))) aE)
  (ad #[aj,2,pF,bq (pv 0) T.cl M.mW M.gW NO M.bW .nil bh]
  (ad (aM (am fe (pv 2) (dw (v:=.ref ja) rfl gj rfl) (by rfl')) (af (ax (aU %[2|ae]))) aE)
  (ad (aM (fk (aD cI hr #[0] rfl %[2|ae])) (af (ax (aU %[aI,bc lN rfl B.int gA %[2|ae]|ae]))) aE)
  (ad (aM (jJ (fk (aD eK hr #[0] rfl %[2|ae]))) bz aE)
  (af (ax (aU %[aI,2|ae])))))))))),?_⟩
 let l2:((" ":Str)).length=1:=by decide
 let dp:=t.depth_pos;let sp:=t.size_pos;let hl0:=lr hd pl;let hd1:=cD hd;simp only[zJ0,zP0,zH1]at hl0 hd1;let%[dx0,fs0,hs0|sf0]:=id S0;erw[0,sc,dx0,fs0,1,hs0,sf0.no3,sc,Tx,_,p,0,S0,dZ (r:=t.txt++r) (by rw[mf];exact hd) pl,by rw[l2];decide,λH1 S1 B1=>?_];rw[l2]at S1;let%[dx1,fs1,hs1|sf1]:=id S1;erw[0,sc,dx1,fs1,1,hs1,sf1.no1,0,sc,Tx,_,k,wi,1,S1,3,3,λH2 S2 B2=>?_];let%[NM,fs2,hs2|sf2]:=id S2;erw[0,sc,NM,fs2,1,hs2,sf2.no2,sc,Tx,_,_,0,S2,0,6];let shape:(((∃w a,t=.ask w a)∨∃s a b,t=.op s a b)/\∃z,t.txt=40::z)∨∃x:Str,t.txt=cd x/\pk (cd x)/\1<=x.length/\t.size=1/\((t=.plain x/\x∈plainW)∨(∃m,t=.num m/\x=cu m/\0<=m/\m<1000000000000)∨(t=.box x/\NmK x)):=by
  cases t with
  |ask w a=>exact .inl %[.inl %[w,a|1]|0]
  |op s a b=>exact .inl %[.inr %[s,a,b|1]|0]
  |plain x=>
    let okx:x∈plainW:=ok;let%[_,w1,wl|_]:=nv x okx;exact .inr %[x,1,dM wl,w1,1|.inl %[1|okx]]
  |num m=>exact .inr %[cu m,1,rE ok.1,wL ok.1,1|.inr (.inl %[m,1,1,ok.1|ok.2])]
  |box x=>
    let okx:NmK x:=ok;exact .inr %[x,1,dM okx.1,okx.2.1,1|.inr (.inr %[1|okx])]
 rcases shape with⟨kind,z,ez⟩ | ⟨x,et,pc,x1,s1,kd⟩
 . let hs:gH Tx ("(":Str) ((p+1:Nat):Int)=true:=dZ (r:=z++r) (by rw[vH];show _=40::(z++r);rw[hd1,ez];rfl) #[0];rw[hs];apply eU ?_;erw[0,0,sc,wi,Tx,p+1,k,t,r,1,S2,tl,3,hd1,ok,kind,dn,wd,k20,λv H3 T3 S3 B3=>?_];exact q v H3 T3 S3 (B1.trans (B2.trans B3))
 let%[c,r',hc|c40]:=Bj pc (by rw[dQ];exact x1) r;let hd':Tx.cps.toList.drop (p+1)=cd x++r:=by rw[hd1,et]
 rw[AQ (hd'.trans hc) c40];apply dG ?_;erw[0,sc,NM,fs2,1,hs2,sf2.no4,sc,Tx,_,_,cd x,r,1,S2,tl,3,hd',pc,er,λH3 S3 B3'=>?_];rw[show stl (cd x)=x from lQ _];rw[←et,←s1]at S3;let B3:SameBut sc H H3:=B1.trans (B2.trans B3');erw[0,ja,0,.inr (hj _),1,⋯,0,6];show if inV (.str x) (plainW.map V.str)=true then _ else _
 rw[jO];rcases kd with⟨rfl,okx⟩ | ⟨m,rfl,rfl,m0,m1⟩ | ⟨rfl,okx⟩
 . apply bd okx ?_;erw[0,y1S,λc hc=>?_];let G:=zE0 hc (.tup [.str x]);exact q _ _ (.plain ai) (S3.same G) (B3.trans (zL0 G))
 . apply aF (vF m0) ?_;let nl:=jK m0 m1;erw[0,cu m,1,3,λH4 S4=>%[0|6]];rw[Ab m0 m1];apply eU ?_;erw[0,cu m,m,1,Aa m0 m1,3,y2S,λc hc=>?_];let G:=zE0 hc (.tup [.str "num",.int m]);exact q _ _ (.num ai) ((S3.same S4).same G) (B3.trans (zL0 (S4.trans G)))
 . let%[xl,_,x6|xk]:=id okx;apply aF (λh=>xk (yw x h)) ?_;erw[0,x,1,3,λH4 S4=>%[0|6]];rw[BV okx];apply dG ?_;erw[0,x,1,3,λH5 S5=>%[0|6]];rw[Ad okx];apply dG ?_;erw[0,y2S,λc hc=>?_];let G:=zE0 hc (.tup [.str "box",.str x]);exact q _ _ (.box ai) (((S3.same S4).same S5).same G) (B3.trans (zL0 (S4.trans (S5.trans G))))
def Hf:#[3,f,fd,WK,spNextT C 0]:=by
 let no:∀vs H Q E,¬ spNextT C 0 vs H Q E:=λvs H Q E h=>by
  erw[_,_,_,_,_,t,_,_,_,_,_,_,_,_,h1,_]at h
  have:=t.depth_pos
  omega
 exists 3
def nK(F:#["next_term",iE])(m:mg "next_term"=some (.ref f))(Fj:Fun K "term_in_bracket" "term_in_bracket" dR fj fdj)(mj:mg "term_in_bracket"=some (.ref fj))(B:Bl mg)(X:Tx K mg)(T:STxt K mg C)(M:Mths P w K mg base C fE fS fT fW fF dE dS dT dW dF)(eK:#[1,"is_name",WD,spTxt jW])(cI:#[1,"is_figures",WD,spTxt lB]):
 ∀n:Nat,#[2*n+3,f,fd,WK,spNextT C n]
 |0=>Hf
 |n+1=>
   let c1:=Cal.of F (nK F m Fj mj B X T M eK cI n) m (λ_ _ _ _ _ _ us hl=>by let%[u0,u1|1]:=Hw hl;rfl)
   Hg F B X T M eK cI (Cal.of Fj (FW Fj X T M c1) mj (λ_ _ _ _ _ _ us hl=>by let%[u0,u1|1]:=Hw hl;rfl))
instance spNextN(C:Addr):∀(sc:Addr)(T:Str)(p k:Nat)(x:Str)(r:List Nat),vs=[.ref sc]->ScanAt C H sc T p k->T.length<=1000->p<=T.length->T.cps.toList.drop p=[32]++(cd x++r)->xM r->NmK x->(∀H',ScanAt C H' sc T (p+1+x.length) k->SameBut sc H H'->Q (.str x) H'):=1
def pG:FnScope ["scan","word"] ["scan"] (ao kq):=%[|5]
def vt(F:#["next_name",kq])(T:STxt K mg C)(M:Mths P w K mg base C fE fS fT fW fF dE dS dT dW dF)(eK:#[1,"is_name",WD,spTxt jW]):#[3,f,fd,["scan"],spNextN C]:=by
 exists pG
 erw[sc,Tx,p,k,x,r,1,S0,tl,pl,hd,er,ok,q]at h;let NO:Room 1 _:=hr.mono #[0];let hr2:Room 2 _:=hr.mono #[0];refine⟨_,(ad (bb (bZ (pv 0) T.cl M.mT M.gT hr2 M.bT .nil bh %[aI|ae]))
  (ad #[aj,1,pG,bq (pv 0) T.cl M.mW M.gW NO M.bW .nil bh]
  (ad (aM (jJ (fk (aD eK hr #[0] rfl %[1|ae]))) bz aE)
  (af (ax (pv 1)))))),?_⟩
 let l2:((" ":Str)).length=1:=by decide
 let hl0:=lr hd pl;let hd1:=cD hd;simp only[zJ0,zP0,zH1]at hl0 hd1;let%[dx0,fs0,hs0|sf0]:=id S0;erw[0,sc,dx0,fs0,1,hs0,sf0.no3,sc,Tx,_,p,0,S0,dZ (r:=cd x++r) (by rw[mf];exact hd) pl,by rw[l2];decide,λH1 S1 B1=>?_];rw[l2]at S1;let%[dx1,fs1,hs1|sf1]:=id S1;erw[0,sc,dx1,fs1,1,hs1,sf1.no4,sc,Tx,_,_,cd x,r,1,S1,tl,3,hd1,dM ok.1,er,λH2 S2 B2=>?_];rw[show stl (cd x)=x from lQ _];rw[dQ]at S2;let x6:=ok.2.2.1;erw[0,x,1,3,λH3 S3=>%[0|6]];rw[Ad ok];apply dG ?_;erw[0,q H3 (S2.same S3) (B1.trans (B2.trans (zL0 S3)))]
instance spNextF(C:Addr):∀(sc:Addr)(T:Str)(p k:Nat)(m:Int)(r:List Nat),vs=[.ref sc]->ScanAt C H sc T p k->T.length<=1000->p<=T.length->T.cps.toList.drop p=[32]++(cd (cu m)++r)->xM r->0<=m->m<1000000000000->(∀H',ScanAt C H' sc T (p+1+(cu m).length) k->SameBut sc H H'->Q (.int m) H'):=1
def jt:FnScope ["scan","word"] ["scan"] (ao ip):=%[|5]
def qf(F:#["next_figures",ip])(B:Bl mg)(T:STxt K mg C)(M:Mths P w K mg base C fE fS fT fW fF dE dS dT dW dF)(cI:#[1,"is_figures",WD,spTxt lB]):#[3,f,fd,["scan"],spNextF C]:=by
 exists jt
 erw[sc,Tx,p,k,m,r,1,S0,tl,pl,hd,er,m0,m1,q]at h;let NO:Room 1 _:=hr.mono #[0];let hr2:Room 2 _:=hr.mono #[0];refine⟨_,(ad (bb (bZ (pv 0) T.cl M.mT M.gT hr2 M.bT .nil bh %[aI|ae]))
  (ad #[aj,1,jt,bq (pv 0) T.cl M.mW M.gW NO M.bW .nil bh]
  (ad (aM (jJ (fk (aD cI hr #[0] rfl %[1|ae]))) bz aE)
  (af (ax (bc lN rfl B.int gA %[1|ae])))))),?_⟩
 let l2:((" ":Str)).length=1:=by decide
 let hl0:=lr hd pl;let hd1:=cD hd;simp only[zJ0,zP0,zH1]at hl0 hd1;let nl:=jK m0 m1;let%[dx0,fs0,hs0|sf0]:=id S0;erw[0,sc,dx0,fs0,1,hs0,sf0.no3,sc,Tx,_,p,0,S0,dZ (r:=cd (cu m)++r) (by rw[mf];exact hd) pl,by rw[l2];decide,λH1 S1 B1=>?_];rw[l2]at S1;let%[dx1,fs1,hs1|sf1]:=id S1;erw[0,sc,dx1,fs1,1,hs1,sf1.no4,sc,Tx,_,_,cd (cu m),r,1,S1,tl,3,hd1,rE m0,er,λH2 S2 B2=>?_];rw[show stl (cd (cu m))=cu m from lQ _];rw[dQ]at S2;erw[0,cu m,1,3,λH3 S3=>%[0|6]];rw[Ab m0 m1];apply dG ?_;erw[0,cu m,m,1,Aa m0 m1,3,q H3 (S2.same S3) (B1.trans (B2.trans (zL0 S3)))]
def iteNT{c A B:Prop}[Decidable c](hc:c)(h:B):if(!decide c)=true then A else B:=by
 rw[zC1 hc];exact dG h
def Hr.wd:Hr->Str
 |.fin=>"end" | .go _=>"go" | .iff _ _=>"if" | .set _ _=>"set" | .say _=>"say"
def Hr.rest:Hr->List Nat
 |.fin=>[] | .go n=>[32]++cd (cu n) | .iff t n=>[32]++(t.txt++([32]++cd (cu n))) | .set x t=>[32]++(cd x++([32]++t.txt)) | .say t=>[32]++t.txt
def Hr.codes(r:Hr):r.str.cps.toList=cd r.wd++r.rest:=by
 cases r with
 |fin=>decide
 |go n=>
   rw[show(Hr.go n).str=(("go":Str)++(" ":Str))++cu n from rfl,ji,ji,mf];show(cd "go"++[32])++cd (cu n)=cd "go"++([32]++cd (cu n))
   simp
 |iff t n=>
   rw[show(Hr.iff t n).str=(((("if":Str)++(" ":Str))++t.str)++(" ":Str))++cu n from rfl];simp only[ji,mf];show(((cd "if"++[32])++t.txt)++[32])++cd (cu n)=cd "if"++([32]++(t.txt++([32]++cd (cu n))))
   simp
 |set x t=>
   rw[show(Hr.set x t).str=(((("set":Str)++(" ":Str))++x)++(" ":Str))++t.str from rfl];simp only[ji,mf];show(((cd "set"++[32])++cd x)++[32])++t.txt=cd "set"++([32]++(cd x++([32]++t.txt)))
   simp
 |say t=>
   rw[show(Hr.say t).str=(("say":Str)++(" ":Str))++t.str from rfl,ji,ji,mf];show(cd "say"++[32])++t.txt=cd "say"++([32]++t.txt)
   simp
def ly:∀x∈(Wu:List Str),∀c∈x.cps.toList,97<=c/\c<=122:=by decide
def Hr.wd_ok(r:Hr):pk (cd r.wd):=by
 cases r with
 |fin=>exact dM (ly "end" ⋯)
 |go n=>exact dM (ly "go" ⋯)
 |iff t n=>exact dM (ly "if" ⋯)
 |set x t=>exact dM (ly "set" ⋯)
 |say t=>exact dM (ly "say" ⋯)
def Hr.rest_ok(r:Hr):xM r.rest:=by
 cases r with
 |fin=>exact .inl rfl
 |go n=>exact .inr %[(32),0|.inl rfl]
 |iff t n=>exact .inr %[(32),0|.inl rfl]
 |set x t=>exact .inr %[(32),0|.inl rfl]
 |say t=>exact .inr %[(32),0|.inl rfl]
instance spHRw:∀(r:Hr)(k:Int),vs=[.str r.str,.int k]->r.ok 20->(∀(v:V)(H':Hp),HrAt H' v r->Same H H'->Q v H'):=1
def cK:FnScope ["text","number","scan","word","row"] ["text","number"] (ao jF):=%[|5]
def sY(F:#["helper_row",jF])(X:Tx K mg)(T:STxt K mg C)(M:Mths P w K mg base C fE fS fT fW fF dE dS dT dW dF)(MK:Mk K C fI)(GI:#[1,fI,fdI,Wk,spSInit C])(bI:Binds K fdI Wk [])
 (lD:#[3,"next_name",["scan"],spNextN C])(fQ:#[3,"next_figures",["scan"],spNextF C])(db:#[19,"next_term",WK,spNextT C 8]):#[20,f,fd,["text","number"],spHRw]:=by
 exists cK
 erw[r,k,1,ok,q]at h;erw[tw,gw]at X.within;erw[tp,gp]at X.parts;let NO:Room 1 _:=hr.mono ⋯;let hr2:Room 2 _:=hr.mono ⋯;refine⟨_,(ad #[aj,2,cK,ia MK GI hr2 rfl T.mgC bI .nil bh %[0,1,dw (v:=.int 8) rfl gw %[|0],dw (v:=.int 20) rfl gp ⟨_,rfl⟩|ae]]
  (ad #[aj,3,cK,bq (pv 2) T.cl M.mW M.gW NO M.bW .nil bh]
  (ad #[aj,4,cK,aU %[3|ae]]
  (ad (aM (am aS (pv 3) aI (az _)) (af #[aj,4,cK,aq op_catT (pv 4) (aU %[aD lD hr ⋯ rfl %[2|ae],aD db hr ⋯ rfl %[2,ag|ae]|ae])]) (af (aM (am aS (pv 3) aI (az _)) (af #[aj,4,cK,aq op_catT (pv 4) (aU %[aD db hr ⋯ rfl %[2,ag|ae]|ae])]) (af (aM (am aS (pv 3) aI (az _)) (af #[aj,4,cK,aq op_catT (pv 4) (aU %[aD db hr ⋯ rfl %[2,ag|ae],aD fQ hr ⋯ rfl %[2|ae]|ae])]) (af (aM (am aS (pv 3) aI (az _)) (af #[aj,4,cK,aq op_catT (pv 4) (aU %[aD fQ hr ⋯ rfl %[2|ae]|ae])]) (af (aM (am nI (pv 3) aI (az _)) bz aE)))))))))
  (ad (bb (bq (pv 2) T.cl M.mF M.gF NO M.bF .nil bh))
  (af (ax (pv 4)))))))),?_⟩
 erw[0,0,λg dx nx ndx nex=>?_];let s3:Same H (upd (upd H dx (.own g)) g (.ins C dx [])):=λb o e=>by
  rw[ay (aP e nx),ay (aP e ndx)];exact e
 erw[g,dx,r.str,k,1,ai,λH1 S1 B1=>%[1|6]];let N1:Same H H1:=λb o e=>B1 b o (aP e nx) (s3 b o e)
 let tl:r.str.length<=1000:=zQ0 (Hr.str_len ok) ⋯;let hc:=r.codes;let hlen:r.str.length=r.wd.length+r.rest.length:=by
  have:=congrArg List.length hc
  rw[nY,zJ0,dQ]at this;exact this
 let hd0:r.str.cps.toList.drop 0=cd r.wd++r.rest:=by rw[jI0];exact hc
 let%[dx1,fs1,hs1|sf1]:=id S1;erw[0,g,dx1,fs1,1,hs1,sf1.no4,g,r.str,(0),(0),cd r.wd,r.rest,1,S1,tl,zU0 _,hd0,r.wd_ok,r.rest_ok,λH2 S2 B2=>?_];rw[show stl (cd r.wd)=r.wd from lQ _];let hd1:=cD hd0;rw[dQ]at S2 hd1;let N2:Same H H2:=λb o e=>B2 b o (aP e nx) (N1 b o e)
 erw[0,y1S,λa ha=>?_];let Ga:=zE0 ha (.tup [.str r.wd]);let ea:upd H2 a (.tup [.str r.wd]) a=some (.tup [.str r.wd]):=ai;let S3:=S2.same Ga;generalize upd H2 a (.tup [.str r.wd])=H3 at Ga ea S3;let N3:=N2.trans Ga;let isF:∀{x y:Str},x≠y->¬ V.str x=V.str y:=λh=>neStr h
 cases r with
 |fin=>
   erw[0,1,0,6];apply aF (isF (x:="end") ⋯) ?_;erw[0,1,0,6];apply aF (isF (x:="end") ⋯) ?_;erw[0,1,0,6];apply aF (isF (x:="end") ⋯) ?_;erw[0,1,0,6];apply aF (isF (x:="end") ⋯) ?_;erw[0,1,0,6];apply iteNT rfl ?_;let%[dx3,fs3,hs3|sf3]:=id S3;let el:0+(Hr.fin).wd.length=(Hr.fin).str.length:=by rw[hlen];show 0+_=_+0;omega
   rw[el]at S3;erw[0,g,dx3,fs3,1,hs3,sf3.no5,g,_,0,S3,tl,6];erw[0,q _ H3 (.fin ea) N3]
 |go n=>
   erw[0,1,0,6];apply aF (isF (x:="go") ⋯) ?_;erw[0,1,0,6];apply aF (isF (x:="go") ⋯) ?_;erw[0,1,0,6];apply aF (isF (x:="go") ⋯) ?_;erw[0,1,0,6];apply bd rfl ?_;let hrl:(Hr.go n).rest.length=1+(cu n).length:=by
    show([32]++cd (cu n)).length=_;rw[zJ0,dQ];rfl
   erw[0,0,g,_,_,_,n,[],1,S3,tl,3,by rw[hd1];show [32]++cd (cu n)=[32]++(cd (cu n)++[]);rw[qR1],.inl rfl,ok.1,ok.2,λH4 S4 B4=>?_];let ea4:=du S3 B4 _ _ ea;erw[y1S,λb hb=>?_];let Gb:=zE0 hb (.tup [.int n]);erw[a,b,2,zC0 (Gb _ _ ea4),zC0 ai,by simp,y2S,λz=>(by cases z),λ_ p hp=>?_];let Gp:=zE0 hp (.tup ([V.str (Hr.go n).wd]++[V.int n]));let S5:=(S4.same Gb).same Gp;let ep:upd (upd H4 b (.tup [.int n])) p (.tup ([V.str (Hr.go n).wd]++[V.int n])) p=some (.tup [.str "go",.int n]):=ai;let N5:=Gb.trans Gp;generalize upd (upd H4 b (.tup [.int n])) p (.tup ([V.str (Hr.go n).wd]++[V.int n]))=H5 at S5 ep N5;rw[show 0+(Hr.go n).wd.length+1+(cu n).length=(Hr.go n).str.length by omega]at S5;let%[dx5,fs5,hs5|sf5]:=id S5;erw[0,g,dx5,fs5,1,hs5,sf5.no5,g,_,0,S5,tl,6];erw[0,q _ H5 (.go ep) λc o e=>N5 _ _ (B4 c o (aP e nx) (N3 c o e))]
 |say t=>
   erw[0,1,0,6];apply aF (isF (x:="say") ⋯) ?_;erw[0,1,0,6];apply bd rfl ?_;let hrl:(Hr.say t).rest.length=1+t.txt.length:=by
    show([32]++t.txt).length=_;rw[zJ0];rfl
   let ok':t.fit 20:=ok;erw[0,0,g,(1),_,_,_,t,[],1,S3,tl,3,by rw[hd1];show [32]++t.txt=[32]++(t.txt++[]);rw[qR1],.inl rfl,ok'.1,ok'.2.2,by have:=ok'.2.2;omega,by have:=ok'.2.1;omega,λv H4 T4 S4 B4=>?_];let ea4:=du S3 B4 _ _ ea;erw[y1S,λb hb=>?_];let Gb:=zE0 hb (.tup [v]);erw[a,b,2,zC0 (Gb _ _ ea4),zC0 ai,by simp,y2S,λz=>(by cases z),λ_ p hp=>?_];let Gp:=zE0 hp (.tup ([V.str (Hr.say t).wd]++[v]));let S5:=(S4.same Gb).same Gp;let ep:upd (upd H4 b (.tup [v])) p (.tup ([V.str (Hr.say t).wd]++[v])) p=some (.tup [.str "say",v]):=ai;let N5:=Gb.trans Gp;generalize upd (upd H4 b (.tup [v])) p (.tup ([V.str (Hr.say t).wd]++[v]))=H5 at S5 ep N5;rw[show 0+(Hr.say t).wd.length+1+t.txt.length=(Hr.say t).str.length by omega]at S5;let%[dx5,fs5,hs5|sf5]:=id S5;erw[0,g,dx5,fs5,1,hs5,sf5.no5,g,_,0,S5,tl,6];erw[0,q _ H5 (.say ep (T4.mono (aV N5))) λc o e=>N5 _ _ (B4 c o (aP e nx) (N3 c o e))]
 |iff t n=>
   erw[0,1,0,6];apply aF (isF (x:="if") ⋯) ?_;erw[0,1,0,6];apply aF (isF (x:="if") ⋯) ?_;erw[0,1,0,6];apply bd rfl ?_;let hrl:(Hr.iff t n).rest.length=1+(t.txt.length+(1+(cu n).length)):=by
    show([32]++(t.txt++([32]++cd (cu n)))).length=_;simp only[zJ0,zP0,zH1,dQ]
   erw[ok',n0,n1]at ok;let hd2:(Hr.iff t n).str.cps.toList.drop (0+(Hr.iff t n).wd.length)=[32]++(t.txt++([32]++(cd (cu n)++[]))):=by rw[hd1,qR1];rfl
   let hd3:=cD (cD hd2);simp only[zP0,zH1]at hd3;erw[0,0,g,(1),_,_,_,t,0,S3,tl,3,hd2,.inr %[(32),0|.inl rfl],ok'.1,ok'.2.2,by have:=ok'.2.2;omega,by have:=ok'.2.1;omega,λv H4 T4 S4 B4=>?_];let ea4:=du S3 B4 _ _ ea;erw[0,g,_,_,_,n,[],1,S4,tl,3,hd3,.inl rfl,n0,n1,λH5 S5 B5=>?_];let ea5:=du S4 B5 _ _ ea4;let T5:=T4.mono (du S4 B5);erw[y2S,λb hb=>?_];let Gb:=zE0 hb (.tup [v,.int n]);erw[a,b,2,zC0 (Gb _ _ ea5),zC0 ai,by simp,y3S,λz=>(by cases z),λ_ p hp=>?_];let Gp:=zE0 hp (.tup ([V.str (Hr.iff t n).wd]++[v,V.int n]));let S6:=(S5.same Gb).same Gp;let ep:upd (upd H5 b (.tup [v,.int n])) p (.tup ([V.str (Hr.iff t n).wd]++[v,V.int n])) p=some (.tup [.str "if",v,.int n]):=ai;let N6:=Gb.trans Gp;generalize upd (upd H5 b (.tup [v,.int n])) p (.tup ([V.str (Hr.iff t n).wd]++[v,V.int n]))=H6 at S6 ep N6;rw[show 0+(Hr.iff t n).wd.length+1+t.txt.length+1+(cu n).length=(Hr.iff t n).str.length by omega]at S6;let%[dx6,fs6,hs6|sf6]:=id S6;erw[0,g,dx6,fs6,1,hs6,sf6.no5,g,_,0,S6,tl,6];erw[0,q _ H6 (.iff ep (T5.mono (aV N6))) λc o e=>N6 _ _ (B5 c o (aP e nx) (B4 c o (aP e nx) (N3 c o e)))]
 |set x t=>
   erw[0,1,0,6];apply bd rfl ?_;let hrl:(Hr.set x t).rest.length=1+(x.length+(1+t.txt.length)):=by
    show([32]++(cd x++([32]++t.txt))).length=_;simp only[zJ0,zP0,zH1,dQ]
   erw[okx,ok']at ok;let hd2:(Hr.set x t).str.cps.toList.drop (0+(Hr.set x t).wd.length)=[32]++(cd x++([32]++(t.txt++[]))):=by rw[hd1,qR1];rfl
   let hd3:=cD (cD hd2);simp only[zP0,zH1,dQ]at hd3;erw[0,0,g,_,_,_,x,0,S3,tl,3,hd2,.inr %[(32),0|.inl rfl],okx,λH4 S4 B4=>?_];let ea4:=du S3 B4 _ _ ea;erw[0,g,(1),_,_,_,t,[],1,S4,tl,3,hd3,.inl rfl,ok'.1,ok'.2.2,by have:=ok'.2.2;omega,by have:=ok'.2.1;omega,λv H5 T5 S5 B5=>?_];let ea5:=du S4 B5 _ _ ea4;erw[y2S,λb hb=>?_];let Gb:=zE0 hb (.tup [.str x,v]);erw[a,b,2,zC0 (Gb _ _ ea5),zC0 ai,by simp,y3S,λz=>(by cases z),λ_ p hp=>?_];let Gp:=zE0 hp (.tup ([V.str (Hr.set x t).wd]++[.str x,v]));let S6:=(S5.same Gb).same Gp;let ep:upd (upd H5 b (.tup [.str x,v])) p (.tup ([V.str (Hr.set x t).wd]++[.str x,v])) p=some (.tup [.str "set",.str x,v]):=ai;let N6:=Gb.trans Gp;generalize upd (upd H5 b (.tup [.str x,v])) p (.tup ([V.str (Hr.set x t).wd]++[.str x,v]))=H6 at S6 ep N6;rw[show 0+(Hr.set x t).wd.length+1+x.length+1+t.txt.length=(Hr.set x t).str.length by omega]at S6;let%[dx6,fs6,hs6|sf6]:=id S6;erw[0,g,dx6,fs6,1,hs6,sf6.no5,g,_,0,S6,tl,6];erw[0,q _ H6 (.set ep (T5.mono (aV N6))) λc o e=>N6 _ _ (B5 c o (aP e nx) (B4 c o (aP e nx) (N3 c o e)))]
def Tm.txt_hi:∀t:Tm,t.ok->∀c∈t.txt,32<=c
 |.num n,h,c,hc=>by have:=lh h.1 c hc;omega
 |.box x,h,c,hc=>by have:=h.1 c hc;omega
 |.plain w,h,c,hc=>by have:=(nv w h).2.2.1 c hc;omega
 |.ask w a,⟨h,h1⟩,c,hc=>by
   let hc':c∈[40]++(cd w++([32]++(a.txt++[41]))):=hc;simp only[List.mem_append,jC0]at hc';rcases hc' with e | e | e | e | e
   . omega
   . have:=(zC w h).2.2.1 c e;omega
   . omega
   . exact Tm.txt_hi a h1 c e
   . omega
 |.op o a b,⟨h,h1,h2⟩,c,hc=>by
   let hc':c∈[40]++(cd o++([32]++(a.txt++([32]++(b.txt++[41]))))):=hc;simp only[List.mem_append,jC0]at hc';rcases hc' with e | e | e | e | e | e | e
   . omega
   . have:=(uE o h).2.1 c e;omega
   . omega
   . exact Tm.txt_hi a h1 c e
   . omega
   . exact Tm.txt_hi b h2 c e
   . omega
def IV{r:Hr}(ok:r.ok 20):∀c∈cd r.str,32<=c:=by
 intro c hc;let hc1:c∈cd r.wd++r.rest:=by rw[←r.codes];exact hc
 let nm:∀{n:Int},0<=n->c∈cd (cu n)->32<=c:=λh0 h=>by have:=lh h0 c h;omega
 rcases qP0 hc1 with h | h
 . have:=r.wd_ok
   let h5:∀x∈(Wu:List Str),c∈cd x->32<=c:=λx hx hc=>by have:=ly x hx c hc;omega
   cases r with
   |fin=>exact h5 "end" ⋯ h
   |go n=>exact h5 "go" ⋯ h
   |iff t n=>exact h5 "if" ⋯ h
   |set x t=>exact h5 "set" ⋯ h
   |say t=>exact h5 "say" ⋯ h
 . cases r with
   |fin=>cases h
   |go n=>
     let h':c∈[32]++cd (cu n):=h;simp only[List.mem_append,jC0]at h';rcases h' with e | e
     . omega
     . exact nm ok.1 e
   |iff t n=>
     let h':c∈[32]++(t.txt++([32]++cd (cu n))):=h;simp only[List.mem_append,jC0]at h';rcases h' with e | e | e | e
     . omega
     . exact Tm.txt_hi t ok.1.1 c e
     . omega
     . exact nm ok.2.1 e
   |set x t=>
     let h':c∈[32]++(cd x++([32]++t.txt)):=h;simp only[List.mem_append,jC0]at h';rcases h' with e | e | e | e
     . omega
     . have:=ok.1.1 c e;omega
     . omega
     . exact Tm.txt_hi t ok.2.1 c e
   |say t=>
     let h':c∈[32]++t.txt:=h;simp only[List.mem_append,jC0]at h';rcases h' with e | e
     . omega
     . exact Tm.txt_hi t (show t.fit 20 from ok).1 c e
def sv(g:uz rs)(h0:rs≠[]):Txt.split (pT rs) ("\n":Str)=rs.map Hr.str:=by
 unfold pT;rw[nl_eq,Hy];apply xY (c:=10) (λz=>h0 (List.map_eq_nil_iff.mp z)) λp hp hc=>?_
 let%[r,hr|1]:=List.mem_map.mp hp
 have:=IV (g.2 r hr) 10 hc
 omega
def BS(g:uz rs)(h0:rs≠[]):pT rs≠"":=λe=>by
 let h1:=sv g h0;rw[e,show Txt.split ("":Str) ("\n":Str)=[("":Str)]from by decide]at h1;cases rs with
 |nil=>exact h0 rfl
 |cons r l=>
   let h2:=(List.cons.inj h1).1;let h3:=r.codes;rw[←h2]at h3;let h4:cd r.wd=[]:=(List.append_eq_nil_iff.mp h3.symm).1;let h5:∀x∈(Wu:List Str),cd x≠[]:=by decide
   cases r with
   |fin=>exact h5 "end" ⋯ h4
   |go n=>exact h5 "go" ⋯ h4
   |iff t n=>exact h5 "if" ⋯ h4
   |set x t=>exact h5 "set" ⋯ h4
   |say t=>exact h5 "say" ⋯ h4
instance spReadH:∀rs:List Hr,vs=[.str (pT rs)]->uz rs->(∀(a:Addr)(tv:List V)(H':Hp),H' a=some (.tup tv)->RowsAt H' tv rs->Same H H'->Q (.ref a) H'):=1
def fV:FnScope ["text","helper","number","row"] WD (ao iL):=%[|5]
def rQ(F:#["read_helper",iL])(B:Bl mg)(X:Tx K mg)(i9:#[20,"helper_row",["text","number"],spHRw]):#[21,f,fd,WD,spReadH]:=by
 exists fV
 erw[rs,1,g,q]at h;erw[tm,gm]at X.rows;refine⟨_,(ad (aM (am aS (pv 0) aI (az _)) (af (ax (aU ae))) aE)
  (ad #[aj,1,fV,cq ae]
  (ad (cx zE1 rfl (GN rfl B.enumerate (eR jJ1 PySem.F.slot_str_split PySem.F.type_str_split Et (pv 0) %[aI|ae])) (rH rfl (eE (aX (i:=2) fV.nd rfl (.inl rfl)) (eE (aX (i:=3) fV.nd rfl (.inl rfl)) ny))) (ad (aM (am aS (pv 2) (dw (v:=.int 60) rfl gm ⟨_,rfl⟩) (az _)) bz aE)
   (af (bb (eR zF1 zM1 zN1 cP (pv 1) %[aD i9 hr ⋯ rfl %[3,2|ae]|ae])))))
  (af (ax (bc bi rfl B.tuple bt %[1|ae])))))),?_⟩
 let tl:=EY g;let r60:=g.1;erw[0,1,0,6]
 by_cases c0:rs=[]
 . subst c0;apply bd (by show V.str (pT [])=V.str "";decide) ?_;erw[zU0 _,λt ht=>?_];exact q t [] _ ai RowsAt.nil (zE0 ht _)
 apply aF (λz=>BS g c0 (CJ z)) ?_;erw[zU0 _,λL hL=>?_];let GL:=zE0 hL (.lst []);let gL:upd H L (.lst []) L=some (.lst []):=ai;generalize upd H L (.lst [])=H1 at GL gL;let ts:=sv g c0;erw[0,1,2,⋯,3,by rw[ts,zF0];omega,λa ha=>?_];rw[ts];let Ga:=zE0 ha (.lst ((rs.map Hr.str).map V.str));let ga:upd H1 a (.lst ((rs.map Hr.str).map V.str)) a=some (.lst ((rs.map Hr.str).map V.str)):=ai;let aL:a≠L:=λz=>by rw[z,gL]at ha;cases ha
 generalize upd H1 a (.lst ((rs.map Hr.str).map V.str))=H2 at Ga ga;let gL2:=Ga _ _ gL;refine⟨a,rfl,%[_|zG0 ga],Fd (K:=K) (xs:=(rs.map Hr.str).map V.str) (λi σ H'=>∃(x2 x3:Option V)(tv:List V),σ=[some (.str (pT rs)),some (.ref L),x2,x3]/\H' L=some (.lst tv)/\RowsAt H' tv (rs.take i)/\SameBut L H2 H')
  %[_,_,[],1,gL2,RowsAt.nil|SameBut.refl _ _] (λi σ H' _ NI=>by erw[_,_,_,_,_,_,h]at NI;exact zG0 (h _ _ aL ga)) ?_ ?_⟩
 . rintro i z σ H3 t hz ⟨x2,x3,tv,rfl,hL3,R3,S3⟩ ht;let hi:=(zX0 hz).1;rw[zF0,zF0]at hi;rw[zW0,zW0,Option.map_map]at hz;let%[r,hr'|1]:=qU0 hz;let Gt:=zE0 ht (.tup [.int (i:Int),.str r.str]);let hL4:=Gt _ _ hL3;let vl:=R3.1;rw[qJ0]at vl;erw[t,0,zC0 ai,1,_,0,2,6];erw[0,1,0,6];apply aF (λz=>by have:=V.int.inj z;omega) ?_;erw[0,.inl %[1,_|zG0 hL4],0,0,r,0,g.2 r (qC0 hr'),λv H4 ra S4=>?_];let S34:Same H3 H4:=Gt.trans S4;let hL5:=S34 _ _ hL3;let kp:cF H4 (upd H4 L (.lst (tv++[v]))):=EN hL5;erw[L,2,hL5,aO #[0],6];erw[_,_,tv++[v],1,ai,6,6]
   . rw[zZ0,hr'];exact((R3.mono (aV S34)).mono kp).snoc (ra.mono kp)
   . exact S3.trans ((zL0 S34).trans (SameBut.upd _))
 . rintro σ H3 ⟨x2,x3,tv,rfl,hL3,R3,S3⟩;rw[zF0,zF0,qA0]at R3;erw[0,L,0,.inl %[zG0 hL3|λt ht=>?_]];let S03:Same H H3:=λb o e=>S3 b o (aP e hL) (Ga _ _ (GL _ _ e))
   exact q t tv _ ai (R3.mono (aV (zE0 ht _))) (S03.trans (zE0 ht _))
def Cw(k:AkOk z)(nd:z.ns.Nodup)(i:Int)(h:0<z.nr):fJ z i=cR z.ns z.ts z.s z.p (z.to++[i]):=by
 let%[x,hx,ex,d0,d1|d4]:=k.deg h;unfold fJ;rw[NE h];let e:z.tru=fh z.ns z.ts z.s z.p z.to (aY z.ts x+1).toNat:=by
  unfold Ak.tru;rw[ND #[0],ex]
 let t0:z.ts≠[]:=λe=>by have:=k.gk.t1;rw[e]at this;cases this
 rw[e];exact zG (rD k.gk.pr (by have:=k.gk.p9;omega)) hx nd (λt ht=>(k.gk.tok t ht).1) t0 d1 i
def HI{ns:List Str}{p:Int}(hp:1<p){t:Tr}(ok:t.ok ns):(cnt t ns:Int)=((cG ns.length).map λst=>t.worth ns st p).sum:=by
 unfold cnt;let h:∀st∈cG ns.length,t.worth ns st p=if t.holds ns st then 1 else 0:=λst NI=>iB hp (mI _ _ NI) (oC _ _ NI) t ok
 generalize cG ns.length=l at h
 induction l with
 |nil=>rfl
 |cons a l ih=>
   let ih:=ih λst NI=>h st (qM0 _ NI)
   rw[qE0,zX1,←ih,h a qF0,List.filter_cons];cases t.holds ns a
   . simp
   . simp only[vK0,zP0];omega
def rW{ns:List Str}{ts:List Tr}{p:Int}(hp:1<p)(ok:∀t∈ts,t.ok ns):hor s p (ts.map λt=>(cnt t ns:Int))=cR ns ts s p []:=by
 rw[oh];unfold cR;let e:(ts.map λt=>(cnt t ns:Int))=ts.map λt=>((cG ns.length).map λst=>t.worth ns st p).sum:=qP1 λt ht=>HI hp (ok t ht)
 rw[e,rC s (λt st=>t.worth ns st p)];rfl
def qt(s p:Int):∀xs:List Int,hor s p (xs.map (· % p))=hor s p xs
 | []=>rfl
 |a::r=>by
   show(hor s p (r.map (· % p))*s+a % p) % p=(hor s p r*s+a) % p;rw[qt s p r,Int.add_emod_emod]
section
variable {ns:List Str}{ts:List Tr}{p:Int}{t:Tk}{rows:List Hr}
def Ey(k:GmK ns ts p)(s:Int):hor s p (ts.map λu=>(cnt u ns:Int) % p)=cR ns ts s p []:=by
 let p2:=k.p2;rw[←rW (s:=s) (p:=p) #[0] (λu hu=>(k.tok u hu).1),←qt s p (ts.map λt=>(cnt t ns:Int)),List.map_map];rfl
def sx(z:Db)(tl:z.to.length<=ns.length)(e:z.ed=cR ns ts z.s p z.to):((goOn ns ts p z).aw.1="hear" -> (goOn ns ts p z).ed=cR ns ts (goOn ns ts p z).s p (goOn ns ts p z).to)/\(¬ (goOn ns ts p z).aw.1="hear" -> (goOn ns ts p z).aw=(("believed":Str),none)):=by
 unfold goOn
 by_cases c:z.to.length<ns.length
 . rw[NE c];erw[λ_=>e,λh=>absurd rfl h]
 . rw [ND c];unfold eF;let e2:z.ed=hor z.s p (ts.map λt=>t.worth ns z.to p):=by rw[e,zR #[0]]
   rw[NE e2];erw[λh=>absurd h Im,λ_=>rfl]
structure Tru(ns:List Str)(ts:List Tr)(p:Int)(t:Tk):Prop where
 he:t.z.aw.1="hear" -> t.z.ed=cR ns ts t.z.s p t.z.to
 co:t.z.aw.1="coin" -> t.z.he≠[]->t.z.he=fh ns ts t.z.s p t.z.to (aY ts (ns.getD t.z.to.length "")+1).toNat
 cm:t.z.aw.1="coin" -> t.z.he=[]->t.z.cl=ts.map (λu=>(cnt u ns:Int) % p)/\t.z.to=[]
 en:¬ t.z.aw.1="hear" -> ¬ t.z.aw.1="coin" -> t.z.aw=(("believed":Str),none)
def iO(k:GmK ns ts p)(nd:ns.Nodup){cs:List Int}(tl:cs.length<ns.length)(r:Int):val p (fh ns ts s p cs (aY ts (ns.getD cs.length "")+1).toNat) r=cR ns ts s p (cs++[r]):=by
 let hy:ns[cs.length]?=some (ns.getD cs.length ""):=by
  rw[qG0,zM0 tl];rfl
 let hx:ns.getD cs.length ""∈ns:=qC0 hy;let t0:ts≠[]:=λe=>by have:=k.t1;rw[e]at this;cases this
 exact zG (rD k.pr (by have:=k.p9;omega)) hy nd (λu hu=>(k.tok u hu).1) t0 (k.deg _ hx).2 r
def Tru.toss(k:GmK ns ts p)(nd:ns.Nodup)(h:TkOk ns ts p t)(d:Tru ns ts p t)(hw:t.z.aw.1="coin")(r:Int):Tru ns ts p (t.toss ns ts p r):=by
 let fin:∀z:Db,z.to.length<=ns.length->z.ed=cR ns ts z.s p z.to->(t.toss ns ts p r).z=goOn ns ts p z->Tru ns ts p (t.toss ns ts p r):=λz tl e ez=>by
  let%[f1|f2]:=sx (ns:=ns) (ts:=ts) (p:=p) z tl e;let no:=iJ (ns:=ns) (ts:=ts) (p:=p) z;rw[←ez]at f1 f2 no;erw[f1,λz=>absurd z no,λz=>absurd z no,λz _=>f2 z]
 by_cases c:t.z.he=[]
 . let%[ec|et]:=d.cm hw c;apply fin { t.z with pl:=t.z.pl+1,s:=r,ed:=hor r p t.z.cl } h.gd.tl ?_ (NE c);show hor r p t.z.cl=cR ns ts r p t.z.to;rw[ec,et,Ey k]
 . let tl:=((h.gd.co hw).2 c).2;apply fin { t.z with pl:=t.z.pl+1,ed:=val p t.z.he r,to:=t.z.to++[r] } (by show(t.z.to++[r]).length<=_;rw[zJ0,qK0];omega) ?_ (ND c);show val p t.z.he r=cR ns ts t.z.s p (t.z.to++[r]);rw[d.co hw c,iO k nd tl]
end
section
variable {ns:List Str}{ts:List Tr}{p:Int}{t:Tk}{rows:List Hr}
def lF(z:Ak)(n:Nat):List Int:=(List.range n).map λk:Nat=>fJ z ((k:Int) % z.p)
def tH(z:Ak)(n:Nat):(lF z n).length=n:=by unfold lF;rw[zF0,qO0]
def lO(z:Ak)(n:Nat):lF z (n+1)=lF z n++[fJ z ((n:Int) % z.p)]:=by
 unfold lF;rw[zP1,zK0];rfl
def AI(k:GmK ns ts p)(n6:ns.length<=6)(nd:ns.Nodup)(h:TkOk ns ts p t)(hw:t.z.aw.1="hear"):lF (t.ak ns ts p) (awN t.z).toNat=fh ns ts t.z.s p t.z.to (awN t.z).toNat:=by
 let%[ok,a0,a5,tl,aw|ea]:=h.ak k n6 hw;let nr:=h.nr;let hx:ns.getD t.z.to.length ""∈ns:=by
  rw[qG0,zM0 tl];exact qR0 tl
 let dp:=(k.deg _ hx).2;unfold lF fh;apply qP1 λj hj=>?_
 let hj:=List.mem_range.mp hj;let e:(j:Int) % (t.ak ns ts p).p=(j:Int):=qL0 #[0] (by show(j:Int)<p;omega);rw[e];exact Cw ok nd (j:Int) (by show 0<t.nr;omega)
def El:¬ (("true":Str)="coin"):=by decide
def gX{z:Ak}{rows:List Hr}{n:Nat}{s:MS}(h1:s.pl<(rows.length:Int))(h2:(s.sd.length:Int)<z.mn):kc z rows (n+1) s=kc z rows n (cV z rows s):=NE %[h1|h2]
def mY{z:Ak}{rows:List Hr}{s:MS}(h:¬ (s.pl<(rows.length:Int)/\(s.sd.length:Int)<z.mn)):∀n,kc z rows n s=s
 |0=>rfl
 |n+1=>ND h
end
def bmp(p:Int)(l:List Int)(a:Nat)(m:Int):List Int:=l.set a ((l.getD a 0+m) % p)
def ow(p:Int)(l:List Int)(a:Nat)(m:Int):(bmp p l a m).length=l.length:=qJ1
def FC{l:List Int}{a:Nat}(h:a<l.length):(bmp p l a m).getD a 0=(l.getD a 0+m) % p:=by
 unfold bmp;rw[qG0,jI1 h];rfl
def Fz{a k:Nat}(h:k≠a):(bmp p l a m).getD k 0=l.getD k 0:=by
 unfold bmp;rw[qG0,jR1 (Ne.symm h),←qG0]
def Fy{l:List Int}{a:Nat}{r:Int}(hp:Pm p)(hn:(l.length:Int)<=p)(r0:0<=r)(rl:r<l.length)(ra:r≠(a:Int)):val p (bmp p l a m) r=val p l r:=by
 let%[k|1]:=zW1 r0;rw[jq hp (by rw[ow];exact hn) (by rw[ow];omega),jq hp hn #[0],Fz #[0]]
def FA{l:List Int}{a:Nat}(hp:Pm p)(hn:(l.length:Int)<=p)(al:a<l.length):val p (bmp p l a m) a=(val p l a+m) % p:=by
 rw[jq hp (by rw[ow];exact hn) (by rw[ow];omega),jq hp hn al,FC al,jB0,wE0]
def Ka{p x m:Int}(m0:¬ p ∣ m)(x0:0<=x)(x1:x<p):(x+m) % p≠x:=λe=>m0 (by
 let h:(x+m) % p=x % p:=by rw[e,qL0 x0 x1]
 have:=Int.emod_eq_emod_iff_emod_sub_eq_zero.mp h
 rw[show x+m-x=m by omega]at this;exact qK1 this)
def FB{l:List Int}{a:Nat}{m r:Int}(hp:Pm p)(hn:(l.length:Int)<=p)(al:a<l.length)(m0:¬ p ∣ m)(r1:r<p)(rl:(l.length:Int)<=r):val p (bmp p l a m) r≠val p l r:=λe=>by
 let hu:=uA hp hn;let nl:=ow p l a m;let e':p ∣ lag (λi=>(bmp p l a m).getD i 0) (wt p l.length) l.length r-lag (λi=>l.getD i 0) (wt p l.length) l.length r:=by
  apply qK1 (Int.emod_eq_emod_iff_emod_sub_eq_zero.mp ?_);let h:=e;unfold val at h;rw[nl]at h;exact h
 let hpoly:IsPoly l.length λx=>lag (λi=>(bmp p l a m).getD i 0) (wt p l.length) l.length x+(-1)*lag (λi=>l.getD i 0) (wt p l.length) l.length x:=(nZ _ _ _).add ((nZ _ _ _).mul (-1))
 let z:=IsPoly.roots hp ((List.range l.length).map λi:Nat=>if i=a then r else(i:Int)) hpoly (by rw[zF0,qO0]) ?_ ?_ (a:Int)
 . let z1:=mh (v:=λi=>(bmp p l a m).getD i 0) hu al;let z2:=mh (v:=λi=>l.getD i 0) hu al;let z1':p ∣ lag (λi=>(bmp p l a m).getD i 0) (wt p l.length) l.length a-(l.getD a 0+m) % p:=by
    let h:=z1;rw[FC al]at h;exact h
   let z3:p ∣ (l.getD a 0+m) % p-(l.getD a 0+m):=qK1 (Int.emod_eq_emod_iff_emod_sub_eq_zero.mp (jB0 ..));erw[c,hc]at z;erw[c1,h1]at z1';erw[c2,h2]at z2;erw[c3,h3]at z3;apply m0 %[c-c1+c2-c3|6];rw[wU0,vH0,wU0];omega
 . apply List.pairwise_map.mpr (List.Pairwise.imp_of_mem ?_ List.pairwise_lt_range);intro i j hi hj ij hd;let hi:=List.mem_range.mp hi;let hj:=List.mem_range.mp hj;erw[c,hc]at hd;let p1:=hp.1;let key:∀d:Int,d=p*c->0<d->d<p->False:=λd hd h0 h1=>by
    rcases jV1 c 1 with h | h
    . have:p*c<=0:=jW0 #[0] #[0]
      omega
    . have:p*1<=p*c:=qW0 h #[0]
      omega
   let key2:∀d:Int,d=p*c->-p<d->d<0->False:=λd hd h0 h1=>by
    rcases jV1 c 0 with h | h
    . have:p*c<=p*(-1):=qW0 #[0] #[0]
      omega
    . have:0<=p*c:=Int.mul_nonneg #[0] h
      omega
   by_cases ci:i=a
   . rw[NE ci,ND #[0]]at hc;exact key2 _ hc #[0] #[0]
   . rw [ND ci]at hc
     by_cases cj:j=a
     . rw[NE cj]at hc;exact key _ hc #[0] #[0]
     . rw[ND cj]at hc;exact key _ hc #[0] #[0]
 . intro x hx;let%[i,hi|1]:=List.mem_map.mp hx;let hi:=List.mem_range.mp hi
   by_cases ci:i=a
   . rw [NE ci]
     simpa [Int.sub_eq_add_neg]using e'
   . rw [ND ci];let z1:=mh (v:=λi=>(bmp p l a m).getD i 0) hu hi;let z2:=mh (v:=λi=>l.getD i 0) hu hi
     have:=Int.dvd_sub z1 z2
     simp only[Fz ci]at this;rw[show ∀A B C:Int,A-C-(B-C)=A+-1*B by intro A B C;omega]at this;exact this
section
def pz{p:Int}(hp:1<p)(x r:Int):val p [x] r=x % p:=by
 unfold val;let e:∀r:Int,lag (λi=>[x].getD i 0) (wt p 1) 1 r=lag (λi=>[x].getD i 0) (wt p 1) 1 0:=λ_=>rfl
 show lag (λi=>[x].getD i 0) (wt p 1) 1 r % p=_;rw[e];show(0+x*1*wt p 1 0) % p=_;let e1:wt p 1 0=1:=by
  show((1:Int) % p) ^ (p-2).toNat=1;rw[qL0 ⋯ hp,Int.one_pow]
 rw[e1,qX1,jK1,jK1]
def Ij(hp:Pm p)(p2:2<p):p % 2=1:=by
 let%[f,c|hc]:=hp.2 2 (fun⟨c,hc⟩=>by
  rcases jV1 c 1 with h | h
  . have:p*c<=0:=jW0 #[0] #[0]
    omega
  . have:p*1<=p*c:=qW0 h #[0]
    omega)
 rcases Int.emod_two_eq p with h | h
 . obtain ⟨q,rfl⟩:∃q,p=2*q:=%[p / 2|3]
   rw[wN0]at hc;generalize q*c=m at hc;omega
 . exact h
def qu{e:Int}(hp:Pm p)(p2:2<p)(e0:0<=e)(e1:e<p):0<=lC p e 2/\lC p e 2<p/\(lC p e 2+lC p e 2) % p=e:=by
 let o:=Ij hp p2;let hi:HA p 2=(p+1) / 2:=Ai #[0] #[0] (by
  rw[show(p+1) / 2*2=1+p by omega,Int.add_emod_right];exact qL0 ⋯ #[0])
 unfold lC;rw[ND ⋯,hi];erw[qD0 _ #[0],qH0 _ #[0],6];let h2:e*((p+1) / 2)+e*((p+1) / 2)=e+e*p:=by
  rw[←vH0,show(p+1) / 2+(p+1) / 2=1+p by omega,vH0,jK1]
 rw[←jO1,h2,Int.add_mul_emod_self_right,qL0 e0 e1]
def EZ{x y:Int}(hp:Pm p)(p2:2<p)(x0:0<=x)(x1:x<p)(y0:0<=y)(y1:y<p)(h:(x+x) % p=(y+y) % p):x=y:=by
 let o:=Ij hp p2;let%[c|hc]:=qK1 (Int.emod_eq_emod_iff_emod_sub_eq_zero.mp h);rcases jV1 c (-1)with h1 | h1
 . have:p*c<=p*(-2):=qW0 #[0] #[0]
   omega
 . rcases jV1 1 c with h2 | h2
   . have:p*2<=p*c:=qW0 #[0] #[0]
     omega
   . have:c=-1∨c=0∨c=1:=#[0]
     rcases this with rfl | rfl | rfl <;> omega
def fX(p e:Int)(L:List Int):List Int:=if L.length=1 then [lC p e 2]else L.set 1 ((e-L.getD 0 0) % p)
variable {p e:Int}{L:List Int}
def nU:(fX p e L).length=L.length:=by
 unfold fX
 split
 . next c=>rw[c];rfl
 . exact qJ1
def IS(x:Int):(L.set 1 x).getD 0 0=L.getD 0 0:=by
 rw[qG0,jR1 ⋯,←qG0]
def IR{x:Int}(h:1<L.length):(L.set 1 x).getD 1 0=x:=by
 rw[qG0,jI1 h];rfl
def ED(hp:Pm p)(p2:2<p)(e0:0<=e)(e1:e<p)(l1:1<=L.length)(hn:(L.length:Int)<=p):(val p (fX p e L) 0+val p (fX p e L) 1) % p=e:=by
 unfold fX
 by_cases c:L.length=1
 . let%[h0,h1|h2]:=qu hp p2 e0 e1;rw[NE c,pz #[0],pz #[0],qL0 h0 h1];exact h2
 . rw [ND c];let a0:=jq (xs:=L.set 1 ((e-L.getD 0 0) % p)) (k:=0) hp (by rw[qJ1];exact hn) (by rw[qJ1];omega);let a1:=jq (xs:=L.set 1 ((e-L.getD 0 0) % p)) (k:=1) hp (by rw[qJ1];exact hn) (by rw[qJ1];omega);let b0:val p (L.set 1 ((e-L.getD 0 0) % p)) 0=L.getD 0 0 % p:=Eq.trans a0 (by rw[IS]);let b1:val p (L.set 1 ((e-L.getD 0 0) % p)) 1=(e-L.getD 0 0) % p:=by
    apply Eq.trans a1 ?_;rw[IR #[0],jB0]
   rw[b0,b1,←jO1,show L.getD 0 0+(e-L.getD 0 0)=e by omega,qL0 e0 e1]
def Ap(hp:Pm p)(hn:(L.length:Int)<=p)(l2:2<=L.length):(val p L 0+val p L 1) % p=(L.getD 0 0+L.getD 1 0) % p:=by
 let a0:val p L 0=_:=jq (xs:=L) (k:=0) hp hn #[0];let a1:val p L 1=_:=jq (xs:=L) (k:=1) hp hn #[0];rw[a0,a1,←jO1]
def EC(hp:Pm p)(p2:2<p)(ok:bL L p)(l1:1<=L.length)(hn:(L.length:Int)<=p)(h:(val p L 0+val p L 1) % p=e):fX p e L=L:=by
 let e0:0<=e:=by rw[←h];exact qD0 _ #[0]
 let e1:e<p:=by rw[←h];exact qH0 _ #[0]
 unfold fX
 by_cases c:L.length=1
 . let%[h0,h1|h2]:=qu hp p2 e0 e1;rw[NE c];let%[x|1]:=List.length_eq_one_iff.mp c;let%[x0|x1]:=ok x (List.mem_singleton.mpr rfl);rw[pz #[0],pz #[0],qL0 x0 x1]at h;rw[EZ hp p2 h0 h1 x0 x1 (h2.trans h.symm)]
 . rw [ND c];let l2:1<L.length:=#[0]
   rw [Ap hp hn #[0]]at h;let r1:=iY ok #[0] 1;let e2:(e-L.getD 0 0) % p=L[1]:=by
    rw[←h,Int.emod_sub_emod,show L.getD 0 0+L.getD 1 0-L.getD 0 0=L.getD 1 0 by omega,qL0 r1.1 r1.2,qG0,zM0 l2];rfl
   rw[e2];exact List.set_getElem_self l2
def BG(hp:Pm p)(p2:2<p)(ok:bL L p)(e0:0<=e)(e1:e<p)(l1:1<=L.length)(hn:(L.length:Int)<=p)(h:¬ (val p L 0+val p L 1) % p=e){r:Int}(r0:0<=r)(rp:r<p):val p (fX p e L) r=val p L r↔(L.length≠1/\r<(L.length:Int)/\r≠1):=by
 by_cases c:L.length=1
 . let%[h0,h1|h2]:=qu hp p2 e0 e1;let%[x|1]:=List.length_eq_one_iff.mp c;let%[x0|x1]:=ok x (List.mem_singleton.mpr rfl);rw[pz #[0],pz #[0],qL0 x0 x1]at h;unfold fX;rw[NE c,pz #[0],pz #[0],qL0 x0 x1,qL0 h0 h1]
   constructor
   . intro z;rw[z]at h2;exact absurd h2 h
   . intro z;exact absurd c z.1
 . rw [Ap hp hn #[0]]at h;let m0:¬ p ∣ e-(L.getD 0 0+L.getD 1 0):=λz=>h (by
    have:=Int.emod_eq_emod_iff_emod_sub_eq_zero.mpr (Int.emod_eq_zero_of_dvd z)
    rw[←this,qL0 e0 e1])
   let eb:fX p e L=bmp p L 1 (e-(L.getD 0 0+L.getD 1 0)):=by
    unfold fX bmp;rw[ND c]
    congr 2
    omega
   rw[eb];let rg:=uB (p:=p) #[0] L 1
   constructor
   . intro z;erw[c,6,λr1=>?_]
     . rcases jV1 r (L.length:Int)with q | q
       . exact q
       . exact absurd z (FB hp hn #[0] m0 rp q)
     . subst r1;let b:val p (bmp p L 1 (e-(L.getD 0 0+L.getD 1 0))) 1=(val p L 1+(e-(L.getD 0 0+L.getD 1 0))) % p:=FA (a:=1) hp hn #[0];exact Ka m0 rg.1 rg.2 (b.symm.trans z)
   . rintro⟨_,q,q1⟩;exact Fy hp hn r0 q #[0]
end
section
variable {ns:List Str}{ts:List Tr}{p:Int}{t:Tk}{rows:List Hr}{cl:List Int}
structure Lia(ns:List Str)(ts:List Tr)(p:Int)(rows:List Hr)(cl:List Int):Prop where
 cl:(Tk.new ts).said ns ts p rows=cl.map (· % p)
 l0:((Tk.new ts).run ns ts p rows).bx "lied"=1
 ro:∀t,TkOk ns ts p t->t.z.aw.1="hear" -> t.bx "lied"=1->t.said ns ts p rows=fX p t.z.ed (fh ns ts t.z.s p t.z.to (awN t.z).toNat)/\(t.run ns ts p rows).bx "lied"=1
def vf(p0:0<p)(s:Int)(cs:List Int)(n:Nat):bL (fh ns ts s p cs n) p:=λx hx=>by
 unfold fh at hx;let%[j,_|1]:=List.mem_map.mp hx;erw[qD0 _ #[0],qH0 _ p0]
def FF(h:TkOk ns ts p t):(t.ask ns ts p rows).z=dI p (t.said ns ts p rows) { t.z with pl:=t.z.pl+((t.said ns ts p rows).length:Int) }:=ND h.cl
def Tru.ask2(k:GmK ns ts p)(n6:ns.length<=6)(nd:ns.Nodup)(hs:t.said ns ts p rows=fh ns ts t.z.s p t.z.to (awN t.z).toNat)(h:TkOk ns ts p t)(d:Tru ns ts p t)(hw:t.z.aw.1="hear"):Tru ns ts p (t.ask ns ts p rows):=by
 let%[_,_,_,tl,aw|ea]:=h.ak k n6 hw;let x0:=h.gd.hear_ne k (h.hear (rows:=rows) k n6 hw);let e:=FF (rows:=rows) h;let es:t.said ns ts p rows=fh ns ts t.z.s p t.z.to (aY ts (ns.getD t.z.to.length "")+1).toNat:=by rw[hs,ea]
 let ac:(t.ask ns ts p rows).z.aw=(("coin":Str),none):=by
  rw[e];unfold dI;rw[NE];show(val p (t.said ns ts p rows) 0+val p (t.said ns ts p rows) 1) % p=t.z.ed;rw[es,iO k nd tl,iO k nd tl,oR tl,d.he hw]
 erw[λz=>?_,λ_ _=>?_,λ_ z=>?_,λ_ z=>?_]
 . rw[ac]at z;exact absurd z iU
 . rw[e];exact es
 . rw[e]at z;exact absurd z x0
 . rw[ac]at z;exact absurd rfl z
def Af(k:GmK ns ts p)(n6:ns.length<=6)(h:TkOk ns ts p t)(ch:t.z.aw.1="hear"):Pm p/\2<p/\1<=(fh ns ts t.z.s p t.z.to (awN t.z).toNat).length/\((fh ns ts t.z.s p t.z.to (awN t.z).toNat).length:Int)=aY ts (ns.getD t.z.to.length "")+1/\((fh ns ts t.z.s p t.z.to (awN t.z).toNat).length:Int)<=p/\0<=t.z.ed/\t.z.ed<p:=by
 let%[_,a0,_,tl,_|ea]:=h.ak k n6 ch;let hx:ns.getD t.z.to.length ""∈ns:=by
  rw[qG0,zM0 tl];exact qR0 tl
 let%[d0|d1]:=k.deg _ hx;rw[iS];erw[rD k.pr (by have:=k.p9;omega),k.p2,3,3,3,h.gd.e0,h.gd.e1]
def nV(k:GmK ns ts p)(n6:ns.length<=6)(nd:ns.Nodup)(hn:Lia ns ts p rows cl):∀(n:Nat) (t:Tk) (cs:List Int),TkOk ns ts p t->Tru ns ts p t->t.bx "lied"=1->bL cs p->bO ns t.z<=n->(cw ns ts p rows cs n t).2.z.aw=(("believed":Str),none)
 |0,t,cs,h,d,hb,hc,hs=>d.en (λz=>by have:=(fb h (.inl z)).1;omega) (λz=>by have:=(fb h (.inr z)).1;omega)
 |n+1,t,cs,h,d,hb,hc,hs=>by
   let p2:=k.p2
   by_cases ch:t.z.aw.1="hear"
   . rw[eZ ch];let%[o,s|_]:=h.ask (rows:=rows) k n6 ch;let%[hp,_,l1,le,lp,e0|e1]:=Af k n6 h ch;let%[hs1|hb1]:=hn.ro t h ch hb;let%[_,_,_,tl,aw|ea]:=h.ak k n6 ch;rw[EC hp p2 (vf #[0] _ _ _) l1 lp (by rw[ea,iO k nd tl,iO k nd tl,oR tl,d.he ch])]at hs1;exact nV k n6 nd hn n _ cs o (d.ask2 k n6 nd hs1 h ch) hb1 hc #[0]
   . by_cases cc:t.z.aw.1="coin"
     . rw[dJ cc];let%[r0|r1]:=lu hc #[0];let%[o,s|_]:=h.toss k cc r0 r1;exact nV k n6 nd hn n _ cs.tail o (d.toss k nd h cc _) hb (mx hc) #[0]
     . rw[dA ch cc];exact d.en ch cc
def lieB:List Int->List Int->Bool
 |d::ds,r::cs=>decide (d≠0/\r<=d/\r≠1)||lieB ds cs
 |_,_=>false
def EE(ds:List Int):lieB ds []=false:=by cases ds <;> rfl
def tV(k:GmK ns ts p)(n6:ns.length<=6)(hn:Lia ns ts p rows cl){r:Int}{cs:List Int}{f:Nat}(h:TkOk ns ts p t)(hb:t.bx "lied"=1)(ch:t.z.aw.1="hear")(r0:0<=r)(r1:r<p):
 (∃t2 z2,(cw ns ts p rows (r::cs) (f+2) t)=(.say (t.said ns ts p rows)::.coin r::(cw ns ts p rows cs f t2).1,(cw ns ts p rows cs f t2).2)/\TkOk ns ts p t2/\t2.bx "lied"=1/\t2.z=goOn ns ts p z2/\z2.s=t.z.s/\z2.to=t.z.to++[r]/\z2.ed=val p (t.said ns ts p rows) r):=by
 let%[hp,p2,l1,le,lp,e0|e1]:=Af k n6 h ch;let%[hs1|hb1]:=hn.ro t h ch hb;let%[o,s|_]:=h.ask (rows:=rows) k n6 ch;let x0:=h.gd.hear_ne k (h.hear (rows:=rows) k n6 ch);let ez:=FF (rows:=rows) h;let ac:(t.ask ns ts p rows).z.aw=(("coin":Str),none):=by
  rw[ez];unfold dI;rw[NE];show(val p (t.said ns ts p rows) 0+val p (t.said ns ts p rows) 1) % p=t.z.ed;rw[hs1];exact ED hp p2 e0 e1 l1 lp
 let cc:(t.ask ns ts p rows).z.aw.1="coin":=by rw[ac]
 let he:(t.ask ns ts p rows).z.he≠[]:=by rw[ez];exact x0
 let%[o2|_]:=o.toss k cc r0 r1;erw[(t.ask ns ts p rows).toss ns ts p r,{ (t.ask ns ts p rows).z with pl:=(t.ask ns ts p rows).z.pl+1,ed:=val p (t.ask ns ts p rows).z.he r,to:=(t.ask ns ts p rows).z.to++[r] },6,o2,hb1,ND he,6,6,6]
 . rw[eZ ch,dJ cc];rfl
 . rw[ez];rfl
 . rw[ez];rfl
 . rw[ez];rfl
def uc(ez:t.z=goOn ns ts p z)(c:z.to.length<ns.length):t.z.aw.1="hear"/\t.z.to=z.to/\t.z.ed=z.ed/\t.z.s=z.s:=by
 let e:t.z={ z with aw:=("hear",some (aY ts (ns.getD z.to.length "")+1)) }:=ez.trans (NE c);rw[e];erw[1,1,1,1]
def Ae(k:GmK ns ts p)(n6:ns.length<=6)(nd:ns.Nodup)(hn:Lia ns ts p rows cl):∀(cs:List Int) (f:Nat) (t:Tk) (z:Db),TkOk ns ts p t->t.bx "lied"=1->t.z=goOn ns ts p z->z.ed≠cR ns ts z.s p z.to->z.to.length+cs.length=ns.length->bL cs p->2*cs.length<=f->decide ((cw ns ts p rows cs f t).2.z.aw.1="believed")=lieB ((ns.drop z.to.length).map (aY ts)) cs
 | [],f,t,z,h,hb,ez,e,hl,hc,hf=>by
   rw [zH1]at hl;let ea:t.z.aw=(("caught":Str),some ((z.to.length:Int)+1)):=by
    rw[ez];unfold goOn;rw[ND #[0]];unfold eF;rw[ND];rw[←zR #[0]];exact e
   rw[dA (by rw[ea];exact wP) (by rw[ea];exact Io),EE,ea];exact zB1 wO
 |r::cs,f,t,z,h,hb,ez,e,hl,hc,hf=>by
   rw[zP0]at hl hf;obtain⟨f,rfl⟩:∃m,f=m+2:=%[f-2|3]
   let c:z.to.length<ns.length:=#[0]
   let%[ch,et,ee|es]:=uc ez c;let%[r0|r1]:=hc r qF0;let hc':bL cs p:=λx hx=>hc x (qM0 _ hx)
   let%[hp,p2,l1,le,lp,e0|e1]:=Af k n6 h ch;let%[hs1|_]:=hn.ro t h ch hb;let%[_,_,_,tl,_|ea]:=h.ak k n6 ch;let%[t2,z2,e2,o2,hb2,ez2,s2,to2|ed2]:=tV (cs:=cs) (f:=f) k n6 hn h hb ch r0 r1;let vr:∀x,val p (fh ns ts t.z.s p t.z.to (awN t.z).toNat) x=cR ns ts t.z.s p (t.z.to++[x]):=λx=>by rw[ea];exact iO k nd tl x
   let hne:¬ (val p (fh ns ts t.z.s p t.z.to (awN t.z).toNat) 0+val p (fh ns ts t.z.s p t.z.to (awN t.z).toNat) 1) % p=t.z.ed:=by
    rw[vr,vr,oR tl,ee,et,es];exact Ne.symm e
   let ro:=BG hp p2 (vf #[0] _ _ _) e0 e1 l1 lp hne r0 r1;rw[←hs1,vr,←ed2,le,et,es]at ro;rw[et,es]at le;let tl2:z2.to.length<=ns.length:=by rw[to2,et,zJ0,qK0];omega
   let dr:(ns.drop z.to.length).map (aY ts)=aY ts (ns.getD z.to.length "")::(ns.drop (z.to.length+1)).map (aY ts):=by
    rw[qQ1 c,qE0,qG0,zM0 c];rfl
   let l2:z2.to.length=z.to.length+1:=by rw[to2,et,zJ0,qK0]
   rw[e2,dr];show decide ((cw ns ts p rows cs f t2).2.z.aw.1="believed")=(decide _||lieB _ cs)
   by_cases cr:z2.ed=cR ns ts t.z.s p (t.z.to++[r])
   . let d2:Tru ns ts p t2:=by
      let%[f1|f2]:=sx (ns:=ns) (ts:=ts) (p:=p) z2 tl2 (by rw[cr,s2,to2]);let no:=iJ (ns:=ns) (ts:=ts) (p:=p) z2;rw[←ez2]at f1 f2 no;erw[f1,λz=>absurd z no,λz=>absurd z no,λz _=>f2 z]
     let st:bO ns t2.z<=f:=by
      have:=(iX (ns:=ns) (ts:=ts) (p:=p) z2).1
      rw[←ez2]at this;omega
     rw[nV k n6 nd hn f t2 cs o2 d2 hb2 hc' st];rw[et,es]at cr;let%[q1,q2|q3]:=ro.mp cr;rw[zC1 rfl,zC1 (%[3,3|q3]:aY ts (ns.getD z.to.length "")≠0/\r<=aY ts (ns.getD z.to.length "")/\r≠1)];rfl
   . rw[Ae k n6 nd hn cs f t2 z2 o2 hb2 ez2 (by rw[s2,to2];exact cr) #[0] hc' #[0],l2];rw[et,es]at cr;rw[zB1 (λq:aY ts (ns.getD z.to.length "")≠0/\r<=aY ts (ns.getD z.to.length "")/\r≠1=>cr (ro.mpr %[3,3|q.2.2]))];rfl
def iV(ns:List Str)(ts:List Tr)(p s:Int):Int->List Int->List Int->List TR
 |_,_,[]=>[]
 |e,pre,r::cs=>.say (fX p e (fh ns ts s p pre (aY ts (ns.getD pre.length "")+1).toNat))::.coin r::iV ns ts p s (val p (fX p e (fh ns ts s p pre (aY ts (ns.getD pre.length "")+1).toNat)) r) (pre++[r]) cs
def wX(k:GmK ns ts p)(n6:ns.length<=6)(hn:Lia ns ts p rows cl):∀(cs:List Int) (f:Nat) (t:Tk) (z:Db),TkOk ns ts p t->t.bx "lied"=1->t.z=goOn ns ts p z->z.to.length+cs.length=ns.length->bL cs p->2*cs.length<=f->(cw ns ts p rows cs f t).1=iV ns ts p z.s z.ed z.to cs
 | [],f,t,z,h,hb,ez,hl,hc,hf=>by
   rw [zH1]at hl;let no:=iJ (ns:=ns) (ts:=ts) (p:=p) z;rw[←ez]at no;let nh:¬ t.z.aw.1="hear":=λq=>by
    have:=(h.ak k n6 q).2.2.2.1
    rw[ez,(sw z).2.1]at this;omega
   rw[dA nh no];rfl
 |r::cs,f,t,z,h,hb,ez,hl,hc,hf=>by
   rw[zP0]at hl hf;obtain⟨f,rfl⟩:∃m,f=m+2:=%[f-2|3]
   let%[ch,et,ee|es]:=uc ez #[0];let%[r0|r1]:=hc r qF0;let%[hs1|_]:=hn.ro t h ch hb;let%[_,_,_,tl,_|ea]:=h.ak k n6 ch;let%[t2,z2,e2,o2,hb2,ez2,s2,to2|ed2]:=tV (cs:=cs) (f:=f) k n6 hn h hb ch r0 r1;rw[ea,ee,es,et]at hs1;rw[e2,hs1];show TR.say _::TR.coin r::(cw ns ts p rows cs f t2).1=_;rw[wX k n6 hn cs f t2 z2 o2 hb2 ez2 (by rw[to2,et,zJ0,qK0];omega) (λx hx=>hc x (qM0 _ hx)) #[0],s2,to2,ed2,es,et,hs1];rfl
def sOf(ts:List Tr)(c:List Int):Int:=if ts.length=1 then 0 else c.headD 0
def gI(ts:List Tr)(c:List Int):List Int:=if ts.length=1 then c else c.tail
def tW(k:GmK ns ts p)(n6:ns.length<=6)(hn:Lia ns ts p rows cl)(hc:bL c p)(hl:c.length=bN ns ts):
 ∃t z f,TkOk ns ts p t/\t.bx "lied"=1/\t.z=goOn ns ts p z/\z.to=[]/\z.s=sOf ts c/\z.ed=hor (sOf ts c) p cl/\(gI ts c).length=ns.length/\bL (gI ts c) p/\2*ns.length<=f/\(jT ns ts p rows c).2=(cw ns ts p rows (gI ts c) f t).2/\(jT ns ts p rows c).1=.claims (cl.map (· % p))::((if ts.length=1 then []else [.coin (sOf ts c)])++(cw ns ts p rows (gI ts c) f t).1):=by
 let p2:=k.p2;let%[o,_,_|_]:=li (rows:=rows) k n6;let e0:cX ns ts p ‹Tk.s› (Db.new ts)=iW ns ts p ‹Tk.s› { Db.new ts with pl:=(Db.new ts).pl+(‹Tk.s›.length:Int) }:=NE rfl;unfold bN at hl
 by_cases c1:ts.length=1
 . rw [NE c1]at hl;let es:sOf ts c=0:=NE c1;let er:gI ts c=c:=NE c1;rw[es,er];erw[‹Tk.a›,{ Db.new ts with pl:=(Db.new ts).pl+(‹Tk.s›.length:Int),cl:=‹Tk.s›,s:=0,ed:=hor 0 p ‹Tk.s› },(20),o,hn.l0,e0.trans (NE c1),1,1,6,hl,hc,3,1,6]
   . show hor 0 p ‹Tk.s›=_;rw[hn.cl,qt]
   . rw[NE c1];unfold jT;rw[hn.cl];rfl
 . rw [ND c1]at hl;let es:sOf ts c=c.headD 0:=ND c1;let er:gI ts c=c.tail:=ND c1;let ez:‹Tk.a›.z={ Db.new ts with pl:=(Db.new ts).pl+(‹Tk.s›.length:Int),cl:=‹Tk.s›,aw:=("coin",none) }:=e0.trans (ND c1);let cc:‹Tk.a›.z.aw.1="coin":=by rw[ez]
   let he:‹Tk.a›.z.he=[]:=by rw[ez];rfl
   let%[r0|r1]:=lu hc #[0];let%[o2|_]:=o.toss k cc r0 r1;rw[es,er];erw[‹Tk.a›.toss ns ts p (c.headD 0),{ ‹Tk.a›.z with pl:=‹Tk.a›.z.pl+1,s:=c.headD 0,ed:=hor (c.headD 0) p ‹Tk.a›.z.cl },(19),o2,hn.l0,NE he,6,1,6,by rw[List.length_tail];omega,mx hc,3,6,6]
   . rw[ez];rfl
   . show hor (c.headD 0) p ‹Tk.a›.z.cl=_;rw[ez];show hor (c.headD 0) p ‹Tk.s›=_;rw[hn.cl,qt]
   . show(cw ns ts p rows c (19+1) ‹Tk.a›).2=_;rw[dJ cc]
   . rw[ND c1];show TR.claims ‹Tk.s›::(cw ns ts p rows c (19+1) ‹Tk.a›).1=_;rw[dJ cc,hn.cl];rfl
def EG(k:GmK ns ts p)(n6:ns.length<=6)(hn:Lia ns ts p rows cl)(hc:bL c p)(hl:c.length=bN ns ts):(jT ns ts p rows c).1=.claims (cl.map (· % p))::((if ts.length=1 then []else [.coin (sOf ts c)])++iV ns ts p (sOf ts c) (hor (sOf ts c) p cl) [] (gI ts c)):=by
 let%[t,z,f,o,hb,ez,eto,es,ee,rl,rc,hf,_|e1]:=tW k n6 hn hc hl;rw[e1,wX k n6 hn (gI ts c) f t z o hb ez (by rw[eto,zH1];omega) rc #[0],es,ee,eto]
def rZ(ns:List Str)(ts:List Tr)(p:Int)(cl c:List Int):Bool:=decide (evl (sOf ts c) (ovr cl (ts.map λt=>(cnt t ns:Int))) % p=0)||lieB (ns.map (aY ts)) (gI ts c)
def su(s p:Int):∀c:List Int,hor s p c=evl s c % p
 | []=>rfl
 |a::r=>by
   show(hor s p r*s+a) % p=(a+s*evl s r) % p;rw[su s p r,←wE0,jN0,jB0,←jN0,wE0,qX0,vL1]
def Am(s:Int):∀(xs cs:List Int),xs.length=cs.length->evl s (ovr xs cs)=evl s xs-evl s cs
 | [],[],_=>rfl
 |x::xs,c::cs,h=>by
   let ih:=Am s xs cs (Nat.succ.inj h);show(x-c)+s*evl s (ovr xs cs)=(x+s*evl s xs)-(c+s*evl s cs)
   rw[ih,wU0];omega
def Hs(k:GmK ns ts p)(n6:ns.length<=6)(nd:ns.Nodup)(hn:Lia ns ts p rows cl)(ll:cl.length=ts.length)(hc:bL c p)(hl:c.length=bN ns ts):decide ((jT ns ts p rows c).2.z.aw.1="believed")=rZ ns ts p cl c:=by
 let p2:=k.p2;let%[t,z,f,o,hb,ez,eto,es,ee,rl,rc,hf,e2|_]:=tW k n6 hn hc hl;let ev:hor (sOf ts c) p cl=cR ns ts (sOf ts c) p []↔evl (sOf ts c) (ovr cl (ts.map λt=>(cnt t ns:Int))) % p=0:=by
  rw[←rW #[0] (λu hu=>(k.tok u hu).1),su,su,Am _ _ _ (by rw[ll,zF0])];exact Int.emod_eq_emod_iff_emod_sub_eq_zero
 rw[e2];unfold rZ
 by_cases cr:evl (sOf ts c) (ovr cl (ts.map λt=>(cnt t ns:Int))) % p=0
 . let d2:Tru ns ts p t:=by
    let%[f1|f2]:=sx (ns:=ns) (ts:=ts) (p:=p) z (by rw[eto];exact zU0 _) (by rw[ee,es,eto];exact ev.mpr cr);let no:=iJ (ns:=ns) (ts:=ts) (p:=p) z;rw[←ez]at f1 f2 no;erw[f1,λz=>absurd z no,λz=>absurd z no,λz _=>f2 z]
   let st:bO ns t.z<=f:=by
    have:=(iX (ns:=ns) (ts:=ts) (p:=p) z).1
    rw[←ez]at this;omega
   rw[nV k n6 nd hn f t (gI ts c) o d2 hb rc st,zC1 rfl,zC1 cr];rfl
 . rw[Ae k n6 nd hn (gI ts c) f t z o hb ez (by rw[ee,es,eto];exact λq=>cr (ev.mp q)) (by rw[eto,zH1];omega) rc #[0],zB1 cr,eto];rfl
end
section
def Ge{P:Nat}(q:Nat->Bool)(v:Nat):(((List.range P).map λr=>if q r=true then v else 0).sum:Nat)=v*((List.range P).filter q).length:=by
 induction P with
 |zero=>rfl
 |succ P ih=>
   rw[zP1,zK0,jY1,qL1,zJ0,ih,Nat.mul_add]
   congr 1
   by_cases c:q P=true
   . simp [c]
   . simp [c]
def Gc{P:Nat}(q:Nat->Bool)(a b:Nat):(((List.range P).map λr=>if q r=true then a else b).sum:Nat)+b*((List.range P).filter q).length=a*((List.range P).filter q).length+b*P:=by
 induction P with
 |zero=>rfl
 |succ P ih=>
   rw[zP1,zK0,jY1,qL1,zJ0,Nat.mul_add,Nat.mul_add,Nat.mul_add]
   by_cases c:q P=true
   . simp [c]
     omega
   . simp [c]
     omega
def sB{α:Type}(f:α->Bool):∀L:List α,(L.filter f).length+(L.filter λc=>!f c).length=L.length
 | []=>rfl
 |a::r=>by
   let ih:=sB f r;cases e:f a <;> simp [e] <;> omega
def Fv{d:Nat}:∀P:Nat,((List.range P).filter λx:Nat=>decide ((d:Int)≠0/\(x:Int)<=(d:Int)/\(x:Int)≠1)).length=if d=0 then 0 else min P (d+1)-(if 1<min P (d+1)then 1 else 0)
 |0=>by simp
 |P+1=>by
   rw[zP1,qL1,zJ0,Fv P]
   by_cases c:(d:Int)≠0/\(P:Int)<=(d:Int)/\(P:Int)≠1
   . let hd:¬ d=0:=#[0]
     rw[List.filter_cons_of_pos #[c,0],ND hd,ND hd];show _+1=_
     split <;> split <;> omega
   . rw [List.filter_cons_of_neg #[c,0]];show _+0=_
     by_cases d0:d=0
     . rw[NE d0,NE d0]
     . rw [ND d0,ND d0]
       split <;> split <;> omega
def JT{d:Int}{P:Nat}(d0:0<=d)(dp:d<P):((List.range P).filter λx:Nat=>!decide (d≠0/\(x:Int)<=d/\(x:Int)≠1)).length=P-d.toNat:=by
 let%[n|1]:=zW1 d0;let h:=sB (λx:Nat=>decide ((n:Int)≠0/\(x:Int)<=(n:Int)/\(x:Int)≠1)) (List.range P);rw[Fv,qO0]at h
 by_cases n0:n=0
 . rw[NE n0]at h;omega
 . rw [ND n0]at h
   split at h <;> omega
def cgr(p:Int):List Int->Int
 | []=>1
 |d::ds=>(p-d)*cgr p ds
def xD(p:Int):∀(ds:List Int)(a:Int),ds.foldl (λa d=>a*(p-d)) a=a*cgr p ds
 | [],a=>(jK1 a).symm
 |d::ds,a=>by
   show ds.foldl _ (a*(p-d))=a*((p-d)*cgr p ds)
   rw[xD p ds,wN0]
def HL(p:Int)(ds:List Int):cgt p ds=cgr p ds:=by
 unfold cgt;rw[xD,Int.one_mul]
def Ax{P:Nat}:∀(ds:List Int),(∀d∈ds,0<=d/\d<(P:Int))->(((cJ P ds.length).filter λc=>!lieB ds c).length:Int)=cgr P ds
 | [],_=>rfl
 |d::ds,h=>by
   let ih:=Ax ds λx hx=>h x (qM0 _ hx)
   let%[d0|dp]:=h d qF0;show(((List.filter (λc=>!lieB (d::ds) c) ((List.range P).flatMap λr:Nat=>(cJ P ds.length).map ((r:Int)::·))).length:Nat):Int)=(P-d)*cgr P ds;rw[List.filter_flatMap,wV0];let e:((List.range P).map λa:Nat=>(((cJ P ds.length).map ((a:Int)::·)).filter λc=>!lieB (d::ds) c).length)=(List.range P).map λr:Nat=>if(!decide (d≠0/\(r:Int)<=d/\(r:Int)≠1))=true then((cJ P ds.length).filter λc=>!lieB ds c).length else 0:=qP1 λr _=>by
    rw[wV1,zF0]
    by_cases c:d≠0/\(r:Int)<=d/\(r:Int)≠1
    . rw [ND (by rw[zC1 c];decide),List.length_eq_zero_iff];apply List.filter_eq_nil_iff.mpr λx _=>?_
      show ¬ (!(decide (d≠0/\(r:Int)<=d/\(r:Int)≠1)||lieB ds x))=true;rw[zC1 c]
      simp
    . rw [NE (by rw[zB1 c];rfl)]
      congr 1
      apply jE1 λx _=>?_
      show(!(decide (d≠0/\(r:Int)<=d/\(r:Int)≠1)||lieB ds x))=_;rw[zB1 c];rfl
   rw[e,Ge (λr:Nat=>!decide (d≠0/\(r:Int)<=d/\(r:Int)≠1)),JT d0 dp,Int.natCast_mul,ih,qX0]
   congr 1
   omega
variable {ns:List Str}{ts:List Tr}{p:Int}{rows:List Hr}{cl:List Int}
def Fu(k:GmK ns ts p):(((cJ p.toNat ns.length).filter λc=>lieB (ns.map (aY ts)) c).length:Int)=p ^ ns.length-cgt p (ns.map (aY ts)):=by
 let p2:=k.p2;let ep:(p.toNat:Int)=p:=#[0]
 let h:=Ax (P:=p.toNat) (ns.map (aY ts)) (λd hd=>by
  let%[x,hx|1]:=List.mem_map.mp hd;rw[ep];exact k.deg x hx)
 rw[zF0,ep,←HL]at h;let f2:=sB (λc=>lieB (ns.map (aY ts)) c) (cJ p.toNat ns.length);rw[kN]at f2;let e4:((p.toNat ^ ns.length:Nat):Int)=p ^ ns.length:=by rw[wW0,ep]
 omega
def Ho(k:GmK ns ts p)(ll:cl.length=ts.length):(((cJ p.toNat (bN ns ts)).filter (rZ ns ts p cl)).length:Int)=Cb p ns.length ts.length (cgt p (ns.map (aY ts))) (ovr cl (ts.map λt=>(cnt t ns:Int))):=by
 let p2:=k.p2;let ep:(p.toNat:Int)=p:=#[0]
 let hB:=Fu k;let e4:((p.toNat ^ ns.length:Nat):Int)=p ^ ns.length:=by rw[wW0,ep]
 let ol:(ovr cl (ts.map λt=>(cnt t ns:Int))).length=ts.length:=by rw[zX (by rw[ll,zF0]),ll]
 unfold Cb bN;generalize hov:ovr cl (ts.map λt=>(cnt t ns:Int))=ov at ol
 by_cases c1:ts.length=1
 . rw [NE c1,NE c1];let%[a|1]:=List.length_eq_one_iff.mp (ol.trans c1);let eC:∀c∈cJ p.toNat ns.length,rZ ns ts p cl c=(decide (a % p=0)||lieB (ns.map (aY ts)) c):=λc _=>by
    unfold rZ sOf gI;rw[hov,NE c1,NE c1,xu,Int.zero_mul,Int.add_zero]
   rw[jE1 eC];show _=if a % p=0 then _ else _
   by_cases c:a % p=0
   . rw[NE c,List.filter_eq_self.mpr (λx _=>by rw[zC1 c];rfl),kN,e4]
   . rw [ND c,←hB]
     congr 2
     apply jE1 λx _=>?_
     rw[zB1 c];rfl
 . rw [ND c1,ND c1];show(((List.filter (rZ ns ts p cl) ((List.range p.toNat).flatMap λr:Nat=>(cJ p.toNat ns.length).map ((r:Int)::·))).length:Nat):Int)=_;rw[List.filter_flatMap,wV0];let e:((List.range p.toNat).map λa:Nat=>(((cJ p.toNat ns.length).map ((a:Int)::·)).filter (rZ ns ts p cl)).length)=(List.range p.toNat).map λr:Nat=>if decide (evl (r:Int) ov % p=0)=true then p.toNat ^ ns.length else((cJ p.toNat ns.length).filter λc=>lieB (ns.map (aY ts)) c).length:=qP1 λr _=>by
    rw [wV1,zF0];let eC:∀c,(rZ ns ts p cl ∘ λx=>(r:Int)::x) c=(decide (evl (r:Int) ov % p=0)||lieB (ns.map (aY ts)) c):=λc=>by
     show rZ ns ts p cl ((r:Int)::c)=_;unfold rZ sOf gI;rw[hov,ND c1,ND c1];rfl
    by_cases c:evl (r:Int) ov % p=0
    . rw [NE (zC1 c),←kN (p:=p.toNat) ns.length]
      congr 1
      exact List.filter_eq_self.mpr (λx _=>by rw[eC,zC1 c];rfl)
    . rw [ND (by rw[zB1 c];decide)]
      congr 1
      apply jE1 λx _=>?_
      rw[eC,zB1 c];rfl
   rw [e];let h:=Gc (P:=p.toNat) (λr:Nat=>decide (evl (r:Int) ov % p=0)) (p.toNat ^ ns.length) (((cJ p.toNat ns.length).filter λc=>lieB (ns.map (aY ts)) c).length);let sl:(zO p ov).length=((List.range p.toNat).filter λr:Nat=>decide (evl (r:Int) ov % p=0)).length:=by
    unfold zO fnd;rw[zF0]
   rw[sl];generalize ((List.range p.toNat).filter λr:Nat=>decide (evl (r:Int) ov % p=0)).length=b at h ⊢;generalize (((List.range p.toNat).map λr:Nat=>if decide (evl (r:Int) ov % p=0)=true then p.toNat ^ ns.length else((cJ p.toNat ns.length).filter λc=>lieB (ns.map (aY ts)) c).length).sum:Nat)=S at h ⊢;let h':=congrArg (Nat.cast (R:=Int)) h;simp only[jN1,Int.natCast_mul]at h';rw[e4,hB,ep]at h';generalize p ^ ns.length=A at h' ⊢;generalize cgt p (ns.map (aY ts))=g at h' ⊢
   have:(b:Int)*A+(p-b)*(A-g)=A*b+(A-g)*p-(A-g)*b:=by grind
   omega
end
section
variable {ns:List Str}{ts:List Tr}{p:Int}{t:Tk}{cl:List Int}{z:Ak}{bx:Str->Int}{sd:List Int}
def liars:List Hr:=[.iff (.op "=" (.box "lied") (.num 0)) 9,.iff (.op "=" (.plain "asked") (.num 1)) 8,.say (.ask "true" (.num 0)),.say (.op "-" (.plain "due") (.ask "true" (.num 0))),.set "i" (.num 2),.say (.ask "true" (.box "i")),.set "i" (.op "+" (.box "i") (.num 1)),.go 5,.say (.op "/" (.plain "due") (.num 2)),.set "lied" (.num 1)]
def cf(cl:List Int):List Hr:=liars++cl.map λc=>.say (.num c)
def lm(cl:List Int):((cf cl).length:Int)=10+(cl.length:Int):=by
 unfold cf;rw[zJ0,zF0];show((10+cl.length:Nat):Int)=_;omega
def ls0:cV z (cf cl) %[(0),bx|sd]=⟨if opV z.p "=" (bx "lied") (0 % z.p)=0 then 1 else 9,bx,sd⟩:=rfl
def ls1:cV z (cf cl) %[(1),bx|sd]=⟨if opV z.p "=" (z.mn % z.p) (1 % z.p)=0 then 2 else 8,bx,sd⟩:=rfl
def ls2:cV z (cf cl) %[(2),bx|sd]=⟨3,bx,sd++[if("true":Str)="coin" then jh z (0 % z.p)else fJ z (0 % z.p)]⟩:=rfl
def ls3:cV z (cf cl) %[(3),bx|sd]=⟨4,bx,sd++[opV z.p "-" z.hd (if("true":Str)="coin" then jh z (0 % z.p)else fJ z (0 % z.p))]⟩:=rfl
def ls4:cV z (cf cl) %[(4),bx|sd]=⟨5,gi bx "i" (2 % z.p),sd⟩:=rfl
def ls5:cV z (cf cl) %[(5),bx|sd]=⟨6,bx,sd++[if("true":Str)="coin" then jh z (bx "i")else fJ z (bx "i")]⟩:=rfl
def ls6:cV z (cf cl) %[(6),bx|sd]=⟨7,gi bx "i" (opV z.p "+" (bx "i") (1 % z.p)),sd⟩:=rfl
def ls7:cV z (cf cl) %[(7),bx|sd]=⟨5,bx,sd⟩:=rfl
def ls8:cV z (cf cl) %[(8),bx|sd]=⟨9,bx,sd++[opV z.p "/" z.hd (2 % z.p)]⟩:=rfl
def ls9:cV z (cf cl) %[(9),bx|sd]=⟨10,gi bx "lied" (1 % z.p),sd⟩:=rfl
def lsC{j:Nat}{c:Int}(h:cl[j]?=some c):cV z (cf cl) %[10+(j:Int),bx|sd]=⟨10+((j+1:Nat):Int),bx,sd++[c % z.p]⟩:=by
 let e:(cf cl)[(10+(j:Int)).toNat]?=some (.say (.num c)):=by
  rw[show(10+(j:Int)).toNat=liars.length+j by show _=10+j;omega];unfold cf;rw[zL1 #[0],Nat.add_sub_cancel_left,zW0,h];rfl
 unfold cV;show(match(cf cl)[(10+(j:Int)).toNat]? with | some r=>CL z (cf cl).length %[10+(j:Int),bx|sd] r | none=>%[10+(j:Int),bx|sd])=_;rw[e];show(⟨10+(j:Int)+1,bx,sd++[c % z.p]⟩:MS)=_
 congr 1
def tP{mn:Int}(h:(sd.length:Int)=mn):rM mn sd=sd:=by
 unfold rM;rw[h,Int.sub_self];exact qR1 _
def Dq:∀(m j fuel:Nat),j+m=cl.length->z.mn=(cl.length:Int)->m<=fuel->kc z (cf cl) fuel %[10+(j:Int),bx|(cl.take j).map (· % z.p)]=⟨10+(cl.length:Int),bx,cl.map (· % z.p)⟩
 |0,j,fuel,hj,hm,hf=>by
   let ej:j=cl.length:=#[0]
   subst ej;rw[qA0,mY (λc=>absurd c.2 (by show ¬ (((cl.map (· % z.p)).length:Nat):Int)<z.mn;rw[zF0,hm];omega))]
 |m+1,j,fuel,hj,hm,hf=>by
   obtain⟨fu,rfl⟩:∃fu,fuel=fu+1:=%[fuel-1|3]
   let hjl:j<cl.length:=#[0]
   let lt:((cl.take j).map (· % z.p)).length=j:=by rw[zF0,qJ0];omega
   rw [gX (by show 10+(j:Int)<((cf cl).length:Int);rw[lm];omega) (by show(((cl.take j).map (· % z.p)).length:Int)<z.mn;rw[lt,hm];omega),lsC (zM0 hjl)];let e:(cl.take j).map (· % z.p)++[cl[j] % z.p]=(cl.take (j+1)).map (· % z.p):=by
    rw[zZ0,zM0 hjl,zK0];rfl
   rw[e];exact Dq m (j+1) fu #[0] hm #[0]
def liL(z:Ak)(j:Nat):List Int:=(lF z j).set 1 ((z.hd-fJ z 0) % z.p)
def lq(z:Ak)(j:Nat):(liL z j).length=j:=by unfold liL;rw[qJ1,tH]
def EI(z:Ak){j:Nat}(h:2<=j):liL z (j+1)=liL z j++[fJ z ((j:Int) % z.p)]:=by
 unfold liL;rw[lO,List.set_append_left 1 _ (by rw[tH];omega)]
def Ip:¬ (("lied":Str)="i"):=by decide
def Dp(p0:0<z.p):∀(m j fuel:Nat) (bx:Str->Int),2<=j->z.mn=((j+m:Nat):Int)->3*m<=fuel->bx "i"=(j:Int) % z.p->(kc z (cf cl) fuel %[(5),bx|liL z j]).sd=liL z (j+m)/\(kc z (cf cl) fuel ⟨5,bx,liL z j⟩).bx "lied"=bx "lied"
 |0,j,fuel,bx,j2,hm,hf,hb=>by
   rw[mY (λc=>absurd c.2 (by show ¬ ((liL z j).length:Int)<z.mn;rw[lq,hm];omega))];erw[1,1]
 |m+1,j,fuel,bx,j2,hm,hf,hb=>by
   obtain⟨fu,rfl⟩:∃fu,fuel=fu+3:=%[fuel-3|3]
   let le:∀x:Int,x<10->x<((cf cl).length:Int):=λx hx=>by rw[lm];omega
   let e1:cV z (cf cl) %[(5),bx|liL z j]=⟨6,bx,liL z (j+1)⟩:=by
    rw[ls5,ND El,hb,EI z j2]
   rw[gX (le 5 ⋯) (by show((liL z j).length:Int)<z.mn;rw[lq,hm];omega),e1];cases m with
   |zero=>
     rw[mY (λc=>absurd c.2 (by show ¬ ((liL z (j+1)).length:Int)<z.mn;rw[lq,hm];omega))];erw[1,1]
   |succ m=>
     let hl:((liL z (j+1)).length:Int)<z.mn:=by rw[lq,hm];omega
     rw [gX (le 6 ⋯) hl,ls6,gX (le 7 ⋯) hl,ls7];let hb2:gi bx "i" (opV z.p "+" (bx "i") (1 % z.p)) "i"=((j+1:Nat):Int) % z.p:=by
      unfold gi;rw[NE rfl];show(bx "i" + 1 % z.p) % z.p=_;rw[hb,wE0,Int.add_emod_emod];rfl
     let%[r1|r2]:=Dp p0 (m+1) (j+1) fu _ #[0] (by rw[hm];omega) #[0] hb2;erw[r1.trans (by congr 1;omega),r2.trans ?_];unfold gi;rw[ND Ip]
def vo(q x y:Int):opV q "=" x y=if x=y then 1 else 0:=rfl
def IU(p2:2<z.p){n:Nat}(hm:z.mn=(n:Int))(n1:1<=n)(n60:n<=61)(np:(n:Int)<=z.p)(hb:bx "lied"=1):(kc z (cf cl) 200 %[(0),bx|[]]).sd=(if n=1 then [lC z.p z.hd 2]else liL z n)/\(kc z (cf cl) 200 ⟨0,bx,[]⟩).bx "lied"=1:=by
 let le:∀x:Int,x<10->x<((cf cl).length:Int):=λx hx=>by rw[lm];omega
 let s0:cV z (cf cl) %[(0),bx|[]]=⟨1,bx,[]⟩:=by
  rw[ls0,vo,hb,jQ1,ND (show ¬ (1:Int)=0 by decide),NE rfl]
 let e1:(1:Int) % z.p=1:=qL0 ⋯ #[0];let e2:(2:Int) % z.p=2:=qL0 ⋯ #[0];let e0:(0:Int) % z.p=0:=jQ1 _;let h0:(([]:List Int).length:Int)<z.mn:=by rw[hm];show(0:Int)<n;omega
 rw[gX (le 0 ⋯) h0,s0,gX (le 1 ⋯) h0,ls1,vo,e1,hm]
 by_cases c:n=1
 . subst c;rw[NE (show((1:Nat):Int) % z.p=1 from e1),ND ⋯,NE rfl,gX (le 8 ⋯) h0,ls8,e2,mY (λc=>absurd c.2 (by show ¬ ((1:Nat):Int)<z.mn;rw[hm];omega))];erw[1,hb]
 . let en:¬ (n:Int) % z.p=1:=by
    rcases jV1 (n:Int) z.p with q | q
    . rw[qL0 #[0] q];omega
    . rw[show(n:Int)=z.p by omega,Int.emod_self];decide
   rw [ND en,NE rfl,ND c,gX (le 2 ⋯) h0,ls2,ND El,e0,gX (le 3 ⋯) (by rw[hm];show((1:Nat):Int)<n;omega),ls3,ND El,e0];let el:([]:List Int)++[fJ z 0]++[opV z.p "-" z.hd (fJ z 0)]=liL z 2:=by
    unfold liL;rw[show(2:Nat)=0+1+1 from rfl,lO,lO];show [fJ z 0,(z.hd-fJ z 0) % z.p]=[fJ z (((0:Nat):Int) % z.p),(z.hd-fJ z 0) % z.p]
    rw[show((0:Nat):Int) % z.p=0 from e0]
   rw[el]
   by_cases c2:n=2
   . subst c2;rw[mY (λc=>absurd c.2 (by show ¬ ((liL z 2).length:Int)<z.mn;rw[lq,hm];omega))];erw[1,hb]
   . rw[gX (le 4 ⋯) (by show((liL z 2).length:Int)<z.mn;rw[lq,hm];omega),ls4];let%[r1|r2]:=Dp (cl:=cl) (z:=z) #[0] (n-2) 2 195 (gi bx "i" (2 % z.p)) #[0] (by rw[hm];omega) #[0] (by unfold gi;rw[NE rfl];rfl);erw[r1.trans (by congr 1;omega),r2.trans ?_];unfold gi;rw[ND Ip];exact hb
def EH(k:GmK ns ts p)(n6:ns.length<=6)(nd:ns.Nodup)(d60:∀y∈ns,aY ts y<=60)(ll:cl.length=ts.length):Lia ns ts p (cf cl) cl:=by
 let p2:=k.p2;let t1:=k.t1;let t10:=k.t10;let hr:(Tk.new ts).run ns ts p (cf cl)=%[10+(cl.length:Int),gi (Tk.new ts).bx "lied" (1 % p)|cl.map (· % p)]:=by
  unfold Tk.run;let le:∀x:Int,x<10->x<((cf cl).length:Int):=λx hx=>by rw[lm];omega
  let h0:(([]:List Int).length:Int)<((Tk.new ts).ak ns ts p).mn:=by show(0:Int)<(ts.length:Int);omega
  let s0:cV ((Tk.new ts).ak ns ts p) (cf cl) %[(0),(Tk.new ts).bx|[]]=⟨9,(Tk.new ts).bx,[]⟩:=by
   rw[ls0,vo,jQ1];rfl
  rw[gX (le 0 ⋯) h0,s0,gX (le 9 ⋯) h0,ls9];exact Dq (z:=(Tk.new ts).ak ns ts p) (bx:=gi (Tk.new ts).bx "lied" (1 % p)) cl.length 0 198 #[0] (by show(ts.length:Int)=_;omega) #[0]
 erw[6,6,λt ht hw hb=>?_]
 . unfold Tk.said;rw[hr];exact tP (by show(((cl.map (· % p)).length:Nat):Int)=(ts.length:Int);rw[zF0,ll])
 . rw[hr];show gi (Tk.new ts).bx "lied" (1 % p) "lied"=1;unfold gi;rw[NE rfl];exact qL0 ⋯ #[0]
 . let%[hp,_,l1,le,lp,e0|e1]:=Af k n6 ht hw;let%[ok,a0,a5,tl,aw|ea]:=ht.ak k n6 hw;let hx:ns.getD t.z.to.length ""∈ns:=by
    rw[qG0,zM0 tl];exact qR0 tl
   let d6:=d60 _ hx;rw[iS]at l1 le lp;let tr:=AI k n6 nd ht hw;let%[r1|r2]:=IU (cl:=cl) (z:=t.ak ns ts p) (bx:=t.bx) (n:=(awN t.z).toNat) (by show 2<p;omega) (by show awN t.z=_;omega) l1 #[0] lp hb;erw[6,r2];unfold Tk.said;let e3:(t.run ns ts p (cf cl)).sd=fX p t.z.ed (fh ns ts t.z.s p t.z.to (awN t.z).toNat):=by
    apply Eq.trans r1 ?_;unfold fX;rw[iS]
    by_cases c:(awN t.z).toNat=1
    . rw[NE c,NE c];rfl
    . rw [ND c,ND c];unfold liL;rw[tr]
      congr 3
      let h:=congrArg (λl=>l.getD 0 0) tr;rw[←show(lF (t.ak ns ts p) (awN t.z).toNat).getD 0 0=(fh ns ts t.z.s p t.z.to (awN t.z).toNat).getD 0 0 from h];unfold lF;rw[qG0,zW0,jG1 #[0]];show fJ (t.ak ns ts p) 0=fJ (t.ak ns ts p) (((0:Nat):Int) % p);rw[show((0:Nat):Int) % p=0 from jQ1 _]
   rw[e3];exact tP (by rw[nU,iS];omega)
end
def RowsAt.app(h:RowsAt H a r)(k:RowsAt H b s):RowsAt H (a++b) (r++s):=by
 erw[by rw[zJ0,zJ0,h.1,k.1],λi v x e1 e2=>?_]
 by_cases c:i<a.length
 . rw[zR1 c]at e1;rw[zR1 (by rw[←h.1];exact c)]at e2;exact h.2 i v x e1 e2
 . rw[zL1 #[0]]at e1;rw[zL1 (by rw[←h.1];omega),←h.1]at e2;exact k.2 _ v x e1 e2
abbrev Kd:Str:="if (= lied 0) 9\nif (= asked 1) 8\nsay (true 0)\nsay (- due (true 0))\nset i 2\nsay (true i)\nset i (+ i 1)\ngo 5\nsay (/ due 2)\nset lied 1"
def zc:pT liars=Kd:=by decide
def zh:uz liars:=by
 erw[4,λr hr=>?_];unfold liars at hr;simp only[jG0,qV1,vG1]at hr;let ni:NmK "i":=by unfold NmK;decide
 let nl:NmK "lied":=by unfold NmK;decide
 rcases hr with rfl | rfl | rfl | rfl | rfl | rfl | rfl | rfl | rfl | rfl
 . erw[%[%[4,nl,4|4],4|4],4,4]
 . erw[%[%[4,(by decide:("asked":Str)∈plainW),4|4],4|4],4,4]
 . erw[%[4,4|4],4,4]
 . erw[%[4,(by decide:("due":Str)∈plainW),4,4|4],4,4]
 . erw[ni,%[4|4],4,4]
 . erw[%[4|ni],4,4]
 . erw[ni,%[4,ni,4|4],4,4]
 . erw[4,4]
 . erw[%[4,(by decide:("due":Str)∈plainW),4|4],4,4]
 . erw[nl,%[4|4],4,4]
def EF:∀r∈liars,r.good:=by
 intro r hr;unfold liars at hr;simp only[jG0,qV1,vG1]at hr;rcases hr with rfl | rfl | rfl | rfl | rfl | rfl | rfl | rfl | rfl | rfl
 . erw[%[4,trivial|trivial],4,4]
 . erw[%[4,(by decide:("asked":Str)∈plainW)|trivial],4,4]
 . erw[%[4|trivial],4]
 . erw[%[4,(by decide:("due":Str)∈plainW),4|trivial],4]
 . erw[trivial,4]
 . erw[%[4|trivial],4]
 . erw[%[4,trivial|trivial],4]
 . exact(by decide:(0:Int)<=5)
 . erw[%[4,(by decide:("due":Str)∈plainW)|trivial],4]
 . erw[trivial,4]
instance spBest:∀(l:Addr)(cl:List Int),vs=[.ref l]->H l=some (.lst (cl.map V.int))->1<=cl.length->cl.length<=10->(∀(a:Addr)(rv:List V)(H':Hp),H' a=some (.tup rv)->RowsAt H' rv (cf cl)->(∀r∈cf cl,r.good)->Same H H'->Q (.ref a) H'):=1
def uM:FnScope ["claims"] ["claims"] (ao kE):=%[|5]
def vD(F:#["best_liar",kE])(B:Bl mg)(X:∃t,mg "LIAR_ROWS"=some (.str Kd t))(iD:#[21,"read_helper",WD,spReadH]):#[22,f,fd,["claims"],spBest]:=by
 exists uM
 erw[l,cl,1,hl,c1,c10,q]at h;erw[t,gx]at X;refine⟨_,(af (ax (aq op_catT (aD iD hr ⋯ rfl %[dw (v:=.str Kd) rfl gx %[|0]|ae]) (bc bi rfl B.tuple bt (aa (cH (N:=[]) (ix:=[]) (cl:=[]) rfl
  #[5] rfl
  (dU (pv 0)) (λ_ _ _=>cE (aU %[aI,aU %[aI,0|ae]|ae]))) ae))))),?_⟩
 erw[liars,by rw[zc];rfl,zh,λa tv H1 ha R1 S1=>?_];let hl1:=S1 _ _ hl;erw[0,l,1,%[_|zG0 hl1],λD hD=>?_];apply ig (K:=K) (xs:=cl.map V.int) (λi H'=>∃(us:List V),H' D=some (.lst us)/\RowsAt H' us ((cl.take i).map λc=>.say (.num c))/\us.length=i/\Same H1 H') %[[],ai,RowsAt.nil,1|zE0 hD _] (λi H' _ NI=>by erw[_,_,_,_,h]at NI;exact zG0 (h _ _ hl1)) ?_ ?_
 . rintro i z H2 hz ⟨us,hD2,R2,ul,S2⟩;let hi:i<(cl.map V.int).length:=(zX0 hz).1;let hi':i<cl.length:=by rw[zF0]at hi;exact hi
   let ez:z=.int cl[i]:=by
    rw[zW0,zM0 hi']at hz;exact(zT0 hz).symm
   subst ez;erw[0,y2S,λb hb=>%[y2S|λd hd=>?_]];let I3:=zE0 hb (.tup [.str "num",.int cl[i]]);let e3:upd H2 b (.tup [.str "num",.int cl[i]]) b=_:=ai;generalize upd H2 b (.tup [.str "num",.int cl[i]])=H3 at hd I3 e3;let I4:=zE0 hd (.tup [.str "say",.ref b]);let e4:upd H3 d (.tup [.str "say",.ref b]) d=_:=ai;generalize upd H3 d (.tup [.str "say",.ref b])=H4 at I4 e4;let J4:=I3.trans I4;let hD4:=J4 _ _ hD2;let k5:=dP (H:=H4) (b:=D) (ys:=us) (zs:=us++[.ref d]) hD4;erw[_,hD4,aO #[0],Nx.of hi ⟨us++[.ref d],ai,?_,by rw[zJ0,ul];rfl,λb' o' e'=>?_⟩]
   . rw[zZ0,zM0 hi',zK0];exact((R2.mono (aV J4)).mono k5).snoc (.say (k5 _ _ e4) (.num (k5 _ _ (I4 _ _ e3))))
   . rw[ay (aP e' hD)];exact J4 _ _ (S2 _ _ e')
 . rintro H2 ⟨us,hD2,R2,ul,S2⟩;rw[zF0]at ul;rw[zF0,qA0]at R2;erw[D,0,.inl %[zG0 hD2|λb hb=>?_]];let I3:=zE0 hb (.tup us);let e3:upd H2 b (.tup us) b=_:=ai;generalize upd H2 b (.tup us)=H3 at I3 e3;let J3:=S2.trans I3;let tl:=R1.1;let un:us≠[]:=λz=>by rw[z]at ul;rw[zH1]at ul;omega
   let tn:tv≠[]:=λz=>by rw[z]at tl;cases tl
   let t10:tv.length=10:=tl;erw[a,b,2,zC0 (J3 _ _ ha),zC0 e3,tn,small #[0],λz=>absurd z un,λ_ c' hc'=>?_];let I4:=zE0 hc' (.tup (tv++us));apply q c' _ _ ai (((R1.mono (aV J3)).app (R2.mono (aV I3))).mono (aV I4)) (λr hr=>?_) (S1.trans (J3.trans I4));unfold cf at hr;rcases qP0 hr with h | h
   . exact EF r h
   . let%[c,_|1]:=List.mem_map.mp h;erw[trivial,by show 1<=5;decide]
inductive LsAt(b:Addr)(H:Hp):List V->List (List Int)->Prop
 |nil:LsAt b H [] []
 |cons {v:V} {c:List Int} {vs:List V} {cs:List (List Int)} (a:Addr) (e:v=.ref a) (n:a≠b) (h:H a=some (.lst (c.map V.int))) (t:LsAt b H vs cs):LsAt b H (v::vs) (c::cs)
def LsAt.mono{b b':Addr}{H H':Hp}(k:∀a xs,a≠b->H a=some (.lst xs)->a≠b'/\H' a=some (.lst xs)):∀{vs cs},LsAt b H vs cs->LsAt b' H' vs cs
 |_,_,.nil=>.nil
 |_,_,.cons a e n h t=>.cons a e (k a _ n h).1 (k a _ n h).2 (t.mono k)
def LsAt.same(s:Same H H'){vs cs}(h:LsAt b H vs cs):LsAt b H' vs cs:=h.mono λa xs n e=>%[n|s _ _ e]
def LsAt.but(s:SameBut b H H'){vs cs}(h:LsAt b H vs cs):LsAt b H' vs cs:=h.mono λa xs n e=>%[n|s a _ n e]
def LsAt.new{b':Addr}{H:Hp}(hb:H b'=none)(s:SameBut b' H H'){vs cs}(h:LsAt b H vs cs):LsAt b' H' vs cs:=h.mono λa xs n e=>%[aP e hb|s a _ (aP e hb) e]
def LsAt.app{us ss}(h2:LsAt b H us ss):∀{vs cs},LsAt b H vs cs->LsAt b H (vs++us) (cs++ss)
 |_,_,.nil=>h2
 |_,_,.cons a e n h t=>.cons a e n h (LsAt.app h2 t)
def LsAt.both:∀{vs cs},LsAt D H' vs cs->LsAt b H vs cs->LsAt b H' vs cs
 |_,_,.nil,.nil=>.nil
 |_,_,.cons a e n h t,.cons a' e' n' h' t'=>by
   have:a=a':=V.ref.inj (e.symm.trans e')
   subst this;exact .cons a e n' h (LsAt.both t t')
def LsAt.length:∀{vs cs},LsAt b H vs cs->vs.length=cs.length
 |_,_,.nil=>rfl
 |_,_,.cons _ _ _ _ t=>by rw[zP0,zP0,t.length]
def LsAt.get:∀{vs cs}{i:Nat}{v:V},LsAt b H vs cs->vs[i]?=some v->∃c a,cs[i]?=some c/\v=.ref a/\a≠b/\H a=some (.lst (c.map V.int))
 |_,_,_,_,.nil,e=>by simp at e
 |_,_,0,_,.cons a e' n h t,e=>by
   simp only[List.getElem?_cons_zero,Option.some.injEq]at e;subst e;erw[_,a,1,e',n,h]
 |_,_,i+1,_,.cons a e' n h t,e=>by
   let%[c,a,h1|h2]:=LsAt.get (i:=i) t #[e,0];erw[c,a,by simpa using h1,h2]
def jU(p:Nat)(c:List Int):List (List Int):=(List.range p).map λr:Nat=>c++[(r:Int)]
def xZ(p:Nat)(a:Int)(c:List Int):jU p (a::c)=(jU p c).map (a::·):=by
 unfold jU;rw[List.map_map];rfl
def uy(p:Nat):∀k,(cJ p k).flatMap (jU p)=cJ p (k+1)
 |0=>by
   unfold cJ jU;rw[List.flatMap_singleton];show _=(List.range p).flatMap λr:Nat=>[[(r:Int)]]
   rw[List.map_eq_flatMap];rfl
 |k+1=>by
   show((List.range p).flatMap λr:Nat=>(cJ p k).map ((r:Int)::·)).flatMap (jU p)=(List.range p).flatMap λr:Nat=>(cJ p (k+1)).map ((r:Int)::·)
   rw[List.flatMap_assoc]
   congr 1
   funext r
   rw[←uy p k,List.map_flatMap,List.flatMap_map]
   congr 1
   funext c
   exact xZ p _ c
instance spAllL:∀(p many:Int),vs=[.int p,.int many]->0<p->p<=999983->0<=many->many<=7->p ^ many.toNat<=130->(∀(r:Addr)(rs:List V)(H':Hp),H r=none->Same H H'->H' r=some (.lst rs)->LsAt r H' rs (cJ p.toNat many.toNat)->Q (.ref r) H'):=1
def dB:FnScope ["_law_p","_law_many","_law_found","_law_k","_law_longer","_law_coins"] WQ (ao iM):=%[|5]
def GF{p i m:Nat}(hp:0<p)(h:p ^ m<=130)(hi:i<=m):p ^ i<=130:=zQ0 (wL1 hp hi) h
def AO{L:List (List Int)}{j:Nat}{c:List Int}(h:L[j]?=some c):(L.take (j+1)).flatMap (jU p)=(L.take j).flatMap (jU p)++jU p c:=by
 rw[zZ0,h,wU1]
 simp
def xj:∀L:List (List Int),(L.flatMap (jU p)).length=L.length*p
 | []=>by simp
 |a::r=>by
   rw[wD1,zJ0,xj r,zP0,vK1];unfold jU;rw[zF0,qO0,Nat.add_comm]
def rS(F:#["_law_all_coins",iM])(B:Bl mg):#[1,f,fd,WQ,spAllL]:=by
 exists dB
 erw[p,many,1,p0,p9,m0,m7,pm,q]at h;refine⟨_,(ad #[aj,2,dB,cq %[cq ae|ae]]
  (ad (cx zE1 rfl (bJ rfl B.range %[1|ae]) (aX (i:=3) dB.nd rfl (.inl rfl)) (ad #[aj,4,dB,cq ae]
   (ad (cx zE1 rfl (dU (pv 2)) (aX (i:=5) dB.nd rfl (Or.inr rfl)) (af (bb (eR zF1 PySem.F.slot_list_extend PySem.F.type_list_extend tS (pv 4) (aa (cH (N:=["_law_coins"]) (ix:=[5]) rfl
    #[3] rfl
    (bJ rfl B.range %[0|ae]) (λ_ _ _=>cE (aq oU (pv 1) (cq %[0|ae])))) ae)))))
   (af #[aj,2,dB,pv 4]))))
  (af (ax (pv 2))))),?_⟩
 obtain⟨pn,rfl⟩:∃pn:Nat,p=(pn:Int):=%[p.toNat|3]
 obtain⟨mn,rfl⟩:∃mn:Nat,many=(mn:Int):=%[many.toNat|3]
 rw [qS0]at pm q;rw[qS0]at q;let pm':pn ^ mn<=130:=by
  have:((pn ^ mn:Nat):Int)<=130:=by rw[wW0];exact pm
  omega
 let pn0:0<pn:=#[0]
 erw[y0S,λt0 ht0=>?_];erw[y1S,λa ha=>?_];let np:t0≠a:=λz=>by
  subst z;rw[ai]at ha;cases ha
 let ha0:H a=none:=(zE0 ht0 _).free ha;refine⟨_,rfl,(mn:Int),rfl,#[0],#[0],dH (n:=mn) (λi σ H'=>∃(a:Addr)(rs:List V)(x3 x4 x5:Option V),σ=[some (.int (pn:Int)),some (.int (mn:Int)),some (.ref a),x3,x4,x5]/\H a=none/\Same H H'/\H' a=some (.lst rs)/\LsAt a H' rs (cJ pn i))
  %[a,[.ref t0],_,_,0,ha0,(zE0 ht0 _).trans (zE0 ha _),ai|.cons t0 rfl np (by rw[ay np,ai];rfl) .nil] ?_ ?_⟩
 . rintro i σ H1 hi ⟨a,rs,x3,x4,x5,rfl,a0,s0,hrs,T⟩;let al:=kN (p:=pn) i;let p1:=GF pn0 pm' (show i+1<=mn from hi);rw[vL0]at p1;erw[y0S,λb hb=>?_];let ab:a≠b:=aP hrs hb;let rl:=T.length;refine⟨_,rfl,a,rfl,%[_|zG0 (by rw[ay ab];exact hrs)],gN (K:=K) (xs:=rs) (λj σ H2=>∃(x5:Option V)(bs:List V),σ=[some (.int (pn:Int)),some (.int (mn:Int)),some (.ref a),some (.int (0+(i:Int))),some (.ref b),x5]/\SameBut b H1 H2/\H2 b=some (.lst bs)/\LsAt b H2 bs (((cJ pn i).take j).flatMap (jU pn)))
    %[_,[],1,SameBut.upd _,ai|.nil] (λj σ H2 _ NI=>by erw[_,_,_,sb,_]at NI;exact zG0 (sb a _ ab hrs)) ?_ ?_⟩
   . rintro j y σ H2 hj ⟨x5,bs,rfl,sb,hbs,TB⟩;let jl:j<rs.length:=(zX0 hj).1;let T2:LsAt b H2 rs (cJ pn i):=T.new hb sb;let%[c,t,hcs,1,tb|ht]:=T2.get hj;let cl:=(jj i c (qC0 hcs)).1;let hbl:=TB.length;rw[xj,qJ0]at hbl;let b1:bs.length+pn<=130:=by
      let e1:min j (cJ pn i).length<=j:=Nat.min_le_left _ _;let e2:(j+1)*pn<=pn ^ i*pn:=wM0 _ #[0];let e3:min j (cJ pn i).length*pn<=j*pn:=wM0 _ e1;rw[vK1]at e2;omega
     erw[0,.inl %[1,_|zG0 hbs],0,(pn:Int),1,3,3,λD hD=>?_];apply dO (n:=pn) (λu H'=>∃vs:List V,H' D=some (.lst vs)/\LsAt D H' vs ((List.range u).map λr:Nat=>c++[(r:Int)])/\LsAt b H' vs ((List.range u).map λr:Nat=>c++[(r:Int)])/\Same H2 H') %[[],ai,.nil,.nil|zE0 hD _] ?_ ?_
     . rintro u H3 hu ⟨vs,hD3,T3,T3b,S3⟩;let vl:=T3.length;rw[zF0,qO0]at vl;let hu':u<pn:=hu;erw[0,0,y1S,λz hz=>?_];rw[qX1];let I4:=zE0 hz (.lst [.int (u:Int)]);let g4:upd H3 z (.lst [.int (u:Int)]) z=some (.lst [.int (u:Int)]):=ai;generalize upd H3 z (.lst [.int (u:Int)])=H4 at I4 g4;erw[t,z,2,I4 _ _ (S3 _ _ ht),g4,aO (by rw[zF0];omega),λt5 ht5=>?_];let S5:=zE0 ht5 (.lst (c.map V.int++[.int (u:Int)]));let h5:upd H4 t5 (.lst (c.map V.int++[.int (u:Int)])) t5=some (.lst ((c++[(u:Int)]).map V.int)):=by rw[ai,zK0];rfl
       let n5:t5≠D:=λz=>by subst z;rw[I4 _ _ hD3]at ht5;cases ht5
       let n6:t5≠b:=λz=>by subst z;rw[I4 _ _ (S3 _ _ hbs)]at ht5;cases ht5
       generalize upd H4 t5 (.lst (c.map V.int++[.int (u:Int)]))=H5 at S5 h5;let S35:=I4.trans S5;let hD5:=S35 _ _ hD3;let hbD:b≠D:=aP hbs hD;let k6:SameBut D H5 (upd H5 D (.lst (vs++[.ref t5]))):=SameBut.upd _;erw[_,hD5,aO #[0],Nx.of hu ⟨vs++[.ref t5],ai,?_,?_,λa' o e=>?_⟩]
       . rw[zP1,zK0];exact LsAt.app (.cons t5 rfl n5 (by rw[ay n5];exact h5) .nil) ((T3.same S35).but k6)
       . rw[zP1,zK0];apply LsAt.app (.cons t5 rfl n6 (by rw[ay n5];exact h5) .nil) ?_;let q1:=(T3.same S35).but k6;let q2:=T3b.same S35;exact LsAt.both q1 q2
       . rw[ay (aP e hD)];exact S35 _ _ (S3 _ _ e)
     . rintro H3 ⟨vs,hD3,T3,T3b,S3⟩;let vl:=T3.length;rw[zF0,qO0]at vl;erw[b,D,bs,vs,1,1,S3 _ _ hbs,hD3,small #[0],6];let k4:SameBut b H3 (upd H3 b (.lst (bs++vs))):=SameBut.upd _;erw[_,bs++vs,1,(sb.trans (zL0 S3)).trans (SameBut.upd _),ai,6];rw[AO hcs];exact LsAt.app (T3b.but k4) ((TB.same S3).but k4)
   . rintro σ H2 ⟨x5,bs,rfl,sb,hbs,TB⟩;rw[rl,qA0,uy]at TB;erw[0,b,bs,_,_,0,s0.free hb,s0.but (s0.free hb) sb,hbs,TB]
 . rintro σ H' ⟨a,rs,x3,x4,x5,rfl,a0,s0,ha,S⟩;erw[0,q a rs H' a0 s0 ha S]
section
variable {C CM CA CG:Addr}
def cut_1(v:V)(us:List V):jf (v::us) (some 1) none=us:=by
 let h:jf (v::us) (some ((1:Nat):Int)) none=(v::us).drop 1:=by
  unfold jf;rw[HT.sIx_none,HT.sIx_nat,Nat.min_eq_left #[2]];exact List.take_of_length_le (by rw[jT0];exact zH0 _)
 exact h
def Dv{K:W.Frag}{H:Hp}{a:Addr}{xs:List Int}(h:H a=some (.lst (xs.map V.int))):Rep K H (.ref a) (.list (xs.map PyData.int)):=.lst (zG0 h) (ng xs)
def FD(xs:List V)(a:V):atI (xs++[a]) (-1)=some a:=by
 unfold atI ixN;rw[zJ0,qK0];let e2:(-1+(((xs.length+1:Nat)):Int)).toNat=xs.length:=#[0]
 rw[ND ⋯,NE #[0],e2];show(xs++[a])[xs.length]?=some a
 simp
def TRsAt.nth:∀{vs:List V}{rs:List TR}{i:Nat}{r:TR},TRsAt H vs rs->rs[i]?=some r->∃v,vs[i]?=some v/\TRAt H v r
 | [],[],_,_,_,e=>by simp at e
 |v::_,_::_,0,_,h,e=>by
   simp only[List.getElem?_cons_zero,Option.some.injEq]at e;subst e;erw[v,1,h.1]
 |_::vs,_::rs,i+1,_,h,e=>TRsAt.nth (i:=i) h.2 #[e,0]
 | [],_::_,_,_,h,_=>h.elim
 |_::_,[],_,_,h,_=>h.elim
def tU{r:Int}{cs:List Int}:iV ns ts p s e pre (r::cs)=.say (fX p e (fh ns ts s p pre (aY ts (ns.getD pre.length "")+1).toNat))::.coin r::iV ns ts p s (val p (fX p e (fh ns ts s p pre (aY ts (ns.getD pre.length "")+1).toNat)) r) (pre++[r]) cs:=rfl
def wW:∀(cs pre:List Int)(e:Int),(iV ns ts p s e pre cs).length=2*cs.length
 | [],_,_=>rfl
 |c::cs,pre,e=>by
   rw[tU,zP0,zP0,wW cs,zP0];omega
def BH{cs:List Int}{i:Nat}(hi:i<cs.length)(h:(iV ns ts p s e0 [] cs).drop (2*i)=iV ns ts p s e (cs.take i) (cs.drop i)):
 (iV ns ts p s e0 [] cs)[2*i]?=some (.say (fX p e (fh ns ts s p (cs.take i) (aY ts (ns.getD i "")+1).toNat)))/\(iV ns ts p s e0 [] cs)[2*i+1]?=some (.coin cs[i])/\(iV ns ts p s e0 [] cs).drop (2*(i+1))=iV ns ts p s (val p (fX p e (fh ns ts s p (cs.take i) (aY ts (ns.getD i "")+1).toNat)) cs[i]) (cs.take (i+1)) (cs.drop (i+1)):=by
 let tl:(cs.take i).length=i:=by rw[qJ0];omega
 let tk:cs.take i++[cs[i]]=cs.take (i+1):=by
  rw[zZ0,zM0 hi];rfl
 rw[qQ1 hi]at h;rw[tU,tl,tk]at h;erw[6,6,6]
 . have:=vA0 (xs:=iV ns ts p s e0 [] cs) (i:=2*i) (j:=0)
   rw[h]at this;exact this.symm
 . have:=vA0 (xs:=iV ns ts p s e0 [] cs) (i:=2*i) (j:=1)
   rw[h]at this;exact this.symm
 . rw[show 2*(i+1)=2*i+2 by omega,←List.drop_drop,h];rfl
def Hq{p:Int}(p0:0<p)(ok:bL L p):bL (fX p e L) p:=λx hx=>by
 unfold fX at hx
 split at hx
 . rw[NK hx];exact xx p0
 . rcases List.mem_or_eq_of_mem_set hx with h | h
   . exact ok x h
   . rw[h];erw[qD0 _ #[0],qH0 _ p0]
def rng2{n:Nat}(h:n<=6):Builtin.Range.small 0 (((2*n:Nat):Int)-1) 2=true/\(Builtin.Range.rangeSize 0 (((2*n:Nat):Int)-1) 2).toNat=n:=by
 have:n=0∨n=1∨n=2∨n=3∨n=4∨n=5∨n=6:=#[0]
 rcases this with rfl | rfl | rfl | rfl | rfl | rfl | rfl <;> erw[4,4]
instance spSays(CG:Addr):∀(g l b:Addr)(us:List V)(ns:List Str)(ts:List Tr)(p s:Int)(cl cs:List Int),vs=[.ref g,.ref l,.ref b]->Gm CG H g ns ts p->GmK ns ts p->ns.length<=6->H l=some (.lst (cl.map V.int))->H b=some (.tup us)->TRsAt H us (.claims (cl.map (· % p))::((if ts.length=1 then []else [.coin s])++iV ns ts p s (hor s p cl) [] cs))->(ts.length=1->s=0)->bL cs p->cs.length=ns.length->(∀H',Same H H'->Q (.bl true) H'):=1
instance tSa64(CG:Addr)(Dn:Ends)(σ:St)(H:Hp):∀(x2 x6 x7 x8 x9 x10:Option V)(H0:Hp)(g l L4:Addr)(us:List V)(ns:List Str)(ts:List Tr)(p s:Int)(cl cs:List Int),σ=[some (.ref g),some (.ref l),x2,some (.int p),some (.ref L4),some (.int s),x6,x7,x8,x9,x10]->Gm CG H0 g ns ts p->GmK ns ts p->ns.length<=6->H0 l=some (.lst (cl.map V.int))->H L4=some (.lst us)->TRsAt H us (iV ns ts p s (hor s p cl) [] cs)->bL cs p->cs.length=ns.length->Same H0 H->(∀H',Same H0 H'->Dn.rt (.bl true) H'):=0
instance tSb64(Dn:Ends)(σ:St)(H:Hp):∀(x0 x1 x2:Option V) (L4 Lc W S a2:Addr) (p s e r:Int) (k:Nat) (us:List V) (c0 X:List Int),σ=[x0,x1,x2,some (.int p),some (.ref L4),some (.int s),some (.int e),some (.ref Lc),some (.int (k:Int)),some (.ref W),some (.ref S)]->H L4=some (.lst us)->us[k+1]?=some (.ref a2)->H a2=some (.tup [.str "coin",.int r])->H Lc=some (.lst (c0.map V.int))->c0.length<=6->H W=some (.lst (X.map V.int))->H S=some (.lst (X.map V.int))->S≠Lc->jZ X p->Pr p->p<=999983->0<=r->r<p->(∀H',SameBut Lc H H'->H' Lc=some (.lst ((c0++[r]).map V.int))->Dn.nx [x0,x1,x2,some (.int p),some (.ref L4),some (.int s),some (.int (val p X r)),some (.ref Lc),some (.int (k:Int)),some (.ref W),some (.ref S)] H'):=0
def bw:FnScope ["_law_game","_law_claims_here","_law_talk","_law_p","_law_left","_law_s","_law_due_here","_law_coins","_law_k","_law_wanted","_law_said"] VA (ao kx):=%[|5]
def vx(F:#["_law_says_so",kx])(B:Bl mg)(TG:GTxt K mg CG)(mM:Meth K CG "mix" fM)(GM:#[1,fM,fdM,WL,spMix CG])(bM:Binds K fdM WL [])(fN:#[14,"true_row",Wq,spTrue CG])(b6:#[4,"value_at",WH,spVal]):#[15,f,fd,VA,spSays CG]:=by
 exists bw
 erw[g,l,b,us,ns,ts,p,s,cl,cs,1,G,k,n6,hl,hb,TR,s1,co,cll,q]at h;let NO:Room 1 _:=hr.mono ⋯;refine⟨_,(ad #[aj,3,bw,aB (pv 0) rfl]
  (ad #[aj,4,bw,bc jR rfl B.list jS %[eQ Go (pv 2) (eY ag) iG|ae]]
  (ad #[aj,5,bw,ag]
  (ad (aM (am iz (aJ aG rfl B.len zD1 %[aB (pv 0) rfl|ae]) ag (az _)) (af #[aj,5,bw,aN ix_tup (eR zF1 PySem.F.slot_list_pop PySem.F.type_list_pop Ev (pv 4) %[ag|ae]) ag #[1]]) aE)
  (lc (t':=tSa64 CG) (ad #[aj,6,bw,bZ (pv 0) TG.cl mM GM NO bM .nil bh %[1,5|ae]]
  (ad #[aj,7,bw,cq ae]
  (ad (cx zE1 rfl (Bk rfl B.range %[ag,aq bj (aJ aG rfl B.len zD1 %[4|ae]) ag,ag|ae]) (aX (i:=8) bw.nd rfl (.inl rfl)) (ad #[aj,9,bw,aD fN hr ⋯ rfl %[0,5,7|ae]]
   (ad #[aj,10,bw,bc jR rfl B.list jS %[aN ix_tup (aN ix_list (pv 4) (pv 8) #[1]) ag #[1]|ae]]
   (ad (aM (am aS (aJ aG rfl B.len zD1 %[9|ae]) ag (az _)) (af #[aj,9,bw,aq DN (cq %[aN ix_list (pv 10) ag #[1]|ae]) (bc lA rfl B.int gA %[dy aS (aq ba (aq cg ag (aN ix_list (pv 10) ag #[1])) (pv 3)) (pv 6) (az _)|ae])]) (af (oS (aq ba (aq bj (pv 6) (aN ix_list (pv 9) ag #[1])) (pv 3)) (vk (pv 9) ag mJ))))
   (lc (t':=tSb64) (ad (aM (am (Jh hr.units) (pv 10) (pv 9) (az _)) (af (ax iH)) aE)
   (ad (bb (eR zF1 zM1 zN1 cP (pv 7) %[aN ix_tup (aN ix_list (pv 4) (aq aW (pv 8) ag) #[1]) ag #[1]|ae]))
   (af #[aj,6,bw,aD b6 hr ⋯ rfl %[10,aN ix_list (pv 7) (tO oA ag) #[1],3|ae]]))) ?cB)))))
  (af (ax iH))))) ?cA))))),?_⟩
 case cB=>
  rintro Dn σ H ⟨x0,x1,x2,L4,Lc,W,S,a2,p,s,e,r,k,us,c0,X,rfl,h4,hu,ha2,hc,c6,hW,hS,sc,ok,pp,p9,r0,r1,q⟩;erw[0,0,.list (X.map PyData.int),.list (X.map PyData.int),Dv hS,Dv hW,tK _,tK _,0,6];rw[JH,zC1 rfl];apply dG ?_;erw[0,.inl %[1,_|zG0 hc],0,0,2,L4,us,(k:Int)+1,.ref a2,1,1,zG0 h4,bK (j:=k+1) hu,a2,_,(1),.int r,1,1,zC0 ha2,bK (j:=1) rfl,Lc,2,hc,aO (by rw[zF0];omega),6];let B1:SameBut Lc H (upd H Lc (.lst (c0.map V.int++[.int r]))):=SameBut.upd _;let e1:upd H Lc (.lst (c0.map V.int++[.int r])) Lc=some (.lst ((c0++[r]).map V.int)):=by rw[ai,zK0];rfl
  generalize upd H Lc (.lst (c0.map V.int++[.int r]))=H1 at B1 e1;erw[0,0,(1),1,Lc,_,(-1),.int r,1,1,zG0 e1,6,0,S,X,r,p,1,.inl (B1 _ _ sc hS),ok,pp,p9,r0,r1,λH2 S2=>q H2 (B1.trans (zL0 S2)) (S2 _ _ e1)];rw[zK0];exact FD _ _
 case cA =>
  rintro Dn σ H ⟨x2,x6,x7,x8,x9,x10,H0,g,l,L4,us,ns,ts,p,s,cl,cs,rfl,G,k,n6,hl,h4,TR,co,cll,S0,q⟩;let p2:=k.p2;let p9:=k.p9;let t10:=k.t10;let t0:ts≠[]:=λz=>by have:=k.t1;rw[z]at this;cases this
  let%[a,b,d,tv,GA,ha,hb,TS|hd]:=id G;let%[dx|hg]:=id GA;erw[0,g,dx,0,S0 _ _ hg,oi _ _ _ _ ⋯ ⋯ ⋯ ⋯,0,0,g,a,b,d,l,cl,s,p,1,GA.same S0,3,3,.inl (S0 _ _ hl),6];erw[y0S,λLc hLc=>?_];let I1:=zE0 hLc (.lst []);let e1:upd H Lc (.lst []) Lc=some (.lst []):=ai;let n4:L4≠Lc:=aP h4 hLc;generalize upd H Lc (.lst [])=H1 at I1 e1;let S1:=S0.trans I1;let Lc0:=S0.free hLc;let ul:=TR.len;rw[wW]at ul;let%[sm|sz]:=rng2 (n:=cs.length) #[0];let%[e0|e1']:=og (s:=s) (p:=p) #[0] cl;erw[0,L4,us,1,.inl (zG0 (I1 _ _ h4)),2,(0),_,(2),1,4,4,6,6]
  . rw[ul];exact sm
  rw[ul,sz];apply zq (n:=cs.length) (λi σ H'=>∃(e:Int)(x8 x9 x10:Option V),σ=[some (.ref g),some (.ref l),x2,some (.int p),some (.ref L4),some (.int s),some (.int e),some (.ref Lc),x8,x9,x10]/\0<=e/\e<p/\(iV ns ts p s (hor s p cl) [] cs).drop (2*i)=iV ns ts p s e (cs.take i) (cs.drop i)/\H' Lc=some (.lst ((cs.take i).map V.int))/\SameBut Lc H1 H') %[_,_,_,0,e0,e1',1,e1|SameBut.refl _ _] ?_ ?_
  . rintro i σ H2 hi ⟨e,x8,x9,x10,rfl,e0,e1,hd2,hc2,B2⟩;let%[g1,g2|g3]:=BH hi hd2;let%[v1,hv1|T1]:=(TR.mono (aV I1)).nth g1;let%[v2,hv2|T2]:=(TR.mono (aV I1)).nth g2;let S2:Same H0 H2:=λa o e=>B2 _ _ (aP e Lc0) (S1 _ _ e)
    let tl:(cs.take i).length=i:=by rw[qJ0];omega
    let hx:ns[(cs.take i).length]?=some (ns.getD i ""):=by
     rw[tl,qG0,zM0 #[0]];rfl
    let hxm:=qC0 hx;let%[d0|d1]:=k.deg _ hxm;let d4:=(qx k (ns.getD i "")).2;let h42:=B2 _ _ n4 (I1 _ _ h4);let%[r0|r1]:=co _ (qR0 hi);erw[0,0,0,g,a,b,d,Lc,ns,tv,ts,cs.take i,ns.getD i "",s,p,1,GA.same S2,S2 _ _ ha,n6,S2 _ _ hb,TS.mono (aV S2),t0,t10,λt ht=>%[(k.tok t ht).1|(k.tok t ht).2.2.1],S2 _ _ hd,.inl hc2,hx,d1,3,λx hx=>co x (List.mem_of_mem_take hx),3,3,λW H3 W0 S3 hW=>?_];let k12:cF H1 H2:=λa xs e=>B2 _ _ (λz=>by rw[z,‹H1 Lc=some (.lst [])›]at e;cases e) e
    cases T1 with
    | @say a1 b1 xs ha1 hb1=>
    cases T2 with
    | @coin a2 r ha2=>
    erw[0,0,L4,us,_,.ref a1,1,1,zG0 (S3 _ _ h42),6,a1,_,(1),.ref b1,1,1,zC0 (S3 _ _ (k12 _ _ ha1)),bK (j:=1) rfl,b1,0,.inr (zC0 (S3 _ _ (k12 _ _ hb1))),λS hS=>?_]
    . rw[show(0:Int)+(i:Int)*2=((2*i:Nat):Int) by omega];exact bK hv1
    let Ll:=iS ns ts s p (cs.take i) (aY ts (ns.getD i "")+1).toNat;let Lok:=vf (ns:=ns) (ts:=ts) (p:=p) #[0] s (cs.take i) (aY ts (ns.getD i "")+1).toNat;generalize fh ns ts s p (cs.take i) (aY ts (ns.getD i "")+1).toNat=L at hW Ll Lok g3 hS ⊢;let I4:=zE0 hS (.lst ((fX p e L).map V.int));let e4:upd H3 S (.lst ((fX p e L).map V.int)) S=some (.lst ((fX p e L).map V.int)):=ai;let sLc:S≠Lc:=λz=>by rw[z,S3 _ _ hc2]at hS;cases hS
    let WS:W≠S:=aP hW hS;generalize upd H3 S (.lst ((fX p e L).map V.int))=H4 at I4 e4;let J4:=S3.trans I4;let W4:=I4 _ _ hW;let l1:1<=L.length:=#[0]
    let lp:(L.length:Int)<=p:=#[0]
    let hp:=rD k.pr #[0];let Xok:=Hq (e:=e) (by omega:0<p) Lok;let Ro:jZ (fX p e L) p:=%[by rw[nU];omega,by rw[nU];omega,by rw[nU];omega|λj=>by have:=iY Xok #[0] j;omega]
    let fin:∀(D:Ends)(W':Addr)(H5:Hp),(∀(e':Int)(x8 x9 x10:Option V)(H':Hp),0<=e'->e'<p->(iV ns ts p s (hor s p cl) [] cs).drop (2*(i+1))=iV ns ts p s e' (cs.take (i+1)) (cs.drop (i+1))->H' Lc=some (.lst ((cs.take (i+1)).map V.int))->SameBut Lc H1 H'->D.nx [some (.ref g),some (.ref l),x2,some (.int p),some (.ref L4),some (.int s),some (.int e'),some (.ref Lc),x8,x9,x10] H')->Same H2 H5->H5 W'=some (.lst ((fX p e L).map V.int))->H5 S=some (.lst ((fX p e L).map V.int))->tSb64 D [some (.ref g),some (.ref l),x2,some (.int p),some (.ref L4),some (.int s),some (.int e),some (.ref Lc),some (.int (0+(i:Int)*2)),some (.ref W'),some (.ref S)] H5:=λD W' H5 qn S5 hW' hS'=>by
     rw[show(0:Int)+(i:Int)*2=((2*i:Nat):Int) by omega];erw[_,_,_,L4,Lc,W',S,a2,p,s,e,cs[i],2*i,us,cs.take i,fX p e L,1,S5 _ _ h42,hv2,S5 _ _ (k12 _ _ ha2),S5 _ _ hc2,3,hW',hS',sLc,Ro,k.pr,3,r0,r1,λH6 B6 h6=>?_];let%[w0|w1]:=uB (p:=p) #[0] (fX p e L) cs[i];apply qn _ _ _ _ _ w0 w1 g3 ?_ (B2.trans ((zL0 S5).trans B6));rw[zZ0,zM0 hi];exact h6
    erw[0,W,0,.inl (zG0 W4),1,0,6]
    by_cases c1:L.length=1
    . apply bd (by rw[zF0,c1];rfl) ?_;let%[h0,h1|h2]:=qu hp p2 e0 e1;let eX:fX p e L=[lC p e 2]:=NE c1;rw[eX]at e4 fin;generalize lC p e 2=hf at h0 h1 h2 e4 fin;erw[0,S,_,(0),.int hf,1,1,zG0 e4,bK (j:=0) rfl,y1S,λz hz=>?_];let I5:=zE0 hz (.lst [.int hf]);let e5:upd H4 z (.lst [.int hf]) z=some (.lst [.int hf]):=ai;generalize upd H4 z (.lst [.int hf])=H5 at I5 e5;erw[0,S,_,(0),.int hf,1,1,zG0 (I5 _ _ e4),bK (j:=0) rfl,2,.inl #[0],0,2,3,0,1,.inr %[0,z,2,e5,6,6,6|λz2 hz2=>?_]]
      . split <;> decide
      . split <;> decide
      . split
        . show 1<=sizeLine;decide
        . show 0<=sizeLine;decide
      let eh:decide (V.int (2*hf % p)=V.int e)=true:=zC1 (by rw[show 2*hf=hf+hf by omega,h2]);rw[eh];let I6:=zE0 hz2 (.lst (List.replicate (if true=true then(1:Int)else 0).toNat [V.int hf]).flatten);let e6:upd H5 z2 (.lst (List.replicate (if true=true then(1:Int)else 0).toNat [V.int hf]).flatten) z2=some (.lst [.int hf]):=ai;generalize upd H5 z2 (.lst (List.replicate (if true=true then(1:Int)else 0).toNat [V.int hf]).flatten)=H6 at I6 e6;let J6:=I5.trans I6;exact fin _ z2 H6 (λe' y8 y9 y10 H' h1 h2 h3 h4 h5=>%[e',y8,y9,y10,1,h1,h2,h3,h4|h5]) (J4.trans J6) e6 (J6 _ _ e4)
    . apply aF (λz=>c1 (by rw[zF0]at z;have:=V.int.inj z;omega)) ?_;let eX:fX p e L=L.set 1 ((e-L.getD 0 0) % p):=ND c1;erw[0,0,W,_,(0),.int (L.getD 0 0),1,1,zG0 W4,6,2,0,2,3,0,W,_,(1),(1),1,1,W4,6,6]
      . exact bK (j:=0) (by rw[zW0,qG0,zM0 #[0]];rfl)
      . unfold ixN;rw[zF0,NE ⋯,NE #[0]];rfl
      apply fin _ W _ (λe' y8 y9 y10 H' h1 h2 h3 h4 h5=>%[e',y8,y9,y10,1,h1,h2,h3,h4|h5]) (λa o q=>?_) ?_ ?_
      . rw[ay (aP q W0)];exact J4 _ _ q
      . rw[ai,eX,List.map_set]
      . rw[ay WS.symm];exact e4
  . rintro σ H2 ⟨e,x8,x9,x10,rfl,e0,e1,hd2,hc2,B2⟩;exact q H2 λa o e=>B2 _ _ (aP e Lc0) (S1 _ _ e)
 let p2:=k.p2;let t1:=k.t1;let%[a,gb,d,tv,GA,ha,hgb,TS|hd]:=id G;let%[dx|hg]:=id GA;let tvl:=TS.length;cases us with
 |nil=>exact TR.elim
 |cons v0 us=>
 erw[0,g,CG,dx,_,0,hg,TG.cl,TG.nF,hU ..,6];erw[0,(1),1,b,0,zC0 hb,hb,λb1 H1 S1 h1=>?_];rw[cut_1]at h1;erw[b1,0,.inr (zC0 h1),λL4 hL4=>?_];let I2:=zE0 hL4 (.lst us);let e2:upd H1 L4 (.lst us) L4=some (.lst us):=ai;generalize upd H1 L4 (.lst us)=H2 at I2 e2;let J2:=S1.trans I2;erw[0,g,CG,dx,_,0,J2 _ _ hg,TG.cl,TG.nT,lJ ..,gb,0,.inr (zC0 (J2 _ _ hgb)),2,0,6];let TR2:=TRsAt.mono (aV J2) TR.2
 by_cases c1:ts.length=1
 . rw[NE c1,wP1]at TR2;apply aF (by show ¬ ((tv.length:Nat):Int)>1;omega) ?_;let s0:=s1 c1;subst s0;erw[_,_,_,_,_,_,H,g,l,L4,us,ns,ts,p,(0),cl,cs,1,G,k,n6,hl,e2,TR2,co,cll,J2,q]
 . rw [ND c1]at TR2;apply bd (by show((tv.length:Nat):Int)>1;omega) ?_;cases us with
   |nil=>exact TR2.elim
   |cons v1 us=>
   erw[T1,TR3]at TR2;cases T1 with
   | @coin a1 r ha1=>
   let L40:=S1.free hL4;let B3:SameBut L4 H2 (upd H2 L4 (.lst ((V.ref a1::us).eraseIdx 0))):=SameBut.upd _;let e3:upd H2 L4 (.lst ((V.ref a1::us).eraseIdx 0)) L4=some (.lst us):=ai;let k3:cF H2 (upd H2 L4 (.lst ((V.ref a1::us).eraseIdx 0))):=λa xs e=>B3 _ _ (bu e e2 nofun) e
   erw[0,.inl %[1,_|zG0 e2],L4,_,(0),(0),.ref a1,1,1,e2,4,4,(by unfold seqIndex?;simp),1,a1,_,(1),.int s,1,1,zC0 (k3 _ _ ha1),bK (j:=1) rfl,6];erw[_,_,_,_,_,_,H,g,l,L4,us,ns,ts,p,s,cl,cs,1,G,k,n6,hl,e3,TRsAt.mono k3 TR3,co,cll,λa o e=>B3 _ _ (aP e L40) (J2 _ _ e),q]
end
def yB:Option (List Int)->PyData
 |none=>.none
 |some c=>.tuple (c.map PyData.int)
def wtD(x:Int×Option (List Int)):PyData:=.tuple [.int x.1,yB x.2]
def OptAt.rep{K:W.Frag}{x:Option (List Int)}(h:OptAt H v x):Rep K H v (yB x):=by
 cases x with
 |none=>rw[show v=.non from h];exact .non
 |some c=>erw[b,1,hb]at h;exact .tup (zC0 hb) (ng _)
def Je(x:Option (List Int)):(yB x).canLay0=true/\(yB x).depth<=1:=by
 cases x with
 |none=>simp [yB,PyData.canLay0,PyData.depth]
 |some c=>simp [yB,PyData.canLay0,PyData.depth,W.ke_canLayAll0,W.ke_depthAll]
def oy(x:Int×Option (List Int)):SeqAt.shaped (wtD x)=true:=by
 let h:=Je x.2;let hc:(wtD x).canLay0=true:=by simp [wtD,PyData.canLay0,PyData.canLayAll0,h.1]
 let hd:(wtD x).depth<=10:=by
  show max 0 (max (yB x.2).depth 0)+1<=10;omega
 unfold SeqAt.shaped;rw[hc,Bool.true_and,vE0];omega
def ID(x:Int×Option (List Int)):PyData.eqv (wtD x) (wtD x)=true:=PySem.SeqAt.eqv_refl _ (SeqAt.canLay_of_shaped (oy x))
section
variable {C CM CA CG:Addr}{ns:List Str}{ts:List Tr}{p:Int}{rows:List Hr}
def EdW(a:Str×Option Int):Prop:=a.1="believed" -> a=(("believed":Str),none)
def vQ(z:Db):EdW (goOn ns ts p z).aw:=by
 unfold goOn eF EdW
 split
 . exact λh=>absurd h Il
 . show (if _ then _ else _:Str×Option Int).1="believed" -> (if _ then _ else _:Str×Option Int)=_
   split
   . exact λ_=>rfl
   . exact λh=>absurd h wO
def qE(k:GmK ns ts p)(n6:ns.length<=6):∀(n:Nat)(cs:List Int)(t:Tk),TkOk ns ts p t->bL cs p->EdW t.z.aw->EdW (cw ns ts p rows cs n t).2.z.aw/\AwW (cw ns ts p rows cs n t).2.z.aw.1
 |0,_,_,h,_,e=>%[e|h.gd.ww]
 |n+1,cs,t,h,co,e=>by
   let p2:=k.p2
   by_cases ch:t.z.aw.1="hear"
   . rw [eZ ch];apply qE k n6 n cs _ (h.ask k n6 ch).1 co ?_;rw[show(t.ask ns ts p rows).z=dI p (t.said ns ts p rows) { t.z with pl:=t.z.pl+((t.said ns ts p rows).length:Int) }from ND h.cl];unfold dI EdW;show(if _ then _ else _:Str×Option Int).1="believed" -> _
     split
     . exact λz=>absurd z Ac
     . exact λz=>absurd z wO
   . by_cases cc:t.z.aw.1="coin"
     . rw [dJ cc];let%[r0|r1]:=lu co #[0];apply qE k n6 n cs.tail _ (h.toss k cc r0 r1).1 (mx co) ?_;show EdW (dz ns ts p (cs.headD 0) t.z).aw;unfold dz
       split
       . exact vQ _
       . exact vQ _
     . rw[dA ch cc];erw[e,h.gd.ww]
def Cz(k:GmK ns ts p)(n6:ns.length<=6)(co:bL cs p):EdW (jT ns ts p rows cs).2.z.aw/\AwW (jT ns ts p rows cs).2.z.aw.1:=by
 apply qE k n6 20 cs _ (li k n6).1 co ?_;let e0:cX ns ts p ‹Tk.s› (Db.new ts)=iW ns ts p ‹Tk.s› { Db.new ts with pl:=(Db.new ts).pl+(‹Tk.s›.length:Int) }:=NE rfl;show EdW (cX ns ts p ‹Tk.s› (Db.new ts)).aw;rw[e0];unfold iW
 split
 . exact vQ _
 . exact λz=>absurd z Ac
def Bf{L:List (List Int)}{j:Nat}{c:List Int}(h:L[j]?=some c)(b:List Int->Bool):eP (L.take (j+1)) b []=((eP (L.take j) b []).1+(if b c=true then 1 else 0),(eP (L.take j) b []).2.or (if b c=true then none else some c)):=by
 rw[zZ0,h];show eP (L.take j++[c]) b []=_;rw[wv];unfold eP;cases e:b c <;> simp [e]
end
section
variable {C CM CA CG:Addr}
def SmallG.gm(h:SmallG ns ts p):GmK ns ts p:=by
 let t4:=h.t4;let nl:=h.nl;erw[h.pp,h.p2,h.p9,3,h.t1,3,λt ht=>%[(h.tok t ht).1,Tr.ok_wf h.nok t (h.tok t ht).1,by have:=(h.tok t ht).2.1;omega|by have:=(h.tok t ht).2.2;omega],h.tp,h.tc]
def SmallG.d60(h:SmallG ns ts p):∀y∈ns,aY ts y<=60:=λy _=>by
 let t0:ts≠[]:=λz=>by have:=h.t1;rw[z]at this;cases this
 have:aY ts y<9:=oo t0 λt ht=>by
  let h1:=jS1 (a:=y) (l:=t.names);let h2:=t.names_len;let h3:=(h.tok t ht).2.2;omega
 omega
def SmallG.p81(h:SmallG ns ts p)(pw:p ^ bN ns ts<=81):p<=81:=by
 let p2:=h.p2
 by_cases c:bN ns ts=0
 . have:ns=[]:=by
    unfold bN at c
    split at c
    . exact List.length_eq_zero_iff.mp c
    . omega
   have:=h.p5 this
   omega
 . obtain ⟨k,hk⟩:∃k,bN ns ts=k+1:=%[bN ns ts-1|3]
   rw[hk,qN1]at pw
   have:0<p ^ k:=zV #[0] k
   let h1:1*p<=p ^ k*p:=wG0 #[0] #[0];omega
def HJ{ns:List Str}(h:ns.length<=6):(0:Int)<=(cnt t ns:Int)/\(cnt t ns:Int)<=100:=by
 let h1:cnt t ns<=(cG ns.length).length:=jO0 _ _;rw[gl]at h1
 have:=wL1 (n:=2) ⋯ h
 let e:(2:Nat) ^ 6=64:=by decide
 omega
abbrev bel(ns:List Str)(ts:List Tr)(p:Int)(cl:List Int):List Int->Bool:=λc=>decide ((jT ns ts p (cf cl) c).2.z.aw.1="believed")
structure L64At(CG:Addr)(H:Hp)(sa sb g ct ca h:Addr)(ns:List Str)(ts:List Tr)(p:Int)(cl:List Int):Prop where
 G:Gm CG H g ns ts p
 SG:SmallG ns ts p
 pw:p ^ bN ns ts<=81
 ha:H sa=some (.tup (ns.map V.str))
 hb:∃tv,H sb=some (.tup tv)/\TreesAt H tv ts
 hc:H ct=some (.lst ((sH ts ns).map V.int))
 hl:H ca=some (.lst (cl.map V.int))
 ll:cl.length=ts.length
 hh:∃rv,H h=some (.tup rv)/\RowsAt H rv (cf cl)
 gd:∀r∈cf cl,r.good
def L64At.same(x:L64At CG H sa sb g ct ca h ns ts p cl)(s:Same H H'):L64At CG H' sa sb g ct ca h ns ts p cl:=by
 erw[tv,h1,h2]at x.hb;erw[rv,h3,h4]at x.hh;erw[x.G.same s,x.SG,x.pw,s _ _ x.ha,%[tv,s _ _ h1|h2.mono (aV s)],s _ _ x.hc,s _ _ x.hl,x.ll,%[rv,s _ _ h3|h4.mono (aV s)],x.gd]
instance tL64(CG:Addr)(Dn:Ends)(σ:St)(H:Hp):∀(x0 x1 x11 x12 x13:Option V)(sa sb g ct ca h:Addr)(ns:List Str)(ts:List Tr)(p:Int)(cl:List Int),σ=[x0,x1,some (.ref sa),some (.ref sb),some (.int p),some (.ref g),some (.ref ct),some (.ref ca),some (.ref h),some .non,some (.int 0),x11,x12,x13]->L64At CG H sa sb g ct ca h ns ts p cl->(∀H',Dn.rt (.bl true) H'):=0
instance tM64(CG:Addr)(Dn:Ends)(σ:St)(H:Hp):∀(x0 x1 x11 x12 x13:Option V)(sa sb g ct ca h:Addr)(fv:V)(ns:List Str)(ts:List Tr)(p:Int)(cl:List Int),σ=[x0,x1,some (.ref sa),some (.ref sb),some (.int p),some (.ref g),some (.ref ct),some (.ref ca),some (.ref h),some fv,some (.int (eP (cJ p.toNat (bN ns ts)) (bel ns ts p cl) []).1),x11,x12,x13]->L64At CG H sa sb g ct ca h ns ts p cl->OptAt H fv (eP (cJ p.toNat (bN ns ts)) (bel ns ts p cl) []).2->(∀H',Dn.rt (.bl true) H'):=0
def c9:FnScope ["_law_script","_law_feed_here","_law_switches","_law_trees","_law_p","_law_game","_law_counts_here","_law_claims_here","_law_liar","_law_first","_law_many","_law_coins","_law_talk","_law_end"] ["_law_script"] (ao mQ):=%[|5]
def Jk(F:#["law",mQ])(B:Bl mg)(TG:GTxt K mg CG)(M:Mk K CG fI)(GI:#[14,fI,fdI,Wa,spGInit CG])(bI:Binds K fdI Wa [])
 (mC:Meth K CG "coins" fC)(GC:#[1,fC,fdC,WA,spCoins CG])(bC:Binds K fdC WA [])
 (A4:#[1,"_law_feed",Wv,spFeed K])(pH:#[15,"_law_small",W9,spSmall])(mO:#[13,"_law_counts",Wx,spLC])(mX:#[2,"_law_claims",Wy,spClm64])
 (lG:#[22,"best_liar",["claims"],spBest])(iK:#[1,"_law_all_coins",WQ,spAllL])(lH:#[15,"_law_says_so",VA,spSays CG])(D8:#[13,"_law_due",Wz,spDue])
 (A5:#[27,"talked",Ww,spTalked C CM CG])(pP:#[36,"weighed",["game","helper"],spWeighed C CM CG]):#[37,f,fd,["_law_script"],spLaw K]:=by
 exists c9
 erw[a,sn,1,hS,h63,q]at h;let NO:Room 1 _:=hr.mono ⋯;let hr15:Room 15 _:=hr.mono ⋯;refine⟨_,(ad #[aj,1,c9,aD A4 hr ⋯ rfl %[0,ag|ae]]
  (ad (oS (aD pH hr ⋯ rfl %[1,ag,ag|ae]) (rH rfl (eE (aX (i:=2) c9.nd rfl (.inl rfl)) (eE (aX (i:=3) c9.nd rfl (.inl rfl)) (eE (aX (i:=4) c9.nd rfl (.inl rfl)) ny)))))
  (ad #[aj,5,c9,ia M GI hr15 rfl TG.mgC bI .nil bh %[2,3,4|ae]]
  (ad #[aj,6,c9,aD mO hr ⋯ rfl %[3,2|ae]]
  (ad #[aj,7,c9,aD mX hr ⋯ rfl %[1,6,4|ae]]
  (ad #[aj,8,c9,aD lG hr ⋯ rfl %[7|ae]]
  (ad #[aj,9,c9,ma]
  (ad #[aj,10,c9,ag]
  (lc (t':=tL64 CG) (ad (cx zE1 rfl (dU (aD iK hr ⋯ rfl %[4,bq (pv 5) TG.cl mC GC NO bC .nil bh|ae])) (aX (i:=11) c9.nd rfl (.inl rfl)) (ad (oS (aD A5 hr ⋯ rfl %[5,8,11|ae]) (rH rfl (eE (aX (i:=12) c9.nd rfl (.inl rfl)) (eE (aX (i:=13) c9.nd rfl (.inl rfl)) ny))))
   (ad (aM (jJ (fk (aD lH hr ⋯ rfl %[5,7,12|ae]))) (af (ax iH)) aE)
   (af (aM (am (rN hr.units) (pv 13) (aU %[aI|ae]) (az _)) (af #[aj,10,c9,aq aW (pv 10) ag]) (af (aM (am yC (pv 9) ma (az _)) (af #[aj,9,c9,bc bi rfl B.tuple bt %[11|ae]]) aE)))))))
  (lc (t':=tM64 CG) (ad (aM (am nI (pv 10) (aD D8 hr ⋯ rfl (aa (pv 2) (aa (pv 3) (aa (pv 4) (aa (DI (N:=[]) (ix:=[]) (cl:=[]) rfl
   #[5] rfl ⋯ rfl
   (Jb rfl B.zip %[7,6|ae]) (λ_ _ _=>cE (aq bj (pv 0) (pv 1)))) ae))))) (az _)) (af (ax iH)) aE)
  (af (ax (dy (rN hr.units) (aD pP hr ⋯ rfl %[5,8|ae]) (aU %[10,9|ae]) (az _))))) ?cM)) ?cL))))))))),?_⟩
 case cM=>
  rintro Dn σ H ⟨x0,x1,x11,x12,x13,sa,sb,g,ct,ca,h,fv,ns,ts,p,cl,rfl,Z,OA,q⟩;let k:=Z.SG.gm;let nl:=Z.SG.nl;let t1:=k.t1;let t10:=k.t10;let p2:=k.p2;let p81:=Z.SG.p81 Z.pw;let nd:=Z.SG.nd;let lia:=EH k #[0] nd Z.SG.d60 Z.ll;erw[tv,hb,TS]at Z.hb;erw[rv,hh,RW]at Z.hh;let ep:(p.toNat:Int)=p:=#[0]
  let er:(eP (cJ p.toNat (bN ns ts)) (bel ns ts p cl) []).1=Cb p ns.length ts.length (cgt p (ns.map (aY ts))) (ovr cl (sH ts ns)):=by
   rw [jH (b':=rZ ns ts p cl) (λc hc=>by
    let%[c1|c2]:=jj _ _ hc;rw[ep]at c2;exact Hs k #[0] nd lia Z.ll c2 c1)]
   exact Ho k Z.ll
  let cn:=sG ts ns;let ol:(ovr cl (sH ts ns)).length=cl.length:=zX (Z.ll.trans cn.symm);erw[0,0,0,0,0,0,ca,ct,true,true,1,%[_|zG0 Z.hl],%[_|zG0 Z.hc],λD hD=>?_];apply Fs (K:=K) (c:=true) (d:=true) (xs:=cl.map V.int) (ys:=(sH ts ns).map V.int) (by rw[zF0,zF0,cn,Z.ll]) (λi H'=>H' D=some (.lst (((ovr cl (sH ts ns)).take i).map V.int))/\Same H H') %[by rw[ai];rfl|zE0 hD _] (λi H' _ h=>%[zG0 (h.2 _ _ Z.hl)|zG0 (h.2 _ _ Z.hc)]) ?_ ?_
  . rintro i x y t H6 hx hy ⟨hD6,S6⟩ ht;let hi:=(zX0 hx).1;rw[zW0]at hx hy;let%[x',hx'|1]:=qU0 hx;let%[y',hy'|1]:=qU0 hy;let G6:=zE0 ht (.tup [.int x',.int y']);erw[0,0,2,6];let ll:=Z.ll;erw[_,G6 _ _ hD6,6,Nx.of hi %[6|λb' o' e'=>?_]]
    . rw[zF0,qJ0];exact aO #[0]
    . rw[ai,DL hx' hy',zK0];rfl
    . rw[ay (aP e' hD)];exact G6 _ _ (S6 _ _ e')
  rintro H6 ⟨hD6,S6⟩;rw[zF0,←ol,qA0]at hD6;let ll:=Z.ll;erw[sa,sb,D,ns,tv,ts,ovr cl (sH ts ns),p,1,S6 _ _ Z.ha,3,S6 _ _ hb,TS.mono (aV S6),t1,t10,λt ht=>%[(k.tok t ht).2.1,(k.tok t ht).2.2.1|(k.tok t ht).2.2.2],hD6,ol.trans Z.ll,3,3,λx hx=>by have:=k.deg x hx;omega,λH7 S7=>?_];erw[1,0,6];rw[zC1 (congrArg V.int er)];apply dG ?_;let S:=S6.trans S7;erw[0,0,g,h,rv,cf cl,ns,ts,p,1,Z.G.same S,k,3,S _ _ hh,RW.mono (aV S),Z.gd,by have:=Z.pw;omega,λa2 H8 S8 W8=>?_];rw[AC k #[0]]at W8;erw[0,0,y2S,λa3 ha3=>?_];let I9:=zE0 ha3 (.tup [.int (eP (cJ p.toNat (bN ns ts)) (bel ns ts p cl) []).1,fv]);erw[v2,h2,o2]at W8;erw[wtD (eP (cJ p.toNat (bN ns ts)) (bel ns ts p cl) []),wtD (eP (cJ p.toNat (bN ns ts)) (bel ns ts p cl) []),.tup (zC0 (I9 _ _ h2)) (.cons (.int _) (.cons (o2.mono (aV I9)).rep .nil)),.tup (zC0 ai) (.cons (.int _) (.cons (OA.mono (aV (S.trans (S8.trans I9)))).rep .nil)),oy _,oy _,6];rw[ID];exact q _
 case cL =>
  rintro Dn σ H ⟨x0,x1,x11,x12,x13,sa,sb,g,ct,ca,h,ns,ts,p,cl,rfl,Z,q⟩;let k:=Z.SG.gm;let nl:=Z.SG.nl;let n6:ns.length<=6:=#[0]
  let t1:=k.t1;let p2:=k.p2;let p9:=k.p9;let nd:=Z.SG.nd;let lia:=EH k n6 nd Z.SG.d60 Z.ll;let cn:=jg (ts:=ts) n6;let ep:(p.toNat:Int)=p:=#[0]
  let%[ga,gb,gd',tv,GA,ha,hb,TS|hd]:=id Z.G;let%[dx|hg]:=id GA;erw[0,0,g,dx,0,hg,oi _ _ _ _ ⋯ ⋯ ⋯ ⋯,g,ga,gb,gd',ns,tv,p,1,GA,ha,hb,6];rw[show(if tv.length=1 then(ns.length:Int)else(ns.length:Int)+1)=((bN ns ts:Nat):Int) by rw[TS.length];unfold bN;split <;> rfl];erw[p,0,3,p9,3,3,by rw[qS0];have:=Z.pw;omega,λr rs H2 r0 S2 hrs TT=>?_];rw[qS0]at TT;let rl:=TT.length;erw[r,1,%[_|zG0 hrs],gN (K:=K) (xs:=rs) (λj σ H'=>∃(fv:V)(x11 x12 x13:Option V),σ=[x0,x1,some (.ref sa),some (.ref sb),some (.int p),some (.ref g),some (.ref ct),some (.ref ca),some (.ref h),some fv,some (.int (eP ((cJ p.toNat (bN ns ts)).take j) (bel ns ts p cl) []).1),x11,x12,x13]/\OptAt H' fv (eP ((cJ p.toNat (bN ns ts)).take j) (bel ns ts p cl) []).2/\Same H2 H') %[.non,_,2|Same.refl _] (λj σ H' _ NI=>by erw[_,_,_,_,_,_,sb]at NI;exact zG0 (sb _ _ hrs)) ?_ ?_]
  . rintro j y σ H3 hj ⟨fv,x11,x12,x13,rfl,OA,S3⟩;let S03:=S2.trans S3;let%[c,t,hcs,1,_|ht]:=(TT.same S3).get hj;let%[cll|co]:=jj _ _ (qC0 hcs);rw[ep]at co;let Z3:=Z.same S03;erw[rv,hh,RW]at Z3.hh;erw[0,0,0,g,h,t,rv,cf cl,ns,ts,p,c,1,Z3.G,k,n6,hh,RW,Z.gd,.inl ht,co,6,3,λa H6 S6 Td=>?_]
    . rw [cll];unfold bN
      split <;> split <;> omega
    erw[tb,tc,us,h1,h2,h3,h4]at Td.ex;erw[a,0,zC0 h1,1,_,0,2,6];rw[EG k n6 lia co cll]at h3;let Z6:=Z3.same S6;let rc:bL (gI ts c) p/\(gI ts c).length=ns.length:=by
     unfold gI;unfold bN at cll
     by_cases c1:ts.length=1
     . rw[NE c1]at cll ⊢;erw[co,cll]
     . rw[ND c1]at cll ⊢;erw[mx co,by rw[List.length_tail];omega]
    erw[0,0,0,g,ca,tb,us,ns,ts,p,sOf ts c,cl,gI ts c,1,Z6.G,k,n6,Z6.hl,h2,h3,λc1=>NE c1,rc.1,rc.2,λH7 S7=>?_];erw[true,1,dG ?_];erw[0,y1S,λu hu=>?_];let I8:=zE0 hu (.tup [.str "believed"]);let e8:upd H7 u (.tup [.str "believed"]) u=_:=ai;generalize upd H7 u (.tup [.str "believed"])=H8 at I8 e8;let%[be|ww]:=Cz (rows:=cf cl) k n6 co;let S68:=S7.trans I8;erw[_,awD (("believed":Str),none),IW (S68 _ _ h4),.tup (zC0 e8) (.cons (.str _) .nil),tL ww,tL (.inr (.inr (.inr rfl))),0,6];rw[JJ];let S38:=S6.trans S68;let OA8:=OA.mono (aV S38);let S28:=S3.trans S38;let sn:=Bf hcs (bel ns ts p cl)
    by_cases cb:(jT ns ts p (cf cl) c).2.z.aw.1="believed"
    . apply bd (be cb) ?_;let cb':bel ns ts p cl c=true:=zC1 cb;erw[0,2,fv,some (.ref t),some (.ref tb),some (.ref tc),6,6,S28]
      . rw[sn,NE cb'];rfl
      . rw[sn,NE cb',NE cb',Option.or_none];exact OA8
    . apply aF (λz=>cb (congrArg Prod.fst z)) ?_;let cb':¬ bel ns ts p cl c=true:=λz=>cb (zU1 z)
      rw[ND cb',ND cb',Int.add_zero]at sn;let e1':=congrArg Prod.fst sn;let e2':=congrArg Prod.snd sn
      dsimp only at e1' e2'
      cases eo:(eP ((cJ p.toNat (bN ns ts)).take j) (bel ns ts p cl) []).2 with
      |none=>
        rw[eo]at OA8 e2'
        have:fv=.non:=OA8
        subst this;erw[0,1,0,bd rfl ?_];erw[0,t,0,.inl %[zG0 (S38 _ _ ht)|λb hb=>?_]];let I9:=zE0 hb (.tup (c.map V.int));erw[.ref b,some (.ref t),some (.ref tb),some (.ref tc),by rw[e1'];rfl,6,S28.trans I9];rw[e2'];erw[b,1,ai]
      |some c0=>
        rw[eo]at OA8 e2';erw[b,1,hb]at OA8;erw[0,1,0,aF nofun ?_];erw[.ref b,some (.ref t),some (.ref tb),some (.ref tc),by rw[e1'];rfl,6,S28];rw[e2'];erw[b,1,hb]
  . rintro σ H3 ⟨fv,x11,x12,x13,rfl,OA,S3⟩;rw[rl,qA0]at OA ⊢;erw[_,_,_,_,_,sa,sb,g,ct,ca,h,fv,ns,ts,p,cl,1,Z.same (S2.trans S3),OA,q]
 erw[0,a,sn,0,hS,h63,⋯,⋯,λf0 H1 f00 s1 F1=>?_];erw[0,f0,1,F1,λgt sa sb ns tv ts p H2 hgt hsa hsb TS SG pw F2 S2=>?_];erw[gt,0,zC0 hgt,1,_,0,_,0,2,6];let k:=SG.gm;let nl:=SG.nl;let p2:=SG.p2;let p9:=SG.p9;let t1:=SG.t1;let t4:=SG.t4;erw[0,0,0,λg dx nx ndx nex=>?_];let s3:Same H2 (upd (upd H2 dx (.own g)) g (.ins CG dx [])):=λb o e=>by
  rw[ay (aP e nx),ay (aP e ndx)];exact e
 erw[g,dx,sa,sb,ns,tv,ts,p,1,ai,s3 _ _ hsa,SG.nd,3,s3 _ _ hsb,TS.mono (aV s3),t1,3,k.tok,k.pr,p2,p9,k.tp,k.tc,λd H3 d0 GA hd S3=>%[1|6]];let dnf:d≠f0:=(F2.same s3).ne d0;let S23:Same H2 H3:=λb o e=>S3 b o (aP e nx) (s3 b o e)
 let hsa3:=S23 _ _ hsa;let hsb3:=S23 _ _ hsb;let TS3:=TS.mono (aV S23);let F3:=F2.same S23;clear s3 S3 nx ndx nex hgt hsa hsb TS S2 F1 s1 S23 d0 F2;erw[0,0,sa,sb,ns,tv,ts,1,hsa3,3,hsb3,TS3,3,λt ht=>%[(k.tok t ht).1|(k.tok t ht).2.2.1],λct H4 ct0 S4 hct=>?_];let F4:=F3.same S4;let ctf:ct≠f0:=F3.ne ct0;let cr:∀x∈sH ts ns,0<=x/\x<=100:=λx hx=>by
  let%[t,_|1]:=List.mem_map.mp hx;exact HJ #[0]
 let cn:=sG ts ns;erw[0,0,0,f0,ct,_,p,1,F4,hct,ctf,3,cr,3,3,λca cl H5 ca0 hca cal car F5 S5=>?_];rw[cn]at cal;erw[dg,hg]at GA;let%[_,_,hf4|_]:=id F4;let hg5:=S5 _ _ (bu (S4 _ _ hg) hf4 nofun) (S4 _ _ hg);let hsa5:=S5 _ _ (bu (S4 _ _ hsa3) hf4 nofun) (S4 _ _ hsa3);let hsb5:=S5 _ _ (bu (S4 _ _ hsb3) hf4 nofun) (S4 _ _ hsb3);let kT:cF H4 H5:=λa xs e=>S5 _ _ (bu e hf4 nofun) e
 let TS5:=(TS3.mono (aV S4)).mono kT;let hd5:=S5 _ _ dnf (S4 _ _ hd);let hct5:=S5 _ _ ctf hct;let G5:Gm CG H5 g ns ts p:=%[sa,sb,d,tv,%[dg|hg5],hsa5,hsb5,TS5|hd5]
 erw[0,ca,cl,1,hca,3,3,λh rv H6 hh RW gd S6=>?_];erw[_,_,_,_,_,sa,sb,g,ct,ca,h,ns,ts,p,cl,1,%[G5.same S6,SG,pw,S6 _ _ hsa5,%[tv,S6 _ _ hsb5|TS5.mono (aV S6)],S6 _ _ hct5,S6 _ _ hca,cal,%[rv,hh|RW]|gd],q]
end
def kept_vals{a b c d e f g h i j k l:Tok}:Vals (kept.map V.str) [.str "yes" a,.str "no" b,.str "not" c,.str "and" d,.str "or" e,.str "odd" f,.str "same" g,.str "round" h,.str "due" i,.str "asked" j,.str "true" k,.str "coin" l]:=
 .cons %[|0] (.cons ⟨_,rfl⟩ (.cons ⟨_,rfl⟩ (.cons ⟨_,rfl⟩ (.cons ⟨_,rfl⟩ (.cons ⟨_,rfl⟩ (.cons ⟨_,rfl⟩ (.cons ⟨_,rfl⟩ (.cons ⟨_,rfl⟩ (.cons ⟨_,rfl⟩ (.cons ⟨_,rfl⟩ (.cons ⟨_,rfl⟩ .nil)))))))))))
def sign_vals{a b c d e f:Tok}:Vals (signW.map V.str) [.str "+" a,.str "-" b,.str "*" c,.str "/" d,.str "=" e,.str "<" f]:=
 .cons %[|0] (.cons ⟨_,rfl⟩ (.cons ⟨_,rfl⟩ (.cons ⟨_,rfl⟩ (.cons ⟨_,rfl⟩ (.cons ⟨_,rfl⟩ .nil)))))
def ask_vals{a b:Tok}:Vals (askW.map V.str) [.str "coin" a,.str "true" b]:=.cons %[|0] (.cons ⟨_,rfl⟩ .nil)
def plain_vals{a b c:Tok}:Vals (plainW.map V.str) [.str "round" a,.str "due" b,.str "asked" c]:=.cons %[|0] (.cons ⟨_,rfl⟩ (.cons ⟨_,rfl⟩ .nil))
end
abbrev FH(K:W.Frag)(x:Str)(s:Stmt):Prop:=∃f,W.nsIn K mainGlobals x=some (some (.ref f))/\∃fd,Fun K x x s f fd
abbrev MH(K:W.Frag)(C:Addr)(x y:Str)(s:Stmt):Prop:=∃g,W.findIn K (.ref C) x=some (some (.ref g))/\W.isFn K (.ref g)=true/\∃fd,Fun K x y s g fd
abbrev CH(K:W.Frag)(x:Str)(C:Addr):Prop:=W.nsIn K mainGlobals x=some (some (.ref C))/\W.plainGet K C Str.empty=true/\W.hasDictIn K C=true/\W.plainOver K C=true/\W.findIn K (.ref C) "__setattr__"=some (some (.builtin "object.__setattr__"))/\W.makesIn K C=true/\W.keepIn K (.ref C)=true
abbrev HF(K:W.Frag)(C:Addr)(x:Str):Prop:=W.findIn K (.ref C) x=some none
abbrev HZ(K:W.Frag)(x:Str):Prop:=W.nsIn K mainGlobals x=some none
def aZ{K:W.Frag}{h:Heap}{mg:#[9]}(X:K.In h)(G:h.Ns mainGlobals mg)(z:FH K x s):∃f fd,Fun K x x s f fd/\mg x=some (.ref f):=by
 erw[f,a,fd,F]at z;erw[f,fd,F,qZ1 X G a]
def cW{K:W.Frag}(z:MH K C x y s):∃f fd,Fun K x y s f fd/\Meth K C x f:=by
 erw[f,a,i,fd,F]at z;erw[f,fd,F,a,i,F.kp]
def all_mk{l:PySem.W.OpenLaw}{w:World}{K:W.Frag}{h:Heap}{mg:#[9]}{fa fl CG C CA CM CS:Addr}(X:K.In h)(G:h.Ns mainGlobals mg)(hfa:mg "law"=some (.ref fa))
 {od an:Option Addr}{sl:Array (Option Value)}{oc kV dc pm cd ct:Value}
 {t1 t3 t4 t5 t6 u1 u2 u3 uh:Tok}{ka ja qa pa:Addr}{kd jd qd pd:Option Addr}{kits jits qits pits:Array Value}{kn jn qn pn:Nat}{ksl jsl qsl psl:Array (Option Value)}
 {te tm tr:Tok}
 (aL:W.nsIn K mainGlobals "law"=some (some (.ref fl)))(lL:K.lookup fl=some %[oc,od,.func (W.fnOf "law" "law" (jP mQ) (gG mQ) (ao mQ) .none kV dc pm an cd ct)|sl])(cL:W.codeIn K cd "law"=true)(kL:W.keepIn K (.ref fl)=true)
 (h0:FH K "is_name" oN)
 (h1:FH K "is_figures" jC)
 (h2:FH K "read_helper" iL)
 (h3:FH K "helper_row" jF)
 (h4:FH K "next_name" kq)
 (h5:FH K "next_figures" ip)
 (h6:FH K "next_term" iE)
 (h7:FH K "term_in_bracket" dR)
 (h8:FH K "power" uS)
 (h9:FH K "rows_of_coins" gU)
 (h10:FH K "all_settings" ir)
 (h11:FH K "holds_at" jE)
 (h12:FH K "joined" qU)
 (h13:FH K "count_of" lZ)
 (h14:FH K "trees_within" io)
 (h15:FH K "size_of" kW)
 (h16:FH K "names_in" jx)
 (h17:FH K "counts_of" kC)
 (h18:FH K "true_row" lT)
 (h19:FH K "best_liar" kE)
 (h20:FH K "is_field" lY)
 (h21:FH K "inverse_of" jD)
 (h22:FH K "is_number" ky)
 (h23:FH K "worth_of" jv)
 (h24:FH K "joined_worth" iq)
 (h25:FH K "degree_of" kA)
 (h26:FH K "look_switches" gV)
 (h27:FH K "look_names" jy)
 (h28:FH K "look_field" jz)
 (h29:FH K "look_size" ku)
 (h30:FH K "value_at" lS)
 (h31:FH K "both_ends" kD)
 (h32:FH K "value_behind" im)
 (h33:FH K "products" lU)
 (h34:FH K "inverse_factorials" eB)
 (h35:FH K "all_sizes" kG)
 (h36:FH K "value_of" jw)
 (h37:FH K "op_value" lV)
 (h38:FH K "divided" oO)
 (h39:FH K "asked_once" jG)
 (h40:FH K "talked" qP)
 (h41:FH K "weighed" oG)
 (h42:FH K "weighed_behind" eG)
 (h43:FH K "first_row" kz)
 (h44:FH K "_law_power" oK)
 (h45:FH K "_law_feed" qT)
 (h46:FH K "_law_take" qR)
 (h47:FH K "_law_names" cv)
 (h48:FH K "_law_tree" mV)
 (h49:FH K "_law_names_of" hZ)
 (h50:FH K "_law_need" qS)
 (h51:FH K "_law_is_prime" jB)
 (h52:FH K "_law_without" iF)
 (h53:FH K "_law_small" oJ)
 (h54:FH K "_law_least" oM)
 (h55:FH K "_law_holds" kY)
 (h56:FH K "_law_settings" jA)
 (h57:FH K "_law_counts" lW)
 (h58:FH K "_law_claims" lX)
 (h59:FH K "_law_due" uV)
 (h60:FH K "_law_all_coins" iM)
 (h61:FH K "_law_says_so" kx)
 (gmc:CH K "Game" CG)
 (dbc:CH K "Doubter" C)
 (asc:CH K "Asking" CA)
 (mcc:CH K "Machine" CM)
 (scc:CH K "Scan" CS)
 (Mm:MH K CG "__init__" "Game.__init__" uW)
 (gmmM:MH K CG "mix" "Game.mix" yp)
 (gmmW:MH K CG "worth_at" "Game.worth_at" qV)
 (gmmC:MH K CG "coins" "Game.coins" qW)
 (dbmI:MH K C "__init__" "Doubter.__init__" va)
 (dbmW:MH K C "waits" "Doubter.waits" qX)
 (dbmU:MH K C "due" "Doubter.due" yr)
 (dbmH:MH K C "hear" "Doubter.hear" vb)
 (dbmT:MH K C "toss" "Doubter.toss" uZ)
 (dbmC:MH K C "hear_claims" "Doubter.hear_claims" oP)
 (dbmB:MH K C "begin_rounds" "Doubter.begin_rounds" qZ)
 (dbmR:MH K C "hear_row" "Doubter.hear_row" yq)
 (dbmG:MH K C "go_on" "Doubter.go_on" Dm)
 (dbmE:MH K C "look_at_trees" "Doubter.look_at_trees" qY)
 (dbmN:MH K C "twin" "Doubter.twin" uY)
 (asmI:MH K CA "__init__" "Asking.__init__" vd)
 (asmP:MH K CA "plain_value" "Asking.plain_value" rb)
 (asmC:MH K CA "coin_at" "Asking.coin_at" ve)
 (asmN:MH K CA "true_numbers" "Asking.true_numbers" oQ)
 (asmR:MH K CA "true_at" "Asking.true_at" vc)
 (mcmI:MH K CM "__init__" "Machine.__init__" uU)
 (mcmS:MH K CM "say" "Machine.say" ym)
 (mcmR:MH K CM "do_row" "Machine.do_row" yo)
 (mcmN:MH K CM "twin" "Machine.twin" uT)
 (scmI:MH K CS "__init__" "Scan.__init__" uR)
 (scmE:MH K CS "enter" "Scan.enter" qQ)
 (scmS:MH K CS "sees" "Scan.sees" uQ)
 (scmT:MH K CS "take" "Scan.take" uP)
 (scmW:MH K CS "word" "Scan.word" uO)
 (scmF:MH K CS "finish" "Scan.finish" oH)
 (qj:HF K CG "switches")
 (gmn_trees:HF K CG "trees")
 (gmn_field:HF K CG "field")
 (gmn_degrees:HF K CG "degrees")
 (dbn_game:HF K C "game")
 (dbn_awaited:HF K C "awaited")
 (dbn_claims:HF K C "claims")
 (dbn_s:HF K C "s")
 (dbn_heard:HF K C "heard")
 (dbn_tossed:HF K C "tossed")
 (dbn_held:HF K C "held")
 (dbn_places:HF K C "places")
 (asn_game:HF K CA "game")
 (asn_number:HF K CA "number")
 (asn_many:HF K CA "many")
 (asn_held:HF K CA "held")
 (asn_s:HF K CA "s")
 (asn_tossed:HF K CA "tossed")
 (asn_truths:HF K CA "truths")
 (mcn_game:HF K CM "game")
 (mcn_helper:HF K CM "helper")
 (mcn_next_round:HF K CM "next_round")
 (mcn_boxes:HF K CM "boxes")
 (scn_text:HF K CS "text")
 (scn_row:HF K CS "row")
 (scn_most_within:HF K CS "most_within")
 (scn_most_parts:HF K CS "most_parts")
 (scn_place:HF K CS "place")
 (scn_parts:HF K CS "parts")
 (g1:W.nsIn K mainGlobals "LETTERS"=some (some (.str LET t1)))
 (g3:W.nsIn K mainGlobals "LONGEST_NAME"=some (some (.int 6 t3)))
 (g5:W.nsIn K mainGlobals "KEPT_WORDS"=some (some (.ref ka)))
 (g6:K.lookup ka=some %[.type "tuple",kd,.seq kits kn|ksl])
 (g7:kits.size<=100)
 (g8:Vals (kept.map V.str) kits.toList)
 (e1:W.nsIn K mainGlobals "WORD_ENDS"=some (some (.str ENDS t4)))
 (e2:W.nsIn K mainGlobals "MOST_WITHIN"=some (some (.int 8 t5)))
 (e3:W.nsIn K mainGlobals "MOST_PARTS"=some (some (.int 20 t6)))
 (w1:W.nsIn K mainGlobals "FIGURES"=some (some (.str FIG u1)))
 (w2:W.nsIn K mainGlobals "MOST_FIGURES"=some (some (.int 12 u2)))
 (w3:W.nsIn K mainGlobals "MOST_ROWS_helptexts"=some (some (.int 60 u3)))
 (j5:W.nsIn K mainGlobals "SIGNS"=some (some (.ref ja)))
 (j6:K.lookup ja=some %[.type "tuple",jd,.seq jits jn|jsl])
 (j7:jits.size<=100)
 (j8:Vals (signW.map V.str) jits.toList)
 (q5:W.nsIn K mainGlobals "ASKING_WORDS"=some (some (.ref qa)))
 (q6:K.lookup qa=some %[.type "tuple",qd,.seq qits qn|qsl])
 (q7:qits.size<=100)
 (q8:Vals (askW.map V.str) qits.toList)
 (p5:W.nsIn K mainGlobals "PLAIN_WORDS"=some (some (.ref pa)))
 (p6:K.lookup pa=some %[.type "tuple",pd,.seq pits pn|psl])
 (p7:pits.size<=100)
 (p8:Vals (plainW.map V.str) pits.toList)
 (wh:W.nsIn K mainGlobals "LIAR_ROWS"=some (some (.str ("if (= lied 0) 9\nif (= asked 1) 8\nsay (true 0)\nsay (- due (true 0))\nset i 2\nsay (true i)\nset i (+ i 1)\ngo 5\nsay (/ due 2)\nset lied 1":Str) uh)))
 (xmr:W.nsIn K mainGlobals "MOST_ROWS_weighing"=some (some (.int 4000 tr)))
 (ge:W.nsIn K mainGlobals "FIELDS_END"=some (some (.int 1000000 te)))
 (xmo:W.nsIn K mainGlobals "MOST_ROWS_DONE"=some (some (.int 200 tm)))
 (z0:HZ K "len")(z1:HZ K "range")(z2:HZ K "isinstance")(z3:HZ K "int")(z4:HZ K "bool")(z5:HZ K "list")(z6:HZ K "tuple")(z7:HZ K "max")(z8:HZ K "reversed")(z9:HZ K "enumerate")(z10:HZ K "sum")(z11:HZ K "all")(z12:HZ K "zip")(z13:HZ K "dict"):
 ∃fd:FuncData,(∀(s:Shared) (v:Value),BindsTo s fd %[[v]|[]] [("_law_script",v)])/\∀base:Heap,K.In base->base.Ns mainGlobals mg->FnOk l.prog w K mg base CX0 37 fa fd ["_law_script"] (spLaw K):=by
 let e:=hfa.symm.trans (qZ1 X G aL);cases e;let Mn:=JD (st:=mQ) lL cL kL;exists 1,E7,Ld,h0,ql,Kk,h1,n8,J9,h2,qw,Kl,h3,u7,Kz,h4,lR,E1,h5,u8,u9,h6,t9,uF,h7,KJ,Mj,h8,ju,A9,h9,l6,E3,h10,B0,B7,h11,Km,Lm,h12,B8,KL,h13,l7,E4,h14,E8,E9,h15,B9,C0,h16,v3,KA,h17,C1,KM,h18,v4,KB,h19,C2,KN,h20,qM,Kn,h21,v5,KC,h22,C3,C4,h23,l8,E5,h24,v6,KD,h25,jV,C5,h26,qN,Ko,h27,qO,Kp,h28,v7,KE,h29,C6,KO,h30,v9,KF,h31,l9,E6,h32,C7,KP,h33,gP,m5,h34,wk,KG,h35,C8,C9,h36,Dk,KQ,h37,FL,Le,h38,q0,Kq,h39,Kr,Ln,h40,FM,Lg,h41,jk,jm,h42,wo,KH,h43,G7,Lh,h44,Ks,Lo,h45,Kt,Lq,h46,G9,Li,h47,Ku,Kv,h48,r6,r8,h49,Kw,Lr,h50,r9,Kx,h51,wp,wu,h52,J0,Lj,h53,J1,Lk,h54,J5,J8,h55,sL,Ky,h56,D1,KR,h57,D4,KS,h58,KK,Ml,h59,oF,Kf,h60,y4,KI,h61;erw[gmgg,gmpg,gmhdi,gmpov,gmsat,gmmki,gmkcl]at gmc;erw[dbgg,dbpg,dbhdi,dbpov,dbsat,dbmki,dbkcl]at dbc;erw[asgg,aspg,ashdi,aspov,assat,asmki,askcl]at asc;erw[mcgg,mcpg,mchdi,mcpov,mcsat,mcmki,mckcl]at mcc;erw[scgg,scpg,schdi,scpov,scsat,scmki,sckcl]at scc;exists 2,Ls,Lu,Mm,Lv,KU,gmmM,Lw,Lx,gmmW,Ly,KW,gmmC,Lz,LA,dbmI,LB,Mo,dbmW,LC,Mp,dbmU,LD,Mq,dbmH,LE,Mr,dbmT,LF,Ms,dbmC,LG,LH,dbmB,LI,Mt,dbmR,LJ,LK,dbmG,LL,Mu,dbmE,LM,Mv,dbmN,LN,LO,asmI,LP,Mw,asmP,LQ,Mx,asmC,LR,Mz,asmN,LS,MB,asmR,LT,LU,mcmI,LV,MC,mcmS,LW,ME,mcmR,LX,MF,mcmN,LY,LZ,scmI,L3,MG,scmE,L6,L7,scmS,L8,MI,scmT,L9,MJ,scmW,Ma,ML,scmF;let B:Bl mg:=%[qG1 X G z0,qG1 X G z1,qG1 X G z2,qG1 X G z3,qG1 X G z4,qG1 X G z5,qG1 X G z6,qG1 X G z7,qG1 X G z8,qG1 X G z9,qG1 X G z10,qG1 X G z11,qG1 X G z12|qG1 X G z13]
 erw[W.fnOf "law" "law" (jP mQ) (gG mQ) (ao mQ) .none kV dc pm an cd ct,λs v=>.of_eq rfl,λbase _ _=>?_];let cal:=@Cal.of l.prog w K mg base;let TG:GTxt K mg CG:=%[%[gmpg,gmhdi,gmpov|gmsat],qj,gmn_trees,gmn_field,gmn_degrees|qZ1 X G gmgg]
 let T:DTxt K mg C:=%[%[dbpg,dbhdi,dbpov|dbsat],dbn_game,dbn_awaited,dbn_claims,dbn_s,dbn_heard,dbn_tossed,dbn_held,dbn_places|qZ1 X G dbgg]
 let TA:ATxt K mg CA:=%[%[aspg,ashdi,aspov|assat],asn_game,asn_number,asn_many,asn_held,asn_s,asn_tossed,asn_truths|qZ1 X G asgg]
 let TM:MTxt K mg CM:=%[%[mcpg,mchdi,mcpov|mcsat],mcn_game,mcn_helper,mcn_next_round,mcn_boxes|qZ1 X G mcgg]
 let TS:STxt K mg CS:=%[%[scpg,schdi,scpov|scsat],scn_text,scn_row,scn_most_within,scn_most_parts,scn_place,scn_parts|qZ1 X G scgg]
 let TX:Tx K mg:=%[%[t1|qZ1 X G g1],%[t3|qZ1 X G g3],%[ka,qZ1 X G g5|λ_=>.inr %[_,kits,kn,g6,1,1,zQ0 g7 (small ⋯)|g8]],%[t4|qZ1 X G e1],%[t5|qZ1 X G e2],%[t6|qZ1 X G e3],%[u1|qZ1 X G w1],%[u2|qZ1 X G w2],%[u3|qZ1 X G w3],%[ja,qZ1 X G j5|λ_=>.inr %[_,jits,jn,j6,1,1,zQ0 j7 (small ⋯)|j8]],%[qa,qZ1 X G q5|λ_=>.inr %[_,qits,qn,q6,1,1,zQ0 q7 (small ⋯)|q8]]|%[pa,qZ1 X G p5|λ_=>.inr %[_,pits,pn,p6,1,1,zQ0 p7 (small ⋯)|p8]]]
 let MN:=Ls.binds (ps:=["self","switches","trees","field"]) ‹X.a›;let KY:=Lv.binds (ps:=["self","numbers","s"]) ‹X.a›;let Mb:=Lw.binds (ps:=["self","point","s"]) ‹X.a›;let KZ:=Ly.binds (ps:=["self"]) ‹X.a›;let K2:=Lz.binds (ps:=["self","game"]) ‹X.a›;let MO:=LB.binds (ps:=["self"]) ‹X.a›;let MP:=LC.binds (ps:=["self"]) ‹X.a›;let MQ:=LD.binds (ps:=["self","values"]) ‹X.a›;let MR:=LE.binds (ps:=["self","r"]) ‹X.a›;let MT:=LF.binds (ps:=["self","values"]) ‹X.a›;let Mc:=LG.binds (ps:=["self","s"]) ‹X.a›;let MU:=LI.binds (ps:=["self","values"]) ‹X.a›;let Md:=LJ.binds (ps:=["self"]) ‹X.a›;let MV:=LL.binds (ps:=["self"]) ‹X.a›;let MW:=LM.binds (ps:=["self"]) ‹X.a›;let MX:=LN.binds (ps:=["self","game","number","many","due","s","coins"]) ‹X.a›;let MY:=LP.binds (ps:=["self","word"]) ‹X.a›;let MZ:=LQ.binds (ps:=["self","place"]) ‹X.a›;let M1:=LR.binds (ps:=["self"]) ‹X.a›;let M3:=LS.binds (ps:=["self","place"]) ‹X.a›;let K5:=LT.binds (ps:=["self","game","helper"]) ‹X.a›;let M4:=LV.binds (ps:=["self","many","due","s","coins"]) ‹X.a›;let M6:=LW.binds (ps:=["self","place","said","asking"]) ‹X.a›;let M7:=LX.binds (ps:=["self"]) ‹X.a›;let M8:=LY.binds (ps:=["self","text","row","most_within","most_parts"]) ‹X.a›;let M9:=L3.binds (ps:=["self","within"]) ‹X.a›;let Me:=L6.binds (ps:=["self","signs"]) ‹X.a›;let Na:=L8.binds (ps:=["self","signs"]) ‹X.a›;let Nb:=L9.binds (ps:=["self"]) ‹X.a›;let Nc:=Ma.binds (ps:=["self"]) ‹X.a›;let A4:=cal Ks (Br Ks B.len) Lo ‹X.a›;let aQ:=cal Kt (Bp Kt ) Lq ‹X.a›;let mz:=cal C2 (wJ C2 ) KN ‹X.a›;let eN:=cal qM (sX qM ) Kn ‹X.a›;let e9:=cal v5 (vy v5 B) KC ‹X.a›;let ei:=cal C7 (wF C7 ) KP ‹X.a›;let e7:=cal gP (kf gP B ei eN) m5 ‹X.a›;let gQ:=cal l9 (qc l9 B ei e7) E6 ‹X.a›;let b6:=cal C6 (wD C6 B gQ) KO ‹X.a›;let km:=cal v9 (vC v9 b6) KF ‹X.a›;let a7:=cal l7 (qe l7 ) E4 ‹X.a›;let ic:=cal E8 (rP E8 B E9 a7 10) E9 ‹X.a›;let eg:=cal B9 (pM B9 C0 a7 10) C0 ‹X.a›;let di:=cal l8 (qg l8 ) E5 ‹X.a›;let fK:=cal C3 (pJ C3 C4 di 10) C4 ‹X.a›;let kg:=cal v6 (vA v6 B.max eg) KD ‹X.a›;let gC:=cal jV (oW jV B.enumerate) C5 ‹X.a›;let i3:=cal qN (sS qN eg) Ko ‹X.a›;let i4:=cal qO (sT qO %[te|qZ1 X G ge] mz) Kp ‹X.a›;let kh:=cal v7 (vw v7 B.max) KE ‹X.a›;let o9:=cal G9 (yH G9 B.range aQ) Li ‹X.a›;let f6:=cal Ku (tR Ku B.len Kv aQ 10) Kv ‹X.a›;let cQ:=cal r6 (lI r6 r8 10) r8 ‹X.a›;let A3:=cal Kw (Bq Kw B.len B.max cQ) Lr ‹X.a›;let i8:=cal r9 (sV r9 B.range) Kx ‹X.a›;let gn:=cal G7 (yG G7 B) Lh ‹X.a›;let jp:=cal J1 (yI J1 A3 i8) Lk ‹X.a›;let fY:=cal wp (nO wp wu B 10) wu ‹X.a›;let pH:=cal J0 (yF J0 B aQ o9 f6 jp gn fY) Lj ‹X.a›;let ie:=cal J5 (rR J5 J8 10) J8 ‹X.a›;let i7:=cal sL (sU sL B.range B.tuple) Ky ‹X.a›;let mO:=cal D1 (wH D1 B i7 ie) KR ‹X.a›;let mX:=cal D4 (wI D4 aQ) KS ‹X.a›;let D8:=cal KK (DX KK B gn cQ) Ml ‹X.a›;let kj:=cal wk (vE wk B TG ic) KG ‹X.a›;let Nd:=‹DY.p› Ls TG B.tuple B.len kg gC i3 i4 kh;let K7:=‹Hb.p› Lv TG B.reversed;let Mf:=‹Bt.p› Lw TG KU K7 KY fK;let K8:=‹Bu.p› Ly TG B.len;let Nf:=‹Bw.p› LL B T TG Lx Mf Mb kj;let Mg:=‹Jl.p› LJ B T TG Mu Nf MV;let Mh:=‹Bx.p› LG T TG KU K7 KY LK Mg Md;let Ng:=‹yL.p› LF B T TG LH Mh Mc;let Nh:=‹Hc.p› LI B T TG km;let Ni:=‹Ec.p› LD B T TG e9 Ms Ng MT Mt Nh MU;let Nj:=‹Ea.p› LE B T TG e9 b6 LH Mh Mc LK Mg Md;let K9:=‹Eb.p› Lz B T TG;let Nk:=‹Bv.p› LB T;let Nl:=‹Hd.p› LC T;let dq:=cal l6 (qh l6 B.range) E3 ‹X.a›;let gR:=cal Km (Bs Km ) Lm ‹X.a›;let fL:=cal B0 (pN B0 B7 gR 12) B7 ‹X.a›;let mK:=cal B8 (wK B8 B.len dq fL) KL ‹X.a›;let kP:=cal v3 (vB v3 TG mK) KA ‹X.a›;let fN:=cal C1 (wE C1 B TG Lx Mf Mb dq) KM ‹X.a›;let o7:=cal FL (yK FL eN) Le ‹X.a›;let fO:=cal Dk (wG Dk o7) KQ ‹X.a›;let Nm:=‹Ee.p› LN B TA;let Nn:=‹By.p› LP TA TG;let No:=‹Ef.p› LQ B TA TG;let Np:=‹yM.p› LR TA kP fN;let Nq:=‹Ed.p› LS B TA TG Mz Np M1 b6;let AF:AskF l.prog w K mg base CA CG _ _ _ _ _ _:=⟨Mw,Nn,MY,Mx,No,MZ,MB,Nq,M3⟩
 let cO:=cal C8 (pK C8 C9 TA TG AF fO 5) C9 ‹X.a›;let La:=‹DW.p› LT TM;let Nr:=‹Ha.p› LW B TM cO;let Nt:=‹GZ.p› LV B TM TA %[tm|qZ1 X G xmo] ⟨asmki,LO.1,LO.2,askcl⟩ Nm MX ME Nr M6;let Y:Ways l.prog w K mg base C CM CG _ _ _ _ _ _ _ _ _ _:=⟨Mo,Nk,MO,Mp,Nl,MP,Mq,Ni,MQ,Mr,Nj,MR,MC,Nt,M4⟩
 let MDk:Mk K C _:=%[dbmki,LA.1,LA.2|dbkcl]
 let MMk:Mk K CM _:=%[mcmki,LU.1,LU.2|mckcl]
 let Nu:=‹DZ.p› LM T MDk K9 K2;let Nv:=‹DV.p› LX B TM MMk La K5;let Z:Twins l.prog w K mg base C CM CG _ _ _ _:=%[Mv,Nu,MW,MF,Nv|M7]
 let b7:=cal q0 (sZ q0 B T TM Y) Kq ‹X.a›;let A5:=cal Kr (Bn Kr B T TM Y MDk K9 K2 MMk La K5 b7) Ln ‹X.a›;let D7:=cal KJ (DU KJ B) Mj ‹X.a›;let gO:=cal ju (oV ju TG KW K8 KZ D7) A9 ‹X.a›;let fq:=cal wo (vz wo B TG KW K8 KZ) KH ‹X.a›;let dL:=cal jk (iI jk jm B T TM TG Y Z b7 fq 8) jm ‹X.a›;let pP:=cal FM (yD FM T TM %[tr|qZ1 X G xmr] MDk K9 K2 MMk La K5 gO dL) Lg ‹X.a›;let Nw:=‹DT.p› LY TS;let Ny:=‹Bo.p› L3 TS;let Mi:=‹DS.p› L6 TS;let Nz:=‹DR.p› L8 B TS L7 Mi Me;let NA:=‹DQ.p› L9 B TX TS;let NB:=‹yE.p› Ma B TS;let M:Mths l.prog w K mg base CS _ _ _ _ _ _ _ _ _ _:=⟨MG,Ny,M9,L7,Mi,Me,MI,Nz,Na,MJ,NA,Nb,ML,NB,Nc⟩
 let eK:=cal E7 (yJ E7 B TX) Ld ‹X.a›;let cI:=cal ql (sW ql B TX) Kk ‹X.a›;let db:=cal u8 (nK u8 u9 t9 uF B TX TS M eK cI 8) u9 ‹X.a›;let lD:=cal u7 (vt u7 TS M eK) Kz ‹X.a›;let fQ:=cal lR (qf lR B TS M cI) E1 ‹X.a›;let i9:=cal qw (sY qw TX TS M %[scmki,LZ.1,LZ.2|sckcl] Nw M8 lD fQ db) Kl ‹X.a›;let iD:=cal n8 (rQ n8 B TX i9) J9 ‹X.a›;let lG:=cal v4 (vD v4 B ⟨uh,qZ1 X G wh⟩ iD) KB ‹X.a›;let iK:=cal oF (rS oF B) Kf ‹X.a›;let lH:=cal y4 (vx y4 B TG KU K7 KY fN b6) KI ‹X.a›;let MGk:Mk K CG _:=⟨gmmki,Lu.1,Lu.2,gmkcl⟩
 exact Jk Mn B TG MGk Nd MN KW K8 KZ A4 pH mO mX lG iK lH D8 A5 pP
def walk{l:PySem.W.OpenLaw}{q:Program}{loose:List Str}{XP:(#[9])->Heap->Prop}{YP:World->Heap->Prop}{d:DefRec}{K:Params->PySem.W.Frag}(hn:l.most=some 63)(hdf:d.params.defaults=[])
 (hY:∀(w:World)(h:Heap),YP w h->(K w.params).In h)
 (F:∀(w:World)(mg:#[9])(fa:Addr)(h:Heap),(K w.params).In h->h.Ns mainGlobals mg->mg d.name=some (.ref fa) ->
  ∃fd:FuncData,(∀(s:Shared) (u:Value),BindsTo s fd %[[u]|[]] [("_law_script",u)])/\∀base:Heap,(K w.params).In base->base.Ns mainGlobals mg->FnOk l.prog w (K w.params) mg base CX0 37 fa fd ["_law_script"] (spLaw (K w.params))) :
 PySem.W.WalkO q loose XP YP l.row.toRowW d [] (λf vs=>PySem.call f vs):=
 L2.walk_of (n:=63) (k:=37) (x:="_law_script") (CX:=λ_=>CX0) (sp:=λw=>spLaw (K w.params)) hn ⋯ hdf %[1,1,4|4] hY F (λ_ _ a ns hl _ hS=>%[a,ns,1,hS,hl|λ_=>rfl]) λ_ _ _ _ _ z=>z
end Mine
namespace PySem.W.Fast
example:="HpZ7vwTfjCiFhAuKRsar3NJaAIZeKQUlr0Qu2ADJ0PblA44atwty2P69Wh7dDaIRVg3WvgMIstUGb7akoIQaW6wk1M802YcXqRE7WMTEXiGLNZ3jHrlLZnQ65BWGhWC5MqnK4TQyak2D3Dh0l18RNZI4gk6Kwoe1dne89ICClWHOtatj1mCr0bFliCMBweo53Jz2IQLxsJZQFc5GmCzKmtKqOalXI2EHJjrsjEl7Ianhjs8oBoJk5zQnWLofs31nLFqa2isDKGZXWBqX3Ks4DlKuhhYVwz2aAjvlVADuHEiMtRl7D0zP29QGQEWaxUT6vDS2mMdWYMFyO29pF6h7FB4Ch3VTc7PrE128ovRbWQhHLQBZmLgtzN147Fup68FpkFMEQfhygmhZCY1mnbZrGNJGhLAVlgJ5GQEx4KjCsD3DqIX3vXcKhC6p3Do6nYYMNjDK0ye7NsPMu63F2icfcemo9Dv83dMdeNLI0rY6wSQsnm11tFKcin859E38jhycw48VDIRbyTP7vb0sJowN3etAbFlJ8bRl37seg21GkeWkOCyE410jlJ7L78MS8dn5Gug4sOVGDsEQU1jIriEtTKYY06nPe4dCqTgE9qzx6uvVmHOuWX85q8dQ7ETeb71yvs8FPEaQuEBKAeSmRMWOLSPsZvBLZaVJ1ZH6ltI4LAKSUfz3pRDHPFjBgtZ6f6hY2SLCuNnZmGUESpurvOuXSqD9osAwssyqUBlLXNueqV8b7RdtIjQPumN79FOWUWCt9h6AdIAVylo3H8FygqGFCVKl4E2aOUj70BE3pt2yNFyVv7JK9yisjbowIAqOS4P78RqJ98pJBNhfBB18SroBT6CTzrD62TXlQzBlC6NUqdbcw2X5JN4oYv2JXNH1qgzEiqnDaqJC91EU3THuI5zhNTrIPXKZ6bcFBjBdYYu8pmqhQFxm6u54XVyi2bibDLyLbLIEMYdV2duffjrNGD7GmTaOnyvbVJ6q3bAyDFhKZJBKK19xB6USC5yTucWq9gfKSMoCPiR3uHHMDFYkqkjfrAjBzXJ9umRmEiDGRfwqPxxCE7PmjMzuKk6aZnd6R5YQS50kisXWj6GiFABpPyYEkHa1BNkxwIGGqa3KzV25qUkkDEht8IIRLW6qIQrypbUqbvE42o6sxWrqKtDaHvhhOoFTb88zu0r4NG3HLVfcYEGHtvS8ARTVLHFsERGyAlaLGl9hc6AXdb0xFKT38rCAQYcCV7F7Gv9QIShh1hLv5Woy1ehZSIlwlEkLCV5wDoJcWQKAaMXKvsF0ijPnXlBPcqD6oQDfN9kuOJ2afvnK3ZQrjcIXIsC2IIAX9cKEDb9YpHcOELyfGDWQoPyQwgnJ8lhZuaafTdZ5f0hvpGd5GxB6vnSn1XpGy9RuOlqUggnQ3qt5YHmraVa2nJLmmRsA4EHIP3FTSu52cGymKjsPpKVJJ9ahESr7x0130eyEjYMaxK14HeahGYVqEGhN9qaPWuYsHBVMHfG8KXxLX6PaQbElZb8dGJmBeC78rGKmg8yHQSFfCLzP9ax6zgK4MM7yfM3fbn9iFlBrcdZH8KMgBYEjitviKkq2ZV8o7bp7phRz9B8ni86GTpIF0LaMf0FyNyLnfkuqBrX6odhEoq3IPaEx2j95UVAD3meDcKujC0rq4u4RxlQAHsB7kdy9gfx6dFYu25Z7Fz2hMykreaFWC6vwU2Nqgfeg2EftKHRsU57FXzyLmfLXQc4YCJvj4gj7W42zw5rCQAXvEu91rcawCEXAV6ak9bUAuY1JooitOq1cb1QLL5jvGTLnIO6KISc2eOeEdUH8s6kjX5CGg1Wc0WeCDEt6Fs5o2Nli7WzgjDCQXrBF07MCHoMnoh7WDPR8oWUujA0rzm08hGuzG2t5ORaO63zJNYTwKxepVRHr5eJxKQGfFE2ggkd0vwSk2r3ABG3NIzO8nuGexB83glK7rZnrARV0T8Goan7eX1rpGflpJsJKl4VA6hbKeoiGDA8u0gQqJyIqf7MLsAcoQLFs3C5ZZQjf97MB7Yur2EBh9T9xk90m7fdd32yP6ufhll0S4gFgbJcnjTL2xxL2euZZ2x4k7eKLnVI1B2H5v7wnCYpVDOj3TZetDSA79IQvxZkUWjLCsEdDSoGQ069453fc3sZ8L0cwWhDGDAu5SEyFbNUYYY5Of4ZKmb6USL2LvhnYjxi6KGjjFvGDYCS13HgZeKt5i15TdjrgyJ6QN7nKomUdanZmAxofra6CDGXJkCiqMXIqLWKuuFAcZgX0HK1HsrgwU0zJLBdSC2W4Hs1Aii0r8aTjPRJMpjNK1Azv0DWgr0ujQLnAJiKCzCSPkq9DbKppanCCLh2yRmiPVyVKN4SCxYBMNuTcBqT7FWHgn1S4bXyek6q5jUGrFOCoUNZP78tyjan8ij2PDH60iDpZvT9HdkRdqpSbAYIIjFUGS4NrS2dVK6tdJ3spG7EYTJD7Srv8v4fLe3tL73A3VT88TgbGR6jUl9Hl5jFZJ5x2FQPVzoHKkFVx2b9bPUFpCsYhyNdZyLpflUrkWFFcIcp54R6sojc335J3ypZHpT5FrTzxCoSJtEyZSVUtLCDDK6x2ne2OWYs20eEJQQm3AJ2CGoWVOFNlA3j1K5Ue09oMEHjTPxgETro9ovRE52tfDD75CI6yU0TIc3yauA6X5J724M3FdTLJEgqGH5jpj4yuAr3DFYahPNYyW1YMkMG2k02mEsMXW80pdneD0sWNmzsPRyDAFO4skXQNDKyGoAxDsKV96ZNLKuB6xvn4VW3luudmxV3lNtnXvVeaP6jjeCJWXqLzIJxwhysZOptJOC8UNYhBp1CyqxMOCLeQHGpT0iIEbIgP9ytorpzkhFq0ZEOqNdVQY74OyYsEUv36C8Iw5jr6WFsILspfUNr3powDSLNrbLyEhsJYw2b9BDcR96MaXP27Ni2gIfsTwnKUvAh3QL8Q6zQAYXKoJDCjZq7kg8MzUVqT02CtD4Ui0j7V8z02GogPYUMeFk3AUjwC41fA9Bdkp3YGJ52PGc2nrJNwgmx1XvUZwe7vCmFfCkW1esY124h4jCnTG0fJHdpebmG4HCEF4yexw1Pfl19svYbcg8bwmA9x6xaWQIhP9hOCjDt1xf6AOxCot0YtoZEhvmhNFgNP3F3xh0ddEjp06DFyfs6rOf9Hk0ApcN6RE66Z6AAlmM5Yd8M5J1Aq4wQHDvuUIwpto8W8bE5dpCj5gz3wIYdtiOzXb1K1D91Q3zRAHiTH9gbW3i5LD46fkeocMv9SRCi5TQzfuIXkGtbKBF068gDf0KU2I7aKj0pZCcd6ehELJB3FToSGWKYIVTx4XZdD69LpFMMK30M5JAtk4ykTLpFrQbWTcqtbV7u9l5OkGR1kKXuGn7m82DwIsMjXFJ4rYs76O6TYsWl5XEZJDyUhWPzm7Sl0d5Sorp2JgwTyEXlWnHLB2d0BIoecXKra824YuSx90Cgh6qUQYKb5hvmG2T5xWl9BR3VKaQ2HzBwS9ZoHSGTHElYdwg5iaZw9Dhq9YvAChqAJJ6razLTetHPot4tevXGsLJ23SNNnoMPCHt0zu9HqM3GSH1UjyqMn79QlZOzLutrkF6SwOodQHXa9CeyL8TMhKL5eab23a1po7KOeMA0hkwvsF2F14O3qXBIL016j3YeWiXLROyxXU85V6DgKN8PQkD5F5oq1EKruFD75XLdwEsTgk0BMUswliIM05Ak1DF1broR8INu8bqT91zlK0waBzp1aMoIBaA7ja4X6w44V2YEsbplV01wQAy9gcSX9lVYDaRbDGtLsdXClNutr650D91DCu4wW34dayuSZ681G1G31Jyfzj98MVNky9Rd7K2NIzT24wh9F6gwDDhp7pWsFMsuJa7JA2qIU9zLxL6WYeJfjG5v3X1AI85ZvpKab65X3ypQ7FweFf6FjAMSaYKRF35GFXAokfUDo7MRouJEYtT78xUJQOl50LwIweJOFyJfkjF3kZyD2vcPIJZeBIvdkwU1Jwc20gXxAf81e275espHGoEa3ErGAlxCq6T2JO4RaUhn9xkQ2oz50JZ1HhNythzdmPJQ78i9R1EEaKpk6wVJBnUXBcZb6SuTKcM6Edo0JOrKT525dKdEbbYcL477ACOJpBvgAfTn3aU98Yp259ihQxfa0VEEjMwtHuU0g0ljxa6Rm0f0GVV5ORjMEv35mf4DnmGa36EowS1RoNbGK48YxTWhaFWIBU9eG4uFmu3KsO5kTof0bHCflozbjwMRr8OvHjzVAyBsDHqdXFn3pED5VC6XjvGzRyK2GIDHUmaXgAhPLicveUKyHjgLfEctcEq9vOFVjYnshZH5E1WL3aB7b3ubujdtFHKYGxD4gQy096mLeQqxLAcCNg3So25fHVoBq0PTmjrNdnOK0G5jIBbfLiG1FwSqnWHbCb4kWpgt9dLtoLOx1IQ1KHtP0GF2DCKP72oF8pBClP8tj94OTtuX4oL3OBvoD5Z4CJssKM9IjAf4AfE8S2xjb2Jt3dIMlFSESK07NHUN2tExgo2aLBrXB5UznE8IMhude7W2b8AMxhyrRuSwY9a1gWbJTaIN7ywk48oGiv93H8nmRB7tfvAotHuzMvNYLEbCK3FnGwDd4l8f2zGAyiGLkdWEEsO52u1mZilHptMu7AB1tE8R66aXGBFgdauwn9OGjUmyD4g0k82I3Ki5Esqg7C9xw4ovNqrcADN5aGSajgsJdDiY3mDalZDmHRBVA40KW0F79180XUQp714AczG8tFzCRIkXnOLNKCJ551Xf8S8zr13nucZ0vrTKGvV392yzxrlAQPs5ux7yxWIfKnuUAsV5ALolsQPtdOR212f7GiH64LI1TEFeBh89ya5VmJagbt5HnF8p1FTNs8va2y8BOkbRtrKLmV8eSX8mHCJKD5lTof0ks8s4LYo8JMg92DJaUmOliVz3lEs5HiLbrgB5irduz9kGz6oDiODj12J40WcJRFFLgTo7qHA6EDbdBbLmEpNeSwsj2CySDtbF9v6b3OYlObHlyDtLxJCyaCr2iF6fJAYrIvV1iGfBEr1vrmsIAaPtCQnarhWEreB56k4oUqCSEkn142q7eDTyP52mScCJDCfUxOqlue48Ww0CuyTG54JKcEORKAxFeE3QmsjPQLo1DEPcSVmEfz5C3JIm74Gwle26qrg4PrU1WG2cFXzgKJv868vDS1aLkF6JsAQlejOm9N5iPGXBx9H6w1S93r7DDRJF8xGuC1iGVy4DojJkUdKmFwLXaoE282meQJgkIjadHYxuAV3VftZgtsx5pVzz4Gpn6r3xuY0o7nqywE9vRjDL3tmEFSJ0jsvqaYc28usM2vE3fO1okLd7S42EEF8ukgW6SQRU1EKdXD2olhOGi66n9mTMiCBi3q3lfpp628QlugOeQk7QJ1Afp74Kavz5Xde4ygKHc1CVG4LQ93FJVByFCzu0R3L51AfWyPJBiNOHq2cql4Na8mDMS46tVMauD74v0LACMjqeDyu1hC1ELJlHiCUwVZk9ToH14CMI237IkLE9WpPs4zz57wKF0705sDq0HzwSrE6bPX8wCIUFXm8NxHELuGwy8jgXLgiFPchRt7v9MvmhsWzy2P2XW4TAxoA79495pgAkISdaBbiv3mt74KcEpr8IiV9TCM6bWP3ZOetFQJbH7OU1aBrG1VLpfKsuVIq8Lilcii9d5bIsbRUQq55CM0zTztnwZCE3Jw5PTGJ7gP38svAPgXZjg9KciRKM2KzrXCEdXoxOvqOu5KTf8qVV8Z57olDdleSfy96BZ8YoHusszAO8CmnNP6HWCctHHEulHrO8ncbw6npG7S6Fb7C76o1wVJXlJQf7hY2MGVuqRIw7WaKIwKOHspNUg8EBYkZm1iaEdHPr8eziTIk24VUUoGn2akK5mD9B0Rc4xlGTJNUXspt0E06QciKrxNy89xS4v2BoMDG2iDgXKPyJHiJqcCMan9dPVD0skaFDF5alBBUspWmeRhHAbZs9R95WPWJjKkVyft5bf1HtBMstC00q8BQiBChMCBuGG1zf88uHDAI3QZt8445sD7pdo0Fpase1FGjChe1V3fD36t6u1ST6rp9SXzL7Z6OTQDuyICAVQ4pQ61FiaBlCjKq4G68XnH1xqj1EihFRDSeH17CIZEsQZt2XK8cUAHi3glDGUUcDiPUsBhBJP8kvVH5gwBICCNNlyIINAIPHweycp8x5Zkap6vpvAaCg2Qc85prd79EU6Wzo9hOR8MrQnyKu0y68MrmmHiwrdb7XhGbwQW0fs0FFoCEpi7wf7ErZx0YwyLYKhEWbWseDyDCPoBk26CQnsKPg8hfZDqXDGh5mUEqkO4BHIcuQRW7N7yGfyv8BdC3vRFzmCZ3fifgDKqFyLDE9E4e29LyHNn9EX139oiyUc65Km0XA8XuKwOJPEiRfkummtqX2huYjvn7A7HFUiiPWB4I5U3T8DRfGXZ2vEV0u1wjn0NnKcaFbHdPygAIT2rzevHFGACkoexWo7Aaz1cPW1f6um673KMa3xyTM6O7QeSXSCqV38EnpWwztT4iuH1pQnY6dI5o6zQwyMwOKHG2AWmeWl2cGN"
end PySem.W.Fast
open PySem PySem.W PyProof.Rows
set_option maxRecDepth 100000 in
set_option maxHeartbeats 0 in
theorem PySem.Challenge.cw_asktally_k64_best_liar_row_by_row_holds : PySem.Challenge.rw_asktally_k64_best_liar_row_by_row.Holds := by
 w_on; o_law; k_head; (case hw=>w_witness2)
 k_fill
 apply Mine.walk (l:=PySem.Challenge.rw_asktally_k64_best_liar_row_by_row) rfl rfl (λw h Y=>PySem.W.kIn_of Y) ?F
 case F =>
  intro w mg fa h KX G hmg
  refine' Mine.all_mk KX G hmg ?aL ?lL ?cL ?kL ?h0 ?h1 ?h2 ?h3 ?h4 ?h5 ?h6 ?h7 ?h8 ?h9 ?h10 ?h11 ?h12 ?h13 ?h14 ?h15 ?h16 ?h17 ?h18 ?h19 ?h20 ?h21 ?h22 ?h23 ?h24 ?h25 ?h26 ?h27 ?h28 ?h29 ?h30 ?h31 ?h32 ?h33 ?h34 ?h35 ?h36 ?h37 ?h38 ?h39 ?h40 ?h41 ?h42 ?h43 ?h44 ?h45 ?h46 ?h47 ?h48 ?h49 ?h50 ?h51 ?h52 ?h53 ?h54 ?h55 ?h56 ?h57 ?h58 ?h59 ?h60 ?h61 ?gmc ?dbc ?asc ?mcc ?scc ?Mm ?gmmM ?gmmW ?gmmC ?dbmI ?dbmW ?dbmU ?dbmH ?dbmT ?dbmC ?dbmB ?dbmR ?dbmG ?dbmE ?dbmN ?asmI ?asmP ?asmC ?asmN ?asmR ?mcmI ?mcmS ?mcmR ?mcmN ?scmI ?scmE ?scmS ?scmT ?scmW ?scmF ?qj ?gmn_trees ?gmn_field ?gmn_degrees ?dbn_game ?dbn_awaited ?dbn_claims ?dbn_s ?dbn_heard ?dbn_tossed ?dbn_held ?dbn_places ?asn_game ?asn_number ?asn_many ?asn_held ?asn_s ?asn_tossed ?asn_truths ?mcn_game ?mcn_helper ?mcn_next_round ?mcn_boxes ?scn_text ?scn_row ?scn_most_within ?scn_most_parts ?scn_place ?scn_parts ?g1 ?g3 ?g5 ?g6 ?g7 ?g8 ?e1 ?e2 ?e3 ?w1 ?w2 ?w3 ?j5 ?j6 ?j7 ?j8 ?q5 ?q6 ?q7 ?q8 ?p5 ?p6 ?p7 ?p8 ?wh ?xmr ?ge ?xmo ?z0 ?z1 ?z2 ?z3 ?z4 ?z5 ?z6 ?z7 ?z8 ?z9 ?z10 ?z11 ?z12 ?z13
  case aL|lL|cL|kL=>k_is
  case h0|h1|h2|h3|h4|h5|h6|h7|h8|h9|h10|h11|h12|h13|h14|h15|h16|h17|h18|h19|h20|h21|h22|h23|h24|h25|h26|h27|h28|h29|h30|h31|h32|h33|h34|h35|h36|h37|h38|h39|h40|h41|h42|h43|h44|h45|h46|h47|h48|h49|h50|h51|h52|h53|h54|h55|h56|h57|h58|h59|h60|h61=>exact%[_,by k_is,_,%[_,_,_,_,_,_,_,_,0,by k_is|by k_is]|by k_is]
  case gmc|dbc|asc|mcc|scc=>exact%[by k_is,by k_is,by k_is,by k_is,by k_is,by k_is|by k_is]
  case Mm|gmmM|gmmW|gmmC|dbmI|dbmW|dbmU|dbmH|dbmT|dbmC|dbmB|dbmR|dbmG|dbmE|dbmN|asmI|asmP|asmC|asmN|asmR|mcmI|mcmS|mcmR|mcmN|scmI|scmE|scmS|scmT|scmW|scmF=>exact%[_,by k_is,by k_is,_,%[_,_,_,_,_,_,_,_,0,by k_is|by k_is]|by k_is]
  case qj|gmn_trees|gmn_field|gmn_degrees|dbn_game|dbn_awaited|dbn_claims|dbn_s|dbn_heard|dbn_tossed|dbn_held|dbn_places|asn_game|asn_number|asn_many|asn_held|asn_s|asn_tossed|asn_truths|mcn_game|mcn_helper|mcn_next_round|mcn_boxes|scn_text|scn_row|scn_most_within|scn_most_parts|scn_place|scn_parts=>delta Mine.HF; k_is
  case g1|g3|g5|g6|e1|e2|e3|w1|w2|w3|j5|j6|q5|q6|p5|p6|wh|xmr|ge|xmo=>k_is
  case g7|j7|q7|p7=>decide
  case g8=>exact Mine.kept_vals
  case j8=>exact Mine.sign_vals
  case q8=>exact Mine.ask_vals
  case p8=>exact Mine.plain_vals
  case z0|z1|z2|z3|z4|z5|z6|z7|z8|z9|z10|z11|z12|z13=>delta Mine.HZ; k_is
