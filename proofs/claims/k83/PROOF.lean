import PyProof.Rows.All
import Wide.All
import OpenK.AllK
import Wide.FinOn
import Lean
import PyProof.EqAt
import PyProof.EqKinds
import PyProof.TupleCall
import PySem.Challenge.RW_asktally_k83_whole_talks
set_option Elab.async false
set_option linter.all false
set_option maxRecDepth 100000
set_option bootstrap.genMatcherCode false
set_option compiler.extract_closed false
local macro_rules|`(%[$xs,*|$y])=>do
 if y.raw.isIdent then if y.raw.getId==`List.nil then Lean.Macro.throwUnsupported
 if y.raw.isIdent then if y.raw.getId==`aQ then return←xs.getElems.foldrM (fun x a=>do match x.raw.isNatLit? with|some _=>`($(Lean.mkIdent `ag) ($(Lean.mkIdent `pv) $x) $a)|_=>`($(Lean.mkIdent `ag) $x $a)) y
 let h←`(_);let r←`(rfl);let q←`(?_);let a←`(by omega);let b←`(by decide);let i:=Lean.mkIdent;let u←`($(i `aD) ($(i `neS) $b) ?_);let c←`($(i `T.cl))
 let o:=(xs.getElems.push y).flatMap fun x=>match x.raw.isNatLit? with|some 0=>#[h,r]|some 1=>#[r]|some 2=>#[h,h,r,r]|some 3=>#[a]|some 4=>#[b]|some 5=>#[r,r,r,b,r,b,b]|some 6=>#[q]|some 7=>#[u]|some 9=>#[c]|_=>#[x]
 `(⟨$o,*⟩)
local macro_rules|`(tactic|let%[$xs,*|$y]:=$e)=>do
 let g:=fun(f:Lean.Term->Lean.MacroM (Lean.TSyntax `rcasesPat))(t:Lean.Term)=>show Lean.MacroM (Lean.TSyntax `rcasesPat) from do
  match t with
  |`(%[$xs,*|$y])=>
   let p←(xs.getElems.push y).mapM fun x=>do let p←f x;`(Lean.Parser.Tactic.rcasesPatLo|$p:rcasesPat)
   `(rcasesPat|⟨$p,*⟩)
  |`($i:ident)=>`(rcasesPat|$i:ident)
  |_=>if t.raw.isNatLit?==some 1 then`(rcasesPat|$(Lean.mkIdent `rfl):ident)else`(rcasesPat|_)
 let p←g (g (g (g (g (g fun _=>`(rcasesPat|_)))))) (←`(%[$xs,*|$y]))
 `(tactic|obtain $p:rcasesPat:=$e)
local macro_rules|`(tactic|erw[$xs,*]$[at $h:ident]?)=>do
 let o:Array Lean.Term:=xs.getElems.map fun x=>⟨x.raw[1]⟩
 let l:=o.back!;let o:=o.pop
 match h with|some h=>`(tactic|let%[$o,*|$l]:=$h)|_=>`(tactic|refine %[$o,*|$l])
local macro_rules|`(⋯)=>`(by decide)
local macro_rules|`(#[1])=>`(λ _ _=>rfl)|`(#[2])=>`(by simp)|`(#[0])=>`(by omega)|`(#[$f:ident,$i:num,$s:ident,$e])=>`($f (i:=$i) ($s).nd rfl (Or.inl rfl) $e)
local macro_rules|`(tactic|exists $x:ident)=>do
 let i:=Lean.mkIdent
 `(tactic|refine $(i `F.ok) $x (fun _ _ _ _ h=>by cases h;subst_vars;rfl) (fun $(i `cdv) $(i `A) $(i `outer) $(i `s) $(i `H) $(i `vs) $(i `Q) $(i `E) $(i `hr) $(i `h)=>?_))
local macro_rules | `(tactic|omega)=>`(tactic|first | lia | omega +splitDisjunctions)
local macro_rules | `(command|def $n:declId $s:optDeclSig $b:declVal)=>`(command|noncomputable def $n:declId $s:optDeclSig $b:declVal)
local macro_rules | `(tactic|decide)=>`(tactic|decide +kernel)
local macro_rules | `(tactic|rfl')=>`(tactic|with_unfolding_all rfl)
local macro_rules | `(tactic|ac_rfl)=>`(tactic|(intro _ _ _ _ _ _ us hl;rcases us with _|⟨a,_|⟨b,_|⟨c,_|⟨d,_|⟨e,_|⟨f,_|⟨g,_|⟨h,us⟩⟩⟩⟩⟩⟩⟩⟩<;>first|rfl|(simp at hl)))
local macro_rules|`(#[$n,$f:ident,$d:ident,$p,$s])=>let i:=Lean.mkIdent;`($(i `FnOk) $(i `P) $(i `w) $(i `K) $(i `mg) $(i `base) $(i `CX0) $n $f $d $p $s)|`(#[$n,$x:str,$p,$s])=>let i:=Lean.mkIdent;`($(i `Cal) $(i `P) $(i `w) $(i `K) $(i `mg) $(i `base) $n $x $p $s)
local macro_rules|`(‹$x:ident›)=>return Lean.mkIdentFrom x (x.getId++`heap.objs.size)
local macro_rules|`(#[3])=>let i:=Lean.mkIdent;`($(i `CompScope.one) (by rfl') ⋯ rfl ⋯ rfl ⋯ (by rfl') (by rfl') (by rfl') rfl rfl)|`(#[4])=>let i:=Lean.mkIdent;`($(i `CompScope.two) (by rfl') ⋯ rfl ⋯ rfl ⋯ (by first | exact Or.inl rfl | exact Or.inr rfl) (by rfl') (by rfl') (by rfl') (by rfl') rfl rfl (by rfl') rfl rfl)|`(#[5])=>let i:=Lean.mkIdent;`($(i `CompScope.closed) (by rfl') ⋯ rfl ⋯ rfl (by rfl'))
local macro_rules|`(tactic|exists $n:num,$xs,*)=>do
 let i:=Lean.mkIdent;if n.getNat==4 then return ←`(tactic|intro $(i `M5) $(i `s) $(i `σ) $(i `H) $(xs.getElems)*)
 let i:=Lean.mkIdent;let a:=xs.getElems;let mut r:Array (Lean.TSyntax `tactic):=#[]
 for k in [0:a.size/3] do
  let z:=a[3*k+2]!;let v←if n.getNat==1 then`($(i `aY) $(i `X) $(i `G) $z)else`($(i `de) $z)
  r:=r.push (←`(tactic|let%[_,_,$(a[3*k]!)|$(a[3*k+1]!)]:=$v))
 `(tactic|($[$r];*))
local macro_rules|`(tactic|exists 3)=>let n:=Lean.mkIdent `no;`(tactic|refine ⟨fun vs H Q E h=>absurd h ($n vs H Q E),fun A outer s H args us vs Q E _ _ _ _ h=>absurd h ($n vs H Q E)⟩)
local macro_rules|`(command|instance $n:declId $s:declSig:=$v)=>do
 if v.raw.isNatLit?==none then Lean.Macro.throwUnsupported
 let i:=Lean.mkIdent;let b:=s.raw[0].getArgs
 let c:Lean.TSyntaxArray ``Lean.Parser.Term.bracketedBinder:=b.map (⟨·⟩)
 let a:Array Lean.Term:=b.flatMap fun x=>x[1].getArgs.map (⟨·⟩)
 let o:=v.raw.isNatLit?==some 1
 let r:=Lean.Syntax.mkApp ⟨n.raw[0]⟩ (if o then a++#[i `vs,i `H,i `Q,i `M9]else a)
 let t:Lean.Term←Nat.repeat (fun (g:Lean.Term->Lean.MacroM Lean.Term) (t:Lean.Term)=>show Lean.MacroM Lean.Term from if t.raw.isOfKind ``Lean.Parser.Term.forall then do return⟨t.raw.setArg 4 (←g ⟨t.raw[4]⟩)⟩else if t.raw.isOfKind ``Lean.Parser.Term.arrow then do return⟨t.raw.setArg 2 (←g ⟨t.raw[2]⟩)⟩else`($t->$r)) 60 pure ⟨s.raw[1][1]⟩
 let m:=i `mk
 if o then`(command|inductive $n:declId $c* ($(i `vs):ident:List $(i `V)) ($(i `H):ident:$(i `Hp)) ($(i `Q):ident:$(i `VK)) ($(i `M9):ident:$(i `XK)):Prop
 |$m:ident:$t)
 else`(command|inductive $n:declId $c*:Prop
 |$m:ident:$t)
local macro_rules|`(tactic|let $d:letDecl)=>if d.raw[0].isOfKind ``Lean.Parser.Term.letIdDecl then`(tactic|have $d:letDecl)else Lean.Macro.throwUnsupported
local macro_rules|`(let $d:letDecl;$b)=>`(have $d:letDecl;$b)
local macro_rules|`(command|example:=[$xs,*])=>do
 let a:=xs.getElems;let i:=Lean.mkIdent;if a[0]!.raw.isIdent then
  let c:Array Lean.Command←(Array.range (a.size/2)).mapM fun k=>do
   let x:Lean.Ident:=⟨a[2*k]!⟩;let y:=a[2*k+1]!
   if y.raw.isIdent then`(command|abbrev $x:ident := @$(⟨y.raw⟩):ident)else if y.raw.isOfKind `«term[_]» then`(command|abbrev $x:ident : List PySem.Str := $y)else if y.raw.isNatLit?.isSome then`(command|abbrev $x:ident : $(i `Stmt) := $(i `top) $y)else`(command|abbrev $x:ident : $(i `Stmt) := $(i `bp) $(⟨y.raw[0]⟩) $(⟨y.raw[1][0]⟩))
  return Lean.mkNullNode c
 Lean.Macro.throwUnsupported
local macro_rules|`(command|example:=$t:str)=>do
 let l:=t.getString.toList
 let c←(Array.range (l.length/11)).mapM fun k=>`(command|noncomputable def $(Lean.mkIdent (.mkSimple s!"tw{((l.drop (11*k)).take 11).foldl (fun a c=>let n:=c.toNat;a*62+(if n<58 then n-48 else if n<91 then n-55 else n-61)) 0}")):ident:=())
 return Lean.mkNullNode c
local macro_rules|`(#[6])=>let i:=Lean.mkIdent;`($(i `Value)->$(i `Shared)->Prop)|`(#[7])=>let i:=Lean.mkIdent;`(List ($(i `Addr)×$(i `Obj)))|`(#[8])=>let i:=Lean.mkIdent;`($(i `Inv) $(i `X) $(i `M5) $(i `σ))|`(#[9])=>let i:=Lean.mkIdent;`($(i `Str)->Option $(i `Value))
local macro_rules|`(#[$e,0])=>`(by simpa using $e)
local macro_rules|`(tactic|exists 5)=>let i:=Lean.mkIdent;`(tactic|(intro $(i `X) $(i `hP) $(i `hw) $(i `hK) $(i `hc) $(i `i) $(i `M5) $(i `s) $(i `σ) $(i `H) $(i `E) $(i `I) $(i `hf) $(i `st) $(i `hg);subst $(i `hP) $(i `hw) $(i `hK)))
local macro_rules|`(#[$x:str,$s:ident])=>let i:=Lean.mkIdent;`($(i `Fun) $(i `K) $x $x $s $(i `f) $(i `fd))|`(#[$x:str,$y:str,$s:ident])=>let i:=Lean.mkIdent;`($(i `Fun) $(i `K) $x $y $s $(i `f) $(i `fd))
local macro_rules|`(tactic|apply $e)=>`(tactic|refine $e)
local macro_rules|`(‹$x:ident›)=>do
 let i:=Lean.mkIdent;let n:=x.getId
 if let .str m "p":=n then return←`($(i m) (P:=$(i `l.prog)) (w:=$(i `w)) (base:=$(i `base)))
 if n==`X.a then`(by ac_rfl)else if n==`X.w then`($(i `wpAny) ($(i `model) $(i `X.prog) $(i `X.w)) $(i `X.A))else if n==`w.A then`($(i `wpAny) ($(i `model) $(i `prog) $(i `w)) $(i `A))else if n==`Tk.s then`(($(i `Tk.new) $(i `ts)).said $(i `ns) $(i `ts) $(i `p) $(i `rows))else if n==`Tk.a then`(($(i `Tk.new) $(i `ts)).ask $(i `ns) $(i `ts) $(i `p) $(i `rows))else Lean.Macro.throwUnsupported
noncomputable section
section
open PySem PySem.Spec PyProof.Rows
def M6.{u}{c:Prop}{h:Decidable c}(hc:¬c){α:Sort u}{t e:α}:ite c t e=e:=if_neg hc
def M8.{u}{c:Prop}{h:Decidable c}(hc:c){α:Sort u}{t e:α}:ite c t e=t:=if_pos hc
example:=[zE0,wpAny_bind,zF0,List.length_map,zH0,Nat.le_refl,zI0,wpAny_pure,zK0,List.map_append,zL0,List.length_append]
def Nd.{u}{α:Type u}{a b:α}(h:a∈[b]):a=b:=List.mem_singleton.mp h
example:=[zN0,List.getElem?_eq_getElem,zO0,Option.some.inj,zP0,Nat.zero_le,zQ0,Heap.lt_size,zR0,List.length_cons,zS0,Heap.get?_push_of_some,zT0,Nat.le_trans]
def Nf.{u}{α:Type u}{a b:α}{l:List α}(h:a∈b::l):a=b∨a∈l:=List.mem_cons.mp h
example:=[zV0,List.size_toArray,zW0,List.getElem?_map,zX0,List.mem_cons_self]
def zY0.{u}{α:Type u}{l:List α}{i:Nat}{a:α}(h:l[i]?=some a):∃h:i<l.length,l[i]=a:=List.getElem?_eq_some_iff.mp h
example:=[zZ0,List.take_length,qA0,Nat.ne_of_lt,qB0,List.take_add_one,qC0,List.map_cons,qD0,List.mem_of_getElem?,qE0,Heap.get?_push_size,qF0,List.length_take,qG0,Int.emod_nonneg]
def qH0.{u}{α:Type u}{a:α}{s t:List α}(h:a∈s++t):a∈s∨a∈t:=List.mem_append.mp h
example:=[qI0,Int.emod_lt_of_pos,qJ0,Bool.false_ne_true,qK0,List.mem_cons_of_mem,qL0,List.length_singleton,qM0,Nat.le_succ,qN0,Nat.lt_of_lt_of_le,qO0,List.getD_eq_getElem?_getD,qP0,List.getElem_mem]
def qQ0{α β:Type}{f:α->β}{x:Option α}{b:β}(h:x.map f=some b):∃a,x=some a/\f a=b:=Option.map_eq_some_iff.mp h
example:=[qR0,List.length_range,qS0,Nat.lt_irrefl,qT0,Int.toNat_natCast,qU0,Int.emod_eq_of_lt,qV0,List.mem_append_right,qX0,Int.mul_le_mul_of_nonneg_left]
end
section
open PySem PySem.Spec PyProof.Rows
example:=[zB1,PySem.boot_len,zC1,decide_eq_true,zD1,decide_eq_false,zE1,PySem.F.plainAttrs_list,zF1,PassesOwn.never,zG1,Nat.succ_le_succ,zH1,PySem.F.slot_list_append,zI1,PySem.F.type_list_append,zJ1,List.length_nil,zL1,Nat.lt_of_le_of_lt,zM1,wpAny_newObj_type,zN1,List.getElem?_append_right,zO1,PyProof.Rows.callWith_type1,zP1,List.sum_cons,zQ1,List.getElem?_append_left,zR1,PyProof.Rows.slot_tuple_getitem,zS1,wpAny_callSpecial?_slot,zT1,Int.le_refl,zU1,of_decide_eq_true,zV1,PySem.F.plainAttrs_str,zW1,Array.length_toList,zX1,PySem.mem_of_lookup,zY1,List.length_replicate,zZ1,wpAny_truthy_bool,qA1,Int.eq_ofNat_of_zero_le,qB1,PySem.W.kia_one,qC1,wpAny_ite_split,qD1,wpAny_field,qE1,W.mg_none_of,qF1,wpAny_call_entry,qG1,List.replicate_succ,qH1,List.length_reverse,qI1,List.append_nil,qJ1,List.range_succ,qK1,Calls.spliced_cons,qL1,wpAny_Call_Name_kw,qM1,Nat.lt_succ_self,qN1,Bool.and_eq_true,qO1,lookup_relabel_local,qP1,PyProof.Rows.boot_isinstance,qQ1,wpAny_mono,qR1,F.slot_tuple_iterator_next,qS1,F.plain_max_loop,qT1,List.getElem?_reverse,qU1,Int.emod_add_mul_ediv,qV1,PyProof.Rows.boot_max,qW0,List.mem_singleton,qW1,List.drop_eq_getElem_cons,qX1,W.mg_of,qY0,wpAny_passesOwn,qY1,Calls.spliced_nil,qZ0,List.flatten_cons,qZ1,List.append_assoc,jA0,wpAny_comprehension_free,jA1,wpAny_holding,jB0,wpAny_of_eq,jB1,wpAny_getItem_str_slice,jC0,Heap.size_push,jC1,Str.cps_append,jD1,List.drop_zero,jE0,Calls.callWith_builtin,jE1,wpAny_pyIter_tuple,jF0,builtinLookup_eq_fast,jF1,Nat.le_add_left,jG0,List.find?_cons,jG1,Int.zero_add,jH0,PyProof.Rows.boot_sum,jH1,PyProof.Rows.boot_all,jI0,wpAny_pyIter_list,jI1,call_meets,jJ0,decide_eq_true_eq,jJ1,Calls.evalArgs_plain,jK0,List.count_le_length,jK1,List.mem_of_mem_tail,jL0,List.length_drop,jL1,List.getElem?_range,jM0,List.map_congr_left,jM1,PySem.F.args_tuple_add_2,jN0,Int.mul_comm,jN1,Int.pow_succ,jO0,PySem.F.plainAttrs_tuple,jO1,wpAny_execs_nil,jP0,Bool.eq_iff_iff,jP1,PySem.F.entry_tuple_add,jQ0,List.any_cons,jQ1,List.sum_append,jR0,Int.le_of_dvd,jR1,PySem.F.slot_list_count,jS0,PySem.F.type_list_count,jS1,Nat.pos_of_ne_zero,jT0,PySem.F.slot_tuple_add,jT1,codeAny_compStart_list,jU0,PySem.F.slot_str_split,jU1,PySem.F.type_str_split,jV0,wpAny_pyIter_enum,jV1,Nat.lt_succ_of_lt,jW0,PyProof.Rows.toString_length_le,jW1,wpAny_seqItems,jX0,Txt.slice_le,jX1,PySem.F.slot_dict_get,jY0,Nat.sub_zero,jY1,Int.mul_emod,jZ0,PySem.F.slot_str_join,jZ1,PySem.F.type_str_join,wA1,List.all_eq_true,wB0,List.not_mem_nil,wB1,List.cons_ne_nil,wC0,Around.under_plainId,wC1,List.all_cons,wD0,Int.emod_emod,wD1,typeIs_str,wE0,List.filterMap_cons,wE1,PySem.W.plainGet_of,wF0,entry_tuple_getitem,wF1,post_val_or_str,wG0,List.getElem_of_mem,wG1,typeLookup_type,wH0,wpAny_specialOf,wH1,Option.map_some,wI0,ne_true_of_eq_false,wI1,Int.dvd_add,wJ0,Int.natCast_add,wJ1,W.ke_canLayAll0,wK0,Nat.le_of_lt,wK1,Nat.ne_of_gt,wL0,PySem.W.callWith_K,wL1,args_tuple_getitem,wM0,List.map_nil,wM1,wpAny_setField_rec,wN0,tupleKind_room_in1,wN1,F.args_str_split_2,wO0,Nat.sub_self,wO1,of_decide_eq_false,wP0,Int.add_emod,wP1,slicePart_none,wQ0,Bool.and_false,wQ1,isSubtype_type,wR0,wpAny_tryCatch,wR1,wpAny_assign_Name,wS0,wpAny_sequenceKey,wT1,F.entry_str_split,wU0,Str.length_append,wU1,wpAny_standAt,wV0,Int.mul_one,wV1,wpAny_attempt,wW0,wpAny_letGo,wW1,plainId_quiet,wX0,Int.mul_assoc,wX1,List.mem_cons,wY0,W.ke_depthAll,wY1,Bool.true_and,wZ0,noFill_tuple_add,wZ1,wpAny_isInstance,vA0,F.entry_max_loop,vA1,F.slot_str_split,vB0,codeAny_mono,vB1,wpAny_typeOf]
end
example:=[WA,["self"],WB,["tree"],WC,["self","values"],WD,["text"],WE,["_law_feed_here","_law_many"],WF,["game"],WG,["self","signs"],WH,["self","r"],WI,["self","game"],WJ,["scan","within"],WK,["values","r","p"],WL,["self","place"],WM,["_law_tree_here"],WN,["_law_names_here","_law_trees"],WO,["self","point","s"],WP,["self","s"],WQ,["_law_feed_here","_law_names_here","_law_room","_law_deep"],WS,["tree","switches","point","p"],WT,["self","numbers","s"],WU,["tree","switches","setting"],WV,["term","boxes","asking"],WW,["text","number"],WX,["_law_tree_here","_law_names_here","_law_point","_law_p"],WY,["_law_feed_here","_law_boxes","_law_room","_law_deep"],WZ,["self","switches","trees","field"],Wa,["value","p"],Wb,["word","first","second"],Wc,["sign","first","second","p"],Wd,["self","word"],We,["self","game","helper"],Wf,["self","game","number","many","due","s","coins"],Wg,["self","text","row","most_within","most_parts"],Wh,["self","within"],Wi,["word","first","second","p"],Wj,["name","trees"],Wk,["numbers","p"],Wl,["tree","switches"],Wm,["first","second","p"],Wn,["self","place","said","asking"],Wo,["self","many","due","s","coins"],Wp,["end","go","if","set","say"],Wq,["_law_names_here","_law_trees","_law_s","_law_point","_law_p"],Wr,["doubter","row","is_first"],Ws,["doubter","row","number"],Wt,["_law_feed_here","_law_game_here","_law_many"],Wu,["_law_script","_law_k"],Wv,["_law_feed_here","_law_need_here"],Ww,["_law_feed_here","_law_most","_law_room"],Wx,["machine","doubter"],Wy,["game","helper","coins"],Wz,["_law_numbers","_law_s","_law_p"],W0,["_law_names_here","_law_trees","_law_s","_law_coins_here","_law_p"],W8,["_law_feed_here","_law_boxes","_law_most"],W9,["_law_feed_here","_law_box"]]
abbrev VA:List PySem.Str:=["_law_game_here","_law_talk"]
abbrev VB:List PySem.Str:=["_law_drawn","_law_talk"]
abbrev VC:List PySem.Str:=["_law_game_here","_law_talk","_law_end","_law_cut"]
namespace L2
open PySem PySem.Spec PyProof.Rows
abbrev Key:=Sum Int Str
def tF:Key->Value->Bool
 |.inl k,v=>Value.isInt k v
 |.inr x,v=>Value.isStrOf x v
def keyH(w:World):Key->Int
 |.inl k=>hashInt k
 |.inr x=>hashStr w x
def df:∀{k:Key}{v:Value},tF k v=true->(∃i t,k=Sum.inl i/\v=Value.int i t)∨(∃x t,k=Sum.inr x/\v=Value.str x t)
 |.inl i,v,h=>by
   let%[t|e]:=Value.isInt_shape (k:=i) (v:=v) h;exact .inl %[i,t,1|e]
 |.inr x,v,h=>by
   let%[t|e]:=Value.isStrOf_shape (x:=x) (v:=v) h;exact .inr %[x,t,1|e]
def Bq(i:Int)(t:Tok):tF (.inl i) (.int i t)=true:=by simp [tF,Value.isInt]
def Bp(x:Str)(t:Tok):tF (.inr x) (.str x t)=true:=by simp [tF,Value.isStrOf]
def IC(a b:Int):decide ((Sum.inl a:Key)=Sum.inl b)=(a==b):=by
 by_cases e:a=b
 . subst e;simp
 . let h:¬ (Sum.inl a:Key)=Sum.inl b:=λq=>e (Sum.inl.inj q)
   rw[zD1 h];exact(beq_eq_false_iff_ne.mpr e).symm
def Iz(a b:Str):decide ((Sum.inr a:Key)=Sum.inr b)=decide (a=b):=by
 by_cases e:a=b
 . subst e;simp
 . let h:¬ (Sum.inr a:Key)=Sum.inr b:=λq=>e (Sum.inr.inj q)
   rw[zD1 h,zD1 e]
def IB(a:Int)(b:Str):decide ((Sum.inl a:Key)=Sum.inr b)=false:=zD1 (λq=>nomatch q)
def IA(a:Str)(b:Int):decide ((Sum.inr a:Key)=Sum.inl b)=false:=zD1 (λq=>nomatch q)
def db(prog:Program)(w:World):PySem.KeyKind prog w Key where
 is:=tF
 hash:=keyH w
 inj:=λv a b ha hb=>by
  rcases df ha with⟨i,t,rfl,rfl⟩ | ⟨x,t,rfl,rfl⟩
  . rcases df hb with⟨j,u,rfl,e⟩ | ⟨y,u,rfl,e⟩
    . injection e with e1 _;rw[e1]
    . exact nomatch e
  . rcases df hb with⟨j,u,rfl,e⟩ | ⟨y,u,rfl,e⟩
    . exact nomatch e
    . injection e with e1 _;rw[e1]
 byValue:=λk v h=>by
  rcases df h with⟨i,t,rfl,rfl⟩ | ⟨x,t,rfl,rfl⟩ <;> rfl
 pyHash:=λhv h=>by
  rcases df hv with⟨i,t,rfl,rfl⟩ | ⟨x,t,rfl,rfl⟩
  . exact wpAny_pyHash_int h
  . exact wpAny_pyHash_str h
 eqBool:=λhu hv h=>by
  rcases df hu with⟨i,t,rfl,rfl⟩ | ⟨x,t,rfl,rfl⟩
  . rcases df hv with⟨j,u,rfl,rfl⟩ | ⟨y,u,rfl,rfl⟩
    . rw[IC]at h;exact wpAny_eqBool_int h
    . rw[IB]at h;exact SeqAt.EqAt.int_str i t y u _ _ _ _ h
  . rcases df hv with⟨j,u,rfl,rfl⟩ | ⟨y,u,rfl,rfl⟩
    . rw[IA]at h;exact SeqAt.EqAt.str_int x t j u _ _ _ _ h
    . rw[Iz]at h;exact wpAny_eqBool_str h
 «strs»:=λk x t v h=>by
  rcases df h with⟨i,u,rfl,e⟩ | ⟨y,u,rfl,e⟩
  . exact nomatch e
  . injection e with e1 _;subst e1;cases v <;> rfl
def wE(prog:Program)(w:World)(i:Int)(t:Tok):(db prog w).is (.inl i) (.int i t)=true:=Bq i t
def wD(prog:Program)(w:World)(x:Str)(t:Tok):(db prog w).is (.inr x) (.str x t)=true:=Bp x t
inductive V where
 |non | bl (b:Bool) | int (i:Int) | str (x:Str) | byt (b:Array UInt8) | flt (b:UInt64) | ref (a:Addr) | ty (n:String)
 deriving DecidableEq
def RelV:V->Value->Prop
 |.non,u=>u=Value.none
 |.bl b,u=>u=Value.bool b
 |.int i,u=>∃t,u=Value.int i t
 |.str x,u=>∃t,u=Value.str x t
 |.byt b,u=>∃t,u=Value.bytes b t
 |.flt b,u=>∃t,u=Value.float b t
 |.ref a,u=>u=Value.ref a
 |.ty n,u=>u=Value.type n
abbrev Vals:List V->List Value->Prop:=Paired RelV
def Vals.length(r:Vals xs us):xs.length=us.length:=Paired.length r
def Vals.get:∀{xs:List V}{us:List Value}{i:Nat}{x:V},Vals xs us->xs[i]?=some x->∃u,us[i]?=some u/\RelV x u
 |_,_,_,_,.nil,e=>by simp at e
 |_,_,0,_,.cons r _,e=>by simp at e;subst e;erw[0,r]
 |_,_,i+1,x,.cons _ t,e=>by
   let%[u,h1|h2]:=Vals.get (i:=i) (x:=x) t #[e,0];erw[u,by simpa using h1,h2]
def Vals.set{x:V}{u:Value}(r:RelV x u):∀{xs:List V}{us:List Value}(i:Nat),Vals xs us->Vals (xs.set i x) (us.set i u)
 |_,_,_,.nil=>.nil
 |_,_,0,.cons _ t=>.cons r t
 |_,_,i+1,.cons q t=>.cons q (Vals.set r i t)
def Vals.append:∀{xs ys:List V}{us ws:List Value},Vals xs us->Vals ys ws->Vals (xs++ys) (us++ws)
 |_,_,_,_,.nil,s=>s
 |_,_,_,_,.cons r t,s=>.cons r (Vals.append t s)
def Vals.take:∀{xs:List V}{us:List Value}(n:Nat),Vals xs us->Vals (xs.take n) (us.take n)
 |_,_,0,_=>.nil
 |_,_,_+1,.nil=>.nil
 |_,_,n+1,.cons r t=>.cons r (Vals.take n t)
def Vals.drop:∀{xs:List V}{us:List Value}(n:Nat),Vals xs us->Vals (xs.drop n) (us.drop n)
 |_,_,0,r=>r
 |_,_,_+1,.nil=>.nil
 |_,_,n+1,.cons _ t=>Vals.drop n t
def RelO:Option V->Option Value->Prop
 |some v,some u=>RelV v u
 |none,none=>True
 |_,_=>False
def KV{κ:Type}:List (κ×V)->List (κ×Value)->Prop:=Paired fun(p:κ×V)(q:κ×Value)=>p.1=q.1/\RelV p.2 q.2
def kV:Key->V
 |.inl i=>.int i
 |.inr x=>.str x
inductive HO where
 |lst (xs:List V)
 |tup (xs:List V)
 |dK (M7:List (Key×V)) | dT (M7:List (List Key×V))
 |set (S:Int->Bool) (n:Nat)
 |ins (C dx:Addr) (fs:List (Str×V))
 |own (x:Addr)
 |xd (fs:List (Str×V))
 |met (f x:Addr)
 |rng (lo hi:Int)
 |frz (o:Obj) (u:HO)
 |tbl (ps:Array Value)
 |ext (φ:Heap->Prop)
abbrev Hp:=Addr->Option HO
def upd(H:Hp)(a:Addr)(o:HO):Hp:=λb=>if b=a then some o else H b
def aP:upd H a o a=some o:=by unfold upd;rw[M8 rfl]
def aE{a b:Addr}(h:b≠a):upd H a o b=H b:=by unfold upd;rw[M6 h]
def bz{H:Hp}{a b:Addr}{o u:HO}(h:H a=some o)(h':H b=some u)(d:o≠u):a≠b:=by
 intro e;subst e;rw[h]at h';exact d (zO0 h')
def aZ{H:Hp}{a b:Addr}{o:HO}(h:H a=some o)(h':H b=none):a≠b:=by
 intro e;subst e;rw[h]at h';cases h'
section
variable (P:Program)(w:World)
def ObjOk(H:Hp)(h:Heap)(a:Addr):HO->Prop
 |.lst xs=>xs.length<=sizeLine/\∃(its:List Value) (n:Nat),Vals xs its/\h.get? a=some { cls:=.type "list",data:=.seq its.toArray n }
 |.tup xs=>xs.length<=sizeLine/\∃its:List Value,Vals xs its/\IsTup h a its.toArray/\∃o,h.get? a=some o/\o.dict=none
 |.dK M7=>M7.length<=sizeLine/\(a==sysModules)=false/\∃vs,KV M7 vs/\h.DictOf (db P w) a vs
 | .dT M7=>M7.length<=sizeLine/\(a==sysModules)=false/\∃xs:List (List Key×Addr×Value),
  Paired (fun(p:List Key×V)(q:List Key×Addr×Value)=>p.1=q.1/\H q.2.1=some (.tup (p.1.map kV))/\RelV p.2 q.2.2) M7 xs/\
  ∃o es ep,h.get? a=some o/\o.ExactDict/\o.data=.dict es ep/\es.toList=xs.map (entryOfKey (tupleKind (db P w)))/\(xs.map (·.1)).Nodup
 |.set S n=>h.SetOf (intKind P w) a S n
 | .ins C dx fs=>H dx=some (.own a)/\fs.length<=1000/\dx≠a/\h.get? a=some (PySem.W.instObj C dx)/\
  ∃mA,h.Ns1 dx mA/\(∀f,RelO (fs.lookup f) (mA f))/\PySem.Within mA (fs.map (·.1))
 |.own _=>∃o,h.get? a=some o
 |.xd fs=>∃mA,h.Ns1 a mA/\∀f,RelO (fs.lookup f) (mA f)
 |.rng lo hi=>∃t u v,h.get? a=some { cls:=.type "range",data:=.fields #[.int lo t,.int hi u,.int 1 v] }
 |.frz o u=>h.get? a=some o/\ObjOk H h a u
 |.tbl ps=>h.get? a=some { cls:=.none,data:=.fields ps }
 |.met f x=>h.get? a=some (PySem.W.methodObj (.ref f) (.ref x))
 |.ext φ=>φ h/\(∃o,h.get? a=some o)/\∀h1 h2:Heap,φ h1->(∀o,h1.get? a=some o->h2.get? a=some o)->φ h2
def HOk(H:Hp)(h:Heap):Prop:=∀a o,H a=some o->ObjOk P w H h a o
end
section
variable {P:Program}{w:World}{H H':Hp}{h h':Heap}{a:Addr}{o:HO}
def ObjOk.lt(x:ObjOk P w H h a o):a<h.objs.size:=by
 cases o with
 |lst xs=>erw[_,_,_,_,e]at x;exact zQ0 e
 |tup xs=>erw[_,_,_,p,_]at x;exact p.lt
 |dK M7=>erw[_,_,_,_,o,_,_,e,_]at x;exact zQ0 e
 |dT M7=>erw[_,_,_,_,o,_,_,e,_]at x;exact zQ0 e
 |set S n=>erw[o,_,_,_,e,_]at x;exact zQ0 e
 |ins C dx fs=>erw[_,_,_,e,_]at x;exact zQ0 e
 |own y=>erw[_,e]at x;exact zQ0 e
 |xd fs=>erw[_,%[_,_,_,e|_],_]at x;exact zQ0 e
 |rng lo hi=>erw[_,_,_,e]at x;exact zQ0 e
 |frz ob u=>erw[e,_]at x;exact zQ0 e
 |tbl ps=>exact zQ0 (show h.get? a=some _ from x)
 |met f y=>exact zQ0 (show h.get? a=some _ from x)
 |ext φ=>erw[_,%[_|e],_]at x;exact zQ0 e
def Paired.mapP{α β:Type}{F G:α->β->Prop}:∀{l₁:List α}{l₂:List β},Paired F l₁ l₂->(∀a b,F a b->G a b)->Paired G l₁ l₂
 |_,_,.nil,_=>.nil
 |_,_,.cons r t,f=>.cons (f _ _ r) (Paired.mapP t f)
def ObjOk.stay(x:ObjOk P w H h a o)(k:∀b u,(b=a∨H b=some (.own a))->h.get? b=some u->h'.get? b=some u)
 (ho:∀b,H b=some (.own a)->H' b=some (.own a))(ht:∀b xs,H b=some (.tup xs)->H' b=some (.tup xs)):ObjOk P w H' h' a o:=by
 induction o with
 |lst xs=>erw[z,its,n,r,e]at x;erw[z,its,n,r,k _ _ (.inl rfl) e]
 |tup xs=>erw[z,its,r,%[ob,e|c],od,e2,d]at x;erw[z,its,r,%[ob,k _ _ (.inl rfl) e|c],od,k _ _ (.inl rfl) e2,d]
 |dK M7=>erw[z,y,vs,r,ob,es,ep,e,c]at x;erw[z,y,vs,r,ob,es,ep,k _ _ (.inl rfl) e,c]
 |dT M7=>
   erw[z,y,xs,r,ob,es,ep,e,c]at x;erw[z,y,xs,Paired.mapP r λp q z=>%[z.1,ht _ _ z.2.1|z.2.2],ob,es,ep,k _ _ (.inl rfl) e,c]
 |set S n=>erw[ob,es,ep,t,e,c]at x;erw[ob,es,ep,t,k _ _ (.inl rfl) e,c]
 |ins C dx fs=>
   erw[d,z,ne,e,mA,%[od,es,ep,e2|c],r]at x;erw[ho _ d,z,ne,k _ _ (.inl rfl) e,mA,%[od,es,ep,k _ _ (.inr d) e2|c],r]
 |own y=>erw[ob,e]at x;erw[ob,k _ _ (.inl rfl) e]
 |xd fs=>erw[mA,%[od,es,ep,e|c],r]at x;erw[mA,%[od,es,ep,k _ _ (.inl rfl) e|c],r]
 |rng lo hi=>erw[t,u,v,e]at x;erw[t,u,v,k _ _ (.inl rfl) e]
 |frz ob u ih=>erw[e,q]at x;erw[k _ _ (.inl rfl) e,ih q]
 |tbl ps=>
   let e:h.get? a=some { cls:=.none,data:=.fields ps }:=x;show h'.get? a=some { cls:=.none,data:=.fields ps };exact k a _ (.inl rfl) e
 |met f y=>
   let e:h.get? a=some (PySem.W.methodObj (.ref f) (.ref y)):=x;show h'.get? a=some (PySem.W.methodObj (.ref f) (.ref y));exact k a _ (.inl rfl) e
 |ext φ=>erw[p,%[o|e],st]at x;erw[st _ _ p λo q=>k _ _ (.inl rfl) q,%[o|k _ _ (.inl rfl) e],st]
def HOk.lt(x:HOk P w H h)(e:H a=some o):a<h.objs.size:=(x a o e).lt
def HOk.fresh(x:HOk P w H h)(e:h.objs.size<=a):H a=none:=by
 cases q:H a with
 |none=>rfl
 |some u=>exact absurd (qN0 (x.lt q) e) (qS0 _)
def HOk.kept(x:HOk P w H h)(k:∀b u,h.get? b=some u->h'.get? b=some u):HOk P w H h':=λa o e=>
 (x a o e).stay (λb u _ q=>k b u q) (λ_ q=>q) λ_ _ q=>q
def HOk.laid(x:HOk P w H h)(k:∀b u,h.get? b=some u->h'.get? b=some u)(hp:h.objs.size<=a)(new:ObjOk P w (upd H a o) h' a o):HOk P w (upd H a o) h':=λb u e=>by
 let hn:=x.fresh hp
 by_cases hb:b=a
 . subst hb;rw[aP]at e;cases e;exact new
 . rw[aE hb]at e;exact(x b u e).stay (λc v _ q=>k c v q) (λc q=>by rw[aE (aZ q hn)];exact q) λc xs q=>by rw[aE (aZ q hn)];exact q
end
def Rd(H:Hp)(a:Addr)(u:HO):Prop:=H a=some u∨∃o,H a=some (.frz o u)
def Rd.ok{P:Program}{w:World}{h:Heap}(r:Rd H a u)(x:HOk P w H h):ObjOk P w H h a u:=by
 rcases r with r | ⟨o,r⟩
 . exact x a u r
 . let%[_|q]:=x a _ r;exact q
def Mut:Option HO->Prop
 |some (.lst _)=>True
 |some (.dK _)=>True
 |some (.dT _)=>True
 |some (.set _ _)=>True
 |some (.ins _ _ _)=>True
 |some (.ext _)=>True
 |_=>False
section
variable {P:Program}{w:World}{H:Hp}{h h':Heap}{x e:Addr}{o':HO}
def HOk.write(ok:HOk P w H h)(mu:Mut (H x))(he:e=x∨H e=some (.own x))(k:∀b u,b≠e->h.get? b=some u->h'.get? b=some u)(heo:∃u,h'.get? e=some u)
 (new:ObjOk P w (upd H x o') h' x o'):HOk P w (upd H x o') h':=λb u q=>by
 let nown:∀c y,H c=some (.own y)->c≠x:=λc y r z=>by subst z;rw[r]at mu;exact mu
 let ntup:∀c xs,H c=some (.tup xs)->c≠x:=λc xs r z=>by subst z;rw[r]at mu;exact mu
 by_cases hb:b=x
 . subst hb;rw[aP]at q;cases q;exact new
 . rw [aE hb]at q
   by_cases hbe:b=e
   . let q':H b=some (.own x):=by
      rcases he with z | z
      . exact absurd (hbe.trans z) hb
      . rw[hbe];exact z
     rw[q]at q';cases q';erw[v,hv]at heo;erw[v,by rw[hbe];exact hv]
   . apply (ok b u q).stay (λc v hc r=>k c v ?_ r) (λc r=>by rw[aE (nown c b r)];exact r) λc xs r=>by rw[aE (ntup c xs r)];exact r
     rcases hc with rfl | hc
     . exact hbe
     . rintro rfl;rcases he with z | z
       . exact nown c b hc z
       . rw[hc]at z;cases z;exact hb rfl
end
structure Un(fs ex:List Addr)(H H':Hp)(h h':Heap):Prop where
 keep:∀b o,h.get? b=some o->H b=none->b∉fs->b∉ex->h'.get? b=some o
 slot:∀b o,h.get? b=some o->H b=none->b∈fs->b∉ex->∃sl,h'.get? b=some { o with slots:=sl }
 free:∀b o,h.get? b=some o->H b=none->b∉ex->H' b=none
 there:∀b o,h.get? b=some o->b∉ex->∃o',h'.get? b=some o'
 tups:∀b xs,H b=some (.tup xs)->H' b=some (.tup xs)
 frzs:∀b o u,H b=some (.frz o u)->H' b=some (.frz o u)
 tbls:∀b ps,H b=some (.tbl ps)->∃more,H' b=some (.tbl (ps++more))
section
variable {fs fs' ex ex':List Addr}{H H1 H2:Hp}{h h1 h2 h':Heap}{a x e:Addr}{o:HO}
def Un.any(u:Un fs ex H H1 h h1){b:Addr}{ob:Obj}(q:h.get? b=some ob)(n:H b=none)(hx:b∉ex):∃sl,h1.get? b=some { ob with slots:=sl }:=by
 by_cases hb:b∈fs
 . exact u.slot b ob q n hb hx
 . erw[ob.slots,u.keep b ob q n hb hx]
def Un.kept(k:∀b u,h.get? b=some u->h'.get? b=some u):Un fs ex H H h h':=
 %[λb ob q _ _ _=>k b ob q,λb ob q _ _ _=>%[ob.slots|k b ob q],λ_ _ _ n _=>n,λb ob q _=>%[ob|k b ob q],λ_ _ q=>q,λ_ _ _ q=>q|λ_ ps q=>%[#[]|by rw[q];simp]]
def Un.refl:Un fs ex H H h h:=Un.kept λ_ _ q=>q
def Un.laid(k:∀b u,h.get? b=some u->h'.get? b=some u)(hp:h.objs.size<=a)(hn:H a=none):Un fs ex H (upd H a o) h h' where
 keep:=λb u q _ _ _=>k b u q
 slot:=λb u q _ _ _=>%[u.slots|k b u q]
 free:=λb u q n _=>by rw[aE (qA0 (qN0 (zQ0 q) hp))];exact n
 there:=λb u q _=>%[u|k b u q]
 tups:=λb xs q=>by rw[aE (aZ q hn)];exact q
 frzs:=λb u xs q=>by rw[aE (aZ q hn)];exact q
 tbls:=λb ps q=>%[#[]|by rw[aE (aZ q hn),q];simp]
def Un.write(mu:Mut (H x))(he:e=x∨H e=some (.own x))(k:∀b u,b≠e->h.get? b=some u->h'.get? b=some u)(heo:∃u,h'.get? e=some u):Un fs ex H (upd H x o) h h':=by
 let hx:∀b,H b=none->b≠x:=λb n z=>by subst z;rw[n]at mu;exact mu
 let hb:∀b,H b=none->b≠e:=λb n z=>by
  subst z;rcases he with r | r
  . exact hx b n r
  . rw[n]at r;cases r
 let hm:∀b u,H b=some u->¬ Mut (some u)->b≠x:=λb u q nm z=>by subst z;rw[q]at mu;exact nm mu
 erw[λb u q n _ _=>k b u (hb b n) q,λb u q n _ _=>%[u.slots|k b u (hb b n) q],λb u q n _=>by rw[aE (hx b n)];exact n,λb u q _=>?_,λb xs q=>by rw[aE (hm b _ q λz=>z)];exact q,λb u xs q=>by rw[aE (hm b _ q λz=>z)];exact q,λb ps q=>%[#[]|by rw[aE (hm b _ q λz=>z),q];simp]]
 by_cases hbe:b=e
 . subst hbe;exact heo
 . erw[u,k b u hbe q]
end
def trk(h:Heap)(H:Hp):List Addr:=(List.range h.objs.size).filter λa=>(H a).isSome
def vq(h:Heap)(H:Hp):Heap:=PySem.W.hideAll h (trk h H)
def Bz(h:Heap)(H:Hp):(vq h H).objs.size=h.objs.size:=PySem.W.hideAll_size _ _
def Ew{h:Heap}{H:Hp}{b:Addr}{o:Obj}(e:h.get? b=some o)(n:H b=none):(vq h H).get? b=some o:=
 PySem.W.hideAll_get _ e λhm=>by
  let q:(H b).isSome=true:=(List.mem_filter.mp hm).2;rw[n]at q;simp at q
def Gi{b:Addr}{o:Obj}(e:(vq h H).get? b=some o):h.get? b=some o/\H b=none:=by
 let e':h.get? b=some o:=PySem.W.of_hideAll (trk h H) e;erw[e',6];cases q:H b with
 |none=>rfl
 |some x=>
   let hm:b∈trk h H:=List.mem_filter.mpr %[List.mem_range.mpr (zQ0 e')|by simp [q]];let z:(vq h H).get? b=none:=PySem.W.hideAll_none (trk h H) hm;rw[z]at e;cases e
structure Mod(K:W.Frag)(mg:#[9])(base:Heap):Prop where
 kin:K.In base
 glob:base.Ns mainGlobals mg
 blt:∃mb,base.Ns builtinsNs mb/\∀x:Str,x≠"__name__" -> mb x=bootBuiltins x
 nolimit:base.NoLimit
structure Cx where
 prog:Program
 w:World
 K:W.Frag
 mg:#[9]
 base:Heap
 A:Around
 N:List Str
 s₀:Shared
 H₀:Hp
 env:Env
 outer:List Env
 stack:List Env
 ex:List Addr
 fn:Str->Bool
 calm:Bool
 pn:#[7]
 xe:#[6]
def frs(l:List Env):List Addr:=l.filterMap (·.frame)
abbrev Cx.fs(X:Cx):List Addr:=frs X.outer
def Vis(sc:Scope)(x:Str):Prop:=sc.names.lookup x=some .local∨sc.names.lookup x=some .cell∨sc.names.lookup x=some .free
def Loc(sc:Scope)(x:Str):Prop:=sc.names.lookup x=some .local∨sc.names.lookup x=some .cell
def Look(env:Env)(h:Heap)(m:#[9])(x:Str)(u:Value):Prop:=
 (env.kindOf x=some .local/\m x=some u)∨((env.kindOf x=some .cell∨env.kindOf x=some .free)/\∃c,env.cells.lookup x=some c/\h.IsCell c (some u))
structure Cx.Ok(X:Cx):Prop where
 mod:Mod X.K X.mg X.base
 kind:X.env.scope.kind=.function
 glob:X.env.globals=mainGlobals
 blt:X.env.builtins=builtinsNs
 above:X.s₀.heap.objs.size<=X.env.locals
 inj:∀x y c,X.env.cells.lookup x=some c->X.env.cells.lookup y=some c->x=y
 has:∀x,(X.env.kindOf x=some .cell∨X.env.kindOf x=some .free)->∃c,X.env.cells.lookup x=some c
 cab:∀x c,X.fn x=true->X.env.cells.lookup x=some c->X.s₀.heap.objs.size<=c
 hd:X.calm=true->X.A.handled=none
 frames:X.A.frames=some X.stack
 stk:X.stack=X.outer∨(X.stack=X.env::X.outer/\X.env.frame=some X.env.locals)
 exf:∀b∈X.ex,b≠X.env.locals/\∀x c,X.env.cells.lookup x=some c->c≠b
 bs:∀b o,X.base.get? b=some o->X.s₀.heap.get? b=some o/\X.H₀ b=none
 bsz:X.base.objs.size<=X.s₀.heap.objs.size
 noex:∀b o,X.base.get? b=some o->b∉X.ex
 exfs:∀b∈X.ex,b∉X.fs
 funs:X.s₀.heap.FunFrames X.base X.outer
 frf:∀b∈X.fs,X.H₀ b=none
structure Inv(X:Cx)(M5:#[7])(σ:List (Option V))(H:Hp)(s:Shared):Prop where
 ok:X.Ok
 os:s.os=X.s₀.os
 bare:AllBare s.gens
 base:Un X.fs X.ex X.H₀ H X.s₀.heap s.heap
 loc:∃m,s.heap.Ns X.env.locals m/\∀(i:Nat)(x:Str)(v:V),X.N[i]?=some x->σ[i]?=some (some v)->Vis X.env.scope x->∃u,RelV v u/\Look X.env s.heap m x u
 cell:∀x c,X.env.cells.lookup x=some c->∃v,s.heap.IsCell c v
 free:H X.env.locals=none
 freeC:∀x c,X.env.cells.lookup x=some c->H c=none
 pin:∀p∈X.pn++M5,s.heap.get? p.1=some p.2/\H p.1=none/\p.1≠X.env.locals/\p.1∉X.fs/\∀v,p.2.data≠.cell v
 hok:HOk X.prog X.w H s.heap
 len:σ.length=X.N.length
section
variable {X:Cx}{M5:#[7]}{σ:List (Option V)}{H H':Hp}{s:Shared}{h':Heap}
def Cx.Ok.nofr(ok:X.Ok){b:Addr}{o:Obj}(e:X.base.get? b=some o):b∉X.fs:=λhb=>by
 have:=(ok.funs.mem hb).1
 rw[e]at this;cases this
def Inv.bs(I:#[8] H s):∀b o,X.base.get? b=some o->s.heap.get? b=some o/\H b=none:=λb o e=>
 %[I.base.keep b o (I.ok.bs b o e).1 (I.ok.bs b o e).2 (I.ok.nofr e) (I.ok.noex b o e)|I.base.free b o (I.ok.bs b o e).1 (I.ok.bs b o e).2 (I.ok.noex b o e)]
def Inv.bk(I:#[8] H s):∀b o,X.base.get? b=some o->s.heap.get? b=some o:=λb o e=>(I.bs b o e).1
def Inv.mod(I:#[8] H s):Mod X.K X.mg X.base:=I.ok.mod
def Inv.kIn(I:#[8] H s):X.K.In s.heap:=I.ok.mod.kin.keeps I.bk
def Inv.lt(I:#[8] H s):X.env.locals<‹s›:=let⟨_,hn,_⟩:=I.loc;hn.lt
def Inv.sz(I:#[8] H s):X.s₀.heap.objs.size<=‹s›:=zT0 I.ok.above (wK0 I.lt)
def Inv.nofs(I:#[8] H s){a:Addr}(h:‹s›<=a):a∉X.fs:=λhb=>by
 let%[_,o,ho|_]:=I.ok.funs.mem hb;exact absurd (qN0 (zQ0 ho) (zT0 I.sz h)) (qS0 _)
def Inv.cne(I:#[8] H s):∀x c,X.env.cells.lookup x=some c->c≠X.env.locals:=λx c e z=>by
 let%[v,o,ho|hd]:=I.cell x c e;erw[m,%[o',es,ep,ho',hd'|_],_]at I.loc;rw[z,ho']at ho;cases ho;rw[hd']at hd;cases hd
def Inv.funs(I:#[8] H s):s.heap.FunFrames X.base X.outer:=by
 let all:∀(l:List Env),(∀b∈frs l,b∈X.fs)->X.s₀.heap.FunFrames X.base l->s.heap.FunFrames X.base l:=by
  intro l
  induction l with
  |nil=>intro _ _;trivial
  |cons env r ih=>
    intro hs hl;erw[hk,%[L,o,hf,hn,ho|hd],hr]at hl;let hL:L∈X.fs:=hs L (by unfold frs;rw[wE0,hf];exact zX0);let%[sl|e]:=I.base.slot L o ho (I.ok.frf L hL) hL λz=>I.ok.exfs L z hL
    erw[hk,%[L,_,hf,hn,e|hd],ih (λb hb=>hs b (by unfold frs;rw[wE0,hf];exact qK0 _ hb)) hr]
 exact all X.outer (λ_ hb=>hb) I.ok.funs
def Inv.stack(I:#[8] H s):s.heap.FunFrames X.base X.stack:=by
 rcases I.ok.stk with e | ⟨e,hf⟩
 . rw[e];exact I.funs
 . rw[e];erw[m,hn,_]at I.loc;refine .cons (by rw[I.ok.kind];decide) hf hn ?_ I.funs;exact Heap.get?_none_of_le (zT0 I.ok.bsz I.ok.above)
def Inv.stkSub(I:#[8] H s):∀b∈frs X.stack,b∈X.env.locals::X.fs:=λb hb=>by
 rcases I.ok.stk with e | ⟨e,hf⟩
 . rw[e]at hb;exact qK0 _ hb
 . rw[e]at hb;unfold frs at hb;rw[wE0,hf]at hb;exact hb
def Inv.stkFree(I:#[8] H s):∀b∈frs X.stack,H b=none:=λb hb=>by
 rcases Nf (I.stkSub b hb)with e | hb
 . rw[e];exact I.free
 . let%[_,o,ho|_]:=I.ok.funs.mem hb;exact I.base.free b o ho (I.ok.frf b hb) λz=>I.ok.exfs b z hb
def Inv.step{g':Array GenState}{t':Nat}{d':Drawn}{ch:List Addr}(I:#[8] H s)
 (hch:∀b∈ch,(b∈X.ex∨X.s₀.heap.objs.size<=b)/\b≠X.env.locals/\(∀x c,X.env.cells.lookup x=some c->c≠b)/\∀p∈X.pn++M5,p.1≠b)
 (keep:∀b o,b≠X.env.locals->b∉X.fs->b∉ch->s.heap.get? b=some o->H b=none->h'.get? b=some o)
 (slot:∀b o,b≠X.env.locals->b∈X.fs->b∉ch->s.heap.get? b=some o->H b=none->∃sl,h'.get? b=some { o with slots:=sl })(free:∀b o,b∉ch->s.heap.get? b=some o->H b=none->H' b=none)
 (there:∀b o,b∉ch->s.heap.get? b=some o->∃o',h'.get? b=some o')
 (tups:∀b xs,H b=some (.tup xs)->H' b=some (.tup xs))(frzs:∀b o u,H b=some (.frz o u)->H' b=some (.frz o u))(tbls:∀b ps,H b=some (.tbl ps)->∃more,H' b=some (.tbl (ps++more)))
 (ns:∀m,s.heap.Ns X.env.locals m->h'.Ns X.env.locals m)(hok:HOk X.prog X.w H' h')(hg:AllBare g'):
 #[8] H' { s with heap:=h',gens:=g',drawn:=d',toks:=t' }:=by
 let neL:∀b o,X.s₀.heap.get? b=some o->b≠X.env.locals:=λb o e=>qA0 (qN0 (zQ0 e) I.ok.above)
 let neC:∀b o,X.s₀.heap.get? b=some o->b∉X.ex->b∉ch:=λb o e hx hb=>by
  rcases(hch b hb).1 with z | z
  . exact hx z
  . exact absurd (qN0 (zQ0 e) z) (qS0 _)
 let cellK:∀x c,X.env.cells.lookup x=some c->∀v,s.heap.IsCell c v->h'.IsCell c v:=λx c e v ⟨o,ho,hd⟩=>by
  let nch:c∉ch:=λz=>(hch c z).2.2.1 x c e rfl
  by_cases hc:c∈X.fs
  . let%[sl|q]:=slot c o (I.cne x c e) hc nch ho (I.freeC x c e);erw[_,q,hd]
  . erw[o,keep c o (I.cne x c e) hc nch ho (I.freeC x c e),hd]
 erw[I.ok,I.os,hg,%[λb o e n hb hx=>?_,λb o e n hb hx=>?_,λb o e n hx=>?_,λb o e hx=>?_,λb xs e=>tups b xs (I.base.tups b xs e),λb o xs e=>frzs b o xs (I.base.frzs b o xs e)|λb ps e=>?_],6,λx c e=>?_,6,λx c e=>?_,λp hp=>?_,hok,I.len]
 . exact keep b o (neL b o e) hb (neC b o e hx) (I.base.keep b o e n hb hx) (I.base.free b o e n hx)
 . let%[sl|e1]:=I.base.slot b o e n hb hx;let%[sl'|e2]:=slot b _ (neL b o e) hb (neC b o e hx) e1 (I.base.free b o e n hx);erw[sl',e2]
 . let%[o'|e1]:=I.base.there b o e hx;exact free b o' (neC b o e hx) e1 (I.base.free b o e n hx)
 . let%[o'|e1]:=I.base.there b o e hx;exact there b o' (neC b o e hx) e1
 . let%[m1|e1]:=I.base.tbls b ps e;let%[m2|e2]:=tbls b _ e1;erw[m1++m2,by rw[e2,Array.append_assoc]]
 . erw[m,hn,hl]at I.loc;erw[m,ns m hn,λi x v e1 e2 e3=>?_];let%[u,r|l]:=hl i x v e1 e2 e3;erw[u,r,6];rcases l with l | ⟨k,c,e,z⟩
   . exact .inl l
   . exact .inr %[k,c,e|cellK x c e _ z]
 . let%[v|z]:=I.cell x c e;erw[v,cellK x c e v z]
 . erw[m,%[o,_,_,ho|_],_]at I.loc;exact free _ o (λz=>(hch _ z).2.1 rfl) ho I.free
 . let%[v,o,ho|hd]:=I.cell x c e;exact free c o (λz=>(hch c z).2.2.1 x c e rfl) ho (I.freeC x c e)
 . let%[e,n,ne,nf|d]:=I.pin p hp;let nch:p.1∉ch:=λz=>(hch p.1 z).2.2.2 p hp rfl
   erw[keep p.1 p.2 ne nf nch e n,free p.1 p.2 nch e n,ne,nf,d]
def Inv.un{t':Nat}(I:#[8] H s)(u:Un X.fs [] H H' s.heap h')(hok:HOk X.prog X.w H' h'):#[8] H' { s with heap:=h',toks:=t' }:=by
 let%[m,%[o,es,ep,ho|r]|_]:=id I.loc;let%[sl|hL]:=u.any ho I.free #[2];exact I.step (g':=s.gens) (d':=s.drawn) (ch:=[]) (λ_ z=>nomatch z) (λb o _ hb _ e n=>u.keep b o e n hb #[2]) (λb o _ hb _ e n=>u.slot b o e n hb #[2]) (λb o _ e n=>u.free b o e n #[2]) (λb o _ e=>u.there b o e #[2]) u.tups u.frzs u.tbls (λm' hm=>by
  erw[o',es',ep',ho',r']at hm;rw[ho]at ho';cases ho';erw[_,es',ep',hL,r']) hok I.bare
def Inv.call{g':Array GenState}{t':Nat}{d':Drawn}{ch:List Addr}(I:#[8] H s)(u:Un (frs X.stack) ch H H' s.heap h')(hok:HOk X.prog X.w H' h')(hg:AllBare g')
 (hch:∀b∈ch,(b∈X.ex∨X.s₀.heap.objs.size<=b)/\b≠X.env.locals/\(∀x c,X.env.cells.lookup x=some c->c≠b)/\∀p∈X.pn++M5,p.1≠b):
 #[8] H' { s with heap:=h',gens:=g',drawn:=d',toks:=t' }:=by
 let%[m,%[o,es,ep,ho|r]|_]:=id I.loc;let%[sl|hL]:=u.any ho I.free λz=>(hch _ z).2.1 rfl
 exact I.step (ch:=ch) hch (λb o hL hb hc e n=>u.keep b o e n (λz=>(Nf (I.stkSub b z)).elim hL hb) hc) (λb o _ _ hc e n=>u.any e n hc) (λb o hc e n=>u.free b o e n hc) (λb o hc e=>u.there b o e hc) u.tups u.frzs u.tbls (λm' hm=>by
  erw[o',es',ep',ho',r']at hm;rw[ho]at ho';cases ho';erw[_,es',ep',hL,r']) hok hg
def Inv.turned{t':Nat}{it:Addr}(I:#[8] H s)(k:∀b o,b≠it->s.heap.get? b=some o->h'.get? b=some o)(hn:H it=none)(hL:it≠X.env.locals)
 (h1:it∈X.ex∨X.s₀.heap.objs.size<=it)(h2:∀x c,X.env.cells.lookup x=some c->c≠it)(h3:∀p∈X.pn++M5,p.1≠it):#[8] H { s with heap:=h',toks:=t' }:=by
 let nit:∀b u,H b=some u->b≠it:=λb u e z=>by rw[z,hn]at e;cases e
 apply I.step (g':=s.gens) (d':=s.drawn) (ch:=[it]) (λb hb=>?_) (λb o _ _ hc e _=>k b o (λz=>hc (by simp [z])) e) (λb o _ _ hc e _=>%[o.slots|k b o (λz=>hc (by simp [z])) e]) (λ_ _ _ _ n=>n)
  (λb o hc e=>%[o|k b o (λz=>hc (by simp [z])) e]) (λ_ _ e=>e) (λ_ _ _ e=>e) (λb ps e=>%[#[]|by rw[e];simp]) (λm hm=>?_) (λb u e=>?_) I.bare
 . let e:b=it:=#[hb,0]
   subst e;erw[h1,hL,h2,h3]
 . erw[o,es,ep,ho,r]at hm;erw[o,es,ep,k _ o (Ne.symm hL) ho,r]
 . apply (I.hok b u e).stay (λc v hc q=>k c v ?_ q) (λ_ q=>q) λ_ _ q=>q
   rcases hc with z | z
   . rw[z];exact nit b u e
   . exact nit c _ z
def Inv.tok(I:#[8] H s)(t:Nat):#[8] H { s with toks:=t }:=I.un (h':=s.heap) (t':=t) Un.refl I.hok
def Inv.kept{t':Nat}(I:#[8] H s)(k:∀b u,s.heap.get? b=some u->h'.get? b=some u):#[8] H { s with heap:=h',toks:=t' }:=I.un (Un.kept k) (I.hok.kept k)
def Inv.laid{a:Addr}{t':Nat}(I:#[8] H s)(k:∀b u,s.heap.get? b=some u->h'.get? b=some u)(hp:‹s›<=a)(new:ObjOk X.prog X.w (upd H a o) h' a o):
 #[8] (upd H a o) { s with heap:=h',toks:=t' }:=I.un (Un.laid k hp (I.hok.fresh hp)) (I.hok.laid k hp new)
def Inv.write{x e:Addr}{t':Nat}(I:#[8] H s)(mu:Mut (H x))(he:e=x∨H e=some (.own x))(k:∀b u,b≠e->s.heap.get? b=some u->h'.get? b=some u)(heo:∃u,h'.get? e=some u)
 (new:ObjOk X.prog X.w (upd H x o) h' x o):#[8] (upd H x o) { s with heap:=h',toks:=t' }:=I.un (Un.write mu he k heo) (I.hok.write mu he k heo new)
def Inv.pins_of{pins':#[7]}(I:#[8] H s)(h:∀p∈pins',s.heap.get? p.1=some p.2/\H p.1=none/\p.1≠X.env.locals/\p.1∉X.fs/\∀v,p.2.data≠.cell v):Inv X pins' σ H s:=
 %[I.ok,I.os,I.bare,I.base,I.loc,I.cell,I.free,I.freeC,λp hp=>(qH0 hp).elim (λz=>I.pin p (List.mem_append_left _ z)) (h p),I.hok|I.len]
def wy{N:List Str}(hN:N.Nodup){i j:Nat}{x:Str}(a:N[i]?=some x)(b:N[j]?=some x):i=j:=by
 let%[h1|e1]:=zY0 a;let%[h2|e2]:=zY0 b;exact(List.getElem_inj hN).mp (e1.trans e2.symm)
def oi{M:Model}{A:Around}{E:#[6]}{i:Nat}{x:Str}{Q:Unit->Shared->Prop}(I:#[8] H s)(hN:X.N.Nodup)(hi:X.N[i]?=some x)(hx:Loc X.env.scope x)(r:RelV v u)
 (h:∀s',Inv X M5 (σ.set i (some v)) H s'->(∃a,Heap.SameBut a s.heap s'.heap/\(a=X.env.locals∨X.env.cells.lookup x=some a))->Q () s')(hf:X.fn x=true∨X.env.scope.names.lookup x=some .local:=by first | exact .inl rfl | exact .inr rfl | assumption):wpAny M A (storeName X.env x u) Q E s:=by
 let%[m,hn|hl]:=id I.loc;let hcls:(X.env.scope.kind==.class||(X.env.scope.kind==.module&&X.env.locals != X.env.globals))=false:=by rw[I.ok.kind];rfl
 let hiσ:i<σ.length:=by rw[I.len];exact(zY0 hi).1
 let cne:=I.cne;let tracked:∀{a:Addr}{h':Heap},(∃o,s.heap.get? a=some o/\H a=none)->Heap.SameBut a s.heap h'->HOk X.prog X.w H h':=fun{a h'} ha hs b ob e=>by
  erw[_,_,hfree]at ha;refine(I.hok b ob e).stay (λc w' hc q=>(hs.2 c ?_).trans q) (λ_ q=>q) λ_ _ q=>q
  rintro rfl;rcases hc with rfl | hc
  . rw[hfree]at e;cases e
  . rw[hfree]at hc;cases hc
 rcases hx with hk | hk
 . apply wpAny_storeName_local hk hn (λh' hn' hs=>?_) hcls;let%[oL,_,_,hoL|_]:=id hn;apply h _ %[I.ok,I.os,I.bare,%[λb o e n hb hx=>?_,λb o e n hb hx=>?_,I.base.free,λb o e hx=>?_,I.base.tups,I.base.frzs|I.base.tbls],%[_,hn'|λj y v' e1 e2 e3=>?_],λy c e=>?_,I.free,I.freeC,λp hp=>?_,tracked %[oL,hoL|I.free] hs|by simpa using I.len] ⟨_,hs,.inl rfl⟩
   . exact(hs.2 b (qA0 (qN0 (zQ0 e) I.ok.above))).trans (I.base.keep b o e n hb hx)
   . let%[sl|e1]:=I.base.slot b o e n hb hx;erw[sl,(hs.2 b (qA0 (qN0 (zQ0 e) I.ok.above))).trans e1]
   . let%[o'|e1]:=I.base.there b o e hx;erw[o',(hs.2 b (qA0 (qN0 (zQ0 e) I.ok.above))).trans e1]
   . by_cases hj:j=i
     . subst hj;rw[hi]at e1;cases e1;rw[List.getElem?_set_self hiσ]at e2;cases e2;erw[u,r,.inl %[hk|by simp]]
     . rw [List.getElem?_set_ne (Ne.symm hj)]at e2;let%[u',r'|q]:=hl j y v' e1 e2 e3;erw[u',r',6];rcases q with⟨k,e⟩ | ⟨k,c,e,z⟩
       . refine .inl %[k|6]
         have:y≠x:=λe=>hj (wy hN e1 (e▸hi))
         simp [this,e]
       . exact .inr %[k,c,e|z.sameBut hs (cne y c e)]
   . let%[w'|z]:=I.cell y c e;erw[w',z.sameBut hs (cne y c e)]
   . let%[e,n,ne,nf|d]:=I.pin p hp;erw[(hs.2 p.1 ne).trans e,n,ne,nf,d]
 . let hfn:X.fn x=true:=by
    rcases hf with z | z
    . exact z
    . rw[z]at hk;cases hk
   let%[c|hc]:=I.ok.has x (.inl hk);let%[w'|z]:=I.cell x c hc;apply wpAny_storeName_cell I.ok.kind hk hc z (λh' hc' hs=>?_);let%[oc,hoc|hocd]:=id z;apply h { s with heap:=h' } ⟨I.ok,I.os,I.bare,⟨λb o e n hb hx=>?_,λb o e n hb hx=>?_,I.base.free,λb o e hx=>?_,I.base.tups,I.base.frzs,I.base.tbls⟩,%[m,hn.sameBut hs (Ne.symm (cne x c hc))|λj y v' e1 e2 e3=>?_],λy c' e=>?_,I.free,I.freeC,λp hp=>?_,tracked %[oc,hoc|I.freeC x c hc] hs,by simpa using I.len⟩ ⟨c,hs,.inr hc⟩
   . exact(hs.2 b (qA0 (qN0 (zQ0 e) (I.ok.cab x c hfn hc)))).trans (I.base.keep b o e n hb hx)
   . let%[sl|e1]:=I.base.slot b o e n hb hx;erw[sl,(hs.2 b (qA0 (qN0 (zQ0 e) (I.ok.cab x c hfn hc)))).trans e1]
   . let%[o'|e1]:=I.base.there b o e hx;erw[o',(hs.2 b (qA0 (qN0 (zQ0 e) (I.ok.cab x c hfn hc)))).trans e1]
   . by_cases hj:j=i
     . subst hj;rw[hi]at e1;cases e1;rw[List.getElem?_set_self hiσ]at e2;cases e2;erw[u,r,.inr %[.inl hk,c,hc|hc']]
     . rw [List.getElem?_set_ne (Ne.symm hj)]at e2;let%[u',r'|q]:=hl j y v' e1 e2 e3;erw[u',r',6];rcases q with q | ⟨k,c',e,z'⟩
       . exact .inl q
       . refine .inr %[k,c',e|z'.sameBut hs ?_];rintro rfl;exact hj (wy hN e1 (I.ok.inj _ _ _ e hc▸hi))
   . by_cases hcc:c'=c
     . subst hcc;erw[_,hc']
     . let%[w2|z2]:=I.cell y c' e;erw[w2,z2.sameBut hs hcc]
   . let%[e,n,ne,nf|d]:=I.pin p hp;erw[(hs.2 p.1 ?_).trans e,n,ne,nf,d];intro q;rw[q,hoc]at e;let q':oc=p.2:=zO0 e;exact d w' (by rw[←q'];exact hocd)
def vM{M:Model}{A:Around}{E:#[6]}{i:Nat}{x:Str}{Q:Unit->Shared->Prop}(I:#[8] H s)(hN:X.N.Nodup)(hi:X.N[i]?=some x)(hx:Loc X.env.scope x)(r:RelV v u)
 (h:∀s',Inv X M5 (σ.set i (some v)) H s'->Q () s')(hf:X.fn x=true∨X.env.scope.names.lookup x=some .local:=by first | exact .inl rfl | exact .inr rfl | assumption):wpAny M A (storeName X.env x u) Q E s:=
 oi I hN hi hx r (λs' I' _=>h s' I') hf
def Inv.call'{s':Shared}{ch:List Addr}(I:#[8] H s)(ho:s'.os=s.os)(u:Un (frs X.stack) ch H H' s.heap s'.heap)(hok:HOk X.prog X.w H' s'.heap)(hg:AllBare s'.gens)
 (hch:∀b∈ch,(b∈X.ex∨X.s₀.heap.objs.size<=b)/\b≠X.env.locals/\(∀x c,X.env.cells.lookup x=some c->c≠b)/\∀p∈X.pn++M5,p.1≠b):#[8] H' s':=by
 erw[h',g',d',t',o']at s';let e:o'=s.os:=ho;subst e;exact I.call (g':=g') (t':=t') (d':=d') u hok hg hch
end
abbrev XK:=Value->Option Addr->Hp->Prop
abbrev St:=List (Option V)
abbrev VK:=V->Hp->Prop
abbrev TE:=St->Hp->VK->Prop
abbrev TT:=St->Hp->(Bool->Hp->Prop)->Prop
abbrev TA:=St->Hp->(List V->Hp->Prop)->Prop
structure Ends where
 nx:St->Hp->Prop
 rt:VK
 bk:St->Hp->Prop:=λ_ _=>False
 ct:St->Hp->Prop:=λ_ _=>False
abbrev TS:=Ends->St->Hp->Prop
instance EP(X:Cx)(M5:#[7])(σ:St)(Q:VK)(u:Value)(s':Shared):∀v H',#[8] H' s'->RelV v u->Q v H':=0
instance TP(X:Cx)(M5:#[7])(σ:St)(Q:Bool->Hp->Prop)(b:Bool)(s':Shared):∀H',#[8] H' s'->Q b H':=0
instance AP(X:Cx)(M5:#[7])(σ:St)(Q:List V->Hp->Prop)(us:List Value)(s':Shared):∀vs H',#[8] H' s'->Vals vs us->Q vs H':=0
instance NP(X:Cx)(M5:#[7])(N:St->Hp->Prop)(s':Shared):∀ σ' H',Inv X M5 σ' H' s'->N σ' H':=0
instance RP(X:Cx)(M5:#[7])(Q:VK)(u:Value)(s':Shared):∀v σ' H',Inv X M5 σ' H' s'->RelV v u->Q v H':=0
instance HQ(X:Cx)(M5:#[7])(σ:St)(Q:Hp->Prop)(s':Shared):∀H',#[8] H' s'->Q H':=0
def SP(X:Cx)(M5:#[7])(D:Ends)(f:Flow)(s':Shared):Prop:=
 match f with
 |.next=>NP X M5 D.nx s'
 |.brk=>NP X M5 D.bk s'
 |.cont=>NP X M5 D.ct s'
 |.ret u=>RP X M5 D.rt u s'
def PE(X:Cx)(e:Expr)(t:TE):Prop:=
 ∀(M5:#[7])(s:Shared)(σ:St)(H:Hp)(Q:VK),#[8] H s->t σ H Q->‹X.w› (eval e X.env) (EP X M5 σ Q) X.xe s
def PT(X:Cx)(e:Expr)(t:TT):Prop:=
 ∀(M5:#[7])(s:Shared)(σ:St)(H:Hp)(Q:Bool->Hp->Prop),#[8] H s->t σ H Q->‹X.w› (isTrue e X.env (eval e X.env)) (TP X M5 σ Q) X.xe s
def PW(X:Cx)(e:Expr)(t:TT):Prop:=
 ∀(whole:Sem Value)(M5:#[7])(s:Shared)(σ:St)(H:Hp)(Q:Bool->Hp->Prop),#[8] H s->t σ H Q->‹X.w› (isTrue e X.env whole) (TP X M5 σ Q) X.xe s
def PW.pt(h:PW X e t):PT X e t:=h _
def PA(X:Cx)(es:List Expr)(t:TA):Prop:=
 ∀(pos:Pos)(M5:#[7])(s:Shared)(σ:St)(H:Hp)(Q:List V->Hp->Prop),#[8] H s->t σ H Q->‹X.w› (spliced (backTo pos (starEach es X.env))) (AP X M5 σ Q) X.xe s
def PS(X:Cx)(st:Stmt)(t:TS):Prop:=
 ∀(M5:#[7])(s:Shared)(σ:St)(H:Hp)(D:Ends),#[8] H s->t D σ H->‹X.w› (exec st X.env) (SP X M5 D) X.xe s
def PSs(X:Cx)(st:List Stmt)(t:TS):Prop:=
 ∀(M5:#[7])(s:Shared)(σ:St)(H:Hp)(D:Ends),#[8] H s->t D σ H->‹X.w› (execs st X.env) (SP X M5 D) X.xe s
def thn{α:Type}{t:Sem α}{Q Q':α->Shared->Prop}{M:Model}{A:Around}{E:#[6]}{s:Shared}(h:wpAny M A t Q E s)(hQ:∀a s,Q a s->Q' a s):wpAny M A t Q' E s:=qQ1 h hQ λ_ _ x=>x
section
variable {X:Cx}
instance tVar(i:Nat)(σ:St)(H:Hp)(Q:VK):∀v,σ[i]?=some (some v)->Q v H:=0
def tC(v:V):TE:=λ_ H Q=>Q v H
def HV{i:Nat}{x:Str}{pos:Pos}(hN:X.N[i]?=some x)(hv:Vis X.env.scope x)(hd:(x==("__debug__":Str))=false:=by decide)(hcd:(x==("__classdict__":Str))=false:=by decide):PE X (.Name x pos) (tVar i):=by
 exists 4,Q,I,h;erw[v,e,h]at h;erw[m,hn,hl]at I.loc;let%[u,r|l]:=hl i x v hN e hv;let fin:EP X M5 σ Q u s:=%[v,H,I,r|h]
 rcases l with⟨hk,hm⟩ | ⟨hk,c,hc,hcell⟩
 . exact wpAny_Name (wpAny_loadName_local I.ok.kind hk hn hm fin) hd
 . rcases hk with hk | hk
   . exact wpAny_Name (wpAny_loadName_cell I.ok.kind hk hc hcell fin) hd
   . exact wpAny_Name (wpAny_loadName_free I.ok.kind hk hc hcell fin hcd) hd
def af{i j pos}:PE X (.Constant (.int i) j pos) (tC (.int i)):=λ_ _ _ H _ I h=>wpAny_Constant_int %[.int i,H,I.tok _,%[|0]|h]
def eU{b j pos}:PE X (.Constant (.bool b) j pos) (tC (.bl b)):=λ_ _ _ H _ I h=>Constant_bool %[.bl b,H,I,1|h]
def Dw{j pos}:PE X (.Constant .none j pos) (tC .non):=λ_ _ _ H _ I h=>Constant_none %[.non,H,I,1|h]
def aq{x j pos}:PE X (.Constant (.str x) j pos) (tC (.str x)):=λ_ _ _ H _ I h=>Calls.Constant_str %[.str x,H,I.tok _,%[|0]|h]
def Gl(X:Cx)(x:Str):Prop:=X.env.kindOf x=some .globalImplicit
def pU{E:#[6]}{σ:St}{u:Value}{pos:Pos}{Q:#[6]}(I:#[8] H s)(hg:Gl X x)(hm:X.mg x=some u)(h:Q u s)
 (hd:(x==("__debug__":Str))=false:=by decide):‹X.w› (eval (.Name x pos) X.env) Q E s:=
 Calls.Name_function_global I.ok.kind hg (Calls.loadGlobal_global (by rw[I.ok.glob];exact I.mod.glob.keeps I.bk) hm h) hd
def iO{E:#[6]}{σ:St}{u:Value}{pos:Pos}{Q:#[6]}(I:#[8] H s)(hg:Gl X x)(hm:X.mg x=none)(hv:bootBuiltins x=some u)(h:Q u s)
 (hn:x≠"__name__":=by decide)(hd:(x==("__debug__":Str))=false:=by decide):‹X.w› (eval (.Name x pos) X.env) Q E s:=by
 erw[mb,h1,h2]at I.mod.blt;exact Calls.Name_function_global I.ok.kind hg (Calls.loadGlobal_builtin (by rw[I.ok.glob];exact I.mod.glob.keeps I.bk) hm (by rw[I.ok.blt];exact h1.keeps I.bk) ((h2 x hn).trans hv) h) hd
def dI{u:Value}{pos:Pos}(hg:Gl X x)(hm:X.mg x=some u)(r:RelV v u)(hd:(x==("__debug__":Str))=false:=by decide):PE X (.Name x pos) (tC v):=
 λ_ _ _ H _ I h=>pU I hg hm %[v,H,I,r|h] hd
def pR{u:Value}{pos:Pos}(hg:Gl X x)(hm:X.mg x=none)(hv:bootBuiltins x=some u)(r:RelV v u)(hn:x≠"__name__":=by decide)(hd:(x==("__debug__":Str))=false:=by decide):PE X (.Name x pos) (tC v):=
 λ_ _ _ H _ I h=>iO I hg hm hv %[v,H,I,r|h] hn hd
variable {a b:Expr}{ta tb:TE}{pos:Pos}
instance ZtB(Q:(Bool->Hp->Prop))(x:V)(H1:Hp):∀c,x=.bl c->Q c H1:=0
def tB(t:TE):TT:=λσ H Q=>t σ H λx H1=>ZtB Q x H1
def eD(h:PE X e t)(he:∀whole,isTrue e X.env whole=(do let v ←whole;standAt e.pos;holding [v] (truthy v)):=by intro _;rfl):PT X e (tB t):=by
 exists 4,Q,I,hw;apply isTrue_plain (thn (h M5 s σ H _ I hw) λv s1 ⟨x,H1,I1,r1,q1⟩=>?_) (he _);erw[d,1,q]at q1;cases r1;exact zZ1 %[H1,I1|q]
variable {tA tB':TT}{rest:List Expr}
def tAnd(t u:TT):TT:=λσ H Q=>t σ H λc H1=>if c=true then u σ H1 Q else Q false H1
def tOr(t u:TT):TT:=λσ H Q=>t σ H λc H1=>if c=true then Q true H1 else u σ H1 Q
def tNot(t:TT):TT:=λσ H Q=>t σ H λc H1=>Q (!c) H1
def jD(ha:PT X a tA):PW X (.BoolOp .And [a] pos) tA:=by
 intro wh M5 s σ H Q I h;apply isTrue_and (thn (ha M5 s σ H Q I h) λc s1 e=>?_);cases c with
 |true=>exact isTrue_and_nil e
 |false=>exact e
def dM(ha:PT X a tA):PW X (.BoolOp .Or [a] pos) tA:=by
 intro wh M5 s σ H Q I h;apply isTrue_or (thn (ha M5 s σ H Q I h) λc s1 e=>?_);cases c with
 |false=>exact isTrue_or_nil e
 |true=>exact e
def jE(ha:PT X a tA)(hb:PW X (.BoolOp .And (b::rest) pos) tB'):PW X (.BoolOp .And (a::b::rest) pos) (tAnd tA tB'):=by
 intro wh M5 s σ H Q I h;apply isTrue_and (thn (ha M5 s σ H _ I h) λc s1 ⟨H1,I1,q1⟩=>?_);cases c with
 |true=>exact hb wh M5 s1 σ H1 Q I1 q1
 |false=>erw[H1,I1,q1]
def eC(ha:PT X a tA)(hb:PW X (.BoolOp .Or (b::rest) pos) tB'):PW X (.BoolOp .Or (a::b::rest) pos) (tOr tA tB'):=by
 intro wh M5 s σ H Q I h;apply isTrue_or (thn (ha M5 s σ H _ I h) λc s1 ⟨H1,I1,q1⟩=>?_);cases c with
 |true=>erw[H1,I1,q1]
 |false=>exact hb wh M5 s1 σ H1 Q I1 q1
def gy(ha:PT X a tA):PT X (.UnaryOp .Not a pos) (tNot tA):=by
 exists 4,Q,I,h;exact isTrue_not (thn (ha M5 s σ H (λc H1=>Q (!c) H1) I h) λ_ _ ⟨a,b,c⟩=>%[a,b|c])
instance ZtAndV(tb:TE)(σ:St)(Q:VK)(x:V)(H1:Hp):∀c,x=.bl c->(if c=true then tb σ H1 Q else Q (.bl false) H1):=0
def tAndV(ta tb:TE):TE:=λσ H Q=>ta σ H λx H1=>ZtAndV tb σ Q x H1
instance ZtOrV(tb:TE)(σ:St)(Q:VK)(x:V)(H1:Hp):∀c,x=.bl c->(if c=true then Q (.bl true) H1 else tb σ H1 Q):=0
def tOrV(ta tb:TE):TE:=λσ H Q=>ta σ H λx H1=>ZtOrV tb σ Q x H1
instance ZtNotV(Q:VK)(x:V)(H1:Hp):∀c,x=.bl c->Q (.bl (!c)) H1:=0
def tNotV(ta:TE):TE:=λσ H Q=>ta σ H λx H1=>ZtNotV Q x H1
def uO{op}(h:PE X a t):PE X (.BoolOp op [a] pos) t:=λM5 s σ H Q I hw=>BoolOp_one (h M5 s σ H Q I hw)
def uP(ha:PE X a ta)(hb:PE X (.BoolOp .And (b::rest) pos) tb):PE X (.BoolOp .And (a::b::rest) pos) (tAndV ta tb):=by
 exists 4,Q,I,h;apply BoolOp_and (thn (ha M5 s σ H _ I h) λv s1 ⟨x,H1,I1,r1,q1⟩=>?_);erw[c,1,q1]at q1;cases r1;apply zZ1 ?_;cases c with
 |true=>exact hb M5 s1 σ H1 Q I1 q1
 |false=>erw[.bl false,H1,I1,1,q1]
def pe_or(ha:PE X a ta)(hb:PE X (.BoolOp .Or (b::rest) pos) tb):PE X (.BoolOp .Or (a::b::rest) pos) (tOrV ta tb):=by
 exists 4,Q,I,h;apply BoolOp_or (thn (ha M5 s σ H _ I h) λv s1 ⟨x,H1,I1,r1,q1⟩=>?_);erw[c,1,q1]at q1;cases r1;apply zZ1 ?_;cases c with
 |false=>exact hb M5 s1 σ H1 Q I1 q1
 |true=>erw[.bl true,H1,I1,1,q1]
def Dv(ha:PE X a ta):PE X (.UnaryOp .Not a pos) (tNotV ta):=by
 exists 4,Q,I,h;apply UnaryOp_ (thn (ha M5 s σ H _ I h) λv s1 ⟨x,H1,I1,r1,q1⟩=>?_);erw[c,1,q1]at q1;cases r1;exact not_of (zZ1 %[.bl (!c),H1,I1,1|q1])
def tIf(t:TT)(ta tb:TE):TE:=λσ H Q=>t σ H λc H1=>if c=true then ta σ H1 Q else tb σ H1 Q
def ng(hc:PT X c tA)(ha:PE X a ta)(hb:PE X b tb):PE X (.IfExp c a b pos) (tIf tA ta tb):=by
 exists 4,Q,I,h;apply wpAny_IfExp (thn (hc M5 s σ H _ I h) λd s1 ⟨H1,I1,q1⟩=>?_);cases d with
 |true=>exact ha M5 s1 σ H1 Q I1 q1
 |false=>exact hb M5 s1 σ H1 Q I1 q1
end
def SqL(K:W.Frag)(H:Hp)(a:Addr)(xs:List V):Prop:=
 Rd H a (.lst xs)∨
  ∃(o:Obj) (its:Array Value) (n:Nat),K.lookup a=some o/\o.cls=.type "list"/\o.dict=none/\o.data=.seq its n/\its.size<=sizeLine/\Vals xs its.toList
def SqT(K:W.Frag)(H:Hp)(a:Addr)(xs:List V):Prop:=
 Rd H a (.tup xs)∨
  ∃(o:Obj) (its:Array Value) (n:Nat),K.lookup a=some o/\o.cls=.type "tuple"/\o.data=.seq its n/\its.size<=sizeLine/\Vals xs its.toList
def absV:Value->Option V
 |.none=>some .non
 |.bool b=>some (.bl b)
 |.int i _=>some (.int i)
 |.str x _=>some (.str x)
 |.bytes b _=>some (.byt b)
 |.float b _=>some (.flt b)
 |.ref a=>some (.ref a)
 |.type n=>some (.ty n)
 |_=>none
def RelV.abs(r:RelV x u):absV u=some x:=by
 cases x with
 |non=>cases r;rfl
 |bl _=>cases r;rfl
 |int _=>erw[t,1]at r;rfl
 |str _=>erw[t,1]at r;rfl
 |byt _=>erw[t,1]at r;rfl
 |flt _=>erw[t,1]at r;rfl
 |ref _=>cases r;rfl
 |ty _=>cases r;rfl
def RelV.inj(r:RelV x u)(q:RelV y u):x=y:=zO0 (r.abs.symm.trans q.abs)
def Vals.inj:∀{xs ys:List V}{us:List Value},Vals xs us->Vals ys us->xs=ys
 |_,_,_,.nil,.nil=>rfl
 |_,_,_,.cons r t,.cons r' t'=>by rw[r.inj r',Vals.inj t t']
section
variable {X:Cx}{M5:#[7]}{σ:St}{H:Hp}{s:Shared}{a:Addr}{xs ys:List V}
def zG0{K:W.Frag}(h:H a=some (.lst xs)):SqL K H a xs:=.inl (.inl h)
abbrev SqL.of:=@zG0
def zA0{K:W.Frag}(h:H a=some (.tup xs)):SqT K H a xs:=.inl (.inl h)
abbrev SqT.of:=@zA0
def Inv.list(I:#[8] H s)(h:SqL X.K H a xs):∃its:List Value,Vals xs its/\PlainL s.heap a its.toArray/\xs.length<=sizeLine:=by
 rcases h with h | ⟨o,its,n,hk,hc,hd,hs,hz,r⟩
 . let%[z,its,n,r|e]:=h.ok I.hok;erw[its,r,%[_,n,e,1,1|1],z]
 . erw[its.toList,r,%[o,n,I.kIn a o hk,hc,hd|by simpa using hs],6];let e:=r.length;simp only[zW1]at e;omega
def Inv.tuple(I:#[8] H s)(h:SqT X.K H a xs):∃its:List Value,Vals xs its/\IsTup s.heap a its.toArray/\xs.length<=sizeLine:=by
 rcases h with h | ⟨o,its,n,hk,hc,hs,hz,r⟩
 . let%[z,its,r,p|_]:=h.ok I.hok;erw[its,r,p,z]
 . erw[its.toList,r,%[o,I.kIn a o hk,hc,n|by simpa using hs],6];let e:=r.length;simp only[zW1]at e;omega
def Inv.list_inj(I:#[8] H s)(h:SqL X.K H a xs)(h':SqL X.K H a ys):xs=ys:=by
 let%[its,r,%[o,n,e,_,_|d]|_]:=I.list h;let%[its',r',%[o',n',e',_,_|d']|_]:=I.list h';rw[e]at e';cases e';rw[d]at d';injection d' with d1 _
 have:its=its':=#[congrArg Array.toList d1,0]
 subst this;exact r.inj r'
def Inv.tuple_inj(I:#[8] H s)(h:SqT X.K H a xs)(h':SqT X.K H a ys):xs=ys:=by
 let%[its,r,%[o,e,_,n|d]|_]:=I.tuple h;let%[its',r',%[o',e',_,n'|d']|_]:=I.tuple h';rw[e]at e';cases e';rw[d]at d';injection d' with d1 _
 have:its=its':=#[congrArg Array.toList d1,0]
 subst this;exact r.inj r'
end
abbrev Cx.wish(X:Cx)(E:#[6]):Cx:={ X with xe:=E }
abbrev Cx.nox(X:Cx):Cx:=X.wish λ_ _=>False
def Cx.Ok.wish{X:Cx}(ok:X.Ok)(E:#[6]):(X.wish E).Ok:=
 %[ok.mod,ok.kind,ok.glob,ok.blt,ok.above,ok.inj,ok.has,ok.cab,ok.hd,ok.frames,ok.stk,ok.exf,ok.bs,ok.bsz,ok.noex,ok.exfs,ok.funs|ok.frf]
def Cx.Ok.unwish{X:Cx}{E:#[6]}(ok:(X.wish E).Ok):X.Ok:=
 %[ok.mod,ok.kind,ok.glob,ok.blt,ok.above,ok.inj,ok.has,ok.cab,ok.hd,ok.frames,ok.stk,ok.exf,ok.bs,ok.bsz,ok.noex,ok.exfs,ok.funs|ok.frf]
section
variable {X:Cx}{M5:#[7]}{σ:St}{H:Hp}{s:Shared}{E:#[6]}
def Inv.wish(I:#[8] H s)(E:#[6]):Inv (X.wish E) M5 σ H s:=%[I.ok.wish E,I.os,I.bare,I.base,I.loc,I.cell,I.free,I.freeC,I.pin,I.hok|I.len]
def Inv.unwish(I:Inv (X.wish E) M5 σ H s):#[8] H s:=%[I.ok.unwish,I.os,I.bare,I.base,I.loc,I.cell,I.free,I.freeC,I.pin,I.hok|I.len]
def SP.unwish(h:SP (X.wish E) M5 D f s'):SP X M5 D f s':=by
 cases f with
 |next=>erw[σ',H',I,q]at h;erw[σ',H',I.unwish,q]
 |brk=>erw[σ',H',I,q]at h;erw[σ',H',I.unwish,q]
 |cont=>erw[σ',H',I,q]at h;erw[σ',H',I.unwish,q]
 |ret u=>erw[v,σ',H',I,r,q]at h;erw[v,σ',H',I.unwish,r,q]
def PSs.nox{st:List Stmt}(h:PSs X.nox st t):PSs X st t:=λM5 s σ H D I hw=>
 qQ1 (h M5 s σ H D (I.wish _) hw) (λ_ _ q=>q.unwish) λ_ _ z=>False.elim z
end
section
variable {X:Cx}{st:Stmt}{rest:List Stmt}{t u:TS}{e:Expr}{te:TE}{pos:Pos}
def tNext:TS:=λD σ H=>D.nx σ H
def tSeq(t u:TS):TS:=λD σ H=>t { D with nx:=u D } σ H
def aB:PSs X [] tNext:=λ_ _ σ H _ I h=>jO1 %[σ,H,I|h]
def aa(h1:PS X st t)(h2:PSs X rest u):PSs X (st::rest) (tSeq t u):=by
 exists 4,D,I,h;apply wpAny_execs_cons (thn (h1 M5 s σ H { D with nx:=u D } I h) λf s1 q=>?_);cases f with
 |next=>
   erw[σ',H',I',q]at q;exact h2 M5 s1 σ' H' D I' q
 |ret v=>exact q
 |brk=>exact q
 |cont=>exact q
def ae(h1:PS X st t):PSs X [st] t:=by
 exists 4,D,I,h;apply wpAny_execs_cons (thn (h1 M5 s σ H D I h) λf s1 q=>?_);cases f with
 |next=>exact jO1 q
 |ret v=>exact q
 |brk=>exact q
 |cont=>exact q
def Inv.quiet{σ:St}(I:#[8] H s):interactive X.env=false:=by simp [interactive,I.ok.kind]
def tDrop(te:TE):TS:=λD σ H=>te σ H λ_ H1=>D.nx σ H1
def aW(he:PE X e te)(hs:swapsWith e none pos.line X.env=pure false:=by rfl):PS X (.Expr e pos) (tDrop te):=by
 exists 4,D,I,h;exact wpAny_Expr_any (thn (he M5 s σ H _ I h) λv s1 ⟨x,H1,I1,r1,q1⟩=>%[σ,H1,I1|q1]) I.quiet hs
def tRet(te:TE):TS:=λD σ H=>te σ H D.rt
def ay(he:PE X e te):PS X (.Return (some e) pos) (tRet te):=by
 exists 4,D,I,h;exact wpAny_Return_some (thn (he M5 s σ H _ I h) λv s1 ⟨x,H1,I1,r1,q1⟩=>%[x,σ,H1,I1,r1|q1])
def tIfS(c:TT)(t u:TS):TS:=λD σ H=>c σ H λb H1=>if b=true then t D σ H1 else u D σ H1
def aJ(hc:PT X c tc)(ha:PSs X a t)(hb:PSs X b u):PS X (.If c a b pos) (tIfS tc t u):=by
 exists 4,D,I,h;apply wpAny_If (thn (hc M5 s σ H _ I h) λd s1 ⟨H1,I1,q1⟩=>?_);cases d with
 |true=>exact ha M5 s1 σ H1 D I1 q1
 |false=>exact hb M5 s1 σ H1 D I1 q1
def Ct:TS:=λ_ _ _=>False
def vV:PS X st Ct:=λ_ _ _ _ _ _ h=>h.elim
def bO:PSs X sts Ct:=λ_ _ _ _ _ _ h=>h.elim
end
abbrev TG:=V->St->Hp->(St->Hp->Prop)->Prop
abbrev TGs:=List V->St->Hp->(St->Hp->Prop)->Prop
def PG(X:Cx)(target:Expr)(t:TG):Prop:=
 ∀(M5:#[7])(s:Shared)(σ:St)(H:Hp)(v:V)(u:Value)(Q:St->Hp->Prop),#[8] H s->RelV v u->t v σ H Q ->
  ‹X.w› (assign target X.env u) (λ_ s'=>NP X M5 Q s') X.xe s
def PGs(X:Cx)(ts:List Expr)(t:TGs):Prop:=
 ∀(M5:#[7])(s:Shared)(σ:St)(H:Hp)(vs:List V)(us:List Value)(Q:St->Hp->Prop),#[8] H s->Vals vs us->t vs σ H Q ->
  ‹X.w› (assignInOrder ((assignEach ts X.env).map (·.2)) us) (λ_ s'=>NP X M5 Q s') X.xe s
abbrev Ji:=V->V->V->Hp->(Hp->Prop)->Prop
def PSet(X:Cx)(t:Ji):Prop:=
 ∀(M5:#[7])(s:Shared)(σ:St)(H:Hp)(o i v:V)(ov iv u:Value)(Q:Hp->Prop),#[8] H s->RelV o ov->RelV i iv->RelV v u->t o i v H Q ->
  ‹X.w› (setItem ov iv u) (λ_ s'=>HQ X M5 σ Q s') X.xe s
section
variable {X:Cx}{pos:Pos}
def zJ(i:Nat):TG:=λv σ H Q=>Q (σ.set i (some v)) H
def aU{i:Nat}{x:Str}(hN:X.N.Nodup)(hi:X.N[i]?=some x)(hx:Loc X.env.scope x)(hf:X.fn x=true∨X.env.scope.names.lookup x=some .local:=by first | exact .inl rfl | exact .inr rfl | assumption):PG X (.Name x pos) (zJ i):=by
 exists 4,v,u,Q,I,r,h;exact wR1 (vM I hN hi hx r (λs' I'=>%[_,H,I'|h]) hf)
instance gNil(vs:List V)(σ:St)(H:Hp)(Q:(St->Hp->Prop)):vs=[]->Q σ H:=0
instance gCons(t:TG)(u:TGs)(vs:List V)(σ:St)(H:Hp)(Q:(St->Hp->Prop)):∀v r,vs=v::r->(t v σ H λσ' H'=>u r σ' H' Q):=0
def gI:PGs X [] gNil:=by
 exists 4,vs,us,Q,I,r,h;erw[e,h]at h;subst e;cases r;exact assignInOrder_nil %[σ,H,I|h]
def bX(h1:PG X e t)(h2:PGs X es u)
 (hs:(assignEach (e::es) X.env).map (·.2)=assign e X.env::(assignEach es X.env).map (·.2):=by rfl):PGs X (e::es) (gCons t u):=by
 exists 4,vs,us,Q,I,r,h;erw[v,vr,e1,h]at h;subst e1;cases r with
 |cons r rr=>
   rw[hs];apply assignInOrder_cons (thn (h1 M5 s σ H _ _ _ I r h) λ_ s1 ⟨σ1,H1,I1,q1⟩=>?_);exact h2 M5 s1 σ1 H1 _ _ Q I1 rr q1
instance gTup(K:W.Frag)(n:Nat)(t:TGs)(v:V)(σ:St)(H:Hp)(Q:(St->Hp->Prop)):∀a xs,v=.ref a->SqT K H a xs->xs.length=n->t xs σ H Q:=0
def iN{k:Nat}{n:Nat}(hc:X.calm=true)(h:PGs X es t)
 (hn:(assignEach es X.env).length=n:=by rfl)(Na:(assignEach es X.env).findIdx? (·.1)=none:=by rfl):PG X (.Tuple es k pos) (gTup X.K n t):=by
 exists 4,v,u,Q,I,r,hw;erw[a,xs,e1,hq,hl,hw]at hw;subst e1;cases r;let%[its,rv,ht|hz]:=I.tuple hq;apply assign_Tuple_tuple (I.ok.hd hc) ht (by simp [hn,←hl,rv.length]) Na λh' hx=>?_
 let I1:#[8] H { s with heap:=h' }:=I.kept (t':=s.toks) λb o e=>hx b o (qA0 (zQ0 e)) e
 exact h M5 _ σ H xs _ Q I1 #[rv,0] hw
def gSub(to ti:TE)(t:Ji):TG:=λv σ H Q=>to σ H λo H1=>ti σ H1 λi H2=>t o i v H2 λH3=>Q σ H3
def yh(ho:PE X o to)(hi:PE X i ti)(hs:PSet X t)
 (ha:∀v,assign (.Subscript o i pos) X.env v=(do
  let ov ←holding [v] (eval o X.env)
  let iv ←holding [v,ov] (eval i X.env)
  standAt pos
  holding [v,ov,iv] (setItem ov iv v)
  release [v,ov,iv] []):=by intro _;rfl):PG X (.Subscript o i pos) (gSub to ti t):=by
 exists 4,v,u,Q,I,r,h;rw[ha];apply zE0 (jA1 (thn (ho M5 s σ H _ I h) λov s1 ⟨x,H1,I1,r1,q1⟩=>?_));apply zE0 (jA1 (thn (hi M5 s1 σ H1 _ I1 q1) λiv s2 ⟨y,H2,I2,r2,q2⟩=>?_));apply zE0 (wU1 (zE0 (jA1 (thn (hs M5 s2 σ H2 x y v ov iv u _ I2 r1 r2 r q2) λ_ s3 ⟨H3,I3,q3⟩=>?_))));exact wpAny_release %[σ,H3,I3|q3]
def Fp(te:TE)(g:TG):TS:=λD σ H=>te σ H λx H1=>g x σ H1 D.nx
def oF(he:PE X e te)(hg:PG X tg g)(hs:swapsWithSole [tg] e pos.line X.env=pure false:=by rfl)(hw:swappedStores [tg] e X.env=pure none:=by rfl)
 (h1:(assignEach [tg] X.env).map (·.2)=[assign tg X.env]:=by rfl):PS X (.Assign [tg] e pos) (Fp te g):=by
 exists 4,D,I,h;apply wpAny_Assign_stores (thn (he M5 s σ H _ I h) λv s1 ⟨x,H1,I1,r1,q1⟩=>?_) hs hw;rw[h1];exact thn (hg M5 s1 σ H1 x v _ I1 r1 q1) λ_ s2 q=>q
def aj{i:Nat}{x:Str}{pos':Pos}(hN:X.N.Nodup)(hi:X.N[i]?=some x)(hx:Loc X.env.scope x)(he:PE X e te)(hs:swapsWith e (some (.Name x pos')) pos.line X.env=pure false:=by rfl)(hf:X.fn x=true∨X.env.scope.names.lookup x=some .local:=by first | exact .inl rfl | exact .inr rfl | assumption):
 PS X (.Assign [.Name x pos'] e pos) (Fp te (zJ i)):=by
 exists 4,D,I,h;apply wpAny_Assign_Name (thn (he M5 s σ H _ I h) λv s1 ⟨y,H1,I1,r1,q1⟩=>?_) hs;exact vM I1 hN hi hx r1 (λs2 I2=>%[_,H1,I2|q1]) hf
end
section
variable {X:Cx}{pos:Pos}
def Cs(c:TT)(tb:TS):TS:=λD σ H=>∃W:Nat->St->Hp->Prop,(∃m,W m σ H)/\∀m σ H,W m σ H ->
 c σ H λb H1=>if b=true then ∃N:St->Hp->Prop,(∀ σ' H',N σ' H'->∃m',m'<m/\W m' σ' H')/\tb { D with nx:=N,ct:=N,bk:=D.nx } σ H1 else D.nx σ H1
def iY(hp:PassesOwn (model X.prog X.w) X.A X.env X.xe)(hc:PT X c tc)(hb:PSs X body tb):PS X (.While c body [] pos) (Cs tc tb):=by
 exists 4,D,I,h;erw[W,%[m0|w0],turn]at h;apply wpAny_While (codeAny_whileLoop (λn s'=>NP X M5 (W n) s') ?_ m0 %[σ,H,I|w0]);rintro n s1 ⟨σ1,H1,I1,w1⟩;apply qY0 hp (thn (hc M5 s1 σ1 H1 _ I1 (turn n σ1 H1 w1)) λb s2 ⟨H2,I2,q2⟩=>?_);cases b with
 |true=>
   erw[N,hN,q2]at q2;rw[M8 rfl];apply qY0 hp (thn (hb M5 s2 σ1 H2 _ I2 q2) λf s3 q3=>?_);cases f with
   |next=>
     erw[σ3,H3,I3,n3]at q3;let%[m',hm|w3]:=hN σ3 H3 n3;erw[m',hm,σ3,H3,I3,w3]
   |cont=>
     erw[σ3,H3,I3,n3]at q3;let%[m',hm|w3]:=hN σ3 H3 n3;erw[m',hm,σ3,H3,I3,w3]
   |brk=>exact q3
   |ret v=>exact q3
 |false=>
   rw[M6 qJ0];exact jO1 %[σ1,H2,I2|q2]
end
structure It where
 go:Nat->Hp->Prop
 yld:Nat->Hp->V->Hp->Prop
 stop:Nat->Hp->Prop
def iQ(X:Cx)(M5:#[7])(H:Hp)(b:Addr):Prop:=
 H b=none/\b≠X.env.locals/\b∉X.fs/\(b∈X.ex∨X.s₀.heap.objs.size<=b)/\(∀x c,X.env.cells.lookup x=some c->c≠b)/\∀p∈X.pn++M5,p.1≠b
def Inv.fpOk{σ:St}{H':Hp}{b:Addr}(I:#[8] H s)(hb:‹s›<=b)(hn:H' b=none):iQ X M5 H' b:=by
 erw[hn,wK1 (qN0 I.lt hb),I.nofs hb,.inr (zT0 I.sz hb),λx c e z=>?_,λp hp z=>?_]
 . let%[v|q]:=I.cell x c e;exact absurd (qN0 q.lt (by rw[z];exact hb)) (qS0 _)
 . exact absurd (qN0 (zQ0 (I.pin p hp).1) (by rw[z];exact hb)) (qS0 _)
structure Turn(P:Program)(w:World)(K:W.Frag)(tg:Expr)(J:It)(fp:List Addr)(it:Addr)(tn:Nat->Heap->Prop):Prop where
 mem:it∈fp
 obj:∀i h,tn i h->∀b∈fp,∃o,h.get? b=some o/\∀v,o.data≠.cell v
 keep:∀i h h',tn i h->(∀b∈fp,∀o,h.get? b=some o->h'.get? b=some o)->tn i h'
 item:∀(X:Cx),X.prog=P->X.w=w->X.K=K->X.calm=true->∀(i:Nat)(M5:#[7])(s:Shared)(σ:St)(H:Hp)(E:#[6]),#[8] H s->(∀b∈fp,iQ X M5 H b)->tn i s.heap->J.go i H ->
  wpAny (model P w) X.A (pyNext (.ref it)) (λr s1=>∃u,r=some u/\
   wpAny (model P w) X.A (letOwnedTupleGo tg (.ref it) u) (λ_ s2=>∃x H',#[8] H' s2/\RelV x u/\J.yld i H x H'/\tn (i+1) s2.heap/\∀b∈fp,H' b=none) E s1) E s
 done:∀(X:Cx),X.prog=P->X.w=w->X.K=K->X.calm=true->∀(i:Nat)(M5:#[7])(s:Shared)(σ:St)(H:Hp)(E:#[6]),#[8] H s->(∀b∈fp,iQ X M5 H b)->tn i s.heap->J.stop i H ->
  wpAny (model P w) X.A (pyNext (.ref it)) (λr s1=>r=none/\#[8] H s1) E s
 self:∀(A:Around)(i:Nat)(s:Shared)(Q:#[6])(E:#[6]),tn i s.heap->Q (.ref it) s->wpAny (model P w) A (pyIter (.ref it)) Q E s
abbrev TI:=St->Hp->(It->Hp->Prop)->Prop
def PIE(X:Cx)(M5:#[7])(σ:St)(tg:Expr)(R:It->Hp->Prop)(itv:Value)(s2:Shared):Prop:=
 ∃(it:Addr)(fp:List Addr)(tn:Nat->Heap->Prop)(J:It)(H':Hp),itv=.ref it/\#[8] H' s2/\Turn X.prog X.w X.K tg J fp it tn/\tn 0 s2.heap/\(∀b∈fp,iQ X M5 H' b)/\R J H'
def PI(X:Cx)(tg iter:Expr)(wi:TI):Prop:=
 ∀(M5:#[7])(s:Shared)(σ:St)(H:Hp)(R:It->Hp->Prop),#[8] H s->wi σ H R ->
  ‹X.w› (eval iter X.env) (λv s1=>‹X.w› (pyIter v) (PIE X M5 σ tg R) X.xe s1) X.xe s
def wN{M:Model}{A:Around}{E:#[6]}{s:Shared}{tg:Expr}{it:Addr}{u:Value}{o:Obj}{n:String}{vs:Array Value}{Q:Unit->Shared->Prop}(ho:s.heap.get? it=some o)(hc:o.cls=.type n)(hd:o.data=.fields vs)
 (hn:["enumerate","zip","dict_itemiterator","dict_reverseitemiterator","odict_iterator","itertools.zip_longest","itertools.pairwise"].contains n=false)(hQ:Q () s):wpAny M A (letOwnedTupleGo tg (.ref it) u) Q E s:=by
 unfold letOwnedTupleGo;cases tg <;> first
  |exact zI0 hQ
  | (cases u <;> first
   |exact zI0 hQ
   | (apply zE0 (wpAny_load ho ?_)
      rw[hc,hd];show wpAny M A (if(["enumerate","zip","dict_itemiterator","dict_reverseitemiterator","odict_iterator","itertools.zip_longest","itertools.pairwise"].contains n&&vs[0]?==some (rawInt _))=true then _ else _) Q E s;rw[M6 (by intro h;rw[hn,Bool.false_and]at h;cases h)];exact zI0 hQ))
def Itl(K:W.Frag)(a:Addr):It:=
 ⟨λi H=>∃xs x,SqL K H a xs/\xs[i]?=some x,λi H x H'=>H'=H/\∀xs,SqL K H a xs->xs[i]?=some x,λi H=>∃xs,SqL K H a xs/\xs.length<=i⟩
def Itt(K:W.Frag)(a:Addr):It:=
 ⟨λi H=>∃xs x,SqT K H a xs/\xs[i]?=some x,λi H x H'=>H'=H/\∀xs,SqT K H a xs->xs[i]?=some x,λi H=>∃xs,SqT K H a xs/\xs.length<=i⟩
def Itr(lo:Int)(n:Nat):It:=%[λi _=>i<n,λi H x H'=>H'=H/\x=.int (lo+i)|λi _=>n<=i]
def sS{K:W.Frag}(a it:Addr):Turn P w K tg (Itl K a) [it] it (λi h=>h.IsListIter it a i) where
 mem:=by simp
 obj:=λi h st b hb=>by
  let e:b=it:=#[hb,0]
  subst e;erw[o,e,c,d]at st;erw[o,e,λv z=>by rw[d]at z;cases z]
 keep:=λi h h' st k=>st.at λo e=>k it #[2] o e
 item:=by
  exists 5;erw[xs,x,hq,hx]at hg;let%[its,rv,p|hz]:=I.list hq;let%[u,hu|ru]:=rv.get hx;let%[f0,f1,f2,f3,f4|f5]:=hf it #[2];apply wpAny_pyNext_list_item st p.isList (x:=u) #[hu,0] λh' st' sb=>?_
  let I1:#[8] H { s with heap:=h' }:=I.turned (t':=s.toks) (λb o hb e=>(sb.2 b hb).trans e) f0 f1 f3 f4 f5;let%[o,e,c|d]:=id st';erw[u,1,wN (s:={ s with heap:=h' }) e c d ⋯ ⟨x,H,I1,ru,⟨rfl,λys hy=>by rw[I.list_inj hy hq];exact hx⟩,st',λb hb=>(hf b hb).1⟩]
 done:=by
  exists 5;erw[xs,hq,hx]at hg;let%[its,rv,p|hz]:=I.list hq;let%[f0,f1,f2,f3,f4|f5]:=hf it #[2];let hl:=rv.length;exact wpAny_pyNext_list_end (I.ok.hd hc) st p.isList (by simp;omega) λh' eb=>%[1|I.turned (t':=s.toks) (λb o hb e=>eb b o hb e) f0 f1 f3 f4 f5]
 self:=λ_ _ _ _ _ st h=>wpAny_pyIter_listiter st h
def qe{K:W.Frag}(a it:Addr):Turn P w K tg (Itt K a) [it] it (λi h=>h.IsTupleIter it a i) where
 mem:=by simp
 obj:=λi h st b hb=>by
  let e:b=it:=#[hb,0]
  subst e;erw[o,e,c,d]at st;erw[o,e,λv z=>by rw[d]at z;cases z]
 keep:=λi h h' st k=>st.at λo e=>k it #[2] o e
 item:=by
  exists 5;erw[xs,x,hq,hx]at hg;let%[its,rv,p|hz]:=I.tuple hq;let%[u,hu|ru]:=rv.get hx;let%[f0,f1,f2,f3,f4|f5]:=hf it #[2];apply wpAny_pyNext_tuple_item st (show s.heap.IsTuple a its.toArray from p) (x:=u) #[hu,0] λh' st' sb=>?_
  let I1:#[8] H { s with heap:=h' }:=I.turned (t':=s.toks) (λb o hb e=>(sb.2 b hb).trans e) f0 f1 f3 f4 f5;let%[o,e,c|d]:=id st';erw[u,1,wN (s:={ s with heap:=h' }) e c d ⋯ ⟨x,H,I1,ru,⟨rfl,λys hy=>by rw[I.tuple_inj hy hq];exact hx⟩,st',λb hb=>(hf b hb).1⟩]
 done:=by
  exists 5;erw[xs,hq,hx]at hg;let%[its,rv,p|hz]:=I.tuple hq;let%[f0,f1,f2,f3,f4|f5]:=hf it #[2];let hl:=rv.length;exact wpAny_pyNext_tuple_end (I.ok.hd hc) st (show s.heap.IsTuple a its.toArray from p) (by simp;omega) λh' eb=>%[1|I.turned (t':=s.toks) (λb o hb e=>eb b o hb e) f0 f1 f3 f4 f5]
 self:=λ_ _ _ _ _ st h=>wpAny_pyIter_tupleiter st h
def xC{K:W.Frag}(it:Addr)(lo:Int)(n:Nat):Turn P w K tg (Itr lo n) [it] it (λi h=>IsRangeIter h it (lo+(i:Nat)*1) ((n:Int)-(i:Nat)) 1) where
 mem:=by simp
 obj:=λi h st b hb=>by
  let e:b=it:=#[hb,0]
  subst e;exact⟨_,st,λv z=>by
   let z':Data.fields _=Data.cell v:=z;cases z'⟩
 keep:=λi h h' st k=>k it #[2] _ st
 item:=by
  exists 5;let%[f0,f1,f2,f3,f4|f5]:=hf it #[2];let W:=Walks.range (prog:=X.prog) (w:=X.w) (I.ok.hd hc) it lo 1 n;apply W.item i s _ _ hg st λv h' tk hv st' kk=>?_
  erw[t,1]at hv;let I1:#[8] H { s with heap:=h',toks:=tk }:=I.turned (λb o hb e=>kk b o #[hb,0] e) f0 f1 f3 f4 f5;erw[0,wN (s:={ s with heap:=h',toks:=tk }) (n:="range_iterator") st' rfl rfl ⋯ ⟨.int (lo+i),H,I1,⟨t,?_⟩,⟨rfl,rfl⟩,st',λb hb=>(hf b hb).1⟩];rw[wV0]
 done:=by
  exists 5;let%[f0,f1,f2,f3,f4|f5]:=hf it #[2];exact wpAny_pyNext_range_end (I.ok.hd hc) st (by have:n<=i:=hg;omega) λh' eb=>%[1|I.turned (t':=s.toks) (λb o hb e=>eb b o hb e) f0 f1 f3 f4 f5]
 self:=λ_ _ _ _ _ st h=>wpAny_pyIter_rangeiter st h
section
variable {X:Cx}{tg:Expr}
instance ZiList(K:W.Frag)(R:(It->Hp->Prop))(x:V)(H1:Hp):∀a,x=.ref a->(∃xs,SqL K H1 a xs)->R (Itl K a) H1:=0
def iList(K:W.Frag)(tl:TE):TI:=λσ H R=>tl σ H λx H1=>ZiList K R x H1
instance ZiTup(K:W.Frag)(R:(It->Hp->Prop))(x:V)(H1:Hp):∀a,x=.ref a->(∃xs,SqT K H1 a xs)->R (Itt K a) H1:=0
def iTup(K:W.Frag)(tl:TE):TI:=λσ H R=>tl σ H λx H1=>ZiTup K R x H1
def dR(hl:PE X l tl):PI X tg l (iList X.K tl):=by
 exists 4,R,I,h;apply thn (hl M5 s σ H _ I h) λv s1 ⟨x,H1,I1,r1,q1⟩=>?_
 erw[a,e,%[xs|hq],q]at q1;subst e;cases r1;let%[its,rv,p|hz]:=I1.list hq;apply jI0 p.isList ?_;erw[‹s1›,[‹s1›],_,_,H1,1,I1.kept (t':=s1.toks) λb o e=>zS0 _ e,sS a _,%[_,qE0 _ rfl,1|1],λb hb=>?_,q];let e:b=‹s1›:=#[hb,0]
 subst e;exact I1.fpOk (zH0 _) (I1.hok.fresh (zH0 _))
def eF(hl:PE X l tl):PI X tg l (iTup X.K tl):=by
 exists 4,R,I,h;apply thn (hl M5 s σ H _ I h) λv s1 ⟨x,H1,I1,r1,q1⟩=>?_
 erw[a,e,%[xs|hq],q]at q1;subst e;cases r1;let%[its,rv,p|hz]:=I1.tuple hq;apply jE1 (show s1.heap.IsTuple a its.toArray from p) ?_;erw[‹s1›,[‹s1›],_,_,H1,1,I1.kept (t':=s1.toks) λb o e=>zS0 _ e,qe a _,%[_,qE0 _ rfl,1|1],λb hb=>?_,q];let e:b=‹s1›:=#[hb,0]
 subst e;exact I1.fpOk (zH0 _) (I1.hok.fresh (zH0 _))
def vT{σ:St}{R:It->Hp->Prop}{E:#[6]}{lo hi:Int}{t u v:Tok}{tk:Nat}(I:#[8] H s)(h1:-(2 ^ 62)<=lo)(h2:lo<2 ^ 62)(h3:-(2 ^ 62)<=hi)(h4:hi<2 ^ 62)
 (q:R (Itr lo (hi-lo).toNat) H):‹X.w› (pyIter (.ref ‹s›)) (PIE X M5 σ tg R) E { s with heap:=s.heap.push { cls:=.type "range",data:=.fields #[.int lo t,.int hi u,.int 1 v] },toks:=tk }:=by
 apply wpAny_pyIter_range (IsRange.new ..) (small_one h1 h2 h3 h4) ?_;let I1:#[8] H { s with heap:=s.heap.push { cls:=.type "range",data:=.fields #[.int lo t,.int hi u,.int 1 v] },toks:=tk }:=I.kept λb o e=>zS0 _ e
 erw[(s.heap.push { cls:=.type "range",data:=.fields #[.int lo t,.int hi u,.int 1 v] }).objs.size,[(s.heap.push { cls:=.type "range",data:=.fields #[.int lo t,.int hi u,.int 1 v] }).objs.size],_,_,H,1,I1.kept (t':=tk) λb o e=>zS0 _ e,xC _ lo (hi-lo).toNat,6,λb hb=>?_,q]
 . let e1:lo+((0:Nat):Int)*1=lo:=by simp
   let e2:(((hi-lo).toNat:Nat):Int)-((0:Nat):Int)=Builtin.Range.rangeSize lo hi 1:=by rw[rangeSize_one];split <;> omega
   show IsRangeIter _ _ (lo+((0:Nat):Int)*1) ((((hi-lo).toNat:Nat):Int)-((0:Nat):Int)) 1;rw[e1,e2];exact qE0 _ rfl
 . let e:b=(s.heap.push { cls:=.type "range",data:=.fields #[.int lo t,.int hi u,.int 1 v] }).objs.size:=#[hb,0]
   subst e;exact I1.fpOk (zH0 _) (I1.hok.fresh (zH0 _))
instance ZiRng1(R:(It->Hp->Prop))(vs:(List V))(H1:Hp):∀j:Int,vs=[.int j]->-(2 ^ 62)<=j->j<2 ^ 62->R (Itr 0 j.toNat) H1:=0
def iRng1(ta:TA):TI:=λσ H R=>ta σ H λvs H1=>ZiRng1 R vs H1
instance ZiRng2(R:(It->Hp->Prop))(vs:(List V))(H1:Hp):∀i j:Int,vs=[.int i,.int j]->-(2 ^ 62)<=i/\i<2 ^ 62/\-(2 ^ 62)<=j/\j<2 ^ 62->R (Itr i (j-i).toNat) H1:=0
def iRng2(ta:TA):TI:=λσ H R=>ta σ H λvs H1=>ZiRng2 R vs H1
def cr{a:Expr}{p pos:Pos}(hg:Gl X "range")(hm:X.mg "range"=none)(ha:PA X [a] ta)(hs:starEach [a] X.env=[(false,eval a X.env)]:=by rfl):PI X tg (.Call (.Name "range" p) [a] [] pos) (iRng1 ta):=by
 exists 4,R,I,h;apply Call_ (iO I hg hm boot_range (zO1 (thn (ha pos M5 s σ H _ I h) λus s1 ⟨vs,H1,I1,r1,q1⟩=>?_) hs rfl));erw[j,e,q1,q2,q]at q1;subst e;cases r1 with
 |cons r rr=>
   cases rr;erw[t,1]at r;exact call_range_1 (vT I1 #[0] #[0] q1 q2 #[q,0])
def AJ{a b:Expr}{p pos:Pos}(hg:Gl X "range")(hm:X.mg "range"=none)(ha:PA X [a,b] ta)(hs:starEach [a,b] X.env=[(false,eval a X.env),(false,eval b X.env)]:=by rfl)(hs2:starEach [b] X.env=[(false,eval b X.env)]:=by rfl):
 PI X tg (.Call (.Name "range" p) [a,b] [] pos) (iRng2 ta):=by
 exists 4,R,I,h;apply Call_ (iO I hg hm boot_range (zO1 (thn (ha pos M5 s σ H _ I h) λus s1 ⟨vs,H1,I1,r1,q1⟩=>?_) (by rw[hs,hs2]) (by rw[hs2];rfl)));erw[i,j,e,%[q1,q2,q3|q4],q]at q1;subst e;cases r1 with
 |cons r rr=>
   cases rr with
   |cons r' rr=>
     cases rr;erw[t,1]at r;erw[t',1]at r';exact call_range_2 (vT I1 q1 q2 q3 q4 q)
def tFor(wi:TI)(g:TG)(tb:TS):TS:=λD σ H=>wi σ H λJ H1=>∃W:Nat->Nat->St->Hp->Prop,(∃m,W 0 m σ H1)/\∀i m σ H,W i m σ H ->
 (J.stop i H/\D.nx σ H)∨(J.go i H/\∃N:St->Hp->Prop,(∀ σ' H',N σ' H'->∃m',m'<m/\W (i+1) m' σ' H')/\∀x H',J.yld i H x H'->g x σ H' λσ2 H2=>tb { D with nx:=N,ct:=N,bk:=D.nx } σ2 H2)
def rb(fp:List Addr)(h:Heap):#[7]:=fp.filterMap λb=>(h.get? b).map λo=>(b,o)
def jK{fp:List Addr}{h:Heap}{b:Addr}{o:Obj}(hb:b∈fp)(e:h.get? b=some o):(b,o)∈rb fp h:=List.mem_filterMap.mpr %[b,hb|by rw[e];rfl]
def Be{p:Addr×Obj}(hp:p∈rb fp h):p.1∈fp/\h.get? p.1=some p.2:=by
 let%[b,hb|e]:=List.mem_filterMap.mp hp;cases q:h.get? b with
 |none=>rw[q]at e;cases e
 |some o=>
   rw[q]at e;let e':(b,o)=p:=zO0 e;subst e';erw[hb,q]
def Inv.pinned{σ:St}{fp:List Addr}(I:#[8] H s)(hf:∀b∈fp,iQ X M5 H b)(ho:∀b∈fp,∃o,s.heap.get? b=some o/\∀v,o.data≠.cell v):Inv X (M5++rb fp s.heap) σ H s:=
 I.pins_of λp hp=>(qH0 hp).elim (λz=>I.pin p (qV0 _ z)) λz=>by
  let%[hb|e]:=Be z;let%[f0,f1,f2|_]:=hf p.1 hb;let%[o,e'|d]:=ho p.1 hb;rw[e]at e';cases e';erw[e,f0,f1,f2,d]
def Inv.unpinned{M5 pl:#[7]}{σ:St}(I:Inv X (M5++pl) σ H s):#[8] H s:=I.pins_of λp hp=>I.pin p (qV0 _ (List.mem_append_left _ hp))
def cu{iter:Expr}{pos:Pos}(hp:PassesOwn (model X.prog X.w) X.A X.env X.xe)(hc:X.calm=true)(hi:PI X tg iter wi)(hg:PG X tg g)(hb:PSs X body tb)
 (hs:∀x,foldedSetIterable iter X.env x=pure x:=by intro _;rfl):PS X (.For tg iter body [] pos) (tFor wi g tb):=by
 exists 4,D,I,h;apply wpAny_For (thn (hi M5 s σ H _ I h) λv s1 h1=>thn h1 λitv s2 h2=>?_) hs;erw[it,fp,tn,J,H2,e,I2,T,st2,f2,W,%[m0|w0],turn]at h2;subst e;let stat:∀{H':Hp},(∀b∈fp,H' b=none)->∀b∈fp,iQ X M5 H' b:=λhn b hb=>%[hn b hb|(f2 b hb).2]
 apply codeAny_forLoop_any (λn s'=>∃i σ' H',Inv X M5 σ' H' s'/\tn i s'.heap/\(∀b∈fp,H' b=none)/\W i n σ' H') ?_ m0 %[(0),σ,H2,I2,st2,λb hb=>(f2 b hb).1|w0];rintro n s3 ⟨i,σ3,H3,I3,st3,fr3,w3⟩;rcases turn i n σ3 H3 w3 with⟨stop,qn⟩ | ⟨go,N,hN,step⟩
 . apply qY0 hp (thn (T.done X rfl rfl rfl hc i M5 s3 σ3 H3 X.xe I3 (stat fr3) st3 stop) λr s4 ⟨hr,I4⟩=>?_);subst hr;exact jO1 %[σ3,H3,I4|qn]
 . apply qY0 hp (thn (T.item X rfl rfl rfl hc i M5 s3 σ3 H3 X.xe I3 (stat fr3) st3 go) λr s4 ⟨u,hr,h4⟩=>?_);subst hr;apply qY0 hp (thn h4 λ_ s5 ⟨x,H5,I5,r5,y5,st5,fr5⟩=>?_);let I5':=I5.pinned (stat fr5) (T.obj _ _ st5);apply qY0 hp (thn (hg _ s5 σ3 H5 x u _ I5' r5 (step x H5 y5)) λ_ s6 ⟨σ6,H6,I6,q6⟩=>?_);apply qY0 hp (thn (hb _ s6 σ6 H6 _ I6 q6) λf s7 q7=>?_);let again:∀{σ7:St}{H7:Hp},Inv X (M5++rb fp s5.heap) σ7 H7 s7->N σ7 H7->∃m,m<n/\∃i σ' H',Inv X M5 σ' H' s7/\tn i s7.heap/\(∀b∈fp,H' b=none)/\W i m σ' H':=fun{σ7 H7} I7 n7=>by
    let%[m',hm|w7]:=hN σ7 H7 n7;erw[m',hm,i+1,σ7,H7,I7.unpinned,T.keep _ _ _ st5 λb hb o e=>(I7.pin (b,o) (qV0 _ (qV0 _ (jK hb e)))).1,λb hb=>?_,w7];let%[o,e|d]:=T.obj _ _ st5 b hb;exact(I7.pin (b,o) (qV0 _ (qV0 _ (jK hb e)))).2.1
   cases f with
   |next=>erw[σ7,H7,I7,n7]at q7;exact again I7 n7
   |cont=>erw[σ7,H7,I7,n7]at q7;exact again I7 n7
   |brk=>erw[σ7,H7,I7,q7]at q7;erw[σ7,H7,I7.unpinned,q7]
   |ret v=>erw[x7,σ7,H7,I7,r7,q7]at q7;erw[x7,σ7,H7,I7.unpinned,r7,q7]
end
def fo{K:W.Frag}{xs:List V}{g:TG}{tb:TS}{D:Ends}{σ:St}{H:Hp}(Pv:Nat->St->Hp->Prop)(h0:Pv 0 σ H)(hl:∀i σ H,i<=xs.length->Pv i σ H->SqL K H a xs)
 (hs:∀i x σ H,xs[i]?=some x->Pv i σ H->g x σ H λσ2 H2=>tb { D with nx:=Pv (i+1),ct:=Pv (i+1),bk:=D.nx } σ2 H2)(hd:∀ σ H,Pv xs.length σ H->D.nx σ H):
 ∃ W:Nat->Nat->St->Hp->Prop,(∃m,W 0 m σ H)/\∀i m σ H,W i m σ H ->
  ((Itl K a).stop i H/\D.nx σ H)∨((Itl K a).go i H/\∃N:St->Hp->Prop,(∀ σ' H',N σ' H'->∃m',m'<m/\W (i+1) m' σ' H')/\∀x H',(Itl K a).yld i H x H'->g x σ H' λσ2 H2=>tb { D with nx:=N,ct:=N,bk:=D.nx } σ2 H2):=by
 erw[λi m σ H=>m=xs.length-i/\i<=xs.length/\Pv i σ H,%[xs.length,by simp,zP0 _|h0],6];rintro i m σ H ⟨rfl,hi,p⟩;let q:=hl i σ H hi p
 by_cases Nb:i<xs.length
 . refine .inr %[%[xs,xs[i],q|by simp [Nb]],Pv (i+1),λσ' H' p'=>%[xs.length-(i+1),3,1,Nb|p']|λx H' y=>?_];erw[e,y]at y;subst e;exact hs i x σ _ (y xs q) p
 . let e:i=xs.length:=#[0]
   subst e;exact .inl %[%[xs,q|zH0 _]|hd σ H p]
def nK{K:W.Frag}{xs:List V}{g:TG}{tb:TS}{D:Ends}{σ:St}{H:Hp}(Pv:Nat->St->Hp->Prop)(h0:Pv 0 σ H)(hl:∀i σ H,i<=xs.length->Pv i σ H->SqT K H a xs)
 (hs:∀i x σ H,xs[i]?=some x->Pv i σ H->g x σ H λσ2 H2=>tb { D with nx:=Pv (i+1),ct:=Pv (i+1),bk:=D.nx } σ2 H2)(hd:∀ σ H,Pv xs.length σ H->D.nx σ H):
 ∃ W:Nat->Nat->St->Hp->Prop,(∃m,W 0 m σ H)/\∀i m σ H,W i m σ H ->
  ((Itt K a).stop i H/\D.nx σ H)∨((Itt K a).go i H/\∃N:St->Hp->Prop,(∀ σ' H',N σ' H'->∃m',m'<m/\W (i+1) m' σ' H')/\∀x H',(Itt K a).yld i H x H'->g x σ H' λσ2 H2=>tb { D with nx:=N,ct:=N,bk:=D.nx } σ2 H2):=by
 erw[λi m σ H=>m=xs.length-i/\i<=xs.length/\Pv i σ H,%[xs.length,by simp,zP0 _|h0],6];rintro i m σ H ⟨rfl,hi,p⟩;let q:=hl i σ H hi p
 by_cases Nb:i<xs.length
 . refine .inr %[%[xs,xs[i],q|by simp [Nb]],Pv (i+1),λσ' H' p'=>%[xs.length-(i+1),3,1,Nb|p']|λx H' y=>?_];erw[e,y]at y;subst e;exact hs i x σ _ (y xs q) p
 . let e:i=xs.length:=#[0]
   subst e;exact .inl %[%[xs,q|zH0 _]|hd σ H p]
def eK{lo:Int}{n:Nat}{g:TG}{tb:TS}{D:Ends}{σ:St}{H:Hp}(Pv:Nat->St->Hp->Prop)(h0:Pv 0 σ H)
 (hs:∀i σ H,i<n->Pv i σ H->g (.int (lo+i)) σ H λσ2 H2=>tb { D with nx:=Pv (i+1),ct:=Pv (i+1),bk:=D.nx } σ2 H2)(hd:∀ σ H,Pv n σ H->D.nx σ H):
 ∃ W:Nat->Nat->St->Hp->Prop,(∃m,W 0 m σ H)/\∀i m σ H,W i m σ H ->
  ((Itr lo n).stop i H/\D.nx σ H)∨((Itr lo n).go i H/\∃N:St->Hp->Prop,(∀ σ' H',N σ' H'->∃m',m'<m/\W (i+1) m' σ' H')/\∀x H',(Itr lo n).yld i H x H'->g x σ H' λσ2 H2=>tb { D with nx:=N,ct:=N,bk:=D.nx } σ2 H2):=by
 erw[λi m σ H=>m=n-i/\i<=n/\Pv i σ H,%[n,by simp,zP0 _|h0],6];rintro i m σ H ⟨rfl,hi,p⟩
 by_cases Nb:i<n
 . refine .inr %[Nb,Pv (i+1),λσ' H' p'=>%[n-(i+1),3,1,Nb|p']|λx H' y=>?_];erw[e,y]at y;subst e y;exact hs i σ _ Nb p
 . let e:i=n:=#[0]
   subst e;exact .inl %[zH0 _|hd σ H p]
abbrev R2:=V->V->Hp->VK->Prop
def OpR(X:Cx)(f:Value->Value->Sem Value)(r:R2):Prop:=
 ∀(M5:#[7])(s:Shared)(σ:St)(H:Hp)(x y:V)(v u:Value)(Q:VK),#[8] H s->RelV x v->RelV y u->r x y H Q ->
  ‹X.w› (f v u) (EP X M5 σ Q) X.xe s
def UnR(X:Cx)(f:Value->Sem Value)(r:V->Hp->VK->Prop):Prop:=
 ∀(M5:#[7])(s:Shared)(σ:St)(H:Hp)(x:V)(v:Value)(Q:VK),#[8] H s->RelV x v->r x H Q ->
  ‹X.w› (f v) (EP X M5 σ Q) X.xe s
def gR(X:Cx)(f:Value)(r:List V->Hp->VK->Prop):Prop:=
 ∀(M5:#[7])(s:Shared)(σ:St)(H:Hp)(xs:List V)(us:List Value)(Q:VK),#[8] H s->Vals xs us->r xs H Q ->
  ‹X.w› (call f us) (EP X M5 σ Q) X.xe s
def tOp(r:R2)(ta tb:TE):TE:=λσ H Q=>ta σ H λx H1=>tb σ H1 λy H2=>r x y H2 Q
def tUn(r:V->Hp->VK->Prop)(ta:TE):TE:=λσ H Q=>ta σ H λx H1=>r x H1 Q
instance rI(C:Int->Int->Prop)(g:Int->Int->V)(x:V)(y:V)(H:Hp)(Q:VK):∀i j,x=.int i->y=.int j->C i j->Q (g i j) H:=0
instance rI0(g:Int->Int->V)(x:V)(y:V)(H:Hp)(Q:VK):∀i j,x=.int i->y=.int j->Q (g i j) H:=0
instance rU(g:Int->V)(x:V)(H:Hp)(Q:VK):∀i,x=.int i->Q (g i) H:=0
section
variable {X:Cx}{a b c:Expr}{ta tb tc:TE}{pos:Pos}
def Je(ha:PE X a ta)(hb:PE X b tb){σ:St}{R:V->V->Hp->Prop}(I:#[8] H s)
 (h:ta σ H λx H1=>tb σ H1 λy H2=>R x y H2){Q:#[6]}{f:Value->Value->Sem Value}
 (hf:∀v u s2 x y H2,#[8] H2 s2->RelV x v->RelV y u->R x y H2->‹X.w› (f v u) Q X.xe s2):
 ‹X.w› (eval a X.env) (λv s₁=>‹X.w› (eval b X.env) (λu s₂=>‹X.w› (f v u) Q X.xe s₂) X.xe s₁) X.xe s:=by
 apply thn (ha M5 s σ H _ I h) λv s1 ⟨x,H1,I1,r1,q1⟩=>?_
 apply thn (hb M5 s1 σ H1 _ I1 q1) λu s2 ⟨y,H2,I2,r2,q2⟩=>?_
 exact hf v u s2 x y H2 I2 r1 r2 q2
def au{op:Operator}(ho:OpR X (binaryOp op) r)(ha:PE X a ta)(hb:PE X b tb):PE X (.BinOp a op b pos) (tOp r ta tb):=by
 exists 4,Q,I,h;exact wpAny_BinOp (Je ha hb I h λv u s2 x y H2 I2 rx ry q=>ho M5 s2 σ H2 x y v u Q I2 rx ry q)
def zz{op:UnaryOp}(ho:UnR X (unaryOp op) r)(ha:PE X a ta):PE X (.UnaryOp op a pos) (tUn r ta):=by
 exists 4,Q,I,h;exact UnaryOp_ (thn (ha M5 s σ H _ I h) λv s1 ⟨x,H1,I1,r1,q1⟩=>ho M5 s1 σ H1 x v Q I1 r1 q1)
def opI{f:Value->Value->Sem Value}{C:Int->Int->Prop}{g:Int->Int->Int}
 (rule:∀(i j:Int)(t u:Tok)(s:Shared)(Q:#[6])(E:#[6]),C i j->Q (.int (g i j) s.toks) { s with toks:=s.toks+1 }->‹X.w› (f (.int i t) (.int j u)) Q E s):
 OpR X f (rI C λi j=>.int (g i j)):=by
 exists 4,x,y,v,u,Q,I,rx,ry,h;erw[i,j,1,1,hc,q]at h;erw[t,1]at rx;erw[t',1]at ry;exact rule i j t t' s _ _ hc %[.int (g i j),H,I.tok _,%[|0]|q]
def opI0{f:Value->Value->Sem Value}{g:Int->Int->Int}
 (rule:∀(i j:Int)(t u:Tok)(s:Shared)(Q:#[6])(E:#[6]),Q (.int (g i j) s.toks) { s with toks:=s.toks+1 }->‹X.w› (f (.int i t) (.int j u)) Q E s):
 OpR X f (rI0 λi j=>.int (g i j)):=by
 exists 4,x,y,v,u,Q,I,rx,ry,h;erw[i,j,1,1,q]at h;erw[t,1]at rx;erw[t',1]at ry;exact rule i j t t' s _ _ %[.int (g i j),H,I.tok _,%[|0]|q]
def FV{f:Value->Value->Sem Value}{g:Int->Int->Bool}
 (rule:∀(i j:Int)(t u:Tok)(s:Shared)(Q:#[6])(E:#[6]),Q (.bool (g i j)) s->‹X.w› (f (.int i t) (.int j u)) Q E s):
 OpR X f (rI0 λi j=>.bl (g i j)):=by
 exists 4,x,y,v,u,Q,I,rx,ry,h;erw[i,j,1,1,q]at h;erw[t,1]at rx;erw[t',1]at ry;exact rule i j t t' s _ _ %[.bl (g i j),H,I,1|q]
def CDiv(i j:Int):Prop:=0<j/\j<1073741824
def CPow(i j:Int):Prop:=0<=j/\j<=1000000/\i.natAbs<2 ^ 64
def CMul(i j:Int):Prop:=(-(2 ^ 64)<i/\i<2 ^ 64)∨(-(2 ^ 64)<j/\j<2 ^ 64)
def CMul.ok(h:CMul i j):IntMulOk i j:=by
 rcases h with⟨h1,h2⟩ | ⟨h1,h2⟩
 . exact .of_left (intBits_le_64 h1 h2)
 . exact .of_right (intBits_le_64 h1 h2)
def aS:OpR X (binaryOp .Add) (rI0 λi j=>.int (i+j)):=opI0 λ_ _ _ _ _ _ _ q=>add_int q
def bi:OpR X (binaryOp .Sub) (rI0 λi j=>.int (i-j)):=opI0 λ_ _ _ _ _ _ _ q=>sub_int q
def ci:OpR X (binaryOp .Mult) (rI CMul λi j=>.int (i*j)):=opI λ_ _ _ _ _ _ _ hc q=>mul_int q hc.ok
def zD:OpR X (binaryOp .FloorDiv) (rI CDiv λi j=>.int (i / j)):=opI λi j _ _ _ _ _ hc q=>by
 let h1:(0:Int)<j:=hc.1;let h2:j<1073741824:=hc.2;exact floordiv_int #[0] (by rw[Int.fdiv_eq_ediv_of_nonneg i #[0]];exact q) (.inl (PyProof.noPylong_small #[0]))
def bb:OpR X (binaryOp .Mod) (rI (λ_ j=>0<j) λi j=>.int (i % j)):=opI λi j _ _ _ _ _ hc q=>by
 let h1:(0:Int)<j:=hc;exact mod_int' #[0] (by rw[Int.fmod_eq_emod_of_nonneg i #[0]];exact q)
def DF:OpR X (binaryOp .Pow) (rI CPow λi j=>.int (i ^ j.toNat)):=opI λ_ _ _ _ _ _ _ hc q=>pow_int_small hc.1 hc.2.1 hc.2.2 q
def unI{f:Value->Sem Value}{g:Int->Int}
 (rule:∀(i:Int)(t:Tok)(s:Shared)(Q:#[6])(E:#[6]),Q (.int (g i) s.toks) { s with toks:=s.toks+1 }->‹X.w› (f (.int i t)) Q E s):
 UnR X f (rU λi=>.int (g i)):=by
 exists 4,x,v,Q,I,rx,h;erw[i,1,q]at h;erw[t,1]at rx;exact rule i t s _ _ %[.int (g i),H,I.tok _,%[|0]|q]
def tZ:UnR X (unaryOp .USub) (rU λi=>.int (-i)):=unI λ_ _ _ _ _ q=>neg_int q
end
def scal:V->V->Bool
 |.non,.non=>true | .non,.int _=>true | .int _,.non=>true | .non,.bl _=>true | .bl _,.non=>true | .non,.str _=>true | .str _,.non=>true
 |.int _,.int _=>true | .bl _,.bl _=>true | .str _,.str _=>true | .byt _,.byt _=>true
 |.int _,.str _=>true | .str _,.int _=>true | .bl _,.str _=>true | .str _,.bl _=>true
 |_,_=>false
instance rEq(x:V)(y:V)(H:Hp)(Q:VK):scal x y=true->Q (.bl (decide (x=y))) H:=0
instance rNe(x:V)(y:V)(H:Hp)(Q:VK):scal x y=true->Q (.bl (!decide (x=y))) H:=0
def zR{i j:Int}:decide (V.int i=V.int j)=(i==j):=by
 rw[jP0]
 simp
def EQ{i j:Bool}:decide (V.bl i=V.bl j)=(i==j):=by
 rw[jP0]
 simp
def zQ{i j:Str}:decide (V.str i=V.str j)=(i==j):=by
 rw[jP0]
 simp
def zS{i j:Array UInt8}:decide (V.byt i=V.byt j)=(i.toList==j.toList):=by
 rw[jP0];cases i;cases j
 simp
section
variable {X:Cx}{a b c:Expr}{ta tb tc:TE}{pos:Pos}
def bY{σ:St}{Q:VK}{k k':Bool}(I:#[8] H s)(q:Q (.bl k) H)(e:k=k'):EP X M5 σ Q (.bool k') s:=by
 subst e;erw[.bl k,H,I,1,q]
def aR:OpR X (compareOp .Eq) rEq:=by
 exists 4,x,y,v,u,Q,I,rx,ry,h;erw[hs,q]at h;cases x with
 |non=>
   cases rx;cases y with
   |non=>cases ry;exact PySem.EqNone.eq_none_none (bY I q #[2])
   |bl j=>cases ry;exact PySem.EqNone.eq_none_bool (bY I q #[2])
   |int j=>erw[t',1]at ry;exact PySem.EqNone.eq_none_int (bY I q #[2])
   |str j=>erw[t',1]at ry;exact PySem.EqNone.eq_none_str (bY I q #[2])
   |_=>exact absurd (show false=true from hs) qJ0
 |bl i=>
   cases rx;cases y with
   |non=>cases ry;exact PySem.EqNone.eq_bool_none (bY I q #[2])
   |bl j=>cases ry;exact eq_bool (bY I q EQ)
   |str j=>erw[t',1]at ry;exact PySem.EqMixed.eq_bool_str (bY I q #[2])
   |_=>exact absurd (show false=true from hs) qJ0
 |int i=>
   erw[t,1]at rx;cases y with
   |non=>cases ry;exact PySem.EqNone.eq_int_none (bY I q #[2])
   |int j=>erw[t',1]at ry;exact eq_int (bY I q zR)
   |str j=>erw[t',1]at ry;exact PySem.EqMixed.eq_int_str (bY I q #[2])
   |_=>exact absurd (show false=true from hs) qJ0
 |str i=>
   erw[t,1]at rx;cases y with
   |non=>cases ry;exact PySem.EqNone.eq_str_none (bY I q #[2])
   |bl j=>cases ry;exact PySem.EqMixed.eq_str_bool (bY I q #[2])
   |int j=>erw[t',1]at ry;exact PySem.EqMixed.eq_str_int (bY I q #[2])
   |str j=>erw[t',1]at ry;exact eq_str (bY I q zQ)
   |_=>exact absurd (show false=true from hs) qJ0
 |byt i=>
   erw[t,1]at rx;cases y with
   |byt j=>erw[t',1]at ry;exact PySem.W.eq_bytes (bY I q zS)
   |_=>exact absurd (show false=true from hs) qJ0
 |_=>cases y <;> exact absurd (show false=true from hs) qJ0
def lH:OpR X (compareOp .NotEq) rNe:=by
 exists 4,x,y,v,u,Q,I,rx,ry,h;erw[hs,q]at h;cases x with
 |non=>
   cases rx;cases y with
   |non=>cases ry;exact PySem.EqNone.ne_none_none (bY I q #[2])
   |bl j=>cases ry;exact PySem.EqNone.ne_none_bool (bY I q #[2])
   |int j=>erw[t',1]at ry;exact PySem.EqNone.ne_none_int (bY I q #[2])
   |str j=>erw[t',1]at ry;exact PySem.EqNone.ne_none_str (bY I q #[2])
   |_=>exact absurd (show false=true from hs) qJ0
 |bl i=>
   cases rx;cases y with
   |non=>cases ry;exact PySem.EqNone.ne_bool_none (bY I q #[2])
   |bl j=>cases ry;exact ne_bool (bY I q (congrArg not EQ))
   |str j=>erw[t',1]at ry;exact PySem.EqMixed.ne_bool_str (bY I q #[2])
   |_=>exact absurd (show false=true from hs) qJ0
 |int i=>
   erw[t,1]at rx;cases y with
   |non=>cases ry;exact PySem.EqNone.ne_int_none (bY I q #[2])
   |int j=>erw[t',1]at ry;exact ne_int (bY I q (congrArg not zR))
   |str j=>erw[t',1]at ry;exact PySem.EqMixed.ne_int_str (bY I q #[2])
   |_=>exact absurd (show false=true from hs) qJ0
 |str i=>
   erw[t,1]at rx;cases y with
   |non=>cases ry;exact PySem.EqNone.ne_str_none (bY I q #[2])
   |bl j=>cases ry;exact PySem.EqMixed.ne_str_bool (bY I q #[2])
   |int j=>erw[t',1]at ry;exact PySem.EqMixed.ne_str_int (bY I q #[2])
   |str j=>erw[t',1]at ry;exact ne_str (bY I q (congrArg not zQ))
   |_=>exact absurd (show false=true from hs) qJ0
 |byt i=>
   erw[t,1]at rx;cases y with
   |byt j=>erw[t',1]at ry;exact PySem.W.ne_bytes (bY I q (congrArg not zS))
   |_=>exact absurd (show false=true from hs) qJ0
 |_=>cases y <;> exact absurd (show false=true from hs) qJ0
def dG:OpR X (compareOp .Lt) (rI0 λi j=>.bl (decide (i<j))):=FV λ_ _ _ _ _ _ _ q=>lt_int q
def tf:OpR X (compareOp .LtE) (rI0 λi j=>.bl (decide (i<=j))):=FV λ_ _ _ _ _ _ _ q=>le_int q
def iy:OpR X (compareOp .Gt) (rI0 λi j=>.bl (decide (j<i))):=FV λ_ _ _ _ _ _ _ q=>gt_int q
def Hl:OpR X (compareOp .GtE) (rI0 λi j=>.bl (decide (j<=i))):=FV λ_ _ _ _ _ _ _ q=>ge_int q
def tj:OpR X (compareOp .In) (λx y H Q=>∃i j,x=.str i/\y=.str j/\Q (.bl (!(Builtin.Str.occurrences j i 0 j.length 1).isEmpty)) H):=by
 exists 4,x,y,v,u,Q,I,rx,ry,h;erw[i,j,1,1,q]at h;erw[t,1]at rx;erw[t',1]at ry;exact in_str (bY I q rfl)
def Ie:OpR X (compareOp .Is) (λx y H Q=>y=.non/\Q (.bl (decide (x=.non))) H):=by
 exists 4,x,y,v,u,Q,I,rx,ry,h;erw[1,q]at h;cases ry;apply is_none_gen (bY I q ?_);cases x <;> first
  | (cases rx;rfl)
  | (erw[t,1]at rx;rfl)
def OpR.or(h:OpR X f r)(h':OpR X f r'):OpR X f (λx y H Q=>r x y H Q∨r' x y H Q):=by
 exists 4,x,y,v,u,Q,I,rx,ry,q;rcases q with q | q
 . exact h M5 s σ H x y v u Q I rx ry q
 . exact h' M5 s σ H x y v u Q I rx ry q
def ax(b:Expr){op:CmpOp}(h:op≠.In:=by decide)(h2:op≠.NotIn:=by decide):behindInMarks op b=false:=by
 let e1:(op==CmpOp.In)=false:=by cases op <;> first | rfl | exact absurd rfl h
 let e2:(op==CmpOp.NotIn)=false:=by cases op <;> first | rfl | exact absurd rfl h2
 cases b <;> simp [behindInMarks,e1,e2]
def eJ{op:CmpOp}(ho:OpR X (compareOp op) r)(ha:PE X a ta)(hb:PE X b tb)(hm:behindInMarks op b=false):PE X (.Compare a [op] [b] pos) (tOp r ta tb):=by
 exists 4,Q,I,h;exact wpAny_Compare1 (Je ha hb I h λv u s2 x y H2 I2 rx ry q=>ho M5 s2 σ H2 x y v u Q I2 rx ry q) hm
instance ZtTest(Q:(Bool->Hp->Prop))(x:V)(H':Hp):∀k,x=.bl k->Q k H':=0
def He(t:TE):TT:=λσ H Q=>t σ H λx H'=>ZtTest Q x H'
def ai{op:CmpOp}(ho:OpR X (compareOp op) r)(ha:PE X a ta)(hb:PE X b tb)(hm:behindInMarks op b=false):PT X (.Compare a [op] [b] pos) (He (tOp r ta tb)):=by
 exists 4,Q,I,h;apply wpAny_isTrue_Compare1 (thn (ha M5 s σ H _ I h) λv s1 ⟨x,H1,I1,r1,q1⟩=>thn (hb M5 s1 σ H1 _ I1 q1) λu s2 ⟨y,H2,I2,r2,q2⟩=>
  thn (ho M5 s2 σ H2 x y v u _ I2 r1 r2 q2) λc s3 ⟨z,H3,I3,r3,k,e,q3⟩=>?_) hm
 subst e;cases r3;exact zZ1 %[H3,I3|q3]
instance ZtChain(r':R2)(tc:TE)(σ:St)(Q:VK)(y:V)(z:V)(H3:Hp):∀k,z=.bl k->(if k=true then tc σ H3 λw' H4=>r' y w' H4 Q else Q (.bl false) H3):=0
def Cv(r r':R2)(ta tb tc:TE):TE:=λσ H Q=>ta σ H λx H1=>tb σ H1 λy H2=>r x y H2 λz H3=>ZtChain r' tc σ Q y z H3
def DB{op op':CmpOp}(ho:OpR X (compareOp op) r)(ho':OpR X (compareOp op') r')(ha:PE X a ta)(hb:PE X b tb)(hc:PE X c tc)
 (hm:lastMarks [op,op'] [b,c]=false:=by rfl'):PE X (.Compare a [op,op'] [b,c] pos) (Cv r r' ta tb tc):=by
 exists 4,Q,I,h;apply Compare_chain (thn (ha M5 s σ H _ I h) λv s1 ⟨x,H1,I1,r1,q1⟩=>chain_link (thn (hb M5 s1 σ H1 _ I1 q1) λu s2 ⟨y,H2,I2,r2,q2⟩=>
  thn (ho M5 s2 σ H2 x y v u _ I2 r1 r2 q2) λd s3 ⟨z,H3,I3,r3,k,e,q3⟩=>?_)) hm
 subst e;cases r3;apply zZ1 ?_;cases k with
 |false=>exact ite_ff %[.bl false,H3,I3,1|q3]
 |true=>exact ite_tt (chain_last (thn (hc M5 s3 σ H3 _ I3 q3) λw' s4 ⟨z',H4,I4,r4,q4⟩=>ho' M5 s4 σ H4 y z' u w' Q I4 r2 r4 q4))
def vU{op op':CmpOp}(ho:OpR X (compareOp op) r)(ho':OpR X (compareOp op') r')(ha:PE X a ta)(hb:PE X b tb)(hc:PE X c tc)
 (hm:lastMarks [op,op'] [b,c]=false:=by rfl'):PT X (.Compare a [op,op'] [b,c] pos) (He (Cv r r' ta tb tc)):=by
 exists 4,Q,I,h;apply isTrue_chain (thn (ha M5 s σ H _ I h) λv s1 ⟨x,H1,I1,r1,q1⟩=>test_link (thn (hb M5 s1 σ H1 _ I1 q1) λu s2 ⟨y,H2,I2,r2,q2⟩=>
  thn (ho M5 s2 σ H2 x y v u _ I2 r1 r2 q2) λd s3 ⟨z,H3,I3,r3,k,e,q3⟩=>?_)) hm
 subst e;cases r3;apply zZ1 ?_;cases k with
 |false=>
   erw[k',e',q']at q3;cases e';exact ite_ff %[H3,I3|q']
 |true=>
   apply ite_tt (test_last (thn (hc M5 s3 σ H3 _ I3 q3) λw' s4 ⟨z',H4,I4,r4,q4⟩=>thn (ho' M5 s4 σ H4 y z' u w' _ I4 r2 r4 q4) λd' s5 ⟨z2,H5,I5,r5,k2,e2,q5⟩=>?_));subst e2;cases r5;exact zZ1 %[H5,I5|q5]
def jL:(sizeLine:Nat)<2 ^ 63:=by rw[sizeLine_eq];decide
def rj:OpR X (binaryOp .Add) (λx y H Q=>∃i j,x=.str i/\y=.str j/\i.length+j.length<=sizeLine/\Q (.str (i++j)) H):=by
 exists 4,x,y,v,u,Q,I,rx,ry,h;erw[i,j,1,1,hz,q]at h;erw[t,1]at rx;erw[t',1]at ry;exact add_str (λt' tk=>%[.str (i++j),H,I.tok _,%[|0]|q]) hz
def kc{x:V}(r:Vals [x] us):∃u,us=[u]/\RelV x u:=by
 cases r with
 |cons r1 r2=>cases r2;erw[0,r1]
def Ca{x y:V}(r:Vals [x,y] us):∃u w',us=[u,w']/\RelV x u/\RelV y w':=by
 cases r with
 |cons r1 r2=>
   cases r2 with
   |cons r3 r4=>cases r4;erw[_,0,r1,r3]
def tR(hc:X.calm=true):gR X (.builtin "max") (λxs H Q=>∃i j,xs=[.int i,.int j]/\Q (.int (if j>i then j else i)) H):=by
 exists 4,xs,us,Q,I,r,h;erw[i,j,1,q]at h;let%[u,w',1,%[t|1]|%[t'|1]]:=Ca r;apply max_two_ints (I.ok.hd hc) λh' tk k=>%[_,H,I.kept k,6|q]
 by_cases hj:j>i
 . rw[M8 hj,M8 hj];erw[0]
 . rw[M6 hj,M6 hj];erw[0]
def BU(hc:X.calm=true):gR X (.builtin "min") (λxs H Q=>∃i j,xs=[.int i,.int j]/\Q (.int (if j<i then j else i)) H):=by
 exists 4,xs,us,Q,I,r,h;erw[i,j,1,q]at h;let%[u,w',1,%[t|1]|%[t'|1]]:=Ca r;apply min_two_ints (I.ok.hd hc) λh' tk k=>%[_,H,I.kept k,6|q]
 by_cases hj:j<i
 . rw[M8 hj,M8 hj];erw[0]
 . rw[M6 hj,M6 hj];erw[0]
def tS:gR X (.type "int") (λxs H Q=>(∃i,xs=[.int i]/\Q (.int i) H)∨∃k,xs=[.bl k]/\Q (.int (if k then 1 else 0)) H):=by
 exists 4,xs,us,Q,I,r,h;rcases h with⟨i,rfl,q⟩ | ⟨k,rfl,q⟩
 . let%[u,1,t|1]:=kc r;exact call_int_int %[.int i,H,I,%[|0]|q]
 . let%[u,1|r1]:=kc r;cases r1;exact call_int_bool %[.int (if k then 1 else 0),H,I.tok _,%[|0]|q]
def vA:gR X (.type "str") (λxs H Q=>∃i,xs=[.int i]/\i.natAbs.log2<1920/\Q (.str (toString i)) H):=by
 exists 4,xs,us,Q,I,r,h;erw[i,1,hz,q]at h;let%[u,1,t|1]:=kc r;exact PySem.P.str_of_int hz %[.str _,H,I.tok _,%[|0]|q]
end
structure ObjM(h:Heap)(x dx C:Addr)(mA:#[9]):Prop where
 obj:h.get? x=some (PySem.W.instObj C dx)
 ns:h.Ns1 dx mA
 ne:dx≠x
def Bm{h:Heap}{dx:Addr}{mA:#[9]}(n:h.Ns1 dx mA):∃od,h.get? dx=some od/\∀name,PySem.W.lookIn name od=some (mA name):=by
 erw[o,es,ep,ho,hd,hk,_,hm]at n;erw[o,ho,λname=>?_];let e:=hm name;unfold nsFind findBy at e;rw[←Array.find?_toList]at e;unfold PySem.W.lookIn;rw[hd]
 dsimp only
 split
 . rename_i y q;rw[q]at e;exact congrArg some e
 . rename_i q;rw[q]at e;let a:es.toList.any (·.refKey)=false:=by
    rw[List.any_eq_false];intro y hy;let%[z,t|hkey]:=hk y (Array.mem_toList_iff.mp hy)
    simp [DictEntry.refKey,hkey]
   let a':¬ es.toList.any (·.refKey)=true:=by rw[a];exact qJ0
   rw[M6 a'];exact congrArg some e
def ObjM.look(I:ObjM h x dx C mA):∃od,PySem.W.InstAt h x (PySem.W.instObj C dx) C (some od)/\∀name,PySem.W.lookIn name od=some (mA name):=
 let⟨od,ho,hl⟩:=Bm I.ns
 %[od,%[I.obj,1,1|ho]|hl]
section
variable {prog:Program}{w:World}{A:Around}{E:#[6]}{s:Shared}{K:W.Frag}{x dx C f:Addr}{mA:#[9]}{name:Str}{v:Value}
def GO{expr:Bool}{Q:#[6]}(X:K.In s.heap)(I:ObjM s.heap x dx C mA)(hg:PySem.W.plainGet K C name=true)(hh:PySem.W.hasDictIn K C=true)
 (ha:PySem.W.findIn K (.ref C) name=some none)(hv:mA name=some v)(hv':PySem.W.handedIn v=true)(h:Q v { s with toks:=s.toks+1 }):
 ‹w.A› (getAttr (.ref x) name expr) Q E s:=by
 erw[od,J,hl]at I.look;exact PySem.W.get_value X J (wE1 hg).1 (PySem.W.findObj_own hh ha rfl (by rw[hl,hv])) hv' h
def EA{pl:Sem Bool}{Q:Value×List Value->Shared->Prop}(X:K.In s.heap)(I:ObjM s.heap x dx C mA)(hg:PySem.W.plainGet K C name=true)
 (hf:PySem.W.findIn K (.ref C) name=some (some (.ref f)))(ht:PySem.W.isFn K (.ref f)=true)(hv:mA name=none)(h:Q (.ref f,[.ref x]) s):
 ‹w.A› (getMethod (.ref x) name pl) Q E s:=by
 erw[od,J,hl]at I.look;exact PySem.W.method_fn X J (wE1 hg).1 (wE1 hg).2 hf (beq_iff_eq.mp ht) (by show(PySem.W.lookIn name od).map (·.isSome)=some false;rw[hl,hv];rfl) h
def Fz{ns:List Str}{Q:Unit->Shared->Prop}(X:K.In s.heap)(I:ObjM s.heap x dx C mA)
 (hs:PySem.W.findIn K (.ref C) "__setattr__"=some (some (.builtin "object.__setattr__")))(hp:PySem.W.plainOver K C=true)(ht:PySem.W.takerIn K C name=some none)(hh:PySem.W.hasDictIn K C=true)
 (hw:PySem.Within mA ns)(hsz:ns.length<=sizeLine)
 (h:∀h',ObjM h' x dx C (λy=>if y=name then some v else mA y)->Heap.SameBut dx s.heap h'->Q () { s with heap:=h',toks:=s.toks+2 }):
 ‹w.A› (setAttr (.ref x) name v) Q E s:=by
 erw[od,J,hl]at I.look;apply PySem.W.set_plain X J hs (PySem.W.osa_open (s:={ s with toks:=s.toks+1 }) (r:=none) X J hp ht λb=>?_);let%[cd,hc|hd']:=PySem.W.any_some hh;let hx:s.heap.get? x=some %[.ref C,some dx,.plain|#[]]:=I.obj;apply zE0 (zI0 (zE0 (zE0 (wpAny_loadPart hx (zE0 (PySem.W.Looks.here (s:={ s with toks:=s.toks+1 }) (PySem.W.looks_clsIn X hc) ?_))))));rw[hd'];apply zI0 (a:=some dx) (zE0 (zI0 (zE0 ?_)));apply wpAny_nsSet1 (s:={ s with toks:=s.toks+1 }) I.ns λh' hn2 hs2=>?_
 let%[oD,esD,epD,hoD,hdD|hcD]:=hn2.count (PySem.Within.cons name v hw);apply zE0 (wpAny_lookBehind hoD (by rw[hdD];exact pastItsLine_dict (zT0 hcD (by rw[zR0];omega))) ?_);exact zI0 (h _ %[(hs2.2 _ (Ne.symm I.ne)).trans I.obj,hn2|I.ne] hs2)
def Eg{R:Result->Shared->Prop}{vs:List Value}{kw:List (Str×Value)}(X:K.In s.heap)(hm:PySem.W.makesIn K C=true)
 (hi:PySem.W.findIn K (.ref C) "__init__"=some (some (.ref f)))(hf:PySem.W.typeIn K (.ref f)=some (.type "function"))
 (h:codeAny (model prog w) (A.under (.builtin "type.__call__" %[.ref C::vs|kw])) (.call (.ref f) ⟨.ref (‹s›+1)::vs,kw⟩) (PySem.W.InitBack (‹s›+1) R)
  { s with heap:=(s.heap.push PySem.W.emptyDict).push (PySem.W.instObj C ‹s›) }) :
 codeAny (model prog w) A (.call (.ref C) %[vs|kw]) R s:=by
 erw[hh,g,d,t,os]at s;exact PySem.W.make_core (PySem.W.makes_of X hm) (PySem.W.looks_findIn X hi) (λself=>PySem.W.bind_fn X self hf) (.inl rfl) h
end
def bV(f:Str)(v:V):List (Str×V)->List (Str×V)
 | []=>[(f,v)]
 | (g,x)::r=>if g=f then(g,v)::r else(g,x)::bV f v r
def az(f g:Str)(v:V):∀fs:List (Str×V),(bV f v fs).lookup g=if g=f then some v else fs.lookup g
 | []=>by
   show List.lookup g [(f,v)]=_
   by_cases h:g=f
   . let hb:(g==f)=true:=beq_iff_eq.mpr h;simp only[List.lookup,hb,M8 h]
   . let hb:(g==f)=false:=beq_eq_false_iff_ne.mpr h;simp only[List.lookup,hb,M6 h]
 | (k,x)::r=>by
   let ih:=az f g v r;rw[show bV f v ((k,x)::r)=(if k=f then(k,v)::r else(k,x)::bV f v r)from rfl]
   by_cases hk:k=f
   . rw [M8 hk]
     by_cases h:g=k
     . let hb:(g==k)=true:=beq_iff_eq.mpr h;simp only[List.lookup,hb,M8 (h.trans hk)]
     . let hb:(g==k)=false:=beq_eq_false_iff_ne.mpr h;simp only[List.lookup,hb,M6 (λe:g=f=>h (e.trans hk.symm))]
   . rw [M6 hk]
     by_cases h:g=k
     . let hb:(g==k)=true:=beq_iff_eq.mpr h;simp only[List.lookup,hb,M6 (λe:g=f=>hk (h.symm.trans e))]
     . let hb:(g==k)=false:=beq_eq_false_iff_ne.mpr h;simp only[List.lookup,hb];exact ih
def oN(f:Str)(v:V):∀fs:List (Str×V),f∈(bV f v fs).map (·.1)/\∀g,g∈fs.map (·.1)->g∈(bV f v fs).map (·.1)
 | []=>%[by simp [bV]|λg h=>by simp at h]
 | (k,x)::r=>by
   let%[i1|i2]:=oN f v r;rw[show bV f v ((k,x)::r)=(if k=f then(k,v)::r else(k,x)::bV f v r)from rfl]
   by_cases hk:k=f
   . rw[M8 hk];subst hk;erw[by simp,λg h=>by simpa using h]
   . rw [M6 hk];erw[6,λg h=>?_]
     . rw[qC0];exact qK0 _ i1
     . rw [qC0]at h ⊢;rcases Nf h with e | e
       . exact List.mem_cons.mpr (.inl e)
       . exact qK0 _ (i2 g e)
def pB(f:Str)(v:V):∀fs:List (Str×V),(bV f v fs).length<=fs.length+1
 | []=>by simp [bV]
 | (k,x)::r=>by
   let ih:=pB f v r;rw[show bV f v ((k,x)::r)=(if k=f then(k,v)::r else(k,x)::bV f v r)from rfl]
   by_cases hk:k=f
   . rw[M8 hk,zR0,zR0];omega
   . rw[M6 hk,zR0,zR0];omega
def RelO.some_of{v:V}(r:RelO (some v) o):∃u,o=some u/\RelV v u:=by
 cases o with
 |none=>exact(show False from r).elim
 |some u=>erw[u,1,r]
def RelO.none_of(r:RelO none o):o=none:=by
 cases o with
 |none=>rfl
 |some u=>exact(show False from r).elim
def BE(r:RelV v u):PySem.W.handedIn u=true:=by
 cases v with
 |non=>cases(show u=Value.none from r);rfl
 |bl b=>cases(show u=Value.bool b from r);rfl
 |int i=>let%[t|e]:=(show ∃t,u=Value.int i t from r);cases e;rfl
 |str x=>let%[t|e]:=(show ∃t,u=Value.str x t from r);cases e;rfl
 |byt b=>let%[t|e]:=(show ∃t,u=Value.bytes b t from r);cases e;rfl
 |flt b=>let%[t|e]:=(show ∃t,u=Value.float b t from r);cases e;rfl
 |ref a=>cases(show u=Value.ref a from r);rfl
 |ty n=>cases(show u=Value.type n from r);rfl
section
variable {P:Program}{w:World}{H H':Hp}{h h':Heap}{a C dx:Addr}{fs fs':List (Str×V)}
def pW(hok:HOk P w H h)(e:H a=some (.ins C dx fs)):∃mA,ObjM h a dx C mA/\(∀f,RelO (fs.lookup f) (mA f))/\PySem.Within mA (fs.map (·.1))/\fs.length<=1000/\H dx=some (.own a):=by
 let%[d,z,ne,ob,mA,n,r|q]:=(show ObjOk P w H h a (.ins C dx fs)from hok a _ e)
 erw[mA,%[ob,n|ne],r,q,z,d]
end
structure Cls(K:W.Frag)(C:Addr):Prop where
 pg:PySem.W.plainGet K C Str.empty=true
 hd:PySem.W.hasDictIn K C=true
 po:PySem.W.plainOver K C=true
 sa:PySem.W.findIn K (.ref C) "__setattr__"=some (some (.builtin "object.__setattr__"))
def Cls.get{K:W.Frag}(c:Cls K C)(f:Str):PySem.W.plainGet K C f=true:=c.pg
def NoAttr(K:W.Frag)(C:Addr)(f:Str):Prop:=PySem.W.findIn K (.ref C) f=some none
def NoAttr.taker{K:W.Frag}(n:NoAttr K C f):PySem.W.takerIn K C f=some none:=by
 unfold PySem.W.takerIn;rw[show PySem.W.findIn K (.ref C) f=some none from n];rfl
structure Meth(K:W.Frag)(C:Addr)(m:Str)(f:Addr):Prop where
 at_:PySem.W.findIn K (.ref C) m=some (some (.ref f))
 fn:PySem.W.isFn K (.ref f)=true
 kp:PySem.W.keepIn K (.ref f)=true
section
variable {X:Cx}{M5:#[7]}{σ:St}{H:Hp}{s:Shared}{a C dx:Addr}{fs:List (Str×V)}{f:Str}{v:V}{A:Around}{E:#[6]}
def yN{b:Bool}{Q:#[6]}(I:#[8] H s)(e:H a=some (.ins C dx fs))(c:Cls X.K C)(n:NoAttr X.K C f)(l:fs.lookup f=some v)
 (h:∀u s',#[8] H s'->RelV v u->Q u s'):wpAny (model X.prog X.w) A (getAttr (.ref a) f b) Q E s:=by
 let%[mA,O,r,_,_|_]:=pW I.hok e;let%[u,hu|ru]:=RelO.some_of (v:=v) (o:=mA f) (by rw[←l];exact r f);exact GO I.kIn O (c.get f) c.hd n hu (BE ru) (h u _ (I.tok _) ru)
def rW{pl:Sem Bool}{Q:Value×List Value->Shared->Prop}(I:#[8] H s)(e:H a=some (.ins C dx fs))(c:Cls X.K C)(k:Meth X.K C m g)(l:fs.lookup m=none)
 (h:Q (.ref g,[.ref a]) s):wpAny (model X.prog X.w) A (getMethod (.ref a) m pl) Q E s:=by
 let%[mA,O,r,_,_|_]:=pW I.hok e;let hn:mA m=none:=RelO.none_of (by rw[←l];exact r m);exact EA I.kIn O (c.get m) k.at_ k.fn hn h
def xN{Q:Unit->Shared->Prop}(I:#[8] H s)(e:H a=some (.ins C dx fs))(c:Cls X.K C)(n:NoAttr X.K C f)(hl:fs.length<1000)(ry:RelV y u)
 (h:∀s',#[8] (upd H a (.ins C dx (bV f y fs))) s'->Q () s'):wpAny (model X.prog X.w) A (setAttr (.ref a) f u) Q E s:=by
 let%[mA,O,r,wi,_|ho]:=pW I.hok e;let hz:(fs.map (·.1)).length<=sizeLine:=by rw[zF0,sizeLine_eq];omega
 apply Fz I.kIn O c.sa c.po n.taker c.hd wi hz λh' O' sb=>h _ ?_
 let hd:∃o,h'.get? dx=some o:=let⟨o,_,_,e',_⟩:=O'.ns;%[o|e']
 apply I.write (x:=a) (e:=dx) (by rw[e];exact True.intro) (.inr ho) (λb q hb z=>(sb.2 b hb).trans z) hd ?_;erw[by rw[aE O.ne];exact ho,6,O.ne,O'.obj,_,O'.ns,λg=>?_,λg hg=>?_]
 . have:=pB f y fs;omega
 . show RelO ((bV f y fs).lookup g) (if g=f then some u else mA g);rw[az]
   by_cases q:g=f
   . rw[M8 q,M8 q];exact ry
   . rw[M6 q,M6 q];exact r g
 . by_cases q:g=f
   . rw[q];exact(oN f y fs).1
   . refine(oN f y fs).2 g (wi g λz=>hg ?_);show(if g=f then some u else mA g)=none;rw[M6 q];exact z
def Inv.made(I:#[8] H s):#[8] (upd (upd H ‹s› (.own (‹s›+1))) (‹s›+1) (.ins C ‹s› []))
 { s with heap:=(s.heap.push PySem.W.emptyDict).push (PySem.W.instObj C ‹s›) }:=by
 let e1:(s.heap.push PySem.W.emptyDict).get? ‹s›=some PySem.W.emptyDict:=qE0 s.heap rfl;let e2:((s.heap.push PySem.W.emptyDict).push (PySem.W.instObj C ‹s›)).get? (‹s›+1)=some (PySem.W.instObj C ‹s›):=by
  have:=qE0 (s.heap.push PySem.W.emptyDict) (o:=PySem.W.instObj C ‹s›) rfl
  rwa [jC0]at this
 let e3:(s.heap.push PySem.W.emptyDict).Ns ‹s› (λ_=>none):=%[PySem.W.emptyDict,#[],_,e1,1,(λe he=>absurd he #[2])|λ_=>rfl]
 let I1:=I.laid (a:=‹s›) (o:=.own (‹s›+1)) (h':=s.heap.push PySem.W.emptyDict) (t':=s.toks) (λb u q=>zS0 _ q) (zH0 _) %[_|e1];apply I1.laid (a:=‹s›+1) (o:=.ins C ‹s› []) (t':=s.toks) (λb u q=>zS0 _ q) (Nat.le_of_eq (jC0 _ _)) ?_;let ne:‹s›≠‹s›+1:=qA0 (qM1 _);erw[by rw[aE ne,aP],zP0 _,ne,e2,λ_=>none,(Heap.Ns1.of_empty e3).at λo q=>zS0 _ q,λ_=>True.intro,λy hy=>absurd rfl hy]
def GY{prog:Program}{w:World}{env:Env}{e:Expr}{f:Str}{pos:Pos}{s:Shared}{Q:#[6]}(hb:attributeBase e f env (eval e env)=eval e env)
 (h:‹w.A› (eval e env) (λo s₁=>‹w.A› (getAttr o f true) Q E s₁) E s):‹w.A› (eval (.Attribute e f pos) env) Q E s:=
 Attribute_any_ h (by rw[arm_eval_Attribute,hb])
end
instance ZtFld(K:W.Frag)(f:Str)(Q:VK)(x:V)(H1:Hp):∀a C dx fs v,x=.ref a->H1 a=some (.ins C dx fs)->Cls K C->NoAttr K C f->fs.lookup f=some v->Q v H1:=0
def tFld(K:W.Frag)(ta:TE)(f:Str):TE:=λσ H Q=>ta σ H λx H1=>ZtFld K f Q x H1
instance ZsFld(K:W.Frag)(f:Str)(D:Ends)(σ:St)(y:V)(x:V)(H2:Hp):∀a C dx fs,x=.ref a->H2 a=some (.ins C dx fs)->Cls K C->NoAttr K C f->fs.length<1000->D.nx σ (upd H2 a (.ins C dx (bV f y fs))):=0
def sFld(K:W.Frag)(ta tv:TE)(f:Str):TS:=λD σ H=>tv σ H λy H1=>ta σ H1 λx H2=>ZsFld K f D σ y x H2
section
variable {X:Cx}{o e value:Expr}{f:Str}{pos pos' tpos:Pos}{ta tv:TE}
def aF(he:PE X e ta)(hb:attributeBase e f X.env (eval e X.env)=eval e X.env):PE X (.Attribute e f pos) (tFld X.K ta f):=by
 exists 4,Q,I,h;apply GY hb (thn (he M5 s σ H _ I h) λu s1 ⟨x,H1,I1,rx,a,C,dx,fs,v,ex,ea,c,n,l,q⟩=>?_);subst ex;obtain rfl:u=Value.ref a:=rx;exact yN I1 ea c n l λu' s2 I2 ru=>%[v,H1,I2,ru|q]
def ba(ha:PE X o ta)(hv:PE X value tv)(hs:swapsWith value (some (.Attribute o f pos')) pos.line X.env=pure false):PS X (.Assign [.Attribute o f pos'] value pos) (sFld X.K ta tv f):=by
 exists 4,D,I,h;apply plainObj_wpAny_Assign_Attribute (thn (hv M5 s σ H _ I h) λu s1 ⟨y,H1,I1,ry,q⟩=>thn (ha M5 s1 σ H1 _ I1 q) λov s2 ⟨x,H2,I2,rx,a,C,dx,fs,ex,ea,c,n,l,q2⟩=>?_) hs;subst ex;obtain rfl:ov=Value.ref a:=rx;exact xN I2 ea c n l ry λs3 I3=>%[σ,_,I3|q2]
end
section
variable {X:Cx}{M5:#[7]}{σ:St}{H:Hp}{s:Shared}{A:Around}{E:#[6]}{Q:#[6]}{c:Value}{b:Bool}
inductive TyOf(K:W.Frag)(H:Hp):V->Value->Prop where
 |non:TyOf K H .non (.type "NoneType")
 |bl (x:Bool):TyOf K H (.bl x) (.type "bool")
 |int (i:Int):TyOf K H (.int i) (.type "int")
 |str (x:Str):TyOf K H (.str x) (.type "str")
 |flt (x:UInt64):TyOf K H (.flt x) (.type "float")
 |lst {a:Addr} {xs:List V} (e:H a=some (.lst xs)):TyOf K H (.ref a) (.type "list")
 |frz {a:Addr} {o:Obj} {xs:List V} (e:H a=some (.frz o (.lst xs))):TyOf K H (.ref a) (.type "list")
 |tup {a:Addr} {xs:List V} (e:H a=some (.tup xs)):TyOf K H (.ref a) (.type "tuple")
 |dK {a:Addr} {M7:List (Key×V)} (e:H a=some (.dK M7)):TyOf K H (.ref a) (.type "dict")
 |dT {a:Addr} {M7:List (List Key×V)} (e:H a=some (.dT M7)):TyOf K H (.ref a) (.type "dict")
 | ins {a C dx:Addr} {fs:List (Str×V)} (e:H a=some (.ins C dx fs)) (cl:Cls K C) (ha:PySem.W.findIn K (.ref C) "__class__"=some (some (.builtin "object.__class__")))
  (hn:PySem.W.specialIn K (.builtin "object.__class__") "__get__"=some (some (.builtin "getset_descriptor.__get__"))) (htk:PySem.W.takesIn K (.builtin "object.__class__")=some true)
  (hm:PySem.W.mroIn K C (.type "object")=some true):TyOf K H (.ref a) (.ref C)
def Bu(I:#[8] H s)(rx:RelV x u)(ty:TyOf X.K H x t)(e:PySem.W.kitOne X.K t c=some b)(h:∀tk,Q (.bool b) { s with toks:=tk }):
 wpAny (model X.prog X.w) A (call (.builtin "isinstance") [u,c]) Q E s:=by
 cases ty with
 |non=>cases(show u=Value.none from rx);exact qB1 PySem.W.kitx_none I.kIn True.intro e (λz=>nomatch z) h
 |bl y=>cases(show u=Value.bool y from rx);exact qB1 PySem.W.kitx_bool I.kIn True.intro e (λz=>nomatch z) h
 |int i=>let%[t|q]:=(show ∃t,u=Value.int i t from rx);cases q;exact qB1 PySem.W.kitx_int I.kIn True.intro e (λz=>nomatch z) h
 |str y=>let%[t|q]:=(show ∃t,u=Value.str y t from rx);cases q;exact qB1 PySem.W.kitx_str I.kIn True.intro e (λz=>nomatch z) h
 |flt y=>let%[t|q]:=(show ∃t,u=Value.float y t from rx);cases q;exact qB1 PySem.W.kitx_float I.kIn True.intro e (λz=>nomatch z) h
 | @lst a xs ea=>
   cases(show u=Value.ref a from rx);let%[_,_,n,_|h1]:=(show ObjOk X.prog X.w H s.heap a (.lst xs)from I.hok a _ ea)
   exact qB1 PySem.W.kitx_list I.kIn %[_,h1|1] e (λz=>nomatch z) h
 | @frz a ob xs ea=>
   cases(show u=Value.ref a from rx);let%[_,_,_,n,_|h1]:=(show ObjOk X.prog X.w H s.heap a (.frz ob (.lst xs))from I.hok a _ ea)
   exact qB1 PySem.W.kitx_list I.kIn %[_,h1|1] e (λz=>nomatch z) h
 | @tup a xs ea=>
   cases(show u=Value.ref a from rx);let%[_,_,_,p|_]:=(show ObjOk X.prog X.w H s.heap a (.tup xs)from I.hok a _ ea)
   erw[o,h1,h2,_]at p;exact qB1 PySem.W.kitx_tuple I.kIn %[o,h1|h2] e (λz=>nomatch z) h
 | @dK a M7 ea=>
   cases(show u=Value.ref a from rx);let%[_,_,vs,_|p]:=(show ObjOk X.prog X.w H s.heap a (.dK M7)from I.hok a _ ea)
   erw[o,es,ep,h1,h2,_]at p;exact qB1 PySem.W.kitx_dict I.kIn %[o,h1|h2.1] e (λz=>nomatch z) h
 | @dT a M7 ea=>
   cases(show u=Value.ref a from rx);let%[_,_,xs,_,o,es,ep,h1,h2|_]:=(show ObjOk X.prog X.w H s.heap a (.dT M7)from I.hok a _ ea)
   exact qB1 PySem.W.kitx_dict I.kIn %[o,h1|h2.1] e (λz=>nomatch z) h
 | @ins a C dx fs ea cl ha hn htk hm=>
   cases(show u=Value.ref a from rx);let%[mA,O|_]:=pW I.hok ea;erw[od,J,_]at O.look;exact qB1 (PySem.W.kitx_own (cl.get _) cl.hd ha hn htk hm) I.kIn J e (λz=>nomatch z) h
end
structure Room(k:Nat)(A:Around):Prop where
 hd:A.handled=none
 gd:A.guards=some []
 dp:A.depth+3*k+5<recursionLimit
 un:A.units+16*k+200<cLine
def Room.mono{j:Nat}(r:Room k A)(h:j<=k):Room j A:=%[r.hd,r.gd,by have:=r.dp;omega|by have:=r.un;omega]
def Room.deeper{k:Nat}(r:Room (k+1) A)(env:Env):Room k (A.deeper env):=
 %[r.hd,r.gd,by have:=r.dp;show A.depth+1+3*k+5<_;omega|by have:=r.un;show A.units+3+16*k+200<_;omega]
def yE{A:Around}{C:Addr}{us:List Value}{kw:List (Str×Value)}:(A.under (.builtin "type.__call__" %[.ref C::us|kw])).depth=A.depth+1:=by
 first | rfl | simp [Around.under,Code.weight,Code.isCreation,Code.isGuard,Code.isCaller,Code.frames,Code.isFrame,guardIds]
def yD{A:Around}{C:Addr}{us:List Value}{kw:List (Str×Value)}:(A.under (.builtin "type.__call__" %[.ref C::us|kw])).units=A.units+1:=by
 first | rfl | simp [Around.under,Code.cUnits,Code.frames,Code.isFrame]
def Room.make{k:Nat}(r:Room (k+1) A)(C:Addr)(us:List Value)(kw:List (Str×Value)):Room k (A.under (.builtin "type.__call__" %[.ref C::us|kw])):=
 %[r.hd,by simp [Around.under,Code.guards,Code.isGuard,guardIds,pushGuards,r.gd],by have:=r.dp;rw[yE];omega|by have:=r.un;rw[yD];omega]
def Room.depth(r:Room k A):A.depth<recursionLimit:=by have:=r.dp;omega
def Room.units(r:Room k A):A.units+64<cLine:=by have:=r.un;omega
def Al:TA:=λ_ H Q=>Q [] H
def qj(ta:TE)(tr:TA):TA:=λσ H Q=>ta σ H λx H1=>tr σ H1 λxs H2=>Q (x::xs) H2
section
variable {X:Cx}{e:Expr}{es:List Expr}{te:TE}{t:TA}{pos:Pos}
def aQ:PA X [] Al:=λ_ _ _ _ H Q I h=>qY1 %[[],H,I,.nil|h]
def ag(ha:PE X e te)(hr:PA X es t)(hs:starEach (e::es) X.env=(false,eval e X.env)::starEach es X.env:=by rfl):PA X (e::es) (qj te t):=by
 intro pos M5 s σ H Q I h;rw[hs];show wpAny _ _ (spliced ((false,eval e X.env)::backTo pos (starEach es X.env))) _ _ s;apply qK1 (thn (ha M5 s σ H _ I h) λu s1 ⟨x,H1,I1,r1,q1⟩=>?_);exact thn (hr pos M5 s1 σ H1 _ I1 q1) λus s2 ⟨xs,H2,I2,r2,q2⟩=>%[x::xs,H2,I2,.cons r1 r2|q2]
instance ZtTup(Q:VK)(xs:(List V))(H1:Hp):xs.length<=sizeLine->(∀p,H1 p=none->Q (.ref p) (upd H1 p (.tup xs))):=0
def tTup(t:TA):TE:=λσ H Q=>t σ H λxs H1=>ZtTup Q xs H1
instance ZtLst(Q:VK)(xs:(List V))(H1:Hp):xs.length<=sizeLine->(∀p,H1 p=none->Q (.ref p) (upd H1 p (.lst xs))):=0
def tLst(t:TA):TE:=λσ H Q=>t σ H λxs H1=>ZtLst Q xs H1
def aM{x1}(h:PA X es t):PE X (.Tuple es x1 pos) (tTup t):=by
 exists 4,Q,I,hq;apply wpAny_Tuple_spliced (thn (h pos M5 s σ H _ I hq) λus s1 ⟨xs,H1,I1,r,z,q⟩=>%[by rw[←r.length];exact z|6]);let hf:H1 ‹s1›=none:=I1.hok.fresh (zH0 _);erw[.ref ‹s1›,upd H1 ‹s1› (.tup xs),I1.laid (t':=s1.toks) (λb u e=>zS0 _ e) (zH0 _) ?_,1,q _ hf];erw[z,us,r,%[_,qE0 _ rfl,1|0],_,qE0 _ rfl,1]
def cS(h:PA X es t):PE X (.List es pos) (tLst t):=by
 exists 4,Q,I,hq;apply wpAny_List_spliced (thn (h pos M5 s σ H _ I hq) λus s1 ⟨xs,H1,I1,r,z,q⟩=>%[by rw[←r.length];exact z|6]);let hf:H1 ‹s1›=none:=I1.hok.fresh (zH0 _);erw[.ref ‹s1›,upd H1 ‹s1› (.lst xs),I1.laid (t':=s1.toks) (λb u e=>zS0 _ e) (zH0 _) ?_,1,q _ hf];erw[z,us,(0),r,qE0 _ rfl]
end
abbrev Sp:=List V->Hp->VK->XK->Prop
abbrev CXT:=List Env->Hp->Shared->XK->#[6]
structure Env0(P:Program)(w:World)(K:W.Frag)(mg:#[9])(base:Heap)(A:Around)(outer:List Env)(s:Shared)(H:Hp):Prop where
 frames:A.frames=some outer
 mod:Mod K mg base
 bs:∀b o,base.get? b=some o->s.heap.get? b=some o/\H b=none
 bsz:base.objs.size<=‹s›
 funs:s.heap.FunFrames base outer
 frf:∀b∈frs outer,H b=none
 hok:HOk P w H s.heap
 bare:AllBare s.gens
def CE(outer:List Env)(P:Program)(w:World)(H:Hp)(s:Shared)(Q:VK)(u:Value)(s':Shared):Prop:=
 ∃v H',s'.os=s.os/\AllBare s'.gens/\Un (frs outer) [] H H' s.heap s'.heap/\HOk P w H' s'.heap/\RelV v u/\Q v H'
def CR(CX:CXT)(outer:List Env)(P:Program)(w:World)(H:Hp)(s:Shared)(Q:VK)(E:XK)(r:Result)(s':Shared):Prop:=
 match r with
 |.ok (.ret u)=>CE outer P w H s Q u s'
 |.ok _=>False
 |.error e=>CX outer H s E e s'
structure FnOk(P:Program)(w:World)(K:W.Frag)(mg:#[9])(base:Heap)(CX:CXT)(k:Nat)(f:Addr)(fd:FuncData)(ps:List Str)(sp:Sp):Prop where
 len:∀vs H Q E,sp vs H Q E->vs.length=ps.length
 run:∀(A:Around)(outer:List Env)(s:Shared)(H:Hp)(args:Args)(us:List Value)(vs:List V)(Q:VK)(E:XK),Room k A->Env0 P w K mg base A outer s H->BindsTo s fd args (ps.zip us)->Vals vs us->sp vs H Q E ->
  codeAny (model P w) A (.call (.ref f) args) (CR CX outer P w H s Q E) s
def Env0.make{K:W.Frag}(e:Env0 P w K mg base A outer s H)(C:Addr)(us:List Value)(kw:List (Str×Value)):
 Env0 P w K mg base (A.under (.builtin "type.__call__" %[.ref C::us|kw])) outer s H:=⟨by first | exact e.frames | (simpa [Around.under,Code.envs,Code.isFrame,pushEnvs]using e.frames),e.mod,e.bs,e.bsz,e.funs,e.frf,e.hok,e.bare⟩
section
variable {X:Cx}{M5:#[7]}{σ:St}{H:Hp}{s s':Shared}
def Inv.env0(I:#[8] H s):Env0 X.prog X.w X.K X.mg X.base X.A X.stack s H:=
 %[I.ok.frames,I.ok.mod,I.bs,zT0 I.ok.bsz I.sz,I.stack,I.stkFree,I.hok|I.bare]
def Inv.after(I:#[8] H s)(h:CE X.stack X.prog X.w H s Q u s'):EP X M5 σ Q u s':=by
 erw[v,H',os,bare,un,hok,r,q]at h;erw[hh,g,d,t,os']at s';obtain rfl:os'=s.os:=os;erw[v,H',I.call (h':=hh) (g':=g) (d':=d) (t':=t) (ch:=[]) un hok bare (λb z=>absurd z #[2]),r,q]
end
def vJ(sp:Sp)(dvs:List V)(E:XK)(t:TA):TE:=λσ H Q=>t σ H λvs H1=>sp (vs++dvs) H1 Q E
instance ZtMeth(C:Addr)(m:Str)(sp:Sp)(dvs:List V)(E:XK)(t:TA)(σ:St)(Q:VK)(x:V)(H1:Hp):∀a dx fs,x=.ref a->H1 a=some (.ins C dx fs)->fs.lookup m=none->(t σ H1 λvs H2=>sp (x::(vs++dvs)) H2 Q E):=0
def Hf(C:Addr)(m:Str)(sp:Sp)(dvs:List V)(E:XK)(ta:TE)(t:TA):TE:=λσ H Q=>ta σ H λx H1=>ZtMeth C m sp dvs E t σ Q x H1
def tMake(C:Addr)(sp:Sp)(dvs:List V)(E:XK)(t:TA):TE:=λσ H Q=>t σ H λvs H1=>∀x dx,H1 x=none->H1 dx=none->dx≠x ->
 sp (.ref x::(vs++dvs)) (upd (upd H1 dx (.own x)) x (.ins C dx [])) (λv H2=>v=.non/\Q (.ref x) H2) E
def Binds(K:W.Frag)(fd:FuncData)(ps:List Str)(ds:List Value):Prop:=
 ∀(s:Shared)(us:List Value),K.In s.heap->(us++ds).length=ps.length->BindsTo s fd %[us|[]] (ps.zip (us++ds))
def Binds.all{K:W.Frag}{fd:FuncData}{ps:List Str}(h:∀us:List Value,us.length=ps.length->bindArgs fd %[us|[]]=pure (ps.zip us)):Binds K fd ps []:=λs us _ hl=>by
 rw[qI1]at hl ⊢;exact .of_eq (h us hl)
def kX(CX:CXT)(X:Cx)(E:XK):Prop:=∀(M5:#[7])(σ:St)(H:Hp)(s:Shared)(e:Value)(s':Shared),#[8] H s->CX X.stack H s E e s'->X.xe e s'
section
variable {X:Cx}{CX:CXT}{k:Nat}{f C:Addr}{fd:FuncData}{ps:List Str}{sp:Sp}{dvs:List V}{ds:List Value}{E:XK}{x m:Str}{p pos Ng:Pos}{e o:Expr}{es:List Expr}{ta:TE}{t:TA}
def uL{σ:St}{Q:VK}(F:FnOk X.prog X.w X.K X.mg X.base CX k f fd ps sp)(hr:Room k X.A)(hb:Binds X.K fd ps ds)(hd:Vals dvs ds)(hx:kX CX X E)
 (I:#[8] H s)(r:Vals vs us)(h:sp (vs++dvs) H Q E):‹X.w› (call (.ref f) us) (EP X M5 σ Q) X.xe s:=by
 let r2:Vals (vs++dvs) (us++ds):=r.append hd;let hl:(us++ds).length=ps.length:=by rw[←r2.length];exact F.len _ _ _ _ h
 apply wpAny_call (vB0 (F.run X.A X.stack s H %[us|[]] (us++ds) (vs++dvs) Q E hr I.env0 (hb s us I.kIn hl) r2 h) λr s' hq=>?_);cases r with
 |error e=>exact hx M5 σ H s e s' I hq
 |ok fl=>
   cases fl with
   |ret u=>exact I.after hq
   |next=>exact False.elim hq
   |brk=>exact False.elim hq
   |cont=>exact False.elim hq
def FR(F:FnOk X.prog X.w X.K X.mg X.base CX k f fd ps sp)(hr:Room k X.A)(hg:Gl X x)(hm:X.mg x=some (.ref f))(hk:PySem.W.keepIn X.K (.ref f)=true)(hb:Binds X.K fd ps ds)(hd:Vals dvs ds)(hx:kX CX X E)
 (ha:PA X (e::es) t)(hdb:(x==("__debug__":Str))=false:=by decide)(he:starEach (e::es) X.env=(false,eval e X.env)::starEach es X.env:=by rfl)(hpl:(backTo pos (starEach es X.env)).any (·.1)=false:=by rfl):
 PE X (.Call (.Name x p) (e::es) [] pos) (vJ sp dvs E t):=by
 exists 4,Q,I,h;apply qL1 (pU I hg hm ?_ hdb);apply wL0 (h₀:=X.base) I.ok.mod.kin hk (thn (ha pos M5 s σ H _ I h) λus s1 ⟨vs,H1,I1,r,q⟩=>%[I1.kIn|6]) he hpl;exact uL F hr hb hd hx I1 r q
def DC(F:FnOk X.prog X.w X.K X.mg X.base CX k f fd ps sp)(hr:Room k X.A)(hg:Gl X x)(hm:X.mg x=some (.ref f))(hk:PySem.W.keepIn X.K (.ref f)=true)(hb:Binds X.K fd ps ds)(hd:Vals dvs ds)(hx:kX CX X E)
 (hdb:(x==("__debug__":Str))=false:=by decide):PE X (.Call (.Name x p) [] [] pos) (vJ sp dvs E Al):=by
 exists 4,Q,I,h;apply qL1 (pU I hg hm ?_ hdb);exact PySem.W.callWith_K0 I.kIn hk (uL (us:=[]) F hr hb hd hx I .nil h)
def bQ{pl:Sem Bool}(he:PE X o ta)(c:Cls X.K C)(hm:Meth X.K C m f)(F:FnOk X.prog X.w X.K X.mg X.base CX k f fd ps sp)(hr:Room k X.A)(hb:Binds X.K fd ps ds)(hd:Vals dvs ds)(hx:kX CX X E)(ha:PA X (e::es) t)
 (Na:starEach (e::es) X.env=(false,eval e X.env)::starEach es X.env:=by rfl)(hpl:(backTo pos (starEach es X.env)).any (·.1)=false:=by rfl)
 (ht:eval (.Call (.Attribute o m Ng) (e::es) [] pos) X.env=(do
  let ov ←eval o X.env
  standAt Ng.atName
  let(f,first) ←holding [ov] (getMethod ov m pl)
  callWith pos f first (backTo pos (starEach (e::es) X.env)) (backToKw pos (keywordEach [] X.env))):=by rfl) :
 PE X (.Call (.Attribute o m Ng) (e::es) [] pos) (Hf C m sp dvs E ta t):=by
 exists 4,Q,I,h;apply PySem.W.methodCall_KW (pl:=pl) (thn (he M5 s σ H _ I h) λu s1 ⟨x,H1,I1,rx,a,dx,fs,ex,ea,l,q⟩=>?_) ht;subst ex;obtain rfl:u=Value.ref a:=rx;apply rW I1 ea c hm l ?_;apply wL0 (first:=[.ref a]) (h₀:=X.base) I.ok.mod.kin hm.kp (thn (ha pos M5 s1 σ H1 _ I1 q) λus s2 ⟨vs,H2,I2,r,q2⟩=>%[I2.kIn|6]) Na hpl;exact uL (us:=.ref a::us) (vs:=.ref a::vs) F hr hb hd hx I2 (.cons rfl r) q2
def cx{pl:Sem Bool}(he:PE X o ta)(c:Cls X.K C)(hm:Meth X.K C m f)(F:FnOk X.prog X.w X.K X.mg X.base CX k f fd ps sp)(hr:Room k X.A)(hb:Binds X.K fd ps ds)(hd:Vals dvs ds)(hx:kX CX X E)
 (ht:eval (.Call (.Attribute o m Ng) [] [] pos) X.env=(do
  let ov ←eval o X.env
  standAt Ng.atName
  let(f,first) ←holding [ov] (getMethod ov m pl)
  callWith pos f first (backTo pos (starEach [] X.env)) (backToKw pos (keywordEach [] X.env))):=by rfl) :
 PE X (.Call (.Attribute o m Ng) [] [] pos) (Hf C m sp dvs E ta Al):=by
 exists 4,Q,I,h;apply PySem.W.methodCall_KW (pl:=pl) (thn (he M5 s σ H _ I h) λu s1 ⟨x,H1,I1,rx,a,dx,fs,ex,ea,l,q⟩=>?_) ht;subst ex;obtain rfl:u=Value.ref a:=rx;apply rW I1 ea c hm l ?_;exact PySem.W.callWith_K0 (first:=[.ref a]) I1.kIn hm.kp (uL (us:=[.ref a]) (vs:=[.ref a]) F hr hb hd hx I1 (.cons rfl .nil) q)
structure Mk(K:W.Frag)(C f:Addr):Prop where
 makes:PySem.W.makesIn K C=true
 init:PySem.W.findIn K (.ref C) "__init__"=some (some (.ref f))
 fn:PySem.W.isFn K (.ref f)=true
 kp:PySem.W.keepIn K (.ref C)=true
def Dg{σ:St}{Q:VK}(M:Mk X.K C f)(F:FnOk X.prog X.w X.K X.mg X.base CX k f fd ps sp)(hr:Room (k+1) X.A)(hb:Binds X.K fd ps ds)(hd:Vals dvs ds)
 (hx:kX CX X E)(I:#[8] H s)(r:Vals vs us)
 (h:∀x dx,H x=none->H dx=none->dx≠x->sp (.ref x::(vs++dvs)) (upd (upd H dx (.own x)) x (.ins C dx [])) (λv H2=>v=.non/\Q (.ref x) H2) E):
 ‹X.w› (call (.ref C) us) (EP X M5 σ Q) X.xe s:=by
 let hq:=h (‹s›+1) ‹s› (I.hok.fresh (qM0 _)) (I.hok.fresh (zH0 _)) (qA0 (qM1 _));let I2:=Inv.made (C:=C) I;let r2:Vals (V.ref (‹s›+1)::(vs++dvs)) (Value.ref (‹s›+1)::(us++ds)):=.cons rfl (r.append hd);let hl:(Value.ref (‹s›+1)::us++ds).length=ps.length:=by
  let e:=r2.length;rw[F.len _ _ _ _ hq]at e;exact e.symm
 apply wpAny_call (Eg (f:=f) I.kIn M.makes M.init (beq_iff_eq.mp M.fn) (vB0 (F.run _ X.stack _ _ %[Value.ref (‹s›+1)::us|[]] (Value.ref (‹s›+1)::(us++ds)) _ _ E (hr.make C us [])
  (I2.env0.make C us []) (hb _ (Value.ref (‹s›+1)::us) I2.kIn hl) r2 hq) λr s' hq'=>?_))
 cases r with
 |error e=>exact hx M5 σ _ _ e s' I2 hq'
 |ok fl=>
   cases fl with
   |ret u=>
     let%[v,H',I3,rv,ev|q3]:=I2.after hq';subst ev;erw[rv,%[V.ref (‹s›+1),H',I3,1|q3]]
   |next=>exact False.elim hq'
   |brk=>exact False.elim hq'
   |cont=>exact False.elim hq'
def jH(M:Mk X.K C f)(F:FnOk X.prog X.w X.K X.mg X.base CX k f fd ps sp)(hr:Room (k+1) X.A)(hg:Gl X x)(hm:X.mg x=some (.ref C))(hb:Binds X.K fd ps ds)(hd:Vals dvs ds)(hx:kX CX X E)
 (ha:PA X (e::es) t)(hdb:(x==("__debug__":Str))=false:=by decide)(he:starEach (e::es) X.env=(false,eval e X.env)::starEach es X.env:=by rfl)(hpl:(backTo pos (starEach es X.env)).any (·.1)=false:=by rfl):
 PE X (.Call (.Name x p) (e::es) [] pos) (tMake C sp dvs E t):=by
 exists 4,Q,I,h;apply qL1 (pU I hg hm ?_ hdb);apply wL0 (h₀:=X.base) I.ok.mod.kin M.kp (thn (ha pos M5 s σ H _ I h) λus s1 ⟨vs,H1,I1,r,q⟩=>%[I1.kIn|6]) he hpl;exact Dg M F hr hb hd hx I1 r q
end
structure FnScope(N P:List Str)(sc:Scope):Prop where
 kind:sc.kind=.function
 co:sc.isCoroutine=false
 gen:sc.isGenerator=false
 nd:N.Nodup
 pre:N.take P.length=P
 par:∀x∈P,sc.names.lookup x=some .local∨sc.names.lookup x=some .cell
 nofree:∀y∈sc.names,y.2≠.free
def tU{kindOf:Str->Option NameKind}{x:Str}:∀{binds:List (Str×Value)}{m:#[9]},(∀v,(x,v)∉binds)->bindL kindOf binds m x=m x
 | [],_,_=>rfl
 | (n,v)::r,m,h=>by
   unfold bindL;rw[tU λw hw=>h w (qK0 _ hw)]
   split
   . have:x≠n:=by rintro rfl;exact h v zX0
     simp [this]
   . rfl
def tW{kindOf:Str->Option NameKind}{x:Str}:∀{binds:List (Str×Value)}{m:#[9]},(∀v,(x,v)∉binds)->bindC kindOf binds m x=m x
 | [],_,_=>rfl
 | (n,v)::r,m,h=>by
   unfold bindC;rw[tW λw hw=>h w (qK0 _ hw)]
   split
   . rfl
   . have:x≠n:=by rintro rfl;exact h v zX0
     simp [this]
def tV{kindOf:Str->Option NameKind}{x:Str}{v:Value}:∀{P:List Str}{vs:List Value}{i:Nat}{m:#[9]},P.Nodup->P[i]?=some x->vs[i]?=some v->kindOf x=some .local ->
 bindL kindOf (P.zip vs) m x=some v
 | [],_,_,_,_,h,_,_=>by simp at h
 |_::_,[],_,_,_,_,h,_=>by simp at h
 |p::P,w::vs,0,m,nd,h1,h2,hk=>by
   simp at h1 h2;subst h1;subst h2
   show bindL kindOf ((p,w)::P.zip vs) m p=_;unfold bindL;rw[tU λv hv=>(List.nodup_cons.mp nd).1 (List.of_mem_zip hv).1,M8 hk]
   simp
 |p::P,w::vs,i+1,m,nd,h1,h2,hk=>by
   show bindL kindOf ((p,w)::P.zip vs) m x=_;unfold bindL;exact tV (i:=i) (List.nodup_cons.mp nd).2 #[h1,0] #[h2,0] hk
def tX{kindOf:Str->Option NameKind}{x:Str}{v:Value}:∀{P:List Str}{vs:List Value}{i:Nat}{m:#[9]},P.Nodup->P[i]?=some x->vs[i]?=some v->kindOf x≠some .local ->
 bindC kindOf (P.zip vs) m x=some v
 | [],_,_,_,_,h,_,_=>by simp at h
 |_::_,[],_,_,_,_,h,_=>by simp at h
 |p::P,w::vs,0,m,nd,h1,h2,hk=>by
   simp at h1 h2;subst h1;subst h2
   show bindC kindOf ((p,w)::P.zip vs) m p=_;unfold bindC;rw[tW λv hv=>(List.nodup_cons.mp nd).1 (List.of_mem_zip hv).1,M6 hk]
   simp
 |p::P,w::vs,i+1,m,nd,h1,h2,hk=>by
   show bindC kindOf ((p,w)::P.zip vs) m x=_;unfold bindC;exact tX (i:=i) (List.nodup_cons.mp nd).2 #[h1,0] #[h2,0] hk
def oX(N:List Str)(vs:List V):St:=vs.map some++List.replicate (N.length-vs.length) none
def BP(CX:CXT)(P:Program)(w:World)(K:W.Frag)(mg:#[9])(base:Heap)(N:List Str)(qual:Str)(scope:Scope)(f:Addr)(cd:Value)(A:Around)(outer:List Env)(s:Shared)(H:Hp)(E:XK):Cx where
 prog:=P
 w:=w
 K:=K
 mg:=mg
 base:=base
 A:=A.deeper (envOfC qual scope ‹s› f cd)
 N:=N
 s₀:=s
 H₀:=H
 env:=envOfC qual scope ‹s› f cd
 outer:=outer
 stack:=envOfC qual scope ‹s› f cd::outer
 ex:=[]
 calm:=true
 fn:=λ_=>true
 pn:=[]
 xe:=λe s'=>wpAny (model P w) (A.deeper (envOfC qual scope ‹s› f cd)) (leaving (envOfC qual scope ‹s› f cd) e) (λ_ s''=>CX outer H s E e s'') (λe' s''=>CX outer H s E e' s'') s'
def xq{sc:Scope}{n:Nat}{x:Str}(h:sc.names.lookup x=some .cell):∃c,(cellsFrom n sc.names []).lookup x=some c:=by
 let q:=PySem.W.cellsFrom_some sc.names n [] (.inl h);exact Option.isSome_iff_exists.mp q
def Bw{K:W.Frag}{qual:Str}{f:Addr}{cd:Value}{A:Around}{s1:Shared}{vs:List V}
 (S:FnScope N ps scope)(hd:A.handled=none)(e0:Env0 P w K mg base A outer s H)(hl:vs.length=ps.length)(r:Vals vs us)
 (x:InCallC s ‹s› (bindL (envOfC qual scope ‹s› f cd).kindOf (ps.zip us) λ_=>none) (cellsFrom (‹s›+1) scope.names []) (bindC (envOfC qual scope ‹s› f cd).kindOf (ps.zip us) λ_=>none) s1):
 Inv (BP CX P w K mg base N qual scope f cd A outer s H E) [] (oX N vs) H s1:=by
 let hpl:ps.length<=N.length:=by have:=congrArg List.length S.pre;rw[qF0]at this;omega
 erw[h1,tk,1,hk]at x.done;let noA:∀b:Addr,b∉(BP CX P w K mg base N qual scope f cd A outer s H E).ex:=λb z=>absurd (show b∈([]:List Addr)from z) #[2]
 erw[%[e0.mod,S.kind,1,1,zH0 _,λy z c h1 h2=>?_,λy hy=>?_,λy c _ h=>?_,λ_=>hd,Around.frames_deeper e0.frames,.inr %[1|1],λb z=>absurd z (noA b),e0.bs,e0.bsz,λb _ _=>noA b,λb z=>absurd z (noA b),e0.funs|e0.frf],1,e0.bare,Un.kept hk,%[_,x.toInCall.ns|λi y v h1 h2 h3=>?_],λy c h=>%[_|x.cell y c h],e0.hok.fresh (zH0 _),λy c h=>?_,λp hp=>absurd (show p∈([]:#[7])from hp) #[2],e0.hok.kept hk,6]
 . exact name_of_addr x.apart (zX1 h1) (zX1 h2)
 . let hy:scope.names.lookup y=some .cell∨scope.names.lookup y=some .free:=hy;rcases hy with hy | hy
   . exact xq hy
   . exact absurd rfl (S.nofree _ (zX1 hy))
 . exact wK0 (x.above y c (zX1 h))
 . let hi:i<vs.length:=by
    unfold oX at h2
    by_cases hi:i<vs.length
    . exact hi
    . rw [zN1 #[hi,0]]at h2;rw[List.getElem?_replicate]at h2
      split at h2 <;> cases h2
   let ha:vs[i]?=some v:=by
    unfold oX at h2;rw[zQ1 #[hi,0],zW0]at h2;cases e:vs[i]? with
    |none=>rw[e]at h2;cases h2
    |some a=>rw[e]at h2;cases h2;rfl
   let%[u,hu|rv]:=r.get ha;let hp:ps[i]?=some y:=by
    rw[←S.pre,List.getElem?_take_of_lt #[0]];exact h1
   let ndP:ps.Nodup:=by rw[←S.pre];exact S.nd.sublist (List.take_sublist _ _)
   erw[u,rv,6];rcases S.par y (qD0 hp)with k | k
   . exact .inl %[k|tV ndP hp hu k]
   . let%[c|e]:=xq (n:=‹s›+1) k;refine .inr %[.inl k,c,e|6];let q:=x.cell y c e;rw[tX ndP hp hu (by show scope.names.lookup y≠_;rw[k];decide)]at q;exact q
 . exact e0.hok.fresh (wK0 (x.above y c (zX1 h)))
 . unfold oX;show _=N.length;rw[zL0,zF0,zY1];omega
def fn_of{K:W.Frag}{f:Addr}{name qual:Str}{params:Arguments}{body:List Stmt}{scope:Scope}{dV kV doc pm cdv ct oc:Value}{an od:Option Addr}
 {osl:Array (Option Value)}{sp:Sp}(lk:K.lookup f=some %[oc,od,.func (PySem.W.fnOf name qual params body scope dV kV doc pm an cdv ct)|osl])(hcd:PySem.W.codeIn K cdv qual=true)(S:FnScope N ps scope)
 (len:∀vs H Q E,sp vs H Q E->vs.length=ps.length)
 (hbody:∀(A:Around)(outer:List Env)(s:Shared)(H:Hp)(vs:List V)(Q:VK)(E:XK),Room k (A.deeper (envOfC qual scope ‹s› f cdv))->sp vs H Q E ->
  ∃t,PSs (BP CX P w K mg base N qual scope f cdv A outer s H E) body t/\t { nx:=λ_ H'=>Q .non H',rt:=Q } (oX N vs) H) :
 FnOk P w K mg base CX (k+1) f (PySem.W.fnOf name qual params body scope dV kV doc pm an cdv ct) ps sp:=by
 erw[len,λA outer s H args us vs Q E hr e0 hb r hsp=>?_];let hl:=len _ _ _ _ hsp;let KX:K.In s.heap:=e0.mod.kin.keeps λb o e=>(e0.bs b o e).1
 let lim:s.heap.NoLimit:=e0.mod.nolimit.keeps λb o e=>(e0.bs b o e).1
 let hkind:∀y∈ps.zip us,scope.names.lookup y.1=some .local∨(scope.names.lookup y.1=some .cell/\((cellsFrom (‹s›+1) scope.names []).lookup y.1).isSome=true):=fun⟨n,v⟩ hy=>by
  rcases S.par n (List.of_mem_zip hy).1 with q | q
  . exact .inl q
  . exact .inr %[q|PySem.W.cellsFrom_some _ _ _ (.inl q)]
 apply codeAny_call_function hr.depth (KX _ _ lk) rfl S.co S.gen rfl (PySem.W.codeRec_of KX hcd) (hb _ _ _ _ ?_);apply wpAny_newFunctionEnv_cells S.kind hkind λenv he s1 x=>?_
 subst he;erw[lim.keeps x.toInCall.keep,codeAny_func ?_];let%[t,ht|hq]:=hbody A outer s H vs Q E (hr.deeper _) hsp;let I:Inv (BP CX P w K mg base N qual scope f cdv A outer s H E) [] (oX N vs) H s1:=Bw S hr.hd e0 hl r x;apply qQ1 (ht [] s1 (oX N vs) H _ I hq) (λfl s' hs=>?_) λe s' hs=>hs
 let fin:∀{σ':St}{H':Hp}{v:V}{u:Value},Inv (BP CX P w K mg base N qual scope f cdv A outer s H E) [] σ' H' s'->RelV v u->Q v H'->CE outer P w H s Q u s':=
  fun{σ' H' v u} J rv q=>%[v,H',J.os,J.bare,J.base,J.hok,rv|q]
 cases fl with
 |ret u=>
   erw[v,σ',H',J,rv,q]at hs;exact fin J rv q
 |next=>
   erw[σ',H',J,q]at hs;exact fin (v:=V.non) (u:=Value.none) J rfl q
 |brk=>
   erw[_,_,_,q]at hs;exact False.elim q
 |cont=>
   erw[_,_,_,q]at hs;exact False.elim q
section
variable {X:Cx}{x:Str}{p pos:Pos}{e:Expr}{es:List Expr}{t:TA}{id T:String}{r:List V->Hp->VK->Prop}
def tCB(r:List V->Hp->VK->Prop)(t:TA):TE:=λσ H Q=>t σ H λvs H1=>r vs H1 Q
def aI(hc:gR X (.builtin id) r)(hg:Gl X x)(hm:X.mg x=none)(hv:bootBuiltins x=some (.builtin id))(ha:PA X (e::es) t)(hn:x≠"__name__":=by decide)(hdb:(x==("__debug__":Str))=false:=by decide)
 (he:starEach (e::es) X.env=(false,eval e X.env)::starEach es X.env:=by rfl)(hpl:(backTo pos (starEach es X.env)).any (·.1)=false:=by rfl):PE X (.Call (.Name x p) (e::es) [] pos) (tCB r t):=by
 exists 4,Q,I,h;apply qL1 (iO I hg hm hv ?_ hn hdb);exact PyProof.Rows.callWith_builtin1 (thn (ha pos M5 s σ H _ I h) λus s1 ⟨vs,H1,I1,r1,q1⟩=>hc M5 s1 σ H1 vs us Q I1 r1 q1) he hpl
def bd(hc:gR X (.type T) r)(hg:Gl X x)(hm:X.mg x=none)(hv:bootBuiltins x=some (.type T))(ha:PA X (e::es) t)(hn:x≠"__name__":=by decide)(hdb:(x==("__debug__":Str))=false:=by decide)
 (he:starEach (e::es) X.env=(false,eval e X.env)::starEach es X.env:=by rfl)(hpl:(backTo pos (starEach es X.env)).any (·.1)=false:=by rfl):PE X (.Call (.Name x p) (e::es) [] pos) (tCB r t):=by
 exists 4,Q,I,h;apply qL1 (iO I hg hm hv ?_ hn hdb);exact zO1 (thn (ha pos M5 s σ H _ I h) λus s1 ⟨vs,H1,I1,r1,q1⟩=>hc M5 s1 σ H1 vs us Q I1 r1 q1) he hpl
end
end L2
namespace HT
open PySem PyProof.Rows
section
variable {prog:Program}{w:World}{A:Around}{E:#[6]}{s:Shared}
def cat_tup{t b:Addr}{vs ws:List Value}{Q:#[6]}(ht:IsTup s.heap t vs.toArray)(hb:IsTup s.heap b ws.toArray)(hv:vs≠[])
 (h1:ws=[]->Q (.ref t) s)(h2:ws≠[]->Q (.ref ‹s›) { s with heap:=s.heap.push { cls:=.type "tuple",data:=.seq (vs++ws).toArray } })
 (hsz:vs.length+ws.length<=sizeLine):‹w.A› (binaryOp .Add (.ref t) (.ref b)) Q E s:=by
 let%[%[cls,dd,data|sl],ho,hc,n|hd]:=id ht;let%[%[cls2,dd2,data2|sl2],ho2,hc2,n2|hd2]:=id hb;simp only at hc hd hc2 hd2;subst hc hd hc2 hd2;let e:vs.toArray++ws.toArray=(vs++ws).toArray:=by simp
 by_cases hw:ws=[]
 . exact concat_meets %[_,ho|1] ⟨_,ho2,rfl⟩ wZ0 seq_tuple_add jT0 jP1 (jM1 _ _)
    (tuple_addW1 t b vs.toArray ws.toArray n n2 dd dd2 sl sl2 #[hv,0] (by simp [hw])) %[ho,ho2|h1 hw]
 . apply concat_meets %[_,ho|1] ⟨_,ho2,rfl⟩ wZ0 seq_tuple_add jT0 jP1 (jM1 _ _)
    (tuple_addW2 t b vs.toArray ws.toArray n n2 dd dd2 sl sl2 #[hv,0] #[hw,0] (by rw[zV0,zV0];exact hsz)) %[ho,ho2|6]
   rw[e];exact h2 hw
def sIx(n d:Nat):Option Int->Nat
 |none=>d
 |some v=>if v<0 then(v+(n:Int)).toNat else min v.toNat n
def sIx_none(n d:Nat):sIx n d none=d:=rfl
def sIx_nat(n d k:Nat):sIx n d (some (k:Int))=min k n:=by
 show(if(k:Int)<0 then((k:Int)+(n:Int)).toNat else min (k:Int).toNat n)=min k n;rw[M6 #[0],qT0]
def HL(n d:Nat)(hd:d<=n)(o:Option Int):sIx n d o<=n:=by
 cases o with
 |none=>exact hd
 |some v=>
   show(if v<0 then(v+(n:Int)).toNat else min v.toNat n)<=n
   by_cases hv:v<0
   . rw[M8 hv];omega
   . rw[M6 hv];exact Nat.min_le_right _ _
def zT(v:Int)(n d:Nat):(if v<0 then max (v+(n:Int)) 0 else min v (n:Int))=((sIx n d (some v):Nat):Int):=by
 show(if v<0 then max (v+(n:Int)) 0 else min v (n:Int))=(((if v<0 then(v+(n:Int)).toNat else min v.toNat n):Nat):Int)
 by_cases hv:v<0
 . simp only[M8 hv];omega
 . simp only[M6 hv];omega
def za(lo hi:Option Int)(n:Nat):Builtin.Slice.sliceAdjust lo hi 1 (n:Int)=(((sIx n 0 lo:Nat):Int),((sIx n n hi:Nat):Int)):=by
 let h1:¬ ((1:Int)<0):=#[0]
 unfold Builtin.Slice.sliceAdjust;simp only[h1,if_false];apply Prod.ext ?_ ?_
 . cases lo with
   |none=>rfl
   |some v=>exact zT v n 0
 . cases hi with
   |none=>rfl
   |some v=>exact zT v n n
def yg(i j:Nat):Builtin.Slice.slicePlaces (i:Int) (j:Int) 1=j-i:=by
 unfold Builtin.Slice.slicePlaces;let h1:(1:Int)>0:=#[0]
 simp only[h1,if_true,Int.ediv_one]
 split <;> omega
def qr{v:Value}{o:Option Int}{Q:Option Int->Shared->Prop}(p:IsPart v o)(h:Q o s):‹w.A› (Builtin.Slice.slicePartIndex v) Q E s:=by
 cases p with
 |none=>exact wP1 h
 |int i t=>exact slicePart_int h
def iS{sl:Addr}{vl vu:Value}{lo hi:Option Int}{Q:Int×Int×Nat->Shared->Prop}(hs:s.heap.IsSliceOf sl vl vu .none)(pl:IsPart vl lo)(pu:IsPart vu hi)
 (h:Q (((sIx n 0 lo:Nat):Int),1,sIx n n hi-sIx n 0 lo) s):‹w.A› (Builtin.Slice.sliceApplied (.ref sl) (pure (n:Int))) Q E s:=by
 let%[os,hos,hcs|hds]:=id hs;unfold Builtin.Slice.sliceApplied Builtin.Slice.sliceFields;apply zE0 (zE0 (qD1 hos hds (x:=vl) rfl (zE0 (qD1 hos hds (x:=vu) rfl (zE0 (qD1 hos hds (x:=.none) rfl (zI0 ?_)))))));apply zE0 (wP1 ?_);show wpAny _ _ (if((1:Int)==0)=true then _ else _) _ _ s;rw[M6 ⋯];apply zE0 (qr pl (zE0 (qr pu (zE0 (zI0 ?_)))));show wpAny _ _ (match Builtin.Slice.sliceAdjust lo hi 1 (n:Int)with | (lo,hi)=>pure (lo,(1:Int),Builtin.Slice.slicePlaces lo hi 1)) _ _ s;rw[za lo hi n];show wpAny _ _ (pure (((sIx n 0 lo:Nat):Int),(1:Int),Builtin.Slice.slicePlaces ((sIx n 0 lo:Nat):Int) ((sIx n n hi:Nat):Int) 1)) _ _ s;rw[yg];exact zI0 h
def Ds(xs:Array Value)(i k:Nat):((List.range k).filterMap fun(m:Nat)=>xs[((i:Int)+(m:Int)*1).toNat]?).toArray=((xs.toList.drop i).take k).toArray:=by
 let e:(fun(m:Nat)=>xs[((i:Int)+(m:Int)*1).toNat]?)=λm=>xs[i+m]?:=by
  funext m
  have:((i:Int)+(m:Int)*1).toNat=i+m:=#[0]
  rw[this]
 rw[e]
 have:=pick_run xs i k
 rw[List.filterMap_map]at this;let e2:((λx=>xs[x]?) ∘ λx=>i+x)=λm=>xs[i+m]?:=rfl
 rw[e2]at this;rw[this]
def getItem_tuple_cut{t sl:Addr}{items:Array Value}{vl vu:Value}{lo hi:Option Int}{Q:#[6]}(ht:IsTup s.heap t items)(hs:s.heap.IsSliceOf sl vl vu .none)(pl:IsPart vl lo)(pu:IsPart vu hi)
 (hw:¬ (sIx items.size 0 lo=0/\sIx items.size items.size hi=items.size))
 (h:Q (.ref ‹s›) { s with heap:=s.heap.push { cls:=.type "tuple",data:=.seq ((items.toList.drop (sIx items.size 0 lo)).take (sIx items.size items.size hi-sIx items.size 0 lo)).toArray } })
 (hsz:items.size<=sizeLine):‹w.A› (getItem (.ref t) (.ref sl)) Q E s:=by
 let htake:sizeOk (.seq ((items.toList.drop (sIx items.size 0 lo)).take (sIx items.size items.size hi-sIx items.size 0 lo)).toArray):=by
  show((items.toList.drop (sIx items.size 0 lo)).take (sIx items.size items.size hi-sIx items.size 0 lo)).toArray.size<=sizeLine;rw[zV0,qF0,jL0,zW1];omega
 let hj:sIx items.size items.size hi<=items.size:=HL _ _ (zH0 _) hi;let%[os,hos,hcs|hds]:=id hs;let hTs:s.TypeIs (.ref sl) "slice":=%[os,hos|hcs]
 unfold getItem
 try with_reducible apply jA1 ?_
 first | apply zE0 (zI0 ?_) | skip
 apply zE0 (wS0 ht.typeIs ⋯ ?_);apply zE0 (zS1 (name:=Str.ofString "__getitem__") ht.typeIs zR1
  (qF1 zR1 ht.typeIs wF0 ?_ (wL1 _ _)))
 show wpAny _ _ (Builtin.Tuple.tupleItemsOf (.ref t) >>= _) _ _ s;apply zE0 (tupleItemsOf_ ht ?_);apply zE0 (vB1 hTs ?_);rw[M8 ⋯];apply zE0 (iS hs pl pu ?_);let hno:¬ ((((sIx items.size 0 lo:Nat):Int)==0&&(1:Int)==1&&(sIx items.size items.size hi-sIx items.size 0 lo)==items.size)=true):=by
  intro q;rw[qN1,qN1]at q;let q1:((sIx items.size 0 lo:Nat):Int)=0:=eq_of_beq q.1.1;let q2:sIx items.size items.size hi-sIx items.size 0 lo=items.size:=eq_of_beq q.2;exact hw %[3|3]
 show wpAny _ _ (if(((sIx items.size 0 lo:Nat):Int)==0&&(1:Int)==1&&(sIx items.size items.size hi-sIx items.size 0 lo)==items.size)=true then _ else _) _ _ s;rw[M6 hno,Ds]
 first
  |exact zE0 (m:=Builtin.Tuple.tupleExact _) (zM1 (zI0 ⟨_,rfl,zI0 h⟩) htake)
  |exact zE0 (m:=Builtin.Tuple.tupleExact _) (zM1 (zE0 (zI0 (zI0 ⟨_,rfl,zI0 h⟩))) htake)
  |exact zE0 (zE0 (m:=Builtin.Tuple.tupleExact _) (zM1 (zI0 (zI0 ⟨_,rfl,zI0 h⟩)) htake))
  |exact zE0 (zE0 (m:=Builtin.Tuple.tupleExact _) (zM1 (zI0 ⟨_,rfl,zI0 h⟩) htake))
end
end HT
namespace L2
open PySem PySem.Spec PyProof.Rows
abbrev TO:=St->Hp->(Option Int->Hp->Prop)->Prop
def PO(X:Cx)(e:Option Expr)(t:TO):Prop:=
 ∀(M5:#[7])(s:Shared)(σ:St)(H:Hp)(Q:Option Int->Hp->Prop),#[8] H s->t σ H Q ->
  ‹X.w› (evalPart e X.env) (λu s'=>∃o H',#[8] H' s'/\IsPart u o/\Q o H') X.xe s
def Fn:TO:=λ_ H Q=>Q none H
instance ZtPart(Q:(Option Int->Hp->Prop))(x:V)(H1:Hp):∀i,x=.int i->Q (some i) H1:=0
def tPart(t:TE):TO:=λσ H Q=>t σ H λx H1=>ZtPart Q x H1
section
variable {X:Cx}{e:Expr}{te:TE}{lo hi:Option Expr}{tl th:TO}{pos p2:Pos}
def jG:PO X none Fn:=by
 exists 4,Q,I,h;rw[evalPart_none];exact zI0 %[none,H,I,.none|h]
def fe(h:PE X e te):PO X (some e) (tPart te):=by
 exists 4,Q,I,hw;rw[evalPart_some];apply thn (h M5 s σ H _ I hw) λu s1 ⟨x,H1,I1,r1,q1⟩=>?_
 erw[i,1,q]at q1;erw[t,1]at r1;erw[some i,H1,I1,.int i t,q]
def SlR(X:Cx)(r:V->Option Int->Option Int->Hp->VK->Prop):Prop:=
 ∀(M5:#[7])(s:Shared)(σ:St)(H:Hp)(x:V)(v vl vu:Value)(lo hi:Option Int)(sl:Addr)(Q:VK),#[8] H s->RelV x v->s.heap.IsSliceOf sl vl vu .none->IsPart vl lo->IsPart vu hi->r x lo hi H Q ->
  ∃T id,typeLookup (.type T) "__getitem__"=pure (some (.builtin id))/\s.TypeIs v T/\‹X.w› (getItem v (.ref sl)) (EP X M5 σ Q) X.xe s
def tSl(r:V->Option Int->Option Int->Hp->VK->Prop)(te:TE)(tl th:TO):TE:=λσ H Q=>te σ H λx H1=>tl σ H1 λl H2=>th σ H2 λu H3=>r x l u H3 Q
def fg(hr:SlR X r)(he:PE X e te)(hl:PO X lo tl)(hu:PO X hi th):PE X (.Subscript e (.Slice lo hi none p2) pos) (tSl r te tl th):=by
 exists 4,Q,I,h;apply Subscript_ (thn (he M5 s σ H _ I h) λv s1 ⟨x,H1,I1,r1,q1⟩=>?_);apply wpAny_Slice (thn (hl M5 s1 σ H1 _ I1 q1) λvl s2 ⟨l,H2,I2,pl,q2⟩=>thn (hu M5 s2 σ H2 _ I2 q2) λvu s3 ⟨u,H3,I3,pu,q3⟩=>?_);rw[evalPart_none];apply zI0 ?_;let I4:#[8] H3 { s3 with heap:=s3.heap.push { cls:=.type "slice",data:=.fields #[vl,vu,.none] } }:=I3.kept (t':=s3.toks) λb ob q=>zS0 _ q
 let%[T,id,hT,ht|hg]:=hr M5 { s3 with heap:=s3.heap.push { cls:=.type "slice",data:=.fields #[vl,vu,.none] } } σ H3 x v vl vu l u ‹s3› Q I4 r1 (Heap.IsSliceOf.new ..) pl pu q3;show ‹X.w› (subscriptTail e (.Slice lo hi none p2) v (.ref ‹s3›)) (EP X M5 σ Q) X.xe { s3 with heap:=s3.heap.push { cls:=.type "slice",data:=.fields #[vl,vu,.none] } };exact tail_any (ops:=[.ref ‹s3›,v]) ht hT hg (by rfl')
def jf(xs:List V)(lo hi:Option Int):List V:=(xs.drop (HT.sIx xs.length 0 lo)).take (HT.sIx xs.length xs.length hi-HT.sIx xs.length 0 lo)
def pG(xs:List V)(lo hi:Option Int):(jf xs lo hi).length<=xs.length:=by
 unfold jf;rw[qF0,jL0];omega
instance rSlT(K:W.Frag)(x:V)(lo:Option Int)(hi:Option Int)(H:Hp)(Q:VK):∀a xs,x=.ref a->SqT K H a xs->(¬ (HT.sIx xs.length 0 lo=0/\HT.sIx xs.length xs.length hi=xs.length))->(∀p,H p=none->Q (.ref p) (upd H p (.tup (jf xs lo hi)))):=0
def uf:SlR X (rSlT X.K):=by
 exists 4,x,v,vl,vu,lo,hi,sl,Q,I,rx,hs,pl,pu,h;erw[a,xs,1,hx,hw,q]at h;cases rx;let%[its,r,ht|hz]:=I.tuple hx;let hlen:its.toArray.size=xs.length:=by rw[zV0];exact r.length.symm
 erw["tuple",_,PyProof.Rows.slot_tuple_getitem.lookup,ht.typeIs,6];apply HT.getItem_tuple_cut ht hs pl pu (by rw[hlen];exact hw) ?_ (by rw[hlen];exact hz);rw[hlen];erw[.ref ‹s›,_,I.laid (t':=s.toks) (o:=.tup (jf xs lo hi)) (λb ob q=>zS0 _ q) (zH0 _) ?_,1,q _ (I.hok.fresh (zH0 _))];erw[zT0 (pG xs lo hi) hz,_,(r.drop (HT.sIx xs.length 0 lo)).take (HT.sIx xs.length xs.length hi-HT.sIx xs.length 0 lo),IsTup.new _ _,_,qE0 _ rfl,1]
instance rCatT(K:W.Frag)(x:V)(y:V)(H:Hp)(Q:VK):∀a b xs ys,x=.ref a->y=.ref b->SqT K H a xs->SqT K H b ys->xs≠[]->xs.length+ys.length<=sizeLine->(ys=[]->Q (.ref a) H)->(ys≠[]->∀p,H p=none->Q (.ref p) (upd H p (.tup (xs++ys)))):=0
def Vals.nil_iff(r:Vals xs us):us=[]↔xs=[]:=by
 cases r with
 |nil=>simp
 |cons _ _=>simp
def op_catT:OpR X (binaryOp .Add) (rCatT X.K):=by
 exists 4,x,y,v,u,Q,I,rx,ry,h;erw[a,b,xs,ys,1,1,ha,hb,hx,hz,q1,q2]at h;cases rx;cases ry;let%[its,r1,p1|_]:=I.tuple ha;let%[its2,r2,p2|_]:=I.tuple hb;apply HT.cat_tup p1 p2 (λz=>hx (r1.nil_iff.mp z)) (λz=>%[.ref a,H,I,1|q1 (r2.nil_iff.mp z)]) (λz=>?_) (by rw[←r1.length,←r2.length];exact hz);erw[.ref ‹s›,_,I.laid (t':=s.toks) (o:=.tup (xs++ys)) (λb ob q=>zS0 _ q) (zH0 _) ?_,1,q2 (λw=>z (r2.nil_iff.mpr w)) _ (I.hok.fresh (zH0 _))];erw[by rw[zL0];exact hz,_,r1.append r2,IsTup.new _ _,_,qE0 _ rfl,1]
end
def ixN(n:Nat)(i:Int):Option Nat:=if 0<=i then(if i<n then some i.toNat else none)else if -(n:Int)<=i then some (i+n).toNat else none
def atI{α:Type}(xs:List α)(i:Int):Option α:=(ixN xs.length i).bind λj=>xs[j]?
def vp{j:Nat}(h:ixN n i=some j):seqIndex? i n=some j/\j<n/\-(n:Int)<=i/\i<n:=by
 unfold ixN at h
 by_cases h0:0<=i
 . rw [M8 h0]at h
   by_cases h1:i<n
   . rw[M8 h1]at h;let e:i.toNat=j:=zO0 h;erw[by rw[seqIndex_of h0 h1,e],3,3,h1]
   . rw[M6 h1]at h;cases h
 . rw [M6 h0]at h
   by_cases h1:-(n:Int)<=i
   . rw[M8 h1]at h;let e:(i+n).toNat=j:=zO0 h;erw[by rw[seqIndex_neg #[0] h1,e],3,h1,3]
   . rw[M6 h1]at h;cases h
def vC{α:Type}{xs:List α}{v:α}(h:atI xs i=some v):∃j,seqIndex? i xs.length=some j/\xs[j]?=some v/\j<xs.length/\-(xs.length:Int)<=i/\i<xs.length:=by
 unfold atI at h;cases e:ixN xs.length i with
 |none=>rw[e]at h;cases h
 |some j=>
   rw[e]at h;let%[h1,h2,h3|h4]:=vp e;erw[j,h1,h,h2,h3,h4]
def bv{α:Type}{xs:List α}{j:Nat}{v:α}(h:xs[j]?=some v):atI xs (j:Int)=some v:=by
 let hj:j<xs.length:=(zY0 h).1;let e:ixN xs.length (j:Int)=some j:=by
  unfold ixN;rw[M8 #[0],M8 #[0]];simp
 unfold atI;rw[e];exact h
def xu{α:Type}(xs:List α)(v:α):atI (xs++[v]) (-1)=some v:=by
 let hl:(xs++[v]).length=xs.length+1:=by simp
 let e:ixN (xs++[v]).length (-1)=some xs.length:=by
  unfold ixN;rw[hl,M6 ⋯,M8 #[0]]
  congr 1
  omega
 unfold atI;rw[e];show(xs++[v])[xs.length]?=some v
 simp
def Ha(b:Expr):Prop:=∀o i,subscripted b false o i=operate [o,i] (getItem o i)
def IxR(X:Cx)(r:R2):Prop:=
 ∀(value slice:Expr)(M5:#[7])(s:Shared)(σ:St)(H:Hp)(x y:V)(v u:Value)(Q:VK),#[8] H s->RelV x v->RelV y u->r x y H Q ->
  subscripted slice false v u=operate [v,u] (getItem v u)->‹X.w› (subscriptTail value slice v u) (EP X M5 σ Q) X.xe s
def MtR(X:Cx)(id:String)(r:V->List V->Hp->VK->Prop):Prop:=
 ∀(M5:#[7])(s:Shared)(σ:St)(H:Hp)(x:V)(xs:List V)(v:Value)(us:List Value)(Q:VK),#[8] H s->RelV x v->Vals xs us->r x xs H Q ->
  ‹X.w› (call (.builtin id) (v::us)) (EP X M5 σ Q) X.xe s
section
variable {X:Cx}{a b:Expr}{ta tb:TE}{pos:Pos}
def IxR.or(h:IxR X r)(h':IxR X r'):IxR X (λx y H Q=>r x y H Q∨r' x y H Q):=by
 intro value slice M5 s σ H x y v u Q I rx ry q hs;rcases q with q | q
 . exact h value slice M5 s σ H x y v u Q I rx ry q hs
 . exact h' value slice M5 s σ H x y v u Q I rx ry q hs
def aN(hr:IxR X r)(ha:PE X a ta)(hb:PE X b tb)(hs:Ha b):PE X (.Subscript a b pos) (tOp r ta tb):=by
 exists 4,Q,I,h;exact Subscript_ (Je ha hb I h λv u s2 x y H2 I2 rx ry q=>hr a b M5 s2 σ H2 x y v u Q I2 rx ry q (hs _ _))
instance rIxL(K:W.Frag)(x:V)(y:V)(H:Hp)(Q:VK):∀p xs i v,x=.ref p->y=.int i->SqL K H p xs->atI xs i=some v->Q v H:=0
instance rIxT(K:W.Frag)(x:V)(y:V)(H:Hp)(Q:VK):∀p xs i v,x=.ref p->y=.int i->SqT K H p xs->atI xs i=some v->Q v H:=0
instance rIxS(x:V)(y:V)(H:Hp)(Q:VK):∀z i c,x=.str z->y=.int i->z.length<=sizeLine->atI z.cps.toList i=some c->Q (.str ⟨#[c]⟩) H:=0
def ix_list:IxR X (rIxL X.K):=by
 intro value slice M5 s σ H x y v u Q I rx ry h hs;erw[p,xs,i,z,1,1,hq,he,q]at h;cases rx;erw[t,1]at ry;let%[its,r,pl|hz]:=I.list hq;let%[j,h1,h2,h3,h4|h5]:=vC he;let%[w,ew|rw']:=r.get h2;let hl:=r.length;let hn:=jL;let fin:EP X M5 σ Q w s:=%[z,H,I,rw'|q]
 by_cases h0:0<=i
 . let hj:i.toNat=j:=by
    rw[seqIndex_of h0 h5]at h1;exact zO0 h1
   exact item_listR pl.isList h0 #[0] (by rw[hj];simpa using ew) fin hs
 . let hj:(i+(its.toArray.size:Int)).toNat=j:=by
    rw[seqIndex_neg #[0] h4]at h1;rw[zV0,←hl];exact zO0 h1
   exact subscriptTail_builtinR (x:=w) pl.isList.typeIs slot_list_getitem.lookup
    (wpAny_getItem_list_neg (Q:=λr s'=>r=w/\EP X M5 σ Q r s') pl.isList #[0] (by rw[zV0] <;> omega) #[0] (by rw[hj];simpa using ew) %[1|fin]) hs
def ix_tup:IxR X (rIxT X.K):=by
 intro value slice M5 s σ H x y v u Q I rx ry h hs;erw[p,xs,i,z,1,1,hq,he,q]at h;cases rx;erw[t,1]at ry;let%[its,r,pl|hz]:=I.tuple hq;let%[j,h1,h2,h3,h4|h5]:=vC he;let%[w,ew|rw']:=r.get h2;let hl:=r.length;let hn:=jL;let fin:EP X M5 σ Q w s:=%[z,H,I,rw'|q]
 exact subscriptTail_builtinR (x:=w) pl.typeIs slot_tuple_getitem.lookup
  (getItem_tuple (j:=j) (Q:=λr s'=>r=w/\EP X M5 σ Q r s') pl #[0] #[0] (by rw[zV0,←hl];exact h1) #[ew,0] %[1|fin]) hs
def rO:IxR X rIxS:=by
 intro value slice M5 s σ H x y v u Q I rx ry h hs;erw[z,i,c,1,1,hz,he,q]at h;erw[t,1]at rx;erw[t',1]at ry;let%[j,h1,h2,h3,h4|h5]:=vC he;let hl:z.cps.toList.length=z.length:=by simp [Str.length]
 rw [hl]at h1 h4 h5;let hn:=jL;exact tail_any (wD1 s z t) slot_str_getitem.lookup (getItem_str (c:=c) (by
  let e1:decide (i < -(2 ^ 63:Int))=false:=zD1 #[0];let e2:decide (i≥2 ^ 63)=false:=zD1 #[0];rw[e1,e2,Bool.or_false]) (by rw[h1];simpa using h2) %[.str %[|#[c]],H,I.tok _,%[|0]|q]) hs
def rIx(K:W.Frag):R2:=λx y H Q=>rIxL K x y H Q∨rIxT K x y H Q∨rIxS x y H Q
def Eo:IxR X (rIx X.K):=ix_list.or (ix_tup.or rO)
def yC(its:List Value)(n j:Nat)(u:Value):Obj.mapSeq (·.setIfInBounds j u) { cls:=.type "list",data:=.seq its.toArray n }={ cls:=.type "list",data:=.seq (its.set j u).toArray n }:=by
 simp [Obj.mapSeq]
def Inv.lst{M5:#[7]}{σ:St}{H:Hp}{s:Shared}{p:Addr}{xs:List V}(I:#[8] H s)(h:H p=some (.lst xs)):
 ∃(its:List Value) (n:Nat),Vals xs its/\s.heap.get? p=some { cls:=.type "list",data:=.seq its.toArray n }/\xs.length<=sizeLine:=by
 let%[z,its,n,r|e]:=I.hok p _ h;erw[its,n,r,e,z]
def Inv.lstUpd{σ:St}{p:Addr}{xs:List V}{its its':List Value}{n n':Nat}{f:Obj->Obj}(I:#[8] H s)(h:H p=some (.lst xs))
 (ho:s.heap.get? p=some { cls:=.type "list",data:=.seq its.toArray n })(hf:f { cls:=.type "list",data:=.seq its.toArray n }={ cls:=.type "list",data:=.seq its'.toArray n' })(r:Vals ys its')(hz:ys.length<=sizeLine)(t:Nat):
 #[8] (upd H p (.lst ys)) { s with heap:=s.heap.update p f,toks:=t }:=by
 let e:(s.heap.update p f).get? p=some { cls:=.type "list",data:=.seq its'.toArray n' }:=by
  rw[Heap.get?_update_self f ho (by rw[hf] <;> rfl),hf]
 apply I.write (x:=p) (e:=p) (by rw[h];trivial) (.inl rfl) (λb u hb q=>(Heap.get?_update_other _ _ (Ne.symm hb)).trans q) %[_|e] ?_;erw[hz,its',n',r,e]
instance rSetL(o:V)(i:V)(v:V)(H:Hp)(Q:(Hp->Prop)):∀p xs k j,o=.ref p->i=.int k->H p=some (.lst xs)->ixN xs.length k=some j->Q (upd H p (.lst (xs.set j v))):=0
def qu:PSet X rSetL:=by
 exists 4,o,i,v,ov,iv,u,Q,I,ro,ri,rv,h;erw[p,xs,k,j,1,1,hp,hj,q]at h;cases ro;erw[t,1]at ri;let%[its,n,r,ho|hz]:=I.lst hp;let%[h1,h2,h3|h4]:=vp hj;let hl:=r.length;let hn:=jL;let I':#[8] (upd H p (.lst (xs.set j v))) { s with heap:=s.heap.update p (Obj.mapSeq (·.setIfInBounds j u)) }:=
  I.lstUpd hp ho (yC its n j u) (r.set rv j) (by rw[List.length_set];exact hz) s.toks
 by_cases h0:0<=k
 . let hk:k.toNat=j:=by
    rw[seqIndex_of h0 h4]at h1;exact zO0 h1
   exact PySem.W.ki_setAt ho h0 #[0] (by rw[zV0,←hl];exact h4) (by rw[hk];erw[_,I',q])
 . let hk:(k+(its.toArray.size:Int)).toNat=j:=by
    rw[seqIndex_neg #[0] h3]at h1;rw[zV0,←hl];exact zO0 h1
   exact PySem.W.ki_setBack ho #[0] (by rw[zV0,←hl];exact h3) #[0] (by rw[hk];erw[_,I',q])
def ue(lo hi:Option Int)(n:Nat):(sliceBounds lo hi none n).1=((HT.sIx n 0 lo:Nat):Int)/\(sliceBounds lo hi none n).2.1=((HT.sIx n n hi:Nat):Int)/\(sliceBounds lo hi none n).2.2=1:=by
 erw[6,6,1]
 . cases lo with
   |none=>simp [sliceBounds,HT.sIx]
   |some i=>
     simp only[sliceBounds,HT.sIx,Option.getD_none,show(1:Int)>0 by decide,if_true]
     by_cases h:i<0
     . simp only[h,if_true] <;> omega
     . simp only[h,if_false] <;> omega
 . cases hi with
   |none=>simp [sliceBounds,HT.sIx]
   |some i=>
     simp only[sliceBounds,HT.sIx,Option.getD_none,show(1:Int)>0 by decide,if_true]
     by_cases h:i<0
     . simp only[h,if_true] <;> omega
     . simp only[h,if_false] <;> omega
def sA(its:List Value)(lo hi:Option Int):slicePick its.toArray lo hi none=((its.drop (HT.sIx its.length 0 lo)).take (HT.sIx its.length its.length hi-HT.sIx its.length 0 lo)).toArray:=by
 let%[h1,h2|h3]:=ue lo hi its.toArray.size;unfold slicePick;rw[h1,h2,h3];simp only[sliceRange_one,pick_run,zV0] <;> rfl
instance rSlL(K:W.Frag)(x:V)(lo:Option Int)(hi:Option Int)(H:Hp)(Q:VK):∀a xs,x=.ref a->SqL K H a xs->(∀p,H p=none->Q (.ref p) (upd H p (.lst (jf xs lo hi)))):=0
def zq:SlR X (rSlL X.K):=by
 exists 4,x,v,vl,vu,lo,hi,sl,Q,I,rx,hs,pl,pu,h;erw[a,xs,1,hx,q]at h;cases rx;let%[its,r,ht|hz]:=I.list hx;let hlen:=r.length;erw["list",_,slot_list_getitem.lookup,ht.isList.typeIs,6];apply wpAny_getItem_list_slice ht.isList hs pl pu .none #[2] ?_ (by rw[zV0] <;> omega);rw[sA,←hlen];erw[.ref ‹s›,_,I.laid (t':=s.toks) (o:=.lst (jf xs lo hi)) (λb ob q=>zS0 _ q) (zH0 _) ?_,1,q _ (I.hok.fresh (zH0 _))];erw[zT0 (pG xs lo hi) hz,_,(0),(r.drop (HT.sIx xs.length 0 lo)).take (HT.sIx xs.length xs.length hi-HT.sIx xs.length 0 lo),qE0 _ rfl]
def jV:V->Bool
 |.non=>true
 |.bl _=>true
 |.int _=>true
 |.str _=>true
 |_=>false
def eqV:V->V->Bool
 |.non,.non=>true
 |.bl a,.bl b=>a==b
 |.bl a,.int b=>(if a then 1 else 0)==b
 |.int a,.bl b=>a==(if b then 1 else 0)
 |.int a,.int b=>a==b
 |.str a,.str b=>a==b
 |_,_=>false
def IS{A:Around}{s:Shared}(ry:RelV y u)(rx:RelV x v)(fy:jV y=true)(fx:jV x=true):SeqAt.EqAt A s u v (eqV y x):=by
 cases y with
 |non=>
   cases ry;cases x with
   |non=>cases rx;exact SeqAt.EqAt.same _
   |bl b=>cases rx;exact SeqAt.EqAt.none_bool b
   |int b=>erw[t,1]at rx;exact SeqAt.EqAt.none_int b t
   |str b=>erw[t,1]at rx;exact SeqAt.EqAt.none_str b t
   |_=>exact absurd (show false=true from fx) qJ0
 |bl a=>
   cases ry;cases x with
   |non=>cases rx;exact SeqAt.EqAt.bool_none a
   |bl b=>cases rx;exact SeqAt.EqAt.bool_bool a b
   |int b=>erw[t,1]at rx;exact SeqAt.EqAt.bool_int a b t
   |str b=>erw[t,1]at rx;exact SeqAt.EqAt.bool_str a b t
   |_=>exact absurd (show false=true from fx) qJ0
 |int a=>
   erw[t',1]at ry;cases x with
   |non=>cases rx;exact SeqAt.EqAt.int_none a t'
   |bl b=>cases rx;exact SeqAt.EqAt.int_bool a t' b
   |int b=>erw[t,1]at rx;exact SeqAt.EqAt.int_int a t' b t
   |str b=>erw[t,1]at rx;exact SeqAt.EqAt.int_str a t' b t
   |_=>exact absurd (show false=true from fx) qJ0
 |str a=>
   erw[t',1]at ry;cases x with
   |non=>cases rx;exact SeqAt.EqAt.str_none a t'
   |bl b=>cases rx;exact SeqAt.EqAt.str_bool a t' b
   |int b=>erw[t,1]at rx;exact SeqAt.EqAt.str_int a t' b t
   |str b=>erw[t,1]at rx;exact SeqAt.EqAt.str_str a t' b t
   |_=>exact absurd (show false=true from fx) qJ0
 |_=>exact absurd (show false=true from fy) qJ0
def eqU(x:V)(u:Value):Bool:=match u with
 |.none=>eqV .non x
 |.bool b=>eqV (.bl b) x
 |.int i _=>eqV (.int i) x
 |.str z _=>eqV (.str z) x
 |_=>false
def yQ(r:RelV y u)(f:jV y=true):eqU x u=eqV y x:=by
 cases y with
 |non=>cases r;rfl
 |bl b=>cases r;rfl
 |int i=>erw[t,1]at r;rfl
 |str z=>erw[t,1]at r;rfl
 |_=>exact absurd (show false=true from f) qJ0
def oe:∀{xs:List V}{us:List Value},Vals xs us->xs.all jV=true->us.any (eqU x)=xs.any λy=>eqV y x
 |_,_,.nil,_=>rfl
 |y::xs,u::us,.cons r t,f=>by
   rw[wC1,qN1]at f;rw[jQ0,jQ0,yQ r f.1,oe t f.2]
def gQ{A:Around}{s:Shared}(rx:RelV x v)(fx:jV x=true):∀{xs:List V}{us:List Value},Vals xs us->xs.all jV=true->∀u∈us,SeqAt.EqAt A s u v (eqU x u)
 |_,_,.nil,_=>λu hu=>by cases hu
 |y::xs,u::us,.cons r t,f=>λu' hu=>by
   rw[wC1,qN1]at f;rcases Nf hu with rfl | hu
   . rw[yQ r f.1];exact IS r rx f.1 fx
   . exact gQ rx fx t f.2 u' hu
def inV(x:V)(xs:List V):Bool:=xs.any λy=>eqV y x
instance rIn(K:W.Frag)(neg:Bool)(x:V)(y:V)(H:Hp)(Q:VK):∀p xs,y=.ref p->SqL K H p xs∨SqT K H p xs->jV x=true->xs.all jV=true->Q (.bl (if neg then !inV x xs else inV x xs)) H:=0
def eV:OpR X (compareOp .In) (rIn X.K false):=by
 exists 4,x,y,v,u,Q,I,rx,ry,h;erw[p,xs,1,hq,fx,fs,q]at h;cases ry;rcases hq with hq | hq
 . let%[its,r,pl|hz]:=I.list hq;apply SeqAt.in_listAt (eqU x) pl.isList (λw hw=>gQ rx fx r fs w #[hw,0]) %[.bl _,H,I,1|6];rw[show its.toArray.any (eqU x)=its.any (eqU x) by simp,oe r fs];exact q
 . let%[its,r,pl|hz]:=I.tuple hq;apply SeqAt.in_tupleAt (eqU x) pl (λw hw=>gQ rx fx r fs w #[hw,0]) %[.bl _,H,I,1|6];rw[show its.toArray.any (eqU x)=its.any (eqU x) by simp,oe r fs];exact q
def uR:OpR X (compareOp .NotIn) (rIn X.K true):=by
 exists 4,x,y,v,u,Q,I,rx,ry,h;erw[p,xs,1,hq,fx,fs,q]at h;cases ry;rcases hq with hq | hq
 . let%[its,r,pl|hz]:=I.list hq;apply SeqAt.notIn_listAt (eqU x) pl.isList (λw hw=>gQ rx fx r fs w #[hw,0]) %[.bl _,H,I,1|6];rw[show its.toArray.any (eqU x)=its.any (eqU x) by simp,oe r fs];exact q
 . let%[its,r,pl|hz]:=I.tuple hq;apply SeqAt.notIn_tupleAt (eqU x) pl (λw hw=>gQ rx fx r fs w #[hw,0]) %[.bl _,H,I,1|6];rw[show its.toArray.any (eqU x)=its.any (eqU x) by simp,oe r fs];exact q
def uQ:OpR X (compareOp .NotIn) (λx y H Q=>∃i j,x=.str i/\y=.str j/\Q (.bl (!(!(Builtin.Str.occurrences j i 0 j.length 1).isEmpty))) H):=by
 exists 4,x,y,v,u,Q,I,rx,ry,h;erw[i,j,1,1,q]at h;erw[t,1]at rx;erw[t',1]at ry;exact notIn_str %[.bl _,H,I,1|q]
instance rLen(K:W.Frag)(xs:List V)(H:Hp)(Q:VK):∀p ys,xs=[.ref p]->SqL K H p ys∨SqT K H p ys->Q (.int ys.length) H:=0
def aG:gR X (.builtin "len") (rLen X.K):=by
 exists 4,xs,us,Q,I,r,h;erw[p,ys,1,hq,q]at h;let%[u,1|rx]:=kc r;cases rx;let hn:=jL;rcases hq with hq | hq
 . let%[its,r',pl|hz]:=I.list hq;let hlen:=r'.length;exact Calls.call_len_list pl.isList (by simp only[zV0] <;> omega) %[.int ys.length,H,I.tok _,%[s.toks+1|by rw[zV0,hlen]]|q]
 . let%[its,r',pl|hz]:=I.tuple hq;let hlen:=r'.length;exact len_tuple pl (by simp only[zV0] <;> omega) %[.int ys.length,H,I.tok _,%[s.toks+1|by rw[zV0,hlen]]|q]
def di:gR X (.builtin "len") (λxs H Q=>∃z,xs=[.str z]/\z.length<=sizeLine/\Q (.int z.length) H):=by
 exists 4,xs,us,Q,I,r,h;erw[z,1,hz,q]at h;let%[u,1,t|1]:=kc r;let hn:=jL;exact len_str #[0] %[.int z.length,H,I.tok _,%[|0]|q]
instance rListOf(K:W.Frag)(xs:List V)(H:Hp)(Q:VK):∀p ys,xs=[.ref p]->SqL K H p ys∨SqT K H p ys->(∀l,H l=none->Q (.ref l) (upd H l (.lst ys))):=0
def fq:gR X (.type "list") (rListOf X.K):=by
 exists 4,xs,us,Q,I,r,h;erw[p,ys,1,hq,q]at h;let%[u,1|rx]:=kc r;cases rx;let fin:∀(its:List Value),Vals ys its->ys.length<=sizeLine->∀(h':Heap)(c':Nat),(∀b o',s.heap.get? b=some o'->h'.get? b=some o') ->
  h'.get? ‹s›=some { cls:=.type "list",dict:=none,data:=.seq its.toArray c',slots:=#[] }->EP X M5 σ Q (.ref ‹s›) { s with heap:=h' }:=λits r' hz h' c' kp e=>
  %[.ref ‹s›,_,I.laid (t':=s.toks) kp (zH0 _) (show ObjOk X.prog X.w _ h' _ (.lst ys)from%[hz,its,c',r'|e]),1|q _ (I.hok.fresh (zH0 _))]
 rcases hq with hq | hq
 . let%[its,r',pl|hz]:=I.list hq;let hlen:=r'.length;erw[o,ho,hc,n,hd]at pl.isList;exact call_list_seq p (.inl rfl) ho hc hd (λh' c' kp e=>fin its r' hz h' c' kp e) (by simp only[zV0] <;> omega)
 . let%[its,r',pl|hz]:=I.tuple hq;let hlen:=r'.length;erw[o,ho,hc,n,hd]at pl;exact call_list_seq p (.inr rfl) ho hc hd (λh' c' kp e=>fin its r' hz h' c' kp e) (by simp only[zV0] <;> omega)
instance rTupOf(K:W.Frag)(xs:List V)(H:Hp)(Q:VK):∀p ys,xs=[.ref p]->(SqL K H p ys/\∀l,H l=none->Q (.ref l) (upd H l (.tup ys)))∨(SqT K H p ys/\Q (.ref p) H):=0
def bj:gR X (.type "tuple") (rTupOf X.K):=by
 exists 4,xs,us,Q,I,r,h;erw[p,ys,1,h]at h;let%[u,1|rx]:=kc r;cases rx;rcases h with⟨hq,q⟩ | ⟨hq,q⟩
 . let%[its,r',pl|hz]:=I.list hq;let hlen:=r'.length;apply call_tuple_list pl.isList (λh' kp=>?_) (by simp only[zV0] <;> omega);let I1:#[8] H { s with heap:=h' }:=I.kept (t':=s.toks) kp;let I2:#[8] (upd H h'.objs.size (.tup ys)) { s with heap:=h'.push { cls:=.type "tuple",data:=.seq its.toArray } }:=
    I1.laid (t':=s.toks) (λb o e=>zS0 _ e) (zH0 _) (show ObjOk X.prog X.w _ _ _ (.tup ys)from%[hz,its,r',IsTup.new _ _,_,qE0 _ rfl|1])
   erw[.ref h'.objs.size,_,I2,1,q _ (I1.hok.fresh (zH0 _))]
 . let%[its,r',pl|hz]:=I.tuple hq;exact call_tuple_same pl %[.ref p,H,I,1|q]
def tyV(K:W.Frag)(T:String)(x:V)(H:Hp):Prop:=match x with
 |.str _=>T="str"
 |.int _=>T="int"
 | .ref p=>(T="list"/\∃xs,SqL K H p xs)∨(T="tuple"/\∃o,K.lookup p=some o/\o.cls=.type "tuple"/\o.dict=none)∨
  (T="dict"/\((∃M7,H p=some (.dK M7))∨∃M7,H p=some (.dT M7)))∨(T="set"/\∃S n,H p=some (.set S n))
 |_=>False
def Hz{σ:St}(I:#[8] H s)(r:RelV x v)(ty:tyV X.K T x H):
 s.TypeIs v T/\∀a,v=.ref a->∃ob,s.heap.get? a=some ob/\ob.dict=none:=by
 cases x with
 |str z=>
   erw[t,1]at r;cases(show T="str" from ty);erw[wD1 s z t,λ_ e=>nomatch e]
 |int i=>
   erw[t,1]at r;cases(show T="int" from ty);erw[typeIs_int s i t,λ_ e=>nomatch e]
 |ref p=>
   cases r;rcases ty with⟨rfl,xs,hq⟩ | ⟨rfl,o,hk,hc,hd⟩ | ⟨rfl,hk⟩ | ⟨rfl,S,n,hk⟩
   . let%[its,_,pl|_]:=I.list hq;erw[pl.isList.typeIs,λa e=>?_];cases e;erw[o,n,e,c,hd,_]at pl;erw[o,e,hd]
   . erw[%[o,I.kIn p o hk|hc],λa e=>?_];cases e;erw[o,I.kIn _ o hk,hd]
   . let z:∃o,s.heap.get? p=some o/\o.ExactDict:=by
      rcases hk with⟨M7,hk⟩ | ⟨M7,hk⟩
      . let%[_,_,_,_,o,_,_,e,ex|_]:=I.hok p _ hk;erw[o,e,ex]
      . let%[_,_,_,_,o,_,_,e,ex|_]:=I.hok p _ hk;erw[o,e,ex]
     erw[o,e,ex]at z;erw[%[o,e|ex.1],λa e2=>?_];cases e2;erw[o,e,ex.2.1]
   . let%[o,_,_,_,e,ex|_]:=I.hok p _ hk;erw[%[o,e|ex.1],λa e2=>?_];cases e2;erw[o,e,ex.2.1]
 |_=>exact False.elim ty
instance ZtBM(K:W.Frag)(T:String)(r:V->List V->Hp->VK->Prop)(t:TA)(σ:St)(Q:VK)(x:V)(H1:Hp):tyV K T x H1->(t σ H1 λxs H2=>r x xs H2 Q):=0
def tBM(K:W.Frag)(T:String)(r:V->List V->Hp->VK->Prop)(to:TE)(t:TA):TE:=λσ H Q=>to σ H λx H1=>ZtBM K T r t σ Q x H1
variable {o e:Expr}{es:List Expr}{to:TE}{t:TA}{name:Str}{Ng Nc:Pos}{T id:String}{r:V->List V->Hp->VK->Prop}
def dC(pa:PlainAttrs T)(slot:Slot T name id)(hty:typeOf (.builtin id)=pure (.type "method_descriptor"))(hm:MtR X id r)(ho:PE X o to)(ha:PA X (e::es) t)
 (hbase:attributeBase o name X.env (eval o X.env)=eval o X.env:=by rfl)
 (hfew:((backTo Nc (starEach (e::es) X.env)).all (λx=>!x.1)&&(backToKw Nc (keywordEach [] X.env)).all (λx=>x.1.isSome)
  &&decide ((e::es).length+([]:List Keyword).length+(if([]:List Keyword).isEmpty then 0 else 1)<30))=true:=by rfl)
 (hline:(Ng.endLine==Nc.line)=true:=by rfl) (hs:starEach (e::es) X.env=(false,eval e X.env)::starEach es X.env:=by rfl) (hplain:(backTo Nc (starEach es X.env)).any (·.1)=false:=by rfl) :
 PE X (.Call (.Attribute o name Ng) (e::es) [] Nc) (tBM X.K T r to t):=by
 exists 4,Q,I,h;apply wpAny_Call_method_late hbase hfew hline rfl (thn (ho M5 s σ H _ I h) λv s1 ⟨x,H1,I1,r1,ty,q1⟩=>?_);let%[h1|h2]:=Hz I1 r1 ty;erw[T,id,pa,slot,hty,h1,h2,6];let hA:=ha Nc M5 s1 σ H1 _ I1 q1;rw[hs]at hA ⊢;apply jE0 (by show(false||(backTo Nc (starEach es X.env)).any (·.1))=false;rw[hplain] <;> rfl) (jJ1 ?_);exact thn hA λus s2 ⟨vs,H2,I2,r2,q2⟩=>hm M5 s2 σ H2 x vs v us Q I2 r1 r2 q2
end
def MtM(X:Cx)(id:String)(r:V->List V->Hp->VK->Prop):Prop:=
 ∀(M5:#[7])(s:Shared)(σ:St)(H:Hp)(x:V)(xs:List V)(v:Value)(us:List Value)(Q:VK),#[8] H s->RelV x v->Vals xs us->r x xs H Q ->
  ‹X.w› (call (.builtin id) (v::us)) (EP X M5 σ Q) X.xe s
def Vals.one:∀{x:V}{us:List Value},Vals [x] us->∃u,us=[u]/\RelV x u
 |_,_,.cons r .nil=>%[0|r]
def Vals.reverse(h:Vals xs us):Vals xs.reverse us.reverse:=by
 induction h with
 |nil=>exact .nil
 |cons r t ih=>rw[List.reverse_cons,List.reverse_cons];exact Vals.append ih (.cons r .nil)
def Vals.rep(h:Vals xs us):∀k:Nat,Vals (List.replicate k xs).flatten (List.replicate k us).flatten
 |0=>.nil
 |k+1=>by
   rw[qG1,qG1,qZ0,qZ0];exact Vals.append h (Vals.rep h k)
def tL(its:List Value):∀(k:Nat)(acc:List Value),
 List.foldl (λx1 x2=>x1++x2) acc.toArray (List.replicate k its.toArray)=(acc++(List.replicate k its).flatten).toArray
 |0,acc=>by simp
 |k+1,acc=>by
   let e:acc.toArray++its.toArray=(acc++its).toArray:=by simp
   let e2:(acc++its)++(List.replicate k its).flatten=acc++(List.replicate (k+1) its).flatten:=by
    rw[qG1,qZ0,qZ1]
   rw[←e2,←tL its k (acc++its),←e,qG1,List.foldl_cons]
section
variable {X:Cx}{M5:#[7]}{σ:St}{H:Hp}{s:Shared}{l b:Addr}{xs ys zs:List V}
def Inv.lset{its its':List Value}{n:Nat}{f:Array Value->Array Value}{t':Nat}(I:#[8] H s)(hH:H l=some (.lst xs))
 (e:s.heap.get? l=some { cls:=.type "list",data:=.seq its.toArray n })(hf:f its.toArray=its'.toArray)(hv:Vals ys its')(hz:ys.length<=sizeLine):
 #[8] (upd H l (.lst ys)) { s with heap:=s.heap.update l (Obj.mapSeq f),toks:=t' }:=by
 let q:=PySem.IsL.update e f;rw[hf]at q;apply I.write (x:=l) (e:=l) (by rw[hH];exact trivial) (.inl rfl) (λb' u hb hu=>(Heap.get?_update_other s.heap (Obj.mapSeq f) (Ne.symm hb)).trans hu) %[_|q] ?_;erw[hz,its',_,hv,q]
def Inv.lnew{t':Nat}(I:#[8] H s)(hv:Vals ys its)(hz:ys.length<=sizeLine):
 #[8] (upd H ‹s› (.lst ys)) { s with heap:=s.heap.push { cls:=.type "list",data:=.seq its.toArray },toks:=t' }:=
 I.laid (λ_ _ q=>zS0 _ q) (zH0 _) %[hz,its,(0),hv|qE0 _ rfl]
def Inv.fresh(I:#[8] H s):H ‹s›=none:=I.hok.fresh (zH0 _)
def Inv.lstM(I:#[8] H s)(hH:H l=some (.lst xs)):xs.length<=sizeLine/\∃(its:List Value) (n:Nat),Vals xs its/\xs.length=its.length/\s.heap.get? l=some { cls:=.type "list",data:=.seq its.toArray n }:=by
 let%[z,its,n,r|e]:=I.hok l _ hH;erw[z,its,n,r,r.length,e]
def wx{n:Nat}(h:n<=sizeLine):Builtin.List.listTooLong n=false:=by
 unfold Builtin.List.listTooLong;exact zD1 #[0]
end
section
variable {X:Cx}
instance rAppend(x:V)(vs:List V)(H:Hp)(Q:VK):∀l xs y,x=.ref l->vs=[y]->H l=some (.lst xs)->xs.length<sizeLine->Q .non (upd H l (.lst (xs++[y]))):=0
def cf:MtM X "list.append" rAppend:=by
 exists 4,x,vs,v,us,Q,I,rx,rv,h;erw[l,xs,y,1,1,hH,hz,q]at h;cases rx;erw[u,1,ru]at rv.one;let%[z,its,n,r,hl|e]:=I.lstM hH;apply jI1 F.slot_list_append %[_,e|1] F.entry_list_append (F.args_list_append_2 _ _) (PySem.list_append l its.toArray n u (by rw[zV0];omega)) ⟨e,?_⟩;erw[.non,_,I.lset (its':=its++[u]) hH e #[2] (r.append (.cons ru .nil)) ?_,1,q];rw[zL0,qL0];omega
instance rExtend(x:V)(vs:List V)(H:Hp)(Q:VK):∀l b xs zs,x=.ref l->vs=[.ref b]->H l=some (.lst xs)->H b=some (.lst zs)->xs.length+zs.length<=sizeLine->Q .non (upd H l (.lst (xs++zs))):=0
def Bi:MtM X "list.extend" rExtend:=by
 exists 4,x,vs,v,us,Q,I,rx,rv,h;erw[l,b,xs,zs,1,1,hH,hB,hz,q]at h;cases rx;erw[u,1,ru]at rv.one;cases ru;let%[z,its,n,r,hl|e]:=I.lstM hH;let%[z2,its2,n2,r2,hl2|e2]:=I.lstM hB;let hsz:its.toArray.size+its2.toArray.size<=sizeLine:=by rw[zV0,zV0];omega
 let hlong:¬ (!its.toArray.isEmpty&&Builtin.List.listTooLong (its.toArray.size+its2.toArray.size))=true:=by
  rw[wx hsz,wQ0];exact qJ0
 apply jI1 F.slot_list_extend %[_,e|1] F.entry_list_extend (F.args_list_extend_2 _ _)
  (AutoSeq1.list_extend_list_list_0 l its.toArray n b its2.toArray n2 hlong (by rw[zV0];omega) #[0]) %[e,e2|6]
 erw[.non,_,I.lset (its':=its++its2) hH e #[2] (r.append r2) ?_,1,q];rw[zL0];omega
instance rCat(x:V)(y:V)(H:Hp)(Q:VK):∀l b xs zs,x=.ref l->y=.ref b->H l=some (.lst xs)->H b=some (.lst zs)->xs.length+zs.length<=sizeLine->(∀p,H p=none->Q (.ref p) (upd H p (.lst (xs++zs)))):=0
def mi:OpR X (binaryOp .Add) rCat:=by
 exists 4,x,y,v,u,Q,I,rx,ry,h;erw[l,b,xs,zs,1,1,hH,hB,hz,q]at h;cases rx;cases ry;let%[z,its,n,r,hl|e]:=I.lstM hH;let%[z2,its2,n2,r2,hl2|e2]:=I.lstM hB;apply PySem.P.add_list e e2 ?_ (by rw[zV0,zV0];omega);let ea:its.toArray++its2.toArray=(its++its2).toArray:=by simp
 rw[ea];erw[.ref _,_,I.lnew (t':=s.toks) (r.append r2) (by rw[zL0];omega),1,q _ I.fresh]
instance rRep(x:V)(y:V)(H:Hp)(Q:VK):∀l k xs,x=.ref l->y=.int k->H l=some (.lst xs)->-(2 ^ 63)<=k->k<2 ^ 63->xs.length*k.toNat<=sizeLine->(∀p,H p=none->Q (.ref p) (upd H p (.lst (List.replicate k.toNat xs).flatten))):=0
def Gz{α:Type}(xs:List α)(k:Nat):(List.replicate k xs).flatten.length=k*xs.length:=by
 induction k with
 |zero=>simp
 |succ k ih=>rw[qG1,qZ0,zL0,ih,Nat.succ_mul,Nat.add_comm]
def Id:OpR X (binaryOp .Mult) rRep:=by
 exists 4,x,y,v,u,Q,I,rx,ry,h;erw[l,k,xs,1,1,hH,h1,h2,hz,q]at h;cases rx;erw[t,1]at ry;let%[z,its,n,r,hl|e]:=I.lstM hH;let hlen:its.toArray.size*k.toNat<=sizeLine:=by rw[zV0,←hl];exact hz
 let hcap:¬ its.toArray.size*k.toNat>(2 ^ 63-1) / 8:=by
  have:(sizeLine:Nat)<=(2 ^ 63-1) / 8:=by decide
  omega
 let hfit:¬ (!Builtin.List.listFitsIndex k)=true:=by
  rw[fitsIndex_both h1 h2];exact qJ0
 let hlong:¬ Builtin.List.listTooLong (its.toArray.size*k.toNat)=true:=by
  rw[wx hlen];exact qJ0
 let hnew:List.foldl (λx1 x2=>x1++x2) #[] (List.replicate (if its.toArray.isEmpty=true then 0 else k.toNat) its.toArray)=(List.replicate k.toNat its).flatten.toArray:=by
  let f0:∀m:Nat,List.foldl (λx1 x2=>x1++x2) #[] (List.replicate m its.toArray)=(List.replicate m its).flatten.toArray:=λm=>by
   have:=tL its m []
   rw[List.nil_append]at this;exact this
  rw[f0];cases its with
  |nil=>simp
  |cons a r'=>rw[M6 #[2]]
 apply wpAny_binaryOp_repeat_ref (T:="list") (U:="int") ⋯ %[_,e|1] (λs'=>typeIs_int s' k t) noFill_list_mul F.fills_int_mul F.slot_int_rmul repeat_list F.slot_int_index.lookup
  (jI1 F.slot_int_rmul (typeIs_int s k t) F.entry_int_rmul (F.args_int_rmul_2 _ _) (int___rmul___int_list k t l its.toArray n)
   %[e,1,%[_,e|1]|jI1 F.slot_list_mul ⟨_,e,rfl⟩ F.entry_list_mul (F.args_list_mul_2 _ _) (AutoListH.list___mul___list_int_3 l its.toArray n k t hfit hcap hlong) ⟨e,?_⟩])
 rw[hnew];erw[.ref _,_,I.lnew (t':=s.toks) (r.rep k.toNat) (by rw[Gz,Nat.mul_comm];exact hz),1,q _ I.fresh]
end
end L2
namespace Att
open PySem PySem.W PySem.Calls PyProof.Rows
def pP{P:Params}{h:Heap}:∀(ns:List Int)(vs:List Value),WellAll P h vs (ns.map WData.int)->IntsAre vs ns:=by
 intro ns
 induction ns with
 |nil=>
   intro vs w;rw[wM0]at w;cases w;exact .nil
 |cons n ns ih=>
   intro vs w;rw[qC0]at w;cases w with
   |cons a b=>
     cases a;exact .cons _ _ (ih _ b)
def Aq{l:OpenLaw}{n:Nat}(hn:l.most=some n){P:Params}{h:Heap}{args:List WData}{vals:List Value}
 (hpre:l.row.toRowW.claim.pre args=true)(hwl:WellAll P h vals args):
 ∃a vs ns,vals=[Value.ref a]/\args=[WData.list (ns.map WData.int)]/\h.get? a=some { cls:=.type "list",data:=.seq vs.toArray }/\IntsAre vs ns/\ns.length<=n:=by
 let hsh:WShape.hasAll [] args [.list .int]=true:=(pre_splitW hpre).1;let hc:l.pre.holds [] { args:=args }=true:=(pre_splitW hpre).2;let%[d,r,1,h1|h2]:=hasAllW_cons hsh;obtain rfl:=hasAllW_nil h2;let%[xs,1|h3]:=hasW_list h1;let%[ns|1]:=items_int h3;let hlen:ns.length<=n:=by
  unfold OpenLaw.pre at hc;let h4:(WTm.not (.lt (.lit (.int (n:Int))) (.len (.arg 0)))).holds [] { args:=[.list (ns.map .int)] }=true:=by
   let h4:=(holds_andW hc).1;rw[hn]at h4;exact h4
  let h5:=condW_of h4 (w_not (w_lt w_lit (w_len_list (w_arg rfl))));rw[zF0]at h5;apply Nat.le_of_not_lt λq=>?_
  let q':(n:Int)<((ns.length:Nat):Int):=#[0]
  first
   | (rw[zC1 q']at h5;exact absurd h5 ⋯)
   | (simp at h5;omega)
 cases hwl with
 |cons w1 w2=>
   cases w2;cases w1 with
   |list ho hall=>erw[_,_,ns,1,1,ho,pP ns _ hall,hlen]
def AH(l:OpenLaw)(args:List WData):l.row.toRowW.claim.post args (.bool true) args=true:=
 postW_of (r:=l.row.toRowW) (X:=(true==true))
  (show WShape.has [] (.bool true) .bool=true by first | rfl | decide | simp [WShape.has,WShape.arms,WShape.armsAll])
  (show(WTm.eq .res (.lit (.bool true))).value [] { args:=args,res:=some (.bool true),after:=args }=some (.bool (true==true))from w_eq_bool (w_res rfl) w_lit) rfl
def attach_call{l:OpenLaw}{n:Nat}{q:Program}{loose:List Str}{XP:(#[9])->Heap->Prop}{YP:World->Heap->Prop}{d:DefRec}
 (hn:l.most=some n)(hdf:d.params.defaults=[])
 (call:∀(w:World)(s₀ s₁:Shared)(mg mb:#[9])(fa:Addr)(o:Obj)(pm cd doc:Value)(a:Addr)(vs:List Value)(ns:List Int),
  Ground q loose [] XP w s₀ mg mb s₁.heap->YP w s₁.heap ->
  s₁.heap.get? fa=some o->o.data=.func (docDef d.name d.params d.body d.scope pm cd doc)->s₁.heap.CodeRec cd d.name->mg d.name=some (.ref fa) ->
  s₁.heap.get? a=some { cls:=.type "list",data:=.seq vs.toArray }->IntsAre vs ns->ns.length<=n->s₁.gens=#[] ->
  codeAny (model l.prog w) callerA (.call (.ref fa) %[[.ref a]|[]]) (λr s'=>r=.ok (.ret (.bool true))/\OldK s₁.heap s'.heap/\s'.os=s₁.os/\AllBare s'.gens) s₁) :
 WalkO q loose XP YP l.row.toRowW d [] (λf vs=>PySem.call f vs):=by
 intro w s₀ s₁ mg mb G Y fa o pm cd doc dV kV ho hd hcd hD hmg hg args vals as hpre hlay hrd hwl hlo;obtain rfl:dV=.none:=Dflts.none hD hdf;obtain rfl:kV=.none:=Dflts.noKw hD;let%[a,vs,ns,1,1,hobj,hints|hlen]:=Aq hn hpre hwl;apply enter_call (vB0 (call w s₀ s₁ mg mb fa o pm cd doc a vs ns G Y ho (fd_plain hd) hcd hmg hobj hints hlen hg) λr s' hq=>?_);erw[1,h2,h3,h4]at hq;erw[.inl %[.bool true,.bool true,[],1,λ_=>rfl,.bool true,AH l _|λ_=>%[List.Pairwise.nil|λ_ hm=>(nomatch hm)]],h2,h3,h4]
end Att
namespace L2
open PySem PySem.Spec PyProof.Rows
def sQ:∀{vs:List Value}{ns:List Int},IntsAre vs ns->Vals (ns.map V.int) vs
 |_,_,.nil=>.nil
 |_,_,.cons n t h=>.cons %[t|1] (sQ h)
def Jj(H:Hp):Prop:=∀b,H b=none∨∃o xs,H b=some (.frz o (.lst xs))
def Ek{K:W.Frag}{mg mb:#[9]}{a:Addr}{x:Str}{s₁:Shared}{vs:List Value}{ns:List Int}
 (KX:K.In s₁.heap)(hns:s₁.heap.Ns mainGlobals mg)(hb:s₁.heap.Ns builtinsNs mb)(hbb:∀x:Str,x≠"__name__" -> mb x=bootBuiltins x)(hlim:s₁.heap.NoLimit)(hg:s₁.gens=#[])
 (ha:s₁.heap.get? a=some { cls:=.type "list",data:=.seq vs.toArray })(hi:IntsAre vs ns)(hl:ns.length<=sizeLine)(hr:Room k callerA)
 (F:∀base:Heap,K.In base->base.Ns mainGlobals mg->FnOk P w K mg base CX k fa fd [x] sp)(hbind:∀(s:Shared)(u:Value),BindsTo s fd %[[u]|[]] [(x,u)])
 (hsp:∀H:Hp,Jj H->SqL K H a (ns.map V.int)->sp [.ref a] H (λv _=>v=.bl true) λ_ _ _=>False)
 (hCX:∀H e s',CX [] H s₁ (λ_ _ _=>False) e s'->False):
 codeAny (model P w) callerA (.call (.ref fa) %[[.ref a]|[]]) (λr s'=>r=.ok (.ret (.bool true))/\OldK s₁.heap s'.heap/\s'.os=s₁.os/\AllBare s'.gens) s₁:=by
 let rv:=sQ hi;let lenV:=hi.length;let core:∀H:Hp,Jj H->SqL K H a (ns.map V.int)->HOk P w H s₁.heap->(∀b,H b≠none->b=a)->(H a≠none->K.lookup a=none) ->
  codeAny (model P w) callerA (.call (.ref fa) %[[.ref a]|[]]) (λr s'=>r=.ok (.ret (.bool true))/\OldK s₁.heap s'.heap/\s'.os=s₁.os/\AllBare s'.gens) s₁:=by
  intro H hO hS hok hA hK;let base_of:∀{b:Addr}{o:Obj},s₁.heap.get? b=some o->H b=none->(vq s₁.heap H).get? b=some o:=λe n=>Ew e n
  let noA:∀{b:Addr}{o:Obj}{es:Array DictEntry}{ep:Nat},s₁.heap.get? b=some o->o.data=.dict es ep->H b=none:=fun{b o es ep} e d=>by
   cases q:H b with
   |none=>rfl
   |some u=>
     let e':b=a:=hA b (by rw[q];simp);subst e';rw[ha]at e;cases e;let d':Data.seq vs.toArray _=Data.dict es ep:=d;cases d'
  let nsK:∀{b:Addr}{m:#[9]},s₁.heap.Ns b m->(vq s₁.heap H).Ns b m:=fun{b m} ⟨o,es,ep,e,d,r⟩=>%[o,es,ep,base_of e (noA e d),d|r]
  let hKb:K.In (vq s₁.heap H):=λb o e=>base_of (KX b o e) (by
   cases q:H b with
   |none=>rfl
   |some u=>
     let e':b=a:=hA b (by rw[q];simp);subst e';rw[hK (by rw[q];simp)]at e;cases e)
  let hM:Mod K mg (vq s₁.heap H):=%[hKb,nsK hns,%[mb,nsK hb|hbb]|let⟨mc,h1,h2⟩:=hlim;⟨mc,nsK h1,h2⟩]
  let e0:Env0 P w K mg (vq s₁.heap H) callerA [] s₁ H:=%[1,hM,λb o e=>Gi e,Nat.le_of_eq (Bz _ _),trivial,λb hb=>absurd (show b∈([]:List Addr)from hb) #[2],hok|.of_eq hg]
  apply vB0 ((F _ hKb (nsK hns)).run callerA [] s₁ H %[[.ref a]|[]] [.ref a] [.ref a] _ _ hr e0 (hbind s₁ (.ref a)) (.cons rfl .nil) (hsp H hO hS)) λr s' h=>?_
  cases r with
  |error e=>exact(hCX H e s' h).elim
  |ok fl=>
    cases fl with
    |next=>exact False.elim h
    |brk=>exact False.elim h
    |cont=>exact False.elim h
    |ret u=>
      erw[v,H',os,bare,un,hok',r',q]at h;let q':v=.bl true:=q;subst q';obtain rfl:u=Value.bool true:=r';erw[1,OldK.of_keep λb o e=>?_,os,bare];cases q:H b with
      |none=>exact un.keep b o e q (by intro z;exact absurd (show b∈([]:List Addr)from z) #[2]) #[2]
      |some u=>
        rcases hO b with z | ⟨ob,xs,z⟩
        . rw[q]at z;cases z
        . let z2:=un.frzs b ob _ z;let%[e1|_]:=hok b _ z;let%[e2|_]:=hok' b _ z2;rw[e]at e1;cases e1;exact e2
 cases hk:K.lookup a with
 |some o=>
   let e:=KX a o hk;rw[ha]at e;cases e;apply core (λ_=>none) (λ_=>.inl rfl) (.inr %[_,vs.toArray,_,hk,1,1,1,by rw[zV0,lenV];exact hl|by simpa using rv]) (λb u z=>by let z':(none:Option HO)=some u:=z;cases z') (λb z=>absurd rfl z) λz=>absurd rfl z
 |none=>
   apply core (λb=>if b=a then some (.frz { cls:=.type "list",data:=.seq vs.toArray } (.lst (ns.map V.int)))else none) (λb=>?_) (.inl (.inr %[{ cls:=.type "list",data:=.seq vs.toArray }|M8 rfl])) (λb u z=>?_) (λb z=>?_) λ_=>hk
   . by_cases hb:b=a
     . exact .inr %[_,_|M8 hb]
     . exact .inl (M6 hb)
   . by_cases hb:b=a
     . let z':=(M8 hb).symm.trans z;cases z';subst hb;erw[ha,by rw[zF0];exact hl,vs,_,rv,ha]
     . let z':=(M6 hb).symm.trans z;cases z'
   . by_cases hb:b=a
     . exact hb
     . exact absurd (M6 hb) z
def walk_of{l:PySem.W.OpenLaw}{n:Nat}{q:Program}{loose:List Str}{XP:(#[9])->Heap->Prop}{YP:World->Heap->Prop}{d:DefRec}{K:Params->PySem.W.Frag}{CX:World->CXT}{sp:World->Sp}{x:Str}
 (hn:l.most=some n)(hn2:n<=sizeLine)(hdf:d.params.defaults=[])(hr:Room k callerA)
 (hY:∀(w:World)(h:Heap),YP w h->(K w.params).In h)
 (F:∀(w:World)(mg:#[9])(fa:Addr)(h:Heap),(K w.params).In h->h.Ns mainGlobals mg->mg d.name=some (.ref fa) ->
  ∃ fd:FuncData,(∀(s:Shared)(u:Value),BindsTo s fd %[[u]|[]] [(x,u)])/\
   ∀base:Heap,(K w.params).In base->base.Ns mainGlobals mg->FnOk l.prog w (K w.params) mg base (CX w) k fa fd [x] (sp w))
 (hsp:∀(w:World)(H:Hp)(a:Addr)(ns:List Int),ns.length<=n->Jj H->SqL (K w.params) H a (ns.map V.int)->sp w [.ref a] H (λv _=>v=.bl true) λ_ _ _=>False)
 (hCX:∀(w:World)(H:Hp)(s:Shared)(e:Value)(s':Shared),CX w [] H s (λ_ _ _=>False) e s'->False) :
 PySem.W.WalkO q loose XP YP l.row.toRowW d [] (λf vs=>PySem.call f vs):=by
 apply Att.attach_call hn hdf λw s₀ s₁ mg mb fa o pm cd doc a vs ns G Y ho hd hcd hmg hobj hints hlen hg=>?_
 let KX:=hY w _ Y;let%[fd,hb|hF]:=F w mg fa _ KX G.T.g hmg;exact Ek KX G.T.g G.T.b G.T.builtins G.T.nolimit hg hobj hints (zT0 hlen hn2) hr hF hb (λH hO hS=>hsp w H a ns hlen hO hS) λH e s'=>hCX w H s₁ e s'
end L2
namespace L2
open PySem PySem.Spec PyProof.Rows
def bu(s:Stmt)(j:Nat):Stmt:=match s with
 |.ClassDef _ _ _ body _ _ _ _ _ _ _=>body.getD j (.Pass %[(0),(0),(0)|(0)])
 |_=>.Pass %[(0),(0),(0)|(0)]
def jP(s:Stmt):Arguments:=match s with
 |.FunctionDef _ a _ _ _ _ _ _ _ _=>a
 |_=>{ posonlyargs:=[],args:=[],vararg:=none,kwonlyargs:=[],kw_defaults:=[],kwarg:=none,defaults:=[] }
def gJ(s:Stmt):List Stmt:=match s with
 |.FunctionDef _ _ b _ _ _ _ _ _ _=>b
 |_=>[]
def ao(s:Stmt):Scope:=match s with
 |.FunctionDef _ _ _ _ _ _ sc _ _ _=>sc
 |_=>{ kind:=.function,names:=[],isGenerator:=false,isCoroutine:=false }
abbrev CX0:CXT:=λ_ _ _ _ _ _=>False
abbrev E0:XK:=λ_ _ _=>False
def bn:kX CX0 X E0:=λ_ _ _ _ _ _ _ h=>h.elim
structure Fun(K:W.Frag)(x qual:Str)(st:Stmt)(f:Addr)(fd:FuncData):Prop where
 ex:∃(oc:Value)(od:Option Addr)(kV doc pm:Value)(an:Option Addr)(cdv ct:Value)(osl:Array (Option Value)),
  fd=PySem.W.fnOf x qual (jP st) (gJ st) (ao st) .none kV doc pm an cdv ct/\K.lookup f=some %[oc,od,.func fd|osl]/\PySem.W.codeIn K cdv qual=true
 kp:PySem.W.keepIn K (.ref f)=true
section
variable {P:Program}{w:World}{K:W.Frag}{mg:#[9]}{base:Heap}
def Fun.ok{st:Stmt}{sp:Sp}(F:Fun K x qual st f fd)(S:FnScope N ps (ao st))(len:∀vs H Q E,sp vs H Q E->vs.length=ps.length)
 (hbody:∀(cdv:Value)(A:Around)(outer:List Env)(s:Shared)(H:Hp)(vs:List V)(Q:VK)(E:XK),Room k (A.deeper (envOfC qual (ao st) ‹s› f cdv))->sp vs H Q E ->
  ∃t,PSs (BP CX0 P w K mg base N qual (ao st) f cdv A outer s H E).nox (gJ st) t/\t { nx:=λ_ H'=>Q .non H',rt:=Q } (oX N vs) H):FnOk P w K mg base CX0 (k+1) f fd ps sp:=by
 erw[oc,od,kV,doc,pm,an,cdv,ct,osl,1,lk,hcd]at F.ex;apply fn_of lk hcd S len λA outer s H vs Q E hr hsp=>?_
 let%[t,h|q]:=hbody cdv A outer s H vs Q E hr hsp;erw[t,h.nox,q]
def Fun.binds{st:Stmt}{ps:List Str}(F:Fun K x qual st f fd)
 (h:∀(kV doc pm:Value)(an:Option Addr)(cdv ct:Value)(us:List Value),us.length=ps.length->bindArgs (PySem.W.fnOf x qual (jP st) (gJ st) (ao st) .none kV doc pm an cdv ct) %[us|[]]=pure (ps.zip us)):Binds K fd ps []:=by
 erw[oc,od,kV,doc,pm,an,cdv,ct,osl,1,lk,hcd]at F.ex;exact .all (h kV doc pm an cdv ct)
def IN{x qual:Str}{st:Stmt}{f:Addr}{oc:Value}{od an:Option Addr}{osl:Array (Option Value)}{kV doc pm cdv ct:Value}(l:K.lookup f=some %[oc,od,.func (PySem.W.fnOf x qual (jP st) (gJ st) (ao st) .none kV doc pm an cdv ct)|osl])
 (c:PySem.W.codeIn K cdv qual=true)(k:PySem.W.keepIn K (.ref f)=true):Fun K x qual st f (PySem.W.fnOf x qual (jP st) (gJ st) (ao st) .none kV doc pm an cdv ct):=%[%[oc,od,kV,doc,pm,an,cdv,ct,osl,1,l|c]|k]
end
def Et(hr:Room k A):A.units+1<cLine:=zL1 (Nat.add_le_add_left (by decide:1<=64) _) hr.units
def aO{n:Nat}(h:n<=1000):n<sizeLine:=zL1 h ⋯
section
variable {X:Cx}
def pv(i:Nat){x:Str}{pos:Pos}(hN:X.N[i]?=some x:=by rfl)(hv:Vis X.env.scope x:=by first | exact Or.inl rfl | exact Or.inr (.inl rfl) | exact Or.inr (Or.inr rfl))(hd:(x==("__debug__":Str))=false:=by decide)
 (hcd:(x==("__classdict__":Str))=false:=by decide):PE X (.Name x pos) (tVar i):=HV hN hv hd hcd
end
def cM{A B:Prop}(h:B):if false=true then A else B:=by
 rw[M6 qJ0];exact h
def dU{A B:Prop}(h:A):if true=true then A else B:=by
 rw[M8 rfl];exact h
def rP{c A B:Prop}[Decidable c](h1:c->A)(h2:¬ c->B):if c then A else B:=by
 by_cases h:c
 . rw[M8 h];exact h1 h
 . rw[M6 h];exact h2 h
def nv{c A B:Prop}[Decidable c](hc:c)(h:B):if(!decide c)=true then A else B:=by
 rw[zC1 hc];exact cM h
def Same(H H':Hp):Prop:=∀b o,H b=some o->H' b=some o
def Same.refl(H:Hp):Same H H:=λ_ _ h=>h
def Same.trans(a:Same H H1)(b:Same H1 H2):Same H H2:=λc o h=>b c o (a c o h)
def Same.free(e:Same H H'){l:Addr}(h:H' l=Option.none):H l=Option.none:=by
 cases q:H l with
 |none=>rfl
 |some o=>
   rw[e l o q]at h;cases h
def Same.seq{K:W.Frag}(e:Same H H')(h:SqL K H a xs):SqL K H' a xs:=by
 rcases h with(h | ⟨o,h⟩) | h
 . exact .inl (.inl (e _ _ h))
 . exact .inl (.inr %[o|e _ _ h])
 . exact .inr h
end L2
set_option maxHeartbeats 4000000
namespace L2
open PySem PySem.Spec PyProof.Rows
section
variable {X:Cx}
instance rIsi(K:W.Frag)(xs:List V)(H:Hp)(Q:VK):∀x t n b,xs=[x,.ty n]->TyOf K H x t->PySem.W.kitOne K t (.type n)=some b->Q (.bl b) H:=0
def iK:gR X (.builtin "isinstance") (rIsi X.K):=by
 exists 4,xs,us,Q,I,r,h;erw[x,t,n,b,1,ty,e,q]at h;let%[u,w',1,r1|r2]:=Ca r;cases r2;exact Bu I r1 ty e (λtk=>%[.bl b,H,I.tok tk,1|q])
def wJ(K:W.Frag)(n:String):PySem.W.kitOne K (.type n) (.type n)=some true:=by
 unfold PySem.W.kitOne;rw[M8 #[2]]
def nu(K:W.Frag):PySem.W.kitOne K (.type "int") (.type "bool")=some false:=by
 show(if((Value.type "int"==Value.type "bool")=true)then some true else if PySem.W.kitMeta "bool"=true then((fastBuiltinMro "int").map (·.contains (.type "bool")))else none)=some false;decide
def CDivL(_ j:Int):Prop:=0<j/\j<2 ^ 63
def DG:OpR X (binaryOp .FloorDiv) (rI CDivL λi j=>.int (i / j)):=opI λi j _ _ _ _ _ hc q=>by
 let e:Int.fdiv i j=i / j:=Int.fdiv_eq_ediv_of_nonneg i (Int.le_of_lt hc.1);rw[←e]at q;apply floordiv_int (by have:=hc.1;omega) q (.inl (PyProof.noPylong_of_log2 ?_));let h1:=hc.1;let h2:=hc.2;let h3:j.natAbs<2 ^ 63:=#[0]
 let h4:=(Nat.log2_lt (n:=j.natAbs) (k:=63) #[0]).mpr h3;omega
end
def gG:bootBuiltins "int"=some (.type "int"):=by decide
def sv:bootBuiltins "bool"=some (.type "bool"):=by decide
def gC:bootBuiltins "list"=some (.type "list"):=by decide
def bw:bootBuiltins "tuple"=some (.type "tuple"):=by decide
def su:bootBuiltins "reversed"=some (.type "reversed"):=by decide
structure Cal(P:Program)(w:World)(K:W.Frag)(mg:#[9])(base:Heap)(n:Nat)(x:Str)(ps:List Str)(sp:Sp):Prop where
 ex:∃(f:Addr)(fd:FuncData),FnOk P w K mg base CX0 n f fd ps sp/\Binds K fd ps []/\PySem.W.keepIn K (.ref f)=true/\mg x=some (.ref f)
def am{X:Cx}{e:Expr}{es:List Expr}{p pos:Pos}(C:Cal X.prog X.w X.K X.mg X.base n x ps sp)(hr:Room k X.A)(hk:n<=k)(hg:Gl X x)
 (ha:PA X (e::es) t)(hdb:(x==("__debug__":Str))=false:=by decide)(he:starEach (e::es) X.env=(false,eval e X.env)::starEach es X.env:=by rfl)(hpl:(backTo pos (starEach es X.env)).any (·.1)=false:=by rfl):
 PE X (.Call (.Name x p) (e::es) [] pos) (vJ sp [] E0 t):=by
 erw[f,fd,F,b,kp,m]at C.ex;exact FR F (hr.mono hk) hg m kp b .nil bn ha hdb he hpl
def Cal.of{P:Program}{w:World}{K:W.Frag}{mg:#[9]}{base:Heap}{n:Nat}{x qual:Str}{ps:List Str}{sp:Sp}{st:Stmt}{f:Addr}{fd:FuncData}(F:Fun K x qual st f fd)(O:FnOk P w K mg base CX0 n f fd ps sp)(m:mg x=some (.ref f))
 (h:∀(kV doc pm:Value)(an:Option Addr)(cdv ct:Value)(us:List Value),us.length=ps.length->bindArgs (PySem.W.fnOf x qual (jP st) (gJ st) (ao st) .none kV doc pm an cdv ct) %[us|[]]=pure (ps.zip us)):Cal P w K mg base n x ps sp:=
 %[f,fd,O,F.binds h,F.kp|m]
def iteN{c A B:Prop}[Decidable c](hc:¬ c)(h:A):if(!decide c)=true then A else B:=by
 rw[zD1 hc];exact dU h
def aX{c A B:Prop}[Decidable c](hc:c)(h:A):if decide c=true then A else B:=by
 rw[zC1 hc];exact dU h
def aD{c A B:Prop}[Decidable c](hc:¬ c)(h:B):if decide c=true then A else B:=by
 rw[zD1 hc];exact cM h
def SameBut(f:Addr)(H H':Hp):Prop:=∀b o,b≠f->H b=some o->H' b=some o
def SameBut.trans(a:SameBut f H H1)(b:SameBut f H1 H2):SameBut f H H2:=λc o h e=>b c o h (a c o h e)
def SameBut.refl(f:Addr)(H:Hp):SameBut f H H:=λ_ _ _ h=>h
def zJ0{f:Addr}{H H':Hp}(h:Same H H'):SameBut f H H':=λb o _ e=>h b o e
abbrev SameBut.of:=@zJ0
def SameBut.upd(o:HO):SameBut f H (upd H f o):=λb u h e=>by rw[aE h];exact e
def zC0{H:Hp}{p:Addr}(h:H p=none)(o:HO):Same H (upd H p o):=λb u q=>by rw[aE (aZ q h)];exact q
abbrev Same.new:=@zC0
def Same.but{f:Addr}(a:Same H0 H)(n:H0 f=none)(b:SameBut f H H'):Same H0 H':=λc o e=>b c o (aZ e n) (a c o e)
def FeedAt(H:Hp)(f:Addr):Prop:=∃own st:Int,H f=some (.lst [.int own,.int st])/\0<=own/\0<=st/\st<=2147483646
def FeedAt.ne{b:Addr}(F:FeedAt H f)(h:H b=none):b≠f:=by
 erw[o,s,e,_]at F;intro z;subst z;rw[h]at e;cases e
def FeedAt.same(F:FeedAt H f)(s:Same H H'):FeedAt H' f:=by
 erw[o,t,e,h]at F;erw[o,t,s _ _ e,h]
instance spTake:∀(f:Addr)(m:Int),vs=[.ref f,.int m]->FeedAt H f->0<m->m<2 ^ 63->(∀(d:Int)(H':Hp),0<=d->d<m->FeedAt H' f->SameBut f H H'->Q (.int d) H'):=1
instance spFeed(K:W.Frag):∀(a:Addr)(ns:List Int)(k:Int),vs=[.ref a,.int k]->SqL K H a (ns.map V.int)->ns.length<=63->0<=k->k<1000000->(∀(p:Addr)(H':Hp),H p=none->Same H H'->FeedAt H' p->Q (.ref p) H'):=1
instance spLaw(K:W.Frag):∀(a:Addr)(ns:List Int),vs=[.ref a]->SqL K H a (ns.map V.int)->ns.length<=63->(∀H',Q (.bl true) H'):=1
def cH{n:Nat}(h:n<=1000):n<=sizeLine:=wK0 (aO h)
def EY{ns:List Int}{k:Int}(h0:0<=k)(h:k<(ns.length:Int)):∃v:Int,atI (ns.map V.int) k=some (.int v):=by
 let hk:k.toNat<ns.length:=#[0]
 let q:atI (ns.map V.int) ((k.toNat:Nat):Int)=some (.int ns[k.toNat]):=bv (by rw[zW0,zN0 hk] <;> rfl);let ek:((k.toNat:Nat):Int)=k:=#[0]
 rw[ek]at q;erw[_,q]
@[reducible] def hR (X:Cx) (N:List Str) (scope:Scope) (cl:List (Str×Addr)) (s:Shared) (H:Hp) (fp:List Addr):Cx where
 prog:=X.prog
 w:=X.w
 K:=X.K
 mg:=X.mg
 base:=X.base
 A:=X.A
 N:=N
 s₀:=s
 H₀:=H
 env:=compEnvC scope cl ‹s› X.env
 outer:=X.stack
 stack:=X.stack
 ex:=fp
 fn:=λ_=>false
 calm:=X.calm
 pn:=[]
 xe:=λ_ _=>False
structure CompScope(X:Cx)(x:Str)(N:List Str)(ix:List Nat)(scope:Scope)(cl:List (Str×Addr)):Prop where
 clos:closureFor scope X.env=pure cl
 nocell:∀y∈scope.names,y.2≠.cell
 kind:scope.kind=.function
 names:∀y∈scope.names,y.2=.local->scope.names.lookup y.1=some .local
 own:scope.names.lookup x=some .local
 nd:(x::N).Nodup
 sub:∀p∈cl,X.env.cells.lookup p.1=some p.2
 has:((relabel scope X.env).names.all λp=>!(p.2==.cell||p.2==.free)||(cl.lookup p.1).isSome)=true
 outs:∀(j:Nat)(y:Str),N[j]?=some y->(relabel scope X.env).names.lookup y=some .cell/\∃k c,ix[j]?=some k/\X.N[k]?=some y/\cl.lookup y=some c/\X.env.scope.names.lookup y=some .cell
def outs(ix:List Nat)(σ:St):St:=ix.map λk=>(σ[k]?).join
section
variable {X:Cx}{M5:#[7]}{σ:St}{x:Str}{N:List Str}{ix:List Nat}{scope:Scope}{cl:List (Str×Addr)}{fp:List Addr}{H3:Hp}{s3:Shared}
def CompScope.cells(S:CompScope X x N ix scope cl){y:Str}{c:Addr}(h:cl.lookup y=some c):X.env.cells.lookup y=some c:=S.sub _ (zX1 h)
def vy{M:List Str}(S:CompScope X x N ix scope cl)(I3:#[8] H3 s3)(hf:∀b∈fp,iQ X M5 H3 b)(Nb:∀b∈fp,b<‹s3›):(hR X M scope cl s3 H3 fp).Ok where
 mod:=I3.ok.mod
 kind:=S.kind
 glob:=I3.ok.glob
 blt:=I3.ok.blt
 above:=zH0 _
 inj:=λy z c h1 h2=>I3.ok.inj y z c (S.cells h1) (S.cells h2)
 has:=λy hy=>by
  let q:=List.all_eq_true.mp S.has;let hy:(relabel scope X.env).names.lookup y=some .cell∨(relabel scope X.env).names.lookup y=some .free:=hy;let z:∀k:NameKind,(k==.cell||k==.free)=true->(relabel scope X.env).names.lookup y=some k->∃c,cl.lookup y=some c:=λk hk e=>by
   let r:=q _ (zX1 e);rw[hk]at r;exact Option.isSome_iff_exists.mp #[r,0]
  rcases hy with e | e
  . exact z _ (by rfl) e
  . exact z _ (by rfl) e
 cab:=λ_ _ h _=>nomatch h
 hd:=I3.ok.hd
 frames:=I3.ok.frames
 stk:=.inl rfl
 exf:=λb hb=>%[qA0 (Nb b hb)|λy c e=>(hf b hb).2.2.2.2.1 y c (S.cells e)]
 bs:=λb o e=>I3.bs b o e
 bsz:=zT0 I3.ok.bsz I3.sz
 noex:=λb o e hb=>by
  rcases(hf b hb).2.2.2.1 with z | z
  . exact I3.ok.noex b o e z
  . exact absurd (qN0 (zQ0 e) (zT0 I3.ok.bsz z)) (qS0 _)
 exfs:=λb hb z=>by
  rcases Nf (I3.stkSub b z)with e | e
  . exact(hf b hb).2.1 e
  . exact(hf b hb).2.2.1 e
 funs:=I3.stack
 frf:=I3.stkFree
def si(pre:List Str)(S:CompScope X x N ix scope cl)(I3:#[8] H3 s3)(hf:∀b∈fp,iQ X M5 H3 b)(Nb:∀b∈fp,b<‹s3›)(hix:ix.length=N.length){h1:Heap}{t':Nat}{m:#[9]}
 (hn:h1.Ns ‹s3› m)(hk:∀b o,s3.heap.get? b=some o->h1.get? b=some o):Inv (hR X (pre++N) scope cl s3 H3 fp) [] (List.replicate pre.length none++outs ix σ) H3 { s3 with heap:=h1,toks:=t' } where
 ok:=vy S I3 hf Nb
 os:=rfl
 bare:=I3.bare
 base:=Un.kept hk
 loc:=by
  erw[m,hn,λi y v h1' h2 h3=>?_];let h1'':(pre++N)[i]?=some y:=h1';let h2':(List.replicate pre.length none++outs ix σ)[i]?=some (some v):=h2
  by_cases hi:i<pre.length
  . rw[zQ1 (by rw[zY1];exact hi),List.getElem?_replicate,M8 hi]at h2';cases h2'
  . let hj:=Nat.le_of_not_lt hi;rw[zN1 hj]at h1'';rw[zN1 (by rw[zY1];exact hj),zY1]at h2';generalize i-pre.length=j at h1'' h2';let%[hr,k,c,e1,e2,e3|e4]:=S.outs j y h1'';unfold outs at h2';rw[zW0,e1]at h2';let h2'':(σ[k]?).join=some v:=zO0 h2';let e5:σ[k]?=some (some v):=by
     cases q:σ[k]? with
     |none=>rw[q]at h2'';cases h2''
     |some o=>rw[q]at h2'';exact congrArg some h2''
    erw[m0,_,hl]at I3.loc;let%[u,r|l]:=hl k y v e2 e5 (.inr (.inl e4));erw[u,r,.inr %[.inl hr,c,e3|6]];rcases l with⟨kk,_⟩ | ⟨_,c',ec,z⟩
    . let kk':X.env.scope.names.lookup y=some .local:=kk;rw[e4]at kk';cases kk'
    . rw[S.cells e3]at ec;cases ec;erw[o,ho,hd]at z;erw[o,hk _ _ ho,hd]
 cell:=λy c e=>by
  let%[v,o,ho|hd]:=I3.cell y c (S.cells e);erw[v,o,hk _ _ ho,hd]
 free:=I3.hok.fresh (zH0 _)
 freeC:=λy c e=>I3.freeC y c (S.cells e)
 pin:=λp hp=>absurd (show p∈([]:#[7])from hp) #[2]
 hok:=I3.hok.kept hk
 len:=by
  show(List.replicate pre.length (none:Option V)++outs ix σ).length=(pre++N).length
  simp [outs,hix]
def tO(I3:#[8] H3 s3)(hf:∀b∈fp,iQ X M5 H3 b){σ':St}{h'':Heap}{N':List Str}(J:Inv (hR X N' scope cl s3 H3 fp) [] σ' H' s')(hb:Heap.SameBut ‹s3› s'.heap h''):
 #[8] H' { s' with heap:=h'' }:=by
 let ne:∀b o,s3.heap.get? b=some o->b≠‹s3›:=λb o e=>qA0 (zQ0 e)
 let B:Un (frs X.stack) fp H3 H' s3.heap s'.heap:=J.base;apply I3.call' (s':={ s' with heap:=h'' }) (ch:=fp) J.os ⟨λb o e n h1 h2=>(hb.2 b (ne b o e)).trans (B.keep b o e n h1 h2),λb o e n h1 h2=>?_,B.free,λb o e h2=>?_,B.tups,B.frzs,B.tbls⟩ (λb ob e=>?_) J.bare (λb z=>?_)
 . let%[sl|q]:=B.slot b o e n h1 h2;erw[sl,(hb.2 b (ne b o e)).trans q]
 . let%[o'|q]:=B.there b o e h2;erw[o',(hb.2 b (ne b o e)).trans q]
 . let fr:H' ‹s3›=none:=J.free;refine(J.hok b ob e).stay (λc w' hc q=>(hb.2 c ?_).trans q) (λ_ q=>q) λ_ _ q=>q
   rintro rfl;rcases hc with rfl | hc
   . rw[fr]at e;cases e
   . rw[fr]at hc;cases hc
 . let%[_,h2,_,h4,h5|h6]:=hf b z;erw[h4,h2,h5,h6]
end
abbrev TBl:=St->Hp->(Hp->Prop)->VK->Prop
def PB(X:Cx)(ifs:List Expr)(elt:Expr)(tb:TBl):Prop:=
 ∀(M5:#[7])(s:Shared)(σ:St)(H:Hp)(skip:Hp->Prop)(keep:VK),#[8] H s->tb σ H skip keep ->
  ‹X.w› (forIn ifs true λc r=>if r=true then do let ok ←isTrue c X.env (eval c X.env);pure (ForInStep.yield ok)else pure (ForInStep.yield r))
   (λok s3=>if ok=true then ‹X.w› (eval elt X.env) (EP X M5 σ keep) X.xe s3 else ∃H',#[8] H' s3/\skip H') X.xe s
def tB0(te:TE):TBl:=λσ H _ keep=>te σ H keep
def tB1(tc:TT)(te:TE):TBl:=λσ H skip keep=>tc σ H λb H1=>if b=true then te σ H1 keep else skip H1
def cF(he:PE X elt te):PB X [] elt (tB0 te):=by
 exists 4,skip,keep,I,h;apply wpAny_tests_nil ?_;rw[M8 rfl];exact he M5 s σ H keep I h
def Hk(hc:PT X c tc)(he:PE X elt te):PB X [c] elt (tB1 tc te):=by
 exists 4,skip,keep,I,h;apply wpAny_tests_one (thn (hc M5 s σ H _ I h) λb s1 ⟨H1,I1,q1⟩=>?_);cases b with
 |true=>
   rw[M8 rfl]at q1 ⊢;exact he M5 s1 σ H1 keep I1 q1
 |false=>
   rw[M6 ⋯]at q1 ⊢;erw[H1,I1,q1]
def oU(J:It)(D:Addr)(ix:List Nat)(tb:TBl)(σ:St)(H:Hp)(Q:VK):Prop:=∃W:Nat->Nat->Hp->Prop,(∃m,W 0 m (upd H D (.lst [])))/\∀i m H2,W i m H2 ->
 (J.stop i H2/\Q (.ref D) H2)∨(J.go i H2/\∀y H3,J.yld i H2 y H3->tb (some y::outs ix σ) H3 (λH4=>∃m',m'<m/\W (i+1) m' H4)
  λz H4=>∃ys,H4 D=some (.lst ys)/\ys.length<sizeLine/\∃m',m'<m/\W (i+1) m' (upd H4 D (.lst (ys++[z]))))
def xH(wi:TI)(ix:List Nat)(tb:TBl):TE:=λσ H Q=>wi σ H λJ H1=>∀D,H1 D=none->oU J D ix tb σ H1 Q
section
variable {prog:Program}{w:World}{A:Around}{E:#[6]}{R:Result->Shared->Prop}{s:Shared}
def xh{elt target iter:Expr}{ifs:List Expr}{scope:Scope}{pos:Pos}{it acc:Value}{env:Env}(I:Nat->Shared->Prop)
 (turn:∀n s,I n s->‹w.A› (pyNext it) (λr s1=>match r with
  |none=>R (.ok .next) s1
  |some v=>‹w.A› (letOwnedTupleGo target it v) (λ_ s1'=>‹w.A› (assign target env v) (λ_ s2=>
   ‹w.A› (forIn ifs true λc r=>if r=true then do let ok ←isTrue c env (eval c env);pure (ForInStep.yield ok)else pure (ForInStep.yield r)) (λok s3=>
    if ok=true then ‹w.A› (eval elt env) (λx s4=>
     ‹w.A› (call (.builtin "list.append") [acc,x]) (λ_ s5=>∃m,m<n/\I m s5) (λ_ _=>False) s4) (λ_ _=>False) s3
    else ∃m,m<n/\I m s3) (λ_ _=>False) s2) (λ_ _=>False) s1') (λ_ _=>False) s1) (λ_ _=>False) s)
 (n:Nat) (h:I n s) :
 codeAny (model prog w) A (.compLoop (.ListComp elt [%[target,iter,ifs|(0)]] scope pos) 0 it acc env) R s:=by
 let up:∀{α:Type}{t:Sem α}{Q Q':α->Shared->Prop}{E':#[6]}{s:Shared},‹w.A› t Q (λ_ _=>False) s->(∀a s,Q a s->Q' a s)->‹w.A› t Q' E' s:=
  λh q=>qQ1 h q λ_ _ f=>f.elim
 apply codeAny_loop rfl I (λn s hI=>?_) n h;show wpAny _ A ((compTurn (.ListComp elt [%[target,iter,ifs|(0)]] scope pos) 0 it acc env).onRaise (λx=>do noteFrame x env;theTreesLotGoes x)) _ _ s;apply wpAny_noted ?_;rw[compTurn_list];apply zE0 (wU1 (zE0 (up (turn n s hI) λr s1 h1=>?_)));cases r with
 |none=>exact zI0 h1
 |some v=>
   apply zE0 (up h1 λ_ s1' h1'=>?_);apply zE0 (up h1' λ_ s2 h2=>zE0 (up h2 λok s3 h3=>?_));cases ok with
   |false=>exact zI0 %[1|h3]
   |true=>
     exact zE0 (zE0 (up h3 λx s4 h4=>zE0 (up h4 λ_ s5 h5=>zI0 (zI0 %[1|h5]))))
end
def oP{Y:Cx}{iter:Expr}{scope:Scope}{pos:Pos}{D:Addr}{R:Result->Shared->Prop}{Pf:St->Prop}{W:Nat->Nat->Hp->Prop}{σ0:St}{m0:Nat}
 (hc:Y.calm=true)(hx:∀v s,Y.xe v s->False)(T:Turn Y.prog Y.w Y.K tgt J fp it tn)(hg:PG Y tgt g)(hb:PB Y ifs elt tb)(stat:∀{H':Hp},(∀b∈fp,H' b=none)->∀b∈fp,iQ Y [] H' b)
 (turn:∀i m H2,W i m H2->(J.stop i H2/\∀ σ' s',Pf σ'->Inv Y [] σ' H2 s'->R (.ok .next) s')∨(J.go i H2/\∀y H3,J.yld i H2 y H3->∀ σ',Pf σ'->g y σ' H3 λσ8 H8=>Pf σ8/\tb σ8 H8 (λH4=>∃m',m'<m/\W (i+1) m' H4)
  λz H4=>∃ys,H4 D=some (.lst ys)/\ys.length<sizeLine/\∃m',m'<m/\W (i+1) m' (upd H4 D (.lst (ys++[z])))))
 (p0:Pf σ0) (I0:Inv Y [] σ0 H0 s0) (st0:tn 0 s0.heap) (f0:∀b∈fp,H0 b=none) (w0:W 0 m0 H0) :
 codeAny (model Y.prog Y.w) Y.A (.compLoop (.ListComp elt [%[tgt,iter,ifs|(0)]] scope pos) 0 (.ref it) (.ref D) Y.env) R s0:=by
 apply xh (λn s'=>∃i σ' H',Pf σ'/\Inv Y [] σ' H' s'/\tn i s'.heap/\(∀b∈fp,H' b=none)/\W i n H') ?_ m0 %[(0),_,_,p0,I0,st0,f0|w0];rintro n s5 ⟨i,σ5,H5,p5,I5,st5,fr5,w5⟩;rcases turn i n H5 w5 with⟨stop,qn⟩ | ⟨go,step⟩
 . apply thn (T.done Y rfl rfl rfl hc i [] s5 _ H5 _ I5 (stat fr5) st5 stop) λr s6 ⟨hr,I6⟩=>?_
   subst hr;exact qn _ _ p5 I6
 . apply thn (T.item Y rfl rfl rfl hc i [] s5 _ H5 _ I5 (stat fr5) st5 go) λr s6 ⟨u,hr,h6⟩=>?_
   subst hr;apply thn h6 λ_ s7 ⟨y,H7,I7,r7,y7,st7,fr7⟩=>?_
   apply qQ1 (hg _ s7 _ H7 y u _ (I7.pinned (stat fr7) (T.obj _ _ st7)) r7 (step y H7 y7 _ p5)) (λ_ s8 ⟨σ8,H8,I8,p8,q8⟩=>?_) hx;let again:∀{H9:Hp}{s9:Shared},Inv Y ([]++rb fp s7.heap) σ8 H9 s9->(∃m',m'<n/\W (i+1) m' H9) ->
    ∃m,m<n/\∃i σ' H',Pf σ'/\Inv Y [] σ' H' s9/\tn i s9.heap/\(∀b∈fp,H' b=none)/\W i m H':=fun{H9 s9} I9 ⟨m',hm,w9⟩=>by
    erw[m',hm,i+1,_,H9,p8,I9.unpinned,T.keep _ _ _ st7 λb hb o e=>(I9.pin (b,o) (qV0 _ (qV0 _ (jK hb e)))).1,λb hb=>?_,w9];let%[o,e|d]:=T.obj _ _ st7 b hb;exact(I9.pin (b,o) (qV0 _ (qV0 _ (jK hb e)))).2.1
   apply qQ1 (hb _ s8 _ _ _ _ I8 q8) (λok s9 q9=>?_) hx;cases ok with
   |false=>
     rw[M6 ⋯]at q9 ⊢;erw[H9,I9,q9]at q9;exact again I9 q9
   |true=>
     rw[M8 rfl]at q9 ⊢;apply qQ1 q9 (λu s10 ⟨z,H10,I10,r10,ys,hy,hz,q10⟩=>?_) hx;apply qQ1 (cf _ s10 _ H10 (.ref D) [z] (.ref D) [u] (λ_ H'=>∃m',m'<n/\W (i+1) m' H') I10 rfl (.cons r10 .nil) %[_,ys,z,1,1,hy,hz|q10]) (λ_ s11 ⟨_,H11,I11,_,q11⟩=>?_) hx;exact again I11 q11
structure Apart(X:Cx)(M5:#[7])(H:Hp)(C:Addr):Prop where
 fr:H C=none
 lo:C≠X.env.locals
 sz:X.s₀.heap.objs.size<=C
 ce:∀y c,X.env.cells.lookup y=some c->c≠C
 pi:∀p∈X.pn++M5,p.1≠C
def Apart.turn{σ:St}{h':Heap}(a:Apart X M5 H C)(I:#[8] H s)(hs:Heap.SameBut C s.heap h'):#[8] H { s with heap:=h' }:=
 I.turned (t':=s.toks) (λb o ne e=>(hs.2 b ne).trans e) a.fr a.lo (.inr a.sz) a.ce a.pi
section
variable {X:Cx}{x:Str}{N:List Str}{ix:List Nat}{scope:Scope}{cl:List (Str×Addr)}{elt iter:Expr}{ifs:List Expr}{px pos:Pos}{wi:TI}{tb:TBl}
def xa(hc:X.calm=true)(S:CompScope X x N ix scope cl)(hix:ix.length=N.length)(hb:∀s3 H3 fp,PB (hR X (x::N) scope cl s3 H3 fp) ifs elt tb)
 {σ:St}{Q:VK}{fp:List Addr}{RR:Value->Addr->Result->Shared->Prop}{E:#[6]}
 (I2:#[8] H2 s2)(T:Turn X.prog X.w X.K (.Name x px) J fp it tn)(st2:tn 0 s2.heap)(f2:∀b∈fp,iQ X M5 H2 b)
 (h:∀D,H2 D=none->∃W:Nat->Nat->Hp->Prop,(∃m,W 0 m (upd H2 D (.lst [])))/\∀i m H3,W i m H3 ->
  (J.stop i H3/\Q (.ref D) H3)∨(J.go i H3/\∀y H4,J.yld i H3 y H4->tb (some y::outs ix σ) H4 (λH5=>∃m',m'<m/\W (i+1) m' H5)
   λz H5=>∃ys,H5 D=some (.lst ys)/\ys.length<sizeLine/\∃m',m'<m/\W (i+1) m' (upd H5 D (.lst (ys++[z])))))
 (hRR:∀(D C:Addr)(H':Hp)(s':Shared)(m:#[9]),s'.heap.Ns C m->Apart X M5 H' C->#[8] H' s'->Q (.ref D) H'->RR (.ref D) C (.ok .next) s') :
 ‹X.w› (newList []) (λacc s3=>‹X.w› (newFunctionEnv scope X.env.globals cl [] X.env.qual none .none (some X.env)) (λcenv s4=>
  codeAny (model X.prog X.w) X.A (.compStart (.ListComp elt [%[.Name x px,iter,ifs|(0)]] scope pos) 0 (.ref it) acc { cenv with scope:=relabel scope X.env }) (RR acc cenv.locals) s4) E s3) E s2:=by
 apply zM1 (wpAny_newFunctionEnv S.nocell (by intro y hy;simp at hy) (λh1 hns1 hsb1=>?_) S.kind)
 dsimp only at hns1 hsb1 ⊢
 let I3:#[8] (upd H2 ‹s2› (.lst [])) { s2 with heap:=s2.heap.push { cls:=.type "list",dict:=none,data:=.seq ([]:List Value).toArray } }:=I2.lnew (its:=[]) (ys:=[]) (t':=s2.toks) .nil (zP0 _);let hD:H2 ‹s2›=none:=I2.fresh;let%[W,%[m0|w0]|turn]:=h ‹s2› hD;let hltF:∀b∈fp,b<‹s2›:=λb hb=>by
  let%[o,e|_]:=T.obj 0 _ st2 b hb;exact zQ0 e
 generalize hs3:({ s2 with heap:=s2.heap.push { cls:=.type "list",dict:=none,data:=.seq ([]:List Value).toArray } }:Shared)=s3 at I3;let eh:s2.heap.push { cls:=.type "list",dict:=none,data:=.seq ([]:List Value).toArray }=s3.heap:=by rw[←hs3]
 let et:s2.toks=s3.toks:=by rw[←hs3]
 rw[eh]at hns1 hsb1 ⊢;let sz3:‹s3›=‹s2›+1:=by rw[←eh,jC0]
 let hlt3:∀b∈fp,b<‹s3›:=λb hb=>qN0 (hltF b hb) (by rw[sz3];exact qM0 _)
 let f3:∀b∈fp,iQ X M5 (upd H2 ‹s2› (.lst [])) b:=λb hb=>by
  let%[q1|q2]:=f2 b hb;erw[by rw[aE (qA0 (hltF b hb))];exact q1,q2]
 let up:∀b o,s3.heap.get? b=some o->h1.get? b=some o:=λb o e=>hsb1.extBut b o (qA0 (zQ0 e)) (zS0 _ e)
 let old:∀b o,s2.heap.get? b=some o->h1.get? b=some o:=λb o e=>up b o (by rw[←eh];exact zS0 _ e)
 let es:({ s2 with heap:=h1,toks:=s2.toks+([]:List (Str×Value)).length }:Shared)={ s3 with heap:=h1,toks:=s2.toks+([]:List (Str×Value)).length }:=by rw[←hs3]
 rw [es];let I4:Inv (hR X (x::N) scope cl s3 (upd H2 ‹s2› (.lst [])) fp) [] (none::outs ix σ) (upd H2 ‹s2› (.lst [])) { s3 with heap:=h1,toks:=s2.toks+([]:List (Str×Value)).length }:=
  si [x] S I3 f3 hlt3 hix hns1 up
 let st4:tn 0 h1:=T.keep 0 _ _ st2 λb _ o e=>old b o e
 let loop:codeAny (model X.prog X.w) X.A (.compLoop (.ListComp elt [%[.Name x px,iter,ifs|(0)]] scope pos) 0 (.ref it) (.ref ‹s2›) (compEnvC scope cl ‹s3› X.env)) (RR (.ref ‹s2›) ‹s3›)
  { s3 with heap:=h1,toks:=s2.toks+([]:List (Str×Value)).length }:=by
  let k:=vy (M:=x::N) S I3 f3 hlt3;apply oP (Y:=hR X (x::N) scope cl s3 (upd H2 ‹s2› (.lst [])) fp) (Pf:=λσ'=>∃v0,σ'=v0::outs ix σ) hc (λ_ _ z=>z) T (aU (i:=0) S.nd rfl (.inl (qO1 S.own)) (.inr (qO1 S.own))) (hb _ _ _) (λhn b hb=>%[hn b hb,(k.exf b hb).1,k.exfs b hb,.inl hb,(k.exf b hb).2|λp hp=>absurd (show p∈([]:#[7])from hp) #[2]]) (λi m H5 w5=>(turn i m H5 w5).imp (fun⟨stop,qn⟩=>%[stop|λσ' s6 _ I6=>?_]) (fun⟨go,step⟩=>⟨go,λy H3 y7 σ' ⟨v0,e⟩=>by
   subst e;erw[%[|0],step y H3 y7]⟩)) ⟨none,rfl⟩ I4 st4 (λb hb=>(f3 b hb).1) w0
  erw[m6,hn6,_]at I6.loc;exact hRR _ _ H5 s6 m6 hn6 ⟨I6.free,Ne.symm (qA0 I3.lt),I3.sz,λy c e z=>by
   let%[v|q]:=I3.cell y c e;exact absurd q.lt (by rw[z];exact qS0 _),λp hp z=>absurd (zQ0 (I3.pin p hp).1) (by rw[z];exact qS0 _)⟩ (tO I3 f3 I6 (Heap.SameBut.refl _ _)) qn
 exact jT1 loop (T.self _ 0 _ _ _ st4 loop)
def cw(hc:X.calm=true)(S:CompScope X x N ix scope cl)(hix:ix.length=N.length)(hi:PI X (.Name x px) iter wi)(hb:∀s3 H3 fp,PB (hR X (x::N) scope cl s3 H3 fp) ifs elt tb)
 (hs:∀x,foldedSetIterable iter X.env x=pure x:=by intro _;rfl):PE X (.ListComp elt [%[.Name x px,iter,ifs|(0)]] scope pos) (xH wi ix tb):=by
 exists 4,Q,I,h;rw[eval_ListComp];apply jA0 (use:=none) rfl hs S.clos S.kind S.names (thn (hi M5 s σ H _ I h) λxv s1 h1=>thn h1 λitv s2 h2=>?_);erw[it,fp,tn,J,H2,1,I2,T,st2,f2,R]at h2;apply xa hc S hix hb (RR:=λacc C=>compPost (model X.prog X.w) X.A X.xe none (EP X M5 σ Q) acc C) I2 T st2 f2 R ?_;intro D C H' s' m hn ap I' q;erw[m,hn,λh'' hb''=>%[.ref D,H',ap.turn I' hb'',1|q]]
def mX{i:Nat}{y:Str}{py spos:Pos}(hN:X.N.Nodup)(hi0:X.N[i]?=some y)(hx:Loc X.env.scope y)(hc:X.calm=true)(S:CompScope X x N ix scope cl)(hix:ix.length=N.length)(hi:PI X (.Name x px) iter wi)(hb:∀s3 H3 fp,PB (hR X (x::N) scope cl s3 H3 fp) ifs elt tb)
 (hsw:swapsWith (.ListComp elt [%[.Name x px,iter,ifs|(0)]] scope pos) (some (.Name y py)) spos.line X.env=pure true:=by rfl')
 (hs:∀x,foldedSetIterable iter X.env x=pure x:=by intro _;rfl)(hf:X.fn y=true∨X.env.scope.names.lookup y=some .local:=by first | exact .inl rfl | exact .inr rfl | assumption):
 PS X (.Assign [.Name y py] (.ListComp elt [%[.Name x px,iter,ifs|(0)]] scope pos) spos) (λD σ H=>xH wi ix tb σ H λv H'=>D.nx (σ.set i (some v)) H'):=by
 exists 4,Dn,I,h;rw[exec_Assign_Name_used _ _ _ _ hsw];apply zE0 (wU1 (zE0 ?_));show wpAny _ X.A (do let _ ←comprehension (.ListComp elt [%[.Name x px,iter,ifs|(0)]] scope pos) scope X.env _ (newList []) false (eval iter X.env) (some (assign (.Name y py) X.env))) _ _ s;apply zE0 (qQ1 (jA0 (use:=some (assign (.Name y py) X.env)) (Q:=λ_ s'=>SP X M5 Dn .next s') rfl hs S.clos S.kind S.names
  (thn (hi M5 s σ H _ I h) λxv s1 h1=>thn h1 λitv s2 h2=>?_)) (λ_ s' hq=>zI0 (zI0 hq)) λ_ _ e=>e)
 erw[it,fp,tn,J,H2,1,I2,T,st2,f2,R]at h2;apply xa hc S hix hb (RR:=λacc C=>compPost (model X.prog X.w) X.A X.xe (some (assign (.Name y py) X.env)) (λ_ s'=>SP X M5 Dn .next s') acc C) (Q:=λv H'=>Dn.nx (σ.set i (some v)) H') I2 T st2 f2 R ?_;intro D C H' s' m hn ap I' q;show wpAny _ X.A (assign (.Name y py) X.env (.ref D)) _ _ _;apply wR1 (oi I' hN hi0 hx (v:=.ref D) rfl (λs'' I'' hsb=>?_) hf);erw[a,hsb,ha]at hsb;let ne:C≠a:=by
  rcases ha with z | z
  . rw[z];exact ap.lo
  . exact Ne.symm (ap.ce y a z)
 erw[m,hn.sameBut hsb ne,λh'' hb''=>%[_,H',ap.turn I'' hb''|q]]
end
section
variable {X:Cx}{M5:#[7]}{σ:St}{H:Hp}{s:Shared}{h':Heap}
def Inv.turnedNew{t':Nat}{ch:List Addr}{T:Addr}(I:#[8] H s)(k:∀b u,b∉ch->s.heap.get? b=some u->h'.get? b=some u)(hf:∀b∈ch,iQ X M5 H b)(hT:‹s›<=T)
 (new:ObjOk X.prog X.w (upd H T o) h' T o):#[8] (upd H T o) { s with heap:=h',toks:=t' }:=by
 let nit:∀b u,H b=some u->b∉ch:=λb u e z=>by rw[(hf b z).1]at e;cases e
 let hn:H T=none:=I.hok.fresh hT;let lt:∀b u,s.heap.get? b=some u->b≠T:=λb u e=>qA0 (qN0 (zQ0 e) hT)
 apply I.step (g':=s.gens) (d':=s.drawn) (ch:=ch) (λb hb=>?_) (λb u _ _ hc e _=>k b u hc e) (λb u _ _ hc e _=>%[u.slots|k b u hc e]) (λb u _ e n=>by rw[aE (lt b u e)];exact n) (λb u hc e=>%[u|k b u hc e])
  (λb xs e=>by rw[aE (aZ e hn)];exact e) (λb ob u e=>by rw[aE (aZ e hn)];exact e) (λb ps e=>%[#[]|by rw[aE (aZ e hn),e];simp]) (λm hm=>?_) (λb u e=>?_) I.bare
 . let%[_,h2,_,h4,h5|h6]:=hf b hb;erw[h4,h2,h5,h6]
 . erw[ob,es,ep,ho,r]at hm;erw[ob,es,ep,k _ ob (λz=>(hf _ z).2.1 rfl) ho,r]
 . by_cases hb:b=T
   . subst hb;rw[aP]at e;cases e;exact new
   . rw [aE hb]at e;refine(I.hok b u e).stay (λc v hc q=>k c v ?_ q) (λc q=>by rw[aE (aZ q hn)];exact q) λc xs q=>by rw[aE (aZ q hn)];exact q
     rcases hc with z | z
     . rw[z];exact nit b u e
     . exact nit c _ z
def Inv.turnedL{t':Nat}{ch:List Addr}(I:#[8] H s)(k:∀b u,b∉ch->s.heap.get? b=some u->h'.get? b=some u)(hf:∀b∈ch,iQ X M5 H b):#[8] H { s with heap:=h',toks:=t' }:=by
 let nit:∀b u,H b=some u->b∉ch:=λb u e z=>by rw[(hf b z).1]at e;cases e
 apply I.step (g':=s.gens) (d':=s.drawn) (ch:=ch) (λb hb=>?_) (λb u _ _ hc e _=>k b u hc e) (λb u _ _ hc e _=>%[u.slots|k b u hc e]) (λ_ _ _ _ n=>n) (λb u hc e=>%[u|k b u hc e])
  (λ_ _ e=>e) (λ_ _ _ e=>e) (λb ps e=>%[#[]|by rw[e];simp]) (λm hm=>?_) (λb u e=>?_) I.bare
 . let%[_,h2,_,h4,h5|h6]:=hf b hb;erw[h4,h2,h5,h6]
 . erw[ob,es,ep,ho,r]at hm;erw[ob,es,ep,k _ ob (λz=>(hf _ z).2.1 rfl) ho,r]
 . apply (I.hok b u e).stay (λc v hc q=>k c v ?_ q) (λ_ q=>q) λ_ _ q=>q
   rcases hc with z | z
   . rw[z];exact nit b u e
   . exact nit c _ z
end
def Ite(K:W.Frag)(a:Addr):It:=
 ⟨λi H=>∃xs x,SqL K H a xs/\xs[i]?=some x,λi H y H'=>∃t,y=.ref t/\H t=none/\∀xs x,SqL K H a xs->xs[i]?=some x->H'=upd H t (.tup [.int i,x]),λi H=>∃xs,SqL K H a xs/\xs.length<=i⟩
def Aa{K:W.Frag}{elts:List Expr}{k:Nat}{pos:Pos}(a e it:Addr)(hei:e≠it):
 Turn P w K (.Tuple elts k pos) (Ite K a) [e,it] e (λi h=>(∃old,IsEnum h e it i old)/\h.IsListIter it a i) where
 mem:=by simp
 obj:=λi h st b hb=>by
  erw[%[old|he],o,e2,c,d]at st;rcases Nf hb with z | z
  . subst z;erw[_,he,λv z=>nomatch z]
  . let z':=Nd z;subst z';erw[o,e2,λv z=>by rw[d]at z;cases z]
 keep:=λi h h' st k=>by
  erw[%[old|he],hit]at st;erw[%[old|k e #[2] _ he],hit.at λo x=>k it #[2] o x]
 item:=by
  exists 5;erw[xs,x,hq,hx]at hg;let%[its,rv,p|hz]:=I.list hq;let%[u,hu|ru]:=rv.get hx;erw[%[old|he],hit]at st;apply wpAny_pyNext_enum_item he hit p.isList (x:=u) #[hu,0] hei λh1 ho hit1 hT hsz hk=>?_
  erw[0,wpAny_letOwnedTupleGo_enum ho λh2 he2 hs2=>?_];let elt:e<‹s›:=zQ0 he;let hT2:h2.get? ‹s›=some { cls:=.type "tuple",data:=.seq #[.int i s.toks,u] }:=(hs2.2 _ (Ne.symm (qA0 elt))).trans hT;let I2:#[8] (upd H ‹s› (.tup [.int i,x])) { s with heap:=h2,toks:=s.toks+1 }:=by
   apply I.turnedNew (ch:=[e,it]) (λb ob hb eb=>?_) hf (zH0 _) %[by show 2<=sizeLine;decide,[.int i s.toks,u],.cons %[|0] (.cons ru .nil),%[_,hT2,1|0],_,hT2|1];let b1:b≠e:=λz=>hb (by simp [z])
   let b2:b≠it:=λz=>hb (by simp [z])
   exact(hs2.2 b b1).trans (hk b ob b1 b2 eb)
  erw[.ref ‹s›,_,I2,1,%[0,I.hok.fresh (zH0 _)|λys y hy hyi=>?_],%[%[u|by simpa using he2]|hit1.at λo z=>(hs2.2 it (Ne.symm hei)).trans z],λb hb=>?_]
  . let e1:=I.list_inj hy hq;subst e1;rw[hx]at hyi;cases hyi;rfl
  . let z:=hf b hb;let Nb:b<‹s›:=by
     rcases Nf hb with y | y
     . rw[y];exact elt
     . rw[Nd y];erw[o,e2,_]at hit;exact zQ0 e2
    rw[aE (qA0 Nb)];exact z.1
 done:=by
  exists 5;erw[xs,hq,hx]at hg;let%[its,rv,p|hz]:=I.list hq;erw[%[old|he],hit]at st;let hl:=rv.length;exact wpAny_pyNext_enum_end (I.ok.hd hc) he hit p.isList (Array.getElem?_eq_none (by simp;omega)) λh' eb=>%[1|I.turnedL (t':=s.toks) (ch:=[e,it]) (λb o hb eo=>eb b o (λz=>hb (by simp [z])) eo) hf]
 self:=λ_ _ _ _ _ st h=>by
  erw[%[old|he],_]at st;exact jV0 he h
section
variable {X:Cx}{elts:List Expr}{k:Nat}{tpos:Pos}
instance ZiEnum(K:W.Frag)(R:(It->Hp->Prop))(x:V)(H1:Hp):∀a,x=.ref a->(∃xs,SqL K H1 a xs)->R (Ite K a) H1:=0
def iEnum(K:W.Frag)(tl:TE):TI:=λσ H R=>tl σ H λx H1=>ZiEnum K R x H1
def zy{p pos:Pos}(hg:Gl X "enumerate")(hm:X.mg "enumerate"=none)(hl:PE X l tl)(hs:starEach [l] X.env=[(false,eval l X.env)]:=by rfl):
 PI X (.Tuple elts k tpos) (.Call (.Name "enumerate" p) [l] [] pos) (iEnum X.K tl):=by
 exists 4,R,I,h;apply Call_ (iO I hg hm boot_enumerate (zO1 ?_ hs rfl));rw[hs];show wpAny _ _ (spliced ((false,eval l X.env)::backTo pos (starEach [] X.env))) _ _ s;apply qK1 (thn (hl M5 s σ H _ I h) λu s1 ⟨x,H1,I1,r1,a,ex,⟨xs,hq⟩,q⟩=>?_);subst ex;cases r1;let%[its,rv,p|hz]:=I1.list hq;apply qY1 ?_;apply call_enumerate_list p.isList λh' he hit hsz hk=>?_
 apply jV0 he ?_;let I2:#[8] H1 { s1 with heap:=h' }:=I1.kept (t':=s1.toks) hk;erw[‹s1›+1,[‹s1›+1,‹s1›],_,_,H1,1,I2,Aa a _ _ (wK1 (qM1 _)),%[%[_|he]|hit],λb hb=>?_,q];rcases Nf hb with z | z
 . rw[z];exact I1.fpOk (qM0 _) (I1.hok.fresh (qM0 _))
 . rw[Nd z];exact I1.fpOk (zH0 _) (I1.hok.fresh (zH0 _))
end
def wP{K:W.Frag}{xs:List V}{g:TG}{tb:TS}{D:Ends}{σ:St}{H:Hp}(Pv:Nat->St->Hp->Prop)(h0:Pv 0 σ H)(hl:∀i σ H,i<=xs.length->Pv i σ H->SqL K H a xs)
 (hs:∀i x σ H t,xs[i]?=some x->Pv i σ H->H t=none->g (.ref t) σ (upd H t (.tup [.int i,x])) λσ2 H2=>tb { D with nx:=Pv (i+1),ct:=Pv (i+1),bk:=D.nx } σ2 H2)(hd:∀ σ H,Pv xs.length σ H->D.nx σ H):
 ∃ W:Nat->Nat->St->Hp->Prop,(∃m,W 0 m σ H)/\∀i m σ H,W i m σ H ->
  ((Ite K a).stop i H/\D.nx σ H)∨((Ite K a).go i H/\∃N:St->Hp->Prop,(∀ σ' H',N σ' H'->∃m',m'<m/\W (i+1) m' σ' H')/\∀x H',(Ite K a).yld i H x H'->g x σ H' λσ2 H2=>tb { D with nx:=N,ct:=N,bk:=D.nx } σ2 H2):=by
 erw[λi m σ H=>m=xs.length-i/\i<=xs.length/\Pv i σ H,%[xs.length,by simp,zP0 _|h0],6];rintro i m σ H ⟨rfl,hi,p⟩;let q:=hl i σ H hi p
 by_cases Nb:i<xs.length
 . refine .inr %[%[xs,xs[i],q|by simp [Nb]],Pv (i+1),λσ' H' p'=>%[xs.length-(i+1),3,1,Nb|p']|λx H' y=>?_];erw[t,1,ht,e]at y;let e':=e xs xs[i] q (by simp [Nb]);subst e';exact hs i xs[i] σ H t (by simp [Nb]) p ht
 . let e:i=xs.length:=#[0]
   subst e;exact .inl %[%[xs,q|zH0 _]|hd σ H p]
mutual
inductive Rep(K:W.Frag)(H:Hp):V->PyData->Prop
 |non:Rep K H .non .none
 |bl (b:Bool):Rep K H (.bl b) (.bool b)
 |int (i:Int):Rep K H (.int i) (.int i)
 |str (x:Str):Rep K H (.str x) (.str x)
 |tup {a:Addr} {xs:List V} {ds:List PyData}:SqT K H a xs->RepAll K H xs ds->Rep K H (.ref a) (.tuple ds)
 |lst {a:Addr} {xs:List V} {ds:List PyData}:SqL K H a xs->RepAll K H xs ds->Rep K H (.ref a) (.list ds)
inductive RepAll(K:W.Frag)(H:Hp):List V->List PyData->Prop
 |nil:RepAll K H [] []
 |cons {x:V} {d:PyData} {xs:List V} {ds:List PyData}:Rep K H x d->RepAll K H xs ds->RepAll K H (x::xs) (d::ds)
end
section
variable {X:Cx}{M5:#[7]}{σ:St}{H:Hp}{s:Shared}
mutual
def Rep.reads(I:#[8] H s):∀{x:V}{d:PyData}{v:Value},Rep X.K H x d->RelV x v->∃as,Reads s.heap v d as
 |_,_,v,.non,r=>by cases(show v=Value.none from r);erw[_,Reads.none]
 |_,_,v,.bl b,r=>by cases(show v=Value.bool b from r);erw[_,Reads.bool b]
 |_,_,v,.int i,r=>by let%[t|e]:=(show ∃t,v=Value.int i t from r);cases e;erw[_,Reads.int i t]
 |_,_,v,.str x,r=>by let%[t|e]:=(show ∃t,v=Value.str x t from r);cases e;erw[_,Reads.str x t]
 |_,_,v,.tup (a:=a) h q,r=>by
   cases(show v=Value.ref a from r);let%[its,rv,%[o,ho,hc,n|hd]|_]:=I.tuple h;let%[as|z]:=RepAll.reads I q rv;erw[_,reads_tuple_at ho hc hd #[z,0]]
 |_,_,v,.lst (a:=a) h q,r=>by
   cases(show v=Value.ref a from r);let%[its,rv,%[o,n,ho,hc,_|hd]|_]:=I.list h;let%[as|z]:=RepAll.reads I q rv;erw[_,reads_list_at ho hc hd #[z,0]]
def RepAll.reads(I:#[8] H s):∀{xs:List V}{ds:List PyData}{vs:List Value},RepAll X.K H xs ds->Vals xs vs->∃as,ReadsAll s.heap vs ds as
 |_,_,_,.nil,.nil=>%[_|ReadsAll.nil]
 |_,_,_,.cons h q,.cons r rs=>by
   let%[as|z]:=Rep.reads I h r;let%[bs|y]:=RepAll.reads I q rs;erw[_,ReadsAll.cons z y]
end
end
def eP{K:W.Frag}:∀ns:List Int,RepAll K H (ns.map V.int) (ns.map PyData.int)
 | []=>.nil
 |n::r=>.cons (.int n) (eP r)
section
variable {X:Cx}
instance rEqD(K:W.Frag)(x:V)(y:V)(H:Hp)(Q:VK):∀d e,Rep K H x d->Rep K H y e->SeqAt.shaped d=true->SeqAt.shaped e=true->Q (.bl (PyData.eqv d e)) H:=0
instance rNeD(K:W.Frag)(x:V)(y:V)(H:Hp)(Q:VK):∀d e,Rep K H x d->Rep K H y e->SeqAt.shaped d=true->SeqAt.shaped e=true->Q (.bl (!PyData.eqv d e)) H:=0
def rh(hu:X.A.units+64<cLine):OpR X (compareOp .Eq) (rEqD X.K):=by
 exists 4,x,y,v,u,Q,I,rx,ry,h;erw[d,e,hd,he,sd,se,q]at h;let%[as|r1]:=Rep.reads I hd rx;let%[bs|r2]:=Rep.reads I he ry;exact eq_dataH r1 r2 sd se hu %[.bl _,H,I,1|q]
def kM(hu:X.A.units+64<cLine):OpR X (compareOp .NotEq) (rNeD X.K):=by
 exists 4,x,y,v,u,Q,I,rx,ry,h;erw[d,e,hd,he,sd,se,q]at h;let%[as|r1]:=Rep.reads I hd rx;let%[bs|r2]:=Rep.reads I he ry;exact ne_dataH r1 r2 sd se hu %[.bl _,H,I,1|q]
instance rCatT0(K:W.Frag)(x:V)(y:V)(H:Hp)(Q:VK):∀a b ys,x=.ref a->y=.ref b->SqT K H a []->SqT K H b ys->Q (.ref b) H:=0
def iZ:OpR X (binaryOp .Add) (rCatT0 X.K):=by
 exists 4,x,y,v,u,Q,I,rx,ry,h;erw[a,b,ys,1,1,ha,hb,q]at h;cases rx;cases ry;let%[its,r1,p1|_]:=I.tuple ha;let%[its2,r2,p2|_]:=I.tuple hb;let%[%[cls,dd,data|sl],ho,hc,n|hd]:=id p1;let%[%[cls2,dd2,data2|sl2],ho2,hc2,n2|hd2]:=id p2;simp only at hc hd hc2 hd2;subst hc hd hc2 hd2;let e:its=[]:=r1.nil_iff.mpr rfl;exact concat_meets %[_,ho|1] ⟨_,ho2,rfl⟩ wZ0 seq_tuple_add jT0 jP1 (jM1 _ _)
  (tuple_addW0 a b its.toArray its2.toArray n n2 dd dd2 sl sl2 (by simp [e])) %[ho,ho2|%[.ref b,H,I,1|q]]
end
def Nx(n i:Nat)(Pv:Nat->Hp->Prop)(H:Hp):Prop:=∃m',m'<n-i/\(m'=n-(i+1)/\i+1<=n/\Pv (i+1) H)
def Nx.of{n i:Nat}{Pv:Nat->Hp->Prop}{H:Hp}(h:i<n)(p:Pv (i+1) H):Nx n i Pv H:=%[n-(i+1),3,1,h|p]
def dJ{K:W.Frag}{xs:List V}{tb:TBl}{Q:VK}(Pv:Nat->Hp->Prop)(h0:Pv 0 (upd H D (.lst [])))(hl:∀i H,i<=xs.length->Pv i H->SqT K H a xs)
 (hs:∀i x H,xs[i]?=some x->Pv i H->tb (some x::outs ix σ) H (Nx xs.length i Pv) λz H'=>∃ys,H' D=some (.lst ys)/\ys.length<sizeLine/\Nx xs.length i Pv (upd H' D (.lst (ys++[z]))))(hd:∀H,Pv xs.length H->Q (.ref D) H):
 oU (Itt K a) D ix tb σ H Q:=by
 erw[λi m H=>m=xs.length-i/\i<=xs.length/\Pv i H,%[xs.length,by simp,zP0 _|h0],6];rintro i m H ⟨rfl,hi,p⟩;let q:=hl i H hi p
 by_cases Nb:i<xs.length
 . refine .inr %[%[xs,xs[i],q|by simp [Nb]]|λx H' y=>?_];erw[e,y]at y;subst e;exact hs i x _ (y xs q) p
 . let e:i=xs.length:=#[0]
   subst e;exact .inl %[%[xs,q|zH0 _]|hd H p]
def ik{K:W.Frag}{xs:List V}{tb:TBl}{Q:VK}(Pv:Nat->Hp->Prop)(h0:Pv 0 (upd H D (.lst [])))(hl:∀i H,i<=xs.length->Pv i H->SqL K H a xs)
 (hs:∀i x H,xs[i]?=some x->Pv i H->tb (some x::outs ix σ) H (Nx xs.length i Pv) λz H'=>∃ys,H' D=some (.lst ys)/\ys.length<sizeLine/\Nx xs.length i Pv (upd H' D (.lst (ys++[z]))))(hd:∀H,Pv xs.length H->Q (.ref D) H):
 oU (Itl K a) D ix tb σ H Q:=by
 erw[λi m H=>m=xs.length-i/\i<=xs.length/\Pv i H,%[xs.length,by simp,zP0 _|h0],6];rintro i m H ⟨rfl,hi,p⟩;let q:=hl i H hi p
 by_cases Nb:i<xs.length
 . refine .inr %[%[xs,xs[i],q|by simp [Nb]]|λx H' y=>?_];erw[e,y]at y;subst e;exact hs i x _ (y xs q) p
 . let e:i=xs.length:=#[0]
   subst e;exact .inl %[%[xs,q|zH0 _]|hd H p]
def eI{lo:Int}{n:Nat}{tb:TBl}{Q:VK}(Pv:Nat->Hp->Prop)(h0:Pv 0 (upd H D (.lst [])))
 (hs:∀i H,i<n->Pv i H->tb (some (.int (lo+i))::outs ix σ) H (Nx n i Pv) λz H'=>∃ys,H' D=some (.lst ys)/\ys.length<sizeLine/\Nx n i Pv (upd H' D (.lst (ys++[z]))))(hd:∀H,Pv n H->Q (.ref D) H):
 oU (Itr lo n) D ix tb σ H Q:=by
 erw[λi m H=>m=n-i/\i<=n/\Pv i H,%[n,by simp,zP0 _|h0],6];rintro i m H ⟨rfl,hi,p⟩
 by_cases Nb:i<n
 . refine .inr %[Nb|λx H' y=>?_];erw[e,y]at y;subst e y;exact hs i _ Nb p
 . let e:i=n:=#[0]
   subst e;exact .inl %[zH0 _|hd H p]
def CompScope.closed{X:Cx}{x:Str}{scope:Scope}(c1:closureFor scope X.env=pure [])(c2:∀y∈scope.names,y.2≠.cell)(c3:scope.kind=.function)(c4:∀y∈scope.names,y.2=.local->scope.names.lookup y.1=some .local)
 (c5:scope.names.lookup x=some .local)(c6:((relabel scope X.env).names.all λp=>!(p.2==.cell||p.2==.free)||((([]:List (Str×Addr))).lookup p.1).isSome)=true):CompScope X x [] [] scope [] where
 clos:=c1
 nocell:=c2
 kind:=c3
 names:=c4
 own:=c5
 nd:=by simp
 sub:=λp hp=>absurd hp #[2]
 has:=c6
 outs:=λj y h=>by simp at h
section
variable {X:Cx}
def wL(K:W.Frag)(hK:X.K=K:=by rfl):IxR X (rIxL K):=by subst hK;exact ix_list
def zF(K:W.Frag)(hK:X.K=K:=by rfl):IxR X (rIxT K):=by subst hK;exact ix_tup
end
def Its(z:Str):It:=⟨λi _=>i<z.cps.size,λi H x H'=>H'=H/\∃c,z.cps[i]?=some c/\x=.str %[|#[c]],λi _=>z.cps.size<=i⟩
def qb{prog:Program}{w:World}{A:Around}(hh:A.handled=none)(I:Addr)(x:Str)(t:Tok):Walks prog w A I [I] [I] x.cps.size (SignAt x) (λi h=>h.IsStrIter I (strIterType x) x t i):=by
 unfold strIterType
 split
 . exact Walks.strAscii hh I x t
 . exact Walks.strWide hh I x t
def Cg{K:W.Frag}{y:Str}{py:Pos}(z:Str)(t:Tok)(it:Addr):Turn P w K (.Name y py) (Its z) [it] it (λi h=>i<=z.cps.size/\h.IsStrIter it (strIterType z) z t i) where
 mem:=by simp
 obj:=λi h st b hb=>by
  let e:b=it:=#[hb,0]
  subst e;erw[_,o,e,c,d]at st;erw[o,e,λv z=>by rw[d]at z;cases z]
 keep:=λi h h' st k=>by
  erw[hi,o,e,r]at st;erw[hi,o,k it #[2] o e,r]
 item:=by
  exists 5;let%[f0,f1,f2,f3,f4|f5]:=hf it #[2];refine(qb (I.ok.hd hc) it z t).item i s _ E hg st.2 λv h' tk hP Na hk=>?_
  erw[c,u,hcx,1]at hP;let I1:#[8] H { s with heap:=h',toks:=tk }:=I.turned (λb o hb e=>hk b o #[hb,0] e) f0 f1 f3 f4 f5;erw[0,jB0 (a:=()) rfl %[.str %[|#[c]],H,I1,%[|0],%[1,c,hcx|1],%[hg|Na]|λb hb=>(hf b hb).1]]
 done:=by
  exists 5;let%[f0,f1,f2,f3,f4|f5]:=hf it #[2];let e:i=z.cps.size:=Nat.le_antisymm st.1 hg;subst e;refine(qb (I.ok.hd hc) it z t).done s _ E st.2 λh' tk hk=>?_
  erw[1,I.turned (λb o hb e=>hk b o #[hb,0] e) f0 f1 f3 f4 f5]
 self:=λA i s Q E st h=>by
  erw[_,st]at st;unfold strIterType at st
  split at st
  . exact wpAny_pyIter_striter_ascii st h
  . exact wpAny_pyIter_striter_wide st h
section
variable {X:Cx}{y:Str}{py:Pos}
instance ZiStr(R:(It->Hp->Prop))(x:V)(H1:Hp):∀z,x=.str z->R (Its z) H1:=0
def iStr(tl:TE):TI:=λσ H R=>tl σ H λx H1=>ZiStr R x H1
def Dt(hl:PE X l tl):PI X (.Name y py) l (iStr tl):=by
 exists 4,R,I,h;apply thn (hl M5 s σ H _ I h) λv s1 ⟨x,H1,I1,r1,q1⟩=>?_
 erw[z,e,q]at q1;subst e;erw[t,1]at r1;apply wpAny_pyIter_strU ?_;erw[‹s1›,[‹s1›],_,_,H1,1,I1.kept (t':=s1.toks) λb o e=>zS0 _ e,Cg z t _,%[zP0 _,_,qE0 _ rfl,1|1],λb hb=>?_,q];let e:b=‹s1›:=#[hb,0]
 subst e;exact I1.fpOk (zH0 _) (I1.hok.fresh (zH0 _))
end
def sg{z:Str}{tb:TBl}{Q:VK}(Pv:Nat->Hp->Prop)(h0:Pv 0 (upd H D (.lst [])))
 (hs:∀i c H,z.cps[i]?=some c->Pv i H->tb (some (.str %[|#[c]])::outs ix σ) H (Nx z.cps.size i Pv) λu H'=>∃ys,H' D=some (.lst ys)/\ys.length<sizeLine/\Nx z.cps.size i Pv (upd H' D (.lst (ys++[u]))))(hd:∀H,Pv z.cps.size H->Q (.ref D) H):
 oU (Its z) D ix tb σ H Q:=by
 erw[λi m H=>m=z.cps.size-i/\i<=z.cps.size/\Pv i H,%[z.cps.size,by simp,zP0 _|h0],6];rintro i m H ⟨rfl,hi,p⟩
 by_cases Nb:i<z.cps.size
 . refine .inr %[Nb|λx H' y=>?_];erw[e,c,hc,1]at y;subst e;exact hs i c _ hc p
 . let e:i=z.cps.size:=#[0]
   subst e;exact .inl %[zH0 _|hd H p]
section
variable {X:Cx}
instance rSlS(x:V)(lo:Option Int)(hi:Option Int)(H:Hp)(Q:VK):∀z,x=.str z->z.length<=sizeLine->Q (.str (Txt.slice z lo hi)) H:=0
def xL:SlR X rSlS:=by
 exists 4,x,v,vl,vu,lo,hi,sl,Q,I,rx,hs,pl,pu,h;erw[z,1,hz,q]at h;erw[t,1]at rx;erw["str",_,F.slot_str_getitem.lookup,wD1 _ _ _,6];let fin:∀t' k,EP X M5 σ Q (.str (Txt.slice z lo hi) t') { s with toks:=k }:=λt' k=>%[.str _,H,I.tok k,%[|0]|q]
 erw[o,ho,hc,hd]at hs;cases pl with
 |none=>
   cases pu with
   |none=>exact jB1 (l:=none) (u:=none) (st:=none) %[o,ho,hc|hd] rfl (wF1 ⟨zT0 (jX0 z _ _) hz,fin⟩)
   |int j u=>exact jB1 (l:=none) (u:=some (j,u)) (st:=none) %[o,ho,hc|hd] rfl (wF1 ⟨zT0 (jX0 z _ _) hz,fin⟩)
 |int i u'=>
   cases pu with
   |none=>exact jB1 (l:=some (i,u')) (u:=none) (st:=none) %[o,ho,hc|hd] rfl (wF1 ⟨zT0 (jX0 z _ _) hz,fin⟩)
   |int j u=>exact jB1 (l:=some (i,u')) (u:=some (j,u)) (st:=none) %[o,ho,hc|hd] rfl (wF1 ⟨zT0 (jX0 z _ _) hz,fin⟩)
instance rStarts(x:V)(vs:List V)(H:Hp)(Q:VK):∀z u,x=.str z->vs=[.str u]->Q (.bl (Txt.startswith z u)) H:=0
def sN:MtR X "str.startswith" rStarts:=by
 exists 4,x,vs,v,us,Q,I,rx,rv,h;erw[z,u,1,1,q]at h;erw[t,1]at rx;erw[w',1,t',1]at rv.one;exact SC.startswith %[.bl _,H,I,1|q]
def qm:∀{zs:List Str}{us:List Value},Vals (zs.map V.str) us->StrsAre us zs
 | [],_,.nil=>.nil
 |_::_,_,.cons ⟨t,e⟩ r=>by subst e;exact .cons _ t (qm r)
instance rJoin(K:W.Frag)(x:V)(vs:List V)(H:Hp)(Q:VK):∀z a ys,x=.str z->vs=[.ref a]->SqL K H a (ys.map V.str)->z.length<=16->(ys.map (·.length)).sum+ys.length<=1048576->Q (.str (Txt.join z ys)) H:=0
def vi:MtR X "str.join" (rJoin X.K):=by
 exists 4,x,vs,v,us,Q,I,rx,rv,h;erw[z,a,ys,1,1,hq,hz,hw,q]at h;erw[t,1]at rx;erw[w',1,ra]at rv.one;cases ra;let%[its,r',p|_]:=I.list hq;exact join_listW p.isList #[qm r',0] hz hw λt' k=>%[.str _,H,I.tok k,%[|0]|q]
instance rAll(K:W.Frag)(xs:List V)(H:Hp)(Q:VK):∀(a:Addr)(bs:List Bool),xs=[.ref a]->SqL K H a (bs.map V.bl)->Q (.bl (bs.all id)) H:=0
def tT:∀{bs:List Bool}{us:List Value}{i:Nat}{v:Value},Vals (bs.map V.bl) us->us[i]?=some v->∃b,bs[i]?=some b/\v=.bool b
 | [],_,_,_,.nil,h=>by simp at h
 |b::_,_,0,_,.cons r _,h=>by
   simp at h
   subst h;erw[b,1,r]
 |_::_,_,i+1,_,.cons _ t,h=>by
   let%[b,h1|h2]:=tT (i:=i) t #[h,0];erw[b,by simpa using h1,h2]
def nZ(hc:X.calm=true):gR X (.builtin "all") (rAll X.K):=by
 exists 4,xs,us,Q,I,r,h;erw[a,bs,1,hq,q]at h;let%[u,1|ru]:=kc r;cases ru;let%[its,r',p|hz]:=I.list hq;let hl:=r'.length;rw[zF0]at hl;let Nb:a<‹s›:=by erw[o,n,e,_]at p;exact zQ0 e
 apply call_all_walk (jI0 p.isList ?_);erw[‹s›,_,_,_,_,_,λi=>bs[i]?.getD true,1,Walks.list (A:=X.A.in1) (I.ok.hd hc) ‹s› a (qA0 Nb) its.toArray,%[%[_,qE0 _ rfl,1|1]|p.isList.push _],6,6]
 . intro i v s' Q' E' hP hQ;let%[b,hb|1]:=tT r' (i:=i) (v:=v) #[hP,0];let hQ':Q' b s':=by simpa [hb]using hQ
   exact zZ1 hQ'
 . intro h' tk hk;let e:(List.range its.toArray.size).all (λi=>bs[i]?.getD true)=bs.all id:=by
    rw[zV0,←hl];rw[jP0,wA1,wA1]
    constructor
    . intro h b hb;let%[i,hi|e]:=wG0 hb
      have:=h i (List.mem_range.mpr hi)
      rw[zN0 hi]at this
      simpa [e]using this
    . intro h i hi;let hi':=List.mem_range.mp hi;rw[zN0 hi'];exact h _ (qP0 hi')
   rw[e];erw[.bl _,H,6,1,q];let I1:#[8] H { s with heap:=s.heap.push { cls:=.type "list_iterator",data:=.fields #[.ref a,.int 0 0] } }:=I.kept (t':=s.toks) λb o e=>zS0 _ e
   apply I1.turnedL (t':=tk) (ch:=[‹s›]) (λb o hb e=>hk b o #[hb,0] e) λb hb=>?_
   rw[Nd hb];exact I.fpOk (zH0 _) (I.hok.fresh (zH0 _))
end
def FS{X:Cx}{p pos:Pos}(C:Cal X.prog X.w X.K X.mg X.base n x [] sp)(hr:Room k X.A)(hk:n<=k)(hg:Gl X x)(hdb:(x==("__debug__":Str))=false:=by decide):
 PE X (.Call (.Name x p) [] [] pos) (vJ sp [] E0 Al):=by
 erw[f,fd,F,b,kp,m]at C.ex;exact DC F (hr.mono hk) hg m kp b .nil bn hdb
inductive Consts:List Expr->List Str->Prop
 |nil:Consts [] []
 |cons {x:Str} {j:Nat} {pos:Pos} {es:List Expr} {zs:List Str}:Consts es zs->Consts (.Constant (.str x) j pos::es) (x::zs)
def lr:∀{es:List Expr}{zs:List Str},Consts es zs->PA X es (λ_ H Q=>Q (zs.map V.str) H)
 |_,_,.nil=>aQ
 |_,_,.cons h=>λpos M5 s σ H Q I q=>ag aq (lr h) (by rfl) pos M5 s σ H Q I q
def CompScope.one{X:Cx}{x y:Str}{scope:Scope}{k:Nat}{c:Addr}(c1:closureFor scope X.env=pure [(y,c)])(c2:∀y∈scope.names,y.2≠.cell)(c3:scope.kind=.function)(c4:∀y∈scope.names,y.2=.local->scope.names.lookup y.1=some .local)
 (c5:scope.names.lookup x=some .local)(nd:[x,y].Nodup)(hc:X.env.cells.lookup y=some c)(c6:((relabel scope X.env).names.all λp=>!(p.2==.cell||p.2==.free)||(([(y,c)]:List (Str×Addr)).lookup p.1).isSome)=true)
 (hr:(relabel scope X.env).names.lookup y=some .cell)(hk:X.N[k]?=some y)(hs:X.env.scope.names.lookup y=some .cell):CompScope X x [y] [k] scope [(y,c)] where
 clos:=c1
 nocell:=c2
 kind:=c3
 names:=c4
 own:=c5
 nd:=nd
 sub:=λp hp=>by
  rw[Nd hp];exact hc
 has:=c6
 outs:=λj z h=>by
  cases j with
  |zero=>
    let e:y=z:=zO0 h;subst e;erw[hr,k,c,1,hk,by simp [List.lookup],hs]
  |succ j=>simp at h
def CompScope.two{X:Cx}{x y z:Str}{scope:Scope}{k l:Nat}{c d:Addr}{cl:List (Str×Addr)}(c1:closureFor scope X.env=pure cl)(c2:∀y∈scope.names,y.2≠.cell)(c3:scope.kind=.function)(c4:∀y∈scope.names,y.2=.local->scope.names.lookup y.1=some .local)
 (c5:scope.names.lookup x=some .local)(nd:[x,y,z].Nodup)(hcl:cl=[(z,d),(y,c)]∨cl=[(y,c),(z,d)])(hc:X.env.cells.lookup y=some c)(hd:X.env.cells.lookup z=some d)(c6:((relabel scope X.env).names.all λp=>!(p.2==.cell||p.2==.free)||(cl.lookup p.1).isSome)=true)
 (hr:(relabel scope X.env).names.lookup y=some .cell)(hk:X.N[k]?=some y)(hs:X.env.scope.names.lookup y=some .cell)
 (hr2:(relabel scope X.env).names.lookup z=some .cell)(hk2:X.N[l]?=some z)(hs2:X.env.scope.names.lookup z=some .cell):CompScope X x [y,z] [k,l] scope cl where
 clos:=c1
 nocell:=c2
 kind:=c3
 names:=c4
 own:=c5
 nd:=nd
 sub:=λp hp=>by
  rcases hcl with rfl | rfl
  all_goals
   rcases Nf hp with e | e
   . rw[e];assumption
   . rw[Nd e];assumption
 has:=c6
 outs:=λj w h=>by
  let nyz:y≠z:=λe=>by simp [e]at nd
  match j,h with
  |0,h=>
    let e:y=w:=zO0 h;subst e;erw[hr,k,c,1,hk,6,hs];rcases hcl with rfl | rfl
    . have:(y==z)=false:=#[nyz,0]
      simp [List.lookup,this]
    . simp [List.lookup]
  |1,h=>
    let e:z=w:=zO0 h;subst e;erw[hr2,l,d,1,hk2,6,hs2];rcases hcl with rfl | rfl
    . simp [List.lookup]
    . have:(z==y)=false:=#[Ne.symm nyz,0]
      simp [List.lookup,this]
  |j+2,h=>simp at h
end L2
namespace Mine
open PySem L2
def zc(x:Str):Prop:=x.length<=20/\(∀c∈x.cps.toList,97<=c/\c<=122)/\x≠"aa"
def lu{x:Str}{l u:Option Int}{c:Nat}(h:c∈(Txt.slice x l u).cps.toList):c∈x.cps.toList:=by
 let e:Txt.slice x l u=StrLaws.sliceText x l u:=rfl;rw[e]at h;unfold StrLaws.sliceText at h
 split at h
 . exact h
 . let%[i,_|hi]:=List.mem_filterMap.mp (show c∈(List.filterMap _ _) by simpa using h)
   have:=Array.mem_of_getElem? hi
   simpa using this
def mem_append{x y:Str}{c:Nat}(h:c∈(x++y).cps.toList):c∈x.cps.toList∨c∈y.cps.toList:=by
 let e:(x++y).cps.toList=x.cps.toList++y.cps.toList:=by simp [jC1]
 rw[e]at h;exact qH0 h
def Bj{zs:List Str}{c:Nat}(h:c∈(Txt.join "" zs).cps.toList):∃z∈zs,c∈z.cps.toList:=by
 let e:Txt.join "" zs=Str.join "" zs:=by
  cases zs with
  |nil=>rfl
  |cons a r=>exact StrLaws.glued_cons "" r a
 rw[e]at h;rcases(PyProof.Rows.mem_join "" c zs).mp h with h | ⟨_,h⟩
 . exact h
 . let e0:(("":Str)).cps.toList=[]:=by decide
   rw[e0]at h;cases h
inductive Tr where
 |is (x:Str) | yes | no | not (a:Tr) | bin (w:Str) (a b:Tr)
def Tr.size:Tr->Nat
 |.is _=>1 | .yes=>1 | .no=>1 | .not a=>a.size+1 | .bin _ a b=>a.size+b.size+1
def Tr.depth:Tr->Nat
 |.is _=>1 | .yes=>1 | .no=>1 | .not a=>a.depth+1 | .bin _ a b=>max a.depth b.depth+1
def Tr.names:Tr->List Str
 |.is x=>[x] | .yes=>[] | .no=>[] | .not a=>a.names | .bin _ a b=>a.names++b.names
def joinW:List Str:=["and","or","odd","same"]
def Tr.ok(ns:List Str):Tr->Prop
 |.is x=>x∈ns | .yes=>True | .no=>True | .not a=>a.ok ns | .bin w a b=>w∈joinW/\a.ok ns/\b.ok ns
inductive TreeAt(H:Hp):V->Tr->Prop
 |is {a:Addr} {x:Str}:H a=some (.tup [.str "is",.str x])->TreeAt H (.ref a) (.is x)
 |yes {a:Addr}:H a=some (.tup [.str "yes"])->TreeAt H (.ref a) .yes
 |no {a:Addr}:H a=some (.tup [.str "no"])->TreeAt H (.ref a) .no
 |not {a:Addr} {v:V} {t:Tr}:H a=some (.tup [.str "not",v])->TreeAt H v t->TreeAt H (.ref a) (.not t)
 |bin {a:Addr} {w:Str} {v u:V} {t r:Tr}:H a=some (.tup [.str w,v,u])->TreeAt H v t->TreeAt H u r->TreeAt H (.ref a) (.bin w t r)
abbrev bZ(H H':Hp):Prop:=∀a xs,H a=some (.tup xs)->H' a=some (.tup xs)
def TreeAt.mono(k:bZ H H')(h:TreeAt H v t):TreeAt H' v t:=by
 induction h with
 |is e=>exact .is (k _ _ e)
 |yes e=>exact .yes (k _ _ e)
 |no e=>exact .no (k _ _ e)
 |not e _ ih=>exact .not (k _ _ e) ih
 |bin e _ _ i1 i2=>exact .bin (k _ _ e) i1 i2
def bh(s:Same H H'):bZ H H':=λa _ h=>s a _ h
def bc(F:FeedAt H f)(s:SameBut f H H'):bZ H H':=λa xs h=>s a _ (λz=>by
 erw[o,t,e,_]at F;rw[z,e]at h;cases h) h
def NamesAt(H:Hp)(a:Addr)(ns:List Str):Prop:=H a=some (.lst (ns.map V.str))∨H a=some (.tup (ns.map V.str))
def NamesAt.ne(F:FeedAt H f)(h:NamesAt H a ns):a≠f:=λz=>by
 erw[o,t,e,_]at F;subst z;rcases h with h | h
 . rw [e]at h;let h':=HO.lst.inj (zO0 h);cases ns with
   |nil=>cases h'
   |cons x r=>simp at h'
 . rw[e]at h;cases h
def NamesAt.feed(F:FeedAt H f)(s:SameBut f H H')(h:NamesAt H a ns):NamesAt H' a ns:=by
 let ne:=h.ne F;rcases h with h | h
 . exact .inl (s _ _ ne h)
 . exact .inr (s _ _ ne h)
def NamesAt.same(s:Same H H')(h:NamesAt H a ns):NamesAt H' a ns:=by
 rcases h with h | h
 . exact .inl (s _ _ h)
 . exact .inr (s _ _ h)
def NamesAt.seq{K:W.Frag}(h:NamesAt H a ns):SqL K H a (ns.map V.str)∨SqT K H a (ns.map V.str):=by
 rcases h with h | h
 . exact .inl (zG0 h)
 . exact .inr (zA0 h)
def NamesAt.ix{K:W.Frag}{x:V}{Q:VK}(h:NamesAt H a ns)(hx:atI (ns.map V.str) i=some x)(q:Q x H):rIxL K (.ref a) (.int i) H Q∨rIxT K (.ref a) (.int i) H Q:=by
 rcases h with h | h
 . exact .inl %[a,_,i,x,1,1,zG0 h,hx|q]
 . exact .inr %[a,_,i,x,1,1,zA0 h,hx|q]
instance spTree(n:Nat):∀(f a:Addr)(room deep:Int)(ns:List Str),vs=[.ref f,.ref a,.int room,.int deep]->FeedAt H f->NamesAt H a ns->ns.length<=6->1<=room->room<=100->1<=deep->deep+1<=(n:Int)+1->(∀(v:V)(t:Tr)(H':Hp),FeedAt H' f->SameBut f H H'->TreeAt H' v t->t.ok ns->(t.size:Int)<=room->(t.depth:Int)<=deep->Q v H'):=1
def oa{α:Type}{l:List α}{i:Int}(h0:0<=i)(h:i<(l.length:Int)):∃v,atI l i=some v/\v∈l:=by
 let hk:i.toNat<l.length:=#[0]
 let q:atI l ((i.toNat:Nat):Int)=some l[i.toNat]:=bv (zN0 hk);let ek:((i.toNat:Nat):Int)=i:=#[0]
 rw[ek]at q;erw[_,q,qP0 hk]
end Mine
namespace L2
open PySem PySem.Spec PyProof.Rows
section
variable {X:Cx}
def uM(lo:Int)(n:Nat):List Int:=(List.range n).map λi:Nat=>lo+(i:Int)
def Dj(lo:Int)(n:Nat):(uM lo n).length=n:=by unfold uM;rw[zF0,qR0]
def AD{lo:Int}{n:Nat}{acc:List Value}(h:ItemsOf (λi v=>∃t,v=Value.int (lo+(i:Int)*1) t) acc.toArray n):Vals ((uM lo n).map V.int) acc:=by
 erw[h1,h2]at h;let l1:acc.length=n:=#[h1,0]
 let key:∀(k:Nat)(l:List Value),(∀i v,l[i]?=some v->∃t,v=Value.int (lo+((k+i:Nat):Int)) t)->Vals (((List.range' k l.length).map λi:Nat=>lo+(i:Int)).map V.int) l:=by
  intro k l
  induction l generalizing k with
  |nil=>intro _;exact .nil
  |cons a r ih=>
    intro h;let%[t|e]:=h 0 a rfl;rw[zR0,List.range'_succ,qC0,qC0];refine .cons %[t|by simpa using e] (ih (k+1) λi v hv=>?_);let%[t|e]:=h (i+1) v #[hv,0];erw[t,by rw[e];congr 2;omega]
 have:=key 0 acc λi v hv=>by
  let%[t|e]:=h2 i v #[hv,0];erw[t,by simpa using e]
 unfold uM;rw[←l1,List.range_eq_range'];exact this
instance ZtListRng(Q:VK)(vs:(List V))(H1:Hp):∀i j:Int,vs=[.int i,.int j]->-(2 ^ 62)<=i/\i<2 ^ 62/\-(2 ^ 62)<=j/\j<2 ^ 62->j-i<=1000->(∀p,H1 p=none->Q (.ref p) (upd H1 p (.lst ((uM i (j-i).toNat).map V.int)))):=0
def Cu(ta:TA):TE:=λσ H Q=>ta σ H λvs H1=>ZtListRng Q vs H1
def yi{a b:Expr}{p1 p2 pos1 pos2:Pos}(hc:X.calm=true)(hg1:Gl X "list")(hm1:X.mg "list"=none)(hg2:Gl X "range")(hm2:X.mg "range"=none)(ha:PA X [a,b] ta)
 (hs1:starEach [(.Call (.Name "range" p2) [a,b] [] pos2:Expr)] X.env=[(false,eval (.Call (.Name "range" p2) [a,b] [] pos2) X.env)]:=by rfl)(hs:starEach [a,b] X.env=[(false,eval a X.env),(false,eval b X.env)]:=by rfl)(hs2:starEach [b] X.env=[(false,eval b X.env)]:=by rfl):
 PE X (.Call (.Name "list" p1) [.Call (.Name "range" p2) [a,b] [] pos2] [] pos1) (Cu ta):=by
 exists 4,Q,I,h;apply qL1 (iO I hg1 hm1 gC ?_);apply zO1 ?_ hs1 rfl;rw[hs1];show wpAny _ _ (spliced ((false,eval (.Call (.Name "range" p2) [a,b] [] pos2) X.env)::backTo pos1 (starEach [] X.env))) _ _ s;let step:‹X.w› (eval (.Call (.Name "range" p2) [a,b] [] pos2) X.env) (λv s1=>∃(r:Addr) (i j:Int) (t u k:Tok) (H1:Hp),v=.ref r/\#[8] H1 s1/\IsRange s1.heap r i j 1 t u k/\(-(2 ^ 62)<=i/\i<2 ^ 62/\-(2 ^ 62)<=j/\j<2 ^ 62)/\j-i<=1000/\
  ∀p,H1 p=none->Q (.ref p) (upd H1 p (.lst ((uM i (j-i).toNat).map V.int)))) X.xe s:=by
  apply Call_ (iO I hg2 hm2 boot_range (zO1 (thn (ha pos2 M5 s σ H _ I h) λus s1 ⟨vs,H1,I1,r1,q1⟩=>?_) (by rw[hs,hs2]) (by rw[hs2];rfl)));erw[i,j,e,q1,q2,q]at q1;subst e;cases r1 with
  |cons r rr=>
    cases rr with
    |cons r' rr=>
      cases rr;erw[t,1]at r;erw[t',1]at r';apply call_range_2 %[_,i,j,_,_,_,H1,1,I1.kept λb o e=>zS0 _ e,IsRange.new ..,q1,q2|q]
 apply qK1 (thn step λv s1 hv=>?_);erw[r,i,j,t,u,k,H1,1,I1,hr,%[a1,a2,a3|a4],hle,q]at hv;apply qY1 ?_;let e2:Builtin.Range.rangeSize i j 1=(((j-i).toNat:Nat):Int):=by rw[rangeSize_one];split <;> omega
 apply call_list_range (I1.ok.hd hc) hr (small_one a1 a2 a3 a4) e2 #[0] λh' tk acc' c' hk hS hacc=>?_
 obtain⟨acc,rfl⟩:∃acc:List Value,acc'=acc.toArray:=%[acc'.toList|by simp]
 let rr:=AD hacc;let I2:#[8] (upd H1 ‹s1› (.lst ((uM i (j-i).toNat).map V.int))) { s1 with heap:=h',toks:=tk }:=by
  apply I1.turnedNew (ch:=[]) (λb ob _ eb=>hk b ob eb) (λb hb=>absurd hb #[2]) (zH0 _) %[6,acc,c',rr|hS];rw[zF0,Dj];exact cH #[0]
 erw[.ref ‹s1›,_,I2,1,q _ (I1.hok.fresh (zH0 _))]
instance rSum(K:W.Frag)(xs:List V)(H:Hp)(Q:VK):∀(a:Addr)(ns:List Int),xs=[.ref a]->SqL K H a (ns.map V.int)->(∀n∈ns,0<=n)->ns.sum<2 ^ 63->Q (.int ns.sum) H:=0
def rQ:∀{bs:List Int}{us:List Value}{i:Nat}{v:Value},Vals (bs.map V.int) us->us[i]?=some v->∃b t,bs[i]?=some b/\v=.int b t
 | [],_,_,_,.nil,h=>by simp at h
 |b::_,_,0,_,.cons r _,h=>by
   simp at h
   subst h;erw[t,e]at r;erw[b,t,1,e]
 |_::_,_,i+1,_,.cons _ t,h=>by
   let%[b,t,h1|h2]:=rQ (i:=i) t #[h,0];erw[b,t,by simpa using h1,h2]
def oW{ns:List Int}(h:∀n∈ns,0<=n)(j:Nat):0<=(ns.take j).sum/\(ns.take j).sum<=ns.sum:=by
 induction ns generalizing j with
 |nil=>simp
 |cons a r ih=>
   cases j with
   |zero=>
     have:=ih (λn hn=>h n (qK0 _ hn)) r.length
     rw[zZ0]at this;let a0:=h a zX0;simp only[List.take_zero,List.sum_nil,zP1];omega
   |succ j=>
     have:=ih (λn hn=>h n (qK0 _ hn)) j
     let a0:=h a zX0;simp only[List.take_succ_cons,zP1];omega
def ph(ns:List Int)(j:Nat):preSum (λi=>ns[i]?.getD 0) j=(ns.take j).sum:=by
 induction j with
 |zero=>simp;rfl
 |succ j ih=>
   show preSum (λi=>ns[i]?.getD 0) j+(λi=>ns[i]?.getD 0) j=_;rw[ih,qB0,jQ1];cases e:ns[j]? with
   |none=>simp [e]
   |some x=>simp [e]
def nV(hc:X.calm=true):gR X (.builtin "sum") (rSum X.K):=by
 exists 4,xs,us,Q,I,r,h;erw[a,ns,1,hq,n0,nb,q]at h;let%[u,1|ru]:=kc r;cases ru;let%[its,r',p|hz]:=I.list hq;let hl:=r'.length;rw[zF0]at hl;let Nb:a<‹s›:=by erw[o,n,e,_]at p;exact zQ0 e
 apply call_sum_walk (jI0 p.isList ?_);erw[‹s›,_,_,_,_,_,λi=>ns[i]?.getD 0,1,Walks.list (A:=X.A.in1) (I.ok.hd hc) ‹s› a (qA0 Nb) its.toArray,%[%[_,qE0 _ rfl,1|1]|p.isList.push _],6,6,6,6]
 . intro b hb;let hpz:∀o:Obj,(s.heap.push o).objs.size=‹s›+1:=λo=>by simp [Heap.push]
   show b<(s.heap.push _).objs.size;rw[hpz];rcases Nf hb with e | e
   . rw[e];exact qM1 _
   . rw[Nd e];exact jV1 Nb
 . intro i v hP;let%[b,t,hb|1]:=rQ r' (i:=i) (v:=v) #[hP,0];erw[t,by simp [hb]]
 . intro j hj;let hj':j<ns.length:=by rw[hl];simpa using hj
   let s1:=oW n0 (j+1);rw[ph];erw[6,by unfold InLong;omega];let s2:=oW n0 j;let e:(ns.take (j+1)).sum=(ns.take j).sum+ns[j]:=by rw[qB0,jQ1,zN0 hj'];simp
   let n1:=n0 _ (qP0 hj');show InLong (ns[j]?.getD 0);rw[zN0 hj'];show InLong ns[j];unfold InLong;omega
 . intro h' tk t' hk;rw[ph,zV0,←hl,zZ0];erw[.int _,H,6,%[|0],q];let I1:#[8] H { s with heap:=s.heap.push { cls:=.type "list_iterator",data:=.fields #[.ref a,.int 0 0] } }:=I.kept (t':=s.toks) λb o e=>zS0 _ e
   apply I1.turnedL (t':=tk) (ch:=[‹s›]) (λb o hb e=>hk b o #[hb,0] e) λb hb=>?_
   rw[Nd hb];exact I.fpOk (zH0 _) (I.hok.fresh (zH0 _))
end
def zt:Slot "reversed" "__iter__" "reversed.__iter__":=Slot.of (owner:="reversed") (n:="__iter__") (by rw[wG1,jF0];kernel_rfl) ⋯ ⋯ ⋯ (by first | exact .inl ⋯ | exact .inr ⋯) (by rw[wQ1];kernel_rfl) ⋯
def rv_next:Slot "reversed" "__next__" "reversed.__next__":=Slot.of (owner:="reversed") (n:="__next__") (by rw[wG1,jF0];kernel_rfl) ⋯ ⋯ ⋯ (by first | exact .inl ⋯ | exact .inr ⋯) (by rw[wQ1];kernel_rfl) ⋯
def Cm:typeLookup (.type "tuple") "__reversed__"=pure none:=by rw[wG1,jF0];kernel_rfl
def AA:entryFor table "reversed.__iter__"=some Builtin.«dict_keyiterator.__iter__»:=entryFor_alias (by kernel_rfl) rfl (show _="dict_keyiterator.__iter__" by decide) (by kernel_rfl)
def sX:entryFor table "reversed.__next__"=some Builtin.«reversed.__next__»:=entryFor_of_tree (by kernel_rfl)
def RevT(h:Heap)(it t:Addr)(i:Int):Prop:=h.get? it=some { cls:=.type "reversed",data:=.fields #[.ref t,rawInt i] }
section
variable {prog:Program}{w:World}{A:Around}{E:#[6]}{s:Shared}{R:Result->Shared->Prop}{it t:Addr}
def RevT.typeIs(h:RevT s.heap it t i):s.TypeIs (.ref it) "reversed":=%[_,h|1]
def tG{Q:#[6]}(h:RevT s.heap it t i)(q:Q (.ref it) s):‹w.A› (pyIter (.ref it)) Q E s:=
 wpAny_pyIter_slot h.typeIs zt (qF1 zt h.typeIs AA (zI0 %[0,"reversed",_,h.typeIs,rv_next.lookup|q]) (by rfl))
def rE{i:Nat}{items:Array Value}{x:Value}{Q:Option Value->Shared->Prop}(h:RevT s.heap it t (i:Int))(ht:IsTup s.heap t items)(hx:items[i]?=some x)(hi:(i:Int)<2 ^ 63)
 (q:∀h' tk,RevT h' it t ((i:Int)-1)->Heap.SameBut it s.heap h'->Q (some x) { s with heap:=h',toks:=tk }):‹w.A› (pyNext (.ref it)) Q E s:=by
 let hT:=h.typeIs;let hs:i<items.size:=(Array.getElem?_eq_some_iff.mp hx).1;unfold pyNext;apply zE0 (wV1 (zS1 hT rv_next (qF1 rv_next hT sX ?_ (by rfl))));unfold Builtin.«reversed.__next__»;apply zE0 (jB0 (show slotArgs "__next__" 0 %[[.ref it]|[]]=pure (.ref it,[])from rfl) ?_);apply zE0 (qD1 h rfl rfl ?_);apply zE0 (qD1 h rfl rfl ?_);apply qC1 (λhab=>absurd hab #[0]) (λ_=>?_);apply zE0 (wH0 (show s.TypeIs (.ref t) "tuple" from ht.typeIs) PyProof.Rows.slot_tuple_getitem.lookup ?_);apply qC1 (λhab=>absurd hab #[2]) (λ_=>?_);apply zE0 (wpAny_mkInt ?_);let e1:seqIndex? (i:Int) items.size=some i:=(vp (by unfold ixN;rw[M8 #[0],M8 #[0]];simp)).1;apply zE0 (wV1 (PyProof.Rows.getItem_tuple (items:=items) (x:=x) ht #[0] hi e1 hx ?_));apply zE0 (qD1 h rfl rfl ?_);apply zE0 (wM1 h #[2] λh' e hb=>?_);apply zI0 %[0|zI0 (q h' _ ?_ hb)];exact e
def y0S:0<=sizeLine:=⋯
def y1S:1<=sizeLine:=⋯
def y2S:2<=sizeLine:=⋯
def y3S:3<=sizeLine:=⋯
def y4S:4<=sizeLine:=⋯
def y5S:5<=sizeLine:=⋯
def y6S:6<=sizeLine:=⋯
def y12S:12<=sizeLine:=⋯
def y18S:18<=sizeLine:=⋯
def y24S:24<=sizeLine:=⋯
def sM{Q:Option Value->Shared->Prop}(hh:A.handled=none)(h:RevT s.heap it t (-1))
 (q:∀h' tk,Heap.ExtBut it s.heap h'->Q none { s with heap:=h',toks:=tk }):‹w.A› (pyNext (.ref it)) Q E s:=by
 let hT:=h.typeIs;unfold pyNext;apply zE0 (wV1 (zS1 hT rv_next (qF1 rv_next hT sX ?_ (by rfl))));unfold Builtin.«reversed.__next__»;apply zE0 (jB0 (show slotArgs "__next__" 0 %[[.ref it]|[]]=pure (.ref it,[])from rfl) ?_);apply zE0 (qD1 h rfl rfl ?_);apply zE0 (qD1 h rfl rfl ?_);apply qC1 (λ_=>?_) (λhab=>absurd ⋯ hab);apply zE0 (wpAny_rule ?_);apply zE0 ?_;show wpAny _ _ (setField (.ref it) 1 (rawInt (-1)) >>= λ_=>setField (.ref it) 0 Value.none) _ _ _;apply zE0 (wM1 h #[2] λh1 e1 b1=>?_);apply wM1 e1 #[2] λh2 e2 b2=>?_
 apply zE0 ?_;unfold Builtin.SmallTypes.stopIteration newExc newTuple;apply zE0 (zE0 (zM1 ?_ y0S));apply zE0 (jB0 (show firstArgMember (.type "StopIteration") []=pure .none by rfl') ?_);apply zM1 ?_ (sizeOk_excFields ..);apply wpAny_raiseNew_none hh ?_;apply zE0 (wZ1 (T:="StopIteration") %[_,qE0 _ rfl|1] isSubtype_stop ?_);apply qC1 (λ_=>?_) (λhab=>absurd rfl hab);apply zI0 (q _ _ ?_);exact(b1.extBut.trans b2.extBut).trans λb o hb e=>zS0 _ (zS0 _ e)
def FI:Slot "reversed" "__init__" "object.__init__":=Slot.of (owner:="object") (n:="__init__") (by rw[wG1,jF0];kernel_rfl) ⋯ ⋯ ⋯ (by first | exact .inl ⋯ | exact .inr ⋯) (by rw[wQ1];kernel_rfl) ⋯
def AB:TypeCalled "reversed" "reversed.__new__" "object.__init__":=%[4,F.create_reversed,%[_,_|F.mro_reversed],F.made_reversed,F.plain_reversed_new,F.sub_reversed_self|FI]
def Ag:isSubtype (.type "tuple") (.type "dict")=pure false:=by rw[wQ1];kernel_rfl
def nY{items:Array Value}{Q:#[6]}(ht:IsTup s.heap t items)(hz:items.size<=sizeLine)
 (q:∀tk,Q (.ref ‹s›) { s with heap:=s.heap.push { cls:=.type "reversed",data:=.fields #[.ref t,rawInt ((items.size:Int)-1)] },toks:=tk }):‹w.A› (call (.type "reversed") [.ref t]) Q E s:=by
 let h63:=jL;apply callType_newIn AB ⋯ (F.typeCall_reversed_1 _) (F.newCall_reversed_1 _) (λ_=>by rfl) F.entry_reversed_new
  (S:=λA R s=>wpAny (model prog w) A.in1 (Builtin.«reversed.__new__» %[[.type "reversed",.ref t]|[]]) (λfin s'=>match fin with | .done f=>R (.ok f) s' | .again c'=>c'.quiet=true/\codeAny (model prog w) A c' R s') (λe s'=>R (.error e) s') s) (λA R s h=>h) ?_
 unfold Builtin.«reversed.__new__»;apply zE0 (jB0 (newClass_reversed _) ?_);apply zE0 (jB0 (a:=()) rfl ?_);apply zE0 (jB0 (a:=()) rfl ?_);apply zE0 (wH0 ht.typeIs Cm ?_);apply zE0 ?_;apply zE0 (wZ1 ht.typeIs Ag ?_);apply qC1 (λhab=>absurd hab ⋯) (λ_=>?_);apply zE0 (wH0 ht.typeIs PyProof.Rows.slot_tuple_getitem.lookup ?_);apply qC1 (λ_=>?_) (λhab=>absurd ⋯ hab);apply zI0 ?_;apply qC1 (λhab=>absurd hab ⋯) (λ_=>?_);apply zE0 (len_tuple ht #[0] ?_);apply zE0 (zI0 ?_);apply zE0 (zM1 (data:=.fields #[.ref t,rawInt ((items.size:Int)-1)]) ?_ (by show 2<=sizeLine+2;decide));apply zI0 ?_;erw[%[_,qE0 _ rfl|1],q _]
end
end L2
namespace Mine
open PySem L2
def Tr.wf:Tr->Prop
 |.is x=>zc x | .yes=>True | .no=>True | .not a=>a.wf | .bin w a b=>w∈joinW/\a.wf/\b.wf
def Tr.parts:Tr->List Tr
 |.is _=>[] | .yes=>[] | .no=>[] | .not a=>[a] | .bin _ a b=>[a,b]
def Tr.ok_wf{ns:List Str}(hn:∀x∈ns,zc x):∀t:Tr,t.ok ns->t.wf
 |.is _,h=>hn _ h
 |.yes,_=>trivial
 |.no,_=>trivial
 |.not a,h=>Tr.ok_wf hn a h
 |.bin _ a b,⟨h,h1,h2⟩=>%[h,Tr.ok_wf hn a h1|Tr.ok_wf hn b h2]
def Tr.depth_pos:∀t:Tr,1<=t.depth
 |.is _=>zH0 _ | .yes=>zH0 _ | .no=>zH0 _ | .not a=>jF1 .. | .bin _ a b=>jF1 ..
def iT(ts:List Tr):Nat:=(ts.map Tr.size).sum
def iz(ts:List Tr):List Str:=(ts.map Tr.names).flatten
def Tr.size_parts(t:Tr):t.size=iT t.parts+1:=by
 cases t <;> simp [Tr.size,Tr.parts,iT]
def Tr.names_parts(t:Tr)(h:∀x,t≠.is x):t.names=iz t.parts:=by
 cases t with
 |is x=>exact absurd rfl (h x)
 |_=>simp [Tr.names,Tr.parts,iz]
def Tr.parts_mem{t u:Tr}(h:u∈t.parts)(w:t.wf):u.wf/\u.depth+1<=t.depth/\u.size+1<=t.size:=by
 cases t with
 |is x=>simp [Tr.parts]at h
 |yes=>simp [Tr.parts]at h
 |no=>simp [Tr.parts]at h
 |not a=>
   rw[Nd h];erw[w,zH0 _,zH0 _]
 |bin o a b=>
   erw[_,w1,w2]at w;rcases Nf h with e | e
   . rw [e];erw[w1,6,6]
     . show a.depth+1<=max a.depth b.depth+1;omega
     . show a.size+1<=a.size+b.size+1;omega
   . rw [Nd e];erw[w2,6,6]
     . show b.depth+1<=max a.depth b.depth+1;omega
     . show b.size+1<=a.size+b.size+1;omega
inductive TreesAt(H:Hp):List V->List Tr->Prop
 |nil:TreesAt H [] []
 |cons {v:V} {t:Tr} {vs:List V} {ts:List Tr}:TreeAt H v t->TreesAt H vs ts->TreesAt H (v::vs) (t::ts)
def TreesAt.mono(k:bZ H H')(h:TreesAt H vs ts):TreesAt H' vs ts:=by
 induction h with
 |nil=>exact .nil
 |cons a _ ih=>exact .cons (a.mono k) ih
def TreesAt.append(h:TreesAt H vs ts)(g:TreesAt H us rs):TreesAt H (vs++us) (ts++rs):=by
 induction h with
 |nil=>exact g
 |cons a _ ih=>exact .cons a ih
def TreesAt.length(h:TreesAt H vs ts):vs.length=ts.length:=by
 induction h with
 |nil=>rfl
 |cons _ _ ih=>rw[zR0,zR0,ih]
def TreesAt.get(h:TreesAt H vs ts):∀{i:Nat}{v:V},vs[i]?=some v->∃t,ts[i]?=some t/\TreeAt H v t:=by
 induction h with
 |nil=>intro i v e;simp at e
 |cons a _ ih=>
   intro i v e;cases i with
   |zero=>cases(zO0 e);erw[0,a]
   |succ i=>exact ih (i:=i) #[e,0]
def yH{w:Str}(h:w∈joinW):w≠"is":=(by decide:∀w∈joinW,w≠("is":Str)) w h
def TreeAt.view(h:TreeAt H v t)(w:t.wf):(∃(a:Addr) (x:Str),v=.ref a/\t=.is x/\zc x/\H a=some (.tup [.str "is",.str x]))∨
 ∃(a:Addr) (o:Str) (xs:List V),v=.ref a/\o≠"is"/\xs.length<=2/\H a=some (.tup (.str o::xs))/\TreesAt H xs t.parts/\(∀x,t≠.is x):=by
 cases h with
 |is e=>exact .inl %[2,w|e]
 |yes e=>exact .inr %[_,_,[],1,4,by simp,e,.nil|λx z=>by cases z]
 |no e=>exact .inr %[_,_,[],1,4,by simp,e,.nil|λx z=>by cases z]
 |not e g=>exact .inr %[_,_,[_],1,4,by simp,e,.cons g .nil|λx z=>by cases z]
 |bin e g g2=>exact .inr %[_,_,[_,_],1,yH w.1,by simp,e,.cons g (.cons g2 .nil)|λx z=>by cases z]
def cut1(o:V):∀xs:List V,xs.length<=2->jf (o::xs) (some 1) none=xs/\¬ (HT.sIx (o::xs).length 0 (some 1)=0/\HT.sIx (o::xs).length (o::xs).length none=(o::xs).length)
 | [],_=>%[1|λh=>absurd h.1 (show ¬ HT.sIx 1 0 (some 1)=0 by decide)]
 | [_],_=>%[1|λh=>absurd h.1 (show ¬ HT.sIx 2 0 (some 1)=0 by decide)]
 | [_,_],_=>%[1|λh=>absurd h.1 (show ¬ HT.sIx 3 0 (some 1)=0 by decide)]
 |_::_::_::_,h=>absurd h #[2]
def Tr.names_len:∀t:Tr,t.names.length<=t.size
 |.is _=>zH0 _
 |.yes=>zP0 _
 |.no=>zP0 _
 |.not a=>Nat.le_succ_of_le (Tr.names_len a)
 |.bin _ a b=>by
   have:=Tr.names_len a
   have:=Tr.names_len b
   show(a.names++b.names).length<=a.size+b.size+1;rw[zL0];omega
end Mine
namespace L2
open PySem PySem.Spec PyProof.Rows
section
variable {prog:Program}{w:World}{A:Around}{E:#[6]}{s:Shared}
def IH(xs:Array Value)(x:Value):Nat->Option PySem.Fin×Unit->Sem (ForInStep (Option PySem.Fin×Unit)):=λi _=>match xs[i]? with
 |some y=>do
   let b ←eqBool y x
   if b=true then do
    let r ←retInt (i:Int)
    pure (ForInStep.done (some r,()))
    else pure (ForInStep.yield (none,()))
 |_=>pure (ForInStep.yield (none,()))
def wM{xs:Array Value}{x:Value}{e:Value->Bool}(he:∀y∈xs,SeqAt.EqAt A s y x (e y)){j:Nat}(hj:j<xs.size)(ej:e xs[j]=true)(bf:∀(m:Nat) (hm:m<xs.size),m<j->e xs[m]=false){Q:Option PySem.Fin×Unit->Shared->Prop}
 (q:Q (some (.done (.ret (.int (j:Int) s.toks))),()) { s with toks:=s.toks+1 }):∀(n k:Nat),k<=j->j<k+n->k+n<=xs.size->‹w.A› (forIn (List.range' k n 1) ((none:Option PySem.Fin),()) (IH xs x)) Q E s
 |0,k,h1,h2,_=>absurd h2 #[0]
 |n+1,k,h1,h2,h3=>by
   let hk:k<xs.size:=#[0]
   rw [List.range'_succ,List.forIn_cons];apply zE0 ?_;let e1:IH xs x k ((none:Option PySem.Fin),())=(do
    let b ←eqBool xs[k] x
    if b=true then do
     let r ←retInt (k:Int)
     pure (ForInStep.done (some r,()))
     else pure (ForInStep.yield (none,()))):=by
    unfold IH;rw[Array.getElem?_eq_getElem hk]
   rw[e1];apply zE0 (he _ (Array.getElem_mem hk) prog w _ _ ?_)
   by_cases c:k=j
   . subst c;rw[ej];apply qC1 (λ_=>?_) (λhab=>absurd rfl hab);apply zE0 ?_;apply zE0 (wpAny_mkInt ?_);apply zI0 ?_;apply zI0 ?_;exact zI0 q
   . rw[bf k hk #[0]];apply qC1 (λhab=>absurd hab ⋯) (λ_=>?_);apply zI0 ?_;exact wM he hj ej bf q n (k+1) #[0] #[0] #[0]
def rK(l:Addr)(items:Array Value)(n:Nat)(dd:Option Addr)(sl:Array (Option Value))(x:Value)(e:Value->Bool)(j:Nat)(hj:j<items.size)(ej:e items[j]=true)(bf:∀(m:Nat) (hm:m<items.size),m<j->e items[m]=false):
 Meets (Builtin.«tuple.index» { pos:=[.ref l,x] }) λA R s=>s.heap.get? l=some { cls:=.type "tuple",dict:=dd,data:=.seq items n,slots:=sl }/\(∀y∈items,SeqAt.EqAt A.in1 s y x (e y))/\R (.ok (.ret (.int (j:Int) s.toks))) { s with toks:=s.toks+1 }:=by
 intro prog w A R s ⟨hl,he,q⟩;unfold Builtin.«tuple.index»;apply zE0 (jB0 (a:=(Value.ref l,[x])) rfl ?_);apply zE0 (wpAny_tupleItemsOf hl rfl ?_);apply zE0 (zI0 ?_);apply zE0 (zI0 ?_);apply zE0 ?_;rw[Std.Legacy.Range.forIn_eq_forIn_range'];let e1:Std.Legacy.Range.size [0:min items.size items.size]=items.size:=by simp [Std.Legacy.Range.size]
 rw[e1];apply wM he hj ej bf ?_ items.size 0 (zP0 _) #[0] #[0];exact zI0 q
end
section
variable {X:Cx}
def eT(z:Str):List Str->Option Nat
 | []=>none
 |a::r=>if a=z then some 0 else(eT z r).map (·+1)
def qW:∀{ns:List Str}{j:Nat},eT z ns=some j->ns[j]?=some z/\∀m,m<j->∀y,ns[m]?=some y->y≠z
 | [],_,h=>by simp [eT]at h
 |a::r,j,h=>by
   unfold eT at h
   by_cases c:a=z
   . rw[M8 c]at h;cases h;erw[by simp [c],λm hm=>absurd hm #[0]]
   . rw [M6 c]at h;let%[i,hi|1]:=qQ0 h;let%[h1|h2]:=qW hi;erw[by simpa using h1,λm hm y hy=>?_];cases m with
     |zero=>cases(zO0 hy);exact c
     |succ m=>exact h2 m #[0] y #[hy,0]
def ql:∀{bs:List Str}{us:List Value}{i:Nat}{v:Value},Vals (bs.map V.str) us->us[i]?=some v->∃b t,bs[i]?=some b/\v=.str b t
 | [],_,_,_,.nil,h=>by simp at h
 |b::_,_,0,_,.cons r _,h=>by
   simp at h
   subst h;erw[t,e]at r;erw[b,t,1,e]
 |_::_,_,i+1,_,.cons _ t,h=>by
   let%[b,t,h1|h2]:=ql (i:=i) t #[h,0];erw[b,t,by simpa using h1,h2]
def gB(ns:List Str):(ns.map V.str).all jV=true:=by
 induction ns with
 |nil=>rfl
 |cons a r ih=>rw[qC0,wC1,ih];rfl
def pC{ns:List Str}{j:Nat}(r:Vals (ns.map V.str) its)(h:eT z ns=some j):
 ∃hj:j<its.toArray.size,eqU (.str z) its.toArray[j]=true/\∀(m:Nat)(hm:m<its.toArray.size),m<j->eqU (.str z) its.toArray[m]=false:=by
 let%[h1|h2]:=qW h;let hl:=r.length;rw[zF0]at hl;let jl:j<ns.length:=(zY0 h1).1;let hj:j<its.toArray.size:=by rw[zV0,←hl];exact jl
 erw[hj,6,λm hm mj=>?_]
 . let%[b,t,e1|e2]:=ql r (i:=j) (v:=its.toArray[j]) #[2];rw[e2];rw[h1]at e1;cases e1;show(z==z)=true
   simp
 . let%[b,t,e1|e2]:=ql r (i:=m) (v:=its.toArray[m]) #[2];rw[e2];show(b==z)=false
   have:=h2 m mj b e1
   simpa using this
instance rIndexT(K:W.Frag)(x:V)(vs:List V)(H:Hp)(Q:VK):∀(a:Addr)(ns:List Str)(z:Str)(j:Nat),x=.ref a->vs=[.str z]->SqT K H a (ns.map V.str)->eT z ns=some j->Q (.int (j:Int)) H:=0
def Bg:MtR X "tuple.index" (rIndexT X.K):=by
 exists 4,x,vs,v,us,Q,I,rx,rv,h;erw[a,ns,z,j,1,1,hq,hp,q]at h;cases rx;erw[u,1,ru]at rv.one;let%[its,r,%[%[cls,dd,data|sl],ho,hc,n|hd]|hz]:=I.tuple hq;simp only at hc hd;subst hc hd;let%[hj,e1|e2]:=pC r hp;apply jI1 F.slot_tuple_index %[_,ho|1] F.entry_tuple_index (F.args_tuple_index_2 _ _) (rK a its.toArray n dd sl u (eqU (.str z)) j hj e1 e2) ⟨ho,λy hy=>?_,?_⟩
 . exact gQ ru rfl r (gB ns) y #[hy,0]
 . erw[.int (j:Int),H,I.tok _,%[|0],q]
instance rIndexL(K:W.Frag)(x:V)(vs:List V)(H:Hp)(Q:VK):∀(a:Addr)(ns:List Str)(z:Str)(j:Nat),x=.ref a->vs=[.str z]->SqL K H a (ns.map V.str)->eT z ns=some j->Q (.int (j:Int)) H:=0
def Bh:MtR X "list.index" (rIndexL X.K):=by
 exists 4,x,vs,v,us,Q,I,rx,rv,h;erw[a,ns,z,j,1,1,hq,hp,q]at h;cases rx;erw[u,1,ru]at rv.one;let%[its,r,%[%[cls,dd,data|sl],n,ho,hc,hdd|hd]|hz]:=I.list hq;simp only at hc hd;subst hc hd;let%[hj,e1|e2]:=pC r hp;let h63:=jL;let hl:=r.length;apply jI1 F.slot_list_index %[_,ho|1] F.entry_list_index (F.args_list_index_2 _ _) (SeqAt.list_indexAt a its.toArray n dd sl u (eqU (.str z)) j hj (by rw[zV0]at hj;omega) e1 e2) ⟨ho,λy hy=>?_,?_⟩
 . exact gQ ru rfl r (gB ns) y #[hy,0]
 . erw[.int (j:Int),H,I.tok _,%[|0],q]
end
section
variable {κ:Type}[DecidableEq κ]
def gX(M7:List (κ×V))(k:κ):Option V:=(M7.find? λkv=>decide (kv.1=k)).map (·.2)
def jF(M7:List (κ×V))(k:κ)(v:V):List (κ×V):=
 if(M7.any λkv=>decide (kv.1=k))=true then M7.map (λkv=>if kv.1=k then(kv.1,v)else kv)else M7++[(k,v)]
def dX{p:κ×V}{r:List (κ×V)}{k:κ}(e:p.1=k):gX (p::r) k=some p.2:=by simp [gX,jG0,e]
def dY{p:κ×V}{r:List (κ×V)}{k:κ}(e:¬ p.1=k):gX (p::r) k=gX r k:=by simp [gX,jG0,e]
def mv(k:κ):∀M7:List (κ×V),(M7.any λkv=>decide (kv.1=k))=(gX M7 k).isSome
 | []=>rfl
 |p::r=>by
   rw[jQ0]
   by_cases e:p.1=k
   . simp only[dX e,zC1 e,Bool.true_or,Option.isSome_some]
   . rw[dY e,zD1 e,Bool.false_or];exact mv k r
def vG(k j:κ)(y:V):∀M7:List (κ×V),gX (M7.map λkv=>if kv.1=k then(kv.1,y)else kv) j=(gX M7 j).map λx=>if j=k then y else x
 | []=>rfl
 |p::r=>by
   let ih:=vG k j y r;rw[qC0]
   by_cases h:p.1=k
   . rw [M8 h]
     by_cases e:p.1=j
     . rw[dX (p:=(p.1,y)) e,dX e,wH1,M8 (e.symm.trans h)]
     . rw[dY (p:=(p.1,y)) e,dY e,ih]
   . rw [M6 h]
     by_cases e:p.1=j
     . rw[dX (p:=p) e,dX e,wH1,M6 (λz=>h (e.trans z))]
     . rw[dY (p:=p) e,dY e,ih]
def sR(k j:κ)(y:V):∀M7:List (κ×V),gX M7 k=none->gX (M7++[(k,y)]) j=if j=k then some y else gX M7 j
 | [],_=>by
   by_cases e:k=j
   . rw[M8 e.symm];exact dX (p:=(k,y)) e
   . rw[M6 (λz=>e z.symm)];exact dY (p:=(k,y)) e
 |p::r,hn=>by
   rw[List.cons_append];let hk:¬ p.1=k:=λz=>by rw[dX z]at hn;cases hn
   rw[dY hk]at hn;let ih:=sR k j y r hn
   by_cases e:p.1=j
   . rw[dX e,dX e,M6 (λz=>hk (e.trans z))]
   . rw[dY e,dY e,ih]
def Ce(M7:List (κ×V))(k j:κ)(y:V):gX (jF M7 k y) j=if j=k then some y else gX M7 j:=by
 unfold jF
 by_cases a:(M7.any λkv=>decide (kv.1=k))=true
 . rw [M8 a,vG];rw[mv]at a
   by_cases e:j=k
   . let%[x|hx]:=Option.isSome_iff_exists.mp a;rw[M8 e,e,hx,wH1,M8 rfl]
   . rw [M6 e];cases gX M7 j with
     |none=>rfl
     |some x=>rw[wH1,M6 e]
 . rw [M6 a];apply sR k j y M7 ?_;rw[mv]at a;cases q:gX M7 k with
   |none=>rfl
   |some x=>rw[q]at a;exact(a rfl).elim
def iH(M7:List (κ×V))(k:κ)(v:V):(jF M7 k v).length<=M7.length+1:=by
 unfold jF
 split
 . rw[zF0];omega
 . rw[zL0,zR0,zJ1];omega
def RelO.isSome_eq(r:RelO o u):o.isSome=u.isSome:=by
 cases o with
 | none=>cases u with
   |none=>rfl
   |some _=>exact(show False from r).elim
 | some _=>cases u with
   |none=>exact(show False from r).elim
   |some _=>rfl
def RelO.getD(r:RelO o u)(rd:RelV d d'):RelV (o.getD d) (u.getD d'):=by
 cases o with
 | none=>cases u with
   |none=>exact rd
   |some _=>exact(show False from r).elim
 | some _=>cases u with
   |none=>exact(show False from r).elim
   |some _=>exact r
def KV.val{M7:List (κ×V)}{vs:List (κ×Value)}(r:KV M7 vs)(k:κ):RelO (gX M7 k) (valueAt vs k):=by
 unfold KV at r
 induction r with
 |nil=>exact True.intro
 | @cons p q ps qs h t ih=>
   erw[h1,h2]at h
   by_cases e:p.1=k
   . let e':q.1=k:=h1.symm.trans e;let b:valueAt (q::qs) k=some q.2:=by simp [valueAt,jG0,e']
     rw[dX e,b];exact h2
   . let e':¬ q.1=k:=λz=>e (h1.trans z)
     let b:valueAt (q::qs) k=valueAt qs k:=by simp [valueAt,jG0,e']
     rw[dY e,b];exact ih
def KV.any{M7:List (κ×V)}{vs:List (κ×Value)}(r:KV M7 vs)(k:κ):(M7.any λkv=>decide (kv.1=k))=vs.any λkv=>decide (kv.1=k):=by
 unfold KV at r
 induction r with
 |nil=>rfl
 |cons h t ih=>rw[jQ0,jQ0,ih,h.1]
def KV.repl{M7:List (κ×V)}{vs:List (κ×Value)}(r:KV M7 vs)(k:κ)(ry:RelV y u):
 KV (M7.map λkv=>if kv.1=k then(kv.1,y)else kv) (vs.map λkv=>if kv.1=k then(kv.1,u)else kv):=by
 unfold KV at r ⊢
 induction r with
 |nil=>exact .nil
 | @cons p q ps qs h t ih=>
   rw[qC0,qC0];refine .cons ?_ ih;erw[h1,h2]at h
   by_cases e:p.1=k
   . rw[M8 e,M8 (h1.symm.trans e)];erw[h1,ry]
   . rw[M6 e,M6 (λz=>e (h1.trans z))];erw[h1,h2]
def KV.put{M7:List (κ×V)}{vs:List (κ×Value)}(r:KV M7 vs)(k:κ)(ry:RelV y u):KV (jF M7 k y) (stored vs k u):=by
 unfold jF stored;rw[r.any k]
 by_cases e:(vs.any λkv=>decide (kv.1=k))=true
 . rw[M8 e,M8 e];exact r.repl k ry
 . rw[M6 e,M6 e];exact Paired.snoc r %[1|ry]
def KV.length{M7:List (κ×V)}{vs:List (κ×Value)}(r:KV M7 vs):M7.length=vs.length:=Paired.length r
end
def wK(r:RelV (kV k) u):(db P w).is k u=true:=by
 cases k with
 |inl i=>let%[t|e]:=(show ∃t,u=Value.int i t from r);subst e;exact wE P w i t
 |inr x=>let%[t|e]:=(show ∃t,u=Value.str x t from r);subst e;exact wD P w x t
def tH:∀{ks:List Key}{us:List Value},Vals (ks.map kV) us->ItemsAre (db P w) ks us
 | [],_,r=>by rw[wM0]at r;cases r;exact .nil
 |k::ks,_,r=>by
   rw[qC0]at r;cases r with
   |cons h t=>exact .cons (wK h) (tH t)
abbrev KT(H:Hp):List (List Key×V)->List (List Key×Addr×Value)->Prop:=Paired λp q=>p.1=q.1/\H q.2.1=some (.tup (p.1.map kV))/\RelV p.2 q.2.2
def KT.val{M7:List (List Key×V)}{xs:List (List Key×Addr×Value)}(r:KT H M7 xs)(k:List Key):RelO (gX M7 k) ((atKey xs k).map (·.2)):=by
 induction r with
 |nil=>exact True.intro
 | @cons p q ps qs h t ih=>
   erw[h1,_,h2]at h
   by_cases e:p.1=k
   . let e':q.1=k:=h1.symm.trans e;let b:atKey (q::qs) k=some q.2:=by simp [atKey,jG0,e']
     rw[dX e,b];exact h2
   . let e':¬ q.1=k:=λz=>e (h1.trans z)
     let b:atKey (q::qs) k=atKey qs k:=by simp [atKey,jG0,e']
     rw[dY e,b];exact ih
def KT.repl{M7:List (List Key×V)}{xs:List (List Key×Addr×Value)}(r:KT H M7 xs)(k:List Key)(ry:RelV y u):
 KT H (M7.map λkv=>if kv.1=k then(kv.1,y)else kv) (xs.map (putAt k u)):=by
 induction r with
 |nil=>exact .nil
 | @cons p q ps qs h t ih=>
   rw[qC0,qC0];refine .cons ?_ ih;erw[h1,h2,h3]at h;unfold putAt
   by_cases e:p.1=k
   . rw[M8 e,M8 (h1.symm.trans e)];erw[h1,h2,ry]
   . rw[M6 e,M6 (λz=>e (h1.trans z))];erw[h1,h2,h3]
def KT.put{M7:List (List Key×V)}{xs:List (List Key×Addr×Value)}(r:KT H M7 xs)(k:List Key){b:Addr}(hb:H b=some (.tup (k.map kV)))(ry:RelV y u):
 KT H (jF M7 k y) (storedH xs k b u):=by
 let e:(M7.any λkv=>decide (kv.1=k))=(atKey xs k).isSome:=by
  rw[mv,(r.val k).isSome_eq,Option.isSome_map]
 unfold jF storedH;rw[e]
 by_cases q:(atKey xs k).isSome=true
 . rw[M8 q,M8 q];exact r.repl k ry
 . rw[M6 q,M6 q];exact Paired.snoc r %[1,hb|ry]
def KT.keeps{H':Hp}{M7:List (List Key×V)}{xs:List (List Key×Addr×Value)}(r:KT H M7 xs)(ht:∀b ys,H b=some (.tup ys)->H' b=some (.tup ys)):KT H' M7 xs:=
 Paired.mapP r λ_ _ z=>%[z.1,ht _ _ z.2.1|z.2.2]
section
variable {P:Program}{w:World}{H:Hp}{h:Heap}{a:Addr}
def Hi(ok:HOk P w H h)(e:Rd H a u):ObjOk P w H h a u:=e.ok ok
def wW{M7:List (Key×V)}(ok:HOk P w H h)(e:Rd H a (.dK M7)):M7.length<=sizeLine/\(a==sysModules)=false/\∃vs,KV M7 vs/\h.DictOf (db P w) a vs:=
 show ObjOk P w H h a (.dK M7)from Hi ok e
def Hq{M7:List (Key×V)}(ok:HOk P w H h)(e:H a=some (.dK M7)):M7.length<=sizeLine/\(a==sysModules)=false/\∃vs,KV M7 vs/\h.DictOf (db P w) a vs:=wW ok (.inl e)
def vn{ks:List Key}(ok:HOk P w H h)(e:H a=some (.tup (ks.map kV))):(tupleKind (db P w)).is h ks a:=by
 let%[_,its,r,%[o,h1,h2,n|h3]|_]:=(show ObjOk P w H h a (.tup (ks.map kV))from ok a _ e)
 erw[o,its.toArray,n,h1,h2,h3,by simpa using tH r]
def wU{M7:List (List Key×V)}(ok:HOk P w H h)(e:Rd H a (.dT M7)):M7.length<=sizeLine/\(a==sysModules)=false/\
 ∃xs,KT H M7 xs/\h.DictOfH (tupleKind (db P w)) a xs:=by
 let%[z,y,xs,r,o,es,ep,h1,h2,h3,h4|h5]:=(show ObjOk P w H h a (.dT M7)from Hi ok e)
 erw[z,y,xs,r,o,es,ep,h1,h2,h3,h4,λx hx=>?_,h5];let all:∀{l:List (List Key×V)}{m:List (List Key×Addr×Value)},KT H l m->∀x∈m,(tupleKind (db P w)).is h x.1 x.2.1:=by
  intro l m q
  induction q with
  |nil=>intro x hx;exact nomatch hx
  | @cons p q ps qs hq t ih=>
    intro x hx;rcases Nf hx with e | hx
    . subst e;exact vn ok (by rw[←hq.1];exact hq.2.1)
    . exact ih x hx
 exact all r x hx
def dt_of{M7:List (List Key×V)}(ok:HOk P w H h)(e:H a=some (.dT M7)):M7.length<=sizeLine/\(a==sysModules)=false/\
 ∃xs,KT H M7 xs/\h.DictOfH (tupleKind (db P w)) a xs:=wU ok (.inl e)
end
def DGet(H:Hp)(a:Addr)(y:V)(r:Option V):Prop:=
 (∃M7 k,Rd H a (.dK M7)/\y=kV k/\r=gX M7 k)∨∃M7 k b,Rd H a (.dT M7)/\y=.ref b/\H b=some (.tup (k.map kV))/\r=gX M7 k
def DPut(H:Hp)(a:Addr)(y v:V)(H':Hp):Prop:=
 (∃M7 k,H a=some (.dK M7)/\y=kV k/\M7.length<sizeLine/\H'=upd H a (.dK (jF M7 k v)))∨
 ∃M7 k b,H a=some (.dT M7)/\y=.ref b/\H b=some (.tup (k.map kV))/\M7.length<sizeLine/\H'=upd H a (.dT (jF M7 k v))
def DGet.k{H:Hp}{a:Addr}{M7:List (Key×V)}{k:Key}(e:H a=some (.dK M7)):DGet H a (kV k) (gX M7 k):=.inl %[M7,k,.inl e,1|1]
def DPut.k{H:Hp}{a:Addr}{M7:List (Key×V)}{k:Key}(e:H a=some (.dK M7))(hl:M7.length<sizeLine):DPut H a (kV k) v (upd H a (.dK (jF M7 k v))):=.inl %[M7,k,e,1,hl|1]
section
variable {X:Cx}{M5:#[7]}{σ:St}{H:Hp}{s:Shared}{a:Addr}{y v:V}{u r:Value}{o:Option V}{A:Around}{E:#[6]}
def Inv.big(I:#[8] H s):sysModules<‹s›:=by
 let h:mainGlobals<‹s›:=(I.mod.glob.keeps I.bk).lt;exact Nat.lt_trans ⋯ h
def BO{Q:#[6]}(hu:A.units+1<cLine)(I:#[8] H s)(g:DGet H a y (some v))(ry:RelV y u)(h:∀w' s',#[8] H s'->RelV v w'->Q w' s'):
 wpAny (model X.prog X.w) A (getItem (.ref a) u) Q E s:=by
 rcases g with⟨M7,k,e,ey,l⟩ | ⟨M7,k,b,e,ey,eb,l⟩
 . subst ey;let%[z,hd,vs,rel|dd]:=wW I.hok e;let%[w',hw|rw']:=RelO.some_of (v:=v) (o:=valueAt vs k) (by rw[l];exact rel.val k);exact wpAny_getItem_of (wK ry) dd.mapOf hw (h w' _ (I.tok _) rw')
 . subst ey;cases(show u=Value.ref b from ry);let%[z,hd,xs,rel|dd]:=wU I.hok e;let%[w',hw|rw']:=RelO.some_of (v:=v) (o:=(atKey xs k).map (·.2)) (by rw[l];exact rel.val k);let%[p,hp|hp2]:=qQ0 hw;apply wpAny_getItem_heap (wN0 hu) (vn I.hok eb) dd hp ?_;rw[hp2];exact h w' _ (I.tok _) rw'
def vx{h':Heap}{t':Nat}(I:#[8] H s)(mu:Mut (H a))(hs:Heap.SameBut a s.heap h')(he:∃q,h'.get? a=some q)(new:ObjOk X.prog X.w (upd H a ob) h' a ob):
 #[8] (upd H a ob) { s with heap:=h',toks:=t' }:=
 I.write (x:=a) (e:=a) mu (.inl rfl) (λb q hb z=>(hs.2 b hb).trans z) he new
def EM{H':Hp}{h':Heap}{M7:List (Key×V)}{vs:List (Key×Value)}(z:M7.length<=sizeLine)(hd:(a==sysModules)=false)(rel:KV M7 vs)(dd:h'.DictOf (db P w) a vs):
 ObjOk P w H' h' a (.dK M7):=%[z,hd,vs,rel|dd]
def BN{Q:Unit->Shared->Prop}(hu:A.units+1<cLine)(I:#[8] H s)(g:DPut H a y v H')(ry:RelV y u)(rv:RelV v r)(h:∀s',#[8] H' s'->Q () s'):
 wpAny (model X.prog X.w) A (setItem (.ref a) u r) Q E s:=by
 rcases g with⟨M7,k,e,ey,l,eH⟩ | ⟨M7,k,b,e,ey,eb,l,eH⟩
 . subst ey eH;let%[z,hd,vs,rel|dd]:=Hq I.hok e;let hz:vs.length<=sizeLine:=by rw[←rel.length];exact z
   let hl:(jF M7 k v).length<=sizeLine:=by have:=iH M7 k v;omega
   apply wpAny_setItem_pairs (hsz:=hz) (wK ry) dd λh' dd' hs=>h _ ?_
   let he:∃q,h'.get? a=some q:=let⟨q,_,_,hq,_⟩:=dd';%[q|hq]
   exact vx I (by rw[e];exact True.intro) hs he (EM hl hd (rel.put k rv) dd')
 . subst ey eH;cases(show u=Value.ref b from ry);let%[z,hd,xs,rel|dd]:=dt_of I.hok e;let hz:xs.length<=sizeLine:=by rw[←Paired.length rel];exact z
   let hl:(jF M7 k v).length<=sizeLine:=by have:=iH M7 k v;omega
   apply wpAny_setItem_heap (hsz:=hz) (wN0 hu) (vn I.hok eb) dd λh' dd' hs=>h _ ?_
   erw[q,es,ep,hq,h2,h3,h4,_,h5]at dd';apply vx I (by rw[e];exact True.intro) hs ⟨q,hq⟩ ⟨hl,hd,_,(rel.put k eb rv).keeps λc ys ec=>?_,q,es,ep,hq,h2,h3,h4,h5⟩;rw[aE (bz ec e (λz=>nomatch z))];exact ec
end
def NoSl(i:Expr):Prop:=∀ov iv,subscripted i false ov iv=operate [ov,iv] (getItem ov iv)
def Fq{prog:Program}{w:World}{A:Around}{E:#[6]}{s:Shared}{env:Env}{value:Expr}{pos:Pos}{T id:String}{Q:#[6]}
 (hl:typeLookup (.type T) "__getitem__"=pure (some (.builtin id)))(hs:NoSl slice)
 (h:‹w.A› (eval value env) (λo s₁=>‹w.A› (eval slice env) (λi s₂=>s₂.TypeIs o T/\‹w.A› (getItem o i) Q E s₂) E s₁) E s):
 ‹w.A› (eval (.Subscript value slice pos) env) Q E s:=by
 apply Subscript_ (qQ1 h (λo s₁ h₁=>qQ1 h₁ (λi s₂ h₂=>?_) λ_ _ x=>x) λ_ _ x=>x);erw[hT,h₂]at h₂;unfold subscriptTail;apply zE0 ?_;rw[getitemInPython_of_ne hT.not_modules];apply zE0 (wH0 hT hl ?_);let fin:‹w.A› (subscripted slice false o i) (λr s₃=>‹w.A› (letTemporaryGo value o r >>= λ_=>pure r) Q E s₃) E s₂:=by
  rw[hs o i];exact wpAny_operating (qQ1 h₂ (λr s₃ h₃=>zE0 (wpAny_letTemporaryGo (zI0 h₃))) λ_ _ x=>x)
 first
  |exact zI0 (zE0 fin)
  |exact zE0 (zI0 (zE0 fin))
  |exact zE0 fin
def wY{σ:St}(I:#[8] H s)(g:DGet H a y o):s.TypeIs (.ref a) "dict":=by
 rcases g with⟨M7,k,e,_,_⟩ | ⟨M7,k,b,e,_,_,_⟩
 . let%[_,_,vs,_|dd]:=wW I.hok e;exact dd.typeIs
 . let%[_,_,xs,_|dd]:=wU I.hok e;exact dd.typeIs
instance ZtDGet(Q:VK)(x:V)(y:V)(H2:Hp):∀a v,x=.ref a->DGet H2 a y (some v)->Q v H2:=0
def tDGet(td ty:TE):TE:=λσ H Q=>td σ H λx H1=>ty σ H1 λy H2=>ZtDGet Q x y H2
instance ZsDPut(D:Ends)(σ:St)(v:V)(x:V)(y:V)(H3:Hp):∀a H4,x=.ref a->DPut H3 a y v H4->D.nx σ H4:=0
def sDPut(td ty tv:TE):TS:=λD σ H=>tv σ H λv H1=>td σ H1 λx H2=>ty σ H2 λy H3=>ZsDPut D σ v x y H3
section
variable {X:Cx}{o i e value:Expr}{pos pos' tpos:Pos}{td ty tv:TE}
def zA(hu:X.A.units+1<cLine)(ho:PE X o td)(hi:PE X i ty)(hs:NoSl i):PE X (.Subscript o i pos) (tDGet td ty):=by
 exists 4,Q,I,h;apply Fq PySem.F.slot_dict_getitem.lookup hs (thn (ho M5 s σ H _ I h) λu s1 ⟨x,H1,I1,rx,q1⟩=>thn (hi M5 s1 σ H1 _ I1 q1) λiv s2 ⟨y,H2,I2,ry,a,v,ex,g,q2⟩=>?_);subst ex;obtain rfl:u=Value.ref a:=rx;erw[wY I2 g,BO hu I2 g ry λw' s3 I3 rw'=>%[v,H2,I3,rw'|q2]]
def zw(hu:X.A.units+1<cLine)(ho:PE X o td)(hi:PE X i ty)(hv:PE X value tv)(hs:swapsWith value (some (.Subscript o i pos')) pos.line X.env=pure false):
 PS X (.Assign [.Subscript o i pos'] value pos) (sDPut td ty tv):=by
 exists 4,D,I,h;apply wpAny_Assign_Subscript (thn (hv M5 s σ H _ I h) λr s1 ⟨v,H1,I1,rv,q1⟩=>thn (ho M5 s1 σ H1 _ I1 q1) λu s2 ⟨x,H2,I2,rx,q2⟩=>thn (hi M5 s2 σ H2 _ I2 q2) λiv s3 ⟨y,H3,I3,ry,a,H4,ex,g,q3⟩=>?_) hs;subst ex;obtain rfl:u=Value.ref a:=rx;exact BN hu I3 g ry rv λs4 I4=>%[σ,H4,I4|q3]
end
def wX{P:Program}{w:World}{H:Hp}(h:Heap)(hb:sysModules<h.objs.size):ObjOk P w H (h.push { cls:=.type "dict",data:=.dict #[] }) h.objs.size (.dK []):=
 %[zP0 _,beq_eq_false_iff_ne.mpr (Ne.symm (qA0 hb)),[],.nil|Heap.DictOf.new h]
def HG:TE:=λ_ H Q=>∀p,H p=none->Q (.ref p) (upd H p (.dK []))
section
variable {X:Cx}{pos:Pos}
def Dx:PE X (.Dict [] [] pos) HG:=λM5 s σ H Q I h=>
 wpAny_Dict_empty %[.ref ‹s›,_,I.laid (a:=‹s›) (o:=.dK []) (t':=s.toks) (λ_ _ q=>zS0 _ q) (zH0 _) (wX s.heap I.big),1|h _ (I.hok.fresh (zH0 _))]
end
def xG:List (TE×TE)->St->Hp->(List (V×V)->Hp->Prop)->Prop
 | [],_,H,Q=>Q [] H
 | (tk,tv)::r,σ,H,Q=>tk σ H λx H1=>tv σ H1 λy H2=>xG r σ H2 λps H3=>Q ((x,y)::ps) H3
abbrev VV:List (V×V)->List (Value×Value)->Prop:=Paired λp q=>RelV p.1 q.1/\RelV p.2 q.2
def PPs(X:Cx)(pos:Pos)(keys:List (Option Expr))(values:List Expr)(trs:List (TE×TE)):Prop:=
 ∀(M5:#[7])(s:Shared)(σ:St)(H:Hp)(Q:List (V×V)->Hp->Prop),#[8] H s->xG trs σ H Q ->
  ‹X.w› (evalPairs (pairTrees keys values X.env pos)) (λvs s'=>∃ps H',#[8] H' s'/\VV ps vs/\Q ps H') X.xe s
def FN:PPs X pos [] [] []:=λM5 s σ H Q I h=>pairTrees_nil_walk %[[],H,I,.nil|h]
def qV(hk:PE X k tk)(hv:PE X v tv)(hr:PPs X pos ks vs trs):
 PPs X pos (some k::ks) (v::vs) ((tk,tv)::trs):=λM5 s σ H Q I h=>
 pairTrees_cons_walk (thn (hk M5 s σ H _ I h) λu s1 ⟨x,H1,I1,rx,q1⟩=>thn (hv M5 s1 σ H1 _ I1 q1) λw2 s2 ⟨y,H2,I2,ry,q2⟩=>
  thn (hr M5 s2 σ H2 _ I2 q2) λws s3 ⟨ps,H3,I3,rel,q3⟩=>%[(x,y)::ps,H3,I3,.cons %[rx|ry] rel|q3])
def oM(M7 more:List (Key×V)):List (Key×V):=more.foldl (λacc kv=>jF acc kv.1 kv.2) M7
def KV.merge:∀{more:List (Key×V)}{rs:List (Key×Value)}{M7:List (Key×V)}{vs:List (Key×Value)},KV more rs->KV M7 vs->KV (oM M7 more) (merged vs rs):=by
 intro more rs M7 vs r;unfold KV at r
 induction r generalizing M7 vs with
 |nil=>intro q;exact q
 | @cons p q ps qs h t ih=>
   intro r0;let e:KV (jF M7 p.1 p.2) (stored vs q.1 q.2):=by
    have:=r0.put p.1 h.2
    rw[←h.1];exact this
   exact ih e
def lJ:∀(more M7:List (Key×V)),(oM M7 more).length<=M7.length+more.length
 | [],M7=>by show M7.length<=M7.length+0;omega
 |p::r,M7=>by
   let h1:=lJ r (jF M7 p.1 p.2);let h2:=iH M7 p.1 p.2;show(oM (jF M7 p.1 p.2) r).length<=_;rw[zR0];omega
def sj:∀{M7:List (Key×V)}{ws:List (Value×Value)},VV (M7.map λkv=>(kV kv.1,kv.2)) ws->∃rs,Carries (db P w) ws rs/\KV M7 rs
 | [],_,r=>by rw[wM0]at r;cases r;erw[[],True.intro,.nil]
 |p::M7,_,r=>by
   rw[qC0]at r;cases r with
   | @cons a b as bs h t=>
     let%[rs,c|q]:=sj (P:=P) (w:=w) t;erw[b1,b2]at b;erw[(p.1,b2)::rs,%[wK h.1,1|c],.cons ⟨rfl,h.2⟩ q]
def tDisp(trs:List (TE×TE)):TE:=λσ H Q=>∀p,H p=none->xG trs σ (upd H p (.dK [])) λps H2=>H2 p=some (.dK [])/\∃M7:List (Key×V),ps=M7.map (λkv=>(kV kv.1,kv.2))/\M7.length<=15/\Q (.ref p) (upd H2 p (.dK (oM [] M7)))
def FQ(h:PPs X pos keys values trs)(hall:keys.all (·.isSome)=true)(hl:keys.length=values.length)(h0:keys≠[])
 (h15:keys.length<=15):PE X (.Dict keys values pos) (tDisp trs):=by
 exists 4,Q,I,q;let hn:=I.hok.fresh (zH0 ‹s›);let I1:=I.laid (a:=‹s›) (o:=.dK []) (h':=s.heap.push { cls:=.type "dict",data:=.dict #[] }) (t':=s.toks) (λ_ _ q=>zS0 _ q) (zH0 _) (wX s.heap I.big);apply wpAny_Dict_walk (knd:=db X.prog X.w) hall hl h0 h15 (thn (h M5 _ σ _ _ I1 (q _ hn)) λws s2 ⟨ps,H2,I2,rel,e,M7,ep,lk,q2⟩=>?_);subst ep;let%[rs,c|rk]:=sj (P:=X.prog) (w:=X.w) rel;let%[z,hd,vs0,r0|dd]:=Hq I2.hok e;cases r0;erw[rs,c,dd,λh' dd' hs=>%[.ref ‹s›,_,6,1|q2]];let hz:(oM [] M7).length<=sizeLine:=by
  let h1:=lJ M7 [];rw[zJ1]at h1;rw[sizeLine_eq];omega
 let he:∃q,h'.get? ‹s›=some q:=let⟨q,_,_,hq,_⟩:=dd';%[q|hq]
 exact vx I2 (by rw[e];exact True.intro) hs he (EM hz hd (rk.merge .nil) dd')
structure M2(X:Cx)(o:Expr)(m:Str)(Ng:Pos)(e f:Expr)(Nc:Pos):Prop where
 base:attributeBase o m X.env (eval o X.env)=eval o X.env
 few:((backTo Nc (starEach [e,f] X.env)).all (λx=>!x.1)&&(backToKw Nc (keywordEach [] X.env)).all (λx=>x.1.isSome)
  &&decide (([e,f]:List Expr).length+([]:List Keyword).length+(if([]:List Keyword).isEmpty then 0 else 1)<30))=true
 line:(Ng.endLine==Nc.line)=true
 trees:backTo Nc (starEach [e,f] X.env)=[(false,eval e X.env),(false,eval f X.env)]
def IsD(H:Hp)(a:Addr):Prop:=(∃M7,Rd H a (.dK M7))∨∃M7,Rd H a (.dT M7)
def ID{σ:St}(I:#[8] H s)(d:IsD H a):
 s.TypeIs (.ref a) "dict"/\(∀b,Value.ref a=.ref b->∃ob,s.heap.get? b=some ob/\ob.dict=none)/\(a==sysModules)=false:=by
 rcases d with⟨M7,e⟩ | ⟨M7,e⟩
 . let%[_,hd,vs,_|dd]:=wW I.hok e;erw[dd.typeIs,λb q=>?_,hd];cases q;erw[ob,_,_,h1,h2,_]at dd;erw[ob,h1,h2.2.1]
 . let%[_,hd,xs,_|dd]:=wU I.hok e;erw[dd.typeIs,λb q=>?_,hd];cases q;erw[ob,_,_,h1,h2,_]at dd;erw[ob,h1,h2.2.1]
section
variable {X:Cx}{M5:#[7]}{σ:St}{H:Hp}{s:Shared}{a:Addr}{y d:V}{u r:Value}{o:Option V}{A:Around}{E:#[6]}
def IW{Q:#[6]}(hu:A.units+1<cLine)(I:#[8] H s)(g:DGet H a y o)(ry:RelV y u)(rd:RelV d r)(h:∀w' s',#[8] H s'->RelV (o.getD d) w'->Q w' s'):
 wpAny (model X.prog X.w) A (call (.builtin "dict.get") [.ref a,u,r]) Q E s:=by
 rcases g with⟨M7,k,e,ey,l⟩ | ⟨M7,k,b,e,ey,eb,l⟩
 . subst ey;let%[z,hd,vs,rel|dd]:=wW I.hok e;apply call_meetsIn jX1 dd.typeIs PySem.F.entry_dict_get (PySem.F.args_dict_get_3 _ _ _) (meets_dict_get_default (db X.prog X.w) a (wK ry) hd r) %[_,dd.mapOf|h _ _ (I.tok _) ?_];rw[l];exact(rel.val k).getD rd
 . subst ey;cases(show u=Value.ref b from ry);let%[z,hd,xs,rel|dd]:=wU I.hok e;apply call_meetsIn jX1 dd.typeIs PySem.F.entry_dict_get (PySem.F.args_dict_get_3 _ _ _) (meetsH_dict_get_default (tupleKind (db X.prog X.w)) a b hd r) %[wN0 hu,k,xs,vn I.hok eb,dd|h _ _ (I.tok _) ?_];rw[l];exact(rel.val k).getD rd
end
instance ZtDGet2(ty:TE)(tx:TE)(σ:St)(Q:VK)(x:V)(H1:Hp):∀a,x=.ref a->IsD H1 a->(ty σ H1 λy H2=>tx σ H2 λz H3=>∃o,DGet H3 a y o/\Q (o.getD z) H3):=0
def HH(td ty tx:TE):TE:=λσ H Q=>td σ H λx H1=>ZtDGet2 ty tx σ Q x H1
section
variable {X:Cx}{o e f:Expr}{Ng Nc:Pos}{td ty tx:TE}
def Dy(hu:X.A.units+1<cLine)(ho:PE X o td)(he:PE X e ty)(hf:PE X f tx)(m:M2 X o "get" Ng e f Nc):PE X (.Call (.Attribute o "get" Ng) [e,f] [] Nc) (HH td ty tx):=by
 exists 4,Q,I,h;apply wpAny_Call_method m.base m.few m.line PySem.F.plainAttrs_dict jX1 PySem.F.type_dict_get (thn (ho M5 s σ H _ I h) λu s1 ⟨x,H1,I1,rx,a,ex,d,q1⟩=>?_);subst ex;obtain rfl:u=Value.ref a:=rx;let%[t1,t2|_]:=ID I1 d;erw[t1,t2,6];rw[m.trees];apply jE0 rfl (jJ1 (qK1 (thn (he M5 s1 σ H1 _ I1 q1) λiv s2 ⟨y,H2,I2,ry,q2⟩=>
  qK1 (thn (hf M5 s2 σ H2 _ I2 q2) λfv s3 ⟨z,H3,I3,rz,ov,g,q3⟩=>qY1 ?_))))
 exact IW hu I3 g ry rz λw' s4 I4 rw'=>%[_,H3,I4,rw'|q3]
end
section
variable {X:Cx}
def Inv.tupD{σ:St}{a:Addr}{xs:List V}(I:#[8] H s)(h:H a=some (.tup xs)):∃ob,s.heap.get? a=some ob/\ob.dict=none:=by
 let%[_,_,_,_,o,e|d]:=(show ObjOk X.prog X.w H s.heap a (.tup xs)from I.hok a _ h)
 erw[o,e,d]
instance ZtIndex(t:TA)(σ:St)(Q:VK)(x:V)(H1:Hp):∀(a:Addr)(ns:List Str),x=.ref a->H1 a=some (.lst (ns.map V.str))∨H1 a=some (.tup (ns.map V.str))->(t σ H1 λvs H2=>(H2 a=H1 a)/\∃(z:Str)(j:Nat),vs=[.str z]/\eT z ns=some j/\Q (.int (j:Int)) H2):=0
def HE(K:W.Frag)(to:TE)(t:TA):TE:=λσ H Q=>to σ H λx H1=>ZtIndex t σ Q x H1
variable {o e:Expr}{es:List Expr}{to:TE}{t:TA}{Ng Nc:Pos}
def rc(pl:PlainAttrs "list")(pt:PlainAttrs "tuple")(ho:PE X o to)(ha:PA X (e::es) t)
 (hbase:attributeBase o "index" X.env (eval o X.env)=eval o X.env:=by rfl)
 (hfew:((backTo Nc (starEach (e::es) X.env)).all (λx=>!x.1)&&(backToKw Nc (keywordEach [] X.env)).all (λx=>x.1.isSome)
  &&decide ((e::es).length+([]:List Keyword).length+(if([]:List Keyword).isEmpty then 0 else 1)<30))=true:=by rfl)
 (hline:(Ng.endLine==Nc.line)=true:=by rfl) (hs:starEach (e::es) X.env=(false,eval e X.env)::starEach es X.env:=by rfl) (hplain:(backTo Nc (starEach es X.env)).any (·.1)=false:=by rfl) :
 PE X (.Call (.Attribute o "index" Ng) (e::es) [] Nc) (HE X.K to t):=by
 exists 4,Q,I,h;apply wpAny_Call_method_late hbase hfew hline rfl (thn (ho M5 s σ H _ I h) λv s1 ⟨x,H1,I1,r1,a,ns,ex,hh,q1⟩=>?_);subst ex;cases r1;let hA:=ha Nc M5 s1 σ H1 _ I1 q1;rw[hs]at hA ⊢;rcases hh with hh | hh
 . let%[its,_,p|_]:=I1.list (zG0 hh);let%[ob,n,e1,c,d|_]:=id p;erw["list","list.index",pl,F.slot_list_index,F.type_list_index,p.isList.typeIs,λb eb=>?_,6]
   . cases eb;erw[ob,e1,d]
   . apply jE0 (by show(false||(backTo Nc (starEach es X.env)).any (·.1))=false;rw[hplain] <;> rfl) (jJ1 ?_);exact thn hA λus s2 ⟨vs,H2,I2,r2,ek,z,j,ez,hp,q2⟩=>Bh M5 s2 σ H2 (.ref a) vs (.ref a) us Q I2 rfl r2 %[a,ns,z,j,1,ez,zG0 (ek.trans hh),hp|q2]
 . let%[its,_,p|_]:=I1.tuple (zA0 hh);erw["tuple","tuple.index",pt,F.slot_tuple_index,F.type_tuple_index,p.typeIs,λb eb=>?_,6]
   . cases eb;exact I1.tupD hh
   . apply jE0 (by show(false||(backTo Nc (starEach es X.env)).any (·.1))=false;rw[hplain] <;> rfl) (jJ1 ?_);exact thn hA λus s2 ⟨vs,H2,I2,r2,ek,z,j,ez,hp,q2⟩=>Bg M5 s2 σ H2 (.ref a) vs (.ref a) us Q I2 rfl r2 %[a,ns,z,j,1,ez,zA0 (ek.trans hh),hp|q2]
end
def CompScope.three{X:Cx}{x y z u:Str}{scope:Scope}{k l m:Nat}{c d e:Addr}{cl:List (Str×Addr)}(c1:closureFor scope X.env=pure cl)(c2:∀y∈scope.names,y.2≠.cell)(c3:scope.kind=.function)(c4:∀y∈scope.names,y.2=.local->scope.names.lookup y.1=some .local)
 (c5:scope.names.lookup x=some .local)(nd:[x,y,z,u].Nodup)(hcl:cl=[(y,c),(z,d),(u,e)])(hc:X.env.cells.lookup y=some c)(hd:X.env.cells.lookup z=some d)(he:X.env.cells.lookup u=some e)(c6:((relabel scope X.env).names.all λp=>!(p.2==.cell||p.2==.free)||(cl.lookup p.1).isSome)=true)
 (hr:(relabel scope X.env).names.lookup y=some .cell)(hk:X.N[k]?=some y)(hs:X.env.scope.names.lookup y=some .cell)
 (hr2:(relabel scope X.env).names.lookup z=some .cell)(hk2:X.N[l]?=some z)(hs2:X.env.scope.names.lookup z=some .cell)
 (hr3:(relabel scope X.env).names.lookup u=some .cell)(hk3:X.N[m]?=some u)(hs3:X.env.scope.names.lookup u=some .cell):CompScope X x [y,z,u] [k,l,m] scope cl where
 clos:=c1
 nocell:=c2
 kind:=c3
 names:=c4
 own:=c5
 nd:=nd
 sub:=λp hp=>by
  subst hcl;rcases Nf hp with h | h
  . rw[h];assumption
  . rcases Nf h with h | h
    . rw[h];assumption
    . rw[Nd h];assumption
 has:=c6
 outs:=λj w h=>by
  let nyz:y≠z:=λe=>by simp [e]at nd
  let nyu:y≠u:=λe=>by simp [e]at nd
  let nzu:z≠u:=λe=>by simp [e]at nd
  subst hcl
  match j,h with
  |0,h=>
    let e:y=w:=zO0 h;subst e;erw[hr,k,c,1,hk,by simp [List.lookup],hs]
  |1,h=>
    let e:z=w:=zO0 h;subst e
    have:(z==y)=false:=#[Ne.symm nyz,0]
    erw[hr2,l,d,1,hk2,by simp [List.lookup,this],hs2]
  |2,h=>
    let ew:u=w:=zO0 h;subst ew;let h1:(u==y)=false:=#[Ne.symm nyu,0]
    let h2:(u==z)=false:=#[Ne.symm nzu,0]
    erw[hr3,m,e,1,hk3,by simp [List.lookup,h1,h2],hs3]
  |j+3,h=>simp at h
section
variable {X:Cx}
def tN:∀{xs:List V}{us:List Value},Vals xs us->xs.all jV=true->us.countP (eqU x)=xs.countP λy=>eqV y x
 |_,_,.nil,_=>rfl
 |y::xs,u::us,.cons r t,f=>by
   rw[wC1,qN1]at f;rw[List.countP_cons,List.countP_cons,yQ r f.1,tN t f.2]
instance rCountL(K:W.Frag)(x:V)(vs:List V)(H:Hp)(Q:VK):∀(a:Addr)(xs:List V)(z:V),x=.ref a->vs=[z]->SqL K H a xs->xs.all jV=true->jV z=true->Q (.int ((xs.countP λy=>eqV y z:Nat):Int)) H:=0
def wA:MtR X "list.count" (rCountL X.K):=by
 exists 4,x,vs,v,us,Q,I,rx,rv,h;erw[a,xs,z,1,1,hq,fs,fz,q]at h;cases rx;erw[u,1,ru]at rv.one;let%[its,r,%[%[cls,dd,data|sl],n,ho,hc,hdd|hd]|hz]:=I.list hq;simp only at hc hd;subst hc hd;apply jI1 F.slot_list_count %[_,ho|1] F.entry_list_count (F.args_list_count_2 _ _) (SeqAt.list_countAt a its.toArray n dd sl u (eqU z)) ⟨ho,λy hy=>?_,?_⟩
 . exact gQ ru fz r fs y #[hy,0]
 . rw[show its.toArray.toList=its from rfl,tN r fs];erw[.int ((xs.countP λy=>eqV y z:Nat):Int),H,I.tok _,%[|0],q]
end
def vS{α:Type}(l:List α):∀m,m<=l.length->((List.range m).filterMap λk=>l[l.length-1-k]?)=l.reverse.take m
 |0,_=>by simp
 |m+1,h=>by
   rw[qJ1,List.filterMap_append,vS l m #[0],qB0,qT1 #[0]];cases e:l[l.length-1-m]? with
   |none=>simp [e]
   |some y=>simp [e]
def qO(its:List Value):((List.range its.length).filterMap fun(k:Nat)=>its.toArray[(((its.length:Nat):Int)-1+(k:Int)*(-1)).toNat]?)=its.reverse:=by
 let e:=vS its its.length (zH0 _);rw[←qH1,zZ0]at e;rw[qH1]at e;rw[←e];apply congrArg (λf=>List.filterMap f (List.range its.length)) (funext λk=>?_);let e1:(((its.length:Nat):Int)-1+(k:Int)*(-1)).toNat=its.length-1-k:=#[0]
 rw[e1]
 simp
def AE(its:List Value):slicePick its.toArray none none (some (-1))=its.reverse.toArray:=by
 let e1:sliceBounds none none (some (-1)) its.toArray.size=(((its.length:Nat):Int)-1,-1,-1):=by simp [sliceBounds]
 let e2:sliceRange (((its.length:Nat):Int)-1) (-1) (-1)=(List.range its.length).map fun(k:Nat)=>(((its.length:Nat):Int)-1+(k:Int)*(-1)).toNat:=by
  unfold sliceRange;let e3:(if(-1:Int)>0 then(if(((its.length:Nat):Int)-1) < -1 then(-1-(((its.length:Nat):Int)-1)+-1-1) / -1 else 0)else(if(((its.length:Nat):Int)-1) > -1 then((((its.length:Nat):Int)-1) - -1 - -1-1) / (- -1)else 0))=((its.length:Nat):Int):=by
   rw[M6 ⋯]
   split
   . have:((((its.length:Nat):Int)-1) - -1 - -1-1)=((its.length:Nat):Int):=#[0]
     rw[this,show(- (-1:Int))=1 from rfl,Int.ediv_one]
   . omega
  simp only[e3];rw[qT0];apply congrArg (λf=>List.map f (List.range its.length)) (funext λk=>?_);omega
 unfold slicePick;rw[e1];show((sliceRange (((its.length:Nat):Int)-1) (-1) (-1)).filterMap (its.toArray[·]?)).toArray=_;rw[e2,List.filterMap_map];exact congrArg List.toArray (qO its)
section
variable {prog:Program}{w:World}{A:Around}{E:#[6]}{s:Shared}
def Ff{t sl:Addr}{its:List Value}{tk:Tok}{Q:#[6]}(ht:IsTup s.heap t its.toArray)(hs:s.heap.IsSliceOf sl .none .none (.int (-1) tk))
 (h:Q (.ref ‹s›) { s with heap:=s.heap.push { cls:=.type "tuple",data:=.seq its.reverse.toArray } })(hz:its.length<=sizeLine):‹w.A› (getItem (.ref t) (.ref sl)) Q E s:=by
 let fits:sizeOk (.seq its.reverse.toArray):=by
  show its.reverse.toArray.size<=sizeLine;rw[zV0,qH1];exact hz
 let%[os,hos,hcs|hds]:=id hs;let hTs:s.TypeIs (.ref sl) "slice":=%[os,hos|hcs]
 unfold getItem
 try with_reducible apply jA1 ?_
 first | apply zE0 (zI0 ?_) | skip
 apply zE0 (wS0 ht.typeIs ⋯ ?_);apply zE0 (zS1 (name:=Str.ofString "__getitem__") ht.typeIs zR1
  (qF1 zR1 ht.typeIs wF0 ?_ (wL1 _ _)))
 show wpAny _ _ (Builtin.Tuple.tupleItemsOf (.ref t) >>= _) _ _ s;apply zE0 (tupleItemsOf_ ht ?_);apply zE0 (vB1 hTs ?_);rw[M8 ⋯];let ap:∀{Q':Int×Int×Nat->Shared->Prop},Q' (((its.length:Nat):Int)-1,-1,its.length) s->wpAny (model prog w) A.in1 (Builtin.Slice.sliceApplied (.ref sl) (pure ((its.toArray.size:Nat):Int))) Q' E s:=by
  intro Q' q;unfold Builtin.Slice.sliceApplied Builtin.Slice.sliceFields;apply zE0 (zE0 (qD1 hos hds (x:=.none) rfl (zE0 (qD1 hos hds (x:=.none) rfl (zE0 (qD1 hos hds (x:=.int (-1) tk) rfl (zI0 ?_)))))));apply zE0 (slicePart_int ?_);show wpAny _ _ (if((-1:Int)==0)=true then _ else _) _ _ s;rw[M6 ⋯];apply zE0 (wP1 (zE0 (wP1 (zE0 (zI0 ?_)))));let e1:Builtin.Slice.sliceAdjust none none (-1) ((its.toArray.size:Nat):Int)=(((its.length:Nat):Int)-1,-1):=by simp [Builtin.Slice.sliceAdjust]
  let e2:Builtin.Slice.slicePlaces (((its.length:Nat):Int)-1) (-1) (-1)=its.length:=by
   unfold Builtin.Slice.slicePlaces;rw[M6 ⋯]
   split
   . have:(((its.length:Nat):Int)-1 - -1-1) / (- -1)+1=((its.length:Nat):Int):=by
      rw[show(- (-1:Int))=1 from rfl,Int.ediv_one];omega
     rw[this];omega
   . omega
  show wpAny _ _ (match Builtin.Slice.sliceAdjust none none (-1) ((its.toArray.size:Nat):Int)with | (lo,hi)=>pure (lo,(-1:Int),Builtin.Slice.slicePlaces lo hi (-1))) _ _ s;rw[e1];show wpAny _ _ (pure (((its.length:Nat):Int)-1,(-1:Int),Builtin.Slice.slicePlaces (((its.length:Nat):Int)-1) (-1) (-1))) _ _ s;rw[e2];exact zI0 q
 apply zE0 (ap ?_);let no:¬ (((((its.length:Nat):Int)-1==0)&&((-1:Int)==1)&&(its.length==its.toArray.size))=true):=by simp
 show wpAny _ _ (if((((its.length:Nat):Int)-1==0)&&((-1:Int)==1)&&(its.length==its.toArray.size))=true then _ else _) _ _ s;rw[M6 no,qO]
 first
  |exact zE0 (m:=Builtin.Tuple.tupleExact _) (zM1 (zI0 ⟨_,rfl,zI0 h⟩) fits)
  |exact zE0 (m:=Builtin.Tuple.tupleExact _) (zM1 (zE0 (zI0 (zI0 ⟨_,rfl,zI0 h⟩))) fits)
  |exact zE0 (zE0 (m:=Builtin.Tuple.tupleExact _) (zM1 (zI0 (zI0 ⟨_,rfl,zI0 h⟩)) fits))
  |exact zE0 (zE0 (m:=Builtin.Tuple.tupleExact _) (zM1 (zI0 ⟨_,rfl,zI0 h⟩) fits))
end
section
variable {X:Cx}{e k:Expr}{te tk:TE}{pos p2:Pos}
def tRev(K:W.Frag)(te tk:TE):TE:=λσ H Q=>te σ H λx H1=>tk σ H1 λy H2=>y=.int (-1)/\∃a xs,x=.ref a/\
 ((SqL K H2 a xs/\∀p,H2 p=none->Q (.ref p) (upd H2 p (.lst xs.reverse)))∨(SqT K H2 a xs/\∀p,H2 p=none->Q (.ref p) (upd H2 p (.tup xs.reverse))))
def HW(he:PE X e te)(hk:PE X k tk):PE X (.Subscript e (.Slice none none (some k) p2) pos) (tRev X.K te tk):=by
 exists 4,Q,I,h;apply Subscript_ (thn (he M5 s σ H _ I h) λv s1 ⟨x,H1,I1,r1,q1⟩=>?_);apply wpAny_Slice ?_;rw[evalPart_none];apply zI0 (zI0 ?_);rw[evalPart_some];apply thn (hk M5 s1 σ H1 _ I1 q1) λu s2 ⟨y,H2,I2,r2,ey,a,xs,ex,q2⟩=>?_
 subst ey ex;cases r1;erw[t,1]at r2;let I3:#[8] H2 { s2 with heap:=s2.heap.push { cls:=.type "slice",data:=.fields #[.none,.none,.int (-1) t] } }:=I2.kept (t':=s2.toks) λb ob q=>zS0 _ q
 show ‹X.w› (subscriptTail e (.Slice none none (some k) p2) (.ref a) (.ref ‹s2›)) (EP X M5 σ Q) X.xe { s2 with heap:=s2.heap.push { cls:=.type "slice",data:=.fields #[.none,.none,.int (-1) t] } };rcases q2 with⟨hq,q⟩ | ⟨hq,q⟩
 . let%[its,r,ht|hz]:=I3.list hq;let hl:=r.length;apply tail_any (ops:=[.ref a,.ref ‹s2›]) ht.isList.typeIs slot_list_getitem.lookup ?_ (by rfl');apply wpAny_getItem_list_slice (st:=some (-1)) ht.isList (Heap.IsSliceOf.new ..) .none .none (.int (-1) t) #[2] ?_ (by rw[zV0];omega);rw[AE];erw[.ref _,_,I3.laid (t':=s2.toks) (o:=.lst xs.reverse) (λb ob q=>zS0 _ q) (zH0 _) ?_,1,q _ (I3.hok.fresh (zH0 _))];erw[by rw[qH1];exact hz,_,(0),r.reverse,qE0 _ rfl]
 . let%[its,r,ht|hz]:=I3.tuple hq;let hl:=r.length;apply tail_any (ops:=[.ref a,.ref ‹s2›]) ht.typeIs PyProof.Rows.slot_tuple_getitem.lookup ?_ (by rfl');apply Ff ht (Heap.IsSliceOf.new ..) ?_ #[0];erw[.ref _,_,I3.laid (t':=s2.toks) (o:=.tup xs.reverse) (λb ob q=>zS0 _ q) (zH0 _) ?_,1,q _ (I3.hok.fresh (zH0 _))];erw[by rw[qH1];exact hz,_,r.reverse,IsTup.new _ _,_,qE0 _ rfl,1]
end
def eN(g:Nat->Int):Nat->Int
 |0=>g 0
 |k+1=>if eN g k<g (k+1)then g (k+1)else eN g k
def xr(g:Nat->Int):∀n k,k<=n->g k<=eN g n
 |0,k,h=>by
   let e:k=0:=#[0]
   subst e;exact zT1 _
 |n+1,k,h=>by
   unfold eN
   by_cases c:k=n+1
   . subst c
     split <;> omega
   . have:=xr g n k #[0]
     split <;> omega
def Bk(ns:List Int)(d:Int):Int:=match ns with | []=>d | _::_=>eN (λi=>ns[i]?.getD 0) (ns.length-1)
def Gs{ns:List Int}{x:Int}(h:x∈ns):x<=Bk ns d:=by
 let%[i,hi|e]:=wG0 h;cases ns with
 |nil=>cases h
 |cons a r=>
   have:=xr (λi=>(a::r)[i]?.getD 0) ((a::r).length-1) i #[0]
   simp only[zN0 hi,Option.getD_some,e]at this;exact this
section
variable {prog:Program}{w:World}{A:Around}{R:Result->Shared->Prop}{I S:Addr}{fp wr:List Addr}{n:Nat}{P:Nat->Value->Prop}{St:Nat->Heap->Prop}{g:Nat->Int}{kw:List (Str×Value)}
def pT:(toString "max"++toString ".loop":String)="max.loop":=by decide
def Ed(W:Walks prog w A.in1 I fp wr n P St)(gv:∀i v,P i v->∃t,v=Value.int (g i) t)(nS:S∉fp):∀(k j:Nat)(s:Shared)(t:Tok)(c:Nat),j+1+k=n->St (j+1) s.heap ->
 s.heap.get? S=some { cls:=.type "list",dict:=none,data:=.seq #[.int (eN g j) t,.int (eN g j) t] c,slots:=#[] } ->
 (∀t' h' tk,(∀b o,b∉wr->b≠S->s.heap.get? b=some o->h'.get? b=some o)->R (.ok (.ret (.int (eN g (n-1)) t'))) { s with heap:=h',toks:=tk }) ->
 codeAny (model prog w) A (.builtin "max.loop" %[[.ref I,.none,.ref S]|kw]) R s:=by
 let nw:S∉wr:=λz=>nS (W.sub _ z)
 intro k
 induction k with
 |zero=>
   intro j s t c ek st eS q;apply codeAny_builtin vA0 ?_;rw[wC0 qS1 _];show wpAny _ A.in1 (seqItems? (.ref S) >>= _) _ _ s;apply zE0 (jW1 eS rfl ?_);show wpAny _ A.in1 (tryCatch (pyNext (.ref I)) _ >>= _) _ _ s;apply zE0 (wR0 (W.done s _ _ (by rw[←ek];exact st) λh' tk kp=>?_));show wpAny _ A.in1 (updateSeq S (λ_=>#[]) >>= _) _ _ _;apply zE0 ?_;apply wpAny_updateSeq (kp S _ nw eS) rfl (zE0 (wW0 (zI0 ?_)));let e:n-1=j:=#[0]
   rw[e]at q;exact q t _ tk λb o h1 h2 eb=>(Heap.get?_update_other _ _ (Ne.symm h2)).trans (kp b o h1 eb)
 |succ k ih=>
   intro j s t c ek st eS q;apply codeAny_builtin vA0 ?_;rw[wC0 qS1 _];show wpAny _ A.in1 (seqItems? (.ref S) >>= _) _ _ s;apply zE0 (jW1 eS rfl ?_);show wpAny _ A.in1 (tryCatch (pyNext (.ref I)) _ >>= _) _ _ s;apply zE0 (wR0 (W.item (j+1) s _ _ #[0] st λv h' tk pv st' kp=>?_));let%[tv|1]:=gv _ _ pv;let eS':=kp S _ nw eS;show wpAny _ A.in1 (tryCatch (holding [Value.int (g (j+1)) tv,Value.int (g (j+1)) tv] (richCompare .Gt (Value.int (g (j+1)) tv) (Value.int (eN g j) t) >>= _)) _ >>= _) _ _ _;apply zE0 (wR0 (jA1 (zE0 (CmpOf.ints_gt (prog:=prog) (w:=w) (A:=A.in1) (P:=λi v=>∃t,v=Value.int (if i=0 then eN g j else g (j+1)) t) (λi=>if i=0 then eN g j else g (j+1)) (λi v h=>h) 1 0 _ _ _ _ _ %[tv|1] ⟨t,rfl⟩ ?_))));apply zE0 (jA1 (zZ1 ?_));apply zE0 (wW0 (zI0 ?_))
   by_cases c1:eN g j<g (j+1)
   . let e1:eN g (j+1)=g (j+1):=by unfold eN;rw[M8 c1]
     apply qC1 (λ_=>?_) (λhab=>absurd (zC1 c1) hab);apply zE0 ?_;apply wpAny_updateSeq eS' rfl (zE0 (wW0 ?_));rw[pT];apply zI0 %[wW1 qS1 _|ih (j+1) _ tv _ #[0] (W.frame _ _ _ st' λb hb o eb=>?_) (by rw[e1];exact Heap.get?_update_self _ eS' rfl) λt' h2 tk2 kp2=>?_]
     . exact(Heap.get?_update_other _ _ (λz:S=b=>nS (by rw[z];exact hb))).trans eb
     . exact q t' h2 tk2 λb o h1 h3 eb=>kp2 b o h1 h3 ((Heap.get?_update_other _ _ (Ne.symm h3)).trans (kp b o h1 eb))
   . let e1:eN g (j+1)=eN g j:=by unfold eN;rw[M6 c1];cases j <;> rfl
     apply qC1 (λhab=>absurd (zU1 hab) c1) (λ_=>?_);apply zE0 (wW0 ?_);rw[pT];apply zI0 %[wW1 qS1 _|ih (j+1) _ t c #[0] st' (by rw[e1];exact eS') λt' h2 tk2 kp2=>?_];exact q t' h2 tk2 λb o h1 h3 eb=>kp2 b o h1 h3 (kp b o h1 eb)
def Ee(W:Walks prog w A.in1 I fp wr n P St)(gv:∀i v,P i v->∃t,v=Value.int (g i) t)(nS:S∉fp)(hn:0<n){s:Shared}{c:Nat}(st:St 0 s.heap)(eS:s.heap.get? S=some { cls:=.type "list",dict:=none,data:=.seq #[] c,slots:=#[] })
 (q:∀t' h' tk,(∀b o,b∉wr->b≠S->s.heap.get? b=some o->h'.get? b=some o)->R (.ok (.ret (.int (eN g (n-1)) t'))) { s with heap:=h',toks:=tk }):
 codeAny (model prog w) A (.builtin "max.loop" %[[.ref I,.none,.ref S]|kw]) R s:=by
 let nw:S∉wr:=λz=>nS (W.sub _ z)
 apply codeAny_builtin vA0 ?_;rw[wC0 qS1 _];show wpAny _ A.in1 (seqItems? (.ref S) >>= _) _ _ s;apply zE0 (jW1 eS rfl ?_);show wpAny _ A.in1 (tryCatch (pyNext (.ref I)) _ >>= _) _ _ s;apply zE0 (wR0 (W.item 0 s _ _ hn st λv h' tk pv st' kp=>?_));let%[tv|1]:=gv _ _ pv;let eS':=kp S _ nw eS;show wpAny _ A.in1 (updateSeq S (λ_=>#[Value.int (g 0) tv,Value.int (g 0) tv]) >>= _) _ _ _;apply zE0 ?_;apply wpAny_updateSeq eS' rfl ?_;rw[pT];apply zI0 %[wW1 qS1 _|Ed W gv nS (n-1) 0 _ tv _ #[0] (W.frame _ _ _ st' λb hb o eb=>?_) (Heap.get?_update_self _ eS' rfl) λt' h2 tk2 kp2=>?_]
 . exact(Heap.get?_update_other _ _ (λz:S=b=>nS (by rw[z];exact hb))).trans eb
 . exact q t' h2 tk2 λb o h1 h3 eb=>kp2 b o h1 h3 ((Heap.get?_update_other _ _ (Ne.symm h3)).trans (kp b o h1 eb))
end
section
variable {X:Cx}{e k:Expr}{te tk:TE}{pos p1 kp:Pos}
instance rMax1(K:W.Frag)(xs:List V)(H:Hp)(Q:VK):∀a ns,xs=[.ref a]->SqL K H a (ns.map V.int)->ns≠[]->Q (.int (Bk ns 0)) H:=0
def oR(hc:X.calm=true):gR X (.builtin "max") (rMax1 X.K):=by
 intro M5 s2 σ H2 xs us Q I2 r h;erw[a,ns,1,hq,hn,q]at h;let%[u,1|ru]:=kc r;cases ru;let%[its,r',p|hz]:=I2.list hq;let hl:=r'.length;rw[zF0]at hl;let Nb:a<‹s2›:=by erw[o,n,e,_]at p;exact zQ0 e
 apply call_function_tree F.kind_max F.plain_max F.entry_max (F.args_max1 _) ?_;show wpAny _ X.A.in1 (Builtin.Builtins.bindParams "max" ["key","default"] 0 %[[]|[]] >>= λ_=>_) _ _ s2;apply zE0 (jB0 (a:=[none,none]) rfl ?_);apply zE0 (zI0 ?_);apply zE0 (jI0 p.isList ?_);apply zE0 (zM1 ?_);rw[pT];let hne:a≠‹s2›:=qA0 Nb;let W:=Walks.list (prog:=X.prog) (w:=X.w) (A:=X.A.in1) (I2.ok.hd hc) ‹s2› a hne its.toArray;let I3:#[8] H2 { s2 with heap:=s2.heap.push { cls:=.type "list_iterator",data:=.fields #[.ref a,.int 0 0] } }:=I2.kept (t':=s2.toks) λb o eb=>zS0 _ eb
 let I4:#[8] H2 { s2 with heap:=(s2.heap.push { cls:=.type "list_iterator",data:=.fields #[.ref a,.int 0 0] }).push { cls:=.type "list",data:=.seq #[] } }:=I3.kept (t':=s2.toks) λb o eb=>zS0 _ eb
 let hz1:∀o:Obj,(s2.heap.push o).objs.size=‹s2›+1:=λo=>by simp [Heap.push]
 let nS:(s2.heap.push { cls:=.type "list_iterator",data:=.fields #[.ref a,.int 0 0] }).objs.size∉[‹s2›,a]:=by
  intro hm;rcases Nf hm with z | z
  . rw[hz1]at z;exact absurd z (Nat.succ_ne_self _)
  . let z:=Nd z;rw[hz1]at z;exact absurd z (wK1 (jV1 Nb))
 let gv:∀i v,its.toArray[i]?=some v->∃t,v=Value.int (ns[i]?.getD 0) t:=λi v hv=>by
  let%[b,t,hb|1]:=rQ r' (i:=i) (v:=v) (by first | exact hv | simpa using hv | (rw[List.getElem?_toArray]at hv;exact hv));erw[t,by rw[hb];rfl]
 let n0:0<ns.length:=List.length_pos_iff.mpr hn;apply zI0 %[wW1 qS1 _|Ee (g:=λi=>ns[i]?.getD 0) W gv nS (by rw[zV0,←hl];exact n0) %[%[_,zS0 _ (qE0 _ rfl),1|1]|(p.isList.push _).push _] (qE0 _ rfl) λt' h' tk kp=>?_];rw[zV0,←hl];let em:eN (λi=>ns[i]?.getD 0) (ns.length-1)=Bk ns 0:=by
  cases ns with
  |nil=>exact absurd rfl hn
  |cons _ _=>rfl
 rw[em];erw[.int _,H2,6,%[|0],q];let J:=Inv.turnedL (h':=h') (t':=tk) (ch:=[‹s2›,‹s2›+1]) I4 (λb o hb eb=>kp b o (λz=>hb (by rw[Nd z];exact zX0)) (λz=>hb (by rw[z,hz1];exact qK0 _ zX0)) eb);apply J λb hb=>?_
 rcases Nf hb with h | h
 . rw[h];exact I2.fpOk (zH0 _) (I2.hok.fresh (zH0 _))
 . rw[Nd h];exact I2.fpOk (qM0 _) (I2.hok.fresh (qM0 _))
end
section
variable {prog:Program}{w:World}{A:Around}{E:#[6]}{s:Shared}
def Fh{it t:Addr}{i:Nat}{items:Array Value}{x:Value}{Q:#[6]}(hit:s.heap.IsTupleIter it t i)(ht:s.heap.IsTuple t items)(hx:items[i]?=some x)
 (q:∀h',h'.IsTupleIter it t (i+1)->Heap.SameBut it s.heap h'->Q x { s with heap:=h' }):‹w.A› (Builtin.SmallTypes.nextOf (.ref it)) Q E s:=by
 let%[o,ho,hc|hd]:=id hit;erw[ol,hol,_,nl,hdl]at ht;unfold Builtin.SmallTypes.nextOf;apply zE0 (zS1 (name:=Str.ofString "__next__") hit.typeIs qR1 (qF1 qR1 hit.typeIs F.entry_tuple_iterator_next ?_ (F.args_tuple_iterator_next_1 _)));show wpAny _ _ (field (.ref it) 0 >>= _) _ _ s;apply zE0 (qD1 ho hd (x:=.ref t) rfl ?_);show wpAny _ _ (if(Value.ref t==Value.none)=true then _ else _) _ _ s;rw[M6 (show ¬ ((Value.ref t==Value.none)=true)from qJ0)];show wpAny _ _ (field (.ref it) 1 >>= _) _ _ s;apply zE0 (qD1 ho hd (x:=.int i 0) rfl ?_);show wpAny _ _ (seqItems? (.ref t) >>= _) _ _ s;apply zE0 (jW1 hol hdl ?_);simp only[qT0,hx];apply zE0 (wpAny_setField ho hd #[2] (zI0 %[x,1|zI0 (q _ ?_ (Heap.SameBut.update ..))]));erw[_,Heap.get?_update_self _ ho (Obj.isFreed_of_fields (Obj.data_mapFields hd _)),(Obj.cls_mapFields ..).trans hc,by rw[Obj.data_mapFields hd];simp [rawInt]]
def Cp{it t:Addr}{i:Nat}{items:Array Value}{Q:#[6]}(hh:A.handled=none)(hit:s.heap.IsTupleIter it t i)(ht:s.heap.IsTuple t items)(hx:items[i]?=none)
 (q:∀h' e,Heap.ExtBut it s.heap h'->(∃o,h'.get? e=some o/\o.cls=.type "StopIteration")->E (.ref e) { s with heap:=h' }):‹w.A› (Builtin.SmallTypes.nextOf (.ref it)) Q E s:=by
 let%[o,ho,hc|hd]:=id hit;erw[ol,hol,_,nl,hdl]at ht;unfold Builtin.SmallTypes.nextOf;apply zE0 (zS1 (name:=Str.ofString "__next__") hit.typeIs qR1 (qF1 qR1 hit.typeIs F.entry_tuple_iterator_next ?_ (F.args_tuple_iterator_next_1 _)));show wpAny _ _ (field (.ref it) 0 >>= _) _ _ s;apply zE0 (qD1 ho hd (x:=.ref t) rfl ?_);show wpAny _ _ (if(Value.ref t==Value.none)=true then _ else _) _ _ s;rw[M6 (show ¬ ((Value.ref t==Value.none)=true)from qJ0)];show wpAny _ _ (field (.ref it) 1 >>= _) _ _ s;apply zE0 (qD1 ho hd (x:=.int i 0) rfl ?_);show wpAny _ _ (seqItems? (.ref t) >>= _) _ _ s;apply zE0 (jW1 hol hdl ?_);simp only[qT0,hx]
 first
  |apply zE0 (wpAny_rule (zE0 (wpAny_setField ho hd #[2] (zE0 (wW0 ?_)))))
  |apply zE0 (wpAny_rule (zE0 (wpAny_setField ho hd #[2] ?_)))
 show wpAny _ _ (newExc (.type "StopIteration") [] >>= _) _ _ _;apply zE0 ?_;simp only[newExc,newTuple];apply zE0 (zM1 ?_ (by size_fits));apply zE0 (m:=firstArgMember _ _) (jB0 (a:=Value.none) (by first | rfl | (simp only[firstArgMember];rfl)) ?_);apply zM1 ?_ (by size_fits);simp only[raiseNew];apply zE0 (wpAny_handled ?_)
 first | rw[show A.in1.handled=none from hh] | rw[hh]
 apply zE0 (zI0 (wpAny_throw ?_));exact q _ _ (((Heap.SameBut.update ..).extBut.push _).push _) %[_,qE0 _ rfl|1]
def BJ{e it t:Addr}{j:Nat}{i:Int}{old:Value}{items:Array Value}{Q:Option Value->Shared->Prop}(hh:A.handled=none)(he:IsEnum s.heap e it i old)(hit:s.heap.IsTupleIter it t j)(ht:s.heap.IsTuple t items)(hx:items[j]?=none)
 (q:∀h',Heap.ExtBut it s.heap h'->Q none { s with heap:=h' }):‹w.A› (pyNext (.ref e)) Q E s:=by
 let hT:s.TypeIs (.ref e) "enumerate":=%[_,he|1]
 unfold pyNext;apply zE0 (wV1 (zS1 (name:=Str.ofString "__next__") hT F.slot_enumerate_next (qF1 F.slot_enumerate_next hT F.entry_enumerate_next ?_ (F.args_enumerate_next_1 _))));show wpAny _ _ (field (.ref e) 2 >>= _) _ _ _;apply zE0 (qD1 he rfl (x:=.ref it) rfl ?_);apply zE0 (Cp hh hit ht hx λh' x he' hx'=>?_);erw[o,ho,hc]at hx';apply zE0 (wZ1 (T:="StopIteration") (b:=true) %[o,ho|hc] isSubtype_stop ?_);exact zI0 (q h' he')
end
def BL{prog:Program}{w:World}{A:Around}(hh:A.handled=none)(it l:Addr)(hne:l≠it)(items:Array Value):Draws prog w A it [it,l] items.size (λi v=>items[i]?=some v) (λi h=>h.IsTupleIter it l i/\h.IsTuple l items) where
 live:=λ_ _ st=>let⟨o,ho,_⟩:=st.1;%[o|ho]
 frame:=λ_ _ _ st k=>%[st.1.at λo e=>k it #[2] o e|st.2.at λo e=>k l #[2] o e]
 item:=λi s Q E hi st q=>by
  apply Fh st.1 st.2 (x:=items[i]) (by simp [hi]) λh' a b=>?_
  exact q _ h' s.toks (by simp [hi]) %[a|st.2.extBut b.extBut hne] b
 done:=λs Q E st q=>Cp hh st.1 st.2 #[2] q
open AutoSeq1 (wpAny_loadPart') in
set_option maxHeartbeats 1000000 in
def wF(l:Addr)(items:Array Value)(n:Nat)(dct:Option Addr)(sl:Array (Option Value)):
 Meets (Builtin.«enumerate.__new__» %[[.type "enumerate",.ref l]|[]]) (λ_ R s=>s.heap.get? l=some { cls:=.type "tuple",dict:=dct,data:=.seq items n,slots:=sl }/\
  R (.ok (.ret (.ref (s.heap.push { cls:=.type "tuple_iterator",data:=.fields #[.ref l,.int 0 0] }).objs.size)))
   { s with heap:=(s.heap.push { cls:=.type "tuple_iterator",data:=.fields #[.ref l,.int 0 0] }).push { cls:=.type "enumerate",data:=.fields #[.none,.bool false,.ref ‹s›,rawInt 0,.none,.none] } }):=
 .of_wp λprog w A R s h=>by
  erw[hp,g,d,tk,os]at s;erw[hl,h]at h;let hsub:=sub_enumerate;let hL:Heap.IsTuple (Shared.heap %[hp,g,d,tk|os]) l items:=⟨_,hl,rfl,n,rfl⟩
  wp_walk using wpAny_loadPart' hl
  apply wpAny_stack_any λst=>zI0 ?_
  split
  . rename_i c _ _ _ _ _;cases(c==Value.type "enumerate")
    . wp_walk using wpAny_loadPart' hl,jE1 hL
      erw[0,h]
    . wp_walk using wpAny_loadPart' hl,jE1 hL
      erw[0,h]
  . wp_walk using wpAny_loadPart' hl,jE1 hL
    erw[0,h]
section
variable {prog:Program}{w:World}{A:Around}{E:#[6]}{s:Shared}
def yY{l:Addr}{items:Array Value}{Q:#[6]}(hL:s.heap.IsTuple l items)
 (q:∀h',IsEnum h' (‹s›+1) ‹s› 0 .none->h'.IsTupleIter ‹s› l 0->(∀b o,s.heap.get? b=some o->h'.get? b=some o)->Q (.ref (‹s›+1)) { s with heap:=h' }):
 ‹w.A› (call (.type "enumerate") [.ref l]) Q E s:=by
 erw[%[c,dct,dt|sl],hl,hc,n,hd]at hL
 replace hc:c=.type "tuple":=hc
 replace hd:dt=.seq items n:=hd
 subst hc hd;apply callType_new F.called_enumerate ⋯ (F.typeCall_enumerate_1 _) (F.newCall_enumerate_1 _) (λobj=>F.args_object_init_2 obj _) F.entry_enumerate_new (wF l items n dct sl) %[hl|6];let hz:(s.heap.push { cls:=.type "tuple_iterator",data:=.fields #[.ref l,.int 0 0] }).objs.size=‹s›+1:=jC0 ..;show _/\_;rw[hz];let he:IsEnum ((s.heap.push { cls:=.type "tuple_iterator",data:=.fields #[.ref l,.int 0 0] }).push { cls:=.type "enumerate",data:=.fields #[.none,.bool false,.ref ‹s›,rawInt 0,.none,.none] }) (‹s›+1) ‹s› 0 .none:=by
  have:=qE0 (s.heap.push { cls:=.type "tuple_iterator",data:=.fields #[.ref l,.int 0 0] }) (o:={ cls:=.type "enumerate",data:=.fields #[.none,.bool false,.ref ‹s›,rawInt 0,.none,.none] }) rfl
  rw[hz]at this;exact this
 erw[%[_,he|1],q _ he ⟨_,zS0 _ (qE0 _ rfl),rfl,rfl⟩ λb o x=>zS0 _ (zS0 _ x)]
end
def Fc(K:W.Frag)(a:Addr):It:=
 ⟨λi H=>∃xs x,SqT K H a xs/\xs[i]?=some x,λi H y H'=>∃t,y=.ref t/\H t=none/\∀xs x,SqT K H a xs->xs[i]?=some x->H'=upd H t (.tup [.int i,x]),λi H=>∃xs,SqT K H a xs/\xs.length<=i⟩
def xD{K:W.Frag}{elts:List Expr}{k:Nat}{pos:Pos}(a e it:Addr)(hei:e≠it)(hai:a≠it)(hae:a≠e):
 Turn P w K (.Tuple elts k pos) (Fc K a) [e,it] e (λi h=>(∃old,IsEnum h e it i old)/\h.IsTupleIter it a i) where
 mem:=by simp
 obj:=λi h st b hb=>by
  erw[%[old|he],o,e2,c,d]at st;rcases Nf hb with z | z
  . subst z;erw[_,he,λv z=>nomatch z]
  . let z':=Nd z;subst z';erw[o,e2,λv z=>by rw[d]at z;cases z]
 keep:=λi h h' st k=>by
  erw[%[old|he],hit]at st;erw[%[old|k e #[2] _ he],hit.at λo x=>k it #[2] o x]
 item:=by
  exists 5;erw[xs,x,hq,hx]at hg;let%[its,rv,p|hz]:=I.tuple hq;let%[u,hu|ru]:=rv.get hx;erw[%[old|he],hit]at st;let hi:i<its.toArray.size:=by
   rw[zV0];exact(zY0 hu).1
  apply wpAny_pyNext_enum_itemD (BL (prog:=X.prog) (w:=X.w) (A:=X.A.in1) (I.ok.hd hc) it a hai its.toArray) he %[hit|p] hi hei (by simp [hei,Ne.symm hae]) λy h1 tk hy ho hst1 hT hsz hk=>?_
  let ey:y=u:=by
   let h1:its.toArray[i]?=some u:=#[hu,0]
   rw[h1]at hy;exact(zO0 hy).symm
  subst ey;erw[0,wpAny_letOwnedTupleGo_enum ho λh2 he2 hs2=>?_];let elt:e<‹s›:=zQ0 he;let hT2:h2.get? ‹s›=some { cls:=.type "tuple",data:=.seq #[.int i tk,y] }:=(hs2.2 _ (Ne.symm (qA0 elt))).trans hT;let I2:#[8] (upd H ‹s› (.tup [.int i,x])) { s with heap:=h2,toks:=tk+1 }:=by
   apply I.turnedNew (ch:=[e,it]) (λb ob hb eb=>?_) hf (zH0 _) %[by show 2<=sizeLine;decide,[.int i tk,y],.cons %[|0] (.cons ru .nil),%[_,hT2,1|0],_,hT2|1];let b1:b≠e:=λz=>hb (by simp [z])
   let b2:b≠it:=λz=>hb (by simp [z])
   exact(hs2.2 b b1).trans (hk b ob b1 b2 eb)
  erw[.ref ‹s›,_,I2,1,%[0,I.hok.fresh (zH0 _)|λys z hy hyi=>?_],%[%[y|by simpa using he2]|hst1.1.at λo z=>(hs2.2 it (Ne.symm hei)).trans z],λb hb=>?_]
  . let e1:=I.tuple_inj hy hq;subst e1;rw[hx]at hyi;cases hyi;rfl
  . let z:=hf b hb;let Nb:b<‹s›:=by
     rcases Nf hb with y | y
     . rw[y];exact elt
     . rw[Nd y];erw[o,e2,_]at hit;exact zQ0 e2
    rw[aE (qA0 Nb)];exact z.1
 done:=by
  exists 5;erw[xs,hq,hx]at hg;let%[its,rv,p|hz]:=I.tuple hq;erw[%[old|he],hit]at st;let hl:=rv.length;exact BJ (I.ok.hd hc) he hit p (Array.getElem?_eq_none (by simp;omega)) λh' eb=>%[1|I.turnedL (t':=s.toks) (ch:=[e,it]) (λb o hb eo=>eb b o (λz=>hb (by simp [z])) eo) hf]
 self:=λ_ _ _ _ _ st h=>by
  erw[%[old|he],_]at st;exact jV0 he h
section
variable {X:Cx}{elts:List Expr}{k:Nat}{tpos:Pos}
instance ZiEnumT(K:W.Frag)(R:(It->Hp->Prop))(x:V)(H1:Hp):∀a,x=.ref a->(∃xs,SqT K H1 a xs)->R (Fc K a) H1:=0
def II(K:W.Frag)(tl:TE):TI:=λσ H R=>tl σ H λx H1=>ZiEnumT K R x H1
def vX{p pos:Pos}(hg:Gl X "enumerate")(hm:X.mg "enumerate"=none)(hl:PE X l tl)(hs:starEach [l] X.env=[(false,eval l X.env)]:=by rfl):
 PI X (.Tuple elts k tpos) (.Call (.Name "enumerate" p) [l] [] pos) (II X.K tl):=by
 exists 4,R,I,h;apply Call_ (iO I hg hm boot_enumerate (zO1 ?_ hs rfl));rw[hs];show wpAny _ _ (spliced ((false,eval l X.env)::backTo pos (starEach [] X.env))) _ _ s;apply qK1 (thn (hl M5 s σ H _ I h) λu s1 ⟨x,H1,I1,r1,a,ex,⟨xs,hq⟩,q⟩=>?_);subst ex;cases r1;let%[its,rv,p|hz]:=I1.tuple hq;let alt:=p.lt;apply qY1 ?_;apply yY p λh' he hit hk=>?_
 apply jV0 he ?_;let I2:#[8] H1 { s1 with heap:=h' }:=I1.kept (t':=s1.toks) hk;erw[‹s1›+1,[‹s1›+1,‹s1›],_,_,H1,1,I2,xD a _ _ (wK1 (qM1 _)) (qA0 alt) (qA0 (jV1 alt)),%[%[_|he]|hit],λb hb=>?_,q];rcases Nf hb with z | z
 . rw[z];exact I1.fpOk (qM0 _) (I1.hok.fresh (qM0 _))
 . rw[Nd z];exact I1.fpOk (zH0 _) (I1.hok.fresh (zH0 _))
end
def tK{K:W.Frag}{xs:List V}{g:TG}{tb:TS}{D:Ends}{σ:St}{H:Hp}(Pv:Nat->St->Hp->Prop)(h0:Pv 0 σ H)(hl:∀i σ H,i<=xs.length->Pv i σ H->SqT K H a xs)
 (hs:∀i x σ H t,xs[i]?=some x->Pv i σ H->H t=none->g (.ref t) σ (upd H t (.tup [.int i,x])) λσ2 H2=>tb { D with nx:=Pv (i+1),ct:=Pv (i+1),bk:=D.nx } σ2 H2)(hd:∀ σ H,Pv xs.length σ H->D.nx σ H):
 ∃ W:Nat->Nat->St->Hp->Prop,(∃m,W 0 m σ H)/\∀i m σ H,W i m σ H ->
  ((Fc K a).stop i H/\D.nx σ H)∨((Fc K a).go i H/\∃N:St->Hp->Prop,(∀ σ' H',N σ' H'->∃m',m'<m/\W (i+1) m' σ' H')/\∀x H',(Fc K a).yld i H x H'->g x σ H' λσ2 H2=>tb { D with nx:=N,ct:=N,bk:=D.nx } σ2 H2):=by
 erw[λi m σ H=>m=xs.length-i/\i<=xs.length/\Pv i σ H,%[xs.length,by simp,zP0 _|h0],6];rintro i m σ H ⟨rfl,hi,p⟩;let q:=hl i σ H hi p
 by_cases Nb:i<xs.length
 . refine .inr %[%[xs,xs[i],q|by simp [Nb]],Pv (i+1),λσ' H' p'=>%[xs.length-(i+1),3,1,Nb|p']|λx H' y=>?_];erw[t,1,ht,e]at y;let e':=e xs xs[i] q (by simp [Nb]);subst e';exact hs i xs[i] σ H t (by simp [Nb]) p ht
 . let e:i=xs.length:=#[0]
   subst e;exact .inl %[%[xs,q|zH0 _]|hd σ H p]
def ItV(K:W.Frag)(a:Addr)(xs:List V):It:=%[λi H=>SqL K H a xs/\i<xs.length,λi H y H'=>H'=H/\xs.reverse[i]?=some y|λi _=>xs.length<=i]
def zY{K:W.Frag}(a it:Addr)(xs:List V):Turn P w K tg (ItV K a xs) [it] it (λi h=>i<=xs.length/\h.IsRevIter it a ((xs.length:Int)-1-(i:Int))) where
 mem:=by simp
 obj:=λi h st b hb=>by
  let e:b=it:=#[hb,0]
  subst e;erw[_,o,e,c,d]at st;erw[o,e,λv z=>by rw[d]at z;cases z]
 keep:=λi h h' st k=>%[st.1|st.2.at λo e=>k it #[2] o e]
 item:=by
  exists 5;erw[hq,hi]at hg;let%[its,rv,p|hz]:=I.list hq;let hj:xs.length-1-i<xs.length:=#[0]
  let hx:xs[xs.length-1-i]?=some xs[xs.length-1-i]:=zN0 hj;let%[u,hu|ru]:=rv.get hx;let%[f0,f1,f2,f3,f4|f5]:=hf it #[2];erw[_,hit]at st;let e1:((xs.length:Int)-1-(i:Int))=((xs.length-1-i:Nat):Int):=#[0]
  rw[e1]at hit;apply wpAny_pyNext_rev_item hit p.isList (x:=u) #[hu,0] λh' st' sb=>?_
  let I1:#[8] H { s with heap:=h' }:=I.turned (t':=s.toks) (λb o hb e=>(sb.2 b hb).trans e) f0 f1 f3 f4 f5;let e2:((xs.length-1-i:Nat):Int)-1=(xs.length:Int)-1-((i+1:Nat):Int):=#[0]
  rw[e2]at st';let%[o,e,c|d]:=id st';erw[u,1,wN (s:={ s with heap:=h' }) e c d ⋯ ⟨xs[xs.length-1-i],H,I1,ru,⟨rfl,?_⟩,⟨#[0],st'⟩,λb hb=>(hf b hb).1⟩];rw[qT1 hi,hx]
 done:=by
  exists 5;let hg:xs.length<=i:=hg;let%[f0,f1,f2,f3,f4|f5]:=hf it #[2];erw[hi,hit]at st;let e1:(xs.length:Int)-1-(i:Int)=-1:=#[0]
  rw[e1]at hit;exact wpAny_pyNext_rev_end (I.ok.hd hc) hit λh' eb=>%[1|I.turned (t':=s.toks) (λb o hb e=>eb b o hb e) f0 f1 f3 f4 f5]
 self:=λ_ _ _ _ _ st h=>wpAny_pyIter_revIter st.2 h
def EB{K:W.Frag}{xs:List V}{g:TG}{tb:TS}{D:Ends}{σ:St}{H:Hp}(Pv:Nat->St->Hp->Prop)(h0:Pv 0 σ H)(hl:∀i σ H,i<=xs.length->Pv i σ H->SqL K H a xs)
 (hs:∀i x σ H,i<xs.length->xs.reverse[i]?=some x->Pv i σ H->g x σ H λσ2 H2=>tb { D with nx:=Pv (i+1),ct:=Pv (i+1),bk:=D.nx } σ2 H2)(hd:∀ σ H,Pv xs.length σ H->D.nx σ H):
 ∃ W:Nat->Nat->St->Hp->Prop,(∃m,W 0 m σ H)/\∀i m σ H,W i m σ H ->
  ((ItV K a xs).stop i H/\D.nx σ H)∨((ItV K a xs).go i H/\∃N:St->Hp->Prop,(∀ σ' H',N σ' H'->∃m',m'<m/\W (i+1) m' σ' H')/\∀x H',(ItV K a xs).yld i H x H'->g x σ H' λσ2 H2=>tb { D with nx:=N,ct:=N,bk:=D.nx } σ2 H2):=by
 erw[λi m σ H=>m=xs.length-i/\i<=xs.length/\Pv i σ H,%[xs.length,by simp,zP0 _|h0],6];rintro i m σ H ⟨rfl,hi,p⟩;let q:=hl i σ H hi p
 by_cases Nb:i<xs.length
 . refine .inr %[%[q|Nb],Pv (i+1),λσ' H' p'=>%[xs.length-(i+1),3,1,Nb|p']|λx H' y=>?_];erw[e,ex]at y;subst e;exact hs i x σ _ Nb ex p
 . let e:i=xs.length:=#[0]
   subst e;exact .inl %[zH0 _|hd σ H p]
def tE{X:Cx}(K:W.Frag)(h:X.K=K:=by rfl):MtR X "list.count" (rCountL K):=by subst h;exact wA
section
variable {X:Cx}{o e:Expr}{es:List Expr}{to ta:TE}{t:TA}{T id:String}{name f:Str}{r:V->List V->Hp->VK->Prop}{Ng Nc pos:Pos}
def DE(K:W.Frag)(pa:PlainAttrs T)(slot:Slot T name id)(hty:typeOf (.builtin id)=pure (.type "method_descriptor"))(hm:MtR X id r)(ho:PE X o to)(ha:PA X (e::es) t)(hK:X.K=K:=by rfl)
 (hbase:attributeBase o name X.env (eval o X.env)=eval o X.env:=by rfl)
 (hfew:((backTo Nc (starEach (e::es) X.env)).all (λx=>!x.1)&&(backToKw Nc (keywordEach [] X.env)).all (λx=>x.1.isSome)&&decide ((e::es).length+([]:List Keyword).length+(if([]:List Keyword).isEmpty then 0 else 1)<30))=true:=by rfl)
 (hline:(Ng.endLine==Nc.line)=true:=by rfl)(hs:starEach (e::es) X.env=(false,eval e X.env)::starEach es X.env:=by rfl)(hplain:(backTo Nc (starEach es X.env)).any (·.1)=false:=by rfl):
 PE X (.Call (.Attribute o name Ng) (e::es) [] Nc) (tBM K T r to t):=by subst hK;exact dC pa slot hty hm ho ha hbase hfew hline hs hplain
def lp(K:W.Frag)(he:PE X e ta)(hK:X.K=K:=by rfl)(hb:attributeBase e f X.env (eval e X.env)=eval e X.env:=by rfl):PE X (.Attribute e f pos) (tFld K ta f):=by subst hK;exact aF he hb
end
@[reducible] def jQ (X:Cx) (x:Str) (N:List Str) (scope:Scope) (cl:List (Str×Addr)) (s:Shared) (H:Hp) (fp:List Addr):Cx where
 prog:=X.prog
 w:=X.w
 K:=X.K
 mg:=X.mg
 base:=X.base
 A:=X.A
 N:=x::N
 s₀:=s
 H₀:=H
 env:=compEnvC scope ((x,‹s›+1)::cl) ‹s› X.env
 outer:=X.stack
 stack:=X.stack
 ex:=fp
 fn:=λy=>y==x
 calm:=X.calm
 pn:=[]
 xe:=λ_ _=>False
structure CompScopeO(X:Cx)(x:Str)(N:List Str)(ix:List Nat)(scope:Scope)(cl:List (Str×Addr)):Prop where
 clos:closureFor scope X.env=pure cl
 lay:∀(n:Addr) (h:Heap),cellsFrom n scope.names cl=(x,n)::cl/\pushCells h scope.names=h.push { cls:=.type "cell",data:=.cell none }
 kind:scope.kind=.function
 names:∀y∈scope.names,y.2=.local->scope.names.lookup y.1=some .local
 own:(relabel scope X.env).names.lookup x=some .cell
 nd:(x::N).Nodup
 sub:∀p∈cl,X.env.cells.lookup p.1=some p.2
 has:((relabel scope X.env).names.all λp=>!(p.2==.cell||p.2==.free)||(p.1==x||(cl.lookup p.1).isSome))=true
 outs:∀(j:Nat)(y:Str),N[j]?=some y->(relabel scope X.env).names.lookup y=some .cell/\∃k c,ix[j]?=some k/\X.N[k]?=some y/\cl.lookup y=some c/\X.env.scope.names.lookup y=some .cell
section
variable {X:Cx}{M5:#[7]}{σ:St}{x:Str}{N:List Str}{ix:List Nat}{scope:Scope}{cl:List (Str×Addr)}{fp:List Addr}{H3:Hp}{s3:Shared}
def CompScopeO.cells(S:CompScopeO X x N ix scope cl){y:Str}{c:Addr}(h:cl.lookup y=some c):X.env.cells.lookup y=some c:=S.sub _ (zX1 h)
def eX{x y:Str}{n c:Addr}{cl:List (Str×Addr)}(h:((x,n)::cl).lookup y=some c):(y=x/\c=n)∨(y≠x/\cl.lookup y=some c):=by
 by_cases e:y=x
 . subst e
   simp [List.lookup]at h
   exact .inl %[1|h.symm]
 . let e':(y==x)=false:=#[e,0]
   simp only[List.lookup,e']at h;exact .inr %[e|h]
def kU{x y:Str}{n:Addr}{cl:List (Str×Addr)}(e:y≠x):((x,n)::cl).lookup y=cl.lookup y:=by
 let e':(y==x)=false:=#[e,0]
 simp only[List.lookup,e']
def xg(S:CompScopeO X x N ix scope cl)(I3:#[8] H3 s3)(hf:∀b∈fp,iQ X M5 H3 b)(Nb:∀b∈fp,b<‹s3›):(jQ X x N scope cl s3 H3 fp).Ok where
 mod:=I3.ok.mod
 kind:=S.kind
 glob:=I3.ok.glob
 blt:=I3.ok.blt
 above:=zH0 _
 inj:=λy z c h1 h2=>by
  let lt:∀y c,cl.lookup y=some c->c<‹s3›:=λy c e=>by
   let%[v|q]:=I3.cell y c (S.cells e);exact q.lt
  rcases eX h1 with⟨e1,c1⟩ | ⟨e1,l1⟩ <;> rcases eX h2 with⟨e2,c2⟩ | ⟨e2,l2⟩
  . rw[e1,e2]
  . exact absurd (lt z c l2) (by rw[c1];exact Nat.not_lt.mpr (qM0 _))
  . exact absurd (lt y c l1) (by rw[c2];exact Nat.not_lt.mpr (qM0 _))
  . exact I3.ok.inj y z c (S.cells l1) (S.cells l2)
 has:=λy hy=>by
  by_cases e:y=x
  . subst e;erw[‹s3›+1,by show((y,‹s3›+1)::cl).lookup y=_;simp [List.lookup]]
  let q:=List.all_eq_true.mp S.has;let hy:(relabel scope X.env).names.lookup y=some .cell∨(relabel scope X.env).names.lookup y=some .free:=hy;let z:∀k:NameKind,(k==.cell||k==.free)=true->(relabel scope X.env).names.lookup y=some k->∃c,((x,‹s3›+1)::cl).lookup y=some c:=λk hk e2=>by
   let r:=q _ (zX1 e2);let ey:(y==x)=false:=#[e,0]
   rw[hk]at r;rw[kU e];let r':(cl.lookup y).isSome=true:=by simpa [ey]using r
   exact Option.isSome_iff_exists.mp r'
  rcases hy with e | e
  . exact z _ (by rfl) e
  . exact z _ (by rfl) e
 cab:=λy c h e=>by
  let ey:y=x:=by simpa using(show(y==x)=true from h)
  rcases eX e with⟨_,c1⟩ | ⟨n,_⟩
  . rw[c1];exact qM0 _
  . exact absurd ey n
 hd:=I3.ok.hd
 frames:=I3.ok.frames
 stk:=.inl rfl
 exf:=λb hb=>⟨qA0 (Nb b hb),λy c e=>by
  rcases eX e with⟨_,c1⟩ | ⟨_,l⟩
  . rw[c1];exact wK1 (jV1 (Nb b hb))
  . exact(hf b hb).2.2.2.2.1 y c (S.cells l)⟩
 bs:=λb o e=>I3.bs b o e
 bsz:=zT0 I3.ok.bsz I3.sz
 noex:=λb o e hb=>by
  rcases(hf b hb).2.2.2.1 with z | z
  . exact I3.ok.noex b o e z
  . exact absurd (qN0 (zQ0 e) (zT0 I3.ok.bsz z)) (qS0 _)
 exfs:=λb hb z=>by
  rcases Nf (I3.stkSub b z)with e | e
  . exact(hf b hb).2.1 e
  . exact(hf b hb).2.2.1 e
 funs:=I3.stack
 frf:=I3.stkFree
def xf(S:CompScopeO X x N ix scope cl)(I3:#[8] H3 s3)(hf:∀b∈fp,iQ X M5 H3 b)(Nb:∀b∈fp,b<‹s3›)(hix:ix.length=N.length){h1:Heap}{t':Nat}{m:#[9]}
 (hn:h1.Ns ‹s3› m)(hc:h1.IsCell (‹s3›+1) none)(hk:∀b o,s3.heap.get? b=some o->h1.get? b=some o):Inv (jQ X x N scope cl s3 H3 fp) [] (none::outs ix σ) H3 { s3 with heap:=h1,toks:=t' } where
 ok:=xg S I3 hf Nb
 os:=rfl
 bare:=I3.bare
 base:=Un.kept hk
 loc:=by
  erw[m,hn,λi y v h1' h2 h3=>?_];cases i with
  |zero=>
    let h2':(some (none:Option V))=some (some v):=h2;cases h2'
  |succ j=>
    let h1'':N[j]?=some y:=h1';let h2':(outs ix σ)[j]?=some (some v):=h2;let nyx:y≠x:=λz=>(List.nodup_cons.mp S.nd).1 (z▸qD0 h1'')
    let%[hr,k,c,e1,e2,e3|e4]:=S.outs j y h1'';unfold outs at h2';rw[zW0,e1]at h2';let h2'':(σ[k]?).join=some v:=zO0 h2';let e5:σ[k]?=some (some v):=by
     cases q:σ[k]? with
     |none=>rw[q]at h2'';cases h2''
     |some o=>rw[q]at h2'';exact congrArg some h2''
    erw[m0,_,hl]at I3.loc;let%[u,r|l]:=hl k y v e2 e5 (.inr (.inl e4));erw[u,r,.inr %[.inl hr,c,(kU nyx).trans e3|6]];rcases l with⟨kk,_⟩ | ⟨_,c',ec,z⟩
    . let kk':X.env.scope.names.lookup y=some .local:=kk;rw[e4]at kk';cases kk'
    . rw[S.cells e3]at ec;cases ec;erw[o,ho,hd]at z;erw[o,hk _ _ ho,hd]
 cell:=λy c e=>by
  rcases eX e with⟨_,c1⟩ | ⟨_,l⟩
  . rw[c1];erw[none,hc]
  . let%[v,o,ho|hd]:=I3.cell y c (S.cells l);erw[v,o,hk _ _ ho,hd]
 free:=I3.hok.fresh (zH0 _)
 freeC:=λy c e=>by
  rcases eX e with⟨_,c1⟩ | ⟨_,l⟩
  . rw[c1];exact I3.hok.fresh (qM0 _)
  . exact I3.freeC y c (S.cells l)
 pin:=λp hp=>absurd (show p∈([]:#[7])from hp) #[2]
 hok:=I3.hok.kept hk
 len:=by
  show(none::outs ix σ).length=(x::N).length;rw[zR0,zR0];unfold outs;rw[zF0,hix]
def yV(I3:#[8] H3 s3)(hf:∀b∈fp,iQ X M5 H3 b){σ':St}{h'':Heap}(J:Inv (jQ X x N scope cl s3 H3 fp) [] σ' H' s')(hb:Heap.SameBut ‹s3› s'.heap h''):
 #[8] H' { s' with heap:=h'' }:=by
 let ne:∀b o,s3.heap.get? b=some o->b≠‹s3›:=λb o e=>qA0 (zQ0 e)
 let B:Un (frs X.stack) fp H3 H' s3.heap s'.heap:=J.base;apply I3.call' (s':={ s' with heap:=h'' }) (ch:=fp) J.os ⟨λb o e n h1 h2=>(hb.2 b (ne b o e)).trans (B.keep b o e n h1 h2),λb o e n h1 h2=>?_,B.free,λb o e h2=>?_,B.tups,B.frzs,B.tbls⟩ (λb ob e=>?_) J.bare (λb z=>?_)
 . let%[sl|q]:=B.slot b o e n h1 h2;erw[sl,(hb.2 b (ne b o e)).trans q]
 . let%[o'|q]:=B.there b o e h2;erw[o',(hb.2 b (ne b o e)).trans q]
 . let fr:H' ‹s3›=none:=J.free;refine(J.hok b ob e).stay (λc w' hc q=>(hb.2 c ?_).trans q) (λ_ q=>q) λ_ _ q=>q
   rintro rfl;rcases hc with rfl | hc
   . rw[fr]at e;cases e
   . rw[fr]at hc;cases hc
 . let%[_,h2,_,h4,h5|h6]:=hf b z;erw[h4,h2,h5,h6]
end
section
variable {M:Model}{A:Around}{E:#[6]}{s:Shared}
def DY{scope:Scope}{globals:Addr}{cl:List (Str×Addr)}{x qual:Str}{env:Env}{Q:Env->Shared->Prop}(lay:∀(n:Addr) (h:Heap),cellsFrom n scope.names cl=(x,n)::cl/\pushCells h scope.names=h.push { cls:=.type "cell",data:=.cell none })
 (q:∀h',h'.Ns ‹s› (λ_=>none)->h'.IsCell (‹s›+1) none->(∀b o,s.heap.get? b=some o->h'.get? b=some o) ->
  Q { scope:=scope,locals:=‹s›,globals:=globals,cells:=(x,‹s›+1)::cl,qual:=qual,func:=none,code:=env.code,frame:=env.frame,builtins:=env.builtins } { s with heap:=h' }) :
 wpAny M A (newFunctionEnv scope globals cl [] qual none .none (some env)) Q E s:=by
 simp only[newFunctionEnv,Option.isSome_some,if_true];apply zE0 (wpAny_alloc ?_);apply zE0 (wpAny_layCells _ (λname kind cells=>by cases hkc:kind==NameKind.cell <;> simp [hkc]) _ _ _ _ ?_);let hz:(s.heap.push { cls:=.type "dict",data:=.dict #[] }).objs.size=‹s›+1:=jC0 ..;rw[show({ s with heap:=s.heap.push { cls:=.type "dict",data:=.dict #[] } }:Shared).heap.objs.size=‹s›+1 from hz,(lay _ s.heap).1];show wpAny M A (do let _ ←(forIn [] PUnit.unit λ_ _=>_:Sem PUnit);pure _) Q E _;rw[List.forIn_nil];apply zE0 (zI0 (zI0 ?_));rw[(lay 0 _).2];apply q _ ((Heap.Ns.new s.heap (.type "dict")).keeps λb o e=>zS0 _ e) ?_ λb o e=>zS0 _ (zS0 _ e)
 rw[←hz];erw[_,qE0 _ rfl,1]
end
section
variable {X:Cx}{x:Str}{N:List Str}{ix:List Nat}{scope:Scope}{cl:List (Str×Addr)}{elt iter:Expr}{ifs:List Expr}{px pos:Pos}{wi:TI}{tb:TBl}
def BS(hc:X.calm=true)(S:CompScopeO X x N ix scope cl)(hix:ix.length=N.length)(hb:∀s3 H3 fp,PB (jQ X x N scope cl s3 H3 fp) ifs elt tb)
 {σ:St}{Q:VK}{fp:List Addr}{RR:Value->Addr->Result->Shared->Prop}{E:#[6]}
 (I2:#[8] H2 s2)(T:Turn X.prog X.w X.K (.Name x px) J fp it tn)(st2:tn 0 s2.heap)(f2:∀b∈fp,iQ X M5 H2 b)
 (h:∀D,H2 D=none->∃W:Nat->Nat->Hp->Prop,(∃m,W 0 m (upd H2 D (.lst [])))/\∀i m H3,W i m H3 ->
  (J.stop i H3/\Q (.ref D) H3)∨(J.go i H3/\∀y H4,J.yld i H3 y H4->tb (some y::outs ix σ) H4 (λH5=>∃m',m'<m/\W (i+1) m' H5)
   λz H5=>∃ys,H5 D=some (.lst ys)/\ys.length<sizeLine/\∃m',m'<m/\W (i+1) m' (upd H5 D (.lst (ys++[z])))))
 (hRR:∀(D C:Addr)(H':Hp)(s':Shared)(m:#[9]),s'.heap.Ns C m->Apart X M5 H' C->#[8] H' s'->Q (.ref D) H'->RR (.ref D) C (.ok .next) s') :
 ‹X.w› (newList []) (λacc s3=>‹X.w› (newFunctionEnv scope X.env.globals cl [] X.env.qual none .none (some X.env)) (λcenv s4=>
  codeAny (model X.prog X.w) X.A (.compStart (.ListComp elt [%[.Name x px,iter,ifs|(0)]] scope pos) 0 (.ref it) acc { cenv with scope:=relabel scope X.env }) (RR acc cenv.locals) s4) E s3) E s2:=by
 apply zM1 (DY S.lay λh1 hns1 hcl1 up1=>?_)
 dsimp only at hns1 hcl1 up1 ⊢
 let I3:#[8] (upd H2 ‹s2› (.lst [])) { s2 with heap:=s2.heap.push { cls:=.type "list",dict:=none,data:=.seq ([]:List Value).toArray } }:=I2.lnew (its:=[]) (ys:=[]) (t':=s2.toks) .nil (zP0 _);let hD:H2 ‹s2›=none:=I2.fresh;let%[W,%[m0|w0]|turn]:=h ‹s2› hD;let hltF:∀b∈fp,b<‹s2›:=λb hb=>by
  let%[o,e|_]:=T.obj 0 _ st2 b hb;exact zQ0 e
 generalize hs3:({ s2 with heap:=s2.heap.push { cls:=.type "list",dict:=none,data:=.seq ([]:List Value).toArray } }:Shared)=s3 at I3;let eh:s2.heap.push { cls:=.type "list",dict:=none,data:=.seq ([]:List Value).toArray }=s3.heap:=by rw[←hs3]
 let et:s2.toks=s3.toks:=by rw[←hs3]
 rw[eh]at hns1 hcl1 up1 ⊢;let sz3:‹s3›=‹s2›+1:=by rw[←eh,jC0]
 let hlt3:∀b∈fp,b<‹s3›:=λb hb=>qN0 (hltF b hb) (by rw[sz3];exact qM0 _)
 let f3:∀b∈fp,iQ X M5 (upd H2 ‹s2› (.lst [])) b:=λb hb=>by
  let%[q1|q2]:=f2 b hb;erw[by rw[aE (qA0 (hltF b hb))];exact q1,q2]
 let up:∀b o,s3.heap.get? b=some o->h1.get? b=some o:=up1
 let old:∀b o,s2.heap.get? b=some o->h1.get? b=some o:=λb o e=>up b o (by rw[←eh];exact zS0 _ e)
 let es:({ s2 with heap:=h1 }:Shared)={ s3 with heap:=h1,toks:=s3.toks }:=by rw[←hs3]
 rw [es];let I4:Inv (jQ X x N scope cl s3 (upd H2 ‹s2› (.lst [])) fp) [] (none::outs ix σ) (upd H2 ‹s2› (.lst [])) { s3 with heap:=h1,toks:=s3.toks }:=
  xf S I3 f3 hlt3 hix hns1 hcl1 up
 let st4:tn 0 h1:=T.keep 0 _ _ st2 λb _ o e=>old b o e
 let loop:codeAny (model X.prog X.w) X.A (.compLoop (.ListComp elt [%[.Name x px,iter,ifs|(0)]] scope pos) 0 (.ref it) (.ref ‹s2›) (compEnvC scope ((x,‹s3›+1)::cl) ‹s3› X.env)) (RR (.ref ‹s2›) ‹s3›)
  { s3 with heap:=h1,toks:=s3.toks }:=by
  let k:=xg S I3 f3 hlt3;apply oP (Y:=jQ X x N scope cl s3 (upd H2 ‹s2› (.lst [])) fp) (Pf:=λσ'=>∃v0,σ'=v0::outs ix σ) hc (λ_ _ z=>z) T (aU (i:=0) S.nd rfl (.inr S.own) (.inl (by show(x==x)=true;simp))) (hb _ _ _) (λhn b hb=>%[hn b hb,(k.exf b hb).1,k.exfs b hb,.inl hb,(k.exf b hb).2|λp hp=>absurd (show p∈([]:#[7])from hp) #[2]]) (λi m H5 w5=>(turn i m H5 w5).imp (fun⟨stop,qn⟩=>%[stop|λσ' s6 _ I6=>?_]) (fun⟨go,step⟩=>⟨go,λy H3 y7 σ' ⟨v0,e⟩=>by
   subst e;erw[%[|0],step y H3 y7]⟩)) ⟨none,rfl⟩ I4 st4 (λb hb=>(f3 b hb).1) w0
  erw[m6,hn6,_]at I6.loc;exact hRR _ _ H5 s6 m6 hn6 ⟨I6.free,Ne.symm (qA0 I3.lt),I3.sz,λy c e z=>by
   let%[v|q]:=I3.cell y c e;exact absurd q.lt (by rw[z];exact qS0 _),λp hp z=>absurd (zQ0 (I3.pin p hp).1) (by rw[z];exact qS0 _)⟩ (yV I3 f3 I6 (Heap.SameBut.refl _ _)) qn
 exact jT1 loop (T.self _ 0 _ _ _ st4 loop)
def Dz(hc:X.calm=true)(S:CompScopeO X x N ix scope cl)(hix:ix.length=N.length)(hi:PI X (.Name x px) iter wi)(hb:∀s3 H3 fp,PB (jQ X x N scope cl s3 H3 fp) ifs elt tb)
 (hs:∀x,foldedSetIterable iter X.env x=pure x:=by intro _;rfl):PE X (.ListComp elt [%[.Name x px,iter,ifs|(0)]] scope pos) (xH wi ix tb):=by
 exists 4,Q,I,h;rw[eval_ListComp];apply jA0 (use:=none) rfl hs S.clos S.kind S.names (thn (hi M5 s σ H _ I h) λxv s1 h1=>thn h1 λitv s2 h2=>?_);erw[it,fp,tn,J,H2,1,I2,T,st2,f2,R]at h2;apply BS hc S hix hb (RR:=λacc C=>compPost (model X.prog X.w) X.A X.xe none (EP X M5 σ Q) acc C) I2 T st2 f2 R ?_;intro D C H' s' m hn ap I' q;erw[m,hn,λh'' hb''=>%[.ref D,H',ap.turn I' hb'',1|q]]
def CompScopeO.one{y:Str}{k:Nat}{c:Addr}(c1:closureFor scope X.env=pure [(y,c)])(c2:∀(n:Addr) (h:Heap),cellsFrom n scope.names [(y,c)]=(x,n)::[(y,c)]/\pushCells h scope.names=h.push { cls:=.type "cell",data:=.cell none })(c3:scope.kind=.function)(c4:∀y∈scope.names,y.2=.local->scope.names.lookup y.1=some .local)
 (c5:(relabel scope X.env).names.lookup x=some .cell)(nd:[x,y].Nodup)(hc:X.env.cells.lookup y=some c)(c6:((relabel scope X.env).names.all λp=>!(p.2==.cell||p.2==.free)||(p.1==x||(([(y,c)]:List (Str×Addr)).lookup p.1).isSome))=true)
 (hr:(relabel scope X.env).names.lookup y=some .cell)(hk:X.N[k]?=some y)(hs:X.env.scope.names.lookup y=some .cell):CompScopeO X x [y] [k] scope [(y,c)] where
 clos:=c1
 lay:=c2
 kind:=c3
 names:=c4
 own:=c5
 nd:=nd
 sub:=λp hp=>by
  rw[Nd hp];exact hc
 has:=c6
 outs:=λj z h=>by
  cases j with
  |zero=>
    let e:y=z:=zO0 h;subst e;erw[hr,k,c,1,hk,by simp [List.lookup],hs]
  |succ j=>simp at h
def so(K:W.Frag)(hK:X.K=K:=by rfl):gR X (.type "tuple") (rTupOf K):=by subst hK;exact bj
end
def CompScope.four{X:Cx}{x y z u v:Str}{scope:Scope}{k l m n:Nat}{c d e g:Addr}{cl:List (Str×Addr)}(c1:closureFor scope X.env=pure cl)(c2:∀y∈scope.names,y.2≠.cell)(c3:scope.kind=.function)(c4:∀y∈scope.names,y.2=.local->scope.names.lookup y.1=some .local)
 (c5:scope.names.lookup x=some .local)(nd:[x,y,z,u,v].Nodup)(hcl:cl=[(y,c),(z,d),(u,e),(v,g)])(hc:X.env.cells.lookup y=some c)(hd:X.env.cells.lookup z=some d)(he:X.env.cells.lookup u=some e)(hg:X.env.cells.lookup v=some g)(c6:((relabel scope X.env).names.all λp=>!(p.2==.cell||p.2==.free)||(cl.lookup p.1).isSome)=true)
 (hr:(relabel scope X.env).names.lookup y=some .cell)(hk:X.N[k]?=some y)(hs:X.env.scope.names.lookup y=some .cell)
 (hr2:(relabel scope X.env).names.lookup z=some .cell)(hk2:X.N[l]?=some z)(hs2:X.env.scope.names.lookup z=some .cell)
 (hr3:(relabel scope X.env).names.lookup u=some .cell)(hk3:X.N[m]?=some u)(hs3:X.env.scope.names.lookup u=some .cell)
 (hr4:(relabel scope X.env).names.lookup v=some .cell)(hk4:X.N[n]?=some v)(hs4:X.env.scope.names.lookup v=some .cell):CompScope X x [y,z,u,v] [k,l,m,n] scope cl where
 clos:=c1
 nocell:=c2
 kind:=c3
 names:=c4
 own:=c5
 nd:=nd
 sub:=λp hp=>by
  subst hcl;rcases Nf hp with h | h
  . rw[h];assumption
  . rcases Nf h with h | h
    . rw[h];assumption
    . rcases Nf h with h | h
      . rw[h];assumption
      . rw[Nd h];assumption
 has:=c6
 outs:=λj w h=>by
  let nyz:y≠z:=λe=>by simp [e]at nd
  let nyu:y≠u:=λe=>by simp [e]at nd
  let nyv:y≠v:=λe=>by simp [e]at nd
  let nzu:z≠u:=λe=>by simp [e]at nd
  let nzv:z≠v:=λe=>by simp [e]at nd
  let nuv:u≠v:=λe=>by simp [e]at nd
  subst hcl
  match j,h with
  |0,h=>
    let e:y=w:=zO0 h;subst e;erw[hr,k,c,1,hk,by simp [List.lookup],hs]
  |1,h=>
    let e:z=w:=zO0 h;subst e
    have:(z==y)=false:=#[Ne.symm nyz,0]
    erw[hr2,l,d,1,hk2,by simp [List.lookup,this],hs2]
  |2,h=>
    let ew:u=w:=zO0 h;subst ew;let h1:(u==y)=false:=#[Ne.symm nyu,0]
    let h2:(u==z)=false:=#[Ne.symm nzu,0]
    erw[hr3,m,e,1,hk3,by simp [List.lookup,h1,h2],hs3]
  |3,h=>
    let ew:v=w:=zO0 h;subst ew;let h1:(v==y)=false:=#[Ne.symm nyv,0]
    let h2:(v==z)=false:=#[Ne.symm nzv,0]
    let h3:(v==u)=false:=#[Ne.symm nuv,0]
    erw[hr4,n,g,1,hk4,by simp [List.lookup,h1,h2,h3],hs4]
  |j+4,h=>simp at h
end L2
namespace L2
open PySem PySem.Spec PyProof.Rows PySem.Builtin PySem.Builtin.Str
section
variable {prog:Program}{w:World}{A:Around}{E:#[6]}{s:Shared}{Q:#[6]}{x:PySem.Str}{t:Tok}
def xJ{y:PySem.Str}{u:Tok}(hy:(y.length==0)=false)
 (h:∀l k,l.map (·.1)=Txt.split x y->Q (.ref ‹s›) { s with heap:=s.heap.push { cls:=.type "list",data:=.seq (strValues l).toArray },toks:=k })
 (hsz:x.length+2<=sizeLine):‹w.A› (call (.builtin "str.split") [.str x t,.str y u]) Q E s:=by
 let hn:(partsBetween x (occurrences x y 0 x.length (x.length+1)) y.length).length<=sizeLine:=by
  let e1:=StrLaws.occ_length_le x y 0 x.length (x.length+1);rw[length_partsBetween];omega
 cases h1:(decide (x.length<y.length)||decide (strKind x<strKind y))
 . cases hf:(occurrences x y 0 x.length (x.length+1)).isEmpty
   . apply jI1 vA1 (wD1 _ _ _) wT1 (wN1 _ _) (meets_str_split_sep x y t u h1 hy hf #[0] hn) ?_;show wants Q E _ { s with toks:=_,heap:=s.heap.push { cls:=.type "list",data:=.seq (strsFrom s.toks (partsBetween x (occurrences x y 0 x.length (x.length+1)) y.length)).toArray } };rw[strsFrom_eq];exact h (numbered s.toks _) _ ((numbered_texts _ _).trans ((M6 (wI0 h1)).trans (M6 (wI0 hf))).symm)
   . exact jI1 vA1 (wD1 _ _ _) wT1 (wN1 _ _) (meets_str_split_not_found x y t u h1 hy hf)
      (h [(x,t)] s.toks ((M6 (wI0 h1)).trans (M8 hf)).symm)
 . exact jI1 vA1 (wD1 _ _ _) wT1 (wN1 _ _) (meets_str_split_cannot_occur x y t u h1)
    (h [(x,t)] s.toks (M8 h1).symm)
end
def zn:∀l:List (PySem.Str×Tok),Vals ((l.map (·.1)).map V.str) (strValues l)
 | []=>.nil
 | (x,t)::r=>.cons %[t|1] (zn r)
section
variable {X:Cx}
instance rSplit(x:V)(vs:List V)(H:Hp)(Q:VK):∀z u,x=.str z->vs=[.str u]->0<u.length->z.length<=100000->(Txt.split z u).length<=100000->(∀p,H p=none->Q (.ref p) (upd H p (.lst ((Txt.split z u).map V.str)))):=0
def rH:MtR X "str.split" rSplit:=by
 exists 4,x,vs,v,us,Q,I,rx,rv,h;erw[z,u,1,1,hu,hz,hl,q]at h;erw[t,1]at rx;erw[w',1,t',1]at rv.one;let sl:sizeLine=16777216:=sizeLine_eq;apply xJ (by rw[beq_eq_false_iff_ne];omega) (λl k e=>?_) #[0];let r:=zn l;rw[e]at r;erw[.ref _,_,I.lnew (t':=k) r (by rw[zF0];omega),1,q _ I.fresh]
def iP:gR X (.type "int") (λxs H Q=>∃x n,xs=[.str x]/\PySem.intText? x=some n/\x.length<=640/\Q (.int n) H):=by
 exists 4,xs,us,Q,I,r,h;erw[x,n,1,e,hl,q]at h;let%[u,1,t|1]:=kc r;exact PySem.W.KIN.call_text e hl %[.int n,H,I.tok _,%[|0]|q]
end
end L2
namespace HT
open PySem PyProof.Rows
section
variable {prog:Program}{w:World}{A:Around}{E:#[6]}{s:Shared}
def getItem_tuple_whole{t sl:Addr}{items:Array Value}{vl vu:Value}{lo hi:Option Int}{Q:#[6]}(ht:IsTup s.heap t items)(hs:s.heap.IsSliceOf sl vl vu .none)(pl:IsPart vl lo)(pu:IsPart vu hi)
 (hw:sIx items.size 0 lo=0/\sIx items.size items.size hi=items.size)(h:Q (.ref t) s):‹w.A› (getItem (.ref t) (.ref sl)) Q E s:=by
 let%[os,hos,hcs|hds]:=id hs;let hTs:s.TypeIs (.ref sl) "slice":=%[os,hos|hcs]
 unfold getItem
 try with_reducible apply jA1 ?_
 first | apply zE0 (zI0 ?_) | skip
 apply zE0 (wS0 ht.typeIs ⋯ ?_);apply zE0 (zS1 (name:=Str.ofString "__getitem__") ht.typeIs zR1
  (qF1 zR1 ht.typeIs wF0 ?_ (wL1 _ _)))
 show wpAny _ _ (Builtin.Tuple.tupleItemsOf (.ref t) >>= _) _ _ s;apply zE0 (tupleItemsOf_ ht ?_);apply zE0 (vB1 hTs ?_);rw[M8 ⋯];apply zE0 (iS hs pl pu ?_);let hyes:(((sIx items.size 0 lo:Nat):Int)==0&&(1:Int)==1&&(sIx items.size items.size hi-sIx items.size 0 lo)==items.size)=true:=by
  rw[hw.1,hw.2,jY0]
  simp
 show wpAny _ _ (if(((sIx items.size 0 lo:Nat):Int)==0&&(1:Int)==1&&(sIx items.size items.size hi-sIx items.size 0 lo)==items.size)=true then _ else _) _ _ s;rw[M8 hyes];apply zE0 ?_;unfold Builtin.Tuple.tupleIsExact;apply zE0 (vB1 ht.typeIs (zI0 ?_));rw[M8 ⋯]
 first
  |exact zE0 (wpAny_rule (zI0 ⟨_,rfl,zI0 h⟩))
  | (apply zI0 ?_;erw[0,zI0 h])
  | (apply zE0 (zI0 ?_);apply zI0 ?_;erw[0,zI0 h])
  | (apply zE0 (zI0 ?_);apply zE0 (zI0 ?_);apply zI0 ?_;erw[0,zI0 h])
  | (apply zE0 (zE0 (zI0 ?_));apply zI0 ?_;erw[0,zI0 h])
end
end HT
namespace L2
open PySem PySem.Spec PyProof.Rows
section
variable {X:Cx}
instance rSlTW(K:W.Frag)(x:V)(lo:Option Int)(hi:Option Int)(H:Hp)(Q:VK):∀a xs,x=.ref a->SqT K H a xs->HT.sIx xs.length 0 lo=0/\HT.sIx xs.length xs.length hi=xs.length->Q (.ref a) H:=0
def Fw:SlR X (rSlTW X.K):=by
 exists 4,x,v,vl,vu,lo,hi,sl,Q,I,rx,hs,pl,pu,h;erw[a,xs,1,hx,hw,q]at h;cases rx;let%[its,r,ht|hz]:=I.tuple hx;let hlen:its.toArray.size=xs.length:=by rw[zV0];exact r.length.symm
 erw["tuple",_,PyProof.Rows.slot_tuple_getitem.lookup,ht.typeIs,6];exact HT.getItem_tuple_whole ht hs pl pu (by rw[hlen];exact hw) ⟨.ref a,H,I,rfl,q⟩
def yU{xs:List V}{lo hi:Option Int}(hw:HT.sIx xs.length 0 lo=0/\HT.sIx xs.length xs.length hi=xs.length):jf xs lo hi=xs:=by
 unfold jf;rw[hw.1,hw.2,jD1,jY0,zZ0]
instance rSlTA(K:W.Frag)(x:V)(lo:Option Int)(hi:Option Int)(H:Hp)(Q:VK):∀a xs,x=.ref a->SqT K H a xs->H a=some (.tup xs)->(∀p H',Same H H'->H' p=some (.tup (jf xs lo hi))->Q (.ref p) H'):=0
def Fx:SlR X (rSlTA X.K):=by
 exists 4,x,v,vl,vu,lo,hi,sl,Q,I,rx,hs,pl,pu,h;erw[a,xs,1,hx,ha,q]at h
 by_cases hw:HT.sIx xs.length 0 lo=0/\HT.sIx xs.length xs.length hi=xs.length
 . exact Fw M5 s σ H _ v vl vu lo hi sl Q I rx hs pl pu %[a,xs,1,hx,hw|q a H (Same.refl _) (by rw[yU hw];exact ha)]
 . exact uf M5 s σ H _ v vl vu lo hi sl Q I rx hs pl pu %[a,xs,1,hx,hw|λp hp=>q p _ (zC0 hp _) aP]
end
def SqB(K:W.Frag)(b:Bool)(H:Hp)(a:Addr)(xs:List V):Prop:=if b=true then SqL K H a xs else SqT K H a xs
section
variable {X:Cx}{x y2:Str}{N:List Str}{ix:List Nat}{scope:Scope}{cl:List (Str×Addr)}{elt iter:Expr}{ifs:List Expr}{px py pt pos:Pos}{kt:Nat}{wi:TI}{tb:TBl}
def zV(K:W.Frag)(J:It)(D:Addr)(ix:List Nat)(tb:TBl)(σ:St)(H:Hp)(Q:VK):Prop:=∃W:Nat->Nat->Hp->Prop,(∃m,W 0 m (upd H D (.lst [])))/\∀i m H2,W i m H2 ->
 (J.stop i H2/\Q (.ref D) H2)∨(J.go i H2/\∀y H3,J.yld i H2 y H3->∃t v1 v2,y=.ref t/\SqT K H3 t [v1,v2]/\tb (some v1::some v2::outs ix σ) H3 (λH4=>∃m',m'<m/\W (i+1) m' H4)
  λz H4=>∃ys,H4 D=some (.lst ys)/\ys.length<sizeLine/\∃m',m'<m/\W (i+1) m' (upd H4 D (.lst (ys++[z]))))
def Fo(K:W.Frag)(wi:TI)(ix:List Nat)(tb:TBl):TE:=λσ H Q=>wi σ H λJ H1=>∀D,H1 D=none->zV K J D ix tb σ H1 Q
def BR(hc:X.calm=true)(S:CompScope X x N ix scope cl)(S2:scope.names.lookup y2=some .local)(nd2:(x::y2::N).Nodup)(hix:ix.length=N.length)(hb:∀s3 H3 fp,PB (hR X (x::y2::N) scope cl s3 H3 fp) ifs elt tb)
 {σ:St}{Q:VK}{fp:List Addr}{RR:Value->Addr->Result->Shared->Prop}{E:#[6]}
 (I2:#[8] H2 s2)(T:Turn X.prog X.w X.K (.Tuple [.Name x px,.Name y2 py] kt pt) J fp it tn)(st2:tn 0 s2.heap)(f2:∀b∈fp,iQ X M5 H2 b)
 (h:∀D,H2 D=none->∃W:Nat->Nat->Hp->Prop,(∃m,W 0 m (upd H2 D (.lst [])))/\∀i m H3,W i m H3 ->
  (J.stop i H3/\Q (.ref D) H3)∨(J.go i H3/\∀y H4,J.yld i H3 y H4->∃t v1 v2,y=.ref t/\SqT X.K H4 t [v1,v2]/\tb (some v1::some v2::outs ix σ) H4 (λH5=>∃m',m'<m/\W (i+1) m' H5)
   λz H5=>∃ys,H5 D=some (.lst ys)/\ys.length<sizeLine/\∃m',m'<m/\W (i+1) m' (upd H5 D (.lst (ys++[z])))))
 (hRR:∀(D C:Addr)(H':Hp)(s':Shared)(m:#[9]),s'.heap.Ns C m->Apart X M5 H' C->#[8] H' s'->Q (.ref D) H'->RR (.ref D) C (.ok .next) s') :
 ‹X.w› (newList []) (λacc s3=>‹X.w› (newFunctionEnv scope X.env.globals cl [] X.env.qual none .none (some X.env)) (λcenv s4=>
  codeAny (model X.prog X.w) X.A (.compStart (.ListComp elt [%[.Tuple [.Name x px,.Name y2 py] kt pt,iter,ifs|(0)]] scope pos) 0 (.ref it) acc { cenv with scope:=relabel scope X.env }) (RR acc cenv.locals) s4) E s3) E s2:=by
 apply zM1 (wpAny_newFunctionEnv S.nocell (by intro y hy;simp at hy) (λh1 hns1 hsb1=>?_) S.kind)
 dsimp only at hns1 hsb1 ⊢
 let I3:#[8] (upd H2 ‹s2› (.lst [])) { s2 with heap:=s2.heap.push { cls:=.type "list",dict:=none,data:=.seq ([]:List Value).toArray } }:=I2.lnew (its:=[]) (ys:=[]) (t':=s2.toks) .nil (zP0 _);let hD:H2 ‹s2›=none:=I2.fresh;let%[W,%[m0|w0]|turn]:=h ‹s2› hD;let hltF:∀b∈fp,b<‹s2›:=λb hb=>by
  let%[o,e|_]:=T.obj 0 _ st2 b hb;exact zQ0 e
 generalize hs3:({ s2 with heap:=s2.heap.push { cls:=.type "list",dict:=none,data:=.seq ([]:List Value).toArray } }:Shared)=s3 at I3;let eh:s2.heap.push { cls:=.type "list",dict:=none,data:=.seq ([]:List Value).toArray }=s3.heap:=by rw[←hs3]
 let et:s2.toks=s3.toks:=by rw[←hs3]
 rw[eh]at hns1 hsb1 ⊢;let sz3:‹s3›=‹s2›+1:=by rw[←eh,jC0]
 let hlt3:∀b∈fp,b<‹s3›:=λb hb=>qN0 (hltF b hb) (by rw[sz3];exact qM0 _)
 let f3:∀b∈fp,iQ X M5 (upd H2 ‹s2› (.lst [])) b:=λb hb=>by
  let%[q1|q2]:=f2 b hb;erw[by rw[aE (qA0 (hltF b hb))];exact q1,q2]
 let up:∀b o,s3.heap.get? b=some o->h1.get? b=some o:=λb o e=>hsb1.extBut b o (qA0 (zQ0 e)) (zS0 _ e)
 let old:∀b o,s2.heap.get? b=some o->h1.get? b=some o:=λb o e=>up b o (by rw[←eh];exact zS0 _ e)
 let es:({ s2 with heap:=h1,toks:=s2.toks+([]:List (Str×Value)).length }:Shared)={ s3 with heap:=h1,toks:=s2.toks+([]:List (Str×Value)).length }:=by rw[←hs3]
 rw [es];let I4:Inv (hR X (x::y2::N) scope cl s3 (upd H2 ‹s2› (.lst [])) fp) [] (none::none::outs ix σ) (upd H2 ‹s2› (.lst [])) { s3 with heap:=h1,toks:=s2.toks+([]:List (Str×Value)).length }:=
  si [x,y2] S I3 f3 hlt3 hix hns1 up
 let st4:tn 0 h1:=T.keep 0 _ _ st2 λb _ o e=>old b o e
 let loop:codeAny (model X.prog X.w) X.A (.compLoop (.ListComp elt [%[.Tuple [.Name x px,.Name y2 py] kt pt,iter,ifs|(0)]] scope pos) 0 (.ref it) (.ref ‹s2›) (compEnvC scope cl ‹s3› X.env)) (RR (.ref ‹s2›) ‹s3›)
  { s3 with heap:=h1,toks:=s2.toks+([]:List (Str×Value)).length }:=by
  let k:=vy (M:=x::y2::N) S I3 f3 hlt3;apply oP (Y:=hR X (x::y2::N) scope cl s3 (upd H2 ‹s2› (.lst [])) fp) (Pf:=λσ'=>∃v0 v00,σ'=v0::v00::outs ix σ) hc (λ_ _ z=>z) T (iN hc (bX (aU (i:=0) nd2 rfl (.inl (qO1 S.own)) (.inr (qO1 S.own))) (bX (aU (i:=1) nd2 rfl (.inl (qO1 S2)) (.inr (qO1 S2))) gI))) (hb _ _ _) (λhn b hb=>%[hn b hb,(k.exf b hb).1,k.exfs b hb,.inl hb,(k.exf b hb).2|λp hp=>absurd (show p∈([]:#[7])from hp) #[2]]) (λi m H5 w5=>(turn i m H5 w5).imp (fun⟨stop,qn⟩=>%[stop|λσ' s6 _ I6=>?_]) (fun⟨go,step⟩=>⟨go,λy H3 y7 σ' ⟨v0,v00,e⟩=>by
   subst e;let%[tt,v1,v2,1,sq|stp]:=step y H3 y7;erw[tt,0,sq,1,v1,0,v2,0,1,%[_|0],stp]⟩)) ⟨none,none,rfl⟩ I4 st4 (λb hb=>(f3 b hb).1) w0
  erw[m6,hn6,_]at I6.loc;exact hRR _ _ H5 s6 m6 hn6 ⟨I6.free,Ne.symm (qA0 I3.lt),I3.sz,λy c e z=>by
   let%[v|q]:=I3.cell y c e;exact absurd q.lt (by rw[z];exact qS0 _),λp hp z=>absurd (zQ0 (I3.pin p hp).1) (by rw[z];exact qS0 _)⟩ (tO I3 f3 I6 (Heap.SameBut.refl _ _)) qn
 exact jT1 loop (T.self _ 0 _ _ _ st4 loop)
end
end L2
namespace L2
open PySem PyProof.Rows HT
section
variable {X:Cx}
def FO(K:W.Frag)(hl:PE X l tl)(hK:X.K=K:=by rfl):PI X tg l (iTup K tl):=by subst hK;exact eF hl
def Dq{y2:Str}{iter:Expr}{px py0 pos pt:Pos}{kt:Nat}{i:Nat}{y:Str}{py spos:Pos}(hN:X.N.Nodup)(hi0:X.N[i]?=some y)(hx:Loc X.env.scope y)(hc:X.calm=true)(S:CompScope X x N ix scope cl)(S2:scope.names.lookup y2=some .local)(nd2:(x::y2::N).Nodup)(hix:ix.length=N.length)(hi:PI X (.Tuple [.Name x px,.Name y2 py0] kt pt) iter wi)(hb:∀s3 H3 fp,PB (hR X (x::y2::N) scope cl s3 H3 fp) ifs elt tb)
 (hsw:swapsWith (.ListComp elt [%[.Tuple [.Name x px,.Name y2 py0] kt pt,iter,ifs|(0)]] scope pos) (some (.Name y py)) spos.line X.env=pure true:=by rfl')
 (hs:∀x,foldedSetIterable iter X.env x=pure x:=by intro _;rfl)(hf:X.fn y=true∨X.env.scope.names.lookup y=some .local:=by first | exact .inl rfl | exact .inr rfl | assumption):
 PS X (.Assign [.Name y py] (.ListComp elt [%[.Tuple [.Name x px,.Name y2 py0] kt pt,iter,ifs|(0)]] scope pos) spos) (λD σ H=>Fo X.K wi ix tb σ H λv H'=>D.nx (σ.set i (some v)) H'):=by
 exists 4,Dn,I,h;rw[exec_Assign_Name_used _ _ _ _ hsw];apply zE0 (wU1 (zE0 ?_));show wpAny _ X.A (do let _ ←comprehension (.ListComp elt [%[.Tuple [.Name x px,.Name y2 py0] kt pt,iter,ifs|(0)]] scope pos) scope X.env _ (newList []) false (eval iter X.env) (some (assign (.Name y py) X.env))) _ _ s;apply zE0 (qQ1 (jA0 (use:=some (assign (.Name y py) X.env)) (Q:=λ_ s'=>SP X M5 Dn .next s') rfl hs S.clos S.kind S.names
  (thn (hi M5 s σ H _ I h) λxv s1 h1=>thn h1 λitv s2 h2=>?_)) (λ_ s' hq=>zI0 (zI0 hq)) λ_ _ e=>e)
 erw[it,fp,tn,J,H2,1,I2,T,st2,f2,R]at h2;apply BR hc S S2 nd2 hix hb (RR:=λacc C=>compPost (model X.prog X.w) X.A X.xe (some (assign (.Name y py) X.env)) (λ_ s'=>SP X M5 Dn .next s') acc C) (Q:=λv H'=>Dn.nx (σ.set i (some v)) H') I2 T st2 f2 R ?_;intro D C H' s' m hn ap I' q;show wpAny _ X.A (assign (.Name y py) X.env (.ref D)) _ _ _;apply wR1 (oi I' hN hi0 hx (v:=.ref D) rfl (λs'' I'' hsb=>?_) hf);erw[a,hsb,ha]at hsb;let ne:C≠a:=by
  rcases ha with z | z
  . rw[z];exact ap.lo
  . exact Ne.symm (ap.ce y a z)
 erw[m,hn.sameBut hsb ne,λh'' hb''=>%[_,H',ap.turn I'' hb''|q]]
end
end L2
namespace L2
open PySem PySem.Spec PyProof.Rows
section
variable {X:Cx}
def gN(z u:Str)(i:Int):Bool:=decide (PySem.fromIndex z.length i+u.length<=z.length)&&Builtin.Str.subAt z u (PySem.fromIndex z.length i)
instance rStartsAt(x:V)(vs:List V)(H:Hp)(Q:VK):∀z u i,x=.str z->vs=[.str u,.int i]->Q (.bl (gN z u i)) H:=0
def wz:MtR X "str.startswith" rStartsAt:=by
 exists 4,x,vs,v,us,Q,I,rx,rv,h;erw[z,u,i,1,1,q]at h;erw[t,1]at rx;cases rv with
 |cons r1 rv1=>
   cases rv1 with
   |cons r2 rv2=>
     cases rv2;erw[t1,1]at r1;erw[t2,1]at r2;exact call_gives F.slot_str_startswith (wD1 _ _ _) F.entry_str_startswith (F.args_str_startswith_3 _ _ _) (gives_str_startswith_from z u i t t1 t2) %[.bl _,H,I,1|q]
end
def Jk(K:W.Frag)(a:Addr)(xs:List V):It:=%[λi H=>SqT K H a xs/\i<xs.length,λi H y H'=>H'=H/\xs.reverse[i]?=some y|λi _=>xs.length<=i]
def RevT.keep{h':Heap}(x:RevT h it t i)(k:∀o,h.get? it=some o->h'.get? it=some o):RevT h' it t i:=k _ x
def zZ{K:W.Frag}(a it:Addr)(xs:List V):Turn P w K tg (Jk K a xs) [it] it (λi h=>i<=xs.length/\RevT h it a ((xs.length:Int)-1-(i:Int))) where
 mem:=by simp
 obj:=λi h st b hb=>by
  let e:b=it:=#[hb,0]
  subst e;erw[_,st.2,λv z=>by cases z]
 keep:=λi h h' st k=>%[st.1|st.2.keep λo e=>k it #[2] o e]
 item:=by
  exists 5;erw[hq,hi]at hg;let%[its,rv,p|hz]:=I.tuple hq;let hj:xs.length-1-i<xs.length:=#[0]
  let hx:xs[xs.length-1-i]?=some xs[xs.length-1-i]:=zN0 hj;let%[u,hu|ru]:=rv.get hx;let%[f0,f1,f2,f3,f4|f5]:=hf it #[2];erw[_,hit]at st;let e1:((xs.length:Int)-1-(i:Int))=((xs.length-1-i:Nat):Int):=#[0]
  rw[e1]at hit;let h63:=jL;apply rE hit p (x:=u) #[hu,0] #[0] λh' tk st' sb=>?_
  let I1:#[8] H { s with heap:=h',toks:=tk }:=I.turned (t':=tk) (λb o hb e=>(sb.2 b hb).trans e) f0 f1 f3 f4 f5;let e2:((xs.length-1-i:Nat):Int)-1=(xs.length:Int)-1-((i+1:Nat):Int):=#[0]
  rw[e2]at st';erw[u,1,wN (s:={ s with heap:=h',toks:=tk }) st' rfl rfl ⋯ ⟨xs[xs.length-1-i],H,I1,ru,⟨rfl,?_⟩,⟨#[0],st'⟩,λb hb=>(hf b hb).1⟩];rw[qT1 hi,hx]
 done:=by
  exists 5;let hg:xs.length<=i:=hg;let%[f0,f1,f2,f3,f4|f5]:=hf it #[2];erw[hi,hit]at st;let e1:(xs.length:Int)-1-(i:Int)=-1:=#[0]
  rw[e1]at hit;exact sM (I.ok.hd hc) hit λh' tk eb=>%[1|I.turned (t':=tk) (λb o hb e=>eb b o hb e) f0 f1 f3 f4 f5]
 self:=λ_ _ _ _ _ st h=>tG st.2 h
def Hc(K:W.Frag)(c:Bool)(a:Addr)(xs:List V):It:=if c=true then ItV K a xs else Jk K a xs
section
variable {X:Cx}{tg:Expr}
instance ZiRevB(K:W.Frag)(R:(It->Hp->Prop))(x:V)(H1:Hp):∀c a xs,x=.ref a->SqB K c H1 a xs->R (Hc K c a xs) H1:=0
def iRevB(K:W.Frag)(tl:TE):TI:=λσ H R=>tl σ H λx H1=>ZiRevB K R x H1
def FP{p pos:Pos}(hg:Gl X "reversed")(hm:X.mg "reversed"=none)(hl:PE X l tl)(hs:starEach [l] X.env=[(false,eval l X.env)]:=by rfl):
 PI X tg (.Call (.Name "reversed" p) [l] [] pos) (iRevB X.K tl):=by
 exists 4,R,I,h;apply qL1 (iO I hg hm su ?_);apply zO1 ?_ hs rfl;rw[hs];show wpAny _ _ (spliced ((false,eval l X.env)::backTo pos (starEach [] X.env))) _ _ s;apply qK1 (thn (hl M5 s σ H _ I h) λu s1 ⟨x,H1,I1,r1,c,a,xs,ex,hq,q⟩=>?_);subst ex;cases r1;apply qY1 ?_;cases c with
 |true=>
   let hq:SqL X.K H1 a xs:=hq;let q:R (ItV X.K a xs) H1:=q;let%[its,rv,p|hz]:=I1.list hq;let hlen:=rv.length;apply call_reversed_list p.isList ?_;let hr:(s1.heap.push (revObj a ((its.toArray.size:Int)-1))).IsRevIter ‹s1› a ((xs.length:Int)-1-((0:Nat):Int)):=by
    let e:(xs.length:Int)-1-((0:Nat):Int)=(its.toArray.size:Int)-1:=by rw[zV0];omega
    rw[e];erw[_,qE0 _ rfl,1,1]
   apply wpAny_pyIter_revIter hr ?_;erw[‹s1›,[‹s1›],_,_,H1,1,I1.kept (t':=s1.toks) λb o e=>zS0 _ e,zY a _ xs,%[zP0 _|hr],λb hb=>?_,q];let e:b=‹s1›:=#[hb,0]
   subst e;exact I1.fpOk (zH0 _) (I1.hok.fresh (zH0 _))
 |false=>
   let hq:SqT X.K H1 a xs:=hq;let q:R (Jk X.K a xs) H1:=q;let%[its,rv,p|hz]:=I1.tuple hq;let hlen:=rv.length;apply nY p (by rw[zV0,←rv.length];exact hz) λtk=>?_
   let hr:RevT (s1.heap.push { cls:=.type "reversed",data:=.fields #[.ref a,rawInt ((its.toArray.size:Int)-1)] }) ‹s1› a ((xs.length:Int)-1-((0:Nat):Int)):=by
    let e:(xs.length:Int)-1-((0:Nat):Int)=(its.toArray.size:Int)-1:=by rw[zV0];omega
    rw[e];exact qE0 _ rfl
   apply tG hr ?_;erw[‹s1›,[‹s1›],_,_,H1,1,I1.kept (t':=tk) λb o e=>zS0 _ e,zZ a _ xs,%[zP0 _|hr],λb hb=>?_,q];let e:b=‹s1›:=#[hb,0]
   subst e;exact I1.fpOk (zH0 _) (I1.hok.fresh (zH0 _))
end
def EC{K:W.Frag}{xs:List V}{g:TG}{tb:TS}{D:Ends}{σ:St}{H:Hp}(Pv:Nat->St->Hp->Prop)(h0:Pv 0 σ H)(hl:∀i σ H,i<=xs.length->Pv i σ H->SqB K c H a xs)
 (hs:∀i x σ H,i<xs.length->xs.reverse[i]?=some x->Pv i σ H->g x σ H λσ2 H2=>tb { D with nx:=Pv (i+1),ct:=Pv (i+1),bk:=D.nx } σ2 H2)(hd:∀ σ H,Pv xs.length σ H->D.nx σ H):
 ∃ W:Nat->Nat->St->Hp->Prop,(∃m,W 0 m σ H)/\∀i m σ H,W i m σ H ->
  ((Hc K c a xs).stop i H/\D.nx σ H)∨((Hc K c a xs).go i H/\∃N:St->Hp->Prop,(∀ σ' H',N σ' H'->∃m',m'<m/\W (i+1) m' σ' H')/\∀x H',(Hc K c a xs).yld i H x H'->g x σ H' λσ2 H2=>tb { D with nx:=N,ct:=N,bk:=D.nx } σ2 H2):=by
 cases c with
 |true=>exact EB Pv h0 hl hs hd
 |false=>
   erw[λi m σ H=>m=xs.length-i/\i<=xs.length/\Pv i σ H,%[xs.length,by simp,zP0 _|h0],6];rintro i m σ H ⟨rfl,hi,p⟩;let q:=hl i σ H hi p
   by_cases Nb:i<xs.length
   . refine .inr %[%[q|Nb],Pv (i+1),λσ' H' p'=>%[xs.length-(i+1),3,1,Nb|p']|λx H' y=>?_];erw[e,ex]at y;subst e;exact hs i x σ _ Nb ex p
   . let e:i=xs.length:=#[0]
     subst e;exact .inl %[zH0 _|hd σ H p]
def ItB(K:W.Frag)(c:Bool)(a:Addr):It:=if c=true then Itl K a else Itt K a
section
variable {X:Cx}{tg:Expr}
instance ZiAny(K:W.Frag)(R:(It->Hp->Prop))(x:V)(H1:Hp):∀c a,x=.ref a->(∃xs,SqB K c H1 a xs)->R (ItB K c a) H1:=0
def iAny(K:W.Frag)(tl:TE):TI:=λσ H R=>tl σ H λx H1=>ZiAny K R x H1
def Du(hl:PE X l tl):PI X tg l (iAny X.K tl):=by
 exists 4,R,I,h;apply thn (hl M5 s σ H _ I h) λv s1 ⟨x,H1,I1,r1,q1⟩=>?_
 erw[c,a,e,%[xs|hq],q]at q1;subst e;cases r1;cases c with
 |true=>
   let hq:SqL X.K H1 a xs:=hq;let q:R (Itl X.K a) H1:=q;let%[its,rv,p|hz]:=I1.list hq;apply jI0 p.isList ?_;erw[‹s1›,[‹s1›],_,_,H1,1,I1.kept (t':=s1.toks) λb o e=>zS0 _ e,sS a _,%[_,qE0 _ rfl,1|1],λb hb=>?_,q];let e:b=‹s1›:=#[hb,0]
   subst e;exact I1.fpOk (zH0 _) (I1.hok.fresh (zH0 _))
 |false=>
   let hq:SqT X.K H1 a xs:=hq;let q:R (Itt X.K a) H1:=q;let%[its,rv,p|hz]:=I1.tuple hq;apply jE1 (show s1.heap.IsTuple a its.toArray from p) ?_;erw[‹s1›,[‹s1›],_,_,H1,1,I1.kept (t':=s1.toks) λb o e=>zS0 _ e,qe a _,%[_,qE0 _ rfl,1|1],λb hb=>?_,q];let e:b=‹s1›:=#[hb,0]
   subst e;exact I1.fpOk (zH0 _) (I1.hok.fresh (zH0 _))
end
def xc{K:W.Frag}{xs:List V}{tb:TBl}{Q:VK}(Pv:Nat->Hp->Prop)(h0:Pv 0 (upd H D (.lst [])))(hl:∀i H,i<=xs.length->Pv i H->SqB K c H a xs)
 (hs:∀i x H,xs[i]?=some x->Pv i H->tb (some x::outs ix σ) H (Nx xs.length i Pv) λz H'=>∃ys,H' D=some (.lst ys)/\ys.length<sizeLine/\Nx xs.length i Pv (upd H' D (.lst (ys++[z]))))(hd:∀H,Pv xs.length H->Q (.ref D) H):
 oU (ItB K c a) D ix tb σ H Q:=by
 cases c with
 |true=>exact ik (K:=K) (xs:=xs) Pv h0 hl hs hd
 |false=>exact dJ (K:=K) (xs:=xs) Pv h0 hl hs hd
def CompScope.five{X:Cx}{x y z u v t:Str}{scope:Scope}{k l m n o:Nat}{c d e g f:Addr}{cl:List (Str×Addr)}(c1:closureFor scope X.env=pure cl)(c2:∀y∈scope.names,y.2≠.cell)(c3:scope.kind=.function)(c4:∀y∈scope.names,y.2=.local->scope.names.lookup y.1=some .local)
 (c5:scope.names.lookup x=some .local)(nd:[x,y,z,u,v,t].Nodup)(hcl:cl=[(y,c),(z,d),(u,e),(v,g),(t,f)])(hc:X.env.cells.lookup y=some c)(hd:X.env.cells.lookup z=some d)(he:X.env.cells.lookup u=some e)(hg:X.env.cells.lookup v=some g)(hf:X.env.cells.lookup t=some f)(c6:((relabel scope X.env).names.all λp=>!(p.2==.cell||p.2==.free)||(cl.lookup p.1).isSome)=true)
 (hr:(relabel scope X.env).names.lookup y=some .cell)(hk:X.N[k]?=some y)(hs:X.env.scope.names.lookup y=some .cell)
 (hr2:(relabel scope X.env).names.lookup z=some .cell)(hk2:X.N[l]?=some z)(hs2:X.env.scope.names.lookup z=some .cell)
 (hr3:(relabel scope X.env).names.lookup u=some .cell)(hk3:X.N[m]?=some u)(hs3:X.env.scope.names.lookup u=some .cell)
 (hr4:(relabel scope X.env).names.lookup v=some .cell)(hk4:X.N[n]?=some v)(hs4:X.env.scope.names.lookup v=some .cell)
 (hr5:(relabel scope X.env).names.lookup t=some .cell)(hk5:X.N[o]?=some t)(hs5:X.env.scope.names.lookup t=some .cell):CompScope X x [y,z,u,v,t] [k,l,m,n,o] scope cl where
 clos:=c1
 nocell:=c2
 kind:=c3
 names:=c4
 own:=c5
 nd:=nd
 sub:=λp hp=>by
  subst hcl;rcases Nf hp with h | h
  . rw[h];assumption
  . rcases Nf h with h | h
    . rw[h];assumption
    . rcases Nf h with h | h
      . rw[h];assumption
      . rcases Nf h with h | h
        . rw[h];assumption
        . rw[Nd h];assumption
 has:=c6
 outs:=λj w h=>by
  let nyz:y≠z:=λe=>by simp [e]at nd
  let nyu:y≠u:=λe=>by simp [e]at nd
  let nyv:y≠v:=λe=>by simp [e]at nd
  let nyt:y≠t:=λe=>by simp [e]at nd
  let nzu:z≠u:=λe=>by simp [e]at nd
  let nzv:z≠v:=λe=>by simp [e]at nd
  let nzt:z≠t:=λe=>by simp [e]at nd
  let nuv:u≠v:=λe=>by simp [e]at nd
  let nut:u≠t:=λe=>by simp [e]at nd
  let nvt:v≠t:=λe=>by simp [e]at nd
  subst hcl
  match j,h with
  |0,h=>
    let e:y=w:=zO0 h;subst e;erw[hr,k,c,1,hk,by simp [List.lookup],hs]
  |1,h=>
    let e:z=w:=zO0 h;subst e
    have:(z==y)=false:=#[Ne.symm nyz,0]
    erw[hr2,l,d,1,hk2,by simp [List.lookup,this],hs2]
  |2,h=>
    let ew:u=w:=zO0 h;subst ew;let h1:(u==y)=false:=#[Ne.symm nyu,0]
    let h2:(u==z)=false:=#[Ne.symm nzu,0]
    erw[hr3,m,e,1,hk3,by simp [List.lookup,h1,h2],hs3]
  |3,h=>
    let ew:v=w:=zO0 h;subst ew;let h1:(v==y)=false:=#[Ne.symm nyv,0]
    let h2:(v==z)=false:=#[Ne.symm nzv,0]
    let h3:(v==u)=false:=#[Ne.symm nuv,0]
    erw[hr4,n,g,1,hk4,by simp [List.lookup,h1,h2,h3],hs4]
  |4,h=>
    let ew:t=w:=zO0 h;subst ew;let h1:(t==y)=false:=#[Ne.symm nyt,0]
    let h2:(t==z)=false:=#[Ne.symm nzt,0]
    let h3:(t==u)=false:=#[Ne.symm nut,0]
    let h4:(t==v)=false:=#[Ne.symm nvt,0]
    erw[hr5,o,f,1,hk5,by simp [List.lookup,h1,h2,h3,h4],hs5]
  |j+5,h=>simp at h
end L2
namespace Mine
def Pr(n:Int):Prop:=2<=n/\∀k:Int,2<=k->k<=1000->k*k<=n->n % k≠0
def oS(n:Int)(j:Int):Prop:=∀k:Int,2<=k->k<j->k*k<=n/\n % k≠0
def sU{a b:Int}(h0:0<=a)(h:a<=b):a*a<=b*b:=Int.mul_le_mul h h h0 (Int.le_trans h0 h)
def HS{n k:Int}(h2:2<=n)(h0:2<=k)(u:oS n k)(h:n<k*k):Pr n:=by
 erw[h2,λj j2 _ js=>?_]
 by_cases c:j<k
 . exact(u j j2 c).2
 . have:=sU (a:=k) (b:=j) #[0] #[0]
   omega
def HU{n:Int}(h2:2<=n)(u:oS n 1001):Pr n:=%[h2|λj j2 j3 _=>(u j j2 #[0]).2]
def HP{n k:Int}(h0:2<=k)(h1:k<=1000)(hs:k*k<=n)(h:n % k=0):¬ Pr n:=λp=>p.2 k h0 h1 hs h
def xB(n:Int):oS n 2:=λk a b=>#[0]
def zX(u:oS n k)(hs:k*k<=n)(h:n % k≠0):oS n (k+1):=λj a b=>by
 by_cases c:j<k
 . exact u j a c
 . let e:j=k:=#[0]
   subst e;erw[hs,h]
def prB(n:Int):Bool:=decide (2<=n)&&(List.range 999).all λi=>decide (n<((i:Int)+2)*((i:Int)+2))||decide (n % ((i:Int)+2)≠0)
def FL(h:prB n=true):Pr n:=by
 unfold prB at h;rw[qN1]at h;erw[zU1 h.1,λk k2 k3 ks=>?_];let q:=List.all_eq_true.mp h.2 (k.toNat-2) (List.mem_range.mpr #[0]);let e:(((k.toNat-2:Nat):Int)+2)=k:=#[0]
 rw[e,Bool.or_eq_true]at q;rcases q with q | q
 . have:=zU1 q;omega
 . exact zU1 q
def AG:Pr 999983:=FL ⋯
def HR{d:Int}(h:Pr p)(hp:p<1002001)(d0:1<d)(d1:d<p)(hd:d ∣ p):False:=by
 erw[e,he]at hd;let e0:1<e:=by
  by_cases c:e<=1
  . have:d*e<=d*1:=qX0 c #[0]
    omega
  . omega
 by_cases c:d<=e
 . let s:d*d<=p:=by
    have:=qX0 c (show(0:Int)<=d by omega)
    omega
   let t:d<=1000:=by
    by_cases c2:1001<=d
    . have:=sU (a:=1001) (b:=d) #[0] c2
      omega
    . omega
   apply h.2 d #[0] t s ?_;rw[he];exact Int.mul_emod_right d e
 . let c':e<=d:=#[0]
   let s:e*e<=p:=by
    have:=Int.mul_le_mul_of_nonneg_right c' (show(0:Int)<=e by omega)
    omega
   let t:e<=1000:=by
    by_cases c2:1001<=e
    . have:=sU (a:=1001) (b:=e) #[0] c2
      omega
    . omega
   apply h.2 e #[0] t s ?_;rw[he,jN0];exact Int.mul_emod_right e d
def Cop(x y:Int):Prop:=∀d:Int,0<d->d ∣ x->d ∣ y->d=1
def Ja{a:Int}(h:Pr p)(hp:p<1002001)(a0:0<a)(a1:a<p):Cop p a:=λd d0 h1 h2=>by
 have:=jR0 a0 h2
 by_cases c:1<d
 . exact(HR h hp c #[0] h1).elim
 . omega
structure Eu(a p former ff rest f:Int):Prop where
 r0:0<rest
 rp:rest<p
 fr:rest<former
 f0:0<=f
 f1:f<p
 g0:0<=ff
 g1:ff<p
 cop:Cop former rest
 d1:p ∣ former-a*ff
 d2:p ∣ rest-a*f
def wS{a:Int}(h:Pr p)(hp:p<1002001)(a0:0<a)(a1:a<p):Eu a p p 0 (a % p) 1:=by
 let e:a % p=a:=qU0 #[0] a1;rw[e];erw[a0,a1,a1,3,3,3,3,Ja h hp a0 a1,by rw[Int.mul_zero,Int.sub_zero];exact Int.dvd_refl p,by rw[wV0,Int.sub_self];exact Int.dvd_zero p]
def zM(E:Eu a p former ff rest f)(h1:rest≠1):Eu a p rest f (former-former / rest*rest) ((ff-former / rest*f) % p)/\(former-former / rest*rest).toNat<rest.toNat:=by
 let r0:=E.r0;let rp:=E.rp;let em:former-former / rest*rest=former % rest:=by
  have:=qU1 former rest
  rw[jN0]at this;omega
 let l0:0<=former % rest:=qG0 _ #[0];let l1:former % rest<rest:=qI0 _ r0;let cop':Cop rest (former % rest):=λd d0 x y=>by
  apply E.cop d d0 ?_ x
  have:=qU1 former rest
  rw[←this];exact wI1 y (Int.dvd_trans x (Int.dvd_mul_right _ _))
 let lz:former % rest≠0:=λz=>by
  have:=cop' rest r0 (Int.dvd_refl _) (by rw[z];exact Int.dvd_zero _)
  exact h1 this
 rw [em];erw[%[3,3,l1,qG0 _ #[0],qI0 _ #[0],E.f0,E.f1,cop',E.d2|6],3];let q:p ∣ (former-a*ff)-former / rest*(rest-a*f):=Int.dvd_sub E.d1 (Int.dvd_trans E.d2 (Int.dvd_mul_left _ _));let q2:p ∣ (ff-former / rest*f)-(ff-former / rest*f) % p:=Int.dvd_self_sub_emod;let q3:p ∣ a*((ff-former / rest*f)-(ff-former / rest*f) % p):=Int.dvd_trans q2 (Int.dvd_mul_left _ _);let q4:=wI1 q q3;let e2:former-a*ff-former / rest*(rest-a*f)+a*(ff-former / rest*f-(ff-former / rest*f) % p)=former % rest-a*((ff-former / rest*f) % p):=by
  rw[←em];generalize former / rest=t;generalize (ff-t*f) % p=u;rw[Int.mul_sub,Int.mul_sub,Int.mul_sub,Int.mul_left_comm t a f];omega
 rw[e2]at q4;exact q4
def EF(E:Eu a p former ff rest f)(h1:rest=1)(hp:1<p):0<f/\f<p/\f*a % p=1:=by
 subst h1;let d2:=E.d2;let f0:=E.f0;let hm:f*a % p=1:=by
  erw[c,hc]at d2;let e:f*a=1+p*(-c):=by
   rw[jN0 f a,Int.mul_neg];omega
  rw[e,Int.add_mul_emod_self_left];exact qU0 #[0] hp
 erw[6,E.f1,hm]
 by_cases c:f=0
 . subst c;simp at hm
 . omega
end Mine
namespace Mine
def xw(n d:Int):Prop:=∀k:Int,3<=k->k % 2=1->k<d->n % k≠0
def Bf(n:Int):xw n 3:=λk a _ c=>#[0]
def DV(u:xw n d)(hd:d % 2=1)(h:n % d≠0):xw n (d+2):=λk a b c=>by
 by_cases e:k<d
 . exact u k a b e
 . have:k=d:=#[0]
   subst this;exact h
def BG{n d:Int}(h3:3<=n)(h2:n % 2≠0)(h0:3<=d)(u:xw n d)(hd:n<d*d):Pr n:=by
 erw[3,λk k2 k3 ks z=>?_];let%[q|hq]:=Int.dvd_of_emod_eq_zero z
 by_cases e:k % 2=1
 . by_cases c:k<d
   . exact u k #[0] e c z
   . have:=sU (a:=d) (b:=k) #[0] #[0]
     omega
 . obtain ⟨j,hj⟩:∃j,k=2*j:=%[k / 2|3]
   rw[hj,wX0]at hq;omega
def BI{n:Int}(h2:n % 2=0)(h3:2<n):¬ Pr n:=λp=>p.2 2 #[0] #[0] #[0] h2
def BH{n d:Int}(h9:n<=999999)(h0:3<=d)(hs:d*d<=n)(h:n % d=0):¬ Pr n:=λp=>by
 let t:d<=1000:=by
  by_cases c2:1001<=d
  . have:=sU (a:=1001) (b:=d) #[0] c2
    omega
  . omega
 exact p.2 d #[0] t hs h
def xK{n d:Int}(h9:n<=999999)(h0:3<=d)(hs:d*d<=n):d<=999:=by
 by_cases c2:1000<=d
 . have:=sU (a:=1000) (b:=d) #[0] c2
   omega
 . omega
def FK{n d:Int}(h0:3<=d)(hs:d*d<=n):d<=n:=by
 have:=qX0 (show(1:Int)<=d by omega) (show(0:Int)<=d by omega)
 omega
end Mine
namespace Mine
def cI:Nat->List (List Int)
 |0=>[[]]
 |n+1=>(cI n).flatMap λs=>[s++[0],s++[1]]
def lA{α β:Type}(f g:α->β):∀l:List α,(l.flatMap λs=>[f s,g s]).length=2*l.length
 | []=>rfl
 |x::r=>by
   let ih:=lA f g r;simp only[List.flatMap_cons,zL0,zR0,zJ1];omega
def iU:∀n:Nat,(cI n).length=2 ^ n
 |0=>rfl
 |n+1=>by rw[cI,lA,iU n,Nat.pow_succ];omega
def dL:∀(n:Nat)(s:List Int),s∈cI n->s.length=n
 |0,s,h=>by
   have:s=[]:=by simpa [cI]using h
   subst this;rfl
 |n+1,s,h=>by
   rw[cI,List.mem_flatMap]at h;erw[t,ht,hs]at h
   have:=dL n t ht
   simp at hs
   rcases hs with rfl | rfl <;> simp [this]
def oG{n:Nat}(h:n<=6):2 ^ n<=64:=Nat.pow_le_pow_right ⋯ h
end Mine
namespace Mine
def Pm(p:Int):Prop:=1<p/\∀a:Int,¬ p ∣ a->∃f:Int,p ∣ f*a-1
def EE{p:Int}(hp:1<p):∀(n:Nat){former ff rest f:Int},rest.toNat<=n->Eu a p former ff rest f->∃g:Int,g*a % p=1
 |0,former,ff,rest,f,hn,E=>by
   have:=E.r0
   omega
 |n+1,former,ff,rest,f,hn,E=>by
   by_cases c:rest=1
   . erw[f,(EF E c hp).2.2]
   . let%[E2|lt]:=zM E c;exact EE hp n #[0] E2
def vW(h:Pr p)(hp:p<1002001):Pm p:=by
 let p1:1<p:=by have:=h.1;omega
 erw[p1,λa ha=>?_];let a0:0<a % p:=by
  have:=qG0 a (show p≠0 by omega)
  by_cases c:a % p=0
  . exact absurd (Int.dvd_of_emod_eq_zero c) ha
  . omega
 let a1:a % p<p:=qI0 _ #[0];let%[g|hg]:=EE p1 _ (zH0 _) (wS h hp a0 a1);erw[g,6];let e1:g*a % p=1:=by rw[←hg,jY1 g (a % p),wD0,←jY1]
 have:=qU1 (g*a) p
 erw[g*a / p,3]
def Pm.mul{a b:Int}(h:Pm p)(hd:p ∣ a*b)(ha:¬ p ∣ a):p ∣ b:=by
 let%[f,k|hk]:=h.2 a ha;erw[m,hm]at hd;erw[f*m-k*b,by grind]
def Pm.not_mul{a b:Int}(h:Pm p)(ha:¬ p ∣ a)(hb:¬ p ∣ b):¬ p ∣ a*b:=λz=>hb (h.mul z ha)
def ch:Nat->Nat->Nat
 |_,0=>1
 |0,_+1=>0
 |n+1,k+1=>ch n k+ch n (k+1)
def nQ(n:Nat):ch n 0=1:=by cases n <;> rfl
def oQ:∀(n k:Nat),n<k->ch n k=0
 |0,k+1,_=>rfl
 |n+1,k+1,h=>by
   show ch n k+ch n (k+1)=0;rw[oQ n k #[0],oQ n (k+1) #[0]]
def GX(n:Nat):ch n n=1:=by
 induction n with
 |zero=>rfl
 |succ n ih=>
   show ch n n+ch n (n+1)=1;rw[ih,oQ n (n+1) #[0]]
def vz:∀(n k:Nat),(k+1)*ch (n+1) (k+1)=(n+1)*ch n k
 |0,0=>rfl
 |0,k+1=>by
   show(k+2)*(ch 0 (k+1)+ch 0 (k+2))=1*ch 0 (k+1);rw[oQ 0 (k+1) #[0],oQ 0 (k+2) #[0]]
   simp
 |n+1,0=>by
   let h:=vz n 0;rw[nQ n]at h;show(0+1)*(ch (n+1) 0+ch (n+1) (0+1))=(n+1+1)*ch (n+1) 0;rw[nQ (n+1)];omega
 |n+1,k+1=>by
   let h1:=vz n k;let h2:=vz n (k+1);show(k+2)*(ch (n+1) (k+1)+ch (n+1) (k+2))=(n+2)*ch (n+1) (k+1);let e:ch (n+1) (k+1)=ch n k+ch n (k+1):=rfl
   grind
def sm(f:Nat->Int):Nat->Int
 |0=>0
 |n+1=>sm f n+f n
def qp{f g:Nat->Int}:∀n,(∀k,k<n->f k=g k)->sm f n=sm g n
 |0,_=>rfl
 |n+1,h=>by
   show sm f n+f n=sm g n+g n;rw[qp n (λk hk=>h k #[0]),h n #[0]]
def CI(f g:Nat->Int):∀n,sm (λk=>f k+g k) n=sm f n+sm g n
 |0=>rfl
 |n+1=>by
   show sm (λk=>f k+g k) n+(f n+g n)=(sm f n+f n)+(sm g n+g n)
   rw[CI f g n];omega
def CD(c:Int)(f:Nat->Int):∀n,sm (λk=>c*f k) n=c*sm f n
 |0=>by simp [sm]
 |n+1=>by
   show sm (λk=>c*f k) n+c*f n=c*(sm f n+f n)
   rw[CD c f n]
   grind
def my(f:Nat->Int):∀n,sm f (n+1)=f 0+sm (λk=>f (k+1)) n
 |0=>by simp [sm]
 |n+1=>by
   show sm f (n+1)+f (n+1)=f 0+(sm (λk=>f (k+1)) n+f (n+1))
   rw[my f n];omega
def CF{p:Int}{f:Nat->Int}:∀n,(∀k,k<n->p ∣ f k)->p ∣ sm f n
 |0,_=>%[(0)|by simp [sm]]
 |n+1,h=>wI1 (CF n λk hk=>h k #[0]) (h n #[0])
def Hs(a:Int):∀n:Nat,(a+1) ^ n=sm (λk=>(ch n k:Int)*a ^ k) (n+1)
 |0=>by simp [sm,ch]
 |n+1=>by
   let ih:=Hs a n;rw[jN1,ih,my (λk=>((ch (n+1) k:Nat):Int)*a ^ k) (n+1)];let e1:sm (λk=>((ch (n+1) (k+1):Nat):Int)*a ^ (k+1)) (n+1)=a*sm (λk=>(ch n k:Int)*a ^ k) (n+1)+sm (λk=>(ch n (k+1):Int)*a ^ (k+1)) (n+1):=by
    rw[←CD,←CI];apply qp _ λk _=>?_
    have:ch (n+1) (k+1)=ch n k+ch n (k+1):=rfl
    rw[this,wJ0,jN1]
    grind
   let e2:sm (λk=>(ch n k:Int)*a ^ k) (n+1)=1+sm (λk=>(ch n (k+1):Int)*a ^ (k+1)) (n+1):=by
    rw[my]
    have:sm (λk=>(ch n (k+1):Int)*a ^ (k+1)) (n+1)=sm (λk=>(ch n (k+1):Int)*a ^ (k+1)) n:=by
     show _+(ch n (n+1):Int)*a ^ (n+1)=_;rw[oQ n (n+1) #[0]]
     simp
    rw[this,nQ]
    simp
   rw[e1,nQ]
   grind
def Jb(h:Pm p){n k:Nat}(hn:(n:Int)+1=p)(hk:k<n):p ∣ ((ch (n+1) (k+1):Nat):Int):=by
 let e:((k:Int)+1)*((ch (n+1) (k+1):Nat):Int)=p*((ch n k:Nat):Int):=by
  have:=vz n k
  rw[←hn];exact_mod_cast this
 apply h.mul (a:=(k:Int)+1) %[_|e] λhd=>?_
 have:=jR0 #[0] hd
 omega
def rX(h:Pm p):∀a:Nat,p ∣ (a:Int) ^ p.toNat-a
 |0=>by
   have:p.toNat≠0:=by have:=h.1;omega
   simp [Int.zero_pow this]
 |a+1=>by
   let ih:=rX h a;obtain⟨n,hn⟩:∃n:Nat,p.toNat=n+1:=%[p.toNat-1|by have:=h.1;omega]
   let hp:(n:Int)+1=p:=by have:=h.1;omega
   rw [hn]at ih ⊢;let b:=Hs (a:Int) (n+1);let e:sm (λk=>(ch (n+1) k:Int)*(a:Int) ^ k) (n+1+1)=sm (λk=>(ch (n+1) (k+1):Int)*(a:Int) ^ (k+1)) n+(a:Int) ^ (n+1)+1:=by
    rw[my];show _+(sm _ n+(ch (n+1) (n+1):Int)*(a:Int) ^ (n+1))=_;rw[GX,nQ]
    simp
    omega
   let d:p ∣ sm (λk=>(ch (n+1) (k+1):Int)*(a:Int) ^ (k+1)) n:=CF n λk hk=>Int.dvd_mul_of_dvd_left (Jb h hp hk)
   erw[u,hu]at ih;erw[v,hv]at d;erw[u+v,6];rw[wJ0];show((a:Int)+1) ^ (n+1)-((a:Int)+1)=_;rw[b,e]
   grind
def IQ{a:Int}(h:Pm p)(ha:¬ p ∣ a)(a0:0<=a):p ∣ a*a ^ (p-2).toNat-1:=by
 obtain⟨n,hn⟩:∃n:Nat,p.toNat=n+2:=%[p.toNat-2|by have:=h.1;omega]
 let e:(p-2).toNat=n:=#[0]
 let f:=rX h a.toNat;rw[Int.toNat_of_nonneg a0,hn]at f;rw[e];let g:a ^ (n+2)-a=a*(a*a ^ n-1):=by
  rw[jN1,jN1]
  grind
 rw[g]at f;exact h.mul f ha
def IsPoly:Nat->(Int->Int)->Prop
 |0,f=>∀x,f x=0
 |n+1,f=>∃(a:Int)(g:Int->Int),IsPoly n g/\∀x,f x=a+x*g x
def IsPoly.congr:∀{n:Nat}{f g:Int->Int},IsPoly n f->(∀x,g x=f x)->IsPoly n g
 |0,_,_,h,e=>λx=>(e x).trans (h x)
 |_+1,_,_,⟨a,k,hk,h⟩,e=>%[a,k,hk|λx=>(e x).trans (h x)]
def IsPoly.zero:∀n:Nat,IsPoly n λ_=>0
 |0=>λ_=>rfl
 |n+1=>%[(0),λ_=>0,IsPoly.zero n|λx=>by simp]
def IsPoly.up:∀{n:Nat}{f:Int->Int},IsPoly n f->IsPoly (n+1) f
 |0,f,h=>%[(0),λ_=>0,λ_=>rfl|λx=>by rw[h x];simp]
 |n+1,f,⟨a,g,hg,h⟩=>%[a,g,hg.up|h]
def IsPoly.upTo{n:Nat}{f:Int->Int}(h:IsPoly n f):∀m,n<=m->IsPoly m f:=λm hm=>by
 obtain⟨k,rfl⟩:∃k,m=n+k:=%[m-n|3]
 clear hm
 induction k with
 |zero=>exact h
 |succ k ih=>exact ih.up
def IsPoly.add:∀{n:Nat}{f g:Int->Int},IsPoly n f->IsPoly n g->IsPoly n λx=>f x+g x
 |0,f,g,h,k=>λx=>by show f x+g x=0;rw[h x,k x];rfl
 |n+1,f,g,⟨a,u,hu,h⟩,⟨b,v,hv,k⟩=>%[a+b,λx=>u x+v x,hu.add hv|λx=>by show f x+g x=a+b+x*(u x+v x);rw[h x,k x];grind]
def IsPoly.mul(c:Int):∀{n:Nat}{f:Int->Int},IsPoly n f->IsPoly n λx=>c*f x
 |0,f,h=>λx=>by show c*f x=0;rw[h x];simp
 |n+1,f,⟨a,u,hu,h⟩=>%[c*a,λx=>c*u x,hu.mul c|λx=>by show c*f x=c*a+x*(c*u x);rw[h x];grind]
def IsPoly.lin{n:Nat}{f:Int->Int}(h:IsPoly n f)(r:Int):IsPoly (n+1) λx=>(x-r)*f x:=by
 let h1:IsPoly (n+1) λx=>x*f x:=%[(0),f,h|λx=>by simp]
 exact(h1.add (h.up.mul (-r))).congr λx=>by grind
def IsPoly.div:∀{n:Nat}{f:Int->Int},IsPoly (n+1) f->∀r:Int,∃q,IsPoly n q/\∀x,f x-f r=(x-r)*q x
 |0,f,⟨a,g,hg,h⟩,r=>%[λ_=>0,λ_=>rfl|λx=>by rw[h x,h r,hg x,hg r];simp]
 |n+1,f,⟨a,g,hg,h⟩,r=>by
   let%[q,hq|e]:=IsPoly.div hg r;erw[λx=>g x+r*q x,hg.add (hq.up.mul r),λx=>?_]
   have:=e x
   rw[h x,h r]
   grind
def IsPoly.roots(hp:Pm p):∀{n:Nat}{f:Int->Int}(rs:List Int),IsPoly n f->rs.length=n->rs.Pairwise (λa b=>¬ p ∣ b-a)->(∀r∈rs,p ∣ f r)->∀x,p ∣ f x
 |0,f,_,h,_,_,_,x=>%[(0)|by rw[h x];simp]
 |n+1,f,[],_,hl,_,_,_=>by simp at hl
 |n+1,f,r::rs,h,hl,hd,hr,x=>by
   let%[q,hq|e]:=h.div r;let hd':=List.pairwise_cons.mp hd;let z:=IsPoly.roots hp rs hq #[hl,0] hd'.2 (λs hs=>by
    let h1:p ∣ (s-r)*q s:=by
     rw[←e s];exact Int.dvd_sub (hr s (qK0 _ hs)) (hr r zX0)
    exact hp.mul h1 (hd'.1 s hs)) x
   have:f x=f r+(x-r)*q x:=by have:=e x;omega
   rw[this];exact wI1 (hr r zX0) (Int.dvd_mul_of_dvd_right z)
end Mine
namespace Mine
def pr(g:Nat->Int):Nat->Int
 |0=>1
 |n+1=>pr g n*g n
def qT{f g:Nat->Int}:∀n,(∀k,k<n->f k=g k)->pr f n=pr g n
 |0,_=>rfl
 |n+1,h=>by
   show pr f n*f n=pr g n*g n;rw[qT n (λk hk=>h k #[0]),h n #[0]]
def qS(g:Nat->Int):∀n,pr g (n+1)=g 0*pr (λk=>g (k+1)) n
 |0=>by simp [pr]
 |n+1=>by
   show pr g (n+1)*g (n+1)=g 0*(pr (λk=>g (k+1)) n*g (n+1))
   rw[qS g n,wX0]
def px(x:Int)(i:Nat):Nat->Int
 |0=>1
 |n+1=>if n=i then px x i n else px x i n*(x-n)
def zv(i:Nat):∀n,IsPoly (if i<n then n else n+1) λx=>px x i n
 |0=>%[(1),λ_=>0,λ_=>rfl|λx=>by simp [px]]
 |n+1=>by
   let ih:=zv i n
   by_cases c:n=i
   . subst c;rw[M6 (qS0 n)]at ih;rw[M8 (qM1 n)];exact ih.congr λx=>by simp [px]
   . let e:∀x,px x i (n+1)=(x-n)*px x i n:=λx=>by
      show(if n=i then px x i n else px x i n*(x-n))=_;rw[M6 c,jN0]
     by_cases c2:i<n
     . rw[M8 c2]at ih;rw[M8 #[0]];exact(ih.lin n).congr e
     . rw[M6 c2]at ih;rw[M6 #[0]];exact(ih.lin n).congr e
def uN{k i:Nat}(h:k≠i):∀n,k<n->px (k:Int) i n=0
 |n+1,hk=>by
   show(if n=i then px (k:Int) i n else px (k:Int) i n*((k:Int)-n))=0
   by_cases c:n=i
   . rw[M8 c];exact uN h n #[0]
   . rw [M6 c]
     by_cases c2:k=n
     . subst c2
       simp
     . rw [uN h n #[0]]
       simp
def lag(v u:Nat->Int)(n:Nat)(x:Int):Int:=sm (λi=>v i*px x i n*u i) n
def Fv{n m:Nat}{f:Nat->Int->Int}:(∀i,i<m->IsPoly n (f i))->IsPoly n λx=>sm (λi=>f i x) m:=by
 induction m with
 |zero=>exact λ_=>IsPoly.zero n
 |succ m ih=>exact λh=>(ih λi hi=>h i #[0]).add (h m #[0])
def wI(v u:Nat->Int)(n:Nat):IsPoly n (lag v u n):=Fv λi hi=>by
 let h:=zv i n;rw[M8 hi]at h;exact(h.mul (v i*u i)).congr λx=>by grind
def CC{f:Nat->Int}{k:Nat}:∀n,k<n->(∀i,i<n->i≠k->f i=0)->sm f n=f k
 |n+1,hk,h=>by
   show sm f n+f n=f k
   by_cases c:k=n
   . subst c;let z:sm f k=0:=by
      have:sm f k=sm (λ_=>0) k:=qp k λi hi=>h i #[0] #[0]
      rw[this];clear this h hk
      induction k with
      |zero=>rfl
      |succ k ih=>show sm (λ_=>0) k+0=0;rw[ih];rfl
     rw[z]
     simp
   . rw [CC n #[0] (λi hi=>h i #[0]),h n #[0] #[0]]
     simp
def Wgt(p:Int)(n:Nat)(u:Nat->Int):Prop:=∀i,i<n->p ∣ px (i:Int) i n*u i-1
def yG{k:Nat}(hu:Wgt p n u)(hk:k<n):p ∣ lag v u n k-v k:=by
 unfold lag;rw[CC n hk λi hi hne=>by rw[uN (Ne.symm hne) n hk];simp];let%[m|hm]:=hu k hk;erw[v k*m,by grind]
def far{p:Int}{n:Nat}(hn:(n:Int)<=p):((List.range n).map λk:Nat=>(k:Int)).Pairwise λa b=>¬ p ∣ b-a:=by
 rw[List.pairwise_map];apply List.Pairwise.imp_of_mem (fun{a b} ha hb h=>?_) List.pairwise_lt_range;intro d
 have:=jR0 #[0] d
 let hb':=List.mem_range.mp hb;omega
def alike(hp:Pm p){n:Nat}(hn:(n:Int)<=p){f g:Int->Int}(hf:IsPoly n f)(hg:IsPoly n g)(h:∀k:Nat,k<n->p ∣ f k-g k)(x:Int):p ∣ f x-g x:=by
 let hd:IsPoly n λx=>f x-g x:=(hf.add (hg.mul (-1))).congr λx=>by grind
 apply hd.roots hp ((List.range n).map λk:Nat=>(k:Int)) #[2] (far hn) (λr hr=>?_) x;let%[k,hk|1]:=List.mem_map.mp hr;exact h k (List.mem_range.mp hk)
def wH(hp:Pm p){n:Nat}(hn:(n:Int)<=p){v:Nat->Int}{P:Int->Int}(hu:Wgt p n u)(hP:IsPoly n P)(h:∀k:Nat,k<n->p ∣ v k-P k)(x:Int):p ∣ lag v u n x-P x:=
 alike hp hn (wI v u n) hP (λk hk=>by
  let h1:=yG (v:=v) hu hk;let h2:=h k hk
  have:lag v u n k-P k=(lag v u n k-v k)+(v k-P k):=#[0]
  rw[this];exact wI1 h1 h2) x
def El(hp:Pm p){n:Nat}(hn:(n:Int)<=p)(hu:Wgt p n u)(hu':Wgt p n u')(x:Int):p ∣ lag v u n x-lag v u' n x:=
 wH hp hn hu (wI v u' n) (λk hk=>by
  let%[m|hm]:=yG (v:=v) hu' hk;erw[-m,by grind]) x
def qP(x:Int)(i:Nat):∀m,px x i (i+1+m)=pr (λj=>x-j) i*pr (λj=>x-(i+1+j:Nat)) m
 |0=>by
   let h:∀k,k<=i->px x i k=pr (λj=>x-j) k:=λk=>by
    induction k with
    |zero=>exact λ_=>rfl
    |succ k ih=>
      intro hk;show(if k=i then px x i k else px x i k*(x-k))=pr (λj=>x-j) k*(x-k)
      rw[M6 #[0],ih #[0]]
   show(if i=i then px x i i else _)=_*1;rw[M8 rfl,h i (zH0 _),wV0]
 |m+1=>by
   show(if i+1+m=i then _ else px x i (i+1+m)*(x-(i+1+m:Nat)))=pr (λj=>x-j) i*(pr (λj=>x-(i+1+j:Nat)) m*(x-(i+1+m:Nat)))
   rw[M6 #[0],qP x i m,wX0]
def zx(x:Int)(i:Nat):∀m,pr (λj=>x-(i+m:Nat)+j) m=pr (λj=>x-(i+1+j:Nat)) m
 |0=>rfl
 |m+1=>by
   rw[qS];show _=pr (λj=>x-(i+1+j:Nat)) m*(x-(i+1+m:Nat))
   let e:pr (λk=>x-(i+(m+1):Nat)+(k+1:Nat)) m=pr (λj=>x-(i+m:Nat)+j) m:=qT m λk _=>#[0]
   rw[e,zx x i m,jN0]
   congr 1
   omega
def fac:Nat->Int
 |0=>1
 |n+1=>fac n*((n:Int)+1)
def wR:∀n:Nat,pr (λj=>(n:Int)-j) n=fac n
 |0=>rfl
 |n+1=>by
   rw[qS];let e:pr (λk=>((n+1:Nat):Int)-(k+1:Nat)) n=pr (λj=>(n:Int)-j) n:=qT n λk _=>#[0]
   rw[e,wR n];show((n+1:Nat)-(0:Nat):Int)*fac n=fac n*((n:Int)+1)
   rw[jN0]
   congr 1
def zL(i:Nat):∀m:Nat,pr (λj=>(i:Int)-(i+1+j:Nat)) m=(-1) ^ m*fac m
 |0=>rfl
 |m+1=>by
   show pr _ m*((i:Int)-(i+1+m:Nat))=(-1) ^ (m+1)*(fac m*((m:Int)+1))
   rw[zL i m,jN1]
   have:((i:Int)-(i+1+m:Nat))=-((m:Int)+1):=#[0]
   rw[this]
   grind
def Dm(i m:Nat):px (i:Int) i (i+1+m)=fac i*((-1) ^ m*fac m):=by rw[qP,wR,zL]
def wQ:∀(k d:Nat),fac d*pr (λj=>((d+k:Nat):Int)-j) k=fac (d+k)
 |0,d=>by simp [pr]
 |k+1,d=>by
   let ih:=wQ k (d+1);rw[show d+1+k=d+(k+1) by omega]at ih;rw[←ih];show fac d*(pr (λj=>((d+(k+1):Nat):Int)-j) k*(((d+(k+1):Nat):Int)-k))=fac d*((d:Int)+1)*pr (λj=>((d+(k+1):Nat):Int)-j) k
   have:(((d+(k+1):Nat):Int)-k)=(d:Int)+1:=#[0]
   rw[this]
   grind
def vv(hp:Pm p):∀n:Nat,(n:Int)<p->¬ p ∣ fac n
 |0,_=>λd=>by
   have:=jR0 ⋯ (show p ∣ 1 from d)
   have:=hp.1
   omega
 |n+1,h=>hp.not_mul (vv hp n #[0]) λd=>by
   have:=jR0 #[0] d
   omega
def zo(m:Nat):((-1:Int) ^ m)*(-1) ^ m=1:=by
 induction m with
 |zero=>rfl
 |succ m ih=>rw[jN1];grind
def HY(hp:Pm p){n i:Nat}(hn:(n:Int)<=p)(hi:i<n):¬ p ∣ px (i:Int) i n:=by
 obtain⟨m,rfl⟩:∃m,n=i+1+m:=%[n-(i+1)|3]
 rw[Dm];apply hp.not_mul (vv hp i #[0]) (hp.not_mul (λd=>?_) (vv hp m #[0]));erw[k,hk]at d;let s:=zo m
 have:p ∣ 1:=%[k*(-1) ^ m|by grind]
 have:=jR0 ⋯ this
 have:=hp.1
 omega
def Fd{p:Int}{last:Nat}{sh:Nat->Int}(h:∀k,k<=last->p ∣ sh k*fac k-1):Wgt p (last+1) λi=>(-1) ^ (last-i)*(sh i*sh (last-i)):=λi hi=>by
 obtain⟨m,rfl⟩:∃m,last=i+m:=%[last-i|3]
 show p ∣ px (i:Int) i (i+m+1)*((-1) ^ (i+m-i)*(sh i*sh (i+m-i)))-1;rw[show i+m+1=i+1+m by omega,Dm,show i+m-i=m by omega];let%[a|ha]:=h i #[0];let%[b|hb]:=h m #[0];let s:=zo m;erw[a*(sh m*fac m)+b,6];let e:fac i*((-1) ^ m*fac m)*((-1) ^ m*(sh i*sh m))=((-1) ^ m*(-1) ^ m)*((sh i*fac i)*(sh m*fac m)):=by grind
 rw[e,s]
 grind
end Mine
namespace Mine
def IsPoly.prod:∀{m n:Nat}{f g:Int->Int},IsPoly (m+1) f->IsPoly (n+1) g->IsPoly (m+n+1) λx=>f x*g x
 |0,n,f,g,⟨a,u,hu,e⟩,hg=>by
   rw[Nat.zero_add];exact(hg.mul a).congr λx=>by rw[e x,hu x];simp
 |m+1,n,f,g,⟨a,u,hu,e⟩,hg=>by
   let ih:=IsPoly.prod hu hg;let h1:IsPoly (m+n+1+1) λx=>x*(u x*g x):=%[(0),_,ih|λx=>by simp]
   let h2:IsPoly (m+n+1+1) λx=>a*g x:=(hg.mul a).upTo _ #[0]
   rw[show m+1+n+1=m+n+1+1 by omega];exact(h2.add h1).congr λx=>by rw[e x];grind
def IsPoly.const(c:Int)(n:Nat):IsPoly (n+1) λ_=>c:=%[c,λ_=>0,IsPoly.zero n|λx=>by simp]
def IsPoly.self:IsPoly 2 λx=>x:=%[(0),λ_=>1,IsPoly.const 1 0|λx=>by simp]
def rY(p x:Int):p ∣ x % p-x:=⟨-(x / p),by
 have:=qU1 x p
 rw[Int.mul_neg];omega⟩
end Mine
namespace Mine
open PySem L2
def GE{us:List Value}(h:us.length=1):∃a,us=[a]:=by
 cases us with
 |nil=>cases h
 |cons a r=>
   cases r with
   |nil=>erw[a,1]
   |cons _ _=>cases h
def Bo{us:List Value}{n:Nat}(h:us.length=n+1):∃a r,us=a::r/\r.length=n:=by
 cases us with
 |nil=>cases h
 |cons a r=>erw[a,r,1,Nat.succ.inj h]
def Iy{us:List Value}(h:us.length=2):∃a b,us=[a,b]:=by
 let%[a,r,1|h1]:=Bo h;let%[b|1]:=GE h1;erw[a,b,1]
def Ix{us:List Value}(h:us.length=3):∃a b c,us=[a,b,c]:=by
 let%[a,r,1|h1]:=Bo h;let%[b,c|1]:=Iy h1;erw[a,b,c,1]
def Ei{us:List Value}(h:us.length=4):∃a b c d,us=[a,b,c,d]:=by
 let%[a,r,1|h1]:=Bo h;let%[b,c,d|1]:=Ix h1;erw[a,b,c,d,1]
def len5{us:List Value}(h:us.length=5):∃a b c d e,us=[a,b,c,d,e]:=by
 let%[a,r,1|h1]:=Bo h;let%[b,c,d,e|1]:=Ei h1;erw[a,b,c,d,e,1]
def len6{us:List Value}(h:us.length=6):∃a b c d e f,us=[a,b,c,d,e,f]:=by
 let%[a,r,1|h1]:=Bo h;let%[b,c,d,e,f|1]:=len5 h1;erw[a,b,c,d,e,f,1]
def len7{us:List Value}(h:us.length=7):∃a b c d e f g,us=[a,b,c,d,e,f,g]:=by
 let%[a,r,1|h1]:=Bo h;let%[b,c,d,e,f,g|1]:=len6 h1;erw[a,b,c,d,e,f,g,1]
def top(i:Nat):Stmt:=PySem.Challenge.pw_asktally_k83_whole_talks.main.body.getD i (.Pass %[(0),(0),(0)|(0)])
example:=[ma,12,jz,13,kE,14,lS,16,kH,17,io,18,lW,19,eA,20,iu,22,jA,23,qG,24,me,25,ip,26,lh,27,jt,28,kJ,31,jr,32,kG,34,lT,35,jq,39,lX,40,oB,41,jC,46,qw,47,jp,49,ir,50,kF,54,hE,55,ju,56,jv,57,ky,58,qF,60,gZ,61,xV,62,oz,72,jy,73,iM,81,jB,82,kx,83,iq,84,iF,85,dO,86,qH,89,ku,91,lU,92,kq,93,lV,94,qE,96,qz,97,cq,98,mN,99,hZ,100,qA,101,jx,102,ox,103,qC,104,mO,105,lZ,106,qB,107,oy,108,kC,109,li,111,uB,112,jw,115,uA,116,qy,117,kz,118,lY,119,qD,120,mK,121]
section
variable {P:Program}{w:World}{K:W.Frag}{mg:#[9]}{base:Heap}
example:=[dB,30,kI,37,ow,44,uD,53]
structure Bl(mg:#[9]):Prop where
 len:mg "len"=none
 range:mg "range"=none
 isinstance:mg "isinstance"=none
 int:mg "int"=none
 bool:mg "bool"=none
 list:mg "list"=none
 tuple:mg "tuple"=none
 max:mg "max"=none
 min:mg "min"=none
 reversed:mg "reversed"=none
 enumerate:mg "enumerate"=none
 sum:mg "sum"=none
 all:mg "all"=none
 str:mg "str"=none
def zK(z:Int):0<=z % 2147483646+1/\z % 2147483646+1<=2147483646:=#[0]
def f6:FnScope ["_law_script","_law_k","_law_cell","_law_own"] Wu (ao qE):=%[|5]
def AU(F:#["_law_feed",qE])(hlen:mg "len"=none):#[1,f,fd,Wu,spFeed K]:=by
 exists f6
 erw[a,ns,k,1,hS,h63,k0,k1,q]at h;refine⟨_,(aa #[aj,2,f6,au aS (au ci af (pv 1)) af]
  (aa (aJ (ai dG (pv 1) (aI aG rfl hlen zB1 %[0|aQ]) (ax _)) (ae #[aj,2,f6,aN ix_list (pv 0) (pv 1) #[1]]) (ae (aJ (ai iy (aI aG rfl hlen zB1 %[0|aQ]) af (ax _)) (ae #[aj,2,f6,au aS (au ci (au bb (aN ix_list (pv 0) (au bb (pv 1) (aI aG rfl hlen zB1 %[0|aQ])) #[1]) af) af) (au ci af (pv 1))]) aB)))
  (aa #[aj,3,f6,af]
  (aa (aJ (ai Hl (pv 2) (au DF af af) (ax _)) (ae #[aj,3,f6,pv 2]) aB)
  (ae (ay (cS %[3,au aS (au bb (au aS (au ci (au bb (pv 2) af) af) (au ci af (pv 1))) af) af|aQ]))))))),?_⟩
 let hl:(ns.map V.int).length=ns.length:=zF0 _;let hp:(10:Int) ^ (18:Int).toNat=1000000000000000000:=by decide
 erw[0,2,.inl %[4|4],2,6];erw[0,0,a,0,.inl hS,2,0,6];apply rP (λc=>?b1) (λc=>?b2)
 case' b1=>
  let c':k<(((ns.map V.int).length:Nat):Int):=zU1 c;rw[hl]at c';let%[v|hv]:=EY (ns:=ns) k0 c';erw[0,0,a,_,2,hS,hv,6]
 case' b2=>
  erw[0,a,0,.inl hS,2,0,6];apply rP (λc2=>?b3) (λc2=>?b4)
  case' b3=>
   let c':(0:Int)<(((ns.map V.int).length:Nat):Int):=zU1 c2;let m0:=qG0 k (b:=(((ns.map V.int).length:Nat):Int)) #[0];let m1:=qI0 k c';let%[v|hv]:=EY (ns:=ns) m0 (by rw[hl]at m1 ⊢;exact m1);let n0:=qG0 v (b:=2147483629) ⋯;let n1:=qI0 v (b:=2147483629) ⋯;erw[0,0,0,a,0,.inl hS,2,c',a,_,2,hS,hv,2,(by show(0:Int)<_;decide),2,.inr %[4|4],0,2,.inl %[4|4],2,6]
 all_goals
  erw[0,2,%[4,4|4],2,0,6];apply rP (λc3=>?_) (λc3=>?_)
  . let c4:=zU1 c3;rw[hp]at c4;erw[0,0,0,2,(by show(0:Int)<_;decide),2,.inr %[4|4],0,2,.inl %[4|4],2,2,(by show(0:Int)<_;decide),2,y2S,λp hp=>?_];apply q p _ hp (zC0 hp _) %[_,_,aP,Int.le_trans ⋯ c4,(zK _).1|(zK _).2]
  . erw[0,0,2,(by show(0:Int)<_;decide),2,.inr %[4|4],0,2,.inl %[4|4],2,2,(by show(0:Int)<_;decide),2,y2S,λp hp=>?_];apply q p _ hp (zC0 hp _) %[_,_,aP,zT1 0,(zK _).1|(zK _).2]
def o4:FnScope ["_law_feed_here","_law_many","_law_digit","_law_one"] WE (ao qz):=%[|5]
def AO(F:#["_law_take",qz]):#[1,f,fd,WE,spTake]:=by
 exists o4
 erw[f,m,1,%[own,st,hf,o0,s0|s1],m0,m1,q]at h;refine⟨_,(aa (aJ (ai iy (aN ix_list (pv 0) af #[1]) af (ax _)) (aa #[aj,2,o4,au bb (aN ix_list (pv 0) af #[1]) (pv 1)]
  (aa (oF (au DG (aN ix_list (pv 0) af #[1]) (pv 1)) (yh (pv 0) af qu))
  (ae (ay (pv 2))))) aB)
  (aa #[aj,3,o4,au bb (au ci (aN ix_list (pv 0) af #[1]) af) af]
  (aa (oF (au aS (au bb (au aS (au ci (pv 3) af) af) af) af) (yh (pv 0) af qu))
  (ae (ay (au bb (au zD (au aS (au ci (pv 3) af) (aN ix_list (pv 0) af #[1])) af) (pv 1))))))),?_⟩
 erw[0,f,_,(0),0,1,zG0 hf,1,2,0,6];apply rP (λc=>?_) (λc=>?_)
 . erw[0,f,_,(0),0,1,zG0 hf,1,0,2,m0,6];erw[0,f,_,(0),0,1,zG0 hf,1,0,2,%[m0|m1],0,f,_,(0),(0),1,1,hf,1,6];erw[0,6];exact q _ _ (qG0 _ #[0]) (qI0 _ m0) ⟨_,_,aP,Int.ediv_nonneg o0 #[0],s0,s1⟩ (SameBut.upd _)
 . let a0:=qG0 (st*69621) (b:=2147483647) ⋯;let a1:=qI0 (st*69621) (b:=2147483647) ⋯;erw[0,f,_,(1),0,1,zG0 hf,1,2,.inr %[4|4],2,(by show(0:Int)<_;decide),6];erw[0,2,.inr %[4|4],2,2,(by show(0:Int)<_;decide),2,0,f,_,(1),(1),1,1,hf,1,6];let b0:=qG0 (st*69621 % 2147483647*48271+30103) (b:=2147483646) ⋯;let b1:=qI0 (st*69621 % 2147483647*48271+30103) (b:=2147483646) ⋯;erw[0,2,.inr %[4|4],0,f,_,(1),0,1,zG0 aP,1,2,2,%[4|4],0,2,m0,6];exact q _ _ (qG0 _ #[0]) (qI0 _ m0) ⟨_,_,aP,o0,#[0],#[0]⟩ (SameBut.upd _)
def ie:FnScope ["_law_feed_here","_law_names_here","_law_room","_law_deep","_law_form","_law_more","_law_one","_law_word"] WQ (ao mN):=%[|5]
def lf{a X Y B:Prop}[Decidable a](x:X)(h:¬ a->X->B):if decide a=true then(if true=true then X else Y)else B:=by
 by_cases c:a
 . rw[zC1 c];exact dU (dU x)
 . rw[zD1 c];exact cM (h c x)
def Af{n:Nat}(F:#["_law_tree",mN])(hlen:mg "len"=none)(a7:#[1,"_law_take",WE,spTake])
 (fY:#[n+2,"_law_tree",WQ,spTree n]):#[n+3,f,fd,WQ,spTree (n+1)]:=by
 exists ie
 erw[f,a,room,deep,ns,1,hF,hN,nl,r1,r100,d1,dn,q]at h;refine⟨_,(aa #[aj,4,ie,am a7 hr (zG1 (zP0 _)) rfl %[0,af|aQ]]
  (aa (aJ (PW.pt (eC (ai dG (pv 2) af (ax _)) (eC (ai dG (pv 3) af (ax _)) (dM (ai aR (pv 4) af (ax _)))))) (aa (aJ (PW.pt (eC (ai aR (au bb (pv 4) af) af (ax _)) (dM (ai aR (aI aG rfl hlen zB1 %[1|aQ]) af (ax _))))) (ae (ay (aN ix_list (cS %[aM %[aq|aQ],aM %[aq|aQ]|aQ]) (am a7 hr (zG1 (zP0 _)) rfl %[0,af|aQ]) #[1]))) aB)
   (ae (ay (aM %[aq,aN (ix_list.or ix_tup) (pv 1) (am a7 hr (zG1 (zP0 _)) rfl %[0,aI aG rfl hlen zB1 %[1|aQ]|aQ]) #[1]|aQ])))) aB)
  (aa (aJ (PW.pt (eC (ai dG (pv 2) af (ax _)) (dM (ai aR (pv 4) af (ax _))))) (ae (ay (aM %[aq,am fY hr (zH0 _) rfl %[0,1,au bi (pv 2) af,au bi (pv 3) af|aQ]|aQ]))) aB)
  (aa #[aj,5,ie,au aS af (am a7 hr (zG1 (zP0 _)) rfl %[0,au bi (pv 2) af|aQ])]
  (aa #[aj,6,ie,am fY hr (zH0 _) rfl %[0,1,5,au bi (pv 3) af|aQ]]
  (aa #[aj,7,ie,aN ix_list (cS %[aq,aq,aq,aq|aQ]) (au bb (pv 4) af) #[1]]
  (ae (ay (aM %[7,6,am fY hr (zH0 _) rfl %[0,1,au bi (au bi (pv 2) af) (pv 5),au bi (pv 3) af|aQ]|aQ]))))))))),?_⟩
 erw[0,f,(10),1,hF,4,4,λfm H1 f0 f10 F1 S1=>?_];let N1:=hN.feed hF S1;erw[0,2,0,6];apply lf ?leaf λc1 hX=>?_
 case leaf=>
  erw[0,2,(by show(0:Int)<_;decide),1,0,6];apply lf ?yn λc6 hY=>?_
  case yn=>
   erw[y1S,λp1 h1=>?_];erw[y1S,λp2 h2=>?_];erw[y2S,λl hl=>?_];let ga:=zC0 h1 (.tup [.str "yes"]);let gb:=zC0 h2 (.tup [.str "no"]);let gc:=zC0 hl (.lst [.ref p1,.ref p2]);let G:=ga.trans (gb.trans gc);let nlf:=(F1.same (ga.trans gb)).ne hl;erw[0,f,(2),1,F1.same G,4,4,λd H2 d0 d2 F2 S2=>?_];let y2:H2 p1=some (.tup [.str "yes"]):=bc (F1.same G) S2 _ _ (gc _ _ (gb _ _ aP));let n2:H2 p2=some (.tup [.str "no"]):=bc (F1.same G) S2 _ _ (gc _ _ aP);let l2:=S2 l _ nlf aP
   have:d=0∨d=1:=#[0]
   rcases this with rfl | rfl
   . erw[l,_,(0),0,1,zG0 l2,1,q (.ref p1) .yes H2 F2 (S1.trans ((zJ0 G).trans S2)) (.yes y2) trivial (show(1:Int)<=room from r1) (show(1:Int)<=deep from d1)]
   . erw[l,_,(1),0,1,zG0 l2,1,q (.ref p2) .no H2 F2 (S1.trans ((zJ0 G).trans S2)) (.no n2) trivial (show(1:Int)<=room from r1) (show(1:Int)<=deep from d1)]
  erw[0,a,0,N1.seq,1,0,6]
  by_cases c7:V.int ((ns.map V.str).length:Int)=V.int 0
  . exact aX c7 hY
  apply aD c7 ?_;let nz:0<ns.length:=by
   let z:¬ ((ns.map V.str).length:Int)=0:=λz=>c7 (congrArg V.int z)
   rw[zF0]at z;omega
  erw[0,0,0,a,0,N1.seq,f,0,F1,(show(0:Int)<((ns.map V.str).length:Int) by rw[zF0];omega),by rw[zF0];omega,λd H2 d0 d9 F2 S2=>?_];let%[v,hv|vm]:=oa (l:=ns.map V.str) (i:=d) d0 d9;let%[x,hx|1]:=List.mem_map.mp vm;refine(N1.feed F1 S2).ix hv ?_;erw[y2S,λp hp=>?_];let G:=zC0 hp (.tup [.str "is",.str x]);exact q (.ref p) (.is x) _ (F2.same G) (S1.trans (S2.trans (zJ0 G))) (.is aP) hx (show(1:Int)<=room from r1) (show(1:Int)<=deep from d1)
 erw[0,2,0,6]
 by_cases c2:deep<2
 . exact aX c2 (dU hX)
 apply aD c2 ?_;erw[0,1,0,6]
 by_cases c3:V.int fm=V.int 9
 . exact aX c3 hX
 apply aD c3 ?_;erw[0,2,0,6];let d2:2<=deep:=#[0]
 let dd:1<=deep-1:=#[0]
 let ddn:deep-1+1<=(n:Int)+1:=#[0]
 apply lf ?nt λc4 hN=>?_
 case nt=>
  erw[0,0,0,2,0,2,f,a,_,_,ns,1,F1,N1,nl,(show 1<=room-1 by omega),3,dd,ddn,λv1 t1 H3 F3 S3 T1 o1 z1 p1=>?_];erw[y2S,λp hp=>?_];let G5:=zC0 hp (.tup [.str "not",v1]);apply q (.ref p) (.not t1) _ (F3.same G5) (S1.trans (S3.trans (zJ0 G5))) (.not aP (T1.mono (bh G5))) o1 ?_ ?_
  . show((t1.size+1:Nat):Int)<=room;omega
  . show((t1.depth+1:Nat):Int)<=deep;omega
 erw[0,1,0,6]
 by_cases c5:V.int fm=V.int 8
 . exact aX c5 hN
 apply aD c5 ?_;erw[0,0,2,f,0,F1,(show(0:Int)<room-2 by omega),(show room-2<2 ^ 63 by omega),λe H2 e0 e1 F2 S2=>?_];erw[2,6];let N2:=N1.feed F1 S2;erw[0,0,0,0,2,f,a,_,_,ns,1,F2,N2,nl,3,3,dd,ddn,λv1 t1 H3 F3 S3 T1 o1 z1 p1=>?_];let N3:=N2.feed F2 S3;erw[y4S,λl hl=>?_];let%[wd,hw|wm]:=oa (l:=joinW.map V.str) (i:=fm % 4) #[0] (by
  have:(joinW.map V.str).length=4:=by rfl
  omega)
 let%[x,hx|1]:=List.mem_map.mp wm;erw[0,2,(by show(0:Int)<_;decide),l,_,2,zG0 aP,hw,6];let G:=zC0 hl (.lst [.str "and",.str "or",.str "odd",.str "same"]);erw[0,0,0,0,0,2,0,2,0,2,f,a,_,_,ns,1,F3.same G,N3.same G,nl,(show 1<=room-1-(1+e) by omega),3,dd,ddn,λv2 t2 H4 F4 S4 T2 o2 z2 p2=>?_];erw[y3S,λp hp=>?_];let G5:=zC0 hp (.tup [.str x,v1,v2]);let T1':TreeAt H4 v1 t1:=(T1.mono (bh G)).mono (bc (F3.same G) S4);apply q (.ref p) (.bin x t1 t2) _ (F4.same G5) (S1.trans (S2.trans (S3.trans ((zJ0 G).trans (S4.trans (zJ0 G5)))))) (.bin aP (T1'.mono (bh G5)) (T2.mono (bh G5))) %[hx,o1|o2] ?_ ?_
 . show((t1.size+t2.size+1:Nat):Int)<=room;omega
 . show((max t1.depth t2.depth+1:Nat):Int)<=deep;omega
def Ae:#[2,f,fd,WQ,spTree 0]:=by
 let no:∀vs H Q E,¬ spTree 0 vs H Q E:=λvs H Q E h=>by
  erw[f,a,room,deep,ns,_,_,_,_,_,_,h1,h2,_]at h;omega
 exists 3
def tu(F:#["_law_tree",mN])(hlen:mg "len"=none)(m:mg "_law_tree"=some (.ref f))(a7:#[1,"_law_take",WE,spTake]):
 ∀n:Nat,#[n+2,f,fd,WQ,spTree n]
 |0=>Ae
 |n+1=>Af F hlen a7 (Cal.of F (tu F hlen m a7 n) m (λ_ _ _ _ _ _ us hl=>by let%[u0,u1,u2,u3|1]:=Ei hl;rfl))
def IG:Stmt->List Stmt
 |.If _ b _ _=>b
 |_=>[]
def IF:Stmt->Expr
 |.If c _ _ _=>c
 |_=>.Constant .none 0 %[(0),(0),(0)|(0)]
def Cf:Stmt->Expr
 |.Assign _ v _=>v
 |.Return (some v) _=>v
 |_=>.Constant .none 0 %[(0),(0),(0)|(0)]
def yR:Expr->List Expr
 |.List es _=>es
 |.BinOp _ _ (.List es _) _=>es
 |.Subscript (.List es _) _ _=>es
 |_=>[]
abbrev stm(s:Stmt)(i:Nat):Stmt:=(gJ s).getD i (.Pass %[(0),(0),(0)|(0)])
abbrev Ft(s:Stmt)(i j:Nat):Stmt:=(IG (stm s i)).getD j (.Pass %[(0),(0),(0)|(0)])
def wordsA:List Str:=["is","set","say","if","go","end","num","box","op","field","holds","claims"]
def wordsB:List Str:=["nota","nob","yesx","andy","ors","oddly"]
def wordsC:List Str:=["samey","rounds","dues","coins","truex","asks"]
@[irreducible] def yA:List Expr:=yR (Cf (Ft cq 6 0))
@[irreducible] def yz:List Expr:=yR (Cf (Ft cq 6 1))
@[irreducible] def yy:List Expr:=yR (Cf (Ft cq 6 2))
def Ec:Consts yA wordsA:=by
 unfold yA;exact .cons (.cons (.cons (.cons (.cons (.cons (.cons (.cons (.cons (.cons (.cons (.cons .nil)))))))))))
def Eb:Consts yz wordsB:=by
 unfold yz;exact .cons (.cons (.cons (.cons (.cons (.cons .nil)))))
def Ea:Consts yy wordsC:=by
 unfold yy;exact .cons (.cons (.cons (.cons (.cons (.cons .nil)))))
def yx:∃p1 p2 p3 p4 p5 p6 p7 p8 p9 q1 q2 q3 q4 q5,gJ cq=[stm cq 0,stm cq 1,stm cq 2,stm cq 3,stm cq 4,stm cq 5,
 .If (IF (stm cq 6)) [.Assign [.Name "_law_words" p1] (.List yA p2) p3,.Assign [.Name "_law_words" p4] (.BinOp (.Name "_law_words" p5) .Add (.List yz p6) p7) p8,.Assign [.Name "_law_words" p9] (.BinOp (.Name "_law_words" q1) .Add (.List yy q2) q3) q4,Ft cq 6 3] [] q5,stm cq 7]:=
 %[_,_,_,_,_,_,_,_,_,_,_,_,_,_|by rfl']
def LTR:Str:="bcdfghjklmnpqrstvwxz"
def Iu:∀c∈LTR.cps.toList,c≠97:=by decide
def yF:∀c∈LTR.cps.toList,97<=c/\c<=122:=by decide
def BZ:∀x∈(wordsA++wordsB)++wordsC,x.length<=20/\(∀c∈x.cps.toList,97<=c/\c<=122)/\x≠"aa":=by decide
instance spNamesN:∀(f:Addr)(m:Int),vs=[.ref f,.int m]->FeedAt H f->0<=m->m<=6->(∀(l:Addr)(ns:List Str)(H':Hp),H l=none->l≠f->H' l=some (.lst (ns.map V.str))->ns.length=m.toNat->(∀x∈ns,zc x)->ns.Nodup->FeedAt H' f->SameBut f H H'->Q (.ref l) H'):=1
def zW:∀x∈(wordsA++wordsB)++wordsC,∃c∈x.cps.toList,c∉LTR.cps.toList:=by decide
def Gx:∀a b:Fin 20,LTR.cps.toList[a.val]?=LTR.cps.toList[b.val]?->a=b:=by decide
def DZ{ns:List Str}{t:Nat}{u:Int}(u0:0<=u)(u20:u<20)(hl:ns.length<=6)(h:∀(k:Nat) x,ns[k]?=some x->x.cps.toList[t]?=LTR.cps.toList[((u+7*(k:Int)) % 20).toNat]?):ns.Nodup:=by
 apply List.pairwise_iff_getElem.mpr λi j hi hj ij e=>?_
 let h1:=h i _ (zN0 hi);let h2:=h j _ (zN0 hj);rw[e]at h1;let h3:=h1.symm.trans h2;let h4:=Gx %[((u+7*(i:Int)) % 20).toNat|3] ⟨((u+7*(j:Int)) % 20).toNat,#[0]⟩ h3;let h5:=congrArg Fin.val h4;simp only at h5;omega
def Il{ns:List Str}{x:Str}{j:Nat}(h:ns.Nodup)(hx:x∉ns):(ns.set j x).Nodup:=by
 apply List.pairwise_iff_getElem.mpr λa b ha hb ab=>?_
 rw[List.length_set]at ha hb;rw[List.getElem_set,List.getElem_set]
 split
 . split
   . omega
   . intro e;exact hx (e▸qP0 hb)
 . split
   . intro e;exact hx (e▸qP0 ha)
   . exact List.pairwise_iff_getElem.mp h a b ha hb ab
def Jg{α:Type}{l:List α}{i:Int}{v:α}(h0:0<=i)(h:atI l i=some v):l[i.toNat]?=some v:=by
 let ek:((i.toNat:Nat):Int)=i:=#[0]
 by_cases c:i.toNat<l.length
 . let q:atI l ((i.toNat:Nat):Int)=some l[i.toNat]:=bv (zN0 c);rw[ek,h]at q;rw[zN0 c];exact q.symm
 . exfalso
   unfold atI ixN at h;rw[M8 h0,M6 #[0]]at h;cases h
def Cw{zs:List Str}(h:∀z∈zs,z.length=1/\∀c∈z.cps.toList,c∈LTR.cps.toList):(zs.map (·.length)).sum=zs.length:=by
 induction zs with
 |nil=>rfl
 |cons a r ih=>
   rw[qC0,zP1,ih λz hz=>h z (qK0 _ hz),(h a zX0).1,zR0];omega
def bN:FnScope ["_law_feed_here","_law_many","_law_letters","_law_common","_law_at","_law_first","_law_found","_law_k","_law_tail","_law_sign","_law_words"] WE (ao cq):=%[|5]
def nO{p:Addr}(F:FeedAt H f)(h:p≠f):FeedAt (upd H p o) f:=by
 erw[x,t,e,r]at F;erw[x,t,by rw[aE (Ne.symm h)];exact e,r]
def yk(F:#["_law_names",cq])(hrange:mg "range"=none)(a7:#[1,"_law_take",WE,spTake]):#[2,f,fd,WE,spNamesN]:=by
 exists bN
 erw[f,m,1,hF,m0,m6,q]at h;erw[p1,p2,p3,p4,p5,p6,p7,p8,p9,q1,q2,q3,q4,q5,ebody]at yx;rw[ebody];refine⟨_,(aa (aj (i:=2) bN.nd rfl (Or.inr rfl) aq)
  (aa (aj (i:=3) bN.nd rfl (.inl rfl) (dC zV1 jZ0 jZ1 vi aq (ag (cw (N:=["_law_letters","_law_feed_here"]) (ix:=[2,0]) rfl
   #[4] rfl
   (cr rfl hrange %[af|aQ])
   (λ_ _ _=>cF (aN rO (pv 1) (am a7 hr ⋯ rfl %[2,af|aQ]) #[1]))) aQ)))
  (aa #[aj,4,bN,am a7 hr ⋯ rfl %[0,af|aQ]]
  (aa #[aj,5,bN,am a7 hr ⋯ rfl %[0,af|aQ]]
  (aa #[aj,6,bN,cS aQ]
  (aa (cu zF1 rfl (cr rfl hrange %[1|aQ]) (aU (i:=7) bN.nd rfl (.inl rfl)) (aa #[aj,8,bN,au bb (am a7 hr ⋯ rfl %[0,au bi af (pv 4)|aQ]) af]
   (aa #[aj,9,bN,aN rO (pv 2) (au bb (au aS (pv 5) (au ci af (pv 7))) af) #[1]]
   (ae (aW (dC zE1 zH1 zI1 cf (pv 6) %[au rj (au rj (fg xL (pv 3) jG (fe (pv 4))) (pv 9)) (fg xL (pv 3) (fe (pv 4)) (fe (au aS (pv 4) (pv 8))))|aQ]))))))
  (aa (aJ (PW.pt (jE (ai iy (pv 1) af (ax _)) (jD (ai aR (am a7 hr ⋯ rfl %[0,af|aQ]) af (ax _))))) (aa #[aj,10,bN,cS (lr Ec)]
   (aa #[aj,10,bN,au mi (pv 10) (cS (lr Eb))]
   (aa #[aj,10,bN,au mi (pv 10) (cS (lr Ea))]
   (ae (oF (aN ix_list (pv 10) (am a7 hr ⋯ rfl %[0,af|aQ]) #[1]) (yh (pv 6) (am a7 hr ⋯ rfl %[0,1|aQ]) qu)))))) aB)
  (ae (ay (pv 6)))))))))),?_⟩
 erw[1,(5),1,4,4,λD hD=>?_];let Df:=hF.ne hD;let L20:LTR.cps.toList.length=20:=by decide
 apply eI (λi H'=>∃zs:List Str,H' D=some (.lst (zs.map V.str))/\zs.length=i/\(∀z∈zs,z.length=1/\∀c∈z.cps.toList,c∈LTR.cps.toList)/\FeedAt H' f/\SameBut f H H') %[[],by rw[aP];rfl,1,by simp,hF.same (zC0 hD _)|zJ0 (zC0 hD _)] ?_ ?_
 . rintro i H3 hi ⟨zs,hl,zl,z1,F3,S3⟩;let i5:i<5:=hi;erw[0,0,f,(20),1,F3,4,4,λd H4 d0 d26 F4 S4=>?_];let%[c,hc|hm]:=oa (l:=LTR.cps.toList) (i:=d) d0 (by rw[L20];exact d26);let hD4:H4 D=some (.lst (zs.map V.str)):=S4 D _ Df hl;erw[_,d,c,1,1,cH ⋯,hc,_,hD4,6,Nx.of hi %[zs++[⟨#[c]⟩],6,6,6,nO F4 Df|6]]
   . rw[zF0,zl];exact aO (wK0 (Nat.lt_trans i5 ⋯))
   . rw[aP,zK0];rfl
   . rw[zL0,qL0,zl]
   . intro z hz;rcases qH0 hz with h | h
     . exact z1 z h
     . rw [Nd h];erw[1,λc' hc'=>?_]
       have:c'=c:=#[hc',0]
       subst this;exact hm
   . intro b o hb e;rw[aE (aZ e hD)];exact S4 b o hb (S3 b o hb e)
 rintro H3 ⟨zs,hl,zl,z1,F3,S3⟩;let sl:=Cw z1;let zl5:zs.length=5:=zl;erw[_,D,zs,1,1,zG0 hl,⋯,3,6];let jl:(Txt.join "" zs).length=5:=by
  have:=size_glued "" zs
  let e0:(("":Str)).length=0:=by decide
  rw[e0,Nat.mul_zero]at this;show(Builtin.Str.glued "" zs).length=5;omega
 let jc:∀c∈(Txt.join "" zs).cps.toList,c∈LTR.cps.toList:=λc hc=>by
  let%[z,hz|h]:=Bj hc;exact(z1 z hz).2 c h
 generalize Txt.join "" zs=cm at jl jc;erw[0,f,(6),1,F3,4,4,λt H4 t0 t6 F4 S4=>?_];erw[0,f,(20),1,F4,4,4,λu H5 u0 u20 F5 S5=>?_];erw[y0S,λL hL=>?_];let S05:SameBut f H H5:=S3.trans (S4.trans S5);let Lf:=F5.ne hL;let L0:H L=none:=by
  cases e:H L with
  |none=>rfl
  |some o=>rw[S05 L o Lf e]at hL;cases hL
 refine⟨_,rfl,m,rfl,#[0],#[0],eK (λi σ H'=>∃(x7 x8 x9:Option V)(ns:List Str),σ=[some (.ref f),some (.int m),some (.str LTR),some (.str cm),some (.int t),some (.int u),some (.ref L),x7,x8,x9,none]/\H' L=some (.lst (ns.map V.str))/\ns.length=i/\(∀x∈ns,zc x)/\(∀x∈ns,∀c∈x.cps.toList,c∈LTR.cps.toList)/\(∀(k:Nat) x,ns[k]?=some x->x.cps.toList[t.toNat]?=LTR.cps.toList[((u+7*(k:Int)) % 20).toNat]?)/\FeedAt H' f/\SameBut f H H')
  %[_,_,_,[],1,by rw[aP];rfl,1,by simp,by simp,by simp,F5.same (zC0 hL _)|S05.trans (zJ0 (zC0 hL _))] ?_ ?_⟩
 . rintro i σ H6 hi ⟨x7,x8,x9,ns,rfl,hns,nl,nok,nlt,nat,F6,S6⟩;erw[0,0,2,f,0,F6,(Int.sub_pos_of_lt t6),(Int.lt_of_le_of_lt (Int.sub_le_self 6 t0) ⋯),λd H7 d0 d1 F7 S7=>?_];erw[2,(by show(0:Int)<_;decide),6];let%[c,hc|hm]:=oa (l:=LTR.cps.toList) (i:=(u+7*(0+(i:Int))) % 20) (qG0 _ ⋯) (by rw[L20];exact qI0 _ ⋯);erw[0,0,0,2,6,2,2,(by show(0:Int)<_;decide),_,_,c,1,1,cH ⋯,hc,6]
   . exact .inl %[4|4]
   let hL7:=S7 L _ Lf hns;let z1:(Txt.slice cm none (some t)).length<=cm.length:=jX0 cm none (some t);let z2:(Txt.slice cm (some t) (some (t+d % 3))).length<=cm.length:=jX0 cm _ _;let z3:((%[|#[c]]:Str)).length=1:=rfl;erw[0,.inl %[1,_|zG0 hL7],6];erw[0,0,0,0,cH (by rw[jl];decide),0,2,cH (by rw[z3];omega),6];erw[0,0,0,0,0,2,0,0,cH (by rw[jl];decide),2,cH (by rw[wU0,z3];omega),6];erw[L,2,hL7,6,6]
   . rw[zF0];exact aO #[0]
   erw[_,_,_,ns++[(Txt.slice cm none (some t)++%[|#[c]])++Txt.slice cm (some t) (some (t+d % 3))],1,6,6,6,6,6,nO F7 Lf,6]
   . rw[aP,zK0];rfl
   . rw[zL0,qL0,nl]
   . intro x hx;rcases qH0 hx with h | h
     . exact nok x h
     . rw [Nd h];erw[6,λc' hc'=>?_,λea=>?_]
       . rw[wU0,wU0,z3];omega
       rotate_left
       . let cm1:c∈(((Txt.slice cm none (some t)++%[|#[c]])++Txt.slice cm (some t) (some (t+d % 3)):Str)).cps.toList:=by
          rw[jC1,jC1]
          simp
         rw[ea]at cm1;exact Iu c hm ((by decide:∀c∈(("aa":Str)).cps.toList,c=97) c cm1)
       . rcases mem_append hc' with h | h
         . rcases mem_append h with h | h
           . exact yF _ (jc _ (lu h))
           . have:c'=c:=#[h,0]
             subst this;exact yF _ hm
         . exact yF _ (jc _ (lu h))
   . intro x hx c' hc';rcases qH0 hx with h | h
     . exact nlt x h c' hc'
     . rw [Nd h]at hc';rcases mem_append hc' with h | h
       . rcases mem_append h with h | h
         . exact jc _ (lu h)
         . have:c'=c:=#[h,0]
           subst this;exact hm
       . exact jc _ (lu h)
   . intro k x hx
     by_cases ck:k<ns.length
     . rw[zQ1 ck]at hx;exact nat k x hx
     . let kl:k<(ns++[(Txt.slice cm none (some t)++%[|#[c]])++Txt.slice cm (some t) (some (t+d % 3))]).length:=(zY0 hx).1;rw[zL0,qL0]at kl;let ek:k=i:=#[0]
       subst ek;rw[zN1 #[0],nl,wO0]at hx;let ex:(Txt.slice cm none (some t)++%[|#[c]])++Txt.slice cm (some t) (some (t+d % 3))=x:=zO0 hx;rw[←ex];let cl:cm.cps.toList.length=5:=jl;let es:Txt.slice cm none (some t)=⟨((cm.cps.toList.drop 0).take (t-0).toNat).toArray⟩:=StrLaws.sliceText_to ⟨t0,#[0]⟩;let el:(Txt.slice cm none (some t)).cps.toList.length=t.toNat:=by
        rw[es];simp only[jD1,Int.sub_zero,qF0];omega
       let ea:((Txt.slice cm none (some t)++%[|#[c]])++Txt.slice cm (some t) (some (t+d % 3))).cps.toList=(Txt.slice cm none (some t)).cps.toList++([c]++(Txt.slice cm (some t) (some (t+d % 3))).cps.toList):=by
        rw[jC1,jC1]
        simp
       rw[ea,zN1 #[0],el,wO0];let hc2:LTR.cps.toList[((u+7*(0+(k:Int))) % 20).toNat]?=some c:=Jg (qG0 _ ⋯) hc;rw[jG1]at hc2;rw[hc2];rfl
   . intro b o hb e;rw[aE (aZ e L0)];exact S7 b o hb (S6 b o hb e)
 . rintro σ H6 ⟨x7,x8,x9,ns,rfl,hns,nl,nok,nlt,nat,F6,S6⟩;let nnd:ns.Nodup:=DZ u0 u20 #[0] nat;erw[0,2,0,6];let fin:∀H':Hp,∀ns:List Str,H' L=some (.lst (ns.map V.str))->ns.length=m.toNat->(∀x∈ns,zc x)->ns.Nodup->FeedAt H' f->SameBut f H H'->Q (.ref L) H':=λH' ns a b c nd d e=>q L ns H' L0 Lf a b c nd d e
   by_cases c1:(0:Int)<m
   . apply aX c1 ?_;erw[0,f,(3),1,F6,4,4,λd H7 d0 d1 F7 S7=>?_];erw[1,0,6];let hL7:=S7 L _ Lf hns;apply rP (λ_=>?_) (λ_=>?_)
     . erw[y12S,λl1 h1=>?_];erw[0,y6S,λl2 h2=>?_];erw[l1,l2,wordsA.map V.str,wordsB.map V.str,1,1,zC0 h2 _ _ _ aP,aP,y18S,λl3 h3=>?_];erw[0,y6S,λl4 h4=>?_];erw[l3,l4,wordsA.map V.str++wordsB.map V.str,wordsC.map V.str,1,1,zC0 h4 _ _ _ aP,aP,y24S,λl5 h5=>?_];let G:=(zC0 h1 (.lst (wordsA.map V.str))).trans ((zC0 h2 (.lst (wordsB.map V.str))).trans ((zC0 h3 (.lst (wordsA.map V.str++wordsB.map V.str))).trans ((zC0 h4 (.lst (wordsC.map V.str))).trans (zC0 h5 (.lst ((wordsA.map V.str++wordsB.map V.str)++wordsC.map V.str))))));let F8:=F7.same G;let n5:=(F7.same ((zC0 h1 (.lst (wordsA.map V.str))).trans ((zC0 h2 (.lst (wordsB.map V.str))).trans ((zC0 h3 (.lst (wordsA.map V.str++wordsB.map V.str))).trans (zC0 h4 (.lst (wordsC.map V.str))))))).ne h5;erw[0,0,f,(24),1,F8,4,4,λe H9 e0 e1 F9 S9=>?_];let%[v,hv|vm]:=oa (l:=(wordsA.map V.str++wordsB.map V.str)++wordsC.map V.str) (i:=e) e0 (by
        have:((wordsA.map V.str++wordsB.map V.str)++wordsC.map V.str).length=24:=by rfl
        omega)
       rw[←zK0,←zK0]at vm;let%[x,hx|1]:=List.mem_map.mp vm;erw[l5,_,e,0,1,zG0 (S9 l5 _ n5 aP),hv,6];erw[0,0,0,f,m,1,F9,c1,3,λj H10 j0 j1 F10 S10=>?_];let hL10:=S10 L _ Lf (S9 L _ Lf (G L _ hL7));erw[L,_,j,j.toNat,1,1,hL10,6,6]
       . let jl:j<((ns.map V.str).length:Int):=by rw[zF0];omega
         unfold ixN;rw[M8 j0,M8 jl]
       erw[0,6];apply fin _ (ns.set j.toNat x) (by rw[aP,List.map_set]) (by rw[List.length_set];exact nl) ?_ ?_ (nO F10 Lf) ?_
       . intro y hy;rcases List.mem_or_eq_of_mem_set hy with h | h
         . exact nok y h
         . rw[h];exact BZ x hx
       . apply Il nnd λhm=>?_
         let%[c,c1|c2]:=zW x hx;exact c2 (nlt x hm c c1)
       . intro b o hb e';rw[aE (aZ e' L0)];exact S10 b o hb (S9 b o hb (G b o (S7 b o hb (S6 b o hb e'))))
     . erw[0,6];exact fin H7 ns hL7 nl nok nnd F7 (S6.trans S7)
   . apply aD c1 ?_;apply cM ?_;erw[0,6];exact fin H6 ns hns nl nok nnd F6 S6
def gz{x:Str}:∀{ns:List Str},x∈ns->∃j,eT x ns=some j/\j<ns.length
 | [],h=>by cases h
 |a::r,h=>by
   unfold eT
   by_cases c:a=x
   . erw[(0),by rw[M8 c],by simp]
   . rw [M6 c];rcases Nf h with e | e
     . exact absurd e.symm c
     . let%[j,h1|h2]:=gz e;erw[j+1,by rw[h1];rfl,by simpa using h2]
def iC{a b:Str}(h:V.str a=V.str b):a=b:=by injection h
def eG(p:Int)(o:Str)(x y:Int):Int:=if o="and" then x*y % p else if o="or" then(x+y-x*y) % p else if o="odd" then(x+y-2*(x*y)) % p else(1-(x+y-2*(x*y))) % p
def Tr.worth(ns:List Str)(pt:List Int)(p:Int):Tr->Int
 |.is x=>match eT x ns with | some j=>pt.getD j 0 | none=>0
 |.yes=>1
 |.no=>0
 |.not a=>(1-a.worth ns pt p) % p
 |.bin o a b=>eG p o (a.worth ns pt p) (b.worth ns pt p)
def bJ(pt:List Int)(p:Int):Prop:=∀x∈pt,0<=x/\x<p
def Bt{p:Int}(hp:0<p)(o:Str)(x y:Int):0<=eG p o x y/\eG p o x y<p:=by
 let key:∀z:Int,0<=z % p/\z % p<p:=λz=>%[qG0 _ #[0]|qI0 _ hp]
 unfold eG
 repeat' split
 all_goals exact key _
def nJ{l:List Int}{j:Nat}(h:j<l.length):l.getD j 0=l[j]:=by
 rw[qO0,zN0 h];rfl
def worth_rng{ns:List Str}{p:Int}(hp:1<p)(h:bJ pt p)(hl:pt.length=ns.length):∀t:Tr,t.ok ns->0<=t.worth ns pt p/\t.worth ns pt p<p
 |.is x,ok=>by
   let%[j,hj|jl]:=gz ok;show 0<=(match eT x ns with | some j=>pt.getD j 0 | none=>0)/\(match eT x ns with | some j=>pt.getD j 0 | none=>0)<p;rw[hj];show 0<=pt.getD j 0/\pt.getD j 0<p;rw[nJ #[0]];exact h _ (qP0 _)
 |.yes,_=>%[by show(0:Int)<=1;decide|hp]
 |.no,_=>%[zT1 0|by show(0:Int)<p;omega]
 |.not a,_=>%[qG0 _ #[0]|qI0 _ #[0]]
 |.bin o a b,_=>Bt #[0] _ _ _
instance spJW:∀(o:Str)(x y p:Int),vs=[.str o,.int x,.int y,.int p]->0<=x->x<p->p<2 ^ 40->Q (.int (eG p o x y)) H:=1
def gu:FnScope ["word","first","second","p","both","odd"] Wi (ao ir):=%[|5]
def pN(F:#["joined_worth",ir]):#[1,f,fd,Wi,spJW]:=by
 exists gu
 erw[o,x,y,p,1,x0,xp,pb,k]at h;refine⟨_,(aa #[aj,4,gu,au ci (pv 1) (pv 2)]
  (aa (aJ (ai aR (pv 0) aq (ax _)) (ae (ay (au bb (pv 4) (pv 3)))) aB)
  (aa (aJ (ai aR (pv 0) aq (ax _)) (ae (ay (au bb (au bi (au aS (pv 1) (pv 2)) (pv 4)) (pv 3)))) aB)
  (aa #[aj,5,gu,au bi (au aS (pv 1) (pv 2)) (au ci af (pv 4))]
  (aa (aJ (ai aR (pv 0) aq (ax _)) (ae (ay (au bb (pv 5) (pv 3)))) aB)
  (ae (ay (au bb (au bi af (pv 5)) (pv 3))))))))),?_⟩
 erw[0,0,2,.inl %[3|3],6];erw[0,1,0,6]
 by_cases c1:V.str o=V.str "and"
 . apply aX c1 ?_;let e:eG p o x y=x*y % p:=by unfold eG;rw[M8 (iC c1)]
   rw[e]at k;erw[0,0,2,(show(0:Int)<p by omega),k]
 apply aD c1 ?_;let n1:¬ o="and":=λz=>c1 (by rw[z])
 erw[0,1,0,6]
 by_cases c2:V.str o=V.str "or"
 . apply aX c2 ?_;let e:eG p o x y=(x+y-x*y) % p:=by unfold eG;rw[M6 n1,M8 (iC c2)]
   rw[e]at k;erw[0,0,2,0,2,0,2,(show(0:Int)<p by omega),k]
 apply aD c2 ?_;let n2:¬ o="or":=λz=>c2 (by rw[z])
 erw[0,0,2,0,2,.inl %[4|4],2,6];erw[0,1,0,6]
 by_cases c3:V.str o=V.str "odd"
 . apply aX c3 ?_;let e:eG p o x y=(x+y-2*(x*y)) % p:=by unfold eG;rw[M6 n1,M6 n2,M8 (iC c3)]
   rw[e]at k;erw[0,0,2,(show(0:Int)<p by omega),k]
 apply aD c3 ?_;let n3:¬ o="odd":=λz=>c3 (by rw[z])
 let e:eG p o x y=(1-(x+y-2*(x*y))) % p:=by unfold eG;rw[M6 n1,M6 n2,M6 n3]
 rw[e]at k;erw[0,2,0,2,(show(0:Int)<p by omega),k]
instance spWorth(n:Nat):∀(v:V)(t:Tr)(a b:Addr)(ns:List Str)(pt:List Int)(p:Int),vs=[v,.ref a,.ref b,.int p]->TreeAt H v t->t.ok ns->t.depth<=n->NamesAt H a ns->H b=some (.tup (pt.map V.int))->pt.length=ns.length->1<p->p<2 ^ 40->bJ pt p->Q (.int (t.worth ns pt p)) H:=1
def jR:FnScope ["tree","switches","point","p","word","first"] WS (ao jp):=%[|5]
def xz{n:Nat}(F:#["worth_of",jp])(c9:#[1,"joined_worth",Wi,spJW])(fh:#[n+2,"worth_of",WS,spWorth n]):#[n+3,f,fd,WS,spWorth (n+1)]:=by
 exists jR
 erw[v,t,a,b,ns,pt,p,1,T,ok,dn,hN,hb,sl,p1,p40,po,k]at h;let p0:(0:Int)<p:=#[0]
 refine⟨_,(aa #[aj,4,jR,aN ix_tup (pv 0) af #[1]]
  (aa (aJ (ai aR (pv 4) aq (ax _)) (ae (ay (au bb (aN ix_tup (pv 2) (rc zE1 jO0 (pv 1) %[aN ix_tup (pv 0) af #[1]|aQ]) #[1]) (pv 3)))) aB)
  (aa (aJ (ai aR (pv 4) aq (ax _)) (ae (ay af)) aB)
  (aa (aJ (ai aR (pv 4) aq (ax _)) (ae (ay af)) aB)
  (aa #[aj,5,jR,am fh hr (zH0 _) rfl %[aN ix_tup (pv 0) af #[1],1,2,3|aQ]]
  (aa (aJ (ai aR (pv 4) aq (ax _)) (ae (ay (au bb (au bi af (pv 5)) (pv 3)))) aB)
  (ae (ay (am c9 hr #[0] rfl %[4,5,am fh hr (zH0 _) rfl %[aN ix_tup (pv 0) af #[1],1,2,3|aQ],3|aQ]))))))))),?_⟩
 cases T with
 | @is q x e=>
   erw[0,q,_,(0),0,1,zA0 e,1,6];erw[0,1,0,6];apply aX rfl ?_;let%[j,hj|jl]:=gz ok;let jl':j<pt.length:=#[0]
   erw[0,0,a,ns,1,hN,0,q,_,(1),0,1,zA0 e,1,1,x,j,1,hj,b,_,(j:Int),.int pt[j],1,1,zA0 hb,6,0,2,p0,6]
   . apply bv ?_;rw[zW0,zN0 jl'];rfl
   . let e1:(Tr.is x).worth ns pt p=pt[j] % p:=by
      show(match eT x ns with | some j=>pt.getD j 0 | none=>0)=_;rw[hj];show pt.getD j 0=_;rw[nJ jl']
      have:=po _ (qP0 jl')
      rw[qU0 this.1 this.2]
     rw[e1]at k;exact k
 | @yes q e=>
   erw[0,q,_,(0),0,1,zA0 e,1,6];erw[0,1,0,6];apply aD ⋯ ?_;erw[0,1,0,6];exact aX rfl k
 | @no q e=>
   erw[0,q,_,(0),0,1,zA0 e,1,6];erw[0,1,0,6];apply aD ⋯ ?_;erw[0,1,0,6];apply aD ⋯ ?_;erw[0,1,0,6];exact aX rfl k
 | @not q u r e T1=>
   let dp:r.depth+1<=n+1:=dn;erw[0,q,_,(0),0,1,zA0 e,1,6];erw[0,1,0,6];apply aD ⋯ ?_;erw[0,1,0,6];apply aD ⋯ ?_;erw[0,1,0,6];apply aD ⋯ ?_;erw[0,q,_,(1),0,1,zA0 e,1,0,0,0,u,r,a,b,ns,pt,p,1,T1,ok,3,hN,hb,sl,p1,p40,po,6];erw[0,1,0,6];apply aX rfl ?_;erw[0,2,0,2,p0,k]
 | @bin q o u u2 r r2 e T1 T2=>
   erw[ho,ok1,ok2]at ok;let dp:max r.depth r2.depth+1<=n+1:=dn;let ne:∀z:Str,z∉joinW->¬ V.str o=V.str z:=λz hz h=>hz (iC h▸ho)
   erw[0,q,_,(0),0,1,zA0 e,1,6];erw[0,1,0,6];apply aD (ne _ ⋯) ?_;erw[0,1,0,6];apply aD (ne _ ⋯) ?_;erw[0,1,0,6];apply aD (ne _ ⋯) ?_;erw[0,q,_,(1),0,1,zA0 e,1,0,0,0,u,r,a,b,ns,pt,p,1,T1,ok1,3,hN,hb,sl,p1,p40,po,6];erw[0,1,0,6];apply aD (ne _ ⋯) ?_;let wr:=worth_rng p1 po sl r ok1;erw[0,0,0,q,_,(2),0,1,zA0 e,1,0,0,0,u2,r2,a,b,ns,pt,p,1,T2,ok2,3,hN,hb,sl,p1,p40,po,6];erw[0,o,_,_,p,1,wr.1,wr.2,p40,k]
def xy:#[2,f,fd,WS,spWorth 0]:=by
 let no:∀vs H Q E,¬ spWorth 0 vs H Q E:=λvs H Q E h=>by
  erw[v,t,_,_,_,_,_,_,_,_,h1,_]at h
  have:=t.depth_pos
  omega
 exists 3
def pk(F:#["worth_of",jp])(m:mg "worth_of"=some (.ref f))(c9:#[1,"joined_worth",Wi,spJW]):
 ∀n:Nat,#[n+2,f,fd,WS,spWorth n]
 |0=>xy
 |n+1=>xz F c9 (Cal.of F (pk F m c9 n) m (λ_ _ _ _ _ _ us hl=>by let%[u0,u1,u2,u3|1]:=Ei hl;rfl))
def gA{H:Hp}{b:Addr}{ys zs:List V}(h:H b=some (.lst ys)):∀a xs,H a=some (.tup xs)->(upd H b (.lst zs)) a=some (.tup xs):=λa xs e=>by
 rw[aE]
 . exact e
 . intro z;rw[z,h]at e;cases e
def at0(x:V)(xs:List V):atI (x::xs) 0=some x:=bv (j:=0) rfl
def pA{ts:List Tr}{i:Nat}{u:Tr}(h:ts[i]?=some u):iz (ts.take (i+1))=iz (ts.take i)++u.names:=by
 unfold iz;rw[qB0,h,zK0,List.flatten_append]
 simp
def rG(ts:List Tr):(iz ts).length<=iT ts:=by
 induction ts with
 |nil=>simp [iz,iT]
 |cons a r ih=>
   have:=a.names_len
   simp only[iz,iT,qC0,qZ0,zL0,zP1]at ih ⊢;omega
def qt(ts:List Tr)(i:Nat):iT (ts.take i)<=iT ts:=by
 induction ts generalizing i with
 |nil=>simp
 |cons a r ih=>
   cases i with
   |zero=>simp [iT]
   |succ i=>
     have:=ih i
     simp only[iT,List.take_succ_cons,qC0,zP1]at this ⊢;omega
instance spNO(n:Nat):∀(v:V)(t:Tr),vs=[v]->TreeAt H v t->t.wf->t.depth<=n->t.size<=400->(∀(l:Addr)(H':Hp),H l=none->Same H H'->H' l=some (.lst (t.names.map V.str))->Q (.ref l) H'):=1
def fX:FnScope ["_law_tree_here","_law_found","_law_part"] WM (ao hZ):=%[|5]
def Go{n:Nat}(F:#["_law_names_of",hZ])(b9:#[n+2,"_law_names_of",WM,spNO n]):#[n+3,f,fd,WM,spNO (n+1)]:=by
 exists fX
 erw[v,t,1,T,wf,dn,sz,q]at h;refine⟨_,(aa (aJ (ai aR (aN ix_tup (pv 0) af #[1]) aq (ax _)) (ae (ay (cS %[aN ix_tup (pv 0) af #[1]|aQ]))) aB)
  (aa #[aj,1,fX,cS aQ]
  (aa (cu zF1 rfl (eF (fg uf (pv 0) (fe af) jG)) (aU (i:=2) fX.nd rfl (.inl rfl)) (ae #[aj,1,fX,au mi (pv 1) (am b9 hr (zH0 _) rfl %[2|aQ])]))
  (ae (ay (pv 1)))))),?_⟩
 rcases T.view wf with⟨a,x,rfl,rfl,_,e⟩ | ⟨a,o,xs,rfl,no,xl0,e,TS0,nis⟩
 . erw[0,a,_,(0),0,1,zA0 e,1,1,0,6];apply aX rfl ?_;erw[0,a,_,(1),0,1,zA0 e,1,y1S,λp hp=>?_];exact q p _ hp (zC0 hp _) aP
 . erw[0,a,_,(0),.str o,1,1,zA0 e,at0 ..,1,0,6];apply aD (λz=>no (by injection z)) ?_;erw[y0S,λL hL=>?_];let G0:=zC0 hL (.lst []);let%[c1|c2]:=cut1 (.str o) xs xl0;erw[0,(1),1,a,0,zA0 (G0 _ _ e),c2,λp hp=>?_];rw[c1];let G1:=zC0 hp (.tup xs);let hp1:upd (upd H L (.lst [])) p (.tup xs) p=some (.tup xs):=aP;let hL1:upd (upd H L (.lst [])) p (.tup xs) L=some (.lst []):=G1 _ _ aP;let S1:Same H (upd (upd H L (.lst [])) p (.tup xs)):=G0.trans G1;generalize upd (upd H L (.lst [])) p (.tup xs)=H1 at hp1 hL1 S1;let TS:=TS0.mono (bh S1);let xl:=TS.length;let sp:=t.size_parts;erw[p,1,%[_|zA0 hp1],nK (K:=K) (xs:=xs) (λi σ H'=>∃(M:Addr)(x2:Option V),σ=[some (.ref a),some (.ref M),x2]/\H M=none/\H' M=some (.lst ((iz (t.parts.take i)).map V.str))/\Same H1 H') %[L,0,hL,hL1|Same.refl _] (λi σ H' _ Na=>by erw[_,_,_,_,_,h]at Na;exact zA0 (h _ _ hp1)) ?_ ?_]
   . rintro i x σ H2 hx ⟨M,x2,rfl,M0,hM,S2⟩;let%[u,hu|Tu]:=TS.get hx;let um:=qD0 hu;let%[uw,ud|us]:=Tr.parts_mem um wf;erw[0,0,x,u,1,Tu.mono (bh S2),uw,3,3,λl H3 l0 S3 hl3=>?_];let nl:=u.names_len;let nl2:=rG (t.parts.take i);let nl3:=qt t.parts i;erw[M,l,2,S3 _ _ hM,hl3,6,λr hr0=>?_]
     . rw[zF0,zF0];exact cH #[0]
     . let S4:=(S2.trans S3).trans (zC0 hr0 (.lst ((iz (t.parts.take i)).map V.str++u.names.map V.str)));erw[r,0,(S1.trans (S2.trans S3)).free hr0,6,S4];rw[aP,pA hu,zK0]
   . rintro σ H2 ⟨M,x2,rfl,M0,hM,S2⟩;rw[xl,zZ0,←t.names_parts nis]at hM;erw[0,q M H2 M0 (S1.trans S2) hM]
def Gn:#[2,f,fd,WM,spNO 0]:=by
 let no:∀vs H Q E,¬ spNO 0 vs H Q E:=λvs H Q E h=>by
  erw[v,t,_,_,_,h1,_]at h
  have:=t.depth_pos
  omega
 exists 3
def lI(F:#["_law_names_of",hZ])(m:mg "_law_names_of"=some (.ref f)):
 ∀n:Nat,#[n+2,f,fd,WM,spNO n]
 |0=>Gn
 |n+1=>Go F (Cal.of F (lI F m n) m (λ_ _ _ _ _ _ us hl=>by let%[u0|1]:=GE hl;rfl))
def mr(ns:List Str)(z:Str):((ns.map V.str).countP λy=>eqV y (.str z))=ns.count z:=by
 rw[List.countP_map];rfl
instance spNeed:∀(a b:Addr)(ns:List Str)(tv:List V)(ts:List Tr),vs=[.ref a,.ref b]->H a=some (.lst (ns.map V.str))->H b=some (.lst tv)->TreesAt H tv ts->ts.length<=10->(∀t∈ts,t.wf/\t.depth<=10/\t.size<=400)->(∀(m:Int)(H':Hp),Same H H'->2<=m->m<=400->(ts.length:Int)<=m+1->(∀t∈ts,∀x∈ns,(t.names.count x:Int)<=m)->Q (.int m) H'):=1
def f7:FnScope ["_law_names_here","_law_trees","_law_need_here","_law_tree_here","_law_found","_law_name"] WN (ao qA):=%[|5]
def AQ(F:#["_law_need",qA])(hlen:mg "len"=none)(hmax:mg "max"=none)(b9:#[12,"_law_names_of",WM,spNO 10]):#[13,f,fd,WN,spNeed]:=by
 exists f7
 erw[a,b,ns,tv,ts,1,ha,hb,TS,tl,tok,q]at h;refine⟨_,(aa #[aj,2,f7,aI (tR rfl) rfl hmax qV1 %[af,au bi (aI aG rfl hlen zB1 %[1|aQ]) af|aQ]]
  (aa (cu zF1 rfl (dR (pv 1)) (aU (i:=3) f7.nd rfl (.inl rfl)) (aa #[aj,4,f7,am b9 hr ⋯ rfl %[3|aQ]]
   (ae (cu zF1 rfl (dR (pv 0)) (aU (i:=5) f7.nd rfl (.inl rfl)) (ae #[aj,2,f7,aI (tR rfl) rfl hmax qV1 %[2,dC zE1 jR1 jS0 wA (pv 4) %[5|aQ]|aQ]])))))
  (ae (ay (pv 2))))),?_⟩
 let vl:=TS.length;erw[0,b,0,.inl (zG0 hb),2,_,0,6];obtain⟨m,em,m2,m4,mt⟩:∃m:Int,(if((tv.length:Int)-1)>2 then((tv.length:Int)-1)else 2)=m/\2<=m/\m<=400/\(ts.length:Int)<=m+1:=⟨_,rfl,by split <;> omega,by split <;> omega,by split <;> omega⟩
 rw [em];refine⟨_,rfl,b,rfl,%[_|zG0 hb],fo (K:=K) (xs:=tv) (λi σ H'=>∃(m:Int)(x3 x4 x5:Option V),σ=[some (.ref a),some (.ref b),some (.int m),x3,x4,x5]/\2<=m/\m<=400/\(ts.length:Int)<=m+1/\(∀t∈ts.take i,∀x∈ns,(t.names.count x:Int)<=m)/\Same H H')
  %[m,_,_,0,m2,m4,mt,by simp|Same.refl _] (λi σ H' _ Na=>by erw[_,_,_,_,_,_,_,_,_,h]at Na;exact zG0 (h _ _ hb)) ?_ ?_⟩
 . rintro i v σ H1 hv ⟨m,x3,x4,x5,rfl,m2,m4,mt,mc,S1⟩;let%[t,ht|T]:=TS.get hv;let tm:=qD0 ht;let%[tw,td|tz]:=tok t tm;erw[0,v,t,1,T.mono (bh S1),tw,3,tz,λl H2 l0 S2 hl=>?_];let S12:=S1.trans S2;let tn:=t.names_len;refine⟨_,rfl,a,rfl,%[_|zG0 (S12 _ _ ha)],fo (K:=K) (xs:=ns.map V.str) (λj σ H'=>∃(m':Int)(x5:Option V),σ=[some (.ref a),some (.ref b),some (.int m'),some v,some (.ref l),x5]/\m<=m'/\m'<=400/\(∀x∈ns.take j,(t.names.count x:Int)<=m')/\H'=H2)
    %[m,0,zT1 _,m4,by simp|1] (λj σ H' _ Na=>by erw[_,_,_,_,_,_,h]at Na;subst h;exact zG0 (S12 _ _ ha)) ?_ ?_⟩
   . rintro j y σ H3 hy ⟨m',y5,rfl,mm,m4',mc',rfl⟩;rw[zW0]at hy;let%[x,hx|1]:=qQ0 hy;erw[0,0,.inl %[1,_|zG0 hl],0,l,2,zG0 hl,gB _,1,_,0,6];rw[mr];let cl:=jK0 (a:=x) (l:=t.names);erw[_,0,by split <;> omega,by split <;> omega,λz hz=>?_,1];rw[qB0,hx]at hz;rcases qH0 hz with h | h
     . have:=mc' z h
       split <;> omega
     . let e:z=x:=#[h,0]
       subst e
       split <;> omega
   . rintro σ H3 ⟨m',y5,rfl,mm,m4',mc',rfl⟩;rw[zF0,zZ0]at mc';erw[m',_,_,0,3,m4',3,λu hu x hx=>?_,S12];rw[qB0,ht]at hu;rcases qH0 hu with h | h
     . have:=mc u h x hx
       omega
     . let e:u=t:=#[h,0]
       subst e;exact mc' x hx
 . rintro σ H1 ⟨m,x3,x4,x5,rfl,m2,m4,mt,mc,S1⟩;rw[vl,zZ0]at mc;erw[0,q m H1 S1 m2 m4 mt mc]
instance spPrimeB:∀n:Int,vs=[.int n]->(∀b:Bool,(b=true↔Pr n)->Q (.bl b) H):=1
def m8:FnScope ["_law_number","_law_k"] ["_law_number"] (ao jx):=%[|5]
def sH(F:#["_law_is_prime",jx])(hrange:mg "range"=none):#[1,f,fd,["_law_number"],spPrimeB]:=by
 exists m8
 erw[n,1,q]at h;refine⟨_,(aa (aJ (ai dG (pv 0) af (ax _)) (ae (ay eU)) aB)
  (aa (cu zF1 rfl (AJ rfl hrange %[af,af|aQ]) (aU (i:=1) m8.nd rfl (.inl rfl)) (aa (aJ (ai iy (au ci (pv 1) (pv 1)) (pv 0) (ax _)) (ae (ay eU)) aB)
   (ae (aJ (ai aR (au bb (pv 0) (pv 1)) af (ax _)) (ae (ay eU)) aB))))
  (ae (ay eU)))),?_⟩
 erw[0,2,0,6];apply rP (λc=>?_) (λc=>?_)
 . let c':=zU1 c;exact q false %[λz=>(nomatch z)|λz=>by have:=z.1;omega]
 let c':¬ n<2:=wO1 (Bool.eq_false_iff.mpr c);erw[(2),(1001),1,%[4,4,4|4],eK (λi σ H'=>∃x,σ=[some (.int n),x]/\H'=H/\oS n (2+(i:Int))) %[0,1|by simpa using xB n] ?_ ?_]
 . rintro i σ H' hi ⟨x,rfl,rfl,u⟩;let hi':i<999:=hi;erw[0,0,2,.inl %[3|3],0,2,0,6];apply rP (λc1=>?_) (λc1=>?_)
   . let c2:=zU1 c1;exact q true %[λ_=>HS #[0] #[0] u c2|λ_=>rfl]
   . let c2:=wO1 (Bool.eq_false_iff.mpr c1);erw[0,0,2,(show(0:Int)<2+(i:Int) by omega),1,0,6];apply rP (λc3=>?_) (λc3=>?_)
     . let c4:=V.int.inj (zU1 c3);exact q false %[λz=>(nomatch z)|λz=>(HP #[0] #[0] #[0] c4 z).elim]
     . let c4:=wO1 (Bool.eq_false_iff.mpr c3);erw[0,1,6];let e:(2:Int)+((i+1:Nat):Int)=2+(i:Int)+1:=#[0]
       rw[e];exact zX u #[0] (λz=>c4 (congrArg V.int z))
 . rintro σ H' ⟨x,rfl,rfl,u⟩;exact q true %[λ_=>HU #[0] u|λ_=>rfl]
instance spFieldL:∀(f:Addr)(m:Int),vs=[.ref f,.int m]->FeedAt H f->2<=m->m<=400->(∀(p:Int)(H':Hp),Pr p->m<p->p<=999983->FeedAt H' f->SameBut f H H'->Q (.int p) H'):=1
def yc{f:Addr}{m fm:Int}{D:Ends}{H:Hp}(hD:∀p:Int,Pr p->m<p->p<=999983->D.nx [some (.ref f),some (.int m),some (.int fm),some (.int p)] H)(n:Int)(h1:m<n)(h2:n<=999983):
 Cs (tNot (tB (vJ spPrimeB [] E0 (qj (tVar 3) Al)))) (Fp (tOp (rI0 λi j=>V.int (i+j)) (tVar 3) (tC (V.int 1))) (zJ 3)) D [some (.ref f),some (.int m),some (.int fm),some (.int n)] H:=by
 erw[λmm σ H'=>∃n:Int,σ=[some (.ref f),some (.int m),some (.int fm),some (.int n)]/\H'=H/\m<n/\n<=999983/\mm=(999983-n).toNat,%[2,h1,h2|1],6];rintro mm σ H' ⟨n,rfl,rfl,n0,n1,rfl⟩;erw[0,n,1,λb hb=>%[b,1|6]];cases b with
 |true=>exact cM (hD n (hb.mp rfl) n0 n1)
 |false=>
   apply dU ?_;erw[_,λ_ _ h=>h,6];let ne:n≠999983:=λz=>by
    subst z;exact nomatch hb.mpr AG
   erw[0,2,6];erw[_,3,n+1,1,1,3,3,1]
def fw:FnScope ["_law_feed_here","_law_need_here","_law_form","_law_number"] Wv (ao ox):=%[|5]
def ym(F:#["_law_field",ox])(a7:#[1,"_law_take",WE,spTake])(iW:#[1,"_law_is_prime",["_law_number"],spPrimeB]):#[2,f,fd,Wv,spFieldL]:=by
 exists fw
 erw[f,m,1,hF,m2,m4,q]at h;refine⟨_,(aa #[aj,2,fw,am a7 hr ⋯ rfl %[0,af|aQ]]
  (aa #[aj,3,fw,au aS (pv 1) af]
  (aa (aJ (ai aR (pv 2) af (ax _)) (ae #[aj,3,fw,au aS (au aS (pv 1) af) (am a7 hr ⋯ rfl %[0,af|aQ])]) aB)
  (aa (aJ (ai aR (pv 2) af (ax _)) (ae #[aj,3,fw,au aS (au aS (pv 1) af) (am a7 hr ⋯ rfl %[0,au bi af (pv 1)|aQ])]) aB)
  (aa (iY zF1 (gy (eD (am iW hr ⋯ rfl %[3|aQ]))) (ae #[aj,3,fw,au aS (pv 3) af]))
  (ae (ay (pv 3)))))))),?_⟩
 erw[0,f,(4),1,hF,4,4,λfm H1 _ _ F1 S1=>?_];erw[0,2,6];erw[0,1,0,6];apply rP (λc1=>?b1) (λc1=>?b2)
 case' b1=>
  erw[0,2,0,f,(60),1,F1,4,4,λd H2 d0 d1 F2 S2=>?_];erw[2,6];let G2:=S1.trans S2;let n1:m<m+1+d:=#[0]
  let n2:m+1+d<=999983:=#[0]
 case' b2=>
  let F2:=F1;let G2:=S1;let n1:m<m+1:=#[0]
  let n2:m+1<=999983:=#[0]
 all_goals
  erw[0,1,0,6];apply rP (λc2=>?_) (λc2=>?_);erw[0,2,0,0,2,f,0,F2,(show(0:Int)<999983-m by omega),(show(999983:Int)-m<2 ^ 63 by omega),λd H3 d0 d1 F3 S3=>?_];erw[2,6];let G3:=G2.trans S3;clear n1 n2;let n1:m<m+1+d:=#[0]
  let n2:m+1+d<=999983:=by
   have:d<999983-m:=d1
   omega
  rotate_left
  let F3:=F2;let G3:=G2
  rotate_left
  all_goals
   apply yc (λp pp mp p9=>?_) _ n1 n2;erw[0,q p _ pp mp p9 F3 G3]
inductive spGame(vs:List V)(H:Hp)(Q:VK)(M9:XK):Prop
 |mk:∀(f:Addr)(most room:Int),vs=[.ref f,.int most,.int room]->FeedAt H f->0<=most->most<=6->1<=room->room<=30->(∀(g a b:Addr)(ns:List Str)(tv:List V)(ts:List Tr)(p:Int)(H':Hp),H' g=some (.tup [.ref a,.ref b,.int p])->H' a=some (.tup (ns.map V.str))->(ns.length:Int)<=most->(∀x∈ns,zc x)->ns.Nodup->H' b=some (.tup tv)->TreesAt H' tv ts->1<=ts.length->ts.length<=4 ->
   (∀t∈ts,t.ok ns/\t.depth<=9/\(t.size:Int)<=room)->Pr p->2<p->p<=999983->(ts.length:Int)<=p->(∀t∈ts,∀x∈ns,(t.names.count x:Int)<p)->FeedAt H' f->SameBut f H H'->Q (.ref g) H')->spGame vs H Q M9
def mB{m:Int}(h0:0<=m)(h6:m<=6):(0:Int)<m+1/\m+1<2 ^ 63:=#[0]
def zB{z:Int}(h0:1<=z)(h6:z<=4):-(2 ^ 62)<=z/\z<2 ^ 62:=#[0]
def rB{r:Int}(h0:1<=r)(h6:r<=30):0<r/\r<2 ^ 63:=#[0]
def eB{e r:Int}(h0:0<=e)(h1:e<r)(h6:r<=30):(1:Int)<=1+e/\(1:Int)+e<=100:=#[0]
def jh:FnScope ["_law_feed_here","_law_most","_law_room","_law_names_here","_law_many","_law_trees"] Ww (ao qC):=%[|5]
def AS(F:#["_law_game",qC])(hrange:mg "range"=none)(htuple:mg "tuple"=none)(a7:#[1,"_law_take",WE,spTake])(f8:#[2,"_law_names",WE,spNamesN])
 (fY:#[12,"_law_tree",WQ,spTree 10])(y6:#[13,"_law_need",WN,spNeed])(o6:#[2,"_law_field",Wv,spFieldL]):#[14,f,fd,Ww,spGame]:=by
 exists jh
 erw[f,most,room,1,hF,m0,m6,r1,r30,q]at h;refine⟨_,(aa (aj (i:=3) jh.nd rfl (Or.inr rfl) (am f8 hr ⋯ rfl %[0,am a7 hr ⋯ rfl %[0,au aS (pv 1) af|aQ]|aQ]))
  (aa #[aj,4,jh,aN ix_list (cS %[af,af,af,af,af,af|aQ]) (am a7 hr ⋯ rfl %[0,af|aQ]) #[1]]
  (aa (mX (i:=5) (N:=["_law_room","_law_names_here","_law_feed_here"]) (ix:=[2,3,0]) jh.nd rfl (.inl rfl) rfl
   (CompScope.three (by rfl') ⋯ rfl ⋯ rfl ⋯ rfl (by rfl') (by rfl') (by rfl') (by rfl') (by rfl') rfl rfl (by rfl') rfl rfl (by rfl') rfl rfl) rfl
   (cr rfl hrange %[4|aQ])
   (λ_ _ _=>cF (am fY hr ⋯ rfl %[3,2,au aS af (am a7 hr ⋯ rfl %[3,1|aQ]),af|aQ])))
  (ae (ay (aM %[bd bj rfl htuple bw %[3|aQ],bd bj rfl htuple bw %[5|aQ],am o6 hr ⋯ rfl %[0,am y6 hr ⋯ rfl %[3,5|aQ]|aQ]|aQ])))))),?_⟩
 erw[0,0,0,2,f,0,hF,(mB m0 m6).1,(mB m0 m6).2,λmk H1 k0 k7 F1 S1=>?_];erw[f,mk,1,F1,k0,3,λnl ns H2 nl0 nlf hnl nsl nok nnd F2 S2=>?_];let S02:=S1.trans S2;erw[y6S,λl hl=>?_];let lf:=F2.ne hl;let G2:=zC0 hl (.lst [.int 1,.int 1,.int 1,.int 2,.int 3,.int 4]);erw[0,f,(6),1,F2.same G2,4,4,λj H3 j0 j6 F3 S3=>?_];let hl3:=S3 l _ lf aP;let%[x,hx|xm]:=oa (l:=[V.int 1,V.int 1,V.int 1,V.int 2,V.int 3,V.int 4]) (i:=j) j0 (by show j<6;omega);obtain⟨z,rfl,z0,z4⟩:∃z:Int,x=.int z/\1<=z/\z<=4:=by
  simp only[wX1,wB0,or_false]at xm;rcases xm with h | h | h | h | h | h <;> erw[_,h,4,4]
 erw[l,_,2,zG0 hl3,hx,6];let S23:SameBut f H2 H3:=(zJ0 G2).trans S3;let hnl3:=S23 nl _ nlf hnl;let S03:=S02.trans S23;let nl6:ns.length<=6:=#[0]
 erw[0,z,1,(zB z0 z4).1,(zB z0 z4).2,λD hD=>?_];let Df:=F3.ne hD;let nD:nl≠D:=aZ hnl3 hD;let GD:=zC0 hD (.lst []);apply eI (λi H'=>∃(tv:List V)(ts:List Tr),H' D=some (.lst tv)/\TreesAt H' tv ts/\ts.length=i/\(∀t∈ts,t.ok ns/\t.depth<=9/\(t.size:Int)<=room)/\FeedAt H' f/\SameBut f H3 H') %[[],[],aP,.nil,1,(λt ht=>by cases ht),F3.same GD|zJ0 GD] ?_ ?_
 . rintro i H4 hi ⟨tv,ts,hD4,TS,tl,tok,F4,S4⟩;let hi':i<z.toNat:=hi;let hnl4:=S4 nl _ nlf hnl3;erw[0,0,0,0,f,room,1,F4,(rB r1 r30).1,(rB r1 r30).2,λe H5 e0 e1 F5 S5=>?_];let hnl5:=S5 nl _ nlf hnl4;erw[2,f,nl,_,_,ns,1,F5,.inl hnl5,nl6,(eB e0 e1 r30).1,(eB e0 e1 r30).2,4,4,λv t H6 F6 S6 T6 ok6 sz6 dp6=>?_];let S46:=S5.trans S6;let hD6:=S46 D _ Df hD4;let k46:=bc F4 S46;let vl:=TS.length;erw[_,hD6,aO #[0],Nx.of hi ⟨tv++[v],ts++[t],aP,?_,?_,?_,nO F6 Df,?_⟩]
   . let k:=gA (H:=H6) (b:=D) (ys:=tv) (zs:=tv++[v]) hD6;exact((TS.mono k46).mono k).append (.cons (T6.mono k) .nil)
   . rw[zL0,qL0,tl]
   . intro u hu;rcases qH0 hu with h | h
     . exact tok u h
     . rw[Nd h];let d9:(t.depth:Int)<=9:=dp6;let s9:(t.size:Int)<=1+e:=sz6;erw[ok6,3,3]
   . intro b o hb eb;rw[aE (aZ eb hD)];exact S46 b o hb (S4 b o hb eb)
 . rintro H4 ⟨tv,ts,hD4,TS,tl,tok,F4,S4⟩;let hnl4:=S4 nl _ nlf hnl3;let tl':ts.length=z.toNat:=tl;let tl1:1<=ts.length:=#[0]
   let tl4:ts.length<=4:=#[0]
   erw[0,nl,0,.inl %[zG0 hnl4|λa ha=>?_]];let Ga:=zC0 ha (.tup (ns.map V.str));erw[0,D,0,.inl %[zG0 (Ga _ _ hD4)|λb hb=>?_]];let Gb:=zC0 hb (.tup tv);let Gab:=Ga.trans Gb;let wfs:∀t∈ts,t.wf:=λt ht=>Tr.ok_wf nok t (tok t ht).1
   erw[0,0,0,nl,D,ns,tv,ts,1,Gab _ _ hnl4,Gab _ _ hD4,TS.mono (bh Gab),zT0 tl4 ⋯,λt ht=>%[wfs t ht,zT0 (tok t ht).2.1 ⋯|by have:=(tok t ht).2.2;omega],λm H5 S5 m2 m4 mt mc=>?_];let F5:=(F4.same Gab).same S5;erw[f,m,1,F5,m2,m4,λp H6 pp mp p9 F6 S6=>?_];erw[y3S,λg hg=>?_];let Gg:=zC0 hg (.tup [.ref a,.ref b,.int p]);let k6:bZ (upd (upd H4 a (.tup (ns.map V.str))) b (.tup tv)) (upd H6 g (.tup [.ref a,.ref b,.int p])):=λc ys h=>Gg _ _ (bc F5 S6 _ _ (S5 _ _ h))
   apply q g a b ns tv ts p _ aP (k6 _ _ (Gb _ _ aP)) #[0] nok nnd (k6 _ _ aP) ((TS.mono (bh Gab)).mono k6) tl1 tl4 tok pp #[0] p9 #[0] (λt ht x hx=>by have:=mc t ht x hx;omega) (F6.same Gg) ?_;exact S03.trans (S4.trans ((zJ0 (Gab.trans S5)).trans (S6.trans (zJ0 Gg))))
instance spWithin:∀(v:V)(t:Tr),vs=[v]->TreeAt H v t->t.wf->(∀(p:Addr)(xs:List V)(H':Hp),Same H H'->H' p=some (.tup xs)->TreesAt H' xs t.parts->Q (.ref p) H'):=1
def pI:FnScope WB WB (ao ip):=%[|5]
def pK(F:#["trees_within",ip]):#[1,f,fd,WB,spWithin]:=by
 exists pI
 erw[v,t,1,T,wf,q]at h;refine⟨_,(aa (aJ (ai aR (aN ix_tup (pv 0) af #[1]) aq (ax _)) (ae (ay (aM aQ))) aB)
  (ae (ay (fg uf (pv 0) (fe af) jG)))),?_⟩
 rcases T.view wf with⟨a,x,rfl,rfl,_,e⟩ | ⟨a,o,xs,rfl,no,xl,e,TS,_⟩
 . erw[0,a,_,(0),0,1,zA0 e,1,1,0,6];apply aX rfl ?_;erw[y0S,λp hp=>?_];exact q p [] _ (zC0 hp _) aP .nil
 . erw[0,a,_,(0),.str o,1,1,zA0 e,at0 ..,1,0,6];apply aD (λz=>no (by injection z)) ?_;let%[c1|c2]:=cut1 (.str o) xs xl;erw[0,(1),1,a,0,zA0 e,c2,λp hp=>?_];rw[c1];exact q p xs _ (zC0 hp _) aP (TS.mono (bh (zC0 hp _)))
instance spNamesIn(n:Nat):∀(v:V)(t:Tr),vs=[v]->TreeAt H v t->t.wf->t.depth<=n->t.size<=400->(∀(l:Addr)(H':Hp),H l=none->Same H H'->H' l=some (.lst (t.names.map V.str))->Q (.ref l) H'):=1
def jT:FnScope ["tree","names","part"] WB (ao jt):=%[|5]
def yw{n:Nat}(F:#["names_in",jt])(a8:#[1,"trees_within",WB,spWithin])(dq:#[n+2,"names_in",WB,spNamesIn n]):#[n+3,f,fd,WB,spNamesIn (n+1)]:=by
 exists jT
 erw[v,t,1,T,wf,dn,sz,q]at h;refine⟨_,(aa (aJ (ai aR (aN ix_tup (pv 0) af #[1]) aq (ax _)) (ae (ay (cS %[aN ix_tup (pv 0) af #[1]|aQ]))) aB)
  (aa #[aj,1,jT,cS aQ]
  (aa (cu zF1 rfl (eF (am a8 hr #[0] rfl %[0|aQ])) (aU (i:=2) jT.nd rfl (.inl rfl)) (ae (aW (dC zE1 PySem.F.slot_list_extend PySem.F.type_list_extend Bi (pv 1) %[am dq hr (zH0 _) rfl %[2|aQ]|aQ]))))
  (ae (ay (pv 1)))))),?_⟩
 let wf':=wf;rcases T.view wf with⟨a,x,rfl,rfl,_,e⟩ | ⟨a,o,xs0,rfl,no,xl0,e,_,nis⟩
 . erw[0,a,_,(0),0,1,zA0 e,1,1,0,6];apply aX rfl ?_;erw[0,a,_,(1),0,1,zA0 e,1,y1S,λp hp=>?_];exact q p _ hp (zC0 hp _) aP
 . erw[0,a,_,(0),.str o,1,1,zA0 e,at0 ..,1,0,6];apply aD (λz=>no (by injection z)) ?_;erw[y0S,λL hL=>?_];let G0:=zC0 hL (.lst []);erw[0,_,t,1,T.mono (bh G0),wf,λp xs H1 S1 hp TS=>?_];let hL1:H1 L=some (.lst []):=S1 _ _ aP;let pL:p≠L:=λz=>by rw[z,hL1]at hp;cases hp
   let xl:=TS.length;let sp:=t.size_parts;erw[p,1,%[_|zA0 hp],nK (K:=K) (xs:=xs) (λi σ H'=>∃x2,σ=[some (.ref a),some (.ref L),x2]/\H' L=some (.lst ((iz (t.parts.take i)).map V.str))/\SameBut L H1 H') %[0,hL1|SameBut.refl _ _] (λi σ H' _ Na=>by erw[_,_,_,h]at Na;exact zA0 (h _ _ pL hp)) ?_ ?_]
   . rintro i x σ H2 hx ⟨x2,rfl,hl,S2⟩;let%[u,hu|Tu]:=TS.get hx;let um:=qD0 hu;let%[uw,ud|us]:=Tr.parts_mem um wf;let Tu2:TreeAt H2 x u:=Tu.mono λb ys h=>S2 b _ (λz=>by rw[z,hL1]at h;cases h) h
     erw[0,.inl %[1,_|zG0 hl],0,x,u,1,Tu2,uw,3,3,λl H3 l0 S3 hl3=>?_];let nl:=u.names_len;let nl2:=rG (t.parts.take i);let nl3:=qt t.parts i;erw[L,l,2,S3 _ _ hl,hl3,6,6]
     . rw[zF0,zF0];exact cH #[0]
     erw[0,6,λb o hb h=>?_]
     . rw[aP,pA hu,zK0]
     . rw[aE hb];exact S3 _ _ (S2 _ _ hb h)
   . rintro σ H2 ⟨x2,rfl,hl,S2⟩;rw[xl,zZ0,←t.names_parts nis]at hl;erw[0,6];apply q L H2 hL (λb o h=>?_) hl;exact S2 b o (aZ h hL) (S1 _ _ (G0 _ _ h))
def yv:#[2,f,fd,WB,spNamesIn 0]:=by
 let no:∀vs H Q E,¬ spNamesIn 0 vs H Q E:=λvs H Q E h=>by
  erw[v,t,_,_,_,h1,_]at h
  have:=t.depth_pos
  omega
 exists 3
def pw(F:#["names_in",jt])(m:mg "names_in"=some (.ref f))(a8:#[1,"trees_within",WB,spWithin]):
 ∀n:Nat,#[n+2,f,fd,WB,spNamesIn n]
 |0=>yv
 |n+1=>yw F a8 (Cal.of F (pw F m a8 n) m (λ_ _ _ _ _ _ us hl=>by let%[u0|1]:=GE hl;rfl))
instance spField:∀n:Int,vs=[.int n]->n<=999999->(∀b:Bool,(b=true↔2<n/\Pr n)->Q (.bl b) H):=1
def jZ:FnScope ["number","divisor"] ["number"] (ao ma):=%[|5]
def wp(F:#["is_field",ma]):#[1,f,fd,["number"],spField]:=by
 exists jZ
 erw[n,1,n9,q]at h;refine⟨_,(aa (aJ (PW.pt (eC (ai dG (pv 0) af (ax _)) (dM (ai aR (au bb (pv 0) af) af (ax _))))) (ae (ay eU)) aB)
  (aa #[aj,1,jZ,af]
  (aa (iY zF1 (ai tf (au ci (pv 1) (pv 1)) (pv 0) (ax _)) (aa (aJ (ai aR (au bb (pv 0) (pv 1)) af (ax _)) (ae (ay eU)) aB)
   (ae #[aj,1,jZ,au aS (pv 1) af])))
  (ae (ay eU))))),?_⟩
 erw[0,2,0,6]
 by_cases c:n<3
 . apply aX c ?_;apply dU ?_;exact q false %[λz=>(nomatch z)|λz=>#[0]]
 apply aD c ?_;erw[0,2,(by show(0:Int)<_;decide),1,0,6]
 by_cases c2:n % 2=0
 . apply aX (congrArg V.int c2) ?_;exact q false %[λz=>(nomatch z)|λz=>absurd z.2 (BI c2 #[0])]
 apply aD (λz=>c2 (V.int.inj z)) ?_;erw[λm σ H'=>∃d:Int,σ=[some (.int n),some (.int d)]/\H'=H/\3<=d/\d<=1001/\d % 2=1/\xw n d/\m=(n+3-d).toNat,%[_,(3),1,1,3,3,3,Bf n|1],6];rintro m σ H' ⟨d,rfl,rfl,d3,d9,d2,u,rfl⟩;erw[0,0,2,.inl %[3|3],0,2,0,6]
 by_cases c3:d*d<=n
 . apply aX c3 ?_;let r1:=xK n9 d3 c3;let r2:=FK d3 c3;erw[_,λ_ _ h=>h,6];erw[0,0,2,(show 0<d by omega),1,0,6]
   by_cases c4:n % d=0
   . apply aX (congrArg V.int c4) ?_;exact q false %[λz=>(nomatch z)|λz=>absurd z.2 (BH n9 d3 c3 c4)]
   apply aD (λz=>c4 (V.int.inj z)) ?_;erw[0,2,6];erw[_,3,d+2,1,1,3,3,3,DV u d2 c4,1]
 . apply aD c3 ?_;exact q true %[λ_=>%[3|BG #[0] c2 d3 u #[0]]|λ_=>rfl]
abbrev uC:Stmt:=bu uD 0
abbrev xY:Stmt:=bu uD 1
abbrev qI:Stmt:=bu uD 2
abbrev qJ:Stmt:=bu uD 3
def gf(a b:Addr)(p:Int)(d:Addr):List (Str×V):=bV "degrees" (.ref d) (bV "field" (.int p) (bV "trees" (.ref b) (bV "switches" (.ref a) [])))
def ny(a b:Addr)(p:Int)(d:Addr):(gf a b p d).lookup ("switches":Str)=some (.ref a):=by
 unfold gf;rw[az,M6 ⋯,az,M6 ⋯,az,M6 ⋯,az,M8 rfl]
def lK(a b:Addr)(p:Int)(d:Addr):(gf a b p d).lookup ("trees":Str)=some (.ref b):=by
 unfold gf;rw[az,M6 ⋯,az,M6 ⋯,az,M8 rfl]
def iI(a b:Addr)(p:Int)(d:Addr):(gf a b p d).lookup ("field":Str)=some (.int p):=by
 unfold gf;rw[az,M6 ⋯,az,M8 rfl]
def zI(a b:Addr)(p:Int)(d:Addr):(gf a b p d).lookup ("degrees":Str)=some (.ref d):=by
 unfold gf;rw[az,M8 rfl]
def tJ(a b:Addr)(p:Int)(d:Addr){m:Str}(h1:¬ m="degrees")(h2:¬ m="field")(h3:¬ m="trees")(h4:¬ m="switches"):(gf a b p d).lookup m=none:=by
 unfold gf;rw[az,M6 h1,az,M6 h2,az,M6 h3,az,M6 h4]
 all_goals rfl
structure GTxt(K:W.Frag)(mg:#[9])(C:Addr):Prop where
 cl:Cls K C
 nS:NoAttr K C "switches"
 nT:NoAttr K C "trees"
 nF:NoAttr K C "field"
 nD:NoAttr K C "degrees"
 mgC:mg "Game"=some (.ref C)
def xt(g:Nat->Int):∀n,∃k,k<=n/\eN g n=g k
 |0=>%[(0),zH0 _|1]
 |n+1=>by
   let%[k,hk|e]:=xt g n;unfold eN
   split
   . erw[n+1,zH0 _,1]
   . erw[k,3,e]
def jb{ns:List Int}(h:ns≠[]):Bk ns 0∈ns:=by
 cases ns with
 |nil=>exact absurd rfl h
 |cons a r=>
   let%[k,hk|e]:=xt (λi=>(a::r)[i]?.getD 0) ((a::r).length-1);let e1:Bk (a::r) 0=eN (λi=>(a::r)[i]?.getD 0) ((a::r).length-1):=rfl;let hl:k<(a::r).length:=by
    rw[zR0]at hk ⊢;omega
   rw[e1,e];show(a::r)[k]?.getD 0∈a::r;rw[zN0 hl];exact qP0 hl
def aV(ts:List Tr)(x:Str):Int:=Bk (ts.map λt=>(t.names.count x:Int)) 0
def rZ{ts:List Tr}{x:Str}{p:Int}(h0:ts≠[])(h:∀t∈ts,(t.names.count x:Int)<p):aV ts x<p:=by
 have:=jb (ns:=ts.map λt=>(t.names.count x:Int)) #[h0,0]
 let%[t,ht|e]:=List.mem_map.mp this;unfold aV;rw[←e];exact h t ht
instance spDeg:∀(x:Str)(b:Addr)(tv:List V)(ts:List Tr),vs=[.str x,.ref b]->H b=some (.tup tv)->TreesAt H tv ts->ts≠[]->ts.length<=10->(∀t∈ts,t.wf/\t.depth<=10/\t.size<=400)->(∀H',Same H H'->Q (.int (aV ts x)) H'):=1
def uo:FnScope Wj Wj (ao kF):=%[|5]
def uZ(F:#["degree_of",kF])(hmax:mg "max"=none)(dq:#[12,"names_in",WB,spNamesIn 10]):#[13,f,fd,Wj,spDeg]:=by
 exists uo
 erw[x,b,tv,ts,1,hb,TS,t0,tl,tok,q]at h;refine⟨_,(ae (ay (aI (oR rfl) rfl hmax qV1 (ag (cw (N:=["name"]) (ix:=[0]) rfl
  #[3] rfl
  (eF (pv 1)) (λ_ _ _=>cF (DE K zE1 jR1 jS0 (tE K) (am dq hr ⋯ rfl %[0|aQ]) %[1|aQ]))) aQ)))),?_⟩
 let vl:=TS.length;erw[0,b,1,%[_|zA0 hb],λD hD=>?_];apply dJ (K:=K) (xs:=tv) (λi H'=>H' D=some (.lst (((ts.take i).map λt=>(t.names.count x:Int)).map V.int))/\Same H H') %[by rw[aP];rfl|zC0 hD _] (λi H' _ h=>zA0 (h.2 _ _ hb)) ?_ ?_
 . rintro i z H2 hz ⟨hl,S2⟩;let%[t,ht|T]:=TS.get hz;let%[tw,td|tz]:=tok t (qD0 ht);let hi:i<tv.length:=(zY0 hz).1;erw[0,z,t,1,T.mono (bh S2),tw,3,tz,λl H3 l0 S3 hl3=>?_];erw[.inl %[1,_|zG0 hl3],0,l,2,zG0 hl3,gB _,1,6];rw[mr];erw[_,S3 _ _ hl,6,Nx.of hi %[6|λb' o' e'=>?_]]
   . rw[zF0,zF0,qF0];exact aO #[0]
   . rw[aP,qB0,ht,zK0,zK0];rfl
   . rw[aE (aZ e' hD)];exact S3 _ _ (S2 _ _ e')
 . rintro H2 ⟨hl,S2⟩;rw[vl,zZ0]at hl;erw[D,0,zG0 hl,by simpa using t0,q H2 S2]
instance spLookS:∀(a:Addr)(ns:List Str),vs=[.ref a]->H a=some (.tup (ns.map V.str))->ns.Nodup->ns.length<=10->(∀H',Same H H'->Q .non H'):=1
def jM(x:Str)(ns:List Str):inV (.str x) (ns.map V.str)=decide (x∈ns):=by
 unfold inV
 induction ns with
 |nil=>rfl
 |cons a r ih=>
   rw [qC0,jQ0,ih];let e:eqV (.str a) (.str x)=decide (x=a):=by
    show(a==x)=_
    by_cases c:x=a
    . subst c;simp
    . rw[zD1 c];simpa using λh=>c h.symm
   rw[e]
   by_cases c1:x=a <;> by_cases c2:x∈r <;> simp [c1,c2]
def fZ:FnScope ["switches","place","name"] ["switches"] (ao hE):=%[|5]
def oK(F:#["look_switches",hE])(henum:mg "enumerate"=none):#[1,f,fd,["switches"],spLookS]:=by
 exists fZ
 erw[a,ns,1,ha,nd,nl,q]at h;refine⟨_,(ae (cu zF1 rfl (vX rfl henum (pv 0)) (iN rfl (bX (aU (i:=1) fZ.nd rfl (.inl rfl)) (bX (aU (i:=2) fZ.nd rfl (.inl rfl)) gI)))
  (ae (aJ (ai eV (pv 2) (fg uf (pv 0) jG (fe (pv 1))) (by rfl')) bO aB)))),?_⟩
 erw[0,a,1,%[_|zA0 ha],tK (K:=K) (xs:=ns.map V.str) (λi σ H'=>∃x1 x2:Option V,σ=[some (.ref a),x1,x2]/\Same H H') %[_,0|Same.refl _] (λi σ H' _ Na=>by erw[_,_,_,h]at Na;exact zA0 (h _ _ ha)) ?_ ?_]
 . rintro i z σ H1 t hz ⟨x1,x2,rfl,S1⟩ ht;let hi:i<(ns.map V.str).length:=(zY0 hz).1;rw[zW0]at hz;let%[x,hx|1]:=qQ0 hz;let G:=zC0 ht (.tup [.int (i:Int),.str x]);let S2:=S1.trans G;let hi':i<ns.length:=by rw[zF0]at hi;exact hi
   erw[t,0,zA0 aP,1,_,0,2,6];erw[0,0,0,(i:Int),1,a,0,zA0 (S2 _ _ ha),6,λc hc=>?_]
   . rintro⟨_,h⟩;rw[HT.sIx_nat]at h;omega
   . erw[c,0,.inr (zA0 aP),1,6,0,6]
     . let ec:jf (ns.map V.str) none (some (i:Int))=(ns.take i).map V.str:=by
        unfold jf;rw[HT.sIx_none,HT.sIx_nat,jD1,jY0,List.map_take]
        congr 1
        omega
       rw[ec];exact gB _
     . let ec:jf (ns.map V.str) none (some (i:Int))=(ns.take i).map V.str:=by
        unfold jf;rw[HT.sIx_none,HT.sIx_nat,jD1,jY0,List.map_take]
        congr 1
        omega
       show if inV (.str x) (jf (ns.map V.str) none (some (i:Int)))=true then _ else _
       rw[ec,jM,zD1 ?_]
       . apply cM ?_;erw[_,0,S2.trans (zC0 hc _)]
       . intro hm;let%[j,hj|e]:=wG0 hm;rw[qF0]at hj;rw[List.getElem_take]at e;let ex:ns[i]=x:=by
          rw[zN0 hi']at hx;exact zO0 hx
         exact List.pairwise_iff_getElem.mp nd j i #[0] hi' #[0] (e.trans ex.symm)
 . rintro σ H1 ⟨x1,x2,rfl,S1⟩;exact q H1 S1
def nn{ns:List Str}:∀t:Tr,t.ok ns->∀x∈t.names,x∈ns
 |.is y,h,x,hx=>by rw[Nd hx];exact h
 |.yes,_,x,hx=>by cases hx
 |.no,_,x,hx=>by cases hx
 |.not a,h,x,hx=>nn a h x hx
 |.bin _ a b,⟨_,h1,h2⟩,x,hx=>by
   rcases qH0 hx with h | h
   . exact nn a h1 x h
   . exact nn b h2 x h
instance spLookN:∀(a b:Addr)(ns:List Str)(tv:List V)(ts:List Tr),vs=[.ref b,.ref a]->H a=some (.tup (ns.map V.str))->H b=some (.tup tv)->TreesAt H tv ts->(∀t∈ts,t.ok ns/\t.wf/\t.depth<=10/\t.size<=400)->(∀H',Same H H'->Q .non H'):=1
def iD:FnScope ["trees","switches","tree","name"] ["trees","switches"] (ao ju):=%[|5]
def sE(F:#["look_names",ju])(dq:#[12,"names_in",WB,spNamesIn 10]):#[13,f,fd,["trees","switches"],spLookN]:=by
 exists iD
 erw[a,b,ns,tv,ts,1,ha,hb,TS,tok,q]at h;refine⟨_,(ae (cu zF1 rfl (eF (pv 0)) (aU (i:=2) iD.nd rfl (.inl rfl))
  (ae (cu zF1 rfl (dR (am dq hr ⋯ rfl %[2|aQ])) (aU (i:=3) iD.nd rfl (.inl rfl))
   (ae (aJ (ai uR (pv 3) (pv 1) (by rfl')) bO aB)))))),?_⟩
 erw[0,b,1,%[_|zA0 hb],nK (K:=K) (xs:=tv) (λi σ H'=>∃x2 x3:Option V,σ=[some (.ref b),some (.ref a),x2,x3]/\Same H H') %[_,0|Same.refl _] (λi σ H' _ Na=>by erw[_,_,_,h]at Na;exact zA0 (h _ _ hb)) ?_ ?_]
 . rintro i z σ H1 hz ⟨x2,x3,rfl,S1⟩;let%[t,ht|T]:=TS.get hz;let%[tk,tw,td|tz]:=tok t (qD0 ht);erw[0,z,t,1,T.mono (bh S1),tw,3,tz,λl H2 l0 S2 hl=>?_];let S12:=S1.trans S2;erw[l,1,%[_|zG0 hl],fo (K:=K) (xs:=t.names.map V.str) (λj σ H'=>∃x3:Option V,σ=[some (.ref b),some (.ref a),some z,x3]/\H'=H2) %[0|1] (λj σ H' _ Na=>by erw[_,_,h]at Na;subst h;exact zG0 hl) ?_ ?_]
   . rintro j y σ H3 hy ⟨y3,rfl,rfl⟩;rw[zW0]at hy;let%[x,hx|1]:=qQ0 hy;erw[0,0,a,0,.inr (zA0 (S12 _ _ ha)),1,gB _,0,6];show if(!inV (.str x) (ns.map V.str))=true then _ else _
     rw[jM,zC1 (nn t tk x (qD0 hx))];apply cM ?_;erw[0,1]
   . rintro σ H3 ⟨y3,rfl,rfl⟩;erw[_,0,S12]
 . rintro σ H1 ⟨x2,x3,rfl,S1⟩;exact q H1 S1
instance spLookF:∀p:Int,vs=[.int p]->Pr p->2<p->p<=999983->Q .non H:=1
def sB:FnScope ["field"] ["field"] (ao jv):=%[|5]
def sF(F:#["look_field",jv])(hend:∃t,mg "FIELDS_END"=some (.int 1000000 t))(l7:#[1,"is_field",["number"],spField]):#[2,f,fd,["field"],spLookF]:=by
 exists sB
 erw[p,1,pp,p2,p9,q]at h;erw[te,ge]at hend;erw[_,(ae (aJ (PW.pt (eC (ai Hl (pv 0) (dI (v:=.int 1000000) rfl ge %[|0]) (ax _)) (dM (gy (eD (am l7 hr ⋯ rfl %[0|aQ])))))) bO aB)),6];erw[0,2,0,6];apply aD #[0] ?_;erw[0,p,1,3,λb hb=>%[b,1|6]];rw[hb.mpr ⟨p2,pp⟩];exact cM q
instance spLookZ:∀(p:Int)(d:Addr)(ns:List Int),vs=[.int p,.ref d]->H d=some (.lst (ns.map V.int))->ns≠[]->(∀n∈ns,n<p)->Q .non H:=1
def o7:FnScope ["field","degrees","greatest"] ["field","degrees"] (ao ky):=%[|5]
def uV(F:#["look_size",ky])(hmax:mg "max"=none):#[1,f,fd,["field","degrees"],spLookZ]:=by
 exists o7
 erw[p,d,ns,1,hd,n0,nl,q]at h;refine⟨_,(aa #[aj,2,o7,aI (oR rfl) rfl hmax qV1 %[1|aQ]]
  (ae (aJ (ai tf (pv 0) (pv 2) (ax _)) bO aB))),?_⟩
 erw[0,d,ns,1,zG0 hd,n0,6];erw[0,0,2,0,6]
 have:=nl _ (jb n0)
 exact aD #[0] q
def iw(f:Str)(v:V):∀fs:List (Str×V),(bV f v fs).length<=fs.length+1
 | []=>zH0 _
 | (g,u)::r=>by
   have:=iw f v r
   unfold bV
   split
   . simp
   . simp only[zR0];omega
def gf3(a b:Addr)(p:Int):List (Str×V):=bV "field" (.int p) (bV "trees" (.ref b) (bV "switches" (.ref a) []))
def IK(a b:Addr)(p:Int):(gf3 a b p).lookup ("switches":Str)=some (.ref a):=by
 unfold gf3;rw[az,M6 ⋯,az,M6 ⋯,az,M8 rfl]
def IJ(a b:Addr)(p:Int):(gf3 a b p).lookup ("trees":Str)=some (.ref b):=by
 unfold gf3;rw[az,M6 ⋯,az,M8 rfl]
def GameAt(C:Addr)(H:Hp)(g a b d:Addr)(p:Int):Prop:=∃dx,H g=some (.ins C dx (gf a b p d))
def GameAt.same(h:GameAt C H g a b d p)(s:Same H H'):GameAt C H' g a b d p:=by
 erw[dx,e]at h;erw[dx,s _ _ e]
instance spGInit(C:Addr):∀(g dx a b:Addr)(ns:List Str)(tv:List V)(ts:List Tr)(p:Int),vs=[.ref g,.ref a,.ref b,.int p]->H g=some (.ins C dx [])->H a=some (.tup (ns.map V.str))->ns.Nodup->ns.length<=10->H b=some (.tup tv)->TreesAt H tv ts->1<=ts.length->ts.length<=10->(∀t∈ts,t.ok ns/\t.wf/\t.depth<=10/\t.size<=400)->Pr p->2<p->p<=999983->(ts.length:Int)<=p->(∀t∈ts,∀x∈ns,(t.names.count x:Int)<p)->(∀(d:Addr)(H':Hp),H d=none->GameAt C H' g a b d p->H' d=some (.lst ((ns.map (aV ts)).map V.int))->SameBut g H H'->Q .non H'):=1
def CV:FnScope WZ WZ (ao uC):=%[|5]
def DO(F:#["__init__","Game.__init__",uC])(T:GTxt K mg C)(htuple:mg "tuple"=none)(hlen:mg "len"=none)(j4:#[13,"degree_of",Wj,spDeg])(gH:#[1,"look_switches",["switches"],spLookS])
 (iX:#[13,"look_names",["trees","switches"],spLookN])(i3:#[2,"look_field",["field"],spLookF])(j9:#[1,"look_size",["field","degrees"],spLookZ]):#[14,f,fd,WZ,spGInit C]:=by
 exists CV
 erw[g,dx,a,b,ns,tv,ts,p,1,hg,ha,nd,nl,hb,TS,t1,t10,tok,pp,p2,p9,tp,tc,q]at h;refine⟨_,(aa (ba (pv 0) (bd bj rfl htuple bw %[1|aQ]) rfl)
  (aa (ba (pv 0) (bd bj rfl htuple bw %[2|aQ]) rfl)
  (aa (ba (pv 0) (pv 3) rfl)
  (aa (ba (pv 0) (cw (N:=WA) (ix:=[0]) rfl
   #[3] rfl
   (eF (aF (pv 0) rfl)) (λ_ _ _=>cF (am j4 hr ⋯ rfl %[0,lp K (pv 1)|aQ]))) rfl)
  (aa (aW (am gH hr ⋯ rfl %[aF (pv 0) rfl|aQ]))
  (aa (aW (am iX hr ⋯ rfl %[aF (pv 0) rfl,aF (pv 0) rfl|aQ]))
  (aa (aW (am i3 hr ⋯ rfl %[3|aQ]))
  (ae (aW (am j9 hr ⋯ rfl %[3,au mi (aF (pv 0) rfl) (cS %[au bi (aI aG rfl hlen zB1 %[aF (pv 0) rfl|aQ]) af|aQ])|aQ])))))))))),?_⟩
 let nag:a≠g:=bz ha hg nofun;let nbg:b≠g:=bz hb hg nofun;let vl:=TS.length;erw[0,a,0,.inr %[zA0 ha,0,g,C,dx,[],1,hg,T.cl,T.nS,(by show 0<1000;decide)|6]];erw[0,b,0,.inr %[zA0 (by rw[aE nbg];exact hb),0,g,C,dx,0,aP,T.cl,T.nT,(zL1 (iw _ _ _) (by show 1<1000;decide))|6]];erw[0,0,g,C,dx,0,aP,9,T.nF,(zL1 (iw _ _ _) (zL1 (zG1 (iw _ _ _)) (by show 2<1000;decide))),6];let S3:SameBut g H (upd (upd (upd H g (.ins C dx (bV "switches" (.ref a) []))) g (.ins C dx (bV "trees" (.ref b) (bV "switches" (.ref a) [])))) g (.ins C dx (bV "field" (.int p) (bV "trees" (.ref b) (bV "switches" (.ref a) []))))):=
  (SameBut.upd _).trans ((SameBut.upd _).trans (SameBut.upd _))
 let hg3:upd (upd (upd H g (.ins C dx (bV "switches" (.ref a) []))) g (.ins C dx (bV "trees" (.ref b) (bV "switches" (.ref a) [])))) g (.ins C dx (bV "field" (.int p) (bV "trees" (.ref b) (bV "switches" (.ref a) [])))) g=some (.ins C dx (gf3 a b p)):=aP;generalize upd (upd (upd H g (.ins C dx (bV "switches" (.ref a) []))) g (.ins C dx (bV "trees" (.ref b) (bV "switches" (.ref a) [])))) g (.ins C dx (bV "field" (.int p) (bV "trees" (.ref b) (bV "switches" (.ref a) []))))=H3 at S3 hg3;let kT:bZ H H3:=λc xs h=>S3 c _ (bz h hg nofun) h
 let ha3:=kT _ _ ha;let hb3:=kT _ _ hb;let TS3:=TS.mono kT;erw[0,g,C,dx,_,0,hg3,9,T.nS,IK ..,a,1,%[_|zA0 ha3],λD hD=>?_];let D0:H D=none:=by
  cases e:H D with
  |none=>rfl
  |some o=>
    by_cases c:D=g
    . rw[c,hg3]at hD;cases hD
    . rw[S3 D o c e]at hD;cases hD
 apply dJ (K:=K) (xs:=ns.map V.str) (λi H'=>H' D=some (.lst (((ns.take i).map (aV ts)).map V.int))/\Same H3 H') %[by rw[aP];rfl|zC0 hD _] (λi H' _ h=>zA0 (h.2 _ _ ha3)) ?_ ?_
 . rintro i z H4 hz ⟨hl,S4⟩;let hi:i<(ns.map V.str).length:=(zY0 hz).1;rw[zW0]at hz;let%[x,hx|1]:=qQ0 hz;erw[0,0,g,C,dx,_,0,S4 _ _ hg3,9,T.nT,IJ ..,x,b,tv,ts,1,S4 _ _ hb3,TS3.mono (bh S4),6,t10,λt ht=>(tok t ht).2,λH5 S5=>?_]
   . intro e;rw[e]at t1;exact absurd t1 ⋯
   erw[_,S5 _ _ hl,6,Nx.of hi %[6|λb' o' e'=>?_]]
   . rw[zF0,zF0,qF0];exact aO #[0]
   . rw[aP,qB0,hx,zK0,zK0];rfl
   . rw[aE (aZ e' hD)];exact S5 _ _ (S4 _ _ e')
 rintro H4 ⟨hl,S4⟩;rw[zF0,zZ0]at hl;erw[0,g,C,dx,0,S4 _ _ hg3,9,T.nD,6,6]
 . exact zL1 (zT0 (iw _ _ _) (zG1 (zT0 (iw _ _ _) (zG1 (iw _ _ _))))) (by show 3<1000;decide)
 let nDg:D≠g:=λz=>by rw[z,hg3]at hD;cases hD
 let hg5:upd H4 g (.ins C dx (gf a b p D)) g=some (.ins C dx (gf a b p D)):=aP;let S5:SameBut g H (upd H4 g (.ins C dx (gf a b p D))):=S3.trans ((zJ0 S4).trans (SameBut.upd _));let hD5:upd H4 g (.ins C dx (gf a b p D)) D=some (.lst ((ns.map (aV ts)).map V.int)):=by rw[aE nDg];exact hl
 show _;generalize he5:upd H4 g (.ins C dx (gf a b p D))=H5 at hg5 S5 hD5;let kT5:bZ H H5:=λc xs h=>S5 c _ (bz h hg nofun) h
 rw[show upd H4 g (.ins C dx (bV "degrees" (.ref D) (gf3 a b p)))=H5 from he5];erw[0,g,C,dx,_,0,hg5,9,T.nS,ny ..,a,ns,1,kT5 _ _ ha,nd,nl,λH6 S6=>?_];let kT6:bZ H H6:=λc xs h=>S6 _ _ (kT5 c xs h)
 erw[0,g,C,dx,_,0,S6 _ _ hg5,9,T.nT,lK ..,0,g,C,dx,_,0,S6 _ _ hg5,9,T.nS,ny ..,a,b,ns,tv,ts,1,kT6 _ _ ha,kT6 _ _ hb,TS.mono kT6,tok,λH7 S7=>?_];let S57:=S6.trans S7;erw[0,p,1,pp,p2,p9,6];erw[0,0,g,C,dx,_,0,S57 _ _ hg5,9,T.nD,zI ..,0,g,C,dx,_,0,S57 _ _ hg5,9,T.nT,lK ..,b,0,.inr (zA0 (S57 _ _ (kT5 _ _ hb))),2,y1S,λl hl2=>?_];let Gl:=zC0 hl2 (.lst [.int ((tv.length:Int)-1)]);erw[D,l,2,Gl _ _ (S57 _ _ hD5),aP,6,λr hr0=>?_]
 . rw[zF0,zF0];exact cH (by simp;omega)
 let Gr:=zC0 hr0 (.lst ((ns.map (aV ts)).map V.int++[.int ((tv.length:Int)-1)]));erw[p,r,ns.map (aV ts)++[(tv.length:Int)-1],1,6,by simp,λn hn=>?_,6]
 . rw[aP,zK0];rfl
 . rcases qH0 hn with h | h
   . let%[x,hx|1]:=List.mem_map.mp h;apply rZ ?_ λt ht=>tc t ht x hx
     intro e;rw[e]at t1;exact absurd t1 ⋯
   . rw[Nd h];omega
 . let S59:=S57.trans (Gl.trans Gr);exact q D _ D0 %[dx|S59 _ _ hg5] (S59 _ _ hD5) (S5.trans (zJ0 S59))
instance spInv:∀a p:Int,vs=[.int a,.int p]->Pr p->p<=999983->0<a->a<p->(∀g:Int,0<g->g<p->g*a % p=1->Q (.int g) H):=1
def bp:FnScope ["a","p","former","former_factor","rest","factor","times","lesser","lesser_factor"] ["a","p"] (ao jz):=%[|5]
def sJ(F:#["inverse_of",jz]):#[1,f,fd,["a","p"],spInv]:=by
 exists bp
 erw[a,p,1,pr,p1,a0,a1,q]at h;let p2:2<=p:=pr.1;refine⟨_,(aa #[aj,2,bp,pv 1]
  (aa #[aj,3,bp,af]
  (aa #[aj,4,bp,au bb (pv 0) (pv 1)]
  (aa #[aj,5,bp,af]
  (aa (iY zF1 (ai lH (pv 4) af (ax _)) (aa #[aj,6,bp,au zD (pv 2) (pv 4)]
   (aa #[aj,7,bp,au bi (pv 2) (au ci (pv 6) (pv 4))]
   (aa #[aj,8,bp,au bb (au bi (pv 3) (au ci (pv 6) (pv 5))) (pv 1)]
   (aa #[aj,2,bp,pv 4]
   (aa #[aj,3,bp,pv 5]
   (aa #[aj,4,bp,pv 7]
   (ae #[aj,5,bp,pv 8]))))))))
  (ae (ay (pv 5)))))))),?_⟩
 erw[0,6];erw[0,0,2,(show 0<p by omega),6];erw[λm σ H'=>∃(former ff rest g:Int)(x6 x7 x8:Option V),σ=[some (.int a),some (.int p),some (.int former),some (.int ff),some (.int rest),some (.int g),x6,x7,x8]/\H'=H/\Eu a p former ff rest g/\m=rest.toNat,%[_,_,_,_,_,_,2,wS pr #[0] a0 a1|1],6]
 rintro m σ H' ⟨former,ff,rest,g,x6,x7,x8,rfl,rfl,eu,rfl⟩;erw[0,1,0,6]
 by_cases c:rest=1
 . apply nv (congrArg V.int c) ?_;let%[g0,g1|g2]:=EF eu c #[0];erw[0,q g g0 g1 g2]
 . apply iteN (λz=>c (V.int.inj z)) ?_;erw[_,λ_ _ h=>h,6];let r0:=eu.r0;let rp:=eu.rp;let f0:=eu.f0;let f1:=eu.f1;let%[nx|lt]:=zM eu c;erw[0,0,2,%[r0|3],6];erw[0,0,0,2,.inr %[3|3],2,6];erw[0,0,0,2,.inr %[3|3],2,0,2,(show 0<p by omega),6];erw[0,0,0,0,6];erw[_,lt,_,_,_,_,_,2,nx,1]
def md{p x y:Int}(h:p ∣ x-y):x % p=y % p:=by
 erw[k,hk]at h
 have:x=y+p*k:=#[0]
 rw[this,Int.add_mul_emod_self_left]
def dm(p x:Int):p ∣ x % p-x:=⟨-(x / p),by
 have:=qU1 x p
 rw[Int.mul_neg];omega⟩
def pmd(p:Int)(g:Nat->Int):Nat->Int
 |0=>1
 |k+1=>pmd p g k*g k % p
def mZ(p:Int)(g:Nat->Int):∀k,p ∣ pmd p g k-pr g k
 |0=>%[(0)|by simp [pmd,pr]]
 |k+1=>by
   let%[a|ha]:=mZ p g k;let%[b|hb]:=dm p (pmd p g k*g k);erw[b+a*g k,by show pmd p g k*g k % p-pr g k*g k=_;grind]
def mY{p:Int}(hp:1<p)(g:Nat->Int):∀k,0<=pmd p g k/\pmd p g k<p
 |0=>%[by show(0:Int)<=1;decide|hp]
 |k+1=>%[qG0 _ #[0]|qI0 _ #[0]]
def prL(p:Int)(g:Nat->Int)(n:Nat):List V:=((List.range n).map (pmd p g)).map V.int
def qU(p:Int)(g:Nat->Int)(n:Nat):prL p g (n+1)=prL p g n++[.int (pmd p g n)]:=by
 unfold prL;rw[qJ1,zK0,zK0];rfl
def FM(p:Int)(g:Nat->Int)(n:Nat):(prL p g n).length=n:=by
 unfold prL;rw[zF0,zF0,qR0]
def yB{f:Nat->Int}{n k:Nat}(h:k<n):atI (((List.range n).map f).map V.int) (k:Int)=some (.int (f k)):=by
 apply bv ?_;rw[zW0,zW0,jL1 h];rfl
def yd{n k:Nat}(h:k<n):atI (prL p g n) (k:Int)=some (.int (pmd p g k)):=yB h
instance spProd:∀(a:Addr)(g:Nat->Int)(n:Nat)(p:Int),vs=[.ref a,.int p]->H a=some (.lst (((List.range n).map g).map V.int))->n<=500->1<p->p<2 ^ 40->(∀(l:Addr)(H':Hp),H l=none->Same H H'->H' l=some (.lst (prL p g (n+1)))->Q (.ref l) H'):=1
def kg:FnScope ["numbers","p","told","number"] Wk (ao lW):=%[|5]
def wj(F:#["products",lW]):#[1,f,fd,Wk,spProd]:=by
 exists kg
 erw[a,g,n,p,1,ha,n5,p1,p40,q]at h;refine⟨_,(aa #[aj,2,kg,cS %[af|aQ]]
  (aa (cu zF1 rfl (dR (pv 0)) (aU (i:=3) kg.nd rfl (.inl rfl)) (ae (aW (dC zE1 zH1 zI1 cf (pv 2) %[au bb (au ci (aN ix_list (pv 2) (zz tZ af) #[1]) (pv 3)) (pv 1)|aQ]))))
  (ae (ay (pv 2))))),?_⟩
 erw[y1S,λL hL=>?_];let aL:a≠L:=aZ ha hL;refine⟨_,rfl,a,rfl,%[_|zG0 ((zC0 hL _) _ _ ha)],fo (K:=K) (xs:=((List.range n).map g).map V.int) (λi σ H'=>∃x3:Option V,σ=[some (.ref a),some (.int p),some (.ref L),x3]/\H' L=some (.lst (prL p g (i+1)))/\SameBut L H H')
  %[0,by rw[aP];rfl|SameBut.upd _] (λi σ H' _ Na=>by erw[_,_,_,h]at Na;exact zG0 (h _ _ aL ha)) ?_ ?_⟩
 . rintro i z σ H1 hz ⟨x3,rfl,hL1,S1⟩;let hi:=(zY0 hz).1;rw[zF0,zF0,qR0]at hi;rw[zW0,zW0,jL1 hi]at hz;obtain rfl:V.int (g i)=z:=zO0 hz;let rg:=mY p1 g i;erw[0,.inl %[1,_|zG0 hL1],6];erw[0,0,L,_,_,.int (pmd p g i),1,1,zG0 hL1,6,0,2,.inl %[3|3],0,2,#[0],L,2,hL1,6,6]
   . rw[qU];exact xu _ _
   . rw[FM];exact aO #[0]
   . erw[0,6,λc o hc e=>?_]
     . rw[aP,qU p g (i+1)];rfl
     . rw[aE hc];exact S1 c o hc e
 . rintro σ H1 ⟨x3,rfl,hL1,S1⟩;rw[zF0,zF0,qR0]at hL1;erw[0,q L H1 hL (λb o e=>S1 b o (aZ e hL) e) hL1]
def Dr:∀n:Nat,pr (λk=>1+(k:Int)) n=fac n
 |0=>rfl
 |n+1=>by
   show pr (λk=>1+(k:Int)) n*(1+(n:Int))=fac n*((n:Int)+1)
   rw[Dr n,Int.add_comm]
def CL{p g a t s:Int}{k m:Nat}(hg:g*a % p=1)(p1:1<p)(ha:p ∣ a-fac (k+m))(ht:p ∣ t-pr (λj=>((k+m:Nat):Int)-j) m)(hs:p ∣ s-g*t):p ∣ s*fac k-1:=by
 let f:=wQ m k;erw[x,hx]at ha;erw[y,hy]at ht;erw[z,hz]at hs;let%[e|he]:=dm p (g*a);rw[hg]at he;erw[z*fac k+g*y*fac k-g*x-e,by grind]
instance spFacs:∀(L:Nat)(p:Int),vs=[.int (L:Int),.int p]->L<=500->(L:Int)<p->Pr p->p<=999983->(∀(l:Addr)(H':Hp)(sh:Nat->Int),H l=none->Same H H'->(∀k,k<=L->p ∣ sh k*fac k-1)->(∀k,0<=sh k/\sh k<p)->H' l=some (.lst (((List.range (L+1)).map sh).map V.int))->Q (.ref l) H'):=1
def cP:FnScope ["last","p","numbers","whole","told"] ["last","p"] (ao eA):=%[|5]
def jY(F:#["inverse_factorials",eA])(B:Bl mg)(du:#[1,"products",Wk,spProd])(d8:#[1,"inverse_of",["a","p"],spInv]):#[2,f,fd,["last","p"],spFacs]:=by
 exists cP
 erw[L,p,1,L5,Lp,pp,p9,q]at h;refine⟨_,(aa #[aj,2,cP,yi rfl rfl B.list rfl B.range %[af,au aS (pv 0) af|aQ]]
  (aa (aj (i:=3) cP.nd rfl (Or.inr rfl) (am d8 hr ⋯ rfl %[aN ix_list (am du hr ⋯ rfl %[2,1|aQ]) (zz tZ af) #[1],1|aQ]))
  (aa (aj (i:=4) cP.nd rfl (Or.inr rfl) (am du hr ⋯ rfl (ag (cw (N:=["last"]) (ix:=[0]) rfl
   #[3] rfl
   (cr rfl B.range %[0|aQ]) (λ_ _ _=>cF (au bi (pv 1) (pv 0)))) %[1|aQ])))
  (ae (ay (cw (N:=["whole","told","p","last"]) (ix:=[3,4,1,0]) rfl
   (CompScope.four (by rfl') ⋯ rfl ⋯ rfl ⋯ rfl (by rfl') (by rfl') (by rfl') (by rfl') (by rfl') (by rfl') rfl rfl (by rfl') rfl rfl (by rfl') rfl rfl (by rfl') rfl rfl) rfl
   (cr rfl B.range %[au aS (pv 0) af|aQ]) (λ_ _ _=>cF (au bb (au ci (pv 1) (aN (wL K) (pv 2) (au bi (pv 4) (pv 0)) #[1])) (pv 3))))))))),?_⟩
 let p2:=pp.1;let hP:=vW pp #[0];erw[0,2,(1),0,%[4,4,3|3],3,λa ha=>?_];let e1:uM 1 ((L:Int)+1-1).toNat=(List.range L).map λk:Nat=>1+(k:Int):=by
  unfold uM;rw[show((L:Int)+1-1).toNat=L by omega]
 rw [e1];let Ga:=zC0 ha (.lst (((List.range L).map λk:Nat=>1+(k:Int)).map V.int));erw[0,0,a,_,L,p,1,aP,L5,3,3,λl H2 l0 S2 hl2=>?_];let rg:=mY (show 1<p by omega) (λk:Nat=>1+(k:Int)) L;let dv:=mZ p (λk:Nat=>1+(k:Int)) L;rw[Dr]at dv;let ne0:pmd p (λk:Nat=>1+(k:Int)) L≠0:=λz=>by
  rw[z]at dv;erw[m,hm]at dv;exact vv hP L Lp %[-m|by rw[Int.mul_neg];omega]
 erw[0,l,_,_,.int (pmd p (λk:Nat=>1+(k:Int)) L),1,1,zG0 hl2,by rw[qU];exact xu _ _,0,_,p,1,pp,p9,3,rg.2,λg g0 g1 hg=>?_];let SH2:=Ga.trans S2;erw[0,0,3,3,λD hD=>?_];apply eI (λi H'=>H' D=some (.lst (((List.range i).map λj:Nat=>(L:Int)-j).map V.int))/\Same H2 H') %[by rw[aP];rfl|zC0 hD _] ?_ ?_
 . rintro i H3 hi ⟨hD3,S3⟩;erw[0,0,2,_,hD3,6,Nx.of hi %[6|λb o e=>?_]]
   . rw[zF0,zF0,qR0];exact aO #[0]
   . rw[aP,qJ1,zK0,zK0,jG1];rfl
   . rw[aE (aZ e hD)];exact S3 _ _ e
 rintro H3 ⟨hD3,S3⟩;rw[show((L:Int)).toNat=L from qT0 L]at hD3;erw[0,D,_,L,p,1,hD3,L5,3,3,λt H4 t0 S4 ht4=>?_];erw[0,2,0,3,3,λD2 hD2=>?_];apply eI (λi H'=>H' D2=some (.lst (((List.range i).map λk:Nat=>g*pmd p (λj:Nat=>(L:Int)-j) (L-k) % p).map V.int))/\Same H4 H') %[by rw[aP];rfl|zC0 hD2 _] ?_ ?_
 . rintro i H5 hi ⟨hD5,S5⟩;let hi':i<L+1:=#[0]
   let rg2:=mY (show 1<p by omega) (λj:Nat=>(L:Int)-j) (L-i);let e2:(L:Int)-(0+(i:Int))=((L-i:Nat):Int):=#[0]
   erw[0,0,0,0,2,t,_,_,.int (pmd p (λj:Nat=>(L:Int)-j) (L-i)),1,1,zG0 (S5 _ _ ht4),by rw[e2];exact yd #[0],2,.inl %[3|3],0,2,#[0],_,hD5,6,Nx.of hi ⟨?_,λb o e=>?_⟩]
   . rw[zF0,zF0,qR0];exact aO #[0]
   . rw[aP,qJ1,zK0,zK0];rfl
   . rw[aE (aZ e hD2)];exact S5 _ _ e
 rintro H5 ⟨hD5,S5⟩;rw[show((L:Int)+1).toNat=L+1 by omega]at hD5;let S05:=SH2.trans (S3.trans (S4.trans S5));apply q D2 H5 (λk=>g*pmd p (λj:Nat=>(L:Int)-j) (L-k) % p) ((SH2.trans (S3.trans S4)).free hD2) S05 (λk hk=>?_) (λk=>%[qG0 _ #[0]|qI0 _ #[0]]) hD5;obtain⟨m,rfl⟩:∃m,L=k+m:=⟨L-k,#[0]⟩
 rw[show k+m-k=m by omega];exact CL hg #[0] dv (mZ p _ m) (dm p _)
def wt(p:Int)(n i:Nat):Int:=(px (i:Int) i n % p) ^ (p-2).toNat
def xA(hp:Pm p){n:Nat}(hn:(n:Int)<=p):Wgt p n (wt p n):=λi hi=>by
 let h1:=HY hp hn hi;let%[k|hk]:=dm p (px (i:Int) i n);let h2:¬ p ∣ px (i:Int) i n % p:=fun⟨m,hm⟩=>h1 %[m-k|by grind]
 let%[m|hm]:=IQ hp h2 (qG0 _ (by have:=hp.1;omega));erw[m-k*(px (i:Int) i n % p) ^ (p-2).toNat,by unfold wt;grind]
def val(p:Int)(xs:List Int)(r:Int):Int:=lag (λi=>xs.getD i 0) (wt p xs.length) xs.length r % p
def Hx{t:Int}{xs:List Int}(hp:Pm p)(hn:(xs.length:Int)<=p)(hu:Wgt p xs.length u)(t0:0<=t)(t1:t<p)(h:p ∣ t-lag (λi=>xs.getD i 0) u xs.length r):t=val p xs r:=by
 let e:p ∣ t-lag (λi=>xs.getD i 0) (wt p xs.length) xs.length r:=by
  have:=El hp hn (v:=λi=>xs.getD i 0) hu (xA hp hn) r
  let z:=wI1 h this;let e2:t-lag (λi=>xs.getD i 0) u xs.length r+(lag (λi=>xs.getD i 0) u xs.length r-lag (λi=>xs.getD i 0) (wt p xs.length) xs.length r)=t-lag (λi=>xs.getD i 0) (wt p xs.length) xs.length r:=#[0]
  rw[e2]at z;exact z
 have:=md e
 rw[qU0 t0 t1]at this;exact this
def zf{p:Int}(hp:1<p)(xs:List Int)(r:Int):0<=val p xs r/\val p xs r<p:=%[qG0 _ #[0]|qI0 _ #[0]]
def Hy{xs:List Int}{k:Nat}(hp:Pm p)(hn:(xs.length:Int)<=p)(hk:k<xs.length):val p xs k=xs.getD k 0 % p:=md (yG (xA hp hn) hk)
def sgn(m:Nat):(-1:Int) ^ m=if m % 2=1 then -1 else 1:=by
 induction m with
 |zero=>rfl
 |succ m ih=>
   rw[jN1,ih]
   by_cases c:m % 2=1
   . rw[M8 c,M6 #[0]];rfl
   . rw[M6 c,M8 #[0]];rfl
def Fe{p r v t s a b c d e:Int}{m:Nat}{x y:Int}(ht:p ∣ t-s)(ha:p ∣ a-pr (λj=>r-j) i)(hb:p ∣ b-pr (λj=>r-(i+m:Nat)+j) m)(hc:p ∣ c-v*a*b)(hd:p ∣ d-x*y)(he:p ∣ e-(t+(if m % 2=1 then -(c*d)else c*d))):
 p ∣ e-(s+v*px r i (i+m+1)*((-1) ^ m*(x*y))):=by
 rw[show i+m+1=i+1+m by omega,qP,sgn];rw[zx]at hb;generalize pr (λj=>r-j) i=A at *
 generalize pr (λj=>r-(i+1+j:Nat)) m=B at *
 erw[t',ht]at ht;erw[a',ha]at ha;erw[b',hb]at hb;erw[c',hc]at hc;erw[d',hd]at hd;erw[e',he]at he;let e1:c*d-v*(A*B)*(x*y)=p*(c'*d+v*(a'*b+A*b')*d+v*A*B*d'):=by grind
 by_cases z:m % 2=1
 . rw [M8 z]at *
   erw[e'+t'-(c'*d+v*(a'*b+A*b')*d+v*A*B*d'),by grind]
 . rw [M6 z]at *
   erw[e'+t'+(c'*d+v*(a'*b+A*b')*d+v*A*B*d'),by grind]
def IntsAt(H:Hp)(a:Addr)(xs:List Int):Prop:=H a=some (.lst (xs.map V.int))∨H a=some (.tup (xs.map V.int))
def IntsAt.same(h:IntsAt H a xs)(s:Same H H'):IntsAt H' a xs:=h.elim (λe=>.inl (s _ _ e)) (λe=>.inr (s _ _ e))
def IntsAt.seq{K:W.Frag}(h:IntsAt H a xs):SqL K H a (xs.map V.int)∨SqT K H a (xs.map V.int):=h.elim (λe=>.inl (zG0 e)) (λe=>.inr (zA0 e))
def IntsAt.ix{K:W.Frag}{k:Nat}{Q:VK}(h:IntsAt H a xs)(hk:k<xs.length)(q:Q (.int (xs.getD k 0)) H):rIxL K (.ref a) (.int (k:Int)) H Q∨rIxT K (.ref a) (.int (k:Int)) H Q:=by
 let e:atI (xs.map V.int) (k:Int)=some (.int (xs.getD k 0)):=bv (by rw[zW0,zN0 hk,qO0,zN0 hk];rfl);rcases h with h | h
 . exact .inl %[a,_,2,zG0 h,e|q]
 . exact .inr %[a,_,2,zA0 h,e|q]
def lO(xs:List Int)(p:Int):Prop:=1<=xs.length/\xs.length<=500/\(xs.length:Int)<=p/\∀k,0<=xs.getD k 0/\xs.getD k 0<2 ^ 40
instance spVal:∀(a:Addr)(xs:List Int)(r p:Int),vs=[.ref a,.int r,.int p]->IntsAt H a xs->lO xs p->Pr p->p<=999983->0<=r->r<p->(∀H',Same H H'->Q (.int (val p xs r)) H'):=1
def bg:FnScope ["values","r","p","last","ahead","behind","shares","total","place","share","part"] WK (ao io):=%[|5]
def pJ(F:#["value_behind",io])(B:Bl mg)(du:#[1,"products",Wk,spProd])(eE:#[2,"inverse_factorials",["last","p"],spFacs]):#[3,f,fd,WK,spVal]:=by
 exists bg
 erw[a,xs,r,p,1,ha,%[x1,x5,xp|xb],pp,p9,r0,r1,q]at h;refine⟨_,(aa (aj (i:=3) bg.nd rfl (Or.inr rfl) (au bi (aI aG rfl B.len zB1 %[0|aQ]) af))
  (aa (aj (i:=4) bg.nd rfl (.inl rfl) (am du hr ⋯ rfl (ag (cw (N:=["r"]) (ix:=[1]) rfl
   #[3] rfl
   (cr rfl B.range %[3|aQ]) (λ_ _ _=>cF (au bi (pv 1) (pv 0)))) %[2|aQ])))
  (aa (aj (i:=5) bg.nd rfl (.inl rfl) (am du hr ⋯ rfl (ag (cw (N:=["r","last"]) (ix:=[1,3]) rfl
   #[4] rfl
   (cr rfl B.range %[3|aQ]) (λ_ _ _=>cF (au aS (au bi (pv 1) (pv 2)) (pv 0)))) %[2|aQ])))
  (aa #[aj,6,bg,am eE hr ⋯ rfl %[3,2|aQ]]
  (aa #[aj,7,bg,af]
  (aa (cu zF1 rfl (cr rfl B.range %[au aS (pv 3) af|aQ]) (aU (i:=8) bg.nd rfl (.inl rfl)) (aa #[aj,9,bg,au bb (au ci (aN ix_list (pv 6) (pv 8) #[1]) (aN ix_list (pv 6) (au bi (pv 3) (pv 8)) #[1])) (pv 2)]
   (aa #[aj,10,bg,au ci (au bb (au ci (au ci (aN (ix_list.or ix_tup) (pv 0) (pv 8) #[1]) (aN ix_list (pv 4) (pv 8) #[1])) (aN ix_list (pv 5) (au bi (pv 3) (pv 8)) #[1])) (pv 2)) (pv 9)]
   (aa (aJ (ai aR (au bb (au bi (pv 3) (pv 8)) af) af (ax _)) (ae #[aj,10,bg,zz tZ (pv 10)]) aB)
   (ae #[aj,7,bg,au bb (au aS (pv 7) (pv 10)) (pv 2)])))))
  (ae (ay (pv 7))))))))),?_⟩
 let p2:=pp.1;let p1:1<p:=#[0]
 let p0:0<p:=#[0]
 let hP:=vW pp #[0];obtain⟨L,hL⟩:∃L,xs.length=L+1:=%[xs.length-1|3]
 let eL:(((xs.map V.int).length:Nat):Int)-1=(L:Int):=by rw[zF0];omega
 erw[0,a,0,ha.seq,2,6]
 dsimp only
 rw[eL];erw[0,(L:Int),1,3,3,λD hD=>?_];apply eI (λi H'=>H' D=some (.lst (((List.range i).map λj:Nat=>r-j).map V.int))/\Same H H') %[by rw[aP];rfl|zC0 hD _] ?_ ?_
 . rintro i H3 hi ⟨hD3,S3⟩;erw[0,0,2,_,hD3,6,Nx.of hi %[6|λb o e=>?_]]
   . rw[zF0,zF0,qR0];exact aO #[0]
   . rw[aP,qJ1,zK0,zK0,jG1];rfl
   . rw[aE (aZ e hD)];exact S3 _ _ e
 rintro H1 ⟨hD1,S1⟩;rw[show((L:Int)).toNat=L from qT0 L]at hD1;erw[0,D,_,L,p,1,hD1,3,p1,3,λla H2 la0 S2 hla=>?_];erw[0,(L:Int),1,3,3,λD2 hD2=>?_];apply eI (λi H'=>H' D2=some (.lst (((List.range i).map λj:Nat=>r-(L:Int)+j).map V.int))/\Same H2 H') %[by rw[aP];rfl|zC0 hD2 _] ?_ ?_
 . rintro i H3 hi ⟨hD3,S3⟩;erw[0,0,2,0,2,_,hD3,6,Nx.of hi %[6|λb o e=>?_]]
   . rw[zF0,zF0,qR0];exact aO #[0]
   . rw[aP,qJ1,zK0,zK0,jG1];rfl
   . rw[aE (aZ e hD2)];exact S3 _ _ e
 rintro H3 ⟨hD3,S3⟩;rw[show((L:Int)).toNat=L from qT0 L]at hD3;erw[0,D2,_,L,p,1,hD3,3,p1,3,λlb H4 lb0 S4 hlb=>?_];erw[0,0,L,p,1,3,3,pp,p9,λls H5 sh ls0 S5 hsh hsr hls=>?_];let S25:=S3.trans (S4.trans S5);let S05:=S1.trans (S2.trans S25);let hla5:=S25 _ _ hla;let hlb5:=S5 _ _ hlb;let ha5:=ha.same S05;let hW:=Fd hsh;refine⟨_,rfl,_,_,rfl,rfl,_,rfl,#[0],#[0],eK (λi σ H'=>∃(t:Int)(x8 x9 x10:Option V),σ=[some (.ref a),some (.int r),some (.int p),some (.int L),some (.ref la),some (.ref lb),some (.ref ls),some (.int t),x8,x9,x10]/\0<=t/\t<p/\p ∣ t-sm (λi=>xs.getD i 0*px r i (L+1)*((-1) ^ (L-i)*(sh i*sh (L-i)))) i/\H'=H5)
  %[(0),_,_,0,4,p0,%[(0)|by simp [sm]]|1] ?_ ?_⟩
 . rintro i σ H6 hi ⟨t,x8,x9,x10,rfl,t0,t1,td,rfl⟩;let hi':i<L+1:=#[0]
   obtain⟨m,hm⟩:∃m,L=i+m:=%[L-i|3]
   let e0:(0:Int)+(i:Int)=(i:Int):=jG1 _;let e1:(L:Int)-(0+(i:Int))=(m:Int):=#[0]
   let r1':=hsr i;let r2':=hsr m;let ar:=mY p1 (λj:Nat=>r-j) i;let br:=mY p1 (λj:Nat=>r-(L:Int)+j) m;let xi:=xb i;let m1:∀z:Int,0<=z % p:=λz=>qG0 _ #[0]
   let m2:∀z:Int,z % p<p:=λz=>qI0 _ p0
   erw[0,0,ls,_,_,.int (sh i),1,1,zG0 hls,by rw[e0];exact yB hi',0,0,0,2,ls,_,_,.int (sh m),1,1,zG0 hls,by rw[e1];exact yB #[0],2,.inl %[3|3],0,2,p0,6];erw[0,0,6];rw[e0];apply ha5.ix #[0] ?_;erw[0,0,la,_,_,.int (pmd p (λj:Nat=>r-j) i),1,1,zG0 hla5,yd hi',2,.inl %[3|3],6];erw[0,0,0,2,lb,_,_,.int (pmd p (λj:Nat=>r-(L:Int)+j) m),1,1,zG0 hlb5,by rw[←e0,e1];exact yd #[0],2,.inr %[3|3],0,2,p0,6];let s1:=m1 (sh i*sh m);let s2:=m2 (sh i*sh m);erw[0,2,.inr %[3|3],6];erw[0,0,2,2,(by show(0:Int)<_;decide),1,0,6];let fin:∀z:Int,z=(if m % 2=1 then -(xs.getD i 0*pmd p (λj:Nat=>r-j) i*pmd p (λj:Nat=>r-(L:Int)+j) m % p*(sh i*sh m % p))else xs.getD i 0*pmd p (λj:Nat=>r-j) i*pmd p (λj:Nat=>r-(L:Int)+j) m % p*(sh i*sh m % p)) ->
    p ∣ (t+z) % p-sm (λi=>xs.getD i 0*px r i (L+1)*((-1) ^ (L-i)*(sh i*sh (L-i)))) (i+1):=λz hz=>by
    show p ∣ _-(sm _ i+xs.getD i 0*px r i (L+1)*((-1) ^ (L-i)*(sh i*sh (L-i))))
    let em:L-i=m:=#[0]
    let hb:p ∣ pmd p (λj:Nat=>r-(L:Int)+j) m-pr (λj=>r-(i+m:Nat)+j) m:=by
     rw[←hm];exact mZ p _ m
    subst hz;rw[em];let el:L+1=i+m+1:=#[0]
    rw[el]at td ⊢;exact Fe td (mZ p _ i) hb (dm p _) (dm p _) (dm p _)
   by_cases c:m % 2=1
   . apply aX (congrArg V.int #[0]) ?_;erw[0,0,6];erw[0,0,2,0,2,p0,6];erw[_,_,_,0,m1 _,m2 _,fin _ (by rw[M8 c]),1]
   . apply aD (λz=>c (by have:=V.int.inj z;omega)) ?_;erw[0,0,2,0,2,p0,6];erw[_,_,_,0,m1 _,m2 _,fin _ (by rw[M6 c]),1]
 . rintro σ H6 ⟨t,x8,x9,x10,rfl,t0,t1,td,rfl⟩;rw[show((L:Int)+1).toNat=L+1 by omega]at td;rw[←hL]at hW;let e:=Hx (r:=r) hP xp hW t0 t1 (by
    unfold lag;rw[hL];exact td)
   rw[e];erw[0,q H6 S05]
def u4:FnScope ["values","r","p","place"] WK (ao lS):=%[|5]
def wa(F:#["value_at",lS])(B:Bl mg)(gY:#[3,"value_behind",WK,spVal]):#[4,f,fd,WK,spVal]:=by
 exists u4
 erw[a,xs,r,p,1,ha,ok,pp,p9,r0,r1,q]at h;refine⟨_,(aa #[aj,3,u4,au bb (pv 1) (pv 2)]
  (aa (aJ (ai dG (pv 3) (aI aG rfl B.len zB1 %[0|aQ]) (ax _)) (ae (ay (au bb (aN (ix_list.or ix_tup) (pv 0) (pv 3) #[1]) (pv 2)))) aB)
  (ae (ay (am gY hr ⋯ rfl %[0,3,2|aQ]))))),?_⟩
 let p0:0<p:=#[0]
 let hP:=vW pp #[0];let er:r % p=r:=qU0 r0 r1;erw[0,0,2,p0,6]
 dsimp only
 rw[er];erw[0,0,a,0,ha.seq,2,0,6];apply rP (λc=>?_) (λc=>?_)
 . let c':=zU1 c;rw[zF0]at c';obtain⟨k,rfl⟩:∃k:Nat,r=(k:Int):=%[r.toNat|3]
   erw[0,0,6];apply ha.ix #[0] ?_;erw[0,2,p0,6];show Q (.int (xs.getD k 0 % p)) H;rw[←Hy hP ok.2.2.1 #[0]];exact q H (Same.refl _)
 . erw[0,0,0,a,xs,r,p,1,ha,ok,pp,p9,r0,r1,q]
instance spEnds:∀(a:Addr)(xs:List Int)(p:Int),vs=[.ref a,.int p]->IntsAt H a xs->lO xs p->Pr p->p<=999983->(∀H',Same H H'->Q (.int ((val p xs 0+val p xs 1) % p)) H'):=1
def ur:FnScope ["values","p"] ["values","p"] (ao kH):=%[|5]
def vb(F:#["both_ends",kH])(b6:#[4,"value_at",WK,spVal]):#[5,f,fd,["values","p"],spEnds]:=by
 exists ur
 erw[a,xs,p,1,ha,ok,pp,p9,q]at h;erw[_,(ae (ay (au bb (au aS (am b6 hr ⋯ rfl %[0,af,1|aQ]) (am b6 hr ⋯ rfl %[0,af,1|aQ])) (pv 1)))),6];let p2:=pp.1;erw[0,0,a,xs,(0),p,1,ha,ok,pp,p9,4,3,λH1 S1=>?_];erw[0,0,a,xs,(1),p,1,ha.same S1,ok,pp,p9,4,3,λH2 S2=>?_];erw[2,0,2,#[0],q H2 (S1.trans S2)]
def IntsAt.sqB{K:W.Frag}(h:IntsAt H a xs):∃c,SqB K c H a (xs.map V.int):=h.elim (λe=>%[true|zG0 e]) (λe=>%[false|zA0 e])
def hor(s p:Int):List Int->Int
 | []=>0
 |a::r=>(hor s p r*s+a) % p
def jN{p:Int}(hp:0<p):∀ns,0<=hor s p ns/\hor s p ns<p
 | []=>%[zT1 0|hp]
 |a::r=>%[qG0 _ #[0]|qI0 _ hp]
instance spMix(C:Addr):∀(g a b d l:Addr)(ns:List Int)(s p:Int),vs=[.ref g,.ref l,.int s]->GameAt C H g a b d p->0<p->p<2 ^ 40->IntsAt H l ns->Q (.int (hor s p ns)) H:=1
def sW:FnScope ["self","numbers","s","total","number"] WT (ao xY):=%[|5]
def Gc(F:#["mix","Game.mix",xY])(T:GTxt K mg C)(hrev:mg "reversed"=none):#[1,f,fd,WT,spMix C]:=by
 exists sW
 erw[g,a,b,d,l,ns,s,p,1,%[dx|hg],p0,p40,hl,q]at h;refine⟨_,(aa #[aj,3,sW,af]
  (aa (cu zF1 rfl (FP rfl hrev (pv 1)) (aU (i:=4) sW.nd rfl (.inl rfl)) (ae #[aj,3,sW,au bb (au aS (au ci (pv 3) (pv 2)) (pv 4)) (aF (pv 0) rfl)]))
  (ae (ay (pv 3))))),?_⟩
 let%[c|hl]:=hl.sqB (K:=K);refine⟨_,rfl,c,l,_,rfl,hl,EC (K:=K) (c:=c) (xs:=ns.map V.int) (λi σ H'=>∃(x4:Option V)(t:Int),σ=[some (.ref g),some (.ref l),some (.int s),some (.int t),x4]/\t=hor s p (ns.drop (ns.length-i))/\H'=H)
  %[_,(0),1,by rw[jY0,List.drop_length];rfl|1] (λi σ H' _ Na=>by erw[_,_,_,_,h]at Na;subst h;exact hl) ?_ ?_⟩
 . rintro i z σ H1 hi hz ⟨x4,t,rfl,rfl,rfl⟩;rw[zF0]at hi;rw[←List.map_reverse,zW0]at hz;let%[x,hx|1]:=qQ0 hz;rw[qT1 hi]at hx;let hr2:=jN (s:=s) p0 (ns.drop (ns.length-i));erw[0,0,2,.inl %[3|3],0,2,0,g,C,dx,_,0,hg,T.cl,T.nF,iI ..,2,p0,6];erw[_,0,6,1];let hj:ns.length-1-i<ns.length:=#[0]
   let ed:ns.drop (ns.length-(i+1))=x::ns.drop (ns.length-i):=by
    let e1:ns.length-(i+1)=ns.length-1-i:=#[0]
    let e2:ns.length-i=ns.length-1-i+1:=#[0]
    rw[e1,e2,qW1 hj]
    congr 1
    rw[zN0 hj]at hx;exact zO0 hx
   rw[ed];rfl
 . rintro σ H1 ⟨x4,t,rfl,rfl,rfl⟩;rw[zF0,wO0,jD1];erw[0,q]
instance spWAt(C:Addr):∀(g a b d r:Addr)(ns:List Str)(tv:List V)(ts:List Tr)(pt:List Int)(s p:Int),vs=[.ref g,.ref r,.int s]->GameAt C H g a b d p->1<p->p<2 ^ 40->H a=some (.tup (ns.map V.str))->H b=some (.tup tv)->TreesAt H tv ts->ts.length<=10->(∀t∈ts,t.ok ns/\t.depth<=10)->H r=some (.tup (pt.map V.int))->pt.length=ns.length->bJ pt p->(∀H',Same H H'->Q (.int (hor s p (ts.map λt=>t.worth ns pt p))) H'):=1
def Au:FnScope WO WO (ao qI):=%[|5]
def AY(F:#["worth_at","Game.worth_at",qI])(T:GTxt K mg C)(mM:Meth K C "mix" fm)(GM:#[1,fm,fdm,WT,spMix C])(bM:Binds K fdm WT [])(fh:#[12,"worth_of",WS,spWorth 10]):#[13,f,fd,WO,spWAt C]:=by
 exists Au
 erw[g,a,b,d,r,ns,tv,ts,pt,s,p,1,%[dx|hg],p1,p40,ha,hb,TS,t10,tok,hr0,pl,po,q]at h;let hr1:Room 1 _:=hr.mono ⋯;refine⟨_,(ae (ay (bQ (pv 0) T.cl mM GM hr1 bM .nil bn (ag (cw (N:=["self","point"]) (ix:=[0,1]) rfl
  #[4] rfl
  (eF (aF (pv 0) rfl)) (λ_ _ _=>cF (am fh hr ⋯ rfl %[0,lp K (pv 1),2,lp K (pv 1)|aQ]))) %[2|aQ])))),?_⟩
 let vl:=TS.length;erw[0,g,dx,0,hg,tJ _ _ _ _ ⋯ ⋯ ⋯ ⋯,6];erw[0,g,C,dx,_,0,hg,9,T.nT,lK ..,b,1,%[_|zA0 hb],λD hD=>?_];apply dJ (K:=K) (xs:=tv) (λi H'=>H' D=some (.lst (((ts.take i).map λt=>t.worth ns pt p).map V.int))/\Same H H') %[by rw[aP];rfl|zC0 hD _] (λi H' _ h=>zA0 (h.2 _ _ hb)) ?_ ?_
 . rintro i z H2 hz ⟨hl,S2⟩;let%[t,ht|Tt]:=TS.get hz;let%[tk|td]:=tok t (qD0 ht);let hi:i<tv.length:=(zY0 hz).1;erw[0,0,g,C,dx,_,0,S2 _ _ hg,9,T.nS,ny ..,0,0,g,C,dx,_,0,S2 _ _ hg,9,T.nF,iI ..,z,t,a,r,ns,pt,p,1,Tt.mono (bh S2),tk,td,.inr (S2 _ _ ha),S2 _ _ hr0,pl,p1,p40,po,6];erw[_,hl,6,Nx.of hi %[6|λb' o' e'=>?_]]
   . rw[zF0,zF0,qF0];exact aO #[0]
   . rw[aP,qB0,ht,zK0,zK0];rfl
   . rw[aE (aZ e' hD)];exact S2 _ _ e'
 . rintro H2 ⟨hl,S2⟩;rw[vl,zZ0]at hl;erw[0,g,a,b,d,D,_,s,p,1,%[dx|S2 _ _ hg],3,p40,.inl hl,q H2 S2]
instance spCoins(C:Addr):∀(g a b d:Addr)(ns:List Str)(tv:List V)(p:Int),vs=[.ref g]->GameAt C H g a b d p->H a=some (.tup (ns.map V.str))->H b=some (.tup tv)->Q (.int (if tv.length=1 then(ns.length:Int)else(ns.length:Int)+1)) H:=1
def Av:FnScope WA WA (ao qJ):=%[|5]
def AZ(F:#["coins","Game.coins",qJ])(T:GTxt K mg C)(hlen:mg "len"=none):#[1,f,fd,WA,spCoins C]:=by
 exists Av
 erw[g,a,b,d,ns,tv,p,1,%[dx|hg],ha,hb,q]at h;refine⟨_,(aa (aJ (ai aR (aI aG rfl hlen zB1 %[aF (pv 0) rfl|aQ]) af (ax _)) (ae (ay (aI aG rfl hlen zB1 %[aF (pv 0) rfl|aQ]))) aB)
  (ae (ay (au aS (aI aG rfl hlen zB1 %[aF (pv 0) rfl|aQ]) af)))),?_⟩
 erw[0,g,C,dx,_,0,hg,9,T.nT,lK ..,b,0,.inr (zA0 hb),1,0,6]
 by_cases c:V.int (tv.length:Int)=V.int 1
 . apply aX c ?_;let c':tv.length=1:=by have:=V.int.inj c;omega
   rw[M8 c']at q;erw[0,g,C,dx,_,0,hg,9,T.nS,ny ..,a,0,.inr (zA0 ha),6];rw[zF0];exact q
 . apply aD c ?_;let c':¬ tv.length=1:=λz=>c (by rw[z];rfl)
   rw[M6 c']at q;erw[0,g,C,dx,_,0,hg,9,T.nS,ny ..,a,0,.inr (zA0 ha),6];rw[zF0];erw[2,q]
instance spSize(n:Nat):∀(v:V)(t:Tr),vs=[v]->TreeAt H v t->t.wf->t.depth<=n->t.size<=400->(∀H',Same H H'->Q (.int t.size) H'):=1
def xM(ts:List Tr):(ts.map λu=>(u.size:Int)).sum=(iT ts:Int):=by
 induction ts with
 |nil=>rfl
 |cons a r ih=>
   simp only[iT,qC0,zP1]at ih ⊢;rw[ih];omega
def xO:FnScope WB WB (ao lh):=%[|5]
def Ap{n:Nat}(F:#["size_of",lh])(B:Bl mg)(a8:#[1,"trees_within",WB,spWithin])(ig:#[n+2,"size_of",WB,spSize n]):#[n+3,f,fd,WB,spSize (n+1)]:=by
 exists xO
 erw[v,t,1,T,wf,dn,sz,q]at h;refine⟨_,(ae (ay (au aS af (aI (nV rfl) rfl B.sum jH0 (ag (cw (N:=[]) (ix:=[]) (cl:=[]) rfl #[5] rfl
  (eF (am a8 hr #[0] rfl %[0|aQ])) (λ_ _ _=>cF (am ig hr (zH0 _) rfl %[0|aQ]))) aQ))))),?_⟩
 erw[0,v,t,1,T,wf,λp xs H1 S1 hp TS=>?_];erw[p,1,%[_|zA0 hp],λD hD=>?_];let pD:p≠D:=aZ hp hD;let xl:=TS.length;let sp:=t.size_parts;apply dJ (K:=K) (xs:=xs) (λi H'=>H' D=some (.lst (((t.parts.take i).map λu=>(u.size:Int)).map V.int))/\Same H1 H') %[by rw[aP];rfl|zC0 hD _] (λi H' _ h=>zA0 (h.2 _ _ hp)) ?_ ?_
 . rintro i x H2 hx ⟨hl,S2⟩;let%[u,hu|Tu]:=TS.get hx;let um:=qD0 hu;let%[uw,ud|us]:=Tr.parts_mem um wf;let hi:i<xs.length:=(zY0 hx).1;erw[0,x,u,1,Tu.mono (bh S2),uw,3,3,λH3 S3=>?_];erw[_,S3 _ _ hl,6,Nx.of hi %[6|λb o e=>?_]]
   . have:t.parts.length<=2:=by cases t <;> simp [Tr.parts]
     rw[zF0,zF0,qF0];exact aO #[0]
   . rw[aP,qB0,hu,zK0,zK0];rfl
   . rw[aE (aZ e hD)];exact S3 _ _ (S2 _ _ e)
 . rintro H2 ⟨hl,S2⟩;rw[xl,zZ0]at hl;let sc:=xM t.parts;erw[D,0,zG0 hl,6,6,6]
   . intro n hn;let%[u,_|1]:=List.mem_map.mp hn;omega
   . rw[sc];omega
   . rw [sc];erw[2,6];let e:(1:Int)+(iT t.parts:Int)=(t.size:Int):=#[0]
     show Q (.int (1+(iT t.parts:Int))) H2;rw[e];exact q H2 (S1.trans S2)
def Ao:#[2,f,fd,WB,spSize 0]:=by
 let no:∀vs H Q E,¬ spSize 0 vs H Q E:=λvs H Q E h=>by
  erw[v,t,_,_,_,h1,_]at h
  have:=t.depth_pos
  omega
 exists 3
def rm(F:#["size_of",lh])(B:Bl mg)(m:mg "size_of"=some (.ref f))(a8:#[1,"trees_within",WB,spWithin]):
 ∀n:Nat,#[n+2,f,fd,WB,spSize n]
 |0=>Ao
 |n+1=>Ap F B a8 (Cal.of F (rm F B m a8 n) m (λ_ _ _ _ _ _ us hl=>by let%[u0|1]:=GE hl;rfl))
abbrev uF:Stmt:=bu dB 0
abbrev qK:Stmt:=bu dB 1
abbrev ya:Stmt:=bu dB 2
abbrev oA:Stmt:=bu dB 3
abbrev uG:Stmt:=bu dB 4
abbrev uE:Stmt:=bu dB 5
abbrev oC:Stmt:=bu dB 6
abbrev qM:Stmt:=bu dB 7
abbrev xZ:Stmt:=bu dB 8
abbrev De:Stmt:=bu dB 9
abbrev qL:Stmt:=bu dB 10
def dl(g aA aC:Addr)(s:Int)(aH aT:Addr)(ed pl:Int):List (Str×V):=[("game",.ref g),("awaited",.ref aA),("claims",.ref aC),("s",.int s),("heard",.ref aH),("tossed",.ref aT),("held",.int ed),("places",.int pl)]
section
variable {g aA aC aH aT:Addr}{s ed pl:Int}
def kR:(dl g aA aC s aH aT ed pl).lookup ("game":Str)=some (.ref g):=by rfl'
def GQ:(dl g aA aC s aH aT ed pl).lookup ("awaited":Str)=some (.ref aA):=by rfl'
def dl_c:(dl g aA aC s aH aT ed pl).lookup ("claims":Str)=some (.ref aC):=by rfl'
def dl_s:(dl g aA aC s aH aT ed pl).lookup ("s":Str)=some (.int s):=by rfl'
def dl_h:(dl g aA aC s aH aT ed pl).lookup ("heard":Str)=some (.ref aH):=by rfl'
def BM:(dl g aA aC s aH aT ed pl).lookup ("tossed":Str)=some (.ref aT):=by rfl'
def EL:(dl g aA aC s aH aT ed pl).lookup ("held":Str)=some (.int ed):=by rfl'
def zO:(dl g aA aC s aH aT ed pl).lookup ("places":Str)=some (.int pl):=by rfl'
def tM:(dl g aA aC s aH aT ed pl).lookup ("waits":Str)=none:=by rfl'
def dl_n2:(dl g aA aC s aH aT ed pl).lookup ("due":Str)=none:=by rfl'
def dl_n3:(dl g aA aC s aH aT ed pl).lookup ("looked":Str)=none:=by rfl'
def wV:(dl g aA aC s aH aT ed pl).lookup ("hear":Str)=none:=by rfl'
def EK:(dl g aA aC s aH aT ed pl).lookup ("toss":Str)=none:=by rfl'
def dl_n6:(dl g aA aC s aH aT ed pl).lookup ("hear_claims":Str)=none:=by rfl'
def Ho:(dl g aA aC s aH aT ed pl).lookup ("begin_rounds":Str)=none:=by rfl'
def dl_n8:(dl g aA aC s aH aT ed pl).lookup ("hear_row":Str)=none:=by rfl'
def EJ:(dl g aA aC s aH aT ed pl).lookup ("go_on":Str)=none:=by rfl'
def IT:(dl g aA aC s aH aT ed pl).lookup ("look_at_trees":Str)=none:=by rfl'
def sY{v:Addr}:bV "awaited" (.ref v) (dl g aA aC s aH aT ed pl)=dl g v aC s aH aT ed pl:=by rfl'
def put_c{v:Addr}:bV "claims" (.ref v) (dl g aA aC s aH aT ed pl)=dl g aA v s aH aT ed pl:=by rfl'
def put_s{v:Int}:bV "s" (.int v) (dl g aA aC s aH aT ed pl)=dl g aA aC v aH aT ed pl:=by rfl'
def put_h{v:Addr}:bV "heard" (.ref v) (dl g aA aC s aH aT ed pl)=dl g aA aC s v aT ed pl:=by rfl'
def Hj{v:Addr}:bV "tossed" (.ref v) (dl g aA aC s aH aT ed pl)=dl g aA aC s aH v ed pl:=by rfl'
def Do{v:Int}:bV "held" (.int v) (dl g aA aC s aH aT ed pl)=dl g aA aC s aH aT v pl:=by rfl'
def yb{v:Int}:bV "places" (.int v) (dl g aA aC s aH aT ed pl)=dl g aA aC s aH aT ed v:=by rfl'
def eO:(dl g aA aC s aH aT ed pl).length<1000:=by show 8<1000;decide
end
structure DTxt(K:W.Frag)(mg:#[9])(C:Addr):Prop where
 cl:Cls K C
 nG:NoAttr K C "game"
 nA:NoAttr K C "awaited"
 nC:NoAttr K C "claims"
 nS:NoAttr K C "s"
 nH:NoAttr K C "heard"
 nT:NoAttr K C "tossed"
 nE:NoAttr K C "held"
 nP:NoAttr K C "places"
 mgC:mg "Doubter"=some (.ref C)
structure Db where
 aw:Str×Option Int
 cl:List Int
 s:Int
 he:List Int
 to:List Int
 ed:Int
 pl:Int
def awV(a:Str×Option Int):List V:=match a.2 with
 |none=>[.str a.1]
 |some n=>[.str a.1,.int n]
structure DbR(C:Addr)(H:Hp)(D g:Addr)(z:Db)(dx aA aC aH aT:Addr):Prop where
 hD:H D=some (.ins C dx (dl g aA aC z.s aH aT z.ed z.pl))
 hA:H aA=some (.tup (awV z.aw))
 hC:H aC=some (.tup (z.cl.map V.int))
 hH:H aH=some (.tup (z.he.map V.int))
 hT:H aT=some (.tup (z.to.map V.int))
def DbR.same(h:DbR C H D g z dx aA aC aH aT)(s:Same H H'):DbR C H' D g z dx aA aC aH aT:=%[s _ _ h.hD,s _ _ h.hA,s _ _ h.hC,s _ _ h.hH|s _ _ h.hT]
def DbR.set{C:Addr}{H:Hp}{D g:Addr}{z:Db}{dx aA aC aH aT C' dx':Addr}{fs:List (Str×V)}(hD:H D=some (.ins C' dx' fs))(hA:H aA=some (.tup (awV z.aw)))(hC:H aC=some (.tup (z.cl.map V.int)))(hH:H aH=some (.tup (z.he.map V.int)))(hT:H aT=some (.tup (z.to.map V.int))):
 DbR C (upd H D (.ins C dx (dl g aA aC z.s aH aT z.ed z.pl))) D g z dx aA aC aH aT:=by
 erw[aP,6,6,6,6]
 . rw[aE (bz hA hD nofun)];exact hA
 . rw[aE (bz hC hD nofun)];exact hC
 . rw[aE (bz hH hD nofun)];exact hH
 . rw[aE (bz hT hD nofun)];exact hT
def DbAt(C:Addr)(H:Hp)(D g:Addr)(z:Db):Prop:=∃dx aA aC aH aT,DbR C H D g z dx aA aC aH aT
def DbAt.same(h:DbAt C H D g z)(s:Same H H'):DbAt C H' D g z:=by
 erw[_,_,_,_,_,r]at h;erw[_,_,_,_,_,r.same s]
def Gm(CG:Addr)(H:Hp)(g:Addr)(ns:List Str)(ts:List Tr)(p:Int):Prop:=∃(a b d:Addr)(tv:List V),GameAt CG H g a b d p/\H a=some (.tup (ns.map V.str))/\H b=some (.tup tv)/\TreesAt H tv ts/\H d=some (.lst ((ns.map (aV ts)).map V.int))
def Gm.same(h:Gm CG H g ns ts p)(s:Same H H'):Gm CG H' g ns ts p:=by
 erw[a,b,d,tv,h1,h2,h3,h4,h5]at h;erw[a,b,d,tv,h1.same s,s _ _ h2,s _ _ h3,h4.mono (bh s),s _ _ h5]
def GN(a b:Addr)(p:Int)(d:Addr):(gf a b p d).lookup ("game":Str)=none:=tJ _ _ _ _ ⋯ ⋯ ⋯ ⋯
def Gm.ne{C:Addr}{D:Addr}{dx:Addr}{fs:List (Str×V)}{v:V}(h:Gm CG H g ns ts p)(hD:H D=some (.ins C dx fs))(hg:fs.lookup ("game":Str)=some v):g≠D:=λz=>by
 erw[a,b,d,tv,%[dx'|e],_]at h;rw[z,hD]at e;cases e;rw[GN]at hg;cases hg
def Gm.but{C:Addr}{D:Addr}{dx:Addr}{fs:List (Str×V)}(h:Gm CG H g ns ts p)(hD:H D=some (.ins C dx fs))(hg:g≠D)(s:SameBut D H H'):Gm CG H' g ns ts p:=by
 erw[a,b,d,tv,%[dx'|e],h2,h3,h4,h5]at h;erw[a,b,d,tv,%[dx'|s _ _ hg e],s _ _ (bz h2 hD nofun) h2,s _ _ (bz h3 hD nofun) h3,h4.mono (λc xs hc=>s _ _ (bz hc hD nofun) hc),s _ _ (bz h5 hD nofun) h5]
structure GmK(ns:List Str)(ts:List Tr)(p:Int):Prop where
 pr:Pr p
 p2:2<p
 p9:p<=999983
 n10:ns.length<=10
 t1:1<=ts.length
 t10:ts.length<=10
 tok:∀t∈ts,t.ok ns/\t.wf/\t.depth<=10/\t.size<=400
 tp:(ts.length:Int)<=p
 tc:∀t∈ts,∀x∈ns,(t.names.count x:Int)<p
def GmK.deg(k:GmK ns ts p):∀x∈ns,0<=aV ts x/\aV ts x<p:=λx hx=>by
 let t0:ts≠[]:=λz=>by have:=k.t1;rw[z]at this;cases this
 erw[6,rZ t0 λt ht=>k.tc t ht x hx]
 have:=jb (ns:=ts.map λt=>(t.names.count x:Int)) #[t0,0]
 let%[t,_|e]:=List.mem_map.mp this;unfold aV;rw[←e];omega
def szs(ts:List Tr):Int:=(ts.map λt=>(t.size:Int)).sum
def fk(ns:List Str)(ts:List Tr)(p:Int)(z:Db):Db:=
 { z with pl:=z.pl+szs ts,aw:=if z.ed=hor z.s p (ts.map λt=>t.worth ns z.to p)then("believed",none)else("caught",some ((z.to.length:Int)+1)) }
def goOn(ns:List Str)(ts:List Tr)(p:Int)(z:Db):Db:=
 if z.to.length<ns.length then { z with aw:=("hear",some (aV ts (ns.getD z.to.length "")+1)) }else fk ns ts p z
def vB(ns:List Str)(ts:List Tr)(p s:Int)(z:Db):Db:=goOn ns ts p { z with s:=s,ed:=hor s p z.cl }
def je(ns:List Str)(ts:List Tr)(p:Int)(xs:List Int)(z:Db):Db:=
 if ts.length=1 then vB ns ts p 0 { z with cl:=xs }else { z with cl:=xs,aw:=("coin",none) }
def eW(p:Int)(xs:List Int)(z:Db):Db:=
 { z with he:=xs,aw:=if(val p xs 0+val p xs 1) % p=z.ed then("coin",none)else("caught",some ((z.to.length:Int)+1)) }
def cG(ns:List Str)(ts:List Tr)(p:Int)(xs:List Int)(z:Db):Db:=
 if z.cl=[]then je ns ts p xs { z with pl:=z.pl+(xs.length:Int) }else eW p xs { z with pl:=z.pl+(xs.length:Int) }
def cZ(ns:List Str)(ts:List Tr)(p r:Int)(z:Db):Db:=
 if z.he=[]then vB ns ts p r { z with pl:=z.pl+1 }else goOn ns ts p { z with pl:=z.pl+1,ed:=val p z.he r,to:=z.to++[r] }
def Db.new(ts:List Tr):Db:=%[("hear",some (ts.length:Int)),[],(0),[],[],(0)|(0)]
instance spIsNum:∀n p:Int,vs=[.int n,.int p]->Q (.bl (decide (0<=n)&&decide (n<p))) H:=1
def ul:FnScope Wa Wa (ao kE):=%[|5]
def uY(F:#["is_number",kE])(B:Bl mg):#[1,f,fd,Wa,spIsNum]:=by
 exists ul
 erw[n,p,1,q]at h;erw[_,(ae (ay (uP (aI iK rfl B.isinstance qP1 %[0,pR (v:=V.ty "int") rfl B.int gG rfl|aQ]) (uP (Dv (aI iK rfl B.isinstance qP1 %[0,pR (v:=V.ty "bool") rfl B.bool sv rfl|aQ])) (uO (DB tf dG af (pv 0) (pv 1))))))),6];erw[0,_,_,"int",true,1,TyOf.int _,wJ _ _,true,1,dU ?_];erw[0,_,_,"bool",false,1,TyOf.int _,nu _,false,1,true,1,dU ?_];erw[0,2,0,6]
 by_cases c:0<=n
 . rw[zC1 c]at q;apply aX c %[0,2|6];exact q
 . rw[zD1 c]at q;apply aD c ?_;exact q
instance spAllSz(C:Addr):∀(g:Addr)(ns:List Str)(ts:List Tr)(p:Int),vs=[.ref g]->Gm C H g ns ts p->GmK ns ts p->(∀H',Same H H'->Q (.int (szs ts)) H'):=1
def ut:FnScope WF WF (ao kJ):=%[|5]
def zh{ts:List Tr}(h:∀t∈ts,t.size<=400)(hl:ts.length<=10):0<=szs ts/\szs ts<=4000:=by
 have:∀l:List Tr,(∀t∈l,t.size<=400)->0<=szs l/\szs l<=400*(l.length:Int):=λl=>by
  induction l with
  |nil=>intro _;erw[zT1 _,zT1 _]
  |cons t r ih=>
    intro hh;let h1:=ih λu hu=>hh u (qK0 _ hu)
    let h2:=hh t (zX0 ..);let e:szs (t::r)=(t.size:Int)+szs r:=by unfold szs;rw[qC0,zP1]
    rw[e,zR0];omega
 have:=this ts h
 omega
def vc(F:#["all_sizes",kJ])(B:Bl mg)(T:GTxt K mg C)(ig:#[12,"size_of",WB,spSize 10]):#[13,f,fd,WF,spAllSz C]:=by
 exists ut
 erw[g,ns,ts,p,1,%[a,b,d,tv,%[dx|hg],ha,hb,TS|hd],k,q]at h;refine⟨_,(ae (ay (aI (nV rfl) rfl B.sum jH0 (ag (cw (N:=[]) (ix:=[]) (cl:=[]) rfl #[5] rfl
  (eF (aF (pv 0) rfl)) (λ_ _ _=>cF (am ig hr ⋯ rfl %[0|aQ]))) aQ)))),?_⟩
 let vl:=TS.length;erw[0,g,C,dx,_,0,hg,9,T.nT,lK ..,b,1,%[_|zA0 hb],λD hD=>?_];apply dJ (K:=K) (xs:=tv) (λi H'=>H' D=some (.lst (((ts.take i).map λt=>(t.size:Int)).map V.int))/\Same H H') %[by rw[aP];rfl|zC0 hD _] (λi H' _ h=>zA0 (h.2 _ _ hb)) ?_ ?_
 . rintro i x H2 hx ⟨hl,S2⟩;let%[u,hu|Tu]:=TS.get hx;let%[_,uw,ud|us]:=k.tok u (qD0 hu);let hi:i<tv.length:=(zY0 hx).1
   have:=k.t10
   erw[0,x,u,1,Tu.mono (bh S2),uw,ud,us,λH3 S3=>?_];erw[_,S3 _ _ hl,6,Nx.of hi %[6|λb o e=>?_]]
   . rw[zF0,zF0,qF0];exact aO #[0]
   . rw[aP,qB0,hu,zK0,zK0];rfl
   . rw[aE (aZ e hD)];exact S3 _ _ (S2 _ _ e)
 . rintro H2 ⟨hl,S2⟩;rw[vl,zZ0]at hl;let sr:=zh (λt ht=>(k.tok t ht).2.2.2) k.t10;erw[D,0,zG0 hl,6,6,6]
   . intro n hn;let%[u,hu|1]:=List.mem_map.mp hn
     have:=(k.tok u hu).2.2.2
     omega
   . let e:((ts.map λt=>(t.size:Int)).sum)=szs ts:=rfl;rw[e];omega
   . exact q H2 S2
section
variable {C CG:Addr}
instance spTrees(C CG:Addr):∀(D g:Addr)(z:Db)(ns:List Str)(ts:List Tr)(p:Int),vs=[.ref D]->DbAt C H D g z->Gm CG H g ns ts p->GmK ns ts p->z.to.length=ns.length->bJ z.to p->(∀H',SameBut D H H'->DbAt C H' D g (fk ns ts p z)->Q .non H'):=1
def Ax:FnScope WA WA (ao qL):=%[|5]
def Bb(F:#["look_at_trees","Doubter.look_at_trees",qL])(B:Bl mg)(T:DTxt K mg C)(TG:GTxt K mg CG)(mW:Meth K CG "worth_at" fW)(GW:#[13,fW,fdW,WO,spWAt CG])(bW:Binds K fdW WO [])
 (e6:#[13,"all_sizes",WF,spAllSz CG]):#[14,f,fd,WA,spTrees C CG]:=by
 exists Ax
 erw[D,g,z,ns,ts,p,1,%[dx,aA,aC,aH,aT|R],G,k,tl,po,q]at h;let hr13:Room 13 _:=hr;refine⟨_,(aa (ba (pv 0) (au aS (aF (pv 0) rfl) (am e6 hr ⋯ rfl %[aF (pv 0) rfl|aQ])) rfl)
  (ae (aJ (ai aR (aF (pv 0) rfl) (bQ (aF (pv 0) rfl) TG.cl mW GW hr13 bW .nil bn %[aF (pv 0) rfl,aF (pv 0) rfl|aQ]) (ax _))
   (ae (ba (pv 0) (aM %[aq|aQ]) rfl))
   (ae (ba (pv 0) (aM %[aq,au aS (aI aG rfl B.len zB1 %[aF (pv 0) rfl|aQ]) af|aQ]) rfl))))),?_⟩
 let gD:=G.ne R.hD kR;erw[0,D,C,dx,_,0,R.hD,9,T.nP,zO,0,D,C,dx,_,0,R.hD,9,T.nG,kR,g,ns,ts,p,1,G,k,λH1 S1=>?_];let R1:=R.same S1;erw[2,0,D,C,dx,0,R1.hD,9,T.nP,eO,6];rw[yb];let S2:SameBut D H1 (upd H1 D (.ins C dx (dl g aA aC z.s aH aT z.ed (z.pl+szs ts)))):=SameBut.upd _;let R2:DbR C (upd H1 D (.ins C dx (dl g aA aC z.s aH aT z.ed (z.pl+szs ts)))) D g { z with pl:=z.pl+szs ts } dx aA aC aH aT:=DbR.set (z:={ z with pl:=z.pl+szs ts }) R1.hD R1.hA R1.hC R1.hH R1.hT;let G2:=(G.same S1).but R1.hD gD S2;generalize upd H1 D (.ins C dx (dl g aA aC z.s aH aT z.ed (z.pl+szs ts)))=H2 at S2 R2 G2;let G2':=G2;erw[a,b,d,tv,GA,ha,hb,TS,hd]at G2';erw[dg,hg]at GA;let p2:=k.p2;let p9:=k.p9;erw[0,D,C,dx,_,0,R2.hD,T.cl,T.nE,EL,0,D,C,dx,_,0,R2.hD,T.cl,T.nG,kR,g,dg,0,hg,tJ _ _ _ _ ⋯ ⋯ ⋯ ⋯,0,D,C,dx,_,0,R2.hD,9,T.nT,BM,0,D,C,dx,_,0,R2.hD,9,T.nS,dl_s,6];erw[g,a,b,d,aT,ns,tv,ts,z.to,z.s,p,1,%[dg|hg],3,3,ha,hb,TS,k.t10,λt ht=>%[(k.tok t ht).1|(k.tok t ht).2.2.1],R2.hT,tl,po,λH3 S3=>?_];let R3:=R2.same S3;let S03:SameBut D H H3:=(zJ0 S1).trans (S2.trans (zJ0 S3));erw[1,0,6]
 by_cases c:z.ed=hor z.s p (ts.map λt=>t.worth ns z.to p)
 . apply aX (congrArg V.int c) ?_;erw[y1S,λt ht=>?_];let I:=zC0 ht (.tup [.str "believed"]);let R4:=R3.same I;erw[0,D,C,dx,0,R4.hD,9,T.nA,eO,6];rw[sY];let e:fk ns ts p z={ z with pl:=z.pl+szs ts,aw:=("believed",none) }:=by
    unfold fk;rw[M8 c]
   apply q _ (S03.trans ((zJ0 I).trans (SameBut.upd _))) ?_;rw[e];erw[dx,t,aC,aH,aT,DbR.set (z:={ z with pl:=z.pl+szs ts,aw:=("believed",none) }) R4.hD aP R4.hC R4.hH R4.hT]
 . apply aD (λe=>c (V.int.inj e)) ?_;erw[0,D,C,dx,_,0,R3.hD,9,T.nT,BM,aT,0,.inr (zA0 R3.hT),2,y2S,λt ht=>?_];let I:=zC0 ht (.tup [.str "caught",.int (((z.to.map V.int).length:Int)+1)]);let R4:=R3.same I;erw[0,D,C,dx,0,R4.hD,9,T.nA,eO,6];rw[sY];let e:fk ns ts p z={ z with pl:=z.pl+szs ts,aw:=("caught",some ((z.to.length:Int)+1)) }:=by
    unfold fk;rw[M6 c]
   apply q _ (S03.trans ((zJ0 I).trans (SameBut.upd _))) ?_;rw[e];erw[dx,t,aC,aH,aT,DbR.set (z:={ z with pl:=z.pl+szs ts,aw:=("caught",some ((z.to.length:Int)+1)) }) R4.hD ?_ R4.hC R4.hH R4.hT];rw[aP,zF0];rfl
def ly{xs:List Int}{j:Nat}(h:j<xs.length):atI (xs.map V.int) (j:Int)=some (.int (xs.getD j 0)):=bv (by rw[zW0,zN0 h,qO0,zN0 h];rfl)
def zP{ns:List Str}{j:Nat}(h:j<ns.length):(ns.map (aV ts)).getD j 0=aV ts (ns.getD j ""):=by
 rw[qO0,zW0,qO0,zN0 h];rfl
instance spGo(C CG:Addr):∀(D g:Addr)(z:Db)(ns:List Str)(ts:List Tr)(p:Int),vs=[.ref D]->DbAt C H D g z->Gm CG H g ns ts p->GmK ns ts p->z.to.length<=ns.length->bJ z.to p->(∀H',SameBut D H H'->DbAt C H' D g (goOn ns ts p z)->Q .non H'):=1
def Kv:FnScope ["self","done"] WA (ao De):=%[|5]
def Ik(F:#["go_on","Doubter.go_on",De])(B:Bl mg)(T:DTxt K mg C)(TG:GTxt K mg CG)(mT:Meth K C "look_at_trees" fT)(GT:#[14,fT,fdT,WA,spTrees C CG])(bT:Binds K fdT WA []):#[15,f,fd,WA,spGo C CG]:=by
 exists Kv
 erw[D,g,z,ns,ts,p,1,%[dx,aA,aC,aH,aT|R],G,k,tl,po,q]at h;refine⟨_,(aa #[aj,1,Kv,aI aG rfl B.len zB1 %[aF (pv 0) rfl|aQ]]
  (ae (aJ (ai dG (pv 1) (aI aG rfl B.len zB1 %[aF (aF (pv 0) rfl) rfl|aQ]) (ax _))
   (ae (ba (pv 0) (aM %[aq,au aS (aN ix_list (aF (aF (pv 0) rfl) rfl) (pv 1) #[1]) af|aQ]) rfl))
   (ae (aW (cx (pv 0) T.cl mT GT hr bT .nil bn)))))),?_⟩
 let G':=G;erw[a,b,d,tv,%[dg|hg],ha,hb,TS,hd]at G';erw[0,D,C,dx,_,0,R.hD,9,T.nT,BM,aT,0,.inr (zA0 R.hT),6];erw[0,0,D,C,dx,_,0,R.hD,9,T.nG,kR,g,CG,dg,_,0,hg,TG.cl,TG.nS,ny ..,a,0,.inr (zA0 ha),2,0,6]
 by_cases c:z.to.length<ns.length
 . apply aX (by rw[zF0,zF0];omega) ?_;let ej:((z.to.map V.int).length:Int)=(z.to.length:Int):=by rw[zF0]
   let hx:ns.getD z.to.length ""∈ns:=by
    rw[qO0,zN0 c];exact qP0 c
   let dr:=k.deg _ hx;erw[0,D,C,dx,_,0,R.hD,9,T.nG,kR,g,CG,dg,_,0,hg,TG.cl,TG.nD,zI ..,0,d,_,2,zG0 hd,by rw[ej];exact ly (by rw[zF0];exact c),2,y2S,λt ht=>?_];rw[zP c]at *
   let I:=zC0 ht (.tup [.str "hear",.int (aV ts (ns.getD z.to.length "")+1)]);let R4:=R.same I;erw[0,D,C,dx,0,R4.hD,9,T.nA,eO,6];rw[sY];let e:goOn ns ts p z={ z with aw:=("hear",some (aV ts (ns.getD z.to.length "")+1)) }:=by
    unfold goOn;rw[M8 c]
   apply q _ ((zJ0 I).trans (SameBut.upd _)) ?_;rw[e];erw[dx,t,aC,aH,aT,DbR.set (z:={ z with aw:=("hear",some (aV ts (ns.getD z.to.length "")+1)) }) R4.hD aP R4.hC R4.hH R4.hT]
 . apply aD (by rw[zF0,zF0];omega) ?_;let e:goOn ns ts p z=fk ns ts p z:=by
    unfold goOn;rw[M6 c]
   rw[e]at q;erw[0,D,dx,0,R.hD,IT,6];erw[D,g,z,ns,ts,p,1,%[dx,aA,aC,aH,aT|R],G,k,3,po,q]
instance spBeg(C CG:Addr):∀(D g:Addr)(z:Db)(s:Int)(ns:List Str)(ts:List Tr)(p:Int),vs=[.ref D,.int s]->DbAt C H D g z->Gm CG H g ns ts p->GmK ns ts p->z.to.length<=ns.length->bJ z.to p->(∀H',SameBut D H H'->DbAt C H' D g (vB ns ts p s z)->Q .non H'):=1
def Ay:FnScope WP WP (ao qM):=%[|5]
def Bc(F:#["begin_rounds","Doubter.begin_rounds",qM])(T:DTxt K mg C)(TG:GTxt K mg CG)(mM:Meth K CG "mix" fM)(GM:#[1,fM,fdM,WT,spMix CG])(bM:Binds K fdM WT [])
 (mG:Meth K C "go_on" fG)(GG:#[15,fG,fdG,WA,spGo C CG])(bG:Binds K fdG WA []):#[16,f,fd,WP,spBeg C CG]:=by
 exists Ay
 erw[D,g,z,s,ns,ts,p,1,%[dx,aA,aC,aH,aT|R],G,k,tl,po,q]at h;let hr1:Room 1 _:=hr.mono ⋯;refine⟨_,(aa (ba (pv 0) (pv 1) rfl)
  (aa (ba (pv 0) (bQ (aF (pv 0) rfl) TG.cl mM GM hr1 bM .nil bn %[aF (pv 0) rfl,1|aQ]) rfl)
  (ae (aW (cx (pv 0) T.cl mG GG hr bG .nil bn))))),?_⟩
 let gD:=G.ne R.hD kR;let p2:=k.p2;let p9:=k.p9;erw[0,0,D,C,dx,0,R.hD,9,T.nS,eO,6];rw[put_s];let S1:SameBut D H (upd H D (.ins C dx (dl g aA aC s aH aT z.ed z.pl))):=SameBut.upd _;let R1:DbR C (upd H D (.ins C dx (dl g aA aC s aH aT z.ed z.pl))) D g { z with s:=s } dx aA aC aH aT:=DbR.set (z:={ z with s:=s }) R.hD R.hA R.hC R.hH R.hT;let G1:=G.but R.hD gD S1;generalize upd H D (.ins C dx (dl g aA aC s aH aT z.ed z.pl))=H1 at S1 R1 G1;let G1':=G1;erw[a,b,d,tv,%[dg|hg],ha,hb,TS,hd]at G1';erw[0,D,C,dx,_,0,R1.hD,9,T.nG,kR,g,dg,0,hg,tJ _ _ _ _ ⋯ ⋯ ⋯ ⋯,0,D,C,dx,_,0,R1.hD,9,T.nC,dl_c,0,6];erw[g,a,b,d,aC,z.cl,s,p,1,%[dg|hg],3,3,.inr R1.hC,6];erw[0,D,C,dx,0,R1.hD,9,T.nE,eO,6];rw[Do];let S2:SameBut D H1 (upd H1 D (.ins C dx (dl g aA aC s aH aT (hor s p z.cl) z.pl))):=SameBut.upd _;let R2:DbR C (upd H1 D (.ins C dx (dl g aA aC s aH aT (hor s p z.cl) z.pl))) D g { z with s:=s,ed:=hor s p z.cl } dx aA aC aH aT:=DbR.set (z:={ z with s:=s,ed:=hor s p z.cl }) R1.hD R1.hA R1.hC R1.hH R1.hT;let G2:=G1.but R1.hD gD S2;generalize upd H1 D (.ins C dx (dl g aA aC s aH aT (hor s p z.cl) z.pl))=H2 at S2 R2 G2;erw[0,D,dx,0,R2.hD,EJ,6];erw[D,g,_,ns,ts,p,1,%[dx,aA,aC,aH,aT|R2],G2,k,tl,po,λH3 S3 D3=>q H3 (S1.trans (S2.trans S3)) D3]
instance spClaims(C CG:Addr):∀(D g l:Addr)(z:Db)(xs:List Int)(ns:List Str)(ts:List Tr)(p:Int),vs=[.ref D,.ref l]->DbAt C H D g z->Gm CG H g ns ts p->GmK ns ts p->H l=some (.tup (xs.map V.int))->z.to.length<=ns.length->bJ z.to p->(∀H',SameBut D H H'->DbAt C H' D g (je ns ts p xs z)->Q .non H'):=1
def xT:FnScope WC WC (ao oC):=%[|5]
def yt(F:#["hear_claims","Doubter.hear_claims",oC])(B:Bl mg)(T:DTxt K mg C)(TG:GTxt K mg CG)(mB:Meth K C "begin_rounds" fB)(GB:#[16,fB,fdB,WP,spBeg C CG])(bB:Binds K fdB WP []):#[17,f,fd,WC,spClaims C CG]:=by
 exists xT
 erw[D,g,l,z,xs,ns,ts,p,1,%[dx,aA,aC,aH,aT|R],G,k,hl,tl,po,q]at h;refine⟨_,(aa (ba (pv 0) (pv 1) rfl)
  (ae (aJ (ai aR (aI aG rfl B.len zB1 %[aF (aF (pv 0) rfl) rfl|aQ]) af (ax _))
   (ae (aW (bQ (pv 0) T.cl mB GB hr bB .nil bn %[af|aQ])))
   (ae (ba (pv 0) (aM %[aq|aQ]) rfl))))),?_⟩
 let gD:=G.ne R.hD kR;erw[0,0,D,C,dx,0,R.hD,9,T.nC,eO,6];rw[put_c];let S1:SameBut D H (upd H D (.ins C dx (dl g aA l z.s aH aT z.ed z.pl))):=SameBut.upd _;let R1:DbR C (upd H D (.ins C dx (dl g aA l z.s aH aT z.ed z.pl))) D g { z with cl:=xs } dx aA l aH aT:=DbR.set (z:={ z with cl:=xs }) R.hD R.hA hl R.hH R.hT;let G1:=G.but R.hD gD S1;generalize upd H D (.ins C dx (dl g aA l z.s aH aT z.ed z.pl))=H1 at S1 R1 G1;let G1':=G1;erw[a,b,d,tv,%[dg|hg],ha,hb,TS,hd]at G1';let vl:=TS.length;erw[0,D,C,dx,_,0,R1.hD,9,T.nG,kR,g,CG,dg,_,0,hg,TG.cl,TG.nT,lK ..,b,0,.inr (zA0 hb),1,0,6]
 by_cases c:ts.length=1
 . apply aX (congrArg V.int #[0]) ?_;let e:je ns ts p xs z=vB ns ts p 0 { z with cl:=xs }:=by
    unfold je;rw[M8 c]
   rw[e]at q;erw[0,D,dx,0,R1.hD,Ho,6];erw[D,g,_,(0),ns,ts,p,1,%[dx,aA,l,aH,aT|R1],G1,k,tl,po,λH3 S3 D3=>q H3 (S1.trans S3) D3]
 . apply aD (λe=>c (by have:=V.int.inj e;omega)) ?_;let e:je ns ts p xs z={ z with cl:=xs,aw:=("coin",none) }:=by
    unfold je;rw[M6 c]
   erw[y1S,λt ht=>?_];let I:=zC0 ht (.tup [.str "coin"]);let R4:=R1.same I;erw[0,D,C,dx,0,R4.hD,9,T.nA,eO,6];rw[sY];apply q _ (S1.trans ((zJ0 I).trans (SameBut.upd _))) ?_;rw[e];erw[dx,t,l,aH,aT,DbR.set (z:={ z with cl:=xs,aw:=("coin",none) }) R4.hD aP R4.hC R4.hH R4.hT]
instance spHRow(C CG:Addr):∀(D g l:Addr)(z:Db)(xs:List Int)(ns:List Str)(ts:List Tr)(p:Int),vs=[.ref D,.ref l]->DbAt C H D g z->Gm CG H g ns ts p->GmK ns ts p->H l=some (.tup (xs.map V.int))->lO xs p->(∀H',SameBut D H H'->DbAt C H' D g (eW p xs z)->Q .non H'):=1
def FE:FnScope WC WC (ao xZ):=%[|5]
def Gf(F:#["hear_row","Doubter.hear_row",xZ])(B:Bl mg)(T:DTxt K mg C)(TG:GTxt K mg CG)(kh:#[5,"both_ends",["values","p"],spEnds]):#[6,f,fd,WC,spHRow C CG]:=by
 exists FE
 erw[D,g,l,z,xs,ns,ts,p,1,%[dx,aA,aC,aH,aT|R],G,k,hl,ro,q]at h;refine⟨_,(aa (ba (pv 0) (pv 1) rfl)
  (ae (aJ (ai aR (am kh hr ⋯ rfl %[1,aF (aF (pv 0) rfl) rfl|aQ]) (aF (pv 0) rfl) (ax _))
   (ae (ba (pv 0) (aM %[aq|aQ]) rfl))
   (ae (ba (pv 0) (aM %[aq,au aS (aI aG rfl B.len zB1 %[aF (pv 0) rfl|aQ]) af|aQ]) rfl))))),?_⟩
 let gD:=G.ne R.hD kR;erw[0,0,D,C,dx,0,R.hD,9,T.nH,eO,6];rw[put_h];let S1:SameBut D H (upd H D (.ins C dx (dl g aA aC z.s l aT z.ed z.pl))):=SameBut.upd _;let R1:DbR C (upd H D (.ins C dx (dl g aA aC z.s l aT z.ed z.pl))) D g { z with he:=xs } dx aA aC l aT:=DbR.set (z:={ z with he:=xs }) R.hD R.hA R.hC hl R.hT;let G1:=G.but R.hD gD S1;generalize upd H D (.ins C dx (dl g aA aC z.s l aT z.ed z.pl))=H1 at S1 R1 G1;let G1':=G1;erw[a,b,d,tv,%[dg|hg],ha,hb,TS,hd]at G1';erw[0,0,D,C,dx,_,0,R1.hD,9,T.nG,kR,g,CG,dg,_,0,hg,TG.cl,TG.nF,iI ..,l,xs,p,1,.inr R1.hH,ro,k.pr,k.p9,λH2 S2=>?_];let R2:=R1.same S2;erw[0,D,C,dx,_,0,R2.hD,9,T.nE,EL,1,0,6];let S02:SameBut D H H2:=S1.trans (zJ0 S2)
 by_cases c:(val p xs 0+val p xs 1) % p=z.ed
 . apply aX (congrArg V.int c) ?_;let e:eW p xs z={ z with he:=xs,aw:=("coin",none) }:=by
    unfold eW;rw[M8 c]
   erw[y1S,λt ht=>?_];let I:=zC0 ht (.tup [.str "coin"]);let R4:=R2.same I;erw[0,D,C,dx,0,R4.hD,9,T.nA,eO,6];rw[sY];apply q _ (S02.trans ((zJ0 I).trans (SameBut.upd _))) ?_;rw[e];erw[dx,t,aC,l,aT,DbR.set (z:={ z with he:=xs,aw:=("coin",none) }) R4.hD aP R4.hC R4.hH R4.hT]
 . apply aD (λe=>c (V.int.inj e)) ?_;let e:eW p xs z={ z with he:=xs,aw:=("caught",some ((z.to.length:Int)+1)) }:=by
    unfold eW;rw[M6 c]
   erw[0,D,C,dx,_,0,R2.hD,9,T.nT,BM,aT,0,.inr (zA0 R2.hT),2,y2S,λt ht=>?_];let I:=zC0 ht (.tup [.str "caught",.int (((z.to.map V.int).length:Int)+1)]);let R4:=R2.same I;erw[0,D,C,dx,0,R4.hD,9,T.nA,eO,6];rw[sY];apply q _ (S02.trans ((zJ0 I).trans (SameBut.upd _))) ?_;rw[e];erw[dx,t,aC,l,aT,DbR.set (z:={ z with he:=xs,aw:=("caught",some ((z.to.length:Int)+1)) }) R4.hD ?_ R4.hC R4.hH R4.hT];rw[aP,zF0];rfl
end
section
variable {C CG:Addr}
def lj{K:W.Frag}{H:Hp}{a:Addr}{xs:List Int}(h:H a=some (.tup (xs.map V.int))):Rep K H (.ref a) (.tuple (xs.map PyData.int)):=.tup (zA0 h) (eP xs)
def zN(xs:List Int):PyData.eqv (.tuple (xs.map PyData.int)) (.tuple [])=decide (xs=[]):=by
 cases xs with
 |nil=>rfl
 |cons a r=>rfl
def ld(ns:List Int):SeqAt.shaped (.tuple (ns.map PyData.int))=true:=by
 simp [SeqAt.shaped,PyData.canLay0,PyData.depth,wJ1,wY0]
def IntsAt.sq{K:W.Frag}(h:IntsAt H l xs):SqL K H l (xs.map V.int)∨SqT K H l (xs.map V.int):=h.elim (λe=>.inl (zG0 e)) λe=>.inr (zA0 e)
def Ch{K:W.Frag}{Q:VK}(h:IntsAt H c cs)(q:∀ah H1,Same H H1->H1 ah=some (.tup (cs.map V.int))->Q (.ref ah) H1):rTupOf K [.ref c] H Q:=by
 rcases h with h | h
 . erw[c,0,.inl %[zG0 h|λl hl=>q l _ (zC0 hl _) aP]]
 . erw[c,0,.inr %[zA0 h|q c H (λ_ _ e=>e) h]]
instance spHear(C CG:Addr):∀(D g l:Addr) (z:Db) (xs:List Int) (ns:List Str) (ts:List Tr) (p:Int),vs=[.ref D,.ref l]->DbAt C H D g z->Gm CG H g ns ts p->GmK ns ts p->IntsAt H l xs->z.aw=(("hear":Str),some (xs.length:Int))->bJ xs p->xs.length<=500->(z.cl≠[]->lO xs p)->z.to.length<=ns.length->bJ z.to p->(∀H',SameBut D H H'->DbAt C H' D g (cG ns ts p xs z)->Q .non H'):=1
def CZ:FnScope WC WC (ao uG):=%[|5]
def DR(F:#["hear","Doubter.hear",uG])(B:Bl mg)(T:DTxt K mg C)(TG:GTxt K mg CG)(e8:#[1,"is_number",Wa,spIsNum])
 (mC:Meth K C "hear_claims" fC)(GC:#[17,fC,fdC,WC,spClaims C CG])(bC:Binds K fdC WC [])
 (mR:Meth K C "hear_row" fR)(GR:#[6,fR,fdR,WC,spHRow C CG])(bR:Binds K fdR WC []):#[18,f,fd,WC,spHear C CG]:=by
 exists CZ
 erw[D,g,l,z,xs,ns,ts,p,1,%[dx,aA,aC,aH,aT|R],G,k,hl,ea,xo,xl,ro,tl,po,q]at h;let hr6:Room 6 _:=hr.mono ⋯;refine⟨_,(aa (aJ (ai lH (aN ix_tup (aF (pv 0) rfl) af #[1]) aq (ax _)) bO aB)
  (aa (aJ (ai lH (aI aG rfl B.len zB1 %[1|aQ]) (aN ix_tup (aF (pv 0) rfl) af #[1]) (ax _)) bO aB)
  (aa (aJ (gy (eD (aI (nZ rfl) rfl B.all jH1 (ag (cw (N:=WA) (ix:=[0]) rfl
   #[3] rfl
   (Du (pv 1)) (λ_ _ _=>cF (am e8 hr ⋯ rfl %[0,lp K (lp K (pv 1))|aQ]))) aQ)))) bO aB)
  (aa (ba (pv 0) (au aS (aF (pv 0) rfl) (aI aG rfl B.len zB1 %[1|aQ])) rfl)
  (ae (aJ (ai (rh hr.units) (aF (pv 0) rfl) (aM aQ) (ax _))
   (ae (aW (bQ (pv 0) T.cl mC GC hr bC .nil bn %[bd bj rfl B.tuple bw %[1|aQ]|aQ])))
   (ae (aW (bQ (pv 0) T.cl mR GR hr6 bR .nil bn %[bd bj rfl B.tuple bw %[1|aQ]|aQ]))))))))),?_⟩
 let gD:=G.ne R.hD kR;let hA:=R.hA;rw[ea]at hA;let hA:H aA=some (.tup [.str "hear",.int (xs.length:Int)]):=hA;erw[0,D,C,dx,_,0,R.hD,9,T.nA,GQ,aA,_,2,zA0 hA,bv (j:=0) rfl,1,0,6];apply nv rfl ?_;erw[0,l,0,hl.sq,0,D,C,dx,_,0,R.hD,9,T.nA,GQ,aA,_,2,zA0 hA,bv (j:=1) rfl,1,0,6];apply nv (by rw[zF0]) ?_;let G':=G;erw[a,b,d,tv,%[dg|hg],ha,hb,TS,hd]at G';obtain⟨c0,hB⟩:∃c0:Bool,∀H',Same H H'->SqB K c0 H' l (xs.map V.int):=hl.elim (λe=>%[true|λH' S=>zG0 (S _ _ e)]) λe=>%[false|λH' S=>zA0 (S _ _ e)]
 erw[0,c0,l,1,%[_|hB H (Same.refl _)],λW hW=>?_];apply xc (K:=K) (c:=c0) (xs:=xs.map V.int) (λi H'=>H' W=some (.lst ((List.replicate i true).map V.bl))/\Same H H') %[by rw[aP];rfl|zC0 hW _] (λi H' _ h=>hB H' h.2) ?_ ?_
 . rintro i v H2 hv ⟨hW2,S2⟩;let hi:=(zY0 hv).1;rw[zW0]at hv;let%[n,hn|1]:=qQ0 hv;let nr:=xo n (qD0 hn);erw[0,0,D,C,dx,_,0,S2 _ _ R.hD,9,T.nG,kR,g,CG,dg,_,0,S2 _ _ hg,TG.cl,TG.nF,iI ..,n,p,1,6];rw[zC1 nr.1,zC1 nr.2];erw[_,hW2,6,Nx.of hi %[6|λb o e=>?_]]
   . rw[zF0,zY1];rw[zF0]at hi;exact aO #[0]
   . rw[aP,List.replicate_succ',zK0];rfl
   . rw[aE (aZ e hW)];exact S2 _ _ e
 rintro H1 ⟨hW1,S1⟩;erw[W,0,zG0 hW1,6];let ea:(List.replicate (xs.map V.int).length true).all id=true:=by simp
 rw[ea];erw[0,6];apply cM ?_;let R1:=R.same S1;let G1:=G.same S1;erw[0,D,C,dx,_,0,R1.hD,9,T.nP,zO,0,l,0,(hl.same S1).sq,2,0,D,C,dx,0,R1.hD,9,T.nP,eO,6];rw[yb,zF0];let S2:SameBut D H1 (upd H1 D (.ins C dx (dl g aA aC z.s aH aT z.ed (z.pl+(xs.length:Int))))):=SameBut.upd _;let R2:DbR C (upd H1 D (.ins C dx (dl g aA aC z.s aH aT z.ed (z.pl+(xs.length:Int))))) D g { z with pl:=z.pl+(xs.length:Int) } dx aA aC aH aT:=DbR.set (z:={ z with pl:=z.pl+(xs.length:Int) }) R1.hD R1.hA R1.hC R1.hH R1.hT;let G2:=G1.but R1.hD gD S2;let hl2:upd H1 D (.ins C dx (dl g aA aC z.s aH aT z.ed (z.pl+(xs.length:Int)))) l=H1 l:=aE (hl.elim (λe=>bz e R.hD nofun) λe=>bz e R.hD nofun);let hl2:IntsAt (upd H1 D (.ins C dx (dl g aA aC z.s aH aT z.ed (z.pl+(xs.length:Int))))) l xs:=(hl.same S1).elim (λe=>.inl (hl2.trans e)) λe=>.inr (hl2.trans e)
 generalize upd H1 D (.ins C dx (dl g aA aC z.s aH aT z.ed (z.pl+(xs.length:Int))))=H2 at S2 R2 G2 hl2;erw[0,D,C,dx,_,0,R2.hD,9,T.nC,dl_c,y0S,λu hu=>?_];let I:=zC0 hu (.tup []);let R3:=R2.same I;let hu3:upd H2 u (.tup []) u=some (.tup []):=aP;let hl3:=hl2.same I;let G3:=G2.same I;generalize upd H2 u (.tup [])=H3 at I R3 hu3 hl3 G3;let S03:SameBut D H H3:=(zJ0 S1).trans (S2.trans (zJ0 I));erw[_,_,lj R3.hC,lj (xs:=[]) hu3,ld _,ld [],0,6];rw[show PyData.eqv (.tuple (z.cl.map PyData.int)) (.tuple (([]:List Int).map PyData.int))=decide (z.cl=[])from zN z.cl]
 by_cases c:z.cl=[]
 . apply aX c ?_;let e:cG ns ts p xs z=je ns ts p xs { z with pl:=z.pl+(xs.length:Int) }:=by
    unfold cG;rw[M8 c]
   rw[e]at q;erw[0,D,dx,0,R3.hD,dl_n6,6];erw[0,Ch hl3 λt H4 J ht=>?_];erw[D,g,t,_,xs,ns,ts,p,1,%[dx,aA,aC,aH,aT|R3.same J],G3.same J,k,ht,tl,po,λH5 S5 D5=>q H5 (S03.trans ((zJ0 J).trans S5)) D5]
 . apply aD c ?_;let e:cG ns ts p xs z=eW p xs { z with pl:=z.pl+(xs.length:Int) }:=by
    unfold cG;rw[M6 c]
   rw[e]at q;erw[0,D,dx,0,R3.hD,dl_n8,6];erw[0,Ch hl3 λt H4 J ht=>?_];erw[D,g,t,_,xs,ns,ts,p,1,%[dx,aA,aC,aH,aT|R3.same J],G3.same J,k,ht,ro c,λH5 S5 D5=>q H5 (S03.trans ((zJ0 J).trans S5)) D5]
instance spToss(C CG:Addr):∀(D g:Addr) (z:Db) (r:Int) (ns:List Str) (ts:List Tr) (p:Int),vs=[.ref D,.int r]->DbAt C H D g z->Gm CG H g ns ts p->GmK ns ts p->z.aw.1="coin"->0<=r->r<p->z.to.length<=ns.length->(z.he≠[]->lO z.he p/\z.to.length<ns.length)->bJ z.to p->(∀H',SameBut D H H'->DbAt C H' D g (cZ ns ts p r z)->Q .non H'):=1
def CW:FnScope WH WH (ao uE):=%[|5]
def Ht(a:Str×Option Int):(awV a)[0]?=some (.str a.1):=by
 unfold awV
 split <;> rfl
instance rCatA(K:W.Frag)(x:V)(y:V)(H:Hp)(Q:VK):∀a b xs ys,x=.ref a->y=.ref b->SqT K H a xs->SqT K H b ys->ys≠[]->xs.length+ys.length<=sizeLine->(xs=[]->Q (.ref b) H)->(xs≠[]->∀p,H p=none->Q (.ref p) (upd H p (.tup (xs++ys)))):=0
def FT:OpR X (binaryOp .Add) (rCatA X.K):=by
 exists 4,x,y,v,u,Q,I,rx,ry,h;erw[a,b,xs,ys,ex,ey,ha,hb,hy,hz,q1,q2]at h
 by_cases c:xs=[]
 . subst c;exact iZ M5 s σ H x y v u Q I rx ry %[a,b,ys,ex,ey,ha,hb|q1 rfl]
 . exact op_catT M5 s σ H x y v u Q I rx ry %[a,b,xs,ys,ex,ey,ha,hb,c,hz,λz=>absurd z hy|λ_=>q2 c]
def DP(F:#["toss","Doubter.toss",uE])(B:Bl mg)(T:DTxt K mg C)(TG:GTxt K mg CG)(e8:#[1,"is_number",Wa,spIsNum])(b6:#[4,"value_at",WK,spVal])
 (mB:Meth K C "begin_rounds" fB)(GB:#[16,fB,fdB,WP,spBeg C CG])(bB:Binds K fdB WP [])
 (mG:Meth K C "go_on" fG)(GG:#[15,fG,fdG,WA,spGo C CG])(bG:Binds K fdG WA []):#[17,f,fd,WH,spToss C CG]:=by
 exists CW
 erw[D,g,z,r,ns,ts,p,1,%[dx,aA,aC,aH,aT|R],G,k,ea,r0,r1,tl,ro,po,q]at h;let hr15:Room 15 _:=hr.mono ⋯;refine⟨_,(aa (aJ (ai lH (aN ix_tup (aF (pv 0) rfl) af #[1]) aq (ax _)) bO aB)
  (aa (aJ (gy (eD (am e8 hr ⋯ rfl %[1,aF (aF (pv 0) rfl) rfl|aQ]))) bO aB)
  (aa (ba (pv 0) (au aS (aF (pv 0) rfl) af) rfl)
  (ae (aJ (ai (rh hr.units) (aF (pv 0) rfl) (aM aQ) (ax _))
   (ae (aW (bQ (pv 0) T.cl mB GB hr bB .nil bn %[1|aQ])))
   (aa (ba (pv 0) (am b6 hr ⋯ rfl %[aF (pv 0) rfl,1,aF (aF (pv 0) rfl) rfl|aQ]) rfl)
   (aa (ba (pv 0) (au FT (aF (pv 0) rfl) (aM %[1|aQ])) rfl)
   (ae (aW (cx (pv 0) T.cl mG GG hr15 bG .nil bn)))))))))),?_⟩
 let gD:=G.ne R.hD kR;let G':=G;erw[a,b,d,tv,%[dg|hg],ha,hb,TS,hd]at G';erw[0,D,C,dx,_,0,R.hD,9,T.nA,GQ,aA,_,2,zA0 R.hA,bv (j:=0) (Ht _),1,0,6];apply nv (congrArg V.str ea) ?_;erw[0,0,D,C,dx,_,0,R.hD,9,T.nG,kR,g,CG,dg,_,0,hg,TG.cl,TG.nF,iI ..,r,p,1,6];rw[zC1 r0,zC1 r1];erw[0,6];apply cM ?_;erw[0,D,C,dx,_,0,R.hD,9,T.nP,zO,2,0,D,C,dx,0,R.hD,9,T.nP,eO,6];rw[yb];let S2:SameBut D H (upd H D (.ins C dx (dl g aA aC z.s aH aT z.ed (z.pl+1)))):=SameBut.upd _;let R2:DbR C (upd H D (.ins C dx (dl g aA aC z.s aH aT z.ed (z.pl+1)))) D g { z with pl:=z.pl+1 } dx aA aC aH aT:=DbR.set (z:={ z with pl:=z.pl+1 }) R.hD R.hA R.hC R.hH R.hT;let G2:=G.but R.hD gD S2;generalize upd H D (.ins C dx (dl g aA aC z.s aH aT z.ed (z.pl+1)))=H2 at S2 R2 G2;erw[0,D,C,dx,_,0,R2.hD,9,T.nH,dl_h,y0S,λu hu=>?_];let I:=zC0 hu (.tup []);let R3:=R2.same I;let hu3:upd H2 u (.tup []) u=some (.tup []):=aP;let G3:=G2.same I;generalize upd H2 u (.tup [])=H3 at I R3 hu3 G3;let S03:SameBut D H H3:=S2.trans (zJ0 I);erw[_,_,lj R3.hH,lj (xs:=[]) hu3,ld _,ld [],0,6];rw[show PyData.eqv (.tuple (z.he.map PyData.int)) (.tuple (([]:List Int).map PyData.int))=decide (z.he=[])from zN z.he]
 by_cases c:z.he=[]
 . apply aX c ?_;let e:cZ ns ts p r z=vB ns ts p r { z with pl:=z.pl+1 }:=by
    unfold cZ;rw[M8 c]
   rw[e]at q;erw[0,D,dx,0,R3.hD,Ho,0,6];erw[D,g,_,r,ns,ts,p,1,%[dx,aA,aC,aH,aT|R3],G3,k,tl,po,λH5 S5 D5=>q H5 (S03.trans S5) D5]
 . apply aD c ?_;let%[rok|tl']:=ro c;let e:cZ ns ts p r z=goOn ns ts p { z with pl:=z.pl+1,ed:=val p z.he r,to:=z.to++[r] }:=by
    unfold cZ;rw[M6 c]
   rw [e]at q;let G3':=G3;erw[a3,b3,d3,tv3,%[dg3|hg3],_]at G3';erw[0,D,C,dx,_,0,R3.hD,9,T.nH,dl_h,0,0,D,C,dx,_,0,R3.hD,9,T.nG,kR,g,CG,dg3,_,0,hg3,TG.cl,TG.nF,iI ..,aH,z.he,r,p,1,.inr R3.hH,rok,k.pr,k.p9,r0,r1,λH4 S4=>?_];let R4:=R3.same S4;let G4:=G3.same S4;erw[0,D,C,dx,0,R4.hD,9,T.nE,eO,6];rw[Do];let S5:SameBut D H4 (upd H4 D (.ins C dx (dl g aA aC z.s aH aT (val p z.he r) (z.pl+1)))):=SameBut.upd _;let R5:DbR C (upd H4 D (.ins C dx (dl g aA aC z.s aH aT (val p z.he r) (z.pl+1)))) D g { z with pl:=z.pl+1,ed:=val p z.he r } dx aA aC aH aT:=DbR.set (z:={ z with pl:=z.pl+1,ed:=val p z.he r }) R4.hD R4.hA R4.hC R4.hH R4.hT;let G5:=G4.but R4.hD gD S5;generalize upd H4 D (.ins C dx (dl g aA aC z.s aH aT (val p z.he r) (z.pl+1)))=H5 at S5 R5 G5;let S05:SameBut D H H5:=S03.trans ((zJ0 S4).trans S5);erw[0,D,C,dx,_,0,R5.hD,9,T.nT,BM,0,y1S,λt ht=>?_];let J:=zC0 ht (.tup [.int r]);let R6:=R5.same J;let G6:=G5.same J;let ht6:upd H5 t (.tup [.int r]) t=some (.tup [.int r]):=aP;generalize upd H5 t (.tup [.int r])=H6 at J R6 G6 ht6;let n10:=k.n10;let fin:∀(x:Addr)(H7:Hp),Same H6 H7->H7 x=some (.tup ((z.to++[r]).map V.int))->(ps_fin:True)->∀QQ:Hp->Prop,(∀H8,SameBut D H7 H8->DbR C H8 D g { z with pl:=z.pl+1,ed:=val p z.he r,to:=z.to++[r] } dx aA aC aH x->Gm CG H8 g ns ts p->QQ H8)->QQ (upd H7 D (.ins C dx (dl g aA aC z.s aH x (val p z.he r) (z.pl+1)))):=by
    intro x H7 s7 hx _ QQ hq;let R7:=R6.same s7;exact hq _ (SameBut.upd _) (DbR.set (z:={ z with pl:=z.pl+1,ed:=val p z.he r,to:=z.to++[r] }) R7.hD R7.hA R7.hC R7.hH hx) ((G6.same s7).but R7.hD gD (SameBut.upd _))
   let po2:bJ (z.to++[r]) p:=λx hx=>by
    rcases qH0 hx with h | h
    . exact po x h
    . rw[Nd h];erw[r0,r1]
   let tl2:(z.to++[r]).length<=ns.length:=by
    rw[zL0,qL0];omega
   let S06:SameBut D H H6:=S05.trans (zJ0 J);erw[aT,t,2,zA0 R6.hT,zA0 ht6,(λz=>by cases z),cH (by rw[zF0];show z.to.length+1<=1000;omega),λz0=>?_,λz0 p7 hp7=>?_]
   . let e0:z.to=[]:=#[z0,0]
     erw[0,D,C,dx,0,R6.hD,9,T.nT,eO,6];rw[Hj];apply fin t H6 (Same.refl _) (by rw[e0];exact ht6) trivial _ λH8 S8 R8 G8=>?_
     erw[0,D,dx,0,R8.hD,EJ,6];erw[D,g,_,ns,ts,p,1,%[dx,aA,aC,aH,t|R8],G8,k,tl2,po2,λH9 S9 D9=>q H9 (S06.trans (S8.trans S9)) D9]
   . let L:=zC0 hp7 (.tup (z.to.map V.int++[.int r]));let R7:=R6.same L;erw[0,D,C,dx,0,R7.hD,9,T.nT,eO,6];rw[Hj];apply fin p7 _ L (by rw[aP,zK0];rfl) trivial _ λH8 S8 R8 G8=>?_
     erw[0,D,dx,0,R8.hD,EJ,6];erw[D,g,_,ns,ts,p,1,%[dx,aA,aC,aH,p7|R8],G8,k,tl2,po2,λH9 S9 D9=>q H9 (S06.trans ((zJ0 L).trans (S8.trans S9))) D9]
instance spDInit(C CG:Addr):∀(D g dx:Addr)(ns:List Str)(ts:List Tr)(p:Int),vs=[.ref D,.ref g]->H D=some (.ins C dx [])->Gm CG H g ns ts p->g≠D->(∀H',SameBut D H H'->DbAt C H' D g (Db.new ts)->Q .non H'):=1
def CY:FnScope WI WI (ao uF):=%[|5]
instance spOf(C:Addr)(t:Db->V->Hp->Prop):∀(D g:Addr)(z:Db),vs=[.ref D]->DbAt C H D g z->(∀v,t z v H->Q v H):=1
def FG:FnScope WA WA (ao ya):=%[|5]
def Gh(F:#["due","Doubter.due",ya])(T:DTxt K mg C):#[1,f,fd,WA,spOf C λz v _=>v=.int z.ed]:=by
 exists FG
 erw[D,g,z,1,%[dx,aA,aC,aH,aT|R],q]at h;erw[_,(ae (ay (aF (pv 0) rfl))),6];erw[0,D,C,dx,_,0,R.hD,9,T.nE,EL,q _ rfl]
def Aw:FnScope WA WA (ao qK):=%[|5]
def Ba(F:#["waits","Doubter.waits",qK])(T:DTxt K mg C):#[1,f,fd,WA,spOf C λz v H=>∃a,v=.ref a/\H a=some (.tup (awV z.aw))]:=by
 exists Aw
 erw[D,g,z,1,%[dx,aA,aC,aH,aT|R],q]at h;erw[_,(ae (ay (aF (pv 0) rfl))),6];erw[0,D,C,dx,_,0,R.hD,9,T.nA,GQ,q _ %[aA,1|R.hA]]
end
section
variable {C CG:Addr}
def vh{b:Addr}{o:HO}(F:FeedAt H f)(h:H b=some o)(n:∀ys,o≠.lst ys):b≠f:=λz=>by
 erw[u,t,e,_]at F;rw[z,e]at h;exact n _ (zO0 h).symm
def awD(a:Str×Option Int):PyData:=match a.2 with
 |none=>.tuple [.str a.1]
 |some n=>.tuple [.str a.1,.int n]
def mh{K:W.Frag}{H:Hp}{c:Addr}(h:H c=some (.tup (awV a))):Rep K H (.ref c) (awD a):=by
 erw[x,n]at a;cases n with
 |none=>exact .tup (zA0 h) (.cons (.str x) .nil)
 |some n=>exact .tup (zA0 h) (.cons (.str x) (.cons (.int n) .nil))
def AwW(x:Str):Prop:=x="hear"∨x="coin"∨x="caught"∨x="believed"
def AwW.ok(h:AwW x):PyData.strOk x=true:=by
 rcases h with rfl | rfl | rfl | rfl <;> decide
def Fs(x y:Str):(x==y)=decide (x=y):=by
 by_cases c:x=y
 . subst c;simp
 . rw[zD1 c];simpa using c
def yP(a b:Str×Option Int):PyData.eqv (awD a) (awD b)=decide (a=b):=by
 erw[x,n]at a;erw[y,m]at b;cases n <;> cases m <;> simp [awD,PyData.eqv,PyData.eqvAll,Fs]
 rename_i u v
 by_cases c:u=v
 . subst c;simp
 . simp [c]
def pF:∀ns ms:List Int,PyData.eqvAll (ns.map PyData.int) (ms.map PyData.int)=decide (ns=ms)
 | [],[]=>rfl
 | [],_::_=>rfl
 |_::_,[]=>rfl
 |a::r,b::t=>by
   simp only[qC0,PyData.eqvAll,PyData.eqv,pF r t]
   by_cases h1:a=b <;> by_cases h2:r=t <;> simp [h1,h2]
def yO(ns ms:List Int):PyData.eqv (.list (ns.map PyData.int)) (.list (ms.map PyData.int))=decide (ns=ms):=by simp [PyData.eqv,pF]
def ib(ns:List Int):SeqAt.shaped (.list (ns.map PyData.int))=true:=by
 simp [SeqAt.shaped,PyData.canLay0,PyData.depth,wJ1,wY0]
end
section
variable {C CG:Addr}
def d1(g:Addr):List (Str×V):=[("game",.ref g)]
def d2(g t1:Addr):List (Str×V):=[("game",.ref g),("awaited",.ref t1)]
def d3(g t1 t2:Addr):List (Str×V):=[("game",.ref g),("awaited",.ref t1),("claims",.ref t2)]
def d4(g t1 t2:Addr):List (Str×V):=[("game",.ref g),("awaited",.ref t1),("claims",.ref t2),("s",.int 0)]
def d5(g t1 t2 t3:Addr):List (Str×V):=[("game",.ref g),("awaited",.ref t1),("claims",.ref t2),("s",.int 0),("heard",.ref t3)]
def d6(g t1 t2 t3 t4:Addr):List (Str×V):=[("game",.ref g),("awaited",.ref t1),("claims",.ref t2),("s",.int 0),("heard",.ref t3),("tossed",.ref t4)]
def d7(g t1 t2 t3 t4:Addr):List (Str×V):=[("game",.ref g),("awaited",.ref t1),("claims",.ref t2),("s",.int 0),("heard",.ref t3),("tossed",.ref t4),("held",.int 0)]
def pd1(g:Addr):bV "game" (.ref g) []=d1 g:=by rfl'
def pd2(g t1:Addr):bV "awaited" (.ref t1) (d1 g)=d2 g t1:=by rfl'
def pd3(g t1 t2:Addr):bV "claims" (.ref t2) (d2 g t1)=d3 g t1 t2:=by rfl'
def pd4(g t1 t2:Addr):bV "s" (.int 0) (d3 g t1 t2)=d4 g t1 t2:=by rfl'
def pd5(g t1 t2 t3:Addr):bV "heard" (.ref t3) (d4 g t1 t2)=d5 g t1 t2 t3:=by rfl'
def pd6(g t1 t2 t3 t4:Addr):bV "tossed" (.ref t4) (d5 g t1 t2 t3)=d6 g t1 t2 t3 t4:=by rfl'
def pd7(g t1 t2 t3 t4:Addr):bV "held" (.int 0) (d6 g t1 t2 t3 t4)=d7 g t1 t2 t3 t4:=by rfl'
def pd8(g t1 t2 t3 t4:Addr):bV "places" (.int 0) (d7 g t1 t2 t3 t4)=dl g t1 t2 0 t3 t4 0 0:=by rfl'
def DQ(F:#["__init__","Doubter.__init__",uF])(B:Bl mg)(T:DTxt K mg C)(TG:GTxt K mg CG):#[1,f,fd,WI,spDInit C CG]:=by
 exists CY
 erw[D,g,dx,ns,ts,p,1,hD,G,gD,q]at h;refine⟨_,(aa (ba (pv 0) (pv 1) rfl)
  (aa (ba (pv 0) (aM %[aq,aI aG rfl B.len zB1 %[aF (pv 1) rfl|aQ]|aQ]) rfl)
  (aa (ba (pv 0) (aM aQ) rfl)
  (aa (ba (pv 0) af rfl)
  (aa (ba (pv 0) (aM aQ) rfl)
  (aa (ba (pv 0) (aM aQ) rfl)
  (aa (ba (pv 0) af rfl)
  (ae (ba (pv 0) af rfl))))))))),?_⟩
 erw[a,b,d,tv,%[dg|hg],ha,hb,TS,hd]at G;let vl:=TS.length;erw[0,0,D,C,dx,0,hD,9,T.nG,(by show 0<1000;decide),6];rw[pd1];let S1:SameBut D H (upd H D (.ins C dx (d1 g))):=SameBut.upd _;let h1:upd H D (.ins C dx (d1 g)) D=some (.ins C dx (d1 g)):=aP;generalize upd H D (.ins C dx (d1 g))=H1 at S1 h1;let nb:=bz hb hD nofun;erw[0,g,CG,dg,_,0,S1 _ _ gD hg,TG.cl,TG.nT,lK ..,b,0,.inr (zA0 (S1 _ _ nb hb)),y2S,λt1 ht1=>?_];let I1:=zC0 ht1 (.tup [.str "hear",.int (tv.length:Int)]);let g1:upd H1 t1 (.tup [.str "hear",.int (tv.length:Int)]) t1=some (.tup [.str "hear",.int (tv.length:Int)]):=aP;generalize upd H1 t1 (.tup [.str "hear",.int (tv.length:Int)])=H2 at I1 g1;erw[0,D,C,dx,0,I1 _ _ h1,9,T.nA,(by show 1<1000;decide),6];rw[pd2];let n1:t1≠D:=(aZ h1 ht1).symm;let S2:SameBut D H2 (upd H2 D (.ins C dx (d2 g t1))):=SameBut.upd _;let h2:upd H2 D (.ins C dx (d2 g t1)) D=some (.ins C dx (d2 g t1)):=aP;let k1:=S2 _ _ n1 g1;generalize upd H2 D (.ins C dx (d2 g t1))=H3 at S2 h2 k1;erw[y0S,λt2 ht2=>?_];let I2:=zC0 ht2 (.tup []);let g2:upd H3 t2 (.tup []) t2=some (.tup []):=aP;generalize upd H3 t2 (.tup [])=H4 at I2 g2;erw[0,D,C,dx,0,I2 _ _ h2,9,T.nC,(by show 2<1000;decide),6];rw[pd3];let n2:t2≠D:=(aZ h2 ht2).symm;let S3:SameBut D H4 (upd H4 D (.ins C dx (d3 g t1 t2))):=SameBut.upd _;let h3:upd H4 D (.ins C dx (d3 g t1 t2)) D=some (.ins C dx (d3 g t1 t2)):=aP;generalize upd H4 D (.ins C dx (d3 g t1 t2))=H5 at S3 h3;erw[0,D,C,dx,0,h3,9,T.nS,(by show 3<1000;decide),6];rw[pd4];let S4:SameBut D H5 (upd H5 D (.ins C dx (d4 g t1 t2))):=SameBut.upd _;let h4:upd H5 D (.ins C dx (d4 g t1 t2)) D=some (.ins C dx (d4 g t1 t2)):=aP;generalize upd H5 D (.ins C dx (d4 g t1 t2))=H6 at S4 h4;erw[y0S,λt3 ht3=>?_];let I3:=zC0 ht3 (.tup []);let g3:upd H6 t3 (.tup []) t3=some (.tup []):=aP;generalize upd H6 t3 (.tup [])=H7 at I3 g3;erw[0,D,C,dx,0,I3 _ _ h4,9,T.nH,(by show 4<1000;decide),6];rw[pd5];let n3:t3≠D:=(aZ h4 ht3).symm;let S5:SameBut D H7 (upd H7 D (.ins C dx (d5 g t1 t2 t3))):=SameBut.upd _;let h5:upd H7 D (.ins C dx (d5 g t1 t2 t3)) D=some (.ins C dx (d5 g t1 t2 t3)):=aP;generalize upd H7 D (.ins C dx (d5 g t1 t2 t3))=H8 at S5 h5;erw[y0S,λt4 ht4=>?_];let I4:=zC0 ht4 (.tup []);let g4:upd H8 t4 (.tup []) t4=some (.tup []):=aP;generalize upd H8 t4 (.tup [])=H9 at I4 g4;erw[0,D,C,dx,0,I4 _ _ h5,9,T.nT,(by show 5<1000;decide),6];rw[pd6];let n4:t4≠D:=(aZ h5 ht4).symm;erw[0,D,C,dx,0,aP,9,T.nE,(by show 6<1000;decide),6];rw[pd7];erw[0,D,C,dx,0,aP,9,T.nP,(by show 7<1000;decide),6];rw[pd8];let W:∀{x:Addr} {H':Hp} {o1 o2 o3:HO} {u:HO},x≠D->H' x=some u->upd (upd (upd H' D o1) D o2) D o3 x=some u:=λ{x H' o1 o2 o3 u} n e=>by
  rw[aE n,aE n,aE n];exact e
 let k2:=S3 _ _ n2 g2;let k3:=S5 _ _ n3 g3;apply q _ (S1.trans ((zJ0 I1).trans (S2.trans ((zJ0 I2).trans (S3.trans (S4.trans ((zJ0 I3).trans (S5.trans ((zJ0 I4).trans ((SameBut.upd _).trans ((SameBut.upd _).trans (SameBut.upd _)))))))))))) %[dx,t1,t2,t3,t4,aP,6,6,6|W n4 g4]
 . rw[vl]at k1;exact W n1 (I4 _ _ (S5 _ _ n1 (I3 _ _ (S4 _ _ n1 (S3 _ _ n1 (I2 _ _ k1))))))
 . exact W n2 (I4 _ _ (S5 _ _ n2 (I3 _ _ (S4 _ _ n2 k2))))
 . exact W n3 (I4 _ _ k3)
end
def jU(o:Str)(p q:Bool):Bool:=if o="and" then p&&q else if o="or" then p||q else if o="odd" then p != q else p==q
def Tr.holds(ns:List Str)(st:List Int):Tr->Bool
 |.is x=>match eT x ns with | some j=>decide (st.getD j 0=1) | none=>false
 |.yes=>true
 |.no=>false
 |.not a=>!a.holds ns st
 |.bin o a b=>jU o (a.holds ns st) (b.holds ns st)
instance spJoined:∀(o:Str)(p q:Bool),vs=[.str o,.bl p,.bl q]->Q (.bl (jU o p q)) H:=1
def As:FnScope Wb Wb (ao qG):=%[|5]
def AW(F:#["joined",qG]):#[1,f,fd,Wb,spJoined]:=by
 exists As
 erw[o,p,q,1,k]at h;refine⟨_,(aa (aJ (ai aR (pv 0) aq (ax _)) (ae (ay (uP (pv 1) (uO (pv 2))))) aB)
  (aa (aJ (ai aR (pv 0) aq (ax _)) (ae (ay (pe_or (pv 1) (uO (pv 2))))) aB)
  (aa (aJ (ai aR (pv 0) aq (ax _)) (ae (ay (eJ lH (pv 1) (pv 2) (ax _)))) aB)
  (ae (ay (eJ aR (pv 1) (pv 2) (ax _))))))),?_⟩
 erw[0,1,0,6]
 by_cases c1:V.str o=V.str "and"
 . apply aX c1 ?_;let e:jU o p q=(p&&q):=by unfold jU;rw[M8 (iC c1)]
   rw[e]at k;erw[0,p,1,6];cases p with
   |true=>exact dU %[0|by simpa using k]
   |false=>exact cM #[k,0]
 apply aD c1 ?_;let n1:¬ o="and":=λz=>c1 (by rw[z])
 erw[0,1,0,6]
 by_cases c2:V.str o=V.str "or"
 . apply aX c2 ?_;let e:jU o p q=(p||q):=by unfold jU;rw[M6 n1,M8 (iC c2)]
   rw[e]at k;erw[0,p,1,6];cases p with
   |true=>exact dU #[k,0]
   |false=>exact cM %[0|by simpa using k]
 apply aD c2 ?_;let n2:¬ o="or":=λz=>c2 (by rw[z])
 erw[0,1,0,6]
 by_cases c3:V.str o=V.str "odd"
 . apply aX c3 ?_;let e:jU o p q=(p != q):=by unfold jU;rw[M6 n1,M6 n2,M8 (iC c3)]
   rw[e]at k;erw[0,0,1,6];let e2:(!decide (V.bl p=V.bl q))=(p != q):=by cases p <;> cases q <;> decide
   show Q (.bl (!decide (V.bl p=V.bl q))) H;rw[e2];exact k
 apply aD c3 ?_;let n3:¬ o="odd":=λz=>c3 (by rw[z])
 let e:jU o p q=(p==q):=by unfold jU;rw[M6 n1,M6 n2,M6 n3]
 rw[e]at k;erw[0,0,1,6];let e2:decide (V.bl p=V.bl q)=(p==q):=by cases p <;> cases q <;> decide
 show Q (.bl (decide (V.bl p=V.bl q))) H;rw[e2];exact k
instance spHolds(n:Nat):∀(v:V)(t:Tr)(a b:Addr)(ns:List Str)(st:List Int),vs=[v,.ref a,.ref b]->TreeAt H v t->t.ok ns->t.depth<=n->NamesAt H a ns->H b=some (.tup (st.map V.int))->st.length=ns.length->Q (.bl (t.holds ns st)) H:=1
def ki:FnScope ["tree","switches","setting","word","first"] WU (ao jA):=%[|5]
def yL{n:Nat}(F:#["holds_at",jA])(g9:#[1,"joined",Wb,spJoined])(fJ:#[n+2,"holds_at",WU,spHolds n]):#[n+3,f,fd,WU,spHolds (n+1)]:=by
 exists ki
 erw[v,t,a,b,ns,st,1,T,ok,dn,hN,hb,sl,k]at h;refine⟨_,(aa #[aj,3,ki,aN ix_tup (pv 0) af #[1]]
  (aa (aJ (ai aR (pv 3) aq (ax _)) (ae (ay (eJ aR (aN ix_tup (pv 2) (rc zE1 jO0 (pv 1) %[aN ix_tup (pv 0) af #[1]|aQ]) #[1]) af (ax _)))) aB)
  (aa (aJ (PW.pt (eC (ai aR (pv 3) aq (ax _)) (dM (ai aR (pv 3) aq (ax _))))) (ae (ay (eJ aR (pv 3) aq (ax _)))) aB)
  (aa #[aj,4,ki,am fJ hr (zH0 _) rfl %[aN ix_tup (pv 0) af #[1],1,2|aQ]]
  (aa (aJ (ai aR (pv 3) aq (ax _)) (ae (ay (Dv (pv 4)))) aB)
  (ae (ay (am g9 hr #[0] rfl %[3,4,am fJ hr (zH0 _) rfl %[aN ix_tup (pv 0) af #[1],1,2|aQ]|aQ])))))))),?_⟩
 cases T with
 | @is p x e=>
   erw[0,p,_,(0),0,1,zA0 e,1,6];erw[0,1,0,6];apply aX rfl ?_;let%[j,hj|jl]:=gz ok;let jl':j<st.length:=#[0]
   erw[0,0,a,ns,1,hN,0,p,_,(1),0,1,zA0 e,1,1,x,j,1,hj,b,_,(j:Int),.int st[j],1,1,zA0 hb,6,1,6]
   . apply bv ?_;rw[zW0,zN0 jl'];rfl
   . let e1:(Tr.is x).holds ns st=decide (V.int st[j]=V.int 1):=by
      show(match eT x ns with | some j=>decide (st.getD j 0=1) | none=>false)=_;rw[hj];show decide (st.getD j 0=1)=_;rw[qO0,zN0 jl']
      simp
     rw[e1]at k;exact k
 | @yes p e=>
   erw[0,p,_,(0),0,1,zA0 e,1,6];erw[0,1,0,6];apply aD ⋯ ?_;erw[0,1,0,6];apply aX rfl (dU ?_);erw[0,1,k]
 | @no p e=>
   erw[0,p,_,(0),0,1,zA0 e,1,6];erw[0,1,0,6];apply aD ⋯ ?_;erw[0,1,0,6];apply aD ⋯ ?_;erw[0,1,0,6];apply aX rfl ?_;erw[0,1,6];let e1:decide (V.str "no"=V.str "yes")=false:=by decide
   show Q (.bl (decide (V.str "no"=V.str "yes"))) H;rw[e1];exact k
 | @not p u r e T1=>
   let dp:r.depth+1<=n+1:=dn;erw[0,p,_,(0),0,1,zA0 e,1,6];erw[0,1,0,6];apply aD ⋯ ?_;erw[0,1,0,6];apply aD ⋯ ?_;erw[0,1,0,6];apply aD ⋯ ?_;erw[0,p,_,(1),0,1,zA0 e,1,0,0,u,r,a,b,ns,st,1,T1,ok,3,hN,hb,sl,6];erw[0,1,0,6];apply aX rfl ?_;erw[0,0,k]
 | @bin p o u u2 r r2 e T1 T2=>
   erw[ho,ok1,ok2]at ok;let dp:max r.depth r2.depth+1<=n+1:=dn;let ne:∀z:Str,z∉joinW->¬ V.str o=V.str z:=λz hz h=>hz (iC h▸ho)
   erw[0,p,_,(0),0,1,zA0 e,1,6];erw[0,1,0,6];apply aD (ne _ ⋯) ?_;erw[0,1,0,6];apply aD (ne _ ⋯) ?_;erw[0,1,0,6];apply aD (ne _ ⋯) ?_;erw[0,p,_,(1),0,1,zA0 e,1,0,0,u,r,a,b,ns,st,1,T1,ok1,3,hN,hb,sl,6];erw[0,1,0,6];apply aD (ne _ ⋯) ?_;erw[0,0,0,p,_,(2),0,1,zA0 e,1,0,0,u2,r2,a,b,ns,st,1,T2,ok2,3,hN,hb,sl,6];erw[o,_,0,k]
def yK:#[2,f,fd,WU,spHolds 0]:=by
 let no:∀vs H Q E,¬ spHolds 0 vs H Q E:=λvs H Q E h=>by
  erw[v,t,_,_,_,_,_,_,_,h1,_]at h
  have:=t.depth_pos
  omega
 exists 3
def pz(F:#["holds_at",jA])(m:mg "holds_at"=some (.ref f))(g9:#[1,"joined",Wb,spJoined]):
 ∀n:Nat,#[n+2,f,fd,WU,spHolds n]
 |0=>yK
 |n+1=>yL F g9 (Cal.of F (pz F m g9 n) m (λ_ _ _ _ _ _ us hl=>by let%[u0,u1,u2|1]:=Ix hl;rfl))
def Hu(H:Hp)(v:V)(s:List Int):Prop:=∃a,v=.ref a/\H a=some (.tup (s.map V.int))
abbrev TupsAt(H:Hp):List V->List (List Int)->Prop:=PySem.Paired (Hu H)
def zb(H:Hp)(r:Addr)(ss:List (List Int)):Prop:=∃rs,H r=some (.lst rs)/\TupsAt H rs ss
def TupsAt.mono{H H':Hp}(k:∀a xs,H a=some (.tup xs)->H' a=some (.tup xs)):∀{rs:List V}{ss:List (List Int)},TupsAt H rs ss->TupsAt H' rs ss
 |_,_,.nil=>.nil
 |_,_,.cons ⟨a,e,h⟩ t=>.cons %[a,e|k _ _ h] (TupsAt.mono k t)
def TupsAt.get:∀{rs:List V}{ss:List (List Int)}{i:Nat}{v:V},TupsAt H rs ss->rs[i]?=some v->∃s,ss[i]?=some s/\Hu H v s
 |_,_,_,_,.nil,h=>by simp at h
 |_,_,0,_,.cons h _,e=>by
   simp at e
   subst e;erw[0,h]
 |_,_,i+1,v,.cons _ t,e=>by
   let%[s,h1|h2]:=TupsAt.get (i:=i) t #[e,0];erw[s,by simpa using h1,h2]
def Br{ys:List V}(s:SameBut b H H')(h:H b=some (.lst ys)∨H b=none):∀a xs,H a=some (.tup xs)->H' a=some (.tup xs):=λa xs e=>s a _ (λz=>by
 rw[z]at e;rcases h with h | h
 . rw[h]at e;cases e
 . rw[h]at e;cases e) e
def nU{K:W.Frag}{H1:Hp}{a p:Addr}{s:List Int}{z:Int}{Q:VK}(ha:H1 a=some (.tup (s.map V.int)))(hp:H1 p=some (.tup [.int z]))(hl:s.length<=100)
 (q:∀t H2,Same H1 H2->H2 t=some (.tup ((s++[z]).map V.int))->Q (.ref t) H2):rCatT K (.ref a) (.ref p) H1 Q∨rCatT0 K (.ref a) (.ref p) H1 Q:=by
 cases s with
 |nil=>exact .inr %[a,p,0,1,zA0 ha,zA0 hp|q p H1 (Same.refl _) hp]
 |cons x r=>
   refine .inl %[a,p,2,zA0 ha,zA0 hp,by simp,cH (by simp at hl ⊢;omega),(λz=>nomatch z)|(λ_ t ht=>q t _ (zC0 ht _) ?_)];rw[aP,zK0];rfl
instance spSetts:∀n:Int,vs=[.int n]->0<=n->n<=6->(∀(r:Addr)(H':Hp),H r=none->Same H H'->zb H' r (cI n.toNat)->Q (.ref r) H'):=1
def cV:FnScope ["n","told","switch","longer","setting"] ["n"] (ao iu):=%[|5]
def pO(F:#["all_settings",iu])(hrange:mg "range"=none):#[1,f,fd,["n"],spSetts]:=by
 exists cV
 erw[n,1,n0,n6,q]at h;refine⟨_,(aa #[aj,1,cV,cS %[aM aQ|aQ]]
  (aa (cu zF1 rfl (cr rfl hrange %[0|aQ]) (aU (i:=2) cV.nd rfl (.inl rfl)) (aa #[aj,3,cV,cS aQ]
   (aa (cu zF1 rfl (dR (pv 1)) (aU (i:=4) cV.nd rfl (.inl rfl)) (aa (aW (dC zE1 zH1 zI1 cf (pv 3) %[au (op_catT.or iZ) (pv 4) (aM %[af|aQ])|aQ]))
    (ae (aW (dC zE1 zH1 zI1 cf (pv 3) %[au (op_catT.or iZ) (pv 4) (aM %[af|aQ])|aQ])))))
   (ae #[aj,1,cV,pv 3]))))
  (ae (ay (pv 1))))),?_⟩
 erw[y0S,λp hp=>?_];erw[y1S,λa ha=>?_];let np:p≠a:=λz=>by
  subst z;rw[aP]at ha;cases ha
 let ha0:H a=none:=(zC0 hp _).free ha;refine⟨_,rfl,n,rfl,#[0],#[0],eK (λi σ H'=>∃(a:Addr)(x2 x3 x4:Option V),σ=[some (.int n),some (.ref a),x2,x3,x4]/\H a=none/\Same H H'/\zb H' a (cI i))
  %[a,_,_,0,ha0,(zC0 hp _).trans (zC0 ha _),[.ref p],aP|.cons ⟨p,rfl,by rw[aE np,aP];rfl⟩ .nil] ?_ ?_⟩
 . rintro i σ H' hi ⟨a,x2,x3,x4,rfl,a0,s0,rs,hrs,T⟩;let i6:i<6:=#[0]
   let sl:=iU i;let s64:=oG (n:=i) #[0];erw[y0S,λb hb=>?_];let ab:a≠b:=aZ hrs hb;refine⟨_,rfl,a,rfl,%[_|zG0 (by rw[aE ab];exact hrs)],fo (K:=K) (xs:=rs) (λj σ H2=>∃(x4:Option V)(bs:List V),σ=[some (.int n),some (.ref a),some (.int (0+(i:Int))),some (.ref b),x4]/\SameBut b H' H2/\H2 b=some (.lst bs)/\TupsAt H2 bs (((cI i).take j).flatMap λs=>[s++[0],s++[1]]))
    %[_,[],1,SameBut.upd _,aP|.nil] (λj σ H2 _ Na=>by erw[_,_,_,sb,_]at Na;exact zG0 (sb a _ ab hrs)) ?_ ?_⟩
   . rintro j y σ H2 hj ⟨x4,bs,rfl,sb,hbs,TB⟩;let T2:TupsAt H2 rs (cI i):=T.mono (Br (ys:=[]) sb (.inr hb));let%[s,hs,t,1|ht]:=T2.get hj;let hsm:s∈cI i:=qD0 hs;let hsl:=dL i s hsm;let hbl:=TB.length;rw[lA,qF0]at hbl;erw[0,.inl %[1,_|zG0 hbs],6];erw[0,y1S,λp1 hp1=>?_];let S1:Same H2 (upd H2 p1 (.tup [.int 0])):=zC0 hp1 _;apply nU (s:=s) (z:=0) (S1 _ _ ht) aP #[0] λt1 H3 S3 e3=>?_
     let S13:Same H2 H3:=S1.trans S3;erw[b,bs,0,1,S13 _ _ hbs,aO #[0],6];let K4:=gA (H:=H3) (b:=b) (ys:=bs) (zs:=bs++[.ref t1]) (S13 _ _ hbs);let e4:=K4 _ _ e3;let t4:=K4 _ _ (S13 _ _ ht);erw[0,.inl %[1,_|zG0 aP],6];erw[0,y1S,λp2 hp2=>?_];let S4:Same (upd H3 b (.lst (bs++[.ref t1]))) (upd (upd H3 b (.lst (bs++[.ref t1]))) p2 (.tup [.int 1])):=zC0 hp2 _;apply nU (s:=s) (z:=1) (S4 _ _ t4) aP #[0] λt2 H5 S5 e5=>?_
     let S45:=S4.trans S5;let hb5:H5 b=some (.lst (bs++[.ref t1])):=S45 _ _ aP;erw[b,bs++[.ref t1],0,1,hb5,aO (by rw[zL0,qL0];omega),6];let K6:=gA (H:=H5) (b:=b) (ys:=bs++[.ref t1]) (zs:=bs++[.ref t1]++[.ref t2]) hb5;erw[_,bs++[.ref t1]++[.ref t2],1,6,aP,6]
     . let q1:SameBut b H' H3:=sb.trans (zJ0 S13);let q2:SameBut b H' H5:=(q1.trans (SameBut.upd _)).trans (zJ0 S45);exact q2.trans (SameBut.upd _)
     . let hbase:TupsAt (upd H5 b (.lst (bs++[.ref t1]++[.ref t2]))) bs (((cI i).take j).flatMap λs=>[s++[0],s++[1]]):=
        TB.mono λa xs e=>K6 _ _ (S45 _ _ (K4 _ _ (S13 _ _ e)))
       rw[qB0,hs,List.flatMap_append];let e:((some s).toList.flatMap λs:List Int=>[s++[0],s++[1]])=[s++[0]]++[s++[1]]:=by simp
       rw[e,←qZ1];exact(hbase.snoc %[t1,1|K6 _ _ (S45 _ _ e4)]).snoc ⟨t2,rfl,K6 _ _ e5⟩
   . rintro σ H2 ⟨x4,bs,rfl,sb,hbs,TB⟩;let rl:=T.length;rw[rl,zZ0]at TB;erw[0,b,_,_,0,s0.free hb,s0.but (s0.free hb) sb,bs,hbs,TB]
 . rintro σ H' ⟨a,x2,x3,x4,rfl,a0,s0,S⟩;erw[0,q a H' a0 s0 S]
def cnt(t:Tr)(ns:List Str):Nat:=((cI ns.length).filter λst=>t.holds ns st).length
instance spCount:∀(v:V)(t:Tr)(a:Addr)(ns:List Str),vs=[v,.ref a]->TreeAt H v t->t.ok ns->t.depth<=12->NamesAt H a ns->ns.length<=6->(∀H',Same H H'->Q (.int (cnt t ns:Int)) H'):=1
def u5:FnScope ["tree","switches","holding"] Wl (ao me):=%[|5]
def wu(F:#["count_of",me])(hlen:mg "len"=none)(dj:#[1,"all_settings",["n"],spSetts])(fJ:#[14,"holds_at",WU,spHolds 12]):#[15,f,fd,Wl,spCount]:=by
 exists u5
 erw[v,t,a,ns,1,T,ok,dp,hN,nl,q]at h;refine⟨_,(aa (mX (i:=2) (N:=Wl) (ix:=[0,1]) u5.nd rfl (.inl rfl) rfl
  #[4] rfl
  (dR (am dj hr ⋯ rfl %[aI aG rfl hlen zB1 %[1|aQ]|aQ]))
  (λ_ _ _=>Hk (eD (am fJ hr ⋯ rfl %[1,2,0|aQ])) (pv 0)))
  (ae (ay (aI aG rfl hlen zB1 %[2|aQ])))),?_⟩
 let en:((ns.map V.str).length:Int)=(ns.length:Int):=by rw[zF0]
 erw[0,a,0,hN.seq,0,3,3,λr H1 r0 S1 R1=>?_];rw[en]at R1;let e2:((ns.length:Int)).toNat=ns.length:=#[0]
 rw[e2]at R1;erw[rs,hrs,TS]at R1;let rl:=TS.length;let sl:=iU ns.length;let s64:=oG nl;erw[r,1,%[_|zG0 hrs],λD hD=>?_];apply ik (K:=K) (xs:=rs) (λi H'=>∃ys,H' D=some (.lst ys)/\ys.length=(((cI ns.length).take i).filter λst=>t.holds ns st).length/\Same H1 H') %[[],aP,1|zC0 hD _] (λi H' _ Na=>by erw[_,_,_,h]at Na;exact zG0 (h _ _ hrs)) ?_ ?_
 . rintro i x H2 hx ⟨ys,hl,yl,S2⟩;let hi:i<rs.length:=(zY0 hx).1;let TS2:=TS.mono (bh S2);let%[st,Na,b,1|hb]:=TS2.get hx;let stl:=dL _ _ (qD0 Na);let S02:=S1.trans S2;let tk:((cI ns.length).take (i+1)).filter (λst=>t.holds ns st)=((cI ns.length).take i).filter (λst=>t.holds ns st)++[st].filter (λst=>t.holds ns st):=by
    rw[qB0,Na,List.filter_append];rfl
   erw[0,0,0,v,t,a,b,ns,st,1,T.mono (bh S02),ok,dp,hN.same S02,hb,stl,0,6];cases c:t.holds ns st with
   |true=>
     apply dU ?_;erw[0,ys,hl,6,Nx.of hi %[_,aP,6|λb' o e=>?_]]
     . have:=List.length_filter_le (λst=>t.holds ns st) ((cI ns.length).take i)
       rw[qF0]at this;exact aO #[0]
     . rw [tk,zL0,zL0,yl]
       simp [c]
     . rw[aE (aZ e hD)];exact S2 _ _ e
   |false=>
     apply cM ?_;apply Nx.of hi %[ys,hl,6|S2];rw[tk,zL0,yl]
     simp [c]
 . rintro H2 ⟨ys,hl,yl,S2⟩;let e3:rs.length=(cI ns.length).length:=rl;rw[e3,zZ0]at yl;erw[0,D,0,.inl (zG0 hl),6];rw[yl];exact q H2 (S1.trans S2)
instance spCounts(C:Addr):∀(g a b d:Addr)(ns:List Str)(tv:List V)(ts:List Tr)(p:Int),vs=[.ref g]->GameAt C H g a b d p->H a=some (.tup (ns.map V.str))->ns.length<=6->H b=some (.tup tv)->TreesAt H tv ts->ts.length<=10->(∀t∈ts,t.ok ns/\t.depth<=12)->(∀(l:Addr)(H':Hp),H l=none->Same H H'->H' l=some (.lst ((ts.map λt=>(cnt t ns:Int)).map V.int))->Q (.ref l) H'):=1
def uq:FnScope WF WF (ao kG):=%[|5]
def va(F:#["counts_of",kG])(T:GTxt K mg C)(l8:#[15,"count_of",Wl,spCount]):#[16,f,fd,WF,spCounts C]:=by
 exists uq
 erw[g,a,b,d,ns,tv,ts,p,1,%[dx|hg],ha,nl,hb,TS,t10,tok,q]at h;refine⟨_,(ae (ay (cw (N:=WF) (ix:=[0]) rfl
  #[3] rfl
  (eF (aF (pv 0) rfl)) (λ_ _ _=>cF (am l8 hr ⋯ rfl %[0,lp K (pv 1)|aQ]))))),?_⟩
 let vl:=TS.length;erw[0,g,C,dx,_,0,hg,9,T.nT,lK ..,b,1,%[_|zA0 hb],λD hD=>?_];apply dJ (K:=K) (xs:=tv) (λi H'=>H' D=some (.lst (((ts.take i).map λt=>(cnt t ns:Int)).map V.int))/\Same H H') %[by rw[aP];rfl|zC0 hD _] (λi H' _ h=>zA0 (h.2 _ _ hb)) ?_ ?_
 . rintro i z H2 hz ⟨hl,S2⟩;let%[t,ht|Tt]:=TS.get hz;let%[tk|td]:=tok t (qD0 ht);let hi:i<tv.length:=(zY0 hz).1;erw[0,0,g,C,dx,_,0,S2 _ _ hg,9,T.nS,ny ..,z,t,a,ns,1,Tt.mono (bh S2),tk,td,.inr (S2 _ _ ha),nl,λH3 S3=>?_];erw[_,S3 _ _ hl,6,Nx.of hi %[6|λb' o' e'=>?_]]
   . rw[zF0,zF0,qF0];exact aO #[0]
   . rw[aP,qB0,ht,zK0,zK0];rfl
   . rw[aE (aZ e' hD)];exact S3 _ _ (S2 _ _ e')
 . rintro H2 ⟨hl,S2⟩;rw[vl,zZ0]at hl;exact q D H2 hD S2 hl
def ia(s:Int):List Int->Int
 | []=>0
 |a::r=>a+s*ia s r
def kO(s p:Int):∀ns,hor s p ns=ia s ns % p
 | []=>(Int.zero_emod p).symm
 |a::r=>by
   show(hor s p r*s+a) % p=(a+s*ia s r) % p;rw[kO s p r,wP0,jY1,wD0,←jY1,←wP0,jN0,Int.add_comm]
def kf:∀(n:Nat)(s:List Int),s∈cI n->∀x∈s,x=0∨x=1
 |0,s,h,x,hx=>by
   have:s=[]:=by simpa [cI]using h
   subst this;cases hx
 |n+1,s,h,x,hx=>by
   rw[cI,List.mem_flatMap]at h;erw[t,ht,hs]at h
   simp at hs
   rcases hs with rfl | rfl
   . rcases qH0 hx with h | h
     . exact kf n t ht x h
     . exact .inl (Nd h)
   . rcases qH0 hx with h | h
     . exact kf n t ht x h
     . exact .inr (Nd h)
def pY{K:W.Frag}{H1:Hp}{a b:Addr}{xs ys:List Int}{Q:VK}(ha:H1 a=some (.tup (xs.map V.int)))(hb:H1 b=some (.tup (ys.map V.int)))(hl:xs.length+ys.length<=100)
 (q:∀t H2,Same H1 H2->H2 t=some (.tup ((xs++ys).map V.int))->Q (.ref t) H2):rCatT K (.ref a) (.ref b) H1 Q∨rCatT0 K (.ref a) (.ref b) H1 Q:=by
 cases xs with
 |nil=>exact .inr %[a,b,0,1,zA0 ha,zA0 hb|q b H1 (Same.refl _) hb]
 |cons x r=>
   refine .inl %[a,b,2,zA0 ha,zA0 hb,by simp,cH (by simp at hl ⊢;omega),(λz=>?_)|(λ_ t ht=>q t _ (zC0 ht _) ?_)]
   . cases ys with
     |nil=>
       apply q a H1 (Same.refl _) ?_;rw[qI1];exact ha
     |cons y r2=>exact nomatch z
   . rw[aP,zK0]
def cQ(ns:List Str)(ts:List Tr)(s p:Int)(pt:List Int):Int:=((cI (ns.length-pt.length)).map λst=>ia s (ts.map λt=>t.worth ns (pt++st) p)).sum % p
def ub{α:Type}(p:Int)(f:α->Int):∀l:List α,(l.map λx=>f x % p).sum % p=(l.map f).sum % p
 | []=>rfl
 |a::r=>by
   rw[qC0,qC0,zP1,zP1,wP0,wD0,ub p f r,←wP0]
def zj{α:Type}{p:Int}(hp:0<p)(f:α->Int)(h:∀x,0<=f x/\f x<p):∀l:List α,0<=(l.map f).sum/\(l.map f).sum<=p*l.length
 | []=>%[zT1 0|by simp]
 |a::r=>by
   let h1:=h a;let h2:=zj hp f h r;rw[qC0,zP1,zR0];erw[3,6]
   have:p*((r.length+1:Nat):Int)=p*(r.length:Int)+p:=by
    rw[wJ0,Int.mul_add]
    simp
   omega
def qR(h:bJ a p)(h2:bJ b p):bJ (a++b) p:=λx hx=>by
 rcases qH0 hx with e | e
 . exact h x e
 . exact h2 x e
def pt01{b:List Int}(h:bJ a p)(p1:1<p)(h2:∀x∈b,x=0∨x=1):bJ (a++b) p:=qR h λx hx=>by rcases h2 x hx with e | e <;> omega
def Iw{n k:Nat}(h:k<=n)(h6:n<=6):0<=(n:Int)-k/\(n:Int)-k<=6/\((n:Int)-k).toNat=n-k:=#[0]
def pS{X:Cx}(K:W.Frag)(hK:X.K=K:=by rfl):OpR X (binaryOp .Add) (λx y H Q=>rCatT K x y H Q∨rCatT0 K x y H Q):=by subst hK;exact op_catT.or iZ
def wZ{ts:List Tr}(h0:ts≠[]):0<=aV ts x:=by
 have:=jb (ns:=ts.map λt=>(t.names.count x:Int)) #[h0,0]
 let%[t,ht|e]:=List.mem_map.mp this;unfold aV;rw[←e];exact Int.natCast_nonneg _
def eZ(ns:List Str)(ts:List Tr)(s p:Int)(cs:List Int)(n:Nat):List Int:=(List.range n).map λk:Nat=>cQ ns ts s p (cs++[(k:Int)])
def HJ{d:Int}{i:Nat}(hi:i<(d+1).toNat)(h:d<=500):((eZ ns ts s p cs i).map V.int).length<sizeLine:=by
 unfold eZ;rw[zF0,zF0,qR0];exact aO #[0]
def ptI{d:Int}{i:Nat}(h:bJ a p)(hi:i<(d+1).toNat)(hd:d<p):bJ (a++[(i:Int)]) p:=qR h λx hx=>by
 rw[Nd hx];omega
def cat1{n k:Nat}(h:n<k)(h6:k<=6):n+([(0:Int)]:List Int).length<=100/\n+1<=k:=by
 rw[qL0];omega
def s64{n k:Nat}(h6:n<=6):(cI (n-(k+1))).length<=64:=by
 let s64:=iU (n-(k+1));let p64:=oG (n:=n-(k+1)) #[0];omega
def HI{α:Type}{f:α->Int}{l:List α}{j:Nat}(h:l.length<=64):(((l.take j).map f).map V.int).length<sizeLine:=by
 rw[zF0,zF0,qF0];exact aO #[0]
def sum63{p x:Int}{n:Nat}(p0:0<p)(p40:p<2 ^ 40)(h:n<=64)(hx:x<=p*(n:Int)):x<2 ^ 63:=by
 have:p*(n:Int)<=p*64:=qX0 #[0] #[0]
 omega
def Fg{K:W.Frag}{Q:VK}(h:IntsAt H c cs)(q:∀ah H1,Same H H1->H1 ah=some (.tup (cs.map V.int))->Q (.ref ah) H1):rTupOf K [.ref c] H Q:=by
 rcases h with h | h
 . erw[c,0,.inl %[zG0 h|λl hl=>q l _ (zC0 hl _) aP]]
 . erw[c,0,.inr %[zA0 h|q c H (λ_ _ e=>e) h]]
instance spTrue(C:Addr):∀(g a b d c:Addr)(ns:List Str)(tv:List V)(ts:List Tr)(cs:List Int)(x:Str)(s p:Int),vs=[.ref g,.int s,.ref c]->GameAt C H g a b d p->H a=some (.tup (ns.map V.str))->ns.length<=6->H b=some (.tup tv)->TreesAt H tv ts->ts≠[]->ts.length<=10->(∀t∈ts,t.ok ns/\t.depth<=10)->H d=some (.lst ((ns.map (aV ts)).map V.int))->IntsAt H c cs->ns[cs.length]?=some x->aV ts x<p->aV ts x<=500->bJ cs p->1<p->p<2 ^ 40->(∀(l:Addr)(H':Hp),H l=none->Same H H'->H' l=some (.lst ((eZ ns ts s p cs (aV ts x+1).toNat).map V.int))->Q (.ref l) H'):=1
def dA:FnScope ["game","s","coins","ahead","switch","behind","row","x","worths"] ["game","s","coins"] (ao lT):=%[|5]
def wb(F:#["true_row",lT])(B:Bl mg)(T:GTxt K mg C)(mW:Meth K C "worth_at" fW)(GW:#[13,fW,fdW,WO,spWAt C])(bW:Binds K fdW WO [])(dj:#[1,"all_settings",["n"],spSetts]):#[14,f,fd,["game","s","coins"],spTrue C]:=by
 exists dA
 erw[g,a,b,d,c,ns,tv,ts,cs,x,s,p,1,%[dx|hg],ha,nl,hb,TS,tne,t10,tok,hd,hc,hx,dp,d500,po,p1,p40,q]at h;refine⟨_,(aa (aj (i:=3) dA.nd rfl (Or.inr rfl) (bd bj rfl B.tuple bw %[2|aQ]))
  (aa #[aj,4,dA,aI aG rfl B.len zB1 %[3|aQ]]
  (aa #[aj,5,dA,am dj hr ⋯ rfl %[au bi (au bi (aI aG rfl B.len zB1 %[aF (pv 0) rfl|aQ]) (pv 4)) af|aQ]]
  (aa #[aj,6,dA,cS aQ]
  (aa (cu zF1 rfl (cr rfl B.range %[au aS (aN ix_list (aF (pv 0) rfl) (pv 4) #[1]) af|aQ]) (aU (i:=7) dA.nd rfl (Or.inr rfl)) (aa (mX (i:=8) (N:=["x","s","game","ahead"]) (ix:=[7,1,0,3]) dA.nd rfl (.inl rfl) rfl
   (CompScope.four (by rfl') ⋯ rfl ⋯ rfl ⋯ rfl (by rfl') (by rfl') (by rfl') (by rfl') (by rfl') (by rfl') rfl rfl (by rfl') rfl rfl (by rfl') rfl rfl (by rfl') rfl rfl) rfl
   (dR (pv 5)) (λ_ _ _=>cF (bQ (pv 3) T.cl mW GW hr bW .nil bn %[au (pS K) (au (pS K) (pv 4) (aM %[1|aQ])) (pv 0),2|aQ])))
   (ae (aW (dC zE1 zH1 zI1 cf (pv 6) %[au bb (aI (nV rfl) rfl B.sum jH0 %[8|aQ]) (aF (pv 0) rfl)|aQ])))))
  (ae (ay (pv 6)))))))),?_⟩
 let kl:cs.length<ns.length:=(zY0 hx).1;let d0:=wZ (x:=x) tne;let p0:0<p:=Int.lt_trans Int.zero_lt_one p1;erw[0,Fg hc λah H1 G1 hah1=>?_];erw[0,ah,0,.inr (zA0 hah1),6];erw[0,g,C,dx,_,0,G1 _ _ hg,9,T.nS,ny ..,a,0,.inr (zA0 (G1 _ _ ha)),0,2,2,0,by rw[zF0,zF0];omega,by rw[zF0,zF0];omega,λr H2 r0 S2 R2=>?_];let en:((((ns.map V.str).length:Nat):Int)-(((cs.map V.int).length:Nat):Int)-1).toNat=ns.length-(cs.length+1):=by rw[zF0,zF0];omega
 rw[en]at R2;erw[rs,hrs,TB]at R2;let rl:=TB.length;erw[y0S,λL hL=>?_];let S02:=G1.trans S2;let GL:=zC0 hL (.lst []);let S03:=S02.trans GL;let L0:H L=none:=S02.free hL;let e1:(((cs.map V.int).length:Nat):Int)=(cs.length:Int):=by rw[zF0]
 erw[0,g,C,dx,_,0,S03 _ _ hg,9,T.nD,zI ..,0,d,_,_,.int (aV ts x),1,1,zG0 (S03 _ _ hd),6,2,0,3,3,eK (λi σ H'=>∃x7 x8:Option V,σ=[some (.ref g),some (.int s),some (.ref c),some (.ref ah),some (.int (((cs.map V.int).length:Nat):Int)),some (.ref r),some (.ref L),x7,x8]/\H' L=some (.lst ((eZ ns ts s p cs i).map V.int))/\SameBut L H2 H') %[_,0,by rw[aP];rfl|SameBut.upd _] ?_ ?_]
 . rw[e1];apply bv ?_;rw[zW0,zW0,hx];rfl
 . rintro i σ H4 hi ⟨x7,x8,rfl,hL4,S4⟩;let gL:g≠L:=aZ (S02 _ _ hg) hL;let rL:r≠L:=aZ hrs hL;let kT:bZ H2 H4:=λc xs h=>S4 c _ (aZ h hL) h
   let hg4:=S4 g _ gL (S02 _ _ hg);let hrs4:=S4 r _ rL hrs;let ha4:=kT _ _ (S02 _ _ ha);let hb4:=kT _ _ (S02 _ _ hb);let hah4:=kT _ _ (S2 _ _ hah1);let TS4:=(TS.mono (bh S02)).mono kT;let TB4:=TB.mono kT;erw[0,r,1,%[_|zG0 hrs4],λD hD=>?_];apply ik (K:=K) (xs:=rs) (λj H'=>H' D=some (.lst ((((cI (ns.length-(cs.length+1))).take j).map λst=>hor s p (ts.map λt=>t.worth ns (cs++[(i:Int)]++st) p)).map V.int))/\Same H4 H') %[by rw[aP];rfl|zC0 hD _] (λj H' _ h=>zG0 (h.2 _ _ hrs4)) ?_ ?_
   . rintro j z H5 hz ⟨hD5,S5⟩;let%[st,Na,y,1|hy]:=(TB4.mono (bh S5)).get hz;let stm:=qD0 Na;let stl:=dL _ _ stm;let s01:=kf _ _ stm;let hj:j<rs.length:=(zY0 hz).1;let po2:bJ (cs++[(i:Int)]++st) p:=pt01 (ptI po hi dp) p1 s01;let pl2:(cs++[(i:Int)]++st).length=ns.length:=by rw[zL0,zL0,qL0];omega
     erw[0,g,dx,0,S5 _ _ hg4,tJ _ _ _ _ ⋯ ⋯ ⋯ ⋯,6];erw[0,0,y1S,λu hu=>?_];let Gu:=zC0 hu (.tup [.int (0+(i:Int))]);let hu6:upd H5 u (.tup [.int (0+(i:Int))]) u=some (.tup ([(i:Int)].map V.int)):=by rw[aP,jG1];rfl
     generalize upd H5 u (.tup [.int (0+(i:Int))])=H6 at Gu hu6;apply pY (Gu _ _ (S5 _ _ hah4)) hu6 (cat1 kl nl).1 λt1 H7 S7 h7=>?_
     erw[0,6];let S57:=Gu.trans S7;apply pY h7 (S57 _ _ hy) (by rw[zL0,qL0];omega) λt2 H8 S8 h8=>?_
     let S48:=S5.trans (S57.trans S8);erw[0,g,a,b,d,t2,ns,tv,ts,_,s,p,1,%[dx|S48 _ _ hg4],p1,p40,S48 _ _ ha4,S48 _ _ hb4,TS4.mono (bh S48),t10,tok,h8,pl2,po2,λH9 S9=>?_];erw[_,S9 _ _ ((S57.trans S8) _ _ hD5),6,Nx.of hj %[6|λb' o' e'=>?_]]
     . exact HI (s64 nl)
     . rw[aP,qB0,Na,zK0,zK0];rfl
     . rw[aE (aZ e' hD)];exact S9 _ _ (S48 _ _ e')
   rintro H5 ⟨hD5,S5⟩;rw[rl,zZ0]at hD5;let hor_r:=λst:List Int=>jN (s:=s) (p:=p) p0 (ts.map λt=>t.worth ns (cs++[(i:Int)]++st) p)
   let sr:=zj (p:=p) p0 (λst:List Int=>hor s p (ts.map λt=>t.worth ns (cs++[(i:Int)]++st) p)) hor_r (cI (ns.length-(cs.length+1)));let hL5:=S5 _ _ hL4;erw[0,.inl %[1,_|zG0 hL5],0,D,0,zG0 hD5,6,6,6]
   . intro n hn;let%[st,_|1]:=List.mem_map.mp hn;exact(hor_r st).1
   . exact sum63 p0 p40 (s64 nl) sr.2
   erw[0,g,C,dx,_,0,S5 _ _ hg4,9,T.nF,iI ..,2,p0,L,2,hL5,6,6]
   . exact HJ hi d500
   . erw[_,0,6,λc o hc e=>?_]
     . rw [aP];unfold eZ;rw[qJ1,zK0,zK0];let e2:((cI (ns.length-(cs.length+1))).map λst=>hor s p (ts.map λt=>t.worth ns (cs++[(i:Int)]++st) p)).sum % p=cQ ns ts s p (cs++[(i:Int)]):=by
        unfold cQ;rw[zL0,qL0,show(λst:List Int=>hor s p (ts.map λt=>t.worth ns (cs++[(i:Int)]++st) p))=λst=>ia s (ts.map λt=>t.worth ns (cs++[(i:Int)]++st) p) % p from funext λst=>kO _ _ _];exact ub p (λst:List Int=>ia s (ts.map λt=>t.worth ns (cs++[(i:Int)]++st) p)) _
       show some (HO.lst (_++[V.int (((cI (ns.length-(cs.length+1))).map λst=>hor s p (ts.map λt=>t.worth ns (cs++[(i:Int)]++st) p)).sum % p)]))=_;rw[e2];rfl
     . rw[aE hc];exact S5 _ _ (S4 c o hc e)
 . rintro σ H4 ⟨x7,x8,rfl,hL4,S4⟩;erw[0,q L H4 L0 (S02.but L0 S4) hL4]
def neS{a b:Str}(h:¬ a=b):¬ V.str a=V.str b:=λz=>h (V.str.inj z)
open Classical in
def IE(p a:Int):Int:=if h:∃g:Int,0<g/\g<p/\g*a % p=1 then h.choose else 0
def Es{p a g k:Int}(g0:0<g)(g1:g<p)(hg:g*a % p=1)(k0:0<k)(k1:k<p)(hk:k*a % p=1):g=k:=by
 let e1:g*(k*a) % p=g:=by
  rw[jY1,hk,wV0,wD0,qU0 #[0] g1]
 let e2:k*(g*a) % p=k:=by
  rw[jY1,hg,wV0,wD0,qU0 #[0] k1]
 let e3:g*(k*a) % p=k*(g*a) % p:=by rw[Int.mul_left_comm]
 exact e1.symm.trans (e3.trans e2)
def GF{p a g:Int}(g0:0<g)(g1:g<p)(hg:g*a % p=1):IE p a=g:=by
 let h:∃g:Int,0<g/\g<p/\g*a % p=1:=%[g,g0,g1|hg]
 unfold IE;rw[dif_pos h];erw[k0,k1,hk]at h.choose_spec;exact Es k0 k1 hk g0 g1 hg
def yT(p x y:Int):Int:=if y=0 then 0 else x*IE p y % p
def opV(p:Int)(s:Str)(x y:Int):Int:=
 if s="+" then(x+y) % p else if s="-" then(x-y) % p else if s="*" then x*y % p else if s="/" then yT p x y else if s="=" then(if x=y then 1 else 0)else if x<y then 1 else 0
def EN{p:Int}(hp:0<p):0<=yT p x y/\yT p x y<p:=by
 unfold yT
 split
 . omega
 . erw[qG0 _ #[0],qI0 _ hp]
def FU{p:Int}(hp:1<p):0<=opV p s x y/\opV p s x y<p:=by
 let m:∀z:Int,0<=z % p/\z % p<p:=λz=>%[qG0 _ #[0]|qI0 _ #[0]]
 unfold opV
 split
 . exact m _
 . split
   . exact m _
   . split
     . exact m _
     . split
       . exact EN #[0]
       . split <;> split <;> omega
instance spDiv:∀(x y p:Int),vs=[.int x,.int y,.int p]->Pr p->p<=999983->0<=x->x<p->0<=y->y<p->Q (.int (yT p x y)) H:=1
def xS:FnScope Wm Wm (ao oB):=%[|5]
def yr(F:#["divided",oB])(d8:#[1,"inverse_of",["a","p"],spInv]):#[2,f,fd,Wm,spDiv]:=by
 exists xS
 erw[x,y,p,1,pp,p9,x0,x1,y0,y1,q]at h;refine⟨_,(aa (aJ (ai aR (pv 1) af (ax _)) (ae (ay af)) aB)
  (ae (ay (au bb (au ci (pv 0) (am d8 hr ⋯ rfl %[1,2|aQ])) (pv 2))))),?_⟩
 unfold yT at q;erw[0,1,0,6]
 by_cases c:y=0
 . rw[M8 c]at q;exact aX (congrArg V.int c) q
 . rw[M6 c]at q;apply aD (λz=>c (V.int.inj z)) ?_;erw[0,0,0,y,p,1,pp,p9,3,y1,λg g0 g1 hg=>?_];rw[GF g0 g1 hg]at q;erw[2,.inl %[3|3],0,2,(by show 0<p;omega),q]
def signW:List Str:=["+","-","*","/","=","<"]
instance spOp:∀(s:Str)(x y p:Int),vs=[.str s,.int x,.int y,.int p]->s∈signW->Pr p->p<=999983->0<=x->x<p->0<=y->y<p->Q (.int (opV p s x y)) H:=1
def vQ:FnScope Wc Wc (ao lX):=%[|5]
def opV_1:opV p "+" x y=(x+y) % p:=M8 rfl
def opV_2:opV p "-" x y=(x-y) % p:=by unfold opV;rw[M6 ⋯,M8 rfl]
def opV_3:opV p "*" x y=x*y % p:=by unfold opV;rw[M6 ⋯,M6 ⋯,M8 rfl]
def opV_4:opV p "/" x y=yT p x y:=by unfold opV;rw[M6 ⋯,M6 ⋯,M6 ⋯,M8 rfl]
def opV_5:opV p "=" x y=if x=y then 1 else 0:=by unfold opV;rw[M6 ⋯,M6 ⋯,M6 ⋯,M6 ⋯,M8 rfl]
def opV_6:opV p "<" x y=if x<y then 1 else 0:=by unfold opV;rw[M6 ⋯,M6 ⋯,M6 ⋯,M6 ⋯,M6 ⋯]
def wk(F:#["op_value",lX])(o8:#[2,"divided",Wm,spDiv]):#[3,f,fd,Wc,spOp]:=by
 exists vQ
 erw[s,x,y,p,1,hs,pp,p9,x0,x1,y0,y1,q]at h;let p0:0<p:=#[0]
 refine⟨_,(aa (aJ (ai aR (pv 0) aq (ax _)) (ae (ay (au bb (au aS (pv 1) (pv 2)) (pv 3)))) aB)
  (aa (aJ (ai aR (pv 0) aq (ax _)) (ae (ay (au bb (au bi (pv 1) (pv 2)) (pv 3)))) aB)
  (aa (aJ (ai aR (pv 0) aq (ax _)) (ae (ay (au bb (au ci (pv 1) (pv 2)) (pv 3)))) aB)
  (aa (aJ (ai aR (pv 0) aq (ax _)) (ae (ay (am o8 hr ⋯ rfl %[1,2,3|aQ]))) aB)
  (aa (aJ (ai aR (pv 0) aq (ax _)) (ae (ay (ng (ai aR (pv 1) (pv 2) (ax _)) af af))) aB)
  (ae (ay (ng (ai dG (pv 1) (pv 2) (ax _)) af af)))))))),?_⟩
 let hs':s="+"∨s="-"∨s="*"∨s="/"∨s="="∨s="<":=by simpa [signW]using hs
 rcases hs' with rfl | rfl | rfl | rfl | rfl | rfl
 . rw[opV_1]at q;erw[0,1,0,aX rfl ?_];erw[0,0,2,0,2,p0,q]
 . rw[opV_2]at q;erw[0,1,0,7];erw[0,1,0,aX rfl ?_];erw[0,0,2,0,2,p0,q]
 . rw[opV_3]at q;erw[0,1,0,7];erw[0,1,0,7];erw[0,1,0,aX rfl ?_];erw[0,0,2,.inl %[3|3],0,2,p0,q]
 . rw[opV_4]at q;erw[0,1,0,7];erw[0,1,0,7];erw[0,1,0,7];erw[0,1,0,aX rfl ?_];erw[0,0,0,x,y,p,1,pp,p9,x0,x1,y0,y1,q]
 . rw [opV_5]at q;erw[0,1,0,7];erw[0,1,0,7];erw[0,1,0,7];erw[0,1,0,7];erw[0,1,0,aX rfl ?_];erw[0,0,1,0,6]
   by_cases c:x=y
   . rw[M8 c]at q;exact aX (congrArg V.int c) q
   . rw[M6 c]at q;exact aD (λz=>c (V.int.inj z)) q
 . rw [opV_6]at q;erw[0,1,0,7];erw[0,1,0,7];erw[0,1,0,7];erw[0,1,0,7];erw[0,1,0,7];erw[0,0,2,0,6]
   by_cases c:x<y
   . rw[M8 c]at q;exact aX c q
   . rw[M6 c]at q;exact aD c q
def cK{t':TS}(h:PSs X ss t)(hw:∀D σ H,t' D σ H->t D σ H):PSs X ss t':=λM5 s σ H D I k=>h M5 s σ H D I (hw _ _ _ k)
inductive Tm where
 |num (n:Int) | box (x:Str) | plain (w:Str) | ask (w:Str) (a:Tm) | op (s:Str) (a b:Tm)
def Tm.size:Tm->Nat
 |.num _=>1 | .box _=>1 | .plain _=>1 | .ask _ a=>a.size+1 | .op _ a b=>a.size+b.size+1
def Tm.depth:Tm->Nat
 |.num _=>1 | .box _=>1 | .plain _=>1 | .ask _ a=>a.depth+1 | .op _ a b=>max a.depth b.depth+1
def Tm.depth_pos:∀t:Tm,1<=t.depth
 |.num _=>zH0 _ | .box _=>zH0 _ | .plain _=>zH0 _ | .ask _ a=>jF1 .. | .op _ a b=>jF1 ..
def Tm.size_pos:∀t:Tm,1<=t.size
 |.num _=>zH0 _ | .box _=>zH0 _ | .plain _=>zH0 _ | .ask _ a=>jF1 .. | .op _ a b=>jF1 ..
def plainW:List Str:=["round","due","asked"]
def askW:List Str:=["coin","true"]
inductive TmAt(H:Hp):V->Tm->Prop
 |num {a:Addr} {n:Int}:H a=some (.tup [.str "num",.int n])->TmAt H (.ref a) (.num n)
 |box {a:Addr} {x:Str}:H a=some (.tup [.str "box",.str x])->TmAt H (.ref a) (.box x)
 |plain {a:Addr} {w:Str}:H a=some (.tup [.str w])->TmAt H (.ref a) (.plain w)
 |ask {a:Addr} {w:Str} {v:V} {t:Tm}:H a=some (.tup [.str w,v])->TmAt H v t->TmAt H (.ref a) (.ask w t)
 |op {a:Addr} {s:Str} {v u:V} {t r:Tm}:H a=some (.tup [.str "op",.str s,v,u])->TmAt H v t->TmAt H u r->TmAt H (.ref a) (.op s t r)
def TmAt.mono(k:bZ H H')(h:TmAt H v t):TmAt H' v t:=by
 induction h with
 |num e=>exact .num (k _ _ e)
 |box e=>exact .box (k _ _ e)
 |plain e=>exact .plain (k _ _ e)
 |ask e _ ih=>exact .ask (k _ _ e) ih
 |op e _ _ i1 i2=>exact .op (k _ _ e) i1 i2
inductive Hr where
 |fin | go (n:Int) | iff (t:Tm) (n:Int) | set (x:Str) (t:Tm) | say (t:Tm)
inductive HrAt(H:Hp):V->Hr->Prop
 |fin {a:Addr}:H a=some (.tup [.str "end"])->HrAt H (.ref a) .fin
 |go {a:Addr} {n:Int}:H a=some (.tup [.str "go",.int n])->HrAt H (.ref a) (.go n)
 |iff {a:Addr} {v:V} {t:Tm} {n:Int}:H a=some (.tup [.str "if",v,.int n])->TmAt H v t->HrAt H (.ref a) (.iff t n)
 |set {a:Addr} {x:Str} {v:V} {t:Tm}:H a=some (.tup [.str "set",.str x,v])->TmAt H v t->HrAt H (.ref a) (.set x t)
 |say {a:Addr} {v:V} {t:Tm}:H a=some (.tup [.str "say",v])->TmAt H v t->HrAt H (.ref a) (.say t)
def HrAt.mono(k:bZ H H')(h:HrAt H v r):HrAt H' v r:=by
 cases h with
 |fin e=>exact .fin (k _ _ e)
 |go e=>exact .go (k _ _ e)
 |iff e t=>exact .iff (k _ _ e) (t.mono k)
 |set e t=>exact .set (k _ _ e) (t.mono k)
 |say e t=>exact .say (k _ _ e) (t.mono k)
section
variable {CM CA CG:Addr}
abbrev uI:Stmt:=bu kI 0
abbrev qN:Stmt:=bu kI 1
abbrev uJ:Stmt:=bu kI 2
abbrev oE:Stmt:=bu kI 3
abbrev uH:Stmt:=bu kI 4
abbrev uz:Stmt:=bu ow 0
abbrev xW:Stmt:=bu ow 1
abbrev xX:Stmt:=bu ow 2
def al(g:Addr)(nr mn hd s:Int)(aT:Addr)(tr:V):List (Str×V):=[("game",.ref g),("number",.int nr),("many",.int mn),("held",.int hd),("s",.int s),("tossed",.ref aT),("truths",tr)]
def vD:(al g nr mn hd s aT tr).lookup ("game":Str)=some (.ref g):=by rfl'
structure ATxt(K:W.Frag)(mg:#[9])(C:Addr):Prop where
 cl:Cls K C
 nG:NoAttr K C "game"
 nN:NoAttr K C "number"
 nM:NoAttr K C "many"
 nH:NoAttr K C "held"
 nS:NoAttr K C "s"
 nT:NoAttr K C "tossed"
 nR:NoAttr K C "truths"
 mgC:mg "Asking"=some (.ref C)
def ml(g h:Addr)(r:Int)(b:Addr):List (Str×V):=[("game",.ref g),("helper",.ref h),("next_round",.int r),("boxes",.ref b)]
section
variable {g h b:Addr}{r:Int}
def ml_g:(ml g h r b).lookup ("game":Str)=some (.ref g):=by rfl'
def Ir:(ml g h r b).lookup ("helper":Str)=some (.ref h):=by rfl'
def ml_r:(ml g h r b).lookup ("next_round":Str)=some (.int r):=by rfl'
def Gq:(ml g h r b).lookup ("boxes":Str)=some (.ref b):=by rfl'
def ml_n1:(ml g h r b).lookup ("do_row":Str)=none:=by rfl'
def ml_n2:(ml g h r b).lookup ("say":Str)=none:=by rfl'
def Io:(ml g h r b).length<1000:=by show 4<1000;decide
def Im{v:Int}:bV "next_round" (.int v) (ml g h r b)=ml g h v b:=by rfl'
end
structure MTxt(K:W.Frag)(mg:#[9])(C:Addr):Prop where
 cl:Cls K C
 nG:NoAttr K C "game"
 nH:NoAttr K C "helper"
 nR:NoAttr K C "next_round"
 nB:NoAttr K C "boxes"
 mgC:mg "Machine"=some (.ref C)
def BxAt(H:Hp)(b:Addr)(bx:Str->Int)(m:Nat):Prop:=∃M7:List (Key×V),H b=some (.dK M7)/\M7.length<=m/\∀x:Str,(gX M7 (.inr x)).getD (.int 0)=.int (bx x)
def jW(bx:Str->Int)(x:Str)(n:Int):Str->Int:=λy=>if y=x then n else bx y
def BxAt.keep{H':Hp}(h:BxAt H b bx m)(k:∀o,H b=some o->H' b=some o):BxAt H' b bx m:=by
 erw[M7,e,r]at h;erw[M7,k _ e,r]
def Jd{M7:List (Key×V)}{bx:Str->Int}(x:Str)(n:Int)(h:∀x:Str,(gX M7 (.inr x)).getD (.int 0)=.int (bx x)):∀y:Str,(gX (jF M7 (.inr x) (.int n)) (.inr y)).getD (.int 0)=.int (jW bx x n y):=λy=>by
 rw[Ce];unfold jW
 by_cases c:y=x
 . rw[M8 (by rw[c]),M8 c];rfl
 . rw[M6 (λz=>c (Sum.inr.inj z)),M6 c];exact h y
section
variable {g aT:Addr}{nr mn hd s:Int}{tr:V}
def Jh:(al g nr mn hd s aT tr).lookup ("number":Str)=some (.int nr):=by rfl'
def al_m:(al g nr mn hd s aT tr).lookup ("many":Str)=some (.int mn):=by rfl'
def al_h:(al g nr mn hd s aT tr).lookup ("held":Str)=some (.int hd):=by rfl'
def al_s:(al g nr mn hd s aT tr).lookup ("s":Str)=some (.int s):=by rfl'
def al_t:(al g nr mn hd s aT tr).lookup ("tossed":Str)=some (.ref aT):=by rfl'
def GZ:(al g nr mn hd s aT tr).lookup ("truths":Str)=some tr:=by rfl'
def al_n1:(al g nr mn hd s aT tr).lookup ("plain_value":Str)=none:=by rfl'
def al_n2:(al g nr mn hd s aT tr).lookup ("coin_at":Str)=none:=by rfl'
def al_n3:(al g nr mn hd s aT tr).lookup ("true_numbers":Str)=none:=by rfl'
def al_n4:(al g nr mn hd s aT tr).lookup ("true_at":Str)=none:=by rfl'
def EZ:bV "truths" v (al g nr mn hd s aT tr)=al g nr mn hd s aT v:=by rfl'
def Fa:(al g nr mn hd s aT tr).length<1000:=by show 7<1000;decide
end
structure Ak where
 ns:List Str
 ts:List Tr
 p:Int
 nr:Int
 mn:Int
 hd:Int
 s:Int
 to:List Int
def Ak.tru(z:Ak):List Int:=if z.nr=0 then z.ts.map (λt=>(cnt t z.ns:Int))else eZ z.ns z.ts z.s z.p z.to (aV z.ts (z.ns.getD z.to.length "")+1).toNat
structure AkOk(z:Ak):Prop where
 gk:GmK z.ns z.ts z.p
 n6:z.ns.length<=6
 nr0:0<=z.nr
 nrt:0<z.nr->z.to.length<z.ns.length
 po:bJ z.to z.p
 s0:0<=z.s
 s1:z.s<z.p
 h0:0<=z.hd
 h1:z.hd<z.p
 tl:z.to.length<=100
def AkAt(CA CG:Addr)(H:Hp)(k g v:Addr)(z:Ak):Prop:=∃(dk aT a b d:Addr)(tv:List V)(tr:V),H k=some (.ins CA dk (al g z.nr z.mn z.hd z.s aT tr))/\GameAt CG H g a b d z.p/\H a=some (.tup (z.ns.map V.str))/\H b=some (.tup tv)/\TreesAt H tv z.ts/\H d=some (.lst ((z.ns.map (aV z.ts)).map V.int))/\d≠v/\H aT=some (.tup (z.to.map V.int))/\(tr=.non∨∃l,tr=.ref l/\l≠v/\H l=some (.lst (z.tru.map V.int)))
def AkAt.same(h:AkAt CA CG H k g v z)(s:Same H H'):AkAt CA CG H' k g v z:=by
 erw[dk,aT,a,b,d,tv,tr,h1,h2,h3,h4,h5,h6,h7,h8,h9]at h;erw[dk,aT,a,b,d,tv,tr,s _ _ h1,h2.same s,s _ _ h3,s _ _ h4,h5.mono (bh s),s _ _ h6,h7,s _ _ h8,h9.imp_right fun⟨l,e,n,r⟩=>%[l,e,n|s _ _ r]]
def AkAt.but2{H':Hp}{b:Addr}{M7:List (Key×V)}{ys:List V}(h:AkAt CA CG H k g v z)(hb:H b=some (.dK M7))(hv:H v=some (.lst ys))(s:∀a o,a≠b->a≠v->H a=some o->H' a=some o):AkAt CA CG H' k g v z:=by
 erw[dk,aT,a,b',d,tv,tr,h1,%[dg|h2],h3,h4,h5,h6,h7,h8,h9]at h;let T:bZ H H':=λc xs e=>s _ _ (bz e hb nofun) (bz e hv nofun) e
 erw[dk,aT,a,b',d,tv,tr,s _ _ (bz h1 hb nofun) (bz h1 hv nofun) h1,%[dg|s _ _ (bz h2 hb nofun) (bz h2 hv nofun) h2],T _ _ h3,T _ _ h4,h5.mono T,s _ _ (bz h6 hb nofun) h7 h6,h7,T _ _ h8,h9.imp_right fun⟨l,e,n,r⟩=>%[l,e,n|s _ _ (bz r hb nofun) n r]]
def lN(z:Ak):List Int:=if 1<z.ts.length then z.s::z.to else z.to
def kW(z:Ak)(i:Int):Int:=if 1<=i/\i<=((lN z).length:Int)then(lN z).getD (i-1).toNat 0 else 0
def gK(z:Ak)(i:Int):Int:=if 0<z.nr then val z.p z.tru i else if i<(z.tru.length:Int)then z.tru.getD i.toNat 0 % z.p else 0
def oH(z:Ak)(w:Str):Int:=if w="round" then z.nr % z.p else if w="asked" then z.mn % z.p else z.hd
def AkOk.p0(k:AkOk z):2<z.p:=k.gk.p2
def nI(h:bJ xs p)(p0:0<p)(i:Nat):0<=xs.getD i 0/\xs.getD i 0<p:=by
 rw[qO0];cases e:xs[i]? with
 |none=>erw[zT1 0,p0]
 |some x=>exact h x (qD0 e)
def EV(k:AkOk z):bJ (lN z) z.p:=by
 unfold lN
 split
 . intro x hx;rcases Nf hx with rfl | hx
   . erw[k.s0,k.s1]
   . exact k.po x hx
 . exact k.po
def BT(k:AkOk z)(i:Int):0<=kW z i/\kW z i<z.p:=by
 have:=k.p0
 unfold kW
 split
 . exact nI (EV k) #[0] _
 . omega
def Ad(k:AkOk z)(i:Int):0<=gK z i/\gK z i<z.p:=by
 have:=k.p0
 unfold gK
 split
 . erw[qG0 _ #[0],qI0 _ #[0]]
 . split
   . erw[qG0 _ #[0],qI0 _ #[0]]
   . omega
def yf(k:AkOk z)(w:Str):0<=oH z w/\oH z w<z.p:=by
 have:=k.p0
 unfold oH
 split
 . erw[qG0 _ #[0],qI0 _ #[0]]
 . split
   . erw[qG0 _ #[0],qI0 _ #[0]]
   . erw[k.h0,k.h1]
instance spPlain(CA CG:Addr):∀(k g v:Addr)(z:Ak)(w:Str),vs=[.ref k,.str w]->AkAt CA CG H k g v z->0<z.p->Q (.int (oH z w)) H:=1
def Az:FnScope Wd Wd (ao qN):=%[|5]
def Bd(F:#["plain_value","Asking.plain_value",qN])(TA:ATxt K mg CA)(TG:GTxt K mg CG):#[1,f,fd,Wd,spPlain CA CG]:=by
 exists Az
 erw[k,g,v,z,w,1,%[dk,aT,a,b,d,tv,tr,hk,%[dg|hg]|_],p0,q]at h;refine⟨_,(aa (aJ (ai aR (pv 1) aq (ax _)) (ae (ay (au bb (aF (pv 0) rfl) (aF (aF (pv 0) rfl) rfl)))) aB)
  (aa (aJ (ai aR (pv 1) aq (ax _)) (ae (ay (au bb (aF (pv 0) rfl) (aF (aF (pv 0) rfl) rfl)))) aB)
  (ae (ay (aF (pv 0) rfl))))),?_⟩
 unfold oH at q;erw[0,1,0,6]
 by_cases c:w="round"
 . rw[M8 c]at q;apply aX (congrArg V.str c) ?_;erw[0,k,CA,dk,_,0,hk,TA.cl,TA.nN,Jh,0,k,CA,dk,_,0,hk,TA.cl,TA.nG,vD,g,CG,dg,_,0,hg,TG.cl,TG.nF,iI ..,2,p0,q]
 . rw [M6 c]at q;apply aD (neS c) ?_;erw[0,1,0,6]
   by_cases c:w="asked"
   . rw[M8 c]at q;apply aX (congrArg V.str c) ?_;erw[0,k,CA,dk,_,0,hk,TA.cl,TA.nM,al_m,0,k,CA,dk,_,0,hk,TA.cl,TA.nG,vD,g,CG,dg,_,0,hg,TG.cl,TG.nF,iI ..,2,p0,q]
   . rw[M6 c]at q;apply aD (neS c) ?_;erw[0,k,CA,dk,_,0,hk,TA.cl,TA.nH,al_h,q]
instance spCoinAt(CA CG:Addr):∀(k g v:Addr)(z:Ak)(i:Int),vs=[.ref k,.int i]->AkAt CA CG H k g v z->z.to.length<=100->(∀H',Same H H'->Q (.int (kW z i)) H'):=1
def y8:FnScope ["self","place","tossed"] WL (ao uJ):=%[|5]
instance tCoinE(z:Ak)(Dn:Ends)(σ:St)(H:Hp):∀(x0:Option V)(a:Addr)(i:Int),σ=[x0,some (.int i),some (.ref a)]->H a=some (.tup ((lN z).map V.int))->Dn.rt (.int (kW z i)) H:=0
def DU(F:#["coin_at","Asking.coin_at",uJ])(B:Bl mg)(TA:ATxt K mg CA)(TG:GTxt K mg CG):#[1,f,fd,WL,spCoinAt CA CG]:=by
 exists y8
 erw[k,g,v,z,i,1,%[dk,aT,a,b,d,tv,tr,hk,%[dg|hg],ha,hb,TS,_,_,hT|_],tl,q]at h;let vl:=TS.length;refine⟨_,(aa #[aj,2,y8,aF (pv 0) rfl]
  (aa (aJ (ai iy (aI aG rfl B.len zB1 %[aF (aF (pv 0) rfl) rfl|aQ]) af (ax _)) (ae #[aj,2,y8,au op_catT (aM %[aF (pv 0) rfl|aQ]) (pv 2)]) aB)
  (cK (t':=tCoinE z) (aa (aJ (vU tf tf af (pv 1) (aI aG rfl B.len zB1 %[2|aQ])) (ae (ay (aN ix_tup (pv 2) (au bi (pv 1) af) #[1]))) aB)
  (ae (ay af))) (by
   rintro Dn σ H ⟨x0,a,i,rfl,ha,q⟩;unfold kW at q;erw[0,2,0,6];let el:(((lN z).map V.int).length:Int)=((lN z).length:Int):=by rw[zF0]
   by_cases c1:1<=i
   . apply aX c1 ?_;erw[0,a,0,.inr (zA0 ha),2,0,6]
     by_cases c2:i<=((lN z).length:Int)
     . rw [M8 %[c1|c2]]at q;apply aX (by rw[el];exact c2) ?_;obtain⟨j,ej⟩:∃j:Nat,i-1=(j:Int):=⟨(i-1).toNat,#[0]⟩
       rw[ej,qT0]at q;erw[0,0,2,a,_,2,zA0 ha,6,q];rw[ej];exact ly #[0]
     . rw[M6 (λz=>c2 z.2)]at q;exact aD (by rw[el];exact c2) q
   . rw[M6 (λz=>c1 z.1)]at q;exact aD c1 %[0|cM q])))),?_⟩
 erw[0,k,CA,dk,_,0,hk,TA.cl,TA.nT,al_t,6];erw[0,k,CA,dk,_,0,hk,TA.cl,TA.nG,vD,g,CG,dg,_,0,hg,TG.cl,TG.nT,lK ..,b,0,.inr (zA0 hb),2,0,6]
 by_cases c:1<z.ts.length
 . apply aX (by rw[vl];omega) ?_;let ec:lN z=z.s::z.to:=M8 c;erw[0,k,CA,dk,_,0,hk,TA.cl,TA.nS,al_s,y1S,λt ht=>?_];let I:=zC0 ht (.tup [.int z.s]);let g1:upd H t (.tup [.int z.s]) t=some (.tup [.int z.s]):=aP;generalize upd H t (.tup [.int z.s])=H1 at I g1;erw[0,t,aT,2,zA0 g1,zA0 (I _ _ hT),(λz=>nomatch z),cH (by show 1+(z.to.map V.int).length<=1000;rw[zF0];omega),λe=>?_,λ_ y hy=>?_]
   . erw[_,t,i,1,6,q _ I];rw[ec,g1,qC0,e]
   . erw[_,y,i,1,6,q _ (I.trans (zC0 hy _))];rw[aP,ec];rfl
 . apply aD (by rw[vl];omega) ?_;let ec:lN z=z.to:=M6 c;erw[_,aT,i,1,by rw[ec];exact hT,q _ λ_ _ e=>e]
end
section
variable {CM CA CG:Addr}
def Di(ns:List Str)(ts:List Tr)(s p:Int)(cs:List Int)(n:Nat):(eZ ns ts s p cs n).length=n:=by
 unfold eZ;rw[zF0,qR0]
def Dh{p:Int}(hp:0<p):bJ (eZ ns ts s p cs n) p:=λx hx=>by
 unfold eZ at hx;let%[k,_|1]:=List.mem_map.mp hx;erw[qG0 _ #[0],qI0 _ hp]
def AkOk.deg(k:AkOk z)(h:0<z.nr):∃x,z.ns[z.to.length]?=some x/\z.ns.getD z.to.length ""=x/\0<=aV z.ts x/\aV z.ts x<z.p/\aV z.ts x<=400:=by
 let hl:=k.nrt h;erw[z.ns[z.to.length],zN0 hl,by rw[qO0,zN0 hl];rfl,6];let hm:=qP0 hl;let%[d0|d1]:=k.gk.deg _ hm;erw[d0,d1,6];let t0:z.ts≠[]:=λe=>by have:=k.gk.t1;rw[e]at this;cases this
 have:=rZ (p:=401) (x:=z.ns[z.to.length]) t0 λt ht=>by
  let h1:=(k.gk.tok t ht).2.2.2;let h2:=t.names_len;let h3:=jK0 (a:=z.ns[z.to.length]) (l:=t.names);omega
 omega
def AkOk.row(k:AkOk z)(h:0<z.nr):lO z.tru z.p:=by
 let%[x,hx,ex,d0,d1|d4]:=k.deg h;let p2:=k.p0;let p9:=k.gk.p9;let e:z.tru=eZ z.ns z.ts z.s z.p z.to (aV z.ts x+1).toNat:=by
  unfold Ak.tru;rw[M6 #[0],ex]
 rw[e];unfold lO;rw[Di];erw[3,3,3,λj=>?_]
 have:=nI (Dh (ns:=z.ns) (ts:=z.ts) (s:=z.s) (cs:=z.to) (n:=(aV z.ts x+1).toNat) (show 0<z.p by omega)) #[0] j
 omega
instance spTruths(CA CG:Addr):∀(k g v:Addr)(z:Ak)(ys:List V),vs=[.ref k]->AkAt CA CG H k g v z->AkOk z->H v=some (.lst ys)->(∀(l:Addr)(H':Hp),H' l=some (.lst (z.tru.map V.int))->AkAt CA CG H' k g v z->SameBut k H H'->Q (.ref l) H'):=1
def xU:FnScope WA WA (ao oE):=%[|5]
def yu(F:#["true_numbers","Asking.true_numbers",oE])(TA:ATxt K mg CA)(kj:#[16,"counts_of",WF,spCounts CG])(l9:#[14,"true_row",["game","s","coins"],spTrue CG]):#[17,f,fd,WA,spTruths CA CG]:=by
 exists xU
 erw[k,g,v,z,ys,1,AK,ok,hv,q]at h;refine⟨_,(aa (aJ (ai Ie (aF (pv 0) rfl) Dw (ax _)) (ae (aJ (ai aR (aF (pv 0) rfl) af (ax _)) (ae (ba (pv 0) (am kj hr ⋯ rfl %[aF (pv 0) rfl|aQ]) rfl)) (ae (ba (pv 0) (am l9 hr ⋯ rfl %[aF (pv 0) rfl,aF (pv 0) rfl,aF (pv 0) rfl|aQ]) rfl)))) aB)
  (ae (ay (aF (pv 0) rfl)))),?_⟩
 let AK':=AK;erw[dk,aT,a,b,d,tv,tr,hk,GA,ha,hb,TS,hd,dv,hT,ht]at AK';let t0:z.ts≠[]:=λe=>by have:=ok.gk.t1;rw[e]at this;cases this
 let t10:=ok.gk.t10;let p2:=ok.p0;let p9:=ok.gk.p9;erw[0,k,CA,dk,_,0,hk,TA.cl,TA.nR,GZ,6];rcases ht with rfl | ⟨l,rfl,lv,hl⟩
 . -- not yet asked
   let put:∀(l:Addr)(H1:Hp),H l=none->Same H H1->H1 l=some (.lst (z.tru.map V.int))->AkAt CA CG (upd H1 k (.ins CA dk (al g z.nr z.mn z.hd z.s aT (.ref l)))) k g v z/\(upd H1 k (.ins CA dk (al g z.nr z.mn z.hd z.s aT (.ref l)))) l=some (.lst (z.tru.map V.int))/\SameBut k H (upd H1 k (.ins CA dk (al g z.nr z.mn z.hd z.s aT (.ref l)))):=by
    intro l H1 l0 S1 hl;let lk:l≠k:=(aZ hk l0).symm;let U:∀{c:Addr}{o:HO},c≠k->H1 c=some o->(upd H1 k (.ins CA dk (al g z.nr z.mn z.hd z.s aT (.ref l)))) c=some o:=λn e=>by rw[aE n];exact e
    let gk:g≠k:=λe=>by
     erw[dg,hg]at GA;rw[e,hk]at hg;cases hg
    let kT:bZ H (upd H1 k (.ins CA dk (al g z.nr z.mn z.hd z.s aT (.ref l)))):=λc xs e=>U (bz e hk nofun) (S1 _ _ e)
    erw[dg,hg]at GA;erw[%[dk,aT,a,b,d,tv,.ref l,aP,%[dg|U gk (S1 _ _ hg)],kT _ _ ha,kT _ _ hb,TS.mono kT,U (bz hd hk nofun) (S1 _ _ hd),dv,kT _ _ hT|.inr %[l,1,(aZ hv l0).symm|U lk hl]],U lk hl,(zJ0 S1).trans (SameBut.upd _)]
   erw[1,0,dU ?_];erw[0,k,CA,dk,_,0,hk,TA.cl,TA.nN,Jh,1,0,6]
   by_cases c:z.nr=0
   . apply aX (congrArg V.int c) ?_;erw[0,k,CA,dk,_,0,hk,TA.cl,TA.nG,vD,g,a,b,d,z.ns,tv,z.ts,z.p,1,GA,ha,ok.n6,hb,TS,t10,λt ht=>%[(ok.gk.tok t ht).1|by have:=(ok.gk.tok t ht).2.2.1;omega],λl H1 l0 S1 hl=>?_];let et:z.tru=z.ts.map (λt=>(cnt t z.ns:Int)):=M8 c;rw[←et]at hl;let%[A1,L1|B1]:=put l H1 l0 S1 hl;erw[0,k,CA,dk,0,S1 _ _ hk,TA.cl,TA.nR,Fa,6];rw[EZ];erw[0,k,CA,dk,_,0,aP,TA.cl,TA.nR,GZ,q l _ L1 A1 B1]
   . apply aD (λe=>c (V.int.inj e)) ?_;let n0:=ok.nr0;let%[x,hx,ex,d0,d1|d4]:=ok.deg #[0];erw[0,k,CA,dk,_,0,hk,TA.cl,TA.nG,vD,0,k,CA,dk,_,0,hk,TA.cl,TA.nS,al_s,0,k,CA,dk,_,0,hk,TA.cl,TA.nT,al_t,g,a,b,d,aT,z.ns,tv,z.ts,z.to,x,z.s,z.p,1,GA,ha,ok.n6,hb,TS,t0,t10,λt ht=>%[(ok.gk.tok t ht).1|(ok.gk.tok t ht).2.2.1],hd,.inr hT,hx,d1,3,ok.po,3,3,λl H1 l0 S1 hl=>?_];let et:z.tru=eZ z.ns z.ts z.s z.p z.to (aV z.ts x+1).toNat:=by
      unfold Ak.tru;rw[M6 c,ex]
     rw[←et]at hl;let%[A1,L1|B1]:=put l H1 l0 S1 hl;erw[0,k,CA,dk,0,S1 _ _ hk,TA.cl,TA.nR,Fa,6];rw[EZ];erw[0,k,CA,dk,_,0,aP,TA.cl,TA.nR,GZ,q l _ L1 A1 B1]
 . erw[1,0,cM ?_];erw[0,k,CA,dk,_,0,hk,TA.cl,TA.nR,GZ,q l H hl AK (SameBut.refl _ _)]
instance spTrueAt(CA CG:Addr):∀(k g v:Addr)(z:Ak)(ys:List V)(i:Int),vs=[.ref k,.int i]->AkAt CA CG H k g v z->AkOk z->H v=some (.lst ys)->0<=i->i<z.p->(∀H',AkAt CA CG H' k g v z->SameBut k H H'->Q (.int (gK z i)) H'):=1
def Jt:FnScope ["self","place","truths"] WL (ao uH):=%[|5]
def DS(F:#["true_at","Asking.true_at",uH])(B:Bl mg)(TA:ATxt K mg CA)(TG:GTxt K mg CG)(mT:Meth K CA "true_numbers" fT)(GT:#[17,fT,fdT,WA,spTruths CA CG])(bT:Binds K fdT WA [])(b6:#[4,"value_at",WK,spVal]):#[18,f,fd,WL,spTrueAt CA CG]:=by
 exists Jt
 erw[k,g,v,z,ys,i,1,AK,ok,hv,i0,i1,q]at h;refine⟨_,(aa #[aj,2,Jt,cx (pv 0) TA.cl mT GT hr bT .nil bn]
  (aa (aJ (ai iy (aF (pv 0) rfl) af (ax _)) (ae (ay (am b6 hr ⋯ rfl %[2,1,aF (aF (pv 0) rfl) rfl|aQ]))) aB)
  (aa (aJ (ai dG (pv 1) (aI aG rfl B.len zB1 %[2|aQ]) (ax _)) (ae (ay (au bb (aN ix_list (pv 2) (pv 1) #[1]) (aF (aF (pv 0) rfl) rfl)))) aB)
  (ae (ay af))))),?_⟩
 let p2:=ok.p0;let p9:=ok.gk.p9;let%[dk,aT,_,_,_,_,tr,hk|_]:=id AK;erw[0,k,dk,0,hk,al_n3,k,g,v,z,ys,1,AK,ok,hv,λl H1 hl A1 S1=>?_];let A1':=A1;erw[dk1,aT1,a1,b1,d1,tv1,tr1,hk1,%[dg1|hg1],_]at A1';unfold gK at q;erw[0,k,CA,dk1,_,0,hk1,TA.cl,TA.nN,Jh,2,0,6]
 by_cases c:0<z.nr
 . rw[M8 c]at q;apply aX c ?_;erw[0,0,0,k,CA,dk1,_,0,hk1,TA.cl,TA.nG,vD,g,CG,dg1,_,0,hg1,TG.cl,TG.nF,iI ..,l,z.tru,i,z.p,1,.inl hl,ok.row c,ok.gk.pr,p9,i0,i1,λH2 S2=>q H2 (A1.same S2) (S1.trans (zJ0 S2))]
 . rw [M6 c]at q;apply aD c ?_;erw[0,0,l,0,.inl (zG0 hl),2,0,6];let el:((z.tru.map V.int).length:Int)=(z.tru.length:Int):=by rw[zF0]
   by_cases c2:i<(z.tru.length:Int)
   . rw[M8 c2]at q;apply aX (by rw[el];exact c2) ?_;let%[j|1]:=qA1 i0;rw[qT0]at q;erw[0,0,l,_,2,zG0 hl,ly #[0],0,k,CA,dk1,_,0,hk1,TA.cl,TA.nG,vD,g,CG,dg1,_,0,hg1,TG.cl,TG.nF,iI ..,2,(by show 0<z.p;omega),q H1 A1 S1]
   . rw[M6 c2]at q;apply aD (by rw[el];exact c2) ?_;exact q H1 A1 S1
def Tm.worth(z:Ak)(bx:Str->Int):Tm->Int
 |.num n=>n % z.p | .box x=>bx x | .plain w=>oH z w
 |.ask w a=>if w="coin" then kW z (a.worth z bx)else gK z (a.worth z bx)
 |.op s a b=>opV z.p s (a.worth z bx) (b.worth z bx)
def Tm.good:Tm->Prop
 |.num _=>True | .box _=>True | .plain w=>w∈plainW | .ask w a=>w∈askW/\a.good | .op s a b=>s∈signW/\a.good/\b.good
def lD(p:Int)(bx:Str->Int):Prop:=∀x,0<=bx x/\bx x<p
def Tm.worth_rng(k:AkOk z)(hb:lD z.p bx):∀t:Tm,0<=t.worth z bx/\t.worth z bx<z.p
 |.num n=>by have:=k.p0;erw[qG0 _ #[0],qI0 _ #[0]]
 |.box x=>hb x
 |.plain w=>yf k w
 |.ask w a=>by
   show 0<=(if w="coin" then kW z (a.worth z bx)else gK z (a.worth z bx))/\(if w="coin" then kW z (a.worth z bx)else gK z (a.worth z bx))<z.p
   split
   . exact BT k _
   . exact Ad k _
 |.op s a b=>by have:=k.p0;exact FU #[0]
instance spTm(CA CG:Addr)(n:Nat):∀(v:V)(t:Tm)(b k g sd:Addr)(z:Ak)(ys:List V)(bx:Str->Int)(m:Nat),vs=[v,.ref b,.ref k]->TmAt H v t->t.good->t.depth<=n->BxAt H b bx m->lD z.p bx->AkAt CA CG H k g sd z->AkOk z->H sd=some (.lst ys)->(∀H',AkAt CA CG H' k g sd z->SameBut k H H'->Q (.int (t.worth z bx)) H'):=1
def hV:FnScope ["term","boxes","asking","word","first","second"] WV (ao jq):=%[|5]
structure AskF(P:Program)(w:World)(K:W.Frag)(mg:#[9])(base:Heap)(CA CG fP fC fR:Addr)(fdP fdC fdR:FuncData):Prop where
 mP:Meth K CA "plain_value" fP
 GP:#[1,fP,fdP,Wd,spPlain CA CG]
 bP:Binds K fdP Wd []
 mC:Meth K CA "coin_at" fC
 GC:#[1,fC,fdC,WL,spCoinAt CA CG]
 bC:Binds K fdC WL []
 mR:Meth K CA "true_at" fR
 GR:#[18,fR,fdR,WL,spTrueAt CA CG]
 bR:Binds K fdR WL []
def Cc{n:Nat}(F:#["value_of",jq])(TA:ATxt K mg CA)(TG:GTxt K mg CG)(M:AskF P w K mg base CA CG fP fC fR fdP fdC fdR)(fK:#[3,"op_value",Wc,spOp])(b7:#[n+18,"value_of",WV,spTm CA CG n]):#[n+19,f,fd,WV,spTm CA CG (n+1)]:=by
 exists hV
 erw[v,t,b,k,g,sd,z,ys,bx,m,1,T,tg,td,BX,bo,AK,ok,hs,q]at h;let hu:=Et hr;let hr1:Room 1 _:=hr.mono #[0];let hr18:Room 18 _:=hr.mono #[0];refine⟨_,(aa #[aj,3,hV,aN ix_tup (pv 0) af #[1]]
  (aa (aJ (ai aR (pv 3) aq (ax _)) (ae (ay (au bb (aN ix_tup (pv 0) af #[1]) (aF (aF (pv 2) rfl) rfl)))) aB)
  (aa (aJ (ai aR (pv 3) aq (ax _)) (ae (ay (Dy hu (pv 1) (aN ix_tup (pv 0) af #[1]) af %[1,1,1|1]))) aB)
  (aa (aJ (ai aR (pv 3) aq (ax _)) (ae (ay (bQ (pv 2) TA.cl M.mC M.GC hr1 M.bC .nil bn %[am b7 hr (zH0 _) rfl %[aN ix_tup (pv 0) af #[1],1,2|aQ]|aQ]))) aB)
  (aa (aJ (ai aR (pv 3) aq (ax _)) (ae (ay (bQ (pv 2) TA.cl M.mR M.GR hr18 M.bR .nil bn %[am b7 hr (zH0 _) rfl %[aN ix_tup (pv 0) af #[1],1,2|aQ]|aQ]))) aB)
  (aa (aJ (ai aR (pv 3) aq (ax _)) (aa #[aj,4,hV,am b7 hr (zH0 _) rfl %[aN ix_tup (pv 0) af #[1],1,2|aQ]]
   (aa #[aj,5,hV,am b7 hr (zH0 _) rfl %[aN ix_tup (pv 0) af #[1],1,2|aQ]]
   (ae (ay (am fK hr #[0] rfl %[aN ix_tup (pv 0) af #[1],4,5,aF (aF (pv 2) rfl) rfl|aQ]))))) aB)
  (ae (ay (bQ (pv 2) TA.cl M.mP M.GP hr1 M.bP .nil bn %[3|aQ]))))))))),?_⟩
 let AK':=AK;erw[dk,aT,ga,gb,gd,tv,tr,hk,%[dg|hg],_]at AK';let p2:=ok.p0;let p0:0<z.p:=#[0]
 let kT:∀{H':Hp},SameBut k H H'->bZ H H':=λs c xs e=>s _ _ (bz e hk nofun) e
 let kB:∀{H':Hp},SameBut k H H'->BxAt H' b bx m:=λs=>BX.keep λo e=>s _ _ (by
  erw[M7,e',_]at BX;exact bz e' hk nofun) e
 let kS:∀{H':Hp},SameBut k H H'->H' sd=some (.lst ys):=λs=>s _ _ (bz hs hk nofun) hs
 cases T with
 | @num a n e=>
   erw[0,a,_,(0),0,1,zA0 e,1,6];erw[0,1,0,aX rfl ?_];erw[0,a,_,(1),0,1,zA0 e,1,0,k,CA,dk,_,0,hk,TA.cl,TA.nG,vD,g,CG,dg,_,0,hg,TG.cl,TG.nF,iI ..,2,p0,q H AK (SameBut.refl _ _)]
 | @box a x e=>
   erw[0,a,_,(0),0,1,zA0 e,1,6];erw[0,1,0,7];erw[0,1,0,aX rfl ?_];erw[M7,hb,_,hx]at BX;erw[0,b,1,.inl %[M7|.inl hb],0,a,_,(1),0,1,zA0 e,1,_,DGet.k (k:=.inr x) hb,6];rw[hx];exact q H AK (SameBut.refl _ _)
 | @plain a wd e=>
   let no:∀x:Str,x∉plainW->¬ V.str wd=V.str x:=λx hx e=>hx (by rw[←V.str.inj e];exact tg)
   erw[0,a,_,(0),0,1,zA0 e,1,6];erw[0,1,0,aD (no _ ⋯) ?_];erw[0,1,0,aD (no _ ⋯) ?_];erw[0,1,0,aD (no _ ⋯) ?_];erw[0,1,0,aD (no _ ⋯) ?_];erw[0,1,0,aD (no _ ⋯) ?_];erw[0,k,dk,0,hk,al_n1,0,k,g,sd,z,wd,1,AK,p0,q H AK (SameBut.refl _ _)]
 | @ask a wd v1 t1 e T1=>
   erw[wq,tq]at tg;let hw:wd="coin"∨wd="true":=by simpa [askW]using wq
   let d1:t1.depth<=n:=by have:t1.depth+1<=n+1:=td;omega
   let wr:=Tm.worth_rng ok bo t1;erw[0,a,_,(0),0,1,zA0 e,1,6];rcases hw with rfl | rfl
   . erw[0,1,0,7];erw[0,1,0,7];erw[0,1,0,aX rfl ?_];erw[0,k,dk,0,hk,al_n2,0,a,_,(1),0,1,zA0 e,1,0,0,v1,t1,b,k,g,sd,z,ys,bx,m,1,T1,tq,d1,BX,bo,AK,ok,hs,λH1 A1 S1=>?_];erw[k,g,sd,z,0,A1,ok.tl,λH2 S2=>?_];let qq:=q H2 (A1.same S2) (S1.trans (zJ0 S2));let e1:(Tm.ask "coin" t1).worth z bx=kW z (t1.worth z bx):=M8 rfl;rw[e1]at qq;exact qq
   . erw[0,1,0,7];erw[0,1,0,7];erw[0,1,0,7];erw[0,1,0,aX rfl ?_];erw[0,k,dk,0,hk,al_n4,0,a,_,(1),0,1,zA0 e,1,0,0,v1,t1,b,k,g,sd,z,ys,bx,m,1,T1,tq,d1,BX,bo,AK,ok,hs,λH1 A1 S1=>?_];erw[k,g,sd,z,ys,0,A1,ok,kS S1,wr.1,wr.2,λH2 A2 S2=>?_];let qq:=q H2 A2 (S1.trans S2);let e1:(Tm.ask "true" t1).worth z bx=gK z (t1.worth z bx):=M6 ⋯;rw[e1]at qq;exact qq
 | @op a o v1 v2 t1 t2 e T1 T2=>
   erw[oq,q1,q2]at tg;let d1:t1.depth<=n:=by have:max t1.depth t2.depth+1<=n+1:=td;omega
   let d2:t2.depth<=n:=by have:max t1.depth t2.depth+1<=n+1:=td;omega
   let w1:=Tm.worth_rng ok bo t1;let w2:=Tm.worth_rng ok bo t2;erw[0,a,_,(0),0,1,zA0 e,1,6];erw[0,1,0,7];erw[0,1,0,7];erw[0,1,0,7];erw[0,1,0,7];erw[0,1,0,aX rfl ?_];erw[0,a,_,(2),0,1,zA0 e,1,0,0,v1,t1,b,k,g,sd,z,ys,bx,m,1,T1,q1,d1,BX,bo,AK,ok,hs,λH1 A1 S1=>?_];let e1:=kT S1 _ _ e;erw[0,a,_,(3),0,1,zA0 e1,1,0,0,v2,t2,b,k,g,sd,z,ys,bx,m,1,T2.mono (kT S1),q2,d2,kB S1,bo,A1,ok,kS S1,λH2 A2 S2=>?_];let e2:=kT (S1.trans S2) _ _ e;let%[dk2,aT2,_,_,_,_,tr2,hk2,%[dg2|hg2]|_]:=id A2;erw[0,a,_,(1),0,1,zA0 e2,1,0,0,0,k,CA,dk2,_,0,hk2,TA.cl,TA.nG,vD,g,CG,dg2,_,0,hg2,TG.cl,TG.nF,iI ..,o,_,_,z.p,1,oq,ok.gk.pr,ok.gk.p9,w1.1,w1.2,w2.1,w2.2,q H2 A2 (S1.trans S2)]
def Cb:#[18,f,fd,WV,spTm CA CG 0]:=by
 let no:∀vs H Q E,¬ spTm CA CG 0 vs H Q E:=λvs H Q E h=>by
  erw[v,t,_,_,_,_,_,_,_,_,_,_,_,h1,_]at h
  have:=t.depth_pos
  omega
 exists 3
def pq(F:#["value_of",jq])(m:mg "value_of"=some (.ref f))(TA:ATxt K mg CA)(TG:GTxt K mg CG)(M:AskF P w K mg base CA CG fP fC fR fdP fdC fdR)(fK:#[3,"op_value",Wc,spOp]):
 ∀n:Nat,#[n+18,f,fd,WV,spTm CA CG n]
 |0=>Cb
 |n+1=>Cc F TA TG M fK (Cal.of F (pq F m TA TG M fK n) m (λ_ _ _ _ _ _ us hl=>by let%[u0,u1,u2|1]:=Ix hl;rfl))
end
section
variable {CM CA CG:Addr}
structure MS where
 pl:Int
 bx:Str->Int
 sd:List Int
def Hg(z:Ak)(len:Int)(s:MS):Hr->MS
 |.fin=>%[len,s.bx|s.sd]
 |.go n=>%[n,s.bx|s.sd]
 |.iff t n=>%[if t.worth z s.bx=0 then s.pl+1 else n,s.bx|s.sd]
 |.set x t=>%[s.pl+1,jW s.bx x (t.worth z s.bx)|s.sd]
 |.say t=>%[s.pl+1,s.bx|s.sd++[t.worth z s.bx]]
def fb(z:Ak)(rows:List Hr)(s:MS):MS:=match rows[s.pl.toNat]? with
 |some r=>Hg z rows.length s r
 |none=>s
def mf(z:Ak)(rows:List Hr):Nat->MS->MS
 |0,s=>s
 |n+1,s=>if s.pl<(rows.length:Int)/\(s.sd.length:Int)<z.mn then mf z rows n (fb z rows s)else s
def rf(mn:Int)(sd:List Int):List Int:=sd++List.replicate (mn-(sd.length:Int)).toNat 0
def Hr.good:Hr->Prop
 |.fin=>True | .go n=>0<=n | .iff t n=>t.good/\t.depth<=5/\0<=n | .set _ t=>t.good/\t.depth<=5 | .say t=>t.good/\t.depth<=5
def CB{rows:List Hr}(hq:∀r∈rows,r.good){s:MS}(h:0<=s.pl):0<=(fb z rows s).pl:=by
 unfold fb;cases e:rows[s.pl.toNat]? with
 |none=>exact h
 |some r=>
   let q:=hq r (qD0 e);cases r with
   |fin=>exact Int.natCast_nonneg _
   |go n=>exact q
   |iff t n=>
     show 0<=if t.worth z s.bx=0 then s.pl+1 else n
     by_cases c:t.worth z s.bx=0
     . rw[M8 c];omega
     . rw[M6 c];exact q.2.2
   |set x t=>show 0<=s.pl+1;omega
   |say t=>show 0<=s.pl+1;omega
def vN:(fb z rows s).sd.length<=s.sd.length+1:=by
 unfold fb;cases e:rows[s.pl.toNat]? with
 |none=>exact qM0 _
 |some r=>
   cases r with
   |fin=>exact qM0 _
   |go n=>exact qM0 _
   |iff t n=>exact qM0 _
   |set x t=>exact qM0 _
   |say t=>show(s.sd++[_]).length<=_;rw[zL0];exact zH0 _
def EW{n:Int}(h:lD p bx)(h0:0<=n)(h1:n<p):lD p (jW bx x n):=λy=>by
 unfold jW
 split
 . erw[h0,h1]
 . exact h y
def qo{s:MS}(k:AkOk z)(h:lD z.p s.bx)(hs:bJ s.sd z.p):lD z.p (fb z rows s).bx/\bJ (fb z rows s).sd z.p:=by
 unfold fb;cases e:rows[s.pl.toNat]? with
 |none=>erw[h,hs]
 |some r=>
   cases r with
   |fin=>erw[h,hs]
   |go n=>erw[h,hs]
   |iff t n=>erw[h,hs]
   |set x t=>
     let w:=Tm.worth_rng k h t;erw[EW h w.1 w.2,hs]
   |say t=>
     let w:=Tm.worth_rng k h t;erw[h,λy hy=>?_];rcases qH0 hy with hy | hy
     . exact hs y hy
     . rw[Nd hy];exact w
def mV(k:AkOk z):∀(n:Nat)(s:MS),lD z.p s.bx->bJ s.sd z.p->(s.sd.length:Int)<=z.mn->lD z.p (mf z rows n s).bx/\bJ (mf z rows n s).sd z.p/\((mf z rows n s).sd.length:Int)<=z.mn
 |0,s,h,hs,hl=>%[h,hs|hl]
 |n+1,s,h,hs,hl=>by
   show lD z.p (if _ then _ else _:MS).bx/\bJ (if _ then _ else _:MS).sd z.p/\((if _ then _ else _:MS).sd.length:Int)<=z.mn
   by_cases c:s.pl<(rows.length:Int)/\(s.sd.length:Int)<z.mn
   . rw [M8 c];let%[h1|h2]:=qo (rows:=rows) k h hs
     have:=vN (z:=z) (rows:=rows) (s:=s)
     exact mV k n _ h1 h2 #[0]
   . rw[M6 c];erw[h,hs,hl]
def vZ{mn:Int}{sd:List Int}(h:(sd.length:Int)<=mn):((rf mn sd).length:Int)=mn:=by
 unfold rf;rw[zL0,zY1];omega
def zC(h:bJ sd p)(p0:0<p):bJ (rf mn sd) p:=λx hx=>by
 unfold rf at hx;rcases qH0 hx with hx | hx
 . exact h x hx
 . rw[List.eq_of_mem_replicate hx];omega
def RowsAt(H:Hp)(rv:List V)(rows:List Hr):Prop:=rv.length=rows.length/\∀(i:Nat)(v:V)(r:Hr),rv[i]?=some v->rows[i]?=some r->HrAt H v r
def RowsAt.mono(h:RowsAt H rv rows)(k:bZ H H'):RowsAt H' rv rows:=%[h.1|λi v r h1 h2=>(h.2 i v r h1 h2).mono k]
def Hd(b c:Addr)(H H':Hp):Prop:=∀a o,a≠b->a≠c->H a=some o->H' a=some o
def BxAt.le{n:Nat}(h:BxAt H b bx m)(k:m<=n):BxAt H b bx n:=by
 erw[M7,e,l,r]at h;erw[M7,e,zT0 l k,r]
def But3(b c d:Addr)(H H':Hp):Prop:=∀a o,a≠b->a≠c->a≠d->H a=some o->H' a=some o
def But3.trans(x:But3 b c d H H1)(y:But3 b c d H1 H2):But3 b c d H H2:=λa o h1 h2 h3 e=>y a o h1 h2 h3 (x a o h1 h2 h3 e)
instance spRowM(CM CA CG:Addr):∀(M g h b dm k sd:Addr)(rv:List V)(r pl:Int)(z:Ak)(rows:List Hr)(bx:Str->Int)(m:Nat)(said:List Int),vs=[.ref M,.int pl,.ref sd,.ref k]->H M=some (.ins CM dm (ml g h r b))->M≠k->H h=some (.tup rv)->RowsAt H rv rows->(∀r∈rows,r.good)->0<=pl->pl<(rows.length:Int)->BxAt H b bx m->lD z.p bx->m<=10000->H sd=some (.lst (said.map V.int))->said.length<=900->AkAt CA CG H k g sd z->AkOk z->(∀H',H' sd=some (.lst ((fb z rows ⟨pl,bx,said⟩).sd.map V.int))->BxAt H' b (fb z rows ⟨pl,bx,said⟩).bx (m+1)->AkAt CA CG H' k g sd z->But3 b sd k H H'->Q (.int (fb z rows ⟨pl,bx,said⟩).pl) H'):=1
def E1:FnScope ["self","place","said","asking","row","word"] Wn (ao xX):=%[|5]
def FZ(F:#["do_row","Machine.do_row",xX])(B:Bl mg)(TM:MTxt K mg CM)(b7:#[23,"value_of",WV,spTm CA CG 5]):#[24,f,fd,Wn,spRowM CM CA CG]:=by
 exists E1
 erw[M,g,h,b,dm,k,sd,rv,rn,pl,z,rows,bx,m,said,1,hM,nMk,hh,RW,rq,pl0,pl1,BX,bo,m1,hsd,sl,AK,ok,q]at h;let hu:=Et hr;refine⟨_,(aa #[aj,4,E1,aN ix_tup (aF (pv 0) rfl) (pv 1) #[1]]
  (aa #[aj,5,E1,aN ix_tup (pv 4) af #[1]]
  (aa (aJ (ai aR (pv 5) aq (ax _)) (ae (ay (aI aG rfl B.len zB1 %[aF (pv 0) rfl|aQ]))) aB)
  (aa (aJ (ai aR (pv 5) aq (ax _)) (ae (ay (aN ix_tup (pv 4) af #[1]))) aB)
  (aa (aJ (ai aR (pv 5) aq (ax _)) (ae (zw hu (aF (pv 0) rfl) (aN ix_tup (pv 4) af #[1]) (am b7 hr ⋯ rfl %[aN ix_tup (pv 4) af #[1],aF (pv 0) rfl,3|aQ]) rfl)) (ae (aJ (ai aR (pv 5) aq (ax _)) (ae (aW (dC zE1 zH1 zI1 cf (pv 2) %[am b7 hr ⋯ rfl %[aN ix_tup (pv 4) af #[1],aF (pv 0) rfl,3|aQ]|aQ]))) (ae (aJ (ai lH (am b7 hr ⋯ rfl %[aN ix_tup (pv 4) af #[1],aF (pv 0) rfl,3|aQ]) af (ax _)) (ae (ay (aN ix_tup (pv 4) af #[1]))) aB)))))
  (ae (ay (au aS (pv 1) af)))))))),?_⟩
 let%[i|1]:=qA1 pl0;let hi:i<rows.length:=#[0]
 let hi':i<rv.length:=by rw[RW.1];exact hi
 let er:rows[i]?=some rows[i]:=zN0 hi;let ev:rv[i]?=some rv[i]:=zN0 hi';let RA:=RW.2 i _ _ ev er;let rqi:=rq _ (qP0 hi);let Na:fb z rows %[(i:Int),bx|said]=Hg z rows.length ⟨(i:Int),bx,said⟩ rows[i]:=by
  unfold fb;rw[show((%[(i:Int),bx|said]:MS).pl.toNat)=i from qT0 i,er]
 rw[Na]at q;generalize rows[i]=row at RA rqi q er Na;let at_:atI rv (i:Int)=some rv[i]:=bv ev;generalize rv[i]=v at RA at_ ev;erw[0,M,CM,dm,_,0,hM,TM.cl,TM.nH,Ir,0,h,_,_,v,1,1,zA0 hh,at_,6];let K0:But3 b sd k H H:=λ_ _ _ _ _ e=>e
 let nBS:sd≠b:=by
  erw[M7,e,_]at BX;exact bz hsd e nofun
 let%[M7,hb,kl|hx]:=id BX;let%[dk,_,_,_,_,_,_,hk|_]:=id AK;let kT:∀{H':Hp},SameBut k H H'->bZ H H':=λs c xs e=>s _ _ (bz e hk nofun) e
 let nbk:b≠k:=bz hb hk nofun;let nsk:sd≠k:=bz hsd hk nofun;cases RA with
 | @fin a e=>
   erw[0,a,_,(0),0,1,zA0 e,1,6];erw[0,1,0,aX rfl ?_];erw[0,M,CM,dm,_,0,hM,TM.cl,TM.nH,Ir,h,0,.inr (zA0 hh),6];rw[RW.1];exact q H hsd (BX.le (qM0 _)) AK K0
 | @go a n e=>
   erw[0,a,_,(0),0,1,zA0 e,1,6];erw[0,1,0,7];erw[0,1,0,aX rfl ?_];erw[0,a,_,(1),0,1,zA0 e,1,q H hsd (BX.le (qM0 _)) AK K0]
 | @iff a u t n e T=>
   erw[0,a,_,(0),0,1,zA0 e,1,6];erw[0,1,0,7];erw[0,1,0,7];erw[0,1,0,7];erw[0,1,0,7];erw[0,a,_,(1),0,1,zA0 e,1,0,M,CM,dm,_,0,hM,TM.cl,TM.nB,Gq,0,u,t,b,k,g,sd,z,_,bx,m,1,T,rqi.1,rqi.2.1,BX,bo,AK,ok,hsd,λH1 A1 S1=>?_];erw[1,0,6];let q':∀H',H' sd=some (.lst (said.map V.int))->BxAt H' b bx (m+1)->AkAt CA CG H' k g sd z->But3 b sd k H H'->Q (.int (if t.worth z bx=0 then(i:Int)+1 else n)) H':=q
   let q1:=q' H1 (S1 _ _ nsk hsd) ((BX.keep λo e=>S1 _ _ nbk e).le (qM0 _)) A1 (λc o _ _ h3 e=>S1 _ _ h3 e)
   by_cases c:t.worth z bx=0
   . rw[M8 c]at q1;apply nv (congrArg V.int c) ?_;erw[0,2,q1]
   . rw[M6 c]at q1;apply iteN (λz=>c (V.int.inj z)) ?_;erw[0,a,_,(2),0,1,zA0 (kT S1 _ _ e),1,q1]
 | @set a x u t e T=>
   erw[0,a,_,(0),0,1,zA0 e,1,6];erw[0,1,0,7];erw[0,1,0,7];erw[0,1,0,aX rfl ?_];erw[0,a,_,(2),0,1,zA0 e,1,0,M,CM,dm,_,0,hM,TM.cl,TM.nB,Gq,0,u,t,b,k,g,sd,z,_,bx,m,1,T,rqi.1,rqi.2,BX,bo,AK,ok,hsd,λH1 A1 S1=>?_];let hb1:=S1 _ _ nbk hb;let hs1:=S1 _ _ nsk hsd;erw[0,M,CM,dm,_,0,S1 _ _ nMk hM,TM.cl,TM.nB,Gq,0,a,_,(1),0,1,zA0 (kT S1 _ _ e),1,b,0,DPut.k (k:=.inr x) hb1 ?_,6]
   . exact zL1 kl (zL1 m1 ⋯)
   erw[0,2,6];apply q _ ?_ ⟨_,aP,zT0 (iH _ _ _) (zG1 kl),Jd x _ hx⟩ (A1.but2 hb1 hs1 λc o h1 _ e=>by rw[aE h1];exact e) (λc o h1 _ h3 e=>by rw[aE h1];exact S1 _ _ h3 e);rw[aE nBS];exact hs1
 | @say a u t e T=>
   erw[0,a,_,(0),0,1,zA0 e,1,6];erw[0,1,0,7];erw[0,1,0,7];erw[0,1,0,7];erw[0,1,0,aX rfl ?_];erw[0,.inl %[1,_|zG0 hsd],6];erw[0,a,_,(1),0,1,zA0 e,1,0,M,CM,dm,_,0,hM,TM.cl,TM.nB,Gq,0,u,t,b,k,g,sd,z,_,bx,m,1,T,rqi.1,rqi.2,BX,bo,AK,ok,hsd,λH1 A1 S1=>?_];let hb1:=S1 _ _ nbk hb;let hs1:=S1 _ _ nsk hsd;erw[sd,2,hs1,6,6]
   . rw[zF0];exact aO #[0]
   erw[0,2,6];apply q _ ?_ ((BX.keep λo e=>by rw[aE nBS.symm];exact S1 _ _ nbk e).le (qM0 _)) (A1.but2 hb1 hs1 λc o _ h2 e=>by rw[aE h2];exact e) (λc o _ h2 h3 e=>by rw[aE h2];exact S1 _ _ h3 e);rw[aP];show _=some (HO.lst ((said++[t.worth z bx]).map V.int));rw[zK0];rfl
end
section
variable {CM CA CG:Addr}
def m1(g:Addr):List (Str×V):=[("game",.ref g)]
def m2(g h:Addr):List (Str×V):=[("game",.ref g),("helper",.ref h)]
def m3(g h:Addr):List (Str×V):=[("game",.ref g),("helper",.ref h),("next_round",.int 0)]
def pm1{g:Addr}:bV "game" (.ref g) []=m1 g:=by rfl'
def pm2{h:Addr}:bV "helper" (.ref h) (m1 g)=m2 g h:=by rfl'
def pm3:bV "next_round" (.int 0) (m2 g h)=m3 g h:=by rfl'
def pm4{b:Addr}:bV "boxes" (.ref b) (m3 g h)=ml g h 0 b:=by rfl'
instance spMInit(CM:Addr):∀(M g h dm:Addr),vs=[.ref M,.ref g,.ref h]->H M=some (.ins CM dm [])->(∀(b:Addr)(H':Hp),H b=none->H' M=some (.ins CM dm (ml g h 0 b))->H' b=some (.dK [])->SameBut M H H'->Q .non H'):=1
def CU:FnScope We We (ao uz):=%[|5]
def DL(F:#["__init__","Machine.__init__",uz])(T:MTxt K mg CM):#[1,f,fd,We,spMInit CM]:=by
 exists CU
 erw[M,g,h,dm,1,hM,q]at h;refine⟨_,(aa (ba (pv 0) (pv 1) rfl)
  (aa (ba (pv 0) (pv 2) rfl)
  (aa (ba (pv 0) af rfl)
  (ae (ba (pv 0) Dx rfl))))),?_⟩
 erw[0,0,M,CM,dm,0,hM,9,T.nG,(by show 0<1000;decide),6];rw[pm1];erw[0,0,M,CM,dm,0,aP,9,T.nH,(by show 1<1000;decide),6];rw[pm2];erw[0,M,CM,dm,0,aP,9,T.nR,(by show 2<1000;decide),6];rw[pm3];let S3:SameBut M H (upd (upd (upd H M (.ins CM dm (m1 g))) M (.ins CM dm (m2 g h))) M (.ins CM dm (m3 g h))):=(SameBut.upd _).trans ((SameBut.upd _).trans (SameBut.upd _));let g3:upd (upd (upd H M (.ins CM dm (m1 g))) M (.ins CM dm (m2 g h))) M (.ins CM dm (m3 g h)) M=some (.ins CM dm (m3 g h)):=aP;generalize upd (upd (upd H M (.ins CM dm (m1 g))) M (.ins CM dm (m2 g h))) M (.ins CM dm (m3 g h))=H3 at S3 g3;intro b hb;let bM:b≠M:=(aZ g3 hb).symm;erw[0,M,CM,dm,0,by rw[aE bM.symm];exact g3,T.cl,T.nB,(by show 3<1000;decide),6];rw[pm4];apply q b _ ?_ aP (by rw[aE bM];exact aP) (S3.trans ((zJ0 (zC0 hb _)).trans (SameBut.upd _)));cases e:H b with
 |none=>rfl
 |some o=>rw[S3 b o bM e]at hb;cases hb
def a1(g:Addr):List (Str×V):=[("game",.ref g)]
def a2(g:Addr)(nr:Int):List (Str×V):=[("game",.ref g),("number",.int nr)]
def a3(g:Addr)(nr mn:Int):List (Str×V):=[("game",.ref g),("number",.int nr),("many",.int mn)]
def a4(g:Addr)(nr mn hd:Int):List (Str×V):=[("game",.ref g),("number",.int nr),("many",.int mn),("held",.int hd)]
def a5(g:Addr)(nr mn hd s:Int):List (Str×V):=[("game",.ref g),("number",.int nr),("many",.int mn),("held",.int hd),("s",.int s)]
def a6(g:Addr)(nr mn hd s:Int)(aT:Addr):List (Str×V):=[("game",.ref g),("number",.int nr),("many",.int mn),("held",.int hd),("s",.int s),("tossed",.ref aT)]
section
variable {g aT:Addr}{nr mn hd s:Int}
def pa1:bV "game" (.ref g) []=a1 g:=by rfl'
def pa2:bV "number" (.int nr) (a1 g)=a2 g nr:=by rfl'
def pa3:bV "many" (.int mn) (a2 g nr)=a3 g nr mn:=by rfl'
def pa4:bV "held" (.int hd) (a3 g nr mn)=a4 g nr mn hd:=by rfl'
def pa5:bV "s" (.int s) (a4 g nr mn hd)=a5 g nr mn hd s:=by rfl'
def pa6:bV "tossed" (.ref aT) (a5 g nr mn hd s)=a6 g nr mn hd s aT:=by rfl'
def pa7:bV "truths" .non (a6 g nr mn hd s aT)=al g nr mn hd s aT .non:=by rfl'
end
instance spAInit(CA:Addr):∀(k dk g c:Addr)(nr mn hd s:Int)(xs:List V),vs=[.ref k,.ref g,.int nr,.int mn,.int hd,.int s,.ref c]->H k=some (.ins CA dk [])->H c=some (.lst xs)∨H c=some (.tup xs)->(∀(aT:Addr)(H':Hp),H' k=some (.ins CA dk (al g nr mn hd s aT .non))->H' aT=some (.tup xs)->SameBut k H H'->Q .non H'):=1
def Dc:FnScope Wf Wf (ao uI):=%[|5]
def DT(F:#["__init__","Asking.__init__",uI])(B:Bl mg)(T:ATxt K mg CA):#[1,f,fd,Wf,spAInit CA]:=by
 exists Dc
 erw[k,dk,g,c,nr,mn,hd,s,xs,1,hk,hc,q]at h;refine⟨_,(aa (ba (pv 0) (pv 1) rfl)
  (aa (ba (pv 0) (pv 2) rfl)
  (aa (ba (pv 0) (pv 3) rfl)
  (aa (ba (pv 0) (pv 4) rfl)
  (aa (ba (pv 0) (pv 5) rfl)
  (aa (ba (pv 0) (bd bj rfl B.tuple bw %[6|aQ]) rfl)
  (ae (ba (pv 0) Dw rfl)))))))),?_⟩
 erw[0,0,k,CA,dk,0,hk,9,T.nG,(by show 0<1000;decide),6];rw[pa1];erw[0,0,k,CA,dk,0,aP,9,T.nN,(by show 1<1000;decide),6];rw[pa2];erw[0,0,k,CA,dk,0,aP,9,T.nM,(by show 2<1000;decide),6];rw[pa3];erw[0,0,k,CA,dk,0,aP,9,T.nH,(by show 3<1000;decide),6];rw[pa4];erw[0,0,k,CA,dk,0,aP,9,T.nS,(by show 4<1000;decide),6];rw[pa5];let S5:SameBut k H (upd (upd (upd (upd (upd H k (.ins CA dk (a1 g))) k (.ins CA dk (a2 g nr))) k (.ins CA dk (a3 g nr mn))) k (.ins CA dk (a4 g nr mn hd))) k (.ins CA dk (a5 g nr mn hd s))):=(SameBut.upd _).trans ((SameBut.upd _).trans ((SameBut.upd _).trans ((SameBut.upd _).trans (SameBut.upd _))));let g5:upd (upd (upd (upd (upd H k (.ins CA dk (a1 g))) k (.ins CA dk (a2 g nr))) k (.ins CA dk (a3 g nr mn))) k (.ins CA dk (a4 g nr mn hd))) k (.ins CA dk (a5 g nr mn hd s)) k=some (.ins CA dk (a5 g nr mn hd s)):=aP;generalize upd (upd (upd (upd (upd H k (.ins CA dk (a1 g))) k (.ins CA dk (a2 g nr))) k (.ins CA dk (a3 g nr mn))) k (.ins CA dk (a4 g nr mn hd))) k (.ins CA dk (a5 g nr mn hd s))=H5 at S5 g5;rcases hc with hc | hc
 . let hc5:=S5 _ _ (bz hc hk nofun) hc;erw[0,c,0,.inl %[zG0 hc5|λaT ha=>?_]];let aK:aT≠k:=(aZ g5 ha).symm;erw[0,k,CA,dk,0,by rw[aE aK.symm];exact g5,T.cl,T.nT,(by show 5<1000;decide),6];rw[pa6];erw[0,k,CA,dk,0,aP,9,T.nR,(by show 6<1000;decide),6];rw[pa7];exact q aT _ aP (by rw[aE aK,aE aK];exact aP) (S5.trans ((zJ0 (zC0 ha _)).trans ((SameBut.upd _).trans (SameBut.upd _))))
 . let nc:=bz hc hk nofun;let hc5:=S5 _ _ nc hc;erw[0,c,0,.inr %[zA0 hc5|6]];erw[0,k,CA,dk,0,g5,9,T.nT,(by show 5<1000;decide),6];rw[pa6];erw[0,k,CA,dk,0,aP,9,T.nR,(by show 6<1000;decide),6];rw[pa7];exact q c _ aP (by rw[aE nc,aE nc];exact hc5) (S5.trans ((SameBut.upd _).trans (SameBut.upd _)))
instance spSay(CM CG:Addr):∀(M g h b dm c:Addr)(rv:List V)(z:Ak)(rows:List Hr)(bx:Str->Int)(m:Nat),vs=[.ref M,.int z.mn,.int z.hd,.int z.s,.ref c]->H M=some (.ins CM dm (ml g h z.nr b))->H h=some (.tup rv)->RowsAt H rv rows->(∀r∈rows,r.good)->BxAt H b bx m->lD z.p bx->m<=5000->Gm CG H g z.ns z.ts z.p->AkOk z->H c=some (.lst (z.to.map V.int))∨H c=some (.tup (z.to.map V.int))->0<=z.mn->z.mn<=500->(∀(l:Addr)(H':Hp),H l=none->H' l=some (.lst ((rf z.mn (mf z rows 200 ⟨0,bx,[]⟩).sd).map V.int))->BxAt H' b (mf z rows 200 ⟨0,bx,[]⟩).bx (m+200)->H' M=some (.ins CM dm (ml g h (z.nr+1) b))->Hd M b H H'->Q (.ref l) H'):=1
def hU:FnScope ["self","many","due","s","coins","asking","said","place","done"] Wo (ao xW):=%[|5]
def Dl(k:Nat)(x:V):(List.replicate k [x]).flatten=List.replicate k x:=by
 induction k with
 |zero=>rfl
 |succ k ih=>rw[qG1,qZ0,ih,qG1];rfl
instance tSayE(Dn:Ends)(σ:St)(H:Hp):∀(x0 x2 x3 x4 x5 x7 x8:Option V)(sd:Addr)(mn:Int)(xs:List Int),σ=[x0,some (.int mn),x2,x3,x4,x5,some (.ref sd),x7,x8]->H sd=some (.lst (xs.map V.int))->xs.length<=200->0<=mn->mn<=500->(∀(l:Addr)(H':Hp),H l=none->Same H H'->H' l=some (.lst ((rf mn xs).map V.int))->Dn.rt (.ref l) H'):=0
instance ISy(CA CG:Addr)(H4:Hp)(M c k sd b g:Addr)(rows:List Hr)(z:Ak)(bx:Str->Int)(m:Nat)(mm:Nat)(σ:St)(H':Hp):∀(st:MS)(d:Nat),σ=[some (.ref M),some (.int z.mn),some (.int z.hd),some (.int z.s),some (.ref c),some (.ref k),some (.ref sd),some (.int st.pl),some (.int (d:Int))]->d<=200->mm=200-d->0<=st.pl->st.sd.length<=d->mf z rows (200-d) st=mf z rows 200 ⟨0,bx,[]⟩->H' sd=some (.lst (st.sd.map V.int))->BxAt H' b st.bx (m+d)->lD z.p st.bx->bJ st.sd z.p->AkAt CA CG H' k g sd z->But3 b sd k H4 H':=0
def FY(F:#["say","Machine.say",xW])(B:Bl mg)(TM:MTxt K mg CM)(TA:ATxt K mg CA)(hmost:∃t,mg "MOST_ROWS_DONE"=some (.int 200 t))
 (MA:Mk K CA fA)(GA:#[1,fA,fdA,Wf,spAInit CA])(bA:Binds K fdA Wf [])
 (mR:Meth K CM "do_row" fR)(GR:#[24,fR,fdR,Wn,spRowM CM CA CG])(bR:Binds K fdR Wn []):#[25,f,fd,Wo,spSay CM CG]:=by
 exists hU
 erw[M,g,h,b,dm,c,rv,z,rows,bx,m,1,hM,hh,RW,rq,BX,bo,mm,GG,ok,hc,mn0,mn1,q]at h;erw[a',b',d',tv,G,hga,hgb,TS,hgd]at GG;erw[te,ge]at hmost;let hr2:Room (1+1) _:=hr.mono ⋯;let hr7:Room 24 _:=hr.mono ⋯;refine⟨_,(aa #[aj,5,hU,jH MA GA hr2 rfl TA.mgC bA .nil bn %[aF (pv 0) rfl,aF (pv 0) rfl,1,2,3,4|aQ]]
  (aa (ba (pv 0) (au aS (aF (pv 0) rfl) af) rfl)
  (aa #[aj,6,hU,cS aQ]
  (aa #[aj,7,hU,af]
  (aa #[aj,8,hU,af]
  (aa (iY zF1 (PW.pt (jE (ai dG (pv 7) (aI aG rfl B.len zB1 %[aF (pv 0) rfl|aQ]) (ax _)) (jE (ai dG (aI aG rfl B.len zB1 %[6|aQ]) (pv 1) (ax _)) (jD (ai dG (pv 8) (dI (v:=.int 200) rfl ge ⟨_,rfl⟩) (ax _)))))) (aa #[aj,7,hU,bQ (pv 0) TM.cl mR GR hr7 bR .nil bn %[7,6,5|aQ]]
   (ae #[aj,8,hU,au aS (pv 8) af])))
  (cK (t':=tSayE) (ae (ay (au mi (pv 6) (au Id (cS %[af|aQ]) (au bi (pv 1) (aI aG rfl B.len zB1 %[6|aQ])))))) (by
   rintro Dn σ H ⟨x0,x2,x3,x4,x5,x7,x8,sd,mn,xs,rfl,hsd,xl,mn0,mn1,q⟩;erw[0,y1S,λz hz=>?_];let I1:=zC0 hz (.lst [.int 0]);let g1:upd H z (.lst [.int 0]) z=some (.lst [.int 0]):=aP;generalize upd H z (.lst [.int 0])=H1 at I1 g1;erw[0,0,sd,0,.inl (zG0 (I1 _ _ hsd)),2,6];let el:((xs.map V.int).length:Int)=(xs.length:Int):=by rw[zF0]
   erw[z,2,g1,3,3,cH (by show 1*(mn-((xs.map V.int).length:Int)).toNat<=1000;omega),λy hy=>?_];rw[Dl];let I2:=zC0 hy (.lst (List.replicate (mn-((xs.map V.int).length:Int)).toNat (.int 0)));let g2:upd H1 y (.lst (List.replicate (mn-((xs.map V.int).length:Int)).toNat (.int 0))) y=some (.lst (List.replicate (mn-((xs.map V.int).length:Int)).toNat (.int 0))):=aP;generalize upd H1 y (.lst (List.replicate (mn-((xs.map V.int).length:Int)).toNat (.int 0)))=H2 at I2 g2;erw[sd,y,2,I2 _ _ (I1 _ _ hsd),g2,6,λl hl=>?_]
   . rw[zY1,zF0];exact cH #[0]
   apply q l _ ?_ (I1.trans (I2.trans (zC0 hl _))) ?_
   . cases e:H l with
     |none=>rfl
     |some o=>rw[I2 _ _ (I1 _ _ e)]at hl;cases hl
   . rw[aP,el];unfold rf;rw[zK0,List.map_replicate])))))))),?_⟩
 erw[0,M,CM,dm,_,0,hM,TM.cl,TM.nG,ml_g,0,M,CM,dm,_,0,hM,TM.cl,TM.nR,ml_r,0,0,0,0,λk dk hk hdk nk=>?_];let S1:Same H (upd (upd H dk (.own k)) k (.ins CA dk [])):=λa o e=>by
  rw[aE (aZ e hk),aE (aZ e hdk)];exact e
 let g1:upd (upd H dk (.own k)) k (.ins CA dk []) k=some (.ins CA dk []):=aP;generalize upd (upd H dk (.own k)) k (.ins CA dk [])=H1 at S1 g1;erw[k,dk,g,c,z.nr,z.mn,z.hd,z.s,z.to.map V.int,1,g1,hc.imp (S1 _ _) (S1 _ _),λaT H2 hk2 hT2 S2=>%[1|6]];let S02:Same H H2:=Same.but S1 hk S2;clear S1 S2 g1;let hM2:=S02 _ _ hM;erw[0,M,CM,dm,_,0,hM2,TM.cl,TM.nR,ml_r,2,0,M,CM,dm,0,hM2,TM.cl,TM.nR,Io,6];rw[Im];let nMk:M≠k:=aZ hM hk;let S3:SameBut M H2 (upd H2 M (.ins CM dm (ml g h (z.nr+1) b))):=SameBut.upd _;let hM3:upd H2 M (.ins CM dm (ml g h (z.nr+1) b)) M=some (.ins CM dm (ml g h (z.nr+1) b)):=aP;generalize upd H2 M (.ins CM dm (ml g h (z.nr+1) b))=H3 at S3 hM3;erw[y0S,λsd hsd=>?_];let I4:=zC0 hsd (.lst []);let g4:upd H3 sd (.lst []) sd=some (.lst []):=aP;generalize upd H3 sd (.lst [])=H4 at I4 g4;let gM:g≠M:=λe=>by
  erw[dg,hg]at G;rw[e,hM]at hg;cases hg
 let nbM:b≠M:=by
  erw[M7,e,_]at BX;exact bz e hM nofun
 let S04:SameBut M H H4:=(zJ0 S02).trans (S3.trans (zJ0 I4));let hM4:=I4 _ _ hM3;let kT:bZ H H4:=λc xs h=>S04 c _ (bz h hM nofun) h
 let hh4:=kT _ _ hh;let RW4:=RW.mono kT;let BX4:BxAt H4 b bx m:=BX.keep λo e=>S04 b o nbM e
 let G4:GameAt CG H4 g a' b' d' z.p:=by
  erw[dg,hg]at G;erw[dg,S04 _ _ gM hg]
 let hT4:H4 aT=some (.tup (z.to.map V.int)):=I4 _ _ (S3 _ _ (bz hT2 hM2 nofun) hT2);let hgd4:=S04 _ _ (bz hgd hM nofun) hgd;let nds:d'≠sd:=aZ (S3 _ _ (bz hgd hM nofun) (S02 _ _ hgd)) hsd;let hk4:=I4 _ _ (S3 _ _ nMk.symm hk2);let b4:∃M7,H4 b=some (.dK M7):=by
  erw[M7,e,_]at BX4;erw[M7,e]
 erw[kv4,hb4]at b4;let nbs:b≠sd:=bz hb4 g4 nofun;let nhb:h≠b:=bz hh4 hb4 nofun;let nhs:h≠sd:=bz hh4 g4 nofun;let nMs:M≠sd:=bz hM4 g4 nofun;let nkb:k≠b:=bz hk4 hb4 nofun;let nks:k≠sd:=bz hk4 g4 nofun;let AK4:AkAt CA CG H4 k g sd z:=%[dk,aT,a',b',d',tv,.non,hk4,G4,kT _ _ hga,kT _ _ hgb,TS.mono kT,hgd4,nds,hT4|.inl rfl]
 let sd0:H sd=none:=by
  cases e:H sd with
  |none=>rfl
  |some o=>rw[S3 _ _ nMs.symm (S02 _ _ e)]at hsd;cases hsd
 erw[ISy CA CG H4 M c k sd b g rows z bx m,%[_,%[(0),bx|[]],(0),1,zP0 _,1,zT1 0,zH0 _,1,g4,BX4,bo,(λx hx=>by cases hx),AK4|λ_ _ _ _ _ e=>e],6]
 rintro mm σ H' ⟨st,d,rfl,d2,rfl,st0,sl,hrun,hsd',BX',bo',so',AK',S'⟩;let hM':=S' _ _ nbM.symm nMs nMk hM4;let hh':=S' _ _ nhb nhs (bz hh4 hk4 nofun) hh4;let kT':bZ H4 H':=λc xs h=>S' c _ (bz h hb4 nofun) (bz h g4 nofun) (bz h hk4 nofun) h
 let RW':=RW4.mono kT';let fin:mf z rows (200-d) st=st->∀(l:Addr)(H5:Hp),H' l=none->Same H' H5->H5 l=some (.lst ((rf z.mn st.sd).map V.int))->Q (.ref l) H5:=λer l H5 l0 S5 hl=>by
  rw[er]at hrun;rw[←hrun]at q;apply q l H5 ?_ hl ((BX'.keep λo e=>S5 b o e).le #[0]) (S5 _ _ hM') (λa o h1 h2 e=>?_)
  . cases e:H l with
    |none=>rfl
    |some o=>
      let lM:l≠M:=λz=>by rw[z,hM']at l0;cases l0
      let lb:l≠b:=λz=>by
       erw[M7,e',_]at BX';rw[z,e']at l0;cases l0
      let ls:l≠sd:=λz=>by rw[z,hsd']at l0;cases l0
      rw[S' _ _ lb ls (aZ e hk) (S04 _ _ lM e)]at l0;cases l0
  . exact S5 _ _ (S' _ _ h2 (aZ e sd0) (aZ e hk) (S04 _ _ h1 e))
 erw[0,0,M,CM,dm,_,0,hM',TM.cl,TM.nH,Ir,h,0,.inr (zA0 hh'),2,0,6];rw[RW.1]
 by_cases c1:st.pl<(rows.length:Int)
 . apply aX c1 ?_;erw[0,sd,0,.inl (zG0 hsd'),0,2,0,6];rw[zF0]
   by_cases c2:(st.sd.length:Int)<z.mn
   . apply aX c2 ?_;erw[0,2,0,6]
     by_cases c3:d<200
     . apply aX #[0] ?_;erw[_,λ_ _ h=>h,6];erw[0,M,dm,0,hM',ml_n1,0,0,0,M,g,h,b,dm,k,sd,rv,_,st.pl,z,rows,st.bx,m+d,st.sd,1,hM',nMk,hh',RW',rq,st0,c1,BX',bo',3,hsd',3,AK',ok,λH6 hs6 BX6 A6 S6=>?_];erw[0,2,6];erw[_,(show 200-(d+1)<200-d by omega),fb z rows st,d+1,1,c3,1,CB rq st0,zT0 vN (zG1 sl),6,hs6,BX6,(qo ok bo' so').1,(qo ok bo' so').2,A6,S'.trans S6];rw[←hrun,show 200-d=(200-(d+1))+1 by omega];exact(M8 ⟨c1,c2⟩).symm
     . apply aD #[0] ?_;let ed:200-d=0:=#[0]
       erw[_,_,_,_,_,_,_,sd,z.mn,st.sd,1,hsd',3,mn0,mn1,fin (by rw[ed];rfl)]
   . apply aD c2 (cM ?_);erw[_,_,_,_,_,_,_,sd,z.mn,st.sd,1,hsd',3,mn0,mn1,fin ?_];cases 200-d with
     |zero=>rfl
     |succ n=>exact M6 (λz=>c2 z.2)
 . apply aD c1 (cM ?_);erw[_,_,_,_,_,_,_,sd,z.mn,st.sd,1,hsd',3,mn0,mn1,fin ?_];cases 200-d with
   |zero=>rfl
   |succ n=>exact M6 (λz=>c1 z.1)
end
section
variable {ns:List Str}{ts:List Tr}{p:Int}
def iJ(k:GmK ns ts p)(x:Str):0<=aV ts x/\aV ts x<=400:=by
 let t0:ts≠[]:=λz=>by have:=k.t1;rw[z]at this;cases this
 have:=jb (ns:=ts.map λt=>(t.names.count x:Int)) #[t0,0]
 let%[t,ht|e]:=List.mem_map.mp this;unfold aV;rw[←e];let h1:=jK0 (a:=x) (l:=t.names);let h2:=t.names_len;let h3:=(k.tok t ht).2.2.2;omega
end
structure HearOk(ns:List Str)(p:Int)(z:Db)(xs:List Int):Prop where
 aw:z.aw=(("hear":Str),some (xs.length:Int))
 xo:bJ xs p
 x5:xs.length<=500
 ro:z.cl≠[]->lO xs p
 tl:z.to.length<=ns.length
 po:bJ z.to p
structure TossOk(ns:List Str)(p:Int)(z:Db)(r:Int):Prop where
 aw:z.aw.1="coin"
 r0:0<=r
 r1:r<p
 tl:z.to.length<=ns.length
 ro:z.he≠[]->lO z.he p/\z.to.length<ns.length
 po:bJ z.to p
section
variable {C CG cT cC cN:Addr}
structure Gd(ns:List Str)(ts:List Tr)(p:Int)(z:Db):Prop where
 tl:z.to.length<=ns.length
 po:bJ z.to p
 e0:0<=z.ed
 e1:z.ed<p
 he:z.aw.1="hear" -> (z.cl=[]/\z.aw=(("hear":Str),some (ts.length:Int)))∨(z.cl≠[]/\z.to.length<ns.length/\z.aw=(("hear":Str),some (aV ts (ns.getD z.to.length "")+1)))
 co:z.aw.1="coin" -> z.cl≠[]/\(z.he≠[]->lO z.he p/\z.to.length<ns.length)
 h0:z.cl=[]->z.he=[]
 ww:AwW z.aw.1
section
variable {ns:List Str}{ts:List Tr}{p:Int}{z:Db}
def Gd.new(k:GmK ns ts p):Gd ns ts p (Db.new ts):=by
 have:=k.p2
 erw[zP0 _,(λx hx=>by cases hx),zT1 _,(by show(0:Int)<p;omega),λ_=>.inl %[1|1],(λh=>by cases h),λ_=>rfl,.inl rfl]
def Gd.goOn(tl:z.to.length<=ns.length)(po:bJ z.to p)(e0:0<=z.ed)(e1:z.ed<p)(cl:z.cl≠[]):Gd ns ts p (goOn ns ts p z):=by
 unfold Mine.goOn
 by_cases c:z.to.length<ns.length
 . rw[M8 c];erw[tl,po,e0,e1,λ_=>.inr %[cl,c|1],(λh=>by cases h),λh=>absurd h cl,.inl rfl]
 . rw [M6 c];unfold fk
   by_cases e:z.ed=hor z.s p (ts.map λt=>t.worth ns z.to p)
   . rw[M8 e];erw[tl,po,e0,e1,(λh=>by cases h),(λh=>by cases h),λh=>absurd h cl,.inr (.inr (.inr rfl))]
   . rw[M6 e];erw[tl,po,e0,e1,(λh=>by cases h),(λh=>by cases h),λh=>absurd h cl,.inr (.inr (.inl rfl))]
def Gd.hear_ne(k:GmK ns ts p)(h:Gd ns ts p z)(ok:HearOk ns p z xs):xs≠[]:=λe=>by
 let a:=ok.aw;rw[e,zJ1]at a;let t1:=k.t1;rcases h.he (by rw[a])with⟨_,w⟩ | ⟨_,_,w⟩
 . rw [w]at a
   have:=zO0 (Prod.mk.inj a).2
   omega
 . rw [w]at a
   have:=zO0 (Prod.mk.inj a).2
   have:=iJ k (ns.getD z.to.length "")
   omega
def Gd.hear(k:GmK ns ts p)(h:Gd ns ts p z)(ok:HearOk ns p z xs):Gd ns ts p (cG ns ts p xs z)/\(cG ns ts p xs z).cl≠[]:=by
 let p2:=k.p2;let xn:=h.hear_ne k ok;let a1:z.aw.1="hear":=by rw[ok.aw]
 unfold cG
 by_cases c:z.cl=[]
 . rw [M8 c];unfold je
   by_cases c1:ts.length=1
   . rw [M8 c1];unfold vB;let hr:=jN (s:=0) (p:=p) #[0] xs;erw[Gd.goOn h.tl h.po hr.1 hr.2 xn,6];unfold Mine.goOn fk
     split <;> exact xn
   . rw[M6 c1];erw[%[h.tl,h.po,h.e0,h.e1,(λz=>by cases z),λ_=>%[xn|λe=>absurd (h.h0 c) e],λe=>absurd e xn|.inr (.inl rfl)],xn]
 . rw [M6 c];unfold eW;let tl:z.to.length<ns.length:=by
    rcases h.he a1 with⟨e,_⟩ | ⟨_,t,_⟩
    . exact absurd e c
    . exact t
   by_cases e:(val p xs 0+val p xs 1) % p=z.ed
   . rw[M8 e];erw[%[h.tl,h.po,h.e0,h.e1,(λz=>by cases z),λ_=>%[c|λ_=>%[ok.ro c|tl]],λe=>absurd e c|.inr (.inl rfl)],c]
   . rw[M6 e];erw[%[h.tl,h.po,h.e0,h.e1,(λz=>by cases z),(λz=>by cases z),λe=>absurd e c|.inr (.inr (.inl rfl))],c]
def Gd.toss(k:GmK ns ts p)(h:Gd ns ts p z)(ok:TossOk ns p z r):Gd ns ts p (cZ ns ts p r z)/\(cZ ns ts p r z).cl≠[]:=by
 let p2:=k.p2;let%[cl|ro]:=h.co ok.aw;unfold cZ
 by_cases c:z.he=[]
 . rw [M8 c];unfold vB;let hr:=jN (s:=r) (p:=p) #[0] z.cl;erw[Gd.goOn h.tl h.po hr.1 hr.2 cl,6];unfold Mine.goOn fk
   split <;> exact cl
 . rw [M6 c];let hr:=zf (p:=p) #[0] z.he r;erw[Gd.goOn ?_ (λx hx=>?_) hr.1 hr.2 cl,6]
   . show (z.to++[r]).length<=_;rw[zL0,qL0]
     have:=(ro c).2
     omega
   . rcases qH0 hx with h' | h'
     . exact h.po x h'
     . rw[Nd h'];erw[ok.r0,ok.r1]
   . unfold Mine.goOn fk
     split <;> exact cl
end
end
structure Tk where
 z:Db
 bx:Str->Int
 nr:Int
def awN(z:Db):Int:=z.aw.2.getD 0
def Tk.ak(ns:List Str)(ts:List Tr)(p:Int)(t:Tk):Ak:=%[ns,ts,p,t.nr,awN t.z,t.z.ed,t.z.s|t.z.to]
def Tk.run(ns:List Str)(ts:List Tr)(p:Int)(rows:List Hr)(t:Tk):MS:=mf (t.ak ns ts p) rows 200 %[(0),t.bx|[]]
def Tk.said(ns:List Str)(ts:List Tr)(p:Int)(rows:List Hr)(t:Tk):List Int:=rf (awN t.z) (t.run ns ts p rows).sd
def Tk.ask(ns:List Str)(ts:List Tr)(p:Int)(rows:List Hr)(t:Tk):Tk:=%[cG ns ts p (t.said ns ts p rows) t.z,(t.run ns ts p rows).bx|t.nr+1]
def Tk.toss(ns:List Str)(ts:List Tr)(p r:Int)(t:Tk):Tk:=%[cZ ns ts p r t.z,t.bx|t.nr]
def Tk.new(ts:List Tr):Tk:=%[Db.new ts,λ_=>0|(0)]
def cE(ns:List Str)(z:Db):Nat:=if z.aw.1="hear" then 2*(ns.length-z.to.length)else if z.aw.1="coin" then(if z.he=[]then 2*ns.length+1 else 2*(ns.length-z.to.length)-1)else 0
def cO(ns:List Str)(z:Db):Nat:=if z.aw.1="hear" then ns.length-z.to.length else if z.aw.1="coin" then(if z.he=[]then ns.length+1 else ns.length-z.to.length)else 0
structure TkOk(ns:List Str)(ts:List Tr)(p:Int)(t:Tk):Prop where
 gd:Gd ns ts p t.z
 cl:t.z.cl≠[]
 s0:0<=t.z.s
 s1:t.z.s<p
 bo:lD p t.bx
 nr:1<=t.nr
 fi:t.z.aw.1="coin" -> t.z.he=[]->t.z.to=[]
section
variable {ns:List Str}{ts:List Tr}{p:Int}{t:Tk}{rows:List Hr}
def kN:¬ (("coin":Str)="hear"):=by decide
def Hm:¬ (("caught":Str)="hear"):=by decide
def ne_w3:¬ (("caught":Str)="coin"):=by decide
def ne_w4:¬ (("believed":Str)="coin"):=by decide
def rV(z:Db):(goOn ns ts p z).s=z.s/\(goOn ns ts p z).to=z.to/\(goOn ns ts p z).he=z.he/\(goOn ns ts p z).cl=z.cl:=by
 unfold goOn fk
 split <;> erw[1,1,1,1]
def jO(z:Db):¬ (goOn ns ts p z).aw.1="coin":=by
 unfold goOn fk
 split
 . exact λh=>kN h.symm
 . show ¬ (if _ then _ else _:Str×Option Int).1="coin"
   split
   . exact ne_w4
   . exact ne_w3
def oO(z:Db):cE ns (goOn ns ts p z)<=2*(ns.length-z.to.length)/\cO ns (goOn ns ts p z)<=ns.length-z.to.length:=by
 let%[_,e|_]:=rV (ns:=ns) (ts:=ts) (p:=p) z;let no:=jO (ns:=ns) (ts:=ts) (p:=p) z;unfold cE cO;rw[e,M6 no,M6 no]
 constructor <;> split <;> omega
def TkOk.ak(k:GmK ns ts p)(n6:ns.length<=6)(h:TkOk ns ts p t)(hw:t.z.aw.1="hear"):AkOk (t.ak ns ts p)/\0<=awN t.z/\awN t.z<=500/\t.z.to.length<ns.length/\t.z.aw=(("hear":Str),some (awN t.z))/\awN t.z=aV ts (ns.getD t.z.to.length "")+1:=by
 rcases h.gd.he hw with⟨e,_⟩ | ⟨_,tl,aw⟩
 . exact absurd e h.cl
 let ea:awN t.z=aV ts (ns.getD t.z.to.length "")+1:=by unfold awN;rw[aw];rfl
 let%[d0|d4]:=iJ k (ns.getD t.z.to.length "");let nr:=h.nr;erw[%[k,n6,by show 0<=t.nr;omega,λ_=>tl,h.gd.po,h.s0,h.s1,h.gd.e0,h.gd.e1|by show t.z.to.length<=100;omega],3,3,tl,by rw[ea];exact aw,ea]
def TkOk.hear(k:GmK ns ts p)(n6:ns.length<=6)(h:TkOk ns ts p t)(hw:t.z.aw.1="hear"):HearOk ns p t.z (t.said ns ts p rows):=by
 let%[ok,a0,a5,tl,aw|ea]:=h.ak k n6 hw;let p2:=k.p2;let p9:=k.p9;let%[_,r2|r3]:=mV (rows:=rows) ok 200 %[(0),t.bx|[]] h.bo (λx hx=>by cases hx) a0;let xo:bJ (t.said ns ts p rows) p:=zC r2 (by show 0<p;omega);let xl:((t.said ns ts p rows).length:Int)=awN t.z:=vZ r3;let hx:ns.getD t.z.to.length ""∈ns:=by
  rw[qO0,zN0 tl];exact qP0 tl
 let%[d0|d1]:=k.deg _ hx;let%[_|d4]:=iJ k (ns.getD t.z.to.length "");erw[by rw[xl];exact aw,xo,3,λ_=>%[3,3,3|λj=>?_],h.gd.tl,h.gd.po]
 have:=nI xo #[0] j
 omega
def yM(z:Db)(xs:List Int)(x0:xs≠[]):cE ns (eW p xs z)<=2*(ns.length-z.to.length)-1/\cO ns (eW p xs z)<=ns.length-z.to.length:=by
 let h1:(eW p xs z).to=z.to:=rfl;let h2:(eW p xs z).he=xs:=rfl;unfold cE cO;rw[h1,h2,M6 x0,M6 x0];let nh:¬ (eW p xs z).aw.1="hear":=by
  unfold eW;show ¬ (if _ then _ else _:Str×Option Int).1="hear"
  split
  . exact kN
  . exact Hm
 rw[M6 nh,M6 nh]
 constructor <;> split <;> omega
def TkOk.ask(k:GmK ns ts p)(n6:ns.length<=6)(h:TkOk ns ts p t)(hw:t.z.aw.1="hear"):TkOk ns ts p (t.ask ns ts p rows)/\cE ns (t.ask ns ts p rows).z<cE ns t.z/\cO ns (t.ask ns ts p rows).z<=cO ns t.z/\¬ (t.ask ns ts p rows).z.aw.1="hear":=by
 let%[ok,a0,a5,tl,aw|ea]:=h.ak k n6 hw;let ho:=h.hear (rows:=rows) k n6 hw;let%[r1,_|_]:=mV (rows:=rows) ok 200 %[(0),t.bx|[]] h.bo (λx hx=>by cases hx) a0;let%[g1|g2]:=h.gd.hear k ho;let x0:=h.gd.hear_ne k ho;let e:cG ns ts p (t.said ns ts p rows) t.z=eW p (t.said ns ts p rows) { t.z with pl:=t.z.pl+((t.said ns ts p rows).length:Int) }:=M6 h.cl;let nr:=h.nr;let%[l1|l2]:=yM (ns:=ns) (p:=p) { t.z with pl:=t.z.pl+((t.said ns ts p rows).length:Int) } _ x0;let s1:cE ns t.z=2*(ns.length-t.z.to.length):=M8 hw;let s2:cO ns t.z=ns.length-t.z.to.length:=M8 hw;erw[%[g1,g2,6,6,r1,by show 1<=t.nr+1;omega|λ_ he=>?_],6,6,6]
 . show 0<=(cG ns ts p _ t.z).s;rw[e];exact h.s0
 . show(cG ns ts p _ t.z).s<p;rw[e];exact h.s1
 . have:(cG ns ts p (t.said ns ts p rows) t.z).he=[]:=he
   rw[e]at this;exact absurd this x0
 . show cE ns (cG ns ts p _ t.z)<_;rw[e,s1];let l1':cE ns (eW p (t.said ns ts p rows) { t.z with pl:=t.z.pl+((t.said ns ts p rows).length:Int) })<=2*(ns.length-t.z.to.length)-1:=l1;omega
 . show cO ns (cG ns ts p _ t.z)<=_;rw[e,s2];exact l2
 . show ¬ (cG ns ts p _ t.z).aw.1="hear";rw[e];unfold eW;show ¬ (if _ then _ else _:Str×Option Int).1="hear"
   split
   . exact kN
   . exact Hm
def TkOk.tossOk(h:TkOk ns ts p t)(hw:t.z.aw.1="coin"){r:Int}(r0:0<=r)(r1:r<p):TossOk ns p t.z r:=%[hw,r0,r1,h.gd.tl,(h.gd.co hw).2|h.gd.po]
def TkOk.toss(k:GmK ns ts p)(h:TkOk ns ts p t)(hw:t.z.aw.1="coin"){r:Int}(r0:0<=r)(r1:r<p):TkOk ns ts p (t.toss ns ts p r)/\cE ns (t.toss ns ts p r).z<cE ns t.z/\cO ns (t.toss ns ts p r).z+1<=cO ns t.z/\¬ (t.toss ns ts p r).z.aw.1="coin"/\(t.z.he=[]->(t.toss ns ts p r).z.s=r/\(t.toss ns ts p r).z.to=[])/\(t.z.he≠[]->(t.toss ns ts p r).z.s=t.z.s/\(t.toss ns ts p r).z.to=t.z.to++[r]):=by
 let ok:=h.tossOk hw r0 r1;let%[g1|g2]:=h.gd.toss k ok;let nh:¬ t.z.aw.1="hear":=by rw[hw];exact kN
 let s1:cE ns t.z=if t.z.he=[]then 2*ns.length+1 else 2*(ns.length-t.z.to.length)-1:=by unfold cE;rw[M6 nh,M8 hw]
 let s2:cO ns t.z=if t.z.he=[]then ns.length+1 else ns.length-t.z.to.length:=by unfold cO;rw[M6 nh,M8 hw]
 let nr:=h.nr
 by_cases c:t.z.he=[]
 . let et:=h.fi hw c;let e:cZ ns ts p r t.z=goOn ns ts p { t.z with pl:=t.z.pl+1,s:=r,ed:=hor r p t.z.cl }:=M8 c;let lw:=rV (ns:=ns) (ts:=ts) (p:=p) { t.z with pl:=t.z.pl+1,s:=r,ed:=hor r p t.z.cl };let ll:=oO (ns:=ns) (ts:=ts) (p:=p) { t.z with pl:=t.z.pl+1,s:=r,ed:=hor r p t.z.cl };let ln:=jO (ns:=ns) (ts:=ts) (p:=p) { t.z with pl:=t.z.pl+1,s:=r,ed:=hor r p t.z.cl };rw[←e]at lw ll ln;erw[w1,w2,w3,w4]at lw;let l1:cE ns (cZ ns ts p r t.z)<=2*(ns.length-t.z.to.length):=ll.1;let l2:cO ns (cZ ns ts p r t.z)<=ns.length-t.z.to.length:=ll.2;rw[M8 c]at s1 s2;erw[%[g1,g2,6,6,h.bo,nr|λa=>absurd a ln],6,6,ln,λ_=>%[w1|w2.trans et],λz=>absurd c z]
   . show 0<=(cZ ns ts p r t.z).s;rw[w1];exact r0
   . show(cZ ns ts p r t.z).s<p;rw[w1];exact r1
   . show cE ns (cZ ns ts p r t.z)<_;omega
   . show cO ns (cZ ns ts p r t.z)+1<=_;omega
 . let tl:=((h.gd.co hw).2 c).2;let e:cZ ns ts p r t.z=goOn ns ts p { t.z with pl:=t.z.pl+1,ed:=val p t.z.he r,to:=t.z.to++[r] }:=M6 c;let lw:=rV (ns:=ns) (ts:=ts) (p:=p) { t.z with pl:=t.z.pl+1,ed:=val p t.z.he r,to:=t.z.to++[r] };let ll:=oO (ns:=ns) (ts:=ts) (p:=p) { t.z with pl:=t.z.pl+1,ed:=val p t.z.he r,to:=t.z.to++[r] };let ln:=jO (ns:=ns) (ts:=ts) (p:=p) { t.z with pl:=t.z.pl+1,ed:=val p t.z.he r,to:=t.z.to++[r] };rw[←e]at lw ll ln;erw[w1,w2,w3,w4]at lw;let el:(t.z.to++[r]).length=t.z.to.length+1:=by rw[zL0];rfl
   let l1:cE ns (cZ ns ts p r t.z)<=2*(ns.length-(t.z.to++[r]).length):=ll.1;let l2:cO ns (cZ ns ts p r t.z)<=ns.length-(t.z.to++[r]).length:=ll.2;rw[el]at l1 l2;rw[M6 c]at s1 s2;erw[%[g1,g2,6,6,h.bo,nr|λa=>absurd a ln],6,6,ln,λz=>absurd z c,λ_=>%[w1|w2]]
   . show 0<=(cZ ns ts p r t.z).s;rw[w1];exact h.s0
   . show(cZ ns ts p r t.z).s<p;rw[w1];exact h.s1
   . show cE ns (cZ ns ts p r t.z)<_;omega
   . show cO ns (cZ ns ts p r t.z)+1<=_;omega
def rF(k:GmK ns ts p)(n6:ns.length<=6):AkOk ((Tk.new ts).ak ns ts p)/\awN (Tk.new ts).z=(ts.length:Int)/\HearOk ns p (Db.new ts) ‹Tk.s›/\lD p (Tk.new ts).bx:=by
 let p2:=k.p2;let t1:=k.t1;let t10:=k.t10;let b0:lD p (Tk.new ts).bx:=λx=>by show(0:Int)<=0/\(0:Int)<p;omega
 let ok:AkOk ((Tk.new ts).ak ns ts p):=%[k,n6,zT1 0,λz=>absurd z (by show ¬ (0:Int)<0;omega),(λx hx=>by cases hx),zT1 0,(by show(0:Int)<p;omega),zT1 0,(by show(0:Int)<p;omega)|zP0 _]
 let%[_,r2|r3]:=mV (rows:=rows) ok 200 %[(0),(Tk.new ts).bx|[]] b0 (λx hx=>by cases hx) (by show(0:Int)<=(ts.length:Int);omega);let xl:(‹Tk.s›.length:Int)=(ts.length:Int):=vZ r3;erw[ok,1,%[6,zC r2 (by show 0<p;omega),3,λz=>absurd rfl z,zP0 _|λx hx=>by cases hx],b0];rw[xl];rfl
def jJ(k:GmK ns ts p)(n6:ns.length<=6):TkOk ns ts p ‹Tk.a›/\cE ns ‹Tk.a›.z<=2*ns.length+1/\cO ns ‹Tk.a›.z<=ns.length+(if 1<ts.length then 1 else 0)/\(1<ts.length->‹Tk.a›.z.aw=(("coin":Str),none)/\‹Tk.a›.z.he=[]/\‹Tk.a›.z.to=[])/\(¬ 1<ts.length->¬ ‹Tk.a›.z.aw.1="coin"/\‹Tk.a›.z.s=0/\‹Tk.a›.z.to=[]):=by
 let p2:=k.p2;let t1:=k.t1;let%[ok,_,ho|b0]:=rF (rows:=rows) k n6;let%[r1,_|_]:=mV (rows:=rows) ok 200 %[(0),(Tk.new ts).bx|[]] b0 (λx hx=>by cases hx) (by show(0:Int)<=(ts.length:Int);omega);let%[g1|g2]:=(Gd.new k).hear k ho;let e0:cG ns ts p ‹Tk.s› (Db.new ts)=je ns ts p ‹Tk.s› { Db.new ts with pl:=(Db.new ts).pl+(‹Tk.s›.length:Int) }:=M8 rfl
 by_cases c:ts.length=1
 . let e:cG ns ts p ‹Tk.s› (Db.new ts)=goOn ns ts p { Db.new ts with pl:=(Db.new ts).pl+(‹Tk.s›.length:Int),cl:=‹Tk.s›,s:=0,ed:=hor 0 p ‹Tk.s› }:=by
    rw[e0];exact M8 c
   let lw:=rV (ns:=ns) (ts:=ts) (p:=p) { Db.new ts with pl:=(Db.new ts).pl+(‹Tk.s›.length:Int),cl:=‹Tk.s›,s:=0,ed:=hor 0 p ‹Tk.s› };let ll:=oO (ns:=ns) (ts:=ts) (p:=p) { Db.new ts with pl:=(Db.new ts).pl+(‹Tk.s›.length:Int),cl:=‹Tk.s›,s:=0,ed:=hor 0 p ‹Tk.s› };let ln:=jO (ns:=ns) (ts:=ts) (p:=p) { Db.new ts with pl:=(Db.new ts).pl+(‹Tk.s›.length:Int),cl:=‹Tk.s›,s:=0,ed:=hor 0 p ‹Tk.s› };rw[←e]at lw ll ln;erw[w1,w2,w3,w4]at lw;let l1:cE ns (cG ns ts p ‹Tk.s› (Db.new ts))<=2*(ns.length-0):=ll.1;let l2:cO ns (cG ns ts p ‹Tk.s› (Db.new ts))<=ns.length-0:=ll.2;erw[%[g1,g2,6,6,r1,by show(1:Int)<=0+1;decide|λa=>absurd a ln],6,6,λz=>#[0],λ_=>%[ln,w1|w2]]
   . show 0<=(cG ns ts p _ (Db.new ts)).s;rw[w1];exact zT1 0
   . show(cG ns ts p _ (Db.new ts)).s<p;rw[w1];show(0:Int)<p;omega
   . show cE ns (cG ns ts p _ (Db.new ts))<=_;omega
   . show cO ns (cG ns ts p _ (Db.new ts))<=_;rw[M6 #[0]];omega
 . let e:cG ns ts p ‹Tk.s› (Db.new ts)={ Db.new ts with pl:=(Db.new ts).pl+(‹Tk.s›.length:Int),cl:=‹Tk.s›,aw:=("coin",none) }:=by
    rw[e0];exact M6 c
   let ez:‹Tk.a›.z={ Db.new ts with pl:=(Db.new ts).pl+(‹Tk.s›.length:Int),cl:=‹Tk.s›,aw:=("coin",none) }:=e;erw[%[g1,g2,6,6,r1,by show(1:Int)<=0+1;decide|λ_ _=>?_],6,6,λ_=>%[6,6|6],λz=>#[0]]
   . rw[ez];exact zT1 0
   . rw[ez];show(0:Int)<p;omega
   . rw[ez];rfl
   . rw[ez];show(if(("coin":Str)="hear")then _ else if(("coin":Str)="coin")then(if([]:List Int)=[]then 2*ns.length+1 else _)else 0)<=_;rw[M6 kN,M8 rfl,M8 rfl];exact zH0 _
   . rw[ez];show(if(("coin":Str)="hear")then _ else if(("coin":Str)="coin")then(if([]:List Int)=[]then ns.length+1 else _)else 0)<=_;rw[M6 kN,M8 rfl,M8 rfl,M8 #[0]];exact zH0 _
   . rw[ez]
   . rw[ez];rfl
   . rw[ez];rfl
end
inductive TR where
 |claims (xs:List Int) | say (xs:List Int) | coin (r:Int)
def cU(ns:List Str)(ts:List Tr)(p:Int)(rows:List Hr):List Int->Nat->Tk->List TR×Tk
 |_,0,t=>([],t)
 | cs,n+1,t=>if t.z.aw.1="hear" then(.say (t.said ns ts p rows)::(cU ns ts p rows cs n (t.ask ns ts p rows)).1,(cU ns ts p rows cs n (t.ask ns ts p rows)).2)
   else if t.z.aw.1="coin" then(.coin (cs.headD 0)::(cU ns ts p rows cs.tail n (t.toss ns ts p (cs.headD 0))).1,(cU ns ts p rows cs.tail n (t.toss ns ts p (cs.headD 0))).2)
   else([],t)
def iB(ns:List Str)(ts:List Tr)(p:Int)(rows:List Hr)(cs:List Int):List TR×Tk:=(.claims ‹Tk.s›::(cU ns ts p rows cs 20 ‹Tk.a›).1,(cU ns ts p rows cs 20 ‹Tk.a›).2)
def gh{t:Tk}(h1:¬ t.z.aw.1="hear")(h2:¬ t.z.aw.1="coin"):∀n,cU ns ts p rows cs n t=([],t)
 |0=>rfl
 |n+1=>by
   show(if _ then _ else _)=_;rw[M6 h1,M6 h2]
section
variable {C CM CA CG:Addr}
structure TalkAt(C CM CG:Addr)(H:Hp)(D M g h b:Addr)(rows:List Hr)(ns:List Str)(ts:List Tr)(p:Int)(t:Tk)(m:Nat):Prop where
 DA:DbAt C H D g t.z
 G:Gm CG H g ns ts p
 hM:∃dm,H M=some (.ins CM dm (ml g h t.nr b))
 hh:∃rv,H h=some (.tup rv)/\RowsAt H rv rows
 BX:BxAt H b t.bx m
 ne:D≠M
def TalkAt.same(w:TalkAt C CM CG H D M g h b rows ns ts p t m)(s:Same H H'):TalkAt C CM CG H' D M g h b rows ns ts p t m:=by
 erw[DA,G,%[dm|hM],%[rv,hh|R],B,ne]at w;erw[DA.same s,G.same s,%[dm|s _ _ hM],%[rv,s _ _ hh|R.mono (bh s)],B.keep λo e=>s _ _ e,ne]
def DbAt.but2{C' dm:Addr}{fs:List (Str×V)}{M7:List (Key×V)}(h:DbAt C H D g z)(s:Hd M b H H')(hM:H M=some (.ins C' dm fs))(hb:H b=some (.dK M7))(ne:D≠M):DbAt C H' D g z:=by
 erw[dx,aA,aC,aH,aT,R]at h;let kT:bZ H H':=λa xs e=>s _ _ (bz e hM nofun) (bz e hb nofun) e
 erw[dx,aA,aC,aH,aT,s _ _ ne (bz R.hD hb nofun) R.hD,kT _ _ R.hA,kT _ _ R.hC,kT _ _ R.hH,kT _ _ R.hT]
def Gm.but2{dm:Addr}{M7:List (Key×V)}(G:Gm CG H g ns ts p)(s:Hd M b H H')(hM:H M=some (.ins CM dm (ml g' h r b')))(hb:H b=some (.dK M7)):Gm CG H' g ns ts p:=by
 erw[a,b1,d,tv,%[dg|hg],h2,h3,h4,h5]at G;let kT:bZ H H':=λa xs e=>s _ _ (bz e hM nofun) (bz e hb nofun) e
 let gM:g≠M:=λe=>by
  rw[e,hM]at hg;cases hg
 erw[a,b1,d,tv,%[dg|s _ _ gM (bz hg hb nofun) hg],kT _ _ h2,kT _ _ h3,h4.mono kT,s _ _ (bz h5 hM nofun) (bz h5 hb nofun) h5]
def TalkAt.doub(w:TalkAt C CM CG H D M g h b rows ns ts p t m)(s:SameBut D H H')(DA:DbAt C H' D g z'):TalkAt C CM CG H' D M g h b rows ns ts p %[z',t.bx|t.nr] m:=by
 erw[DA0,G,%[dm|hM],%[rv,hh|R],B,ne]at w;erw[dx,aA,aC,aH,aT,R0]at DA0;let kT:bZ H H':=λa xs e=>s _ _ (bz e R0.hD nofun) e
 let%[M7,hb|_]:=id B;erw[DA,G.but R0.hD (G.ne R0.hD kR) s,%[dm|s _ _ ne.symm hM],%[rv,kT _ _ hh|R.mono kT],B.keep λo e=>s _ _ (bz hb R0.hD nofun) e,ne]
instance spAsked(C CM CG:Addr):∀(D M g h b:Addr) (rows:List Hr) (ns:List Str) (ts:List Tr) (p:Int) (t:Tk) (m:Nat),vs=[.ref M,.ref D]->TalkAt C CM CG H D M g h b rows ns ts p t m->GmK ns ts p->(∀r∈rows,r.good)->AkOk (t.ak ns ts p)->lD p t.bx->t.z.aw=(("hear":Str),some (awN t.z))->0<=awN t.z->awN t.z<=500->HearOk ns p t.z (t.said ns ts p rows)->m<=5000->(∀(a:Addr) (H':Hp),H a=none->H' a=some (.tup ((t.said ns ts p rows).map V.int))->TalkAt C CM CG H' D M g h b rows ns ts p (t.ask ns ts p rows) (m+200)->But3 D M b H H'->Q (.ref a) H'):=1
def n8:FnScope ["machine","doubter","values"] Wx (ao jC):=%[|5]
structure Ways(P:Program)(w:World)(K:W.Frag)(mg:#[9])(base:Heap)(C CM CG fW fU fH fT fS:Addr)(fdW fdU fdH fdT fdS:FuncData):Prop where
 mW:Meth K C "waits" fW
 GW:#[1,fW,fdW,WA,spOf C λz v H=>∃a,v=.ref a/\H a=some (.tup (awV z.aw))]
 bW:Binds K fdW WA []
 mU:Meth K C "due" fU
 GU:#[1,fU,fdU,WA,spOf C λz v _=>v=.int z.ed]
 bU:Binds K fdU WA []
 mH:Meth K C "hear" fH
 GH:#[18,fH,fdH,WC,spHear C CG]
 bH:Binds K fdH WC []
 mT:Meth K C "toss" fT
 GT:#[17,fT,fdT,WH,spToss C CG]
 bT:Binds K fdT WH []
 mS:Meth K CM "say" fS
 GS:#[25,fS,fdS,Wo,spSay CM CG]
 bS:Binds K fdS Wo []
def TalkAt.asked{dm:Addr}{n1:Int}(w:TalkAt C CM CG H D M g h b rows ns ts p t m)(hM:H M=some (.ins CM dm (ml g h t.nr b)))(B1:BxAt H1 b (t.run ns ts p rows).bx (m+200))(hM1:H1 M=some (.ins CM dm (ml g h (t.nr+1) b)))(s1:Hd M b H H1)(e1:n1=t.nr+1):TalkAt C CM CG H1 D M g h b rows ns ts p %[t.z,(t.run ns ts p rows).bx|n1] (m+200):=by
 erw[DA0,G,_,%[rv,hh|R],B,ne]at w;let%[M7,hb|_]:=id B;let kT:bZ H H1:=λa xs e=>s1 _ _ (bz e hM nofun) (bz e hb nofun) e
 subst e1;erw[DA0.but2 s1 hM hb ne,G.but2 s1 hM hb,%[dm|hM1],%[rv,kT _ _ hh|R.mono kT],B1,ne]
def sL(F:#["asked_once",jC])(B:Bl mg)(T:DTxt K mg C)(TM:MTxt K mg CM)(Y:Ways P w K mg base C CM CG fW fU fH fT fS fdW fdU fdH fdT fdS):#[26,f,fd,Wx,spAsked C CM CG]:=by
 exists n8
 erw[D,M,g,h,b,rows,ns,ts,p,t,m,1,W,k,rg,ok,bo,aw,a0,a5,ho,mm,q]at h;let hr1:Room 1 _:=hr.mono ⋯;let hr18:Room 18 _:=hr.mono ⋯;let hr25:Room 25 _:=hr.mono ⋯;refine⟨_,(aa #[aj,2,n8,bQ (pv 0) TM.cl Y.mS Y.GS hr25 Y.bS .nil bn %[aN ix_tup (cx (pv 1) T.cl Y.mW Y.GW hr1 Y.bW .nil bn) af #[1],cx (pv 1) T.cl Y.mU Y.GU hr1 Y.bU .nil bn,aF (pv 1) rfl,bd fq rfl B.list gC %[aF (pv 1) rfl|aQ]|aQ]]
  (aa (aW (bQ (pv 1) T.cl Y.mH Y.GH hr18 Y.bH .nil bn %[2|aQ]))
  (ae (ay (bd bj rfl B.tuple bw %[2|aQ]))))),?_⟩
 erw[dm,hM]at W.hM;let DA:=W.DA;let%[dx,aA,aC,aH,aT|R]:=id DA;erw[0,M,dm,0,hM,ml_n2,0,D,dx,0,R.hD,tM,D,g,t.z,1,DA,λv hv=>?_];erw[av,1,hav]at hv;rw[aw]at hav;erw[av,_,(1),.int (awN t.z),1,1,zA0 hav,1,0,D,dx,0,R.hD,dl_n2,D,g,t.z,1,DA,λv hv=>?_];subst hv;erw[0,D,C,dx,_,0,R.hD,9,T.nS,dl_s,0,D,C,dx,_,0,R.hD,9,T.nT,BM,aT,0,.inr (zA0 R.hT),λl hl=>?_];let I:=zC0 hl (.lst (t.z.to.map V.int));let g1:upd H l (.lst (t.z.to.map V.int)) l=some (.lst (t.z.to.map V.int)):=aP;generalize upd H l (.lst (t.z.to.map V.int))=H1 at I g1;let W1:=W.same I;erw[rv,hh,RW]at W1.hh;erw[M,g,h,b,dm,l,rv,t.ak ns ts p,rows,t.bx,m,1,I _ _ hM,hh,RW,rg,W1.BX,bo,mm,W1.G,ok,.inl g1,a0,a5,λl2 H2 l20 hl2 B2 hM2 S2=>?_];let hs:H2 l2=some (.lst ((t.said ns ts p rows).map V.int)):=hl2;let W2:=W1.asked (n1:=t.nr+1) (I _ _ hM) B2 hM2 S2 rfl;let%[dx2,_,_,_,_|R2]:=id W2.DA;erw[0,D,dx2,0,R2.hD,wV,0,D,g,l2,t.z,t.said ns ts p rows,ns,ts,p,1,W2.DA,W2.G,k,.inl hs,ho.aw,ho.xo,ho.x5,ho.ro,ho.tl,ho.po,λH3 S3 DA3=>?_];let W3:=W2.doub S3 DA3;let hs3:=S3 _ _ (bz hs R2.hD nofun) hs;erw[0,l2,0,.inl %[zG0 hs3|λa ha=>?_]];let J:=zC0 ha (.tup ((t.said ns ts p rows).map V.int));let fr:But3 D M b H H3:=λc o h1 h2 h3 e=>S3 _ _ h1 (S2 _ _ h2 h3 (I _ _ e))
 apply q a _ ?_ aP (W3.same J) (λc o h1 h2 h3 e=>J _ _ (fr c o h1 h2 h3 e));cases e:H a with
 |none=>rfl
 |some o=>
   erw[dx3,_,_,_,_,R3]at W3.DA;erw[dm3,hM3]at W3.hM;erw[M7,hb3,_]at W3.BX;let n1:a≠D:=λz=>by rw[z,R3.hD]at ha;cases ha
   let n2:a≠M:=λz=>by rw[z,hM3]at ha;cases ha
   let n3:a≠b:=λz=>by rw[z,hb3]at ha;cases ha
   rw[fr a o n1 n2 n3 e]at ha;cases ha
end
section
variable {C CM CA CG:Addr}
inductive TRAt(H:Hp):V->TR->Prop
 |claims {a b:Addr} {xs:List Int}:H a=some (.tup [.str "claims",.ref b])->H b=some (.tup (xs.map V.int))->TRAt H (.ref a) (.claims xs)
 |say {a b:Addr} {xs:List Int}:H a=some (.tup [.str "say",.ref b])->H b=some (.tup (xs.map V.int))->TRAt H (.ref a) (.say xs)
 |coin {a:Addr} {r:Int}:H a=some (.tup [.str "coin",.int r])->TRAt H (.ref a) (.coin r)
def TRAt.mono(k:bZ H H')(h:TRAt H v r):TRAt H' v r:=by
 cases h with
 |claims e f=>exact .claims (k _ _ e) (k _ _ f)
 |say e f=>exact .say (k _ _ e) (k _ _ f)
 |coin e=>exact .coin (k _ _ e)
def TRsAt(H:Hp):List V->List TR->Prop
 | [],[]=>True
 |v::vs,r::rs=>TRAt H v r/\TRsAt H vs rs
 |_,_=>False
def TRsAt.mono(k:bZ H H'):∀{vs:List V}{rs:List TR},TRsAt H vs rs->TRsAt H' vs rs
 | [],[],_=>trivial
 |_::_,_::_,h=>%[h.1.mono k|TRsAt.mono k h.2]
 | [],_::_,h=>h.elim
 |_::_,[],h=>h.elim
def TRsAt.snoc(hr:TRAt H v r):∀{vs:List V}{rs:List TR},TRsAt H vs rs->TRsAt H (vs++[v]) (rs++[r])
 | [],[],_=>%[hr|trivial]
 |_::_,_::_,h=>%[h.1|TRsAt.snoc hr h.2]
 | [],_::_,h=>h.elim
 |_::_,[],h=>h.elim
structure Told(H:Hp)(a:Addr)(x:List TR×Tk):Prop where
 ex:∃(b c:Addr)(vs:List V),H a=some (.tup [.ref b,.ref c])/\H b=some (.tup vs)/\TRsAt H vs x.1/\H c=some (.tup (awV x.2.z.aw))
def Hn(o:Str):inV (.str o) [.str "hear",.str "coin"]=(decide (o="hear")||decide (o="coin")):=by
 show (("hear"==o)||(("coin"==o)||false))=_;rw[Bool.or_false];let e:∀z:Str,(z==o)=decide (o=z):=λz=>by
  by_cases c:o=z
  . subst c;simp
  . rw[zD1 c];simpa using λh=>c h.symm
 rw[e,e]
instance spTalked(C CM CG:Addr):∀(g h c:Addr)(rv:List V)(rows:List Hr)(ns:List Str)(ts:List Tr)(p:Int)(cs:List Int),vs=[.ref g,.ref h,.ref c]->Gm CG H g ns ts p->GmK ns ts p->ns.length<=6->H h=some (.tup rv)->RowsAt H rv rows->(∀r∈rows,r.good)->IntsAt H c cs->bJ cs p->ns.length+(if 1<ts.length then 1 else 0)<=cs.length->cs.length<=100->(∀(a:Addr)(H':Hp),Same H H'->Told H' a (iB ns ts p rows cs)->Q (.ref a) H'):=1
def gg:FnScope ["game","helper","coins","machine","doubter","talk","tossed"] Wy (ao qw):=%[|5]
def EX(a:Str×Option Int):atI (awV a) 0=some (.str a.1):=bv (j:=0) (Ht a)
def eR{n:Nat}{t:Tk}(h:t.z.aw.1="hear"):cU ns ts p rows cs (n+1) t=(.say (t.said ns ts p rows)::(cU ns ts p rows cs n (t.ask ns ts p rows)).1,(cU ns ts p rows cs n (t.ask ns ts p rows)).2):=M8 h
def ef{n:Nat}{t:Tk}(h:t.z.aw.1="coin"):cU ns ts p rows cs (n+1) t=(.coin (cs.headD 0)::(cU ns ts p rows cs.tail n (t.toss ns ts p (cs.headD 0))).1,(cU ns ts p rows cs.tail n (t.toss ns ts p (cs.headD 0))).2):=by
 show(if _ then _ else if _ then _ else _)=_;rw[M6 (by rw[h];exact kN),M8 h]
def gi(h:TkOk ns ts p t)(hw:t.z.aw.1="hear"∨t.z.aw.1="coin"):1<=cE ns t.z/\(t.z.aw.1="coin" -> 1<=cO ns t.z):=by
 rcases hw with hw | hw
 . let tl:t.z.to.length<ns.length:=by
    rcases h.gd.he hw with⟨e,_⟩ | ⟨_,tl,_⟩
    . exact absurd e h.cl
    . exact tl
   erw[6,λz=>absurd (z.symm.trans hw) kN]
   have:cE ns t.z=2*(ns.length-t.z.to.length):=M8 hw
   omega
 . let nh:¬ t.z.aw.1="hear":=by rw[hw];exact kN
   let s1:cE ns t.z=if t.z.he=[]then 2*ns.length+1 else 2*(ns.length-t.z.to.length)-1:=by unfold cE;rw[M6 nh,M8 hw]
   let s2:cO ns t.z=if t.z.he=[]then ns.length+1 else ns.length-t.z.to.length:=by unfold cO;rw[M6 nh,M8 hw]
   by_cases c:t.z.he=[]
   . rw[M8 c]at s1 s2;erw[3,λ_=>#[0]]
   . let tl:=((h.gd.co hw).2 c).2;rw[M6 c]at s1 s2;erw[3,λ_=>#[0]]
def BK{cs:List Int}{u:Nat}(h:u<cs.length):(cs.drop u).headD 0=cs.getD u 0/\(cs.drop u).tail=cs.drop (u+1):=by
 rw[qW1 h,qO0,zN0 h];erw[1,1]
def zG{K:W.Frag}{u:Nat}{Q:VK}(h:IntsAt H c cs)(hu:u<cs.length)(q:Q (.int (cs.getD u 0)) H):rIx K (.ref c) (.int (u:Int)) H Q:=
 h.elim (λe=>.inl %[c,_,2,zG0 e,ly hu|q]) (λe=>.inr (.inl %[c,_,2,zA0 e,ly hu|q]))
def TalkAt.put{L:Addr}{ys zs:List V}(w:TalkAt C CM CG H D M g h b rows ns ts p t m)(hL:H L=some (.lst ys))(G:Gm CG (upd H L (.lst zs)) g ns ts p):TalkAt C CM CG (upd H L (.lst zs)) D M g h b rows ns ts p t m:=by
 erw[%[dx,aA,aC,aH,aT|R],_,%[dm|hM],%[rv,hh|RR],B,ne]at w;let kT:bZ H (upd H L (.lst zs)):=gA hL;let U:∀{c:Addr}{o:HO},c≠L->H c=some o->upd H L (.lst zs) c=some o:=λn e=>by rw[aE n];exact e
 let%[M7,hb|_]:=id B;erw[%[dx,aA,aC,aH,aT,U (bz R.hD hL nofun) R.hD,kT _ _ R.hA,kT _ _ R.hC,kT _ _ R.hH|kT _ _ R.hT],G,%[dm|U (bz hM hL nofun) hM],%[rv,kT _ _ hh|RR.mono kT],B.keep λo e=>U (bz hb hL nofun) e,ne]
def TRsAt.len:∀{vs:List V}{rs:List TR},TRsAt H vs rs->vs.length=rs.length
 | [],[],_=>rfl
 |_::_,_::_,h=>congrArg (·+1) (TRsAt.len h.2)
 | [],_::_,h=>h.elim
 |_::_,[],h=>h.elim
instance ITk(C CM CG:Addr)(H:Hp)(D M g h c L b:Addr)(rows:List Hr)(ns:List Str)(ts:List Tr)(p:Int)(cs:List Int)(mm:Nat)(σ:St)(H':Hp):∀(t:Tk)(n u m:Nat)(rs:List TR)(vs:List V),σ=[some (.ref g),some (.ref h),some (.ref c),some (.ref M),some (.ref D),some (.ref L),some (.int (u:Int))]->mm=n->cE ns t.z<=n->n<=20->TalkAt C CM CG H' D M g h b rows ns ts p t m->TkOk ns ts p t->H' L=some (.lst vs)->TRsAt H' vs rs->(rs++(cU ns ts p rows (cs.drop u) n t).1,(cU ns ts p rows (cs.drop u) n t).2)=iB ns ts p rows cs->cO ns t.z+u<=cs.length->m+200*n<=4200->rs.length+n<=21->Same H H':=0
def AL(F:#["talked",qw])(B:Bl mg)(T:DTxt K mg C)(TM:MTxt K mg CM)(Y:Ways P w K mg base C CM CG fW fU fH fT fS fdW fdU fdH fdT fdS)
 (MD:Mk K C fI)(GD:#[1,fI,fdI,WI,spDInit C CG])(bD:Binds K fdI WI [])(MM:Mk K CM fM)(GM:#[1,fM,fdM,We,spMInit CM])(bM:Binds K fdM We [])
 (gO:#[26,"asked_once",Wx,spAsked C CM CG]):#[27,f,fd,Wy,spTalked C CM CG]:=by
 exists gg
 erw[g,h,c,rv,rows,ns,ts,p,cs,1,G,k,n6,hh,RW,rg,hc,co,cl,c100,q]at h;let hr1:Room 1 _:=hr.mono ⋯;let hr2:Room (1+1) _:=hr.mono ⋯;let hr17:Room 17 _:=hr.mono ⋯;refine⟨_,(aa #[aj,3,gg,jH MM GM hr2 rfl TM.mgC bM .nil bn %[0,1|aQ]]
  (aa #[aj,4,gg,jH MD GD hr2 rfl T.mgC bD .nil bn %[0|aQ]]
  (aa #[aj,5,gg,cS %[aM %[aq,am gO hr ⋯ rfl %[3,4|aQ]|aQ]|aQ]]
  (aa #[aj,6,gg,af]
  (aa (iY zF1 (ai eV (aN ix_tup (cx (pv 4) T.cl Y.mW Y.GW hr1 Y.bW .nil bn) af #[1]) (aM %[aq,aq|aQ]) (by rfl')) (ae (aJ (ai aR (aN ix_tup (cx (pv 4) T.cl Y.mW Y.GW hr1 Y.bW .nil bn) af #[1]) aq (ax _)) (ae (aW (dC zE1 zH1 zI1 cf (pv 5) %[aM %[aq,am gO hr ⋯ rfl %[3,4|aQ]|aQ]|aQ]))) (aa (aW (bQ (pv 4) T.cl Y.mT Y.GT hr17 Y.bT .nil bn %[aN Eo (pv 2) (pv 6) #[1]|aQ]))
   (aa (aW (dC zE1 zH1 zI1 cf (pv 5) %[aM %[aq,aN Eo (pv 2) (pv 6) #[1]|aQ]|aQ]))
   (ae #[aj,6,gg,au aS (pv 6) af]))))))
  (ae (ay (aM %[bd bj rfl B.tuple bw %[5|aQ],cx (pv 4) T.cl Y.mW Y.GW hr1 Y.bW .nil bn|aQ])))))))),?_⟩
 erw[0,0,λM dm hM0 hdm0 nM=>?_];let K1:Same H (upd (upd H dm (.own M)) M (.ins CM dm [])):=λa o e=>by
  rw[aE (aZ e hM0),aE (aZ e hdm0)];exact e
 erw[M,g,h,dm,1,aP,λb H2 b0 hM2 hb2 S2=>%[1|6]];let T2:Same H H2:=Same.but K1 hM0 S2;let b00:H b=none:=K1.free b0;clear K1 S2 b0;erw[0,λD dd hD0 hdd0 nD=>?_];let K3:Same H2 (upd (upd H2 dd (.own D)) D (.ins C dd [])):=λa o e=>by
  rw[aE (aZ e hD0),aE (aZ e hdd0)];exact e
 let G2:=G.same T2;let gD:g≠D:=by
  erw[_,_,_,_,%[dg|hg],_]at G2;exact aZ hg hD0
 erw[D,g,dd,ns,ts,p,1,aP,G2.same K3,gD,λH4 S4 DA4=>%[1|6]];let T24:Same H2 H4:=Same.but K3 hD0 S4;let T4:Same H H4:=T2.trans T24;let D00:H D=none:=T2.free hD0;let nDM:D≠M:=(aZ hM2 hD0).symm;let W4:TalkAt C CM CG H4 D M g h b rows ns ts p (Tk.new ts) 0:=⟨DA4,G.same T4,⟨dm,T24 _ _ hM2⟩,⟨rv,T4 _ _ hh,RW.mono (bh T4)⟩,⟨[],T24 _ _ hb2,zH0 _,λ_=>rfl⟩,nDM⟩
 clear K3 S4 DA4 T24 hM2 hb2 G2 T2;let%[ak0,an0,ho0|bo0]:=rF (rows:=rows) k n6;let t1:=k.t1;let t10:=k.t10;erw[0,0,D,M,g,h,b,rows,ns,ts,p,Tk.new ts,(0),1,W4,k,rg,ak0,bo0,1,by rw[an0];omega,by rw[an0];omega,ho0,4,λa5 H5 a50 ha5 W5 S5=>?_];let T5:Same H H5:=λa o e=>S5 _ _ (aZ e D00) (aZ e hM0) (aZ e b00) (T4 _ _ e)
 erw[y2S,λt6 h6=>%[y1S|λL hL=>?_]];let I6:=zC0 h6 (.tup [.str "claims",.ref a5]);let I7:=zC0 hL (.lst [.ref t6]);let R7:TRsAt (upd (upd H5 t6 (.tup [.str "claims",.ref a5])) L (.lst [.ref t6])) [.ref t6] [.claims ‹Tk.s›]:=%[.claims (I7 _ _ aP) (I7 _ _ (I6 _ _ ha5))|trivial]
 let g7:upd (upd H5 t6 (.tup [.str "claims",.ref a5])) L (.lst [.ref t6]) L=some (.lst [.ref t6]):=aP;let J7:=I6.trans I7;let L00:H L=none:=(T5.trans I6).free hL;generalize upd (upd H5 t6 (.tup [.str "claims",.ref a5])) L (.lst [.ref t6])=H7 at R7 g7 J7;let%[ok7,st7,co7|_]:=jJ (rows:=rows) k n6;let W7:=W5.same J7;let T7:=T5.trans J7;clear I6 I7 J7 S5 T5 W5 W4 T4 ha5 h6 hL;erw[ITk C CM CG H D M g h c L b rows ns ts p cs,%[(20),‹Tk.a›,(20),(0),(200),2,3,zH0 _,W7,ok7,g7,R7,1,3,4,(by show 1+20<=21;decide)|T7],6]
 clear st7 co7 ok7 W7 T7 R7 g7 ak0 an0 ho0 bo0;rintro mm σ H' ⟨t,n,u,m,rs,vs,rfl,rfl,sn,n20,W,ok,hL,TR,eq,cn,mn,rn,S⟩;let DA:=W.DA;let%[dx,aA,aC,aH,aT|R]:=id DA;let p2:=k.p2;let vl:=TR.len;erw[0,D,dx,0,R.hD,tM,D,g,t.z,1,DA,λv hv=>?_];erw[av,1,hav]at hv;erw[av,_,(0),0,1,zA0 hav,EX _,y2S,λc1 hc1=>?_];let I1:=zC0 hc1 (.tup [.str "hear",.str "coin"]);erw[c1,0,.inr (zA0 aP),1,1,0,6];generalize upd H' c1 (.tup [.str "hear",.str "coin"])=H1 at I1;let W1:=W.same I1;let DA1:=W1.DA;let hL1:=I1 _ _ hL;let TR1:=TR.mono (bh I1);let S1:=S.trans I1;let%[dx1,aA1,aC1,aH1,aT1|R1]:=id DA1;show if inV (.str t.z.aw.1) [.str "hear",.str "coin"]=true then _ else _
 rw[Hn];clear W DA R hL TR S hav I1
 by_cases ch:t.z.aw.1="hear"
 . rw [zC1 ch,Bool.true_or];apply dU ?_;erw[_,λ_ _ h=>h,6];erw[0,D,dx1,0,R1.hD,tM,D,g,t.z,1,DA1,λv hv=>?_];erw[av2,1,hav2]at hv;erw[av2,_,(0),0,1,zA0 hav2,EX _,1,0,aX (congrArg V.str ch) ?_];let sp:=(gi ok (.inl ch)).1;obtain⟨n',rfl⟩:∃n',mm=n'+1:=⟨mm-1,#[0]⟩
   let%[ak,a0,a5,tl,aw|ea]:=ok.ak k n6 ch;let ho:=ok.hear (rows:=rows) k n6 ch;let%[ok',st',co'|_]:=ok.ask (rows:=rows) k n6 ch;erw[0,.inl %[1,_|zG0 hL1],0,0,D,M,g,h,b,rows,ns,ts,p,t,m,1,W1,k,rg,ak,ok.bo,aw,a0,a5,ho,3,λa6 H6 a60 ha6 W6 S6=>?_];erw[dmw,hMw]at W1.hM;erw[kvw,hbw,_]at W1.BX;let kT6:bZ H1 H6:=λa xs e=>S6 _ _ (bz e R1.hD nofun) (bz e hMw nofun) (bz e hbw nofun) e
   let hL6:=S6 _ _ (bz hL1 R1.hD nofun) (bz hL1 hMw nofun) (bz hL1 hbw nofun) hL1;let S06:Same H H6:=λa o e=>S6 _ _ (aZ e D00) (aZ e hM0) (aZ e b00) (S1 _ _ e)
   erw[y2S,λt7 h7=>?_];let I7:=zC0 h7 (.tup [.str "say",.ref a6]);let R7:TRAt (upd H6 t7 (.tup [.str "say",.ref a6])) (.ref t7) (.say (t.said ns ts p rows)):=.say aP (I7 _ _ ha6);generalize upd H6 t7 (.tup [.str "say",.ref a6])=H7 at I7 R7;let hL7:=I7 _ _ hL6;erw[L,2,hL7,aO #[0],6];let k8:bZ H7 (upd H7 L (.lst (vs++[.ref t7]))):=gA hL7;let S8:Same H (upd H7 L (.lst (vs++[.ref t7]))):=λa o e=>by
    rw[aE (aZ e L00)];exact I7 _ _ (S06 _ _ e)
   erw[n',qM1 _,t.ask ns ts p rows,n',u,m+200,rs++[.say (t.said ns ts p rows)],0,1,3,3,(W6.same I7).put hL7 (G.same S8),ok',aP,((TR1.mono (λa xs e=>k8 _ _ (I7 _ _ (kT6 _ _ e)))).snoc (R7.mono k8)),6,3,3,by rw[zL0];show rs.length+1+n'<=21;omega,S8];rw[←eq,eR ch,qZ1];rfl
 . rw [zD1 ch,Bool.false_or]
   by_cases cc:t.z.aw.1="coin"
   . rw [zC1 cc];apply dU ?_;erw[_,λ_ _ h=>h,6];erw[0,D,dx1,0,R1.hD,tM,D,g,t.z,1,DA1,λv hv=>?_];erw[av2,1,hav2]at hv;erw[av2,_,(0),0,1,zA0 hav2,EX _,1,0,aD (neS ch) ?_];let%[sp|cp]:=gi ok (.inr cc);let cp:=cp cc;obtain⟨n',rfl⟩:∃n',mm=n'+1:=⟨mm-1,#[0]⟩
     let hu:u<cs.length:=#[0]
     let%[dh|dt]:=BK hu;let rr:=nI co #[0] u;let%[ok',st',co'|_]:=ok.toss k cc rr.1 rr.2;let to:=ok.tossOk cc rr.1 rr.2;erw[0,D,dx1,0,R1.hD,EK,0,0,zG (hc.same S1) hu ?_];erw[D,g,t.z,cs.getD u 0,ns,ts,p,1,DA1,W1.G,k,to.aw,to.r0,to.r1,to.tl,to.ro,to.po,λH6 S6 DA6=>?_];let W6:=W1.doub S6 DA6;let kT6:bZ H1 H6:=λa xs e=>S6 _ _ (bz e R1.hD nofun) e
     let hL6:=S6 _ _ (bz hL1 R1.hD nofun) hL1;let S06:Same H H6:=λa o e=>S6 _ _ (aZ e D00) (S1 _ _ e)
     erw[0,.inl %[1,_|zG0 hL6],0,0,zG (hc.same S06) hu ?_];erw[y2S,λt7 h7=>?_];let I7:=zC0 h7 (.tup [.str "coin",.int (cs.getD u 0)]);let R7:TRAt (upd H6 t7 (.tup [.str "coin",.int (cs.getD u 0)])) (.ref t7) (.coin (cs.getD u 0)):=.coin aP;generalize upd H6 t7 (.tup [.str "coin",.int (cs.getD u 0)])=H7 at I7 R7;let hL7:=I7 _ _ hL6;erw[L,2,hL7,aO #[0],6];let k8:bZ H7 (upd H7 L (.lst (vs++[.ref t7]))):=gA hL7;let S8:Same H (upd H7 L (.lst (vs++[.ref t7]))):=λa o e=>by
      rw[aE (aZ e L00)];exact I7 _ _ (S06 _ _ e)
     erw[0,2,6];erw[n',qM1 _,t.toss ns ts p (cs.getD u 0),n',u+1,m,rs++[.coin (cs.getD u 0)],0,1,3,3,(W6.same I7).put hL7 (G.same S8),ok',aP,((TR1.mono (λa xs e=>k8 _ _ (I7 _ _ (kT6 _ _ e)))).snoc (R7.mono k8)),6,3,3,by rw[zL0];show rs.length+1+n'<=21;omega,S8];rw[←eq,ef cc,dh,dt,qZ1];rfl
   . rw [zD1 cc];apply cM ?_;rw[gh ch cc,qI1]at eq;erw[0,L,0,.inl %[zG0 hL1|λb8 hb8=>?_]];let I8:=zC0 hb8 (.tup vs);let g8:upd H1 b8 (.tup vs) b8=some (.tup vs):=aP;generalize upd H1 b8 (.tup vs)=H8 at I8 g8;let DA8:=DA1.same I8;let%[dx8,_,_,_,_|R8]:=id DA8;erw[0,D,dx8,0,R8.hD,tM,D,g,t.z,1,DA8,λv hv=>?_];erw[av2,1,hav2]at hv;erw[y2S,λa9 ha9=>?_];let I9:=zC0 ha9 (.tup [.ref b8,.ref av2]);apply q a9 _ (S1.trans (I8.trans I9)) %[b8,av2,vs,aP,I9 _ _ g8,6|6]
     . rw[←eq];exact TR1.mono (bh (I8.trans I9))
     . rw[←eq];exact I9 _ _ hav2
end
def kept:List Str:=["yes","no","not","and","or","odd","same","round","due","asked","true","coin"]
def NmK(x:Str):Prop:=(∀c∈x.cps.toList,97<=c/\c<=122)/\1<=x.length/\x.length<=6/\x∉kept
def Tm.ok:Tm->Prop
 |.num n=>0<=n/\n<1000000000000 | .box x=>NmK x | .plain w=>w∈plainW | .ask w a=>w∈askW/\a.ok | .op s a b=>s∈signW/\a.ok/\b.ok
def Tm.fit(m:Nat)(t:Tm):Prop:=t.ok/\t.size<=m/\t.depth<=8
def Hr.ok(m:Nat):Hr->Prop
 |.fin=>True | .go n=>0<=n/\n<1000000000000 | .iff t n=>t.fit m/\0<=n/\n<1000000000000 | .set x t=>NmK x/\t.fit m | .say t=>t.fit m
def LET:Str:="abcdefghijklmnopqrstuvwxyz"
def ENDS:Str:=" ()"
def isIn(L:Str)(c:Nat):Bool:=!(Builtin.Str.occurrences L %[|#[c]] 0 L.length 1).isEmpty
def jS(z:Str):Bool:=decide (1<=z.length)&&decide (z.length<=6)&&!inV (.str z) (kept.map V.str)&&z.cps.toList.all (isIn LET)
def FIG:Str:="0123456789"
def kQ(z:Str):Bool:=decide (1<=z.length)&&decide (z.length<=12)&&!(decide (1<z.length)&&Txt.startswith z "0")&&z.cps.toList.all (isIn FIG)
def vO{z:Str}{c:Nat}(h:z.cps.toList[0]?=some c):Txt.startswith z "0"=decide (V.str %[|#[c]]=V.str "0"):=by
 let q:=StrLaws.subAt_one z 48 0;let e0:("0":Str)=%[|#[48]]:=by decide
 unfold Txt.startswith;rw[e0]
 by_cases hc:c=48
 . subst hc
   have:=q.mpr h
   rw[show decide (V.str (%[|#[48]]:Str)=V.str ⟨#[48]⟩)=true from zC1 rfl];simp only[qN1,jJ0];exact this
 . let hne:¬ (V.str (%[|#[c]]:Str)=V.str ⟨#[48]⟩):=λe=>hc (by
    have:=V.str.inj e
    injection this with this
    simpa using this)
   rw[show decide (V.str (%[|#[c]]:Str)=V.str ⟨#[48]⟩)=false from zD1 hne];rw[Bool.eq_false_iff];intro e;simp only[qN1,jJ0]at e
   have:=q.mp e
   rw[h]at this;exact hc (zO0 this)
instance spTxt(fB:Str->Bool):∀z:Str,vs=[.str z]->z.length<=1000->(∀H',Same H H'->Q (.bl (fB z)) H'):=1
structure Tx(K:W.Frag)(mg:#[9]):Prop where
 letters:∃t,mg "LETTERS"=some (.str LET t)
 longest:∃t,mg "LONGEST_NAME"=some (.int 6 t)
 keptW:∃a,mg "KEPT_WORDS"=some (.ref a)/\∀H,SqT K H a (kept.map V.str)
 ends:∃t,mg "WORD_ENDS"=some (.str ENDS t)
 within:∃t,mg "MOST_WITHIN"=some (.int 8 t)
 parts:∃t,mg "MOST_PARTS"=some (.int 20 t)
 figures:∃t,mg "FIGURES"=some (.str FIG t)
 most:∃t,mg "MOST_FIGURES"=some (.int 12 t)
 rows:∃t,mg "MOST_ROWS"=some (.int 60 t)
 signs:∃a,mg "SIGNS"=some (.ref a)/\∀H,SqT K H a (signW.map V.str)
 asking:∃a,mg "ASKING_WORDS"=some (.ref a)/\∀H,SqT K H a (askW.map V.str)
 plain:∃a,mg "PLAIN_WORDS"=some (.ref a)/\∀H,SqT K H a (plainW.map V.str)
def rN(z:Str):z.cps.size=z.length:=rfl
def xR:FnScope WD WD (ao oz):=%[|5]
def yp(F:#["is_name",oz])(B:Bl mg)(T:Tx K mg):#[1,f,fd,WD,spTxt jS]:=by
 exists xR
 erw[z,1,hz,q]at h;erw[t1,g1]at T.letters;erw[t3,g3]at T.longest;erw[ka,g5,hk]at T.keptW;refine⟨_,(aa (aJ (PW.pt (eC (ai dG (aI di rfl B.len zB1 %[0|aQ]) af (ax _)) (eC (ai iy (aI di rfl B.len zB1 %[0|aQ]) (dI (v:=.int 6) rfl g3 ⟨_,rfl⟩) (ax _)) (dM (ai eV (pv 0) (dI (v:=.ref ka) rfl g5 rfl) (by rfl')))))) (ae (ay eU)) aB)
  (ae (ay (aI (nZ rfl) rfl B.all jH1 (ag (cw (N:=[]) (ix:=[]) (cl:=[]) rfl #[5] rfl (Dt (pv 0))
   (λ_ _ _=>cF (eJ tj (pv 0) (dI (v:=.str LET) rfl g1 %[|0]) (by rfl')))) aQ))))),?_⟩
 let fls:jS z=false->Q (.bl false) H:=λe=>by
  have:=q H (Same.refl H)
  rw[e]at this;exact this
 erw[0,z,1,cH hz,2,0,6]
 by_cases c1:(z.length:Int)<1
 . apply aX c1 (dU ?_);exact fls (by unfold jS;rw[zD1 (show ¬ 1<=z.length by omega)];rfl)
 apply aD c1 ?_;erw[0,z,1,cH hz,2,0,6]
 by_cases c2:(6:Int)<(z.length:Int)
 . apply aX c2 (dU ?_);exact fls (by unfold jS;rw[zD1 (show ¬ z.length<=6 by omega)];simp)
 apply aD c2 ?_;erw[0,ka,0,.inr (hk _),1,⋯,0,6];cases c3:inV (.str z) (kept.map V.str)with
 |true=>
   apply dU ?_;exact fls (by unfold jS;rw[c3];simp)
 |false=>
   apply cM ?_;erw[0,z,1,λD hD=>?_];apply sg (z:=z) (λi H'=>H' D=some (.lst (((z.cps.toList.take i).map (isIn LET)).map V.bl))/\Same H H') %[by rw[aP];rfl|zC0 hD _] ?_ ?_
   . rintro i c H' hc ⟨hl,s0⟩;let hi:i<z.cps.size:=(Array.getElem?_eq_some_iff.mp hc).1;rw[rN]at hi;erw[0,2,_,hl,6,Nx.of hi %[6|6]]
     . rw[zF0,zF0,qF0];exact aO #[0]
     . rw [aP];let ec:z.cps.toList[i]?=some c:=#[hc,0]
       rw[qB0,ec,zK0,zK0];rfl
     . intro b o e;rw[aE (aZ e hD)];exact s0 b o e
   . rintro H' ⟨hl,s0⟩;rw[show z.cps.toList.take z.cps.size=z.cps.toList by rw[←zW1];exact zZ0]at hl;erw[D,0,zG0 hl,6];let e:jS z=(z.cps.toList.map (isIn LET)).all id:=by
      unfold jS;rw[c3,zC1 (show 1<=z.length by omega),zC1 (show z.length<=6 by omega),List.all_map];rfl
     rw[←e];exact q H' s0
def sC:FnScope WD WD (ao jy):=%[|5]
def sI(F:#["is_figures",jy])(B:Bl mg)(T:Tx K mg):#[1,f,fd,WD,spTxt kQ]:=by
 exists sC
 erw[z,1,hz,q]at h;erw[t1,g1]at T.figures;erw[t3,g3]at T.most;refine⟨_,(aa (aJ (PW.pt (eC (ai dG (aI di rfl B.len zB1 %[0|aQ]) af (ax _)) (dM (ai iy (aI di rfl B.len zB1 %[0|aQ]) (dI (v:=.int 12) rfl g3 ⟨_,rfl⟩) (ax _))))) (ae (ay eU)) aB)
  (aa (aJ (PW.pt (jE (ai iy (aI di rfl B.len zB1 %[0|aQ]) af (ax _)) (jD (eD (dC zV1 PySem.F.slot_str_startswith PySem.F.type_str_startswith sN (pv 0) %[aq|aQ]))))) (ae (ay eU)) aB)
  (ae (ay (aI (nZ rfl) rfl B.all jH1 (ag (cw (N:=[]) (ix:=[]) (cl:=[]) rfl #[5] rfl (Dt (pv 0))
   (λ_ _ _=>cF (eJ tj (pv 0) (dI (v:=.str FIG) rfl g1 %[|0]) (by rfl')))) aQ)))))),?_⟩
 let fls:kQ z=false->Q (.bl false) H:=λe=>by
  have:=q H (Same.refl H)
  rw[e]at this;exact this
 erw[0,z,1,cH hz,2,0,6]
 by_cases c1:(z.length:Int)<1
 . apply aX c1 (dU ?_);exact fls (by unfold kQ;rw[zD1 (show ¬ 1<=z.length by omega)];rfl)
 apply aD c1 ?_;erw[0,z,1,cH hz,2,0,6]
 by_cases c2:(12:Int)<(z.length:Int)
 . apply aX c2 ?_;exact fls (by unfold kQ;rw[zD1 (show ¬ z.length<=12 by omega)];simp)
 apply aD c2 ?_;erw[0,z,1,cH hz,2,0,6]
 by_cases c4:(1:Int)<(z.length:Int)
 . apply aX c4 ?_;erw[0,1,z,0,1,0,6];cases c5:Txt.startswith z "0" with
   |true=>
     apply dU ?_;exact fls (by unfold kQ;rw[c5,zC1 (show 1<z.length by omega)];simp)
   |false=>
     apply cM ?_;let c3:(decide (1<z.length)&&Txt.startswith z "0")=false:=by rw[c5];simp
     erw[0,z,1,λD hD=>?_];apply sg (z:=z) (λi H'=>H' D=some (.lst (((z.cps.toList.take i).map (isIn FIG)).map V.bl))/\Same H H') %[by rw[aP];rfl|zC0 hD _] ?_ ?_
     . rintro i c H' hc ⟨hl,s0⟩;let hi:i<z.cps.size:=(Array.getElem?_eq_some_iff.mp hc).1;rw[rN]at hi;erw[0,2,_,hl,6,Nx.of hi %[6|6]]
       . rw[zF0,zF0,qF0];exact aO #[0]
       . rw [aP];let ec:z.cps.toList[i]?=some c:=#[hc,0]
         rw[qB0,ec,zK0,zK0];rfl
       . intro b o e;rw[aE (aZ e hD)];exact s0 b o e
     . rintro H' ⟨hl,s0⟩;rw[show z.cps.toList.take z.cps.size=z.cps.toList by rw[←zW1];exact zZ0]at hl;erw[D,0,zG0 hl,6];let e:kQ z=(z.cps.toList.map (isIn FIG)).all id:=by
        unfold kQ;rw[c3,zC1 (show 1<=z.length by omega),zC1 (show z.length<=12 by omega),List.all_map];rfl
       rw[←e];exact q H' s0
 . apply aD c4 ?_;apply cM ?_;let c3:(decide (1<z.length)&&Txt.startswith z "0")=false:=by rw[zD1 (show ¬ 1<z.length by omega)];rfl
   erw[0,z,1,λD hD=>?_];apply sg (z:=z) (λi H'=>H' D=some (.lst (((z.cps.toList.take i).map (isIn FIG)).map V.bl))/\Same H H') %[by rw[aP];rfl|zC0 hD _] ?_ ?_
   . rintro i c H' hc ⟨hl,s0⟩;let hi:i<z.cps.size:=(Array.getElem?_eq_some_iff.mp hc).1;rw[rN]at hi;erw[0,2,_,hl,6,Nx.of hi %[6|6]]
     . rw[zF0,zF0,qF0];exact aO #[0]
     . rw [aP];let ec:z.cps.toList[i]?=some c:=#[hc,0]
       rw[qB0,ec,zK0,zK0];rfl
     . intro b o e;rw[aE (aZ e hD)];exact s0 b o e
   . rintro H' ⟨hl,s0⟩;rw[show z.cps.toList.take z.cps.size=z.cps.toList by rw[←zW1];exact zZ0]at hl;erw[D,0,zG0 hl,6];let e:kQ z=(z.cps.toList.map (isIn FIG)).all id:=by
      unfold kQ;rw[c3,zC1 (show 1<=z.length by omega),zC1 (show z.length<=12 by omega),List.all_map];rfl
     rw[←e];exact q H' s0
def Iv:∀c:Fin 26,isIn LET (97+c.val)=true:=by decide
def Gy:∀c:Fin 26,isIn ENDS (97+c.val)=false:=by decide
def ends_in:isIn ENDS 32=true/\isIn ENDS 40=true/\isIn ENDS 41=true:=by decide
def Ep{c:Nat}(h:97<=c/\c<=122):isIn LET c=true:=by
 have:=Iv %[c-97|3]
 rwa [show 97+(%[c-97|3]:Fin 26).val=c by show 97+(c-97)=c;omega]at this
def Bv{c:Nat}(h:97<=c/\c<=122):isIn ENDS c=false:=by
 have:=Gy %[c-97|3]
 rwa [show 97+(%[c-97|3]:Fin 26).val=c by show 97+(c-97)=c;omega]at this
def zE(h:NmK x):jS x=true:=by
 erw[hl,h1,h6,hk]at h;unfold jS;rw[jM,zC1 h1,zC1 h6,zD1 hk];simp only[Bool.and_self,Bool.not_false,wY1];rw[wA1];exact λc hc=>Ep (hl c hc)
def stl(l:List Nat):Str:=%[|l.toArray]
def Fr{a b:Str}(h:a.cps.toList=b.cps.toList):a=b:=by
 cases a with
 |mk x=>
   cases b with
   |mk y=>
     have:x=y:=Array.toList_inj.mp h
     rw[this]
def lQ(x:Str):stl x.cps.toList=x:=rfl
def Fu(l:List Nat):(stl l).length=l.length:=by
 show l.toArray.size=_
 simp
def jg(a b:Str):(a++b).cps.toList=a.cps.toList++b.cps.toList:=by simp [jC1]
def vk:(("(":Str)).cps.toList=[40]:=by decide
def Eh:((")":Str)).cps.toList=[41]:=by decide
def mq:((" ":Str)).cps.toList=[32]:=by decide
def Cz{a b:Str}(h:V.str a=V.str b):a=b:=V.str.inj h
def neStr{a b:Str}(h:a≠b):¬ V.str a=V.str b:=λz=>h (Cz z)
def jn(c:Nat):List (List Nat)->List Nat
 | []=>[]
 | [a]=>a
 |a::b::r=>a++c::jn c (b::r)
def EU{c:Nat}:∀{a b x y:List Nat},c∉a->c∉b->a++c::x=b++c::y->a=b/\x=y
 | [],[],_,_,_,_,h=>%[1|(List.cons.inj h).2]
 | [],d::b,x,y,_,hb,h=>by
   have:=(List.cons.inj h).1
   exact absurd (by rw[this];exact zX0) hb
 |d::a,[],x,y,ha,_,h=>by
   have:=(List.cons.inj h).1
   exact absurd (by rw[←this];exact zX0) ha
 |d::a,e::b,x,y,ha,hb,h=>by
   let h':=List.cons.inj h;let r:=EU (λz=>ha (qK0 _ z)) (λz=>hb (qK0 _ z)) h'.2;erw[by rw[h'.1,r.1],r.2]
def En{c:Nat}:∀{l m:List (List Nat)},l≠[]->m≠[]->(∀a∈l,c∉a)->(∀a∈m,c∉a)->jn c l=jn c m->l=m
 | [],_,h,_,_,_,_=>absurd rfl h
 |_::_,[],_,h,_,_,_=>absurd rfl h
 | [a],[b],_,_,_,_,h=>congrArg (λz=>[z]) h
 | [a],b::d::r,_,_,hl,_,h=>by
   have:c∈a:=by
    rw[show a=b++c::jn c (d::r)from h]
    simp
   exact absurd this (hl a zX0)
 |a::d::r,[b],_,_,_,hm,h=>by
   have:c∈b:=by
    rw[show b=a++c::jn c (d::r)from h.symm]
    simp
   exact absurd this (hm b zX0)
 |a::d::r,b::e::s,_,_,hl,hm,h=>by
   let q:=EU (hl a zX0) (hm b zX0) (show a++c::jn c (d::r)=b++c::jn c (e::s)from h)
   have:=En #[2] #[2] (λz hz=>hl z (qK0 _ hz)) (λz hz=>hm z (qK0 _ hz)) q.2
   rw[q.1,this]
def cd(x:Str):List Nat:=x.cps.toList
def Jc(h:cd x=cd y):x=y:=by
 have:x.cps=y.cps:=Array.toList_inj.mp h
 cases x;cases y;exact congrArg Str.mk this
def tQ(x y:Str):cd (x++y)=cd x++cd y:=by
 unfold cd;rw[jC1]
 simp
def lC(c:Nat):∀ps:List Str,cd (Str.join %[|#[c]] ps)=jn c (ps.map cd)
 | []=>rfl
 | [a]=>rfl
 |a::b::r=>by
   show cd (a++%[|#[c]]++Str.join ⟨#[c]⟩ (b::r))=cd a++c::jn c ((b::r).map cd);rw[tQ,tQ,lC c (b::r)]
   simp [cd]
def vo(sep:Str):∀ps:List Str,Txt.join sep ps=Str.join sep ps
 | []=>rfl
 |a::r=>StrLaws.glued_cons sep r a
def xI(x y:Str):Txt.split x y≠[]:=by
 unfold Txt.split
 split
 . exact wB1 _ _
 . split
   . exact wB1 _ _
   . intro h
     have:=length_partsBetween x (Builtin.Str.occurrences x y 0 x.length (x.length+1)) y.length
     rw[h]at this
     simp at this
def rM:∀{l m:List Str},l.map cd=m.map cd->l=m
 | [],[],_=>rfl
 | [],_::_,h=>by simp at h
 |_::_,[],h=>by simp at h
 |a::l,b::m,h=>by
   let h':=List.cons.inj h;rw[Jc h'.1,rM h'.2]
def lR{c:Nat}{ps:List Str}(h0:ps≠[])(hf:∀p∈ps,c∉cd p):Txt.split (Str.join %[|#[c]] ps) ⟨#[c]⟩=ps:=by
 apply rM ?_;apply En (c:=c) (λh=>xI _ _ (List.map_eq_nil_iff.mp h)) (λh=>h0 (List.map_eq_nil_iff.mp h)) ?_ ?_ ?_
 . intro a ha;let%[p,hp|1]:=List.mem_map.mp ha;exact StrLaws.split_free _ c p hp
 . intro a ha;let%[p,hp|1]:=List.mem_map.mp ha;exact hf p hp
 . rw[←lC,←lC,StrLaws.join_split]
def cR(n:Int):Str:=toString n
def vg(m:Nat):cd (cR (m:Int))=(Nat.toDigits 10 m).map Char.toNat:=PySem.W.KIN.signs_num m
def iG{n:Int}(h0:0<=n):∀c∈cd (cR n),48<=c/\c<=57:=by
 let%[m|1]:=qA1 h0;intro c hc;rw[vg]at hc;let%[ch,hch|e]:=List.mem_map.mp hc;rw[←e];exact PyProof.Rows.digit_range (Nat.isDigit_of_mem_toDigits ⋯ ⋯ hch)
def DW{n:Int}(h0:0<=n):cd (cR n)≠[]:=by
 let%[m|1]:=qA1 h0;rw[vg];intro e;let h:=PySem.toDigits_len_ge 10 m;rw[List.map_eq_nil_iff.mp e]at h;exact absurd h ⋯
def jI{n:Int}(h0:0<=n)(h1:n<1000000000000):(cR n).length<=12:=jW0 h0 ⋯ (by show n<10 ^ 12;omega)
def wv{n:Int}(h0:0<=n):1<=(cR n).length:=by
 let h:=DW h0;let e:(cd (cR n)).length=(cR n).length:=rfl;cases c:cd (cR n)with
 |nil=>exact absurd c h
 |cons a r=>rw[←e,c];simp
def ve{n:Int}(h0:0<=n)(h1:n<1000000000000):PySem.intText? (cR n)=some n:=by
 let e:=intText_digits (x:=cR n) (iG h0) (DW h0) (zT0 (jI h0 h1) ⋯);let%[m|1]:=qA1 h0;let e2:=vg m;unfold cd at e2;rw[e2,PySem.W.KIN.val_back]at e;exact e
def GK(m:Nat)(h:0<m):∃d r,Nat.toDigits 10 m=d::r/\d.toNat≠48:=by
 induction m using Nat.strongRecOn with
 |_ m ih=>
   by_cases c:m<10
   . erw[Nat.digitChar m,[],Nat.toDigits_of_lt_base c,6]
     have:∀d:Nat,d<10->0<d->(Nat.digitChar d).toNat≠48:=by decide
     exact this m c h
   . let hm:m % 10<10:=Nat.mod_lt m ⋯;let t:Nat.toDigits 10 (m / 10)++Nat.toDigits 10 (m % 10)=Nat.toDigits 10 (10*(m / 10)+m % 10):=Nat.toDigits_append_toDigits ⋯ #[0] hm;rw[Nat.div_add_mod]at t;let%[d,r,e|hd]:=ih (m / 10) #[0] #[0];erw[d,r++Nat.toDigits 10 (m % 10),by rw[←t,e];rfl,hd]
def IP:∀c:Nat,c<58->48<=c->isIn FIG c=true:=by decide
def vf{n:Int}(h0:0<=n)(h1:n<1000000000000):kQ (cR n)=true:=by
 unfold kQ;rw[zC1 (wv h0),zC1 (jI h0 h1)];let a:(cd (cR n)).all (isIn FIG)=true:=List.all_eq_true.mpr λc hc=>by
  have:=iG h0 c hc
  exact IP c #[0] this.1
 let a':(cR n).cps.toList.all (isIn FIG)=true:=a;rw[a'];let b:(decide (1<(cR n).length)&&Txt.startswith (cR n) "0")=false:=by
  by_cases c:1<(cR n).length
  . let%[m|1]:=qA1 h0;let hm:0<m:=by
     apply jS1 ?_;intro z;subst z
     revert c
     decide
    let%[d,r,e|hd]:=GK m hm;let e0:(cR (m:Int)).cps.toList[0]?=some d.toNat:=by
     have:=vg m
     unfold cd at this;rw[this,e];rfl
    let z:decide (V.str (%[|#[d.toNat]]:Str)=V.str "0")=false:=zD1 λz=>by
     have:=V.str.inj z
     let e1:("0":Str)=%[|#[48]]:=by decide
     rw[e1]at this;injection this with this
     have:=congrArg Array.toList this
     simp at this
     exact hd this
    rw[vO e0,z,wQ0]
  . rw[zD1 c];rfl
 rw[b];rfl
def NL:Str:=%[|#[10]]
def DX:("\n":Str)=NL:=by decide
def uc{l:List Str}{b:Nat}(h:∀p∈l,p.length<=b):(l.map (·.length)).sum<=l.length*b:=by
 induction l with
 |nil=>simp
 |cons a r ih=>
   let h1:=h a zX0;let h2:=ih λp hp=>h p (qK0 _ hp)
   simp only[qC0,zP1,zR0];rw[Nat.succ_mul];omega
def Tm.txt:Tm->List Nat
 |.num n=>cd (cR n)
 |.box x=>cd x
 |.plain w=>cd w
 |.ask w a=>[40]++(cd w++([32]++(a.txt++[41])))
 |.op s a b=>[40]++(cd s++([32]++(a.txt++([32]++(b.txt++[41])))))
def Tm.str(t:Tm):Str:=stl t.txt
def na:∀w∈plainW,w.length<=5/\1<=w.length/\(∀c∈w.cps.toList,97<=c/\c<=122)/\w≠"num"/\w≠"box"/\w≠"op":=by decide
def yZ:∀w∈askW,w.length<=4/\1<=w.length/\(∀c∈w.cps.toList,97<=c/\c<=122)/\w≠"num"/\w≠"box"/\w≠"op"/\w∉plainW:=by decide
def ug:∀w∈signW,w.length=1/\(∀c∈w.cps.toList,42<=c/\c<=61)/\w∉askW:=by decide
def dN(x:Str):(cd x).length=x.length:=by unfold cd;rw[zW1];rfl
def Tm.txt_len:∀t:Tm,t.ok->t.txt.length<=14*t.size
 |.num n,h=>by
   have:=jI h.1 h.2
   show(cd (cR n)).length<=14;rw[dN];omega
 |.box x,h=>by
   show(cd x).length<=14;rw[dN]
   have:=h.2.2.1
   omega
 |.plain w,h=>by
   show(cd w).length<=14;rw[dN]
   have:=(na w h).1
   omega
 |.ask w a,⟨h,h1⟩=>by
   have:=Tm.txt_len a h1
   let e4:=(yZ w h).1;show([40]++(cd w++([32]++(a.txt++[41])))).length<=14*(a.size+1)
   simp only[zL0,zR0,zJ1,dN];omega
 |.op o a b,⟨h,h1,h2⟩=>by
   let e1:=Tm.txt_len a h1;let e2:=Tm.txt_len b h2;let e4:=(ug o h).1;show([40]++(cd o++([32]++(a.txt++([32]++(b.txt++[41])))))).length<=14*(a.size+b.size+1)
   simp only[zL0,zR0,zJ1,dN];omega
def Tm.str_len{t:Tm}(h:t.ok):t.str.length<=14*t.size:=by
 unfold Tm.str;rw[Fu];exact t.txt_len h
def Hr.ws:Hr->List Str
 |.fin=>["end"] | .go n=>["go",cR n] | .iff t n=>["if",t.str,cR n] | .set x t=>["set",x,t.str] | .say t=>["say",t.str]
def Hr.str(r:Hr):Str:=Txt.join (" ":Str) r.ws
def Hw{r:Hr}(h:r.ok 20):r.ws.length<=3/\∀z∈r.ws,z.length<=280:=by
 let fixed:∀z∈(Wp:List Str),z.length<=280:=by decide
 let ft:∀{t:Tm},t.fit 20->t.str.length<=280:=fun{t} h=>by
  have:=Tm.str_len h.1
  have:=h.2.1
  omega
 cases r with
 |fin=>erw[4,λz hz=>fixed z (by rw[Nd hz];decide)]
 |go n=>
   erw[by show 2<=3;decide,λz hz=>?_];rcases Nf (show z∈[("go":Str),cR n]from hz)with rfl | hz
   . exact fixed _ ⋯
   . rw [Nd hz]
     have:=jI h.1 h.2
     omega
 |iff t n=>
   erw[by show 3<=3;decide,λz hz=>?_];rcases Nf (show z∈[("if":Str),t.str,cR n]from hz)with rfl | hz
   . exact fixed _ ⋯
   rcases Nf hz with rfl | hz
   . exact ft h.1
   . rw [Nd hz]
     have:=jI h.2.1 h.2.2
     omega
 |set x t=>
   erw[by show 3<=3;decide,λz hz=>?_];rcases Nf (show z∈[("set":Str),x,t.str]from hz)with rfl | hz
   . exact fixed _ ⋯
   rcases Nf hz with rfl | hz
   . have:=h.1.2.2.1
     omega
   . rw[Nd hz];exact ft h.2
 |say t=>
   erw[by show 2<=3;decide,λz hz=>?_];rcases Nf (show z∈[("say":Str),t.str]from hz)with rfl | hz
   . exact fixed _ ⋯
   . rw[Nd hz];exact ft h
def wG(sep:Str)(zs:List Str)(h:sep.length=1):(Txt.join sep zs).length<=(zs.map (·.length)).sum+zs.length:=by
 have:=size_glued sep zs
 rw[h]at this;show(Builtin.Str.glued sep zs).length<=_;omega
def Hv{r:Hr}(h:r.ok 20):(r.ws.map (·.length)).sum+r.ws.length<=900:=by
 let%[h1|h2]:=Hw h
 have:=uc h2
 have:r.ws.length*280<=840:=#[0]
 omega
def Hr.str_len{r:Hr}(h:r.ok 20):r.str.length<=900:=zT0 (wG _ _ ⋯) (Hv h)
def Em{H:Hp}{b:Addr}{ys zs:List V}(h:H b=some (.lst ys)):bZ H (upd H b (.lst zs)):=λa xs e=>by
 rw[aE (λz=>by rw[z,h]at e;cases e)];exact e
def RowsAt.nil:RowsAt H [] []:=%[1|λi v r h=>by simp at h]
def RowsAt.snoc(h:RowsAt H tv rs)(a:HrAt H v r):RowsAt H (tv++[v]) (rs++[r]):=by
 erw[by rw[zL0,zL0,h.1];rfl,λi u s hu hs=>?_];let hl:=h.1
 by_cases c:i<tv.length
 . rw[zQ1 c]at hu;rw[zQ1 #[0]]at hs;exact h.2 i u s hu hs
 . rw [zN1 #[0]]at hu;rw[zN1 #[0]]at hs;let e1:i-tv.length=0:=by
    have:=(zY0 hu).1
    rw[qL0]at this;omega
   let e2:i-rs.length=0:=#[0]
   rw[e1]at hu;rw[e2]at hs;cases hu;cases hs;exact a
def tY(rs:List Hr):Prop:=rs.length<=60/\∀r∈rs,r.ok 20
def pE(rs:List Hr):Str:=Txt.join ("\n":Str) (rs.map Hr.str)
def Ex(g:tY rs):((rs.map Hr.str).map (·.length)).sum+(rs.map Hr.str).length<=60000:=by
 have:=uc (l:=rs.map Hr.str) (b:=900) λp hp=>by
  let%[r,hr|1]:=List.mem_map.mp hp;exact Hr.str_len (g.2 r hr)
 rw[zF0]at this ⊢;let h1:=g.1
 have:rs.length*900<=60*900:=Nat.mul_le_mul_right _ h1
 omega
def Ey(g:tY rs):(pE rs).length<=60000:=zT0 (wG _ _ ⋯) (Ex g)
abbrev ou:Stmt:=top 65
abbrev uy:Stmt:=bu ou 0
abbrev qx:Stmt:=bu ou 1
abbrev ux:Stmt:=bu ou 2
abbrev uv:Stmt:=bu ou 3
abbrev uu:Stmt:=bu ou 4
abbrev ot:Stmt:=bu ou 5
structure STxt(K:W.Frag)(mg:#[9])(C:Addr):Prop where
 cl:Cls K C
 nX:NoAttr K C "text"
 nR:NoAttr K C "row"
 nW:NoAttr K C "most_within"
 nP:NoAttr K C "most_parts"
 nL:NoAttr K C "place"
 nN:NoAttr K C "parts"
 mgC:mg "Scan"=some (.ref C)
def qQ(f:Str)(v:V):∀(fs:List (Str×V))(u:V),fs.lookup f=some u->(bV f v fs).length=fs.length
 | [],u,h=>by cases h
 | (g,x)::r,u,h=>by
   unfold bV
   by_cases e:g=f
   . rw[M8 e];rfl
   . rw [M6 e];let e':(f==g)=false:=#[λz=>e z.symm,0]
     simp only[List.lookup,e']at h;rw[zR0,zR0,qQ f v r u h]
def cv(f:Str)(v:V):∀fs:List (Str×V),(bV f v fs).length<=fs.length+1
 | []=>zH0 _
 | (g,u)::r=>by
   have:=cv f v r
   unfold bV
   split
   . simp
   . simp only[zR0];omega
structure SF(T:Str)(p n:Nat)(fs:List (Str×V)):Prop where
 text:fs.lookup ("text":Str)=some (.str T)
 mw:fs.lookup ("most_within":Str)=some (.int 8)
 mp:fs.lookup ("most_parts":Str)=some (.int 20)
 place:fs.lookup ("place":Str)=some (.int (p:Int))
 parts:fs.lookup ("parts":Str)=some (.int (n:Int))
 no1:fs.lookup ("enter":Str)=none
 no2:fs.lookup ("sees":Str)=none
 no3:fs.lookup ("take":Str)=none
 no4:fs.lookup ("word":Str)=none
 no5:fs.lookup ("finish":Str)=none
 len:fs.length<=6
def SF.toPlace(h:SF T p n fs)(p':Nat):SF T p' n (bV "place" (.int (p':Int)) fs):=by
 erw[6,6,6,6,6,6,6,6,6,6,6]
 . rw[az,M6 ⋯];exact h.text
 . rw[az,M6 ⋯];exact h.mw
 . rw[az,M6 ⋯];exact h.mp
 . rw[az,M8 rfl]
 . rw[az,M6 ⋯];exact h.parts
 . rw[az,M6 ⋯];exact h.no1
 . rw[az,M6 ⋯];exact h.no2
 . rw[az,M6 ⋯];exact h.no3
 . rw[az,M6 ⋯];exact h.no4
 . rw[az,M6 ⋯];exact h.no5
 . rw[qQ _ _ _ _ h.place];exact h.len
def SF.toParts(h:SF T p n fs)(n':Nat):SF T p n' (bV "parts" (.int (n':Int)) fs):=by
 erw[6,6,6,6,6,6,6,6,6,6,6]
 . rw[az,M6 ⋯];exact h.text
 . rw[az,M6 ⋯];exact h.mw
 . rw[az,M6 ⋯];exact h.mp
 . rw[az,M6 ⋯];exact h.place
 . rw[az,M8 rfl]
 . rw[az,M6 ⋯];exact h.no1
 . rw[az,M6 ⋯];exact h.no2
 . rw[az,M6 ⋯];exact h.no3
 . rw[az,M6 ⋯];exact h.no4
 . rw[az,M6 ⋯];exact h.no5
 . rw[qQ _ _ _ _ h.parts];exact h.len
def sfs(T:Str)(k:Int):List (Str×V):=bV "parts" (.int 0) (bV "place" (.int 0) (bV "most_parts" (.int 20) (bV "most_within" (.int 8) (bV "row" (.int k) (bV "text" (.str T) [])))))
def HK(T:Str)(k:Int):SF T 0 0 (sfs T k):=by
 let no:∀m:Str,m≠"parts" -> m≠"place" -> m≠"most_parts" -> m≠"most_within" -> m≠"row" -> m≠"text" -> (sfs T k).lookup m=none:=λm h1 h2 h3 h4 h5 h6=>by
  unfold sfs;rw[az,M6 h1,az,M6 h2,az,M6 h3,az,M6 h4,az,M6 h5,az,M6 h6];rfl
 erw[6,6,6,6,6,no _ ⋯ ⋯ ⋯ ⋯ ⋯ ⋯,no _ ⋯ ⋯ ⋯ ⋯ ⋯ ⋯,no _ ⋯ ⋯ ⋯ ⋯ ⋯ ⋯,no _ ⋯ ⋯ ⋯ ⋯ ⋯ ⋯,no _ ⋯ ⋯ ⋯ ⋯ ⋯ ⋯,6]
 . unfold sfs;rw[az,M6 ⋯,az,M6 ⋯,az,M6 ⋯,az,M6 ⋯,az,M6 ⋯,az,M8 rfl]
 . unfold sfs;rw[az,M6 ⋯,az,M6 ⋯,az,M6 ⋯,az,M8 rfl]
 . unfold sfs;rw[az,M6 ⋯,az,M6 ⋯,az,M8 rfl]
 . unfold sfs;rw[az,M6 ⋯,az,M8 rfl];rfl
 . unfold sfs;rw[az,M8 rfl];rfl
 . unfold sfs;apply zT0 (cv _ _ _) (zG1 (zT0 (cv _ _ _) (zG1 (zT0 (cv _ _ _) (zG1 (zT0 (cv _ _ _) (zG1 (zT0 (cv _ _ _) (zG1 (cv _ _ _))))))))))
def ScanAt(C:Addr)(H:Hp)(sc:Addr)(T:Str)(p n:Nat):Prop:=∃dx fs,H sc=some (.ins C dx fs)/\SF T p n fs
instance spSInit(C:Addr):∀(g dx:Addr)(T:Str)(k:Int),vs=[.ref g,.str T,.int k,.int 8,.int 20]->H g=some (.ins C dx [])->(∀H',ScanAt C H' g T 0 0->SameBut g H H'->Q .non H'):=1
def CT:FnScope Wg Wg (ao uy):=%[|5]
def DK(F:#["__init__","Scan.__init__",uy])(T:STxt K mg C):#[1,f,fd,Wg,spSInit C]:=by
 exists CT
 erw[g,dx,Tx,kr,1,hg,q]at h;erw[_,(aa (ba (pv 0) (pv 1) rfl) (aa (ba (pv 0) (pv 2) rfl) (aa (ba (pv 0) (pv 3) rfl) (aa (ba (pv 0) (pv 4) rfl) (aa (ba (pv 0) af rfl) (ae (ba (pv 0) af rfl))))))),6];erw[0,0,g,C,dx,[],1,hg,T.cl,T.nX,(by show 0<1000;decide),6];erw[0,0,g,C,dx,0,aP,9,T.nR,(zL1 (cv _ _ _) (by show 1<1000;decide)),6];erw[0,0,g,C,dx,0,aP,9,T.nW,(zL1 (cv _ _ _) (zL1 (zG1 (cv _ _ _)) (by show 2<1000;decide))),6];erw[0,0,g,C,dx,0,aP,9,T.nP,(zL1 (cv _ _ _) (zL1 (zG1 (zT0 (cv _ _ _) (zG1 (cv _ _ _)))) (by show 3<1000;decide))),6];erw[0,g,C,dx,0,aP,9,T.nL,(zL1 (cv _ _ _) (zL1 (zG1 (zT0 (cv _ _ _) (zG1 (zT0 (cv _ _ _) (zG1 (cv _ _ _)))))) (by show 4<1000;decide))),6];erw[0,g,C,dx,0,aP,9,T.nN,(zL1 (cv _ _ _) (zL1 (zG1 (zT0 (cv _ _ _) (zG1 (zT0 (cv _ _ _) (zG1 (zT0 (cv _ _ _) (zG1 (cv _ _ _)))))))) (by show 5<1000;decide))),6];exact q _ ⟨dx,sfs Tx kr,aP,HK Tx kr⟩ ((SameBut.upd _).trans ((SameBut.upd _).trans ((SameBut.upd _).trans ((SameBut.upd _).trans ((SameBut.upd _).trans (SameBut.upd _))))))
def SF.size(h:SF T p n fs):fs.length<1000:=zL1 h.len ⋯
instance spEnter(C:Addr):∀(sc:Addr)(T:Str)(p n:Nat)(wi:Int),vs=[.ref sc,.int wi]->ScanAt C H sc T p n->wi<=8->n+1<=20->(∀H',ScanAt C H' sc T p (n+1)->SameBut sc H H'->Q .non H'):=1
def Ar:FnScope Wh Wh (ao qx):=%[|5]
def AM(F:#["enter","Scan.enter",qx])(T:STxt K mg C):#[1,f,fd,Wh,spEnter C]:=by
 exists Ar
 erw[sc,Tx,p,n,wi,1,%[dx,fs,hs|sf],w10,n30,q]at h;refine⟨_,(aa (ba (pv 0) (au aS (aF (pv 0) rfl) af) rfl)
  (ae (aJ (PW.pt (eC (ai iy (pv 1) (aF (pv 0) rfl) (ax _)) (dM (ai iy (aF (pv 0) rfl) (aF (pv 0) rfl) (ax _))))) bO aB))),?_⟩
 let sf':=sf.toParts (n+1);erw[0,sc,C,dx,fs,0,hs,9,T.nN,sf.parts,2,0,sc,C,dx,fs,1,hs,9,T.nN,sf.size,6];let hs':upd H sc (.ins C dx (bV "parts" (.int ((n:Int)+1)) fs)) sc=some (.ins C dx (bV "parts" (.int ((n+1:Nat):Int)) fs)):=aP;erw[0,0,sc,C,dx,_,0,hs',9,T.nW,sf'.mw,2,0,6];apply aD #[0] ?_;erw[0,sc,C,dx,_,0,hs',9,T.nN,sf'.parts,0,sc,C,dx,_,0,hs',9,T.nP,sf'.mp,2,0,6];apply aD #[0] ?_;exact q _ ⟨dx,_,hs',sf'⟩ (SameBut.upd _)
instance spSees(C:Addr):∀(sc:Addr)(T u:Str)(p n:Nat),vs=[.ref sc,.str u]->ScanAt C H sc T p n->Q (.bl (gN T u p)) H:=1
def CQ:FnScope WG WG (ao ux):=%[|5]
def DJ(F:#["sees","Scan.sees",ux])(T:STxt K mg C):#[1,f,fd,WG,spSees C]:=by
 exists CQ
 erw[sc,Tx,u,p,n,1,%[dx,fs,hs|sf],q]at h;erw[_,(ae (ay (dC zV1 PySem.F.slot_str_startswith PySem.F.type_str_startswith wz (aF (pv 0) rfl) %[1,aF (pv 0) rfl|aQ]))),6];erw[0,sc,C,dx,fs,0,hs,9,T.nX,sf.text,1,0,0,sc,C,dx,fs,0,hs,9,T.nL,sf.place,Tx,u,0,1,q]
instance spTake'(C:Addr):∀(sc:Addr)(T u:Str)(p n:Nat),vs=[.ref sc,.str u]->ScanAt C H sc T p n->gN T u p=true->u.length<=10->(∀H',ScanAt C H' sc T (p+u.length) n->SameBut sc H H'->Q .non H'):=1
def CP:FnScope WG WG (ao uv):=%[|5]
def DI(F:#["take","Scan.take",uv])(B:Bl mg)(T:STxt K mg C)(mS:Meth K C "sees" fS)(GS:#[1,fS,fdS,WG,spSees C])(bS:Binds K fdS WG []):#[2,f,fd,WG,spTake' C]:=by
 exists CP
 erw[sc,Tx,u,p,n,1,S,hu,u10,q]at h;let hr1:Room 1 _:=hr.mono ⋯;refine⟨_,(aa (aJ (gy (eD (bQ (pv 0) T.cl mS GS hr1 bS .nil bn %[1|aQ]))) bO aB)
  (ae (ba (pv 0) (au aS (aF (pv 0) rfl) (aI di rfl B.len zB1 %[1|aQ])) rfl))),?_⟩
 let%[dx,fs,hs|sf]:=id S;erw[0,sc,dx,fs,1,hs,sf.no2,0,sc,Tx,u,p,n,1,S,0,6];rw[hu];apply cM ?_;erw[0,sc,C,dx,fs,0,hs,9,T.nL,sf.place,0,u,1,cH #[0],2,0,sc,C,dx,fs,1,hs,T.cl,T.nL,sf.size,6];let hs':upd H sc (.ins C dx (bV "place" (.int ((p:Int)+(u.length:Int))) fs)) sc=some (.ins C dx (bV "place" (.int ((p+u.length:Nat):Int)) fs)):=by rw[aP,wJ0]
 exact q _ %[dx,_,hs'|sf.toPlace _] (SameBut.upd _)
def xx(r:List Nat):Prop:=r=[]∨∃c r',r=c::r'/\(c=32∨c=40∨c=41)
instance spWord(C:Addr):∀(sc:Addr)(T:Str)(p n:Nat)(x r:List Nat),vs=[.ref sc]->ScanAt C H sc T p n->T.length<=1000->p<=T.length->T.cps.toList.drop p=x++r->(∀c∈x,isIn ENDS c=false)->xx r->(∀H',ScanAt C H' sc T (p+x.length) n->SameBut sc H H'->Q (.str (stl x)) H'):=1
def Ju:FnScope ["self","start"] WA (ao uu):=%[|5]
def DH(F:#["word","Scan.word",uu])(B:Bl mg)(X:Tx K mg)(T:STxt K mg C):#[1,f,fd,WA,spWord C]:=by
 exists Ju
 erw[sc,Tx,p,n,x,r,1,%[dx,fs,hs|sf],tl,pl,hd,xl,er,q]at h;erw[te,ge]at X.ends;refine⟨_,(aa #[aj,1,Ju,aF (pv 0) rfl]
  (aa (iY zF1 (PW.pt (jE (ai dG (aF (pv 0) rfl) (aI di rfl B.len zB1 %[aF (pv 0) rfl|aQ]) (ax _)) (jD (ai uQ (aN rO (aF (pv 0) rfl) (aF (pv 0) rfl) #[1]) (dI (v:=.str ENDS) rfl ge %[|0]) (by rfl'))))) (ae (ba (pv 0) (au aS (aF (pv 0) rfl) af) rfl)))
  (ae (ay (fg xL (aF (pv 0) rfl) (fe (pv 1)) (fe (aF (pv 0) rfl))))))),?_⟩
 let L:Tx.cps.toList.length=Tx.length:=by rw[zW1];rfl
 let hlen:Tx.length=p+(x.length+r.length):=by
  have:=congrArg List.length hd
  rw[jL0,zL0,L]at this;omega
 erw[0,sc,C,dx,fs,0,hs,9,T.nL,sf.place,6];erw[λm σ H'=>∃j:Nat,j<=x.length/\σ=[some (.ref sc),some (.int (p:Int))]/\ScanAt C H' sc Tx (p+j) n/\SameBut sc H H'/\m=x.length-j,%[_,(0),zP0 _,1,%[dx,fs,hs|sf],SameBut.refl _ _|1],6];rintro m σ H1 ⟨j,hj,rfl,⟨dx1,fs1,hs1,sf1⟩,S1,rfl⟩;erw[0,sc,C,dx1,fs1,0,hs1,9,T.nL,sf1.place,0,sc,C,dx1,fs1,0,hs1,9,T.nX,sf1.text,Tx,1,cH tl,2,0,6];let sl:j=x.length->Txt.slice Tx (some (p:Int)) (some ((p+j:Nat):Int))=stl x:=λej=>by
  let es:Txt.slice Tx (some (p:Int)) (some ((p+j:Nat):Int))=_:=StrLaws.sliceText_plain (i:=(p:Int)) (j:=((p+j:Nat):Int)) %[3,3|by rw[L];omega];rw[es];apply Fr ?_;show(Tx.cps.toList.drop (p:Int).toNat).take (((p+j:Nat):Int)-(p:Int)).toNat=x;rw[show(p:Int).toNat=p by omega,show(((p+j:Nat):Int)-(p:Int)).toNat=x.length by omega,hd,List.take_left'];rfl
 by_cases c1:(((p+j:Nat):Int))<(Tx.length:Int)
 . apply aX c1 ?_;let hk:p+j<Tx.cps.toList.length:=by rw[L];omega
   let ha:atI Tx.cps.toList ((p+j:Nat):Int)=some Tx.cps.toList[p+j]:=bv (zN0 hk);let hx:Tx.cps.toList[p+j]?=(x++r)[j]?:=by rw[←hd,List.getElem?_drop]
   erw[0,sc,C,dx1,fs1,0,hs1,9,T.nX,sf1.text,0,sc,C,dx1,fs1,0,hs1,9,T.nL,sf1.place,Tx,2,cH tl,ha,2,0,6]
   by_cases c2:j<x.length
   . let ec:Tx.cps.toList[p+j]=x[j]:=by
      rw[zN0 hk,zQ1 c2,zN0 c2]at hx;exact zO0 hx
     let en:(!isIn ENDS Tx.cps.toList[p+j])=true:=by rw[ec,xl _ (qP0 c2)];rfl
     let en':(!(!(Builtin.Str.occurrences ENDS %[|#[Tx.cps.toList[p+j]]] 0 ENDS.length 1).isEmpty))=true:=en;rw[en'];erw[_,λ_ _ h=>h,6];erw[0,sc,C,dx1,fs1,0,hs1,9,T.nL,sf1.place,2,0,sc,C,dx1,fs1,1,hs1,9,T.nL,sf1.size,6];let hs':upd H1 sc (.ins C dx1 (bV "place" (.int (((p+j:Nat):Int)+1)) fs1)) sc=some (.ins C dx1 (bV "place" (.int ((p+(j+1):Nat):Int)) fs1)):=by
      rw[aP,show((p+j:Nat):Int)+1=((p+(j+1):Nat):Int) by omega]
     erw[_,3,j+1,3,1,%[dx1,_,hs'|sf1.toPlace _],S1.trans (SameBut.upd _),1]
   . let ej:j=x.length:=#[0]
     let en:(!isIn ENDS Tx.cps.toList[p+j])=false:=by
      rcases er with rfl | ⟨c,r',rfl,hc⟩
      . rw[zJ1]at hlen;omega
      . rw [zN0 hk,zN1 #[0],show j-x.length=0 by omega]at hx;let ec:Tx.cps.toList[p+j]=c:=zO0 hx;rw[ec];rcases hc with rfl | rfl | rfl
        . rw[ends_in.1];rfl
        . rw[ends_in.2.1];rfl
        . rw[ends_in.2.2];rfl
     let en':(!(!(Builtin.Str.occurrences ENDS %[|#[Tx.cps.toList[p+j]]] 0 ENDS.length 1).isEmpty))=false:=en;rw[en'];erw[0,sc,C,dx1,fs1,0,hs1,9,T.nX,sf1.text,0,0,0,sc,C,dx1,fs1,0,hs1,9,T.nL,sf1.place,0,Tx,1,cH tl,6];rw[sl ej];rw[ej]at sf1;exact q H1 ⟨dx1,fs1,hs1,sf1⟩ S1
 . apply aD c1 ?_;let ej:j=x.length:=#[0]
   erw[0,sc,C,dx1,fs1,0,hs1,9,T.nX,sf1.text,0,0,0,sc,C,dx1,fs1,0,hs1,9,T.nL,sf1.place,0,Tx,1,cH tl,6];rw[sl ej];rw[ej]at sf1;exact q H1 ⟨dx1,fs1,hs1,sf1⟩ S1
instance spFinish(C:Addr):∀(sc:Addr)(T:Str)(n:Nat),vs=[.ref sc]->ScanAt C H sc T T.length n->T.length<=1000->Q .non H:=1
def xP:FnScope WA WA (ao ot):=%[|5]
def yj(F:#["finish","Scan.finish",ot])(B:Bl mg)(T:STxt K mg C):#[1,f,fd,WA,spFinish C]:=by
 exists xP
 erw[sc,Tx,n,1,%[dx,fs,hs|sf],tl,q]at h;erw[_,(ae (aJ (ai lH (aF (pv 0) rfl) (aI di rfl B.len zB1 %[aF (pv 0) rfl|aQ]) (ax _)) bO aB)),6];erw[0,sc,C,dx,fs,0,hs,9,T.nL,sf.place,0,sc,C,dx,fs,0,hs,9,T.nX,sf.text,Tx,1,cH tl,1,0,6];show if(!decide (V.int (Tx.length:Int)=V.int (Tx.length:Int)))=true then _ else _
 rw[zC1 rfl];exact cM q
def ED(n p:Nat):PySem.fromIndex n (p:Int)=p:=by
 unfold PySem.fromIndex;rw[M6 #[0]];omega
def zk(T u:Str)(p:Nat):Builtin.Str.subAt T u p=decide ((T.cps.toList.drop p).take u.length=u.cps.toList):=by
 unfold Builtin.Str.subAt;let e:(T.cps.extract p (p+u.length)).toList=(T.cps.toList.drop p).take u.length:=by
  rw[Array.toList_extract,List.extract_eq_drop_take]
  congr 1
  omega
 by_cases c:(T.cps.toList.drop p).take u.length=u.cps.toList
 . rw [zC1 c]
   have:T.cps.extract p (p+u.length)=u.cps:=Array.toList_inj.mp (e.trans c)
   rw[this]
   simp
 . rw [zD1 c]
   have:¬ T.cps.extract p (p+u.length)=u.cps:=λz=>c (by rw[←e,z])
   simpa using this
def nq(T:Str):T.cps.toList.length=T.length:=by rw[zW1];rfl
def lx{T:Str}{p:Nat}{u v:List Nat}(h:T.cps.toList.drop p=u++v)(hp:p<=T.length):p+u.length+v.length=T.length:=by
 have:=congrArg List.length h
 rw[jL0,zL0,nq]at this;omega
def cz{T:Str}{p:Nat}{u v:List Nat}(h:T.cps.toList.drop p=u++v):T.cps.toList.drop (p+u.length)=v:=by
 rw[←List.drop_drop,h,List.drop_left]
def eg{T u:Str}{p:Nat}{r:List Nat}(h:T.cps.toList.drop p=u.cps.toList++r)(hp:p<=T.length):gN T u (p:Int)=true:=by
 unfold gN;let hl:=lx h hp;rw[nq]at hl;rw[ED,zk,zC1 #[0],h,←nq u,List.take_left,zC1 rfl];rfl
def Am{T:Str}{p:Nat}{c:Nat}{r:List Nat}(h:T.cps.toList.drop p=c::r)(hc:c≠40):gN T ("(":Str) (p:Int)=false:=by
 unfold gN;let l1:(("(":Str)).length=1:=by decide
 rw[ED,zk,h,vk,l1]
 have:¬ (c::r).take 1=[40]:=λz=>hc #[z,0]
 rw[zD1 this,wQ0]
def dy(S:ScanAt C H sc T p n)(s:SameBut sc H H'):bZ H H':=λa xs h=>s a _ (λz=>by
 erw[dx,fs,e,_]at S;rw[z,e]at h;cases h) h
def ScanAt.same(S:ScanAt C H sc T p n)(s:Same H H'):ScanAt C H' sc T p n:=by
 erw[dx,fs,e,sf]at S;erw[dx,fs,s _ _ e,sf]
structure Mths(P:Program)(w:World)(K:W.Frag)(mg:#[9])(base:Heap)(C fE fS fT fW fF:Addr)(dE dS dT dW dF:FuncData):Prop where
 mE:Meth K C "enter" fE
 gE:#[1,fE,dE,Wh,spEnter C]
 bE:Binds K dE Wh []
 mS:Meth K C "sees" fS
 gS:#[1,fS,dS,WG,spSees C]
 bS:Binds K dS WG []
 mT:Meth K C "take" fT
 gT:#[2,fT,dT,WG,spTake' C]
 bT:Binds K dT WG []
 mW:Meth K C "word" fW
 gW:#[1,fW,dW,WA,spWord C]
 bW:Binds K dW WA []
 mF:Meth K C "finish" fF
 gF:#[1,fF,dF,WA,spFinish C]
 bF:Binds K dF WA []
def EG:∀c:Nat,c<62->42<=c->isIn ENDS c=false:=by decide
def IO:∀c:Fin 26,isIn FIG (97+c.val)=false:=by decide
def Er{c:Nat}(h:97<=c/\c<=122):isIn FIG c=false:=by
 have:=IO %[c-97|3]
 rwa [show 97+(%[c-97|3]:Fin 26).val=c by show 97+(c-97)=c;omega]at this
def BF(h:NmK x):kQ x=false:=by
 unfold kQ;erw[hl,h1,_,_]at h
 have:x.cps.toList.all (isIn FIG)=false:=by
  cases e:x.cps.toList with
  |nil=>
    have:=dN x
    unfold cd at this;rw[e]at this
    simp at this
    omega
  |cons c r=>
    have:=Er (hl c (by rw[e];exact zX0))
    rw[wC1,this];rfl
 rw[this,wQ0]
def oT(l:List Nat):Prop:=∀c∈l,isIn ENDS c=false
def dH{l:List Nat}(h:∀c∈l,97<=c/\c<=122):oT l:=λc hc=>Bv (h c hc)
def qZ{l:List Nat}(h:∀c∈l,42<=c/\c<=61):oT l:=λc hc=>EG c (by have:=h c hc;omega) (h c hc).1
def qY{n:Int}(h:0<=n):oT (cd (cR n)):=qZ λc hc=>by have:=iG h c hc;omega
def AI(h:oT l)(h1:1<=l.length)(r:List Nat):∃c r',l++r=c::r'/\c≠40:=by
 cases l with
 |nil=>cases h1
 |cons c l'=>
   erw[c,l'++r,1,λe=>?_]
   have:=h c zX0
   rw[e,ends_in.2.1]at this;cases this
instance spNextT(C:Addr)(n:Nat):∀(sc:Addr)(wi:Int)(T:Str)(p k:Nat)(t:Tm)(r:List Nat),vs=[.ref sc,.int wi]->ScanAt C H sc T p k->T.length<=1000->p<=T.length->T.cps.toList.drop p=[32]++(t.txt++r)->xx r->t.ok->t.depth<=n->wi+(t.depth:Int)<=9->k+t.size<=20->(∀(v:V)(H':Hp),TmAt H' v t->ScanAt C H' sc T (p+1+t.txt.length) (k+t.size)->SameBut sc H H'->Q v H'):=1
instance spTB(C:Addr)(n:Nat):∀(sc:Addr)(wi:Int)(T:Str)(p k:Nat)(t:Tm)(r:List Nat),vs=[.ref sc,.int wi]->ScanAt C H sc T p (k+1)->T.length<=1000->p<=T.length->T.cps.toList.drop p=t.txt++r->t.ok->((∃w a,t=.ask w a)∨∃s a b,t=.op s a b)->t.depth<=n+1->wi+(t.depth:Int)<=9->k+t.size<=20->(∀(v:V)(H':Hp),TmAt H' v t->ScanAt C H' sc T (p+t.txt.length) (k+t.size)->SameBut sc H H'->Q v H'):=1
def cg:FnScope ["scan","within","word","first","term"] WJ (ao dO):=%[|5]
def Fm{n:Nat}(F:#["term_in_bracket",dO])(X:Tx K mg)(T:STxt K mg C)(M:Mths P w K mg base C fE fS fT fW fF dE dS dT dW dF)(c8:#[2*n+3,"next_term",WJ,spNextT C n]):#[2*n+4,f,fd,WJ,spTB C n]:=by
 exists cg
 erw[sc,wi,Tx,p,k,t,r,1,S0,tl,pl,hd,ok,kind,dn,wd,k20,q]at h;erw[ja,gj,hj]at X.asking;erw[sa,gs,hs]at X.signs;let hr1:Room 1 _:=hr.mono #[0];let hr2:Room 2 _:=hr.mono #[0];refine⟨_,(aa (aW (bQ (pv 0) T.cl M.mT M.gT hr2 M.bT .nil bn %[aq|aQ]))
  (aa #[aj,2,cg,cx (pv 0) T.cl M.mW M.gW hr1 M.bW .nil bn]
  (aa #[aj,3,cg,am c8 hr #[0] rfl %[0,au aS (pv 1) af|aQ]]
  (aa (aJ (ai eV (pv 2) (dI (v:=.ref ja) rfl gj rfl) (by rfl')) (ae #[aj,4,cg,aM %[2,3|aQ]]) (ae (aJ (ai eV (pv 2) (dI (v:=.ref sa) rfl gs rfl) (by rfl')) (ae #[aj,4,cg,aM %[aq,2,3,am c8 hr #[0] rfl %[0,au aS (pv 1) af|aQ]|aQ]]) bO)))
  (aa (aW (bQ (pv 0) T.cl M.mT M.gT hr2 M.bT .nil bn %[aq|aQ]))
  (ae (ay (pv 4)))))))),?_⟩
 let l1:(("(":Str)).length=1:=by decide
 let l3:((")":Str)).length=1:=by decide
 let%[dx0,fs0,hs0|sf0]:=id S0;rcases kind with⟨wd',a,rfl⟩ | ⟨o,a,b,rfl⟩
 . erw[okw,oka]at ok;let%[_,w1,wl|_]:=yZ wd' okw;let da:a.depth<=n:=Nat.le_of_succ_le_succ dn;let ed:(((Tm.ask wd' a).depth:Nat):Int)=(a.depth:Int)+1:=by show((a.depth+1:Nat):Int)=_;omega
   let es:(Tm.ask wd' a).size=a.size+1:=rfl;let wlen:(cd wd').length=wd'.length:=dN _;let hd0:Tx.cps.toList.drop p=[40]++(cd wd'++([32]++(a.txt++([41]++r)))):=by
    rw[hd];show([40]++(cd wd'++([32]++(a.txt++[41]))))++r=_
    simp
   let tlen:(Tm.ask wd' a).txt.length=1+(wd'.length+(1+(a.txt.length+1))):=by
    show([40]++(cd wd'++([32]++(a.txt++[41])))).length=_;simp only[zL0,zR0,zJ1,wlen]
   let hl0:=lx hd0 pl;simp only[zL0,zR0,zJ1,wlen]at hl0;let hd1:=cz hd0;let hd2:=cz hd1;let hd3:=cz hd2;let hd4:=cz hd3;simp only[zR0,zJ1,wlen]at hd1 hd2 hd3 hd4;erw[0,sc,dx0,fs0,1,hs0,sf0.no3,sc,Tx,_,p,0,S0,eg (r:=cd wd'++([32]++(a.txt++([41]++r)))) (by rw[vk];exact hd0) pl,by rw[l1];decide,λH1 S1 B1=>?_];rw[l1]at S1;let%[dx1,fs1,hs1|sf1]:=id S1;erw[0,sc,dx1,fs1,1,hs1,sf1.no4,sc,Tx,_,_,cd wd',0,S1,tl,3,hd1,dH wl,.inr %[(32),0|.inl rfl],λH2 S2 B2=>?_];rw[wlen]at S2;erw[0,0,2,sc,wi+1,Tx,_,_,a,0,S2,tl,3,hd2,.inr %[(41),r,1|.inr (.inr rfl)],oka,da,3,3,λv1 H3 T3 S3 B3=>?_];erw[0,ja,0,.inr (hj _),1,⋯,0,6];let einj:inV (.str (stl (cd wd'))) (askW.map V.str)=true:=by rw[show stl (cd wd')=wd' from lQ _,jM,zC1 okw]
   rw[einj];apply dU ?_;erw[0,0,y2S,λc hc=>?_];let G:=zC0 hc (.tup [.str (stl (cd wd')),v1]);let S4:=S3.same G;let ec:upd H3 c (.tup [.str (stl (cd wd')),v1]) c=some (.tup [.str wd',v1]):=aP;let T4:=T3.mono (bh G);generalize upd H3 c (.tup [.str (stl (cd wd')),v1])=H4 at G S4 ec T4;let%[dx4,fs4,hs4|sf4]:=id S4;erw[0,sc,dx4,fs4,1,hs4,sf4.no3,sc,Tx,_,_,0,S4,eg (r:=r) (by rw[Eh,show p+1+wd'.length+1+a.txt.length=p+(0+1)+wd'.length+(0+1)+a.txt.length by omega];exact hd4) #[0],by rw[l3];decide,λH5 S5 B5=>?_];rw[l3]at S5;let k5:=dy S4 B5;erw[0,6];rw[show p+1+wd'.length+1+a.txt.length+1=p+(Tm.ask wd' a).txt.length by rw[tlen];omega,show k+1+a.size=k+(Tm.ask wd' a).size by rw[es];omega]at S5;exact q _ _ (.ask (k5 _ _ ec) (T4.mono k5)) S5 (B1.trans (B2.trans (B3.trans ((zJ0 G).trans B5))))
 . erw[oko,oka,okb]at ok;let%[o1,ol|no]:=ug o oko;let dd:a.depth<=n/\b.depth<=n/\wi+(a.depth:Int)<=8/\wi+(b.depth:Int)<=8:=by
    let e1:(Tm.op o a b).depth=max a.depth b.depth+1:=rfl;rw[e1]at dn wd;omega
   let es:(Tm.op o a b).size=a.size+b.size+1:=rfl;let wlen:(cd o).length=o.length:=dN _;let hd0:Tx.cps.toList.drop p=[40]++(cd o++([32]++(a.txt++([32]++(b.txt++([41]++r)))))):=by
    rw[hd];show([40]++(cd o++([32]++(a.txt++([32]++(b.txt++[41]))))))++r=_
    simp
   let tlen:(Tm.op o a b).txt.length=1+(o.length+(1+(a.txt.length+(1+(b.txt.length+1))))):=by
    show([40]++(cd o++([32]++(a.txt++([32]++(b.txt++[41])))))).length=_;simp only[zL0,zR0,zJ1,wlen]
   let hl0:=lx hd0 pl;simp only[zL0,zR0,zJ1,wlen]at hl0;let hd1:=cz hd0;let hd2:=cz hd1;let hd3:=cz hd2;let hd4:=cz hd3;let hd5:=cz hd4;let hd6:=cz hd5;simp only[zR0,zJ1,wlen]at hd1 hd2 hd3 hd4 hd5 hd6;erw[0,sc,dx0,fs0,1,hs0,sf0.no3,sc,Tx,_,p,0,S0,eg (r:=cd o++([32]++(a.txt++([32]++(b.txt++([41]++r)))))) (by rw[vk];exact hd0) pl,by rw[l1];decide,λH1 S1 B1=>?_];rw[l1]at S1;let%[dx1,fs1,hs1|sf1]:=id S1;erw[0,sc,dx1,fs1,1,hs1,sf1.no4,sc,Tx,_,_,cd o,0,S1,tl,3,hd1,qZ ol,.inr %[(32),0|.inl rfl],λH2 S2 B2=>?_];rw[wlen]at S2;erw[0,0,2,sc,wi+1,Tx,_,_,a,0,S2,tl,3,hd2,.inr %[(32),0|.inl rfl],oka,dd.1,3,3,λv1 H3 T3 S3 B3=>?_];erw[0,ja,0,.inr (hj _),1,⋯,0,6];let einj:inV (.str (stl (cd o))) (askW.map V.str)=false:=by rw[show stl (cd o)=o from lQ _,jM,zD1 no]
   rw[einj];apply cM ?_;erw[0,sa,0,.inr (hs _),1,⋯,0,6];let eins:inV (.str (stl (cd o))) (signW.map V.str)=true:=by rw[show stl (cd o)=o from lQ _,jM,zC1 oko]
   rw [eins];apply dU ?_;let hd4':Tx.cps.toList.drop (p+1+o.length+1+a.txt.length)=[32]++(b.txt++([41]++r)):=by
    rw[show p+1+o.length+1+a.txt.length=p+(0+1)+o.length+(0+1)+a.txt.length by omega];exact hd4
   erw[0,0,0,0,2,sc,wi+1,Tx,_,_,b,0,S3,tl,3,hd4',.inr %[(41),r,1|.inr (.inr rfl)],okb,dd.2.1,3,3,λv2 H4 T4 S4 B4=>?_];let T3':=T3.mono (dy S3 B4);erw[y4S,λc hc=>?_];let G:=zC0 hc (.tup [.str "op",.str (stl (cd o)),v1,v2]);let S5:=S4.same G;let ec:upd H4 c (.tup [.str "op",.str (stl (cd o)),v1,v2]) c=some (.tup [.str "op",.str o,v1,v2]):=aP;let T5:=T4.mono (bh G);let T5':=T3'.mono (bh G);generalize upd H4 c (.tup [.str "op",.str (stl (cd o)),v1,v2])=H5 at G S5 ec T5 T5';let%[dx5,fs5,hs5|sf5]:=id S5;erw[0,sc,dx5,fs5,1,hs5,sf5.no3,sc,Tx,_,_,0,S5,eg (r:=r) (by rw[Eh,show p+1+o.length+1+a.txt.length+1+b.txt.length=p+(0+1)+o.length+(0+1)+a.txt.length+(0+1)+b.txt.length by omega];exact hd6) #[0],by rw[l3];decide,λH6 S6 B6=>?_];rw[l3]at S6;let k6:=dy S5 B6;erw[0,6];rw[show p+1+o.length+1+a.txt.length+1+b.txt.length+1=p+(Tm.op o a b).txt.length by rw[tlen];omega,show k+1+a.size+b.size=k+(Tm.op o a b).size by rw[es];omega]at S6;exact q _ _ (.op (k6 _ _ ec) (T5'.mono k6) (T5.mono k6)) S6 (B1.trans (B2.trans (B3.trans (B4.trans ((zJ0 G).trans B6)))))
def o9:FnScope ["scan","within","word"] WJ (ao iF):=%[|5]
def vd{n:Int}(h:0<=n):cR n∉plainW:=λhm=>by
 let%[_,w1,wl|_]:=na _ hm;cases e:cd (cR n)with
 |nil=>
   have:=dN (cR n)
   rw[e]at this
   simp at this
   omega
 |cons c r=>
   let h1:=iG h c (by rw[e];exact zX0);let h2:=wl c (by show c∈cd (cR n);rw[e];exact zX0);omega
def ye:∀w∈plainW,w∈kept:=by decide
def Gk{n:Nat}(F:#["next_term",iF])(B:Bl mg)(X:Tx K mg)(T:STxt K mg C)(M:Mths P w K mg base C fE fS fT fW fF dE dS dT dW dF)(dz:#[1,"is_name",WD,spTxt jS])(bq:#[1,"is_figures",WD,spTxt kQ])(t8:#[2*n+4,"term_in_bracket",WJ,spTB C n]):#[2*(n+1)+3,f,fd,WJ,spNextT C (n+1)]:=by
 exists o9
 erw[sc,wi,Tx,p,k,t,r,1,S0,tl,pl,hd,er,ok,dn,wd,k20,q]at h;erw[ja,gj,hj]at X.plain;let hr1:Room 1 _:=hr.mono #[0];let hr2:Room 2 _:=hr.mono #[0];refine⟨_,(aa (aW (bQ (pv 0) T.cl M.mT M.gT hr2 M.bT .nil bn %[aq|aQ]))
  (aa (aW (bQ (pv 0) T.cl M.mE M.gE hr1 M.bE .nil bn %[1|aQ]))
  (aa (aJ (eD (bQ (pv 0) T.cl M.mS M.gS hr1 M.bS .nil bn %[aq|aQ])) (ae (ay (am t8 hr #[0] rfl %[0,1|aQ]))) aB)
  (aa #[aj,2,o9,cx (pv 0) T.cl M.mW M.gW hr1 M.bW .nil bn]
  (aa (aJ (ai eV (pv 2) (dI (v:=.ref ja) rfl gj rfl) (by rfl')) (ae (ay (aM %[2|aQ]))) aB)
  (aa (aJ (eD (am bq hr #[0] rfl %[2|aQ])) (ae (ay (aM %[aq,bd iP rfl B.int gG %[2|aQ]|aQ]))) aB)
  (aa (aJ (gy (eD (am dz hr #[0] rfl %[2|aQ]))) bO aB)
  (ae (ay (aM %[aq,2|aQ])))))))))),?_⟩
 let l2:((" ":Str)).length=1:=by decide
 let dp:=t.depth_pos;let sp:=t.size_pos;let hl0:=lx hd pl;let hd1:=cz hd;simp only[zL0,zR0,zJ1]at hl0 hd1;let%[dx0,fs0,hs0|sf0]:=id S0;erw[0,sc,dx0,fs0,1,hs0,sf0.no3,sc,Tx,_,p,0,S0,eg (r:=t.txt++r) (by rw[mq];exact hd) pl,by rw[l2];decide,λH1 S1 B1=>?_];rw[l2]at S1;let%[dx1,fs1,hs1|sf1]:=id S1;erw[0,sc,dx1,fs1,1,hs1,sf1.no1,0,sc,Tx,_,k,wi,1,S1,3,3,λH2 S2 B2=>?_];let%[dx2,fs2,hs2|sf2]:=id S2;erw[0,sc,dx2,fs2,1,hs2,sf2.no2,sc,Tx,_,_,0,S2,0,6];let shape:(((∃w a,t=.ask w a)∨∃s a b,t=.op s a b)/\∃z,t.txt=40::z)∨∃x:Str,t.txt=cd x/\oT (cd x)/\1<=x.length/\t.size=1/\((t=.plain x/\x∈plainW)∨(∃m,t=.num m/\x=cR m/\0<=m/\m<1000000000000)∨(t=.box x/\NmK x)):=by
  cases t with
  |ask w a=>exact .inl %[.inl %[w,a|1]|0]
  |op s a b=>exact .inl %[.inr %[s,a,b|1]|0]
  |plain x=>
    let okx:x∈plainW:=ok;let%[_,w1,wl|_]:=na x okx;exact .inr %[x,1,dH wl,w1,1|.inl %[1|okx]]
  |num m=>exact .inr %[cR m,1,qY ok.1,wv ok.1,1|.inr (.inl %[m,1,1,ok.1|ok.2])]
  |box x=>
    let okx:NmK x:=ok;exact .inr %[x,1,dH okx.1,okx.2.1,1|.inr (.inr %[1|okx])]
 rcases shape with⟨kind,z,ez⟩ | ⟨x,et,pc,x1,s1,kd⟩
 . let hs:gN Tx ("(":Str) ((p+1:Nat):Int)=true:=eg (r:=z++r) (by rw[vk];show _=40::(z++r);rw[hd1,ez];rfl) #[0];rw[hs];apply dU ?_;erw[0,0,sc,wi,Tx,p+1,k,t,r,1,S2,tl,3,hd1,ok,kind,dn,wd,k20,λv H3 T3 S3 B3=>?_];exact q v H3 T3 S3 (B1.trans (B2.trans B3))
 let%[c,r',hc|c40]:=AI pc (by rw[dN];exact x1) r;let hd':Tx.cps.toList.drop (p+1)=cd x++r:=by rw[hd1,et]
 rw[Am (hd'.trans hc) c40];apply cM ?_;erw[0,sc,dx2,fs2,1,hs2,sf2.no4,sc,Tx,_,_,cd x,r,1,S2,tl,3,hd',pc,er,λH3 S3 B3'=>?_];rw[show stl (cd x)=x from lQ _];rw[←et,←s1]at S3;let B3:SameBut sc H H3:=B1.trans (B2.trans B3');erw[0,ja,0,.inr (hj _),1,⋯,0,6];show if inV (.str x) (plainW.map V.str)=true then _ else _
 rw[jM];rcases kd with⟨rfl,okx⟩ | ⟨m,rfl,rfl,m0,m1⟩ | ⟨rfl,okx⟩
 . apply aX okx ?_;erw[0,y1S,λc hc=>?_];let G:=zC0 hc (.tup [.str x]);exact q _ _ (.plain aP) (S3.same G) (B3.trans (zJ0 G))
 . apply aD (vd m0) ?_;let nl:=jI m0 m1;erw[0,cR m,1,3,λH4 S4=>%[0|6]];rw[vf m0 m1];apply dU ?_;erw[0,cR m,m,1,ve m0 m1,3,y2S,λc hc=>?_];let G:=zC0 hc (.tup [.str "num",.int m]);exact q _ _ (.num aP) ((S3.same S4).same G) (B3.trans (zJ0 (S4.trans G)))
 . let%[xl,_,x6|xk]:=id okx;apply aD (λh=>xk (ye x h)) ?_;erw[0,x,1,3,λH4 S4=>%[0|6]];rw[BF okx];apply cM ?_;erw[0,x,1,3,λH5 S5=>%[0|6]];rw[zE okx];apply cM ?_;erw[0,y2S,λc hc=>?_];let G:=zC0 hc (.tup [.str "box",.str x]);exact q _ _ (.box aP) (((S3.same S4).same S5).same G) (B3.trans (zJ0 (S4.trans (S5.trans G))))
def Gj:#[3,f,fd,WJ,spNextT C 0]:=by
 let no:∀vs H Q E,¬ spNextT C 0 vs H Q E:=λvs H Q E h=>by
  erw[_,_,_,_,_,t,_,_,_,_,_,_,_,_,h1,_]at h
  have:=t.depth_pos
  omega
 exists 3
def nj(F:#["next_term",iF])(m:mg "next_term"=some (.ref f))(Fj:Fun K "term_in_bracket" "term_in_bracket" dO fj fdj)(mj:mg "term_in_bracket"=some (.ref fj))(B:Bl mg)(X:Tx K mg)(T:STxt K mg C)(M:Mths P w K mg base C fE fS fT fW fF dE dS dT dW dF)(dz:#[1,"is_name",WD,spTxt jS])(bq:#[1,"is_figures",WD,spTxt kQ]):
 ∀n:Nat,#[2*n+3,f,fd,WJ,spNextT C n]
 |0=>Gj
 |n+1=>
   let c1:=Cal.of F (nj F m Fj mj B X T M dz bq n) m (λ_ _ _ _ _ _ us hl=>by let%[u0,u1|1]:=Iy hl;rfl)
   Gk F B X T M dz bq (Cal.of Fj (Fm Fj X T M c1) mj (λ_ _ _ _ _ _ us hl=>by let%[u0,u1|1]:=Iy hl;rfl))
instance spNextN(C:Addr):∀(sc:Addr)(T:Str)(p k:Nat)(x:Str)(r:List Nat),vs=[.ref sc]->ScanAt C H sc T p k->T.length<=1000->p<=T.length->T.cps.toList.drop p=[32]++(cd x++r)->xx r->NmK x->(∀H',ScanAt C H' sc T (p+1+x.length) k->SameBut sc H H'->Q (.str x) H'):=1
def pe:FnScope ["scan","word"] ["scan"] (ao kx):=%[|5]
def uU(F:#["next_name",kx])(T:STxt K mg C)(M:Mths P w K mg base C fE fS fT fW fF dE dS dT dW dF)(dz:#[1,"is_name",WD,spTxt jS]):#[3,f,fd,["scan"],spNextN C]:=by
 exists pe
 erw[sc,Tx,p,k,x,r,1,S0,tl,pl,hd,er,ok,q]at h;let hr1:Room 1 _:=hr.mono #[0];let hr2:Room 2 _:=hr.mono #[0];refine⟨_,(aa (aW (bQ (pv 0) T.cl M.mT M.gT hr2 M.bT .nil bn %[aq|aQ]))
  (aa #[aj,1,pe,cx (pv 0) T.cl M.mW M.gW hr1 M.bW .nil bn]
  (aa (aJ (gy (eD (am dz hr #[0] rfl %[1|aQ]))) bO aB)
  (ae (ay (pv 1)))))),?_⟩
 let l2:((" ":Str)).length=1:=by decide
 let hl0:=lx hd pl;let hd1:=cz hd;simp only[zL0,zR0,zJ1]at hl0 hd1;let%[dx0,fs0,hs0|sf0]:=id S0;erw[0,sc,dx0,fs0,1,hs0,sf0.no3,sc,Tx,_,p,0,S0,eg (r:=cd x++r) (by rw[mq];exact hd) pl,by rw[l2];decide,λH1 S1 B1=>?_];rw[l2]at S1;let%[dx1,fs1,hs1|sf1]:=id S1;erw[0,sc,dx1,fs1,1,hs1,sf1.no4,sc,Tx,_,_,cd x,r,1,S1,tl,3,hd1,dH ok.1,er,λH2 S2 B2=>?_];rw[show stl (cd x)=x from lQ _];rw[dN]at S2;let x6:=ok.2.2.1;erw[0,x,1,3,λH3 S3=>%[0|6]];rw[zE ok];apply cM ?_;erw[0,q H3 (S2.same S3) (B1.trans (B2.trans (zJ0 S3)))]
instance spNextF(C:Addr):∀(sc:Addr)(T:Str)(p k:Nat)(m:Int)(r:List Nat),vs=[.ref sc]->ScanAt C H sc T p k->T.length<=1000->p<=T.length->T.cps.toList.drop p=[32]++(cd (cR m)++r)->xx r->0<=m->m<1000000000000->(∀H',ScanAt C H' sc T (p+1+(cR m).length) k->SameBut sc H H'->Q (.int m) H'):=1
def jj:FnScope ["scan","word"] ["scan"] (ao iq):=%[|5]
def pM(F:#["next_figures",iq])(B:Bl mg)(T:STxt K mg C)(M:Mths P w K mg base C fE fS fT fW fF dE dS dT dW dF)(bq:#[1,"is_figures",WD,spTxt kQ]):#[3,f,fd,["scan"],spNextF C]:=by
 exists jj
 erw[sc,Tx,p,k,m,r,1,S0,tl,pl,hd,er,m0,m1,q]at h;let hr1:Room 1 _:=hr.mono #[0];let hr2:Room 2 _:=hr.mono #[0];refine⟨_,(aa (aW (bQ (pv 0) T.cl M.mT M.gT hr2 M.bT .nil bn %[aq|aQ]))
  (aa #[aj,1,jj,cx (pv 0) T.cl M.mW M.gW hr1 M.bW .nil bn]
  (aa (aJ (gy (eD (am bq hr #[0] rfl %[1|aQ]))) bO aB)
  (ae (ay (bd iP rfl B.int gG %[1|aQ])))))),?_⟩
 let l2:((" ":Str)).length=1:=by decide
 let hl0:=lx hd pl;let hd1:=cz hd;simp only[zL0,zR0,zJ1]at hl0 hd1;let nl:=jI m0 m1;let%[dx0,fs0,hs0|sf0]:=id S0;erw[0,sc,dx0,fs0,1,hs0,sf0.no3,sc,Tx,_,p,0,S0,eg (r:=cd (cR m)++r) (by rw[mq];exact hd) pl,by rw[l2];decide,λH1 S1 B1=>?_];rw[l2]at S1;let%[dx1,fs1,hs1|sf1]:=id S1;erw[0,sc,dx1,fs1,1,hs1,sf1.no4,sc,Tx,_,_,cd (cR m),r,1,S1,tl,3,hd1,qY m0,er,λH2 S2 B2=>?_];rw[show stl (cd (cR m))=cR m from lQ _];rw[dN]at S2;erw[0,cR m,1,3,λH3 S3=>%[0|6]];rw[vf m0 m1];apply cM ?_;erw[0,cR m,m,1,ve m0 m1,3,q H3 (S2.same S3) (B1.trans (B2.trans (zJ0 S3)))]
def iteNT{c A B:Prop}[Decidable c](hc:c)(h:B):if(!decide c)=true then A else B:=by
 rw[zC1 hc];exact cM h
def Hr.wd:Hr->Str
 |.fin=>"end" | .go _=>"go" | .iff _ _=>"if" | .set _ _=>"set" | .say _=>"say"
def Hr.rest:Hr->List Nat
 |.fin=>[] | .go n=>[32]++cd (cR n) | .iff t n=>[32]++(t.txt++([32]++cd (cR n))) | .set x t=>[32]++(cd x++([32]++t.txt)) | .say t=>[32]++t.txt
def Hr.codes(r:Hr):r.str.cps.toList=cd r.wd++r.rest:=by
 cases r with
 |fin=>decide
 |go n=>
   rw[show(Hr.go n).str=(("go":Str)++(" ":Str))++cR n from rfl,jg,jg,mq];show(cd "go"++[32])++cd (cR n)=cd "go"++([32]++cd (cR n))
   simp
 |iff t n=>
   rw[show(Hr.iff t n).str=(((("if":Str)++(" ":Str))++t.str)++(" ":Str))++cR n from rfl];simp only[jg,mq];show(((cd "if"++[32])++t.txt)++[32])++cd (cR n)=cd "if"++([32]++(t.txt++([32]++cd (cR n))))
   simp
 |set x t=>
   rw[show(Hr.set x t).str=(((("set":Str)++(" ":Str))++x)++(" ":Str))++t.str from rfl];simp only[jg,mq];show(((cd "set"++[32])++cd x)++[32])++t.txt=cd "set"++([32]++(cd x++([32]++t.txt)))
   simp
 |say t=>
   rw[show(Hr.say t).str=(("say":Str)++(" ":Str))++t.str from rfl,jg,jg,mq];show(cd "say"++[32])++t.txt=cd "say"++([32]++t.txt)
   simp
def lB:∀x∈(Wp:List Str),∀c∈x.cps.toList,97<=c/\c<=122:=by decide
def Hr.wd_ok(r:Hr):oT (cd r.wd):=by
 cases r with
 |fin=>exact dH (lB "end" ⋯)
 |go n=>exact dH (lB "go" ⋯)
 |iff t n=>exact dH (lB "if" ⋯)
 |set x t=>exact dH (lB "set" ⋯)
 |say t=>exact dH (lB "say" ⋯)
def Hr.rest_ok(r:Hr):xx r.rest:=by
 cases r with
 |fin=>exact .inl rfl
 |go n=>exact .inr %[(32),0|.inl rfl]
 |iff t n=>exact .inr %[(32),0|.inl rfl]
 |set x t=>exact .inr %[(32),0|.inl rfl]
 |say t=>exact .inr %[(32),0|.inl rfl]
instance spHRw:∀(r:Hr)(k:Int),vs=[.str r.str,.int k]->r.ok 20->(∀(v:V)(H':Hp),HrAt H' v r->Same H H'->Q v H'):=1
def b5:FnScope ["text","number","scan","word","row"] WW (ao jB):=%[|5]
def sK(F:#["helper_row",jB])(X:Tx K mg)(T:STxt K mg C)(M:Mths P w K mg base C fE fS fT fW fF dE dS dT dW dF)(MK:Mk K C fI)(GI:#[1,fI,fdI,Wg,spSInit C])(bI:Binds K fdI Wg [])
 (km:#[3,"next_name",["scan"],spNextN C])(fN:#[3,"next_figures",["scan"],spNextF C])(c8:#[19,"next_term",WJ,spNextT C 8]):#[20,f,fd,WW,spHRw]:=by
 exists b5
 erw[r,k,1,ok,q]at h;erw[tw,gw]at X.within;erw[tp,gp]at X.parts;let hr1:Room 1 _:=hr.mono ⋯;let hr2:Room 2 _:=hr.mono ⋯;refine⟨_,(aa #[aj,2,b5,jH MK GI hr2 rfl T.mgC bI .nil bn %[0,1,dI (v:=.int 8) rfl gw %[|0],dI (v:=.int 20) rfl gp ⟨_,rfl⟩|aQ]]
  (aa #[aj,3,b5,cx (pv 2) T.cl M.mW M.gW hr1 M.bW .nil bn]
  (aa #[aj,4,b5,aM %[3|aQ]]
  (aa (aJ (ai aR (pv 3) aq (ax _)) (ae #[aj,4,b5,au op_catT (pv 4) (aM %[am km hr ⋯ rfl %[2|aQ],am c8 hr ⋯ rfl %[2,af|aQ]|aQ])]) (ae (aJ (ai aR (pv 3) aq (ax _)) (ae #[aj,4,b5,au op_catT (pv 4) (aM %[am c8 hr ⋯ rfl %[2,af|aQ]|aQ])]) (ae (aJ (ai aR (pv 3) aq (ax _)) (ae #[aj,4,b5,au op_catT (pv 4) (aM %[am c8 hr ⋯ rfl %[2,af|aQ],am fN hr ⋯ rfl %[2|aQ]|aQ])]) (ae (aJ (ai aR (pv 3) aq (ax _)) (ae #[aj,4,b5,au op_catT (pv 4) (aM %[am fN hr ⋯ rfl %[2|aQ]|aQ])]) (ae (aJ (ai lH (pv 3) aq (ax _)) bO aB)))))))))
  (aa (aW (cx (pv 2) T.cl M.mF M.gF hr1 M.bF .nil bn))
  (ae (ay (pv 4)))))))),?_⟩
 erw[0,0,λg dx nx ndx nex=>?_];let s3:Same H (upd (upd H dx (.own g)) g (.ins C dx [])):=λb o e=>by
  rw[aE (aZ e nx),aE (aZ e ndx)];exact e
 erw[g,dx,r.str,k,1,aP,λH1 S1 B1=>%[1|6]];let N1:Same H H1:=λb o e=>B1 b o (aZ e nx) (s3 b o e)
 let tl:r.str.length<=1000:=zT0 (Hr.str_len ok) ⋯;let hc:=r.codes;let hlen:r.str.length=r.wd.length+r.rest.length:=by
  have:=congrArg List.length hc
  rw[nq,zL0,dN]at this;exact this
 let hd0:r.str.cps.toList.drop 0=cd r.wd++r.rest:=by rw[jD1];exact hc
 let%[dx1,fs1,hs1|sf1]:=id S1;erw[0,g,dx1,fs1,1,hs1,sf1.no4,g,r.str,(0),(0),cd r.wd,r.rest,1,S1,tl,zP0 _,hd0,r.wd_ok,r.rest_ok,λH2 S2 B2=>?_];rw[show stl (cd r.wd)=r.wd from lQ _];let hd1:=cz hd0;rw[dN]at S2 hd1;let N2:Same H H2:=λb o e=>B2 b o (aZ e nx) (N1 b o e)
 erw[0,y1S,λa ha=>?_];let Ga:=zC0 ha (.tup [.str r.wd]);let ea:upd H2 a (.tup [.str r.wd]) a=some (.tup [.str r.wd]):=aP;let S3:=S2.same Ga;generalize upd H2 a (.tup [.str r.wd])=H3 at Ga ea S3;let N3:=N2.trans Ga;let isF:∀{x y:Str},x≠y->¬ V.str x=V.str y:=λh=>neStr h
 cases r with
 |fin=>
   erw[0,1,0,6];apply aD (isF (x:="end") ⋯) ?_;erw[0,1,0,6];apply aD (isF (x:="end") ⋯) ?_;erw[0,1,0,6];apply aD (isF (x:="end") ⋯) ?_;erw[0,1,0,6];apply aD (isF (x:="end") ⋯) ?_;erw[0,1,0,6];apply iteNT rfl ?_;let%[dx3,fs3,hs3|sf3]:=id S3;let el:0+(Hr.fin).wd.length=(Hr.fin).str.length:=by rw[hlen];show 0+_=_+0;omega
   rw[el]at S3;erw[0,g,dx3,fs3,1,hs3,sf3.no5,g,_,0,S3,tl,6];erw[0,q _ H3 (.fin ea) N3]
 |go n=>
   erw[0,1,0,6];apply aD (isF (x:="go") ⋯) ?_;erw[0,1,0,6];apply aD (isF (x:="go") ⋯) ?_;erw[0,1,0,6];apply aD (isF (x:="go") ⋯) ?_;erw[0,1,0,6];apply aX rfl ?_;let hrl:(Hr.go n).rest.length=1+(cR n).length:=by
    show([32]++cd (cR n)).length=_;rw[zL0,dN];rfl
   erw[0,0,g,_,_,_,n,[],1,S3,tl,3,by rw[hd1];show [32]++cd (cR n)=[32]++(cd (cR n)++[]);rw[qI1],.inl rfl,ok.1,ok.2,λH4 S4 B4=>?_];let ea4:=dy S3 B4 _ _ ea;erw[y1S,λb hb=>?_];let Gb:=zC0 hb (.tup [.int n]);erw[a,b,2,zA0 (Gb _ _ ea4),zA0 aP,by simp,y2S,λz=>(by cases z),λ_ p hp=>?_];let Gp:=zC0 hp (.tup ([V.str (Hr.go n).wd]++[V.int n]));let S5:=(S4.same Gb).same Gp;let ep:upd (upd H4 b (.tup [.int n])) p (.tup ([V.str (Hr.go n).wd]++[V.int n])) p=some (.tup [.str "go",.int n]):=aP;let N5:=Gb.trans Gp;generalize upd (upd H4 b (.tup [.int n])) p (.tup ([V.str (Hr.go n).wd]++[V.int n]))=H5 at S5 ep N5;rw[show 0+(Hr.go n).wd.length+1+(cR n).length=(Hr.go n).str.length by omega]at S5;let%[dx5,fs5,hs5|sf5]:=id S5;erw[0,g,dx5,fs5,1,hs5,sf5.no5,g,_,0,S5,tl,6];erw[0,q _ H5 (.go ep) λc o e=>N5 _ _ (B4 c o (aZ e nx) (N3 c o e))]
 |say t=>
   erw[0,1,0,6];apply aD (isF (x:="say") ⋯) ?_;erw[0,1,0,6];apply aX rfl ?_;let hrl:(Hr.say t).rest.length=1+t.txt.length:=by
    show([32]++t.txt).length=_;rw[zL0];rfl
   let ok':t.fit 20:=ok;erw[0,0,g,(1),_,_,_,t,[],1,S3,tl,3,by rw[hd1];show [32]++t.txt=[32]++(t.txt++[]);rw[qI1],.inl rfl,ok'.1,ok'.2.2,by have:=ok'.2.2;omega,by have:=ok'.2.1;omega,λv H4 T4 S4 B4=>?_];let ea4:=dy S3 B4 _ _ ea;erw[y1S,λb hb=>?_];let Gb:=zC0 hb (.tup [v]);erw[a,b,2,zA0 (Gb _ _ ea4),zA0 aP,by simp,y2S,λz=>(by cases z),λ_ p hp=>?_];let Gp:=zC0 hp (.tup ([V.str (Hr.say t).wd]++[v]));let S5:=(S4.same Gb).same Gp;let ep:upd (upd H4 b (.tup [v])) p (.tup ([V.str (Hr.say t).wd]++[v])) p=some (.tup [.str "say",v]):=aP;let N5:=Gb.trans Gp;generalize upd (upd H4 b (.tup [v])) p (.tup ([V.str (Hr.say t).wd]++[v]))=H5 at S5 ep N5;rw[show 0+(Hr.say t).wd.length+1+t.txt.length=(Hr.say t).str.length by omega]at S5;let%[dx5,fs5,hs5|sf5]:=id S5;erw[0,g,dx5,fs5,1,hs5,sf5.no5,g,_,0,S5,tl,6];erw[0,q _ H5 (.say ep (T4.mono (bh N5))) λc o e=>N5 _ _ (B4 c o (aZ e nx) (N3 c o e))]
 |iff t n=>
   erw[0,1,0,6];apply aD (isF (x:="if") ⋯) ?_;erw[0,1,0,6];apply aD (isF (x:="if") ⋯) ?_;erw[0,1,0,6];apply aX rfl ?_;let hrl:(Hr.iff t n).rest.length=1+(t.txt.length+(1+(cR n).length)):=by
    show([32]++(t.txt++([32]++cd (cR n)))).length=_;simp only[zL0,zR0,zJ1,dN]
   erw[ok',n0,n1]at ok;let hd2:(Hr.iff t n).str.cps.toList.drop (0+(Hr.iff t n).wd.length)=[32]++(t.txt++([32]++(cd (cR n)++[]))):=by rw[hd1,qI1];rfl
   let hd3:=cz (cz hd2);simp only[zR0,zJ1]at hd3;erw[0,0,g,(1),_,_,_,t,0,S3,tl,3,hd2,.inr %[(32),0|.inl rfl],ok'.1,ok'.2.2,by have:=ok'.2.2;omega,by have:=ok'.2.1;omega,λv H4 T4 S4 B4=>?_];let ea4:=dy S3 B4 _ _ ea;erw[0,g,_,_,_,n,[],1,S4,tl,3,hd3,.inl rfl,n0,n1,λH5 S5 B5=>?_];let ea5:=dy S4 B5 _ _ ea4;let T5:=T4.mono (dy S4 B5);erw[y2S,λb hb=>?_];let Gb:=zC0 hb (.tup [v,.int n]);erw[a,b,2,zA0 (Gb _ _ ea5),zA0 aP,by simp,y3S,λz=>(by cases z),λ_ p hp=>?_];let Gp:=zC0 hp (.tup ([V.str (Hr.iff t n).wd]++[v,V.int n]));let S6:=(S5.same Gb).same Gp;let ep:upd (upd H5 b (.tup [v,.int n])) p (.tup ([V.str (Hr.iff t n).wd]++[v,V.int n])) p=some (.tup [.str "if",v,.int n]):=aP;let N6:=Gb.trans Gp;generalize upd (upd H5 b (.tup [v,.int n])) p (.tup ([V.str (Hr.iff t n).wd]++[v,V.int n]))=H6 at S6 ep N6;rw[show 0+(Hr.iff t n).wd.length+1+t.txt.length+1+(cR n).length=(Hr.iff t n).str.length by omega]at S6;let%[dx6,fs6,hs6|sf6]:=id S6;erw[0,g,dx6,fs6,1,hs6,sf6.no5,g,_,0,S6,tl,6];erw[0,q _ H6 (.iff ep (T5.mono (bh N6))) λc o e=>N6 _ _ (B5 c o (aZ e nx) (B4 c o (aZ e nx) (N3 c o e)))]
 |set x t=>
   erw[0,1,0,6];apply aX rfl ?_;let hrl:(Hr.set x t).rest.length=1+(x.length+(1+t.txt.length)):=by
    show([32]++(cd x++([32]++t.txt))).length=_;simp only[zL0,zR0,zJ1,dN]
   erw[okx,ok']at ok;let hd2:(Hr.set x t).str.cps.toList.drop (0+(Hr.set x t).wd.length)=[32]++(cd x++([32]++(t.txt++[]))):=by rw[hd1,qI1];rfl
   let hd3:=cz (cz hd2);simp only[zR0,zJ1,dN]at hd3;erw[0,0,g,_,_,_,x,0,S3,tl,3,hd2,.inr %[(32),0|.inl rfl],okx,λH4 S4 B4=>?_];let ea4:=dy S3 B4 _ _ ea;erw[0,g,(1),_,_,_,t,[],1,S4,tl,3,hd3,.inl rfl,ok'.1,ok'.2.2,by have:=ok'.2.2;omega,by have:=ok'.2.1;omega,λv H5 T5 S5 B5=>?_];let ea5:=dy S4 B5 _ _ ea4;erw[y2S,λb hb=>?_];let Gb:=zC0 hb (.tup [.str x,v]);erw[a,b,2,zA0 (Gb _ _ ea5),zA0 aP,by simp,y3S,λz=>(by cases z),λ_ p hp=>?_];let Gp:=zC0 hp (.tup ([V.str (Hr.set x t).wd]++[.str x,v]));let S6:=(S5.same Gb).same Gp;let ep:upd (upd H5 b (.tup [.str x,v])) p (.tup ([V.str (Hr.set x t).wd]++[.str x,v])) p=some (.tup [.str "set",.str x,v]):=aP;let N6:=Gb.trans Gp;generalize upd (upd H5 b (.tup [.str x,v])) p (.tup ([V.str (Hr.set x t).wd]++[.str x,v]))=H6 at S6 ep N6;rw[show 0+(Hr.set x t).wd.length+1+x.length+1+t.txt.length=(Hr.set x t).str.length by omega]at S6;let%[dx6,fs6,hs6|sf6]:=id S6;erw[0,g,dx6,fs6,1,hs6,sf6.no5,g,_,0,S6,tl,6];erw[0,q _ H6 (.set ep (T5.mono (bh N6))) λc o e=>N6 _ _ (B5 c o (aZ e nx) (B4 c o (aZ e nx) (N3 c o e)))]
def Tm.txt_hi:∀t:Tm,t.ok->∀c∈t.txt,32<=c
 |.num n,h,c,hc=>by have:=iG h.1 c hc;omega
 |.box x,h,c,hc=>by have:=h.1 c hc;omega
 |.plain w,h,c,hc=>by have:=(na w h).2.2.1 c hc;omega
 |.ask w a,⟨h,h1⟩,c,hc=>by
   let hc':c∈[40]++(cd w++([32]++(a.txt++[41]))):=hc;simp only[List.mem_append,qW0]at hc';rcases hc' with e | e | e | e | e
   . omega
   . have:=(yZ w h).2.2.1 c e;omega
   . omega
   . exact Tm.txt_hi a h1 c e
   . omega
 |.op o a b,⟨h,h1,h2⟩,c,hc=>by
   let hc':c∈[40]++(cd o++([32]++(a.txt++([32]++(b.txt++[41]))))):=hc;simp only[List.mem_append,qW0]at hc';rcases hc' with e | e | e | e | e | e | e
   . omega
   . have:=(ug o h).2.1 c e;omega
   . omega
   . exact Tm.txt_hi a h1 c e
   . omega
   . exact Tm.txt_hi b h2 c e
   . omega
def HM{r:Hr}(ok:r.ok 20):∀c∈cd r.str,32<=c:=by
 intro c hc;let hc1:c∈cd r.wd++r.rest:=by rw[←r.codes];exact hc
 let nm:∀{n:Int},0<=n->c∈cd (cR n)->32<=c:=λh0 h=>by have:=iG h0 c h;omega
 rcases qH0 hc1 with h | h
 . have:=r.wd_ok
   let h5:∀x∈(Wp:List Str),c∈cd x->32<=c:=λx hx hc=>by have:=lB x hx c hc;omega
   cases r with
   |fin=>exact h5 "end" ⋯ h
   |go n=>exact h5 "go" ⋯ h
   |iff t n=>exact h5 "if" ⋯ h
   |set x t=>exact h5 "set" ⋯ h
   |say t=>exact h5 "say" ⋯ h
 . cases r with
   |fin=>cases h
   |go n=>
     let h':c∈[32]++cd (cR n):=h;simp only[List.mem_append,qW0]at h';rcases h' with e | e
     . omega
     . exact nm ok.1 e
   |iff t n=>
     let h':c∈[32]++(t.txt++([32]++cd (cR n))):=h;simp only[List.mem_append,qW0]at h';rcases h' with e | e | e | e
     . omega
     . exact Tm.txt_hi t ok.1.1 c e
     . omega
     . exact nm ok.2.1 e
   |set x t=>
     let h':c∈[32]++(cd x++([32]++t.txt)):=h;simp only[List.mem_append,qW0]at h';rcases h' with e | e | e | e
     . omega
     . have:=ok.1.1 c e;omega
     . omega
     . exact Tm.txt_hi t ok.2.1 c e
   |say t=>
     let h':c∈[32]++t.txt:=h;simp only[List.mem_append,qW0]at h';rcases h' with e | e
     . omega
     . exact Tm.txt_hi t (show t.fit 20 from ok).1 c e
def rT(g:tY rs)(h0:rs≠[]):Txt.split (pE rs) ("\n":Str)=rs.map Hr.str:=by
 unfold pE;rw[DX,vo];apply lR (c:=10) (λz=>h0 (List.map_eq_nil_iff.mp z)) λp hp hc=>?_
 let%[r,hr|1]:=List.mem_map.mp hp
 have:=HM (g.2 r hr) 10 hc
 omega
def BD(g:tY rs)(h0:rs≠[]):pE rs≠"":=λe=>by
 let h1:=rT g h0;rw[e,show Txt.split ("":Str) ("\n":Str)=[("":Str)]from by decide]at h1;cases rs with
 |nil=>exact h0 rfl
 |cons r l=>
   let h2:=(List.cons.inj h1).1;let h3:=r.codes;rw[←h2]at h3;let h4:cd r.wd=[]:=(List.append_eq_nil_iff.mp h3.symm).1;let h5:∀x∈(Wp:List Str),cd x≠[]:=by decide
   cases r with
   |fin=>exact h5 "end" ⋯ h4
   |go n=>exact h5 "go" ⋯ h4
   |iff t n=>exact h5 "if" ⋯ h4
   |set x t=>exact h5 "set" ⋯ h4
   |say t=>exact h5 "say" ⋯ h4
instance spReadH:∀rs:List Hr,vs=[.str (pE rs)]->tY rs->(∀(a:Addr)(tv:List V)(H':Hp),H' a=some (.tup tv)->RowsAt H' tv rs->Same H H'->Q (.ref a) H'):=1
def fO:FnScope ["text","helper","number","row"] WD (ao iM):=%[|5]
def rA(F:#["read_helper",iM])(B:Bl mg)(X:Tx K mg)(i4:#[20,"helper_row",WW,spHRw]):#[21,f,fd,WD,spReadH]:=by
 exists fO
 erw[rs,1,g,q]at h;erw[tm,gm]at X.rows;refine⟨_,(aa (aJ (ai aR (pv 0) aq (ax _)) (ae (ay (aM aQ))) aB)
  (aa #[aj,1,fO,cS aQ]
  (aa (cu zF1 rfl (zy rfl B.enumerate (dC zV1 jU0 jU1 rH (pv 0) %[aq|aQ])) (iN rfl (bX (aU (i:=2) fO.nd rfl (.inl rfl)) (bX (aU (i:=3) fO.nd rfl (.inl rfl)) gI))) (aa (aJ (ai aR (pv 2) (dI (v:=.int 60) rfl gm ⟨_,rfl⟩) (ax _)) bO aB)
   (ae (aW (dC zE1 zH1 zI1 cf (pv 1) %[am i4 hr ⋯ rfl %[3,2|aQ]|aQ])))))
  (ae (ay (bd bj rfl B.tuple bw %[1|aQ])))))),?_⟩
 let tl:=Ey g;let r60:=g.1;erw[0,1,0,6]
 by_cases c0:rs=[]
 . subst c0;apply aX (by show V.str (pE [])=V.str "";decide) ?_;erw[zP0 _,λt ht=>?_];exact q t [] _ aP RowsAt.nil (zC0 ht _)
 apply aD (λz=>BD g c0 (Cz z)) ?_;erw[zP0 _,λL hL=>?_];let GL:=zC0 hL (.lst []);let gL:upd H L (.lst []) L=some (.lst []):=aP;generalize upd H L (.lst [])=H1 at GL gL;let ts:=rT g c0;erw[0,1,2,⋯,3,by rw[ts,zF0];omega,λa ha=>?_];rw[ts];let Ga:=zC0 ha (.lst ((rs.map Hr.str).map V.str));let ga:upd H1 a (.lst ((rs.map Hr.str).map V.str)) a=some (.lst ((rs.map Hr.str).map V.str)):=aP;let aL:a≠L:=λz=>by rw[z,gL]at ha;cases ha
 generalize upd H1 a (.lst ((rs.map Hr.str).map V.str))=H2 at Ga ga;let gL2:=Ga _ _ gL;refine⟨a,rfl,%[_|zG0 ga],wP (K:=K) (xs:=(rs.map Hr.str).map V.str) (λi σ H'=>∃(x2 x3:Option V)(tv:List V),σ=[some (.str (pE rs)),some (.ref L),x2,x3]/\H' L=some (.lst tv)/\RowsAt H' tv (rs.take i)/\SameBut L H2 H')
  %[_,_,[],1,gL2,RowsAt.nil|SameBut.refl _ _] (λi σ H' _ Na=>by erw[_,_,_,_,_,_,h]at Na;exact zG0 (h _ _ aL ga)) ?_ ?_⟩
 . rintro i z σ H3 t hz ⟨x2,x3,tv,rfl,hL3,R3,S3⟩ ht;let hi:=(zY0 hz).1;rw[zF0,zF0]at hi;rw[zW0,zW0,Option.map_map]at hz;let%[r,hr'|1]:=qQ0 hz;let Gt:=zC0 ht (.tup [.int (i:Int),.str r.str]);let hL4:=Gt _ _ hL3;let vl:=R3.1;rw[qF0]at vl;erw[t,0,zA0 aP,1,_,0,2,6];erw[0,1,0,6];apply aD (λz=>by have:=V.int.inj z;omega) ?_;erw[0,.inl %[1,_|zG0 hL4],0,0,r,0,g.2 r (qD0 hr'),λv H4 ra S4=>?_];let S34:Same H3 H4:=Gt.trans S4;let hL5:=S34 _ _ hL3;let kp:bZ H4 (upd H4 L (.lst (tv++[v]))):=Em hL5;erw[L,2,hL5,aO #[0],6];erw[_,_,tv++[v],1,aP,6,6]
   . rw[qB0,hr'];exact((R3.mono (bh S34)).mono kp).snoc (ra.mono kp)
   . exact S3.trans ((zJ0 S34).trans (SameBut.upd _))
 . rintro σ H3 ⟨x2,x3,tv,rfl,hL3,R3,S3⟩;rw[zF0,zF0,zZ0]at R3;erw[0,L,0,.inl %[zG0 hL3|λt ht=>?_]];let S03:Same H H3:=λb o e=>S3 b o (aZ e hL) (Ga _ _ (GL _ _ e))
   exact q t tv _ aP (R3.mono (bh (zC0 ht _))) (S03.trans (zC0 ht _))
section
variable {ns:List Str}{ts:List Tr}{p:Int}{t:Tk}{rows:List Hr}
def tP(ns:List Str)(ts:List Tr):Nat:=if ts.length=1 then ns.length else ns.length+1
def tI(h:bJ cs p)(p0:0<p):0<=cs.headD 0/\cs.headD 0<p:=by
 cases cs with
 |nil=>erw[zT1 0,p0]
 |cons a r=>exact h a (zX0 ..)
def zg(h:bJ cs p):bJ cs.tail p:=λx hx=>h x (jK1 hx)
def ne_w5:¬ (("believed":Str)="hear"):=by decide
def Bs{p x y:Int}(hp:1<p)(bx cy:Bool)(hx:x=if bx then 1 else 0)(hy:y=if cy then 1 else 0):eG p o x y=if jU o bx cy then 1 else 0:=by
 let m0:(0:Int) % p=0:=Int.zero_emod p;let m1:(1:Int) % p=1:=qU0 ⋯ hp;subst hx hy;unfold eG jU;cases bx <;> cases cy <;> (repeat' split) <;> simp_all
def iA{ns:List Str}{st:List Int}{p:Int}(hp:1<p)(h:∀x∈st,x=0∨x=1)(hl:st.length=ns.length):∀t:Tr,t.ok ns->t.worth ns st p=if t.holds ns st then 1 else 0
 |.is x,ok=>by
   let%[j,hj|jl]:=gz ok;show(match eT x ns with | some j=>st.getD j 0 | none=>0)=if(match eT x ns with | some j=>decide (st.getD j 0=1) | none=>false)=true then 1 else 0
   rw[hj];show st.getD j 0=if decide (st.getD j 0=1)=true then 1 else 0
   rw[nJ #[0]];rcases h _ (qP0 (show j<st.length by omega))with e | e <;> rw[e] <;> rfl
 |.yes,_=>rfl
 |.no,_=>rfl
 |.not a,ok=>by
   let m0:(0:Int) % p=0:=Int.zero_emod p;let m1:(1:Int) % p=1:=qU0 ⋯ hp;show(1-a.worth ns st p) % p=if(!a.holds ns st)=true then 1 else 0
   rw[iA hp h hl a ok];cases a.holds ns st
   . exact m1
   . exact m0
 |.bin o a b,⟨_,k1,k2⟩=>Bs hp _ _ (iA hp h hl a k1) (iA hp h hl b k2)
def nd_at{ns:List Str}(nd:ns.Nodup){i j:Nat}{z:Str}(hi:ns[i]?=some z)(hj:ns[j]?=some z):i=j:=by
 let%[h1|e1]:=zY0 hi;let%[h2|e2]:=zY0 hj;rcases Nat.lt_trichotomy i j with h | h | h
 . exact absurd (e1.trans e2.symm) (List.pairwise_iff_getElem.mp nd i j h1 h2 h)
 . exact h
 . exact absurd (e2.trans e1.symm) (List.pairwise_iff_getElem.mp nd j i h2 h1 h)
def CO{pt:List Int}{j i:Nat}{x:Int}(hj:j<pt.length):(pt.set j x).getD i 0=if i=j then x else pt.getD i 0:=by
 rw[qO0,qO0,List.getElem?_set]
 by_cases c:j=i
 . subst c
   simp [hj]
 . rw[M6 c,M6 (Ne.symm c)]
def ji{ns:List Str}{pt:List Int}{p:Int}{j:Nat}{y:Str}(hy:ns[j]?=some y)(hl:pt.length=ns.length)(nd:ns.Nodup):∀t:Tr,t.ok ns->∃f:Int->Int,IsPoly (t.names.count y+1) f/\∀x:Int,p ∣ t.worth ns (pt.set j x) p-f x
 |.is z,ok=>by
   let jl:j<ns.length:=(zY0 hy).1;let%[i,hi|il]:=gz ok;let hz:=(qW hi).1;let e:∀x,(Tr.is z).worth ns (pt.set j x) p=if i=j then x else pt.getD i 0:=λx=>by
    show(match eT z ns with | some j'=>(pt.set j x).getD j' 0 | none=>0)=_;rw[hi];exact CO #[0]
   by_cases c:i=j
   . subst c;let ez:z=y:=zO0 (hz.symm.trans hy);subst ez;erw[λx=>x,6,λx=>%[(0)|by rw[e x,M8 rfl];simp]]
     have:(Tr.is z).names.count z=1:=by simp [Tr.names]
     rw[this];exact IsPoly.self
   . let ez:z≠y:=λh=>c (by
      subst h;exact nd_at nd hz hy)
     erw[λ_=>pt.getD i 0,6,λx=>%[(0)|by rw[e x,M6 c];simp]];exact IsPoly.const _ _
 |.yes,_=>%[λ_=>1,IsPoly.const _ _|λx=>%[(0)|by show(1:Int)-1=_;simp]]
 |.no,_=>%[λ_=>0,IsPoly.const _ _|λx=>%[(0)|by show(0:Int)-0=_;simp]]
 |.not a,ok=>by
   let%[f,hf|h]:=ji (p:=p) hy hl nd a ok;erw[λx=>1+(-1)*f x,(IsPoly.const 1 _).add (hf.mul (-1)),λx=>?_];let%[k|hk]:=h x;let%[m|hm]:=rY p (1-a.worth ns (pt.set j x) p);show p ∣ (1-a.worth ns (pt.set j x) p) % p-_;erw[m-k,by grind]
 |.bin o a b,⟨_,ok1,ok2⟩=>by
   let%[f,hf|h]:=ji (p:=p) hy hl nd a ok1;let%[g,hg|h']:=ji (p:=p) hy hl nd b ok2;let ec:(Tr.bin o a b).names.count y+1=a.names.count y+b.names.count y+1:=by
    show(a.names++b.names).count y+1=_;rw[List.count_append]
   rw [ec];let hF:IsPoly (a.names.count y+b.names.count y+1) f:=hf.upTo _ #[0];let hG:IsPoly (a.names.count y+b.names.count y+1) g:=hg.upTo _ #[0];let hP:=hf.prod hg;let fin:∀(c0 c1 c2:Int),(∀u v:Int,eG p o u v=(c0+c1*(u+v)+c2*(u*v)) % p)->∃F:Int->Int,IsPoly (a.names.count y+b.names.count y+1) F/\∀x:Int,p ∣ (Tr.bin o a b).worth ns (pt.set j x) p-F x:=λc0 c1 c2 hJ=>by
    erw[λx=>c0+c1*(f x+g x)+c2*(f x*g x),((IsPoly.const c0 _).add ((hF.add hG).mul c1)).add (hP.mul c2),λx=>?_];let%[k|hk]:=h x;let%[l|hl]:=h' x;show p ∣ eG p o (a.worth ns (pt.set j x) p) (b.worth ns (pt.set j x) p)-_;rw[hJ];generalize a.worth ns (pt.set j x) p=u at *
    generalize b.worth ns (pt.set j x) p=v at *
    let%[m|hm]:=rY p (c0+c1*(u+v)+c2*(u*v));erw[m+c1*(k+l)+c2*(k*v+f x*l),by grind]
   by_cases c1:o="and"
   . exact fin 0 0 1 λu v=>by unfold eG;rw[M8 c1];congr 1;grind
   by_cases c2:o="or"
   . exact fin 0 1 (-1) λu v=>by unfold eG;rw[M6 c1,M8 c2];congr 1;grind
   by_cases c3:o="odd"
   . exact fin 0 1 (-2) λu v=>by unfold eG;rw[M6 c1,M6 c2,M8 c3];congr 1;grind
   . exact fin 1 (-1) 2 λu v=>by unfold eG;rw[M6 c1,M6 c2,M6 c3];congr 1;grind
def wB{ns:List Str}{pt:List Int}{p:Int}{j D:Nat}{y:Str}(hy:ns[j]?=some y)(hl:pt.length=ns.length)(nd:ns.Nodup):∀ts:List Tr,(∀t∈ts,t.ok ns/\t.names.count y<=D)->∃f:Int->Int,IsPoly (D+1) f/\∀x:Int,p ∣ ia s (ts.map λt=>t.worth ns (pt.set j x) p)-f x
 | [],_=>%[λ_=>0,IsPoly.const _ _|λx=>%[(0)|by simp [ia]]]
 |t::ts,h=>by
   let%[f,hf|h1]:=ji (p:=p) hy hl nd t (h t zX0).1;let%[g,hg|h2]:=wB (p:=p) (s:=s) hy hl nd ts λu hu=>h u (qK0 _ hu)
   let hd:=(h t zX0).2;erw[λx=>f x+s*g x,(hf.upTo _ #[0]).add (hg.mul s),λx=>?_];let%[k|hk]:=h1 x;let%[l|hl]:=h2 x;show p ∣ t.worth ns (pt.set j x) p+s*ia s (ts.map λt=>t.worth ns (pt.set j x) p)-_;erw[k+s*l,by grind]
def Cd(hp:Pm p){xs:List Int}{f:Int->Int}(hn:(xs.length:Int)<=p)(hf:IsPoly xs.length f)(h:∀k,k<xs.length->p ∣ xs.getD k 0-f k)(r:Int):val p xs r=f r % p:=
 md (wH hp hn (xA hp hn) hf h r)
def IU{ts:List Tr}{x:Str}:∀t∈ts,t.names.count x<=(aV ts x).toNat:=λt ht=>by
 have:=Gs (d:=0) (List.mem_map.mpr %[t,ht|1]:((t.names.count x:Nat):Int)∈ts.map λt=>(t.names.count x:Int))
 unfold aV;omega
def zr:∀(cs st:List Int)(x z:Int),(cs++[z]++st).set cs.length x=cs++[x]++st
 | [],_,_,_=>rfl
 |a::cs,st,x,z=>congrArg (a::·) (zr cs st x z)
def vK{ns:List Str}{cs:List Int}{p:Int}{D:Nat}{y:Str}{ts:List Tr}(hy:ns[cs.length]?=some y)(nd:ns.Nodup)(h:∀t∈ts,t.ok ns/\t.names.count y<=D):∀l:List (List Int),(∀st∈l,cs.length+1+st.length=ns.length) ->
 ∃f:Int->Int,IsPoly (D+1) f/\∀x:Int,p ∣ (l.map λst=>ia s (ts.map λt=>t.worth ns (cs++[x]++st) p)).sum-f x
 | [],_=>%[λ_=>0,IsPoly.const _ _|λx=>%[(0)|by simp]]
 |st::l,hs=>by
   let%[f,hf|h1]:=wB (p:=p) (s:=s) (pt:=cs++[0]++st) hy (by rw[zL0,zL0,qL0];exact hs st zX0) nd ts h;let%[g,hg|h2]:=vK (p:=p) (s:=s) hy nd h l λu hu=>hs u (qK0 _ hu)
   erw[λx=>f x+g x,hf.add hg,λx=>?_];let%[k|hk]:=h1 x;rw[zr]at hk;let%[m|hm]:=h2 x;erw[k+m,6];simp only[qC0,zP1];rw[Int.mul_add];omega
def oj:∀(n:Nat)(s:List Int),s∈cI n->s.length=n
 |0,s,h=>by rw[Nd h];rfl
 |n+1,s,h=>by
   let%[t,ht|h]:=List.mem_flatMap.mp h
   have:=oj n t ht
   rcases Nf h with h | h
   . rw[h,zL0,this];rfl
   . rw[Nd h,zL0,this];rfl
def ze{ns:List Str}{ts:List Tr}{cs:List Int}{y:Str}(hp:Pm p)(hy:ns[cs.length]?=some y)(nd:ns.Nodup)(ok:∀t∈ts,t.ok ns)(tne:ts≠[])(dp:aV ts y<p)(r:Int):
 val p (eZ ns ts s p cs (aV ts y+1).toNat) r=cQ ns ts s p (cs++[r]):=by
 let cl:cs.length<ns.length:=(zY0 hy).1;let d0:=wZ (x:=y) tne;let%[f,hf|h]:=vK (p:=p) (s:=s) hy nd (λt ht=>%[ok t ht|IU t ht]) (cI (ns.length-(cs.length+1))) λst Na=>by
  have:=oj _ _ Na
  omega
 let ll:(eZ ns ts s p cs (aV ts y+1).toNat).length=(aV ts y).toNat+1:=by
  unfold eZ;rw[zF0,qR0];omega
 let eq:∀x:Int,cQ ns ts s p (cs++[x])=((cI (ns.length-(cs.length+1))).map λst=>ia s (ts.map λt=>t.worth ns (cs++[x]++st) p)).sum % p:=λx=>by
  unfold cQ;rw[zL0,qL0]
 rw [Cd hp (f:=f) (by rw[ll];omega) (by rw[ll];exact hf) (λk hk=>by
  let e:(eZ ns ts s p cs (aV ts y+1).toNat).getD k 0=cQ ns ts s p (cs++[(k:Int)]):=by
   unfold eZ at hk ⊢;rw[zF0,qR0]at hk;rw[qO0,zW0,jL1 hk];rfl
  rw[e,eq];let%[a|ha]:=h k;let%[b|hb]:=rY p ((cI (ns.length-(cs.length+1))).map λst=>ia s (ts.map λt=>t.worth ns (cs++[(k:Int)]++st) p)).sum;erw[a+b,by grind]) r,eq]
 let%[a|ha]:=h r;exact md %[-a|by grind]
def zi{α:Type}(F:List α->Int)(G:List α->Int):∀l:List (List α),(l.map λs=>F s+G s).sum=(l.map F).sum+(l.map G).sum
 | []=>rfl
 |a::l=>by
   simp only[qC0,zP1,zi F G l];omega
def qk(F:List Int->Int):∀l:List (List Int),((l.flatMap λs=>[s++[0],s++[1]]).map F).sum=(l.map λs=>F (s++[0])+F (s++[1])).sum
 | []=>rfl
 |a::l=>by
   rw[List.flatMap_cons,zK0,jQ1,qk F l]
   simp
def oY:∀(n:Nat)(F:List Int->Int),((cI (n+1)).map F).sum=((cI n).map λs=>F (0::s)+F (1::s)).sum
 |0,F=>by simp [cI]
 |n+1,F=>by
   let e1:((cI (n+1+1)).map F).sum=((cI (n+1)).map λs=>F (s++[0])+F (s++[1])).sum:=qk F _;rw[e1,oY n λs=>F (s++[0])+F (s++[1])];let e2:((cI (n+1)).map λs=>F (0::s)+F (1::s)).sum=((cI n).map λs=>(F (0::(s++[0]))+F (1::(s++[0])))+(F (0::(s++[1]))+F (1::(s++[1])))).sum:=qk (λs=>F (0::s)+F (1::s)) _;rw[e2]
   congr 1
   apply jM0 λs _=>?_
   show F (0::s++[0])+F (0::s++[1])+(F (1::s++[0])+F (1::s++[1]))=_;simp only[List.cons_append];omega
def AC{ns:List Str}{cs:List Int}(cl:cs.length<ns.length):(cQ ns ts s p (cs++[0])+cQ ns ts s p (cs++[1])) % p=cQ ns ts s p cs:=by
 let eq:∀x:Int,cQ ns ts s p (cs++[x])=((cI (ns.length-(cs.length+1))).map λst=>ia s (ts.map λt=>t.worth ns (cs++[x]++st) p)).sum % p:=λx=>by
  unfold cQ;rw[zL0,qL0]
 let e0:cQ ns ts s p cs=((cI (ns.length-(cs.length+1)+1)).map λst=>ia s (ts.map λt=>t.worth ns (cs++st) p)).sum % p:=by
  unfold cQ;rw[show ns.length-cs.length=ns.length-(cs.length+1)+1 by omega]
 rw [e0,oY,eq,eq];let e1:((cI (ns.length-(cs.length+1))).map λst=>ia s (ts.map λt=>t.worth ns (cs++0::st) p)+ia s (ts.map λt=>t.worth ns (cs++1::st) p)).sum
  = ((cI (ns.length-(cs.length+1))).map λst=>ia s (ts.map λt=>t.worth ns (cs++[0]++st) p)).sum+((cI (ns.length-(cs.length+1))).map λst=>ia s (ts.map λt=>t.worth ns (cs++[1]++st) p)).sum:=by
  rw[←zi]
  congr 1
  apply jM0 λst _=>?_
  simp only[qZ1,List.singleton_append]
 rw[e1,←wP0]
def qX(s:Int){α:Type}(F:Tr->α->Int)(l:List α):∀ts:List Tr,ia s (ts.map λt=>(l.map (F t)).sum)=(l.map λa=>ia s (ts.map λt=>F t a)).sum
 | []=>by
   simp only[wM0,ia]
   induction l with
   |nil=>rfl
   |cons a l ih=>simpa using ih
 |t::ts=>by
   show(l.map (F t)).sum+s*ia s (ts.map λt=>(l.map (F t)).sum)=_;rw[qX s F l ts];clear qX
   induction l with
   |nil=>simp
   |cons a l ih=>
     simp only[qC0,zP1,ia]at ih ⊢
     grind
def FJ{ns:List Str}{cs:List Int}(cl:cs.length=ns.length):cQ ns ts s p cs=hor s p (ts.map λt=>t.worth ns cs p):=by
 rw[kO];unfold cQ;rw[cl,wO0]
 simp [cI]
def Ci(k:AkOk z)(nd:z.ns.Nodup)(i:Int)(h:0<z.nr):gK z i=cQ z.ns z.ts z.s z.p (z.to++[i]):=by
 let%[x,hx,ex,d0,d1|d4]:=k.deg h;unfold gK;rw[M8 h];let e:z.tru=eZ z.ns z.ts z.s z.p z.to (aV z.ts x+1).toNat:=by
  unfold Ak.tru;rw[M6 #[0],ex]
 let t0:z.ts≠[]:=λe=>by have:=k.gk.t1;rw[e]at this;cases this
 rw[e];exact ze (vW k.gk.pr (by have:=k.gk.p9;omega)) hx nd (λt ht=>(k.gk.tok t ht).1) t0 d1 i
def Cj{z:Ak}(h:z.nr=0)(i:Nat){t:Tr}(ht:z.ts[i]?=some t):gK z (i:Int)=(cnt t z.ns:Int) % z.p:=by
 let hl:=(zY0 ht).1;unfold gK;let e:z.tru=z.ts.map (λt=>(cnt t z.ns:Int)):=by
  unfold Ak.tru;rw[M8 h]
 rw[M6 #[0],e,zF0,M8 #[0],qT0,qO0,zW0,ht];rfl
def GV{ns:List Str}{p:Int}(hp:1<p){t:Tr}(ok:t.ok ns):(cnt t ns:Int)=((cI ns.length).map λst=>t.worth ns st p).sum:=by
 unfold cnt;let h:∀st∈cI ns.length,t.worth ns st p=if t.holds ns st then 1 else 0:=λst Na=>iA hp (kf _ _ Na) (oj _ _ Na) t ok
 generalize cI ns.length=l at h
 induction l with
 |nil=>rfl
 |cons a l ih=>
   let ih:=ih λst Na=>h st (qK0 _ Na)
   rw[qC0,zP1,←ih,h a zX0,List.filter_cons];cases t.holds ns a
   . simp
   . simp only[if_true,zR0];omega
def rJ{ns:List Str}{ts:List Tr}{p:Int}(hp:1<p)(ok:∀t∈ts,t.ok ns):hor s p (ts.map λt=>(cnt t ns:Int))=cQ ns ts s p []:=by
 rw[kO];unfold cQ;let e:(ts.map λt=>(cnt t ns:Int))=ts.map λt=>((cI ns.length).map λst=>t.worth ns st p).sum:=jM0 λt ht=>GV hp (ok t ht)
 rw[e,qX s (λt st=>t.worth ns st p)];rfl
def zH(s p:Int):∀xs:List Int,hor s p (xs.map (· % p))=hor s p xs
 | []=>rfl
 |a::r=>by
   show(hor s p (r.map (· % p))*s+a % p) % p=(hor s p r*s+a) % p;rw[zH s p r,Int.add_emod_emod]
def wC(k:GmK ns ts p)(s:Int):hor s p (ts.map λu=>(cnt u ns:Int) % p)=cQ ns ts s p []:=by
 let p2:=k.p2;rw[←rJ (s:=s) (p:=p) #[0] (λu hu=>(k.tok u hu).1),←zH s p (ts.map λt=>(cnt t ns:Int)),List.map_map];rfl
def wO(z:Db)(tl:z.to.length<=ns.length)(e:z.ed=cQ ns ts z.s p z.to):((goOn ns ts p z).aw.1="hear" -> (goOn ns ts p z).ed=cQ ns ts (goOn ns ts p z).s p (goOn ns ts p z).to)/\(¬ (goOn ns ts p z).aw.1="hear" -> (goOn ns ts p z).aw=(("believed":Str),none)):=by
 unfold goOn
 by_cases c:z.to.length<ns.length
 . rw[M8 c];erw[λ_=>e,λh=>absurd rfl h]
 . rw [M6 c];unfold fk;let e2:z.ed=hor z.s p (ts.map λt=>t.worth ns z.to p):=by rw[e,FJ #[0]]
   rw[M8 e2];erw[λh=>absurd h ne_w5,λ_=>rfl]
structure Tru(ns:List Str)(ts:List Tr)(p:Int)(t:Tk):Prop where
 he:t.z.aw.1="hear" -> t.z.ed=cQ ns ts t.z.s p t.z.to
 co:t.z.aw.1="coin" -> t.z.he≠[]->t.z.he=eZ ns ts t.z.s p t.z.to (aV ts (ns.getD t.z.to.length "")+1).toNat
 cm:t.z.aw.1="coin" -> t.z.he=[]->t.z.cl=ts.map (λu=>(cnt u ns:Int) % p)/\t.z.to=[]
 en:¬ t.z.aw.1="hear" -> ¬ t.z.aw.1="coin" -> t.z.aw=(("believed":Str),none)
structure Hon(ns:List Str)(ts:List Tr)(p:Int)(rows:List Hr):Prop where
 cl:(Tk.new ts).said ns ts p rows=ts.map (λu=>(cnt u ns:Int) % p)
 ro:∀t,TkOk ns ts p t->t.z.aw.1="hear" -> t.said ns ts p rows=eZ ns ts t.z.s p t.z.to (awN t.z).toNat
def qc(k:GmK ns ts p)(nd:ns.Nodup){cs:List Int}(tl:cs.length<ns.length)(r:Int):val p (eZ ns ts s p cs (aV ts (ns.getD cs.length "")+1).toNat) r=cQ ns ts s p (cs++[r]):=by
 let hy:ns[cs.length]?=some (ns.getD cs.length ""):=by
  rw[qO0,zN0 tl];rfl
 let hx:ns.getD cs.length ""∈ns:=qD0 hy;let t0:ts≠[]:=λe=>by have:=k.t1;rw[e]at this;cases this
 exact ze (vW k.pr (by have:=k.p9;omega)) hy nd (λu hu=>(k.tok u hu).1) t0 (k.deg _ hx).2 r
def Tru.ask(k:GmK ns ts p)(n6:ns.length<=6)(nd:ns.Nodup)(hn:Hon ns ts p rows)(h:TkOk ns ts p t)(d:Tru ns ts p t)(hw:t.z.aw.1="hear"):Tru ns ts p (t.ask ns ts p rows)/\(t.ask ns ts p rows).z.aw=(("coin":Str),none):=by
 let%[_,_,_,tl,aw|ea]:=h.ak k n6 hw;let x0:=h.gd.hear_ne k (h.hear (rows:=rows) k n6 hw);let e:(t.ask ns ts p rows).z=eW p (t.said ns ts p rows) { t.z with pl:=t.z.pl+((t.said ns ts p rows).length:Int) }:=M6 h.cl;let es:t.said ns ts p rows=eZ ns ts t.z.s p t.z.to (aV ts (ns.getD t.z.to.length "")+1).toNat:=by rw[hn.ro t h hw,ea]
 let ac:(t.ask ns ts p rows).z.aw=(("coin":Str),none):=by
  rw[e];unfold eW;rw[M8];show(val p (t.said ns ts p rows) 0+val p (t.said ns ts p rows) 1) % p=t.z.ed;rw[es,qc k nd tl,qc k nd tl,AC tl,d.he hw]
 erw[%[λz=>?_,λ_ _=>?_,λ_ z=>?_|λ_ z=>?_],ac]
 . rw[ac]at z;exact absurd z kN
 . rw[e];exact es
 . rw[e]at z;exact absurd z x0
 . rw[ac]at z;exact absurd rfl z
def Tru.toss(k:GmK ns ts p)(nd:ns.Nodup)(h:TkOk ns ts p t)(d:Tru ns ts p t)(hw:t.z.aw.1="coin")(r:Int):Tru ns ts p (t.toss ns ts p r):=by
 let fin:∀z:Db,z.to.length<=ns.length->z.ed=cQ ns ts z.s p z.to->(t.toss ns ts p r).z=goOn ns ts p z->Tru ns ts p (t.toss ns ts p r):=λz tl e ez=>by
  let%[f1|f2]:=wO (ns:=ns) (ts:=ts) (p:=p) z tl e;let no:=jO (ns:=ns) (ts:=ts) (p:=p) z;rw[←ez]at f1 f2 no;erw[f1,λz=>absurd z no,λz=>absurd z no,λz _=>f2 z]
 by_cases c:t.z.he=[]
 . let%[ec|et]:=d.cm hw c;apply fin { t.z with pl:=t.z.pl+1,s:=r,ed:=hor r p t.z.cl } h.gd.tl ?_ (M8 c);show hor r p t.z.cl=cQ ns ts r p t.z.to;rw[ec,et,wC k]
 . let tl:=((h.gd.co hw).2 c).2;apply fin { t.z with pl:=t.z.pl+1,ed:=val p t.z.he r,to:=t.z.to++[r] } (by show(t.z.to++[r]).length<=_;rw[zL0,qL0];omega) ?_ (M6 c);show val p t.z.he r=cQ ns ts t.z.s p (t.z.to++[r]);rw[d.co hw c,qc k nd tl]
def kP(k:GmK ns ts p)(n6:ns.length<=6)(nd:ns.Nodup)(hn:Hon ns ts p rows):∀(n:Nat) (t:Tk) (cs:List Int),TkOk ns ts p t->Tru ns ts p t->bJ cs p->cE ns t.z<=n->(cU ns ts p rows cs n t).2.z.aw=(("believed":Str),none)
 |0,t,cs,h,d,hc,hs=>d.en (λz=>by have:=(gi h (.inl z)).1;omega) (λz=>by have:=(gi h (.inr z)).1;omega)
 |n+1,t,cs,h,d,hc,hs=>by
   let p2:=k.p2
   by_cases ch:t.z.aw.1="hear"
   . rw[eR ch];let%[o,s|_]:=h.ask (rows:=rows) k n6 ch;exact kP k n6 nd hn n _ cs o (d.ask k n6 nd hn h ch).1 hc #[0]
   . by_cases cc:t.z.aw.1="coin"
     . rw[ef cc];let%[r0|r1]:=tI hc #[0];let%[o,s|_]:=h.toss k cc r0 r1;exact kP k n6 nd hn n _ cs.tail o (d.toss k nd h cc _) (zg hc) #[0]
     . rw[gh ch cc];exact d.en ch cc
def Tru.new(k:GmK ns ts p)(hn:Hon ns ts p rows):Tru ns ts p ‹Tk.a›:=by
 let e0:cG ns ts p ‹Tk.s› (Db.new ts)=je ns ts p ‹Tk.s› { Db.new ts with pl:=(Db.new ts).pl+(‹Tk.s›.length:Int) }:=M8 rfl
 by_cases c:ts.length=1
 . let e:‹Tk.a›.z=goOn ns ts p { Db.new ts with pl:=(Db.new ts).pl+(‹Tk.s›.length:Int),cl:=‹Tk.s›,s:=0,ed:=hor 0 p ‹Tk.s› }:=e0.trans (M8 c);let%[f1|f2]:=wO (ns:=ns) (ts:=ts) (p:=p) { Db.new ts with pl:=(Db.new ts).pl+(‹Tk.s›.length:Int),cl:=‹Tk.s›,s:=0,ed:=hor 0 p ‹Tk.s› } (zP0 _) (by
    show hor 0 p ‹Tk.s›=cQ ns ts 0 p [];rw[hn.cl,wC k])
   let no:=jO (ns:=ns) (ts:=ts) (p:=p) { Db.new ts with pl:=(Db.new ts).pl+(‹Tk.s›.length:Int),cl:=‹Tk.s›,s:=0,ed:=hor 0 p ‹Tk.s› };rw[←e]at f1 f2 no;erw[f1,λz=>absurd z no,λz=>absurd z no,λz _=>f2 z]
 . let ez:‹Tk.a›.z={ Db.new ts with pl:=(Db.new ts).pl+(‹Tk.s›.length:Int),cl:=‹Tk.s›,aw:=("coin",none) }:=e0.trans (M6 c);erw[λz=>?_,λ_ z=>?_,λ_ _=>?_,λ_ z=>?_]
   . rw[ez]at z;exact absurd z kN
   . rw[ez]at z;exact absurd rfl z
   . rw[ez];erw[hn.cl,1]
   . rw[ez]at z;exact absurd rfl z
def yJ(k:GmK ns ts p)(n6:ns.length<=6)(nd:ns.Nodup)(hn:Hon ns ts p rows)(hc:bJ c p):(iB ns ts p rows c).2.z.aw=(("believed":Str),none):=by
 let%[o,st|_]:=jJ (rows:=rows) k n6;exact kP k n6 nd hn 20 _ c o (Tru.new k hn) hc #[0]
def yS(ns:List Str)(ts:List Tr)(p s:Int):List Int->List Int->List TR
 |_,[]=>[]
 |pre,r::cs=>.say (eZ ns ts s p pre (aV ts (ns.getD pre.length "")+1).toNat)::.coin r::yS ns ts p s (pre++[r]) cs
def rS(k:GmK ns ts p)(n6:ns.length<=6)(nd:ns.Nodup)(hn:Hon ns ts p rows):∀(cs:List Int) (n:Nat) (t:Tk),TkOk ns ts p t->Tru ns ts p t->bJ cs p->¬ t.z.aw.1="coin" -> (cs≠[]->t.z.aw.1="hear")->t.z.to.length+cs.length=ns.length->2*cs.length<=n->(cU ns ts p rows cs n t).1=yS ns ts p t.z.s t.z.to cs
 | [],n,t,h,d,hc,nc,hh,hl,hf=>by
   let nh:¬ t.z.aw.1="hear":=λz=>by
    have:=(h.ak k n6 z).2.2.2.1
    rw[zJ1]at hl;omega
   rw[gh nh nc];rfl
 |r::cs,n,t,h,d,hc,nc,hh,hl,hf=>by
   rw[zR0]at hl hf;obtain⟨n,rfl⟩:∃m,n=m+2:=%[n-2|3]
   let ch:=hh #[2];let%[_,_,_,tl,_|ea]:=h.ak k n6 ch;let%[o1,_,_|_]:=h.ask (rows:=rows) k n6 ch;let%[d1|ac]:=d.ask k n6 nd hn h ch;let x0:=h.gd.hear_ne k (h.hear (rows:=rows) k n6 ch);let ez:(t.ask ns ts p rows).z=eW p (t.said ns ts p rows) { t.z with pl:=t.z.pl+((t.said ns ts p rows).length:Int) }:=M6 h.cl;let cc:(t.ask ns ts p rows).z.aw.1="coin":=by rw[ac]
   let he:(t.ask ns ts p rows).z.he≠[]:=by rw[ez];exact x0
   let%[r0|r1]:=hc r zX0;let%[o2,_,_,nc2,_|t2]:=o1.toss k cc r0 r1;let%[es2|et2]:=t2 he;let es:(t.ask ns ts p rows).z.s=t.z.s:=by rw[ez];rfl
   let et:(t.ask ns ts p rows).z.to=t.z.to:=by rw[ez];rfl
   rw[es]at es2;rw[et]at et2;rw[eR ch,ef cc];show TR.say _::TR.coin r::(cU ns ts p rows cs n ((t.ask ns ts p rows).toss ns ts p r)).1=_;rw[rS k n6 nd hn cs n _ o2 (d1.toss k nd o1 cc r) (λx hx=>hc x (qK0 _ hx)) nc2 (λhne=>?_) (by rw[et2,zL0,qL0];omega) #[0],es2,et2,hn.ro t h ch,ea]
   . rfl
   . let e3:((t.ask ns ts p rows).toss ns ts p r).z=goOn ns ts p { (t.ask ns ts p rows).z with pl:=(t.ask ns ts p rows).z.pl+1,ed:=val p (t.ask ns ts p rows).z.he r,to:=(t.ask ns ts p rows).z.to++[r] }:=M6 he;let Nb:((t.ask ns ts p rows).z.to++[r]).length<ns.length:=by
      have:cs.length≠0:=λz=>hne (List.length_eq_zero_iff.mp z)
      rw[et,zL0,qL0];omega
     rw[e3];unfold goOn;rw[M8 Nb]
def Ev(k:GmK ns ts p)(n6:ns.length<=6)(nd:ns.Nodup)(hn:Hon ns ts p rows)(hc:bJ cs p)(hl:cs.length=tP ns ts):(iB ns ts p rows cs).1=.claims (ts.map λu=>(cnt u ns:Int) % p)::(if ts.length=1 then yS ns ts p 0 [] cs else .coin (cs.headD 0)::yS ns ts p (cs.headD 0) [] cs.tail):=by
 let p2:=k.p2;let%[o,_,_|_]:=jJ (rows:=rows) k n6;let d:=Tru.new k hn;let e0:cG ns ts p ‹Tk.s› (Db.new ts)=je ns ts p ‹Tk.s› { Db.new ts with pl:=(Db.new ts).pl+(‹Tk.s›.length:Int) }:=M8 rfl;show TR.claims ‹Tk.s›::(cU ns ts p rows cs 20 ‹Tk.a›).1=_;rw[hn.cl]
 congr 1
 unfold tP at hl
 by_cases c:ts.length=1
 . rw [M8 c]at hl ⊢;let e:‹Tk.a›.z=goOn ns ts p { Db.new ts with pl:=(Db.new ts).pl+(‹Tk.s›.length:Int),cl:=‹Tk.s›,s:=0,ed:=hor 0 p ‹Tk.s› }:=e0.trans (M8 c);let lw:=rV (ns:=ns) (ts:=ts) (p:=p) { Db.new ts with pl:=(Db.new ts).pl+(‹Tk.s›.length:Int),cl:=‹Tk.s›,s:=0,ed:=hor 0 p ‹Tk.s› };let no:=jO (ns:=ns) (ts:=ts) (p:=p) { Db.new ts with pl:=(Db.new ts).pl+(‹Tk.s›.length:Int),cl:=‹Tk.s›,s:=0,ed:=hor 0 p ‹Tk.s› };rw[←e]at lw no;let es:‹Tk.a›.z.s=0:=lw.1;let et:‹Tk.a›.z.to=[]:=lw.2.1;rw[rS k n6 nd hn cs 20 _ o d hc no (λhne=>?_) (by rw[et,zJ1];omega) #[0],es,et];rw[e];unfold goOn;rw[M8];show(0:Nat)<ns.length
   have:cs.length≠0:=λz=>hne (List.length_eq_zero_iff.mp z)
   omega
 . rw [M6 c]at hl ⊢;let ez:‹Tk.a›.z={ Db.new ts with pl:=(Db.new ts).pl+(‹Tk.s›.length:Int),cl:=‹Tk.s›,aw:=("coin",none) }:=e0.trans (M6 c);let cc:‹Tk.a›.z.aw.1="coin":=by rw[ez]
   let he:‹Tk.a›.z.he=[]:=by rw[ez];rfl
   let%[r0|r1]:=tI hc #[0];let%[o2,_,_,nc2,t1|_]:=o.toss k cc r0 r1;let%[es|et]:=t1 he;rw[show(20:Nat)=19+1 from rfl,ef cc];show TR.coin _::(cU ns ts p rows cs.tail 19 (‹Tk.a›.toss ns ts p (cs.headD 0))).1=_;let tl:cs.tail.length=ns.length:=by rw[List.length_tail];omega
   rw[rS k n6 nd hn cs.tail 19 _ o2 (d.toss k nd o cc _) (zg hc) nc2 (λhne=>?_) (by rw[et,zJ1];omega) #[0],es,et];let e3:(‹Tk.a›.toss ns ts p (cs.headD 0)).z=goOn ns ts p { ‹Tk.a›.z with pl:=‹Tk.a›.z.pl+1,s:=cs.headD 0,ed:=hor (cs.headD 0) p ‹Tk.a›.z.cl }:=M8 he;rw[e3];unfold goOn;rw[M8];rw[ez];show(0:Nat)<ns.length
   have:cs.tail.length≠0:=λz=>hne (List.length_eq_zero_iff.mp z)
   omega
def dD(z:Ak)(n:Nat):List Int:=(List.range n).map λk:Nat=>gK z ((k:Int) % z.p)
def iR(z:Ak)(n:Nat):(dD z n).length=n:=by unfold dD;rw[zF0,qR0]
def xE(z:Ak)(n:Nat):dD z (n+1)=dD z n++[gK z ((n:Int) % z.p)]:=by
 unfold dD;rw[qJ1,zK0];rfl
def re(z:Ak){n:Nat}(h:z.mn=(n:Int)):rf z.mn (dD z n)=dD z n:=by
 unfold rf;rw[iR,h,Int.sub_self];exact qI1 _
def Ab(k:GmK ns ts p)(n6:ns.length<=6)(nd:ns.Nodup)(h:TkOk ns ts p t)(hw:t.z.aw.1="hear"):dD (t.ak ns ts p) (awN t.z).toNat=eZ ns ts t.z.s p t.z.to (awN t.z).toNat:=by
 let%[ok,a0,a5,tl,aw|ea]:=h.ak k n6 hw;let nr:=h.nr;let hx:ns.getD t.z.to.length ""∈ns:=by
  rw[qO0,zN0 tl];exact qP0 tl
 let dp:=(k.deg _ hx).2;unfold dD eZ;apply jM0 λj hj=>?_
 let hj:=List.mem_range.mp hj;let e:(j:Int) % (t.ak ns ts p).p=(j:Int):=qU0 #[0] (by show(j:Int)<p;omega);rw[e];exact Ci ok nd (j:Int) (by show 0<t.nr;omega)
def Ac(k:GmK ns ts p):dD ((Tk.new ts).ak ns ts p) ts.length=ts.map λu=>(cnt u ns:Int) % p:=by
 let tp:=k.tp;apply List.ext_getElem? λj=>?_
 unfold dD;rw[zW0,zW0]
 by_cases c:j<ts.length
 . rw[jL1 c,zN0 c];show some (gK ((Tk.new ts).ak ns ts p) ((j:Int) % ((Tk.new ts).ak ns ts p).p))=_;let e:(j:Int) % ((Tk.new ts).ak ns ts p).p=(j:Int):=qU0 #[0] (by show(j:Int)<p;omega);rw[e,Cj (z:=(Tk.new ts).ak ns ts p) rfl j (zN0 c)];rfl
 . rw[List.getElem?_eq_none (by rw[qR0];omega),List.getElem?_eq_none #[0]];rfl
def Hon.of(k:GmK ns ts p)(n6:ns.length<=6)(nd:ns.Nodup)(h:∀(z:Ak) (bx:Str->Int) (n:Nat),z.p=p->z.mn=(n:Int)->1<=n->(n=ts.length∨∃x∈ns,(n:Int)=aV ts x+1)->(mf z rows 200 %[(0),bx|[]]).sd=dD z n):Hon ns ts p rows:=by
 erw[6,λt ht hw=>?_]
 . let e:=h ((Tk.new ts).ak ns ts p) (Tk.new ts).bx ts.length rfl rfl k.t1 (.inl rfl);unfold Tk.said Tk.run;rw[e];exact(re ((Tk.new ts).ak ns ts p) rfl).trans (Ac k)
 . let%[ok,a0,a5,tl,aw|ea]:=ht.ak k n6 hw;let hx:ns.getD t.z.to.length ""∈ns:=by
    rw[qO0,zN0 tl];exact qP0 tl
   let d0:=(iJ k (ns.getD t.z.to.length "")).1;let en:awN t.z=((awN t.z).toNat:Int):=#[0]
   let e:=h (t.ak ns ts p) t.bx (awN t.z).toNat rfl en #[0] (.inr %[_,hx|3]);unfold Tk.said Tk.run;rw[e];exact(re (t.ak ns ts p) en).trans (Ab k n6 nd ht hw)
def ne_tc:¬ (("true":Str)="coin"):=by decide
def hB(x:Str):List Hr:=[.set x (.num 0),.say (.ask "true" (.box x)),.set x (.op "+" (.box x) (.num 1)),.go 1]
def uK{z:Ak}{rows:List Hr}{n:Nat}{s:MS}(h1:s.pl<(rows.length:Int))(h2:(s.sd.length:Int)<z.mn):mf z rows (n+1) s=mf z rows n (fb z rows s):=M8 %[h1|h2]
def zu{z:Ak}{rows:List Hr}{s:MS}(h:¬ (s.pl<(rows.length:Int)/\(s.sd.length:Int)<z.mn)):∀n,mf z rows n s=s
 |0=>rfl
 |n+1=>M6 h
def runB{z:Ak}{x:Str}(p0:0<z.p):∀(m j fuel:Nat)(bx:Str->Int),z.mn=((j+m:Nat):Int)->3*m<=fuel->bx x=(j:Int) % z.p->(mf z (hB x) fuel %[(1),bx|dD z j]).sd=dD z (j+m)
 |0,j,fuel,bx,hm,hf,hb=>by
   rw[zu (λc=>absurd c.2 (by show ¬ ((dD z j).length:Int)<z.mn;rw[iR,hm];omega))];rfl
 |m+1,j,fuel,bx,hm,hf,hb=>by
   obtain⟨fu,rfl⟩:∃fu,fuel=fu+3:=%[fuel-3|3]
   let e1:fb z (hB x) %[(1),bx|dD z j]=⟨2,bx,dD z (j+1)⟩:=by
    show(%[1+1,bx|dD z j++[if("true":Str)="coin" then kW z (bx x)else gK z (bx x)]]:MS)=_;rw[M6 ne_tc,hb,xE];rfl
   rw[uK (by show(1:Int)<4;decide) (by show((dD z j).length:Int)<z.mn;rw[iR,hm];omega),e1];cases m with
   |zero=>
     rw[zu (λc=>absurd c.2 (by show ¬ ((dD z (j+1)).length:Int)<z.mn;rw[iR,hm];omega))]
   |succ m=>
     let hl:((dD z (j+1)).length:Int)<z.mn:=by rw[iR,hm];omega
     let e2:fb z (hB x) %[(2),bx|dD z (j+1)]=⟨3,jW bx x (opV z.p "+" (bx x) (1 % z.p)),dD z (j+1)⟩:=rfl;let e3:fb z (hB x) ⟨3,jW bx x (opV z.p "+" (bx x) (1 % z.p)),dD z (j+1)⟩=⟨1,jW bx x (opV z.p "+" (bx x) (1 % z.p)),dD z (j+1)⟩:=rfl;rw[uK (by show(2:Int)<4;decide) hl,e2,uK (by show(3:Int)<4;decide) hl,e3];let hb2:jW bx x (opV z.p "+" (bx x) (1 % z.p)) x=((j+1:Nat):Int) % z.p:=by
      unfold jW;rw[M8 rfl];show(bx x+1 % z.p) % z.p=_;rw[hb,Int.emod_add_emod,Int.add_emod_emod];rfl
     have:=runB p0 (m+1) (j+1) fu _ (by rw[hm];omega) #[0] hb2
     rw[this]
     congr 1
     omega
def hon_B(k:GmK ns ts p)(n6:ns.length<=6)(nd:ns.Nodup)(d60:∀y∈ns,aV ts y<=60):Hon ns ts p (hB x):=Hon.of k n6 nd λz bx n zp hn n1 h=>by
 let p2:=k.p2;let t10:=k.t10;let n66:n<=66:=by
  rcases h with h | ⟨y,hy,h⟩
  . omega
  . have:=d60 y hy
    omega
 let e1:fb z (hB x) %[(0),bx|[]]=⟨1,jW bx x (0 % z.p),dD z 0⟩:=rfl;rw[uK (by show(0:Int)<4;decide) (by rw[hn];show(0:Int)<(n:Int);omega),e1,runB #[0] n 0 199 _ (by rw[hn,Nat.zero_add]) #[0] (by unfold jW;rw[M8 rfl];rfl),Nat.zero_add]
end
section
variable {ns:List Str}{ts:List Tr}{p:Int}
def jX(ns:List Str)(ts:List Tr):Int:=(ts.length:Int)+(if ts.length=1 then(ns.length:Int)else(ns.length:Int)+1)+((ns.map (aV ts)).sum+(ns.length:Int))+szs ts
def Lk(ns:List Str)(ts:List Tr)(k:Nat):Int:=(ts.length:Int)+(if ts.length=1 then 0 else 1)+((ns.take k).map (aV ts)).sum+2*((ns.take k).length:Int)
def vF{ns:List Str}{k:Nat}(h:k<ns.length):Lk ns ts (k+1)=Lk ns ts k+aV ts (ns.getD k "")+1+1:=by
 unfold Lk;let e:ns.take (k+1)=ns.take k++[ns.getD k ""]:=by
  rw[qB0,zN0 h,qO0,zN0 h];rfl
 rw[e,zK0,jQ1,zL0];simp only[qC0,wM0,zP1,List.sum_nil,qL0];omega
def Fb(ns:List Str)(ts:List Tr):Lk ns ts ns.length+szs ts=jX ns ts:=by
 unfold Lk jX;rw[zZ0]
 split <;> omega
def zU(K:GmK ns ts p){k:Nat}:∀m,k+m<=ns.length->Lk ns ts k<=Lk ns ts (k+m)
 |0,_=>zT1 _
 |m+1,h=>by
   have:=zU K (k:=k) m #[0]
   let e:=vF (ns:=ns) (ts:=ts) (k:=k+m) #[0];let d:=iJ K (ns.getD (k+m) "")
   have:k+(m+1)=k+m+1:=#[0]
   rw[this];omega
end
section
variable {ns:List Str}{ts:List Tr}{p:Int}{z:Db}
structure AtR(ns:List Str)(ts:List Tr)(p:Int)(k:Nat)(L:Int)(z:Db):Prop where
 cl:z.cl≠[]
 to:z.to.length=k
 po:bJ z.to p
 e0:0<=z.ed
 e1:z.ed<p
 hd:k<ns.length->z.aw=(("hear":Str),some (aV ts (ns.getD k "")+1))/\z.pl=L
 en:ns.length<=k->z.pl=L+szs ts/\z.aw=(if z.ed=hor z.s p (ts.map λt=>t.worth ns z.to p)then(("believed":Str),none)else(("caught":Str),some ((z.to.length:Int)+1)))
def vt{k:Nat}(cl:z.cl≠[])(to:z.to.length=k)(po:bJ z.to p)(e0:0<=z.ed)(e1:z.ed<p):AtR ns ts p k z.pl (goOn ns ts p z):=by
 unfold goOn
 by_cases c:k<ns.length
 . rw[M8 #[0]];erw[cl,to,po,e0,e1,λ_=>%[by rw[to]|1],λz=>#[0]]
 . rw[M6 #[0]];erw[cl,to,po,e0,e1,λz=>absurd z c,λ_=>%[1|1]]
def yW{xs:List Int}{z:Db}(k:GmK ns ts p)(h1:ts.length=1)(hx:xs≠[])(c0:z.cl=[])(t0:z.to=[]):AtR ns ts p 0 (z.pl+(xs.length:Int)) (cG ns ts p xs z):=by
 let p2:=k.p2;unfold cG;rw[M8 c0];unfold je;rw[M8 h1];unfold vB;let hr:=jN (s:=0) (p:=p) #[0] xs;exact vt (z:={ z with pl:=z.pl+(xs.length:Int),cl:=xs,s:=0,ed:=hor 0 p xs }) hx (by rw[t0];rfl) (by rw[t0];exact λx hx=>by cases hx) hr.1 hr.2
def xj{z:Db}(h1:¬ ts.length=1)(c0:z.cl=[]):cG ns ts p xs z={ z with pl:=z.pl+(xs.length:Int),cl:=xs,aw:=("coin",none) }:=by
 unfold cG;rw[M8 c0];unfold je;rw[M6 h1]
def Co{z:Db}(k:GmK ns ts p)(c0:z.cl≠[])(h0:z.he=[])(t0:z.to=[]):AtR ns ts p 0 (z.pl+1) (cZ ns ts p r z):=by
 let p2:=k.p2;unfold cZ;rw[M8 h0];unfold vB;let hr:=jN (s:=r) (p:=p) #[0] z.cl;exact vt (z:={ z with pl:=z.pl+1,s:=r,ed:=hor r p z.cl }) c0 (by rw[t0];rfl) (by rw[t0];exact λx hx=>by cases hx) hr.1 hr.2
def Ez{z:Db}(c0:z.cl≠[]):cG ns ts p xs z={ z with pl:=z.pl+(xs.length:Int),he:=xs,aw:=if(val p xs 0+val p xs 1) % p=z.ed then("coin",none)else("caught",some ((z.to.length:Int)+1)) }:=by
 unfold cG;rw[M6 c0];rfl
def Cn{z:Db}{r:Int}{k:Nat}(G:GmK ns ts p)(c0:z.cl≠[])(h0:z.he≠[])(to:z.to.length=k)(po:bJ z.to p)(r0:0<=r)(r1:r<p):AtR ns ts p (k+1) (z.pl+1) (cZ ns ts p r z):=by
 let p2:=G.p2;unfold cZ;rw[M6 h0];let hr:=zf (p:=p) #[0] z.he r;apply vt (z:={ z with pl:=z.pl+1,ed:=val p z.he r,to:=z.to++[r] }) c0 (by show(z.to++[r]).length=k+1;rw[zL0,to];rfl) (λx hx=>?_) hr.1 hr.2;rcases qH0 hx with h | h
 . exact po x h
 . rw[Nd h];erw[r0,r1]
structure PlI(ns:List Str)(ts:List Tr)(z:Db):Prop where
 he:z.aw.1="hear" -> z.pl=Lk ns ts z.to.length
 c0:z.aw.1="coin" -> z.he=[]->z.pl+1=Lk ns ts 0
 c1:z.aw.1="coin" -> z.he≠[]->z.pl=Lk ns ts z.to.length+aV ts (ns.getD z.to.length "")+1
 be:z.aw.1="believed" -> z.aw=(("believed":Str),none)/\z.pl=jX ns ts
 ca:z.aw.1="caught" -> (z.aw=(("caught":Str),some ((ns.length:Int)+1))/\z.pl=jX ns ts)∨(∃k:Nat,k<ns.length/\z.aw=(("caught":Str),some ((k:Int)+1))/\z.pl<jX ns ts)
def PlI.hear(h:z.aw.1="hear")(e:z.pl=Lk ns ts z.to.length):PlI ns ts z:=by
 erw[λ_=>e,6,6,6,6] <;> (intro c;rw[h]at c;exact absurd c ⋯)
def PlI.coin(h:z.aw.1="coin")(e0:z.he=[]->z.pl+1=Lk ns ts 0)(e1:z.he≠[]->z.pl=Lk ns ts z.to.length+aV ts (ns.getD z.to.length "")+1):PlI ns ts z:=by
 erw[6,λ_=>e0,λ_=>e1,6,6] <;> (intro c;rw[h]at c;exact absurd c ⋯)
def PlI.bel(h:z.aw=(("believed":Str),none))(e:z.pl=jX ns ts):PlI ns ts z:=by
 erw[6,6,6,λ_=>%[h|e],6] <;> (intro c;rw[h]at c;exact absurd c ⋯)
def PlI.cgt{k:Option Int}(h:z.aw=(("caught":Str),k))(e:(z.aw=(("caught":Str),some ((ns.length:Int)+1))/\z.pl=jX ns ts)∨(∃k:Nat,k<ns.length/\z.aw=(("caught":Str),some ((k:Int)+1))/\z.pl<jX ns ts)):PlI ns ts z:=by
 let h1:z.aw.1="caught":=by rw[h]
 erw[6,6,6,6,λ_=>e] <;> (intro c;rw[h1]at c;exact absurd c ⋯)
def AtR.pl(h:AtR ns ts p k (Lk ns ts k) z)(hk:k<=ns.length):PlI ns ts z:=by
 by_cases c:k<ns.length
 . let%[h1|h2]:=h.hd c;exact .hear (by rw[h1]) (by rw[h2,h.to])
 . let%[h1|h2]:=h.en #[0];let ek:k=ns.length:=#[0]
   rw[ek,Fb]at h1
   split at h2
   . exact .bel h2 h1
   . rw[h.to,ek]at h2;exact .cgt h2 (.inl %[h2|h1])
def qi(k:GmK ns ts p)(n6:ns.length<=6):∀(n:Nat)(t:Tk)(cs:List Int),TkOk ns ts p t->PlI ns ts t.z->bJ cs p->PlI ns ts (cU ns ts p rows cs n t).2.z
 |0,_,_,_,d,_=>d
 |n+1,t,cs,h,d,hc=>by
   let p2:=k.p2
   by_cases ch:t.z.aw.1="hear"
   . rw [eR ch];let%[_,_,_,tl,aw|ea]:=h.ak k n6 ch;let ho:=h.hear (rows:=rows) k n6 ch;let x0:=h.gd.hear_ne k ho;apply qi k n6 n _ cs (h.ask k n6 ch).1 ?_ hc;let xl:((t.said ns ts p rows).length:Int)=aV ts (ns.getD t.z.to.length "")+1:=by
      let e1:=ho.aw.symm.trans aw
      have:=zO0 (Prod.mk.inj e1).2
      omega
     let e:(t.ask ns ts p rows).z=_:=Ez (ns:=ns) (ts:=ts) (p:=p) (xs:=t.said ns ts p rows) h.cl;let pl:=d.he ch;let ls:=vF (ts:=ts) tl;let lm:=zU k (k:=t.z.to.length+1) (ns.length-(t.z.to.length+1)) #[0];rw[show t.z.to.length+1+(ns.length-(t.z.to.length+1))=ns.length by omega]at lm;let le:=Fb ns ts;let sz:=(zh (ts:=ts) (λt ht=>(k.tok t ht).2.2.2) k.t10).1;rw[e]
     by_cases c:(val p (t.said ns ts p rows) 0+val p (t.said ns ts p rows) 1) % p=t.z.ed
     . rw[M8 c];exact .coin rfl (λz=>absurd z x0) (λ_=>by show t.z.pl+_=Lk ns ts t.z.to.length+aV ts (ns.getD t.z.to.length "")+1;omega)
     . rw[M6 c];exact .cgt rfl (.inr %[t.z.to.length,tl,1|by show t.z.pl+_<_;omega])
   . by_cases cc:t.z.aw.1="coin"
     . rw [ef cc];obtain⟨r0,r1⟩:0<=cs.headD 0/\cs.headD 0<p:=by
        cases cs with
        |nil=>show(0:Int)<=0/\(0:Int)<p;omega
        |cons c cs=>exact hc c zX0
       apply qi k n6 n _ cs.tail (h.toss k cc r0 r1).1 ?_ (λx hx=>hc x (jK1 hx));show PlI ns ts (cZ ns ts p (cs.headD 0) t.z)
       by_cases c:t.z.he=[]
       . have:=Co (ns:=ns) (ts:=ts) (r:=cs.headD 0) k h.cl c (h.fi cc c)
         rw[d.c0 cc c]at this;exact this.pl (zP0 _)
       . let tl:=((h.gd.co cc).2 c).2
         have:=Cn (ns:=ns) (ts:=ts) (r:=cs.headD 0) k h.cl c rfl h.gd.po r0 r1
         rw[d.c1 cc c,←vF tl]at this;exact this.pl tl
     . rw[gh ch cc];exact d
def Cr(k:GmK ns ts p)(n6:ns.length<=6)(hc:bJ cs p):PlI ns ts (iB ns ts p rows cs).2.z:=by
 let%[_,_,ho|_]:=rF (rows:=rows) k n6;let%[o|_]:=jJ (rows:=rows) k n6;let x0:=(Gd.new k).hear_ne k ho;let xl:(‹Tk.s›.length:Int)=(ts.length:Int):=(zO0 (Prod.mk.inj ho.aw).2).symm;apply qi k n6 20 _ cs o ?_ hc;show PlI ns ts (cG ns ts p ‹Tk.s› (Db.new ts))
 by_cases c:ts.length=1
 . have:=yW (z:=Db.new ts) k c x0 rfl rfl
   let e:(Db.new ts).pl+(‹Tk.s›.length:Int)=Lk ns ts 0:=by
    show(0:Int)+_=_;unfold Lk;rw[M8 c]
    simp
    omega
   rw[e]at this;exact this.pl (zP0 _)
 . rw [xj c rfl];refine .coin rfl (λ_=>?_) (λz=>absurd rfl z);show(0:Int)+(‹Tk.s›.length:Int)+1=_;unfold Lk;rw[M6 c]
   simp
   omega
def eM:List TR->List Int
 | []=>[]
 |.coin r::rs=>r::eM rs
 |_::rs=>eM rs
def ke(k:GmK ns ts p)(n6:ns.length<=6):∀(n:Nat)(t:Tk)(cs:List Int),TkOk ns ts p t->bJ cs p->cO ns t.z<=cs.length->∃m,m<=cs.length/\eM (cU ns ts p rows cs n t).1=cs.take m
 |0,_,cs,_,_,_=>%[(0),zP0 _|1]
 |n+1,t,cs,h,hc,hl=>by
   let p2:=k.p2
   by_cases ch:t.z.aw.1="hear"
   . rw[eR ch];let%[o,_,l|_]:=h.ask (rows:=rows) k n6 ch;exact ke k n6 n _ cs o hc #[0]
   . by_cases cc:t.z.aw.1="coin"
     . rw [ef cc]
       have:=(gi h (.inr cc)).2 cc
       cases cs with
       |nil=>rw[zJ1]at hl;omega
       |cons c cs=>
         let%[r0|r1]:=hc c zX0;let%[o,_,l|_]:=h.toss k cc r0 r1;rw[zR0]at hl;let%[m,hm|e]:=ke k n6 n _ cs o (λx hx=>hc x (qK0 _ hx)) #[0];erw[m+1,zG1 hm,by show c::eM (cU ns ts p rows cs n (t.toss ns ts p c)).1=_;rw[e];rfl]
     . rw[gh ch cc];erw[(0),zP0 _,1]
def vI(k:GmK ns ts p)(n6:ns.length<=6)(hc:bJ cs p)(hl:ns.length+(if 1<ts.length then 1 else 0)<=cs.length):∃m,m<=cs.length/\eM (iB ns ts p rows cs).1=cs.take m:=by
 let%[o,_,l|_]:=jJ (rows:=rows) k n6;exact ke k n6 20 _ cs o hc #[0]
def og(ns:List Str)(ts:List Tr)(p:Int):Int->List Int->Nat->List TR->Prop
 |_,_,_,[]=>True
 |s,cs,k,.claims xs::r=>(xs=ts.map λu=>(cnt u ns:Int) % p)/\og ns ts p s cs (k+1) r
 |s,cs,k,.say xs::r=>cs.length<ns.length/\xs=eZ ns ts s p cs (aV ts (ns.getD cs.length "")+1).toNat/\og ns ts p s cs (k+1) r
 |s,cs,k,.coin x::r=>(0<=x/\x<p)/\if k=1/\1<ts.length then og ns ts p x cs (k+1) r else og ns ts p s (cs++[x]) (k+1) r
def qf(s:Int):∀(cs pre:List Int)(k:Nat),2<=k∨¬ 1<ts.length->bJ cs p->pre.length+cs.length<=ns.length->og ns ts p s pre k (yS ns ts p s pre cs)
 | [],_,_,_,_,_=>trivial
 |r::cs,pre,k,hk,hc,hl=>by
   rw[zR0]at hl;erw[3,1,hc r zX0,6];rw[M6 #[0]];exact qf s cs (pre++[r]) (k+1+1) #[0] (λx hx=>hc x (qK0 _ hx)) (by rw[zL0,qL0];omega)
def Ck(t1:1<=ts.length)(hc:bJ cs p)(hl:cs.length=tP ns ts):og ns ts p 0 [] 0 (.claims (ts.map λu=>(cnt u ns:Int) % p)::(if ts.length=1 then yS ns ts p 0 [] cs else .coin (cs.headD 0)::yS ns ts p (cs.headD 0) [] cs.tail)):=by
 erw[1,6];unfold tP at hl
 by_cases c:ts.length=1
 . rw[M8 c]at hl ⊢;exact qf 0 cs [] 1 #[0] hc (by rw[zJ1];omega)
 . rw [M6 c]at hl ⊢;cases cs with
   |nil=>rw[zJ1]at hl;omega
   |cons r cs=>
     rw[zR0]at hl;erw[hc r zX0,6];rw[M8 ⟨rfl,#[0]⟩];exact qf r cs [] 2 #[0] (λx hx=>hc x (qK0 _ hx)) (by rw[zJ1];omega)
end
section
variable {C CG:Addr}
instance spLMix:∀(l:Addr)(ns:List Int)(s p:Int),vs=[.ref l,.int s,.int p]->H l=some (.lst (ns.map V.int))->0<p->p<2 ^ 40->(∀H',Same H H'->Q (.int (hor s p ns)) H'):=1
def mz:FnScope ["_law_numbers","_law_s","_law_p","_law_total","_law_number"] Wz (ao uB):=%[|5]
def DN(F:#["_law_mix",uB]):#[1,f,fd,Wz,spLMix]:=by
 exists mz
 erw[l,ns,s,p,1,hl,p0,p40,q]at h;refine⟨_,(aa #[aj,3,mz,af]
  (aa (cu zF1 rfl (dR (HW (pv 0) (zz tZ af))) (aU (i:=4) mz.nd rfl (.inl rfl)) (ae #[aj,3,mz,au bb (au aS (au ci (pv 3) (pv 1)) (pv 4)) (pv 2)]))
  (ae (ay (pv 3))))),?_⟩
 erw[0,(1),1,1,l,0,.inl %[zG0 hl|λb hb=>?_]];let I:=zC0 hb (.lst (ns.map V.int).reverse);let hb1:upd H b (.lst (ns.map V.int).reverse) b=some (.lst (ns.map V.int).reverse):=aP;generalize upd H b (.lst (ns.map V.int).reverse)=H1 at I hb1;refine⟨b,rfl,%[_|zG0 hb1],fo (K:=K) (xs:=(ns.map V.int).reverse) (λi σ H'=>∃(x4:Option V)(t:Int),σ=[some (.ref l),some (.int s),some (.int p),some (.int t),x4]/\t=hor s p (ns.drop (ns.length-i))/\H'=H1)
  %[_,(0),1,by rw[jY0,List.drop_length];rfl|1] (λi σ H' _ Na=>by erw[_,_,_,_,h]at Na;subst h;exact zG0 hb1) ?_ ?_⟩
 . rintro i z σ H2 hz ⟨x4,t,rfl,rfl,rfl⟩;let hi:=(zY0 hz).1;rw[qH1,zF0]at hi;rw[←List.map_reverse,zW0]at hz;let%[x,hx|1]:=qQ0 hz;rw[qT1 hi]at hx;let hr2:=jN (s:=s) p0 (ns.drop (ns.length-i));erw[0,0,2,.inl %[3|3],0,2,0,2,p0,6];erw[_,0,6,1];let hj:ns.length-1-i<ns.length:=#[0]
   let ed:ns.drop (ns.length-(i+1))=x::ns.drop (ns.length-i):=by
    let e1:ns.length-(i+1)=ns.length-1-i:=#[0]
    let e2:ns.length-i=ns.length-1-i+1:=#[0]
    rw[e1,e2,qW1 hj]
    congr 1
    rw[zN0 hj]at hx;exact zO0 hx
   rw[ed];rfl
 . rintro σ H2 ⟨x4,t,rfl,rfl,rfl⟩;rw[qH1,zF0,wO0,jD1];erw[0,q _ I]
def zd(o:Str):inV (.str o) [.str "yes",.str "no"]=(decide (o="yes")||decide (o="no")):=by
 show (("yes"==o)||(("no"==o)||false))=_;rw[Bool.or_false];let e:∀z:Str,(z==o)=decide (o=z):=λz=>by
  by_cases c:o=z
  . subst c;simp
  . rw[zD1 c];simpa using λh=>c h.symm
 rw[e,e]
def pH(o:Str)(x y:Int):Int:=if o="and" then x*y else if o="or" then x+y-x*y else if o="odd" then x+y-2*x*y else 1-(x+y-2*x*y)
def dP(x y:Int):List (Key×V):=[(Sum.inr "and",V.int (x*y)),(Sum.inr "or",V.int (x+y-x*y)),(Sum.inr "odd",V.int (x+y-2*x*y))]
def dQ(x y:Int):List (Key×V):=dP x y++([(Sum.inr "same",V.int (1-(x+y-2*x*y)))]:List (Key×V))
def ER(x y:Int):oM [] (dP x y)=dP x y:=by rfl'
def IY(x y:Int)(v:V):jF (dP x y) (Sum.inr "same") v=dP x y++([(Sum.inr "same",v)]:List (Key×V)):=by rfl'
def IZ(x y:Int):gX (dP x y) (Sum.inr "odd")=some (V.int (x+y-2*x*y)):=by rfl'
def IX(x y:Int):∀o∈joinW,gX (dQ x y) (Sum.inr o)=some (V.int (pH o x y)):=by
 intro o ho;simp only[joinW,wX1,wB0,or_false]at ho;rcases ho with rfl | rfl | rfl | rfl
 . let e:pH "and" x y=x*y:=by unfold pH;rw[M8 rfl]
   rw[e];rfl'
 . let e:pH "or" x y=x+y-x*y:=by unfold pH;rw[M6 ⋯,M8 rfl]
   rw[e];rfl'
 . let e:pH "odd" x y=x+y-2*x*y:=by unfold pH;rw[M6 ⋯,M6 ⋯,M8 rfl]
   rw[e];rfl'
 . let e:pH "same" x y=1-(x+y-2*x*y):=by unfold pH;rw[M6 ⋯,M6 ⋯,M6 ⋯]
   rw[e];rfl'
def yI(o:Str)(p x y:Int):eG p o x y=pH o x y % p:=by
 unfold eG pH;rw[wX0]
 repeat' split
 all_goals rfl
def pV{o x:Str}(h:o∈joinW)(hx:x∉joinW):¬ V.str o=V.str x:=λz=>hx (by rw[←V.str.inj z];exact h)
instance spLW(n:Nat):∀(v:V)(t:Tr)(a b:Addr)(ns:List Str)(pt:List Int)(p:Int),vs=[v,.ref a,.ref b,.int p]->TreeAt H v t->t.ok ns->t.depth<=n->NamesAt H a ns->H b=some (.tup (pt.map V.int))->pt.length=ns.length->1<p->p<2 ^ 40->bJ pt p->(∀H',Same H H'->Q (.int (t.worth ns pt p)) H'):=1
def iL:FnScope ["_law_tree_here","_law_names_here","_law_point","_law_p","_law_one","_law_other","_law_both"] WX (ao li):=%[|5]
def Gw{n:Nat}(F:#["_law_worth",li])(hint:mg "int"=none)(gn:#[n+2,"_law_worth",WX,spLW n]):#[n+3,f,fd,WX,spLW (n+1)]:=by
 exists iL
 erw[v,t,a,b,ns,pt,p,1,T,ok,dn,hN,hb,sl,p1,p40,po,k]at h;let hu:=Et hr;let p0:(0:Int)<p:=#[0]
 refine⟨_,(aa (aJ (ai aR (aN ix_tup (pv 0) af #[1]) aq (ax _)) (ae (ay (aN ix_tup (pv 2) (rc zE1 jO0 (pv 1) %[aN ix_tup (pv 0) af #[1]|aQ]) #[1]))) aB)
  (aa (aJ (ai eV (aN ix_tup (pv 0) af #[1]) (aM %[aq,aq|aQ]) (by rfl')) (ae (ay (bd tS rfl hint gG %[eJ aR (aN ix_tup (pv 0) af #[1]) aq (ax _)|aQ]))) aB)
  (aa #[aj,4,iL,am gn hr (zH0 _) rfl %[aN ix_tup (pv 0) af #[1],1,2,3|aQ]]
  (aa (aJ (ai aR (aN ix_tup (pv 0) af #[1]) aq (ax _)) (ae (ay (au bb (au bi af (pv 4)) (pv 3)))) aB)
  (aa #[aj,5,iL,am gn hr (zH0 _) rfl %[aN ix_tup (pv 0) af #[1],1,2,3|aQ]]
  (aa #[aj,6,iL,FQ (qV aq (au ci (pv 4) (pv 5)) (qV aq (au bi (au aS (pv 4) (pv 5)) (au ci (pv 4) (pv 5))) (qV aq (au bi (au aS (pv 4) (pv 5)) (au ci (au ci af (pv 4)) (pv 5))) FN))) rfl rfl #[2] ⋯]
  (aa (zw hu (pv 6) aq (au bi af (zA hu (pv 6) aq #[1])) rfl)
  (ae (ay (au bb (zA hu (pv 6) (aN ix_tup (pv 0) af #[1]) #[1]) (pv 3))))))))))),?_⟩
 let yn:∀(o:Str)(q:Addr)(xs:List V)(σ:St)(H1:Hp),True:=λ_ _ _ _ _=>trivial
 cases T with
 | @is q x e=>
   erw[0,q,_,(0),0,1,zA0 e,1,1,0,6];apply aX rfl ?_;let%[j,hj|jl]:=gz (show x∈ns from ok);let jl':j<pt.length:=#[0]
   erw[0,0,a,ns,1,hN,0,q,_,(1),0,1,zA0 e,1,1,x,j,1,hj,b,_,(j:Int),.int pt[j],1,1,zA0 hb,6,6]
   . apply bv ?_;rw[zW0,zN0 jl'];rfl
   . let e1:(Tr.is x).worth ns pt p=pt[j]:=by
      show(match eT x ns with | some j=>pt.getD j 0 | none=>0)=_;rw[hj];show pt.getD j 0=_;exact nJ jl'
     let k':=k _ (Same.refl _);rw[e1]at k';exact k'
 | @yes q e=>
   erw[0,q,_,(0),0,1,zA0 e,1,1,0,6];apply aD ⋯ ?_;erw[0,q,_,(0),0,1,zA0 e,1,y2S,λc hc=>?_];let G:=zC0 hc (.tup [.str "yes",.str "no"]);erw[c,0,.inr (zA0 aP),1,1,0,6];let e0:inV (.str "yes") [.str "yes",.str "no"]=true:=by rw[zd];decide
   show if inV (.str "yes") [.str "yes",.str "no"]=true then _ else _
   rw[e0];apply dU ?_;erw[0,q,_,(0),0,1,zA0 (G _ _ e),1,1,.inr %[0|6]];let e1:decide (V.str "yes"=V.str "yes")=true:=zC1 rfl;rw[e1];exact k _ G
 | @no q e=>
   erw[0,q,_,(0),0,1,zA0 e,1,1,0,6];apply aD ⋯ ?_;erw[0,q,_,(0),0,1,zA0 e,1,y2S,λc hc=>?_];let G:=zC0 hc (.tup [.str "yes",.str "no"]);erw[c,0,.inr (zA0 aP),1,1,0,6];let e0:inV (.str "no") [.str "yes",.str "no"]=true:=by rw[zd];decide
   show if inV (.str "no") [.str "yes",.str "no"]=true then _ else _
   rw[e0];apply dU ?_;erw[0,q,_,(0),0,1,zA0 (G _ _ e),1,1,.inr %[0|6]];let e1:decide (V.str "no"=V.str "yes")=false:=by decide
   rw[e1];exact k _ G
 | @not q u r e g=>
   erw[0,q,_,(0),0,1,zA0 e,1,1,0,6];apply aD ⋯ ?_;erw[0,q,_,(0),0,1,zA0 e,1,y2S,λc hc=>?_];let G:=zC0 hc (.tup [.str "yes",.str "no"]);erw[c,0,.inr (zA0 aP),1,1,0,6];let e0:inV (.str "not") [.str "yes",.str "no"]=false:=by rw[zd];decide
   show if inV (.str "not") [.str "yes",.str "no"]=true then _ else _
   rw [e0];apply cM ?_;let dn':r.depth<=n:=by
    have:r.depth+1<=n+1:=dn
    omega
   erw[0,q,_,(1),0,1,zA0 (G _ _ e),1,0,0,0,u,r,a,b,ns,pt,p,1,g.mono (bh G),ok,dn',hN.same G,G _ _ hb,sl,p1,p40,po,λH2 S2=>?_];let S02:=G.trans S2;erw[0,q,_,(0),0,1,zA0 (S02 _ _ e),1,1,0,6];apply aX rfl ?_;erw[0,2,0,2,p0,6];exact k _ S02
 | @bin q o u u2 r r2 e g g2=>
   erw[ho,ok1,ok2]at ok;erw[0,q,_,(0),.str o,1,1,zA0 e,at0 ..,1,0,6];apply aD (pV ho ⋯) ?_;erw[0,q,_,(0),.str o,1,1,zA0 e,at0 ..,y2S,λc hc=>?_];let G:=zC0 hc (.tup [.str "yes",.str "no"]);erw[c,0,.inr (zA0 aP),1,1,0,6];let e0:inV (.str o) [.str "yes",.str "no"]=false:=by
    rw[zd,zD1,zD1]
    . rfl
    . exact λz=>pV ho ⋯ (congrArg V.str z)
    . exact λz=>pV ho ⋯ (congrArg V.str z)
   show if inV (.str o) [.str "yes",.str "no"]=true then _ else _
   rw [e0];apply cM ?_;let dn':r.depth<=n/\r2.depth<=n:=by
    have:max r.depth r2.depth+1<=n+1:=dn
    omega
   erw[0,q,_,(1),0,1,zA0 (G _ _ e),1,0,0,0,u,r,a,b,ns,pt,p,1,g.mono (bh G),ok1,dn'.1,hN.same G,G _ _ hb,sl,p1,p40,po,λH2 S2=>?_];let S02:=G.trans S2;let w1:=worth_rng p1 po sl r ok1;let w2:=worth_rng p1 po sl r2 ok2;let ew:(Tr.bin o r r2).worth ns pt p=pH o (r.worth ns pt p) (r2.worth ns pt p) % p:=yI o p _ _;rw[ew]at k;erw[0,q,_,(0),.str o,1,1,zA0 (S02 _ _ e),at0 ..,1,0,6];apply aD (pV ho ⋯) ?_;erw[0,q,_,(2),0,1,zA0 (S02 _ _ e),1,0,0,0,u2,r2,a,b,ns,pt,p,1,g2.mono (bh S02),ok2,dn'.2,hN.same S02,S02 _ _ hb,sl,p1,p40,po,λH3 S3=>?_];let S03:=S02.trans S3;generalize r.worth ns pt p=x at w1 k;generalize r2.worth ns pt p=y at w2 k;apply λd hd=>?_
   erw[0,0,2,.inl %[3|3],0,0,2,0,0,2,.inl %[3|3],2,0,0,2,0,2,.inl %[4|4],0,2,.inr %[3|3],2,6];erw[aP,dP x y,1,by show 3<=15;decide,6];rw[ER];let Sd:Same H3 (upd (upd H3 d (.dK [])) d (.dK (dP x y))):=λb' o' e'=>by
    let nb:=aZ e' hd;rw[aE nb,aE nb];exact e'
   let hd2:upd (upd H3 d (.dK [])) d (.dK (dP x y)) d=some (.dK (dP x y)):=aP;generalize upd (upd H3 d (.dK [])) d (.dK (dP x y))=H4 at Sd hd2;erw[0,d,0,(by rw[←IZ x y];exact DGet.k (k:=Sum.inr _) hd2),2,0,d,0,DPut.k (k:=Sum.inr "same") hd2 (aO (by show 3<=1000;decide)),6];rw[IY];let Se:Same H3 (upd H4 d (.dK (dQ x y))):=λb' o' e'=>by
    rw[aE (aZ e' hd)];exact Sd _ _ e'
   let he2:upd H4 d (.dK (dQ x y)) d=some (.dK (dQ x y)):=aP;show _;erw[0,0,q,_,(0),.str o,1,1,zA0 (Se _ _ (S03 _ _ e)),at0 ..,d,0,(by rw[←IX x y o ho];exact DGet.k (k:=Sum.inr _) he2),0,2,p0,6];exact k _ (S03.trans Se)
def Gv:#[2,f,fd,WX,spLW 0]:=by
 let no:∀vs H Q E,¬ spLW 0 vs H Q E:=λvs H Q E h=>by
  erw[v,t,_,_,_,_,_,_,_,_,h1,_]at h
  have:=t.depth_pos
  omega
 exists 3
def rC(F:#["_law_worth",li])(hint:mg "int"=none)(m:mg "_law_worth"=some (.ref f)):
 ∀n:Nat,#[n+2,f,fd,WX,spLW n]
 |0=>Gv
 |n+1=>Gw F hint (Cal.of F (rC F hint m n) m (λ_ _ _ _ _ _ us hl=>by let%[u0,u1,u2,u3|1]:=Ei hl;rfl))
def yX{X:Cx}(K:W.Frag)(hc:X.calm=true)(h:X.K=K:=by rfl):gR X (.builtin "max") (rMax1 K):=by subst h;exact oR hc
instance spLDeg:∀(a b:Addr)(ns:List Str)(tv:List V)(ts:List Tr),vs=[.ref a,.ref b]->H a=some (.tup (ns.map V.str))->H b=some (.tup tv)->TreesAt H tv ts->ts≠[]->ts.length<=10->ns.length<=10->(∀t∈ts,t.wf/\t.depth<=10/\t.size<=400)->(∀(l:Addr)(H':Hp),H l=none->Same H H'->H' l=some (.lst ((ns.map (aV ts)).map V.int))->Q (.ref l) H'):=1
def uk:FnScope WN WN (ao kC):=%[|5]
def uX(F:#["_law_degrees",kC])(B:Bl mg)(b9:#[12,"_law_names_of",WM,spNO 10]):#[13,f,fd,WN,spLDeg]:=by
 exists uk
 erw[a,b,ns,tv,ts,1,ha,hb,TS,t0,t10,n10,tok,q]at h;refine⟨_,(ae (ay (Dz (N:=["_law_trees"]) (ix:=[1]) rfl
  (CompScopeO.one (by rfl') (λ_ _=>%[by rfl'|by rfl']) rfl ⋯ (by rfl') ⋯ (by rfl') (by rfl') (by rfl') rfl rfl) rfl
  (eF (pv 0))
  (λ_ _ _=>cF (aI (yX K rfl) rfl B.max qV1 (ag (cw (N:=["_law_name"]) (ix:=[0]) rfl
   (CompScope.one (by rfl') ⋯ rfl ⋯ rfl ⋯ (by rfl') (by rfl') (by rfl') (by rfl') (by rfl')) rfl
   (FO K (pv 1))
   (λ_ _ _=>cF (DE K zE1 jR1 jS0 (tE K) (am b9 hr ⋯ rfl %[0|aQ]) %[1|aQ]))) aQ)))))),?_⟩
 let vl:=TS.length;erw[0,a,1,%[_|zA0 ha],λD hD=>?_];apply dJ (K:=K) (xs:=ns.map V.str) (λi H'=>H' D=some (.lst (((ns.take i).map (aV ts)).map V.int))/\Same H H') %[by rw[aP];rfl|zC0 hD _] (λi H' _ h=>zA0 (h.2 _ _ ha)) ?_ ?_
 . rintro i z H2 hz ⟨hl,S2⟩;let hi:i<(ns.map V.str).length:=(zY0 hz).1;rw[zW0]at hz;let%[x,hx|1]:=qQ0 hz;erw[0,b,1,%[_|zA0 (S2 _ _ hb)],λD2 hD2=>?_];apply dJ (K:=K) (xs:=tv) (λj H'=>H' D2=some (.lst (((ts.take j).map λt=>(t.names.count x:Int)).map V.int))/\Same H2 H') %[by rw[aP];rfl|zC0 hD2 _] (λj H' _ h=>zA0 (h.2 _ _ (S2 _ _ hb))) ?_ ?_
   . rintro j u H3 hu ⟨hl3,S3⟩;let%[t,ht|Tt]:=TS.get hu;let%[tw,td|tz]:=tok t (qD0 ht);let hj:j<tv.length:=(zY0 hu).1;erw[0,u,t,1,Tt.mono (bh (S2.trans S3)),tw,3,tz,λl H4 l0 S4 hl4=>?_];erw[.inl %[1,_|zG0 hl4],0,l,2,zG0 hl4,gB _,1,6];rw[mr];erw[_,S4 _ _ hl3,6,Nx.of hj %[6|λb' o' e'=>?_]]
     . rw[zF0,zF0,qF0];exact aO #[0]
     . rw[aP,qB0,ht,zK0,zK0];rfl
     . rw[aE (aZ e' hD2)];exact S4 _ _ (S3 _ _ e')
   . rintro H3 ⟨hl3,S3⟩;rw[vl,zZ0]at hl3;erw[D2,0,zG0 hl3,by simpa using t0,6];erw[_,S3 _ _ hl,6,Nx.of hi %[6|λb' o' e'=>?_]]
     . rw[zF0,zF0,qF0];exact aO #[0]
     . rw[aP,qB0,hx,zK0,zK0];rfl
     . rw[aE (aZ e' hD)];exact S3 _ _ (S2 _ _ e')
 . rintro H2 ⟨hl,S2⟩;rw[zF0,zZ0]at hl;exact q D H2 hD S2 hl
end
def cW:FnScope ["_law_n","_law_found","_law_k","_law_longer","_law_setting"] ["_law_n"] (ao jw):=%[|5]
def sG(F:#["_law_settings",jw])(hrange:mg "range"=none):#[1,f,fd,["_law_n"],spSetts]:=by
 exists cW
 erw[n,1,n0,n6,q]at h;refine⟨_,(aa #[aj,1,cW,cS %[aM aQ|aQ]]
  (aa (cu zF1 rfl (cr rfl hrange %[0|aQ]) (aU (i:=2) cW.nd rfl (.inl rfl)) (aa #[aj,3,cW,cS aQ]
   (aa (cu zF1 rfl (dR (pv 1)) (aU (i:=4) cW.nd rfl (.inl rfl)) (ae #[aj,3,cW,au mi (pv 3) (cS %[au (op_catT.or iZ) (pv 4) (aM %[af|aQ]),au (op_catT.or iZ) (pv 4) (aM %[af|aQ])|aQ])]))
   (ae #[aj,1,cW,pv 3]))))
  (ae (ay (pv 1))))),?_⟩
 erw[y0S,λp hp=>?_];let Ip:=zC0 hp (.tup []);let gp:upd H p (.tup []) p=some (.tup []):=aP;generalize upd H p (.tup [])=H1 at Ip gp;erw[y1S,λa ha=>?_];let Ia:=zC0 ha (.lst [.ref p]);let ga:upd H1 a (.lst [.ref p]) a=some (.lst [.ref p]):=aP;generalize upd H1 a (.lst [.ref p])=H2 at Ia ga;let S02:=Ip.trans Ia;erw[0,n,1,3,3,eK (λi σ H'=>∃(r:Addr)(x2 x3 x4:Option V),σ=[some (.int n),some (.ref r),x2,x3,x4]/\H r=none/\Same H H'/\zb H' r (cI i)) %[a,_,_,0,Ip.free ha,S02,[.ref p],ga|.cons ⟨p,rfl,Ia _ _ gp⟩ .nil] ?_ ?_]
 . rintro i σ H3 hi ⟨r,x2,x3,x4,rfl,r0,S3,rs,hrs,T⟩;let i6:i<6:=#[0]
   let rl:=T.length;let sl:=iU i;let s32:2 ^ i<=32:=by
    have:i=0∨i=1∨i=2∨i=3∨i=4∨i=5:=#[0]
    rcases this with h | h | h | h | h | h <;> subst h <;> decide
   erw[y0S,λb hb=>?_];let Ib:=zC0 hb (.lst []);let gb:upd H3 b (.lst []) b=some (.lst []):=aP;let b0:H b=none:=S3.free hb;generalize upd H3 b (.lst [])=H4 at Ib gb;erw[0,r,1,%[_|zG0 (Ib _ _ hrs)],fo (K:=K) (xs:=rs) (λj σ H'=>∃(c:Addr)(x4:Option V)(bs:List V),σ=[some (.int n),some (.ref r),some (.int (0+(i:Int))),some (.ref c),x4]/\H c=none/\Same H4 H'/\H' c=some (.lst bs)/\TupsAt H' bs (((cI i).take j).flatMap λs=>[s++[0],s++[1]])) %[b,_,0,b0,Same.refl _,gb|.nil] (λj σ H' _ Na=>by erw[_,_,_,_,_,h,_]at Na;exact zG0 (h _ _ (Ib _ _ hrs))) ?_ ?_]
   . rintro j v σ H5 hv ⟨c,y4,bs,rfl,c0,S5,hc,TB⟩;let T5:TupsAt H5 rs (cI i):=T.mono (bh (Ib.trans S5));let%[s,hs,t,1|ht]:=T5.get hv;let hsl:=dL i s (qD0 hs);let hbl:=TB.length;rw[lA,qF0]at hbl;erw[0,0,y1S,λp1 hp1=>?_];let S6:=zC0 hp1 (.tup [.int 0]);apply nU (s:=s) (z:=0) (S6 _ _ ht) aP #[0] λt1 H7 S7 e7=>?_
     let S57:=S6.trans S7;erw[0,y1S,λp2 hp2=>?_];let S8:=zC0 hp2 (.tup [.int 1]);apply nU (s:=s) (z:=1) (S8 _ _ (S57 _ _ ht)) aP #[0] λt2 H9 S9 e9=>?_
     let S59:=S57.trans (S8.trans S9);erw[y2S,λq2 hq2=>?_];let Iq:=zC0 hq2 (.lst [.ref t1,.ref t2]);let gq:upd H9 q2 (.lst [.ref t1,.ref t2]) q2=some (.lst [.ref t1,.ref t2]):=aP;generalize upd H9 q2 (.lst [.ref t1,.ref t2])=H10 at Iq gq;erw[c,q2,2,Iq _ _ (S59 _ _ hc),gq,cH (by show bs.length+2<=1000;omega),λc2 hc2=>?_];let Ic:=zC0 hc2 (.lst (bs++[.ref t1,.ref t2]));let S5E:=S59.trans (Iq.trans Ic);let S7E:=(S8.trans S9).trans (Iq.trans Ic);let c20:H c2=none:=(S3.trans (Ib.trans (S5.trans (S59.trans Iq)))).free hc2;erw[c2,_,bs++[.ref t1,.ref t2],1,c20,S5.trans S5E,aP,6];let hbase:TupsAt (upd H10 c2 (.lst (bs++[.ref t1,.ref t2]))) bs (((cI i).take j).flatMap λs=>[s++[0],s++[1]]):=TB.mono (bh S5E);rw[qB0,hs,List.flatMap_append];let e:((some s).toList.flatMap λs:List Int=>[s++[0],s++[1]])=[s++[0]]++[s++[1]]:=by simp
     rw[e,←qZ1];let hs2:=(hbase.snoc %[t1,1|S7E _ _ e7]).snoc ⟨t2,rfl,(Iq.trans Ic) _ _ e9⟩;rw[show bs++[V.ref t1]++[V.ref t2]=bs++[V.ref t1,V.ref t2] by simp]at hs2;exact hs2
   . rintro σ H5 ⟨c,y4,bs,rfl,c0,S5,hc,TB⟩;rw[rl,zZ0]at TB;erw[0,c,_,_,0,c0,S3.trans (Ib.trans S5),bs,hc,TB]
 . rintro σ H3 ⟨r,x2,x3,x4,rfl,r0,S3,R⟩;erw[0,q r H3 r0 S3 R]
def SeqB(cb:Bool)(H:Hp)(b:Addr)(tv:List V):Prop:=if cb=true then H b=some (.lst tv)else H b=some (.tup tv)
def SeqB.same(h:SeqB cb H b tv)(s:Same H H'):SeqB cb H' b tv:=by
 cases cb with
 |true=>exact s b (.lst tv) h
 |false=>exact s b (.tup tv) h
def SeqB.sq{K:W.Frag}(h:SeqB cb H b tv):SqB K cb H b tv:=by
 cases cb with
 |true=>exact zG0 h
 |false=>exact zA0 h
instance spSum3:∀(cb:Bool)(a b c:Addr)(ns:List Str)(tv:List V)(ts:List Tr)(pt:List Int)(s p:Int),vs=[.ref a,.ref b,.int s,.ref c,.int p]->H a=some (.tup (ns.map V.str))->ns.length<=6->SeqB cb H b tv->TreesAt H tv ts->ts.length<=10->(∀t∈ts,t.ok ns/\t.depth<=10)->H c=some (.tup (pt.map V.int))->pt.length<=ns.length->bJ pt p->1<p->p<2 ^ 40->(∀H',Same H H'->Q (.int (cQ ns ts s p pt)) H'):=1
def i7:FnScope ["_law_names_here","_law_trees","_law_s","_law_point","_law_p","_law_total","_law_setting","_law_worths"] Wq (ao uA):=%[|5]
def DM(F:#["_law_sum",uA])(B:Bl mg)(i8:#[1,"_law_settings",["_law_n"],spSetts])(gn:#[12,"_law_worth",WX,spLW 10])(E3:#[1,"_law_mix",Wz,spLMix]):#[13,f,fd,Wq,spSum3]:=by
 exists i7
 erw[cb,a,b,c,ns,tv,ts,pt,s,p,1,ha,nl,hb,TS,t10,tok,hc,pl,po,p1,p40,q]at h;refine⟨_,(aa #[aj,5,i7,af]
  (aa (cu zF1 rfl (dR (am i8 hr ⋯ rfl %[au bi (aI aG rfl B.len zB1 %[0|aQ]) (aI aG rfl B.len zB1 %[3|aQ])|aQ])) (aU (i:=6) i7.nd rfl (Or.inr rfl))
   (aa (mX (i:=7) (N:=["_law_setting","_law_point","_law_p","_law_names_here"]) (ix:=[6,3,4,0]) i7.nd rfl (.inl rfl) rfl
    (CompScope.four (by rfl') ⋯ rfl ⋯ rfl ⋯ rfl (by rfl') (by rfl') (by rfl') (by rfl') (by rfl') (by rfl') rfl rfl (by rfl') rfl rfl (by rfl') rfl rfl (by rfl') rfl rfl) rfl
    (Du (pv 1)) (λ_ _ _=>cF (am gn hr ⋯ rfl %[0,4,au (pS K) (pv 2) (pv 1),3|aQ])))
   (ae #[aj,5,i7,au aS (pv 5) (am E3 hr ⋯ rfl %[7,2,4|aQ])])))
  (ae (ay (au bb (pv 5) (pv 4)))))),?_⟩
 erw[0,a,0,.inr (zA0 ha),0,c,0,.inr (zA0 hc),2,6];erw[0,by rw[zF0,zF0];exact(Iw pl nl).1,by rw[zF0,zF0];exact(Iw pl nl).2.1,λr H2 r0 S2 R2=>?_];let en:((((ns.map V.str).length:Nat):Int)-(((pt.map V.int).length:Nat):Int)).toNat=ns.length-pt.length:=by rw[zF0,zF0];exact(Iw pl nl).2.2
 rw [en]at R2;erw[rs,hrs,TB]at R2;let rl:=TB.length;let vl:=TS.length;let p0:0<p:=Int.lt_trans Int.zero_lt_one p1;refine⟨r,rfl,%[_|zG0 hrs],fo (K:=K) (xs:=rs) (λj σ H'=>∃(x6 x7:Option V),σ=[some (.ref a),some (.ref b),some (.int s),some (.ref c),some (.int p),some (.int (((cI (ns.length-pt.length)).take j).map λst=>hor s p (ts.map λt=>t.worth ns (pt++st) p)).sum),x6,x7]/\Same H2 H')
  %[_,0|Same.refl _] (λj σ H' _ Na=>by erw[_,_,_,h]at Na;exact zG0 (h _ _ hrs)) ?_ ?_⟩
 . rintro j z σ H3 hz ⟨x6,x7,rfl,S3⟩;let TB3:=TB.mono (bh S3);let%[st,Na,d,1|hd]:=TB3.get hz;let stm:=qD0 Na;let stl:=dL _ _ stm;let s01:=kf _ _ stm;let S03:=S2.trans S3;let po2:bJ (pt++st) p:=pt01 po p1 s01;let pl2:(pt++st).length=ns.length:=by rw[zL0];omega
   erw[0,cb,b,1,%[_|(hb.same S03).sq],λD hD=>?_];apply xc (K:=K) (c:=cb) (xs:=tv) (λi H'=>H' D=some (.lst (((ts.take i).map λt=>t.worth ns (pt++st) p).map V.int))/\Same H3 H') %[by rw[aP];rfl|zC0 hD _] (λi H' _ h=>((hb.same S03).same h.2).sq) ?_ ?_
   . rintro i v H4 hv ⟨hl,S4⟩;let%[t,ht|Tt]:=TS.get hv;let%[tk|td]:=tok t (qD0 ht);let hi:i<tv.length:=(zY0 hv).1;let S04:=S03.trans S4;erw[0,0,0,0,6];apply pY (S04 _ _ hc) (S4 _ _ hd) #[0] λy H5 S5 hy=>?_
     let S05:=S04.trans S5;erw[0,v,t,a,y,ns,pt++st,p,1,Tt.mono (bh S05),tk,td,.inr (S05 _ _ ha),hy,pl2,p1,p40,po2,λH6 S6=>?_];erw[_,S6 _ _ (S5 _ _ hl),6,Nx.of hi %[6|λb' o' e'=>?_]]
     . rw[zF0,zF0,qF0];exact aO #[0]
     . rw[aP,qB0,ht,zK0,zK0];rfl
     . rw[aE (aZ e' hD)];exact S6 _ _ (S5 _ _ (S4 _ _ e'))
   . rintro H4 ⟨hl,S4⟩;rw[vl,zZ0]at hl;erw[0,0,0,0,D,_,s,p,1,hl,p0,p40,λH5 S5=>?_];erw[2,6];erw[some (.ref d),some (.ref D),6,S3.trans (S4.trans S5)];let e:((cI (ns.length-pt.length)).take (j+1))=(cI (ns.length-pt.length)).take j++[st]:=by
      rw[qB0,Na];rfl
     rw[e,zK0,jQ1,List.map_singleton];show _=[_,_,_,_,_,some (V.int (_+List.sum [_])),_,_]
     rw[show List.sum [hor s p (ts.map λt=>t.worth ns (pt++st) p)]=hor s p (ts.map λt=>t.worth ns (pt++st) p) by simp];rfl
 . rintro σ H3 ⟨x6,x7,rfl,S3⟩;rw[rl,zZ0];erw[0,0,2,p0,6];let e:(((cI (ns.length-pt.length)).map λst=>hor s p (ts.map λt=>t.worth ns (pt++st) p)).sum) % p=cQ ns ts s p pt:=by
    unfold cQ;let this:(λst:List Int=>hor s p (ts.map λt=>t.worth ns (pt++st) p))=λst=>ia s (ts.map λt=>t.worth ns (pt++st) p) % p:=by
     funext st
     exact kO s p _
    rw[this];exact ub p _ _
   show Q (.int ((((cI (ns.length-pt.length)).map λst=>hor s p (ts.map λt=>t.worth ns (pt++st) p)).sum) % p)) H3;rw[e];exact q H3 (S2.trans S3)
instance spTrue3:∀(a b c:Addr) (ns:List Str) (tv:List V) (ts:List Tr) (cs:List Int) (s p:Int),vs=[.ref a,.ref b,.int s,.ref c,.int p]->H a=some (.tup (ns.map V.str))->ns.length<=6->H b=some (.tup tv)->TreesAt H tv ts->GmK ns ts p->H c=some (.lst (cs.map V.int))->cs.length<ns.length->bJ cs p->(∀(l:Addr) (H':Hp),H l=none->Same H H'->H' l=some (.lst ((eZ ns ts s p cs (aV ts (ns.getD cs.length "")+1).toNat).map V.int))->Q (.ref l) H'):=1
def E9:FnScope ["_law_names_here","_law_trees","_law_s","_law_coins_here","_law_p","_law_many"] W0 (ao qy):=%[|5]
def AN(F:#["_law_true",qy])(B:Bl mg)(ko:#[13,"_law_degrees",WN,spLDeg])(iV:#[13,"_law_sum",Wq,spSum3]):#[14,f,fd,W0,spTrue3]:=by
 exists E9
 erw[a,b,c,ns,tv,ts,cs,s,p,1,ha,nl,hb,TS,k,hc,cl,po,q]at h;refine⟨_,(aa #[aj,5,E9,au aS (aN ix_list (am ko hr ⋯ rfl %[0,1|aQ]) (aI aG rfl B.len zB1 %[3|aQ]) #[1]) af]
  (ae (ay (cw (N:=["_law_trees","_law_s","_law_p","_law_names_here","_law_coins_here"]) (ix:=[1,2,4,0,3]) rfl
   (CompScope.five (by rfl') ⋯ rfl ⋯ rfl ⋯ rfl (by rfl') (by rfl') (by rfl') (by rfl') (by rfl') (by rfl') (by rfl') rfl rfl (by rfl') rfl rfl (by rfl') rfl rfl (by rfl') rfl rfl (by rfl') rfl rfl) rfl
   (cr rfl B.range %[5|aQ]) (λ_ _ _=>cF (am iV hr ⋯ rfl %[4,1,2,au (pS K) (bd (so K) rfl B.tuple bw %[5|aQ]) (aM %[0|aQ]),3|aQ])))))),?_⟩
 let p2:=k.p2;let p9:=k.p9;let t1:=k.t1;let hx:ns.getD cs.length ""∈ns:=by
  rw[qO0,zN0 cl];exact qP0 cl
 let dr:=k.deg _ hx;let d4:=iJ k (ns.getD cs.length "");erw[0,0,a,b,ns,tv,ts,1,ha,hb,TS,(λz=>by rw[z]at t1;cases t1),k.t10,3,λt ht=>(k.tok t ht).2,λl H1 l0 S1 hl1=>?_];erw[0,c,0,.inl (zG0 (S1 _ _ hc)),l,_,2,zG0 hl1,by rw[zF0,ly (by rw[zF0];exact cl),zP cl],2,6];erw[0,0,3,3,λD hD=>?_];let D0:H D=none:=S1.free hD;apply eI (λi H'=>H' D=some (.lst ((eZ ns ts s p cs i).map V.int))/\Same H1 H') %[by rw[aP];rfl|zC0 hD _] ?_ ?_
 . rintro i H2 hi ⟨hl,S2⟩;let S02:=S1.trans S2;let id:(i:Int)<=aV ts (ns.getD cs.length ""):=#[0]
   erw[0,0,0,0,c,0,.inl %[zG0 (S02 _ _ hc)|λt1 ht1=>?_]];let I1:=zC0 ht1 (.tup (cs.map V.int));let g1:upd H2 t1 (.tup (cs.map V.int)) t1=some (.tup (cs.map V.int)):=aP;generalize upd H2 t1 (.tup (cs.map V.int))=H3 at I1 g1;erw[0,y1S,λt2 ht2=>?_];let I2:=zC0 ht2 (.tup [.int (0+(i:Int))]);apply pY (xs:=cs) (ys:=[0+(i:Int)]) (I2 _ _ g1) aP (by simp;omega) λy H4 S4 hy=>?_
   let S24:=I1.trans (I2.trans S4);let S04:=S02.trans S24;erw[0,false,a,b,y,ns,tv,ts,cs++[0+(i:Int)],s,p,1,S04 _ _ ha,nl,S04 _ _ hb,TS.mono (bh S04),k.t10,λt ht=>%[(k.tok t ht).1|(k.tok t ht).2.2.1],hy,by rw[zL0,qL0];omega,qR po (λx hx=>by rw[Nd hx];omega),3,3,λH5 S5=>?_];erw[_,S5 _ _ (S24 _ _ hl),6,Nx.of hi %[6|λb' o' e'=>?_]]
   . rw[zF0];unfold eZ;rw[zF0,qR0];exact aO #[0]
   . rw[aP];unfold eZ;rw[qJ1,zK0,zK0,show(0:Int)+(i:Int)=(i:Int) by omega];rfl
   . rw[aE (aZ e' hD)];exact S5 _ _ (S24 _ _ (S2 _ _ e'))
 . rintro H2 ⟨hl,S2⟩;exact q D H2 D0 (S1.trans S2) hl
instance spTerm(n:Nat):∀(f b:Addr)(bs:List Str)(room deep:Int),vs=[.ref f,.ref b,.int room,.int deep]->FeedAt H f->H b=some (.lst (bs.map V.str))->b≠f->1<=bs.length->bs.length<=100->1<=room->room<=100->1<=deep->deep<=(n:Int)->(∀(v:V)(t:Tm)(H':Hp),TmAt H' v t->t.good->(t.depth:Int)<=deep->FeedAt H' f->SameBut f H H'->Q v H'):=1
def ii:FnScope ["_law_feed_here","_law_boxes","_law_room","_law_deep","_law_form","_law_plain","_law_more","_law_one"] WY (ao mO):=%[|5]
def Fy:∀c∈(("+-*/=<":Str)).cps.toList,(%[|#[c]]:Str)∈signW:=by decide
def CK:(("+-*/=<":Str)).cps.toList.length=6:=by decide
def at1(x y:V)(xs:List V):atI (x::y::xs) 1=some y:=bv (j:=1) rfl
instance tLeaf(Dn:Ends)(σ:St)(H:Hp):∀(x2 x3 x5 x6 x7:Option V)(f b:Addr)(bs:List Str)(fm:Int),σ=[some (.ref f),some (.ref b),x2,x3,some (.int fm),x5,x6,x7]->FeedAt H f->H b=some (.lst (bs.map V.str))->b≠f->1<=bs.length->bs.length<=100->(∀(v:V)(t:Tm)(H':Hp),TmAt H' v t->t.good->t.depth=1->FeedAt H' f->SameBut f H H'->Dn.rt v H'):=0
instance tAskT(n:Nat)(Dn:Ends)(σ:St)(H:Hp):∀(x4 x5 x6 x7:Option V)(f b:Addr)(bs:List Str)(room deep:Int),σ=[some (.ref f),some (.ref b),some (.int room),some (.int deep),x4,x5,x6,x7]->FeedAt H f->H b=some (.lst (bs.map V.str))->b≠f->1<=bs.length->bs.length<=100->2<=room->room<=100->2<=deep->deep<=(n:Int)+1->(∀(v:V)(t:Tm)(H':Hp),TmAt H' v t->t.good->(t.depth:Int)<=deep->FeedAt H' f->SameBut f H H'->Dn.rt v H'):=0
structure PSW(X:Cx)(st:List Stmt)(t:TS):Prop where
 out:PSs X st t
def HN{pos:Pos}(hc:PT X c tc)(ha:PSW X a t)(hb:PSs X b u):PS X (.If c a b pos) (tIfS tc t u):=aJ hc ha.out hb
def Ej{X:Cx}{i:Nat}{x:Str}{pos' pos p:Pos}{t':TS}(hN:X.N.Nodup)(hi:X.N[i]?=some x)(hx:Loc X.env.scope x)(h1:PE X e1 t1)(h2:PE X e2 t2)(h3:PE X e3 t3)(h4:PE X e4 t4)(h5:PE X e5 t5)(hr:PSs X rest u)
 (hw:∀D σ H,t' D σ H->tSeq (Fp (tLst (qj t1 (qj t2 (qj t3 (qj t4 (qj t5 Al)))))) (zJ i)) u D σ H)
 (s1:starEach [e1,e2,e3,e4,e5] X.env=(false,eval e1 X.env)::starEach [e2,e3,e4,e5] X.env:=by rfl)(s2:starEach [e2,e3,e4,e5] X.env=(false,eval e2 X.env)::starEach [e3,e4,e5] X.env:=by rfl)(s3:starEach [e3,e4,e5] X.env=(false,eval e3 X.env)::starEach [e4,e5] X.env:=by rfl)(s4:starEach [e4,e5] X.env=(false,eval e4 X.env)::starEach [e5] X.env:=by rfl)(s5:starEach [e5] X.env=(false,eval e5 X.env)::starEach [] X.env:=by rfl)
 (hf:X.fn x=true∨X.env.scope.names.lookup x=some .local:=by first | exact .inl rfl | exact .inr rfl):PSW X (.Assign [.Name x pos'] (.List [e1,e2,e3,e4,e5] p) pos::rest) t':=
 %[|cK (aa (aj hN hi hx (cS (ag h1 (ag h2 (ag h3 (ag h4 (ag h5 aQ s5) s4) s3) s2) s1)) rfl hf) hr) hw]
def Fk{n:Nat}(F:Fun K "_law_term" "_law_term" mO fA fd)(B:Bl mg)(a7:#[1,"_law_take",WE,spTake])(eQ:#[n+2,"_law_term",WY,spTerm n]):#[n+3,fA,fd,WY,spTerm (n+1)]:=by
 exists ii
 erw[f,b,bs,room,deep,1,F0,hb,nb,b1,b2,r1,r2,d1,d2,q]at h;let hp12:(10:Int) ^ (12:Int).toNat=1000000000000:=by decide
 refine⟨_,(aa #[aj,4,ii,am a7 hr #[0] rfl %[0,af|aQ]]
  (aa (HN (PW.pt (eC (ai dG (pv 2) af (ax _)) (eC (ai dG (pv 3) af (ax _)) (dM (ai dG (pv 4) af (ax _)))))) (Ej (t':=tLeaf) (i:=5) ii.nd rfl (.inl rfl) (aM %[aq|aQ]) (aM %[aq|aQ]) (aM %[aq|aQ]) (aM %[aq,am a7 hr #[0] rfl %[0,af|aQ]|aQ]) (aM %[aq,am a7 hr #[0] rfl %[0,au DF af af|aQ]|aQ])
   (aa (aJ (ai aR (pv 4) af (ax _)) (ae (ay (aM %[aq,aN ix_list (pv 1) (am a7 hr #[0] rfl %[0,aI (x:="len") aG rfl B.len zB1 %[1|aQ]|aQ]) #[1]|aQ]))) aB)
   (ae (ay (aN ix_list (pv 5) (am a7 hr #[0] rfl %[0,af|aQ]) #[1])))) (by
    rintro Dn σ H ⟨x2,x3,x5,x6,x7,f,b,bs,fm,rfl,F0,hb,nb,b1,b2,q⟩;erw[y1S,λp1 hp1=>%[y1S|λp2 hp2=>%[y1S|λp3 hp3=>?_]]];let g1:=zC0 hp1 (.tup [.str "round"]);let g2:=zC0 hp2 (.tup [.str "due"]);let g3:=zC0 hp3 (.tup [.str "asked"]);let e1:upd (upd (upd H p1 (.tup [.str "round"])) p2 (.tup [.str "due"])) p3 (.tup [.str "asked"]) p1=some (.tup [.str "round"]):=g3 _ _ (g2 _ _ aP);let e2:upd (upd (upd H p1 (.tup [.str "round"])) p2 (.tup [.str "due"])) p3 (.tup [.str "asked"]) p2=some (.tup [.str "due"]):=g3 _ _ aP;let e3:upd (upd (upd H p1 (.tup [.str "round"])) p2 (.tup [.str "due"])) p3 (.tup [.str "asked"]) p3=some (.tup [.str "asked"]):=aP;let S3:=g1.trans (g2.trans g3);generalize upd (upd (upd H p1 (.tup [.str "round"])) p2 (.tup [.str "due"])) p3 (.tup [.str "asked"])=H3 at e1 e2 e3 S3;erw[0,f,(5),1,F0.same S3,4,4,λw1 H4 _ _ F4 B4=>%[y2S|λp4 hp4=>?_]];let k4:=bc (F0.same S3) B4;let g4:=zC0 hp4 (.tup [.str "num",.int w1]);let e4:upd H4 p4 (.tup [.str "num",.int w1]) p4=some (.tup [.str "num",.int w1]):=aP;generalize upd H4 p4 (.tup [.str "num",.int w1])=H5 at g4 e4;erw[0,2,%[4,4|4],f,0,F4.same g4,(by show(0:Int)<10 ^ (12:Int).toNat;rw[hp12];decide),(by show(10:Int) ^ (12:Int).toNat<2 ^ 63;rw[hp12];decide),λw2 H6 _ _ F6 B6=>%[y2S|λp5 hp5=>%[y5S|λL hL=>?_]]];let k6:=bc (F4.same g4) B6;let g5:=zC0 hp5 (.tup [.str "num",.int w2]);let g6:=zC0 hL (.lst [.ref p1,.ref p2,.ref p3,.ref p4,.ref p5]);let e5:upd (upd H6 p5 (.tup [.str "num",.int w2])) L (.lst [.ref p1,.ref p2,.ref p3,.ref p4,.ref p5]) p5=some (.tup [.str "num",.int w2]):=g6 _ _ aP;let eL:upd (upd H6 p5 (.tup [.str "num",.int w2])) L (.lst [.ref p1,.ref p2,.ref p3,.ref p4,.ref p5]) L=some (.lst [.ref p1,.ref p2,.ref p3,.ref p4,.ref p5]):=aP;let F7:=F6.same (g5.trans g6);let S7:SameBut f H (upd (upd H6 p5 (.tup [.str "num",.int w2])) L (.lst [.ref p1,.ref p2,.ref p3,.ref p4,.ref p5])):=(zJ0 S3).trans (B4.trans ((zJ0 g4).trans (B6.trans (zJ0 (g5.trans g6)))));let Lf:L≠f:=(F6.same g5).ne hL;let J:bZ H5 (upd (upd H6 p5 (.tup [.str "num",.int w2])) L (.lst [.ref p1,.ref p2,.ref p3,.ref p4,.ref p5])):=λa xs e=>(g5.trans g6) _ _ (k6 _ _ e)
    let J3:bZ H3 (upd (upd H6 p5 (.tup [.str "num",.int w2])) L (.lst [.ref p1,.ref p2,.ref p3,.ref p4,.ref p5])):=λa xs e=>J _ _ (g4 _ _ (k4 _ _ e))
    let e1':=J3 _ _ e1;let e2':=J3 _ _ e2;let e3':=J3 _ _ e3;let e4':=J _ _ e4;generalize upd (upd H6 p5 (.tup [.str "num",.int w2])) L (.lst [.ref p1,.ref p2,.ref p3,.ref p4,.ref p5])=H7 at e1' e2' e3' e4' e5 eL F7 S7;let hb7:=S7 _ _ nb hb;clear J J3 e1 e2 e3 e4 k4 k6;erw[0,1,0,6]
    by_cases c:fm=3
    . apply aX (congrArg V.int c) ?_;let bl:(bs.map V.str).length=bs.length:=zF0 _;erw[0,0,0,b,0,.inl (zG0 hb7),f,0,F7,3,3,λd H8 d0 d1 F8 B8=>?_];let%[v,hv|vm]:=oa (l:=bs.map V.str) (i:=d) d0 d1;let%[x,hx|1]:=List.mem_map.mp vm;erw[b,_,2,zG0 (B8 _ _ nb hb7),hv,y2S,λp8 hp8=>?_];let g8:=zC0 hp8 (.tup [.str "box",.str x]);exact q _ (.box x) _ (.box aP) trivial rfl (F8.same g8) (S7.trans (B8.trans (zJ0 g8)))
    . apply aD (λz=>c (V.int.inj z)) ?_;erw[0,0,f,(5),1,F7,4,4,λd H8 d0 d1 F8 B8=>?_];let k8:=bc F7 B8;let hL8:=B8 _ _ Lf eL;let S8:=S7.trans B8
      have:d=0∨d=1∨d=2∨d=3∨d=4:=#[0]
      rcases this with rfl | rfl | rfl | rfl | rfl
      . erw[L,_,(0),.ref p1,1,1,zG0 hL8,1,q _ (.plain "round") _ (.plain (k8 _ _ e1')) (show("round":Str)∈plainW by decide) rfl F8 S8]
      . erw[L,_,(1),.ref p2,1,1,zG0 hL8,1,q _ (.plain "due") _ (.plain (k8 _ _ e2')) (show("due":Str)∈plainW by decide) rfl F8 S8]
      . erw[L,_,(2),.ref p3,1,1,zG0 hL8,1,q _ (.plain "asked") _ (.plain (k8 _ _ e3')) (show("asked":Str)∈plainW by decide) rfl F8 S8]
      . erw[L,_,(3),.ref p4,1,1,zG0 hL8,1,q _ (.num w1) _ (.num (k8 _ _ e4')) trivial rfl F8 S8]
      . erw[L,_,(4),.ref p5,1,1,zG0 hL8,1,q _ (.num w2) _ (.num (k8 _ _ e5)) trivial rfl F8 S8])) aB)
  (aa (aJ (PW.pt (eC (ai dG (pv 4) af (ax _)) (dM (ai dG (pv 2) af (ax _))))) (cK (t':=tAskT n) (ae (ay (aM %[aN ix_list (cS %[aq,aq|aQ]) (am a7 hr #[0] rfl %[0,af|aQ]) #[1],am eQ hr (zH0 _) rfl %[0,1,au bi (pv 2) af,au bi (pv 3) af|aQ]|aQ]))) (by
   rintro Dn σ H ⟨x4,x5,x6,x7,f,b,bs,room,deep,rfl,F0,hb,nb,b1,b2,r1,r2,d1,d2,q⟩;erw[y2S,λL hL=>?_];let gL:=zC0 hL (.lst [.str "coin",.str "true"]);let eL:upd H L (.lst [.str "coin",.str "true"]) L=some (.lst [.str "coin",.str "true"]):=aP;let Lf:L≠f:=F0.ne hL;generalize upd H L (.lst [.str "coin",.str "true"])=H1 at gL eL;erw[0,f,(2),1,F0.same gL,4,4,λd H2 d0 d1' F2 B2=>?_];let aw:∃aw:Str,aw∈askW/\atI [V.str "coin",.str "true"] d=some (.str aw):=by
    have:d=0∨d=1:=#[0]
    rcases this with rfl | rfl
    . erw["coin",4,at0 ..]
    . erw["true",4,at1 ..]
   erw[aw,awm,haw]at aw;erw[L,_,2,zG0 (B2 _ _ Lf eL),haw,6];let hb2:=B2 _ _ nb (gL _ _ hb);refine⟨_,rfl,_,rfl,_,rfl,_,_,rfl,rfl,_,rfl,_,_,rfl,rfl,f,b,bs,room-1,deep-1,rfl,F2,hb2,nb,b1,b2,#[0],#[0],#[0],#[0],λv t H3 T3 ok3 dp3 F3 B3=>?_⟩;erw[y2S,λp hp=>?_];let gp:=zC0 hp (.tup [.str aw,v]);let ed:((Tm.ask aw t).depth:Int)=(t.depth:Int)+1:=by show((t.depth+1:Nat):Int)=_;omega
   exact q _ (.ask aw t) _ (.ask aP (T3.mono (bh gp))) %[awm|ok3] #[0] (F3.same gp) ((zJ0 gL).trans (B2.trans (B3.trans (zJ0 gp)))))) aB)
  (aa #[aj,6,ii,au aS af (am a7 hr #[0] rfl %[0,au bi (pv 2) af|aQ])]
  (aa #[aj,7,ii,am eQ hr (zH0 _) rfl %[0,1,6,au bi (pv 3) af|aQ]]
  (ae (ay (aM %[aq,aN rO aq (am a7 hr #[0] rfl %[0,af|aQ]) #[1],7,am eQ hr (zH0 _) rfl %[0,1,au bi (au bi (pv 2) af) (pv 6),au bi (pv 3) af|aQ]|aQ])))))))),?_⟩
 erw[0,f,(9),1,F0,4,4,λfm H1 m0 m9 F1 B1=>?_];let hb1:=B1 _ _ nb hb;let leaf:∀(v:V)(t:Tm)(H':Hp),TmAt H' v t->t.good->t.depth=1->FeedAt H' f->SameBut f H1 H'->Q v H':=λv t H' T g d FF BB=>q v t H' T g #[0] FF (B1.trans BB)
 erw[0,2,0,6]
 by_cases c1:room<2
 . exact aX c1 (dU %[_,_,_,_,_,f,b,bs,fm,1,F1,hb1,nb,b1,b2|leaf])
 apply aD c1 %[0,2,0|6]
 by_cases c2:deep<2
 . exact aX c2 (dU %[_,_,_,_,_,f,b,bs,fm,1,F1,hb1,nb,b1,b2|leaf])
 apply aD c2 %[0,2,0|6]
 by_cases c3:fm<4
 . exact aX c3 %[_,_,_,_,_,f,b,bs,fm,1,F1,hb1,nb,b1,b2|leaf]
 apply aD c3 ?_;let ask:∀(v:V)(t:Tm)(H':Hp),TmAt H' v t->t.good->(t.depth:Int)<=deep->FeedAt H' f->SameBut f H1 H'->Q v H':=λv t H' T g d FF BB=>q v t H' T g d FF (B1.trans BB)
 erw[0,2,0,6]
 by_cases c4:fm<6
 . exact aX c4 (dU %[_,_,_,_,f,b,bs,room,deep,1,F1,hb1,nb,b1,b2,3,r2,3,3|ask])
 apply aD c4 %[0,2,0|6]
 by_cases c5:room<3
 . exact aX c5 %[_,_,_,_,f,b,bs,room,deep,1,F1,hb1,nb,b1,b2,3,r2,3,3|ask]
 apply aD c5 ?_;erw[0,0,2,f,room-2,1,F1,3,3,λd3 H2 a0 a1 F2 B2=>?_];erw[2,6];let hb2:=B2 _ _ nb hb1;erw[0,0,0,0,2,f,b,bs,1+d3,deep-1,1,F2,hb2,nb,b1,b2,3,3,3,3,λv1 t1 H3 T1 ok1 dp1 F3 B3=>?_];let hb3:=B3 _ _ nb hb2;erw[0,f,(6),1,F3,4,4,λd4 H4 g0 g1 F4 B4=>?_];let%[c,hc|hm]:=oa (l:=(("+-*/=<":Str)).cps.toList) (i:=d4) g0 (by rw[CK];exact g1);let hb4:=B4 _ _ nb hb3;erw[_,2,cH ⋯,hc,0,6];erw[0,0,0,2,0,2,0,2,f,b,bs,room-1-(1+d3),deep-1,1,F4,hb4,nb,b1,b2,3,3,3,3,λv2 t2 H5 T2 ok2 dp2 F5 B5=>?_];let k35:bZ H3 H5:=λa ys e=>bc F4 B5 _ _ (bc F3 B4 _ _ e)
 erw[y4S,λp hp=>?_];let gp:=zC0 hp (.tup [.str "op",.str %[|#[c]],v1,v2]);let ed:((Tm.op ⟨#[c]⟩ t1 t2).depth:Int)<=deep:=by
  show((max t1.depth t2.depth+1:Nat):Int)<=deep;omega
 exact q _ (.op %[|#[c]] t1 t2) _ (.op aP (T1.mono λa xs e=>gp _ _ (k35 _ _ e)) (T2.mono (bh gp))) %[Fy c hm,ok1|ok2] ed (F5.same gp) (B1.trans (B2.trans (B3.trans (B4.trans (B5.trans (zJ0 gp))))))
def Fi:#[2,f,fd,WY,spTerm 0]:=by
 let no:∀vs H Q E,¬ spTerm 0 vs H Q E:=λvs H Q E h=>by
  erw[_,_,_,_,_,_,_,_,_,_,_,_,_,h1,h2,_]at h;omega
 exists 3
def tD(F:#["_law_term",mO])(B:Bl mg)(m:mg "_law_term"=some (.ref f))(a7:#[1,"_law_take",WE,spTake]):
 ∀n:Nat,#[n+2,f,fd,WY,spTerm n]
 |0=>Fi
 |n+1=>Fk F B a7 (Cal.of F (tD F B m a7 n) m (λ_ _ _ _ _ _ us hl=>by let%[u0,u1,u2,u3|1]:=Ei hl;rfl))
def RowsAt.app(h:RowsAt H a r)(k:RowsAt H b s):RowsAt H (a++b) (r++s):=by
 erw[by rw[zL0,zL0,h.1,k.1],λi v x e1 e2=>?_]
 by_cases c:i<a.length
 . rw[zQ1 c]at e1;rw[zQ1 (by rw[←h.1];exact c)]at e2;exact h.2 i v x e1 e2
 . rw[zN1 #[0]]at e1;rw[zN1 (by rw[←h.1];omega),←h.1]at e2;exact k.2 _ v x e1 e2
def RowsAt.one(h:HrAt H v r):RowsAt H [v] [r]:=⟨rfl,λi u x e1 e2=>by
 cases i with
 |zero=>cases e1;cases e2;exact h
 |succ i=>cases e1⟩
instance spHelp:∀(f b:Addr)(bs:List Str)(most:Int),vs=[.ref f,.ref b,.int most]->FeedAt H f->H b=some (.lst (bs.map V.str))->b≠f->1<=bs.length->bs.length<=100->0<=most->most<=60->(∀(h:Addr)(rv:List V)(rows:List Hr)(H':Hp),H' h=some (.tup rv)->RowsAt H' rv rows->(∀r∈rows,r.good)->FeedAt H' f->SameBut f H H'->Q (.ref h) H'):=1
def fQ:FnScope ["_law_feed_here","_law_boxes","_law_most","_law_rows","_law_many","_law_k","_law_form"] W8 (ao lZ):=%[|5]
def wo(F:#["_law_helper",lZ])(B:Bl mg)(a7:#[1,"_law_take",WE,spTake])(eQ:#[7,"_law_term",WY,spTerm 5]):#[8,f,fd,W8,spHelp]:=by
 exists fQ
 erw[f,b,bs,most,1,F0,hb,nb,b1,b2,m0,m1,q]at h;refine⟨_,(aa #[aj,3,fQ,cS aQ]
  (aa #[aj,4,fQ,am a7 hr ⋯ rfl %[0,au aS (pv 2) af|aQ]]
  (aa (cu zF1 rfl (cr rfl B.range %[4|aQ]) (aU (i:=5) fQ.nd rfl (.inl rfl)) (aa #[aj,6,fQ,am a7 hr ⋯ rfl %[0,af|aQ]]
   (ae (aJ (ai dG (pv 6) af (ax _)) (ae (aW (dC zE1 zH1 zI1 cf (pv 3) %[aM %[aq,am eQ hr ⋯ rfl %[0,1,af,af|aQ]|aQ]|aQ]))) (ae (aJ (ai dG (pv 6) af (ax _)) (ae (aW (dC zE1 zH1 zI1 cf (pv 3) %[aM %[aq,aN ix_list (pv 1) (am a7 hr ⋯ rfl %[0,aI aG rfl B.len zB1 %[1|aQ]|aQ]) #[1],am eQ hr ⋯ rfl %[0,1,af,af|aQ]|aQ]|aQ]))) (ae (aJ (ai aR (pv 6) af (ax _)) (ae (aW (dC zE1 zH1 zI1 cf (pv 3) %[aM %[aq,am eQ hr ⋯ rfl %[0,1,af,af|aQ],am a7 hr ⋯ rfl %[0,4|aQ]|aQ]|aQ]))) (ae (aJ (ai aR (pv 6) af (ax _)) (ae (aW (dC zE1 zH1 zI1 cf (pv 3) %[aM %[aq,am a7 hr ⋯ rfl %[0,4|aQ]|aQ]|aQ]))) (ae (aW (dC zE1 zH1 zI1 cf (pv 3) %[aM %[aq|aQ]|aQ])))))))))))))
  (ae (ay (bd bj rfl B.tuple bw %[3|aQ])))))),?_⟩
 erw[y0S,λL hL=>?_];let I0:=zC0 hL (.lst []);let Lf:L≠f:=F0.ne hL;let g0:upd H L (.lst []) L=some (.lst []):=aP;generalize upd H L (.lst [])=H1 at I0 g0;erw[0,0,2,f,most+1,1,F0.same I0,3,3,λmn H2 n0 n1 F2 B2=>?_];let S2:SameBut f H H2:=(zJ0 I0).trans B2;refine⟨_,rfl,_,rfl,#[0],#[0],eK (λi σ H'=>∃(x5 x6:Option V)(vs:List V)(rows:List Hr),σ=[some (.ref f),some (.ref b),some (.int most),some (.ref L),some (.int mn),x5,x6]/\FeedAt H' f/\SameBut f H H'/\H' L=some (.lst vs)/\RowsAt H' vs rows/\(∀r∈rows,r.good)/\vs.length=i)
  %[_,_,[],[],1,F2,S2,B2 _ _ Lf g0,%[1|λi v r e=>by cases e],(λr hr=>by cases hr)|1] ?_ ?_⟩
 . rintro i σ H3 hi ⟨x5,x6,vs,rows,rfl,F3,S3,hL3,RW,rg,vl⟩;let hb3:=S3 _ _ nb hb;erw[0,f,(8),1,F3,4,4,λfm H4 f0 f1 F4 B4=>?_];let hb4:=B4 _ _ nb hb3;let hL4:=B4 _ _ Lf hL3;let S4:=S3.trans B4;let RW4:=RW.mono (bc F3 B4);let fin:∀(r:Hr)(v:V)(H5:Hp),HrAt H5 v r->r.good->FeedAt H5 f->SameBut f H4 H5->H5 L=some (.lst vs)/\vs.length<sizeLine/\∃(x5' x6':Option V)(vs':List V)(rows':List Hr),[some (V.ref f),some (.ref b),some (.int most),some (.ref L),some (.int mn),some (.int (0+(i:Int))),some (.int fm)]=[some (V.ref f),some (.ref b),some (.int most),some (.ref L),some (.int mn),x5',x6']/\FeedAt (upd H5 L (.lst (vs++[v]))) f/\SameBut f H (upd H5 L (.lst (vs++[v])))/\(upd H5 L (.lst (vs++[v]))) L=some (.lst vs')/\RowsAt (upd H5 L (.lst (vs++[v]))) vs' rows'/\(∀r∈rows',r.good)/\vs'.length=i+1:=by
    intro r v H5 R5 g5 F5 B5;let hL5:=B5 _ _ Lf hL4;let k6:bZ H5 (upd H5 L (.lst (vs++[v]))):=gA hL5;erw[hL5,aO #[0],_,_,vs++[v],rows++[r],1,6,6,aP,((RW4.mono (bc F4 B5)).mono k6).app (RowsAt.one (R5.mono k6)),λr' hr'=>?_,by rw[zL0,vl];rfl]
    . erw[x,t,e,rr]at F5;erw[x,t,by rw[aE Lf.symm];exact e,rr]
    . intro c o hc e;rw[aE (aZ e hL)];exact B5 _ _ hc (S4 _ _ hc e)
    . rcases qH0 hr' with h | h
      . exact rg r' h
      . rw[Nd h];exact g5
   erw[0,2,0,6]
   by_cases c1:fm<3
   . apply aX c1 ?_;erw[0,.inl %[1,_|zG0 hL4],0,0,f,b,bs,(6),(5),1,F4,hb4,nb,b1,b2,4,4,4,4,λv t H5 T5 g5 d5 F5 B5=>%[y2S|λp hp=>?_]];let Ip:=zC0 hp (.tup [.str "say",v]);let%[hLx,sz|iv]:=fin (.say t) (.ref p) _ (.say aP (T5.mono (bh Ip))) %[g5|3] (F5.same Ip) (B5.trans (zJ0 Ip));erw[L,2,hLx,sz,iv]
   apply aD c1 %[0,2,0|6]
   by_cases c2:fm<5
   . apply aX c2 ?_;let bl:(bs.map V.str).length=bs.length:=zF0 _;erw[0,.inl %[1,_|zG0 hL4],0,0,0,b,0,.inl (zG0 hb4),f,0,F4,3,3,λd H5 d0 d1 F5 B5=>?_];let%[v,hv|vm]:=oa (l:=bs.map V.str) (i:=d) d0 d1;let%[x,hx|1]:=List.mem_map.mp vm;let hb5:=B5 _ _ nb hb4;erw[b,_,2,zG0 hb5,hv,0,0,f,b,bs,(6),(5),1,F5,hb5,nb,b1,b2,4,4,4,4,λv t H6 T6 g6 d6 F6 B6=>%[y3S|λp hp=>?_]];let Ip:=zC0 hp (.tup [.str "set",.str x,v]);let%[hLx,sz|iv]:=fin (.set x t) (.ref p) _ (.set aP (T6.mono (bh Ip))) %[g6|3] (F6.same Ip) (B5.trans (B6.trans (zJ0 Ip)));erw[L,2,hLx,sz,iv]
   apply aD c2 %[0,1,0|6]
   by_cases c3:fm=5
   . apply aX (congrArg V.int c3) ?_;erw[0,.inl %[1,_|zG0 hL4],0,0,f,b,bs,(5),(4),1,F4,hb4,nb,b1,b2,4,4,4,4,λv t H5 T5 g5 d5 F5 B5=>?_];erw[0,0,f,mn,1,F5,3,3,λd H6 d0 d1 F6 B6=>%[y3S|λp hp=>?_]];let Ip:=zC0 hp (.tup [.str "if",v,.int d]);let%[hLx,sz|iv]:=fin (.iff t d) (.ref p) _ (.iff aP (T5.mono λa xs e=>Ip _ _ (bc F5 B6 _ _ e))) %[g5,3|d0] (F6.same Ip) (B5.trans (B6.trans (zJ0 Ip)));erw[L,2,hLx,sz,iv]
   apply aD (λz=>c3 (V.int.inj z)) %[0,1,0|6]
   by_cases c4:fm=6
   . apply aX (congrArg V.int c4) ?_;erw[0,.inl %[1,_|zG0 hL4],0,0,f,mn,1,F4,3,3,λd H6 d0 d1 F6 B6=>%[y2S|λp hp=>?_]];let Ip:=zC0 hp (.tup [.str "go",.int d]);let%[hLx,sz|iv]:=fin (.go d) (.ref p) _ (.go aP) d0 (F6.same Ip) (B6.trans (zJ0 Ip));erw[L,2,hLx,sz,iv]
   apply aD (λz=>c4 (V.int.inj z)) ?_;erw[0,.inl %[1,_|zG0 hL4],y1S,λp hp=>?_];let Ip:=zC0 hp (.tup [.str "end"]);let%[hLx,sz|iv]:=fin .fin (.ref p) _ (.fin aP) trivial (F4.same Ip) (zJ0 Ip);erw[L,2,hLx,sz,iv]
 . rintro σ H3 ⟨x5,x6,vs,rows,rfl,F3,S3,hL3,RW,rg,vl⟩;erw[0,L,0,.inl %[zG0 hL3|λh hh=>?_]];let Ih:=zC0 hh (.tup vs);exact q h vs rows _ aP (RW.mono (bh Ih)) rg (F3.same Ih) (S3.trans (zJ0 Ih))
instance spLiar:∀(f:Addr)(x:Str),vs=[.ref f,.str x]->FeedAt H f->(∀(h:Addr)(rv:List V)(rows:List Hr)(H':Hp),H' h=some (.tup rv)->RowsAt H' rv rows->(∀r∈rows,r.good)->FeedAt H' f->SameBut f H H'->Q (.ref h) H'):=1
def cJ:FnScope ["_law_feed_here","_law_box","_law_j","_law_wrong","_law_turn","_law_more","_law_coin","_law_told","_law_on"] W9 (ao qB):=%[|5]
instance tLi1(Dn:Ends)(σ:St)(H:Hp):∀(x4 x5 x6 x7 x8:Option V)(f:Addr)(x:Str)(vj vw:V)(tw:Tm),σ=[some (.ref f),some (.str x),some vj,some vw,x4,x5,x6,x7,x8]->FeedAt H f->TmAt H vj (.box x)->TmAt H vw tw->tw.good->tw.depth<=3->(∀(h:Addr)(rv:List V)(rows:List Hr)(H':Hp),H' h=some (.tup rv)->RowsAt H' rv rows->(∀r∈rows,r.good)->FeedAt H' f->SameBut f H H'->Dn.rt (.ref h) H'):=0
instance tLi2(Dn:Ends)(σ:St)(H:Hp):∀(x3 x4 x6 x7 x8:Option V)(f:Addr)(x:Str)(vj vm:V)(tm:Tm),σ=[some (.ref f),some (.str x),some vj,x3,x4,some vm,x6,x7,x8]->FeedAt H f->TmAt H vj (.box x)->TmAt H vm tm->tm.good->tm.depth<=4->(∀(h:Addr)(rv:List V)(rows:List Hr)(H':Hp),H' h=some (.tup rv)->RowsAt H' rv rows->(∀r∈rows,r.good)->FeedAt H' f->SameBut f H H'->Dn.rt (.ref h) H'):=0
def Ig{s:Str}{a b:Tm}{m:Nat}(h1:a.depth<=m)(h2:b.depth<=m):(Tm.op s a b).depth<=m+1:=by
 show max a.depth b.depth+1<=m+1;omega
def AR(F:#["_law_liar",qB])(a7:#[1,"_law_take",WE,spTake]):#[2,f,fd,W9,spLiar]:=by
 exists cJ
 erw[f,x,1,F0,q]at h;refine⟨_,(aa #[aj,2,cJ,aM %[aq,1|aQ]]
  (aa #[aj,3,cJ,aM %[aq,aq,2,aM %[aq,am a7 hr ⋯ rfl %[0,af|aQ]|aQ]|aQ]]
  (aa (aJ (ai iy (am a7 hr ⋯ rfl %[0,af|aQ]) af (ax _)) (aa #[aj,4,cJ,aM %[aq,aq,aM %[aq|aQ],aM %[aq,am a7 hr ⋯ rfl %[0,af|aQ]|aQ]|aQ]]
   (ae #[aj,3,cJ,aM %[aq,aq,3,4|aQ]])) aB)
  (cK (t':=tLi1) (aa #[aj,5,cJ,aM %[aq,aq,3,aM %[aq,au aS af (am a7 hr ⋯ rfl %[0,af|aQ])|aQ]|aQ]]
  (aa (aJ (ai aR (am a7 hr ⋯ rfl %[0,af|aQ]) af (ax _)) (aa #[aj,6,cJ,aM %[aq,aM %[aq,au aS af (am a7 hr ⋯ rfl %[0,af|aQ])|aQ]|aQ]]
   (aa #[aj,6,cJ,aM %[aq,aq,6,aM %[aq,am a7 hr ⋯ rfl %[0,af|aQ]|aQ]|aQ]]
   (ae #[aj,5,cJ,aM %[aq,aq,3,6|aQ]]))) aB)
  (cK (t':=tLi2) (aa #[aj,7,cJ,aM %[aq,aq,aM %[aq,2|aQ],5|aQ]]
  (aa #[aj,8,cJ,aM %[aq,aq,2,aM %[aq,af|aQ]|aQ]]
  (ae (ay (aM %[aM %[aq,1,aM %[aq,af|aQ]|aQ],aM %[aq,7|aQ],aM %[aq,1,8|aQ],aM %[aq,af|aQ]|aQ]))))) (by
   rintro Dn σ H ⟨x3,x4,x6,x7,x8,f,x,vj,vm,tm,rfl,F0,Tj,Tm,gm,dm,q⟩;let s2:2<=sizeLine:=by decide
   let s3:3<=sizeLine:=by decide
   let s4:4<=sizeLine:=by decide
   erw[0,s2,λp1 h1=>%[0,s4|λp2 h2=>?_]];let I1:=zC0 h1 (.tup [.str "true",vj]);let I2:=zC0 h2 (.tup [.str "op",.str "+",.ref p1,vm]);let T2:TmAt (upd (upd H p1 (.tup [.str "true",vj])) p2 (.tup [.str "op",.str "+",.ref p1,vm])) (.ref p2) (.op "+" (.ask "true" (.box x)) tm):=.op aP (.ask (I2 _ _ aP) (Tj.mono (bh (I1.trans I2)))) (Tm.mono (bh (I1.trans I2)));let J2:=I1.trans I2;generalize upd (upd H p1 (.tup [.str "true",vj])) p2 (.tup [.str "op",.str "+",.ref p1,vm])=H2 at T2 J2;erw[0,s2,λp3 h3=>%[s4|λp4 h4=>?_]];let I3:=zC0 h3 (.tup [.str "num",.int 1]);let I4:=zC0 h4 (.tup [.str "op",.str "+",vj,.ref p3]);let T4:TmAt (upd (upd H2 p3 (.tup [.str "num",.int 1])) p4 (.tup [.str "op",.str "+",vj,.ref p3])) (.ref p4) (.op "+" (.box x) (.num 1)):=.op aP (Tj.mono (bh (J2.trans (I3.trans I4)))) (.num (I4 _ _ aP));let J4:=I3.trans I4;generalize upd (upd H2 p3 (.tup [.str "num",.int 1])) p4 (.tup [.str "op",.str "+",vj,.ref p3])=H4 at T4 J4;erw[0,s2,λp5 h5=>%[s3|λp6 h6=>?_]];let I5:=zC0 h5 (.tup [.str "num",.int 0]);let I6:=zC0 h6 (.tup [.str "set",.str x,.ref p5]);let R6:HrAt (upd (upd H4 p5 (.tup [.str "num",.int 0])) p6 (.tup [.str "set",.str x,.ref p5])) (.ref p6) (.set x (.num 0)):=.set aP (.num (I6 _ _ aP));let J6:=I5.trans I6;generalize upd (upd H4 p5 (.tup [.str "num",.int 0])) p6 (.tup [.str "set",.str x,.ref p5])=H6 at R6 J6;erw[0,s2,λp7 h7=>%[0,0,s3|λp8 h8=>%[s2|λp9 h9=>%[s4|λp h10=>?_]]]];let I7:=zC0 h7 (.tup [.str "say",.ref p2]);let I8:=zC0 h8 (.tup [.str "set",.str x,.ref p4]);let I9:=zC0 h9 (.tup [.str "go",.int 1]);let I10:=zC0 h10 (.tup [.ref p6,.ref p7,.ref p8,.ref p9]);let J10:=I7.trans (I8.trans (I9.trans I10));let R7:HrAt (upd (upd (upd (upd H6 p7 (.tup [.str "say",.ref p2])) p8 (.tup [.str "set",.str x,.ref p4])) p9 (.tup [.str "go",.int 1])) p (.tup [.ref p6,.ref p7,.ref p8,.ref p9])) (.ref p7) (.say (.op "+" (.ask "true" (.box x)) tm)):=.say ((I8.trans (I9.trans I10)) _ _ aP) (T2.mono (bh (J4.trans (J6.trans J10))));let R8:HrAt (upd (upd (upd (upd H6 p7 (.tup [.str "say",.ref p2])) p8 (.tup [.str "set",.str x,.ref p4])) p9 (.tup [.str "go",.int 1])) p (.tup [.ref p6,.ref p7,.ref p8,.ref p9])) (.ref p8) (.set x (.op "+" (.box x) (.num 1))):=.set ((I9.trans I10) _ _ aP) (T4.mono (bh (J6.trans J10)));let R9:HrAt (upd (upd (upd (upd H6 p7 (.tup [.str "say",.ref p2])) p8 (.tup [.str "set",.str x,.ref p4])) p9 (.tup [.str "go",.int 1])) p (.tup [.ref p6,.ref p7,.ref p8,.ref p9])) (.ref p9) (.go 1):=.go (I10 _ _ aP);let JJ:=J2.trans (J4.trans (J6.trans J10));let pl:("+":Str)∈signW:=by decide
   apply q p _ _ _ aP ((((RowsAt.one (R6.mono (bh J10))).app (RowsAt.one R7)).app (RowsAt.one R8)).app (RowsAt.one R9)) (λr hr=>?_) (F0.same JJ) (zJ0 JJ);rcases qH0 hr with hr | hr
   . rcases qH0 hr with hr | hr
     . rcases qH0 hr with hr | hr
       . rw[Nd hr];erw[trivial,(by show 1<=5;decide)]
       . rw[Nd hr];erw[%[pl,%[4|trivial]|gm],Ig (m:=4) (by show 2<=4;decide) dm]
     . rw[Nd hr];erw[%[pl,trivial|trivial],(by show 2<=5;decide)]
   . rw[Nd hr];exact(by show(0:Int)<=1;decide))))) (by
   rintro Dn σ H ⟨x4,x5,x6,x7,x8,f,x,vj,vw,tw,rfl,F0,Tj,Tw,gw,dw,q⟩;let s2:2<=sizeLine:=by decide
   let s4:4<=sizeLine:=by decide
   let st:("*":Str)∈signW:=by decide
   let pl:("+":Str)∈signW:=by decide
   erw[0,0,f,(4),1,F0,4,4,λd1 H1 _ _ F1 B1=>%[2,s2|λp1 h1=>%[s4|λp2 h2=>?_]]];let k1:=bc F0 B1;let I1:=zC0 h1 (.tup [.str "num",.int (1+d1)]);let I2:=zC0 h2 (.tup [.str "op",.str "*",vw,.ref p1]);let J2:=I1.trans I2;let T2:TmAt (upd (upd H1 p1 (.tup [.str "num",.int (1+d1)])) p2 (.tup [.str "op",.str "*",vw,.ref p1])) (.ref p2) (.op "*" tw (.num (1+d1))):=.op aP (Tw.mono λa xs e=>J2 _ _ (k1 _ _ e)) (.num (I2 _ _ aP));generalize upd (upd H1 p1 (.tup [.str "num",.int (1+d1)])) p2 (.tup [.str "op",.str "*",vw,.ref p1])=H2 at T2 J2;let F2:=F1.same J2;erw[0,f,(3),1,F2,4,4,λd2 H3 _ _ F3 B3=>%[1,0|6]];let k3:=bc F2 B3;let S3:SameBut f H H3:=B1.trans ((zJ0 J2).trans B3);let kk:bZ H H3:=λa xs e=>k3 _ _ (J2 _ _ (k1 _ _ e))
   by_cases c:d2=0
   . apply aX (congrArg V.int c) ?_;erw[0,f,(3),1,F3,4,4,λd3 H4 _ _ F4 B4=>%[2,s2|λp3 h3=>%[s2|λp4 h4=>?_]]];let k4:=bc F3 B4;let I3:=zC0 h3 (.tup [.str "num",.int (1+d3)]);let I4:=zC0 h4 (.tup [.str "coin",.ref p3]);let J4:=I3.trans I4;let T4:TmAt (upd (upd H4 p3 (.tup [.str "num",.int (1+d3)])) p4 (.tup [.str "coin",.ref p3])) (.ref p4) (.ask "coin" (.num (1+d3))):=.ask aP (.num (I4 _ _ aP));generalize upd (upd H4 p3 (.tup [.str "num",.int (1+d3)])) p4 (.tup [.str "coin",.ref p3])=H5 at T4 J4;let F5:=F4.same J4;erw[0,0,f,(3),1,F5,4,4,λd5 H6 _ _ F6 B6=>%[s2|λp5 h5=>%[s4|λp6 h6=>?_]]];let k6:=bc F5 B6;let I5:=zC0 h5 (.tup [.str "num",.int d5]);let I6:=zC0 h6 (.tup [.str "op",.str "+",.ref p4,.ref p5]);let J6:=I5.trans I6;let T6:TmAt (upd (upd H6 p5 (.tup [.str "num",.int d5])) p6 (.tup [.str "op",.str "+",.ref p4,.ref p5])) (.ref p6) (.op "+" (.ask "coin" (.num (1+d3))) (.num d5)):=.op aP (T4.mono λa xs e=>J6 _ _ (k6 _ _ e)) (.num (I6 _ _ aP));generalize upd (upd H6 p5 (.tup [.str "num",.int d5])) p6 (.tup [.str "op",.str "+",.ref p4,.ref p5])=H7 at T6 J6;let F7:=F6.same J6;let kw:bZ H H7:=λa xs e=>J6 _ _ (k6 _ _ (J4 _ _ (k4 _ _ (kk _ _ e))))
     erw[0,0,s4,λp7 h7=>?_];let I7:=zC0 h7 (.tup [.str "op",.str "*",vw,.ref p6]);erw[_,_,_,_,_,f,x,vj,.ref p7,.op "*" tw (.op "+" (.ask "coin" (.num (1+d3))) (.num d5)),1,F7.same I7,Tj.mono (λa xs e=>I7 _ _ (kw _ _ e)),.op aP (Tw.mono λa xs e=>I7 _ _ (kw _ _ e)) (T6.mono (bh I7)),%[st,gw,pl,%[4|trivial]|trivial],Ig (m:=3) dw (by show 3<=3;decide),λh rv rows H' h1 h2 h3 h4 h5=>q h rv rows H' h1 h2 h3 h4 (S3.trans (B4.trans ((zJ0 J4).trans (B6.trans ((zJ0 (J6.trans I7)).trans h5)))))]
   . apply aD (λz=>c (V.int.inj z)) ?_;erw[_,_,_,_,_,f,x,vj,.ref p2,.op "*" tw (.num (1+d1)),1,F3,Tj.mono kk,T2.mono k3,%[st,gw|trivial],Ig (m:=3) dw (by show 1<=3;decide),λh rv rows H' h1 h2 h3 h4 h5=>q h rv rows H' h1 h2 h3 h4 (S3.trans h5)]))))),?_⟩
 let s1:1<=sizeLine:=by decide
 let s2:2<=sizeLine:=by decide
 let s4:4<=sizeLine:=by decide
 let st:("*":Str)∈signW:=by decide
 let eqs:("=":Str)∈signW:=by decide
 erw[0,s2,λpj hj=>?_];let Ij:=zC0 hj (.tup [.str "box",.str x]);let Tj:TmAt (upd H pj (.tup [.str "box",.str x])) (.ref pj) (.box x):=.box aP;generalize upd H pj (.tup [.str "box",.str x])=H1 at Ij Tj;erw[0,0,f,(4),1,F0.same Ij,4,4,λd1 H2 _ _ F2 B2=>%[s2|λp1 h1=>%[s4|λp2 h2=>?_]]];let k2:=bc (F0.same Ij) B2;let I1:=zC0 h1 (.tup [.str "num",.int d1]);let I2:=zC0 h2 (.tup [.str "op",.str "=",.ref pj,.ref p1]);let J2:=I1.trans I2;let T2:TmAt (upd (upd H2 p1 (.tup [.str "num",.int d1])) p2 (.tup [.str "op",.str "=",.ref pj,.ref p1])) (.ref p2) (.op "=" (.box x) (.num d1)):=.op aP (Tj.mono λa xs e=>J2 _ _ (k2 _ _ e)) (.num (I2 _ _ aP));let Tj2:=Tj.mono λa xs e=>J2 _ _ (k2 _ _ e)
 let S3:SameBut f H (upd (upd H2 p1 (.tup [.str "num",.int d1])) p2 (.tup [.str "op",.str "=",.ref pj,.ref p1])):=(zJ0 Ij).trans (B2.trans (zJ0 J2));let F3:=F2.same J2;generalize upd (upd H2 p1 (.tup [.str "num",.int d1])) p2 (.tup [.str "op",.str "=",.ref pj,.ref p1])=H3 at T2 Tj2 S3 F3;erw[0,f,(3),1,F3,4,4,λd2 H4 _ _ F4 B4=>%[2,0|6]];let k4:=bc F3 B4;let S4:=S3.trans B4
 by_cases c:d2>0
 . apply aX c ?_;erw[s1,λp3 h3=>?_];let I3:=zC0 h3 (.tup [.str "round"]);let e3:upd H4 p3 (.tup [.str "round"]) p3=some (.tup [.str "round"]):=aP;generalize upd H4 p3 (.tup [.str "round"])=H5 at I3 e3;erw[0,f,(6),1,F4.same I3,4,4,λd5 H6 _ _ F6 B6=>%[s2|λp5 h5=>%[s4|λp6 h6=>?_]]];let k6:=bc (F4.same I3) B6;let I5:=zC0 h5 (.tup [.str "num",.int d5]);let I6:=zC0 h6 (.tup [.str "op",.str "=",.ref p3,.ref p5]);let J6:=I5.trans I6;let T6:TmAt (upd (upd H6 p5 (.tup [.str "num",.int d5])) p6 (.tup [.str "op",.str "=",.ref p3,.ref p5])) (.ref p6) (.op "=" (.plain "round") (.num d5)):=.op aP (.plain (J6 _ _ (k6 _ _ e3))) (.num (I6 _ _ aP));generalize upd (upd H6 p5 (.tup [.str "num",.int d5])) p6 (.tup [.str "op",.str "=",.ref p3,.ref p5])=H7 at T6 J6;let kw:bZ H3 H7:=λa xs e=>J6 _ _ (k6 _ _ (I3 _ _ (k4 _ _ e)))
   erw[0,0,s4,λp7 h7=>?_];let I7:=zC0 h7 (.tup [.str "op",.str "*",.ref p2,.ref p6]);erw[_,_,_,_,_,f,x,.ref pj,.ref p7,.op "*" (.op "=" (.box x) (.num d1)) (.op "=" (.plain "round") (.num d5)),1,F6.same (J6.trans I7),Tj2.mono (λa xs e=>I7 _ _ (kw _ _ e)),.op aP (T2.mono λa xs e=>I7 _ _ (kw _ _ e)) (T6.mono (bh I7)),%[st,%[eqs,trivial|trivial],eqs,(show("round":Str)∈plainW by decide)|trivial],(by show 3<=3;decide),λh rv rows H' h1 h2 h3 h4 h5=>q h rv rows H' h1 h2 h3 h4 (S4.trans ((zJ0 I3).trans (B6.trans ((zJ0 (J6.trans I7)).trans h5))))]
 . apply aD c ?_;erw[_,_,_,_,_,f,x,.ref pj,.ref p2,.op "=" (.box x) (.num d1),1,F4,Tj2.mono k4,T2.mono k4,%[eqs,trivial|trivial],(by show 2<=3;decide),λh rv rows H' h1 h2 h3 h4 h5=>q h rv rows H' h1 h2 h3 h4 (S4.trans h5)]
section
variable {X:Cx}
def Dp{st:List Stmt}{h0:ExceptHandler}{hs:List ExceptHandler}{pos:Pos}(hb:PSs X st t)(hx:∀v s,X.xe v s->False:=by exact λ_ _ z=>z):PS X (.Try st (h0::hs) [] [] pos) t:=by
 exists 4,D,I,h;apply wpAny_Try_except (qQ1 (hb M5 s σ H D I h) (λf s1 q=>?_) λv s z=>(hx v s z).elim);cases f with
 |next=>exact jO1 q
 |brk=>exact q
 |cont=>exact q
 |ret v=>exact q
end
section
variable {C CM CA CG:Addr}
def dZ(ns:List Str)(ts:List Tr)(p:Int)(z:Db):TR->Db
 |.claims xs=>cG ns ts p xs z
 |.say xs=>cG ns ts p xs z
 |.coin r=>cZ ns ts p r z
def vE(ns:List Str)(p:Int)(b:Bool)(z:Db):TR->Prop
 |.claims xs=>b=true/\HearOk ns p z xs
 |.say xs=>b=false/\HearOk ns p z xs
 |.coin r=>TossOk ns p z r
def fD(ns:List Str)(ts:List Tr)(p:Int):Bool->Db->List TR->Prop
 |_,_,[]=>True
 |b,z,r::rs=>vE ns p b z r/\fD ns ts p false (dZ ns ts p z r) rs
def qg:∀(rs:List TR)(b:Bool)(z:Db)(k:Nat),fD ns ts p b z rs->fD ns ts p b z (rs.take k)
 | [],_,_,k,_=>by rw[List.take_nil];trivial
 |_::_,_,_,0,_=>trivial
 |r::rs,b,z,k+1,h=>%[h.1|qg rs false _ k h.2]
def ua(k:GmK ns ts p)(n6:ns.length<=6):∀(n:Nat)(t:Tk)(cs:List Int),TkOk ns ts p t->bJ cs p->fD ns ts p false t.z (cU ns ts p rows cs n t).1/\(cU ns ts p rows cs n t).1.foldl (dZ ns ts p) t.z=(cU ns ts p rows cs n t).2.z
 |0,t,cs,h,hc=>%[trivial|1]
 |n+1,t,cs,h,hc=>by
   let p2:=k.p2
   by_cases ch:t.z.aw.1="hear"
   . rw[eR ch];let%[o|_]:=h.ask (rows:=rows) k n6 ch;let%[h1|h2]:=ua k n6 n (t.ask ns ts p rows) cs o hc;erw[%[%[1|h.hear k n6 ch]|h1],h2]
   . by_cases cc:t.z.aw.1="coin"
     . rw [ef cc];obtain⟨r0,r1⟩:0<=cs.headD 0/\cs.headD 0<p:=by
        cases cs with
        |nil=>show(0:Int)<=0/\(0:Int)<p;omega
        |cons c cs=>exact hc c zX0
       let%[o|_]:=h.toss k cc r0 r1;let%[h1|h2]:=ua k n6 n (t.toss ns ts p (cs.headD 0)) cs.tail o (λx hx=>hc x (jK1 hx));erw[%[h.tossOk cc r0 r1|h1],h2]
     . rw[gh ch cc];erw[trivial,1]
def Fl(k:GmK ns ts p)(n6:ns.length<=6)(hc:bJ cs p):fD ns ts p true (Db.new ts) (iB ns ts p rows cs).1/\(iB ns ts p rows cs).1.foldl (dZ ns ts p) (Db.new ts)=(iB ns ts p rows cs).2.z:=by
 let%[_,_,ho|_]:=rF (rows:=rows) k n6;let%[o|_]:=jJ (rows:=rows) k n6;let%[h1|h2]:=ua (rows:=rows) k n6 20 ‹Tk.a› cs o hc;erw[%[%[1|ho]|h1],h2]
def qh:∀(rs:List TR) (b:Bool) (z:Db) (k:Nat),fD ns ts p b z rs->k<rs.length->((rs.take k).foldl (dZ ns ts p) z).aw.1="hear"∨((rs.take k).foldl (dZ ns ts p) z).aw.1="coin"
 | [],_,_,k,_,h=>absurd h (Nat.not_lt_zero _)
 |r::rs,b,z,0,h,_=>by
   show z.aw.1="hear"∨z.aw.1="coin";cases r with
   |claims xs=>exact .inl (by rw[h.1.2.aw])
   |say xs=>exact .inl (by rw[h.1.2.aw])
   |coin r=>exact .inr h.1.aw
 |r::rs,b,z,k+1,h,hk=>qh rs false _ k h.2 (by rw[zR0]at hk;omega)
instance spTell(C CG:Addr):∀(D g:Addr)(v:V)(b:Bool)(z:Db)(r:TR)(ns:List Str)(ts:List Tr)(p:Int),vs=[.ref D,v,.bl b]->DbAt C H D g z->Gm CG H g ns ts p->GmK ns ts p->TRAt H v r->vE ns p b z r->(∀H',SameBut D H H'->DbAt C H' D g (dZ ns ts p z r)->Q .non H'):=1
def FD:FnScope Wr Wr (ao xV):=%[|5]
def FX(F:#["tell",xV])(T:DTxt K mg C)(mH:Meth K C "hear" fH)(GH:#[18,fH,fdH,WC,spHear C CG])(bH:Binds K fdH WC [])(mT:Meth K C "toss" fT)(GT:#[17,fT,fdT,WH,spToss C CG])(bT:Binds K fdT WH []):#[19,f,fd,Wr,spTell C CG]:=by
 exists FD
 erw[D,g,v,b,z,r,ns,ts,p,1,DA,G,k,TA,ok,q]at h;let hr18:Room 18 _:=hr.mono ⋯;let hr17:Room 17 _:=hr.mono ⋯;erw[_,(ae (aJ (ai aR (aN ix_tup (pv 1) af #[1]) aq (ax _)) (ae (aW (bQ (pv 0) T.cl mT GT hr17 bT .nil bn %[aN ix_tup (pv 1) af #[1]|aQ]))) (ae (aJ (ai lH (eJ aR (aN ix_tup (pv 1) af #[1]) aq (ax _)) (pv 2) (ax _)) bO (ae (aW (bQ (pv 0) T.cl mH GH hr18 bH .nil bn %[aN ix_tup (pv 1) af #[1]|aQ]))))))),6];let%[dx,aA,aC,aH,aT|R]:=id DA;cases TA with
 | @claims a a1 xs h1 h2=>
   erw[1,ho]at ok;erw[0,a,_,(0),0,1,zA0 h1,bv (j:=0) rfl,1,0,aD (λz=>absurd (V.str.inj z) ⋯) ?_];erw[0,a,_,(0),0,1,zA0 h1,bv (j:=0) rfl,1,0,1,0,nv rfl ?_];erw[0,D,dx,0,R.hD,wV,0,a,_,(1),0,1,zA0 h1,bv (j:=1) rfl,D,g,a1,z,xs,ns,ts,p,1,DA,G,k,.inr h2,ho.aw,ho.xo,ho.x5,ho.ro,ho.tl,ho.po,λH' S D'=>q H' S D']
 | @say a a1 xs h1 h2=>
   erw[1,ho]at ok;erw[0,a,_,(0),0,1,zA0 h1,bv (j:=0) rfl,1,0,aD (λz=>absurd (V.str.inj z) ⋯) ?_];erw[0,a,_,(0),0,1,zA0 h1,bv (j:=0) rfl,1,0,1,0,nv rfl ?_];erw[0,D,dx,0,R.hD,wV,0,a,_,(1),0,1,zA0 h1,bv (j:=1) rfl,D,g,a1,z,xs,ns,ts,p,1,DA,G,k,.inr h2,ho.aw,ho.xo,ho.x5,ho.ro,ho.tl,ho.po,λH' S D'=>q H' S D']
 | @coin a r h1=>
   erw[0,a,_,(0),0,1,zA0 h1,bv (j:=0) rfl,1,0,aX rfl ?_];erw[0,D,dx,0,R.hD,EK,0,a,_,(1),0,1,zA0 h1,bv (j:=1) rfl,D,g,z,r,ns,ts,p,1,DA,G,k,ok.aw,ok.r0,ok.r1,ok.tl,ok.ro,ok.po,λH' S D'=>q H' S D']
end
section
variable {C CG:Addr}
instance spTellN(C CG:Addr):∀(D g:Addr)(v:V)(n:Int)(z:Db)(r:TR)(ns:List Str)(ts:List Tr)(p:Int),vs=[.ref D,v,.int n]->DbAt C H D g z->Gm CG H g ns ts p->GmK ns ts p->TRAt H v r->vE ns p (decide (V.int n=.int 0)) z r->(∀H',SameBut D H H'->DbAt C H' D g (dZ ns ts p z r)->Q .non H'):=1
def om:FnScope Ws Ws (ao gZ):=%[|5]
def oJ(F:#["tell_numbered",gZ])(Jv:#[19,"tell",Wr,spTell C CG]):#[21,f,fd,Ws,spTellN C CG]:=by
 exists om
 erw[D,g,v,n,z,r,ns,ts,p,1,DA,G,k,TA,ok,q]at h;erw[_,(ae (Dp (ae (aW (am Jv hr ⋯ rfl %[0,1,eJ aR (pv 2) af (ax _)|aQ]))))),6];erw[0,0,0,1,D,g,v,_,z,r,ns,ts,p,1,DA,G,k,TA,ok,λH' S D'=>q H' S D']
def EI(z:Db):List V:=if z.aw.1="hear"∨z.aw.1="coin" then [.str "open"]else awV z.aw
instance spJudged(C CG:Addr):∀(g a:Addr)(tv:List V)(rs:List TR)(ns:List Str)(ts:List Tr)(p:Int),vs=[.ref g,.ref a]->Gm CG H g ns ts p->GmK ns ts p->H a=some (.tup tv)->TRsAt H tv rs->fD ns ts p true (Db.new ts) rs->(∀(e:Addr)(H':Hp),Same H H'->H' e=some (.tup (EI (rs.foldl (dZ ns ts p) (Db.new ts))))->Q (.ref e) H'):=1
def im:FnScope ["game","talk","doubter","number","row","end"] ["game","talk"] (ao qF):=%[|5]
def oh:∀(rs:List TR)(b:Bool)(z:Db)(i:Nat)(r:TR),fD ns ts p b z rs->rs[i]?=some r->vE ns p (if i=0 then b else false) ((rs.take i).foldl (dZ ns ts p) z) r
 | [],_,_,i,_,_,h=>by rw[List.getElem?_nil]at h;cases h
 |r0::rs,b,z,0,r,h,e=>by
   rw[List.getElem?_cons_zero]at e;cases e;exact h.1
 |r0::rs,b,z,i+1,r,h,e=>by
   rw[List.getElem?_cons_succ]at e
   have:=oh rs false _ i r h.2 e
   rw[ite_self]at this;rw[M6 (Nat.succ_ne_zero i)];exact this
def TRsAt.nth:∀{vs:List V}{rs:List TR}{i:Nat}{v:V},TRsAt H vs rs->vs[i]?=some v->∃r,rs[i]?=some r/\TRAt H v r
 | [],[],i,v,_,h=>by rw[List.getElem?_nil]at h;cases h
 |v0::vs,r0::rs,0,v,h,e=>by
   rw[List.getElem?_cons_zero]at e;cases e;erw[r0,1,h.1]
 |v0::vs,r0::rs,i+1,v,h,e=>TRsAt.nth (i:=i) h.2 (by rw[List.getElem?_cons_succ]at e;exact e)
 | [],_::_,_,_,h,_=>h.elim
 |_::_,[],_,_,h,_=>h.elim
def AV(F:#["judged",qF])(B:Bl mg)(T:DTxt K mg C)
 (MD:Mk K C fI)(GD:#[1,fI,fdI,WI,spDInit C CG])(bD:Binds K fdI WI [])
 (mW:Meth K C "waits" fW)(GW:#[1,fW,fdW,WA,spOf C λz v H=>∃a,v=.ref a/\H a=some (.tup (awV z.aw))])(bW:Binds K fdW WA [])
 (M4:#[21,"tell_numbered",Ws,spTellN C CG]):#[23,f,fd,["game","talk"],spJudged C CG]:=by
 exists im
 erw[g,a,tv,rs,ns,ts,p,1,G,k,ha,TR,ok,q]at h;let hr1:Room 1 _:=hr.mono ⋯;let hr2:Room (1+1) _:=hr.mono ⋯;refine⟨_,(aa #[aj,2,im,jH MD GD hr2 rfl T.mgC bD .nil bn %[0|aQ]]
  (aa (cu zF1 rfl (vX rfl B.enumerate (pv 1)) (iN rfl (bX (aU (i:=3) im.nd rfl (.inl rfl)) (bX (aU (i:=4) im.nd rfl (.inl rfl)) gI))) (ae (aW (am M4 hr ⋯ rfl %[2,4,3|aQ]))))
  (aa #[aj,5,im,cx (pv 2) T.cl mW GW hr1 bW .nil bn]
  (aa (aJ (ai eV (aN ix_tup (pv 5) af #[1]) (aM %[aq,aq|aQ]) (by rfl')) (ae (ay (aM %[aq|aQ]))) aB)
  (ae (ay (pv 5))))))),?_⟩
 erw[0,λD dd hD0 hdd0 nD=>?_];let K3:Same H (upd (upd H dd (.own D)) D (.ins C dd [])):=λa o e=>by
  rw[aE (aZ e hD0),aE (aZ e hdd0)];exact e
 let gD:g≠D:=by
  erw[_,_,_,_,%[dg|hg],_]at G;exact aZ hg hD0
 erw[D,g,dd,ns,ts,p,1,aP,G.same K3,gD,λH4 S4 DA4=>%[1|6]];let T4:Same H H4:=Same.but K3 hD0 S4;erw[0,a,1,%[_|zA0 (T4 _ _ ha)],tK (K:=K) (xs:=tv) (λi σ H'=>∃x3 x4:Option V,σ=[some (.ref g),some (.ref a),some (.ref D),x3,x4,none]/\DbAt C H' D g ((rs.take i).foldl (dZ ns ts p) (Db.new ts))/\Same H H') %[_,0,DA4|T4] (λi σ H' _ Na=>by erw[_,_,_,_,h]at Na;exact zA0 (h _ _ ha)) ?_ ?_]
 . rintro i v σ H1 t hz ⟨x3,x4,rfl,D1,S1⟩ ht;let I:=zC0 ht (.tup [.int (i:Int),v]);let%[r,er|TA]:=TR.nth hz;let ok1:=oh rs true _ i r ok er;let S2:=S1.trans I;erw[t,0,zA0 aP,1,_,0,2,6];erw[0,0,0,D,g,v,_,_,r,ns,ts,p,1,D1.same I,G.same S2,k,TA.mono (bh S2),6,λH5 S5 D5=>?_]
   . let e:decide (V.int (i:Int)=.int 0)=(if i=0 then true else false):=by
      by_cases c:i=0
      . subst c;rfl
      . rw[M6 c];exact zD1 λz=>c (by have:=V.int.inj z;omega)
     rw[e];exact ok1
   . erw[_,0,6,λc o e=>S5 _ _ (aZ e hD0) (S2 _ _ e)];rw[qB0,er,List.foldl_append];exact D5
 . rintro σ H1 ⟨x3,x4,rfl,D1,S1⟩;rw[TR.len,zZ0]at D1;let%[dx,aA,aC,aH,aT|R]:=id D1;erw[0,D,dx,0,R.hD,tM,D,g,0,D1,λv hv=>?_];erw[av,1,hav]at hv;erw[0,av,_,(0),0,1,zA0 hav,EX _,y2S,λc1 hc1=>?_];let I1:=zC0 hc1 (.tup [.str "hear",.str "coin"]);erw[c1,0,.inr (zA0 aP),1,1,0,6];generalize upd H1 c1 (.tup [.str "hear",.str "coin"])=H2 at I1;show if inV (.str (rs.foldl (dZ ns ts p) (Db.new ts)).aw.1) [.str "hear",.str "coin"]=true then _ else _
   rw[Hn]
   by_cases ch:(rs.foldl (dZ ns ts p) (Db.new ts)).aw.1="hear"∨(rs.foldl (dZ ns ts p) (Db.new ts)).aw.1="coin"
   . let e:(decide ((rs.foldl (dZ ns ts p) (Db.new ts)).aw.1="hear")||decide ((rs.foldl (dZ ns ts p) (Db.new ts)).aw.1="coin"))=true:=#[ch,0]
     rw[e];apply dU ?_;erw[y1S,λo ho=>?_];apply q o _ (S1.trans (I1.trans (zC0 ho _))) ?_;rw[EI,M8 ch];exact aP
   . let e:(decide ((rs.foldl (dZ ns ts p) (Db.new ts)).aw.1="hear")||decide ((rs.foldl (dZ ns ts p) (Db.new ts)).aw.1="coin"))=false:=#[ch,0]
     rw[e];apply cM ?_;erw[0,q av _ (S1.trans I1) ?_];rw[EI,M6 ch];exact I1 _ _ hav
end
def TR.ints:TR->List Int
 |.claims xs=>xs
 |.say xs=>xs
 |.coin r=>[r]
def TR.word:TR->Str
 |.claims _=>"claims"
 |.say _=>"say"
 |.coin _=>"coin"
def TR.ok(r:TR):Prop:=1<=r.ints.length/\r.ints.length<=500/\∀n∈r.ints,0<=n/\n<1000000
def TR.parts(r:TR):List Str:=r.word::r.ints.map cR
def SPA:Str:=%[|#[32]]
def Hh:(" ":Str)=SPA:=by decide
def TR.text(r:TR):Str:=Str.join SPA r.parts
def mx(rs:List TR):Str:=Str.join NL (rs.map TR.text)
def pZ(r:TR):(∀c∈cd r.word,97<=c/\c<=122)/\r.word.length<=6/\1<=r.word.length:=by
 let e:r.word="coin"∨r.word="claims"∨r.word="say":=by cases r <;> simp [TR.word]
 rcases e with e | e | e <;> rw[e] <;> decide
def rD{n:Int}(h0:0<=n)(h1:n<1000000):(cR n).length<=6:=jW0 h0 ⋯ (by show n<10 ^ 6;omega)
def kK{r:TR}(h:r.ok):∀p∈r.parts,(∀c∈cd p,48<=c)/\p.length<=6:=by
 intro p hp;rcases Nf hp with e | e
 . rw [e]
   have:=pZ r
   erw[λc hc=>by have:=this.1 c hc;omega,this.2.1]
 . let%[n,hn|1]:=List.mem_map.mp e;let b:=h.2.2 n hn;erw[λc hc=>(iG b.1 c hc).1,rD b.1 b.2]
def Ef{x:Nat}:∀{l:List (List Nat)},x∈jn c l->x=c∨∃a∈l,x∈a
 | [],h=>by cases h
 | [a],h=>.inr %[a,zX0|h]
 |a::b::r,h=>by
   rcases qH0 (show x∈a++c::jn c (b::r)from h)with h | h
   . exact .inr %[a,zX0|h]
   . rcases Nf h with h | h
     . exact .inl h
     . rcases Ef h with h | ⟨d,hd,h⟩
       . exact .inl h
       . exact .inr %[d,qK0 _ hd|h]
def vY{r:TR}(h:r.ok):Txt.split r.text SPA=r.parts:=lR (c:=32) (wB1 _ _) λp hp hc=>by
 have:=(kK h p hp).1 32 hc
 omega
def xF{rs:List TR}(h:∀r∈rs,r.ok)(h0:rs≠[]):Txt.split (mx rs) NL=rs.map TR.text:=lR (c:=10) (λz=>h0 (List.map_eq_nil_iff.mp z)) λp hp hc=>by
 let%[r,hr|1]:=List.mem_map.mp hp;unfold TR.text SPA at hc;rw[lC]at hc;rcases Ef hc with e | ⟨a,ha,e⟩
 . cases e
 . let%[p,hp|1]:=List.mem_map.mp ha
   have:=(kK (h r hr) p hp).1 10 e
   omega
def lq(r:TR):r.parts.length=r.ints.length+1:=by unfold TR.parts;simp
def sZ{r:TR}(h:r.ok):(r.parts.map (·.length)).sum<=3006:=by
 have:=uc λp hp=>(kK h p hp).2
 let l:=lq r
 have:=h.2.1
 omega
def vH{r:TR}(h:r.ok):r.text.length<=3600:=by
 have:=StrLaws.join_length_le SPA r.parts
 rw[show SPA.length=1 from rfl,Nat.mul_one]at this;let s:=sZ h;let l:=lq r
 have:=h.2.1
 unfold TR.text;omega
def sT{rs:List TR}(h:∀r∈rs,r.ok):((rs.map TR.text).map (·.length)).sum<=rs.length*3600:=by
 have:=uc (l:=rs.map TR.text) (b:=3600) λp hp=>by
  let%[r,hr|1]:=List.mem_map.mp hp;exact vH (h r hr)
 rw[zF0]at this;exact this
def Cq{rs:List TR}(h:∀r∈rs,r.ok)(hl:rs.length<=25):(mx rs).length<=100000:=by
 have:=StrLaws.join_length_le NL (rs.map TR.text)
 rw[show NL.length=1 from rfl,Nat.mul_one]at this;let s:=sT h;rw[zF0]at this;unfold mx;omega
def Ah{r:TR}{rs:List TR}(h:r.ok):mx (r::rs)≠"":=λe=>by
 let e1:cd (mx (r::rs))=[]:=by rw[e];decide
 let w:=(pZ r).2.2;let hw:cd r.word≠[]:=λz=>by
  have:(cd r.word).length=r.word.length:=rfl
  rw[z]at this
  simp at this
  omega
 let ht:cd r.text≠[]:=λz=>by
  unfold TR.text SPA TR.parts at z;rw[lC]at z;cases hp:r.ints with
  |nil=>have:=h.1;rw[hp]at this;simp at this
  |cons a l=>
    rw[hp]at z
    have:cd r.word++32::jn 32 (((a::l).map cR).map cd)=[]:=z
    simp at this
 unfold mx NL at e1;rw[lC]at e1;cases rs with
 |nil=>exact ht e1
 |cons a l=>
   have:cd r.text++10::jn 10 (((a::l).map TR.text).map cd)=[]:=e1
   simp at this
def Bn{n:Int}(h0:0<=n)(h1:n<1000000):n.natAbs.log2<1920:=by
 let h2:n.natAbs<2 ^ 40:=#[0]
 by_cases c:n.natAbs=0
 . rw[c];decide
 . have:=(Nat.log2_lt c).mpr h2
   omega
def Cy(h:∀c∈cd x,c<1000):PyData.strOk x=true:=by
 unfold PyData.strOk;rw[←Array.all_toList,wA1];intro c hc
 have:=h c hc
 exact zC1 #[0]
def BV:bootBuiltins "str"=some (.type "str"):=by decide
instance spRowT:∀(v:V)(r:TR),vs=[v]->TRAt H v r->r.ok->(∀H',Same H H'->Q (.str r.text) H'):=1
instance tRowT(D:Ends)(σ:St)(H:Hp):∀(a b:Addr)(y:V)(r:TR),σ=[some (.ref a),some (.ref b)]->H a=some (.tup [.str r.word,y])->H b=some (.tup (r.ints.map V.int))->r.ok->(∀H',Same H H'->D.rt (.str r.text) H'):=0
def u6:FnScope ["row","values"] ["row"] (ao lV):=%[|5]
def wg(F:#["row_text",lV])(B:Bl mg):#[1,f,fd,["row"],spRowT]:=by
 exists u6
 erw[v,r,1,T,ok,q]at h;refine⟨_,(aa #[aj,1,u6,ng (ai aR (aN ix_tup (pv 0) af #[1]) aq (ax _)) (aM %[aN ix_tup (pv 0) af #[1]|aQ]) (aN ix_tup (pv 0) af #[1])]
  (cK (t':=tRowT) (ae (ay (dC zV1 jZ0 jZ1 vi aq (ag (au mi (cS %[aN ix_tup (pv 0) af #[1]|aQ]) (cw (N:=[]) (ix:=[]) (cl:=[]) rfl
   #[5] rfl (eF (pv 1)) (λ_ _ _=>cF (bd vA rfl B.str BV %[0|aQ])))) aQ)))) (by
   rintro D σ H ⟨a,b,y,r,rfl,ga,gb,ok,q⟩;erw[1,0,a,_,(0),0,1,zA0 ga,1,y1S,λl hl=>?_];let G1:=zC0 hl (.lst [.str r.word]);let gl:upd H l (.lst [.str r.word]) l=some (.lst [.str r.word]):=aP;generalize upd H l (.lst [.str r.word])=H2 at G1 gl;let gb2:=G1 _ _ gb;erw[0,b,1,%[_|zA0 gb2],λD hD=>?_];apply dJ (K:=K) (xs:=r.ints.map V.int) (λi H'=>H' D=some (.lst (((r.ints.take i).map cR).map V.str))/\Same H2 H') %[by rw[aP];rfl|zC0 hD _] (λi H' _ h=>zA0 (h.2 _ _ gb2)) ?_ ?_
   . rintro i z H3 hz ⟨hD3,S3⟩;let hi:=(zY0 hz).1;rw[zW0]at hz;let%[m,hm|1]:=qQ0 hz;let bm:=ok.2.2 m (qD0 hm);erw[0,m,1,Bn bm.1 bm.2,6];refine⟨_,hD3,?_,Nx.of hi ⟨?_,λb o e=>?_⟩⟩
     . rw[zF0,zF0,qF0];exact aO (by have:=ok.2.1;omega)
     . rw[aP,qB0,hm,zK0,zK0];rfl
     . rw[aE (aZ e hD)];exact S3 _ _ e
   rintro H3 ⟨hD3,S3⟩;rw[zF0,zZ0]at hD3;let gl3:=S3 _ _ gl;erw[l,D,2,gl3,hD3,6,λo ho=>?_]
   . rw[zF0,zF0];exact cH (by have:=ok.2.1;show 1+r.ints.length<=1000;omega)
   let G4:=zC0 ho (.lst ([.str r.word]++(r.ints.map cR).map V.str));let s1:=sZ ok;let s2:=lq r;let s3:=ok.2.1;erw[_,o,r.parts,1,1,zG0 (by rw[aP];rfl),4,3,6];rw[Hh,vo];exact q _ (G1.trans (S3.trans G4))))),?_⟩
 let sk:∀w:Str,w="claims"∨w="say" -> ¬ V.str w=V.str "coin":=λw e=>by rcases e with z | z <;> rw[z] <;> decide
 cases T with
 | @coin a n e=>
   erw[0,a,_,(0),0,1,zA0 e,1,1,0,aX rfl ?_];erw[0,a,_,(1),0,1,zA0 e,1,y1S,λb hb=>?_];let G:=zC0 hb (.tup [.int n]);erw[a,b,.int n,.coin n,1,G _ _ e,aP,ok,λH' S=>q _ (G.trans S)]
 | @claims a b xs e e2=>
   erw[0,a,_,(0),0,1,zA0 e,1,1,0,aD (sk _ (.inl rfl)) ?_];erw[0,a,_,(1),0,1,zA0 e,1,a,b,.ref b,.claims xs,1,e,e2,ok,q]
 | @say a b xs e e2=>
   erw[0,a,_,(0),0,1,zA0 e,1,1,0,aD (sk _ (.inr rfl)) ?_];erw[0,a,_,(1),0,1,zA0 e,1,a,b,.ref b,.say xs,1,e,e2,ok,q]
instance spTalkT:∀(a:Addr)(tv:List V)(rs:List TR),vs=[.ref a]->H a=some (.tup tv)->TRsAt H tv rs->(∀r∈rs,r.ok)->rs.length<=25->(∀H',Same H H'->Q (.str (mx rs)) H'):=1
def ui:FnScope ["talk"] ["talk"] (ao kq):=%[|5]
def uS(F:#["talk_text",kq])(mD:#[1,"row_text",["row"],spRowT]):#[2,f,fd,["talk"],spTalkT]:=by
 exists ui
 erw[a,vs,rs,1,ha,R,ok,hl,q]at h;refine⟨_,(ae (ay (dC zV1 jZ0 jZ1 vi aq (ag (cw (N:=[]) (ix:=[]) (cl:=[]) rfl
  #[5] rfl (eF (pv 0)) (λ_ _ _=>cF (am mD hr ⋯ rfl %[0|aQ]))) aQ)))),?_⟩
 let vl:=R.len;erw[1,0,a,1,%[_|zA0 ha],λD hD=>?_];apply dJ (K:=K) (xs:=vs) (λi H'=>H' D=some (.lst (((rs.take i).map TR.text).map V.str))/\Same H H') %[by rw[aP];rfl|zC0 hD _] (λi H' _ h=>zA0 (h.2 _ _ ha)) ?_ ?_
 . rintro i z H3 hz ⟨hD3,S3⟩;let hi:=(zY0 hz).1;let%[r,hr'|ra]:=R.nth hz;erw[0,z,r,1,ra.mono (bh S3),ok r (qD0 hr'),λH4 S4=>?_];erw[_,S4 _ _ hD3,6,Nx.of hi %[6|λb o e=>?_]]
   . rw[zF0,zF0,qF0];exact aO #[0]
   . rw[aP,qB0,hr',zK0,zK0];rfl
   . rw[aE (aZ e hD)];exact S4 _ _ (S3 _ _ e)
 rintro H3 ⟨hD3,S3⟩;rw[vl,zZ0]at hD3;let s1:=sT ok;erw[_,D,rs.map TR.text,1,1,zG0 hD3,⋯,6,6]
 . rw[zF0];omega
 rw[DX,vo];exact q _ S3
instance spTalkR:∀(r:TR)(k:Int),vs=[.str r.text,.int k]->r.ok->(∀v H',Same H H'->TRAt H' v r->Q v H'):=1
def IR(ss:List Str):PyData.eqv (.list (ss.map PyData.str)) (.list [])=decide (ss=[]):=by
 cases ss <;> simp [PyData.eqv,PyData.eqvAll]
def Dk{K:W.Frag}:∀ss:List Str,RepAll K H (ss.map V.str) (ss.map PyData.str)
 | []=>.nil
 |n::r=>.cons (.str n) (Dk r)
def zm:∀{ss:List Str},(∀x∈ss,∀c∈cd x,c<1000)->PyData.canLayAll0 (ss.map PyData.str)=true/\PyData.depthAll (ss.map PyData.str)<=1
 | [],_=>by simp [PyData.canLayAll0,PyData.depthAll]
 |r::rs,h=>by
   let h1:=Cy (h r zX0);let h2:=zm λx hx=>h x (qK0 _ hx)
   simp only[qC0,PyData.canLayAll0,PyData.depthAll,h2.1,PyData.canLay0,PyData.depth,h1];erw[1,3]
def sV{ss:List Str}(hs:∀x∈ss,∀c∈cd x,c<1000):SeqAt.shaped (.list (ss.map PyData.str))=true:=by
 let h:=zm hs;unfold SeqAt.shaped;rw[PyData.canLay0,h.1,wY1,jJ0];show PyData.depthAll _+1<=64;omega
def ET{xs:List V}{k:Nat}(hk:k<=xs.length):jf xs (some (k:Int)) none=xs.drop k:=by
 unfold jf;rw[HT.sIx_none,HT.sIx_nat,Nat.min_eq_left hk];exact List.take_of_length_le (by rw[jL0];exact zH0 _)
def fV:FnScope ["text","number","words","word","figures","values"] WW (ao lU):=%[|5]
def we(F:#["talk_row",lU])(B:Bl mg)(bq:#[1,"is_figures",WD,spTxt kQ]):#[2,f,fd,WW,spTalkR]:=by
 exists fV
 erw[r,k,1,ok,q]at h;refine⟨_,(aa #[aj,2,fV,dC zV1 jU0 jU1 rH (pv 0) %[aq|aQ]]
  (aa #[aj,3,fV,aN ix_list (pv 2) af #[1]]
  (aa #[aj,4,fV,fg zq (pv 2) (fe af) jG]
  (aa (aJ (PW.pt (eC (ai (rh hr.units) (pv 4) (cS aQ) (ax _)) (dM (gy (eD (aI (nZ rfl) rfl B.all jH1 (ag (cw (N:=[]) (ix:=[]) (cl:=[]) rfl
   #[5] rfl (dR (pv 4)) (λ_ _ _=>cF (am bq hr ⋯ rfl %[0|aQ]))) aQ))))))) (ae vV) aB)
  (aa (aj (i:=5) fV.nd rfl (.inl rfl) (bd bj rfl B.tuple bw (ag (cw (N:=[]) (ix:=[]) (cl:=[]) rfl
   #[5] rfl (dR (pv 4)) (λ_ _ _=>cF (bd iP rfl B.int gG %[0|aQ]))) aQ)))
  (aa (aJ (PW.pt (eC (ai aR (pv 3) aq (ax _)) (dM (ai aR (pv 3) aq (ax _))))) (ae (ay (aM %[3,5|aQ]))) aB)
  (aa (aJ (PW.pt (eC (ai lH (pv 3) aq (ax _)) (dM (ai iy (aI aG rfl B.len zB1 %[5|aQ]) af (ax _))))) (ae vV) aB)
  (ae (ay (aM %[3,aN ix_tup (pv 5) af #[1]|aQ])))))))))),?_⟩
 let tl:=vH ok;let pl:=lq r;let ps:=vY ok;let o5:=ok.2.1;rw[←Hh]at ps;erw[0,1,2,⋯,3,by rw[ps];omega,λa ha=>?_];rw[ps];let Ga:=zC0 ha (.lst (r.parts.map V.str));let ga:upd H a (.lst (r.parts.map V.str)) a=some (.lst (r.parts.map V.str)):=aP;generalize upd H a (.lst (r.parts.map V.str))=H1 at Ga ga;erw[0,a,_,(0),.str r.word,1,1,zG0 ga,bv (j:=0) (by show((r.word::r.ints.map cR).map V.str)[0]?=_;simp),6];erw[0,(1),1,a,0,zG0 ga,λb hb=>?_];let ec:jf (r.parts.map V.str) (some 1) none=(r.ints.map cR).map V.str:=ET (k:=1) (by rw[zF0];omega);rw[ec];let Gb:=zC0 hb (.lst ((r.ints.map cR).map V.str));let gb:upd H1 b (.lst ((r.ints.map cR).map V.str)) b=some (.lst ((r.ints.map cR).map V.str)):=aP;generalize upd H1 b (.lst ((r.ints.map cR).map V.str))=H2 at Gb gb;erw[0,zP0 _,λe he=>?_];let Ge:=zC0 he (.lst []);let ge:upd H2 e (.lst []) e=some (.lst []):=aP;generalize upd H2 e (.lst [])=H3 at Ge ge;let gb3:=Ge _ _ gb;refine⟨_,_,.lst (zG0 gb3) (Dk _),.lst (zG0 ge) .nil,sV (λx hx c hc=>by
  let%[m,hm|1]:=List.mem_map.mp hx
  have:=(iG (ok.2.2 m hm).1 c hc).2
  omega),sV (ss:=[]) (λx hx=>by cases hx),_,rfl,?_⟩
 rw[IR,zD1 (λz=>by let h1:=ok.1;rw[List.map_eq_nil_iff.mp z]at h1;exact absurd h1 ⋯)];apply cM ?_;erw[0,b,1,%[_|zG0 gb3],λD hD=>?_];apply ik (K:=K) (xs:=(r.ints.map cR).map V.str) (λi H'=>H' D=some (.lst ((List.replicate i true).map V.bl))/\Same H3 H') %[by rw[aP];rfl|zC0 hD _] (λi H' _ h=>zG0 (h.2 _ _ gb3)) ?_ ?_
 . rintro i z H4 hz ⟨hD4,S4⟩;let hi:=(zY0 hz).1;rw[zW0]at hz;let%[x,hx|1]:=qQ0 hz;let%[m,hm|1]:=List.mem_map.mp (qD0 hx);let bm:=ok.2.2 m hm;let ml:=rD bm.1 bm.2;erw[0,cR m,1,3,λH5 S5=>?_];rw[vf bm.1 #[0]];erw[_,S5 _ _ hD4,6,Nx.of hi %[6|λb o e=>?_]]
   . rw[zF0,zY1];rw[zF0,zF0]at hi;exact aO #[0]
   . rw[aP,List.replicate_succ',zK0];rfl
   . rw[aE (aZ e hD)];exact S5 _ _ (S4 _ _ e)
 rintro H4 ⟨hD4,S4⟩;erw[D,0,zG0 hD4,0,6];rw[show(List.replicate ((r.ints.map cR).map V.str).length true).all id=true from by simp];apply cM ?_;let gb4:=S4 _ _ gb3;erw[0,b,1,%[_|zG0 gb4],λD2 hD2=>?_];apply ik (K:=K) (xs:=(r.ints.map cR).map V.str) (λi H'=>H' D2=some (.lst ((r.ints.take i).map V.int))/\Same H4 H') %[by rw[aP];rfl|zC0 hD2 _] (λi H' _ h=>zG0 (h.2 _ _ gb4)) ?_ ?_
 . rintro i z H5 hz ⟨hD5,S5⟩;let hi:=(zY0 hz).1;rw[zW0,zW0,Option.map_map]at hz;let%[m,hm|1]:=qQ0 hz;let bm:=ok.2.2 m (qD0 hm);let ml:=rD bm.1 bm.2;erw[0,cR m,m,1,ve bm.1 #[0],3,6];erw[_,hD5,6,Nx.of hi %[6|λb o e=>?_]]
   . rw[zF0,qF0];exact aO #[0]
   . rw[aP,qB0,hm,zK0];rfl
   . rw[aE (aZ e hD2)];exact S5 _ _ e
 rintro H5 ⟨hD5,S5⟩;rw[zF0,zF0,zZ0]at hD5;erw[D2,0,.inl %[zG0 hD5|λt ht=>?_]];let Gt:=zC0 ht (.tup (r.ints.map V.int));let gt:upd H5 t (.tup (r.ints.map V.int)) t=some (.tup (r.ints.map V.int)):=aP;generalize upd H5 t (.tup (r.ints.map V.int))=H6 at Gt gt;let S06:Same H H6:=Ga.trans (Gb.trans (Ge.trans (S4.trans (S5.trans Gt))));cases r with
 |coin n=>
   erw[0,1,0,6];apply aD (by show ¬ V.str "coin"=V.str "claims";decide) ?_;erw[0,1,0,6];apply aD (by show ¬ V.str "coin"=V.str "say";decide) ?_;erw[0,1,0,6];apply nv rfl ?_;erw[0,t,0,.inr (zA0 gt),2,0,6];apply aD (by show ¬ (1:Int)<1;decide) ?_;erw[0,0,t,_,(0),.int n,1,1,zA0 gt,1,y2S,λo ho=>?_];exact q _ _ (S06.trans (zC0 ho _)) (.coin aP)
 |claims ns=>
   erw[0,1,0,aX rfl (dU %[0,0,y2S|λo ho=>q _ _ (S06.trans (zC0 ho _)) (.claims aP (zC0 ho _ _ _ gt))])]
 |say ns=>
   erw[0,1,0,aD (by show ¬ V.str "say"=V.str "claims";decide) %[0,1,0|aX rfl %[0,0,y2S|λo ho=>q _ _ (S06.trans (zC0 ho _)) (.say aP (zC0 ho _ _ _ gt))]]]
instance spTalkRd:∀(rs:List TR),vs=[.str (mx rs)]->rs≠[]->(∀r∈rs,r.ok)->rs.length<=25->(∀(t:Addr)(tv:List V)(H':Hp),Same H H'->H' t=some (.tup tv)->TRsAt H' tv rs->Q (.ref t) H'):=1
def gP:FnScope ["text","talk","number","row"] WD (ao ku):=%[|5]
def uT(F:#["read_talk",ku])(B:Bl mg)(mI:#[2,"talk_row",WW,spTalkR]):#[3,f,fd,WD,spTalkRd]:=by
 exists gP
 erw[rs,1,c0,ok,hl,q]at h;refine⟨_,(aa (aJ (ai aR (pv 0) aq (ax _)) (ae (ay (aM aQ))) aB)
  (aa #[aj,1,gP,cS aQ]
  (aa (cu zF1 rfl (zy rfl B.enumerate (dC zV1 jU0 jU1 rH (pv 0) %[aq|aQ])) (iN rfl (bX (aU (i:=2) gP.nd rfl (.inl rfl)) (bX (aU (i:=3) gP.nd rfl (.inl rfl)) gI))) (ae (aW (dC zE1 zH1 zI1 cf (pv 1) %[am mI hr ⋯ rfl %[3,2|aQ]|aQ]))))
  (ae (ay (bd bj rfl B.tuple bw %[1|aQ])))))),?_⟩
 let tl:=Cq ok hl;erw[0,1,0,aD (λz=>?_) ?_]
 . cases rs with
   |nil=>exact c0 rfl
   |cons r rs=>exact Ah (ok r zX0) (V.str.inj z)
 erw[zP0 _,λL hL=>?_];let GL:=zC0 hL (.lst []);let gL:upd H L (.lst []) L=some (.lst []):=aP;generalize upd H L (.lst [])=H1 at GL gL;let ts:=xF ok c0;rw[←DX]at ts;erw[0,1,2,⋯,3,by rw[ts,zF0];omega,λa ha=>?_];rw[ts];let Ga:=zC0 ha (.lst ((rs.map TR.text).map V.str));let ga:upd H1 a (.lst ((rs.map TR.text).map V.str)) a=some (.lst ((rs.map TR.text).map V.str)):=aP;let aL:a≠L:=λz=>by rw[z,gL]at ha;cases ha
 generalize upd H1 a (.lst ((rs.map TR.text).map V.str))=H2 at Ga ga;let gL2:=Ga _ _ gL;refine⟨a,rfl,%[_|zG0 ga],wP (K:=K) (xs:=(rs.map TR.text).map V.str) (λi σ H'=>∃(x2 x3:Option V)(vs:List V),σ=[some (.str (mx rs)),some (.ref L),x2,x3]/\H' L=some (.lst vs)/\TRsAt H' vs (rs.take i)/\SameBut L H2 H')
  %[_,_,[],1,gL2,trivial|SameBut.refl _ _] (λi σ H' _ Na=>by erw[_,_,_,_,_,_,h]at Na;exact zG0 (h _ _ aL ga)) ?_ ?_⟩
 . rintro i z σ H3 t hz ⟨x2,x3,vs,rfl,hL3,R3,S3⟩ ht;rw[zW0,zW0,Option.map_map]at hz;let%[r,hr'|1]:=qQ0 hz;let Gt:=zC0 ht (.tup [.int (i:Int),.str r.text]);let vl:=R3.len;rw[qF0]at vl;erw[t,0,zA0 aP,1,_,0,2,6];erw[0,.inl %[1,_|zG0 (Gt _ _ hL3)],0,0,r,0,ok r (qD0 hr'),λv H4 S4 ra=>?_];let S34:Same H3 H4:=Gt.trans S4;let kp:bZ H4 (upd H4 L (.lst (vs++[v]))):=λa xs e=>by
    rw[aE]
    . exact e
    . intro z;rw[z,S34 _ _ hL3]at e;cases e
   erw[L,2,S34 _ _ hL3,aO #[0],6];erw[_,_,vs++[v],1,aP,6,6]
   . rw[qB0,hr'];exact TRsAt.snoc (ra.mono kp) ((R3.mono (bh S34)).mono kp)
   . exact S3.trans ((zJ0 S34).trans (SameBut.upd _))
 . rintro σ H3 ⟨x2,x3,vs,rfl,hL3,R3,S3⟩;rw[zF0,zF0,zZ0]at R3;erw[0,L,0,.inl %[zG0 hL3|λt ht=>?_]];let S03:Same H H3:=λb o e=>S3 b o (aZ e hL) (Ga _ _ (GL _ _ e))
   exact q _ vs _ (S03.trans (zC0 ht _)) aP (R3.mono (bh (zC0 ht _)))
section
variable {C CG:Addr}
instance spAhead(C:Addr):∀(g:Addr)(ns:List Str)(ts:List Tr)(p:Int),vs=[.ref g]->Gm C H g ns ts p->GmK ns ts p->(∀H',Same H H'->Q (.int (jX ns ts)) H'):=1
def oo:FnScope ["game","rows"] WF (ao jr):=%[|5]
def vL(xs:List Int):(xs.map λx=>x+1).sum=xs.sum+(xs.length:Int):=by
 induction xs with
 |nil=>rfl
 |cons a r ih=>
   rw[qC0,zP1,zP1,zR0,ih];omega
def EO(k:GmK ns ts p):0<=(ns.map (aV ts)).sum/\(ns.map (aV ts)).sum<=4000:=by
 have:∀l:List Str,0<=(l.map (aV ts)).sum/\(l.map (aV ts)).sum<=400*(l.length:Int):=λl=>by
  induction l with
  |nil=>erw[zT1 _,zT1 _]
  |cons a r ih=>
    have:=iJ k a
    rw[qC0,zP1,zR0];omega
 have:=this ns
 have:=k.n10
 omega
def sD(F:#["told_ahead",jr])(B:Bl mg)(T:GTxt K mg CG)(mC:Meth K CG "coins" fC)(GC:#[1,fC,fdC,WA,spCoins CG])(bC:Binds K fdC WA [])(e6:#[13,"all_sizes",WF,spAllSz CG]):#[14,f,fd,WF,spAhead CG]:=by
 exists oo
 erw[g,ns,ts,p,1,G,k,q]at h;let hr1:Room 1 _:=hr.mono ⋯;refine⟨_,(aa (aj (i:=1) oo.nd rfl (.inl rfl) (aI (nV rfl) rfl B.sum jH0 (ag (cw (N:=[]) (ix:=[]) (cl:=[]) rfl #[5] rfl
  (dR (aF (pv 0) rfl)) (λ_ _ _=>cF (au aS (pv 0) af))) aQ)))
  (ae (ay (au aS (au aS (au aS (aI aG rfl B.len zB1 %[aF (pv 0) rfl|aQ]) (cx (pv 0) T.cl mC GC hr1 bC .nil bn)) (pv 1)) (am e6 hr ⋯ rfl %[0|aQ]))))),?_⟩
 let%[a,b,d,tv,%[dx|hg],ha,hb,TS|hd]:=id G;let vl:=TS.length;let n10:=k.n10;erw[0,g,CG,dx,_,0,hg,9,T.nD,zI ..,d,1,%[_|zG0 hd],λD hD=>?_];apply ik (K:=K) (xs:=(ns.map (aV ts)).map V.int) (λi H'=>H' D=some (.lst ((((ns.map (aV ts)).take i).map λx=>x+1).map V.int))/\Same H H') %[by rw[aP];rfl|zC0 hD _] (λi H' _ h=>zG0 (h.2 _ _ hd)) ?_ ?_
 . rintro i v H2 hv ⟨hl,S2⟩;let hi:=(zY0 hv).1;let hi':=hi;rw[zF0,zF0]at hi';rw[zW0]at hv;let%[n,hn|1]:=qQ0 hv;erw[0,2,6];erw[_,hl,6,Nx.of hi %[6|λb o e=>?_]]
   . rw[zF0,zF0,qF0];exact aO #[0]
   . rw[aP,qB0,hn,zK0,zK0];rfl
   . rw[aE (aZ e hD)];exact S2 _ _ e
 rintro H2 ⟨hl,S2⟩;rw[zF0,zZ0]at hl;let ds:=EO k;erw[D,0,zG0 hl,6,6,6]
 . intro n hn;let%[x,hx|1]:=List.mem_map.mp hn;let%[y,hy|1]:=List.mem_map.mp hx
   have:=iJ k y
   omega
 . rw[vL,zF0];omega
 rw[vL,zF0];let G2:=G.same S2;erw[0,g,CG,dx,_,0,S2 _ _ hg,9,T.nT,lK ..,b,0,.inr (zA0 (S2 _ _ hb)),0,g,dx,0,S2 _ _ hg,tJ _ _ _ _ ⋯ ⋯ ⋯ ⋯,g,a,b,d,ns,tv,p,1,%[dx|S2 _ _ hg],S2 _ _ ha,S2 _ _ hb,6];erw[2,0,2,0,g,ns,ts,p,1,G2,k,λH3 S3=>?_];erw[2,6]
 have:=q H3 (S2.trans S3)
 unfold jX at this;rw[vl];exact this
def yq(F:#["looked","Doubter.looked",oA])(T:DTxt K mg C)(sc:FnScope WA WA (ao oA):=by erw[1,1,1,4,1,4,4]):#[1,f,fd,WA,spOf C λz v _=>v=.int z.pl]:=by
 exists sc
 erw[D,g,z,1,%[dx,aA,aC,aH,aT|R],q]at h;erw[_,(ae (ay (aF (pv 0) rfl))),6];erw[0,D,C,dx,_,0,R.hD,9,T.nP,zO,q _ rfl]
end
section
variable {C CM CA CG:Addr}
instance spPlaces(CG:Addr):∀(g a:Addr)(tv:List V)(rs:List TR)(ns:List Str)(ts:List Tr)(p:Int),vs=[.ref g,.ref a]->Gm CG H g ns ts p->GmK ns ts p->H a=some (.tup tv)->TRsAt H tv rs->fD ns ts p true (Db.new ts) rs->(∀H':Hp,Same H H'->Q (.int (rs.foldl (dZ ns ts p) (Db.new ts)).pl) H'):=1
def ic:FnScope ["_law_game_here","_law_talk","_law_doubter","_law_kind","_law_thing"] VA (ao lY):=%[|5]
def wn(F:#["_law_places",lY])(B:Bl mg)(T:DTxt K mg C)
 (MD:Mk K C fI)(GD:#[1,fI,fdI,WI,spDInit C CG])(bD:Binds K fdI WI [])
 (mL:Meth K C "looked" fL)(GL:#[1,fL,fdL,WA,spOf C λz v _=>v=.int z.pl])(bL:Binds K fdL WA [])
 (mH:Meth K C "hear" fH)(GH:#[18,fH,fdH,WC,spHear C CG])(bH:Binds K fdH WC [])(mT:Meth K C "toss" fT)(GT:#[17,fT,fdT,WH,spToss C CG])(bT:Binds K fdT WH []):#[19,f,fd,VA,spPlaces CG]:=by
 exists ic
 erw[g,a,tv,rs,ns,ts,p,1,G,k,ha,TR,ok,q]at h;let hr1:Room 1 _:=hr.mono ⋯;let hr2:Room (1+1) _:=hr.mono ⋯;let hr18:Room 18 _:=hr.mono ⋯;let hr17:Room 17 _:=hr.mono ⋯;refine⟨_,(aa #[aj,2,ic,jH MD GD hr2 rfl T.mgC bD .nil bn %[0|aQ]]
  (aa (cu zF1 rfl (eF (pv 1)) (iN rfl (bX (aU (i:=3) ic.nd rfl (.inl rfl)) (bX (aU (i:=4) ic.nd rfl (.inl rfl)) gI))) (ae (aJ (ai aR (pv 3) aq (ax _)) (ae (aW (bQ (pv 2) T.cl mT GT hr17 bT .nil bn %[4|aQ]))) (ae (aW (bQ (pv 2) T.cl mH GH hr18 bH .nil bn %[bd fq rfl B.list gC %[4|aQ]|aQ]))))))
  (ae (ay (cx (pv 2) T.cl mL GL hr1 bL .nil bn))))),?_⟩
 erw[0,λD dd hD0 hdd0 nD=>?_];let K3:Same H (upd (upd H dd (.own D)) D (.ins C dd [])):=λa o e=>by
  rw[aE (aZ e hD0),aE (aZ e hdd0)];exact e
 let gD:g≠D:=by
  erw[_,_,_,_,%[dg|hg],_]at G;exact aZ hg hD0
 erw[D,g,dd,ns,ts,p,1,aP,G.same K3,gD,λH4 S4 DA4=>%[1|6]];let T4:Same H H4:=Same.but K3 hD0 S4;erw[0,a,1,%[_|zA0 (T4 _ _ ha)],nK (K:=K) (xs:=tv) (λi σ H'=>∃x3 x4:Option V,σ=[some (.ref g),some (.ref a),some (.ref D),x3,x4]/\DbAt C H' D g ((rs.take i).foldl (dZ ns ts p) (Db.new ts))/\Same H H') %[_,0,DA4|T4] (λi σ H' _ Na=>by erw[_,_,_,_,h]at Na;exact zA0 (h _ _ ha)) ?_ ?_]
 . rintro i v σ H1 hz ⟨x3,x4,rfl,D1,S1⟩;let%[r,er|TA]:=TR.nth hz;let ok1:=oh rs true _ i r ok er;let TA1:=TA.mono (bh S1);let G1:=G.same S1;let%[dx,aA,aC,aH,aT|R]:=id D1;let fin:∀H5:Hp,(∀c o,c≠D->H1 c=some o->H5 c=some o)->DbAt C H5 D g (dZ ns ts p ((rs.take i).foldl (dZ ns ts p) (Db.new ts)) r)->DbAt C H5 D g ((rs.take (i+1)).foldl (dZ ns ts p) (Db.new ts))/\Same H H5:=λH5 S5 D5=>by
    erw[6,λc o e=>S5 _ _ (aZ e hD0) (S1 _ _ e)];rw[qB0,er,List.foldl_append];exact D5
   cases TA1 with
   | @claims c b xs h1 h2=>
     erw[_,ho]at ok1;erw[c,0,zA0 h1,1,_,0,2,6];erw[0,1,0,aD (λz=>absurd (V.str.inj z) ⋯) ?_];erw[0,D,dx,0,R.hD,wV,0,b,0,.inr (zA0 h2),λl hl=>?_];let I:=zC0 hl (.lst (xs.map V.int));erw[D,g,l,_,xs,ns,ts,p,1,D1.same I,G1.same I,k,.inl aP,ho.aw,ho.xo,ho.x5,ho.ro,ho.tl,ho.po,λH5 S5 D5=>?_];let%[d1|d2]:=fin H5 (λc o n e=>S5 _ _ n (I _ _ e)) D5;erw[_,0,d1,d2]
   | @say c b xs h1 h2=>
     erw[_,ho]at ok1;erw[c,0,zA0 h1,1,_,0,2,6];erw[0,1,0,aD (λz=>absurd (V.str.inj z) ⋯) ?_];erw[0,D,dx,0,R.hD,wV,0,b,0,.inr (zA0 h2),λl hl=>?_];let I:=zC0 hl (.lst (xs.map V.int));erw[D,g,l,_,xs,ns,ts,p,1,D1.same I,G1.same I,k,.inl aP,ho.aw,ho.xo,ho.x5,ho.ro,ho.tl,ho.po,λH5 S5 D5=>?_];let%[d1|d2]:=fin H5 (λc o n e=>S5 _ _ n (I _ _ e)) D5;erw[_,0,d1,d2]
   | @coin c x h1=>
     erw[c,0,zA0 h1,1,_,0,2,6];erw[0,1,0,aX rfl ?_];erw[0,D,dx,0,R.hD,EK,0,D,g,_,x,ns,ts,p,1,D1,G1,k,ok1.aw,ok1.r0,ok1.r1,ok1.tl,ok1.ro,ok1.po,λH5 S5 D5=>?_];let%[d1|d2]:=fin H5 S5 D5;erw[_,0,d1,d2]
 . rintro σ H1 ⟨x3,x4,rfl,D1,S1⟩;rw[TR.len,zZ0]at D1;let%[dx,aA,aC,aH,aT|R]:=id D1;erw[0,D,dx,0,R.hD,dl_n3,D,g,0,D1,λv hv=>?_];subst hv;exact q _ S1
end
section
variable {C CM CA CG:Addr}
def TR.data:TR->PyData
 |.claims xs=>.tuple [.str "claims",.tuple (xs.map PyData.int)]
 |.say xs=>.tuple [.str "say",.tuple (xs.map PyData.int)]
 |.coin r=>.tuple [.str "coin",.int r]
def TRAt.rep{K:W.Frag}(h:TRAt H v r):Rep K H v r.data:=by
 cases h with
 |claims e e2=>exact .tup (zA0 e) (.cons (.str _) (.cons (.tup (zA0 e2) (eP _)) .nil))
 |say e e2=>exact .tup (zA0 e) (.cons (.str _) (.cons (.tup (zA0 e2) (eP _)) .nil))
 |coin e=>exact .tup (zA0 e) (.cons (.str _) (.cons (.int _) .nil))
def TRsAt.rep{K:W.Frag}:∀{vs:List V}{rs:List TR},TRsAt H vs rs->RepAll K H vs (rs.map TR.data)
 | [],[],_=>.nil
 |_::_,_::_,h=>.cons h.1.rep (TRsAt.rep h.2)
 | [],_::_,h=>h.elim
 |_::_,[],h=>h.elim
def tr_ok(r:TR):r.data.canLay0=true/\r.data.depth<=3:=by
 let w1:PyData.strOk "claims"=true:=by decide
 let w2:PyData.strOk "say"=true:=by decide
 let w3:PyData.strOk "coin"=true:=by decide
 cases r with
 |claims xs=>simp [TR.data,PyData.canLay0,PyData.depth,PyData.canLayAll0,PyData.depthAll,wJ1,wY0,w1]
 |say xs=>simp [TR.data,PyData.canLay0,PyData.depth,PyData.canLayAll0,PyData.depthAll,wJ1,wY0,w2]
 |coin n=>simp [TR.data,PyData.canLay0,PyData.depth,PyData.canLayAll0,PyData.depthAll,w3]
def Cl:∀rs:List TR,PyData.canLayAll0 (rs.map TR.data)=true/\PyData.depthAll (rs.map TR.data)<=3
 | []=>by simp [PyData.canLayAll0,PyData.depthAll]
 |r::rs=>by
   let h1:=tr_ok r;let h2:=Cl rs;simp only[qC0,PyData.canLayAll0,PyData.depthAll,h1.1,h2.1];erw[1,3]
def Jf{a:Str×Option Int}(h:AwW a.1):(awD a).canLay0=true/\(awD a).depth<=1:=by
 let w:=h.ok;erw[x,o]at a;cases o <;> simp_all [awD,PyData.canLay0,PyData.depth,PyData.canLayAll0,PyData.depthAll]
def cX{a:Str×Option Int}(h:AwW a.1):SeqAt.shaped (awD a)=true:=by
 let h2:=Jf h;unfold SeqAt.shaped;rw[h2.1,wY1,jJ0];omega
def lP(rs:List TR):SeqAt.shaped (.tuple (rs.map TR.data))=true:=by
 let h:=Cl rs;unfold SeqAt.shaped;rw[PyData.canLay0,h.1,wY1,jJ0];show PyData.depthAll _+1<=64;omega
def jk{d:PyData}(h:SeqAt.shaped d=true):PyData.eqv d d=true:=PySem.SeqAt.eqv_refl _ (SeqAt.canLay_of_shaped h)
def Ai(k:GmK ns ts p)(n6:ns.length<=6):∀(n:Nat) (t:Tk) (cs:List Int),TkOk ns ts p t->bJ cs p->cE ns t.z<=n->((cU ns ts p rows cs n t).2.z.aw.1="caught"∨(cU ns ts p rows cs n t).2.z.aw.1="believed")/\(cU ns ts p rows cs n t).1.length<=n/\∀r∈(cU ns ts p rows cs n t).1,r.ok:=by
 let p2:=k.p2;let p9:=k.p9;let fin:∀{t:Tk},TkOk ns ts p t->¬ t.z.aw.1="hear" -> ¬ t.z.aw.1="coin" -> t.z.aw.1="caught"∨t.z.aw.1="believed":=λh a b=>by
  rcases h.gd.ww with c | c | c | c
  . exact absurd c a
  . exact absurd c b
  . exact .inl c
  . exact .inr c
 intro n
 induction n with
 |zero=>
   intro t cs h hc hs;erw[fin h (λz=>?_) (λz=>?_),zH0 _,λr hr=>by cases hr]
   . have:=(gi h (.inl z)).1
     omega
   . have:=(gi h (.inr z)).1
     omega
 |succ n ih=>
   intro t cs h hc hs
   by_cases ch:t.z.aw.1="hear"
   . rw [eR ch];let%[o,l|_]:=h.ask (rows:=rows) k n6 ch;let%[h1,h2|h3]:=ih _ cs o hc #[0];let ho:=h.hear (rows:=rows) k n6 ch;let x0:=h.gd.hear_ne k ho;erw[h1,zG1 h2,λr hr=>?_];rcases Nf hr with rfl | hr
     . erw[jS1 λz=>x0 (List.length_eq_zero_iff.mp z),ho.x5,λx hx=>?_]
       have:=ho.xo x hx
       omega
     . exact h3 r hr
   . by_cases cc:t.z.aw.1="coin"
     . rw [ef cc];obtain⟨r0,r1⟩:0<=cs.headD 0/\cs.headD 0<p:=by
        cases cs with
        |nil=>show(0:Int)<=0/\(0:Int)<p;omega
        |cons c cs=>exact hc c zX0
       let%[o,l|_]:=h.toss k cc r0 r1;let%[h1,h2|h3]:=ih _ cs.tail o (λx hx=>hc x (jK1 hx)) #[0];erw[h1,zG1 h2,λr hr=>?_];rcases Nf hr with rfl | hr
       . erw[zH0 1,by show 1<=500;decide,λx hx=>?_];rw[Nd hx];omega
       . exact h3 r hr
     . rw[gh ch cc];erw[fin h ch cc,zP0 _,λr hr=>by cases hr]
def Aj(k:GmK ns ts p)(n6:ns.length<=6)(hc:bJ cs p):((iB ns ts p rows cs).2.z.aw.1="caught"∨(iB ns ts p rows cs).2.z.aw.1="believed")/\(iB ns ts p rows cs).1.length<=21/\(∀r∈(iB ns ts p rows cs).1,r.ok)/\(iB ns ts p rows cs).1≠[]:=by
 let%[ok,ea,ho|_]:=rF (rows:=rows) k n6;let%[o,l|_]:=jJ (rows:=rows) k n6;let%[h1,h2|h3]:=Ai (rows:=rows) k n6 20 _ cs o hc #[0];let p9:=k.p9;let x0:=(Gd.new k).hear_ne k ho;erw[h1,zG1 h2,λr hr=>?_,wB1 _ _];rcases Nf hr with rfl | hr
 . erw[jS1 λz=>x0 (List.length_eq_zero_iff.mp z),ho.x5,λx hx=>?_]
   have:=ho.xo x hx
   omega
 . exact h3 r hr
def wT{z:Db}(h:z.aw.1="caught"∨z.aw.1="believed"):EI z=awV z.aw:=by
 apply M6 λc=>?_
 rcases h with h | h <;> rw[h]at c <;> rcases c with c | c <;> revert c <;> decide
def EH{z:Db}(h:z.aw.1="hear"∨z.aw.1="coin"):EI z=[.str "open"]:=M8 h
def TRsAt.take:∀{vs:List V}{rs:List TR}(k:Nat),TRsAt H vs rs->TRsAt H (vs.take k) (rs.take k)
 | [],[],k,h=>by rw[List.take_nil,List.take_nil];exact h
 |_::_,_::_,0,_=>trivial
 |_::_,_::_,k+1,h=>%[h.1|TRsAt.take k h.2]
 | [],_::_,_,h=>h.elim
 |_::_,[],_,h=>h.elim
def ES{xs:List V}{k:Nat}(hk:k<=xs.length):jf xs none (some (k:Int))=xs.take k:=by
 unfold jf;rw[HT.sIx_none,HT.sIx_nat,Nat.min_eq_left hk];rfl
def oI:SeqAt.shaped (.tuple [.str "open"])=true:=by decide
structure WR50(CG:Addr)(H:Hp)(g b e:Addr)(tv:List V)(ns:List Str)(ts:List Tr)(p:Int)(rs:List TR)(z:Db):Prop where
 G:Gm CG H g ns ts p
 hb:H b=some (.tup tv)
 TV:TRsAt H tv rs
 he:H e=some (.tup (awV z.aw))
def WR50.same(w:WR50 CG H g b e tv ns ts p rs z)(s:Same H H'):WR50 CG H' g b e tv ns ts p rs z:=%[w.G.same s,s _ _ w.hb,w.TV.mono (bh s)|s _ _ w.he]
structure PR50(ns:List Str)(ts:List Tr)(p:Int)(rs:List TR)(z:Db):Prop where
 k:GmK ns ts p
 ok:fD ns ts p true (Db.new ts) rs
 fd:rs.foldl (dZ ns ts p) (Db.new ts)=z
 en:z.aw.1="caught"∨z.aw.1="believed"
 le:rs.length<=21
 rk:∀r∈rs,r.ok
 ne:rs≠[]
def PR50.ww(h:PR50 ns ts p rs z):AwW z.aw.1:=.inr (.inr h.en)
end
section
variable {C CM CA CG:Addr}
structure Drn(H:Hp)(dr a b:Addr)(tv:List V)(ns:List Str)(ts:List Tr)(p:Int):Prop where
 hd:H dr=some (.tup [.ref a,.ref b,.int p])
 ha:H a=some (.tup (ns.map V.str))
 hb:H b=some (.tup tv)
 TS:TreesAt H tv ts
 k:GmK ns ts p
 nd:ns.Nodup
 n6:ns.length<=6
 d60:∀y∈ns,aV ts y<=60
def Drn.mono(w:Drn H dr a b tv ns ts p)(s:bZ H H'):Drn H' dr a b tv ns ts p:=%[s _ _ w.hd,s _ _ w.ha,s _ _ w.hb,w.TS.mono s,w.k,w.nd,w.n6|w.d60]
instance spIsTrue:∀(dr a b ad:Addr)(tv rv:List V)(ns:List Str)(ts:List Tr)(p:Int)(rs:List TR),vs=[.ref dr,.ref ad]->Drn H dr a b tv ns ts p->H ad=some (.tup rv)->TRsAt H rv rs->rs.length<=25->og ns ts p 0 [] 0 rs->(∀H',Same H H'->Q (.bl true) H'):=1
def FW{ns:List Str}{t:Tr}{p:Int}(hp:1<p)(ok:t.ok ns):cQ ns [t] 0 p []=(cnt t ns:Int) % p:=by
 rw[←rJ (ts:=[t]) hp (λu hu=>by rw[Nd hu];exact ok)];show(0*0+(cnt t ns:Int)) % p=_;rw[Int.zero_mul,jG1]
abbrev An(dr ad a b L:Addr)(p s:Int)(x7 x8 x9 x10:Option V):St:=[some (.ref dr),some (.ref ad),some (.ref a),some (.ref b),some (.int p),some (.int s),some (.ref L),x7,x8,x9,x10]
instance tT83(Dn:Ends)(σ:St)(H:Hp):∀(dr ad a b L:Addr) (tv:List V) (ns:List Str) (ts:List Tr) (p s:Int) (cs:List Int) (k:Nat) (v9:V) (y10:Option V) (H0:Hp) (r:TR) (rest:List TR),σ=An dr ad a b L p s (some (.int (0+(k:Int)))) (some (.str r.word)) (some v9) y10->Drn H0 dr a b tv ns ts p->H0 L=none->Same H0 H->H L=some (.lst (cs.map V.int))->cs.length<=k->k<=100->bJ cs p->og ns ts p s cs k (r::rest)->(∃b,v9=.ref b/\H b=some (.tup (r.ints.map V.int))/\r.word≠"coin")∨(∃x,r=.coin x/\v9=.int x)->(∀(s:Int) (cs:List Int) (y10:Option V) (H':Hp),Same H0 H'->H' L=some (.lst (cs.map V.int))->cs.length<=k+1->bJ cs p->og ns ts p s cs (k+1) rest->Dn.nx (An dr ad a b L p s (some (.int (0+(k:Int)))) (some (.str r.word)) (some v9) y10) H'):=0
def bK:FnScope ["_law_drawn","_law_talk","_law_names_here","_law_trees","_law_p","_law_s","_law_coins_here","_law_k","_law_kind","_law_thing","_law_due"] VB (ao kz):=%[|5]
def uW(F:#["_law_is_true",kz])(B:Bl mg)(iV:#[13,"_law_sum",Wq,spSum3])(y9:#[14,"_law_true",W0,spTrue3]):#[15,f,fd,VB,spIsTrue]:=by
 exists bK
 erw[dr,a,b,ad,tv,rv,ns,ts,p,rs,1,D,ha,TA,rl,ok,q]at h;refine⟨_,(aa (oF (pv 0) (iN rfl (bX (aU (i:=2) bK.nd rfl (Or.inr rfl)) (bX (aU (i:=3) bK.nd rfl (.inl rfl)) (bX (aU (i:=4) bK.nd rfl (Or.inr rfl)) gI)))))
  (aa #[aj,5,bK,af]
  (aa #[aj,6,bK,cS aQ]
  (aa (cu zF1 rfl (cr rfl B.range %[aI aG rfl B.len zB1 %[1|aQ]|aQ]) (aU (i:=7) bK.nd rfl (.inl rfl)) (aa (oF (aN ix_tup (pv 1) (pv 7) #[1]) (iN rfl (bX (aU (i:=8) bK.nd rfl (.inl rfl)) (bX (aU (i:=9) bK.nd rfl (.inl rfl)) gI))))
   (cK (t':=tT83) (aa (aJ (ai aR (pv 8) aq (ax _)) (aa (mX (i:=10) (N:=["_law_names_here","_law_p"]) (ix:=[2,4]) bK.nd rfl (.inl rfl) rfl
    #[4] rfl
    (eF (pv 3)) (λ_ _ _=>cF (am iV hr ⋯ rfl %[1,cS %[0|aQ],af,aM aQ,2|aQ])))
    (ae (aJ (ai (kM hr.units) (bd fq rfl B.list gC %[9|aQ]) (pv 10) (ax _)) (ae (ay eU)) aB))) aB)
   (cK (t':=tT83) (aa (aJ (PW.pt (jE (ai aR (pv 8) aq (ax _)) (jD (ai (kM hr.units) (bd fq rfl B.list gC %[9|aQ]) (am y9 hr ⋯ rfl %[2,3,5,6,4|aQ]) (ax _))))) (ae (ay eU)) aB)
   (cK (t':=tT83) (ae (aJ (PW.pt (jE (ai aR (pv 8) aq (ax _)) (jE (ai aR (pv 7) af (ax _)) (jD (ai iy (aI aG rfl B.len zB1 %[3|aQ]) af (ax _)))))) (ae #[aj,5,bK,pv 9]) (ae (aJ (ai aR (pv 8) aq (ax _)) (ae (aW (dC zE1 zH1 zI1 cf (pv 6) %[9|aQ]))) aB)))) ?cC)) ?cB)) ?cA)))
  (ae (ay eU)))))),?_⟩
 case cC=>
  rintro Dn σ H ⟨dr,ad,a,b,L,tv,ns,ts,p,s,cs,k,v9,y10,H0,r,rest,rfl,D,L0,S,hL,cl,k1,po,ok,hv,q⟩;let tl:=D.TS.length;let hb:=S _ _ D.hb;erw[0,1,0,6];rcases hv with⟨c,rfl,hc,nw⟩ | ⟨x,rfl,rfl⟩
  . apply aD (λz=>nw (V.str.inj z)) ?_;erw[0,1,0,aD (λz=>nw (V.str.inj z)) ?_];let ok':og ns ts p s cs (k+1) rest:=by
     cases r with
     |claims xs=>exact ok.2
     |say xs=>exact ok.2.2
     |coin x=>exact absurd rfl nw
    exact q s cs _ H S hL #[0] po ok'
  . erw[hx,ok]at ok;let ap:¬ (k=1/\1<ts.length)->Dn.nx (An dr ad a b L p s (some (.int (0+(k:Int)))) (some (.str (TR.coin x).word)) (some (.int x)) y10) (upd H L (.lst (cs.map V.int++[.int x]))):=λc=>by
     rw[M6 c]at ok;apply q s (cs++[x]) _ _ (λd o e=>?_) (by rw[aP,zK0];rfl) (by rw[zL0,qL0];omega) (λy hy=>?_) ok
     . rw[aE (aZ e L0)];exact S _ _ e
     . rcases qH0 hy with h | h
       . exact po y h
       . rw[Nd h];exact hx
    let sm:(cs.map V.int).length<sizeLine:=by
     rw[zF0];exact aO #[0]
    apply aX rfl ?_;erw[0,1,0,6]
    by_cases c1:k=1
    . apply aX (by rw[c1];rfl) ?_;erw[0,b,0,.inr (zA0 hb),2,0,6]
      by_cases c2:(tv.length:Int)>1
      . apply aX c2 ?_;rw[M8 %[c1|3]]at ok;erw[0,q x cs _ H S hL #[0] po ok]
      . apply aD c2 ?_;erw[0,1,0,aX rfl %[0,.inl %[1,_|zG0 hL],0,L,2,hL,sm|ap #[0]]]
    . apply aD (λz=>c1 (by have:=V.int.inj z;omega)) ?_;erw[0,1,0,aX rfl %[0,.inl %[1,_|zG0 hL],0,L,2,hL,sm|ap #[0]]]
 case cB=>
  rintro Dn σ H ⟨dr,ad,a,b,L,tv,ns,ts,p,s,cs,k,v9,y10,H0,r,rest,rfl,D,L0,S,hL,cl,k1,po,ok,hv,q⟩;erw[0,1,0,6]
  by_cases c:∃xs,r=.say xs
  . erw[xs,1]at c;obtain⟨c,rfl,hc,_⟩:∃b,v9=.ref b/\H b=some (.tup (xs.map V.int))/\True:=by
     rcases hv with⟨c,e,hc,_⟩ | ⟨x,e,_⟩
     . erw[c,e,hc,trivial]
     . cases e
    let%[o1,o2|o3]:=id ok;apply aX rfl ?_;erw[0,c,0,.inr (zA0 hc),λl hl=>?_];let I:=zC0 hl (.lst (xs.map V.int));let el:upd H l (.lst (xs.map V.int)) l=_:=aP;generalize upd H l (.lst (xs.map V.int))=H1 at I el;let D1:=D.mono (bh (S.trans I));erw[0,0,0,0,0,a,b,L,ns,tv,ts,cs,s,p,1,D1.ha,D1.n6,D1.hb,D1.TS,D1.k,I _ _ hL,o1,po,λl2 H2 l20 S2 hl2=>?_];erw[_,_,.lst (zG0 (S2 _ _ el)) (eP _),.lst (zG0 hl2) (eP _),ib _,ib _,0,6];rw[yO,zC1 o2];let S12:=I.trans S2;apply cM ⟨dr,ad,a,b,L,tv,ns,ts,p,s,cs,k,_,y10,H0,.say xs,rest,rfl,D,L0,S.trans S12,S12 _ _ hL,cl,k1,po,ok,?_,q⟩;exact .inl ⟨c,rfl,S12 _ _ hc,by show ¬ ("say":Str)="coin";decide⟩
  . apply aD (λz=>?_) %[dr,ad,a,b,L,tv,ns,ts,p,s,cs,k,v9,y10,H0,r,rest,1,D,L0,S,hL,cl,k1,po,ok,hv|q]
    have:=V.str.inj z
    cases r with
    |claims xs=>revert this;show("claims":Str)="say" -> False;decide
    |say xs=>exact c %[xs|1]
    |coin x=>revert this;show("coin":Str)="say" -> False;decide
 case cA=>
  rintro Dn σ H ⟨dr,ad,a,b,L,tv,ns,ts,p,s,cs,k,v9,y10,H0,r,rest,rfl,D,L0,S,hL,cl,k1,po,ok,hv,q⟩;erw[0,1,0,6]
  by_cases c:∃xs,r=.claims xs
  . erw[xs,1]at c;obtain⟨c,rfl,hc,_⟩:∃b,v9=.ref b/\H b=some (.tup (xs.map V.int))/\True:=by
     rcases hv with⟨c,e,hc,_⟩ | ⟨x,e,_⟩
     . erw[c,e,hc,trivial]
     . cases e
    let D0:=D.mono (bh S);let p2:=D.k.p2;let p9:=D.k.p9;let tl:=D.TS.length;let t10:=D.k.t10;apply aX rfl ?_;erw[0,b,1,%[_|zA0 D0.hb],λDd hD=>?_];apply dJ (K:=K) (xs:=tv) (λi H'=>H' Dd=some (.lst (((ts.take i).map λu=>(cnt u ns:Int) % p).map V.int))/\Same H H') %[by rw[aP];rfl|zC0 hD _] (λi H' _ h=>zA0 (h.2 _ _ D0.hb)) ?_ ?_
    . rintro i z H3 hz ⟨hD3,S3⟩;let hi:=(zY0 hz).1;let%[t,ht|ta]:=D0.TS.get hz;let tk:=D.k.tok t (qD0 ht);let D3:=D0.mono (bh S3);erw[0,0,y1S,λl hl=>%[zP0 _|λe he=>?_]];let I1:=zC0 hl (.lst [z]);let I2:=zC0 he (.tup []);let J:=I1.trans I2;erw[0,true,a,l,e,ns,[z],[t],[],(0),p,1,J _ _ D3.ha,D.n6,I2 _ _ aP,.cons (ta.mono (bh (S3.trans J))) .nil,(by show 1<=10;decide),(λu hu=>by rw[Nd hu];erw[tk.1,tk.2.2.1]),aP,zP0 _,(λx hx=>by cases hx),3,3,λH4 S4=>?_];erw[_,S4 _ _ (J _ _ hD3),6,Nx.of hi %[6|λb o e'=>?_]]
      . rw[zF0,zF0,qF0];exact aO #[0]
      . rw[aP,qB0,ht,zK0,zK0,FW #[0] tk.1];rfl
      . rw[aE (aZ e' hD)];exact S4 _ _ (J _ _ (S3 _ _ e'))
    rintro H3 ⟨hD3,S3⟩;rw[tl,zZ0,←ok.1]at hD3;erw[0,c,0,.inr (zA0 (S3 _ _ hc)),λl hl=>?_];let I:=zC0 hl (.lst (xs.map V.int));erw[0,_,_,.lst (zG0 aP) (eP _),.lst (zG0 (I _ _ hD3)) (eP _),ib _,ib _,0,6];rw[yO,zC1 rfl];let S12:=S3.trans I;apply cM ⟨dr,ad,a,b,L,tv,ns,ts,p,s,cs,k,_,_,H0,.claims xs,rest,rfl,D,L0,S.trans S12,S12 _ _ hL,cl,k1,po,ok,?_,q⟩;exact .inl ⟨c,rfl,S12 _ _ hc,by show ¬ ("claims":Str)="coin";decide⟩
  . apply aD (λz=>?_) %[dr,ad,a,b,L,tv,ns,ts,p,s,cs,k,v9,y10,H0,r,rest,1,D,L0,S,hL,cl,k1,po,ok,hv|q]
    have:=V.str.inj z
    cases r with
    |claims xs=>exact c %[xs|1]
    |say xs=>revert this;show("say":Str)="claims" -> False;decide
    |coin x=>revert this;show("coin":Str)="claims" -> False;decide
 let al:=TA.len;erw[0,dr,0,zA0 D.hd,1,_,0,_,0,2,6];erw[zP0 _,λL hL=>?_];let I1:=zC0 hL (.lst []);let e1:upd H L (.lst []) L=some (.lst (([]:List Int).map V.int)):=aP;generalize upd H L (.lst [])=H1 at I1 e1;erw[0,ad,0,.inr (zA0 (I1 _ _ ha)),0,3,3,eK (λi σ H'=>∃(s:Int)(cs:List Int)(x7 x8 x9 x10:Option V),σ=An dr ad a b L p s x7 x8 x9 x10/\Same H H'/\H' L=some (.lst (cs.map V.int))/\cs.length<=i/\bJ cs p/\og ns ts p s cs i (rs.drop i)) %[(0),[],_,_,_,0,I1,e1,zH0 _,(λx hx=>by cases hx)|ok] ?_ ?_]
 . rintro i σ H2 hi ⟨s,cs,x7,x8,x9,x10,rfl,S2,hL2,cl,po,tr⟩;let hi':i<rs.length:=#[0]
   let ev:=zN0 hi;let%[r,er|ta]:=TA.nth ev;let ta2:=ta.mono (bh S2);rw[qW1 hi',(zY0 er).2]at tr;erw[0,0,ad,rv,2,zA0 (S2 _ _ ha),by rw[jG1];exact bv ev,6];let nx:∀{v9:V}(s:Int)(cs:List Int)(y10:Option V)(H':Hp),Same H H'->H' L=some (.lst (cs.map V.int))->cs.length<=i+1->bJ cs p->og ns ts p s cs (i+1) (rs.drop (i+1))->∃(s':Int)(cs':List Int)(x7 x8 x9 x10:Option V),An dr ad a b L p s (some (.int (0+(i:Int)))) (some (.str r.word)) (some v9) y10=An dr ad a b L p s' x7 x8 x9 x10/\Same H H'/\H' L=some (.lst (cs'.map V.int))/\cs'.length<=i+1/\bJ cs' p/\og ns ts p s' cs' (i+1) (rs.drop (i+1)):=λs cs y10 H' a1 a2 a3 a4 a5=>%[s,cs,_,_,_,0,a1,a2,a3,a4|a5]
   generalize rv[i]=v at ta2;cases ta2 with
   | @claims c d xs h1 h2=>
     erw[c,0,zA0 h1,1,_,0,2,6];erw[dr,ad,a,b,L,tv,ns,ts,p,s,cs,i,_,_,H,.claims xs,0,D,hL,S2,hL2,cl,3,po,tr,.inl %[d,1,h2|by show ¬ ("claims":Str)="coin";decide],nx]
   | @say c d xs h1 h2=>
     erw[c,0,zA0 h1,1,_,0,2,6];erw[dr,ad,a,b,L,tv,ns,ts,p,s,cs,i,_,_,H,.say xs,0,D,hL,S2,hL2,cl,3,po,tr,.inl %[d,1,h2|by show ¬ ("say":Str)="coin";decide],nx]
   | @coin c x h1=>
     erw[c,0,zA0 h1,1,_,0,2,6];erw[dr,ad,a,b,L,tv,ns,ts,p,s,cs,i,_,_,H,.coin x,0,D,hL,S2,hL2,cl,3,po,tr,.inr %[x,1|1],nx]
 . rintro σ H2 ⟨s,cs,x7,x8,x9,x10,rfl,S2,_⟩;exact q _ S2
end
section
variable {C CM CA CG:Addr}
def HX{t':TE}(h:PE X e t)(hw:∀ σ H Q,t' σ H Q->t σ H Q):PE X e t':=λM5 s σ H Q I k=>h M5 s σ H Q I (hw _ _ _ k)
def Thg(H:Hp)(r:TR)(v:V):Prop:=(∃c,v=.ref c/\H c=some (.tup (r.ints.map V.int))/\r.word≠"coin")∨∃x,r=.coin x/\v=.int x
def TRAt.thg(h:TRAt H v r):∃(t:Addr)(u:V),v=.ref t/\H t=some (.tup [.str r.word,u])/\Thg H r u:=by
 cases h with
 | @claims a b xs e f=>erw[a,.ref b,1,e,.inl %[b,1,f|by show ¬ ("claims":Str)="coin";decide]]
 | @say a b xs e f=>erw[a,.ref b,1,e,.inl %[b,1,f|by show ¬ ("say":Str)="coin";decide]]
 | @coin a x e=>erw[a,.int x,1,e,.inr %[x,1|1]]
instance tNs83(σ:St)(H:Hp)(Q:VK):∀(r:TR)(v:V),σ[5]?=some (some (.str r.word))->σ[6]?=some (some v)->Thg H r v->(∀(l:Addr)(H':Hp),Same H H'->H' l=some (.lst (r.ints.map V.int))->Q (.ref l) H'):=0
instance spFits(CG:Addr):∀(g b e:Addr)(tv:List V)(ns:List Str)(ts:List Tr)(p:Int)(rs:List TR)(z:Db)(ct:Int),vs=[.ref g,.ref b,.ref e,.int ct]->WR50 CG H g b e tv ns ts p rs z->PR50 ns ts p rs z->PlI ns ts z->(∀r∈rs,∀n∈r.ints,0<=n/\n<p)->0<=ct->ct<100->(∀H',Same H H'->Q (.bl true) H'):=1
abbrev CN(g b e:Addr)(ct:Int)(x4 x5 x6 x7 x8:Option V):St:=[some (.ref g),some (.ref b),some (.ref e),some (.int ct),x4,x5,x6,x7,x8]
instance tF83(CG:Addr)(Dn:Ends)(σ:St)(H:Hp):∀(g b e:Addr)(x4 x5 x6 x7 x8:Option V)(tv:List V)(ns:List Str)(ts:List Tr)(p:Int)(rs:List TR)(z:Db)(ct:Int),σ=CN g b e ct x4 x5 x6 x7 x8->WR50 CG H g b e tv ns ts p rs z->PR50 ns ts p rs z->PlI ns ts z->(∀r∈rs,∀n∈r.ints,0<=n/\n<p)->0<=ct->ct<100->(∀H',Same H H'->Dn.rt (.bl true) H'):=0
instance tY83(CG:Addr)(Dn:Ends)(σ:St)(H:Hp):∀(g b e:Addr)(ct:Int)(x4 x5 x6 x7:Option V)(pl:Int)(ns:List Str)(ts:List Tr)(p:Int),σ=CN g b e ct x4 x5 x6 x7 (some (.int pl))->Gm CG H g ns ts p->GmK ns ts p->pl=jX ns ts->(∀H',Same H H'->Dn.rt (.bl true) H'):=0
def gr:FnScope ["_law_game_here","_law_talk","_law_end","_law_cut","_law_again","_law_kind","_law_thing","_law_number","_law_places_here"] VC (ao qD):=%[|5]
def AT(F:#["_law_fits",qD])(B:Bl mg)(TG:GTxt K mg CG)(i9:#[23,"judged",["game","talk"],spJudged C CG])(kY:#[2,"talk_text",["talk"],spTalkT])(kZ:#[3,"read_talk",WD,spTalkRd])
 (mJ:#[19,"_law_places",VA,spPlaces CG])(gU:#[14,"told_ahead",WF,spAhead CG]):#[24,f,fd,VC,spFits CG]:=by
 exists gr
 erw[g,b,e,tv,ns,ts,p,rs,z,ct,1,W,R,PL,fp,c0,c1,q]at h;refine⟨_,(cK (t':=tF83 CG) (aa #[aj,4,gr,am kZ hr ⋯ rfl %[am kY hr ⋯ rfl %[1|aQ]|aQ]]
  (aa (aJ (PW.pt (eC (ai (kM hr.units) (pv 4) (pv 1) (ax _)) (eC (ai (kM hr.units) (am i9 hr ⋯ rfl %[0,1|aQ]) (pv 2) (ax _)) (dM (ai (kM hr.units) (am i9 hr ⋯ rfl %[0,4|aQ]) (pv 2) (ax _)))))) (ae (ay eU)) aB)
  (cK (t':=tF83 CG) (aa (cu zF1 rfl (eF (pv 1)) (iN rfl (bX (aU (i:=5) gr.nd rfl (.inl rfl)) (bX (aU (i:=6) gr.nd rfl (.inl rfl)) gI))) (ae (cu zF1 rfl (dR (HX (t':=tNs83) (ng (ai aR (pv 5) aq (ax _)) (cS %[6|aQ]) (bd fq rfl B.list gC %[6|aQ])) ?cN)) (aU (i:=7) gr.nd rfl (.inl rfl)) (ae (aJ (PW.pt (eC (gy (eD (aI iK rfl B.isinstance qP1 %[7,pR (v:=V.ty "int") rfl B.int gG rfl|aQ]))) (eC (eD (aI iK rfl B.isinstance qP1 %[7,pR (v:=V.ty "bool") rfl B.bool sv rfl|aQ])) (dM (gy (vU tf dG af (pv 7) (aF (pv 0) rfl))))))) (ae (ay eU)) aB)))))
  (cK (t':=tF83 CG) (aa (aJ (ai (kM hr.units) (am i9 hr ⋯ rfl %[0,fg Fx (pv 1) jG (fe (au bb (pv 3) (aI aG rfl B.len zB1 %[1|aQ])))|aQ]) (aM %[aq|aQ]) (ax _)) (ae (ay eU)) aB)
  (cK (t':=tF83 CG) (aa #[aj,8,gr,am mJ hr ⋯ rfl %[0,1|aQ]]
  (aa (aJ (PW.pt (eC (ai (rh hr.units) (pv 2) (aM %[aq|aQ]) (ax _)) (dM (ai (rh hr.units) (pv 2) (aM %[aq,au aS (aI aG rfl B.len zB1 %[aF (pv 0) rfl|aQ]) af|aQ]) (ax _))))) (cK (t':=tY83 CG) (ae (ay (eJ aR (pv 8) (am gU hr ⋯ rfl %[0|aQ]) (ax _)))) ?cY) aB)
  (ae (ay (uP (eJ aR (aN ix_tup (pv 2) af #[1]) aq (ax _)) (uO (eJ dG (pv 8) (am gU hr ⋯ rfl %[0|aQ]) (ax _)))))))) ?cD)) ?cC)) ?cB))) ?cA),?_⟩
 case cN=>
  rintro σ H Q ⟨r,v,h5,h6,hv,q⟩;erw[_,h5,1,0,6];rcases hv with⟨c,rfl,hc,nw⟩ | ⟨x,rfl,rfl⟩
  . exact aD (λz=>nw (V.str.inj z)) %[_,h6,c,0,.inr (zA0 hc)|λl hl=>q l _ (zC0 hl _) aP]
  . exact aX rfl %[_,h6,y1S|λl hl=>q l _ (zC0 hl _) aP]
 case cY=>
  rintro D σ H ⟨g,b,e,ct,x4,x5,x6,x7,pl,ns,ts,p,rfl,G,k,ee,q⟩;erw[0,0,g,ns,ts,p,1,G,k,λH4 S4=>%[1|6]];rw[zC1 (congrArg V.int ee)];exact q _ S4
 case cA=>
  rintro D σ H ⟨g,b,e,x4,x5,x6,x7,x8,tv,ns,ts,p,rs,z,ct,rfl,W,R,PL,fp,c0,c1,q⟩;let le:=R.le;erw[0,b,tv,rs,1,W.hb,W.TV,R.rk,3,λH1 S1=>?_];erw[rs,1,R.ne,R.rk,3,λt tv2 H2 S2 ht T2=>?_];let W2:=(W.same S1).same S2;erw[0,0,_,_,.tup (zA0 ht) T2.rep,.tup (zA0 W2.hb) W2.TV.rep,lP _,lP _,0,6];rw[jk (lP _)];apply cM ?_;erw[0,0,g,b,tv,rs,ns,ts,p,1,W2.G,R.k,W2.hb,W2.TV,R.ok,λa H3 S3 ha=>?_];rw[R.fd,wT R.en]at ha;let W3:=W2.same S3;erw[0,_,_,mh ha,mh W3.he,cX R.ww,cX R.ww,0,6];rw[jk (cX R.ww)];apply cM ?_;erw[0,0,g,t,tv2,rs,ns,ts,p,1,W3.G,R.k,S3 _ _ ht,T2.mono (bh S3),R.ok,λa H4 S4 ha=>?_];rw[R.fd,wT R.en]at ha;let W4:=W3.same S4;erw[0,_,_,mh ha,mh W4.he,cX R.ww,cX R.ww,0,6];rw[jk (cX R.ww)];exact cM ⟨g,b,e,_,x5,x6,x7,x8,tv,ns,ts,p,rs,z,ct,rfl,W4,R,PL,fp,c0,c1,λH' S'=>q H' (S1.trans (S2.trans (S3.trans (S4.trans S'))))⟩
 case cB=>
  rintro D σ H ⟨g,b,e,x4,x5,x6,x7,x8,tv,ns,ts,p,rs,z,ct,rfl,W,R,PL,fp,c0,c1,q⟩;erw[0,b,1,%[_|zA0 W.hb],nK (K:=K) (xs:=tv) (λi σ H'=>∃x5 x6 x7:Option V,σ=CN g b e ct x4 x5 x6 x7 x8/\Same H H') %[_,_,0|Same.refl H] (λi σ H' _ Na=>by erw[_,_,_,_,h]at Na;exact zA0 (h _ _ W.hb)) ?_ ?_]
  . rintro i v σ H1 hz ⟨x5,x6,x7,rfl,S1⟩;let%[r,er|TA]:=W.TV.nth hz;let%[t,u,1,ht|hu]:=(TA.mono (bh S1)).thg;let fr:=fp r (qD0 er);erw[t,0,zA0 ht,1,_,0,2,6];erw[r,u,1,1,hu,λl H2 S2 hl=>%[l,1,%[_|zG0 hl]|fo (K:=K) (xs:=r.ints.map V.int) (λj σ H'=>∃x7:Option V,σ=CN g b e ct x4 (some (.str r.word)) (some u) x7 x8/\Same H2 H') %[0|Same.refl H2] (λj σ H' _ Na=>by erw[_,_,h]at Na;exact zG0 (h _ _ hl)) ?_ ?_]]
    . rintro j y σ H3 hy ⟨x7,rfl,S3⟩;rw[zW0]at hy;let%[n,hn|1]:=qQ0 hy;let%[n0|n1]:=fr n (qD0 hn);let%[_,_,_,_,%[dx|hg]|_]:=((W.same S1).same (S2.trans S3)).G;erw[0,_,_,"int",true,1,TyOf.int _,wJ _ _,0,cM ?_];erw[0,_,_,"bool",false,1,TyOf.int _,nu _,0,cM ?_];erw[0,2,0,aX n0 ?_];erw[0,g,CG,dx,_,0,hg,TG.cl,TG.nF,iI ..,2,0,nv n1 ?_];erw[0,S3]
    . rintro σ H3 ⟨x7,rfl,S3⟩;erw[_,_,0,S1.trans (S2.trans S3)]
  . rintro σ H1 ⟨x5,x6,x7,rfl,S1⟩;erw[g,b,e,x4,_,_,_,x8,tv,ns,ts,p,rs,z,ct,1,W.same S1,R,PL,fp,c0,c1,λH' S'=>q H' (S1.trans S')]
 case cC=>
  rintro D σ H ⟨g,b,e,x4,x5,x6,x7,x8,tv,ns,ts,p,rs,z,ct,rfl,W,R,PL,fp,c0,c1,q⟩;let tl:=W.TV.len;let rl:1<=rs.length:=jS1 λy=>R.ne (List.length_eq_zero_iff.mp y)
  let%[k|ek]:=qA1 (qG0 ct (show(tv.length:Int)≠0 by omega));let kl:(k:Int)<(tv.length:Int):=ek▸qI0 ct #[0];erw[0,0,0,0,b,0,.inr (zA0 W.hb),2,(show(0:Int)<(tv.length:Int) by omega),0,b,tv,1,zA0 W.hb,W.hb,λt H2 S2 ht=>?_];rw[ek,ES #[0]]at ht;let W2:=W.same S2;erw[g,t,_,rs.take k,ns,ts,p,1,W2.G,R.k,ht,W2.TV.take k,qg rs true _ k R.ok,λa H3 S3 ha=>?_];rw[EH (qh rs true _ k R.ok #[0])]at ha;erw[y1S,λo ho=>?_];let I4:=zC0 ho (.tup [.str "open"]);erw[_,_,.tup (zA0 (I4 _ _ ha)) (.cons (.str _) .nil),.tup (zA0 aP) (.cons (.str _) .nil),oI,oI,0,6];rw[jk oI];let S4:=S2.trans (S3.trans I4);exact cM ⟨g,b,e,x4,x5,x6,x7,x8,tv,ns,ts,p,rs,z,ct,rfl,W.same S4,R,PL,fp,c0,c1,λH' S'=>q H' (S4.trans S')⟩
 case cD=>
  rintro D σ H ⟨g,b,e,x4,x5,x6,x7,x8,tv,ns,ts,p,rs,z,ct,rfl,W,R,PL,fp,c0,c1,q⟩;erw[0,0,g,b,tv,rs,ns,ts,p,1,W.G,R.k,W.hb,W.TV,R.ok,λH1 S1=>?_];rw[R.fd];let W1:=W.same S1;erw[0,y1S,λo ho=>?_];let I2:=zC0 ho (.tup [.str "believed"]);let W2:=W1.same I2;let sb:SeqAt.shaped (awD (("believed":Str),none))=true:=cX (.inr (.inr (.inr rfl)));erw[_,awD (("believed":Str),none),mh W2.he,.tup (zA0 aP) (.cons (.str _) .nil),cX R.ww,sb,0,6];rw[yP];let S2:=S1.trans I2;generalize upd H1 o (.tup [.str "believed"])=H2 at W2 S2;clear S1 I2 ho;let yes:∀{D':Ends} {H3:Hp},D'.rt=D.rt->WR50 CG H3 g b e tv ns ts p rs z->Same H2 H3->z.pl=jX ns ts->tY83 CG D' (CN g b e ct x4 x5 x6 x7 (some (.int z.pl))) H3:=λhd W3 S3 ee=>%[g,b,e,ct,_,_,_,_,z.pl,ns,ts,p,1,W3.G,R.k,ee|λH' S'=>by rw[hd];exact q _ (S2.trans (S3.trans S'))]
  by_cases cb:z.aw=(("believed":Str),none)
  . rw[zC1 cb];exact dU (dU (yes rfl W2 (Same.refl H2) (PL.be (by rw[cb])).2))
  rw [zD1 cb];apply cM ?_;let%[ga,gb,gd,gv,%[dx|hg],gha|_]:=id W2.G;erw[0,0,g,CG,dx,_,0,hg,TG.cl,TG.nS,ny ..,ga,0,.inr (zA0 gha),2,y2S,λo ho=>?_];rw[zF0];let I3:=zC0 ho (.tup [.str "caught",.int ((ns.length:Int)+1)]);let W3:=W2.same I3;let sc:SeqAt.shaped (awD (("caught":Str),some ((ns.length:Int)+1)))=true:=cX (.inr (.inr (.inl rfl)));erw[_,awD (("caught":Str),some ((ns.length:Int)+1)),mh W3.he,.tup (zA0 aP) (.cons (.str _) (.cons (.int _) .nil)),cX R.ww,sc,0,6];rw[yP];let wc:z.aw.1="caught":=by
   rcases R.en with h | h
   . exact h
   . exact absurd (PL.be h).1 cb
  rcases PL.ca wc with⟨h1,h2⟩ | ⟨k,hk,h1,h2⟩
  . rw[zC1 h1];exact dU (yes rfl W3 I3 h2)
  . rw [zD1 (λy=>by
     have:=zO0 (Prod.mk.inj (h1.symm.trans y)).2
     omega)]
    apply cM ?_;erw[0,e,_,(0),0,1,zA0 W3.he,EX _,1,0,6];rw[zC1 (congrArg V.str wc)];apply dU ?_;erw[0,0,g,ns,ts,p,1,W3.G,R.k,λH4 S4=>%[2|6]];rw[zC1 h2];exact q _ (S2.trans (I3.trans S4))
 erw[g,b,e,_,_,_,_,_,tv,ns,ts,p,rs,z,ct,1,W,R,PL,fp,c0,c1,q]
end
def rR:List Hr:=hB "i"
def By:tY rR:=by
 erw[4,λr hr=>?_];unfold rR hB at hr;simp only[wX1,wB0,or_false]at hr;let ni:NmK "i":=by unfold NmK;decide
 rcases hr with rfl | rfl | rfl | rfl
 . erw[ni,%[4|4],4,4]
 . erw[%[4|ni],4,4]
 . erw[ni,%[4,ni,4|4],4,4]
 . erw[4,4]
def Bx:pE rR="set i 0\nsay (true i)\nset i (+ i 1)\ngo 1":=by decide
instance spHonest:vs=[]->(∀(a:Addr)(tv:List V)(H':Hp),H' a=some (.tup tv)->RowsAt H' tv rR->Same H H'->Q (.ref a) H'):=1
def At:FnScope [] [] (ao qH):=%[|5]
def AX(F:#["honest",qH])(X:∃t,mg "HONEST_ROWS"=some (.str ("set i 0\nsay (true i)\nset i (+ i 1)\ngo 1":Str) t))(iE:#[21,"read_helper",WD,spReadH]):#[22,f,fd,[],spHonest]:=by
 exists At
 erw[1,q]at h;erw[t,gx]at X;erw[_,(ae (ay (am iE hr ⋯ rfl %[dI (v:=.str ("set i 0\nsay (true i)\nset i (+ i 1)\ngo 1":Str)) rfl gx %[|0]|aQ]))),6];erw[rR,by rw[Bx];rfl,By,q]
def GJ:∀r∈rR,r.good:=by
 intro r hr;unfold rR hB at hr;simp only[wX1,wB0,or_false]at hr;rcases hr with rfl | rfl | rfl | rfl
 . erw[trivial,4]
 . erw[%[4|trivial],4]
 . erw[%[4,trivial|trivial],4]
 . exact(by decide:(0:Int)<=1)
instance spLCoins:∀(f dr a b:Addr)(p m:Int),vs=[.ref f,.ref dr,.int m]->FeedAt H f->H dr=some (.tup [.ref a,.ref b,.int p])->2<p->p<=999983->0<=m->m<=20->(∀(l:Addr)(cs:List Int)(H':Hp),H l=none->H' l=some (.lst (cs.map V.int))->(cs.length:Int)=m->bJ cs p->FeedAt H' f->SameBut f H H'->Q (.ref l) H'):=1
def xQ:FnScope Wt Wt (ao oy):=%[|5]
def yo(F:#["_law_coins",oy])(B:Bl mg)(a7:#[1,"_law_take",WE,spTake]):#[2,f,fd,Wt,spLCoins]:=by
 exists xQ
 erw[f,dr,a,b,p,m,1,F0,hd,p2,p9,m0,m1,q]at h;refine⟨_,(ae (ay (cw (N:=["_law_feed_here","_law_game_here"]) (ix:=[0,1]) rfl
  #[4] rfl
  (cr rfl B.range %[2|aQ]) (λ_ _ _=>cF (aN (wL K) (cS %[am a7 hr ⋯ rfl %[1,aN (zF K) (pv 2) af #[1]|aQ],am a7 hr ⋯ rfl %[1,af|aQ],au bi (aN (zF K) (pv 2) af #[1]) af|aQ]) (am a7 hr ⋯ rfl %[1,af|aQ]) #[1]))))),?_⟩
 erw[0,0,3,3,λD hD=>?_];let Df:D≠f:=F0.ne hD;apply eI (λi H'=>∃cs:List Int,H' D=some (.lst (cs.map V.int))/\cs.length=i/\bJ cs p/\FeedAt H' f/\SameBut f H H') %[[],by rw[aP];rfl,1,(λx hx=>by cases hx),F0.same (zC0 hD _)|zJ0 (zC0 hD _)] ?_ ?_
 . rintro i H1 hi ⟨cs,hc,cl,co,F1,S1⟩;let hd1:=S1 _ _ (vh F0 hd (by intro ys z;cases z)) hd;erw[0,0,dr,_,(2),0,1,zA0 hd1,1,f,p,1,F1,3,3,λd1 H2 a0 a1 F2 B2=>?_];let hd2:=B2 _ _ (vh F1 hd1 (by intro ys z;cases z)) hd1;erw[0,f,(2),1,F2,4,4,λd2 H3 b0 b1 F3 B3=>?_];let hd3:=B3 _ _ (vh F2 hd2 (by intro ys z;cases z)) hd2;erw[0,dr,_,(2),0,1,zA0 hd3,1,2,y3S,λL hL=>?_];let IL:=zC0 hL (.lst [.int d1,.int d2,.int (p-1)]);let eL:upd H3 L (.lst [.int d1,.int d2,.int (p-1)]) L=some (.lst [.int d1,.int d2,.int (p-1)]):=aP;let Lf:L≠f:=F3.ne hL;generalize upd H3 L (.lst [.int d1,.int d2,.int (p-1)])=H4 at IL eL;erw[0,f,(3),1,F3.same IL,4,4,λd3 H5 c0 c1 F5 B5=>?_];let eL5:=B5 _ _ Lf eL;let S5:SameBut f H1 H5:=B2.trans (B3.trans ((zJ0 IL).trans B5));let hc5:=S5 _ _ Df hc;let fin:∀r:Int,0<=r->r<p->∃ys,H5 D=some (.lst ys)/\ys.length<sizeLine/\Nx m.toNat i (λi H'=>∃cs:List Int,H' D=some (.lst (cs.map V.int))/\cs.length=i/\bJ cs p/\FeedAt H' f/\SameBut f H H') (upd H5 D (.lst (ys++[.int r]))):=λr r0 r1=>by
    erw[_,hc5,aO (by rw[zF0];omega),Nx.of hi ⟨cs++[r],by rw[aP,zK0];rfl,by rw[zL0,cl];rfl,λx hx=>?_,?_,λc o h e=>?_⟩]
    . rcases qH0 hx with h | h
      . exact co x h
      . rw[Nd h];erw[r0,r1]
    . erw[x,t,e,rr]at F5;erw[x,t,by rw[aE Df.symm];exact e,rr]
    . rw[aE (aZ e hD)];exact S5 _ _ h (S1 _ _ h e)
   have:d3=0∨d3=1∨d3=2:=#[0]
   rcases this with rfl | rfl | rfl
   . erw[L,_,(0),.int d1,1,1,zG0 eL5,1,fin d1 a0 a1]
   . erw[L,_,(1),.int d2,1,1,zG0 eL5,1,fin d2 b0 #[0]]
   . erw[L,_,(2),.int (p-1),1,1,zG0 eL5,1,fin (p-1) #[0] #[0]]
 . rintro H1 ⟨cs,hc,cl,co,F1,S1⟩;exact q D cs H1 hD hc #[0] co F1 S1
section
variable {C CM CA CG:Addr}
def IV(k:GmK ns ts p)(h:∀t∈ts,(t.size:Int)<=30)(x:Str):aV ts x<=60:=by
 let t0:ts≠[]:=λz=>by have:=k.t1;rw[z]at this;cases this
 have:=jb (ns:=ts.map λt=>(t.names.count x:Int)) #[t0,0]
 let%[t,ht|e]:=List.mem_map.mp this;unfold aV;rw[←e];let h1:=jK0 (a:=x) (l:=t.names);let h2:=t.names_len;let h3:=h t ht;omega
def IM{H:Hp}{a b g dx:Addr}{ns:List Str}{tv:List V}{Q:VK}(ha:H a=some (.tup (ns.map V.str)))(hb:H b=some (.tup tv))(TS:TreesAt H tv ts)(k:GmK ns ts p)(nd:ns.Nodup)(nx:H g=none)(ndx:H dx=none)(q:∀H',Same H H'->Gm CG H' g ns ts p->Q .non H'):
 spGInit CG [.ref g,.ref a,.ref b,.int p] (upd (upd H dx (.own g)) g (.ins CG dx [])) Q E:=by
 let s3:Same H (upd (upd H dx (.own g)) g (.ins CG dx [])):=λb o e=>by
  rw[aE (aZ e nx),aE (aZ e ndx)];exact e
 erw[g,dx,a,b,ns,tv,ts,p,1,aP,s3 _ _ ha,nd,k.n10,s3 _ _ hb,TS.mono (bh s3),k.t1,k.t10,k.tok,k.pr,k.p2,k.p9,k.tp,k.tc,λd H3 d0 GA hd S3=>?_];let S23:Same H H3:=λb o e=>S3 b o (aZ e nx) (s3 b o e)
 exact q H3 S23 %[a,b,d,tv,GA,S23 _ _ ha,S23 _ _ hb,TS.mono (bh S23)|hd]
def oV:∀{rs:List TR}{b:Bool}{z:Db},fD ns ts p b z rs->∀r∈rs,∀n∈r.ints,0<=n/\n<p
 | [],_,_,_,r,hr=>by cases hr
 |r0::rs,b,z,h,r,hr=>by
   rcases Nf hr with rfl | hr
   . intro n hn;cases r with
     |claims xs=>exact h.1.2.xo n hn
     |say xs=>exact h.1.2.xo n hn
     |coin x=>
       rw[Nd hn];erw[h.1.r0,h.1.r1]
   . exact oV h.2 r hr
def HlpAt(H:Hp)(h:Addr)(rows:List Hr):Prop:=(∃rv,H h=some (.tup rv)/\RowsAt H rv rows)/\∀r∈rows,r.good
def HlpAt.mono(x:HlpAt H h rows)(k:bZ H H'):HlpAt H' h rows:=by
 erw[%[rv,e|R],g]at x;erw[%[rv,k _ _ e|R.mono k],g]
def BQ{K:W.Frag}{xs:List V}{tb:TBl}{Q:VK}(Pv:Nat->Hp->Prop)(h0:Pv 0 (upd H D (.lst [])))(hl:∀i H,i<=xs.length->Pv i H->SqT K H a xs)
 (hs:∀i x H,xs[i]?=some x->Pv i H->∃t v1 v2,x=.ref t/\SqT K H t [v1,v2]/\tb (some v1::some v2::outs ix σ) H (Nx xs.length i Pv) λz H'=>∃ys,H' D=some (.lst ys)/\ys.length<sizeLine/\Nx xs.length i Pv (upd H' D (.lst (ys++[z]))))(hd:∀H,Pv xs.length H->Q (.ref D) H):
 zV K (Itt K a) D ix tb σ H Q:=by
 erw[λi m H=>m=xs.length-i/\i<=xs.length/\Pv i H,%[xs.length,by simp,zP0 _|h0],6];rintro i m H ⟨rfl,hi,p⟩;let q:=hl i H hi p
 by_cases Nb:i<xs.length
 . refine .inr %[%[xs,xs[i],q|by simp [Nb]]|λx H' y=>?_];erw[e,y]at y;subst e;exact hs i x _ (y xs q) p
 . let e:i=xs.length:=#[0]
   subst e;exact .inl %[%[xs,q|zH0 _]|hd H p]
def eY:∀a b:List TR,eM (a++b)=eM a++eM b
 | [],_=>rfl
 |.coin r::a,b=>congrArg (r::·) (eY a b)
 |.claims _::a,b=>eY a b
 |.say _::a,b=>eY a b
structure Ps83(H:Hp)(f Lh h0 h1 h2:Addr)(r1 r2:List Hr):Prop where
 F:FeedAt H f
 nL:Lh≠f
 hL:H Lh=some (.lst [.ref h0,.ref h1,.ref h2])
 p0:HlpAt H h0 rR
 p1:HlpAt H h1 r1
 p2:HlpAt H h2 r2
def Ps83.but(w:Ps83 H f Lh h0 h1 h2 r1 r2)(F':FeedAt H' f)(s:SameBut f H H'):Ps83 H' f Lh h0 h1 h2 r1 r2:=by
 let k:=bc w.F s;erw[F',w.nL,s _ _ w.nL w.hL,w.p0.mono k,w.p1.mono k,w.p2.mono k]
def Ps83.same(w:Ps83 H f Lh h0 h1 h2 r1 r2)(s:Same H H'):Ps83 H' f Lh h0 h1 h2 r1 r2:=w.but (w.F.same s) (zJ0 s)
abbrev CJ(a0 dr g f Lh:Addr)(x1 x5:Option V)(m:Int)(x8 x9 x10 x11 x12:Option V):St:=[some (.ref a0),x1,some (.ref dr),some (.ref g),some (.ref f),x5,some (.ref Lh),some (.int m),x8,x9,x10,x11,x12]
structure W83(K:W.Frag)(CG:Addr)(Hb:Hp)(a0 dr a b g f:Addr)(sn:List Int)(tv:List V)(ns:List Str)(ts:List Tr)(p m:Int):Prop where
 S:SqL K Hb a0 (sn.map V.int)
 h63:sn.length<=63
 D:Drn Hb dr a b tv ns ts p
 G:Gm CG Hb g ns ts p
 f0:Hb f=none
 em:m=(ns.length:Int)+((if 1<ts.length then 1 else 0:Nat):Int)
instance tB83(K:W.Frag)(CG:Addr)(Dn:Ends)(σ:St)(H:Hp):∀(a0 dr a b g f Lh h0 h1 h2 lc bt e:Addr) (x1 x5 x12:Option V) (m:Int) (i:Nat) (sn cs:List Int) (tv rv:List V) (r1 r2:List Hr) (ns:List Str) (ts:List Tr) (p:Int) (rs:List TR) (z:Db) (Hb:Hp),σ=CJ a0 dr g f Lh x1 x5 m (some (.int (0+(i:Int)))) (some (.ref lc)) (some (.ref bt)) (some (.ref e)) x12->W83 K CG Hb a0 dr a b g f sn tv ns ts p m->Same Hb H->Ps83 H f Lh h0 h1 h2 r1 r2->H lc=some (.lst (cs.map V.int))->lc≠f->WR50 CG H g bt e rv ns ts p rs z->PR50 ns ts p rs z->PlI ns ts z->(∀r∈rs,∀n∈r.ints,0<=n/\n<p)->(∃j,j<=cs.length/\eM rs=cs.take j)->(i=0->z.aw=(("believed":Str),none)/\og ns ts p 0 [] 0 rs)->(∀(x9 x10 x11 x12:Option V) (H':Hp),Same Hb H'->Ps83 H' f Lh h0 h1 h2 r1 r2->Dn.nx (CJ a0 dr g f Lh x1 x5 m (some (.int (0+(i:Int)))) x9 x10 x11 x12) H'):=0
instance tA83(K:W.Frag)(CG:Addr)(Dn:Ends)(σ:St)(H:Hp):∀(a0 dr a b g f Lh h0 h1 h2:Addr)(x1 x5 x9 x10 x11 x12:Option V)(m:Int)(i:Nat)(sn:List Int)(tv:List V)(r1 r2:List Hr)(ns:List Str)(ts:List Tr)(p:Int)(Hb:Hp),σ=CJ a0 dr g f Lh x1 x5 m (some (.int (0+(i:Int)))) x9 x10 x11 x12->i<3->W83 K CG Hb a0 dr a b g f sn tv ns ts p m->Same Hb H->Ps83 H f Lh h0 h1 h2 r1 r2->(∀(x9 x10 x11 x12:Option V)(H':Hp),Same Hb H'->Ps83 H' f Lh h0 h1 h2 r1 r2->Dn.nx (CJ a0 dr g f Lh x1 x5 m (some (.int (0+(i:Int)))) x9 x10 x11 x12) H'):=0
def ei:FnScope ["_law_script","_law_form","_law_drawn","_law_game_here","_law_feed_here","_law_boxes","_law_helpers","_law_many","_law_k","_law_coins_here","_law_talk","_law_end","_law_tossed"] ["_law_script"] (ao mK):=%[|5]
def Ii(F:#["law",mK])(B:Bl mg)(TG:GTxt K mg CG)(MG:Mk K CG fI)(GI:#[14,fI,fdI,WZ,spGInit CG])(bI:Binds K fdI WZ [])
 (fc:#[1,"_law_feed",Wu,spFeed K])(a7:#[1,"_law_take",WE,spTake])(f8:#[2,"_law_names",WE,spNamesN])(A0:#[14,"_law_game",Ww,spGame])
 (A3:#[22,"honest",[],spHonest])(mQ:#[8,"_law_helper",W8,spHelp])(A4:#[2,"_law_liar",W9,spLiar])
 (pf:#[2,"_law_coins",Wt,spLCoins])(A5:#[27,"talked",Wy,spTalked C CM CG])(k9:#[15,"_law_is_true",VB,spIsTrue])(A7:#[24,"_law_fits",VC,spFits CG]):#[28,f,fd,["_law_script"],spLaw K]:=by
 exists ei
 erw[a0,sn,1,hS,h63,q]at h;let hr15:Room (14+1) _:=hr.mono ⋯;let s1:1<=sizeLine:=by decide
 let s3:3<=sizeLine:=by decide
 let s4:4<=sizeLine:=by decide
 refine⟨_,(aa #[aj,1,ei,aI (BU rfl) rfl B.min PyProof.Rows.boot_min %[af,am a7 hr ⋯ rfl %[am fc hr ⋯ rfl %[0,af|aQ],af|aQ]|aQ]]
  (aa #[aj,2,ei,am A0 hr ⋯ rfl %[am fc hr ⋯ rfl %[0,af|aQ],aN ix_list (cS %[af,af,af,af|aQ]) (pv 1) #[1],aN ix_list (cS %[af,af,af,af|aQ]) (pv 1) #[1]|aQ]]
  (aa #[aj,3,ei,jH MG GI hr15 rfl TG.mgC bI .nil bn %[aN ix_tup (pv 2) af #[1],aN ix_tup (pv 2) af #[1],aN ix_tup (pv 2) af #[1]|aQ]]
  (aa #[aj,4,ei,am fc hr ⋯ rfl %[0,af|aQ]]
  (aa #[aj,5,ei,am f8 hr ⋯ rfl %[am fc hr ⋯ rfl %[0,af|aQ],af|aQ]]
  (aa #[aj,6,ei,cS %[FS A3 hr ⋯ rfl,am mQ hr ⋯ rfl %[4,5,af|aQ],am A4 hr ⋯ rfl %[am fc hr ⋯ rfl %[0,af|aQ],aN ix_list (pv 5) af #[1]|aQ]|aQ]]
  (aa #[aj,7,ei,au aS (aI aG rfl B.len zB1 %[aN ix_tup (pv 2) af #[1]|aQ]) (bd tS rfl B.int gG %[eJ iy (aI aG rfl B.len zB1 %[aN ix_tup (pv 2) af #[1]|aQ]) af (ax _)|aQ])]
  (aa (cu zF1 rfl (cr rfl B.range %[af|aQ]) (aU (i:=8) ei.nd rfl (.inl rfl)) (cK (t':=tA83 K CG) (aa #[aj,9,ei,am pf hr ⋯ rfl %[am fc hr ⋯ rfl %[0,au aS af (pv 8)|aQ],2,7|aQ]]
   (aa (oF (am A5 hr ⋯ rfl %[3,aN ix_list (pv 6) (pv 8) #[1],9|aQ]) (iN rfl (bX (aU (i:=10) ei.nd rfl (.inl rfl)) (bX (aU (i:=11) ei.nd rfl (.inl rfl)) gI))))
   (cK (t':=tB83 K CG) (aa (aJ (PW.pt (jE (ai aR (pv 8) af (ax _)) (jD (PW.pt (eC (ai (kM hr.units) (pv 11) (aM %[aq|aQ]) (ax _)) (dM (gy (eD (am k9 hr ⋯ rfl %[2,10|aQ]))))))))) (ae (ay eU)) aB)
   (cK (t':=tB83 K CG) (aa (Dq (i:=12) (N:=[]) (ix:=[]) (cl:=[]) ei.nd rfl (.inl rfl) rfl
    #[5] rfl ⋯ rfl
    (eF (pv 10)) (λ_ _ _=>Hk (ai aR (pv 0) aq (ax _)) (pv 1)))
   (aa (aJ (ai (kM hr.units) (pv 12) (fg zq (pv 9) jG (fe (aI aG rfl B.len zB1 %[12|aQ]))) (ax _)) (ae (ay eU)) aB)
   (cK (t':=tB83 K CG) (ae (aJ (gy (eD (am A7 hr ⋯ rfl %[3,10,11,am a7 hr ⋯ rfl %[4,af|aQ]|aQ]))) (ae (ay eU)) aB)) ?cD))) ?cC)) ?cB))) ?cA))
  (ae (ay eU)))))))))),?_⟩
 case cA=>
  rintro Dn σ H ⟨a0,dr,a,b,g,f,Lh,h0,h1,h2,x1,x5,x9,x10,x11,x12,m,i,sn,tv,r1,r2,ns,ts,p,Hb,rfl,hi,W,S,Ps,q⟩;let k:=W.D.k;let n6:=W.D.n6;let p2:=k.p2;let p9:=k.p9;let em:=W.em;let D1:=W.D.mono (bh S);let m7:0<=m/\m<=7:=by rw[em];split <;> omega
  erw[0,0,2,a0,sn,0,S.seq W.S,W.h63,3,3,λf1 H1 f10 S1 F1=>?_];erw[0,0,f1,dr,a,b,p,m,1,F1,(D1.mono (bh S1)).hd,p2,p9,3,3,λlc cs H2 lc0 hlc cl co F2 B2=>?_];let T2:Same H H2:=Same.but S1 f10 B2;let U2:=S.trans T2;let P2:=Ps.same T2;let lcf:lc≠f:=by
   erw[_,_,hf,_]at Ps.F;exact Ne.symm (aZ (S1 _ _ hf) lc0)
  obtain ⟨h,rows,eh,hh,hon⟩:∃(h:Addr)(rows:List Hr),atI [V.ref h0,V.ref h1,V.ref h2] (0+(i:Int))=some (.ref h)/\HlpAt H2 h rows/\(i=0->rows=rR):=by
   rcases i with _ | _ | _ | i
   . erw[h0,rR,1,P2.p0,λ_=>rfl]
   . erw[h1,r1,1,P2.p1,λz=>by cases z]
   . erw[h2,r2,1,P2.p2,λz=>by cases z]
   . omega
  erw[%[rv,hrv|RW],rg]at hh;let cle:ns.length+(if 1<ts.length then 1 else 0)<=cs.length:=#[0]
  let G2:=W.G.same U2;erw[0,0,0,Lh,_,2,zG0 P2.hL,eh,0,g,h,lc,rv,rows,ns,ts,p,cs,1,G2,k,n6,hrv,RW,rg,.inl hlc,co,cle,3,λo H3 S3 Td=>?_];erw[bt,e,tv2,t1,t2,t3,t4]at Td.ex;erw[o,0,zA0 t1,1,_,0,2,6];let%[en,le,rk|ne]:=Aj (rows:=rows) k n6 co;let%[ok|fd']:=Fl (rows:=rows) k n6 co;let U3:=U2.trans S3;erw[a0,dr,a,b,g,f,Lh,h0,h1,h2,lc,bt,e,_,_,_,m,i,sn,cs,tv,tv2,r1,r2,ns,ts,p,_,_,Hb,1,W,U3,P2.same S3,S3 _ _ hlc,lcf,%[W.G.same U3,t2,t3|t4],%[k,ok,fd',en,le,rk|ne],Cr k n6 co,oV ok,vI k n6 co cle,λi0=>?_,q];obtain rfl:=hon i0;let hn:Hon ns ts p rR:=hon_B (x:="i") k n6 W.D.nd W.D.d60;let cn:cs.length=tP ns ts:=by
   unfold tP;let t1:=k.t1
   by_cases c:ts.length=1
   . rw[M8 c];rw[M6 #[0]]at em;omega
   . rw[M6 c];rw[M8 #[0]]at em;omega
  erw[yJ k n6 W.D.nd hn co,6];rw[Ev k n6 W.D.nd hn co cn];exact Ck k.t1 co cn
 case cB=>
  rintro Dn σ H ⟨a0,dr,a,b,g,f,Lh,h0,h1,h2,lc,bt,e,x1,x5,x12,m,i,sn,cs,tv,rv,r1,r2,ns,ts,p,rs,z,Hb,rfl,W,S,Ps,hlc,lcf,WR,R,PL,fp,cj,ho,q⟩;erw[0,1,0,6]
  by_cases c:i=0
  . let%[ea|tr]:=ho c;apply aX (by rw[c];rfl) ?_;erw[0,s1,λu hu=>?_];let I:=zC0 hu (.tup [.str "believed"]);let W1:=WR.same I;let sb:SeqAt.shaped (awD (("believed":Str),none))=true:=cX (.inr (.inr (.inr rfl)));erw[_,awD (("believed":Str),none),mh W1.he,.tup (zA0 aP) (.cons (.str _) .nil),cX R.ww,sb,0,6];rw[yP,zC1 ea];apply cM ?_;let le:=R.le;erw[0,0,dr,a,b,bt,tv,rv,ns,ts,p,rs,1,W.D.mono (bh (S.trans I)),W1.hb,W1.TV,3,tr,λH2 S2=>%[0|cM ?_]];let T2:=I.trans S2;erw[a0,dr,a,b,g,f,Lh,h0,h1,h2,lc,bt,e,x1,x5,x12,m,i,sn,cs,tv,rv,r1,r2,ns,ts,p,rs,z,Hb,1,W,S.trans T2,Ps.same T2,T2 _ _ hlc,lcf,WR.same T2,R,PL,fp,cj,ho,q]
  . exact aD (λy=>c (by have:=V.int.inj y;omega)) %[a0,dr,a,b,g,f,Lh,h0,h1,h2,lc,bt,e,x1,x5,x12,m,i,sn,cs,tv,rv,r1,r2,ns,ts,p,rs,z,Hb,1,W,S,Ps,hlc,lcf,WR,R,PL,fp,cj,ho|q]
 case cC=>
  rintro Dn σ H ⟨a0,dr,a,b,g,f,Lh,h0,h1,h2,lc,bt,e,x1,x5,x12,m,i,sn,cs,tv,rv,r1,r2,ns,ts,p,rs,z,Hb,rfl,W,S,Ps,hlc,lcf,WR,R,PL,fp,cj,ho,q⟩;let tl:=WR.TV.len;let le:=R.le;erw[0,bt,1,%[_|zA0 WR.hb],λDd hD=>?_];apply BQ (K:=K) (xs:=rv) (λi H'=>H' Dd=some (.lst ((eM (rs.take i)).map V.int))/\(eM (rs.take i)).length<=i/\Same H H') %[by rw[aP];rfl,zH0 _|zC0 hD _] (λi H' _ h=>zA0 (h.2.2 _ _ WR.hb)) ?_ ?_
  . rintro j v H3 hz ⟨hD3,cl,S3⟩;let hj:=(zY0 hz).1;let%[r,er|TA]:=WR.TV.nth hz;let%[t,u,1,ht|hu]:=(TA.mono (bh S3)).thg;let et:rs.take (j+1)=rs.take j++[r]:=by rw[qB0,er];rfl
    erw[t,_,0,zA0 ht,0,1,0,6];rcases hu with⟨c,rfl,hc,nw⟩ | ⟨x,rfl,rfl⟩
    . apply aD (λy=>nw (V.str.inj y)) (Nx.of hj ?_);let e0:eM [r]=[]:=by
       cases r with
       |claims xs=>rfl
       |say xs=>rfl
       |coin x=>exact absurd rfl nw
      rw[et,eY,e0,qI1];erw[hD3,3,S3]
    . apply aX rfl %[0,_,hD3,6|Nx.of hj %[6,6|λc o e'=>?_]]
      . rw[zF0];exact aO #[0]
      . rw[aP,et,eY,zK0];rfl
      . rw[et,eY,zL0];show _+1<=_;omega
      . rw[aE (aZ e' hD)];exact S3 _ _ e'
  rintro H3 ⟨hD3,_,S3⟩;rw[tl,zZ0]at hD3;erw[j,hj,ej]at cj;let jl:(eM rs).length=j:=by rw[ej,qF0];omega
  erw[0,0,0,Dd,0,.inl (zG0 hD3),0,lc,0,zG0 (S3 _ _ hlc),λt ht=>?_];rw[zF0,jl,ES (by rw[zF0];exact hj),←List.map_take];let I:=zC0 ht (.lst ((cs.take j).map V.int));erw[_,_,.lst (zG0 (I _ _ hD3)) (eP _),.lst (zG0 aP) (eP _),ib _,ib _,0,6];rw[yO,zC1 ej];let T2:=S3.trans I;exact cM ⟨a0,dr,a,b,g,f,Lh,h0,h1,h2,lc,bt,e,x1,x5,_,m,i,sn,cs,tv,rv,r1,r2,ns,ts,p,rs,z,Hb,rfl,W,S.trans T2,Ps.same T2,T2 _ _ hlc,lcf,WR.same T2,R,PL,fp,⟨j,hj,ej⟩,ho,q⟩
 case cD=>
  rintro Dn σ H ⟨a0,dr,a,b,g,f,Lh,h0,h1,h2,lc,bt,e,x1,x5,x12,m,i,sn,cs,tv,rv,r1,r2,ns,ts,p,rs,z,Hb,rfl,W,S,Ps,hlc,lcf,WR,R,PL,fp,cj,ho,q⟩;erw[0,0,0,0,f,(20),1,Ps.F,4,4,λd H1 d0 d1 F1 B1=>?_];let kt:=bc Ps.F B1;let S1:Same Hb H1:=λc o e=>B1 _ _ (aZ e W.f0) (S _ _ e)
  erw[g,bt,e,rv,ns,ts,p,rs,z,d,1,%[W.G.same S1,kt _ _ WR.hb,WR.TV.mono kt|kt _ _ WR.he],R,PL,fp,d0,3,λH2 S2=>%[0|cM ?_]];exact q _ _ _ _ H2 (S1.trans S2) ((Ps.but F1 B1).same S2)
 erw[0,a0,sn,(9),1,hS,h63,4,4,λf9 H1 f90 S1 F1=>?_];erw[f9,(24),1,F1,4,4,λz H2 z0 z1 F2 B2=>%[_,0|6]];let T2:Same H H2:=Same.but S1 f90 B2;obtain⟨fm,efm,hf0,hf3⟩:∃fm:Int,(if z<3 then z else 3)=fm/\0<=fm/\fm<=3:=⟨_,rfl,by split <;> omega,by split <;> omega⟩
 rw [efm];obtain⟨mo,ro,emo,ero,mo0,mo6,ro1,ro30⟩:∃mo ro:Int,atI [V.int 6,V.int 3,V.int 3,V.int 4] fm=some (.int mo)/\atI [V.int 3,V.int 30,V.int 30,V.int 8] fm=some (.int ro)/\0<=mo/\mo<=6/\1<=ro/\ro<=30:=by
  have:fm=0∨fm=1∨fm=2∨fm=3:=#[0]
  rcases this with rfl | rfl | rfl | rfl
  . erw[(6),(3),1,1,4,4,4,4]
  . erw[(3),(30),1,1,4,4,4,4]
  . erw[(3),(30),1,1,4,4,4,4]
  . erw[(4),(8),1,1,4,4,4,4]
 erw[0,a0,sn,(1),1,T2.seq hS,h63,4,4,λf1 H3 f10 S3 F3=>?_];let T3:=T2.trans S3;erw[s4,λl1 hl1=>?_];let I1:=zC0 hl1 (.lst [.int 6,.int 3,.int 3,.int 4]);erw[0,l1,_,2,zG0 aP,emo,s4,λl2 hl2=>?_];let I2:=zC0 hl2 (.lst [.int 3,.int 30,.int 30,.int 8]);let J:=I1.trans I2;erw[0,l2,_,2,zG0 aP,ero,6];erw[f1,mo,ro,1,F3.same J,mo0,mo6,ro1,ro30,λdr a b ns tv ts p H4 hdr ha nl snok nd hb TS tl1 tl4 tok pp p3 p9 tp tc F4 B4=>?_];let k:GmK ns ts p:=%[pp,p3,p9,3,tl1,3,λt ht=>%[(tok t ht).1,Tr.ok_wf snok t (tok t ht).1,by have:=(tok t ht).2.1;omega|by have:=(tok t ht).2.2;omega],tp|tc]
 let T4:Same H H4:=λc o e=>B4 _ _ (aZ (T2 _ _ e) f10) (J _ _ (T3 _ _ e))
 let D4:Drn H4 dr a b tv ns ts p:=%[hdr,ha,hb,TS,k,nd,3|λy _=>IV k (λt ht=>by have:=(tok t ht).2.2;omega) y]
 clear T3 J I1 I2 B4 F4 F3 S3 hl1 hl2;erw[0,dr,_,(0),0,1,zA0 D4.hd,1,0,dr,_,(1),0,1,zA0 D4.hd,1,0,dr,_,(2),0,1,zA0 D4.hd,1,λg dx nx ndx nex=>?_];apply IM D4.ha D4.hb D4.TS D4.k D4.nd nx ndx λH5 S5 G5=>%[1|6]
 let T5:=T4.trans S5;let D5:=D4.mono (bh S5);erw[0,a0,sn,(2),1,T5.seq hS,h63,4,4,λf2 H6 f20 S6 F6=>?_];erw[0,a0,sn,(3),1,(T5.trans S6).seq hS,h63,4,4,λf3 H7 f30 S7 F7=>?_];erw[f3,(3),1,F7,4,4,λbx bs H8 bx0 bxf hbx bl _ _ F8 B8=>?_];let T68:Same H6 H8:=Same.but S7 f30 B8;let F28:=F6.same T68;let bx2:bx≠f2:=by
  erw[_,_,hf,_]at F6;exact Ne.symm (aZ (S7 _ _ hf) bx0)
 let bl3:bs.length=3:=bl;erw[1,λh0 hv H9 hh0 R0 S9=>?_];let U9:Same H5 H9:=S6.trans (T68.trans S9);erw[0,0,f2,bx,bs,(10),1,F28.same S9,S9 _ _ hbx,bx2,3,3,4,4,λh1 v1 r1 HA hh1 R1 g1 FA BA=>?_];let UA:Same H5 HA:=λc o e=>BA _ _ (aZ e f20) (U9 _ _ e)
 let kA:=bc (F28.same S9) BA;erw[0,a0,sn,(4),1,(T5.trans UA).seq hS,h63,4,4,λf4 HB f40 SB FB=>?_];let hbxB:=SB _ _ (BA _ _ bx2 (S9 _ _ hbx));obtain⟨x,ex⟩:∃x,atI (bs.map V.str) 0=some (.str x):=by
  cases bs with
  |nil=>cases bl3
  |cons x r=>erw[x,bv (j:=0) rfl]
 erw[0,bx,_,(0),0,1,zG0 hbxB,ex,f4,x,1,FB,λh2 v2 r2 HC hh2 R2 g2 FC BC=>?_];let UC:Same HA HC:=Same.but SB f40 BC;erw[s3,λLh hLh=>?_];let IL:=zC0 hLh (.lst [.ref h0,.ref h1,.ref h2]);let eL:upd HC Lh (.lst [.ref h0,.ref h1,.ref h2]) Lh=_:=aP;let F2C:=FA.same UC;let nL:Lh≠f2:=F2C.ne hLh;generalize upd HC Lh (.lst [.ref h0,.ref h1,.ref h2])=HD at IL eL;let UD:Same H5 HD:=UA.trans (UC.trans IL);let kD:=bh (UC.trans IL);let Ps:Ps83 HD f2 Lh h0 h1 h2 r1 r2:=%[F2C.same IL,nL,eL,%[%[_,kD _ _ (kA _ _ hh0)|(R0.mono kA).mono kD]|GJ],%[%[_,kD _ _ hh1|R1.mono kD]|g1]|%[%[_,IL _ _ hh2|R2.mono (bh IL)]|g2]]
 let DD:=D5.mono (bh UD);let tl:=DD.TS.length;erw[0,dr,_,(0),0,1,zA0 DD.hd,1,a,0,.inr (zA0 DD.ha),6];erw[0,dr,_,(1),0,1,zA0 DD.hd,1,b,0,.inr (zA0 DD.hb),2,.inr %[0|6]];obtain⟨m,em,em2⟩:∃m:Int,((ns.map V.str).length:Int)+(if decide ((tv.length:Int)>1)=true then(1:Int)else 0)=m/\m=(ns.length:Int)+((if 1<ts.length then 1 else 0:Nat):Int):=⟨_,rfl,by
  rw[zF0,tl]
  by_cases c:1<ts.length
  . rw[M8 c,M8 (zC1 #[0])];rfl
  . rw[M6 c,M6 (by rw[zD1 #[0]];decide)];rfl⟩
 erw[2,6];rw[em];let W:W83 K CG H5 a0 dr a b g f2 sn tv ns ts p m:=⟨T5.seq hS,h63,D5,G5,f20,em2⟩
 erw[(3),1,4,4,eK (λi σ H'=>∃x8 x9 x10 x11 x12:Option V,σ=CJ a0 dr g f2 Lh (some (.int fm)) (some (.ref bx)) m x8 x9 x10 x11 x12/\Same H5 H'/\Ps83 H' f2 Lh h0 h1 h2 r1 r2) %[_,_,_,_,0,UD|Ps] ?_ ?_]
 . rintro i σ H' hi ⟨x8,x9,x10,x11,x12,rfl,S',P'⟩;erw[a0,dr,a,b,g,f2,Lh,h0,h1,h2,_,_,_,_,_,_,m,i,sn,tv,r1,r2,ns,ts,p,H5,1,hi,W,S',P',λx9 x10 x11 x12 H'' S'' P''=>%[_,_,_,_,0,S''|P'']]
 . rintro σ H' ⟨x8,x9,x10,x11,x12,rfl,S',P'⟩;exact q H'
end
def kept_vals{a b c d e f g h i j k l:Tok}:Vals (kept.map V.str) [.str "yes" a,.str "no" b,.str "not" c,.str "and" d,.str "or" e,.str "odd" f,.str "same" g,.str "round" h,.str "due" i,.str "asked" j,.str "true" k,.str "coin" l]:=
 .cons %[|0] (.cons ⟨_,rfl⟩ (.cons ⟨_,rfl⟩ (.cons ⟨_,rfl⟩ (.cons ⟨_,rfl⟩ (.cons ⟨_,rfl⟩ (.cons ⟨_,rfl⟩ (.cons ⟨_,rfl⟩ (.cons ⟨_,rfl⟩ (.cons ⟨_,rfl⟩ (.cons ⟨_,rfl⟩ (.cons ⟨_,rfl⟩ .nil)))))))))))
def sign_vals{a b c d e f:Tok}:Vals (signW.map V.str) [.str "+" a,.str "-" b,.str "*" c,.str "/" d,.str "=" e,.str "<" f]:=
 .cons %[|0] (.cons ⟨_,rfl⟩ (.cons ⟨_,rfl⟩ (.cons ⟨_,rfl⟩ (.cons ⟨_,rfl⟩ (.cons ⟨_,rfl⟩ .nil)))))
def ask_vals{a b:Tok}:Vals (askW.map V.str) [.str "coin" a,.str "true" b]:=.cons %[|0] (.cons ⟨_,rfl⟩ .nil)
def plain_vals{a b c:Tok}:Vals (plainW.map V.str) [.str "round" a,.str "due" b,.str "asked" c]:=.cons %[|0] (.cons ⟨_,rfl⟩ (.cons ⟨_,rfl⟩ .nil))
end
abbrev FH(K:W.Frag)(x:Str)(s:Stmt):Prop:=∃f,W.nsIn K mainGlobals x=some (some (.ref f))/\∃fd,Fun K x x s f fd
abbrev MH(K:W.Frag)(C:Addr)(x y:Str)(s:Stmt):Prop:=∃g,W.findIn K (.ref C) x=some (some (.ref g))/\W.isFn K (.ref g)=true/\∃fd,Fun K x y s g fd
abbrev CH(K:W.Frag)(x:Str)(C:Addr):Prop:=W.nsIn K mainGlobals x=some (some (.ref C))/\W.plainGet K C Str.empty=true/\W.hasDictIn K C=true/\W.plainOver K C=true/\W.findIn K (.ref C) "__setattr__"=some (some (.builtin "object.__setattr__"))/\W.makesIn K C=true/\W.keepIn K (.ref C)=true
abbrev HF(K:W.Frag)(C:Addr)(x:Str):Prop:=W.findIn K (.ref C) x=some none
abbrev HZ(K:W.Frag)(x:Str):Prop:=W.nsIn K mainGlobals x=some none
def aY{K:W.Frag}{h:Heap}{mg:#[9]}(X:K.In h)(G:h.Ns mainGlobals mg)(z:FH K x s):∃f fd,Fun K x x s f fd/\mg x=some (.ref f):=by
 erw[f,a,fd,F]at z;erw[f,fd,F,qX1 X G a]
def de{K:W.Frag}(z:MH K C x y s):∃f fd,Fun K x y s f fd/\Meth K C x f:=by
 erw[f,a,i,fd,F]at z;erw[f,fd,F,a,i,F.kp]
def all_mk{l:PySem.W.OpenLaw}{w:World}{K:W.Frag}{h:Heap}{mg:#[9]}{fa fl CG C CA CM CS:Addr}(X:K.In h)(G:h.Ns mainGlobals mg)(hfa:mg "law"=some (.ref fa))
 {od an:Option Addr}{sl:Array (Option Value)}{oc kV dc pm cd ct:Value}
 {t1 t3 t4 t5 t6 u1 u2 u3 uh:Tok}{ka ja qa pa:Addr}{kd jd qd pd:Option Addr}{kits jits qits pits:Array Value}{kn jn qn pn:Nat}{ksl jsl qsl psl:Array (Option Value)}
 {te tm:Tok}
 (aL:W.nsIn K mainGlobals "law"=some (some (.ref fl)))(lL:K.lookup fl=some %[oc,od,.func (W.fnOf "law" "law" (jP mK) (gJ mK) (ao mK) .none kV dc pm an cd ct)|sl])(cL:W.codeIn K cd "law"=true)(kL:W.keepIn K (.ref fl)=true)
 (h0:FH K "is_field" ma)
 (h1:FH K "inverse_of" jz)
 (h2:FH K "is_number" kE)
 (h3:FH K "value_at" lS)
 (h4:FH K "both_ends" kH)
 (h5:FH K "value_behind" io)
 (h6:FH K "products" lW)
 (h7:FH K "inverse_factorials" eA)
 (h8:FH K "all_settings" iu)
 (h9:FH K "holds_at" jA)
 (h10:FH K "joined" qG)
 (h11:FH K "count_of" me)
 (h12:FH K "trees_within" ip)
 (h13:FH K "size_of" lh)
 (h14:FH K "names_in" jt)
 (h15:FH K "all_sizes" kJ)
 (h16:FH K "told_ahead" jr)
 (h17:FH K "counts_of" kG)
 (h18:FH K "true_row" lT)
 (h19:FH K "value_of" jq)
 (h20:FH K "op_value" lX)
 (h21:FH K "divided" oB)
 (h22:FH K "asked_once" jC)
 (h23:FH K "talked" qw)
 (h24:FH K "worth_of" jp)
 (h25:FH K "joined_worth" ir)
 (h26:FH K "degree_of" kF)
 (h27:FH K "look_switches" hE)
 (h28:FH K "look_names" ju)
 (h29:FH K "look_field" jv)
 (h30:FH K "look_size" ky)
 (h31:FH K "judged" qF)
 (h32:FH K "tell_numbered" gZ)
 (h33:FH K "tell" xV)
 (h34:FH K "is_name" oz)
 (h35:FH K "is_figures" jy)
 (h36:FH K "read_helper" iM)
 (h37:FH K "helper_row" jB)
 (h38:FH K "next_name" kx)
 (h39:FH K "next_figures" iq)
 (h40:FH K "next_term" iF)
 (h41:FH K "term_in_bracket" dO)
 (h42:FH K "honest" qH)
 (h43:FH K "read_talk" ku)
 (h44:FH K "talk_row" lU)
 (h45:FH K "talk_text" kq)
 (h46:FH K "row_text" lV)
 (h47:FH K "_law_feed" qE)
 (h48:FH K "_law_take" qz)
 (h49:FH K "_law_names" cq)
 (h50:FH K "_law_tree" mN)
 (h51:FH K "_law_names_of" hZ)
 (h52:FH K "_law_need" qA)
 (h53:FH K "_law_is_prime" jx)
 (h54:FH K "_law_field" ox)
 (h55:FH K "_law_game" qC)
 (h56:FH K "_law_term" mO)
 (h57:FH K "_law_helper" lZ)
 (h58:FH K "_law_liar" qB)
 (h59:FH K "_law_coins" oy)
 (h60:FH K "_law_degrees" kC)
 (h61:FH K "_law_worth" li)
 (h62:FH K "_law_mix" uB)
 (h63:FH K "_law_settings" jw)
 (h64:FH K "_law_sum" uA)
 (h65:FH K "_law_true" qy)
 (h66:FH K "_law_is_true" kz)
 (h67:FH K "_law_places" lY)
 (h68:FH K "_law_fits" qD)
 (gmc:CH K "Game" CG)
 (dbc:CH K "Doubter" C)
 (asc:CH K "Asking" CA)
 (mcc:CH K "Machine" CM)
 (scc:CH K "Scan" CS)
 (LS:MH K CG "__init__" "Game.__init__" uC)
 (gmmM:MH K CG "mix" "Game.mix" xY)
 (gmmW:MH K CG "worth_at" "Game.worth_at" qI)
 (gmmC:MH K CG "coins" "Game.coins" qJ)
 (dbmI:MH K C "__init__" "Doubter.__init__" uF)
 (dbmW:MH K C "waits" "Doubter.waits" qK)
 (dbmU:MH K C "due" "Doubter.due" ya)
 (dbmH:MH K C "hear" "Doubter.hear" uG)
 (dbmT:MH K C "toss" "Doubter.toss" uE)
 (dbmC:MH K C "hear_claims" "Doubter.hear_claims" oC)
 (dbmB:MH K C "begin_rounds" "Doubter.begin_rounds" qM)
 (dbmR:MH K C "hear_row" "Doubter.hear_row" xZ)
 (dbmG:MH K C "go_on" "Doubter.go_on" De)
 (dbmE:MH K C "look_at_trees" "Doubter.look_at_trees" qL)
 (dbmL:MH K C "looked" "Doubter.looked" oA)
 (asmI:MH K CA "__init__" "Asking.__init__" uI)
 (asmP:MH K CA "plain_value" "Asking.plain_value" qN)
 (asmC:MH K CA "coin_at" "Asking.coin_at" uJ)
 (asmN:MH K CA "true_numbers" "Asking.true_numbers" oE)
 (asmR:MH K CA "true_at" "Asking.true_at" uH)
 (mcmI:MH K CM "__init__" "Machine.__init__" uz)
 (mcmS:MH K CM "say" "Machine.say" xW)
 (mcmR:MH K CM "do_row" "Machine.do_row" xX)
 (scmI:MH K CS "__init__" "Scan.__init__" uy)
 (scmE:MH K CS "enter" "Scan.enter" qx)
 (scmS:MH K CS "sees" "Scan.sees" ux)
 (scmT:MH K CS "take" "Scan.take" uv)
 (scmW:MH K CS "word" "Scan.word" uu)
 (scmF:MH K CS "finish" "Scan.finish" ot)
 (pQ:HF K CG "switches")
 (gmn_trees:HF K CG "trees")
 (gmn_field:HF K CG "field")
 (gmn_degrees:HF K CG "degrees")
 (dbn_game:HF K C "game")
 (dbn_awaited:HF K C "awaited")
 (dbn_claims:HF K C "claims")
 (dbn_s:HF K C "s")
 (dbn_heard:HF K C "heard")
 (dbn_tossed:HF K C "tossed")
 (dbn_held:HF K C "held")
 (dbn_places:HF K C "places")
 (asn_game:HF K CA "game")
 (asn_number:HF K CA "number")
 (asn_many:HF K CA "many")
 (asn_held:HF K CA "held")
 (asn_s:HF K CA "s")
 (asn_tossed:HF K CA "tossed")
 (asn_truths:HF K CA "truths")
 (mcn_game:HF K CM "game")
 (mcn_helper:HF K CM "helper")
 (mcn_next_round:HF K CM "next_round")
 (mcn_boxes:HF K CM "boxes")
 (scn_text:HF K CS "text")
 (scn_row:HF K CS "row")
 (scn_most_within:HF K CS "most_within")
 (scn_most_parts:HF K CS "most_parts")
 (scn_place:HF K CS "place")
 (scn_parts:HF K CS "parts")
 (g1:W.nsIn K mainGlobals "LETTERS"=some (some (.str LET t1)))
 (g3:W.nsIn K mainGlobals "LONGEST_NAME"=some (some (.int 6 t3)))
 (g5:W.nsIn K mainGlobals "KEPT_WORDS"=some (some (.ref ka)))
 (g6:K.lookup ka=some %[.type "tuple",kd,.seq kits kn|ksl])
 (g7:kits.size<=100)
 (g8:Vals (kept.map V.str) kits.toList)
 (e1:W.nsIn K mainGlobals "WORD_ENDS"=some (some (.str ENDS t4)))
 (e2:W.nsIn K mainGlobals "MOST_WITHIN"=some (some (.int 8 t5)))
 (e3:W.nsIn K mainGlobals "MOST_PARTS"=some (some (.int 20 t6)))
 (w1:W.nsIn K mainGlobals "FIGURES"=some (some (.str FIG u1)))
 (w2:W.nsIn K mainGlobals "MOST_FIGURES"=some (some (.int 12 u2)))
 (w3:W.nsIn K mainGlobals "MOST_ROWS"=some (some (.int 60 u3)))
 (j5:W.nsIn K mainGlobals "SIGNS"=some (some (.ref ja)))
 (j6:K.lookup ja=some %[.type "tuple",jd,.seq jits jn|jsl])
 (j7:jits.size<=100)
 (j8:Vals (signW.map V.str) jits.toList)
 (q5:W.nsIn K mainGlobals "ASKING_WORDS"=some (some (.ref qa)))
 (q6:K.lookup qa=some %[.type "tuple",qd,.seq qits qn|qsl])
 (q7:qits.size<=100)
 (q8:Vals (askW.map V.str) qits.toList)
 (p5:W.nsIn K mainGlobals "PLAIN_WORDS"=some (some (.ref pa)))
 (p6:K.lookup pa=some %[.type "tuple",pd,.seq pits pn|psl])
 (p7:pits.size<=100)
 (p8:Vals (plainW.map V.str) pits.toList)
 (wh:W.nsIn K mainGlobals "HONEST_ROWS"=some (some (.str ("set i 0\nsay (true i)\nset i (+ i 1)\ngo 1":Str) uh)))
 (ge:W.nsIn K mainGlobals "FIELDS_END"=some (some (.int 1000000 te)))
 (xmo:W.nsIn K mainGlobals "MOST_ROWS_DONE"=some (some (.int 200 tm)))
 (z0:HZ K "len")(z1:HZ K "range")(z2:HZ K "isinstance")(z3:HZ K "int")(z4:HZ K "bool")(z5:HZ K "list")(z6:HZ K "tuple")(z7:HZ K "max")(z8:HZ K "min")(z9:HZ K "reversed")(z10:HZ K "enumerate")(z11:HZ K "sum")(z12:HZ K "all")(z13:HZ K "str"):
 ∃fd:FuncData,(∀(s:Shared) (v:Value),BindsTo s fd %[[v]|[]] [("_law_script",v)])/\∀base:Heap,K.In base->base.Ns mainGlobals mg->FnOk l.prog w K mg base CX0 28 fa fd ["_law_script"] (spLaw K):=by
 let e:=hfa.symm.trans (qX1 X G aL);cases e;let LU:=IN (st:=mK) lL cL kL;exists 1,A8,Kd,h0,pX,Jw,h1,u7,JV,h2,A9,Ke,h3,u8,JW,h4,lg,E4,h5,BW,Kf,h6,gV,m5,h7,lE,E5,h8,BY,B0,h9,Jx,KC,h10,B7,Kg,h11,lF,E6,h12,G7,G9,h13,B9,C0,h14,u9,JX,h15,qv,Jy,h16,vP,JY,h17,C1,Kh,h18,C2,C3,h19,C4,Ki,h20,Jl,Kw,h21,q0,Jz,h22,JA,KD,h23,C5,C6,h24,lG,E7,h25,vR,JZ,h26,jm,C7,h27,r6,JB,h28,r8,JC,h29,v3,J0,h30,JD,KE,h31,jo,C8,h32,Kx,LT,h33,Jm,Ky,h34,r9,JE,h35,oZ,Js,h36,sw,JF,h37,v4,J1,h38,l6,E8,h39,v5,v6,h40,t9,uj,h41,JG,KF,h42,v7,J5,h43,C9,Kj,h44,v8,J8,h45,Da,Kk,h46,JH,KG,h47,JI,KH,h48,Jn,Kz,h49,JK,JL,h50,sx,sy,h51,JM,KI,h52,sO,JN,h53,Jo,KA,h54,JO,KJ,h55,JP,JQ,h56,D6,Kl,h57,JR,KK,h58,Jp,KB,h59,w6,J9,h60,Jq,Jr,h61,Kb,LQ,h62,sP,JS,h63,Kc,LR,h64,JT,KL,h65,w8,Ka,h66,D7,Km,h67,JU,KM,h68;erw[gmgg,gmpg,gmhdi,gmpov,gmsat,gmmki,gmkcl]at gmc;erw[dbgg,dbpg,dbhdi,dbpov,dbsat,dbmki,dbkcl]at dbc;erw[asgg,aspg,ashdi,aspov,assat,asmki,askcl]at asc;erw[mcgg,mcpg,mchdi,mcpov,mcsat,mcmki,mckcl]at mcc;erw[scgg,scpg,schdi,scpov,scsat,scmki,sckcl]at scc;exists 2,KN,KO,LS,KP,KQ,gmmM,KR,KS,gmmW,KU,LV,gmmC,KW,KY,dbmI,KZ,K2,dbmW,K5,LW,dbmU,K7,Kn,dbmH,K8,Ko,dbmT,K9,LX,dbmC,La,Lb,dbmB,Lc,LY,dbmR,Ld,Le,dbmG,Lg,LZ,dbmE,Li,L3,dbmL,Lj,Ll,asmI,Lm,L4,asmP,Ln,L6,asmC,Lo,L7,asmN,Lq,L8,asmR,Lr,Ls,mcmI,Lu,L9,mcmS,Lv,Ma,mcmR,Lw,Lx,scmI,Ly,Mb,scmE,Lz,LA,scmS,LB,Mc,scmT,LC,Md,scmW,LD,Me,scmF;let B:Bl mg:=%[qE1 X G z0,qE1 X G z1,qE1 X G z2,qE1 X G z3,qE1 X G z4,qE1 X G z5,qE1 X G z6,qE1 X G z7,qE1 X G z8,qE1 X G z9,qE1 X G z10,qE1 X G z11,qE1 X G z12|qE1 X G z13]
 erw[W.fnOf "law" "law" (jP mK) (gJ mK) (ao mK) .none kV dc pm an cd ct,λs v=>.of_eq rfl,λbase _ _=>?_];let cal:=@Cal.of l.prog w K mg base;let TG:GTxt K mg CG:=%[%[gmpg,gmhdi,gmpov|gmsat],pQ,gmn_trees,gmn_field,gmn_degrees|qX1 X G gmgg]
 let T:DTxt K mg C:=%[%[dbpg,dbhdi,dbpov|dbsat],dbn_game,dbn_awaited,dbn_claims,dbn_s,dbn_heard,dbn_tossed,dbn_held,dbn_places|qX1 X G dbgg]
 let TA:ATxt K mg CA:=%[%[aspg,ashdi,aspov|assat],asn_game,asn_number,asn_many,asn_held,asn_s,asn_tossed,asn_truths|qX1 X G asgg]
 let TM:MTxt K mg CM:=%[%[mcpg,mchdi,mcpov|mcsat],mcn_game,mcn_helper,mcn_next_round,mcn_boxes|qX1 X G mcgg]
 let TS:STxt K mg CS:=%[%[scpg,schdi,scpov|scsat],scn_text,scn_row,scn_most_within,scn_most_parts,scn_place,scn_parts|qX1 X G scgg]
 let TX:Tx K mg:=%[%[t1|qX1 X G g1],%[t3|qX1 X G g3],%[ka,qX1 X G g5|λ_=>.inr %[_,kits,kn,g6,1,1,zT0 g7 (cH ⋯)|g8]],%[t4|qX1 X G e1],%[t5|qX1 X G e2],%[t6|qX1 X G e3],%[u1|qX1 X G w1],%[u2|qX1 X G w2],%[u3|qX1 X G w3],%[ja,qX1 X G j5|λ_=>.inr %[_,jits,jn,j6,1,1,zT0 j7 (cH ⋯)|j8]],%[qa,qX1 X G q5|λ_=>.inr %[_,qits,qn,q6,1,1,zT0 q7 (cH ⋯)|q8]]|%[pa,qX1 X G p5|λ_=>.inr %[_,pits,pn,p6,1,1,zT0 p7 (cH ⋯)|p8]]]
 let Mf:=KN.binds (ps:=["self","switches","trees","field"]) ‹X.a›;let LE:=KP.binds (ps:=["self","numbers","s"]) ‹X.a›;let LF:=KR.binds (ps:=["self","point","s"]) ‹X.a›;let Mg:=KU.binds (ps:=["self"]) ‹X.a›;let Kp:=KW.binds (ps:=["self","game"]) ‹X.a›;let LG:=KZ.binds (ps:=["self"]) ‹X.a›;let Mh:=K5.binds (ps:=["self"]) ‹X.a›;let Kq:=K7.binds (ps:=["self","values"]) ‹X.a›;let Kr:=K8.binds (ps:=["self","r"]) ‹X.a›;let Mi:=K9.binds (ps:=["self","values"]) ‹X.a›;let LH:=La.binds (ps:=["self","s"]) ‹X.a›;let Mj:=Lc.binds (ps:=["self","values"]) ‹X.a›;let LI:=Ld.binds (ps:=["self"]) ‹X.a›;let Ml:=Lg.binds (ps:=["self"]) ‹X.a›;let Mm:=Li.binds (ps:=["self"]) ‹X.a›;let Mn:=Lj.binds (ps:=["self","game","number","many","due","s","coins"]) ‹X.a›;let Mo:=Lm.binds (ps:=["self","word"]) ‹X.a›;let Mp:=Ln.binds (ps:=["self","place"]) ‹X.a›;let Mq:=Lo.binds (ps:=["self"]) ‹X.a›;let Mr:=Lq.binds (ps:=["self","place"]) ‹X.a›;let Ms:=Lr.binds (ps:=["self","game","helper"]) ‹X.a›;let Mt:=Lu.binds (ps:=["self","many","due","s","coins"]) ‹X.a›;let Mu:=Lv.binds (ps:=["self","place","said","asking"]) ‹X.a›;let Mv:=Lw.binds (ps:=["self","text","row","most_within","most_parts"]) ‹X.a›;let Mw:=Ly.binds (ps:=["self","within"]) ‹X.a›;let LJ:=Lz.binds (ps:=["self","signs"]) ‹X.a›;let Mx:=LB.binds (ps:=["self","signs"]) ‹X.a›;let Mz:=LC.binds (ps:=["self"]) ‹X.a›;let MB:=LD.binds (ps:=["self"]) ‹X.a›;let fc:=cal JH (AU JH B.len) KG ‹X.a›;let a7:=cal JI (AO JI ) KH ‹X.a›;let l7:=cal A8 (wp A8 ) Kd ‹X.a›;let d8:=cal pX (sJ pX ) Jw ‹X.a›;let e8:=cal u7 (uY u7 B) JV ‹X.a›;let du:=cal BW (wj BW ) Kf ‹X.a›;let eE:=cal gV (jY gV B du d8) m5 ‹X.a›;let gY:=cal lg (pJ lg B du eE) E4 ‹X.a›;let b6:=cal A9 (wa A9 B gY) Ke ‹X.a›;let kh:=cal u8 (vb u8 b6) JW ‹X.a›;let a8:=cal lF (pK lF ) E6 ‹X.a›;let ig:=cal G7 (rm G7 B G9 a8 10) G9 ‹X.a›;let dq:=cal B9 (pw B9 C0 a8 10) C0 ‹X.a›;let c9:=cal lG (pN lG ) E7 ‹X.a›;let fh:=cal C5 (pk C5 C6 c9 10) C6 ‹X.a›;let j4:=cal vR (uZ vR B.max dq) JZ ‹X.a›;let gH:=cal jm (oK jm B.enumerate) C7 ‹X.a›;let iX:=cal r6 (sE r6 dq) JB ‹X.a›;let i3:=cal r8 (sF r8 %[te|qX1 X G ge] l7) JC ‹X.a›;let j9:=cal v3 (uV v3 B.max) J0 ‹X.a›;let f8:=cal Jn (yk Jn B.range a7) Kz ‹X.a›;let fY:=cal JK (tu JK B.len JL a7 10) JL ‹X.a›;let b9:=cal sx (lI sx sy 10) sy ‹X.a›;let y6:=cal JM (AQ JM B.len B.max b9) KI ‹X.a›;let iW:=cal sO (sH sO B.range) JN ‹X.a›;let o6:=cal Jo (ym Jo a7 iW) KA ‹X.a›;let A0:=cal JO (AS JO B.range B.tuple a7 f8 fY y6 o6) KJ ‹X.a›;let e6:=cal u9 (vc u9 B TG ig) JX ‹X.a›;let MC:=‹DO.p› KN TG B.tuple B.len j4 gH iX i3 j9;let LK:=‹Gc.p› KP TG B.reversed;let LL:=‹AY.p› KR TG KQ LK LE fh;let ME:=‹AZ.p› KU TG B.len;let MF:=‹Bb.p› Lg B T TG KS LL LF e6;let LM:=‹Ik.p› Ld B T TG LZ MF Ml;let LN:=‹Bc.p› La T TG KQ LK LE Le LM LI;let MI:=‹yt.p› K9 B T TG Lb LN LH;let MJ:=‹Gf.p› Lc B T TG kh;let Ks:=‹DR.p› K7 B T TG e8 LX MI Mi LY MJ Mj;let Kt:=‹DP.p› K8 B T TG e8 b6 Lb LN LH Le LM LI;let Ku:=‹DQ.p› KW B T TG;let LO:=‹Ba.p› KZ T;let ML:=‹Gh.p› K5 T;let dj:=cal lE (pO lE B.range) E5 ‹X.a›;let g9:=cal Jx (AW Jx ) KC ‹X.a›;let fJ:=cal BY (pz BY B0 g9 12) B0 ‹X.a›;let l8:=cal B7 (wu B7 B.len dj fJ) Kg ‹X.a›;let kj:=cal vP (va vP TG l8) JY ‹X.a›;let l9:=cal C1 (wb C1 B TG KS LL LF dj) Kh ‹X.a›;let o8:=cal Jl (yr Jl d8) Kw ‹X.a›;let fK:=cal C4 (wk C4 o8) Ki ‹X.a›;let MN:=‹DT.p› Lj B TA;let MO:=‹Bd.p› Lm TA TG;let MP:=‹DU.p› Ln B TA TG;let MQ:=‹yu.p› Lo TA kj l9;let MR:=‹DS.p› Lq B TA TG L7 MQ Mq b6;let AF:AskF l.prog w K mg base CA CG _ _ _ _ _ _:=⟨L4,MO,Mo,L6,MP,Mp,L8,MR,Mr⟩
 let b7:=cal C2 (pq C2 C3 TA TG AF fK 5) C3 ‹X.a›;let MT:=‹DL.p› Lr TM;let MU:=‹FZ.p› Lv B TM b7;let MV:=‹FY.p› Lu B TM TA %[tm|qX1 X G xmo] ⟨asmki,Ll.1,Ll.2,askcl⟩ MN Mn Ma MU Mu;let Y:Ways l.prog w K mg base C CM CG _ _ _ _ _ _ _ _ _ _:=⟨K2,LO,LG,LW,ML,Mh,Kn,Ks,Kq,Ko,Kt,Kr,L9,MV,Mt⟩
 let MDk:Mk K C _:=%[dbmki,KY.1,KY.2|dbkcl]
 let MMk:Mk K CM _:=%[mcmki,Ls.1,Ls.2|mckcl]
 let gO:=cal q0 (sL q0 B T TM Y) Jz ‹X.a›;let A5:=cal JA (AL JA B T TM Y MDk Ku Kp MMk MT Ms gO) KD ‹X.a›;let MW:=‹DK.p› Lw TS;let MX:=‹AM.p› Ly TS;let LP:=‹DJ.p› Lz TS;let MY:=‹DI.p› LB B TS LA LP LJ;let MZ:=‹DH.p› LC B TX TS;let M1:=‹yj.p› LD B TS;let M:Mths l.prog w K mg base CS _ _ _ _ _ _ _ _ _ _:=%[Mb,MX,Mw,LA,LP,LJ,Mc,MY,Mx,Md,MZ,Mz,Me,M1|MB]
 let dz:=cal Jm (yp Jm B TX) Ky ‹X.a›;let bq:=cal r9 (sI r9 B TX) JE ‹X.a›;let c8:=cal v5 (nj v5 v6 t9 uj B TX TS M dz bq 8) v6 ‹X.a›;let km:=cal v4 (uU v4 TS M dz) J1 ‹X.a›;let fN:=cal l6 (pM l6 B TS M bq) E8 ‹X.a›;let i4:=cal sw (sK sw TX TS M %[scmki,Lx.1,Lx.2|sckcl] MW Mv km fN c8) JF ‹X.a›;let iE:=cal oZ (rA oZ B TX i4) Js ‹X.a›;let A3:=cal JG (AX JG ⟨uh,qX1 X G wh⟩ iE) KF ‹X.a›;let mD:=cal Da (wg Da B) Kk ‹X.a›;let kY:=cal v8 (uS v8 mD) J8 ‹X.a›;let mI:=cal C9 (we C9 B bq) Kj ‹X.a›;let kZ:=cal v7 (uT v7 B mI) J5 ‹X.a›;let Jv:=cal Kx (FX Kx T Kn Ks Kq Ko Kt Kr) LT ‹X.a›;let D8:=cal jo (oJ jo Jv) C8 ‹X.a›;let i9:=cal JD (AV JD B T MDk Ku Kp K2 LO LG D8) KE ‹X.a›;let eQ:=cal JP (tD JP B JQ a7 5) JQ ‹X.a›;let mQ:=cal D6 (wo D6 B a7 eQ) Kl ‹X.a›;let A4:=cal JR (AR JR a7) KK ‹X.a›;let pf:=cal Jp (yo Jp B a7) KB ‹X.a›;let ko:=cal w6 (uX w6 B b9) J9 ‹X.a›;let M3:=‹yq.p› Li T;let gn:=cal Jq (rC Jq B.int Jr 10) Jr ‹X.a›;let E3:=cal Kb (DN Kb ) LQ ‹X.a›;let i8:=cal sP (sG sP B.range) JS ‹X.a›;let iV:=cal Kc (DM Kc B i8 gn E3) LR ‹X.a›;let y9:=cal JT (AN JT B ko iV) KL ‹X.a›;let gU:=cal qv (sD qv B TG LV ME Mg e6) Jy ‹X.a›;let k9:=cal w8 (uW w8 B iV y9) Ka ‹X.a›;let mJ:=cal D7 (wn D7 B T MDk Ku Kp L3 M3 Mm Kn Ks Kq Ko Kt Kr) Km ‹X.a›;let A7:=cal JU (AT JU B TG i9 kY kZ mJ gU) KM ‹X.a›;let MGk:Mk K CG _:=⟨gmmki,KO.1,KO.2,gmkcl⟩
 exact Ii LU B TG MGk MC Mf fc a7 f8 A0 A3 mQ A4 pf A5 k9 A7
def walk{l:PySem.W.OpenLaw}{q:Program}{loose:List Str}{XP:(#[9])->Heap->Prop}{YP:World->Heap->Prop}{d:DefRec}{K:Params->PySem.W.Frag}(hn:l.most=some 63)(hdf:d.params.defaults=[])
 (hY:∀(w:World)(h:Heap),YP w h->(K w.params).In h)
 (F:∀(w:World)(mg:#[9])(fa:Addr)(h:Heap),(K w.params).In h->h.Ns mainGlobals mg->mg d.name=some (.ref fa) ->
  ∃fd:FuncData,(∀(s:Shared) (u:Value),BindsTo s fd %[[u]|[]] [("_law_script",u)])/\∀base:Heap,(K w.params).In base->base.Ns mainGlobals mg->FnOk l.prog w (K w.params) mg base CX0 28 fa fd ["_law_script"] (spLaw (K w.params))) :
 PySem.W.WalkO q loose XP YP l.row.toRowW d [] (λf vs=>PySem.call f vs):=
 L2.walk_of (n:=63) (k:=28) (x:="_law_script") (CX:=λ_=>CX0) (sp:=λw=>spLaw (K w.params)) hn ⋯ hdf %[1,1,4|4] hY F (λ_ _ a ns hl _ hS=>%[a,ns,1,hS,hl|λ_=>rfl]) λ_ _ _ _ _ z=>z
end Mine
namespace PySem.W.Fast
example:="GWsxHeFbHr9KOss9kT5bs5JHbe9NZ6sFZCU4V9evXq3w27kHTIDeV1y4SqW7ZVZ5TJCwA2dAxAEpL8htBO2H78dQAyxP1NIKEHD9xqkyi1tpsI5NkUxrROIvULAnfABnMJsgGD0biqYsp5TC0Q72yb3qKh26eo4EIN75sDe8n93fTToaERlYSMaR5no1fbZXrBpIEIGeR4aWF5kOE8Z7nHVhvL7x8Fifbxk2ndO3iBLA4kYTqEHq0uWDQ8By5BhxRIDcpRPSD3D9Vipjf5I4ZB89KLAn5G3AwmvJVN2hcFs1Eo12pWjK3Y4AhhY1pXN2DRSMx2p1Vb9MzWfvPw41XBT8Lr49f3am4i4Bf9dyLPBJEWSU1TxC2cACSe7jh3tRG5w1gW4FHGZE2RCNIenHaGuDHH6fRbQSO5JfcWBFIkYCy03NmiHDfYa1GDVB89yzVTf7DHvNW8Mlx019egDVZCFdtFoHhJE3111tG7BCC4bSxNM4Z8ZFSQjgAw5GTHWdHEPP8Fn6LmejiMZT6omqJjL2k4v6CmJv8Fc0gwDMp0EG5Qi4GCeEndspneACLK5pyg1aCbnL6l0S9zqsDZ5UcDpqOK1jsG2zqfREnniaE7knoobGKd2FXAMB4mTSf1A6ZBy3odib182lPdH3EaKM5cnzvat9oYx8W1XKyW5pHCI7K019bWeh9HQjE4doxOc5EaU4Qf0ALLNKUvcO5drkr32rKl4OQ2bPqFbBL9QI2P0UEDld4tZtwj16fCAHG5bQW96P29IckdcBM8ekXwOWVthSAr8zHhvH9YF0uEg2eKerr67il2J5KupY0KxSLmezO95kEScj1WK7ocMEAEB022m86X94GBPAL6sHT7ToLosN7oPV45SrwnclB0522lWDl4RDsi8BSQ1EIVun9Ki29JapLtvXDiEib9MNZFKBf1q0GNrqWG2QPTkHeMB2kD1hZwcpbtiR7A8OTQw9sBaGdrJZObnYIZF1Y7RhdBMqjDYotPtTwX7oGyvah9T6G2w3TuHoaOQhunLXgvUJabFw5B9R0nJppc9GFsTw95K7E1c9NnLS5QP3frIJGIXHXkvzK3J1RzRyh5RJHQhmiWEkSlU0NQQko4CajUHKkiRuyrol043PBoTM9AaYCzKmN1DnVEy7go7RfDBJFKIYHKACx10WCKWnTXsupgdEFMSEtRTSuKuE4PGAiAiKSjHWwz9zi9Da2LRRVFFDVoEcGpgdOizfSdP5DAAj2SwjnI5QmxOGPnXppEWoM8XTpapWHs8cpfoiauzHNoybIBWEFILOCqXQ6KtyQHfiGzb4Cjw0FRUXdluxSOHIDfFwuDzn5J5JndpwWGqzLBvF37yN0VtECiX0IDVFi5q5zGdm6Rad5rL5O4CyLpuoD3elpEo2QiD3CiDz0XJIQnU7IIQxsNk3GG25Q24nCsErYCMAOBFHq9jn0Uka4cuwFJO0fIIfjRRDrG5MytVenIa7c2rBLcn8YdFIIMoRcyvRU3x89XDcovyEHuDspoHyiiOsy5GhXKtMrDP12uvrhOphFfbHIaKcdqrc6T5Uk2t2e2AQyJ9fKBiJDsiT8XPv65lPiLyEjGp1ASq2ti4WnDefajr3G8KKtrzK8kIc7bPNha75k291ADU3vYWCMT2T42wXm1MJUB0u9CvmH97oH0hir0CyYQoHSdID2nTLnAFP91Nj0POw9D6L198Jn02KFwf8rQfet480VKetRPNW6IC0nVE7tvGgwKNeT7hYK5SP43kQESGzb6JHjUDtTb52c9IOzcuFnyMdh1xgehU23rACHVubskKcW6KLKKWpC9LovhHq4bNtIhzmr5Lj9f717pRlKd0gp0aIwRz5kaMXORN4An7K7AK0qoug07hEK4eTyRUrECvB0PtuSjJ6YXDeep2mBSKEgPYeN8cSY0a8ewydhjEgEld0zbOfpFZD61L3iPFUWaJjfGJglVBxmEGAemd8jqcOEq6PIfW50IvGtkP0cllEeh8EOYcbGQqpfL1YOAPP5Lsy1tjP1G9fcQ7AOXL5wmY1N6Jo2fftAsqL5GexvpzvkGqL6YY9GI3H16nBrvmlDJTPdHD1UdhB7z1XYGqkGTXkqrUbFBBYdlaYcnRASWAUMUKSx9JtYjdr2C7lQA0rsLdmldOJ7LmxgNUwrS3LYNslulfQhG6296TZixX5rB4exfFn4dfK2w5BxhuNefqCntr7onokAg2N7OZGKHAxe7c8K5GODfcX1i5fL5IgcRUEnDvfMppRuoD4wQqNp9pGYDDRGnV31Y9eDzcuNx2EiTh5HxGhOS0OhcCaT0JrLSFGk6TjKFFJbISHL4ircdDBcqs5hASSbkZhCz65fMWFrEC9EKQ47V5cq3onIPeE1PMVCjvDW6x23WCsa4JD2jUHK78rIHzpeiMxyv9KJwHxPtaReru1oYXtm81JgLBkMPEqkcd5CJaWYensL3RNDXS2E6OQ2fkDGNEHQVwIZ35CCmcUvKk2k4CWgdmObjLRGnta0baag3z5mxUUqfOM0q1WPYMaCCf7C9cz1N8H4C4SKpYDjEmkxHm1a0eBkEB5sr6pnWi6pia6vBPu5QlPhZWK56a5E4FTqUUA0RLjgH8RewCP25YF4G5t51O8UHOG7VOm2jUTAWcTnO2KKrrRCtjwwOKBhnTZ8huQCGloaiBjeMVnDONvTFiVM022Ja6q8Ed3R86fqqFVS6mmB9m5DQIZryBbKcfuAyenSNN59WBm3VwZrEFuYfrwgdZwb5JTbHp2UNZB4rt8mYkHP88ALXhmGIoYQ9FtENTmqlIpE1nxlJK1oykl4e4WKRIoYeU7ViQuNjFK5WBhmt0BxrcVvBt2YzDpaInuDoHDIsgV06V3BgVxrdoZ356qMcsWBHqu7FPrcOjI1SDLHkathYPsqrW8FuLJA5OEJ98XIdfRw8TrUK3NBoJ4DhmD7gJvugmookyLgPqb0Ml4iQFWJPM6hQqpmIc0K8INEYJvC5quRJPpwop7jv4dy4zOFYB6LjoD7yvzX40IF8T84LpL3EvCbyv7DVTFXGM9OFgZne8EcT6opSMjxA4GwuxabUCjH7s2yPFj8XlH2H6WcjI4dGGoKo1bKu0CBHRvzAb4xmxW0lJ1qDWBsLg7VfSJSKu6gKITPscUubaytFRSGsJEVUSxFaE26KulKWz45ARcU89jcm0NujMxXhWJwCCxFuTiaTM01537ywd4hYI4LMIzRf7C27Eb5bjRjtOeZ4fBbvRVvsXBEh95TJAs5Tt0vamoTDKyOhAlBCcrIc24C59GwdDZCuco1J0o5MEcjPS4zInF3m4AFE8SJdz0FCj3zC47SsjdoQu54oHKCDkKJR8FvLy0r5KQC6GowFVktFGNh0IWCUzoMROBDtmEpgjpvOqF6JHK5NcJDJ8bvdg2OQd43D15m8bqS0zuGHiNcjnVxrI44qozIJBpwIDPjlaHpRxgzE95z0WMhHNRH9XCc2xQsydBv9e47ihtgHAILX4GTMiOF852YPEr26GCLS2hWtwjn6s3qoISdGx9lgAUBRjF6gLQn1h4GnAxvoSG1WBnX84s21T8hDZIfJKkObDZ2R14zOzd46fEmUYmHrDnFjs753San93AY7k0T0rcrHAoLXnTxRHBXBjlP7xpGlo16ZiibZZrVQQEmBg5LYT99aCUl8wmRQ9mUAeEk5AIdKbrCVee3bswHUf4JN8YuPfS1o8iX1IbIq0bEKnNLQ3JGbTqJLEzvqesGeJ5VGhRU25EXqKgFeAwrsQuLDMtxmbI6dJvEQ7OgvbZPav7lT6wdRqZ2e7TKt5R75UyEKxqhJLpIFJiGXMkXNmMQYeJZnH1JEbPkN1sH4Y9aKhkT3dotcTl1oC1IkWSy4G9mX39rpVQk83qqyG9kSYpjGuHR0sk5YTLytug2sHurryW2ntF2q7C47RkRF8PrkjterDZ8Fg0emQUogkr0cyFpNtJiSU6dLeuH9WUkXBvhDBWKX5GVId6NIJh5aIO7eokfhufyGb1GvVrbr84fdIBPTfCUJfz3IGB7TFdYWs067AqYrJl25VAIfKxcz5t3t5vNH4tYL5YG1knDFdYMPdH9hrKugtIHlaFIIzYTlsmO58GMxc8SRUI43dHH7tyjYJo91dzrufKYlvHx7kKc1bF4x0bvtbHZtYNEBMRVV63dE0IFw3nJnyLQhDGX4Ue13hto7CXWeSPxjmNl1kpXTZdGLVR0gTPRPOYAU58RF5VS1BeX7I5ide1kI5Nn7PLdBoLTlwuFZ1BUUGeI5VLRuodEQ8lP68IQsEKngvue0IJb9I4zQTsIgnggZXupQh3S8lZtCWuRhC62IcDI3A1XCgSzaYrAAsa2GYyGtODzHSH6CJdz31l3R63gvgYzbXsY1LlQ6GbiIfMA2ny7xL5AHaEtxtVhc9z4pGZ4EtXUnDpoBn5cW5ja1D8KbEXacTLOKGIH0bwAM0dQv2I8CR4m0Nr3Dt1EXZpGKZr1NjNlYMB6xy5pk7HHnYSfW9v5w2iLAFeR94kpdSLxY6tHf2NkEwDhQNI99uf1TcaZ87y6McMoetdWDnx924SpdnZ3m8RJSEhdssJvTKJMNXtiBCnkQprntp923FcZHpeVlXf6jDuKnUU2JC3AeSiM1rsiI9GerpLOAV7lLXjKKz6KhzO5yfjWEPDL4CFH6cJkumg8w0d4yDcnlITQBt5Ce1jOrljBzoeQZhpTKZ4EXrBAoZytP3hDHWOJWmefAb8rTBMmMtuCVzoqmLkKht2HlQpKwizZ02g2W5mnI5ys4GPB9gRJ1PrDOD7jC7OaCF03NWqcEHtVV18PE29HPupgDc9mYS5oT2G00YUzZ67J21DjqmtTJYv2OIZpwosz3jyi33Pz9XOqse1IAmNbUAWyPOFVQdrxhj8Og1obge4NM3Uu3pBAVg6sFhU82mntndlPjO5dPnnK9pvHjDNANAXcrc4z5EHkf821VP48mXcZHWRVF51T4JUgwSfaw4Lh5NLNlGDX0ynflIAONnh1Vj0fxqpMUH884n6zUHarbLNR5UJ5wjIRL0keV9Wp79Q7M8a7FkbX9KB8CHKP2LLe3GsSlRxcbdCZA6AlXmFHJUmJHaIJfNU4QE86EohNQoFiJIPvEKJXPIqR86I2e1W6r6G96MkyOdsm4dD7qnc7br5x65wI1yxR2FfgCShuxDOE0sXASR7TlSwlOoGU1GArUJpmAAZvGBquI1gP1MtpqFDxaidDAiKfaDBfUJAoAxLxiwCm2H4XgOVa4bor0zBMEMFYx1BJtLlQnY5NsC4vRH5MmXycSBE9KdvXB4e8AHzptkMaWbS18oXghOHPMCJgfeGe3KkfNGovztm0NIvyGETaiQw8F3Z1Z7wA9vLbfeJSgKjbUWKPg01CuJvCdaAnA6OLKruGDJJFEW7CHcEC5e52TT9jzAr3m3UKO0hQXRhU1J9Qxrv9fqMKExzhfBULJa081QAHIeEaf6bfJvtKHqdh4LXjfOsbE9aAi9s9qVBifl1CKPIP36uBq9gI9IS3VhHD8f9ZV9b84eVGDvHXdin4Dq6pldKsKk2cYG2dQxayaBAQJQYxrUCNq1I3NYa7MgCahZKfQDcR7aPWvI5qUXn0WD9j1FR9Ah0oRvE9gR3N2kp9utHD2MA4qPV90DN6ihdXKuQbCkRBqwP8VKBK0L6tGjyFlaLj8kyeVBiI1GxBfxYvIazCBikO6L1P9qcG6QYogkLrV2IKFaq4cUmtR7Hb1KhMp5yVFiR9RIA17jzJGjZKz7uJE396SqwMbIWDb8TH7rgjbgAF6u5XU9mcpFX8lmfnFPIsV3Huur4YIsqWiEPIwMOU4cGDH5KUccw07eI8nIyfP57VwOIeK1uKI3JqG9XkjK0RkObRHV03zCiSZBiHw7Wv94K8p8EPIXErz12Ha8GMM5VJfR0eFN91TyZCtPX17MNIaEisJRITo27KrpZBK722bk861GIJ7WpLj0ekgQx7wBxlOnIFuqKgdwOg0oPMNAyZvDNCWDiQEGdwEYM9LgxD2FM5RE8wRoDmK9ypAsuLbEV58M4jtcEi10kjgzkrD5wEAe8eeOcZ1B9ptyKUGuxzN48RjoqudZVBFglMq7YKkZk2L2r7SOfOtsGZrqBoSGFxX1si1v4LIZywBGflil8sE4MLnTUj8ZF5tH6akfjcM2dIp2EIRCduLnYi2OUliSRFYsg5mRFuybEB0B7OOt0UXxOJW2htCj4uTwVs7MKGS34NxMuEnnlAakR7VE6Menikdempu3hvUQ841HDM6Xf1dkKuYwLCW8E7AkqG5oDNS9EzUsAXq5I530jwDd0m6Ciyw6MsLI9GIZIK6ziDoM2Uh1c7x4oHZLIVYVnjwUJG5JoizLmSvel8QJ2diM4ClX5Jw8nqZVsKg2UBcPCFaUfp39kiNuPbWbdLXgGz93oNyL4L6ZJSuvK9R62Z3otws6gW8Odo7w4Ivg01ZYUGYunkUF2F58br5n5RP1ifwbelA4mIH7jVcGx2h3P4IhMFTLu7l99brWzSaIXH4DXTnkRZXwTA8DOfquYDYntDtuAKVraWCd5tYTx6S9Rb4JlpXEpEOUTu6c2WRwslyqaEIsgqbNPC0NLxqyn54EJdhEIackSdCZQXEldpv71TsQZ3ypUne1Ib60781suAIoXdm4RUqeV8TL4v9xh9gaxLc8mCQgIQuZyRRbLM3jduxhXIbLEvPCnfQCId7247bUJuiMSElB1L44EfzPG0CPFleheYFJrpipJHpoo0E11EjAUuoQH1IEnMPtQlA1DW3ygnEgerrLShVQIrBY5oAOj0n5FCGNyKqz8UbqzDc06CU4e0lFWZHFzxweYTzKQrIixJgw690c17baeayYlUl7KPRYUyRQ56c6VuTYliGhySLsB06Ro43VdIBdfVtsMXNP31pQno6NaOK7nQ4ImI53Au03NG3rcgvGo0rHG8DAP4hQBBq0rorWRtb1YPw6wbN4X6D1lz9g7fyBJLfFOmCPoycUG1tmo2Vvc7L4F5BTesq8u67XT8bPr6fMz"
end PySem.W.Fast
open PySem PySem.W PyProof.Rows
set_option maxRecDepth 100000 in
set_option maxHeartbeats 0 in
theorem PySem.Challenge.cw_asktally_k83_whole_talks_holds : PySem.Challenge.rw_asktally_k83_whole_talks.Holds := by
 w_on; o_law; k_head; (case hw=>w_witness2)
 k_fill
 apply Mine.walk (l:=PySem.Challenge.rw_asktally_k83_whole_talks) rfl rfl (λw h Y=>PySem.W.kIn_of Y) ?F
 case F =>
  intro w mg fa h KX G hmg
  refine' Mine.all_mk KX G hmg ?aL ?lL ?cL ?kL ?h0 ?h1 ?h2 ?h3 ?h4 ?h5 ?h6 ?h7 ?h8 ?h9 ?h10 ?h11 ?h12 ?h13 ?h14 ?h15 ?h16 ?h17 ?h18 ?h19 ?h20 ?h21 ?h22 ?h23 ?h24 ?h25 ?h26 ?h27 ?h28 ?h29 ?h30 ?h31 ?h32 ?h33 ?h34 ?h35 ?h36 ?h37 ?h38 ?h39 ?h40 ?h41 ?h42 ?h43 ?h44 ?h45 ?h46 ?h47 ?h48 ?h49 ?h50 ?h51 ?h52 ?h53 ?h54 ?h55 ?h56 ?h57 ?h58 ?h59 ?h60 ?h61 ?h62 ?h63 ?h64 ?h65 ?h66 ?h67 ?h68 ?gmc ?dbc ?asc ?mcc ?scc ?LS ?gmmM ?gmmW ?gmmC ?dbmI ?dbmW ?dbmU ?dbmH ?dbmT ?dbmC ?dbmB ?dbmR ?dbmG ?dbmE ?dbmL ?asmI ?asmP ?asmC ?asmN ?asmR ?mcmI ?mcmS ?mcmR ?scmI ?scmE ?scmS ?scmT ?scmW ?scmF ?pQ ?gmn_trees ?gmn_field ?gmn_degrees ?dbn_game ?dbn_awaited ?dbn_claims ?dbn_s ?dbn_heard ?dbn_tossed ?dbn_held ?dbn_places ?asn_game ?asn_number ?asn_many ?asn_held ?asn_s ?asn_tossed ?asn_truths ?mcn_game ?mcn_helper ?mcn_next_round ?mcn_boxes ?scn_text ?scn_row ?scn_most_within ?scn_most_parts ?scn_place ?scn_parts ?g1 ?g3 ?g5 ?g6 ?g7 ?g8 ?e1 ?e2 ?e3 ?w1 ?w2 ?w3 ?j5 ?j6 ?j7 ?j8 ?q5 ?q6 ?q7 ?q8 ?p5 ?p6 ?p7 ?p8 ?wh ?ge ?xmo ?z0 ?z1 ?z2 ?z3 ?z4 ?z5 ?z6 ?z7 ?z8 ?z9 ?z10 ?z11 ?z12 ?z13
  case aL|lL|cL|kL=>k_is
  case h0|h1|h2|h3|h4|h5|h6|h7|h8|h9|h10|h11|h12|h13|h14|h15|h16|h17|h18|h19|h20|h21|h22|h23|h24|h25|h26|h27|h28|h29|h30|h31|h32|h33|h34|h35|h36|h37|h38|h39|h40|h41|h42|h43|h44|h45|h46|h47|h48|h49|h50|h51|h52|h53|h54|h55|h56|h57|h58|h59|h60|h61|h62|h63|h64|h65|h66|h67|h68=>exact%[_,by k_is,_,%[_,_,_,_,_,_,_,_,0,by k_is|by k_is]|by k_is]
  case gmc|dbc|asc|mcc|scc=>exact%[by k_is,by k_is,by k_is,by k_is,by k_is,by k_is|by k_is]
  case LS|gmmM|gmmW|gmmC|dbmI|dbmW|dbmU|dbmH|dbmT|dbmC|dbmB|dbmR|dbmG|dbmE|dbmL|asmI|asmP|asmC|asmN|asmR|mcmI|mcmS|mcmR|scmI|scmE|scmS|scmT|scmW|scmF=>exact%[_,by k_is,by k_is,_,%[_,_,_,_,_,_,_,_,0,by k_is|by k_is]|by k_is]
  case pQ|gmn_trees|gmn_field|gmn_degrees|dbn_game|dbn_awaited|dbn_claims|dbn_s|dbn_heard|dbn_tossed|dbn_held|dbn_places|asn_game|asn_number|asn_many|asn_held|asn_s|asn_tossed|asn_truths|mcn_game|mcn_helper|mcn_next_round|mcn_boxes|scn_text|scn_row|scn_most_within|scn_most_parts|scn_place|scn_parts=>delta Mine.HF; k_is
  case g1|g3|g5|g6|e1|e2|e3|w1|w2|w3|j5|j6|q5|q6|p5|p6|wh|ge|xmo=>k_is
  case g7|j7|q7|p7=>decide
  case g8=>exact Mine.kept_vals
  case j8=>exact Mine.sign_vals
  case q8=>exact Mine.ask_vals
  case p8=>exact Mine.plain_vals
  case z0|z1|z2|z3|z4|z5|z6|z7|z8|z9|z10|z11|z12|z13=>delta Mine.HZ; k_is
