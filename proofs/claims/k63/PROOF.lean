import PyProof.Rows.All
import Wide.All
import OpenK.AllK
import Wide.FinOn
import Lean
import PyProof.EqAt
import PyProof.EqKinds
import PyProof.TupleCall
import PySem.Challenge.RW_asktally_k63_whole_best_liar
set_option Elab.async false
set_option linter.all false
set_option maxRecDepth 100000
set_option bootstrap.genMatcherCode false
set_option compiler.extract_closed false
local macro_rules|`(%[$xs,*|$y])=>do
 if y.raw.isIdent then if y.raw.getId==`List.nil then Lean.Macro.throwUnsupported
 if y.raw.isIdent then if y.raw.getId==`ae then return←xs.getElems.foldrM (fun x a=>do match x.raw.isNatLit? with|some _=>`($(Lean.mkIdent `aa) ($(Lean.mkIdent `pv) $x) $a)|_=>`($(Lean.mkIdent `aa) $x $a)) y
 let h←`(_);let r←`(rfl);let q←`(?_);let a←`(by omega);let b←`(by decide);let i:=Lean.mkIdent;let u←`($(i `aE) ($(i `neS) $b) ?_);let c←`($(i `T.cl))
 let o:=(xs.getElems.push y).flatMap fun x=>match x.raw.isNatLit? with|some 0=>#[h,r]|some 1=>#[r]|some 2=>#[h,h,r,r]|some 3=>#[a]|some 4=>#[b]|some 5=>#[r,r,r,b,r,b,b]|some 6=>#[q]|some 7=>#[u]|some 9=>#[c]|_=>#[x]
 `(⟨$o,*⟩)
local macro_rules|`(tactic|let%[$xs,*|$y]:=$e)=>do
 let g:=fun(f:Lean.Term->Lean.MacroM (Lean.TSyntax `rcasesPat))(t:Lean.Term)=>show Lean.MacroM (Lean.TSyntax `rcasesPat) from do
  match t with
  |`(%[$xs,*|$y])=>
   let p←(xs.getElems.push y).mapM fun x=>do let p←f x;`(Lean.Parser.Tactic.rcasesPatLo|$p:rcasesPat)
   `(rcasesPat|⟨$p,*⟩)
  |`($i:ident)=>`(rcasesPat|$i:ident)
  |_=>if t.raw.isNatLit?==some 1 then`(rcasesPat|$(Lean.mkIdent `rfl):ident)else`(rcasesPat|_)
 let p←g (g (g (g (g (g fun _=>`(rcasesPat|_)))))) (←`(%[$xs,*|$y]))
 `(tactic|obtain $p:rcasesPat:=$e)
local macro_rules|`(tactic|erw[$xs,*]$[at $h:ident]?)=>do
 let o:Array Lean.Term:=xs.getElems.map fun x=>⟨x.raw[1]⟩
 let l:=o.back!;let o:=o.pop
 match h with|some h=>`(tactic|let%[$o,*|$l]:=$h)|_=>`(tactic|refine %[$o,*|$l])
local macro_rules|`(⋯)=>`(by decide)
local macro_rules|`(#[1])=>`(λ _ _=>rfl)|`(#[2])=>`(by simp)|`(#[0])=>`(by omega)|`(#[$f:ident,$i:num,$s:ident,$e])=>`($f (i:=$i) ($s).nd rfl (Or.inl rfl) $e)
local macro_rules|`(tactic|exists $x:ident)=>do
 let i:=Lean.mkIdent
 `(tactic|refine $(i `F.ok) $x (fun _ _ _ _ h=>by cases h;subst_vars;rfl) (fun $(i `cdv) $(i `A) $(i `outer) $(i `s) $(i `H) $(i `vs) $(i `Q) $(i `E) $(i `hr) $(i `h)=>?_))
local macro_rules | `(tactic|omega)=>`(tactic|first | lia | omega +splitDisjunctions)
local macro_rules | `(command|def $n:declId $s:optDeclSig $b:declVal)=>`(command|noncomputable def $n:declId $s:optDeclSig $b:declVal)
local macro_rules | `(tactic|decide)=>`(tactic|decide +kernel)
local macro_rules | `(tactic|rfl')=>`(tactic|with_unfolding_all rfl)
local macro_rules | `(tactic|ac_rfl)=>`(tactic|(intro _ _ _ _ _ _ us hl;rcases us with _|⟨a,_|⟨b,_|⟨c,_|⟨d,_|⟨e,_|⟨f,_|⟨g,_|⟨h,us⟩⟩⟩⟩⟩⟩⟩⟩<;>first|rfl|(simp at hl)))
local macro_rules|`(#[$n,$f:ident,$d:ident,$p,$s])=>let i:=Lean.mkIdent;`($(i `FnOk) $(i `P) $(i `w) $(i `K) $(i `mg) $(i `base) $(i `CX0) $n $f $d $p $s)|`(#[$n,$x:str,$p,$s])=>let i:=Lean.mkIdent;`($(i `Cal) $(i `P) $(i `w) $(i `K) $(i `mg) $(i `base) $n $x $p $s)
local macro_rules|`(‹$x:ident›)=>return Lean.mkIdentFrom x (x.getId++`heap.objs.size)
local macro_rules|`(#[3])=>let i:=Lean.mkIdent;`($(i `CompScope.one) (by rfl') ⋯ rfl ⋯ rfl ⋯ (by rfl') (by rfl') (by rfl') rfl rfl)|`(#[4])=>let i:=Lean.mkIdent;`($(i `CompScope.two) (by rfl') ⋯ rfl ⋯ rfl ⋯ (by first | exact Or.inl rfl | exact Or.inr rfl) (by rfl') (by rfl') (by rfl') (by rfl') rfl rfl (by rfl') rfl rfl)|`(#[5])=>let i:=Lean.mkIdent;`($(i `CompScope.closed) (by rfl') ⋯ rfl ⋯ rfl (by rfl'))
local macro_rules|`(tactic|exists $n:num,$xs,*)=>do
 let i:=Lean.mkIdent;if n.getNat==4 then return ←`(tactic|intro $(i `O7) $(i `s) $(i `σ) $(i `H) $(xs.getElems)*)
 let i:=Lean.mkIdent;let a:=xs.getElems;let mut r:Array (Lean.TSyntax `tactic):=#[]
 for k in [0:a.size/3] do
  let z:=a[3*k+2]!;let v←if n.getNat==1 then`($(i `aU) $(i `X) $(i `G) $z)else`($(i `cS) $z)
  r:=r.push (←`(tactic|let%[_,_,$(a[3*k]!)|$(a[3*k+1]!)]:=$v))
 `(tactic|($[$r];*))
local macro_rules|`(tactic|exists 3)=>let n:=Lean.mkIdent `no;`(tactic|refine ⟨fun vs H Q E h=>absurd h ($n vs H Q E),fun A outer s H args us vs Q E _ _ _ _ h=>absurd h ($n vs H Q E)⟩)
local macro_rules|`(command|instance $n:declId $s:declSig:=$v)=>do
 if v.raw.isNatLit?==none then Lean.Macro.throwUnsupported
 let i:=Lean.mkIdent;let b:=s.raw[0].getArgs
 let c:Lean.TSyntaxArray ``Lean.Parser.Term.bracketedBinder:=b.map (⟨·⟩)
 let a:Array Lean.Term:=b.flatMap fun x=>x[1].getArgs.map (⟨·⟩)
 let o:=v.raw.isNatLit?==some 1
 let r:=Lean.Syntax.mkApp ⟨n.raw[0]⟩ (if o then a++#[i `vs,i `H,i `Q,i `Pa]else a)
 let t:Lean.Term←Nat.repeat (fun (g:Lean.Term->Lean.MacroM Lean.Term) (t:Lean.Term)=>show Lean.MacroM Lean.Term from if t.raw.isOfKind ``Lean.Parser.Term.forall then do return⟨t.raw.setArg 4 (←g ⟨t.raw[4]⟩)⟩else if t.raw.isOfKind ``Lean.Parser.Term.arrow then do return⟨t.raw.setArg 2 (←g ⟨t.raw[2]⟩)⟩else`($t->$r)) 60 pure ⟨s.raw[1][1]⟩
 let m:=i `mk
 if o then`(command|inductive $n:declId $c* ($(i `vs):ident:List $(i `V)) ($(i `H):ident:$(i `Hp)) ($(i `Q):ident:$(i `VK)) ($(i `Pa):ident:$(i `XK)):Prop
 |$m:ident:$t)
 else`(command|inductive $n:declId $c*:Prop
 |$m:ident:$t)
local macro_rules|`(tactic|let $d:letDecl)=>if d.raw[0].isOfKind ``Lean.Parser.Term.letIdDecl then`(tactic|have $d:letDecl)else Lean.Macro.throwUnsupported
local macro_rules|`(let $d:letDecl;$b)=>`(have $d:letDecl;$b)
local macro_rules|`(command|example:=[$xs,*])=>do
 let a:=xs.getElems;let i:=Lean.mkIdent;if a[0]!.raw.isIdent then
  let c:Array Lean.Command←(Array.range (a.size/2)).mapM fun k=>do
   let x:Lean.Ident:=⟨a[2*k]!⟩;let y:=a[2*k+1]!
   if y.raw.isIdent then`(command|abbrev $x:ident := @$(⟨y.raw⟩):ident)else if y.raw.isOfKind `«term[_]» then`(command|abbrev $x:ident : List PySem.Str := $y)else if y.raw.isNatLit?.isSome then`(command|abbrev $x:ident : $(i `Stmt) := $(i `top) $y)else`(command|abbrev $x:ident : $(i `Stmt) := $(i `bp) $(⟨y.raw[0]⟩) $(⟨y.raw[1][0]⟩))
  return Lean.mkNullNode c
 Lean.Macro.throwUnsupported
local macro_rules|`(command|example:=$t:str)=>do
 let l:=t.getString.toList
 let c←(Array.range (l.length/11)).mapM fun k=>`(command|noncomputable def $(Lean.mkIdent (.mkSimple s!"tw{((l.drop (11*k)).take 11).foldl (fun a c=>let n:=c.toNat;a*62+(if n<58 then n-48 else if n<91 then n-55 else n-61)) 0}")):ident:=())
 return Lean.mkNullNode c
local macro_rules|`(#[6])=>let i:=Lean.mkIdent;`($(i `Value)->$(i `Shared)->Prop)|`(#[7])=>let i:=Lean.mkIdent;`(List ($(i `Addr)×$(i `Obj)))|`(#[8])=>let i:=Lean.mkIdent;`($(i `Inv) $(i `X) $(i `O7) $(i `σ))|`(#[9])=>let i:=Lean.mkIdent;`($(i `Str)->Option $(i `Value))
local macro_rules|`(#[$e,0])=>`(by simpa using $e)
local macro_rules|`(tactic|exists 5)=>let i:=Lean.mkIdent;`(tactic|(intro $(i `X) $(i `hP) $(i `hw) $(i `hK) $(i `hc) $(i `i) $(i `O7) $(i `s) $(i `σ) $(i `H) $(i `E) $(i `I) $(i `hf) $(i `st) $(i `hg);subst $(i `hP) $(i `hw) $(i `hK)))
local macro_rules|`(#[$x:str,$s:ident])=>let i:=Lean.mkIdent;`($(i `Fun) $(i `K) $x $x $s $(i `f) $(i `fd))|`(#[$x:str,$y:str,$s:ident])=>let i:=Lean.mkIdent;`($(i `Fun) $(i `K) $x $y $s $(i `f) $(i `fd))
local macro_rules|`(tactic|apply $e)=>`(tactic|refine $e)
local macro_rules|`(‹$x:ident›)=>do
 let i:=Lean.mkIdent;let n:=x.getId
 if let .str m "p":=n then return←`($(i m) (P:=$(i `l.prog)) (w:=$(i `w)) (base:=$(i `base)))
 if n==`X.a then`(by ac_rfl)else if n==`X.w then`($(i `wpAny) ($(i `model) $(i `X.prog) $(i `X.w)) $(i `X.A))else if n==`w.A then`($(i `wpAny) ($(i `model) $(i `prog) $(i `w)) $(i `A))else if n==`Tk.s then`(($(i `Tk.new) $(i `ts)).said $(i `ns) $(i `ts) $(i `p) $(i `rows))else if n==`Tk.a then`(($(i `Tk.new) $(i `ts)).ask $(i `ns) $(i `ts) $(i `p) $(i `rows))else Lean.Macro.throwUnsupported
noncomputable section
section
open PySem PySem.Spec PyProof.Rows
def O8.{u}{c:Prop}{h:Decidable c}(hc:¬c){α:Sort u}{t e:α}:ite c t e=e:=if_neg hc
def O9.{u}{c:Prop}{h:Decidable c}(hc:c){α:Sort u}{t e:α}:ite c t e=t:=if_pos hc
example:=[zD0,wpAny_bind,zF0,List.length_map,zH0,Nat.le_refl,zI0,wpAny_pure,zJ0,List.length_append,zK0,List.map_append,zL0,List.getElem?_eq_getElem,zN0,Heap.lt_size]
def Pg.{u}{α:Type u}{a b:α}(h:a∈[b]):a=b:=List.mem_singleton.mp h
example:=[zP0,Nat.le_trans,zQ0,Heap.get?_push_of_some,zR0,List.length_cons,zS0,Option.some.inj,zT0,List.size_toArray]
def Pj.{u}{α:Type u}{l:List α}{i:Nat}{a:α}(h:l[i]?=some a):∃h:i<l.length,l[i]=a:=List.getElem?_eq_some_iff.mp h
abbrev zV0:=@Nat.ne_of_lt
abbrev zW0:=@Nat.zero_le
def zX0.{u}{α:Type u}{a b:α}{l:List α}(h:a∈b::l):a=b∨a∈l:=List.mem_cons.mp h
example:=[zY0,List.getElem?_map,zZ0,List.map_cons,qA0,List.mem_cons_self,qB0,List.take_length,qC0,List.take_add_one,qD0,Heap.get?_push_size,qE0,Int.emod_nonneg,qF0,List.mem_of_getElem?,qG0,Int.emod_lt_of_pos,qH0,Bool.false_ne_true,qI0,List.length_take,qJ0,List.getD_eq_getElem?_getD,qK0,List.mem_cons_of_mem,qL0,Int.emod_eq_of_lt,qM0,List.length_singleton]
def qN0.{u}{α:Type u}{a:α}{s t:List α}(h:a∈s++t):a∈s∨a∈t:=List.mem_append.mp h
example:=[qO0,Nat.le_succ,qP0,List.getElem_mem,qQ0,Nat.lt_of_lt_of_le,qR0,List.length_range,qS0,Nat.lt_irrefl]
def qT0{α β:Type}{f:α->β}{x:Option α}{b:β}(h:x.map f=some b):∃a,x=some a/\f a=b:=Option.map_eq_some_iff.mp h
example:=[qU0,List.mem_append_right,qV0,Int.toNat_natCast,qW0,Int.mul_le_mul_of_nonneg_left]
end
section
open PySem PySem.Spec PyProof.Rows
example:=[zB1,decide_eq_false,zC1,decide_eq_true,zD1,PySem.boot_len,zE1,PassesOwn.never,zF1,PySem.F.plainAttrs_list,zG1,Nat.succ_le_succ,zH1,List.length_nil,zJ1,Nat.lt_of_le_of_lt,zK1,List.getElem?_append_right,zL1,PySem.F.slot_list_append,zM1,PySem.F.type_list_append,zN1,PyProof.Rows.callWith_type1,zO1,PyProof.Rows.boot_isinstance,zP1,wpAny_newObj_type,zQ1,PySem.F.plainAttrs_str,zR1,List.length_replicate,zS1,wpAny_callSpecial?_slot,zT1,Int.dvd_of_emod_eq_zero,zU1,List.getElem?_append_left,zV1,List.sum_cons,zW1,wpAny_field,zX1,wpAny_ite_split,zY1,of_decide_eq_true,zZ1,List.range_succ,qA1,Str.length_append,qB1,List.replicate_succ,qC1,Int.eq_ofNat_of_zero_le,qD1,wpAny_truthy_bool,qE1,W.mg_none_of,qF1,Array.length_toList,qG1,PySem.mem_of_lookup,qH1,Int.le_refl,qI1,wpAny_setField_rec,qJ1,Int.pow_succ,qK1,PySem.W.kia_one,qL1,wpAny_call_entry,qM1,PySem.F.slot_str_join,qN1,PySem.F.type_str_join,qO1,wpAny_seqItems,qP1,List.length_set,qQ1,List.filter_append,qR1,Nat.lt_succ_self,qS1,List.not_mem_nil,qT1,PyProof.Rows.slot_tuple_getitem,qU1,List.map_congr_left,qV1,List.append_nil,qW1,Int.mul_comm,qX0,Int.mul_emod,qX1,Int.add_emod,qY0,Calls.spliced_cons,qY1,Bool.and_eq_true,qZ0,lookup_relabel_local,qZ1,Int.zero_add,jA0,List.flatten_cons,jA1,call_meets,jB0,F.slot_tuple_iterator_next,jB1,W.mg_of,jC0,F.plain_max_loop,jC1,wpAny_Call_Name_kw,jD0,List.mem_cons,jD1,Int.emod_add_mul_ediv,jE0,Int.emod_emod,jE1,PyProof.Rows.boot_max,jF0,List.mem_singleton,jF1,Heap.size_push,jG0,wpAny_passesOwn,jG1,wpAny_pyIter_list,jH0,Calls.spliced_nil,jH1,List.append_assoc,jI0,wpAny_comprehension_free,jI1,List.filter_congr,jJ0,List.any_cons,jJ1,wpAny_of_eq,jK0,wpAny_getItem_str_slice,jK1,Int.emod_eq_zero_of_dvd,jL0,List.getElem?_range,jL1,Int.zero_emod,jM0,Str.cps_append,jN0,List.getElem?_set_self,jN1,Calls.callWith_builtin,jO0,wpAny_pyIter_tuple,jO1,Int.mul_one,jP0,builtinLookup_eq_fast,jP1,Nat.le_add_left,jQ0,List.find?_cons,jQ1,Int.natCast_add,jR0,List.length_filter_le,jR1,PyProof.Rows.boot_all,jS0,wpAny_mono,jS1,wpAny_holding,jT0,Int.le_of_dvd,jT1,Int.fdiv_eq_ediv_of_nonneg,jU0,List.getElem?_set_ne,jU1,Calls.evalArgs_plain,jV0,List.count_le_length,jV1,List.drop_zero,jW0,List.drop_eq_getElem_cons,jW1,List.length_drop,jX0,List.getElem_of_mem,jX1,wpAny_letGo,jY0,Nat.ne_of_gt,jY1,PySem.F.args_tuple_add_2,jZ0,PySem.F.plainAttrs_tuple,jZ1,Int.lt_or_le,wA0,Int.mul_nonpos_of_nonneg_of_nonpos,wA1,Int.natCast_nonneg,wB0,Bool.eq_iff_iff,wB1,PySem.F.entry_tuple_add,wC0,List.all_cons,wC1,List.sum_append,wD0,wpAny_attempt,wD1,PySem.F.slot_tuple_add,wE0,codeAny_compStart_list,wE1,Nat.le_of_succ_le_succ,wF1,wpAny_pyIter_enum,wG0,Nat.lt_succ_of_lt,wG1,Int.dvd_add,wH0,Int.emod_add_emod,wH1,Txt.slice_le,wI0,PySem.F.slot_dict_get,wI1,List.getElem?_reverse,wJ0,Int.mul_le_mul_of_nonneg_right,wJ1,PyProof.Rows.boot_sum,wK1,List.all_eq_true,wL0,wpAny_isInstance,wL1,Option.getD_some,wM0,Nat.le_add_right,wM1,List.mem_append_left,wN0,Around.under_plainId,wN1,wpAny_updateSeq_pair,wO0,Int.mul_assoc,wO1,typeIs_str,wP0,List.filterMap_cons,wP1,wpAny_execs_nil,wQ0,PySem.W.plainGet_of,wQ1,F.slot_int_rmul,wR0,post_val_or_str,wR1,typeLookup_type,wS0,Option.map_some,wS1,ne_true_of_eq_false,wT0,F.slot_zip_next,wT1,Int.mul_sub,wU0,List.length_flatMap,wU1,List.filter_map,wV0,Int.natCast_pow,wV1,Nat.le_of_lt,wW0,PySem.W.callWith_K,wW1,F.args_str_split_2,wX0,Nat.sub_zero,wX1,or_false,wY0,F.args_tuple_mul_2,wY1,Int.pow_zero,wZ0,of_decide_eq_false,wZ1,Bool.and_false,vA0,isSubtype_type,vA1,wpAny_tryCatch,vB0,wpAny_rule,vB1,F.entry_str_split,vC0,F.entry_tuple_mul,vC1,List.flatMap_cons,vD0,List.pairwise_map,vD1,Bool.or_false,vE0,plainId_quiet,vF0,wpAny_onRaise,vF1,Int.mul_add,vG0,noFill_tuple_add,vG1,F.entry_max_loop,vH0,F.slot_str_split,vH1,F.slot_tuple_mul,vI0,codeAny_mono,vI1,if_true,vJ0,Int.dvd_refl,vJ1,Nat.sub_self,vK0,Int.add_comm,vK1,typeIs_int]
end
example:=[WA,["self"],WB,["tree"],WC,["game"],WD,["game","claims"],WE,["text"],WF,["self","values"],WG,["self","signs"],WH,["self","game","helper"],WI,["_law_feed_here","_law_many"],WJ,["self","game"],WK,["scan","within"],WL,["values","r","p"],WM,["self","numbers","s"],WN,["self","place"],WO,["self","point","s"],WP,["self","s"],WQ,["_law_tree_here","_law_name"],WR,["helper"],WS,["_law_feed_here","_law_names_here","_law_room","_law_deep"],WT,["tree","switches","point","p"],WU,["_law_tree_here"],WV,["_law_names_here","_law_trees"],WW,["tree","switches","setting"],WX,["term","boxes","asking"],WY,["self","many","due","s","coins"],WZ,["machine","doubter","coins"],Wa,["_law_tree_here","_law_switches","_law_setting"],Wb,["_law_found","_law_due"],Wc,["self","switches","trees","field"],Wd,["value","p"],We,["self","r"],Wf,["word","first","second"],Wg,["sign","first","second","p"],Wh,["self","word"],Wi,["self","game","number","many","due","s","coins"],Wj,["machine","doubter"],Wk,["game","coins"],Wl,["_law_many"],Wm,["self","text","row","most_within","most_parts"],Wn,["self","within"],Wo,["word","first","second","p"],Wp,["name","trees"],Wq,["numbers","p"],Wr,["tree","switches"],Ws,["first","second","p"],Wt,["self","place","said","asking"],Wu,["number","times"],Wv,["end","go","if","set","say"],Ww,["_law_helper"],Wx,["_law_script","_law_k"],Wy,["game","helper","coins"],Wz,["_law_trees","_law_switches"],W0,["_law_feed_here","_law_counts_here","_law_p"],W8,["_law_p","_law_many"],W9,["_law_feed_here","_law_most","_law_room"]]
namespace L2
open PySem PySem.Spec PyProof.Rows
abbrev Key:=Sum Int Str
def uV:Key->Value->Bool
 |.inl k,v=>Value.isInt k v
 |.inr x,v=>Value.isStrOf x v
def keyH(w:World):Key->Int
 |.inl k=>hashInt k
 |.inr x=>hashStr w x
def db:∀{k:Key}{v:Value},uV k v=true->(∃i t,k=Sum.inl i/\v=Value.int i t)∨(∃x t,k=Sum.inr x/\v=Value.str x t)
 |.inl i,v,h=>by
   let%[t|e]:=Value.isInt_shape (k:=i) (v:=v) h;exact .inl %[i,t,1|e]
 |.inr x,v,h=>by
   let%[t|e]:=Value.isStrOf_shape (x:=x) (v:=v) h;exact .inr %[x,t,1|e]
def Dg(i:Int)(t:Tok):uV (.inl i) (.int i t)=true:=by simp [uV,Value.isInt]
def De(x:Str)(t:Tok):uV (.inr x) (.str x t)=true:=by simp [uV,Value.isStrOf]
def KJ(a b:Int):decide ((Sum.inl a:Key)=Sum.inl b)=(a==b):=by
 by_cases e:a=b
 . subst e;simp
 . let h:¬ (Sum.inl a:Key)=Sum.inl b:=λq=>e (Sum.inl.inj q)
   rw[zB1 h];exact(beq_eq_false_iff_ne.mpr e).symm
def KG(a b:Str):decide ((Sum.inr a:Key)=Sum.inr b)=decide (a=b):=by
 by_cases e:a=b
 . subst e;simp
 . let h:¬ (Sum.inr a:Key)=Sum.inr b:=λq=>e (Sum.inr.inj q)
   rw[zB1 h,zB1 e]
def KI(a:Int)(b:Str):decide ((Sum.inl a:Key)=Sum.inr b)=false:=zB1 (λq=>nomatch q)
def KH(a:Str)(b:Int):decide ((Sum.inr a:Key)=Sum.inl b)=false:=zB1 (λq=>nomatch q)
def dL(prog:Program)(w:World):PySem.KeyKind prog w Key where
 is:=uV
 hash:=keyH w
 inj:=λv a b ha hb=>by
  rcases db ha with⟨i,t,rfl,rfl⟩ | ⟨x,t,rfl,rfl⟩
  . rcases db hb with⟨j,u,rfl,e⟩ | ⟨y,u,rfl,e⟩
    . injection e with e1 _;rw[e1]
    . exact nomatch e
  . rcases db hb with⟨j,u,rfl,e⟩ | ⟨y,u,rfl,e⟩
    . exact nomatch e
    . injection e with e1 _;rw[e1]
 byValue:=λk v h=>by
  rcases db h with⟨i,t,rfl,rfl⟩ | ⟨x,t,rfl,rfl⟩ <;> rfl
 pyHash:=λhv h=>by
  rcases db hv with⟨i,t,rfl,rfl⟩ | ⟨x,t,rfl,rfl⟩
  . exact wpAny_pyHash_int h
  . exact wpAny_pyHash_str h
 eqBool:=λhu hv h=>by
  rcases db hu with⟨i,t,rfl,rfl⟩ | ⟨x,t,rfl,rfl⟩
  . rcases db hv with⟨j,u,rfl,rfl⟩ | ⟨y,u,rfl,rfl⟩
    . rw[KJ]at h;exact wpAny_eqBool_int h
    . rw[KI]at h;exact SeqAt.EqAt.int_str i t y u _ _ _ _ h
  . rcases db hv with⟨j,u,rfl,rfl⟩ | ⟨y,u,rfl,rfl⟩
    . rw[KH]at h;exact SeqAt.EqAt.str_int x t j u _ _ _ _ h
    . rw[KG]at h;exact wpAny_eqBool_str h
 «strs»:=λk x t v h=>by
  rcases db h with⟨i,u,rfl,e⟩ | ⟨y,u,rfl,e⟩
  . exact nomatch e
  . injection e with e1 _;subst e1;cases v <;> rfl
def yf(prog:Program)(w:World)(i:Int)(t:Tok):(dL prog w).is (.inl i) (.int i t)=true:=Dg i t
def ye(prog:Program)(w:World)(x:Str)(t:Tok):(dL prog w).is (.inr x) (.str x t)=true:=De x t
inductive V where
 |non | bl (b:Bool) | int (i:Int) | str (x:Str) | byt (b:Array UInt8) | flt (b:UInt64) | ref (a:Addr) | ty (n:String)
 deriving DecidableEq
def RelV:V->Value->Prop
 |.non,u=>u=Value.none
 |.bl b,u=>u=Value.bool b
 |.int i,u=>∃t,u=Value.int i t
 |.str x,u=>∃t,u=Value.str x t
 |.byt b,u=>∃t,u=Value.bytes b t
 |.flt b,u=>∃t,u=Value.float b t
 |.ref a,u=>u=Value.ref a
 |.ty n,u=>u=Value.type n
abbrev Vals:List V->List Value->Prop:=Paired RelV
def Vals.length(r:Vals xs us):xs.length=us.length:=Paired.length r
def Vals.get:∀{xs:List V}{us:List Value}{i:Nat}{x:V},Vals xs us->xs[i]?=some x->∃u,us[i]?=some u/\RelV x u
 |_,_,_,_,.nil,e=>by simp at e
 |_,_,0,_,.cons r _,e=>by simp at e;subst e;erw[0,r]
 |_,_,i+1,x,.cons _ t,e=>by
   let%[u,h1|h2]:=Vals.get (i:=i) (x:=x) t #[e,0];erw[u,by simpa using h1,h2]
def Vals.set{x:V}{u:Value}(r:RelV x u):∀{xs:List V}{us:List Value}(i:Nat),Vals xs us->Vals (xs.set i x) (us.set i u)
 |_,_,_,.nil=>.nil
 |_,_,0,.cons _ t=>.cons r t
 |_,_,i+1,.cons q t=>.cons q (Vals.set r i t)
def Vals.append:∀{xs ys:List V}{us ws:List Value},Vals xs us->Vals ys ws->Vals (xs++ys) (us++ws)
 |_,_,_,_,.nil,s=>s
 |_,_,_,_,.cons r t,s=>.cons r (Vals.append t s)
def Vals.take:∀{xs:List V}{us:List Value}(n:Nat),Vals xs us->Vals (xs.take n) (us.take n)
 |_,_,0,_=>.nil
 |_,_,_+1,.nil=>.nil
 |_,_,n+1,.cons r t=>.cons r (Vals.take n t)
def Vals.drop:∀{xs:List V}{us:List Value}(n:Nat),Vals xs us->Vals (xs.drop n) (us.drop n)
 |_,_,0,r=>r
 |_,_,_+1,.nil=>.nil
 |_,_,n+1,.cons _ t=>Vals.drop n t
def RelO:Option V->Option Value->Prop
 |some v,some u=>RelV v u
 |none,none=>True
 |_,_=>False
def KV{κ:Type}:List (κ×V)->List (κ×Value)->Prop:=Paired fun(p:κ×V)(q:κ×Value)=>p.1=q.1/\RelV p.2 q.2
def kV:Key->V
 |.inl i=>.int i
 |.inr x=>.str x
inductive HO where
 |lst (xs:List V)
 |tup (xs:List V)
 |dK (Pb:List (Key×V)) | dT (Pb:List (List Key×V))
 |set (S:Int->Bool) (n:Nat)
 |ins (C dx:Addr) (fs:List (Str×V))
 |own (x:Addr)
 |xd (fs:List (Str×V))
 |met (f x:Addr)
 |rng (lo hi:Int)
 |frz (o:Obj) (u:HO)
 |tbl (ps:Array Value)
 |ext (φ:Heap->Prop)
abbrev Hp:=Addr->Option HO
def upd(H:Hp)(a:Addr)(o:HO):Hp:=λb=>if b=a then some o else H b
def ah:upd H a o a=some o:=by unfold upd;rw[O9 rfl]
def aD{a b:Addr}(h:b≠a):upd H a o b=H b:=by unfold upd;rw[O8 h]
def bt{H:Hp}{a b:Addr}{o u:HO}(h:H a=some o)(h':H b=some u)(d:o≠u):a≠b:=by
 intro e;subst e;rw[h]at h';exact d (zS0 h')
def aO{H:Hp}{a b:Addr}{o:HO}(h:H a=some o)(h':H b=none):a≠b:=by
 intro e;subst e;rw[h]at h';cases h'
section
variable (P:Program)(w:World)
def ObjOk(H:Hp)(h:Heap)(a:Addr):HO->Prop
 |.lst xs=>xs.length<=sizeLine/\∃(its:List Value) (n:Nat),Vals xs its/\h.get? a=some { cls:=.type "list",data:=.seq its.toArray n }
 |.tup xs=>xs.length<=sizeLine/\∃its:List Value,Vals xs its/\IsTup h a its.toArray/\∃o,h.get? a=some o/\o.dict=none
 |.dK Pb=>Pb.length<=sizeLine/\(a==sysModules)=false/\∃vs,KV Pb vs/\h.DictOf (dL P w) a vs
 | .dT Pb=>Pb.length<=sizeLine/\(a==sysModules)=false/\∃xs:List (List Key×Addr×Value),
  Paired (fun(p:List Key×V)(q:List Key×Addr×Value)=>p.1=q.1/\H q.2.1=some (.tup (p.1.map kV))/\RelV p.2 q.2.2) Pb xs/\
  ∃o es ep,h.get? a=some o/\o.ExactDict/\o.data=.dict es ep/\es.toList=xs.map (entryOfKey (tupleKind (dL P w)))/\(xs.map (·.1)).Nodup
 |.set S n=>h.SetOf (intKind P w) a S n
 | .ins C dx fs=>H dx=some (.own a)/\fs.length<=1000/\dx≠a/\h.get? a=some (PySem.W.instObj C dx)/\
  ∃mA,h.Ns1 dx mA/\(∀f,RelO (fs.lookup f) (mA f))/\PySem.Within mA (fs.map (·.1))
 |.own _=>∃o,h.get? a=some o
 |.xd fs=>∃mA,h.Ns1 a mA/\∀f,RelO (fs.lookup f) (mA f)
 |.rng lo hi=>∃t u v,h.get? a=some { cls:=.type "range",data:=.fields #[.int lo t,.int hi u,.int 1 v] }
 |.frz o u=>h.get? a=some o/\ObjOk H h a u
 |.tbl ps=>h.get? a=some { cls:=.none,data:=.fields ps }
 |.met f x=>h.get? a=some (PySem.W.methodObj (.ref f) (.ref x))
 |.ext φ=>φ h/\(∃o,h.get? a=some o)/\∀h1 h2:Heap,φ h1->(∀o,h1.get? a=some o->h2.get? a=some o)->φ h2
def HOk(H:Hp)(h:Heap):Prop:=∀a o,H a=some o->ObjOk P w H h a o
end
section
variable {P:Program}{w:World}{H H':Hp}{h h':Heap}{a:Addr}{o:HO}
def ObjOk.lt(x:ObjOk P w H h a o):a<h.objs.size:=by
 cases o with
 |lst xs=>erw[_,_,_,_,e]at x;exact zN0 e
 |tup xs=>erw[_,_,_,p,_]at x;exact p.lt
 |dK Pb=>erw[_,_,_,_,o,_,_,e,_]at x;exact zN0 e
 |dT Pb=>erw[_,_,_,_,o,_,_,e,_]at x;exact zN0 e
 |set S n=>erw[o,_,_,_,e,_]at x;exact zN0 e
 |ins C dx fs=>erw[_,_,_,e,_]at x;exact zN0 e
 |own y=>erw[_,e]at x;exact zN0 e
 |xd fs=>erw[_,%[_,_,_,e|_],_]at x;exact zN0 e
 |rng lo hi=>erw[_,_,_,e]at x;exact zN0 e
 |frz ob u=>erw[e,_]at x;exact zN0 e
 |tbl ps=>exact zN0 (show h.get? a=some _ from x)
 |met f y=>exact zN0 (show h.get? a=some _ from x)
 |ext φ=>erw[_,%[_|e],_]at x;exact zN0 e
def Paired.mapP{α β:Type}{F G:α->β->Prop}:∀{l₁:List α}{l₂:List β},Paired F l₁ l₂->(∀a b,F a b->G a b)->Paired G l₁ l₂
 |_,_,.nil,_=>.nil
 |_,_,.cons r t,f=>.cons (f _ _ r) (Paired.mapP t f)
def ObjOk.stay(x:ObjOk P w H h a o)(k:∀b u,(b=a∨H b=some (.own a))->h.get? b=some u->h'.get? b=some u)
 (ho:∀b,H b=some (.own a)->H' b=some (.own a))(ht:∀b xs,H b=some (.tup xs)->H' b=some (.tup xs)):ObjOk P w H' h' a o:=by
 induction o with
 |lst xs=>erw[z,its,n,r,e]at x;erw[z,its,n,r,k _ _ (.inl rfl) e]
 |tup xs=>erw[z,its,r,%[ob,e|c],od,e2,d]at x;erw[z,its,r,%[ob,k _ _ (.inl rfl) e|c],od,k _ _ (.inl rfl) e2,d]
 |dK Pb=>erw[z,y,vs,r,ob,es,ep,e,c]at x;erw[z,y,vs,r,ob,es,ep,k _ _ (.inl rfl) e,c]
 |dT Pb=>
   erw[z,y,xs,r,ob,es,ep,e,c]at x;erw[z,y,xs,Paired.mapP r λp q z=>%[z.1,ht _ _ z.2.1|z.2.2],ob,es,ep,k _ _ (.inl rfl) e,c]
 |set S n=>erw[ob,es,ep,t,e,c]at x;erw[ob,es,ep,t,k _ _ (.inl rfl) e,c]
 |ins C dx fs=>
   erw[d,z,ne,e,mA,%[od,es,ep,e2|c],r]at x;erw[ho _ d,z,ne,k _ _ (.inl rfl) e,mA,%[od,es,ep,k _ _ (.inr d) e2|c],r]
 |own y=>erw[ob,e]at x;erw[ob,k _ _ (.inl rfl) e]
 |xd fs=>erw[mA,%[od,es,ep,e|c],r]at x;erw[mA,%[od,es,ep,k _ _ (.inl rfl) e|c],r]
 |rng lo hi=>erw[t,u,v,e]at x;erw[t,u,v,k _ _ (.inl rfl) e]
 |frz ob u ih=>erw[e,q]at x;erw[k _ _ (.inl rfl) e,ih q]
 |tbl ps=>
   let e:h.get? a=some { cls:=.none,data:=.fields ps }:=x;show h'.get? a=some { cls:=.none,data:=.fields ps };exact k a _ (.inl rfl) e
 |met f y=>
   let e:h.get? a=some (PySem.W.methodObj (.ref f) (.ref y)):=x;show h'.get? a=some (PySem.W.methodObj (.ref f) (.ref y));exact k a _ (.inl rfl) e
 |ext φ=>erw[p,%[o|e],st]at x;erw[st _ _ p λo q=>k _ _ (.inl rfl) q,%[o|k _ _ (.inl rfl) e],st]
def HOk.lt(x:HOk P w H h)(e:H a=some o):a<h.objs.size:=(x a o e).lt
def HOk.fresh(x:HOk P w H h)(e:h.objs.size<=a):H a=none:=by
 cases q:H a with
 |none=>rfl
 |some u=>exact absurd (qQ0 (x.lt q) e) (qS0 _)
def HOk.kept(x:HOk P w H h)(k:∀b u,h.get? b=some u->h'.get? b=some u):HOk P w H h':=λa o e=>
 (x a o e).stay (λb u _ q=>k b u q) (λ_ q=>q) λ_ _ q=>q
def HOk.laid(x:HOk P w H h)(k:∀b u,h.get? b=some u->h'.get? b=some u)(hp:h.objs.size<=a)(new:ObjOk P w (upd H a o) h' a o):HOk P w (upd H a o) h':=λb u e=>by
 let hn:=x.fresh hp
 by_cases hb:b=a
 . subst hb;rw[ah]at e;cases e;exact new
 . rw[aD hb]at e;exact(x b u e).stay (λc v _ q=>k c v q) (λc q=>by rw[aD (aO q hn)];exact q) λc xs q=>by rw[aD (aO q hn)];exact q
end
def Rd(H:Hp)(a:Addr)(u:HO):Prop:=H a=some u∨∃o,H a=some (.frz o u)
def Rd.ok{P:Program}{w:World}{h:Heap}(r:Rd H a u)(x:HOk P w H h):ObjOk P w H h a u:=by
 rcases r with r | ⟨o,r⟩
 . exact x a u r
 . let%[_|q]:=x a _ r;exact q
def Mut:Option HO->Prop
 |some (.lst _)=>True
 |some (.dK _)=>True
 |some (.dT _)=>True
 |some (.set _ _)=>True
 |some (.ins _ _ _)=>True
 |some (.ext _)=>True
 |_=>False
section
variable {P:Program}{w:World}{H:Hp}{h h':Heap}{x e:Addr}{o':HO}
def HOk.write(ok:HOk P w H h)(mu:Mut (H x))(he:e=x∨H e=some (.own x))(k:∀b u,b≠e->h.get? b=some u->h'.get? b=some u)(heo:∃u,h'.get? e=some u)
 (new:ObjOk P w (upd H x o') h' x o'):HOk P w (upd H x o') h':=λb u q=>by
 let nown:∀c y,H c=some (.own y)->c≠x:=λc y r z=>by subst z;rw[r]at mu;exact mu
 let ntup:∀c xs,H c=some (.tup xs)->c≠x:=λc xs r z=>by subst z;rw[r]at mu;exact mu
 by_cases hb:b=x
 . subst hb;rw[ah]at q;cases q;exact new
 . rw [aD hb]at q
   by_cases hbe:b=e
   . let q':H b=some (.own x):=by
      rcases he with z | z
      . exact absurd (hbe.trans z) hb
      . rw[hbe];exact z
     rw[q]at q';cases q';erw[v,hv]at heo;erw[v,by rw[hbe];exact hv]
   . apply (ok b u q).stay (λc v hc r=>k c v ?_ r) (λc r=>by rw[aD (nown c b r)];exact r) λc xs r=>by rw[aD (ntup c xs r)];exact r
     rcases hc with rfl | hc
     . exact hbe
     . rintro rfl;rcases he with z | z
       . exact nown c b hc z
       . rw[hc]at z;cases z;exact hb rfl
end
structure Un(fs ex:List Addr)(H H':Hp)(h h':Heap):Prop where
 keep:∀b o,h.get? b=some o->H b=none->b∉fs->b∉ex->h'.get? b=some o
 slot:∀b o,h.get? b=some o->H b=none->b∈fs->b∉ex->∃sl,h'.get? b=some { o with slots:=sl }
 free:∀b o,h.get? b=some o->H b=none->b∉ex->H' b=none
 there:∀b o,h.get? b=some o->b∉ex->∃o',h'.get? b=some o'
 tups:∀b xs,H b=some (.tup xs)->H' b=some (.tup xs)
 frzs:∀b o u,H b=some (.frz o u)->H' b=some (.frz o u)
 tbls:∀b ps,H b=some (.tbl ps)->∃more,H' b=some (.tbl (ps++more))
section
variable {fs fs' ex ex':List Addr}{H H1 H2:Hp}{h h1 h2 h':Heap}{a x e:Addr}{o:HO}
def Un.any(u:Un fs ex H H1 h h1){b:Addr}{ob:Obj}(q:h.get? b=some ob)(n:H b=none)(hx:b∉ex):∃sl,h1.get? b=some { ob with slots:=sl }:=by
 by_cases hb:b∈fs
 . exact u.slot b ob q n hb hx
 . erw[ob.slots,u.keep b ob q n hb hx]
def Un.kept(k:∀b u,h.get? b=some u->h'.get? b=some u):Un fs ex H H h h':=
 %[λb ob q _ _ _=>k b ob q,λb ob q _ _ _=>%[ob.slots|k b ob q],λ_ _ _ n _=>n,λb ob q _=>%[ob|k b ob q],λ_ _ q=>q,λ_ _ _ q=>q|λ_ ps q=>%[#[]|by rw[q];simp]]
def Un.refl:Un fs ex H H h h:=Un.kept λ_ _ q=>q
def Un.laid(k:∀b u,h.get? b=some u->h'.get? b=some u)(hp:h.objs.size<=a)(hn:H a=none):Un fs ex H (upd H a o) h h' where
 keep:=λb u q _ _ _=>k b u q
 slot:=λb u q _ _ _=>%[u.slots|k b u q]
 free:=λb u q n _=>by rw[aD (zV0 (qQ0 (zN0 q) hp))];exact n
 there:=λb u q _=>%[u|k b u q]
 tups:=λb xs q=>by rw[aD (aO q hn)];exact q
 frzs:=λb u xs q=>by rw[aD (aO q hn)];exact q
 tbls:=λb ps q=>%[#[]|by rw[aD (aO q hn),q];simp]
def Un.write(mu:Mut (H x))(he:e=x∨H e=some (.own x))(k:∀b u,b≠e->h.get? b=some u->h'.get? b=some u)(heo:∃u,h'.get? e=some u):Un fs ex H (upd H x o) h h':=by
 let hx:∀b,H b=none->b≠x:=λb n z=>by subst z;rw[n]at mu;exact mu
 let hb:∀b,H b=none->b≠e:=λb n z=>by
  subst z;rcases he with r | r
  . exact hx b n r
  . rw[n]at r;cases r
 let hm:∀b u,H b=some u->¬ Mut (some u)->b≠x:=λb u q nm z=>by subst z;rw[q]at mu;exact nm mu
 erw[λb u q n _ _=>k b u (hb b n) q,λb u q n _ _=>%[u.slots|k b u (hb b n) q],λb u q n _=>by rw[aD (hx b n)];exact n,λb u q _=>?_,λb xs q=>by rw[aD (hm b _ q λz=>z)];exact q,λb u xs q=>by rw[aD (hm b _ q λz=>z)];exact q,λb ps q=>%[#[]|by rw[aD (hm b _ q λz=>z),q];simp]]
 by_cases hbe:b=e
 . subst hbe;exact heo
 . erw[u,k b u hbe q]
end
def trk(h:Heap)(H:Hp):List Addr:=(List.range h.objs.size).filter λa=>(H a).isSome
def wP(h:Heap)(H:Hp):Heap:=PySem.W.hideAll h (trk h H)
def Do(h:Heap)(H:Hp):(wP h H).objs.size=h.objs.size:=PySem.W.hideAll_size _ _
def Gk{h:Heap}{H:Hp}{b:Addr}{o:Obj}(e:h.get? b=some o)(n:H b=none):(wP h H).get? b=some o:=
 PySem.W.hideAll_get _ e λhm=>by
  let q:(H b).isSome=true:=(List.mem_filter.mp hm).2;rw[n]at q;simp at q
def IC{b:Addr}{o:Obj}(e:(wP h H).get? b=some o):h.get? b=some o/\H b=none:=by
 let e':h.get? b=some o:=PySem.W.of_hideAll (trk h H) e;erw[e',6];cases q:H b with
 |none=>rfl
 |some x=>
   let hm:b∈trk h H:=List.mem_filter.mpr %[List.mem_range.mpr (zN0 e')|by simp [q]];let z:(wP h H).get? b=none:=PySem.W.hideAll_none (trk h H) hm;rw[z]at e;cases e
structure Mod(K:W.Frag)(mg:#[9])(base:Heap):Prop where
 kin:K.In base
 glob:base.Ns mainGlobals mg
 blt:∃mb,base.Ns builtinsNs mb/\∀x:Str,x≠"__name__" -> mb x=bootBuiltins x
 nolimit:base.NoLimit
structure Cx where
 prog:Program
 w:World
 K:W.Frag
 mg:#[9]
 base:Heap
 A:Around
 N:List Str
 s₀:Shared
 H₀:Hp
 env:Env
 outer:List Env
 stack:List Env
 ex:List Addr
 fn:Str->Bool
 calm:Bool
 pn:#[7]
 xe:#[6]
def frs(l:List Env):List Addr:=l.filterMap (·.frame)
abbrev Cx.fs(X:Cx):List Addr:=frs X.outer
def Vis(sc:Scope)(x:Str):Prop:=sc.names.lookup x=some .local∨sc.names.lookup x=some .cell∨sc.names.lookup x=some .free
def Loc(sc:Scope)(x:Str):Prop:=sc.names.lookup x=some .local∨sc.names.lookup x=some .cell
def Look(env:Env)(h:Heap)(m:#[9])(x:Str)(u:Value):Prop:=
 (env.kindOf x=some .local/\m x=some u)∨((env.kindOf x=some .cell∨env.kindOf x=some .free)/\∃c,env.cells.lookup x=some c/\h.IsCell c (some u))
structure Cx.Ok(X:Cx):Prop where
 mod:Mod X.K X.mg X.base
 kind:X.env.scope.kind=.function
 glob:X.env.globals=mainGlobals
 blt:X.env.builtins=builtinsNs
 above:X.s₀.heap.objs.size<=X.env.locals
 inj:∀x y c,X.env.cells.lookup x=some c->X.env.cells.lookup y=some c->x=y
 has:∀x,(X.env.kindOf x=some .cell∨X.env.kindOf x=some .free)->∃c,X.env.cells.lookup x=some c
 cab:∀x c,X.fn x=true->X.env.cells.lookup x=some c->X.s₀.heap.objs.size<=c
 hd:X.calm=true->X.A.handled=none
 frames:X.A.frames=some X.stack
 stk:X.stack=X.outer∨(X.stack=X.env::X.outer/\X.env.frame=some X.env.locals)
 exf:∀b∈X.ex,b≠X.env.locals/\∀x c,X.env.cells.lookup x=some c->c≠b
 bs:∀b o,X.base.get? b=some o->X.s₀.heap.get? b=some o/\X.H₀ b=none
 bsz:X.base.objs.size<=X.s₀.heap.objs.size
 noex:∀b o,X.base.get? b=some o->b∉X.ex
 exfs:∀b∈X.ex,b∉X.fs
 funs:X.s₀.heap.FunFrames X.base X.outer
 frf:∀b∈X.fs,X.H₀ b=none
structure Inv(X:Cx)(O7:#[7])(σ:List (Option V))(H:Hp)(s:Shared):Prop where
 ok:X.Ok
 os:s.os=X.s₀.os
 bare:AllBare s.gens
 base:Un X.fs X.ex X.H₀ H X.s₀.heap s.heap
 loc:∃m,s.heap.Ns X.env.locals m/\∀(i:Nat)(x:Str)(v:V),X.N[i]?=some x->σ[i]?=some (some v)->Vis X.env.scope x->∃u,RelV v u/\Look X.env s.heap m x u
 cell:∀x c,X.env.cells.lookup x=some c->∃v,s.heap.IsCell c v
 free:H X.env.locals=none
 freeC:∀x c,X.env.cells.lookup x=some c->H c=none
 pin:∀p∈X.pn++O7,s.heap.get? p.1=some p.2/\H p.1=none/\p.1≠X.env.locals/\p.1∉X.fs/\∀v,p.2.data≠.cell v
 hok:HOk X.prog X.w H s.heap
 len:σ.length=X.N.length
section
variable {X:Cx}{O7:#[7]}{σ:List (Option V)}{H H':Hp}{s:Shared}{h':Heap}
def Cx.Ok.nofr(ok:X.Ok){b:Addr}{o:Obj}(e:X.base.get? b=some o):b∉X.fs:=λhb=>by
 have:=(ok.funs.mem hb).1
 rw[e]at this;cases this
def Inv.bs(I:#[8] H s):∀b o,X.base.get? b=some o->s.heap.get? b=some o/\H b=none:=λb o e=>
 %[I.base.keep b o (I.ok.bs b o e).1 (I.ok.bs b o e).2 (I.ok.nofr e) (I.ok.noex b o e)|I.base.free b o (I.ok.bs b o e).1 (I.ok.bs b o e).2 (I.ok.noex b o e)]
def Inv.bk(I:#[8] H s):∀b o,X.base.get? b=some o->s.heap.get? b=some o:=λb o e=>(I.bs b o e).1
def Inv.mod(I:#[8] H s):Mod X.K X.mg X.base:=I.ok.mod
def Inv.kIn(I:#[8] H s):X.K.In s.heap:=I.ok.mod.kin.keeps I.bk
def Inv.lt(I:#[8] H s):X.env.locals<‹s›:=let⟨_,hn,_⟩:=I.loc;hn.lt
def Inv.sz(I:#[8] H s):X.s₀.heap.objs.size<=‹s›:=zP0 I.ok.above (wV1 I.lt)
def Inv.nofs(I:#[8] H s){a:Addr}(h:‹s›<=a):a∉X.fs:=λhb=>by
 let%[_,o,ho|_]:=I.ok.funs.mem hb;exact absurd (qQ0 (zN0 ho) (zP0 I.sz h)) (qS0 _)
def Inv.cne(I:#[8] H s):∀x c,X.env.cells.lookup x=some c->c≠X.env.locals:=λx c e z=>by
 let%[v,o,ho|hd]:=I.cell x c e;erw[m,%[o',es,ep,ho',hd'|_],_]at I.loc;rw[z,ho']at ho;cases ho;rw[hd']at hd;cases hd
def Inv.funs(I:#[8] H s):s.heap.FunFrames X.base X.outer:=by
 let all:∀(l:List Env),(∀b∈frs l,b∈X.fs)->X.s₀.heap.FunFrames X.base l->s.heap.FunFrames X.base l:=by
  intro l
  induction l with
  |nil=>intro _ _;trivial
  |cons env r ih=>
    intro hs hl;erw[hk,%[L,o,hf,hn,ho|hd],hr]at hl;let hL:L∈X.fs:=hs L (by unfold frs;rw[wP0,hf];exact qA0);let%[sl|e]:=I.base.slot L o ho (I.ok.frf L hL) hL λz=>I.ok.exfs L z hL
    erw[hk,%[L,_,hf,hn,e|hd],ih (λb hb=>hs b (by unfold frs;rw[wP0,hf];exact qK0 _ hb)) hr]
 exact all X.outer (λ_ hb=>hb) I.ok.funs
def Inv.stack(I:#[8] H s):s.heap.FunFrames X.base X.stack:=by
 rcases I.ok.stk with e | ⟨e,hf⟩
 . rw[e];exact I.funs
 . rw[e];erw[m,hn,_]at I.loc;refine .cons (by rw[I.ok.kind];decide) hf hn ?_ I.funs;exact Heap.get?_none_of_le (zP0 I.ok.bsz I.ok.above)
def Inv.stkSub(I:#[8] H s):∀b∈frs X.stack,b∈X.env.locals::X.fs:=λb hb=>by
 rcases I.ok.stk with e | ⟨e,hf⟩
 . rw[e]at hb;exact qK0 _ hb
 . rw[e]at hb;unfold frs at hb;rw[wP0,hf]at hb;exact hb
def Inv.stkFree(I:#[8] H s):∀b∈frs X.stack,H b=none:=λb hb=>by
 rcases zX0 (I.stkSub b hb)with e | hb
 . rw[e];exact I.free
 . let%[_,o,ho|_]:=I.ok.funs.mem hb;exact I.base.free b o ho (I.ok.frf b hb) λz=>I.ok.exfs b z hb
def Inv.step{g':Array GenState}{t':Nat}{d':Drawn}{ch:List Addr}(I:#[8] H s)
 (hch:∀b∈ch,(b∈X.ex∨X.s₀.heap.objs.size<=b)/\b≠X.env.locals/\(∀x c,X.env.cells.lookup x=some c->c≠b)/\∀p∈X.pn++O7,p.1≠b)
 (keep:∀b o,b≠X.env.locals->b∉X.fs->b∉ch->s.heap.get? b=some o->H b=none->h'.get? b=some o)
 (slot:∀b o,b≠X.env.locals->b∈X.fs->b∉ch->s.heap.get? b=some o->H b=none->∃sl,h'.get? b=some { o with slots:=sl })(free:∀b o,b∉ch->s.heap.get? b=some o->H b=none->H' b=none)
 (there:∀b o,b∉ch->s.heap.get? b=some o->∃o',h'.get? b=some o')
 (tups:∀b xs,H b=some (.tup xs)->H' b=some (.tup xs))(frzs:∀b o u,H b=some (.frz o u)->H' b=some (.frz o u))(tbls:∀b ps,H b=some (.tbl ps)->∃more,H' b=some (.tbl (ps++more)))
 (ns:∀m,s.heap.Ns X.env.locals m->h'.Ns X.env.locals m)(hok:HOk X.prog X.w H' h')(hg:AllBare g'):
 #[8] H' { s with heap:=h',gens:=g',drawn:=d',toks:=t' }:=by
 let neL:∀b o,X.s₀.heap.get? b=some o->b≠X.env.locals:=λb o e=>zV0 (qQ0 (zN0 e) I.ok.above)
 let neC:∀b o,X.s₀.heap.get? b=some o->b∉X.ex->b∉ch:=λb o e hx hb=>by
  rcases(hch b hb).1 with z | z
  . exact hx z
  . exact absurd (qQ0 (zN0 e) z) (qS0 _)
 let cellK:∀x c,X.env.cells.lookup x=some c->∀v,s.heap.IsCell c v->h'.IsCell c v:=λx c e v ⟨o,ho,hd⟩=>by
  let nch:c∉ch:=λz=>(hch c z).2.2.1 x c e rfl
  by_cases hc:c∈X.fs
  . let%[sl|q]:=slot c o (I.cne x c e) hc nch ho (I.freeC x c e);erw[_,q,hd]
  . erw[o,keep c o (I.cne x c e) hc nch ho (I.freeC x c e),hd]
 erw[I.ok,I.os,hg,%[λb o e n hb hx=>?_,λb o e n hb hx=>?_,λb o e n hx=>?_,λb o e hx=>?_,λb xs e=>tups b xs (I.base.tups b xs e),λb o xs e=>frzs b o xs (I.base.frzs b o xs e)|λb ps e=>?_],6,λx c e=>?_,6,λx c e=>?_,λp hp=>?_,hok,I.len]
 . exact keep b o (neL b o e) hb (neC b o e hx) (I.base.keep b o e n hb hx) (I.base.free b o e n hx)
 . let%[sl|e1]:=I.base.slot b o e n hb hx;let%[sl'|e2]:=slot b _ (neL b o e) hb (neC b o e hx) e1 (I.base.free b o e n hx);erw[sl',e2]
 . let%[o'|e1]:=I.base.there b o e hx;exact free b o' (neC b o e hx) e1 (I.base.free b o e n hx)
 . let%[o'|e1]:=I.base.there b o e hx;exact there b o' (neC b o e hx) e1
 . let%[m1|e1]:=I.base.tbls b ps e;let%[m2|e2]:=tbls b _ e1;erw[m1++m2,by rw[e2,Array.append_assoc]]
 . erw[m,hn,hl]at I.loc;erw[m,ns m hn,λi x v e1 e2 e3=>?_];let%[u,r|l]:=hl i x v e1 e2 e3;erw[u,r,6];rcases l with l | ⟨k,c,e,z⟩
   . exact .inl l
   . exact .inr %[k,c,e|cellK x c e _ z]
 . let%[v|z]:=I.cell x c e;erw[v,cellK x c e v z]
 . erw[m,%[o,_,_,ho|_],_]at I.loc;exact free _ o (λz=>(hch _ z).2.1 rfl) ho I.free
 . let%[v,o,ho|hd]:=I.cell x c e;exact free c o (λz=>(hch c z).2.2.1 x c e rfl) ho (I.freeC x c e)
 . let%[e,n,ne,nf|d]:=I.pin p hp;let nch:p.1∉ch:=λz=>(hch p.1 z).2.2.2 p hp rfl
   erw[keep p.1 p.2 ne nf nch e n,free p.1 p.2 nch e n,ne,nf,d]
def Inv.un{t':Nat}(I:#[8] H s)(u:Un X.fs [] H H' s.heap h')(hok:HOk X.prog X.w H' h'):#[8] H' { s with heap:=h',toks:=t' }:=by
 let%[m,%[o,es,ep,ho|r]|_]:=id I.loc;let%[sl|hL]:=u.any ho I.free #[2];exact I.step (g':=s.gens) (d':=s.drawn) (ch:=[]) (λ_ z=>nomatch z) (λb o _ hb _ e n=>u.keep b o e n hb #[2]) (λb o _ hb _ e n=>u.slot b o e n hb #[2]) (λb o _ e n=>u.free b o e n #[2]) (λb o _ e=>u.there b o e #[2]) u.tups u.frzs u.tbls (λm' hm=>by
  erw[o',es',ep',ho',r']at hm;rw[ho]at ho';cases ho';erw[_,es',ep',hL,r']) hok I.bare
def Inv.call{g':Array GenState}{t':Nat}{d':Drawn}{ch:List Addr}(I:#[8] H s)(u:Un (frs X.stack) ch H H' s.heap h')(hok:HOk X.prog X.w H' h')(hg:AllBare g')
 (hch:∀b∈ch,(b∈X.ex∨X.s₀.heap.objs.size<=b)/\b≠X.env.locals/\(∀x c,X.env.cells.lookup x=some c->c≠b)/\∀p∈X.pn++O7,p.1≠b):
 #[8] H' { s with heap:=h',gens:=g',drawn:=d',toks:=t' }:=by
 let%[m,%[o,es,ep,ho|r]|_]:=id I.loc;let%[sl|hL]:=u.any ho I.free λz=>(hch _ z).2.1 rfl
 exact I.step (ch:=ch) hch (λb o hL hb hc e n=>u.keep b o e n (λz=>(zX0 (I.stkSub b z)).elim hL hb) hc) (λb o _ _ hc e n=>u.any e n hc) (λb o hc e n=>u.free b o e n hc) (λb o hc e=>u.there b o e hc) u.tups u.frzs u.tbls (λm' hm=>by
  erw[o',es',ep',ho',r']at hm;rw[ho]at ho';cases ho';erw[_,es',ep',hL,r']) hok hg
def Inv.turned{t':Nat}{it:Addr}(I:#[8] H s)(k:∀b o,b≠it->s.heap.get? b=some o->h'.get? b=some o)(hn:H it=none)(hL:it≠X.env.locals)
 (h1:it∈X.ex∨X.s₀.heap.objs.size<=it)(h2:∀x c,X.env.cells.lookup x=some c->c≠it)(h3:∀p∈X.pn++O7,p.1≠it):#[8] H { s with heap:=h',toks:=t' }:=by
 let nit:∀b u,H b=some u->b≠it:=λb u e z=>by rw[z,hn]at e;cases e
 apply I.step (g':=s.gens) (d':=s.drawn) (ch:=[it]) (λb hb=>?_) (λb o _ _ hc e _=>k b o (λz=>hc (by simp [z])) e) (λb o _ _ hc e _=>%[o.slots|k b o (λz=>hc (by simp [z])) e]) (λ_ _ _ _ n=>n)
  (λb o hc e=>%[o|k b o (λz=>hc (by simp [z])) e]) (λ_ _ e=>e) (λ_ _ _ e=>e) (λb ps e=>%[#[]|by rw[e];simp]) (λm hm=>?_) (λb u e=>?_) I.bare
 . let e:b=it:=#[hb,0]
   subst e;erw[h1,hL,h2,h3]
 . erw[o,es,ep,ho,r]at hm;erw[o,es,ep,k _ o (Ne.symm hL) ho,r]
 . apply (I.hok b u e).stay (λc v hc q=>k c v ?_ q) (λ_ q=>q) λ_ _ q=>q
   rcases hc with z | z
   . rw[z];exact nit b u e
   . exact nit c _ z
def Inv.tok(I:#[8] H s)(t:Nat):#[8] H { s with toks:=t }:=I.un (h':=s.heap) (t':=t) Un.refl I.hok
def Inv.kept{t':Nat}(I:#[8] H s)(k:∀b u,s.heap.get? b=some u->h'.get? b=some u):#[8] H { s with heap:=h',toks:=t' }:=I.un (Un.kept k) (I.hok.kept k)
def Inv.laid{a:Addr}{t':Nat}(I:#[8] H s)(k:∀b u,s.heap.get? b=some u->h'.get? b=some u)(hp:‹s›<=a)(new:ObjOk X.prog X.w (upd H a o) h' a o):
 #[8] (upd H a o) { s with heap:=h',toks:=t' }:=I.un (Un.laid k hp (I.hok.fresh hp)) (I.hok.laid k hp new)
def Inv.write{x e:Addr}{t':Nat}(I:#[8] H s)(mu:Mut (H x))(he:e=x∨H e=some (.own x))(k:∀b u,b≠e->s.heap.get? b=some u->h'.get? b=some u)(heo:∃u,h'.get? e=some u)
 (new:ObjOk X.prog X.w (upd H x o) h' x o):#[8] (upd H x o) { s with heap:=h',toks:=t' }:=I.un (Un.write mu he k heo) (I.hok.write mu he k heo new)
def Inv.pins_of{pins':#[7]}(I:#[8] H s)(h:∀p∈pins',s.heap.get? p.1=some p.2/\H p.1=none/\p.1≠X.env.locals/\p.1∉X.fs/\∀v,p.2.data≠.cell v):Inv X pins' σ H s:=
 %[I.ok,I.os,I.bare,I.base,I.loc,I.cell,I.free,I.freeC,λp hp=>(qN0 hp).elim (λz=>I.pin p (wM1 _ z)) (h p),I.hok|I.len]
def xY{N:List Str}(hN:N.Nodup){i j:Nat}{x:Str}(a:N[i]?=some x)(b:N[j]?=some x):i=j:=by
 let%[h1|e1]:=Pj a;let%[h2|e2]:=Pj b;exact(List.getElem_inj hN).mp (e1.trans e2.symm)
def uK{M:Model}{A:Around}{E:#[6]}{i:Nat}{x:Str}{Q:Unit->Shared->Prop}(I:#[8] H s)(hN:X.N.Nodup)(hi:X.N[i]?=some x)(hx:Loc X.env.scope x)(r:RelV v u)
 (h:∀s',Inv X O7 (σ.set i (some v)) H s'->(∃a,Heap.SameBut a s.heap s'.heap/\(a=X.env.locals∨X.env.cells.lookup x=some a))->Q () s')(hf:X.fn x=true∨X.env.scope.names.lookup x=some .local:=by first | exact .inl rfl | exact .inr rfl | assumption):wpAny M A (storeName X.env x u) Q E s:=by
 let%[m,hn|hl]:=id I.loc;let hcls:(X.env.scope.kind==.class||(X.env.scope.kind==.module&&X.env.locals != X.env.globals))=false:=by rw[I.ok.kind];rfl
 let hiσ:i<σ.length:=by rw[I.len];exact(Pj hi).1
 let cne:=I.cne;let tracked:∀{a:Addr}{h':Heap},(∃o,s.heap.get? a=some o/\H a=none)->Heap.SameBut a s.heap h'->HOk X.prog X.w H h':=fun{a h'} ha hs b ob e=>by
  erw[_,_,hfree]at ha;refine(I.hok b ob e).stay (λc w' hc q=>(hs.2 c ?_).trans q) (λ_ q=>q) λ_ _ q=>q
  rintro rfl;rcases hc with rfl | hc
  . rw[hfree]at e;cases e
  . rw[hfree]at hc;cases hc
 rcases hx with hk | hk
 . apply wpAny_storeName_local hk hn (λh' hn' hs=>?_) hcls;let%[oL,_,_,hoL|_]:=id hn;apply h _ %[I.ok,I.os,I.bare,%[λb o e n hb hx=>?_,λb o e n hb hx=>?_,I.base.free,λb o e hx=>?_,I.base.tups,I.base.frzs|I.base.tbls],%[_,hn'|λj y v' e1 e2 e3=>?_],λy c e=>?_,I.free,I.freeC,λp hp=>?_,tracked %[oL,hoL|I.free] hs|by simpa using I.len] ⟨_,hs,.inl rfl⟩
   . exact(hs.2 b (zV0 (qQ0 (zN0 e) I.ok.above))).trans (I.base.keep b o e n hb hx)
   . let%[sl|e1]:=I.base.slot b o e n hb hx;erw[sl,(hs.2 b (zV0 (qQ0 (zN0 e) I.ok.above))).trans e1]
   . let%[o'|e1]:=I.base.there b o e hx;erw[o',(hs.2 b (zV0 (qQ0 (zN0 e) I.ok.above))).trans e1]
   . by_cases hj:j=i
     . subst hj;rw[hi]at e1;cases e1;rw[jN0 hiσ]at e2;cases e2;erw[u,r,.inl %[hk|by simp]]
     . rw [jU0 (Ne.symm hj)]at e2;let%[u',r'|q]:=hl j y v' e1 e2 e3;erw[u',r',6];rcases q with⟨k,e⟩ | ⟨k,c,e,z⟩
       . refine .inl %[k|6]
         have:y≠x:=λe=>hj (xY hN e1 (e▸hi))
         simp [this,e]
       . exact .inr %[k,c,e|z.sameBut hs (cne y c e)]
   . let%[w'|z]:=I.cell y c e;erw[w',z.sameBut hs (cne y c e)]
   . let%[e,n,ne,nf|d]:=I.pin p hp;erw[(hs.2 p.1 ne).trans e,n,ne,nf,d]
 . let hfn:X.fn x=true:=by
    rcases hf with z | z
    . exact z
    . rw[z]at hk;cases hk
   let%[c|hc]:=I.ok.has x (.inl hk);let%[w'|z]:=I.cell x c hc;apply wpAny_storeName_cell I.ok.kind hk hc z (λh' hc' hs=>?_);let%[oc,hoc|hocd]:=id z;apply h { s with heap:=h' } ⟨I.ok,I.os,I.bare,⟨λb o e n hb hx=>?_,λb o e n hb hx=>?_,I.base.free,λb o e hx=>?_,I.base.tups,I.base.frzs,I.base.tbls⟩,%[m,hn.sameBut hs (Ne.symm (cne x c hc))|λj y v' e1 e2 e3=>?_],λy c' e=>?_,I.free,I.freeC,λp hp=>?_,tracked %[oc,hoc|I.freeC x c hc] hs,by simpa using I.len⟩ ⟨c,hs,.inr hc⟩
   . exact(hs.2 b (zV0 (qQ0 (zN0 e) (I.ok.cab x c hfn hc)))).trans (I.base.keep b o e n hb hx)
   . let%[sl|e1]:=I.base.slot b o e n hb hx;erw[sl,(hs.2 b (zV0 (qQ0 (zN0 e) (I.ok.cab x c hfn hc)))).trans e1]
   . let%[o'|e1]:=I.base.there b o e hx;erw[o',(hs.2 b (zV0 (qQ0 (zN0 e) (I.ok.cab x c hfn hc)))).trans e1]
   . by_cases hj:j=i
     . subst hj;rw[hi]at e1;cases e1;rw[jN0 hiσ]at e2;cases e2;erw[u,r,.inr %[.inl hk,c,hc|hc']]
     . rw [jU0 (Ne.symm hj)]at e2;let%[u',r'|q]:=hl j y v' e1 e2 e3;erw[u',r',6];rcases q with q | ⟨k,c',e,z'⟩
       . exact .inl q
       . refine .inr %[k,c',e|z'.sameBut hs ?_];rintro rfl;exact hj (xY hN e1 (I.ok.inj _ _ _ e hc▸hi))
   . by_cases hcc:c'=c
     . subst hcc;erw[_,hc']
     . let%[w2|z2]:=I.cell y c' e;erw[w2,z2.sameBut hs hcc]
   . let%[e,n,ne,nf|d]:=I.pin p hp;erw[(hs.2 p.1 ?_).trans e,n,ne,nf,d];intro q;rw[q,hoc]at e;let q':oc=p.2:=zS0 e;exact d w' (by rw[←q'];exact hocd)
def xu{M:Model}{A:Around}{E:#[6]}{i:Nat}{x:Str}{Q:Unit->Shared->Prop}(I:#[8] H s)(hN:X.N.Nodup)(hi:X.N[i]?=some x)(hx:Loc X.env.scope x)(r:RelV v u)
 (h:∀s',Inv X O7 (σ.set i (some v)) H s'->Q () s')(hf:X.fn x=true∨X.env.scope.names.lookup x=some .local:=by first | exact .inl rfl | exact .inr rfl | assumption):wpAny M A (storeName X.env x u) Q E s:=
 uK I hN hi hx r (λs' I' _=>h s' I') hf
def Inv.call'{s':Shared}{ch:List Addr}(I:#[8] H s)(ho:s'.os=s.os)(u:Un (frs X.stack) ch H H' s.heap s'.heap)(hok:HOk X.prog X.w H' s'.heap)(hg:AllBare s'.gens)
 (hch:∀b∈ch,(b∈X.ex∨X.s₀.heap.objs.size<=b)/\b≠X.env.locals/\(∀x c,X.env.cells.lookup x=some c->c≠b)/\∀p∈X.pn++O7,p.1≠b):#[8] H' s':=by
 erw[h',g',d',t',o']at s';let e:o'=s.os:=ho;subst e;exact I.call (g':=g') (t':=t') (d':=d') u hok hg hch
end
abbrev XK:=Value->Option Addr->Hp->Prop
abbrev St:=List (Option V)
abbrev VK:=V->Hp->Prop
abbrev TE:=St->Hp->VK->Prop
abbrev TT:=St->Hp->(Bool->Hp->Prop)->Prop
abbrev TA:=St->Hp->(List V->Hp->Prop)->Prop
structure Ends where
 nx:St->Hp->Prop
 rt:VK
 bk:St->Hp->Prop:=λ_ _=>False
 ct:St->Hp->Prop:=λ_ _=>False
abbrev TS:=Ends->St->Hp->Prop
instance EP(X:Cx)(O7:#[7])(σ:St)(Q:VK)(u:Value)(s':Shared):∀v H',#[8] H' s'->RelV v u->Q v H':=0
instance TP(X:Cx)(O7:#[7])(σ:St)(Q:Bool->Hp->Prop)(b:Bool)(s':Shared):∀H',#[8] H' s'->Q b H':=0
instance AP(X:Cx)(O7:#[7])(σ:St)(Q:List V->Hp->Prop)(us:List Value)(s':Shared):∀vs H',#[8] H' s'->Vals vs us->Q vs H':=0
instance NP(X:Cx)(O7:#[7])(N:St->Hp->Prop)(s':Shared):∀ σ' H',Inv X O7 σ' H' s'->N σ' H':=0
instance RP(X:Cx)(O7:#[7])(Q:VK)(u:Value)(s':Shared):∀v σ' H',Inv X O7 σ' H' s'->RelV v u->Q v H':=0
instance HQ(X:Cx)(O7:#[7])(σ:St)(Q:Hp->Prop)(s':Shared):∀H',#[8] H' s'->Q H':=0
def SP(X:Cx)(O7:#[7])(D:Ends)(f:Flow)(s':Shared):Prop:=
 match f with
 |.next=>NP X O7 D.nx s'
 |.brk=>NP X O7 D.bk s'
 |.cont=>NP X O7 D.ct s'
 |.ret u=>RP X O7 D.rt u s'
def PE(X:Cx)(e:Expr)(t:TE):Prop:=
 ∀(O7:#[7])(s:Shared)(σ:St)(H:Hp)(Q:VK),#[8] H s->t σ H Q->‹X.w› (eval e X.env) (EP X O7 σ Q) X.xe s
def PT(X:Cx)(e:Expr)(t:TT):Prop:=
 ∀(O7:#[7])(s:Shared)(σ:St)(H:Hp)(Q:Bool->Hp->Prop),#[8] H s->t σ H Q->‹X.w› (isTrue e X.env (eval e X.env)) (TP X O7 σ Q) X.xe s
def PW(X:Cx)(e:Expr)(t:TT):Prop:=
 ∀(whole:Sem Value)(O7:#[7])(s:Shared)(σ:St)(H:Hp)(Q:Bool->Hp->Prop),#[8] H s->t σ H Q->‹X.w› (isTrue e X.env whole) (TP X O7 σ Q) X.xe s
def PW.pt(h:PW X e t):PT X e t:=h _
def PA(X:Cx)(es:List Expr)(t:TA):Prop:=
 ∀(pos:Pos)(O7:#[7])(s:Shared)(σ:St)(H:Hp)(Q:List V->Hp->Prop),#[8] H s->t σ H Q->‹X.w› (spliced (backTo pos (starEach es X.env))) (AP X O7 σ Q) X.xe s
def PS(X:Cx)(st:Stmt)(t:TS):Prop:=
 ∀(O7:#[7])(s:Shared)(σ:St)(H:Hp)(D:Ends),#[8] H s->t D σ H->‹X.w› (exec st X.env) (SP X O7 D) X.xe s
def PSs(X:Cx)(st:List Stmt)(t:TS):Prop:=
 ∀(O7:#[7])(s:Shared)(σ:St)(H:Hp)(D:Ends),#[8] H s->t D σ H->‹X.w› (execs st X.env) (SP X O7 D) X.xe s
def thn{α:Type}{t:Sem α}{Q Q':α->Shared->Prop}{M:Model}{A:Around}{E:#[6]}{s:Shared}(h:wpAny M A t Q E s)(hQ:∀a s,Q a s->Q' a s):wpAny M A t Q' E s:=jS0 h hQ λ_ _ x=>x
section
variable {X:Cx}
instance tVar(i:Nat)(σ:St)(H:Hp)(Q:VK):∀v,σ[i]?=some (some v)->Q v H:=0
def tC(v:V):TE:=λ_ H Q=>Q v H
def Kp{i:Nat}{x:Str}{pos:Pos}(hN:X.N[i]?=some x)(hv:Vis X.env.scope x)(hd:(x==("__debug__":Str))=false:=by decide)(hcd:(x==("__classdict__":Str))=false:=by decide):PE X (.Name x pos) (tVar i):=by
 exists 4,Q,I,h;erw[v,e,h]at h;erw[m,hn,hl]at I.loc;let%[u,r|l]:=hl i x v hN e hv;let fin:EP X O7 σ Q u s:=%[v,H,I,r|h]
 rcases l with⟨hk,hm⟩ | ⟨hk,c,hc,hcell⟩
 . exact wpAny_Name (wpAny_loadName_local I.ok.kind hk hn hm fin) hd
 . rcases hk with hk | hk
   . exact wpAny_Name (wpAny_loadName_cell I.ok.kind hk hc hcell fin) hd
   . exact wpAny_Name (wpAny_loadName_free I.ok.kind hk hc hcell fin hcd) hd
def ag{i j pos}:PE X (.Constant (.int i) j pos) (tC (.int i)):=λ_ _ _ H _ I h=>wpAny_Constant_int %[.int i,H,I.tok _,%[|0]|h]
def gn{b j pos}:PE X (.Constant (.bool b) j pos) (tC (.bl b)):=λ_ _ _ H _ I h=>Constant_bool %[.bl b,H,I,1|h]
def ny{j pos}:PE X (.Constant .none j pos) (tC .non):=λ_ _ _ H _ I h=>Constant_none %[.non,H,I,1|h]
def aF{x j pos}:PE X (.Constant (.str x) j pos) (tC (.str x)):=λ_ _ _ H _ I h=>Calls.Constant_str %[.str x,H,I.tok _,%[|0]|h]
def Gl(X:Cx)(x:Str):Prop:=X.env.kindOf x=some .globalImplicit
def wJ{E:#[6]}{σ:St}{u:Value}{pos:Pos}{Q:#[6]}(I:#[8] H s)(hg:Gl X x)(hm:X.mg x=some u)(h:Q u s)
 (hd:(x==("__debug__":Str))=false:=by decide):‹X.w› (eval (.Name x pos) X.env) Q E s:=
 Calls.Name_function_global I.ok.kind hg (Calls.loadGlobal_global (by rw[I.ok.glob];exact I.mod.glob.keeps I.bk) hm h) hd
def iI{E:#[6]}{σ:St}{u:Value}{pos:Pos}{Q:#[6]}(I:#[8] H s)(hg:Gl X x)(hm:X.mg x=none)(hv:bootBuiltins x=some u)(h:Q u s)
 (hn:x≠"__name__":=by decide)(hd:(x==("__debug__":Str))=false:=by decide):‹X.w› (eval (.Name x pos) X.env) Q E s:=by
 erw[mb,h1,h2]at I.mod.blt;exact Calls.Name_function_global I.ok.kind hg (Calls.loadGlobal_builtin (by rw[I.ok.glob];exact I.mod.glob.keeps I.bk) hm (by rw[I.ok.blt];exact h1.keeps I.bk) ((h2 x hn).trans hv) h) hd
def cZ{u:Value}{pos:Pos}(hg:Gl X x)(hm:X.mg x=some u)(r:RelV v u)(hd:(x==("__debug__":Str))=false:=by decide):PE X (.Name x pos) (tC v):=
 λ_ _ _ H _ I h=>wJ I hg hm %[v,H,I,r|h] hd
def iR{u:Value}{pos:Pos}(hg:Gl X x)(hm:X.mg x=none)(hv:bootBuiltins x=some u)(r:RelV v u)(hn:x≠"__name__":=by decide)(hd:(x==("__debug__":Str))=false:=by decide):PE X (.Name x pos) (tC v):=
 λ_ _ _ H _ I h=>iI I hg hm hv %[v,H,I,r|h] hn hd
variable {a b:Expr}{ta tb:TE}{pos:Pos}
instance ZtB(Q:(Bool->Hp->Prop))(x:V)(H1:Hp):∀c,x=.bl c->Q c H1:=0
def tB(t:TE):TT:=λσ H Q=>t σ H λx H1=>ZtB Q x H1
def eI(h:PE X e t)(he:∀whole,isTrue e X.env whole=(do let v ←whole;standAt e.pos;holding [v] (truthy v)):=by intro _;rfl):PT X e (tB t):=by
 exists 4,Q,I,hw;apply isTrue_plain (thn (h O7 s σ H _ I hw) λv s1 ⟨x,H1,I1,r1,q1⟩=>?_) (he _);erw[d,1,q]at q1;cases r1;exact qD1 %[H1,I1|q]
variable {tA tB':TT}{rest:List Expr}
def tAnd(t u:TT):TT:=λσ H Q=>t σ H λc H1=>if c=true then u σ H1 Q else Q false H1
def tOr(t u:TT):TT:=λσ H Q=>t σ H λc H1=>if c=true then Q true H1 else u σ H1 Q
def tNot(t:TT):TT:=λσ H Q=>t σ H λc H1=>Q (!c) H1
def lP(ha:PT X a tA):PW X (.BoolOp .And [a] pos) tA:=by
 intro wh O7 s σ H Q I h;apply isTrue_and (thn (ha O7 s σ H Q I h) λc s1 e=>?_);cases c with
 |true=>exact isTrue_and_nil e
 |false=>exact e
def hV(ha:PT X a tA):PW X (.BoolOp .Or [a] pos) tA:=by
 intro wh O7 s σ H Q I h;apply isTrue_or (thn (ha O7 s σ H Q I h) λc s1 e=>?_);cases c with
 |false=>exact isTrue_or_nil e
 |true=>exact e
def nu(ha:PT X a tA)(hb:PW X (.BoolOp .And (b::rest) pos) tB'):PW X (.BoolOp .And (a::b::rest) pos) (tAnd tA tB'):=by
 intro wh O7 s σ H Q I h;apply isTrue_and (thn (ha O7 s σ H _ I h) λc s1 ⟨H1,I1,q1⟩=>?_);cases c with
 |true=>exact hb wh O7 s1 σ H1 Q I1 q1
 |false=>erw[H1,I1,q1]
def iD(ha:PT X a tA)(hb:PW X (.BoolOp .Or (b::rest) pos) tB'):PW X (.BoolOp .Or (a::b::rest) pos) (tOr tA tB'):=by
 intro wh O7 s σ H Q I h;apply isTrue_or (thn (ha O7 s σ H _ I h) λc s1 ⟨H1,I1,q1⟩=>?_);cases c with
 |true=>erw[H1,I1,q1]
 |false=>exact hb wh O7 s1 σ H1 Q I1 q1
def hZ(ha:PT X a tA):PT X (.UnaryOp .Not a pos) (tNot tA):=by
 exists 4,Q,I,h;exact isTrue_not (thn (ha O7 s σ H (λc H1=>Q (!c) H1) I h) λ_ _ ⟨a,b,c⟩=>%[a,b|c])
instance ZtAndV(tb:TE)(σ:St)(Q:VK)(x:V)(H1:Hp):∀c,x=.bl c->(if c=true then tb σ H1 Q else Q (.bl false) H1):=0
def tAndV(ta tb:TE):TE:=λσ H Q=>ta σ H λx H1=>ZtAndV tb σ Q x H1
instance ZtOrV(tb:TE)(σ:St)(Q:VK)(x:V)(H1:Hp):∀c,x=.bl c->(if c=true then Q (.bl true) H1 else tb σ H1 Q):=0
def tOrV(ta tb:TE):TE:=λσ H Q=>ta σ H λx H1=>ZtOrV tb σ Q x H1
instance ZtNotV(Q:VK)(x:V)(H1:Hp):∀c,x=.bl c->Q (.bl (!c)) H1:=0
def tNotV(ta:TE):TE:=λσ H Q=>ta σ H λx H1=>ZtNotV Q x H1
def nv{op}(h:PE X a t):PE X (.BoolOp op [a] pos) t:=λO7 s σ H Q I hw=>BoolOp_one (h O7 s σ H Q I hw)
def nI(ha:PE X a ta)(hb:PE X (.BoolOp .And (b::rest) pos) tb):PE X (.BoolOp .And (a::b::rest) pos) (tAndV ta tb):=by
 exists 4,Q,I,h;apply BoolOp_and (thn (ha O7 s σ H _ I h) λv s1 ⟨x,H1,I1,r1,q1⟩=>?_);erw[c,1,q1]at q1;cases r1;apply qD1 ?_;cases c with
 |true=>exact hb O7 s1 σ H1 Q I1 q1
 |false=>erw[.bl false,H1,I1,1,q1]
def Jy(ha:PE X a ta)(hb:PE X (.BoolOp .Or (b::rest) pos) tb):PE X (.BoolOp .Or (a::b::rest) pos) (tOrV ta tb):=by
 exists 4,Q,I,h;apply BoolOp_or (thn (ha O7 s σ H _ I h) λv s1 ⟨x,H1,I1,r1,q1⟩=>?_);erw[c,1,q1]at q1;cases r1;apply qD1 ?_;cases c with
 |false=>exact hb O7 s1 σ H1 Q I1 q1
 |true=>erw[.bl true,H1,I1,1,q1]
def wg(ha:PE X a ta):PE X (.UnaryOp .Not a pos) (tNotV ta):=by
 exists 4,Q,I,h;apply UnaryOp_ (thn (ha O7 s σ H _ I h) λv s1 ⟨x,H1,I1,r1,q1⟩=>?_);erw[c,1,q1]at q1;cases r1;exact not_of (qD1 %[.bl (!c),H1,I1,1|q1])
def tIf(t:TT)(ta tb:TE):TE:=λσ H Q=>t σ H λc H1=>if c=true then ta σ H1 Q else tb σ H1 Q
def xJ(hc:PT X c tA)(ha:PE X a ta)(hb:PE X b tb):PE X (.IfExp c a b pos) (tIf tA ta tb):=by
 exists 4,Q,I,h;apply wpAny_IfExp (thn (hc O7 s σ H _ I h) λd s1 ⟨H1,I1,q1⟩=>?_);cases d with
 |true=>exact ha O7 s1 σ H1 Q I1 q1
 |false=>exact hb O7 s1 σ H1 Q I1 q1
end
def SqL(K:W.Frag)(H:Hp)(a:Addr)(xs:List V):Prop:=
 Rd H a (.lst xs)∨
  ∃(o:Obj) (its:Array Value) (n:Nat),K.lookup a=some o/\o.cls=.type "list"/\o.dict=none/\o.data=.seq its n/\its.size<=sizeLine/\Vals xs its.toList
def SqT(K:W.Frag)(H:Hp)(a:Addr)(xs:List V):Prop:=
 Rd H a (.tup xs)∨
  ∃(o:Obj) (its:Array Value) (n:Nat),K.lookup a=some o/\o.cls=.type "tuple"/\o.data=.seq its n/\its.size<=sizeLine/\Vals xs its.toList
def absV:Value->Option V
 |.none=>some .non
 |.bool b=>some (.bl b)
 |.int i _=>some (.int i)
 |.str x _=>some (.str x)
 |.bytes b _=>some (.byt b)
 |.float b _=>some (.flt b)
 |.ref a=>some (.ref a)
 |.type n=>some (.ty n)
 |_=>none
def RelV.abs(r:RelV x u):absV u=some x:=by
 cases x with
 |non=>cases r;rfl
 |bl _=>cases r;rfl
 |int _=>erw[t,1]at r;rfl
 |str _=>erw[t,1]at r;rfl
 |byt _=>erw[t,1]at r;rfl
 |flt _=>erw[t,1]at r;rfl
 |ref _=>cases r;rfl
 |ty _=>cases r;rfl
def RelV.inj(r:RelV x u)(q:RelV y u):x=y:=zS0 (r.abs.symm.trans q.abs)
def Vals.inj:∀{xs ys:List V}{us:List Value},Vals xs us->Vals ys us->xs=ys
 |_,_,_,.nil,.nil=>rfl
 |_,_,_,.cons r t,.cons r' t'=>by rw[r.inj r',Vals.inj t t']
section
variable {X:Cx}{O7:#[7]}{σ:St}{H:Hp}{s:Shared}{a:Addr}{xs ys:List V}
def zG0{K:W.Frag}(h:H a=some (.lst xs)):SqL K H a xs:=.inl (.inl h)
abbrev SqL.of:=@zG0
def zC0{K:W.Frag}(h:H a=some (.tup xs)):SqT K H a xs:=.inl (.inl h)
abbrev SqT.of:=@zC0
def Inv.list(I:#[8] H s)(h:SqL X.K H a xs):∃its:List Value,Vals xs its/\PlainL s.heap a its.toArray/\xs.length<=sizeLine:=by
 rcases h with h | ⟨o,its,n,hk,hc,hd,hs,hz,r⟩
 . let%[z,its,n,r|e]:=h.ok I.hok;erw[its,r,%[_,n,e,1,1|1],z]
 . erw[its.toList,r,%[o,n,I.kIn a o hk,hc,hd|by simpa using hs],6];let e:=r.length;simp only[qF1]at e;omega
def Inv.tuple(I:#[8] H s)(h:SqT X.K H a xs):∃its:List Value,Vals xs its/\IsTup s.heap a its.toArray/\xs.length<=sizeLine:=by
 rcases h with h | ⟨o,its,n,hk,hc,hs,hz,r⟩
 . let%[z,its,r,p|_]:=h.ok I.hok;erw[its,r,p,z]
 . erw[its.toList,r,%[o,I.kIn a o hk,hc,n|by simpa using hs],6];let e:=r.length;simp only[qF1]at e;omega
def Inv.list_inj(I:#[8] H s)(h:SqL X.K H a xs)(h':SqL X.K H a ys):xs=ys:=by
 let%[its,r,%[o,n,e,_,_|d]|_]:=I.list h;let%[its',r',%[o',n',e',_,_|d']|_]:=I.list h';rw[e]at e';cases e';rw[d]at d';injection d' with d1 _
 have:its=its':=#[congrArg Array.toList d1,0]
 subst this;exact r.inj r'
def Inv.tuple_inj(I:#[8] H s)(h:SqT X.K H a xs)(h':SqT X.K H a ys):xs=ys:=by
 let%[its,r,%[o,e,_,n|d]|_]:=I.tuple h;let%[its',r',%[o',e',_,n'|d']|_]:=I.tuple h';rw[e]at e';cases e';rw[d]at d';injection d' with d1 _
 have:its=its':=#[congrArg Array.toList d1,0]
 subst this;exact r.inj r'
end
abbrev Cx.wish(X:Cx)(E:#[6]):Cx:={ X with xe:=E }
abbrev Cx.nox(X:Cx):Cx:=X.wish λ_ _=>False
def Cx.Ok.wish{X:Cx}(ok:X.Ok)(E:#[6]):(X.wish E).Ok:=
 %[ok.mod,ok.kind,ok.glob,ok.blt,ok.above,ok.inj,ok.has,ok.cab,ok.hd,ok.frames,ok.stk,ok.exf,ok.bs,ok.bsz,ok.noex,ok.exfs,ok.funs|ok.frf]
def Cx.Ok.unwish{X:Cx}{E:#[6]}(ok:(X.wish E).Ok):X.Ok:=
 %[ok.mod,ok.kind,ok.glob,ok.blt,ok.above,ok.inj,ok.has,ok.cab,ok.hd,ok.frames,ok.stk,ok.exf,ok.bs,ok.bsz,ok.noex,ok.exfs,ok.funs|ok.frf]
section
variable {X:Cx}{O7:#[7]}{σ:St}{H:Hp}{s:Shared}{E:#[6]}
def Inv.wish(I:#[8] H s)(E:#[6]):Inv (X.wish E) O7 σ H s:=%[I.ok.wish E,I.os,I.bare,I.base,I.loc,I.cell,I.free,I.freeC,I.pin,I.hok|I.len]
def Inv.unwish(I:Inv (X.wish E) O7 σ H s):#[8] H s:=%[I.ok.unwish,I.os,I.bare,I.base,I.loc,I.cell,I.free,I.freeC,I.pin,I.hok|I.len]
def SP.unwish(h:SP (X.wish E) O7 D f s'):SP X O7 D f s':=by
 cases f with
 |next=>erw[σ',H',I,q]at h;erw[σ',H',I.unwish,q]
 |brk=>erw[σ',H',I,q]at h;erw[σ',H',I.unwish,q]
 |cont=>erw[σ',H',I,q]at h;erw[σ',H',I.unwish,q]
 |ret u=>erw[v,σ',H',I,r,q]at h;erw[v,σ',H',I.unwish,r,q]
def PSs.nox{st:List Stmt}(h:PSs X.nox st t):PSs X st t:=λO7 s σ H D I hw=>
 jS0 (h O7 s σ H D (I.wish _) hw) (λ_ _ q=>q.unwish) λ_ _ z=>False.elim z
end
section
variable {X:Cx}{st:Stmt}{rest:List Stmt}{t u:TS}{e:Expr}{te:TE}{pos:Pos}
def tNext:TS:=λD σ H=>D.nx σ H
def tSeq(t u:TS):TS:=λD σ H=>t { D with nx:=u D } σ H
def aB:PSs X [] tNext:=λ_ _ σ H _ I h=>wP1 %[σ,H,I|h]
def ad(h1:PS X st t)(h2:PSs X rest u):PSs X (st::rest) (tSeq t u):=by
 exists 4,D,I,h;apply wpAny_execs_cons (thn (h1 O7 s σ H { D with nx:=u D } I h) λf s1 q=>?_);cases f with
 |next=>
   erw[σ',H',I',q]at q;exact h2 O7 s1 σ' H' D I' q
 |ret v=>exact q
 |brk=>exact q
 |cont=>exact q
def af(h1:PS X st t):PSs X [st] t:=by
 exists 4,D,I,h;apply wpAny_execs_cons (thn (h1 O7 s σ H D I h) λf s1 q=>?_);cases f with
 |next=>exact wP1 q
 |ret v=>exact q
 |brk=>exact q
 |cont=>exact q
def Inv.quiet{σ:St}(I:#[8] H s):interactive X.env=false:=by simp [interactive,I.ok.kind]
def tDrop(te:TE):TS:=λD σ H=>te σ H λ_ H1=>D.nx σ H1
def bb(he:PE X e te)(hs:swapsWith e none pos.line X.env=pure false:=by rfl):PS X (.Expr e pos) (tDrop te):=by
 exists 4,D,I,h;exact wpAny_Expr_any (thn (he O7 s σ H _ I h) λv s1 ⟨x,H1,I1,r1,q1⟩=>%[σ,H1,I1|q1]) I.quiet hs
def tRet(te:TE):TS:=λD σ H=>te σ H D.rt
def am(he:PE X e te):PS X (.Return (some e) pos) (tRet te):=by
 exists 4,D,I,h;exact wpAny_Return_some (thn (he O7 s σ H _ I h) λv s1 ⟨x,H1,I1,r1,q1⟩=>%[x,σ,H1,I1,r1|q1])
def tIfS(c:TT)(t u:TS):TS:=λD σ H=>c σ H λb H1=>if b=true then t D σ H1 else u D σ H1
def aJ(hc:PT X c tc)(ha:PSs X a t)(hb:PSs X b u):PS X (.If c a b pos) (tIfS tc t u):=by
 exists 4,D,I,h;apply wpAny_If (thn (hc O7 s σ H _ I h) λd s1 ⟨H1,I1,q1⟩=>?_);cases d with
 |true=>exact ha O7 s1 σ H1 D I1 q1
 |false=>exact hb O7 s1 σ H1 D I1 q1
def JW:TS:=λ_ _ _=>False
def bq:PSs X sts JW:=λ_ _ _ _ _ _ h=>h.elim
end
abbrev TG:=V->St->Hp->(St->Hp->Prop)->Prop
abbrev TGs:=List V->St->Hp->(St->Hp->Prop)->Prop
def PG(X:Cx)(target:Expr)(t:TG):Prop:=
 ∀(O7:#[7])(s:Shared)(σ:St)(H:Hp)(v:V)(u:Value)(Q:St->Hp->Prop),#[8] H s->RelV v u->t v σ H Q ->
  ‹X.w› (assign target X.env u) (λ_ s'=>NP X O7 Q s') X.xe s
def PGs(X:Cx)(ts:List Expr)(t:TGs):Prop:=
 ∀(O7:#[7])(s:Shared)(σ:St)(H:Hp)(vs:List V)(us:List Value)(Q:St->Hp->Prop),#[8] H s->Vals vs us->t vs σ H Q ->
  ‹X.w› (assignInOrder ((assignEach ts X.env).map (·.2)) us) (λ_ s'=>NP X O7 Q s') X.xe s
abbrev Lx:=V->V->V->Hp->(Hp->Prop)->Prop
def PSet(X:Cx)(t:Lx):Prop:=
 ∀(O7:#[7])(s:Shared)(σ:St)(H:Hp)(o i v:V)(ov iv u:Value)(Q:Hp->Prop),#[8] H s->RelV o ov->RelV i iv->RelV v u->t o i v H Q ->
  ‹X.w› (setItem ov iv u) (λ_ s'=>HQ X O7 σ Q s') X.xe s
section
variable {X:Cx}{pos:Pos}
def JI(i:Nat):TG:=λv σ H Q=>Q (σ.set i (some v)) H
def aX{i:Nat}{x:Str}(hN:X.N.Nodup)(hi:X.N[i]?=some x)(hx:Loc X.env.scope x)(hf:X.fn x=true∨X.env.scope.names.lookup x=some .local:=by first | exact .inl rfl | exact .inr rfl | assumption):PG X (.Name x pos) (JI i):=by
 exists 4,v,u,Q,I,r,h;exact wpAny_assign_Name (xu I hN hi hx r (λs' I'=>%[_,H,I'|h]) hf)
instance gNil(vs:List V)(σ:St)(H:Hp)(Q:(St->Hp->Prop)):vs=[]->Q σ H:=0
instance gCons(t:TG)(u:TGs)(vs:List V)(σ:St)(H:Hp)(Q:(St->Hp->Prop)):∀v r,vs=v::r->(t v σ H λσ' H'=>u r σ' H' Q):=0
def lQ:PGs X [] gNil:=by
 exists 4,vs,us,Q,I,r,h;erw[e,h]at h;subst e;cases r;exact assignInOrder_nil %[σ,H,I|h]
def dA(h1:PG X e t)(h2:PGs X es u)
 (hs:(assignEach (e::es) X.env).map (·.2)=assign e X.env::(assignEach es X.env).map (·.2):=by rfl):PGs X (e::es) (gCons t u):=by
 exists 4,vs,us,Q,I,r,h;erw[v,vr,e1,h]at h;subst e1;cases r with
 |cons r rr=>
   rw[hs];apply assignInOrder_cons (thn (h1 O7 s σ H _ _ _ I r h) λ_ s1 ⟨σ1,H1,I1,q1⟩=>?_);exact h2 O7 s1 σ1 H1 _ _ Q I1 rr q1
instance gTup(K:W.Frag)(n:Nat)(t:TGs)(v:V)(σ:St)(H:Hp)(Q:(St->Hp->Prop)):∀a xs,v=.ref a->SqT K H a xs->xs.length=n->t xs σ H Q:=0
def pU{k:Nat}{n:Nat}(hc:X.calm=true)(h:PGs X es t)
 (hn:(assignEach es X.env).length=n:=by rfl)(Pd:(assignEach es X.env).findIdx? (·.1)=none:=by rfl):PG X (.Tuple es k pos) (gTup X.K n t):=by
 exists 4,v,u,Q,I,r,hw;erw[a,xs,e1,hq,hl,hw]at hw;subst e1;cases r;let%[its,rv,ht|hz]:=I.tuple hq;apply assign_Tuple_tuple (I.ok.hd hc) ht (by simp [hn,←hl,rv.length]) Pd λh' hx=>?_
 let I1:#[8] H { s with heap:=h' }:=I.kept (t':=s.toks) λb o e=>hx b o (zV0 (zN0 e)) e
 exact h O7 _ σ H xs _ Q I1 #[rv,0] hw
def gSub(to ti:TE)(t:Lx):TG:=λv σ H Q=>to σ H λo H1=>ti σ H1 λi H2=>t o i v H2 λH3=>Q σ H3
def we(ho:PE X o to)(hi:PE X i ti)(hs:PSet X t)
 (ha:∀v,assign (.Subscript o i pos) X.env v=(do
  let ov ←holding [v] (eval o X.env)
  let iv ←holding [v,ov] (eval i X.env)
  standAt pos
  holding [v,ov,iv] (setItem ov iv v)
  release [v,ov,iv] []):=by intro _;rfl):PG X (.Subscript o i pos) (gSub to ti t):=by
 exists 4,v,u,Q,I,r,h;rw[ha];apply zD0 (jS1 (thn (ho O7 s σ H _ I h) λov s1 ⟨x,H1,I1,r1,q1⟩=>?_));apply zD0 (jS1 (thn (hi O7 s1 σ H1 _ I1 q1) λiv s2 ⟨y,H2,I2,r2,q2⟩=>?_));apply zD0 (wpAny_standAt (zD0 (jS1 (thn (hs O7 s2 σ H2 x y v ov iv u _ I2 r1 r2 r q2) λ_ s3 ⟨H3,I3,q3⟩=>?_))));exact wpAny_release %[σ,H3,I3|q3]
def tAsg(te:TE)(g:TG):TS:=λD σ H=>te σ H λx H1=>g x σ H1 D.nx
def pS(he:PE X e te)(hg:PG X tg g)(hs:swapsWithSole [tg] e pos.line X.env=pure false:=by rfl)(hw:swappedStores [tg] e X.env=pure none:=by rfl)
 (h1:(assignEach [tg] X.env).map (·.2)=[assign tg X.env]:=by rfl):PS X (.Assign [tg] e pos) (tAsg te g):=by
 exists 4,D,I,h;apply wpAny_Assign_stores (thn (he O7 s σ H _ I h) λv s1 ⟨x,H1,I1,r1,q1⟩=>?_) hs hw;rw[h1];exact thn (hg O7 s1 σ H1 x v _ I1 r1 q1) λ_ s2 q=>q
def ao{i:Nat}{x:Str}{pos':Pos}(hN:X.N.Nodup)(hi:X.N[i]?=some x)(hx:Loc X.env.scope x)(he:PE X e te)(hs:swapsWith e (some (.Name x pos')) pos.line X.env=pure false:=by rfl)(hf:X.fn x=true∨X.env.scope.names.lookup x=some .local:=by first | exact .inl rfl | exact .inr rfl | assumption):
 PS X (.Assign [.Name x pos'] e pos) (tAsg te (JI i)):=by
 exists 4,D,I,h;apply wpAny_Assign_Name (thn (he O7 s σ H _ I h) λv s1 ⟨y,H1,I1,r1,q1⟩=>?_) hs;exact xu I1 hN hi hx r1 (λs2 I2=>%[_,H1,I2|q1]) hf
end
section
variable {X:Cx}{pos:Pos}
def JV(c:TT)(tb:TS):TS:=λD σ H=>∃W:Nat->St->Hp->Prop,(∃m,W m σ H)/\∀m σ H,W m σ H ->
 c σ H λb H1=>if b=true then ∃N:St->Hp->Prop,(∀ σ' H',N σ' H'->∃m',m'<m/\W m' σ' H')/\tb { D with nx:=N,ct:=N,bk:=D.nx } σ H1 else D.nx σ H1
def iF(hp:PassesOwn (model X.prog X.w) X.A X.env X.xe)(hc:PT X c tc)(hb:PSs X body tb):PS X (.While c body [] pos) (JV tc tb):=by
 exists 4,D,I,h;erw[W,%[m0|w0],turn]at h;apply wpAny_While (codeAny_whileLoop (λn s'=>NP X O7 (W n) s') ?_ m0 %[σ,H,I|w0]);rintro n s1 ⟨σ1,H1,I1,w1⟩;apply jG0 hp (thn (hc O7 s1 σ1 H1 _ I1 (turn n σ1 H1 w1)) λb s2 ⟨H2,I2,q2⟩=>?_);cases b with
 |true=>
   erw[N,hN,q2]at q2;rw[O9 rfl];apply jG0 hp (thn (hb O7 s2 σ1 H2 _ I2 q2) λf s3 q3=>?_);cases f with
   |next=>
     erw[σ3,H3,I3,n3]at q3;let%[m',hm|w3]:=hN σ3 H3 n3;erw[m',hm,σ3,H3,I3,w3]
   |cont=>
     erw[σ3,H3,I3,n3]at q3;let%[m',hm|w3]:=hN σ3 H3 n3;erw[m',hm,σ3,H3,I3,w3]
   |brk=>exact q3
   |ret v=>exact q3
 |false=>
   rw[O8 qH0];exact wP1 %[σ1,H2,I2|q2]
end
structure It where
 go:Nat->Hp->Prop
 yld:Nat->Hp->V->Hp->Prop
 stop:Nat->Hp->Prop
def jh(X:Cx)(O7:#[7])(H:Hp)(b:Addr):Prop:=
 H b=none/\b≠X.env.locals/\b∉X.fs/\(b∈X.ex∨X.s₀.heap.objs.size<=b)/\(∀x c,X.env.cells.lookup x=some c->c≠b)/\∀p∈X.pn++O7,p.1≠b
def Inv.fpOk{σ:St}{H':Hp}{b:Addr}(I:#[8] H s)(hb:‹s›<=b)(hn:H' b=none):jh X O7 H' b:=by
 erw[hn,jY0 (qQ0 I.lt hb),I.nofs hb,.inr (zP0 I.sz hb),λx c e z=>?_,λp hp z=>?_]
 . let%[v|q]:=I.cell x c e;exact absurd (qQ0 q.lt (by rw[z];exact hb)) (qS0 _)
 . exact absurd (qQ0 (zN0 (I.pin p hp).1) (by rw[z];exact hb)) (qS0 _)
structure Turn(P:Program)(w:World)(K:W.Frag)(tg:Expr)(J:It)(fp:List Addr)(it:Addr)(tn:Nat->Heap->Prop):Prop where
 mem:it∈fp
 obj:∀i h,tn i h->∀b∈fp,∃o,h.get? b=some o/\∀v,o.data≠.cell v
 keep:∀i h h',tn i h->(∀b∈fp,∀o,h.get? b=some o->h'.get? b=some o)->tn i h'
 item:∀(X:Cx),X.prog=P->X.w=w->X.K=K->X.calm=true->∀(i:Nat)(O7:#[7])(s:Shared)(σ:St)(H:Hp)(E:#[6]),#[8] H s->(∀b∈fp,jh X O7 H b)->tn i s.heap->J.go i H ->
  wpAny (model P w) X.A (pyNext (.ref it)) (λr s1=>∃u,r=some u/\
   wpAny (model P w) X.A (letOwnedTupleGo tg (.ref it) u) (λ_ s2=>∃x H',#[8] H' s2/\RelV x u/\J.yld i H x H'/\tn (i+1) s2.heap/\∀b∈fp,H' b=none) E s1) E s
 done:∀(X:Cx),X.prog=P->X.w=w->X.K=K->X.calm=true->∀(i:Nat)(O7:#[7])(s:Shared)(σ:St)(H:Hp)(E:#[6]),#[8] H s->(∀b∈fp,jh X O7 H b)->tn i s.heap->J.stop i H ->
  wpAny (model P w) X.A (pyNext (.ref it)) (λr s1=>r=none/\#[8] H s1) E s
 self:∀(A:Around)(i:Nat)(s:Shared)(Q:#[6])(E:#[6]),tn i s.heap->Q (.ref it) s->wpAny (model P w) A (pyIter (.ref it)) Q E s
abbrev TI:=St->Hp->(It->Hp->Prop)->Prop
def PIE(X:Cx)(O7:#[7])(σ:St)(tg:Expr)(R:It->Hp->Prop)(itv:Value)(s2:Shared):Prop:=
 ∃(it:Addr)(fp:List Addr)(tn:Nat->Heap->Prop)(J:It)(H':Hp),itv=.ref it/\#[8] H' s2/\Turn X.prog X.w X.K tg J fp it tn/\tn 0 s2.heap/\(∀b∈fp,jh X O7 H' b)/\R J H'
def PI(X:Cx)(tg iter:Expr)(wi:TI):Prop:=
 ∀(O7:#[7])(s:Shared)(σ:St)(H:Hp)(R:It->Hp->Prop),#[8] H s->wi σ H R ->
  ‹X.w› (eval iter X.env) (λv s1=>‹X.w› (pyIter v) (PIE X O7 σ tg R) X.xe s1) X.xe s
def yu{M:Model}{A:Around}{E:#[6]}{s:Shared}{tg:Expr}{it:Addr}{u:Value}{o:Obj}{n:String}{vs:Array Value}{Q:Unit->Shared->Prop}(ho:s.heap.get? it=some o)(hc:o.cls=.type n)(hd:o.data=.fields vs)
 (hn:["enumerate","zip","dict_itemiterator","dict_reverseitemiterator","odict_iterator","itertools.zip_longest","itertools.pairwise"].contains n=false)(hQ:Q () s):wpAny M A (letOwnedTupleGo tg (.ref it) u) Q E s:=by
 unfold letOwnedTupleGo;cases tg <;> first
  |exact zI0 hQ
  | (cases u <;> first
   |exact zI0 hQ
   | (apply zD0 (wpAny_load ho ?_)
      rw[hc,hd];show wpAny M A (if(["enumerate","zip","dict_itemiterator","dict_reverseitemiterator","odict_iterator","itertools.zip_longest","itertools.pairwise"].contains n&&vs[0]?==some (rawInt _))=true then _ else _) Q E s;rw[O8 (by intro h;rw[hn,Bool.false_and]at h;cases h)];exact zI0 hQ))
def Itl(K:W.Frag)(a:Addr):It:=
 ⟨λi H=>∃xs x,SqL K H a xs/\xs[i]?=some x,λi H x H'=>H'=H/\∀xs,SqL K H a xs->xs[i]?=some x,λi H=>∃xs,SqL K H a xs/\xs.length<=i⟩
def Itt(K:W.Frag)(a:Addr):It:=
 ⟨λi H=>∃xs x,SqT K H a xs/\xs[i]?=some x,λi H x H'=>H'=H/\∀xs,SqT K H a xs->xs[i]?=some x,λi H=>∃xs,SqT K H a xs/\xs.length<=i⟩
def Itr(lo:Int)(n:Nat):It:=%[λi _=>i<n,λi H x H'=>H'=H/\x=.int (lo+i)|λi _=>n<=i]
def BN{K:W.Frag}(a it:Addr):Turn P w K tg (Itl K a) [it] it (λi h=>h.IsListIter it a i) where
 mem:=by simp
 obj:=λi h st b hb=>by
  let e:b=it:=#[hb,0]
  subst e;erw[o,e,c,d]at st;erw[o,e,λv z=>by rw[d]at z;cases z]
 keep:=λi h h' st k=>st.at λo e=>k it #[2] o e
 item:=by
  exists 5;erw[xs,x,hq,hx]at hg;let%[its,rv,p|hz]:=I.list hq;let%[u,hu|ru]:=rv.get hx;let%[f0,f1,f2,f3,f4|f5]:=hf it #[2];apply wpAny_pyNext_list_item st p.isList (x:=u) #[hu,0] λh' st' sb=>?_
  let I1:#[8] H { s with heap:=h' }:=I.turned (t':=s.toks) (λb o hb e=>(sb.2 b hb).trans e) f0 f1 f3 f4 f5;let%[o,e,c|d]:=id st';erw[u,1,yu (s:={ s with heap:=h' }) e c d ⋯ ⟨x,H,I1,ru,⟨rfl,λys hy=>by rw[I.list_inj hy hq];exact hx⟩,st',λb hb=>(hf b hb).1⟩]
 done:=by
  exists 5;erw[xs,hq,hx]at hg;let%[its,rv,p|hz]:=I.list hq;let%[f0,f1,f2,f3,f4|f5]:=hf it #[2];let hl:=rv.length;exact wpAny_pyNext_list_end (I.ok.hd hc) st p.isList (by simp;omega) λh' eb=>%[1|I.turned (t':=s.toks) (λb o hb e=>eb b o hb e) f0 f1 f3 f4 f5]
 self:=λ_ _ _ _ _ st h=>wpAny_pyIter_listiter st h
def yU{K:W.Frag}(a it:Addr):Turn P w K tg (Itt K a) [it] it (λi h=>h.IsTupleIter it a i) where
 mem:=by simp
 obj:=λi h st b hb=>by
  let e:b=it:=#[hb,0]
  subst e;erw[o,e,c,d]at st;erw[o,e,λv z=>by rw[d]at z;cases z]
 keep:=λi h h' st k=>st.at λo e=>k it #[2] o e
 item:=by
  exists 5;erw[xs,x,hq,hx]at hg;let%[its,rv,p|hz]:=I.tuple hq;let%[u,hu|ru]:=rv.get hx;let%[f0,f1,f2,f3,f4|f5]:=hf it #[2];apply wpAny_pyNext_tuple_item st (show s.heap.IsTuple a its.toArray from p) (x:=u) #[hu,0] λh' st' sb=>?_
  let I1:#[8] H { s with heap:=h' }:=I.turned (t':=s.toks) (λb o hb e=>(sb.2 b hb).trans e) f0 f1 f3 f4 f5;let%[o,e,c|d]:=id st';erw[u,1,yu (s:={ s with heap:=h' }) e c d ⋯ ⟨x,H,I1,ru,⟨rfl,λys hy=>by rw[I.tuple_inj hy hq];exact hx⟩,st',λb hb=>(hf b hb).1⟩]
 done:=by
  exists 5;erw[xs,hq,hx]at hg;let%[its,rv,p|hz]:=I.tuple hq;let%[f0,f1,f2,f3,f4|f5]:=hf it #[2];let hl:=rv.length;exact wpAny_pyNext_tuple_end (I.ok.hd hc) st (show s.heap.IsTuple a its.toArray from p) (by simp;omega) λh' eb=>%[1|I.turned (t':=s.toks) (λb o hb e=>eb b o hb e) f0 f1 f3 f4 f5]
 self:=λ_ _ _ _ _ st h=>wpAny_pyIter_tupleiter st h
def yV{K:W.Frag}(it:Addr)(lo:Int)(n:Nat):Turn P w K tg (Itr lo n) [it] it (λi h=>IsRangeIter h it (lo+(i:Nat)*1) ((n:Int)-(i:Nat)) 1) where
 mem:=by simp
 obj:=λi h st b hb=>by
  let e:b=it:=#[hb,0]
  subst e;exact⟨_,st,λv z=>by
   let z':Data.fields _=Data.cell v:=z;cases z'⟩
 keep:=λi h h' st k=>k it #[2] _ st
 item:=by
  exists 5;let%[f0,f1,f2,f3,f4|f5]:=hf it #[2];let W:=Walks.range (prog:=X.prog) (w:=X.w) (I.ok.hd hc) it lo 1 n;apply W.item i s _ _ hg st λv h' tk hv st' kk=>?_
  erw[t,1]at hv;let I1:#[8] H { s with heap:=h',toks:=tk }:=I.turned (λb o hb e=>kk b o #[hb,0] e) f0 f1 f3 f4 f5;erw[0,yu (s:={ s with heap:=h',toks:=tk }) (n:="range_iterator") st' rfl rfl ⋯ ⟨.int (lo+i),H,I1,⟨t,?_⟩,⟨rfl,rfl⟩,st',λb hb=>(hf b hb).1⟩];rw[jO1]
 done:=by
  exists 5;let%[f0,f1,f2,f3,f4|f5]:=hf it #[2];exact wpAny_pyNext_range_end (I.ok.hd hc) st (by have:n<=i:=hg;omega) λh' eb=>%[1|I.turned (t':=s.toks) (λb o hb e=>eb b o hb e) f0 f1 f3 f4 f5]
 self:=λ_ _ _ _ _ st h=>wpAny_pyIter_rangeiter st h
section
variable {X:Cx}{tg:Expr}
instance ZiList(K:W.Frag)(R:(It->Hp->Prop))(x:V)(H1:Hp):∀a,x=.ref a->(∃xs,SqL K H1 a xs)->R (Itl K a) H1:=0
def JG(K:W.Frag)(tl:TE):TI:=λσ H R=>tl σ H λx H1=>ZiList K R x H1
instance ZiTup(K:W.Frag)(R:(It->Hp->Prop))(x:V)(H1:Hp):∀a,x=.ref a->(∃xs,SqT K H1 a xs)->R (Itt K a) H1:=0
def iTup(K:W.Frag)(tl:TE):TI:=λσ H R=>tl σ H λx H1=>ZiTup K R x H1
def dJ(hl:PE X l tl):PI X tg l (JG X.K tl):=by
 exists 4,R,I,h;apply thn (hl O7 s σ H _ I h) λv s1 ⟨x,H1,I1,r1,q1⟩=>?_
 erw[a,e,%[xs|hq],q]at q1;subst e;cases r1;let%[its,rv,p|hz]:=I1.list hq;apply jG1 p.isList ?_;erw[‹s1›,[‹s1›],_,_,H1,1,I1.kept (t':=s1.toks) λb o e=>zQ0 _ e,BN a _,%[_,qD0 _ rfl,1|1],λb hb=>?_,q];let e:b=‹s1›:=#[hb,0]
 subst e;exact I1.fpOk (zH0 _) (I1.hok.fresh (zH0 _))
def fh(hl:PE X l tl):PI X tg l (iTup X.K tl):=by
 exists 4,R,I,h;apply thn (hl O7 s σ H _ I h) λv s1 ⟨x,H1,I1,r1,q1⟩=>?_
 erw[a,e,%[xs|hq],q]at q1;subst e;cases r1;let%[its,rv,p|hz]:=I1.tuple hq;apply jO0 (show s1.heap.IsTuple a its.toArray from p) ?_;erw[‹s1›,[‹s1›],_,_,H1,1,I1.kept (t':=s1.toks) λb o e=>zQ0 _ e,yU a _,%[_,qD0 _ rfl,1|1],λb hb=>?_,q];let e:b=‹s1›:=#[hb,0]
 subst e;exact I1.fpOk (zH0 _) (I1.hok.fresh (zH0 _))
def xF{σ:St}{R:It->Hp->Prop}{E:#[6]}{lo hi:Int}{t u v:Tok}{tk:Nat}(I:#[8] H s)(h1:-(2 ^ 62)<=lo)(h2:lo<2 ^ 62)(h3:-(2 ^ 62)<=hi)(h4:hi<2 ^ 62)
 (q:R (Itr lo (hi-lo).toNat) H):‹X.w› (pyIter (.ref ‹s›)) (PIE X O7 σ tg R) E { s with heap:=s.heap.push { cls:=.type "range",data:=.fields #[.int lo t,.int hi u,.int 1 v] },toks:=tk }:=by
 apply wpAny_pyIter_range (IsRange.new ..) (small_one h1 h2 h3 h4) ?_;let I1:#[8] H { s with heap:=s.heap.push { cls:=.type "range",data:=.fields #[.int lo t,.int hi u,.int 1 v] },toks:=tk }:=I.kept λb o e=>zQ0 _ e
 erw[(s.heap.push { cls:=.type "range",data:=.fields #[.int lo t,.int hi u,.int 1 v] }).objs.size,[(s.heap.push { cls:=.type "range",data:=.fields #[.int lo t,.int hi u,.int 1 v] }).objs.size],_,_,H,1,I1.kept (t':=tk) λb o e=>zQ0 _ e,yV _ lo (hi-lo).toNat,6,λb hb=>?_,q]
 . let e1:lo+((0:Nat):Int)*1=lo:=by simp
   let e2:(((hi-lo).toNat:Nat):Int)-((0:Nat):Int)=Builtin.Range.rangeSize lo hi 1:=by rw[rangeSize_one];split <;> omega
   show IsRangeIter _ _ (lo+((0:Nat):Int)*1) ((((hi-lo).toNat:Nat):Int)-((0:Nat):Int)) 1;rw[e1,e2];exact qD0 _ rfl
 . let e:b=(s.heap.push { cls:=.type "range",data:=.fields #[.int lo t,.int hi u,.int 1 v] }).objs.size:=#[hb,0]
   subst e;exact I1.fpOk (zH0 _) (I1.hok.fresh (zH0 _))
instance ZiRng1(R:(It->Hp->Prop))(vs:(List V))(H1:Hp):∀j:Int,vs=[.int j]->-(2 ^ 62)<=j->j<2 ^ 62->R (Itr 0 j.toNat) H1:=0
def iRng1(ta:TA):TI:=λσ H R=>ta σ H λvs H1=>ZiRng1 R vs H1
instance ZiRng2(R:(It->Hp->Prop))(vs:(List V))(H1:Hp):∀i j:Int,vs=[.int i,.int j]->-(2 ^ 62)<=i/\i<2 ^ 62/\-(2 ^ 62)<=j/\j<2 ^ 62->R (Itr i (j-i).toNat) H1:=0
def iRng2(ta:TA):TI:=λσ H R=>ta σ H λvs H1=>ZiRng2 R vs H1
def bL{a:Expr}{p pos:Pos}(hg:Gl X "range")(hm:X.mg "range"=none)(ha:PA X [a] ta)(hs:starEach [a] X.env=[(false,eval a X.env)]:=by rfl):PI X tg (.Call (.Name "range" p) [a] [] pos) (iRng1 ta):=by
 exists 4,R,I,h;apply Call_ (iI I hg hm boot_range (zN1 (thn (ha pos O7 s σ H _ I h) λus s1 ⟨vs,H1,I1,r1,q1⟩=>?_) hs rfl));erw[j,e,q1,q2,q]at q1;subst e;cases r1 with
 |cons r rr=>
   cases rr;erw[t,1]at r;exact call_range_1 (xF I1 #[0] #[0] q1 q2 #[q,0])
def Cr{a b:Expr}{p pos:Pos}(hg:Gl X "range")(hm:X.mg "range"=none)(ha:PA X [a,b] ta)(hs:starEach [a,b] X.env=[(false,eval a X.env),(false,eval b X.env)]:=by rfl)(hs2:starEach [b] X.env=[(false,eval b X.env)]:=by rfl):
 PI X tg (.Call (.Name "range" p) [a,b] [] pos) (iRng2 ta):=by
 exists 4,R,I,h;apply Call_ (iI I hg hm boot_range (zN1 (thn (ha pos O7 s σ H _ I h) λus s1 ⟨vs,H1,I1,r1,q1⟩=>?_) (by rw[hs,hs2]) (by rw[hs2];rfl)));erw[i,j,e,%[q1,q2,q3|q4],q]at q1;subst e;cases r1 with
 |cons r rr=>
   cases rr with
   |cons r' rr=>
     cases rr;erw[t,1]at r;erw[t',1]at r';exact call_range_2 (xF I1 q1 q2 q3 q4 q)
def tFor(wi:TI)(g:TG)(tb:TS):TS:=λD σ H=>wi σ H λJ H1=>∃W:Nat->Nat->St->Hp->Prop,(∃m,W 0 m σ H1)/\∀i m σ H,W i m σ H ->
 (J.stop i H/\D.nx σ H)∨(J.go i H/\∃N:St->Hp->Prop,(∀ σ' H',N σ' H'->∃m',m'<m/\W (i+1) m' σ' H')/\∀x H',J.yld i H x H'->g x σ H' λσ2 H2=>tb { D with nx:=N,ct:=N,bk:=D.nx } σ2 H2)
def sP(fp:List Addr)(h:Heap):#[7]:=fp.filterMap λb=>(h.get? b).map λo=>(b,o)
def kf{fp:List Addr}{h:Heap}{b:Addr}{o:Obj}(hb:b∈fp)(e:h.get? b=some o):(b,o)∈sP fp h:=List.mem_filterMap.mpr %[b,hb|by rw[e];rfl]
def CK{p:Addr×Obj}(hp:p∈sP fp h):p.1∈fp/\h.get? p.1=some p.2:=by
 let%[b,hb|e]:=List.mem_filterMap.mp hp;cases q:h.get? b with
 |none=>rw[q]at e;cases e
 |some o=>
   rw[q]at e;let e':(b,o)=p:=zS0 e;subst e';erw[hb,q]
def Inv.pinned{σ:St}{fp:List Addr}(I:#[8] H s)(hf:∀b∈fp,jh X O7 H b)(ho:∀b∈fp,∃o,s.heap.get? b=some o/\∀v,o.data≠.cell v):Inv X (O7++sP fp s.heap) σ H s:=
 I.pins_of λp hp=>(qN0 hp).elim (λz=>I.pin p (qU0 _ z)) λz=>by
  let%[hb|e]:=CK z;let%[f0,f1,f2|_]:=hf p.1 hb;let%[o,e'|d]:=ho p.1 hb;rw[e]at e';cases e';erw[e,f0,f1,f2,d]
def Inv.unpinned{O7 pl:#[7]}{σ:St}(I:Inv X (O7++pl) σ H s):#[8] H s:=I.pins_of λp hp=>I.pin p (qU0 _ (wM1 _ hp))
def cI{iter:Expr}{pos:Pos}(hp:PassesOwn (model X.prog X.w) X.A X.env X.xe)(hc:X.calm=true)(hi:PI X tg iter wi)(hg:PG X tg g)(hb:PSs X body tb)
 (hs:∀x,foldedSetIterable iter X.env x=pure x:=by intro _;rfl):PS X (.For tg iter body [] pos) (tFor wi g tb):=by
 exists 4,D,I,h;apply wpAny_For (thn (hi O7 s σ H _ I h) λv s1 h1=>thn h1 λitv s2 h2=>?_) hs;erw[it,fp,tn,J,H2,e,I2,T,st2,f2,W,%[m0|w0],turn]at h2;subst e;let stat:∀{H':Hp},(∀b∈fp,H' b=none)->∀b∈fp,jh X O7 H' b:=λhn b hb=>%[hn b hb|(f2 b hb).2]
 apply codeAny_forLoop_any (λn s'=>∃i σ' H',Inv X O7 σ' H' s'/\tn i s'.heap/\(∀b∈fp,H' b=none)/\W i n σ' H') ?_ m0 %[(0),σ,H2,I2,st2,λb hb=>(f2 b hb).1|w0];rintro n s3 ⟨i,σ3,H3,I3,st3,fr3,w3⟩;rcases turn i n σ3 H3 w3 with⟨stop,qn⟩ | ⟨go,N,hN,step⟩
 . apply jG0 hp (thn (T.done X rfl rfl rfl hc i O7 s3 σ3 H3 X.xe I3 (stat fr3) st3 stop) λr s4 ⟨hr,I4⟩=>?_);subst hr;exact wP1 %[σ3,H3,I4|qn]
 . apply jG0 hp (thn (T.item X rfl rfl rfl hc i O7 s3 σ3 H3 X.xe I3 (stat fr3) st3 go) λr s4 ⟨u,hr,h4⟩=>?_);subst hr;apply jG0 hp (thn h4 λ_ s5 ⟨x,H5,I5,r5,y5,st5,fr5⟩=>?_);let I5':=I5.pinned (stat fr5) (T.obj _ _ st5);apply jG0 hp (thn (hg _ s5 σ3 H5 x u _ I5' r5 (step x H5 y5)) λ_ s6 ⟨σ6,H6,I6,q6⟩=>?_);apply jG0 hp (thn (hb _ s6 σ6 H6 _ I6 q6) λf s7 q7=>?_);let again:∀{σ7:St}{H7:Hp},Inv X (O7++sP fp s5.heap) σ7 H7 s7->N σ7 H7->∃m,m<n/\∃i σ' H',Inv X O7 σ' H' s7/\tn i s7.heap/\(∀b∈fp,H' b=none)/\W i m σ' H':=fun{σ7 H7} I7 n7=>by
    let%[m',hm|w7]:=hN σ7 H7 n7;erw[m',hm,i+1,σ7,H7,I7.unpinned,T.keep _ _ _ st5 λb hb o e=>(I7.pin (b,o) (qU0 _ (qU0 _ (kf hb e)))).1,λb hb=>?_,w7];let%[o,e|d]:=T.obj _ _ st5 b hb;exact(I7.pin (b,o) (qU0 _ (qU0 _ (kf hb e)))).2.1
   cases f with
   |next=>erw[σ7,H7,I7,n7]at q7;exact again I7 n7
   |cont=>erw[σ7,H7,I7,n7]at q7;exact again I7 n7
   |brk=>erw[σ7,H7,I7,q7]at q7;erw[σ7,H7,I7.unpinned,q7]
   |ret v=>erw[x7,σ7,H7,I7,r7,q7]at q7;erw[x7,σ7,H7,I7.unpinned,r7,q7]
end
def iJ{K:W.Frag}{xs:List V}{g:TG}{tb:TS}{D:Ends}{σ:St}{H:Hp}(Pv:Nat->St->Hp->Prop)(h0:Pv 0 σ H)(hl:∀i σ H,i<=xs.length->Pv i σ H->SqL K H a xs)
 (hs:∀i x σ H,xs[i]?=some x->Pv i σ H->g x σ H λσ2 H2=>tb { D with nx:=Pv (i+1),ct:=Pv (i+1),bk:=D.nx } σ2 H2)(hd:∀ σ H,Pv xs.length σ H->D.nx σ H):
 ∃ W:Nat->Nat->St->Hp->Prop,(∃m,W 0 m σ H)/\∀i m σ H,W i m σ H ->
  ((Itl K a).stop i H/\D.nx σ H)∨((Itl K a).go i H/\∃N:St->Hp->Prop,(∀ σ' H',N σ' H'->∃m',m'<m/\W (i+1) m' σ' H')/\∀x H',(Itl K a).yld i H x H'->g x σ H' λσ2 H2=>tb { D with nx:=N,ct:=N,bk:=D.nx } σ2 H2):=by
 erw[λi m σ H=>m=xs.length-i/\i<=xs.length/\Pv i σ H,%[xs.length,by simp,zW0 _|h0],6];rintro i m σ H ⟨rfl,hi,p⟩;let q:=hl i σ H hi p
 by_cases Pc:i<xs.length
 . refine .inr %[%[xs,xs[i],q|by simp [Pc]],Pv (i+1),λσ' H' p'=>%[xs.length-(i+1),3,1,Pc|p']|λx H' y=>?_];erw[e,y]at y;subst e;exact hs i x σ _ (y xs q) p
 . let e:i=xs.length:=#[0]
   subst e;exact .inl %[%[xs,q|zH0 _]|hd σ H p]
def wU{K:W.Frag}{xs:List V}{g:TG}{tb:TS}{D:Ends}{σ:St}{H:Hp}(Pv:Nat->St->Hp->Prop)(h0:Pv 0 σ H)(hl:∀i σ H,i<=xs.length->Pv i σ H->SqT K H a xs)
 (hs:∀i x σ H,xs[i]?=some x->Pv i σ H->g x σ H λσ2 H2=>tb { D with nx:=Pv (i+1),ct:=Pv (i+1),bk:=D.nx } σ2 H2)(hd:∀ σ H,Pv xs.length σ H->D.nx σ H):
 ∃ W:Nat->Nat->St->Hp->Prop,(∃m,W 0 m σ H)/\∀i m σ H,W i m σ H ->
  ((Itt K a).stop i H/\D.nx σ H)∨((Itt K a).go i H/\∃N:St->Hp->Prop,(∀ σ' H',N σ' H'->∃m',m'<m/\W (i+1) m' σ' H')/\∀x H',(Itt K a).yld i H x H'->g x σ H' λσ2 H2=>tb { D with nx:=N,ct:=N,bk:=D.nx } σ2 H2):=by
 erw[λi m σ H=>m=xs.length-i/\i<=xs.length/\Pv i σ H,%[xs.length,by simp,zW0 _|h0],6];rintro i m σ H ⟨rfl,hi,p⟩;let q:=hl i σ H hi p
 by_cases Pc:i<xs.length
 . refine .inr %[%[xs,xs[i],q|by simp [Pc]],Pv (i+1),λσ' H' p'=>%[xs.length-(i+1),3,1,Pc|p']|λx H' y=>?_];erw[e,y]at y;subst e;exact hs i x σ _ (y xs q) p
 . let e:i=xs.length:=#[0]
   subst e;exact .inl %[%[xs,q|zH0 _]|hd σ H p]
def dQ{lo:Int}{n:Nat}{g:TG}{tb:TS}{D:Ends}{σ:St}{H:Hp}(Pv:Nat->St->Hp->Prop)(h0:Pv 0 σ H)
 (hs:∀i σ H,i<n->Pv i σ H->g (.int (lo+i)) σ H λσ2 H2=>tb { D with nx:=Pv (i+1),ct:=Pv (i+1),bk:=D.nx } σ2 H2)(hd:∀ σ H,Pv n σ H->D.nx σ H):
 ∃ W:Nat->Nat->St->Hp->Prop,(∃m,W 0 m σ H)/\∀i m σ H,W i m σ H ->
  ((Itr lo n).stop i H/\D.nx σ H)∨((Itr lo n).go i H/\∃N:St->Hp->Prop,(∀ σ' H',N σ' H'->∃m',m'<m/\W (i+1) m' σ' H')/\∀x H',(Itr lo n).yld i H x H'->g x σ H' λσ2 H2=>tb { D with nx:=N,ct:=N,bk:=D.nx } σ2 H2):=by
 erw[λi m σ H=>m=n-i/\i<=n/\Pv i σ H,%[n,by simp,zW0 _|h0],6];rintro i m σ H ⟨rfl,hi,p⟩
 by_cases Pc:i<n
 . refine .inr %[Pc,Pv (i+1),λσ' H' p'=>%[n-(i+1),3,1,Pc|p']|λx H' y=>?_];erw[e,y]at y;subst e y;exact hs i σ _ Pc p
 . let e:i=n:=#[0]
   subst e;exact .inl %[zH0 _|hd σ H p]
abbrev R2:=V->V->Hp->VK->Prop
def OpR(X:Cx)(f:Value->Value->Sem Value)(r:R2):Prop:=
 ∀(O7:#[7])(s:Shared)(σ:St)(H:Hp)(x y:V)(v u:Value)(Q:VK),#[8] H s->RelV x v->RelV y u->r x y H Q ->
  ‹X.w› (f v u) (EP X O7 σ Q) X.xe s
def UnR(X:Cx)(f:Value->Sem Value)(r:V->Hp->VK->Prop):Prop:=
 ∀(O7:#[7])(s:Shared)(σ:St)(H:Hp)(x:V)(v:Value)(Q:VK),#[8] H s->RelV x v->r x H Q ->
  ‹X.w› (f v) (EP X O7 σ Q) X.xe s
def fL(X:Cx)(f:Value)(r:List V->Hp->VK->Prop):Prop:=
 ∀(O7:#[7])(s:Shared)(σ:St)(H:Hp)(xs:List V)(us:List Value)(Q:VK),#[8] H s->Vals xs us->r xs H Q ->
  ‹X.w› (call f us) (EP X O7 σ Q) X.xe s
def tOp(r:R2)(ta tb:TE):TE:=λσ H Q=>ta σ H λx H1=>tb σ H1 λy H2=>r x y H2 Q
def tUn(r:V->Hp->VK->Prop)(ta:TE):TE:=λσ H Q=>ta σ H λx H1=>r x H1 Q
instance rI(C:Int->Int->Prop)(g:Int->Int->V)(x:V)(y:V)(H:Hp)(Q:VK):∀i j,x=.int i->y=.int j->C i j->Q (g i j) H:=0
instance rI0(g:Int->Int->V)(x:V)(y:V)(H:Hp)(Q:VK):∀i j,x=.int i->y=.int j->Q (g i j) H:=0
instance rU(g:Int->V)(x:V)(H:Hp)(Q:VK):∀i,x=.int i->Q (g i) H:=0
section
variable {X:Cx}{a b c:Expr}{ta tb tc:TE}{pos:Pos}
def Lr(ha:PE X a ta)(hb:PE X b tb){σ:St}{R:V->V->Hp->Prop}(I:#[8] H s)
 (h:ta σ H λx H1=>tb σ H1 λy H2=>R x y H2){Q:#[6]}{f:Value->Value->Sem Value}
 (hf:∀v u s2 x y H2,#[8] H2 s2->RelV x v->RelV y u->R x y H2->‹X.w› (f v u) Q X.xe s2):
 ‹X.w› (eval a X.env) (λv s₁=>‹X.w› (eval b X.env) (λu s₂=>‹X.w› (f v u) Q X.xe s₂) X.xe s₁) X.xe s:=by
 apply thn (ha O7 s σ H _ I h) λv s1 ⟨x,H1,I1,r1,q1⟩=>?_
 apply thn (hb O7 s1 σ H1 _ I1 q1) λu s2 ⟨y,H2,I2,r2,q2⟩=>?_
 exact hf v u s2 x y H2 I2 r1 r2 q2
def au{op:Operator}(ho:OpR X (binaryOp op) r)(ha:PE X a ta)(hb:PE X b tb):PE X (.BinOp a op b pos) (tOp r ta tb):=by
 exists 4,Q,I,h;exact wpAny_BinOp (Lr ha hb I h λv u s2 x y H2 I2 rx ry q=>ho O7 s2 σ H2 x y v u Q I2 rx ry q)
def uP{op:UnaryOp}(ho:UnR X (unaryOp op) r)(ha:PE X a ta):PE X (.UnaryOp op a pos) (tUn r ta):=by
 exists 4,Q,I,h;exact UnaryOp_ (thn (ha O7 s σ H _ I h) λv s1 ⟨x,H1,I1,r1,q1⟩=>ho O7 s1 σ H1 x v Q I1 r1 q1)
def opI{f:Value->Value->Sem Value}{C:Int->Int->Prop}{g:Int->Int->Int}
 (rule:∀(i j:Int)(t u:Tok)(s:Shared)(Q:#[6])(E:#[6]),C i j->Q (.int (g i j) s.toks) { s with toks:=s.toks+1 }->‹X.w› (f (.int i t) (.int j u)) Q E s):
 OpR X f (rI C λi j=>.int (g i j)):=by
 exists 4,x,y,v,u,Q,I,rx,ry,h;erw[i,j,1,1,hc,q]at h;erw[t,1]at rx;erw[t',1]at ry;exact rule i j t t' s _ _ hc %[.int (g i j),H,I.tok _,%[|0]|q]
def Kx{f:Value->Value->Sem Value}{g:Int->Int->Int}
 (rule:∀(i j:Int)(t u:Tok)(s:Shared)(Q:#[6])(E:#[6]),Q (.int (g i j) s.toks) { s with toks:=s.toks+1 }->‹X.w› (f (.int i t) (.int j u)) Q E s):
 OpR X f (rI0 λi j=>.int (g i j)):=by
 exists 4,x,y,v,u,Q,I,rx,ry,h;erw[i,j,1,1,q]at h;erw[t,1]at rx;erw[t',1]at ry;exact rule i j t t' s _ _ %[.int (g i j),H,I.tok _,%[|0]|q]
def Iw{f:Value->Value->Sem Value}{g:Int->Int->Bool}
 (rule:∀(i j:Int)(t u:Tok)(s:Shared)(Q:#[6])(E:#[6]),Q (.bool (g i j)) s->‹X.w› (f (.int i t) (.int j u)) Q E s):
 OpR X f (rI0 λi j=>.bl (g i j)):=by
 exists 4,x,y,v,u,Q,I,rx,ry,h;erw[i,j,1,1,q]at h;erw[t,1]at rx;erw[t',1]at ry;exact rule i j t t' s _ _ %[.bl (g i j),H,I,1|q]
def CDiv(i j:Int):Prop:=0<j/\j<1073741824
def CPow(i j:Int):Prop:=0<=j/\j<=1000000/\i.natAbs<2 ^ 64
def CMul(i j:Int):Prop:=(-(2 ^ 64)<i/\i<2 ^ 64)∨(-(2 ^ 64)<j/\j<2 ^ 64)
def CMul.ok(h:CMul i j):IntMulOk i j:=by
 rcases h with⟨h1,h2⟩ | ⟨h1,h2⟩
 . exact .of_left (intBits_le_64 h1 h2)
 . exact .of_right (intBits_le_64 h1 h2)
def yT(k:Nat):(0:Int)<=2 ^ k:=by
 rw[two_pow_cast];exact wA1 _
def aV:OpR X (binaryOp .Add) (rI0 λi j=>.int (i+j)):=Kx λ_ _ _ _ _ _ _ q=>add_int q
def bp:OpR X (binaryOp .Sub) (rI0 λi j=>.int (i-j)):=Kx λ_ _ _ _ _ _ _ q=>sub_int q
def cq:OpR X (binaryOp .Mult) (rI CMul λi j=>.int (i*j)):=opI λ_ _ _ _ _ _ _ hc q=>mul_int q hc.ok
def AX:OpR X (binaryOp .FloorDiv) (rI CDiv λi j=>.int (i / j)):=opI λi j _ _ _ _ _ hc q=>by
 let h1:(0:Int)<j:=hc.1;let h2:j<1073741824:=hc.2;exact floordiv_int #[0] (by rw[jT1 i #[0]];exact q) (.inl (PyProof.noPylong_small #[0]))
def ba:OpR X (binaryOp .Mod) (rI (λ_ j=>0<j) λi j=>.int (i % j)):=opI λi j _ _ _ _ _ hc q=>by
 let h1:(0:Int)<j:=hc;exact mod_int' #[0] (by rw[Int.fmod_eq_emod_of_nonneg i #[0]];exact q)
def Fa:OpR X (binaryOp .Pow) (rI CPow λi j=>.int (i ^ j.toNat)):=opI λ_ _ _ _ _ _ _ hc q=>pow_int_small hc.1 hc.2.1 hc.2.2 q
def Ku:OpR X (binaryOp .LShift) (rI CPow λi j=>.int (i*2 ^ j.toNat)):=opI λ_ _ _ _ _ _ _ hc q=>lshift_int_small hc.1 hc.2.1 hc.2.2 q
def Kt:OpR X (binaryOp .RShift) (rI (λ_ j=>0<=j) λi j=>.int (i / 2 ^ j.toNat)):=opI λi j _ _ _ _ _ hc q=>
 rshift_int hc (by rw[jT1 i (yT _)];exact q)
def Kw:OpR X (binaryOp .BitAnd) (rI0 λi j=>.int (Builtin.bitAnd i j)):=Kx λ_ _ _ _ _ _ _ q=>and_int q
def unI{f:Value->Sem Value}{g:Int->Int}
 (rule:∀(i:Int)(t:Tok)(s:Shared)(Q:#[6])(E:#[6]),Q (.int (g i) s.toks) { s with toks:=s.toks+1 }->‹X.w› (f (.int i t)) Q E s):
 UnR X f (rU λi=>.int (g i)):=by
 exists 4,x,v,Q,I,rx,h;erw[i,1,q]at h;erw[t,1]at rx;exact rule i t s _ _ %[.int (g i),H,I.tok _,%[|0]|q]
def pA:UnR X (unaryOp .USub) (rU λi=>.int (-i)):=unI λ_ _ _ _ _ q=>neg_int q
end
def scal:V->V->Bool
 |.non,.non=>true | .non,.int _=>true | .int _,.non=>true | .non,.bl _=>true | .bl _,.non=>true | .non,.str _=>true | .str _,.non=>true
 |.int _,.int _=>true | .bl _,.bl _=>true | .str _,.str _=>true | .byt _,.byt _=>true
 |.int _,.str _=>true | .str _,.int _=>true | .bl _,.str _=>true | .str _,.bl _=>true
 |_,_=>false
instance rEq(x:V)(y:V)(H:Hp)(Q:VK):scal x y=true->Q (.bl (decide (x=y))) H:=0
instance rNe(x:V)(y:V)(H:Hp)(Q:VK):scal x y=true->Q (.bl (!decide (x=y))) H:=0
def BA{i j:Int}:decide (V.int i=V.int j)=(i==j):=by
 rw[wB0]
 simp
def GY{i j:Bool}:decide (V.bl i=V.bl j)=(i==j):=by
 rw[wB0]
 simp
def Bz{i j:Str}:decide (V.str i=V.str j)=(i==j):=by
 rw[wB0]
 simp
def BB{i j:Array UInt8}:decide (V.byt i=V.byt j)=(i.toList==j.toList):=by
 rw[wB0];cases i;cases j
 simp
section
variable {X:Cx}{a b c:Expr}{ta tb tc:TE}{pos:Pos}
def bw{σ:St}{Q:VK}{k k':Bool}(I:#[8] H s)(q:Q (.bl k) H)(e:k=k'):EP X O7 σ Q (.bool k') s:=by
 subst e;erw[.bl k,H,I,1,q]
def aQ:OpR X (compareOp .Eq) rEq:=by
 exists 4,x,y,v,u,Q,I,rx,ry,h;erw[hs,q]at h;cases x with
 |non=>
   cases rx;cases y with
   |non=>cases ry;exact PySem.EqNone.eq_none_none (bw I q #[2])
   |bl j=>cases ry;exact PySem.EqNone.eq_none_bool (bw I q #[2])
   |int j=>erw[t',1]at ry;exact PySem.EqNone.eq_none_int (bw I q #[2])
   |str j=>erw[t',1]at ry;exact PySem.EqNone.eq_none_str (bw I q #[2])
   |_=>exact absurd (show false=true from hs) qH0
 |bl i=>
   cases rx;cases y with
   |non=>cases ry;exact PySem.EqNone.eq_bool_none (bw I q #[2])
   |bl j=>cases ry;exact eq_bool (bw I q GY)
   |str j=>erw[t',1]at ry;exact PySem.EqMixed.eq_bool_str (bw I q #[2])
   |_=>exact absurd (show false=true from hs) qH0
 |int i=>
   erw[t,1]at rx;cases y with
   |non=>cases ry;exact PySem.EqNone.eq_int_none (bw I q #[2])
   |int j=>erw[t',1]at ry;exact eq_int (bw I q BA)
   |str j=>erw[t',1]at ry;exact PySem.EqMixed.eq_int_str (bw I q #[2])
   |_=>exact absurd (show false=true from hs) qH0
 |str i=>
   erw[t,1]at rx;cases y with
   |non=>cases ry;exact PySem.EqNone.eq_str_none (bw I q #[2])
   |bl j=>cases ry;exact PySem.EqMixed.eq_str_bool (bw I q #[2])
   |int j=>erw[t',1]at ry;exact PySem.EqMixed.eq_str_int (bw I q #[2])
   |str j=>erw[t',1]at ry;exact eq_str (bw I q Bz)
   |_=>exact absurd (show false=true from hs) qH0
 |byt i=>
   erw[t,1]at rx;cases y with
   |byt j=>erw[t',1]at ry;exact PySem.W.eq_bytes (bw I q BB)
   |_=>exact absurd (show false=true from hs) qH0
 |_=>cases y <;> exact absurd (show false=true from hs) qH0
def lq:OpR X (compareOp .NotEq) rNe:=by
 exists 4,x,y,v,u,Q,I,rx,ry,h;erw[hs,q]at h;cases x with
 |non=>
   cases rx;cases y with
   |non=>cases ry;exact PySem.EqNone.ne_none_none (bw I q #[2])
   |bl j=>cases ry;exact PySem.EqNone.ne_none_bool (bw I q #[2])
   |int j=>erw[t',1]at ry;exact PySem.EqNone.ne_none_int (bw I q #[2])
   |str j=>erw[t',1]at ry;exact PySem.EqNone.ne_none_str (bw I q #[2])
   |_=>exact absurd (show false=true from hs) qH0
 |bl i=>
   cases rx;cases y with
   |non=>cases ry;exact PySem.EqNone.ne_bool_none (bw I q #[2])
   |bl j=>cases ry;exact ne_bool (bw I q (congrArg not GY))
   |str j=>erw[t',1]at ry;exact PySem.EqMixed.ne_bool_str (bw I q #[2])
   |_=>exact absurd (show false=true from hs) qH0
 |int i=>
   erw[t,1]at rx;cases y with
   |non=>cases ry;exact PySem.EqNone.ne_int_none (bw I q #[2])
   |int j=>erw[t',1]at ry;exact ne_int (bw I q (congrArg not BA))
   |str j=>erw[t',1]at ry;exact PySem.EqMixed.ne_int_str (bw I q #[2])
   |_=>exact absurd (show false=true from hs) qH0
 |str i=>
   erw[t,1]at rx;cases y with
   |non=>cases ry;exact PySem.EqNone.ne_str_none (bw I q #[2])
   |bl j=>cases ry;exact PySem.EqMixed.ne_str_bool (bw I q #[2])
   |int j=>erw[t',1]at ry;exact PySem.EqMixed.ne_str_int (bw I q #[2])
   |str j=>erw[t',1]at ry;exact ne_str (bw I q (congrArg not Bz))
   |_=>exact absurd (show false=true from hs) qH0
 |byt i=>
   erw[t,1]at rx;cases y with
   |byt j=>erw[t',1]at ry;exact PySem.W.ne_bytes (bw I q (congrArg not BB))
   |_=>exact absurd (show false=true from hs) qH0
 |_=>cases y <;> exact absurd (show false=true from hs) qH0
def gq:OpR X (compareOp .Lt) (rI0 λi j=>.bl (decide (i<j))):=Iw λ_ _ _ _ _ _ _ q=>lt_int q
def uR:OpR X (compareOp .LtE) (rI0 λi j=>.bl (decide (i<=j))):=Iw λ_ _ _ _ _ _ _ q=>le_int q
def iS:OpR X (compareOp .Gt) (rI0 λi j=>.bl (decide (j<i))):=Iw λ_ _ _ _ _ _ _ q=>gt_int q
def JA:OpR X (compareOp .GtE) (rI0 λi j=>.bl (decide (j<=i))):=Iw λ_ _ _ _ _ _ _ q=>ge_int q
def uS:OpR X (compareOp .In) (λx y H Q=>∃i j,x=.str i/\y=.str j/\Q (.bl (!(Builtin.Str.occurrences j i 0 j.length 1).isEmpty)) H):=by
 exists 4,x,y,v,u,Q,I,rx,ry,h;erw[i,j,1,1,q]at h;erw[t,1]at rx;erw[t',1]at ry;exact in_str (bw I q rfl)
def zK:OpR X (compareOp .Is) (λx y H Q=>y=.non/\Q (.bl (decide (x=.non))) H):=by
 exists 4,x,y,v,u,Q,I,rx,ry,h;erw[1,q]at h;cases ry;apply is_none_gen (bw I q ?_);cases x <;> first
  | (cases rx;rfl)
  | (erw[t,1]at rx;rfl)
def Ir:OpR X (compareOp .IsNot) (λx y H Q=>y=.non/\Q (.bl (!decide (x=.non))) H):=by
 exists 4,x,y,v,u,Q,I,rx,ry,h;erw[1,q]at h;cases ry;apply isnot_none_gen (bw I q ?_);cases x <;> first
  | (cases rx;rfl)
  | (erw[t,1]at rx;rfl)
def OpR.or(h:OpR X f r)(h':OpR X f r'):OpR X f (λx y H Q=>r x y H Q∨r' x y H Q):=by
 exists 4,x,y,v,u,Q,I,rx,ry,q;rcases q with q | q
 . exact h O7 s σ H x y v u Q I rx ry q
 . exact h' O7 s σ H x y v u Q I rx ry q
def ay(b:Expr){op:CmpOp}(h:op≠.In:=by decide)(h2:op≠.NotIn:=by decide):behindInMarks op b=false:=by
 let e1:(op==CmpOp.In)=false:=by cases op <;> first | rfl | exact absurd rfl h
 let e2:(op==CmpOp.NotIn)=false:=by cases op <;> first | rfl | exact absurd rfl h2
 cases b <;> simp [behindInMarks,e1,e2]
def dw{op:CmpOp}(ho:OpR X (compareOp op) r)(ha:PE X a ta)(hb:PE X b tb)(hm:behindInMarks op b=false):PE X (.Compare a [op] [b] pos) (tOp r ta tb):=by
 exists 4,Q,I,h;exact wpAny_Compare1 (Lr ha hb I h λv u s2 x y H2 I2 rx ry q=>ho O7 s2 σ H2 x y v u Q I2 rx ry q) hm
instance ZtTest(Q:(Bool->Hp->Prop))(x:V)(H':Hp):∀k,x=.bl k->Q k H':=0
def Jr(t:TE):TT:=λσ H Q=>t σ H λx H'=>ZtTest Q x H'
def ai{op:CmpOp}(ho:OpR X (compareOp op) r)(ha:PE X a ta)(hb:PE X b tb)(hm:behindInMarks op b=false):PT X (.Compare a [op] [b] pos) (Jr (tOp r ta tb)):=by
 exists 4,Q,I,h;apply wpAny_isTrue_Compare1 (thn (ha O7 s σ H _ I h) λv s1 ⟨x,H1,I1,r1,q1⟩=>thn (hb O7 s1 σ H1 _ I1 q1) λu s2 ⟨y,H2,I2,r2,q2⟩=>
  thn (ho O7 s2 σ H2 x y v u _ I2 r1 r2 q2) λc s3 ⟨z,H3,I3,r3,k,e,q3⟩=>?_) hm
 subst e;cases r3;exact qD1 %[H3,I3|q3]
instance ZtChain(r':R2)(tc:TE)(σ:St)(Q:VK)(y:V)(z:V)(H3:Hp):∀k,z=.bl k->(if k=true then tc σ H3 λw' H4=>r' y w' H4 Q else Q (.bl false) H3):=0
def Eb(r r':R2)(ta tb tc:TE):TE:=λσ H Q=>ta σ H λx H1=>tb σ H1 λy H2=>r x y H2 λz H3=>ZtChain r' tc σ Q y z H3
def EW{op op':CmpOp}(ho:OpR X (compareOp op) r)(ho':OpR X (compareOp op') r')(ha:PE X a ta)(hb:PE X b tb)(hc:PE X c tc)
 (hm:lastMarks [op,op'] [b,c]=false:=by rfl'):PE X (.Compare a [op,op'] [b,c] pos) (Eb r r' ta tb tc):=by
 exists 4,Q,I,h;apply Compare_chain (thn (ha O7 s σ H _ I h) λv s1 ⟨x,H1,I1,r1,q1⟩=>chain_link (thn (hb O7 s1 σ H1 _ I1 q1) λu s2 ⟨y,H2,I2,r2,q2⟩=>
  thn (ho O7 s2 σ H2 x y v u _ I2 r1 r2 q2) λd s3 ⟨z,H3,I3,r3,k,e,q3⟩=>?_)) hm
 subst e;cases r3;apply qD1 ?_;cases k with
 |false=>exact ite_ff %[.bl false,H3,I3,1|q3]
 |true=>exact ite_tt (chain_last (thn (hc O7 s3 σ H3 _ I3 q3) λw' s4 ⟨z',H4,I4,r4,q4⟩=>ho' O7 s4 σ H4 y z' u w' Q I4 r2 r4 q4))
def xG{op op':CmpOp}(ho:OpR X (compareOp op) r)(ho':OpR X (compareOp op') r')(ha:PE X a ta)(hb:PE X b tb)(hc:PE X c tc)
 (hm:lastMarks [op,op'] [b,c]=false:=by rfl'):PT X (.Compare a [op,op'] [b,c] pos) (Jr (Eb r r' ta tb tc)):=by
 exists 4,Q,I,h;apply isTrue_chain (thn (ha O7 s σ H _ I h) λv s1 ⟨x,H1,I1,r1,q1⟩=>test_link (thn (hb O7 s1 σ H1 _ I1 q1) λu s2 ⟨y,H2,I2,r2,q2⟩=>
  thn (ho O7 s2 σ H2 x y v u _ I2 r1 r2 q2) λd s3 ⟨z,H3,I3,r3,k,e,q3⟩=>?_)) hm
 subst e;cases r3;apply qD1 ?_;cases k with
 |false=>
   erw[k',e',q']at q3;cases e';exact ite_ff %[H3,I3|q']
 |true=>
   apply ite_tt (test_last (thn (hc O7 s3 σ H3 _ I3 q3) λw' s4 ⟨z',H4,I4,r4,q4⟩=>thn (ho' O7 s4 σ H4 y z' u w' _ I4 r2 r4 q4) λd' s5 ⟨z2,H5,I5,r5,k2,e2,q5⟩=>?_));subst e2;cases r5;exact qD1 %[H5,I5|q5]
def kh:(sizeLine:Nat)<2 ^ 63:=by rw[sizeLine_eq];decide
def sR:OpR X (binaryOp .Add) (λx y H Q=>∃i j,x=.str i/\y=.str j/\i.length+j.length<=sizeLine/\Q (.str (i++j)) H):=by
 exists 4,x,y,v,u,Q,I,rx,ry,h;erw[i,j,1,1,hz,q]at h;erw[t,1]at rx;erw[t',1]at ry;exact add_str (λt' tk=>%[.str (i++j),H,I.tok _,%[|0]|q]) hz
def kz{x:V}(r:Vals [x] us):∃u,us=[u]/\RelV x u:=by
 cases r with
 |cons r1 r2=>cases r2;erw[0,r1]
def DP{x y:V}(r:Vals [x,y] us):∃u w',us=[u,w']/\RelV x u/\RelV y w':=by
 cases r with
 |cons r1 r2=>
   cases r2 with
   |cons r3 r4=>cases r4;erw[_,0,r1,r3]
def qh(hc:X.calm=true):fL X (.builtin "max") (λxs H Q=>∃i j,xs=[.int i,.int j]/\Q (.int (if j>i then j else i)) H):=by
 exists 4,xs,us,Q,I,r,h;erw[i,j,1,q]at h;let%[u,w',1,%[t|1]|%[t'|1]]:=DP r;apply max_two_ints (I.ok.hd hc) λh' tk k=>%[_,H,I.kept k,6|q]
 by_cases hj:j>i
 . rw[O9 hj,O9 hj];erw[0]
 . rw[O8 hj,O8 hj];erw[0]
def DF(hc:X.calm=true):fL X (.builtin "min") (λxs H Q=>∃i j,xs=[.int i,.int j]/\Q (.int (if j<i then j else i)) H):=by
 exists 4,xs,us,Q,I,r,h;erw[i,j,1,q]at h;let%[u,w',1,%[t|1]|%[t'|1]]:=DP r;apply min_two_ints (I.ok.hd hc) λh' tk k=>%[_,H,I.kept k,6|q]
 by_cases hj:j<i
 . rw[O9 hj,O9 hj];erw[0]
 . rw[O8 hj,O8 hj];erw[0]
def DH:fL X (.type "int") (λxs H Q=>(∃i,xs=[.int i]/\Q (.int i) H)∨∃k,xs=[.bl k]/\Q (.int (if k then 1 else 0)) H):=by
 exists 4,xs,us,Q,I,r,h;rcases h with⟨i,rfl,q⟩ | ⟨k,rfl,q⟩
 . let%[u,1,t|1]:=kz r;exact call_int_int %[.int i,H,I,%[|0]|q]
 . let%[u,1|r1]:=kz r;cases r1;exact call_int_bool %[.int (if k then 1 else 0),H,I.tok _,%[|0]|q]
def ku:fL X (.type "str") (λxs H Q=>∃i,xs=[.int i]/\i.natAbs.log2<1920/\Q (.str (toString i)) H):=by
 exists 4,xs,us,Q,I,r,h;erw[i,1,hz,q]at h;let%[u,1,t|1]:=kz r;exact PySem.P.str_of_int hz %[.str _,H,I.tok _,%[|0]|q]
end
structure ObjM(h:Heap)(x dx C:Addr)(mA:#[9]):Prop where
 obj:h.get? x=some (PySem.W.instObj C dx)
 ns:h.Ns1 dx mA
 ne:dx≠x
def CV{h:Heap}{dx:Addr}{mA:#[9]}(n:h.Ns1 dx mA):∃od,h.get? dx=some od/\∀name,PySem.W.lookIn name od=some (mA name):=by
 erw[o,es,ep,ho,hd,hk,_,hm]at n;erw[o,ho,λname=>?_];let e:=hm name;unfold nsFind findBy at e;rw[←Array.find?_toList]at e;unfold PySem.W.lookIn;rw[hd]
 dsimp only
 split
 . rename_i y q;rw[q]at e;exact congrArg some e
 . rename_i q;rw[q]at e;let a:es.toList.any (·.refKey)=false:=by
    rw[List.any_eq_false];intro y hy;let%[z,t|hkey]:=hk y (Array.mem_toList_iff.mp hy)
    simp [DictEntry.refKey,hkey]
   let a':¬ es.toList.any (·.refKey)=true:=by rw[a];exact qH0
   rw[O8 a'];exact congrArg some e
def ObjM.look(I:ObjM h x dx C mA):∃od,PySem.W.InstAt h x (PySem.W.instObj C dx) C (some od)/\∀name,PySem.W.lookIn name od=some (mA name):=
 let⟨od,ho,hl⟩:=CV I.ns
 %[od,%[I.obj,1,1|ho]|hl]
section
variable {prog:Program}{w:World}{A:Around}{E:#[6]}{s:Shared}{K:W.Frag}{x dx C f:Addr}{mA:#[9]}{name:Str}{v:Value}
def IY{expr:Bool}{Q:#[6]}(X:K.In s.heap)(I:ObjM s.heap x dx C mA)(hg:PySem.W.plainGet K C name=true)(hh:PySem.W.hasDictIn K C=true)
 (ha:PySem.W.findIn K (.ref C) name=some none)(hv:mA name=some v)(hv':PySem.W.handedIn v=true)(h:Q v { s with toks:=s.toks+1 }):
 ‹w.A› (getAttr (.ref x) name expr) Q E s:=by
 erw[od,J,hl]at I.look;exact PySem.W.get_value X J (wQ0 hg).1 (PySem.W.findObj_own hh ha rfl (by rw[hl,hv])) hv' h
def Gq{pl:Sem Bool}{Q:Value×List Value->Shared->Prop}(X:K.In s.heap)(I:ObjM s.heap x dx C mA)(hg:PySem.W.plainGet K C name=true)
 (hf:PySem.W.findIn K (.ref C) name=some (some (.ref f)))(ht:PySem.W.isFn K (.ref f)=true)(hv:mA name=none)(h:Q (.ref f,[.ref x]) s):
 ‹w.A› (getMethod (.ref x) name pl) Q E s:=by
 erw[od,J,hl]at I.look;exact PySem.W.method_fn X J (wQ0 hg).1 (wQ0 hg).2 hf (beq_iff_eq.mp ht) (by show(PySem.W.lookIn name od).map (·.isSome)=some false;rw[hl,hv];rfl) h
def Id{ns:List Str}{Q:Unit->Shared->Prop}(X:K.In s.heap)(I:ObjM s.heap x dx C mA)
 (hs:PySem.W.findIn K (.ref C) "__setattr__"=some (some (.builtin "object.__setattr__")))(hp:PySem.W.plainOver K C=true)(ht:PySem.W.takerIn K C name=some none)(hh:PySem.W.hasDictIn K C=true)
 (hw:PySem.Within mA ns)(hsz:ns.length<=sizeLine)
 (h:∀h',ObjM h' x dx C (λy=>if y=name then some v else mA y)->Heap.SameBut dx s.heap h'->Q () { s with heap:=h',toks:=s.toks+2 }):
 ‹w.A› (setAttr (.ref x) name v) Q E s:=by
 erw[od,J,hl]at I.look;apply PySem.W.set_plain X J hs (PySem.W.osa_open (s:={ s with toks:=s.toks+1 }) (r:=none) X J hp ht λb=>?_);let%[cd,hc|hd']:=PySem.W.any_some hh;let hx:s.heap.get? x=some %[.ref C,some dx,.plain|#[]]:=I.obj;apply zD0 (zI0 (zD0 (zD0 (wpAny_loadPart hx (zD0 (PySem.W.Looks.here (s:={ s with toks:=s.toks+1 }) (PySem.W.looks_clsIn X hc) ?_))))));rw[hd'];apply zI0 (a:=some dx) (zD0 (zI0 (zD0 ?_)));apply wpAny_nsSet1 (s:={ s with toks:=s.toks+1 }) I.ns λh' hn2 hs2=>?_
 let%[oD,esD,epD,hoD,hdD|hcD]:=hn2.count (PySem.Within.cons name v hw);apply zD0 (wpAny_lookBehind hoD (by rw[hdD];exact pastItsLine_dict (zP0 hcD (by rw[zR0];omega))) ?_);exact zI0 (h _ %[(hs2.2 _ (Ne.symm I.ne)).trans I.obj,hn2|I.ne] hs2)
def FL{R:Result->Shared->Prop}{vs:List Value}{kw:List (Str×Value)}(X:K.In s.heap)(hm:PySem.W.makesIn K C=true)
 (hi:PySem.W.findIn K (.ref C) "__init__"=some (some (.ref f)))(hf:PySem.W.typeIn K (.ref f)=some (.type "function"))
 (h:codeAny (model prog w) (A.under (.builtin "type.__call__" %[.ref C::vs|kw])) (.call (.ref f) ⟨.ref (‹s›+1)::vs,kw⟩) (PySem.W.InitBack (‹s›+1) R)
  { s with heap:=(s.heap.push PySem.W.emptyDict).push (PySem.W.instObj C ‹s›) }) :
 codeAny (model prog w) A (.call (.ref C) %[vs|kw]) R s:=by
 erw[hh,g,d,t,os]at s;exact PySem.W.make_core (PySem.W.makes_of X hm) (PySem.W.looks_findIn X hi) (λself=>PySem.W.bind_fn X self hf) (.inl rfl) h
end
def bJ(f:Str)(v:V):List (Str×V)->List (Str×V)
 | []=>[(f,v)]
 | (g,x)::r=>if g=f then(g,v)::r else(g,x)::bJ f v r
def aq(f g:Str)(v:V):∀fs:List (Str×V),(bJ f v fs).lookup g=if g=f then some v else fs.lookup g
 | []=>by
   show List.lookup g [(f,v)]=_
   by_cases h:g=f
   . let hb:(g==f)=true:=beq_iff_eq.mpr h;simp only[List.lookup,hb,O9 h]
   . let hb:(g==f)=false:=beq_eq_false_iff_ne.mpr h;simp only[List.lookup,hb,O8 h]
 | (k,x)::r=>by
   let ih:=aq f g v r;rw[show bJ f v ((k,x)::r)=(if k=f then(k,v)::r else(k,x)::bJ f v r)from rfl]
   by_cases hk:k=f
   . rw [O9 hk]
     by_cases h:g=k
     . let hb:(g==k)=true:=beq_iff_eq.mpr h;simp only[List.lookup,hb,O9 (h.trans hk)]
     . let hb:(g==k)=false:=beq_eq_false_iff_ne.mpr h;simp only[List.lookup,hb,O8 (λe:g=f=>h (e.trans hk.symm))]
   . rw [O8 hk]
     by_cases h:g=k
     . let hb:(g==k)=true:=beq_iff_eq.mpr h;simp only[List.lookup,hb,O8 (λe:g=f=>hk (h.symm.trans e))]
     . let hb:(g==k)=false:=beq_eq_false_iff_ne.mpr h;simp only[List.lookup,hb];exact ih
def qc(f:Str)(v:V):∀fs:List (Str×V),f∈(bJ f v fs).map (·.1)/\∀g,g∈fs.map (·.1)->g∈(bJ f v fs).map (·.1)
 | []=>%[by simp [bJ]|λg h=>by simp at h]
 | (k,x)::r=>by
   let%[i1|i2]:=qc f v r;rw[show bJ f v ((k,x)::r)=(if k=f then(k,v)::r else(k,x)::bJ f v r)from rfl]
   by_cases hk:k=f
   . rw[O9 hk];subst hk;erw[by simp,λg h=>by simpa using h]
   . rw [O8 hk];erw[6,λg h=>?_]
     . rw[zZ0];exact qK0 _ i1
     . rw [zZ0]at h ⊢;rcases zX0 h with e | e
       . exact List.mem_cons.mpr (.inl e)
       . exact qK0 _ (i2 g e)
def qD(f:Str)(v:V):∀fs:List (Str×V),(bJ f v fs).length<=fs.length+1
 | []=>by simp [bJ]
 | (k,x)::r=>by
   let ih:=qD f v r;rw[show bJ f v ((k,x)::r)=(if k=f then(k,v)::r else(k,x)::bJ f v r)from rfl]
   by_cases hk:k=f
   . rw[O9 hk,zR0,zR0];omega
   . rw[O8 hk,zR0,zR0];omega
def RelO.some_of{v:V}(r:RelO (some v) o):∃u,o=some u/\RelV v u:=by
 cases o with
 |none=>exact(show False from r).elim
 |some u=>erw[u,1,r]
def RelO.none_of(r:RelO none o):o=none:=by
 cases o with
 |none=>rfl
 |some u=>exact(show False from r).elim
def Dq(r:RelV v u):PySem.W.handedIn u=true:=by
 cases v with
 |non=>cases(show u=Value.none from r);rfl
 |bl b=>cases(show u=Value.bool b from r);rfl
 |int i=>let%[t|e]:=(show ∃t,u=Value.int i t from r);cases e;rfl
 |str x=>let%[t|e]:=(show ∃t,u=Value.str x t from r);cases e;rfl
 |byt b=>let%[t|e]:=(show ∃t,u=Value.bytes b t from r);cases e;rfl
 |flt b=>let%[t|e]:=(show ∃t,u=Value.float b t from r);cases e;rfl
 |ref a=>cases(show u=Value.ref a from r);rfl
 |ty n=>cases(show u=Value.type n from r);rfl
section
variable {P:Program}{w:World}{H H':Hp}{h h':Heap}{a C dx:Addr}{fs fs':List (Str×V)}
def rm(hok:HOk P w H h)(e:H a=some (.ins C dx fs)):∃mA,ObjM h a dx C mA/\(∀f,RelO (fs.lookup f) (mA f))/\PySem.Within mA (fs.map (·.1))/\fs.length<=1000/\H dx=some (.own a):=by
 let%[d,z,ne,ob,mA,n,r|q]:=(show ObjOk P w H h a (.ins C dx fs)from hok a _ e)
 erw[mA,%[ob,n|ne],r,q,z,d]
end
structure Cls(K:W.Frag)(C:Addr):Prop where
 pg:PySem.W.plainGet K C Str.empty=true
 hd:PySem.W.hasDictIn K C=true
 po:PySem.W.plainOver K C=true
 sa:PySem.W.findIn K (.ref C) "__setattr__"=some (some (.builtin "object.__setattr__"))
def Cls.get{K:W.Frag}(c:Cls K C)(f:Str):PySem.W.plainGet K C f=true:=c.pg
def NoAttr(K:W.Frag)(C:Addr)(f:Str):Prop:=PySem.W.findIn K (.ref C) f=some none
def NoAttr.taker{K:W.Frag}(n:NoAttr K C f):PySem.W.takerIn K C f=some none:=by
 unfold PySem.W.takerIn;rw[show PySem.W.findIn K (.ref C) f=some none from n];rfl
structure Meth(K:W.Frag)(C:Addr)(m:Str)(f:Addr):Prop where
 at_:PySem.W.findIn K (.ref C) m=some (some (.ref f))
 fn:PySem.W.isFn K (.ref f)=true
 kp:PySem.W.keepIn K (.ref f)=true
section
variable {X:Cx}{O7:#[7]}{σ:St}{H:Hp}{s:Shared}{a C dx:Addr}{fs:List (Str×V)}{f:Str}{v:V}{A:Around}{E:#[6]}
def Ao{b:Bool}{Q:#[6]}(I:#[8] H s)(e:H a=some (.ins C dx fs))(c:Cls X.K C)(n:NoAttr X.K C f)(l:fs.lookup f=some v)
 (h:∀u s',#[8] H s'->RelV v u->Q u s'):wpAny (model X.prog X.w) A (getAttr (.ref a) f b) Q E s:=by
 let%[mA,O,r,_,_|_]:=rm I.hok e;let%[u,hu|ru]:=RelO.some_of (v:=v) (o:=mA f) (by rw[←l];exact r f);exact IY I.kIn O (c.get f) c.hd n hu (Dq ru) (h u _ (I.tok _) ru)
def tQ{pl:Sem Bool}{Q:Value×List Value->Shared->Prop}(I:#[8] H s)(e:H a=some (.ins C dx fs))(c:Cls X.K C)(k:Meth X.K C m g)(l:fs.lookup m=none)
 (h:Q (.ref g,[.ref a]) s):wpAny (model X.prog X.w) A (getMethod (.ref a) m pl) Q E s:=by
 let%[mA,O,r,_,_|_]:=rm I.hok e;let hn:mA m=none:=RelO.none_of (by rw[←l];exact r m);exact Gq I.kIn O (c.get m) k.at_ k.fn hn h
def zp{Q:Unit->Shared->Prop}(I:#[8] H s)(e:H a=some (.ins C dx fs))(c:Cls X.K C)(n:NoAttr X.K C f)(hl:fs.length<1000)(ry:RelV y u)
 (h:∀s',#[8] (upd H a (.ins C dx (bJ f y fs))) s'->Q () s'):wpAny (model X.prog X.w) A (setAttr (.ref a) f u) Q E s:=by
 let%[mA,O,r,wi,_|ho]:=rm I.hok e;let hz:(fs.map (·.1)).length<=sizeLine:=by rw[zF0,sizeLine_eq];omega
 apply Id I.kIn O c.sa c.po n.taker c.hd wi hz λh' O' sb=>h _ ?_
 let hd:∃o,h'.get? dx=some o:=let⟨o,_,_,e',_⟩:=O'.ns;%[o|e']
 apply I.write (x:=a) (e:=dx) (by rw[e];exact True.intro) (.inr ho) (λb q hb z=>(sb.2 b hb).trans z) hd ?_;erw[by rw[aD O.ne];exact ho,6,O.ne,O'.obj,_,O'.ns,λg=>?_,λg hg=>?_]
 . have:=qD f y fs;omega
 . show RelO ((bJ f y fs).lookup g) (if g=f then some u else mA g);rw[aq]
   by_cases q:g=f
   . rw[O9 q,O9 q];exact ry
   . rw[O8 q,O8 q];exact r g
 . by_cases q:g=f
   . rw[q];exact(qc f y fs).1
   . refine(qc f y fs).2 g (wi g λz=>hg ?_);show(if g=f then some u else mA g)=none;rw[O8 q];exact z
def Inv.made(I:#[8] H s):#[8] (upd (upd H ‹s› (.own (‹s›+1))) (‹s›+1) (.ins C ‹s› []))
 { s with heap:=(s.heap.push PySem.W.emptyDict).push (PySem.W.instObj C ‹s›) }:=by
 let e1:(s.heap.push PySem.W.emptyDict).get? ‹s›=some PySem.W.emptyDict:=qD0 s.heap rfl;let e2:((s.heap.push PySem.W.emptyDict).push (PySem.W.instObj C ‹s›)).get? (‹s›+1)=some (PySem.W.instObj C ‹s›):=by
  have:=qD0 (s.heap.push PySem.W.emptyDict) (o:=PySem.W.instObj C ‹s›) rfl
  rwa [jF1]at this
 let e3:(s.heap.push PySem.W.emptyDict).Ns ‹s› (λ_=>none):=%[PySem.W.emptyDict,#[],_,e1,1,(λe he=>absurd he #[2])|λ_=>rfl]
 let I1:=I.laid (a:=‹s›) (o:=.own (‹s›+1)) (h':=s.heap.push PySem.W.emptyDict) (t':=s.toks) (λb u q=>zQ0 _ q) (zH0 _) %[_|e1];apply I1.laid (a:=‹s›+1) (o:=.ins C ‹s› []) (t':=s.toks) (λb u q=>zQ0 _ q) (Nat.le_of_eq (jF1 _ _)) ?_;let ne:‹s›≠‹s›+1:=zV0 (qR1 _);erw[by rw[aD ne,ah],zW0 _,ne,e2,λ_=>none,(Heap.Ns1.of_empty e3).at λo q=>zQ0 _ q,λ_=>True.intro,λy hy=>absurd rfl hy]
def Ji{prog:Program}{w:World}{env:Env}{e:Expr}{f:Str}{pos:Pos}{s:Shared}{Q:#[6]}(hb:attributeBase e f env (eval e env)=eval e env)
 (h:‹w.A› (eval e env) (λo s₁=>‹w.A› (getAttr o f true) Q E s₁) E s):‹w.A› (eval (.Attribute e f pos) env) Q E s:=
 Attribute_any_ h (by rw[arm_eval_Attribute,hb])
end
instance ZtFld(K:W.Frag)(f:Str)(Q:VK)(x:V)(H1:Hp):∀a C dx fs v,x=.ref a->H1 a=some (.ins C dx fs)->Cls K C->NoAttr K C f->fs.lookup f=some v->Q v H1:=0
def tFld(K:W.Frag)(ta:TE)(f:Str):TE:=λσ H Q=>ta σ H λx H1=>ZtFld K f Q x H1
instance ZsFld(K:W.Frag)(f:Str)(D:Ends)(σ:St)(y:V)(x:V)(H2:Hp):∀a C dx fs,x=.ref a->H2 a=some (.ins C dx fs)->Cls K C->NoAttr K C f->fs.length<1000->D.nx σ (upd H2 a (.ins C dx (bJ f y fs))):=0
def sFld(K:W.Frag)(ta tv:TE)(f:Str):TS:=λD σ H=>tv σ H λy H1=>ta σ H1 λx H2=>ZsFld K f D σ y x H2
section
variable {X:Cx}{o e value:Expr}{f:Str}{pos pos' tpos:Pos}{ta tv:TE}
def az(he:PE X e ta)(hb:attributeBase e f X.env (eval e X.env)=eval e X.env):PE X (.Attribute e f pos) (tFld X.K ta f):=by
 exists 4,Q,I,h;apply Ji hb (thn (he O7 s σ H _ I h) λu s1 ⟨x,H1,I1,rx,a,C,dx,fs,v,ex,ea,c,n,l,q⟩=>?_);subst ex;obtain rfl:u=Value.ref a:=rx;exact Ao I1 ea c n l λu' s2 I2 ru=>%[v,H1,I2,ru|q]
def aR(ha:PE X o ta)(hv:PE X value tv)(hs:swapsWith value (some (.Attribute o f pos')) pos.line X.env=pure false):PS X (.Assign [.Attribute o f pos'] value pos) (sFld X.K ta tv f):=by
 exists 4,D,I,h;apply plainObj_wpAny_Assign_Attribute (thn (hv O7 s σ H _ I h) λu s1 ⟨y,H1,I1,ry,q⟩=>thn (ha O7 s1 σ H1 _ I1 q) λov s2 ⟨x,H2,I2,rx,a,C,dx,fs,ex,ea,c,n,l,q2⟩=>?_) hs;subst ex;obtain rfl:ov=Value.ref a:=rx;exact zp I2 ea c n l ry λs3 I3=>%[σ,_,I3|q2]
end
section
variable {X:Cx}{O7:#[7]}{σ:St}{H:Hp}{s:Shared}{A:Around}{E:#[6]}{Q:#[6]}{c:Value}{b:Bool}
inductive TyOf(K:W.Frag)(H:Hp):V->Value->Prop where
 |non:TyOf K H .non (.type "NoneType")
 |bl (x:Bool):TyOf K H (.bl x) (.type "bool")
 |int (i:Int):TyOf K H (.int i) (.type "int")
 |str (x:Str):TyOf K H (.str x) (.type "str")
 |flt (x:UInt64):TyOf K H (.flt x) (.type "float")
 |lst {a:Addr} {xs:List V} (e:H a=some (.lst xs)):TyOf K H (.ref a) (.type "list")
 |frz {a:Addr} {o:Obj} {xs:List V} (e:H a=some (.frz o (.lst xs))):TyOf K H (.ref a) (.type "list")
 |tup {a:Addr} {xs:List V} (e:H a=some (.tup xs)):TyOf K H (.ref a) (.type "tuple")
 |dK {a:Addr} {Pb:List (Key×V)} (e:H a=some (.dK Pb)):TyOf K H (.ref a) (.type "dict")
 |dT {a:Addr} {Pb:List (List Key×V)} (e:H a=some (.dT Pb)):TyOf K H (.ref a) (.type "dict")
 | ins {a C dx:Addr} {fs:List (Str×V)} (e:H a=some (.ins C dx fs)) (cl:Cls K C) (ha:PySem.W.findIn K (.ref C) "__class__"=some (some (.builtin "object.__class__")))
  (hn:PySem.W.specialIn K (.builtin "object.__class__") "__get__"=some (some (.builtin "getset_descriptor.__get__"))) (htk:PySem.W.takesIn K (.builtin "object.__class__")=some true)
  (hm:PySem.W.mroIn K C (.type "object")=some true):TyOf K H (.ref a) (.ref C)
def Dk(I:#[8] H s)(rx:RelV x u)(ty:TyOf X.K H x t)(e:PySem.W.kitOne X.K t c=some b)(h:∀tk,Q (.bool b) { s with toks:=tk }):
 wpAny (model X.prog X.w) A (call (.builtin "isinstance") [u,c]) Q E s:=by
 cases ty with
 |non=>cases(show u=Value.none from rx);exact qK1 PySem.W.kitx_none I.kIn True.intro e (λz=>nomatch z) h
 |bl y=>cases(show u=Value.bool y from rx);exact qK1 PySem.W.kitx_bool I.kIn True.intro e (λz=>nomatch z) h
 |int i=>let%[t|q]:=(show ∃t,u=Value.int i t from rx);cases q;exact qK1 PySem.W.kitx_int I.kIn True.intro e (λz=>nomatch z) h
 |str y=>let%[t|q]:=(show ∃t,u=Value.str y t from rx);cases q;exact qK1 PySem.W.kitx_str I.kIn True.intro e (λz=>nomatch z) h
 |flt y=>let%[t|q]:=(show ∃t,u=Value.float y t from rx);cases q;exact qK1 PySem.W.kitx_float I.kIn True.intro e (λz=>nomatch z) h
 | @lst a xs ea=>
   cases(show u=Value.ref a from rx);let%[_,_,n,_|h1]:=(show ObjOk X.prog X.w H s.heap a (.lst xs)from I.hok a _ ea)
   exact qK1 PySem.W.kitx_list I.kIn %[_,h1|1] e (λz=>nomatch z) h
 | @frz a ob xs ea=>
   cases(show u=Value.ref a from rx);let%[_,_,_,n,_|h1]:=(show ObjOk X.prog X.w H s.heap a (.frz ob (.lst xs))from I.hok a _ ea)
   exact qK1 PySem.W.kitx_list I.kIn %[_,h1|1] e (λz=>nomatch z) h
 | @tup a xs ea=>
   cases(show u=Value.ref a from rx);let%[_,_,_,p|_]:=(show ObjOk X.prog X.w H s.heap a (.tup xs)from I.hok a _ ea)
   erw[o,h1,h2,_]at p;exact qK1 PySem.W.kitx_tuple I.kIn %[o,h1|h2] e (λz=>nomatch z) h
 | @dK a Pb ea=>
   cases(show u=Value.ref a from rx);let%[_,_,vs,_|p]:=(show ObjOk X.prog X.w H s.heap a (.dK Pb)from I.hok a _ ea)
   erw[o,es,ep,h1,h2,_]at p;exact qK1 PySem.W.kitx_dict I.kIn %[o,h1|h2.1] e (λz=>nomatch z) h
 | @dT a Pb ea=>
   cases(show u=Value.ref a from rx);let%[_,_,xs,_,o,es,ep,h1,h2|_]:=(show ObjOk X.prog X.w H s.heap a (.dT Pb)from I.hok a _ ea)
   exact qK1 PySem.W.kitx_dict I.kIn %[o,h1|h2.1] e (λz=>nomatch z) h
 | @ins a C dx fs ea cl ha hn htk hm=>
   cases(show u=Value.ref a from rx);let%[mA,O|_]:=rm I.hok ea;erw[od,J,_]at O.look;exact qK1 (PySem.W.kitx_own (cl.get _) cl.hd ha hn htk hm) I.kIn J e (λz=>nomatch z) h
end
structure Room(k:Nat)(A:Around):Prop where
 hd:A.handled=none
 gd:A.guards=some []
 dp:A.depth+3*k+5<recursionLimit
 un:A.units+16*k+200<cLine
def Room.mono{j:Nat}(r:Room k A)(h:j<=k):Room j A:=%[r.hd,r.gd,by have:=r.dp;omega|by have:=r.un;omega]
def Room.deeper{k:Nat}(r:Room (k+1) A)(env:Env):Room k (A.deeper env):=
 %[r.hd,r.gd,by have:=r.dp;show A.depth+1+3*k+5<_;omega|by have:=r.un;show A.units+3+16*k+200<_;omega]
def Af{A:Around}{C:Addr}{us:List Value}{kw:List (Str×Value)}:(A.under (.builtin "type.__call__" %[.ref C::us|kw])).depth=A.depth+1:=by
 first | rfl | simp [Around.under,Code.weight,Code.isCreation,Code.isGuard,Code.isCaller,Code.frames,Code.isFrame,guardIds]
def Ae{A:Around}{C:Addr}{us:List Value}{kw:List (Str×Value)}:(A.under (.builtin "type.__call__" %[.ref C::us|kw])).units=A.units+1:=by
 first | rfl | simp [Around.under,Code.cUnits,Code.frames,Code.isFrame]
def Room.make{k:Nat}(r:Room (k+1) A)(C:Addr)(us:List Value)(kw:List (Str×Value)):Room k (A.under (.builtin "type.__call__" %[.ref C::us|kw])):=
 %[r.hd,by simp [Around.under,Code.guards,Code.isGuard,guardIds,pushGuards,r.gd],by have:=r.dp;rw[Af];omega|by have:=r.un;rw[Ae];omega]
def Room.depth(r:Room k A):A.depth<recursionLimit:=by have:=r.dp;omega
def Room.units(r:Room k A):A.units+64<cLine:=by have:=r.un;omega
def tNil:TA:=λ_ H Q=>Q [] H
def tCons(ta:TE)(tr:TA):TA:=λσ H Q=>ta σ H λx H1=>tr σ H1 λxs H2=>Q (x::xs) H2
section
variable {X:Cx}{e:Expr}{es:List Expr}{te:TE}{t:TA}{pos:Pos}
def ae:PA X [] tNil:=λ_ _ _ _ H Q I h=>jH0 %[[],H,I,.nil|h]
def aa(ha:PE X e te)(hr:PA X es t)(hs:starEach (e::es) X.env=(false,eval e X.env)::starEach es X.env:=by rfl):PA X (e::es) (tCons te t):=by
 intro pos O7 s σ H Q I h;rw[hs];show wpAny _ _ (spliced ((false,eval e X.env)::backTo pos (starEach es X.env))) _ _ s;apply qY0 (thn (ha O7 s σ H _ I h) λu s1 ⟨x,H1,I1,r1,q1⟩=>?_);exact thn (hr pos O7 s1 σ H1 _ I1 q1) λus s2 ⟨xs,H2,I2,r2,q2⟩=>%[x::xs,H2,I2,.cons r1 r2|q2]
instance ZtTup(Q:VK)(xs:(List V))(H1:Hp):xs.length<=sizeLine->(∀p,H1 p=none->Q (.ref p) (upd H1 p (.tup xs))):=0
def tTup(t:TA):TE:=λσ H Q=>t σ H λxs H1=>ZtTup Q xs H1
instance ZtLst(Q:VK)(xs:(List V))(H1:Hp):xs.length<=sizeLine->(∀p,H1 p=none->Q (.ref p) (upd H1 p (.lst xs))):=0
def tLst(t:TA):TE:=λσ H Q=>t σ H λxs H1=>ZtLst Q xs H1
def aS{x1}(h:PA X es t):PE X (.Tuple es x1 pos) (tTup t):=by
 exists 4,Q,I,hq;apply wpAny_Tuple_spliced (thn (h pos O7 s σ H _ I hq) λus s1 ⟨xs,H1,I1,r,z,q⟩=>%[by rw[←r.length];exact z|6]);let hf:H1 ‹s1›=none:=I1.hok.fresh (zH0 _);erw[.ref ‹s1›,upd H1 ‹s1› (.tup xs),I1.laid (t':=s1.toks) (λb u e=>zQ0 _ e) (zH0 _) ?_,1,q _ hf];erw[z,us,r,%[_,qD0 _ rfl,1|0],_,qD0 _ rfl,1]
def bZ(h:PA X es t):PE X (.List es pos) (tLst t):=by
 exists 4,Q,I,hq;apply wpAny_List_spliced (thn (h pos O7 s σ H _ I hq) λus s1 ⟨xs,H1,I1,r,z,q⟩=>%[by rw[←r.length];exact z|6]);let hf:H1 ‹s1›=none:=I1.hok.fresh (zH0 _);erw[.ref ‹s1›,upd H1 ‹s1› (.lst xs),I1.laid (t':=s1.toks) (λb u e=>zQ0 _ e) (zH0 _) ?_,1,q _ hf];erw[z,us,(0),r,qD0 _ rfl]
end
abbrev Sp:=List V->Hp->VK->XK->Prop
abbrev CXT:=List Env->Hp->Shared->XK->#[6]
structure Env0(P:Program)(w:World)(K:W.Frag)(mg:#[9])(base:Heap)(A:Around)(outer:List Env)(s:Shared)(H:Hp):Prop where
 frames:A.frames=some outer
 mod:Mod K mg base
 bs:∀b o,base.get? b=some o->s.heap.get? b=some o/\H b=none
 bsz:base.objs.size<=‹s›
 funs:s.heap.FunFrames base outer
 frf:∀b∈frs outer,H b=none
 hok:HOk P w H s.heap
 bare:AllBare s.gens
def CE(outer:List Env)(P:Program)(w:World)(H:Hp)(s:Shared)(Q:VK)(u:Value)(s':Shared):Prop:=
 ∃v H',s'.os=s.os/\AllBare s'.gens/\Un (frs outer) [] H H' s.heap s'.heap/\HOk P w H' s'.heap/\RelV v u/\Q v H'
def CR(CX:CXT)(outer:List Env)(P:Program)(w:World)(H:Hp)(s:Shared)(Q:VK)(E:XK)(r:Result)(s':Shared):Prop:=
 match r with
 |.ok (.ret u)=>CE outer P w H s Q u s'
 |.ok _=>False
 |.error e=>CX outer H s E e s'
structure FnOk(P:Program)(w:World)(K:W.Frag)(mg:#[9])(base:Heap)(CX:CXT)(k:Nat)(f:Addr)(fd:FuncData)(ps:List Str)(sp:Sp):Prop where
 len:∀vs H Q E,sp vs H Q E->vs.length=ps.length
 run:∀(A:Around)(outer:List Env)(s:Shared)(H:Hp)(args:Args)(us:List Value)(vs:List V)(Q:VK)(E:XK),Room k A->Env0 P w K mg base A outer s H->BindsTo s fd args (ps.zip us)->Vals vs us->sp vs H Q E ->
  codeAny (model P w) A (.call (.ref f) args) (CR CX outer P w H s Q E) s
def Env0.make{K:W.Frag}(e:Env0 P w K mg base A outer s H)(C:Addr)(us:List Value)(kw:List (Str×Value)):
 Env0 P w K mg base (A.under (.builtin "type.__call__" %[.ref C::us|kw])) outer s H:=⟨by first | exact e.frames | (simpa [Around.under,Code.envs,Code.isFrame,pushEnvs]using e.frames),e.mod,e.bs,e.bsz,e.funs,e.frf,e.hok,e.bare⟩
section
variable {X:Cx}{O7:#[7]}{σ:St}{H:Hp}{s s':Shared}
def Inv.env0(I:#[8] H s):Env0 X.prog X.w X.K X.mg X.base X.A X.stack s H:=
 %[I.ok.frames,I.ok.mod,I.bs,zP0 I.ok.bsz I.sz,I.stack,I.stkFree,I.hok|I.bare]
def Inv.after(I:#[8] H s)(h:CE X.stack X.prog X.w H s Q u s'):EP X O7 σ Q u s':=by
 erw[v,H',os,bare,un,hok,r,q]at h;erw[hh,g,d,t,os']at s';obtain rfl:os'=s.os:=os;erw[v,H',I.call (h':=hh) (g':=g) (d':=d) (t':=t) (ch:=[]) un hok bare (λb z=>absurd z #[2]),r,q]
end
def Jt(sp:Sp)(dvs:List V)(E:XK)(t:TA):TE:=λσ H Q=>t σ H λvs H1=>sp (vs++dvs) H1 Q E
instance ZtMeth(C:Addr)(m:Str)(sp:Sp)(dvs:List V)(E:XK)(t:TA)(σ:St)(Q:VK)(x:V)(H1:Hp):∀a dx fs,x=.ref a->H1 a=some (.ins C dx fs)->fs.lookup m=none->(t σ H1 λvs H2=>sp (x::(vs++dvs)) H2 Q E):=0
def Js(C:Addr)(m:Str)(sp:Sp)(dvs:List V)(E:XK)(ta:TE)(t:TA):TE:=λσ H Q=>ta σ H λx H1=>ZtMeth C m sp dvs E t σ Q x H1
def tMake(C:Addr)(sp:Sp)(dvs:List V)(E:XK)(t:TA):TE:=λσ H Q=>t σ H λvs H1=>∀x dx,H1 x=none->H1 dx=none->dx≠x ->
 sp (.ref x::(vs++dvs)) (upd (upd H1 dx (.own x)) x (.ins C dx [])) (λv H2=>v=.non/\Q (.ref x) H2) E
def Binds(K:W.Frag)(fd:FuncData)(ps:List Str)(ds:List Value):Prop:=
 ∀(s:Shared)(us:List Value),K.In s.heap->(us++ds).length=ps.length->BindsTo s fd %[us|[]] (ps.zip (us++ds))
def Binds.all{K:W.Frag}{fd:FuncData}{ps:List Str}(h:∀us:List Value,us.length=ps.length->bindArgs fd %[us|[]]=pure (ps.zip us)):Binds K fd ps []:=λs us _ hl=>by
 rw[qV1]at hl ⊢;exact .of_eq (h us hl)
def nO(CX:CXT)(X:Cx)(E:XK):Prop:=∀(O7:#[7])(σ:St)(H:Hp)(s:Shared)(e:Value)(s':Shared),#[8] H s->CX X.stack H s E e s'->X.xe e s'
section
variable {X:Cx}{CX:CXT}{k:Nat}{f C:Addr}{fd:FuncData}{ps:List Str}{sp:Sp}{dvs:List V}{ds:List Value}{E:XK}{x m:Str}{p pos Pi:Pos}{e o:Expr}{es:List Expr}{ta:TE}{t:TA}
def zD{σ:St}{Q:VK}(F:FnOk X.prog X.w X.K X.mg X.base CX k f fd ps sp)(hr:Room k X.A)(hb:Binds X.K fd ps ds)(hd:Vals dvs ds)(hx:nO CX X E)
 (I:#[8] H s)(r:Vals vs us)(h:sp (vs++dvs) H Q E):‹X.w› (call (.ref f) us) (EP X O7 σ Q) X.xe s:=by
 let r2:Vals (vs++dvs) (us++ds):=r.append hd;let hl:(us++ds).length=ps.length:=by rw[←r2.length];exact F.len _ _ _ _ h
 apply wpAny_call (vI0 (F.run X.A X.stack s H %[us|[]] (us++ds) (vs++dvs) Q E hr I.env0 (hb s us I.kIn hl) r2 h) λr s' hq=>?_);cases r with
 |error e=>exact hx O7 σ H s e s' I hq
 |ok fl=>
   cases fl with
   |ret u=>exact I.after hq
   |next=>exact False.elim hq
   |brk=>exact False.elim hq
   |cont=>exact False.elim hq
def Ip(F:FnOk X.prog X.w X.K X.mg X.base CX k f fd ps sp)(hr:Room k X.A)(hg:Gl X x)(hm:X.mg x=some (.ref f))(hk:PySem.W.keepIn X.K (.ref f)=true)(hb:Binds X.K fd ps ds)(hd:Vals dvs ds)(hx:nO CX X E)
 (ha:PA X (e::es) t)(hdb:(x==("__debug__":Str))=false:=by decide)(he:starEach (e::es) X.env=(false,eval e X.env)::starEach es X.env:=by rfl)(hpl:(backTo pos (starEach es X.env)).any (·.1)=false:=by rfl):
 PE X (.Call (.Name x p) (e::es) [] pos) (Jt sp dvs E t):=by
 exists 4,Q,I,h;apply jC1 (wJ I hg hm ?_ hdb);apply wW0 (h₀:=X.base) I.ok.mod.kin hk (thn (ha pos O7 s σ H _ I h) λus s1 ⟨vs,H1,I1,r,q⟩=>%[I1.kIn|6]) he hpl;exact zD F hr hb hd hx I1 r q
def bK{pl:Sem Bool}(he:PE X o ta)(c:Cls X.K C)(hm:Meth X.K C m f)(F:FnOk X.prog X.w X.K X.mg X.base CX k f fd ps sp)(hr:Room k X.A)(hb:Binds X.K fd ps ds)(hd:Vals dvs ds)(hx:nO CX X E)(ha:PA X (e::es) t)
 (Pd:starEach (e::es) X.env=(false,eval e X.env)::starEach es X.env:=by rfl)(hpl:(backTo pos (starEach es X.env)).any (·.1)=false:=by rfl)
 (ht:eval (.Call (.Attribute o m Pi) (e::es) [] pos) X.env=(do
  let ov ←eval o X.env
  standAt Pi.atName
  let(f,first) ←holding [ov] (getMethod ov m pl)
  callWith pos f first (backTo pos (starEach (e::es) X.env)) (backToKw pos (keywordEach [] X.env))):=by rfl) :
 PE X (.Call (.Attribute o m Pi) (e::es) [] pos) (Js C m sp dvs E ta t):=by
 exists 4,Q,I,h;apply PySem.W.methodCall_KW (pl:=pl) (thn (he O7 s σ H _ I h) λu s1 ⟨x,H1,I1,rx,a,dx,fs,ex,ea,l,q⟩=>?_) ht;subst ex;obtain rfl:u=Value.ref a:=rx;apply tQ I1 ea c hm l ?_;apply wW0 (first:=[.ref a]) (h₀:=X.base) I.ok.mod.kin hm.kp (thn (ha pos O7 s1 σ H1 _ I1 q) λus s2 ⟨vs,H2,I2,r,q2⟩=>%[I2.kIn|6]) Pd hpl;exact zD (us:=.ref a::us) (vs:=.ref a::vs) F hr hb hd hx I2 (.cons rfl r) q2
def bz{pl:Sem Bool}(he:PE X o ta)(c:Cls X.K C)(hm:Meth X.K C m f)(F:FnOk X.prog X.w X.K X.mg X.base CX k f fd ps sp)(hr:Room k X.A)(hb:Binds X.K fd ps ds)(hd:Vals dvs ds)(hx:nO CX X E)
 (ht:eval (.Call (.Attribute o m Pi) [] [] pos) X.env=(do
  let ov ←eval o X.env
  standAt Pi.atName
  let(f,first) ←holding [ov] (getMethod ov m pl)
  callWith pos f first (backTo pos (starEach [] X.env)) (backToKw pos (keywordEach [] X.env))):=by rfl) :
 PE X (.Call (.Attribute o m Pi) [] [] pos) (Js C m sp dvs E ta tNil):=by
 exists 4,Q,I,h;apply PySem.W.methodCall_KW (pl:=pl) (thn (he O7 s σ H _ I h) λu s1 ⟨x,H1,I1,rx,a,dx,fs,ex,ea,l,q⟩=>?_) ht;subst ex;obtain rfl:u=Value.ref a:=rx;apply tQ I1 ea c hm l ?_;exact PySem.W.callWith_K0 (first:=[.ref a]) I1.kIn hm.kp (zD (us:=[.ref a]) (vs:=[.ref a]) F hr hb hd hx I1 (.cons rfl .nil) q)
structure Mk(K:W.Frag)(C f:Addr):Prop where
 makes:PySem.W.makesIn K C=true
 init:PySem.W.findIn K (.ref C) "__init__"=some (some (.ref f))
 fn:PySem.W.isFn K (.ref f)=true
 kp:PySem.W.keepIn K (.ref C)=true
def EE{σ:St}{Q:VK}(M:Mk X.K C f)(F:FnOk X.prog X.w X.K X.mg X.base CX k f fd ps sp)(hr:Room (k+1) X.A)(hb:Binds X.K fd ps ds)(hd:Vals dvs ds)
 (hx:nO CX X E)(I:#[8] H s)(r:Vals vs us)
 (h:∀x dx,H x=none->H dx=none->dx≠x->sp (.ref x::(vs++dvs)) (upd (upd H dx (.own x)) x (.ins C dx [])) (λv H2=>v=.non/\Q (.ref x) H2) E):
 ‹X.w› (call (.ref C) us) (EP X O7 σ Q) X.xe s:=by
 let hq:=h (‹s›+1) ‹s› (I.hok.fresh (qO0 _)) (I.hok.fresh (zH0 _)) (zV0 (qR1 _));let I2:=Inv.made (C:=C) I;let r2:Vals (V.ref (‹s›+1)::(vs++dvs)) (Value.ref (‹s›+1)::(us++ds)):=.cons rfl (r.append hd);let hl:(Value.ref (‹s›+1)::us++ds).length=ps.length:=by
  let e:=r2.length;rw[F.len _ _ _ _ hq]at e;exact e.symm
 apply wpAny_call (FL (f:=f) I.kIn M.makes M.init (beq_iff_eq.mp M.fn) (vI0 (F.run _ X.stack _ _ %[Value.ref (‹s›+1)::us|[]] (Value.ref (‹s›+1)::(us++ds)) _ _ E (hr.make C us [])
  (I2.env0.make C us []) (hb _ (Value.ref (‹s›+1)::us) I2.kIn hl) r2 hq) λr s' hq'=>?_))
 cases r with
 |error e=>exact hx O7 σ _ _ e s' I2 hq'
 |ok fl=>
   cases fl with
   |ret u=>
     let%[v,H',I3,rv,ev|q3]:=I2.after hq';subst ev;erw[rv,%[V.ref (‹s›+1),H',I3,1|q3]]
   |next=>exact False.elim hq'
   |brk=>exact False.elim hq'
   |cont=>exact False.elim hq'
def gJ(M:Mk X.K C f)(F:FnOk X.prog X.w X.K X.mg X.base CX k f fd ps sp)(hr:Room (k+1) X.A)(hg:Gl X x)(hm:X.mg x=some (.ref C))(hb:Binds X.K fd ps ds)(hd:Vals dvs ds)(hx:nO CX X E)
 (ha:PA X (e::es) t)(hdb:(x==("__debug__":Str))=false:=by decide)(he:starEach (e::es) X.env=(false,eval e X.env)::starEach es X.env:=by rfl)(hpl:(backTo pos (starEach es X.env)).any (·.1)=false:=by rfl):
 PE X (.Call (.Name x p) (e::es) [] pos) (tMake C sp dvs E t):=by
 exists 4,Q,I,h;apply jC1 (wJ I hg hm ?_ hdb);apply wW0 (h₀:=X.base) I.ok.mod.kin M.kp (thn (ha pos O7 s σ H _ I h) λus s1 ⟨vs,H1,I1,r,q⟩=>%[I1.kIn|6]) he hpl;exact EE M F hr hb hd hx I1 r q
end
structure FnScope(N P:List Str)(sc:Scope):Prop where
 kind:sc.kind=.function
 co:sc.isCoroutine=false
 gen:sc.isGenerator=false
 nd:N.Nodup
 pre:N.take P.length=P
 par:∀x∈P,sc.names.lookup x=some .local∨sc.names.lookup x=some .cell
 nofree:∀y∈sc.names,y.2≠.free
def vg{kindOf:Str->Option NameKind}{x:Str}:∀{binds:List (Str×Value)}{m:#[9]},(∀v,(x,v)∉binds)->bindL kindOf binds m x=m x
 | [],_,_=>rfl
 | (n,v)::r,m,h=>by
   unfold bindL;rw[vg λw hw=>h w (qK0 _ hw)]
   split
   . have:x≠n:=by rintro rfl;exact h v qA0
     simp [this]
   . rfl
def vi{kindOf:Str->Option NameKind}{x:Str}:∀{binds:List (Str×Value)}{m:#[9]},(∀v,(x,v)∉binds)->bindC kindOf binds m x=m x
 | [],_,_=>rfl
 | (n,v)::r,m,h=>by
   unfold bindC;rw[vi λw hw=>h w (qK0 _ hw)]
   split
   . rfl
   . have:x≠n:=by rintro rfl;exact h v qA0
     simp [this]
def vh{kindOf:Str->Option NameKind}{x:Str}{v:Value}:∀{P:List Str}{vs:List Value}{i:Nat}{m:#[9]},P.Nodup->P[i]?=some x->vs[i]?=some v->kindOf x=some .local ->
 bindL kindOf (P.zip vs) m x=some v
 | [],_,_,_,_,h,_,_=>by simp at h
 |_::_,[],_,_,_,_,h,_=>by simp at h
 |p::P,w::vs,0,m,nd,h1,h2,hk=>by
   simp at h1 h2;subst h1;subst h2
   show bindL kindOf ((p,w)::P.zip vs) m p=_;unfold bindL;rw[vg λv hv=>(List.nodup_cons.mp nd).1 (List.of_mem_zip hv).1,O9 hk]
   simp
 |p::P,w::vs,i+1,m,nd,h1,h2,hk=>by
   show bindL kindOf ((p,w)::P.zip vs) m x=_;unfold bindL;exact vh (i:=i) (List.nodup_cons.mp nd).2 #[h1,0] #[h2,0] hk
def vj{kindOf:Str->Option NameKind}{x:Str}{v:Value}:∀{P:List Str}{vs:List Value}{i:Nat}{m:#[9]},P.Nodup->P[i]?=some x->vs[i]?=some v->kindOf x≠some .local ->
 bindC kindOf (P.zip vs) m x=some v
 | [],_,_,_,_,h,_,_=>by simp at h
 |_::_,[],_,_,_,_,h,_=>by simp at h
 |p::P,w::vs,0,m,nd,h1,h2,hk=>by
   simp at h1 h2;subst h1;subst h2
   show bindC kindOf ((p,w)::P.zip vs) m p=_;unfold bindC;rw[vi λv hv=>(List.nodup_cons.mp nd).1 (List.of_mem_zip hv).1,O8 hk]
   simp
 |p::P,w::vs,i+1,m,nd,h1,h2,hk=>by
   show bindC kindOf ((p,w)::P.zip vs) m x=_;unfold bindC;exact vj (i:=i) (List.nodup_cons.mp nd).2 #[h1,0] #[h2,0] hk
def qo(N:List Str)(vs:List V):St:=vs.map some++List.replicate (N.length-vs.length) none
def DB(CX:CXT)(P:Program)(w:World)(K:W.Frag)(mg:#[9])(base:Heap)(N:List Str)(qual:Str)(scope:Scope)(f:Addr)(cd:Value)(A:Around)(outer:List Env)(s:Shared)(H:Hp)(E:XK):Cx where
 prog:=P
 w:=w
 K:=K
 mg:=mg
 base:=base
 A:=A.deeper (envOfC qual scope ‹s› f cd)
 N:=N
 s₀:=s
 H₀:=H
 env:=envOfC qual scope ‹s› f cd
 outer:=outer
 stack:=envOfC qual scope ‹s› f cd::outer
 ex:=[]
 calm:=true
 fn:=λ_=>true
 pn:=[]
 xe:=λe s'=>wpAny (model P w) (A.deeper (envOfC qual scope ‹s› f cd)) (leaving (envOfC qual scope ‹s› f cd) e) (λ_ s''=>CX outer H s E e s'') (λe' s''=>CX outer H s E e' s'') s'
def yG{sc:Scope}{n:Nat}{x:Str}(h:sc.names.lookup x=some .cell):∃c,(cellsFrom n sc.names []).lookup x=some c:=by
 let q:=PySem.W.cellsFrom_some sc.names n [] (.inl h);exact Option.isSome_iff_exists.mp q
def Dm{K:W.Frag}{qual:Str}{f:Addr}{cd:Value}{A:Around}{s1:Shared}{vs:List V}
 (S:FnScope N ps scope)(hd:A.handled=none)(e0:Env0 P w K mg base A outer s H)(hl:vs.length=ps.length)(r:Vals vs us)
 (x:InCallC s ‹s› (bindL (envOfC qual scope ‹s› f cd).kindOf (ps.zip us) λ_=>none) (cellsFrom (‹s›+1) scope.names []) (bindC (envOfC qual scope ‹s› f cd).kindOf (ps.zip us) λ_=>none) s1):
 Inv (DB CX P w K mg base N qual scope f cd A outer s H E) [] (qo N vs) H s1:=by
 let hpl:ps.length<=N.length:=by have:=congrArg List.length S.pre;rw[qI0]at this;omega
 erw[h1,tk,1,hk]at x.done;let noA:∀b:Addr,b∉(DB CX P w K mg base N qual scope f cd A outer s H E).ex:=λb z=>absurd (show b∈([]:List Addr)from z) #[2]
 erw[%[e0.mod,S.kind,1,1,zH0 _,λy z c h1 h2=>?_,λy hy=>?_,λy c _ h=>?_,λ_=>hd,Around.frames_deeper e0.frames,.inr %[1|1],λb z=>absurd z (noA b),e0.bs,e0.bsz,λb _ _=>noA b,λb z=>absurd z (noA b),e0.funs|e0.frf],1,e0.bare,Un.kept hk,%[_,x.toInCall.ns|λi y v h1 h2 h3=>?_],λy c h=>%[_|x.cell y c h],e0.hok.fresh (zH0 _),λy c h=>?_,λp hp=>absurd (show p∈([]:#[7])from hp) #[2],e0.hok.kept hk,6]
 . exact name_of_addr x.apart (qG1 h1) (qG1 h2)
 . let hy:scope.names.lookup y=some .cell∨scope.names.lookup y=some .free:=hy;rcases hy with hy | hy
   . exact yG hy
   . exact absurd rfl (S.nofree _ (qG1 hy))
 . exact wV1 (x.above y c (qG1 h))
 . let hi:i<vs.length:=by
    unfold qo at h2
    by_cases hi:i<vs.length
    . exact hi
    . rw [zK1 #[hi,0]]at h2;rw[List.getElem?_replicate]at h2
      split at h2 <;> cases h2
   let ha:vs[i]?=some v:=by
    unfold qo at h2;rw[zU1 #[hi,0],zY0]at h2;cases e:vs[i]? with
    |none=>rw[e]at h2;cases h2
    |some a=>rw[e]at h2;cases h2;rfl
   let%[u,hu|rv]:=r.get ha;let hp:ps[i]?=some y:=by
    rw[←S.pre,List.getElem?_take_of_lt #[0]];exact h1
   let ndP:ps.Nodup:=by rw[←S.pre];exact S.nd.sublist (List.take_sublist _ _)
   erw[u,rv,6];rcases S.par y (qF0 hp)with k | k
   . exact .inl %[k|vh ndP hp hu k]
   . let%[c|e]:=yG (n:=‹s›+1) k;refine .inr %[.inl k,c,e|6];let q:=x.cell y c e;rw[vj ndP hp hu (by show scope.names.lookup y≠_;rw[k];decide)]at q;exact q
 . exact e0.hok.fresh (wV1 (x.above y c (qG1 h)))
 . unfold qo;show _=N.length;rw[zJ0,zF0,zR1];omega
def fn_of{K:W.Frag}{f:Addr}{name qual:Str}{params:Arguments}{body:List Stmt}{scope:Scope}{dV kV doc pm cdv ct oc:Value}{an od:Option Addr}
 {osl:Array (Option Value)}{sp:Sp}(lk:K.lookup f=some %[oc,od,.func (PySem.W.fnOf name qual params body scope dV kV doc pm an cdv ct)|osl])(hcd:PySem.W.codeIn K cdv qual=true)(S:FnScope N ps scope)
 (len:∀vs H Q E,sp vs H Q E->vs.length=ps.length)
 (hbody:∀(A:Around)(outer:List Env)(s:Shared)(H:Hp)(vs:List V)(Q:VK)(E:XK),Room k (A.deeper (envOfC qual scope ‹s› f cdv))->sp vs H Q E ->
  ∃t,PSs (DB CX P w K mg base N qual scope f cdv A outer s H E) body t/\t { nx:=λ_ H'=>Q .non H',rt:=Q } (qo N vs) H) :
 FnOk P w K mg base CX (k+1) f (PySem.W.fnOf name qual params body scope dV kV doc pm an cdv ct) ps sp:=by
 erw[len,λA outer s H args us vs Q E hr e0 hb r hsp=>?_];let hl:=len _ _ _ _ hsp;let KX:K.In s.heap:=e0.mod.kin.keeps λb o e=>(e0.bs b o e).1
 let lim:s.heap.NoLimit:=e0.mod.nolimit.keeps λb o e=>(e0.bs b o e).1
 let hkind:∀y∈ps.zip us,scope.names.lookup y.1=some .local∨(scope.names.lookup y.1=some .cell/\((cellsFrom (‹s›+1) scope.names []).lookup y.1).isSome=true):=fun⟨n,v⟩ hy=>by
  rcases S.par n (List.of_mem_zip hy).1 with q | q
  . exact .inl q
  . exact .inr %[q|PySem.W.cellsFrom_some _ _ _ (.inl q)]
 apply codeAny_call_function hr.depth (KX _ _ lk) rfl S.co S.gen rfl (PySem.W.codeRec_of KX hcd) (hb _ _ _ _ ?_);apply wpAny_newFunctionEnv_cells S.kind hkind λenv he s1 x=>?_
 subst he;erw[lim.keeps x.toInCall.keep,codeAny_func ?_];let%[t,ht|hq]:=hbody A outer s H vs Q E (hr.deeper _) hsp;let I:Inv (DB CX P w K mg base N qual scope f cdv A outer s H E) [] (qo N vs) H s1:=Dm S hr.hd e0 hl r x;apply jS0 (ht [] s1 (qo N vs) H _ I hq) (λfl s' hs=>?_) λe s' hs=>hs
 let fin:∀{σ':St}{H':Hp}{v:V}{u:Value},Inv (DB CX P w K mg base N qual scope f cdv A outer s H E) [] σ' H' s'->RelV v u->Q v H'->CE outer P w H s Q u s':=
  fun{σ' H' v u} J rv q=>%[v,H',J.os,J.bare,J.base,J.hok,rv|q]
 cases fl with
 |ret u=>
   erw[v,σ',H',J,rv,q]at hs;exact fin J rv q
 |next=>
   erw[σ',H',J,q]at hs;exact fin (v:=V.non) (u:=Value.none) J rfl q
 |brk=>
   erw[_,_,_,q]at hs;exact False.elim q
 |cont=>
   erw[_,_,_,q]at hs;exact False.elim q
section
variable {X:Cx}{x:Str}{p pos:Pos}{e:Expr}{es:List Expr}{t:TA}{id T:String}{r:List V->Hp->VK->Prop}
def tCB(r:List V->Hp->VK->Prop)(t:TA):TE:=λσ H Q=>t σ H λvs H1=>r vs H1 Q
def aG(hc:fL X (.builtin id) r)(hg:Gl X x)(hm:X.mg x=none)(hv:bootBuiltins x=some (.builtin id))(ha:PA X (e::es) t)(hn:x≠"__name__":=by decide)(hdb:(x==("__debug__":Str))=false:=by decide)
 (he:starEach (e::es) X.env=(false,eval e X.env)::starEach es X.env:=by rfl)(hpl:(backTo pos (starEach es X.env)).any (·.1)=false:=by rfl):PE X (.Call (.Name x p) (e::es) [] pos) (tCB r t):=by
 exists 4,Q,I,h;apply jC1 (iI I hg hm hv ?_ hn hdb);exact PyProof.Rows.callWith_builtin1 (thn (ha pos O7 s σ H _ I h) λus s1 ⟨vs,H1,I1,r1,q1⟩=>hc O7 s1 σ H1 vs us Q I1 r1 q1) he hpl
def bc(hc:fL X (.type T) r)(hg:Gl X x)(hm:X.mg x=none)(hv:bootBuiltins x=some (.type T))(ha:PA X (e::es) t)(hn:x≠"__name__":=by decide)(hdb:(x==("__debug__":Str))=false:=by decide)
 (he:starEach (e::es) X.env=(false,eval e X.env)::starEach es X.env:=by rfl)(hpl:(backTo pos (starEach es X.env)).any (·.1)=false:=by rfl):PE X (.Call (.Name x p) (e::es) [] pos) (tCB r t):=by
 exists 4,Q,I,h;apply jC1 (iI I hg hm hv ?_ hn hdb);exact zN1 (thn (ha pos O7 s σ H _ I h) λus s1 ⟨vs,H1,I1,r1,q1⟩=>hc O7 s1 σ H1 vs us Q I1 r1 q1) he hpl
end
end L2
namespace HT
open PySem PyProof.Rows
section
variable {prog:Program}{w:World}{A:Around}{E:#[6]}{s:Shared}
def cat_tup{t b:Addr}{vs ws:List Value}{Q:#[6]}(ht:IsTup s.heap t vs.toArray)(hb:IsTup s.heap b ws.toArray)(hv:vs≠[])
 (h1:ws=[]->Q (.ref t) s)(h2:ws≠[]->Q (.ref ‹s›) { s with heap:=s.heap.push { cls:=.type "tuple",data:=.seq (vs++ws).toArray } })
 (hsz:vs.length+ws.length<=sizeLine):‹w.A› (binaryOp .Add (.ref t) (.ref b)) Q E s:=by
 let%[%[cls,dd,data|sl],ho,hc,n|hd]:=id ht;let%[%[cls2,dd2,data2|sl2],ho2,hc2,n2|hd2]:=id hb;simp only at hc hd hc2 hd2;subst hc hd hc2 hd2;let e:vs.toArray++ws.toArray=(vs++ws).toArray:=by simp
 by_cases hw:ws=[]
 . exact concat_meets %[_,ho|1] ⟨_,ho2,rfl⟩ vG0 seq_tuple_add wD1 wB1 (jY1 _ _)
    (tuple_addW1 t b vs.toArray ws.toArray n n2 dd dd2 sl sl2 #[hv,0] (by simp [hw])) %[ho,ho2|h1 hw]
 . apply concat_meets %[_,ho|1] ⟨_,ho2,rfl⟩ vG0 seq_tuple_add wD1 wB1 (jY1 _ _)
    (tuple_addW2 t b vs.toArray ws.toArray n n2 dd dd2 sl sl2 #[hv,0] #[hw,0] (by rw[zT0,zT0];exact hsz)) %[ho,ho2|6]
   rw[e];exact h2 hw
def sIx(n d:Nat):Option Int->Nat
 |none=>d
 |some v=>if v<0 then(v+(n:Int)).toNat else min v.toNat n
def sIx_none(n d:Nat):sIx n d none=d:=rfl
def sIx_nat(n d k:Nat):sIx n d (some (k:Int))=min k n:=by
 show(if(k:Int)<0 then((k:Int)+(n:Int)).toNat else min (k:Int).toNat n)=min k n;rw[O8 #[0],qV0]
def Kf(n d:Nat)(hd:d<=n)(o:Option Int):sIx n d o<=n:=by
 cases o with
 |none=>exact hd
 |some v=>
   show(if v<0 then(v+(n:Int)).toNat else min v.toNat n)<=n
   by_cases hv:v<0
   . rw[O9 hv];omega
   . rw[O8 hv];exact Nat.min_le_right _ _
def BE(v:Int)(n d:Nat):(if v<0 then max (v+(n:Int)) 0 else min v (n:Int))=((sIx n d (some v):Nat):Int):=by
 show(if v<0 then max (v+(n:Int)) 0 else min v (n:Int))=(((if v<0 then(v+(n:Int)).toNat else min v.toNat n):Nat):Int)
 by_cases hv:v<0
 . simp only[O9 hv];omega
 . simp only[O8 hv];omega
def Ay(lo hi:Option Int)(n:Nat):Builtin.Slice.sliceAdjust lo hi 1 (n:Int)=(((sIx n 0 lo:Nat):Int),((sIx n n hi:Nat):Int)):=by
 let h1:¬ ((1:Int)<0):=#[0]
 unfold Builtin.Slice.sliceAdjust;simp only[h1,if_false];apply Prod.ext ?_ ?_
 . cases lo with
   |none=>rfl
   |some v=>exact BE v n 0
 . cases hi with
   |none=>rfl
   |some v=>exact BE v n n
def zI(i j:Nat):Builtin.Slice.slicePlaces (i:Int) (j:Int) 1=j-i:=by
 unfold Builtin.Slice.slicePlaces;let h1:(1:Int)>0:=#[0]
 simp only[h1,vI1,Int.ediv_one]
 split <;> omega
def rR{v:Value}{o:Option Int}{Q:Option Int->Shared->Prop}(p:IsPart v o)(h:Q o s):‹w.A› (Builtin.Slice.slicePartIndex v) Q E s:=by
 cases p with
 |none=>exact slicePart_none h
 |int i t=>exact slicePart_int h
def jj{sl:Addr}{vl vu:Value}{lo hi:Option Int}{Q:Int×Int×Nat->Shared->Prop}(hs:s.heap.IsSliceOf sl vl vu .none)(pl:IsPart vl lo)(pu:IsPart vu hi)
 (h:Q (((sIx n 0 lo:Nat):Int),1,sIx n n hi-sIx n 0 lo) s):‹w.A› (Builtin.Slice.sliceApplied (.ref sl) (pure (n:Int))) Q E s:=by
 let%[os,hos,hcs|hds]:=id hs;unfold Builtin.Slice.sliceApplied Builtin.Slice.sliceFields;apply zD0 (zD0 (zW1 hos hds (x:=vl) rfl (zD0 (zW1 hos hds (x:=vu) rfl (zD0 (zW1 hos hds (x:=.none) rfl (zI0 ?_)))))));apply zD0 (slicePart_none ?_);show wpAny _ _ (if((1:Int)==0)=true then _ else _) _ _ s;rw[O8 ⋯];apply zD0 (rR pl (zD0 (rR pu (zD0 (zI0 ?_)))));show wpAny _ _ (match Builtin.Slice.sliceAdjust lo hi 1 (n:Int)with | (lo,hi)=>pure (lo,(1:Int),Builtin.Slice.slicePlaces lo hi 1)) _ _ s;rw[Ay lo hi n];show wpAny _ _ (pure (((sIx n 0 lo:Nat):Int),(1:Int),Builtin.Slice.slicePlaces ((sIx n 0 lo:Nat):Int) ((sIx n n hi:Nat):Int) 1)) _ _ s;rw[zI];exact zI0 h
def EQ(xs:Array Value)(i k:Nat):((List.range k).filterMap fun(m:Nat)=>xs[((i:Int)+(m:Int)*1).toNat]?).toArray=((xs.toList.drop i).take k).toArray:=by
 let e:(fun(m:Nat)=>xs[((i:Int)+(m:Int)*1).toNat]?)=λm=>xs[i+m]?:=by
  funext m
  have:((i:Int)+(m:Int)*1).toNat=i+m:=#[0]
  rw[this]
 rw[e]
 have:=pick_run xs i k
 rw[List.filterMap_map]at this;let e2:((λx=>xs[x]?) ∘ λx=>i+x)=λm=>xs[i+m]?:=rfl
 rw[e2]at this;rw[this]
def getItem_tuple_cut{t sl:Addr}{items:Array Value}{vl vu:Value}{lo hi:Option Int}{Q:#[6]}(ht:IsTup s.heap t items)(hs:s.heap.IsSliceOf sl vl vu .none)(pl:IsPart vl lo)(pu:IsPart vu hi)
 (hw:¬ (sIx items.size 0 lo=0/\sIx items.size items.size hi=items.size))
 (h:Q (.ref ‹s›) { s with heap:=s.heap.push { cls:=.type "tuple",data:=.seq ((items.toList.drop (sIx items.size 0 lo)).take (sIx items.size items.size hi-sIx items.size 0 lo)).toArray } })
 (hsz:items.size<=sizeLine):‹w.A› (getItem (.ref t) (.ref sl)) Q E s:=by
 let htake:sizeOk (.seq ((items.toList.drop (sIx items.size 0 lo)).take (sIx items.size items.size hi-sIx items.size 0 lo)).toArray):=by
  show((items.toList.drop (sIx items.size 0 lo)).take (sIx items.size items.size hi-sIx items.size 0 lo)).toArray.size<=sizeLine;rw[zT0,qI0,jW1,qF1];omega
 let hj:sIx items.size items.size hi<=items.size:=Kf _ _ (zH0 _) hi;let%[os,hos,hcs|hds]:=id hs;let hTs:s.TypeIs (.ref sl) "slice":=%[os,hos|hcs]
 unfold getItem
 try with_reducible apply jS1 ?_
 first | apply zD0 (zI0 ?_) | skip
 apply zD0 (wpAny_sequenceKey ht.typeIs ⋯ ?_);apply zD0 (zS1 (name:=Str.ofString "__getitem__") ht.typeIs qT1
  (qL1 qT1 ht.typeIs entry_tuple_getitem ?_ (args_tuple_getitem _ _)))
 show wpAny _ _ (Builtin.Tuple.tupleItemsOf (.ref t) >>= _) _ _ s;apply zD0 (tupleItemsOf_ ht ?_);apply zD0 (wpAny_typeOf hTs ?_);rw[O9 ⋯];apply zD0 (jj hs pl pu ?_);let hno:¬ ((((sIx items.size 0 lo:Nat):Int)==0&&(1:Int)==1&&(sIx items.size items.size hi-sIx items.size 0 lo)==items.size)=true):=by
  intro q;rw[qY1,qY1]at q;let q1:((sIx items.size 0 lo:Nat):Int)=0:=eq_of_beq q.1.1;let q2:sIx items.size items.size hi-sIx items.size 0 lo=items.size:=eq_of_beq q.2;exact hw %[3|3]
 show wpAny _ _ (if(((sIx items.size 0 lo:Nat):Int)==0&&(1:Int)==1&&(sIx items.size items.size hi-sIx items.size 0 lo)==items.size)=true then _ else _) _ _ s;rw[O8 hno,EQ]
 first
  |exact zD0 (m:=Builtin.Tuple.tupleExact _) (zP1 (zI0 ⟨_,rfl,zI0 h⟩) htake)
  |exact zD0 (m:=Builtin.Tuple.tupleExact _) (zP1 (zD0 (zI0 (zI0 ⟨_,rfl,zI0 h⟩))) htake)
  |exact zD0 (zD0 (m:=Builtin.Tuple.tupleExact _) (zP1 (zI0 (zI0 ⟨_,rfl,zI0 h⟩)) htake))
  |exact zD0 (zD0 (m:=Builtin.Tuple.tupleExact _) (zP1 (zI0 ⟨_,rfl,zI0 h⟩) htake))
end
end HT
namespace L2
open PySem PySem.Spec PyProof.Rows
abbrev TO:=St->Hp->(Option Int->Hp->Prop)->Prop
def PO(X:Cx)(e:Option Expr)(t:TO):Prop:=
 ∀(O7:#[7])(s:Shared)(σ:St)(H:Hp)(Q:Option Int->Hp->Prop),#[8] H s->t σ H Q ->
  ‹X.w› (evalPart e X.env) (λu s'=>∃o H',#[8] H' s'/\IsPart u o/\Q o H') X.xe s
def HL:TO:=λ_ H Q=>Q none H
instance ZtPart(Q:(Option Int->Hp->Prop))(x:V)(H1:Hp):∀i,x=.int i->Q (some i) H1:=0
def tPart(t:TE):TO:=λσ H Q=>t σ H λx H1=>ZtPart Q x H1
section
variable {X:Cx}{e:Expr}{te:TE}{lo hi:Option Expr}{tl th:TO}{pos p2:Pos}
def ig:PO X none HL:=by
 exists 4,Q,I,h;rw[evalPart_none];exact zI0 %[none,H,I,.none|h]
def eP(h:PE X e te):PO X (some e) (tPart te):=by
 exists 4,Q,I,hw;rw[evalPart_some];apply thn (h O7 s σ H _ I hw) λu s1 ⟨x,H1,I1,r1,q1⟩=>?_
 erw[i,1,q]at q1;erw[t,1]at r1;erw[some i,H1,I1,.int i t,q]
def SlR(X:Cx)(r:V->Option Int->Option Int->Hp->VK->Prop):Prop:=
 ∀(O7:#[7])(s:Shared)(σ:St)(H:Hp)(x:V)(v vl vu:Value)(lo hi:Option Int)(sl:Addr)(Q:VK),#[8] H s->RelV x v->s.heap.IsSliceOf sl vl vu .none->IsPart vl lo->IsPart vu hi->r x lo hi H Q ->
  ∃T id,typeLookup (.type T) "__getitem__"=pure (some (.builtin id))/\s.TypeIs v T/\‹X.w› (getItem v (.ref sl)) (EP X O7 σ Q) X.xe s
def tSl(r:V->Option Int->Option Int->Hp->VK->Prop)(te:TE)(tl th:TO):TE:=λσ H Q=>te σ H λx H1=>tl σ H1 λl H2=>th σ H2 λu H3=>r x l u H3 Q
def eJ(hr:SlR X r)(he:PE X e te)(hl:PO X lo tl)(hu:PO X hi th):PE X (.Subscript e (.Slice lo hi none p2) pos) (tSl r te tl th):=by
 exists 4,Q,I,h;apply Subscript_ (thn (he O7 s σ H _ I h) λv s1 ⟨x,H1,I1,r1,q1⟩=>?_);apply wpAny_Slice (thn (hl O7 s1 σ H1 _ I1 q1) λvl s2 ⟨l,H2,I2,pl,q2⟩=>thn (hu O7 s2 σ H2 _ I2 q2) λvu s3 ⟨u,H3,I3,pu,q3⟩=>?_);rw[evalPart_none];apply zI0 ?_;let I4:#[8] H3 { s3 with heap:=s3.heap.push { cls:=.type "slice",data:=.fields #[vl,vu,.none] } }:=I3.kept (t':=s3.toks) λb ob q=>zQ0 _ q
 let%[T,id,hT,ht|hg]:=hr O7 { s3 with heap:=s3.heap.push { cls:=.type "slice",data:=.fields #[vl,vu,.none] } } σ H3 x v vl vu l u ‹s3› Q I4 r1 (Heap.IsSliceOf.new ..) pl pu q3;show ‹X.w› (subscriptTail e (.Slice lo hi none p2) v (.ref ‹s3›)) (EP X O7 σ Q) X.xe { s3 with heap:=s3.heap.push { cls:=.type "slice",data:=.fields #[vl,vu,.none] } };exact tail_any (ops:=[.ref ‹s3›,v]) ht hT hg (by rfl')
def jg(xs:List V)(lo hi:Option Int):List V:=(xs.drop (HT.sIx xs.length 0 lo)).take (HT.sIx xs.length xs.length hi-HT.sIx xs.length 0 lo)
def qK(xs:List V)(lo hi:Option Int):(jg xs lo hi).length<=xs.length:=by
 unfold jg;rw[qI0,jW1];omega
instance rSlT(K:W.Frag)(x:V)(lo:Option Int)(hi:Option Int)(H:Hp)(Q:VK):∀a xs,x=.ref a->SqT K H a xs->(¬ (HT.sIx xs.length 0 lo=0/\HT.sIx xs.length xs.length hi=xs.length))->(∀p,H p=none->Q (.ref p) (upd H p (.tup (jg xs lo hi)))):=0
def pB:SlR X (rSlT X.K):=by
 exists 4,x,v,vl,vu,lo,hi,sl,Q,I,rx,hs,pl,pu,h;erw[a,xs,1,hx,hw,q]at h;cases rx;let%[its,r,ht|hz]:=I.tuple hx;let hlen:its.toArray.size=xs.length:=by rw[zT0];exact r.length.symm
 erw["tuple",_,PyProof.Rows.slot_tuple_getitem.lookup,ht.typeIs,6];apply HT.getItem_tuple_cut ht hs pl pu (by rw[hlen];exact hw) ?_ (by rw[hlen];exact hz);rw[hlen];erw[.ref ‹s›,_,I.laid (t':=s.toks) (o:=.tup (jg xs lo hi)) (λb ob q=>zQ0 _ q) (zH0 _) ?_,1,q _ (I.hok.fresh (zH0 _))];erw[zP0 (qK xs lo hi) hz,_,(r.drop (HT.sIx xs.length 0 lo)).take (HT.sIx xs.length xs.length hi-HT.sIx xs.length 0 lo),IsTup.new _ _,_,qD0 _ rfl,1]
instance rCatT(K:W.Frag)(x:V)(y:V)(H:Hp)(Q:VK):∀a b xs ys,x=.ref a->y=.ref b->SqT K H a xs->SqT K H b ys->xs≠[]->xs.length+ys.length<=sizeLine->(ys=[]->Q (.ref a) H)->(ys≠[]->∀p,H p=none->Q (.ref p) (upd H p (.tup (xs++ys)))):=0
def Vals.nil_iff(r:Vals xs us):us=[]↔xs=[]:=by
 cases r with
 |nil=>simp
 |cons _ _=>simp
def op_catT:OpR X (binaryOp .Add) (rCatT X.K):=by
 exists 4,x,y,v,u,Q,I,rx,ry,h;erw[a,b,xs,ys,1,1,ha,hb,hx,hz,q1,q2]at h;cases rx;cases ry;let%[its,r1,p1|_]:=I.tuple ha;let%[its2,r2,p2|_]:=I.tuple hb;apply HT.cat_tup p1 p2 (λz=>hx (r1.nil_iff.mp z)) (λz=>%[.ref a,H,I,1|q1 (r2.nil_iff.mp z)]) (λz=>?_) (by rw[←r1.length,←r2.length];exact hz);erw[.ref ‹s›,_,I.laid (t':=s.toks) (o:=.tup (xs++ys)) (λb ob q=>zQ0 _ q) (zH0 _) ?_,1,q2 (λw=>z (r2.nil_iff.mpr w)) _ (I.hok.fresh (zH0 _))];erw[by rw[zJ0];exact hz,_,r1.append r2,IsTup.new _ _,_,qD0 _ rfl,1]
end
def ixN(n:Nat)(i:Int):Option Nat:=if 0<=i then(if i<n then some i.toNat else none)else if -(n:Int)<=i then some (i+n).toNat else none
def atI{α:Type}(xs:List α)(i:Int):Option α:=(ixN xs.length i).bind λj=>xs[j]?
def wN{j:Nat}(h:ixN n i=some j):seqIndex? i n=some j/\j<n/\-(n:Int)<=i/\i<n:=by
 unfold ixN at h
 by_cases h0:0<=i
 . rw [O9 h0]at h
   by_cases h1:i<n
   . rw[O9 h1]at h;let e:i.toNat=j:=zS0 h;erw[by rw[seqIndex_of h0 h1,e],3,3,h1]
   . rw[O8 h1]at h;cases h
 . rw [O8 h0]at h
   by_cases h1:-(n:Int)<=i
   . rw[O9 h1]at h;let e:(i+n).toNat=j:=zS0 h;erw[by rw[seqIndex_neg #[0] h1,e],3,h1,3]
   . rw[O8 h1]at h;cases h
def xc{α:Type}{xs:List α}{v:α}(h:atI xs i=some v):∃j,seqIndex? i xs.length=some j/\xs[j]?=some v/\j<xs.length/\-(xs.length:Int)<=i/\i<xs.length:=by
 unfold atI at h;cases e:ixN xs.length i with
 |none=>rw[e]at h;cases h
 |some j=>
   rw[e]at h;let%[h1,h2,h3|h4]:=wN e;erw[j,h1,h,h2,h3,h4]
def cu{α:Type}{xs:List α}{j:Nat}{v:α}(h:xs[j]?=some v):atI xs (j:Int)=some v:=by
 let hj:j<xs.length:=(Pj h).1;let e:ixN xs.length (j:Int)=some j:=by
  unfold ixN;rw[O9 #[0],O9 #[0]];simp
 unfold atI;rw[e];exact h
def yM{α:Type}(xs:List α)(v:α):atI (xs++[v]) (-1)=some v:=by
 let hl:(xs++[v]).length=xs.length+1:=by simp
 let e:ixN (xs++[v]).length (-1)=some xs.length:=by
  unfold ixN;rw[hl,O8 ⋯,O9 #[0]]
  congr 1
  omega
 unfold atI;rw[e];show(xs++[v])[xs.length]?=some v
 simp
def Jo(b:Expr):Prop:=∀o i,subscripted b false o i=operate [o,i] (getItem o i)
def IxR(X:Cx)(r:R2):Prop:=
 ∀(value slice:Expr)(O7:#[7])(s:Shared)(σ:St)(H:Hp)(x y:V)(v u:Value)(Q:VK),#[8] H s->RelV x v->RelV y u->r x y H Q ->
  subscripted slice false v u=operate [v,u] (getItem v u)->‹X.w› (subscriptTail value slice v u) (EP X O7 σ Q) X.xe s
def MtR(X:Cx)(id:String)(r:V->List V->Hp->VK->Prop):Prop:=
 ∀(O7:#[7])(s:Shared)(σ:St)(H:Hp)(x:V)(xs:List V)(v:Value)(us:List Value)(Q:VK),#[8] H s->RelV x v->Vals xs us->r x xs H Q ->
  ‹X.w› (call (.builtin id) (v::us)) (EP X O7 σ Q) X.xe s
section
variable {X:Cx}{a b:Expr}{ta tb:TE}{pos:Pos}
def IxR.or(h:IxR X r)(h':IxR X r'):IxR X (λx y H Q=>r x y H Q∨r' x y H Q):=by
 intro value slice O7 s σ H x y v u Q I rx ry q hs;rcases q with q | q
 . exact h value slice O7 s σ H x y v u Q I rx ry q hs
 . exact h' value slice O7 s σ H x y v u Q I rx ry q hs
def aM(hr:IxR X r)(ha:PE X a ta)(hb:PE X b tb)(hs:Jo b):PE X (.Subscript a b pos) (tOp r ta tb):=by
 exists 4,Q,I,h;exact Subscript_ (Lr ha hb I h λv u s2 x y H2 I2 rx ry q=>hr a b O7 s2 σ H2 x y v u Q I2 rx ry q (hs _ _))
instance rIxL(K:W.Frag)(x:V)(y:V)(H:Hp)(Q:VK):∀p xs i v,x=.ref p->y=.int i->SqL K H p xs->atI xs i=some v->Q v H:=0
instance rIxT(K:W.Frag)(x:V)(y:V)(H:Hp)(Q:VK):∀p xs i v,x=.ref p->y=.int i->SqT K H p xs->atI xs i=some v->Q v H:=0
instance rIxS(x:V)(y:V)(H:Hp)(Q:VK):∀z i c,x=.str z->y=.int i->z.length<=sizeLine->atI z.cps.toList i=some c->Q (.str ⟨#[c]⟩) H:=0
def ix_list:IxR X (rIxL X.K):=by
 intro value slice O7 s σ H x y v u Q I rx ry h hs;erw[p,xs,i,z,1,1,hq,he,q]at h;cases rx;erw[t,1]at ry;let%[its,r,pl|hz]:=I.list hq;let%[j,h1,h2,h3,h4|h5]:=xc he;let%[w,ew|rw']:=r.get h2;let hl:=r.length;let hn:=kh;let fin:EP X O7 σ Q w s:=%[z,H,I,rw'|q]
 by_cases h0:0<=i
 . let hj:i.toNat=j:=by
    rw[seqIndex_of h0 h5]at h1;exact zS0 h1
   exact item_listR pl.isList h0 #[0] (by rw[hj];simpa using ew) fin hs
 . let hj:(i+(its.toArray.size:Int)).toNat=j:=by
    rw[seqIndex_neg #[0] h4]at h1;rw[zT0,←hl];exact zS0 h1
   exact subscriptTail_builtinR (x:=w) pl.isList.typeIs slot_list_getitem.lookup
    (wpAny_getItem_list_neg (Q:=λr s'=>r=w/\EP X O7 σ Q r s') pl.isList #[0] (by rw[zT0] <;> omega) #[0] (by rw[hj];simpa using ew) %[1|fin]) hs
def ix_tup:IxR X (rIxT X.K):=by
 intro value slice O7 s σ H x y v u Q I rx ry h hs;erw[p,xs,i,z,1,1,hq,he,q]at h;cases rx;erw[t,1]at ry;let%[its,r,pl|hz]:=I.tuple hq;let%[j,h1,h2,h3,h4|h5]:=xc he;let%[w,ew|rw']:=r.get h2;let hl:=r.length;let hn:=kh;let fin:EP X O7 σ Q w s:=%[z,H,I,rw'|q]
 exact subscriptTail_builtinR (x:=w) pl.typeIs slot_tuple_getitem.lookup
  (getItem_tuple (j:=j) (Q:=λr s'=>r=w/\EP X O7 σ Q r s') pl #[0] #[0] (by rw[zT0,←hl];exact h1) #[ew,0] %[1|fin]) hs
def wM:IxR X rIxS:=by
 intro value slice O7 s σ H x y v u Q I rx ry h hs;erw[z,i,c,1,1,hz,he,q]at h;erw[t,1]at rx;erw[t',1]at ry;let%[j,h1,h2,h3,h4|h5]:=xc he;let hl:z.cps.toList.length=z.length:=by simp [Str.length]
 rw [hl]at h1 h4 h5;let hn:=kh;exact tail_any (wO1 s z t) slot_str_getitem.lookup (getItem_str (c:=c) (by
  let e1:decide (i < -(2 ^ 63:Int))=false:=zB1 #[0];let e2:decide (i≥2 ^ 63)=false:=zB1 #[0];rw[e1,e2,vD1]) (by rw[h1];simpa using h2) %[.str %[|#[c]],H,I.tok _,%[|0]|q]) hs
def rIx(K:W.Frag):R2:=λx y H Q=>rIxL K x y H Q∨rIxT K x y H Q∨rIxS x y H Q
def Ge:IxR X (rIx X.K):=ix_list.or (ix_tup.or wM)
def Ad(its:List Value)(n j:Nat)(u:Value):Obj.mapSeq (·.setIfInBounds j u) { cls:=.type "list",data:=.seq its.toArray n }={ cls:=.type "list",data:=.seq (its.set j u).toArray n }:=by
 simp [Obj.mapSeq]
def Inv.lst{O7:#[7]}{σ:St}{H:Hp}{s:Shared}{p:Addr}{xs:List V}(I:#[8] H s)(h:H p=some (.lst xs)):
 ∃(its:List Value) (n:Nat),Vals xs its/\s.heap.get? p=some { cls:=.type "list",data:=.seq its.toArray n }/\xs.length<=sizeLine:=by
 let%[z,its,n,r|e]:=I.hok p _ h;erw[its,n,r,e,z]
def Inv.lstUpd{σ:St}{p:Addr}{xs:List V}{its its':List Value}{n n':Nat}{f:Obj->Obj}(I:#[8] H s)(h:H p=some (.lst xs))
 (ho:s.heap.get? p=some { cls:=.type "list",data:=.seq its.toArray n })(hf:f { cls:=.type "list",data:=.seq its.toArray n }={ cls:=.type "list",data:=.seq its'.toArray n' })(r:Vals ys its')(hz:ys.length<=sizeLine)(t:Nat):
 #[8] (upd H p (.lst ys)) { s with heap:=s.heap.update p f,toks:=t }:=by
 let e:(s.heap.update p f).get? p=some { cls:=.type "list",data:=.seq its'.toArray n' }:=by
  rw[Heap.get?_update_self f ho (by rw[hf] <;> rfl),hf]
 apply I.write (x:=p) (e:=p) (by rw[h];trivial) (.inl rfl) (λb u hb q=>(Heap.get?_update_other _ _ (Ne.symm hb)).trans q) %[_|e] ?_;erw[hz,its',n',r,e]
instance rSetL(o:V)(i:V)(v:V)(H:Hp)(Q:(Hp->Prop)):∀p xs k j,o=.ref p->i=.int k->H p=some (.lst xs)->ixN xs.length k=some j->Q (upd H p (.lst (xs.set j v))):=0
def oh:PSet X rSetL:=by
 exists 4,o,i,v,ov,iv,u,Q,I,ro,ri,rv,h;erw[p,xs,k,j,1,1,hp,hj,q]at h;cases ro;erw[t,1]at ri;let%[its,n,r,ho|hz]:=I.lst hp;let%[h1,h2,h3|h4]:=wN hj;let hl:=r.length;let hn:=kh;let I':#[8] (upd H p (.lst (xs.set j v))) { s with heap:=s.heap.update p (Obj.mapSeq (·.setIfInBounds j u)) }:=
  I.lstUpd hp ho (Ad its n j u) (r.set rv j) (by rw[qP1];exact hz) s.toks
 by_cases h0:0<=k
 . let hk:k.toNat=j:=by
    rw[seqIndex_of h0 h4]at h1;exact zS0 h1
   exact PySem.W.ki_setAt ho h0 #[0] (by rw[zT0,←hl];exact h4) (by rw[hk];erw[_,I',q])
 . let hk:(k+(its.toArray.size:Int)).toNat=j:=by
    rw[seqIndex_neg #[0] h3]at h1;rw[zT0,←hl];exact zS0 h1
   exact PySem.W.ki_setBack ho #[0] (by rw[zT0,←hl];exact h3) #[0] (by rw[hk];erw[_,I',q])
def vw(lo hi:Option Int)(n:Nat):(sliceBounds lo hi none n).1=((HT.sIx n 0 lo:Nat):Int)/\(sliceBounds lo hi none n).2.1=((HT.sIx n n hi:Nat):Int)/\(sliceBounds lo hi none n).2.2=1:=by
 erw[6,6,1]
 . cases lo with
   |none=>simp [sliceBounds,HT.sIx]
   |some i=>
     simp only[sliceBounds,HT.sIx,Option.getD_none,show(1:Int)>0 by decide,vI1]
     by_cases h:i<0
     . simp only[h,vI1] <;> omega
     . simp only[h,if_false] <;> omega
 . cases hi with
   |none=>simp [sliceBounds,HT.sIx]
   |some i=>
     simp only[sliceBounds,HT.sIx,Option.getD_none,show(1:Int)>0 by decide,vI1]
     by_cases h:i<0
     . simp only[h,vI1] <;> omega
     . simp only[h,if_false] <;> omega
def uj(its:List Value)(lo hi:Option Int):slicePick its.toArray lo hi none=((its.drop (HT.sIx its.length 0 lo)).take (HT.sIx its.length its.length hi-HT.sIx its.length 0 lo)).toArray:=by
 let%[h1,h2|h3]:=vw lo hi its.toArray.size;unfold slicePick;rw[h1,h2,h3];simp only[sliceRange_one,pick_run,zT0] <;> rfl
instance rSlL(K:W.Frag)(x:V)(lo:Option Int)(hi:Option Int)(H:Hp)(Q:VK):∀a xs,x=.ref a->SqL K H a xs->(∀p,H p=none->Q (.ref p) (upd H p (.lst (jg xs lo hi)))):=0
def Ic:SlR X (rSlL X.K):=by
 exists 4,x,v,vl,vu,lo,hi,sl,Q,I,rx,hs,pl,pu,h;erw[a,xs,1,hx,q]at h;cases rx;let%[its,r,ht|hz]:=I.list hx;let hlen:=r.length;erw["list",_,slot_list_getitem.lookup,ht.isList.typeIs,6];apply wpAny_getItem_list_slice ht.isList hs pl pu .none #[2] ?_ (by rw[zT0] <;> omega);rw[uj,←hlen];erw[.ref ‹s›,_,I.laid (t':=s.toks) (o:=.lst (jg xs lo hi)) (λb ob q=>zQ0 _ q) (zH0 _) ?_,1,q _ (I.hok.fresh (zH0 _))];erw[zP0 (qK xs lo hi) hz,_,(0),(r.drop (HT.sIx xs.length 0 lo)).take (HT.sIx xs.length xs.length hi-HT.sIx xs.length 0 lo),qD0 _ rfl]
def kF:V->Bool
 |.non=>true
 |.bl _=>true
 |.int _=>true
 |.str _=>true
 |_=>false
def eqV:V->V->Bool
 |.non,.non=>true
 |.bl a,.bl b=>a==b
 |.bl a,.int b=>(if a then 1 else 0)==b
 |.int a,.bl b=>a==(if b then 1 else 0)
 |.int a,.int b=>a==b
 |.str a,.str b=>a==b
 |_,_=>false
def La{A:Around}{s:Shared}(ry:RelV y u)(rx:RelV x v)(fy:kF y=true)(fx:kF x=true):SeqAt.EqAt A s u v (eqV y x):=by
 cases y with
 |non=>
   cases ry;cases x with
   |non=>cases rx;exact SeqAt.EqAt.same _
   |bl b=>cases rx;exact SeqAt.EqAt.none_bool b
   |int b=>erw[t,1]at rx;exact SeqAt.EqAt.none_int b t
   |str b=>erw[t,1]at rx;exact SeqAt.EqAt.none_str b t
   |_=>exact absurd (show false=true from fx) qH0
 |bl a=>
   cases ry;cases x with
   |non=>cases rx;exact SeqAt.EqAt.bool_none a
   |bl b=>cases rx;exact SeqAt.EqAt.bool_bool a b
   |int b=>erw[t,1]at rx;exact SeqAt.EqAt.bool_int a b t
   |str b=>erw[t,1]at rx;exact SeqAt.EqAt.bool_str a b t
   |_=>exact absurd (show false=true from fx) qH0
 |int a=>
   erw[t',1]at ry;cases x with
   |non=>cases rx;exact SeqAt.EqAt.int_none a t'
   |bl b=>cases rx;exact SeqAt.EqAt.int_bool a t' b
   |int b=>erw[t,1]at rx;exact SeqAt.EqAt.int_int a t' b t
   |str b=>erw[t,1]at rx;exact SeqAt.EqAt.int_str a t' b t
   |_=>exact absurd (show false=true from fx) qH0
 |str a=>
   erw[t',1]at ry;cases x with
   |non=>cases rx;exact SeqAt.EqAt.str_none a t'
   |bl b=>cases rx;exact SeqAt.EqAt.str_bool a t' b
   |int b=>erw[t,1]at rx;exact SeqAt.EqAt.str_int a t' b t
   |str b=>erw[t,1]at rx;exact SeqAt.EqAt.str_str a t' b t
   |_=>exact absurd (show false=true from fx) qH0
 |_=>exact absurd (show false=true from fy) qH0
def eqU(x:V)(u:Value):Bool:=match u with
 |.none=>eqV .non x
 |.bool b=>eqV (.bl b) x
 |.int i _=>eqV (.int i) x
 |.str z _=>eqV (.str z) x
 |_=>false
def Ap(r:RelV y u)(f:kF y=true):eqU x u=eqV y x:=by
 cases y with
 |non=>cases r;rfl
 |bl b=>cases r;rfl
 |int i=>erw[t,1]at r;rfl
 |str z=>erw[t,1]at r;rfl
 |_=>exact absurd (show false=true from f) qH0
def pq:∀{xs:List V}{us:List Value},Vals xs us->xs.all kF=true->us.any (eqU x)=xs.any λy=>eqV y x
 |_,_,.nil,_=>rfl
 |y::xs,u::us,.cons r t,f=>by
   rw[wC0,qY1]at f;rw[jJ0,jJ0,Ap r f.1,pq t f.2]
def gP{A:Around}{s:Shared}(rx:RelV x v)(fx:kF x=true):∀{xs:List V}{us:List Value},Vals xs us->xs.all kF=true->∀u∈us,SeqAt.EqAt A s u v (eqU x u)
 |_,_,.nil,_=>λu hu=>by cases hu
 |y::xs,u::us,.cons r t,f=>λu' hu=>by
   rw[wC0,qY1]at f;rcases zX0 hu with rfl | hu
   . rw[Ap r f.1];exact La r rx f.1 fx
   . exact gP rx fx t f.2 u' hu
def inV(x:V)(xs:List V):Bool:=xs.any λy=>eqV y x
instance rIn(K:W.Frag)(neg:Bool)(x:V)(y:V)(H:Hp)(Q:VK):∀p xs,y=.ref p->SqL K H p xs∨SqT K H p xs->kF x=true->xs.all kF=true->Q (.bl (if neg then !inV x xs else inV x xs)) H:=0
def dP:OpR X (compareOp .In) (rIn X.K false):=by
 exists 4,x,y,v,u,Q,I,rx,ry,h;erw[p,xs,1,hq,fx,fs,q]at h;cases ry;rcases hq with hq | hq
 . let%[its,r,pl|hz]:=I.list hq;apply SeqAt.in_listAt (eqU x) pl.isList (λw hw=>gP rx fx r fs w #[hw,0]) %[.bl _,H,I,1|6];rw[show its.toArray.any (eqU x)=its.any (eqU x) by simp,pq r fs];exact q
 . let%[its,r,pl|hz]:=I.tuple hq;apply SeqAt.in_tupleAt (eqU x) pl (λw hw=>gP rx fx r fs w #[hw,0]) %[.bl _,H,I,1|6];rw[show its.toArray.any (eqU x)=its.any (eqU x) by simp,pq r fs];exact q
def wn:OpR X (compareOp .NotIn) (rIn X.K true):=by
 exists 4,x,y,v,u,Q,I,rx,ry,h;erw[p,xs,1,hq,fx,fs,q]at h;cases ry;rcases hq with hq | hq
 . let%[its,r,pl|hz]:=I.list hq;apply SeqAt.notIn_listAt (eqU x) pl.isList (λw hw=>gP rx fx r fs w #[hw,0]) %[.bl _,H,I,1|6];rw[show its.toArray.any (eqU x)=its.any (eqU x) by simp,pq r fs];exact q
 . let%[its,r,pl|hz]:=I.tuple hq;apply SeqAt.notIn_tupleAt (eqU x) pl (λw hw=>gP rx fx r fs w #[hw,0]) %[.bl _,H,I,1|6];rw[show its.toArray.any (eqU x)=its.any (eqU x) by simp,pq r fs];exact q
def wk:OpR X (compareOp .NotIn) (λx y H Q=>∃i j,x=.str i/\y=.str j/\Q (.bl (!(!(Builtin.Str.occurrences j i 0 j.length 1).isEmpty))) H):=by
 exists 4,x,y,v,u,Q,I,rx,ry,h;erw[i,j,1,1,q]at h;erw[t,1]at rx;erw[t',1]at ry;exact notIn_str %[.bl _,H,I,1|q]
instance rLen(K:W.Frag)(xs:List V)(H:Hp)(Q:VK):∀p ys,xs=[.ref p]->SqL K H p ys∨SqT K H p ys->Q (.int ys.length) H:=0
def aI:fL X (.builtin "len") (rLen X.K):=by
 exists 4,xs,us,Q,I,r,h;erw[p,ys,1,hq,q]at h;let%[u,1|rx]:=kz r;cases rx;let hn:=kh;rcases hq with hq | hq
 . let%[its,r',pl|hz]:=I.list hq;let hlen:=r'.length;exact Calls.call_len_list pl.isList (by simp only[zT0] <;> omega) %[.int ys.length,H,I.tok _,%[s.toks+1|by rw[zT0,hlen]]|q]
 . let%[its,r',pl|hz]:=I.tuple hq;let hlen:=r'.length;exact len_tuple pl (by simp only[zT0] <;> omega) %[.int ys.length,H,I.tok _,%[s.toks+1|by rw[zT0,hlen]]|q]
def de:fL X (.builtin "len") (λxs H Q=>∃z,xs=[.str z]/\z.length<=sizeLine/\Q (.int z.length) H):=by
 exists 4,xs,us,Q,I,r,h;erw[z,1,hz,q]at h;let%[u,1,t|1]:=kz r;let hn:=kh;exact len_str #[0] %[.int z.length,H,I.tok _,%[|0]|q]
instance rListOf(K:W.Frag)(xs:List V)(H:Hp)(Q:VK):∀p ys,xs=[.ref p]->SqL K H p ys∨SqT K H p ys->(∀l,H l=none->Q (.ref l) (upd H l (.lst ys))):=0
def kx:fL X (.type "list") (rListOf X.K):=by
 exists 4,xs,us,Q,I,r,h;erw[p,ys,1,hq,q]at h;let%[u,1|rx]:=kz r;cases rx;let fin:∀(its:List Value),Vals ys its->ys.length<=sizeLine->∀(h':Heap)(c':Nat),(∀b o',s.heap.get? b=some o'->h'.get? b=some o') ->
  h'.get? ‹s›=some { cls:=.type "list",dict:=none,data:=.seq its.toArray c',slots:=#[] }->EP X O7 σ Q (.ref ‹s›) { s with heap:=h' }:=λits r' hz h' c' kp e=>
  %[.ref ‹s›,_,I.laid (t':=s.toks) kp (zH0 _) (show ObjOk X.prog X.w _ h' _ (.lst ys)from%[hz,its,c',r'|e]),1|q _ (I.hok.fresh (zH0 _))]
 rcases hq with hq | hq
 . let%[its,r',pl|hz]:=I.list hq;let hlen:=r'.length;erw[o,ho,hc,n,hd]at pl.isList;exact call_list_seq p (.inl rfl) ho hc hd (λh' c' kp e=>fin its r' hz h' c' kp e) (by simp only[zT0] <;> omega)
 . let%[its,r',pl|hz]:=I.tuple hq;let hlen:=r'.length;erw[o,ho,hc,n,hd]at pl;exact call_list_seq p (.inr rfl) ho hc hd (λh' c' kp e=>fin its r' hz h' c' kp e) (by simp only[zT0] <;> omega)
instance rTupOf(K:W.Frag)(xs:List V)(H:Hp)(Q:VK):∀p ys,xs=[.ref p]->(SqL K H p ys/\∀l,H l=none->Q (.ref l) (upd H l (.tup ys)))∨(SqT K H p ys/\Q (.ref p) H):=0
def bh:fL X (.type "tuple") (rTupOf X.K):=by
 exists 4,xs,us,Q,I,r,h;erw[p,ys,1,h]at h;let%[u,1|rx]:=kz r;cases rx;rcases h with⟨hq,q⟩ | ⟨hq,q⟩
 . let%[its,r',pl|hz]:=I.list hq;let hlen:=r'.length;apply call_tuple_list pl.isList (λh' kp=>?_) (by simp only[zT0] <;> omega);let I1:#[8] H { s with heap:=h' }:=I.kept (t':=s.toks) kp;let I2:#[8] (upd H h'.objs.size (.tup ys)) { s with heap:=h'.push { cls:=.type "tuple",data:=.seq its.toArray } }:=
    I1.laid (t':=s.toks) (λb o e=>zQ0 _ e) (zH0 _) (show ObjOk X.prog X.w _ _ _ (.tup ys)from%[hz,its,r',IsTup.new _ _,_,qD0 _ rfl|1])
   erw[.ref h'.objs.size,_,I2,1,q _ (I1.hok.fresh (zH0 _))]
 . let%[its,r',pl|hz]:=I.tuple hq;exact call_tuple_same pl %[.ref p,H,I,1|q]
def tyV(K:W.Frag)(T:String)(x:V)(H:Hp):Prop:=match x with
 |.str _=>T="str"
 |.int _=>T="int"
 | .ref p=>(T="list"/\∃xs,SqL K H p xs)∨(T="tuple"/\∃o,K.lookup p=some o/\o.cls=.type "tuple"/\o.dict=none)∨
  (T="dict"/\((∃Pb,H p=some (.dK Pb))∨∃Pb,H p=some (.dT Pb)))∨(T="set"/\∃S n,H p=some (.set S n))
 |_=>False
def JU{σ:St}(I:#[8] H s)(r:RelV x v)(ty:tyV X.K T x H):
 s.TypeIs v T/\∀a,v=.ref a->∃ob,s.heap.get? a=some ob/\ob.dict=none:=by
 cases x with
 |str z=>
   erw[t,1]at r;cases(show T="str" from ty);erw[wO1 s z t,λ_ e=>nomatch e]
 |int i=>
   erw[t,1]at r;cases(show T="int" from ty);erw[vK1 s i t,λ_ e=>nomatch e]
 |ref p=>
   cases r;rcases ty with⟨rfl,xs,hq⟩ | ⟨rfl,o,hk,hc,hd⟩ | ⟨rfl,hk⟩ | ⟨rfl,S,n,hk⟩
   . let%[its,_,pl|_]:=I.list hq;erw[pl.isList.typeIs,λa e=>?_];cases e;erw[o,n,e,c,hd,_]at pl;erw[o,e,hd]
   . erw[%[o,I.kIn p o hk|hc],λa e=>?_];cases e;erw[o,I.kIn _ o hk,hd]
   . let z:∃o,s.heap.get? p=some o/\o.ExactDict:=by
      rcases hk with⟨Pb,hk⟩ | ⟨Pb,hk⟩
      . let%[_,_,_,_,o,_,_,e,ex|_]:=I.hok p _ hk;erw[o,e,ex]
      . let%[_,_,_,_,o,_,_,e,ex|_]:=I.hok p _ hk;erw[o,e,ex]
     erw[o,e,ex]at z;erw[%[o,e|ex.1],λa e2=>?_];cases e2;erw[o,e,ex.2.1]
   . let%[o,_,_,_,e,ex|_]:=I.hok p _ hk;erw[%[o,e|ex.1],λa e2=>?_];cases e2;erw[o,e,ex.2.1]
 |_=>exact False.elim ty
instance ZtBM(K:W.Frag)(T:String)(r:V->List V->Hp->VK->Prop)(t:TA)(σ:St)(Q:VK)(x:V)(H1:Hp):tyV K T x H1->(t σ H1 λxs H2=>r x xs H2 Q):=0
def tBM(K:W.Frag)(T:String)(r:V->List V->Hp->VK->Prop)(to:TE)(t:TA):TE:=λσ H Q=>to σ H λx H1=>ZtBM K T r t σ Q x H1
variable {o e:Expr}{es:List Expr}{to:TE}{t:TA}{name:Str}{Pi Pe:Pos}{T id:String}{r:V->List V->Hp->VK->Prop}
def dZ(pa:PlainAttrs T)(slot:Slot T name id)(hty:typeOf (.builtin id)=pure (.type "method_descriptor"))(hm:MtR X id r)(ho:PE X o to)(ha:PA X (e::es) t)
 (hbase:attributeBase o name X.env (eval o X.env)=eval o X.env:=by rfl)
 (hfew:((backTo Pe (starEach (e::es) X.env)).all (λx=>!x.1)&&(backToKw Pe (keywordEach [] X.env)).all (λx=>x.1.isSome)
  &&decide ((e::es).length+([]:List Keyword).length+(if([]:List Keyword).isEmpty then 0 else 1)<30))=true:=by rfl)
 (hline:(Pi.endLine==Pe.line)=true:=by rfl) (hs:starEach (e::es) X.env=(false,eval e X.env)::starEach es X.env:=by rfl) (hplain:(backTo Pe (starEach es X.env)).any (·.1)=false:=by rfl) :
 PE X (.Call (.Attribute o name Pi) (e::es) [] Pe) (tBM X.K T r to t):=by
 exists 4,Q,I,h;apply wpAny_Call_method_late hbase hfew hline rfl (thn (ho O7 s σ H _ I h) λv s1 ⟨x,H1,I1,r1,ty,q1⟩=>?_);let%[h1|h2]:=JU I1 r1 ty;erw[T,id,pa,slot,hty,h1,h2,6];let hA:=ha Pe O7 s1 σ H1 _ I1 q1;rw[hs]at hA ⊢;apply jN1 (by show(false||(backTo Pe (starEach es X.env)).any (·.1))=false;rw[hplain] <;> rfl) (jU1 ?_);exact thn hA λus s2 ⟨vs,H2,I2,r2,q2⟩=>hm O7 s2 σ H2 x vs v us Q I2 r1 r2 q2
end
def MtM(X:Cx)(id:String)(r:V->List V->Hp->VK->Prop):Prop:=
 ∀(O7:#[7])(s:Shared)(σ:St)(H:Hp)(x:V)(xs:List V)(v:Value)(us:List Value)(Q:VK),#[8] H s->RelV x v->Vals xs us->r x xs H Q ->
  ‹X.w› (call (.builtin id) (v::us)) (EP X O7 σ Q) X.xe s
def Vals.one:∀{x:V}{us:List Value},Vals [x] us->∃u,us=[u]/\RelV x u
 |_,_,.cons r .nil=>%[0|r]
def Vals.rep(h:Vals xs us):∀k:Nat,Vals (List.replicate k xs).flatten (List.replicate k us).flatten
 |0=>.nil
 |k+1=>by
   rw[qB1,qB1,jA0,jA0];exact Vals.append h (Vals.rep h k)
def lY(its:List Value):∀(k:Nat)(acc:List Value),
 List.foldl (λx1 x2=>x1++x2) acc.toArray (List.replicate k its.toArray)=(acc++(List.replicate k its).flatten).toArray
 |0,acc=>by simp
 |k+1,acc=>by
   let e:acc.toArray++its.toArray=(acc++its).toArray:=by simp
   let e2:(acc++its)++(List.replicate k its).flatten=acc++(List.replicate (k+1) its).flatten:=by
    rw[qB1,jA0,jH1]
   rw[←e2,←lY its k (acc++its),←e,qB1,List.foldl_cons]
section
variable {X:Cx}{O7:#[7]}{σ:St}{H:Hp}{s:Shared}{l b:Addr}{xs ys zs:List V}
def Inv.lset{its its':List Value}{n:Nat}{f:Array Value->Array Value}{t':Nat}(I:#[8] H s)(hH:H l=some (.lst xs))
 (e:s.heap.get? l=some { cls:=.type "list",data:=.seq its.toArray n })(hf:f its.toArray=its'.toArray)(hv:Vals ys its')(hz:ys.length<=sizeLine):
 #[8] (upd H l (.lst ys)) { s with heap:=s.heap.update l (Obj.mapSeq f),toks:=t' }:=by
 let q:=PySem.IsL.update e f;rw[hf]at q;apply I.write (x:=l) (e:=l) (by rw[hH];exact trivial) (.inl rfl) (λb' u hb hu=>(Heap.get?_update_other s.heap (Obj.mapSeq f) (Ne.symm hb)).trans hu) %[_|q] ?_;erw[hz,its',_,hv,q]
def Inv.lnew{t':Nat}(I:#[8] H s)(hv:Vals ys its)(hz:ys.length<=sizeLine):
 #[8] (upd H ‹s› (.lst ys)) { s with heap:=s.heap.push { cls:=.type "list",data:=.seq its.toArray },toks:=t' }:=
 I.laid (λ_ _ q=>zQ0 _ q) (zH0 _) %[hz,its,(0),hv|qD0 _ rfl]
def Inv.fresh(I:#[8] H s):H ‹s›=none:=I.hok.fresh (zH0 _)
def Inv.lstM(I:#[8] H s)(hH:H l=some (.lst xs)):xs.length<=sizeLine/\∃(its:List Value) (n:Nat),Vals xs its/\xs.length=its.length/\s.heap.get? l=some { cls:=.type "list",data:=.seq its.toArray n }:=by
 let%[z,its,n,r|e]:=I.hok l _ hH;erw[z,its,n,r,r.length,e]
def xX{n:Nat}(h:n<=sizeLine):Builtin.List.listTooLong n=false:=by
 unfold Builtin.List.listTooLong;exact zB1 #[0]
end
section
variable {X:Cx}
instance rAppend(x:V)(vs:List V)(H:Hp)(Q:VK):∀l xs y,x=.ref l->vs=[y]->H l=some (.lst xs)->xs.length<sizeLine->Q .non (upd H l (.lst (xs++[y]))):=0
def cY:MtM X "list.append" rAppend:=by
 exists 4,x,vs,v,us,Q,I,rx,rv,h;erw[l,xs,y,1,1,hH,hz,q]at h;cases rx;erw[u,1,ru]at rv.one;let%[z,its,n,r,hl|e]:=I.lstM hH;apply jA1 F.slot_list_append %[_,e|1] F.entry_list_append (F.args_list_append_2 _ _) (PySem.list_append l its.toArray n u (by rw[zT0];omega)) ⟨e,?_⟩;erw[.non,_,I.lset (its':=its++[u]) hH e #[2] (r.append (.cons ru .nil)) ?_,1,q];rw[zJ0,qM0];omega
instance rExtend(x:V)(vs:List V)(H:Hp)(Q:VK):∀l b xs zs,x=.ref l->vs=[.ref b]->H l=some (.lst xs)->H b=some (.lst zs)->xs.length+zs.length<=sizeLine->Q .non (upd H l (.lst (xs++zs))):=0
def CP:MtM X "list.extend" rExtend:=by
 exists 4,x,vs,v,us,Q,I,rx,rv,h;erw[l,b,xs,zs,1,1,hH,hB,hz,q]at h;cases rx;erw[u,1,ru]at rv.one;cases ru;let%[z,its,n,r,hl|e]:=I.lstM hH;let%[z2,its2,n2,r2,hl2|e2]:=I.lstM hB;let hsz:its.toArray.size+its2.toArray.size<=sizeLine:=by rw[zT0,zT0];omega
 let hlong:¬ (!its.toArray.isEmpty&&Builtin.List.listTooLong (its.toArray.size+its2.toArray.size))=true:=by
  rw[xX hsz,wZ1];exact qH0
 apply jA1 F.slot_list_extend %[_,e|1] F.entry_list_extend (F.args_list_extend_2 _ _)
  (AutoSeq1.list_extend_list_list_0 l its.toArray n b its2.toArray n2 hlong (by rw[zT0];omega) #[0]) %[e,e2|6]
 erw[.non,_,I.lset (its':=its++its2) hH e #[2] (r.append r2) ?_,1,q];rw[zJ0];omega
instance rCat(x:V)(y:V)(H:Hp)(Q:VK):∀l b xs zs,x=.ref l->y=.ref b->H l=some (.lst xs)->H b=some (.lst zs)->xs.length+zs.length<=sizeLine->(∀p,H p=none->Q (.ref p) (upd H p (.lst (xs++zs)))):=0
def pV:OpR X (binaryOp .Add) rCat:=by
 exists 4,x,y,v,u,Q,I,rx,ry,h;erw[l,b,xs,zs,1,1,hH,hB,hz,q]at h;cases rx;cases ry;let%[z,its,n,r,hl|e]:=I.lstM hH;let%[z2,its2,n2,r2,hl2|e2]:=I.lstM hB;apply PySem.P.add_list e e2 ?_ (by rw[zT0,zT0];omega);let ea:its.toArray++its2.toArray=(its++its2).toArray:=by simp
 rw[ea];erw[.ref _,_,I.lnew (t':=s.toks) (r.append r2) (by rw[zJ0];omega),1,q _ I.fresh]
instance rRep(x:V)(y:V)(H:Hp)(Q:VK):∀l k xs,x=.ref l->y=.int k->H l=some (.lst xs)->-(2 ^ 63)<=k->k<2 ^ 63->xs.length*k.toNat<=sizeLine->(∀p,H p=none->Q (.ref p) (upd H p (.lst (List.replicate k.toNat xs).flatten))):=0
def Be{α:Type}(xs:List α)(k:Nat):(List.replicate k xs).flatten.length=k*xs.length:=by
 induction k with
 |zero=>simp
 |succ k ih=>rw[qB1,jA0,zJ0,ih,Nat.succ_mul,Nat.add_comm]
def Kv:OpR X (binaryOp .Mult) rRep:=by
 exists 4,x,y,v,u,Q,I,rx,ry,h;erw[l,k,xs,1,1,hH,h1,h2,hz,q]at h;cases rx;erw[t,1]at ry;let%[z,its,n,r,hl|e]:=I.lstM hH;let hlen:its.toArray.size*k.toNat<=sizeLine:=by rw[zT0,←hl];exact hz
 let hcap:¬ its.toArray.size*k.toNat>(2 ^ 63-1) / 8:=by
  have:(sizeLine:Nat)<=(2 ^ 63-1) / 8:=by decide
  omega
 let hfit:¬ (!Builtin.List.listFitsIndex k)=true:=by
  rw[fitsIndex_both h1 h2];exact qH0
 let hlong:¬ Builtin.List.listTooLong (its.toArray.size*k.toNat)=true:=by
  rw[xX hlen];exact qH0
 let hnew:List.foldl (λx1 x2=>x1++x2) #[] (List.replicate (if its.toArray.isEmpty=true then 0 else k.toNat) its.toArray)=(List.replicate k.toNat its).flatten.toArray:=by
  let f0:∀m:Nat,List.foldl (λx1 x2=>x1++x2) #[] (List.replicate m its.toArray)=(List.replicate m its).flatten.toArray:=λm=>by
   have:=lY its m []
   rw[List.nil_append]at this;exact this
  rw[f0];cases its with
  |nil=>simp
  |cons a r'=>rw[O8 #[2]]
 apply wpAny_binaryOp_repeat_ref (T:="list") (U:="int") ⋯ %[_,e|1] (λs'=>vK1 s' k t) noFill_list_mul F.fills_int_mul wQ1 repeat_list F.slot_int_index.lookup
  (jA1 wQ1 (vK1 s k t) F.entry_int_rmul (F.args_int_rmul_2 _ _) (int___rmul___int_list k t l its.toArray n)
   %[e,1,%[_,e|1]|jA1 F.slot_list_mul ⟨_,e,rfl⟩ F.entry_list_mul (F.args_list_mul_2 _ _) (AutoListH.list___mul___list_int_3 l its.toArray n k t hfit hcap hlong) ⟨e,?_⟩])
 rw[hnew];erw[.ref _,_,I.lnew (t':=s.toks) (r.rep k.toNat) (by rw[Be,Nat.mul_comm];exact hz),1,q _ I.fresh]
end
end L2
namespace Att
open PySem PySem.W PySem.Calls PyProof.Rows
def qV{P:Params}{h:Heap}:∀(ns:List Int)(vs:List Value),WellAll P h vs (ns.map WData.int)->IntsAre vs ns:=by
 intro ns
 induction ns with
 |nil=>
   intro vs w;rw[List.map_nil]at w;cases w;exact .nil
 |cons n ns ih=>
   intro vs w;rw[zZ0]at w;cases w with
   |cons a b=>
     cases a;exact .cons _ _ (ih _ b)
def Cc{l:OpenLaw}{n:Nat}(hn:l.most=some n){P:Params}{h:Heap}{args:List WData}{vals:List Value}
 (hpre:l.row.toRowW.claim.pre args=true)(hwl:WellAll P h vals args):
 ∃a vs ns,vals=[Value.ref a]/\args=[WData.list (ns.map WData.int)]/\h.get? a=some { cls:=.type "list",data:=.seq vs.toArray }/\IntsAre vs ns/\ns.length<=n:=by
 let hsh:WShape.hasAll [] args [.list .int]=true:=(pre_splitW hpre).1;let hc:l.pre.holds [] { args:=args }=true:=(pre_splitW hpre).2;let%[d,r,1,h1|h2]:=hasAllW_cons hsh;obtain rfl:=hasAllW_nil h2;let%[xs,1|h3]:=hasW_list h1;let%[ns|1]:=items_int h3;let hlen:ns.length<=n:=by
  unfold OpenLaw.pre at hc;let h4:(WTm.not (.lt (.lit (.int (n:Int))) (.len (.arg 0)))).holds [] { args:=[.list (ns.map .int)] }=true:=by
   let h4:=(holds_andW hc).1;rw[hn]at h4;exact h4
  let h5:=condW_of h4 (w_not (w_lt w_lit (w_len_list (w_arg rfl))));rw[zF0]at h5;apply Nat.le_of_not_lt λq=>?_
  let q':(n:Int)<((ns.length:Nat):Int):=#[0]
  first
   | (rw[zC1 q']at h5;exact absurd h5 ⋯)
   | (simp at h5;omega)
 cases hwl with
 |cons w1 w2=>
   cases w2;cases w1 with
   |list ho hall=>erw[_,_,ns,1,1,ho,qV ns _ hall,hlen]
def Cp(l:OpenLaw)(args:List WData):l.row.toRowW.claim.post args (.bool true) args=true:=
 postW_of (r:=l.row.toRowW) (X:=(true==true))
  (show WShape.has [] (.bool true) .bool=true by first | rfl | decide | simp [WShape.has,WShape.arms,WShape.armsAll])
  (show(WTm.eq .res (.lit (.bool true))).value [] { args:=args,res:=some (.bool true),after:=args }=some (.bool (true==true))from w_eq_bool (w_res rfl) w_lit) rfl
def attach_call{l:OpenLaw}{n:Nat}{q:Program}{loose:List Str}{XP:(#[9])->Heap->Prop}{YP:World->Heap->Prop}{d:DefRec}
 (hn:l.most=some n)(hdf:d.params.defaults=[])
 (call:∀(w:World)(s₀ s₁:Shared)(mg mb:#[9])(fa:Addr)(o:Obj)(pm cd doc:Value)(a:Addr)(vs:List Value)(ns:List Int),
  Ground q loose [] XP w s₀ mg mb s₁.heap->YP w s₁.heap ->
  s₁.heap.get? fa=some o->o.data=.func (docDef d.name d.params d.body d.scope pm cd doc)->s₁.heap.CodeRec cd d.name->mg d.name=some (.ref fa) ->
  s₁.heap.get? a=some { cls:=.type "list",data:=.seq vs.toArray }->IntsAre vs ns->ns.length<=n->s₁.gens=#[] ->
  codeAny (model l.prog w) callerA (.call (.ref fa) %[[.ref a]|[]]) (λr s'=>r=.ok (.ret (.bool true))/\OldK s₁.heap s'.heap/\s'.os=s₁.os/\AllBare s'.gens) s₁) :
 WalkO q loose XP YP l.row.toRowW d [] (λf vs=>PySem.call f vs):=by
 intro w s₀ s₁ mg mb G Y fa o pm cd doc dV kV ho hd hcd hD hmg hg args vals as hpre hlay hrd hwl hlo;obtain rfl:dV=.none:=Dflts.none hD hdf;obtain rfl:kV=.none:=Dflts.noKw hD;let%[a,vs,ns,1,1,hobj,hints|hlen]:=Cc hn hpre hwl;apply enter_call (vI0 (call w s₀ s₁ mg mb fa o pm cd doc a vs ns G Y ho (fd_plain hd) hcd hmg hobj hints hlen hg) λr s' hq=>?_);erw[1,h2,h3,h4]at hq;erw[.inl %[.bool true,.bool true,[],1,λ_=>rfl,.bool true,Cp l _|λ_=>%[List.Pairwise.nil|λ_ hm=>(nomatch hm)]],h2,h3,h4]
end Att
namespace L2
open PySem PySem.Spec PyProof.Rows
def uH:∀{vs:List Value}{ns:List Int},IntsAre vs ns->Vals (ns.map V.int) vs
 |_,_,.nil=>.nil
 |_,_,.cons n t h=>.cons %[t|1] (uH h)
def Ly(H:Hp):Prop:=∀b,H b=none∨∃o xs,H b=some (.frz o (.lst xs))
def FW{K:W.Frag}{mg mb:#[9]}{a:Addr}{x:Str}{s₁:Shared}{vs:List Value}{ns:List Int}
 (KX:K.In s₁.heap)(hns:s₁.heap.Ns mainGlobals mg)(hb:s₁.heap.Ns builtinsNs mb)(hbb:∀x:Str,x≠"__name__" -> mb x=bootBuiltins x)(hlim:s₁.heap.NoLimit)(hg:s₁.gens=#[])
 (ha:s₁.heap.get? a=some { cls:=.type "list",data:=.seq vs.toArray })(hi:IntsAre vs ns)(hl:ns.length<=sizeLine)(hr:Room k callerA)
 (F:∀base:Heap,K.In base->base.Ns mainGlobals mg->FnOk P w K mg base CX k fa fd [x] sp)(hbind:∀(s:Shared)(u:Value),BindsTo s fd %[[u]|[]] [(x,u)])
 (hsp:∀H:Hp,Ly H->SqL K H a (ns.map V.int)->sp [.ref a] H (λv _=>v=.bl true) λ_ _ _=>False)
 (hCX:∀H e s',CX [] H s₁ (λ_ _ _=>False) e s'->False):
 codeAny (model P w) callerA (.call (.ref fa) %[[.ref a]|[]]) (λr s'=>r=.ok (.ret (.bool true))/\OldK s₁.heap s'.heap/\s'.os=s₁.os/\AllBare s'.gens) s₁:=by
 let rv:=uH hi;let lenV:=hi.length;let core:∀H:Hp,Ly H->SqL K H a (ns.map V.int)->HOk P w H s₁.heap->(∀b,H b≠none->b=a)->(H a≠none->K.lookup a=none) ->
  codeAny (model P w) callerA (.call (.ref fa) %[[.ref a]|[]]) (λr s'=>r=.ok (.ret (.bool true))/\OldK s₁.heap s'.heap/\s'.os=s₁.os/\AllBare s'.gens) s₁:=by
  intro H hO hS hok hA hK;let base_of:∀{b:Addr}{o:Obj},s₁.heap.get? b=some o->H b=none->(wP s₁.heap H).get? b=some o:=λe n=>Gk e n
  let noA:∀{b:Addr}{o:Obj}{es:Array DictEntry}{ep:Nat},s₁.heap.get? b=some o->o.data=.dict es ep->H b=none:=fun{b o es ep} e d=>by
   cases q:H b with
   |none=>rfl
   |some u=>
     let e':b=a:=hA b (by rw[q];simp);subst e';rw[ha]at e;cases e;let d':Data.seq vs.toArray _=Data.dict es ep:=d;cases d'
  let nsK:∀{b:Addr}{m:#[9]},s₁.heap.Ns b m->(wP s₁.heap H).Ns b m:=fun{b m} ⟨o,es,ep,e,d,r⟩=>%[o,es,ep,base_of e (noA e d),d|r]
  let hKb:K.In (wP s₁.heap H):=λb o e=>base_of (KX b o e) (by
   cases q:H b with
   |none=>rfl
   |some u=>
     let e':b=a:=hA b (by rw[q];simp);subst e';rw[hK (by rw[q];simp)]at e;cases e)
  let hM:Mod K mg (wP s₁.heap H):=%[hKb,nsK hns,%[mb,nsK hb|hbb]|let⟨mc,h1,h2⟩:=hlim;⟨mc,nsK h1,h2⟩]
  let e0:Env0 P w K mg (wP s₁.heap H) callerA [] s₁ H:=%[1,hM,λb o e=>IC e,Nat.le_of_eq (Do _ _),trivial,λb hb=>absurd (show b∈([]:List Addr)from hb) #[2],hok|.of_eq hg]
  apply vI0 ((F _ hKb (nsK hns)).run callerA [] s₁ H %[[.ref a]|[]] [.ref a] [.ref a] _ _ hr e0 (hbind s₁ (.ref a)) (.cons rfl .nil) (hsp H hO hS)) λr s' h=>?_
  cases r with
  |error e=>exact(hCX H e s' h).elim
  |ok fl=>
    cases fl with
    |next=>exact False.elim h
    |brk=>exact False.elim h
    |cont=>exact False.elim h
    |ret u=>
      erw[v,H',os,bare,un,hok',r',q]at h;let q':v=.bl true:=q;subst q';obtain rfl:u=Value.bool true:=r';erw[1,OldK.of_keep λb o e=>?_,os,bare];cases q:H b with
      |none=>exact un.keep b o e q (by intro z;exact absurd (show b∈([]:List Addr)from z) #[2]) #[2]
      |some u=>
        rcases hO b with z | ⟨ob,xs,z⟩
        . rw[q]at z;cases z
        . let z2:=un.frzs b ob _ z;let%[e1|_]:=hok b _ z;let%[e2|_]:=hok' b _ z2;rw[e]at e1;cases e1;exact e2
 cases hk:K.lookup a with
 |some o=>
   let e:=KX a o hk;rw[ha]at e;cases e;apply core (λ_=>none) (λ_=>.inl rfl) (.inr %[_,vs.toArray,_,hk,1,1,1,by rw[zT0,lenV];exact hl|by simpa using rv]) (λb u z=>by let z':(none:Option HO)=some u:=z;cases z') (λb z=>absurd rfl z) λz=>absurd rfl z
 |none=>
   apply core (λb=>if b=a then some (.frz { cls:=.type "list",data:=.seq vs.toArray } (.lst (ns.map V.int)))else none) (λb=>?_) (.inl (.inr %[{ cls:=.type "list",data:=.seq vs.toArray }|O9 rfl])) (λb u z=>?_) (λb z=>?_) λ_=>hk
   . by_cases hb:b=a
     . exact .inr %[_,_|O9 hb]
     . exact .inl (O8 hb)
   . by_cases hb:b=a
     . let z':=(O9 hb).symm.trans z;cases z';subst hb;erw[ha,by rw[zF0];exact hl,vs,_,rv,ha]
     . let z':=(O8 hb).symm.trans z;cases z'
   . by_cases hb:b=a
     . exact hb
     . exact absurd (O8 hb) z
def walk_of{l:PySem.W.OpenLaw}{n:Nat}{q:Program}{loose:List Str}{XP:(#[9])->Heap->Prop}{YP:World->Heap->Prop}{d:DefRec}{K:Params->PySem.W.Frag}{CX:World->CXT}{sp:World->Sp}{x:Str}
 (hn:l.most=some n)(hn2:n<=sizeLine)(hdf:d.params.defaults=[])(hr:Room k callerA)
 (hY:∀(w:World)(h:Heap),YP w h->(K w.params).In h)
 (F:∀(w:World)(mg:#[9])(fa:Addr)(h:Heap),(K w.params).In h->h.Ns mainGlobals mg->mg d.name=some (.ref fa) ->
  ∃ fd:FuncData,(∀(s:Shared)(u:Value),BindsTo s fd %[[u]|[]] [(x,u)])/\
   ∀base:Heap,(K w.params).In base->base.Ns mainGlobals mg->FnOk l.prog w (K w.params) mg base (CX w) k fa fd [x] (sp w))
 (hsp:∀(w:World)(H:Hp)(a:Addr)(ns:List Int),ns.length<=n->Ly H->SqL (K w.params) H a (ns.map V.int)->sp w [.ref a] H (λv _=>v=.bl true) λ_ _ _=>False)
 (hCX:∀(w:World)(H:Hp)(s:Shared)(e:Value)(s':Shared),CX w [] H s (λ_ _ _=>False) e s'->False) :
 PySem.W.WalkO q loose XP YP l.row.toRowW d [] (λf vs=>PySem.call f vs):=by
 apply Att.attach_call hn hdf λw s₀ s₁ mg mb fa o pm cd doc a vs ns G Y ho hd hcd hmg hobj hints hlen hg=>?_
 let KX:=hY w _ Y;let%[fd,hb|hF]:=F w mg fa _ KX G.T.g hmg;exact FW KX G.T.g G.T.b G.T.builtins G.T.nolimit hg hobj hints (zP0 hlen hn2) hr hF hb (λH hO hS=>hsp w H a ns hlen hO hS) λH e s'=>hCX w H s₁ e s'
end L2
namespace L2
open PySem PySem.Spec PyProof.Rows
def bn(s:Stmt)(j:Nat):Stmt:=match s with
 |.ClassDef _ _ _ body _ _ _ _ _ _ _=>body.getD j (.Pass %[(0),(0),(0)|(0)])
 |_=>.Pass %[(0),(0),(0)|(0)]
def km(s:Stmt):Arguments:=match s with
 |.FunctionDef _ a _ _ _ _ _ _ _ _=>a
 |_=>{ posonlyargs:=[],args:=[],vararg:=none,kwonlyargs:=[],kw_defaults:=[],kwarg:=none,defaults:=[] }
def gN(s:Stmt):List Stmt:=match s with
 |.FunctionDef _ _ b _ _ _ _ _ _ _=>b
 |_=>[]
def aj(s:Stmt):Scope:=match s with
 |.FunctionDef _ _ _ _ _ _ sc _ _ _=>sc
 |_=>{ kind:=.function,names:=[],isGenerator:=false,isCoroutine:=false }
abbrev CX0:CXT:=λ_ _ _ _ _ _=>False
abbrev E0:XK:=λ_ _ _=>False
def aZ:nO CX0 X E0:=λ_ _ _ _ _ _ _ h=>h.elim
structure Fun(K:W.Frag)(x qual:Str)(st:Stmt)(f:Addr)(fd:FuncData):Prop where
 ex:∃(oc:Value)(od:Option Addr)(kV doc pm:Value)(an:Option Addr)(cdv ct:Value)(osl:Array (Option Value)),
  fd=PySem.W.fnOf x qual (km st) (gN st) (aj st) .none kV doc pm an cdv ct/\K.lookup f=some %[oc,od,.func fd|osl]/\PySem.W.codeIn K cdv qual=true
 kp:PySem.W.keepIn K (.ref f)=true
section
variable {P:Program}{w:World}{K:W.Frag}{mg:#[9]}{base:Heap}
def Fun.ok{st:Stmt}{sp:Sp}(F:Fun K x qual st f fd)(S:FnScope N ps (aj st))(len:∀vs H Q E,sp vs H Q E->vs.length=ps.length)
 (hbody:∀(cdv:Value)(A:Around)(outer:List Env)(s:Shared)(H:Hp)(vs:List V)(Q:VK)(E:XK),Room k (A.deeper (envOfC qual (aj st) ‹s› f cdv))->sp vs H Q E ->
  ∃t,PSs (DB CX0 P w K mg base N qual (aj st) f cdv A outer s H E).nox (gN st) t/\t { nx:=λ_ H'=>Q .non H',rt:=Q } (qo N vs) H):FnOk P w K mg base CX0 (k+1) f fd ps sp:=by
 erw[oc,od,kV,doc,pm,an,cdv,ct,osl,1,lk,hcd]at F.ex;apply fn_of lk hcd S len λA outer s H vs Q E hr hsp=>?_
 let%[t,h|q]:=hbody cdv A outer s H vs Q E hr hsp;erw[t,h.nox,q]
def Fun.binds{st:Stmt}{ps:List Str}(F:Fun K x qual st f fd)
 (h:∀(kV doc pm:Value)(an:Option Addr)(cdv ct:Value)(us:List Value),us.length=ps.length->bindArgs (PySem.W.fnOf x qual (km st) (gN st) (aj st) .none kV doc pm an cdv ct) %[us|[]]=pure (ps.zip us)):Binds K fd ps []:=by
 erw[oc,od,kV,doc,pm,an,cdv,ct,osl,1,lk,hcd]at F.ex;exact .all (h kV doc pm an cdv ct)
def KR{x qual:Str}{st:Stmt}{f:Addr}{oc:Value}{od an:Option Addr}{osl:Array (Option Value)}{kV doc pm cdv ct:Value}(l:K.lookup f=some %[oc,od,.func (PySem.W.fnOf x qual (km st) (gN st) (aj st) .none kV doc pm an cdv ct)|osl])
 (c:PySem.W.codeIn K cdv qual=true)(k:PySem.W.keepIn K (.ref f)=true):Fun K x qual st f (PySem.W.fnOf x qual (km st) (gN st) (aj st) .none kV doc pm an cdv ct):=%[%[oc,od,kV,doc,pm,an,cdv,ct,osl,1,l|c]|k]
end
def JH(hr:Room k A):A.units+1<cLine:=zJ1 (Nat.add_le_add_left (by decide:1<=64) _) hr.units
def aN{n:Nat}(h:n<=1000):n<sizeLine:=zJ1 h ⋯
section
variable {X:Cx}
def pv(i:Nat){x:Str}{pos:Pos}(hN:X.N[i]?=some x:=by rfl)(hv:Vis X.env.scope x:=by first | exact Or.inl rfl | exact Or.inr (.inl rfl) | exact Or.inr (Or.inr rfl))(hd:(x==("__debug__":Str))=false:=by decide)
 (hcd:(x==("__classdict__":Str))=false:=by decide):PE X (.Name x pos) (tVar i):=Kp hN hv hd hcd
end
def cE{A B:Prop}(h:B):if false=true then A else B:=by
 rw[O8 qH0];exact h
def du{A B:Prop}(h:A):if true=true then A else B:=by
 rw[O9 rfl];exact h
def wO{c A B:Prop}[Decidable c](h1:c->A)(h2:¬ c->B):if c then A else B:=by
 by_cases h:c
 . rw[O9 h];exact h1 h
 . rw[O8 h];exact h2 h
def yq{c A B:Prop}[Decidable c](hc:c)(h:B):if(!decide c)=true then A else B:=by
 rw[zC1 hc];exact cE h
def Same(H H':Hp):Prop:=∀b o,H b=some o->H' b=some o
def Same.refl(H:Hp):Same H H:=λ_ _ h=>h
def Same.trans(a:Same H H1)(b:Same H1 H2):Same H H2:=λc o h=>b c o (a c o h)
def Same.free(e:Same H H'){l:Addr}(h:H' l=Option.none):H l=Option.none:=by
 cases q:H l with
 |none=>rfl
 |some o=>
   rw[e l o q]at h;cases h
def Same.seq{K:W.Frag}(e:Same H H')(h:SqL K H a xs):SqL K H' a xs:=by
 rcases h with(h | ⟨o,h⟩) | h
 . exact .inl (.inl (e _ _ h))
 . exact .inl (.inr %[o|e _ _ h])
 . exact .inr h
end L2
set_option maxHeartbeats 4000000
namespace L2
open PySem PySem.Spec PyProof.Rows
section
variable {X:Cx}
instance rIsi(K:W.Frag)(xs:List V)(H:Hp)(Q:VK):∀x t n b,xs=[x,.ty n]->TyOf K H x t->PySem.W.kitOne K t (.type n)=some b->Q (.bl b) H:=0
def dG:fL X (.builtin "isinstance") (rIsi X.K):=by
 exists 4,xs,us,Q,I,r,h;erw[x,t,n,b,1,ty,e,q]at h;let%[u,w',1,r1|r2]:=DP r;cases r2;exact Dk I r1 ty e (λtk=>%[.bl b,H,I.tok tk,1|q])
def jq(K:W.Frag)(n:String):PySem.W.kitOne K (.type n) (.type n)=some true:=by
 unfold PySem.W.kitOne;rw[O9 #[2]]
def oS(K:W.Frag):PySem.W.kitOne K (.type "int") (.type "bool")=some false:=by
 show(if((Value.type "int"==Value.type "bool")=true)then some true else if PySem.W.kitMeta "bool"=true then((fastBuiltinMro "int").map (·.contains (.type "bool")))else none)=some false;decide
def CDivL(_ j:Int):Prop:=0<j/\j<2 ^ 63
def Fc:OpR X (binaryOp .FloorDiv) (rI CDivL λi j=>.int (i / j)):=opI λi j _ _ _ _ _ hc q=>by
 let e:Int.fdiv i j=i / j:=jT1 i (Int.le_of_lt hc.1);rw[←e]at q;apply floordiv_int (by have:=hc.1;omega) q (.inl (PyProof.noPylong_of_log2 ?_));let h1:=hc.1;let h2:=hc.2;let h3:j.natAbs<2 ^ 63:=#[0]
 let h4:=(Nat.log2_lt (n:=j.natAbs) (k:=63) #[0]).mpr h3;omega
end
def ma:bootBuiltins "int"=some (.type "int"):=by decide
def ub:bootBuiltins "bool"=some (.type "bool"):=by decide
def ky:bootBuiltins "list"=some (.type "list"):=by decide
def bi:bootBuiltins "tuple"=some (.type "tuple"):=by decide
def ua:bootBuiltins "reversed"=some (.type "reversed"):=by decide
structure Cal(P:Program)(w:World)(K:W.Frag)(mg:#[9])(base:Heap)(n:Nat)(x:Str)(ps:List Str)(sp:Sp):Prop where
 ex:∃(f:Addr)(fd:FuncData),FnOk P w K mg base CX0 n f fd ps sp/\Binds K fd ps []/\PySem.W.keepIn K (.ref f)=true/\mg x=some (.ref f)
def ax{X:Cx}{e:Expr}{es:List Expr}{p pos:Pos}(C:Cal X.prog X.w X.K X.mg X.base n x ps sp)(hr:Room k X.A)(hk:n<=k)(hg:Gl X x)
 (ha:PA X (e::es) t)(hdb:(x==("__debug__":Str))=false:=by decide)(he:starEach (e::es) X.env=(false,eval e X.env)::starEach es X.env:=by rfl)(hpl:(backTo pos (starEach es X.env)).any (·.1)=false:=by rfl):
 PE X (.Call (.Name x p) (e::es) [] pos) (Jt sp [] E0 t):=by
 erw[f,fd,F,b,kp,m]at C.ex;exact Ip F (hr.mono hk) hg m kp b .nil aZ ha hdb he hpl
def Cal.of{P:Program}{w:World}{K:W.Frag}{mg:#[9]}{base:Heap}{n:Nat}{x qual:Str}{ps:List Str}{sp:Sp}{st:Stmt}{f:Addr}{fd:FuncData}(F:Fun K x qual st f fd)(O:FnOk P w K mg base CX0 n f fd ps sp)(m:mg x=some (.ref f))
 (h:∀(kV doc pm:Value)(an:Option Addr)(cdv ct:Value)(us:List Value),us.length=ps.length->bindArgs (PySem.W.fnOf x qual (km st) (gN st) (aj st) .none kV doc pm an cdv ct) %[us|[]]=pure (ps.zip us)):Cal P w K mg base n x ps sp:=
 %[f,fd,O,F.binds h,F.kp|m]
def iteN{c A B:Prop}[Decidable c](hc:¬ c)(h:A):if(!decide c)=true then A else B:=by
 rw[zB1 hc];exact du h
def aW{c A B:Prop}[Decidable c](hc:c)(h:A):if decide c=true then A else B:=by
 rw[zC1 hc];exact du h
def aE{c A B:Prop}[Decidable c](hc:¬ c)(h:B):if decide c=true then A else B:=by
 rw[zB1 hc];exact cE h
def SameBut(f:Addr)(H H':Hp):Prop:=∀b o,b≠f->H b=some o->H' b=some o
def SameBut.trans(a:SameBut f H H1)(b:SameBut f H1 H2):SameBut f H H2:=λc o h e=>b c o h (a c o h e)
def SameBut.refl(f:Addr)(H:Hp):SameBut f H H:=λ_ _ _ h=>h
def zM0{f:Addr}{H H':Hp}(h:Same H H'):SameBut f H H':=λb o _ e=>h b o e
abbrev SameBut.of:=@zM0
def SameBut.upd(o:HO):SameBut f H (upd H f o):=λb u h e=>by rw[aD h];exact e
def zE0{H:Hp}{p:Addr}(h:H p=none)(o:HO):Same H (upd H p o):=λb u q=>by rw[aD (aO q h)];exact q
abbrev Same.new:=@zE0
def Same.but{f:Addr}(a:Same H0 H)(n:H0 f=none)(b:SameBut f H H'):Same H0 H':=λc o e=>b c o (aO e n) (a c o e)
def FeedAt(H:Hp)(f:Addr):Prop:=∃own st:Int,H f=some (.lst [.int own,.int st])/\0<=own/\0<=st/\st<=2147483646
def FeedAt.ne{b:Addr}(F:FeedAt H f)(h:H b=none):b≠f:=by
 erw[o,s,e,_]at F;intro z;subst z;rw[h]at e;cases e
def FeedAt.same(F:FeedAt H f)(s:Same H H'):FeedAt H' f:=by
 erw[o,t,e,h]at F;erw[o,t,s _ _ e,h]
instance spTake:∀(f:Addr)(m:Int),vs=[.ref f,.int m]->FeedAt H f->0<m->m<2 ^ 63->(∀(d:Int)(H':Hp),0<=d->d<m->FeedAt H' f->SameBut f H H'->Q (.int d) H'):=1
instance spFeed(K:W.Frag):∀(a:Addr)(ns:List Int)(k:Int),vs=[.ref a,.int k]->SqL K H a (ns.map V.int)->ns.length<=63->0<=k->k<1000000->(∀(p:Addr)(H':Hp),H p=none->Same H H'->FeedAt H' p->Q (.ref p) H'):=1
instance spLaw(K:W.Frag):∀(a:Addr)(ns:List Int),vs=[.ref a]->SqL K H a (ns.map V.int)->ns.length<=63->(∀H',Q (.bl true) H'):=1
def cx{n:Nat}(h:n<=1000):n<=sizeLine:=wV1 (aN h)
def Hn{ns:List Int}{k:Int}(h0:0<=k)(h:k<(ns.length:Int)):∃v:Int,atI (ns.map V.int) k=some (.int v):=by
 let hk:k.toNat<ns.length:=#[0]
 let q:atI (ns.map V.int) ((k.toNat:Nat):Int)=some (.int ns[k.toNat]):=cu (by rw[zY0,zL0 hk] <;> rfl);let ek:((k.toNat:Nat):Int)=k:=#[0]
 rw[ek]at q;erw[_,q]
@[reducible] def ia (X:Cx) (N:List Str) (scope:Scope) (cl:List (Str×Addr)) (s:Shared) (H:Hp) (fp:List Addr):Cx where
 prog:=X.prog
 w:=X.w
 K:=X.K
 mg:=X.mg
 base:=X.base
 A:=X.A
 N:=N
 s₀:=s
 H₀:=H
 env:=compEnvC scope cl ‹s› X.env
 outer:=X.stack
 stack:=X.stack
 ex:=fp
 fn:=λ_=>false
 calm:=X.calm
 pn:=[]
 xe:=λ_ _=>False
structure CompScope(X:Cx)(x:Str)(N:List Str)(ix:List Nat)(scope:Scope)(cl:List (Str×Addr)):Prop where
 clos:closureFor scope X.env=pure cl
 nocell:∀y∈scope.names,y.2≠.cell
 kind:scope.kind=.function
 names:∀y∈scope.names,y.2=.local->scope.names.lookup y.1=some .local
 own:scope.names.lookup x=some .local
 nd:(x::N).Nodup
 sub:∀p∈cl,X.env.cells.lookup p.1=some p.2
 has:((relabel scope X.env).names.all λp=>!(p.2==.cell||p.2==.free)||(cl.lookup p.1).isSome)=true
 outs:∀(j:Nat)(y:Str),N[j]?=some y->(relabel scope X.env).names.lookup y=some .cell/\∃k c,ix[j]?=some k/\X.N[k]?=some y/\cl.lookup y=some c/\X.env.scope.names.lookup y=some .cell
def outs(ix:List Nat)(σ:St):St:=ix.map λk=>(σ[k]?).join
section
variable {X:Cx}{O7:#[7]}{σ:St}{x:Str}{N:List Str}{ix:List Nat}{scope:Scope}{cl:List (Str×Addr)}{fp:List Addr}{H3:Hp}{s3:Shared}
def CompScope.cells(S:CompScope X x N ix scope cl){y:Str}{c:Addr}(h:cl.lookup y=some c):X.env.cells.lookup y=some c:=S.sub _ (qG1 h)
def wX{M:List Str}(S:CompScope X x N ix scope cl)(I3:#[8] H3 s3)(hf:∀b∈fp,jh X O7 H3 b)(Pc:∀b∈fp,b<‹s3›):(ia X M scope cl s3 H3 fp).Ok where
 mod:=I3.ok.mod
 kind:=S.kind
 glob:=I3.ok.glob
 blt:=I3.ok.blt
 above:=zH0 _
 inj:=λy z c h1 h2=>I3.ok.inj y z c (S.cells h1) (S.cells h2)
 has:=λy hy=>by
  let q:=List.all_eq_true.mp S.has;let hy:(relabel scope X.env).names.lookup y=some .cell∨(relabel scope X.env).names.lookup y=some .free:=hy;let z:∀k:NameKind,(k==.cell||k==.free)=true->(relabel scope X.env).names.lookup y=some k->∃c,cl.lookup y=some c:=λk hk e=>by
   let r:=q _ (qG1 e);rw[hk]at r;exact Option.isSome_iff_exists.mp #[r,0]
  rcases hy with e | e
  . exact z _ (by rfl) e
  . exact z _ (by rfl) e
 cab:=λ_ _ h _=>nomatch h
 hd:=I3.ok.hd
 frames:=I3.ok.frames
 stk:=.inl rfl
 exf:=λb hb=>%[zV0 (Pc b hb)|λy c e=>(hf b hb).2.2.2.2.1 y c (S.cells e)]
 bs:=λb o e=>I3.bs b o e
 bsz:=zP0 I3.ok.bsz I3.sz
 noex:=λb o e hb=>by
  rcases(hf b hb).2.2.2.1 with z | z
  . exact I3.ok.noex b o e z
  . exact absurd (qQ0 (zN0 e) (zP0 I3.ok.bsz z)) (qS0 _)
 exfs:=λb hb z=>by
  rcases zX0 (I3.stkSub b z)with e | e
  . exact(hf b hb).2.1 e
  . exact(hf b hb).2.2.1 e
 funs:=I3.stack
 frf:=I3.stkFree
def tX(pre:List Str)(S:CompScope X x N ix scope cl)(I3:#[8] H3 s3)(hf:∀b∈fp,jh X O7 H3 b)(Pc:∀b∈fp,b<‹s3›)(hix:ix.length=N.length){h1:Heap}{t':Nat}{m:#[9]}
 (hn:h1.Ns ‹s3› m)(hk:∀b o,s3.heap.get? b=some o->h1.get? b=some o):Inv (ia X (pre++N) scope cl s3 H3 fp) [] (List.replicate pre.length none++outs ix σ) H3 { s3 with heap:=h1,toks:=t' } where
 ok:=wX S I3 hf Pc
 os:=rfl
 bare:=I3.bare
 base:=Un.kept hk
 loc:=by
  erw[m,hn,λi y v h1' h2 h3=>?_];let h1'':(pre++N)[i]?=some y:=h1';let h2':(List.replicate pre.length none++outs ix σ)[i]?=some (some v):=h2
  by_cases hi:i<pre.length
  . rw[zU1 (by rw[zR1];exact hi),List.getElem?_replicate,O9 hi]at h2';cases h2'
  . let hj:=Nat.le_of_not_lt hi;rw[zK1 hj]at h1'';rw[zK1 (by rw[zR1];exact hj),zR1]at h2';generalize i-pre.length=j at h1'' h2';let%[hr,k,c,e1,e2,e3|e4]:=S.outs j y h1'';unfold outs at h2';rw[zY0,e1]at h2';let h2'':(σ[k]?).join=some v:=zS0 h2';let e5:σ[k]?=some (some v):=by
     cases q:σ[k]? with
     |none=>rw[q]at h2'';cases h2''
     |some o=>rw[q]at h2'';exact congrArg some h2''
    erw[m0,_,hl]at I3.loc;let%[u,r|l]:=hl k y v e2 e5 (.inr (.inl e4));erw[u,r,.inr %[.inl hr,c,e3|6]];rcases l with⟨kk,_⟩ | ⟨_,c',ec,z⟩
    . let kk':X.env.scope.names.lookup y=some .local:=kk;rw[e4]at kk';cases kk'
    . rw[S.cells e3]at ec;cases ec;erw[o,ho,hd]at z;erw[o,hk _ _ ho,hd]
 cell:=λy c e=>by
  let%[v,o,ho|hd]:=I3.cell y c (S.cells e);erw[v,o,hk _ _ ho,hd]
 free:=I3.hok.fresh (zH0 _)
 freeC:=λy c e=>I3.freeC y c (S.cells e)
 pin:=λp hp=>absurd (show p∈([]:#[7])from hp) #[2]
 hok:=I3.hok.kept hk
 len:=by
  show(List.replicate pre.length (none:Option V)++outs ix σ).length=(pre++N).length
  simp [outs,hix]
def vc(I3:#[8] H3 s3)(hf:∀b∈fp,jh X O7 H3 b){σ':St}{h'':Heap}{N':List Str}(J:Inv (ia X N' scope cl s3 H3 fp) [] σ' H' s')(hb:Heap.SameBut ‹s3› s'.heap h''):
 #[8] H' { s' with heap:=h'' }:=by
 let ne:∀b o,s3.heap.get? b=some o->b≠‹s3›:=λb o e=>zV0 (zN0 e)
 let B:Un (frs X.stack) fp H3 H' s3.heap s'.heap:=J.base;apply I3.call' (s':={ s' with heap:=h'' }) (ch:=fp) J.os ⟨λb o e n h1 h2=>(hb.2 b (ne b o e)).trans (B.keep b o e n h1 h2),λb o e n h1 h2=>?_,B.free,λb o e h2=>?_,B.tups,B.frzs,B.tbls⟩ (λb ob e=>?_) J.bare (λb z=>?_)
 . let%[sl|q]:=B.slot b o e n h1 h2;erw[sl,(hb.2 b (ne b o e)).trans q]
 . let%[o'|q]:=B.there b o e h2;erw[o',(hb.2 b (ne b o e)).trans q]
 . let fr:H' ‹s3›=none:=J.free;refine(J.hok b ob e).stay (λc w' hc q=>(hb.2 c ?_).trans q) (λ_ q=>q) λ_ _ q=>q
   rintro rfl;rcases hc with rfl | hc
   . rw[fr]at e;cases e
   . rw[fr]at hc;cases hc
 . let%[_,h2,_,h4,h5|h6]:=hf b z;erw[h4,h2,h5,h6]
end
abbrev TBl:=St->Hp->(Hp->Prop)->VK->Prop
def PB(X:Cx)(ifs:List Expr)(elt:Expr)(tb:TBl):Prop:=
 ∀(O7:#[7])(s:Shared)(σ:St)(H:Hp)(skip:Hp->Prop)(keep:VK),#[8] H s->tb σ H skip keep ->
  ‹X.w› (forIn ifs true λc r=>if r=true then do let ok ←isTrue c X.env (eval c X.env);pure (ForInStep.yield ok)else pure (ForInStep.yield r))
   (λok s3=>if ok=true then ‹X.w› (eval elt X.env) (EP X O7 σ keep) X.xe s3 else ∃H',#[8] H' s3/\skip H') X.xe s
def tB0(te:TE):TBl:=λσ H _ keep=>te σ H keep
def tB1(tc:TT)(te:TE):TBl:=λσ H skip keep=>tc σ H λb H1=>if b=true then te σ H1 keep else skip H1
def cg(he:PE X elt te):PB X [] elt (tB0 te):=by
 exists 4,skip,keep,I,h;apply wpAny_tests_nil ?_;rw[O9 rfl];exact he O7 s σ H keep I h
def EX(hc:PT X c tc)(he:PE X elt te):PB X [c] elt (tB1 tc te):=by
 exists 4,skip,keep,I,h;apply wpAny_tests_one (thn (hc O7 s σ H _ I h) λb s1 ⟨H1,I1,q1⟩=>?_);cases b with
 |true=>
   rw[O9 rfl]at q1 ⊢;exact he O7 s1 σ H1 keep I1 q1
 |false=>
   rw[O8 ⋯]at q1 ⊢;erw[H1,I1,q1]
def ug(J:It)(D:Addr)(ix:List Nat)(tb:TBl)(σ:St)(H:Hp)(Q:VK):Prop:=∃W:Nat->Nat->Hp->Prop,(∃m,W 0 m (upd H D (.lst [])))/\∀i m H2,W i m H2 ->
 (J.stop i H2/\Q (.ref D) H2)∨(J.go i H2/\∀y H3,J.yld i H2 y H3->tb (some y::outs ix σ) H3 (λH4=>∃m',m'<m/\W (i+1) m' H4)
  λz H4=>∃ys,H4 D=some (.lst ys)/\ys.length<sizeLine/\∃m',m'<m/\W (i+1) m' (upd H4 D (.lst (ys++[z]))))
def yY(wi:TI)(ix:List Nat)(tb:TBl):TE:=λσ H Q=>wi σ H λJ H1=>∀D,H1 D=none->ug J D ix tb σ H1 Q
section
variable {prog:Program}{w:World}{A:Around}{E:#[6]}{R:Result->Shared->Prop}{s:Shared}
def yE{elt target iter:Expr}{ifs:List Expr}{scope:Scope}{pos:Pos}{it acc:Value}{env:Env}(I:Nat->Shared->Prop)
 (turn:∀n s,I n s->‹w.A› (pyNext it) (λr s1=>match r with
  |none=>R (.ok .next) s1
  |some v=>‹w.A› (letOwnedTupleGo target it v) (λ_ s1'=>‹w.A› (assign target env v) (λ_ s2=>
   ‹w.A› (forIn ifs true λc r=>if r=true then do let ok ←isTrue c env (eval c env);pure (ForInStep.yield ok)else pure (ForInStep.yield r)) (λok s3=>
    if ok=true then ‹w.A› (eval elt env) (λx s4=>
     ‹w.A› (call (.builtin "list.append") [acc,x]) (λ_ s5=>∃m,m<n/\I m s5) (λ_ _=>False) s4) (λ_ _=>False) s3
    else ∃m,m<n/\I m s3) (λ_ _=>False) s2) (λ_ _=>False) s1') (λ_ _=>False) s1) (λ_ _=>False) s)
 (n:Nat) (h:I n s) :
 codeAny (model prog w) A (.compLoop (.ListComp elt [%[target,iter,ifs|(0)]] scope pos) 0 it acc env) R s:=by
 let up:∀{α:Type}{t:Sem α}{Q Q':α->Shared->Prop}{E':#[6]}{s:Shared},‹w.A› t Q (λ_ _=>False) s->(∀a s,Q a s->Q' a s)->‹w.A› t Q' E' s:=
  λh q=>jS0 h q λ_ _ f=>f.elim
 apply codeAny_loop rfl I (λn s hI=>?_) n h;show wpAny _ A ((compTurn (.ListComp elt [%[target,iter,ifs|(0)]] scope pos) 0 it acc env).onRaise (λx=>do noteFrame x env;theTreesLotGoes x)) _ _ s;apply wpAny_noted ?_;rw[compTurn_list];apply zD0 (wpAny_standAt (zD0 (up (turn n s hI) λr s1 h1=>?_)));cases r with
 |none=>exact zI0 h1
 |some v=>
   apply zD0 (up h1 λ_ s1' h1'=>?_);apply zD0 (up h1' λ_ s2 h2=>zD0 (up h2 λok s3 h3=>?_));cases ok with
   |false=>exact zI0 %[1|h3]
   |true=>
     exact zD0 (zD0 (up h3 λx s4 h4=>zD0 (up h4 λ_ s5 h5=>zI0 (zI0 %[1|h5]))))
end
def qf{Y:Cx}{iter:Expr}{scope:Scope}{pos:Pos}{D:Addr}{R:Result->Shared->Prop}{Pf:St->Prop}{W:Nat->Nat->Hp->Prop}{σ0:St}{m0:Nat}
 (hc:Y.calm=true)(hx:∀v s,Y.xe v s->False)(T:Turn Y.prog Y.w Y.K tgt J fp it tn)(hg:PG Y tgt g)(hb:PB Y ifs elt tb)(stat:∀{H':Hp},(∀b∈fp,H' b=none)->∀b∈fp,jh Y [] H' b)
 (turn:∀i m H2,W i m H2->(J.stop i H2/\∀ σ' s',Pf σ'->Inv Y [] σ' H2 s'->R (.ok .next) s')∨(J.go i H2/\∀y H3,J.yld i H2 y H3->∀ σ',Pf σ'->g y σ' H3 λσ8 H8=>Pf σ8/\tb σ8 H8 (λH4=>∃m',m'<m/\W (i+1) m' H4)
  λz H4=>∃ys,H4 D=some (.lst ys)/\ys.length<sizeLine/\∃m',m'<m/\W (i+1) m' (upd H4 D (.lst (ys++[z])))))
 (p0:Pf σ0) (I0:Inv Y [] σ0 H0 s0) (st0:tn 0 s0.heap) (f0:∀b∈fp,H0 b=none) (w0:W 0 m0 H0) :
 codeAny (model Y.prog Y.w) Y.A (.compLoop (.ListComp elt [%[tgt,iter,ifs|(0)]] scope pos) 0 (.ref it) (.ref D) Y.env) R s0:=by
 apply yE (λn s'=>∃i σ' H',Pf σ'/\Inv Y [] σ' H' s'/\tn i s'.heap/\(∀b∈fp,H' b=none)/\W i n H') ?_ m0 %[(0),_,_,p0,I0,st0,f0|w0];rintro n s5 ⟨i,σ5,H5,p5,I5,st5,fr5,w5⟩;rcases turn i n H5 w5 with⟨stop,qn⟩ | ⟨go,step⟩
 . apply thn (T.done Y rfl rfl rfl hc i [] s5 _ H5 _ I5 (stat fr5) st5 stop) λr s6 ⟨hr,I6⟩=>?_
   subst hr;exact qn _ _ p5 I6
 . apply thn (T.item Y rfl rfl rfl hc i [] s5 _ H5 _ I5 (stat fr5) st5 go) λr s6 ⟨u,hr,h6⟩=>?_
   subst hr;apply thn h6 λ_ s7 ⟨y,H7,I7,r7,y7,st7,fr7⟩=>?_
   apply jS0 (hg _ s7 _ H7 y u _ (I7.pinned (stat fr7) (T.obj _ _ st7)) r7 (step y H7 y7 _ p5)) (λ_ s8 ⟨σ8,H8,I8,p8,q8⟩=>?_) hx;let again:∀{H9:Hp}{s9:Shared},Inv Y ([]++sP fp s7.heap) σ8 H9 s9->(∃m',m'<n/\W (i+1) m' H9) ->
    ∃m,m<n/\∃i σ' H',Pf σ'/\Inv Y [] σ' H' s9/\tn i s9.heap/\(∀b∈fp,H' b=none)/\W i m H':=fun{H9 s9} I9 ⟨m',hm,w9⟩=>by
    erw[m',hm,i+1,_,H9,p8,I9.unpinned,T.keep _ _ _ st7 λb hb o e=>(I9.pin (b,o) (qU0 _ (qU0 _ (kf hb e)))).1,λb hb=>?_,w9];let%[o,e|d]:=T.obj _ _ st7 b hb;exact(I9.pin (b,o) (qU0 _ (qU0 _ (kf hb e)))).2.1
   apply jS0 (hb _ s8 _ _ _ _ I8 q8) (λok s9 q9=>?_) hx;cases ok with
   |false=>
     rw[O8 ⋯]at q9 ⊢;erw[H9,I9,q9]at q9;exact again I9 q9
   |true=>
     rw[O9 rfl]at q9 ⊢;apply jS0 q9 (λu s10 ⟨z,H10,I10,r10,ys,hy,hz,q10⟩=>?_) hx;apply jS0 (cY _ s10 _ H10 (.ref D) [z] (.ref D) [u] (λ_ H'=>∃m',m'<n/\W (i+1) m' H') I10 rfl (.cons r10 .nil) %[_,ys,z,1,1,hy,hz|q10]) (λ_ s11 ⟨_,H11,I11,_,q11⟩=>?_) hx;exact again I11 q11
structure Apart(X:Cx)(O7:#[7])(H:Hp)(C:Addr):Prop where
 fr:H C=none
 lo:C≠X.env.locals
 sz:X.s₀.heap.objs.size<=C
 ce:∀y c,X.env.cells.lookup y=some c->c≠C
 pi:∀p∈X.pn++O7,p.1≠C
def Apart.turn{σ:St}{h':Heap}(a:Apart X O7 H C)(I:#[8] H s)(hs:Heap.SameBut C s.heap h'):#[8] H { s with heap:=h' }:=
 I.turned (t':=s.toks) (λb o ne e=>(hs.2 b ne).trans e) a.fr a.lo (.inr a.sz) a.ce a.pi
section
variable {X:Cx}{x:Str}{N:List Str}{ix:List Nat}{scope:Scope}{cl:List (Str×Addr)}{elt iter:Expr}{ifs:List Expr}{px pos:Pos}{wi:TI}{tb:TBl}
def yB(hc:X.calm=true)(S:CompScope X x N ix scope cl)(hix:ix.length=N.length)(hb:∀s3 H3 fp,PB (ia X (x::N) scope cl s3 H3 fp) ifs elt tb)
 {σ:St}{Q:VK}{fp:List Addr}{RR:Value->Addr->Result->Shared->Prop}{E:#[6]}
 (I2:#[8] H2 s2)(T:Turn X.prog X.w X.K (.Name x px) J fp it tn)(st2:tn 0 s2.heap)(f2:∀b∈fp,jh X O7 H2 b)
 (h:∀D,H2 D=none->∃W:Nat->Nat->Hp->Prop,(∃m,W 0 m (upd H2 D (.lst [])))/\∀i m H3,W i m H3 ->
  (J.stop i H3/\Q (.ref D) H3)∨(J.go i H3/\∀y H4,J.yld i H3 y H4->tb (some y::outs ix σ) H4 (λH5=>∃m',m'<m/\W (i+1) m' H5)
   λz H5=>∃ys,H5 D=some (.lst ys)/\ys.length<sizeLine/\∃m',m'<m/\W (i+1) m' (upd H5 D (.lst (ys++[z])))))
 (hRR:∀(D C:Addr)(H':Hp)(s':Shared)(m:#[9]),s'.heap.Ns C m->Apart X O7 H' C->#[8] H' s'->Q (.ref D) H'->RR (.ref D) C (.ok .next) s') :
 ‹X.w› (newList []) (λacc s3=>‹X.w› (newFunctionEnv scope X.env.globals cl [] X.env.qual none .none (some X.env)) (λcenv s4=>
  codeAny (model X.prog X.w) X.A (.compStart (.ListComp elt [%[.Name x px,iter,ifs|(0)]] scope pos) 0 (.ref it) acc { cenv with scope:=relabel scope X.env }) (RR acc cenv.locals) s4) E s3) E s2:=by
 apply zP1 (wpAny_newFunctionEnv S.nocell (by intro y hy;simp at hy) (λh1 hns1 hsb1=>?_) S.kind)
 dsimp only at hns1 hsb1 ⊢
 let I3:#[8] (upd H2 ‹s2› (.lst [])) { s2 with heap:=s2.heap.push { cls:=.type "list",dict:=none,data:=.seq ([]:List Value).toArray } }:=I2.lnew (its:=[]) (ys:=[]) (t':=s2.toks) .nil (zW0 _);let hD:H2 ‹s2›=none:=I2.fresh;let%[W,%[m0|w0]|turn]:=h ‹s2› hD;let hltF:∀b∈fp,b<‹s2›:=λb hb=>by
  let%[o,e|_]:=T.obj 0 _ st2 b hb;exact zN0 e
 generalize hs3:({ s2 with heap:=s2.heap.push { cls:=.type "list",dict:=none,data:=.seq ([]:List Value).toArray } }:Shared)=s3 at I3;let eh:s2.heap.push { cls:=.type "list",dict:=none,data:=.seq ([]:List Value).toArray }=s3.heap:=by rw[←hs3]
 let et:s2.toks=s3.toks:=by rw[←hs3]
 rw[eh]at hns1 hsb1 ⊢;let sz3:‹s3›=‹s2›+1:=by rw[←eh,jF1]
 let hlt3:∀b∈fp,b<‹s3›:=λb hb=>qQ0 (hltF b hb) (by rw[sz3];exact qO0 _)
 let f3:∀b∈fp,jh X O7 (upd H2 ‹s2› (.lst [])) b:=λb hb=>by
  let%[q1|q2]:=f2 b hb;erw[by rw[aD (zV0 (hltF b hb))];exact q1,q2]
 let up:∀b o,s3.heap.get? b=some o->h1.get? b=some o:=λb o e=>hsb1.extBut b o (zV0 (zN0 e)) (zQ0 _ e)
 let old:∀b o,s2.heap.get? b=some o->h1.get? b=some o:=λb o e=>up b o (by rw[←eh];exact zQ0 _ e)
 let es:({ s2 with heap:=h1,toks:=s2.toks+([]:List (Str×Value)).length }:Shared)={ s3 with heap:=h1,toks:=s2.toks+([]:List (Str×Value)).length }:=by rw[←hs3]
 rw [es];let I4:Inv (ia X (x::N) scope cl s3 (upd H2 ‹s2› (.lst [])) fp) [] (none::outs ix σ) (upd H2 ‹s2› (.lst [])) { s3 with heap:=h1,toks:=s2.toks+([]:List (Str×Value)).length }:=
  tX [x] S I3 f3 hlt3 hix hns1 up
 let st4:tn 0 h1:=T.keep 0 _ _ st2 λb _ o e=>old b o e
 let loop:codeAny (model X.prog X.w) X.A (.compLoop (.ListComp elt [%[.Name x px,iter,ifs|(0)]] scope pos) 0 (.ref it) (.ref ‹s2›) (compEnvC scope cl ‹s3› X.env)) (RR (.ref ‹s2›) ‹s3›)
  { s3 with heap:=h1,toks:=s2.toks+([]:List (Str×Value)).length }:=by
  let k:=wX (M:=x::N) S I3 f3 hlt3;apply qf (Y:=ia X (x::N) scope cl s3 (upd H2 ‹s2› (.lst [])) fp) (Pf:=λσ'=>∃v0,σ'=v0::outs ix σ) hc (λ_ _ z=>z) T (aX (i:=0) S.nd rfl (.inl (qZ0 S.own)) (.inr (qZ0 S.own))) (hb _ _ _) (λhn b hb=>%[hn b hb,(k.exf b hb).1,k.exfs b hb,.inl hb,(k.exf b hb).2|λp hp=>absurd (show p∈([]:#[7])from hp) #[2]]) (λi m H5 w5=>(turn i m H5 w5).imp (fun⟨stop,qn⟩=>%[stop|λσ' s6 _ I6=>?_]) (fun⟨go,step⟩=>⟨go,λy H3 y7 σ' ⟨v0,e⟩=>by
   subst e;erw[%[|0],step y H3 y7]⟩)) ⟨none,rfl⟩ I4 st4 (λb hb=>(f3 b hb).1) w0
  erw[m6,hn6,_]at I6.loc;exact hRR _ _ H5 s6 m6 hn6 ⟨I6.free,Ne.symm (zV0 I3.lt),I3.sz,λy c e z=>by
   let%[v|q]:=I3.cell y c e;exact absurd q.lt (by rw[z];exact qS0 _),λp hp z=>absurd (zN0 (I3.pin p hp).1) (by rw[z];exact qS0 _)⟩ (vc I3 f3 I6 (Heap.SameBut.refl _ _)) qn
 exact wE0 loop (T.self _ 0 _ _ _ st4 loop)
def cf(hc:X.calm=true)(S:CompScope X x N ix scope cl)(hix:ix.length=N.length)(hi:PI X (.Name x px) iter wi)(hb:∀s3 H3 fp,PB (ia X (x::N) scope cl s3 H3 fp) ifs elt tb)
 (hs:∀x,foldedSetIterable iter X.env x=pure x:=by intro _;rfl):PE X (.ListComp elt [%[.Name x px,iter,ifs|(0)]] scope pos) (yY wi ix tb):=by
 exists 4,Q,I,h;rw[eval_ListComp];apply jI0 (use:=none) rfl hs S.clos S.kind S.names (thn (hi O7 s σ H _ I h) λxv s1 h1=>thn h1 λitv s2 h2=>?_);erw[it,fp,tn,J,H2,1,I2,T,st2,f2,R]at h2;apply yB hc S hix hb (RR:=λacc C=>compPost (model X.prog X.w) X.A X.xe none (EP X O7 σ Q) acc C) I2 T st2 f2 R ?_;intro D C H' s' m hn ap I' q;erw[m,hn,λh'' hb''=>%[.ref D,H',ap.turn I' hb'',1|q]]
def oE{i:Nat}{y:Str}{py spos:Pos}(hN:X.N.Nodup)(hi0:X.N[i]?=some y)(hx:Loc X.env.scope y)(hc:X.calm=true)(S:CompScope X x N ix scope cl)(hix:ix.length=N.length)(hi:PI X (.Name x px) iter wi)(hb:∀s3 H3 fp,PB (ia X (x::N) scope cl s3 H3 fp) ifs elt tb)
 (hsw:swapsWith (.ListComp elt [%[.Name x px,iter,ifs|(0)]] scope pos) (some (.Name y py)) spos.line X.env=pure true:=by rfl')
 (hs:∀x,foldedSetIterable iter X.env x=pure x:=by intro _;rfl)(hf:X.fn y=true∨X.env.scope.names.lookup y=some .local:=by first | exact .inl rfl | exact .inr rfl | assumption):
 PS X (.Assign [.Name y py] (.ListComp elt [%[.Name x px,iter,ifs|(0)]] scope pos) spos) (λD σ H=>yY wi ix tb σ H λv H'=>D.nx (σ.set i (some v)) H'):=by
 exists 4,Dn,I,h;rw[exec_Assign_Name_used _ _ _ _ hsw];apply zD0 (wpAny_standAt (zD0 ?_));show wpAny _ X.A (do let _ ←comprehension (.ListComp elt [%[.Name x px,iter,ifs|(0)]] scope pos) scope X.env _ (newList []) false (eval iter X.env) (some (assign (.Name y py) X.env))) _ _ s;apply zD0 (jS0 (jI0 (use:=some (assign (.Name y py) X.env)) (Q:=λ_ s'=>SP X O7 Dn .next s') rfl hs S.clos S.kind S.names
  (thn (hi O7 s σ H _ I h) λxv s1 h1=>thn h1 λitv s2 h2=>?_)) (λ_ s' hq=>zI0 (zI0 hq)) λ_ _ e=>e)
 erw[it,fp,tn,J,H2,1,I2,T,st2,f2,R]at h2;apply yB hc S hix hb (RR:=λacc C=>compPost (model X.prog X.w) X.A X.xe (some (assign (.Name y py) X.env)) (λ_ s'=>SP X O7 Dn .next s') acc C) (Q:=λv H'=>Dn.nx (σ.set i (some v)) H') I2 T st2 f2 R ?_;intro D C H' s' m hn ap I' q;show wpAny _ X.A (assign (.Name y py) X.env (.ref D)) _ _ _;apply wpAny_assign_Name (uK I' hN hi0 hx (v:=.ref D) rfl (λs'' I'' hsb=>?_) hf);erw[a,hsb,ha]at hsb;let ne:C≠a:=by
  rcases ha with z | z
  . rw[z];exact ap.lo
  . exact Ne.symm (ap.ce y a z)
 erw[m,hn.sameBut hsb ne,λh'' hb''=>%[_,H',ap.turn I'' hb''|q]]
end
section
variable {X:Cx}{O7:#[7]}{σ:St}{H:Hp}{s:Shared}{h':Heap}
def Inv.turnedNew{t':Nat}{ch:List Addr}{T:Addr}(I:#[8] H s)(k:∀b u,b∉ch->s.heap.get? b=some u->h'.get? b=some u)(hf:∀b∈ch,jh X O7 H b)(hT:‹s›<=T)
 (new:ObjOk X.prog X.w (upd H T o) h' T o):#[8] (upd H T o) { s with heap:=h',toks:=t' }:=by
 let nit:∀b u,H b=some u->b∉ch:=λb u e z=>by rw[(hf b z).1]at e;cases e
 let hn:H T=none:=I.hok.fresh hT;let lt:∀b u,s.heap.get? b=some u->b≠T:=λb u e=>zV0 (qQ0 (zN0 e) hT)
 apply I.step (g':=s.gens) (d':=s.drawn) (ch:=ch) (λb hb=>?_) (λb u _ _ hc e _=>k b u hc e) (λb u _ _ hc e _=>%[u.slots|k b u hc e]) (λb u _ e n=>by rw[aD (lt b u e)];exact n) (λb u hc e=>%[u|k b u hc e])
  (λb xs e=>by rw[aD (aO e hn)];exact e) (λb ob u e=>by rw[aD (aO e hn)];exact e) (λb ps e=>%[#[]|by rw[aD (aO e hn),e];simp]) (λm hm=>?_) (λb u e=>?_) I.bare
 . let%[_,h2,_,h4,h5|h6]:=hf b hb;erw[h4,h2,h5,h6]
 . erw[ob,es,ep,ho,r]at hm;erw[ob,es,ep,k _ ob (λz=>(hf _ z).2.1 rfl) ho,r]
 . by_cases hb:b=T
   . subst hb;rw[ah]at e;cases e;exact new
   . rw [aD hb]at e;refine(I.hok b u e).stay (λc v hc q=>k c v ?_ q) (λc q=>by rw[aD (aO q hn)];exact q) λc xs q=>by rw[aD (aO q hn)];exact q
     rcases hc with z | z
     . rw[z];exact nit b u e
     . exact nit c _ z
def Inv.turnedL{t':Nat}{ch:List Addr}(I:#[8] H s)(k:∀b u,b∉ch->s.heap.get? b=some u->h'.get? b=some u)(hf:∀b∈ch,jh X O7 H b):#[8] H { s with heap:=h',toks:=t' }:=by
 let nit:∀b u,H b=some u->b∉ch:=λb u e z=>by rw[(hf b z).1]at e;cases e
 apply I.step (g':=s.gens) (d':=s.drawn) (ch:=ch) (λb hb=>?_) (λb u _ _ hc e _=>k b u hc e) (λb u _ _ hc e _=>%[u.slots|k b u hc e]) (λ_ _ _ _ n=>n) (λb u hc e=>%[u|k b u hc e])
  (λ_ _ e=>e) (λ_ _ _ e=>e) (λb ps e=>%[#[]|by rw[e];simp]) (λm hm=>?_) (λb u e=>?_) I.bare
 . let%[_,h2,_,h4,h5|h6]:=hf b hb;erw[h4,h2,h5,h6]
 . erw[ob,es,ep,ho,r]at hm;erw[ob,es,ep,k _ ob (λz=>(hf _ z).2.1 rfl) ho,r]
 . apply (I.hok b u e).stay (λc v hc q=>k c v ?_ q) (λ_ q=>q) λ_ _ q=>q
   rcases hc with z | z
   . rw[z];exact nit b u e
   . exact nit c _ z
end
def Ite(K:W.Frag)(a:Addr):It:=
 ⟨λi H=>∃xs x,SqL K H a xs/\xs[i]?=some x,λi H y H'=>∃t,y=.ref t/\H t=none/\∀xs x,SqL K H a xs->xs[i]?=some x->H'=upd H t (.tup [.int i,x]),λi H=>∃xs,SqL K H a xs/\xs.length<=i⟩
def BO{K:W.Frag}{elts:List Expr}{k:Nat}{pos:Pos}(a e it:Addr)(hei:e≠it):
 Turn P w K (.Tuple elts k pos) (Ite K a) [e,it] e (λi h=>(∃old,IsEnum h e it i old)/\h.IsListIter it a i) where
 mem:=by simp
 obj:=λi h st b hb=>by
  erw[%[old|he],o,e2,c,d]at st;rcases zX0 hb with z | z
  . subst z;erw[_,he,λv z=>nomatch z]
  . let z':=Pg z;subst z';erw[o,e2,λv z=>by rw[d]at z;cases z]
 keep:=λi h h' st k=>by
  erw[%[old|he],hit]at st;erw[%[old|k e #[2] _ he],hit.at λo x=>k it #[2] o x]
 item:=by
  exists 5;erw[xs,x,hq,hx]at hg;let%[its,rv,p|hz]:=I.list hq;let%[u,hu|ru]:=rv.get hx;erw[%[old|he],hit]at st;apply wpAny_pyNext_enum_item he hit p.isList (x:=u) #[hu,0] hei λh1 ho hit1 hT hsz hk=>?_
  erw[0,wpAny_letOwnedTupleGo_enum ho λh2 he2 hs2=>?_];let elt:e<‹s›:=zN0 he;let hT2:h2.get? ‹s›=some { cls:=.type "tuple",data:=.seq #[.int i s.toks,u] }:=(hs2.2 _ (Ne.symm (zV0 elt))).trans hT;let I2:#[8] (upd H ‹s› (.tup [.int i,x])) { s with heap:=h2,toks:=s.toks+1 }:=by
   apply I.turnedNew (ch:=[e,it]) (λb ob hb eb=>?_) hf (zH0 _) %[by show 2<=sizeLine;decide,[.int i s.toks,u],.cons %[|0] (.cons ru .nil),%[_,hT2,1|0],_,hT2|1];let b1:b≠e:=λz=>hb (by simp [z])
   let b2:b≠it:=λz=>hb (by simp [z])
   exact(hs2.2 b b1).trans (hk b ob b1 b2 eb)
  erw[.ref ‹s›,_,I2,1,%[0,I.hok.fresh (zH0 _)|λys y hy hyi=>?_],%[%[u|by simpa using he2]|hit1.at λo z=>(hs2.2 it (Ne.symm hei)).trans z],λb hb=>?_]
  . let e1:=I.list_inj hy hq;subst e1;rw[hx]at hyi;cases hyi;rfl
  . let z:=hf b hb;let Pc:b<‹s›:=by
     rcases zX0 hb with y | y
     . rw[y];exact elt
     . rw[Pg y];erw[o,e2,_]at hit;exact zN0 e2
    rw[aD (zV0 Pc)];exact z.1
 done:=by
  exists 5;erw[xs,hq,hx]at hg;let%[its,rv,p|hz]:=I.list hq;erw[%[old|he],hit]at st;let hl:=rv.length;exact wpAny_pyNext_enum_end (I.ok.hd hc) he hit p.isList (Array.getElem?_eq_none (by simp;omega)) λh' eb=>%[1|I.turnedL (t':=s.toks) (ch:=[e,it]) (λb o hb eo=>eb b o (λz=>hb (by simp [z])) eo) hf]
 self:=λ_ _ _ _ _ st h=>by
  erw[%[old|he],_]at st;exact wF1 he h
section
variable {X:Cx}{elts:List Expr}{k:Nat}{tpos:Pos}
instance ZiEnum(K:W.Frag)(R:(It->Hp->Prop))(x:V)(H1:Hp):∀a,x=.ref a->(∃xs,SqL K H1 a xs)->R (Ite K a) H1:=0
def iEnum(K:W.Frag)(tl:TE):TI:=λσ H R=>tl σ H λx H1=>ZiEnum K R x H1
def Im{p pos:Pos}(hg:Gl X "enumerate")(hm:X.mg "enumerate"=none)(hl:PE X l tl)(hs:starEach [l] X.env=[(false,eval l X.env)]:=by rfl):
 PI X (.Tuple elts k tpos) (.Call (.Name "enumerate" p) [l] [] pos) (iEnum X.K tl):=by
 exists 4,R,I,h;apply Call_ (iI I hg hm boot_enumerate (zN1 ?_ hs rfl));rw[hs];show wpAny _ _ (spliced ((false,eval l X.env)::backTo pos (starEach [] X.env))) _ _ s;apply qY0 (thn (hl O7 s σ H _ I h) λu s1 ⟨x,H1,I1,r1,a,ex,⟨xs,hq⟩,q⟩=>?_);subst ex;cases r1;let%[its,rv,p|hz]:=I1.list hq;apply jH0 ?_;apply call_enumerate_list p.isList λh' he hit hsz hk=>?_
 apply wF1 he ?_;let I2:#[8] H1 { s1 with heap:=h' }:=I1.kept (t':=s1.toks) hk;erw[‹s1›+1,[‹s1›+1,‹s1›],_,_,H1,1,I2,BO a _ _ (jY0 (qR1 _)),%[%[_|he]|hit],λb hb=>?_,q];rcases zX0 hb with z | z
 . rw[z];exact I1.fpOk (qO0 _) (I1.hok.fresh (qO0 _))
 . rw[Pg z];exact I1.fpOk (zH0 _) (I1.hok.fresh (zH0 _))
end
def Gw{K:W.Frag}{xs:List V}{g:TG}{tb:TS}{D:Ends}{σ:St}{H:Hp}(Pv:Nat->St->Hp->Prop)(h0:Pv 0 σ H)(hl:∀i σ H,i<=xs.length->Pv i σ H->SqL K H a xs)
 (hs:∀i x σ H t,xs[i]?=some x->Pv i σ H->H t=none->g (.ref t) σ (upd H t (.tup [.int i,x])) λσ2 H2=>tb { D with nx:=Pv (i+1),ct:=Pv (i+1),bk:=D.nx } σ2 H2)(hd:∀ σ H,Pv xs.length σ H->D.nx σ H):
 ∃ W:Nat->Nat->St->Hp->Prop,(∃m,W 0 m σ H)/\∀i m σ H,W i m σ H ->
  ((Ite K a).stop i H/\D.nx σ H)∨((Ite K a).go i H/\∃N:St->Hp->Prop,(∀ σ' H',N σ' H'->∃m',m'<m/\W (i+1) m' σ' H')/\∀x H',(Ite K a).yld i H x H'->g x σ H' λσ2 H2=>tb { D with nx:=N,ct:=N,bk:=D.nx } σ2 H2):=by
 erw[λi m σ H=>m=xs.length-i/\i<=xs.length/\Pv i σ H,%[xs.length,by simp,zW0 _|h0],6];rintro i m σ H ⟨rfl,hi,p⟩;let q:=hl i σ H hi p
 by_cases Pc:i<xs.length
 . refine .inr %[%[xs,xs[i],q|by simp [Pc]],Pv (i+1),λσ' H' p'=>%[xs.length-(i+1),3,1,Pc|p']|λx H' y=>?_];erw[t,1,ht,e]at y;let e':=e xs xs[i] q (by simp [Pc]);subst e';exact hs i xs[i] σ H t (by simp [Pc]) p ht
 . let e:i=xs.length:=#[0]
   subst e;exact .inl %[%[xs,q|zH0 _]|hd σ H p]
mutual
inductive Rep(K:W.Frag)(H:Hp):V->PyData->Prop
 |non:Rep K H .non .none
 |bl (b:Bool):Rep K H (.bl b) (.bool b)
 |int (i:Int):Rep K H (.int i) (.int i)
 |str (x:Str):Rep K H (.str x) (.str x)
 |tup {a:Addr} {xs:List V} {ds:List PyData}:SqT K H a xs->RepAll K H xs ds->Rep K H (.ref a) (.tuple ds)
 |lst {a:Addr} {xs:List V} {ds:List PyData}:SqL K H a xs->RepAll K H xs ds->Rep K H (.ref a) (.list ds)
inductive RepAll(K:W.Frag)(H:Hp):List V->List PyData->Prop
 |nil:RepAll K H [] []
 |cons {x:V} {d:PyData} {xs:List V} {ds:List PyData}:Rep K H x d->RepAll K H xs ds->RepAll K H (x::xs) (d::ds)
end
section
variable {X:Cx}{O7:#[7]}{σ:St}{H:Hp}{s:Shared}
mutual
def Rep.reads(I:#[8] H s):∀{x:V}{d:PyData}{v:Value},Rep X.K H x d->RelV x v->∃as,Reads s.heap v d as
 |_,_,v,.non,r=>by cases(show v=Value.none from r);erw[_,Reads.none]
 |_,_,v,.bl b,r=>by cases(show v=Value.bool b from r);erw[_,Reads.bool b]
 |_,_,v,.int i,r=>by let%[t|e]:=(show ∃t,v=Value.int i t from r);cases e;erw[_,Reads.int i t]
 |_,_,v,.str x,r=>by let%[t|e]:=(show ∃t,v=Value.str x t from r);cases e;erw[_,Reads.str x t]
 |_,_,v,.tup (a:=a) h q,r=>by
   cases(show v=Value.ref a from r);let%[its,rv,%[o,ho,hc,n|hd]|_]:=I.tuple h;let%[as|z]:=RepAll.reads I q rv;erw[_,reads_tuple_at ho hc hd #[z,0]]
 |_,_,v,.lst (a:=a) h q,r=>by
   cases(show v=Value.ref a from r);let%[its,rv,%[o,n,ho,hc,_|hd]|_]:=I.list h;let%[as|z]:=RepAll.reads I q rv;erw[_,reads_list_at ho hc hd #[z,0]]
def RepAll.reads(I:#[8] H s):∀{xs:List V}{ds:List PyData}{vs:List Value},RepAll X.K H xs ds->Vals xs vs->∃as,ReadsAll s.heap vs ds as
 |_,_,_,.nil,.nil=>%[_|ReadsAll.nil]
 |_,_,_,.cons h q,.cons r rs=>by
   let%[as|z]:=Rep.reads I h r;let%[bs|y]:=RepAll.reads I q rs;erw[_,ReadsAll.cons z y]
end
end
def sD{K:W.Frag}:∀ns:List Int,RepAll K H (ns.map V.int) (ns.map PyData.int)
 | []=>.nil
 |n::r=>.cons (.int n) (sD r)
section
variable {X:Cx}
instance rEqD(K:W.Frag)(x:V)(y:V)(H:Hp)(Q:VK):∀d e,Rep K H x d->Rep K H y e->SeqAt.shaped d=true->SeqAt.shaped e=true->Q (.bl (PyData.eqv d e)) H:=0
instance rNeD(K:W.Frag)(x:V)(y:V)(H:Hp)(Q:VK):∀d e,Rep K H x d->Rep K H y e->SeqAt.shaped d=true->SeqAt.shaped e=true->Q (.bl (!PyData.eqv d e)) H:=0
def wo(hu:X.A.units+64<cLine):OpR X (compareOp .Eq) (rEqD X.K):=by
 exists 4,x,y,v,u,Q,I,rx,ry,h;erw[d,e,hd,he,sd,se,q]at h;let%[as|r1]:=Rep.reads I hd rx;let%[bs|r2]:=Rep.reads I he ry;exact eq_dataH r1 r2 sd se hu %[.bl _,H,I,1|q]
def Fb(hu:X.A.units+64<cLine):OpR X (compareOp .NotEq) (rNeD X.K):=by
 exists 4,x,y,v,u,Q,I,rx,ry,h;erw[d,e,hd,he,sd,se,q]at h;let%[as|r1]:=Rep.reads I hd rx;let%[bs|r2]:=Rep.reads I he ry;exact ne_dataH r1 r2 sd se hu %[.bl _,H,I,1|q]
instance rCatT0(K:W.Frag)(x:V)(y:V)(H:Hp)(Q:VK):∀a b ys,x=.ref a->y=.ref b->SqT K H a []->SqT K H b ys->Q (.ref b) H:=0
def oH:OpR X (binaryOp .Add) (rCatT0 X.K):=by
 exists 4,x,y,v,u,Q,I,rx,ry,h;erw[a,b,ys,1,1,ha,hb,q]at h;cases rx;cases ry;let%[its,r1,p1|_]:=I.tuple ha;let%[its2,r2,p2|_]:=I.tuple hb;let%[%[cls,dd,data|sl],ho,hc,n|hd]:=id p1;let%[%[cls2,dd2,data2|sl2],ho2,hc2,n2|hd2]:=id p2;simp only at hc hd hc2 hd2;subst hc hd hc2 hd2;let e:its=[]:=r1.nil_iff.mpr rfl;exact concat_meets %[_,ho|1] ⟨_,ho2,rfl⟩ vG0 seq_tuple_add wD1 wB1 (jY1 _ _)
  (tuple_addW0 a b its.toArray its2.toArray n n2 dd dd2 sl sl2 (by simp [e])) %[ho,ho2|%[.ref b,H,I,1|q]]
end
def Nx(n i:Nat)(Pv:Nat->Hp->Prop)(H:Hp):Prop:=∃m',m'<n-i/\(m'=n-(i+1)/\i+1<=n/\Pv (i+1) H)
def Nx.of{n i:Nat}{Pv:Nat->Hp->Prop}{H:Hp}(h:i<n)(p:Pv (i+1) H):Nx n i Pv H:=%[n-(i+1),3,1,h|p]
def eN{K:W.Frag}{xs:List V}{tb:TBl}{Q:VK}(Pv:Nat->Hp->Prop)(h0:Pv 0 (upd H D (.lst [])))(hl:∀i H,i<=xs.length->Pv i H->SqT K H a xs)
 (hs:∀i x H,xs[i]?=some x->Pv i H->tb (some x::outs ix σ) H (Nx xs.length i Pv) λz H'=>∃ys,H' D=some (.lst ys)/\ys.length<sizeLine/\Nx xs.length i Pv (upd H' D (.lst (ys++[z]))))(hd:∀H,Pv xs.length H->Q (.ref D) H):
 ug (Itt K a) D ix tb σ H Q:=by
 erw[λi m H=>m=xs.length-i/\i<=xs.length/\Pv i H,%[xs.length,by simp,zW0 _|h0],6];rintro i m H ⟨rfl,hi,p⟩;let q:=hl i H hi p
 by_cases Pc:i<xs.length
 . refine .inr %[%[xs,xs[i],q|by simp [Pc]]|λx H' y=>?_];erw[e,y]at y;subst e;exact hs i x _ (y xs q) p
 . let e:i=xs.length:=#[0]
   subst e;exact .inl %[%[xs,q|zH0 _]|hd H p]
def fc{K:W.Frag}{xs:List V}{tb:TBl}{Q:VK}(Pv:Nat->Hp->Prop)(h0:Pv 0 (upd H D (.lst [])))(hl:∀i H,i<=xs.length->Pv i H->SqL K H a xs)
 (hs:∀i x H,xs[i]?=some x->Pv i H->tb (some x::outs ix σ) H (Nx xs.length i Pv) λz H'=>∃ys,H' D=some (.lst ys)/\ys.length<sizeLine/\Nx xs.length i Pv (upd H' D (.lst (ys++[z]))))(hd:∀H,Pv xs.length H->Q (.ref D) H):
 ug (Itl K a) D ix tb σ H Q:=by
 erw[λi m H=>m=xs.length-i/\i<=xs.length/\Pv i H,%[xs.length,by simp,zW0 _|h0],6];rintro i m H ⟨rfl,hi,p⟩;let q:=hl i H hi p
 by_cases Pc:i<xs.length
 . refine .inr %[%[xs,xs[i],q|by simp [Pc]]|λx H' y=>?_];erw[e,y]at y;subst e;exact hs i x _ (y xs q) p
 . let e:i=xs.length:=#[0]
   subst e;exact .inl %[%[xs,q|zH0 _]|hd H p]
def dM{lo:Int}{n:Nat}{tb:TBl}{Q:VK}(Pv:Nat->Hp->Prop)(h0:Pv 0 (upd H D (.lst [])))
 (hs:∀i H,i<n->Pv i H->tb (some (.int (lo+i))::outs ix σ) H (Nx n i Pv) λz H'=>∃ys,H' D=some (.lst ys)/\ys.length<sizeLine/\Nx n i Pv (upd H' D (.lst (ys++[z]))))(hd:∀H,Pv n H->Q (.ref D) H):
 ug (Itr lo n) D ix tb σ H Q:=by
 erw[λi m H=>m=n-i/\i<=n/\Pv i H,%[n,by simp,zW0 _|h0],6];rintro i m H ⟨rfl,hi,p⟩
 by_cases Pc:i<n
 . refine .inr %[Pc|λx H' y=>?_];erw[e,y]at y;subst e y;exact hs i _ Pc p
 . let e:i=n:=#[0]
   subst e;exact .inl %[zH0 _|hd H p]
def CompScope.closed{X:Cx}{x:Str}{scope:Scope}(c1:closureFor scope X.env=pure [])(c2:∀y∈scope.names,y.2≠.cell)(c3:scope.kind=.function)(c4:∀y∈scope.names,y.2=.local->scope.names.lookup y.1=some .local)
 (c5:scope.names.lookup x=some .local)(c6:((relabel scope X.env).names.all λp=>!(p.2==.cell||p.2==.free)||((([]:List (Str×Addr))).lookup p.1).isSome)=true):CompScope X x [] [] scope [] where
 clos:=c1
 nocell:=c2
 kind:=c3
 names:=c4
 own:=c5
 nd:=by simp
 sub:=λp hp=>absurd hp #[2]
 has:=c6
 outs:=λj y h=>by simp at h
section
variable {X:Cx}
def DG(K:W.Frag)(hK:X.K=K:=by rfl):fL X (.builtin "len") (rLen K):=by subst hK;exact aI
def yp(K:W.Frag)(hK:X.K=K:=by rfl):IxR X (rIxL K):=by subst hK;exact ix_list
end
def Its(z:Str):It:=⟨λi _=>i<z.cps.size,λi H x H'=>H'=H/\∃c,z.cps[i]?=some c/\x=.str %[|#[c]],λi _=>z.cps.size<=i⟩
def rF{prog:Program}{w:World}{A:Around}(hh:A.handled=none)(I:Addr)(x:Str)(t:Tok):Walks prog w A I [I] [I] x.cps.size (SignAt x) (λi h=>h.IsStrIter I (strIterType x) x t i):=by
 unfold strIterType
 split
 . exact Walks.strAscii hh I x t
 . exact Walks.strWide hh I x t
def DW{K:W.Frag}{y:Str}{py:Pos}(z:Str)(t:Tok)(it:Addr):Turn P w K (.Name y py) (Its z) [it] it (λi h=>i<=z.cps.size/\h.IsStrIter it (strIterType z) z t i) where
 mem:=by simp
 obj:=λi h st b hb=>by
  let e:b=it:=#[hb,0]
  subst e;erw[_,o,e,c,d]at st;erw[o,e,λv z=>by rw[d]at z;cases z]
 keep:=λi h h' st k=>by
  erw[hi,o,e,r]at st;erw[hi,o,k it #[2] o e,r]
 item:=by
  exists 5;let%[f0,f1,f2,f3,f4|f5]:=hf it #[2];refine(rF (I.ok.hd hc) it z t).item i s _ E hg st.2 λv h' tk hP Pd hk=>?_
  erw[c,u,hcx,1]at hP;let I1:#[8] H { s with heap:=h',toks:=tk }:=I.turned (λb o hb e=>hk b o #[hb,0] e) f0 f1 f3 f4 f5;erw[0,jJ1 (a:=()) rfl %[.str %[|#[c]],H,I1,%[|0],%[1,c,hcx|1],%[hg|Pd]|λb hb=>(hf b hb).1]]
 done:=by
  exists 5;let%[f0,f1,f2,f3,f4|f5]:=hf it #[2];let e:i=z.cps.size:=Nat.le_antisymm st.1 hg;subst e;refine(rF (I.ok.hd hc) it z t).done s _ E st.2 λh' tk hk=>?_
  erw[1,I.turned (λb o hb e=>hk b o #[hb,0] e) f0 f1 f3 f4 f5]
 self:=λA i s Q E st h=>by
  erw[_,st]at st;unfold strIterType at st
  split at st
  . exact wpAny_pyIter_striter_ascii st h
  . exact wpAny_pyIter_striter_wide st h
section
variable {X:Cx}{y:Str}{py:Pos}
instance ZiStr(R:(It->Hp->Prop))(x:V)(H1:Hp):∀z,x=.str z->R (Its z) H1:=0
def iStr(tl:TE):TI:=λσ H R=>tl σ H λx H1=>ZiStr R x H1
def ES(hl:PE X l tl):PI X (.Name y py) l (iStr tl):=by
 exists 4,R,I,h;apply thn (hl O7 s σ H _ I h) λv s1 ⟨x,H1,I1,r1,q1⟩=>?_
 erw[z,e,q]at q1;subst e;erw[t,1]at r1;apply wpAny_pyIter_strU ?_;erw[‹s1›,[‹s1›],_,_,H1,1,I1.kept (t':=s1.toks) λb o e=>zQ0 _ e,DW z t _,%[zW0 _,_,qD0 _ rfl,1|1],λb hb=>?_,q];let e:b=‹s1›:=#[hb,0]
 subst e;exact I1.fpOk (zH0 _) (I1.hok.fresh (zH0 _))
end
def tW{z:Str}{tb:TBl}{Q:VK}(Pv:Nat->Hp->Prop)(h0:Pv 0 (upd H D (.lst [])))
 (hs:∀i c H,z.cps[i]?=some c->Pv i H->tb (some (.str %[|#[c]])::outs ix σ) H (Nx z.cps.size i Pv) λu H'=>∃ys,H' D=some (.lst ys)/\ys.length<sizeLine/\Nx z.cps.size i Pv (upd H' D (.lst (ys++[u]))))(hd:∀H,Pv z.cps.size H->Q (.ref D) H):
 ug (Its z) D ix tb σ H Q:=by
 erw[λi m H=>m=z.cps.size-i/\i<=z.cps.size/\Pv i H,%[z.cps.size,by simp,zW0 _|h0],6];rintro i m H ⟨rfl,hi,p⟩
 by_cases Pc:i<z.cps.size
 . refine .inr %[Pc|λx H' y=>?_];erw[e,c,hc,1]at y;subst e;exact hs i c _ hc p
 . let e:i=z.cps.size:=#[0]
   subst e;exact .inl %[zH0 _|hd H p]
section
variable {X:Cx}
instance rSlS(x:V)(lo:Option Int)(hi:Option Int)(H:Hp)(Q:VK):∀z,x=.str z->z.length<=sizeLine->Q (.str (Txt.slice z lo hi)) H:=0
def zm:SlR X rSlS:=by
 exists 4,x,v,vl,vu,lo,hi,sl,Q,I,rx,hs,pl,pu,h;erw[z,1,hz,q]at h;erw[t,1]at rx;erw["str",_,F.slot_str_getitem.lookup,wO1 _ _ _,6];let fin:∀t' k,EP X O7 σ Q (.str (Txt.slice z lo hi) t') { s with toks:=k }:=λt' k=>%[.str _,H,I.tok k,%[|0]|q]
 erw[o,ho,hc,hd]at hs;cases pl with
 |none=>
   cases pu with
   |none=>exact jK0 (l:=none) (u:=none) (st:=none) %[o,ho,hc|hd] rfl (wR0 ⟨zP0 (wH1 z _ _) hz,fin⟩)
   |int j u=>exact jK0 (l:=none) (u:=some (j,u)) (st:=none) %[o,ho,hc|hd] rfl (wR0 ⟨zP0 (wH1 z _ _) hz,fin⟩)
 |int i u'=>
   cases pu with
   |none=>exact jK0 (l:=some (i,u')) (u:=none) (st:=none) %[o,ho,hc|hd] rfl (wR0 ⟨zP0 (wH1 z _ _) hz,fin⟩)
   |int j u=>exact jK0 (l:=some (i,u')) (u:=some (j,u)) (st:=none) %[o,ho,hc|hd] rfl (wR0 ⟨zP0 (wH1 z _ _) hz,fin⟩)
instance rStarts(x:V)(vs:List V)(H:Hp)(Q:VK):∀z u,x=.str z->vs=[.str u]->Q (.bl (Txt.startswith z u)) H:=0
def uE:MtR X "str.startswith" rStarts:=by
 exists 4,x,vs,v,us,Q,I,rx,rv,h;erw[z,u,1,1,q]at h;erw[t,1]at rx;erw[w',1,t',1]at rv.one;exact SC.startswith %[.bl _,H,I,1|q]
def rO:∀{zs:List Str}{us:List Value},Vals (zs.map V.str) us->StrsAre us zs
 | [],_,.nil=>.nil
 |_::_,_,.cons ⟨t,e⟩ r=>by subst e;exact .cons _ t (rO r)
instance rJoin(K:W.Frag)(x:V)(vs:List V)(H:Hp)(Q:VK):∀z a ys,x=.str z->vs=[.ref a]->SqL K H a (ys.map V.str)->z.length<=16->(ys.map (·.length)).sum+ys.length<=1048576->Q (.str (Txt.join z ys)) H:=0
def kc:MtR X "str.join" (rJoin X.K):=by
 exists 4,x,vs,v,us,Q,I,rx,rv,h;erw[z,a,ys,1,1,hq,hz,hw,q]at h;erw[t,1]at rx;erw[w',1,ra]at rv.one;cases ra;let%[its,r',p|_]:=I.list hq;exact join_listW p.isList #[rO r',0] hz hw λt' k=>%[.str _,H,I.tok k,%[|0]|q]
instance rAll(K:W.Frag)(xs:List V)(H:Hp)(Q:VK):∀(a:Addr)(bs:List Bool),xs=[.ref a]->SqL K H a (bs.map V.bl)->Q (.bl (bs.all id)) H:=0
def vf:∀{bs:List Bool}{us:List Value}{i:Nat}{v:Value},Vals (bs.map V.bl) us->us[i]?=some v->∃b,bs[i]?=some b/\v=.bool b
 | [],_,_,_,.nil,h=>by simp at h
 |b::_,_,0,_,.cons r _,h=>by
   simp at h
   subst h;erw[b,1,r]
 |_::_,_,i+1,_,.cons _ t,h=>by
   let%[b,h1|h2]:=vf (i:=i) t #[h,0];erw[b,by simpa using h1,h2]
def pj(hc:X.calm=true):fL X (.builtin "all") (rAll X.K):=by
 exists 4,xs,us,Q,I,r,h;erw[a,bs,1,hq,q]at h;let%[u,1|ru]:=kz r;cases ru;let%[its,r',p|hz]:=I.list hq;let hl:=r'.length;rw[zF0]at hl;let Pc:a<‹s›:=by erw[o,n,e,_]at p;exact zN0 e
 apply call_all_walk (jG1 p.isList ?_);erw[‹s›,_,_,_,_,_,λi=>bs[i]?.getD true,1,Walks.list (A:=X.A.in1) (I.ok.hd hc) ‹s› a (zV0 Pc) its.toArray,%[%[_,qD0 _ rfl,1|1]|p.isList.push _],6,6]
 . intro i v s' Q' E' hP hQ;let%[b,hb|1]:=vf r' (i:=i) (v:=v) #[hP,0];let hQ':Q' b s':=by simpa [hb]using hQ
   exact qD1 hQ'
 . intro h' tk hk;let e:(List.range its.toArray.size).all (λi=>bs[i]?.getD true)=bs.all id:=by
    rw[zT0,←hl];rw[wB0,wK1,wK1]
    constructor
    . intro h b hb;let%[i,hi|e]:=jX0 hb
      have:=h i (List.mem_range.mpr hi)
      rw[zL0 hi]at this
      simpa [e]using this
    . intro h i hi;let hi':=List.mem_range.mp hi;rw[zL0 hi'];exact h _ (qP0 hi')
   rw[e];erw[.bl _,H,6,1,q];let I1:#[8] H { s with heap:=s.heap.push { cls:=.type "list_iterator",data:=.fields #[.ref a,.int 0 0] } }:=I.kept (t':=s.toks) λb o e=>zQ0 _ e
   apply I1.turnedL (t':=tk) (ch:=[‹s›]) (λb o hb e=>hk b o #[hb,0] e) λb hb=>?_
   rw[Pg hb];exact I.fpOk (zH0 _) (I.hok.fresh (zH0 _))
end
inductive Consts:List Expr->List Str->Prop
 |nil:Consts [] []
 |cons {x:Str} {j:Nat} {pos:Pos} {es:List Expr} {zs:List Str}:Consts es zs->Consts (.Constant (.str x) j pos::es) (x::zs)
def lR:∀{es:List Expr}{zs:List Str},Consts es zs->PA X es (λ_ H Q=>Q (zs.map V.str) H)
 |_,_,.nil=>ae
 |_,_,.cons h=>λpos O7 s σ H Q I q=>aa aF (lR h) (by rfl) pos O7 s σ H Q I q
def CompScope.one{X:Cx}{x y:Str}{scope:Scope}{k:Nat}{c:Addr}(c1:closureFor scope X.env=pure [(y,c)])(c2:∀y∈scope.names,y.2≠.cell)(c3:scope.kind=.function)(c4:∀y∈scope.names,y.2=.local->scope.names.lookup y.1=some .local)
 (c5:scope.names.lookup x=some .local)(nd:[x,y].Nodup)(hc:X.env.cells.lookup y=some c)(c6:((relabel scope X.env).names.all λp=>!(p.2==.cell||p.2==.free)||(([(y,c)]:List (Str×Addr)).lookup p.1).isSome)=true)
 (hr:(relabel scope X.env).names.lookup y=some .cell)(hk:X.N[k]?=some y)(hs:X.env.scope.names.lookup y=some .cell):CompScope X x [y] [k] scope [(y,c)] where
 clos:=c1
 nocell:=c2
 kind:=c3
 names:=c4
 own:=c5
 nd:=nd
 sub:=λp hp=>by
  rw[Pg hp];exact hc
 has:=c6
 outs:=λj z h=>by
  cases j with
  |zero=>
    let e:y=z:=zS0 h;subst e;erw[hr,k,c,1,hk,by simp [List.lookup],hs]
  |succ j=>simp at h
def CompScope.two{X:Cx}{x y z:Str}{scope:Scope}{k l:Nat}{c d:Addr}{cl:List (Str×Addr)}(c1:closureFor scope X.env=pure cl)(c2:∀y∈scope.names,y.2≠.cell)(c3:scope.kind=.function)(c4:∀y∈scope.names,y.2=.local->scope.names.lookup y.1=some .local)
 (c5:scope.names.lookup x=some .local)(nd:[x,y,z].Nodup)(hcl:cl=[(z,d),(y,c)]∨cl=[(y,c),(z,d)])(hc:X.env.cells.lookup y=some c)(hd:X.env.cells.lookup z=some d)(c6:((relabel scope X.env).names.all λp=>!(p.2==.cell||p.2==.free)||(cl.lookup p.1).isSome)=true)
 (hr:(relabel scope X.env).names.lookup y=some .cell)(hk:X.N[k]?=some y)(hs:X.env.scope.names.lookup y=some .cell)
 (hr2:(relabel scope X.env).names.lookup z=some .cell)(hk2:X.N[l]?=some z)(hs2:X.env.scope.names.lookup z=some .cell):CompScope X x [y,z] [k,l] scope cl where
 clos:=c1
 nocell:=c2
 kind:=c3
 names:=c4
 own:=c5
 nd:=nd
 sub:=λp hp=>by
  rcases hcl with rfl | rfl
  all_goals
   rcases zX0 hp with e | e
   . rw[e];assumption
   . rw[Pg e];assumption
 has:=c6
 outs:=λj w h=>by
  let nyz:y≠z:=λe=>by simp [e]at nd
  match j,h with
  |0,h=>
    let e:y=w:=zS0 h;subst e;erw[hr,k,c,1,hk,6,hs];rcases hcl with rfl | rfl
    . have:(y==z)=false:=#[nyz,0]
      simp [List.lookup,this]
    . simp [List.lookup]
  |1,h=>
    let e:z=w:=zS0 h;subst e;erw[hr2,l,d,1,hk2,6,hs2];rcases hcl with rfl | rfl
    . simp [List.lookup]
    . have:(z==y)=false:=#[Ne.symm nyz,0]
      simp [List.lookup,this]
  |j+2,h=>simp at h
end L2
namespace Mine
open PySem L2
def qk(x:Str):Prop:=x.length<=20/\(∀c∈x.cps.toList,97<=c/\c<=122)/\x≠"aa"
def lU{x:Str}{l u:Option Int}{c:Nat}(h:c∈(Txt.slice x l u).cps.toList):c∈x.cps.toList:=by
 let e:Txt.slice x l u=StrLaws.sliceText x l u:=rfl;rw[e]at h;unfold StrLaws.sliceText at h
 split at h
 . exact h
 . let%[i,_|hi]:=List.mem_filterMap.mp (show c∈(List.filterMap _ _) by simpa using h)
   have:=Array.mem_of_getElem? hi
   simpa using this
def mem_append{x y:Str}{c:Nat}(h:c∈(x++y).cps.toList):c∈x.cps.toList∨c∈y.cps.toList:=by
 let e:(x++y).cps.toList=x.cps.toList++y.cps.toList:=by simp [jM0]
 rw[e]at h;exact qN0 h
def CT{zs:List Str}{c:Nat}(h:c∈(Txt.join "" zs).cps.toList):∃z∈zs,c∈z.cps.toList:=by
 let e:Txt.join "" zs=Str.join "" zs:=by
  cases zs with
  |nil=>rfl
  |cons a r=>exact StrLaws.glued_cons "" r a
 rw[e]at h;rcases(PyProof.Rows.mem_join "" c zs).mp h with h | ⟨_,h⟩
 . exact h
 . let e0:(("":Str)).cps.toList=[]:=by decide
   rw[e0]at h;cases h
inductive Tr where
 |is (x:Str) | yes | no | not (a:Tr) | bin (w:Str) (a b:Tr)
def Tr.size:Tr->Nat
 |.is _=>1 | .yes=>1 | .no=>1 | .not a=>a.size+1 | .bin _ a b=>a.size+b.size+1
def Tr.depth:Tr->Nat
 |.is _=>1 | .yes=>1 | .no=>1 | .not a=>a.depth+1 | .bin _ a b=>max a.depth b.depth+1
def Tr.names:Tr->List Str
 |.is x=>[x] | .yes=>[] | .no=>[] | .not a=>a.names | .bin _ a b=>a.names++b.names
def joinW:List Str:=["and","or","odd","same"]
def Tr.ok(ns:List Str):Tr->Prop
 |.is x=>x∈ns | .yes=>True | .no=>True | .not a=>a.ok ns | .bin w a b=>w∈joinW/\a.ok ns/\b.ok ns
inductive TreeAt(H:Hp):V->Tr->Prop
 |is {a:Addr} {x:Str}:H a=some (.tup [.str "is",.str x])->TreeAt H (.ref a) (.is x)
 |yes {a:Addr}:H a=some (.tup [.str "yes"])->TreeAt H (.ref a) .yes
 |no {a:Addr}:H a=some (.tup [.str "no"])->TreeAt H (.ref a) .no
 |not {a:Addr} {v:V} {t:Tr}:H a=some (.tup [.str "not",v])->TreeAt H v t->TreeAt H (.ref a) (.not t)
 |bin {a:Addr} {w:Str} {v u:V} {t r:Tr}:H a=some (.tup [.str w,v,u])->TreeAt H v t->TreeAt H u r->TreeAt H (.ref a) (.bin w t r)
abbrev cG(H H':Hp):Prop:=∀a xs,H a=some (.tup xs)->H' a=some (.tup xs)
def TreeAt.mono(k:cG H H')(h:TreeAt H v t):TreeAt H' v t:=by
 induction h with
 |is e=>exact .is (k _ _ e)
 |yes e=>exact .yes (k _ _ e)
 |no e=>exact .no (k _ _ e)
 |not e _ ih=>exact .not (k _ _ e) ih
 |bin e _ _ i1 i2=>exact .bin (k _ _ e) i1 i2
def aY(s:Same H H'):cG H H':=λa _ h=>s a _ h
def ki(F:FeedAt H f)(s:SameBut f H H'):cG H H':=λa xs h=>s a _ (λz=>by
 erw[o,t,e,_]at F;rw[z,e]at h;cases h) h
def NamesAt(H:Hp)(a:Addr)(ns:List Str):Prop:=H a=some (.lst (ns.map V.str))∨H a=some (.tup (ns.map V.str))
def NamesAt.ne(F:FeedAt H f)(h:NamesAt H a ns):a≠f:=λz=>by
 erw[o,t,e,_]at F;subst z;rcases h with h | h
 . rw [e]at h;let h':=HO.lst.inj (zS0 h);cases ns with
   |nil=>cases h'
   |cons x r=>simp at h'
 . rw[e]at h;cases h
def NamesAt.feed(F:FeedAt H f)(s:SameBut f H H')(h:NamesAt H a ns):NamesAt H' a ns:=by
 let ne:=h.ne F;rcases h with h | h
 . exact .inl (s _ _ ne h)
 . exact .inr (s _ _ ne h)
def NamesAt.same(s:Same H H')(h:NamesAt H a ns):NamesAt H' a ns:=by
 rcases h with h | h
 . exact .inl (s _ _ h)
 . exact .inr (s _ _ h)
def NamesAt.seq{K:W.Frag}(h:NamesAt H a ns):SqL K H a (ns.map V.str)∨SqT K H a (ns.map V.str):=by
 rcases h with h | h
 . exact .inl (zG0 h)
 . exact .inr (zC0 h)
def NamesAt.ix{K:W.Frag}{x:V}{Q:VK}(h:NamesAt H a ns)(hx:atI (ns.map V.str) i=some x)(q:Q x H):rIxL K (.ref a) (.int i) H Q∨rIxT K (.ref a) (.int i) H Q:=by
 rcases h with h | h
 . exact .inl %[a,_,i,x,1,1,zG0 h,hx|q]
 . exact .inr %[a,_,i,x,1,1,zC0 h,hx|q]
instance spTree(n:Nat):∀(f a:Addr)(room deep:Int)(ns:List Str),vs=[.ref f,.ref a,.int room,.int deep]->FeedAt H f->NamesAt H a ns->ns.length<=6->1<=room->room<=100->1<=deep->deep+1<=(n:Int)+1->(∀(v:V)(t:Tr)(H':Hp),FeedAt H' f->SameBut f H H'->TreeAt H' v t->t.ok ns->(t.size:Int)<=room->(t.depth:Int)<=deep->Q v H'):=1
def vk{α:Type}{l:List α}{i:Int}(h0:0<=i)(h:i<(l.length:Int)):∃v,atI l i=some v/\v∈l:=by
 let hk:i.toNat<l.length:=#[0]
 let q:atI l ((i.toNat:Nat):Int)=some l[i.toNat]:=cu (zL0 hk);let ek:((i.toNat:Nat):Int)=i:=#[0]
 rw[ek]at q;erw[_,q,qP0 hk]
end Mine
namespace L2
open PySem PySem.Spec PyProof.Rows
section
variable {X:Cx}
def vX(lo:Int)(n:Nat):List Int:=(List.range n).map λi:Nat=>lo+(i:Int)
def EH(lo:Int)(n:Nat):(vX lo n).length=n:=by unfold vX;rw[zF0,qR0]
def Cn{lo:Int}{n:Nat}{acc:List Value}(h:ItemsOf (λi v=>∃t,v=Value.int (lo+(i:Int)*1) t) acc.toArray n):Vals ((vX lo n).map V.int) acc:=by
 erw[h1,h2]at h;let l1:acc.length=n:=#[h1,0]
 let key:∀(k:Nat)(l:List Value),(∀i v,l[i]?=some v->∃t,v=Value.int (lo+((k+i:Nat):Int)) t)->Vals (((List.range' k l.length).map λi:Nat=>lo+(i:Int)).map V.int) l:=by
  intro k l
  induction l generalizing k with
  |nil=>intro _;exact .nil
  |cons a r ih=>
    intro h;let%[t|e]:=h 0 a rfl;rw[zR0,List.range'_succ,zZ0,zZ0];refine .cons %[t|by simpa using e] (ih (k+1) λi v hv=>?_);let%[t|e]:=h (i+1) v #[hv,0];erw[t,by rw[e];congr 2;omega]
 have:=key 0 acc λi v hv=>by
  let%[t|e]:=h2 i v #[hv,0];erw[t,by simpa using e]
 unfold vX;rw[←l1,List.range_eq_range'];exact this
instance ZtListRng(Q:VK)(vs:(List V))(H1:Hp):∀i j:Int,vs=[.int i,.int j]->-(2 ^ 62)<=i/\i<2 ^ 62/\-(2 ^ 62)<=j/\j<2 ^ 62->j-i<=1000->(∀p,H1 p=none->Q (.ref p) (upd H1 p (.lst ((vX i (j-i).toNat).map V.int)))):=0
def Ea(ta:TA):TE:=λσ H Q=>ta σ H λvs H1=>ZtListRng Q vs H1
def zJ{a b:Expr}{p1 p2 pos1 pos2:Pos}(hc:X.calm=true)(hg1:Gl X "list")(hm1:X.mg "list"=none)(hg2:Gl X "range")(hm2:X.mg "range"=none)(ha:PA X [a,b] ta)
 (hs1:starEach [(.Call (.Name "range" p2) [a,b] [] pos2:Expr)] X.env=[(false,eval (.Call (.Name "range" p2) [a,b] [] pos2) X.env)]:=by rfl)(hs:starEach [a,b] X.env=[(false,eval a X.env),(false,eval b X.env)]:=by rfl)(hs2:starEach [b] X.env=[(false,eval b X.env)]:=by rfl):
 PE X (.Call (.Name "list" p1) [.Call (.Name "range" p2) [a,b] [] pos2] [] pos1) (Ea ta):=by
 exists 4,Q,I,h;apply jC1 (iI I hg1 hm1 ky ?_);apply zN1 ?_ hs1 rfl;rw[hs1];show wpAny _ _ (spliced ((false,eval (.Call (.Name "range" p2) [a,b] [] pos2) X.env)::backTo pos1 (starEach [] X.env))) _ _ s;let step:‹X.w› (eval (.Call (.Name "range" p2) [a,b] [] pos2) X.env) (λv s1=>∃(r:Addr) (i j:Int) (t u k:Tok) (H1:Hp),v=.ref r/\#[8] H1 s1/\IsRange s1.heap r i j 1 t u k/\(-(2 ^ 62)<=i/\i<2 ^ 62/\-(2 ^ 62)<=j/\j<2 ^ 62)/\j-i<=1000/\
  ∀p,H1 p=none->Q (.ref p) (upd H1 p (.lst ((vX i (j-i).toNat).map V.int)))) X.xe s:=by
  apply Call_ (iI I hg2 hm2 boot_range (zN1 (thn (ha pos2 O7 s σ H _ I h) λus s1 ⟨vs,H1,I1,r1,q1⟩=>?_) (by rw[hs,hs2]) (by rw[hs2];rfl)));erw[i,j,e,q1,q2,q]at q1;subst e;cases r1 with
  |cons r rr=>
    cases rr with
    |cons r' rr=>
      cases rr;erw[t,1]at r;erw[t',1]at r';apply call_range_2 %[_,i,j,_,_,_,H1,1,I1.kept λb o e=>zQ0 _ e,IsRange.new ..,q1,q2|q]
 apply qY0 (thn step λv s1 hv=>?_);erw[r,i,j,t,u,k,H1,1,I1,hr,%[a1,a2,a3|a4],hle,q]at hv;apply jH0 ?_;let e2:Builtin.Range.rangeSize i j 1=(((j-i).toNat:Nat):Int):=by rw[rangeSize_one];split <;> omega
 apply call_list_range (I1.ok.hd hc) hr (small_one a1 a2 a3 a4) e2 #[0] λh' tk acc' c' hk hS hacc=>?_
 obtain⟨acc,rfl⟩:∃acc:List Value,acc'=acc.toArray:=%[acc'.toList|by simp]
 let rr:=Cn hacc;let I2:#[8] (upd H1 ‹s1› (.lst ((vX i (j-i).toNat).map V.int))) { s1 with heap:=h',toks:=tk }:=by
  apply I1.turnedNew (ch:=[]) (λb ob _ eb=>hk b ob eb) (λb hb=>absurd hb #[2]) (zH0 _) %[6,acc,c',rr|hS];rw[zF0,EH];exact cx #[0]
 erw[.ref ‹s1›,_,I2,1,q _ (I1.hok.fresh (zH0 _))]
instance rSum(K:W.Frag)(xs:List V)(H:Hp)(Q:VK):∀(a:Addr)(ns:List Int),xs=[.ref a]->SqL K H a (ns.map V.int)->(∀n∈ns,0<=n)->ns.sum<2 ^ 63->Q (.int ns.sum) H:=0
def tJ:∀{bs:List Int}{us:List Value}{i:Nat}{v:Value},Vals (bs.map V.int) us->us[i]?=some v->∃b t,bs[i]?=some b/\v=.int b t
 | [],_,_,_,.nil,h=>by simp at h
 |b::_,_,0,_,.cons r _,h=>by
   simp at h
   subst h;erw[t,e]at r;erw[b,t,1,e]
 |_::_,_,i+1,_,.cons _ t,h=>by
   let%[b,t,h1|h2]:=tJ (i:=i) t #[h,0];erw[b,t,by simpa using h1,h2]
def qm{ns:List Int}(h:∀n∈ns,0<=n)(j:Nat):0<=(ns.take j).sum/\(ns.take j).sum<=ns.sum:=by
 induction ns generalizing j with
 |nil=>simp
 |cons a r ih=>
   cases j with
   |zero=>
     have:=ih (λn hn=>h n (qK0 _ hn)) r.length
     rw[qB0]at this;let a0:=h a qA0;simp only[List.take_zero,List.sum_nil,zV1];omega
   |succ j=>
     have:=ih (λn hn=>h n (qK0 _ hn)) j
     let a0:=h a qA0;simp only[List.take_succ_cons,zV1];omega
def qx(ns:List Int)(j:Nat):preSum (λi=>ns[i]?.getD 0) j=(ns.take j).sum:=by
 induction j with
 |zero=>simp;rfl
 |succ j ih=>
   show preSum (λi=>ns[i]?.getD 0) j+(λi=>ns[i]?.getD 0) j=_;rw[ih,qC0,wC1];cases e:ns[j]? with
   |none=>simp [e]
   |some x=>simp [e]
def tZ(hc:X.calm=true):fL X (.builtin "sum") (rSum X.K):=by
 exists 4,xs,us,Q,I,r,h;erw[a,ns,1,hq,n0,nb,q]at h;let%[u,1|ru]:=kz r;cases ru;let%[its,r',p|hz]:=I.list hq;let hl:=r'.length;rw[zF0]at hl;let Pc:a<‹s›:=by erw[o,n,e,_]at p;exact zN0 e
 apply call_sum_walk (jG1 p.isList ?_);erw[‹s›,_,_,_,_,_,λi=>ns[i]?.getD 0,1,Walks.list (A:=X.A.in1) (I.ok.hd hc) ‹s› a (zV0 Pc) its.toArray,%[%[_,qD0 _ rfl,1|1]|p.isList.push _],6,6,6,6]
 . intro b hb;let hpz:∀o:Obj,(s.heap.push o).objs.size=‹s›+1:=λo=>by simp [Heap.push]
   show b<(s.heap.push _).objs.size;rw[hpz];rcases zX0 hb with e | e
   . rw[e];exact qR1 _
   . rw[Pg e];exact wG0 Pc
 . intro i v hP;let%[b,t,hb|1]:=tJ r' (i:=i) (v:=v) #[hP,0];erw[t,by simp [hb]]
 . intro j hj;let hj':j<ns.length:=by rw[hl];simpa using hj
   let s1:=qm n0 (j+1);rw[qx];erw[6,by unfold InLong;omega];let s2:=qm n0 j;let e:(ns.take (j+1)).sum=(ns.take j).sum+ns[j]:=by rw[qC0,wC1,zL0 hj'];simp
   let n1:=n0 _ (qP0 hj');show InLong (ns[j]?.getD 0);rw[zL0 hj'];show InLong ns[j];unfold InLong;omega
 . intro h' tk t' hk;rw[qx,zT0,←hl,qB0];erw[.int _,H,6,%[|0],q];let I1:#[8] H { s with heap:=s.heap.push { cls:=.type "list_iterator",data:=.fields #[.ref a,.int 0 0] } }:=I.kept (t':=s.toks) λb o e=>zQ0 _ e
   apply I1.turnedL (t':=tk) (ch:=[‹s›]) (λb o hb e=>hk b o #[hb,0] e) λb hb=>?_
   rw[Pg hb];exact I.fpOk (zH0 _) (I.hok.fresh (zH0 _))
end
def AO:Slot "reversed" "__iter__" "reversed.__iter__":=Slot.of (owner:="reversed") (n:="__iter__") (by rw[wR1,jP0];kernel_rfl) ⋯ ⋯ ⋯ (by first | exact .inl ⋯ | exact .inr ⋯) (by rw[vA0];kernel_rfl) ⋯
def rv_next:Slot "reversed" "__next__" "reversed.__next__":=Slot.of (owner:="reversed") (n:="__next__") (by rw[wR1,jP0];kernel_rfl) ⋯ ⋯ ⋯ (by first | exact .inl ⋯ | exact .inr ⋯) (by rw[vA0];kernel_rfl) ⋯
def DY:typeLookup (.type "tuple") "__reversed__"=pure none:=by rw[wR1,jP0];kernel_rfl
def Cl:entryFor table "reversed.__iter__"=some Builtin.«dict_keyiterator.__iter__»:=entryFor_alias (by kernel_rfl) rfl (show _="dict_keyiterator.__iter__" by decide) (by kernel_rfl)
def uO:entryFor table "reversed.__next__"=some Builtin.«reversed.__next__»:=entryFor_of_tree (by kernel_rfl)
def RevT(h:Heap)(it t:Addr)(i:Int):Prop:=h.get? it=some { cls:=.type "reversed",data:=.fields #[.ref t,rawInt i] }
section
variable {prog:Program}{w:World}{A:Around}{E:#[6]}{s:Shared}{R:Result->Shared->Prop}{it t:Addr}
def RevT.typeIs(h:RevT s.heap it t i):s.TypeIs (.ref it) "reversed":=%[_,h|1]
def uW{Q:#[6]}(h:RevT s.heap it t i)(q:Q (.ref it) s):‹w.A› (pyIter (.ref it)) Q E s:=
 wpAny_pyIter_slot h.typeIs AO (qL1 AO h.typeIs Cl (zI0 %[0,"reversed",_,h.typeIs,rv_next.lookup|q]) (by rfl))
def tj{i:Nat}{items:Array Value}{x:Value}{Q:Option Value->Shared->Prop}(h:RevT s.heap it t (i:Int))(ht:IsTup s.heap t items)(hx:items[i]?=some x)(hi:(i:Int)<2 ^ 63)
 (q:∀h' tk,RevT h' it t ((i:Int)-1)->Heap.SameBut it s.heap h'->Q (some x) { s with heap:=h',toks:=tk }):‹w.A› (pyNext (.ref it)) Q E s:=by
 let hT:=h.typeIs;let hs:i<items.size:=(Array.getElem?_eq_some_iff.mp hx).1;unfold pyNext;apply zD0 (wD0 (zS1 hT rv_next (qL1 rv_next hT uO ?_ (by rfl))));unfold Builtin.«reversed.__next__»;apply zD0 (jJ1 (show slotArgs "__next__" 0 %[[.ref it]|[]]=pure (.ref it,[])from rfl) ?_);apply zD0 (zW1 h rfl rfl ?_);apply zD0 (zW1 h rfl rfl ?_);apply zX1 (λhab=>absurd hab #[0]) (λ_=>?_);apply zD0 (wpAny_specialOf (show s.TypeIs (.ref t) "tuple" from ht.typeIs) PyProof.Rows.slot_tuple_getitem.lookup ?_);apply zX1 (λhab=>absurd hab #[2]) (λ_=>?_);apply zD0 (wpAny_mkInt ?_);let e1:seqIndex? (i:Int) items.size=some i:=(wN (by unfold ixN;rw[O9 #[0],O9 #[0]];simp)).1;apply zD0 (wD0 (PyProof.Rows.getItem_tuple (items:=items) (x:=x) ht #[0] hi e1 hx ?_));apply zD0 (zW1 h rfl rfl ?_);apply zD0 (qI1 h #[2] λh' e hb=>?_);apply zI0 %[0|zI0 (q h' _ ?_ hb)];exact e
def y0S:0<=sizeLine:=⋯
def y1S:1<=sizeLine:=⋯
def y2S:2<=sizeLine:=⋯
def y3S:3<=sizeLine:=⋯
def y4S:4<=sizeLine:=⋯
def y5S:5<=sizeLine:=⋯
def y6S:6<=sizeLine:=⋯
def y12S:12<=sizeLine:=⋯
def y18S:18<=sizeLine:=⋯
def y24S:24<=sizeLine:=⋯
def uD{Q:Option Value->Shared->Prop}(hh:A.handled=none)(h:RevT s.heap it t (-1))
 (q:∀h' tk,Heap.ExtBut it s.heap h'->Q none { s with heap:=h',toks:=tk }):‹w.A› (pyNext (.ref it)) Q E s:=by
 let hT:=h.typeIs;unfold pyNext;apply zD0 (wD0 (zS1 hT rv_next (qL1 rv_next hT uO ?_ (by rfl))));unfold Builtin.«reversed.__next__»;apply zD0 (jJ1 (show slotArgs "__next__" 0 %[[.ref it]|[]]=pure (.ref it,[])from rfl) ?_);apply zD0 (zW1 h rfl rfl ?_);apply zD0 (zW1 h rfl rfl ?_);apply zX1 (λ_=>?_) (λhab=>absurd ⋯ hab);apply zD0 (vB0 ?_);apply zD0 ?_;show wpAny _ _ (setField (.ref it) 1 (rawInt (-1)) >>= λ_=>setField (.ref it) 0 Value.none) _ _ _;apply zD0 (qI1 h #[2] λh1 e1 b1=>?_);apply qI1 e1 #[2] λh2 e2 b2=>?_
 apply zD0 ?_;unfold Builtin.SmallTypes.stopIteration newExc newTuple;apply zD0 (zD0 (zP1 ?_ y0S));apply zD0 (jJ1 (show firstArgMember (.type "StopIteration") []=pure .none by rfl') ?_);apply zP1 ?_ (sizeOk_excFields ..);apply wpAny_raiseNew_none hh ?_;apply zD0 (wL0 (T:="StopIteration") %[_,qD0 _ rfl|1] isSubtype_stop ?_);apply zX1 (λ_=>?_) (λhab=>absurd rfl hab);apply zI0 (q _ _ ?_);exact(b1.extBut.trans b2.extBut).trans λb o hb e=>zQ0 _ (zQ0 _ e)
def Ih:Slot "reversed" "__init__" "object.__init__":=Slot.of (owner:="object") (n:="__init__") (by rw[wR1,jP0];kernel_rfl) ⋯ ⋯ ⋯ (by first | exact .inl ⋯ | exact .inr ⋯) (by rw[vA0];kernel_rfl) ⋯
def Cm:TypeCalled "reversed" "reversed.__new__" "object.__init__":=%[4,F.create_reversed,%[_,_|F.mro_reversed],F.made_reversed,F.plain_reversed_new,F.sub_reversed_self|Ih]
def BT:isSubtype (.type "tuple") (.type "dict")=pure false:=by rw[vA0];kernel_rfl
def ph{items:Array Value}{Q:#[6]}(ht:IsTup s.heap t items)(hz:items.size<=sizeLine)
 (q:∀tk,Q (.ref ‹s›) { s with heap:=s.heap.push { cls:=.type "reversed",data:=.fields #[.ref t,rawInt ((items.size:Int)-1)] },toks:=tk }):‹w.A› (call (.type "reversed") [.ref t]) Q E s:=by
 let h63:=kh;apply callType_newIn Cm ⋯ (F.typeCall_reversed_1 _) (F.newCall_reversed_1 _) (λ_=>by rfl) F.entry_reversed_new
  (S:=λA R s=>wpAny (model prog w) A.in1 (Builtin.«reversed.__new__» %[[.type "reversed",.ref t]|[]]) (λfin s'=>match fin with | .done f=>R (.ok f) s' | .again c'=>c'.quiet=true/\codeAny (model prog w) A c' R s') (λe s'=>R (.error e) s') s) (λA R s h=>h) ?_
 unfold Builtin.«reversed.__new__»;apply zD0 (jJ1 (newClass_reversed _) ?_);apply zD0 (jJ1 (a:=()) rfl ?_);apply zD0 (jJ1 (a:=()) rfl ?_);apply zD0 (wpAny_specialOf ht.typeIs DY ?_);apply zD0 ?_;apply zD0 (wL0 ht.typeIs BT ?_);apply zX1 (λhab=>absurd hab ⋯) (λ_=>?_);apply zD0 (wpAny_specialOf ht.typeIs PyProof.Rows.slot_tuple_getitem.lookup ?_);apply zX1 (λ_=>?_) (λhab=>absurd ⋯ hab);apply zI0 ?_;apply zX1 (λhab=>absurd hab ⋯) (λ_=>?_);apply zD0 (len_tuple ht #[0] ?_);apply zD0 (zI0 ?_);apply zD0 (zP1 (data:=.fields #[.ref t,rawInt ((items.size:Int)-1)]) ?_ (by show 2<=sizeLine+2;decide));apply zI0 ?_;erw[%[_,qD0 _ rfl|1],q _]
end
end L2
namespace Mine
open PySem L2
def Tr.wf:Tr->Prop
 |.is x=>qk x | .yes=>True | .no=>True | .not a=>a.wf | .bin w a b=>w∈joinW/\a.wf/\b.wf
def Tr.parts:Tr->List Tr
 |.is _=>[] | .yes=>[] | .no=>[] | .not a=>[a] | .bin _ a b=>[a,b]
def Tr.ok_wf{ns:List Str}(hn:∀x∈ns,qk x):∀t:Tr,t.ok ns->t.wf
 |.is _,h=>hn _ h
 |.yes,_=>trivial
 |.no,_=>trivial
 |.not a,h=>Tr.ok_wf hn a h
 |.bin _ a b,⟨h,h1,h2⟩=>%[h,Tr.ok_wf hn a h1|Tr.ok_wf hn b h2]
def Tr.depth_pos:∀t:Tr,1<=t.depth
 |.is _=>zH0 _ | .yes=>zH0 _ | .no=>zH0 _ | .not a=>jP1 .. | .bin _ a b=>jP1 ..
def jk(ts:List Tr):Nat:=(ts.map Tr.size).sum
def iH(ts:List Tr):List Str:=(ts.map Tr.names).flatten
def Tr.size_parts(t:Tr):t.size=jk t.parts+1:=by
 cases t <;> simp [Tr.size,Tr.parts,jk]
def Tr.names_parts(t:Tr)(h:∀x,t≠.is x):t.names=iH t.parts:=by
 cases t with
 |is x=>exact absurd rfl (h x)
 |_=>simp [Tr.names,Tr.parts,iH]
def Tr.parts_mem{t u:Tr}(h:u∈t.parts)(w:t.wf):u.wf/\u.depth+1<=t.depth/\u.size+1<=t.size:=by
 cases t with
 |is x=>simp [Tr.parts]at h
 |yes=>simp [Tr.parts]at h
 |no=>simp [Tr.parts]at h
 |not a=>
   rw[Pg h];erw[w,zH0 _,zH0 _]
 |bin o a b=>
   erw[_,w1,w2]at w;rcases zX0 h with e | e
   . rw [e];erw[w1,6,6]
     . show a.depth+1<=max a.depth b.depth+1;omega
     . show a.size+1<=a.size+b.size+1;omega
   . rw [Pg e];erw[w2,6,6]
     . show b.depth+1<=max a.depth b.depth+1;omega
     . show b.size+1<=a.size+b.size+1;omega
inductive TreesAt(H:Hp):List V->List Tr->Prop
 |nil:TreesAt H [] []
 |cons {v:V} {t:Tr} {vs:List V} {ts:List Tr}:TreeAt H v t->TreesAt H vs ts->TreesAt H (v::vs) (t::ts)
def TreesAt.mono(k:cG H H')(h:TreesAt H vs ts):TreesAt H' vs ts:=by
 induction h with
 |nil=>exact .nil
 |cons a _ ih=>exact .cons (a.mono k) ih
def TreesAt.append(h:TreesAt H vs ts)(g:TreesAt H us rs):TreesAt H (vs++us) (ts++rs):=by
 induction h with
 |nil=>exact g
 |cons a _ ih=>exact .cons a ih
def TreesAt.length(h:TreesAt H vs ts):vs.length=ts.length:=by
 induction h with
 |nil=>rfl
 |cons _ _ ih=>rw[zR0,zR0,ih]
def TreesAt.get(h:TreesAt H vs ts):∀{i:Nat}{v:V},vs[i]?=some v->∃t,ts[i]?=some t/\TreeAt H v t:=by
 induction h with
 |nil=>intro i v e;simp at e
 |cons a _ ih=>
   intro i v e;cases i with
   |zero=>cases(zS0 e);erw[0,a]
   |succ i=>exact ih (i:=i) #[e,0]
def Aj{w:Str}(h:w∈joinW):w≠"is":=(by decide:∀w∈joinW,w≠("is":Str)) w h
def TreeAt.view(h:TreeAt H v t)(w:t.wf):(∃(a:Addr) (x:Str),v=.ref a/\t=.is x/\qk x/\H a=some (.tup [.str "is",.str x]))∨
 ∃(a:Addr) (o:Str) (xs:List V),v=.ref a/\o≠"is"/\xs.length<=2/\H a=some (.tup (.str o::xs))/\TreesAt H xs t.parts/\(∀x,t≠.is x):=by
 cases h with
 |is e=>exact .inl %[2,w|e]
 |yes e=>exact .inr %[_,_,[],1,4,by simp,e,.nil|λx z=>by cases z]
 |no e=>exact .inr %[_,_,[],1,4,by simp,e,.nil|λx z=>by cases z]
 |not e g=>exact .inr %[_,_,[_],1,4,by simp,e,.cons g .nil|λx z=>by cases z]
 |bin e g g2=>exact .inr %[_,_,[_,_],1,Aj w.1,by simp,e,.cons g (.cons g2 .nil)|λx z=>by cases z]
def Jb(o:V):∀xs:List V,xs.length<=2->jg (o::xs) (some 1) none=xs/\¬ (HT.sIx (o::xs).length 0 (some 1)=0/\HT.sIx (o::xs).length (o::xs).length none=(o::xs).length)
 | [],_=>%[1|λh=>absurd h.1 (show ¬ HT.sIx 1 0 (some 1)=0 by decide)]
 | [_],_=>%[1|λh=>absurd h.1 (show ¬ HT.sIx 2 0 (some 1)=0 by decide)]
 | [_,_],_=>%[1|λh=>absurd h.1 (show ¬ HT.sIx 3 0 (some 1)=0 by decide)]
 |_::_::_::_,h=>absurd h #[2]
def Tr.data:Tr->PyData
 |.is x=>.tuple [.str "is",.str x] | .yes=>.tuple [.str "yes"] | .no=>.tuple [.str "no"] | .not a=>.tuple [.str "not",a.data] | .bin w a b=>.tuple [.str w,a.data,b.data]
def EK{K:W.Frag}(h:TreeAt H v t):Rep K H v t.data:=by
 induction h with
 |is e=>exact .tup (zC0 e) (.cons (.str _) (.cons (.str _) .nil))
 |yes e=>exact .tup (zC0 e) (.cons (.str _) .nil)
 |no e=>exact .tup (zC0 e) (.cons (.str _) .nil)
 |not e _ ih=>exact .tup (zC0 e) (.cons (.str _) (.cons ih .nil))
 |bin e _ _ i1 i2=>exact .tup (zC0 e) (.cons (.str _) (.cons i1 (.cons i2 .nil)))
def Ed(h:qk x):PyData.strOk x=true:=by
 unfold PyData.strOk;rw[←Array.all_toList,wK1];intro c hc
 have:=h.2.1 c hc
 exact zC1 #[0]
def rD:∀t:Tr,t.wf->PyData.canLay0 t.data=true/\PyData.depth t.data<=t.depth+1
 |.is x,h=>by
   have:=Ed h
   simp [Tr.data,PyData.canLay0,PyData.canLayAll0,PyData.depth,PyData.depthAll,Tr.depth,this]
   decide
 |.yes,_=>by
   simp [Tr.data,PyData.canLay0,PyData.canLayAll0,PyData.depth,PyData.depthAll,Tr.depth]
   decide
 |.no,_=>by
   simp [Tr.data,PyData.canLay0,PyData.canLayAll0,PyData.depth,PyData.depthAll,Tr.depth]
   decide
 |.not a,h=>by
   let ih:=rD a h;let w0:PyData.strOk "not"=true:=by decide
   simp [Tr.data,PyData.canLay0,PyData.canLayAll0,PyData.depth,PyData.depthAll,Tr.depth,ih.1,w0]
   omega
 |.bin w a b,⟨hw,h1,h2⟩=>by
   let i1:=rD a h1;let i2:=rD b h2;let w0:PyData.strOk w=true:=(by decide:∀w∈joinW,PyData.strOk w=true) w hw
   simp [Tr.data,PyData.canLay0,PyData.canLayAll0,PyData.depth,PyData.depthAll,Tr.depth,i1.1,i2.1,w0]
   omega
def Tr.names_len:∀t:Tr,t.names.length<=t.size
 |.is _=>zH0 _
 |.yes=>zW0 _
 |.no=>zW0 _
 |.not a=>Nat.le_succ_of_le (Tr.names_len a)
 |.bin _ a b=>by
   have:=Tr.names_len a
   have:=Tr.names_len b
   show(a.names++b.names).length<=a.size+b.size+1;rw[zJ0];omega
end Mine
namespace L2
open PySem PySem.Spec PyProof.Rows
section
variable {prog:Program}{w:World}{A:Around}{E:#[6]}{s:Shared}
def KN(xs:Array Value)(x:Value):Nat->Option PySem.Fin×Unit->Sem (ForInStep (Option PySem.Fin×Unit)):=λi _=>match xs[i]? with
 |some y=>do
   let b ←eqBool y x
   if b=true then do
    let r ←retInt (i:Int)
    pure (ForInStep.done (some r,()))
    else pure (ForInStep.yield (none,()))
 |_=>pure (ForInStep.yield (none,()))
def yr{xs:Array Value}{x:Value}{e:Value->Bool}(he:∀y∈xs,SeqAt.EqAt A s y x (e y)){j:Nat}(hj:j<xs.size)(ej:e xs[j]=true)(bf:∀(m:Nat) (hm:m<xs.size),m<j->e xs[m]=false){Q:Option PySem.Fin×Unit->Shared->Prop}
 (q:Q (some (.done (.ret (.int (j:Int) s.toks))),()) { s with toks:=s.toks+1 }):∀(n k:Nat),k<=j->j<k+n->k+n<=xs.size->‹w.A› (forIn (List.range' k n 1) ((none:Option PySem.Fin),()) (KN xs x)) Q E s
 |0,k,h1,h2,_=>absurd h2 #[0]
 |n+1,k,h1,h2,h3=>by
   let hk:k<xs.size:=#[0]
   rw [List.range'_succ,List.forIn_cons];apply zD0 ?_;let e1:KN xs x k ((none:Option PySem.Fin),())=(do
    let b ←eqBool xs[k] x
    if b=true then do
     let r ←retInt (k:Int)
     pure (ForInStep.done (some r,()))
     else pure (ForInStep.yield (none,()))):=by
    unfold KN;rw[Array.getElem?_eq_getElem hk]
   rw[e1];apply zD0 (he _ (Array.getElem_mem hk) prog w _ _ ?_)
   by_cases c:k=j
   . subst c;rw[ej];apply zX1 (λ_=>?_) (λhab=>absurd rfl hab);apply zD0 ?_;apply zD0 (wpAny_mkInt ?_);apply zI0 ?_;apply zI0 ?_;exact zI0 q
   . rw[bf k hk #[0]];apply zX1 (λhab=>absurd hab ⋯) (λ_=>?_);apply zI0 ?_;exact yr he hj ej bf q n (k+1) #[0] #[0] #[0]
def tE(l:Addr)(items:Array Value)(n:Nat)(dd:Option Addr)(sl:Array (Option Value))(x:Value)(e:Value->Bool)(j:Nat)(hj:j<items.size)(ej:e items[j]=true)(bf:∀(m:Nat) (hm:m<items.size),m<j->e items[m]=false):
 Meets (Builtin.«tuple.index» { pos:=[.ref l,x] }) λA R s=>s.heap.get? l=some { cls:=.type "tuple",dict:=dd,data:=.seq items n,slots:=sl }/\(∀y∈items,SeqAt.EqAt A.in1 s y x (e y))/\R (.ok (.ret (.int (j:Int) s.toks))) { s with toks:=s.toks+1 }:=by
 intro prog w A R s ⟨hl,he,q⟩;unfold Builtin.«tuple.index»;apply zD0 (jJ1 (a:=(Value.ref l,[x])) rfl ?_);apply zD0 (wpAny_tupleItemsOf hl rfl ?_);apply zD0 (zI0 ?_);apply zD0 (zI0 ?_);apply zD0 ?_;rw[Std.Legacy.Range.forIn_eq_forIn_range'];let e1:Std.Legacy.Range.size [0:min items.size items.size]=items.size:=by simp [Std.Legacy.Range.size]
 rw[e1];apply yr he hj ej bf ?_ items.size 0 (zW0 _) #[0] #[0];exact zI0 q
end
section
variable {X:Cx}
def eY(z:Str):List Str->Option Nat
 | []=>none
 |a::r=>if a=z then some 0 else(eY z r).map (·+1)
def sK:∀{ns:List Str}{j:Nat},eY z ns=some j->ns[j]?=some z/\∀m,m<j->∀y,ns[m]?=some y->y≠z
 | [],_,h=>by simp [eY]at h
 |a::r,j,h=>by
   unfold eY at h
   by_cases c:a=z
   . rw[O9 c]at h;cases h;erw[by simp [c],λm hm=>absurd hm #[0]]
   . rw [O8 c]at h;let%[i,hi|1]:=qT0 h;let%[h1|h2]:=sK hi;erw[by simpa using h1,λm hm y hy=>?_];cases m with
     |zero=>cases(zS0 hy);exact c
     |succ m=>exact h2 m #[0] y #[hy,0]
def rN:∀{bs:List Str}{us:List Value}{i:Nat}{v:Value},Vals (bs.map V.str) us->us[i]?=some v->∃b t,bs[i]?=some b/\v=.str b t
 | [],_,_,_,.nil,h=>by simp at h
 |b::_,_,0,_,.cons r _,h=>by
   simp at h
   subst h;erw[t,e]at r;erw[b,t,1,e]
 |_::_,_,i+1,_,.cons _ t,h=>by
   let%[b,t,h1|h2]:=rN (i:=i) t #[h,0];erw[b,t,by simpa using h1,h2]
def ip(ns:List Str):(ns.map V.str).all kF=true:=by
 induction ns with
 |nil=>rfl
 |cons a r ih=>rw[zZ0,wC0,ih];rfl
def qG{ns:List Str}{j:Nat}(r:Vals (ns.map V.str) its)(h:eY z ns=some j):
 ∃hj:j<its.toArray.size,eqU (.str z) its.toArray[j]=true/\∀(m:Nat)(hm:m<its.toArray.size),m<j->eqU (.str z) its.toArray[m]=false:=by
 let%[h1|h2]:=sK h;let hl:=r.length;rw[zF0]at hl;let jl:j<ns.length:=(Pj h1).1;let hj:j<its.toArray.size:=by rw[zT0,←hl];exact jl
 erw[hj,6,λm hm mj=>?_]
 . let%[b,t,e1|e2]:=rN r (i:=j) (v:=its.toArray[j]) #[2];rw[e2];rw[h1]at e1;cases e1;show(z==z)=true
   simp
 . let%[b,t,e1|e2]:=rN r (i:=m) (v:=its.toArray[m]) #[2];rw[e2];show(b==z)=false
   have:=h2 m mj b e1
   simpa using this
instance rIndexT(K:W.Frag)(x:V)(vs:List V)(H:Hp)(Q:VK):∀(a:Addr)(ns:List Str)(z:Str)(j:Nat),x=.ref a->vs=[.str z]->SqT K H a (ns.map V.str)->eY z ns=some j->Q (.int (j:Int)) H:=0
def CN:MtR X "tuple.index" (rIndexT X.K):=by
 exists 4,x,vs,v,us,Q,I,rx,rv,h;erw[a,ns,z,j,1,1,hq,hp,q]at h;cases rx;erw[u,1,ru]at rv.one;let%[its,r,%[%[cls,dd,data|sl],ho,hc,n|hd]|hz]:=I.tuple hq;simp only at hc hd;subst hc hd;let%[hj,e1|e2]:=qG r hp;apply jA1 F.slot_tuple_index %[_,ho|1] F.entry_tuple_index (F.args_tuple_index_2 _ _) (tE a its.toArray n dd sl u (eqU (.str z)) j hj e1 e2) ⟨ho,λy hy=>?_,?_⟩
 . exact gP ru rfl r (ip ns) y #[hy,0]
 . erw[.int (j:Int),H,I.tok _,%[|0],q]
instance rIndexL(K:W.Frag)(x:V)(vs:List V)(H:Hp)(Q:VK):∀(a:Addr)(ns:List Str)(z:Str)(j:Nat),x=.ref a->vs=[.str z]->SqL K H a (ns.map V.str)->eY z ns=some j->Q (.int (j:Int)) H:=0
def CO:MtR X "list.index" (rIndexL X.K):=by
 exists 4,x,vs,v,us,Q,I,rx,rv,h;erw[a,ns,z,j,1,1,hq,hp,q]at h;cases rx;erw[u,1,ru]at rv.one;let%[its,r,%[%[cls,dd,data|sl],n,ho,hc,hdd|hd]|hz]:=I.list hq;simp only at hc hd;subst hc hd;let%[hj,e1|e2]:=qG r hp;let h63:=kh;let hl:=r.length;apply jA1 F.slot_list_index %[_,ho|1] F.entry_list_index (F.args_list_index_2 _ _) (SeqAt.list_indexAt a its.toArray n dd sl u (eqU (.str z)) j hj (by rw[zT0]at hj;omega) e1 e2) ⟨ho,λy hy=>?_,?_⟩
 . exact gP ru rfl r (ip ns) y #[hy,0]
 . erw[.int (j:Int),H,I.tok _,%[|0],q]
end
section
variable {κ:Type}[DecidableEq κ]
def ir(Pb:List (κ×V))(k:κ):Option V:=(Pb.find? λkv=>decide (kv.1=k)).map (·.2)
def oC(Pb:List (κ×V))(k:κ)(v:V):List (κ×V):=
 if(Pb.any λkv=>decide (kv.1=k))=true then Pb.map (λkv=>if kv.1=k then(kv.1,v)else kv)else Pb++[(k,v)]
def eg{p:κ×V}{r:List (κ×V)}{k:κ}(e:p.1=k):ir (p::r) k=some p.2:=by simp [ir,jQ0,e]
def eA{p:κ×V}{r:List (κ×V)}{k:κ}(e:¬ p.1=k):ir (p::r) k=ir r k:=by simp [ir,jQ0,e]
def nV(k:κ):∀Pb:List (κ×V),(Pb.any λkv=>decide (kv.1=k))=(ir Pb k).isSome
 | []=>rfl
 |p::r=>by
   rw[jJ0]
   by_cases e:p.1=k
   . simp only[eg e,zC1 e,Bool.true_or,Option.isSome_some]
   . rw[eA e,zB1 e,Bool.false_or];exact nV k r
def xj(k j:κ)(y:V):∀Pb:List (κ×V),ir (Pb.map λkv=>if kv.1=k then(kv.1,y)else kv) j=(ir Pb j).map λx=>if j=k then y else x
 | []=>rfl
 |p::r=>by
   let ih:=xj k j y r;rw[zZ0]
   by_cases h:p.1=k
   . rw [O9 h]
     by_cases e:p.1=j
     . rw[eg (p:=(p.1,y)) e,eg e,wS0,O9 (e.symm.trans h)]
     . rw[eA (p:=(p.1,y)) e,eA e,ih]
   . rw [O8 h]
     by_cases e:p.1=j
     . rw[eg (p:=p) e,eg e,wS0,O8 (λz=>h (e.trans z))]
     . rw[eA (p:=p) e,eA e,ih]
def uI(k j:κ)(y:V):∀Pb:List (κ×V),ir Pb k=none->ir (Pb++[(k,y)]) j=if j=k then some y else ir Pb j
 | [],_=>by
   by_cases e:k=j
   . rw[O9 e.symm];exact eg (p:=(k,y)) e
   . rw[O8 (λz=>e z.symm)];exact eA (p:=(k,y)) e
 |p::r,hn=>by
   rw[List.cons_append];let hk:¬ p.1=k:=λz=>by rw[eg z]at hn;cases hn
   rw[eA hk]at hn;let ih:=uI k j y r hn
   by_cases e:p.1=j
   . rw[eg e,eg e,O8 (λz=>hk (e.trans z))]
   . rw[eA e,eA e,ih]
def DT(Pb:List (κ×V))(k j:κ)(y:V):ir (oC Pb k y) j=if j=k then some y else ir Pb j:=by
 unfold oC
 by_cases a:(Pb.any λkv=>decide (kv.1=k))=true
 . rw [O9 a,xj];rw[nV]at a
   by_cases e:j=k
   . let%[x|hx]:=Option.isSome_iff_exists.mp a;rw[O9 e,e,hx,wS0,O9 rfl]
   . rw [O8 e];cases ir Pb j with
     |none=>rfl
     |some x=>rw[wS0,O8 e]
 . rw [O8 a];apply uI k j y Pb ?_;rw[nV]at a;cases q:ir Pb k with
   |none=>rfl
   |some x=>rw[q]at a;exact(a rfl).elim
def lu(Pb:List (κ×V))(k:κ)(v:V):(oC Pb k v).length<=Pb.length+1:=by
 unfold oC
 split
 . rw[zF0];omega
 . rw[zJ0,zR0,zH1];omega
def RelO.isSome_eq(r:RelO o u):o.isSome=u.isSome:=by
 cases o with
 | none=>cases u with
   |none=>rfl
   |some _=>exact(show False from r).elim
 | some _=>cases u with
   |none=>exact(show False from r).elim
   |some _=>rfl
def RelO.getD(r:RelO o u)(rd:RelV d d'):RelV (o.getD d) (u.getD d'):=by
 cases o with
 | none=>cases u with
   |none=>exact rd
   |some _=>exact(show False from r).elim
 | some _=>cases u with
   |none=>exact(show False from r).elim
   |some _=>exact r
def KV.val{Pb:List (κ×V)}{vs:List (κ×Value)}(r:KV Pb vs)(k:κ):RelO (ir Pb k) (valueAt vs k):=by
 unfold KV at r
 induction r with
 |nil=>exact True.intro
 | @cons p q ps qs h t ih=>
   erw[h1,h2]at h
   by_cases e:p.1=k
   . let e':q.1=k:=h1.symm.trans e;let b:valueAt (q::qs) k=some q.2:=by simp [valueAt,jQ0,e']
     rw[eg e,b];exact h2
   . let e':¬ q.1=k:=λz=>e (h1.trans z)
     let b:valueAt (q::qs) k=valueAt qs k:=by simp [valueAt,jQ0,e']
     rw[eA e,b];exact ih
def KV.any{Pb:List (κ×V)}{vs:List (κ×Value)}(r:KV Pb vs)(k:κ):(Pb.any λkv=>decide (kv.1=k))=vs.any λkv=>decide (kv.1=k):=by
 unfold KV at r
 induction r with
 |nil=>rfl
 |cons h t ih=>rw[jJ0,jJ0,ih,h.1]
def KV.repl{Pb:List (κ×V)}{vs:List (κ×Value)}(r:KV Pb vs)(k:κ)(ry:RelV y u):
 KV (Pb.map λkv=>if kv.1=k then(kv.1,y)else kv) (vs.map λkv=>if kv.1=k then(kv.1,u)else kv):=by
 unfold KV at r ⊢
 induction r with
 |nil=>exact .nil
 | @cons p q ps qs h t ih=>
   rw[zZ0,zZ0];refine .cons ?_ ih;erw[h1,h2]at h
   by_cases e:p.1=k
   . rw[O9 e,O9 (h1.symm.trans e)];erw[h1,ry]
   . rw[O8 e,O8 (λz=>e (h1.trans z))];erw[h1,h2]
def KV.put{Pb:List (κ×V)}{vs:List (κ×Value)}(r:KV Pb vs)(k:κ)(ry:RelV y u):KV (oC Pb k y) (stored vs k u):=by
 unfold oC stored;rw[r.any k]
 by_cases e:(vs.any λkv=>decide (kv.1=k))=true
 . rw[O9 e,O9 e];exact r.repl k ry
 . rw[O8 e,O8 e];exact Paired.snoc r %[1|ry]
def KV.length{Pb:List (κ×V)}{vs:List (κ×Value)}(r:KV Pb vs):Pb.length=vs.length:=Paired.length r
end
def FZ(r:RelV (kV k) u):(dL P w).is k u=true:=by
 cases k with
 |inl i=>let%[t|e]:=(show ∃t,u=Value.int i t from r);subst e;exact yf P w i t
 |inr x=>let%[t|e]:=(show ∃t,u=Value.str x t from r);subst e;exact ye P w x t
def uX:∀{ks:List Key}{us:List Value},Vals (ks.map kV) us->ItemsAre (dL P w) ks us
 | [],_,r=>by rw[List.map_nil]at r;cases r;exact .nil
 |k::ks,_,r=>by
   rw[zZ0]at r;cases r with
   |cons h t=>exact .cons (FZ h) (uX t)
abbrev KT(H:Hp):List (List Key×V)->List (List Key×Addr×Value)->Prop:=Paired λp q=>p.1=q.1/\H q.2.1=some (.tup (p.1.map kV))/\RelV p.2 q.2.2
def KT.val{Pb:List (List Key×V)}{xs:List (List Key×Addr×Value)}(r:KT H Pb xs)(k:List Key):RelO (ir Pb k) ((atKey xs k).map (·.2)):=by
 induction r with
 |nil=>exact True.intro
 | @cons p q ps qs h t ih=>
   erw[h1,_,h2]at h
   by_cases e:p.1=k
   . let e':q.1=k:=h1.symm.trans e;let b:atKey (q::qs) k=some q.2:=by simp [atKey,jQ0,e']
     rw[eg e,b];exact h2
   . let e':¬ q.1=k:=λz=>e (h1.trans z)
     let b:atKey (q::qs) k=atKey qs k:=by simp [atKey,jQ0,e']
     rw[eA e,b];exact ih
def KT.repl{Pb:List (List Key×V)}{xs:List (List Key×Addr×Value)}(r:KT H Pb xs)(k:List Key)(ry:RelV y u):
 KT H (Pb.map λkv=>if kv.1=k then(kv.1,y)else kv) (xs.map (putAt k u)):=by
 induction r with
 |nil=>exact .nil
 | @cons p q ps qs h t ih=>
   rw[zZ0,zZ0];refine .cons ?_ ih;erw[h1,h2,h3]at h;unfold putAt
   by_cases e:p.1=k
   . rw[O9 e,O9 (h1.symm.trans e)];erw[h1,h2,ry]
   . rw[O8 e,O8 (λz=>e (h1.trans z))];erw[h1,h2,h3]
def KT.put{Pb:List (List Key×V)}{xs:List (List Key×Addr×Value)}(r:KT H Pb xs)(k:List Key){b:Addr}(hb:H b=some (.tup (k.map kV)))(ry:RelV y u):
 KT H (oC Pb k y) (storedH xs k b u):=by
 let e:(Pb.any λkv=>decide (kv.1=k))=(atKey xs k).isSome:=by
  rw[nV,(r.val k).isSome_eq,Option.isSome_map]
 unfold oC storedH;rw[e]
 by_cases q:(atKey xs k).isSome=true
 . rw[O9 q,O9 q];exact r.repl k ry
 . rw[O8 q,O8 q];exact Paired.snoc r %[1,hb|ry]
def KT.keeps{H':Hp}{Pb:List (List Key×V)}{xs:List (List Key×Addr×Value)}(r:KT H Pb xs)(ht:∀b ys,H b=some (.tup ys)->H' b=some (.tup ys)):KT H' Pb xs:=
 Paired.mapP r λ_ _ z=>%[z.1,ht _ _ z.2.1|z.2.2]
section
variable {P:Program}{w:World}{H:Hp}{h:Heap}{a:Addr}
def Ju(ok:HOk P w H h)(e:Rd H a u):ObjOk P w H h a u:=e.ok ok
def By{Pb:List (Key×V)}(ok:HOk P w H h)(e:Rd H a (.dK Pb)):Pb.length<=sizeLine/\(a==sysModules)=false/\∃vs,KV Pb vs/\h.DictOf (dL P w) a vs:=
 show ObjOk P w H h a (.dK Pb)from Ju ok e
def dk_of{Pb:List (Key×V)}(ok:HOk P w H h)(e:H a=some (.dK Pb)):Pb.length<=sizeLine/\(a==sysModules)=false/\∃vs,KV Pb vs/\h.DictOf (dL P w) a vs:=By ok (.inl e)
def Ai{ks:List Key}(ok:HOk P w H h)(e:H a=some (.tup (ks.map kV))):(tupleKind (dL P w)).is h ks a:=by
 let%[_,its,r,%[o,h1,h2,n|h3]|_]:=(show ObjOk P w H h a (.tup (ks.map kV))from ok a _ e)
 erw[o,its.toArray,n,h1,h2,h3,by simpa using uX r]
def GK{Pb:List (List Key×V)}(ok:HOk P w H h)(e:Rd H a (.dT Pb)):Pb.length<=sizeLine/\(a==sysModules)=false/\
 ∃xs,KT H Pb xs/\h.DictOfH (tupleKind (dL P w)) a xs:=by
 let%[z,y,xs,r,o,es,ep,h1,h2,h3,h4|h5]:=(show ObjOk P w H h a (.dT Pb)from Ju ok e)
 erw[z,y,xs,r,o,es,ep,h1,h2,h3,h4,λx hx=>?_,h5];let all:∀{l:List (List Key×V)}{m:List (List Key×Addr×Value)},KT H l m->∀x∈m,(tupleKind (dL P w)).is h x.1 x.2.1:=by
  intro l m q
  induction q with
  |nil=>intro x hx;exact nomatch hx
  | @cons p q ps qs hq t ih=>
    intro x hx;rcases zX0 hx with e | hx
    . subst e;exact Ai ok (by rw[←hq.1];exact hq.2.1)
    . exact ih x hx
 exact all r x hx
def dt_of{Pb:List (List Key×V)}(ok:HOk P w H h)(e:H a=some (.dT Pb)):Pb.length<=sizeLine/\(a==sysModules)=false/\
 ∃xs,KT H Pb xs/\h.DictOfH (tupleKind (dL P w)) a xs:=GK ok (.inl e)
end
def DGet(H:Hp)(a:Addr)(y:V)(r:Option V):Prop:=
 (∃Pb k,Rd H a (.dK Pb)/\y=kV k/\r=ir Pb k)∨∃Pb k b,Rd H a (.dT Pb)/\y=.ref b/\H b=some (.tup (k.map kV))/\r=ir Pb k
def DPut(H:Hp)(a:Addr)(y v:V)(H':Hp):Prop:=
 (∃Pb k,H a=some (.dK Pb)/\y=kV k/\Pb.length<sizeLine/\H'=upd H a (.dK (oC Pb k v)))∨
 ∃Pb k b,H a=some (.dT Pb)/\y=.ref b/\H b=some (.tup (k.map kV))/\Pb.length<sizeLine/\H'=upd H a (.dT (oC Pb k v))
def DGet.k{H:Hp}{a:Addr}{Pb:List (Key×V)}{k:Key}(e:H a=some (.dK Pb)):DGet H a (kV k) (ir Pb k):=.inl %[Pb,k,.inl e,1|1]
def DPut.k{H:Hp}{a:Addr}{Pb:List (Key×V)}{k:Key}(e:H a=some (.dK Pb))(hl:Pb.length<sizeLine):DPut H a (kV k) v (upd H a (.dK (oC Pb k v))):=.inl %[Pb,k,e,1,hl|1]
section
variable {X:Cx}{O7:#[7]}{σ:St}{H:Hp}{s:Shared}{a:Addr}{y v:V}{u r:Value}{o:Option V}{A:Around}{E:#[6]}
def Inv.big(I:#[8] H s):sysModules<‹s›:=by
 let h:mainGlobals<‹s›:=(I.mod.glob.keeps I.bk).lt;exact Nat.lt_trans ⋯ h
def BC{h':Heap}{t':Nat}(I:#[8] H s)(mu:Mut (H a))(hs:Heap.SameBut a s.heap h')(he:∃q,h'.get? a=some q)(new:ObjOk X.prog X.w (upd H a ob) h' a ob):
 #[8] (upd H a ob) { s with heap:=h',toks:=t' }:=
 I.write (x:=a) (e:=a) mu (.inl rfl) (λb q hb z=>(hs.2 b hb).trans z) he new
def GQ{H':Hp}{h':Heap}{Pb:List (Key×V)}{vs:List (Key×Value)}(z:Pb.length<=sizeLine)(hd:(a==sysModules)=false)(rel:KV Pb vs)(dd:h'.DictOf (dL P w) a vs):
 ObjOk P w H' h' a (.dK Pb):=%[z,hd,vs,rel|dd]
def Dz{Q:Unit->Shared->Prop}(hu:A.units+1<cLine)(I:#[8] H s)(g:DPut H a y v H')(ry:RelV y u)(rv:RelV v r)(h:∀s',#[8] H' s'->Q () s'):
 wpAny (model X.prog X.w) A (setItem (.ref a) u r) Q E s:=by
 rcases g with⟨Pb,k,e,ey,l,eH⟩ | ⟨Pb,k,b,e,ey,eb,l,eH⟩
 . subst ey eH;let%[z,hd,vs,rel|dd]:=dk_of I.hok e;let hz:vs.length<=sizeLine:=by rw[←rel.length];exact z
   let hl:(oC Pb k v).length<=sizeLine:=by have:=lu Pb k v;omega
   apply wpAny_setItem_pairs (hsz:=hz) (FZ ry) dd λh' dd' hs=>h _ ?_
   let he:∃q,h'.get? a=some q:=let⟨q,_,_,hq,_⟩:=dd';%[q|hq]
   exact BC I (by rw[e];exact True.intro) hs he (GQ hl hd (rel.put k rv) dd')
 . subst ey eH;cases(show u=Value.ref b from ry);let%[z,hd,xs,rel|dd]:=dt_of I.hok e;let hz:xs.length<=sizeLine:=by rw[←Paired.length rel];exact z
   let hl:(oC Pb k v).length<=sizeLine:=by have:=lu Pb k v;omega
   apply wpAny_setItem_heap (hsz:=hz) (tupleKind_room_in1 hu) (Ai I.hok eb) dd λh' dd' hs=>h _ ?_
   erw[q,es,ep,hq,h2,h3,h4,_,h5]at dd';apply BC I (by rw[e];exact True.intro) hs ⟨q,hq⟩ ⟨hl,hd,_,(rel.put k eb rv).keeps λc ys ec=>?_,q,es,ep,hq,h2,h3,h4,h5⟩;rw[aD (bt ec e (λz=>nomatch z))];exact ec
end
instance ZsDPut(D:Ends)(σ:St)(v:V)(x:V)(y:V)(H3:Hp):∀a H4,x=.ref a->DPut H3 a y v H4->D.nx σ H4:=0
def sDPut(td ty tv:TE):TS:=λD σ H=>tv σ H λv H1=>td σ H1 λx H2=>ty σ H2 λy H3=>ZsDPut D σ v x y H3
section
variable {X:Cx}{o i e value:Expr}{pos pos' tpos:Pos}{td ty tv:TE}
def Ij(hu:X.A.units+1<cLine)(ho:PE X o td)(hi:PE X i ty)(hv:PE X value tv)(hs:swapsWith value (some (.Subscript o i pos')) pos.line X.env=pure false):
 PS X (.Assign [.Subscript o i pos'] value pos) (sDPut td ty tv):=by
 exists 4,D,I,h;apply wpAny_Assign_Subscript (thn (hv O7 s σ H _ I h) λr s1 ⟨v,H1,I1,rv,q1⟩=>thn (ho O7 s1 σ H1 _ I1 q1) λu s2 ⟨x,H2,I2,rx,q2⟩=>thn (hi O7 s2 σ H2 _ I2 q2) λiv s3 ⟨y,H3,I3,ry,a,H4,ex,g,q3⟩=>?_) hs;subst ex;obtain rfl:u=Value.ref a:=rx;exact Dz hu I3 g ry rv λs4 I4=>%[σ,H4,I4|q3]
end
def GV{P:Program}{w:World}{H:Hp}(h:Heap)(hb:sysModules<h.objs.size):ObjOk P w H (h.push { cls:=.type "dict",data:=.dict #[] }) h.objs.size (.dK []):=
 %[zW0 _,beq_eq_false_iff_ne.mpr (Ne.symm (zV0 hb)),[],.nil|Heap.DictOf.new h]
def JY:TE:=λ_ H Q=>∀p,H p=none->Q (.ref p) (upd H p (.dK []))
section
variable {X:Cx}{pos:Pos}
def EU:PE X (.Dict [] [] pos) JY:=λO7 s σ H Q I h=>
 wpAny_Dict_empty %[.ref ‹s›,_,I.laid (a:=‹s›) (o:=.dK []) (t':=s.toks) (λ_ _ q=>zQ0 _ q) (zH0 _) (GV s.heap I.big),1|h _ (I.hok.fresh (zH0 _))]
end
structure M2(X:Cx)(o:Expr)(m:Str)(Pi:Pos)(e f:Expr)(Pe:Pos):Prop where
 base:attributeBase o m X.env (eval o X.env)=eval o X.env
 few:((backTo Pe (starEach [e,f] X.env)).all (λx=>!x.1)&&(backToKw Pe (keywordEach [] X.env)).all (λx=>x.1.isSome)
  &&decide (([e,f]:List Expr).length+([]:List Keyword).length+(if([]:List Keyword).isEmpty then 0 else 1)<30))=true
 line:(Pi.endLine==Pe.line)=true
 trees:backTo Pe (starEach [e,f] X.env)=[(false,eval e X.env),(false,eval f X.env)]
def IsD(H:Hp)(a:Addr):Prop:=(∃Pb,Rd H a (.dK Pb))∨∃Pb,Rd H a (.dT Pb)
def KK{σ:St}(I:#[8] H s)(d:IsD H a):
 s.TypeIs (.ref a) "dict"/\(∀b,Value.ref a=.ref b->∃ob,s.heap.get? b=some ob/\ob.dict=none)/\(a==sysModules)=false:=by
 rcases d with⟨Pb,e⟩ | ⟨Pb,e⟩
 . let%[_,hd,vs,_|dd]:=By I.hok e;erw[dd.typeIs,λb q=>?_,hd];cases q;erw[ob,_,_,h1,h2,_]at dd;erw[ob,h1,h2.2.1]
 . let%[_,hd,xs,_|dd]:=GK I.hok e;erw[dd.typeIs,λb q=>?_,hd];cases q;erw[ob,_,_,h1,h2,_]at dd;erw[ob,h1,h2.2.1]
section
variable {X:Cx}{O7:#[7]}{σ:St}{H:Hp}{s:Shared}{a:Addr}{y d:V}{u r:Value}{o:Option V}{A:Around}{E:#[6]}
def Li{Q:#[6]}(hu:A.units+1<cLine)(I:#[8] H s)(g:DGet H a y o)(ry:RelV y u)(rd:RelV d r)(h:∀w' s',#[8] H s'->RelV (o.getD d) w'->Q w' s'):
 wpAny (model X.prog X.w) A (call (.builtin "dict.get") [.ref a,u,r]) Q E s:=by
 rcases g with⟨Pb,k,e,ey,l⟩ | ⟨Pb,k,b,e,ey,eb,l⟩
 . subst ey;let%[z,hd,vs,rel|dd]:=By I.hok e;apply call_meetsIn wI0 dd.typeIs PySem.F.entry_dict_get (PySem.F.args_dict_get_3 _ _ _) (meets_dict_get_default (dL X.prog X.w) a (FZ ry) hd r) %[_,dd.mapOf|h _ _ (I.tok _) ?_];rw[l];exact(rel.val k).getD rd
 . subst ey;cases(show u=Value.ref b from ry);let%[z,hd,xs,rel|dd]:=GK I.hok e;apply call_meetsIn wI0 dd.typeIs PySem.F.entry_dict_get (PySem.F.args_dict_get_3 _ _ _) (meetsH_dict_get_default (tupleKind (dL X.prog X.w)) a b hd r) %[tupleKind_room_in1 hu,k,xs,Ai I.hok eb,dd|h _ _ (I.tok _) ?_];rw[l];exact(rel.val k).getD rd
end
instance ZtDGet2(ty:TE)(tx:TE)(σ:St)(Q:VK)(x:V)(H1:Hp):∀a,x=.ref a->IsD H1 a->(ty σ H1 λy H2=>tx σ H2 λz H3=>∃o,DGet H3 a y o/\Q (o.getD z) H3):=0
def JZ(td ty tx:TE):TE:=λσ H Q=>td σ H λx H1=>ZtDGet2 ty tx σ Q x H1
section
variable {X:Cx}{o e f:Expr}{Pi Pe:Pos}{td ty tx:TE}
def EV(hu:X.A.units+1<cLine)(ho:PE X o td)(he:PE X e ty)(hf:PE X f tx)(m:M2 X o "get" Pi e f Pe):PE X (.Call (.Attribute o "get" Pi) [e,f] [] Pe) (JZ td ty tx):=by
 exists 4,Q,I,h;apply wpAny_Call_method m.base m.few m.line PySem.F.plainAttrs_dict wI0 PySem.F.type_dict_get (thn (ho O7 s σ H _ I h) λu s1 ⟨x,H1,I1,rx,a,ex,d,q1⟩=>?_);subst ex;obtain rfl:u=Value.ref a:=rx;let%[t1,t2|_]:=KK I1 d;erw[t1,t2,6];rw[m.trees];apply jN1 rfl (jU1 (qY0 (thn (he O7 s1 σ H1 _ I1 q1) λiv s2 ⟨y,H2,I2,ry,q2⟩=>
  qY0 (thn (hf O7 s2 σ H2 _ I2 q2) λfv s3 ⟨z,H3,I3,rz,ov,g,q3⟩=>jH0 ?_))))
 exact Li hu I3 g ry rz λw' s4 I4 rw'=>%[_,H3,I4,rw'|q3]
end
section
variable {X:Cx}{O7:#[7]}{σ:St}{H:Hp}{s:Shared}{a:Addr}{Pb:List (Key×V)}{A:Around}{E:#[6]}
def GZ{Q:#[6]}(I:#[8] H s)(e:Rd H a (.dK Pb))(h:∀p s',H p=none->#[8] (upd H p (.dK Pb)) s'->Q (.ref p) s'):wpAny (model X.prog X.w) A (call (.type "dict") [.ref a]) Q E s:=by
 let%[z,hd,vs,rel|dd]:=By I.hok e;apply kt_call_dict hd dd (by rw[←rel.length];exact z) λh' dd' hs=>?_
 apply h _ _ (I.hok.fresh (zH0 _)) (I.laid (a:=‹s›) (o:=.dK Pb) (t':=s.toks) (λb q hq=>?_) (zH0 _) (GQ z (beq_eq_false_iff_ne.mpr (Ne.symm (zV0 I.big))) rel dd'));exact(hs.2 b (zV0 (zN0 hq))).trans (zQ0 _ hq)
end
section
variable {X:Cx}
def Inv.tupD{σ:St}{a:Addr}{xs:List V}(I:#[8] H s)(h:H a=some (.tup xs)):∃ob,s.heap.get? a=some ob/\ob.dict=none:=by
 let%[_,_,_,_,o,e|d]:=(show ObjOk X.prog X.w H s.heap a (.tup xs)from I.hok a _ h)
 erw[o,e,d]
instance ZtIndex(t:TA)(σ:St)(Q:VK)(x:V)(H1:Hp):∀(a:Addr)(ns:List Str),x=.ref a->H1 a=some (.lst (ns.map V.str))∨H1 a=some (.tup (ns.map V.str))->(t σ H1 λvs H2=>(H2 a=H1 a)/\∃(z:Str)(j:Nat),vs=[.str z]/\eY z ns=some j/\Q (.int (j:Int)) H2):=0
def JX(K:W.Frag)(to:TE)(t:TA):TE:=λσ H Q=>to σ H λx H1=>ZtIndex t σ Q x H1
variable {o e:Expr}{es:List Expr}{to:TE}{t:TA}{Pi Pe:Pos}
def sQ(pl:PlainAttrs "list")(pt:PlainAttrs "tuple")(ho:PE X o to)(ha:PA X (e::es) t)
 (hbase:attributeBase o "index" X.env (eval o X.env)=eval o X.env:=by rfl)
 (hfew:((backTo Pe (starEach (e::es) X.env)).all (λx=>!x.1)&&(backToKw Pe (keywordEach [] X.env)).all (λx=>x.1.isSome)
  &&decide ((e::es).length+([]:List Keyword).length+(if([]:List Keyword).isEmpty then 0 else 1)<30))=true:=by rfl)
 (hline:(Pi.endLine==Pe.line)=true:=by rfl) (hs:starEach (e::es) X.env=(false,eval e X.env)::starEach es X.env:=by rfl) (hplain:(backTo Pe (starEach es X.env)).any (·.1)=false:=by rfl) :
 PE X (.Call (.Attribute o "index" Pi) (e::es) [] Pe) (JX X.K to t):=by
 exists 4,Q,I,h;apply wpAny_Call_method_late hbase hfew hline rfl (thn (ho O7 s σ H _ I h) λv s1 ⟨x,H1,I1,r1,a,ns,ex,hh,q1⟩=>?_);subst ex;cases r1;let hA:=ha Pe O7 s1 σ H1 _ I1 q1;rw[hs]at hA ⊢;rcases hh with hh | hh
 . let%[its,_,p|_]:=I1.list (zG0 hh);let%[ob,n,e1,c,d|_]:=id p;erw["list","list.index",pl,F.slot_list_index,F.type_list_index,p.isList.typeIs,λb eb=>?_,6]
   . cases eb;erw[ob,e1,d]
   . apply jN1 (by show(false||(backTo Pe (starEach es X.env)).any (·.1))=false;rw[hplain] <;> rfl) (jU1 ?_);exact thn hA λus s2 ⟨vs,H2,I2,r2,ek,z,j,ez,hp,q2⟩=>CO O7 s2 σ H2 (.ref a) vs (.ref a) us Q I2 rfl r2 %[a,ns,z,j,1,ez,zG0 (ek.trans hh),hp|q2]
 . let%[its,_,p|_]:=I1.tuple (zC0 hh);erw["tuple","tuple.index",pt,F.slot_tuple_index,F.type_tuple_index,p.typeIs,λb eb=>?_,6]
   . cases eb;exact I1.tupD hh
   . apply jN1 (by show(false||(backTo Pe (starEach es X.env)).any (·.1))=false;rw[hplain] <;> rfl) (jU1 ?_);exact thn hA λus s2 ⟨vs,H2,I2,r2,ek,z,j,ez,hp,q2⟩=>CN O7 s2 σ H2 (.ref a) vs (.ref a) us Q I2 rfl r2 %[a,ns,z,j,1,ez,zC0 (ek.trans hh),hp|q2]
end
def CompScope.three{X:Cx}{x y z u:Str}{scope:Scope}{k l m:Nat}{c d e:Addr}{cl:List (Str×Addr)}(c1:closureFor scope X.env=pure cl)(c2:∀y∈scope.names,y.2≠.cell)(c3:scope.kind=.function)(c4:∀y∈scope.names,y.2=.local->scope.names.lookup y.1=some .local)
 (c5:scope.names.lookup x=some .local)(nd:[x,y,z,u].Nodup)(hcl:cl=[(y,c),(z,d),(u,e)])(hc:X.env.cells.lookup y=some c)(hd:X.env.cells.lookup z=some d)(he:X.env.cells.lookup u=some e)(c6:((relabel scope X.env).names.all λp=>!(p.2==.cell||p.2==.free)||(cl.lookup p.1).isSome)=true)
 (hr:(relabel scope X.env).names.lookup y=some .cell)(hk:X.N[k]?=some y)(hs:X.env.scope.names.lookup y=some .cell)
 (hr2:(relabel scope X.env).names.lookup z=some .cell)(hk2:X.N[l]?=some z)(hs2:X.env.scope.names.lookup z=some .cell)
 (hr3:(relabel scope X.env).names.lookup u=some .cell)(hk3:X.N[m]?=some u)(hs3:X.env.scope.names.lookup u=some .cell):CompScope X x [y,z,u] [k,l,m] scope cl where
 clos:=c1
 nocell:=c2
 kind:=c3
 names:=c4
 own:=c5
 nd:=nd
 sub:=λp hp=>by
  subst hcl;rcases zX0 hp with h | h
  . rw[h];assumption
  . rcases zX0 h with h | h
    . rw[h];assumption
    . rw[Pg h];assumption
 has:=c6
 outs:=λj w h=>by
  let nyz:y≠z:=λe=>by simp [e]at nd
  let nyu:y≠u:=λe=>by simp [e]at nd
  let nzu:z≠u:=λe=>by simp [e]at nd
  subst hcl
  match j,h with
  |0,h=>
    let e:y=w:=zS0 h;subst e;erw[hr,k,c,1,hk,by simp [List.lookup],hs]
  |1,h=>
    let e:z=w:=zS0 h;subst e
    have:(z==y)=false:=#[Ne.symm nyz,0]
    erw[hr2,l,d,1,hk2,by simp [List.lookup,this],hs2]
  |2,h=>
    let ew:u=w:=zS0 h;subst ew;let h1:(u==y)=false:=#[Ne.symm nyu,0]
    let h2:(u==z)=false:=#[Ne.symm nzu,0]
    erw[hr3,m,e,1,hk3,by simp [List.lookup,h1,h2],hs3]
  |j+3,h=>simp at h
section
variable {X:Cx}
def vb:∀{xs:List V}{us:List Value},Vals xs us->xs.all kF=true->us.countP (eqU x)=xs.countP λy=>eqV y x
 |_,_,.nil,_=>rfl
 |y::xs,u::us,.cons r t,f=>by
   rw[wC0,qY1]at f;rw[List.countP_cons,List.countP_cons,Ap r f.1,vb t f.2]
instance rCountL(K:W.Frag)(x:V)(vs:List V)(H:Hp)(Q:VK):∀(a:Addr)(xs:List V)(z:V),x=.ref a->vs=[z]->SqL K H a xs->xs.all kF=true->kF z=true->Q (.int ((xs.countP λy=>eqV y z:Nat):Int)) H:=0
def yc:MtR X "list.count" (rCountL X.K):=by
 exists 4,x,vs,v,us,Q,I,rx,rv,h;erw[a,xs,z,1,1,hq,fs,fz,q]at h;cases rx;erw[u,1,ru]at rv.one;let%[its,r,%[%[cls,dd,data|sl],n,ho,hc,hdd|hd]|hz]:=I.list hq;simp only at hc hd;subst hc hd;apply jA1 F.slot_list_count %[_,ho|1] F.entry_list_count (F.args_list_count_2 _ _) (SeqAt.list_countAt a its.toArray n dd sl u (eqU z)) ⟨ho,λy hy=>?_,?_⟩
 . exact gP ru fz r fs y #[hy,0]
 . rw[show its.toArray.toList=its from rfl,vb r fs];erw[.int ((xs.countP λy=>eqV y z:Nat):Int),H,I.tok _,%[|0],q]
end
def eR(g:Nat->Int):Nat->Int
 |0=>g 0
 |k+1=>if eR g k<g (k+1)then g (k+1)else eR g k
def yI(g:Nat->Int):∀n k,k<=n->g k<=eR g n
 |0,k,h=>by
   let e:k=0:=#[0]
   subst e;exact qH1 _
 |n+1,k,h=>by
   unfold eR
   by_cases c:k=n+1
   . subst c
     split <;> omega
   . have:=yI g n k #[0]
     split <;> omega
def CU(ns:List Int)(d:Int):Int:=match ns with | []=>d | _::_=>eR (λi=>ns[i]?.getD 0) (ns.length-1)
def IJ{ns:List Int}{x:Int}(h:x∈ns):x<=CU ns d:=by
 let%[i,hi|e]:=jX0 h;cases ns with
 |nil=>cases h
 |cons a r=>
   have:=yI (λi=>(a::r)[i]?.getD 0) ((a::r).length-1) i #[0]
   simp only[zL0 hi,wL1,e]at this;exact this
section
variable {prog:Program}{w:World}{A:Around}{R:Result->Shared->Prop}{I S:Addr}{fp wr:List Addr}{n:Nat}{P:Nat->Value->Prop}{St:Nat->Heap->Prop}{g:Nat->Int}{kw:List (Str×Value)}
def rk:(toString "max"++toString ".loop":String)="max.loop":=by decide
def FD(W:Walks prog w A.in1 I fp wr n P St)(gv:∀i v,P i v->∃t,v=Value.int (g i) t)(nS:S∉fp):∀(k j:Nat)(s:Shared)(t:Tok)(c:Nat),j+1+k=n->St (j+1) s.heap ->
 s.heap.get? S=some { cls:=.type "list",dict:=none,data:=.seq #[.int (eR g j) t,.int (eR g j) t] c,slots:=#[] } ->
 (∀t' h' tk,(∀b o,b∉wr->b≠S->s.heap.get? b=some o->h'.get? b=some o)->R (.ok (.ret (.int (eR g (n-1)) t'))) { s with heap:=h',toks:=tk }) ->
 codeAny (model prog w) A (.builtin "max.loop" %[[.ref I,.none,.ref S]|kw]) R s:=by
 let nw:S∉wr:=λz=>nS (W.sub _ z)
 intro k
 induction k with
 |zero=>
   intro j s t c ek st eS q;apply codeAny_builtin vG1 ?_;rw[wN0 jC0 _];show wpAny _ A.in1 (seqItems? (.ref S) >>= _) _ _ s;apply zD0 (qO1 eS rfl ?_);show wpAny _ A.in1 (tryCatch (pyNext (.ref I)) _ >>= _) _ _ s;apply zD0 (vA1 (W.done s _ _ (by rw[←ek];exact st) λh' tk kp=>?_));show wpAny _ A.in1 (updateSeq S (λ_=>#[]) >>= _) _ _ _;apply zD0 ?_;apply wpAny_updateSeq (kp S _ nw eS) rfl (zD0 (jX1 (zI0 ?_)));let e:n-1=j:=#[0]
   rw[e]at q;exact q t _ tk λb o h1 h2 eb=>(Heap.get?_update_other _ _ (Ne.symm h2)).trans (kp b o h1 eb)
 |succ k ih=>
   intro j s t c ek st eS q;apply codeAny_builtin vG1 ?_;rw[wN0 jC0 _];show wpAny _ A.in1 (seqItems? (.ref S) >>= _) _ _ s;apply zD0 (qO1 eS rfl ?_);show wpAny _ A.in1 (tryCatch (pyNext (.ref I)) _ >>= _) _ _ s;apply zD0 (vA1 (W.item (j+1) s _ _ #[0] st λv h' tk pv st' kp=>?_));let%[tv|1]:=gv _ _ pv;let eS':=kp S _ nw eS;show wpAny _ A.in1 (tryCatch (holding [Value.int (g (j+1)) tv,Value.int (g (j+1)) tv] (richCompare .Gt (Value.int (g (j+1)) tv) (Value.int (eR g j) t) >>= _)) _ >>= _) _ _ _;apply zD0 (vA1 (jS1 (zD0 (CmpOf.ints_gt (prog:=prog) (w:=w) (A:=A.in1) (P:=λi v=>∃t,v=Value.int (if i=0 then eR g j else g (j+1)) t) (λi=>if i=0 then eR g j else g (j+1)) (λi v h=>h) 1 0 _ _ _ _ _ %[tv|1] ⟨t,rfl⟩ ?_))));apply zD0 (jS1 (qD1 ?_));apply zD0 (jX1 (zI0 ?_))
   by_cases c1:eR g j<g (j+1)
   . let e1:eR g (j+1)=g (j+1):=by unfold eR;rw[O9 c1]
     apply zX1 (λ_=>?_) (λhab=>absurd (zC1 c1) hab);apply zD0 ?_;apply wpAny_updateSeq eS' rfl (zD0 (jX1 ?_));rw[rk];apply zI0 %[vE0 jC0 _|ih (j+1) _ tv _ #[0] (W.frame _ _ _ st' λb hb o eb=>?_) (by rw[e1];exact Heap.get?_update_self _ eS' rfl) λt' h2 tk2 kp2=>?_]
     . exact(Heap.get?_update_other _ _ (λz:S=b=>nS (by rw[z];exact hb))).trans eb
     . exact q t' h2 tk2 λb o h1 h3 eb=>kp2 b o h1 h3 ((Heap.get?_update_other _ _ (Ne.symm h3)).trans (kp b o h1 eb))
   . let e1:eR g (j+1)=eR g j:=by unfold eR;rw[O8 c1];cases j <;> rfl
     apply zX1 (λhab=>absurd (zY1 hab) c1) (λ_=>?_);apply zD0 (jX1 ?_);rw[rk];apply zI0 %[vE0 jC0 _|ih (j+1) _ t c #[0] st' (by rw[e1];exact eS') λt' h2 tk2 kp2=>?_];exact q t' h2 tk2 λb o h1 h3 eb=>kp2 b o h1 h3 (kp b o h1 eb)
def FE(W:Walks prog w A.in1 I fp wr n P St)(gv:∀i v,P i v->∃t,v=Value.int (g i) t)(nS:S∉fp)(hn:0<n){s:Shared}{c:Nat}(st:St 0 s.heap)(eS:s.heap.get? S=some { cls:=.type "list",dict:=none,data:=.seq #[] c,slots:=#[] })
 (q:∀t' h' tk,(∀b o,b∉wr->b≠S->s.heap.get? b=some o->h'.get? b=some o)->R (.ok (.ret (.int (eR g (n-1)) t'))) { s with heap:=h',toks:=tk }):
 codeAny (model prog w) A (.builtin "max.loop" %[[.ref I,.none,.ref S]|kw]) R s:=by
 let nw:S∉wr:=λz=>nS (W.sub _ z)
 apply codeAny_builtin vG1 ?_;rw[wN0 jC0 _];show wpAny _ A.in1 (seqItems? (.ref S) >>= _) _ _ s;apply zD0 (qO1 eS rfl ?_);show wpAny _ A.in1 (tryCatch (pyNext (.ref I)) _ >>= _) _ _ s;apply zD0 (vA1 (W.item 0 s _ _ hn st λv h' tk pv st' kp=>?_));let%[tv|1]:=gv _ _ pv;let eS':=kp S _ nw eS;show wpAny _ A.in1 (updateSeq S (λ_=>#[Value.int (g 0) tv,Value.int (g 0) tv]) >>= _) _ _ _;apply zD0 ?_;apply wpAny_updateSeq eS' rfl ?_;rw[rk];apply zI0 %[vE0 jC0 _|FD W gv nS (n-1) 0 _ tv _ #[0] (W.frame _ _ _ st' λb hb o eb=>?_) (Heap.get?_update_self _ eS' rfl) λt' h2 tk2 kp2=>?_]
 . exact(Heap.get?_update_other _ _ (λz:S=b=>nS (by rw[z];exact hb))).trans eb
 . exact q t' h2 tk2 λb o h1 h3 eb=>kp2 b o h1 h3 ((Heap.get?_update_other _ _ (Ne.symm h3)).trans (kp b o h1 eb))
end
section
variable {X:Cx}{e k:Expr}{te tk:TE}{pos p1 kp:Pos}
instance rMax1(K:W.Frag)(xs:List V)(H:Hp)(Q:VK):∀a ns,xs=[.ref a]->SqL K H a (ns.map V.int)->ns≠[]->Q (.int (CU ns 0)) H:=0
def ve(hc:X.calm=true):fL X (.builtin "max") (rMax1 X.K):=by
 intro O7 s2 σ H2 xs us Q I2 r h;erw[a,ns,1,hq,hn,q]at h;let%[u,1|ru]:=kz r;cases ru;let%[its,r',p|hz]:=I2.list hq;let hl:=r'.length;rw[zF0]at hl;let Pc:a<‹s2›:=by erw[o,n,e,_]at p;exact zN0 e
 apply call_function_tree F.kind_max F.plain_max F.entry_max (F.args_max1 _) ?_;show wpAny _ X.A.in1 (Builtin.Builtins.bindParams "max" ["key","default"] 0 %[[]|[]] >>= λ_=>_) _ _ s2;apply zD0 (jJ1 (a:=[none,none]) rfl ?_);apply zD0 (zI0 ?_);apply zD0 (jG1 p.isList ?_);apply zD0 (zP1 ?_);rw[rk];let hne:a≠‹s2›:=zV0 Pc;let W:=Walks.list (prog:=X.prog) (w:=X.w) (A:=X.A.in1) (I2.ok.hd hc) ‹s2› a hne its.toArray;let I3:#[8] H2 { s2 with heap:=s2.heap.push { cls:=.type "list_iterator",data:=.fields #[.ref a,.int 0 0] } }:=I2.kept (t':=s2.toks) λb o eb=>zQ0 _ eb
 let I4:#[8] H2 { s2 with heap:=(s2.heap.push { cls:=.type "list_iterator",data:=.fields #[.ref a,.int 0 0] }).push { cls:=.type "list",data:=.seq #[] } }:=I3.kept (t':=s2.toks) λb o eb=>zQ0 _ eb
 let hz1:∀o:Obj,(s2.heap.push o).objs.size=‹s2›+1:=λo=>by simp [Heap.push]
 let nS:(s2.heap.push { cls:=.type "list_iterator",data:=.fields #[.ref a,.int 0 0] }).objs.size∉[‹s2›,a]:=by
  intro hm;rcases zX0 hm with z | z
  . rw[hz1]at z;exact absurd z (Nat.succ_ne_self _)
  . let z:=Pg z;rw[hz1]at z;exact absurd z (jY0 (wG0 Pc))
 let gv:∀i v,its.toArray[i]?=some v->∃t,v=Value.int (ns[i]?.getD 0) t:=λi v hv=>by
  let%[b,t,hb|1]:=tJ r' (i:=i) (v:=v) (by first | exact hv | simpa using hv | (rw[List.getElem?_toArray]at hv;exact hv));erw[t,by rw[hb];rfl]
 let n0:0<ns.length:=List.length_pos_iff.mpr hn;apply zI0 %[vE0 jC0 _|FE (g:=λi=>ns[i]?.getD 0) W gv nS (by rw[zT0,←hl];exact n0) %[%[_,zQ0 _ (qD0 _ rfl),1|1]|(p.isList.push _).push _] (qD0 _ rfl) λt' h' tk kp=>?_];rw[zT0,←hl];let em:eR (λi=>ns[i]?.getD 0) (ns.length-1)=CU ns 0:=by
  cases ns with
  |nil=>exact absurd rfl hn
  |cons _ _=>rfl
 rw[em];erw[.int _,H2,6,%[|0],q];let J:=Inv.turnedL (h':=h') (t':=tk) (ch:=[‹s2›,‹s2›+1]) I4 (λb o hb eb=>kp b o (λz=>hb (by rw[Pg z];exact qA0)) (λz=>hb (by rw[z,hz1];exact qK0 _ qA0)) eb);apply J λb hb=>?_
 rcases zX0 hb with h | h
 . rw[h];exact I2.fpOk (zH0 _) (I2.hok.fresh (zH0 _))
 . rw[Pg h];exact I2.fpOk (qO0 _) (I2.hok.fresh (qO0 _))
end
section
variable {prog:Program}{w:World}{A:Around}{E:#[6]}{s:Shared}
def AD{it t:Addr}{i:Nat}{items:Array Value}{x:Value}{Q:#[6]}(hit:s.heap.IsTupleIter it t i)(ht:s.heap.IsTuple t items)(hx:items[i]?=some x)
 (q:∀h',h'.IsTupleIter it t (i+1)->Heap.SameBut it s.heap h'->Q x { s with heap:=h' }):‹w.A› (Builtin.SmallTypes.nextOf (.ref it)) Q E s:=by
 let%[o,ho,hc|hd]:=id hit;erw[ol,hol,_,nl,hdl]at ht;unfold Builtin.SmallTypes.nextOf;apply zD0 (zS1 (name:=Str.ofString "__next__") hit.typeIs jB0 (qL1 jB0 hit.typeIs F.entry_tuple_iterator_next ?_ (F.args_tuple_iterator_next_1 _)));show wpAny _ _ (field (.ref it) 0 >>= _) _ _ s;apply zD0 (zW1 ho hd (x:=.ref t) rfl ?_);show wpAny _ _ (if(Value.ref t==Value.none)=true then _ else _) _ _ s;rw[O8 (show ¬ ((Value.ref t==Value.none)=true)from qH0)];show wpAny _ _ (field (.ref it) 1 >>= _) _ _ s;apply zD0 (zW1 ho hd (x:=.int i 0) rfl ?_);show wpAny _ _ (seqItems? (.ref t) >>= _) _ _ s;apply zD0 (qO1 hol hdl ?_);simp only[qV0,hx];apply zD0 (wpAny_setField ho hd #[2] (zI0 %[x,1|zI0 (q _ ?_ (Heap.SameBut.update ..))]));erw[_,Heap.get?_update_self _ ho (Obj.isFreed_of_fields (Obj.data_mapFields hd _)),(Obj.cls_mapFields ..).trans hc,by rw[Obj.data_mapFields hd];simp [rawInt]]
def yX{it t:Addr}{i:Nat}{items:Array Value}{Q:#[6]}(hh:A.handled=none)(hit:s.heap.IsTupleIter it t i)(ht:s.heap.IsTuple t items)(hx:items[i]?=none)
 (q:∀h' e,Heap.ExtBut it s.heap h'->(∃o,h'.get? e=some o/\o.cls=.type "StopIteration")->E (.ref e) { s with heap:=h' }):‹w.A› (Builtin.SmallTypes.nextOf (.ref it)) Q E s:=by
 let%[o,ho,hc|hd]:=id hit;erw[ol,hol,_,nl,hdl]at ht;unfold Builtin.SmallTypes.nextOf;apply zD0 (zS1 (name:=Str.ofString "__next__") hit.typeIs jB0 (qL1 jB0 hit.typeIs F.entry_tuple_iterator_next ?_ (F.args_tuple_iterator_next_1 _)));show wpAny _ _ (field (.ref it) 0 >>= _) _ _ s;apply zD0 (zW1 ho hd (x:=.ref t) rfl ?_);show wpAny _ _ (if(Value.ref t==Value.none)=true then _ else _) _ _ s;rw[O8 (show ¬ ((Value.ref t==Value.none)=true)from qH0)];show wpAny _ _ (field (.ref it) 1 >>= _) _ _ s;apply zD0 (zW1 ho hd (x:=.int i 0) rfl ?_);show wpAny _ _ (seqItems? (.ref t) >>= _) _ _ s;apply zD0 (qO1 hol hdl ?_);simp only[qV0,hx]
 first
  |apply zD0 (vB0 (zD0 (wpAny_setField ho hd #[2] (zD0 (jX1 ?_)))))
  |apply zD0 (vB0 (zD0 (wpAny_setField ho hd #[2] ?_)))
 show wpAny _ _ (newExc (.type "StopIteration") [] >>= _) _ _ _;apply zD0 ?_;simp only[newExc,newTuple];apply zD0 (zP1 ?_ (by size_fits));apply zD0 (m:=firstArgMember _ _) (jJ1 (a:=Value.none) (by first | rfl | (simp only[firstArgMember];rfl)) ?_);apply zP1 ?_ (by size_fits);simp only[raiseNew];apply zD0 (wpAny_handled ?_)
 first | rw[show A.in1.handled=none from hh] | rw[hh]
 apply zD0 (zI0 (wpAny_throw ?_));exact q _ _ (((Heap.SameBut.update ..).extBut.push _).push _) %[_,qD0 _ rfl|1]
def Dw{e it t:Addr}{j:Nat}{i:Int}{old:Value}{items:Array Value}{Q:Option Value->Shared->Prop}(hh:A.handled=none)(he:IsEnum s.heap e it i old)(hit:s.heap.IsTupleIter it t j)(ht:s.heap.IsTuple t items)(hx:items[j]?=none)
 (q:∀h',Heap.ExtBut it s.heap h'->Q none { s with heap:=h' }):‹w.A› (pyNext (.ref e)) Q E s:=by
 let hT:s.TypeIs (.ref e) "enumerate":=%[_,he|1]
 unfold pyNext;apply zD0 (wD0 (zS1 (name:=Str.ofString "__next__") hT F.slot_enumerate_next (qL1 F.slot_enumerate_next hT F.entry_enumerate_next ?_ (F.args_enumerate_next_1 _))));show wpAny _ _ (field (.ref e) 2 >>= _) _ _ _;apply zD0 (zW1 he rfl (x:=.ref it) rfl ?_);apply zD0 (yX hh hit ht hx λh' x he' hx'=>?_);erw[o,ho,hc]at hx';apply zD0 (wL0 (T:="StopIteration") (b:=true) %[o,ho|hc] isSubtype_stop ?_);exact zI0 (q h' he')
end
def Dy{prog:Program}{w:World}{A:Around}(hh:A.handled=none)(it l:Addr)(hne:l≠it)(items:Array Value):Draws prog w A it [it,l] items.size (λi v=>items[i]?=some v) (λi h=>h.IsTupleIter it l i/\h.IsTuple l items) where
 live:=λ_ _ st=>let⟨o,ho,_⟩:=st.1;%[o|ho]
 frame:=λ_ _ _ st k=>%[st.1.at λo e=>k it #[2] o e|st.2.at λo e=>k l #[2] o e]
 item:=λi s Q E hi st q=>by
  apply AD st.1 st.2 (x:=items[i]) (by simp [hi]) λh' a b=>?_
  exact q _ h' s.toks (by simp [hi]) %[a|st.2.extBut b.extBut hne] b
 done:=λs Q E st q=>yX hh st.1 st.2 #[2] q
open AutoSeq1 (wpAny_loadPart') in
set_option maxHeartbeats 1000000 in
def yg(l:Addr)(items:Array Value)(n:Nat)(dct:Option Addr)(sl:Array (Option Value)):
 Meets (Builtin.«enumerate.__new__» %[[.type "enumerate",.ref l]|[]]) (λ_ R s=>s.heap.get? l=some { cls:=.type "tuple",dict:=dct,data:=.seq items n,slots:=sl }/\
  R (.ok (.ret (.ref (s.heap.push { cls:=.type "tuple_iterator",data:=.fields #[.ref l,.int 0 0] }).objs.size)))
   { s with heap:=(s.heap.push { cls:=.type "tuple_iterator",data:=.fields #[.ref l,.int 0 0] }).push { cls:=.type "enumerate",data:=.fields #[.none,.bool false,.ref ‹s›,rawInt 0,.none,.none] } }):=
 .of_wp λprog w A R s h=>by
  erw[hp,g,d,tk,os]at s;erw[hl,h]at h;let hsub:=sub_enumerate;let hL:Heap.IsTuple (Shared.heap %[hp,g,d,tk|os]) l items:=⟨_,hl,rfl,n,rfl⟩
  wp_walk using wpAny_loadPart' hl
  apply wpAny_stack_any λst=>zI0 ?_
  split
  . rename_i c _ _ _ _ _;cases(c==Value.type "enumerate")
    . wp_walk using wpAny_loadPart' hl,jO0 hL
      erw[0,h]
    . wp_walk using wpAny_loadPart' hl,jO0 hL
      erw[0,h]
  . wp_walk using wpAny_loadPart' hl,jO0 hL
    erw[0,h]
section
variable {prog:Program}{w:World}{A:Around}{E:#[6]}{s:Shared}
def Au{l:Addr}{items:Array Value}{Q:#[6]}(hL:s.heap.IsTuple l items)
 (q:∀h',IsEnum h' (‹s›+1) ‹s› 0 .none->h'.IsTupleIter ‹s› l 0->(∀b o,s.heap.get? b=some o->h'.get? b=some o)->Q (.ref (‹s›+1)) { s with heap:=h' }):
 ‹w.A› (call (.type "enumerate") [.ref l]) Q E s:=by
 erw[%[c,dct,dt|sl],hl,hc,n,hd]at hL
 replace hc:c=.type "tuple":=hc
 replace hd:dt=.seq items n:=hd
 subst hc hd;apply callType_new F.called_enumerate ⋯ (F.typeCall_enumerate_1 _) (F.newCall_enumerate_1 _) (λobj=>F.args_object_init_2 obj _) F.entry_enumerate_new (yg l items n dct sl) %[hl|6];let hz:(s.heap.push { cls:=.type "tuple_iterator",data:=.fields #[.ref l,.int 0 0] }).objs.size=‹s›+1:=jF1 ..;show _/\_;rw[hz];let he:IsEnum ((s.heap.push { cls:=.type "tuple_iterator",data:=.fields #[.ref l,.int 0 0] }).push { cls:=.type "enumerate",data:=.fields #[.none,.bool false,.ref ‹s›,rawInt 0,.none,.none] }) (‹s›+1) ‹s› 0 .none:=by
  have:=qD0 (s.heap.push { cls:=.type "tuple_iterator",data:=.fields #[.ref l,.int 0 0] }) (o:={ cls:=.type "enumerate",data:=.fields #[.none,.bool false,.ref ‹s›,rawInt 0,.none,.none] }) rfl
  rw[hz]at this;exact this
 erw[%[_,he|1],q _ he ⟨_,zQ0 _ (qD0 _ rfl),rfl,rfl⟩ λb o x=>zQ0 _ (zQ0 _ x)]
end
def Hv(K:W.Frag)(a:Addr):It:=
 ⟨λi H=>∃xs x,SqT K H a xs/\xs[i]?=some x,λi H y H'=>∃t,y=.ref t/\H t=none/\∀xs x,SqT K H a xs->xs[i]?=some x->H'=upd H t (.tup [.int i,x]),λi H=>∃xs,SqT K H a xs/\xs.length<=i⟩
def yW{K:W.Frag}{elts:List Expr}{k:Nat}{pos:Pos}(a e it:Addr)(hei:e≠it)(hai:a≠it)(hae:a≠e):
 Turn P w K (.Tuple elts k pos) (Hv K a) [e,it] e (λi h=>(∃old,IsEnum h e it i old)/\h.IsTupleIter it a i) where
 mem:=by simp
 obj:=λi h st b hb=>by
  erw[%[old|he],o,e2,c,d]at st;rcases zX0 hb with z | z
  . subst z;erw[_,he,λv z=>nomatch z]
  . let z':=Pg z;subst z';erw[o,e2,λv z=>by rw[d]at z;cases z]
 keep:=λi h h' st k=>by
  erw[%[old|he],hit]at st;erw[%[old|k e #[2] _ he],hit.at λo x=>k it #[2] o x]
 item:=by
  exists 5;erw[xs,x,hq,hx]at hg;let%[its,rv,p|hz]:=I.tuple hq;let%[u,hu|ru]:=rv.get hx;erw[%[old|he],hit]at st;let hi:i<its.toArray.size:=by
   rw[zT0];exact(Pj hu).1
  apply wpAny_pyNext_enum_itemD (Dy (prog:=X.prog) (w:=X.w) (A:=X.A.in1) (I.ok.hd hc) it a hai its.toArray) he %[hit|p] hi hei (by simp [hei,Ne.symm hae]) λy h1 tk hy ho hst1 hT hsz hk=>?_
  let ey:y=u:=by
   let h1:its.toArray[i]?=some u:=#[hu,0]
   rw[h1]at hy;exact(zS0 hy).symm
  subst ey;erw[0,wpAny_letOwnedTupleGo_enum ho λh2 he2 hs2=>?_];let elt:e<‹s›:=zN0 he;let hT2:h2.get? ‹s›=some { cls:=.type "tuple",data:=.seq #[.int i tk,y] }:=(hs2.2 _ (Ne.symm (zV0 elt))).trans hT;let I2:#[8] (upd H ‹s› (.tup [.int i,x])) { s with heap:=h2,toks:=tk+1 }:=by
   apply I.turnedNew (ch:=[e,it]) (λb ob hb eb=>?_) hf (zH0 _) %[by show 2<=sizeLine;decide,[.int i tk,y],.cons %[|0] (.cons ru .nil),%[_,hT2,1|0],_,hT2|1];let b1:b≠e:=λz=>hb (by simp [z])
   let b2:b≠it:=λz=>hb (by simp [z])
   exact(hs2.2 b b1).trans (hk b ob b1 b2 eb)
  erw[.ref ‹s›,_,I2,1,%[0,I.hok.fresh (zH0 _)|λys z hy hyi=>?_],%[%[y|by simpa using he2]|hst1.1.at λo z=>(hs2.2 it (Ne.symm hei)).trans z],λb hb=>?_]
  . let e1:=I.tuple_inj hy hq;subst e1;rw[hx]at hyi;cases hyi;rfl
  . let z:=hf b hb;let Pc:b<‹s›:=by
     rcases zX0 hb with y | y
     . rw[y];exact elt
     . rw[Pg y];erw[o,e2,_]at hit;exact zN0 e2
    rw[aD (zV0 Pc)];exact z.1
 done:=by
  exists 5;erw[xs,hq,hx]at hg;let%[its,rv,p|hz]:=I.tuple hq;erw[%[old|he],hit]at st;let hl:=rv.length;exact Dw (I.ok.hd hc) he hit p (Array.getElem?_eq_none (by simp;omega)) λh' eb=>%[1|I.turnedL (t':=s.toks) (ch:=[e,it]) (λb o hb eo=>eb b o (λz=>hb (by simp [z])) eo) hf]
 self:=λ_ _ _ _ _ st h=>by
  erw[%[old|he],_]at st;exact wF1 he h
section
variable {X:Cx}{elts:List Expr}{k:Nat}{tpos:Pos}
instance ZiEnumT(K:W.Frag)(R:(It->Hp->Prop))(x:V)(H1:Hp):∀a,x=.ref a->(∃xs,SqT K H1 a xs)->R (Hv K a) H1:=0
def KO(K:W.Frag)(tl:TE):TI:=λσ H R=>tl σ H λx H1=>ZiEnumT K R x H1
def xI{p pos:Pos}(hg:Gl X "enumerate")(hm:X.mg "enumerate"=none)(hl:PE X l tl)(hs:starEach [l] X.env=[(false,eval l X.env)]:=by rfl):
 PI X (.Tuple elts k tpos) (.Call (.Name "enumerate" p) [l] [] pos) (KO X.K tl):=by
 exists 4,R,I,h;apply Call_ (iI I hg hm boot_enumerate (zN1 ?_ hs rfl));rw[hs];show wpAny _ _ (spliced ((false,eval l X.env)::backTo pos (starEach [] X.env))) _ _ s;apply qY0 (thn (hl O7 s σ H _ I h) λu s1 ⟨x,H1,I1,r1,a,ex,⟨xs,hq⟩,q⟩=>?_);subst ex;cases r1;let%[its,rv,p|hz]:=I1.tuple hq;let alt:=p.lt;apply jH0 ?_;apply Au p λh' he hit hk=>?_
 apply wF1 he ?_;let I2:#[8] H1 { s1 with heap:=h' }:=I1.kept (t':=s1.toks) hk;erw[‹s1›+1,[‹s1›+1,‹s1›],_,_,H1,1,I2,yW a _ _ (jY0 (qR1 _)) (zV0 alt) (zV0 (wG0 alt)),%[%[_|he]|hit],λb hb=>?_,q];rcases zX0 hb with z | z
 . rw[z];exact I1.fpOk (qO0 _) (I1.hok.fresh (qO0 _))
 . rw[Pg z];exact I1.fpOk (zH0 _) (I1.hok.fresh (zH0 _))
end
def uY{K:W.Frag}{xs:List V}{g:TG}{tb:TS}{D:Ends}{σ:St}{H:Hp}(Pv:Nat->St->Hp->Prop)(h0:Pv 0 σ H)(hl:∀i σ H,i<=xs.length->Pv i σ H->SqT K H a xs)
 (hs:∀i x σ H t,xs[i]?=some x->Pv i σ H->H t=none->g (.ref t) σ (upd H t (.tup [.int i,x])) λσ2 H2=>tb { D with nx:=Pv (i+1),ct:=Pv (i+1),bk:=D.nx } σ2 H2)(hd:∀ σ H,Pv xs.length σ H->D.nx σ H):
 ∃ W:Nat->Nat->St->Hp->Prop,(∃m,W 0 m σ H)/\∀i m σ H,W i m σ H ->
  ((Hv K a).stop i H/\D.nx σ H)∨((Hv K a).go i H/\∃N:St->Hp->Prop,(∀ σ' H',N σ' H'->∃m',m'<m/\W (i+1) m' σ' H')/\∀x H',(Hv K a).yld i H x H'->g x σ H' λσ2 H2=>tb { D with nx:=N,ct:=N,bk:=D.nx } σ2 H2):=by
 erw[λi m σ H=>m=xs.length-i/\i<=xs.length/\Pv i σ H,%[xs.length,by simp,zW0 _|h0],6];rintro i m σ H ⟨rfl,hi,p⟩;let q:=hl i σ H hi p
 by_cases Pc:i<xs.length
 . refine .inr %[%[xs,xs[i],q|by simp [Pc]],Pv (i+1),λσ' H' p'=>%[xs.length-(i+1),3,1,Pc|p']|λx H' y=>?_];erw[t,1,ht,e]at y;let e':=e xs xs[i] q (by simp [Pc]);subst e';exact hs i xs[i] σ H t (by simp [Pc]) p ht
 . let e:i=xs.length:=#[0]
   subst e;exact .inl %[%[xs,q|zH0 _]|hd σ H p]
def ItV(K:W.Frag)(a:Addr)(xs:List V):It:=%[λi H=>SqL K H a xs/\i<xs.length,λi H y H'=>H'=H/\xs.reverse[i]?=some y|λi _=>xs.length<=i]
def BL{K:W.Frag}(a it:Addr)(xs:List V):Turn P w K tg (ItV K a xs) [it] it (λi h=>i<=xs.length/\h.IsRevIter it a ((xs.length:Int)-1-(i:Int))) where
 mem:=by simp
 obj:=λi h st b hb=>by
  let e:b=it:=#[hb,0]
  subst e;erw[_,o,e,c,d]at st;erw[o,e,λv z=>by rw[d]at z;cases z]
 keep:=λi h h' st k=>%[st.1|st.2.at λo e=>k it #[2] o e]
 item:=by
  exists 5;erw[hq,hi]at hg;let%[its,rv,p|hz]:=I.list hq;let hj:xs.length-1-i<xs.length:=#[0]
  let hx:xs[xs.length-1-i]?=some xs[xs.length-1-i]:=zL0 hj;let%[u,hu|ru]:=rv.get hx;let%[f0,f1,f2,f3,f4|f5]:=hf it #[2];erw[_,hit]at st;let e1:((xs.length:Int)-1-(i:Int))=((xs.length-1-i:Nat):Int):=#[0]
  rw[e1]at hit;apply wpAny_pyNext_rev_item hit p.isList (x:=u) #[hu,0] λh' st' sb=>?_
  let I1:#[8] H { s with heap:=h' }:=I.turned (t':=s.toks) (λb o hb e=>(sb.2 b hb).trans e) f0 f1 f3 f4 f5;let e2:((xs.length-1-i:Nat):Int)-1=(xs.length:Int)-1-((i+1:Nat):Int):=#[0]
  rw[e2]at st';let%[o,e,c|d]:=id st';erw[u,1,yu (s:={ s with heap:=h' }) e c d ⋯ ⟨xs[xs.length-1-i],H,I1,ru,⟨rfl,?_⟩,⟨#[0],st'⟩,λb hb=>(hf b hb).1⟩];rw[wI1 hi,hx]
 done:=by
  exists 5;let hg:xs.length<=i:=hg;let%[f0,f1,f2,f3,f4|f5]:=hf it #[2];erw[hi,hit]at st;let e1:(xs.length:Int)-1-(i:Int)=-1:=#[0]
  rw[e1]at hit;exact wpAny_pyNext_rev_end (I.ok.hd hc) hit λh' eb=>%[1|I.turned (t':=s.toks) (λb o hb e=>eb b o hb e) f0 f1 f3 f4 f5]
 self:=λ_ _ _ _ _ st h=>wpAny_pyIter_revIter st.2 h
def Gs{K:W.Frag}{xs:List V}{g:TG}{tb:TS}{D:Ends}{σ:St}{H:Hp}(Pv:Nat->St->Hp->Prop)(h0:Pv 0 σ H)(hl:∀i σ H,i<=xs.length->Pv i σ H->SqL K H a xs)
 (hs:∀i x σ H,i<xs.length->xs.reverse[i]?=some x->Pv i σ H->g x σ H λσ2 H2=>tb { D with nx:=Pv (i+1),ct:=Pv (i+1),bk:=D.nx } σ2 H2)(hd:∀ σ H,Pv xs.length σ H->D.nx σ H):
 ∃ W:Nat->Nat->St->Hp->Prop,(∃m,W 0 m σ H)/\∀i m σ H,W i m σ H ->
  ((ItV K a xs).stop i H/\D.nx σ H)∨((ItV K a xs).go i H/\∃N:St->Hp->Prop,(∀ σ' H',N σ' H'->∃m',m'<m/\W (i+1) m' σ' H')/\∀x H',(ItV K a xs).yld i H x H'->g x σ H' λσ2 H2=>tb { D with nx:=N,ct:=N,bk:=D.nx } σ2 H2):=by
 erw[λi m σ H=>m=xs.length-i/\i<=xs.length/\Pv i σ H,%[xs.length,by simp,zW0 _|h0],6];rintro i m σ H ⟨rfl,hi,p⟩;let q:=hl i σ H hi p
 by_cases Pc:i<xs.length
 . refine .inr %[%[q|Pc],Pv (i+1),λσ' H' p'=>%[xs.length-(i+1),3,1,Pc|p']|λx H' y=>?_];erw[e,ex]at y;subst e;exact hs i x σ _ Pc ex p
 . let e:i=xs.length:=#[0]
   subst e;exact .inl %[zH0 _|hd σ H p]
def CQ{X:Cx}(K:W.Frag)(h:X.K=K:=by rfl):MtR X "list.count" (rCountL K):=by subst h;exact yc
section
variable {X:Cx}{o e:Expr}{es:List Expr}{to ta:TE}{t:TA}{T id:String}{name f:Str}{r:V->List V->Hp->VK->Prop}{Pi Pe pos:Pos}
def Kr(K:W.Frag)(pa:PlainAttrs T)(slot:Slot T name id)(hty:typeOf (.builtin id)=pure (.type "method_descriptor"))(hm:MtR X id r)(ho:PE X o to)(ha:PA X (e::es) t)(hK:X.K=K:=by rfl)
 (hbase:attributeBase o name X.env (eval o X.env)=eval o X.env:=by rfl)
 (hfew:((backTo Pe (starEach (e::es) X.env)).all (λx=>!x.1)&&(backToKw Pe (keywordEach [] X.env)).all (λx=>x.1.isSome)&&decide ((e::es).length+([]:List Keyword).length+(if([]:List Keyword).isEmpty then 0 else 1)<30))=true:=by rfl)
 (hline:(Pi.endLine==Pe.line)=true:=by rfl)(hs:starEach (e::es) X.env=(false,eval e X.env)::starEach es X.env:=by rfl)(hplain:(backTo Pe (starEach es X.env)).any (·.1)=false:=by rfl):
 PE X (.Call (.Attribute o name Pi) (e::es) [] Pe) (tBM K T r to t):=by subst hK;exact dZ pa slot hty hm ho ha hbase hfew hline hs hplain
def jY(K:W.Frag)(he:PE X e ta)(hK:X.K=K:=by rfl)(hb:attributeBase e f X.env (eval e X.env)=eval e X.env:=by rfl):PE X (.Attribute e f pos) (tFld K ta f):=by subst hK;exact az he hb
end
@[reducible] def kq (X:Cx) (x:Str) (N:List Str) (scope:Scope) (cl:List (Str×Addr)) (s:Shared) (H:Hp) (fp:List Addr):Cx where
 prog:=X.prog
 w:=X.w
 K:=X.K
 mg:=X.mg
 base:=X.base
 A:=X.A
 N:=x::N
 s₀:=s
 H₀:=H
 env:=compEnvC scope ((x,‹s›+1)::cl) ‹s› X.env
 outer:=X.stack
 stack:=X.stack
 ex:=fp
 fn:=λy=>y==x
 calm:=X.calm
 pn:=[]
 xe:=λ_ _=>False
structure CompScopeO(X:Cx)(x:Str)(N:List Str)(ix:List Nat)(scope:Scope)(cl:List (Str×Addr)):Prop where
 clos:closureFor scope X.env=pure cl
 lay:∀(n:Addr) (h:Heap),cellsFrom n scope.names cl=(x,n)::cl/\pushCells h scope.names=h.push { cls:=.type "cell",data:=.cell none }
 kind:scope.kind=.function
 names:∀y∈scope.names,y.2=.local->scope.names.lookup y.1=some .local
 own:(relabel scope X.env).names.lookup x=some .cell
 nd:(x::N).Nodup
 sub:∀p∈cl,X.env.cells.lookup p.1=some p.2
 has:((relabel scope X.env).names.all λp=>!(p.2==.cell||p.2==.free)||(p.1==x||(cl.lookup p.1).isSome))=true
 outs:∀(j:Nat)(y:Str),N[j]?=some y->(relabel scope X.env).names.lookup y=some .cell/\∃k c,ix[j]?=some k/\X.N[k]?=some y/\cl.lookup y=some c/\X.env.scope.names.lookup y=some .cell
section
variable {X:Cx}{O7:#[7]}{σ:St}{x:Str}{N:List Str}{ix:List Nat}{scope:Scope}{cl:List (Str×Addr)}{fp:List Addr}{H3:Hp}{s3:Shared}
def CompScopeO.cells(S:CompScopeO X x N ix scope cl){y:Str}{c:Addr}(h:cl.lookup y=some c):X.env.cells.lookup y=some c:=S.sub _ (qG1 h)
def fb{x y:Str}{n c:Addr}{cl:List (Str×Addr)}(h:((x,n)::cl).lookup y=some c):(y=x/\c=n)∨(y≠x/\cl.lookup y=some c):=by
 by_cases e:y=x
 . subst e
   simp [List.lookup]at h
   exact .inl %[1|h.symm]
 . let e':(y==x)=false:=#[e,0]
   simp only[List.lookup,e']at h;exact .inr %[e|h]
def ly{x y:Str}{n:Addr}{cl:List (Str×Addr)}(e:y≠x):((x,n)::cl).lookup y=cl.lookup y:=by
 let e':(y==x)=false:=#[e,0]
 simp only[List.lookup,e']
def yD(S:CompScopeO X x N ix scope cl)(I3:#[8] H3 s3)(hf:∀b∈fp,jh X O7 H3 b)(Pc:∀b∈fp,b<‹s3›):(kq X x N scope cl s3 H3 fp).Ok where
 mod:=I3.ok.mod
 kind:=S.kind
 glob:=I3.ok.glob
 blt:=I3.ok.blt
 above:=zH0 _
 inj:=λy z c h1 h2=>by
  let lt:∀y c,cl.lookup y=some c->c<‹s3›:=λy c e=>by
   let%[v|q]:=I3.cell y c (S.cells e);exact q.lt
  rcases fb h1 with⟨e1,c1⟩ | ⟨e1,l1⟩ <;> rcases fb h2 with⟨e2,c2⟩ | ⟨e2,l2⟩
  . rw[e1,e2]
  . exact absurd (lt z c l2) (by rw[c1];exact Nat.not_lt.mpr (qO0 _))
  . exact absurd (lt y c l1) (by rw[c2];exact Nat.not_lt.mpr (qO0 _))
  . exact I3.ok.inj y z c (S.cells l1) (S.cells l2)
 has:=λy hy=>by
  by_cases e:y=x
  . subst e;erw[‹s3›+1,by show((y,‹s3›+1)::cl).lookup y=_;simp [List.lookup]]
  let q:=List.all_eq_true.mp S.has;let hy:(relabel scope X.env).names.lookup y=some .cell∨(relabel scope X.env).names.lookup y=some .free:=hy;let z:∀k:NameKind,(k==.cell||k==.free)=true->(relabel scope X.env).names.lookup y=some k->∃c,((x,‹s3›+1)::cl).lookup y=some c:=λk hk e2=>by
   let r:=q _ (qG1 e2);let ey:(y==x)=false:=#[e,0]
   rw[hk]at r;rw[ly e];let r':(cl.lookup y).isSome=true:=by simpa [ey]using r
   exact Option.isSome_iff_exists.mp r'
  rcases hy with e | e
  . exact z _ (by rfl) e
  . exact z _ (by rfl) e
 cab:=λy c h e=>by
  let ey:y=x:=by simpa using(show(y==x)=true from h)
  rcases fb e with⟨_,c1⟩ | ⟨n,_⟩
  . rw[c1];exact qO0 _
  . exact absurd ey n
 hd:=I3.ok.hd
 frames:=I3.ok.frames
 stk:=.inl rfl
 exf:=λb hb=>⟨zV0 (Pc b hb),λy c e=>by
  rcases fb e with⟨_,c1⟩ | ⟨_,l⟩
  . rw[c1];exact jY0 (wG0 (Pc b hb))
  . exact(hf b hb).2.2.2.2.1 y c (S.cells l)⟩
 bs:=λb o e=>I3.bs b o e
 bsz:=zP0 I3.ok.bsz I3.sz
 noex:=λb o e hb=>by
  rcases(hf b hb).2.2.2.1 with z | z
  . exact I3.ok.noex b o e z
  . exact absurd (qQ0 (zN0 e) (zP0 I3.ok.bsz z)) (qS0 _)
 exfs:=λb hb z=>by
  rcases zX0 (I3.stkSub b z)with e | e
  . exact(hf b hb).2.1 e
  . exact(hf b hb).2.2.1 e
 funs:=I3.stack
 frf:=I3.stkFree
def yC(S:CompScopeO X x N ix scope cl)(I3:#[8] H3 s3)(hf:∀b∈fp,jh X O7 H3 b)(Pc:∀b∈fp,b<‹s3›)(hix:ix.length=N.length){h1:Heap}{t':Nat}{m:#[9]}
 (hn:h1.Ns ‹s3› m)(hc:h1.IsCell (‹s3›+1) none)(hk:∀b o,s3.heap.get? b=some o->h1.get? b=some o):Inv (kq X x N scope cl s3 H3 fp) [] (none::outs ix σ) H3 { s3 with heap:=h1,toks:=t' } where
 ok:=yD S I3 hf Pc
 os:=rfl
 bare:=I3.bare
 base:=Un.kept hk
 loc:=by
  erw[m,hn,λi y v h1' h2 h3=>?_];cases i with
  |zero=>
    let h2':(some (none:Option V))=some (some v):=h2;cases h2'
  |succ j=>
    let h1'':N[j]?=some y:=h1';let h2':(outs ix σ)[j]?=some (some v):=h2;let nyx:y≠x:=λz=>(List.nodup_cons.mp S.nd).1 (z▸qF0 h1'')
    let%[hr,k,c,e1,e2,e3|e4]:=S.outs j y h1'';unfold outs at h2';rw[zY0,e1]at h2';let h2'':(σ[k]?).join=some v:=zS0 h2';let e5:σ[k]?=some (some v):=by
     cases q:σ[k]? with
     |none=>rw[q]at h2'';cases h2''
     |some o=>rw[q]at h2'';exact congrArg some h2''
    erw[m0,_,hl]at I3.loc;let%[u,r|l]:=hl k y v e2 e5 (.inr (.inl e4));erw[u,r,.inr %[.inl hr,c,(ly nyx).trans e3|6]];rcases l with⟨kk,_⟩ | ⟨_,c',ec,z⟩
    . let kk':X.env.scope.names.lookup y=some .local:=kk;rw[e4]at kk';cases kk'
    . rw[S.cells e3]at ec;cases ec;erw[o,ho,hd]at z;erw[o,hk _ _ ho,hd]
 cell:=λy c e=>by
  rcases fb e with⟨_,c1⟩ | ⟨_,l⟩
  . rw[c1];erw[none,hc]
  . let%[v,o,ho|hd]:=I3.cell y c (S.cells l);erw[v,o,hk _ _ ho,hd]
 free:=I3.hok.fresh (zH0 _)
 freeC:=λy c e=>by
  rcases fb e with⟨_,c1⟩ | ⟨_,l⟩
  . rw[c1];exact I3.hok.fresh (qO0 _)
  . exact I3.freeC y c (S.cells l)
 pin:=λp hp=>absurd (show p∈([]:#[7])from hp) #[2]
 hok:=I3.hok.kept hk
 len:=by
  show(none::outs ix σ).length=(x::N).length;rw[zR0,zR0];unfold outs;rw[zF0,hix]
def At(I3:#[8] H3 s3)(hf:∀b∈fp,jh X O7 H3 b){σ':St}{h'':Heap}(J:Inv (kq X x N scope cl s3 H3 fp) [] σ' H' s')(hb:Heap.SameBut ‹s3› s'.heap h''):
 #[8] H' { s' with heap:=h'' }:=by
 let ne:∀b o,s3.heap.get? b=some o->b≠‹s3›:=λb o e=>zV0 (zN0 e)
 let B:Un (frs X.stack) fp H3 H' s3.heap s'.heap:=J.base;apply I3.call' (s':={ s' with heap:=h'' }) (ch:=fp) J.os ⟨λb o e n h1 h2=>(hb.2 b (ne b o e)).trans (B.keep b o e n h1 h2),λb o e n h1 h2=>?_,B.free,λb o e h2=>?_,B.tups,B.frzs,B.tbls⟩ (λb ob e=>?_) J.bare (λb z=>?_)
 . let%[sl|q]:=B.slot b o e n h1 h2;erw[sl,(hb.2 b (ne b o e)).trans q]
 . let%[o'|q]:=B.there b o e h2;erw[o',(hb.2 b (ne b o e)).trans q]
 . let fr:H' ‹s3›=none:=J.free;refine(J.hok b ob e).stay (λc w' hc q=>(hb.2 c ?_).trans q) (λ_ q=>q) λ_ _ q=>q
   rintro rfl;rcases hc with rfl | hc
   . rw[fr]at e;cases e
   . rw[fr]at hc;cases hc
 . let%[_,h2,_,h4,h5|h6]:=hf b z;erw[h4,h2,h5,h6]
end
section
variable {M:Model}{A:Around}{E:#[6]}{s:Shared}
def Fv{scope:Scope}{globals:Addr}{cl:List (Str×Addr)}{x qual:Str}{env:Env}{Q:Env->Shared->Prop}(lay:∀(n:Addr) (h:Heap),cellsFrom n scope.names cl=(x,n)::cl/\pushCells h scope.names=h.push { cls:=.type "cell",data:=.cell none })
 (q:∀h',h'.Ns ‹s› (λ_=>none)->h'.IsCell (‹s›+1) none->(∀b o,s.heap.get? b=some o->h'.get? b=some o) ->
  Q { scope:=scope,locals:=‹s›,globals:=globals,cells:=(x,‹s›+1)::cl,qual:=qual,func:=none,code:=env.code,frame:=env.frame,builtins:=env.builtins } { s with heap:=h' }) :
 wpAny M A (newFunctionEnv scope globals cl [] qual none .none (some env)) Q E s:=by
 simp only[newFunctionEnv,Option.isSome_some,vI1];apply zD0 (wpAny_alloc ?_);apply zD0 (wpAny_layCells _ (λname kind cells=>by cases hkc:kind==NameKind.cell <;> simp [hkc]) _ _ _ _ ?_);let hz:(s.heap.push { cls:=.type "dict",data:=.dict #[] }).objs.size=‹s›+1:=jF1 ..;rw[show({ s with heap:=s.heap.push { cls:=.type "dict",data:=.dict #[] } }:Shared).heap.objs.size=‹s›+1 from hz,(lay _ s.heap).1];show wpAny M A (do let _ ←(forIn [] PUnit.unit λ_ _=>_:Sem PUnit);pure _) Q E _;rw[List.forIn_nil];apply zD0 (zI0 (zI0 ?_));rw[(lay 0 _).2];apply q _ ((Heap.Ns.new s.heap (.type "dict")).keeps λb o e=>zQ0 _ e) ?_ λb o e=>zQ0 _ (zQ0 _ e)
 rw[←hz];erw[_,qD0 _ rfl,1]
end
section
variable {X:Cx}{x:Str}{N:List Str}{ix:List Nat}{scope:Scope}{cl:List (Str×Addr)}{elt iter:Expr}{ifs:List Expr}{px pos:Pos}{wi:TI}{tb:TBl}
def DD(hc:X.calm=true)(S:CompScopeO X x N ix scope cl)(hix:ix.length=N.length)(hb:∀s3 H3 fp,PB (kq X x N scope cl s3 H3 fp) ifs elt tb)
 {σ:St}{Q:VK}{fp:List Addr}{RR:Value->Addr->Result->Shared->Prop}{E:#[6]}
 (I2:#[8] H2 s2)(T:Turn X.prog X.w X.K (.Name x px) J fp it tn)(st2:tn 0 s2.heap)(f2:∀b∈fp,jh X O7 H2 b)
 (h:∀D,H2 D=none->∃W:Nat->Nat->Hp->Prop,(∃m,W 0 m (upd H2 D (.lst [])))/\∀i m H3,W i m H3 ->
  (J.stop i H3/\Q (.ref D) H3)∨(J.go i H3/\∀y H4,J.yld i H3 y H4->tb (some y::outs ix σ) H4 (λH5=>∃m',m'<m/\W (i+1) m' H5)
   λz H5=>∃ys,H5 D=some (.lst ys)/\ys.length<sizeLine/\∃m',m'<m/\W (i+1) m' (upd H5 D (.lst (ys++[z])))))
 (hRR:∀(D C:Addr)(H':Hp)(s':Shared)(m:#[9]),s'.heap.Ns C m->Apart X O7 H' C->#[8] H' s'->Q (.ref D) H'->RR (.ref D) C (.ok .next) s') :
 ‹X.w› (newList []) (λacc s3=>‹X.w› (newFunctionEnv scope X.env.globals cl [] X.env.qual none .none (some X.env)) (λcenv s4=>
  codeAny (model X.prog X.w) X.A (.compStart (.ListComp elt [%[.Name x px,iter,ifs|(0)]] scope pos) 0 (.ref it) acc { cenv with scope:=relabel scope X.env }) (RR acc cenv.locals) s4) E s3) E s2:=by
 apply zP1 (Fv S.lay λh1 hns1 hcl1 up1=>?_)
 dsimp only at hns1 hcl1 up1 ⊢
 let I3:#[8] (upd H2 ‹s2› (.lst [])) { s2 with heap:=s2.heap.push { cls:=.type "list",dict:=none,data:=.seq ([]:List Value).toArray } }:=I2.lnew (its:=[]) (ys:=[]) (t':=s2.toks) .nil (zW0 _);let hD:H2 ‹s2›=none:=I2.fresh;let%[W,%[m0|w0]|turn]:=h ‹s2› hD;let hltF:∀b∈fp,b<‹s2›:=λb hb=>by
  let%[o,e|_]:=T.obj 0 _ st2 b hb;exact zN0 e
 generalize hs3:({ s2 with heap:=s2.heap.push { cls:=.type "list",dict:=none,data:=.seq ([]:List Value).toArray } }:Shared)=s3 at I3;let eh:s2.heap.push { cls:=.type "list",dict:=none,data:=.seq ([]:List Value).toArray }=s3.heap:=by rw[←hs3]
 let et:s2.toks=s3.toks:=by rw[←hs3]
 rw[eh]at hns1 hcl1 up1 ⊢;let sz3:‹s3›=‹s2›+1:=by rw[←eh,jF1]
 let hlt3:∀b∈fp,b<‹s3›:=λb hb=>qQ0 (hltF b hb) (by rw[sz3];exact qO0 _)
 let f3:∀b∈fp,jh X O7 (upd H2 ‹s2› (.lst [])) b:=λb hb=>by
  let%[q1|q2]:=f2 b hb;erw[by rw[aD (zV0 (hltF b hb))];exact q1,q2]
 let up:∀b o,s3.heap.get? b=some o->h1.get? b=some o:=up1
 let old:∀b o,s2.heap.get? b=some o->h1.get? b=some o:=λb o e=>up b o (by rw[←eh];exact zQ0 _ e)
 let es:({ s2 with heap:=h1 }:Shared)={ s3 with heap:=h1,toks:=s3.toks }:=by rw[←hs3]
 rw [es];let I4:Inv (kq X x N scope cl s3 (upd H2 ‹s2› (.lst [])) fp) [] (none::outs ix σ) (upd H2 ‹s2› (.lst [])) { s3 with heap:=h1,toks:=s3.toks }:=
  yC S I3 f3 hlt3 hix hns1 hcl1 up
 let st4:tn 0 h1:=T.keep 0 _ _ st2 λb _ o e=>old b o e
 let loop:codeAny (model X.prog X.w) X.A (.compLoop (.ListComp elt [%[.Name x px,iter,ifs|(0)]] scope pos) 0 (.ref it) (.ref ‹s2›) (compEnvC scope ((x,‹s3›+1)::cl) ‹s3› X.env)) (RR (.ref ‹s2›) ‹s3›)
  { s3 with heap:=h1,toks:=s3.toks }:=by
  let k:=yD S I3 f3 hlt3;apply qf (Y:=kq X x N scope cl s3 (upd H2 ‹s2› (.lst [])) fp) (Pf:=λσ'=>∃v0,σ'=v0::outs ix σ) hc (λ_ _ z=>z) T (aX (i:=0) S.nd rfl (.inr S.own) (.inl (by show(x==x)=true;simp))) (hb _ _ _) (λhn b hb=>%[hn b hb,(k.exf b hb).1,k.exfs b hb,.inl hb,(k.exf b hb).2|λp hp=>absurd (show p∈([]:#[7])from hp) #[2]]) (λi m H5 w5=>(turn i m H5 w5).imp (fun⟨stop,qn⟩=>%[stop|λσ' s6 _ I6=>?_]) (fun⟨go,step⟩=>⟨go,λy H3 y7 σ' ⟨v0,e⟩=>by
   subst e;erw[%[|0],step y H3 y7]⟩)) ⟨none,rfl⟩ I4 st4 (λb hb=>(f3 b hb).1) w0
  erw[m6,hn6,_]at I6.loc;exact hRR _ _ H5 s6 m6 hn6 ⟨I6.free,Ne.symm (zV0 I3.lt),I3.sz,λy c e z=>by
   let%[v|q]:=I3.cell y c e;exact absurd q.lt (by rw[z];exact qS0 _),λp hp z=>absurd (zN0 (I3.pin p hp).1) (by rw[z];exact qS0 _)⟩ (At I3 f3 I6 (Heap.SameBut.refl _ _)) qn
 exact wE0 loop (T.self _ 0 _ _ _ st4 loop)
def xK(hc:X.calm=true)(S:CompScopeO X x N ix scope cl)(hix:ix.length=N.length)(hi:PI X (.Name x px) iter wi)(hb:∀s3 H3 fp,PB (kq X x N scope cl s3 H3 fp) ifs elt tb)
 (hs:∀x,foldedSetIterable iter X.env x=pure x:=by intro _;rfl):PE X (.ListComp elt [%[.Name x px,iter,ifs|(0)]] scope pos) (yY wi ix tb):=by
 exists 4,Q,I,h;rw[eval_ListComp];apply jI0 (use:=none) rfl hs S.clos S.kind S.names (thn (hi O7 s σ H _ I h) λxv s1 h1=>thn h1 λitv s2 h2=>?_);erw[it,fp,tn,J,H2,1,I2,T,st2,f2,R]at h2;apply DD hc S hix hb (RR:=λacc C=>compPost (model X.prog X.w) X.A X.xe none (EP X O7 σ Q) acc C) I2 T st2 f2 R ?_;intro D C H' s' m hn ap I' q;erw[m,hn,λh'' hb''=>%[.ref D,H',ap.turn I' hb'',1|q]]
def CompScopeO.one{y:Str}{k:Nat}{c:Addr}(c1:closureFor scope X.env=pure [(y,c)])(c2:∀(n:Addr) (h:Heap),cellsFrom n scope.names [(y,c)]=(x,n)::[(y,c)]/\pushCells h scope.names=h.push { cls:=.type "cell",data:=.cell none })(c3:scope.kind=.function)(c4:∀y∈scope.names,y.2=.local->scope.names.lookup y.1=some .local)
 (c5:(relabel scope X.env).names.lookup x=some .cell)(nd:[x,y].Nodup)(hc:X.env.cells.lookup y=some c)(c6:((relabel scope X.env).names.all λp=>!(p.2==.cell||p.2==.free)||(p.1==x||(([(y,c)]:List (Str×Addr)).lookup p.1).isSome))=true)
 (hr:(relabel scope X.env).names.lookup y=some .cell)(hk:X.N[k]?=some y)(hs:X.env.scope.names.lookup y=some .cell):CompScopeO X x [y] [k] scope [(y,c)] where
 clos:=c1
 lay:=c2
 kind:=c3
 names:=c4
 own:=c5
 nd:=nd
 sub:=λp hp=>by
  rw[Pg hp];exact hc
 has:=c6
 outs:=λj z h=>by
  cases j with
  |zero=>
    let e:y=z:=zS0 h;subst e;erw[hr,k,c,1,hk,by simp [List.lookup],hs]
  |succ j=>simp at h
def tY(K:W.Frag)(hK:X.K=K:=by rfl):fL X (.type "tuple") (rTupOf K):=by subst hK;exact bh
end
def CompScope.four{X:Cx}{x y z u v:Str}{scope:Scope}{k l m n:Nat}{c d e g:Addr}{cl:List (Str×Addr)}(c1:closureFor scope X.env=pure cl)(c2:∀y∈scope.names,y.2≠.cell)(c3:scope.kind=.function)(c4:∀y∈scope.names,y.2=.local->scope.names.lookup y.1=some .local)
 (c5:scope.names.lookup x=some .local)(nd:[x,y,z,u,v].Nodup)(hcl:cl=[(y,c),(z,d),(u,e),(v,g)])(hc:X.env.cells.lookup y=some c)(hd:X.env.cells.lookup z=some d)(he:X.env.cells.lookup u=some e)(hg:X.env.cells.lookup v=some g)(c6:((relabel scope X.env).names.all λp=>!(p.2==.cell||p.2==.free)||(cl.lookup p.1).isSome)=true)
 (hr:(relabel scope X.env).names.lookup y=some .cell)(hk:X.N[k]?=some y)(hs:X.env.scope.names.lookup y=some .cell)
 (hr2:(relabel scope X.env).names.lookup z=some .cell)(hk2:X.N[l]?=some z)(hs2:X.env.scope.names.lookup z=some .cell)
 (hr3:(relabel scope X.env).names.lookup u=some .cell)(hk3:X.N[m]?=some u)(hs3:X.env.scope.names.lookup u=some .cell)
 (hr4:(relabel scope X.env).names.lookup v=some .cell)(hk4:X.N[n]?=some v)(hs4:X.env.scope.names.lookup v=some .cell):CompScope X x [y,z,u,v] [k,l,m,n] scope cl where
 clos:=c1
 nocell:=c2
 kind:=c3
 names:=c4
 own:=c5
 nd:=nd
 sub:=λp hp=>by
  subst hcl;rcases zX0 hp with h | h
  . rw[h];assumption
  . rcases zX0 h with h | h
    . rw[h];assumption
    . rcases zX0 h with h | h
      . rw[h];assumption
      . rw[Pg h];assumption
 has:=c6
 outs:=λj w h=>by
  let nyz:y≠z:=λe=>by simp [e]at nd
  let nyu:y≠u:=λe=>by simp [e]at nd
  let nyv:y≠v:=λe=>by simp [e]at nd
  let nzu:z≠u:=λe=>by simp [e]at nd
  let nzv:z≠v:=λe=>by simp [e]at nd
  let nuv:u≠v:=λe=>by simp [e]at nd
  subst hcl
  match j,h with
  |0,h=>
    let e:y=w:=zS0 h;subst e;erw[hr,k,c,1,hk,by simp [List.lookup],hs]
  |1,h=>
    let e:z=w:=zS0 h;subst e
    have:(z==y)=false:=#[Ne.symm nyz,0]
    erw[hr2,l,d,1,hk2,by simp [List.lookup,this],hs2]
  |2,h=>
    let ew:u=w:=zS0 h;subst ew;let h1:(u==y)=false:=#[Ne.symm nyu,0]
    let h2:(u==z)=false:=#[Ne.symm nzu,0]
    erw[hr3,m,e,1,hk3,by simp [List.lookup,h1,h2],hs3]
  |3,h=>
    let ew:v=w:=zS0 h;subst ew;let h1:(v==y)=false:=#[Ne.symm nyv,0]
    let h2:(v==z)=false:=#[Ne.symm nzv,0]
    let h3:(v==u)=false:=#[Ne.symm nuv,0]
    erw[hr4,n,g,1,hk4,by simp [List.lookup,h1,h2,h3],hs4]
  |j+4,h=>simp at h
end L2
namespace L2
open PySem PySem.Spec PyProof.Rows PySem.Builtin PySem.Builtin.Str
section
variable {prog:Program}{w:World}{A:Around}{E:#[6]}{s:Shared}{Q:#[6]}{x:PySem.Str}{t:Tok}
def zh{y:PySem.Str}{u:Tok}(hy:(y.length==0)=false)
 (h:∀l k,l.map (·.1)=Txt.split x y->Q (.ref ‹s›) { s with heap:=s.heap.push { cls:=.type "list",data:=.seq (strValues l).toArray },toks:=k })
 (hsz:x.length+2<=sizeLine):‹w.A› (call (.builtin "str.split") [.str x t,.str y u]) Q E s:=by
 let hn:(partsBetween x (occurrences x y 0 x.length (x.length+1)) y.length).length<=sizeLine:=by
  let e1:=StrLaws.occ_length_le x y 0 x.length (x.length+1);rw[length_partsBetween];omega
 cases h1:(decide (x.length<y.length)||decide (strKind x<strKind y))
 . cases hf:(occurrences x y 0 x.length (x.length+1)).isEmpty
   . apply jA1 vH0 (wO1 _ _ _) vB1 (wW1 _ _) (meets_str_split_sep x y t u h1 hy hf #[0] hn) ?_;show wants Q E _ { s with toks:=_,heap:=s.heap.push { cls:=.type "list",data:=.seq (strsFrom s.toks (partsBetween x (occurrences x y 0 x.length (x.length+1)) y.length)).toArray } };rw[strsFrom_eq];exact h (numbered s.toks _) _ ((numbered_texts _ _).trans ((O8 (wS1 h1)).trans (O8 (wS1 hf))).symm)
   . exact jA1 vH0 (wO1 _ _ _) vB1 (wW1 _ _) (meets_str_split_not_found x y t u h1 hy hf)
      (h [(x,t)] s.toks ((O8 (wS1 h1)).trans (O9 hf)).symm)
 . exact jA1 vH0 (wO1 _ _ _) vB1 (wW1 _ _) (meets_str_split_cannot_occur x y t u h1)
    (h [(x,t)] s.toks (O9 h1).symm)
end
def AJ:∀l:List (PySem.Str×Tok),Vals ((l.map (·.1)).map V.str) (strValues l)
 | []=>.nil
 | (x,t)::r=>.cons %[t|1] (AJ r)
section
variable {X:Cx}
instance rSplit(x:V)(vs:List V)(H:Hp)(Q:VK):∀z u,x=.str z->vs=[.str u]->0<u.length->z.length<=100000->(Txt.split z u).length<=100000->(∀p,H p=none->Q (.ref p) (upd H p (.lst ((Txt.split z u).map V.str)))):=0
def FF:MtR X "str.split" rSplit:=by
 exists 4,x,vs,v,us,Q,I,rx,rv,h;erw[z,u,1,1,hu,hz,hl,q]at h;erw[t,1]at rx;erw[w',1,t',1]at rv.one;let sl:sizeLine=16777216:=sizeLine_eq;apply zh (by rw[beq_eq_false_iff_ne];omega) (λl k e=>?_) #[0];let r:=AJ l;rw[e]at r;erw[.ref _,_,I.lnew (t':=k) r (by rw[zF0];omega),1,q _ I.fresh]
def mI:fL X (.type "int") (λxs H Q=>∃x n,xs=[.str x]/\PySem.intText? x=some n/\x.length<=640/\Q (.int n) H):=by
 exists 4,xs,us,Q,I,r,h;erw[x,n,1,e,hl,q]at h;let%[u,1,t|1]:=kz r;exact PySem.W.KIN.call_text e hl %[.int n,H,I.tok _,%[|0]|q]
end
end L2
namespace HT
open PySem PyProof.Rows
section
variable {prog:Program}{w:World}{A:Around}{E:#[6]}{s:Shared}
def getItem_tuple_whole{t sl:Addr}{items:Array Value}{vl vu:Value}{lo hi:Option Int}{Q:#[6]}(ht:IsTup s.heap t items)(hs:s.heap.IsSliceOf sl vl vu .none)(pl:IsPart vl lo)(pu:IsPart vu hi)
 (hw:sIx items.size 0 lo=0/\sIx items.size items.size hi=items.size)(h:Q (.ref t) s):‹w.A› (getItem (.ref t) (.ref sl)) Q E s:=by
 let%[os,hos,hcs|hds]:=id hs;let hTs:s.TypeIs (.ref sl) "slice":=%[os,hos|hcs]
 unfold getItem
 try with_reducible apply jS1 ?_
 first | apply zD0 (zI0 ?_) | skip
 apply zD0 (wpAny_sequenceKey ht.typeIs ⋯ ?_);apply zD0 (zS1 (name:=Str.ofString "__getitem__") ht.typeIs qT1
  (qL1 qT1 ht.typeIs entry_tuple_getitem ?_ (args_tuple_getitem _ _)))
 show wpAny _ _ (Builtin.Tuple.tupleItemsOf (.ref t) >>= _) _ _ s;apply zD0 (tupleItemsOf_ ht ?_);apply zD0 (wpAny_typeOf hTs ?_);rw[O9 ⋯];apply zD0 (jj hs pl pu ?_);let hyes:(((sIx items.size 0 lo:Nat):Int)==0&&(1:Int)==1&&(sIx items.size items.size hi-sIx items.size 0 lo)==items.size)=true:=by
  rw[hw.1,hw.2,wX0]
  simp
 show wpAny _ _ (if(((sIx items.size 0 lo:Nat):Int)==0&&(1:Int)==1&&(sIx items.size items.size hi-sIx items.size 0 lo)==items.size)=true then _ else _) _ _ s;rw[O9 hyes];apply zD0 ?_;unfold Builtin.Tuple.tupleIsExact;apply zD0 (wpAny_typeOf ht.typeIs (zI0 ?_));rw[O9 ⋯]
 first
  |exact zD0 (vB0 (zI0 ⟨_,rfl,zI0 h⟩))
  | (apply zI0 ?_;erw[0,zI0 h])
  | (apply zD0 (zI0 ?_);apply zI0 ?_;erw[0,zI0 h])
  | (apply zD0 (zI0 ?_);apply zD0 (zI0 ?_);apply zI0 ?_;erw[0,zI0 h])
  | (apply zD0 (zD0 (zI0 ?_));apply zI0 ?_;erw[0,zI0 h])
end
end HT
namespace L2
open PySem PySem.Spec PyProof.Rows
section
variable {X:Cx}
instance rSlTW(K:W.Frag)(x:V)(lo:Option Int)(hi:Option Int)(H:Hp)(Q:VK):∀a xs,x=.ref a->SqT K H a xs->HT.sIx xs.length 0 lo=0/\HT.sIx xs.length xs.length hi=xs.length->Q (.ref a) H:=0
def Ib:SlR X (rSlTW X.K):=by
 exists 4,x,v,vl,vu,lo,hi,sl,Q,I,rx,hs,pl,pu,h;erw[a,xs,1,hx,hw,q]at h;cases rx;let%[its,r,ht|hz]:=I.tuple hx;let hlen:its.toArray.size=xs.length:=by rw[zT0];exact r.length.symm
 erw["tuple",_,PyProof.Rows.slot_tuple_getitem.lookup,ht.typeIs,6];exact HT.getItem_tuple_whole ht hs pl pu (by rw[hlen];exact hw) ⟨.ref a,H,I,rfl,q⟩
def As{xs:List V}{lo hi:Option Int}(hw:HT.sIx xs.length 0 lo=0/\HT.sIx xs.length xs.length hi=xs.length):jg xs lo hi=xs:=by
 unfold jg;rw[hw.1,hw.2,jV1,wX0,qB0]
instance rSlTA(K:W.Frag)(x:V)(lo:Option Int)(hi:Option Int)(H:Hp)(Q:VK):∀a xs,x=.ref a->SqT K H a xs->H a=some (.tup xs)->(∀p H',Same H H'->H' p=some (.tup (jg xs lo hi))->Q (.ref p) H'):=0
def AM:SlR X (rSlTA X.K):=by
 exists 4,x,v,vl,vu,lo,hi,sl,Q,I,rx,hs,pl,pu,h;erw[a,xs,1,hx,ha,q]at h
 by_cases hw:HT.sIx xs.length 0 lo=0/\HT.sIx xs.length xs.length hi=xs.length
 . exact Ib O7 s σ H _ v vl vu lo hi sl Q I rx hs pl pu %[a,xs,1,hx,hw|q a H (Same.refl _) (by rw[As hw];exact ha)]
 . exact pB O7 s σ H _ v vl vu lo hi sl Q I rx hs pl pu %[a,xs,1,hx,hw|λp hp=>q p _ (zE0 hp _) ah]
end
def SqIt(h:Heap)(i l:Addr)(k:Nat)(xs:Array Value):Prop:=(h.IsListIter i l k/\h.IsList l xs)∨(h.IsTupleIter i l k/\h.IsTuple l xs)
def SqIt.at{h':Heap}(q:SqIt h i l k xs)(e1:∀o,h.get? i=some o->h'.get? i=some o)(e2:∀o,h.get? l=some o->h'.get? l=some o):SqIt h' i l k xs:=by
 rcases q with⟨a,b⟩ | ⟨a,b⟩
 . exact .inl %[a.at e1|b.at e2]
 . exact .inr %[a.at e1|b.at e2]
def SqIt.ext{h':Heap}{c:Addr}(q:SqIt h i l k xs)(e:Heap.ExtBut c h h')(n1:i≠c)(n2:l≠c):SqIt h' i l k xs:=q.at (λo z=>e _ o n1 z) (λo z=>e _ o n2 z)
section
variable {prog:Program}{w:World}{A:Around}{E:#[6]}{s:Shared}
def vt{x:Value}{Q:#[6]}(q:SqIt s.heap i l k xs)(n:l≠i)(hx:xs[k]?=some x)
 (hQ:∀h',SqIt h' i l (k+1) xs->Heap.SameBut i s.heap h'->Q x { s with heap:=h' }):‹w.A› (Builtin.SmallTypes.nextOf (.ref i)) Q E s:=by
 rcases q with⟨a,b⟩ | ⟨a,b⟩
 . exact wpAny_nextOf_list_item a b hx λh' a' e=>hQ h' (.inl %[a'|b.extBut e.extBut n]) e
 . exact AD a b hx λh' a' e=>hQ h' (.inr %[a'|b.extBut e.extBut n]) e
def Ei{Q:#[6]}(hh:A.handled=none)(q:SqIt s.heap i l k xs)(hx:xs[k]?=none)
 (hE:∀h' e,Heap.ExtBut i s.heap h'->(∃o,h'.get? e=some o/\o.cls=.type "StopIteration")->E (.ref e) { s with heap:=h' }):‹w.A› (Builtin.SmallTypes.nextOf (.ref i)) Q E s:=by
 rcases q with⟨a,b⟩ | ⟨a,b⟩
 . exact wpAny_nextOf_list_end hh a b hx hE
 . exact yX hh a b hx hE
def Hy{z TI TO i1 i2 l1 l2:Addr}{x y a b:Value}{Q:Option Value->Shared->Prop}(D:ZipApart z TI TO i1 i2 l1 l2)
 (hz:IsZip s.heap z TI TO .none)(hTI:IsPair s.heap TI (.ref i1) (.ref i2))(hTO:IsPair s.heap TO a b)(h1:SqIt s.heap i1 l1 k1 xs)(h2:SqIt s.heap i2 l2 k2 ys)(hx:xs[k1]?=some x)(hy:ys[k2]?=some y)
 (hQ:∀h',IsZip h' z TI TO (rawInt ‹s›)->IsPair h' TO x y->SqIt h' i1 l1 (k1+1) xs->SqIt h' i2 l2 (k2+1) ys->IsPair h' ‹s› x y ->
  (∀c o,c≠z->c≠TO->c≠i1->c≠i2->s.heap.get? c=some o->h'.get? c=some o)->Q (some (.ref ‹s›)) { s with heap:=h' }) :
 ‹w.A› (pyNext (.ref z)) Q E s:=by
 let hT:s.TypeIs (.ref z) "zip":=%[_,hz|1]
 unfold pyNext;apply zD0 (wD0 (zS1 (name:=Str.ofString "__next__") hT wT0 (qL1 wT0 hT F.entry_zip_next ?_ (F.args_zip_next_1 _))));show wpAny _ _ (field (.ref z) 2 >>= _) _ _ _;apply zD0 (zW1 hz rfl (x:=.bool false) rfl ?_);show wpAny _ _ (field (.ref z) 3 >>= _) _ _ _;apply zD0 (zW1 hz rfl (x:=.ref TI) rfl (zD0 (qO1 hTI rfl ?_)));show wpAny _ _ (Builtin.SmallTypes.ownedTupleIsFree (.ref z) >>= _) _ _ _;apply zD0 ?_;unfold Builtin.SmallTypes.ownedTupleIsFree;apply zD0 (zW1 hz rfl (x:=.none) rfl (zI0 ?_));simp only[vI1];apply zD0 (vB0 (zD0 (zW1 hz rfl (x:=.ref TO) rfl (zD0 (qI1 hz #[2] λha za sa=>zD0 ?_)))))
 replace za:IsZip ha z TI TO .ellipsis:=za
 simp only[List.zipIdx_cons,List.zipIdx_nil,List.forIn_cons,List.forIn_nil];apply zD0 (zD0 (vF0 ?_));show wpAny _ _ (Builtin.SmallTypes.nextOf (.ref i1) >>= _) _ _ _;apply zD0 (vt (h1.ext sa.extBut D.i1z D.l1z) D.l1i1 hx λhb q1 sb=>zI0 ?_);let TOb:IsPair hb TO a b:=sb.extBut _ _ D.TOi1 (sa.extBut _ _ D.TOz hTO);apply zD0 (qO1 TOb rfl (zD0 (wN1 TOb λhc TOc sc=>?_)))
 replace TOc:IsPair hc TO x b:=TOc
 apply zD0 (jX1 (zI0 (zD0 (zD0 (vF0 ?_)))));show wpAny _ _ (Builtin.SmallTypes.nextOf (.ref i2) >>= _) _ _ _;apply zD0 (vt (((h2.ext sa.extBut D.i2z D.l2z).ext sb.extBut D.i12.symm D.l2i1).ext sc.extBut D.TOi2.symm D.l2TO) D.l2i2 hy λhd q2 sd=>zI0 ?_);let TOd:IsPair hd TO x b:=sd.extBut _ _ D.TOi2 TOc;apply zD0 (qO1 TOd rfl (zD0 (wN1 TOd λhe TOe se=>?_)))
 replace TOe:IsPair he TO x y:=TOe
 apply zD0 (jX1 (zI0 (zI0 (zD0 (qO1 TOe rfl (zD0 (wpAny_newTuple ?_)))))));let sz:he.objs.size=‹s›:=by rw[se.1,sd.1,sc.1,sb.1,sa.1]
 let ze:IsZip he z TI TO .ellipsis:=se.extBut _ _ D.TOz.symm (sd.extBut _ _ D.i2z.symm (sc.extBut _ _ D.TOz.symm (sb.extBut _ _ D.i1z.symm za)));let ke:∀c o,c≠z->c≠TO->c≠i1->c≠i2->s.heap.get? c=some o->he.get? c=some o:=λc o c1 c2 c3 c4 e=>se.extBut _ _ c2 (sd.extBut _ _ c4 (sc.extBut _ _ c2 (sb.extBut _ _ c3 (sa.extBut _ _ c1 e))))
 let q1e:=((q1.ext sc.extBut D.TOi1.symm D.l1TO).ext sd.extBut D.i12 D.l1i2).ext se.extBut D.TOi1.symm D.l1TO;let q2e:=q2.ext se.extBut D.TOi2.symm D.l2TO;let zlt:z<he.objs.size:=zN0 ze;show wpAny _ _ (Builtin.SmallTypes.ownedTupleHandOut (.ref z) (.ref he.objs.size) >>= _) _ _ _;apply zD0 ?_;unfold Builtin.SmallTypes.ownedTupleHandOut;let zf:IsZip (he.push { cls:=.type "tuple",data:=.seq #[x,y] }) z TI TO .ellipsis:=zQ0 _ ze;apply zD0 (qI1 zf #[2] λhg zg sg=>?_)
 replace zg:IsZip hg z TI TO (rawInt he.objs.size):=zg
 apply qI1 zg #[2] λhi zi si=>?_
 replace zi:IsZip hi z TI TO (rawInt he.objs.size):=zi
 let up:∀c o,c≠z->he.get? c=some o->hi.get? c=some o:=λc o c1 e=>si.extBut _ _ c1 (sg.extBut _ _ c1 (zQ0 _ e))
 let Ti:IsPair hi he.objs.size x y:=si.extBut _ _ (jY0 zlt) (sg.extBut _ _ (jY0 zlt) (qD0 _ rfl));rw[sz]at zi Ti;apply zI0 %[0|zI0 ?_];show Q (some (.ref he.objs.size)) _;rw[sz];exact hQ hi zi (up _ _ D.TOz TOe) (q1e.at (λo e=>up _ o D.i1z e) (λo e=>up _ o D.l1z e)) (q2e.at (λo e=>up _ o D.i2z e) (λo e=>up _ o D.l2z e)) Ti λc o c1 c2 c3 c4 e=>up c o c1 (ke c o c1 c2 c3 c4 e)
def JO{z TI TO i1 i2 l1 l2:Addr}{a b:Value}{Q:Option Value->Shared->Prop}(hh:A.handled=none)(D:ZipApart z TI TO i1 i2 l1 l2)
 (hz:IsZip s.heap z TI TO .none)(hTI:IsPair s.heap TI (.ref i1) (.ref i2))(hTO:IsPair s.heap TO a b)(h1:SqIt s.heap i1 l1 k1 xs)(h2:SqIt s.heap i2 l2 k2 ys)(hend:xs[k1]?=none∨ys[k2]?=none)
 (hQ:∀h',(∀c o,c≠z->c≠TO->c≠i1->c≠i2->s.heap.get? c=some o->h'.get? c=some o)->Q none { s with heap:=h' }):‹w.A› (pyNext (.ref z)) Q E s:=by
 let hT:s.TypeIs (.ref z) "zip":=%[_,hz|1]
 unfold pyNext;let hh1:A.in1.handled=none:=hh
 suffices hs:wpAny (model prog w) A.in1 (Builtin.«zip.__next__» %[[.ref z]|[]]) (λfin s'=>∃v,fin=.done (.ret v)/\False)
  (λv s'=>∃h' e,v=.ref e/\s'={ s with heap:=h' }/\(∀c o,c≠z->c≠TO->c≠i1->c≠i2->s.heap.get? c=some o->h'.get? c=some o)/\∃o,h'.get? e=some o/\o.cls=.type "StopIteration") s by
  apply zD0 (wD0 (zS1 (name:=Str.ofString "__next__") hT wT0 (qL1 wT0 hT F.entry_zip_next (jS0 hs (λ_ _ h=>by erw[_,_,f]at h;exact f.elim) ?_) (F.args_zip_next_1 _))));rintro _ _ ⟨h',e,rfl,rfl,hk,o,ho,hc⟩;exact zD0 (wL0 (T:="StopIteration") (b:=true) %[o,ho|hc] isSubtype_stop (zI0 (hQ _ hk)))
 show wpAny _ _ (field (.ref z) 2 >>= _) _ _ _;apply zD0 (zW1 hz rfl (x:=.bool false) rfl ?_);show wpAny _ _ (field (.ref z) 3 >>= _) _ _ _;apply zD0 (zW1 hz rfl (x:=.ref TI) rfl (zD0 (qO1 hTI rfl ?_)));show wpAny _ _ (Builtin.SmallTypes.ownedTupleIsFree (.ref z) >>= _) _ _ _;apply zD0 ?_;unfold Builtin.SmallTypes.ownedTupleIsFree;apply zD0 (zW1 hz rfl (x:=.none) rfl (zI0 ?_));simp only[vI1];apply zD0 (vB0 (zD0 (zW1 hz rfl (x:=.ref TO) rfl (zD0 (qI1 hz #[2] λha za sa=>zD0 ?_)))))
 replace za:IsZip ha z TI TO .ellipsis:=za
 simp only[List.zipIdx_cons,List.zipIdx_nil,List.forIn_cons,List.forIn_nil];apply zD0 (zD0 (vF0 ?_));show wpAny _ _ (Builtin.SmallTypes.nextOf (.ref i1) >>= _) _ _ _;cases hx:xs[k1]? with
 |none=>
   apply zD0 (Ei hh1 (h1.ext sa.extBut D.i1z D.l1z) hx λhb e sb ⟨oe,hoe,hce⟩=>?_);let zb:IsZip hb z TI TO .ellipsis:=sb _ _ D.i1z.symm za;let ez:e≠z:=λx=>by subst x;rw[zb]at hoe;cases hoe;simp at hce
   exact qI1 zb #[2] λhc _ sc=>%[hc,e,1,1,λc o c1 _ c3 _ x=>sc.extBut _ _ c1 (sb _ _ c3 (sa.extBut _ _ c1 x)),oe,sc.extBut _ _ ez hoe|hce]
 |some x=>
   let hy:ys[k2]?=none:=by
    rcases hend with h | h
    . rw[hx]at h;cases h
    . exact h
   apply zD0 (vt (h1.ext sa.extBut D.i1z D.l1z) D.l1i1 hx λhb q1 sb=>zI0 ?_);let TOb:IsPair hb TO a b:=sb.extBut _ _ D.TOi1 (sa.extBut _ _ D.TOz hTO);apply zD0 (qO1 TOb rfl (zD0 (wN1 TOb λhc TOc sc=>?_)));apply zD0 (jX1 (zI0 (zD0 (zD0 (vF0 ?_)))));show wpAny _ _ (Builtin.SmallTypes.nextOf (.ref i2) >>= _) _ _ _;apply zD0 (Ei hh1 (((h2.ext sa.extBut D.i2z D.l2z).ext sb.extBut D.i12.symm D.l2i1).ext sc.extBut D.TOi2.symm D.l2TO) hy λhd e sd ⟨oe,hoe,hce⟩=>?_);let zd:IsZip hd z TI TO .ellipsis:=sd _ _ D.i2z.symm (sc.extBut _ _ D.TOz.symm (sb.extBut _ _ D.i1z.symm za));let ez:e≠z:=λx=>by subst x;rw[zd]at hoe;cases hoe;simp at hce
   exact qI1 zd #[2] λhe _ se=>%[he,e,1,1,λc o c1 c2 c3 c4 x=>se.extBut _ _ c1 (sd _ _ c4 (sc.extBut _ _ c2 (sb.extBut _ _ c3 (sa.extBut _ _ c1 x)))),oe,se.extBut _ _ ez hoe|hce]
end
def itO(b:Bool)(l:Addr):Obj:={ cls:=.type (if b=true then "list_iterator" else "tuple_iterator"),data:=.fields #[.ref l,.int 0 0] }
def SqO(b:Bool)(h:Heap)(l:Addr)(xs:Array Value):Prop:=if b=true then h.IsList l xs else h.IsTuple l xs
abbrev zqH(h:Heap)(b1 b2:Bool)(l1 l2:Addr):Heap:=((((h.push (itO b1 l1)).push (itO b2 l2)).push { cls:=.type "tuple",data:=.seq #[.ref h.objs.size,.ref (h.push (itO b1 l1)).objs.size] }).push { cls:=.type "tuple",data:=.seq #[.none,.none] }).push
 { cls:=.type "zip",data:=.fields #[.none,.bool false,.bool false,.ref ((h.push (itO b1 l1)).push (itO b2 l2)).objs.size,.ref (((h.push (itO b1 l1)).push (itO b2 l2)).push { cls:=.type "tuple",data:=.seq #[.ref h.objs.size,.ref (h.push (itO b1 l1)).objs.size] }).objs.size] }
abbrev zqA(h:Heap)(b1 b2:Bool)(l1 l2:Addr):Addr:=((((h.push (itO b1 l1)).push (itO b2 l2)).push { cls:=.type "tuple",data:=.seq #[.ref h.objs.size,.ref (h.push (itO b1 l1)).objs.size] }).push { cls:=.type "tuple",data:=.seq #[.none,.none] }).objs.size
def Ej(q:SqO b h l xs)(o:Obj):SqO b (h.push o) l xs:=by
 cases b
 . exact Heap.IsTuple.at q λo' e=>zQ0 _ e
 . exact Heap.IsList.push q _
def xz{prog:Program}{w:World}{A:Around}{E:#[6]}{s:Shared}{Q:#[6]}(q:SqO b s.heap l xs)(hQ:Q (.ref ‹s›) { s with heap:=s.heap.push (itO b l) }):
 ‹w.A› (pyIter (.ref l)) Q E s:=by
 cases b
 . exact jO0 (t:=l) (items:=xs) q hQ
 . exact jG1 (l:=l) (items:=xs) q hQ
set_option maxHeartbeats 1000000 in
def FK(b1 b2:Bool)(l1 l2:Addr)(xs ys:Array Value):
 Meets (Builtin.«zip.__new__» %[[.type "zip",.ref l1,.ref l2]|[]]) (λ_ R s=>SqO b1 s.heap l1 xs/\SqO b2 s.heap l2 ys/\
  R (.ok (.ret (.ref (zqA s.heap b1 b2 l1 l2)))) { s with heap:=zqH s.heap b1 b2 l1 l2 }):=
 .of_wp λprog w A R s h=>by
  erw[hp,g,d,tk,os]at s;erw[hl1,hl2,h]at h;let hsub:=sub_zip;let hL1:SqO b1 (Shared.heap %[hp,g,d,tk|os]) l1 xs:=hl1;let hL2:SqO b2 (Shared.heap ⟨hp.push (itO b1 l1),g,d,tk,os⟩) l2 ys:=Ej hl2 _
  wp_walk using xz hL1,xz hL2
  erw[0,h]
section
variable {prog:Program}{w:World}{A:Around}{E:#[6]}{s:Shared}
def Gf{h':Heap}{n:Addr}(e:h'.get? n=some (itO b l))(q:SqO b h l xs)(k:∀o,h.get? l=some o->h'.get? l=some o):SqIt h' n l 0 xs:=by
 cases b
 . exact .inr %[%[_,e,1|1]|Heap.IsTuple.at q k]
 . exact .inl %[%[_,e,1|1]|Heap.IsList.at q k]
def Jh{Q:#[6]}(hl1:SqO b1 s.heap l1 xs)(hl2:SqO b2 s.heap l2 ys)
 (h:∀h',IsZip h' (‹s›+4) (‹s›+2) (‹s›+3) .none->IsPair h' (‹s›+2) (.ref ‹s›) (.ref (‹s›+1)) ->
  IsPair h' (‹s›+3) .none .none->SqIt h' ‹s› l1 0 xs->SqIt h' (‹s›+1) l2 0 ys ->
  (∀c o,s.heap.get? c=some o->h'.get? c=some o)->Q (.ref (‹s›+4)) { s with heap:=h' }) :
 ‹w.A› (call (.type "zip") [.ref l1,.ref l2]) Q E s:=by
 apply callType_new F.called_zip ⋯ (F.typeCall_zip_2 _ _) (F.newCall_zip_2 _ _) (λobj=>F.args_object_init_3 obj _ _) F.entry_zip_new (FK b1 b2 l1 l2 xs ys) %[hl1,hl2|6];let z1:∀(h:Heap)(o:Obj),(h.push o).objs.size=h.objs.size+1:=λh o=>jF1 ..
 let up:∀(h:Heap)(o:Obj)(c:Addr)(u:Obj),h.get? c=some u->(h.push o).get? c=some u:=λh o c u e=>zQ0 _ e
 let top:∀(h:Heap)(o:Obj)(n:Nat),o.isFreed=false->h.objs.size=n->(h.push o).get? n=some o:=λh o n f e=>by rw[←e];exact qD0 _ f
 let f1:∀b l,(itO b l).isFreed=false:=λ_ _=>rfl
 show _/\_;let g1:(zqH s.heap b1 b2 l1 l2).get? ‹s›=some (itO b1 l1):=up _ _ _ _ (up _ _ _ _ (up _ _ _ _ (up _ _ _ _ (top _ _ _ (f1 _ _) rfl))));let g2:(zqH s.heap b1 b2 l1 l2).get? (‹s›+1)=some (itO b2 l2):=up _ _ _ _ (up _ _ _ _ (up _ _ _ _ (top _ _ _ (f1 _ _) (z1 _ _))));let g3:IsPair (zqH s.heap b1 b2 l1 l2) (‹s›+2) (.ref ‹s›) (.ref (‹s›+1)):=by
  have:=up _ { cls:=.type "zip",data:=.fields #[.none,.bool false,.bool false,.ref ((s.heap.push (itO b1 l1)).push (itO b2 l2)).objs.size,.ref (((s.heap.push (itO b1 l1)).push (itO b2 l2)).push { cls:=.type "tuple",data:=.seq #[.ref ‹s›,.ref (s.heap.push (itO b1 l1)).objs.size] }).objs.size] } _ _ (up _ { cls:=.type "tuple",data:=.seq #[.none,.none] } _ _ (top ((s.heap.push (itO b1 l1)).push (itO b2 l2)) { cls:=.type "tuple",data:=.seq #[.ref ‹s›,.ref (s.heap.push (itO b1 l1)).objs.size] } (‹s›+2) rfl (by rw[z1,z1])))
  exact this.trans (by rw[z1])
 let g4:IsPair (zqH s.heap b1 b2 l1 l2) (‹s›+3) .none .none:=up _ _ _ _ (top _ _ _ rfl (by rw[z1,z1,z1]));let g5:IsZip (zqH s.heap b1 b2 l1 l2) (‹s›+4) (‹s›+2) (‹s›+3) .none:=by
  have:=top ((((s.heap.push (itO b1 l1)).push (itO b2 l2)).push { cls:=.type "tuple",data:=.seq #[.ref ‹s›,.ref (s.heap.push (itO b1 l1)).objs.size] }).push { cls:=.type "tuple",data:=.seq #[.none,.none] })
   { cls:=.type "zip",data:=.fields #[.none,.bool false,.bool false,.ref ((s.heap.push (itO b1 l1)).push (itO b2 l2)).objs.size,.ref (((s.heap.push (itO b1 l1)).push (itO b2 l2)).push { cls:=.type "tuple",data:=.seq #[.ref ‹s›,.ref (s.heap.push (itO b1 l1)).objs.size] }).objs.size] } (‹s›+4) rfl (by rw[z1,z1,z1,z1])
  exact this.trans (by simp only[z1])
 let ea:zqA s.heap b1 b2 l1 l2=‹s›+4:=by simp only[zqA,z1]
 let keep:∀c o,s.heap.get? c=some o->(zqH s.heap b1 b2 l1 l2).get? c=some o:=λc o e=>up _ _ _ _ (up _ _ _ _ (up _ _ _ _ (up _ _ _ _ (up _ _ _ _ e))))
 rw[ea];erw[%[_,g5|1],h _ g5 g3 g4 (Gf g1 hl1 (keep _)) (Gf g2 hl2 (keep _)) keep]
end
def SqB(K:W.Frag)(b:Bool)(H:Hp)(a:Addr)(xs:List V):Prop:=if b=true then SqL K H a xs else SqT K H a xs
def SqB.at{σ:St}(I:#[8] H s)(q:SqB X.K b H a xs):∃its,Vals xs its/\SqO b s.heap a its.toArray/\a<‹s›:=by
 cases b
 . let%[its,rv,p|_]:=I.tuple q;erw[its,rv,p,p.lt]
 . let%[its,rv,p|_]:=I.list q;erw[its,rv,p.isList,p.lt]
def SqB.inj{σ:St}(I:#[8] H s)(q:SqB X.K b H a xs)(r:SqB X.K b H a ys):xs=ys:=by
 cases b
 . exact I.tuple_inj q r
 . exact I.list_inj q r
def Itz(K:W.Frag)(c d:Bool)(a b:Addr):It:=
 ⟨λi H=>∃xs ys x y,SqB K c H a xs/\SqB K d H b ys/\xs[i]?=some x/\ys[i]?=some y,λi H v H'=>∃t,v=.ref t/\H t=none/\∀xs ys x y,SqB K c H a xs->SqB K d H b ys->xs[i]?=some x->ys[i]?=some y->H'=upd H t (.tup [x,y]),
  λi H=>∃xs ys,SqB K c H a xs/\SqB K d H b ys/\(xs.length<=i∨ys.length<=i)⟩
def zipAp{n l1 l2:Nat}(h1:l1<n)(h2:l2<n):ZipApart (n+4) (n+2) (n+3) n (n+1) l1 l2:=by
 constructor <;> exact λy=>by
  let y':(_:Nat)=_:=y;omega
def DV{K:W.Frag}{elts:List Expr}{k:Nat}{pos:Pos}(c d:Bool)(a b z TI TO i1 i2:Addr)(D:ZipApart z TI TO i1 i2 a b):
 Turn P w K (.Tuple elts k pos) (Itz K c d a b) [z,TI,TO,i1,i2] z (λi h=>IsZip h z TI TO .none/\IsPair h TI (.ref i1) (.ref i2)/\(∃p q,IsPair h TO p q)/\(∃o,h.get? i1=some o/\o.cls=.type (if c=true then "list_iterator" else "tuple_iterator")/\o.data=.fields #[.ref a,.int i 0])/\
  ∃o,h.get? i2=some o/\o.cls=.type (if d=true then "list_iterator" else "tuple_iterator")/\o.data=.fields #[.ref b,.int i 0]) where
 mem:=by simp
 obj:=λi h st x hx=>by
  erw[hz,hTI,%[p,q|hTO],%[o1,e1,_|d1],o2,e2,_,d2]at st;simp only[jD0,qS1,wX1]at hx;rcases hx with rfl | rfl | rfl | rfl | rfl
  . erw[_,hz,λv y=>nomatch y]
  . erw[_,hTI,λv y=>nomatch y]
  . erw[_,hTO,λv y=>nomatch y]
  . erw[o1,e1,λv y=>by rw[d1]at y;cases y]
  . erw[o2,e2,λv y=>by rw[d2]at y;cases y]
 keep:=λi h h' st kp=>by
  erw[hz,hTI,%[p,q|hTO],%[o1,e1|r1],o2,e2,r2]at st;erw[kp z #[2] _ hz,kp TI #[2] _ hTI,%[p,q|kp TO #[2] _ hTO],%[o1,kp i1 #[2] _ e1|r1],o2,kp i2 #[2] _ e2,r2]
 item:=by
  exists 5;erw[xs,ys,x,y,hq1,hq2,hx,hy]at hg;let%[its1,rv1,s1|_]:=SqB.at I hq1;let%[its2,rv2,s2|_]:=SqB.at I hq2;let%[u,hu|ru]:=rv1.get hx;let%[v,hv|rv]:=rv2.get hy;erw[hz,hTI,%[p,q|hTO],it1,it2]at st;let S1:SqIt s.heap i1 a i its1.toArray:=by
   cases c
   . exact .inr %[it1|s1]
   . exact .inl %[it1|s1]
  let S2:SqIt s.heap i2 b i its2.toArray:=by
   cases d
   . exact .inr %[it2|s2]
   . exact .inl %[it2|s2]
  apply Hy D hz hTI hTO S1 S2 (x:=u) (y:=v) #[hu,0] #[hv,0] λh1 z1 TO1 q1 q2 T1 k1=>?_
  erw[0,wpAny_letOwnedTupleGo_zip z1 λh2 z2 s2'=>?_];let zlt:z<‹s›:=zN0 hz;let T2:h2.get? ‹s›=some { cls:=.type "tuple",data:=.seq #[u,v] }:=(s2'.2 _ (Ne.symm (zV0 zlt))).trans T1;let I2:#[8] (upd H ‹s› (.tup [x,y])) { s with heap:=h2 }:=by
   apply I.turnedNew (t':=s.toks) (ch:=[z,TI,TO,i1,i2]) (λe ob he ee=>?_) hf (zH0 _) %[by show 2<=sizeLine;decide,[u,v],.cons ru (.cons rv .nil),%[_,T2,1|0],_,T2|1];let n1:e≠z:=λy=>he (by simp [y])
   exact(s2'.2 e n1).trans (k1 e ob n1 (λy=>he (by simp [y])) (λy=>he (by simp [y])) (λy=>he (by simp [y])) ee)
  let g1:SqIt h2 i1 a (i+1) its1.toArray:=q1.at (λo e=>(s2'.2 _ D.i1z).trans e) (λo e=>(s2'.2 _ D.l1z).trans e);let g2:SqIt h2 i2 b (i+1) its2.toArray:=q2.at (λo e=>(s2'.2 _ D.i2z).trans e) (λo e=>(s2'.2 _ D.l2z).trans e);let kd:∀{c:Bool} {i1 a:Addr} {its its':Array Value},SqO c h2 a its'->SqIt h2 i1 a (i+1) its->∃o,h2.get? i1=some o/\o.cls=.type (if c=true then "list_iterator" else "tuple_iterator")/\o.data=.fields #[.ref a,.int ((i+1:Nat):Int) 0]:=λ{c i1 a its its'} o q=>by
   cases c
   . rcases q with⟨_,⟨o1,e1,c1,_⟩⟩ | ⟨q,_⟩
     . let%[o2,e2,c2|_]:=(show h2.IsTuple a its' from o)
       rw[e1]at e2;cases e2;rw[c1]at c2;exact absurd (Value.type.inj c2) ⋯
     . exact q
   . rcases q with⟨q,_⟩ | ⟨_,⟨o1,e1,c1,_⟩⟩
     . exact q
     . let%[o2,e2,c2|_]:=(show h2.IsList a its' from o)
       rw[e1]at e2;cases e2;rw[c1]at c2;exact absurd (Value.type.inj c2) ⋯
  let ko:∀{c:Bool}{a:Addr}{its:Array Value},SqO c s.heap a its->a≠z->a≠TO->a≠i1->a≠i2->SqO c h2 a its:=fun{c a its} o n1 n2 n3 n4=>by
   let kk:∀ob,s.heap.get? a=some ob->h2.get? a=some ob:=λob e=>(s2'.2 _ n1).trans (k1 _ _ n1 n2 n3 n4 e)
   cases c
   . exact Heap.IsTuple.at o kk
   . exact Heap.IsList.at o kk
  erw[.ref ‹s›,_,I2,1,%[0,I.hok.fresh (zH0 _)|λxs' ys' x' y' h1' h2' hx' hy'=>?_],%[z2,(s2'.2 _ D.TIz).trans (k1 _ _ D.TIz D.TITO D.TIi1 D.TIi2 hTI),%[_,_|(s2'.2 _ D.TOz).trans TO1],kd (ko s1 D.l1z D.l1TO D.l1i1 D.l1i2) g1|kd (ko s2 D.l2z D.l2TO D.l2i1 D.l2i2) g2],λe he=>?_]
  . let e1:=SqB.inj I h1' hq1;let e2:=SqB.inj I h2' hq2;subst e1 e2;rw[hx]at hx';rw[hy]at hy';cases hx';cases hy';rfl
  . let zf:=hf e he;let Pc:e<‹s›:=by
     simp only[jD0,qS1,wX1]at he;rcases he with rfl | rfl | rfl | rfl | rfl
     . exact zlt
     . exact zN0 hTI
     . exact zN0 hTO
     . erw[_,e,_]at it1;exact zN0 e
     . erw[_,e,_]at it2;exact zN0 e
    rw[aD (zV0 Pc)];exact zf.1
 done:=by
  exists 5;erw[xs,ys,hq1,hq2,hend]at hg;let%[its1,rv1,s1|_]:=SqB.at I hq1;let%[its2,rv2,s2|_]:=SqB.at I hq2;erw[hz,hTI,%[p,q|hTO],it1,it2]at st;let S1:SqIt s.heap i1 a i its1.toArray:=by
   cases c
   . exact .inr %[it1|s1]
   . exact .inl %[it1|s1]
  let S2:SqIt s.heap i2 b i its2.toArray:=by
   cases d
   . exact .inr %[it2|s2]
   . exact .inl %[it2|s2]
  let l1:=rv1.length;let l2:=rv2.length;exact JO (I.ok.hd hc) D hz hTI hTO S1 S2 (hend.imp (λh=>Array.getElem?_eq_none (by simp;omega)) (λh=>Array.getElem?_eq_none (by simp;omega))) λh' eb=>
   %[1|I.turnedL (t':=s.toks) (ch:=[z,TI,TO,i1,i2]) (λe o he eo=>eb e o (λy=>he (by simp [y])) (λy=>he (by simp [y])) (λy=>he (by simp [y])) (λy=>he (by simp [y])) eo) hf]
 self:=λ_ _ _ _ _ st h=>wpAny_pyIter_zip st.1 h
section
variable {X:Cx}{elts:List Expr}{k:Nat}{tpos:Pos}
instance ZiZip(K:W.Frag)(R:(It->Hp->Prop))(vs:(List V))(H1:Hp):∀a b c d,vs=[.ref a,.ref b]->(∃xs,SqB K c H1 a xs)->(∃ys,SqB K d H1 b ys)->R (Itz K c d a b) H1:=0
def iZip(K:W.Frag)(tl:TA):TI:=λσ H R=>tl σ H λvs H1=>ZiZip K R vs H1
def DI:bootBuiltins ("zip":Str)=some (.type "zip"):=by decide
def DM{h h':Heap}(keep:∀e o,h.get? e=some o->h'.get? e=some o)(o:SqO c h l its')(q:SqIt h' n l 0 its):
 ∃o,h'.get? n=some o/\o.cls=.type (if c=true then "list_iterator" else "tuple_iterator")/\o.data=.fields #[.ref l,.int ((0:Nat):Int) 0]:=by
 cases c
 . rcases q with⟨_,⟨o1,e1,c1,_⟩⟩ | ⟨q,_⟩
   . let%[o2,e2,c2|_]:=(show h'.IsTuple l its' from Heap.IsTuple.at o λob e=>keep _ _ e)
     rw[e1]at e2;cases e2;rw[c1]at c2;exact absurd (Value.type.inj c2) ⋯
   . exact q
 . rcases q with⟨q,_⟩ | ⟨_,⟨o1,e1,c1,_⟩⟩
   . exact q
   . let%[o2,e2,c2|_]:=(show h'.IsList l its' from Heap.IsList.at o λob e=>keep _ _ e)
     rw[e1]at e2;cases e2;rw[c1]at c2;exact absurd (Value.type.inj c2) ⋯
def JP{σ:St}{R:It->Hp->Prop}{E:#[6]}(I1:#[8] H1 s1)(hq1:SqB X.K c H1 a xs)(hq2:SqB X.K d H1 b ys)(q:R (Itz X.K c d a b) H1):
 ‹X.w› (call (.type "zip") [.ref a,.ref b]) (λv s2=>‹X.w› (pyIter v) (PIE X O7 σ (.Tuple elts k tpos) R) E s2) E s1:=by
 let%[its1,rv1,o1|l1]:=SqB.at I1 hq1;let%[its2,rv2,o2|l2]:=SqB.at I1 hq2;apply Jh o1 o2 λh' z1 p1 p2 q1 q2 keep=>?_
 apply wpAny_pyIter_zip z1 ?_;let I2:#[8] H1 { s1 with heap:=h' }:=I1.kept (t':=s1.toks) keep;erw[‹s1›+4,[‹s1›+4,‹s1›+2,‹s1›+3,‹s1›,‹s1›+1],_,_,H1,1,I2,DV c d a b _ _ _ _ _ (zipAp l1 l2),%[z1,p1,%[_,_|p2],DM keep o1 q1|DM keep o2 q2],λe he=>?_,q];let ge:‹s1›<=e:=by
  simp only[jD0,qS1,wX1]at he;rcases he with h | h | h | h | h <;> rw[h]
  . exact wM0 ..
  . exact wM0 ..
  . exact wM0 ..
  . exact zH0 _
  . exact wM0 ..
 exact I1.fpOk ge (I1.hok.fresh ge)
def ER{e1 e2:Expr}{p pos:Pos}(hg:Gl X "zip")(hm:X.mg "zip"=none)(ha:PA X [e1,e2] t)(hs:starEach [e1,e2] X.env=[(false,eval e1 X.env),(false,eval e2 X.env)]:=by rfl)(hs2:starEach [e2] X.env=[(false,eval e2 X.env)]:=by rfl):
 PI X (.Tuple elts k tpos) (.Call (.Name "zip" p) [e1,e2] [] pos) (iZip X.K t):=by
 exists 4,R,I,h;apply Call_ (iI I hg hm DI (zN1 (thn (ha pos O7 s σ H _ I h) λus s1 ⟨vs,H1,I1,r1,q1⟩=>?_) (by rw[hs,hs2]) (by rw[hs2];rfl)));erw[a,b,c,d,ev,%[xs|hq1],%[ys|hq2],q]at q1;subst ev;cases r1 with
 |cons r rr=>
   cases rr with
   |cons r' rr=>
     cases rr;cases r;cases r';exact JP I1 hq1 hq2 q
end
section
variable {X:Cx}{x y2:Str}{N:List Str}{ix:List Nat}{scope:Scope}{cl:List (Str×Addr)}{elt iter:Expr}{ifs:List Expr}{px py pt pos:Pos}{kt:Nat}{wi:TI}{tb:TBl}
def BH(K:W.Frag)(J:It)(D:Addr)(ix:List Nat)(tb:TBl)(σ:St)(H:Hp)(Q:VK):Prop:=∃W:Nat->Nat->Hp->Prop,(∃m,W 0 m (upd H D (.lst [])))/\∀i m H2,W i m H2 ->
 (J.stop i H2/\Q (.ref D) H2)∨(J.go i H2/\∀y H3,J.yld i H2 y H3->∃t v1 v2,y=.ref t/\SqT K H3 t [v1,v2]/\tb (some v1::some v2::outs ix σ) H3 (λH4=>∃m',m'<m/\W (i+1) m' H4)
  λz H4=>∃ys,H4 D=some (.lst ys)/\ys.length<sizeLine/\∃m',m'<m/\W (i+1) m' (upd H4 D (.lst (ys++[z]))))
def HM(K:W.Frag)(wi:TI)(ix:List Nat)(tb:TBl):TE:=λσ H Q=>wi σ H λJ H1=>∀D,H1 D=none->BH K J D ix tb σ H1 Q
def DC(hc:X.calm=true)(S:CompScope X x N ix scope cl)(S2:scope.names.lookup y2=some .local)(nd2:(x::y2::N).Nodup)(hix:ix.length=N.length)(hb:∀s3 H3 fp,PB (ia X (x::y2::N) scope cl s3 H3 fp) ifs elt tb)
 {σ:St}{Q:VK}{fp:List Addr}{RR:Value->Addr->Result->Shared->Prop}{E:#[6]}
 (I2:#[8] H2 s2)(T:Turn X.prog X.w X.K (.Tuple [.Name x px,.Name y2 py] kt pt) J fp it tn)(st2:tn 0 s2.heap)(f2:∀b∈fp,jh X O7 H2 b)
 (h:∀D,H2 D=none->∃W:Nat->Nat->Hp->Prop,(∃m,W 0 m (upd H2 D (.lst [])))/\∀i m H3,W i m H3 ->
  (J.stop i H3/\Q (.ref D) H3)∨(J.go i H3/\∀y H4,J.yld i H3 y H4->∃t v1 v2,y=.ref t/\SqT X.K H4 t [v1,v2]/\tb (some v1::some v2::outs ix σ) H4 (λH5=>∃m',m'<m/\W (i+1) m' H5)
   λz H5=>∃ys,H5 D=some (.lst ys)/\ys.length<sizeLine/\∃m',m'<m/\W (i+1) m' (upd H5 D (.lst (ys++[z])))))
 (hRR:∀(D C:Addr)(H':Hp)(s':Shared)(m:#[9]),s'.heap.Ns C m->Apart X O7 H' C->#[8] H' s'->Q (.ref D) H'->RR (.ref D) C (.ok .next) s') :
 ‹X.w› (newList []) (λacc s3=>‹X.w› (newFunctionEnv scope X.env.globals cl [] X.env.qual none .none (some X.env)) (λcenv s4=>
  codeAny (model X.prog X.w) X.A (.compStart (.ListComp elt [%[.Tuple [.Name x px,.Name y2 py] kt pt,iter,ifs|(0)]] scope pos) 0 (.ref it) acc { cenv with scope:=relabel scope X.env }) (RR acc cenv.locals) s4) E s3) E s2:=by
 apply zP1 (wpAny_newFunctionEnv S.nocell (by intro y hy;simp at hy) (λh1 hns1 hsb1=>?_) S.kind)
 dsimp only at hns1 hsb1 ⊢
 let I3:#[8] (upd H2 ‹s2› (.lst [])) { s2 with heap:=s2.heap.push { cls:=.type "list",dict:=none,data:=.seq ([]:List Value).toArray } }:=I2.lnew (its:=[]) (ys:=[]) (t':=s2.toks) .nil (zW0 _);let hD:H2 ‹s2›=none:=I2.fresh;let%[W,%[m0|w0]|turn]:=h ‹s2› hD;let hltF:∀b∈fp,b<‹s2›:=λb hb=>by
  let%[o,e|_]:=T.obj 0 _ st2 b hb;exact zN0 e
 generalize hs3:({ s2 with heap:=s2.heap.push { cls:=.type "list",dict:=none,data:=.seq ([]:List Value).toArray } }:Shared)=s3 at I3;let eh:s2.heap.push { cls:=.type "list",dict:=none,data:=.seq ([]:List Value).toArray }=s3.heap:=by rw[←hs3]
 let et:s2.toks=s3.toks:=by rw[←hs3]
 rw[eh]at hns1 hsb1 ⊢;let sz3:‹s3›=‹s2›+1:=by rw[←eh,jF1]
 let hlt3:∀b∈fp,b<‹s3›:=λb hb=>qQ0 (hltF b hb) (by rw[sz3];exact qO0 _)
 let f3:∀b∈fp,jh X O7 (upd H2 ‹s2› (.lst [])) b:=λb hb=>by
  let%[q1|q2]:=f2 b hb;erw[by rw[aD (zV0 (hltF b hb))];exact q1,q2]
 let up:∀b o,s3.heap.get? b=some o->h1.get? b=some o:=λb o e=>hsb1.extBut b o (zV0 (zN0 e)) (zQ0 _ e)
 let old:∀b o,s2.heap.get? b=some o->h1.get? b=some o:=λb o e=>up b o (by rw[←eh];exact zQ0 _ e)
 let es:({ s2 with heap:=h1,toks:=s2.toks+([]:List (Str×Value)).length }:Shared)={ s3 with heap:=h1,toks:=s2.toks+([]:List (Str×Value)).length }:=by rw[←hs3]
 rw [es];let I4:Inv (ia X (x::y2::N) scope cl s3 (upd H2 ‹s2› (.lst [])) fp) [] (none::none::outs ix σ) (upd H2 ‹s2› (.lst [])) { s3 with heap:=h1,toks:=s2.toks+([]:List (Str×Value)).length }:=
  tX [x,y2] S I3 f3 hlt3 hix hns1 up
 let st4:tn 0 h1:=T.keep 0 _ _ st2 λb _ o e=>old b o e
 let loop:codeAny (model X.prog X.w) X.A (.compLoop (.ListComp elt [%[.Tuple [.Name x px,.Name y2 py] kt pt,iter,ifs|(0)]] scope pos) 0 (.ref it) (.ref ‹s2›) (compEnvC scope cl ‹s3› X.env)) (RR (.ref ‹s2›) ‹s3›)
  { s3 with heap:=h1,toks:=s2.toks+([]:List (Str×Value)).length }:=by
  let k:=wX (M:=x::y2::N) S I3 f3 hlt3;apply qf (Y:=ia X (x::y2::N) scope cl s3 (upd H2 ‹s2› (.lst [])) fp) (Pf:=λσ'=>∃v0 v00,σ'=v0::v00::outs ix σ) hc (λ_ _ z=>z) T (pU hc (dA (aX (i:=0) nd2 rfl (.inl (qZ0 S.own)) (.inr (qZ0 S.own))) (dA (aX (i:=1) nd2 rfl (.inl (qZ0 S2)) (.inr (qZ0 S2))) lQ))) (hb _ _ _) (λhn b hb=>%[hn b hb,(k.exf b hb).1,k.exfs b hb,.inl hb,(k.exf b hb).2|λp hp=>absurd (show p∈([]:#[7])from hp) #[2]]) (λi m H5 w5=>(turn i m H5 w5).imp (fun⟨stop,qn⟩=>%[stop|λσ' s6 _ I6=>?_]) (fun⟨go,step⟩=>⟨go,λy H3 y7 σ' ⟨v0,v00,e⟩=>by
   subst e;let%[tt,v1,v2,1,sq|stp]:=step y H3 y7;erw[tt,0,sq,1,v1,0,v2,0,1,%[_|0],stp]⟩)) ⟨none,none,rfl⟩ I4 st4 (λb hb=>(f3 b hb).1) w0
  erw[m6,hn6,_]at I6.loc;exact hRR _ _ H5 s6 m6 hn6 ⟨I6.free,Ne.symm (zV0 I3.lt),I3.sz,λy c e z=>by
   let%[v|q]:=I3.cell y c e;exact absurd q.lt (by rw[z];exact qS0 _),λp hp z=>absurd (zN0 (I3.pin p hp).1) (by rw[z];exact qS0 _)⟩ (vc I3 f3 I6 (Heap.SameBut.refl _ _)) qn
 exact wE0 loop (T.self _ 0 _ _ _ st4 loop)
def xL(hc:X.calm=true)(S:CompScope X x N ix scope cl)(S2:scope.names.lookup y2=some .local)(nd2:(x::y2::N).Nodup)(hix:ix.length=N.length)(hi:PI X (.Tuple [.Name x px,.Name y2 py] kt pt) iter wi)(hb:∀s3 H3 fp,PB (ia X (x::y2::N) scope cl s3 H3 fp) ifs elt tb)
 (hs:∀x,foldedSetIterable iter X.env x=pure x:=by intro _;rfl):PE X (.ListComp elt [%[.Tuple [.Name x px,.Name y2 py] kt pt,iter,ifs|(0)]] scope pos) (HM X.K wi ix tb):=by
 exists 4,Q,I,h;rw[eval_ListComp];apply jI0 (use:=none) rfl hs S.clos S.kind S.names (thn (hi O7 s σ H _ I h) λxv s1 h1=>thn h1 λitv s2 h2=>?_);erw[it,fp,tn,J,H2,1,I2,T,st2,f2,R]at h2;apply DC hc S S2 nd2 hix hb (RR:=λacc C=>compPost (model X.prog X.w) X.A X.xe none (EP X O7 σ Q) acc C) I2 T st2 f2 R ?_;intro D C H' s' m hn ap I' q;erw[m,hn,λh'' hb''=>%[.ref D,H',ap.turn I' hb'',1|q]]
end
def yA{K:W.Frag}{xs ys:List V}{tb:TBl}{Q:VK}(hxy:xs.length=ys.length)(Pv:Nat->Hp->Prop)(h0:Pv 0 (upd H D (.lst [])))(hl:∀i H,i<=xs.length->Pv i H->SqB K c H a xs/\SqB K d H b ys)
 (hs:∀i x y t H,xs[i]?=some x->ys[i]?=some y->Pv i H->H t=none->tb (some x::some y::outs ix σ) (upd H t (.tup [x,y])) (Nx xs.length i Pv) λz H'=>∃ys,H' D=some (.lst ys)/\ys.length<sizeLine/\Nx xs.length i Pv (upd H' D (.lst (ys++[z]))))(hd:∀H,Pv xs.length H->Q (.ref D) H):
 BH K (Itz K c d a b) D ix tb σ H Q:=by
 erw[λi m H=>m=xs.length-i/\i<=xs.length/\Pv i H,%[xs.length,by simp,zW0 _|h0],6];rintro i m H ⟨rfl,hi,p⟩;let%[q1|q2]:=hl i H hi p
 by_cases Pc:i<xs.length
 . let hlt2:i<ys.length:=#[0]
   refine .inr %[%[xs,ys,xs[i],ys[i],q1,q2,by simp [Pc]|by simp [hlt2]]|λv H' y=>?_];erw[t,1,ht,e]at y;let e':=e xs ys xs[i] ys[i] q1 q2 (by simp [Pc]) (by simp [hlt2]);subst e';erw[t,_,0,zC0 ah,hs i xs[i] ys[i] t H (by simp [Pc]) (by simp [hlt2]) p ht]
 . let e:i=xs.length:=#[0]
   subst e;exact .inl %[%[xs,ys,q1,q2|.inl (zH0 _)]|hd H p]
end L2
namespace L2
open PySem PyProof.Rows HT
section
variable {X:Cx}
def Cs:OpR X (compareOp .IsNot) (λx y H Q=>∃b c,x=.bl b/\y=.bl c/\Q (.bl (b != c)) H):=by
 exists 4,x,y,v,u,Q,I,rx,ry,h;erw[b,c,1,1,q]at h;cases rx;cases ry;exact isnot_bool (bw I q rfl)
def BG:∀{bs:List Bool}{us:List Value}{i:Nat}{v:Value},Vals (bs.map V.bl) us->us[i]?=some v->∃b,bs[i]?=some b/\v=.bool b
 | [],_,_,_,.nil,h=>by simp at h
 |b::_,_,0,_,.cons r _,h=>by
   simp at h
   subst h;cases r;erw[b,1,1]
 |_::_,_,i+1,_,.cons _ t,h=>by
   let%[b,h1|h2]:=BG (i:=i) t #[h,0];erw[b,by simpa using h1,h2]
def DJ:bootBuiltins ("any":Str)=some (.builtin "any"):=by decide
def Jl(bs:List Bool):((List.range bs.length).any λi=>(bs[i]?).getD false)=bs.any id:=by
 cases h:bs.any id with
 |true=>
   let%[b,hb|e]:=List.any_eq_true.mp h;let%[i,hi|e2]:=jX0 hb;apply List.any_eq_true.mpr %[i,List.mem_range.mpr hi|6];rw[zL0 hi,wL1,e2];exact e
 |false=>
   apply List.any_eq_false.mpr λi hi=>?_
   let hi':=List.mem_range.mp hi;rw[zL0 hi',wL1];exact List.any_eq_false.mp h _ (qP0 hi')
instance rAny(K:W.Frag)(xs:List V)(H:Hp)(Q:VK):∀(a:Addr)(bs:List Bool),xs=[.ref a]->SqL K H a (bs.map V.bl)->Q (.bl (bs.any id)) H:=0
def Hg(hc:X.calm=true):fL X (.builtin "any") (rAny X.K):=by
 intro O7 s2 σ H2 xs us Q I2 r h;erw[a,bs,1,hq,q]at h;let%[u,1|ru]:=kz r;cases ru;let%[its,r',p|hz]:=I2.list hq;let hl:=r'.length;rw[zF0]at hl;let Pc:a<‹s2›:=by erw[o,n,e,_]at p;exact zN0 e
 let hne:a≠‹s2›:=zV0 Pc;apply call_any_walk (jG1 p.isList ?_);erw[‹s2›,[‹s2›,a],[‹s2›],its.toArray.size,_,_,λi=>(bs[i]?).getD false,1,Walks.list (prog:=X.prog) (w:=X.w) (A:=X.A.in1) (I2.ok.hd hc) ‹s2› a hne its.toArray,%[%[_,qD0 _ rfl,1|1]|p.isList.push _],λi v s' Q' E' hP hQ=>?_,λh' tk hk=>?_]
 . let%[b,e|1]:=BG r' (i:=i) (v:=v) (by first | exact hP | simpa using hP | (rw[List.getElem?_toArray]at hP;exact hP));simp only[e,wL1]at hQ;exact qD1 hQ
 . rw [zT0,←hl,Jl];let I3:#[8] H2 { s2 with heap:=s2.heap.push { cls:=.type "list_iterator",data:=.fields #[.ref a,.int 0 0] } }:=I2.kept (t':=s2.toks) λb o eb=>zQ0 _ eb
   erw[.bl _,H2,6,1,q];let J:=Inv.turnedL (h':=h') (t':=tk) (ch:=[‹s2›]) I3 (λb o hb eb=>hk b o hb eb);apply J λb hb=>?_
   rw[Pg hb];exact I2.fpOk (zH0 _) (I2.hok.fresh (zH0 _))
def CompScopeO.two{x y z:Str}{scope:Scope}{k l:Nat}{c d:Addr}{cl:List (Str×Addr)}(c1:closureFor scope X.env=pure cl)(c2:∀(n:Addr) (h:Heap),cellsFrom n scope.names cl=(x,n)::cl/\pushCells h scope.names=h.push { cls:=.type "cell",data:=.cell none })(c3:scope.kind=.function)(c4:∀y∈scope.names,y.2=.local->scope.names.lookup y.1=some .local)
 (c5:(relabel scope X.env).names.lookup x=some .cell)(nd:[x,y,z].Nodup)(hcl:cl=[(z,d),(y,c)]∨cl=[(y,c),(z,d)])(hc:X.env.cells.lookup y=some c)(hd:X.env.cells.lookup z=some d)(c6:((relabel scope X.env).names.all λp=>!(p.2==.cell||p.2==.free)||(p.1==x||(cl.lookup p.1).isSome))=true)
 (hr:(relabel scope X.env).names.lookup y=some .cell)(hk:X.N[k]?=some y)(hs:X.env.scope.names.lookup y=some .cell)
 (hr2:(relabel scope X.env).names.lookup z=some .cell)(hk2:X.N[l]?=some z)(hs2:X.env.scope.names.lookup z=some .cell):CompScopeO X x [y,z] [k,l] scope cl where
 clos:=c1
 lay:=c2
 kind:=c3
 names:=c4
 own:=c5
 nd:=nd
 sub:=λp hp=>by
  rcases hcl with rfl | rfl
  all_goals
   rcases zX0 hp with e | e
   . rw[e];assumption
   . rw[Pg e];assumption
 has:=c6
 outs:=λj w h=>by
  let nyz:y≠z:=λe=>by simp [e]at nd
  let e1:(y==z)=false:=#[nyz,0]
  let e2:(z==y)=false:=#[Ne.symm nyz,0]
  match j,h with
  |0,h=>
    let e:y=w:=zS0 h;subst e;erw[hr,k,c,1,hk,6,hs];rcases hcl with rfl | rfl <;> simp [List.lookup,e1]
  |1,h=>
    let e:z=w:=zS0 h;subst e;erw[hr2,l,d,1,hk2,6,hs2];rcases hcl with rfl | rfl <;> simp [List.lookup,e2]
  |j+2,h=>simp at h
def ET(K:W.Frag)(hl:PE X l tl)(hK:X.K=K:=by rfl):PI X tg l (JG K tl):=by subst hK;exact dJ hl
end
end L2
namespace L2
open PySem PySem.Spec PyProof.Rows
section
variable {X:Cx}
def gO(z u:Str)(i:Int):Bool:=decide (PySem.fromIndex z.length i+u.length<=z.length)&&Builtin.Str.subAt z u (PySem.fromIndex z.length i)
instance rStartsAt(x:V)(vs:List V)(H:Hp)(Q:VK):∀z u i,x=.str z->vs=[.str u,.int i]->Q (.bl (gO z u i)) H:=0
def yb:MtR X "str.startswith" rStartsAt:=by
 exists 4,x,vs,v,us,Q,I,rx,rv,h;erw[z,u,i,1,1,q]at h;erw[t,1]at rx;cases rv with
 |cons r1 rv1=>
   cases rv1 with
   |cons r2 rv2=>
     cases rv2;erw[t1,1]at r1;erw[t2,1]at r2;exact call_gives F.slot_str_startswith (wO1 _ _ _) F.entry_str_startswith (F.args_str_startswith_3 _ _ _) (gives_str_startswith_from z u i t t1 t2) %[.bl _,H,I,1|q]
abbrev TJ:=St->Hp->Str->VK->Prop
def PJ(X:Cx)(es:List Expr)(t:TJ):Prop:=
 ∀(O7:#[7])(s:Shared)(σ:St)(H:Hp)(out:Str)(Q:VK),#[8] H s->t σ H out Q->‹X.w› (joinParts out (evalEach es X.env)) (EP X O7 σ Q) X.xe s
def Ko:PJ X [] (λ_ H out Q=>out.length<=sizeLine/\Q (.str out) H):=by
 exists 4,out,Q,I,h;exact joinParts_nil %[.str out,H,I.tok _,%[|0]|h.2] h.1
def wc(he:PE X e te)(ht:PJ X es t):PJ X (e::es) (λσ H out Q=>te σ H λv H1=>∃y,v=.str y/\(out++y).length<=sizeLine/\t σ H1 (out++y) Q):=by
 exists 4,out,Q,I,h;show wpAny _ _ (joinParts out (eval e X.env::evalEach es X.env)) _ _ s;apply joinParts_cons (thn (he O7 s σ H _ I h) λv s1 ⟨x,H1,I1,r1,y,ex,hz,q⟩=>?_);subst ex;erw[t',1]at r1;erw[hz,ht O7 s1 σ H1 _ Q I1 q]
def Io{e1 e2:Expr}{es:List Expr}{pos:Pos}(h:PJ X (e1::e2::es) t):PE X (.JoinedStr (e1::e2::es) pos) (λσ H Q=>t σ H Str.empty Q):=
 λO7 s σ H Q I k=>JoinedStr_many (h O7 s σ H Str.empty Q I k)
def Kq{pos:Pos}(he:PE X e te):PE X (.FormattedValue e (-1) none pos) (λσ H Q=>te σ H λv H1=>∃y,v=.str y/\y.length<=sizeLine/\Q (.str y) H1):=by
 exists 4,Q,I,h;apply FormattedValue_plain (thn (he O7 s σ H _ I h) λv s1 ⟨x,H1,I1,r1,y,ex,hz,q⟩=>?_);subst ex;erw[t',1]at r1;exact formatField_str (λt'' tk=>%[.str y,H1,I1.tok _,%[|0]|q]) hz
end
def LA(K:W.Frag)(a:Addr)(xs:List V):It:=%[λi H=>SqT K H a xs/\i<xs.length,λi H y H'=>H'=H/\xs.reverse[i]?=some y|λi _=>xs.length<=i]
def RevT.keep{h':Heap}(x:RevT h it t i)(k:∀o,h.get? it=some o->h'.get? it=some o):RevT h' it t i:=k _ x
def BM{K:W.Frag}(a it:Addr)(xs:List V):Turn P w K tg (LA K a xs) [it] it (λi h=>i<=xs.length/\RevT h it a ((xs.length:Int)-1-(i:Int))) where
 mem:=by simp
 obj:=λi h st b hb=>by
  let e:b=it:=#[hb,0]
  subst e;erw[_,st.2,λv z=>by cases z]
 keep:=λi h h' st k=>%[st.1|st.2.keep λo e=>k it #[2] o e]
 item:=by
  exists 5;erw[hq,hi]at hg;let%[its,rv,p|hz]:=I.tuple hq;let hj:xs.length-1-i<xs.length:=#[0]
  let hx:xs[xs.length-1-i]?=some xs[xs.length-1-i]:=zL0 hj;let%[u,hu|ru]:=rv.get hx;let%[f0,f1,f2,f3,f4|f5]:=hf it #[2];erw[_,hit]at st;let e1:((xs.length:Int)-1-(i:Int))=((xs.length-1-i:Nat):Int):=#[0]
  rw[e1]at hit;let h63:=kh;apply tj hit p (x:=u) #[hu,0] #[0] λh' tk st' sb=>?_
  let I1:#[8] H { s with heap:=h',toks:=tk }:=I.turned (t':=tk) (λb o hb e=>(sb.2 b hb).trans e) f0 f1 f3 f4 f5;let e2:((xs.length-1-i:Nat):Int)-1=(xs.length:Int)-1-((i+1:Nat):Int):=#[0]
  rw[e2]at st';erw[u,1,yu (s:={ s with heap:=h',toks:=tk }) st' rfl rfl ⋯ ⟨xs[xs.length-1-i],H,I1,ru,⟨rfl,?_⟩,⟨#[0],st'⟩,λb hb=>(hf b hb).1⟩];rw[wI1 hi,hx]
 done:=by
  exists 5;let hg:xs.length<=i:=hg;let%[f0,f1,f2,f3,f4|f5]:=hf it #[2];erw[hi,hit]at st;let e1:(xs.length:Int)-1-(i:Int)=-1:=#[0]
  rw[e1]at hit;exact uD (I.ok.hd hc) hit λh' tk eb=>%[1|I.turned (t':=tk) (λb o hb e=>eb b o hb e) f0 f1 f3 f4 f5]
 self:=λ_ _ _ _ _ st h=>uW st.2 h
def Jp(K:W.Frag)(c:Bool)(a:Addr)(xs:List V):It:=if c=true then ItV K a xs else LA K a xs
section
variable {X:Cx}{tg:Expr}
instance ZiRevB(K:W.Frag)(R:(It->Hp->Prop))(x:V)(H1:Hp):∀c a xs,x=.ref a->SqB K c H1 a xs->R (Jp K c a xs) H1:=0
def iRevB(K:W.Frag)(tl:TE):TI:=λσ H R=>tl σ H λx H1=>ZiRevB K R x H1
def Il{p pos:Pos}(hg:Gl X "reversed")(hm:X.mg "reversed"=none)(hl:PE X l tl)(hs:starEach [l] X.env=[(false,eval l X.env)]:=by rfl):
 PI X tg (.Call (.Name "reversed" p) [l] [] pos) (iRevB X.K tl):=by
 exists 4,R,I,h;apply jC1 (iI I hg hm ua ?_);apply zN1 ?_ hs rfl;rw[hs];show wpAny _ _ (spliced ((false,eval l X.env)::backTo pos (starEach [] X.env))) _ _ s;apply qY0 (thn (hl O7 s σ H _ I h) λu s1 ⟨x,H1,I1,r1,c,a,xs,ex,hq,q⟩=>?_);subst ex;cases r1;apply jH0 ?_;cases c with
 |true=>
   let hq:SqL X.K H1 a xs:=hq;let q:R (ItV X.K a xs) H1:=q;let%[its,rv,p|hz]:=I1.list hq;let hlen:=rv.length;apply call_reversed_list p.isList ?_;let hr:(s1.heap.push (revObj a ((its.toArray.size:Int)-1))).IsRevIter ‹s1› a ((xs.length:Int)-1-((0:Nat):Int)):=by
    let e:(xs.length:Int)-1-((0:Nat):Int)=(its.toArray.size:Int)-1:=by rw[zT0];omega
    rw[e];erw[_,qD0 _ rfl,1,1]
   apply wpAny_pyIter_revIter hr ?_;erw[‹s1›,[‹s1›],_,_,H1,1,I1.kept (t':=s1.toks) λb o e=>zQ0 _ e,BL a _ xs,%[zW0 _|hr],λb hb=>?_,q];let e:b=‹s1›:=#[hb,0]
   subst e;exact I1.fpOk (zH0 _) (I1.hok.fresh (zH0 _))
 |false=>
   let hq:SqT X.K H1 a xs:=hq;let q:R (LA X.K a xs) H1:=q;let%[its,rv,p|hz]:=I1.tuple hq;let hlen:=rv.length;apply ph p (by rw[zT0,←rv.length];exact hz) λtk=>?_
   let hr:RevT (s1.heap.push { cls:=.type "reversed",data:=.fields #[.ref a,rawInt ((its.toArray.size:Int)-1)] }) ‹s1› a ((xs.length:Int)-1-((0:Nat):Int)):=by
    let e:(xs.length:Int)-1-((0:Nat):Int)=(its.toArray.size:Int)-1:=by rw[zT0];omega
    rw[e];exact qD0 _ rfl
   apply uW hr ?_;erw[‹s1›,[‹s1›],_,_,H1,1,I1.kept (t':=tk) λb o e=>zQ0 _ e,BM a _ xs,%[zW0 _|hr],λb hb=>?_,q];let e:b=‹s1›:=#[hb,0]
   subst e;exact I1.fpOk (zH0 _) (I1.hok.fresh (zH0 _))
end
def Gv{K:W.Frag}{xs:List V}{g:TG}{tb:TS}{D:Ends}{σ:St}{H:Hp}(Pv:Nat->St->Hp->Prop)(h0:Pv 0 σ H)(hl:∀i σ H,i<=xs.length->Pv i σ H->SqB K c H a xs)
 (hs:∀i x σ H,i<xs.length->xs.reverse[i]?=some x->Pv i σ H->g x σ H λσ2 H2=>tb { D with nx:=Pv (i+1),ct:=Pv (i+1),bk:=D.nx } σ2 H2)(hd:∀ σ H,Pv xs.length σ H->D.nx σ H):
 ∃ W:Nat->Nat->St->Hp->Prop,(∃m,W 0 m σ H)/\∀i m σ H,W i m σ H ->
  ((Jp K c a xs).stop i H/\D.nx σ H)∨((Jp K c a xs).go i H/\∃N:St->Hp->Prop,(∀ σ' H',N σ' H'->∃m',m'<m/\W (i+1) m' σ' H')/\∀x H',(Jp K c a xs).yld i H x H'->g x σ H' λσ2 H2=>tb { D with nx:=N,ct:=N,bk:=D.nx } σ2 H2):=by
 cases c with
 |true=>exact Gs Pv h0 hl hs hd
 |false=>
   erw[λi m σ H=>m=xs.length-i/\i<=xs.length/\Pv i σ H,%[xs.length,by simp,zW0 _|h0],6];rintro i m σ H ⟨rfl,hi,p⟩;let q:=hl i σ H hi p
   by_cases Pc:i<xs.length
   . refine .inr %[%[q|Pc],Pv (i+1),λσ' H' p'=>%[xs.length-(i+1),3,1,Pc|p']|λx H' y=>?_];erw[e,ex]at y;subst e;exact hs i x σ _ Pc ex p
   . let e:i=xs.length:=#[0]
     subst e;exact .inl %[zH0 _|hd σ H p]
set_option maxRecDepth 100000
def pY:fillsNumberSlot (.type "tuple") "mul"=pure false:=
 PySem.fillsNumberSlot_seq (id:="tuple.__mul__") (r:=some (.builtin "tuple.__rmul__")) F.slot_tuple_mul.lookup ⋯ F.slot_tuple_rmul.lookup ⋯
def vY:seqRepeat? (.type "tuple")=pure (some (.builtin "tuple.__mul__")):=by
 unfold seqRepeat?;rw[PySem.seqSlot_of (T:="tuple") (name:="__mul__") (id:="tuple.__mul__") F.slot_tuple_mul.lookup ⋯,PySem.seqSlot_of (T:="tuple") (name:="__rmul__") (id:="tuple.__rmul__") F.slot_tuple_rmul.lookup ⋯];rfl
def tK(a:Int)(t:Tok)(l:Addr)(items:Array Value)(n:Nat)(dd:Option Addr)(sl:Array (Option Value)):
 Meets (Builtin.«int.__rmul__» %[[.int a t,.ref l]|[]]) (λ_ R s=>s.heap.get? l=some { cls:=.type "tuple",dict:=dd,data:=.seq items n,slots:=sl }/\R (.ok (.ret Value.notImplemented)) s):=
 .of_wp λprog w A R s h=>by erw[hp,g,d,tk,os]at s;erw[hl,h]at h;wp_walk;erw[0,h]
def ui(l:Addr)(items:Array Value)(n:Nat)(dd:Option Addr)(sl:Array (Option Value))(u:Tok):
 Meets (Builtin.«tuple.__mul__» %[[.ref l,.int 1 u]|[]]) (λ_ R s=>s.heap.get? l=some { cls:=.type "tuple",dict:=dd,data:=.seq items n,slots:=sl }/\R (.ok (.ret (.ref l))) s):=
 .of_wp λprog w A R s h=>by erw[hp,g,d,tk,os]at s;erw[hl,h]at h;wp_walk;erw[0,h]
def rG(l:Addr)(v:Value)(n:Nat)(dd:Option Addr)(sl:Array (Option Value))(u:Tok):
 Meets (Builtin.«tuple.__mul__» %[[.ref l,.int 0 u]|[]]) (λ_ R s=>s.heap.get? l=some { cls:=.type "tuple",dict:=dd,data:=.seq #[v] n,slots:=sl }/\R (.ok (.ret (.ref ‹s›))) { s with heap:=s.heap.push { cls:=.type "tuple",data:=.seq #[] },toks:=s.toks }):=
 .of_wp λprog w A R s h=>by erw[hp,g,d,tk,os]at s;erw[hl,h]at h;wp_walk;erw[0,h]
def rH(l:Addr)(v:Value)(n:Nat)(dd:Option Addr)(sl:Array (Option Value))(x:Int)(u:Tok)(h2:2<=x)(hx:x<=1000):
 Meets (Builtin.«tuple.__mul__» %[[.ref l,.int x u]|[]]) (λ_ R s=>s.heap.get? l=some { cls:=.type "tuple",dict:=dd,data:=.seq #[v] n,slots:=sl }/\R (.ok (.ret (.ref ‹s›))) { s with heap:=s.heap.push { cls:=.type "tuple",data:=.seq ((List.replicate x.toNat #[v]).foldl (·++·) #[]) },toks:=s.toks }):=
 .of_wp λprog w A R s h=>by
  erw[hp,g,d,tk,os]at s;erw[hl,h]at h;let c1:(decide (x < -(2 ^ 63))||decide (x≥2 ^ 63))=false:=by
   rw[zB1 #[0],zB1 #[0]];rfl
  let c2:(x==1)=false:=by simpa using(show x≠1 by omega)
  let c3:decide (x<=0)=false:=zB1 #[0];let c4:¬ ((1:Int)*x>(2 ^ 63-1) / 8):=#[0]
  let c5:Builtin.Tuple.tupleTooMany (1*x)=false:=by
   unfold Builtin.Tuple.tupleTooMany
   have:(sizeLine:Int)≥1000:=by decide
   exact zB1 #[0]
  wp_walk
  apply zX1 (λhab=>by rw[c1]at hab;cases hab) (λ_=>?_);show wpAny _ _ (do let xs ←Builtin.Tuple.tupleItemsOf (Value.ref l);_) _ _ _
  wp_walk
  apply zX1 (λhab=>absurd hab c4) (λ_=>?_);apply zX1 (λhab=>by rw[show Builtin.Tuple.tupleTooMany (((#[v]:Array Value).size:Int)*x)=false from c5]at hab;cases hab) (λ_=>?_);let sz:((List.replicate x.toNat #[v]).foldl (·++·) #[]).size<=sizeLine:=by
   let e:(List.replicate x.toNat (#[v]:Array Value)).foldl (·++·) #[]=(List.replicate x.toNat [v]).flatten.toArray:=by
    have:=lY [v] x.toNat []
    rw[List.nil_append]at this;exact this
   rw[e,zT0,Be];exact cx (by show x.toNat*1<=1000;omega)
  apply zD0 (zP1 ?_ sz);exact zI0 %[0|h]
section
variable {X:Cx}
instance rRepT(K:W.Frag)(x:V)(y:V)(H:Hp)(Q:VK):∀a v k,x=.ref a->y=.int k->SqT K H a [v]->0<=k->k<=1000->(k=1->Q (.ref a) H)->(k≠1->∀p,H p=none->Q (.ref p) (upd H p (.tup (List.replicate k.toNat v)))):=0
def xh(r:RelV v u):∀n,Vals (List.replicate n v) (List.replicate n u)
 |0=>.nil
 |n+1=>.cons r (xh r n)
def Iq:OpR X (binaryOp .Mult) (rRepT X.K):=by
 exists 4,x,y,vv,u,Q,I,rx,ry,h;erw[a,v,k,1,1,hq,k0,k1,q1,q2]at h;cases rx;erw[t,1]at ry;let%[its,r,p|hz]:=I.tuple hq;obtain⟨w,rfl,rw'⟩:∃w,its=[w]/\RelV v w:=by
  cases r with
  |cons h1 h2=>cases h2;erw[0,h1]
 erw[o,e,hc,n,hd]at p;erw[cls,dd,data,sl]at o;cases hc;cases hd;let e:s.heap.get? a=some { cls:=.type "tuple",dict:=dd,data:=.seq #[w] n,slots:=sl }:=e;apply wpAny_binaryOp_repeat_ref (T:="tuple") (U:="int") ⋯ %[_,e|1] (λs'=>vK1 s' k t) pY F.fills_int_mul wQ1 vY F.slot_int_index.lookup
  (jA1 wQ1 (vK1 s k t) F.entry_int_rmul (F.args_int_rmul_2 _ _) (tK k t a #[w] n dd sl)
   %[e,1,%[_,e|1]|6])
 by_cases c1:k=1
 . subst c1;exact jA1 vH1 %[_,e|1] vC0 (wY0 _ _) (ui a #[w] n dd sl t) ⟨e,.ref a,H,I,rfl,q1 rfl⟩
 let laid:∀m:Nat,m<=1000->#[8] (upd H ‹s› (.tup (List.replicate m v))) { s with heap:=s.heap.push { cls:=.type "tuple",data:=.seq (List.replicate m w).toArray },toks:=s.toks }:=λm hm=>
  I.laid (t':=s.toks) (o:=.tup (List.replicate m v)) (λb ob q=>zQ0 _ q) (zH0 _) %[by rw[zR1];exact cx hm,_,xh rw' m,IsTup.new _ _,_,qD0 _ rfl|1]
 by_cases c0:k=0
 . subst c0;exact jA1 vH1 %[_,e|1] vC0 (wY0 _ _) (rG a w n dd sl t) ⟨e,.ref _,_,laid 0 ⋯,rfl,q2 ⋯ _ (I.hok.fresh (zH0 _))⟩
 . let ef:(List.replicate k.toNat (#[w]:Array Value)).foldl (·++·) #[]=(List.replicate k.toNat w).toArray:=by
    have:=lY [w] k.toNat []
    rw [List.nil_append]at this;rw[show(List.replicate k.toNat w)=(List.replicate k.toNat [w]).flatten by
     induction k.toNat with
     |zero=>rfl
     |succ m ih=>rw[qB1,qB1,jA0,ih];rfl]
    exact this
   apply jA1 vH1 %[_,e|1] vC0 (wY0 _ _) (rH a w n dd sl k t #[0] k1) ⟨e,?_⟩;rw[ef];erw[.ref _,_,laid k.toNat #[0],1,q2 c1 _ (I.hok.fresh (zH0 _))]
def EZ(K:W.Frag)(hK:X.K=K:=by rfl):OpR X (binaryOp .Mult) (rRepT K):=by subst hK;exact Iq
end
section
variable {X:Cx}
instance rDictD(xs:List V)(H:Hp)(Q:VK):∀(a:Addr)(Pb:List (Key×V)),xs=[.ref a]->H a=some (.dK Pb)->(∀p,H p=none->Q (.ref p) (upd H p (.dK Pb))):=0
def Av:fL X (.type "dict") rDictD:=by
 exists 4,xs,us,Q,I,r,h;erw[a,Pb,1,ha,q]at h;cases r with
 |cons ra rr=>
   cases rr;cases ra;exact GZ I (.inl ha) λp s' hp I'=>%[.ref p,_,I',1|q p hp]
end
def Aw:bootBuiltins ("dict":Str)=some (.type "dict"):=by decide
end L2
namespace Mine
def Pr(n:Int):Prop:=2<=n/\∀k:Int,2<=k->k<=1000->k*k<=n->n % k≠0
def qi(n:Int)(j:Int):Prop:=∀k:Int,2<=k->k<j->k*k<=n/\n % k≠0
def uL{a b:Int}(h0:0<=a)(h:a<=b):a*a<=b*b:=Int.mul_le_mul h h h0 (Int.le_trans h0 h)
def Km{n k:Int}(h2:2<=n)(h0:2<=k)(u:qi n k)(h:n<k*k):Pr n:=by
 erw[h2,λj j2 _ js=>?_]
 by_cases c:j<k
 . exact(u j j2 c).2
 . have:=uL (a:=k) (b:=j) #[0] #[0]
   omega
def Kn{n:Int}(h2:2<=n)(u:qi n 1001):Pr n:=%[h2|λj j2 j3 _=>(u j j2 #[0]).2]
def Kk{n k:Int}(h0:2<=k)(h1:k<=1000)(hs:k*k<=n)(h:n % k=0):¬ Pr n:=λp=>p.2 k h0 h1 hs h
def yS(n:Int):qi n 2:=λk a b=>#[0]
def BK(u:qi n k)(hs:k*k<=n)(h:n % k≠0):qi n (k+1):=λj a b=>by
 by_cases c:j<k
 . exact u j a c
 . let e:j=k:=#[0]
   subst e;erw[hs,h]
def prB(n:Int):Bool:=decide (2<=n)&&(List.range 999).all λi=>decide (n<((i:Int)+2)*((i:Int)+2))||decide (n % ((i:Int)+2)≠0)
def AU(h:prB n=true):Pr n:=by
 unfold prB at h;rw[qY1]at h;erw[zY1 h.1,λk k2 k3 ks=>?_];let q:=List.all_eq_true.mp h.2 (k.toNat-2) (List.mem_range.mpr #[0]);let e:(((k.toNat-2:Nat):Int)+2)=k:=#[0]
 rw[e,Bool.or_eq_true]at q;rcases q with q | q
 . have:=zY1 q;omega
 . exact zY1 q
def Co:Pr 999983:=AU ⋯
def Kl{d:Int}(h:Pr p)(hp:p<1002001)(d0:1<d)(d1:d<p)(hd:d ∣ p):False:=by
 erw[e,he]at hd;let e0:1<e:=by
  by_cases c:e<=1
  . have:d*e<=d*1:=qW0 c #[0]
    omega
  . omega
 by_cases c:d<=e
 . let s:d*d<=p:=by
    have:=qW0 c (show(0:Int)<=d by omega)
    omega
   let t:d<=1000:=by
    by_cases c2:1001<=d
    . have:=uL (a:=1001) (b:=d) #[0] c2
      omega
    . omega
   apply h.2 d #[0] t s ?_;rw[he];exact Int.mul_emod_right d e
 . let c':e<=d:=#[0]
   let s:e*e<=p:=by
    have:=wJ0 c' (show(0:Int)<=e by omega)
    omega
   let t:e<=1000:=by
    by_cases c2:1001<=e
    . have:=uL (a:=1001) (b:=e) #[0] c2
      omega
    . omega
   apply h.2 e #[0] t s ?_;rw[he,qW1];exact Int.mul_emod_right e d
def Cop(x y:Int):Prop:=∀d:Int,0<d->d ∣ x->d ∣ y->d=1
def Lj{a:Int}(h:Pr p)(hp:p<1002001)(a0:0<a)(a1:a<p):Cop p a:=λd d0 h1 h2=>by
 have:=jT0 a0 h2
 by_cases c:1<d
 . exact(Kl h hp c #[0] h1).elim
 . omega
structure Eu(a p former ff rest f:Int):Prop where
 r0:0<rest
 rp:rest<p
 fr:rest<former
 f0:0<=f
 f1:f<p
 g0:0<=ff
 g1:ff<p
 cop:Cop former rest
 d1:p ∣ former-a*ff
 d2:p ∣ rest-a*f
def yx{a:Int}(h:Pr p)(hp:p<1002001)(a0:0<a)(a1:a<p):Eu a p p 0 (a % p) 1:=by
 let e:a % p=a:=qL0 #[0] a1;rw[e];erw[a0,a1,a1,3,3,3,3,Lj h hp a0 a1,by rw[Int.mul_zero,Int.sub_zero];exact vJ0 p,by rw[jO1,Int.sub_self];exact Int.dvd_zero p]
def Bt(E:Eu a p former ff rest f)(h1:rest≠1):Eu a p rest f (former-former / rest*rest) ((ff-former / rest*f) % p)/\(former-former / rest*rest).toNat<rest.toNat:=by
 let r0:=E.r0;let rp:=E.rp;let em:former-former / rest*rest=former % rest:=by
  have:=jD1 former rest
  rw[qW1]at this;omega
 let l0:0<=former % rest:=qE0 _ #[0];let l1:former % rest<rest:=qG0 _ r0;let cop':Cop rest (former % rest):=λd d0 x y=>by
  apply E.cop d d0 ?_ x
  have:=jD1 former rest
  rw[←this];exact wG1 y (Int.dvd_trans x (Int.dvd_mul_right _ _))
 let lz:former % rest≠0:=λz=>by
  have:=cop' rest r0 (vJ0 _) (by rw[z];exact Int.dvd_zero _)
  exact h1 this
 rw [em];erw[%[3,3,l1,qE0 _ #[0],qG0 _ #[0],E.f0,E.f1,cop',E.d2|6],3];let q:p ∣ (former-a*ff)-former / rest*(rest-a*f):=Int.dvd_sub E.d1 (Int.dvd_trans E.d2 (Int.dvd_mul_left _ _));let q2:p ∣ (ff-former / rest*f)-(ff-former / rest*f) % p:=Int.dvd_self_sub_emod;let q3:p ∣ a*((ff-former / rest*f)-(ff-former / rest*f) % p):=Int.dvd_trans q2 (Int.dvd_mul_left _ _);let q4:=wG1 q q3;let e2:former-a*ff-former / rest*(rest-a*f)+a*(ff-former / rest*f-(ff-former / rest*f) % p)=former % rest-a*((ff-former / rest*f) % p):=by
  rw[←em];generalize former / rest=t;generalize (ff-t*f) % p=u;rw[wT1,wT1,wT1,Int.mul_left_comm t a f];omega
 rw[e2]at q4;exact q4
def GE(E:Eu a p former ff rest f)(h1:rest=1)(hp:1<p):0<f/\f<p/\f*a % p=1:=by
 subst h1;let d2:=E.d2;let f0:=E.f0;let hm:f*a % p=1:=by
  erw[c,hc]at d2;let e:f*a=1+p*(-c):=by
   rw[qW1 f a,Int.mul_neg];omega
  rw[e,Int.add_mul_emod_self_left];exact qL0 #[0] hp
 erw[6,E.f1,hm]
 by_cases c:f=0
 . subst c;simp at hm
 . omega
end Mine
namespace Mine
def yO(n d:Int):Prop:=∀k:Int,3<=k->k % 2=1->k<d->n % k≠0
def CL(n:Int):yO n 3:=λk a _ c=>#[0]
def Ft(u:yO n d)(hd:d % 2=1)(h:n % d≠0):yO n (d+2):=λk a b c=>by
 by_cases e:k<d
 . exact u k a b e
 . have:k=d:=#[0]
   subst this;exact h
def Dt{n d:Int}(h3:3<=n)(h2:n % 2≠0)(h0:3<=d)(u:yO n d)(hd:n<d*d):Pr n:=by
 erw[3,λk k2 k3 ks z=>?_];let%[q|hq]:=zT1 z
 by_cases e:k % 2=1
 . by_cases c:k<d
   . exact u k #[0] e c z
   . have:=uL (a:=d) (b:=k) #[0] #[0]
     omega
 . obtain ⟨j,hj⟩:∃j,k=2*j:=%[k / 2|3]
   rw[hj,wO0]at hq;omega
def Dv{n:Int}(h2:n % 2=0)(h3:2<n):¬ Pr n:=λp=>p.2 2 #[0] #[0] #[0] h2
def Du{n d:Int}(h9:n<=999999)(h0:3<=d)(hs:d*d<=n)(h:n % d=0):¬ Pr n:=λp=>by
 let t:d<=1000:=by
  by_cases c2:1001<=d
  . have:=uL (a:=1001) (b:=d) #[0] c2
    omega
  . omega
 exact p.2 d #[0] t hs h
def zk{n d:Int}(h9:n<=999999)(h0:3<=d)(hs:d*d<=n):d<=999:=by
 by_cases c2:1000<=d
 . have:=uL (a:=1000) (b:=d) #[0] c2
   omega
 . omega
def Ii{n d:Int}(h0:3<=d)(hs:d*d<=n):d<=n:=by
 have:=qW0 (show(1:Int)<=d by omega) (show(0:Int)<=d by omega)
 omega
end Mine
namespace Mine
def cH:Nat->List (List Int)
 |0=>[[]]
 |n+1=>(cH n).flatMap λs=>[s++[0],s++[1]]
def gG(k:Int):Nat->List Int
 |0=>[]
 |j+1=>(k / 2 ^ j % 2)::gG k j
def qL(k:Int):∀n:Nat,gG k (n+1)=gG (k / 2) n++[k % 2]
 |0=>by simp [gG]
 |n+1=>by
   let ih:=qL k n;show(k / 2 ^ (n+1) % 2)::gG k (n+1)=(k / 2 / 2 ^ n % 2)::gG (k / 2) n++[k % 2]
   rw[ih,Int.ediv_ediv_of_nonneg ⋯,qJ1,qW1 2];rfl
def va{α β:Type}(f g:α->β):∀(l:List α)(i:Nat),(l.flatMap λs=>[f s,g s])[2*i]?=l[i]?.map f/\(l.flatMap λs=>[f s,g s])[2*i+1]?=l[i]?.map g
 | [],i=>by simp
 |x::r,0=>by simp
 |x::r,i+1=>by
   let ih:=va f g r i;let e1:2*(i+1)=(2*i)+2:=#[0]
   let e2:2*(i+1)+1=(2*i+1)+2:=#[0]
   constructor
   . rw[e1];simpa using ih.1
   . rw[e2];simpa using ih.2
def qe{α β:Type}(f g:α->β):∀l:List α,(l.flatMap λs=>[f s,g s]).length=2*l.length
 | []=>rfl
 |x::r=>by
   let ih:=qe f g r;simp only[vC1,zJ0,zR0,zH1];omega
def gy:∀n:Nat,(cH n).length=2 ^ n
 |0=>rfl
 |n+1=>by rw[cH,qe,gy n,Nat.pow_succ];omega
def uN:∀(n k:Nat),k<2 ^ n->(cH n)[k]?=some (gG (k:Int) n)
 |0,k,h=>by
   have:k=0:=#[h,0]
   subst this;rfl
 |n+1,k,h=>by
   let hk:k / 2<2 ^ n:=by rw[Nat.pow_succ]at h;omega
   let ih:=uN n (k / 2) hk;let ec:((k:Nat):Int) / 2=((k / 2:Nat):Int):=#[0]
   rw[qL,ec];rw[cH];let q:=va (λs:List Int=>s++[0]) (λs:List Int=>s++[1]) (cH n) (k / 2)
   by_cases c:k % 2=0
   . let e:k=2*(k / 2):=#[0]
     let e2:((k:Nat):Int) % 2=0:=#[0]
     rw[e2];let q1:=q.1;rw[←e,ih]at q1
     simpa using q1
   . let e:k=2*(k / 2)+1:=#[0]
     let e2:((k:Nat):Int) % 2=1:=#[0]
     rw[e2];let q1:=q.2;rw[←e,ih]at q1
     simpa using q1
def eT:∀(n:Nat)(s:List Int),s∈cH n->s.length=n
 |0,s,h=>by
   have:s=[]:=by simpa [cH]using h
   subst this;rfl
 |n+1,s,h=>by
   rw[cH,List.mem_flatMap]at h;erw[t,ht,hs]at h
   have:=eT n t ht
   simp at hs
   rcases hs with rfl | rfl <;> simp [this]
def jo{n:Nat}(h:n<=6):2 ^ n<=64:=Nat.pow_le_pow_right ⋯ h
end Mine
namespace Mine
def Pm(p:Int):Prop:=1<p/\∀a:Int,¬ p ∣ a->∃f:Int,p ∣ f*a-1
def Gz{p:Int}(hp:1<p):∀(n:Nat){former ff rest f:Int},rest.toNat<=n->Eu a p former ff rest f->∃g:Int,g*a % p=1
 |0,former,ff,rest,f,hn,E=>by
   have:=E.r0
   omega
 |n+1,former,ff,rest,f,hn,E=>by
   by_cases c:rest=1
   . erw[f,(GE E c hp).2.2]
   . let%[E2|lt]:=Bt E c;exact Gz hp n #[0] E2
def sM(h:Pr p)(hp:p<1002001):Pm p:=by
 let p1:1<p:=by have:=h.1;omega
 erw[p1,λa ha=>?_];let a0:0<a % p:=by
  have:=qE0 a (show p≠0 by omega)
  by_cases c:a % p=0
  . exact absurd (zT1 c) ha
  . omega
 let a1:a % p<p:=qG0 _ #[0];let%[g|hg]:=Gz p1 _ (zH0 _) (yx h hp a0 a1);erw[g,6];let e1:g*a % p=1:=by rw[←hg,qX0 g (a % p),jE0,←qX0]
 have:=jD1 (g*a) p
 erw[g*a / p,3]
def Pm.mul{a b:Int}(h:Pm p)(hd:p ∣ a*b)(ha:¬ p ∣ a):p ∣ b:=by
 let%[f,k|hk]:=h.2 a ha;erw[m,hm]at hd;erw[f*m-k*b,by grind]
def Pm.not_mul{a b:Int}(h:Pm p)(ha:¬ p ∣ a)(hb:¬ p ∣ b):¬ p ∣ a*b:=λz=>hb (h.mul z ha)
def ch:Nat->Nat->Nat
 |_,0=>1
 |0,_+1=>0
 |n+1,k+1=>ch n k+ch n (k+1)
def pe(n:Nat):ch n 0=1:=by cases n <;> rfl
def qg:∀(n k:Nat),n<k->ch n k=0
 |0,k+1,_=>rfl
 |n+1,k+1,h=>by
   show ch n k+ch n (k+1)=0;rw[qg n k #[0],qg n (k+1) #[0]]
def Je(n:Nat):ch n n=1:=by
 induction n with
 |zero=>rfl
 |succ n ih=>
   show ch n n+ch n (n+1)=1;rw[ih,qg n (n+1) #[0]]
def wY:∀(n k:Nat),(k+1)*ch (n+1) (k+1)=(n+1)*ch n k
 |0,0=>rfl
 |0,k+1=>by
   show(k+2)*(ch 0 (k+1)+ch 0 (k+2))=1*ch 0 (k+1);rw[qg 0 (k+1) #[0],qg 0 (k+2) #[0]]
   simp
 |n+1,0=>by
   let h:=wY n 0;rw[pe n]at h;show(0+1)*(ch (n+1) 0+ch (n+1) (0+1))=(n+1+1)*ch (n+1) 0;rw[pe (n+1)];omega
 |n+1,k+1=>by
   let h1:=wY n k;let h2:=wY n (k+1);show(k+2)*(ch (n+1) (k+1)+ch (n+1) (k+2))=(n+2)*ch (n+1) (k+1);let e:ch (n+1) (k+1)=ch n k+ch n (k+1):=rfl
   grind
def sm(f:Nat->Int):Nat->Int
 |0=>0
 |n+1=>sm f n+f n
def rQ{f g:Nat->Int}:∀n,(∀k,k<n->f k=g k)->sm f n=sm g n
 |0,_=>rfl
 |n+1,h=>by
   show sm f n+f n=sm g n+g n;rw[rQ n (λk hk=>h k #[0]),h n #[0]]
def En(f g:Nat->Int):∀n,sm (λk=>f k+g k) n=sm f n+sm g n
 |0=>rfl
 |n+1=>by
   show sm (λk=>f k+g k) n+(f n+g n)=(sm f n+f n)+(sm g n+g n)
   rw[En f g n];omega
def El(c:Int)(f:Nat->Int):∀n,sm (λk=>c*f k) n=c*sm f n
 |0=>by simp [sm]
 |n+1=>by
   show sm (λk=>c*f k) n+c*f n=c*(sm f n+f n)
   rw[El c f n]
   grind
def nZ(f:Nat->Int):∀n,sm f (n+1)=f 0+sm (λk=>f (k+1)) n
 |0=>by simp [sm]
 |n+1=>by
   show sm f (n+1)+f (n+1)=f 0+(sm (λk=>f (k+1)) n+f (n+1))
   rw[nZ f n];omega
def Em{p:Int}{f:Nat->Int}:∀n,(∀k,k<n->p ∣ f k)->p ∣ sm f n
 |0,_=>%[(0)|by simp [sm]]
 |n+1,h=>wG1 (Em n λk hk=>h k #[0]) (h n #[0])
def JL(a:Int):∀n:Nat,(a+1) ^ n=sm (λk=>(ch n k:Int)*a ^ k) (n+1)
 |0=>by simp [sm,ch]
 |n+1=>by
   let ih:=JL a n;rw[qJ1,ih,nZ (λk=>((ch (n+1) k:Nat):Int)*a ^ k) (n+1)];let e1:sm (λk=>((ch (n+1) (k+1):Nat):Int)*a ^ (k+1)) (n+1)=a*sm (λk=>(ch n k:Int)*a ^ k) (n+1)+sm (λk=>(ch n (k+1):Int)*a ^ (k+1)) (n+1):=by
    rw[←El,←En];apply rQ _ λk _=>?_
    have:ch (n+1) (k+1)=ch n k+ch n (k+1):=rfl
    rw[this,jQ1,qJ1]
    grind
   let e2:sm (λk=>(ch n k:Int)*a ^ k) (n+1)=1+sm (λk=>(ch n (k+1):Int)*a ^ (k+1)) (n+1):=by
    rw[nZ]
    have:sm (λk=>(ch n (k+1):Int)*a ^ (k+1)) (n+1)=sm (λk=>(ch n (k+1):Int)*a ^ (k+1)) n:=by
     show _+(ch n (n+1):Int)*a ^ (n+1)=_;rw[qg n (n+1) #[0]]
     simp
    rw[this,pe]
    simp
   rw[e1,pe]
   grind
def Lm(h:Pm p){n k:Nat}(hn:(n:Int)+1=p)(hk:k<n):p ∣ ((ch (n+1) (k+1):Nat):Int):=by
 let e:((k:Int)+1)*((ch (n+1) (k+1):Nat):Int)=p*((ch n k:Nat):Int):=by
  have:=wY n k
  rw[←hn];exact_mod_cast this
 apply h.mul (a:=(k:Int)+1) %[_|e] λhd=>?_
 have:=jT0 #[0] hd
 omega
def tT(h:Pm p):∀a:Nat,p ∣ (a:Int) ^ p.toNat-a
 |0=>by
   have:p.toNat≠0:=by have:=h.1;omega
   simp [Int.zero_pow this]
 |a+1=>by
   let ih:=tT h a;obtain⟨n,hn⟩:∃n:Nat,p.toNat=n+1:=%[p.toNat-1|by have:=h.1;omega]
   let hp:(n:Int)+1=p:=by have:=h.1;omega
   rw [hn]at ih ⊢;let b:=JL (a:Int) (n+1);let e:sm (λk=>(ch (n+1) k:Int)*(a:Int) ^ k) (n+1+1)=sm (λk=>(ch (n+1) (k+1):Int)*(a:Int) ^ (k+1)) n+(a:Int) ^ (n+1)+1:=by
    rw[nZ];show _+(sm _ n+(ch (n+1) (n+1):Int)*(a:Int) ^ (n+1))=_;rw[Je,pe]
    simp
    omega
   let d:p ∣ sm (λk=>(ch (n+1) (k+1):Int)*(a:Int) ^ (k+1)) n:=Em n λk hk=>Int.dvd_mul_of_dvd_left (Lm h hp hk)
   erw[u,hu]at ih;erw[v,hv]at d;erw[u+v,6];rw[jQ1];show((a:Int)+1) ^ (n+1)-((a:Int)+1)=_;rw[b,e]
   grind
def KW{a:Int}(h:Pm p)(ha:¬ p ∣ a)(a0:0<=a):p ∣ a*a ^ (p-2).toNat-1:=by
 obtain⟨n,hn⟩:∃n:Nat,p.toNat=n+2:=%[p.toNat-2|by have:=h.1;omega]
 let e:(p-2).toNat=n:=#[0]
 let f:=tT h a.toNat;rw[Int.toNat_of_nonneg a0,hn]at f;rw[e];let g:a ^ (n+2)-a=a*(a*a ^ n-1):=by
  rw[qJ1,qJ1]
  grind
 rw[g]at f;exact h.mul f ha
def IsPoly:Nat->(Int->Int)->Prop
 |0,f=>∀x,f x=0
 |n+1,f=>∃(a:Int)(g:Int->Int),IsPoly n g/\∀x,f x=a+x*g x
def IsPoly.congr:∀{n:Nat}{f g:Int->Int},IsPoly n f->(∀x,g x=f x)->IsPoly n g
 |0,_,_,h,e=>λx=>(e x).trans (h x)
 |_+1,_,_,⟨a,k,hk,h⟩,e=>%[a,k,hk|λx=>(e x).trans (h x)]
def IsPoly.zero:∀n:Nat,IsPoly n λ_=>0
 |0=>λ_=>rfl
 |n+1=>%[(0),λ_=>0,IsPoly.zero n|λx=>by simp]
def IsPoly.up:∀{n:Nat}{f:Int->Int},IsPoly n f->IsPoly (n+1) f
 |0,f,h=>%[(0),λ_=>0,λ_=>rfl|λx=>by rw[h x];simp]
 |n+1,f,⟨a,g,hg,h⟩=>%[a,g,hg.up|h]
def IsPoly.upTo{n:Nat}{f:Int->Int}(h:IsPoly n f):∀m,n<=m->IsPoly m f:=λm hm=>by
 obtain⟨k,rfl⟩:∃k,m=n+k:=%[m-n|3]
 clear hm
 induction k with
 |zero=>exact h
 |succ k ih=>exact ih.up
def IsPoly.add:∀{n:Nat}{f g:Int->Int},IsPoly n f->IsPoly n g->IsPoly n λx=>f x+g x
 |0,f,g,h,k=>λx=>by show f x+g x=0;rw[h x,k x];rfl
 |n+1,f,g,⟨a,u,hu,h⟩,⟨b,v,hv,k⟩=>%[a+b,λx=>u x+v x,hu.add hv|λx=>by show f x+g x=a+b+x*(u x+v x);rw[h x,k x];grind]
def IsPoly.mul(c:Int):∀{n:Nat}{f:Int->Int},IsPoly n f->IsPoly n λx=>c*f x
 |0,f,h=>λx=>by show c*f x=0;rw[h x];simp
 |n+1,f,⟨a,u,hu,h⟩=>%[c*a,λx=>c*u x,hu.mul c|λx=>by show c*f x=c*a+x*(c*u x);rw[h x];grind]
def IsPoly.lin{n:Nat}{f:Int->Int}(h:IsPoly n f)(r:Int):IsPoly (n+1) λx=>(x-r)*f x:=by
 let h1:IsPoly (n+1) λx=>x*f x:=%[(0),f,h|λx=>by simp]
 exact(h1.add (h.up.mul (-r))).congr λx=>by grind
def IsPoly.div:∀{n:Nat}{f:Int->Int},IsPoly (n+1) f->∀r:Int,∃q,IsPoly n q/\∀x,f x-f r=(x-r)*q x
 |0,f,⟨a,g,hg,h⟩,r=>%[λ_=>0,λ_=>rfl|λx=>by rw[h x,h r,hg x,hg r];simp]
 |n+1,f,⟨a,g,hg,h⟩,r=>by
   let%[q,hq|e]:=IsPoly.div hg r;erw[λx=>g x+r*q x,hg.add (hq.up.mul r),λx=>?_]
   have:=e x
   rw[h x,h r]
   grind
def IsPoly.roots(hp:Pm p):∀{n:Nat}{f:Int->Int}(rs:List Int),IsPoly n f->rs.length=n->rs.Pairwise (λa b=>¬ p ∣ b-a)->(∀r∈rs,p ∣ f r)->∀x,p ∣ f x
 |0,f,_,h,_,_,_,x=>%[(0)|by rw[h x];simp]
 |n+1,f,[],_,hl,_,_,_=>by simp at hl
 |n+1,f,r::rs,h,hl,hd,hr,x=>by
   let%[q,hq|e]:=h.div r;let hd':=List.pairwise_cons.mp hd;let z:=IsPoly.roots hp rs hq #[hl,0] hd'.2 (λs hs=>by
    let h1:p ∣ (s-r)*q s:=by
     rw[←e s];exact Int.dvd_sub (hr s (qK0 _ hs)) (hr r qA0)
    exact hp.mul h1 (hd'.1 s hs)) x
   have:f x=f r+(x-r)*q x:=by have:=e x;omega
   rw[this];exact wG1 (hr r qA0) (Int.dvd_mul_of_dvd_right z)
def nK:∀c:List Int,IsPoly c.length λx=>c.foldr (λa r=>a+x*r) 0
 | []=>λ_=>rfl
 |a::r=>%[a,_,nK r|λx=>rfl]
end Mine
namespace Mine
def pr(g:Nat->Int):Nat->Int
 |0=>1
 |n+1=>pr g n*g n
def sI{f g:Nat->Int}:∀n,(∀k,k<n->f k=g k)->pr f n=pr g n
 |0,_=>rfl
 |n+1,h=>by
   show pr f n*f n=pr g n*g n;rw[sI n (λk hk=>h k #[0]),h n #[0]]
def sH(g:Nat->Int):∀n,pr g (n+1)=g 0*pr (λk=>g (k+1)) n
 |0=>by simp [pr]
 |n+1=>by
   show pr g (n+1)*g (n+1)=g 0*(pr (λk=>g (k+1)) n*g (n+1))
   rw[sH g n,wO0]
def px(x:Int)(i:Nat):Nat->Int
 |0=>1
 |n+1=>if n=i then px x i n else px x i n*(x-n)
def AS(i:Nat):∀n,IsPoly (if i<n then n else n+1) λx=>px x i n
 |0=>%[(1),λ_=>0,λ_=>rfl|λx=>by simp [px]]
 |n+1=>by
   let ih:=AS i n
   by_cases c:n=i
   . subst c;rw[O8 (qS0 n)]at ih;rw[O9 (qR1 n)];exact ih.congr λx=>by simp [px]
   . let e:∀x,px x i (n+1)=(x-n)*px x i n:=λx=>by
      show(if n=i then px x i n else px x i n*(x-n))=_;rw[O8 c,qW1]
     by_cases c2:i<n
     . rw[O9 c2]at ih;rw[O9 #[0]];exact(ih.lin n).congr e
     . rw[O8 c2]at ih;rw[O8 #[0]];exact(ih.lin n).congr e
def wa{k i:Nat}(h:k≠i):∀n,k<n->px (k:Int) i n=0
 |n+1,hk=>by
   show(if n=i then px (k:Int) i n else px (k:Int) i n*((k:Int)-n))=0
   by_cases c:n=i
   . rw[O9 c];exact wa h n #[0]
   . rw [O8 c]
     by_cases c2:k=n
     . subst c2
       simp
     . rw [wa h n #[0]]
       simp
def lag(v u:Nat->Int)(n:Nat)(x:Int):Int:=sm (λi=>v i*px x i n*u i) n
def Ia{n m:Nat}{f:Nat->Int->Int}:(∀i,i<m->IsPoly n (f i))->IsPoly n λx=>sm (λi=>f i x) m:=by
 induction m with
 |zero=>exact λ_=>IsPoly.zero n
 |succ m ih=>exact λh=>(ih λi hi=>h i #[0]).add (h m #[0])
def oR(v u:Nat->Int)(n:Nat):IsPoly n (lag v u n):=Ia λi hi=>by
 let h:=AS i n;rw[O9 hi]at h;exact(h.mul (v i*u i)).congr λx=>by grind
def Ek{f:Nat->Int}{k:Nat}:∀n,k<n->(∀i,i<n->i≠k->f i=0)->sm f n=f k
 |n+1,hk,h=>by
   show sm f n+f n=f k
   by_cases c:k=n
   . subst c;let z:sm f k=0:=by
      have:sm f k=sm (λ_=>0) k:=rQ k λi hi=>h i #[0] #[0]
      rw[this];clear this h hk
      induction k with
      |zero=>rfl
      |succ k ih=>show sm (λ_=>0) k+0=0;rw[ih];rfl
     rw[z]
     simp
   . rw [Ek n #[0] (λi hi=>h i #[0]),h n #[0] #[0]]
     simp
def Wgt(p:Int)(n:Nat)(u:Nat->Int):Prop:=∀i,i<n->p ∣ px (i:Int) i n*u i-1
def nJ{k:Nat}(hu:Wgt p n u)(hk:k<n):p ∣ lag v u n k-v k:=by
 unfold lag;rw[Ek n hk λi hi hne=>by rw[wa (Ne.symm hne) n hk];simp];let%[m|hm]:=hu k hk;erw[v k*m,by grind]
def far{p:Int}{n:Nat}(hn:(n:Int)<=p):((List.range n).map λk:Nat=>(k:Int)).Pairwise λa b=>¬ p ∣ b-a:=by
 rw[vD0];apply List.Pairwise.imp_of_mem (fun{a b} ha hb h=>?_) List.pairwise_lt_range;intro d
 have:=jT0 #[0] d
 let hb':=List.mem_range.mp hb;omega
def alike(hp:Pm p){n:Nat}(hn:(n:Int)<=p){f g:Int->Int}(hf:IsPoly n f)(hg:IsPoly n g)(h:∀k:Nat,k<n->p ∣ f k-g k)(x:Int):p ∣ f x-g x:=by
 let hd:IsPoly n λx=>f x-g x:=(hf.add (hg.mul (-1))).congr λx=>by grind
 apply hd.roots hp ((List.range n).map λk:Nat=>(k:Int)) #[2] (far hn) (λr hr=>?_) x;let%[k,hk|1]:=List.mem_map.mp hr;exact h k (List.mem_range.mp hk)
def yk(hp:Pm p){n:Nat}(hn:(n:Int)<=p){v:Nat->Int}{P:Int->Int}(hu:Wgt p n u)(hP:IsPoly n P)(h:∀k:Nat,k<n->p ∣ v k-P k)(x:Int):p ∣ lag v u n x-P x:=
 alike hp hn (oR v u n) hP (λk hk=>by
  let h1:=nJ (v:=v) hu hk;let h2:=h k hk
  have:lag v u n k-P k=(lag v u n k-v k)+(v k-P k):=#[0]
  rw[this];exact wG1 h1 h2) x
def FX(hp:Pm p){n:Nat}(hn:(n:Int)<=p)(hu:Wgt p n u)(hu':Wgt p n u')(x:Int):p ∣ lag v u n x-lag v u' n x:=
 yk hp hn hu (oR v u' n) (λk hk=>by
  let%[m|hm]:=nJ (v:=v) hu' hk;erw[-m,by grind]) x
def sE(x:Int)(i:Nat):∀m,px x i (i+1+m)=pr (λj=>x-j) i*pr (λj=>x-(i+1+j:Nat)) m
 |0=>by
   let h:∀k,k<=i->px x i k=pr (λj=>x-j) k:=λk=>by
    induction k with
    |zero=>exact λ_=>rfl
    |succ k ih=>
      intro hk;show(if k=i then px x i k else px x i k*(x-k))=pr (λj=>x-j) k*(x-k)
      rw[O8 #[0],ih #[0]]
   show(if i=i then px x i i else _)=_*1;rw[O9 rfl,h i (zH0 _),jO1]
 |m+1=>by
   show(if i+1+m=i then _ else px x i (i+1+m)*(x-(i+1+m:Nat)))=pr (λj=>x-j) i*(pr (λj=>x-(i+1+j:Nat)) m*(x-(i+1+m:Nat)))
   rw[O8 #[0],sE x i m,wO0]
def AT(x:Int)(i:Nat):∀m,pr (λj=>x-(i+m:Nat)+j) m=pr (λj=>x-(i+1+j:Nat)) m
 |0=>rfl
 |m+1=>by
   rw[sH];show _=pr (λj=>x-(i+1+j:Nat)) m*(x-(i+1+m:Nat))
   let e:pr (λk=>x-(i+(m+1):Nat)+(k+1:Nat)) m=pr (λj=>x-(i+m:Nat)+j) m:=sI m λk _=>#[0]
   rw[e,AT x i m,qW1]
   congr 1
   omega
def fac:Nat->Int
 |0=>1
 |n+1=>fac n*((n:Int)+1)
def yw:∀n:Nat,pr (λj=>(n:Int)-j) n=fac n
 |0=>rfl
 |n+1=>by
   rw[sH];let e:pr (λk=>((n+1:Nat):Int)-(k+1:Nat)) n=pr (λj=>(n:Int)-j) n:=sI n λk _=>#[0]
   rw[e,yw n];show((n+1:Nat)-(0:Nat):Int)*fac n=fac n*((n:Int)+1)
   rw[qW1]
   congr 1
def Bo(i:Nat):∀m:Nat,pr (λj=>(i:Int)-(i+1+j:Nat)) m=(-1) ^ m*fac m
 |0=>rfl
 |m+1=>by
   show pr _ m*((i:Int)-(i+1+m:Nat))=(-1) ^ (m+1)*(fac m*((m:Int)+1))
   rw[Bo i m,qJ1]
   have:((i:Int)-(i+1+m:Nat))=-((m:Int)+1):=#[0]
   rw[this]
   grind
def EM(i m:Nat):px (i:Int) i (i+1+m)=fac i*((-1) ^ m*fac m):=by rw[sE,yw,Bo]
def yv:∀(k d:Nat),fac d*pr (λj=>((d+k:Nat):Int)-j) k=fac (d+k)
 |0,d=>by simp [pr]
 |k+1,d=>by
   let ih:=yv k (d+1);rw[show d+1+k=d+(k+1) by omega]at ih;rw[←ih];show fac d*(pr (λj=>((d+(k+1):Nat):Int)-j) k*(((d+(k+1):Nat):Int)-k))=fac d*((d:Int)+1)*pr (λj=>((d+(k+1):Nat):Int)-j) k
   have:(((d+(k+1):Nat):Int)-k)=(d:Int)+1:=#[0]
   rw[this]
   grind
def wV(hp:Pm p):∀n:Nat,(n:Int)<p->¬ p ∣ fac n
 |0,_=>λd=>by
   have:=jT0 ⋯ (show p ∣ 1 from d)
   have:=hp.1
   omega
 |n+1,h=>hp.not_mul (wV hp n #[0]) λd=>by
   have:=jT0 #[0] d
   omega
def AL(m:Nat):((-1:Int) ^ m)*(-1) ^ m=1:=by
 induction m with
 |zero=>rfl
 |succ m ih=>rw[qJ1];grind
def Ks(hp:Pm p){n i:Nat}(hn:(n:Int)<=p)(hi:i<n):¬ p ∣ px (i:Int) i n:=by
 obtain⟨m,rfl⟩:∃m,n=i+1+m:=%[n-(i+1)|3]
 rw[EM];apply hp.not_mul (wV hp i #[0]) (hp.not_mul (λd=>?_) (wV hp m #[0]));erw[k,hk]at d;let s:=AL m
 have:p ∣ 1:=%[k*(-1) ^ m|by grind]
 have:=jT0 ⋯ this
 have:=hp.1
 omega
def HD{p:Int}{last:Nat}{sh:Nat->Int}(h:∀k,k<=last->p ∣ sh k*fac k-1):Wgt p (last+1) λi=>(-1) ^ (last-i)*(sh i*sh (last-i)):=λi hi=>by
 obtain⟨m,rfl⟩:∃m,last=i+m:=%[last-i|3]
 show p ∣ px (i:Int) i (i+m+1)*((-1) ^ (i+m-i)*(sh i*sh (i+m-i)))-1;rw[show i+m+1=i+1+m by omega,EM,show i+m-i=m by omega];let%[a|ha]:=h i #[0];let%[b|hb]:=h m #[0];let s:=AL m;erw[a*(sh m*fac m)+b,6];let e:fac i*((-1) ^ m*fac m)*((-1) ^ m*(sh i*sh m))=((-1) ^ m*(-1) ^ m)*((sh i*fac i)*(sh m*fac m)):=by grind
 rw[e,s]
 grind
end Mine
namespace Mine
def fnd(g:Nat->Bool)(i:Nat):List Int:=((List.range i).filter g).map λk:Nat=>(k:Int)
def tS(g:Nat->Bool)(i:Nat):fnd g (i+1)=fnd g i++if g i=true then [(i:Int)]else []:=by
 unfold fnd;rw[zZ1,qQ1,zK0];cases h:g i <;> simp [List.filter,h]
def fnd_mem{x:Int}:x∈fnd g i↔∃k:Nat,x=(k:Int)/\k<i/\g k=true:=by
 unfold fnd;rw[List.mem_map]
 constructor
 . rintro⟨k,hk,rfl⟩
   have:=List.mem_filter.mp hk
   erw[k,1,List.mem_range.mp this.1,this.2]
 . rintro⟨k,rfl,h1,h2⟩;erw[k,List.mem_filter.mpr %[List.mem_range.mpr h1|h2],1]
def Gx(g:Nat->Bool)(i:Nat):(fnd g i).Pairwise (· < ·):=by
 unfold fnd;rw[vD0];exact(List.pairwise_lt_range.filter g).imp λh=>#[0]
def Bk(g:Nat->Bool)(i:Nat):(fnd g i).length<=i:=by
 unfold fnd;rw[zF0];exact zP0 (jR0 _ _) (by rw[qR0];exact zH0 _)
def DL{p a b:Int}(a0:0<=a)(b0:0<=b)(a1:a<p)(b1:b<p)(h:p ∣ a-b):a=b:=by
 erw[k,hk]at h;let h1:k<1:=by
  apply Int.lt_of_not_ge ?_;intro c
  have:=qW0 c (show 0<=p by omega)
  omega
 let h2:-1<k:=by
  apply Int.lt_of_not_ge ?_;intro c
  have:=qW0 c (show 0<=p by omega)
  omega
 have:k=0:=#[0]
 subst this;omega
def tL{p:Int}:∀{l:List Int},l.Pairwise (· < ·)->(∀x∈l,0<=x/\x<p)->l.Pairwise λa b=>¬ p ∣ b-a
 | [],_,_=>List.Pairwise.nil
 |a::l,h,r=>by
   let h':=List.pairwise_cons.mp h;apply List.pairwise_cons.mpr %[λb hb d=>?_|tL h'.2 λx hx=>r x (qK0 _ hx)];let ra:=r a qA0;let rb:=r b (qK0 _ hb)
   have:=DL rb.1 ra.1 rb.2 ra.2 d
   have:=h'.1 b hb
   omega
def few(hp:Pm p){n k:Nat}{f:Int->Int}(hf:IsPoly n f){x:Int}(hx:¬ p ∣ f x){rs:List Int}(hd:rs.Pairwise λa b=>¬ p ∣ b-a)(hr:∀r∈rs,p ∣ f r):rs.length<n:=by
 apply Nat.lt_of_not_le ?_;intro c;apply hx (hf.roots hp (rs.take n) (by rw[qI0];omega) (hd.sublist (List.take_sublist _ _)) (λr h=>hr r (List.mem_of_mem_take h)) x)
end Mine
namespace Mine
def IsPoly.prod:∀{m n:Nat}{f g:Int->Int},IsPoly (m+1) f->IsPoly (n+1) g->IsPoly (m+n+1) λx=>f x*g x
 |0,n,f,g,⟨a,u,hu,e⟩,hg=>by
   rw[Nat.zero_add];exact(hg.mul a).congr λx=>by rw[e x,hu x];simp
 |m+1,n,f,g,⟨a,u,hu,e⟩,hg=>by
   let ih:=IsPoly.prod hu hg;let h1:IsPoly (m+n+1+1) λx=>x*(u x*g x):=%[(0),_,ih|λx=>by simp]
   let h2:IsPoly (m+n+1+1) λx=>a*g x:=(hg.mul a).upTo _ #[0]
   rw[show m+1+n+1=m+n+1+1 by omega];exact(h2.add h1).congr λx=>by rw[e x];grind
def IsPoly.const(c:Int)(n:Nat):IsPoly (n+1) λ_=>c:=%[c,λ_=>0,IsPoly.zero n|λx=>by simp]
def IsPoly.self:IsPoly 2 λx=>x:=%[(0),λ_=>1,IsPoly.const 1 0|λx=>by simp]
def tU(p x:Int):p ∣ x % p-x:=⟨-(x / p),by
 have:=jD1 x p
 rw[Int.mul_neg];omega⟩
end Mine
namespace Mine
def evl(x:Int)(c:List Int):Int:=c.foldr (λa r=>a+x*r) 0
def jw(x a:Int)(r:List Int):evl x (a::r)=a+x*evl x r:=rfl
def Bq{p:Int}:∀c:List Int,evl x (c.map (· % p)) % p=evl x c % p
 | []=>rfl
 |a::r=>by
   rw[zZ0,jw,jw,qX1,qX0,Bq r,←qX0,Int.emod_emod_of_dvd _ (vJ0 p),←qX1]
def Bs(hp:Pm p):∀c:List Int,(c.length:Int)<=p->(∀x,p ∣ evl x c)->∀a∈c,p ∣ a
 | [],_,_,a,ha=>by cases ha
 |b::r,hl,h,a,ha=>by
   let h0:p ∣ b:=by
    have:=h 0
    rw[jw,Int.zero_mul,Int.add_zero]at this;exact this
   let hl':(r.length:Int)+1<=p:=by
    rw[zR0]at hl;omega
   let hr:∀x,p ∣ evl x r:=λx=>by
    refine(nK r).roots hp ((List.range r.length).map λk:Nat=>(k:Int)+1) #[2] ?_ ?_ x
    . apply tL ?_ ?_
      . rw[vD0];exact List.pairwise_lt_range.imp λh=>#[0]
      . intro y hy;let%[k,hk|1]:=List.mem_map.mp hy
        have:=List.mem_range.mp hk
        omega
    . intro y hy;let%[k,hk|1]:=List.mem_map.mp hy;let hk':=List.mem_range.mp hk;let h1:=h ((k:Int)+1);rw[jw]at h1;let h2:p ∣ ((k:Int)+1)*evl ((k:Int)+1) r:=by
       have:=Int.dvd_sub h1 h0
       rwa [show b+((k:Int)+1)*evl ((k:Int)+1) r-b=((k:Int)+1)*evl ((k:Int)+1) r by omega]at this
      apply hp.mul h2 λd=>?_
      have:=jT0 #[0] d
      omega
   rcases zX0 ha with e | e
   . rw[e];exact h0
   . exact Bs hp r #[0] hr a e
def kA(p:Int)(c:List Int):List Int:=fnd (λs=>decide (evl (s:Int) c % p=0)) p.toNat
def BW(hp:Pm p){c:List Int}(hl:(c.length:Int)<=p)(h:∃a∈c,¬ p ∣ a):(kA p c).length<c.length:=by
 have:∃x,¬ p ∣ evl x c:=Classical.byContradiction λz=>by
  erw[a,ha,hn]at h;exact hn (Bs hp c hl (λx=>Classical.byContradiction λy=>z %[x|y]) a ha)
 erw[x,hx]at this;let p1:=hp.1;apply few (k:=0) hp (nK c) hx (rs:=kA p c) (tL (Gx _ _) λy hy=>?_) λy hy=>?_
 . let%[k,1,hk|_]:=fnd_mem.mp hy;omega
 . let%[k,1,hk|hg]:=fnd_mem.mp hy;exact zT1 (zY1 hg)
def ovr(xs cs:List Int):List Int:=List.zipWith (· - ·) xs cs
def rh{xs cs:List Int}(h:xs.length=cs.length):(ovr xs cs).length=xs.length:=by
 unfold ovr;rw[List.length_zipWith];omega
def EY{xs cs:List Int}{i:Nat}{x c:Int}(hx:xs[i]?=some x)(hc:cs[i]?=some c):(ovr xs cs).take (i+1)=(ovr xs cs).take i++[x-c]:=by
 have:(ovr xs cs)[i]?=some (x-c):=by
  unfold ovr;rw[List.getElem?_zipWith,hx,hc]
 rw[qC0,this];rfl
def wrg(p:Int)(c:List Int):Bool:=c.any λn=>!decide (n % p=0)
def wrg_iff:wrg p c=true↔∃a∈c,¬ p ∣ a:=by
 unfold wrg;rw[List.any_eq_true]
 constructor
 . rintro⟨a,ha,h⟩;erw[a,ha,λd=>?_];rw[jK1 d]at h
   revert h
   decide
 . rintro⟨a,ha,h⟩;erw[a,ha,6];rw[zB1 λz=>h (zT1 z)];rfl
def Hq{p:Int}:∀c:List Int,((c.map (· % p)).map λn=>!decide (n=0)).any id=wrg p c
 | []=>rfl
 |a::r=>by
   have:=Hq (p:=p) r
   unfold wrg at this ⊢;rw[zZ0,zZ0,jJ0,jJ0,this];rfl
end Mine
namespace Mine
def cgt(p:Int)(ds:List Int):Int:=ds.foldl (λa d=>a*(p-d)) 1
def Hf(p:Int)(ds:List Int)(d:Int):cgt p (ds++[d])=cgt p ds*(p-d):=by
 unfold cgt;rw[List.foldl_append];rfl
def pf{p:Int}:∀(ds:List Int)(a:Int),0<a->(∀d∈ds,d<p)->0<ds.foldl (λa d=>a*(p-d)) a
 | [],a,h,_=>h
 |d::r,a,h,hd=>by
   let h1:=hd d qA0;exact pf r _ (Int.mul_pos h #[0]) λe he=>hd e (qK0 _ he)
def Jf{p:Int}{ds:List Int}(h:∀d∈ds,d<p):0<cgt p ds:=pf ds 1 ⋯ h
def IZ(p:Int)(n m:Nat)(g:Int)(c:List Int):Int:=
 if m=1 then(if c.headD 0 % p=0 then p ^ n else p ^ n-g)else((kA p c).length:Int)*p ^ n+(p-((kA p c).length:Int))*(p ^ n-g)
def wI(p:Int)(n m:Nat)(g:Int)(c:List Int):Int:=
 if wrg p c=true then(if m=1 then p ^ n-g else((kA p c).length:Int)*p ^ n+(p-((kA p c).length:Int))*(p ^ n-g))else p ^ (if m=1 then n else n+1)
def Hz(h:¬ wrg p c=true):∀a∈c,p ∣ a:=λa ha=>Classical.byContradiction λz=>h (wrg_iff.mpr %[a,ha|z])
def Br{p:Int}:∀c:List Int,(∀a∈c,p ∣ a)->p ∣ evl x c
 | [],_=>Int.dvd_zero p
 |a::r,h=>by
   rw[jw];exact wG1 (h a qA0) (Int.dvd_mul_of_dvd_right (Br r λb hb=>h b (qK0 _ hb)))
def Bm{g:Nat->Bool}:∀i,(∀k,g k=true)->(fnd g i).length=i
 |0,_=>rfl
 |i+1,h=>by
   rw[tS,O9 (h i),zJ0,Bm i h];rfl
def BY{p:Int}{c:List Int}(h:∀a∈c,p ∣ a):(kA p c).length=p.toNat:=
 Bm _ λ_=>zC1 (jK1 (Br c h))
def IR{p:Int}{m:Nat}{c:List Int}(p0:0<p)(hl:c.length=m):wI p n m g c=IZ p n m g c:=by
 unfold wI IZ
 by_cases hm:m=1
 . rw [O9 hm,O9 hm,O9 hm];obtain⟨a,rfl⟩:∃a,c=[a]:=List.length_eq_one_iff.mp (hl.trans hm)
   let e:(wrg p [a]=true)↔¬ a % p=0:=by
    rw[wrg_iff]
    constructor
    . rintro⟨b,hb,h⟩ z;rw[Pg hb]at h;exact h (zT1 z)
    . intro z;erw[a,List.mem_singleton.mpr rfl,λd=>z (jK1 d)]
   show(if wrg p [a]=true then p ^ n-g else p ^ n)=if a % p=0 then p ^ n else p ^ n-g
   by_cases h:a % p=0
   . rw[O8 (λz=>e.mp z h),O9 h]
   . rw[O9 (e.mpr h),O8 h]
 . rw [O8 hm,O8 hm,O8 hm]
   by_cases h:wrg p c=true
   . rw[O9 h]
   . rw[O8 h,BY (Hz h),Int.toNat_of_nonneg #[0],Int.sub_self,Int.zero_mul,Int.add_zero,qJ1,qW1]
def AV{p:Int}(h:0<p):∀n:Nat,0<p ^ n
 |0=>by rw[wY1];decide
 |n+1=>by rw[qJ1];exact Int.mul_pos (AV h n) h
def FT{g:Int}(hp:Pm p){m:Nat}{c:List Int}(m1:1<=m)(hl:c.length=m)(mp:(m:Int)<=p)(g0:0<g):decide (wI p n m g c<p ^ (n+if 1<m then 1 else 0))=wrg p c:=by
 let p0:0<p:=by have:=hp.1;omega
 unfold wI
 by_cases h:wrg p c=true
 . rw [O9 h,h];apply zC1 ?_
   by_cases hm:m=1
   . rw[O9 hm,O8 #[0],Nat.add_zero];omega
   . rw [O8 hm,O9 #[0],qJ1];let few:=BW hp (c:=c) (by rw[hl];exact mp) (wrg_iff.mp h);generalize (kA p c).length=b at few;let hb:(b:Int)<p:=#[0]
     let h1:0<(p-b)*g:=Int.mul_pos #[0] g0;let e:(b:Int)*p ^ n+(p-b)*(p ^ n-g)=p ^ n*p-(p-b)*g:=by grind
     rw[e];omega
 . rw [O8 h];let h':wrg p c=false:=#[h,0]
   rw[h'];apply zB1 ?_
   by_cases hm:m=1
   . rw[O9 hm,O8 #[0],Nat.add_zero];omega
   . rw[O8 hm,O9 #[0]];omega
end Mine
namespace Mine
open PySem L2
def FV{us:List Value}(h:us.length=1):∃a,us=[a]:=by
 cases us with
 |nil=>cases h
 |cons a r=>
   cases r with
   |nil=>erw[a,1]
   |cons _ _=>cases h
def Dc{us:List Value}{n:Nat}(h:us.length=n+1):∃a r,us=a::r/\r.length=n:=by
 cases us with
 |nil=>cases h
 |cons a r=>erw[a,r,1,Nat.succ.inj h]
def Dd{us:List Value}(h:us.length=2):∃a b,us=[a,b]:=by
 let%[a,r,1|h1]:=Dc h;let%[b|1]:=FV h1;erw[a,b,1]
def FU{us:List Value}(h:us.length=3):∃a b c,us=[a,b,c]:=by
 let%[a,r,1|h1]:=Dc h;let%[b,c|1]:=Dd h1;erw[a,b,c,1]
def KF{us:List Value}(h:us.length=4):∃a b c d,us=[a,b,c,d]:=by
 let%[a,r,1|h1]:=Dc h;let%[b,c,d|1]:=FU h1;erw[a,b,c,d,1]
def len5{us:List Value}(h:us.length=5):∃a b c d e,us=[a,b,c,d,e]:=by
 let%[a,r,1|h1]:=Dc h;let%[b,c,d,e|1]:=KF h1;erw[a,b,c,d,e,1]
def len6{us:List Value}(h:us.length=6):∃a b c d e f,us=[a,b,c,d,e,f]:=by
 let%[a,r,1|h1]:=Dc h;let%[b,c,d,e,f|1]:=len5 h1;erw[a,b,c,d,e,f,1]
def len7{us:List Value}(h:us.length=7):∃a b c d e f g,us=[a,b,c,d,e,f,g]:=by
 let%[a,r,1|h1]:=Dc h;let%[b,c,d,e,f,g|1]:=len6 h1;erw[a,b,c,d,e,f,g,1]
def top(i:Nat):Stmt:=PySem.Challenge.pw_asktally_k63_whole_best_liar.main.body.getD i (.Pass %[(0),(0),(0)|(0)])
example:=[pN,22,jQ,23,iX,31,jT,32,kO,33,iz,34,iP,35,dY,36,iZ,37,mX,38,iO,39,ie,40,vL,42,gZ,43,iC,45,jS,46,sv,47,nq,48,iy,49,lI,50,jL,51,kW,53,mV,54,kZ,57,jb,58,lg,59,jf,60,gB,61,je,62,nn,64,jR,65,kQ,66,jJ,68,iB,69,kU,73,hR,74,jM,75,jN,76,kP,77,iY,79,mQ,81,kY,82,iw,83,mY,84,eG,85,jK,89,mZ,90,pO,91,lh,97,jU,99,rZ,100,pG,103,eO,104,kR,105,pK,107,su,108,sk,109,cv,110,oy,111,ic,112,so,113,jP,114,iQ,115,pJ,116,pM,117,lK,118,jO,119,ng,120,nj,121,lN,122,iA,123,ox,124]
section
variable {P:Program}{w:World}{K:W.Frag}{mg:#[9]}{base:Heap}
example:=[dz,96,lc,87,lJ,94,vP,72]
structure Bl(mg:#[9]):Prop where
 len:mg "len"=none
 range:mg "range"=none
 isinstance:mg "isinstance"=none
 int:mg "int"=none
 bool:mg "bool"=none
 list:mg "list"=none
 tuple:mg "tuple"=none
 max:mg "max"=none
 min:mg "min"=none
 reversed:mg "reversed"=none
 enumerate:mg "enumerate"=none
 sum:mg "sum"=none
 all:mg "all"=none
 zip:mg "zip"=none
 dict:mg "dict"=none
 str:mg "str"=none
 any:mg "any"=none
def Bn(z:Int):0<=z % 2147483646+1/\z % 2147483646+1<=2147483646:=#[0]
def gX:FnScope ["_law_script","_law_k","_law_cell","_law_own"] Wx (aj su):=%[|5]
def Cy(F:#["_law_feed",su])(hlen:mg "len"=none):#[1,f,fd,Wx,spFeed K]:=by
 exists gX
 erw[a,ns,k,1,hS,h63,k0,k1,q]at h;refine⟨_,(ad #[ao,2,gX,au aV (au cq ag (pv 1)) ag]
  (ad (aJ (ai gq (pv 1) (aG aI rfl hlen zD1 %[0|ae]) (ay _)) (af #[ao,2,gX,aM ix_list (pv 0) (pv 1) #[1]]) (af (aJ (ai iS (aG aI rfl hlen zD1 %[0|ae]) ag (ay _)) (af #[ao,2,gX,au aV (au cq (au ba (aM ix_list (pv 0) (au ba (pv 1) (aG aI rfl hlen zD1 %[0|ae])) #[1]) ag) ag) (au cq ag (pv 1))]) aB)))
  (ad #[ao,3,gX,ag]
  (ad (aJ (ai JA (pv 2) (au Fa ag ag) (ay _)) (af #[ao,3,gX,pv 2]) aB)
  (af (am (bZ %[3,au aV (au ba (au aV (au cq (au ba (pv 2) ag) ag) (au cq ag (pv 1))) ag) ag|ae]))))))),?_⟩
 let hl:(ns.map V.int).length=ns.length:=zF0 _;let hp:(10:Int) ^ (18:Int).toNat=1000000000000000000:=by decide
 erw[0,2,.inl %[4|4],2,6];erw[0,0,a,0,.inl hS,2,0,6];apply wO (λc=>?b1) (λc=>?b2)
 case' b1=>
  let c':k<(((ns.map V.int).length:Nat):Int):=zY1 c;rw[hl]at c';let%[v|hv]:=Hn (ns:=ns) k0 c';erw[0,0,a,_,2,hS,hv,6]
 case' b2=>
  erw[0,a,0,.inl hS,2,0,6];apply wO (λc2=>?b3) (λc2=>?b4)
  case' b3=>
   let c':(0:Int)<(((ns.map V.int).length:Nat):Int):=zY1 c2;let m0:=qE0 k (b:=(((ns.map V.int).length:Nat):Int)) #[0];let m1:=qG0 k c';let%[v|hv]:=Hn (ns:=ns) m0 (by rw[hl]at m1 ⊢;exact m1);let n0:=qE0 v (b:=2147483629) ⋯;let n1:=qG0 v (b:=2147483629) ⋯;erw[0,0,0,a,0,.inl hS,2,c',a,_,2,hS,hv,2,(by show(0:Int)<_;decide),2,.inr %[4|4],0,2,.inl %[4|4],2,6]
 all_goals
  erw[0,2,%[4,4|4],2,0,6];apply wO (λc3=>?_) (λc3=>?_)
  . let c4:=zY1 c3;rw[hp]at c4;erw[0,0,0,2,(by show(0:Int)<_;decide),2,.inr %[4|4],0,2,.inl %[4|4],2,2,(by show(0:Int)<_;decide),2,y2S,λp hp=>?_];apply q p _ hp (zE0 hp _) %[_,_,ah,Int.le_trans ⋯ c4,(Bn _).1|(Bn _).2]
  . erw[0,0,2,(by show(0:Int)<_;decide),2,.inr %[4|4],0,2,.inl %[4|4],2,2,(by show(0:Int)<_;decide),2,y2S,λp hp=>?_];apply q p _ hp (zE0 hp _) %[_,_,ah,qH1 0,(Bn _).1|(Bn _).2]
def rV:FnScope ["_law_feed_here","_law_many","_law_digit","_law_one"] WI (aj sk):=%[|5]
def Cv(F:#["_law_take",sk]):#[1,f,fd,WI,spTake]:=by
 exists rV
 erw[f,m,1,%[own,st,hf,o0,s0|s1],m0,m1,q]at h;refine⟨_,(ad (aJ (ai iS (aM ix_list (pv 0) ag #[1]) ag (ay _)) (ad #[ao,2,rV,au ba (aM ix_list (pv 0) ag #[1]) (pv 1)]
  (ad (pS (au Fc (aM ix_list (pv 0) ag #[1]) (pv 1)) (we (pv 0) ag oh))
  (af (am (pv 2))))) aB)
  (ad #[ao,3,rV,au ba (au cq (aM ix_list (pv 0) ag #[1]) ag) ag]
  (ad (pS (au aV (au ba (au aV (au cq (pv 3) ag) ag) ag) ag) (we (pv 0) ag oh))
  (af (am (au ba (au AX (au aV (au cq (pv 3) ag) (aM ix_list (pv 0) ag #[1])) ag) (pv 1))))))),?_⟩
 erw[0,f,_,(0),0,1,zG0 hf,1,2,0,6];apply wO (λc=>?_) (λc=>?_)
 . erw[0,f,_,(0),0,1,zG0 hf,1,0,2,m0,6];erw[0,f,_,(0),0,1,zG0 hf,1,0,2,%[m0|m1],0,f,_,(0),(0),1,1,hf,1,6];erw[0,6];exact q _ _ (qE0 _ #[0]) (qG0 _ m0) ⟨_,_,ah,Int.ediv_nonneg o0 #[0],s0,s1⟩ (SameBut.upd _)
 . let a0:=qE0 (st*69621) (b:=2147483647) ⋯;let a1:=qG0 (st*69621) (b:=2147483647) ⋯;erw[0,f,_,(1),0,1,zG0 hf,1,2,.inr %[4|4],2,(by show(0:Int)<_;decide),6];erw[0,2,.inr %[4|4],2,2,(by show(0:Int)<_;decide),2,0,f,_,(1),(1),1,1,hf,1,6];let b0:=qE0 (st*69621 % 2147483647*48271+30103) (b:=2147483646) ⋯;let b1:=qG0 (st*69621 % 2147483647*48271+30103) (b:=2147483646) ⋯;erw[0,2,.inr %[4|4],0,f,_,(1),0,1,zG0 ah,1,2,2,%[4|4],0,2,m0,6];exact q _ _ (qE0 _ #[0]) (qG0 _ m0) ⟨_,_,ah,o0,#[0],#[0]⟩ (SameBut.upd _)
def i3:FnScope ["_law_feed_here","_law_names_here","_law_room","_law_deep","_law_form","_law_more","_law_one","_law_word"] WS (aj oy):=%[|5]
def lf{a X Y B:Prop}[Decidable a](x:X)(h:¬ a->X->B):if decide a=true then(if true=true then X else Y)else B:=by
 by_cases c:a
 . rw[zC1 c];exact du (du x)
 . rw[zB1 c];exact cE (h c x)
def BS{n:Nat}(F:#["_law_tree",oy])(hlen:mg "len"=none)(aP:#[1,"_law_take",WI,spTake])
 (gR:#[n+2,"_law_tree",WS,spTree n]):#[n+3,f,fd,WS,spTree (n+1)]:=by
 exists i3
 erw[f,a,room,deep,ns,1,hF,hN,nl,r1,r100,d1,dn,q]at h;refine⟨_,(ad #[ao,4,i3,ax aP hr (zG1 (zW0 _)) rfl %[0,ag|ae]]
  (ad (aJ (PW.pt (iD (ai gq (pv 2) ag (ay _)) (iD (ai gq (pv 3) ag (ay _)) (hV (ai aQ (pv 4) ag (ay _)))))) (ad (aJ (PW.pt (iD (ai aQ (au ba (pv 4) ag) ag (ay _)) (hV (ai aQ (aG aI rfl hlen zD1 %[1|ae]) ag (ay _))))) (af (am (aM ix_list (bZ %[aS %[aF|ae],aS %[aF|ae]|ae]) (ax aP hr (zG1 (zW0 _)) rfl %[0,ag|ae]) #[1]))) aB)
   (af (am (aS %[aF,aM (ix_list.or ix_tup) (pv 1) (ax aP hr (zG1 (zW0 _)) rfl %[0,aG aI rfl hlen zD1 %[1|ae]|ae]) #[1]|ae])))) aB)
  (ad (aJ (PW.pt (iD (ai gq (pv 2) ag (ay _)) (hV (ai aQ (pv 4) ag (ay _))))) (af (am (aS %[aF,ax gR hr (zH0 _) rfl %[0,1,au bp (pv 2) ag,au bp (pv 3) ag|ae]|ae]))) aB)
  (ad #[ao,5,i3,au aV ag (ax aP hr (zG1 (zW0 _)) rfl %[0,au bp (pv 2) ag|ae])]
  (ad #[ao,6,i3,ax gR hr (zH0 _) rfl %[0,1,5,au bp (pv 3) ag|ae]]
  (ad #[ao,7,i3,aM ix_list (bZ %[aF,aF,aF,aF|ae]) (au ba (pv 4) ag) #[1]]
  (af (am (aS %[7,6,ax gR hr (zH0 _) rfl %[0,1,au bp (au bp (pv 2) ag) (pv 5),au bp (pv 3) ag|ae]|ae]))))))))),?_⟩
 erw[0,f,(10),1,hF,4,4,λfm H1 f0 f10 F1 S1=>?_];let N1:=hN.feed hF S1;erw[0,2,0,6];apply lf ?leaf λc1 hX=>?_
 case leaf=>
  erw[0,2,(by show(0:Int)<_;decide),1,0,6];apply lf ?yn λc6 hY=>?_
  case yn=>
   erw[y1S,λp1 h1=>?_];erw[y1S,λp2 h2=>?_];erw[y2S,λl hl=>?_];let ga:=zE0 h1 (.tup [.str "yes"]);let gb:=zE0 h2 (.tup [.str "no"]);let gc:=zE0 hl (.lst [.ref p1,.ref p2]);let G:=ga.trans (gb.trans gc);let nlf:=(F1.same (ga.trans gb)).ne hl;erw[0,f,(2),1,F1.same G,4,4,λd H2 d0 d2 F2 S2=>?_];let y2:H2 p1=some (.tup [.str "yes"]):=ki (F1.same G) S2 _ _ (gc _ _ (gb _ _ ah));let n2:H2 p2=some (.tup [.str "no"]):=ki (F1.same G) S2 _ _ (gc _ _ ah);let l2:=S2 l _ nlf ah
   have:d=0∨d=1:=#[0]
   rcases this with rfl | rfl
   . erw[l,_,(0),0,1,zG0 l2,1,q (.ref p1) .yes H2 F2 (S1.trans ((zM0 G).trans S2)) (.yes y2) trivial (show(1:Int)<=room from r1) (show(1:Int)<=deep from d1)]
   . erw[l,_,(1),0,1,zG0 l2,1,q (.ref p2) .no H2 F2 (S1.trans ((zM0 G).trans S2)) (.no n2) trivial (show(1:Int)<=room from r1) (show(1:Int)<=deep from d1)]
  erw[0,a,0,N1.seq,1,0,6]
  by_cases c7:V.int ((ns.map V.str).length:Int)=V.int 0
  . exact aW c7 hY
  apply aE c7 ?_;let nz:0<ns.length:=by
   let z:¬ ((ns.map V.str).length:Int)=0:=λz=>c7 (congrArg V.int z)
   rw[zF0]at z;omega
  erw[0,0,0,a,0,N1.seq,f,0,F1,(show(0:Int)<((ns.map V.str).length:Int) by rw[zF0];omega),by rw[zF0];omega,λd H2 d0 d9 F2 S2=>?_];let%[v,hv|vm]:=vk (l:=ns.map V.str) (i:=d) d0 d9;let%[x,hx|1]:=List.mem_map.mp vm;refine(N1.feed F1 S2).ix hv ?_;erw[y2S,λp hp=>?_];let G:=zE0 hp (.tup [.str "is",.str x]);exact q (.ref p) (.is x) _ (F2.same G) (S1.trans (S2.trans (zM0 G))) (.is ah) hx (show(1:Int)<=room from r1) (show(1:Int)<=deep from d1)
 erw[0,2,0,6]
 by_cases c2:deep<2
 . exact aW c2 (du hX)
 apply aE c2 ?_;erw[0,1,0,6]
 by_cases c3:V.int fm=V.int 9
 . exact aW c3 hX
 apply aE c3 ?_;erw[0,2,0,6];let d2:2<=deep:=#[0]
 let dd:1<=deep-1:=#[0]
 let ddn:deep-1+1<=(n:Int)+1:=#[0]
 apply lf ?nt λc4 hN=>?_
 case nt=>
  erw[0,0,0,2,0,2,f,a,_,_,ns,1,F1,N1,nl,(show 1<=room-1 by omega),3,dd,ddn,λv1 t1 H3 F3 S3 T1 o1 z1 p1=>?_];erw[y2S,λp hp=>?_];let G5:=zE0 hp (.tup [.str "not",v1]);apply q (.ref p) (.not t1) _ (F3.same G5) (S1.trans (S3.trans (zM0 G5))) (.not ah (T1.mono (aY G5))) o1 ?_ ?_
  . show((t1.size+1:Nat):Int)<=room;omega
  . show((t1.depth+1:Nat):Int)<=deep;omega
 erw[0,1,0,6]
 by_cases c5:V.int fm=V.int 8
 . exact aW c5 hN
 apply aE c5 ?_;erw[0,0,2,f,0,F1,(show(0:Int)<room-2 by omega),(show room-2<2 ^ 63 by omega),λe H2 e0 e1 F2 S2=>?_];erw[2,6];let N2:=N1.feed F1 S2;erw[0,0,0,0,2,f,a,_,_,ns,1,F2,N2,nl,3,3,dd,ddn,λv1 t1 H3 F3 S3 T1 o1 z1 p1=>?_];let N3:=N2.feed F2 S3;erw[y4S,λl hl=>?_];let%[wd,hw|wm]:=vk (l:=joinW.map V.str) (i:=fm % 4) #[0] (by
  have:(joinW.map V.str).length=4:=by rfl
  omega)
 let%[x,hx|1]:=List.mem_map.mp wm;erw[0,2,(by show(0:Int)<_;decide),l,_,2,zG0 ah,hw,6];let G:=zE0 hl (.lst [.str "and",.str "or",.str "odd",.str "same"]);erw[0,0,0,0,0,2,0,2,0,2,f,a,_,_,ns,1,F3.same G,N3.same G,nl,(show 1<=room-1-(1+e) by omega),3,dd,ddn,λv2 t2 H4 F4 S4 T2 o2 z2 p2=>?_];erw[y3S,λp hp=>?_];let G5:=zE0 hp (.tup [.str x,v1,v2]);let T1':TreeAt H4 v1 t1:=(T1.mono (aY G)).mono (ki (F3.same G) S4);apply q (.ref p) (.bin x t1 t2) _ (F4.same G5) (S1.trans (S2.trans (S3.trans ((zM0 G).trans (S4.trans (zM0 G5)))))) (.bin ah (T1'.mono (aY G5)) (T2.mono (aY G5))) %[hx,o1|o2] ?_ ?_
 . show((t1.size+t2.size+1:Nat):Int)<=room;omega
 . show((max t1.depth t2.depth+1:Nat):Int)<=deep;omega
def BR:#[2,f,fd,WS,spTree 0]:=by
 let no:∀vs H Q E,¬ spTree 0 vs H Q E:=λvs H Q E h=>by
  erw[f,a,room,deep,ns,_,_,_,_,_,_,h1,h2,_]at h;omega
 exists 3
def uT(F:#["_law_tree",oy])(hlen:mg "len"=none)(m:mg "_law_tree"=some (.ref f))(aP:#[1,"_law_take",WI,spTake]):
 ∀n:Nat,#[n+2,f,fd,WS,spTree n]
 |0=>BR
 |n+1=>BS F hlen aP (Cal.of F (uT F hlen m aP n) m (λ_ _ _ _ _ _ us hl=>by let%[u0,u1,u2,u3|1]:=KF hl;rfl))
def KM:Stmt->List Stmt
 |.If _ b _ _=>b
 |_=>[]
def KL:Stmt->Expr
 |.If c _ _ _=>c
 |_=>.Constant .none 0 %[(0),(0),(0)|(0)]
def DU:Stmt->Expr
 |.Assign _ v _=>v
 |.Return (some v) _=>v
 |_=>.Constant .none 0 %[(0),(0),(0)|(0)]
def Aq:Expr->List Expr
 |.List es _=>es
 |.BinOp _ _ (.List es _) _=>es
 |.Subscript (.List es _) _ _=>es
 |_=>[]
abbrev stm(s:Stmt)(i:Nat):Stmt:=(gN s).getD i (.Pass %[(0),(0),(0)|(0)])
abbrev HX(s:Stmt)(i j:Nat):Stmt:=(KM (stm s i)).getD j (.Pass %[(0),(0),(0)|(0)])
def wordsA:List Str:=["is","set","say","if","go","end","num","box","op","field","holds","claims"]
def wordsB:List Str:=["nota","nob","yesx","andy","ors","oddly"]
def wordsC:List Str:=["samey","rounds","dues","coins","truex","asks"]
@[irreducible] def Aa:List Expr:=Aq (DU (HX cv 6 0))
@[irreducible] def zZ:List Expr:=Aq (DU (HX cv 6 1))
@[irreducible] def zY:List Expr:=Aq (DU (HX cv 6 2))
def FC:Consts Aa wordsA:=by
 unfold Aa;exact .cons (.cons (.cons (.cons (.cons (.cons (.cons (.cons (.cons (.cons (.cons (.cons .nil)))))))))))
def FB:Consts zZ wordsB:=by
 unfold zZ;exact .cons (.cons (.cons (.cons (.cons (.cons .nil)))))
def FA:Consts zY wordsC:=by
 unfold zY;exact .cons (.cons (.cons (.cons (.cons (.cons .nil)))))
def zX:∃p1 p2 p3 p4 p5 p6 p7 p8 p9 q1 q2 q3 q4 q5,gN cv=[stm cv 0,stm cv 1,stm cv 2,stm cv 3,stm cv 4,stm cv 5,
 .If (KL (stm cv 6)) [.Assign [.Name "_law_words" p1] (.List Aa p2) p3,.Assign [.Name "_law_words" p4] (.BinOp (.Name "_law_words" p5) .Add (.List zZ p6) p7) p8,.Assign [.Name "_law_words" p9] (.BinOp (.Name "_law_words" q1) .Add (.List zY q2) q3) q4,HX cv 6 3] [] q5,stm cv 7]:=
 %[_,_,_,_,_,_,_,_,_,_,_,_,_,_|by rfl']
def LTR:Str:="bcdfghjklmnpqrstvwxz"
def KD:∀c∈LTR.cps.toList,c≠97:=by decide
def Ag:∀c∈LTR.cps.toList,97<=c/\c<=122:=by decide
def DO:∀x∈(wordsA++wordsB)++wordsC,x.length<=20/\(∀c∈x.cps.toList,97<=c/\c<=122)/\x≠"aa":=by decide
instance spNamesN:∀(f:Addr)(m:Int),vs=[.ref f,.int m]->FeedAt H f->0<=m->m<=6->(∀(l:Addr)(ns:List Str)(H':Hp),H l=none->l≠f->H' l=some (.lst (ns.map V.str))->ns.length=m.toNat->(∀x∈ns,qk x)->ns.Nodup->FeedAt H' f->SameBut f H H'->Q (.ref l) H'):=1
def BI:∀x∈(wordsA++wordsB)++wordsC,∃c∈x.cps.toList,c∉LTR.cps.toList:=by decide
def IK:∀a b:Fin 20,LTR.cps.toList[a.val]?=LTR.cps.toList[b.val]?->a=b:=by decide
def Fz{ns:List Str}{t:Nat}{u:Int}(u0:0<=u)(u20:u<20)(hl:ns.length<=6)(h:∀(k:Nat) x,ns[k]?=some x->x.cps.toList[t]?=LTR.cps.toList[((u+7*(k:Int)) % 20).toNat]?):ns.Nodup:=by
 apply List.pairwise_iff_getElem.mpr λi j hi hj ij e=>?_
 let h1:=h i _ (zL0 hi);let h2:=h j _ (zL0 hj);rw[e]at h1;let h3:=h1.symm.trans h2;let h4:=IK %[((u+7*(i:Int)) % 20).toNat|3] ⟨((u+7*(j:Int)) % 20).toNat,#[0]⟩ h3;let h5:=congrArg Fin.val h4;simp only at h5;omega
def KB{ns:List Str}{x:Str}{j:Nat}(h:ns.Nodup)(hx:x∉ns):(ns.set j x).Nodup:=by
 apply List.pairwise_iff_getElem.mpr λa b ha hb ab=>?_
 rw[qP1]at ha hb;rw[List.getElem_set,List.getElem_set]
 split
 . split
   . omega
   . intro e;exact hx (e▸qP0 hb)
 . split
   . intro e;exact hx (e▸qP0 ha)
   . exact List.pairwise_iff_getElem.mp h a b ha hb ab
def Ls{α:Type}{l:List α}{i:Int}{v:α}(h0:0<=i)(h:atI l i=some v):l[i.toNat]?=some v:=by
 let ek:((i.toNat:Nat):Int)=i:=#[0]
 by_cases c:i.toNat<l.length
 . let q:atI l ((i.toNat:Nat):Int)=some l[i.toNat]:=cu (zL0 c);rw[ek,h]at q;rw[zL0 c];exact q.symm
 . exfalso
   unfold atI ixN at h;rw[O9 h0,O8 #[0]]at h;cases h
def Ec{zs:List Str}(h:∀z∈zs,z.length=1/\∀c∈z.cps.toList,c∈LTR.cps.toList):(zs.map (·.length)).sum=zs.length:=by
 induction zs with
 |nil=>rfl
 |cons a r ih=>
   rw[zZ0,zV1,ih λz hz=>h z (qK0 _ hz),(h a qA0).1,zR0];omega
def b7:FnScope ["_law_feed_here","_law_many","_law_letters","_law_common","_law_at","_law_first","_law_found","_law_k","_law_tail","_law_sign","_law_words"] WI (aj cv):=%[|5]
def jv{p:Addr}(F:FeedAt H f)(h:p≠f):FeedAt (upd H p o) f:=by
 erw[x,t,e,r]at F;erw[x,t,by rw[aD (Ne.symm h)];exact e,r]
def zP(F:#["_law_names",cv])(hrange:mg "range"=none)(aP:#[1,"_law_take",WI,spTake]):#[2,f,fd,WI,spNamesN]:=by
 exists b7
 erw[f,m,1,hF,m0,m6,q]at h;erw[p1,p2,p3,p4,p5,p6,p7,p8,p9,q1,q2,q3,q4,q5,ebody]at zX;rw[ebody];refine⟨_,(ad (ao (i:=2) b7.nd rfl (Or.inr rfl) aF)
  (ad (ao (i:=3) b7.nd rfl (.inl rfl) (dZ zQ1 qM1 qN1 kc aF (aa (cf (N:=["_law_letters","_law_feed_here"]) (ix:=[2,0]) rfl
   #[4] rfl
   (bL rfl hrange %[ag|ae])
   (λ_ _ _=>cg (aM wM (pv 1) (ax aP hr ⋯ rfl %[2,ag|ae]) #[1]))) ae)))
  (ad #[ao,4,b7,ax aP hr ⋯ rfl %[0,ag|ae]]
  (ad #[ao,5,b7,ax aP hr ⋯ rfl %[0,ag|ae]]
  (ad #[ao,6,b7,bZ ae]
  (ad (cI zE1 rfl (bL rfl hrange %[1|ae]) (aX (i:=7) b7.nd rfl (.inl rfl)) (ad #[ao,8,b7,au ba (ax aP hr ⋯ rfl %[0,au bp ag (pv 4)|ae]) ag]
   (ad #[ao,9,b7,aM wM (pv 2) (au ba (au aV (pv 5) (au cq ag (pv 7))) ag) #[1]]
   (af (bb (dZ zF1 zL1 zM1 cY (pv 6) %[au sR (au sR (eJ zm (pv 3) ig (eP (pv 4))) (pv 9)) (eJ zm (pv 3) (eP (pv 4)) (eP (au aV (pv 4) (pv 8))))|ae]))))))
  (ad (aJ (PW.pt (nu (ai iS (pv 1) ag (ay _)) (lP (ai aQ (ax aP hr ⋯ rfl %[0,ag|ae]) ag (ay _))))) (ad #[ao,10,b7,bZ (lR FC)]
   (ad #[ao,10,b7,au pV (pv 10) (bZ (lR FB))]
   (ad #[ao,10,b7,au pV (pv 10) (bZ (lR FA))]
   (af (pS (aM ix_list (pv 10) (ax aP hr ⋯ rfl %[0,ag|ae]) #[1]) (we (pv 6) (ax aP hr ⋯ rfl %[0,1|ae]) oh)))))) aB)
  (af (am (pv 6)))))))))),?_⟩
 erw[1,(5),1,4,4,λD hD=>?_];let Df:=hF.ne hD;let L20:LTR.cps.toList.length=20:=by decide
 apply dM (λi H'=>∃zs:List Str,H' D=some (.lst (zs.map V.str))/\zs.length=i/\(∀z∈zs,z.length=1/\∀c∈z.cps.toList,c∈LTR.cps.toList)/\FeedAt H' f/\SameBut f H H') %[[],by rw[ah];rfl,1,by simp,hF.same (zE0 hD _)|zM0 (zE0 hD _)] ?_ ?_
 . rintro i H3 hi ⟨zs,hl,zl,z1,F3,S3⟩;let i5:i<5:=hi;erw[0,0,f,(20),1,F3,4,4,λd H4 d0 d26 F4 S4=>?_];let%[c,hc|hm]:=vk (l:=LTR.cps.toList) (i:=d) d0 (by rw[L20];exact d26);let hD4:H4 D=some (.lst (zs.map V.str)):=S4 D _ Df hl;erw[_,d,c,1,1,cx ⋯,hc,_,hD4,6,Nx.of hi %[zs++[⟨#[c]⟩],6,6,6,jv F4 Df|6]]
   . rw[zF0,zl];exact aN (wV1 (Nat.lt_trans i5 ⋯))
   . rw[ah,zK0];rfl
   . rw[zJ0,qM0,zl]
   . intro z hz;rcases qN0 hz with h | h
     . exact z1 z h
     . rw [Pg h];erw[1,λc' hc'=>?_]
       have:c'=c:=#[hc',0]
       subst this;exact hm
   . intro b o hb e;rw[aD (aO e hD)];exact S4 b o hb (S3 b o hb e)
 rintro H3 ⟨zs,hl,zl,z1,F3,S3⟩;let sl:=Ec z1;let zl5:zs.length=5:=zl;erw[_,D,zs,1,1,zG0 hl,⋯,3,6];let jl:(Txt.join "" zs).length=5:=by
  have:=size_glued "" zs
  let e0:(("":Str)).length=0:=by decide
  rw[e0,Nat.mul_zero]at this;show(Builtin.Str.glued "" zs).length=5;omega
 let jc:∀c∈(Txt.join "" zs).cps.toList,c∈LTR.cps.toList:=λc hc=>by
  let%[z,hz|h]:=CT hc;exact(z1 z hz).2 c h
 generalize Txt.join "" zs=cm at jl jc;erw[0,f,(6),1,F3,4,4,λt H4 t0 t6 F4 S4=>?_];erw[0,f,(20),1,F4,4,4,λu H5 u0 u20 F5 S5=>?_];erw[y0S,λL hL=>?_];let S05:SameBut f H H5:=S3.trans (S4.trans S5);let Lf:=F5.ne hL;let L0:H L=none:=by
  cases e:H L with
  |none=>rfl
  |some o=>rw[S05 L o Lf e]at hL;cases hL
 refine⟨_,rfl,m,rfl,#[0],#[0],dQ (λi σ H'=>∃(x7 x8 x9:Option V)(ns:List Str),σ=[some (.ref f),some (.int m),some (.str LTR),some (.str cm),some (.int t),some (.int u),some (.ref L),x7,x8,x9,none]/\H' L=some (.lst (ns.map V.str))/\ns.length=i/\(∀x∈ns,qk x)/\(∀x∈ns,∀c∈x.cps.toList,c∈LTR.cps.toList)/\(∀(k:Nat) x,ns[k]?=some x->x.cps.toList[t.toNat]?=LTR.cps.toList[((u+7*(k:Int)) % 20).toNat]?)/\FeedAt H' f/\SameBut f H H')
  %[_,_,_,[],1,by rw[ah];rfl,1,by simp,by simp,by simp,F5.same (zE0 hL _)|S05.trans (zM0 (zE0 hL _))] ?_ ?_⟩
 . rintro i σ H6 hi ⟨x7,x8,x9,ns,rfl,hns,nl,nok,nlt,nat,F6,S6⟩;erw[0,0,2,f,0,F6,(Int.sub_pos_of_lt t6),(Int.lt_of_le_of_lt (Int.sub_le_self 6 t0) ⋯),λd H7 d0 d1 F7 S7=>?_];erw[2,(by show(0:Int)<_;decide),6];let%[c,hc|hm]:=vk (l:=LTR.cps.toList) (i:=(u+7*(0+(i:Int))) % 20) (qE0 _ ⋯) (by rw[L20];exact qG0 _ ⋯);erw[0,0,0,2,6,2,2,(by show(0:Int)<_;decide),_,_,c,1,1,cx ⋯,hc,6]
   . exact .inl %[4|4]
   let hL7:=S7 L _ Lf hns;let z1:(Txt.slice cm none (some t)).length<=cm.length:=wH1 cm none (some t);let z2:(Txt.slice cm (some t) (some (t+d % 3))).length<=cm.length:=wH1 cm _ _;let z3:((%[|#[c]]:Str)).length=1:=rfl;erw[0,.inl %[1,_|zG0 hL7],6];erw[0,0,0,0,cx (by rw[jl];decide),0,2,cx (by rw[z3];omega),6];erw[0,0,0,0,0,2,0,0,cx (by rw[jl];decide),2,cx (by rw[qA1,z3];omega),6];erw[L,2,hL7,6,6]
   . rw[zF0];exact aN #[0]
   erw[_,_,_,ns++[(Txt.slice cm none (some t)++%[|#[c]])++Txt.slice cm (some t) (some (t+d % 3))],1,6,6,6,6,6,jv F7 Lf,6]
   . rw[ah,zK0];rfl
   . rw[zJ0,qM0,nl]
   . intro x hx;rcases qN0 hx with h | h
     . exact nok x h
     . rw [Pg h];erw[6,λc' hc'=>?_,λea=>?_]
       . rw[qA1,qA1,z3];omega
       rotate_left
       . let cm1:c∈(((Txt.slice cm none (some t)++%[|#[c]])++Txt.slice cm (some t) (some (t+d % 3)):Str)).cps.toList:=by
          rw[jM0,jM0]
          simp
         rw[ea]at cm1;exact KD c hm ((by decide:∀c∈(("aa":Str)).cps.toList,c=97) c cm1)
       . rcases mem_append hc' with h | h
         . rcases mem_append h with h | h
           . exact Ag _ (jc _ (lU h))
           . have:c'=c:=#[h,0]
             subst this;exact Ag _ hm
         . exact Ag _ (jc _ (lU h))
   . intro x hx c' hc';rcases qN0 hx with h | h
     . exact nlt x h c' hc'
     . rw [Pg h]at hc';rcases mem_append hc' with h | h
       . rcases mem_append h with h | h
         . exact jc _ (lU h)
         . have:c'=c:=#[h,0]
           subst this;exact hm
       . exact jc _ (lU h)
   . intro k x hx
     by_cases ck:k<ns.length
     . rw[zU1 ck]at hx;exact nat k x hx
     . let kl:k<(ns++[(Txt.slice cm none (some t)++%[|#[c]])++Txt.slice cm (some t) (some (t+d % 3))]).length:=(Pj hx).1;rw[zJ0,qM0]at kl;let ek:k=i:=#[0]
       subst ek;rw[zK1 #[0],nl,vJ1]at hx;let ex:(Txt.slice cm none (some t)++%[|#[c]])++Txt.slice cm (some t) (some (t+d % 3))=x:=zS0 hx;rw[←ex];let cl:cm.cps.toList.length=5:=jl;let es:Txt.slice cm none (some t)=⟨((cm.cps.toList.drop 0).take (t-0).toNat).toArray⟩:=StrLaws.sliceText_to ⟨t0,#[0]⟩;let el:(Txt.slice cm none (some t)).cps.toList.length=t.toNat:=by
        rw[es];simp only[jV1,Int.sub_zero,qI0];omega
       let ea:((Txt.slice cm none (some t)++%[|#[c]])++Txt.slice cm (some t) (some (t+d % 3))).cps.toList=(Txt.slice cm none (some t)).cps.toList++([c]++(Txt.slice cm (some t) (some (t+d % 3))).cps.toList):=by
        rw[jM0,jM0]
        simp
       rw[ea,zK1 #[0],el,vJ1];let hc2:LTR.cps.toList[((u+7*(0+(k:Int))) % 20).toNat]?=some c:=Ls (qE0 _ ⋯) hc;rw[qZ1]at hc2;rw[hc2];rfl
   . intro b o hb e;rw[aD (aO e L0)];exact S7 b o hb (S6 b o hb e)
 . rintro σ H6 ⟨x7,x8,x9,ns,rfl,hns,nl,nok,nlt,nat,F6,S6⟩;let nnd:ns.Nodup:=Fz u0 u20 #[0] nat;erw[0,2,0,6];let fin:∀H':Hp,∀ns:List Str,H' L=some (.lst (ns.map V.str))->ns.length=m.toNat->(∀x∈ns,qk x)->ns.Nodup->FeedAt H' f->SameBut f H H'->Q (.ref L) H':=λH' ns a b c nd d e=>q L ns H' L0 Lf a b c nd d e
   by_cases c1:(0:Int)<m
   . apply aW c1 ?_;erw[0,f,(3),1,F6,4,4,λd H7 d0 d1 F7 S7=>?_];erw[1,0,6];let hL7:=S7 L _ Lf hns;apply wO (λ_=>?_) (λ_=>?_)
     . erw[y12S,λl1 h1=>?_];erw[0,y6S,λl2 h2=>?_];erw[l1,l2,wordsA.map V.str,wordsB.map V.str,1,1,zE0 h2 _ _ _ ah,ah,y18S,λl3 h3=>?_];erw[0,y6S,λl4 h4=>?_];erw[l3,l4,wordsA.map V.str++wordsB.map V.str,wordsC.map V.str,1,1,zE0 h4 _ _ _ ah,ah,y24S,λl5 h5=>?_];let G:=(zE0 h1 (.lst (wordsA.map V.str))).trans ((zE0 h2 (.lst (wordsB.map V.str))).trans ((zE0 h3 (.lst (wordsA.map V.str++wordsB.map V.str))).trans ((zE0 h4 (.lst (wordsC.map V.str))).trans (zE0 h5 (.lst ((wordsA.map V.str++wordsB.map V.str)++wordsC.map V.str))))));let F8:=F7.same G;let n5:=(F7.same ((zE0 h1 (.lst (wordsA.map V.str))).trans ((zE0 h2 (.lst (wordsB.map V.str))).trans ((zE0 h3 (.lst (wordsA.map V.str++wordsB.map V.str))).trans (zE0 h4 (.lst (wordsC.map V.str))))))).ne h5;erw[0,0,f,(24),1,F8,4,4,λe H9 e0 e1 F9 S9=>?_];let%[v,hv|vm]:=vk (l:=(wordsA.map V.str++wordsB.map V.str)++wordsC.map V.str) (i:=e) e0 (by
        have:((wordsA.map V.str++wordsB.map V.str)++wordsC.map V.str).length=24:=by rfl
        omega)
       rw[←zK0,←zK0]at vm;let%[x,hx|1]:=List.mem_map.mp vm;erw[l5,_,e,0,1,zG0 (S9 l5 _ n5 ah),hv,6];erw[0,0,0,f,m,1,F9,c1,3,λj H10 j0 j1 F10 S10=>?_];let hL10:=S10 L _ Lf (S9 L _ Lf (G L _ hL7));erw[L,_,j,j.toNat,1,1,hL10,6,6]
       . let jl:j<((ns.map V.str).length:Int):=by rw[zF0];omega
         unfold ixN;rw[O9 j0,O9 jl]
       erw[0,6];apply fin _ (ns.set j.toNat x) (by rw[ah,List.map_set]) (by rw[qP1];exact nl) ?_ ?_ (jv F10 Lf) ?_
       . intro y hy;rcases List.mem_or_eq_of_mem_set hy with h | h
         . exact nok y h
         . rw[h];exact DO x hx
       . apply KB nnd λhm=>?_
         let%[c,c1|c2]:=BI x hx;exact c2 (nlt x hm c c1)
       . intro b o hb e';rw[aD (aO e' L0)];exact S10 b o hb (S9 b o hb (G b o (S7 b o hb (S6 b o hb e'))))
     . erw[0,6];exact fin H7 ns hL7 nl nok nnd F7 (S6.trans S7)
   . apply aE c1 ?_;apply cE ?_;erw[0,6];exact fin H6 ns hns nl nok nnd F6 S6
def gC{x:Str}:∀{ns:List Str},x∈ns->∃j,eY x ns=some j/\j<ns.length
 | [],h=>by cases h
 |a::r,h=>by
   unfold eY
   by_cases c:a=x
   . erw[(0),by rw[O9 c],by simp]
   . rw [O8 c];rcases zX0 h with e | e
     . exact absurd e.symm c
     . let%[j,h1|h2]:=gC e;erw[j+1,by rw[h1];rfl,by simpa using h2]
def eV{a b:Str}(h:V.str a=V.str b):a=b:=by injection h
def eU(p:Int)(o:Str)(x y:Int):Int:=if o="and" then x*y % p else if o="or" then(x+y-x*y) % p else if o="odd" then(x+y-2*(x*y)) % p else(1-(x+y-2*(x*y))) % p
def Tr.worth(ns:List Str)(pt:List Int)(p:Int):Tr->Int
 |.is x=>match eY x ns with | some j=>pt.getD j 0 | none=>0
 |.yes=>1
 |.no=>0
 |.not a=>(1-a.worth ns pt p) % p
 |.bin o a b=>eU p o (a.worth ns pt p) (b.worth ns pt p)
def bY(pt:List Int)(p:Int):Prop:=∀x∈pt,0<=x/\x<p
def Dj{p:Int}(hp:0<p)(o:Str)(x y:Int):0<=eU p o x y/\eU p o x y<p:=by
 let key:∀z:Int,0<=z % p/\z % p<p:=λz=>%[qE0 _ #[0]|qG0 _ hp]
 unfold eU
 repeat' split
 all_goals exact key _
def tR{l:List Int}{j:Nat}(h:j<l.length):l.getD j 0=l[j]:=by
 rw[qJ0,zL0 h];rfl
def worth_rng{ns:List Str}{p:Int}(hp:1<p)(h:bY pt p)(hl:pt.length=ns.length):∀t:Tr,t.ok ns->0<=t.worth ns pt p/\t.worth ns pt p<p
 |.is x,ok=>by
   let%[j,hj|jl]:=gC ok;show 0<=(match eY x ns with | some j=>pt.getD j 0 | none=>0)/\(match eY x ns with | some j=>pt.getD j 0 | none=>0)<p;rw[hj];show 0<=pt.getD j 0/\pt.getD j 0<p;rw[tR #[0]];exact h _ (qP0 _)
 |.yes,_=>%[by show(0:Int)<=1;decide|hp]
 |.no,_=>%[qH1 0|by show(0:Int)<p;omega]
 |.not a,_=>%[qE0 _ #[0]|qG0 _ #[0]]
 |.bin o a b,_=>Dj #[0] _ _ _
instance spJW:∀(o:Str)(x y p:Int),vs=[.str o,.int x,.int y,.int p]->0<=x->x<p->p<2 ^ 40->Q (.int (eU p o x y)) H:=1
def ib:FnScope ["word","first","second","p","both","odd"] Wo (aj iB):=%[|5]
def qT(F:#["joined_worth",iB]):#[1,f,fd,Wo,spJW]:=by
 exists ib
 erw[o,x,y,p,1,x0,xp,pb,k]at h;refine⟨_,(ad #[ao,4,ib,au cq (pv 1) (pv 2)]
  (ad (aJ (ai aQ (pv 0) aF (ay _)) (af (am (au ba (pv 4) (pv 3)))) aB)
  (ad (aJ (ai aQ (pv 0) aF (ay _)) (af (am (au ba (au bp (au aV (pv 1) (pv 2)) (pv 4)) (pv 3)))) aB)
  (ad #[ao,5,ib,au bp (au aV (pv 1) (pv 2)) (au cq ag (pv 4))]
  (ad (aJ (ai aQ (pv 0) aF (ay _)) (af (am (au ba (pv 5) (pv 3)))) aB)
  (af (am (au ba (au bp ag (pv 5)) (pv 3))))))))),?_⟩
 erw[0,0,2,.inl %[3|3],6];erw[0,1,0,6]
 by_cases c1:V.str o=V.str "and"
 . apply aW c1 ?_;let e:eU p o x y=x*y % p:=by unfold eU;rw[O9 (eV c1)]
   rw[e]at k;erw[0,0,2,(show(0:Int)<p by omega),k]
 apply aE c1 ?_;let n1:¬ o="and":=λz=>c1 (by rw[z])
 erw[0,1,0,6]
 by_cases c2:V.str o=V.str "or"
 . apply aW c2 ?_;let e:eU p o x y=(x+y-x*y) % p:=by unfold eU;rw[O8 n1,O9 (eV c2)]
   rw[e]at k;erw[0,0,2,0,2,0,2,(show(0:Int)<p by omega),k]
 apply aE c2 ?_;let n2:¬ o="or":=λz=>c2 (by rw[z])
 erw[0,0,2,0,2,.inl %[4|4],2,6];erw[0,1,0,6]
 by_cases c3:V.str o=V.str "odd"
 . apply aW c3 ?_;let e:eU p o x y=(x+y-2*(x*y)) % p:=by unfold eU;rw[O8 n1,O8 n2,O9 (eV c3)]
   rw[e]at k;erw[0,0,2,(show(0:Int)<p by omega),k]
 apply aE c3 ?_;let n3:¬ o="odd":=λz=>c3 (by rw[z])
 let e:eU p o x y=(1-(x+y-2*(x*y))) % p:=by unfold eU;rw[O8 n1,O8 n2,O8 n3]
 rw[e]at k;erw[0,2,0,2,(show(0:Int)<p by omega),k]
instance spWorth(n:Nat):∀(v:V)(t:Tr)(a b:Addr)(ns:List Str)(pt:List Int)(p:Int),vs=[v,.ref a,.ref b,.int p]->TreeAt H v t->t.ok ns->t.depth<=n->NamesAt H a ns->H b=some (.tup (pt.map V.int))->pt.length=ns.length->1<p->p<2 ^ 40->bY pt p->Q (.int (t.worth ns pt p)) H:=1
def l6:FnScope ["tree","switches","point","p","word","first"] WT (aj jJ):=%[|5]
def yR{n:Nat}(F:#["worth_of",jJ])(c9:#[1,"joined_worth",Wo,spJW])(f8:#[n+2,"worth_of",WT,spWorth n]):#[n+3,f,fd,WT,spWorth (n+1)]:=by
 exists l6
 erw[v,t,a,b,ns,pt,p,1,T,ok,dn,hN,hb,sl,p1,p40,po,k]at h;let p0:(0:Int)<p:=#[0]
 refine⟨_,(ad #[ao,4,l6,aM ix_tup (pv 0) ag #[1]]
  (ad (aJ (ai aQ (pv 4) aF (ay _)) (af (am (au ba (aM ix_tup (pv 2) (sQ zF1 jZ0 (pv 1) %[aM ix_tup (pv 0) ag #[1]|ae]) #[1]) (pv 3)))) aB)
  (ad (aJ (ai aQ (pv 4) aF (ay _)) (af (am ag)) aB)
  (ad (aJ (ai aQ (pv 4) aF (ay _)) (af (am ag)) aB)
  (ad #[ao,5,l6,ax f8 hr (zH0 _) rfl %[aM ix_tup (pv 0) ag #[1],1,2,3|ae]]
  (ad (aJ (ai aQ (pv 4) aF (ay _)) (af (am (au ba (au bp ag (pv 5)) (pv 3)))) aB)
  (af (am (ax c9 hr #[0] rfl %[4,5,ax f8 hr (zH0 _) rfl %[aM ix_tup (pv 0) ag #[1],1,2,3|ae],3|ae]))))))))),?_⟩
 cases T with
 | @is q x e=>
   erw[0,q,_,(0),0,1,zC0 e,1,6];erw[0,1,0,6];apply aW rfl ?_;let%[j,hj|jl]:=gC ok;let jl':j<pt.length:=#[0]
   erw[0,0,a,ns,1,hN,0,q,_,(1),0,1,zC0 e,1,1,x,j,1,hj,b,_,(j:Int),.int pt[j],1,1,zC0 hb,6,0,2,p0,6]
   . apply cu ?_;rw[zY0,zL0 jl'];rfl
   . let e1:(Tr.is x).worth ns pt p=pt[j] % p:=by
      show(match eY x ns with | some j=>pt.getD j 0 | none=>0)=_;rw[hj];show pt.getD j 0=_;rw[tR jl']
      have:=po _ (qP0 jl')
      rw[qL0 this.1 this.2]
     rw[e1]at k;exact k
 | @yes q e=>
   erw[0,q,_,(0),0,1,zC0 e,1,6];erw[0,1,0,6];apply aE ⋯ ?_;erw[0,1,0,6];exact aW rfl k
 | @no q e=>
   erw[0,q,_,(0),0,1,zC0 e,1,6];erw[0,1,0,6];apply aE ⋯ ?_;erw[0,1,0,6];apply aE ⋯ ?_;erw[0,1,0,6];exact aW rfl k
 | @not q u r e T1=>
   let dp:r.depth+1<=n+1:=dn;erw[0,q,_,(0),0,1,zC0 e,1,6];erw[0,1,0,6];apply aE ⋯ ?_;erw[0,1,0,6];apply aE ⋯ ?_;erw[0,1,0,6];apply aE ⋯ ?_;erw[0,q,_,(1),0,1,zC0 e,1,0,0,0,u,r,a,b,ns,pt,p,1,T1,ok,3,hN,hb,sl,p1,p40,po,6];erw[0,1,0,6];apply aW rfl ?_;erw[0,2,0,2,p0,k]
 | @bin q o u u2 r r2 e T1 T2=>
   erw[ho,ok1,ok2]at ok;let dp:max r.depth r2.depth+1<=n+1:=dn;let ne:∀z:Str,z∉joinW->¬ V.str o=V.str z:=λz hz h=>hz (eV h▸ho)
   erw[0,q,_,(0),0,1,zC0 e,1,6];erw[0,1,0,6];apply aE (ne _ ⋯) ?_;erw[0,1,0,6];apply aE (ne _ ⋯) ?_;erw[0,1,0,6];apply aE (ne _ ⋯) ?_;erw[0,q,_,(1),0,1,zC0 e,1,0,0,0,u,r,a,b,ns,pt,p,1,T1,ok1,3,hN,hb,sl,p1,p40,po,6];erw[0,1,0,6];apply aE (ne _ ⋯) ?_;let wr:=worth_rng p1 po sl r ok1;erw[0,0,0,q,_,(2),0,1,zC0 e,1,0,0,0,u2,r2,a,b,ns,pt,p,1,T2,ok2,3,hN,hb,sl,p1,p40,po,6];erw[0,o,_,_,p,1,wr.1,wr.2,p40,k]
def yQ:#[2,f,fd,WT,spWorth 0]:=by
 let no:∀vs H Q E,¬ spWorth 0 vs H Q E:=λvs H Q E h=>by
  erw[v,t,_,_,_,_,_,_,_,_,h1,_]at h
  have:=t.depth_pos
  omega
 exists 3
def qy(F:#["worth_of",jJ])(m:mg "worth_of"=some (.ref f))(c9:#[1,"joined_worth",Wo,spJW]):
 ∀n:Nat,#[n+2,f,fd,WT,spWorth n]
 |0=>yQ
 |n+1=>yR F c9 (Cal.of F (qy F m c9 n) m (λ_ _ _ _ _ _ us hl=>by let%[u0,u1,u2,u3|1]:=KF hl;rfl))
def dB{H:Hp}{b:Addr}{ys zs:List V}(h:H b=some (.lst ys)):∀a xs,H a=some (.tup xs)->(upd H b (.lst zs)) a=some (.tup xs):=λa xs e=>by
 rw[aD]
 . exact e
 . intro z;rw[z,h]at e;cases e
def at0(x:V)(xs:List V):atI (x::xs) 0=some x:=cu (j:=0) rfl
def qC{ts:List Tr}{i:Nat}{u:Tr}(h:ts[i]?=some u):iH (ts.take (i+1))=iH (ts.take i)++u.names:=by
 unfold iH;rw[qC0,h,zK0,List.flatten_append]
 simp
def tu(ts:List Tr):(iH ts).length<=jk ts:=by
 induction ts with
 |nil=>simp [iH,jk]
 |cons a r ih=>
   have:=a.names_len
   simp only[iH,jk,zZ0,jA0,zJ0,zV1]at ih ⊢;omega
def rS(ts:List Tr)(i:Nat):jk (ts.take i)<=jk ts:=by
 induction ts generalizing i with
 |nil=>simp
 |cons a r ih=>
   cases i with
   |zero=>simp [jk]
   |succ i=>
     have:=ih i
     simp only[jk,List.take_succ_cons,zZ0,zV1]at this ⊢;omega
instance spNO(n:Nat):∀(v:V)(t:Tr),vs=[v]->TreeAt H v t->t.wf->t.depth<=n->t.size<=400->(∀(l:Addr)(H':Hp),H l=none->Same H H'->H' l=some (.lst (t.names.map V.str))->Q (.ref l) H'):=1
def gI:FnScope ["_law_tree_here","_law_found","_law_part"] WU (aj ic):=%[|5]
def IG{n:Nat}(F:#["_law_names_of",ic])(f7:#[n+2,"_law_names_of",WU,spNO n]):#[n+3,f,fd,WU,spNO (n+1)]:=by
 exists gI
 erw[v,t,1,T,wf,dn,sz,q]at h;refine⟨_,(ad (aJ (ai aQ (aM ix_tup (pv 0) ag #[1]) aF (ay _)) (af (am (bZ %[aM ix_tup (pv 0) ag #[1]|ae]))) aB)
  (ad #[ao,1,gI,bZ ae]
  (ad (cI zE1 rfl (fh (eJ pB (pv 0) (eP ag) ig)) (aX (i:=2) gI.nd rfl (.inl rfl)) (af #[ao,1,gI,au pV (pv 1) (ax f7 hr (zH0 _) rfl %[2|ae])]))
  (af (am (pv 1)))))),?_⟩
 rcases T.view wf with⟨a,x,rfl,rfl,_,e⟩ | ⟨a,o,xs,rfl,no,xl0,e,TS0,nis⟩
 . erw[0,a,_,(0),0,1,zC0 e,1,1,0,6];apply aW rfl ?_;erw[0,a,_,(1),0,1,zC0 e,1,y1S,λp hp=>?_];exact q p _ hp (zE0 hp _) ah
 . erw[0,a,_,(0),.str o,1,1,zC0 e,at0 ..,1,0,6];apply aE (λz=>no (by injection z)) ?_;erw[y0S,λL hL=>?_];let G0:=zE0 hL (.lst []);let%[c1|c2]:=Jb (.str o) xs xl0;erw[0,(1),1,a,0,zC0 (G0 _ _ e),c2,λp hp=>?_];rw[c1];let G1:=zE0 hp (.tup xs);let hp1:upd (upd H L (.lst [])) p (.tup xs) p=some (.tup xs):=ah;let hL1:upd (upd H L (.lst [])) p (.tup xs) L=some (.lst []):=G1 _ _ ah;let S1:Same H (upd (upd H L (.lst [])) p (.tup xs)):=G0.trans G1;generalize upd (upd H L (.lst [])) p (.tup xs)=H1 at hp1 hL1 S1;let TS:=TS0.mono (aY S1);let xl:=TS.length;let sp:=t.size_parts;erw[p,1,%[_|zC0 hp1],wU (K:=K) (xs:=xs) (λi σ H'=>∃(M:Addr)(x2:Option V),σ=[some (.ref a),some (.ref M),x2]/\H M=none/\H' M=some (.lst ((iH (t.parts.take i)).map V.str))/\Same H1 H') %[L,0,hL,hL1|Same.refl _] (λi σ H' _ Pd=>by erw[_,_,_,_,_,h]at Pd;exact zC0 (h _ _ hp1)) ?_ ?_]
   . rintro i x σ H2 hx ⟨M,x2,rfl,M0,hM,S2⟩;let%[u,hu|Tu]:=TS.get hx;let um:=qF0 hu;let%[uw,ud|us]:=Tr.parts_mem um wf;erw[0,0,x,u,1,Tu.mono (aY S2),uw,3,3,λl H3 l0 S3 hl3=>?_];let nl:=u.names_len;let nl2:=tu (t.parts.take i);let nl3:=rS t.parts i;erw[M,l,2,S3 _ _ hM,hl3,6,λr hr0=>?_]
     . rw[zF0,zF0];exact cx #[0]
     . let S4:=(S2.trans S3).trans (zE0 hr0 (.lst ((iH (t.parts.take i)).map V.str++u.names.map V.str)));erw[r,0,(S1.trans (S2.trans S3)).free hr0,6,S4];rw[ah,qC hu,zK0]
   . rintro σ H2 ⟨M,x2,rfl,M0,hM,S2⟩;rw[xl,qB0,←t.names_parts nis]at hM;erw[0,q M H2 M0 (S1.trans S2) hM]
def IF:#[2,f,fd,WU,spNO 0]:=by
 let no:∀vs H Q E,¬ spNO 0 vs H Q E:=λvs H Q E h=>by
  erw[v,t,_,_,_,h1,_]at h
  have:=t.depth_pos
  omega
 exists 3
def mx(F:#["_law_names_of",ic])(m:mg "_law_names_of"=some (.ref f)):
 ∀n:Nat,#[n+2,f,fd,WU,spNO n]
 |0=>IF
 |n+1=>IG F (Cal.of F (mx F m n) m (λ_ _ _ _ _ _ us hl=>by let%[u0|1]:=FV hl;rfl))
def tV(ns:List Str)(z:Str):((ns.map V.str).countP λy=>eqV y (.str z))=ns.count z:=by
 rw[List.countP_map];rfl
instance spNeed:∀(a b:Addr)(ns:List Str)(tv:List V)(ts:List Tr),vs=[.ref a,.ref b]->H a=some (.lst (ns.map V.str))->H b=some (.lst tv)->TreesAt H tv ts->ts.length<=10->(∀t∈ts,t.wf/\t.depth<=10/\t.size<=400)->(∀(m:Int)(H':Hp),Same H H'->2<=m->m<=400->(ns=[]->ts.length<=4->m<=3)->(ts.length:Int)<=m+1->(∀t∈ts,∀x∈ns,(t.names.count x:Int)<=m)->Q (.int m) H'):=1
def gY:FnScope ["_law_names_here","_law_trees","_law_need_here","_law_tree_here","_law_found","_law_name"] WV (aj so):=%[|5]
def Cw(F:#["_law_need",so])(hlen:mg "len"=none)(hmax:mg "max"=none)(f7:#[12,"_law_names_of",WU,spNO 10]):#[13,f,fd,WV,spNeed]:=by
 exists gY
 erw[a,b,ns,tv,ts,1,ha,hb,TS,tl,tok,q]at h;refine⟨_,(ad #[ao,2,gY,aG (qh rfl) rfl hmax jE1 %[ag,au bp (aG aI rfl hlen zD1 %[1|ae]) ag|ae]]
  (ad (cI zE1 rfl (dJ (pv 1)) (aX (i:=3) gY.nd rfl (.inl rfl)) (ad #[ao,4,gY,ax f7 hr ⋯ rfl %[3|ae]]
   (af (cI zE1 rfl (dJ (pv 0)) (aX (i:=5) gY.nd rfl (.inl rfl)) (af #[ao,2,gY,aG (qh rfl) rfl hmax jE1 %[2,dZ zF1 PySem.F.slot_list_count PySem.F.type_list_count yc (pv 4) %[5|ae]|ae]])))))
  (af (am (pv 2))))),?_⟩
 let vl:=TS.length;erw[0,b,0,.inl (zG0 hb),2,_,0,6];obtain⟨m,em,m2,m4,mt,m3⟩:∃m:Int,(if((tv.length:Int)-1)>2 then((tv.length:Int)-1)else 2)=m/\2<=m/\m<=400/\(ts.length:Int)<=m+1/\(ts.length<=4->m<=3):=⟨_,rfl,by split <;> omega,by split <;> omega,by split <;> omega,λ_=>by split <;> omega⟩
 rw [em];refine⟨_,rfl,b,rfl,%[_|zG0 hb],iJ (K:=K) (xs:=tv) (λi σ H'=>∃(m:Int)(x3 x4 x5:Option V),σ=[some (.ref a),some (.ref b),some (.int m),x3,x4,x5]/\2<=m/\m<=400/\(ts.length:Int)<=m+1/\(∀t∈ts.take i,∀x∈ns,(t.names.count x:Int)<=m)/\Same H H'/\(ns=[]->ts.length<=4->m<=3))
  %[m,_,_,0,m2,m4,mt,by simp,Same.refl _|λ_=>m3] (λi σ H' _ Pd=>by erw[_,_,_,_,_,_,_,_,_,h,_]at Pd;exact zG0 (h _ _ hb)) ?_ ?_⟩
 . rintro i v σ H1 hv ⟨m,x3,x4,x5,rfl,m2,m4,mt,mc,S1,me⟩;let%[t,ht|T]:=TS.get hv;let tm:=qF0 ht;let%[tw,td|tz]:=tok t tm;erw[0,v,t,1,T.mono (aY S1),tw,3,tz,λl H2 l0 S2 hl=>?_];let S12:=S1.trans S2;let tn:=t.names_len;refine⟨_,rfl,a,rfl,%[_|zG0 (S12 _ _ ha)],iJ (K:=K) (xs:=ns.map V.str) (λj σ H'=>∃(m':Int)(x5:Option V),σ=[some (.ref a),some (.ref b),some (.int m'),some v,some (.ref l),x5]/\m<=m'/\m'<=400/\(∀x∈ns.take j,(t.names.count x:Int)<=m')/\(ns=[]->m'<=m)/\H'=H2)
    %[m,0,qH1 _,m4,by simp,λ_=>qH1 _|1] (λj σ H' _ Pd=>by erw[_,_,_,_,_,_,_,h]at Pd;subst h;exact zG0 (S12 _ _ ha)) ?_ ?_⟩
   . rintro j y σ H3 hy ⟨m',y5,rfl,mm,m4',mc',me',rfl⟩;rw[zY0]at hy;let%[x,hx|1]:=qT0 hy;erw[0,0,.inl %[1,_|zG0 hl],0,l,2,zG0 hl,ip _,1,_,0,6];rw[tV];let cl:=jV0 (a:=x) (l:=t.names);erw[_,0,by split <;> omega,by split <;> omega,λz hz=>?_,λe=>(by subst e;cases hx),1];rw[qC0,hx]at hz;rcases qN0 hz with h | h
     . have:=mc' z h
       split <;> omega
     . let e:z=x:=#[h,0]
       subst e
       split <;> omega
   . rintro σ H3 ⟨m',y5,rfl,mm,m4',mc',me',rfl⟩;rw[zF0,qB0]at mc';erw[m',_,_,0,3,m4',3,λu hu x hx=>?_,S12,λe f=>(by have:=me' e;have:=me e f;omega)];rw[qC0,ht]at hu;rcases qN0 hu with h | h
     . have:=mc u h x hx
       omega
     . let e:u=t:=#[h,0]
       subst e;exact mc' x hx
 . rintro σ H1 ⟨m,x3,x4,x5,rfl,m2,m4,mt,mc,S1,me⟩;rw[vl,qB0]at mc;erw[0,q m H1 S1 m2 m4 me mt mc]
instance spPrimeB:∀n:Int,vs=[.int n]->(∀b:Bool,(b=true↔Pr n)->Q (.bl b) H):=1
def qt:FnScope ["_law_number","_law_k"] ["_law_number"] (aj jP):=%[|5]
def ux(F:#["_law_is_prime",jP])(hrange:mg "range"=none):#[1,f,fd,["_law_number"],spPrimeB]:=by
 exists qt
 erw[n,1,q]at h;refine⟨_,(ad (aJ (ai gq (pv 0) ag (ay _)) (af (am gn)) aB)
  (ad (cI zE1 rfl (Cr rfl hrange %[ag,ag|ae]) (aX (i:=1) qt.nd rfl (.inl rfl)) (ad (aJ (ai iS (au cq (pv 1) (pv 1)) (pv 0) (ay _)) (af (am gn)) aB)
   (af (aJ (ai aQ (au ba (pv 0) (pv 1)) ag (ay _)) (af (am gn)) aB))))
  (af (am gn)))),?_⟩
 erw[0,2,0,6];apply wO (λc=>?_) (λc=>?_)
 . let c':=zY1 c;exact q false %[λz=>(nomatch z)|λz=>by have:=z.1;omega]
 let c':¬ n<2:=wZ0 (Bool.eq_false_iff.mpr c);erw[(2),(1001),1,%[4,4,4|4],dQ (λi σ H'=>∃x,σ=[some (.int n),x]/\H'=H/\qi n (2+(i:Int))) %[0,1|by simpa using yS n] ?_ ?_]
 . rintro i σ H' hi ⟨x,rfl,rfl,u⟩;let hi':i<999:=hi;erw[0,0,2,.inl %[3|3],0,2,0,6];apply wO (λc1=>?_) (λc1=>?_)
   . let c2:=zY1 c1;exact q true %[λ_=>Km #[0] #[0] u c2|λ_=>rfl]
   . let c2:=wZ0 (Bool.eq_false_iff.mpr c1);erw[0,0,2,(show(0:Int)<2+(i:Int) by omega),1,0,6];apply wO (λc3=>?_) (λc3=>?_)
     . let c4:=V.int.inj (zY1 c3);exact q false %[λz=>(nomatch z)|λz=>(Kk #[0] #[0] #[0] c4 z).elim]
     . let c4:=wZ0 (Bool.eq_false_iff.mpr c3);erw[0,1,6];let e:(2:Int)+((i+1:Nat):Int)=2+(i:Int)+1:=#[0]
       rw[e];exact BK u #[0] (λz=>c4 (congrArg V.int z))
 . rintro σ H' ⟨x,rfl,rfl,u⟩;exact q true %[λ_=>Kn #[0] u|λ_=>rfl]
instance spWithin:∀(v:V)(t:Tr),vs=[v]->TreeAt H v t->t.wf->(∀(p:Addr)(xs:List V)(H':Hp),Same H H'->H' p=some (.tup xs)->TreesAt H' xs t.parts->Q (.ref p) H'):=1
def qM:FnScope WB WB (aj iy):=%[|5]
def qQ(F:#["trees_within",iy]):#[1,f,fd,WB,spWithin]:=by
 exists qM
 erw[v,t,1,T,wf,q]at h;refine⟨_,(ad (aJ (ai aQ (aM ix_tup (pv 0) ag #[1]) aF (ay _)) (af (am (aS ae))) aB)
  (af (am (eJ pB (pv 0) (eP ag) ig)))),?_⟩
 rcases T.view wf with⟨a,x,rfl,rfl,_,e⟩ | ⟨a,o,xs,rfl,no,xl,e,TS,_⟩
 . erw[0,a,_,(0),0,1,zC0 e,1,1,0,6];apply aW rfl ?_;erw[y0S,λp hp=>?_];exact q p [] _ (zE0 hp _) ah .nil
 . erw[0,a,_,(0),.str o,1,1,zC0 e,at0 ..,1,0,6];apply aE (λz=>no (by injection z)) ?_;let%[c1|c2]:=Jb (.str o) xs xl;erw[0,(1),1,a,0,zC0 e,c2,λp hp=>?_];rw[c1];exact q p xs _ (zE0 hp _) ah (TS.mono (aY (zE0 hp _)))
instance spNamesIn(n:Nat):∀(v:V)(t:Tr),vs=[v]->TreeAt H v t->t.wf->t.depth<=n->t.size<=400->(∀(l:Addr)(H':Hp),H l=none->Same H H'->H' l=some (.lst (t.names.map V.str))->Q (.ref l) H'):=1
def l7:FnScope ["tree","names","part"] WB (aj jL):=%[|5]
def zW{n:Nat}(F:#["names_in",jL])(a7:#[1,"trees_within",WB,spWithin])(eE:#[n+2,"names_in",WB,spNamesIn n]):#[n+3,f,fd,WB,spNamesIn (n+1)]:=by
 exists l7
 erw[v,t,1,T,wf,dn,sz,q]at h;refine⟨_,(ad (aJ (ai aQ (aM ix_tup (pv 0) ag #[1]) aF (ay _)) (af (am (bZ %[aM ix_tup (pv 0) ag #[1]|ae]))) aB)
  (ad #[ao,1,l7,bZ ae]
  (ad (cI zE1 rfl (fh (ax a7 hr #[0] rfl %[0|ae])) (aX (i:=2) l7.nd rfl (.inl rfl)) (af (bb (dZ zF1 PySem.F.slot_list_extend PySem.F.type_list_extend CP (pv 1) %[ax eE hr (zH0 _) rfl %[2|ae]|ae]))))
  (af (am (pv 1)))))),?_⟩
 let wf':=wf;rcases T.view wf with⟨a,x,rfl,rfl,_,e⟩ | ⟨a,o,xs0,rfl,no,xl0,e,_,nis⟩
 . erw[0,a,_,(0),0,1,zC0 e,1,1,0,6];apply aW rfl ?_;erw[0,a,_,(1),0,1,zC0 e,1,y1S,λp hp=>?_];exact q p _ hp (zE0 hp _) ah
 . erw[0,a,_,(0),.str o,1,1,zC0 e,at0 ..,1,0,6];apply aE (λz=>no (by injection z)) ?_;erw[y0S,λL hL=>?_];let G0:=zE0 hL (.lst []);erw[0,_,t,1,T.mono (aY G0),wf,λp xs H1 S1 hp TS=>?_];let hL1:H1 L=some (.lst []):=S1 _ _ ah;let pL:p≠L:=λz=>by rw[z,hL1]at hp;cases hp
   let xl:=TS.length;let sp:=t.size_parts;erw[p,1,%[_|zC0 hp],wU (K:=K) (xs:=xs) (λi σ H'=>∃x2,σ=[some (.ref a),some (.ref L),x2]/\H' L=some (.lst ((iH (t.parts.take i)).map V.str))/\SameBut L H1 H') %[0,hL1|SameBut.refl _ _] (λi σ H' _ Pd=>by erw[_,_,_,h]at Pd;exact zC0 (h _ _ pL hp)) ?_ ?_]
   . rintro i x σ H2 hx ⟨x2,rfl,hl,S2⟩;let%[u,hu|Tu]:=TS.get hx;let um:=qF0 hu;let%[uw,ud|us]:=Tr.parts_mem um wf;let Tu2:TreeAt H2 x u:=Tu.mono λb ys h=>S2 b _ (λz=>by rw[z,hL1]at h;cases h) h
     erw[0,.inl %[1,_|zG0 hl],0,x,u,1,Tu2,uw,3,3,λl H3 l0 S3 hl3=>?_];let nl:=u.names_len;let nl2:=tu (t.parts.take i);let nl3:=rS t.parts i;erw[L,l,2,S3 _ _ hl,hl3,6,6]
     . rw[zF0,zF0];exact cx #[0]
     erw[0,6,λb o hb h=>?_]
     . rw[ah,qC hu,zK0]
     . rw[aD hb];exact S3 _ _ (S2 _ _ hb h)
   . rintro σ H2 ⟨x2,rfl,hl,S2⟩;rw[xl,qB0,←t.names_parts nis]at hl;erw[0,6];apply q L H2 hL (λb o h=>?_) hl;exact S2 b o (aO h hL) (S1 _ _ (G0 _ _ h))
def zV:#[2,f,fd,WB,spNamesIn 0]:=by
 let no:∀vs H Q E,¬ spNamesIn 0 vs H Q E:=λvs H Q E h=>by
  erw[v,t,_,_,_,h1,_]at h
  have:=t.depth_pos
  omega
 exists 3
def qA(F:#["names_in",jL])(m:mg "names_in"=some (.ref f))(a7:#[1,"trees_within",WB,spWithin]):
 ∀n:Nat,#[n+2,f,fd,WB,spNamesIn n]
 |0=>zV
 |n+1=>zW F a7 (Cal.of F (qA F m a7 n) m (λ_ _ _ _ _ _ us hl=>by let%[u0|1]:=FV hl;rfl))
instance spField:∀n:Int,vs=[.int n]->n<=999999->(∀b:Bool,(b=true↔2<n/\Pr n)->Q (.bl b) H):=1
def l8:FnScope ["number","divisor"] ["number"] (aj nn):=%[|5]
def xU(F:#["is_field",nn]):#[1,f,fd,["number"],spField]:=by
 exists l8
 erw[n,1,n9,q]at h;refine⟨_,(ad (aJ (PW.pt (iD (ai gq (pv 0) ag (ay _)) (hV (ai aQ (au ba (pv 0) ag) ag (ay _))))) (af (am gn)) aB)
  (ad #[ao,1,l8,ag]
  (ad (iF zE1 (ai uR (au cq (pv 1) (pv 1)) (pv 0) (ay _)) (ad (aJ (ai aQ (au ba (pv 0) (pv 1)) ag (ay _)) (af (am gn)) aB)
   (af #[ao,1,l8,au aV (pv 1) ag])))
  (af (am gn))))),?_⟩
 erw[0,2,0,6]
 by_cases c:n<3
 . apply aW c ?_;apply du ?_;exact q false %[λz=>(nomatch z)|λz=>#[0]]
 apply aE c ?_;erw[0,2,(by show(0:Int)<_;decide),1,0,6]
 by_cases c2:n % 2=0
 . apply aW (congrArg V.int c2) ?_;exact q false %[λz=>(nomatch z)|λz=>absurd z.2 (Dv c2 #[0])]
 apply aE (λz=>c2 (V.int.inj z)) ?_;erw[λm σ H'=>∃d:Int,σ=[some (.int n),some (.int d)]/\H'=H/\3<=d/\d<=1001/\d % 2=1/\yO n d/\m=(n+3-d).toNat,%[_,(3),1,1,3,3,3,CL n|1],6];rintro m σ H' ⟨d,rfl,rfl,d3,d9,d2,u,rfl⟩;erw[0,0,2,.inl %[3|3],0,2,0,6]
 by_cases c3:d*d<=n
 . apply aW c3 ?_;let r1:=zk n9 d3 c3;let r2:=Ii d3 c3;erw[_,λ_ _ h=>h,6];erw[0,0,2,(show 0<d by omega),1,0,6]
   by_cases c4:n % d=0
   . apply aW (congrArg V.int c4) ?_;exact q false %[λz=>(nomatch z)|λz=>absurd z.2 (Du n9 d3 c3 c4)]
   apply aE (λz=>c4 (V.int.inj z)) ?_;erw[0,2,6];erw[_,3,d+2,1,1,3,3,3,Ft u d2 c4,1]
 . apply aE c3 ?_;exact q true %[λ_=>%[3|Dt #[0] c2 d3 u #[0]]|λ_=>rfl]
abbrev vO:Stmt:=bn vP 0
abbrev zA:Stmt:=bn vP 1
abbrev sw:Stmt:=bn vP 2
abbrev sx:Stmt:=bn vP 3
def gf(a b:Addr)(p:Int)(d:Addr):List (Str×V):=bJ "degrees" (.ref d) (bJ "field" (.int p) (bJ "trees" (.ref b) (bJ "switches" (.ref a) [])))
def oW(a b:Addr)(p:Int)(d:Addr):(gf a b p d).lookup ("switches":Str)=some (.ref a):=by
 unfold gf;rw[aq,O8 ⋯,aq,O8 ⋯,aq,O8 ⋯,aq,O9 rfl]
def my(a b:Addr)(p:Int)(d:Addr):(gf a b p d).lookup ("trees":Str)=some (.ref b):=by
 unfold gf;rw[aq,O8 ⋯,aq,O8 ⋯,aq,O9 rfl]
def eZ(a b:Addr)(p:Int)(d:Addr):(gf a b p d).lookup ("field":Str)=some (.int p):=by
 unfold gf;rw[aq,O8 ⋯,aq,O9 rfl]
def Bi(a b:Addr)(p:Int)(d:Addr):(gf a b p d).lookup ("degrees":Str)=some (.ref d):=by
 unfold gf;rw[aq,O9 rfl]
def qH(a b:Addr)(p:Int)(d:Addr){m:Str}(h1:¬ m="degrees")(h2:¬ m="field")(h3:¬ m="trees")(h4:¬ m="switches"):(gf a b p d).lookup m=none:=by
 unfold gf;rw[aq,O8 h1,aq,O8 h2,aq,O8 h3,aq,O8 h4]
 all_goals rfl
structure GTxt(K:W.Frag)(mg:#[9])(C:Addr):Prop where
 cl:Cls K C
 nS:NoAttr K C "switches"
 nT:NoAttr K C "trees"
 nF:NoAttr K C "field"
 nD:NoAttr K C "degrees"
 mgC:mg "Game"=some (.ref C)
def yJ(g:Nat->Int):∀n,∃k,k<=n/\eR g n=g k
 |0=>%[(0),zH0 _|1]
 |n+1=>by
   let%[k,hk|e]:=yJ g n;unfold eR
   split
   . erw[n+1,zH0 _,1]
   . erw[k,3,e]
def lr{ns:List Int}(h:ns≠[]):CU ns 0∈ns:=by
 cases ns with
 |nil=>exact absurd rfl h
 |cons a r=>
   let%[k,hk|e]:=yJ (λi=>(a::r)[i]?.getD 0) ((a::r).length-1);let e1:CU (a::r) 0=eR (λi=>(a::r)[i]?.getD 0) ((a::r).length-1):=rfl;let hl:k<(a::r).length:=by
    rw[zR0]at hk ⊢;omega
   rw[e1,e];show(a::r)[k]?.getD 0∈a::r;rw[zL0 hl];exact qP0 hl
def bm(ts:List Tr)(x:Str):Int:=CU (ts.map λt=>(t.names.count x:Int)) 0
def oZ{ts:List Tr}{x:Str}{p:Int}(h0:ts≠[])(h:∀t∈ts,(t.names.count x:Int)<p):bm ts x<p:=by
 have:=lr (ns:=ts.map λt=>(t.names.count x:Int)) #[h0,0]
 let%[t,ht|e]:=List.mem_map.mp this;unfold bm;rw[←e];exact h t ht
instance spDeg:∀(x:Str)(b:Addr)(tv:List V)(ts:List Tr),vs=[.str x,.ref b]->H b=some (.tup tv)->TreesAt H tv ts->ts≠[]->ts.length<=10->(∀t∈ts,t.wf/\t.depth<=10/\t.size<=400)->(∀H',Same H H'->Q (.int (bm ts x)) H'):=1
def vB:FnScope Wp Wp (aj kU):=%[|5]
def wy(F:#["degree_of",kU])(hmax:mg "max"=none)(eE:#[12,"names_in",WB,spNamesIn 10]):#[13,f,fd,Wp,spDeg]:=by
 exists vB
 erw[x,b,tv,ts,1,hb,TS,t0,tl,tok,q]at h;refine⟨_,(af (am (aG (ve rfl) rfl hmax jE1 (aa (cf (N:=["name"]) (ix:=[0]) rfl
  #[3] rfl
  (fh (pv 1)) (λ_ _ _=>cg (Kr K zF1 PySem.F.slot_list_count PySem.F.type_list_count (CQ K) (ax eE hr ⋯ rfl %[0|ae]) %[1|ae]))) ae)))),?_⟩
 let vl:=TS.length;erw[0,b,1,%[_|zC0 hb],λD hD=>?_];apply eN (K:=K) (xs:=tv) (λi H'=>H' D=some (.lst (((ts.take i).map λt=>(t.names.count x:Int)).map V.int))/\Same H H') %[by rw[ah];rfl|zE0 hD _] (λi H' _ h=>zC0 (h.2 _ _ hb)) ?_ ?_
 . rintro i z H2 hz ⟨hl,S2⟩;let%[t,ht|T]:=TS.get hz;let%[tw,td|tz]:=tok t (qF0 ht);let hi:i<tv.length:=(Pj hz).1;erw[0,z,t,1,T.mono (aY S2),tw,3,tz,λl H3 l0 S3 hl3=>?_];erw[.inl %[1,_|zG0 hl3],0,l,2,zG0 hl3,ip _,1,6];rw[tV];erw[_,S3 _ _ hl,6,Nx.of hi %[6|λb' o' e'=>?_]]
   . rw[zF0,zF0,qI0];exact aN #[0]
   . rw[ah,qC0,ht,zK0,zK0];rfl
   . rw[aD (aO e' hD)];exact S3 _ _ (S2 _ _ e')
 . rintro H2 ⟨hl,S2⟩;rw[vl,qB0]at hl;erw[D,0,zG0 hl,by simpa using t0,q H2 S2]
instance spLookS:∀(a:Addr)(ns:List Str),vs=[.ref a]->H a=some (.tup (ns.map V.str))->ns.Nodup->ns.length<=10->(∀H',Same H H'->Q .non H'):=1
def gK(x:Str)(ns:List Str):inV (.str x) (ns.map V.str)=decide (x∈ns):=by
 unfold inV
 induction ns with
 |nil=>rfl
 |cons a r ih=>
   rw [zZ0,jJ0,ih];let e:eqV (.str a) (.str x)=decide (x=a):=by
    show(a==x)=_
    by_cases c:x=a
    . subst c;simp
    . rw[zB1 c];simpa using λh=>c h.symm
   rw[e]
   by_cases c1:x=a <;> by_cases c2:x∈r <;> simp [c1,c2]
def gU:FnScope ["switches","place","name"] ["switches"] (aj hR):=%[|5]
def pX(F:#["look_switches",hR])(henum:mg "enumerate"=none):#[1,f,fd,["switches"],spLookS]:=by
 exists gU
 erw[a,ns,1,ha,nd,nl,q]at h;refine⟨_,(af (cI zE1 rfl (xI rfl henum (pv 0)) (pU rfl (dA (aX (i:=1) gU.nd rfl (.inl rfl)) (dA (aX (i:=2) gU.nd rfl (.inl rfl)) lQ)))
  (af (aJ (ai dP (pv 2) (eJ pB (pv 0) ig (eP (pv 1))) (by rfl')) bq aB)))),?_⟩
 erw[0,a,1,%[_|zC0 ha],uY (K:=K) (xs:=ns.map V.str) (λi σ H'=>∃x1 x2:Option V,σ=[some (.ref a),x1,x2]/\Same H H') %[_,0|Same.refl _] (λi σ H' _ Pd=>by erw[_,_,_,h]at Pd;exact zC0 (h _ _ ha)) ?_ ?_]
 . rintro i z σ H1 t hz ⟨x1,x2,rfl,S1⟩ ht;let hi:i<(ns.map V.str).length:=(Pj hz).1;rw[zY0]at hz;let%[x,hx|1]:=qT0 hz;let G:=zE0 ht (.tup [.int (i:Int),.str x]);let S2:=S1.trans G;let hi':i<ns.length:=by rw[zF0]at hi;exact hi
   erw[t,0,zC0 ah,1,_,0,2,6];erw[0,0,0,(i:Int),1,a,0,zC0 (S2 _ _ ha),6,λc hc=>?_]
   . rintro⟨_,h⟩;rw[HT.sIx_nat]at h;omega
   . erw[c,0,.inr (zC0 ah),1,6,0,6]
     . let ec:jg (ns.map V.str) none (some (i:Int))=(ns.take i).map V.str:=by
        unfold jg;rw[HT.sIx_none,HT.sIx_nat,jV1,wX0,List.map_take]
        congr 1
        omega
       rw[ec];exact ip _
     . let ec:jg (ns.map V.str) none (some (i:Int))=(ns.take i).map V.str:=by
        unfold jg;rw[HT.sIx_none,HT.sIx_nat,jV1,wX0,List.map_take]
        congr 1
        omega
       show if inV (.str x) (jg (ns.map V.str) none (some (i:Int)))=true then _ else _
       rw[ec,gK,zB1 ?_]
       . apply cE ?_;erw[_,0,S2.trans (zE0 hc _)]
       . intro hm;let%[j,hj|e]:=jX0 hm;rw[qI0]at hj;rw[List.getElem_take]at e;let ex:ns[i]=x:=by
          rw[zL0 hi']at hx;exact zS0 hx
         exact List.pairwise_iff_getElem.mp nd j i #[0] hi' #[0] (e.trans ex.symm)
 . rintro σ H1 ⟨x1,x2,rfl,S1⟩;exact q H1 S1
def oN{ns:List Str}:∀t:Tr,t.ok ns->∀x∈t.names,x∈ns
 |.is y,h,x,hx=>by rw[Pg hx];exact h
 |.yes,_,x,hx=>by cases hx
 |.no,_,x,hx=>by cases hx
 |.not a,h,x,hx=>oN a h x hx
 |.bin _ a b,⟨_,h1,h2⟩,x,hx=>by
   rcases qN0 hx with h | h
   . exact oN a h1 x h
   . exact oN b h2 x h
instance spLookN:∀(a b:Addr)(ns:List Str)(tv:List V)(ts:List Tr),vs=[.ref b,.ref a]->H a=some (.tup (ns.map V.str))->H b=some (.tup tv)->TreesAt H tv ts->(∀t∈ts,t.ok ns/\t.wf/\t.depth<=10/\t.size<=400)->(∀H',Same H H'->Q .non H'):=1
def i9:FnScope ["trees","switches","tree","name"] ["trees","switches"] (aj jM):=%[|5]
def ur(F:#["look_names",jM])(eE:#[12,"names_in",WB,spNamesIn 10]):#[13,f,fd,["trees","switches"],spLookN]:=by
 exists i9
 erw[a,b,ns,tv,ts,1,ha,hb,TS,tok,q]at h;refine⟨_,(af (cI zE1 rfl (fh (pv 0)) (aX (i:=2) i9.nd rfl (.inl rfl))
  (af (cI zE1 rfl (dJ (ax eE hr ⋯ rfl %[2|ae])) (aX (i:=3) i9.nd rfl (.inl rfl))
   (af (aJ (ai wn (pv 3) (pv 1) (by rfl')) bq aB)))))),?_⟩
 erw[0,b,1,%[_|zC0 hb],wU (K:=K) (xs:=tv) (λi σ H'=>∃x2 x3:Option V,σ=[some (.ref b),some (.ref a),x2,x3]/\Same H H') %[_,0|Same.refl _] (λi σ H' _ Pd=>by erw[_,_,_,h]at Pd;exact zC0 (h _ _ hb)) ?_ ?_]
 . rintro i z σ H1 hz ⟨x2,x3,rfl,S1⟩;let%[t,ht|T]:=TS.get hz;let%[tk,tw,td|tz]:=tok t (qF0 ht);erw[0,z,t,1,T.mono (aY S1),tw,3,tz,λl H2 l0 S2 hl=>?_];let S12:=S1.trans S2;erw[l,1,%[_|zG0 hl],iJ (K:=K) (xs:=t.names.map V.str) (λj σ H'=>∃x3:Option V,σ=[some (.ref b),some (.ref a),some z,x3]/\H'=H2) %[0|1] (λj σ H' _ Pd=>by erw[_,_,h]at Pd;subst h;exact zG0 hl) ?_ ?_]
   . rintro j y σ H3 hy ⟨y3,rfl,rfl⟩;rw[zY0]at hy;let%[x,hx|1]:=qT0 hy;erw[0,0,a,0,.inr (zC0 (S12 _ _ ha)),1,ip _,0,6];show if(!inV (.str x) (ns.map V.str))=true then _ else _
     rw[gK,zC1 (oN t tk x (qF0 hx))];apply cE ?_;erw[0,1]
   . rintro σ H3 ⟨y3,rfl,rfl⟩;erw[_,0,S12]
 . rintro σ H1 ⟨x2,x3,rfl,S1⟩;exact q H1 S1
instance spLookF:∀p:Int,vs=[.int p]->Pr p->2<p->p<=999983->Q .non H:=1
def uk:FnScope ["field"] ["field"] (aj jN):=%[|5]
def ut(F:#["look_field",jN])(hend:∃t,mg "FIELDS_END"=some (.int 1000000 t))(ou:#[1,"is_field",["number"],spField]):#[2,f,fd,["field"],spLookF]:=by
 exists uk
 erw[p,1,pp,p2,p9,q]at h;erw[te,ge]at hend;erw[_,(af (aJ (PW.pt (iD (ai JA (pv 0) (cZ (v:=.int 1000000) rfl ge %[|0]) (ay _)) (hV (hZ (eI (ax ou hr ⋯ rfl %[0|ae])))))) bq aB)),6];erw[0,2,0,6];apply aE #[0] ?_;erw[0,p,1,3,λb hb=>%[b,1|6]];rw[hb.mpr ⟨p2,pp⟩];exact cE q
instance spLookZ:∀(p:Int)(d:Addr)(ns:List Int),vs=[.int p,.ref d]->H d=some (.lst (ns.map V.int))->ns≠[]->(∀n∈ns,n<p)->Q .non H:=1
def rY:FnScope ["field","degrees","greatest"] ["field","degrees"] (aj kP):=%[|5]
def wu(F:#["look_size",kP])(hmax:mg "max"=none):#[1,f,fd,["field","degrees"],spLookZ]:=by
 exists rY
 erw[p,d,ns,1,hd,n0,nl,q]at h;refine⟨_,(ad #[ao,2,rY,aG (ve rfl) rfl hmax jE1 %[1|ae]]
  (af (aJ (ai uR (pv 0) (pv 2) (ay _)) bq aB))),?_⟩
 erw[0,d,ns,1,zG0 hd,n0,6];erw[0,0,2,0,6]
 have:=nl _ (lr n0)
 exact aE #[0] q
def iE(f:Str)(v:V):∀fs:List (Str×V),(bJ f v fs).length<=fs.length+1
 | []=>zH0 _
 | (g,u)::r=>by
   have:=iE f v r
   unfold bJ
   split
   . simp
   . simp only[zR0];omega
def gf3(a b:Addr)(p:Int):List (Str×V):=bJ "field" (.int p) (bJ "trees" (.ref b) (bJ "switches" (.ref a) []))
def KQ(a b:Addr)(p:Int):(gf3 a b p).lookup ("switches":Str)=some (.ref a):=by
 unfold gf3;rw[aq,O8 ⋯,aq,O8 ⋯,aq,O9 rfl]
def KP(a b:Addr)(p:Int):(gf3 a b p).lookup ("trees":Str)=some (.ref b):=by
 unfold gf3;rw[aq,O8 ⋯,aq,O9 rfl]
def GameAt(C:Addr)(H:Hp)(g a b d:Addr)(p:Int):Prop:=∃dx,H g=some (.ins C dx (gf a b p d))
def GameAt.same(h:GameAt C H g a b d p)(s:Same H H'):GameAt C H' g a b d p:=by
 erw[dx,e]at h;erw[dx,s _ _ e]
instance spGInit(C:Addr):∀(g dx a b:Addr)(ns:List Str)(tv:List V)(ts:List Tr)(p:Int),vs=[.ref g,.ref a,.ref b,.int p]->H g=some (.ins C dx [])->H a=some (.tup (ns.map V.str))->ns.Nodup->ns.length<=10->H b=some (.tup tv)->TreesAt H tv ts->1<=ts.length->ts.length<=10->(∀t∈ts,t.ok ns/\t.wf/\t.depth<=10/\t.size<=400)->Pr p->2<p->p<=999983->(ts.length:Int)<=p->(∀t∈ts,∀x∈ns,(t.names.count x:Int)<p)->(∀(d:Addr)(H':Hp),H d=none->GameAt C H' g a b d p->H' d=some (.lst ((ns.map (bm ts)).map V.int))->SameBut g H H'->Q .non H'):=1
def Ex:FnScope Wc Wc (aj vO):=%[|5]
def Fl(F:#["__init__","Game.__init__",vO])(T:GTxt K mg C)(htuple:mg "tuple"=none)(hlen:mg "len"=none)(l9:#[13,"degree_of",Wp,spDeg])(ii:#[1,"look_switches",["switches"],spLookS])
 (j4:#[13,"look_names",["trees","switches"],spLookN])(j9:#[2,"look_field",["field"],spLookF])(mi:#[1,"look_size",["field","degrees"],spLookZ]):#[14,f,fd,Wc,spGInit C]:=by
 exists Ex
 erw[g,dx,a,b,ns,tv,ts,p,1,hg,ha,nd,nl,hb,TS,t1,t10,tok,pp,p2,p9,tp,tc,q]at h;refine⟨_,(ad (aR (pv 0) (bc bh rfl htuple bi %[1|ae]) rfl)
  (ad (aR (pv 0) (bc bh rfl htuple bi %[2|ae]) rfl)
  (ad (aR (pv 0) (pv 3) rfl)
  (ad (aR (pv 0) (cf (N:=WA) (ix:=[0]) rfl
   #[3] rfl
   (fh (az (pv 0) rfl)) (λ_ _ _=>cg (ax l9 hr ⋯ rfl %[0,jY K (pv 1)|ae]))) rfl)
  (ad (bb (ax ii hr ⋯ rfl %[az (pv 0) rfl|ae]))
  (ad (bb (ax j4 hr ⋯ rfl %[az (pv 0) rfl,az (pv 0) rfl|ae]))
  (ad (bb (ax j9 hr ⋯ rfl %[3|ae]))
  (af (bb (ax mi hr ⋯ rfl %[3,au pV (az (pv 0) rfl) (bZ %[au bp (aG aI rfl hlen zD1 %[az (pv 0) rfl|ae]) ag|ae])|ae])))))))))),?_⟩
 let nag:a≠g:=bt ha hg nofun;let nbg:b≠g:=bt hb hg nofun;let vl:=TS.length;erw[0,a,0,.inr %[zC0 ha,0,g,C,dx,[],1,hg,T.cl,T.nS,(by show 0<1000;decide)|6]];erw[0,b,0,.inr %[zC0 (by rw[aD nbg];exact hb),0,g,C,dx,0,ah,T.cl,T.nT,(zJ1 (iE _ _ _) (by show 1<1000;decide))|6]];erw[0,0,g,C,dx,0,ah,9,T.nF,(zJ1 (iE _ _ _) (zJ1 (zG1 (iE _ _ _)) (by show 2<1000;decide))),6];let S3:SameBut g H (upd (upd (upd H g (.ins C dx (bJ "switches" (.ref a) []))) g (.ins C dx (bJ "trees" (.ref b) (bJ "switches" (.ref a) [])))) g (.ins C dx (bJ "field" (.int p) (bJ "trees" (.ref b) (bJ "switches" (.ref a) []))))):=
  (SameBut.upd _).trans ((SameBut.upd _).trans (SameBut.upd _))
 let hg3:upd (upd (upd H g (.ins C dx (bJ "switches" (.ref a) []))) g (.ins C dx (bJ "trees" (.ref b) (bJ "switches" (.ref a) [])))) g (.ins C dx (bJ "field" (.int p) (bJ "trees" (.ref b) (bJ "switches" (.ref a) [])))) g=some (.ins C dx (gf3 a b p)):=ah;generalize upd (upd (upd H g (.ins C dx (bJ "switches" (.ref a) []))) g (.ins C dx (bJ "trees" (.ref b) (bJ "switches" (.ref a) [])))) g (.ins C dx (bJ "field" (.int p) (bJ "trees" (.ref b) (bJ "switches" (.ref a) []))))=H3 at S3 hg3;let kT:cG H H3:=λc xs h=>S3 c _ (bt h hg nofun) h
 let ha3:=kT _ _ ha;let hb3:=kT _ _ hb;let TS3:=TS.mono kT;erw[0,g,C,dx,_,0,hg3,9,T.nS,KQ ..,a,1,%[_|zC0 ha3],λD hD=>?_];let D0:H D=none:=by
  cases e:H D with
  |none=>rfl
  |some o=>
    by_cases c:D=g
    . rw[c,hg3]at hD;cases hD
    . rw[S3 D o c e]at hD;cases hD
 apply eN (K:=K) (xs:=ns.map V.str) (λi H'=>H' D=some (.lst (((ns.take i).map (bm ts)).map V.int))/\Same H3 H') %[by rw[ah];rfl|zE0 hD _] (λi H' _ h=>zC0 (h.2 _ _ ha3)) ?_ ?_
 . rintro i z H4 hz ⟨hl,S4⟩;let hi:i<(ns.map V.str).length:=(Pj hz).1;rw[zY0]at hz;let%[x,hx|1]:=qT0 hz;erw[0,0,g,C,dx,_,0,S4 _ _ hg3,9,T.nT,KP ..,x,b,tv,ts,1,S4 _ _ hb3,TS3.mono (aY S4),6,t10,λt ht=>(tok t ht).2,λH5 S5=>?_]
   . intro e;rw[e]at t1;exact absurd t1 ⋯
   erw[_,S5 _ _ hl,6,Nx.of hi %[6|λb' o' e'=>?_]]
   . rw[zF0,zF0,qI0];exact aN #[0]
   . rw[ah,qC0,hx,zK0,zK0];rfl
   . rw[aD (aO e' hD)];exact S5 _ _ (S4 _ _ e')
 rintro H4 ⟨hl,S4⟩;rw[zF0,qB0]at hl;erw[0,g,C,dx,0,S4 _ _ hg3,9,T.nD,6,6]
 . exact zJ1 (zP0 (iE _ _ _) (zG1 (zP0 (iE _ _ _) (zG1 (iE _ _ _))))) (by show 3<1000;decide)
 let nDg:D≠g:=λz=>by rw[z,hg3]at hD;cases hD
 let hg5:upd H4 g (.ins C dx (gf a b p D)) g=some (.ins C dx (gf a b p D)):=ah;let S5:SameBut g H (upd H4 g (.ins C dx (gf a b p D))):=S3.trans ((zM0 S4).trans (SameBut.upd _));let hD5:upd H4 g (.ins C dx (gf a b p D)) D=some (.lst ((ns.map (bm ts)).map V.int)):=by rw[aD nDg];exact hl
 show _;generalize he5:upd H4 g (.ins C dx (gf a b p D))=H5 at hg5 S5 hD5;let kT5:cG H H5:=λc xs h=>S5 c _ (bt h hg nofun) h
 rw[show upd H4 g (.ins C dx (bJ "degrees" (.ref D) (gf3 a b p)))=H5 from he5];erw[0,g,C,dx,_,0,hg5,9,T.nS,oW ..,a,ns,1,kT5 _ _ ha,nd,nl,λH6 S6=>?_];let kT6:cG H H6:=λc xs h=>S6 _ _ (kT5 c xs h)
 erw[0,g,C,dx,_,0,S6 _ _ hg5,9,T.nT,my ..,0,g,C,dx,_,0,S6 _ _ hg5,9,T.nS,oW ..,a,b,ns,tv,ts,1,kT6 _ _ ha,kT6 _ _ hb,TS.mono kT6,tok,λH7 S7=>?_];let S57:=S6.trans S7;erw[0,p,1,pp,p2,p9,6];erw[0,0,g,C,dx,_,0,S57 _ _ hg5,9,T.nD,Bi ..,0,g,C,dx,_,0,S57 _ _ hg5,9,T.nT,my ..,b,0,.inr (zC0 (S57 _ _ (kT5 _ _ hb))),2,y1S,λl hl2=>?_];let Gl:=zE0 hl2 (.lst [.int ((tv.length:Int)-1)]);erw[D,l,2,Gl _ _ (S57 _ _ hD5),ah,6,λr hr0=>?_]
 . rw[zF0,zF0];exact cx (by simp;omega)
 let Gr:=zE0 hr0 (.lst ((ns.map (bm ts)).map V.int++[.int ((tv.length:Int)-1)]));erw[p,r,ns.map (bm ts)++[(tv.length:Int)-1],1,6,by simp,λn hn=>?_,6]
 . rw[ah,zK0];rfl
 . rcases qN0 hn with h | h
   . let%[x,hx|1]:=List.mem_map.mp h;apply oZ ?_ λt ht=>tc t ht x hx
     intro e;rw[e]at t1;exact absurd t1 ⋯
   . rw[Pg h];omega
 . let S59:=S57.trans (Gl.trans Gr);exact q D _ D0 %[dx|S59 _ _ hg5] (S59 _ _ hD5) (S5.trans (zM0 S59))
instance spInv:∀a p:Int,vs=[.int a,.int p]->Pr p->p<=999983->0<a->a<p->(∀g:Int,0<g->g<p->g*a % p=1->Q (.int g) H):=1
def bj:FnScope ["a","p","former","former_factor","rest","factor","times","lesser","lesser_factor"] ["a","p"] (aj jR):=%[|5]
def uz(F:#["inverse_of",jR]):#[1,f,fd,["a","p"],spInv]:=by
 exists bj
 erw[a,p,1,pr,p1,a0,a1,q]at h;let p2:2<=p:=pr.1;refine⟨_,(ad #[ao,2,bj,pv 1]
  (ad #[ao,3,bj,ag]
  (ad #[ao,4,bj,au ba (pv 0) (pv 1)]
  (ad #[ao,5,bj,ag]
  (ad (iF zE1 (ai lq (pv 4) ag (ay _)) (ad #[ao,6,bj,au AX (pv 2) (pv 4)]
   (ad #[ao,7,bj,au bp (pv 2) (au cq (pv 6) (pv 4))]
   (ad #[ao,8,bj,au ba (au bp (pv 3) (au cq (pv 6) (pv 5))) (pv 1)]
   (ad #[ao,2,bj,pv 4]
   (ad #[ao,3,bj,pv 5]
   (ad #[ao,4,bj,pv 7]
   (af #[ao,5,bj,pv 8]))))))))
  (af (am (pv 5)))))))),?_⟩
 erw[0,6];erw[0,0,2,(show 0<p by omega),6];erw[λm σ H'=>∃(former ff rest g:Int)(x6 x7 x8:Option V),σ=[some (.int a),some (.int p),some (.int former),some (.int ff),some (.int rest),some (.int g),x6,x7,x8]/\H'=H/\Eu a p former ff rest g/\m=rest.toNat,%[_,_,_,_,_,_,2,yx pr #[0] a0 a1|1],6]
 rintro m σ H' ⟨former,ff,rest,g,x6,x7,x8,rfl,rfl,eu,rfl⟩;erw[0,1,0,6]
 by_cases c:rest=1
 . apply yq (congrArg V.int c) ?_;let%[g0,g1|g2]:=GE eu c #[0];erw[0,q g g0 g1 g2]
 . apply iteN (λz=>c (V.int.inj z)) ?_;erw[_,λ_ _ h=>h,6];let r0:=eu.r0;let rp:=eu.rp;let f0:=eu.f0;let f1:=eu.f1;let%[nx|lt]:=Bt eu c;erw[0,0,2,%[r0|3],6];erw[0,0,0,2,.inr %[3|3],2,6];erw[0,0,0,2,.inr %[3|3],2,0,2,(show 0<p by omega),6];erw[0,0,0,0,6];erw[_,lt,_,_,_,_,_,2,nx,1]
def md{p x y:Int}(h:p ∣ x-y):x % p=y % p:=by
 erw[k,hk]at h
 have:x=y+p*k:=#[0]
 rw[this,Int.add_mul_emod_self_left]
def dm(p x:Int):p ∣ x % p-x:=⟨-(x / p),by
 have:=jD1 x p
 rw[Int.mul_neg];omega⟩
def pmd(p:Int)(g:Nat->Int):Nat->Int
 |0=>1
 |k+1=>pmd p g k*g k % p
def oG(p:Int)(g:Nat->Int):∀k,p ∣ pmd p g k-pr g k
 |0=>%[(0)|by simp [pmd,pr]]
 |k+1=>by
   let%[a|ha]:=oG p g k;let%[b|hb]:=dm p (pmd p g k*g k);erw[b+a*g k,by show pmd p g k*g k % p-pr g k*g k=_;grind]
def oF{p:Int}(hp:1<p)(g:Nat->Int):∀k,0<=pmd p g k/\pmd p g k<p
 |0=>%[by show(0:Int)<=1;decide|hp]
 |k+1=>%[qE0 _ #[0]|qG0 _ #[0]]
def prL(p:Int)(g:Nat->Int)(n:Nat):List V:=((List.range n).map (pmd p g)).map V.int
def sJ(p:Int)(g:Nat->Int)(n:Nat):prL p g (n+1)=prL p g n++[.int (pmd p g n)]:=by
 unfold prL;rw[zZ1,zK0,zK0];rfl
def Ik(p:Int)(g:Nat->Int)(n:Nat):(prL p g n).length=n:=by
 unfold prL;rw[zF0,zF0,qR0]
def Ac{f:Nat->Int}{n k:Nat}(h:k<n):atI (((List.range n).map f).map V.int) (k:Int)=some (.int (f k)):=by
 apply cu ?_;rw[zY0,zY0,jL0 h];rfl
def zF{n k:Nat}(h:k<n):atI (prL p g n) (k:Int)=some (.int (pmd p g k)):=Ac h
instance spProd:∀(a:Addr)(g:Nat->Int)(n:Nat)(p:Int),vs=[.ref a,.int p]->H a=some (.lst (((List.range n).map g).map V.int))->n<=500->1<p->p<2 ^ 40->(∀(l:Addr)(H':Hp),H l=none->Same H H'->H' l=some (.lst (prL p g (n+1)))->Q (.ref l) H'):=1
def mq:FnScope ["numbers","p","told","number"] Wq (aj mY):=%[|5]
def xQ(F:#["products",mY]):#[1,f,fd,Wq,spProd]:=by
 exists mq
 erw[a,g,n,p,1,ha,n5,p1,p40,q]at h;refine⟨_,(ad #[ao,2,mq,bZ %[ag|ae]]
  (ad (cI zE1 rfl (dJ (pv 0)) (aX (i:=3) mq.nd rfl (.inl rfl)) (af (bb (dZ zF1 zL1 zM1 cY (pv 2) %[au ba (au cq (aM ix_list (pv 2) (uP pA ag) #[1]) (pv 3)) (pv 1)|ae]))))
  (af (am (pv 2))))),?_⟩
 erw[y1S,λL hL=>?_];let aL:a≠L:=aO ha hL;refine⟨_,rfl,a,rfl,%[_|zG0 ((zE0 hL _) _ _ ha)],iJ (K:=K) (xs:=((List.range n).map g).map V.int) (λi σ H'=>∃x3:Option V,σ=[some (.ref a),some (.int p),some (.ref L),x3]/\H' L=some (.lst (prL p g (i+1)))/\SameBut L H H')
  %[0,by rw[ah];rfl|SameBut.upd _] (λi σ H' _ Pd=>by erw[_,_,_,h]at Pd;exact zG0 (h _ _ aL ha)) ?_ ?_⟩
 . rintro i z σ H1 hz ⟨x3,rfl,hL1,S1⟩;let hi:=(Pj hz).1;rw[zF0,zF0,qR0]at hi;rw[zY0,zY0,jL0 hi]at hz;obtain rfl:V.int (g i)=z:=zS0 hz;let rg:=oF p1 g i;erw[0,.inl %[1,_|zG0 hL1],6];erw[0,0,L,_,_,.int (pmd p g i),1,1,zG0 hL1,6,0,2,.inl %[3|3],0,2,#[0],L,2,hL1,6,6]
   . rw[sJ];exact yM _ _
   . rw[Ik];exact aN #[0]
   . erw[0,6,λc o hc e=>?_]
     . rw[ah,sJ p g (i+1)];rfl
     . rw[aD hc];exact S1 c o hc e
 . rintro σ H1 ⟨x3,rfl,hL1,S1⟩;rw[zF0,zF0,qR0]at hL1;erw[0,q L H1 hL (λb o e=>S1 b o (aO e hL) e) hL1]
def EO:∀n:Nat,pr (λk=>1+(k:Int)) n=fac n
 |0=>rfl
 |n+1=>by
   show pr (λk=>1+(k:Int)) n*(1+(n:Int))=fac n*((n:Int)+1)
   rw[EO n,vK0]
def Eo{p g a t s:Int}{k m:Nat}(hg:g*a % p=1)(p1:1<p)(ha:p ∣ a-fac (k+m))(ht:p ∣ t-pr (λj=>((k+m:Nat):Int)-j) m)(hs:p ∣ s-g*t):p ∣ s*fac k-1:=by
 let f:=yv m k;erw[x,hx]at ha;erw[y,hy]at ht;erw[z,hz]at hs;let%[e|he]:=dm p (g*a);rw[hg]at he;erw[z*fac k+g*y*fac k-g*x-e,by grind]
instance spFacs:∀(L:Nat)(p:Int),vs=[.int (L:Int),.int p]->L<=500->(L:Int)<p->Pr p->p<=999983->(∀(l:Addr)(H':Hp)(sh:Nat->Int),H l=none->Same H H'->(∀k,k<=L->p ∣ sh k*fac k-1)->(∀k,0<=sh k/\sh k<p)->H' l=some (.lst (((List.range (L+1)).map sh).map V.int))->Q (.ref l) H'):=1
def cQ:FnScope ["last","p","numbers","whole","told"] ["last","p"] (aj eG):=%[|5]
def kG(F:#["inverse_factorials",eG])(B:Bl mg)(eF:#[1,"products",Wq,spProd])(fN:#[1,"inverse_of",["a","p"],spInv]):#[2,f,fd,["last","p"],spFacs]:=by
 exists cQ
 erw[L,p,1,L5,Lp,pp,p9,q]at h;refine⟨_,(ad #[ao,2,cQ,zJ rfl rfl B.list rfl B.range %[ag,au aV (pv 0) ag|ae]]
  (ad (ao (i:=3) cQ.nd rfl (Or.inr rfl) (ax fN hr ⋯ rfl %[aM ix_list (ax eF hr ⋯ rfl %[2,1|ae]) (uP pA ag) #[1],1|ae]))
  (ad (ao (i:=4) cQ.nd rfl (Or.inr rfl) (ax eF hr ⋯ rfl (aa (cf (N:=["last"]) (ix:=[0]) rfl
   #[3] rfl
   (bL rfl B.range %[0|ae]) (λ_ _ _=>cg (au bp (pv 1) (pv 0)))) %[1|ae])))
  (af (am (cf (N:=["whole","told","p","last"]) (ix:=[3,4,1,0]) rfl
   (CompScope.four (by rfl') ⋯ rfl ⋯ rfl ⋯ rfl (by rfl') (by rfl') (by rfl') (by rfl') (by rfl') (by rfl') rfl rfl (by rfl') rfl rfl (by rfl') rfl rfl (by rfl') rfl rfl) rfl
   (bL rfl B.range %[au aV (pv 0) ag|ae]) (λ_ _ _=>cg (au ba (au cq (pv 1) (aM (yp K) (pv 2) (au bp (pv 4) (pv 0)) #[1])) (pv 3))))))))),?_⟩
 let p2:=pp.1;let hP:=sM pp #[0];erw[0,2,(1),0,%[4,4,3|3],3,λa ha=>?_];let e1:vX 1 ((L:Int)+1-1).toNat=(List.range L).map λk:Nat=>1+(k:Int):=by
  unfold vX;rw[show((L:Int)+1-1).toNat=L by omega]
 rw [e1];let Ga:=zE0 ha (.lst (((List.range L).map λk:Nat=>1+(k:Int)).map V.int));erw[0,0,a,_,L,p,1,ah,L5,3,3,λl H2 l0 S2 hl2=>?_];let rg:=oF (show 1<p by omega) (λk:Nat=>1+(k:Int)) L;let dv:=oG p (λk:Nat=>1+(k:Int)) L;rw[EO]at dv;let ne0:pmd p (λk:Nat=>1+(k:Int)) L≠0:=λz=>by
  rw[z]at dv;erw[m,hm]at dv;exact wV hP L Lp %[-m|by rw[Int.mul_neg];omega]
 erw[0,l,_,_,.int (pmd p (λk:Nat=>1+(k:Int)) L),1,1,zG0 hl2,by rw[sJ];exact yM _ _,0,_,p,1,pp,p9,3,rg.2,λg g0 g1 hg=>?_];let SH2:=Ga.trans S2;erw[0,0,3,3,λD hD=>?_];apply dM (λi H'=>H' D=some (.lst (((List.range i).map λj:Nat=>(L:Int)-j).map V.int))/\Same H2 H') %[by rw[ah];rfl|zE0 hD _] ?_ ?_
 . rintro i H3 hi ⟨hD3,S3⟩;erw[0,0,2,_,hD3,6,Nx.of hi %[6|λb o e=>?_]]
   . rw[zF0,zF0,qR0];exact aN #[0]
   . rw[ah,zZ1,zK0,zK0,qZ1];rfl
   . rw[aD (aO e hD)];exact S3 _ _ e
 rintro H3 ⟨hD3,S3⟩;rw[show((L:Int)).toNat=L from qV0 L]at hD3;erw[0,D,_,L,p,1,hD3,L5,3,3,λt H4 t0 S4 ht4=>?_];erw[0,2,0,3,3,λD2 hD2=>?_];apply dM (λi H'=>H' D2=some (.lst (((List.range i).map λk:Nat=>g*pmd p (λj:Nat=>(L:Int)-j) (L-k) % p).map V.int))/\Same H4 H') %[by rw[ah];rfl|zE0 hD2 _] ?_ ?_
 . rintro i H5 hi ⟨hD5,S5⟩;let hi':i<L+1:=#[0]
   let rg2:=oF (show 1<p by omega) (λj:Nat=>(L:Int)-j) (L-i);let e2:(L:Int)-(0+(i:Int))=((L-i:Nat):Int):=#[0]
   erw[0,0,0,0,2,t,_,_,.int (pmd p (λj:Nat=>(L:Int)-j) (L-i)),1,1,zG0 (S5 _ _ ht4),by rw[e2];exact zF #[0],2,.inl %[3|3],0,2,#[0],_,hD5,6,Nx.of hi ⟨?_,λb o e=>?_⟩]
   . rw[zF0,zF0,qR0];exact aN #[0]
   . rw[ah,zZ1,zK0,zK0];rfl
   . rw[aD (aO e hD2)];exact S5 _ _ e
 rintro H5 ⟨hD5,S5⟩;rw[show((L:Int)+1).toNat=L+1 by omega]at hD5;let S05:=SH2.trans (S3.trans (S4.trans S5));apply q D2 H5 (λk=>g*pmd p (λj:Nat=>(L:Int)-j) (L-k) % p) ((SH2.trans (S3.trans S4)).free hD2) S05 (λk hk=>?_) (λk=>%[qE0 _ #[0]|qG0 _ #[0]]) hD5;obtain⟨m,rfl⟩:∃m,L=k+m:=⟨L-k,#[0]⟩
 rw[show k+m-k=m by omega];exact Eo hg #[0] dv (oG p _ m) (dm p _)
def wt(p:Int)(n i:Nat):Int:=(px (i:Int) i n % p) ^ (p-2).toNat
def vp(hp:Pm p){n:Nat}(hn:(n:Int)<=p):Wgt p n (wt p n):=λi hi=>by
 let h1:=Ks hp hn hi;let%[k|hk]:=dm p (px (i:Int) i n);let h2:¬ p ∣ px (i:Int) i n % p:=fun⟨m,hm⟩=>h1 %[m-k|by grind]
 let%[m|hm]:=KW hp h2 (qE0 _ (by have:=hp.1;omega));erw[m-k*(px (i:Int) i n % p) ^ (p-2).toNat,by unfold wt;grind]
def val(p:Int)(xs:List Int)(r:Int):Int:=lag (λi=>xs.getD i 0) (wt p xs.length) xs.length r % p
def JT{t:Int}{xs:List Int}(hp:Pm p)(hn:(xs.length:Int)<=p)(hu:Wgt p xs.length u)(t0:0<=t)(t1:t<p)(h:p ∣ t-lag (λi=>xs.getD i 0) u xs.length r):t=val p xs r:=by
 let e:p ∣ t-lag (λi=>xs.getD i 0) (wt p xs.length) xs.length r:=by
  have:=FX hp hn (v:=λi=>xs.getD i 0) hu (vp hp hn) r
  let z:=wG1 h this;let e2:t-lag (λi=>xs.getD i 0) u xs.length r+(lag (λi=>xs.getD i 0) u xs.length r-lag (λi=>xs.getD i 0) (wt p xs.length) xs.length r)=t-lag (λi=>xs.getD i 0) (wt p xs.length) xs.length r:=#[0]
  rw[e2]at z;exact z
 have:=md e
 rw[qL0 t0 t1]at this;exact this
def AC{p:Int}(hp:1<p)(xs:List Int)(r:Int):0<=val p xs r/\val p xs r<p:=%[qE0 _ #[0]|qG0 _ #[0]]
def jF{xs:List Int}{k:Nat}(hp:Pm p)(hn:(xs.length:Int)<=p)(hk:k<xs.length):val p xs k=xs.getD k 0 % p:=md (nJ (vp hp hn) hk)
def sgn(m:Nat):(-1:Int) ^ m=if m % 2=1 then -1 else 1:=by
 induction m with
 |zero=>rfl
 |succ m ih=>
   rw[qJ1,ih]
   by_cases c:m % 2=1
   . rw[O9 c,O8 #[0]];rfl
   . rw[O8 c,O9 #[0]];rfl
def HH{p r v t s a b c d e:Int}{m:Nat}{x y:Int}(ht:p ∣ t-s)(ha:p ∣ a-pr (λj=>r-j) i)(hb:p ∣ b-pr (λj=>r-(i+m:Nat)+j) m)(hc:p ∣ c-v*a*b)(hd:p ∣ d-x*y)(he:p ∣ e-(t+(if m % 2=1 then -(c*d)else c*d))):
 p ∣ e-(s+v*px r i (i+m+1)*((-1) ^ m*(x*y))):=by
 rw[show i+m+1=i+1+m by omega,sE,sgn];rw[AT]at hb;generalize pr (λj=>r-j) i=A at *
 generalize pr (λj=>r-(i+1+j:Nat)) m=B at *
 erw[t',ht]at ht;erw[a',ha]at ha;erw[b',hb]at hb;erw[c',hc]at hc;erw[d',hd]at hd;erw[e',he]at he;let e1:c*d-v*(A*B)*(x*y)=p*(c'*d+v*(a'*b+A*b')*d+v*A*B*d'):=by grind
 by_cases z:m % 2=1
 . rw [O9 z]at *
   erw[e'+t'-(c'*d+v*(a'*b+A*b')*d+v*A*B*d'),by grind]
 . rw [O8 z]at *
   erw[e'+t'+(c'*d+v*(a'*b+A*b')*d+v*A*B*d'),by grind]
def IntsAt(H:Hp)(a:Addr)(xs:List Int):Prop:=H a=some (.lst (xs.map V.int))∨H a=some (.tup (xs.map V.int))
def IntsAt.same(h:IntsAt H a xs)(s:Same H H'):IntsAt H' a xs:=h.elim (λe=>.inl (s _ _ e)) (λe=>.inr (s _ _ e))
def IntsAt.seq{K:W.Frag}(h:IntsAt H a xs):SqL K H a (xs.map V.int)∨SqT K H a (xs.map V.int):=h.elim (λe=>.inl (zG0 e)) (λe=>.inr (zC0 e))
def IntsAt.ix{K:W.Frag}{k:Nat}{Q:VK}(h:IntsAt H a xs)(hk:k<xs.length)(q:Q (.int (xs.getD k 0)) H):rIxL K (.ref a) (.int (k:Int)) H Q∨rIxT K (.ref a) (.int (k:Int)) H Q:=by
 let e:atI (xs.map V.int) (k:Int)=some (.int (xs.getD k 0)):=cu (by rw[zY0,zL0 hk,qJ0,zL0 hk];rfl);rcases h with h | h
 . exact .inl %[a,_,2,zG0 h,e|q]
 . exact .inr %[a,_,2,zC0 h,e|q]
def mJ(xs:List Int)(p:Int):Prop:=1<=xs.length/\xs.length<=500/\(xs.length:Int)<=p/\∀k,0<=xs.getD k 0/\xs.getD k 0<2 ^ 40
instance spVal:∀(a:Addr)(xs:List Int)(r p:Int),vs=[.ref a,.int r,.int p]->IntsAt H a xs->mJ xs p->Pr p->p<=999983->0<=r->r<p->(∀H',Same H H'->Q (.int (val p xs r)) H'):=1
def bd:FnScope ["values","r","p","last","ahead","behind","shares","total","place","share","part"] WL (aj iw):=%[|5]
def qP(F:#["value_behind",iw])(B:Bl mg)(eF:#[1,"products",Wq,spProd])(fQ:#[2,"inverse_factorials",["last","p"],spFacs]):#[3,f,fd,WL,spVal]:=by
 exists bd
 erw[a,xs,r,p,1,ha,%[x1,x5,xp|xb],pp,p9,r0,r1,q]at h;refine⟨_,(ad (ao (i:=3) bd.nd rfl (Or.inr rfl) (au bp (aG aI rfl B.len zD1 %[0|ae]) ag))
  (ad (ao (i:=4) bd.nd rfl (.inl rfl) (ax eF hr ⋯ rfl (aa (cf (N:=["r"]) (ix:=[1]) rfl
   #[3] rfl
   (bL rfl B.range %[3|ae]) (λ_ _ _=>cg (au bp (pv 1) (pv 0)))) %[2|ae])))
  (ad (ao (i:=5) bd.nd rfl (.inl rfl) (ax eF hr ⋯ rfl (aa (cf (N:=["r","last"]) (ix:=[1,3]) rfl
   #[4] rfl
   (bL rfl B.range %[3|ae]) (λ_ _ _=>cg (au aV (au bp (pv 1) (pv 2)) (pv 0)))) %[2|ae])))
  (ad #[ao,6,bd,ax fQ hr ⋯ rfl %[3,2|ae]]
  (ad #[ao,7,bd,ag]
  (ad (cI zE1 rfl (bL rfl B.range %[au aV (pv 3) ag|ae]) (aX (i:=8) bd.nd rfl (.inl rfl)) (ad #[ao,9,bd,au ba (au cq (aM ix_list (pv 6) (pv 8) #[1]) (aM ix_list (pv 6) (au bp (pv 3) (pv 8)) #[1])) (pv 2)]
   (ad #[ao,10,bd,au cq (au ba (au cq (au cq (aM (ix_list.or ix_tup) (pv 0) (pv 8) #[1]) (aM ix_list (pv 4) (pv 8) #[1])) (aM ix_list (pv 5) (au bp (pv 3) (pv 8)) #[1])) (pv 2)) (pv 9)]
   (ad (aJ (ai aQ (au ba (au bp (pv 3) (pv 8)) ag) ag (ay _)) (af #[ao,10,bd,uP pA (pv 10)]) aB)
   (af #[ao,7,bd,au ba (au aV (pv 7) (pv 10)) (pv 2)])))))
  (af (am (pv 7))))))))),?_⟩
 let p2:=pp.1;let p1:1<p:=#[0]
 let p0:0<p:=#[0]
 let hP:=sM pp #[0];obtain⟨L,hL⟩:∃L,xs.length=L+1:=%[xs.length-1|3]
 let eL:(((xs.map V.int).length:Nat):Int)-1=(L:Int):=by rw[zF0];omega
 erw[0,a,0,ha.seq,2,6]
 dsimp only
 rw[eL];erw[0,(L:Int),1,3,3,λD hD=>?_];apply dM (λi H'=>H' D=some (.lst (((List.range i).map λj:Nat=>r-j).map V.int))/\Same H H') %[by rw[ah];rfl|zE0 hD _] ?_ ?_
 . rintro i H3 hi ⟨hD3,S3⟩;erw[0,0,2,_,hD3,6,Nx.of hi %[6|λb o e=>?_]]
   . rw[zF0,zF0,qR0];exact aN #[0]
   . rw[ah,zZ1,zK0,zK0,qZ1];rfl
   . rw[aD (aO e hD)];exact S3 _ _ e
 rintro H1 ⟨hD1,S1⟩;rw[show((L:Int)).toNat=L from qV0 L]at hD1;erw[0,D,_,L,p,1,hD1,3,p1,3,λla H2 la0 S2 hla=>?_];erw[0,(L:Int),1,3,3,λD2 hD2=>?_];apply dM (λi H'=>H' D2=some (.lst (((List.range i).map λj:Nat=>r-(L:Int)+j).map V.int))/\Same H2 H') %[by rw[ah];rfl|zE0 hD2 _] ?_ ?_
 . rintro i H3 hi ⟨hD3,S3⟩;erw[0,0,2,0,2,_,hD3,6,Nx.of hi %[6|λb o e=>?_]]
   . rw[zF0,zF0,qR0];exact aN #[0]
   . rw[ah,zZ1,zK0,zK0,qZ1];rfl
   . rw[aD (aO e hD2)];exact S3 _ _ e
 rintro H3 ⟨hD3,S3⟩;rw[show((L:Int)).toNat=L from qV0 L]at hD3;erw[0,D2,_,L,p,1,hD3,3,p1,3,λlb H4 lb0 S4 hlb=>?_];erw[0,0,L,p,1,3,3,pp,p9,λls H5 sh ls0 S5 hsh hsr hls=>?_];let S25:=S3.trans (S4.trans S5);let S05:=S1.trans (S2.trans S25);let hla5:=S25 _ _ hla;let hlb5:=S5 _ _ hlb;let ha5:=ha.same S05;let hW:=HD hsh;refine⟨_,rfl,_,_,rfl,rfl,_,rfl,#[0],#[0],dQ (λi σ H'=>∃(t:Int)(x8 x9 x10:Option V),σ=[some (.ref a),some (.int r),some (.int p),some (.int L),some (.ref la),some (.ref lb),some (.ref ls),some (.int t),x8,x9,x10]/\0<=t/\t<p/\p ∣ t-sm (λi=>xs.getD i 0*px r i (L+1)*((-1) ^ (L-i)*(sh i*sh (L-i)))) i/\H'=H5)
  %[(0),_,_,0,4,p0,%[(0)|by simp [sm]]|1] ?_ ?_⟩
 . rintro i σ H6 hi ⟨t,x8,x9,x10,rfl,t0,t1,td,rfl⟩;let hi':i<L+1:=#[0]
   obtain⟨m,hm⟩:∃m,L=i+m:=%[L-i|3]
   let e0:(0:Int)+(i:Int)=(i:Int):=qZ1 _;let e1:(L:Int)-(0+(i:Int))=(m:Int):=#[0]
   let r1':=hsr i;let r2':=hsr m;let ar:=oF p1 (λj:Nat=>r-j) i;let br:=oF p1 (λj:Nat=>r-(L:Int)+j) m;let xi:=xb i;let m1:∀z:Int,0<=z % p:=λz=>qE0 _ #[0]
   let m2:∀z:Int,z % p<p:=λz=>qG0 _ p0
   erw[0,0,ls,_,_,.int (sh i),1,1,zG0 hls,by rw[e0];exact Ac hi',0,0,0,2,ls,_,_,.int (sh m),1,1,zG0 hls,by rw[e1];exact Ac #[0],2,.inl %[3|3],0,2,p0,6];erw[0,0,6];rw[e0];apply ha5.ix #[0] ?_;erw[0,0,la,_,_,.int (pmd p (λj:Nat=>r-j) i),1,1,zG0 hla5,zF hi',2,.inl %[3|3],6];erw[0,0,0,2,lb,_,_,.int (pmd p (λj:Nat=>r-(L:Int)+j) m),1,1,zG0 hlb5,by rw[←e0,e1];exact zF #[0],2,.inr %[3|3],0,2,p0,6];let s1:=m1 (sh i*sh m);let s2:=m2 (sh i*sh m);erw[0,2,.inr %[3|3],6];erw[0,0,2,2,(by show(0:Int)<_;decide),1,0,6];let fin:∀z:Int,z=(if m % 2=1 then -(xs.getD i 0*pmd p (λj:Nat=>r-j) i*pmd p (λj:Nat=>r-(L:Int)+j) m % p*(sh i*sh m % p))else xs.getD i 0*pmd p (λj:Nat=>r-j) i*pmd p (λj:Nat=>r-(L:Int)+j) m % p*(sh i*sh m % p)) ->
    p ∣ (t+z) % p-sm (λi=>xs.getD i 0*px r i (L+1)*((-1) ^ (L-i)*(sh i*sh (L-i)))) (i+1):=λz hz=>by
    show p ∣ _-(sm _ i+xs.getD i 0*px r i (L+1)*((-1) ^ (L-i)*(sh i*sh (L-i))))
    let em:L-i=m:=#[0]
    let hb:p ∣ pmd p (λj:Nat=>r-(L:Int)+j) m-pr (λj=>r-(i+m:Nat)+j) m:=by
     rw[←hm];exact oG p _ m
    subst hz;rw[em];let el:L+1=i+m+1:=#[0]
    rw[el]at td ⊢;exact HH td (oG p _ i) hb (dm p _) (dm p _) (dm p _)
   by_cases c:m % 2=1
   . apply aW (congrArg V.int #[0]) ?_;erw[0,0,6];erw[0,0,2,0,2,p0,6];erw[_,_,_,0,m1 _,m2 _,fin _ (by rw[O9 c]),1]
   . apply aE (λz=>c (by have:=V.int.inj z;omega)) ?_;erw[0,0,2,0,2,p0,6];erw[_,_,_,0,m1 _,m2 _,fin _ (by rw[O8 c]),1]
 . rintro σ H6 ⟨t,x8,x9,x10,rfl,t0,t1,td,rfl⟩;rw[show((L:Int)+1).toNat=L+1 by omega]at td;rw[←hL]at hW;let e:=JT (r:=r) hP xp hW t0 t1 (by
    unfold lag;rw[hL];exact td)
   rw[e];erw[0,q H6 S05]
def xC:FnScope ["values","r","p","place"] WL (aj mQ):=%[|5]
def xN(F:#["value_at",mQ])(B:Bl mg)(im:#[3,"value_behind",WL,spVal]):#[4,f,fd,WL,spVal]:=by
 exists xC
 erw[a,xs,r,p,1,ha,ok,pp,p9,r0,r1,q]at h;refine⟨_,(ad #[ao,3,xC,au ba (pv 1) (pv 2)]
  (ad (aJ (ai gq (pv 3) (aG aI rfl B.len zD1 %[0|ae]) (ay _)) (af (am (au ba (aM (ix_list.or ix_tup) (pv 0) (pv 3) #[1]) (pv 2)))) aB)
  (af (am (ax im hr ⋯ rfl %[0,3,2|ae]))))),?_⟩
 let p0:0<p:=#[0]
 let hP:=sM pp #[0];let er:r % p=r:=qL0 r0 r1;erw[0,0,2,p0,6]
 dsimp only
 rw[er];erw[0,0,a,0,ha.seq,2,0,6];apply wO (λc=>?_) (λc=>?_)
 . let c':=zY1 c;rw[zF0]at c';obtain⟨k,rfl⟩:∃k:Nat,r=(k:Int):=%[r.toNat|3]
   erw[0,0,6];apply ha.ix #[0] ?_;erw[0,2,p0,6];show Q (.int (xs.getD k 0 % p)) H;rw[←jF hP ok.2.2.1 #[0]];exact q H (Same.refl _)
 . erw[0,0,0,a,xs,r,p,1,ha,ok,pp,p9,r0,r1,q]
instance spEnds:∀(a:Addr)(xs:List Int)(p:Int),vs=[.ref a,.int p]->IntsAt H a xs->mJ xs p->Pr p->p<=999983->(∀H',Same H H'->Q (.int ((val p xs 0+val p xs 1) % p)) H'):=1
def vD:FnScope ["values","p"] ["values","p"] (aj kY):=%[|5]
def wA(F:#["both_ends",kY])(cJ:#[4,"value_at",WL,spVal]):#[5,f,fd,["values","p"],spEnds]:=by
 exists vD
 erw[a,xs,p,1,ha,ok,pp,p9,q]at h;erw[_,(af (am (au ba (au aV (ax cJ hr ⋯ rfl %[0,ag,1|ae]) (ax cJ hr ⋯ rfl %[0,ag,1|ae])) (pv 1)))),6];let p2:=pp.1;erw[0,0,a,xs,(0),p,1,ha,ok,pp,p9,4,3,λH1 S1=>?_];erw[0,0,a,xs,(1),p,1,ha.same S1,ok,pp,p9,4,3,λH2 S2=>?_];erw[2,0,2,#[0],q H2 (S1.trans S2)]
def IntsAt.sqB{K:W.Frag}(h:IntsAt H a xs):∃c,SqB K c H a (xs.map V.int):=h.elim (λe=>%[true|zG0 e]) (λe=>%[false|zC0 e])
def hor(s p:Int):List Int->Int
 | []=>0
 |a::r=>(hor s p r*s+a) % p
def rA{p:Int}(hp:0<p):∀ns,0<=hor s p ns/\hor s p ns<p
 | []=>%[qH1 0|hp]
 |a::r=>%[qE0 _ #[0]|qG0 _ hp]
instance spMix(C:Addr):∀(g a b d l:Addr)(ns:List Int)(s p:Int),vs=[.ref g,.ref l,.int s]->GameAt C H g a b d p->0<p->p<2 ^ 40->IntsAt H l ns->Q (.int (hor s p ns)) H:=1
def v6:FnScope ["self","numbers","s","total","number"] WM (aj zA):=%[|5]
def Iz(F:#["mix","Game.mix",zA])(T:GTxt K mg C)(hrev:mg "reversed"=none):#[1,f,fd,WM,spMix C]:=by
 exists v6
 erw[g,a,b,d,l,ns,s,p,1,%[dx|hg],p0,p40,hl,q]at h;refine⟨_,(ad #[ao,3,v6,ag]
  (ad (cI zE1 rfl (Il rfl hrev (pv 1)) (aX (i:=4) v6.nd rfl (.inl rfl)) (af #[ao,3,v6,au ba (au aV (au cq (pv 3) (pv 2)) (pv 4)) (az (pv 0) rfl)]))
  (af (am (pv 3))))),?_⟩
 let%[c|hl]:=hl.sqB (K:=K);refine⟨_,rfl,c,l,_,rfl,hl,Gv (K:=K) (c:=c) (xs:=ns.map V.int) (λi σ H'=>∃(x4:Option V)(t:Int),σ=[some (.ref g),some (.ref l),some (.int s),some (.int t),x4]/\t=hor s p (ns.drop (ns.length-i))/\H'=H)
  %[_,(0),1,by rw[wX0,List.drop_length];rfl|1] (λi σ H' _ Pd=>by erw[_,_,_,_,h]at Pd;subst h;exact hl) ?_ ?_⟩
 . rintro i z σ H1 hi hz ⟨x4,t,rfl,rfl,rfl⟩;rw[zF0]at hi;rw[←List.map_reverse,zY0]at hz;let%[x,hx|1]:=qT0 hz;rw[wI1 hi]at hx;let hr2:=rA (s:=s) p0 (ns.drop (ns.length-i));erw[0,0,2,.inl %[3|3],0,2,0,g,C,dx,_,0,hg,T.cl,T.nF,eZ ..,2,p0,6];erw[_,0,6,1];let hj:ns.length-1-i<ns.length:=#[0]
   let ed:ns.drop (ns.length-(i+1))=x::ns.drop (ns.length-i):=by
    let e1:ns.length-(i+1)=ns.length-1-i:=#[0]
    let e2:ns.length-i=ns.length-1-i+1:=#[0]
    rw[e1,e2,jW0 hj]
    congr 1
    rw[zL0 hj]at hx;exact zS0 hx
   rw[ed];rfl
 . rintro σ H1 ⟨x4,t,rfl,rfl,rfl⟩;rw[zF0,vJ1,jV1];erw[0,q]
instance spWAt(C:Addr):∀(g a b d r:Addr)(ns:List Str)(tv:List V)(ts:List Tr)(pt:List Int)(s p:Int),vs=[.ref g,.ref r,.int s]->GameAt C H g a b d p->1<p->p<2 ^ 40->H a=some (.tup (ns.map V.str))->H b=some (.tup tv)->TreesAt H tv ts->ts.length<=10->(∀t∈ts,t.ok ns/\t.depth<=10)->H r=some (.tup (pt.map V.int))->pt.length=ns.length->bY pt p->(∀H',Same H H'->Q (.int (hor s p (ts.map λt=>t.worth ns pt p))) H'):=1
def Cf:FnScope WO WO (aj sw):=%[|5]
def CB(F:#["worth_at","Game.worth_at",sw])(T:GTxt K mg C)(mM:Meth K C "mix" fm)(GM:#[1,fm,fdm,WM,spMix C])(bM:Binds K fdm WM [])(f8:#[12,"worth_of",WT,spWorth 10]):#[13,f,fd,WO,spWAt C]:=by
 exists Cf
 erw[g,a,b,d,r,ns,tv,ts,pt,s,p,1,%[dx|hg],p1,p40,ha,hb,TS,t10,tok,hr0,pl,po,q]at h;let hr1:Room 1 _:=hr.mono ⋯;refine⟨_,(af (am (bK (pv 0) T.cl mM GM hr1 bM .nil aZ (aa (cf (N:=["self","point"]) (ix:=[0,1]) rfl
  #[4] rfl
  (fh (az (pv 0) rfl)) (λ_ _ _=>cg (ax f8 hr ⋯ rfl %[0,jY K (pv 1),2,jY K (pv 1)|ae]))) %[2|ae])))),?_⟩
 let vl:=TS.length;erw[0,g,dx,0,hg,qH _ _ _ _ ⋯ ⋯ ⋯ ⋯,6];erw[0,g,C,dx,_,0,hg,9,T.nT,my ..,b,1,%[_|zC0 hb],λD hD=>?_];apply eN (K:=K) (xs:=tv) (λi H'=>H' D=some (.lst (((ts.take i).map λt=>t.worth ns pt p).map V.int))/\Same H H') %[by rw[ah];rfl|zE0 hD _] (λi H' _ h=>zC0 (h.2 _ _ hb)) ?_ ?_
 . rintro i z H2 hz ⟨hl,S2⟩;let%[t,ht|Tt]:=TS.get hz;let%[tk|td]:=tok t (qF0 ht);let hi:i<tv.length:=(Pj hz).1;erw[0,0,g,C,dx,_,0,S2 _ _ hg,9,T.nS,oW ..,0,0,g,C,dx,_,0,S2 _ _ hg,9,T.nF,eZ ..,z,t,a,r,ns,pt,p,1,Tt.mono (aY S2),tk,td,.inr (S2 _ _ ha),S2 _ _ hr0,pl,p1,p40,po,6];erw[_,hl,6,Nx.of hi %[6|λb' o' e'=>?_]]
   . rw[zF0,zF0,qI0];exact aN #[0]
   . rw[ah,qC0,ht,zK0,zK0];rfl
   . rw[aD (aO e' hD)];exact S2 _ _ e'
 . rintro H2 ⟨hl,S2⟩;rw[vl,qB0]at hl;erw[0,g,a,b,d,D,_,s,p,1,%[dx|S2 _ _ hg],3,p40,.inl hl,q H2 S2]
instance spCoins(C:Addr):∀(g a b d:Addr)(ns:List Str)(tv:List V)(p:Int),vs=[.ref g]->GameAt C H g a b d p->H a=some (.tup (ns.map V.str))->H b=some (.tup tv)->Q (.int (if tv.length=1 then(ns.length:Int)else(ns.length:Int)+1)) H:=1
def Cg:FnScope WA WA (aj sx):=%[|5]
def CC(F:#["coins","Game.coins",sx])(T:GTxt K mg C)(hlen:mg "len"=none):#[1,f,fd,WA,spCoins C]:=by
 exists Cg
 erw[g,a,b,d,ns,tv,p,1,%[dx|hg],ha,hb,q]at h;refine⟨_,(ad (aJ (ai aQ (aG aI rfl hlen zD1 %[az (pv 0) rfl|ae]) ag (ay _)) (af (am (aG aI rfl hlen zD1 %[az (pv 0) rfl|ae]))) aB)
  (af (am (au aV (aG aI rfl hlen zD1 %[az (pv 0) rfl|ae]) ag)))),?_⟩
 erw[0,g,C,dx,_,0,hg,9,T.nT,my ..,b,0,.inr (zC0 hb),1,0,6]
 by_cases c:V.int (tv.length:Int)=V.int 1
 . apply aW c ?_;let c':tv.length=1:=by have:=V.int.inj c;omega
   rw[O9 c']at q;erw[0,g,C,dx,_,0,hg,9,T.nS,oW ..,a,0,.inr (zC0 ha),6];rw[zF0];exact q
 . apply aE c ?_;let c':¬ tv.length=1:=λz=>c (by rw[z];rfl)
   rw[O8 c']at q;erw[0,g,C,dx,_,0,hg,9,T.nS,oW ..,a,0,.inr (zC0 ha),6];rw[zF0];erw[2,q]
instance spSize(n:Nat):∀(v:V)(t:Tr),vs=[v]->TreeAt H v t->t.wf->t.depth<=n->t.size<=400->(∀H',Same H H'->Q (.int t.size) H'):=1
def zn(ts:List Tr):(ts.map λu=>(u.size:Int)).sum=(jk ts:Int):=by
 induction ts with
 |nil=>rfl
 |cons a r ih=>
   simp only[jk,zZ0,zV1]at ih ⊢;rw[ih];omega
def zq:FnScope WB WB (aj lI):=%[|5]
def Cb{n:Nat}(F:#["size_of",lI])(B:Bl mg)(a7:#[1,"trees_within",WB,spWithin])(i4:#[n+2,"size_of",WB,spSize n]):#[n+3,f,fd,WB,spSize (n+1)]:=by
 exists zq
 erw[v,t,1,T,wf,dn,sz,q]at h;refine⟨_,(af (am (au aV ag (aG (tZ rfl) rfl B.sum wJ1 (aa (cf (N:=[]) (ix:=[]) (cl:=[]) rfl #[5] rfl
  (fh (ax a7 hr #[0] rfl %[0|ae])) (λ_ _ _=>cg (ax i4 hr (zH0 _) rfl %[0|ae]))) ae))))),?_⟩
 erw[0,v,t,1,T,wf,λp xs H1 S1 hp TS=>?_];erw[p,1,%[_|zC0 hp],λD hD=>?_];let pD:p≠D:=aO hp hD;let xl:=TS.length;let sp:=t.size_parts;apply eN (K:=K) (xs:=xs) (λi H'=>H' D=some (.lst (((t.parts.take i).map λu=>(u.size:Int)).map V.int))/\Same H1 H') %[by rw[ah];rfl|zE0 hD _] (λi H' _ h=>zC0 (h.2 _ _ hp)) ?_ ?_
 . rintro i x H2 hx ⟨hl,S2⟩;let%[u,hu|Tu]:=TS.get hx;let um:=qF0 hu;let%[uw,ud|us]:=Tr.parts_mem um wf;let hi:i<xs.length:=(Pj hx).1;erw[0,x,u,1,Tu.mono (aY S2),uw,3,3,λH3 S3=>?_];erw[_,S3 _ _ hl,6,Nx.of hi %[6|λb o e=>?_]]
   . have:t.parts.length<=2:=by cases t <;> simp [Tr.parts]
     rw[zF0,zF0,qI0];exact aN #[0]
   . rw[ah,qC0,hu,zK0,zK0];rfl
   . rw[aD (aO e hD)];exact S3 _ _ (S2 _ _ e)
 . rintro H2 ⟨hl,S2⟩;rw[xl,qB0]at hl;let sc:=zn t.parts;erw[D,0,zG0 hl,6,6,6]
   . intro n hn;let%[u,_|1]:=List.mem_map.mp hn;omega
   . rw[sc];omega
   . rw [sc];erw[2,6];let e:(1:Int)+(jk t.parts:Int)=(t.size:Int):=#[0]
     show Q (.int (1+(jk t.parts:Int))) H2;rw[e];exact q H2 (S1.trans S2)
def Ca:#[2,f,fd,WB,spSize 0]:=by
 let no:∀vs H Q E,¬ spSize 0 vs H Q E:=λvs H Q E h=>by
  erw[v,t,_,_,_,h1,_]at h
  have:=t.depth_pos
  omega
 exists 3
def sS(F:#["size_of",lI])(B:Bl mg)(m:mg "size_of"=some (.ref f))(a7:#[1,"trees_within",WB,spWithin]):
 ∀n:Nat,#[n+2,f,fd,WB,spSize n]
 |0=>Ca
 |n+1=>Cb F B a7 (Cal.of F (sS F B m a7 n) m (λ_ _ _ _ _ _ us hl=>by let%[u0|1]:=FV hl;rfl))
abbrev vS:Stmt:=bn dz 0
abbrev sy:Stmt:=bn dz 1
abbrev zC:Stmt:=bn dz 2
abbrev vT:Stmt:=bn dz 4
abbrev vR:Stmt:=bn dz 5
abbrev pP:Stmt:=bn dz 6
abbrev sB:Stmt:=bn dz 7
abbrev zB:Stmt:=bn dz 8
abbrev ED:Stmt:=bn dz 9
abbrev sA:Stmt:=bn dz 10
def dl(g aA aC:Addr)(s:Int)(aH aT:Addr)(ed pl:Int):List (Str×V):=[("game",.ref g),("awaited",.ref aA),("claims",.ref aC),("s",.int s),("heard",.ref aH),("tossed",.ref aT),("held",.int ed),("places",.int pl)]
section
variable {g aA aC aH aT:Addr}{s ed pl:Int}
def jx:(dl g aA aC s aH aT ed pl).lookup ("game":Str)=some (.ref g):=by rfl'
def GO:(dl g aA aC s aH aT ed pl).lookup ("awaited":Str)=some (.ref aA):=by rfl'
def Lg:(dl g aA aC s aH aT ed pl).lookup ("claims":Str)=some (.ref aC):=by rfl'
def Lb:(dl g aA aC s aH aT ed pl).lookup ("s":Str)=some (.int s):=by rfl'
def Le:(dl g aA aC s aH aT ed pl).lookup ("heard":Str)=some (.ref aH):=by rfl'
def Ar:(dl g aA aC s aH aT ed pl).lookup ("tossed":Str)=some (.ref aT):=by rfl'
def Bx:(dl g aA aC s aH aT ed pl).lookup ("held":Str)=some (.int ed):=by rfl'
def Bw:(dl g aA aC s aH aT ed pl).lookup ("places":Str)=some (.int pl):=by rfl'
def qJ:(dl g aA aC s aH aT ed pl).lookup ("waits":Str)=none:=by rfl'
def dl_n2:(dl g aA aC s aH aT ed pl).lookup ("due":Str)=none:=by rfl'
def dl_n4:(dl g aA aC s aH aT ed pl).lookup ("hear":Str)=none:=by rfl'
def JK:(dl g aA aC s aH aT ed pl).lookup ("toss":Str)=none:=by rfl'
def dl_n6:(dl g aA aC s aH aT ed pl).lookup ("hear_claims":Str)=none:=by rfl'
def JJ:(dl g aA aC s aH aT ed pl).lookup ("begin_rounds":Str)=none:=by rfl'
def dl_n8:(dl g aA aC s aH aT ed pl).lookup ("hear_row":Str)=none:=by rfl'
def GN:(dl g aA aC s aH aT ed pl).lookup ("go_on":Str)=none:=by rfl'
def Ld:(dl g aA aC s aH aT ed pl).lookup ("look_at_trees":Str)=none:=by rfl'
def sF{v:Addr}:bJ "awaited" (.ref v) (dl g aA aC s aH aT ed pl)=dl g v aC s aH aT ed pl:=by rfl'
def Jx{v:Addr}:bJ "claims" (.ref v) (dl g aA aC s aH aT ed pl)=dl g aA v s aH aT ed pl:=by rfl'
def Jv{v:Int}:bJ "s" (.int v) (dl g aA aC s aH aT ed pl)=dl g aA aC v aH aT ed pl:=by rfl'
def Jw{v:Addr}:bJ "heard" (.ref v) (dl g aA aC s aH aT ed pl)=dl g aA aC s v aT ed pl:=by rfl'
def EN{v:Addr}:bJ "tossed" (.ref v) (dl g aA aC s aH aT ed pl)=dl g aA aC s aH v ed pl:=by rfl'
def zE{v:Int}:bJ "held" (.int v) (dl g aA aC s aH aT ed pl)=dl g aA aC s aH aT v pl:=by rfl'
def wb{v:Int}:bJ "places" (.int v) (dl g aA aC s aH aT ed pl)=dl g aA aC s aH aT ed v:=by rfl'
def cP:(dl g aA aC s aH aT ed pl).length<1000:=by show 8<1000;decide
end
structure DTxt(K:W.Frag)(mg:#[9])(C:Addr):Prop where
 cl:Cls K C
 nG:NoAttr K C "game"
 nA:NoAttr K C "awaited"
 nC:NoAttr K C "claims"
 nS:NoAttr K C "s"
 nH:NoAttr K C "heard"
 nT:NoAttr K C "tossed"
 nE:NoAttr K C "held"
 nP:NoAttr K C "places"
 mgC:mg "Doubter"=some (.ref C)
structure Db where
 aw:Str×Option Int
 cl:List Int
 s:Int
 he:List Int
 to:List Int
 ed:Int
 pl:Int
def awV(a:Str×Option Int):List V:=match a.2 with
 |none=>[.str a.1]
 |some n=>[.str a.1,.int n]
structure DbR(C:Addr)(H:Hp)(D g:Addr)(z:Db)(dx aA aC aH aT:Addr):Prop where
 hD:H D=some (.ins C dx (dl g aA aC z.s aH aT z.ed z.pl))
 hA:H aA=some (.tup (awV z.aw))
 hC:H aC=some (.tup (z.cl.map V.int))
 hH:H aH=some (.tup (z.he.map V.int))
 hT:H aT=some (.tup (z.to.map V.int))
def DbR.same(h:DbR C H D g z dx aA aC aH aT)(s:Same H H'):DbR C H' D g z dx aA aC aH aT:=%[s _ _ h.hD,s _ _ h.hA,s _ _ h.hC,s _ _ h.hH|s _ _ h.hT]
def DbR.set{C:Addr}{H:Hp}{D g:Addr}{z:Db}{dx aA aC aH aT C' dx':Addr}{fs:List (Str×V)}(hD:H D=some (.ins C' dx' fs))(hA:H aA=some (.tup (awV z.aw)))(hC:H aC=some (.tup (z.cl.map V.int)))(hH:H aH=some (.tup (z.he.map V.int)))(hT:H aT=some (.tup (z.to.map V.int))):
 DbR C (upd H D (.ins C dx (dl g aA aC z.s aH aT z.ed z.pl))) D g z dx aA aC aH aT:=by
 erw[ah,6,6,6,6]
 . rw[aD (bt hA hD nofun)];exact hA
 . rw[aD (bt hC hD nofun)];exact hC
 . rw[aD (bt hH hD nofun)];exact hH
 . rw[aD (bt hT hD nofun)];exact hT
def DbAt(C:Addr)(H:Hp)(D g:Addr)(z:Db):Prop:=∃dx aA aC aH aT,DbR C H D g z dx aA aC aH aT
def DbAt.same(h:DbAt C H D g z)(s:Same H H'):DbAt C H' D g z:=by
 erw[_,_,_,_,_,r]at h;erw[_,_,_,_,_,r.same s]
def Gm(CG:Addr)(H:Hp)(g:Addr)(ns:List Str)(ts:List Tr)(p:Int):Prop:=∃(a b d:Addr)(tv:List V),GameAt CG H g a b d p/\H a=some (.tup (ns.map V.str))/\H b=some (.tup tv)/\TreesAt H tv ts/\H d=some (.lst ((ns.map (bm ts)).map V.int))
def Gm.same(h:Gm CG H g ns ts p)(s:Same H H'):Gm CG H' g ns ts p:=by
 erw[a,b,d,tv,h1,h2,h3,h4,h5]at h;erw[a,b,d,tv,h1.same s,s _ _ h2,s _ _ h3,h4.mono (aY s),s _ _ h5]
def IX(a b:Addr)(p:Int)(d:Addr):(gf a b p d).lookup ("game":Str)=none:=qH _ _ _ _ ⋯ ⋯ ⋯ ⋯
def Gm.ne{C:Addr}{D:Addr}{dx:Addr}{fs:List (Str×V)}{v:V}(h:Gm CG H g ns ts p)(hD:H D=some (.ins C dx fs))(hg:fs.lookup ("game":Str)=some v):g≠D:=λz=>by
 erw[a,b,d,tv,%[dx'|e],_]at h;rw[z,hD]at e;cases e;rw[IX]at hg;cases hg
def Gm.but{C:Addr}{D:Addr}{dx:Addr}{fs:List (Str×V)}(h:Gm CG H g ns ts p)(hD:H D=some (.ins C dx fs))(hg:g≠D)(s:SameBut D H H'):Gm CG H' g ns ts p:=by
 erw[a,b,d,tv,%[dx'|e],h2,h3,h4,h5]at h;erw[a,b,d,tv,%[dx'|s _ _ hg e],s _ _ (bt h2 hD nofun) h2,s _ _ (bt h3 hD nofun) h3,h4.mono (λc xs hc=>s _ _ (bt hc hD nofun) hc),s _ _ (bt h5 hD nofun) h5]
structure GmK(ns:List Str)(ts:List Tr)(p:Int):Prop where
 pr:Pr p
 p2:2<p
 p9:p<=999983
 n10:ns.length<=10
 t1:1<=ts.length
 t10:ts.length<=10
 tok:∀t∈ts,t.ok ns/\t.wf/\t.depth<=10/\t.size<=400
 tp:(ts.length:Int)<=p
 tc:∀t∈ts,∀x∈ns,(t.names.count x:Int)<p
def GmK.deg(k:GmK ns ts p):∀x∈ns,0<=bm ts x/\bm ts x<p:=λx hx=>by
 let t0:ts≠[]:=λz=>by have:=k.t1;rw[z]at this;cases this
 erw[6,oZ t0 λt ht=>k.tc t ht x hx]
 have:=lr (ns:=ts.map λt=>(t.names.count x:Int)) #[t0,0]
 let%[t,_|e]:=List.mem_map.mp this;unfold bm;rw[←e];omega
def szs(ts:List Tr):Int:=(ts.map λt=>(t.size:Int)).sum
def eK(ns:List Str)(ts:List Tr)(p:Int)(z:Db):Db:=
 { z with pl:=z.pl+szs ts,aw:=if z.ed=hor z.s p (ts.map λt=>t.worth ns z.to p)then("believed",none)else("caught",some ((z.to.length:Int)+1)) }
def goOn(ns:List Str)(ts:List Tr)(p:Int)(z:Db):Db:=
 if z.to.length<ns.length then { z with aw:=("hear",some (bm ts (ns.getD z.to.length "")+1)) }else eK ns ts p z
def yK(ns:List Str)(ts:List Tr)(p s:Int)(z:Db):Db:=goOn ns ts p { z with s:=s,ed:=hor s p z.cl }
def jr(ns:List Str)(ts:List Tr)(p:Int)(xs:List Int)(z:Db):Db:=
 if ts.length=1 then yK ns ts p 0 { z with cl:=xs }else { z with cl:=xs,aw:=("coin",none) }
def dC(p:Int)(xs:List Int)(z:Db):Db:=
 { z with he:=xs,aw:=if(val p xs 0+val p xs 1) % p=z.ed then("coin",none)else("caught",some ((z.to.length:Int)+1)) }
def cU(ns:List Str)(ts:List Tr)(p:Int)(xs:List Int)(z:Db):Db:=
 if z.cl=[]then jr ns ts p xs { z with pl:=z.pl+(xs.length:Int) }else dC p xs { z with pl:=z.pl+(xs.length:Int) }
def dy(ns:List Str)(ts:List Tr)(p r:Int)(z:Db):Db:=
 if z.he=[]then yK ns ts p r { z with pl:=z.pl+1 }else goOn ns ts p { z with pl:=z.pl+1,ed:=val p z.he r,to:=z.to++[r] }
def Db.new(ts:List Tr):Db:=%[("hear",some (ts.length:Int)),[],(0),[],[],(0)|(0)]
instance spIsNum:∀n p:Int,vs=[.int n,.int p]->Q (.bl (decide (0<=n)&&decide (n<p))) H:=1
def vz:FnScope Wd Wd (aj kQ):=%[|5]
def wv(F:#["is_number",kQ])(B:Bl mg):#[1,f,fd,Wd,spIsNum]:=by
 exists vz
 erw[n,p,1,q]at h;erw[_,(af (am (nI (aG dG rfl B.isinstance zO1 %[0,iR (v:=V.ty "int") rfl B.int ma rfl|ae]) (nI (wg (aG dG rfl B.isinstance zO1 %[0,iR (v:=V.ty "bool") rfl B.bool ub rfl|ae])) (nv (EW uR gq ag (pv 0) (pv 1))))))),6];erw[0,_,_,"int",true,1,TyOf.int _,jq _ _,true,1,du ?_];erw[0,_,_,"bool",false,1,TyOf.int _,oS _,false,1,true,1,du ?_];erw[0,2,0,6]
 by_cases c:0<=n
 . rw[zC1 c]at q;apply aW c %[0,2|6];exact q
 . rw[zB1 c]at q;apply aE c ?_;exact q
instance spAllSz(C:Addr):∀(g:Addr)(ns:List Str)(ts:List Tr)(p:Int),vs=[.ref g]->Gm C H g ns ts p->GmK ns ts p->(∀H',Same H H'->Q (.int (szs ts)) H'):=1
def vG:FnScope WC WC (aj lh):=%[|5]
def HN{ts:List Tr}(h:∀t∈ts,t.size<=400)(hl:ts.length<=10):0<=szs ts/\szs ts<=4000:=by
 have:∀l:List Tr,(∀t∈l,t.size<=400)->0<=szs l/\szs l<=400*(l.length:Int):=λl=>by
  induction l with
  |nil=>intro _;erw[qH1 _,qH1 _]
  |cons t r ih=>
    intro hh;let h1:=ih λu hu=>hh u (qK0 _ hu)
    let h2:=hh t (qA0 ..);let e:szs (t::r)=(t.size:Int)+szs r:=by unfold szs;rw[zZ0,zV1]
    rw[e,zR0];omega
 have:=this ts h
 omega
def wD(F:#["all_sizes",lh])(B:Bl mg)(T:GTxt K mg C)(i4:#[12,"size_of",WB,spSize 10]):#[13,f,fd,WC,spAllSz C]:=by
 exists vG
 erw[g,ns,ts,p,1,%[a,b,d,tv,%[dx|hg],ha,hb,TS|hd],k,q]at h;refine⟨_,(af (am (aG (tZ rfl) rfl B.sum wJ1 (aa (cf (N:=[]) (ix:=[]) (cl:=[]) rfl #[5] rfl
  (fh (az (pv 0) rfl)) (λ_ _ _=>cg (ax i4 hr ⋯ rfl %[0|ae]))) ae)))),?_⟩
 let vl:=TS.length;erw[0,g,C,dx,_,0,hg,9,T.nT,my ..,b,1,%[_|zC0 hb],λD hD=>?_];apply eN (K:=K) (xs:=tv) (λi H'=>H' D=some (.lst (((ts.take i).map λt=>(t.size:Int)).map V.int))/\Same H H') %[by rw[ah];rfl|zE0 hD _] (λi H' _ h=>zC0 (h.2 _ _ hb)) ?_ ?_
 . rintro i x H2 hx ⟨hl,S2⟩;let%[u,hu|Tu]:=TS.get hx;let%[_,uw,ud|us]:=k.tok u (qF0 hu);let hi:i<tv.length:=(Pj hx).1
   have:=k.t10
   erw[0,x,u,1,Tu.mono (aY S2),uw,ud,us,λH3 S3=>?_];erw[_,S3 _ _ hl,6,Nx.of hi %[6|λb o e=>?_]]
   . rw[zF0,zF0,qI0];exact aN #[0]
   . rw[ah,qC0,hu,zK0,zK0];rfl
   . rw[aD (aO e hD)];exact S3 _ _ (S2 _ _ e)
 . rintro H2 ⟨hl,S2⟩;rw[vl,qB0]at hl;let sr:=HN (λt ht=>(k.tok t ht).2.2.2) k.t10;erw[D,0,zG0 hl,6,6,6]
   . intro n hn;let%[u,hu|1]:=List.mem_map.mp hn
     have:=(k.tok u hu).2.2.2
     omega
   . let e:((ts.map λt=>(t.size:Int)).sum)=szs ts:=rfl;rw[e];omega
   . exact q H2 S2
section
variable {C CG:Addr}
instance spTrees(C CG:Addr):∀(D g:Addr)(z:Db)(ns:List Str)(ts:List Tr)(p:Int),vs=[.ref D]->DbAt C H D g z->Gm CG H g ns ts p->GmK ns ts p->z.to.length=ns.length->bY z.to p->(∀H',SameBut D H H'->DbAt C H' D g (eK ns ts p z)->Q .non H'):=1
def Ci:FnScope WA WA (aj sA):=%[|5]
def CF(F:#["look_at_trees","Doubter.look_at_trees",sA])(B:Bl mg)(T:DTxt K mg C)(TG:GTxt K mg CG)(mW:Meth K CG "worth_at" fW)(GW:#[13,fW,fdW,WO,spWAt CG])(bW:Binds K fdW WO [])
 (mr:#[13,"all_sizes",WC,spAllSz CG]):#[14,f,fd,WA,spTrees C CG]:=by
 exists Ci
 erw[D,g,z,ns,ts,p,1,%[dx,aA,aC,aH,aT|R],G,k,tl,po,q]at h;let hr13:Room 13 _:=hr;refine⟨_,(ad (aR (pv 0) (au aV (az (pv 0) rfl) (ax mr hr ⋯ rfl %[az (pv 0) rfl|ae])) rfl)
  (af (aJ (ai aQ (az (pv 0) rfl) (bK (az (pv 0) rfl) TG.cl mW GW hr13 bW .nil aZ %[az (pv 0) rfl,az (pv 0) rfl|ae]) (ay _))
   (af (aR (pv 0) (aS %[aF|ae]) rfl))
   (af (aR (pv 0) (aS %[aF,au aV (aG aI rfl B.len zD1 %[az (pv 0) rfl|ae]) ag|ae]) rfl))))),?_⟩
 let gD:=G.ne R.hD jx;erw[0,D,C,dx,_,0,R.hD,9,T.nP,Bw,0,D,C,dx,_,0,R.hD,9,T.nG,jx,g,ns,ts,p,1,G,k,λH1 S1=>?_];let R1:=R.same S1;erw[2,0,D,C,dx,0,R1.hD,9,T.nP,cP,6];rw[wb];let S2:SameBut D H1 (upd H1 D (.ins C dx (dl g aA aC z.s aH aT z.ed (z.pl+szs ts)))):=SameBut.upd _;let R2:DbR C (upd H1 D (.ins C dx (dl g aA aC z.s aH aT z.ed (z.pl+szs ts)))) D g { z with pl:=z.pl+szs ts } dx aA aC aH aT:=DbR.set (z:={ z with pl:=z.pl+szs ts }) R1.hD R1.hA R1.hC R1.hH R1.hT;let G2:=(G.same S1).but R1.hD gD S2;generalize upd H1 D (.ins C dx (dl g aA aC z.s aH aT z.ed (z.pl+szs ts)))=H2 at S2 R2 G2;let G2':=G2;erw[a,b,d,tv,GA,ha,hb,TS,hd]at G2';erw[dg,hg]at GA;let p2:=k.p2;let p9:=k.p9;erw[0,D,C,dx,_,0,R2.hD,T.cl,T.nE,Bx,0,D,C,dx,_,0,R2.hD,T.cl,T.nG,jx,g,dg,0,hg,qH _ _ _ _ ⋯ ⋯ ⋯ ⋯,0,D,C,dx,_,0,R2.hD,9,T.nT,Ar,0,D,C,dx,_,0,R2.hD,9,T.nS,Lb,6];erw[g,a,b,d,aT,ns,tv,ts,z.to,z.s,p,1,%[dg|hg],3,3,ha,hb,TS,k.t10,λt ht=>%[(k.tok t ht).1|(k.tok t ht).2.2.1],R2.hT,tl,po,λH3 S3=>?_];let R3:=R2.same S3;let S03:SameBut D H H3:=(zM0 S1).trans (S2.trans (zM0 S3));erw[1,0,6]
 by_cases c:z.ed=hor z.s p (ts.map λt=>t.worth ns z.to p)
 . apply aW (congrArg V.int c) ?_;erw[y1S,λt ht=>?_];let I:=zE0 ht (.tup [.str "believed"]);let R4:=R3.same I;erw[0,D,C,dx,0,R4.hD,9,T.nA,cP,6];rw[sF];let e:eK ns ts p z={ z with pl:=z.pl+szs ts,aw:=("believed",none) }:=by
    unfold eK;rw[O9 c]
   apply q _ (S03.trans ((zM0 I).trans (SameBut.upd _))) ?_;rw[e];erw[dx,t,aC,aH,aT,DbR.set (z:={ z with pl:=z.pl+szs ts,aw:=("believed",none) }) R4.hD ah R4.hC R4.hH R4.hT]
 . apply aE (λe=>c (V.int.inj e)) ?_;erw[0,D,C,dx,_,0,R3.hD,9,T.nT,Ar,aT,0,.inr (zC0 R3.hT),2,y2S,λt ht=>?_];let I:=zE0 ht (.tup [.str "caught",.int (((z.to.map V.int).length:Int)+1)]);let R4:=R3.same I;erw[0,D,C,dx,0,R4.hD,9,T.nA,cP,6];rw[sF];let e:eK ns ts p z={ z with pl:=z.pl+szs ts,aw:=("caught",some ((z.to.length:Int)+1)) }:=by
    unfold eK;rw[O8 c]
   apply q _ (S03.trans ((zM0 I).trans (SameBut.upd _))) ?_;rw[e];erw[dx,t,aC,aH,aT,DbR.set (z:={ z with pl:=z.pl+szs ts,aw:=("caught",some ((z.to.length:Int)+1)) }) R4.hD ?_ R4.hC R4.hH R4.hT];rw[ah,zF0];rfl
def oT{xs:List Int}{j:Nat}(h:j<xs.length):atI (xs.map V.int) (j:Int)=some (.int (xs.getD j 0)):=cu (by rw[zY0,zL0 h,qJ0,zL0 h];rfl)
def Ja{ns:List Str}{j:Nat}(h:j<ns.length):(ns.map (bm ts)).getD j 0=bm ts (ns.getD j ""):=by
 rw[qJ0,zY0,qJ0,zL0 h];rfl
instance spGo(C CG:Addr):∀(D g:Addr)(z:Db)(ns:List Str)(ts:List Tr)(p:Int),vs=[.ref D]->DbAt C H D g z->Gm CG H g ns ts p->GmK ns ts p->z.to.length<=ns.length->bY z.to p->(∀H',SameBut D H H'->DbAt C H' D g (goOn ns ts p z)->Q .non H'):=1
def ML:FnScope ["self","done"] WA (aj ED):=%[|5]
def Kz(F:#["go_on","Doubter.go_on",ED])(B:Bl mg)(T:DTxt K mg C)(TG:GTxt K mg CG)(mT:Meth K C "look_at_trees" fT)(GT:#[14,fT,fdT,WA,spTrees C CG])(bT:Binds K fdT WA []):#[15,f,fd,WA,spGo C CG]:=by
 exists ML
 erw[D,g,z,ns,ts,p,1,%[dx,aA,aC,aH,aT|R],G,k,tl,po,q]at h;refine⟨_,(ad #[ao,1,ML,aG aI rfl B.len zD1 %[az (pv 0) rfl|ae]]
  (af (aJ (ai gq (pv 1) (aG aI rfl B.len zD1 %[az (az (pv 0) rfl) rfl|ae]) (ay _))
   (af (aR (pv 0) (aS %[aF,au aV (aM ix_list (az (az (pv 0) rfl) rfl) (pv 1) #[1]) ag|ae]) rfl))
   (af (bb (bz (pv 0) T.cl mT GT hr bT .nil aZ)))))),?_⟩
 let G':=G;erw[a,b,d,tv,%[dg|hg],ha,hb,TS,hd]at G';erw[0,D,C,dx,_,0,R.hD,9,T.nT,Ar,aT,0,.inr (zC0 R.hT),6];erw[0,0,D,C,dx,_,0,R.hD,9,T.nG,jx,g,CG,dg,_,0,hg,TG.cl,TG.nS,oW ..,a,0,.inr (zC0 ha),2,0,6]
 by_cases c:z.to.length<ns.length
 . apply aW (by rw[zF0,zF0];omega) ?_;let ej:((z.to.map V.int).length:Int)=(z.to.length:Int):=by rw[zF0]
   let hx:ns.getD z.to.length ""∈ns:=by
    rw[qJ0,zL0 c];exact qP0 c
   let dr:=k.deg _ hx;erw[0,D,C,dx,_,0,R.hD,9,T.nG,jx,g,CG,dg,_,0,hg,TG.cl,TG.nD,Bi ..,0,d,_,2,zG0 hd,by rw[ej];exact oT (by rw[zF0];exact c),2,y2S,λt ht=>?_];rw[Ja c]at *
   let I:=zE0 ht (.tup [.str "hear",.int (bm ts (ns.getD z.to.length "")+1)]);let R4:=R.same I;erw[0,D,C,dx,0,R4.hD,9,T.nA,cP,6];rw[sF];let e:goOn ns ts p z={ z with aw:=("hear",some (bm ts (ns.getD z.to.length "")+1)) }:=by
    unfold goOn;rw[O9 c]
   apply q _ ((zM0 I).trans (SameBut.upd _)) ?_;rw[e];erw[dx,t,aC,aH,aT,DbR.set (z:={ z with aw:=("hear",some (bm ts (ns.getD z.to.length "")+1)) }) R4.hD ah R4.hC R4.hH R4.hT]
 . apply aE (by rw[zF0,zF0];omega) ?_;let e:goOn ns ts p z=eK ns ts p z:=by
    unfold goOn;rw[O8 c]
   rw[e]at q;erw[0,D,dx,0,R.hD,Ld,6];erw[D,g,z,ns,ts,p,1,%[dx,aA,aC,aH,aT|R],G,k,3,po,q]
instance spBeg(C CG:Addr):∀(D g:Addr)(z:Db)(s:Int)(ns:List Str)(ts:List Tr)(p:Int),vs=[.ref D,.int s]->DbAt C H D g z->Gm CG H g ns ts p->GmK ns ts p->z.to.length<=ns.length->bY z.to p->(∀H',SameBut D H H'->DbAt C H' D g (yK ns ts p s z)->Q .non H'):=1
def Cj:FnScope WP WP (aj sB):=%[|5]
def CI(F:#["begin_rounds","Doubter.begin_rounds",sB])(T:DTxt K mg C)(TG:GTxt K mg CG)(mM:Meth K CG "mix" fM)(GM:#[1,fM,fdM,WM,spMix CG])(bM:Binds K fdM WM [])
 (mG:Meth K C "go_on" fG)(GG:#[15,fG,fdG,WA,spGo C CG])(bG:Binds K fdG WA []):#[16,f,fd,WP,spBeg C CG]:=by
 exists Cj
 erw[D,g,z,s,ns,ts,p,1,%[dx,aA,aC,aH,aT|R],G,k,tl,po,q]at h;let hr1:Room 1 _:=hr.mono ⋯;refine⟨_,(ad (aR (pv 0) (pv 1) rfl)
  (ad (aR (pv 0) (bK (az (pv 0) rfl) TG.cl mM GM hr1 bM .nil aZ %[az (pv 0) rfl,1|ae]) rfl)
  (af (bb (bz (pv 0) T.cl mG GG hr bG .nil aZ))))),?_⟩
 let gD:=G.ne R.hD jx;let p2:=k.p2;let p9:=k.p9;erw[0,0,D,C,dx,0,R.hD,9,T.nS,cP,6];rw[Jv];let S1:SameBut D H (upd H D (.ins C dx (dl g aA aC s aH aT z.ed z.pl))):=SameBut.upd _;let R1:DbR C (upd H D (.ins C dx (dl g aA aC s aH aT z.ed z.pl))) D g { z with s:=s } dx aA aC aH aT:=DbR.set (z:={ z with s:=s }) R.hD R.hA R.hC R.hH R.hT;let G1:=G.but R.hD gD S1;generalize upd H D (.ins C dx (dl g aA aC s aH aT z.ed z.pl))=H1 at S1 R1 G1;let G1':=G1;erw[a,b,d,tv,%[dg|hg],ha,hb,TS,hd]at G1';erw[0,D,C,dx,_,0,R1.hD,9,T.nG,jx,g,dg,0,hg,qH _ _ _ _ ⋯ ⋯ ⋯ ⋯,0,D,C,dx,_,0,R1.hD,9,T.nC,Lg,0,6];erw[g,a,b,d,aC,z.cl,s,p,1,%[dg|hg],3,3,.inr R1.hC,6];erw[0,D,C,dx,0,R1.hD,9,T.nE,cP,6];rw[zE];let S2:SameBut D H1 (upd H1 D (.ins C dx (dl g aA aC s aH aT (hor s p z.cl) z.pl))):=SameBut.upd _;let R2:DbR C (upd H1 D (.ins C dx (dl g aA aC s aH aT (hor s p z.cl) z.pl))) D g { z with s:=s,ed:=hor s p z.cl } dx aA aC aH aT:=DbR.set (z:={ z with s:=s,ed:=hor s p z.cl }) R1.hD R1.hA R1.hC R1.hH R1.hT;let G2:=G1.but R1.hD gD S2;generalize upd H1 D (.ins C dx (dl g aA aC s aH aT (hor s p z.cl) z.pl))=H2 at S2 R2 G2;erw[0,D,dx,0,R2.hD,GN,6];erw[D,g,_,ns,ts,p,1,%[dx,aA,aC,aH,aT|R2],G2,k,tl,po,λH3 S3 D3=>q H3 (S1.trans (S2.trans S3)) D3]
instance spClaims(C CG:Addr):∀(D g l:Addr)(z:Db)(xs:List Int)(ns:List Str)(ts:List Tr)(p:Int),vs=[.ref D,.ref l]->DbAt C H D g z->Gm CG H g ns ts p->GmK ns ts p->H l=some (.tup (xs.map V.int))->z.to.length<=ns.length->bY z.to p->(∀H',SameBut D H H'->DbAt C H' D g (jr ns ts p xs z)->Q .non H'):=1
def zw:FnScope WF WF (aj pP):=%[|5]
def zT(F:#["hear_claims","Doubter.hear_claims",pP])(B:Bl mg)(T:DTxt K mg C)(TG:GTxt K mg CG)(mB:Meth K C "begin_rounds" fB)(GB:#[16,fB,fdB,WP,spBeg C CG])(bB:Binds K fdB WP []):#[17,f,fd,WF,spClaims C CG]:=by
 exists zw
 erw[D,g,l,z,xs,ns,ts,p,1,%[dx,aA,aC,aH,aT|R],G,k,hl,tl,po,q]at h;refine⟨_,(ad (aR (pv 0) (pv 1) rfl)
  (af (aJ (ai aQ (aG aI rfl B.len zD1 %[az (az (pv 0) rfl) rfl|ae]) ag (ay _))
   (af (bb (bK (pv 0) T.cl mB GB hr bB .nil aZ %[ag|ae])))
   (af (aR (pv 0) (aS %[aF|ae]) rfl))))),?_⟩
 let gD:=G.ne R.hD jx;erw[0,0,D,C,dx,0,R.hD,9,T.nC,cP,6];rw[Jx];let S1:SameBut D H (upd H D (.ins C dx (dl g aA l z.s aH aT z.ed z.pl))):=SameBut.upd _;let R1:DbR C (upd H D (.ins C dx (dl g aA l z.s aH aT z.ed z.pl))) D g { z with cl:=xs } dx aA l aH aT:=DbR.set (z:={ z with cl:=xs }) R.hD R.hA hl R.hH R.hT;let G1:=G.but R.hD gD S1;generalize upd H D (.ins C dx (dl g aA l z.s aH aT z.ed z.pl))=H1 at S1 R1 G1;let G1':=G1;erw[a,b,d,tv,%[dg|hg],ha,hb,TS,hd]at G1';let vl:=TS.length;erw[0,D,C,dx,_,0,R1.hD,9,T.nG,jx,g,CG,dg,_,0,hg,TG.cl,TG.nT,my ..,b,0,.inr (zC0 hb),1,0,6]
 by_cases c:ts.length=1
 . apply aW (congrArg V.int #[0]) ?_;let e:jr ns ts p xs z=yK ns ts p 0 { z with cl:=xs }:=by
    unfold jr;rw[O9 c]
   rw[e]at q;erw[0,D,dx,0,R1.hD,JJ,6];erw[D,g,_,(0),ns,ts,p,1,%[dx,aA,l,aH,aT|R1],G1,k,tl,po,λH3 S3 D3=>q H3 (S1.trans S3) D3]
 . apply aE (λe=>c (by have:=V.int.inj e;omega)) ?_;let e:jr ns ts p xs z={ z with cl:=xs,aw:=("coin",none) }:=by
    unfold jr;rw[O8 c]
   erw[y1S,λt ht=>?_];let I:=zE0 ht (.tup [.str "coin"]);let R4:=R1.same I;erw[0,D,C,dx,0,R4.hD,9,T.nA,cP,6];rw[sF];apply q _ (S1.trans ((zM0 I).trans (SameBut.upd _))) ?_;rw[e];erw[dx,t,l,aH,aT,DbR.set (z:={ z with cl:=xs,aw:=("coin",none) }) R4.hD ah R4.hC R4.hH R4.hT]
instance spHRow(C CG:Addr):∀(D g l:Addr)(z:Db)(xs:List Int)(ns:List Str)(ts:List Tr)(p:Int),vs=[.ref D,.ref l]->DbAt C H D g z->Gm CG H g ns ts p->GmK ns ts p->H l=some (.tup (xs.map V.int))->mJ xs p->(∀H',SameBut D H H'->DbAt C H' D g (dC p xs z)->Q .non H'):=1
def Ie:FnScope WF WF (aj zB):=%[|5]
def IA(F:#["hear_row","Doubter.hear_row",zB])(B:Bl mg)(T:DTxt K mg C)(TG:GTxt K mg CG)(mv:#[5,"both_ends",["values","p"],spEnds]):#[6,f,fd,WF,spHRow C CG]:=by
 exists Ie
 erw[D,g,l,z,xs,ns,ts,p,1,%[dx,aA,aC,aH,aT|R],G,k,hl,ro,q]at h;refine⟨_,(ad (aR (pv 0) (pv 1) rfl)
  (af (aJ (ai aQ (ax mv hr ⋯ rfl %[1,az (az (pv 0) rfl) rfl|ae]) (az (pv 0) rfl) (ay _))
   (af (aR (pv 0) (aS %[aF|ae]) rfl))
   (af (aR (pv 0) (aS %[aF,au aV (aG aI rfl B.len zD1 %[az (pv 0) rfl|ae]) ag|ae]) rfl))))),?_⟩
 let gD:=G.ne R.hD jx;erw[0,0,D,C,dx,0,R.hD,9,T.nH,cP,6];rw[Jw];let S1:SameBut D H (upd H D (.ins C dx (dl g aA aC z.s l aT z.ed z.pl))):=SameBut.upd _;let R1:DbR C (upd H D (.ins C dx (dl g aA aC z.s l aT z.ed z.pl))) D g { z with he:=xs } dx aA aC l aT:=DbR.set (z:={ z with he:=xs }) R.hD R.hA R.hC hl R.hT;let G1:=G.but R.hD gD S1;generalize upd H D (.ins C dx (dl g aA aC z.s l aT z.ed z.pl))=H1 at S1 R1 G1;let G1':=G1;erw[a,b,d,tv,%[dg|hg],ha,hb,TS,hd]at G1';erw[0,0,D,C,dx,_,0,R1.hD,9,T.nG,jx,g,CG,dg,_,0,hg,TG.cl,TG.nF,eZ ..,l,xs,p,1,.inr R1.hH,ro,k.pr,k.p9,λH2 S2=>?_];let R2:=R1.same S2;erw[0,D,C,dx,_,0,R2.hD,9,T.nE,Bx,1,0,6];let S02:SameBut D H H2:=S1.trans (zM0 S2)
 by_cases c:(val p xs 0+val p xs 1) % p=z.ed
 . apply aW (congrArg V.int c) ?_;let e:dC p xs z={ z with he:=xs,aw:=("coin",none) }:=by
    unfold dC;rw[O9 c]
   erw[y1S,λt ht=>?_];let I:=zE0 ht (.tup [.str "coin"]);let R4:=R2.same I;erw[0,D,C,dx,0,R4.hD,9,T.nA,cP,6];rw[sF];apply q _ (S02.trans ((zM0 I).trans (SameBut.upd _))) ?_;rw[e];erw[dx,t,aC,l,aT,DbR.set (z:={ z with he:=xs,aw:=("coin",none) }) R4.hD ah R4.hC R4.hH R4.hT]
 . apply aE (λe=>c (V.int.inj e)) ?_;let e:dC p xs z={ z with he:=xs,aw:=("caught",some ((z.to.length:Int)+1)) }:=by
    unfold dC;rw[O8 c]
   erw[0,D,C,dx,_,0,R2.hD,9,T.nT,Ar,aT,0,.inr (zC0 R2.hT),2,y2S,λt ht=>?_];let I:=zE0 ht (.tup [.str "caught",.int (((z.to.map V.int).length:Int)+1)]);let R4:=R2.same I;erw[0,D,C,dx,0,R4.hD,9,T.nA,cP,6];rw[sF];apply q _ (S02.trans ((zM0 I).trans (SameBut.upd _))) ?_;rw[e];erw[dx,t,aC,l,aT,DbR.set (z:={ z with he:=xs,aw:=("caught",some ((z.to.length:Int)+1)) }) R4.hD ?_ R4.hC R4.hH R4.hT];rw[ah,zF0];rfl
end
section
variable {C CG:Addr}
def lO{K:W.Frag}{H:Hp}{a:Addr}{xs:List Int}(h:H a=some (.tup (xs.map V.int))):Rep K H (.ref a) (.tuple (xs.map PyData.int)):=.tup (zC0 h) (sD xs)
def Bu(xs:List Int):PyData.eqv (.tuple (xs.map PyData.int)) (.tuple [])=decide (xs=[]):=by
 cases xs with
 |nil=>rfl
 |cons a r=>rfl
def lF(ns:List Int):SeqAt.shaped (.tuple (ns.map PyData.int))=true:=by
 simp [SeqAt.shaped,PyData.canLay0,PyData.depth,W.ke_canLayAll0,W.ke_depthAll]
instance spHear(C CG:Addr):∀(D g l:Addr) (z:Db) (xs:List Int) (ns:List Str) (ts:List Tr) (p:Int),vs=[.ref D,.ref l]->DbAt C H D g z->Gm CG H g ns ts p->GmK ns ts p->H l=some (.lst (xs.map V.int))->z.aw=(("hear":Str),some (xs.length:Int))->bY xs p->xs.length<=500->(z.cl≠[]->mJ xs p)->z.to.length<=ns.length->bY z.to p->(∀H',SameBut D H H'->DbAt C H' D g (cU ns ts p xs z)->Q .non H'):=1
def EA:FnScope WF WF (aj vT):=%[|5]
def Fp(F:#["hear","Doubter.hear",vT])(B:Bl mg)(T:DTxt K mg C)(TG:GTxt K mg CG)(fX:#[1,"is_number",Wd,spIsNum])
 (mC:Meth K C "hear_claims" fC)(GC:#[17,fC,fdC,WF,spClaims C CG])(bC:Binds K fdC WF [])
 (mR:Meth K C "hear_row" fR)(GR:#[6,fR,fdR,WF,spHRow C CG])(bR:Binds K fdR WF []):#[18,f,fd,WF,spHear C CG]:=by
 exists EA
 erw[D,g,l,z,xs,ns,ts,p,1,%[dx,aA,aC,aH,aT|R],G,k,hl,ea,xo,xl,ro,tl,po,q]at h;let hr6:Room 6 _:=hr.mono ⋯;refine⟨_,(ad (aJ (ai lq (aM ix_tup (az (pv 0) rfl) ag #[1]) aF (ay _)) bq aB)
  (ad (aJ (ai lq (aG aI rfl B.len zD1 %[1|ae]) (aM ix_tup (az (pv 0) rfl) ag #[1]) (ay _)) bq aB)
  (ad (aJ (hZ (eI (aG (pj rfl) rfl B.all jR1 (aa (cf (N:=WA) (ix:=[0]) rfl
   #[3] rfl
   (dJ (pv 1)) (λ_ _ _=>cg (ax fX hr ⋯ rfl %[0,jY K (jY K (pv 1))|ae]))) ae)))) bq aB)
  (ad (aR (pv 0) (au aV (az (pv 0) rfl) (aG aI rfl B.len zD1 %[1|ae])) rfl)
  (af (aJ (ai (wo hr.units) (az (pv 0) rfl) (aS ae) (ay _))
   (af (bb (bK (pv 0) T.cl mC GC hr bC .nil aZ %[bc bh rfl B.tuple bi %[1|ae]|ae])))
   (af (bb (bK (pv 0) T.cl mR GR hr6 bR .nil aZ %[bc bh rfl B.tuple bi %[1|ae]|ae]))))))))),?_⟩
 let gD:=G.ne R.hD jx;let hA:=R.hA;rw[ea]at hA;let hA:H aA=some (.tup [.str "hear",.int (xs.length:Int)]):=hA;erw[0,D,C,dx,_,0,R.hD,9,T.nA,GO,aA,_,2,zC0 hA,cu (j:=0) rfl,1,0,6];apply yq rfl ?_;erw[0,l,0,.inl (zG0 hl),0,D,C,dx,_,0,R.hD,9,T.nA,GO,aA,_,2,zC0 hA,cu (j:=1) rfl,1,0,6];apply yq (by rw[zF0]) ?_;let G':=G;erw[a,b,d,tv,%[dg|hg],ha,hb,TS,hd]at G';erw[0,l,1,%[_|zG0 hl],λW hW=>?_];apply fc (K:=K) (xs:=xs.map V.int) (λi H'=>H' W=some (.lst ((List.replicate i true).map V.bl))/\Same H H') %[by rw[ah];rfl|zE0 hW _] (λi H' _ h=>zG0 (h.2 _ _ hl)) ?_ ?_
 . rintro i v H2 hv ⟨hW2,S2⟩;let hi:=(Pj hv).1;rw[zY0]at hv;let%[n,hn|1]:=qT0 hv;let nr:=xo n (qF0 hn);erw[0,0,D,C,dx,_,0,S2 _ _ R.hD,9,T.nG,jx,g,CG,dg,_,0,S2 _ _ hg,TG.cl,TG.nF,eZ ..,n,p,1,6];rw[zC1 nr.1,zC1 nr.2];erw[_,hW2,6,Nx.of hi %[6|λb o e=>?_]]
   . rw[zF0,zR1];rw[zF0]at hi;exact aN #[0]
   . rw[ah,List.replicate_succ',zK0];rfl
   . rw[aD (aO e hW)];exact S2 _ _ e
 rintro H1 ⟨hW1,S1⟩;erw[W,0,zG0 hW1,6];let ea:(List.replicate (xs.map V.int).length true).all id=true:=by simp
 rw [ea];erw[0,6];apply cE ?_;let R1:=R.same S1;let G1:=G.same S1;erw[0,D,C,dx,_,0,R1.hD,9,T.nP,Bw,0,l,0,.inl (zG0 (S1 _ _ hl)),2,0,D,C,dx,0,R1.hD,9,T.nP,cP,6];rw[wb,zF0];let S2:SameBut D H1 (upd H1 D (.ins C dx (dl g aA aC z.s aH aT z.ed (z.pl+(xs.length:Int))))):=SameBut.upd _;let R2:DbR C (upd H1 D (.ins C dx (dl g aA aC z.s aH aT z.ed (z.pl+(xs.length:Int))))) D g { z with pl:=z.pl+(xs.length:Int) } dx aA aC aH aT:=DbR.set (z:={ z with pl:=z.pl+(xs.length:Int) }) R1.hD R1.hA R1.hC R1.hH R1.hT;let G2:=G1.but R1.hD gD S2;let hl2:upd H1 D (.ins C dx (dl g aA aC z.s aH aT z.ed (z.pl+(xs.length:Int)))) l=some (.lst (xs.map V.int)):=by
  rw[aD (bt hl R.hD nofun)];exact S1 _ _ hl
 generalize upd H1 D (.ins C dx (dl g aA aC z.s aH aT z.ed (z.pl+(xs.length:Int))))=H2 at S2 R2 G2 hl2;erw[0,D,C,dx,_,0,R2.hD,9,T.nC,Lg,y0S,λu hu=>?_];let I:=zE0 hu (.tup []);let R3:=R2.same I;let hu3:upd H2 u (.tup []) u=some (.tup []):=ah;let hl3:=I _ _ hl2;let G3:=G2.same I;generalize upd H2 u (.tup [])=H3 at I R3 hu3 hl3 G3;let S03:SameBut D H H3:=(zM0 S1).trans (S2.trans (zM0 I));erw[_,_,lO R3.hC,lO (xs:=[]) hu3,lF _,lF [],0,6];rw[show PyData.eqv (.tuple (z.cl.map PyData.int)) (.tuple (([]:List Int).map PyData.int))=decide (z.cl=[])from Bu z.cl]
 by_cases c:z.cl=[]
 . apply aW c ?_;let e:cU ns ts p xs z=jr ns ts p xs { z with pl:=z.pl+(xs.length:Int) }:=by
    unfold cU;rw[O9 c]
   rw[e]at q;erw[0,D,dx,0,R3.hD,dl_n6,6];erw[0,l,0,.inl %[zG0 hl3|λt ht=>?_]];let J:=zE0 ht (.tup (xs.map V.int));erw[D,g,t,_,xs,ns,ts,p,1,%[dx,aA,aC,aH,aT|R3.same J],G3.same J,k,ah,tl,po,λH5 S5 D5=>q H5 (S03.trans ((zM0 J).trans S5)) D5]
 . apply aE c ?_;let e:cU ns ts p xs z=dC p xs { z with pl:=z.pl+(xs.length:Int) }:=by
    unfold cU;rw[O8 c]
   rw[e]at q;erw[0,D,dx,0,R3.hD,dl_n8,6];erw[0,l,0,.inl %[zG0 hl3|λt ht=>?_]];let J:=zE0 ht (.tup (xs.map V.int));erw[D,g,t,_,xs,ns,ts,p,1,%[dx,aA,aC,aH,aT|R3.same J],G3.same J,k,ah,ro c,λH5 S5 D5=>q H5 (S03.trans ((zM0 J).trans S5)) D5]
instance spToss(C CG:Addr):∀(D g:Addr) (z:Db) (r:Int) (ns:List Str) (ts:List Tr) (p:Int),vs=[.ref D,.int r]->DbAt C H D g z->Gm CG H g ns ts p->GmK ns ts p->z.aw.1="coin"->0<=r->r<p->z.to.length<=ns.length->(z.he≠[]->mJ z.he p/\z.to.length<ns.length)->bY z.to p->(∀H',SameBut D H H'->DbAt C H' D g (dy ns ts p r z)->Q .non H'):=1
def Ey:FnScope We We (aj vR):=%[|5]
def JM(a:Str×Option Int):(awV a)[0]?=some (.str a.1):=by
 unfold awV
 split <;> rfl
instance rCatA(K:W.Frag)(x:V)(y:V)(H:Hp)(Q:VK):∀a b xs ys,x=.ref a->y=.ref b->SqT K H a xs->SqT K H b ys->ys≠[]->xs.length+ys.length<=sizeLine->(xs=[]->Q (.ref b) H)->(xs≠[]->∀p,H p=none->Q (.ref p) (upd H p (.tup (xs++ys)))):=0
def Iu:OpR X (binaryOp .Add) (rCatA X.K):=by
 exists 4,x,y,v,u,Q,I,rx,ry,h;erw[a,b,xs,ys,ex,ey,ha,hb,hy,hz,q1,q2]at h
 by_cases c:xs=[]
 . subst c;exact oH O7 s σ H x y v u Q I rx ry %[a,b,ys,ex,ey,ha,hb|q1 rfl]
 . exact op_catT O7 s σ H x y v u Q I rx ry %[a,b,xs,ys,ex,ey,ha,hb,c,hz,λz=>absurd z hy|λ_=>q2 c]
def Fn(F:#["toss","Doubter.toss",vR])(B:Bl mg)(T:DTxt K mg C)(TG:GTxt K mg CG)(fX:#[1,"is_number",Wd,spIsNum])(cJ:#[4,"value_at",WL,spVal])
 (mB:Meth K C "begin_rounds" fB)(GB:#[16,fB,fdB,WP,spBeg C CG])(bB:Binds K fdB WP [])
 (mG:Meth K C "go_on" fG)(GG:#[15,fG,fdG,WA,spGo C CG])(bG:Binds K fdG WA []):#[17,f,fd,We,spToss C CG]:=by
 exists Ey
 erw[D,g,z,r,ns,ts,p,1,%[dx,aA,aC,aH,aT|R],G,k,ea,r0,r1,tl,ro,po,q]at h;let hr15:Room 15 _:=hr.mono ⋯;refine⟨_,(ad (aJ (ai lq (aM ix_tup (az (pv 0) rfl) ag #[1]) aF (ay _)) bq aB)
  (ad (aJ (hZ (eI (ax fX hr ⋯ rfl %[1,az (az (pv 0) rfl) rfl|ae]))) bq aB)
  (ad (aR (pv 0) (au aV (az (pv 0) rfl) ag) rfl)
  (af (aJ (ai (wo hr.units) (az (pv 0) rfl) (aS ae) (ay _))
   (af (bb (bK (pv 0) T.cl mB GB hr bB .nil aZ %[1|ae])))
   (ad (aR (pv 0) (ax cJ hr ⋯ rfl %[az (pv 0) rfl,1,az (az (pv 0) rfl) rfl|ae]) rfl)
   (ad (aR (pv 0) (au Iu (az (pv 0) rfl) (aS %[1|ae])) rfl)
   (af (bb (bz (pv 0) T.cl mG GG hr15 bG .nil aZ)))))))))),?_⟩
 let gD:=G.ne R.hD jx;let G':=G;erw[a,b,d,tv,%[dg|hg],ha,hb,TS,hd]at G';erw[0,D,C,dx,_,0,R.hD,9,T.nA,GO,aA,_,2,zC0 R.hA,cu (j:=0) (JM _),1,0,6];apply yq (congrArg V.str ea) ?_;erw[0,0,D,C,dx,_,0,R.hD,9,T.nG,jx,g,CG,dg,_,0,hg,TG.cl,TG.nF,eZ ..,r,p,1,6];rw[zC1 r0,zC1 r1];erw[0,6];apply cE ?_;erw[0,D,C,dx,_,0,R.hD,9,T.nP,Bw,2,0,D,C,dx,0,R.hD,9,T.nP,cP,6];rw[wb];let S2:SameBut D H (upd H D (.ins C dx (dl g aA aC z.s aH aT z.ed (z.pl+1)))):=SameBut.upd _;let R2:DbR C (upd H D (.ins C dx (dl g aA aC z.s aH aT z.ed (z.pl+1)))) D g { z with pl:=z.pl+1 } dx aA aC aH aT:=DbR.set (z:={ z with pl:=z.pl+1 }) R.hD R.hA R.hC R.hH R.hT;let G2:=G.but R.hD gD S2;generalize upd H D (.ins C dx (dl g aA aC z.s aH aT z.ed (z.pl+1)))=H2 at S2 R2 G2;erw[0,D,C,dx,_,0,R2.hD,9,T.nH,Le,y0S,λu hu=>?_];let I:=zE0 hu (.tup []);let R3:=R2.same I;let hu3:upd H2 u (.tup []) u=some (.tup []):=ah;let G3:=G2.same I;generalize upd H2 u (.tup [])=H3 at I R3 hu3 G3;let S03:SameBut D H H3:=S2.trans (zM0 I);erw[_,_,lO R3.hH,lO (xs:=[]) hu3,lF _,lF [],0,6];rw[show PyData.eqv (.tuple (z.he.map PyData.int)) (.tuple (([]:List Int).map PyData.int))=decide (z.he=[])from Bu z.he]
 by_cases c:z.he=[]
 . apply aW c ?_;let e:dy ns ts p r z=yK ns ts p r { z with pl:=z.pl+1 }:=by
    unfold dy;rw[O9 c]
   rw[e]at q;erw[0,D,dx,0,R3.hD,JJ,0,6];erw[D,g,_,r,ns,ts,p,1,%[dx,aA,aC,aH,aT|R3],G3,k,tl,po,λH5 S5 D5=>q H5 (S03.trans S5) D5]
 . apply aE c ?_;let%[rok|tl']:=ro c;let e:dy ns ts p r z=goOn ns ts p { z with pl:=z.pl+1,ed:=val p z.he r,to:=z.to++[r] }:=by
    unfold dy;rw[O8 c]
   rw [e]at q;let G3':=G3;erw[a3,b3,d3,tv3,%[dg3|hg3],_]at G3';erw[0,D,C,dx,_,0,R3.hD,9,T.nH,Le,0,0,D,C,dx,_,0,R3.hD,9,T.nG,jx,g,CG,dg3,_,0,hg3,TG.cl,TG.nF,eZ ..,aH,z.he,r,p,1,.inr R3.hH,rok,k.pr,k.p9,r0,r1,λH4 S4=>?_];let R4:=R3.same S4;let G4:=G3.same S4;erw[0,D,C,dx,0,R4.hD,9,T.nE,cP,6];rw[zE];let S5:SameBut D H4 (upd H4 D (.ins C dx (dl g aA aC z.s aH aT (val p z.he r) (z.pl+1)))):=SameBut.upd _;let R5:DbR C (upd H4 D (.ins C dx (dl g aA aC z.s aH aT (val p z.he r) (z.pl+1)))) D g { z with pl:=z.pl+1,ed:=val p z.he r } dx aA aC aH aT:=DbR.set (z:={ z with pl:=z.pl+1,ed:=val p z.he r }) R4.hD R4.hA R4.hC R4.hH R4.hT;let G5:=G4.but R4.hD gD S5;generalize upd H4 D (.ins C dx (dl g aA aC z.s aH aT (val p z.he r) (z.pl+1)))=H5 at S5 R5 G5;let S05:SameBut D H H5:=S03.trans ((zM0 S4).trans S5);erw[0,D,C,dx,_,0,R5.hD,9,T.nT,Ar,0,y1S,λt ht=>?_];let J:=zE0 ht (.tup [.int r]);let R6:=R5.same J;let G6:=G5.same J;let ht6:upd H5 t (.tup [.int r]) t=some (.tup [.int r]):=ah;generalize upd H5 t (.tup [.int r])=H6 at J R6 G6 ht6;let n10:=k.n10;let fin:∀(x:Addr)(H7:Hp),Same H6 H7->H7 x=some (.tup ((z.to++[r]).map V.int))->(ps_fin:True)->∀QQ:Hp->Prop,(∀H8,SameBut D H7 H8->DbR C H8 D g { z with pl:=z.pl+1,ed:=val p z.he r,to:=z.to++[r] } dx aA aC aH x->Gm CG H8 g ns ts p->QQ H8)->QQ (upd H7 D (.ins C dx (dl g aA aC z.s aH x (val p z.he r) (z.pl+1)))):=by
    intro x H7 s7 hx _ QQ hq;let R7:=R6.same s7;exact hq _ (SameBut.upd _) (DbR.set (z:={ z with pl:=z.pl+1,ed:=val p z.he r,to:=z.to++[r] }) R7.hD R7.hA R7.hC R7.hH hx) ((G6.same s7).but R7.hD gD (SameBut.upd _))
   let po2:bY (z.to++[r]) p:=λx hx=>by
    rcases qN0 hx with h | h
    . exact po x h
    . rw[Pg h];erw[r0,r1]
   let tl2:(z.to++[r]).length<=ns.length:=by
    rw[zJ0,qM0];omega
   let S06:SameBut D H H6:=S05.trans (zM0 J);erw[aT,t,2,zC0 R6.hT,zC0 ht6,(λz=>by cases z),cx (by rw[zF0];show z.to.length+1<=1000;omega),λz0=>?_,λz0 p7 hp7=>?_]
   . let e0:z.to=[]:=#[z0,0]
     erw[0,D,C,dx,0,R6.hD,9,T.nT,cP,6];rw[EN];apply fin t H6 (Same.refl _) (by rw[e0];exact ht6) trivial _ λH8 S8 R8 G8=>?_
     erw[0,D,dx,0,R8.hD,GN,6];erw[D,g,_,ns,ts,p,1,%[dx,aA,aC,aH,t|R8],G8,k,tl2,po2,λH9 S9 D9=>q H9 (S06.trans (S8.trans S9)) D9]
   . let L:=zE0 hp7 (.tup (z.to.map V.int++[.int r]));let R7:=R6.same L;erw[0,D,C,dx,0,R7.hD,9,T.nT,cP,6];rw[EN];apply fin p7 _ L (by rw[ah,zK0];rfl) trivial _ λH8 S8 R8 G8=>?_
     erw[0,D,dx,0,R8.hD,GN,6];erw[D,g,_,ns,ts,p,1,%[dx,aA,aC,aH,p7|R8],G8,k,tl2,po2,λH9 S9 D9=>q H9 (S06.trans ((zM0 L).trans (S8.trans S9))) D9]
instance spDInit(C CG:Addr):∀(D g dx:Addr)(ns:List Str)(ts:List Tr)(p:Int),vs=[.ref D,.ref g]->H D=some (.ins C dx [])->Gm CG H g ns ts p->g≠D->(∀H',SameBut D H H'->DbAt C H' D g (Db.new ts)->Q .non H'):=1
def Ez:FnScope WJ WJ (aj vS):=%[|5]
instance spOf(C:Addr)(t:Db->V->Hp->Prop):∀(D g:Addr)(z:Db),vs=[.ref D]->DbAt C H D g z->(∀v,t z v H->Q v H):=1
def Ig:FnScope WA WA (aj zC):=%[|5]
def IB(F:#["due","Doubter.due",zC])(T:DTxt K mg C):#[1,f,fd,WA,spOf C λz v _=>v=.int z.ed]:=by
 exists Ig
 erw[D,g,z,1,%[dx,aA,aC,aH,aT|R],q]at h;erw[_,(af (am (az (pv 0) rfl))),6];erw[0,D,C,dx,_,0,R.hD,9,T.nE,Bx,q _ rfl]
def Ch:FnScope WA WA (aj sy):=%[|5]
def CD(F:#["waits","Doubter.waits",sy])(T:DTxt K mg C):#[1,f,fd,WA,spOf C λz v H=>∃a,v=.ref a/\H a=some (.tup (awV z.aw))]:=by
 exists Ch
 erw[D,g,z,1,%[dx,aA,aC,aH,aT|R],q]at h;erw[_,(af (am (az (pv 0) rfl))),6];erw[0,D,C,dx,_,0,R.hD,9,T.nA,GO,q _ %[aA,1|R.hA]]
end
section
variable {C CG:Addr}
def awD(a:Str×Option Int):PyData:=match a.2 with
 |none=>.tuple [.str a.1]
 |some n=>.tuple [.str a.1,.int n]
def Kj{K:W.Frag}{H:Hp}{c:Addr}(h:H c=some (.tup (awV a))):Rep K H (.ref c) (awD a):=by
 erw[x,n]at a;cases n with
 |none=>exact .tup (zC0 h) (.cons (.str x) .nil)
 |some n=>exact .tup (zC0 h) (.cons (.str x) (.cons (.int n) .nil))
def AwW(x:Str):Prop:=x="hear"∨x="coin"∨x="caught"∨x="believed"
def AwW.ok(h:AwW x):PyData.strOk x=true:=by
 rcases h with rfl | rfl | rfl | rfl <;> decide
def uM{a:Str×Option Int}(h:AwW a.1):SeqAt.shaped (awD a)=true:=by
 erw[x,n]at a
 have:=h.ok
 cases n <;> simp [awD,SeqAt.shaped,PyData.canLay0,PyData.depth,PyData.canLayAll0,PyData.depthAll] <;> exact this
def HW(x y:Str):(x==y)=decide (x=y):=by
 by_cases c:x=y
 . subst c;simp
 . rw[zB1 c];simpa using c
def KZ(a b:Str×Option Int):PyData.eqv (awD a) (awD b)=decide (a=b):=by
 erw[x,n]at a;erw[y,m]at b;cases n <;> cases m <;> simp [awD,PyData.eqv,PyData.eqvAll,HW]
 rename_i u v
 by_cases c:u=v
 . subst c;simp
 . simp [c]
def qI:∀ns ms:List Int,PyData.eqvAll (ns.map PyData.int) (ms.map PyData.int)=decide (ns=ms)
 | [],[]=>rfl
 | [],_::_=>rfl
 |_::_,[]=>rfl
 |a::r,b::t=>by
   simp only[zZ0,PyData.eqvAll,PyData.eqv,qI r t]
   by_cases h1:a=b <;> by_cases h2:r=t <;> simp [h1,h2]
def GF(ns ms:List Int):PyData.eqv (.list (ns.map PyData.int)) (.list (ms.map PyData.int))=decide (ns=ms):=by simp [PyData.eqv,qI]
def lG(ns:List Int):SeqAt.shaped (.list (ns.map PyData.int))=true:=by
 simp [SeqAt.shaped,PyData.canLay0,PyData.depth,W.ke_canLayAll0,W.ke_depthAll]
end
section
variable {C CG:Addr}
def d1(g:Addr):List (Str×V):=[("game",.ref g)]
def d2(g t1:Addr):List (Str×V):=[("game",.ref g),("awaited",.ref t1)]
def d3(g t1 t2:Addr):List (Str×V):=[("game",.ref g),("awaited",.ref t1),("claims",.ref t2)]
def d4(g t1 t2:Addr):List (Str×V):=[("game",.ref g),("awaited",.ref t1),("claims",.ref t2),("s",.int 0)]
def d5(g t1 t2 t3:Addr):List (Str×V):=[("game",.ref g),("awaited",.ref t1),("claims",.ref t2),("s",.int 0),("heard",.ref t3)]
def d6(g t1 t2 t3 t4:Addr):List (Str×V):=[("game",.ref g),("awaited",.ref t1),("claims",.ref t2),("s",.int 0),("heard",.ref t3),("tossed",.ref t4)]
def d7(g t1 t2 t3 t4:Addr):List (Str×V):=[("game",.ref g),("awaited",.ref t1),("claims",.ref t2),("s",.int 0),("heard",.ref t3),("tossed",.ref t4),("held",.int 0)]
def pd1(g:Addr):bJ "game" (.ref g) []=d1 g:=by rfl'
def pd2(g t1:Addr):bJ "awaited" (.ref t1) (d1 g)=d2 g t1:=by rfl'
def pd3(g t1 t2:Addr):bJ "claims" (.ref t2) (d2 g t1)=d3 g t1 t2:=by rfl'
def pd4(g t1 t2:Addr):bJ "s" (.int 0) (d3 g t1 t2)=d4 g t1 t2:=by rfl'
def pd5(g t1 t2 t3:Addr):bJ "heard" (.ref t3) (d4 g t1 t2)=d5 g t1 t2 t3:=by rfl'
def pd6(g t1 t2 t3 t4:Addr):bJ "tossed" (.ref t4) (d5 g t1 t2 t3)=d6 g t1 t2 t3 t4:=by rfl'
def pd7(g t1 t2 t3 t4:Addr):bJ "held" (.int 0) (d6 g t1 t2 t3 t4)=d7 g t1 t2 t3 t4:=by rfl'
def pd8(g t1 t2 t3 t4:Addr):bJ "places" (.int 0) (d7 g t1 t2 t3 t4)=dl g t1 t2 0 t3 t4 0 0:=by rfl'
def Fo(F:#["__init__","Doubter.__init__",vS])(B:Bl mg)(T:DTxt K mg C)(TG:GTxt K mg CG):#[1,f,fd,WJ,spDInit C CG]:=by
 exists Ez
 erw[D,g,dx,ns,ts,p,1,hD,G,gD,q]at h;refine⟨_,(ad (aR (pv 0) (pv 1) rfl)
  (ad (aR (pv 0) (aS %[aF,aG aI rfl B.len zD1 %[az (pv 1) rfl|ae]|ae]) rfl)
  (ad (aR (pv 0) (aS ae) rfl)
  (ad (aR (pv 0) ag rfl)
  (ad (aR (pv 0) (aS ae) rfl)
  (ad (aR (pv 0) (aS ae) rfl)
  (ad (aR (pv 0) ag rfl)
  (af (aR (pv 0) ag rfl))))))))),?_⟩
 erw[a,b,d,tv,%[dg|hg],ha,hb,TS,hd]at G;let vl:=TS.length;erw[0,0,D,C,dx,0,hD,9,T.nG,(by show 0<1000;decide),6];rw[pd1];let S1:SameBut D H (upd H D (.ins C dx (d1 g))):=SameBut.upd _;let h1:upd H D (.ins C dx (d1 g)) D=some (.ins C dx (d1 g)):=ah;generalize upd H D (.ins C dx (d1 g))=H1 at S1 h1;let nb:=bt hb hD nofun;erw[0,g,CG,dg,_,0,S1 _ _ gD hg,TG.cl,TG.nT,my ..,b,0,.inr (zC0 (S1 _ _ nb hb)),y2S,λt1 ht1=>?_];let I1:=zE0 ht1 (.tup [.str "hear",.int (tv.length:Int)]);let g1:upd H1 t1 (.tup [.str "hear",.int (tv.length:Int)]) t1=some (.tup [.str "hear",.int (tv.length:Int)]):=ah;generalize upd H1 t1 (.tup [.str "hear",.int (tv.length:Int)])=H2 at I1 g1;erw[0,D,C,dx,0,I1 _ _ h1,9,T.nA,(by show 1<1000;decide),6];rw[pd2];let n1:t1≠D:=(aO h1 ht1).symm;let S2:SameBut D H2 (upd H2 D (.ins C dx (d2 g t1))):=SameBut.upd _;let h2:upd H2 D (.ins C dx (d2 g t1)) D=some (.ins C dx (d2 g t1)):=ah;let k1:=S2 _ _ n1 g1;generalize upd H2 D (.ins C dx (d2 g t1))=H3 at S2 h2 k1;erw[y0S,λt2 ht2=>?_];let I2:=zE0 ht2 (.tup []);let g2:upd H3 t2 (.tup []) t2=some (.tup []):=ah;generalize upd H3 t2 (.tup [])=H4 at I2 g2;erw[0,D,C,dx,0,I2 _ _ h2,9,T.nC,(by show 2<1000;decide),6];rw[pd3];let n2:t2≠D:=(aO h2 ht2).symm;let S3:SameBut D H4 (upd H4 D (.ins C dx (d3 g t1 t2))):=SameBut.upd _;let h3:upd H4 D (.ins C dx (d3 g t1 t2)) D=some (.ins C dx (d3 g t1 t2)):=ah;generalize upd H4 D (.ins C dx (d3 g t1 t2))=H5 at S3 h3;erw[0,D,C,dx,0,h3,9,T.nS,(by show 3<1000;decide),6];rw[pd4];let S4:SameBut D H5 (upd H5 D (.ins C dx (d4 g t1 t2))):=SameBut.upd _;let h4:upd H5 D (.ins C dx (d4 g t1 t2)) D=some (.ins C dx (d4 g t1 t2)):=ah;generalize upd H5 D (.ins C dx (d4 g t1 t2))=H6 at S4 h4;erw[y0S,λt3 ht3=>?_];let I3:=zE0 ht3 (.tup []);let g3:upd H6 t3 (.tup []) t3=some (.tup []):=ah;generalize upd H6 t3 (.tup [])=H7 at I3 g3;erw[0,D,C,dx,0,I3 _ _ h4,9,T.nH,(by show 4<1000;decide),6];rw[pd5];let n3:t3≠D:=(aO h4 ht3).symm;let S5:SameBut D H7 (upd H7 D (.ins C dx (d5 g t1 t2 t3))):=SameBut.upd _;let h5:upd H7 D (.ins C dx (d5 g t1 t2 t3)) D=some (.ins C dx (d5 g t1 t2 t3)):=ah;generalize upd H7 D (.ins C dx (d5 g t1 t2 t3))=H8 at S5 h5;erw[y0S,λt4 ht4=>?_];let I4:=zE0 ht4 (.tup []);let g4:upd H8 t4 (.tup []) t4=some (.tup []):=ah;generalize upd H8 t4 (.tup [])=H9 at I4 g4;erw[0,D,C,dx,0,I4 _ _ h5,9,T.nT,(by show 5<1000;decide),6];rw[pd6];let n4:t4≠D:=(aO h5 ht4).symm;erw[0,D,C,dx,0,ah,9,T.nE,(by show 6<1000;decide),6];rw[pd7];erw[0,D,C,dx,0,ah,9,T.nP,(by show 7<1000;decide),6];rw[pd8];let W:∀{x:Addr} {H':Hp} {o1 o2 o3:HO} {u:HO},x≠D->H' x=some u->upd (upd (upd H' D o1) D o2) D o3 x=some u:=λ{x H' o1 o2 o3 u} n e=>by
  rw[aD n,aD n,aD n];exact e
 let k2:=S3 _ _ n2 g2;let k3:=S5 _ _ n3 g3;apply q _ (S1.trans ((zM0 I1).trans (S2.trans ((zM0 I2).trans (S3.trans (S4.trans ((zM0 I3).trans (S5.trans ((zM0 I4).trans ((SameBut.upd _).trans ((SameBut.upd _).trans (SameBut.upd _)))))))))))) %[dx,t1,t2,t3,t4,ah,6,6,6|W n4 g4]
 . rw[vl]at k1;exact W n1 (I4 _ _ (S5 _ _ n1 (I3 _ _ (S4 _ _ n1 (S3 _ _ n1 (I2 _ _ k1))))))
 . exact W n2 (I4 _ _ (S5 _ _ n2 (I3 _ _ (S4 _ _ n2 k2))))
 . exact W n3 (I4 _ _ k3)
end
def eQ(o:Str)(p q:Bool):Bool:=if o="and" then p&&q else if o="or" then p||q else if o="odd" then p != q else p==q
def Tr.holds(ns:List Str)(st:List Int):Tr->Bool
 |.is x=>match eY x ns with | some j=>decide (st.getD j 0=1) | none=>false
 |.yes=>true
 |.no=>false
 |.not a=>!a.holds ns st
 |.bin o a b=>eQ o (a.holds ns st) (b.holds ns st)
instance spJoined:∀(o:Str)(p q:Bool),vs=[.str o,.bl p,.bl q]->Q (.bl (eQ o p q)) H:=1
def Ce:FnScope Wf Wf (aj sv):=%[|5]
def Cz(F:#["joined",sv]):#[1,f,fd,Wf,spJoined]:=by
 exists Ce
 erw[o,p,q,1,k]at h;refine⟨_,(ad (aJ (ai aQ (pv 0) aF (ay _)) (af (am (nI (pv 1) (nv (pv 2))))) aB)
  (ad (aJ (ai aQ (pv 0) aF (ay _)) (af (am (Jy (pv 1) (nv (pv 2))))) aB)
  (ad (aJ (ai aQ (pv 0) aF (ay _)) (af (am (dw lq (pv 1) (pv 2) (ay _)))) aB)
  (af (am (dw aQ (pv 1) (pv 2) (ay _))))))),?_⟩
 erw[0,1,0,6]
 by_cases c1:V.str o=V.str "and"
 . apply aW c1 ?_;let e:eQ o p q=(p&&q):=by unfold eQ;rw[O9 (eV c1)]
   rw[e]at k;erw[0,p,1,6];cases p with
   |true=>exact du %[0|by simpa using k]
   |false=>exact cE #[k,0]
 apply aE c1 ?_;let n1:¬ o="and":=λz=>c1 (by rw[z])
 erw[0,1,0,6]
 by_cases c2:V.str o=V.str "or"
 . apply aW c2 ?_;let e:eQ o p q=(p||q):=by unfold eQ;rw[O8 n1,O9 (eV c2)]
   rw[e]at k;erw[0,p,1,6];cases p with
   |true=>exact du #[k,0]
   |false=>exact cE %[0|by simpa using k]
 apply aE c2 ?_;let n2:¬ o="or":=λz=>c2 (by rw[z])
 erw[0,1,0,6]
 by_cases c3:V.str o=V.str "odd"
 . apply aW c3 ?_;let e:eQ o p q=(p != q):=by unfold eQ;rw[O8 n1,O8 n2,O9 (eV c3)]
   rw[e]at k;erw[0,0,1,6];let e2:(!decide (V.bl p=V.bl q))=(p != q):=by cases p <;> cases q <;> decide
   show Q (.bl (!decide (V.bl p=V.bl q))) H;rw[e2];exact k
 apply aE c3 ?_;let n3:¬ o="odd":=λz=>c3 (by rw[z])
 let e:eQ o p q=(p==q):=by unfold eQ;rw[O8 n1,O8 n2,O8 n3]
 rw[e]at k;erw[0,0,1,6];let e2:decide (V.bl p=V.bl q)=(p==q):=by cases p <;> cases q <;> decide
 show Q (.bl (decide (V.bl p=V.bl q))) H;rw[e2];exact k
instance spHolds(n:Nat):∀(v:V)(t:Tr)(a b:Addr)(ns:List Str)(st:List Int),vs=[v,.ref a,.ref b]->TreeAt H v t->t.ok ns->t.depth<=n->NamesAt H a ns->H b=some (.tup (st.map V.int))->st.length=ns.length->Q (.bl (t.holds ns st)) H:=1
def mO:FnScope ["tree","switches","setting","word","first"] WW (aj jS):=%[|5]
def Am{n:Nat}(F:#["holds_at",jS])(iu:#[1,"joined",Wf,spJoined])(f9:#[n+2,"holds_at",WW,spHolds n]):#[n+3,f,fd,WW,spHolds (n+1)]:=by
 exists mO
 erw[v,t,a,b,ns,st,1,T,ok,dn,hN,hb,sl,k]at h;refine⟨_,(ad #[ao,3,mO,aM ix_tup (pv 0) ag #[1]]
  (ad (aJ (ai aQ (pv 3) aF (ay _)) (af (am (dw aQ (aM ix_tup (pv 2) (sQ zF1 jZ0 (pv 1) %[aM ix_tup (pv 0) ag #[1]|ae]) #[1]) ag (ay _)))) aB)
  (ad (aJ (PW.pt (iD (ai aQ (pv 3) aF (ay _)) (hV (ai aQ (pv 3) aF (ay _))))) (af (am (dw aQ (pv 3) aF (ay _)))) aB)
  (ad #[ao,4,mO,ax f9 hr (zH0 _) rfl %[aM ix_tup (pv 0) ag #[1],1,2|ae]]
  (ad (aJ (ai aQ (pv 3) aF (ay _)) (af (am (wg (pv 4)))) aB)
  (af (am (ax iu hr #[0] rfl %[3,4,ax f9 hr (zH0 _) rfl %[aM ix_tup (pv 0) ag #[1],1,2|ae]|ae])))))))),?_⟩
 cases T with
 | @is p x e=>
   erw[0,p,_,(0),0,1,zC0 e,1,6];erw[0,1,0,6];apply aW rfl ?_;let%[j,hj|jl]:=gC ok;let jl':j<st.length:=#[0]
   erw[0,0,a,ns,1,hN,0,p,_,(1),0,1,zC0 e,1,1,x,j,1,hj,b,_,(j:Int),.int st[j],1,1,zC0 hb,6,1,6]
   . apply cu ?_;rw[zY0,zL0 jl'];rfl
   . let e1:(Tr.is x).holds ns st=decide (V.int st[j]=V.int 1):=by
      show(match eY x ns with | some j=>decide (st.getD j 0=1) | none=>false)=_;rw[hj];show decide (st.getD j 0=1)=_;rw[qJ0,zL0 jl']
      simp
     rw[e1]at k;exact k
 | @yes p e=>
   erw[0,p,_,(0),0,1,zC0 e,1,6];erw[0,1,0,6];apply aE ⋯ ?_;erw[0,1,0,6];apply aW rfl (du ?_);erw[0,1,k]
 | @no p e=>
   erw[0,p,_,(0),0,1,zC0 e,1,6];erw[0,1,0,6];apply aE ⋯ ?_;erw[0,1,0,6];apply aE ⋯ ?_;erw[0,1,0,6];apply aW rfl ?_;erw[0,1,6];let e1:decide (V.str "no"=V.str "yes")=false:=by decide
   show Q (.bl (decide (V.str "no"=V.str "yes"))) H;rw[e1];exact k
 | @not p u r e T1=>
   let dp:r.depth+1<=n+1:=dn;erw[0,p,_,(0),0,1,zC0 e,1,6];erw[0,1,0,6];apply aE ⋯ ?_;erw[0,1,0,6];apply aE ⋯ ?_;erw[0,1,0,6];apply aE ⋯ ?_;erw[0,p,_,(1),0,1,zC0 e,1,0,0,u,r,a,b,ns,st,1,T1,ok,3,hN,hb,sl,6];erw[0,1,0,6];apply aW rfl ?_;erw[0,0,k]
 | @bin p o u u2 r r2 e T1 T2=>
   erw[ho,ok1,ok2]at ok;let dp:max r.depth r2.depth+1<=n+1:=dn;let ne:∀z:Str,z∉joinW->¬ V.str o=V.str z:=λz hz h=>hz (eV h▸ho)
   erw[0,p,_,(0),0,1,zC0 e,1,6];erw[0,1,0,6];apply aE (ne _ ⋯) ?_;erw[0,1,0,6];apply aE (ne _ ⋯) ?_;erw[0,1,0,6];apply aE (ne _ ⋯) ?_;erw[0,p,_,(1),0,1,zC0 e,1,0,0,u,r,a,b,ns,st,1,T1,ok1,3,hN,hb,sl,6];erw[0,1,0,6];apply aE (ne _ ⋯) ?_;erw[0,0,0,p,_,(2),0,1,zC0 e,1,0,0,u2,r2,a,b,ns,st,1,T2,ok2,3,hN,hb,sl,6];erw[o,_,0,k]
def Al:#[2,f,fd,WW,spHolds 0]:=by
 let no:∀vs H Q E,¬ spHolds 0 vs H Q E:=λvs H Q E h=>by
  erw[v,t,_,_,_,_,_,_,_,h1,_]at h
  have:=t.depth_pos
  omega
 exists 3
def qB(F:#["holds_at",jS])(m:mg "holds_at"=some (.ref f))(iu:#[1,"joined",Wf,spJoined]):
 ∀n:Nat,#[n+2,f,fd,WW,spHolds n]
 |0=>Al
 |n+1=>Am F iu (Cal.of F (qB F m iu n) m (λ_ _ _ _ _ _ us hl=>by let%[u0,u1,u2|1]:=FU hl;rfl))
def JN(H:Hp)(v:V)(s:List Int):Prop:=∃a,v=.ref a/\H a=some (.tup (s.map V.int))
abbrev TupsAt(H:Hp):List V->List (List Int)->Prop:=PySem.Paired (JN H)
def Hu(H:Hp)(r:Addr)(ss:List (List Int)):Prop:=∃rs,H r=some (.lst rs)/\TupsAt H rs ss
def TupsAt.mono{H H':Hp}(k:∀a xs,H a=some (.tup xs)->H' a=some (.tup xs)):∀{rs:List V}{ss:List (List Int)},TupsAt H rs ss->TupsAt H' rs ss
 |_,_,.nil=>.nil
 |_,_,.cons ⟨a,e,h⟩ t=>.cons %[a,e|k _ _ h] (TupsAt.mono k t)
def TupsAt.get:∀{rs:List V}{ss:List (List Int)}{i:Nat}{v:V},TupsAt H rs ss->rs[i]?=some v->∃s,ss[i]?=some s/\JN H v s
 |_,_,_,_,.nil,h=>by simp at h
 |_,_,0,_,.cons h _,e=>by
   simp at e
   subst e;erw[0,h]
 |_,_,i+1,v,.cons _ t,e=>by
   let%[s,h1|h2]:=TupsAt.get (i:=i) t #[e,0];erw[s,by simpa using h1,h2]
def Dh{ys:List V}(s:SameBut b H H')(h:H b=some (.lst ys)∨H b=none):∀a xs,H a=some (.tup xs)->H' a=some (.tup xs):=λa xs e=>s a _ (λz=>by
 rw[z]at e;rcases h with h | h
 . rw[h]at e;cases e
 . rw[h]at e;cases e) e
def yH{K:W.Frag}{H1:Hp}{a p:Addr}{s:List Int}{z:Int}{Q:VK}(ha:H1 a=some (.tup (s.map V.int)))(hp:H1 p=some (.tup [.int z]))(hl:s.length<=100)
 (q:∀t H2,Same H1 H2->H2 t=some (.tup ((s++[z]).map V.int))->Q (.ref t) H2):rCatT K (.ref a) (.ref p) H1 Q∨rCatT0 K (.ref a) (.ref p) H1 Q:=by
 cases s with
 |nil=>exact .inr %[a,p,0,1,zC0 ha,zC0 hp|q p H1 (Same.refl _) hp]
 |cons x r=>
   refine .inl %[a,p,2,zC0 ha,zC0 hp,by simp,cx (by simp at hl ⊢;omega),(λz=>nomatch z)|(λ_ t ht=>q t _ (zE0 ht _) ?_)];rw[ah,zK0];rfl
instance spSetts:∀n:Int,vs=[.int n]->0<=n->n<=6->(∀(r:Addr)(H':Hp),H r=none->Same H H'->Hu H' r (cH n.toNat)->Q (.ref r) H'):=1
def cV:FnScope ["n","told","switch","longer","setting"] ["n"] (aj iC):=%[|5]
def qU(F:#["all_settings",iC])(hrange:mg "range"=none):#[1,f,fd,["n"],spSetts]:=by
 exists cV
 erw[n,1,n0,n6,q]at h;refine⟨_,(ad #[ao,1,cV,bZ %[aS ae|ae]]
  (ad (cI zE1 rfl (bL rfl hrange %[0|ae]) (aX (i:=2) cV.nd rfl (.inl rfl)) (ad #[ao,3,cV,bZ ae]
   (ad (cI zE1 rfl (dJ (pv 1)) (aX (i:=4) cV.nd rfl (.inl rfl)) (ad (bb (dZ zF1 zL1 zM1 cY (pv 3) %[au (op_catT.or oH) (pv 4) (aS %[ag|ae])|ae]))
    (af (bb (dZ zF1 zL1 zM1 cY (pv 3) %[au (op_catT.or oH) (pv 4) (aS %[ag|ae])|ae])))))
   (af #[ao,1,cV,pv 3]))))
  (af (am (pv 1))))),?_⟩
 erw[y0S,λp hp=>?_];erw[y1S,λa ha=>?_];let np:p≠a:=λz=>by
  subst z;rw[ah]at ha;cases ha
 let ha0:H a=none:=(zE0 hp _).free ha;refine⟨_,rfl,n,rfl,#[0],#[0],dQ (λi σ H'=>∃(a:Addr)(x2 x3 x4:Option V),σ=[some (.int n),some (.ref a),x2,x3,x4]/\H a=none/\Same H H'/\Hu H' a (cH i))
  %[a,_,_,0,ha0,(zE0 hp _).trans (zE0 ha _),[.ref p],ah|.cons ⟨p,rfl,by rw[aD np,ah];rfl⟩ .nil] ?_ ?_⟩
 . rintro i σ H' hi ⟨a,x2,x3,x4,rfl,a0,s0,rs,hrs,T⟩;let i6:i<6:=#[0]
   let sl:=gy i;let s64:=jo (n:=i) #[0];erw[y0S,λb hb=>?_];let ab:a≠b:=aO hrs hb;refine⟨_,rfl,a,rfl,%[_|zG0 (by rw[aD ab];exact hrs)],iJ (K:=K) (xs:=rs) (λj σ H2=>∃(x4:Option V)(bs:List V),σ=[some (.int n),some (.ref a),some (.int (0+(i:Int))),some (.ref b),x4]/\SameBut b H' H2/\H2 b=some (.lst bs)/\TupsAt H2 bs (((cH i).take j).flatMap λs=>[s++[0],s++[1]]))
    %[_,[],1,SameBut.upd _,ah|.nil] (λj σ H2 _ Pd=>by erw[_,_,_,sb,_]at Pd;exact zG0 (sb a _ ab hrs)) ?_ ?_⟩
   . rintro j y σ H2 hj ⟨x4,bs,rfl,sb,hbs,TB⟩;let T2:TupsAt H2 rs (cH i):=T.mono (Dh (ys:=[]) sb (.inr hb));let%[s,hs,t,1|ht]:=T2.get hj;let hsm:s∈cH i:=qF0 hs;let hsl:=eT i s hsm;let hbl:=TB.length;rw[qe,qI0]at hbl;erw[0,.inl %[1,_|zG0 hbs],6];erw[0,y1S,λp1 hp1=>?_];let S1:Same H2 (upd H2 p1 (.tup [.int 0])):=zE0 hp1 _;apply yH (s:=s) (z:=0) (S1 _ _ ht) ah #[0] λt1 H3 S3 e3=>?_
     let S13:Same H2 H3:=S1.trans S3;erw[b,bs,0,1,S13 _ _ hbs,aN #[0],6];let K4:=dB (H:=H3) (b:=b) (ys:=bs) (zs:=bs++[.ref t1]) (S13 _ _ hbs);let e4:=K4 _ _ e3;let t4:=K4 _ _ (S13 _ _ ht);erw[0,.inl %[1,_|zG0 ah],6];erw[0,y1S,λp2 hp2=>?_];let S4:Same (upd H3 b (.lst (bs++[.ref t1]))) (upd (upd H3 b (.lst (bs++[.ref t1]))) p2 (.tup [.int 1])):=zE0 hp2 _;apply yH (s:=s) (z:=1) (S4 _ _ t4) ah #[0] λt2 H5 S5 e5=>?_
     let S45:=S4.trans S5;let hb5:H5 b=some (.lst (bs++[.ref t1])):=S45 _ _ ah;erw[b,bs++[.ref t1],0,1,hb5,aN (by rw[zJ0,qM0];omega),6];let K6:=dB (H:=H5) (b:=b) (ys:=bs++[.ref t1]) (zs:=bs++[.ref t1]++[.ref t2]) hb5;erw[_,bs++[.ref t1]++[.ref t2],1,6,ah,6]
     . let q1:SameBut b H' H3:=sb.trans (zM0 S13);let q2:SameBut b H' H5:=(q1.trans (SameBut.upd _)).trans (zM0 S45);exact q2.trans (SameBut.upd _)
     . let hbase:TupsAt (upd H5 b (.lst (bs++[.ref t1]++[.ref t2]))) bs (((cH i).take j).flatMap λs=>[s++[0],s++[1]]):=
        TB.mono λa xs e=>K6 _ _ (S45 _ _ (K4 _ _ (S13 _ _ e)))
       rw[qC0,hs,List.flatMap_append];let e:((some s).toList.flatMap λs:List Int=>[s++[0],s++[1]])=[s++[0]]++[s++[1]]:=by simp
       rw[e,←jH1];exact(hbase.snoc %[t1,1|K6 _ _ (S45 _ _ e4)]).snoc ⟨t2,rfl,K6 _ _ e5⟩
   . rintro σ H2 ⟨x4,bs,rfl,sb,hbs,TB⟩;let rl:=T.length;rw[rl,qB0]at TB;erw[0,b,_,_,0,s0.free hb,s0.but (s0.free hb) sb,bs,hbs,TB]
 . rintro σ H' ⟨a,x2,x3,x4,rfl,a0,s0,S⟩;erw[0,q a H' a0 s0 S]
def cnt(t:Tr)(ns:List Str):Nat:=((cH ns.length).filter λst=>t.holds ns st).length
instance spCount:∀(v:V)(t:Tr)(a:Addr)(ns:List Str),vs=[v,.ref a]->TreeAt H v t->t.ok ns->t.depth<=12->NamesAt H a ns->ns.length<=6->(∀H',Same H H'->Q (.int (cnt t ns:Int)) H'):=1
def xD:FnScope ["tree","switches","holding"] Wr (aj nq):=%[|5]
def xV(F:#["count_of",nq])(hlen:mg "len"=none)(df:#[1,"all_settings",["n"],spSetts])(f9:#[14,"holds_at",WW,spHolds 12]):#[15,f,fd,Wr,spCount]:=by
 exists xD
 erw[v,t,a,ns,1,T,ok,dp,hN,nl,q]at h;refine⟨_,(ad (oE (i:=2) (N:=Wr) (ix:=[0,1]) xD.nd rfl (.inl rfl) rfl
  #[4] rfl
  (dJ (ax df hr ⋯ rfl %[aG aI rfl hlen zD1 %[1|ae]|ae]))
  (λ_ _ _=>EX (eI (ax f9 hr ⋯ rfl %[1,2,0|ae])) (pv 0)))
  (af (am (aG aI rfl hlen zD1 %[2|ae])))),?_⟩
 let en:((ns.map V.str).length:Int)=(ns.length:Int):=by rw[zF0]
 erw[0,a,0,hN.seq,0,3,3,λr H1 r0 S1 R1=>?_];rw[en]at R1;let e2:((ns.length:Int)).toNat=ns.length:=#[0]
 rw[e2]at R1;erw[rs,hrs,TS]at R1;let rl:=TS.length;let sl:=gy ns.length;let s64:=jo nl;erw[r,1,%[_|zG0 hrs],λD hD=>?_];apply fc (K:=K) (xs:=rs) (λi H'=>∃ys,H' D=some (.lst ys)/\ys.length=(((cH ns.length).take i).filter λst=>t.holds ns st).length/\Same H1 H') %[[],ah,1|zE0 hD _] (λi H' _ Pd=>by erw[_,_,_,h]at Pd;exact zG0 (h _ _ hrs)) ?_ ?_
 . rintro i x H2 hx ⟨ys,hl,yl,S2⟩;let hi:i<rs.length:=(Pj hx).1;let TS2:=TS.mono (aY S2);let%[st,Pd,b,1|hb]:=TS2.get hx;let stl:=eT _ _ (qF0 Pd);let S02:=S1.trans S2;let tk:((cH ns.length).take (i+1)).filter (λst=>t.holds ns st)=((cH ns.length).take i).filter (λst=>t.holds ns st)++[st].filter (λst=>t.holds ns st):=by
    rw[qC0,Pd,qQ1];rfl
   erw[0,0,0,v,t,a,b,ns,st,1,T.mono (aY S02),ok,dp,hN.same S02,hb,stl,0,6];cases c:t.holds ns st with
   |true=>
     apply du ?_;erw[0,ys,hl,6,Nx.of hi %[_,ah,6|λb' o e=>?_]]
     . have:=jR0 (λst=>t.holds ns st) ((cH ns.length).take i)
       rw[qI0]at this;exact aN #[0]
     . rw [tk,zJ0,zJ0,yl]
       simp [c]
     . rw[aD (aO e hD)];exact S2 _ _ e
   |false=>
     apply cE ?_;apply Nx.of hi %[ys,hl,6|S2];rw[tk,zJ0,yl]
     simp [c]
 . rintro H2 ⟨ys,hl,yl,S2⟩;let e3:rs.length=(cH ns.length).length:=rl;rw[e3,qB0]at yl;erw[0,D,0,.inl (zG0 hl),6];rw[yl];exact q H2 (S1.trans S2)
instance spCounts(C:Addr):∀(g a b d:Addr)(ns:List Str)(tv:List V)(ts:List Tr)(p:Int),vs=[.ref g]->GameAt C H g a b d p->H a=some (.tup (ns.map V.str))->ns.length<=6->H b=some (.tup tv)->TreesAt H tv ts->ts.length<=10->(∀t∈ts,t.ok ns/\t.depth<=12)->(∀(l:Addr)(H':Hp),H l=none->Same H H'->H' l=some (.lst ((ts.map λt=>(cnt t ns:Int)).map V.int))->Q (.ref l) H'):=1
def vC:FnScope WC WC (aj kW):=%[|5]
def wz(F:#["counts_of",kW])(T:GTxt K mg C)(ow:#[15,"count_of",Wr,spCount]):#[16,f,fd,WC,spCounts C]:=by
 exists vC
 erw[g,a,b,d,ns,tv,ts,p,1,%[dx|hg],ha,nl,hb,TS,t10,tok,q]at h;refine⟨_,(af (am (cf (N:=WC) (ix:=[0]) rfl
  #[3] rfl
  (fh (az (pv 0) rfl)) (λ_ _ _=>cg (ax ow hr ⋯ rfl %[0,jY K (pv 1)|ae]))))),?_⟩
 let vl:=TS.length;erw[0,g,C,dx,_,0,hg,9,T.nT,my ..,b,1,%[_|zC0 hb],λD hD=>?_];apply eN (K:=K) (xs:=tv) (λi H'=>H' D=some (.lst (((ts.take i).map λt=>(cnt t ns:Int)).map V.int))/\Same H H') %[by rw[ah];rfl|zE0 hD _] (λi H' _ h=>zC0 (h.2 _ _ hb)) ?_ ?_
 . rintro i z H2 hz ⟨hl,S2⟩;let%[t,ht|Tt]:=TS.get hz;let%[tk|td]:=tok t (qF0 ht);let hi:i<tv.length:=(Pj hz).1;erw[0,0,g,C,dx,_,0,S2 _ _ hg,9,T.nS,oW ..,z,t,a,ns,1,Tt.mono (aY S2),tk,td,.inr (S2 _ _ ha),nl,λH3 S3=>?_];erw[_,S3 _ _ hl,6,Nx.of hi %[6|λb' o' e'=>?_]]
   . rw[zF0,zF0,qI0];exact aN #[0]
   . rw[ah,qC0,ht,zK0,zK0];rfl
   . rw[aD (aO e' hD)];exact S3 _ _ (S2 _ _ e')
 . rintro H2 ⟨hl,S2⟩;rw[vl,qB0]at hl;exact q D H2 hD S2 hl
def iG(s:Int):List Int->Int
 | []=>0
 |a::r=>a+s*iG s r
def oU(s p:Int):∀ns,hor s p ns=iG s ns % p
 | []=>(jL1 p).symm
 |a::r=>by
   show(hor s p r*s+a) % p=(a+s*iG s r) % p;rw[oU s p r,qX1,qX0,jE0,←qX0,←qX1,qW1,vK0]
def og:∀(n:Nat)(s:List Int),s∈cH n->∀x∈s,x=0∨x=1
 |0,s,h,x,hx=>by
   have:s=[]:=by simpa [cH]using h
   subst this;cases hx
 |n+1,s,h,x,hx=>by
   rw[cH,List.mem_flatMap]at h;erw[t,ht,hs]at h
   simp at hs
   rcases hs with rfl | rfl
   . rcases qN0 hx with h | h
     . exact og n t ht x h
     . exact .inl (Pg h)
   . rcases qN0 hx with h | h
     . exact og n t ht x h
     . exact .inr (Pg h)
def rE{K:W.Frag}{H1:Hp}{a b:Addr}{xs ys:List Int}{Q:VK}(ha:H1 a=some (.tup (xs.map V.int)))(hb:H1 b=some (.tup (ys.map V.int)))(hl:xs.length+ys.length<=100)
 (q:∀t H2,Same H1 H2->H2 t=some (.tup ((xs++ys).map V.int))->Q (.ref t) H2):rCatT K (.ref a) (.ref b) H1 Q∨rCatT0 K (.ref a) (.ref b) H1 Q:=by
 cases xs with
 |nil=>exact .inr %[a,b,0,1,zC0 ha,zC0 hb|q b H1 (Same.refl _) hb]
 |cons x r=>
   refine .inl %[a,b,2,zC0 ha,zC0 hb,by simp,cx (by simp at hl ⊢;omega),(λz=>?_)|(λ_ t ht=>q t _ (zE0 ht _) ?_)]
   . cases ys with
     |nil=>
       apply q a H1 (Same.refl _) ?_;rw[qV1];exact ha
     |cons y r2=>exact nomatch z
   . rw[ah,zK0]
def cM(ns:List Str)(ts:List Tr)(s p:Int)(pt:List Int):Int:=((cH (ns.length-pt.length)).map λst=>iG s (ts.map λt=>t.worth ns (pt++st) p)).sum % p
def AH{α:Type}(p:Int)(f:α->Int):∀l:List α,(l.map λx=>f x % p).sum % p=(l.map f).sum % p
 | []=>rfl
 |a::r=>by
   rw[zZ0,zZ0,zV1,zV1,qX1,jE0,AH p f r,←qX1]
def AG{α:Type}{p:Int}(hp:0<p)(f:α->Int)(h:∀x,0<=f x/\f x<p):∀l:List α,0<=(l.map f).sum/\(l.map f).sum<=p*l.length
 | []=>%[qH1 0|by simp]
 |a::r=>by
   let h1:=h a;let h2:=AG hp f h r;rw[zZ0,zV1,zR0];erw[3,6]
   have:p*((r.length+1:Nat):Int)=p*(r.length:Int)+p:=by
    rw[jQ1,vF1]
    simp
   omega
def xH(h:bY a p)(h2:bY b p):bY (a++b) p:=λx hx=>by
 rcases qN0 hx with e | e
 . exact h x e
 . exact h2 x e
def pt01{b:List Int}(h:bY a p)(p1:1<p)(h2:∀x∈b,x=0∨x=1):bY (a++b) p:=xH h λx hx=>by rcases h2 x hx with e | e <;> omega
def rj{X:Cx}(K:W.Frag)(hK:X.K=K:=by rfl):OpR X (binaryOp .Add) (λx y H Q=>rCatT K x y H Q∨rCatT0 K x y H Q):=by subst hK;exact op_catT.or oH
def yy{ts:List Tr}(h0:ts≠[]):0<=bm ts x:=by
 have:=lr (ns:=ts.map λt=>(t.names.count x:Int)) #[h0,0]
 let%[t,ht|e]:=List.mem_map.mp this;unfold bm;rw[←e];exact wA1 _
def dR(ns:List Str)(ts:List Tr)(s p:Int)(cs:List Int)(n:Nat):List Int:=(List.range n).map λk:Nat=>cM ns ts s p (cs++[(k:Int)])
def Kb{d:Int}{i:Nat}(hi:i<(d+1).toNat)(h:d<=500):((dR ns ts s p cs i).map V.int).length<sizeLine:=by
 unfold dR;rw[zF0,zF0,qR0];exact aN #[0]
def ptI{d:Int}{i:Nat}(h:bY a p)(hi:i<(d+1).toNat)(hd:d<p):bY (a++[(i:Int)]) p:=xH h λx hx=>by
 rw[Pg hx];omega
def cat1{n k:Nat}(h:n<k)(h6:k<=6):n+([(0:Int)]:List Int).length<=100/\n+1<=k:=by
 rw[qM0];omega
def s64{n k:Nat}(h6:n<=6):(cH (n-(k+1))).length<=64:=by
 let s64:=gy (n-(k+1));let p64:=jo (n:=n-(k+1)) #[0];omega
def Ka{α:Type}{f:α->Int}{l:List α}{j:Nat}(h:l.length<=64):(((l.take j).map f).map V.int).length<sizeLine:=by
 rw[zF0,zF0,qI0];exact aN #[0]
def sum63{p x:Int}{n:Nat}(p0:0<p)(p40:p<2 ^ 40)(h:n<=64)(hx:x<=p*(n:Int)):x<2 ^ 63:=by
 have:p*(n:Int)<=p*64:=qW0 #[0] #[0]
 omega
instance spTrue(C:Addr):∀(g a b d c:Addr)(ns:List Str)(tv:List V)(ts:List Tr)(cs:List Int)(x:Str)(s p:Int),vs=[.ref g,.int s,.ref c]->GameAt C H g a b d p->H a=some (.tup (ns.map V.str))->ns.length<=6->H b=some (.tup tv)->TreesAt H tv ts->ts≠[]->ts.length<=10->(∀t∈ts,t.ok ns/\t.depth<=10)->H d=some (.lst ((ns.map (bm ts)).map V.int))->H c=some (.tup (cs.map V.int))->ns[cs.length]?=some x->bm ts x<p->bm ts x<=500->bY cs p->1<p->p<2 ^ 40->(∀(l:Addr)(H':Hp),H l=none->Same H H'->H' l=some (.lst ((dR ns ts s p cs (bm ts x+1).toNat).map V.int))->Q (.ref l) H'):=1
def fk:FnScope ["game","s","coins","ahead","switch","behind","row","x","worths"] ["game","s","coins"] (aj mV):=%[|5]
def xO(F:#["true_row",mV])(B:Bl mg)(T:GTxt K mg C)(mW:Meth K C "worth_at" fW)(GW:#[13,fW,fdW,WO,spWAt C])(bW:Binds K fdW WO [])(df:#[1,"all_settings",["n"],spSetts]):#[14,f,fd,["game","s","coins"],spTrue C]:=by
 exists fk
 erw[g,a,b,d,c,ns,tv,ts,cs,x,s,p,1,%[dx|hg],ha,nl,hb,TS,tne,t10,tok,hd,hc,hx,dp,d500,po,p1,p40,q]at h;refine⟨_,(ad (ao (i:=3) fk.nd rfl (Or.inr rfl) (bc bh rfl B.tuple bi %[2|ae]))
  (ad #[ao,4,fk,aG aI rfl B.len zD1 %[3|ae]]
  (ad #[ao,5,fk,ax df hr ⋯ rfl %[au bp (au bp (aG aI rfl B.len zD1 %[az (pv 0) rfl|ae]) (pv 4)) ag|ae]]
  (ad #[ao,6,fk,bZ ae]
  (ad (cI zE1 rfl (bL rfl B.range %[au aV (aM ix_list (az (pv 0) rfl) (pv 4) #[1]) ag|ae]) (aX (i:=7) fk.nd rfl (Or.inr rfl)) (ad (oE (i:=8) (N:=["x","s","game","ahead"]) (ix:=[7,1,0,3]) fk.nd rfl (.inl rfl) rfl
   (CompScope.four (by rfl') ⋯ rfl ⋯ rfl ⋯ rfl (by rfl') (by rfl') (by rfl') (by rfl') (by rfl') (by rfl') rfl rfl (by rfl') rfl rfl (by rfl') rfl rfl (by rfl') rfl rfl) rfl
   (dJ (pv 5)) (λ_ _ _=>cg (bK (pv 3) T.cl mW GW hr bW .nil aZ %[au (rj K) (au (rj K) (pv 4) (aS %[1|ae])) (pv 0),2|ae])))
   (af (bb (dZ zF1 zL1 zM1 cY (pv 6) %[au ba (aG (tZ rfl) rfl B.sum wJ1 %[8|ae]) (az (pv 0) rfl)|ae])))))
  (af (am (pv 6)))))))),?_⟩
 let kl:cs.length<ns.length:=(Pj hx).1;let d0:=yy (x:=x) tne;let p0:0<p:=Int.lt_trans Int.zero_lt_one p1;erw[0,c,0,.inr %[zC0 hc|6]];let G1:Same H H:=λ_ _ e=>e
 let hah1:=hc;erw[0,c,0,.inr (zC0 hah1),6];erw[0,g,C,dx,_,0,G1 _ _ hg,9,T.nS,oW ..,a,0,.inr (zC0 (G1 _ _ ha)),0,2,2,0,by rw[zF0,zF0];omega,by rw[zF0,zF0];omega,λr H2 r0 S2 R2=>?_];let en:((((ns.map V.str).length:Nat):Int)-(((cs.map V.int).length:Nat):Int)-1).toNat=ns.length-(cs.length+1):=by rw[zF0,zF0];omega
 rw[en]at R2;erw[rs,hrs,TB]at R2;let rl:=TB.length;erw[y0S,λL hL=>?_];let S02:=G1.trans S2;let GL:=zE0 hL (.lst []);let S03:=S02.trans GL;let L0:H L=none:=S02.free hL;let e1:(((cs.map V.int).length:Nat):Int)=(cs.length:Int):=by rw[zF0]
 erw[0,g,C,dx,_,0,S03 _ _ hg,9,T.nD,Bi ..,0,d,_,_,.int (bm ts x),1,1,zG0 (S03 _ _ hd),6,2,0,3,3,dQ (λi σ H'=>∃x7 x8:Option V,σ=[some (.ref g),some (.int s),some (.ref c),some (.ref c),some (.int (((cs.map V.int).length:Nat):Int)),some (.ref r),some (.ref L),x7,x8]/\H' L=some (.lst ((dR ns ts s p cs i).map V.int))/\SameBut L H2 H') %[_,0,by rw[ah];rfl|SameBut.upd _] ?_ ?_]
 . rw[e1];apply cu ?_;rw[zY0,zY0,hx];rfl
 . rintro i σ H4 hi ⟨x7,x8,rfl,hL4,S4⟩;let gL:g≠L:=aO (S02 _ _ hg) hL;let rL:r≠L:=aO hrs hL;let kT:cG H2 H4:=λc xs h=>S4 c _ (aO h hL) h
   let hg4:=S4 g _ gL (S02 _ _ hg);let hrs4:=S4 r _ rL hrs;let ha4:=kT _ _ (S02 _ _ ha);let hb4:=kT _ _ (S02 _ _ hb);let hah4:=kT _ _ (S2 _ _ hah1);let TS4:=(TS.mono (aY S02)).mono kT;let TB4:=TB.mono kT;erw[0,r,1,%[_|zG0 hrs4],λD hD=>?_];apply fc (K:=K) (xs:=rs) (λj H'=>H' D=some (.lst ((((cH (ns.length-(cs.length+1))).take j).map λst=>hor s p (ts.map λt=>t.worth ns (cs++[(i:Int)]++st) p)).map V.int))/\Same H4 H') %[by rw[ah];rfl|zE0 hD _] (λj H' _ h=>zG0 (h.2 _ _ hrs4)) ?_ ?_
   . rintro j z H5 hz ⟨hD5,S5⟩;let%[st,Pd,y,1|hy]:=(TB4.mono (aY S5)).get hz;let stm:=qF0 Pd;let stl:=eT _ _ stm;let s01:=og _ _ stm;let hj:j<rs.length:=(Pj hz).1;let po2:bY (cs++[(i:Int)]++st) p:=pt01 (ptI po hi dp) p1 s01;let pl2:(cs++[(i:Int)]++st).length=ns.length:=by rw[zJ0,zJ0,qM0];omega
     erw[0,g,dx,0,S5 _ _ hg4,qH _ _ _ _ ⋯ ⋯ ⋯ ⋯,6];erw[0,0,y1S,λu hu=>?_];let Gu:=zE0 hu (.tup [.int (0+(i:Int))]);let hu6:upd H5 u (.tup [.int (0+(i:Int))]) u=some (.tup ([(i:Int)].map V.int)):=by rw[ah,qZ1];rfl
     generalize upd H5 u (.tup [.int (0+(i:Int))])=H6 at Gu hu6;apply rE (Gu _ _ (S5 _ _ hah4)) hu6 (cat1 kl nl).1 λt1 H7 S7 h7=>?_
     erw[0,6];let S57:=Gu.trans S7;apply rE h7 (S57 _ _ hy) (by rw[zJ0,qM0];omega) λt2 H8 S8 h8=>?_
     let S48:=S5.trans (S57.trans S8);erw[0,g,a,b,d,t2,ns,tv,ts,_,s,p,1,%[dx|S48 _ _ hg4],p1,p40,S48 _ _ ha4,S48 _ _ hb4,TS4.mono (aY S48),t10,tok,h8,pl2,po2,λH9 S9=>?_];erw[_,S9 _ _ ((S57.trans S8) _ _ hD5),6,Nx.of hj %[6|λb' o' e'=>?_]]
     . exact Ka (s64 nl)
     . rw[ah,qC0,Pd,zK0,zK0];rfl
     . rw[aD (aO e' hD)];exact S9 _ _ (S48 _ _ e')
   rintro H5 ⟨hD5,S5⟩;rw[rl,qB0]at hD5;let hor_r:=λst:List Int=>rA (s:=s) (p:=p) p0 (ts.map λt=>t.worth ns (cs++[(i:Int)]++st) p)
   let sr:=AG (p:=p) p0 (λst:List Int=>hor s p (ts.map λt=>t.worth ns (cs++[(i:Int)]++st) p)) hor_r (cH (ns.length-(cs.length+1)));let hL5:=S5 _ _ hL4;erw[0,.inl %[1,_|zG0 hL5],0,D,0,zG0 hD5,6,6,6]
   . intro n hn;let%[st,_|1]:=List.mem_map.mp hn;exact(hor_r st).1
   . exact sum63 p0 p40 (s64 nl) sr.2
   erw[0,g,C,dx,_,0,S5 _ _ hg4,9,T.nF,eZ ..,2,p0,L,2,hL5,6,6]
   . exact Kb hi d500
   . erw[_,0,6,λc o hc e=>?_]
     . rw [ah];unfold dR;rw[zZ1,zK0,zK0];let e2:((cH (ns.length-(cs.length+1))).map λst=>hor s p (ts.map λt=>t.worth ns (cs++[(i:Int)]++st) p)).sum % p=cM ns ts s p (cs++[(i:Int)]):=by
        unfold cM;rw[zJ0,qM0,show(λst:List Int=>hor s p (ts.map λt=>t.worth ns (cs++[(i:Int)]++st) p))=λst=>iG s (ts.map λt=>t.worth ns (cs++[(i:Int)]++st) p) % p from funext λst=>oU _ _ _];exact AH p (λst:List Int=>iG s (ts.map λt=>t.worth ns (cs++[(i:Int)]++st) p)) _
       show some (HO.lst (_++[V.int (((cH (ns.length-(cs.length+1))).map λst=>hor s p (ts.map λt=>t.worth ns (cs++[(i:Int)]++st) p)).sum % p)]))=_;rw[e2];rfl
     . rw[aD hc];exact S5 _ _ (S4 c o hc e)
 . rintro σ H4 ⟨x7,x8,rfl,hL4,S4⟩;erw[0,q L H4 L0 (S02.but L0 S4) hL4]
def neS{a b:Str}(h:¬ a=b):¬ V.str a=V.str b:=λz=>h (V.str.inj z)
open Classical in
def IU(p a:Int):Int:=if h:∃g:Int,0<g/\g<p/\g*a % p=1 then h.choose else 0
def Gj{p a g k:Int}(g0:0<g)(g1:g<p)(hg:g*a % p=1)(k0:0<k)(k1:k<p)(hk:k*a % p=1):g=k:=by
 let e1:g*(k*a) % p=g:=by
  rw[qX0,hk,jO1,jE0,qL0 #[0] g1]
 let e2:k*(g*a) % p=k:=by
  rw[qX0,hg,jO1,jE0,qL0 #[0] k1]
 let e3:g*(k*a) % p=k*(g*a) % p:=by rw[Int.mul_left_comm]
 exact e1.symm.trans (e3.trans e2)
def Bg{p a g:Int}(g0:0<g)(g1:g<p)(hg:g*a % p=1):IU p a=g:=by
 let h:∃g:Int,0<g/\g<p/\g*a % p=1:=%[g,g0,g1|hg]
 unfold IU;rw[dif_pos h];erw[k0,k1,hk]at h.choose_spec;exact Gj k0 k1 hk g0 g1 hg
def oY(p x y:Int):Int:=if y=0 then 0 else x*IU p y % p
def opV(p:Int)(s:Str)(x y:Int):Int:=
 if s="+" then(x+y) % p else if s="-" then(x-y) % p else if s="*" then x*y % p else if s="/" then oY p x y else if s="=" then(if x=y then 1 else 0)else if x<y then 1 else 0
def GX{p:Int}(hp:0<p):0<=oY p x y/\oY p x y<p:=by
 unfold oY
 split
 . omega
 . erw[qE0 _ #[0],qG0 _ hp]
def Iv{p:Int}(hp:1<p):0<=opV p s x y/\opV p s x y<p:=by
 let m:∀z:Int,0<=z % p/\z % p<p:=λz=>%[qE0 _ #[0]|qG0 _ #[0]]
 unfold opV
 split
 . exact m _
 . split
   . exact m _
   . split
     . exact m _
     . split
       . exact GX #[0]
       . split <;> split <;> omega
instance spDiv:∀(x y p:Int),vs=[.int x,.int y,.int p]->Pr p->p<=999983->0<=x->x<p->0<=y->y<p->Q (.int (oY p x y)) H:=1
def zv:FnScope Ws Ws (aj pO):=%[|5]
def zS(F:#["divided",pO])(fN:#[1,"inverse_of",["a","p"],spInv]):#[2,f,fd,Ws,spDiv]:=by
 exists zv
 erw[x,y,p,1,pp,p9,x0,x1,y0,y1,q]at h;refine⟨_,(ad (aJ (ai aQ (pv 1) ag (ay _)) (af (am ag)) aB)
  (af (am (au ba (au cq (pv 0) (ax fN hr ⋯ rfl %[1,2|ae])) (pv 2))))),?_⟩
 unfold oY at q;erw[0,1,0,6]
 by_cases c:y=0
 . rw[O9 c]at q;exact aW (congrArg V.int c) q
 . rw[O8 c]at q;apply aE (λz=>c (V.int.inj z)) ?_;erw[0,0,0,y,p,1,pp,p9,3,y1,λg g0 g1 hg=>?_];rw[Bg g0 g1 hg]at q;erw[2,.inl %[3|3],0,2,(by show 0<p;omega),q]
def signW:List Str:=["+","-","*","/","=","<"]
instance spOp:∀(s:Str)(x y p:Int),vs=[.str s,.int x,.int y,.int p]->s∈signW->Pr p->p<=999983->0<=x->x<p->0<=y->y<p->Q (.int (opV p s x y)) H:=1
def xB:FnScope Wg Wg (aj mZ):=%[|5]
def opV_1:opV p "+" x y=(x+y) % p:=O9 rfl
def opV_2:opV p "-" x y=(x-y) % p:=by unfold opV;rw[O8 ⋯,O9 rfl]
def opV_3:opV p "*" x y=x*y % p:=by unfold opV;rw[O8 ⋯,O8 ⋯,O9 rfl]
def opV_4:opV p "/" x y=oY p x y:=by unfold opV;rw[O8 ⋯,O8 ⋯,O8 ⋯,O9 rfl]
def opV_5:opV p "=" x y=if x=y then 1 else 0:=by unfold opV;rw[O8 ⋯,O8 ⋯,O8 ⋯,O8 ⋯,O9 rfl]
def opV_6:opV p "<" x y=if x<y then 1 else 0:=by unfold opV;rw[O8 ⋯,O8 ⋯,O8 ⋯,O8 ⋯,O8 ⋯]
def xR(F:#["op_value",mZ])(r6:#[2,"divided",Ws,spDiv]):#[3,f,fd,Wg,spOp]:=by
 exists xB
 erw[s,x,y,p,1,hs,pp,p9,x0,x1,y0,y1,q]at h;let p0:0<p:=#[0]
 refine⟨_,(ad (aJ (ai aQ (pv 0) aF (ay _)) (af (am (au ba (au aV (pv 1) (pv 2)) (pv 3)))) aB)
  (ad (aJ (ai aQ (pv 0) aF (ay _)) (af (am (au ba (au bp (pv 1) (pv 2)) (pv 3)))) aB)
  (ad (aJ (ai aQ (pv 0) aF (ay _)) (af (am (au ba (au cq (pv 1) (pv 2)) (pv 3)))) aB)
  (ad (aJ (ai aQ (pv 0) aF (ay _)) (af (am (ax r6 hr ⋯ rfl %[1,2,3|ae]))) aB)
  (ad (aJ (ai aQ (pv 0) aF (ay _)) (af (am (xJ (ai aQ (pv 1) (pv 2) (ay _)) ag ag))) aB)
  (af (am (xJ (ai gq (pv 1) (pv 2) (ay _)) ag ag)))))))),?_⟩
 let hs':s="+"∨s="-"∨s="*"∨s="/"∨s="="∨s="<":=by simpa [signW]using hs
 rcases hs' with rfl | rfl | rfl | rfl | rfl | rfl
 . rw[opV_1]at q;erw[0,1,0,aW rfl ?_];erw[0,0,2,0,2,p0,q]
 . rw[opV_2]at q;erw[0,1,0,7];erw[0,1,0,aW rfl ?_];erw[0,0,2,0,2,p0,q]
 . rw[opV_3]at q;erw[0,1,0,7];erw[0,1,0,7];erw[0,1,0,aW rfl ?_];erw[0,0,2,.inl %[3|3],0,2,p0,q]
 . rw[opV_4]at q;erw[0,1,0,7];erw[0,1,0,7];erw[0,1,0,7];erw[0,1,0,aW rfl ?_];erw[0,0,0,x,y,p,1,pp,p9,x0,x1,y0,y1,q]
 . rw [opV_5]at q;erw[0,1,0,7];erw[0,1,0,7];erw[0,1,0,7];erw[0,1,0,7];erw[0,1,0,aW rfl ?_];erw[0,0,1,0,6]
   by_cases c:x=y
   . rw[O9 c]at q;exact aW (congrArg V.int c) q
   . rw[O8 c]at q;exact aE (λz=>c (V.int.inj z)) q
 . rw [opV_6]at q;erw[0,1,0,7];erw[0,1,0,7];erw[0,1,0,7];erw[0,1,0,7];erw[0,1,0,7];erw[0,0,2,0,6]
   by_cases c:x<y
   . rw[O9 c]at q;exact aW c q
   . rw[O8 c]at q;exact aE c q
def rf{t':TS}(h:PSs X ss t)(hw:∀D σ H,t' D σ H->t D σ H):PSs X ss t':=λO7 s σ H D I k=>h O7 s σ H D I (hw _ _ _ k)
inductive Tm where
 |num (n:Int) | box (x:Str) | plain (w:Str) | ask (w:Str) (a:Tm) | op (s:Str) (a b:Tm)
def Tm.size:Tm->Nat
 |.num _=>1 | .box _=>1 | .plain _=>1 | .ask _ a=>a.size+1 | .op _ a b=>a.size+b.size+1
def Tm.depth:Tm->Nat
 |.num _=>1 | .box _=>1 | .plain _=>1 | .ask _ a=>a.depth+1 | .op _ a b=>max a.depth b.depth+1
def Tm.depth_pos:∀t:Tm,1<=t.depth
 |.num _=>zH0 _ | .box _=>zH0 _ | .plain _=>zH0 _ | .ask _ a=>jP1 .. | .op _ a b=>jP1 ..
def Tm.size_pos:∀t:Tm,1<=t.size
 |.num _=>zH0 _ | .box _=>zH0 _ | .plain _=>zH0 _ | .ask _ a=>jP1 .. | .op _ a b=>jP1 ..
def plainW:List Str:=["round","due","asked"]
def askW:List Str:=["coin","true"]
inductive TmAt(H:Hp):V->Tm->Prop
 |num {a:Addr} {n:Int}:H a=some (.tup [.str "num",.int n])->TmAt H (.ref a) (.num n)
 |box {a:Addr} {x:Str}:H a=some (.tup [.str "box",.str x])->TmAt H (.ref a) (.box x)
 |plain {a:Addr} {w:Str}:H a=some (.tup [.str w])->TmAt H (.ref a) (.plain w)
 |ask {a:Addr} {w:Str} {v:V} {t:Tm}:H a=some (.tup [.str w,v])->TmAt H v t->TmAt H (.ref a) (.ask w t)
 |op {a:Addr} {s:Str} {v u:V} {t r:Tm}:H a=some (.tup [.str "op",.str s,v,u])->TmAt H v t->TmAt H u r->TmAt H (.ref a) (.op s t r)
def TmAt.mono(k:cG H H')(h:TmAt H v t):TmAt H' v t:=by
 induction h with
 |num e=>exact .num (k _ _ e)
 |box e=>exact .box (k _ _ e)
 |plain e=>exact .plain (k _ _ e)
 |ask e _ ih=>exact .ask (k _ _ e) ih
 |op e _ _ i1 i2=>exact .op (k _ _ e) i1 i2
inductive Hr where
 |fin | go (n:Int) | iff (t:Tm) (n:Int) | set (x:Str) (t:Tm) | say (t:Tm)
inductive HrAt(H:Hp):V->Hr->Prop
 |fin {a:Addr}:H a=some (.tup [.str "end"])->HrAt H (.ref a) .fin
 |go {a:Addr} {n:Int}:H a=some (.tup [.str "go",.int n])->HrAt H (.ref a) (.go n)
 |iff {a:Addr} {v:V} {t:Tm} {n:Int}:H a=some (.tup [.str "if",v,.int n])->TmAt H v t->HrAt H (.ref a) (.iff t n)
 |set {a:Addr} {x:Str} {v:V} {t:Tm}:H a=some (.tup [.str "set",.str x,v])->TmAt H v t->HrAt H (.ref a) (.set x t)
 |say {a:Addr} {v:V} {t:Tm}:H a=some (.tup [.str "say",v])->TmAt H v t->HrAt H (.ref a) (.say t)
def HrAt.mono(k:cG H H')(h:HrAt H v r):HrAt H' v r:=by
 cases h with
 |fin e=>exact .fin (k _ _ e)
 |go e=>exact .go (k _ _ e)
 |iff e t=>exact .iff (k _ _ e) (t.mono k)
 |set e t=>exact .set (k _ _ e) (t.mono k)
 |say e t=>exact .say (k _ _ e) (t.mono k)
section
variable {CM CA CG:Addr}
abbrev vV:Stmt:=bn lc 0
abbrev sC:Stmt:=bn lc 1
abbrev vW:Stmt:=bn lc 2
abbrev pQ:Stmt:=bn lc 3
abbrev vU:Stmt:=bn lc 4
abbrev vN:Stmt:=bn lJ 0
abbrev zy:Stmt:=bn lJ 1
abbrev zz:Stmt:=bn lJ 2
def al(g:Addr)(nr mn hd s:Int)(aT:Addr)(tr:V):List (Str×V):=[("game",.ref g),("number",.int nr),("many",.int mn),("held",.int hd),("s",.int s),("tossed",.ref aT),("truths",tr)]
def xg:(al g nr mn hd s aT tr).lookup ("game":Str)=some (.ref g):=by rfl'
structure ATxt(K:W.Frag)(mg:#[9])(C:Addr):Prop where
 cl:Cls K C
 nG:NoAttr K C "game"
 nN:NoAttr K C "number"
 nM:NoAttr K C "many"
 nH:NoAttr K C "held"
 nS:NoAttr K C "s"
 nT:NoAttr K C "tossed"
 nR:NoAttr K C "truths"
 mgC:mg "Asking"=some (.ref C)
def ml(g h:Addr)(r:Int)(b:Addr):List (Str×V):=[("game",.ref g),("helper",.ref h),("next_round",.int r),("boxes",.ref b)]
section
variable {g h b:Addr}{r:Int}
def ml_g:(ml g h r b).lookup ("game":Str)=some (.ref g):=by rfl'
def II:(ml g h r b).lookup ("helper":Str)=some (.ref h):=by rfl'
def KC:(ml g h r b).lookup ("next_round":Str)=some (.int r):=by rfl'
def FI:(ml g h r b).lookup ("boxes":Str)=some (.ref b):=by rfl'
def ml_n1:(ml g h r b).lookup ("do_row":Str)=none:=by rfl'
def JF:(ml g h r b).lookup ("say":Str)=none:=by rfl'
def Ab:(ml g h r b).length<1000:=by show 4<1000;decide
def FG{v:Int}:bJ "next_round" (.int v) (ml g h r b)=ml g h v b:=by rfl'
end
structure MTxt(K:W.Frag)(mg:#[9])(C:Addr):Prop where
 cl:Cls K C
 nG:NoAttr K C "game"
 nH:NoAttr K C "helper"
 nR:NoAttr K C "next_round"
 nB:NoAttr K C "boxes"
 mgC:mg "Machine"=some (.ref C)
def BxAt(H:Hp)(b:Addr)(bx:Str->Int)(m:Nat):Prop:=∃Pb:List (Key×V),H b=some (.dK Pb)/\Pb.length<=m/\∀x:Str,(ir Pb (.inr x)).getD (.int 0)=.int (bx x)
def gu(bx:Str->Int)(x:Str)(n:Int):Str->Int:=λy=>if y=x then n else bx y
def BxAt.keep{H':Hp}(h:BxAt H b bx m)(k:∀o,H b=some o->H' b=some o):BxAt H' b bx m:=by
 erw[Pb,e,r]at h;erw[Pb,k _ e,r]
def Lo{Pb:List (Key×V)}{bx:Str->Int}(x:Str)(n:Int)(h:∀x:Str,(ir Pb (.inr x)).getD (.int 0)=.int (bx x)):∀y:Str,(ir (oC Pb (.inr x) (.int n)) (.inr y)).getD (.int 0)=.int (gu bx x n y):=λy=>by
 rw[DT];unfold gu
 by_cases c:y=x
 . rw[O9 (by rw[c]),O9 c];rfl
 . rw[O8 (λz=>c (Sum.inr.inj z)),O8 c];exact h y
section
variable {g aT:Addr}{nr mn hd s:Int}{tr:V}
def Lu:(al g nr mn hd s aT tr).lookup ("number":Str)=some (.int nr):=by rfl'
def al_m:(al g nr mn hd s aT tr).lookup ("many":Str)=some (.int mn):=by rfl'
def al_h:(al g nr mn hd s aT tr).lookup ("held":Str)=some (.int hd):=by rfl'
def al_s:(al g nr mn hd s aT tr).lookup ("s":Str)=some (.int s):=by rfl'
def al_t:(al g nr mn hd s aT tr).lookup ("tossed":Str)=some (.ref aT):=by rfl'
def Jn:(al g nr mn hd s aT tr).lookup ("truths":Str)=some tr:=by rfl'
def al_n1:(al g nr mn hd s aT tr).lookup ("plain_value":Str)=none:=by rfl'
def al_n2:(al g nr mn hd s aT tr).lookup ("coin_at":Str)=none:=by rfl'
def al_n3:(al g nr mn hd s aT tr).lookup ("true_numbers":Str)=none:=by rfl'
def al_n4:(al g nr mn hd s aT tr).lookup ("true_at":Str)=none:=by rfl'
def Hs:bJ "truths" v (al g nr mn hd s aT tr)=al g nr mn hd s aT v:=by rfl'
def Ht:(al g nr mn hd s aT tr).length<1000:=by show 7<1000;decide
end
structure Ak where
 ns:List Str
 ts:List Tr
 p:Int
 nr:Int
 mn:Int
 hd:Int
 s:Int
 to:List Int
def Ak.tru(z:Ak):List Int:=if z.nr=0 then z.ts.map (λt=>(cnt t z.ns:Int))else dR z.ns z.ts z.s z.p z.to (bm z.ts (z.ns.getD z.to.length "")+1).toNat
structure AkOk(z:Ak):Prop where
 gk:GmK z.ns z.ts z.p
 n6:z.ns.length<=6
 nr0:0<=z.nr
 nrt:0<z.nr->z.to.length<z.ns.length
 po:bY z.to z.p
 s0:0<=z.s
 s1:z.s<z.p
 h0:0<=z.hd
 h1:z.hd<z.p
 tl:z.to.length<=100
def AkAt(CA CG:Addr)(H:Hp)(k g v:Addr)(z:Ak):Prop:=∃(dk aT a b d:Addr)(tv:List V)(tr:V),H k=some (.ins CA dk (al g z.nr z.mn z.hd z.s aT tr))/\GameAt CG H g a b d z.p/\H a=some (.tup (z.ns.map V.str))/\H b=some (.tup tv)/\TreesAt H tv z.ts/\H d=some (.lst ((z.ns.map (bm z.ts)).map V.int))/\d≠v/\H aT=some (.tup (z.to.map V.int))/\(tr=.non∨∃l,tr=.ref l/\l≠v/\H l=some (.lst (z.tru.map V.int)))
def AkAt.same(h:AkAt CA CG H k g v z)(s:Same H H'):AkAt CA CG H' k g v z:=by
 erw[dk,aT,a,b,d,tv,tr,h1,h2,h3,h4,h5,h6,h7,h8,h9]at h;erw[dk,aT,a,b,d,tv,tr,s _ _ h1,h2.same s,s _ _ h3,s _ _ h4,h5.mono (aY s),s _ _ h6,h7,s _ _ h8,h9.imp_right fun⟨l,e,n,r⟩=>%[l,e,n|s _ _ r]]
def AkAt.but2{H':Hp}{b:Addr}{Pb:List (Key×V)}{ys:List V}(h:AkAt CA CG H k g v z)(hb:H b=some (.dK Pb))(hv:H v=some (.lst ys))(s:∀a o,a≠b->a≠v->H a=some o->H' a=some o):AkAt CA CG H' k g v z:=by
 erw[dk,aT,a,b',d,tv,tr,h1,%[dg|h2],h3,h4,h5,h6,h7,h8,h9]at h;let T:cG H H':=λc xs e=>s _ _ (bt e hb nofun) (bt e hv nofun) e
 erw[dk,aT,a,b',d,tv,tr,s _ _ (bt h1 hb nofun) (bt h1 hv nofun) h1,%[dg|s _ _ (bt h2 hb nofun) (bt h2 hv nofun) h2],T _ _ h3,T _ _ h4,h5.mono T,s _ _ (bt h6 hb nofun) h7 h6,h7,T _ _ h8,h9.imp_right fun⟨l,e,n,r⟩=>%[l,e,n|s _ _ (bt r hb nofun) n r]]
def mz(z:Ak):List Int:=if 1<z.ts.length then z.s::z.to else z.to
def jz(z:Ak)(i:Int):Int:=if 1<=i/\i<=((mz z).length:Int)then(mz z).getD (i-1).toNat 0 else 0
def fO(z:Ak)(i:Int):Int:=if 0<z.nr then val z.p z.tru i else if i<(z.tru.length:Int)then z.tru.getD i.toNat 0 % z.p else 0
def pT(z:Ak)(w:Str):Int:=if w="round" then z.nr % z.p else if w="asked" then z.mn % z.p else z.hd
def AkOk.p0(k:AkOk z):2<z.p:=k.gk.p2
def lx(h:bY xs p)(p0:0<p)(i:Nat):0<=xs.getD i 0/\xs.getD i 0<p:=by
 rw[qJ0];cases e:xs[i]? with
 |none=>erw[qH1 0,p0]
 |some x=>exact h x (qF0 e)
def Hc(k:AkOk z):bY (mz z) z.p:=by
 unfold mz
 split
 . intro x hx;rcases zX0 hx with rfl | hx
   . erw[k.s0,k.s1]
   . exact k.po x hx
 . exact k.po
def DE(k:AkOk z)(i:Int):0<=jz z i/\jz z i<z.p:=by
 have:=k.p0
 unfold jz
 split
 . exact lx (Hc k) #[0] _
 . omega
def BQ(k:AkOk z)(i:Int):0<=fO z i/\fO z i<z.p:=by
 have:=k.p0
 unfold fO
 split
 . erw[qE0 _ #[0],qG0 _ #[0]]
 . split
   . erw[qE0 _ #[0],qG0 _ #[0]]
   . omega
def zH(k:AkOk z)(w:Str):0<=pT z w/\pT z w<z.p:=by
 have:=k.p0
 unfold pT
 split
 . erw[qE0 _ #[0],qG0 _ #[0]]
 . split
   . erw[qE0 _ #[0],qG0 _ #[0]]
   . erw[k.h0,k.h1]
instance spPlain(CA CG:Addr):∀(k g v:Addr)(z:Ak)(w:Str),vs=[.ref k,.str w]->AkAt CA CG H k g v z->0<z.p->Q (.int (pT z w)) H:=1
def Ck:FnScope Wh Wh (aj sC):=%[|5]
def CJ(F:#["plain_value","Asking.plain_value",sC])(TA:ATxt K mg CA)(TG:GTxt K mg CG):#[1,f,fd,Wh,spPlain CA CG]:=by
 exists Ck
 erw[k,g,v,z,w,1,%[dk,aT,a,b,d,tv,tr,hk,%[dg|hg]|_],p0,q]at h;refine⟨_,(ad (aJ (ai aQ (pv 1) aF (ay _)) (af (am (au ba (az (pv 0) rfl) (az (az (pv 0) rfl) rfl)))) aB)
  (ad (aJ (ai aQ (pv 1) aF (ay _)) (af (am (au ba (az (pv 0) rfl) (az (az (pv 0) rfl) rfl)))) aB)
  (af (am (az (pv 0) rfl))))),?_⟩
 unfold pT at q;erw[0,1,0,6]
 by_cases c:w="round"
 . rw[O9 c]at q;apply aW (congrArg V.str c) ?_;erw[0,k,CA,dk,_,0,hk,TA.cl,TA.nN,Lu,0,k,CA,dk,_,0,hk,TA.cl,TA.nG,xg,g,CG,dg,_,0,hg,TG.cl,TG.nF,eZ ..,2,p0,q]
 . rw [O8 c]at q;apply aE (neS c) ?_;erw[0,1,0,6]
   by_cases c:w="asked"
   . rw[O9 c]at q;apply aW (congrArg V.str c) ?_;erw[0,k,CA,dk,_,0,hk,TA.cl,TA.nM,al_m,0,k,CA,dk,_,0,hk,TA.cl,TA.nG,xg,g,CG,dg,_,0,hg,TG.cl,TG.nF,eZ ..,2,p0,q]
   . rw[O8 c]at q;apply aE (neS c) ?_;erw[0,k,CA,dk,_,0,hk,TA.cl,TA.nH,al_h,q]
instance spCoinAt(CA CG:Addr):∀(k g v:Addr)(z:Ak)(i:Int),vs=[.ref k,.int i]->AkAt CA CG H k g v z->z.to.length<=100->(∀H',Same H H'->Q (.int (jz z i)) H'):=1
def C1:FnScope ["self","place","tossed"] WN (aj vW):=%[|5]
instance tCoinE(z:Ak)(Dn:Ends)(σ:St)(H:Hp):∀(x0:Option V)(a:Addr)(i:Int),σ=[x0,some (.int i),some (.ref a)]->H a=some (.tup ((mz z).map V.int))->Dn.rt (.int (jz z i)) H:=0
def Fs(F:#["coin_at","Asking.coin_at",vW])(B:Bl mg)(TA:ATxt K mg CA)(TG:GTxt K mg CG):#[1,f,fd,WN,spCoinAt CA CG]:=by
 exists C1
 erw[k,g,v,z,i,1,%[dk,aT,a,b,d,tv,tr,hk,%[dg|hg],ha,hb,TS,_,_,hT|_],tl,q]at h;let vl:=TS.length;refine⟨_,(ad #[ao,2,C1,az (pv 0) rfl]
  (ad (aJ (ai iS (aG aI rfl B.len zD1 %[az (az (pv 0) rfl) rfl|ae]) ag (ay _)) (af #[ao,2,C1,au op_catT (aS %[az (pv 0) rfl|ae]) (pv 2)]) aB)
  (rf (t':=tCoinE z) (ad (aJ (xG uR uR ag (pv 1) (aG aI rfl B.len zD1 %[2|ae])) (af (am (aM ix_tup (pv 2) (au bp (pv 1) ag) #[1]))) aB)
  (af (am ag))) (by
   rintro Dn σ H ⟨x0,a,i,rfl,ha,q⟩;unfold jz at q;erw[0,2,0,6];let el:(((mz z).map V.int).length:Int)=((mz z).length:Int):=by rw[zF0]
   by_cases c1:1<=i
   . apply aW c1 ?_;erw[0,a,0,.inr (zC0 ha),2,0,6]
     by_cases c2:i<=((mz z).length:Int)
     . rw [O9 %[c1|c2]]at q;apply aW (by rw[el];exact c2) ?_;obtain⟨j,ej⟩:∃j:Nat,i-1=(j:Int):=⟨(i-1).toNat,#[0]⟩
       rw[ej,qV0]at q;erw[0,0,2,a,_,2,zC0 ha,6,q];rw[ej];exact oT #[0]
     . rw[O8 (λz=>c2 z.2)]at q;exact aE (by rw[el];exact c2) q
   . rw[O8 (λz=>c1 z.1)]at q;exact aE c1 %[0|cE q])))),?_⟩
 erw[0,k,CA,dk,_,0,hk,TA.cl,TA.nT,al_t,6];erw[0,k,CA,dk,_,0,hk,TA.cl,TA.nG,xg,g,CG,dg,_,0,hg,TG.cl,TG.nT,my ..,b,0,.inr (zC0 hb),2,0,6]
 by_cases c:1<z.ts.length
 . apply aW (by rw[vl];omega) ?_;let ec:mz z=z.s::z.to:=O9 c;erw[0,k,CA,dk,_,0,hk,TA.cl,TA.nS,al_s,y1S,λt ht=>?_];let I:=zE0 ht (.tup [.int z.s]);let g1:upd H t (.tup [.int z.s]) t=some (.tup [.int z.s]):=ah;generalize upd H t (.tup [.int z.s])=H1 at I g1;erw[0,t,aT,2,zC0 g1,zC0 (I _ _ hT),(λz=>nomatch z),cx (by show 1+(z.to.map V.int).length<=1000;rw[zF0];omega),λe=>?_,λ_ y hy=>?_]
   . erw[_,t,i,1,6,q _ I];rw[ec,g1,zZ0,e]
   . erw[_,y,i,1,6,q _ (I.trans (zE0 hy _))];rw[ah,ec];rfl
 . apply aE (by rw[vl];omega) ?_;let ec:mz z=z.to:=O8 c;erw[_,aT,i,1,by rw[ec];exact hT,q _ λ_ _ e=>e]
end
section
variable {CM CA CG:Addr}
def lj(ns:List Str)(ts:List Tr)(s p:Int)(cs:List Int)(n:Nat):(dR ns ts s p cs n).length=n:=by
 unfold dR;rw[zF0,qR0]
def EG{p:Int}(hp:0<p):bY (dR ns ts s p cs n) p:=λx hx=>by
 unfold dR at hx;let%[k,_|1]:=List.mem_map.mp hx;erw[qE0 _ #[0],qG0 _ hp]
def AkOk.deg(k:AkOk z)(h:0<z.nr):∃x,z.ns[z.to.length]?=some x/\z.ns.getD z.to.length ""=x/\0<=bm z.ts x/\bm z.ts x<z.p/\bm z.ts x<=400:=by
 let hl:=k.nrt h;erw[z.ns[z.to.length],zL0 hl,by rw[qJ0,zL0 hl];rfl,6];let hm:=qP0 hl;let%[d0|d1]:=k.gk.deg _ hm;erw[d0,d1,6];let t0:z.ts≠[]:=λe=>by have:=k.gk.t1;rw[e]at this;cases this
 have:=oZ (p:=401) (x:=z.ns[z.to.length]) t0 λt ht=>by
  let h1:=(k.gk.tok t ht).2.2.2;let h2:=t.names_len;let h3:=jV0 (a:=z.ns[z.to.length]) (l:=t.names);omega
 omega
def AkOk.row(k:AkOk z)(h:0<z.nr):mJ z.tru z.p:=by
 let%[x,hx,ex,d0,d1|d4]:=k.deg h;let p2:=k.p0;let p9:=k.gk.p9;let e:z.tru=dR z.ns z.ts z.s z.p z.to (bm z.ts x+1).toNat:=by
  unfold Ak.tru;rw[O8 #[0],ex]
 rw[e];unfold mJ;rw[lj];erw[3,3,3,λj=>?_]
 have:=lx (EG (ns:=z.ns) (ts:=z.ts) (s:=z.s) (cs:=z.to) (n:=(bm z.ts x+1).toNat) (show 0<z.p by omega)) #[0] j
 omega
instance spTruths(CA CG:Addr):∀(k g v:Addr)(z:Ak)(ys:List V),vs=[.ref k]->AkAt CA CG H k g v z->AkOk z->H v=some (.lst ys)->(∀(l:Addr)(H':Hp),H' l=some (.lst (z.tru.map V.int))->AkAt CA CG H' k g v z->SameBut k H H'->Q (.ref l) H'):=1
def zx:FnScope WA WA (aj pQ):=%[|5]
def zU(F:#["true_numbers","Asking.true_numbers",pQ])(TA:ATxt K mg CA)(fY:#[16,"counts_of",WC,spCounts CG])(oz:#[14,"true_row",["game","s","coins"],spTrue CG]):#[17,f,fd,WA,spTruths CA CG]:=by
 exists zx
 erw[k,g,v,z,ys,1,AK,ok,hv,q]at h;refine⟨_,(ad (aJ (ai zK (az (pv 0) rfl) ny (ay _)) (af (aJ (ai aQ (az (pv 0) rfl) ag (ay _)) (af (aR (pv 0) (ax fY hr ⋯ rfl %[az (pv 0) rfl|ae]) rfl)) (af (aR (pv 0) (ax oz hr ⋯ rfl %[az (pv 0) rfl,az (pv 0) rfl,az (pv 0) rfl|ae]) rfl)))) aB)
  (af (am (az (pv 0) rfl)))),?_⟩
 let AK':=AK;erw[dk,aT,a,b,d,tv,tr,hk,GA,ha,hb,TS,hd,dv,hT,ht]at AK';let t0:z.ts≠[]:=λe=>by have:=ok.gk.t1;rw[e]at this;cases this
 let t10:=ok.gk.t10;let p2:=ok.p0;let p9:=ok.gk.p9;erw[0,k,CA,dk,_,0,hk,TA.cl,TA.nR,Jn,6];rcases ht with rfl | ⟨l,rfl,lv,hl⟩
 . -- not yet asked
   let put:∀(l:Addr)(H1:Hp),H l=none->Same H H1->H1 l=some (.lst (z.tru.map V.int))->AkAt CA CG (upd H1 k (.ins CA dk (al g z.nr z.mn z.hd z.s aT (.ref l)))) k g v z/\(upd H1 k (.ins CA dk (al g z.nr z.mn z.hd z.s aT (.ref l)))) l=some (.lst (z.tru.map V.int))/\SameBut k H (upd H1 k (.ins CA dk (al g z.nr z.mn z.hd z.s aT (.ref l)))):=by
    intro l H1 l0 S1 hl;let lk:l≠k:=(aO hk l0).symm;let U:∀{c:Addr}{o:HO},c≠k->H1 c=some o->(upd H1 k (.ins CA dk (al g z.nr z.mn z.hd z.s aT (.ref l)))) c=some o:=λn e=>by rw[aD n];exact e
    let gk:g≠k:=λe=>by
     erw[dg,hg]at GA;rw[e,hk]at hg;cases hg
    let kT:cG H (upd H1 k (.ins CA dk (al g z.nr z.mn z.hd z.s aT (.ref l)))):=λc xs e=>U (bt e hk nofun) (S1 _ _ e)
    erw[dg,hg]at GA;erw[%[dk,aT,a,b,d,tv,.ref l,ah,%[dg|U gk (S1 _ _ hg)],kT _ _ ha,kT _ _ hb,TS.mono kT,U (bt hd hk nofun) (S1 _ _ hd),dv,kT _ _ hT|.inr %[l,1,(aO hv l0).symm|U lk hl]],U lk hl,(zM0 S1).trans (SameBut.upd _)]
   erw[1,0,du ?_];erw[0,k,CA,dk,_,0,hk,TA.cl,TA.nN,Lu,1,0,6]
   by_cases c:z.nr=0
   . apply aW (congrArg V.int c) ?_;erw[0,k,CA,dk,_,0,hk,TA.cl,TA.nG,xg,g,a,b,d,z.ns,tv,z.ts,z.p,1,GA,ha,ok.n6,hb,TS,t10,λt ht=>%[(ok.gk.tok t ht).1|by have:=(ok.gk.tok t ht).2.2.1;omega],λl H1 l0 S1 hl=>?_];let et:z.tru=z.ts.map (λt=>(cnt t z.ns:Int)):=O9 c;rw[←et]at hl;let%[A1,L1|B1]:=put l H1 l0 S1 hl;erw[0,k,CA,dk,0,S1 _ _ hk,TA.cl,TA.nR,Ht,6];rw[Hs];erw[0,k,CA,dk,_,0,ah,TA.cl,TA.nR,Jn,q l _ L1 A1 B1]
   . apply aE (λe=>c (V.int.inj e)) ?_;let n0:=ok.nr0;let%[x,hx,ex,d0,d1|d4]:=ok.deg #[0];erw[0,k,CA,dk,_,0,hk,TA.cl,TA.nG,xg,0,k,CA,dk,_,0,hk,TA.cl,TA.nS,al_s,0,k,CA,dk,_,0,hk,TA.cl,TA.nT,al_t,g,a,b,d,aT,z.ns,tv,z.ts,z.to,x,z.s,z.p,1,GA,ha,ok.n6,hb,TS,t0,t10,λt ht=>%[(ok.gk.tok t ht).1|(ok.gk.tok t ht).2.2.1],hd,hT,hx,d1,3,ok.po,3,3,λl H1 l0 S1 hl=>?_];let et:z.tru=dR z.ns z.ts z.s z.p z.to (bm z.ts x+1).toNat:=by
      unfold Ak.tru;rw[O8 c,ex]
     rw[←et]at hl;let%[A1,L1|B1]:=put l H1 l0 S1 hl;erw[0,k,CA,dk,0,S1 _ _ hk,TA.cl,TA.nR,Ht,6];rw[Hs];erw[0,k,CA,dk,_,0,ah,TA.cl,TA.nR,Jn,q l _ L1 A1 B1]
 . erw[1,0,cE ?_];erw[0,k,CA,dk,_,0,hk,TA.cl,TA.nR,Jn,q l H hl AK (SameBut.refl _ _)]
instance spTrueAt(CA CG:Addr):∀(k g v:Addr)(z:Ak)(ys:List V)(i:Int),vs=[.ref k,.int i]->AkAt CA CG H k g v z->AkOk z->H v=some (.lst ys)->0<=i->i<z.p->(∀H',AkAt CA CG H' k g v z->SameBut k H H'->Q (.int (fO z i)) H'):=1
def LR:FnScope ["self","place","truths"] WN (aj vU):=%[|5]
def Fq(F:#["true_at","Asking.true_at",vU])(B:Bl mg)(TA:ATxt K mg CA)(TG:GTxt K mg CG)(mT:Meth K CA "true_numbers" fT)(GT:#[17,fT,fdT,WA,spTruths CA CG])(bT:Binds K fdT WA [])(cJ:#[4,"value_at",WL,spVal]):#[18,f,fd,WN,spTrueAt CA CG]:=by
 exists LR
 erw[k,g,v,z,ys,i,1,AK,ok,hv,i0,i1,q]at h;refine⟨_,(ad #[ao,2,LR,bz (pv 0) TA.cl mT GT hr bT .nil aZ]
  (ad (aJ (ai iS (az (pv 0) rfl) ag (ay _)) (af (am (ax cJ hr ⋯ rfl %[2,1,az (az (pv 0) rfl) rfl|ae]))) aB)
  (ad (aJ (ai gq (pv 1) (aG aI rfl B.len zD1 %[2|ae]) (ay _)) (af (am (au ba (aM ix_list (pv 2) (pv 1) #[1]) (az (az (pv 0) rfl) rfl)))) aB)
  (af (am ag))))),?_⟩
 let p2:=ok.p0;let p9:=ok.gk.p9;let%[dk,aT,_,_,_,_,tr,hk|_]:=id AK;erw[0,k,dk,0,hk,al_n3,k,g,v,z,ys,1,AK,ok,hv,λl H1 hl A1 S1=>?_];let A1':=A1;erw[dk1,aT1,a1,b1,d1,tv1,tr1,hk1,%[dg1|hg1],_]at A1';unfold fO at q;erw[0,k,CA,dk1,_,0,hk1,TA.cl,TA.nN,Lu,2,0,6]
 by_cases c:0<z.nr
 . rw[O9 c]at q;apply aW c ?_;erw[0,0,0,k,CA,dk1,_,0,hk1,TA.cl,TA.nG,xg,g,CG,dg1,_,0,hg1,TG.cl,TG.nF,eZ ..,l,z.tru,i,z.p,1,.inl hl,ok.row c,ok.gk.pr,p9,i0,i1,λH2 S2=>q H2 (A1.same S2) (S1.trans (zM0 S2))]
 . rw [O8 c]at q;apply aE c ?_;erw[0,0,l,0,.inl (zG0 hl),2,0,6];let el:((z.tru.map V.int).length:Int)=(z.tru.length:Int):=by rw[zF0]
   by_cases c2:i<(z.tru.length:Int)
   . rw[O9 c2]at q;apply aW (by rw[el];exact c2) ?_;let%[j|1]:=qC1 i0;rw[qV0]at q;erw[0,0,l,_,2,zG0 hl,oT #[0],0,k,CA,dk1,_,0,hk1,TA.cl,TA.nG,xg,g,CG,dg1,_,0,hg1,TG.cl,TG.nF,eZ ..,2,(by show 0<z.p;omega),q H1 A1 S1]
   . rw[O8 c2]at q;apply aE (by rw[el];exact c2) ?_;exact q H1 A1 S1
def Tm.worth(z:Ak)(bx:Str->Int):Tm->Int
 |.num n=>n % z.p | .box x=>bx x | .plain w=>pT z w
 |.ask w a=>if w="coin" then jz z (a.worth z bx)else fO z (a.worth z bx)
 |.op s a b=>opV z.p s (a.worth z bx) (b.worth z bx)
def Tm.good:Tm->Prop
 |.num _=>True | .box _=>True | .plain w=>w∈plainW | .ask w a=>w∈askW/\a.good | .op s a b=>s∈signW/\a.good/\b.good
def lE(p:Int)(bx:Str->Int):Prop:=∀x,0<=bx x/\bx x<p
def Tm.worth_rng(k:AkOk z)(hb:lE z.p bx):∀t:Tm,0<=t.worth z bx/\t.worth z bx<z.p
 |.num n=>by have:=k.p0;erw[qE0 _ #[0],qG0 _ #[0]]
 |.box x=>hb x
 |.plain w=>zH k w
 |.ask w a=>by
   show 0<=(if w="coin" then jz z (a.worth z bx)else fO z (a.worth z bx))/\(if w="coin" then jz z (a.worth z bx)else fO z (a.worth z bx))<z.p
   split
   . exact DE k _
   . exact BQ k _
 |.op s a b=>by have:=k.p0;exact Iv #[0]
instance spTm(CA CG:Addr)(n:Nat):∀(v:V)(t:Tm)(b k g sd:Addr)(z:Ak)(ys:List V)(bx:Str->Int)(m:Nat),vs=[v,.ref b,.ref k]->TmAt H v t->t.good->t.depth<=n->BxAt H b bx m->lE z.p bx->AkAt CA CG H k g sd z->AkOk z->H sd=some (.lst ys)->(∀H',AkAt CA CG H' k g sd z->SameBut k H H'->Q (.int (t.worth z bx)) H'):=1
def iU:FnScope ["term","boxes","asking","word","first","second"] WX (aj jK):=%[|5]
structure AskF(P:Program)(w:World)(K:W.Frag)(mg:#[9])(base:Heap)(CA CG fP fC fR:Addr)(fdP fdC fdR:FuncData):Prop where
 mP:Meth K CA "plain_value" fP
 GP:#[1,fP,fdP,Wh,spPlain CA CG]
 bP:Binds K fdP Wh []
 mC:Meth K CA "coin_at" fC
 GC:#[1,fC,fdC,WN,spCoinAt CA CG]
 bC:Binds K fdC WN []
 mR:Meth K CA "true_at" fR
 GR:#[18,fR,fdR,WN,spTrueAt CA CG]
 bR:Binds K fdR WN []
def DR{n:Nat}(F:#["value_of",jK])(TA:ATxt K mg CA)(TG:GTxt K mg CG)(M:AskF P w K mg base CA CG fP fC fR fdP fdC fdR)(gg:#[3,"op_value",Wg,spOp])(cK:#[n+18,"value_of",WX,spTm CA CG n]):#[n+19,f,fd,WX,spTm CA CG (n+1)]:=by
 exists iU
 erw[v,t,b,k,g,sd,z,ys,bx,m,1,T,tg,td,BX,bo,AK,ok,hs,q]at h;let hu:=JH hr;let hr1:Room 1 _:=hr.mono #[0];let hr18:Room 18 _:=hr.mono #[0];refine⟨_,(ad #[ao,3,iU,aM ix_tup (pv 0) ag #[1]]
  (ad (aJ (ai aQ (pv 3) aF (ay _)) (af (am (au ba (aM ix_tup (pv 0) ag #[1]) (az (az (pv 2) rfl) rfl)))) aB)
  (ad (aJ (ai aQ (pv 3) aF (ay _)) (af (am (EV hu (pv 1) (aM ix_tup (pv 0) ag #[1]) ag %[1,1,1|1]))) aB)
  (ad (aJ (ai aQ (pv 3) aF (ay _)) (af (am (bK (pv 2) TA.cl M.mC M.GC hr1 M.bC .nil aZ %[ax cK hr (zH0 _) rfl %[aM ix_tup (pv 0) ag #[1],1,2|ae]|ae]))) aB)
  (ad (aJ (ai aQ (pv 3) aF (ay _)) (af (am (bK (pv 2) TA.cl M.mR M.GR hr18 M.bR .nil aZ %[ax cK hr (zH0 _) rfl %[aM ix_tup (pv 0) ag #[1],1,2|ae]|ae]))) aB)
  (ad (aJ (ai aQ (pv 3) aF (ay _)) (ad #[ao,4,iU,ax cK hr (zH0 _) rfl %[aM ix_tup (pv 0) ag #[1],1,2|ae]]
   (ad #[ao,5,iU,ax cK hr (zH0 _) rfl %[aM ix_tup (pv 0) ag #[1],1,2|ae]]
   (af (am (ax gg hr #[0] rfl %[aM ix_tup (pv 0) ag #[1],4,5,az (az (pv 2) rfl) rfl|ae]))))) aB)
  (af (am (bK (pv 2) TA.cl M.mP M.GP hr1 M.bP .nil aZ %[3|ae]))))))))),?_⟩
 let AK':=AK;erw[dk,aT,ga,gb,gd,tv,tr,hk,%[dg|hg],_]at AK';let p2:=ok.p0;let p0:0<z.p:=#[0]
 let kT:∀{H':Hp},SameBut k H H'->cG H H':=λs c xs e=>s _ _ (bt e hk nofun) e
 let kB:∀{H':Hp},SameBut k H H'->BxAt H' b bx m:=λs=>BX.keep λo e=>s _ _ (by
  erw[Pb,e',_]at BX;exact bt e' hk nofun) e
 let kS:∀{H':Hp},SameBut k H H'->H' sd=some (.lst ys):=λs=>s _ _ (bt hs hk nofun) hs
 cases T with
 | @num a n e=>
   erw[0,a,_,(0),0,1,zC0 e,1,6];erw[0,1,0,aW rfl ?_];erw[0,a,_,(1),0,1,zC0 e,1,0,k,CA,dk,_,0,hk,TA.cl,TA.nG,xg,g,CG,dg,_,0,hg,TG.cl,TG.nF,eZ ..,2,p0,q H AK (SameBut.refl _ _)]
 | @box a x e=>
   erw[0,a,_,(0),0,1,zC0 e,1,6];erw[0,1,0,7];erw[0,1,0,aW rfl ?_];erw[Pb,hb,_,hx]at BX;erw[0,b,1,.inl %[Pb|.inl hb],0,a,_,(1),0,1,zC0 e,1,_,DGet.k (k:=.inr x) hb,6];rw[hx];exact q H AK (SameBut.refl _ _)
 | @plain a wd e=>
   let no:∀x:Str,x∉plainW->¬ V.str wd=V.str x:=λx hx e=>hx (by rw[←V.str.inj e];exact tg)
   erw[0,a,_,(0),0,1,zC0 e,1,6];erw[0,1,0,aE (no _ ⋯) ?_];erw[0,1,0,aE (no _ ⋯) ?_];erw[0,1,0,aE (no _ ⋯) ?_];erw[0,1,0,aE (no _ ⋯) ?_];erw[0,1,0,aE (no _ ⋯) ?_];erw[0,k,dk,0,hk,al_n1,0,k,g,sd,z,wd,1,AK,p0,q H AK (SameBut.refl _ _)]
 | @ask a wd v1 t1 e T1=>
   erw[wq,tq]at tg;let hw:wd="coin"∨wd="true":=by simpa [askW]using wq
   let d1:t1.depth<=n:=by have:t1.depth+1<=n+1:=td;omega
   let wr:=Tm.worth_rng ok bo t1;erw[0,a,_,(0),0,1,zC0 e,1,6];rcases hw with rfl | rfl
   . erw[0,1,0,7];erw[0,1,0,7];erw[0,1,0,aW rfl ?_];erw[0,k,dk,0,hk,al_n2,0,a,_,(1),0,1,zC0 e,1,0,0,v1,t1,b,k,g,sd,z,ys,bx,m,1,T1,tq,d1,BX,bo,AK,ok,hs,λH1 A1 S1=>?_];erw[k,g,sd,z,0,A1,ok.tl,λH2 S2=>?_];let qq:=q H2 (A1.same S2) (S1.trans (zM0 S2));let e1:(Tm.ask "coin" t1).worth z bx=jz z (t1.worth z bx):=O9 rfl;rw[e1]at qq;exact qq
   . erw[0,1,0,7];erw[0,1,0,7];erw[0,1,0,7];erw[0,1,0,aW rfl ?_];erw[0,k,dk,0,hk,al_n4,0,a,_,(1),0,1,zC0 e,1,0,0,v1,t1,b,k,g,sd,z,ys,bx,m,1,T1,tq,d1,BX,bo,AK,ok,hs,λH1 A1 S1=>?_];erw[k,g,sd,z,ys,0,A1,ok,kS S1,wr.1,wr.2,λH2 A2 S2=>?_];let qq:=q H2 A2 (S1.trans S2);let e1:(Tm.ask "true" t1).worth z bx=fO z (t1.worth z bx):=O8 ⋯;rw[e1]at qq;exact qq
 | @op a o v1 v2 t1 t2 e T1 T2=>
   erw[oq,q1,q2]at tg;let d1:t1.depth<=n:=by have:max t1.depth t2.depth+1<=n+1:=td;omega
   let d2:t2.depth<=n:=by have:max t1.depth t2.depth+1<=n+1:=td;omega
   let w1:=Tm.worth_rng ok bo t1;let w2:=Tm.worth_rng ok bo t2;erw[0,a,_,(0),0,1,zC0 e,1,6];erw[0,1,0,7];erw[0,1,0,7];erw[0,1,0,7];erw[0,1,0,7];erw[0,1,0,aW rfl ?_];erw[0,a,_,(2),0,1,zC0 e,1,0,0,v1,t1,b,k,g,sd,z,ys,bx,m,1,T1,q1,d1,BX,bo,AK,ok,hs,λH1 A1 S1=>?_];let e1:=kT S1 _ _ e;erw[0,a,_,(3),0,1,zC0 e1,1,0,0,v2,t2,b,k,g,sd,z,ys,bx,m,1,T2.mono (kT S1),q2,d2,kB S1,bo,A1,ok,kS S1,λH2 A2 S2=>?_];let e2:=kT (S1.trans S2) _ _ e;let%[dk2,aT2,_,_,_,_,tr2,hk2,%[dg2|hg2]|_]:=id A2;erw[0,a,_,(1),0,1,zC0 e2,1,0,0,0,k,CA,dk2,_,0,hk2,TA.cl,TA.nG,xg,g,CG,dg2,_,0,hg2,TG.cl,TG.nF,eZ ..,o,_,_,z.p,1,oq,ok.gk.pr,ok.gk.p9,w1.1,w1.2,w2.1,w2.2,q H2 A2 (S1.trans S2)]
def DQ:#[18,f,fd,WX,spTm CA CG 0]:=by
 let no:∀vs H Q E,¬ spTm CA CG 0 vs H Q E:=λvs H Q E h=>by
  erw[v,t,_,_,_,_,_,_,_,_,_,_,_,h1,_]at h
  have:=t.depth_pos
  omega
 exists 3
def qz(F:#["value_of",jK])(m:mg "value_of"=some (.ref f))(TA:ATxt K mg CA)(TG:GTxt K mg CG)(M:AskF P w K mg base CA CG fP fC fR fdP fdC fdR)(gg:#[3,"op_value",Wg,spOp]):
 ∀n:Nat,#[n+18,f,fd,WX,spTm CA CG n]
 |0=>DQ
 |n+1=>DR F TA TG M gg (Cal.of F (qz F m TA TG M gg n) m (λ_ _ _ _ _ _ us hl=>by let%[u0,u1,u2|1]:=FU hl;rfl))
end
section
variable {CM CA CG:Addr}
structure MS where
 pl:Int
 bx:Str->Int
 sd:List Int
def Eg(z:Ak)(len:Int)(s:MS):Hr->MS
 |.fin=>%[len,s.bx|s.sd]
 |.go n=>%[n,s.bx|s.sd]
 |.iff t n=>%[if t.worth z s.bx=0 then s.pl+1 else n,s.bx|s.sd]
 |.set x t=>%[s.pl+1,gu s.bx x (t.worth z s.bx)|s.sd]
 |.say t=>%[s.pl+1,s.bx|s.sd++[t.worth z s.bx]]
def cR(z:Ak)(rows:List Hr)(s:MS):MS:=match rows[s.pl.toNat]? with
 |some r=>Eg z rows.length s r
 |none=>s
def jV(z:Ak)(rows:List Hr):Nat->MS->MS
 |0,s=>s
 |n+1,s=>if s.pl<(rows.length:Int)/\(s.sd.length:Int)<z.mn then jV z rows n (cR z rows s)else s
def qO(mn:Int)(sd:List Int):List Int:=sd++List.replicate (mn-(sd.length:Int)).toNat 0
def Hr.good:Hr->Prop
 |.fin=>True | .go n=>0<=n | .iff t n=>t.good/\t.depth<=5/\0<=n | .set _ t=>t.good/\t.depth<=5 | .say t=>t.good/\t.depth<=5
def Eh{rows:List Hr}(hq:∀r∈rows,r.good){s:MS}(h:0<=s.pl):0<=(cR z rows s).pl:=by
 unfold cR;cases e:rows[s.pl.toNat]? with
 |none=>exact h
 |some r=>
   let q:=hq r (qF0 e);cases r with
   |fin=>exact wA1 _
   |go n=>exact q
   |iff t n=>
     show 0<=if t.worth z s.bx=0 then s.pl+1 else n
     by_cases c:t.worth z s.bx=0
     . rw[O9 c];omega
     . rw[O8 c];exact q.2.2
   |set x t=>show 0<=s.pl+1;omega
   |say t=>show 0<=s.pl+1;omega
def xw:(cR z rows s).sd.length<=s.sd.length+1:=by
 unfold cR;cases e:rows[s.pl.toNat]? with
 |none=>exact qO0 _
 |some r=>
   cases r with
   |fin=>exact qO0 _
   |go n=>exact qO0 _
   |iff t n=>exact qO0 _
   |set x t=>exact qO0 _
   |say t=>show(s.sd++[_]).length<=_;rw[zJ0];exact zH0 _
def Hh{n:Int}(h:lE p bx)(h0:0<=n)(h1:n<p):lE p (gu bx x n):=λy=>by
 unfold gu
 split
 . erw[h0,h1]
 . exact h y
def rP{s:MS}(k:AkOk z)(h:lE z.p s.bx)(hs:bY s.sd z.p):lE z.p (cR z rows s).bx/\bY (cR z rows s).sd z.p:=by
 unfold cR;cases e:rows[s.pl.toNat]? with
 |none=>erw[h,hs]
 |some r=>
   cases r with
   |fin=>erw[h,hs]
   |go n=>erw[h,hs]
   |iff t n=>erw[h,hs]
   |set x t=>
     let w:=Tm.worth_rng k h t;erw[Hh h w.1 w.2,hs]
   |say t=>
     let w:=Tm.worth_rng k h t;erw[h,λy hy=>?_];rcases qN0 hy with hy | hy
     . exact hs y hy
     . rw[Pg hy];exact w
def oB(k:AkOk z):∀(n:Nat)(s:MS),lE z.p s.bx->bY s.sd z.p->(s.sd.length:Int)<=z.mn->lE z.p (jV z rows n s).bx/\bY (jV z rows n s).sd z.p/\((jV z rows n s).sd.length:Int)<=z.mn
 |0,s,h,hs,hl=>%[h,hs|hl]
 |n+1,s,h,hs,hl=>by
   show lE z.p (if _ then _ else _:MS).bx/\bY (if _ then _ else _:MS).sd z.p/\((if _ then _ else _:MS).sd.length:Int)<=z.mn
   by_cases c:s.pl<(rows.length:Int)/\(s.sd.length:Int)<z.mn
   . rw [O9 c];let%[h1|h2]:=rP (rows:=rows) k h hs
     have:=xw (z:=z) (rows:=rows) (s:=s)
     exact oB k n _ h1 h2 #[0]
   . rw[O8 c];erw[h,hs,hl]
def xM{mn:Int}{sd:List Int}(h:(sd.length:Int)<=mn):((qO mn sd).length:Int)=mn:=by
 unfold qO;rw[zJ0,zR1];omega
def AW(h:bY sd p)(p0:0<p):bY (qO mn sd) p:=λx hx=>by
 unfold qO at hx;rcases qN0 hx with hx | hx
 . exact h x hx
 . rw[List.eq_of_mem_replicate hx];omega
def RowsAt(H:Hp)(rv:List V)(rows:List Hr):Prop:=rv.length=rows.length/\∀(i:Nat)(v:V)(r:Hr),rv[i]?=some v->rows[i]?=some r->HrAt H v r
def RowsAt.mono(h:RowsAt H rv rows)(k:cG H H'):RowsAt H' rv rows:=%[h.1|λi v r h1 h2=>(h.2 i v r h1 h2).mono k]
def Jq(b c:Addr)(H H':Hp):Prop:=∀a o,a≠b->a≠c->H a=some o->H' a=some o
def BxAt.le{n:Nat}(h:BxAt H b bx m)(k:m<=n):BxAt H b bx n:=by
 erw[Pb,e,l,r]at h;erw[Pb,e,zP0 l k,r]
def But3(b c d:Addr)(H H':Hp):Prop:=∀a o,a≠b->a≠c->a≠d->H a=some o->H' a=some o
def But3.trans(x:But3 b c d H H1)(y:But3 b c d H1 H2):But3 b c d H H2:=λa o h1 h2 h3 e=>y a o h1 h2 h3 (x a o h1 h2 h3 e)
instance spRowM(CM CA CG:Addr):∀(M g h b dm k sd:Addr)(rv:List V)(r pl:Int)(z:Ak)(rows:List Hr)(bx:Str->Int)(m:Nat)(said:List Int),vs=[.ref M,.int pl,.ref sd,.ref k]->H M=some (.ins CM dm (ml g h r b))->M≠k->H h=some (.tup rv)->RowsAt H rv rows->(∀r∈rows,r.good)->0<=pl->pl<(rows.length:Int)->BxAt H b bx m->lE z.p bx->m<=10000->H sd=some (.lst (said.map V.int))->said.length<=900->AkAt CA CG H k g sd z->AkOk z->(∀H',H' sd=some (.lst ((cR z rows ⟨pl,bx,said⟩).sd.map V.int))->BxAt H' b (cR z rows ⟨pl,bx,said⟩).bx (m+1)->AkAt CA CG H' k g sd z->But3 b sd k H H'->Q (.int (cR z rows ⟨pl,bx,said⟩).pl) H'):=1
def Hx:FnScope ["self","place","said","asking","row","word"] Wt (aj zz):=%[|5]
def Iy(F:#["do_row","Machine.do_row",zz])(B:Bl mg)(TM:MTxt K mg CM)(cK:#[23,"value_of",WX,spTm CA CG 5]):#[24,f,fd,Wt,spRowM CM CA CG]:=by
 exists Hx
 erw[M,g,h,b,dm,k,sd,rv,rn,pl,z,rows,bx,m,said,1,hM,nMk,hh,RW,rq,pl0,pl1,BX,bo,m1,hsd,sl,AK,ok,q]at h;let hu:=JH hr;refine⟨_,(ad #[ao,4,Hx,aM ix_tup (az (pv 0) rfl) (pv 1) #[1]]
  (ad #[ao,5,Hx,aM ix_tup (pv 4) ag #[1]]
  (ad (aJ (ai aQ (pv 5) aF (ay _)) (af (am (aG aI rfl B.len zD1 %[az (pv 0) rfl|ae]))) aB)
  (ad (aJ (ai aQ (pv 5) aF (ay _)) (af (am (aM ix_tup (pv 4) ag #[1]))) aB)
  (ad (aJ (ai aQ (pv 5) aF (ay _)) (af (Ij hu (az (pv 0) rfl) (aM ix_tup (pv 4) ag #[1]) (ax cK hr ⋯ rfl %[aM ix_tup (pv 4) ag #[1],az (pv 0) rfl,3|ae]) rfl)) (af (aJ (ai aQ (pv 5) aF (ay _)) (af (bb (dZ zF1 zL1 zM1 cY (pv 2) %[ax cK hr ⋯ rfl %[aM ix_tup (pv 4) ag #[1],az (pv 0) rfl,3|ae]|ae]))) (af (aJ (ai lq (ax cK hr ⋯ rfl %[aM ix_tup (pv 4) ag #[1],az (pv 0) rfl,3|ae]) ag (ay _)) (af (am (aM ix_tup (pv 4) ag #[1]))) aB)))))
  (af (am (au aV (pv 1) ag)))))))),?_⟩
 let%[i|1]:=qC1 pl0;let hi:i<rows.length:=#[0]
 let hi':i<rv.length:=by rw[RW.1];exact hi
 let er:rows[i]?=some rows[i]:=zL0 hi;let ev:rv[i]?=some rv[i]:=zL0 hi';let RA:=RW.2 i _ _ ev er;let rqi:=rq _ (qP0 hi);let Pd:cR z rows %[(i:Int),bx|said]=Eg z rows.length ⟨(i:Int),bx,said⟩ rows[i]:=by
  unfold cR;rw[show((%[(i:Int),bx|said]:MS).pl.toNat)=i from qV0 i,er]
 rw[Pd]at q;generalize rows[i]=row at RA rqi q er Pd;let at_:atI rv (i:Int)=some rv[i]:=cu ev;generalize rv[i]=v at RA at_ ev;erw[0,M,CM,dm,_,0,hM,TM.cl,TM.nH,II,0,h,_,_,v,1,1,zC0 hh,at_,6];let K0:But3 b sd k H H:=λ_ _ _ _ _ e=>e
 let nBS:sd≠b:=by
  erw[Pb,e,_]at BX;exact bt hsd e nofun
 let%[Pb,hb,kl|hx]:=id BX;let%[dk,_,_,_,_,_,_,hk|_]:=id AK;let kT:∀{H':Hp},SameBut k H H'->cG H H':=λs c xs e=>s _ _ (bt e hk nofun) e
 let nbk:b≠k:=bt hb hk nofun;let nsk:sd≠k:=bt hsd hk nofun;cases RA with
 | @fin a e=>
   erw[0,a,_,(0),0,1,zC0 e,1,6];erw[0,1,0,aW rfl ?_];erw[0,M,CM,dm,_,0,hM,TM.cl,TM.nH,II,h,0,.inr (zC0 hh),6];rw[RW.1];exact q H hsd (BX.le (qO0 _)) AK K0
 | @go a n e=>
   erw[0,a,_,(0),0,1,zC0 e,1,6];erw[0,1,0,7];erw[0,1,0,aW rfl ?_];erw[0,a,_,(1),0,1,zC0 e,1,q H hsd (BX.le (qO0 _)) AK K0]
 | @iff a u t n e T=>
   erw[0,a,_,(0),0,1,zC0 e,1,6];erw[0,1,0,7];erw[0,1,0,7];erw[0,1,0,7];erw[0,1,0,7];erw[0,a,_,(1),0,1,zC0 e,1,0,M,CM,dm,_,0,hM,TM.cl,TM.nB,FI,0,u,t,b,k,g,sd,z,_,bx,m,1,T,rqi.1,rqi.2.1,BX,bo,AK,ok,hsd,λH1 A1 S1=>?_];erw[1,0,6];let q':∀H',H' sd=some (.lst (said.map V.int))->BxAt H' b bx (m+1)->AkAt CA CG H' k g sd z->But3 b sd k H H'->Q (.int (if t.worth z bx=0 then(i:Int)+1 else n)) H':=q
   let q1:=q' H1 (S1 _ _ nsk hsd) ((BX.keep λo e=>S1 _ _ nbk e).le (qO0 _)) A1 (λc o _ _ h3 e=>S1 _ _ h3 e)
   by_cases c:t.worth z bx=0
   . rw[O9 c]at q1;apply yq (congrArg V.int c) ?_;erw[0,2,q1]
   . rw[O8 c]at q1;apply iteN (λz=>c (V.int.inj z)) ?_;erw[0,a,_,(2),0,1,zC0 (kT S1 _ _ e),1,q1]
 | @set a x u t e T=>
   erw[0,a,_,(0),0,1,zC0 e,1,6];erw[0,1,0,7];erw[0,1,0,7];erw[0,1,0,aW rfl ?_];erw[0,a,_,(2),0,1,zC0 e,1,0,M,CM,dm,_,0,hM,TM.cl,TM.nB,FI,0,u,t,b,k,g,sd,z,_,bx,m,1,T,rqi.1,rqi.2,BX,bo,AK,ok,hsd,λH1 A1 S1=>?_];let hb1:=S1 _ _ nbk hb;let hs1:=S1 _ _ nsk hsd;erw[0,M,CM,dm,_,0,S1 _ _ nMk hM,TM.cl,TM.nB,FI,0,a,_,(1),0,1,zC0 (kT S1 _ _ e),1,b,0,DPut.k (k:=.inr x) hb1 ?_,6]
   . exact zJ1 kl (zJ1 m1 ⋯)
   erw[0,2,6];apply q _ ?_ ⟨_,ah,zP0 (lu _ _ _) (zG1 kl),Lo x _ hx⟩ (A1.but2 hb1 hs1 λc o h1 _ e=>by rw[aD h1];exact e) (λc o h1 _ h3 e=>by rw[aD h1];exact S1 _ _ h3 e);rw[aD nBS];exact hs1
 | @say a u t e T=>
   erw[0,a,_,(0),0,1,zC0 e,1,6];erw[0,1,0,7];erw[0,1,0,7];erw[0,1,0,7];erw[0,1,0,aW rfl ?_];erw[0,.inl %[1,_|zG0 hsd],6];erw[0,a,_,(1),0,1,zC0 e,1,0,M,CM,dm,_,0,hM,TM.cl,TM.nB,FI,0,u,t,b,k,g,sd,z,_,bx,m,1,T,rqi.1,rqi.2,BX,bo,AK,ok,hsd,λH1 A1 S1=>?_];let hb1:=S1 _ _ nbk hb;let hs1:=S1 _ _ nsk hsd;erw[sd,2,hs1,6,6]
   . rw[zF0];exact aN #[0]
   erw[0,2,6];apply q _ ?_ ((BX.keep λo e=>by rw[aD nBS.symm];exact S1 _ _ nbk e).le (qO0 _)) (A1.but2 hb1 hs1 λc o _ h2 e=>by rw[aD h2];exact e) (λc o _ h2 h3 e=>by rw[aD h2];exact S1 _ _ h3 e);rw[ah];show _=some (HO.lst ((said++[t.worth z bx]).map V.int));rw[zK0];rfl
end
section
variable {CM CA CG:Addr}
def m1(g:Addr):List (Str×V):=[("game",.ref g)]
def m2(g h:Addr):List (Str×V):=[("game",.ref g),("helper",.ref h)]
def m3(g h:Addr):List (Str×V):=[("game",.ref g),("helper",.ref h),("next_round",.int 0)]
def pm1{g:Addr}:bJ "game" (.ref g) []=m1 g:=by rfl'
def pm2{h:Addr}:bJ "helper" (.ref h) (m1 g)=m2 g h:=by rfl'
def pm3:bJ "next_round" (.int 0) (m2 g h)=m3 g h:=by rfl'
def pm4{b:Addr}:bJ "boxes" (.ref b) (m3 g h)=ml g h 0 b:=by rfl'
instance spMInit(CM:Addr):∀(M g h dm:Addr),vs=[.ref M,.ref g,.ref h]->H M=some (.ins CM dm [])->(∀(b:Addr)(H':Hp),H b=none->H' M=some (.ins CM dm (ml g h 0 b))->H' b=some (.dK [])->SameBut M H H'->Q .non H'):=1
def Ew:FnScope WH WH (aj vN):=%[|5]
def Fk(F:#["__init__","Machine.__init__",vN])(T:MTxt K mg CM):#[1,f,fd,WH,spMInit CM]:=by
 exists Ew
 erw[M,g,h,dm,1,hM,q]at h;refine⟨_,(ad (aR (pv 0) (pv 1) rfl)
  (ad (aR (pv 0) (pv 2) rfl)
  (ad (aR (pv 0) ag rfl)
  (af (aR (pv 0) EU rfl))))),?_⟩
 erw[0,0,M,CM,dm,0,hM,9,T.nG,(by show 0<1000;decide),6];rw[pm1];erw[0,0,M,CM,dm,0,ah,9,T.nH,(by show 1<1000;decide),6];rw[pm2];erw[0,M,CM,dm,0,ah,9,T.nR,(by show 2<1000;decide),6];rw[pm3];let S3:SameBut M H (upd (upd (upd H M (.ins CM dm (m1 g))) M (.ins CM dm (m2 g h))) M (.ins CM dm (m3 g h))):=(SameBut.upd _).trans ((SameBut.upd _).trans (SameBut.upd _));let g3:upd (upd (upd H M (.ins CM dm (m1 g))) M (.ins CM dm (m2 g h))) M (.ins CM dm (m3 g h)) M=some (.ins CM dm (m3 g h)):=ah;generalize upd (upd (upd H M (.ins CM dm (m1 g))) M (.ins CM dm (m2 g h))) M (.ins CM dm (m3 g h))=H3 at S3 g3;intro b hb;let bM:b≠M:=(aO g3 hb).symm;erw[0,M,CM,dm,0,by rw[aD bM.symm];exact g3,T.cl,T.nB,(by show 3<1000;decide),6];rw[pm4];apply q b _ ?_ ah (by rw[aD bM];exact ah) (S3.trans ((zM0 (zE0 hb _)).trans (SameBut.upd _)));cases e:H b with
 |none=>rfl
 |some o=>rw[S3 b o bM e]at hb;cases hb
def a1(g:Addr):List (Str×V):=[("game",.ref g)]
def a2(g:Addr)(nr:Int):List (Str×V):=[("game",.ref g),("number",.int nr)]
def a3(g:Addr)(nr mn:Int):List (Str×V):=[("game",.ref g),("number",.int nr),("many",.int mn)]
def a4(g:Addr)(nr mn hd:Int):List (Str×V):=[("game",.ref g),("number",.int nr),("many",.int mn),("held",.int hd)]
def a5(g:Addr)(nr mn hd s:Int):List (Str×V):=[("game",.ref g),("number",.int nr),("many",.int mn),("held",.int hd),("s",.int s)]
def a6(g:Addr)(nr mn hd s:Int)(aT:Addr):List (Str×V):=[("game",.ref g),("number",.int nr),("many",.int mn),("held",.int hd),("s",.int s),("tossed",.ref aT)]
section
variable {g aT:Addr}{nr mn hd s:Int}
def pa1:bJ "game" (.ref g) []=a1 g:=by rfl'
def pa2:bJ "number" (.int nr) (a1 g)=a2 g nr:=by rfl'
def pa3:bJ "many" (.int mn) (a2 g nr)=a3 g nr mn:=by rfl'
def pa4:bJ "held" (.int hd) (a3 g nr mn)=a4 g nr mn hd:=by rfl'
def pa5:bJ "s" (.int s) (a4 g nr mn hd)=a5 g nr mn hd s:=by rfl'
def pa6:bJ "tossed" (.ref aT) (a5 g nr mn hd s)=a6 g nr mn hd s aT:=by rfl'
def pa7:bJ "truths" .non (a6 g nr mn hd s aT)=al g nr mn hd s aT .non:=by rfl'
end
instance spAInit(CA:Addr):∀(k dk g c:Addr)(nr mn hd s:Int)(xs:List V),vs=[.ref k,.ref g,.int nr,.int mn,.int hd,.int s,.ref c]->H k=some (.ins CA dk [])->H c=some (.lst xs)∨H c=some (.tup xs)->(∀(aT:Addr)(H':Hp),H' k=some (.ins CA dk (al g nr mn hd s aT .non))->H' aT=some (.tup xs)->SameBut k H H'->Q .non H'):=1
def EC:FnScope Wi Wi (aj vV):=%[|5]
def Fr(F:#["__init__","Asking.__init__",vV])(B:Bl mg)(T:ATxt K mg CA):#[1,f,fd,Wi,spAInit CA]:=by
 exists EC
 erw[k,dk,g,c,nr,mn,hd,s,xs,1,hk,hc,q]at h;refine⟨_,(ad (aR (pv 0) (pv 1) rfl)
  (ad (aR (pv 0) (pv 2) rfl)
  (ad (aR (pv 0) (pv 3) rfl)
  (ad (aR (pv 0) (pv 4) rfl)
  (ad (aR (pv 0) (pv 5) rfl)
  (ad (aR (pv 0) (bc bh rfl B.tuple bi %[6|ae]) rfl)
  (af (aR (pv 0) ny rfl)))))))),?_⟩
 erw[0,0,k,CA,dk,0,hk,9,T.nG,(by show 0<1000;decide),6];rw[pa1];erw[0,0,k,CA,dk,0,ah,9,T.nN,(by show 1<1000;decide),6];rw[pa2];erw[0,0,k,CA,dk,0,ah,9,T.nM,(by show 2<1000;decide),6];rw[pa3];erw[0,0,k,CA,dk,0,ah,9,T.nH,(by show 3<1000;decide),6];rw[pa4];erw[0,0,k,CA,dk,0,ah,9,T.nS,(by show 4<1000;decide),6];rw[pa5];let S5:SameBut k H (upd (upd (upd (upd (upd H k (.ins CA dk (a1 g))) k (.ins CA dk (a2 g nr))) k (.ins CA dk (a3 g nr mn))) k (.ins CA dk (a4 g nr mn hd))) k (.ins CA dk (a5 g nr mn hd s))):=(SameBut.upd _).trans ((SameBut.upd _).trans ((SameBut.upd _).trans ((SameBut.upd _).trans (SameBut.upd _))));let g5:upd (upd (upd (upd (upd H k (.ins CA dk (a1 g))) k (.ins CA dk (a2 g nr))) k (.ins CA dk (a3 g nr mn))) k (.ins CA dk (a4 g nr mn hd))) k (.ins CA dk (a5 g nr mn hd s)) k=some (.ins CA dk (a5 g nr mn hd s)):=ah;generalize upd (upd (upd (upd (upd H k (.ins CA dk (a1 g))) k (.ins CA dk (a2 g nr))) k (.ins CA dk (a3 g nr mn))) k (.ins CA dk (a4 g nr mn hd))) k (.ins CA dk (a5 g nr mn hd s))=H5 at S5 g5;rcases hc with hc | hc
 . let hc5:=S5 _ _ (bt hc hk nofun) hc;erw[0,c,0,.inl %[zG0 hc5|λaT ha=>?_]];let aK:aT≠k:=(aO g5 ha).symm;erw[0,k,CA,dk,0,by rw[aD aK.symm];exact g5,T.cl,T.nT,(by show 5<1000;decide),6];rw[pa6];erw[0,k,CA,dk,0,ah,9,T.nR,(by show 6<1000;decide),6];rw[pa7];exact q aT _ ah (by rw[aD aK,aD aK];exact ah) (S5.trans ((zM0 (zE0 ha _)).trans ((SameBut.upd _).trans (SameBut.upd _))))
 . let nc:=bt hc hk nofun;let hc5:=S5 _ _ nc hc;erw[0,c,0,.inr %[zC0 hc5|6]];erw[0,k,CA,dk,0,g5,9,T.nT,(by show 5<1000;decide),6];rw[pa6];erw[0,k,CA,dk,0,ah,9,T.nR,(by show 6<1000;decide),6];rw[pa7];exact q c _ ah (by rw[aD nc,aD nc];exact hc5) (S5.trans ((SameBut.upd _).trans (SameBut.upd _)))
instance spSay(CM CG:Addr):∀(M g h b dm c:Addr)(rv:List V)(z:Ak)(rows:List Hr)(bx:Str->Int)(m:Nat),vs=[.ref M,.int z.mn,.int z.hd,.int z.s,.ref c]->H M=some (.ins CM dm (ml g h z.nr b))->H h=some (.tup rv)->RowsAt H rv rows->(∀r∈rows,r.good)->BxAt H b bx m->lE z.p bx->m<=5000->Gm CG H g z.ns z.ts z.p->AkOk z->H c=some (.lst (z.to.map V.int))∨H c=some (.tup (z.to.map V.int))->0<=z.mn->z.mn<=500->(∀(l:Addr)(H':Hp),H l=none->H' l=some (.lst ((qO z.mn (jV z rows 200 ⟨0,bx,[]⟩).sd).map V.int))->BxAt H' b (jV z rows 200 ⟨0,bx,[]⟩).bx (m+200)->H' M=some (.ins CM dm (ml g h (z.nr+1) b))->Jq M b H H'->Q (.ref l) H'):=1
def iK:FnScope ["self","many","due","s","coins","asking","said","place","done"] WY (aj zy):=%[|5]
def EL(k:Nat)(x:V):(List.replicate k [x]).flatten=List.replicate k x:=by
 induction k with
 |zero=>rfl
 |succ k ih=>rw[qB1,jA0,ih,qB1];rfl
instance tSayE(Dn:Ends)(σ:St)(H:Hp):∀(x0 x2 x3 x4 x5 x7 x8:Option V)(sd:Addr)(mn:Int)(xs:List Int),σ=[x0,some (.int mn),x2,x3,x4,x5,some (.ref sd),x7,x8]->H sd=some (.lst (xs.map V.int))->xs.length<=200->0<=mn->mn<=500->(∀(l:Addr)(H':Hp),H l=none->Same H H'->H' l=some (.lst ((qO mn xs).map V.int))->Dn.rt (.ref l) H'):=0
instance ISy(CA CG:Addr)(H4:Hp)(M c k sd b g:Addr)(rows:List Hr)(z:Ak)(bx:Str->Int)(m:Nat)(mm:Nat)(σ:St)(H':Hp):∀(st:MS)(d:Nat),σ=[some (.ref M),some (.int z.mn),some (.int z.hd),some (.int z.s),some (.ref c),some (.ref k),some (.ref sd),some (.int st.pl),some (.int (d:Int))]->d<=200->mm=200-d->0<=st.pl->st.sd.length<=d->jV z rows (200-d) st=jV z rows 200 ⟨0,bx,[]⟩->H' sd=some (.lst (st.sd.map V.int))->BxAt H' b st.bx (m+d)->lE z.p st.bx->bY st.sd z.p->AkAt CA CG H' k g sd z->But3 b sd k H4 H':=0
def Ix(F:#["say","Machine.say",zy])(B:Bl mg)(TM:MTxt K mg CM)(TA:ATxt K mg CA)(hmost:∃t,mg "MOST_ROWS_DONE"=some (.int 200 t))
 (MA:Mk K CA fA)(GA:#[1,fA,fdA,Wi,spAInit CA])(bA:Binds K fdA Wi [])
 (mR:Meth K CM "do_row" fR)(GR:#[24,fR,fdR,Wt,spRowM CM CA CG])(bR:Binds K fdR Wt []):#[25,f,fd,WY,spSay CM CG]:=by
 exists iK
 erw[M,g,h,b,dm,c,rv,z,rows,bx,m,1,hM,hh,RW,rq,BX,bo,mm,GG,ok,hc,mn0,mn1,q]at h;erw[a',b',d',tv,G,hga,hgb,TS,hgd]at GG;erw[te,ge]at hmost;let hr2:Room (1+1) _:=hr.mono ⋯;let hr7:Room 24 _:=hr.mono ⋯;refine⟨_,(ad #[ao,5,iK,gJ MA GA hr2 rfl TA.mgC bA .nil aZ %[az (pv 0) rfl,az (pv 0) rfl,1,2,3,4|ae]]
  (ad (aR (pv 0) (au aV (az (pv 0) rfl) ag) rfl)
  (ad #[ao,6,iK,bZ ae]
  (ad #[ao,7,iK,ag]
  (ad #[ao,8,iK,ag]
  (ad (iF zE1 (PW.pt (nu (ai gq (pv 7) (aG aI rfl B.len zD1 %[az (pv 0) rfl|ae]) (ay _)) (nu (ai gq (aG aI rfl B.len zD1 %[6|ae]) (pv 1) (ay _)) (lP (ai gq (pv 8) (cZ (v:=.int 200) rfl ge ⟨_,rfl⟩) (ay _)))))) (ad #[ao,7,iK,bK (pv 0) TM.cl mR GR hr7 bR .nil aZ %[7,6,5|ae]]
   (af #[ao,8,iK,au aV (pv 8) ag])))
  (rf (t':=tSayE) (af (am (au pV (pv 6) (au Kv (bZ %[ag|ae]) (au bp (pv 1) (aG aI rfl B.len zD1 %[6|ae])))))) (by
   rintro Dn σ H ⟨x0,x2,x3,x4,x5,x7,x8,sd,mn,xs,rfl,hsd,xl,mn0,mn1,q⟩;erw[0,y1S,λz hz=>?_];let I1:=zE0 hz (.lst [.int 0]);let g1:upd H z (.lst [.int 0]) z=some (.lst [.int 0]):=ah;generalize upd H z (.lst [.int 0])=H1 at I1 g1;erw[0,0,sd,0,.inl (zG0 (I1 _ _ hsd)),2,6];let el:((xs.map V.int).length:Int)=(xs.length:Int):=by rw[zF0]
   erw[z,2,g1,3,3,cx (by show 1*(mn-((xs.map V.int).length:Int)).toNat<=1000;omega),λy hy=>?_];rw[EL];let I2:=zE0 hy (.lst (List.replicate (mn-((xs.map V.int).length:Int)).toNat (.int 0)));let g2:upd H1 y (.lst (List.replicate (mn-((xs.map V.int).length:Int)).toNat (.int 0))) y=some (.lst (List.replicate (mn-((xs.map V.int).length:Int)).toNat (.int 0))):=ah;generalize upd H1 y (.lst (List.replicate (mn-((xs.map V.int).length:Int)).toNat (.int 0)))=H2 at I2 g2;erw[sd,y,2,I2 _ _ (I1 _ _ hsd),g2,6,λl hl=>?_]
   . rw[zR1,zF0];exact cx #[0]
   apply q l _ ?_ (I1.trans (I2.trans (zE0 hl _))) ?_
   . cases e:H l with
     |none=>rfl
     |some o=>rw[I2 _ _ (I1 _ _ e)]at hl;cases hl
   . rw[ah,el];unfold qO;rw[zK0,List.map_replicate])))))))),?_⟩
 erw[0,M,CM,dm,_,0,hM,TM.cl,TM.nG,ml_g,0,M,CM,dm,_,0,hM,TM.cl,TM.nR,KC,0,0,0,0,λk dk hk hdk nk=>?_];let S1:Same H (upd (upd H dk (.own k)) k (.ins CA dk [])):=λa o e=>by
  rw[aD (aO e hk),aD (aO e hdk)];exact e
 let g1:upd (upd H dk (.own k)) k (.ins CA dk []) k=some (.ins CA dk []):=ah;generalize upd (upd H dk (.own k)) k (.ins CA dk [])=H1 at S1 g1;erw[k,dk,g,c,z.nr,z.mn,z.hd,z.s,z.to.map V.int,1,g1,hc.imp (S1 _ _) (S1 _ _),λaT H2 hk2 hT2 S2=>%[1|6]];let S02:Same H H2:=Same.but S1 hk S2;clear S1 S2 g1;let hM2:=S02 _ _ hM;erw[0,M,CM,dm,_,0,hM2,TM.cl,TM.nR,KC,2,0,M,CM,dm,0,hM2,TM.cl,TM.nR,Ab,6];rw[FG];let nMk:M≠k:=aO hM hk;let S3:SameBut M H2 (upd H2 M (.ins CM dm (ml g h (z.nr+1) b))):=SameBut.upd _;let hM3:upd H2 M (.ins CM dm (ml g h (z.nr+1) b)) M=some (.ins CM dm (ml g h (z.nr+1) b)):=ah;generalize upd H2 M (.ins CM dm (ml g h (z.nr+1) b))=H3 at S3 hM3;erw[y0S,λsd hsd=>?_];let I4:=zE0 hsd (.lst []);let g4:upd H3 sd (.lst []) sd=some (.lst []):=ah;generalize upd H3 sd (.lst [])=H4 at I4 g4;let gM:g≠M:=λe=>by
  erw[dg,hg]at G;rw[e,hM]at hg;cases hg
 let nbM:b≠M:=by
  erw[Pb,e,_]at BX;exact bt e hM nofun
 let S04:SameBut M H H4:=(zM0 S02).trans (S3.trans (zM0 I4));let hM4:=I4 _ _ hM3;let kT:cG H H4:=λc xs h=>S04 c _ (bt h hM nofun) h
 let hh4:=kT _ _ hh;let RW4:=RW.mono kT;let BX4:BxAt H4 b bx m:=BX.keep λo e=>S04 b o nbM e
 let G4:GameAt CG H4 g a' b' d' z.p:=by
  erw[dg,hg]at G;erw[dg,S04 _ _ gM hg]
 let hT4:H4 aT=some (.tup (z.to.map V.int)):=I4 _ _ (S3 _ _ (bt hT2 hM2 nofun) hT2);let hgd4:=S04 _ _ (bt hgd hM nofun) hgd;let nds:d'≠sd:=aO (S3 _ _ (bt hgd hM nofun) (S02 _ _ hgd)) hsd;let hk4:=I4 _ _ (S3 _ _ nMk.symm hk2);let b4:∃Pb,H4 b=some (.dK Pb):=by
  erw[Pb,e,_]at BX4;erw[Pb,e]
 erw[kv4,hb4]at b4;let nbs:b≠sd:=bt hb4 g4 nofun;let nhb:h≠b:=bt hh4 hb4 nofun;let nhs:h≠sd:=bt hh4 g4 nofun;let nMs:M≠sd:=bt hM4 g4 nofun;let nkb:k≠b:=bt hk4 hb4 nofun;let nks:k≠sd:=bt hk4 g4 nofun;let AK4:AkAt CA CG H4 k g sd z:=%[dk,aT,a',b',d',tv,.non,hk4,G4,kT _ _ hga,kT _ _ hgb,TS.mono kT,hgd4,nds,hT4|.inl rfl]
 let sd0:H sd=none:=by
  cases e:H sd with
  |none=>rfl
  |some o=>rw[S3 _ _ nMs.symm (S02 _ _ e)]at hsd;cases hsd
 erw[ISy CA CG H4 M c k sd b g rows z bx m,%[_,%[(0),bx|[]],(0),1,zW0 _,1,qH1 0,zH0 _,1,g4,BX4,bo,(λx hx=>by cases hx),AK4|λ_ _ _ _ _ e=>e],6]
 rintro mm σ H' ⟨st,d,rfl,d2,rfl,st0,sl,hrun,hsd',BX',bo',so',AK',S'⟩;let hM':=S' _ _ nbM.symm nMs nMk hM4;let hh':=S' _ _ nhb nhs (bt hh4 hk4 nofun) hh4;let kT':cG H4 H':=λc xs h=>S' c _ (bt h hb4 nofun) (bt h g4 nofun) (bt h hk4 nofun) h
 let RW':=RW4.mono kT';let fin:jV z rows (200-d) st=st->∀(l:Addr)(H5:Hp),H' l=none->Same H' H5->H5 l=some (.lst ((qO z.mn st.sd).map V.int))->Q (.ref l) H5:=λer l H5 l0 S5 hl=>by
  rw[er]at hrun;rw[←hrun]at q;apply q l H5 ?_ hl ((BX'.keep λo e=>S5 b o e).le #[0]) (S5 _ _ hM') (λa o h1 h2 e=>?_)
  . cases e:H l with
    |none=>rfl
    |some o=>
      let lM:l≠M:=λz=>by rw[z,hM']at l0;cases l0
      let lb:l≠b:=λz=>by
       erw[Pb,e',_]at BX';rw[z,e']at l0;cases l0
      let ls:l≠sd:=λz=>by rw[z,hsd']at l0;cases l0
      rw[S' _ _ lb ls (aO e hk) (S04 _ _ lM e)]at l0;cases l0
  . exact S5 _ _ (S' _ _ h2 (aO e sd0) (aO e hk) (S04 _ _ h1 e))
 erw[0,0,M,CM,dm,_,0,hM',TM.cl,TM.nH,II,h,0,.inr (zC0 hh'),2,0,6];rw[RW.1]
 by_cases c1:st.pl<(rows.length:Int)
 . apply aW c1 ?_;erw[0,sd,0,.inl (zG0 hsd'),0,2,0,6];rw[zF0]
   by_cases c2:(st.sd.length:Int)<z.mn
   . apply aW c2 ?_;erw[0,2,0,6]
     by_cases c3:d<200
     . apply aW #[0] ?_;erw[_,λ_ _ h=>h,6];erw[0,M,dm,0,hM',ml_n1,0,0,0,M,g,h,b,dm,k,sd,rv,_,st.pl,z,rows,st.bx,m+d,st.sd,1,hM',nMk,hh',RW',rq,st0,c1,BX',bo',3,hsd',3,AK',ok,λH6 hs6 BX6 A6 S6=>?_];erw[0,2,6];erw[_,(show 200-(d+1)<200-d by omega),cR z rows st,d+1,1,c3,1,Eh rq st0,zP0 xw (zG1 sl),6,hs6,BX6,(rP ok bo' so').1,(rP ok bo' so').2,A6,S'.trans S6];rw[←hrun,show 200-d=(200-(d+1))+1 by omega];exact(O9 ⟨c1,c2⟩).symm
     . apply aE #[0] ?_;let ed:200-d=0:=#[0]
       erw[_,_,_,_,_,_,_,sd,z.mn,st.sd,1,hsd',3,mn0,mn1,fin (by rw[ed];rfl)]
   . apply aE c2 (cE ?_);erw[_,_,_,_,_,_,_,sd,z.mn,st.sd,1,hsd',3,mn0,mn1,fin ?_];cases 200-d with
     |zero=>rfl
     |succ n=>exact O8 (λz=>c2 z.2)
 . apply aE c1 (cE ?_);erw[_,_,_,_,_,_,_,sd,z.mn,st.sd,1,hsd',3,mn0,mn1,fin ?_];cases 200-d with
   |zero=>rfl
   |succ n=>exact O8 (λz=>c1 z.1)
end
section
variable {ns:List Str}{ts:List Tr}{p:Int}
def wW(k:GmK ns ts p)(x:Str):0<=bm ts x/\bm ts x<=400:=by
 let t0:ts≠[]:=λz=>by have:=k.t1;rw[z]at this;cases this
 have:=lr (ns:=ts.map λt=>(t.names.count x:Int)) #[t0,0]
 let%[t,ht|e]:=List.mem_map.mp this;unfold bm;rw[←e];let h1:=jV0 (a:=x) (l:=t.names);let h2:=t.names_len;let h3:=(k.tok t ht).2.2.2;omega
end
structure HearOk(ns:List Str)(p:Int)(z:Db)(xs:List Int):Prop where
 aw:z.aw=(("hear":Str),some (xs.length:Int))
 xo:bY xs p
 x5:xs.length<=500
 ro:z.cl≠[]->mJ xs p
 tl:z.to.length<=ns.length
 po:bY z.to p
structure TossOk(ns:List Str)(p:Int)(z:Db)(r:Int):Prop where
 aw:z.aw.1="coin"
 r0:0<=r
 r1:r<p
 tl:z.to.length<=ns.length
 ro:z.he≠[]->mJ z.he p/\z.to.length<ns.length
 po:bY z.to p
section
variable {C CG cT cC cN:Addr}
structure Gd(ns:List Str)(ts:List Tr)(p:Int)(z:Db):Prop where
 tl:z.to.length<=ns.length
 po:bY z.to p
 e0:0<=z.ed
 e1:z.ed<p
 he:z.aw.1="hear" -> (z.cl=[]/\z.aw=(("hear":Str),some (ts.length:Int)))∨(z.cl≠[]/\z.to.length<ns.length/\z.aw=(("hear":Str),some (bm ts (ns.getD z.to.length "")+1)))
 co:z.aw.1="coin" -> z.cl≠[]/\(z.he≠[]->mJ z.he p/\z.to.length<ns.length)
 h0:z.cl=[]->z.he=[]
 ww:AwW z.aw.1
section
variable {ns:List Str}{ts:List Tr}{p:Int}{z:Db}
def Gd.new(k:GmK ns ts p):Gd ns ts p (Db.new ts):=by
 have:=k.p2
 erw[zW0 _,(λx hx=>by cases hx),qH1 _,(by show(0:Int)<p;omega),λ_=>.inl %[1|1],(λh=>by cases h),λ_=>rfl,.inl rfl]
def Gd.goOn(tl:z.to.length<=ns.length)(po:bY z.to p)(e0:0<=z.ed)(e1:z.ed<p)(cl:z.cl≠[]):Gd ns ts p (goOn ns ts p z):=by
 unfold Mine.goOn
 by_cases c:z.to.length<ns.length
 . rw[O9 c];erw[tl,po,e0,e1,λ_=>.inr %[cl,c|1],(λh=>by cases h),λh=>absurd h cl,.inl rfl]
 . rw [O8 c];unfold eK
   by_cases e:z.ed=hor z.s p (ts.map λt=>t.worth ns z.to p)
   . rw[O9 e];erw[tl,po,e0,e1,(λh=>by cases h),(λh=>by cases h),λh=>absurd h cl,.inr (.inr (.inr rfl))]
   . rw[O8 e];erw[tl,po,e0,e1,(λh=>by cases h),(λh=>by cases h),λh=>absurd h cl,.inr (.inr (.inl rfl))]
def Gd.hear_ne(k:GmK ns ts p)(h:Gd ns ts p z)(ok:HearOk ns p z xs):xs≠[]:=λe=>by
 let a:=ok.aw;rw[e,zH1]at a;let t1:=k.t1;rcases h.he (by rw[a])with⟨_,w⟩ | ⟨_,_,w⟩
 . rw [w]at a
   have:=zS0 (Prod.mk.inj a).2
   omega
 . rw [w]at a
   have:=zS0 (Prod.mk.inj a).2
   have:=wW k (ns.getD z.to.length "")
   omega
def Gd.hear(k:GmK ns ts p)(h:Gd ns ts p z)(ok:HearOk ns p z xs):Gd ns ts p (cU ns ts p xs z)/\(cU ns ts p xs z).cl≠[]:=by
 let p2:=k.p2;let xn:=h.hear_ne k ok;let a1:z.aw.1="hear":=by rw[ok.aw]
 unfold cU
 by_cases c:z.cl=[]
 . rw [O9 c];unfold jr
   by_cases c1:ts.length=1
   . rw [O9 c1];unfold yK;let hr:=rA (s:=0) (p:=p) #[0] xs;erw[Gd.goOn h.tl h.po hr.1 hr.2 xn,6];unfold Mine.goOn eK
     split <;> exact xn
   . rw[O8 c1];erw[%[h.tl,h.po,h.e0,h.e1,(λz=>by cases z),λ_=>%[xn|λe=>absurd (h.h0 c) e],λe=>absurd e xn|.inr (.inl rfl)],xn]
 . rw [O8 c];unfold dC;let tl:z.to.length<ns.length:=by
    rcases h.he a1 with⟨e,_⟩ | ⟨_,t,_⟩
    . exact absurd e c
    . exact t
   by_cases e:(val p xs 0+val p xs 1) % p=z.ed
   . rw[O9 e];erw[%[h.tl,h.po,h.e0,h.e1,(λz=>by cases z),λ_=>%[c|λ_=>%[ok.ro c|tl]],λe=>absurd e c|.inr (.inl rfl)],c]
   . rw[O8 e];erw[%[h.tl,h.po,h.e0,h.e1,(λz=>by cases z),(λz=>by cases z),λe=>absurd e c|.inr (.inr (.inl rfl))],c]
def Gd.toss(k:GmK ns ts p)(h:Gd ns ts p z)(ok:TossOk ns p z r):Gd ns ts p (dy ns ts p r z)/\(dy ns ts p r z).cl≠[]:=by
 let p2:=k.p2;let%[cl|ro]:=h.co ok.aw;unfold dy
 by_cases c:z.he=[]
 . rw [O9 c];unfold yK;let hr:=rA (s:=r) (p:=p) #[0] z.cl;erw[Gd.goOn h.tl h.po hr.1 hr.2 cl,6];unfold Mine.goOn eK
   split <;> exact cl
 . rw [O8 c];let hr:=AC (p:=p) #[0] z.he r;erw[Gd.goOn ?_ (λx hx=>?_) hr.1 hr.2 cl,6]
   . show (z.to++[r]).length<=_;rw[zJ0,qM0]
     have:=(ro c).2
     omega
   . rcases qN0 hx with h' | h'
     . exact h.po x h'
     . rw[Pg h'];erw[ok.r0,ok.r1]
   . unfold Mine.goOn eK
     split <;> exact cl
end
end
structure Tk where
 z:Db
 bx:Str->Int
 nr:Int
def awN(z:Db):Int:=z.aw.2.getD 0
def Tk.ak(ns:List Str)(ts:List Tr)(p:Int)(t:Tk):Ak:=%[ns,ts,p,t.nr,awN t.z,t.z.ed,t.z.s|t.z.to]
def Tk.run(ns:List Str)(ts:List Tr)(p:Int)(rows:List Hr)(t:Tk):MS:=jV (t.ak ns ts p) rows 200 %[(0),t.bx|[]]
def Tk.said(ns:List Str)(ts:List Tr)(p:Int)(rows:List Hr)(t:Tk):List Int:=qO (awN t.z) (t.run ns ts p rows).sd
def Tk.ask(ns:List Str)(ts:List Tr)(p:Int)(rows:List Hr)(t:Tk):Tk:=%[cU ns ts p (t.said ns ts p rows) t.z,(t.run ns ts p rows).bx|t.nr+1]
def Tk.toss(ns:List Str)(ts:List Tr)(p r:Int)(t:Tk):Tk:=%[dy ns ts p r t.z,t.bx|t.nr]
def Tk.new(ts:List Tr):Tk:=%[Db.new ts,λ_=>0|(0)]
def bN(ns:List Str)(z:Db):Nat:=if z.aw.1="hear" then 2*(ns.length-z.to.length)else if z.aw.1="coin" then(if z.he=[]then 2*ns.length+1 else 2*(ns.length-z.to.length)-1)else 0
def bO(ns:List Str)(z:Db):Nat:=if z.aw.1="hear" then ns.length-z.to.length else if z.aw.1="coin" then(if z.he=[]then ns.length+1 else ns.length-z.to.length)else 0
structure TkOk(ns:List Str)(ts:List Tr)(p:Int)(t:Tk):Prop where
 gd:Gd ns ts p t.z
 cl:t.z.cl≠[]
 s0:0<=t.z.s
 s1:t.z.s<p
 bo:lE p t.bx
 nr:1<=t.nr
 fi:t.z.aw.1="coin" -> t.z.he=[]->t.z.to=[]
section
variable {ns:List Str}{ts:List Tr}{p:Int}{t:Tk}{rows:List Hr}
def jp:¬ (("coin":Str)="hear"):=by decide
def ya:¬ (("caught":Str)="hear"):=by decide
def JD:¬ (("caught":Str)="coin"):=by decide
def Fx:¬ (("believed":Str)="coin"):=by decide
def wR(z:Db):(goOn ns ts p z).s=z.s/\(goOn ns ts p z).to=z.to/\(goOn ns ts p z).he=z.he/\(goOn ns ts p z).cl=z.cl:=by
 unfold goOn eK
 split <;> erw[1,1,1,1]
def kj(z:Db):¬ (goOn ns ts p z).aw.1="coin":=by
 unfold goOn eK
 split
 . exact λh=>jp h.symm
 . show ¬ (if _ then _ else _:Str×Option Int).1="coin"
   split
   . exact Fx
   . exact JD
def jt(z:Db):bN ns (goOn ns ts p z)<=2*(ns.length-z.to.length)/\bO ns (goOn ns ts p z)<=ns.length-z.to.length:=by
 let%[_,e|_]:=wR (ns:=ns) (ts:=ts) (p:=p) z;let no:=kj (ns:=ns) (ts:=ts) (p:=p) z;unfold bN bO;rw[e,O8 no,O8 no]
 constructor <;> split <;> omega
def TkOk.ak(k:GmK ns ts p)(n6:ns.length<=6)(h:TkOk ns ts p t)(hw:t.z.aw.1="hear"):AkOk (t.ak ns ts p)/\0<=awN t.z/\awN t.z<=500/\t.z.to.length<ns.length/\t.z.aw=(("hear":Str),some (awN t.z))/\awN t.z=bm ts (ns.getD t.z.to.length "")+1:=by
 rcases h.gd.he hw with⟨e,_⟩ | ⟨_,tl,aw⟩
 . exact absurd e h.cl
 let ea:awN t.z=bm ts (ns.getD t.z.to.length "")+1:=by unfold awN;rw[aw];rfl
 let%[d0|d4]:=wW k (ns.getD t.z.to.length "");let nr:=h.nr;erw[%[k,n6,by show 0<=t.nr;omega,λ_=>tl,h.gd.po,h.s0,h.s1,h.gd.e0,h.gd.e1|by show t.z.to.length<=100;omega],3,3,tl,by rw[ea];exact aw,ea]
def TkOk.hear(k:GmK ns ts p)(n6:ns.length<=6)(h:TkOk ns ts p t)(hw:t.z.aw.1="hear"):HearOk ns p t.z (t.said ns ts p rows):=by
 let%[ok,a0,a5,tl,aw|ea]:=h.ak k n6 hw;let p2:=k.p2;let p9:=k.p9;let%[_,r2|r3]:=oB (rows:=rows) ok 200 %[(0),t.bx|[]] h.bo (λx hx=>by cases hx) a0;let xo:bY (t.said ns ts p rows) p:=AW r2 (by show 0<p;omega);let xl:((t.said ns ts p rows).length:Int)=awN t.z:=xM r3;let hx:ns.getD t.z.to.length ""∈ns:=by
  rw[qJ0,zL0 tl];exact qP0 tl
 let%[d0|d1]:=k.deg _ hx;let%[_|d4]:=wW k (ns.getD t.z.to.length "");erw[by rw[xl];exact aw,xo,3,λ_=>%[3,3,3|λj=>?_],h.gd.tl,h.gd.po]
 have:=lx xo #[0] j
 omega
def An(z:Db)(xs:List Int)(x0:xs≠[]):bN ns (dC p xs z)<=2*(ns.length-z.to.length)-1/\bO ns (dC p xs z)<=ns.length-z.to.length:=by
 let h1:(dC p xs z).to=z.to:=rfl;let h2:(dC p xs z).he=xs:=rfl;unfold bN bO;rw[h1,h2,O8 x0,O8 x0];let nh:¬ (dC p xs z).aw.1="hear":=by
  unfold dC;show ¬ (if _ then _ else _:Str×Option Int).1="hear"
  split
  . exact jp
  . exact ya
 rw[O8 nh,O8 nh]
 constructor <;> split <;> omega
def TkOk.ask(k:GmK ns ts p)(n6:ns.length<=6)(h:TkOk ns ts p t)(hw:t.z.aw.1="hear"):TkOk ns ts p (t.ask ns ts p rows)/\bN ns (t.ask ns ts p rows).z<bN ns t.z/\bO ns (t.ask ns ts p rows).z<=bO ns t.z/\¬ (t.ask ns ts p rows).z.aw.1="hear":=by
 let%[ok,a0,a5,tl,aw|ea]:=h.ak k n6 hw;let ho:=h.hear (rows:=rows) k n6 hw;let%[r1,_|_]:=oB (rows:=rows) ok 200 %[(0),t.bx|[]] h.bo (λx hx=>by cases hx) a0;let%[g1|g2]:=h.gd.hear k ho;let x0:=h.gd.hear_ne k ho;let e:cU ns ts p (t.said ns ts p rows) t.z=dC p (t.said ns ts p rows) { t.z with pl:=t.z.pl+((t.said ns ts p rows).length:Int) }:=O8 h.cl;let nr:=h.nr;let%[l1|l2]:=An (ns:=ns) (p:=p) { t.z with pl:=t.z.pl+((t.said ns ts p rows).length:Int) } _ x0;let s1:bN ns t.z=2*(ns.length-t.z.to.length):=O9 hw;let s2:bO ns t.z=ns.length-t.z.to.length:=O9 hw;erw[%[g1,g2,6,6,r1,by show 1<=t.nr+1;omega|λ_ he=>?_],6,6,6]
 . show 0<=(cU ns ts p _ t.z).s;rw[e];exact h.s0
 . show(cU ns ts p _ t.z).s<p;rw[e];exact h.s1
 . have:(cU ns ts p (t.said ns ts p rows) t.z).he=[]:=he
   rw[e]at this;exact absurd this x0
 . show bN ns (cU ns ts p _ t.z)<_;rw[e,s1];let l1':bN ns (dC p (t.said ns ts p rows) { t.z with pl:=t.z.pl+((t.said ns ts p rows).length:Int) })<=2*(ns.length-t.z.to.length)-1:=l1;omega
 . show bO ns (cU ns ts p _ t.z)<=_;rw[e,s2];exact l2
 . show ¬ (cU ns ts p _ t.z).aw.1="hear";rw[e];unfold dC;show ¬ (if _ then _ else _:Str×Option Int).1="hear"
   split
   . exact jp
   . exact ya
def TkOk.tossOk(h:TkOk ns ts p t)(hw:t.z.aw.1="coin"){r:Int}(r0:0<=r)(r1:r<p):TossOk ns p t.z r:=%[hw,r0,r1,h.gd.tl,(h.gd.co hw).2|h.gd.po]
def TkOk.toss(k:GmK ns ts p)(h:TkOk ns ts p t)(hw:t.z.aw.1="coin"){r:Int}(r0:0<=r)(r1:r<p):TkOk ns ts p (t.toss ns ts p r)/\bN ns (t.toss ns ts p r).z<bN ns t.z/\bO ns (t.toss ns ts p r).z+1<=bO ns t.z/\¬ (t.toss ns ts p r).z.aw.1="coin"/\(t.z.he=[]->(t.toss ns ts p r).z.s=r/\(t.toss ns ts p r).z.to=[])/\(t.z.he≠[]->(t.toss ns ts p r).z.s=t.z.s/\(t.toss ns ts p r).z.to=t.z.to++[r]):=by
 let ok:=h.tossOk hw r0 r1;let%[g1|g2]:=h.gd.toss k ok;let nh:¬ t.z.aw.1="hear":=by rw[hw];exact jp
 let s1:bN ns t.z=if t.z.he=[]then 2*ns.length+1 else 2*(ns.length-t.z.to.length)-1:=by unfold bN;rw[O8 nh,O9 hw]
 let s2:bO ns t.z=if t.z.he=[]then ns.length+1 else ns.length-t.z.to.length:=by unfold bO;rw[O8 nh,O9 hw]
 let nr:=h.nr
 by_cases c:t.z.he=[]
 . let et:=h.fi hw c;let e:dy ns ts p r t.z=goOn ns ts p { t.z with pl:=t.z.pl+1,s:=r,ed:=hor r p t.z.cl }:=O9 c;let lw:=wR (ns:=ns) (ts:=ts) (p:=p) { t.z with pl:=t.z.pl+1,s:=r,ed:=hor r p t.z.cl };let ll:=jt (ns:=ns) (ts:=ts) (p:=p) { t.z with pl:=t.z.pl+1,s:=r,ed:=hor r p t.z.cl };let ln:=kj (ns:=ns) (ts:=ts) (p:=p) { t.z with pl:=t.z.pl+1,s:=r,ed:=hor r p t.z.cl };rw[←e]at lw ll ln;erw[w1,w2,w3,w4]at lw;let l1:bN ns (dy ns ts p r t.z)<=2*(ns.length-t.z.to.length):=ll.1;let l2:bO ns (dy ns ts p r t.z)<=ns.length-t.z.to.length:=ll.2;rw[O9 c]at s1 s2;erw[%[g1,g2,6,6,h.bo,nr|λa=>absurd a ln],6,6,ln,λ_=>%[w1|w2.trans et],λz=>absurd c z]
   . show 0<=(dy ns ts p r t.z).s;rw[w1];exact r0
   . show(dy ns ts p r t.z).s<p;rw[w1];exact r1
   . show bN ns (dy ns ts p r t.z)<_;omega
   . show bO ns (dy ns ts p r t.z)+1<=_;omega
 . let tl:=((h.gd.co hw).2 c).2;let e:dy ns ts p r t.z=goOn ns ts p { t.z with pl:=t.z.pl+1,ed:=val p t.z.he r,to:=t.z.to++[r] }:=O8 c;let lw:=wR (ns:=ns) (ts:=ts) (p:=p) { t.z with pl:=t.z.pl+1,ed:=val p t.z.he r,to:=t.z.to++[r] };let ll:=jt (ns:=ns) (ts:=ts) (p:=p) { t.z with pl:=t.z.pl+1,ed:=val p t.z.he r,to:=t.z.to++[r] };let ln:=kj (ns:=ns) (ts:=ts) (p:=p) { t.z with pl:=t.z.pl+1,ed:=val p t.z.he r,to:=t.z.to++[r] };rw[←e]at lw ll ln;erw[w1,w2,w3,w4]at lw;let el:(t.z.to++[r]).length=t.z.to.length+1:=by rw[zJ0];rfl
   let l1:bN ns (dy ns ts p r t.z)<=2*(ns.length-(t.z.to++[r]).length):=ll.1;let l2:bO ns (dy ns ts p r t.z)<=ns.length-(t.z.to++[r]).length:=ll.2;rw[el]at l1 l2;rw[O8 c]at s1 s2;erw[%[g1,g2,6,6,h.bo,nr|λa=>absurd a ln],6,6,ln,λz=>absurd z c,λ_=>%[w1|w2]]
   . show 0<=(dy ns ts p r t.z).s;rw[w1];exact h.s0
   . show(dy ns ts p r t.z).s<p;rw[w1];exact h.s1
   . show bN ns (dy ns ts p r t.z)<_;omega
   . show bO ns (dy ns ts p r t.z)+1<=_;omega
def wG(k:GmK ns ts p)(n6:ns.length<=6):AkOk ((Tk.new ts).ak ns ts p)/\awN (Tk.new ts).z=(ts.length:Int)/\HearOk ns p (Db.new ts) ‹Tk.s›/\lE p (Tk.new ts).bx:=by
 let p2:=k.p2;let t1:=k.t1;let t10:=k.t10;let b0:lE p (Tk.new ts).bx:=λx=>by show(0:Int)<=0/\(0:Int)<p;omega
 let ok:AkOk ((Tk.new ts).ak ns ts p):=%[k,n6,qH1 0,λz=>absurd z (by show ¬ (0:Int)<0;omega),(λx hx=>by cases hx),qH1 0,(by show(0:Int)<p;omega),qH1 0,(by show(0:Int)<p;omega)|zW0 _]
 let%[_,r2|r3]:=oB (rows:=rows) ok 200 %[(0),(Tk.new ts).bx|[]] b0 (λx hx=>by cases hx) (by show(0:Int)<=(ts.length:Int);omega);let xl:(‹Tk.s›.length:Int)=(ts.length:Int):=xM r3;erw[ok,1,%[6,AW r2 (by show 0<p;omega),3,λz=>absurd rfl z,zW0 _|λx hx=>by cases hx],b0];rw[xl];rfl
def lT(k:GmK ns ts p)(n6:ns.length<=6):TkOk ns ts p ‹Tk.a›/\bN ns ‹Tk.a›.z<=2*ns.length+1/\bO ns ‹Tk.a›.z<=ns.length+(if 1<ts.length then 1 else 0)/\(1<ts.length->‹Tk.a›.z.aw=(("coin":Str),none)/\‹Tk.a›.z.he=[]/\‹Tk.a›.z.to=[])/\(¬ 1<ts.length->¬ ‹Tk.a›.z.aw.1="coin"/\‹Tk.a›.z.s=0/\‹Tk.a›.z.to=[]):=by
 let p2:=k.p2;let t1:=k.t1;let%[ok,_,ho|b0]:=wG (rows:=rows) k n6;let%[r1,_|_]:=oB (rows:=rows) ok 200 %[(0),(Tk.new ts).bx|[]] b0 (λx hx=>by cases hx) (by show(0:Int)<=(ts.length:Int);omega);let%[g1|g2]:=(Gd.new k).hear k ho;let e0:cU ns ts p ‹Tk.s› (Db.new ts)=jr ns ts p ‹Tk.s› { Db.new ts with pl:=(Db.new ts).pl+(‹Tk.s›.length:Int) }:=O9 rfl
 by_cases c:ts.length=1
 . let e:cU ns ts p ‹Tk.s› (Db.new ts)=goOn ns ts p { Db.new ts with pl:=(Db.new ts).pl+(‹Tk.s›.length:Int),cl:=‹Tk.s›,s:=0,ed:=hor 0 p ‹Tk.s› }:=by
    rw[e0];exact O9 c
   let lw:=wR (ns:=ns) (ts:=ts) (p:=p) { Db.new ts with pl:=(Db.new ts).pl+(‹Tk.s›.length:Int),cl:=‹Tk.s›,s:=0,ed:=hor 0 p ‹Tk.s› };let ll:=jt (ns:=ns) (ts:=ts) (p:=p) { Db.new ts with pl:=(Db.new ts).pl+(‹Tk.s›.length:Int),cl:=‹Tk.s›,s:=0,ed:=hor 0 p ‹Tk.s› };let ln:=kj (ns:=ns) (ts:=ts) (p:=p) { Db.new ts with pl:=(Db.new ts).pl+(‹Tk.s›.length:Int),cl:=‹Tk.s›,s:=0,ed:=hor 0 p ‹Tk.s› };rw[←e]at lw ll ln;erw[w1,w2,w3,w4]at lw;let l1:bN ns (cU ns ts p ‹Tk.s› (Db.new ts))<=2*(ns.length-0):=ll.1;let l2:bO ns (cU ns ts p ‹Tk.s› (Db.new ts))<=ns.length-0:=ll.2;erw[%[g1,g2,6,6,r1,by show(1:Int)<=0+1;decide|λa=>absurd a ln],6,6,λz=>#[0],λ_=>%[ln,w1|w2]]
   . show 0<=(cU ns ts p _ (Db.new ts)).s;rw[w1];exact qH1 0
   . show(cU ns ts p _ (Db.new ts)).s<p;rw[w1];show(0:Int)<p;omega
   . show bN ns (cU ns ts p _ (Db.new ts))<=_;omega
   . show bO ns (cU ns ts p _ (Db.new ts))<=_;rw[O8 #[0]];omega
 . let e:cU ns ts p ‹Tk.s› (Db.new ts)={ Db.new ts with pl:=(Db.new ts).pl+(‹Tk.s›.length:Int),cl:=‹Tk.s›,aw:=("coin",none) }:=by
    rw[e0];exact O8 c
   let ez:‹Tk.a›.z={ Db.new ts with pl:=(Db.new ts).pl+(‹Tk.s›.length:Int),cl:=‹Tk.s›,aw:=("coin",none) }:=e;erw[%[g1,g2,6,6,r1,by show(1:Int)<=0+1;decide|λ_ _=>?_],6,6,λ_=>%[6,6|6],λz=>#[0]]
   . rw[ez];exact qH1 0
   . rw[ez];show(0:Int)<p;omega
   . rw[ez];rfl
   . rw[ez];show(if(("coin":Str)="hear")then _ else if(("coin":Str)="coin")then(if([]:List Int)=[]then 2*ns.length+1 else _)else 0)<=_;rw[O8 jp,O9 rfl,O9 rfl];exact zH0 _
   . rw[ez];show(if(("coin":Str)="hear")then _ else if(("coin":Str)="coin")then(if([]:List Int)=[]then ns.length+1 else _)else 0)<=_;rw[O8 jp,O9 rfl,O9 rfl,O9 #[0]];exact zH0 _
   . rw[ez]
   . rw[ez];rfl
   . rw[ez];rfl
end
inductive TR where
 |claims (xs:List Int) | say (xs:List Int) | coin (r:Int)
def cD(ns:List Str)(ts:List Tr)(p:Int)(rows:List Hr):List Int->Nat->Tk->List TR×Tk
 |_,0,t=>([],t)
 | cs,n+1,t=>if t.z.aw.1="hear" then(.say (t.said ns ts p rows)::(cD ns ts p rows cs n (t.ask ns ts p rows)).1,(cD ns ts p rows cs n (t.ask ns ts p rows)).2)
   else if t.z.aw.1="coin" then(.coin (cs.headD 0)::(cD ns ts p rows cs.tail n (t.toss ns ts p (cs.headD 0))).1,(cD ns ts p rows cs.tail n (t.toss ns ts p (cs.headD 0))).2)
   else([],t)
def gl(ns:List Str)(ts:List Tr)(p:Int)(rows:List Hr)(cs:List Int):List TR×Tk:=(.claims ‹Tk.s›::(cD ns ts p rows cs 20 ‹Tk.a›).1,(cD ns ts p rows cs 20 ‹Tk.a›).2)
def dO{t:Tk}(h1:¬ t.z.aw.1="hear")(h2:¬ t.z.aw.1="coin"):∀n,cD ns ts p rows cs n t=([],t)
 |0=>rfl
 |n+1=>by
   show(if _ then _ else _)=_;rw[O8 h1,O8 h2]
def settle(ns:List Str)(ts:List Tr)(p:Int)(rows:List Hr):Nat->Tk->Tk
 |0,t=>t
 |n+1,t=>if t.z.aw.1="hear" then settle ns ts p rows n (t.ask ns ts p rows)else t
def ju(f:Int->Int×Option (List Int)):Nat->Int×Option (List Int)
 |0=>(0,none)
 |k+1=>((ju f k).1+(f (k:Int)).1,(ju f k).2.or (f (k:Int)).2)
def iq(ns:List Str)(ts:List Tr)(p:Int)(rows:List Hr)(cn:Nat):Nat->Tk->List Int->Int×Option (List Int)
 |0,_,_=>(0,none)
 | d+1,t,cs=>if(settle ns ts p rows 2 t).z.aw.1="believed" then(1,none)else if(settle ns ts p rows 2 t).z.aw.1="caught" then(0,some (cs++List.replicate (cn-cs.length) 0))
   else ju (λr=>iq ns ts p rows cn d ((settle ns ts p rows 2 t).toss ns ts p r) (cs++[r])) p.toNat
def Beg(ns:List Str)(ts:List Tr)(p:Int)(t:Tk):Prop:=t=Tk.new ts∨TkOk ns ts p t
section
variable {ns:List Str}{ts:List Tr}{p:Int}{t:Tk}{rows:List Hr}
def cW(h:¬ t.z.aw.1="hear"):∀n,settle ns ts p rows n t=t
 |0=>rfl
 |n+1=>O8 h
def lH(k:GmK ns ts p)(n6:ns.length<=6)(h:TkOk ns ts p t):TkOk ns ts p (settle ns ts p rows 2 t)/\bO ns (settle ns ts p rows 2 t).z<=bO ns t.z/\¬ (settle ns ts p rows 2 t).z.aw.1="hear":=by
 by_cases c:t.z.aw.1="hear"
 . let%[o1,_,o3|o4]:=h.ask (rows:=rows) k n6 c;let e:settle ns ts p rows 2 t=t.ask ns ts p rows:=(O9 c).trans (cW o4 1);rw[e];erw[o1,o3,o4]
 . rw[cW c];erw[h,zH0 _,c]
def jG(k:GmK ns ts p)(n6:ns.length<=6):TkOk ns ts p (settle ns ts p rows 2 (Tk.new ts))/\bO ns (settle ns ts p rows 2 (Tk.new ts)).z<=ns.length+(if 1<ts.length then 1 else 0)/\¬ (settle ns ts p rows 2 (Tk.new ts)).z.aw.1="hear":=by
 let%[o1,_,o3,_|_]:=lT (rows:=rows) k n6;let e:settle ns ts p rows 2 (Tk.new ts)=settle ns ts p rows 1 ‹Tk.a›:=O9 rfl;rw[e]
 by_cases c:‹Tk.a›.z.aw.1="hear"
 . let%[q1,_,q3|q4]:=o1.ask (rows:=rows) k n6 c;let e:settle ns ts p rows 1 ‹Tk.a›=‹Tk.a›.ask ns ts p rows:=O9 c;rw[e];erw[q1,zP0 q3 o3,q4]
 . rw[cW c];erw[o1,o3,c]
def Beg.settle(k:GmK ns ts p)(n6:ns.length<=6)(h:Beg ns ts p t):TkOk ns ts p (settle ns ts p rows 2 t)/\¬ (settle ns ts p rows 2 t).z.aw.1="hear":=by
 rcases h with rfl | h
 . erw[(jG k n6).1,(jG k n6).2.2]
 . erw[(lH k n6 h).1,(lH k n6 h).2.2]
def yL(h:TkOk ns ts p t)(hn:¬ t.z.aw.1="hear")(h1:¬ t.z.aw.1="believed")(h2:¬ t.z.aw.1="caught"):t.z.aw.1="coin":=by
 rcases h.gd.ww with e | e | e | e
 . exact absurd e hn
 . exact e
 . exact absurd e h2
 . exact absurd e h1
structure AskOk(ns:List Str)(ts:List Tr)(p:Int)(rows:List Hr)(t:Tk):Prop where
 ak:AkOk (t.ak ns ts p)
 bo:lE p t.bx
 aw:t.z.aw=(("hear":Str),some (awN t.z))
 a0:0<=awN t.z
 a5:awN t.z<=500
 ho:HearOk ns p t.z (t.said ns ts p rows)
def Beg.ask(k:GmK ns ts p)(n6:ns.length<=6)(h:Beg ns ts p t)(hw:t.z.aw.1="hear"):AskOk ns ts p rows t:=by
 rcases h with rfl | h
 . let%[ak0,an0,ho0|bo0]:=wG (rows:=rows) k n6;let t1:=k.t1;let t10:=k.t10;erw[ak0,bo0,1,by rw[an0];omega,by rw[an0];omega,ho0]
 . let%[ak,a0,a5,tl,aw|ea]:=h.ak k n6 hw;erw[ak,h.bo,aw,a0,a5,h.hear (rows:=rows) k n6 hw]
def Beg.asked(k:GmK ns ts p)(n6:ns.length<=6)(h:Beg ns ts p t)(hw:t.z.aw.1="hear"):TkOk ns ts p (t.ask ns ts p rows):=by
 rcases h with rfl | h
 . exact(lT (rows:=rows) k n6).1
 . exact(h.ask (rows:=rows) k n6 hw).1
end
section
variable {C CM CA CG:Addr}
structure TalkAt(C CM CG:Addr)(H:Hp)(D M g h b:Addr)(rows:List Hr)(ns:List Str)(ts:List Tr)(p:Int)(t:Tk)(m:Nat):Prop where
 DA:DbAt C H D g t.z
 G:Gm CG H g ns ts p
 hM:∃dm,H M=some (.ins CM dm (ml g h t.nr b))
 hh:∃rv,H h=some (.tup rv)/\RowsAt H rv rows
 BX:BxAt H b t.bx m
 ne:D≠M
def TalkAt.same(w:TalkAt C CM CG H D M g h b rows ns ts p t m)(s:Same H H'):TalkAt C CM CG H' D M g h b rows ns ts p t m:=by
 erw[DA,G,%[dm|hM],%[rv,hh|R],B,ne]at w;erw[DA.same s,G.same s,%[dm|s _ _ hM],%[rv,s _ _ hh|R.mono (aY s)],B.keep λo e=>s _ _ e,ne]
def DbAt.but2{C' dm:Addr}{fs:List (Str×V)}{Pb:List (Key×V)}(h:DbAt C H D g z)(s:Jq M b H H')(hM:H M=some (.ins C' dm fs))(hb:H b=some (.dK Pb))(ne:D≠M):DbAt C H' D g z:=by
 erw[dx,aA,aC,aH,aT,R]at h;let kT:cG H H':=λa xs e=>s _ _ (bt e hM nofun) (bt e hb nofun) e
 erw[dx,aA,aC,aH,aT,s _ _ ne (bt R.hD hb nofun) R.hD,kT _ _ R.hA,kT _ _ R.hC,kT _ _ R.hH,kT _ _ R.hT]
def Gm.but2{dm:Addr}{Pb:List (Key×V)}(G:Gm CG H g ns ts p)(s:Jq M b H H')(hM:H M=some (.ins CM dm (ml g' h r b')))(hb:H b=some (.dK Pb)):Gm CG H' g ns ts p:=by
 erw[a,b1,d,tv,%[dg|hg],h2,h3,h4,h5]at G;let kT:cG H H':=λa xs e=>s _ _ (bt e hM nofun) (bt e hb nofun) e
 let gM:g≠M:=λe=>by
  rw[e,hM]at hg;cases hg
 erw[a,b1,d,tv,%[dg|s _ _ gM (bt hg hb nofun) hg],kT _ _ h2,kT _ _ h3,h4.mono kT,s _ _ (bt h5 hM nofun) (bt h5 hb nofun) h5]
def TalkAt.doub(w:TalkAt C CM CG H D M g h b rows ns ts p t m)(s:SameBut D H H')(DA:DbAt C H' D g z'):TalkAt C CM CG H' D M g h b rows ns ts p %[z',t.bx|t.nr] m:=by
 erw[DA0,G,%[dm|hM],%[rv,hh|R],B,ne]at w;erw[dx,aA,aC,aH,aT,R0]at DA0;let kT:cG H H':=λa xs e=>s _ _ (bt e R0.hD nofun) e
 let%[Pb,hb|_]:=id B;erw[DA,G.but R0.hD (G.ne R0.hD jx) s,%[dm|s _ _ ne.symm hM],%[rv,kT _ _ hh|R.mono kT],B.keep λo e=>s _ _ (bt hb R0.hD nofun) e,ne]
instance spAsked(C CM CG:Addr):∀(D M g h b:Addr) (rows:List Hr) (ns:List Str) (ts:List Tr) (p:Int) (t:Tk) (m:Nat),vs=[.ref M,.ref D]->TalkAt C CM CG H D M g h b rows ns ts p t m->GmK ns ts p->(∀r∈rows,r.good)->AkOk (t.ak ns ts p)->lE p t.bx->t.z.aw=(("hear":Str),some (awN t.z))->0<=awN t.z->awN t.z<=500->HearOk ns p t.z (t.said ns ts p rows)->m<=5000->(∀(a:Addr) (H':Hp),H a=none->H' a=some (.tup ((t.said ns ts p rows).map V.int))->TalkAt C CM CG H' D M g h b rows ns ts p (t.ask ns ts p rows) (m+200)->But3 D M b H H'->Q (.ref a) H'):=1
def qu:FnScope ["machine","doubter","values"] Wj (aj jU):=%[|5]
structure Ways(P:Program)(w:World)(K:W.Frag)(mg:#[9])(base:Heap)(C CM CG fW fU fH fT fS:Addr)(fdW fdU fdH fdT fdS:FuncData):Prop where
 mW:Meth K C "waits" fW
 GW:#[1,fW,fdW,WA,spOf C λz v H=>∃a,v=.ref a/\H a=some (.tup (awV z.aw))]
 bW:Binds K fdW WA []
 mU:Meth K C "due" fU
 GU:#[1,fU,fdU,WA,spOf C λz v _=>v=.int z.ed]
 bU:Binds K fdU WA []
 mH:Meth K C "hear" fH
 GH:#[18,fH,fdH,WF,spHear C CG]
 bH:Binds K fdH WF []
 mT:Meth K C "toss" fT
 GT:#[17,fT,fdT,We,spToss C CG]
 bT:Binds K fdT We []
 mS:Meth K CM "say" fS
 GS:#[25,fS,fdS,WY,spSay CM CG]
 bS:Binds K fdS WY []
def TalkAt.asked{dm:Addr}{n1:Int}(w:TalkAt C CM CG H D M g h b rows ns ts p t m)(hM:H M=some (.ins CM dm (ml g h t.nr b)))(B1:BxAt H1 b (t.run ns ts p rows).bx (m+200))(hM1:H1 M=some (.ins CM dm (ml g h (t.nr+1) b)))(s1:Jq M b H H1)(e1:n1=t.nr+1):TalkAt C CM CG H1 D M g h b rows ns ts p %[t.z,(t.run ns ts p rows).bx|n1] (m+200):=by
 erw[DA0,G,_,%[rv,hh|R],B,ne]at w;let%[Pb,hb|_]:=id B;let kT:cG H H1:=λa xs e=>s1 _ _ (bt e hM nofun) (bt e hb nofun) e
 subst e1;erw[DA0.but2 s1 hM hb ne,G.but2 s1 hM hb,%[dm|hM1],%[rv,kT _ _ hh|R.mono kT],B1,ne]
def uC(F:#["asked_once",jU])(B:Bl mg)(T:DTxt K mg C)(TM:MTxt K mg CM)(Y:Ways P w K mg base C CM CG fW fU fH fT fS fdW fdU fdH fdT fdS):#[26,f,fd,Wj,spAsked C CM CG]:=by
 exists qu
 erw[D,M,g,h,b,rows,ns,ts,p,t,m,1,W,k,rg,ok,bo,aw,a0,a5,ho,mm,q]at h;let hr1:Room 1 _:=hr.mono ⋯;let hr18:Room 18 _:=hr.mono ⋯;let hr25:Room 25 _:=hr.mono ⋯;refine⟨_,(ad #[ao,2,qu,bK (pv 0) TM.cl Y.mS Y.GS hr25 Y.bS .nil aZ %[aM ix_tup (bz (pv 1) T.cl Y.mW Y.GW hr1 Y.bW .nil aZ) ag #[1],bz (pv 1) T.cl Y.mU Y.GU hr1 Y.bU .nil aZ,az (pv 1) rfl,bc kx rfl B.list ky %[az (pv 1) rfl|ae]|ae]]
  (ad (bb (bK (pv 1) T.cl Y.mH Y.GH hr18 Y.bH .nil aZ %[2|ae]))
  (af (am (bc bh rfl B.tuple bi %[2|ae]))))),?_⟩
 erw[dm,hM]at W.hM;let DA:=W.DA;let%[dx,aA,aC,aH,aT|R]:=id DA;erw[0,M,dm,0,hM,JF,0,D,dx,0,R.hD,qJ,D,g,t.z,1,DA,λv hv=>?_];erw[av,1,hav]at hv;rw[aw]at hav;erw[av,_,(1),.int (awN t.z),1,1,zC0 hav,1,0,D,dx,0,R.hD,dl_n2,D,g,t.z,1,DA,λv hv=>?_];subst hv;erw[0,D,C,dx,_,0,R.hD,9,T.nS,Lb,0,D,C,dx,_,0,R.hD,9,T.nT,Ar,aT,0,.inr (zC0 R.hT),λl hl=>?_];let I:=zE0 hl (.lst (t.z.to.map V.int));let g1:upd H l (.lst (t.z.to.map V.int)) l=some (.lst (t.z.to.map V.int)):=ah;generalize upd H l (.lst (t.z.to.map V.int))=H1 at I g1;let W1:=W.same I;erw[rv,hh,RW]at W1.hh;erw[M,g,h,b,dm,l,rv,t.ak ns ts p,rows,t.bx,m,1,I _ _ hM,hh,RW,rg,W1.BX,bo,mm,W1.G,ok,.inl g1,a0,a5,λl2 H2 l20 hl2 B2 hM2 S2=>?_];let hs:H2 l2=some (.lst ((t.said ns ts p rows).map V.int)):=hl2;let W2:=W1.asked (n1:=t.nr+1) (I _ _ hM) B2 hM2 S2 rfl;let%[Ph,_,_,_,_|R2]:=id W2.DA;erw[0,D,Ph,0,R2.hD,dl_n4,0,D,g,l2,t.z,t.said ns ts p rows,ns,ts,p,1,W2.DA,W2.G,k,hs,ho.aw,ho.xo,ho.x5,ho.ro,ho.tl,ho.po,λH3 S3 DA3=>?_];let W3:=W2.doub S3 DA3;let hs3:=S3 _ _ (bt hs R2.hD nofun) hs;erw[0,l2,0,.inl %[zG0 hs3|λa ha=>?_]];let J:=zE0 ha (.tup ((t.said ns ts p rows).map V.int));let fr:But3 D M b H H3:=λc o h1 h2 h3 e=>S3 _ _ h1 (S2 _ _ h2 h3 (I _ _ e))
 apply q a _ ?_ ah (W3.same J) (λc o h1 h2 h3 e=>J _ _ (fr c o h1 h2 h3 e));cases e:H a with
 |none=>rfl
 |some o=>
   erw[dx3,_,_,_,_,R3]at W3.DA;erw[dm3,hM3]at W3.hM;erw[Pb,hb3,_]at W3.BX;let n1:a≠D:=λz=>by rw[z,R3.hD]at ha;cases ha
   let n2:a≠M:=λz=>by rw[z,hM3]at ha;cases ha
   let n3:a≠b:=λz=>by rw[z,hb3]at ha;cases ha
   rw[fr a o n1 n2 n3 e]at ha;cases ha
end
section
variable {C CM CA CG:Addr}
inductive TRAt(H:Hp):V->TR->Prop
 |claims {a b:Addr} {xs:List Int}:H a=some (.tup [.str "claims",.ref b])->H b=some (.tup (xs.map V.int))->TRAt H (.ref a) (.claims xs)
 |say {a b:Addr} {xs:List Int}:H a=some (.tup [.str "say",.ref b])->H b=some (.tup (xs.map V.int))->TRAt H (.ref a) (.say xs)
 |coin {a:Addr} {r:Int}:H a=some (.tup [.str "coin",.int r])->TRAt H (.ref a) (.coin r)
def TRAt.mono(k:cG H H')(h:TRAt H v r):TRAt H' v r:=by
 cases h with
 |claims e f=>exact .claims (k _ _ e) (k _ _ f)
 |say e f=>exact .say (k _ _ e) (k _ _ f)
 |coin e=>exact .coin (k _ _ e)
def TRsAt(H:Hp):List V->List TR->Prop
 | [],[]=>True
 |v::vs,r::rs=>TRAt H v r/\TRsAt H vs rs
 |_,_=>False
def TRsAt.mono(k:cG H H'):∀{vs:List V}{rs:List TR},TRsAt H vs rs->TRsAt H' vs rs
 | [],[],_=>trivial
 |_::_,_::_,h=>%[h.1.mono k|TRsAt.mono k h.2]
 | [],_::_,h=>h.elim
 |_::_,[],h=>h.elim
def TRsAt.snoc(hr:TRAt H v r):∀{vs:List V}{rs:List TR},TRsAt H vs rs->TRsAt H (vs++[v]) (rs++[r])
 | [],[],_=>%[hr|trivial]
 |_::_,_::_,h=>%[h.1|TRsAt.snoc hr h.2]
 | [],_::_,h=>h.elim
 |_::_,[],h=>h.elim
structure Told(H:Hp)(a:Addr)(x:List TR×Tk):Prop where
 ex:∃(b c:Addr)(vs:List V),H a=some (.tup [.ref b,.ref c])/\H b=some (.tup vs)/\TRsAt H vs x.1/\H c=some (.tup (awV x.2.z.aw))
def hc_in(o:Str):inV (.str o) [.str "hear",.str "coin"]=(decide (o="hear")||decide (o="coin")):=by
 show (("hear"==o)||(("coin"==o)||false))=_;rw[vD1];let e:∀z:Str,(z==o)=decide (o=z):=λz=>by
  by_cases c:o=z
  . subst c;simp
  . rw[zB1 c];simpa using λh=>c h.symm
 rw[e,e]
instance spTalked(C CM CG:Addr):∀(g h c:Addr)(rv:List V)(rows:List Hr)(ns:List Str)(ts:List Tr)(p:Int)(cs:List Int),vs=[.ref g,.ref h,.ref c]->Gm CG H g ns ts p->GmK ns ts p->ns.length<=6->H h=some (.tup rv)->RowsAt H rv rows->(∀r∈rows,r.good)->IntsAt H c cs->bY cs p->ns.length+(if 1<ts.length then 1 else 0)<=cs.length->cs.length<=100->(∀(a:Addr)(H':Hp),Same H H'->Told H' a (gl ns ts p rows cs)->Q (.ref a) H'):=1
def g9:FnScope ["game","helper","coins","machine","doubter","talk","tossed"] Wy (aj rZ):=%[|5]
def DK(a:Str×Option Int):atI (awV a) 0=some (.str a.1):=cu (j:=0) (JM a)
def eW{n:Nat}{t:Tk}(h:t.z.aw.1="hear"):cD ns ts p rows cs (n+1) t=(.say (t.said ns ts p rows)::(cD ns ts p rows cs n (t.ask ns ts p rows)).1,(cD ns ts p rows cs n (t.ask ns ts p rows)).2):=O9 h
def dH{n:Nat}{t:Tk}(h:t.z.aw.1="coin"):cD ns ts p rows cs (n+1) t=(.coin (cs.headD 0)::(cD ns ts p rows cs.tail n (t.toss ns ts p (cs.headD 0))).1,(cD ns ts p rows cs.tail n (t.toss ns ts p (cs.headD 0))).2):=by
 show(if _ then _ else if _ then _ else _)=_;rw[O8 (by rw[h];exact jp),O9 h]
def eX(h:TkOk ns ts p t)(hw:t.z.aw.1="hear"∨t.z.aw.1="coin"):1<=bN ns t.z/\(t.z.aw.1="coin" -> 1<=bO ns t.z):=by
 rcases hw with hw | hw
 . let tl:t.z.to.length<ns.length:=by
    rcases h.gd.he hw with⟨e,_⟩ | ⟨_,tl,_⟩
    . exact absurd e h.cl
    . exact tl
   erw[6,λz=>absurd (z.symm.trans hw) jp]
   have:bN ns t.z=2*(ns.length-t.z.to.length):=O9 hw
   omega
 . let nh:¬ t.z.aw.1="hear":=by rw[hw];exact jp
   let s1:bN ns t.z=if t.z.he=[]then 2*ns.length+1 else 2*(ns.length-t.z.to.length)-1:=by unfold bN;rw[O8 nh,O9 hw]
   let s2:bO ns t.z=if t.z.he=[]then ns.length+1 else ns.length-t.z.to.length:=by unfold bO;rw[O8 nh,O9 hw]
   by_cases c:t.z.he=[]
   . rw[O9 c]at s1 s2;erw[3,λ_=>#[0]]
   . let tl:=((h.gd.co hw).2 c).2;rw[O8 c]at s1 s2;erw[3,λ_=>#[0]]
def Dx{cs:List Int}{u:Nat}(h:u<cs.length):(cs.drop u).headD 0=cs.getD u 0/\(cs.drop u).tail=cs.drop (u+1):=by
 rw[jW0 h,qJ0,zL0 h];erw[1,1]
def Bf{K:W.Frag}{u:Nat}{Q:VK}(h:IntsAt H c cs)(hu:u<cs.length)(q:Q (.int (cs.getD u 0)) H):rIx K (.ref c) (.int (u:Int)) H Q:=
 h.elim (λe=>.inl %[c,_,2,zG0 e,oT hu|q]) (λe=>.inr (.inl %[c,_,2,zC0 e,oT hu|q]))
def TalkAt.put{L:Addr}{ys zs:List V}(w:TalkAt C CM CG H D M g h b rows ns ts p t m)(hL:H L=some (.lst ys))(G:Gm CG (upd H L (.lst zs)) g ns ts p):TalkAt C CM CG (upd H L (.lst zs)) D M g h b rows ns ts p t m:=by
 erw[%[dx,aA,aC,aH,aT|R],_,%[dm|hM],%[rv,hh|RR],B,ne]at w;let kT:cG H (upd H L (.lst zs)):=dB hL;let U:∀{c:Addr}{o:HO},c≠L->H c=some o->upd H L (.lst zs) c=some o:=λn e=>by rw[aD n];exact e
 let%[Pb,hb|_]:=id B;erw[%[dx,aA,aC,aH,aT,U (bt R.hD hL nofun) R.hD,kT _ _ R.hA,kT _ _ R.hC,kT _ _ R.hH|kT _ _ R.hT],G,%[dm|U (bt hM hL nofun) hM],%[rv,kT _ _ hh|RR.mono kT],B.keep λo e=>U (bt hb hL nofun) e,ne]
def TRsAt.len:∀{vs:List V}{rs:List TR},TRsAt H vs rs->vs.length=rs.length
 | [],[],_=>rfl
 |_::_,_::_,h=>congrArg (·+1) (TRsAt.len h.2)
 | [],_::_,h=>h.elim
 |_::_,[],h=>h.elim
instance ITk(C CM CG:Addr)(H:Hp)(D M g h c L b:Addr)(rows:List Hr)(ns:List Str)(ts:List Tr)(p:Int)(cs:List Int)(mm:Nat)(σ:St)(H':Hp):∀(t:Tk)(n u m:Nat)(rs:List TR)(vs:List V),σ=[some (.ref g),some (.ref h),some (.ref c),some (.ref M),some (.ref D),some (.ref L),some (.int (u:Int))]->mm=n->bN ns t.z<=n->n<=20->TalkAt C CM CG H' D M g h b rows ns ts p t m->TkOk ns ts p t->H' L=some (.lst vs)->TRsAt H' vs rs->(rs++(cD ns ts p rows (cs.drop u) n t).1,(cD ns ts p rows (cs.drop u) n t).2)=gl ns ts p rows cs->bO ns t.z+u<=cs.length->m+200*n<=4200->rs.length+n<=21->Same H H':=0
def Ct(F:#["talked",rZ])(B:Bl mg)(T:DTxt K mg C)(TM:MTxt K mg CM)(Y:Ways P w K mg base C CM CG fW fU fH fT fS fdW fdU fdH fdT fdS)
 (MD:Mk K C fI)(GD:#[1,fI,fdI,WJ,spDInit C CG])(bD:Binds K fdI WJ [])(MM:Mk K CM fM)(GM:#[1,fM,fdM,WH,spMInit CM])(bM:Binds K fdM WH [])
 (b6:#[26,"asked_once",Wj,spAsked C CM CG]):#[27,f,fd,Wy,spTalked C CM CG]:=by
 exists g9
 erw[g,h,c,rv,rows,ns,ts,p,cs,1,G,k,n6,hh,RW,rg,hc,co,cl,c100,q]at h;let hr1:Room 1 _:=hr.mono ⋯;let hr2:Room (1+1) _:=hr.mono ⋯;let hr17:Room 17 _:=hr.mono ⋯;refine⟨_,(ad #[ao,3,g9,gJ MM GM hr2 rfl TM.mgC bM .nil aZ %[0,1|ae]]
  (ad #[ao,4,g9,gJ MD GD hr2 rfl T.mgC bD .nil aZ %[0|ae]]
  (ad #[ao,5,g9,bZ %[aS %[aF,ax b6 hr ⋯ rfl %[3,4|ae]|ae]|ae]]
  (ad #[ao,6,g9,ag]
  (ad (iF zE1 (ai dP (aM ix_tup (bz (pv 4) T.cl Y.mW Y.GW hr1 Y.bW .nil aZ) ag #[1]) (aS %[aF,aF|ae]) (by rfl')) (af (aJ (ai aQ (aM ix_tup (bz (pv 4) T.cl Y.mW Y.GW hr1 Y.bW .nil aZ) ag #[1]) aF (ay _)) (af (bb (dZ zF1 zL1 zM1 cY (pv 5) %[aS %[aF,ax b6 hr ⋯ rfl %[3,4|ae]|ae]|ae]))) (ad (bb (bK (pv 4) T.cl Y.mT Y.GT hr17 Y.bT .nil aZ %[aM Ge (pv 2) (pv 6) #[1]|ae]))
   (ad (bb (dZ zF1 zL1 zM1 cY (pv 5) %[aS %[aF,aM Ge (pv 2) (pv 6) #[1]|ae]|ae]))
   (af #[ao,6,g9,au aV (pv 6) ag]))))))
  (af (am (aS %[bc bh rfl B.tuple bi %[5|ae],bz (pv 4) T.cl Y.mW Y.GW hr1 Y.bW .nil aZ|ae])))))))),?_⟩
 erw[0,0,λM dm hM0 hdm0 nM=>?_];let K1:Same H (upd (upd H dm (.own M)) M (.ins CM dm [])):=λa o e=>by
  rw[aD (aO e hM0),aD (aO e hdm0)];exact e
 erw[M,g,h,dm,1,ah,λb H2 b0 hM2 hb2 S2=>%[1|6]];let T2:Same H H2:=Same.but K1 hM0 S2;let b00:H b=none:=K1.free b0;clear K1 S2 b0;erw[0,λD dd hD0 hdd0 nD=>?_];let K3:Same H2 (upd (upd H2 dd (.own D)) D (.ins C dd [])):=λa o e=>by
  rw[aD (aO e hD0),aD (aO e hdd0)];exact e
 let G2:=G.same T2;let gD:g≠D:=by
  erw[_,_,_,_,%[dg|hg],_]at G2;exact aO hg hD0
 erw[D,g,dd,ns,ts,p,1,ah,G2.same K3,gD,λH4 S4 DA4=>%[1|6]];let T24:Same H2 H4:=Same.but K3 hD0 S4;let T4:Same H H4:=T2.trans T24;let D00:H D=none:=T2.free hD0;let nDM:D≠M:=(aO hM2 hD0).symm;let W4:TalkAt C CM CG H4 D M g h b rows ns ts p (Tk.new ts) 0:=⟨DA4,G.same T4,⟨dm,T24 _ _ hM2⟩,⟨rv,T4 _ _ hh,RW.mono (aY T4)⟩,⟨[],T24 _ _ hb2,zH0 _,λ_=>rfl⟩,nDM⟩
 clear K3 S4 DA4 T24 hM2 hb2 G2 T2;let%[ak0,an0,ho0|bo0]:=wG (rows:=rows) k n6;let t1:=k.t1;let t10:=k.t10;erw[0,0,D,M,g,h,b,rows,ns,ts,p,Tk.new ts,(0),1,W4,k,rg,ak0,bo0,1,by rw[an0];omega,by rw[an0];omega,ho0,4,λa5 H5 a50 ha5 W5 S5=>?_];let T5:Same H H5:=λa o e=>S5 _ _ (aO e D00) (aO e hM0) (aO e b00) (T4 _ _ e)
 erw[y2S,λt6 h6=>%[y1S|λL hL=>?_]];let I6:=zE0 h6 (.tup [.str "claims",.ref a5]);let I7:=zE0 hL (.lst [.ref t6]);let R7:TRsAt (upd (upd H5 t6 (.tup [.str "claims",.ref a5])) L (.lst [.ref t6])) [.ref t6] [.claims ‹Tk.s›]:=%[.claims (I7 _ _ ah) (I7 _ _ (I6 _ _ ha5))|trivial]
 let g7:upd (upd H5 t6 (.tup [.str "claims",.ref a5])) L (.lst [.ref t6]) L=some (.lst [.ref t6]):=ah;let J7:=I6.trans I7;let L00:H L=none:=(T5.trans I6).free hL;generalize upd (upd H5 t6 (.tup [.str "claims",.ref a5])) L (.lst [.ref t6])=H7 at R7 g7 J7;let%[ok7,st7,co7|_]:=lT (rows:=rows) k n6;let W7:=W5.same J7;let T7:=T5.trans J7;clear I6 I7 J7 S5 T5 W5 W4 T4 ha5 h6 hL;erw[ITk C CM CG H D M g h c L b rows ns ts p cs,%[(20),‹Tk.a›,(20),(0),(200),2,3,zH0 _,W7,ok7,g7,R7,1,3,4,(by show 1+20<=21;decide)|T7],6]
 clear st7 co7 ok7 W7 T7 R7 g7 ak0 an0 ho0 bo0;rintro mm σ H' ⟨t,n,u,m,rs,vs,rfl,rfl,sn,n20,W,ok,hL,TR,eq,cn,mn,rn,S⟩;let DA:=W.DA;let%[dx,aA,aC,aH,aT|R]:=id DA;let p2:=k.p2;let vl:=TR.len;erw[0,D,dx,0,R.hD,qJ,D,g,t.z,1,DA,λv hv=>?_];erw[av,1,hav]at hv;erw[av,_,(0),0,1,zC0 hav,DK _,y2S,λc1 hc1=>?_];let I1:=zE0 hc1 (.tup [.str "hear",.str "coin"]);erw[c1,0,.inr (zC0 ah),1,1,0,6];generalize upd H' c1 (.tup [.str "hear",.str "coin"])=H1 at I1;let W1:=W.same I1;let DA1:=W1.DA;let hL1:=I1 _ _ hL;let TR1:=TR.mono (aY I1);let S1:=S.trans I1;let%[dx1,aA1,aC1,aH1,aT1|R1]:=id DA1;show if inV (.str t.z.aw.1) [.str "hear",.str "coin"]=true then _ else _
 rw[hc_in];clear W DA R hL TR S hav I1
 by_cases ch:t.z.aw.1="hear"
 . rw [zC1 ch,Bool.true_or];apply du ?_;erw[_,λ_ _ h=>h,6];erw[0,D,dx1,0,R1.hD,qJ,D,g,t.z,1,DA1,λv hv=>?_];erw[av2,1,hav2]at hv;erw[av2,_,(0),0,1,zC0 hav2,DK _,1,0,aW (congrArg V.str ch) ?_];let sp:=(eX ok (.inl ch)).1;obtain⟨n',rfl⟩:∃n',mm=n'+1:=⟨mm-1,#[0]⟩
   let%[ak,a0,a5,tl,aw|ea]:=ok.ak k n6 ch;let ho:=ok.hear (rows:=rows) k n6 ch;let%[ok',st',co'|_]:=ok.ask (rows:=rows) k n6 ch;erw[0,.inl %[1,_|zG0 hL1],0,0,D,M,g,h,b,rows,ns,ts,p,t,m,1,W1,k,rg,ak,ok.bo,aw,a0,a5,ho,3,λa6 H6 a60 ha6 W6 S6=>?_];erw[dmw,hMw]at W1.hM;erw[kvw,hbw,_]at W1.BX;let kT6:cG H1 H6:=λa xs e=>S6 _ _ (bt e R1.hD nofun) (bt e hMw nofun) (bt e hbw nofun) e
   let hL6:=S6 _ _ (bt hL1 R1.hD nofun) (bt hL1 hMw nofun) (bt hL1 hbw nofun) hL1;let S06:Same H H6:=λa o e=>S6 _ _ (aO e D00) (aO e hM0) (aO e b00) (S1 _ _ e)
   erw[y2S,λt7 h7=>?_];let I7:=zE0 h7 (.tup [.str "say",.ref a6]);let R7:TRAt (upd H6 t7 (.tup [.str "say",.ref a6])) (.ref t7) (.say (t.said ns ts p rows)):=.say ah (I7 _ _ ha6);generalize upd H6 t7 (.tup [.str "say",.ref a6])=H7 at I7 R7;let hL7:=I7 _ _ hL6;erw[L,2,hL7,aN #[0],6];let k8:cG H7 (upd H7 L (.lst (vs++[.ref t7]))):=dB hL7;let S8:Same H (upd H7 L (.lst (vs++[.ref t7]))):=λa o e=>by
    rw[aD (aO e L00)];exact I7 _ _ (S06 _ _ e)
   erw[n',qR1 _,t.ask ns ts p rows,n',u,m+200,rs++[.say (t.said ns ts p rows)],0,1,3,3,(W6.same I7).put hL7 (G.same S8),ok',ah,((TR1.mono (λa xs e=>k8 _ _ (I7 _ _ (kT6 _ _ e)))).snoc (R7.mono k8)),6,3,3,by rw[zJ0];show rs.length+1+n'<=21;omega,S8];rw[←eq,eW ch,jH1];rfl
 . rw [zB1 ch,Bool.false_or]
   by_cases cc:t.z.aw.1="coin"
   . rw [zC1 cc];apply du ?_;erw[_,λ_ _ h=>h,6];erw[0,D,dx1,0,R1.hD,qJ,D,g,t.z,1,DA1,λv hv=>?_];erw[av2,1,hav2]at hv;erw[av2,_,(0),0,1,zC0 hav2,DK _,1,0,aE (neS ch) ?_];let%[sp|cp]:=eX ok (.inr cc);let cp:=cp cc;obtain⟨n',rfl⟩:∃n',mm=n'+1:=⟨mm-1,#[0]⟩
     let hu:u<cs.length:=#[0]
     let%[dh|dt]:=Dx hu;let rr:=lx co #[0] u;let%[ok',st',co'|_]:=ok.toss k cc rr.1 rr.2;let to:=ok.tossOk cc rr.1 rr.2;erw[0,D,dx1,0,R1.hD,JK,0,0,Bf (hc.same S1) hu ?_];erw[D,g,t.z,cs.getD u 0,ns,ts,p,1,DA1,W1.G,k,to.aw,to.r0,to.r1,to.tl,to.ro,to.po,λH6 S6 DA6=>?_];let W6:=W1.doub S6 DA6;let kT6:cG H1 H6:=λa xs e=>S6 _ _ (bt e R1.hD nofun) e
     let hL6:=S6 _ _ (bt hL1 R1.hD nofun) hL1;let S06:Same H H6:=λa o e=>S6 _ _ (aO e D00) (S1 _ _ e)
     erw[0,.inl %[1,_|zG0 hL6],0,0,Bf (hc.same S06) hu ?_];erw[y2S,λt7 h7=>?_];let I7:=zE0 h7 (.tup [.str "coin",.int (cs.getD u 0)]);let R7:TRAt (upd H6 t7 (.tup [.str "coin",.int (cs.getD u 0)])) (.ref t7) (.coin (cs.getD u 0)):=.coin ah;generalize upd H6 t7 (.tup [.str "coin",.int (cs.getD u 0)])=H7 at I7 R7;let hL7:=I7 _ _ hL6;erw[L,2,hL7,aN #[0],6];let k8:cG H7 (upd H7 L (.lst (vs++[.ref t7]))):=dB hL7;let S8:Same H (upd H7 L (.lst (vs++[.ref t7]))):=λa o e=>by
      rw[aD (aO e L00)];exact I7 _ _ (S06 _ _ e)
     erw[0,2,6];erw[n',qR1 _,t.toss ns ts p (cs.getD u 0),n',u+1,m,rs++[.coin (cs.getD u 0)],0,1,3,3,(W6.same I7).put hL7 (G.same S8),ok',ah,((TR1.mono (λa xs e=>k8 _ _ (I7 _ _ (kT6 _ _ e)))).snoc (R7.mono k8)),6,3,3,by rw[zJ0];show rs.length+1+n'<=21;omega,S8];rw[←eq,dH cc,dh,dt,jH1];rfl
   . rw [zB1 cc];apply cE ?_;rw[dO ch cc,qV1]at eq;erw[0,L,0,.inl %[zG0 hL1|λb8 hb8=>?_]];let I8:=zE0 hb8 (.tup vs);let g8:upd H1 b8 (.tup vs) b8=some (.tup vs):=ah;generalize upd H1 b8 (.tup vs)=H8 at I8 g8;let DA8:=DA1.same I8;let%[dx8,_,_,_,_|R8]:=id DA8;erw[0,D,dx8,0,R8.hD,qJ,D,g,t.z,1,DA8,λv hv=>?_];erw[av2,1,hav2]at hv;erw[y2S,λa9 ha9=>?_];let I9:=zE0 ha9 (.tup [.ref b8,.ref av2]);apply q a9 _ (S1.trans (I8.trans I9)) %[b8,av2,vs,ah,I9 _ _ g8,6|6]
     . rw[←eq];exact TR1.mono (aY (I8.trans I9))
     . rw[←eq];exact I9 _ _ hav2
end
section
variable {C CG:Addr}
abbrev vQ:Stmt:=bn dz 11
instance spTwin(C CG:Addr):∀(D g:Addr)(z:Db)(ns:List Str)(ts:List Tr)(p:Int),vs=[.ref D]->DbAt C H D g z->Gm CG H g ns ts p->(∀(D2:Addr)(H':Hp),H D2=none->Same H H'->DbAt C H' D2 g z->Q (.ref D2) H'):=1
def LS:FnScope ["self","other"] WA (aj vQ):=%[|5]
def Fm(F:#["twin","Doubter.twin",vQ])(T:DTxt K mg C)(MD:Mk K C fD)(GD:#[1,fD,fdD,WJ,spDInit C CG])(bD:Binds K fdD WJ []):#[3,f,fd,WA,spTwin C CG]:=by
 exists LS
 erw[D,g,z,ns,ts,p,1,%[dx,aA,aC,aH,aT|R],G,q]at h;let hr2:Room (1+1) _:=hr.mono ⋯;refine⟨_,(ad #[ao,1,LS,gJ MD GD hr2 rfl T.mgC bD .nil aZ %[az (pv 0) rfl|ae]]
  (ad (aR (pv 1) (az (pv 0) rfl) rfl)
  (ad (aR (pv 1) (az (pv 0) rfl) rfl)
  (ad (aR (pv 1) (az (pv 0) rfl) rfl)
  (ad (aR (pv 1) (az (pv 0) rfl) rfl)
  (ad (aR (pv 1) (az (pv 0) rfl) rfl)
  (ad (aR (pv 1) (az (pv 0) rfl) rfl)
  (ad (aR (pv 1) (az (pv 0) rfl) rfl)
  (af (am (pv 1))))))))))),?_⟩
 erw[0,D,C,dx,_,0,R.hD,9,T.nG,jx,λD2 dD nD ndD neD=>?_];let s10:Same H (upd (upd H dD (.own D2)) D2 (.ins C dD [])):=λb o e=>by
  rw[aD (aO e nD),aD (aO e ndD)];exact e
 let gD:g≠D2:=by
  let%[a,b,d,tv,%[dg|hg]|_]:=id G;exact aO hg nD
 erw[D2,g,dD,ns,ts,p,1,ah,G.same s10,gD,λH0 S0 D0=>%[1|6]];let S00:Same H H0:=λb o e=>S0 b o (aO e nD) (s10 b o e)
 let nDD:D≠D2:=aO R.hD nD;erw[Ph,aA2,aC2,aH2,aT2,R2]at D0;let h0:=R2.hD;generalize (Db.new ts).s=s2,(Db.new ts).ed=ed2,(Db.new ts).pl=pl2 at h0;let hD0:=S00 _ _ R.hD;erw[0,D,C,dx,_,0,hD0,9,T.nA,GO,0,D2,C,Ph,0,h0,9,T.nA,cP,6];rw[sF];let U0:SameBut D2 H0 (upd H0 D2 (.ins C Ph (dl g aA aC2 s2 aH2 aT2 ed2 pl2))):=SameBut.upd _;let h1:upd H0 D2 (.ins C Ph (dl g aA aC2 s2 aH2 aT2 ed2 pl2)) D2=some (.ins C Ph (dl g aA aC2 s2 aH2 aT2 ed2 pl2)):=ah;let hD1:=U0 _ _ nDD hD0;generalize upd H0 D2 (.ins C Ph (dl g aA aC2 s2 aH2 aT2 ed2 pl2))=H1 at U0 h1 hD1;erw[0,D,C,dx,_,0,hD1,9,T.nC,Lg,0,D2,C,Ph,0,h1,9,T.nC,cP,6];rw[Jx];let U1:SameBut D2 H1 (upd H1 D2 (.ins C Ph (dl g aA aC s2 aH2 aT2 ed2 pl2))):=SameBut.upd _;let h2:upd H1 D2 (.ins C Ph (dl g aA aC s2 aH2 aT2 ed2 pl2)) D2=some (.ins C Ph (dl g aA aC s2 aH2 aT2 ed2 pl2)):=ah;let hD2:=U1 _ _ nDD hD1;generalize upd H1 D2 (.ins C Ph (dl g aA aC s2 aH2 aT2 ed2 pl2))=H2 at U1 h2 hD2;erw[0,D,C,dx,_,0,hD2,9,T.nS,Lb,0,D2,C,Ph,0,h2,9,T.nS,cP,6];rw[Jv];let U2:SameBut D2 H2 (upd H2 D2 (.ins C Ph (dl g aA aC z.s aH2 aT2 ed2 pl2))):=SameBut.upd _;let h3:upd H2 D2 (.ins C Ph (dl g aA aC z.s aH2 aT2 ed2 pl2)) D2=some (.ins C Ph (dl g aA aC z.s aH2 aT2 ed2 pl2)):=ah;let hD3:=U2 _ _ nDD hD2;generalize upd H2 D2 (.ins C Ph (dl g aA aC z.s aH2 aT2 ed2 pl2))=H3 at U2 h3 hD3;erw[0,D,C,dx,_,0,hD3,9,T.nH,Le,0,D2,C,Ph,0,h3,9,T.nH,cP,6];rw[Jw];let U3:SameBut D2 H3 (upd H3 D2 (.ins C Ph (dl g aA aC z.s aH aT2 ed2 pl2))):=SameBut.upd _;let h4:upd H3 D2 (.ins C Ph (dl g aA aC z.s aH aT2 ed2 pl2)) D2=some (.ins C Ph (dl g aA aC z.s aH aT2 ed2 pl2)):=ah;let hD4:=U3 _ _ nDD hD3;generalize upd H3 D2 (.ins C Ph (dl g aA aC z.s aH aT2 ed2 pl2))=H4 at U3 h4 hD4;erw[0,D,C,dx,_,0,hD4,9,T.nT,Ar,0,D2,C,Ph,0,h4,9,T.nT,cP,6];rw[EN];let U4:SameBut D2 H4 (upd H4 D2 (.ins C Ph (dl g aA aC z.s aH aT ed2 pl2))):=SameBut.upd _;let h5:upd H4 D2 (.ins C Ph (dl g aA aC z.s aH aT ed2 pl2)) D2=some (.ins C Ph (dl g aA aC z.s aH aT ed2 pl2)):=ah;let hD5:=U4 _ _ nDD hD4;generalize upd H4 D2 (.ins C Ph (dl g aA aC z.s aH aT ed2 pl2))=H5 at U4 h5 hD5;erw[0,D,C,dx,_,0,hD5,9,T.nE,Bx,0,D2,C,Ph,0,h5,9,T.nE,cP,6];rw[zE];let U5:SameBut D2 H5 (upd H5 D2 (.ins C Ph (dl g aA aC z.s aH aT z.ed pl2))):=SameBut.upd _;let h6:upd H5 D2 (.ins C Ph (dl g aA aC z.s aH aT z.ed pl2)) D2=some (.ins C Ph (dl g aA aC z.s aH aT z.ed pl2)):=ah;let hD6:=U5 _ _ nDD hD5;generalize upd H5 D2 (.ins C Ph (dl g aA aC z.s aH aT z.ed pl2))=H6 at U5 h6 hD6;erw[0,D,C,dx,_,0,hD6,9,T.nP,Bw,0,D2,C,Ph,0,h6,9,T.nP,cP,6];rw[wb];let U6:SameBut D2 H6 (upd H6 D2 (.ins C Ph (dl g aA aC z.s aH aT z.ed z.pl))):=SameBut.upd _;let h7:upd H6 D2 (.ins C Ph (dl g aA aC z.s aH aT z.ed z.pl)) D2=some (.ins C Ph (dl g aA aC z.s aH aT z.ed z.pl)):=ah;let hD7:=U6 _ _ nDD hD6;generalize upd H6 D2 (.ins C Ph (dl g aA aC z.s aH aT z.ed z.pl))=H7 at U6 h7 hD7;let U:SameBut D2 H0 H7:=U0.trans (U1.trans (U2.trans (U3.trans (U4.trans (U5.trans U6)))));let S07:Same H H7:=λb o e=>U b o (aO e nD) (S00 b o e)
 erw[0,q D2 H7 nD S07 %[Ph,aA,aC,aH,aT,h7,S07 _ _ R.hA,S07 _ _ R.hC,S07 _ _ R.hH|S07 _ _ R.hT]]
end
section
variable {CM CA CG:Addr}
abbrev vM:Stmt:=bn lJ 4
def ml_n4:(ml g h r b).lookup ("twin":Str)=none:=by rfl'
def IH{b':Addr}:bJ "boxes" (.ref b') (ml g h r b)=ml g h r b':=by rfl'
instance spMTwin(CM:Addr):∀(M g h b dm:Addr)(r:Int)(bx:Str->Int)(m:Nat),vs=[.ref M]->H M=some (.ins CM dm (ml g h r b))->BxAt H b bx m->(∀(M' dm' b':Addr)(H':Hp),H M'=none->H b'=none->H' M'=some (.ins CM dm' (ml g h r b'))->BxAt H' b' bx m->Same H H'->Q (.ref M') H'):=1
def LT:FnScope ["self","other"] WA (aj vM):=%[|5]
def Fi(F:#["twin","Machine.twin",vM])(B:Bl mg)(T:MTxt K mg CM)(MM:Mk K CM fI)(GI:#[1,fI,fdI,WH,spMInit CM])(bI:Binds K fdI WH []):#[3,f,fd,WA,spMTwin CM]:=by
 exists LT
 erw[M,g,h,b,dm,r,bx,m,1,hM,BX,q]at h;let hr2:Room (1+1) _:=hr.mono ⋯;refine⟨_,(ad #[ao,1,LT,gJ MM GI hr2 rfl T.mgC bI .nil aZ %[az (pv 0) rfl,az (pv 0) rfl|ae]]
  (ad (aR (pv 1) (az (pv 0) rfl) rfl)
  (ad (aR (pv 1) (bc Av rfl B.dict Aw %[az (pv 0) rfl|ae]) rfl)
  (af (am (pv 1)))))),?_⟩
 erw[0,M,CM,dm,_,0,hM,9,T.nG,ml_g,0,M,CM,dm,_,0,hM,9,T.nH,II,λN dn hN hdn nN=>?_];let S1:Same H (upd (upd H dn (.own N)) N (.ins CM dn [])):=λa o e=>by
  rw[aD (aO e hN),aD (aO e hdn)];exact e
 let g1:upd (upd H dn (.own N)) N (.ins CM dn []) N=some (.ins CM dn []):=ah;generalize upd (upd H dn (.own N)) N (.ins CM dn [])=H1 at S1 g1;erw[N,g,h,dn,1,g1,λb1 H2 hb1 hN2 _ S2=>%[1|6]];let S02:Same H H2:=Same.but S1 hN S2;let hM2:=S02 _ _ hM;let nMN:M≠N:=aO hM hN;erw[0,M,CM,dm,_,0,hM2,9,T.nR,KC,0,N,CM,dn,0,hN2,9,T.nR,Ab,6];rw[FG];let S3:SameBut N H2 (upd H2 N (.ins CM dn (ml g h r b1))):=SameBut.upd _;let hN3:upd H2 N (.ins CM dn (ml g h r b1)) N=some (.ins CM dn (ml g h r b1)):=ah;generalize upd H2 N (.ins CM dn (ml g h r b1))=H3 at S3 hN3;let S03:Same H H3:=Same.but S02 hN S3;erw[Pb,eb,lb,hx]at BX;erw[0,M,CM,dm,_,0,S03 _ _ hM,9,T.nB,FI,b,Pb,1,S03 _ _ eb,λc hc=>?_];let cN:c≠N:=(aO hN3 hc).symm;let c0:H c=none:=S03.free hc;erw[0,N,CM,dn,0,by rw[aD cN.symm];exact hN3,T.cl,T.nB,Ab,6];rw[IH];erw[0,q N dn c _ hN c0 ah %[Pb,by rw[aD cN];exact ah,lb|hx] λa o e=>?_];rw[aD (aO e hN),aD (aO e c0)];exact S03 _ _ e
end
instance spPow:∀(x k:Int),vs=[.int x,.int k]->0<=k->k<=100->0<x->x<2 ^ 40->Q (.int (x ^ k.toNat)) H:=1
def oO:FnScope ["number","times","told","step"] Wu (aj vL):=%[|5]
def Fh(F:#["power",vL])(B:Bl mg):#[1,f,fd,Wu,spPow]:=by
 exists oO
 erw[x,k,1,k0,k1,x0,x1,q]at h;refine⟨_,(ad #[ao,2,oO,ag]
  (ad (cI zE1 rfl (bL rfl B.range %[1|ae]) (aX (i:=3) oO.nd rfl (.inl rfl)) (af #[ao,2,oO,au cq (pv 2) (pv 0)]))
  (af (am (pv 2))))),?_⟩
 erw[0,k,1,3,3,dQ (n:=k.toNat) (λi σ H'=>∃x3:Option V,σ=[some (.int x),some (.int k),some (.int (x ^ i)),x3]/\H'=H) %[none,by rw[wY1];rfl|1] ?_ ?_]
 . rintro i σ H1 hi ⟨x3,rfl,rfl⟩;erw[0,0,2,.inr %[3|3],6];erw[some (.int (0+(i:Int))),6,1];rw[qJ1];rfl
 . rintro σ H1 ⟨x3,rfl,rfl⟩;erw[0,q]
section
variable {C CM CA CG:Addr}
def Lc:(dl g aA aC s aH aT ed pl).lookup ("twin":Str)=none:=by rfl'
def OptAt(H:Hp)(v:V):Option (List Int)->Prop
 |none=>v=.non
 |some cs=>∃b,v=.ref b/\H b=some (.tup (cs.map V.int))
def OptAt.mono{x:Option (List Int)}(h:OptAt H v x)(k:cG H H'):OptAt H' v x:=by
 cases x with
 |none=>exact h
 |some cs=>erw[b,e,hb]at h;erw[b,e,k _ _ hb]
def Lw(H:Hp)(a:Addr)(x:Int×Option (List Int)):Prop:=∃v,H a=some (.tup [.int x.1,v])/\OptAt H v x.2
def bu(ns:List Str)(ts:List Tr):Nat:=if ts.length=1 then ns.length else ns.length+1
def jy{ns:List Str}(h:ns.length<=6):bu ns ts<=7:=by unfold bu;split <;> omega
instance spFirst(CG:Addr):∀(g c:Addr)(ns:List Str)(ts:List Tr)(p:Int)(cs:List Int),vs=[.ref g,.ref c]->Gm CG H g ns ts p->ns.length<=6->H c=some (.tup (cs.map V.int))->cs.length<=bu ns ts->(∀(a:Addr)(H':Hp),Same H H'->H' a=some (.tup ((cs++List.replicate (bu ns ts-cs.length) 0).map V.int))->Q (.ref a) H'):=1
def vA:FnScope Wk Wk (aj kR):=%[|5]
def wx(F:#["first_row",kR])(B:Bl mg)(TG:GTxt K mg CG)(mC:Meth K CG "coins" fC)(GC:#[1,fC,fdC,WA,spCoins CG])(bC:Binds K fdC WA []):#[2,f,fd,Wk,spFirst CG]:=by
 exists vA
 erw[g,c,ns,ts,p,cs,1,G,n6,hc,cl,q]at h;let hr1:Room 1 _:=hr.mono ⋯;erw[_,(af (am (au (rj K) (pv 1) (au (EZ K) (aS %[ag|ae]) (au bp (bz (pv 0) TG.cl mC GC hr1 bC .nil aZ) (aG aI rfl B.len zD1 %[1|ae])))))),6];erw[0,y1S,λz hz=>?_];let I:=zE0 hz (.tup [.int 0]);let gz:upd H z (.tup [.int 0]) z=some (.tup [.int 0]):=ah;generalize upd H z (.tup [.int 0])=H1 at I gz;let%[a,b,d,tv,%[dx|hg],ha,hb,TS|hd]:=G.same I;let vl:=TS.length;let noc:(gf a b p d).lookup ("coins":Str)=none:=qH _ _ _ _ ⋯ ⋯ ⋯ ⋯;erw[0,g,dx,0,hg,noc,g,a,b,d,ns,tv,p,1,%[dx|hg],ha,hb,6];let hc1:=I _ _ hc;erw[0,c,0,.inr (zC0 hc1),2,6];let ek:(if tv.length=1 then(ns.length:Int)else(ns.length:Int)+1)-((cs.map V.int).length:Int)=((bu ns ts-cs.length:Nat):Int):=by
  rw[zF0,vl];unfold bu at cl ⊢
  split <;> rename_i h <;> (first | rw[O9 h]at cl | rw[O8 h]at cl) <;> omega
 show rRepT K (.ref z) (.int ((if tv.length=1 then(ns.length:Int)else(ns.length:Int)+1)-((cs.map V.int).length:Int))) H1 _;rw[ek];let c7:=jy (ts:=ts) n6;let fin:∀(y:Addr)(H2:Hp),Same H1 H2->H2 y=some (.tup ((List.replicate (bu ns ts-cs.length) (0:Int)).map V.int))->rCatT K (.ref c) (.ref y) H2 Q∨rCatT0 K (.ref c) (.ref y) H2 Q:=λy H2 S2 hy=>
  rE (S2 _ _ hc1) hy (by rw[zR1];omega) λt H3 S3 h3=>q t H3 (I.trans (S2.trans S3)) h3
 erw[z,.int 0,((bu ns ts-cs.length:Nat):Int),1,1,zC0 gz,3,3,λe=>fin z H1 (Same.refl _) ?_,λ_ y hy=>fin y _ (zE0 hy _) ?_]
 . let e1:bu ns ts-cs.length=1:=#[0]
   rw[e1];exact gz
 . rw[ah,List.map_replicate,qV0]
instance spRowsC(CG:Addr):∀(g:Addr)(ns:List Str)(ts:List Tr)(p:Int),vs=[.ref g]->Gm CG H g ns ts p->ns.length<=6->0<p->p<2 ^ 40->Q (.int (p ^ bu ns ts)) H:=1
def pE:FnScope WC WC (aj gZ):=%[|5]
def pW(F:#["rows_of_coins",gZ])(T:GTxt K mg CG)(mC:Meth K CG "coins" fC)(GC:#[1,fC,fdC,WA,spCoins CG])(bC:Binds K fdC WA [])(jI:#[1,"power",Wu,spPow]):#[2,f,fd,WC,spRowsC CG]:=by
 exists pE
 erw[g,ns,ts,p,1,%[a,b,d,tv,%[dx|hg],ha,hb,TS|hd],nl,p0,p40,q]at h;let hr1:Room 1 _:=hr.mono ⋯;erw[_,(af (am (ax jI hr ⋯ rfl %[az (pv 0) rfl,bz (pv 0) T.cl mC GC hr1 bC .nil aZ|ae]))),6];let noc:(gf a b p d).lookup ("coins":Str)=none:=qH _ _ _ _ ⋯ ⋯ ⋯ ⋯;let vl:=TS.length;erw[0,g,CG,dx,_,0,hg,9,T.nF,eZ ..,0,g,dx,0,hg,noc,g,a,b,d,ns,tv,p,1,%[dx|hg],ha,hb,p,0,6,6,p0,p40,6]
 . split <;> omega
 . split <;> omega
 . let e:(if tv.length=1 then(ns.length:Int)else(ns.length:Int)+1).toNat=bu ns ts:=by
    rw[vl];unfold bu
    split <;> omega
   rw[e];exact q
structure Twins(P:Program)(w:World)(K:W.Frag)(mg:#[9])(base:Heap)(C CM CG fD fM:Addr)(fdD fdM:FuncData):Prop where
 mD:Meth K C "twin" fD
 GD:#[3,fD,fdD,WA,spTwin C CG]
 bD:Binds K fdD WA []
 mM:Meth K CM "twin" fM
 GM:#[3,fM,fdM,WA,spMTwin CM]
 bM:Binds K fdM WA []
instance spWB(C CM CG:Addr)(d:Nat):∀(D M g h b c:Addr)(rows:List Hr)(ns:List Str)(ts:List Tr)(p:Int)(t:Tk)(m:Nat)(cs:List Int),vs=[.ref M,.ref D,.ref c]->TalkAt C CM CG H D M g h b rows ns ts p t m->GmK ns ts p->ns.length<=6->(∀r∈rows,r.good)->Beg ns ts p t->bO ns (settle ns ts p rows 2 t).z<d->H c=some (.tup (cs.map V.int))->cs.length+bO ns (settle ns ts p rows 2 t).z<=bu ns ts->m+400*d<=5000->(∀(a:Addr)(H':Hp),Lw H' a (iq ns ts p rows (bu ns ts) d t cs)->But3 D M b H H'->Q (.ref a) H'):=1
def bQ:FnScope ["machine","doubter","coins","number","row","coin","behind","told"] WZ (aj eO):=%[|5]
def HE:#[27,f,fd,WZ,spWB C CM CG 0]:=by
 let no:∀vs H Q E,¬ spWB C CM CG 0 vs H Q E:=λvs H Q E h=>by
  erw[D,M,g,h,b,c,rows,ns,ts,p,t,m,cs,_,_,_,_,_,_,h1,_]at h;exact absurd h1 (Nat.not_lt_zero _)
 exists 3
def TalkAt.twins{M2 dm2:Addr}(w:TalkAt C CM CG H D M g h b rows ns ts p t m)(s:Same H H')(DA:DbAt C H' D2 g z)(hM:H' M2=some (.ins CM dm2 (ml g h t.nr b2)))(B:BxAt H' b2 t.bx m)(ne:D2≠M2):TalkAt C CM CG H' D2 M2 g h b2 rows ns ts p %[z,t.bx|t.nr] m:=by
 let%[_,G,_,%[rv,hh|R],_|_]:=w.same s;erw[DA,G,%[dm2|hM],%[rv,hh|R],B,ne]
instance IWb(C CM CG:Addr)(H:Hp)(D M g h b c:Addr)(rows:List Hr)(ns:List Str)(ts:List Tr)(p:Int)(u:Tk)(m:Nat)(mm:Nat)(σ:St)(H':Hp):∀(t':Tk) (j m':Nat),σ=[some (.ref M),some (.ref D),some (.ref c),none,none,none,none,none]->mm=j->j<=2->Beg ns ts p t'->(j<=1->TkOk ns ts p t')->(j=0->¬ t'.z.aw.1="hear")->settle ns ts p rows j t'=u->TalkAt C CM CG H' D M g h b rows ns ts p t' m'->m'+200*j<=m+400->But3 D M b H H':=0
def HG{n:Nat}(F:#["weighed_behind",eO])(B:Bl mg)(T:DTxt K mg C)(TM:MTxt K mg CM)(TG:GTxt K mg CG)(Y:Ways P w K mg base C CM CG fW fU fH fT fS fdW fdU fdH fdT fdS)(Z:Twins P w K mg base C CM CG fDt fMt fdDt fdMt)
 (b6:#[26,"asked_once",Wj,spAsked C CM CG])(fZ:#[2,"first_row",Wk,spFirst CG])(di:#[n+27,"weighed_behind",WZ,spWB C CM CG n]):#[n+28,f,fd,WZ,spWB C CM CG (n+1)]:=by
 exists bQ
 erw[D,M,g,h,b,c,rows,ns,ts,p,t,m,cs,1,W,k,n6,rg,bg,cd,hc,cl,mm,q]at h;let hr1:Room 1 _:=hr.mono #[0];let hr3:Room 3 _:=hr.mono #[0];let hr17:Room 17 _:=hr.mono #[0];refine⟨_,(ad (iF zE1 (ai aQ (aM ix_tup (bz (pv 1) T.cl Y.mW Y.GW hr1 Y.bW .nil aZ) ag #[1]) aF (ay _)) (af (bb (ax b6 hr #[0] rfl %[0,1|ae]))))
  (ad (aJ (ai aQ (aM ix_tup (bz (pv 1) T.cl Y.mW Y.GW hr1 Y.bW .nil aZ) ag #[1]) aF (ay _)) (af (am (aS %[ag,ny|ae]))) aB)
  (ad (aJ (ai aQ (aM ix_tup (bz (pv 1) T.cl Y.mW Y.GW hr1 Y.bW .nil aZ) ag #[1]) aF (ay _)) (af (am (aS %[ag,ax fZ hr #[0] rfl %[az (pv 1) rfl,2|ae]|ae]))) aB)
  (ad #[ao,3,bQ,ag]
  (ad #[ao,4,bQ,ny]
  (ad (cI zE1 rfl (bL rfl B.range %[az (az (pv 1) rfl) rfl|ae]) (aX (i:=5) bQ.nd rfl (.inl rfl)) (ad #[ao,6,bQ,bz (pv 1) T.cl Z.mD Z.GD hr3 Z.bD .nil aZ]
   (ad (bb (bK (pv 6) T.cl Y.mT Y.GT hr17 Y.bT .nil aZ %[5|ae]))
   (ad #[ao,7,bQ,ax di hr #[0] rfl %[bz (pv 0) TM.cl Z.mM Z.GM hr3 Z.bM .nil aZ,6,au (rj K) (pv 2) (aS %[5|ae])|ae]]
   (ad #[ao,3,bQ,au aV (pv 3) (aM ix_tup (pv 7) ag #[1])]
   (af (aJ (ai zK (pv 4) ny (ay _)) (af #[ao,4,bQ,aM ix_tup (pv 7) ag #[1]]) aB)))))))
  (af (am (aS %[3,4|ae]))))))))),?_⟩
 let p2:=k.p2;let p9:=k.p9;let%[uok|uno]:=bg.settle (rows:=rows) k n6;let rec1:settle ns ts p rows 2 t=settle ns ts p rows 2 t:=rfl;generalize eu:settle ns ts p rows 2 t=u at uok uno cd cl;clear rec1;let c7:=jy (ts:=ts) n6;erw[IWb C CM CG H D M g h b c rows ns ts p u m,%[(2),t,(2),m,1,1,zH0 _,bg,λz=>absurd z ⋯,λz=>absurd z ⋯,eu,W,zH0 _|λ_ _ _ _ _ e=>e],6]
 rintro mm1 σ H1 ⟨t',j,m',rfl,rfl,j2,bg',ok',no',es,W1,m1,S1⟩;let DA:=W1.DA;let%[dx,aA,aC,aH,aT|R]:=id DA;erw[0,D,dx,0,R.hD,qJ,D,g,t'.z,1,DA,λv hv=>?_];erw[av,1,hav]at hv;erw[av,_,(0),0,1,zC0 hav,DK _,1,0,6]
 by_cases ch:t'.z.aw.1="hear"
 . apply aW (congrArg V.str ch) %[_,λ_ _ h=>h|6];obtain⟨i,rfl⟩:∃i,mm1=i+1:=⟨mm1-1,by have:mm1≠0:=λz=>no' z ch;omega⟩
   let%[ak,bo,aw,a0,a5|ho]:=bg'.ask (rows:=rows) k n6 ch;erw[0,0,D,M,g,h,b,rows,ns,ts,p,t',m',1,W1,k,rg,ak,bo,aw,a0,a5,ho,3,λa6 H6 _ _ W6 S6=>?_];let ok2:=bg'.asked (rows:=rows) k n6 ch;erw[i,qR1 _,t'.ask ns ts p rows,i,m'+200,1,1,3,.inr ok2,λ_=>ok2,λz=>?_,6,W6,3,λa o h1 h2 h3 e=>S6 _ _ h1 h2 h3 (S1 _ _ h1 h2 h3 e)]
   . subst z;exact((ok' (zH0 _)).ask (rows:=rows) k n6 ch).2.2.2
   . rw[←es];exact(O9 ch).symm
 apply aE (neS ch) ?_;rw[cW ch]at es;subst es;clear bg' ok' no' hav;erw[0,D,dx,0,R.hD,qJ,D,g,t'.z,1,DA,λv hv=>?_];erw[av,1,hav]at hv;erw[av,_,(0),0,1,zC0 hav,DK _,1,0,6]
 by_cases cb:t'.z.aw.1="believed"
 . apply aW (congrArg V.str cb) %[y2S|λa ha=>?_];let I:=zE0 ha (.tup [.int 1,.non]);apply q a _ ?_ (λx o h1 h2 h3 e=>I _ _ (S1 _ _ h1 h2 h3 e));let e:iq ns ts p rows (bu ns ts) (n+1) t cs=(1,none):=by
    show(if(settle ns ts p rows 2 t).z.aw.1="believed" then _ else _)=_;rw[eu,O9 cb]
   rw[e];erw[.non,ah,1]
 apply aE (neS cb) ?_;clear hav;erw[0,D,dx,0,R.hD,qJ,D,g,t'.z,1,DA,λv hv=>?_];erw[av,1,hav]at hv;erw[av,_,(0),0,1,zC0 hav,DK _,1,0,6];let hDM:c≠D/\c≠M/\c≠b:=by
  erw[dx0,_,_,_,_,R0]at W.DA;erw[dm0,hM0]at W.hM;erw[kv0,hb0,_]at W.BX;erw[bt hc R0.hD nofun,bt hc hM0 nofun,bt hc hb0 nofun]
 let hc1:=S1 _ _ hDM.1 hDM.2.1 hDM.2.2 hc
 by_cases cc:t'.z.aw.1="caught"
 . apply aW (congrArg V.str cc) %[0,D,C,dx,_,0,R.hD,T.cl,T.nG,jx,0,g,c,ns,ts,p,cs,1,W1.G,n6,hc1,3|λa2 H2 S2 h2=>?_];erw[y2S,λa ha=>?_];let I:=zE0 ha (.tup [.int 0,.ref a2]);apply q a _ ?_ (λx o h1 h2 h3 e=>I _ _ (S2 _ _ (S1 _ _ h1 h2 h3 e)));let e:iq ns ts p rows (bu ns ts) (n+1) t cs=(0,some (cs++List.replicate (bu ns ts-cs.length) 0)):=by
    show(if(settle ns ts p rows 2 t).z.aw.1="believed" then _ else if(settle ns ts p rows 2 t).z.aw.1="caught" then _ else _)=_;rw[eu,O8 cb,O9 cc]
   rw[e];erw[.ref a2,ah,a2,1,I _ _ h2]
 apply aE (neS cc) ?_;let co:=yL uok uno cb cc;let e:iq ns ts p rows (bu ns ts) (n+1) t cs=ju (λr=>iq ns ts p rows (bu ns ts) n (t'.toss ns ts p r) (cs++[r])) p.toNat:=by
  show(if(settle ns ts p rows 2 t).z.aw.1="believed" then _ else if(settle ns ts p rows 2 t).z.aw.1="caught" then _ else _)=_;rw[eu,O8 cb,O8 cc]
 rw[e]at q;clear e hav eu bg W hc;let cp:=(eX uok (.inr co)).2 co;generalize ef:(λr=>iq ns ts p rows (bu ns ts) n (t'.toss ns ts p r) (cs++[r]))=fw at q;erw[ga,gb,gd,tv,%[dg|hg],_]at W1.G;erw[0,D,C,dx,_,0,R.hD,9,T.nG,jx,g,CG,dg,_,0,hg,TG.cl,TG.nF,eZ ..,p,1,3,3,dQ (n:=p.toNat) (λi σ H'=>∃(v:V)(x5 x6 x7:Option V),σ=[some (.ref M),some (.ref D),some (.ref c),some (.int (ju fw i).1),some v,x5,x6,x7]/\OptAt H' v (ju fw i).2/\Same H1 H') %[.non,none,none,none,1,1|Same.refl _] ?_ ?_]
 . rintro i σ H2 hi ⟨v,x5,x6,x7,rfl,ov,S2⟩;rw[qZ1];let W2:=W1.same S2;let DA2:=W2.DA;let%[Ph,_,_,_,_|R2]:=id DA2;erw[0,D,Ph,0,R2.hD,Lc,D,g,t'.z,ns,ts,p,1,DA2,W2.G,λD3 H3 D30 S3 DA3=>?_];let%[dx3,_,_,_,_|R3]:=id DA3;let to:=uok.tossOk co (r:=(i:Int)) #[0] #[0];erw[0,D3,dx3,0,R3.hD,JK,0,D3,g,t'.z,(i:Int),ns,ts,p,1,DA3,W2.G.same S3,k,to.aw,to.r0,to.r1,to.tl,to.ro,to.po,λH4 S4 DA4=>?_];let S24:Same H2 H4:=Same.but S3 D30 S4;let W4:=W2.same S24;erw[dm4,hM4]at W4.hM;erw[0,M,dm4,0,hM4,ml_n4,M,g,h,b,dm4,t'.nr,t'.bx,m',1,hM4,W4.BX,λM5 dm5 b5 H5 M50 b50 hM5 BX5 S5=>?_];erw[0,0,0,y1S,λz hz=>?_];let I6:=zE0 hz (.tup [.int (i:Int)]);let g6:upd H5 z (.tup [.int (i:Int)]) z=some (.tup ([(i:Int)].map V.int)):=ah;generalize upd H5 z (.tup [.int (i:Int)])=H6 at I6 g6;let S26:Same H2 H6:=S24.trans (S5.trans I6);apply rE (S26 _ _ (S2 _ _ hc1)) g6 (by rw[qM0];omega) λc7 H7 S7 h7=>?_
   let S47:Same H4 H7:=S5.trans (I6.trans S7);let S57:Same H5 H7:=I6.trans S7;let%[ok3,st3,co3|_]:=uok.toss k co to.r0 to.r1;let%[_,cs3|_]:=lH (rows:=rows) k n6 ok3;let el:(cs++[(i:Int)]).length=cs.length+1:=by rw[zJ0];rfl
   let D3M5:D3≠M5:=by
    erw[_,_,_,_,_,R4]at DA4;exact aO R4.hD M50
   let W7:TalkAt C CM CG H7 D3 M5 g h b5 rows ns ts p (t'.toss ns ts p (i:Int)) m':=W4.twins S47 (DA4.same S47) (S57 _ _ hM5) (BX5.keep λo e=>S57 _ _ e) D3M5;erw[D3,M5,g,h,b5,c7,rows,ns,ts,p,t'.toss ns ts p (i:Int),m',cs++[(i:Int)],1,W7,k,n6,rg,.inr ok3,3,h7,3,3,λa8 H8 w8 S8=>?_];let S28:Same H2 H8:=λa o e=>S8 _ _ (aO e D30) (aO (S24 _ _ e) M50) (aO (S24 _ _ e) b50) (S26.trans S7 _ _ e)
   erw[v8,ha8,o8]at w8;let ef8:iq ns ts p rows (bu ns ts) n (t'.toss ns ts p (i:Int)) (cs++[(i:Int)])=fw (i:Int):=by rw[←ef]
   rw[ef8]at ha8 o8;erw[0,0,a8,_,(0),0,1,zC0 ha8,at0 _ _,2,6];erw[0,1,0,6];cases eo:(ju fw i).2 with
   |none=>
     rw[eo]at ov;let ov:v=.non:=ov;subst ov;apply aW rfl %[0,a8,_,(1),0,1,zC0 ha8,cu (j:=1) rfl|6];erw[v8,_,_,0,6,S2.trans S28];show OptAt H8 v8 ((ju fw i).2.or (fw (i:Int)).2);rw[eo];exact o8
   |some rr=>
     rw[eo]at ov;let ov':=ov;erw[bv,1,hbv]at ov';apply aE nofun ?_;erw[.ref bv,_,_,0,6,S2.trans S28];show OptAt H8 (.ref bv) ((ju fw i).2.or (fw (i:Int)).2);rw[eo];erw[bv,1,S28 _ _ hbv]
 . rintro σ H2 ⟨v,x5,x6,x7,rfl,ov,S2⟩;erw[0,0,y2S,λa ha=>?_];let I:=zE0 ha (.tup [.int (ju fw p.toNat).1,v]);exact q a _ %[v,ah|ov.mono (aY I)] (λx o h1 h2 h3 e=>I _ _ (S2 _ _ (S1 _ _ h1 h2 h3 e)))
def iT(F:#["weighed_behind",eO])(m:mg "weighed_behind"=some (.ref f))(B:Bl mg)(T:DTxt K mg C)(TM:MTxt K mg CM)(TG:GTxt K mg CG)(Y:Ways P w K mg base C CM CG fW fU fH fT fS fdW fdU fdH fdT fdS)(Z:Twins P w K mg base C CM CG fDt fMt fdDt fdMt)
 (b6:#[26,"asked_once",Wj,spAsked C CM CG])(fZ:#[2,"first_row",Wk,spFirst CG]):∀n:Nat,#[n+27,f,fd,WZ,spWB C CM CG n]
 |0=>HE
 |n+1=>HG F B T TM TG Y Z b6 fZ (Cal.of F (iT F m B T TM TG Y Z b6 fZ n) m (λ_ _ _ _ _ _ us hl=>by let%[u0,u1,u2|1]:=FU hl;rfl))
end
section
variable {C CM CA CG:Addr}
instance spWeighed(C CM CG:Addr):∀(g h:Addr)(rv:List V)(rows:List Hr)(ns:List Str)(ts:List Tr)(p:Int),vs=[.ref g,.ref h]->Gm CG H g ns ts p->GmK ns ts p->ns.length<=6->H h=some (.tup rv)->RowsAt H rv rows->(∀r∈rows,r.good)->p ^ bu ns ts<=4000->(∀(a:Addr)(H':Hp),Same H H'->Lw H' a (iq ns ts p rows (bu ns ts) 8 (Tk.new ts) [])->Q (.ref a) H'):=1
def C6:FnScope ["game","helper","rows"] ["game","helper"] (aj pG):=%[|5]
def zL(F:#["weighed",pG])(T:DTxt K mg C)(TM:MTxt K mg CM)(hmost:∃t,mg "MOST_ROWS_weighing"=some (.int 4000 t))
 (MD:Mk K C fI)(GD:#[1,fI,fdI,WJ,spDInit C CG])(bD:Binds K fdI WJ [])(MM:Mk K CM fM)(GM:#[1,fM,fdM,WH,spMInit CM])(bM:Binds K fdM WH [])
 (cX:#[2,"rows_of_coins",WC,spRowsC CG])(di:#[35,"weighed_behind",WZ,spWB C CM CG 8]):#[36,f,fd,["game","helper"],spWeighed C CM CG]:=by
 exists C6
 erw[g,h,rv,rows,ns,ts,p,1,G,k,n6,hh,RW,rg,p4,q]at h;erw[te,ge]at hmost;let hr2:Room (1+1) _:=hr.mono ⋯;refine⟨_,(ad #[ao,2,C6,ax cX hr ⋯ rfl %[0|ae]]
  (ad (aJ (ai iS (pv 2) (cZ (v:=.int 4000) rfl ge %[|0]) (ay _)) bq aB)
  (af (am (ax di hr ⋯ rfl %[gJ MM GM hr2 rfl TM.mgC bM .nil aZ %[0,1|ae],gJ MD GD hr2 rfl T.mgC bD .nil aZ %[0|ae],aS ae|ae]))))),?_⟩
 let p2:=k.p2;let p9:=k.p9;erw[0,g,ns,ts,p,1,G,n6,3,3,6];erw[0,2,0,aE #[0] ?_];erw[0,0,λM dm hM0 hdm0 nM=>?_];let K1:Same H (upd (upd H dm (.own M)) M (.ins CM dm [])):=λa o e=>by
  rw[aD (aO e hM0),aD (aO e hdm0)];exact e
 erw[M,g,h,dm,1,ah,λb H2 b0 hM2 hb2 S2=>%[1|6]];let T2:Same H H2:=Same.but K1 hM0 S2;let b00:H b=none:=K1.free b0;clear K1 S2 b0;erw[0,λD dd hD0 hdd0 nD=>?_];let K3:Same H2 (upd (upd H2 dd (.own D)) D (.ins C dd [])):=λa o e=>by
  rw[aD (aO e hD0),aD (aO e hdd0)];exact e
 let G2:=G.same T2;let gD:g≠D:=by
  erw[_,_,_,_,%[dg|hg],_]at G2;exact aO hg hD0
 erw[D,g,dd,ns,ts,p,1,ah,G2.same K3,gD,λH4 S4 DA4=>%[1|6]];let T24:Same H2 H4:=Same.but K3 hD0 S4;let T4:Same H H4:=T2.trans T24;let D00:H D=none:=T2.free hD0;let nDM:D≠M:=(aO hM2 hD0).symm;let W4:TalkAt C CM CG H4 D M g h b rows ns ts p (Tk.new ts) 0:=⟨DA4,G.same T4,⟨dm,T24 _ _ hM2⟩,⟨rv,T4 _ _ hh,RW.mono (aY T4)⟩,⟨[],T24 _ _ hb2,zH0 _,λ_=>rfl⟩,nDM⟩
 erw[y0S,λc hc=>?_];let I:=zE0 hc (.tup []);let gc:upd H4 c (.tup []) c=some (.tup (([]:List Int).map V.int)):=ah;generalize upd H4 c (.tup [])=H5 at I gc;let%[_,c1|_]:=jG (rows:=rows) k n6;let c2:ns.length+(if 1<ts.length then 1 else 0)<=bu ns ts:=by
  unfold bu
  split <;> split <;> omega
 let c7:=jy (ts:=ts) n6;erw[D,M,g,h,b,c,rows,ns,ts,p,Tk.new ts,(0),[],1,W4.same I,k,n6,rg,.inl rfl,3,gc,(by show 0+_<=_;omega),4,λa H6 w6 S6=>q a H6 (λx o e=>?_) w6];exact S6 _ _ (aO e D00) (aO e hM0) (aO e b00) (I _ _ (T4 _ _ e))
end
def dN(p:Nat):Nat->List (List Int)
 |0=>[[]]
 |k+1=>(List.range p).flatMap λr:Nat=>(dN p k).map ((r:Int)::·)
def lB:∀(k:Nat)(c:List Int),c∈dN p k->c.length=k/\bY c (p:Int)
 |0,c,h=>by
   let e:c=[]:=by simpa [dN]using h
   subst e;erw[1,λx hx=>by cases hx]
 |k+1,c,h=>by
   unfold dN at h;let%[r,hr|h]:=List.mem_flatMap.mp h;let%[c',hc'|1]:=List.mem_map.mp h;let hr:=List.mem_range.mp hr;let%[l|o]:=lB k c' hc';erw[by rw[zR0,l],λx hx=>?_];rcases zX0 hx with e | e
   . subst e;omega
   . exact o x e
def vn{p:Nat}(hp:0<p):∀k,(dN p k).head?=some (List.replicate k 0)
 |0=>rfl
 |k+1=>by
   obtain⟨q,rfl⟩:∃q,p=q+1:=%[p-1|3]
   unfold dN;rw[List.range_succ_eq_map,vC1,List.head?_append,List.head?_map,vn hp k];rfl
def lC:∀k,(dN p k).length=p ^ k
 |0=>rfl
 |k+1=>by
   unfold dN;rw[wU0]
   have:((List.range p).map λa:Nat=>((dN p k).map ((a:Int)::·)).length)=List.replicate p (p ^ k):=by
    rw[List.eq_replicate_iff];erw[by simp,λb hb=>?_];let%[a,_|1]:=List.mem_map.mp hb;rw[zF0,lC k]
   rw[this,List.sum_replicate_nat,Nat.pow_succ,Nat.mul_comm]
def jX(L:List (List Int))(b:List Int->Bool)(cs:List Int):Int×Option (List Int):=(((L.filter b).length:Int),((L.filter λc=>!b c).head?).map (cs++·))
def jW{L:List (List Int)}{b b':List Int->Bool}(h:∀c∈L,b c=b' c):jX L b cs=jX L b' cs:=by
 unfold jX;let e1:L.filter b=L.filter b':=jI1 h;let e2:(L.filter λc=>!b c)=L.filter λc=>!b' c:=jI1 λc hc=>by rw[h c hc]
 rw[e1,e2]
def EJ{L M:List (List Int)}:jX (L++M) b cs=((jX L b cs).1+(jX M b cs).1,(jX L b cs).2.or (jX M b cs).2):=by
 unfold jX;rw[qQ1,qQ1,zJ0,List.head?_append,jQ1]
 congr 1
 cases(List.filter (λc=>!b c) L).head? <;> rfl
def EI{L:List (List Int)}{r:Int}:jX (L.map (r::·)) b cs=jX L (λc=>b (r::c)) (cs++[r]):=by
 unfold jX;rw[wU1,wU1,zF0,List.head?_map]
 congr 1
 show Option.map _ (Option.map _ _)=_;rw[Option.map_map]
 congr 1
 funext c
 show cs++(r::c)=(cs++[r])++c;rw[jH1];rfl
def uZ{p j:Nat}{f:Int->Int×Option (List Int)}{b:List Int->Bool}{cs:List Int}(h:∀r:Nat,r<p->f (r:Int)=jX (dN p j) (λc=>b ((r:Int)::c)) (cs++[(r:Int)])):∀k,k<=p->ju f k=jX ((List.range k).flatMap λr:Nat=>(dN p j).map ((r:Int)::·)) b cs
 |0,_=>rfl
 |k+1,hk=>by
   show((ju f k).1+(f (k:Int)).1,(ju f k).2.or (f (k:Int)).2)=_;rw[uZ h k #[0],h k #[0],zZ1,List.flatMap_append,EJ,List.flatMap_singleton,EI]
section
variable {ns:List Str}{ts:List Tr}{p:Int}{t:Tk}{rows:List Hr}
def Ef(z:Db):bN ns z<=2*ns.length+1:=by
 unfold bN
 split
 . omega
 . split
   . split <;> omega
   . omega
def lX(h:bY cs p)(p0:0<p):0<=cs.headD 0/\cs.headD 0<p:=by
 cases cs with
 |nil=>erw[qH1 0,p0]
 |cons a r=>exact h a (qA0 ..)
def qY(h:bY cs p):bY cs.tail p:=λx hx=>h x (List.mem_of_mem_tail hx)
def mN(k:GmK ns ts p)(n6:ns.length<=6):∀(n:Nat)(t:Tk)(cs:List Int),TkOk ns ts p t->bY cs p->bN ns t.z<=n->(cD ns ts p rows cs (n+1) t).2=(cD ns ts p rows cs n t).2
 |0,t,cs,h,hc,hs=>by
   let h1:¬ t.z.aw.1="hear":=λz=>by have:=(eX h (.inl z)).1;omega
   let h2:¬ t.z.aw.1="coin":=λz=>by have:=(eX h (.inr z)).1;omega
   rw[dO h1 h2,dO h1 h2]
 |n+1,t,cs,h,hc,hs=>by
   let p2:=k.p2
   by_cases ch:t.z.aw.1="hear"
   . rw[eW ch,eW ch];let%[o,s|_]:=h.ask (rows:=rows) k n6 ch;exact mN k n6 n _ cs o hc #[0]
   . by_cases cc:t.z.aw.1="coin"
     . rw[dH cc,dH cc];let%[r0|r1]:=lX hc #[0];let%[o,s|_]:=h.toss k cc r0 r1;exact mN k n6 n _ cs.tail o (qY hc) #[0]
     . rw[dO ch cc,dO ch cc]
def rJ(k:GmK ns ts p)(n6:ns.length<=6)(h:TkOk ns ts p t)(hc:bY cs p){n:Nat}(hs:bN ns t.z<=n):∀m,(cD ns ts p rows cs (n+m) t).2=(cD ns ts p rows cs n t).2
 |0=>rfl
 |m+1=>by rw[←Nat.add_assoc,mN k n6 _ _ _ h hc #[0],rJ k n6 h hc hs m]
def xq(k:GmK ns ts p)(n6:ns.length<=6)(h:TkOk ns ts p t)(hc:bY cs p){n m:Nat}(hn:13<=n)(hm:13<=m):(cD ns ts p rows cs n t).2=(cD ns ts p rows cs m t).2:=by
 have:=Ef (ns:=ns) t.z
 obtain⟨a,rfl⟩:∃a,n=13+a:=%[n-13|3]
 obtain⟨b,rfl⟩:∃b,m=13+b:=%[m-13|3]
 rw[rJ k n6 h hc #[0],rJ k n6 h hc #[0]]
def nY(k:GmK ns ts p)(n6:ns.length<=6)(h:TkOk ns ts p t)(hc:bY cs p){n m:Nat}(hn:14<=n)(hm:14<=m):(cD ns ts p rows cs n t).2=(cD ns ts p rows cs m (settle ns ts p rows 2 t)).2:=by
 by_cases ch:t.z.aw.1="hear"
 . let%[o,s,_|o4]:=h.ask (rows:=rows) k n6 ch;let e:settle ns ts p rows 2 t=t.ask ns ts p rows:=(O9 ch).trans (cW o4 1);rw[e];obtain⟨a,rfl⟩:∃a,n=a+1:=%[n-1|3]
   rw[eW ch];exact xq k n6 o hc #[0] #[0]
 . rw[cW ch];exact xq k n6 h hc #[0] #[0]
structure Lf(ns:List Str)(t:Tk)(j:Nat):Prop where
 hc:t.z.aw.1="hear"∨t.z.aw.1="coin" -> bO ns t.z=j
 be:t.z.aw.1="believed" -> j=0
def JC:¬ (("believed":Str)="hear"):=by decide
def Ba:¬ (("coin":Str)="believed"):=by decide
def xZ:¬ (("caught":Str)="believed"):=by decide
def JB:¬ (("hear":Str)="believed"):=by decide
def Fw:¬ (("caught":Str)="coin"):=by decide
def wS(z:Db)(tl:z.to.length<=ns.length)(bx:Str->Int)(nr:Int):Lf ns %[goOn ns ts p z,bx|nr] (ns.length-z.to.length):=by
 unfold goOn
 by_cases c:z.to.length<ns.length
 . rw[O9 c];erw[λ_=>O9 rfl,λh=>absurd h JB]
 . rw [O8 c];unfold eK
   by_cases e:z.ed=hor z.s p (ts.map λt=>t.worth ns z.to p)
   . rw[O9 e];erw[λh=>h.elim (λh=>absurd h JC) (λh=>absurd h Fx),λ_=>(by show ns.length-z.to.length=0;omega)]
   . rw[O8 e];erw[λh=>h.elim (λh=>absurd h ya) (λh=>absurd h Fw),λh=>absurd h xZ]
def Lf.ask(k:GmK ns ts p)(n6:ns.length<=6){j:Nat}(h:TkOk ns ts p t)(l:Lf ns t j)(hw:t.z.aw.1="hear"):Lf ns (t.ask ns ts p rows) j:=by
 let ho:=h.hear (rows:=rows) k n6 hw;let x0:=h.gd.hear_ne k ho;let e:cU ns ts p (t.said ns ts p rows) t.z=dC p (t.said ns ts p rows) { t.z with pl:=t.z.pl+((t.said ns ts p rows).length:Int) }:=O8 h.cl;let l1:=l.hc (.inl hw);let s2:bO ns t.z=ns.length-t.z.to.length:=O9 hw;let ez:(t.ask ns ts p rows).z=dC p (t.said ns ts p rows) { t.z with pl:=t.z.pl+((t.said ns ts p rows).length:Int) }:=e;erw[λhh=>?_,λhh=>?_]
 . rw [ez]at hh ⊢;unfold dC at hh ⊢
   by_cases c:(val p (t.said ns ts p rows) 0+val p (t.said ns ts p rows) 1) % p=t.z.ed
   . rw[O9 c];show(if(("coin":Str)="hear")then _ else if(("coin":Str)="coin")then(if t.said ns ts p rows=[]then _ else _)else _)=j;rw[O8 jp,O9 rfl,O8 x0];show ns.length-t.z.to.length=j;omega
   . rw[O8 c]at hh;exact hh.elim (λh=>absurd h ya) (λh=>absurd h Fw)
 . rw [ez]at hh;unfold dC at hh
   by_cases c:(val p (t.said ns ts p rows) 0+val p (t.said ns ts p rows) 1) % p=t.z.ed
   . rw[O9 c]at hh;exact absurd hh Ba
   . rw[O8 c]at hh;exact absurd hh xZ
def Lf.settle(k:GmK ns ts p)(n6:ns.length<=6)(h:TkOk ns ts p t)(l:Lf ns t j):Lf ns (settle ns ts p rows 2 t) j:=by
 by_cases ch:t.z.aw.1="hear"
 . let%[o,s,_|o4]:=h.ask (rows:=rows) k n6 ch;let e:Mine.settle ns ts p rows 2 t=t.ask ns ts p rows:=(O9 ch).trans (cW o4 1);rw[e];exact l.ask k n6 h ch
 . rw[cW ch];exact l
def Lf.toss(h:TkOk ns ts p t){j:Nat}(l:Lf ns t (j+1))(hw:t.z.aw.1="coin")(r:Int):Lf ns (t.toss ns ts p r) j:=by
 let nh:¬ t.z.aw.1="hear":=by rw[hw];exact jp
 let s2:bO ns t.z=if t.z.he=[]then ns.length+1 else ns.length-t.z.to.length:=by unfold bO;rw[O8 nh,O9 hw]
 let l1:=l.hc (.inr hw)
 by_cases c:t.z.he=[]
 . let et:=h.fi hw c;rw[O9 c]at s2;let e:t.toss ns ts p r=%[goOn ns ts p { t.z with pl:=t.z.pl+1,s:=r,ed:=hor r p t.z.cl },t.bx|t.nr]:=by
    unfold Tk.toss dy yK;rw[O9 c]
   rw[e]
   have:=wS (ns:=ns) (ts:=ts) (p:=p) { t.z with pl:=t.z.pl+1,s:=r,ed:=hor r p t.z.cl } h.gd.tl t.bx t.nr
   let ej:ns.length-t.z.to.length=j:=by rw[et,zH1];omega
   rw[←ej];exact this
 . let tl:=((h.gd.co hw).2 c).2;rw[O8 c]at s2;let e:t.toss ns ts p r=%[goOn ns ts p { t.z with pl:=t.z.pl+1,ed:=val p t.z.he r,to:=t.z.to++[r] },t.bx|t.nr]:=by
    unfold Tk.toss dy;rw[O8 c]
   rw[e];let el:(t.z.to++[r]).length=t.z.to.length+1:=by rw[zJ0];rfl
   have:=wS (ns:=ns) (ts:=ts) (p:=p) { t.z with pl:=t.z.pl+1,ed:=val p t.z.he r,to:=t.z.to++[r] } (by show(t.z.to++[r]).length<=_;omega) t.bx t.nr
   let ej:ns.length-(t.z.to++[r]).length=j:=#[0]
   rw[←ej];exact this
def Lf.new(k:GmK ns ts p):Lf ns ‹Tk.a› (bu ns ts):=by
 let e0:cU ns ts p ‹Tk.s› (Db.new ts)=jr ns ts p ‹Tk.s› { Db.new ts with pl:=(Db.new ts).pl+(‹Tk.s›.length:Int) }:=O9 rfl
 by_cases c:ts.length=1
 . let e:(Tk.new ts).ask ns ts p rows=%[goOn ns ts p { Db.new ts with pl:=(Db.new ts).pl+(‹Tk.s›.length:Int),cl:=‹Tk.s›,s:=0,ed:=hor 0 p ‹Tk.s› },((Tk.new ts).run ns ts p rows).bx|(Tk.new ts).nr+1]:=by
    unfold Tk.ask
    congr 1
    exact e0.trans (O9 c)
   rw[e];let ej:bu ns ts=ns.length-([]:List Int).length:=O9 c;rw[ej];exact wS _ (zW0 _) _ _
 . let ez:‹Tk.a›.z={ Db.new ts with pl:=(Db.new ts).pl+(‹Tk.s›.length:Int),cl:=‹Tk.s›,aw:=("coin",none) }:=e0.trans (O8 c);let ej:bu ns ts=ns.length+1:=O8 c;erw[λ_=>?_,λh=>?_]
   . rw[ez,ej];show(if(("coin":Str)="hear")then _ else if(("coin":Str)="coin")then(if([]:List Int)=[]then ns.length+1 else _)else 0)=_;rw[O8 jp,O9 rfl,O9 rfl]
   . rw[ez]at h;exact absurd h Ba
def Ax(ns:List Str)(ts:List Tr)(p:Int)(rows:List Hr)(t:Tk)(c:List Int):Bool:=decide ((cD ns ts p rows c 20 t).2.z.aw.1="believed")
def uG(k:GmK ns ts p)(n6:ns.length<=6){cn:Nat}:∀(d j:Nat) (t:Tk) (cs:List Int),TkOk ns ts p (settle ns ts p rows 2 t)->¬ (settle ns ts p rows 2 t).z.aw.1="hear" -> Lf ns (settle ns ts p rows 2 t) j->j<d->cs.length+j=cn ->
 iq ns ts p rows cn d t cs=jX (dN p.toNat j) (Ax ns ts p rows (settle ns ts p rows 2 t)) cs
 |0,j,_,_,_,_,_,hd,_=>absurd hd (Nat.not_lt_zero _)
 |d+1,j,t,cs,ok,no,lf,hd,hl=>by
   let p2:=k.p2;let ep:(p.toNat:Int)=p:=#[0]
   show(if(settle ns ts p rows 2 t).z.aw.1="believed" then _ else if(settle ns ts p rows 2 t).z.aw.1="caught" then _ else _)=_;generalize settle ns ts p rows 2 t=u at ok no lf
   by_cases cb:u.z.aw.1="believed"
   . rw [O9 cb];let e0:=lf.be cb;subst e0;let e1:Ax ns ts p rows u []=true:=by
      unfold Ax;rw[dO no (by rw[cb];exact Fx)];exact zC1 cb
     unfold jX dN;rw[List.filter_cons_of_pos e1,List.filter_cons_of_neg (by rw[e1];decide)];rfl
   . rw [O8 cb]
     by_cases cc:u.z.aw.1="caught"
     . rw [O9 cc];let e1:∀c∈dN p.toNat j,Ax ns ts p rows u c=false:=λc _=>by
        unfold Ax;rw[dO no (by rw[cc];exact Fw)];exact zB1 cb
       rw[jW (b':=λ_=>false) e1];unfold jX;let e2:(dN p.toNat j).filter (λ_=>false)=[]:=List.filter_eq_nil_iff.mpr λ_ _=>by decide
       let e3:(dN p.toNat j).filter (λc=>!((λ_=>false) c))=dN p.toNat j:=List.filter_eq_self.mpr λ_ _=>rfl
       rw[e2,e3,vn #[0]];show(0,some (cs++List.replicate (cn-cs.length) 0))=((([]:List (List Int)).length:Int),some (cs++List.replicate j 0))
       rw[show cn-cs.length=j by omega];rfl
     . rw [O8 cc];let co:=yL ok no cb cc;let cp:=(eX ok (.inr co)).2 co;obtain⟨i,rfl⟩:∃i,j=i+1:=%[j-1|by have:=lf.hc (.inr co);omega]
       apply uZ (p:=p.toNat) (j:=i) (λr hr=>?_) p.toNat (zH0 _);let r0:(0:Int)<=(r:Int):=wA1 r;let r1:(r:Int)<p:=#[0]
       let%[ok3|_]:=ok.toss k co r0 r1;let%[ok4,_|no4]:=lH (rows:=rows) k n6 ok3;rw[uG k n6 d i _ (cs++[(r:Int)]) ok4 no4 ((lf.toss ok co (r:Int)).settle k n6 ok3) #[0] (by rw[zJ0,qM0];omega)];apply jW λc hc=>?_
       let po:bY c p:=by
        have:=(lB _ _ hc).2
        rwa [ep]at this
       unfold Ax;rw[←nY (n:=19) k n6 ok3 po ⋯ ⋯,dH (n:=19) co];rfl
def BJ(k:GmK ns ts p)(n6:ns.length<=6):iq ns ts p rows (bu ns ts) 8 (Tk.new ts) []=jX (dN p.toNat (bu ns ts)) (λc=>decide ((gl ns ts p rows c).2.z.aw.1="believed")) []:=by
 let%[o1,_|no1]:=jG (rows:=rows) k n6;let%[o2|_]:=lT (rows:=rows) k n6;let c7:=jy (ts:=ts) n6;let ep:(p.toNat:Int)=p:=by have:=k.p2;omega
 let e:settle ns ts p rows 2 (Tk.new ts)=settle ns ts p rows 1 ‹Tk.a›:=O9 rfl;let e2:settle ns ts p rows 2 (Tk.new ts)=settle ns ts p rows 2 ‹Tk.a›:=by
  rw[e]
  by_cases c:‹Tk.a›.z.aw.1="hear"
  . let n4:=(o2.ask (rows:=rows) k n6 c).2.2.2;show(if _ then _ else _)=(if _ then _ else _)
    rw[O9 c,O9 c,cW n4,cW n4]
  . rw[cW c,cW c]
 let lf:=(Lf.new (rows:=rows) k).settle (rows:=rows) k n6 o2;rw[←e2]at lf;rw[uG k n6 8 (bu ns ts) (Tk.new ts) [] o1 no1 lf #[0] (Nat.zero_add _)];apply jW λc hc=>?_
 let po:bY c p:=by
  have:=(lB _ _ hc).2
  rwa [ep]at this
 unfold Ax;rw[e2,←nY (n:=20) k n6 o2 po ⋯ ⋯];rfl
end
def Di{p x y:Int}(hp:1<p)(bx cy:Bool)(hx:x=if bx then 1 else 0)(hy:y=if cy then 1 else 0):eU p o x y=if eQ o bx cy then 1 else 0:=by
 let m0:(0:Int) % p=0:=jL1 p;let m1:(1:Int) % p=1:=qL0 ⋯ hp;subst hx hy;unfold eU eQ;cases bx <;> cases cy <;> (repeat' split) <;> simp_all
def iL{ns:List Str}{st:List Int}{p:Int}(hp:1<p)(h:∀x∈st,x=0∨x=1)(hl:st.length=ns.length):∀t:Tr,t.ok ns->t.worth ns st p=if t.holds ns st then 1 else 0
 |.is x,ok=>by
   let%[j,hj|jl]:=gC ok;show(match eY x ns with | some j=>st.getD j 0 | none=>0)=if(match eY x ns with | some j=>decide (st.getD j 0=1) | none=>false)=true then 1 else 0
   rw[hj];show st.getD j 0=if decide (st.getD j 0=1)=true then 1 else 0
   rw[tR #[0]];rcases h _ (qP0 (show j<st.length by omega))with e | e <;> rw[e] <;> rfl
 |.yes,_=>rfl
 |.no,_=>rfl
 |.not a,ok=>by
   let m0:(0:Int) % p=0:=jL1 p;let m1:(1:Int) % p=1:=qL0 ⋯ hp;show(1-a.worth ns st p) % p=if(!a.holds ns st)=true then 1 else 0
   rw[iL hp h hl a ok];cases a.holds ns st
   . exact m1
   . exact m0
 |.bin o a b,⟨_,k1,k2⟩=>Di hp _ _ (iL hp h hl a k1) (iL hp h hl b k2)
def nd_at{ns:List Str}(nd:ns.Nodup){i j:Nat}{z:Str}(hi:ns[i]?=some z)(hj:ns[j]?=some z):i=j:=by
 let%[h1|e1]:=Pj hi;let%[h2|e2]:=Pj hj;rcases Nat.lt_trichotomy i j with h | h | h
 . exact absurd (e1.trans e2.symm) (List.pairwise_iff_getElem.mp nd i j h1 h2 h)
 . exact h
 . exact absurd (e2.trans e1.symm) (List.pairwise_iff_getElem.mp nd j i h2 h1 h)
def Er{pt:List Int}{j i:Nat}{x:Int}(hj:j<pt.length):(pt.set j x).getD i 0=if i=j then x else pt.getD i 0:=by
 rw[qJ0,qJ0,List.getElem?_set]
 by_cases c:j=i
 . subst c
   simp [hj]
 . rw[O8 c,O8 (Ne.symm c)]
def jD{ns:List Str}{pt:List Int}{p:Int}{j:Nat}{y:Str}(hy:ns[j]?=some y)(hl:pt.length=ns.length)(nd:ns.Nodup):∀t:Tr,t.ok ns->∃f:Int->Int,IsPoly (t.names.count y+1) f/\∀x:Int,p ∣ t.worth ns (pt.set j x) p-f x
 |.is z,ok=>by
   let jl:j<ns.length:=(Pj hy).1;let%[i,hi|il]:=gC ok;let hz:=(sK hi).1;let e:∀x,(Tr.is z).worth ns (pt.set j x) p=if i=j then x else pt.getD i 0:=λx=>by
    show(match eY z ns with | some j'=>(pt.set j x).getD j' 0 | none=>0)=_;rw[hi];exact Er #[0]
   by_cases c:i=j
   . subst c;let ez:z=y:=zS0 (hz.symm.trans hy);subst ez;erw[λx=>x,6,λx=>%[(0)|by rw[e x,O9 rfl];simp]]
     have:(Tr.is z).names.count z=1:=by simp [Tr.names]
     rw[this];exact IsPoly.self
   . let ez:z≠y:=λh=>c (by
      subst h;exact nd_at nd hz hy)
     erw[λ_=>pt.getD i 0,6,λx=>%[(0)|by rw[e x,O8 c];simp]];exact IsPoly.const _ _
 |.yes,_=>%[λ_=>1,IsPoly.const _ _|λx=>%[(0)|by show(1:Int)-1=_;simp]]
 |.no,_=>%[λ_=>0,IsPoly.const _ _|λx=>%[(0)|by show(0:Int)-0=_;simp]]
 |.not a,ok=>by
   let%[f,hf|h]:=jD (p:=p) hy hl nd a ok;erw[λx=>1+(-1)*f x,(IsPoly.const 1 _).add (hf.mul (-1)),λx=>?_];let%[k|hk]:=h x;let%[m|hm]:=tU p (1-a.worth ns (pt.set j x) p);show p ∣ (1-a.worth ns (pt.set j x) p) % p-_;erw[m-k,by grind]
 |.bin o a b,⟨_,ok1,ok2⟩=>by
   let%[f,hf|h]:=jD (p:=p) hy hl nd a ok1;let%[g,hg|h']:=jD (p:=p) hy hl nd b ok2;let ec:(Tr.bin o a b).names.count y+1=a.names.count y+b.names.count y+1:=by
    show(a.names++b.names).count y+1=_;rw[List.count_append]
   rw [ec];let hF:IsPoly (a.names.count y+b.names.count y+1) f:=hf.upTo _ #[0];let hG:IsPoly (a.names.count y+b.names.count y+1) g:=hg.upTo _ #[0];let hP:=hf.prod hg;let fin:∀(c0 c1 c2:Int),(∀u v:Int,eU p o u v=(c0+c1*(u+v)+c2*(u*v)) % p)->∃F:Int->Int,IsPoly (a.names.count y+b.names.count y+1) F/\∀x:Int,p ∣ (Tr.bin o a b).worth ns (pt.set j x) p-F x:=λc0 c1 c2 hJ=>by
    erw[λx=>c0+c1*(f x+g x)+c2*(f x*g x),((IsPoly.const c0 _).add ((hF.add hG).mul c1)).add (hP.mul c2),λx=>?_];let%[k|hk]:=h x;let%[l|hl]:=h' x;show p ∣ eU p o (a.worth ns (pt.set j x) p) (b.worth ns (pt.set j x) p)-_;rw[hJ];generalize a.worth ns (pt.set j x) p=u at *
    generalize b.worth ns (pt.set j x) p=v at *
    let%[m|hm]:=tU p (c0+c1*(u+v)+c2*(u*v));erw[m+c1*(k+l)+c2*(k*v+f x*l),by grind]
   by_cases c1:o="and"
   . exact fin 0 0 1 λu v=>by unfold eU;rw[O9 c1];congr 1;grind
   by_cases c2:o="or"
   . exact fin 0 1 (-1) λu v=>by unfold eU;rw[O8 c1,O9 c2];congr 1;grind
   by_cases c3:o="odd"
   . exact fin 0 1 (-2) λu v=>by unfold eU;rw[O8 c1,O8 c2,O9 c3];congr 1;grind
   . exact fin 1 (-1) 2 λu v=>by unfold eU;rw[O8 c1,O8 c2,O8 c3];congr 1;grind
def yd{ns:List Str}{pt:List Int}{p:Int}{j D:Nat}{y:Str}(hy:ns[j]?=some y)(hl:pt.length=ns.length)(nd:ns.Nodup):∀ts:List Tr,(∀t∈ts,t.ok ns/\t.names.count y<=D)->∃f:Int->Int,IsPoly (D+1) f/\∀x:Int,p ∣ iG s (ts.map λt=>t.worth ns (pt.set j x) p)-f x
 | [],_=>%[λ_=>0,IsPoly.const _ _|λx=>%[(0)|by simp [iG]]]
 |t::ts,h=>by
   let%[f,hf|h1]:=jD (p:=p) hy hl nd t (h t qA0).1;let%[g,hg|h2]:=yd (p:=p) (s:=s) hy hl nd ts λu hu=>h u (qK0 _ hu)
   let hd:=(h t qA0).2;erw[λx=>f x+s*g x,(hf.upTo _ #[0]).add (hg.mul s),λx=>?_];let%[k|hk]:=h1 x;let%[l|hl]:=h2 x;show p ∣ t.worth ns (pt.set j x) p+s*iG s (ts.map λt=>t.worth ns (pt.set j x) p)-_;erw[k+s*l,by grind]
def DS(hp:Pm p){xs:List Int}{f:Int->Int}(hn:(xs.length:Int)<=p)(hf:IsPoly xs.length f)(h:∀k,k<xs.length->p ∣ xs.getD k 0-f k)(r:Int):val p xs r=f r % p:=
 md (yk hp hn (vp hp hn) hf h r)
def Lh{ts:List Tr}{x:Str}:∀t∈ts,t.names.count x<=(bm ts x).toNat:=λt ht=>by
 have:=IJ (d:=0) (List.mem_map.mpr %[t,ht|1]:((t.names.count x:Nat):Int)∈ts.map λt=>(t.names.count x:Int))
 unfold bm;omega
def AN:∀(cs st:List Int)(x z:Int),(cs++[z]++st).set cs.length x=cs++[x]++st
 | [],_,_,_=>rfl
 |a::cs,st,x,z=>congrArg (a::·) (AN cs st x z)
def xt{ns:List Str}{cs:List Int}{p:Int}{D:Nat}{y:Str}{ts:List Tr}(hy:ns[cs.length]?=some y)(nd:ns.Nodup)(h:∀t∈ts,t.ok ns/\t.names.count y<=D):∀l:List (List Int),(∀st∈l,cs.length+1+st.length=ns.length) ->
 ∃f:Int->Int,IsPoly (D+1) f/\∀x:Int,p ∣ (l.map λst=>iG s (ts.map λt=>t.worth ns (cs++[x]++st) p)).sum-f x
 | [],_=>%[λ_=>0,IsPoly.const _ _|λx=>%[(0)|by simp]]
 |st::l,hs=>by
   let%[f,hf|h1]:=yd (p:=p) (s:=s) (pt:=cs++[0]++st) hy (by rw[zJ0,zJ0,qM0];exact hs st qA0) nd ts h;let%[g,hg|h2]:=xt (p:=p) (s:=s) hy nd h l λu hu=>hs u (qK0 _ hu)
   erw[λx=>f x+g x,hf.add hg,λx=>?_];let%[k|hk]:=h1 x;rw[AN]at hk;let%[m|hm]:=h2 x;erw[k+m,6];simp only[zZ0,zV1];rw[vF1];omega
def pC:∀(n:Nat)(s:List Int),s∈cH n->s.length=n
 |0,s,h=>by rw[Pg h];rfl
 |n+1,s,h=>by
   let%[t,ht|h]:=List.mem_flatMap.mp h
   have:=pC n t ht
   rcases zX0 h with h | h
   . rw[h,zJ0,this];rfl
   . rw[Pg h,zJ0,this];rfl
def AB{ns:List Str}{ts:List Tr}{cs:List Int}{y:Str}(hp:Pm p)(hy:ns[cs.length]?=some y)(nd:ns.Nodup)(ok:∀t∈ts,t.ok ns)(tne:ts≠[])(dp:bm ts y<p)(r:Int):
 val p (dR ns ts s p cs (bm ts y+1).toNat) r=cM ns ts s p (cs++[r]):=by
 let cl:cs.length<ns.length:=(Pj hy).1;let d0:=yy (x:=y) tne;let%[f,hf|h]:=xt (p:=p) (s:=s) hy nd (λt ht=>%[ok t ht|Lh t ht]) (cH (ns.length-(cs.length+1))) λst Pd=>by
  have:=pC _ _ Pd
  omega
 let ll:(dR ns ts s p cs (bm ts y+1).toNat).length=(bm ts y).toNat+1:=by
  unfold dR;rw[zF0,qR0];omega
 let eq:∀x:Int,cM ns ts s p (cs++[x])=((cH (ns.length-(cs.length+1))).map λst=>iG s (ts.map λt=>t.worth ns (cs++[x]++st) p)).sum % p:=λx=>by
  unfold cM;rw[zJ0,qM0]
 rw [DS hp (f:=f) (by rw[ll];omega) (by rw[ll];exact hf) (λk hk=>by
  let e:(dR ns ts s p cs (bm ts y+1).toNat).getD k 0=cM ns ts s p (cs++[(k:Int)]):=by
   unfold dR at hk ⊢;rw[zF0,qR0]at hk;rw[qJ0,zY0,jL0 hk];rfl
  rw[e,eq];let%[a|ha]:=h k;let%[b|hb]:=tU p ((cH (ns.length-(cs.length+1))).map λst=>iG s (ts.map λt=>t.worth ns (cs++[(k:Int)]++st) p)).sum;erw[a+b,by grind]) r,eq]
 let%[a|ha]:=h r;exact md %[-a|by grind]
def AE{α:Type}(F:List α->Int)(G:List α->Int):∀l:List (List α),(l.map λs=>F s+G s).sum=(l.map F).sum+(l.map G).sum
 | []=>rfl
 |a::l=>by
   simp only[zZ0,zV1,AE F G l];omega
def rM(F:List Int->Int):∀l:List (List Int),((l.flatMap λs=>[s++[0],s++[1]]).map F).sum=(l.map λs=>F (s++[0])+F (s++[1])).sum
 | []=>rfl
 |a::l=>by
   rw[vC1,zK0,wC1,rM F l]
   simp
def qr:∀(n:Nat)(F:List Int->Int),((cH (n+1)).map F).sum=((cH n).map λs=>F (0::s)+F (1::s)).sum
 |0,F=>by simp [cH]
 |n+1,F=>by
   let e1:((cH (n+1+1)).map F).sum=((cH (n+1)).map λs=>F (s++[0])+F (s++[1])).sum:=rM F _;rw[e1,qr n λs=>F (s++[0])+F (s++[1])];let e2:((cH (n+1)).map λs=>F (0::s)+F (1::s)).sum=((cH n).map λs=>(F (0::(s++[0]))+F (1::(s++[0])))+(F (0::(s++[1]))+F (1::(s++[1])))).sum:=rM (λs=>F (0::s)+F (1::s)) _;rw[e2]
   congr 1
   apply qU1 λs _=>?_
   show F (0::s++[0])+F (0::s++[1])+(F (1::s++[0])+F (1::s++[1]))=_;simp only[List.cons_append];omega
def pR{ns:List Str}{cs:List Int}(cl:cs.length<ns.length):(cM ns ts s p (cs++[0])+cM ns ts s p (cs++[1])) % p=cM ns ts s p cs:=by
 let eq:∀x:Int,cM ns ts s p (cs++[x])=((cH (ns.length-(cs.length+1))).map λst=>iG s (ts.map λt=>t.worth ns (cs++[x]++st) p)).sum % p:=λx=>by
  unfold cM;rw[zJ0,qM0]
 let e0:cM ns ts s p cs=((cH (ns.length-(cs.length+1)+1)).map λst=>iG s (ts.map λt=>t.worth ns (cs++st) p)).sum % p:=by
  unfold cM;rw[show ns.length-cs.length=ns.length-(cs.length+1)+1 by omega]
 rw [e0,qr,eq,eq];let e1:((cH (ns.length-(cs.length+1))).map λst=>iG s (ts.map λt=>t.worth ns (cs++0::st) p)+iG s (ts.map λt=>t.worth ns (cs++1::st) p)).sum
  = ((cH (ns.length-(cs.length+1))).map λst=>iG s (ts.map λt=>t.worth ns (cs++[0]++st) p)).sum+((cH (ns.length-(cs.length+1))).map λst=>iG s (ts.map λt=>t.worth ns (cs++[1]++st) p)).sum:=by
  rw[←AE]
  congr 1
  apply qU1 λst _=>?_
  simp only[jH1,List.singleton_append]
 rw[e1,←qX1]
def sL(s:Int){α:Type}(F:Tr->α->Int)(l:List α):∀ts:List Tr,iG s (ts.map λt=>(l.map (F t)).sum)=(l.map λa=>iG s (ts.map λt=>F t a)).sum
 | []=>by
   simp only[List.map_nil,iG]
   induction l with
   |nil=>rfl
   |cons a l ih=>simpa using ih
 |t::ts=>by
   show(l.map (F t)).sum+s*iG s (ts.map λt=>(l.map (F t)).sum)=_;rw[sL s F l ts];clear sL
   induction l with
   |nil=>simp
   |cons a l ih=>
     simp only[zZ0,zV1,iG]at ih ⊢
     grind
def AQ{ns:List Str}{cs:List Int}(cl:cs.length=ns.length):cM ns ts s p cs=hor s p (ts.map λt=>t.worth ns cs p):=by
 rw[oU];unfold cM;rw[cl,vJ1]
 simp [cH]
def pz:List Str:=["not","and","or","odd","same"]
def qF{o:Str}(h:o∈joinW):o∈pz:=qK0 _ h
def Az(o:Str):inV (.str o) [.str "yes",.str "no"]=(decide (o="yes")||decide (o="no")):=by
 show (("yes"==o)||(("no"==o)||false))=_;rw[vD1];let e:∀z:Str,(z==o)=decide (o=z):=λz=>by
  by_cases c:o=z
  . subst c;simp
  . rw[zB1 c];simpa using λh=>c h.symm
 rw[e,e]
def JQ{o:Str}(h:o∈pz):inV (.str o) [.str "yes",.str "no"]=false:=by
 rw[Az,zB1,zB1]
 . rfl
 . intro z;subst z;revert h;decide
 . intro z;subst z;revert h;decide
def KA{o:Str}(h:o∈pz):¬ V.str o=V.str "is":=λz=>by
 rw[eV z]at h
 revert h
 decide
def TreeAt.viewH{ns:List Str}(h:TreeAt H v t)(ok:t.ok ns):(∃(a:Addr) (x:Str),v=.ref a/\t=.is x/\x∈ns/\H a=some (.tup [.str "is",.str x]))∨(∃a:Addr,v=.ref a/\t=.yes/\H a=some (.tup [.str "yes"]))∨(∃a:Addr,v=.ref a/\t=.no/\H a=some (.tup [.str "no"]))∨
 ∃(a:Addr) (o:Str) (xs:List V),v=.ref a/\o∈pz/\xs.length<=2/\H a=some (.tup (.str o::xs))/\TreesAt H xs t.parts/\(∀u∈t.parts,u.ok ns/\u.depth+1<=t.depth)/\((o="not"/\∃r,t=.not r)∨(o∈joinW/\∃r r2,t=.bin o r r2)):=by
 cases h with
 |is e=>exact .inl %[2,ok|e]
 |yes e=>exact .inr (.inl %[0,1|e])
 |no e=>exact .inr (.inr (.inl %[0,1|e]))
 | @not a u r e g=>
   refine .inr (.inr (.inr %[_,"not",[u],1,4,by simp,e,.cons g .nil,λz hz=>?_|.inl ⟨rfl,_,rfl⟩]));rw[Pg hz];erw[ok,zH0 _]
 | @bin a o u u2 r r2 e g g2=>
   erw[ho,ok1,ok2]at ok;refine .inr (.inr (.inr %[_,o,[u,u2],1,qF ho,by simp,e,.cons g (.cons g2 .nil),λz hz=>?_|.inr ⟨ho,_,_,rfl⟩]));rcases zX0 hz with h | h
   . rw[h];erw[ok1,6];show r.depth+1<=max r.depth r2.depth+1;omega
   . rw[Pg h];erw[ok2,6];show r2.depth+1<=max r.depth r2.depth+1;omega
instance spLH(n:Nat):∀(v:V)(t:Tr)(a b:Addr)(ns:List Str)(st:List Int),vs=[v,.ref a,.ref b]->TreeAt H v t->t.ok ns->t.depth<=n->NamesAt H a ns->H b=some (.tup (st.map V.int))->st.length=ns.length->(∀H',Same H H'->Q (.bl (t.holds ns st)) H'):=1
def C7:FnScope ["_law_tree_here","_law_switches","_law_setting","_law_parts"] Wa (aj lK):=%[|5]
def IP{n:Nat}(F:#["_law_holds",lK])(i7:#[n+2,"_law_holds",Wa,spLH n]):#[n+3,f,fd,Wa,spLH (n+1)]:=by
 exists C7
 erw[v,t,a,b,ns,st,1,T,ok,dn,hN,hb,sl,k]at h;refine⟨_,(ad (aJ (ai dP (aM ix_tup (pv 0) ag #[1]) (aS %[aF,aF|ae]) (by rfl')) (af (am (dw aQ (aM ix_tup (pv 0) ag #[1]) aF (ay _)))) aB)
  (ad (aJ (ai aQ (aM ix_tup (pv 0) ag #[1]) aF (ay _)) (af (am (dw aQ (aM ix_tup (pv 2) (sQ zF1 jZ0 (pv 1) %[aM ix_tup (pv 0) ag #[1]|ae]) #[1]) ag (ay _)))) aB)
  (ad (oE (i:=3) (N:=["_law_switches","_law_setting"]) (ix:=[1,2]) C7.nd rfl (.inl rfl) rfl
   #[4] rfl
   (fh (eJ pB (pv 0) (eP ag) ig))
   (λ_ _ _=>cg (ax i7 hr (zH0 _) rfl %[0,1,2|ae])))
  (ad (aJ (ai aQ (aM ix_tup (pv 0) ag #[1]) aF (ay _)) (af (am (wg (aM ix_list (pv 3) ag #[1])))) aB)
  (ad (aJ (ai aQ (aM ix_tup (pv 0) ag #[1]) aF (ay _)) (af (am (nI (aM ix_list (pv 3) ag #[1]) (nv (aM ix_list (pv 3) ag #[1]))))) aB)
  (ad (aJ (ai aQ (aM ix_tup (pv 0) ag #[1]) aF (ay _)) (af (am (Jy (aM ix_list (pv 3) ag #[1]) (nv (aM ix_list (pv 3) ag #[1]))))) aB)
  (af (am (dw aQ (dw aQ (aM ix_list (pv 3) ag #[1]) (aM ix_list (pv 3) ag #[1]) (ay _)) (dw aQ (aM ix_tup (pv 0) ag #[1]) aF (ay _)) (ay _)))))))))),?_⟩
 rcases T.viewH ok with⟨q,x,rfl,rfl,xm,e⟩ | ⟨q,rfl,rfl,e⟩ | ⟨q,rfl,rfl,e⟩ | ⟨q,o,xs,rfl,om,xl0,e,TS0,pok,fm⟩
 . erw[0,q,_,(0),0,1,zC0 e,1,y2S,λc hc=>?_];let G:=zE0 hc (.tup [.str "yes",.str "no"]);erw[c,0,.inr (zC0 ah),1,1,0,6];let e0:inV (.str "is") [.str "yes",.str "no"]=false:=by rw[Az];decide
   show if inV (.str "is") [.str "yes",.str "no"]=true then _ else _
   rw[e0];apply cE ?_;erw[0,q,_,(0),0,1,zC0 (G _ _ e),1,1,0,6];apply aW rfl ?_;let%[j,hj|jl]:=gC xm;let jl':j<st.length:=#[0]
   erw[0,0,a,ns,1,hN.same G,0,q,_,(1),0,1,zC0 (G _ _ e),1,1,x,j,1,hj,b,_,(j:Int),.int st[j],1,1,zC0 (G _ _ hb),6,1,6]
   . apply cu ?_;rw[zY0,zL0 jl'];rfl
   . let e1:(Tr.is x).holds ns st=decide (V.int st[j]=V.int 1):=by
      show(match eY x ns with | some j=>decide (st.getD j 0=1) | none=>false)=_;rw[hj];show decide (st.getD j 0=1)=_;rw[qJ0,zL0 jl']
      simp
     let k':=k _ G;rw[e1]at k';exact k'
 . erw[0,q,_,(0),0,1,zC0 e,1,y2S,λc hc=>?_];let G:=zE0 hc (.tup [.str "yes",.str "no"]);erw[c,0,.inr (zC0 ah),1,1,0,6];let e0:inV (.str "yes") [.str "yes",.str "no"]=true:=by rw[Az];decide
   show if inV (.str "yes") [.str "yes",.str "no"]=true then _ else _
   rw[e0];apply du ?_;erw[0,q,_,(0),0,1,zC0 (G _ _ e),1,1,6];exact k _ G
 . erw[0,q,_,(0),0,1,zC0 e,1,y2S,λc hc=>?_];let G:=zE0 hc (.tup [.str "yes",.str "no"]);erw[c,0,.inr (zC0 ah),1,1,0,6];let e0:inV (.str "no") [.str "yes",.str "no"]=true:=by rw[Az];decide
   show if inV (.str "no") [.str "yes",.str "no"]=true then _ else _
   rw[e0];apply du ?_;erw[0,q,_,(0),0,1,zC0 (G _ _ e),1,1,6];let e1:decide (V.str "no"=V.str "yes")=false:=by decide
   show Q (.bl (decide (V.str "no"=V.str "yes"))) _;rw[e1];exact k _ G
 . erw[0,q,_,(0),.str o,1,1,zC0 e,at0 ..,y2S,λc hc=>?_];let G:=zE0 hc (.tup [.str "yes",.str "no"]);erw[c,0,.inr (zC0 ah),1,1,0,6];show if inV (.str o) [.str "yes",.str "no"]=true then _ else _
   rw[JQ om];apply cE ?_;erw[0,q,_,(0),.str o,1,1,zC0 (G _ _ e),at0 ..,1,0,6];apply aE (KA om) ?_;let%[c1|c2]:=Jb (.str o) xs xl0;erw[0,(1),1,q,0,zC0 (G _ _ e),c2,λc' hc'=>?_];rw[c1];let G1:=zE0 hc' (.tup xs);let S1:Same H (upd (upd H c (.tup [.str "yes",.str "no"])) c' (.tup xs)):=G.trans G1;let hc1:upd (upd H c (.tup [.str "yes",.str "no"])) c' (.tup xs) c'=some (.tup xs):=ah;generalize upd (upd H c (.tup [.str "yes",.str "no"])) c' (.tup xs)=H1 at S1 hc1;let TS:=TS0.mono (aY S1);let xl:=TS.length;erw[c',1,%[_|zC0 hc1],λD hD=>?_];apply eN (K:=K) (xs:=xs) (λi H'=>H' D=some (.lst ((t.parts.take i).map λu=>V.bl (u.holds ns st)))/\Same H1 H') %[by rw[ah];rfl|zE0 hD _] (λi H' _ h=>zC0 (h.2 _ _ hc1)) ?_ ?_
   . rintro i z H2 hz ⟨hl,S2⟩;let%[u,hu'|Tu]:=TS.get hz;let%[uok|ud]:=pok u (qF0 hu');let hi:i<xs.length:=(Pj hz).1;let S02:=S1.trans S2;erw[0,0,0,z,u,a,b,ns,st,1,Tu.mono (aY S2),uok,3,hN.same S02,S02 _ _ hb,sl,λH3 S3=>?_];erw[_,S3 _ _ hl,6,Nx.of hi %[6|λb' o' e'=>?_]]
     . rw[zF0,qI0];exact aN #[0]
     . rw[ah,qC0,hu',zK0];rfl
     . rw[aD (aO e' hD)];exact S3 _ _ (S2 _ _ e')
   . rintro H2 ⟨hl,S2⟩;rw[xl,qB0]at hl;let S02:=S1.trans S2;let e2:=S02 _ _ e;let k':=k _ S02;erw[0,q,_,(0),.str o,1,1,zC0 e2,at0 ..,1,0,6];rcases fm with⟨rfl,r,rfl⟩ | ⟨oj,r,r2,rfl⟩
     . apply aW rfl ?_;erw[0,D,_,(0),0,1,zG0 hl,at0 ..,0,k']
     . let ne:∀z:Str,z∉joinW->¬ V.str o=V.str z:=λz hz h=>hz (eV h▸oj)
       let hl':H2 D=some (.lst [V.bl (r.holds ns st),V.bl (r2.holds ns st)]):=hl;let k2:Q (.bl (eQ o (r.holds ns st) (r2.holds ns st))) H2:=k';generalize r.holds ns st=x at hl' k2;generalize r2.holds ns st=y at hl' k2;apply aE (ne _ ⋯) ?_;erw[0,q,_,(0),.str o,1,1,zC0 e2,at0 ..,1,0,6]
       by_cases c1:V.str o=V.str "and"
       . apply aW c1 ?_;rw[eV c1]at k2;let ej:eQ "and" x y=(x&&y):=by unfold eQ;rw[O9 rfl]
         rw[ej]at k2;erw[0,D,_,(0),0,1,zG0 hl',1,x,1,6];cases x with
         |true=>exact du %[0,D,_,(1),0,1,zG0 hl',1|by simpa using k2]
         |false=>exact cE #[k2,0]
       apply aE c1 ?_;erw[0,q,_,(0),.str o,1,1,zC0 e2,at0 ..,1,0,6]
       by_cases c2:V.str o=V.str "or"
       . apply aW c2 ?_;rw[eV c2]at k2;let ej:eQ "or" x y=(x||y):=by unfold eQ;rw[O8 ⋯,O9 rfl]
         rw[ej]at k2;erw[0,D,_,(0),0,1,zG0 hl',1,x,1,6];cases x with
         |true=>exact du #[k2,0]
         |false=>exact cE %[0,D,_,(1),0,1,zG0 hl',1|by simpa using k2]
       apply aE c2 ?_;erw[0,D,_,(0),0,1,zG0 hl',1,0,D,_,(1),0,1,zG0 hl',1,1,0,q,_,(0),.str o,1,1,zC0 e2,at0 ..,1,1,6];let o3:o="odd"∨o="same":=by
        have:o∈(["and","or","odd","same"]:List Str):=oj
        simp only[jD0,qS1,wX1]at this;rcases this with h | h | h | h
        . exact absurd (by rw[h]) c1
        . exact absurd (by rw[h]) c2
        . exact .inl h
        . exact .inr h
       let ev:decide (V.bl (decide (V.bl x=V.bl y))=V.bl (decide (V.str o=V.str "same")))=eQ o x y:=by
        rcases o3 with rfl | rfl
        . let ej:eQ "odd" x y=(x != y):=by unfold eQ;rw[O8 ⋯,O8 ⋯,O9 rfl]
          let e1:decide (V.str "odd"=V.str "same")=false:=by decide
          rw[ej,e1];cases x <;> cases y <;> decide
        . let ej:eQ "same" x y=(x==y):=by unfold eQ;rw[O8 ⋯,O8 ⋯,O8 ⋯]
          let e1:decide (V.str "same"=V.str "same")=true:=zC1 rfl;rw[ej,e1];cases x <;> cases y <;> decide
       show Q (.bl (decide (V.bl (decide (V.bl x=V.bl y))=V.bl (decide (V.str o=V.str "same"))))) H2;rw[ev];exact k2
def IO:#[2,f,fd,Wa,spLH 0]:=by
 let no:∀vs H Q E,¬ spLH 0 vs H Q E:=λvs H Q E h=>by
  erw[v,t,_,_,_,_,_,_,_,h1,_]at h
  have:=t.depth_pos
  omega
 exists 3
def sV(F:#["_law_holds",lK])(m:mg "_law_holds"=some (.ref f)):
 ∀n:Nat,#[n+2,f,fd,Wa,spLH n]
 |0=>IO
 |n+1=>IP F (Cal.of F (sV F m n) m (λ_ _ _ _ _ _ us hl=>by let%[u0,u1,u2|1]:=FU hl;rfl))
def Ep(n:Nat):cH n=(List.range (2 ^ n)).map λk:Nat=>gG (k:Int) n:=by
 apply List.ext_getElem? λi=>?_
 by_cases h:i<2 ^ n
 . rw[uN n i h,zY0,jL0 h];rfl
 . rw[List.getElem?_eq_none (by rw[gy];omega),List.getElem?_eq_none (by rw[zF0,qR0];omega)]
def BF(k:Int):∀n:Nat,((List.range n).map λj:Nat=>k / 2 ^ (n-1-j) % 2)=gG k n
 |0=>rfl
 |n+1=>by
   rw[List.range_succ_eq_map,zZ0,List.map_map];show k / 2 ^ (n+1-1-0) % 2::_=k / 2 ^ n % 2::gG k n;rw[←BF k n]
   congr 1
   apply qU1 λj hj=>?_
   show k / 2 ^ (n+1-1-(j+1)) % 2=_;rw[show n+1-1-(j+1)=n-1-j by omega]
def uo:FnScope Wl Wl (aj jO):=%[|5]
def uu(F:#["_law_settings",jO])(hrange:mg "range"=none)(htuple:mg "tuple"=none):#[1,f,fd,Wl,spSetts]:=by
 exists uo
 erw[n,1,n0,n6,q]at h;refine⟨_,(af (am (xK (N:=Wl) (ix:=[0]) rfl
  (CompScopeO.one (by rfl') (λ_ _=>%[by rfl'|by rfl']) rfl ⋯ (by rfl') ⋯ (by rfl') (by rfl') (by rfl') rfl rfl) rfl
  (bL rfl hrange %[au Ku ag (pv 0)|ae])
  (λ_ _ _=>cg (bc (tY K) rfl htuple bi (aa (cf (N:=["_law_many","_law_number"]) (ix:=[1,0]) rfl
   (CompScope.two (by rfl') ⋯ rfl ⋯ rfl ⋯ (by first | exact Or.inl rfl | exact Or.inr rfl) (by rfl') (by rfl') (by rfl') (by rfl') rfl (by rfl') (by rfl') rfl (by rfl')) rfl
   (bL rfl hrange %[1|ae])
   (λ_ _ _=>cg (au Kw (au Kt (pv 2) (au bp (au bp (pv 1) ag) (pv 0))) ag))) ae)))))),?_⟩
 obtain⟨m,hm⟩:∃m:Nat,2 ^ n.toNat=m:=%[|0]
 let s64:=jo (n:=n.toNat) #[0];rw[hm]at s64;let e64:(1:Int)*2 ^ n.toNat=(m:Int):=by
  rw[Int.one_mul,←hm];exact(wV0 2 n.toNat).symm
 erw[0,2,%[3,3|4],0,(by show -(2 ^ 62)<=(1:Int)*2 ^ n.toNat;rw[e64];omega),(by show(1:Int)*2 ^ n.toNat<2 ^ 62;rw[e64];omega),λD hD=>?_];rw[e64];let e3:((m:Int)).toNat=m:=#[0]
 rw[e3];apply dM (λi H'=>∃rs,H' D=some (.lst rs)/\TupsAt H' rs ((List.range i).map λk:Nat=>gG (k:Int) n.toNat)/\Same H H') %[[],ah,.nil|zE0 hD _] ?_ ?_
 . rintro i H2 hi ⟨rs,hrs,TB,S2⟩;erw[0,n,1,3,3,λD2 hD2=>?_];apply dM (λj H'=>H' D2=some (.lst (((List.range j).map λj:Nat=>(0+(i:Int)) / 2 ^ (n.toNat-1-j) % 2).map V.int))/\Same H2 H') %[by rw[ah];rfl|zE0 hD2 _] ?_ ?_
   . rintro j H3 hj ⟨hl,S3⟩;erw[0,0,2,0,2,2,(show(0:Int)<=n-1-(0+(j:Int)) by omega),2,_,hl,6,Nx.of hj %[6|λb o e=>?_]]
     . rw[zF0,zF0,qR0];exact aN #[0]
     . rw[ah,zZ1,zK0,zK0];show some (HO.lst (_++[V.int (Builtin.bitAnd ((0+(i:Int)) / 2 ^ (n-1-(0+(j:Int))).toNat) 1)]))=_;rw[PyProof.Rows.bitAnd_m1,show(n-1-(0+(j:Int))).toNat=n.toNat-1-j by omega];rfl
     . rw[aD (aO e hD2)];exact S3 _ _ e
   . rintro H3 ⟨hl,S3⟩;rw[BF,qZ1]at hl;erw[D2,0,.inl %[zG0 hl|λt ht=>?_]];let Gt:=zE0 ht (.tup ((gG (i:Int) n.toNat).map V.int));let S24:=S3.trans Gt;let rl:=TB.length;rw[zF0,qR0]at rl;let hD4:=S24 _ _ hrs;let k6:=dB (H:=upd H3 t (.tup ((gG (i:Int) n.toNat).map V.int))) (b:=D) (ys:=rs) (zs:=rs++[.ref t]) hD4;erw[_,hD4,aN #[0],Nx.of hi ⟨rs++[.ref t],ah,?_,λb o e=>?_⟩]
     . rw[zZ1,zK0];exact(TB.mono λa xs e=>k6 _ _ (S24 _ _ e)).snoc %[t,1|k6 _ _ ah]
     . rw[aD (aO e hD)];exact S24 _ _ (S2 _ _ e)
 . rintro H2 ⟨rs,hrs,TB,S2⟩;rw[←hm,←Ep]at TB;exact q D H2 hD S2 %[rs,hrs|TB]
def fq(ts:List Tr)(ns:List Str):List Int:=ts.map λt=>(cnt t ns:Int)
def lA(ts:List Tr)(ns:List Str):(fq ts ns).length=ts.length:=zF0 _
instance spLC:∀(sa sb:Addr)(sn:List Str)(tv:List V)(ts:List Tr),vs=[.ref sb,.ref sa]->H sa=some (.tup (sn.map V.str))->sn.length<=6->H sb=some (.tup tv)->TreesAt H tv ts->ts.length<=10->(∀t∈ts,t.ok sn/\t.depth<=10)->(∀(l:Addr)(H':Hp),H l=none->Same H H'->H' l=some (.lst ((fq ts sn).map V.int))->Q (.ref l) H'):=1
def xE:FnScope ["_law_trees","_law_switches","_law_settings_here"] Wz (aj ng):=%[|5]
def xS(F:#["_law_counts",ng])(B:Bl mg)(kC:#[1,"_law_settings",Wl,spSetts])(i7:#[12,"_law_holds",Wa,spLH 10]):#[13,f,fd,Wz,spLC]:=by
 exists xE
 erw[sa,sb,sn,tv,ts,1,hsa,sl6,hsb,TS,t10,tok,q]at h;refine⟨_,(ad (ao (i:=2) xE.nd rfl (Or.inr rfl) (ax kC hr ⋯ rfl %[aG aI rfl B.len zD1 %[1|ae]|ae]))
  (af (am (xK (N:=["_law_switches","_law_settings_here"]) (ix:=[1,2]) rfl
   (CompScopeO.two (by rfl') (λ_ _=>%[by rfl'|by rfl']) rfl ⋯ (by rfl') ⋯ (by first | exact Or.inl rfl | exact Or.inr rfl) (by rfl') (by rfl') (by rfl') (by rfl') rfl rfl (by rfl') rfl rfl) rfl
   (fh (pv 0)) (λ_ _ _=>cg (aG (DG K) rfl B.len zD1 (aa (cf (N:=["_law_switches","_law_tree_here"]) (ix:=[1,0]) rfl
    (CompScope.two (by rfl') ⋯ rfl ⋯ rfl ⋯ (by first | exact Or.inl rfl | exact Or.inr rfl) (by rfl') (by rfl') (by rfl') (by rfl') rfl (by rfl') (by rfl') rfl (by rfl')) rfl
    (ET K (pv 2)) (λ_ _ _=>EX (eI (ax i7 hr ⋯ rfl %[2,1,0|ae])) ag)) ae))))))),?_⟩
 let vl:=TS.length;let en:(((sn.map V.str).length:Nat):Int).toNat=sn.length:=by rw[zF0];omega
 erw[0,sa,0,.inr (zC0 hsa),0,3,by rw[zF0];omega,λr H1 r0 S1 R1=>?_];rw[en]at R1;erw[rs,hrs,TB]at R1;let rl:=TB.length;let sl:=gy sn.length;let s64:=jo sl6;erw[0,sb,1,%[_|zC0 (S1 _ _ hsb)],λD hD=>?_];apply eN (K:=K) (xs:=tv) (λi H'=>H' D=some (.lst ((fq (ts.take i) sn).map V.int))/\Same H1 H') %[by rw[ah];rfl|zE0 hD _] (λi H' _ h=>zC0 (h.2 _ _ (S1 _ _ hsb))) ?_ ?_
 . rintro i z H2 hz ⟨hl2,S2⟩;let%[t,ht|Tt]:=TS.get hz;let%[tk|td]:=tok t (qF0 ht);let hi:i<tv.length:=(Pj hz).1;let S02:=S1.trans S2;let hrs2:=S2 _ _ hrs;erw[0,r,1,%[_|zG0 hrs2],λD2 hD2=>?_];apply fc (K:=K) (xs:=rs) (λj H'=>∃ys,H' D2=some (.lst ys)/\ys.length=(((cH sn.length).take j).filter λst=>t.holds sn st).length/\Same H2 H') %[[],ah,1|zE0 hD2 _] (λi H' _ Pd=>by erw[_,_,_,h]at Pd;exact zG0 (h _ _ hrs2)) ?_ ?_
   . rintro j x H3 hx ⟨ys,hl3,yl,S3⟩;let hj:j<rs.length:=(Pj hx).1;let S13:=S2.trans S3;let S03:=S1.trans S13;let TB3:=TB.mono (aY S13);let%[st,Pd,b,1|hb]:=TB3.get hx;let stl:=eT _ _ (qF0 Pd);let tkn:((cH sn.length).take (j+1)).filter (λst=>t.holds sn st)=((cH sn.length).take j).filter (λst=>t.holds sn st)++[st].filter (λst=>t.holds sn st):=by
      rw[qC0,Pd,qQ1];rfl
     erw[0,0,0,z,t,sa,b,sn,st,1,Tt.mono (aY S03),tk,td,.inr (S03 _ _ hsa),hb,stl,λH4 S4=>%[0|6]];cases c:t.holds sn st with
     |true=>
       apply du ?_;erw[ys,S4 _ _ hl3,6,Nx.of hj %[_,ah,6|λb' o e=>?_]]
       . have:=jR0 (λst=>t.holds sn st) ((cH sn.length).take j)
         rw[qI0]at this;exact aN #[0]
       . rw [tkn,zJ0,zJ0,yl]
         simp [c]
       . rw[aD (aO e hD2)];exact S4 _ _ (S3 _ _ e)
     |false=>
       apply cE ?_;apply Nx.of hj %[ys,S4 _ _ hl3,6|S3.trans S4];rw[tkn,zJ0,yl]
       simp [c]
   . rintro H3 ⟨ys,hl3,yl,S3⟩;rw[rl,qB0]at yl;erw[D2,0,.inl (zG0 hl3),6];erw[_,S3 _ _ hl2,6,Nx.of hi %[6|λb' o' e'=>?_]]
     . rw[zF0,lA,qI0];exact aN #[0]
     . rw[ah,qC0,ht,yl];unfold fq;rw[zK0,zK0];rfl
     . rw[aD (aO e' hD)];exact S3 _ _ (S2 _ _ e')
 . rintro H2 ⟨hl2,S2⟩;rw[vl,qB0]at hl2;exact q D H2 (S1.free hD) (S1.trans S2) hl2
def Jk{ns:List Int}{k:Int}(h0:0<=k)(h:k<(ns.length:Int)):∃v:Int,atI (ns.map V.int) k=some (.int v)/\v∈ns:=by
 let hk:k.toNat<ns.length:=#[0]
 let q:atI (ns.map V.int) ((k.toNat:Nat):Int)=some (.int ns[k.toNat]):=cu (by rw[zY0,zL0 hk] <;> rfl);let ek:((k.toNat:Nat):Int)=k:=#[0]
 rw[ek]at q;erw[_,q,qP0 hk]
instance spClm64:∀(f c:Addr)(cs:List Int)(p:Int),vs=[.ref f,.ref c,.int p]->FeedAt H f->H c=some (.lst (cs.map V.int))->c≠f->cs.length<=10->(∀x∈cs,0<=x/\x<=100)->0<p->p<1000000->(∀(D:Addr)(xs:List Int)(H':Hp),H D=none->H' D=some (.lst (xs.map V.int))->xs.length=cs.length->(∀x∈xs,0<=x/\x<1000000000000)->FeedAt H' f->SameBut f H H'->Q (.ref D) H'):=1
def iW:FnScope ["_law_feed_here","_law_counts_here","_law_p","_law_claims_here","_law_count","_law_some"] W0 (aj nj):=%[|5]
def xT(F:#["_law_claims",nj])(aP:#[1,"_law_take",WI,spTake]):#[2,f,fd,W0,spClm64]:=by
 exists iW
 erw[f,c,cs,p,1,F0,hc,ncf,c10,cr,p0,p40,q]at h;refine⟨_,(ad #[ao,3,iW,bZ ae]
  (ad (cI zE1 rfl (dJ (pv 1)) (aX (i:=4) iW.nd rfl (.inl rfl)) (ad #[ao,5,iW,bZ %[4,4,au aV (pv 4) (pv 2),ax aP hr ⋯ rfl %[0,2|ae],ax aP hr ⋯ rfl %[0,ag|ae],au aV (pv 4) ag|ae]]
   (ad (bb (dZ zF1 zL1 zM1 cY (pv 5) %[ax aP hr ⋯ rfl %[0,au bp (au Fa ag ag) ag|ae]|ae]))
   (af (bb (dZ zF1 zL1 zM1 cY (pv 3) %[aM ix_list (pv 5) (ax aP hr ⋯ rfl %[0,ag|ae]) #[1]|ae]))))))
  (af (am (pv 3))))),?_⟩
 let hp12:(10:Int) ^ (12:Int).toNat=1000000000000:=by decide
 erw[y0S,λD hD=>?_];let GD:=zE0 hD (.lst []);let ncD:c≠D:=aO hc hD;let nDf:=F0.ne hD;refine⟨_,rfl,c,rfl,%[_|zG0 (GD _ _ hc)],iJ (K:=K) (xs:=cs.map V.int) (λi σ H'=>∃(x4 x5:Option V)(xs:List Int),σ=[some (.ref f),some (.ref c),some (.int p),some (.ref D),x4,x5]/\H' D=some (.lst (xs.map V.int))/\xs.length=i/\(∀x∈xs,0<=x/\x<1000000000000)/\FeedAt H' f/\SameBut f H H')
  %[_,_,[],1,ah,1,(λx hx=>by cases hx),F0.same GD|zM0 GD] (λi σ H' _ Pd=>by erw[_,_,_,_,_,_,_,_,h]at Pd;exact zG0 (h _ _ ncf hc)) ?_ ?_⟩
 . rintro i z σ H1 hz ⟨x4,x5,xs,rfl,hD1,xl,xr,F1,S1⟩;let hi:=(Pj hz).1;rw[zF0]at hi;rw[zY0]at hz;let%[n,hn|1]:=qT0 hz;let nr:=cr n (qF0 hn);erw[0,0,0,0,2,0,0,f,p,1,F1,p0,3,λd1 H2 a0 a1 F2 S2=>?_];erw[0,f,(40),1,F2,4,4,λd2 H3 b0 b1 F3 S3=>?_];erw[0,2,y6S,λL hL=>?_];let GL:=zE0 hL (.lst ([n,n,n+p,d1,d2,n+1].map V.int));let nLf:=F3.ne hL;let hL4:upd H3 L (.lst ([n,n,n+p,d1,d2,n+1].map V.int)) L=some (.lst ([n,n,n+p,d1,d2,n+1].map V.int)):=ah;let F4:=F3.same GL;let hD3:=S3 _ _ nDf (S2 _ _ nDf hD1);let nDL:D≠L:=aO hD3 hL;let hD4:=GL _ _ hD3;let S4:SameBut f H (upd H3 L (.lst ([n,n,n+p,d1,d2,n+1].map V.int))):=(S1.trans (S2.trans S3)).trans (zM0 GL);let nL0:H L=none:=by
    cases e:H L with
    |none=>rfl
    |some o=>
      have:=S3 _ _ nLf (S2 _ _ nLf (S1 _ _ nLf e))
      rw[hL]at this;cases this
   erw[0,.inl %[1,_|zG0 hL4],0,2,%[4,4|4],2,f,0,F4,(by show(0:Int)<10 ^ (12:Int).toNat-1;rw[hp12];decide),(by show(10:Int) ^ (12:Int).toNat-1<2 ^ 63;rw[hp12];decide),λd3 H5 e0 e1 F5 S5=>?_];rw[hp12]at e1;let hL5:=S5 _ _ nLf hL4;let hD5:=S5 _ _ nDf hD4;erw[L,2,hL5,aN (show 6<=1000 by decide),6];let F6:=jv (o:=.lst ([n,n,n+p,d1,d2,n+1].map V.int++[.int d3])) F5 nLf;let hL6:upd H5 L (.lst ([n,n,n+p,d1,d2,n+1].map V.int++[.int d3])) L=some (.lst ([n,n,n+p,d1,d2,n+1,d3].map V.int)):=ah;let hD6:upd H5 L (.lst ([n,n,n+p,d1,d2,n+1].map V.int++[.int d3])) D=some (.lst (xs.map V.int)):=by rw[aD nDL];exact hD5
   let S6:SameBut f H (upd H5 L (.lst ([n,n,n+p,d1,d2,n+1].map V.int++[.int d3]))):=λb o hb e=>by
    rw[aD (aO e nL0)];exact S5 b o hb (S4 b o hb e)
   generalize upd H5 L (.lst ([n,n,n+p,d1,d2,n+1].map V.int++[.int d3]))=H6 at F6 hL6 hD6 S6;erw[0,.inl %[1,_|zG0 hD6],0,0,f,(7),1,F6,4,4,λd4 H7 g0 g1 F7 S7=>?_];let%[v,hv|vm]:=Jk (ns:=[n,n,n+p,d1,d2,n+1,d3]) g0 g1;let vr:0<=v/\v<1000000000000:=by
    simp only[jD0,qS1,wX1]at vm;omega
   let hD7:=S7 _ _ nDf hD6;erw[L,_,2,zG0 (S7 _ _ nLf hL6),hv,D,2,hD7,6,6]
   . rw[zF0];exact aN #[0]
   erw[_,_,xs++[v],1,6,6,6,jv F7 nDf,λb o hb e=>?_]
   . rw[ah,zK0];rfl
   . rw[zJ0,qM0,xl]
   . intro x hx;rcases qN0 hx with h | h
     . exact xr x h
     . rw[Pg h];exact vr
   . rw[aD (aO e hD)];exact S7 b o hb (S6 b o hb e)
 . rintro σ H1 ⟨x4,x5,xs,rfl,hD1,xl,xr,F1,S1⟩;rw[zF0]at xl;erw[0,q D xs H1 hD hD1 xl xr F1 S1]
def jH:FnScope ["_law_p","_law_many","_law_found","_law_k"] W8 (aj pK):=%[|5]
def zO(F:#["_law_power",pK])(B:Bl mg):#[1,f,fd,W8,spPow]:=by
 exists jH
 erw[x,k,1,k0,k1,x0,x1,q]at h;refine⟨_,(ad #[ao,2,jH,ag]
  (ad (cI zE1 rfl (bL rfl B.range %[1|ae]) (aX (i:=3) jH.nd rfl (.inl rfl)) (af #[ao,2,jH,au cq (pv 2) (pv 0)]))
  (af (am (pv 2))))),?_⟩
 erw[0,k,1,3,3,dQ (n:=k.toNat) (λi σ H'=>∃x3:Option V,σ=[some (.int x),some (.int k),some (.int (x ^ i)),x3]/\H'=H) %[none,by rw[wY1];rfl|1] ?_ ?_]
 . rintro i σ H1 hi ⟨x3,rfl,rfl⟩;erw[0,0,2,.inr %[3|3],6];erw[some (.int (0+(i:Int))),6,1];rw[qJ1];rfl
 . rintro σ H1 ⟨x3,rfl,rfl⟩;erw[0,q]
def GameOk(C:Addr)(H:Hp)(g:Addr)(ns:List Str)(ts:List Tr)(p:Int):Prop:=∃(a b d:Addr)(tv:List V),GameAt C H g a b d p/\H a=some (.tup (ns.map V.str))/\ns.length<=6/\H b=some (.tup tv)/\TreesAt H tv ts/\ts.length<=10/\(∀t∈ts,t.ok ns/\t.depth<=12)
def GameOk.same(h:GameOk C H g ns ts p)(s:Same H H'):GameOk C H' g ns ts p:=by
 erw[a,b,d,tv,h1,h2,h3,h4,h5,h6]at h;erw[a,b,d,tv,h1.same s,s _ _ h2,h3,s _ _ h4,h5.mono (aY s),h6]
def Bh(s p:Int):∀c:List Int,hor s p c=evl s c % p
 | []=>(jL1 p).symm
 |a::r=>by
   show(hor s p r*s+a) % p=(a+s*evl s r) % p;rw[Bh s p r,qX1,qX0,Int.emod_emod_of_dvd _ (vJ0 p),←qX0,←qX1,qW1,vK0]
instance spDiff(C:Addr):∀(g l:Addr)(ns:List Str)(ts:List Tr)(xs:List Int)(p:Int),vs=[.ref g,.ref l]->GameOk C H g ns ts p->0<p->H l=some (.lst (xs.map V.int))->xs.length=ts.length->(∀(D:Addr)(H':Hp),H D=none->Same H H'->H' D=some (.lst (((ovr xs (fq ts ns)).map (· % p)).map V.int))->Q (.ref D) H'):=1
def rX:FnScope WD WD (aj jb):=%[|5]
def sY(F:#["differences",jb])(B:Bl mg)(T:GTxt K mg C)(fY:#[16,"counts_of",WC,spCounts C]):#[17,f,fd,WD,spDiff C]:=by
 exists rX
 erw[g,l,ns,ts,xs,p,1,G,p0,hl,xl,q]at h;refine⟨_,(af (am (xL (N:=WC) (ix:=[0]) rfl
  #[3] rfl ⋯ rfl
  (ER rfl B.zip %[1,ax fY hr ⋯ rfl %[0|ae]|ae])
  (λ_ _ _=>cg (au ba (au bp (pv 0) (pv 1)) (jY K (pv 2))))))),?_⟩
 erw[a,b,d,tv,GA,ha,nl,hb,TS,t10,tok]at G;erw[0,0,g,a,b,d,ns,tv,ts,p,1,GA,ha,nl,hb,TS,t10,tok,λc H1 c0 S1 hc=>?_];let hl1:=S1 _ _ hl;let cl:(fq ts ns).length=ts.length:=lA ts ns;let ol:(ovr xs (fq ts ns)).length=xs.length:=rh (xl.trans cl.symm);erw[dx,hg]at GA;erw[l,c,true,true,1,%[_|zG0 hl1],%[_|zG0 hc],λD hD=>?_];apply yA (K:=K) (c:=true) (d:=true) (xs:=xs.map V.int) (ys:=(fq ts ns).map V.int) (by rw[zF0,zF0,cl,xl]) (λi H'=>H' D=some (.lst ((((ovr xs (fq ts ns)).take i).map (· % p)).map V.int))/\Same H1 H') %[by rw[ah];rfl|zE0 hD _] (λi H' _ h=>%[zG0 (h.2 _ _ hl1)|zG0 (h.2 _ _ hc)]) ?_ ?_
 . rintro i x y t H2 hx hy ⟨hD2,S2⟩ ht;let hi:=(Pj hx).1;rw[zY0]at hx hy;let%[x',hx'|1]:=qT0 hx;let%[y',hy'|1]:=qT0 hy;let G2:=zE0 ht (.tup [.int x',.int y']);let S12:=S2.trans G2;erw[0,0,2,0,g,C,dx,_,0,S12 _ _ (S1 _ _ hg),9,T.nF,eZ ..,2,p0,6];erw[_,G2 _ _ hD2,6,Nx.of hi %[6|λb' o' e'=>?_]]
   . rw[zF0,zF0,qI0];exact aN #[0]
   . rw[ah,EY hx' hy',zK0,zK0];rfl
   . rw[aD (aO e' hD)];exact S12 _ _ e'
 . rintro H2 ⟨hD2,S2⟩;rw[zF0,←ol,qB0]at hD2;exact q D H2 (S1.free hD) (S1.trans S2) hD2
instance spAre(C:Addr):∀(g l:Addr)(ns:List Str)(ts:List Tr)(xs:List Int)(p:Int),vs=[.ref g,.ref l]->GameOk C H g ns ts p->0<p->H l=some (.lst (xs.map V.int))->xs.length=ts.length->(∀(H':Hp),Same H H'->Q (.bl (wrg p (ovr xs (fq ts ns)))) H'):=1
def vF:FnScope WD WD (aj lg):=%[|5]
def wC(F:#["are_wrong",lg])(B:Bl mg)(dX:#[17,"differences",WD,spDiff C]):#[18,f,fd,WD,spAre C]:=by
 exists vF
 erw[g,l,ns,ts,xs,p,1,G,p0,hl,xl,q]at h;refine⟨_,(af (am (aG (Hg rfl) rfl B.any DJ (aa (cf (N:=[]) (ix:=[]) (cl:=[]) rfl #[5] rfl
  (dJ (ax dX hr ⋯ rfl %[0,1|ae])) (λ_ _ _=>cg (dw lq (pv 0) ag (ay _)))) ae)))),?_⟩
 let t10:ts.length<=10:=by erw[_,_,_,_,_,_,_,_,_,h,_]at G;exact h
 let ol:(ovr xs (fq ts ns)).length=xs.length:=rh (xl.trans (lA ts ns).symm);erw[0,0,g,l,ns,ts,xs,p,1,G,p0,hl,xl,λc H1 c0 S1 hc=>?_];erw[c,1,%[_|zG0 hc],λD hD=>?_];apply fc (K:=K) (xs:=((ovr xs (fq ts ns)).map (· % p)).map V.int) (λi H'=>H' D=some (.lst (((((ovr xs (fq ts ns)).map (· % p)).take i).map λn=>!decide (n=0)).map V.bl))/\Same H1 H') %[by rw[ah];rfl|zE0 hD _] (λi H' _ h=>zG0 (h.2 _ _ hc)) ?_ ?_
 . rintro i z H2 hz ⟨hD2,S2⟩;let hi:=(Pj hz).1;rw[zY0]at hz;let%[n,hn|1]:=qT0 hz;erw[0,1,6];erw[_,hD2,6,Nx.of hi %[6|λb' o' e'=>?_]]
   . rw[zF0,zF0,qI0,zF0];exact aN #[0]
   . let e1:decide (V.int n=V.int 0)=decide (n=0):=by
      by_cases c:n=0
      . subst c;simp
      . rw[zB1 c,zB1 λz=>c (V.int.inj z)]
     rw[ah,qC0,hn,zK0,zK0];show some (HO.lst (_++[V.bl (!decide (V.int n=V.int 0))]))=_;rw[e1];rfl
   . rw[aD (aO e' hD)];exact S2 _ _ e'
 . rintro H2 ⟨hD2,S2⟩;rw[zF0,qB0]at hD2;erw[D,0,zG0 hD2,6];rw[Hq];exact q H2 (S1.trans S2)
instance spBlind(C:Addr):∀(g l:Addr)(ns:List Str)(ts:List Tr)(xs:List Int)(p:Int),vs=[.ref g,.ref l]->GameOk C H g ns ts p->0<p->p<1500->H l=some (.lst (xs.map V.int))->xs.length=ts.length->(∀(D:Addr)(H':Hp),H D=none->Same H H'->H' D=some (.lst ((kA p (ovr xs (fq ts ns))).map V.int))->Q (.ref D) H'):=1
def BZ{n:Nat}(h:n<=1500):n<sizeLine:=zJ1 h ⋯
def m8:FnScope ["game","claims","above"] WD (aj jf):=%[|5]
def tf(F:#["blind_spots",jf])(B:Bl mg)(T:GTxt K mg C)
 (mM:Meth K C "mix" fM)(GM:#[1,fM,fdM,WM,spMix C])(bM:Binds K fdM WM [])(dX:#[17,"differences",WD,spDiff C]):#[18,f,fd,WD,spBlind C]:=by
 exists m8
 erw[g,l,ns,ts,xs,p,1,G,p0,p15,hl,xl,q]at h;let hr1:Room 1 _:=hr.mono ⋯;refine⟨_,(ad (ao (i:=2) m8.nd rfl (Or.inr rfl) (ax dX hr ⋯ rfl %[0,1|ae]))
  (af (am (cf (N:=["game","above"]) (ix:=[0,2]) rfl
   #[4] rfl
   (bL rfl B.range %[az (pv 0) rfl|ae]) (λ_ _ _=>EX (ai aQ (bK (pv 1) T.cl mM GM hr1 bM .nil aZ %[2,0|ae]) ag (ay _)) (pv 0)))))),?_⟩
 erw[0,0,g,l,ns,ts,xs,p,1,G,p0,hl,xl,λc H1 c0 S1 hc=>?_];let G1:=G.same S1;erw[a,b,d,tv,%[dx|hg],_]at G1;let nomix:(gf a b p d).lookup ("mix":Str)=none:=qH _ _ _ _ ⋯ ⋯ ⋯ ⋯;erw[0,g,C,dx,_,0,hg,9,T.nF,eZ ..,p,1,3,3,λD hD=>?_];apply dM (n:=p.toNat) (λi H'=>H' D=some (.lst ((fnd (λs=>decide (evl (s:Int) (ovr xs (fq ts ns)) % p=0)) i).map V.int))/\Same H1 H') %[by rw[ah];rfl|zE0 hD _] ?_ ?_
 . rintro i H2 hi ⟨hD2,S2⟩;erw[0,g,dx,0,S2 _ _ hg,nomix,6];erw[0,0,g,a,b,d,c,_,0+(i:Int),p,1,%[dx|S2 _ _ hg],p0,3,.inl (S2 _ _ hc),6];erw[1,0,6];let ei:hor (0+(i:Int)) p ((ovr xs (fq ts ns)).map (· % p))=evl (i:Int) (ovr xs (fq ts ns)) % p:=by rw[Bh,Bq,qZ1]
   rw[ei]
   by_cases e:evl (i:Int) (ovr xs (fq ts ns)) % p=0
   . apply aW (by rw[e]) ?_;erw[0,_,hD2,6,Nx.of hi %[6|λb' o' e'=>?_]]
     . rw [zF0]
       have:=Bk (λs=>decide (evl (s:Int) (ovr xs (fq ts ns)) % p=0)) i
       exact BZ #[0]
     . rw[ah,tS,zC1 e,O9 rfl,zK0,qZ1];rfl
     . rw[aD (aO e' hD)];exact S2 _ _ e'
   . apply aE (λz=>e (V.int.inj z)) ?_;apply Nx.of hi %[6|S2];rw[tS,zB1 e,O8 qH0,qV1];exact hD2
 . rintro H2 ⟨hD2,S2⟩;exact q D H2 (S1.free hD) (S1.trans S2) hD2
def GameD(C:Addr)(H:Hp)(g d:Addr)(ns:List Str)(ts:List Tr)(p:Int):Prop:=∃(a b:Addr)(tv:List V),GameAt C H g a b d p/\H a=some (.tup (ns.map V.str))/\ns.length<=6/\H b=some (.tup tv)/\TreesAt H tv ts/\ts.length<=10/\(∀t∈ts,t.ok ns/\t.depth<=12)/\H d=some (.lst ((ns.map (bm ts)).map V.int))/\(∀x∈ns,-(2 ^ 40)<bm ts x/\bm ts x<p)
def GameD.ok(h:GameD C H g d ns ts p):GameOk C H g ns ts p:=by
 erw[a,b,tv,h1,h2,h3,h4,h5,h6,h7,_]at h;erw[a,b,d,tv,h1,h2,h3,h4,h5,h6,h7]
def GameD.same(h:GameD C H g d ns ts p)(s:Same H H'):GameD C H' g d ns ts p:=by
 erw[a,b,tv,h1,h2,h3,h4,h5,h6,h7,h8,h9]at h;erw[a,b,tv,h1.same s,s _ _ h2,h3,s _ _ h4,h5.mono (aY s),h6,h7,s _ _ h8,h9]
def GameD.but{f:Addr}(h:GameD C H g d ns ts p)(hf:∃xs,H f=some (.lst xs))(hn:d≠f)(s:SameBut f H H'):GameD C H' g d ns ts p:=by
 erw[a,b,tv,%[dx|h1],h2,h3,h4,h5,h6,h7,h8,h9]at h;erw[xs,hf]at hf;let n:∀{c:Addr}{o:HO},H c=some o->(∀ys,o≠.lst ys)->c≠f:=fun{c o} hc hn z=>by
  rw[z,hf]at hc;exact hn _ (zS0 hc).symm
 erw[a,b,tv,%[dx|s _ _ (n h1 (λys z=>by cases z)) h1],s _ _ (n h2 (λys z=>by cases z)) h2,h3,s _ _ (n h4 (λys z=>by cases z)) h4,h5.mono (λc xs hc=>s _ _ (n hc (λys z=>by cases z)) hc),h6,h7,s _ _ hn h8,h9]
def GameD.gm(h:GameD C H g d ns ts p):Gm C H g ns ts p/\ns.length<=6:=by
 erw[a,b,tv,h1,h2,h3,h4,h5,_,_,h8,_]at h;erw[%[a,b,d,tv,h1,h2,h4,h5|h8],h3]
instance spCaught(C:Addr):∀(g d:Addr)(ns:List Str)(ts:List Tr)(p:Int),vs=[.ref g]->GameD C H g d ns ts p->0<p->p<1500->Q (.int (cgt p (ns.map (bm ts)))) H:=1
def gh:FnScope ["game","told","degree"] WC (aj je):=%[|5]
def sZ(F:#["caught_rows",je])(T:GTxt K mg C):#[1,f,fd,WC,spCaught C]:=by
 exists gh
 erw[g,d,ns,ts,p,1,%[a,b,tv,%[dx|hg],ha,nl,hb,TS,t10,tok,hd|dr],p0,p15,q]at h;refine⟨_,(ad #[ao,1,gh,ag]
  (ad (cI zE1 rfl (dJ (az (pv 0) rfl)) (aX (i:=2) gh.nd rfl (.inl rfl)) (af #[ao,1,gh,au cq (pv 1) (au bp (az (pv 0) rfl) (pv 2))]))
  (af (am (pv 1))))),?_⟩
 erw[0,g,C,dx,_,0,hg,9,T.nD,Bi ..,d,1,%[_|zG0 hd],iJ (K:=K) (xs:=(ns.map (bm ts)).map V.int) (λi σ H'=>∃x2:Option V,σ=[some (.ref g),some (.int (cgt p ((ns.map (bm ts)).take i))),x2]/\H'=H) %[0|1] (λi σ H' _ Pd=>by erw[_,_,h]at Pd;subst h;exact zG0 hd) ?_ ?_]
 . rintro i z σ H1 hz ⟨x2,rfl,rfl⟩;rw[zY0]at hz;let%[n,hn|1]:=qT0 hz;let nr:-(2 ^ 40)<n/\n<p:=by
    let%[x,hx|1]:=List.mem_map.mp (qF0 hn);exact dr x hx
   let et:cgt p ((ns.map (bm ts)).take (i+1))=cgt p ((ns.map (bm ts)).take i)*(p-n):=by
    rw[qC0,hn];exact Hf p _ n
   erw[0,0,g,C,dx,_,0,hg,9,T.nF,eZ ..,0,2,2,.inr %[3|3],6];erw[some (.int n),6,1];rw[et];rfl
 . rintro σ H1 ⟨x2,rfl,rfl⟩;rw[zF0,qB0];erw[0,q]
instance spLet(C:Addr):∀(g d l:Addr)(ns:List Str)(ts:List Tr)(xs:List Int)(p:Int),vs=[.ref g,.ref l]->GameD C H g d ns ts p->0<p->p<1500->H l=some (.lst (xs.map V.int))->xs.length=ts.length->(∀(H':Hp),Same H H'->Q (.int (wI p ns.length ts.length (cgt p (ns.map (bm ts))) (ovr xs (fq ts ns)))) H'):=1
def fK:FnScope ["game","claims","rows","by_chance","blind"] WD (aj gB):=%[|5]
def oK(F:#["let_by_at_most",gB])(B:Bl mg)(T:GTxt K mg C)(jI:#[1,"power",Wu,spPow])(cX:#[2,"rows_of_coins",WC,spRowsC C])(jm:#[1,"caught_rows",WC,spCaught C])
 (f6:#[18,"are_wrong",WD,spAre C])(jB:#[18,"blind_spots",WD,spBlind C]):#[19,f,fd,WD,spLet C]:=by
 exists fK
 erw[g,d,l,ns,ts,xs,p,1,G,p0,p15,hl,xl,q]at h;refine⟨_,(ad (aJ (hZ (eI (ax f6 hr ⋯ rfl %[0,1|ae]))) (af (am (ax cX hr ⋯ rfl %[0|ae]))) aB)
  (ad #[ao,2,fK,ax jI hr ⋯ rfl %[az (pv 0) rfl,aG aI rfl B.len zD1 %[az (pv 0) rfl|ae]|ae]]
  (ad #[ao,3,fK,au bp (pv 2) (ax jm hr ⋯ rfl %[0|ae])]
  (ad (aJ (ai aQ (aG aI rfl B.len zD1 %[az (pv 0) rfl|ae]) ag (ay _)) (af (am (pv 3))) aB)
  (ad #[ao,4,fK,aG aI rfl B.len zD1 %[ax jB hr ⋯ rfl %[0,1|ae]|ae]]
  (af (am (au aV (au cq (pv 4) (pv 2)) (au cq (au bp (az (pv 0) rfl) (pv 4)) (pv 3)))))))))),?_⟩
 erw[0,0,g,l,ns,ts,xs,p,1,G.ok,p0,hl,xl,λH1 S1=>%[0|6]];let G1:=G.same S1;let q1:=q H1 S1;unfold wI at q1;cases W:wrg p (ovr xs (fq ts ns))with
 |false=>
   rw[W,O8 qH0]at q1;apply du ?_;erw[0,g,ns,ts,p,1,G1.gm.1,G1.gm.2,p0,3,q1]
 |true=>
   rw[W,O9 rfl]at q1;apply cE ?_;let%[a,b,tv,%[dx|hg],ha,nl,hb,TS,t10,tok,hd|dr]:=id G1;let vl:=TS.length;erw[0,g,C,dx,_,0,hg,9,T.nF,eZ ..,0,g,C,dx,_,0,hg,9,T.nS,oW ..,a,0,.inr (zC0 ha),p,0,3,by rw[zF0];omega,p0,3,6];let en:(((ns.map V.str).length:Nat):Int).toNat=ns.length:=by rw[zF0];omega
   rw[en];erw[0,0,g,d,ns,ts,p,1,G1,p0,p15,2,6];erw[0,g,C,dx,_,0,hg,9,T.nT,my ..,b,0,.inr (zC0 hb),1,0,6]
   by_cases c:V.int (tv.length:Int)=V.int 1
   . apply aW c ?_;let c':ts.length=1:=by have:=V.int.inj c;omega
     rw[O9 c']at q1;erw[0,q1]
   . apply aE c ?_;let c':¬ ts.length=1:=λz=>c (by rw[vl,z];rfl)
     erw[0,0,g,l,ns,ts,xs,p,1,G1.ok,p0,p15,S1 _ _ hl,xl,λD H2 D0 S2 hD=>?_];let q2:=q H2 (S1.trans S2);unfold wI at q2;rw[W,O9 rfl,O8 c']at q2;let bl:=Bk (λs=>decide (evl (s:Int) (ovr xs (fq ts ns)) % p=0)) p.toNat;let bl':(kA p (ovr xs (fq ts ns))).length<=p.toNat:=bl;erw[D,0,.inl (zG0 hD),6];rw[zF0];erw[0,0,2,.inl %[3|3],0,g,C,dx,_,0,S2 _ _ hg,T.cl,T.nF,eZ ..,0,2,0,2,.inl %[3|3],2,q2]
def pr_5:Pr 5:=AU ⋯
instance spLeast:∀(a b:Addr)(ns:List Str)(tv:List V)(ts:List Tr),vs=[.ref a,.ref b]->H a=some (.lst (ns.map V.str))->H b=some (.lst tv)->TreesAt H tv ts->ts.length<=10->(∀t∈ts,t.wf/\t.depth<=10/\t.size<=400)->(∀(p:Int)(H':Hp),Same H H'->Pr p->2<p->p<=999983->(ns=[]->ts.length<=4->p<=5)->(ts.length:Int)<=p->(∀t∈ts,∀x∈ns,(t.names.count x:Int)<p)->Q (.int p) H'):=1
def o5:FnScope ["_law_names_here","_law_trees","_law_number"] WV (aj pM):=%[|5]
def zQ(F:#["_law_least",pM])(C2:#[13,"_law_need",WV,spNeed])(kE:#[1,"_law_is_prime",["_law_number"],spPrimeB]):#[14,f,fd,WV,spLeast]:=by
 exists o5
 erw[a,b,ns,tv,ts,1,ha,hb,TS,tl,tok,q]at h;refine⟨_,(ad #[ao,2,o5,au aV (ax C2 hr ⋯ rfl %[0,1|ae]) ag]
  (ad (iF zE1 (hZ (eI (ax kE hr ⋯ rfl %[2|ae]))) (af #[ao,2,o5,au aV (pv 2) ag]))
  (af (am (pv 2))))),?_⟩
 erw[0,0,a,b,ns,tv,ts,1,ha,hb,TS,tl,tok,λm H1 S1 m2 m4 me mt mc=>?_];erw[2,6];erw[λmm σ H'=>∃n:Int,σ=[some (.ref a),some (.ref b),some (.int n)]/\H'=H1/\m<n/\n<=999983/\(m<=3->n<=5)/\mm=(999983-n).toNat,%[_,m+1,1,1,3,3,3|1],6];rintro mm σ H' ⟨n,rfl,rfl,n0,n1,n5,rfl⟩;erw[0,n,1,λb hb=>%[b,1|6]];cases b with
 |true=>
   apply cE ?_;erw[0,q n _ S1 (hb.mp rfl) #[0] n1 (λe f=>n5 (me e f)) #[0] λt ht x hx=>by have:=mc t ht x hx;omega]
 |false=>
   apply du ?_;erw[_,λ_ _ h=>h,6];let ne:n≠999983:=λz=>by
    subst z;exact nomatch hb.mpr Co
   let ne5:n≠5:=λz=>by
    subst z;exact nomatch hb.mpr pr_5
   erw[0,2,6];erw[_,3,n+1,1,1,3,3,3,1]
def Tr.without(x:Str):Tr->Tr
 |.is y=>if y=x then .yes else .is y
 |.yes=>.yes
 |.no=>.no
 |.not a=>.not (a.without x)
 |.bin w a b=>.bin w (a.without x) (b.without x)
def qX(x:Str):∀t:Tr,(t.without x).size=t.size
 |.is y=>by unfold Tr.without;split <;> rfl
 |.yes=>rfl
 |.no=>rfl
 |.not a=>by show(a.without x).size+1=a.size+1;rw[qX x a]
 |.bin w a b=>by show(a.without x).size+(b.without x).size+1=_;rw[qX x a,qX x b];rfl
def nU(x:Str):∀t:Tr,(t.without x).depth=t.depth
 |.is y=>by unfold Tr.without;split <;> rfl
 |.yes=>rfl
 |.no=>rfl
 |.not a=>by show(a.without x).depth+1=a.depth+1;rw[nU x a]
 |.bin w a b=>by show max (a.without x).depth (b.without x).depth+1=_;rw[nU x a,nU x b];rfl
def AA{ns:List Str}{x:Str}:∀t:Tr,t.ok (ns++[x])->(t.without x).ok ns
 |.is y,h=>by
   unfold Tr.without
   split
   . trivial
   . rename_i c;let h:y∈ns++[x]:=h;rcases qN0 h with h | h
     . exact h
     . exact absurd (Pg h) c
 |.yes,_=>trivial
 |.no,_=>trivial
 |.not a,h=>AA a h
 |.bin w a b,⟨h1,h2,h3⟩=>%[h1,AA a h2|AA b h3]
def wL(o:Str):inV (.str o) [.str "is",.str "yes",.str "no"]=(decide (o="is")||(decide (o="yes")||decide (o="no"))):=by
 show (("is"==o)||(("yes"==o)||(("no"==o)||false)))=_;rw[vD1];let e:∀z:Str,(z==o)=decide (o=z):=λz=>by
  by_cases c:o=z
  . subst c;simp
  . rw[zB1 c];simpa using λh=>c h.symm
 rw[e,e,e]
def IT{o:Str}(h:o∈pz):inV (.str o) [.str "is",.str "yes",.str "no"]=false:=by
 rw[wL,zB1,zB1,zB1]
 . rfl
 . intro z;subst z;revert h;decide
 . intro z;subst z;revert h;decide
 . intro z;subst z;revert h;decide
def isD(x:Str):Tr->Bool
 |.is y=>decide (y=x)
 |_=>false
def KY(t:Tr)(x:Str)(w:t.wf):PyData.eqv t.data (.tuple [.str "is",.str x])=isD x t:=by
 cases t with
 |is y=>
   simp only[Tr.data,PyData.eqv,PyData.eqvAll,isD,Bool.and_true]
   by_cases c:y=x
   . subst c;simp
   . simp [c]
 |yes=>simp [Tr.data,PyData.eqv,PyData.eqvAll,isD]
 |no=>simp [Tr.data,PyData.eqv,PyData.eqvAll,isD]
 |not a=>
   have:(("not":Str)=="is")=false:=by decide
   simp only[Tr.data,PyData.eqv,PyData.eqvAll,isD,this,Bool.false_and]
 |bin o a b=>simp [Tr.data,PyData.eqv,PyData.eqvAll,isD]
def qp{t:Tr}(w:t.wf)(d:t.depth<=20):SeqAt.shaped t.data=true:=by
 let h:=rD t w;simp only[SeqAt.shaped,h.1,Bool.true_and];exact zC1 #[0]
def zo(h:qk x):SeqAt.shaped (.tuple [.str "is",.str x])=true:=qp (t:=.is x) h (by show 1<=20;decide)
instance spWo(n:Nat):∀(v:V)(t:Tr)(x:Str),vs=[v,.str x]->TreeAt H v t->t.wf->qk x->t.depth<=n->t.depth<=10->(∀(v':V)(H':Hp),Same H H'->TreeAt H' v' (t.without x)->Q v' H'):=1
def vy:FnScope WQ WQ (aj iQ):=%[|5]
def HC{H:Hp}{a:Addr}{o:Str}{t:Tr}{us:List V}(h:∃xs,t.parts.length=xs/\1<=xs)(nt:(∃r,t=.not r/\o="not")∨∃r r2,t=.bin o r r2)(ha:H a=some (.tup (.str o::us)))(TS:TreesAt H us (t.parts.map (Tr.without x))):TreeAt H (.ref a) (t.without x):=by
 rcases nt with⟨r,rfl,rfl⟩ | ⟨r,r2,rfl⟩
 . cases TS with
   |cons g r=>cases r;exact .not ha g
 . cases TS with
   | cons g r=>cases r with
     |cons g2 r=>cases r;exact .bin ha g g2
def HB{n:Nat}(F:#["_law_without",iQ])(B:Bl mg)(gH:#[n+2,"_law_without",WQ,spWo n]):#[n+3,f,fd,WQ,spWo (n+1)]:=by
 exists vy
 erw[v,t,x,1,T,wf,nx,dn,d10,q]at h;refine⟨_,(ad (aJ (ai (wo hr.units) (pv 0) (aS %[aF,1|ae]) (ay _)) (af (am (aS %[aF|ae]))) aB)
  (ad (aJ (ai dP (aM ix_tup (pv 0) ag #[1]) (aS %[aF,aF,aF|ae]) (by rfl')) (af (am (pv 0))) aB)
  (af (am (au op_catT (aS %[aM ix_tup (pv 0) ag #[1]|ae]) (bc bh rfl B.tuple bi (aa (cf (N:=["_law_name"]) (ix:=[1]) rfl
   #[3] rfl
   (fh (eJ pB (pv 0) (eP ag) ig)) (λ_ _ _=>cg (ax gH hr (zH0 _) rfl %[0,1|ae]))) ae))))))),?_⟩
 erw[0,0,y2S,λc hc=>?_];let I1:=zE0 hc (.tup [.str "is",.str x]);let g1:upd H c (.tup [.str "is",.str x]) c=some (.tup [.str "is",.str x]):=ah;generalize upd H c (.tup [.str "is",.str x])=H1 at I1 g1;let T1:=T.mono (aY I1);erw[t.data,.tuple [.str "is",.str x],EK T1,.tup (zC0 g1) (.cons (.str _) (.cons (.str _) .nil)),qp wf #[0],zo nx,0,6];rw[KY t x wf];let cs:t=.is x∨(∃(a:Addr) (o:Str) (us:List V),v=.ref a/\H1 a=some (.tup (.str o::us))/\inV (.str o) [.str "is",.str "yes",.str "no"]=true/\t.without x=t/\isD x t=false)∨(∃(a:Addr) (o:Str) (us:List V),v=.ref a/\H1 a=some (.tup (.str o::us))/\o∈pz/\us.length<=2/\us≠[]/\TreesAt H1 us t.parts/\((∃r,t=.not r/\o="not")∨∃r r2,t=.bin o r r2)/\isD x t=false):=by
  cases id T1 with
  | @is a y e=>
    by_cases c:y=x
    . exact .inl (by rw[c])
    . exact .inr (.inl %[a,"is",0,e,by rw[wL];decide,O8 c|zB1 c])
  | @yes a e=>exact .inr (.inl %[a,"yes",0,e,by rw[wL];decide,1|1])
  | @no a e=>exact .inr (.inl %[a,"no",0,e,by rw[wL];decide,1|1])
  | @not a u r e g=>exact .inr (.inr %[a,"not",[u],1,e,4,(by show 1<=2;decide),by simp,.cons g .nil,.inl %[r,1|1]|1])
  | @bin a o u u2 r r2 e g g2=>exact .inr (.inr %[a,o,[u,u2],1,e,qF wf.1,(by show 2<=2;decide),by simp,.cons g (.cons g2 .nil),.inr %[r,r2|1]|1])
 rcases cs with rfl | ⟨a,o,us,rfl,e2,e3,e4,eD⟩ | ⟨a,o,us,rfl,e2,om,ul,u0,TS0,nt,eD⟩
 . rw[show isD x (.is x)=true from zC1 rfl];apply du %[y1S|λz hz=>q (.ref z) _ (I1.trans (zE0 hz _)) ?_];rw[show(Tr.is x).without x=.yes from O9 rfl];exact .yes ah
 . rw [eD];apply cE ?_;erw[0,a,_,(0),.str o,1,1,zC0 e2,at0 ..,y3S,λc2 hc2=>?_];let I2:=zE0 hc2 (.tup [.str "is",.str "yes",.str "no"]);erw[c2,0,.inr (zC0 ah),1,1,0,6];show if inV (.str o) [.str "is",.str "yes",.str "no"]=true then _ else _
   rw[e3];apply du %[0|q _ _ (I1.trans I2) ?_];rw[e4];exact T1.mono (aY I2)
 . rw [eD];apply cE ?_;erw[0,a,_,(0),.str o,1,1,zC0 e2,at0 ..,y3S,λc2 hc2=>?_];let I2:=zE0 hc2 (.tup [.str "is",.str "yes",.str "no"]);erw[c2,0,.inr (zC0 ah),1,1,0,6];show if inV (.str o) [.str "is",.str "yes",.str "no"]=true then _ else _
   rw[IT om];apply cE ?_;generalize upd H1 c2 (.tup [.str "is",.str "yes",.str "no"])=H2 at I2;erw[0,a,_,(0),.str o,1,1,zC0 (I2 _ _ e2),at0 ..,y1S,λc3 hc3=>?_];let I3:=zE0 hc3 (.tup [.str o]);let g3:upd H2 c3 (.tup [.str o]) c3=some (.tup [.str o]):=ah;generalize upd H2 c3 (.tup [.str o])=H3 at I3 g3;let I13:=I2.trans I3;let%[w1|w2]:=Jb (.str o) us ul;erw[0,(1),1,a,0,zC0 (I13 _ _ e2),w2,λc4 hc4=>?_];rw[w1];let I4:=zE0 hc4 (.tup us);let g4:upd H3 c4 (.tup us) c4=some (.tup us):=ah;generalize upd H3 c4 (.tup us)=H4 at I4 g4;let I14:=I13.trans I4;let TS:=TS0.mono (aY I14);let xl:=TS.length;erw[c4,1,%[_|zC0 g4],λD hD=>?_];apply eN (K:=K) (xs:=us) (λi H'=>∃vs:List V,H' D=some (.lst vs)/\vs.length=i/\TreesAt H' vs ((t.parts.take i).map (Tr.without x))/\Same H4 H') %[[],by rw[ah],1,.nil|zE0 hD _] (λi H' _ Pd=>by erw[_,_,_,_,h]at Pd;exact zC0 (h _ _ g4)) ?_ ?_
   . rintro i z H5 hz ⟨vs,hl,vl,TV,S5⟩;let%[u,hu'|Tu]:=TS.get hz;let um:=qF0 hu';let%[uw,ud|us']:=Tr.parts_mem um wf;let hi:i<us.length:=(Pj hz).1;erw[0,0,z,u,x,1,Tu.mono (aY S5),uw,nx,3,3,λv' H6 S6 T6=>?_];let hl6:=S6 _ _ hl;let k7:=dB (H:=H6) (b:=D) (ys:=vs) (zs:=vs++[v']) hl6;erw[_,hl6,aN #[0],Nx.of hi ⟨vs++[v'],ah,by rw[zJ0,vl];rfl,?_,λb' o' e'=>?_⟩]
     . rw[qC0,hu',zK0];exact((TV.mono (aY S6)).mono k7).append (.cons (T6.mono k7) .nil)
     . rw[aD (aO e' hD)];exact S6 _ _ (S5 _ _ e')
   . rintro H5 ⟨vs,hl,vl,TV,S5⟩;rw[xl,qB0]at TV;erw[D,0,.inl %[zG0 hl|λc6 hc6=>?_]];let I6:=zE0 hc6 (.tup vs);let g6:upd H5 c6 (.tup vs) c6=some (.tup vs):=ah;generalize upd H5 c6 (.tup vs)=H6 at I6 g6;let v0:vs≠[]:=λz=>by
      rw[z]at vl;exact u0 (List.eq_nil_of_length_eq_zero vl.symm)
     let S36:Same H3 H6:=I4.trans (S5.trans I6);erw[c3,c6,2,zC0 (S36 _ _ g3),zC0 g6,by simp,cx (by show 1+vs.length<=1000;omega),λz=>absurd z v0,λ_ t7 ht7=>?_];let I7:=zE0 ht7 (.tup ([.str o]++vs));apply q (.ref t7) _ (I1.trans (I13.trans (I4.trans (S5.trans (I6.trans I7))))) ?_;exact HC ⟨_,rfl,by rw[←xl];cases us with | nil=>exact absurd rfl u0 | cons _ _=>exact zG1 (zW0 _)⟩ nt (by rw[ah];rfl) ((TV.mono (aY I6)).mono (aY I7))
def HA:#[2,f,fd,WQ,spWo 0]:=by
 let no:∀vs H Q E,¬ spWo 0 vs H Q E:=λvs H Q E h=>by
  erw[v,t,x,_,_,_,_,h1,_]at h
  have:=t.depth_pos
  omega
 exists 3
def oM(F:#["_law_without",iQ])(m:mg "_law_without"=some (.ref f))(B:Bl mg):
 ∀n:Nat,#[n+2,f,fd,WQ,spWo n]
 |0=>HA
 |n+1=>HB F B (Cal.of F (oM F m B n) m (λ_ _ _ _ _ _ us hl=>by let%[u0,u1|1]:=Dd hl;rfl))
structure SmallG(ns:List Str)(ts:List Tr)(p:Int):Prop where
 nl:ns.length<=5
 nok:∀x∈ns,qk x
 nd:ns.Nodup
 t1:1<=ts.length
 t4:ts.length<=4
 tok:∀t∈ts,t.ok ns/\t.depth<=9/\t.size<=8
 pp:Pr p
 p2:2<p
 p9:p<=999983
 p5:ns=[]->p<=5
 tp:(ts.length:Int)<=p
 tc:∀t∈ts,∀x∈ns,(t.names.count x:Int)<p
def SmallG.ne(h:SmallG ns ts p)(hp:¬ p ^ bu ns ts<=130):ns≠[]:=λz=>by
 let p5:=h.p5 z;let p2:=h.p2;apply hp ?_
 have:bu ns ts=0∨bu ns ts=1:=by
  unfold bu;rw[z]
  split
  . exact .inl rfl
  . exact .inr rfl
 rcases this with e | e <;> rw[e]
 . show p ^ 0<=130;rw[wY1];decide
 . rw[qJ1,wY1];omega
instance spSmall:∀(f:Addr),vs=[.ref f,.int 130,.int 8]->FeedAt H f->(∀(g a b:Addr)(ns:List Str)(tv:List V)(ts:List Tr)(p:Int)(H':Hp),H' g=some (.tup [.ref a,.ref b,.int p])->H' a=some (.tup (ns.map V.str))->H' b=some (.tup tv)->TreesAt H' tv ts->SmallG ns ts p->p ^ bu ns ts<=130->FeedAt H' f->SameBut f H H'->Q (.ref g) H'):=1
def fe:FnScope ["_law_feed_here","_law_most","_law_room","_law_names_here","_law_trees","_law_p","_law_turn"] W9 (aj pJ):=%[|5]
def SmallG.wf{ns:List Str}{ts:List Tr}(nok:∀x∈ns,qk x)(tok:∀t∈ts,t.ok ns/\t.depth<=9/\t.size<=8):∀t∈ts,t.wf/\t.depth<=10/\t.size<=400:=λt ht=>%[Tr.ok_wf nok t (tok t ht).1,by have:=(tok t ht).2.1;omega|by have:=(tok t ht).2.2;omega]
def JS{ns:List Str}{x:Str}{ts:List Tr}(tok:∀t∈ts,t.ok (ns++[x])/\t.depth<=9/\t.size<=8):∀t∈ts.map (Tr.without x),t.ok ns/\t.depth<=9/\t.size<=8:=λt ht=>by
 let%[u,hu|1]:=List.mem_map.mp ht;let%[h1,h2|h3]:=tok u hu;erw[AA u h1,by rw[nU];exact h2,by rw[qX];exact h3]
def Ha(xs:List V)(a:V):jg (xs++[a]) none (some (-1))=xs:=by
 simp only[jg,HT.sIx,zJ0,zR0,zH1];let e:(-1+(((xs.length+(0+1):Nat)):Int)).toNat=xs.length:=#[0]
 simp
 let e2:(-1+((xs.length:Int)+1)).toNat=xs.length:=#[0]
 rw[e2]
 simp
def Jj(xs:List V)(a:V):atI (xs++[a]) (-1)=some a:=by
 unfold atI ixN;rw[zJ0,qM0];let e2:(-1+(((xs.length+1:Nat)):Int)).toNat=xs.length:=#[0]
 rw[O8 ⋯,O9 #[0],e2];show(xs++[a])[xs.length]?=some a
 simp
def zN(F:#["_law_small",pJ])(B:Bl mg)(aP:#[1,"_law_take",WI,spTake])(r8:#[2,"_law_names",WI,spNamesN])
 (gR:#[12,"_law_tree",WS,spTree 10])(kM:#[14,"_law_least",WV,spLeast])(r9:#[1,"_law_power",W8,spPow])(gH:#[12,"_law_without",WQ,spWo 10]):#[15,f,fd,W9,spSmall]:=by
 exists fe
 erw[f,1,hF,q]at h;refine⟨_,(ad (ao (i:=3) fe.nd rfl (Or.inr rfl) (ax r8 hr ⋯ rfl %[0,ax aP hr ⋯ rfl %[0,ag|ae]|ae]))
  (ad (oE (i:=4) (N:=["_law_room","_law_names_here","_law_feed_here"]) (ix:=[2,3,0]) fe.nd rfl (.inl rfl) rfl
   (CompScope.three (by rfl') ⋯ rfl ⋯ rfl ⋯ rfl (by rfl') (by rfl') (by rfl') (by rfl') (by rfl') rfl rfl (by rfl') rfl rfl (by rfl') rfl rfl) rfl
   (bL rfl B.range %[aM ix_list (bZ %[ag,ag,ag,ag,ag|ae]) (ax aP hr ⋯ rfl %[0,ag|ae]) #[1]|ae])
   (λ_ _ _=>cg (ax gR hr ⋯ rfl %[3,2,au aV ag (ax aP hr ⋯ rfl %[3,1|ae]),ag|ae])))
  (ad #[ao,5,fe,ax kM hr ⋯ rfl %[3,4|ae]]
  (ad (cI zE1 rfl (bL rfl B.range %[ag|ae]) (aX (i:=6) fe.nd rfl (.inl rfl)) (af (aJ (ai iS (ax r9 hr ⋯ rfl %[5,au aV (aG aI rfl B.len zD1 %[3|ae]) (bc DH rfl B.int ma %[dw iS (aG aI rfl B.len zD1 %[4|ae]) ag (ay _)|ae])|ae]) (pv 1) (ay _)) (ad (oE (i:=4) (N:=["_law_names_here"]) (ix:=[3]) fe.nd rfl (.inl rfl) rfl
   #[3] rfl
   (dJ (pv 4)) (λ_ _ _=>cg (ax gH hr ⋯ rfl %[0,aM (yp K) (pv 1) (uP pA ag) #[1]|ae])))
   (ad (ao (i:=3) fe.nd rfl (Or.inr rfl) (eJ Ic (pv 3) ig (eP (uP pA ag))))
   (af #[ao,5,fe,ax kM hr ⋯ rfl %[3,4|ae]]))) aB)))
  (af (am (aS %[bc bh rfl B.tuple bi %[3|ae],bc bh rfl B.tuple bi %[4|ae],5|ae]))))))),?_⟩
 erw[0,0,f,(6),1,hF,4,4,λmk H1 k0 k7 F1 S1=>?_];erw[f,mk,1,F1,k0,3,λnl ns H2 nl0 nlf hnl nsl nok nnd F2 S2=>?_];let S02:=S1.trans S2;let nl6:ns.length<=5:=by have:mk<6:=k7;omega
 erw[y5S,λl hl=>?_];let lf:=F2.ne hl;let G2:=zE0 hl (.lst [.int 1,.int 1,.int 2,.int 3,.int 4]);erw[0,f,(5),1,F2.same G2,4,4,λj H3 j0 j6 F3 S3=>?_];let hl3:=S3 l _ lf ah;let%[x,hx|xm]:=vk (l:=[V.int 1,V.int 1,V.int 2,V.int 3,V.int 4]) (i:=j) j0 (by show j<5;omega);obtain⟨z,rfl,z0,z4⟩:∃z:Int,x=.int z/\1<=z/\z<=4:=by
  simp only[jD0,qS1,wX1]at xm;rcases xm with h | h | h | h | h <;> erw[_,h,4,4]
 erw[l,_,2,zG0 hl3,hx,6];let S23:SameBut f H2 H3:=(zM0 G2).trans S3;let hnl3:=S23 nl _ nlf hnl;let S03:=S02.trans S23;erw[z,1,3,3,λD hD=>?_];let Df:=F3.ne hD;let nD:nl≠D:=aO hnl3 hD;let GD:=zE0 hD (.lst []);apply dM (λi H'=>∃(tv:List V)(ts:List Tr),H' D=some (.lst tv)/\TreesAt H' tv ts/\ts.length=i/\(∀t∈ts,t.ok ns/\t.depth<=9/\t.size<=8)/\FeedAt H' f/\SameBut f H3 H') %[[],[],ah,.nil,1,(λt ht=>by cases ht),F3.same GD|zM0 GD] ?_ ?_
 . rintro i H4 hi ⟨tv,ts,hD4,TS,tl,tok,F4,S4⟩;let hi':i<z.toNat:=hi;let hnl4:=S4 nl _ nlf hnl3;erw[0,0,0,0,f,(8),1,F4,4,4,λe H5 e0 e1 F5 S5=>?_];let hnl5:=S5 nl _ nlf hnl4;let e8:e<8:=#[0]
   erw[2,f,nl,_,_,ns,1,F5,.inl hnl5,3,3,3,4,4,λv t H6 F6 S6 T6 ok6 sz6 dp6=>?_];let S46:=S5.trans S6;let hD6:=S46 D _ Df hD4;let k46:=ki F4 S46;let vl:=TS.length;erw[_,hD6,aN #[0],Nx.of hi ⟨tv++[v],ts++[t],ah,?_,?_,?_,jv F6 Df,?_⟩]
   . let k:=dB (H:=H6) (b:=D) (ys:=tv) (zs:=tv++[v]) hD6;exact((TS.mono k46).mono k).append (.cons (T6.mono k) .nil)
   . rw[zJ0,qM0,tl]
   . intro u hu;rcases qN0 hu with h | h
     . exact tok u h
     . rw[Pg h];let d9:(t.depth:Int)<=9:=dp6;let s9:(t.size:Int)<=1+e:=sz6;erw[ok6,3,3]
   . intro b o hb eb;rw[aD (aO eb hD)];exact S46 b o hb (S4 b o hb eb)
 rintro H4 ⟨tv,ts,hD4,TS,tl,tok,F4,S4⟩;let hnl4:=S4 nl _ nlf hnl3;let tl':ts.length=z.toNat:=tl;let tl1:1<=ts.length:=#[0]
 let tl4:ts.length<=4:=#[0]
 let S04:=S03.trans S4;erw[0,0,nl,D,ns,tv,ts,1,hnl4,hD4,TS,3,SmallG.wf nok tok,λp H5 S5 pp p2 p9 p5 tp tc=>?_];let SG:SmallG ns ts p:=%[nl6,nok,nnd,tl1,tl4,tok,pp,p2,p9,λe=>p5 e tl4,tp|tc]
 let hnl5:=S5 _ _ hnl4;let hD5:=S5 _ _ hD4;let TS5:=TS.mono (aY S5);let S05:=S04.trans (zM0 S5);let F5:=F4.same S5;clear hnl4 hD4 TS S04 S03 S02 S4 hnl3 hl3 F4 F3 F2 F1 S1 S2 S3 S23 G2 GD tok tl tl' tl1 tl4 p5 tp tc pp p2 p9 hnl nsl nok nnd nl6 xm hx;refine⟨6,rfl,by decide,by decide,dQ (n:=6) (λi σ H'=>∃(na ta:Addr)(ns:List Str)(tv:List V)(ts:List Tr)(p:Int)(x6:Option V),σ=[some (.ref f),some (.int 130),some (.int 8),some (.ref na),some (.ref ta),some (.int p),x6]/\H' na=some (.lst (ns.map V.str))/\H' ta=some (.lst tv)/\TreesAt H' tv ts/\SmallG ns ts p/\(ns.length+i<=5∨p ^ bu ns ts<=130)/\Same H5 H')
  %[nl,D,ns,tv,ts,p,0,hnl5,hD5,TS5,SG,.inl SG.nl|Same.refl _] ?_ ?_⟩
 . clear hnl5 hD5 TS5 SG;rintro i σ H6 hi ⟨na,ta,ns,tv,ts,p,x6,rfl,hna,hta,TS,SG,dj,S6⟩;let p2:=SG.p2;let p9:=SG.p9;let t1:=SG.t1;let n5:=SG.nl;let vl:=TS.length;let ec:((ns.map V.str).length:Int)+(if((tv.length:Int)>1)then 1 else 0)=(bu ns ts:Int):=by
    rw[zF0,vl];unfold bu
    split <;> split <;> omega
   erw[0,0,na,0,.inl (zG0 hna),0,ta,0,.inl (zG0 hta),2,.inr %[0|6]];erw[2,p,(bu ns ts:Int),6,3,by have:=jy (ts:=ts) (show ns.length<=6 by omega);omega,3,3,6]
   . rw [←ec]
     by_cases c1:(tv.length:Int)>1
     . rw[O9 c1,show decide ((tv.length:Int)>1)=true from zC1 c1];rfl
     . rw[O8 c1,show decide ((tv.length:Int)>1)=false from zB1 c1];rfl
   rw[qV0];erw[0,2,0,6]
   by_cases c1:p ^ bu ns ts<=130
   . apply aE #[0] ?_;erw[na,ta,ns,tv,ts,p,0,hna,hta,TS,SG,.inr c1,S6]
   apply aW #[0] ?_;let nz:=SG.ne c1;let dl:ns.length+i<=5:=dj.elim id λh=>absurd h c1
   obtain⟨ns',x,rfl⟩:∃ns' x,ns=ns'++[x]:=%[ns.dropLast,ns.getLast nz|(List.dropLast_concat_getLast nz).symm]
   let nok':∀y∈ns',qk y:=λy hy=>SG.nok y (wM1 _ hy)
   let nx:qk x:=SG.nok x (qU0 _ (List.mem_singleton.mpr rfl));let wfs:=SmallG.wf SG.nok SG.tok;erw[0,ta,1,%[_|zG0 hta],λD hD=>?_];apply fc (K:=K) (xs:=tv) (λu H'=>∃vs:List V,H' D=some (.lst vs)/\TreesAt H' vs ((ts.take u).map (Tr.without x))/\vs.length=u/\Same H6 H') %[[],ah,.nil,1|zE0 hD _] (λu H' _ Pd=>by erw[_,_,_,_,h]at Pd;exact zG0 (h _ _ hta)) ?_ ?_
   . rintro u y H7 hy ⟨vs,hD7,TV,vl7,S7⟩;let%[t,ht|Tt]:=TS.get hy;let tm:=qF0 ht;let%[tw,td|_]:=wfs t tm;let hu:u<tv.length:=(Pj hy).1;erw[0,0,(1),1,na,_,(-1),0,1,zG0 (S7 _ _ hna),6,y,t,x,1,Tt.mono (aY S7),tw,nx,td,td,λv' H8 S8 T8=>?_]
     . rw[zK0];exact Jj _ _
     let hD8:=S8 _ _ hD7;let k9:=dB (H:=H8) (b:=D) (ys:=vs) (zs:=vs++[v']) hD8;let t4:=SG.t4;erw[_,hD8,aN #[0],Nx.of hu ⟨vs++[v'],ah,?_,by rw[zJ0,vl7];rfl,λb' o' e'=>?_⟩]
     . rw[qC0,ht,zK0];exact((TV.mono (aY S8)).mono k9).append (.cons (T8.mono k9) .nil)
     . rw[aD (aO e' hD)];exact S8 _ _ (S7 _ _ e')
   rintro H7 ⟨vs,hD7,TV,vl7,S7⟩;rw[vl,qB0]at TV;erw[0,(1),1,(-1),1,na,0,zG0 (S7 _ _ hna),λnb hnb=>?_];rw[zK0,List.map_singleton,Ha];let I8:=zE0 hnb (.lst (ns'.map V.str));let g8:upd H7 nb (.lst (ns'.map V.str)) nb=some (.lst (ns'.map V.str)):=ah;generalize upd H7 nb (.lst (ns'.map V.str))=H8 at I8 g8;let tok':=JS SG.tok;let t4:=SG.t4;let tml:(ts.map (Tr.without x)).length=ts.length:=zF0 _;erw[0,0,nb,D,ns',vs,ts.map (Tr.without x),1,g8,I8 _ _ hD7,TV.mono (aY I8),3,SmallG.wf nok' tok',λp' H9 S9 pp' p2' p9' p5' tp' tc'=>?_];let S89:=I8.trans S9;let nl':ns'.length+1+i<=5:=by
    rw[zJ0,qM0]at dl;exact dl
   erw[nb,D,ns',vs,ts.map (Tr.without x),p',0,S9 _ _ g8,S89 _ _ hD7,TV.mono (aY S89),%[3,nok',(List.nodup_append.mp SG.nd).1,3,3,tok',pp',p2',p9',λe=>p5' e #[0],tp'|tc'],.inl #[0],S6.trans (S7.trans S89)]
 . rintro σ H6 ⟨na,ta,ns,tv,ts,p,x6,rfl,hna,hta,TS,SG,dj,S6⟩;let pw:p ^ bu ns ts<=130:=dj.elim (λh=>absurd h #[0]) id;erw[0,na,0,.inl %[zG0 hna|λa ha=>?_]];let Ga:=zE0 ha (.tup (ns.map V.str));erw[0,ta,0,.inl %[zG0 (Ga _ _ hta)|λb hb=>?_]];let Gb:=zE0 hb (.tup tv);erw[0,y3S,λg hg=>?_];let Gg:=zE0 hg (.tup [.ref a,.ref b,.int p]);exact q g a b ns tv ts p _ ah (Gg _ _ (Gb _ _ ah)) (Gg _ _ ah) (TS.mono (aY (Ga.trans (Gb.trans Gg)))) SG pw (F5.same (S6.trans (Ga.trans (Gb.trans Gg)))) (S05.trans (zM0 (S6.trans (Ga.trans (Gb.trans Gg)))))
def kept:List Str:=["yes","no","not","and","or","odd","same","round","due","asked","true","coin"]
def NmK(x:Str):Prop:=(∀c∈x.cps.toList,97<=c/\c<=122)/\1<=x.length/\x.length<=6/\x∉kept
def at1(x y:V)(xs:List V):atI (x::y::xs) 1=some y:=cu (j:=1) rfl
def at2(x y z:V)(xs:List V):atI (x::y::z::xs) 2=some z:=cu (j:=2) rfl
def Tm.ok:Tm->Prop
 |.num n=>0<=n/\n<1000000000000 | .box x=>NmK x | .plain w=>w∈plainW | .ask w a=>w∈askW/\a.ok | .op s a b=>s∈signW/\a.ok/\b.ok
def Tm.fit(m:Nat)(t:Tm):Prop:=t.ok/\t.size<=m/\t.depth<=8
def Hr.ok(m:Nat):Hr->Prop
 |.fin=>True | .go n=>0<=n/\n<1000000000000 | .iff t n=>t.fit m/\0<=n/\n<1000000000000 | .set x t=>NmK x/\t.fit m | .say t=>t.fit m
def LET:Str:="abcdefghijklmnopqrstuvwxyz"
def ENDS:Str:=" ()"
def isIn(L:Str)(c:Nat):Bool:=!(Builtin.Str.occurrences L %[|#[c]] 0 L.length 1).isEmpty
def kD(z:Str):Bool:=decide (1<=z.length)&&decide (z.length<=6)&&!inV (.str z) (kept.map V.str)&&z.cps.toList.all (isIn LET)
def FIG:Str:="0123456789"
def mh(z:Str):Bool:=decide (1<=z.length)&&decide (z.length<=12)&&!(decide (1<z.length)&&Txt.startswith z "0")&&z.cps.toList.all (isIn FIG)
def xx{z:Str}{c:Nat}(h:z.cps.toList[0]?=some c):Txt.startswith z "0"=decide (V.str %[|#[c]]=V.str "0"):=by
 let q:=StrLaws.subAt_one z 48 0;let e0:("0":Str)=%[|#[48]]:=by decide
 unfold Txt.startswith;rw[e0]
 by_cases hc:c=48
 . subst hc
   have:=q.mpr h
   rw[show decide (V.str (%[|#[48]]:Str)=V.str ⟨#[48]⟩)=true from zC1 rfl];simp only[qY1,decide_eq_true_eq];exact this
 . let hne:¬ (V.str (%[|#[c]]:Str)=V.str ⟨#[48]⟩):=λe=>hc (by
    have:=V.str.inj e
    injection this with this
    simpa using this)
   rw[show decide (V.str (%[|#[c]]:Str)=V.str ⟨#[48]⟩)=false from zB1 hne];rw[Bool.eq_false_iff];intro e;simp only[qY1,decide_eq_true_eq]at e
   have:=q.mp e
   rw[h]at this;exact hc (zS0 this)
instance spTxt(fB:Str->Bool):∀z:Str,vs=[.str z]->z.length<=1000->(∀H',Same H H'->Q (.bl (fB z)) H'):=1
structure Tx(K:W.Frag)(mg:#[9]):Prop where
 letters:∃t,mg "LETTERS"=some (.str LET t)
 longest:∃t,mg "LONGEST_NAME"=some (.int 6 t)
 keptW:∃a,mg "KEPT_WORDS"=some (.ref a)/\∀H,SqT K H a (kept.map V.str)
 ends:∃t,mg "WORD_ENDS"=some (.str ENDS t)
 within:∃t,mg "MOST_WITHIN"=some (.int 8 t)
 parts:∃t,mg "MOST_PARTS"=some (.int 20 t)
 figures:∃t,mg "FIGURES"=some (.str FIG t)
 most:∃t,mg "MOST_FIGURES"=some (.int 12 t)
 rows:∃t,mg "MOST_ROWS_helptexts"=some (.int 60 t)
 signs:∃a,mg "SIGNS"=some (.ref a)/\∀H,SqT K H a (signW.map V.str)
 asking:∃a,mg "ASKING_WORDS"=some (.ref a)/\∀H,SqT K H a (askW.map V.str)
 plain:∃a,mg "PLAIN_WORDS"=some (.ref a)/\∀H,SqT K H a (plainW.map V.str)
def tI(z:Str):z.cps.size=z.length:=rfl
def jA:bootBuiltins "str"=some (.type "str"):=by decide
def zu:FnScope WE WE (aj pN):=%[|5]
def zR(F:#["is_name",pN])(B:Bl mg)(T:Tx K mg):#[1,f,fd,WE,spTxt kD]:=by
 exists zu
 erw[z,1,hz,q]at h;erw[t1,g1]at T.letters;erw[t3,g3]at T.longest;erw[ka,g5,hk]at T.keptW;refine⟨_,(ad (aJ (PW.pt (iD (ai gq (aG de rfl B.len zD1 %[0|ae]) ag (ay _)) (iD (ai iS (aG de rfl B.len zD1 %[0|ae]) (cZ (v:=.int 6) rfl g3 ⟨_,rfl⟩) (ay _)) (hV (ai dP (pv 0) (cZ (v:=.ref ka) rfl g5 rfl) (by rfl')))))) (af (am gn)) aB)
  (af (am (aG (pj rfl) rfl B.all jR1 (aa (cf (N:=[]) (ix:=[]) (cl:=[]) rfl #[5] rfl (ES (pv 0))
   (λ_ _ _=>cg (dw uS (pv 0) (cZ (v:=.str LET) rfl g1 %[|0]) (by rfl')))) ae))))),?_⟩
 let fls:kD z=false->Q (.bl false) H:=λe=>by
  have:=q H (Same.refl H)
  rw[e]at this;exact this
 erw[0,z,1,cx hz,2,0,6]
 by_cases c1:(z.length:Int)<1
 . apply aW c1 (du ?_);exact fls (by unfold kD;rw[zB1 (show ¬ 1<=z.length by omega)];rfl)
 apply aE c1 ?_;erw[0,z,1,cx hz,2,0,6]
 by_cases c2:(6:Int)<(z.length:Int)
 . apply aW c2 (du ?_);exact fls (by unfold kD;rw[zB1 (show ¬ z.length<=6 by omega)];simp)
 apply aE c2 ?_;erw[0,ka,0,.inr (hk _),1,⋯,0,6];cases c3:inV (.str z) (kept.map V.str)with
 |true=>
   apply du ?_;exact fls (by unfold kD;rw[c3];simp)
 |false=>
   apply cE ?_;erw[0,z,1,λD hD=>?_];apply tW (z:=z) (λi H'=>H' D=some (.lst (((z.cps.toList.take i).map (isIn LET)).map V.bl))/\Same H H') %[by rw[ah];rfl|zE0 hD _] ?_ ?_
   . rintro i c H' hc ⟨hl,s0⟩;let hi:i<z.cps.size:=(Array.getElem?_eq_some_iff.mp hc).1;rw[tI]at hi;erw[0,2,_,hl,6,Nx.of hi %[6|6]]
     . rw[zF0,zF0,qI0];exact aN #[0]
     . rw [ah];let ec:z.cps.toList[i]?=some c:=#[hc,0]
       rw[qC0,ec,zK0,zK0];rfl
     . intro b o e;rw[aD (aO e hD)];exact s0 b o e
   . rintro H' ⟨hl,s0⟩;rw[show z.cps.toList.take z.cps.size=z.cps.toList by rw[←qF1];exact qB0]at hl;erw[D,0,zG0 hl,6];let e:kD z=(z.cps.toList.map (isIn LET)).all id:=by
      unfold kD;rw[c3,zC1 (show 1<=z.length by omega),zC1 (show z.length<=6 by omega),List.all_map];rfl
     rw[←e];exact q H' s0
def uq:FnScope WE WE (aj jQ):=%[|5]
def uy(F:#["is_figures",jQ])(B:Bl mg)(T:Tx K mg):#[1,f,fd,WE,spTxt mh]:=by
 exists uq
 erw[z,1,hz,q]at h;erw[t1,g1]at T.figures;erw[t3,g3]at T.most;refine⟨_,(ad (aJ (PW.pt (iD (ai gq (aG de rfl B.len zD1 %[0|ae]) ag (ay _)) (hV (ai iS (aG de rfl B.len zD1 %[0|ae]) (cZ (v:=.int 12) rfl g3 ⟨_,rfl⟩) (ay _))))) (af (am gn)) aB)
  (ad (aJ (PW.pt (nu (ai iS (aG de rfl B.len zD1 %[0|ae]) ag (ay _)) (lP (eI (dZ zQ1 PySem.F.slot_str_startswith PySem.F.type_str_startswith uE (pv 0) %[aF|ae]))))) (af (am gn)) aB)
  (af (am (aG (pj rfl) rfl B.all jR1 (aa (cf (N:=[]) (ix:=[]) (cl:=[]) rfl #[5] rfl (ES (pv 0))
   (λ_ _ _=>cg (dw uS (pv 0) (cZ (v:=.str FIG) rfl g1 %[|0]) (by rfl')))) ae)))))),?_⟩
 let fls:mh z=false->Q (.bl false) H:=λe=>by
  have:=q H (Same.refl H)
  rw[e]at this;exact this
 erw[0,z,1,cx hz,2,0,6]
 by_cases c1:(z.length:Int)<1
 . apply aW c1 (du ?_);exact fls (by unfold mh;rw[zB1 (show ¬ 1<=z.length by omega)];rfl)
 apply aE c1 ?_;erw[0,z,1,cx hz,2,0,6]
 by_cases c2:(12:Int)<(z.length:Int)
 . apply aW c2 ?_;exact fls (by unfold mh;rw[zB1 (show ¬ z.length<=12 by omega)];simp)
 apply aE c2 ?_;erw[0,z,1,cx hz,2,0,6]
 by_cases c4:(1:Int)<(z.length:Int)
 . apply aW c4 ?_;erw[0,1,z,0,1,0,6];cases c5:Txt.startswith z "0" with
   |true=>
     apply du ?_;exact fls (by unfold mh;rw[c5,zC1 (show 1<z.length by omega)];simp)
   |false=>
     apply cE ?_;let c3:(decide (1<z.length)&&Txt.startswith z "0")=false:=by rw[c5];simp
     erw[0,z,1,λD hD=>?_];apply tW (z:=z) (λi H'=>H' D=some (.lst (((z.cps.toList.take i).map (isIn FIG)).map V.bl))/\Same H H') %[by rw[ah];rfl|zE0 hD _] ?_ ?_
     . rintro i c H' hc ⟨hl,s0⟩;let hi:i<z.cps.size:=(Array.getElem?_eq_some_iff.mp hc).1;rw[tI]at hi;erw[0,2,_,hl,6,Nx.of hi %[6|6]]
       . rw[zF0,zF0,qI0];exact aN #[0]
       . rw [ah];let ec:z.cps.toList[i]?=some c:=#[hc,0]
         rw[qC0,ec,zK0,zK0];rfl
       . intro b o e;rw[aD (aO e hD)];exact s0 b o e
     . rintro H' ⟨hl,s0⟩;rw[show z.cps.toList.take z.cps.size=z.cps.toList by rw[←qF1];exact qB0]at hl;erw[D,0,zG0 hl,6];let e:mh z=(z.cps.toList.map (isIn FIG)).all id:=by
        unfold mh;rw[c3,zC1 (show 1<=z.length by omega),zC1 (show z.length<=12 by omega),List.all_map];rfl
       rw[←e];exact q H' s0
 . apply aE c4 ?_;apply cE ?_;let c3:(decide (1<z.length)&&Txt.startswith z "0")=false:=by rw[zB1 (show ¬ 1<z.length by omega)];rfl
   erw[0,z,1,λD hD=>?_];apply tW (z:=z) (λi H'=>H' D=some (.lst (((z.cps.toList.take i).map (isIn FIG)).map V.bl))/\Same H H') %[by rw[ah];rfl|zE0 hD _] ?_ ?_
   . rintro i c H' hc ⟨hl,s0⟩;let hi:i<z.cps.size:=(Array.getElem?_eq_some_iff.mp hc).1;rw[tI]at hi;erw[0,2,_,hl,6,Nx.of hi %[6|6]]
     . rw[zF0,zF0,qI0];exact aN #[0]
     . rw [ah];let ec:z.cps.toList[i]?=some c:=#[hc,0]
       rw[qC0,ec,zK0,zK0];rfl
     . intro b o e;rw[aD (aO e hD)];exact s0 b o e
   . rintro H' ⟨hl,s0⟩;rw[show z.cps.toList.take z.cps.size=z.cps.toList by rw[←qF1];exact qB0]at hl;erw[D,0,zG0 hl,6];let e:mh z=(z.cps.toList.map (isIn FIG)).all id:=by
      unfold mh;rw[c3,zC1 (show 1<=z.length by omega),zC1 (show z.length<=12 by omega),List.all_map];rfl
     rw[←e];exact q H' s0
def KE:∀c:Fin 26,isIn LET (97+c.val)=true:=by decide
def IQ:∀c:Fin 26,isIn ENDS (97+c.val)=false:=by decide
def ends_in:isIn ENDS 32=true/\isIn ENDS 40=true/\isIn ENDS 41=true:=by decide
def Gh{c:Nat}(h:97<=c/\c<=122):isIn LET c=true:=by
 have:=KE %[c-97|3]
 rwa [show 97+(%[c-97|3]:Fin 26).val=c by show 97+(c-97)=c;omega]at this
def Dl{c:Nat}(h:97<=c/\c<=122):isIn ENDS c=false:=by
 have:=IQ %[c-97|3]
 rwa [show 97+(%[c-97|3]:Fin 26).val=c by show 97+(c-97)=c;omega]at this
def Bb(h:NmK x):kD x=true:=by
 erw[hl,h1,h6,hk]at h;unfold kD;rw[gK,zC1 h1,zC1 h6,zB1 hk];simp only[Bool.and_self,Bool.not_false,Bool.true_and];rw[wK1];exact λc hc=>Gh (hl c hc)
def stl(l:List Nat):Str:=%[|l.toArray]
def vq{a b:Str}(h:a.cps.toList=b.cps.toList):a=b:=by
 cases a with
 |mk x=>
   cases b with
   |mk y=>
     have:x=y:=Array.toList_inj.mp h
     rw[this]
def iV(x:Str):stl x.cps.toList=x:=rfl
def HY(l:List Nat):(stl l).length=l.length:=by
 show l.toArray.size=_
 simp
def gQ(a b:Str):(a++b).cps.toList=a.cps.toList++b.cps.toList:=by simp [jM0]
def qb:(("(":Str)).cps.toList=[40]:=by decide
def wH:((")":Str)).cps.toList=[41]:=by decide
def kg:((" ":Str)).cps.toList=[32]:=by decide
def Ee{a b:Str}(h:V.str a=V.str b):a=b:=V.str.inj h
def fo{a b:Str}(h:a≠b):¬ V.str a=V.str b:=λz=>h (Ee z)
def jn(c:Nat):List (List Nat)->List Nat
 | []=>[]
 | [a]=>a
 |a::b::r=>a++c::jn c (b::r)
def Hb{c:Nat}:∀{a b x y:List Nat},c∉a->c∉b->a++c::x=b++c::y->a=b/\x=y
 | [],[],_,_,_,_,h=>%[1|(List.cons.inj h).2]
 | [],d::b,x,y,_,hb,h=>by
   have:=(List.cons.inj h).1
   exact absurd (by rw[this];exact qA0) hb
 |d::a,[],x,y,ha,_,h=>by
   have:=(List.cons.inj h).1
   exact absurd (by rw[←this];exact qA0) ha
 |d::a,e::b,x,y,ha,hb,h=>by
   let h':=List.cons.inj h;let r:=Hb (λz=>ha (qK0 _ z)) (λz=>hb (qK0 _ z)) h'.2;erw[by rw[h'.1,r.1],r.2]
def Gc{c:Nat}:∀{l m:List (List Nat)},l≠[]->m≠[]->(∀a∈l,c∉a)->(∀a∈m,c∉a)->jn c l=jn c m->l=m
 | [],_,h,_,_,_,_=>absurd rfl h
 |_::_,[],_,h,_,_,_=>absurd rfl h
 | [a],[b],_,_,_,_,h=>congrArg (λz=>[z]) h
 | [a],b::d::r,_,_,hl,_,h=>by
   have:c∈a:=by
    rw[show a=b++c::jn c (d::r)from h]
    simp
   exact absurd this (hl a qA0)
 |a::d::r,[b],_,_,_,hm,h=>by
   have:c∈b:=by
    rw[show b=a++c::jn c (d::r)from h.symm]
    simp
   exact absurd this (hm b qA0)
 |a::d::r,b::e::s,_,_,hl,hm,h=>by
   let q:=Hb (hl a qA0) (hm b qA0) (show a++c::jn c (d::r)=b++c::jn c (e::s)from h)
   have:=Gc #[2] #[2] (λz hz=>hl z (qK0 _ hz)) (λz hz=>hm z (qK0 _ hz)) q.2
   rw[q.1,this]
def cd(x:Str):List Nat:=x.cps.toList
def Ln(h:cd x=cd y):x=y:=by
 have:x.cps=y.cps:=Array.toList_inj.mp h
 cases x;cases y;exact congrArg Str.mk this
def vd(x y:Str):cd (x++y)=cd x++cd y:=by
 unfold cd;rw[jM0]
 simp
def wZ(c:Nat):∀ps:List Str,cd (Str.join %[|#[c]] ps)=jn c (ps.map cd)
 | []=>rfl
 | [a]=>rfl
 |a::b::r=>by
   show cd (a++%[|#[c]]++Str.join ⟨#[c]⟩ (b::r))=cd a++c::jn c ((b::r).map cd);rw[vd,vd,wZ c (b::r)]
   simp [cd]
def IS(sep:Str):∀ps:List Str,Txt.join sep ps=Str.join sep ps
 | []=>rfl
 |a::r=>StrLaws.glued_cons sep r a
def zc(x y:Str):Txt.split x y≠[]:=by
 unfold Txt.split
 split
 . exact List.cons_ne_nil _ _
 . split
   . exact List.cons_ne_nil _ _
   . intro h
     have:=length_partsBetween x (Builtin.Str.occurrences x y 0 x.length (x.length+1)) y.length
     rw[h]at this
     simp at this
def tF:∀{l m:List Str},l.map cd=m.map cd->l=m
 | [],[],_=>rfl
 | [],_::_,h=>by simp at h
 |_::_,[],h=>by simp at h
 |a::l,b::m,h=>by
   let h':=List.cons.inj h;rw[Ln h'.1,tF h'.2]
def zj{c:Nat}{ps:List Str}(h0:ps≠[])(hf:∀p∈ps,c∉cd p):Txt.split (Str.join %[|#[c]] ps) ⟨#[c]⟩=ps:=by
 apply tF ?_;apply Gc (c:=c) (λh=>zc _ _ (List.map_eq_nil_iff.mp h)) (λh=>h0 (List.map_eq_nil_iff.mp h)) ?_ ?_ ?_
 . intro a ha;let%[p,hp|1]:=List.mem_map.mp ha;exact StrLaws.split_free _ c p hp
 . intro a ha;let%[p,hp|1]:=List.mem_map.mp ha;exact hf p hp
 . rw[←wZ,←wZ,StrLaws.join_split]
def bV(n:Int):Str:=toString n
def wF(m:Nat):cd (bV (m:Int))=(Nat.toDigits 10 m).map Char.toNat:=PySem.W.KIN.signs_num m
def lS{n:Int}(h0:0<=n):∀c∈cd (bV n),48<=c/\c<=57:=by
 let%[m|1]:=qC1 h0;intro c hc;rw[wF]at hc;let%[ch,hch|e]:=List.mem_map.mp hc;rw[←e];exact PyProof.Rows.digit_range (Nat.isDigit_of_mem_toDigits ⋯ ⋯ hch)
def Fu{n:Int}(h0:0<=n):cd (bV n)≠[]:=by
 let%[m|1]:=qC1 h0;rw[wF];intro e;let h:=PySem.toDigits_len_ge 10 m;rw[List.map_eq_nil_iff.mp e]at h;exact absurd h ⋯
def jZ{n:Int}(h0:0<=n)(h1:n<1000000000000):(bV n).length<=12:=PyProof.Rows.toString_length_le h0 ⋯ (by show n<10 ^ 12;omega)
def xW{n:Int}(h0:0<=n):1<=(bV n).length:=by
 let h:=Fu h0;let e:(cd (bV n)).length=(bV n).length:=rfl;cases c:cd (bV n)with
 |nil=>exact absurd c h
 |cons a r=>rw[←e,c];simp
def AY{n:Int}(h0:0<=n)(h1:n<1000000000000):PySem.intText? (bV n)=some n:=by
 let e:=intText_digits (x:=bV n) (lS h0) (Fu h0) (zP0 (jZ h0 h1) ⋯);let%[m|1]:=qC1 h0;let e2:=wF m;unfold cd at e2;rw[e2,PySem.W.KIN.val_back]at e;exact e
def IW(m:Nat)(h:0<m):∃d r,Nat.toDigits 10 m=d::r/\d.toNat≠48:=by
 induction m using Nat.strongRecOn with
 |_ m ih=>
   by_cases c:m<10
   . erw[Nat.digitChar m,[],Nat.toDigits_of_lt_base c,6]
     have:∀d:Nat,d<10->0<d->(Nat.digitChar d).toNat≠48:=by decide
     exact this m c h
   . let hm:m % 10<10:=Nat.mod_lt m ⋯;let t:Nat.toDigits 10 (m / 10)++Nat.toDigits 10 (m % 10)=Nat.toDigits 10 (10*(m / 10)+m % 10):=Nat.toDigits_append_toDigits ⋯ #[0] hm;rw[Nat.div_add_mod]at t;let%[d,r,e|hd]:=ih (m / 10) #[0] #[0];erw[d,r++Nat.toDigits 10 (m % 10),by rw[←t,e];rfl,hd]
def KU:∀c:Nat,c<58->48<=c->isIn FIG c=true:=by decide
def AZ{n:Int}(h0:0<=n)(h1:n<1000000000000):mh (bV n)=true:=by
 unfold mh;rw[zC1 (xW h0),zC1 (jZ h0 h1)];let a:(cd (bV n)).all (isIn FIG)=true:=List.all_eq_true.mpr λc hc=>by
  have:=lS h0 c hc
  exact KU c #[0] this.1
 let a':(bV n).cps.toList.all (isIn FIG)=true:=a;rw[a'];let b:(decide (1<(bV n).length)&&Txt.startswith (bV n) "0")=false:=by
  by_cases c:1<(bV n).length
  . let%[m|1]:=qC1 h0;let hm:0<m:=by
     apply Nat.pos_of_ne_zero ?_;intro z;subst z
     revert c
     decide
    let%[d,r,e|hd]:=IW m hm;let e0:(bV (m:Int)).cps.toList[0]?=some d.toNat:=by
     have:=wF m
     unfold cd at this;rw[this,e];rfl
    let z:decide (V.str (%[|#[d.toNat]]:Str)=V.str "0")=false:=zB1 λz=>by
     have:=V.str.inj z
     let e1:("0":Str)=%[|#[48]]:=by decide
     rw[e1]at this;injection this with this
     have:=congrArg Array.toList this
     simp at this
     exact hd this
    rw[xx e0,z,wZ1]
  . rw[zB1 c];rfl
 rw[b];rfl
def NL:Str:=%[|#[10]]
def nl_eq:("\n":Str)=NL:=by decide
def yZ{l:List Str}{b:Nat}(h:∀p∈l,p.length<=b):(l.map (·.length)).sum<=l.length*b:=by
 induction l with
 |nil=>simp
 |cons a r ih=>
   let h1:=h a qA0;let h2:=ih λp hp=>h p (qK0 _ hp)
   simp only[zZ0,zV1,zR0];rw[Nat.succ_mul];omega
def pZ{n:Int}(h0:0<=n)(h1:n<1000000000000):n.natAbs.log2<1920:=by
 let h2:n.natAbs<2 ^ 40:=#[0]
 by_cases c:n.natAbs=0
 . rw[c];decide
 . have:=(Nat.log2_lt c).mpr h2
   omega
def yz{xs:List V}{k:Nat}(hk:k<=xs.length):jg xs (some (k:Int)) none=xs.drop k:=by
 unfold jg;rw[HT.sIx_none,HT.sIx_nat,Nat.min_eq_left hk];exact List.take_of_length_le (by rw[jW1];exact zH0 _)
def Tm.txt:Tm->List Nat
 |.num n=>cd (bV n)
 |.box x=>cd x
 |.plain w=>cd w
 |.ask w a=>[40]++(cd w++([32]++(a.txt++[41])))
 |.op s a b=>[40]++(cd s++([32]++(a.txt++([32]++(b.txt++[41])))))
def Tm.str(t:Tm):Str:=stl t.txt
def lm:∀w∈plainW,w.length<=5/\1<=w.length/\(∀c∈w.cps.toList,97<=c/\c<=122)/\w≠"num"/\w≠"box"/\w≠"op":=by decide
def xf:∀w∈askW,w.length<=4/\1<=w.length/\(∀c∈w.cps.toList,97<=c/\c<=122)/\w≠"num"/\w≠"box"/\w≠"op"/\w∉plainW:=by decide
def qZ:∀w∈signW,w.length=1/\(∀c∈w.cps.toList,42<=c/\c<=61)/\w∉askW:=by decide
def dU(x:Str):(cd x).length=x.length:=by unfold cd;rw[qF1];rfl
def Tm.txt_len:∀t:Tm,t.ok->t.txt.length<=14*t.size
 |.num n,h=>by
   have:=jZ h.1 h.2
   show(cd (bV n)).length<=14;rw[dU];omega
 |.box x,h=>by
   show(cd x).length<=14;rw[dU]
   have:=h.2.2.1
   omega
 |.plain w,h=>by
   show(cd w).length<=14;rw[dU]
   have:=(lm w h).1
   omega
 |.ask w a,⟨h,h1⟩=>by
   have:=Tm.txt_len a h1
   let e4:=(xf w h).1;show([40]++(cd w++([32]++(a.txt++[41])))).length<=14*(a.size+1)
   simp only[zJ0,zR0,zH1,dU];omega
 |.op o a b,⟨h,h1,h2⟩=>by
   let e1:=Tm.txt_len a h1;let e2:=Tm.txt_len b h2;let e4:=(qZ o h).1;show([40]++(cd o++([32]++(a.txt++([32]++(b.txt++[41])))))).length<=14*(a.size+b.size+1)
   simp only[zJ0,zR0,zH1,dU];omega
def Tm.str_len{t:Tm}(h:t.ok):t.str.length<=14*t.size:=by
 unfold Tm.str;rw[HY];exact t.txt_len h
def HS(n:Int):(Tm.num n).str=bV n:=iV _
def HV(x:Str):(Tm.box x).str=x:=iV _
def BU(x:Str):(Tm.plain x).str=x:=iV _
def brT(wd:Str)(ts:List Tm):Str:=((Str.empty++("(":Str))++Txt.join (" ":Str) (wd::ts.map Tm.str))++(")":Str)
def Lq(wd:Str)(a:Tm):brT wd [a]=(Tm.ask wd a).str:=by
 apply vq ?_;unfold brT;rw[show Txt.join (" ":Str) (wd::[a].map Tm.str)=(wd++(" ":Str))++a.str from rfl];simp only[gQ,qb,kg,wH];show((([]:List Nat)++[40])++((cd wd++[32])++a.txt))++[41]=[40]++(cd wd++([32]++(a.txt++[41])))
 simp
def br_op(wd:Str)(a b:Tm):brT wd [a,b]=(Tm.op wd a b).str:=by
 apply vq ?_;unfold brT;rw[show Txt.join (" ":Str) (wd::[a,b].map Tm.str)=(((wd++(" ":Str))++a.str)++(" ":Str))++b.str from rfl];simp only[gQ,qb,kg,wH];show((([]:List Nat)++[40])++((((cd wd++[32])++a.txt)++[32])++b.txt))++[41]=[40]++(cd wd++([32]++(a.txt++([32]++(b.txt++[41])))))
 simp
def TmsAt(H:Hp)(tv:List V)(ts:List Tm):Prop:=tv.length=ts.length/\∀(i:Nat)(v:V)(t:Tm),tv[i]?=some v->ts[i]?=some t->TmAt H v t
def TmsAt.one(h:TmAt H v t):TmsAt H [v] [t]:=⟨rfl,λi a b ha hb=>by
 match i,ha,hb with
 |0,ha,hb=>cases ha;cases hb;exact h
 |i+1,ha,_=>simp at ha⟩
def TmsAt.two(h:TmAt H v t)(h2:TmAt H u r):TmsAt H [v,u] [t,r]:=⟨rfl,λi a b ha hb=>by
 match i,ha,hb with
 |0,ha,hb=>cases ha;cases hb;exact h
 |1,ha,hb=>cases ha;cases hb;exact h2
 |i+2,ha,_=>simp at ha⟩
instance spTTm(n:Nat):∀(v:V)(t:Tm),vs=[v]->TmAt H v t->t.ok->t.depth<=n->t.size<=40->(∀H',Same H H'->Q (.str t.str) H'):=1
instance spIB(n:Nat):∀(wd:Str)(a:Addr)(tv:List V)(ts:List Tm),vs=[.str wd,.ref a]->H a=some (.tup tv)->TmsAt H tv ts->ts.length<=2->wd.length<=10->(∀t∈ts,t.ok/\t.depth<=n/\t.size<=40)->(∀H',Same H H'->Q (.str (brT wd ts)) H'):=1
def qv:FnScope ["word","terms","inside"] ["word","terms"] (aj ie):=%[|5]
def uA{n:Nat}(F:#["in_bracket",ie])(fJ:#[2*n+1,"term_text",["term"],spTTm n]):#[2*n+2,f,fd,["word","terms"],spIB n]:=by
 exists qv
 erw[wd,a,tv,ts,1,ha,TA,tl,wl,tk,k]at h;refine⟨_,(ad (ao (i:=2) qv.nd rfl (.inl rfl) (dZ zQ1 qM1 qN1 kc aF (aa (au pV (bZ %[0|ae]) (cf (N:=[]) (ix:=[]) (cl:=[]) rfl #[5] rfl (fh (pv 1))
         (λ_ _ _=>cg (ax fJ hr #[0] rfl %[0|ae])))) ae)))
  (af (am (Io (wc aF (wc (Kq (pv 2)) (wc aF Ko))))))),?_⟩
 let ttl:=TA.1;erw[1,0,y1S,λL hL=>?_];let GL:=zE0 hL (.lst [.str wd]);let eL:upd H L (.lst [.str wd]) L=some (.lst [.str wd]):=ah;generalize upd H L (.lst [.str wd])=H1 at GL eL;let ha1:=GL _ _ ha;erw[0,a,1,%[_|zC0 ha1],λD hD=>?_];let LD:L≠D:=aO eL hD;apply eN (K:=K) (xs:=tv) (λi H'=>H' D=some (.lst (((ts.take i).map Tm.str).map V.str))/\Same H1 H') %[by rw[ah];rfl|zE0 hD _] (λi H' _ h=>zC0 (h.2 _ _ ha1)) ?_ ?_
 . rintro i z H2 hz ⟨hD2,S2⟩;let hi:=(Pj hz).1;let ht:ts[i]?=some (ts[i]'#[0]):=zL0 #[0];let%[tok,td|tz]:=tk _ (qF0 ht);erw[0,z,0,(TA.2 i z _ hz ht).mono (aY (GL.trans S2)),tok,td,tz,λH3 S3=>?_];erw[_,S3 _ _ hD2,6,Nx.of hi %[6|λb' o' e'=>?_]]
   . rw[zF0,zF0,qI0];exact aN #[0]
   . rw[ah,qC0,ht,zK0,zK0];rfl
   . rw[aD (aO e' hD)];exact S3 _ _ (S2 _ _ e')
 rintro H2 ⟨hD2,S2⟩;rw[show tv.length=ts.length from ttl,qB0]at hD2;erw[L,D,2,S2 _ _ eL,hD2,cx (by rw[zF0,zF0,qM0];omega),λM hM=>?_];let GM:=zE0 hM (.lst ([.str wd]++(ts.map Tm.str).map V.str));let eM:upd H2 M (.lst ([.str wd]++(ts.map Tm.str).map V.str)) M=some (.lst ((wd::ts.map Tm.str).map V.str)):=ah;let sl:=yZ (l:=ts.map Tm.str) (b:=560) λp hp=>by
  let%[t,ht|1]:=List.mem_map.mp hp
  have:=Tm.str_len (tk t ht).1
  have:=(tk t ht).2.2
  omega
 rw[zF0]at sl;let sl2:ts.length*560<=1120:=#[0]
 let lsp:((" ":Str)).length=1:=by decide
 erw[_,M,0,1,zG0 eM,by rw[lsp];decide,6,6]
 . rw[zZ0,zV1,zR0,zF0];omega
 let jlen:(Txt.join (" ":Str) (wd::ts.map Tm.str)).length<=2000:=by
  have:=size_glued (" ":Str) (wd::ts.map Tm.str)
  rw[lsp,zZ0,zV1,zR0,zF0]at this;show(Builtin.Str.glued (" ":Str) (wd::ts.map Tm.str)).length<=2000;omega
 let z0:(Str.empty).length=0:=by decide
 let l1:(("(":Str)).length=1:=by decide
 let l3:((")":Str)).length=1:=by decide
 let big:∀{m:Nat},m<=3000->m<=sizeLine:=λh=>zP0 h ⋯
 erw[0,cx (by rw[qA1,z0,l1];omega),0,0,big #[0],0,big (by rw[qA1,qA1,z0,l1];omega),0,big (by rw[qA1,qA1,qA1,z0,l1,l3];omega),big (by rw[qA1,qA1,qA1,z0,l1,l3];omega),6];exact k _ (GL.trans (S2.trans GM))
def tH:FnScope ["term","word"] ["term"] (aj iO):=%[|5]
def ct1(x:V)(xs:List V):jg (x::xs) (some 1) none=xs:=yz (xs:=x::xs) (k:=1) #[2]
def ct2(x y:V)(xs:List V):jg (x::y::xs) (some 2) none=xs:=yz (xs:=x::y::xs) (k:=2) #[2]
def HJ{n:Nat}(F:#["term_text",iO])(B:Bl mg)(X:Tx K mg)(tM:#[2*n+2,"in_bracket",["word","terms"],spIB n]):#[2*(n+1)+1,f,fd,["term"],spTTm (n+1)]:=by
 exists tH
 erw[v,t,1,T,ok,dn,sz,k]at h;erw[pa',gp,hp]at X.plain;refine⟨_,(ad #[ao,1,tH,aM ix_tup (pv 0) ag #[1]]
  (ad (aJ (ai aQ (pv 1) aF (ay _)) (af (am (bc ku rfl B.str jA %[aM ix_tup (pv 0) ag #[1]|ae]))) aB)
  (ad (aJ (ai aQ (pv 1) aF (ay _)) (af (am (aM ix_tup (pv 0) ag #[1]))) aB)
  (ad (aJ (ai dP (pv 1) (cZ (v:=.ref pa') rfl gp rfl) (by rfl')) (af (am (pv 1))) aB)
  (ad (aJ (ai aQ (pv 1) aF (ay _)) (af (am (ax tM hr #[0] rfl %[aM ix_tup (pv 0) ag #[1],eJ AM (pv 0) (eP ag) ig|ae]))) aB)
  (af (am (ax tM hr #[0] rfl %[1,eJ AM (pv 0) (eP ag) ig|ae])))))))),?_⟩
 cases T with
 | @num a m e=>
   erw[0,a,_,(0),0,1,zC0 e,at0 ..,6];erw[0,1,0,6];apply aW rfl ?_;erw[0,a,_,(1),0,1,zC0 e,at1 ..,m,1,pZ ok.1 ok.2,6];let k':=k H (Same.refl H);rw[HS]at k';exact k'
 | @box a x e=>
   erw[0,a,_,(0),0,1,zC0 e,at0 ..,6];erw[0,1,0,6];apply aE (fo ⋯) ?_;erw[0,1,0,6];apply aW rfl ?_;let k':=k H (Same.refl H);rw[HV]at k';erw[0,a,_,(1),0,1,zC0 e,at1 ..,k']
 | @plain a x e=>
   let%[_,_,_,n1,n2|n3]:=lm x ok;erw[0,a,_,(0),.str x,1,1,zC0 e,at0 ..,6];erw[0,1,0,6];apply aE (fo n1) ?_;erw[0,1,0,6];apply aE (fo n2) ?_;erw[0,pa',0,.inr (hp _),1,⋯,0,6];let ein:inV (.str x) (plainW.map V.str)=true:=by rw[gK,zC1 (show x∈plainW from ok)]
   rw[ein];apply du ?_;let k':=k H (Same.refl H);rw[BU]at k';erw[0,k']
 | @ask a x u r e g=>
   erw[okw,ok1]at ok;let%[l4,_,_,n1,n2,n3|n4]:=xf x okw;let dr:r.depth<=n:=wE1 dn;let sr:r.size+1<=40:=sz;erw[0,a,_,(0),.str x,1,1,zC0 e,at0 ..,6];erw[0,1,0,6];apply aE (fo n1) ?_;erw[0,1,0,6];apply aE (fo n2) ?_;erw[0,pa',0,.inr (hp _),1,⋯,0,6];let ein:inV (.str x) (plainW.map V.str)=false:=by rw[gK,zB1 n4]
   rw[ein];apply cE ?_;erw[0,1,0,6];apply aE (fo n3) ?_;erw[0,0,(1),1,a,0,zC0 e,e,λp H1 S1 e1=>?_];rw[ct1]at e1;erw[x,p,_,[r],1,e1,TmsAt.one (g.mono (aY S1)),by simp,3,λt ht=>by rw[Pg ht];erw[ok1,dr,3],λH2 S2=>?_];rw[Lq];exact k H2 (S1.trans S2)
 | @op a x u u2 r r2 e g g2=>
   erw[okw,ok1,ok2]at ok;let%[l4,_|_]:=qZ x okw;let dd:r.depth<=n/\r2.depth<=n:=by
    have:max r.depth r2.depth+1<=n+1:=dn
    omega
   let sr:r.size+r2.size+1<=40:=sz;erw[0,a,_,(0),.str "op",1,1,zC0 e,at0 ..,6];erw[0,1,0,6];apply aE (fo ⋯) ?_;erw[0,1,0,6];apply aE (fo ⋯) ?_;erw[0,pa',0,.inr (hp _),1,⋯,0,6];let ein:inV (.str "op") (plainW.map V.str)=false:=by rw[gK,zB1 ⋯]
   rw[ein];apply cE ?_;erw[0,1,0,6];apply aW rfl ?_;erw[0,a,_,(1),.str x,1,1,zC0 e,at1 ..,0,(2),1,a,0,zC0 e,e,λp H1 S1 e1=>?_];rw[ct2]at e1;erw[x,p,_,[r,r2],1,e1,TmsAt.two (g.mono (aY S1)) (g2.mono (aY S1)),by simp,3,λt ht=>?_,λH2 S2=>?_]
   . rcases zX0 ht with rfl | ht
     . erw[ok1,dd.1,3]
     . rw[Pg ht];erw[ok2,dd.2,3]
   rw[br_op];exact k H2 (S1.trans S2)
def HI:#[1,f,fd,["term"],spTTm 0]:=by
 let no:∀vs H Q E,¬ spTTm 0 vs H Q E:=λvs H Q E h=>by
  erw[v,t,_,_,_,h1,_]at h
  have:=t.depth_pos
  omega
 exists 3
def oI(F:#["term_text",iO])(F2:Fun K "in_bracket" "in_bracket" ie f2 fd2)(B:Bl mg)(X:Tx K mg)(m:mg "term_text"=some (.ref f))(m2:mg "in_bracket"=some (.ref f2)):
 ∀n:Nat,#[2*n+1,f,fd,["term"],spTTm n]
 |0=>HI
 |n+1=>HJ F B X (Cal.of F2 (uA F2 (Cal.of F (oI F F2 B X m m2 n) m (λ_ _ _ _ _ _ us hl=>by let%[u0|1]:=FV hl;rfl))) m2 (λ_ _ _ _ _ _ us hl=>by let%[u0,u1|1]:=Dd hl;rfl))
def Hr.ws:Hr->List Str
 |.fin=>["end"] | .go n=>["go",bV n] | .iff t n=>["if",t.str,bV n] | .set x t=>["set",x,t.str] | .say t=>["say",t.str]
def Hr.str(r:Hr):Str:=Txt.join (" ":Str) r.ws
def HU:Hr.fin.str="end":=by decide
def JR{r:Hr}(h:r.ok 20):r.ws.length<=3/\∀z∈r.ws,z.length<=280:=by
 let fixed:∀z∈(Wv:List Str),z.length<=280:=by decide
 let ft:∀{t:Tm},t.fit 20->t.str.length<=280:=fun{t} h=>by
  have:=Tm.str_len h.1
  have:=h.2.1
  omega
 cases r with
 |fin=>erw[4,λz hz=>fixed z (by rw[Pg hz];decide)]
 |go n=>
   erw[by show 2<=3;decide,λz hz=>?_];rcases zX0 (show z∈[("go":Str),bV n]from hz)with rfl | hz
   . exact fixed _ ⋯
   . rw [Pg hz]
     have:=jZ h.1 h.2
     omega
 |iff t n=>
   erw[by show 3<=3;decide,λz hz=>?_];rcases zX0 (show z∈[("if":Str),t.str,bV n]from hz)with rfl | hz
   . exact fixed _ ⋯
   rcases zX0 hz with rfl | hz
   . exact ft h.1
   . rw [Pg hz]
     have:=jZ h.2.1 h.2.2
     omega
 |set x t=>
   erw[by show 3<=3;decide,λz hz=>?_];rcases zX0 (show z∈[("set":Str),x,t.str]from hz)with rfl | hz
   . exact fixed _ ⋯
   rcases zX0 hz with rfl | hz
   . have:=h.1.2.2.1
     omega
   . rw[Pg hz];exact ft h.2
 |say t=>
   erw[by show 2<=3;decide,λz hz=>?_];rcases zX0 (show z∈[("say":Str),t.str]from hz)with rfl | hz
   . exact fixed _ ⋯
   . rw[Pg hz];exact ft h
def yj(sep:Str)(zs:List Str)(h:sep.length=1):(Txt.join sep zs).length<=(zs.map (·.length)).sum+zs.length:=by
 have:=size_glued sep zs
 rw[h]at this;show(Builtin.Str.glued sep zs).length<=_;omega
def DN{r:Hr}(h:r.ok 20):(r.ws.map (·.length)).sum+r.ws.length<=900:=by
 let%[h1|h2]:=JR h
 have:=yZ h2
 have:r.ws.length*280<=840:=#[0]
 omega
def Hr.str_len{r:Hr}(h:r.ok 20):r.str.length<=900:=zP0 (yj _ _ ⋯) (DN h)
instance spRT:∀(v:V)(r:Hr),vs=[v]->HrAt H v r->r.ok 20->(∀H',Same H H'->Q (.str r.str) H'):=1
def y4:FnScope ["row","word"] ["row"] (aj mX):=%[|5]
def xP(F:#["row_text",mX])(B:Bl mg)(fJ:#[17,"term_text",["term"],spTTm 8]):#[18,f,fd,["row"],spRT]:=by
 exists y4
 erw[v,r,1,T,ok,k]at h;refine⟨_,(ad #[ao,1,y4,aM ix_tup (pv 0) ag #[1]]
  (ad (aJ (ai aQ (pv 1) aF (ay _)) (af (am (dZ zQ1 qM1 qN1 kc aF %[bZ %[1,aM ix_tup (pv 0) ag #[1],ax fJ hr ⋯ rfl %[aM ix_tup (pv 0) ag #[1]|ae]|ae]|ae]))) aB)
  (ad (aJ (ai aQ (pv 1) aF (ay _)) (af (am (dZ zQ1 qM1 qN1 kc aF %[bZ %[1,ax fJ hr ⋯ rfl %[aM ix_tup (pv 0) ag #[1]|ae]|ae]|ae]))) aB)
  (ad (aJ (ai aQ (pv 1) aF (ay _)) (af (am (dZ zQ1 qM1 qN1 kc aF %[bZ %[1,ax fJ hr ⋯ rfl %[aM ix_tup (pv 0) ag #[1]|ae],bc ku rfl B.str jA %[aM ix_tup (pv 0) ag #[1]|ae]|ae]|ae]))) aB)
  (ad (aJ (ai aQ (pv 1) aF (ay _)) (af (am (dZ zQ1 qM1 qN1 kc aF %[bZ %[1,bc ku rfl B.str jA %[aM ix_tup (pv 0) ag #[1]|ae]|ae]|ae]))) aB)
  (af (am (pv 1)))))))),?_⟩
 let l2:((" ":Str)).length<=16:=by decide
 let big:∀{m:Nat},m<=900->m<=1048576:=λh=>zP0 h ⋯
 let wsum:=DN ok;cases T with
 | @fin a e=>
   erw[0,a,_,(0),.str "end",1,1,zC0 e,at0 ..,6];erw[0,1,0,6];apply aE (fo ⋯) ?_;erw[0,1,0,6];apply aE (fo ⋯) ?_;erw[0,1,0,6];apply aE (fo ⋯) ?_;erw[0,1,0,6];apply aE (fo ⋯) ?_;let k':=k H (Same.refl H);rw[HU]at k';erw[0,k']
 | @go a n e=>
   erw[0,a,_,(0),.str "go",1,1,zC0 e,at0 ..,6];erw[0,1,0,6];apply aE (fo ⋯) ?_;erw[0,1,0,6];apply aE (fo ⋯) ?_;erw[0,1,0,6];apply aE (fo ⋯) ?_;erw[0,1,0,6];apply aW rfl ?_;erw[1,0,0,a,_,(1),0,1,zC0 e,at1 ..,n,1,pZ ok.1 ok.2,y2S,λL hL=>?_];let eL:upd H L (.lst [.str "go",.str (toString n)]) L=some (.lst ((Hr.go n).ws.map V.str)):=ah;erw[_,L,0,1,zG0 eL,l2,big wsum,k _ (zE0 hL _)]
 | @iff a v t n e g=>
   erw[0,a,_,(0),.str "if",1,1,zC0 e,at0 ..,6];erw[0,1,0,6];apply aE (fo ⋯) ?_;erw[0,1,0,6];apply aE (fo ⋯) ?_;erw[0,1,0,6];apply aW rfl ?_;erw[1,0,0,a,_,(1),0,1,zC0 e,at1 ..,v,t,1,g,ok.1.1,ok.1.2.2,by have:=ok.1.2.1;omega,λH1 S1=>?_];erw[0,a,_,(2),0,1,zC0 (S1 _ _ e),at2 ..,n,1,pZ ok.2.1 ok.2.2,y3S,λL hL=>?_];let eL:upd H1 L (.lst [.str "if",.str t.str,.str (toString n)]) L=some (.lst ((Hr.iff t n).ws.map V.str)):=ah;erw[_,L,0,1,zG0 eL,l2,big wsum,k _ (S1.trans (zE0 hL _))]
 | @set a x v t e g=>
   erw[0,a,_,(0),.str "set",1,1,zC0 e,at0 ..,6];erw[0,1,0,6];apply aW rfl ?_;erw[1,0,0,a,_,(1),.str x,1,1,zC0 e,at1 ..,0,a,_,(2),v,1,1,zC0 e,at2 ..,v,t,1,g,ok.2.1,ok.2.2.2,by have:=ok.2.2.1;omega,λH1 S1=>?_];erw[y3S,λL hL=>?_];let eL:upd H1 L (.lst [.str "set",.str x,.str t.str]) L=some (.lst ((Hr.set x t).ws.map V.str)):=ah;erw[_,L,0,1,zG0 eL,l2,big wsum,k _ (S1.trans (zE0 hL _))]
 | @say a v t e g=>
   erw[0,a,_,(0),.str "say",1,1,zC0 e,at0 ..,6];erw[0,1,0,6];apply aE (fo ⋯) ?_;erw[0,1,0,6];apply aW rfl ?_;erw[1,0,0,a,_,(1),v,1,1,zC0 e,at1 ..,v,t,1,g,ok.1,ok.2.2,by have:=ok.2.1;omega,λH1 S1=>?_];erw[y2S,λL hL=>?_];let eL:upd H1 L (.lst [.str "say",.str t.str]) L=some (.lst ((Hr.say t).ws.map V.str)):=ah;erw[_,L,0,1,zG0 eL,l2,big wsum,k _ (S1.trans (zE0 hL _))]
def FY{H:Hp}{b:Addr}{ys zs:List V}(h:H b=some (.lst ys)):cG H (upd H b (.lst zs)):=λa xs e=>by
 rw[aD (λz=>by rw[z,h]at e;cases e)];exact e
def RowsAt.nil:RowsAt H [] []:=%[1|λi v r h=>by simp at h]
def RowsAt.snoc(h:RowsAt H tv rs)(a:HrAt H v r):RowsAt H (tv++[v]) (rs++[r]):=by
 erw[by rw[zJ0,zJ0,h.1];rfl,λi u s hu hs=>?_];let hl:=h.1
 by_cases c:i<tv.length
 . rw[zU1 c]at hu;rw[zU1 #[0]]at hs;exact h.2 i u s hu hs
 . rw [zK1 #[0]]at hu;rw[zK1 #[0]]at hs;let e1:i-tv.length=0:=by
    have:=(Pj hu).1
    rw[qM0]at this;omega
   let e2:i-rs.length=0:=#[0]
   rw[e1]at hu;rw[e2]at hs;cases hu;cases hs;exact a
def mK(rs:List Hr):Prop:=rs.length<=60/\∀r∈rs,r.ok 20
def oV(rs:List Hr):Str:=Txt.join ("\n":Str) (rs.map Hr.str)
def yt(g:mK rs):((rs.map Hr.str).map (·.length)).sum+(rs.map Hr.str).length<=60000:=by
 have:=yZ (l:=rs.map Hr.str) (b:=900) λp hp=>by
  let%[r,hr|1]:=List.mem_map.mp hp;exact Hr.str_len (g.2 r hr)
 rw[zF0]at this ⊢;let h1:=g.1
 have:rs.length*900<=60*900:=Nat.mul_le_mul_right _ h1
 omega
def Gn(g:mK rs):(oV rs).length<=60000:=zP0 (yj _ _ ⋯) (yt g)
instance spHT:∀(a:Addr)(tv:List V)(rs:List Hr),vs=[.ref a]->H a=some (.tup tv)->RowsAt H tv rs->mK rs->(∀H',Same H H'->Q (.str (oV rs)) H'):=1
def rW:FnScope WR WR (aj iZ):=%[|5]
def sX(F:#["helper_text",iZ])(o6:#[18,"row_text",["row"],spRT]):#[19,f,fd,WR,spHT]:=by
 exists rW
 erw[a,tv,rs,1,ha,RA,gr,k]at h;refine⟨_,(af (am (dZ zQ1 qM1 qN1 kc aF (aa (cf (N:=[]) (ix:=[]) (cl:=[]) rfl #[5] rfl (fh (pv 0))
         (λ_ _ _=>cg (ax o6 hr ⋯ rfl %[0|ae]))) ae)))),?_⟩
 let rl:=RA.1;let r60:=gr.1;erw[1,0,a,1,%[_|zC0 ha],λD hD=>?_];apply eN (K:=K) (xs:=tv) (λi H'=>H' D=some (.lst (((rs.take i).map Hr.str).map V.str))/\Same H H') %[by rw[ah];rfl|zE0 hD _] (λi H' _ h=>zC0 (h.2 _ _ ha)) ?_ ?_
 . rintro i z H2 hz ⟨hD2,S2⟩;let hi:=(Pj hz).1;let ht:rs[i]?=some (rs[i]'#[0]):=zL0 #[0];erw[0,z,0,(RA.2 i z _ hz ht).mono (aY S2),gr.2 _ (qF0 ht),λH3 S3=>?_];erw[_,S3 _ _ hD2,6,Nx.of hi %[6|λb' o' e'=>?_]]
   . rw[zF0,zF0,qI0];exact aN #[0]
   . rw[ah,qC0,ht,zK0,zK0];rfl
   . rw[aD (aO e' hD)];exact S3 _ _ (S2 _ _ e')
 rintro H2 ⟨hD2,S2⟩;rw[rl,qB0]at hD2;erw[_,D,0,1,zG0 hD2,⋯,zP0 (yt gr) ⋯,k H2 S2]
abbrev pI:Stmt:=top 15
abbrev vK:Stmt:=bn pI 0
abbrev sj:Stmt:=bn pI 1
abbrev vJ:Stmt:=bn pI 2
abbrev vI:Stmt:=bn pI 3
abbrev vH:Stmt:=bn pI 4
abbrev pH:Stmt:=bn pI 5
structure STxt(K:W.Frag)(mg:#[9])(C:Addr):Prop where
 cl:Cls K C
 nX:NoAttr K C "text"
 nR:NoAttr K C "row"
 nW:NoAttr K C "most_within"
 nP:NoAttr K C "most_parts"
 nL:NoAttr K C "place"
 nN:NoAttr K C "parts"
 mgC:mg "Scan"=some (.ref C)
def sG(f:Str)(v:V):∀(fs:List (Str×V))(u:V),fs.lookup f=some u->(bJ f v fs).length=fs.length
 | [],u,h=>by cases h
 | (g,x)::r,u,h=>by
   unfold bJ
   by_cases e:g=f
   . rw[O9 e];rfl
   . rw [O8 e];let e':(f==g)=false:=#[λz=>e z.symm,0]
     simp only[List.lookup,e']at h;rw[zR0,zR0,sG f v r u h]
def cw(f:Str)(v:V):∀fs:List (Str×V),(bJ f v fs).length<=fs.length+1
 | []=>zH0 _
 | (g,u)::r=>by
   have:=cw f v r
   unfold bJ
   split
   . simp
   . simp only[zR0];omega
structure SF(T:Str)(p n:Nat)(fs:List (Str×V)):Prop where
 text:fs.lookup ("text":Str)=some (.str T)
 mw:fs.lookup ("most_within":Str)=some (.int 8)
 mp:fs.lookup ("most_parts":Str)=some (.int 20)
 place:fs.lookup ("place":Str)=some (.int (p:Int))
 parts:fs.lookup ("parts":Str)=some (.int (n:Int))
 no1:fs.lookup ("enter":Str)=none
 no2:fs.lookup ("sees":Str)=none
 no3:fs.lookup ("take":Str)=none
 no4:fs.lookup ("word":Str)=none
 no5:fs.lookup ("finish":Str)=none
 len:fs.length<=6
def SF.toPlace(h:SF T p n fs)(p':Nat):SF T p' n (bJ "place" (.int (p':Int)) fs):=by
 erw[6,6,6,6,6,6,6,6,6,6,6]
 . rw[aq,O8 ⋯];exact h.text
 . rw[aq,O8 ⋯];exact h.mw
 . rw[aq,O8 ⋯];exact h.mp
 . rw[aq,O9 rfl]
 . rw[aq,O8 ⋯];exact h.parts
 . rw[aq,O8 ⋯];exact h.no1
 . rw[aq,O8 ⋯];exact h.no2
 . rw[aq,O8 ⋯];exact h.no3
 . rw[aq,O8 ⋯];exact h.no4
 . rw[aq,O8 ⋯];exact h.no5
 . rw[sG _ _ _ _ h.place];exact h.len
def SF.toParts(h:SF T p n fs)(n':Nat):SF T p n' (bJ "parts" (.int (n':Int)) fs):=by
 erw[6,6,6,6,6,6,6,6,6,6,6]
 . rw[aq,O8 ⋯];exact h.text
 . rw[aq,O8 ⋯];exact h.mw
 . rw[aq,O8 ⋯];exact h.mp
 . rw[aq,O8 ⋯];exact h.place
 . rw[aq,O9 rfl]
 . rw[aq,O8 ⋯];exact h.no1
 . rw[aq,O8 ⋯];exact h.no2
 . rw[aq,O8 ⋯];exact h.no3
 . rw[aq,O8 ⋯];exact h.no4
 . rw[aq,O8 ⋯];exact h.no5
 . rw[sG _ _ _ _ h.parts];exact h.len
def sfs(T:Str)(k:Int):List (Str×V):=bJ "parts" (.int 0) (bJ "place" (.int 0) (bJ "most_parts" (.int 20) (bJ "most_within" (.int 8) (bJ "row" (.int k) (bJ "text" (.str T) [])))))
def Kc(T:Str)(k:Int):SF T 0 0 (sfs T k):=by
 let no:∀m:Str,m≠"parts" -> m≠"place" -> m≠"most_parts" -> m≠"most_within" -> m≠"row" -> m≠"text" -> (sfs T k).lookup m=none:=λm h1 h2 h3 h4 h5 h6=>by
  unfold sfs;rw[aq,O8 h1,aq,O8 h2,aq,O8 h3,aq,O8 h4,aq,O8 h5,aq,O8 h6];rfl
 erw[6,6,6,6,6,no _ ⋯ ⋯ ⋯ ⋯ ⋯ ⋯,no _ ⋯ ⋯ ⋯ ⋯ ⋯ ⋯,no _ ⋯ ⋯ ⋯ ⋯ ⋯ ⋯,no _ ⋯ ⋯ ⋯ ⋯ ⋯ ⋯,no _ ⋯ ⋯ ⋯ ⋯ ⋯ ⋯,6]
 . unfold sfs;rw[aq,O8 ⋯,aq,O8 ⋯,aq,O8 ⋯,aq,O8 ⋯,aq,O8 ⋯,aq,O9 rfl]
 . unfold sfs;rw[aq,O8 ⋯,aq,O8 ⋯,aq,O8 ⋯,aq,O9 rfl]
 . unfold sfs;rw[aq,O8 ⋯,aq,O8 ⋯,aq,O9 rfl]
 . unfold sfs;rw[aq,O8 ⋯,aq,O9 rfl];rfl
 . unfold sfs;rw[aq,O9 rfl];rfl
 . unfold sfs;apply zP0 (cw _ _ _) (zG1 (zP0 (cw _ _ _) (zG1 (zP0 (cw _ _ _) (zG1 (zP0 (cw _ _ _) (zG1 (zP0 (cw _ _ _) (zG1 (cw _ _ _))))))))))
def ScanAt(C:Addr)(H:Hp)(sc:Addr)(T:Str)(p n:Nat):Prop:=∃dx fs,H sc=some (.ins C dx fs)/\SF T p n fs
instance spSInit(C:Addr):∀(g dx:Addr)(T:Str)(k:Int),vs=[.ref g,.str T,.int k,.int 8,.int 20]->H g=some (.ins C dx [])->(∀H',ScanAt C H' g T 0 0->SameBut g H H'->Q .non H'):=1
def Ev:FnScope Wm Wm (aj vK):=%[|5]
def Fg(F:#["__init__","Scan.__init__",vK])(T:STxt K mg C):#[1,f,fd,Wm,spSInit C]:=by
 exists Ev
 erw[g,dx,Tx,kr,1,hg,q]at h;erw[_,(ad (aR (pv 0) (pv 1) rfl) (ad (aR (pv 0) (pv 2) rfl) (ad (aR (pv 0) (pv 3) rfl) (ad (aR (pv 0) (pv 4) rfl) (ad (aR (pv 0) ag rfl) (af (aR (pv 0) ag rfl))))))),6];erw[0,0,g,C,dx,[],1,hg,T.cl,T.nX,(by show 0<1000;decide),6];erw[0,0,g,C,dx,0,ah,9,T.nR,(zJ1 (cw _ _ _) (by show 1<1000;decide)),6];erw[0,0,g,C,dx,0,ah,9,T.nW,(zJ1 (cw _ _ _) (zJ1 (zG1 (cw _ _ _)) (by show 2<1000;decide))),6];erw[0,0,g,C,dx,0,ah,9,T.nP,(zJ1 (cw _ _ _) (zJ1 (zG1 (zP0 (cw _ _ _) (zG1 (cw _ _ _)))) (by show 3<1000;decide))),6];erw[0,g,C,dx,0,ah,9,T.nL,(zJ1 (cw _ _ _) (zJ1 (zG1 (zP0 (cw _ _ _) (zG1 (zP0 (cw _ _ _) (zG1 (cw _ _ _)))))) (by show 4<1000;decide))),6];erw[0,g,C,dx,0,ah,9,T.nN,(zJ1 (cw _ _ _) (zJ1 (zG1 (zP0 (cw _ _ _) (zG1 (zP0 (cw _ _ _) (zG1 (zP0 (cw _ _ _) (zG1 (cw _ _ _)))))))) (by show 5<1000;decide))),6];exact q _ ⟨dx,sfs Tx kr,ah,Kc Tx kr⟩ ((SameBut.upd _).trans ((SameBut.upd _).trans ((SameBut.upd _).trans ((SameBut.upd _).trans ((SameBut.upd _).trans (SameBut.upd _))))))
def SF.size(h:SF T p n fs):fs.length<1000:=zJ1 h.len ⋯
instance spEnter(C:Addr):∀(sc:Addr)(T:Str)(p n:Nat)(wi:Int),vs=[.ref sc,.int wi]->ScanAt C H sc T p n->wi<=8->n+1<=20->(∀H',ScanAt C H' sc T p (n+1)->SameBut sc H H'->Q .non H'):=1
def Cd:FnScope Wn Wn (aj sj):=%[|5]
def Cu(F:#["enter","Scan.enter",sj])(T:STxt K mg C):#[1,f,fd,Wn,spEnter C]:=by
 exists Cd
 erw[sc,Tx,p,n,wi,1,%[dx,fs,hs|sf],w10,n30,q]at h;refine⟨_,(ad (aR (pv 0) (au aV (az (pv 0) rfl) ag) rfl)
  (af (aJ (PW.pt (iD (ai iS (pv 1) (az (pv 0) rfl) (ay _)) (hV (ai iS (az (pv 0) rfl) (az (pv 0) rfl) (ay _))))) bq aB))),?_⟩
 let sf':=sf.toParts (n+1);erw[0,sc,C,dx,fs,0,hs,9,T.nN,sf.parts,2,0,sc,C,dx,fs,1,hs,9,T.nN,sf.size,6];let hs':upd H sc (.ins C dx (bJ "parts" (.int ((n:Int)+1)) fs)) sc=some (.ins C dx (bJ "parts" (.int ((n+1:Nat):Int)) fs)):=ah;erw[0,0,sc,C,dx,_,0,hs',9,T.nW,sf'.mw,2,0,6];apply aE #[0] ?_;erw[0,sc,C,dx,_,0,hs',9,T.nN,sf'.parts,0,sc,C,dx,_,0,hs',9,T.nP,sf'.mp,2,0,6];apply aE #[0] ?_;exact q _ ⟨dx,_,hs',sf'⟩ (SameBut.upd _)
instance spSees(C:Addr):∀(sc:Addr)(T u:Str)(p n:Nat),vs=[.ref sc,.str u]->ScanAt C H sc T p n->Q (.bl (gO T u p)) H:=1
def Et:FnScope WG WG (aj vJ):=%[|5]
def Ff(F:#["sees","Scan.sees",vJ])(T:STxt K mg C):#[1,f,fd,WG,spSees C]:=by
 exists Et
 erw[sc,Tx,u,p,n,1,%[dx,fs,hs|sf],q]at h;erw[_,(af (am (dZ zQ1 PySem.F.slot_str_startswith PySem.F.type_str_startswith yb (az (pv 0) rfl) %[1,az (pv 0) rfl|ae]))),6];erw[0,sc,C,dx,fs,0,hs,9,T.nX,sf.text,1,0,0,sc,C,dx,fs,0,hs,9,T.nL,sf.place,Tx,u,0,1,q]
instance spTake'(C:Addr):∀(sc:Addr)(T u:Str)(p n:Nat),vs=[.ref sc,.str u]->ScanAt C H sc T p n->gO T u p=true->u.length<=10->(∀H',ScanAt C H' sc T (p+u.length) n->SameBut sc H H'->Q .non H'):=1
def Es:FnScope WG WG (aj vI):=%[|5]
def Fe(F:#["take","Scan.take",vI])(B:Bl mg)(T:STxt K mg C)(mS:Meth K C "sees" fS)(GS:#[1,fS,fdS,WG,spSees C])(bS:Binds K fdS WG []):#[2,f,fd,WG,spTake' C]:=by
 exists Es
 erw[sc,Tx,u,p,n,1,S,hu,u10,q]at h;let hr1:Room 1 _:=hr.mono ⋯;refine⟨_,(ad (aJ (hZ (eI (bK (pv 0) T.cl mS GS hr1 bS .nil aZ %[1|ae]))) bq aB)
  (af (aR (pv 0) (au aV (az (pv 0) rfl) (aG de rfl B.len zD1 %[1|ae])) rfl))),?_⟩
 let%[dx,fs,hs|sf]:=id S;erw[0,sc,dx,fs,1,hs,sf.no2,0,sc,Tx,u,p,n,1,S,0,6];rw[hu];apply cE ?_;erw[0,sc,C,dx,fs,0,hs,9,T.nL,sf.place,0,u,1,cx #[0],2,0,sc,C,dx,fs,1,hs,T.cl,T.nL,sf.size,6];let hs':upd H sc (.ins C dx (bJ "place" (.int ((p:Int)+(u.length:Int))) fs)) sc=some (.ins C dx (bJ "place" (.int ((p+u.length:Nat):Int)) fs)):=by rw[ah,jQ1]
 exact q _ %[dx,_,hs'|sf.toPlace _] (SameBut.upd _)
def yP(r:List Nat):Prop:=r=[]∨∃c r',r=c::r'/\(c=32∨c=40∨c=41)
instance spWord(C:Addr):∀(sc:Addr)(T:Str)(p n:Nat)(x r:List Nat),vs=[.ref sc]->ScanAt C H sc T p n->T.length<=1000->p<=T.length->T.cps.toList.drop p=x++r->(∀c∈x,isIn ENDS c=false)->yP r->(∀H',ScanAt C H' sc T (p+x.length) n->SameBut sc H H'->Q (.str (stl x)) H'):=1
def LU:FnScope ["self","start"] WA (aj vH):=%[|5]
def Fd(F:#["word","Scan.word",vH])(B:Bl mg)(X:Tx K mg)(T:STxt K mg C):#[1,f,fd,WA,spWord C]:=by
 exists LU
 erw[sc,Tx,p,n,x,r,1,%[dx,fs,hs|sf],tl,pl,hd,xl,er,q]at h;erw[te,ge]at X.ends;refine⟨_,(ad #[ao,1,LU,az (pv 0) rfl]
  (ad (iF zE1 (PW.pt (nu (ai gq (az (pv 0) rfl) (aG de rfl B.len zD1 %[az (pv 0) rfl|ae]) (ay _)) (lP (ai wk (aM wM (az (pv 0) rfl) (az (pv 0) rfl) #[1]) (cZ (v:=.str ENDS) rfl ge %[|0]) (by rfl'))))) (af (aR (pv 0) (au aV (az (pv 0) rfl) ag) rfl)))
  (af (am (eJ zm (az (pv 0) rfl) (eP (pv 1)) (eP (az (pv 0) rfl))))))),?_⟩
 let L:Tx.cps.toList.length=Tx.length:=by rw[qF1];rfl
 let hlen:Tx.length=p+(x.length+r.length):=by
  have:=congrArg List.length hd
  rw[jW1,zJ0,L]at this;omega
 erw[0,sc,C,dx,fs,0,hs,9,T.nL,sf.place,6];erw[λm σ H'=>∃j:Nat,j<=x.length/\σ=[some (.ref sc),some (.int (p:Int))]/\ScanAt C H' sc Tx (p+j) n/\SameBut sc H H'/\m=x.length-j,%[_,(0),zW0 _,1,%[dx,fs,hs|sf],SameBut.refl _ _|1],6];rintro m σ H1 ⟨j,hj,rfl,⟨dx1,fs1,hs1,sf1⟩,S1,rfl⟩;erw[0,sc,C,dx1,fs1,0,hs1,9,T.nL,sf1.place,0,sc,C,dx1,fs1,0,hs1,9,T.nX,sf1.text,Tx,1,cx tl,2,0,6];let sl:j=x.length->Txt.slice Tx (some (p:Int)) (some ((p+j:Nat):Int))=stl x:=λej=>by
  let es:Txt.slice Tx (some (p:Int)) (some ((p+j:Nat):Int))=_:=StrLaws.sliceText_plain (i:=(p:Int)) (j:=((p+j:Nat):Int)) %[3,3|by rw[L];omega];rw[es];apply vq ?_;show(Tx.cps.toList.drop (p:Int).toNat).take (((p+j:Nat):Int)-(p:Int)).toNat=x;rw[show(p:Int).toNat=p by omega,show(((p+j:Nat):Int)-(p:Int)).toNat=x.length by omega,hd,List.take_left'];rfl
 by_cases c1:(((p+j:Nat):Int))<(Tx.length:Int)
 . apply aW c1 ?_;let hk:p+j<Tx.cps.toList.length:=by rw[L];omega
   let ha:atI Tx.cps.toList ((p+j:Nat):Int)=some Tx.cps.toList[p+j]:=cu (zL0 hk);let hx:Tx.cps.toList[p+j]?=(x++r)[j]?:=by rw[←hd,List.getElem?_drop]
   erw[0,sc,C,dx1,fs1,0,hs1,9,T.nX,sf1.text,0,sc,C,dx1,fs1,0,hs1,9,T.nL,sf1.place,Tx,2,cx tl,ha,2,0,6]
   by_cases c2:j<x.length
   . let ec:Tx.cps.toList[p+j]=x[j]:=by
      rw[zL0 hk,zU1 c2,zL0 c2]at hx;exact zS0 hx
     let en:(!isIn ENDS Tx.cps.toList[p+j])=true:=by rw[ec,xl _ (qP0 c2)];rfl
     let en':(!(!(Builtin.Str.occurrences ENDS %[|#[Tx.cps.toList[p+j]]] 0 ENDS.length 1).isEmpty))=true:=en;rw[en'];erw[_,λ_ _ h=>h,6];erw[0,sc,C,dx1,fs1,0,hs1,9,T.nL,sf1.place,2,0,sc,C,dx1,fs1,1,hs1,9,T.nL,sf1.size,6];let hs':upd H1 sc (.ins C dx1 (bJ "place" (.int (((p+j:Nat):Int)+1)) fs1)) sc=some (.ins C dx1 (bJ "place" (.int ((p+(j+1):Nat):Int)) fs1)):=by
      rw[ah,show((p+j:Nat):Int)+1=((p+(j+1):Nat):Int) by omega]
     erw[_,3,j+1,3,1,%[dx1,_,hs'|sf1.toPlace _],S1.trans (SameBut.upd _),1]
   . let ej:j=x.length:=#[0]
     let en:(!isIn ENDS Tx.cps.toList[p+j])=false:=by
      rcases er with rfl | ⟨c,r',rfl,hc⟩
      . rw[zH1]at hlen;omega
      . rw [zL0 hk,zK1 #[0],show j-x.length=0 by omega]at hx;let ec:Tx.cps.toList[p+j]=c:=zS0 hx;rw[ec];rcases hc with rfl | rfl | rfl
        . rw[ends_in.1];rfl
        . rw[ends_in.2.1];rfl
        . rw[ends_in.2.2];rfl
     let en':(!(!(Builtin.Str.occurrences ENDS %[|#[Tx.cps.toList[p+j]]] 0 ENDS.length 1).isEmpty))=false:=en;rw[en'];erw[0,sc,C,dx1,fs1,0,hs1,9,T.nX,sf1.text,0,0,0,sc,C,dx1,fs1,0,hs1,9,T.nL,sf1.place,0,Tx,1,cx tl,6];rw[sl ej];rw[ej]at sf1;exact q H1 ⟨dx1,fs1,hs1,sf1⟩ S1
 . apply aE c1 ?_;let ej:j=x.length:=#[0]
   erw[0,sc,C,dx1,fs1,0,hs1,9,T.nX,sf1.text,0,0,0,sc,C,dx1,fs1,0,hs1,9,T.nL,sf1.place,0,Tx,1,cx tl,6];rw[sl ej];rw[ej]at sf1;exact q H1 ⟨dx1,fs1,hs1,sf1⟩ S1
instance spFinish(C:Addr):∀(sc:Addr)(T:Str)(n:Nat),vs=[.ref sc]->ScanAt C H sc T T.length n->T.length<=1000->Q .non H:=1
def zr:FnScope WA WA (aj pH):=%[|5]
def zM(F:#["finish","Scan.finish",pH])(B:Bl mg)(T:STxt K mg C):#[1,f,fd,WA,spFinish C]:=by
 exists zr
 erw[sc,Tx,n,1,%[dx,fs,hs|sf],tl,q]at h;erw[_,(af (aJ (ai lq (az (pv 0) rfl) (aG de rfl B.len zD1 %[az (pv 0) rfl|ae]) (ay _)) bq aB)),6];erw[0,sc,C,dx,fs,0,hs,9,T.nL,sf.place,0,sc,C,dx,fs,0,hs,9,T.nX,sf.text,Tx,1,cx tl,1,0,6];show if(!decide (V.int (Tx.length:Int)=V.int (Tx.length:Int)))=true then _ else _
 rw[zC1 rfl];exact cE q
def Gy(n p:Nat):PySem.fromIndex n (p:Int)=p:=by
 unfold PySem.fromIndex;rw[O8 #[0]];omega
def AI(T u:Str)(p:Nat):Builtin.Str.subAt T u p=decide ((T.cps.toList.drop p).take u.length=u.cps.toList):=by
 unfold Builtin.Str.subAt;let e:(T.cps.extract p (p+u.length)).toList=(T.cps.toList.drop p).take u.length:=by
  rw[Array.toList_extract,List.extract_eq_drop_take]
  congr 1
  omega
 by_cases c:(T.cps.toList.drop p).take u.length=u.cps.toList
 . rw [zC1 c]
   have:T.cps.extract p (p+u.length)=u.cps:=Array.toList_inj.mp (e.trans c)
   rw[this]
   simp
 . rw [zB1 c]
   have:¬ T.cps.extract p (p+u.length)=u.cps:=λz=>c (by rw[←e,z])
   simpa using this
def oQ(T:Str):T.cps.toList.length=T.length:=by rw[qF1];rfl
def lW{T:Str}{p:Nat}{u v:List Nat}(h:T.cps.toList.drop p=u++v)(hp:p<=T.length):p+u.length+v.length=T.length:=by
 have:=congrArg List.length h
 rw[jW1,zJ0,oQ]at this;omega
def cz{T:Str}{p:Nat}{u v:List Nat}(h:T.cps.toList.drop p=u++v):T.cps.toList.drop (p+u.length)=v:=by
 rw[←List.drop_drop,h,List.drop_left]
def eB{T u:Str}{p:Nat}{r:List Nat}(h:T.cps.toList.drop p=u.cps.toList++r)(hp:p<=T.length):gO T u (p:Int)=true:=by
 unfold gO;let hl:=lW h hp;rw[oQ]at hl;rw[Gy,AI,zC1 #[0],h,←oQ u,List.take_left,zC1 rfl];rfl
def BV{T:Str}{p:Nat}{c:Nat}{r:List Nat}(h:T.cps.toList.drop p=c::r)(hc:c≠40):gO T ("(":Str) (p:Int)=false:=by
 unfold gO;let l1:(("(":Str)).length=1:=by decide
 rw[Gy,AI,h,qb,l1]
 have:¬ (c::r).take 1=[40]:=λz=>hc #[z,0]
 rw[zB1 this,wZ1]
def dq(S:ScanAt C H sc T p n)(s:SameBut sc H H'):cG H H':=λa xs h=>s a _ (λz=>by
 erw[dx,fs,e,_]at S;rw[z,e]at h;cases h) h
def ScanAt.same(S:ScanAt C H sc T p n)(s:Same H H'):ScanAt C H' sc T p n:=by
 erw[dx,fs,e,sf]at S;erw[dx,fs,s _ _ e,sf]
structure Mths(P:Program)(w:World)(K:W.Frag)(mg:#[9])(base:Heap)(C fE fS fT fW fF:Addr)(dE dS dT dW dF:FuncData):Prop where
 mE:Meth K C "enter" fE
 gE:#[1,fE,dE,Wn,spEnter C]
 bE:Binds K dE Wn []
 mS:Meth K C "sees" fS
 gS:#[1,fS,dS,WG,spSees C]
 bS:Binds K dS WG []
 mT:Meth K C "take" fT
 gT:#[2,fT,dT,WG,spTake' C]
 bT:Binds K dT WG []
 mW:Meth K C "word" fW
 gW:#[1,fW,dW,WA,spWord C]
 bW:Binds K dW WA []
 mF:Meth K C "finish" fF
 gF:#[1,fF,dF,WA,spFinish C]
 bF:Binds K dF WA []
def GJ:∀c:Nat,c<62->42<=c->isIn ENDS c=false:=by decide
def KS:∀c:Fin 26,isIn FIG (97+c.val)=false:=by decide
def Gi{c:Nat}(h:97<=c/\c<=122):isIn FIG c=false:=by
 have:=KS %[c-97|3]
 rwa [show 97+(%[c-97|3]:Fin 26).val=c by show 97+(c-97)=c;omega]at this
def Ds(h:NmK x):mh x=false:=by
 unfold mh;erw[hl,h1,_,_]at h
 have:x.cps.toList.all (isIn FIG)=false:=by
  cases e:x.cps.toList with
  |nil=>
    have:=dU x
    unfold cd at this;rw[e]at this
    simp at this
    omega
  |cons c r=>
    have:=Gi (hl c (by rw[e];exact qA0))
    rw[wC0,this];rfl
 rw[this,wZ1]
def qj(l:List Nat):Prop:=∀c∈l,isIn ENDS c=false
def dI{l:List Nat}(h:∀c∈l,97<=c/\c<=122):qj l:=λc hc=>Dl (h c hc)
def sO{l:List Nat}(h:∀c∈l,42<=c/\c<=61):qj l:=λc hc=>GJ c (by have:=h c hc;omega) (h c hc).1
def sN{n:Int}(h:0<=n):qj (cd (bV n)):=sO λc hc=>by have:=lS h c hc;omega
def Cq(h:qj l)(h1:1<=l.length)(r:List Nat):∃c r',l++r=c::r'/\c≠40:=by
 cases l with
 |nil=>cases h1
 |cons c l'=>
   erw[c,l'++r,1,λe=>?_]
   have:=h c qA0
   rw[e,ends_in.2.1]at this;cases this
instance spNextT(C:Addr)(n:Nat):∀(sc:Addr)(wi:Int)(T:Str)(p k:Nat)(t:Tm)(r:List Nat),vs=[.ref sc,.int wi]->ScanAt C H sc T p k->T.length<=1000->p<=T.length->T.cps.toList.drop p=[32]++(t.txt++r)->yP r->t.ok->t.depth<=n->wi+(t.depth:Int)<=9->k+t.size<=20->(∀(v:V)(H':Hp),TmAt H' v t->ScanAt C H' sc T (p+1+t.txt.length) (k+t.size)->SameBut sc H H'->Q v H'):=1
instance spTB(C:Addr)(n:Nat):∀(sc:Addr)(wi:Int)(T:Str)(p k:Nat)(t:Tm)(r:List Nat),vs=[.ref sc,.int wi]->ScanAt C H sc T p (k+1)->T.length<=1000->p<=T.length->T.cps.toList.drop p=t.txt++r->t.ok->((∃w a,t=.ask w a)∨∃s a b,t=.op s a b)->t.depth<=n+1->wi+(t.depth:Int)<=9->k+t.size<=20->(∀(v:V)(H':Hp),TmAt H' v t->ScanAt C H' sc T (p+t.txt.length) (k+t.size)->SameBut sc H H'->Q v H'):=1
def cO:FnScope ["scan","within","word","first","term"] WK (aj dY):=%[|5]
def HK{n:Nat}(F:#["term_in_bracket",dY])(X:Tx K mg)(T:STxt K mg C)(M:Mths P w K mg base C fE fS fT fW fF dE dS dT dW dF)(c8:#[2*n+3,"next_term",WK,spNextT C n]):#[2*n+4,f,fd,WK,spTB C n]:=by
 exists cO
 erw[sc,wi,Tx,p,k,t,r,1,S0,tl,pl,hd,ok,kind,dn,wd,k20,q]at h;erw[ja,gj,hj]at X.asking;erw[sa,gs,hs]at X.signs;let hr1:Room 1 _:=hr.mono #[0];let hr2:Room 2 _:=hr.mono #[0];refine⟨_,(ad (bb (bK (pv 0) T.cl M.mT M.gT hr2 M.bT .nil aZ %[aF|ae]))
  (ad #[ao,2,cO,bz (pv 0) T.cl M.mW M.gW hr1 M.bW .nil aZ]
  (ad #[ao,3,cO,ax c8 hr #[0] rfl %[0,au aV (pv 1) ag|ae]]
  (ad (aJ (ai dP (pv 2) (cZ (v:=.ref ja) rfl gj rfl) (by rfl')) (af #[ao,4,cO,aS %[2,3|ae]]) (af (aJ (ai dP (pv 2) (cZ (v:=.ref sa) rfl gs rfl) (by rfl')) (af #[ao,4,cO,aS %[aF,2,3,ax c8 hr #[0] rfl %[0,au aV (pv 1) ag|ae]|ae]]) bq)))
  (ad (bb (bK (pv 0) T.cl M.mT M.gT hr2 M.bT .nil aZ %[aF|ae]))
  (af (am (pv 4)))))))),?_⟩
 let l1:(("(":Str)).length=1:=by decide
 let l3:((")":Str)).length=1:=by decide
 let%[dx0,fs0,hs0|sf0]:=id S0;rcases kind with⟨wd',a,rfl⟩ | ⟨o,a,b,rfl⟩
 . erw[okw,oka]at ok;let%[_,w1,wl|_]:=xf wd' okw;let da:a.depth<=n:=wE1 dn;let ed:(((Tm.ask wd' a).depth:Nat):Int)=(a.depth:Int)+1:=by show((a.depth+1:Nat):Int)=_;omega
   let es:(Tm.ask wd' a).size=a.size+1:=rfl;let wlen:(cd wd').length=wd'.length:=dU _;let hd0:Tx.cps.toList.drop p=[40]++(cd wd'++([32]++(a.txt++([41]++r)))):=by
    rw[hd];show([40]++(cd wd'++([32]++(a.txt++[41]))))++r=_
    simp
   let tlen:(Tm.ask wd' a).txt.length=1+(wd'.length+(1+(a.txt.length+1))):=by
    show([40]++(cd wd'++([32]++(a.txt++[41])))).length=_;simp only[zJ0,zR0,zH1,wlen]
   let hl0:=lW hd0 pl;simp only[zJ0,zR0,zH1,wlen]at hl0;let hd1:=cz hd0;let hd2:=cz hd1;let hd3:=cz hd2;let hd4:=cz hd3;simp only[zR0,zH1,wlen]at hd1 hd2 hd3 hd4;erw[0,sc,dx0,fs0,1,hs0,sf0.no3,sc,Tx,_,p,0,S0,eB (r:=cd wd'++([32]++(a.txt++([41]++r)))) (by rw[qb];exact hd0) pl,by rw[l1];decide,λH1 S1 B1=>?_];rw[l1]at S1;let%[dx1,fs1,hs1|sf1]:=id S1;erw[0,sc,dx1,fs1,1,hs1,sf1.no4,sc,Tx,_,_,cd wd',0,S1,tl,3,hd1,dI wl,.inr %[(32),0|.inl rfl],λH2 S2 B2=>?_];rw[wlen]at S2;erw[0,0,2,sc,wi+1,Tx,_,_,a,0,S2,tl,3,hd2,.inr %[(41),r,1|.inr (.inr rfl)],oka,da,3,3,λv1 H3 T3 S3 B3=>?_];erw[0,ja,0,.inr (hj _),1,⋯,0,6];let einj:inV (.str (stl (cd wd'))) (askW.map V.str)=true:=by rw[show stl (cd wd')=wd' from iV _,gK,zC1 okw]
   rw[einj];apply du ?_;erw[0,0,y2S,λc hc=>?_];let G:=zE0 hc (.tup [.str (stl (cd wd')),v1]);let S4:=S3.same G;let ec:upd H3 c (.tup [.str (stl (cd wd')),v1]) c=some (.tup [.str wd',v1]):=ah;let T4:=T3.mono (aY G);generalize upd H3 c (.tup [.str (stl (cd wd')),v1])=H4 at G S4 ec T4;let%[dx4,fs4,hs4|sf4]:=id S4;erw[0,sc,dx4,fs4,1,hs4,sf4.no3,sc,Tx,_,_,0,S4,eB (r:=r) (by rw[wH,show p+1+wd'.length+1+a.txt.length=p+(0+1)+wd'.length+(0+1)+a.txt.length by omega];exact hd4) #[0],by rw[l3];decide,λH5 S5 B5=>?_];rw[l3]at S5;let k5:=dq S4 B5;erw[0,6];rw[show p+1+wd'.length+1+a.txt.length+1=p+(Tm.ask wd' a).txt.length by rw[tlen];omega,show k+1+a.size=k+(Tm.ask wd' a).size by rw[es];omega]at S5;exact q _ _ (.ask (k5 _ _ ec) (T4.mono k5)) S5 (B1.trans (B2.trans (B3.trans ((zM0 G).trans B5))))
 . erw[oko,oka,okb]at ok;let%[o1,ol|no]:=qZ o oko;let dd:a.depth<=n/\b.depth<=n/\wi+(a.depth:Int)<=8/\wi+(b.depth:Int)<=8:=by
    let e1:(Tm.op o a b).depth=max a.depth b.depth+1:=rfl;rw[e1]at dn wd;omega
   let es:(Tm.op o a b).size=a.size+b.size+1:=rfl;let wlen:(cd o).length=o.length:=dU _;let hd0:Tx.cps.toList.drop p=[40]++(cd o++([32]++(a.txt++([32]++(b.txt++([41]++r)))))):=by
    rw[hd];show([40]++(cd o++([32]++(a.txt++([32]++(b.txt++[41]))))))++r=_
    simp
   let tlen:(Tm.op o a b).txt.length=1+(o.length+(1+(a.txt.length+(1+(b.txt.length+1))))):=by
    show([40]++(cd o++([32]++(a.txt++([32]++(b.txt++[41])))))).length=_;simp only[zJ0,zR0,zH1,wlen]
   let hl0:=lW hd0 pl;simp only[zJ0,zR0,zH1,wlen]at hl0;let hd1:=cz hd0;let hd2:=cz hd1;let hd3:=cz hd2;let hd4:=cz hd3;let hd5:=cz hd4;let hd6:=cz hd5;simp only[zR0,zH1,wlen]at hd1 hd2 hd3 hd4 hd5 hd6;erw[0,sc,dx0,fs0,1,hs0,sf0.no3,sc,Tx,_,p,0,S0,eB (r:=cd o++([32]++(a.txt++([32]++(b.txt++([41]++r)))))) (by rw[qb];exact hd0) pl,by rw[l1];decide,λH1 S1 B1=>?_];rw[l1]at S1;let%[dx1,fs1,hs1|sf1]:=id S1;erw[0,sc,dx1,fs1,1,hs1,sf1.no4,sc,Tx,_,_,cd o,0,S1,tl,3,hd1,sO ol,.inr %[(32),0|.inl rfl],λH2 S2 B2=>?_];rw[wlen]at S2;erw[0,0,2,sc,wi+1,Tx,_,_,a,0,S2,tl,3,hd2,.inr %[(32),0|.inl rfl],oka,dd.1,3,3,λv1 H3 T3 S3 B3=>?_];erw[0,ja,0,.inr (hj _),1,⋯,0,6];let einj:inV (.str (stl (cd o))) (askW.map V.str)=false:=by rw[show stl (cd o)=o from iV _,gK,zB1 no]
   rw[einj];apply cE ?_;erw[0,sa,0,.inr (hs _),1,⋯,0,6];let eins:inV (.str (stl (cd o))) (signW.map V.str)=true:=by rw[show stl (cd o)=o from iV _,gK,zC1 oko]
   rw [eins];apply du ?_;let hd4':Tx.cps.toList.drop (p+1+o.length+1+a.txt.length)=[32]++(b.txt++([41]++r)):=by
    rw[show p+1+o.length+1+a.txt.length=p+(0+1)+o.length+(0+1)+a.txt.length by omega];exact hd4
   erw[0,0,0,0,2,sc,wi+1,Tx,_,_,b,0,S3,tl,3,hd4',.inr %[(41),r,1|.inr (.inr rfl)],okb,dd.2.1,3,3,λv2 H4 T4 S4 B4=>?_];let T3':=T3.mono (dq S3 B4);erw[y4S,λc hc=>?_];let G:=zE0 hc (.tup [.str "op",.str (stl (cd o)),v1,v2]);let S5:=S4.same G;let ec:upd H4 c (.tup [.str "op",.str (stl (cd o)),v1,v2]) c=some (.tup [.str "op",.str o,v1,v2]):=ah;let T5:=T4.mono (aY G);let T5':=T3'.mono (aY G);generalize upd H4 c (.tup [.str "op",.str (stl (cd o)),v1,v2])=H5 at G S5 ec T5 T5';let%[dx5,fs5,hs5|sf5]:=id S5;erw[0,sc,dx5,fs5,1,hs5,sf5.no3,sc,Tx,_,_,0,S5,eB (r:=r) (by rw[wH,show p+1+o.length+1+a.txt.length+1+b.txt.length=p+(0+1)+o.length+(0+1)+a.txt.length+(0+1)+b.txt.length by omega];exact hd6) #[0],by rw[l3];decide,λH6 S6 B6=>?_];rw[l3]at S6;let k6:=dq S5 B6;erw[0,6];rw[show p+1+o.length+1+a.txt.length+1+b.txt.length+1=p+(Tm.op o a b).txt.length by rw[tlen];omega,show k+1+a.size+b.size=k+(Tm.op o a b).size by rw[es];omega]at S6;exact q _ _ (.op (k6 _ _ ec) (T5'.mono k6) (T5.mono k6)) S6 (B1.trans (B2.trans (B3.trans (B4.trans ((zM0 G).trans B6)))))
def t8:FnScope ["scan","within","word"] WK (aj iP):=%[|5]
def wE{n:Int}(h:0<=n):bV n∉plainW:=λhm=>by
 let%[_,w1,wl|_]:=lm _ hm;cases e:cd (bV n)with
 |nil=>
   have:=dU (bV n)
   rw[e]at this
   simp at this
   omega
 |cons c r=>
   let h1:=lS h c (by rw[e];exact qA0);let h2:=wl c (by show c∈cd (bV n);rw[e];exact qA0);omega
def zG:∀w∈plainW,w∈kept:=by decide
def IE{n:Nat}(F:#["next_term",iP])(B:Bl mg)(X:Tx K mg)(T:STxt K mg C)(M:Mths P w K mg base C fE fS fT fW fF dE dS dT dW dF)(fg:#[1,"is_name",WE,spTxt kD])(b9:#[1,"is_figures",WE,spTxt mh])(v7:#[2*n+4,"term_in_bracket",WK,spTB C n]):#[2*(n+1)+3,f,fd,WK,spNextT C (n+1)]:=by
 exists t8
 erw[sc,wi,Tx,p,k,t,r,1,S0,tl,pl,hd,er,ok,dn,wd,k20,q]at h;erw[ja,gj,hj]at X.plain;let hr1:Room 1 _:=hr.mono #[0];let hr2:Room 2 _:=hr.mono #[0];refine⟨_,(ad (bb (bK (pv 0) T.cl M.mT M.gT hr2 M.bT .nil aZ %[aF|ae]))
  (ad (bb (bK (pv 0) T.cl M.mE M.gE hr1 M.bE .nil aZ %[1|ae]))
  (ad (aJ (eI (bK (pv 0) T.cl M.mS M.gS hr1 M.bS .nil aZ %[aF|ae])) (af (am (ax v7 hr #[0] rfl %[0,1|ae]))) aB)
  (ad #[ao,2,t8,bz (pv 0) T.cl M.mW M.gW hr1 M.bW .nil aZ]
  (ad (aJ (ai dP (pv 2) (cZ (v:=.ref ja) rfl gj rfl) (by rfl')) (af (am (aS %[2|ae]))) aB)
  (ad (aJ (eI (ax b9 hr #[0] rfl %[2|ae])) (af (am (aS %[aF,bc mI rfl B.int ma %[2|ae]|ae]))) aB)
  (ad (aJ (hZ (eI (ax fg hr #[0] rfl %[2|ae]))) bq aB)
  (af (am (aS %[aF,2|ae])))))))))),?_⟩
 let l2:((" ":Str)).length=1:=by decide
 let dp:=t.depth_pos;let sp:=t.size_pos;let hl0:=lW hd pl;let hd1:=cz hd;simp only[zJ0,zR0,zH1]at hl0 hd1;let%[dx0,fs0,hs0|sf0]:=id S0;erw[0,sc,dx0,fs0,1,hs0,sf0.no3,sc,Tx,_,p,0,S0,eB (r:=t.txt++r) (by rw[kg];exact hd) pl,by rw[l2];decide,λH1 S1 B1=>?_];rw[l2]at S1;let%[dx1,fs1,hs1|sf1]:=id S1;erw[0,sc,dx1,fs1,1,hs1,sf1.no1,0,sc,Tx,_,k,wi,1,S1,3,3,λH2 S2 B2=>?_];let%[Ph,fs2,hs2|sf2]:=id S2;erw[0,sc,Ph,fs2,1,hs2,sf2.no2,sc,Tx,_,_,0,S2,0,6];let shape:(((∃w a,t=.ask w a)∨∃s a b,t=.op s a b)/\∃z,t.txt=40::z)∨∃x:Str,t.txt=cd x/\qj (cd x)/\1<=x.length/\t.size=1/\((t=.plain x/\x∈plainW)∨(∃m,t=.num m/\x=bV m/\0<=m/\m<1000000000000)∨(t=.box x/\NmK x)):=by
  cases t with
  |ask w a=>exact .inl %[.inl %[w,a|1]|0]
  |op s a b=>exact .inl %[.inr %[s,a,b|1]|0]
  |plain x=>
    let okx:x∈plainW:=ok;let%[_,w1,wl|_]:=lm x okx;exact .inr %[x,1,dI wl,w1,1|.inl %[1|okx]]
  |num m=>exact .inr %[bV m,1,sN ok.1,xW ok.1,1|.inr (.inl %[m,1,1,ok.1|ok.2])]
  |box x=>
    let okx:NmK x:=ok;exact .inr %[x,1,dI okx.1,okx.2.1,1|.inr (.inr %[1|okx])]
 rcases shape with⟨kind,z,ez⟩ | ⟨x,et,pc,x1,s1,kd⟩
 . let hs:gO Tx ("(":Str) ((p+1:Nat):Int)=true:=eB (r:=z++r) (by rw[qb];show _=40::(z++r);rw[hd1,ez];rfl) #[0];rw[hs];apply du ?_;erw[0,0,sc,wi,Tx,p+1,k,t,r,1,S2,tl,3,hd1,ok,kind,dn,wd,k20,λv H3 T3 S3 B3=>?_];exact q v H3 T3 S3 (B1.trans (B2.trans B3))
 let%[c,r',hc|c40]:=Cq pc (by rw[dU];exact x1) r;let hd':Tx.cps.toList.drop (p+1)=cd x++r:=by rw[hd1,et]
 rw[BV (hd'.trans hc) c40];apply cE ?_;erw[0,sc,Ph,fs2,1,hs2,sf2.no4,sc,Tx,_,_,cd x,r,1,S2,tl,3,hd',pc,er,λH3 S3 B3'=>?_];rw[show stl (cd x)=x from iV _];rw[←et,←s1]at S3;let B3:SameBut sc H H3:=B1.trans (B2.trans B3');erw[0,ja,0,.inr (hj _),1,⋯,0,6];show if inV (.str x) (plainW.map V.str)=true then _ else _
 rw[gK];rcases kd with⟨rfl,okx⟩ | ⟨m,rfl,rfl,m0,m1⟩ | ⟨rfl,okx⟩
 . apply aW okx ?_;erw[0,y1S,λc hc=>?_];let G:=zE0 hc (.tup [.str x]);exact q _ _ (.plain ah) (S3.same G) (B3.trans (zM0 G))
 . apply aE (wE m0) ?_;let nl:=jZ m0 m1;erw[0,bV m,1,3,λH4 S4=>%[0|6]];rw[AZ m0 m1];apply du ?_;erw[0,bV m,m,1,AY m0 m1,3,y2S,λc hc=>?_];let G:=zE0 hc (.tup [.str "num",.int m]);exact q _ _ (.num ah) ((S3.same S4).same G) (B3.trans (zM0 (S4.trans G)))
 . let%[xl,_,x6|xk]:=id okx;apply aE (λh=>xk (zG x h)) ?_;erw[0,x,1,3,λH4 S4=>%[0|6]];rw[Ds okx];apply cE ?_;erw[0,x,1,3,λH5 S5=>%[0|6]];rw[Bb okx];apply cE ?_;erw[0,y2S,λc hc=>?_];let G:=zE0 hc (.tup [.str "box",.str x]);exact q _ _ (.box ah) (((S3.same S4).same S5).same G) (B3.trans (zM0 (S4.trans (S5.trans G))))
def ID:#[3,f,fd,WK,spNextT C 0]:=by
 let no:∀vs H Q E,¬ spNextT C 0 vs H Q E:=λvs H Q E h=>by
  erw[_,_,_,_,_,t,_,_,_,_,_,_,_,_,h1,_]at h
  have:=t.depth_pos
  omega
 exists 3
def oJ(F:#["next_term",iP])(m:mg "next_term"=some (.ref f))(Fj:Fun K "term_in_bracket" "term_in_bracket" dY fj fdj)(mj:mg "term_in_bracket"=some (.ref fj))(B:Bl mg)(X:Tx K mg)(T:STxt K mg C)(M:Mths P w K mg base C fE fS fT fW fF dE dS dT dW dF)(fg:#[1,"is_name",WE,spTxt kD])(b9:#[1,"is_figures",WE,spTxt mh]):
 ∀n:Nat,#[2*n+3,f,fd,WK,spNextT C n]
 |0=>ID
 |n+1=>
   let c1:=Cal.of F (oJ F m Fj mj B X T M fg b9 n) m (λ_ _ _ _ _ _ us hl=>by let%[u0,u1|1]:=Dd hl;rfl)
   IE F B X T M fg b9 (Cal.of Fj (HK Fj X T M c1) mj (λ_ _ _ _ _ _ us hl=>by let%[u0,u1|1]:=Dd hl;rfl))
instance spNextN(C:Addr):∀(sc:Addr)(T:Str)(p k:Nat)(x:Str)(r:List Nat),vs=[.ref sc]->ScanAt C H sc T p k->T.length<=1000->p<=T.length->T.cps.toList.drop p=[32]++(cd x++r)->yP r->NmK x->(∀H',ScanAt C H' sc T (p+1+x.length) k->SameBut sc H H'->Q (.str x) H'):=1
def t9:FnScope ["scan","word"] ["scan"] (aj kO):=%[|5]
def wp(F:#["next_name",kO])(T:STxt K mg C)(M:Mths P w K mg base C fE fS fT fW fF dE dS dT dW dF)(fg:#[1,"is_name",WE,spTxt kD]):#[3,f,fd,["scan"],spNextN C]:=by
 exists t9
 erw[sc,Tx,p,k,x,r,1,S0,tl,pl,hd,er,ok,q]at h;let hr1:Room 1 _:=hr.mono #[0];let hr2:Room 2 _:=hr.mono #[0];refine⟨_,(ad (bb (bK (pv 0) T.cl M.mT M.gT hr2 M.bT .nil aZ %[aF|ae]))
  (ad #[ao,1,t9,bz (pv 0) T.cl M.mW M.gW hr1 M.bW .nil aZ]
  (ad (aJ (hZ (eI (ax fg hr #[0] rfl %[1|ae]))) bq aB)
  (af (am (pv 1)))))),?_⟩
 let l2:((" ":Str)).length=1:=by decide
 let hl0:=lW hd pl;let hd1:=cz hd;simp only[zJ0,zR0,zH1]at hl0 hd1;let%[dx0,fs0,hs0|sf0]:=id S0;erw[0,sc,dx0,fs0,1,hs0,sf0.no3,sc,Tx,_,p,0,S0,eB (r:=cd x++r) (by rw[kg];exact hd) pl,by rw[l2];decide,λH1 S1 B1=>?_];rw[l2]at S1;let%[dx1,fs1,hs1|sf1]:=id S1;erw[0,sc,dx1,fs1,1,hs1,sf1.no4,sc,Tx,_,_,cd x,r,1,S1,tl,3,hd1,dI ok.1,er,λH2 S2 B2=>?_];rw[show stl (cd x)=x from iV _];rw[dU]at S2;let x6:=ok.2.2.1;erw[0,x,1,3,λH3 S3=>%[0|6]];rw[Bb ok];apply cE ?_;erw[0,q H3 (S2.same S3) (B1.trans (B2.trans (zM0 S3)))]
instance spNextF(C:Addr):∀(sc:Addr)(T:Str)(p k:Nat)(m:Int)(r:List Nat),vs=[.ref sc]->ScanAt C H sc T p k->T.length<=1000->p<=T.length->T.cps.toList.drop p=[32]++(cd (bV m)++r)->yP r->0<=m->m<1000000000000->(∀H',ScanAt C H' sc T (p+1+(bV m).length) k->SameBut sc H H'->Q (.int m) H'):=1
def kN:FnScope ["scan","word"] ["scan"] (aj iz):=%[|5]
def qR(F:#["next_figures",iz])(B:Bl mg)(T:STxt K mg C)(M:Mths P w K mg base C fE fS fT fW fF dE dS dT dW dF)(b9:#[1,"is_figures",WE,spTxt mh]):#[3,f,fd,["scan"],spNextF C]:=by
 exists kN
 erw[sc,Tx,p,k,m,r,1,S0,tl,pl,hd,er,m0,m1,q]at h;let hr1:Room 1 _:=hr.mono #[0];let hr2:Room 2 _:=hr.mono #[0];refine⟨_,(ad (bb (bK (pv 0) T.cl M.mT M.gT hr2 M.bT .nil aZ %[aF|ae]))
  (ad #[ao,1,kN,bz (pv 0) T.cl M.mW M.gW hr1 M.bW .nil aZ]
  (ad (aJ (hZ (eI (ax b9 hr #[0] rfl %[1|ae]))) bq aB)
  (af (am (bc mI rfl B.int ma %[1|ae])))))),?_⟩
 let l2:((" ":Str)).length=1:=by decide
 let hl0:=lW hd pl;let hd1:=cz hd;simp only[zJ0,zR0,zH1]at hl0 hd1;let nl:=jZ m0 m1;let%[dx0,fs0,hs0|sf0]:=id S0;erw[0,sc,dx0,fs0,1,hs0,sf0.no3,sc,Tx,_,p,0,S0,eB (r:=cd (bV m)++r) (by rw[kg];exact hd) pl,by rw[l2];decide,λH1 S1 B1=>?_];rw[l2]at S1;let%[dx1,fs1,hs1|sf1]:=id S1;erw[0,sc,dx1,fs1,1,hs1,sf1.no4,sc,Tx,_,_,cd (bV m),r,1,S1,tl,3,hd1,sN m0,er,λH2 S2 B2=>?_];rw[show stl (cd (bV m))=bV m from iV _];rw[dU]at S2;erw[0,bV m,1,3,λH3 S3=>%[0|6]];rw[AZ m0 m1];apply cE ?_;erw[0,bV m,m,1,AY m0 m1,3,q H3 (S2.same S3) (B1.trans (B2.trans (zM0 S3)))]
def iteNT{c A B:Prop}[Decidable c](hc:c)(h:B):if(!decide c)=true then A else B:=by
 rw[zC1 hc];exact cE h
def Hr.wd:Hr->Str
 |.fin=>"end" | .go _=>"go" | .iff _ _=>"if" | .set _ _=>"set" | .say _=>"say"
def Hr.rest:Hr->List Nat
 |.fin=>[] | .go n=>[32]++cd (bV n) | .iff t n=>[32]++(t.txt++([32]++cd (bV n))) | .set x t=>[32]++(cd x++([32]++t.txt)) | .say t=>[32]++t.txt
def Hr.codes(r:Hr):r.str.cps.toList=cd r.wd++r.rest:=by
 cases r with
 |fin=>decide
 |go n=>
   rw[show(Hr.go n).str=(("go":Str)++(" ":Str))++bV n from rfl,gQ,gQ,kg];show(cd "go"++[32])++cd (bV n)=cd "go"++([32]++cd (bV n))
   simp
 |iff t n=>
   rw[show(Hr.iff t n).str=(((("if":Str)++(" ":Str))++t.str)++(" ":Str))++bV n from rfl];simp only[gQ,kg];show(((cd "if"++[32])++t.txt)++[32])++cd (bV n)=cd "if"++([32]++(t.txt++([32]++cd (bV n))))
   simp
 |set x t=>
   rw[show(Hr.set x t).str=(((("set":Str)++(" ":Str))++x)++(" ":Str))++t.str from rfl];simp only[gQ,kg];show(((cd "set"++[32])++cd x)++[32])++t.txt=cd "set"++([32]++(cd x++([32]++t.txt)))
   simp
 |say t=>
   rw[show(Hr.say t).str=(("say":Str)++(" ":Str))++t.str from rfl,gQ,gQ,kg];show(cd "say"++[32])++t.txt=cd "say"++([32]++t.txt)
   simp
def lZ:∀x∈(Wv:List Str),∀c∈x.cps.toList,97<=c/\c<=122:=by decide
def Hr.wd_ok(r:Hr):qj (cd r.wd):=by
 cases r with
 |fin=>exact dI (lZ "end" ⋯)
 |go n=>exact dI (lZ "go" ⋯)
 |iff t n=>exact dI (lZ "if" ⋯)
 |set x t=>exact dI (lZ "set" ⋯)
 |say t=>exact dI (lZ "say" ⋯)
def Hr.rest_ok(r:Hr):yP r.rest:=by
 cases r with
 |fin=>exact .inl rfl
 |go n=>exact .inr %[(32),0|.inl rfl]
 |iff t n=>exact .inr %[(32),0|.inl rfl]
 |set x t=>exact .inr %[(32),0|.inl rfl]
 |say t=>exact .inr %[(32),0|.inl rfl]
instance spHRw:∀(r:Hr)(k:Int),vs=[.str r.str,.int k]->r.ok 20->(∀(v:V)(H':Hp),HrAt H' v r->Same H H'->Q v H'):=1
def cF:FnScope ["text","number","scan","word","row"] ["text","number"] (aj jT):=%[|5]
def uB(F:#["helper_row",jT])(X:Tx K mg)(T:STxt K mg C)(M:Mths P w K mg base C fE fS fT fW fF dE dS dT dW dF)(MK:Mk K C fI)(GI:#[1,fI,fdI,Wm,spSInit C])(bI:Binds K fdI Wm [])
 (m5:#[3,"next_name",["scan"],spNextN C])(gi:#[3,"next_figures",["scan"],spNextF C])(c8:#[19,"next_term",WK,spNextT C 8]):#[20,f,fd,["text","number"],spHRw]:=by
 exists cF
 erw[r,k,1,ok,q]at h;erw[tw,gw]at X.within;erw[tp,gp]at X.parts;let hr1:Room 1 _:=hr.mono ⋯;let hr2:Room 2 _:=hr.mono ⋯;refine⟨_,(ad #[ao,2,cF,gJ MK GI hr2 rfl T.mgC bI .nil aZ %[0,1,cZ (v:=.int 8) rfl gw %[|0],cZ (v:=.int 20) rfl gp ⟨_,rfl⟩|ae]]
  (ad #[ao,3,cF,bz (pv 2) T.cl M.mW M.gW hr1 M.bW .nil aZ]
  (ad #[ao,4,cF,aS %[3|ae]]
  (ad (aJ (ai aQ (pv 3) aF (ay _)) (af #[ao,4,cF,au op_catT (pv 4) (aS %[ax m5 hr ⋯ rfl %[2|ae],ax c8 hr ⋯ rfl %[2,ag|ae]|ae])]) (af (aJ (ai aQ (pv 3) aF (ay _)) (af #[ao,4,cF,au op_catT (pv 4) (aS %[ax c8 hr ⋯ rfl %[2,ag|ae]|ae])]) (af (aJ (ai aQ (pv 3) aF (ay _)) (af #[ao,4,cF,au op_catT (pv 4) (aS %[ax c8 hr ⋯ rfl %[2,ag|ae],ax gi hr ⋯ rfl %[2|ae]|ae])]) (af (aJ (ai aQ (pv 3) aF (ay _)) (af #[ao,4,cF,au op_catT (pv 4) (aS %[ax gi hr ⋯ rfl %[2|ae]|ae])]) (af (aJ (ai lq (pv 3) aF (ay _)) bq aB)))))))))
  (ad (bb (bz (pv 2) T.cl M.mF M.gF hr1 M.bF .nil aZ))
  (af (am (pv 4)))))))),?_⟩
 erw[0,0,λg dx nx ndx nex=>?_];let s3:Same H (upd (upd H dx (.own g)) g (.ins C dx [])):=λb o e=>by
  rw[aD (aO e nx),aD (aO e ndx)];exact e
 erw[g,dx,r.str,k,1,ah,λH1 S1 B1=>%[1|6]];let N1:Same H H1:=λb o e=>B1 b o (aO e nx) (s3 b o e)
 let tl:r.str.length<=1000:=zP0 (Hr.str_len ok) ⋯;let hc:=r.codes;let hlen:r.str.length=r.wd.length+r.rest.length:=by
  have:=congrArg List.length hc
  rw[oQ,zJ0,dU]at this;exact this
 let hd0:r.str.cps.toList.drop 0=cd r.wd++r.rest:=by rw[jV1];exact hc
 let%[dx1,fs1,hs1|sf1]:=id S1;erw[0,g,dx1,fs1,1,hs1,sf1.no4,g,r.str,(0),(0),cd r.wd,r.rest,1,S1,tl,zW0 _,hd0,r.wd_ok,r.rest_ok,λH2 S2 B2=>?_];rw[show stl (cd r.wd)=r.wd from iV _];let hd1:=cz hd0;rw[dU]at S2 hd1;let N2:Same H H2:=λb o e=>B2 b o (aO e nx) (N1 b o e)
 erw[0,y1S,λa ha=>?_];let Ga:=zE0 ha (.tup [.str r.wd]);let ea:upd H2 a (.tup [.str r.wd]) a=some (.tup [.str r.wd]):=ah;let S3:=S2.same Ga;generalize upd H2 a (.tup [.str r.wd])=H3 at Ga ea S3;let N3:=N2.trans Ga;let isF:∀{x y:Str},x≠y->¬ V.str x=V.str y:=λh=>fo h
 cases r with
 |fin=>
   erw[0,1,0,6];apply aE (isF (x:="end") ⋯) ?_;erw[0,1,0,6];apply aE (isF (x:="end") ⋯) ?_;erw[0,1,0,6];apply aE (isF (x:="end") ⋯) ?_;erw[0,1,0,6];apply aE (isF (x:="end") ⋯) ?_;erw[0,1,0,6];apply iteNT rfl ?_;let%[dx3,fs3,hs3|sf3]:=id S3;let el:0+(Hr.fin).wd.length=(Hr.fin).str.length:=by rw[hlen];show 0+_=_+0;omega
   rw[el]at S3;erw[0,g,dx3,fs3,1,hs3,sf3.no5,g,_,0,S3,tl,6];erw[0,q _ H3 (.fin ea) N3]
 |go n=>
   erw[0,1,0,6];apply aE (isF (x:="go") ⋯) ?_;erw[0,1,0,6];apply aE (isF (x:="go") ⋯) ?_;erw[0,1,0,6];apply aE (isF (x:="go") ⋯) ?_;erw[0,1,0,6];apply aW rfl ?_;let hrl:(Hr.go n).rest.length=1+(bV n).length:=by
    show([32]++cd (bV n)).length=_;rw[zJ0,dU];rfl
   erw[0,0,g,_,_,_,n,[],1,S3,tl,3,by rw[hd1];show [32]++cd (bV n)=[32]++(cd (bV n)++[]);rw[qV1],.inl rfl,ok.1,ok.2,λH4 S4 B4=>?_];let ea4:=dq S3 B4 _ _ ea;erw[y1S,λb hb=>?_];let Gb:=zE0 hb (.tup [.int n]);erw[a,b,2,zC0 (Gb _ _ ea4),zC0 ah,by simp,y2S,λz=>(by cases z),λ_ p hp=>?_];let Gp:=zE0 hp (.tup ([V.str (Hr.go n).wd]++[V.int n]));let S5:=(S4.same Gb).same Gp;let ep:upd (upd H4 b (.tup [.int n])) p (.tup ([V.str (Hr.go n).wd]++[V.int n])) p=some (.tup [.str "go",.int n]):=ah;let N5:=Gb.trans Gp;generalize upd (upd H4 b (.tup [.int n])) p (.tup ([V.str (Hr.go n).wd]++[V.int n]))=H5 at S5 ep N5;rw[show 0+(Hr.go n).wd.length+1+(bV n).length=(Hr.go n).str.length by omega]at S5;let%[dx5,fs5,hs5|sf5]:=id S5;erw[0,g,dx5,fs5,1,hs5,sf5.no5,g,_,0,S5,tl,6];erw[0,q _ H5 (.go ep) λc o e=>N5 _ _ (B4 c o (aO e nx) (N3 c o e))]
 |say t=>
   erw[0,1,0,6];apply aE (isF (x:="say") ⋯) ?_;erw[0,1,0,6];apply aW rfl ?_;let hrl:(Hr.say t).rest.length=1+t.txt.length:=by
    show([32]++t.txt).length=_;rw[zJ0];rfl
   let ok':t.fit 20:=ok;erw[0,0,g,(1),_,_,_,t,[],1,S3,tl,3,by rw[hd1];show [32]++t.txt=[32]++(t.txt++[]);rw[qV1],.inl rfl,ok'.1,ok'.2.2,by have:=ok'.2.2;omega,by have:=ok'.2.1;omega,λv H4 T4 S4 B4=>?_];let ea4:=dq S3 B4 _ _ ea;erw[y1S,λb hb=>?_];let Gb:=zE0 hb (.tup [v]);erw[a,b,2,zC0 (Gb _ _ ea4),zC0 ah,by simp,y2S,λz=>(by cases z),λ_ p hp=>?_];let Gp:=zE0 hp (.tup ([V.str (Hr.say t).wd]++[v]));let S5:=(S4.same Gb).same Gp;let ep:upd (upd H4 b (.tup [v])) p (.tup ([V.str (Hr.say t).wd]++[v])) p=some (.tup [.str "say",v]):=ah;let N5:=Gb.trans Gp;generalize upd (upd H4 b (.tup [v])) p (.tup ([V.str (Hr.say t).wd]++[v]))=H5 at S5 ep N5;rw[show 0+(Hr.say t).wd.length+1+t.txt.length=(Hr.say t).str.length by omega]at S5;let%[dx5,fs5,hs5|sf5]:=id S5;erw[0,g,dx5,fs5,1,hs5,sf5.no5,g,_,0,S5,tl,6];erw[0,q _ H5 (.say ep (T4.mono (aY N5))) λc o e=>N5 _ _ (B4 c o (aO e nx) (N3 c o e))]
 |iff t n=>
   erw[0,1,0,6];apply aE (isF (x:="if") ⋯) ?_;erw[0,1,0,6];apply aE (isF (x:="if") ⋯) ?_;erw[0,1,0,6];apply aW rfl ?_;let hrl:(Hr.iff t n).rest.length=1+(t.txt.length+(1+(bV n).length)):=by
    show([32]++(t.txt++([32]++cd (bV n)))).length=_;simp only[zJ0,zR0,zH1,dU]
   erw[ok',n0,n1]at ok;let hd2:(Hr.iff t n).str.cps.toList.drop (0+(Hr.iff t n).wd.length)=[32]++(t.txt++([32]++(cd (bV n)++[]))):=by rw[hd1,qV1];rfl
   let hd3:=cz (cz hd2);simp only[zR0,zH1]at hd3;erw[0,0,g,(1),_,_,_,t,0,S3,tl,3,hd2,.inr %[(32),0|.inl rfl],ok'.1,ok'.2.2,by have:=ok'.2.2;omega,by have:=ok'.2.1;omega,λv H4 T4 S4 B4=>?_];let ea4:=dq S3 B4 _ _ ea;erw[0,g,_,_,_,n,[],1,S4,tl,3,hd3,.inl rfl,n0,n1,λH5 S5 B5=>?_];let ea5:=dq S4 B5 _ _ ea4;let T5:=T4.mono (dq S4 B5);erw[y2S,λb hb=>?_];let Gb:=zE0 hb (.tup [v,.int n]);erw[a,b,2,zC0 (Gb _ _ ea5),zC0 ah,by simp,y3S,λz=>(by cases z),λ_ p hp=>?_];let Gp:=zE0 hp (.tup ([V.str (Hr.iff t n).wd]++[v,V.int n]));let S6:=(S5.same Gb).same Gp;let ep:upd (upd H5 b (.tup [v,.int n])) p (.tup ([V.str (Hr.iff t n).wd]++[v,V.int n])) p=some (.tup [.str "if",v,.int n]):=ah;let N6:=Gb.trans Gp;generalize upd (upd H5 b (.tup [v,.int n])) p (.tup ([V.str (Hr.iff t n).wd]++[v,V.int n]))=H6 at S6 ep N6;rw[show 0+(Hr.iff t n).wd.length+1+t.txt.length+1+(bV n).length=(Hr.iff t n).str.length by omega]at S6;let%[dx6,fs6,hs6|sf6]:=id S6;erw[0,g,dx6,fs6,1,hs6,sf6.no5,g,_,0,S6,tl,6];erw[0,q _ H6 (.iff ep (T5.mono (aY N6))) λc o e=>N6 _ _ (B5 c o (aO e nx) (B4 c o (aO e nx) (N3 c o e)))]
 |set x t=>
   erw[0,1,0,6];apply aW rfl ?_;let hrl:(Hr.set x t).rest.length=1+(x.length+(1+t.txt.length)):=by
    show([32]++(cd x++([32]++t.txt))).length=_;simp only[zJ0,zR0,zH1,dU]
   erw[okx,ok']at ok;let hd2:(Hr.set x t).str.cps.toList.drop (0+(Hr.set x t).wd.length)=[32]++(cd x++([32]++(t.txt++[]))):=by rw[hd1,qV1];rfl
   let hd3:=cz (cz hd2);simp only[zR0,zH1,dU]at hd3;erw[0,0,g,_,_,_,x,0,S3,tl,3,hd2,.inr %[(32),0|.inl rfl],okx,λH4 S4 B4=>?_];let ea4:=dq S3 B4 _ _ ea;erw[0,g,(1),_,_,_,t,[],1,S4,tl,3,hd3,.inl rfl,ok'.1,ok'.2.2,by have:=ok'.2.2;omega,by have:=ok'.2.1;omega,λv H5 T5 S5 B5=>?_];let ea5:=dq S4 B5 _ _ ea4;erw[y2S,λb hb=>?_];let Gb:=zE0 hb (.tup [.str x,v]);erw[a,b,2,zC0 (Gb _ _ ea5),zC0 ah,by simp,y3S,λz=>(by cases z),λ_ p hp=>?_];let Gp:=zE0 hp (.tup ([V.str (Hr.set x t).wd]++[.str x,v]));let S6:=(S5.same Gb).same Gp;let ep:upd (upd H5 b (.tup [.str x,v])) p (.tup ([V.str (Hr.set x t).wd]++[.str x,v])) p=some (.tup [.str "set",.str x,v]):=ah;let N6:=Gb.trans Gp;generalize upd (upd H5 b (.tup [.str x,v])) p (.tup ([V.str (Hr.set x t).wd]++[.str x,v]))=H6 at S6 ep N6;rw[show 0+(Hr.set x t).wd.length+1+x.length+1+t.txt.length=(Hr.set x t).str.length by omega]at S6;let%[dx6,fs6,hs6|sf6]:=id S6;erw[0,g,dx6,fs6,1,hs6,sf6.no5,g,_,0,S6,tl,6];erw[0,q _ H6 (.set ep (T5.mono (aY N6))) λc o e=>N6 _ _ (B5 c o (aO e nx) (B4 c o (aO e nx) (N3 c o e)))]
def Tm.txt_hi:∀t:Tm,t.ok->∀c∈t.txt,32<=c
 |.num n,h,c,hc=>by have:=lS h.1 c hc;omega
 |.box x,h,c,hc=>by have:=h.1 c hc;omega
 |.plain w,h,c,hc=>by have:=(lm w h).2.2.1 c hc;omega
 |.ask w a,⟨h,h1⟩,c,hc=>by
   let hc':c∈[40]++(cd w++([32]++(a.txt++[41]))):=hc;simp only[List.mem_append,jF0]at hc';rcases hc' with e | e | e | e | e
   . omega
   . have:=(xf w h).2.2.1 c e;omega
   . omega
   . exact Tm.txt_hi a h1 c e
   . omega
 |.op o a b,⟨h,h1,h2⟩,c,hc=>by
   let hc':c∈[40]++(cd o++([32]++(a.txt++([32]++(b.txt++[41]))))):=hc;simp only[List.mem_append,jF0]at hc';rcases hc' with e | e | e | e | e | e | e
   . omega
   . have:=(qZ o h).2.1 c e;omega
   . omega
   . exact Tm.txt_hi a h1 c e
   . omega
   . exact Tm.txt_hi b h2 c e
   . omega
def Ki{r:Hr}(ok:r.ok 20):∀c∈cd r.str,32<=c:=by
 intro c hc;let hc1:c∈cd r.wd++r.rest:=by rw[←r.codes];exact hc
 let nm:∀{n:Int},0<=n->c∈cd (bV n)->32<=c:=λh0 h=>by have:=lS h0 c h;omega
 rcases qN0 hc1 with h | h
 . have:=r.wd_ok
   let h5:∀x∈(Wv:List Str),c∈cd x->32<=c:=λx hx hc=>by have:=lZ x hx c hc;omega
   cases r with
   |fin=>exact h5 "end" ⋯ h
   |go n=>exact h5 "go" ⋯ h
   |iff t n=>exact h5 "if" ⋯ h
   |set x t=>exact h5 "set" ⋯ h
   |say t=>exact h5 "say" ⋯ h
 . cases r with
   |fin=>cases h
   |go n=>
     let h':c∈[32]++cd (bV n):=h;simp only[List.mem_append,jF0]at h';rcases h' with e | e
     . omega
     . exact nm ok.1 e
   |iff t n=>
     let h':c∈[32]++(t.txt++([32]++cd (bV n))):=h;simp only[List.mem_append,jF0]at h';rcases h' with e | e | e | e
     . omega
     . exact Tm.txt_hi t ok.1.1 c e
     . omega
     . exact nm ok.2.1 e
   |set x t=>
     let h':c∈[32]++(cd x++([32]++t.txt)):=h;simp only[List.mem_append,jF0]at h';rcases h' with e | e | e | e
     . omega
     . have:=ok.1.1 c e;omega
     . omega
     . exact Tm.txt_hi t ok.2.1 c e
   |say t=>
     let h':c∈[32]++t.txt:=h;simp only[List.mem_append,jF0]at h';rcases h' with e | e
     . omega
     . exact Tm.txt_hi t (show t.fit 20 from ok).1 c e
def tO(g:mK rs)(h0:rs≠[]):Txt.split (oV rs) ("\n":Str)=rs.map Hr.str:=by
 unfold oV;rw[nl_eq,IS];apply zj (c:=10) (λz=>h0 (List.map_eq_nil_iff.mp z)) λp hp hc=>?_
 let%[r,hr|1]:=List.mem_map.mp hp
 have:=Ki (g.2 r hr) 10 hc
 omega
def Dp(g:mK rs)(h0:rs≠[]):oV rs≠"":=λe=>by
 let h1:=tO g h0;rw[e,show Txt.split ("":Str) ("\n":Str)=[("":Str)]from by decide]at h1;cases rs with
 |nil=>exact h0 rfl
 |cons r l=>
   let h2:=(List.cons.inj h1).1;let h3:=r.codes;rw[←h2]at h3;let h4:cd r.wd=[]:=(List.append_eq_nil_iff.mp h3.symm).1;let h5:∀x∈(Wv:List Str),cd x≠[]:=by decide
   cases r with
   |fin=>exact h5 "end" ⋯ h4
   |go n=>exact h5 "go" ⋯ h4
   |iff t n=>exact h5 "if" ⋯ h4
   |set x t=>exact h5 "set" ⋯ h4
   |say t=>exact h5 "say" ⋯ h4
instance spReadH:∀rs:List Hr,vs=[.str (oV rs)]->mK rs->(∀(a:Addr)(tv:List V)(H':Hp),H' a=some (.tup tv)->RowsAt H' tv rs->Same H H'->Q (.ref a) H'):=1
def gA:FnScope ["text","helper","number","row"] WE (aj iX):=%[|5]
def sT(F:#["read_helper",iX])(B:Bl mg)(X:Tx K mg)(kH:#[20,"helper_row",["text","number"],spHRw]):#[21,f,fd,WE,spReadH]:=by
 exists gA
 erw[rs,1,g,q]at h;erw[tm,gm]at X.rows;refine⟨_,(ad (aJ (ai aQ (pv 0) aF (ay _)) (af (am (aS ae))) aB)
  (ad #[ao,1,gA,bZ ae]
  (ad (cI zE1 rfl (Im rfl B.enumerate (dZ zQ1 PySem.F.slot_str_split PySem.F.type_str_split FF (pv 0) %[aF|ae])) (pU rfl (dA (aX (i:=2) gA.nd rfl (.inl rfl)) (dA (aX (i:=3) gA.nd rfl (.inl rfl)) lQ))) (ad (aJ (ai aQ (pv 2) (cZ (v:=.int 60) rfl gm ⟨_,rfl⟩) (ay _)) bq aB)
   (af (bb (dZ zF1 zL1 zM1 cY (pv 1) %[ax kH hr ⋯ rfl %[3,2|ae]|ae])))))
  (af (am (bc bh rfl B.tuple bi %[1|ae])))))),?_⟩
 let tl:=Gn g;let r60:=g.1;erw[0,1,0,6]
 by_cases c0:rs=[]
 . subst c0;apply aW (by show V.str (oV [])=V.str "";decide) ?_;erw[zW0 _,λt ht=>?_];exact q t [] _ ah RowsAt.nil (zE0 ht _)
 apply aE (λz=>Dp g c0 (Ee z)) ?_;erw[zW0 _,λL hL=>?_];let GL:=zE0 hL (.lst []);let gL:upd H L (.lst []) L=some (.lst []):=ah;generalize upd H L (.lst [])=H1 at GL gL;let ts:=tO g c0;erw[0,1,2,⋯,3,by rw[ts,zF0];omega,λa ha=>?_];rw[ts];let Ga:=zE0 ha (.lst ((rs.map Hr.str).map V.str));let ga:upd H1 a (.lst ((rs.map Hr.str).map V.str)) a=some (.lst ((rs.map Hr.str).map V.str)):=ah;let aL:a≠L:=λz=>by rw[z,gL]at ha;cases ha
 generalize upd H1 a (.lst ((rs.map Hr.str).map V.str))=H2 at Ga ga;let gL2:=Ga _ _ gL;refine⟨a,rfl,%[_|zG0 ga],Gw (K:=K) (xs:=(rs.map Hr.str).map V.str) (λi σ H'=>∃(x2 x3:Option V)(tv:List V),σ=[some (.str (oV rs)),some (.ref L),x2,x3]/\H' L=some (.lst tv)/\RowsAt H' tv (rs.take i)/\SameBut L H2 H')
  %[_,_,[],1,gL2,RowsAt.nil|SameBut.refl _ _] (λi σ H' _ Pd=>by erw[_,_,_,_,_,_,h]at Pd;exact zG0 (h _ _ aL ga)) ?_ ?_⟩
 . rintro i z σ H3 t hz ⟨x2,x3,tv,rfl,hL3,R3,S3⟩ ht;let hi:=(Pj hz).1;rw[zF0,zF0]at hi;rw[zY0,zY0,Option.map_map]at hz;let%[r,hr'|1]:=qT0 hz;let Gt:=zE0 ht (.tup [.int (i:Int),.str r.str]);let hL4:=Gt _ _ hL3;let vl:=R3.1;rw[qI0]at vl;erw[t,0,zC0 ah,1,_,0,2,6];erw[0,1,0,6];apply aE (λz=>by have:=V.int.inj z;omega) ?_;erw[0,.inl %[1,_|zG0 hL4],0,0,r,0,g.2 r (qF0 hr'),λv H4 ra S4=>?_];let S34:Same H3 H4:=Gt.trans S4;let hL5:=S34 _ _ hL3;let kp:cG H4 (upd H4 L (.lst (tv++[v]))):=FY hL5;erw[L,2,hL5,aN #[0],6];erw[_,_,tv++[v],1,ah,6,6]
   . rw[qC0,hr'];exact((R3.mono (aY S34)).mono kp).snoc (ra.mono kp)
   . exact S3.trans ((zM0 S34).trans (SameBut.upd _))
 . rintro σ H3 ⟨x2,x3,tv,rfl,hL3,R3,S3⟩;rw[zF0,zF0,qB0]at R3;erw[0,L,0,.inl %[zG0 hL3|λt ht=>?_]];let S03:Same H H3:=λb o e=>S3 b o (aO e hL) (Ga _ _ (GL _ _ e))
   exact q t tv _ ah (R3.mono (aY (zE0 ht _))) (S03.trans (zE0 ht _))
def DX(k:AkOk z)(nd:z.ns.Nodup)(i:Int)(h:0<z.nr):fO z i=cM z.ns z.ts z.s z.p (z.to++[i]):=by
 let%[x,hx,ex,d0,d1|d4]:=k.deg h;unfold fO;rw[O9 h];let e:z.tru=dR z.ns z.ts z.s z.p z.to (bm z.ts x+1).toNat:=by
  unfold Ak.tru;rw[O8 #[0],ex]
 let t0:z.ts≠[]:=λe=>by have:=k.gk.t1;rw[e]at this;cases this
 rw[e];exact AB (sM k.gk.pr (by have:=k.gk.p9;omega)) hx nd (λt ht=>(k.gk.tok t ht).1) t0 d1 i
def Jc{ns:List Str}{p:Int}(hp:1<p){t:Tr}(ok:t.ok ns):(cnt t ns:Int)=((cH ns.length).map λst=>t.worth ns st p).sum:=by
 unfold cnt;let h:∀st∈cH ns.length,t.worth ns st p=if t.holds ns st then 1 else 0:=λst Pd=>iL hp (og _ _ Pd) (pC _ _ Pd) t ok
 generalize cH ns.length=l at h
 induction l with
 |nil=>rfl
 |cons a l ih=>
   let ih:=ih λst Pd=>h st (qK0 _ Pd)
   rw[zZ0,zV1,←ih,h a qA0,List.filter_cons];cases t.holds ns a
   . simp
   . simp only[vI1,zR0];omega
def tD{ns:List Str}{ts:List Tr}{p:Int}(hp:1<p)(ok:∀t∈ts,t.ok ns):hor s p (ts.map λt=>(cnt t ns:Int))=cM ns ts s p []:=by
 rw[oU];unfold cM;let e:(ts.map λt=>(cnt t ns:Int))=ts.map λt=>((cH ns.length).map λst=>t.worth ns st p).sum:=qU1 λt ht=>Jc hp (ok t ht)
 rw[e,sL s (λt st=>t.worth ns st p)];rfl
def rB(s p:Int):∀xs:List Int,hor s p (xs.map (· % p))=hor s p xs
 | []=>rfl
 |a::r=>by
   show(hor s p (r.map (· % p))*s+a % p) % p=(hor s p r*s+a) % p;rw[rB s p r,Int.add_emod_emod]
section
variable {ns:List Str}{ts:List Tr}{p:Int}{t:Tk}{rows:List Hr}
def FJ(k:GmK ns ts p)(s:Int):hor s p (ts.map λu=>(cnt u ns:Int) % p)=cM ns ts s p []:=by
 let p2:=k.p2;rw[←tD (s:=s) (p:=p) #[0] (λu hu=>(k.tok u hu).1),←rB s p (ts.map λt=>(cnt t ns:Int)),List.map_map];rfl
def tP(z:Db)(tl:z.to.length<=ns.length)(e:z.ed=cM ns ts z.s p z.to):((goOn ns ts p z).aw.1="hear" -> (goOn ns ts p z).ed=cM ns ts (goOn ns ts p z).s p (goOn ns ts p z).to)/\(¬ (goOn ns ts p z).aw.1="hear" -> (goOn ns ts p z).aw=(("believed":Str),none)):=by
 unfold goOn
 by_cases c:z.to.length<ns.length
 . rw[O9 c];erw[λ_=>e,λh=>absurd rfl h]
 . rw [O8 c];unfold eK;let e2:z.ed=hor z.s p (ts.map λt=>t.worth ns z.to p):=by rw[e,AQ #[0]]
   rw[O9 e2];erw[λh=>absurd h JC,λ_=>rfl]
structure Tru(ns:List Str)(ts:List Tr)(p:Int)(t:Tk):Prop where
 he:t.z.aw.1="hear" -> t.z.ed=cM ns ts t.z.s p t.z.to
 co:t.z.aw.1="coin" -> t.z.he≠[]->t.z.he=dR ns ts t.z.s p t.z.to (bm ts (ns.getD t.z.to.length "")+1).toNat
 cm:t.z.aw.1="coin" -> t.z.he=[]->t.z.cl=ts.map (λu=>(cnt u ns:Int) % p)/\t.z.to=[]
 en:¬ t.z.aw.1="hear" -> ¬ t.z.aw.1="coin" -> t.z.aw=(("believed":Str),none)
def ji(k:GmK ns ts p)(nd:ns.Nodup){cs:List Int}(tl:cs.length<ns.length)(r:Int):val p (dR ns ts s p cs (bm ts (ns.getD cs.length "")+1).toNat) r=cM ns ts s p (cs++[r]):=by
 let hy:ns[cs.length]?=some (ns.getD cs.length ""):=by
  rw[qJ0,zL0 tl];rfl
 let hx:ns.getD cs.length ""∈ns:=qF0 hy;let t0:ts≠[]:=λe=>by have:=k.t1;rw[e]at this;cases this
 exact AB (sM k.pr (by have:=k.p9;omega)) hy nd (λu hu=>(k.tok u hu).1) t0 (k.deg _ hx).2 r
def Tru.toss(k:GmK ns ts p)(nd:ns.Nodup)(h:TkOk ns ts p t)(d:Tru ns ts p t)(hw:t.z.aw.1="coin")(r:Int):Tru ns ts p (t.toss ns ts p r):=by
 let fin:∀z:Db,z.to.length<=ns.length->z.ed=cM ns ts z.s p z.to->(t.toss ns ts p r).z=goOn ns ts p z->Tru ns ts p (t.toss ns ts p r):=λz tl e ez=>by
  let%[f1|f2]:=tP (ns:=ns) (ts:=ts) (p:=p) z tl e;let no:=kj (ns:=ns) (ts:=ts) (p:=p) z;rw[←ez]at f1 f2 no;erw[f1,λz=>absurd z no,λz=>absurd z no,λz _=>f2 z]
 by_cases c:t.z.he=[]
 . let%[ec|et]:=d.cm hw c;apply fin { t.z with pl:=t.z.pl+1,s:=r,ed:=hor r p t.z.cl } h.gd.tl ?_ (O9 c);show hor r p t.z.cl=cM ns ts r p t.z.to;rw[ec,et,FJ k]
 . let tl:=((h.gd.co hw).2 c).2;apply fin { t.z with pl:=t.z.pl+1,ed:=val p t.z.he r,to:=t.z.to++[r] } (by show(t.z.to++[r]).length<=_;rw[zJ0,qM0];omega) ?_ (O8 c);show val p t.z.he r=cM ns ts t.z.s p (t.z.to++[r]);rw[d.co hw c,ji k nd tl]
end
section
variable {ns:List Str}{ts:List Tr}{p:Int}{t:Tk}{rows:List Hr}
def mo(z:Ak)(n:Nat):List Int:=(List.range n).map λk:Nat=>fO z ((k:Int) % z.p)
def uJ(z:Ak)(n:Nat):(mo z n).length=n:=by unfold mo;rw[zF0,qR0]
def mL(z:Ak)(n:Nat):mo z (n+1)=mo z n++[fO z ((n:Int) % z.p)]:=by
 unfold mo;rw[zZ1,zK0];rfl
def BP(k:GmK ns ts p)(n6:ns.length<=6)(nd:ns.Nodup)(h:TkOk ns ts p t)(hw:t.z.aw.1="hear"):mo (t.ak ns ts p) (awN t.z).toNat=dR ns ts t.z.s p t.z.to (awN t.z).toNat:=by
 let%[ok,a0,a5,tl,aw|ea]:=h.ak k n6 hw;let nr:=h.nr;let hx:ns.getD t.z.to.length ""∈ns:=by
  rw[qJ0,zL0 tl];exact qP0 tl
 let dp:=(k.deg _ hx).2;unfold mo dR;apply qU1 λj hj=>?_
 let hj:=List.mem_range.mp hj;let e:(j:Int) % (t.ak ns ts p).p=(j:Int):=qL0 #[0] (by show(j:Int)<p;omega);rw[e];exact DX ok nd (j:Int) (by show 0<t.nr;omega)
def Fy:¬ (("true":Str)="coin"):=by decide
def hU{z:Ak}{rows:List Hr}{n:Nat}{s:MS}(h1:s.pl<(rows.length:Int))(h2:(s.sd.length:Int)<z.mn):jV z rows (n+1) s=jV z rows n (cR z rows s):=O9 %[h1|h2]
def oA{z:Ak}{rows:List Hr}{s:MS}(h:¬ (s.pl<(rows.length:Int)/\(s.sd.length:Int)<z.mn)):∀n,jV z rows n s=s
 |0=>rfl
 |n+1=>O8 h
end
def bmp(p:Int)(l:List Int)(a:Nat)(m:Int):List Int:=l.set a ((l.getD a 0+m) % p)
def pk(p:Int)(l:List Int)(a:Nat)(m:Int):(bmp p l a m).length=l.length:=qP1
def Hm{l:List Int}{a:Nat}(h:a<l.length):(bmp p l a m).getD a 0=(l.getD a 0+m) % p:=by
 unfold bmp;rw[qJ0,jN0 h];rfl
def Hj{a k:Nat}(h:k≠a):(bmp p l a m).getD k 0=l.getD k 0:=by
 unfold bmp;rw[qJ0,jU0 (Ne.symm h),←qJ0]
def Hi{l:List Int}{a:Nat}{r:Int}(hp:Pm p)(hn:(l.length:Int)<=p)(r0:0<=r)(rl:r<l.length)(ra:r≠(a:Int)):val p (bmp p l a m) r=val p l r:=by
 let%[k|1]:=qC1 r0;rw[jF hp (by rw[pk];exact hn) (by rw[pk];omega),jF hp hn #[0],Hj #[0]]
def Hk{l:List Int}{a:Nat}(hp:Pm p)(hn:(l.length:Int)<=p)(al:a<l.length):val p (bmp p l a m) a=(val p l a+m) % p:=by
 rw[jF hp (by rw[pk];exact hn) (by rw[pk];omega),jF hp hn al,Hm al,jE0,wH0]
def Lv{p x m:Int}(m0:¬ p ∣ m)(x0:0<=x)(x1:x<p):(x+m) % p≠x:=λe=>m0 (by
 let h:(x+m) % p=x % p:=by rw[e,qL0 x0 x1]
 have:=Int.emod_eq_emod_iff_emod_sub_eq_zero.mp h
 rw[show x+m-x=m by omega]at this;exact zT1 this)
def Hl{l:List Int}{a:Nat}{m r:Int}(hp:Pm p)(hn:(l.length:Int)<=p)(al:a<l.length)(m0:¬ p ∣ m)(r1:r<p)(rl:(l.length:Int)<=r):val p (bmp p l a m) r≠val p l r:=λe=>by
 let hu:=vp hp hn;let nl:=pk p l a m;let e':p ∣ lag (λi=>(bmp p l a m).getD i 0) (wt p l.length) l.length r-lag (λi=>l.getD i 0) (wt p l.length) l.length r:=by
  apply zT1 (Int.emod_eq_emod_iff_emod_sub_eq_zero.mp ?_);let h:=e;unfold val at h;rw[nl]at h;exact h
 let hpoly:IsPoly l.length λx=>lag (λi=>(bmp p l a m).getD i 0) (wt p l.length) l.length x+(-1)*lag (λi=>l.getD i 0) (wt p l.length) l.length x:=(oR _ _ _).add ((oR _ _ _).mul (-1))
 let z:=IsPoly.roots hp ((List.range l.length).map λi:Nat=>if i=a then r else(i:Int)) hpoly (by rw[zF0,qR0]) ?_ ?_ (a:Int)
 . let z1:=nJ (v:=λi=>(bmp p l a m).getD i 0) hu al;let z2:=nJ (v:=λi=>l.getD i 0) hu al;let z1':p ∣ lag (λi=>(bmp p l a m).getD i 0) (wt p l.length) l.length a-(l.getD a 0+m) % p:=by
    let h:=z1;rw[Hm al]at h;exact h
   let z3:p ∣ (l.getD a 0+m) % p-(l.getD a 0+m):=zT1 (Int.emod_eq_emod_iff_emod_sub_eq_zero.mp (jE0 ..));erw[c,hc]at z;erw[c1,h1]at z1';erw[c2,h2]at z2;erw[c3,h3]at z3;apply m0 %[c-c1+c2-c3|6];rw[wT1,vF1,wT1];omega
 . apply List.pairwise_map.mpr (List.Pairwise.imp_of_mem ?_ List.pairwise_lt_range);intro i j hi hj ij hd;let hi:=List.mem_range.mp hi;let hj:=List.mem_range.mp hj;erw[c,hc]at hd;let p1:=hp.1;let key:∀d:Int,d=p*c->0<d->d<p->False:=λd hd h0 h1=>by
    rcases jZ1 c 1 with h | h
    . have:p*c<=0:=wA0 #[0] #[0]
      omega
    . have:p*1<=p*c:=qW0 h #[0]
      omega
   let key2:∀d:Int,d=p*c->-p<d->d<0->False:=λd hd h0 h1=>by
    rcases jZ1 c 0 with h | h
    . have:p*c<=p*(-1):=qW0 #[0] #[0]
      omega
    . have:0<=p*c:=Int.mul_nonneg #[0] h
      omega
   by_cases ci:i=a
   . rw[O9 ci,O8 #[0]]at hc;exact key2 _ hc #[0] #[0]
   . rw [O8 ci]at hc
     by_cases cj:j=a
     . rw[O9 cj]at hc;exact key _ hc #[0] #[0]
     . rw[O8 cj]at hc;exact key _ hc #[0] #[0]
 . intro x hx;let%[i,hi|1]:=List.mem_map.mp hx;let hi:=List.mem_range.mp hi
   by_cases ci:i=a
   . rw [O9 ci]
     simpa [Int.sub_eq_add_neg]using e'
   . rw [O8 ci];let z1:=nJ (v:=λi=>(bmp p l a m).getD i 0) hu hi;let z2:=nJ (v:=λi=>l.getD i 0) hu hi
     have:=Int.dvd_sub z1 z2
     simp only[Hj ci]at this;rw[show ∀A B C:Int,A-C-(B-C)=A+-1*B by intro A B C;omega]at this;exact this
section
def ql{p:Int}(hp:1<p)(x r:Int):val p [x] r=x % p:=by
 unfold val;let e:∀r:Int,lag (λi=>[x].getD i 0) (wt p 1) 1 r=lag (λi=>[x].getD i 0) (wt p 1) 1 0:=λ_=>rfl
 show lag (λi=>[x].getD i 0) (wt p 1) 1 r % p=_;rw[e];show(0+x*1*wt p 1 0) % p=_;let e1:wt p 1 0=1:=by
  show((1:Int) % p) ^ (p-2).toNat=1;rw[qL0 ⋯ hp,Int.one_pow]
 rw[e1,qZ1,jO1,jO1]
def Jz(hp:Pm p)(p2:2<p):p % 2=1:=by
 let%[f,c|hc]:=hp.2 2 (fun⟨c,hc⟩=>by
  rcases jZ1 c 1 with h | h
  . have:p*c<=0:=wA0 #[0] #[0]
    omega
  . have:p*1<=p*c:=qW0 h #[0]
    omega)
 rcases Int.emod_two_eq p with h | h
 . obtain ⟨q,rfl⟩:∃q,p=2*q:=%[p / 2|3]
   rw[wO0]at hc;generalize q*c=m at hc;omega
 . exact h
def wQ{e:Int}(hp:Pm p)(p2:2<p)(e0:0<=e)(e1:e<p):0<=oY p e 2/\oY p e 2<p/\(oY p e 2+oY p e 2) % p=e:=by
 let o:=Jz hp p2;let hi:IU p 2=(p+1) / 2:=Bg #[0] #[0] (by
  rw[show(p+1) / 2*2=1+p by omega,Int.add_emod_right];exact qL0 ⋯ #[0])
 unfold oY;rw[O8 ⋯,hi];erw[qE0 _ #[0],qG0 _ #[0],6];let h2:e*((p+1) / 2)+e*((p+1) / 2)=e+e*p:=by
  rw[←vF1,show(p+1) / 2+(p+1) / 2=1+p by omega,vF1,jO1]
 rw[←qX1,h2,Int.add_mul_emod_self_right,qL0 e0 e1]
def Go{x y:Int}(hp:Pm p)(p2:2<p)(x0:0<=x)(x1:x<p)(y0:0<=y)(y1:y<p)(h:(x+x) % p=(y+y) % p):x=y:=by
 let o:=Jz hp p2;let%[c|hc]:=zT1 (Int.emod_eq_emod_iff_emod_sub_eq_zero.mp h);rcases jZ1 c (-1)with h1 | h1
 . have:p*c<=p*(-2):=qW0 #[0] #[0]
   omega
 . rcases jZ1 1 c with h2 | h2
   . have:p*2<=p*c:=qW0 #[0] #[0]
     omega
   . have:c=-1∨c=0∨c=1:=#[0]
     rcases this with rfl | rfl | rfl <;> omega
def mf(p e:Int)(L:List Int):List Int:=if L.length=1 then [oY p e 2]else L.set 1 ((e-L.getD 0 0) % p)
variable {p e:Int}{L:List Int}
def FO:(mf p e L).length=L.length:=by
 unfold mf
 split
 . next c=>rw[c];rfl
 . exact qP1
def Ke(x:Int):(L.set 1 x).getD 0 0=L.getD 0 0:=by
 rw[qJ0,jU0 ⋯,←qJ0]
def Kd{x:Int}(h:1<L.length):(L.set 1 x).getD 1 0=x:=by
 rw[qJ0,jN0 h];rfl
def FN(hp:Pm p)(p2:2<p)(e0:0<=e)(e1:e<p)(l1:1<=L.length)(hn:(L.length:Int)<=p):(val p (mf p e L) 0+val p (mf p e L) 1) % p=e:=by
 unfold mf
 by_cases c:L.length=1
 . let%[h0,h1|h2]:=wQ hp p2 e0 e1;rw[O9 c,ql #[0],ql #[0],qL0 h0 h1];exact h2
 . rw [O8 c];let a0:=jF (xs:=L.set 1 ((e-L.getD 0 0) % p)) (k:=0) hp (by rw[qP1];exact hn) (by rw[qP1];omega);let a1:=jF (xs:=L.set 1 ((e-L.getD 0 0) % p)) (k:=1) hp (by rw[qP1];exact hn) (by rw[qP1];omega);let b0:val p (L.set 1 ((e-L.getD 0 0) % p)) 0=L.getD 0 0 % p:=Eq.trans a0 (by rw[Ke]);let b1:val p (L.set 1 ((e-L.getD 0 0) % p)) 1=(e-L.getD 0 0) % p:=by
    apply Eq.trans a1 ?_;rw[Kd #[0],jE0]
   rw[b0,b1,←qX1,show L.getD 0 0+(e-L.getD 0 0)=e by omega,qL0 e0 e1]
def Bv(hp:Pm p)(hn:(L.length:Int)<=p)(l2:2<=L.length):(val p L 0+val p L 1) % p=(L.getD 0 0+L.getD 1 0) % p:=by
 let a0:val p L 0=_:=jF (xs:=L) (k:=0) hp hn #[0];let a1:val p L 1=_:=jF (xs:=L) (k:=1) hp hn #[0];rw[a0,a1,←qX1]
def FM(hp:Pm p)(p2:2<p)(ok:bY L p)(l1:1<=L.length)(hn:(L.length:Int)<=p)(h:(val p L 0+val p L 1) % p=e):mf p e L=L:=by
 let e0:0<=e:=by rw[←h];exact qE0 _ #[0]
 let e1:e<p:=by rw[←h];exact qG0 _ #[0]
 unfold mf
 by_cases c:L.length=1
 . let%[h0,h1|h2]:=wQ hp p2 e0 e1;rw[O9 c];let%[x|1]:=List.length_eq_one_iff.mp c;let%[x0|x1]:=ok x (List.mem_singleton.mpr rfl);rw[ql #[0],ql #[0],qL0 x0 x1]at h;rw[Go hp p2 h0 h1 x0 x1 (h2.trans h.symm)]
 . rw [O8 c];let l2:1<L.length:=#[0]
   rw [Bv hp hn #[0]]at h;let r1:=lx ok #[0] 1;let e2:(e-L.getD 0 0) % p=L[1]:=by
    rw[←h,Int.emod_sub_emod,show L.getD 0 0+L.getD 1 0-L.getD 0 0=L.getD 1 0 by omega,qL0 r1.1 r1.2,qJ0,zL0 l2];rfl
   rw[e2];exact List.set_getElem_self l2
def CW(hp:Pm p)(p2:2<p)(ok:bY L p)(e0:0<=e)(e1:e<p)(l1:1<=L.length)(hn:(L.length:Int)<=p)(h:¬ (val p L 0+val p L 1) % p=e){r:Int}(r0:0<=r)(rp:r<p):val p (mf p e L) r=val p L r↔(L.length≠1/\r<(L.length:Int)/\r≠1):=by
 by_cases c:L.length=1
 . let%[h0,h1|h2]:=wQ hp p2 e0 e1;let%[x|1]:=List.length_eq_one_iff.mp c;let%[x0|x1]:=ok x (List.mem_singleton.mpr rfl);rw[ql #[0],ql #[0],qL0 x0 x1]at h;unfold mf;rw[O9 c,ql #[0],ql #[0],qL0 x0 x1,qL0 h0 h1]
   constructor
   . intro z;rw[z]at h2;exact absurd h2 h
   . intro z;exact absurd c z.1
 . rw [Bv hp hn #[0]]at h;let m0:¬ p ∣ e-(L.getD 0 0+L.getD 1 0):=λz=>h (by
    have:=Int.emod_eq_emod_iff_emod_sub_eq_zero.mpr (jK1 z)
    rw[←this,qL0 e0 e1])
   let eb:mf p e L=bmp p L 1 (e-(L.getD 0 0+L.getD 1 0)):=by
    unfold mf bmp;rw[O8 c]
    congr 2
    omega
   rw[eb];let rg:=AC (p:=p) #[0] L 1
   constructor
   . intro z;erw[c,6,λr1=>?_]
     . rcases jZ1 r (L.length:Int)with q | q
       . exact q
       . exact absurd z (Hl hp hn #[0] m0 rp q)
     . subst r1;let b:val p (bmp p L 1 (e-(L.getD 0 0+L.getD 1 0))) 1=(val p L 1+(e-(L.getD 0 0+L.getD 1 0))) % p:=Hk (a:=1) hp hn #[0];exact Lv m0 rg.1 rg.2 (b.symm.trans z)
   . rintro⟨_,q,q1⟩;exact Hi hp hn r0 q #[0]
end
section
variable {ns:List Str}{ts:List Tr}{p:Int}{t:Tk}{rows:List Hr}{cl:List Int}
structure Lia(ns:List Str)(ts:List Tr)(p:Int)(rows:List Hr)(cl:List Int):Prop where
 cl:(Tk.new ts).said ns ts p rows=cl.map (· % p)
 l0:((Tk.new ts).run ns ts p rows).bx "lied"=1
 ro:∀t,TkOk ns ts p t->t.z.aw.1="hear" -> t.bx "lied"=1->t.said ns ts p rows=mf p t.z.ed (dR ns ts t.z.s p t.z.to (awN t.z).toNat)/\(t.run ns ts p rows).bx "lied"=1
def AR(p0:0<p)(s:Int)(cs:List Int)(n:Nat):bY (dR ns ts s p cs n) p:=λx hx=>by
 unfold dR at hx;let%[j,_|1]:=List.mem_map.mp hx;erw[qE0 _ #[0],qG0 _ p0]
def Ho(h:TkOk ns ts p t):(t.ask ns ts p rows).z=dC p (t.said ns ts p rows) { t.z with pl:=t.z.pl+((t.said ns ts p rows).length:Int) }:=O8 h.cl
def Tru.ask2(k:GmK ns ts p)(n6:ns.length<=6)(nd:ns.Nodup)(hs:t.said ns ts p rows=dR ns ts t.z.s p t.z.to (awN t.z).toNat)(h:TkOk ns ts p t)(d:Tru ns ts p t)(hw:t.z.aw.1="hear"):Tru ns ts p (t.ask ns ts p rows):=by
 let%[_,_,_,tl,aw|ea]:=h.ak k n6 hw;let x0:=h.gd.hear_ne k (h.hear (rows:=rows) k n6 hw);let e:=Ho (rows:=rows) h;let es:t.said ns ts p rows=dR ns ts t.z.s p t.z.to (bm ts (ns.getD t.z.to.length "")+1).toNat:=by rw[hs,ea]
 let ac:(t.ask ns ts p rows).z.aw=(("coin":Str),none):=by
  rw[e];unfold dC;rw[O9];show(val p (t.said ns ts p rows) 0+val p (t.said ns ts p rows) 1) % p=t.z.ed;rw[es,ji k nd tl,ji k nd tl,pR tl,d.he hw]
 erw[λz=>?_,λ_ _=>?_,λ_ z=>?_,λ_ z=>?_]
 . rw[ac]at z;exact absurd z jp
 . rw[e];exact es
 . rw[e]at z;exact absurd z x0
 . rw[ac]at z;exact absurd rfl z
def Bd(k:GmK ns ts p)(n6:ns.length<=6)(h:TkOk ns ts p t)(ch:t.z.aw.1="hear"):Pm p/\2<p/\1<=(dR ns ts t.z.s p t.z.to (awN t.z).toNat).length/\((dR ns ts t.z.s p t.z.to (awN t.z).toNat).length:Int)=bm ts (ns.getD t.z.to.length "")+1/\((dR ns ts t.z.s p t.z.to (awN t.z).toNat).length:Int)<=p/\0<=t.z.ed/\t.z.ed<p:=by
 let%[_,a0,_,tl,_|ea]:=h.ak k n6 ch;let hx:ns.getD t.z.to.length ""∈ns:=by
  rw[qJ0,zL0 tl];exact qP0 tl
 let%[d0|d1]:=k.deg _ hx;rw[lj];erw[sM k.pr (by have:=k.p9;omega),k.p2,3,3,3,h.gd.e0,h.gd.e1]
def oP(k:GmK ns ts p)(n6:ns.length<=6)(nd:ns.Nodup)(hn:Lia ns ts p rows cl):∀(n:Nat) (t:Tk) (cs:List Int),TkOk ns ts p t->Tru ns ts p t->t.bx "lied"=1->bY cs p->bN ns t.z<=n->(cD ns ts p rows cs n t).2.z.aw=(("believed":Str),none)
 |0,t,cs,h,d,hb,hc,hs=>d.en (λz=>by have:=(eX h (.inl z)).1;omega) (λz=>by have:=(eX h (.inr z)).1;omega)
 |n+1,t,cs,h,d,hb,hc,hs=>by
   let p2:=k.p2
   by_cases ch:t.z.aw.1="hear"
   . rw[eW ch];let%[o,s|_]:=h.ask (rows:=rows) k n6 ch;let%[hp,_,l1,le,lp,e0|e1]:=Bd k n6 h ch;let%[hs1|hb1]:=hn.ro t h ch hb;let%[_,_,_,tl,aw|ea]:=h.ak k n6 ch;rw[FM hp p2 (AR #[0] _ _ _) l1 lp (by rw[ea,ji k nd tl,ji k nd tl,pR tl,d.he ch])]at hs1;exact oP k n6 nd hn n _ cs o (d.ask2 k n6 nd hs1 h ch) hb1 hc #[0]
   . by_cases cc:t.z.aw.1="coin"
     . rw[dH cc];let%[r0|r1]:=lX hc #[0];let%[o,s|_]:=h.toss k cc r0 r1;exact oP k n6 nd hn n _ cs.tail o (d.toss k nd h cc _) hb (qY hc) #[0]
     . rw[dO ch cc];exact d.en ch cc
def lieB:List Int->List Int->Bool
 |d::ds,r::cs=>decide (d≠0/\r<=d/\r≠1)||lieB ds cs
 |_,_=>false
def FP(ds:List Int):lieB ds []=false:=by cases ds <;> rfl
def CZ(k:GmK ns ts p)(n6:ns.length<=6)(hn:Lia ns ts p rows cl){r:Int}{cs:List Int}{f:Nat}(h:TkOk ns ts p t)(hb:t.bx "lied"=1)(ch:t.z.aw.1="hear")(r0:0<=r)(r1:r<p):
 (∃t2 z2,(cD ns ts p rows (r::cs) (f+2) t)=(.say (t.said ns ts p rows)::.coin r::(cD ns ts p rows cs f t2).1,(cD ns ts p rows cs f t2).2)/\TkOk ns ts p t2/\t2.bx "lied"=1/\t2.z=goOn ns ts p z2/\z2.s=t.z.s/\z2.to=t.z.to++[r]/\z2.ed=val p (t.said ns ts p rows) r):=by
 let%[hp,p2,l1,le,lp,e0|e1]:=Bd k n6 h ch;let%[hs1|hb1]:=hn.ro t h ch hb;let%[o,s|_]:=h.ask (rows:=rows) k n6 ch;let x0:=h.gd.hear_ne k (h.hear (rows:=rows) k n6 ch);let ez:=Ho (rows:=rows) h;let ac:(t.ask ns ts p rows).z.aw=(("coin":Str),none):=by
  rw[ez];unfold dC;rw[O9];show(val p (t.said ns ts p rows) 0+val p (t.said ns ts p rows) 1) % p=t.z.ed;rw[hs1];exact FN hp p2 e0 e1 l1 lp
 let cc:(t.ask ns ts p rows).z.aw.1="coin":=by rw[ac]
 let he:(t.ask ns ts p rows).z.he≠[]:=by rw[ez];exact x0
 let%[o2|_]:=o.toss k cc r0 r1;erw[(t.ask ns ts p rows).toss ns ts p r,{ (t.ask ns ts p rows).z with pl:=(t.ask ns ts p rows).z.pl+1,ed:=val p (t.ask ns ts p rows).z.he r,to:=(t.ask ns ts p rows).z.to++[r] },6,o2,hb1,O8 he,6,6,6]
 . rw[eW ch,dH cc];rfl
 . rw[ez];rfl
 . rw[ez];rfl
 . rw[ez];rfl
def Dr(ez:t.z=goOn ns ts p z)(c:z.to.length<ns.length):t.z.aw.1="hear"/\t.z.to=z.to/\t.z.ed=z.ed/\t.z.s=z.s:=by
 let e:t.z={ z with aw:=("hear",some (bm ts (ns.getD z.to.length "")+1)) }:=ez.trans (O9 c);rw[e];erw[1,1,1,1]
def Bc(k:GmK ns ts p)(n6:ns.length<=6)(nd:ns.Nodup)(hn:Lia ns ts p rows cl):∀(cs:List Int) (f:Nat) (t:Tk) (z:Db),TkOk ns ts p t->t.bx "lied"=1->t.z=goOn ns ts p z->z.ed≠cM ns ts z.s p z.to->z.to.length+cs.length=ns.length->bY cs p->2*cs.length<=f->decide ((cD ns ts p rows cs f t).2.z.aw.1="believed")=lieB ((ns.drop z.to.length).map (bm ts)) cs
 | [],f,t,z,h,hb,ez,e,hl,hc,hf=>by
   rw [zH1]at hl;let ea:t.z.aw=(("caught":Str),some ((z.to.length:Int)+1)):=by
    rw[ez];unfold goOn;rw[O8 #[0]];unfold eK;rw[O8];rw[←AQ #[0]];exact e
   rw[dO (by rw[ea];exact ya) (by rw[ea];exact JD),FP,ea];exact zB1 xZ
 |r::cs,f,t,z,h,hb,ez,e,hl,hc,hf=>by
   rw[zR0]at hl hf;obtain⟨f,rfl⟩:∃m,f=m+2:=%[f-2|3]
   let c:z.to.length<ns.length:=#[0]
   let%[ch,et,ee|es]:=Dr ez c;let%[r0|r1]:=hc r qA0;let hc':bY cs p:=λx hx=>hc x (qK0 _ hx)
   let%[hp,p2,l1,le,lp,e0|e1]:=Bd k n6 h ch;let%[hs1|_]:=hn.ro t h ch hb;let%[_,_,_,tl,_|ea]:=h.ak k n6 ch;let%[t2,z2,e2,o2,hb2,ez2,s2,to2|ed2]:=CZ (cs:=cs) (f:=f) k n6 hn h hb ch r0 r1;let vr:∀x,val p (dR ns ts t.z.s p t.z.to (awN t.z).toNat) x=cM ns ts t.z.s p (t.z.to++[x]):=λx=>by rw[ea];exact ji k nd tl x
   let hne:¬ (val p (dR ns ts t.z.s p t.z.to (awN t.z).toNat) 0+val p (dR ns ts t.z.s p t.z.to (awN t.z).toNat) 1) % p=t.z.ed:=by
    rw[vr,vr,pR tl,ee,et,es];exact Ne.symm e
   let ro:=CW hp p2 (AR #[0] _ _ _) e0 e1 l1 lp hne r0 r1;rw[←hs1,vr,←ed2,le,et,es]at ro;rw[et,es]at le;let tl2:z2.to.length<=ns.length:=by rw[to2,et,zJ0,qM0];omega
   let dr:(ns.drop z.to.length).map (bm ts)=bm ts (ns.getD z.to.length "")::(ns.drop (z.to.length+1)).map (bm ts):=by
    rw[jW0 c,zZ0,qJ0,zL0 c];rfl
   let l2:z2.to.length=z.to.length+1:=by rw[to2,et,zJ0,qM0]
   rw[e2,dr];show decide ((cD ns ts p rows cs f t2).2.z.aw.1="believed")=(decide _||lieB _ cs)
   by_cases cr:z2.ed=cM ns ts t.z.s p (t.z.to++[r])
   . let d2:Tru ns ts p t2:=by
      let%[f1|f2]:=tP (ns:=ns) (ts:=ts) (p:=p) z2 tl2 (by rw[cr,s2,to2]);let no:=kj (ns:=ns) (ts:=ts) (p:=p) z2;rw[←ez2]at f1 f2 no;erw[f1,λz=>absurd z no,λz=>absurd z no,λz _=>f2 z]
     let st:bN ns t2.z<=f:=by
      have:=(jt (ns:=ns) (ts:=ts) (p:=p) z2).1
      rw[←ez2]at this;omega
     rw[oP k n6 nd hn f t2 cs o2 d2 hb2 hc' st];rw[et,es]at cr;let%[q1,q2|q3]:=ro.mp cr;rw[zC1 rfl,zC1 (%[3,3|q3]:bm ts (ns.getD z.to.length "")≠0/\r<=bm ts (ns.getD z.to.length "")/\r≠1)];rfl
   . rw[Bc k n6 nd hn cs f t2 z2 o2 hb2 ez2 (by rw[s2,to2];exact cr) #[0] hc' #[0],l2];rw[et,es]at cr;rw[zB1 (λq:bm ts (ns.getD z.to.length "")≠0/\r<=bm ts (ns.getD z.to.length "")/\r≠1=>cr (ro.mpr %[3,3|q.2.2]))];rfl
def lieT(ns:List Str)(ts:List Tr)(p s:Int):Int->List Int->List Int->List TR
 |_,_,[]=>[]
 |e,pre,r::cs=>.say (mf p e (dR ns ts s p pre (bm ts (ns.getD pre.length "")+1).toNat))::.coin r::lieT ns ts p s (val p (mf p e (dR ns ts s p pre (bm ts (ns.getD pre.length "")+1).toNat)) r) (pre++[r]) cs
def sOf(ts:List Tr)(c:List Int):Int:=if ts.length=1 then 0 else c.headD 0
def li(ts:List Tr)(c:List Int):List Int:=if ts.length=1 then c else c.tail
def Da(k:GmK ns ts p)(n6:ns.length<=6)(hn:Lia ns ts p rows cl)(hc:bY c p)(hl:c.length=bu ns ts):
 ∃t z f,TkOk ns ts p t/\t.bx "lied"=1/\t.z=goOn ns ts p z/\z.to=[]/\z.s=sOf ts c/\z.ed=hor (sOf ts c) p cl/\(li ts c).length=ns.length/\bY (li ts c) p/\2*ns.length<=f/\(gl ns ts p rows c).2=(cD ns ts p rows (li ts c) f t).2/\(gl ns ts p rows c).1=.claims (cl.map (· % p))::((if ts.length=1 then []else [.coin (sOf ts c)])++(cD ns ts p rows (li ts c) f t).1):=by
 let p2:=k.p2;let%[o,_,_|_]:=lT (rows:=rows) k n6;let e0:cU ns ts p ‹Tk.s› (Db.new ts)=jr ns ts p ‹Tk.s› { Db.new ts with pl:=(Db.new ts).pl+(‹Tk.s›.length:Int) }:=O9 rfl;unfold bu at hl
 by_cases c1:ts.length=1
 . rw [O9 c1]at hl;let es:sOf ts c=0:=O9 c1;let er:li ts c=c:=O9 c1;rw[es,er];erw[‹Tk.a›,{ Db.new ts with pl:=(Db.new ts).pl+(‹Tk.s›.length:Int),cl:=‹Tk.s›,s:=0,ed:=hor 0 p ‹Tk.s› },(20),o,hn.l0,e0.trans (O9 c1),1,1,6,hl,hc,3,1,6]
   . show hor 0 p ‹Tk.s›=_;rw[hn.cl,rB]
   . rw[O9 c1];unfold gl;rw[hn.cl];rfl
 . rw [O8 c1]at hl;let es:sOf ts c=c.headD 0:=O8 c1;let er:li ts c=c.tail:=O8 c1;let ez:‹Tk.a›.z={ Db.new ts with pl:=(Db.new ts).pl+(‹Tk.s›.length:Int),cl:=‹Tk.s›,aw:=("coin",none) }:=e0.trans (O8 c1);let cc:‹Tk.a›.z.aw.1="coin":=by rw[ez]
   let he:‹Tk.a›.z.he=[]:=by rw[ez];rfl
   let%[r0|r1]:=lX hc #[0];let%[o2|_]:=o.toss k cc r0 r1;rw[es,er];erw[‹Tk.a›.toss ns ts p (c.headD 0),{ ‹Tk.a›.z with pl:=‹Tk.a›.z.pl+1,s:=c.headD 0,ed:=hor (c.headD 0) p ‹Tk.a›.z.cl },(19),o2,hn.l0,O9 he,6,1,6,by rw[List.length_tail];omega,qY hc,3,6,6]
   . rw[ez];rfl
   . show hor (c.headD 0) p ‹Tk.a›.z.cl=_;rw[ez];show hor (c.headD 0) p ‹Tk.s›=_;rw[hn.cl,rB]
   . show(cD ns ts p rows c (19+1) ‹Tk.a›).2=_;rw[dH cc]
   . rw[O8 c1];show TR.claims ‹Tk.s›::(cD ns ts p rows c (19+1) ‹Tk.a›).1=_;rw[dH cc,hn.cl];rfl
def tG(ns:List Str)(ts:List Tr)(p:Int)(cl c:List Int):Bool:=decide (evl (sOf ts c) (ovr cl (ts.map λt=>(cnt t ns:Int))) % p=0)||lieB (ns.map (bm ts)) (li ts c)
def tN(s p:Int):∀c:List Int,hor s p c=evl s c % p
 | []=>rfl
 |a::r=>by
   show(hor s p r*s+a) % p=(a+s*evl s r) % p;rw[tN s p r,←wH0,qX0,jE0,←qX0,wH0,qW1,vK0]
def Bp(s:Int):∀(xs cs:List Int),xs.length=cs.length->evl s (ovr xs cs)=evl s xs-evl s cs
 | [],[],_=>rfl
 |x::xs,c::cs,h=>by
   let ih:=Bp s xs cs (Nat.succ.inj h);show(x-c)+s*evl s (ovr xs cs)=(x+s*evl s xs)-(c+s*evl s cs)
   rw[ih,wT1];omega
def IN(k:GmK ns ts p)(n6:ns.length<=6)(nd:ns.Nodup)(hn:Lia ns ts p rows cl)(ll:cl.length=ts.length)(hc:bY c p)(hl:c.length=bu ns ts):decide ((gl ns ts p rows c).2.z.aw.1="believed")=tG ns ts p cl c:=by
 let p2:=k.p2;let%[t,z,f,o,hb,ez,eto,es,ee,rl,rc,hf,e2|_]:=Da k n6 hn hc hl;let ev:hor (sOf ts c) p cl=cM ns ts (sOf ts c) p []↔evl (sOf ts c) (ovr cl (ts.map λt=>(cnt t ns:Int))) % p=0:=by
  rw[←tD #[0] (λu hu=>(k.tok u hu).1),tN,tN,Bp _ _ _ (by rw[ll,zF0])];exact Int.emod_eq_emod_iff_emod_sub_eq_zero
 rw[e2];unfold tG
 by_cases cr:evl (sOf ts c) (ovr cl (ts.map λt=>(cnt t ns:Int))) % p=0
 . let d2:Tru ns ts p t:=by
    let%[f1|f2]:=tP (ns:=ns) (ts:=ts) (p:=p) z (by rw[eto];exact zW0 _) (by rw[ee,es,eto];exact ev.mpr cr);let no:=kj (ns:=ns) (ts:=ts) (p:=p) z;rw[←ez]at f1 f2 no;erw[f1,λz=>absurd z no,λz=>absurd z no,λz _=>f2 z]
   let st:bN ns t.z<=f:=by
    have:=(jt (ns:=ns) (ts:=ts) (p:=p) z).1
    rw[←ez]at this;omega
   rw[oP k n6 nd hn f t (li ts c) o d2 hb rc st,zC1 rfl,zC1 cr];rfl
 . rw[Bc k n6 nd hn (li ts c) f t z o hb ez (by rw[ee,es,eto];exact λq=>cr (ev.mp q)) (by rw[eto,zH1];omega) rc #[0],zB1 cr,eto];rfl
end
section
def HR{P:Nat}(q:Nat->Bool)(v:Nat):(((List.range P).map λr=>if q r=true then v else 0).sum:Nat)=v*((List.range P).filter q).length:=by
 induction P with
 |zero=>rfl
 |succ P ih=>
   rw[zZ1,zK0,wC1,qQ1,zJ0,ih,Nat.mul_add]
   congr 1
   by_cases c:q P=true
   . simp [c]
   . simp [c]
def HP{P:Nat}(q:Nat->Bool)(a b:Nat):(((List.range P).map λr=>if q r=true then a else b).sum:Nat)+b*((List.range P).filter q).length=a*((List.range P).filter q).length+b*P:=by
 induction P with
 |zero=>rfl
 |succ P ih=>
   rw[zZ1,zK0,wC1,qQ1,zJ0,Nat.mul_add,Nat.mul_add,Nat.mul_add]
   by_cases c:q P=true
   . simp [c]
     omega
   . simp [c]
     omega
def oX{α:Type}(f:α->Bool):∀L:List α,(L.filter f).length+(L.filter λc=>!f c).length=L.length
 | []=>rfl
 |a::r=>by
   let ih:=oX f r;cases e:f a <;> simp [e] <;> omega
def He{d:Nat}:∀P:Nat,((List.range P).filter λx:Nat=>decide ((d:Int)≠0/\(x:Int)<=(d:Int)/\(x:Int)≠1)).length=if d=0 then 0 else min P (d+1)-(if 1<min P (d+1)then 1 else 0)
 |0=>by simp
 |P+1=>by
   rw[zZ1,qQ1,zJ0,He P]
   by_cases c:(d:Int)≠0/\(P:Int)<=(d:Int)/\(P:Int)≠1
   . let hd:¬ d=0:=#[0]
     rw[List.filter_cons_of_pos #[c,0],O8 hd,O8 hd];show _+1=_
     split <;> split <;> omega
   . rw [List.filter_cons_of_neg #[c,0]];show _+0=_
     by_cases d0:d=0
     . rw[O9 d0,O9 d0]
     . rw [O8 d0,O8 d0]
       split <;> split <;> omega
def Ll{d:Int}{P:Nat}(d0:0<=d)(dp:d<P):((List.range P).filter λx:Nat=>!decide (d≠0/\(x:Int)<=d/\(x:Int)≠1)).length=P-d.toNat:=by
 let%[n|1]:=qC1 d0;let h:=oX (λx:Nat=>decide ((n:Int)≠0/\(x:Int)<=(n:Int)/\(x:Int)≠1)) (List.range P);rw[He,qR0]at h
 by_cases n0:n=0
 . rw[O9 n0]at h;omega
 . rw [O8 n0]at h
   split at h <;> omega
def cgr(p:Int):List Int->Int
 | []=>1
 |d::ds=>(p-d)*cgr p ds
def yF(p:Int):∀(ds:List Int)(a:Int),ds.foldl (λa d=>a*(p-d)) a=a*cgr p ds
 | [],a=>(jO1 a).symm
 |d::ds,a=>by
   show ds.foldl _ (a*(p-d))=a*((p-d)*cgr p ds)
   rw[yF p ds,wO0]
def Jg(p:Int)(ds:List Int):cgt p ds=cgr p ds:=by
 unfold cgt;rw[yF,Int.one_mul]
def BD{P:Nat}:∀(ds:List Int),(∀d∈ds,0<=d/\d<(P:Int))->(((dN P ds.length).filter λc=>!lieB ds c).length:Int)=cgr P ds
 | [],_=>rfl
 |d::ds,h=>by
   let ih:=BD ds λx hx=>h x (qK0 _ hx)
   let%[d0|dp]:=h d qA0;show(((List.filter (λc=>!lieB (d::ds) c) ((List.range P).flatMap λr:Nat=>(dN P ds.length).map ((r:Int)::·))).length:Nat):Int)=(P-d)*cgr P ds;rw[List.filter_flatMap,wU0];let e:((List.range P).map λa:Nat=>(((dN P ds.length).map ((a:Int)::·)).filter λc=>!lieB (d::ds) c).length)=(List.range P).map λr:Nat=>if(!decide (d≠0/\(r:Int)<=d/\(r:Int)≠1))=true then((dN P ds.length).filter λc=>!lieB ds c).length else 0:=qU1 λr _=>by
    rw[wU1,zF0]
    by_cases c:d≠0/\(r:Int)<=d/\(r:Int)≠1
    . rw [O8 (by rw[zC1 c];decide),List.length_eq_zero_iff];apply List.filter_eq_nil_iff.mpr λx _=>?_
      show ¬ (!(decide (d≠0/\(r:Int)<=d/\(r:Int)≠1)||lieB ds x))=true;rw[zC1 c]
      simp
    . rw [O9 (by rw[zB1 c];rfl)]
      congr 1
      apply jI1 λx _=>?_
      show(!(decide (d≠0/\(r:Int)<=d/\(r:Int)≠1)||lieB ds x))=_;rw[zB1 c];rfl
   rw[e,HR (λr:Nat=>!decide (d≠0/\(r:Int)<=d/\(r:Int)≠1)),Ll d0 dp,Int.natCast_mul,ih,qW1]
   congr 1
   omega
variable {ns:List Str}{ts:List Tr}{p:Int}{rows:List Hr}{cl:List Int}
def Hd(k:GmK ns ts p):(((dN p.toNat ns.length).filter λc=>lieB (ns.map (bm ts)) c).length:Int)=p ^ ns.length-cgt p (ns.map (bm ts)):=by
 let p2:=k.p2;let ep:(p.toNat:Int)=p:=#[0]
 let h:=BD (P:=p.toNat) (ns.map (bm ts)) (λd hd=>by
  let%[x,hx|1]:=List.mem_map.mp hd;rw[ep];exact k.deg x hx)
 rw[zF0,ep,←Jg]at h;let f2:=oX (λc=>lieB (ns.map (bm ts)) c) (dN p.toNat ns.length);rw[lC]at f2;let e4:((p.toNat ^ ns.length:Nat):Int)=p ^ ns.length:=by rw[wV0,ep]
 omega
def IM(k:GmK ns ts p)(ll:cl.length=ts.length):(((dN p.toNat (bu ns ts)).filter (tG ns ts p cl)).length:Int)=IZ p ns.length ts.length (cgt p (ns.map (bm ts))) (ovr cl (ts.map λt=>(cnt t ns:Int))):=by
 let p2:=k.p2;let ep:(p.toNat:Int)=p:=#[0]
 let hB:=Hd k;let e4:((p.toNat ^ ns.length:Nat):Int)=p ^ ns.length:=by rw[wV0,ep]
 let ol:(ovr cl (ts.map λt=>(cnt t ns:Int))).length=ts.length:=by rw[rh (by rw[ll,zF0]),ll]
 unfold IZ bu;generalize hov:ovr cl (ts.map λt=>(cnt t ns:Int))=ov at ol
 by_cases c1:ts.length=1
 . rw [O9 c1,O9 c1];let%[a|1]:=List.length_eq_one_iff.mp (ol.trans c1);let eC:∀c∈dN p.toNat ns.length,tG ns ts p cl c=(decide (a % p=0)||lieB (ns.map (bm ts)) c):=λc _=>by
    unfold tG sOf li;rw[hov,O9 c1,O9 c1,jw,Int.zero_mul,Int.add_zero]
   rw[jI1 eC];show _=if a % p=0 then _ else _
   by_cases c:a % p=0
   . rw[O9 c,List.filter_eq_self.mpr (λx _=>by rw[zC1 c];rfl),lC,e4]
   . rw [O8 c,←hB]
     congr 2
     apply jI1 λx _=>?_
     rw[zB1 c];rfl
 . rw [O8 c1,O8 c1];show(((List.filter (tG ns ts p cl) ((List.range p.toNat).flatMap λr:Nat=>(dN p.toNat ns.length).map ((r:Int)::·))).length:Nat):Int)=_;rw[List.filter_flatMap,wU0];let e:((List.range p.toNat).map λa:Nat=>(((dN p.toNat ns.length).map ((a:Int)::·)).filter (tG ns ts p cl)).length)=(List.range p.toNat).map λr:Nat=>if decide (evl (r:Int) ov % p=0)=true then p.toNat ^ ns.length else((dN p.toNat ns.length).filter λc=>lieB (ns.map (bm ts)) c).length:=qU1 λr _=>by
    rw [wU1,zF0];let eC:∀c,(tG ns ts p cl ∘ λx=>(r:Int)::x) c=(decide (evl (r:Int) ov % p=0)||lieB (ns.map (bm ts)) c):=λc=>by
     show tG ns ts p cl ((r:Int)::c)=_;unfold tG sOf li;rw[hov,O8 c1,O8 c1];rfl
    by_cases c:evl (r:Int) ov % p=0
    . rw [O9 (zC1 c),←lC (p:=p.toNat) ns.length]
      congr 1
      exact List.filter_eq_self.mpr (λx _=>by rw[eC,zC1 c];rfl)
    . rw [O8 (by rw[zB1 c];decide)]
      congr 1
      apply jI1 λx _=>?_
      rw[eC,zB1 c];rfl
   rw [e];let h:=HP (P:=p.toNat) (λr:Nat=>decide (evl (r:Int) ov % p=0)) (p.toNat ^ ns.length) (((dN p.toNat ns.length).filter λc=>lieB (ns.map (bm ts)) c).length);let sl:(kA p ov).length=((List.range p.toNat).filter λr:Nat=>decide (evl (r:Int) ov % p=0)).length:=by
    unfold kA fnd;rw[zF0]
   rw[sl];generalize ((List.range p.toNat).filter λr:Nat=>decide (evl (r:Int) ov % p=0)).length=b at h ⊢;generalize (((List.range p.toNat).map λr:Nat=>if decide (evl (r:Int) ov % p=0)=true then p.toNat ^ ns.length else((dN p.toNat ns.length).filter λc=>lieB (ns.map (bm ts)) c).length).sum:Nat)=S at h ⊢;let h':=congrArg (Nat.cast (R:=Int)) h;simp only[jQ1,Int.natCast_mul]at h';rw[e4,hB,ep]at h';generalize p ^ ns.length=A at h' ⊢;generalize cgt p (ns.map (bm ts))=g at h' ⊢
   have:(b:Int)*A+(p-b)*(A-g)=A*b+(A-g)*p-(A-g)*b:=by grind
   omega
end
section
variable {ns:List Str}{ts:List Tr}{p:Int}{t:Tk}{cl:List Int}{z:Ak}{bx:Str->Int}{sd:List Int}
def liars:List Hr:=[.iff (.op "=" (.box "lied") (.num 0)) 9,.iff (.op "=" (.plain "asked") (.num 1)) 8,.say (.ask "true" (.num 0)),.say (.op "-" (.plain "due") (.ask "true" (.num 0))),.set "i" (.num 2),.say (.ask "true" (.box "i")),.set "i" (.op "+" (.box "i") (.num 1)),.go 5,.say (.op "/" (.plain "due") (.num 2)),.set "lied" (.num 1)]
def bX(cl:List Int):List Hr:=liars++cl.map λc=>.say (.num c)
def io(cl:List Int):((bX cl).length:Int)=10+(cl.length:Int):=by
 unfold bX;rw[zJ0,zF0];show((10+cl.length:Nat):Int)=_;omega
def ls0:cR z (bX cl) %[(0),bx|sd]=⟨if opV z.p "=" (bx "lied") (0 % z.p)=0 then 1 else 9,bx,sd⟩:=rfl
def ls1:cR z (bX cl) %[(1),bx|sd]=⟨if opV z.p "=" (z.mn % z.p) (1 % z.p)=0 then 2 else 8,bx,sd⟩:=rfl
def ls2:cR z (bX cl) %[(2),bx|sd]=⟨3,bx,sd++[if("true":Str)="coin" then jz z (0 % z.p)else fO z (0 % z.p)]⟩:=rfl
def ls3:cR z (bX cl) %[(3),bx|sd]=⟨4,bx,sd++[opV z.p "-" z.hd (if("true":Str)="coin" then jz z (0 % z.p)else fO z (0 % z.p))]⟩:=rfl
def ls4:cR z (bX cl) %[(4),bx|sd]=⟨5,gu bx "i" (2 % z.p),sd⟩:=rfl
def ls5:cR z (bX cl) %[(5),bx|sd]=⟨6,bx,sd++[if("true":Str)="coin" then jz z (bx "i")else fO z (bx "i")]⟩:=rfl
def ls6:cR z (bX cl) %[(6),bx|sd]=⟨7,gu bx "i" (opV z.p "+" (bx "i") (1 % z.p)),sd⟩:=rfl
def ls7:cR z (bX cl) %[(7),bx|sd]=⟨5,bx,sd⟩:=rfl
def ls8:cR z (bX cl) %[(8),bx|sd]=⟨9,bx,sd++[opV z.p "/" z.hd (2 % z.p)]⟩:=rfl
def ls9:cR z (bX cl) %[(9),bx|sd]=⟨10,gu bx "lied" (1 % z.p),sd⟩:=rfl
def lsC{j:Nat}{c:Int}(h:cl[j]?=some c):cR z (bX cl) %[10+(j:Int),bx|sd]=⟨10+((j+1:Nat):Int),bx,sd++[c % z.p]⟩:=by
 let e:(bX cl)[(10+(j:Int)).toNat]?=some (.say (.num c)):=by
  rw[show(10+(j:Int)).toNat=liars.length+j by show _=10+j;omega];unfold bX;rw[zK1 #[0],Nat.add_sub_cancel_left,zY0,h];rfl
 unfold cR;show(match(bX cl)[(10+(j:Int)).toNat]? with | some r=>Eg z (bX cl).length %[10+(j:Int),bx|sd] r | none=>%[10+(j:Int),bx|sd])=_;rw[e];show(⟨10+(j:Int)+1,bx,sd++[c % z.p]⟩:MS)=_
 congr 1
def uQ{mn:Int}(h:(sd.length:Int)=mn):qO mn sd=sd:=by
 unfold qO;rw[h,Int.sub_self];exact qV1 _
def EF:∀(m j fuel:Nat),j+m=cl.length->z.mn=(cl.length:Int)->m<=fuel->jV z (bX cl) fuel %[10+(j:Int),bx|(cl.take j).map (· % z.p)]=⟨10+(cl.length:Int),bx,cl.map (· % z.p)⟩
 |0,j,fuel,hj,hm,hf=>by
   let ej:j=cl.length:=#[0]
   subst ej;rw[qB0,oA (λc=>absurd c.2 (by show ¬ (((cl.map (· % z.p)).length:Nat):Int)<z.mn;rw[zF0,hm];omega))]
 |m+1,j,fuel,hj,hm,hf=>by
   obtain⟨fu,rfl⟩:∃fu,fuel=fu+1:=%[fuel-1|3]
   let hjl:j<cl.length:=#[0]
   let lt:((cl.take j).map (· % z.p)).length=j:=by rw[zF0,qI0];omega
   rw [hU (by show 10+(j:Int)<((bX cl).length:Int);rw[io];omega) (by show(((cl.take j).map (· % z.p)).length:Int)<z.mn;rw[lt,hm];omega),lsC (zL0 hjl)];let e:(cl.take j).map (· % z.p)++[cl[j] % z.p]=(cl.take (j+1)).map (· % z.p):=by
    rw[qC0,zL0 hjl,zK0];rfl
   rw[e];exact EF m (j+1) fu #[0] hm #[0]
def liL(z:Ak)(j:Nat):List Int:=(mo z j).set 1 ((z.hd-fO z 0) % z.p)
def lV(z:Ak)(j:Nat):(liL z j).length=j:=by unfold liL;rw[qP1,uJ]
def FS(z:Ak){j:Nat}(h:2<=j):liL z (j+1)=liL z j++[fO z ((j:Int) % z.p)]:=by
 unfold liL;rw[mL,List.set_append_left 1 _ (by rw[uJ];omega)]
def JE:¬ (("lied":Str)="i"):=by decide
def Kh(p0:0<z.p)(m:Nat):∀(j fuel:Nat) (bx:Str->Int),2<=j->z.mn=((j+m:Nat):Int)->3*m<=fuel->bx "i"=(j:Int) % z.p->(jV z (bX cl) fuel %[(5),bx|liL z j]).sd=liL z (j+m)/\(jV z (bX cl) fuel ⟨5,bx,liL z j⟩).bx "lied"=bx "lied":=by
 induction m with
 |zero=>
   intro j fuel bx j2 hm hf hb;rw[oA (λc=>absurd c.2 (by show ¬ ((liL z j).length:Int)<z.mn;rw[lV,hm];omega))];erw[1,1]
 |succ m ih=>
   intro j fuel bx j2 hm hf hb;obtain⟨fu,rfl⟩:∃fu,fuel=fu+3:=%[fuel-3|3]
   let le:∀x:Int,x<10->x<((bX cl).length:Int):=λx hx=>by rw[io];omega
   let e1:cR z (bX cl) %[(5),bx|liL z j]=⟨6,bx,liL z (j+1)⟩:=by
    rw[ls5,O8 Fy,hb,FS z j2]
   rw[hU (le 5 ⋯) (by show((liL z j).length:Int)<z.mn;rw[lV,hm];omega),e1];cases m with
   |zero=>
     rw[oA (λc=>absurd c.2 (by show ¬ ((liL z (j+1)).length:Int)<z.mn;rw[lV,hm];omega))];erw[1,1]
   |succ m=>
     let hl:((liL z (j+1)).length:Int)<z.mn:=by rw[lV,hm];omega
     rw [hU (le 6 ⋯) hl,ls6,hU (le 7 ⋯) hl,ls7];let hb2:gu bx "i" (opV z.p "+" (bx "i") (1 % z.p)) "i"=((j+1:Nat):Int) % z.p:=by
      unfold gu;rw[O9 rfl];show(bx "i" + 1 % z.p) % z.p=_;rw[hb,wH0,Int.add_emod_emod];rfl
     let%[r1|r2]:=ih (j+1) fu _ #[0] (by rw[hm];omega) #[0] hb2;erw[r1.trans (by congr 1;omega),r2.trans ?_];unfold gu;rw[O8 JE]
def wj(q x y:Int):opV q "=" x y=if x=y then 1 else 0:=rfl
def Kg(p2:2<z.p){n:Nat}(hm:z.mn=(n:Int))(n1:1<=n)(n60:n<=61)(np:(n:Int)<=z.p)(hb:bx "lied"=1):(jV z (bX cl) 200 %[(0),bx|[]]).sd=(if n=1 then [oY z.p z.hd 2]else liL z n)/\(jV z (bX cl) 200 ⟨0,bx,[]⟩).bx "lied"=1:=by
 let le:∀x:Int,x<10->x<((bX cl).length:Int):=λx hx=>by rw[io];omega
 let s0:cR z (bX cl) %[(0),bx|[]]=⟨1,bx,[]⟩:=by
  rw[ls0,wj,hb,jL1,O8 (show ¬ (1:Int)=0 by decide),O9 rfl]
 let e1:(1:Int) % z.p=1:=qL0 ⋯ #[0];let e2:(2:Int) % z.p=2:=qL0 ⋯ #[0];let e0:(0:Int) % z.p=0:=jL1 _;let h0:(([]:List Int).length:Int)<z.mn:=by rw[hm];show(0:Int)<n;omega
 rw[hU (le 0 ⋯) h0,s0,hU (le 1 ⋯) h0,ls1,wj,e1,hm]
 by_cases c:n=1
 . subst c;rw[O9 (show((1:Nat):Int) % z.p=1 from e1),O8 ⋯,O9 rfl,hU (le 8 ⋯) h0,ls8,e2,oA (λc=>absurd c.2 (by show ¬ ((1:Nat):Int)<z.mn;rw[hm];omega))];erw[1,hb]
 . let en:¬ (n:Int) % z.p=1:=by
    rcases jZ1 (n:Int) z.p with q | q
    . rw[qL0 #[0] q];omega
    . rw[show(n:Int)=z.p by omega,Int.emod_self];decide
   rw [O8 en,O9 rfl,O8 c,hU (le 2 ⋯) h0,ls2,O8 Fy,e0,hU (le 3 ⋯) (by rw[hm];show((1:Nat):Int)<n;omega),ls3,O8 Fy,e0];let el:([]:List Int)++[fO z 0]++[opV z.p "-" z.hd (fO z 0)]=liL z 2:=by
    unfold liL;rw[show(2:Nat)=0+1+1 from rfl,mL,mL];show [fO z 0,(z.hd-fO z 0) % z.p]=[fO z (((0:Nat):Int) % z.p),(z.hd-fO z 0) % z.p]
    rw[show((0:Nat):Int) % z.p=0 from e0]
   rw[el]
   by_cases c2:n=2
   . subst c2;rw[oA (λc=>absurd c.2 (by show ¬ ((liL z 2).length:Int)<z.mn;rw[lV,hm];omega))];erw[1,hb]
   . rw[hU (le 4 ⋯) (by show((liL z 2).length:Int)<z.mn;rw[lV,hm];omega),ls4];let%[r1|r2]:=Kh (cl:=cl) (z:=z) #[0] (n-2) 2 195 (gu bx "i" (2 % z.p)) #[0] (by rw[hm];omega) #[0] (by unfold gu;rw[O9 rfl];rfl);erw[r1.trans (by congr 1;omega),r2.trans ?_];unfold gu;rw[O8 JE];exact hb
def FR(k:GmK ns ts p)(n6:ns.length<=6)(nd:ns.Nodup)(d60:∀y∈ns,bm ts y<=60)(ll:cl.length=ts.length):Lia ns ts p (bX cl) cl:=by
 let p2:=k.p2;let t1:=k.t1;let t10:=k.t10;let hr:(Tk.new ts).run ns ts p (bX cl)=%[10+(cl.length:Int),gu (Tk.new ts).bx "lied" (1 % p)|cl.map (· % p)]:=by
  unfold Tk.run;let le:∀x:Int,x<10->x<((bX cl).length:Int):=λx hx=>by rw[io];omega
  let h0:(([]:List Int).length:Int)<((Tk.new ts).ak ns ts p).mn:=by show(0:Int)<(ts.length:Int);omega
  let s0:cR ((Tk.new ts).ak ns ts p) (bX cl) %[(0),(Tk.new ts).bx|[]]=⟨9,(Tk.new ts).bx,[]⟩:=by
   rw[ls0,wj,jL1];rfl
  rw[hU (le 0 ⋯) h0,s0,hU (le 9 ⋯) h0,ls9];exact EF (z:=(Tk.new ts).ak ns ts p) (bx:=gu (Tk.new ts).bx "lied" (1 % p)) cl.length 0 198 #[0] (by show(ts.length:Int)=_;omega) #[0]
 erw[6,6,λt ht hw hb=>?_]
 . unfold Tk.said;rw[hr];exact uQ (by show(((cl.map (· % p)).length:Nat):Int)=(ts.length:Int);rw[zF0,ll])
 . rw[hr];show gu (Tk.new ts).bx "lied" (1 % p) "lied"=1;unfold gu;rw[O9 rfl];exact qL0 ⋯ #[0]
 . let%[hp,_,l1,le,lp,e0|e1]:=Bd k n6 ht hw;let%[ok,a0,a5,tl,aw|ea]:=ht.ak k n6 hw;let hx:ns.getD t.z.to.length ""∈ns:=by
    rw[qJ0,zL0 tl];exact qP0 tl
   let d6:=d60 _ hx;rw[lj]at l1 le lp;let tr:=BP k n6 nd ht hw;let%[r1|r2]:=Kg (cl:=cl) (z:=t.ak ns ts p) (bx:=t.bx) (n:=(awN t.z).toNat) (by show 2<p;omega) (by show awN t.z=_;omega) l1 #[0] lp hb;erw[6,r2];unfold Tk.said;let e3:(t.run ns ts p (bX cl)).sd=mf p t.z.ed (dR ns ts t.z.s p t.z.to (awN t.z).toNat):=by
    apply Eq.trans r1 ?_;unfold mf;rw[lj]
    by_cases c:(awN t.z).toNat=1
    . rw[O9 c,O9 c];rfl
    . rw [O8 c,O8 c];unfold liL;rw[tr]
      congr 3
      let h:=congrArg (λl=>l.getD 0 0) tr;rw[←show(mo (t.ak ns ts p) (awN t.z).toNat).getD 0 0=(dR ns ts t.z.s p t.z.to (awN t.z).toNat).getD 0 0 from h];unfold mo;rw[qJ0,zY0,jL0 #[0]];show fO (t.ak ns ts p) 0=fO (t.ak ns ts p) (((0:Nat):Int) % p);rw[show((0:Nat):Int) % p=0 from jL1 _]
   rw[e3];exact uQ (by rw[FO,lj];omega)
end
def RowsAt.app(h:RowsAt H a r)(k:RowsAt H b s):RowsAt H (a++b) (r++s):=by
 erw[by rw[zJ0,zJ0,h.1,k.1],λi v x e1 e2=>?_]
 by_cases c:i<a.length
 . rw[zU1 c]at e1;rw[zU1 (by rw[←h.1];exact c)]at e2;exact h.2 i v x e1 e2
 . rw[zK1 #[0]]at e1;rw[zK1 (by rw[←h.1];omega),←h.1]at e2;exact k.2 _ v x e1 e2
abbrev Lz:Str:="if (= lied 0) 9\nif (= asked 1) 8\nsay (true 0)\nsay (- due (true 0))\nset i 2\nsay (true i)\nset i (+ i 1)\ngo 5\nsay (/ due 2)\nset lied 1"
def Ah:oV liars=Lz:=by decide
def liars_good:mK liars:=by
 erw[4,λr hr=>?_];unfold liars at hr;simp only[jD0,qS1,wX1]at hr;let ni:NmK "i":=by unfold NmK;decide
 let nl:NmK "lied":=by unfold NmK;decide
 rcases hr with rfl | rfl | rfl | rfl | rfl | rfl | rfl | rfl | rfl | rfl
 . erw[%[%[4,nl,4|4],4|4],4,4]
 . erw[%[%[4,(by decide:("asked":Str)∈plainW),4|4],4|4],4,4]
 . erw[%[4,4|4],4,4]
 . erw[%[4,(by decide:("due":Str)∈plainW),4,4|4],4,4]
 . erw[ni,%[4|4],4,4]
 . erw[%[4|ni],4,4]
 . erw[ni,%[4,ni,4|4],4,4]
 . erw[4,4]
 . erw[%[4,(by decide:("due":Str)∈plainW),4|4],4,4]
 . erw[nl,%[4|4],4,4]
def FQ:∀r∈liars,r.good:=by
 intro r hr;unfold liars at hr;simp only[jD0,qS1,wX1]at hr;rcases hr with rfl | rfl | rfl | rfl | rfl | rfl | rfl | rfl | rfl | rfl
 . erw[%[4,trivial|trivial],4,4]
 . erw[%[4,(by decide:("asked":Str)∈plainW)|trivial],4,4]
 . erw[%[4|trivial],4]
 . erw[%[4,(by decide:("due":Str)∈plainW),4|trivial],4]
 . erw[trivial,4]
 . erw[%[4|trivial],4]
 . erw[%[4,trivial|trivial],4]
 . exact(by decide:(0:Int)<=5)
 . erw[%[4,(by decide:("due":Str)∈plainW)|trivial],4]
 . erw[trivial,4]
instance spBest:∀(l:Addr)(cl:List Int),vs=[.ref l]->H l=some (.lst (cl.map V.int))->1<=cl.length->cl.length<=10->(∀(a:Addr)(rv:List V)(H':Hp),H' a=some (.tup rv)->RowsAt H' rv (bX cl)->(∀r∈bX cl,r.good)->Same H H'->Q (.ref a) H'):=1
def vE:FnScope ["claims"] ["claims"] (aj kZ):=%[|5]
def wB(F:#["best_liar",kZ])(B:Bl mg)(X:∃t,mg "LIAR_ROWS"=some (.str Lz t))(d8:#[21,"read_helper",WE,spReadH]):#[22,f,fd,["claims"],spBest]:=by
 exists vE
 erw[l,cl,1,hl,c1,c10,q]at h;erw[t,gx]at X;refine⟨_,(af (am (au op_catT (ax d8 hr ⋯ rfl %[cZ (v:=.str Lz) rfl gx %[|0]|ae]) (bc bh rfl B.tuple bi (aa (cf (N:=[]) (ix:=[]) (cl:=[]) rfl
  #[5] rfl
  (dJ (pv 0)) (λ_ _ _=>cg (aS %[aF,aS %[aF,0|ae]|ae]))) ae))))),?_⟩
 erw[liars,by rw[Ah];rfl,liars_good,λa tv H1 ha R1 S1=>?_];let hl1:=S1 _ _ hl;erw[0,l,1,%[_|zG0 hl1],λD hD=>?_];apply fc (K:=K) (xs:=cl.map V.int) (λi H'=>∃(us:List V),H' D=some (.lst us)/\RowsAt H' us ((cl.take i).map λc=>.say (.num c))/\us.length=i/\Same H1 H') %[[],ah,RowsAt.nil,1|zE0 hD _] (λi H' _ Pd=>by erw[_,_,_,_,h]at Pd;exact zG0 (h _ _ hl1)) ?_ ?_
 . rintro i z H2 hz ⟨us,hD2,R2,ul,S2⟩;let hi:i<(cl.map V.int).length:=(Pj hz).1;let hi':i<cl.length:=by rw[zF0]at hi;exact hi
   let ez:z=.int cl[i]:=by
    rw[zY0,zL0 hi']at hz;exact(zS0 hz).symm
   subst ez;erw[0,y2S,λb hb=>%[y2S|λd hd=>?_]];let I3:=zE0 hb (.tup [.str "num",.int cl[i]]);let e3:upd H2 b (.tup [.str "num",.int cl[i]]) b=_:=ah;generalize upd H2 b (.tup [.str "num",.int cl[i]])=H3 at hd I3 e3;let I4:=zE0 hd (.tup [.str "say",.ref b]);let e4:upd H3 d (.tup [.str "say",.ref b]) d=_:=ah;generalize upd H3 d (.tup [.str "say",.ref b])=H4 at I4 e4;let J4:=I3.trans I4;let hD4:=J4 _ _ hD2;let k5:=dB (H:=H4) (b:=D) (ys:=us) (zs:=us++[.ref d]) hD4;erw[_,hD4,aN #[0],Nx.of hi ⟨us++[.ref d],ah,?_,by rw[zJ0,ul];rfl,λb' o' e'=>?_⟩]
   . rw[qC0,zL0 hi',zK0];exact((R2.mono (aY J4)).mono k5).snoc (.say (k5 _ _ e4) (.num (k5 _ _ (I4 _ _ e3))))
   . rw[aD (aO e' hD)];exact J4 _ _ (S2 _ _ e')
 . rintro H2 ⟨us,hD2,R2,ul,S2⟩;rw[zF0]at ul;rw[zF0,qB0]at R2;erw[D,0,.inl %[zG0 hD2|λb hb=>?_]];let I3:=zE0 hb (.tup us);let e3:upd H2 b (.tup us) b=_:=ah;generalize upd H2 b (.tup us)=H3 at I3 e3;let J3:=S2.trans I3;let tl:=R1.1;let un:us≠[]:=λz=>by rw[z]at ul;rw[zH1]at ul;omega
   let tn:tv≠[]:=λz=>by rw[z]at tl;cases tl
   let t10:tv.length=10:=tl;erw[a,b,2,zC0 (J3 _ _ ha),zC0 e3,tn,cx #[0],λz=>absurd z un,λ_ c' hc'=>?_];let I4:=zE0 hc' (.tup (tv++us));apply q c' _ _ ah (((R1.mono (aY J3)).app (R2.mono (aY I3))).mono (aY I4)) (λr hr=>?_) (S1.trans (J3.trans I4));unfold bX at hr;rcases qN0 hr with h | h
   . exact FQ r h
   . let%[c,_|1]:=List.mem_map.mp h;erw[trivial,by show 1<=5;decide]
inductive Lk(H:Hp):Nat->V->V->Prop
 |str {n:Nat} (x:Str):Lk H n (.str x) (.str x)
 |int {n:Nat} (i:Int):Lk H n (.int i) (.int i)
 |tup {n:Nat} {a b:Addr} {xs ys:List V}:H a=some (.tup xs)->H b=some (.tup ys)->xs.length=ys.length->xs.length<=100->(∀(i:Nat)(x y:V),xs[i]?=some x->ys[i]?=some y->Lk H n x y)->Lk H (n+1) (.ref a) (.ref b)
def Lk.mono(k:cG H H')(h:Lk H n v u):Lk H' n v u:=by
 induction h with
 |str x=>exact .str x
 |int i=>exact .int i
 |tup e1 e2 l s _ ih=>exact .tup (k _ _ e1) (k _ _ e2) l s ih
def pwn{R:V->V->Prop}:∀(i:Nat)(a b:V),([]:List V)[i]?=some a->([]:List V)[i]?=some b->R a b:=λi a b h=>by simp at h
def pwc{R:V->V->Prop}{x y:V}{xs ys:List V}(h:R x y)(t:∀(i:Nat) (a b:V),xs[i]?=some a->ys[i]?=some b->R a b):∀(i:Nat)(a b:V),(x::xs)[i]?=some a->(y::ys)[i]?=some b->R a b
 |0,a,b,h1,h2=>by cases h1;cases h2;exact h
 |i+1,a,b,h1,h2=>t i a b h1 h2
def uU:∀(t:Tm)(v u:V)(n:Nat),TmAt H v t->TmAt H u t->t.depth<=n->Lk H n v u
 |.num _,_,_,0,_,_,d=>by cases d
 |.box _,_,_,0,_,_,d=>by cases d
 |.plain _,_,_,0,_,_,d=>by cases d
 |.ask _ _,_,_,0,_,_,d=>by cases d
 |.op _ _ _,_,_,0,_,_,d=>by cases d
 |.num _,_,_,n+1,h1,h2,_=>by
   cases h1 with | num e1=>cases h2 with | num e2=>exact .tup e1 e2 rfl #[2] (pwc (.str _) (pwc (.int _) pwn))
 |.box _,_,_,n+1,h1,h2,_=>by
   cases h1 with | box e1=>cases h2 with | box e2=>exact .tup e1 e2 rfl #[2] (pwc (.str _) (pwc (.str _) pwn))
 |.plain _,_,_,n+1,h1,h2,_=>by
   cases h1 with | plain e1=>cases h2 with | plain e2=>exact .tup e1 e2 rfl #[2] (pwc (.str _) pwn)
 |.ask _ t,_,_,n+1,h1,h2,d=>by
   cases h1 with | ask e1 a1=>cases h2 with | ask e2 a2=>exact .tup e1 e2 rfl #[2] (pwc (.str _) (pwc (uU t _ _ n a1 a2 (wE1 d)) pwn))
 |.op _ t r,_,_,n+1,h1,h2,d=>by
   let dd:t.depth<=n/\r.depth<=n:=by
    have:max t.depth r.depth+1<=n+1:=d
    omega
   cases h1 with | op e1 a1 b1=>cases h2 with | op e2 a2 b2=>exact .tup e1 e2 rfl #[2] (pwc (.str _) (pwc (.str _) (pwc (uU t _ _ n a1 a2 dd.1) (pwc (uU r _ _ n b1 b2 dd.2) pwn))))
def lk_hr(h1:HrAt H v r)(h2:HrAt H u r)(ok:r.ok 20):Lk H 9 v u:=by
 cases h1 with
 |fin e1=>cases h2 with | fin e2=>exact .tup e1 e2 rfl #[2] (pwc (.str _) pwn)
 |go e1=>cases h2 with | go e2=>exact .tup e1 e2 rfl #[2] (pwc (.str _) (pwc (.int _) pwn))
 |iff e1 t1=>cases h2 with | iff e2 t2=>exact .tup e1 e2 rfl #[2] (pwc (.str _) (pwc (uU _ _ _ _ t1 t2 ok.1.2.2) (pwc (.int _) pwn)))
 |set e1 t1=>cases h2 with | set e2 t2=>exact .tup e1 e2 rfl #[2] (pwc (.str _) (pwc (.str _) (pwc (uU _ _ _ _ t1 t2 ok.2.2.2) pwn)))
 |say e1 t1=>cases h2 with | say e2 t2=>exact .tup e1 e2 rfl #[2] (pwc (.str _) (pwc (uU _ _ _ _ t1 t2 ok.2.2) pwn))
def IL{H:Hp}{a b:Addr}{xs ys:List V}(ha:H a=some (.tup xs))(hb:H b=some (.tup ys))(R1:RowsAt H xs rs)(R2:RowsAt H ys rs)(g:mK rs):Lk H 10 (.ref a) (.ref b):=by
 let l60:=g.1;refine .tup ha hb (R1.1.trans R2.1.symm) (by rw[R1.1];omega) λi x y hx hy=>?_
 let hi:i<rs.length:=by rw[←R1.1];exact(Pj hx).1
 let hr:=zL0 hi;exact lk_hr (R1.2 i x _ hx hr) (R2.2 i y _ hy hr) (g.2 _ (qP0 hi))
instance spAl(n:Nat):∀(v u:V)(m:Nat),vs=[v,u]->n=m+1->Lk H m v u->(∀H',Same H H'->Q (.bl true) H'):=1
def yN:∀n:Nat,(List.replicate n true).all id=true
 |0=>rfl
 |n+1=>by rw[qB1,wC0,yN n];rfl
def yo(K:W.Frag):W.kitOne K (.type "int") (.type "tuple")=some false:=by
 unfold W.kitOne;rfl
def ym(K:W.Frag):W.kitOne K (.type "str") (.type "tuple")=some false:=by
 unfold W.kitOne;rfl
def wK(K:W.Frag):W.kitOne K (.type "str") (.type "bool")=some false:=by
 unfold W.kitOne;rfl
def qE(K:W.Frag):W.kitOne K (.type "int") (.type "str")=some false:=by
 unfold W.kitOne;rfl
def zt:FnScope Wb Wb (aj lN):=%[|5]
def Jm{n:Nat}(F:#["_law_alike",lN])(B:Bl mg)(i8:#[n+1,"_law_alike",Wb,spAl n]):#[n+2,f,fd,Wb,spAl (n+1)]:=by
 exists zt
 erw[v,u,m,1,hm,al,q]at h;refine⟨_,(ad (aJ (eI (aG dG rfl B.isinstance zO1 %[1,iR (v:=V.ty "tuple") rfl B.tuple bi rfl|ae])) (ad (aJ (PW.pt (iD (hZ (eI (aG dG rfl B.isinstance zO1 %[0,iR (v:=V.ty "tuple") rfl B.tuple bi rfl|ae]))) (hV (ai lq (aG aI rfl B.len zD1 %[0|ae]) (aG aI rfl B.len zD1 %[1|ae]) (ay _))))) (af (am gn)) aB)
  (af (am (aG (pj rfl) rfl B.all jR1 (aa (xL (N:=[]) (ix:=[]) (cl:=[]) rfl
  #[5] rfl ⋯ rfl
  (ER rfl B.zip %[0,1|ae]) (λ_ _ _=>cg (ax i8 hr (zH0 _) rfl %[0,1|ae]))) ae))))) aB)
  (af (am (nI (dw aQ (aG dG rfl B.isinstance zO1 %[0,iR (v:=V.ty "str") rfl B.str jA rfl|ae]) (aG dG rfl B.isinstance zO1 %[1,iR (v:=V.ty "str") rfl B.str jA rfl|ae]) (ay _)) (nI (wg (aG dG rfl B.isinstance zO1 %[0,iR (v:=V.ty "bool") rfl B.bool ub rfl|ae])) (nv (dw aQ (pv 0) (pv 1) (ay _)))))))),?_⟩
 cases al with
 |str x=>
   erw[0,_,_,"tuple",false,1,TyOf.str _,ym _,0,cE ?_];erw[0,_,_,"str",true,1,TyOf.str _,jq _ _,0,_,_,"str",true,1,TyOf.str _,jq _ _,1,0,du ?_];erw[0,_,_,"bool",false,1,TyOf.str _,wK _,0,0,du ?_];erw[0,0,1,6];rw[zC1 rfl];exact q H (Same.refl H)
 |int i=>
   erw[0,_,_,"tuple",false,1,TyOf.int _,yo _,0,cE ?_];erw[0,_,_,"str",false,1,TyOf.int _,qE _,0,_,_,"str",false,1,TyOf.int _,qE _,1,0,du ?_];erw[0,_,_,"bool",false,1,TyOf.int _,oS _,0,0,du ?_];erw[0,0,1,6];rw[zC1 rfl];exact q H (Same.refl H)
 | @tup m a b xs ys ha hb xy x100 hi=>
   erw[0,_,_,"tuple",true,1,TyOf.tup hb,jq _ _,0,du ?_];erw[0,_,_,"tuple",true,1,TyOf.tup ha,jq _ _,0,cE ?_];erw[0,a,0,.inr (zC0 ha),0,b,0,.inr (zC0 hb),1,0,6];rw[xy];show if(!decide (V.int (ys.length:Int)=V.int (ys.length:Int)))=true then _ else _
   rw[zC1 rfl];apply cE ?_;erw[0,0,a,b,false,false,1,%[_|zC0 ha],%[_|zC0 hb],λD hD=>?_];apply yA (K:=K) (c:=false) (d:=false) (xs:=xs) (ys:=ys) xy (λi H'=>H' D=some (.lst ((List.replicate i true).map V.bl))/\Same H H') %[by rw[ah];rfl|zE0 hD _] (λi H' _ h=>%[zC0 (h.2 _ _ ha)|zC0 (h.2 _ _ hb)]) ?_ ?_
   . rintro i x y t' H2 hx hy ⟨hD2,S2⟩ ht;let hii:=(Pj hx).1;let G:=zE0 ht (.tup [x,y]);let S12:=S2.trans G;erw[0,0,x,y,0,Nat.succ.inj hm,(hi i x y hx hy).mono (aY S12),λH3 S3=>?_];erw[_,S3 _ _ (G _ _ hD2),6,Nx.of hii %[6|λb' o' e'=>?_]]
     . rw[zF0,zR1];exact aN #[0]
     . rw[ah,List.replicate_succ',zK0];rfl
     . rw[aD (aO e' hD)];exact S3 _ _ (S12 _ _ e')
   . rintro H2 ⟨hD2,S2⟩;erw[D,0,zG0 hD2,6];rw[yN];exact q H2 S2
def sW(F:#["_law_alike",lN])(B:Bl mg)(m:mg "_law_alike"=some (.ref f)):
 ∀n:Nat,#[n+1,f,fd,Wb,spAl n]
 |0=>by
   let no:∀vs H Q E,¬ spAl 0 vs H Q E:=λvs H Q E h=>by
    erw[_,_,_,_,h1,_]at h;cases h1
   exists 3
 |n+1=>Jm F B (Cal.of F (sW F B m n) m (λ_ _ _ _ _ _ us hl=>by let%[u0,u1|1]:=Dd hl;rfl))
instance spWrit:∀(a:Addr)(tv:List V)(rs:List Hr),vs=[.ref a]->H a=some (.tup tv)->RowsAt H tv rs->mK rs->(∀H',Same H H'->Q (.bl true) H'):=1
def qN:FnScope Ww Ww (aj iA):=%[|5]
def qS(F:#["_law_is_written",iA])(B:Bl mg)(i8:#[12,"_law_alike",Wb,spAl 11])(d8:#[21,"read_helper",WE,spReadH])(jC:#[19,"helper_text",WR,spHT]):#[22,f,fd,Ww,spWrit]:=by
 exists qN
 erw[a,tv,rs,1,ha,R,g,q]at h;erw[_,(af (am (nI (aG dG rfl B.isinstance zO1 %[0,iR (v:=V.ty "tuple") rfl B.tuple bi rfl|ae]) (nv (ax i8 hr ⋯ rfl %[ax d8 hr ⋯ rfl %[ax jC hr ⋯ rfl %[0|ae]|ae],0|ae]))))),6];erw[0,_,_,"tuple",true,1,TyOf.tup ha,jq _ _,0,du ?_];erw[0,a,tv,rs,1,ha,R,g,λH1 S1=>?_];erw[rs,1,g,λb uv H2 hb R2 S2=>?_];let S02:=S1.trans S2;erw[0,_,_,(10),1,1,IL hb (S02 _ _ ha) R2 (R.mono (aY S02)) g,λH3 S3=>q H3 (S02.trans S3)]
def Hr.leads(n:Nat):Hr->Prop
 |.go i=>0<=i/\i<(n:Int) | .iff _ i=>0<=i/\i<(n:Int) | _=>True
instance spLook:∀(a:Addr)(tv:List V)(rs:List Hr),vs=[.ref a]->H a=some (.tup tv)->RowsAt H tv rs->(∀r∈rs,r.leads rs.length)->(∀H',Same H H'->Q (.bl true) H'):=1
def iM:FnScope ["helper","number","row"] WR (aj iY):=%[|5]
def inV_ig:inV (.str "if") [.str "if",.str "go"]=true/\inV (.str "go") [.str "if",.str "go"]=true/\inV (.str "set") [.str "if",.str "go"]=false/\inV (.str "say") [.str "if",.str "go"]=false/\inV (.str "end") [.str "if",.str "go"]=false:=by decide
def IV{n:Nat}(h:HrAt H v r)(l:r.leads n):∃(a:Addr) (x:Str) (xs:List V),v=.ref a/\H a=some (.tup (.str x::xs))/\(inV (.str x) [.str "if",.str "go"]=false∨inV (.str x) [.str "if",.str "go"]=true/\∃i:Int,atI (.str x::xs) (-1)=some (.int i)/\0<=i/\i<(n:Int)):=by
 cases h with
 |fin e=>erw[_,_,0,e,.inl inV_ig.2.2.2.2]
 |go e=>erw[_,_,0,e,.inr %[inV_ig.2.1,0|l]]
 |iff e _=>erw[_,_,0,e,.inr %[inV_ig.1,0|l]]
 |set e _=>erw[_,_,0,e,.inl inV_ig.2.2.1]
 |say e _=>erw[_,_,0,e,.inl inV_ig.2.2.2.1]
def sU(F:#["look_helper",iY])(B:Bl mg):#[1,f,fd,WR,spLook]:=by
 exists iM
 erw[a,tv,rs,1,ha,R,ld,q]at h;refine⟨_,(ad (cI zE1 rfl (xI rfl B.enumerate (pv 0)) (pU rfl (dA (aX (i:=1) iM.nd rfl (.inl rfl)) (dA (aX (i:=2) iM.nd rfl (.inl rfl)) lQ))) (af (aJ (PW.pt (nu (ai dP (aM ix_tup (pv 2) ag #[1]) (aS %[aF,aF|ae]) (by rfl')) (lP (hZ (xG uR gq ag (aM ix_tup (pv 2) (uP pA ag) #[1]) (aG aI rfl B.len zD1 %[0|ae])))))) bq aB)))
  (af (am gn))),?_⟩
 erw[0,a,1,%[_|zC0 ha],uY (K:=K) (xs:=tv) (λi σ H'=>∃x1 x2:Option V,σ=[some (.ref a),x1,x2]/\Same H H') %[_,0|Same.refl _] (λi σ H' _ Pd=>by erw[_,_,_,h]at Pd;exact zC0 (h _ _ ha)) ?_ ?_]
 . rintro i z σ H1 t hz ⟨x1,x2,rfl,S1⟩ ht;let hi:i<rs.length:=by rw[←R.1];exact(Pj hz).1
   let G:=zE0 ht (.tup [.int (i:Int),z]);let S2:=S1.trans G;let%[r,x,xs,1,er|cs]:=IV ((R.2 i z _ hz (zL0 hi)).mono (aY S2)) (ld _ (qP0 hi));erw[t,0,zC0 ah,1,_,0,2,6];erw[0,r,_,(0),0,1,zC0 er,at0 ..,y2S,λL hL=>?_];let G3:=zE0 hL (.tup [.str "if",.str "go"]);erw[L,0,.inr (zC0 ah),1,1,0,6];rcases cs with c | ⟨c,n,hl,n0,n1⟩
   . rw[c];exact cE %[_,0|S2.trans G3]
   . rw[c];apply du ?_;erw[0,0,r,_,-1,0,1,zC0 (G3 _ _ er),hl,2,0,6];rw[zC1 n0];apply du ?_;erw[0,a,0,.inr (zC0 (G3 _ _ (S2 _ _ ha))),2,0,6];rw[R.1,zC1 n1];exact cE ⟨_,_,rfl,S2.trans G3⟩
 . rintro σ H1 ⟨x1,x2,rfl,S1⟩;exact q _ S1
section
variable {C CM CA CG:Addr}{ns:List Str}{ts:List Tr}{p:Int}{rows:List Hr}
def EdW(a:Str×Option Int):Prop:=a.1="believed" -> a=(("believed":Str),none)
def wT(z:Db):EdW (goOn ns ts p z).aw:=by
 unfold goOn eK EdW
 split
 . exact λh=>absurd h JB
 . show (if _ then _ else _:Str×Option Int).1="believed" -> (if _ then _ else _:Str×Option Int)=_
   split
   . exact λ_=>rfl
   . exact λh=>absurd h xZ
def rK(k:GmK ns ts p)(n6:ns.length<=6):∀(n:Nat)(cs:List Int)(t:Tk),TkOk ns ts p t->bY cs p->EdW t.z.aw->EdW (cD ns ts p rows cs n t).2.z.aw/\AwW (cD ns ts p rows cs n t).2.z.aw.1
 |0,_,_,h,_,e=>%[e|h.gd.ww]
 |n+1,cs,t,h,co,e=>by
   let p2:=k.p2
   by_cases ch:t.z.aw.1="hear"
   . rw [eW ch];apply rK k n6 n cs _ (h.ask k n6 ch).1 co ?_;rw[show(t.ask ns ts p rows).z=dC p (t.said ns ts p rows) { t.z with pl:=t.z.pl+((t.said ns ts p rows).length:Int) }from O8 h.cl];unfold dC EdW;show(if _ then _ else _:Str×Option Int).1="believed" -> _
     split
     . exact λz=>absurd z Ba
     . exact λz=>absurd z xZ
   . by_cases cc:t.z.aw.1="coin"
     . rw [dH cc];let%[r0|r1]:=lX co #[0];apply rK k n6 n cs.tail _ (h.toss k cc r0 r1).1 (qY co) ?_;show EdW (dy ns ts p (cs.headD 0) t.z).aw;unfold dy
       split
       . exact wT _
       . exact wT _
     . rw[dO ch cc];erw[e,h.gd.ww]
def DZ(k:GmK ns ts p)(n6:ns.length<=6)(co:bY cs p):EdW (gl ns ts p rows cs).2.z.aw/\AwW (gl ns ts p rows cs).2.z.aw.1:=by
 apply rK k n6 20 cs _ (lT k n6).1 co ?_;let e0:cU ns ts p ‹Tk.s› (Db.new ts)=jr ns ts p ‹Tk.s› { Db.new ts with pl:=(Db.new ts).pl+(‹Tk.s›.length:Int) }:=O9 rfl;show EdW (cU ns ts p ‹Tk.s› (Db.new ts)).aw;rw[e0];unfold jr
 split
 . exact wT _
 . exact λz=>absurd z Ba
end
section
variable {C CM CA CG:Addr}
def vZ{K:W.Frag}{H:Hp}{a:Addr}{xs:List Int}(h:H a=some (.lst (xs.map V.int))):Rep K H (.ref a) (.list (xs.map PyData.int)):=.lst (zG0 h) (sD xs)
def yi{cl:List Int}(c10:cl.length<=10)(h:∀c∈cl,0<=c/\c<1000000000000):mK (bX cl):=by
 let ll:=io cl;erw[3,λr hr=>?_];unfold bX at hr;rcases qN0 hr with h1 | h1
 . exact liars_good.2 r h1
 . let%[c,hc|1]:=List.mem_map.mp h1;erw[h c hc,by show 1<=20;decide,by show 1<=8;decide]
def yh(cl:List Int):∀r∈bX cl,r.leads (bX cl).length:=by
 let ll:=io cl;intro r hr;generalize (bX cl).length=n at ll;unfold bX at hr;rcases qN0 hr with h1 | h1
 . unfold liars at h1;simp only[jD0,qS1,wX1]at h1;rcases h1 with rfl | rfl | rfl | rfl | rfl | rfl | rfl | rfl | rfl | rfl
   . erw[4,3]
   . erw[4,3]
   . trivial
   . trivial
   . trivial
   . trivial
   . trivial
   . erw[4,3]
   . trivial
   . trivial
 . let%[c,hc|1]:=List.mem_map.mp h1;trivial
def SmallG.gm(h:SmallG ns ts p):GmK ns ts p:=by
 let t4:=h.t4;let nl:=h.nl;erw[h.pp,h.p2,h.p9,3,h.t1,3,λt ht=>%[(h.tok t ht).1,Tr.ok_wf h.nok t (h.tok t ht).1,by have:=(h.tok t ht).2.1;omega|by have:=(h.tok t ht).2.2;omega],h.tp,h.tc]
def SmallG.d60(h:SmallG ns ts p):∀y∈ns,bm ts y<=60:=λy _=>by
 let t0:ts≠[]:=λz=>by have:=h.t1;rw[z]at this;cases this
 have:bm ts y<9:=oZ t0 λt ht=>by
  let h1:=jV0 (a:=y) (l:=t.names);let h2:=t.names_len;let h3:=(h.tok t ht).2.2;omega
 omega
def SmallG.p130(h:SmallG ns ts p)(pw:p ^ bu ns ts<=130):p<=130:=by
 let p2:=h.p2
 by_cases c:bu ns ts=0
 . have:ns=[]:=by
    unfold bu at c
    split at c
    . exact List.length_eq_zero_iff.mp c
    . omega
   have:=h.p5 this
   omega
 . obtain ⟨k,hk⟩:∃k,bu ns ts=k+1:=%[bu ns ts-1|3]
   rw[hk,qJ1]at pw
   have:0<p ^ k:=AV #[0] k
   let h1:1*p<=p ^ k*p:=wJ0 #[0] #[0];omega
def Jd{ns:List Str}(h:ns.length<=6):(0:Int)<=(cnt t ns:Int)/\(cnt t ns:Int)<=100:=by
 let h1:cnt t ns<=(cH ns.length).length:=jR0 _ _;rw[gy]at h1
 have:=Nat.pow_le_pow_right (n:=2) ⋯ h
 let e:(2:Nat) ^ 6=64:=by decide
 omega
abbrev xa(ns:List Str)(ts:List Tr)(p:Int)(cl:List Int):Int×Option (List Int):=jX (dN p.toNat (bu ns ts)) (λc=>decide ((gl ns ts p (bX cl) c).2.z.aw.1="believed")) []
def CY{cl:List Int}(k:GmK ns ts p)(n6:ns.length<=6)(nd:ns.Nodup)(d60:∀y∈ns,bm ts y<=60)(ll:cl.length=ts.length):(xa ns ts p cl).1=wI p ns.length ts.length (cgt p (ns.map (bm ts))) (ovr cl (fq ts ns))/\((xa ns ts p cl).2=none->wrg p (ovr cl (fq ts ns))=false)/\(∀c,(xa ns ts p cl).2=some c->wrg p (ovr cl (fq ts ns))=true/\c.length=bu ns ts/\bY c p/\¬ (gl ns ts p (bX cl) c).2.z.aw.1="believed"):=by
 let p2:=k.p2;let ep:(p.toNat:Int)=p:=#[0]
 let lia:=FR k n6 nd d60 ll;let cn:=lA ts ns;let ol:(ovr cl (fq ts ns)).length=ts.length:=(rh (ll.trans cn.symm)).trans ll;let e1:(xa ns ts p cl).1=wI p ns.length ts.length (cgt p (ns.map (bm ts))) (ovr cl (fq ts ns)):=by
  rw [IR #[0] ol];unfold xa;rw[jW (b':=tG ns ts p cl) (λc hc=>by
   let%[c1|c2]:=lB _ _ hc;rw[ep]at c2;exact IN k n6 nd lia ll c2 c1)]
  exact IM k ll
 let g0:0<cgt p (ns.map (bm ts)):=Jf λd hd=>by
  let%[x,hx|1]:=List.mem_map.mp hd;exact(k.deg x hx).2
 let less:=FT (sM k.pr (by have:=k.p9;omega)) (n:=ns.length) k.t1 ol k.tp g0;let tot:((p.toNat ^ bu ns ts:Nat):Int)=p ^ (ns.length+if 1<ts.length then 1 else 0):=by
  rw[wV0,ep]
  congr 1
  have:=k.t1
  unfold bu
  split <;> split <;> omega
 let f2:=oX (λc=>decide ((gl ns ts p (bX cl) c).2.z.aw.1="believed")) (dN p.toNat (bu ns ts));rw[lC]at f2;let e0:(xa ns ts p cl).1=(((dN p.toNat (bu ns ts)).filter λc=>decide ((gl ns ts p (bX cl) c).2.z.aw.1="believed")).length:Int):=rfl;let e2:(xa ns ts p cl).2=(((dN p.toNat (bu ns ts)).filter λc=>!decide ((gl ns ts p (bX cl) c).2.z.aw.1="believed")).head?).map ([]++·):=rfl;erw[e1,λz=>?_,λc z=>?_]
 . rw [e2]at z;cases e3:(dN p.toNat (bu ns ts)).filter λc=>!decide ((gl ns ts p (bX cl) c).2.z.aw.1="believed")with
   |nil=>
     rw[e3,zH1]at f2;rw[←less];exact zB1 (by rw[←tot,←e1,e0];omega)
   |cons a r=>
     rw[e3]at z;cases z
 . rw [e2]at z;cases e3:(dN p.toNat (bu ns ts)).filter λc=>!decide ((gl ns ts p (bX cl) c).2.z.aw.1="believed")with
   |nil=>
     rw[e3]at z;cases z
   |cons a r=>
     rw[e3]at z;cases z;rw[e3,zR0]at f2;let hm:a∈(dN p.toNat (bu ns ts)).filter λc=>!decide ((gl ns ts p (bX cl) c).2.z.aw.1="believed"):=by rw[e3];exact qA0
     let%[m1|m2]:=List.mem_filter.mp hm;let%[c1|c2]:=lB _ _ m1;rw[ep]at c2;erw[6,c1,c2,λy=>?_]
     . rw[←less];exact zC1 (by rw[←tot,←e1,e0];omega)
     . let y':(gl ns ts p (bX cl) a).2.z.aw.1="believed":=y;rw[zC1 y']at m2;cases m2
structure L63At(CG:Addr)(H:Hp)(sb g ca h:Addr)(ns:List Str)(ts:List Tr)(p:Int)(cl:List Int):Prop where
 G:∃d,GameD CG H g d ns ts p
 SG:SmallG ns ts p
 pw:p ^ bu ns ts<=130
 hb:∃tv,H sb=some (.tup tv)/\tv.length=ts.length
 hl:H ca=some (.lst (cl.map V.int))
 ll:cl.length=ts.length
 hh:∃rv,H h=some (.tup rv)/\RowsAt H rv (bX cl)
 gd:∀r∈bX cl,r.good
def L63At.same(x:L63At CG H sb g ca h ns ts p cl)(s:Same H H'):L63At CG H' sb g ca h ns ts p cl:=by
 erw[tv,h1,h2]at x.hb;erw[rv,h3,h4]at x.hh;erw[d,h5]at x.G;erw[%[d|h5.same s],x.SG,x.pw,%[tv,s _ _ h1|h2],s _ _ x.hl,x.ll,%[rv,s _ _ h3|h4.mono (aY s)],x.gd]
instance tA63(CG:Addr)(Dn:Ends)(σ:St)(H:Hp):∀(x0 x1 x2 x3 x8 x10 x11:Option V)(sb g ca h:Addr)(ns:List Str)(ts:List Tr)(p:Int)(cl:List Int),σ=[x0,x1,x2,x3,some (.ref sb),some (.int p),some (.ref g),some (.ref ca),x8,some (.ref h),x10,x11]->L63At CG H sb g ca h ns ts p cl->(∀(y10 y11:Option V)(H':Hp),Same H H'->Dn.nx [x0,x1,x2,x3,some (.ref sb),some (.int p),some (.ref g),some (.ref ca),x8,some (.ref h),y10,y11] H'):=0
instance tB63(CG:Addr)(Dn:Ends)(σ:St)(H:Hp):∀(x0 x1 x2 x3 x8 x10 x11:Option V)(sb g ca h:Addr)(ns:List Str)(ts:List Tr)(p:Int)(cl:List Int),σ=[x0,x1,x2,x3,some (.ref sb),some (.int p),some (.ref g),some (.ref ca),x8,some (.ref h),x10,x11]->L63At CG H sb g ca h ns ts p cl->(∀(y10 y11:Option V)(H':Hp),Same H H'->Dn.nx [x0,x1,x2,x3,some (.ref sb),some (.int p),some (.ref g),some (.ref ca),x8,some (.ref h),y10,y11] H'):=0
def fV:FnScope ["_law_script","_law_k","_law_feed_here","_law_switches","_law_trees","_law_p","_law_game","_law_claims_here","_law_handed","_law_liar","_law_many","_law_row"] ["_law_script"] (aj ox):=%[|5]
def Ky(F:#["law",ox])(B:Bl mg)(TG:GTxt K mg CG)(M:Mk K CG fI)(GI:#[14,fI,fdI,Wc,spGInit CG])(bI:Binds K fdI Wc [])
 (TM:MTxt K mg CM)(MM:Mk K CM fM)(GM:#[1,fM,fdM,WH,spMInit CM])(bM:Binds K fdM WH [])(mS:Meth K CM "say" fS)(GS:#[25,fS,fdS,WY,spSay CM CG])(bS:Binds K fdS WY [])
 (C3:#[1,"_law_feed",Wx,spFeed K])(uc:#[15,"_law_small",W9,spSmall])(o7:#[13,"_law_counts",Wz,spLC])(o9:#[2,"_law_claims",W0,spClm64])
 (m7:#[22,"best_liar",["claims"],spBest])(jE:#[1,"look_helper",WR,spLook])(iN:#[22,"_law_is_written",Ww,spWrit])(gV:#[19,"let_by_at_most",WD,spLet CG])(f6:#[18,"are_wrong",WD,spAre CG])
 (C4:#[27,"talked",Wy,spTalked C CM CG])(ue:#[36,"weighed",["game","helper"],spWeighed C CM CG]):#[37,f,fd,["_law_script"],spLaw K]:=by
 exists fV
 erw[a,sn,1,hS,h63,q]at h;let hr2:Room 2 _:=hr.mono ⋯;let hr15:Room 15 _:=hr.mono ⋯;let hr25:Room 25 _:=hr.mono ⋯;refine⟨_,(ad (cI zE1 rfl (bL rfl B.range %[aG (qh rfl) rfl B.max jE1 %[ag,aG (DF rfl) rfl B.min PyProof.Rows.boot_min %[ag,aG aI rfl B.len zD1 %[0|ae]|ae]|ae]|ae]) (aX (i:=1) fV.nd rfl (.inl rfl)) (ad #[ao,2,fV,ax C3 hr ⋯ rfl %[0,1|ae]]
  (ad (pS (ax uc hr ⋯ rfl %[2,ag,ag|ae]) (pU rfl (dA (aX (i:=3) fV.nd rfl (.inl rfl)) (dA (aX (i:=4) fV.nd rfl (.inl rfl)) (dA (aX (i:=5) fV.nd rfl (Or.inr rfl)) lQ)))))
  (ad #[ao,6,fV,gJ M GI hr15 rfl TG.mgC bI .nil aZ %[3,4,5|ae]]
  (ad #[ao,7,fV,ax o9 hr ⋯ rfl %[2,ax o7 hr ⋯ rfl %[4,3|ae],5|ae]]
  (ad #[ao,8,fV,bc kx rfl B.list ky %[7|ae]]
  (ad #[ao,9,fV,ax m7 hr ⋯ rfl %[8|ae]]
  (ad (aJ (PW.pt (iD (ai Cs (ax jE hr ⋯ rfl %[9|ae]) gn (ay _)) (iD (ai (Fb hr.units) (pv 8) (pv 7) (ay _)) (hV (hZ (eI (ax iN hr ⋯ rfl %[9|ae]))))))) (af (am gn)) aB)
  (ad (pS (au aV (aM ix_list (pv 8) ag #[1]) ag) (we (pv 8) ag oh))
  (rf (t':=tA63 CG) (ad (aJ (ai (Fb hr.units) (bK (gJ MM GM hr2 rfl TM.mgC bM .nil aZ %[6,9|ae]) TM.cl mS GS hr25 bS .nil aZ %[aG aI rfl B.len zD1 %[4|ae],ag,ag,bZ ae|ae]) (cf (N:=["_law_p"]) (ix:=[5]) rfl
   #[3] rfl
   (dJ (pv 7)) (λ_ _ _=>cg (au ba (pv 0) (pv 1)))) (ay _)) (af (am gn)) aB)
  (rf (t':=tB63 CG) (ad (pS (ax ue hr ⋯ rfl %[6,9|ae]) (pU rfl (dA (aX (i:=10) fV.nd rfl (.inl rfl)) (dA (aX (i:=11) fV.nd rfl (.inl rfl)) lQ))))
  (ad (aJ (PW.pt (iD (ai lq (pv 10) (ax gV hr ⋯ rfl %[6,7|ae]) (ay _)) (hV (ai aQ (dw zK (pv 11) ny (ay _)) (ax f6 hr ⋯ rfl %[6,7|ae]) (ay _))))) (af (am gn)) aB)
  (af (aJ (PW.pt (nu (ai Ir (pv 11) ny (ay _)) (lP (ai (wo hr.units) (aM ix_tup (ax C4 hr ⋯ rfl %[6,9,bc kx rfl B.list ky %[11|ae]|ae]) ag #[1]) (aS %[aF|ae]) (ay _))))) (af (am gn)) aB)))) ?cB)) ?cA))))))))))
  (af (am gn))),?_⟩
 case cB=>
  rintro Dn σ H ⟨x0,x1,x2,x3,x8,x10,x11,sb,g,ca,h,ns,ts,p,cl,rfl,Z,q⟩;let k:=Z.SG.gm;let nl:=Z.SG.nl;let n6:ns.length<=6:=#[0]
  let p2:=k.p2;let pm:=Z.SG.p130 Z.pw;let%[w1,w2|w3]:=CY k n6 Z.SG.nd Z.SG.d60 Z.ll;erw[d,GD]at Z.G;erw[rv,hh,RW]at Z.hh;erw[0,0,g,h,rv,bX cl,ns,ts,p,1,GD.gm.1,k,n6,hh,RW,Z.gd,by have:=Z.pw;omega,λa2 H2 S2 W2=>?_];rw[BJ k n6]at W2;let W2:Lw H2 a2 (xa ns ts p cl):=W2;erw[v,h2,o2]at W2;erw[a2,0,zC0 h2,1,_,0,2,6];let Z2:=Z.same S2;let GD2:=GD.same S2;erw[0,0,0,g,d,ca,ns,ts,cl,p,1,GD2,3,3,Z2.hl,Z.ll,λH3 S3=>?_];erw[1,0,6];rw[zC1 (congrArg V.int w1)];apply cE ?_;erw[0,1,0,0,g,ca,ns,ts,cl,p,1,(GD2.same S3).ok,3,S3 _ _ Z2.hl,Z.ll,λH4 S4=>?_];erw[1,0,6];let S24:=S3.trans S4;let o4:=o2.mono (aY S24);cases eo:(xa ns ts p cl).2 with
  |none=>
    rw[eo]at o4
    have:v=.non:=o4
    subst this;rw[w2 eo,zC1 rfl];apply aE nofun ?_;erw[0,1,0,cE ?_];exact q _ _ _ (S2.trans S24)
  |some c=>
    rw [eo]at o4;erw[b,1,hb]at o4;let%[v1,v2,v3|v4]:=w3 c eo;rw[v1];apply aE nofun ?_;erw[0,1,0,du ?_];erw[0,0,0,b,0,.inr (zC0 hb),λl5 hl5=>?_];let I5:=zE0 hl5 (.lst (c.map V.int));let e5:upd H4 l5 (.lst (c.map V.int)) l5=some (.lst (c.map V.int)):=ah;generalize upd H4 l5 (.lst (c.map V.int))=H5 at I5 e5;let S25:=S24.trans I5;let S05:=S2.trans S25;let cn:=jy (ts:=ts) n6;let cnl:ns.length+(if 1<ts.length then 1 else 0)<=c.length:=by
     rw[v2];unfold bu
     split <;> split <;> omega
    erw[g,h,l5,rv,bX cl,ns,ts,p,c,1,(GD.same S05).gm.1,k,n6,S05 _ _ hh,RW.mono (aY S05),Z.gd,.inl e5,v3,cnl,3,λa6 H6 S6 Td=>?_];erw[tb,tc,us,t1,t2,t3,t4]at Td.ex;erw[a6,_,(1),0,1,zC0 t1,cu (j:=1) rfl,y1S,λu hu=>?_];let I7:=zE0 hu (.tup [.str "believed"]);let e7:upd H6 u (.tup [.str "believed"]) u=_:=ah;generalize upd H6 u (.tup [.str "believed"])=H7 at I7 e7;let%[be|ww]:=DZ (rows:=bX cl) k n6 v3;erw[_,awD (("believed":Str),none),Kj (I7 _ _ t4),.tup (zC0 e7) (.cons (.str _) .nil),uM ww,uM (.inr (.inr (.inr rfl))),0,6];rw[KZ];apply aE (λz=>v4 (congrArg Prod.fst z)) ?_;exact q _ _ _ (S05.trans (S6.trans I7))
 case cA=>
  rintro Dn σ H ⟨x0,x1,x2,x3,x8,x10,x11,sb,g,ca,h,ns,ts,p,cl,rfl,Z,q⟩;let k:=Z.SG.gm;let nl:=Z.SG.nl;let n6:ns.length<=6:=#[0]
  let p2:=k.p2;let t1:=k.t1;let t10:=k.t10;let ll:=Z.ll;erw[d,GD]at Z.G;erw[rv,hh,RW]at Z.hh;erw[tv,hb,tvl]at Z.hb;let lia:=FR k n6 Z.SG.nd Z.SG.d60 Z.ll;erw[0,0,λM dm hM0 hdm0 nM=>?_];let K1:Same H (upd (upd H dm (.own M)) M (.ins CM dm [])):=λa o e=>by
   rw[aD (aO e hM0),aD (aO e hdm0)];exact e
  erw[M,g,h,dm,1,ah,λb H2 b0 hM2 hb2 S2=>%[1|6]];let T2:Same H H2:=Same.but K1 hM0 S2;let b00:H b=none:=K1.free b0;clear K1 S2 b0;erw[M,dm,0,hM2,JF,0,sb,0,.inr (zC0 (T2 _ _ hb)),y0S,λc0 hc0=>?_];let I3:=zE0 hc0 (.lst []);let e3:upd H2 c0 (.lst []) c0=some (.lst []):=ah;generalize upd H2 c0 (.lst [])=H3 at I3 e3;let T3:=T2.trans I3;let%[ok,_,_|bo]:=wG (rows:=bX cl) k n6;rw[tvl];erw[M,g,h,b,dm,c0,rv,(Tk.new ts).ak ns ts p,bX cl,(Tk.new ts).bx,(0),1,I3 _ _ hM2,T3 _ _ hh,RW.mono (aY T3),Z.gd,%[[],I3 _ _ hb2,zH0 _|λ_=>rfl],bo,4,(GD.same T3).gm.1,ok,.inl e3,by show(0:Int)<=(ts.length:Int);omega,by show(ts.length:Int)<=500;omega,λl H4 l0 hl4 _ _ B4=>?_];let esaid:qO ((Tk.new ts).ak ns ts p).mn (jV ((Tk.new ts).ak ns ts p) (bX cl) 200 %[(0),(Tk.new ts).bx|[]]).sd=cl.map (· % p):=lia.cl;rw[esaid]at hl4;let T4:Same H H4:=λa o e=>B4 _ _ (aO e hM0) (aO e b00) (T3 _ _ e)
  let Z4:=Z.same T4;erw[0,ca,1,%[_|zG0 Z4.hl],λD hD=>?_];apply fc (K:=K) (xs:=cl.map V.int) (λi H'=>H' D=some (.lst (((cl.take i).map (· % p)).map V.int))/\Same H4 H') %[by rw[ah];rfl|zE0 hD _] (λi H' _ h=>zG0 (h.2 _ _ Z4.hl)) ?_ ?_
  . rintro i x H5 hx ⟨hD5,S5⟩;let hi:=(Pj hx).1;rw[zY0]at hx;let%[x',hx'|1]:=qT0 hx;erw[0,0,2,(by omega:(0:Int)<p),_,hD5,6,Nx.of hi %[6|λb' o' e'=>?_]]
    . rw[zF0,zF0,qI0];exact aN #[0]
    . rw[ah,qC0,hx',zK0,zK0];rfl
    . rw[aD (aO e' hD)];exact S5 _ _ e'
  rintro H5 ⟨hD5,S5⟩;rw[zF0,qB0]at hD5;erw[.list ((cl.map (· % p)).map PyData.int),.list ((cl.map (· % p)).map PyData.int),vZ (S5 _ _ hl4),vZ hD5,lG _,lG _,0,6];rw[GF,zC1 rfl];apply cE ?_;let T5:=T4.trans S5;erw[_,_,_,_,_,_,_,sb,g,ca,h,ns,ts,p,cl,1,Z.same T5,λy10 y11 H' S'=>q _ _ _ (T5.trans S')]
 let hl:(sn.map V.int).length=sn.length:=zF0 _;erw[0,a,0,.inl hS,_,0,_,0,6];erw[0,by(repeat' split) <;> omega,by(repeat' split) <;> omega,dQ (λi σ H'=>∃x1 x2 x3 x4 x5 x6 x7 x8 x9 x10 x11:Option V,σ=[some (.ref a),x1,x2,x3,x4,x5,x6,x7,x8,x9,x10,x11]/\Same H H') %[_,_,_,_,_,_,_,_,_,_,0|Same.refl _] ?_ ?_]
 . rintro i σ H0 hi ⟨x1,x2,x3,x4,x5,x6,x7,x8,x9,x10,x11,rfl,S0⟩;let hi':i<63:=by
    rw[hl]at hi
    revert hi
    (repeat' split) <;> omega
   erw[0,0,a,sn,0,S0.seq hS,h63,(show(0:Int)<=0+(i:Int) by omega),(show(0:Int)+(i:Int)<1000000 by omega),λf0 H1 f00 s1 F1=>?_];erw[0,f0,1,F1,λgt sa sb ns tv ts p H2 hgt hsa hsb TS SG pw F2 S2=>?_];let SH2:Same H0 H2:=s1.but f00 S2;erw[gt,0,zC0 hgt,1,_,0,_,0,2,6];let k:=SG.gm;let nl:=SG.nl;let p2:=SG.p2;let p9:=SG.p9;let t1:=SG.t1;let t4:=SG.t4;erw[0,0,0,λg dx nx ndx nex=>?_];let s3:Same H2 (upd (upd H2 dx (.own g)) g (.ins CG dx [])):=λb o e=>by
    rw[aD (aO e nx),aD (aO e ndx)];exact e
   erw[g,dx,sa,sb,ns,tv,ts,p,1,ah,s3 _ _ hsa,SG.nd,3,s3 _ _ hsb,TS.mono (aY s3),t1,3,k.tok,k.pr,p2,p9,k.tp,k.tc,λd H3 d0 GA hd S3=>%[1|6]];let dnf:d≠f0:=(F2.same s3).ne d0;let S23:Same H2 H3:=λb o e=>S3 b o (aO e nx) (s3 b o e)
   let hsa3:=S23 _ _ hsa;let hsb3:=S23 _ _ hsb;let TS3:=TS.mono (aY S23);let F3:=F2.same S23;let S03:=SH2.trans S23;clear s3 S3 nx ndx nex hgt hsa hsb TS S2 F1 s1 S23 d0 F2 SH2;erw[0,0,0,sa,sb,ns,tv,ts,1,hsa3,3,hsb3,TS3,3,λt ht=>%[(k.tok t ht).1|(k.tok t ht).2.2.1],λct H4 ct0 S4 hct=>?_];let F4:=F3.same S4;let ctf:ct≠f0:=F3.ne ct0;let cr:∀x∈fq ts ns,0<=x/\x<=100:=λx hx=>by
    let%[t,_|1]:=List.mem_map.mp hx;exact Jd #[0]
   let cn:=lA ts ns;erw[0,f0,ct,_,p,1,F4,hct,ctf,3,cr,3,3,λca cl H5 ca0 hca cal car F5 S5=>?_];rw[cn]at cal;let GD3:GameD CG H3 g d ns ts p:=%[sa,sb,tv,GA,hsa3,3,hsb3,TS3,3,λt ht=>%[(k.tok t ht).1|by have:=(k.tok t ht).2.2.1;omega],hd|λx hx=>by have:=k.deg x hx;omega]
   let%[_,_,hf4|_]:=id F4;let GD5:=(GD3.same S4).but %[_|hf4] dnf S5;let hsb5:=S5 _ _ (bt (S4 _ _ hsb3) hf4 nofun) (S4 _ _ hsb3);let S35:Same H0 H5:=λa o e=>S5 _ _ (aO e f00) (S4 _ _ (S03 _ _ e))
   erw[0,ca,0,.inl (zG0 hca),λhd8 hhd0=>?_];let I6:=zE0 hhd0 (.lst (cl.map V.int));let e6:upd H5 hd8 (.lst (cl.map V.int)) hd8=some (.lst (cl.map V.int)):=ah;generalize upd H5 hd8 (.lst (cl.map V.int))=H6 at I6 e6;erw[0,hd8,cl,1,e6,3,3,λh rv H7 hh RW gd S7=>?_];let GR:=yi (cl:=cl) #[0] car;erw[0,h,rv,bX cl,1,hh,RW,yh cl,λH8 S8=>?_];erw[2,0,cE ?_];let S68:=S7.trans S8;erw[0,0,.list (cl.map PyData.int),.list (cl.map PyData.int),vZ (S68 _ _ e6),vZ (S68 _ _ (I6 _ _ hca)),lG _,lG _,0,6];rw[GF,zC1 rfl];apply cE ?_;erw[0,h,rv,bX cl,1,S8 _ _ hh,RW.mono (aY S8),GR,λH9 S9=>?_];erw[true,1,cE ?_];let S69:=S68.trans S9;obtain⟨c0,cr',rfl⟩:∃c0 cr',cl=c0::cr':=by
    cases cl with
    |nil=>rw[zH1]at cal;omega
    |cons c0 cr'=>erw[c0,cr',1]
   let n8:∀a o,H5 a=some o->a≠hd8:=λa o e=>aO e hhd0
   let S59:=I6.trans S69;let e9:=S69 _ _ e6;erw[0,hd8,_,(0),.int c0,1,1,zG0 e9,cu (j:=0) rfl,2,0,hd8,_,(0),(0),1,1,e9,6,6]
   . unfold ixN;rw[O9 ⋯,O9 (by rw[zF0,zR0];omega)];rfl
   let SX:Same H5 (upd H9 hd8 (.lst (((c0::cr').map V.int).set 0 (.int (c0+1))))):=λa o e=>by
    rw[aD (n8 a o e)];exact S59 _ _ e
   let h9:h≠hd8:=bt (S8.trans S9 _ _ hh) e9 nofun;let kX:cG H9 (upd H9 hd8 (.lst (((c0::cr').map V.int).set 0 (.int (c0+1))))):=dB e9;erw[_,_,_,_,_,_,_,sb,g,ca,h,ns,ts,p,c0::cr',1,%[%[d|GD5.same SX],SG,pw,%[tv,SX _ _ hsb5|TS3.length],SX _ _ hca,cal,%[rv,kX _ _ (S8.trans S9 _ _ hh)|(RW.mono (aY (S8.trans S9))).mono kX]|gd],λy10 y11 H' S'=>%[_,_,_,_,_,_,_,_,_,_,0|S0.trans (S35.trans (SX.trans S'))]]
 . rintro σ H0 ⟨x1,x2,x3,x4,x5,x6,x7,x8,x9,x10,x11,rfl,S0⟩;exact q H0
end
def kept_vals{a b c d e f g h i j k l:Tok}:Vals (kept.map V.str) [.str "yes" a,.str "no" b,.str "not" c,.str "and" d,.str "or" e,.str "odd" f,.str "same" g,.str "round" h,.str "due" i,.str "asked" j,.str "true" k,.str "coin" l]:=
 .cons %[|0] (.cons ⟨_,rfl⟩ (.cons ⟨_,rfl⟩ (.cons ⟨_,rfl⟩ (.cons ⟨_,rfl⟩ (.cons ⟨_,rfl⟩ (.cons ⟨_,rfl⟩ (.cons ⟨_,rfl⟩ (.cons ⟨_,rfl⟩ (.cons ⟨_,rfl⟩ (.cons ⟨_,rfl⟩ (.cons ⟨_,rfl⟩ .nil)))))))))))
def sign_vals{a b c d e f:Tok}:Vals (signW.map V.str) [.str "+" a,.str "-" b,.str "*" c,.str "/" d,.str "=" e,.str "<" f]:=
 .cons %[|0] (.cons ⟨_,rfl⟩ (.cons ⟨_,rfl⟩ (.cons ⟨_,rfl⟩ (.cons ⟨_,rfl⟩ (.cons ⟨_,rfl⟩ .nil)))))
def ask_vals{a b:Tok}:Vals (askW.map V.str) [.str "coin" a,.str "true" b]:=.cons %[|0] (.cons ⟨_,rfl⟩ .nil)
def plain_vals{a b c:Tok}:Vals (plainW.map V.str) [.str "round" a,.str "due" b,.str "asked" c]:=.cons %[|0] (.cons ⟨_,rfl⟩ (.cons ⟨_,rfl⟩ .nil))
end
abbrev FH(K:W.Frag)(x:Str)(s:Stmt):Prop:=∃f,W.nsIn K mainGlobals x=some (some (.ref f))/\∃fd,Fun K x x s f fd
abbrev MH(K:W.Frag)(C:Addr)(x y:Str)(s:Stmt):Prop:=∃g,W.findIn K (.ref C) x=some (some (.ref g))/\W.isFn K (.ref g)=true/\∃fd,Fun K x y s g fd
abbrev CH(K:W.Frag)(x:Str)(C:Addr):Prop:=W.nsIn K mainGlobals x=some (some (.ref C))/\W.plainGet K C Str.empty=true/\W.hasDictIn K C=true/\W.plainOver K C=true/\W.findIn K (.ref C) "__setattr__"=some (some (.builtin "object.__setattr__"))/\W.makesIn K C=true/\W.keepIn K (.ref C)=true
abbrev HF(K:W.Frag)(C:Addr)(x:Str):Prop:=W.findIn K (.ref C) x=some none
abbrev HZ(K:W.Frag)(x:Str):Prop:=W.nsIn K mainGlobals x=some none
def aU{K:W.Frag}{h:Heap}{mg:#[9]}(X:K.In h)(G:h.Ns mainGlobals mg)(z:FH K x s):∃f fd,Fun K x x s f fd/\mg x=some (.ref f):=by
 erw[f,a,fd,F]at z;erw[f,fd,F,jB1 X G a]
def cS{K:W.Frag}(z:MH K C x y s):∃f fd,Fun K x y s f fd/\Meth K C x f:=by
 erw[f,a,i,fd,F]at z;erw[f,fd,F,a,i,F.kp]
def all_mk{l:PySem.W.OpenLaw}{w:World}{K:W.Frag}{h:Heap}{mg:#[9]}{fa fl CG C CA CM CS:Addr}(X:K.In h)(G:h.Ns mainGlobals mg)(hfa:mg "law"=some (.ref fa))
 {od an:Option Addr}{sl:Array (Option Value)}{oc kV dc pm cd ct:Value}
 {t1 t3 t4 t5 t6 u1 u2 u3 uh:Tok}{ka ja qa pa:Addr}{kd jd qd pd:Option Addr}{kits jits qits pits:Array Value}{kn jn qn pn:Nat}{ksl jsl qsl psl:Array (Option Value)}
 {te tm tr:Tok}
 (aL:W.nsIn K mainGlobals "law"=some (some (.ref fl)))(lL:K.lookup fl=some %[oc,od,.func (W.fnOf "law" "law" (km ox) (gN ox) (aj ox) .none kV dc pm an cd ct)|sl])(cL:W.codeIn K cd "law"=true)(kL:W.keepIn K (.ref fl)=true)
 (h0:FH K "is_name" pN)
 (h1:FH K "is_figures" jQ)
 (h2:FH K "read_helper" iX)
 (h3:FH K "helper_row" jT)
 (h4:FH K "next_name" kO)
 (h5:FH K "next_figures" iz)
 (h6:FH K "next_term" iP)
 (h7:FH K "term_in_bracket" dY)
 (h8:FH K "helper_text" iZ)
 (h9:FH K "row_text" mX)
 (h10:FH K "term_text" iO)
 (h11:FH K "in_bracket" ie)
 (h12:FH K "power" vL)
 (h13:FH K "rows_of_coins" gZ)
 (h14:FH K "all_settings" iC)
 (h15:FH K "holds_at" jS)
 (h16:FH K "joined" sv)
 (h17:FH K "count_of" nq)
 (h18:FH K "trees_within" iy)
 (h19:FH K "size_of" lI)
 (h20:FH K "names_in" jL)
 (h21:FH K "counts_of" kW)
 (h22:FH K "true_row" mV)
 (h23:FH K "best_liar" kZ)
 (h24:FH K "differences" jb)
 (h25:FH K "are_wrong" lg)
 (h26:FH K "blind_spots" jf)
 (h27:FH K "let_by_at_most" gB)
 (h28:FH K "caught_rows" je)
 (h29:FH K "is_field" nn)
 (h30:FH K "inverse_of" jR)
 (h31:FH K "is_number" kQ)
 (h32:FH K "worth_of" jJ)
 (h33:FH K "joined_worth" iB)
 (h34:FH K "degree_of" kU)
 (h35:FH K "look_switches" hR)
 (h36:FH K "look_names" jM)
 (h37:FH K "look_field" jN)
 (h38:FH K "look_size" kP)
 (h39:FH K "look_helper" iY)
 (h40:FH K "value_at" mQ)
 (h41:FH K "both_ends" kY)
 (h42:FH K "value_behind" iw)
 (h43:FH K "products" mY)
 (h44:FH K "inverse_factorials" eG)
 (h45:FH K "value_of" jK)
 (h46:FH K "op_value" mZ)
 (h47:FH K "divided" pO)
 (h48:FH K "all_sizes" lh)
 (h49:FH K "asked_once" jU)
 (h50:FH K "talked" rZ)
 (h51:FH K "weighed" pG)
 (h52:FH K "weighed_behind" eO)
 (h53:FH K "first_row" kR)
 (h54:FH K "_law_power" pK)
 (h55:FH K "_law_feed" su)
 (h56:FH K "_law_take" sk)
 (h57:FH K "_law_names" cv)
 (h58:FH K "_law_tree" oy)
 (h59:FH K "_law_names_of" ic)
 (h60:FH K "_law_need" so)
 (h61:FH K "_law_is_prime" jP)
 (h62:FH K "_law_without" iQ)
 (h63:FH K "_law_small" pJ)
 (h64:FH K "_law_least" pM)
 (h65:FH K "_law_holds" lK)
 (h66:FH K "_law_settings" jO)
 (h67:FH K "_law_counts" ng)
 (h68:FH K "_law_claims" nj)
 (h69:FH K "_law_alike" lN)
 (h70:FH K "_law_is_written" iA)
 (gmc:CH K "Game" CG)
 (dbc:CH K "Doubter" C)
 (asc:CH K "Asking" CA)
 (mcc:CH K "Machine" CM)
 (scc:CH K "Scan" CS)
 (N0:MH K CG "__init__" "Game.__init__" vO)
 (gmmM:MH K CG "mix" "Game.mix" zA)
 (gmmW:MH K CG "worth_at" "Game.worth_at" sw)
 (gmmC:MH K CG "coins" "Game.coins" sx)
 (dbmI:MH K C "__init__" "Doubter.__init__" vS)
 (dbmW:MH K C "waits" "Doubter.waits" sy)
 (dbmU:MH K C "due" "Doubter.due" zC)
 (dbmH:MH K C "hear" "Doubter.hear" vT)
 (dbmT:MH K C "toss" "Doubter.toss" vR)
 (dbmC:MH K C "hear_claims" "Doubter.hear_claims" pP)
 (dbmB:MH K C "begin_rounds" "Doubter.begin_rounds" sB)
 (dbmR:MH K C "hear_row" "Doubter.hear_row" zB)
 (dbmG:MH K C "go_on" "Doubter.go_on" ED)
 (dbmE:MH K C "look_at_trees" "Doubter.look_at_trees" sA)
 (dbmN:MH K C "twin" "Doubter.twin" vQ)
 (asmI:MH K CA "__init__" "Asking.__init__" vV)
 (asmP:MH K CA "plain_value" "Asking.plain_value" sC)
 (asmC:MH K CA "coin_at" "Asking.coin_at" vW)
 (asmN:MH K CA "true_numbers" "Asking.true_numbers" pQ)
 (asmR:MH K CA "true_at" "Asking.true_at" vU)
 (mcmI:MH K CM "__init__" "Machine.__init__" vN)
 (mcmS:MH K CM "say" "Machine.say" zy)
 (mcmR:MH K CM "do_row" "Machine.do_row" zz)
 (mcmN:MH K CM "twin" "Machine.twin" vM)
 (scmI:MH K CS "__init__" "Scan.__init__" vK)
 (scmE:MH K CS "enter" "Scan.enter" sj)
 (scmS:MH K CS "sees" "Scan.sees" vJ)
 (scmT:MH K CS "take" "Scan.take" vI)
 (scmW:MH K CS "word" "Scan.word" vH)
 (scmF:MH K CS "finish" "Scan.finish" pH)
 (uf:HF K CG "switches")
 (gmn_trees:HF K CG "trees")
 (gmn_field:HF K CG "field")
 (gmn_degrees:HF K CG "degrees")
 (dbn_game:HF K C "game")
 (dbn_awaited:HF K C "awaited")
 (dbn_claims:HF K C "claims")
 (dbn_s:HF K C "s")
 (dbn_heard:HF K C "heard")
 (dbn_tossed:HF K C "tossed")
 (dbn_held:HF K C "held")
 (dbn_places:HF K C "places")
 (asn_game:HF K CA "game")
 (asn_number:HF K CA "number")
 (asn_many:HF K CA "many")
 (asn_held:HF K CA "held")
 (asn_s:HF K CA "s")
 (asn_tossed:HF K CA "tossed")
 (asn_truths:HF K CA "truths")
 (mcn_game:HF K CM "game")
 (mcn_helper:HF K CM "helper")
 (mcn_next_round:HF K CM "next_round")
 (mcn_boxes:HF K CM "boxes")
 (scn_text:HF K CS "text")
 (scn_row:HF K CS "row")
 (scn_most_within:HF K CS "most_within")
 (scn_most_parts:HF K CS "most_parts")
 (scn_place:HF K CS "place")
 (scn_parts:HF K CS "parts")
 (g1:W.nsIn K mainGlobals "LETTERS"=some (some (.str LET t1)))
 (g3:W.nsIn K mainGlobals "LONGEST_NAME"=some (some (.int 6 t3)))
 (g5:W.nsIn K mainGlobals "KEPT_WORDS"=some (some (.ref ka)))
 (g6:K.lookup ka=some %[.type "tuple",kd,.seq kits kn|ksl])
 (g7:kits.size<=100)
 (g8:Vals (kept.map V.str) kits.toList)
 (e1:W.nsIn K mainGlobals "WORD_ENDS"=some (some (.str ENDS t4)))
 (e2:W.nsIn K mainGlobals "MOST_WITHIN"=some (some (.int 8 t5)))
 (e3:W.nsIn K mainGlobals "MOST_PARTS"=some (some (.int 20 t6)))
 (w1:W.nsIn K mainGlobals "FIGURES"=some (some (.str FIG u1)))
 (w2:W.nsIn K mainGlobals "MOST_FIGURES"=some (some (.int 12 u2)))
 (w3:W.nsIn K mainGlobals "MOST_ROWS_helptexts"=some (some (.int 60 u3)))
 (j5:W.nsIn K mainGlobals "SIGNS"=some (some (.ref ja)))
 (j6:K.lookup ja=some %[.type "tuple",jd,.seq jits jn|jsl])
 (j7:jits.size<=100)
 (j8:Vals (signW.map V.str) jits.toList)
 (q5:W.nsIn K mainGlobals "ASKING_WORDS"=some (some (.ref qa)))
 (q6:K.lookup qa=some %[.type "tuple",qd,.seq qits qn|qsl])
 (q7:qits.size<=100)
 (q8:Vals (askW.map V.str) qits.toList)
 (p5:W.nsIn K mainGlobals "PLAIN_WORDS"=some (some (.ref pa)))
 (p6:K.lookup pa=some %[.type "tuple",pd,.seq pits pn|psl])
 (p7:pits.size<=100)
 (p8:Vals (plainW.map V.str) pits.toList)
 (wh:W.nsIn K mainGlobals "LIAR_ROWS"=some (some (.str ("if (= lied 0) 9\nif (= asked 1) 8\nsay (true 0)\nsay (- due (true 0))\nset i 2\nsay (true i)\nset i (+ i 1)\ngo 5\nsay (/ due 2)\nset lied 1":Str) uh)))
 (xmr:W.nsIn K mainGlobals "MOST_ROWS_weighing"=some (some (.int 4000 tr)))
 (ge:W.nsIn K mainGlobals "FIELDS_END"=some (some (.int 1000000 te)))
 (xmo:W.nsIn K mainGlobals "MOST_ROWS_DONE"=some (some (.int 200 tm)))
 (z0:HZ K "len")(z1:HZ K "range")(z2:HZ K "isinstance")(z3:HZ K "int")(z4:HZ K "bool")(z5:HZ K "list")(z6:HZ K "tuple")(z7:HZ K "max")(z8:HZ K "min")(z9:HZ K "reversed")(z10:HZ K "enumerate")(z11:HZ K "sum")(z12:HZ K "all")(z13:HZ K "zip")(z14:HZ K "dict")(z15:HZ K "str")(z16:HZ K "any"):
 ∃fd:FuncData,(∀(s:Shared) (v:Value),BindsTo s fd %[[v]|[]] [("_law_script",v)])/\∀base:Heap,K.In base->base.Ns mainGlobals mg->FnOk l.prog w K mg base CX0 37 fa fd ["_law_script"] (spLaw K):=by
 let e:=hfa.symm.trans (jB1 X G aL);cases e;let N4:=KR (st:=ox) lL cL kL;exists 1,J9,MN,h0,uF,LV,h1,qw,LJ,h2,u4,LW,h3,y6,Mg,h4,m9,J0,h5,y8,y9,h6,v9,xA,h7,qW,LK,h8,C8,Ms,h9,A0,A3,h10,LX,LY,h11,Mr,NZ,h12,k4,C9,h13,nQ,J1,h14,D1,D4,h15,LZ,MV,h16,D6,Mt,h17,oa,J2,h18,K2,K5,h19,D7,D8,h20,A4,Mh,h21,EB,Mu,h22,A5,Mi,h23,q0,LL,h24,A7,Mj,h25,re,LM,h26,kI,C5,h27,rC,LN,h28,E1,Mv,h29,u5,L3,h30,A8,Ml,h31,E3,E4,h32,oi,J5,h33,A9,Mm,h34,lD,E5,h35,u6,L4,h36,u7,L6,h37,Bj,Mn,h38,rT,LO,h39,E6,Mw,h40,B0,Mo,h41,oo,J6,h42,E7,Mx,h43,ik,pF,h44,E8,E9,h45,G7,Mz,h46,K7,MO,h47,B7,Mp,h48,u8,L7,h49,L8,MW,h50,K8,MP,h51,kJ,kK,h52,B8,Mq,h53,K9,MQ,h54,L9,MX,h55,Ma,MY,h56,LB,MR,h57,Mb,Mc,h58,u9,vo,h59,Md,MZ,h60,vx,Me,h61,B9,C0,h62,LC,MT,h63,LE,MU,h64,LF,LG,h65,v5,Mf,h66,G9,MB,h67,Hw,MC,h68,LH,LI,h69,ot,J8,h70;erw[gmgg,gmpg,gmhdi,gmpov,gmsat,gmmki,gmkcl]at gmc;erw[dbgg,dbpg,dbhdi,dbpov,dbsat,dbmki,dbkcl]at dbc;erw[asgg,aspg,ashdi,aspov,assat,asmki,askcl]at asc;erw[mcgg,mcpg,mchdi,mcpov,mcsat,mcmki,mckcl]at mcc;erw[scgg,scpg,schdi,scpov,scsat,scmki,sckcl]at scc;exists 2,M1,M3,N0,M4,ME,gmmM,M6,M7,gmmW,M8,M9,gmmC,Na,Nb,dbmI,Nc,N7,dbmW,Nd,N8,dbmU,Nf,N9,dbmH,Ng,Oa,dbmT,Nh,Ob,dbmC,Ni,Nj,dbmB,Nk,Oc,dbmR,Nl,Nm,dbmG,Nn,Od,dbmE,No,Oe,dbmN,Np,Nq,asmI,Nr,Of,asmP,Nt,Og,asmC,Nu,Oh,asmN,Nv,Oi,asmR,Nw,Ny,mcmI,Nz,NA,mcmS,NB,Oj,mcmR,NC,Ol,mcmN,ND,NE,scmI,NF,Om,scmE,NG,NH,scmS,NI,On,scmT,NJ,Oo,scmW,NK,Op,scmF;let B:Bl mg:=%[qE1 X G z0,qE1 X G z1,qE1 X G z2,qE1 X G z3,qE1 X G z4,qE1 X G z5,qE1 X G z6,qE1 X G z7,qE1 X G z8,qE1 X G z9,qE1 X G z10,qE1 X G z11,qE1 X G z12,qE1 X G z13,qE1 X G z14,qE1 X G z15|qE1 X G z16]
 erw[W.fnOf "law" "law" (km ox) (gN ox) (aj ox) .none kV dc pm an cd ct,λs v=>.of_eq rfl,λbase _ _=>?_];let cal:=@Cal.of l.prog w K mg base;let TG:GTxt K mg CG:=%[%[gmpg,gmhdi,gmpov|gmsat],uf,gmn_trees,gmn_field,gmn_degrees|jB1 X G gmgg]
 let T:DTxt K mg C:=%[%[dbpg,dbhdi,dbpov|dbsat],dbn_game,dbn_awaited,dbn_claims,dbn_s,dbn_heard,dbn_tossed,dbn_held,dbn_places|jB1 X G dbgg]
 let TA:ATxt K mg CA:=%[%[aspg,ashdi,aspov|assat],asn_game,asn_number,asn_many,asn_held,asn_s,asn_tossed,asn_truths|jB1 X G asgg]
 let TM:MTxt K mg CM:=%[%[mcpg,mchdi,mcpov|mcsat],mcn_game,mcn_helper,mcn_next_round,mcn_boxes|jB1 X G mcgg]
 let TS:STxt K mg CS:=%[%[scpg,schdi,scpov|scsat],scn_text,scn_row,scn_most_within,scn_most_parts,scn_place,scn_parts|jB1 X G scgg]
 let TX:Tx K mg:=%[%[t1|jB1 X G g1],%[t3|jB1 X G g3],%[ka,jB1 X G g5|λ_=>.inr %[_,kits,kn,g6,1,1,zP0 g7 (cx ⋯)|g8]],%[t4|jB1 X G e1],%[t5|jB1 X G e2],%[t6|jB1 X G e3],%[u1|jB1 X G w1],%[u2|jB1 X G w2],%[u3|jB1 X G w3],%[ja,jB1 X G j5|λ_=>.inr %[_,jits,jn,j6,1,1,zP0 j7 (cx ⋯)|j8]],%[qa,jB1 X G q5|λ_=>.inr %[_,qits,qn,q6,1,1,zP0 q7 (cx ⋯)|q8]]|%[pa,jB1 X G p5|λ_=>.inr %[_,pits,pn,p6,1,1,zP0 p7 (cx ⋯)|p8]]]
 let Oq:=M1.binds (ps:=["self","switches","trees","field"]) ‹X.a›;let MF:=M4.binds (ps:=["self","numbers","s"]) ‹X.a›;let NM:=M6.binds (ps:=["self","point","s"]) ‹X.a›;let NN:=M8.binds (ps:=["self"]) ‹X.a›;let MG:=Na.binds (ps:=["self","game"]) ‹X.a›;let Os:=Nc.binds (ps:=["self"]) ‹X.a›;let Ot:=Nd.binds (ps:=["self"]) ‹X.a›;let Ou:=Nf.binds (ps:=["self","values"]) ‹X.a›;let Ov:=Ng.binds (ps:=["self","r"]) ‹X.a›;let Ow:=Nh.binds (ps:=["self","values"]) ‹X.a›;let NO:=Ni.binds (ps:=["self","s"]) ‹X.a›;let Ox:=Nk.binds (ps:=["self","values"]) ‹X.a›;let NQ:=Nl.binds (ps:=["self"]) ‹X.a›;let Oy:=Nn.binds (ps:=["self"]) ‹X.a›;let Oz:=No.binds (ps:=["self"]) ‹X.a›;let OA:=Np.binds (ps:=["self","game","number","many","due","s","coins"]) ‹X.a›;let OB:=Nr.binds (ps:=["self","word"]) ‹X.a›;let OC:=Nt.binds (ps:=["self","place"]) ‹X.a›;let OD:=Nu.binds (ps:=["self"]) ‹X.a›;let OE:=Nv.binds (ps:=["self","place"]) ‹X.a›;let LP:=Nw.binds (ps:=["self","game","helper"]) ‹X.a›;let NR:=Nz.binds (ps:=["self","many","due","s","coins"]) ‹X.a›;let OF:=NB.binds (ps:=["self","place","said","asking"]) ‹X.a›;let OG:=NC.binds (ps:=["self"]) ‹X.a›;let OH:=ND.binds (ps:=["self","text","row","most_within","most_parts"]) ‹X.a›;let OI:=NF.binds (ps:=["self","within"]) ‹X.a›;let NS:=NG.binds (ps:=["self","signs"]) ‹X.a›;let OJ:=NI.binds (ps:=["self","signs"]) ‹X.a›;let OK:=NJ.binds (ps:=["self"]) ‹X.a›;let OL:=NK.binds (ps:=["self"]) ‹X.a›;let C3:=cal L9 (Cy L9 B.len) MX ‹X.a›;let aP:=cal Ma (Cv Ma ) MY ‹X.a›;let ou:=cal E1 (xU E1 ) Mv ‹X.a›;let fN:=cal u5 (uz u5 ) L3 ‹X.a›;let fX:=cal A8 (wv A8 B) Ml ‹X.a›;let eF:=cal E7 (xQ E7 ) Mx ‹X.a›;let fQ:=cal ik (kG ik B eF fN) pF ‹X.a›;let im:=cal oo (qP oo B eF fQ) J6 ‹X.a›;let cJ:=cal E6 (xN E6 B im) Mw ‹X.a›;let mv:=cal B0 (wA B0 cJ) Mo ‹X.a›;let a7:=cal oa (qQ oa ) J2 ‹X.a›;let i4:=cal K2 (sS K2 B K5 a7 10) K5 ‹X.a›;let eE:=cal D7 (qA D7 D8 a7 10) D8 ‹X.a›;let c9:=cal oi (qT oi ) J5 ‹X.a›;let f8:=cal E3 (qy E3 E4 c9 10) E4 ‹X.a›;let l9:=cal A9 (wy A9 B.max eE) Mm ‹X.a›;let ii:=cal lD (pX lD B.enumerate) E5 ‹X.a›;let j4:=cal u6 (ur u6 eE) L4 ‹X.a›;let j9:=cal u7 (ut u7 %[te|jB1 X G ge] ou) L6 ‹X.a›;let mi:=cal Bj (wu Bj B.max) Mn ‹X.a›;let r8:=cal LB (zP LB B.range aP) MR ‹X.a›;let gR:=cal Mb (uT Mb B.len Mc aP 10) Mc ‹X.a›;let f7:=cal u9 (mx u9 vo 10) vo ‹X.a›;let C2:=cal Md (Cw Md B.len B.max f7) MZ ‹X.a›;let kE:=cal vx (ux vx B.range) Me ‹X.a›;let r9:=cal K9 (zO K9 B) MQ ‹X.a›;let kM:=cal LE (zQ LE C2 kE) MU ‹X.a›;let gH:=cal B9 (oM B9 C0 B 10) C0 ‹X.a›;let uc:=cal LC (zN LC B aP r8 gR kM r9 gH) MT ‹X.a›;let i7:=cal LF (sV LF LG 10) LG ‹X.a›;let kC:=cal v5 (uu v5 B.range B.tuple) Mf ‹X.a›;let o7:=cal G9 (xS G9 B kC i7) MB ‹X.a›;let o9:=cal Hw (xT Hw aP) MC ‹X.a›;let mr:=cal B7 (wD B7 B TG i4) Mp ‹X.a›;let OM:=‹Fl.p› M1 TG B.tuple B.len l9 ii j4 j9 mi;let MI:=‹Iz.p› M4 TG B.reversed;let NT:=‹CB.p› M6 TG ME MI MF f8;let NU:=‹CC.p› M8 TG B.len;let ON:=‹CF.p› Nn B T TG M7 NT NM mr;let NV:=‹Kz.p› Nl B T TG Od ON Oy;let NW:=‹CI.p› Ni T TG ME MI MF Nm NV NQ;let OO:=‹zT.p› Nh B T TG Nj NW NO;let OP:=‹IA.p› Nk B T TG mv;let OQ:=‹Fp.p› Nf B T TG fX Ob OO Ow Oc OP Ox;let OR:=‹Fn.p› Ng B T TG fX cJ Nj NW NO Nm NV NQ;let MJ:=‹Fo.p› Na B T TG;let OS:=‹CD.p› Nc T;let OT:=‹IB.p› Nd T;let df:=cal nQ (qU nQ B.range) J1 ‹X.a›;let iu:=cal LZ (Cz LZ ) MV ‹X.a›;let f9:=cal D1 (qB D1 D4 iu 12) D4 ‹X.a›;let ow:=cal D6 (xV D6 B.len df f9) Mt ‹X.a›;let fY:=cal A4 (wz A4 TG ow) Mh ‹X.a›;let oz:=cal EB (xO EB B TG M7 NT NM df) Mu ‹X.a›;let r6:=cal K7 (zS K7 fN) MO ‹X.a›;let gg:=cal G7 (xR G7 r6) Mz ‹X.a›;let OU:=‹Fr.p› Np B TA;let OV:=‹CJ.p› Nr TA TG;let OW:=‹Fs.p› Nt B TA TG;let OX:=‹zU.p› Nu TA fY oz;let OY:=‹Fq.p› Nv B TA TG Oh OX OD cJ;let AF:AskF l.prog w K mg base CA CG _ _ _ _ _ _:=⟨Of,OV,OB,Og,OW,OC,Oi,OY,OE⟩
 let cK:=cal E8 (qz E8 E9 TA TG AF gg 5) E9 ‹X.a›;let LQ:=‹Fk.p› Nw TM;let OZ:=‹Iy.p› NB B TM cK;let NX:=‹Ix.p› Nz B TM TA %[tm|jB1 X G xmo] ⟨asmki,Nq.1,Nq.2,askcl⟩ OU OA Oj OZ OF;let Y:Ways l.prog w K mg base C CM CG _ _ _ _ _ _ _ _ _ _:=⟨N7,OS,Os,N8,OT,Ot,N9,OQ,Ou,Oa,OR,Ov,NA,NX,NR⟩
 let MDk:Mk K C _:=%[dbmki,Nb.1,Nb.2|dbkcl]
 let MMk:Mk K CM _:=%[mcmki,Ny.1,Ny.2|mckcl]
 let O0:=‹Fm.p› No T MDk MJ MG;let O1:=‹Fi.p› NC B TM MMk LQ LP;let Z:Twins l.prog w K mg base C CM CG _ _ _ _:=%[Oe,O0,Oz,Ol,O1|OG]
 let b6:=cal u8 (uC u8 B T TM Y) L7 ‹X.a›;let C4:=cal L8 (Ct L8 B T TM Y MDk MJ MG MMk LQ LP b6) MW ‹X.a›;let jI:=cal Mr (Fh Mr B) NZ ‹X.a›;let cX:=cal k4 (pW k4 TG M9 NU NN jI) C9 ‹X.a›;let fZ:=cal B8 (wx B8 B TG M9 NU NN) Mq ‹X.a›;let di:=cal kJ (iT kJ kK B T TM TG Y Z b6 fZ 8) kK ‹X.a›;let ue:=cal K8 (zL K8 T TM %[tr|jB1 X G xmr] MDk MJ MG MMk LQ LP cX di) MP ‹X.a›;let O2:=‹Fg.p› ND TS;let O3:=‹Cu.p› NF TS;let NY:=‹Ff.p› NG TS;let O4:=‹Fe.p› NI B TS NH NY NS;let O5:=‹Fd.p› NJ B TX TS;let O6:=‹zM.p› NK B TS;let M:Mths l.prog w K mg base CS _ _ _ _ _ _ _ _ _ _:=⟨Om,O3,OI,NH,NY,NS,On,O4,OJ,Oo,O5,OK,Op,O6,OL⟩
 let fg:=cal J9 (zR J9 B TX) MN ‹X.a›;let b9:=cal uF (uy uF B TX) LV ‹X.a›;let fJ:=cal A0 (oI A0 LX B TX A3 LY 8) A3 ‹X.a›;let o6:=cal C8 (xP C8 B fJ) Ms ‹X.a›;let jC:=cal qW (sX qW o6) LK ‹X.a›;let c8:=cal y8 (oJ y8 y9 v9 xA B TX TS M fg b9 8) y9 ‹X.a›;let m5:=cal y6 (wp y6 TS M fg) Mg ‹X.a›;let gi:=cal m9 (qR m9 B TS M b9) J0 ‹X.a›;let kH:=cal u4 (uB u4 TX TS M %[scmki,NE.1,NE.2|sckcl] O2 OH m5 gi c8) LW ‹X.a›;let d8:=cal qw (sT qw B TX kH) LJ ‹X.a›;let m7:=cal A5 (wB A5 B ⟨uh,jB1 X G wh⟩ d8) Mi ‹X.a›;let jE:=cal rT (sU rT B) LO ‹X.a›;let i8:=cal LH (sW LH B LI 11) LI ‹X.a›;let iN:=cal ot (qS ot B i8 d8 jC) J8 ‹X.a›;let dX:=cal q0 (sY q0 B TG fY) LL ‹X.a›;let f6:=cal A7 (wC A7 B dX) Mj ‹X.a›;let jB:=cal re (tf re B TG ME MI MF dX) LM ‹X.a›;let jm:=cal rC (sZ rC TG) LN ‹X.a›;let gV:=cal kI (oK kI B TG jI cX jm f6 jB) C5 ‹X.a›;let MGk:Mk K CG _:=⟨gmmki,M3.1,M3.2,gmkcl⟩
 exact Ky N4 B TG MGk OM Oq TM MMk LQ LP NA NX NR C3 uc o7 o9 m7 jE iN gV f6 C4 ue
def walk{l:PySem.W.OpenLaw}{q:Program}{loose:List Str}{XP:(#[9])->Heap->Prop}{YP:World->Heap->Prop}{d:DefRec}{K:Params->PySem.W.Frag}(hn:l.most=some 63)(hdf:d.params.defaults=[])
 (hY:∀(w:World)(h:Heap),YP w h->(K w.params).In h)
 (F:∀(w:World)(mg:#[9])(fa:Addr)(h:Heap),(K w.params).In h->h.Ns mainGlobals mg->mg d.name=some (.ref fa) ->
  ∃fd:FuncData,(∀(s:Shared) (u:Value),BindsTo s fd %[[u]|[]] [("_law_script",u)])/\∀base:Heap,(K w.params).In base->base.Ns mainGlobals mg->FnOk l.prog w (K w.params) mg base CX0 37 fa fd ["_law_script"] (spLaw (K w.params))) :
 PySem.W.WalkO q loose XP YP l.row.toRowW d [] (λf vs=>PySem.call f vs):=
 L2.walk_of (n:=63) (k:=37) (x:="_law_script") (CX:=λ_=>CX0) (sp:=λw=>spLaw (K w.params)) hn ⋯ hdf %[1,1,4|4] hY F (λ_ _ a ns hl _ hS=>%[a,ns,1,hS,hl|λ_=>rfl]) λ_ _ _ _ _ z=>z
end Mine
namespace PySem.W.Fast
example:="JZ0AXBvwqtp9dbCpdgm1tgI49OgFmK3aJFAuMjZ1SvSzFr9UG2BVFiu4zabzphUChWAOqilXNqPaNC1r1hETyk56AF50pbstQzFGUDmxEvOKpHB9ertSEiE430tDZbZOWtxM0qO5slY15ItKUUbAAkPbxK2cNQTX1PBQRLUyVS4vlUkKLcGnigRDDfZ3GzNN7AqiiJJWB1Hn4xwmR6IYo9WgmgVLBK1ihYayO91DgHDOZZHN0676yu39ggAfSKzfP5BrUpyzCt3kNugPtpnKhzELIFtyANIZEcg3t59CWE71flPuRlqx3pohUbE21ZN0TXm4tF1T3k6SlFjpH9eWEINTvNoqynnh85tw5ynI21zEeV70toQ77A46RJhb9PuHPCSKuI0Ym6qgBeN3AqkL4PBGZ9eQhjP9Bf3EvcDvqZc9wC6b24EtRM4u1pDKwVMEkUuDITvFzKqTa27GIUplOrkh15vqhnEKkCE29dl36FcbCA2Ay8hGYtNM4BJxI5BrlW8eBGeerMDSMxGTC5QxR539tW09mq2xP0V8OT4aCIN2G5Ah65DUVL1lKncr8u260tlE9iK12IngJw0x0FJODQufUsgsUAFsAALA8LtTARo51mtYQoH39R6xl00J085bszeMJFKleE7xSXYFoXOj6SxU3fPh2cFC1o2aljBKRmLlWWXCV6i5OBbciTjglbmm5PBxrmwahCBI2uLwJNDdI6F4I6ONv1wlR0JA3DAlrK9xCx51p44qXdzEPG6WLyD6vB9oWeHbDL1PUJBfKyJGrf1DEF4wFqrCO1Y9bsMQwkQSte3nkaNykHmdL4L8NFyWRuLh1H1faKqDc9OHRn6gig4HvW6VphI4axcqy4ZSjzvH0J4MLfsYLfb2GOA6zZCXPBLnH0KyAbUcXGWem4WrO14HoFPjC3wc0qWIWir1x15S8BrEWDHjUIxSUkq6VBAqsp7i5x0HKx8lJZQEFEnAbpteSPsdTq9dpetF1lO4i09NZZoV42ElJSztv3zFkaG6EjKEVfNGEYDuslpmKaGkl2tWMdsdZWjh0fT3r4Pg2gyCPxPgCM33gdLc58mkY1XKN0tRPsc190zr1QYVheaJJWLLxg0etnMuvYCiCiRH2TPRT4snj7LHF80kHuC1rV5dT63Lb6cYf1OKLdHyHVTYqRN5a52l0DAAVPpR0UERvnfkJAOIMSE2izUNp1EqTtSutw93G3GskYeSrc64G6uwsQ2bPxwFJsT1TohDW11gFzyKvUxps9XpNFgIqTpPCBGaTqpEliy3tr7FHb2hMw8ObGzyCkrpBG6IilACKKtEGIifYiLutvo1sap1j4cvlzCbrgYFXiF2w6WPnohL6zAU9Bx1EJULetX2zErSX2IRYP7mauTaUZzkdJUa4VclCTMj8Ri2rmmWYDsComtYj9yXQrAiOWARjEf748utoZvJUTvlGji8B9pllnc0LfhkSyLgN6HiEOv7h9ScFDe1xpi5DKVMAXGZgPnDvsMKei7TCc022S3RWmMSESejREKx6UOiDzelAXD43GMEKjiHf9vifbXUBpALrQ4p70rlv2CtaOCr5PCnLG2Jnx0u6sXBZBSeP8BC529jmy4lUPmVbLkuwNCT33lCHnehvUCVn6u2GC0zrelkAaAkU8vRsZ7YfCqU3VZ6zxgVFZZ4eAR8EzLI37fPlXDfRKGpo4NhKcfil5EcUwIIbd263Gvpfi4Lg2P7ahk3O5ZPd97aMh2Vg59qvLNjpZQPnysmKIdh87SikQsKAUQDqfxADFJ9KgivOM1NsFGevOrstVkkHPPX2rX6gMcGYLcqs9ToiRBpf9tN4IGhECMGLvcK2zsZ8XSBK9BYAHCApJxCduI6mz1njxX7cnqms07VHEQhwbw00f6037m1Npy6tKWWazfHak9Az6kdpd1xV6lYySLAuif8Ds9L0nXpDpEAT6JfQhtrGn43W98HJGlyF9at9WfLhIDH4Y8cz0V1Yz6H6jn5ZDfJW4DSX2fGaqmNLD59zUU8TgS19zFHhwhYdyh4AT3YUg0dKwKXNpPIKNuqEBXTJXpGj9doKQVVCSqdzH9Cv5nfqyhXyf8fpMsbGIi9p7LZ6QOTLtBkCLC1LzeQnZqFdcjAISn2ZP96IVM1JNFMG5FID19tQ3CdHFPbyfqRpW5BGGNxbLOBtR5VqMEZOHoslGjmtJRLc3fq1JkvkBUKaOw8h8NsL0XzTaCbM8yRQdR6FLNp9BQ86Wv62uZndoB5zOM8HATVevK4Z8DB7VrPFIF90FzJn4vwLy0kKeSYVThjpxNITfDBCHgztX7PYVctQffqVEgNSpkn749UIOvynRDv0gj1jtwREl4i3r5s45sXrJKYZJgnbfKultmQKX8OirXeZyb8YJytj8cKMHCWjOJP1wMT1CjFs4JQv8xxLp7QpioCJYg90FGBgoRjssGudxJgucL7k1x4gA6lBFnlKTBWIWATHIxC91e2PBVkjs1wkQx7ZEGFJAX4eVRyjJcjFMlmBziZOQoBOUO9o1MUp20eCQtRUfkxRL3WIho4FRDTCUQl9ObeCM5FgeEqUCNBxbBUNryATW1gW82BudxNpnWyF1NwIacZZF1FbJW6gVh4BLCJzPuV3WZUBHIvSGjwH3PXGYUHLWdMsuUAjt6JR9aJDwL8eWTDHALQo22RG2g3xwJY0C5CFNBpjpK21yVFR27KlJ8TxAhLLdY5i4xz8VKFUe17ADuv9XIdB34AaEBOkIJwxZJfpEws9sILv7qpuuN9mRczKKLzlvFmTyc8bV5Wm5AJJDKe0kW1c51ZM5hcCoXpF0OqIszJ8pzjraQ4yUpKYcjvzzC4DDm5bu8j489gzRWhIW18KjFKqAqhOYiHZFT0AMzleeKOElJyzZsH8He8NeM27Dl57RWjeXuN7Rj38y4BVUjw9sKXAPtzojiEzD8iCBAMBcygBwDJuEJfJ77615wWxzGcqhEWofJ7lSzb01HljK8kstHb8yf9FDKUG2EF4YdLdNoUv9CK5PVhwhYwgEzs9r4wrQRA3SvQy9clXdX6uWhgGPm1ec8sl7hg8ul52GitS86jbdczFaPnN8Ef00O9XnQwveMJoHHl4E7xDlzV91WFRpytbKakBEeBpAMxes1Go3VHN3mVwlLLMGCDk8ZsXLRAvpPANa7ZDpFtaWCrl0GI25fC0OrSsKC0jApBGIO9y179aiZEwofbH1Y09w1cMPHEAEopFngmigDm4AhKS59l13t7DRFq2qUd54CC9f3fn2B8A7yEHEI92c7Ff4QFGxS1y36c4PIXXDsI5F5sBnyj1b437AyP7IhX6iBB7QJyEkQPK7att0wkkm3F27YRiFCZftg31SjMnNlD9j1VFm5U4Mh4v1XtD5HZrBDiGTnjHJn8ZoGLhDSSExC6PTBkZCdVobFzRATjKNf0XDf9LIWWqhJgzB2AxVDNe5yAR8Inz7uRAeLLBIZID6JkAbnqFP4PLabSlKC3Jss3hfHgCwFRd0pVPPVdJ4mpelB5aG3YAAN47LaCIrk3nkEgNb4HrCEtrCo812mhHF7tJzlHjraBFVhf9Jlx87s96HW1KTUW9W2ZyJ7JQeGY25vo8qeK7jT5Lt8PVYQDjHK3xlH2i6GuKr3miHmiwgafSLvBHUGCX6bgFeFuWX4ywXtIhXWsfypPMiEynlcCFBtAl0VNug1BtBy29QYcRHDIY4B7AMxlo1idmTJrio6LXOxIKJ86xNgZ2exV3HE0EOuBoS8DbciFeCIXZEFCxreplzgeo95BT7k5kKg3CBmO8zM9nGD5FEEB0ZtOpCKOkekTXzUvvAiy9WaZXjDy4bQFlysDtH57I68fQ8tLQmEaSyb4GrAwUIgWKZmGgPW45s2D0csMOOL0o0HfNLsESB0fYem7lBBjaEqBpc9isoPuChjIbu4irr7En9wFbRquPc66VvFef24Oe5N9jOBpj7uDCHgNSJ0pnZOFMKaJgomNkKJsjdYSE4dWJ0paKlIkGd2mI91kwk9vwS4IsbJkkw8BTO3giEg0FctvvDORmthEyoMV7UtlSrMvByk8Ubb0ipmYodF8lFM8Azji25ziAyCfCxvyAAGyi3yTJKn0bfqOlwIa1DLO8j5HeLIB10WPIFjno5EV0yzZxVudHNN12e9TErDLFPKjs4whhY26z7jnZzcp01PBClHEKl1FZWH1LnUUb9KAHIGIoiuY9IDir7Q2PfY7QWcEG1H2KlOKRlEFK9GzrKH4zjH1ue9bYzdLFL1s42phDtjL5gH5i4riI6B7DzFCsBu16LEcH3MbhESXw3CSKcglX57bFB1l735zD0XA9R7e6zsBpv4nAaEvRjjKR2jXa7sRne789sE36lw4MMzJKqkOeyCxn7L52PiLke9VCEtn0kBcZ2opGGLnRzOKpuBCIZC8xCwlp4FomOAe5SymM6iyKTHpDCarFc4BAlZ6AMc8QBIgWc7JwLHRd0R8c1arP1RVbrajex3o9UAudFCRcDQ0uVcufol9eGFuHpQElSJFNDSLnLuu0oKw3o88o28bMiB4R7EZZdeulH1cGaadLrLn6FzsQ623TLvrEjjwTjPE15X4tf0Lm9oQ8CHYfBjLevV3s80NGqBmInBJ0jl8U2mibDc1XHdZSpIKYa4MwyXHnz9Af6fXWnME7PUh2OUYhq6N1pBLTyHvJmblaSJKzinTO0iROCvkTUrgyFA3GJfWvwcsgc0DQfRZE8HYeqLhcCNAFdllnH3rQ6I0D1Y8EonVTbpCIRJAegfhl2t78CFm4JzU3RED74IL3ZasD5JK6RX2GM0RrCP477guoqYP1dBNECchRGwLh4AaUS9DEodrBeHypPHMVK89EylN3d8tvu26yLm42QvVXIwBgz6Kk0Qj5YBp0R0NYdnLFrL6LV2ETb2TeDPOVWO8xKhWlWE3UwTt6sZk7jfl6BgA2uTIyLTY4b0MJmiiw2rM13BzZTrWEjloAWnHKHAQeyd8E1l7hpGiQF2fd7YcIvqyG2V95s024xf7GMSQkfmLRNK8AmqFRv2oMN9dE38Q7bIqi3RGcYwVVHgj950gj8k4Ix2EVXnGE6mM2CBlloPr4MbK11VWMBIQncaQJ5mv59kfwyJKAZoh7vEGIFGskXFYz5XayFsJYltrviqu0ZaEYshlmYr6EOQCf2AhDtC1tSF40JRy40pPrbBdUh0zAEwCeer4nYm684NeVlcsNM53g8opttLaCEucLD8eBZH64D9YuHIrKxw9b3robRqzVR6RlVljWZibl1dYF2nVtQBr9ns3dGJYKLA3pV2StQCTQo5bdWFKHDzBe2H5VXkMZ9Jq8Fd2nqnfLQbGg2mJpNx444Ie6d49DkFM09DZHzZN6Uc7KVPtWywTfkL4glWe9IqHNfDdFZCXxkrmW2pKaYg6Ynja78ga9IjGjlC5C1Y4hyvNEiFCnbxVuUexWBIXm0MMmqKQ81VnLnCRHoO38a3MlBly9TFzSNi3qkmHrKvU6TTpZ20UI7WR4rtstNCBPAMm6gj36jCOP8eOF7IfJ9aDsFqG1m5f78CauWk0s0U3PmdYSoFeg1EBSn4IFernOH2oKbiC8P8162nae2qUPrDDyh5ZhXHFNDGdGbyf77LIrIYPZ2NmtY1QDjikwoRuleIFgqbi9ceNoRKiQEAn13Vir5HyqzDSTG1XCFL3IUV3NiHC47BzvKEiilAvRwolThXc419Oi0vvtDLIEKPUeqsBT8CANZxEbtznZr4xO3LaSlbJH7kadqJJcS0QFz4tDmrbqQpFz7TykECp6VIpaV0I1Fia0JJDT6gJOgkP8by9pqrbiKmE0LNkjriO4P45dNOlSKqynKNzJlP7umXlLYB6gpbsuRi0fRXdHiLRiSG68teMx1p371YCUlavtLXaHzBw1pVbAfc07c0AO0Bec95NHbpTioUzsJeyKyUI0obh"
end PySem.W.Fast
open PySem PySem.W PyProof.Rows
set_option maxRecDepth 100000 in
set_option maxHeartbeats 0 in
theorem PySem.Challenge.cw_asktally_k63_whole_best_liar_holds : PySem.Challenge.rw_asktally_k63_whole_best_liar.Holds := by
 w_on; o_law; k_head; (case hw=>w_witness2)
 k_fill
 apply Mine.walk (l:=PySem.Challenge.rw_asktally_k63_whole_best_liar) rfl rfl (λw h Y=>PySem.W.kIn_of Y) ?F
 case F =>
  intro w mg fa h KX G hmg
  refine' Mine.all_mk KX G hmg ?aL ?lL ?cL ?kL ?h0 ?h1 ?h2 ?h3 ?h4 ?h5 ?h6 ?h7 ?h8 ?h9 ?h10 ?h11 ?h12 ?h13 ?h14 ?h15 ?h16 ?h17 ?h18 ?h19 ?h20 ?h21 ?h22 ?h23 ?h24 ?h25 ?h26 ?h27 ?h28 ?h29 ?h30 ?h31 ?h32 ?h33 ?h34 ?h35 ?h36 ?h37 ?h38 ?h39 ?h40 ?h41 ?h42 ?h43 ?h44 ?h45 ?h46 ?h47 ?h48 ?h49 ?h50 ?h51 ?h52 ?h53 ?h54 ?h55 ?h56 ?h57 ?h58 ?h59 ?h60 ?h61 ?h62 ?h63 ?h64 ?h65 ?h66 ?h67 ?h68 ?h69 ?h70 ?gmc ?dbc ?asc ?mcc ?scc ?N0 ?gmmM ?gmmW ?gmmC ?dbmI ?dbmW ?dbmU ?dbmH ?dbmT ?dbmC ?dbmB ?dbmR ?dbmG ?dbmE ?dbmN ?asmI ?asmP ?asmC ?asmN ?asmR ?mcmI ?mcmS ?mcmR ?mcmN ?scmI ?scmE ?scmS ?scmT ?scmW ?scmF ?uf ?gmn_trees ?gmn_field ?gmn_degrees ?dbn_game ?dbn_awaited ?dbn_claims ?dbn_s ?dbn_heard ?dbn_tossed ?dbn_held ?dbn_places ?asn_game ?asn_number ?asn_many ?asn_held ?asn_s ?asn_tossed ?asn_truths ?mcn_game ?mcn_helper ?mcn_next_round ?mcn_boxes ?scn_text ?scn_row ?scn_most_within ?scn_most_parts ?scn_place ?scn_parts ?g1 ?g3 ?g5 ?g6 ?g7 ?g8 ?e1 ?e2 ?e3 ?w1 ?w2 ?w3 ?j5 ?j6 ?j7 ?j8 ?q5 ?q6 ?q7 ?q8 ?p5 ?p6 ?p7 ?p8 ?wh ?xmr ?ge ?xmo ?z0 ?z1 ?z2 ?z3 ?z4 ?z5 ?z6 ?z7 ?z8 ?z9 ?z10 ?z11 ?z12 ?z13 ?z14 ?z15 ?z16
  case aL|lL|cL|kL=>k_is
  case h0|h1|h2|h3|h4|h5|h6|h7|h8|h9|h10|h11|h12|h13|h14|h15|h16|h17|h18|h19|h20|h21|h22|h23|h24|h25|h26|h27|h28|h29|h30|h31|h32|h33|h34|h35|h36|h37|h38|h39|h40|h41|h42|h43|h44|h45|h46|h47|h48|h49|h50|h51|h52|h53|h54|h55|h56|h57|h58|h59|h60|h61|h62|h63|h64|h65|h66|h67|h68|h69|h70=>exact%[_,by k_is,_,%[_,_,_,_,_,_,_,_,0,by k_is|by k_is]|by k_is]
  case gmc|dbc|asc|mcc|scc=>exact%[by k_is,by k_is,by k_is,by k_is,by k_is,by k_is|by k_is]
  case N0|gmmM|gmmW|gmmC|dbmI|dbmW|dbmU|dbmH|dbmT|dbmC|dbmB|dbmR|dbmG|dbmE|dbmN|asmI|asmP|asmC|asmN|asmR|mcmI|mcmS|mcmR|mcmN|scmI|scmE|scmS|scmT|scmW|scmF=>exact%[_,by k_is,by k_is,_,%[_,_,_,_,_,_,_,_,0,by k_is|by k_is]|by k_is]
  case uf|gmn_trees|gmn_field|gmn_degrees|dbn_game|dbn_awaited|dbn_claims|dbn_s|dbn_heard|dbn_tossed|dbn_held|dbn_places|asn_game|asn_number|asn_many|asn_held|asn_s|asn_tossed|asn_truths|mcn_game|mcn_helper|mcn_next_round|mcn_boxes|scn_text|scn_row|scn_most_within|scn_most_parts|scn_place|scn_parts=>delta Mine.HF; k_is
  case g1|g3|g5|g6|e1|e2|e3|w1|w2|w3|j5|j6|q5|q6|p5|p6|wh|xmr|ge|xmo=>k_is
  case g7|j7|q7|p7=>decide
  case g8=>exact Mine.kept_vals
  case j8=>exact Mine.sign_vals
  case q8=>exact Mine.ask_vals
  case p8=>exact Mine.plain_vals
  case z0|z1|z2|z3|z4|z5|z6|z7|z8|z9|z10|z11|z12|z13|z14|z15|z16=>delta Mine.HZ; k_is
