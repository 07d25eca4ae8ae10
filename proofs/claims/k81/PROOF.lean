import PyProof.Rows.All
import Wide.All
import OpenK.AllK
import Wide.FinOn
import Lean
import PyProof.EqAt
import PyProof.EqKinds
import PyProof.TupleCall
import PySem.Challenge.RW_asktally_k81_whole_any_helper
set_option Elab.async false
set_option linter.all false
set_option maxRecDepth 100000
set_option bootstrap.genMatcherCode false
set_option compiler.extract_closed false
local macro_rules|`(%[$xs,*|$y])=>do
 if y.raw.isIdent then if y.raw.getId==`List.nil then Lean.Macro.throwUnsupported
 if y.raw.isIdent then if y.raw.getId==`aP then return←xs.getElems.foldrM (fun x a=>do match x.raw.isNatLit? with|some _=>`($(Lean.mkIdent `af) ($(Lean.mkIdent `pv) $x) $a)|_=>`($(Lean.mkIdent `af) $x $a)) y
 let h←`(_);let r←`(rfl);let q←`(?_);let a←`(by omega);let b←`(by decide);let i:=Lean.mkIdent;let u←`($(i `aD) ($(i `neS) $b) ?_);let c←`($(i `T.cl))
 let o:=(xs.getElems.push y).flatMap fun x=>match x.raw.isNatLit? with|some 0=>#[h,r]|some 1=>#[r]|some 2=>#[h,h,r,r]|some 3=>#[a]|some 4=>#[b]|some 5=>#[r,r,r,b,r,b,b]|some 6=>#[q]|some 7=>#[u]|some 9=>#[c]|_=>#[x]
 `(⟨$o,*⟩)
local macro_rules|`(tactic|let%[$xs,*|$y]:=$e)=>do
 let g:=fun(f:Lean.Term->Lean.MacroM (Lean.TSyntax `rcasesPat))(t:Lean.Term)=>show Lean.MacroM (Lean.TSyntax `rcasesPat) from do
  match t with
  |`(%[$xs,*|$y])=>
   let p←(xs.getElems.push y).mapM fun x=>do let p←f x;`(Lean.Parser.Tactic.rcasesPatLo|$p:rcasesPat)
   `(rcasesPat|⟨$p,*⟩)
  |`($i:ident)=>`(rcasesPat|$i:ident)
  |_=>if t.raw.isNatLit?==some 1 then`(rcasesPat|$(Lean.mkIdent `rfl):ident)else`(rcasesPat|_)
 let p←g (g (g (g (g (g fun _=>`(rcasesPat|_)))))) (←`(%[$xs,*|$y]))
 `(tactic|obtain $p:rcasesPat:=$e)
local macro_rules|`(tactic|erw[$xs,*]$[at $h:ident]?)=>do
 let o:Array Lean.Term:=xs.getElems.map fun x=>⟨x.raw[1]⟩
 let l:=o.back!;let o:=o.pop
 match h with|some h=>`(tactic|let%[$o,*|$l]:=$h)|_=>`(tactic|refine %[$o,*|$l])
local macro_rules|`(⋯)=>`(by decide)
local macro_rules|`(#[1])=>`(λ _ _=>rfl)|`(#[2])=>`(by simp)|`(#[0])=>`(by omega)|`(#[$f:ident,$i:num,$s:ident,$e])=>`($f (i:=$i) ($s).nd rfl (Or.inl rfl) $e)
local macro_rules|`(tactic|exists $x:ident)=>do
 let i:=Lean.mkIdent
 `(tactic|refine $(i `F.ok) $x (fun _ _ _ _ h=>by cases h;subst_vars;rfl) (fun $(i `cdv) $(i `A) $(i `outer) $(i `s) $(i `H) $(i `vs) $(i `Q) $(i `E) $(i `hr) $(i `h)=>?_))
local macro_rules | `(tactic|omega)=>`(tactic|first | lia | omega +splitDisjunctions)
local macro_rules | `(command|def $n:declId $s:optDeclSig $b:declVal)=>`(command|noncomputable def $n:declId $s:optDeclSig $b:declVal)
local macro_rules | `(tactic|decide)=>`(tactic|decide +kernel)
local macro_rules | `(tactic|rfl')=>`(tactic|with_unfolding_all rfl)
local macro_rules | `(tactic|ac_rfl)=>`(tactic|(intro _ _ _ _ _ _ us hl;rcases us with _|⟨a,_|⟨b,_|⟨c,_|⟨d,_|⟨e,_|⟨f,_|⟨g,_|⟨h,us⟩⟩⟩⟩⟩⟩⟩⟩<;>first|rfl|(simp at hl)))
local macro_rules|`(#[$n,$f:ident,$d:ident,$p,$s])=>let i:=Lean.mkIdent;`($(i `FnOk) $(i `P) $(i `w) $(i `K) $(i `mg) $(i `base) $(i `CX0) $n $f $d $p $s)|`(#[$n,$x:str,$p,$s])=>let i:=Lean.mkIdent;`($(i `Cal) $(i `P) $(i `w) $(i `K) $(i `mg) $(i `base) $n $x $p $s)
local macro_rules|`(‹$x:ident›)=>return Lean.mkIdentFrom x (x.getId++`heap.objs.size)
local macro_rules|`(#[3])=>let i:=Lean.mkIdent;`($(i `CompScope.one) (by rfl') ⋯ rfl ⋯ rfl ⋯ (by rfl') (by rfl') (by rfl') rfl rfl)|`(#[4])=>let i:=Lean.mkIdent;`($(i `CompScope.two) (by rfl') ⋯ rfl ⋯ rfl ⋯ (by first | exact Or.inl rfl | exact Or.inr rfl) (by rfl') (by rfl') (by rfl') (by rfl') rfl rfl (by rfl') rfl rfl)|`(#[5])=>let i:=Lean.mkIdent;`($(i `CompScope.closed) (by rfl') ⋯ rfl ⋯ rfl (by rfl'))
local macro_rules|`(tactic|exists $n:num,$xs,*)=>do
 let i:=Lean.mkIdent;let a:=xs.getElems;let mut r:Array (Lean.TSyntax `tactic):=#[]
 for k in [0:a.size/3] do
  let z:=a[3*k+2]!;let v←if n.getNat==1 then`($(i `aU) $(i `X) $(i `G) $z)else`($(i `cQ) $z)
  r:=r.push (←`(tactic|let%[_,_,$(a[3*k]!)|$(a[3*k+1]!)]:=$v))
 `(tactic|($[$r];*))
local macro_rules|`(tactic|exists 3)=>let n:=Lean.mkIdent `no;`(tactic|refine ⟨fun vs H Q E h=>absurd h ($n vs H Q E),fun A outer s H args us vs Q E _ _ _ _ h=>absurd h ($n vs H Q E)⟩)
local macro_rules|`(command|instance $n:declId $s:declSig:=$v)=>do
 if v.raw.isNatLit?==none then Lean.Macro.throwUnsupported
 let i:=Lean.mkIdent;let b:=s.raw[0].getArgs
 let c:Lean.TSyntaxArray ``Lean.Parser.Term.bracketedBinder:=b.map (⟨·⟩)
 let a:Array Lean.Term:=b.flatMap fun x=>x[1].getArgs.map (⟨·⟩)
 let o:=v.raw.isNatLit?==some 1
 let r:=Lean.Syntax.mkApp ⟨n.raw[0]⟩ (if o then a++#[i `vs,i `H,i `Q,i `NR]else a)
 let t:Lean.Term←Nat.repeat (fun (g:Lean.Term->Lean.MacroM Lean.Term) (t:Lean.Term)=>show Lean.MacroM Lean.Term from if t.raw.isOfKind ``Lean.Parser.Term.forall then do return⟨t.raw.setArg 4 (←g ⟨t.raw[4]⟩)⟩else if t.raw.isOfKind ``Lean.Parser.Term.arrow then do return⟨t.raw.setArg 2 (←g ⟨t.raw[2]⟩)⟩else`($t->$r)) 60 pure ⟨s.raw[1][1]⟩
 let m:=i `mk
 if o then`(command|inductive $n:declId $c* ($(i `vs):ident:List $(i `V)) ($(i `H):ident:$(i `Hp)) ($(i `Q):ident:$(i `VK)) ($(i `NR):ident:$(i `XK)):Prop
 |$m:ident:$t)
 else`(command|inductive $n:declId $c*:Prop
 |$m:ident:$t)
local macro_rules|`(tactic|let $d:letDecl)=>if d.raw[0].isOfKind ``Lean.Parser.Term.letIdDecl then`(tactic|have $d:letDecl)else Lean.Macro.throwUnsupported
local macro_rules|`(let $d:letDecl;$b)=>`(have $d:letDecl;$b)
local macro_rules|`(command|example:=[$xs,*])=>do
 let c←xs.getElems.mapM fun x=>`(command|noncomputable def $(Lean.mkIdent (.mkSimple s!"tw{x.raw.isNatLit?.getD 0}")):ident:=())
 return Lean.mkNullNode c
noncomputable section
section
open PySem PySem.Spec PyProof.Rows
def NP.{u}{c:Prop}{h:Decidable c}(hc:¬c){α:Sort u}{t e:α}:ite c t e=e:=if_neg hc
def NQ.{u}{c:Prop}{h:Decidable c}(hc:c){α:Sort u}{t e:α}:ite c t e=t:=if_pos hc
abbrev zE0:=@wpAny_bind
abbrev zF0:=@List.length_map
abbrev zG0:=@Nat.le_refl
abbrev zI0:=@wpAny_pure
abbrev zK0:=@List.length_append
abbrev zL0:=@List.map_append
abbrev zM0:=@List.getElem?_eq_getElem
abbrev zN0:=@Heap.lt_size
def NW.{u}{α:Type u}{a b:α}(h:a∈[b]):a=b:=List.mem_singleton.mp h
abbrev zP0:=@List.length_cons
abbrev zQ0:=@Heap.get?_push_of_some
abbrev zR0:=@Nat.le_trans
abbrev zS0:=@List.size_toArray
abbrev zT0:=@Option.some.inj
abbrev zU0:=@Nat.zero_le
abbrev zV0:=@Nat.ne_of_lt
def zW0.{u}{α:Type u}{a b:α}{l:List α}(h:a∈b::l):a=b∨a∈l:=List.mem_cons.mp h
abbrev zX0:=@List.map_cons
def zY0.{u}{α:Type u}{l:List α}{i:Nat}{a:α}(h:l[i]?=some a):∃h:i<l.length,l[i]=a:=List.getElem?_eq_some_iff.mp h
abbrev zZ0:=@List.getElem?_map
abbrev qA0:=@List.mem_cons_self
abbrev qB0:=@Heap.get?_push_size
abbrev qC0:=@Bool.false_ne_true
def qD0.{u}{α:Type u}{a:α}{s t:List α}(h:a∈s++t):a∈s∨a∈t:=List.mem_append.mp h
abbrev qE0:=@Int.emod_nonneg
abbrev qF0:=@List.take_length
abbrev qG0:=@Int.emod_lt_of_pos
abbrev qH0:=@List.mem_cons_of_mem
abbrev qI0:=@List.take_add_one
abbrev qJ0:=@List.length_take
abbrev qK0:=@List.length_singleton
abbrev qL0:=@List.mem_of_getElem?
abbrev qM0:=@List.getD_eq_getElem?_getD
abbrev qN0:=@Nat.lt_of_lt_of_le
abbrev qO0:=@Nat.le_succ
abbrev qP0:=@List.getElem_mem
abbrev qQ0:=@List.mem_append_right
abbrev qR0:=@List.length_range
abbrev qS0:=@Int.toNat_natCast
def qT0{α β:Type}{f:α->β}{x:Option α}{b:β}(h:x.map f=some b):∃a,x=some a/\f a=b:=Option.map_eq_some_iff.mp h
abbrev qU0:=@Int.emod_eq_of_lt
abbrev qV0:=@Nat.lt_irrefl
abbrev qW0:=@Int.mul_le_mul_of_nonneg_left
end
section
open PySem PySem.Spec PyProof.Rows
abbrev zB1:=@decide_eq_false
abbrev zC1:=@PySem.boot_len
abbrev zD1:=@decide_eq_true
abbrev zE1:=@PySem.F.plainAttrs_list
abbrev zF1:=@PassesOwn.never
abbrev zG1:=@Nat.succ_le_succ
abbrev zH1:=@PySem.F.slot_list_append
abbrev zI1:=@PySem.F.type_list_append
abbrev zK1:=@Nat.lt_of_le_of_lt
abbrev zL1:=@List.length_nil
abbrev zM1:=@of_decide_eq_true
abbrev zN1:=@PyProof.Rows.callWith_type1
abbrev zO1:=@List.getElem?_append_right
abbrev zP1:=@wpAny_newObj_type
abbrev zQ1:=@wpAny_callSpecial?_slot
abbrev zR1:=@wpAny_field
abbrev zS1:=@wpAny_ite_split
abbrev zT1:=@List.sum_cons
abbrev zU1:=@Int.eq_ofNat_of_zero_le
abbrev zV1:=@wpAny_truthy_bool
abbrev zW1:=@List.getElem?_append_left
abbrev zX1:=@Int.le_refl
abbrev zY1:=@Array.length_toList
abbrev zZ1:=@List.replicate_succ
abbrev qA1:=@Int.pow_succ
abbrev qB1:=@W.mg_none_of
abbrev qC1:=@wpAny_setField_rec
abbrev qD1:=@PySem.W.kia_one
abbrev qE1:=@List.range_succ
abbrev qF1:=@wpAny_call_entry
abbrev qG1:=@wpAny_seqItems
abbrev qH1:=@Int.dvd_of_emod_eq_zero
abbrev qI1:=@Nat.lt_succ_self
abbrev qJ1:=@List.length_drop
abbrev qK1:=@PySem.mem_of_lookup
abbrev qL1:=@PyProof.Rows.slot_tuple_getitem
abbrev qM1:=@List.append_nil
abbrev qN1:=@List.length_replicate
abbrev qO1:=@Int.mul_emod
abbrev qP1:=@Calls.spliced_cons
abbrev qQ1:=@wpAny_Call_Name_kw
abbrev qR1:=@Bool.and_eq_true
abbrev qS1:=@List.not_mem_nil
abbrev qT1:=@lookup_relabel_local
abbrev qU1:=@Int.mul_comm
abbrev qV1:=@List.flatten_cons
abbrev qW1:=@call_meets
abbrev qX0:=@W.mg_of
abbrev qX1:=@F.slot_tuple_iterator_next
abbrev qY0:=@F.plain_max_loop
abbrev qY1:=@Int.emod_add_mul_ediv
abbrev qZ0:=@Int.zero_add
abbrev qZ1:=@PyProof.Rows.boot_max
abbrev jA0:=@List.mem_singleton
abbrev jA1:=@wpAny_passesOwn
abbrev jB0:=@wpAny_pyIter_list
abbrev jB1:=@Calls.spliced_nil
abbrev jC0:=@List.append_assoc
abbrev jC1:=@Int.natCast_add
abbrev jD0:=@Int.mul_le_mul_of_nonneg_right
abbrev jD1:=@Int.add_emod
abbrev jE0:=@List.any_cons
abbrev jE1:=@wpAny_of_eq
abbrev jF0:=@wpAny_getItem_str_slice
abbrev jF1:=@List.mem_cons
abbrev jG0:=@Str.cps_append
abbrev jH0:=@List.drop_zero
abbrev jH1:=@Calls.callWith_builtin
abbrev jI0:=@PySem.F.plainAttrs_str
abbrev jI1:=@wpAny_pyIter_tuple
abbrev jJ0:=@List.filter_append
abbrev jJ1:=@List.sum_append
abbrev jK0:=@builtinLookup_eq_fast
abbrev jK1:=@Nat.le_add_left
abbrev jL0:=@List.find?_cons
abbrev jL1:=@List.length_filter_le
abbrev jM0:=@wpAny_holding
abbrev jM1:=@Int.le_of_dvd
abbrev jN0:=@List.mem_append_left
abbrev jN1:=@Calls.evalArgs_plain
abbrev jO0:=@List.count_le_length
abbrev jO1:=@Int.emod_eq_emod_iff_emod_sub_eq_zero
abbrev jP0:=@Heap.size_push
abbrev jP1:=@List.drop_eq_getElem_cons
abbrev jQ0:=@List.getElem_of_mem
abbrev jQ1:=@wpAny_letGo
abbrev jR0:=@List.getElem?_range
abbrev jR1:=@List.map_congr_left
abbrev jS0:=@PySem.F.args_tuple_add_2
abbrev jS1:=@wpAny_comprehension_free
abbrev jT0:=@Int.pow_zero
abbrev jT1:=@Bool.eq_iff_iff
abbrev jU0:=@PySem.F.entry_tuple_add
abbrev jU1:=@wpAny_attempt
abbrev jV0:=@Int.emod_emod
abbrev jV1:=@PySem.F.slot_tuple_add
abbrev jW1:=@wpAny_pyIter_enum
abbrev jX0:=@List.filter_congr
abbrev jX1:=@Nat.ne_of_gt
abbrev jY0:=@Txt.slice_le
abbrev jY1:=@PySem.F.slot_dict_get
abbrev jZ0:=@List.getElem?_reverse
abbrev jZ1:=@Nat.sub_zero
abbrev wA0:=@PyProof.Rows.boot_sum
abbrev wA1:=@PyProof.Rows.boot_all
abbrev wB1:=@List.all_eq_true
abbrev wC0:=@wpAny_isInstance
abbrev wC1:=@Option.getD_some
abbrev wD0:=@Nat.le_add_right
abbrev wD1:=@Around.under_plainId
abbrev wE0:=@wpAny_updateSeq_pair
abbrev wE1:=@List.all_cons
abbrev wF0:=@typeIs_str
abbrev wF1:=@List.filterMap_cons
abbrev wG0:=@wpAny_execs_nil
abbrev wG1:=@Int.mul_one
abbrev wH0:=@PySem.W.plainGet_of
abbrev wH1:=@F.slot_int_rmul
abbrev wI0:=@post_val_or_str
abbrev wI1:=@typeLookup_type
abbrev wJ0:=@Option.map_some
abbrev wJ1:=@ne_true_of_eq_false
abbrev wK0:=@F.slot_zip_next
abbrev wK1:=@Int.dvd_add
abbrev wL0:=@Int.toNat_of_nonneg
abbrev wL1:=@List.length_flatMap
abbrev wM0:=@List.filter_map
abbrev wM1:=@Int.natCast_pow
abbrev wN0:=@Nat.le_of_lt
abbrev wN1:=@PySem.W.callWith_K
abbrev wO0:=@F.args_str_split_2
abbrev wO1:=@F.args_tuple_mul_2
abbrev wP0:=@of_decide_eq_false
abbrev wP1:=@Int.natCast_nonneg
abbrev wQ0:=@Bool.and_false
abbrev wQ1:=@isSubtype_type
abbrev wR0:=@wpAny_tryCatch
abbrev wR1:=@wpAny_mono
abbrev wS0:=@wpAny_assign_Name
abbrev wS1:=@Nat.lt_succ_of_lt
abbrev wT0:=@wpAny_rule
abbrev wT1:=@F.entry_str_split
abbrev wU0:=@F.entry_tuple_mul
abbrev wU1:=@List.flatMap_cons
abbrev wV0:=@List.pairwise_map
abbrev wV1:=@Str.length_append
abbrev wW0:=@Int.emod_add_emod
abbrev wW1:=@decide_eq_true_eq
abbrev wX0:=@plainId_quiet
abbrev wY0:=@wpAny_onRaise
abbrev wY1:=@or_false
abbrev wZ0:=@Int.mul_assoc
abbrev wZ1:=@Int.zero_emod
abbrev vA0:=@noFill_tuple_add
abbrev vA1:=@F.entry_max_loop
abbrev vB0:=@F.slot_str_split
abbrev vB1:=@F.slot_tuple_mul
abbrev vC0:=@codeAny_mono
abbrev vC1:=@List.map_nil
abbrev vD0:=@Int.dvd_refl
abbrev vD1:=@Nat.zero_add
abbrev vE0:=@Nat.sub_self
abbrev vE1:=@Int.add_comm
abbrev vF0:=@typeIs_int
abbrev vF1:=@if_true
end
abbrev WA:List PySem.Str:=["self"]
abbrev WB:List PySem.Str:=["tree"]
abbrev WC:List PySem.Str:=["game"]
abbrev WD:List PySem.Str:=["_law_feed_here","_law_many"]
abbrev WE:List PySem.Str:=["game","claims"]
abbrev WF:List PySem.Str:=["text"]
abbrev WG:List PySem.Str:=["self","values"]
abbrev WH:List PySem.Str:=["self","signs"]
abbrev WI:List PySem.Str:=["self","game","helper"]
abbrev WJ:List PySem.Str:=["self","game"]
abbrev WK:List PySem.Str:=["scan","within"]
abbrev WL:List PySem.Str:=["values","r","p"]
abbrev WM:List PySem.Str:=["self","numbers","s"]
abbrev WN:List PySem.Str:=["self","place"]
abbrev WO:List PySem.Str:=["self","point","s"]
abbrev WP:List PySem.Str:=["self","s"]
abbrev WQ:List PySem.Str:=["_law_tree_here","_law_name"]
abbrev WR:List PySem.Str:=["_law_feed_here","_law_names_here","_law_room","_law_deep"]
abbrev WS:List PySem.Str:=["tree","switches","point","p"]
abbrev WT:List PySem.Str:=["_law_tree_here"]
abbrev WU:List PySem.Str:=["_law_names_here","_law_trees"]
abbrev WV:List PySem.Str:=["tree","switches","setting"]
abbrev WW:List PySem.Str:=["term","boxes","asking"]
abbrev WX:List PySem.Str:=["self","many","due","s","coins"]
abbrev WY:List PySem.Str:=["machine","doubter","coins"]
abbrev WZ:List PySem.Str:=["_law_feed_here","_law_boxes","_law_room","_law_deep"]
abbrev Wa:List PySem.Str:=["self","switches","trees","field"]
abbrev Wb:List PySem.Str:=["value","p"]
abbrev Wc:List PySem.Str:=["self","r"]
abbrev Wd:List PySem.Str:=["word","first","second"]
abbrev We:List PySem.Str:=["sign","first","second","p"]
abbrev Wf:List PySem.Str:=["self","word"]
abbrev Wg:List PySem.Str:=["self","game","number","many","due","s","coins"]
abbrev Wh:List PySem.Str:=["machine","doubter"]
abbrev Wi:List PySem.Str:=["game","coins"]
abbrev Wj:List PySem.Str:=["self","text","row","most_within","most_parts"]
abbrev Wk:List PySem.Str:=["self","within"]
abbrev Wl:List PySem.Str:=["word","first","second","p"]
abbrev Wm:List PySem.Str:=["name","trees"]
abbrev Wn:List PySem.Str:=["numbers","p"]
abbrev Wo:List PySem.Str:=["tree","switches"]
abbrev Wp:List PySem.Str:=["first","second","p"]
abbrev Wq:List PySem.Str:=["self","place","said","asking"]
abbrev Wr:List PySem.Str:=["number","times"]
abbrev Ws:List PySem.Str:=["end","go","if","set","say"]
abbrev Wt:List PySem.Str:=["_law_script","_law_k"]
abbrev Wu:List PySem.Str:=["game","helper","coins"]
abbrev Wv:List PySem.Str:=["_law_p","_law_many"]
abbrev Ww:List PySem.Str:=["_law_feed_here","_law_most","_law_room"]
abbrev Wx:List PySem.Str:=["_law_feed_here","_law_boxes","_law_most"]
abbrev Wy:List PySem.Str:=["_law_feed_here","_law_box"]
abbrev Wz:List PySem.Str:=["_law_feed_here","_law_helper_here"]
abbrev W0:List PySem.Str:=["_law_feed_here","_law_claims","_law_names_here"]
namespace L2
open PySem PySem.Spec PyProof.Rows
abbrev Key:=Sum Int Str
def tN:Key->Value->Bool
 | .inl k,v=>Value.isInt k v
 | .inr x,v=>Value.isStrOf x v
def keyH(w:World):Key->Int
 | .inl k=>hashInt k
 | .inr x=>hashStr w x
def cY:∀{k:Key}{v:Value},tN k v=true->(∃i t,k=Sum.inl i/\v=Value.int i t)∨(∃x t,k=Sum.inr x/\v=Value.str x t)
 | .inl i,v,h=>by
   let%[t|e]:=Value.isInt_shape (k:=i) (v:=v) h;exact .inl %[i,t,1|e]
 | .inr x,v,h=>by
   let%[t|e]:=Value.isStrOf_shape (x:=x) (v:=v) h;exact .inr %[x,t,1|e]
def BF(i:Int)(t:Tok):tN (.inl i) (.int i t)=true:=by simp [tN,Value.isInt]
def BE(x:Str)(t:Tok):tN (.inr x) (.str x t)=true:=by simp [tN,Value.isStrOf]
def Jj(a b:Int):decide ((Sum.inl a:Key)=Sum.inl b)=(a==b):=by
 by_cases e:a=b
 . subst e;simp
 . let h:¬ (Sum.inl a:Key)=Sum.inl b:=λq=>e (Sum.inl.inj q)
   rw[zB1 h];exact(beq_eq_false_iff_ne.mpr e).symm
def Jg(a b:Str):decide ((Sum.inr a:Key)=Sum.inr b)=decide (a=b):=by
 by_cases e:a=b
 . subst e;simp
 . let h:¬ (Sum.inr a:Key)=Sum.inr b:=λq=>e (Sum.inr.inj q)
   rw[zB1 h,zB1 e]
def Ji(a:Int)(b:Str):decide ((Sum.inl a:Key)=Sum.inr b)=false:=zB1 (λq=>nomatch q)
def Jh(a:Str)(b:Int):decide ((Sum.inr a:Key)=Sum.inl b)=false:=zB1 (λq=>nomatch q)
def dG(prog:Program)(w:World):PySem.KeyKind prog w Key where
 is:=tN
 hash:=keyH w
 inj:=λv a b ha hb=>by
  rcases cY ha with⟨i,t,rfl,rfl⟩ | ⟨x,t,rfl,rfl⟩
  . rcases cY hb with⟨j,u,rfl,e⟩ | ⟨y,u,rfl,e⟩
    . injection e with e1 _;rw[e1]
    . exact nomatch e
  . rcases cY hb with⟨j,u,rfl,e⟩ | ⟨y,u,rfl,e⟩
    . exact nomatch e
    . injection e with e1 _;rw[e1]
 byValue:=λk v h=>by
  rcases cY h with⟨i,t,rfl,rfl⟩ | ⟨x,t,rfl,rfl⟩ <;> rfl
 pyHash:=λhv h=>by
  rcases cY hv with⟨i,t,rfl,rfl⟩ | ⟨x,t,rfl,rfl⟩
  . exact wpAny_pyHash_int h
  . exact wpAny_pyHash_str h
 eqBool:=λhu hv h=>by
  rcases cY hu with⟨i,t,rfl,rfl⟩ | ⟨x,t,rfl,rfl⟩
  . rcases cY hv with⟨j,u,rfl,rfl⟩ | ⟨y,u,rfl,rfl⟩
    . rw[Jj]at h;exact wpAny_eqBool_int h
    . rw[Ji]at h;exact SeqAt.EqAt.int_str i t y u _ _ _ _ h
  . rcases cY hv with⟨j,u,rfl,rfl⟩ | ⟨y,u,rfl,rfl⟩
    . rw[Jh]at h;exact SeqAt.EqAt.str_int x t j u _ _ _ _ h
    . rw[Jg]at h;exact wpAny_eqBool_str h
 «strs»:=λk x t v h=>by
  rcases cY h with⟨i,u,rfl,e⟩ | ⟨y,u,rfl,e⟩
  . exact nomatch e
  . injection e with e1 _;subst e1;cases v <;> rfl
def wG(prog:Program)(w:World)(i:Int)(t:Tok):(dG prog w).is (.inl i) (.int i t)=true:=BF i t
def wF(prog:Program)(w:World)(x:Str)(t:Tok):(dG prog w).is (.inr x) (.str x t)=true:=BE x t
inductive V where
 | non | bl (b:Bool) | int (i:Int) | str (x:Str) | byt (b:Array UInt8) | flt (b:UInt64) | ref (a:Addr) | ty (n:String)
 deriving DecidableEq
def RelV:V->Value->Prop
 | .non,u=>u=Value.none
 | .bl b,u=>u=Value.bool b
 | .int i,u=>∃t,u=Value.int i t
 | .str x,u=>∃t,u=Value.str x t
 | .byt b,u=>∃t,u=Value.bytes b t
 | .flt b,u=>∃t,u=Value.float b t
 | .ref a,u=>u=Value.ref a
 | .ty n,u=>u=Value.type n
abbrev Vals:List V->List Value->Prop:=Paired RelV
def Vals.length(r:Vals xs us):xs.length=us.length:=Paired.length r
def Vals.get:∀{xs:List V}{us:List Value}{i:Nat}{x:V},Vals xs us->xs[i]?=some x->∃u,us[i]?=some u/\RelV x u
 | _,_,_,_,.nil,e=>by simp at e
 | _,_,0,_,.cons r _,e=>by simp at e;subst e;erw[0,r]
 | _,_,i+1,x,.cons _ t,e=>by
   let%[u,h1|h2]:=Vals.get (i:=i) (x:=x) t (by simpa using e);erw[u,by simpa using h1,h2]
def Vals.set{x:V}{u:Value}(r:RelV x u):∀{xs:List V}{us:List Value}(i:Nat),Vals xs us->Vals (xs.set i x) (us.set i u)
 | _,_,_,.nil=>.nil
 | _,_,0,.cons _ t=>.cons r t
 | _,_,i+1,.cons q t=>.cons q (Vals.set r i t)
def Vals.append:∀{xs ys:List V}{us ws:List Value},Vals xs us->Vals ys ws->Vals (xs++ys) (us++ws)
 | _,_,_,_,.nil,s=>s
 | _,_,_,_,.cons r t,s=>.cons r (Vals.append t s)
def Vals.take:∀{xs:List V}{us:List Value}(n:Nat),Vals xs us->Vals (xs.take n) (us.take n)
 | _,_,0,_=>.nil
 | _,_,_+1,.nil=>.nil
 | _,_,n+1,.cons r t=>.cons r (Vals.take n t)
def Vals.drop:∀{xs:List V}{us:List Value}(n:Nat),Vals xs us->Vals (xs.drop n) (us.drop n)
 | _,_,0,r=>r
 | _,_,_+1,.nil=>.nil
 | _,_,n+1,.cons _ t=>Vals.drop n t
def RelO:Option V->Option Value->Prop
 | some v,some u=>RelV v u
 | none,none=>True
 | _,_=>False
def KV{κ:Type}:List (κ×V)->List (κ×Value)->Prop:=Paired fun(p:κ×V)(q:κ×Value)=>p.1=q.1/\RelV p.2 q.2
def kV:Key->V
 | .inl i=>.int i
 | .inr x=>.str x
inductive HO where
 | lst (xs:List V)
 | tup (xs:List V)
 | dK (NS:List (Key×V)) | dT (NS:List (List Key×V))
 | set (S:Int->Bool) (n:Nat)
 | ins (C dx:Addr) (fs:List (Str×V))
 | own (x:Addr)
 | xd (fs:List (Str×V))
 | met (f x:Addr)
 | rng (lo hi:Int)
 | frz (o:Obj) (u:HO)
 | tbl (ps:Array Value)
 | ext (φ:Heap->Prop)
abbrev Hp:=Addr->Option HO
def upd(H:Hp)(a:Addr)(o:HO):Hp:=λb=>if b=a then some o else H b
def aJ:upd H a o a=some o:=by unfold upd;rw[NQ rfl]
def aB{a b:Addr}(h:b≠a):upd H a o b=H b:=by unfold upd;rw[NP h]
def bp{H:Hp}{a b:Addr}{o u:HO}(h:H a=some o)(h':H b=some u)(d:o≠u):a≠b:=by
 intro e;subst e;rw[h]at h';exact d (zT0 h')
def aQ{H:Hp}{a b:Addr}{o:HO}(h:H a=some o)(h':H b=none):a≠b:=by
 intro e;subst e;rw[h]at h';cases h'
section
variable (P:Program) (w:World)
def ObjOk(H:Hp)(h:Heap)(a:Addr):HO->Prop
 | .lst xs=>xs.length<=sizeLine/\∃(its:List Value) (n:Nat),Vals xs its/\h.get? a=some { cls:=.type "list",data:=.seq its.toArray n }
 | .tup xs=>xs.length<=sizeLine/\∃its:List Value,Vals xs its/\IsTup h a its.toArray/\∃o,h.get? a=some o/\o.dict=none
 | .dK NS=>NS.length<=sizeLine/\(a==sysModules)=false/\∃vs,KV NS vs/\h.DictOf (dG P w) a vs
 | .dT NS=>NS.length<=sizeLine/\(a==sysModules)=false/\∃xs:List (List Key×Addr×Value),
  Paired (fun(p:List Key×V)(q:List Key×Addr×Value)=>p.1=q.1/\H q.2.1=some (.tup (p.1.map kV))/\RelV p.2 q.2.2) NS xs/\
  ∃o es ep,h.get? a=some o/\o.ExactDict/\o.data=.dict es ep/\es.toList=xs.map (entryOfKey (tupleKind (dG P w)))/\(xs.map (·.1)).Nodup
 | .set S n=>h.SetOf (intKind P w) a S n
 | .ins C dx fs=>H dx=some (.own a)/\fs.length<=1000/\dx≠a/\h.get? a=some (PySem.W.instObj C dx)/\
  ∃mA,h.Ns1 dx mA/\(∀f,RelO (fs.lookup f) (mA f))/\PySem.Within mA (fs.map (·.1))
 | .own _=>∃o,h.get? a=some o
 | .xd fs=>∃mA,h.Ns1 a mA/\∀f,RelO (fs.lookup f) (mA f)
 | .rng lo hi=>∃t u v,h.get? a=some { cls:=.type "range",data:=.fields #[.int lo t,.int hi u,.int 1 v] }
 | .frz o u=>h.get? a=some o/\ObjOk H h a u
 | .tbl ps=>h.get? a=some { cls:=.none,data:=.fields ps }
 | .met f x=>h.get? a=some (PySem.W.methodObj (.ref f) (.ref x))
 | .ext φ=>φ h/\(∃o,h.get? a=some o)/\∀h1 h2:Heap,φ h1->(∀o,h1.get? a=some o->h2.get? a=some o)->φ h2
def HOk(H:Hp)(h:Heap):Prop:=∀a o,H a=some o->ObjOk P w H h a o
end
section
variable {P:Program} {w:World} {H H':Hp} {h h':Heap} {a:Addr} {o:HO}
def ObjOk.lt(x:ObjOk P w H h a o):a<h.objs.size:=by
 cases o with
 | lst xs=>erw[_,_,_,_,e]at x;exact zN0 e
 | tup xs=>erw[_,_,_,p,_]at x;exact p.lt
 | dK NS=>erw[_,_,_,_,o,_,_,e,_]at x;exact zN0 e
 | dT NS=>erw[_,_,_,_,o,_,_,e,_]at x;exact zN0 e
 | set S n=>erw[o,_,_,_,e,_]at x;exact zN0 e
 | ins C dx fs=>erw[_,_,_,e,_]at x;exact zN0 e
 | own y=>erw[_,e]at x;exact zN0 e
 | xd fs=>erw[_,%[_,_,_,e|_],_]at x;exact zN0 e
 | rng lo hi=>erw[_,_,_,e]at x;exact zN0 e
 | frz ob u=>erw[e,_]at x;exact zN0 e
 | tbl ps=>exact zN0 (show h.get? a=some _ from x)
 | met f y=>exact zN0 (show h.get? a=some _ from x)
 | ext φ=>erw[_,%[_|e],_]at x;exact zN0 e
def Paired.mapP{α β:Type}{F G:α->β->Prop}:∀{l₁:List α}{l₂:List β},Paired F l₁ l₂->(∀a b,F a b->G a b)->Paired G l₁ l₂
 | _,_,.nil,_=>.nil
 | _,_,.cons r t,f=>.cons (f _ _ r) (Paired.mapP t f)
def ObjOk.stay(x:ObjOk P w H h a o)(k:∀b u,(b=a∨H b=some (.own a))->h.get? b=some u->h'.get? b=some u)
 (ho:∀b,H b=some (.own a)->H' b=some (.own a)) (ht:∀b xs,H b=some (.tup xs)->H' b=some (.tup xs)):ObjOk P w H' h' a o:=by
 induction o with
 | lst xs=>erw[z,its,n,r,e]at x;erw[z,its,n,r,k _ _ (.inl rfl) e]
 | tup xs=>erw[z,its,r,%[ob,e|c],od,e2,d]at x;erw[z,its,r,%[ob,k _ _ (.inl rfl) e|c],od,k _ _ (.inl rfl) e2,d]
 | dK NS=>erw[z,y,vs,r,ob,es,ep,e,c]at x;erw[z,y,vs,r,ob,es,ep,k _ _ (.inl rfl) e,c]
 | dT NS=>
   erw[z,y,xs,r,ob,es,ep,e,c]at x;erw[z,y,xs,Paired.mapP r λp q z=>%[z.1,ht _ _ z.2.1|z.2.2],ob,es,ep,k _ _ (.inl rfl) e,c]
 | set S n=>erw[ob,es,ep,t,e,c]at x;erw[ob,es,ep,t,k _ _ (.inl rfl) e,c]
 | ins C dx fs=>
   erw[d,z,ne,e,mA,%[od,es,ep,e2|c],r]at x;erw[ho _ d,z,ne,k _ _ (.inl rfl) e,mA,%[od,es,ep,k _ _ (.inr d) e2|c],r]
 | own y=>erw[ob,e]at x;erw[ob,k _ _ (.inl rfl) e]
 | xd fs=>erw[mA,%[od,es,ep,e|c],r]at x;erw[mA,%[od,es,ep,k _ _ (.inl rfl) e|c],r]
 | rng lo hi=>erw[t,u,v,e]at x;erw[t,u,v,k _ _ (.inl rfl) e]
 | frz ob u ih=>erw[e,q]at x;erw[k _ _ (.inl rfl) e,ih q]
 | tbl ps=>
   let e:h.get? a=some { cls:=.none,data:=.fields ps }:=x;show h'.get? a=some { cls:=.none,data:=.fields ps };exact k a _ (.inl rfl) e
 | met f y=>
   let e:h.get? a=some (PySem.W.methodObj (.ref f) (.ref y)):=x;show h'.get? a=some (PySem.W.methodObj (.ref f) (.ref y));exact k a _ (.inl rfl) e
 | ext φ=>erw[p,%[o|e],st]at x;erw[st _ _ p λo q=>k _ _ (.inl rfl) q,%[o|k _ _ (.inl rfl) e],st]
def HOk.lt(x:HOk P w H h)(e:H a=some o):a<h.objs.size:=(x a o e).lt
def HOk.fresh(x:HOk P w H h)(e:h.objs.size<=a):H a=none:=by
 cases q:H a with
 | none=>rfl
 | some u=>exact absurd (qN0 (x.lt q) e) (qV0 _)
def HOk.kept(x:HOk P w H h)(k:∀b u,h.get? b=some u->h'.get? b=some u):HOk P w H h':=λa o e=>
 (x a o e).stay (λb u _ q=>k b u q) (λ_ q=>q) λ_ _ q=>q
def HOk.laid(x:HOk P w H h)(k:∀b u,h.get? b=some u->h'.get? b=some u)(hp:h.objs.size<=a)(new:ObjOk P w (upd H a o) h' a o):HOk P w (upd H a o) h':=λb u e=>by
 let hn:=x.fresh hp
 by_cases hb:b=a
 . subst hb;rw[aJ]at e;cases e;exact new
 . rw[aB hb]at e;exact(x b u e).stay (λc v _ q=>k c v q) (λc q=>by rw[aB (aQ q hn)];exact q) λc xs q=>by rw[aB (aQ q hn)];exact q
end
def Rd(H:Hp)(a:Addr)(u:HO):Prop:=H a=some u∨∃o,H a=some (.frz o u)
def Rd.ok{P:Program}{w:World}{h:Heap}(r:Rd H a u)(x:HOk P w H h):ObjOk P w H h a u:=by
 rcases r with r | ⟨o,r⟩
 . exact x a u r
 . let%[_|q]:=x a _ r;exact q
def Mut:Option HO->Prop
 | some (.lst _)=>True
 | some (.dK _)=>True
 | some (.dT _)=>True
 | some (.set _ _)=>True
 | some (.ins _ _ _)=>True
 | some (.ext _)=>True
 | _=>False
section
variable {P:Program} {w:World} {H:Hp} {h h':Heap} {x e:Addr} {o':HO}
def HOk.write(ok:HOk P w H h)(mu:Mut (H x))(he:e=x∨H e=some (.own x))(k:∀b u,b≠e->h.get? b=some u->h'.get? b=some u)(heo:∃u,h'.get? e=some u)
 (new:ObjOk P w (upd H x o') h' x o'):HOk P w (upd H x o') h':=λb u q=>by
 let nown:∀c y,H c=some (.own y)->c≠x:=λc y r z=>by subst z;rw[r]at mu;exact mu
 let ntup:∀c xs,H c=some (.tup xs)->c≠x:=λc xs r z=>by subst z;rw[r]at mu;exact mu
 by_cases hb:b=x
 . subst hb;rw[aJ]at q;cases q;exact new
 . rw [aB hb]at q
   by_cases hbe:b=e
   . let q':H b=some (.own x):=by
      rcases he with z | z
      . exact absurd (hbe.trans z) hb
      . rw[hbe];exact z
     rw[q]at q';cases q';erw[v,hv]at heo;erw[v,by rw[hbe];exact hv]
   . refine (ok b u q).stay (λc v hc r=>k c v ?_ r) (λc r=>by rw[aB (nown c b r)];exact r) λc xs r=>by rw[aB (ntup c xs r)];exact r
     rcases hc with rfl | hc
     . exact hbe
     . rintro rfl;rcases he with z | z
       . exact nown c b hc z
       . rw[hc]at z;cases z;exact hb rfl
end
structure Un(fs ex:List Addr)(H H':Hp)(h h':Heap):Prop where
 keep:∀b o,h.get? b=some o->H b=none->b∉fs->b∉ex->h'.get? b=some o
 slot:∀b o,h.get? b=some o->H b=none->b∈fs->b∉ex->∃sl,h'.get? b=some { o with slots:=sl }
 free:∀b o,h.get? b=some o->H b=none->b∉ex->H' b=none
 there:∀b o,h.get? b=some o->b∉ex->∃o',h'.get? b=some o'
 tups:∀b xs,H b=some (.tup xs)->H' b=some (.tup xs)
 frzs:∀b o u,H b=some (.frz o u)->H' b=some (.frz o u)
 tbls:∀b ps,H b=some (.tbl ps)->∃more,H' b=some (.tbl (ps++more))
section
variable {fs fs' ex ex':List Addr} {H H1 H2:Hp} {h h1 h2 h':Heap} {a x e:Addr} {o:HO}
def Un.any(u:Un fs ex H H1 h h1){b:Addr}{ob:Obj}(q:h.get? b=some ob)(n:H b=none)(hx:b∉ex):∃sl,h1.get? b=some { ob with slots:=sl }:=by
 by_cases hb:b∈fs
 . exact u.slot b ob q n hb hx
 . erw[ob.slots,u.keep b ob q n hb hx]
def Un.kept(k:∀b u,h.get? b=some u->h'.get? b=some u):Un fs ex H H h h':=
 %[λb ob q _ _ _=>k b ob q,λb ob q _ _ _=>%[ob.slots|k b ob q],λ_ _ _ n _=>n,λb ob q _=>%[ob|k b ob q],λ_ _ q=>q,λ_ _ _ q=>q|λ_ ps q=>%[#[]|by rw[q];simp]]
def Un.refl:Un fs ex H H h h:=Un.kept λ_ _ q=>q
def Un.laid(k:∀b u,h.get? b=some u->h'.get? b=some u)(hp:h.objs.size<=a)(hn:H a=none):Un fs ex H (upd H a o) h h' where
 keep:=λb u q _ _ _=>k b u q
 slot:=λb u q _ _ _=>%[u.slots|k b u q]
 free:=λb u q n _=>by rw[aB (zV0 (qN0 (zN0 q) hp))];exact n
 there:=λb u q _=>%[u|k b u q]
 tups:=λb xs q=>by rw[aB (aQ q hn)];exact q
 frzs:=λb u xs q=>by rw[aB (aQ q hn)];exact q
 tbls:=λb ps q=>%[#[]|by rw[aB (aQ q hn),q];simp]
def Un.write(mu:Mut (H x))(he:e=x∨H e=some (.own x))(k:∀b u,b≠e->h.get? b=some u->h'.get? b=some u)(heo:∃u,h'.get? e=some u):Un fs ex H (upd H x o) h h':=by
 let hx:∀b,H b=none->b≠x:=λb n z=>by subst z;rw[n]at mu;exact mu
 let hb:∀b,H b=none->b≠e:=λb n z=>by
  subst z;rcases he with r | r
  . exact hx b n r
  . rw[n]at r;cases r
 let hm:∀b u,H b=some u->¬ Mut (some u)->b≠x:=λb u q nm z=>by subst z;rw[q]at mu;exact nm mu
 erw[λb u q n _ _=>k b u (hb b n) q,λb u q n _ _=>%[u.slots|k b u (hb b n) q],λb u q n _=>by rw[aB (hx b n)];exact n,λb u q _=>?_,λb xs q=>by rw[aB (hm b _ q λz=>z)];exact q,λb u xs q=>by rw[aB (hm b _ q λz=>z)];exact q,λb ps q=>%[#[]|by rw[aB (hm b _ q λz=>z),q];simp]]
 by_cases hbe:b=e
 . subst hbe;exact heo
 . erw[u,k b u hbe q]
end
def trk(h:Heap)(H:Hp):List Addr:=(List.range h.objs.size).filter λa=>(H a).isSome
def vz(h:Heap)(H:Hp):Heap:=PySem.W.hideAll h (trk h H)
def BO(h:Heap)(H:Hp):(vz h H).objs.size=h.objs.size:=PySem.W.hideAll_size _ _
def EO{h:Heap}{H:Hp}{b:Addr}{o:Obj}(e:h.get? b=some o)(n:H b=none):(vz h H).get? b=some o:=
 PySem.W.hideAll_get _ e λhm=>by
  let q:(H b).isSome=true:=(List.mem_filter.mp hm).2;rw[n]at q;simp at q
def GV{b:Addr}{o:Obj}(e:(vz h H).get? b=some o):h.get? b=some o/\H b=none:=by
 let e':h.get? b=some o:=PySem.W.of_hideAll (trk h H) e;erw[e',6];cases q:H b with
 | none=>rfl
 | some x=>
   let hm:b∈trk h H:=List.mem_filter.mpr %[List.mem_range.mpr (zN0 e')|by simp [q]];let z:(vz h H).get? b=none:=PySem.W.hideAll_none (trk h H) hm;rw[z]at e;cases e
structure Mod(K:W.Frag)(mg:Str->Option Value)(base:Heap):Prop where
 kin:K.In base
 glob:base.Ns mainGlobals mg
 blt:∃mb,base.Ns builtinsNs mb/\∀x:Str,x≠"__name__" -> mb x=bootBuiltins x
 nolimit:base.NoLimit
structure Cx where
 prog:Program
 w:World
 K:W.Frag
 mg:Str->Option Value
 base:Heap
 A:Around
 N:List Str
 s₀:Shared
 H₀:Hp
 env:Env
 outer:List Env
 stack:List Env
 ex:List Addr
 fn:Str->Bool
 calm:Bool
 pn:List (Addr×Obj)
 xe:Value->Shared->Prop
def frs(l:List Env):List Addr:=l.filterMap (·.frame)
abbrev Cx.fs(X:Cx):List Addr:=frs X.outer
def Vis(sc:Scope)(x:Str):Prop:=sc.names.lookup x=some .local∨sc.names.lookup x=some .cell∨sc.names.lookup x=some .free
def Loc(sc:Scope)(x:Str):Prop:=sc.names.lookup x=some .local∨sc.names.lookup x=some .cell
def Look(env:Env)(h:Heap)(m:Str->Option Value)(x:Str)(u:Value):Prop:=
 (env.kindOf x=some .local/\m x=some u)∨((env.kindOf x=some .cell∨env.kindOf x=some .free)/\∃c,env.cells.lookup x=some c/\h.IsCell c (some u))
structure Cx.Ok(X:Cx):Prop where
 mod:Mod X.K X.mg X.base
 kind:X.env.scope.kind=.function
 glob:X.env.globals=mainGlobals
 blt:X.env.builtins=builtinsNs
 above:X.s₀.heap.objs.size<=X.env.locals
 inj:∀x y c,X.env.cells.lookup x=some c->X.env.cells.lookup y=some c->x=y
 has:∀x,(X.env.kindOf x=some .cell∨X.env.kindOf x=some .free)->∃c,X.env.cells.lookup x=some c
 cab:∀x c,X.fn x=true->X.env.cells.lookup x=some c->X.s₀.heap.objs.size<=c
 hd:X.calm=true->X.A.handled=none
 frames:X.A.frames=some X.stack
 stk:X.stack=X.outer∨(X.stack=X.env::X.outer/\X.env.frame=some X.env.locals)
 exf:∀b∈X.ex,b≠X.env.locals/\∀x c,X.env.cells.lookup x=some c->c≠b
 bs:∀b o,X.base.get? b=some o->X.s₀.heap.get? b=some o/\X.H₀ b=none
 bsz:X.base.objs.size<=X.s₀.heap.objs.size
 noex:∀b o,X.base.get? b=some o->b∉X.ex
 exfs:∀b∈X.ex,b∉X.fs
 funs:X.s₀.heap.FunFrames X.base X.outer
 frf:∀b∈X.fs,X.H₀ b=none
structure Inv(X:Cx)(NO:List (Addr×Obj))(σ:List (Option V))(H:Hp)(s:Shared):Prop where
 ok:X.Ok
 os:s.os=X.s₀.os
 bare:AllBare s.gens
 base:Un X.fs X.ex X.H₀ H X.s₀.heap s.heap
 loc:∃m,s.heap.Ns X.env.locals m/\∀(i:Nat)(x:Str)(v:V),X.N[i]?=some x->σ[i]?=some (some v)->Vis X.env.scope x->∃u,RelV v u/\Look X.env s.heap m x u
 cell:∀x c,X.env.cells.lookup x=some c->∃v,s.heap.IsCell c v
 free:H X.env.locals=none
 freeC:∀x c,X.env.cells.lookup x=some c->H c=none
 pin:∀p∈X.pn++NO,s.heap.get? p.1=some p.2/\H p.1=none/\p.1≠X.env.locals/\p.1∉X.fs/\∀v,p.2.data≠.cell v
 hok:HOk X.prog X.w H s.heap
 len:σ.length=X.N.length
section
variable {X:Cx} {NO:List (Addr×Obj)} {σ:List (Option V)} {H H':Hp} {s:Shared} {h':Heap}
def Cx.Ok.nofr(ok:X.Ok){b:Addr}{o:Obj}(e:X.base.get? b=some o):b∉X.fs:=λhb=>by
 have:=(ok.funs.mem hb).1
 rw[e]at this;cases this
def Inv.bs(I:Inv X NO σ H s):∀b o,X.base.get? b=some o->s.heap.get? b=some o/\H b=none:=λb o e=>
 %[I.base.keep b o (I.ok.bs b o e).1 (I.ok.bs b o e).2 (I.ok.nofr e) (I.ok.noex b o e)|I.base.free b o (I.ok.bs b o e).1 (I.ok.bs b o e).2 (I.ok.noex b o e)]
def Inv.bk(I:Inv X NO σ H s):∀b o,X.base.get? b=some o->s.heap.get? b=some o:=λb o e=>(I.bs b o e).1
def Inv.mod(I:Inv X NO σ H s):Mod X.K X.mg X.base:=I.ok.mod
def Inv.kIn(I:Inv X NO σ H s):X.K.In s.heap:=I.ok.mod.kin.keeps I.bk
def Inv.lt(I:Inv X NO σ H s):X.env.locals<‹s›:=let⟨_,hn,_⟩:=I.loc;hn.lt
def Inv.sz(I:Inv X NO σ H s):X.s₀.heap.objs.size<=‹s›:=zR0 I.ok.above (wN0 I.lt)
def Inv.nofs(I:Inv X NO σ H s){a:Addr}(h:‹s›<=a):a∉X.fs:=λhb=>by
 let%[_,o,ho|_]:=I.ok.funs.mem hb;exact absurd (qN0 (zN0 ho) (zR0 I.sz h)) (qV0 _)
def Inv.cne(I:Inv X NO σ H s):∀x c,X.env.cells.lookup x=some c->c≠X.env.locals:=λx c e z=>by
 let%[v,o,ho|hd]:=I.cell x c e;erw[m,%[o',es,ep,ho',hd'|_],_]at I.loc;rw[z,ho']at ho;cases ho;rw[hd']at hd;cases hd
def Inv.funs(I:Inv X NO σ H s):s.heap.FunFrames X.base X.outer:=by
 let all:∀(l:List Env),(∀b∈frs l,b∈X.fs)->X.s₀.heap.FunFrames X.base l->s.heap.FunFrames X.base l:=by
  intro l
  induction l with
  | nil=>intro _ _;trivial
  | cons env r ih=>
    intro hs hl;erw[hk,%[L,o,hf,hn,ho|hd],hr]at hl;let hL:L∈X.fs:=hs L (by unfold frs;rw[wF1,hf];exact qA0);let%[sl|e]:=I.base.slot L o ho (I.ok.frf L hL) hL λz=>I.ok.exfs L z hL
    erw[hk,%[L,_,hf,hn,e|hd],ih (λb hb=>hs b (by unfold frs;rw[wF1,hf];exact qH0 _ hb)) hr]
 exact all X.outer (λ_ hb=>hb) I.ok.funs
def Inv.stack(I:Inv X NO σ H s):s.heap.FunFrames X.base X.stack:=by
 rcases I.ok.stk with e | ⟨e,hf⟩
 . rw[e];exact I.funs
 . rw[e];erw[m,hn,_]at I.loc;refine .cons (by rw[I.ok.kind];decide) hf hn ?_ I.funs;exact Heap.get?_none_of_le (zR0 I.ok.bsz I.ok.above)
def Inv.stkSub(I:Inv X NO σ H s):∀b∈frs X.stack,b∈X.env.locals::X.fs:=λb hb=>by
 rcases I.ok.stk with e | ⟨e,hf⟩
 . rw[e]at hb;exact qH0 _ hb
 . rw[e]at hb;unfold frs at hb;rw[wF1,hf]at hb;exact hb
def Inv.stkFree(I:Inv X NO σ H s):∀b∈frs X.stack,H b=none:=λb hb=>by
 rcases zW0 (I.stkSub b hb)with e | hb
 . rw[e];exact I.free
 . let%[_,o,ho|_]:=I.ok.funs.mem hb;exact I.base.free b o ho (I.ok.frf b hb) λz=>I.ok.exfs b z hb
def Inv.step{g':Array GenState}{t':Nat}{d':Drawn}{ch:List Addr}(I:Inv X NO σ H s)
 (hch:∀b∈ch,(b∈X.ex∨X.s₀.heap.objs.size<=b)/\b≠X.env.locals/\(∀x c,X.env.cells.lookup x=some c->c≠b)/\∀p∈X.pn++NO,p.1≠b)
 (keep:∀b o,b≠X.env.locals->b∉X.fs->b∉ch->s.heap.get? b=some o->H b=none->h'.get? b=some o)
 (slot:∀b o,b≠X.env.locals->b∈X.fs->b∉ch->s.heap.get? b=some o->H b=none->∃sl,h'.get? b=some { o with slots:=sl }) (free:∀b o,b∉ch->s.heap.get? b=some o->H b=none->H' b=none)
 (there:∀b o,b∉ch->s.heap.get? b=some o->∃o',h'.get? b=some o')
 (tups:∀b xs,H b=some (.tup xs)->H' b=some (.tup xs)) (frzs:∀b o u,H b=some (.frz o u)->H' b=some (.frz o u)) (tbls:∀b ps,H b=some (.tbl ps)->∃more,H' b=some (.tbl (ps++more)))
 (ns:∀m,s.heap.Ns X.env.locals m->h'.Ns X.env.locals m) (hok:HOk X.prog X.w H' h') (hg:AllBare g') :
 Inv X NO σ H' { s with heap:=h',gens:=g',drawn:=d',toks:=t' }:=by
 let neL:∀b o,X.s₀.heap.get? b=some o->b≠X.env.locals:=λb o e=>zV0 (qN0 (zN0 e) I.ok.above)
 let neC:∀b o,X.s₀.heap.get? b=some o->b∉X.ex->b∉ch:=λb o e hx hb=>by
  rcases(hch b hb).1 with z | z
  . exact hx z
  . exact absurd (qN0 (zN0 e) z) (qV0 _)
 let cellK:∀x c,X.env.cells.lookup x=some c->∀v,s.heap.IsCell c v->h'.IsCell c v:=λx c e v ⟨o,ho,hd⟩=>by
  let nch:c∉ch:=λz=>(hch c z).2.2.1 x c e rfl
  by_cases hc:c∈X.fs
  . let%[sl|q]:=slot c o (I.cne x c e) hc nch ho (I.freeC x c e);erw[_,q,hd]
  . erw[o,keep c o (I.cne x c e) hc nch ho (I.freeC x c e),hd]
 erw[I.ok,I.os,hg,%[λb o e n hb hx=>?_,λb o e n hb hx=>?_,λb o e n hx=>?_,λb o e hx=>?_,λb xs e=>tups b xs (I.base.tups b xs e),λb o xs e=>frzs b o xs (I.base.frzs b o xs e)|λb ps e=>?_],6,λx c e=>?_,6,λx c e=>?_,λp hp=>?_,hok,I.len]
 . exact keep b o (neL b o e) hb (neC b o e hx) (I.base.keep b o e n hb hx) (I.base.free b o e n hx)
 . let%[sl|e1]:=I.base.slot b o e n hb hx;let%[sl'|e2]:=slot b _ (neL b o e) hb (neC b o e hx) e1 (I.base.free b o e n hx);erw[sl',e2]
 . let%[o'|e1]:=I.base.there b o e hx;exact free b o' (neC b o e hx) e1 (I.base.free b o e n hx)
 . let%[o'|e1]:=I.base.there b o e hx;exact there b o' (neC b o e hx) e1
 . let%[m1|e1]:=I.base.tbls b ps e;let%[m2|e2]:=tbls b _ e1;erw[m1++m2,by rw[e2,Array.append_assoc]]
 . erw[m,hn,hl]at I.loc;erw[m,ns m hn,λi x v e1 e2 e3=>?_];let%[u,r|l]:=hl i x v e1 e2 e3;erw[u,r,6];rcases l with l | ⟨k,c,e,z⟩
   . exact .inl l
   . exact .inr %[k,c,e|cellK x c e _ z]
 . let%[v|z]:=I.cell x c e;erw[v,cellK x c e v z]
 . erw[m,%[o,_,_,ho|_],_]at I.loc;exact free _ o (λz=>(hch _ z).2.1 rfl) ho I.free
 . let%[v,o,ho|hd]:=I.cell x c e;exact free c o (λz=>(hch c z).2.2.1 x c e rfl) ho (I.freeC x c e)
 . let%[e,n,ne,nf|d]:=I.pin p hp;let nch:p.1∉ch:=λz=>(hch p.1 z).2.2.2 p hp rfl
   erw[keep p.1 p.2 ne nf nch e n,free p.1 p.2 nch e n,ne,nf,d]
def Inv.un{t':Nat}(I:Inv X NO σ H s)(u:Un X.fs [] H H' s.heap h')(hok:HOk X.prog X.w H' h'):Inv X NO σ H' { s with heap:=h',toks:=t' }:=by
 let%[m,%[o,es,ep,ho|r]|_]:=id I.loc;let%[sl|hL]:=u.any ho I.free #[2];exact I.step (g':=s.gens) (d':=s.drawn) (ch:=[]) (λ_ z=>nomatch z) (λb o _ hb _ e n=>u.keep b o e n hb #[2]) (λb o _ hb _ e n=>u.slot b o e n hb #[2]) (λb o _ e n=>u.free b o e n #[2]) (λb o _ e=>u.there b o e #[2]) u.tups u.frzs u.tbls (λm' hm=>by
  erw[o',es',ep',ho',r']at hm;rw[ho]at ho';cases ho';erw[_,es',ep',hL,r']) hok I.bare
def Inv.call{g':Array GenState}{t':Nat}{d':Drawn}{ch:List Addr}(I:Inv X NO σ H s)(u:Un (frs X.stack) ch H H' s.heap h')(hok:HOk X.prog X.w H' h')(hg:AllBare g')
 (hch:∀b∈ch,(b∈X.ex∨X.s₀.heap.objs.size<=b)/\b≠X.env.locals/\(∀x c,X.env.cells.lookup x=some c->c≠b)/\∀p∈X.pn++NO,p.1≠b) :
 Inv X NO σ H' { s with heap:=h',gens:=g',drawn:=d',toks:=t' }:=by
 let%[m,%[o,es,ep,ho|r]|_]:=id I.loc;let%[sl|hL]:=u.any ho I.free λz=>(hch _ z).2.1 rfl
 exact I.step (ch:=ch) hch (λb o hL hb hc e n=>u.keep b o e n (λz=>(zW0 (I.stkSub b z)).elim hL hb) hc) (λb o _ _ hc e n=>u.any e n hc) (λb o hc e n=>u.free b o e n hc) (λb o hc e=>u.there b o e hc) u.tups u.frzs u.tbls (λm' hm=>by
  erw[o',es',ep',ho',r']at hm;rw[ho]at ho';cases ho';erw[_,es',ep',hL,r']) hok hg
def Inv.turned{t':Nat}{it:Addr}(I:Inv X NO σ H s)(k:∀b o,b≠it->s.heap.get? b=some o->h'.get? b=some o)(hn:H it=none)(hL:it≠X.env.locals)
 (h1:it∈X.ex∨X.s₀.heap.objs.size<=it) (h2:∀x c,X.env.cells.lookup x=some c->c≠it) (h3:∀p∈X.pn++NO,p.1≠it):Inv X NO σ H { s with heap:=h',toks:=t' }:=by
 let nit:∀b u,H b=some u->b≠it:=λb u e z=>by rw[z,hn]at e;cases e
 refine I.step (g':=s.gens) (d':=s.drawn) (ch:=[it]) (λb hb=>?_) (λb o _ _ hc e _=>k b o (λz=>hc (by simp [z])) e) (λb o _ _ hc e _=>%[o.slots|k b o (λz=>hc (by simp [z])) e]) (λ_ _ _ _ n=>n)
  (λb o hc e=>%[o|k b o (λz=>hc (by simp [z])) e]) (λ_ _ e=>e) (λ_ _ _ e=>e) (λb ps e=>%[#[]|by rw[e];simp]) (λm hm=>?_) (λb u e=>?_) I.bare
 . let e:b=it:=by simpa using hb
   subst e;erw[h1,hL,h2,h3]
 . erw[o,es,ep,ho,r]at hm;erw[o,es,ep,k _ o (Ne.symm hL) ho,r]
 . refine (I.hok b u e).stay (λc v hc q=>k c v ?_ q) (λ_ q=>q) λ_ _ q=>q
   rcases hc with z | z
   . rw[z];exact nit b u e
   . exact nit c _ z
def Inv.tok(I:Inv X NO σ H s)(t:Nat):Inv X NO σ H { s with toks:=t }:=I.un (h':=s.heap) (t':=t) Un.refl I.hok
def Inv.kept{t':Nat}(I:Inv X NO σ H s)(k:∀b u,s.heap.get? b=some u->h'.get? b=some u):Inv X NO σ H { s with heap:=h',toks:=t' }:=I.un (Un.kept k) (I.hok.kept k)
def Inv.laid{a:Addr}{t':Nat}(I:Inv X NO σ H s)(k:∀b u,s.heap.get? b=some u->h'.get? b=some u)(hp:‹s›<=a)(new:ObjOk X.prog X.w (upd H a o) h' a o) :
 Inv X NO σ (upd H a o) { s with heap:=h',toks:=t' }:=I.un (Un.laid k hp (I.hok.fresh hp)) (I.hok.laid k hp new)
def Inv.write{x e:Addr}{t':Nat}(I:Inv X NO σ H s)(mu:Mut (H x))(he:e=x∨H e=some (.own x))(k:∀b u,b≠e->s.heap.get? b=some u->h'.get? b=some u)(heo:∃u,h'.get? e=some u)
 (new:ObjOk X.prog X.w (upd H x o) h' x o):Inv X NO σ (upd H x o) { s with heap:=h',toks:=t' }:=I.un (Un.write mu he k heo) (I.hok.write mu he k heo new)
def Inv.pins_of{pins':List (Addr×Obj)}(I:Inv X NO σ H s)(h:∀p∈pins',s.heap.get? p.1=some p.2/\H p.1=none/\p.1≠X.env.locals/\p.1∉X.fs/\∀v,p.2.data≠.cell v):Inv X pins' σ H s:=
 %[I.ok,I.os,I.bare,I.base,I.loc,I.cell,I.free,I.freeC,λp hp=>(qD0 hp).elim (λz=>I.pin p (jN0 _ z)) (h p),I.hok|I.len]
def wA{N:List Str}(hN:N.Nodup){i j:Nat}{x:Str}(a:N[i]?=some x)(b:N[j]?=some x):i=j:=by
 let%[h1|e1]:=zY0 a;let%[h2|e2]:=zY0 b;exact(List.getElem_inj hN).mp (e1.trans e2.symm)
def tj{M:Model}{A:Around}{E:Value->Shared->Prop}{i:Nat}{x:Str}{Q:Unit->Shared->Prop}(I:Inv X NO σ H s)(hN:X.N.Nodup)(hi:X.N[i]?=some x)(hx:Loc X.env.scope x)(r:RelV v u)
 (h:∀s',Inv X NO (σ.set i (some v)) H s'->(∃a,Heap.SameBut a s.heap s'.heap/\(a=X.env.locals∨X.env.cells.lookup x=some a))->Q () s') (hf:X.fn x=true∨X.env.scope.names.lookup x=some .local:=by first | exact .inl rfl | exact .inr rfl | assumption):wpAny M A (storeName X.env x u) Q E s:=by
 let%[m,hn|hl]:=id I.loc;let hcls:(X.env.scope.kind==.class||(X.env.scope.kind==.module&&X.env.locals != X.env.globals))=false:=by rw[I.ok.kind];rfl
 let hiσ:i<σ.length:=by rw[I.len];exact(zY0 hi).1
 let cne:=I.cne;let tracked:∀{a:Addr}{h':Heap},(∃o,s.heap.get? a=some o/\H a=none)->Heap.SameBut a s.heap h'->HOk X.prog X.w H h':=fun{a h'} ha hs b ob e=>by
  erw[_,_,hfree]at ha;refine(I.hok b ob e).stay (λc w' hc q=>(hs.2 c ?_).trans q) (λ_ q=>q) λ_ _ q=>q
  rintro rfl;rcases hc with rfl | hc
  . rw[hfree]at e;cases e
  . rw[hfree]at hc;cases hc
 rcases hx with hk | hk
 . refine wpAny_storeName_local hk hn (λh' hn' hs=>?_) hcls;let%[oL,_,_,hoL|_]:=id hn;refine h _ %[I.ok,I.os,I.bare,%[λb o e n hb hx=>?_,λb o e n hb hx=>?_,I.base.free,λb o e hx=>?_,I.base.tups,I.base.frzs|I.base.tbls],%[_,hn'|λj y v' e1 e2 e3=>?_],λy c e=>?_,I.free,I.freeC,λp hp=>?_,tracked %[oL,hoL|I.free] hs|by simpa using I.len] ⟨_,hs,.inl rfl⟩
   . exact(hs.2 b (zV0 (qN0 (zN0 e) I.ok.above))).trans (I.base.keep b o e n hb hx)
   . let%[sl|e1]:=I.base.slot b o e n hb hx;erw[sl,(hs.2 b (zV0 (qN0 (zN0 e) I.ok.above))).trans e1]
   . let%[o'|e1]:=I.base.there b o e hx;erw[o',(hs.2 b (zV0 (qN0 (zN0 e) I.ok.above))).trans e1]
   . by_cases hj:j=i
     . subst hj;rw[hi]at e1;cases e1;rw[List.getElem?_set_self hiσ]at e2;cases e2;erw[u,r,.inl %[hk|by simp]]
     . rw [List.getElem?_set_ne (Ne.symm hj)]at e2;let%[u',r'|q]:=hl j y v' e1 e2 e3;erw[u',r',6];rcases q with⟨k,e⟩ | ⟨k,c,e,z⟩
       . refine .inl %[k|6]
         have:y≠x:=λe=>hj (wA hN e1 (e▸hi))
         simp [this,e]
       . exact .inr %[k,c,e|z.sameBut hs (cne y c e)]
   . let%[w'|z]:=I.cell y c e;erw[w',z.sameBut hs (cne y c e)]
   . let%[e,n,ne,nf|d]:=I.pin p hp;erw[(hs.2 p.1 ne).trans e,n,ne,nf,d]
 . let hfn:X.fn x=true:=by
    rcases hf with z | z
    . exact z
    . rw[z]at hk;cases hk
   let%[c|hc]:=I.ok.has x (.inl hk);let%[w'|z]:=I.cell x c hc;refine wpAny_storeName_cell I.ok.kind hk hc z (λh' hc' hs=>?_);let%[oc,hoc|hocd]:=id z;refine h { s with heap:=h' } ⟨I.ok,I.os,I.bare,⟨λb o e n hb hx=>?_,λb o e n hb hx=>?_,I.base.free,λb o e hx=>?_,I.base.tups,I.base.frzs,I.base.tbls⟩,%[m,hn.sameBut hs (Ne.symm (cne x c hc))|λj y v' e1 e2 e3=>?_],λy c' e=>?_,I.free,I.freeC,λp hp=>?_,tracked %[oc,hoc|I.freeC x c hc] hs,by simpa using I.len⟩ ⟨c,hs,.inr hc⟩
   . exact(hs.2 b (zV0 (qN0 (zN0 e) (I.ok.cab x c hfn hc)))).trans (I.base.keep b o e n hb hx)
   . let%[sl|e1]:=I.base.slot b o e n hb hx;erw[sl,(hs.2 b (zV0 (qN0 (zN0 e) (I.ok.cab x c hfn hc)))).trans e1]
   . let%[o'|e1]:=I.base.there b o e hx;erw[o',(hs.2 b (zV0 (qN0 (zN0 e) (I.ok.cab x c hfn hc)))).trans e1]
   . by_cases hj:j=i
     . subst hj;rw[hi]at e1;cases e1;rw[List.getElem?_set_self hiσ]at e2;cases e2;erw[u,r,.inr %[.inl hk,c,hc|hc']]
     . rw [List.getElem?_set_ne (Ne.symm hj)]at e2;let%[u',r'|q]:=hl j y v' e1 e2 e3;erw[u',r',6];rcases q with q | ⟨k,c',e,z'⟩
       . exact .inl q
       . refine .inr %[k,c',e|z'.sameBut hs ?_];rintro rfl;exact hj (wA hN e1 (I.ok.inj _ _ _ e hc▸hi))
   . by_cases hcc:c'=c
     . subst hcc;erw[_,hc']
     . let%[w2|z2]:=I.cell y c' e;erw[w2,z2.sameBut hs hcc]
   . let%[e,n,ne,nf|d]:=I.pin p hp;erw[(hs.2 p.1 ?_).trans e,n,ne,nf,d];intro q;rw[q,hoc]at e;let q':oc=p.2:=zT0 e;exact d w' (by rw[←q'];exact hocd)
def qy{M:Model}{A:Around}{E:Value->Shared->Prop}{i:Nat}{x:Str}{Q:Unit->Shared->Prop}(I:Inv X NO σ H s)(hN:X.N.Nodup)(hi:X.N[i]?=some x)(hx:Loc X.env.scope x)(r:RelV v u)
 (h:∀s',Inv X NO (σ.set i (some v)) H s'->Q () s') (hf:X.fn x=true∨X.env.scope.names.lookup x=some .local:=by first | exact .inl rfl | exact .inr rfl | assumption):wpAny M A (storeName X.env x u) Q E s:=
 tj I hN hi hx r (λs' I' _=>h s' I') hf
def Inv.call'{s':Shared}{ch:List Addr}(I:Inv X NO σ H s)(ho:s'.os=s.os)(u:Un (frs X.stack) ch H H' s.heap s'.heap)(hok:HOk X.prog X.w H' s'.heap)(hg:AllBare s'.gens)
 (hch:∀b∈ch,(b∈X.ex∨X.s₀.heap.objs.size<=b)/\b≠X.env.locals/\(∀x c,X.env.cells.lookup x=some c->c≠b)/\∀p∈X.pn++NO,p.1≠b):Inv X NO σ H' s':=by
 erw[h',g',d',t',o']at s';let e:o'=s.os:=ho;subst e;exact I.call (g':=g') (t':=t') (d':=d') u hok hg hch
end
abbrev XK:=Value->Option Addr->Hp->Prop
abbrev St:=List (Option V)
abbrev VK:=V->Hp->Prop
abbrev TE:=St->Hp->VK->Prop
abbrev TT:=St->Hp->(Bool->Hp->Prop)->Prop
abbrev TA:=St->Hp->(List V->Hp->Prop)->Prop
structure Ends where
 nx:St->Hp->Prop
 rt:VK
 bk:St->Hp->Prop:=λ_ _=>False
 ct:St->Hp->Prop:=λ_ _=>False
abbrev TS:=Ends->St->Hp->Prop
def EP(X:Cx)(NO:List (Addr×Obj))(σ:St)(Q:VK)(u:Value)(s':Shared):Prop:=∃v H',Inv X NO σ H' s'/\RelV v u/\Q v H'
def TP(X:Cx)(NO:List (Addr×Obj))(σ:St)(Q:Bool->Hp->Prop)(b:Bool)(s':Shared):Prop:=∃H',Inv X NO σ H' s'/\Q b H'
def AP(X:Cx)(NO:List (Addr×Obj))(σ:St)(Q:List V->Hp->Prop)(us:List Value)(s':Shared):Prop:=∃vs H',Inv X NO σ H' s'/\Vals vs us/\Q vs H'
def SP(X:Cx)(NO:List (Addr×Obj))(D:Ends)(f:Flow)(s':Shared):Prop:=
 match f with
 | .next=>∃ σ' H',Inv X NO σ' H' s'/\D.nx σ' H'
 | .brk=>∃ σ' H',Inv X NO σ' H' s'/\D.bk σ' H'
 | .cont=>∃ σ' H',Inv X NO σ' H' s'/\D.ct σ' H'
 | .ret u=>∃v σ' H',Inv X NO σ' H' s'/\RelV v u/\D.rt v H'
def PE(X:Cx)(e:Expr)(t:TE):Prop:=
 ∀(NO:List (Addr×Obj))(s:Shared)(σ:St)(H:Hp)(Q:VK),Inv X NO σ H s->t σ H Q->wpAny (model X.prog X.w) X.A (eval e X.env) (EP X NO σ Q) X.xe s
def PT(X:Cx)(e:Expr)(t:TT):Prop:=
 ∀(NO:List (Addr×Obj))(s:Shared)(σ:St)(H:Hp)(Q:Bool->Hp->Prop),Inv X NO σ H s->t σ H Q->wpAny (model X.prog X.w) X.A (isTrue e X.env (eval e X.env)) (TP X NO σ Q) X.xe s
def PW(X:Cx)(e:Expr)(t:TT):Prop:=
 ∀(whole:Sem Value)(NO:List (Addr×Obj))(s:Shared)(σ:St)(H:Hp)(Q:Bool->Hp->Prop),Inv X NO σ H s->t σ H Q->wpAny (model X.prog X.w) X.A (isTrue e X.env whole) (TP X NO σ Q) X.xe s
def PW.pt(h:PW X e t):PT X e t:=h _
def PA(X:Cx)(es:List Expr)(t:TA):Prop:=
 ∀(pos:Pos)(NO:List (Addr×Obj))(s:Shared)(σ:St)(H:Hp)(Q:List V->Hp->Prop),Inv X NO σ H s->t σ H Q->wpAny (model X.prog X.w) X.A (spliced (backTo pos (starEach es X.env))) (AP X NO σ Q) X.xe s
def PS(X:Cx)(st:Stmt)(t:TS):Prop:=
 ∀(NO:List (Addr×Obj))(s:Shared)(σ:St)(H:Hp)(D:Ends),Inv X NO σ H s->t D σ H->wpAny (model X.prog X.w) X.A (exec st X.env) (SP X NO D) X.xe s
def PSs(X:Cx)(st:List Stmt)(t:TS):Prop:=
 ∀(NO:List (Addr×Obj))(s:Shared)(σ:St)(H:Hp)(D:Ends),Inv X NO σ H s->t D σ H->wpAny (model X.prog X.w) X.A (execs st X.env) (SP X NO D) X.xe s
def thn{α:Type}{t:Sem α}{Q Q':α->Shared->Prop}{M:Model}{A:Around}{E:Value->Shared->Prop}{s:Shared}(h:wpAny M A t Q E s)(hQ:∀a s,Q a s->Q' a s):wpAny M A t Q' E s:=wR1 h hQ λ_ _ x=>x
section
variable {X:Cx}
instance tVar(i:Nat)(σ:St)(H:Hp)(Q:VK):∀v,σ[i]?=some (some v)->Q v H:=0
def tC(v:V):TE:=λ_ H Q=>Q v H
def IT {i:Nat} {x:Str} {pos:Pos} (hN:X.N[i]?=some x) (hv:Vis X.env.scope x) (hd:(x==("__debug__":Str))=false:=by decide) (hcd:(x==("__classdict__":Str))=false:=by decide):PE X (.Name x pos) (tVar i):=by
 intro NO s σ H Q I h;erw[v,e,h]at h;erw[m,hn,hl]at I.loc;let%[u,r|l]:=hl i x v hN e hv;let fin:EP X NO σ Q u s:=%[v,H,I,r|h]
 rcases l with⟨hk,hm⟩ | ⟨hk,c,hc,hcell⟩
 . exact wpAny_Name (wpAny_loadName_local I.ok.kind hk hn hm fin) hd
 . rcases hk with hk | hk
   . exact wpAny_Name (wpAny_loadName_cell I.ok.kind hk hc hcell fin) hd
   . exact wpAny_Name (wpAny_loadName_free I.ok.kind hk hc hcell fin hcd) hd
def ae{i j pos}:PE X (.Constant (.int i) j pos) (tC (.int i)):=λ_ _ _ H _ I h=>wpAny_Constant_int %[.int i,H,I.tok _,%[|0]|h]
def iF{b j pos}:PE X (.Constant (.bool b) j pos) (tC (.bl b)):=λ_ _ _ H _ I h=>Constant_bool %[.bl b,H,I,1|h]
def ky{j pos}:PE X (.Constant .none j pos) (tC .non):=λ_ _ _ H _ I h=>Constant_none %[.non,H,I,1|h]
def ao{x j pos}:PE X (.Constant (.str x) j pos) (tC (.str x)):=λ_ _ _ H _ I h=>Calls.Constant_str %[.str x,H,I.tok _,%[|0]|h]
def Gl(X:Cx)(x:Str):Prop:=X.env.kindOf x=some .globalImplicit
def qe{E:Value->Shared->Prop}{σ:St}{u:Value}{pos:Pos}{Q:Value->Shared->Prop}(I:Inv X NO σ H s)(hg:Gl X x)(hm:X.mg x=some u)(h:Q u s)
 (hd:(x==("__debug__":Str))=false:=by decide):wpAny (model X.prog X.w) X.A (eval (.Name x pos) X.env) Q E s:=
 Calls.Name_function_global I.ok.kind hg (Calls.loadGlobal_global (by rw[I.ok.glob];exact I.mod.glob.keeps I.bk) hm h) hd
def ir{E:Value->Shared->Prop}{σ:St}{u:Value}{pos:Pos}{Q:Value->Shared->Prop}(I:Inv X NO σ H s)(hg:Gl X x)(hm:X.mg x=none)(hv:bootBuiltins x=some u)(h:Q u s)
 (hn:x≠"__name__":=by decide) (hd:(x==("__debug__":Str))=false:=by decide):wpAny (model X.prog X.w) X.A (eval (.Name x pos) X.env) Q E s:=by
 erw[mb,h1,h2]at I.mod.blt;exact Calls.Name_function_global I.ok.kind hg (Calls.loadGlobal_builtin (by rw[I.ok.glob];exact I.mod.glob.keeps I.bk) hm (by rw[I.ok.blt];exact h1.keeps I.bk) ((h2 x hn).trans hv) h) hd
def cX   {u:Value} {pos:Pos} (hg:Gl X x) (hm:X.mg x=some u) (r:RelV v u) (hd:(x==("__debug__":Str))=false:=by decide):PE X (.Name x pos) (tC v):=
 λ_ _ _ H _ I h=>qe I hg hm %[v,H,I,r|h] hd
def zN   {u:Value} {pos:Pos} (hg:Gl X x) (hm:X.mg x=none) (hv:bootBuiltins x=some u) (r:RelV v u) (hn:x≠"__name__":=by decide) (hd:(x==("__debug__":Str))=false:=by decide):PE X (.Name x pos) (tC v):=
 λ_ _ _ H _ I h=>ir I hg hm hv %[v,H,I,r|h] hn hd
variable {a b:Expr} {ta tb:TE} {pos:Pos}
instance ZtB(Q:(Bool->Hp->Prop))(x:V)(H1:Hp):∀c,x=.bl c->Q c H1:=0
def tB(t:TE):TT:=λσ H Q=>t σ H λx H1=>ZtB Q x H1
def eY(h:PE X e t)(he:∀whole,isTrue e X.env whole=(do let v ←whole;standAt e.pos;holding [v] (truthy v)):=by intro _;rfl):PT X e (tB t):=by
 intro NO s σ H Q I hw;refine isTrue_plain (thn (h NO s σ H _ I hw) λv s1 ⟨x,H1,I1,r1,q1⟩=>?_) (he _);erw[d,1,q]at q1;cases r1;exact zV1 %[H1,I1|q]
variable {tA tB':TT} {rest:List Expr}
def tAnd(t u:TT):TT:=λσ H Q=>t σ H λc H1=>if c=true then u σ H1 Q else Q false H1
def tOr(t u:TT):TT:=λσ H Q=>t σ H λc H1=>if c=true then Q true H1 else u σ H1 Q
def tNot(t:TT):TT:=λσ H Q=>t σ H λc H1=>Q (!c) H1
def jB(ha:PT X a tA):PW X (.BoolOp .And [a] pos) tA:=by
 intro wh NO s σ H Q I h;refine isTrue_and (thn (ha NO s σ H Q I h) λc s1 e=>?_);cases c with
 | true=>exact isTrue_and_nil e
 | false=>exact e
def gP(ha:PT X a tA):PW X (.BoolOp .Or [a] pos) tA:=by
 intro wh NO s σ H Q I h;refine isTrue_or (thn (ha NO s σ H Q I h) λc s1 e=>?_);cases c with
 | false=>exact isTrue_or_nil e
 | true=>exact e
def kx(ha:PT X a tA)(hb:PW X (.BoolOp .And (b::rest) pos) tB'):PW X (.BoolOp .And (a::b::rest) pos) (tAnd tA tB'):=by
 intro wh NO s σ H Q I h;refine isTrue_and (thn (ha NO s σ H _ I h) λc s1 ⟨H1,I1,q1⟩=>?_);cases c with
 | true=>exact hb wh NO s1 σ H1 Q I1 q1
 | false=>erw[H1,I1,q1]
def ii(ha:PT X a tA)(hb:PW X (.BoolOp .Or (b::rest) pos) tB'):PW X (.BoolOp .Or (a::b::rest) pos) (tOr tA tB'):=by
 intro wh NO s σ H Q I h;refine isTrue_or (thn (ha NO s σ H _ I h) λc s1 ⟨H1,I1,q1⟩=>?_);cases c with
 | true=>erw[H1,I1,q1]
 | false=>exact hb wh NO s1 σ H1 Q I1 q1
def jC(ha:PT X a tA):PT X (.UnaryOp .Not a pos) (tNot tA):=by
 intro NO s σ H Q I h;exact isTrue_not (ha NO s σ H (λc H1=>Q (!c) H1) I h)
instance ZtAndV(tb:TE)(σ:St)(Q:VK)(x:V)(H1:Hp):∀c,x=.bl c->(if c=true then tb σ H1 Q else Q (.bl false) H1):=0
def tAndV(ta tb:TE):TE:=λσ H Q=>ta σ H λx H1=>ZtAndV tb σ Q x H1
instance ZtOrV(tb:TE)(σ:St)(Q:VK)(x:V)(H1:Hp):∀c,x=.bl c->(if c=true then Q (.bl true) H1 else tb σ H1 Q):=0
def tOrV(ta tb:TE):TE:=λσ H Q=>ta σ H λx H1=>ZtOrV tb σ Q x H1
instance ZtNotV(Q:VK)(x:V)(H1:Hp):∀c,x=.bl c->Q (.bl (!c)) H1:=0
def tNotV(ta:TE):TE:=λσ H Q=>ta σ H λx H1=>ZtNotV Q x H1
def yf{op}(h:PE X a t):PE X (.BoolOp op [a] pos) t:=λNO s σ H Q I hw=>BoolOp_one (h NO s σ H Q I hw)
def yh(ha:PE X a ta)(hb:PE X (.BoolOp .And (b::rest) pos) tb):PE X (.BoolOp .And (a::b::rest) pos) (tAndV ta tb):=by
 intro NO s σ H Q I h;refine BoolOp_and (thn (ha NO s σ H _ I h) λv s1 ⟨x,H1,I1,r1,q1⟩=>?_);erw[c,1,q1]at q1;cases r1;refine zV1 ?_;cases c with
 | true=>exact hb NO s1 σ H1 Q I1 q1
 | false=>erw[.bl false,H1,I1,1,q1]
def pe_or(ha:PE X a ta)(hb:PE X (.BoolOp .Or (b::rest) pos) tb):PE X (.BoolOp .Or (a::b::rest) pos) (tOrV ta tb):=by
 intro NO s σ H Q I h;refine BoolOp_or (thn (ha NO s σ H _ I h) λv s1 ⟨x,H1,I1,r1,q1⟩=>?_);erw[c,1,q1]at q1;cases r1;refine zV1 ?_;cases c with
 | false=>exact hb NO s1 σ H1 Q I1 q1
 | true=>erw[.bl true,H1,I1,1,q1]
def DG(ha:PE X a ta):PE X (.UnaryOp .Not a pos) (tNotV ta):=by
 intro NO s σ H Q I h;refine UnaryOp_ (thn (ha NO s σ H _ I h) λv s1 ⟨x,H1,I1,r1,q1⟩=>?_);erw[c,1,q1]at q1;cases r1;exact not_of (zV1 %[.bl (!c),H1,I1,1|q1])
def tIf(t:TT)(ta tb:TE):TE:=λσ H Q=>t σ H λc H1=>if c=true then ta σ H1 Q else tb σ H1 Q
def we(hc:PT X c tA)(ha:PE X a ta)(hb:PE X b tb):PE X (.IfExp c a b pos) (tIf tA ta tb):=by
 intro NO s σ H Q I h;refine wpAny_IfExp (thn (hc NO s σ H _ I h) λd s1 ⟨H1,I1,q1⟩=>?_);cases d with
 | true=>exact ha NO s1 σ H1 Q I1 q1
 | false=>exact hb NO s1 σ H1 Q I1 q1
end
def SqL(K:W.Frag)(H:Hp)(a:Addr)(xs:List V):Prop:=
 Rd H a (.lst xs)∨
  ∃(o:Obj) (its:Array Value) (n:Nat),K.lookup a=some o/\o.cls=.type "list"/\o.dict=none/\o.data=.seq its n/\its.size<=sizeLine/\Vals xs its.toList
def SqT(K:W.Frag)(H:Hp)(a:Addr)(xs:List V):Prop:=
 Rd H a (.tup xs)∨
  ∃(o:Obj) (its:Array Value) (n:Nat),K.lookup a=some o/\o.cls=.type "tuple"/\o.data=.seq its n/\its.size<=sizeLine/\Vals xs its.toList
def absV:Value->Option V
 | .none=>some .non
 | .bool b=>some (.bl b)
 | .int i _=>some (.int i)
 | .str x _=>some (.str x)
 | .bytes b _=>some (.byt b)
 | .float b _=>some (.flt b)
 | .ref a=>some (.ref a)
 | .type n=>some (.ty n)
 | _=>none
def RelV.abs(r:RelV x u):absV u=some x:=by
 cases x with
 | non=>cases r;rfl
 | bl _=>cases r;rfl
 | int _=>erw[t,1]at r;rfl
 | str _=>erw[t,1]at r;rfl
 | byt _=>erw[t,1]at r;rfl
 | flt _=>erw[t,1]at r;rfl
 | ref _=>cases r;rfl
 | ty _=>cases r;rfl
def RelV.inj(r:RelV x u)(q:RelV y u):x=y:=zT0 (r.abs.symm.trans q.abs)
def Vals.inj:∀{xs ys:List V}{us:List Value},Vals xs us->Vals ys us->xs=ys
 | _,_,_,.nil,.nil=>rfl
 | _,_,_,.cons r t,.cons r' t'=>by rw[r.inj r',Vals.inj t t']
section
variable {X:Cx} {NO:List (Addr×Obj)} {σ:St} {H:Hp} {s:Shared} {a:Addr} {xs ys:List V}
def zH0{K:W.Frag}(h:H a=some (.lst xs)):SqL K H a xs:=.inl (.inl h)
abbrev SqL.of:=@zH0
def zD0{K:W.Frag}(h:H a=some (.tup xs)):SqT K H a xs:=.inl (.inl h)
abbrev SqT.of:=@zD0
def Inv.list(I:Inv X NO σ H s)(h:SqL X.K H a xs):∃its:List Value,Vals xs its/\PlainL s.heap a its.toArray/\xs.length<=sizeLine:=by
 rcases h with h | ⟨o,its,n,hk,hc,hd,hs,hz,r⟩
 . let%[z,its,n,r|e]:=h.ok I.hok;erw[its,r,%[_,n,e,1,1|1],z]
 . erw[its.toList,r,%[o,n,I.kIn a o hk,hc,hd|by simpa using hs],6];let e:=r.length;simp only[zY1]at e;omega
def Inv.tuple(I:Inv X NO σ H s)(h:SqT X.K H a xs):∃its:List Value,Vals xs its/\IsTup s.heap a its.toArray/\xs.length<=sizeLine:=by
 rcases h with h | ⟨o,its,n,hk,hc,hs,hz,r⟩
 . let%[z,its,r,p|_]:=h.ok I.hok;erw[its,r,p,z]
 . erw[its.toList,r,%[o,I.kIn a o hk,hc,n|by simpa using hs],6];let e:=r.length;simp only[zY1]at e;omega
def Inv.list_inj(I:Inv X NO σ H s)(h:SqL X.K H a xs)(h':SqL X.K H a ys):xs=ys:=by
 let%[its,r,%[o,n,e,_,_|d]|_]:=I.list h;let%[its',r',%[o',n',e',_,_|d']|_]:=I.list h';rw[e]at e';cases e';rw[d]at d';injection d' with d1 _
 have:its=its':=by simpa using congrArg Array.toList d1
 subst this;exact r.inj r'
def Inv.tuple_inj(I:Inv X NO σ H s)(h:SqT X.K H a xs)(h':SqT X.K H a ys):xs=ys:=by
 let%[its,r,%[o,e,_,n|d]|_]:=I.tuple h;let%[its',r',%[o',e',_,n'|d']|_]:=I.tuple h';rw[e]at e';cases e';rw[d]at d';injection d' with d1 _
 have:its=its':=by simpa using congrArg Array.toList d1
 subst this;exact r.inj r'
end
abbrev Cx.wish(X:Cx)(E:Value->Shared->Prop):Cx:={ X with xe:=E }
abbrev Cx.nox(X:Cx):Cx:=X.wish λ_ _=>False
def Cx.Ok.wish{X:Cx}(ok:X.Ok)(E:Value->Shared->Prop):(X.wish E).Ok:=
 %[ok.mod,ok.kind,ok.glob,ok.blt,ok.above,ok.inj,ok.has,ok.cab,ok.hd,ok.frames,ok.stk,ok.exf,ok.bs,ok.bsz,ok.noex,ok.exfs,ok.funs|ok.frf]
def Cx.Ok.unwish{X:Cx}{E:Value->Shared->Prop}(ok:(X.wish E).Ok):X.Ok:=
 %[ok.mod,ok.kind,ok.glob,ok.blt,ok.above,ok.inj,ok.has,ok.cab,ok.hd,ok.frames,ok.stk,ok.exf,ok.bs,ok.bsz,ok.noex,ok.exfs,ok.funs|ok.frf]
section
variable {X:Cx} {NO:List (Addr×Obj)} {σ:St} {H:Hp} {s:Shared} {E:Value->Shared->Prop}
def Inv.wish(I:Inv X NO σ H s)(E:Value->Shared->Prop):Inv (X.wish E) NO σ H s:=%[I.ok.wish E,I.os,I.bare,I.base,I.loc,I.cell,I.free,I.freeC,I.pin,I.hok|I.len]
def Inv.unwish(I:Inv (X.wish E) NO σ H s):Inv X NO σ H s:=%[I.ok.unwish,I.os,I.bare,I.base,I.loc,I.cell,I.free,I.freeC,I.pin,I.hok|I.len]
def SP.unwish(h:SP (X.wish E) NO D f s'):SP X NO D f s':=by
 cases f with
 | next=>erw[σ',H',I,q]at h;erw[σ',H',I.unwish,q]
 | brk=>erw[σ',H',I,q]at h;erw[σ',H',I.unwish,q]
 | cont=>erw[σ',H',I,q]at h;erw[σ',H',I.unwish,q]
 | ret u=>erw[v,σ',H',I,r,q]at h;erw[v,σ',H',I.unwish,r,q]
def PSs.nox{st:List Stmt}(h:PSs X.nox st t):PSs X st t:=λNO s σ H D I hw=>
 wR1 (h NO s σ H D (I.wish _) hw) (λ_ _ q=>q.unwish) λ_ _ z=>False.elim z
end
section
variable {X:Cx} {st:Stmt} {rest:List Stmt} {t u:TS} {e:Expr} {te:TE} {pos:Pos}
def tNext:TS:=λD σ H=>D.nx σ H
def tSeq(t u:TS):TS:=λD σ H=>t { D with nx:=u D } σ H
def az:PSs X [] tNext:=λ_ _ σ H _ I h=>wG0 %[σ,H,I|h]
def aa(h1:PS X st t)(h2:PSs X rest u):PSs X (st::rest) (tSeq t u):=by
 intro NO s σ H D I h;refine wpAny_execs_cons (thn (h1 NO s σ H { D with nx:=u D } I h) λf s1 q=>?_);cases f with
 | next=>
   erw[σ',H',I',q]at q;exact h2 NO s1 σ' H' D I' q
 | ret v=>exact q
 | brk=>exact q
 | cont=>exact q
def ad(h1:PS X st t):PSs X [st] t:=by
 intro NO s σ H D I h;refine wpAny_execs_cons (thn (h1 NO s σ H D I h) λf s1 q=>?_);cases f with
 | next=>exact wG0 q
 | ret v=>exact q
 | brk=>exact q
 | cont=>exact q
def Inv.quiet{σ:St}(I:Inv X NO σ H s):interactive X.env=false:=by simp [interactive,I.ok.kind]
def tDrop(te:TE):TS:=λD σ H=>te σ H λ_ H1=>D.nx σ H1
def aW(he:PE X e te)(hs:swapsWith e none pos.line X.env=pure false:=by rfl):PS X (.Expr e pos) (tDrop te):=by
 intro NO s σ H D I h;exact wpAny_Expr_any (thn (he NO s σ H _ I h) λv s1 ⟨x,H1,I1,r1,q1⟩=>%[σ,H1,I1|q1]) I.quiet hs
def tRet(te:TE):TS:=λD σ H=>te σ H D.rt
def am(he:PE X e te):PS X (.Return (some e) pos) (tRet te):=by
 intro NO s σ H D I h;exact wpAny_Return_some (thn (he NO s σ H _ I h) λv s1 ⟨x,H1,I1,r1,q1⟩=>%[x,σ,H1,I1,r1|q1])
def tIfS(c:TT)(t u:TS):TS:=λD σ H=>c σ H λb H1=>if b=true then t D σ H1 else u D σ H1
def aI(hc:PT X c tc)(ha:PSs X a t)(hb:PSs X b u):PS X (.If c a b pos) (tIfS tc t u):=by
 intro NO s σ H D I h;refine wpAny_If (thn (hc NO s σ H _ I h) λd s1 ⟨H1,I1,q1⟩=>?_);cases d with
 | true=>exact ha NO s1 σ H1 D I1 q1
 | false=>exact hb NO s1 σ H1 D I1 q1
def IC:TS:=λ_ _ _=>False
def bJ:PSs X sts IC:=λ_ _ _ _ _ _ h=>h.elim
end
abbrev TG:=V->St->Hp->(St->Hp->Prop)->Prop
abbrev TGs:=List V->St->Hp->(St->Hp->Prop)->Prop
def PG(X:Cx)(target:Expr)(t:TG):Prop:=
 ∀(NO:List (Addr×Obj))(s:Shared)(σ:St)(H:Hp)(v:V)(u:Value)(Q:St->Hp->Prop),Inv X NO σ H s->RelV v u->t v σ H Q ->
  wpAny (model X.prog X.w) X.A (assign target X.env u) (λ_ s'=>∃ σ' H',Inv X NO σ' H' s'/\Q σ' H') X.xe s
def PGs(X:Cx)(ts:List Expr)(t:TGs):Prop:=
 ∀(NO:List (Addr×Obj))(s:Shared)(σ:St)(H:Hp)(vs:List V)(us:List Value)(Q:St->Hp->Prop),Inv X NO σ H s->Vals vs us->t vs σ H Q ->
  wpAny (model X.prog X.w) X.A (assignInOrder ((assignEach ts X.env).map (·.2)) us) (λ_ s'=>∃ σ' H',Inv X NO σ' H' s'/\Q σ' H') X.xe s
abbrev JS:=V->V->V->Hp->(Hp->Prop)->Prop
def PSet(X:Cx)(t:JS):Prop:=
 ∀(NO:List (Addr×Obj))(s:Shared)(σ:St)(H:Hp)(o i v:V)(ov iv u:Value)(Q:Hp->Prop),Inv X NO σ H s->RelV o ov->RelV i iv->RelV v u->t o i v H Q ->
  wpAny (model X.prog X.w) X.A (setItem ov iv u) (λ_ s'=>∃H',Inv X NO σ H' s'/\Q H') X.xe s
section
variable {X:Cx} {pos:Pos}
def wQ(i:Nat):TG:=λv σ H Q=>Q (σ.set i (some v)) H
def bc{i:Nat}{x:Str}(hN:X.N.Nodup)(hi:X.N[i]?=some x)(hx:Loc X.env.scope x)(hf:X.fn x=true∨X.env.scope.names.lookup x=some .local:=by first | exact .inl rfl | exact .inr rfl | assumption):PG X (.Name x pos) (wQ i):=by
 intro NO s σ H v u Q I r h;exact wS0 (qy I hN hi hx r (λs' I'=>%[_,H,I'|h]) hf)
instance gNil(vs:List V)(σ:St)(H:Hp)(Q:(St->Hp->Prop)):vs=[]->Q σ H:=0
instance gCons(t:TG)(u:TGs)(vs:List V)(σ:St)(H:Hp)(Q:(St->Hp->Prop)):∀v r,vs=v::r->(t v σ H λσ' H'=>u r σ' H' Q):=0
def mL:PGs X [] gNil:=by
 intro NO s σ H vs us Q I r h;erw[e,h]at h;subst e;cases r;exact assignInOrder_nil %[σ,H,I|h]
def eg(h1:PG X e t)(h2:PGs X es u)
 (hs:(assignEach (e::es) X.env).map (·.2)=assign e X.env::(assignEach es X.env).map (·.2):=by rfl):PGs X (e::es) (gCons t u):=by
 intro NO s σ H vs us Q I r h;erw[v,vr,e1,h]at h;subst e1;cases r with
 | cons r rr=>
   rw[hs];refine assignInOrder_cons (thn (h1 NO s σ H _ _ _ I r h) λ_ s1 ⟨σ1,H1,I1,q1⟩=>?_);exact h2 NO s1 σ1 H1 _ _ Q I1 rr q1
instance gTup(K:W.Frag)(n:Nat)(t:TGs)(v:V)(σ:St)(H:Hp)(Q:(St->Hp->Prop)):∀a xs,v=.ref a->SqT K H a xs->xs.length=n->t xs σ H Q:=0
def rC{k:Nat}{n:Nat}(hc:X.calm=true)(h:PGs X es t)
 (hn:(assignEach es X.env).length=n:=by rfl) (NV:(assignEach es X.env).findIdx? (·.1)=none:=by rfl):PG X (.Tuple es k pos) (gTup X.K n t):=by
 intro NO s σ H v u Q I r hw;erw[a,xs,e1,hq,hl,hw]at hw;subst e1;cases r;let%[its,rv,ht|hz]:=I.tuple hq;refine assign_Tuple_tuple (I.ok.hd hc) ht (by simp [hn,←hl,rv.length]) NV λh' hx=>?_
 let I1:Inv X NO σ H { s with heap:=h' }:=I.kept (t':=s.toks) λb o e=>hx b o (zV0 (zN0 e)) e
 exact h NO _ σ H xs _ Q I1 (by simpa using rv) hw
def gSub(to ti:TE)(t:JS):TG:=λv σ H Q=>to σ H λo H1=>ti σ H1 λi H2=>t o i v H2 λH3=>Q σ H3
def ye(ho:PE X o to)(hi:PE X i ti)(hs:PSet X t)
 (ha:∀v,assign (.Subscript o i pos) X.env v=(do
  let ov ←holding [v] (eval o X.env)
  let iv ←holding [v,ov] (eval i X.env)
  standAt pos
  holding [v,ov,iv] (setItem ov iv v)
  release [v,ov,iv] []):=by intro _;rfl):PG X (.Subscript o i pos) (gSub to ti t):=by
 intro NO s σ H v u Q I r h;rw[ha];refine zE0 (jM0 (thn (ho NO s σ H _ I h) λov s1 ⟨x,H1,I1,r1,q1⟩=>?_));refine zE0 (jM0 (thn (hi NO s1 σ H1 _ I1 q1) λiv s2 ⟨y,H2,I2,r2,q2⟩=>?_));refine zE0 (wpAny_standAt (zE0 (jM0 (thn (hs NO s2 σ H2 x y v ov iv u _ I2 r1 r2 r q2) λ_ s3 ⟨H3,I3,q3⟩=>?_))));exact wpAny_release %[σ,H3,I3|q3]
def IG(te:TE)(g:TG):TS:=λD σ H=>te σ H λx H1=>g x σ H1 D.nx
def rc(he:PE X e te)(hg:PG X tg g)(hs:swapsWithSole [tg] e pos.line X.env=pure false:=by rfl)(hw:swappedStores [tg] e X.env=pure none:=by rfl)
 (h1:(assignEach [tg] X.env).map (·.2)=[assign tg X.env]:=by rfl):PS X (.Assign [tg] e pos) (IG te g):=by
 intro NO s σ H D I h;refine wpAny_Assign_stores (thn (he NO s σ H _ I h) λv s1 ⟨x,H1,I1,r1,q1⟩=>?_) hs hw;rw[h1];exact thn (hg NO s1 σ H1 x v _ I1 r1 q1) λ_ s2 q=>q
def ai{i:Nat}{x:Str}{pos':Pos}(hN:X.N.Nodup)(hi:X.N[i]?=some x)(hx:Loc X.env.scope x)(he:PE X e te)(hs:swapsWith e (some (.Name x pos')) pos.line X.env=pure false:=by rfl)(hf:X.fn x=true∨X.env.scope.names.lookup x=some .local:=by first | exact .inl rfl | exact .inr rfl | assumption) :
 PS X (.Assign [.Name x pos'] e pos) (IG te (wQ i)):=by
 intro NO s σ H D I h;refine wpAny_Assign_Name (thn (he NO s σ H _ I h) λv s1 ⟨y,H1,I1,r1,q1⟩=>?_) hs;exact qy I1 hN hi hx r1 (λs2 I2=>%[_,H1,I2|q1]) hf
end
section
variable {X:Cx} {pos:Pos}
def IB(c:TT)(tb:TS):TS:=λD σ H=>∃W:Nat->St->Hp->Prop,(∃m,W m σ H)/\∀m σ H,W m σ H ->
 c σ H λb H1=>if b=true then ∃N:St->Hp->Prop,(∀ σ' H',N σ' H'->∃m',m'<m/\W m' σ' H')/\tb { D with nx:=N,ct:=N,bk:=D.nx } σ H1 else D.nx σ H1
def im(hp:PassesOwn (model X.prog X.w) X.A X.env X.xe)(hc:PT X c tc)(hb:PSs X body tb):PS X (.While c body [] pos) (IB tc tb):=by
 intro NO s σ H D I h;erw[W,%[m0|w0],turn]at h;refine wpAny_While (codeAny_whileLoop (λn s'=>∃ σ' H',Inv X NO σ' H' s'/\W n σ' H') ?_ m0 %[σ,H,I|w0]);rintro n s1 ⟨σ1,H1,I1,w1⟩;refine jA1 hp (thn (hc NO s1 σ1 H1 _ I1 (turn n σ1 H1 w1)) λb s2 ⟨H2,I2,q2⟩=>?_);cases b with
 | true=>
   erw[N,hN,q2]at q2;rw[NQ rfl];refine jA1 hp (thn (hb NO s2 σ1 H2 _ I2 q2) λf s3 q3=>?_);cases f with
   | next=>
     erw[σ3,H3,I3,n3]at q3;let%[m',hm|w3]:=hN σ3 H3 n3;erw[m',hm,σ3,H3,I3,w3]
   | cont=>
     erw[σ3,H3,I3,n3]at q3;let%[m',hm|w3]:=hN σ3 H3 n3;erw[m',hm,σ3,H3,I3,w3]
   | brk=>exact q3
   | ret v=>exact q3
 | false=>
   rw[NP qC0];exact wG0 %[σ1,H2,I2|q2]
end
structure It where
 go:Nat->Hp->Prop
 yld:Nat->Hp->V->Hp->Prop
 stop:Nat->Hp->Prop
def jJ(X:Cx)(NO:List (Addr×Obj))(H:Hp)(b:Addr):Prop:=
 H b=none/\b≠X.env.locals/\b∉X.fs/\(b∈X.ex∨X.s₀.heap.objs.size<=b)/\(∀x c,X.env.cells.lookup x=some c->c≠b)/\∀p∈X.pn++NO,p.1≠b
def Inv.fpOk{σ:St}{H':Hp}{b:Addr}(I:Inv X NO σ H s)(hb:‹s›<=b)(hn:H' b=none):jJ X NO H' b:=by
 erw[hn,jX1 (qN0 I.lt hb),I.nofs hb,.inr (zR0 I.sz hb),λx c e z=>?_,λp hp z=>?_]
 . let%[v|q]:=I.cell x c e;exact absurd (qN0 q.lt (by rw[z];exact hb)) (qV0 _)
 . exact absurd (qN0 (zN0 (I.pin p hp).1) (by rw[z];exact hb)) (qV0 _)
structure Turn(P:Program)(w:World)(K:W.Frag)(tg:Expr)(J:It)(fp:List Addr)(it:Addr)(tn:Nat->Heap->Prop):Prop where
 mem:it∈fp
 obj:∀i h,tn i h->∀b∈fp,∃o,h.get? b=some o/\∀v,o.data≠.cell v
 keep:∀i h h',tn i h->(∀b∈fp,∀o,h.get? b=some o->h'.get? b=some o)->tn i h'
 item:∀(X:Cx),X.prog=P->X.w=w->X.K=K->X.calm=true->∀(i:Nat)(NO:List (Addr×Obj))(s:Shared)(σ:St)(H:Hp)(E:Value->Shared->Prop),Inv X NO σ H s->(∀b∈fp,jJ X NO H b)->tn i s.heap->J.go i H ->
  wpAny (model P w) X.A (pyNext (.ref it)) (λr s1=>∃u,r=some u/\
   wpAny (model P w) X.A (letOwnedTupleGo tg (.ref it) u) (λ_ s2=>∃x H',Inv X NO σ H' s2/\RelV x u/\J.yld i H x H'/\tn (i+1) s2.heap/\∀b∈fp,H' b=none) E s1) E s
 done:∀(X:Cx),X.prog=P->X.w=w->X.K=K->X.calm=true->∀(i:Nat)(NO:List (Addr×Obj))(s:Shared)(σ:St)(H:Hp)(E:Value->Shared->Prop),Inv X NO σ H s->(∀b∈fp,jJ X NO H b)->tn i s.heap->J.stop i H ->
  wpAny (model P w) X.A (pyNext (.ref it)) (λr s1=>r=none/\Inv X NO σ H s1) E s
 self:∀(A:Around)(i:Nat)(s:Shared)(Q:Value->Shared->Prop)(E:Value->Shared->Prop),tn i s.heap->Q (.ref it) s->wpAny (model P w) A (pyIter (.ref it)) Q E s
abbrev TI:=St->Hp->(It->Hp->Prop)->Prop
def PIE(X:Cx)(NO:List (Addr×Obj))(σ:St)(tg:Expr)(R:It->Hp->Prop)(itv:Value)(s2:Shared):Prop:=
 ∃(it:Addr)(fp:List Addr)(tn:Nat->Heap->Prop)(J:It)(H':Hp),itv=.ref it/\Inv X NO σ H' s2/\Turn X.prog X.w X.K tg J fp it tn/\tn 0 s2.heap/\(∀b∈fp,jJ X NO H' b)/\R J H'
def PI(X:Cx)(tg iter:Expr)(wi:TI):Prop:=
 ∀(NO:List (Addr×Obj))(s:Shared)(σ:St)(H:Hp)(R:It->Hp->Prop),Inv X NO σ H s->wi σ H R ->
  wpAny (model X.prog X.w) X.A (eval iter X.env) (λv s1=>wpAny (model X.prog X.w) X.A (pyIter v) (PIE X NO σ tg R) X.xe s1) X.xe s
def wO{M:Model}{A:Around}{E:Value->Shared->Prop}{s:Shared}{tg:Expr}{it:Addr}{u:Value}{o:Obj}{n:String}{vs:Array Value}{Q:Unit->Shared->Prop}(ho:s.heap.get? it=some o)(hc:o.cls=.type n)(hd:o.data=.fields vs)
 (hn:["enumerate","zip","dict_itemiterator","dict_reverseitemiterator","odict_iterator","itertools.zip_longest","itertools.pairwise"].contains n=false) (hQ:Q () s):wpAny M A (letOwnedTupleGo tg (.ref it) u) Q E s:=by
 unfold letOwnedTupleGo;cases tg <;> first
  | exact zI0 hQ
  | (cases u <;> first
   | exact zI0 hQ
   | (refine zE0 (wpAny_load ho ?_)
      rw[hc,hd];show wpAny M A (if(["enumerate","zip","dict_itemiterator","dict_reverseitemiterator","odict_iterator","itertools.zip_longest","itertools.pairwise"].contains n&&vs[0]?==some (rawInt _))=true then _ else _) Q E s;rw[NP (by intro h;rw[hn,Bool.false_and]at h;cases h)];exact zI0 hQ))
def Itl(K:W.Frag)(a:Addr):It:=
 ⟨λi H=>∃xs x,SqL K H a xs/\xs[i]?=some x,λi H x H'=>H'=H/\∀xs,SqL K H a xs->xs[i]?=some x,λi H=>∃xs,SqL K H a xs/\xs.length<=i⟩
def Itt(K:W.Frag)(a:Addr):It:=
 ⟨λi H=>∃xs x,SqT K H a xs/\xs[i]?=some x,λi H x H'=>H'=H/\∀xs,SqT K H a xs->xs[i]?=some x,λi H=>∃xs,SqT K H a xs/\xs.length<=i⟩
def Itr(lo:Int)(n:Nat):It:=%[λi _=>i<n,λi H x H'=>H'=H/\x=.int (lo+i)|λi _=>n<=i]
def Ax{K:W.Frag}(a it:Addr):Turn P w K tg (Itl K a) [it] it (λi h=>h.IsListIter it a i) where
 mem:=by simp
 obj:=λi h st b hb=>by
  let e:b=it:=by simpa using hb
  subst e;erw[o,e,c,d]at st;erw[o,e,λv z=>by rw[d]at z;cases z]
 keep:=λi h h' st k=>st.at λo e=>k it #[2] o e
 item:=by
  intro X hP hw hK hc i NO s σ H E I hf st hg;subst hP hw hK;erw[xs,x,hq,hx]at hg;let%[its,rv,p|hz]:=I.list hq;let%[u,hu|ru]:=rv.get hx;let%[f0,f1,f2,f3,f4|f5]:=hf it #[2];refine wpAny_pyNext_list_item st p.isList (x:=u) (by simpa using hu) λh' st' sb=>?_
  let I1:Inv X NO σ H { s with heap:=h' }:=I.turned (t':=s.toks) (λb o hb e=>(sb.2 b hb).trans e) f0 f1 f3 f4 f5;let%[o,e,c|d]:=id st';erw[u,1,wO (s:={ s with heap:=h' }) e c d ⋯ ⟨x,H,I1,ru,⟨rfl,λys hy=>by rw[I.list_inj hy hq];exact hx⟩,st',λb hb=>(hf b hb).1⟩]
 done:=by
  intro X hP hw hK hc i NO s σ H E I hf st hg;subst hP hw hK;erw[xs,hq,hx]at hg;let%[its,rv,p|hz]:=I.list hq;let%[f0,f1,f2,f3,f4|f5]:=hf it #[2];let hl:=rv.length;exact wpAny_pyNext_list_end (I.ok.hd hc) st p.isList (by simp;omega) λh' eb=>%[1|I.turned (t':=s.toks) (λb o hb e=>eb b o hb e) f0 f1 f3 f4 f5]
 self:=λ_ _ _ _ _ st h=>wpAny_pyIter_listiter st h
def xB{K:W.Frag}(a it:Addr):Turn P w K tg (Itt K a) [it] it (λi h=>h.IsTupleIter it a i) where
 mem:=by simp
 obj:=λi h st b hb=>by
  let e:b=it:=by simpa using hb
  subst e;erw[o,e,c,d]at st;erw[o,e,λv z=>by rw[d]at z;cases z]
 keep:=λi h h' st k=>st.at λo e=>k it #[2] o e
 item:=by
  intro X hP hw hK hc i NO s σ H E I hf st hg;subst hP hw hK;erw[xs,x,hq,hx]at hg;let%[its,rv,p|hz]:=I.tuple hq;let%[u,hu|ru]:=rv.get hx;let%[f0,f1,f2,f3,f4|f5]:=hf it #[2];refine wpAny_pyNext_tuple_item st (show s.heap.IsTuple a its.toArray from p) (x:=u) (by simpa using hu) λh' st' sb=>?_
  let I1:Inv X NO σ H { s with heap:=h' }:=I.turned (t':=s.toks) (λb o hb e=>(sb.2 b hb).trans e) f0 f1 f3 f4 f5;let%[o,e,c|d]:=id st';erw[u,1,wO (s:={ s with heap:=h' }) e c d ⋯ ⟨x,H,I1,ru,⟨rfl,λys hy=>by rw[I.tuple_inj hy hq];exact hx⟩,st',λb hb=>(hf b hb).1⟩]
 done:=by
  intro X hP hw hK hc i NO s σ H E I hf st hg;subst hP hw hK;erw[xs,hq,hx]at hg;let%[its,rv,p|hz]:=I.tuple hq;let%[f0,f1,f2,f3,f4|f5]:=hf it #[2];let hl:=rv.length;exact wpAny_pyNext_tuple_end (I.ok.hd hc) st (show s.heap.IsTuple a its.toArray from p) (by simp;omega) λh' eb=>%[1|I.turned (t':=s.toks) (λb o hb e=>eb b o hb e) f0 f1 f3 f4 f5]
 self:=λ_ _ _ _ _ st h=>wpAny_pyIter_tupleiter st h
def xC{K:W.Frag}(it:Addr)(lo:Int)(n:Nat):Turn P w K tg (Itr lo n) [it] it (λi h=>IsRangeIter h it (lo+(i:Nat)*1) ((n:Int)-(i:Nat)) 1) where
 mem:=by simp
 obj:=λi h st b hb=>by
  let e:b=it:=by simpa using hb
  subst e;exact⟨_,st,λv z=>by
   let z':Data.fields _=Data.cell v:=z;cases z'⟩
 keep:=λi h h' st k=>k it #[2] _ st
 item:=by
  intro X hP hw hK hc i NO s σ H E I hf st hg;subst hP hw hK;let%[f0,f1,f2,f3,f4|f5]:=hf it #[2];let W:=Walks.range (prog:=X.prog) (w:=X.w) (I.ok.hd hc) it lo 1 n;refine W.item i s _ _ hg st λv h' tk hv st' kk=>?_
  erw[t,1]at hv;let I1:Inv X NO σ H { s with heap:=h',toks:=tk }:=I.turned (λb o hb e=>kk b o (by simpa using hb) e) f0 f1 f3 f4 f5;erw[0,wO (s:={ s with heap:=h',toks:=tk }) (n:="range_iterator") st' rfl rfl ⋯ ⟨.int (lo+i),H,I1,⟨t,?_⟩,⟨rfl,rfl⟩,st',λb hb=>(hf b hb).1⟩];rw[wG1]
 done:=by
  intro X hP hw hK hc i NO s σ H E I hf st hg;subst hP hw hK;let%[f0,f1,f2,f3,f4|f5]:=hf it #[2];exact wpAny_pyNext_range_end (I.ok.hd hc) st (by have:n<=i:=hg;omega) λh' eb=>%[1|I.turned (t':=s.toks) (λb o hb e=>eb b o hb e) f0 f1 f3 f4 f5]
 self:=λ_ _ _ _ _ st h=>wpAny_pyIter_rangeiter st h
section
variable {X:Cx} {tg:Expr}
instance ZiList(K:W.Frag)(R:(It->Hp->Prop))(x:V)(H1:Hp):∀a,x=.ref a->(∃xs,SqL K H1 a xs)->R (Itl K a) H1:=0
def iList(K:W.Frag)(tl:TE):TI:=λσ H R=>tl σ H λx H1=>ZiList K R x H1
instance ZiTup(K:W.Frag)(R:(It->Hp->Prop))(x:V)(H1:Hp):∀a,x=.ref a->(∃xs,SqT K H1 a xs)->R (Itt K a) H1:=0
def iTup(K:W.Frag)(tl:TE):TI:=λσ H R=>tl σ H λx H1=>ZiTup K R x H1
def eN(hl:PE X l tl):PI X tg l (iList X.K tl):=by
 intro NO s σ H R I h;refine thn (hl NO s σ H _ I h) λv s1 ⟨x,H1,I1,r1,q1⟩=>?_
 erw[a,e,%[xs|hq],q]at q1;subst e;cases r1;let%[its,rv,p|hz]:=I1.list hq;refine jB0 p.isList ?_;erw[‹s1›,[‹s1›],_,_,H1,1,I1.kept (t':=s1.toks) λb o e=>zQ0 _ e,Ax a _,%[_,qB0 _ rfl,1|1],λb hb=>?_,q];let e:b=‹s1›:=by simpa using hb
 subst e;exact I1.fpOk (zG0 _) (I1.hok.fresh (zG0 _))
def ip(hl:PE X l tl):PI X tg l (iTup X.K tl):=by
 intro NO s σ H R I h;refine thn (hl NO s σ H _ I h) λv s1 ⟨x,H1,I1,r1,q1⟩=>?_
 erw[a,e,%[xs|hq],q]at q1;subst e;cases r1;let%[its,rv,p|hz]:=I1.tuple hq;refine jI1 (show s1.heap.IsTuple a its.toArray from p) ?_;erw[‹s1›,[‹s1›],_,_,H1,1,I1.kept (t':=s1.toks) λb o e=>zQ0 _ e,xB a _,%[_,qB0 _ rfl,1|1],λb hb=>?_,q];let e:b=‹s1›:=by simpa using hb
 subst e;exact I1.fpOk (zG0 _) (I1.hok.fresh (zG0 _))
def vZ{σ:St}{R:It->Hp->Prop}{E:Value->Shared->Prop}{lo hi:Int}{t u v:Tok}{tk:Nat}(I:Inv X NO σ H s)(h1:-(2 ^ 62)<=lo)(h2:lo<2 ^ 62)(h3:-(2 ^ 62)<=hi)(h4:hi<2 ^ 62)
 (q:R (Itr lo (hi-lo).toNat) H):wpAny (model X.prog X.w) X.A (pyIter (.ref ‹s›)) (PIE X NO σ tg R) E { s with heap:=s.heap.push { cls:=.type "range",data:=.fields #[.int lo t,.int hi u,.int 1 v] },toks:=tk }:=by
 refine wpAny_pyIter_range (IsRange.new ..) (small_one h1 h2 h3 h4) ?_;let I1:Inv X NO σ H { s with heap:=s.heap.push { cls:=.type "range",data:=.fields #[.int lo t,.int hi u,.int 1 v] },toks:=tk }:=I.kept λb o e=>zQ0 _ e
 erw[(s.heap.push { cls:=.type "range",data:=.fields #[.int lo t,.int hi u,.int 1 v] }).objs.size,[(s.heap.push { cls:=.type "range",data:=.fields #[.int lo t,.int hi u,.int 1 v] }).objs.size],_,_,H,1,I1.kept (t':=tk) λb o e=>zQ0 _ e,xC _ lo (hi-lo).toNat,6,λb hb=>?_,q]
 . let e1:lo+((0:Nat):Int)*1=lo:=by simp
   let e2:(((hi-lo).toNat:Nat):Int)-((0:Nat):Int)=Builtin.Range.rangeSize lo hi 1:=by rw[rangeSize_one];split <;> omega
   show IsRangeIter _ _ (lo+((0:Nat):Int)*1) ((((hi-lo).toNat:Nat):Int)-((0:Nat):Int)) 1;rw[e1,e2];exact qB0 _ rfl
 . let e:b=(s.heap.push { cls:=.type "range",data:=.fields #[.int lo t,.int hi u,.int 1 v] }).objs.size:=by simpa using hb
   subst e;exact I1.fpOk (zG0 _) (I1.hok.fresh (zG0 _))
instance ZiRng1(R:(It->Hp->Prop))(vs:(List V))(H1:Hp):∀j:Int,vs=[.int j]->-(2 ^ 62)<=j->j<2 ^ 62->R (Itr 0 j.toNat) H1:=0
def iRng1(ta:TA):TI:=λσ H R=>ta σ H λvs H1=>ZiRng1 R vs H1
instance ZiRng2(R:(It->Hp->Prop))(vs:(List V))(H1:Hp):∀i j:Int,vs=[.int i,.int j]->-(2 ^ 62)<=i/\i<2 ^ 62/\-(2 ^ 62)<=j/\j<2 ^ 62->R (Itr i (j-i).toNat) H1:=0
def iRng2(ta:TA):TI:=λσ H R=>ta σ H λvs H1=>ZiRng2 R vs H1
def bZ {a:Expr}  {p pos:Pos} (hg:Gl X "range") (hm:X.mg "range"=none) (ha:PA X [a] ta) (hs:starEach [a] X.env=[(false,eval a X.env)]:=by rfl):PI X tg (.Call (.Name "range" p) [a] [] pos) (iRng1 ta):=by
 intro NO s σ H R I h;refine Call_ (ir I hg hm boot_range (zN1 (thn (ha pos NO s σ H _ I h) λus s1 ⟨vs,H1,I1,r1,q1⟩=>?_) hs rfl));erw[j,e,q1,q2,q]at q1;subst e;cases r1 with
 | cons r rr=>
   cases rr;erw[t,1]at r;exact call_range_1 (vZ I1 #[0] #[0] q1 q2 (by simpa using q))
def tG {a b:Expr}  {p pos:Pos} (hg:Gl X "range") (hm:X.mg "range"=none) (ha:PA X [a,b] ta) (hs:starEach [a,b] X.env=[(false,eval a X.env),(false,eval b X.env)]:=by rfl) (hs2:starEach [b] X.env=[(false,eval b X.env)]:=by rfl) :
 PI X tg (.Call (.Name "range" p) [a,b] [] pos) (iRng2 ta):=by
 intro NO s σ H R I h;refine Call_ (ir I hg hm boot_range (zN1 (thn (ha pos NO s σ H _ I h) λus s1 ⟨vs,H1,I1,r1,q1⟩=>?_) (by rw[hs,hs2]) (by rw[hs2];rfl)));erw[i,j,e,%[q1,q2,q3|q4],q]at q1;subst e;cases r1 with
 | cons r rr=>
   cases rr with
   | cons r' rr=>
     cases rr;erw[t,1]at r;erw[t',1]at r';exact call_range_2 (vZ I1 q1 q2 q3 q4 q)
def tFor(wi:TI)(g:TG)(tb:TS):TS:=λD σ H=>wi σ H λJ H1=>∃W:Nat->Nat->St->Hp->Prop,(∃m,W 0 m σ H1)/\∀i m σ H,W i m σ H ->
 (J.stop i H/\D.nx σ H)∨(J.go i H/\∃N:St->Hp->Prop,(∀ σ' H',N σ' H'->∃m',m'<m/\W (i+1) m' σ' H')/\∀x H',J.yld i H x H'->g x σ H' λσ2 H2=>tb { D with nx:=N,ct:=N,bk:=D.nx } σ2 H2)
def lR(fp:List Addr)(h:Heap):List (Addr×Obj):=fp.filterMap λb=>(h.get? b).map λo=>(b,o)
def fZ{fp:List Addr}{h:Heap}{b:Addr}{o:Obj}(hb:b∈fp)(e:h.get? b=some o):(b,o)∈lR fp h:=List.mem_filterMap.mpr %[b,hb|by rw[e];rfl]
def Bs{p:Addr×Obj}(hp:p∈lR fp h):p.1∈fp/\h.get? p.1=some p.2:=by
 let%[b,hb|e]:=List.mem_filterMap.mp hp;cases q:h.get? b with
 | none=>rw[q]at e;cases e
 | some o=>
   rw[q]at e;let e':(b,o)=p:=zT0 e;subst e';erw[hb,q]
def Inv.pinned{σ:St}{fp:List Addr}(I:Inv X NO σ H s)(hf:∀b∈fp,jJ X NO H b)(ho:∀b∈fp,∃o,s.heap.get? b=some o/\∀v,o.data≠.cell v):Inv X (NO++lR fp s.heap) σ H s:=
 I.pins_of λp hp=>(qD0 hp).elim (λz=>I.pin p (qQ0 _ z)) λz=>by
  let%[hb|e]:=Bs z;let%[f0,f1,f2|_]:=hf p.1 hb;let%[o,e'|d]:=ho p.1 hb;rw[e]at e';cases e';erw[e,f0,f1,f2,d]
def Inv.unpinned{NO pl:List (Addr×Obj)}{σ:St}(I:Inv X (NO++pl) σ H s):Inv X NO σ H s:=I.pins_of λp hp=>I.pin p (qQ0 _ (jN0 _ hp))
def cF{iter:Expr}{pos:Pos}(hp:PassesOwn (model X.prog X.w) X.A X.env X.xe)(hc:X.calm=true)(hi:PI X tg iter wi)(hg:PG X tg g)(hb:PSs X body tb)
 (hs:∀x,foldedSetIterable iter X.env x=pure x:=by intro _;rfl):PS X (.For tg iter body [] pos) (tFor wi g tb):=by
 intro NO s σ H D I h;refine wpAny_For (thn (hi NO s σ H _ I h) λv s1 h1=>thn h1 λitv s2 h2=>?_) hs;erw[it,fp,tn,J,H2,e,I2,T,st2,f2,W,%[m0|w0],turn]at h2;subst e;let stat:∀{H':Hp},(∀b∈fp,H' b=none)->∀b∈fp,jJ X NO H' b:=λhn b hb=>%[hn b hb|(f2 b hb).2]
 refine codeAny_forLoop_any (λn s'=>∃i σ' H',Inv X NO σ' H' s'/\tn i s'.heap/\(∀b∈fp,H' b=none)/\W i n σ' H') ?_ m0 %[(0),σ,H2,I2,st2,λb hb=>(f2 b hb).1|w0];rintro n s3 ⟨i,σ3,H3,I3,st3,fr3,w3⟩;rcases turn i n σ3 H3 w3 with⟨stop,qn⟩ | ⟨go,N,hN,step⟩
 . refine jA1 hp (thn (T.done X rfl rfl rfl hc i NO s3 σ3 H3 X.xe I3 (stat fr3) st3 stop) λr s4 ⟨hr,I4⟩=>?_);subst hr;exact wG0 %[σ3,H3,I4|qn]
 . refine jA1 hp (thn (T.item X rfl rfl rfl hc i NO s3 σ3 H3 X.xe I3 (stat fr3) st3 go) λr s4 ⟨u,hr,h4⟩=>?_);subst hr;refine jA1 hp (thn h4 λ_ s5 ⟨x,H5,I5,r5,y5,st5,fr5⟩=>?_);let I5':=I5.pinned (stat fr5) (T.obj _ _ st5);refine jA1 hp (thn (hg _ s5 σ3 H5 x u _ I5' r5 (step x H5 y5)) λ_ s6 ⟨σ6,H6,I6,q6⟩=>?_);refine jA1 hp (thn (hb _ s6 σ6 H6 _ I6 q6) λf s7 q7=>?_);let again:∀{σ7:St}{H7:Hp},Inv X (NO++lR fp s5.heap) σ7 H7 s7->N σ7 H7->∃m,m<n/\∃i σ' H',Inv X NO σ' H' s7/\tn i s7.heap/\(∀b∈fp,H' b=none)/\W i m σ' H':=fun{σ7 H7} I7 n7=>by
    let%[m',hm|w7]:=hN σ7 H7 n7;erw[m',hm,i+1,σ7,H7,I7.unpinned,T.keep _ _ _ st5 λb hb o e=>(I7.pin (b,o) (qQ0 _ (qQ0 _ (fZ hb e)))).1,λb hb=>?_,w7];let%[o,e|d]:=T.obj _ _ st5 b hb;exact(I7.pin (b,o) (qQ0 _ (qQ0 _ (fZ hb e)))).2.1
   cases f with
   | next=>erw[σ7,H7,I7,n7]at q7;exact again I7 n7
   | cont=>erw[σ7,H7,I7,n7]at q7;exact again I7 n7
   | brk=>erw[σ7,H7,I7,q7]at q7;erw[σ7,H7,I7.unpinned,q7]
   | ret v=>erw[x7,σ7,H7,I7,r7,q7]at q7;erw[x7,σ7,H7,I7.unpinned,r7,q7]
end
def iW{K:W.Frag}{xs:List V}{g:TG}{tb:TS}{D:Ends}{σ:St}{H:Hp}(Pv:Nat->St->Hp->Prop)(h0:Pv 0 σ H)(hl:∀i σ H,i<=xs.length->Pv i σ H->SqL K H a xs)
 (hs:∀i x σ H,xs[i]?=some x->Pv i σ H->g x σ H λσ2 H2=>tb { D with nx:=Pv (i+1),ct:=Pv (i+1),bk:=D.nx } σ2 H2) (hd:∀ σ H,Pv xs.length σ H->D.nx σ H) :
 ∃ W:Nat->Nat->St->Hp->Prop,(∃m,W 0 m σ H)/\∀i m σ H,W i m σ H ->
  ((Itl K a).stop i H/\D.nx σ H)∨((Itl K a).go i H/\∃N:St->Hp->Prop,(∀ σ' H',N σ' H'->∃m',m'<m/\W (i+1) m' σ' H')/\∀x H',(Itl K a).yld i H x H'->g x σ H' λσ2 H2=>tb { D with nx:=N,ct:=N,bk:=D.nx } σ2 H2):=by
 erw[λi m σ H=>m=xs.length-i/\i<=xs.length/\Pv i σ H,%[xs.length,by simp,zU0 _|h0],6];rintro i m σ H ⟨rfl,hi,p⟩;let q:=hl i σ H hi p
 by_cases NT:i<xs.length
 . refine .inr %[%[xs,xs[i],q|by simp [NT]],Pv (i+1),λσ' H' p'=>%[xs.length-(i+1),3,1,NT|p']|λx H' y=>?_];erw[e,y]at y;subst e;exact hs i x σ _ (y xs q) p
 . let e:i=xs.length:=by omega
   subst e;exact .inl %[%[xs,q|zG0 _]|hd σ H p]
def vD{K:W.Frag}{xs:List V}{g:TG}{tb:TS}{D:Ends}{σ:St}{H:Hp}(Pv:Nat->St->Hp->Prop)(h0:Pv 0 σ H)(hl:∀i σ H,i<=xs.length->Pv i σ H->SqT K H a xs)
 (hs:∀i x σ H,xs[i]?=some x->Pv i σ H->g x σ H λσ2 H2=>tb { D with nx:=Pv (i+1),ct:=Pv (i+1),bk:=D.nx } σ2 H2) (hd:∀ σ H,Pv xs.length σ H->D.nx σ H) :
 ∃ W:Nat->Nat->St->Hp->Prop,(∃m,W 0 m σ H)/\∀i m σ H,W i m σ H ->
  ((Itt K a).stop i H/\D.nx σ H)∨((Itt K a).go i H/\∃N:St->Hp->Prop,(∀ σ' H',N σ' H'->∃m',m'<m/\W (i+1) m' σ' H')/\∀x H',(Itt K a).yld i H x H'->g x σ H' λσ2 H2=>tb { D with nx:=N,ct:=N,bk:=D.nx } σ2 H2):=by
 erw[λi m σ H=>m=xs.length-i/\i<=xs.length/\Pv i σ H,%[xs.length,by simp,zU0 _|h0],6];rintro i m σ H ⟨rfl,hi,p⟩;let q:=hl i σ H hi p
 by_cases NT:i<xs.length
 . refine .inr %[%[xs,xs[i],q|by simp [NT]],Pv (i+1),λσ' H' p'=>%[xs.length-(i+1),3,1,NT|p']|λx H' y=>?_];erw[e,y]at y;subst e;exact hs i x σ _ (y xs q) p
 . let e:i=xs.length:=by omega
   subst e;exact .inl %[%[xs,q|zG0 _]|hd σ H p]
def cW{lo:Int}{n:Nat}{g:TG}{tb:TS}{D:Ends}{σ:St}{H:Hp}(Pv:Nat->St->Hp->Prop)(h0:Pv 0 σ H)
 (hs:∀i σ H,i<n->Pv i σ H->g (.int (lo+i)) σ H λσ2 H2=>tb { D with nx:=Pv (i+1),ct:=Pv (i+1),bk:=D.nx } σ2 H2) (hd:∀ σ H,Pv n σ H->D.nx σ H) :
 ∃ W:Nat->Nat->St->Hp->Prop,(∃m,W 0 m σ H)/\∀i m σ H,W i m σ H ->
  ((Itr lo n).stop i H/\D.nx σ H)∨((Itr lo n).go i H/\∃N:St->Hp->Prop,(∀ σ' H',N σ' H'->∃m',m'<m/\W (i+1) m' σ' H')/\∀x H',(Itr lo n).yld i H x H'->g x σ H' λσ2 H2=>tb { D with nx:=N,ct:=N,bk:=D.nx } σ2 H2):=by
 erw[λi m σ H=>m=n-i/\i<=n/\Pv i σ H,%[n,by simp,zU0 _|h0],6];rintro i m σ H ⟨rfl,hi,p⟩
 by_cases NT:i<n
 . refine .inr %[NT,Pv (i+1),λσ' H' p'=>%[n-(i+1),3,1,NT|p']|λx H' y=>?_];erw[e,y]at y;subst e y;exact hs i σ _ NT p
 . let e:i=n:=by omega
   subst e;exact .inl %[zG0 _|hd σ H p]
abbrev R2:=V->V->Hp->VK->Prop
def OpR(X:Cx)(f:Value->Value->Sem Value)(r:R2):Prop:=
 ∀(NO:List (Addr×Obj))(s:Shared)(σ:St)(H:Hp)(x y:V)(v u:Value)(Q:VK),Inv X NO σ H s->RelV x v->RelV y u->r x y H Q ->
  wpAny (model X.prog X.w) X.A (f v u) (EP X NO σ Q) X.xe s
def UnR(X:Cx)(f:Value->Sem Value)(r:V->Hp->VK->Prop):Prop:=
 ∀(NO:List (Addr×Obj))(s:Shared)(σ:St)(H:Hp)(x:V)(v:Value)(Q:VK),Inv X NO σ H s->RelV x v->r x H Q ->
  wpAny (model X.prog X.w) X.A (f v) (EP X NO σ Q) X.xe s
def gR(X:Cx)(f:Value)(r:List V->Hp->VK->Prop):Prop:=
 ∀(NO:List (Addr×Obj))(s:Shared)(σ:St)(H:Hp)(xs:List V)(us:List Value)(Q:VK),Inv X NO σ H s->Vals xs us->r xs H Q ->
  wpAny (model X.prog X.w) X.A (call f us) (EP X NO σ Q) X.xe s
def tOp(r:R2)(ta tb:TE):TE:=λσ H Q=>ta σ H λx H1=>tb σ H1 λy H2=>r x y H2 Q
def tUn(r:V->Hp->VK->Prop)(ta:TE):TE:=λσ H Q=>ta σ H λx H1=>r x H1 Q
instance rI(C:Int->Int->Prop)(g:Int->Int->V)(x:V)(y:V)(H:Hp)(Q:VK):∀i j,x=.int i->y=.int j->C i j->Q (g i j) H:=0
instance rI0(g:Int->Int->V)(x:V)(y:V)(H:Hp)(Q:VK):∀i j,x=.int i->y=.int j->Q (g i j) H:=0
instance rU(g:Int->V)(x:V)(H:Hp)(Q:VK):∀i,x=.int i->Q (g i) H:=0
section
variable {X:Cx} {a b c:Expr} {ta tb tc:TE} {pos:Pos}
def JO(ha:PE X a ta)(hb:PE X b tb){σ:St}{R:V->V->Hp->Prop}(I:Inv X NO σ H s)
 (h:ta σ H λx H1=>tb σ H1 λy H2=>R x y H2) {Q:Value->Shared->Prop} {f:Value->Value->Sem Value}
 (hf:∀v u s2 x y H2,Inv X NO σ H2 s2->RelV x v->RelV y u->R x y H2->wpAny (model X.prog X.w) X.A (f v u) Q X.xe s2) :
 wpAny (model X.prog X.w) X.A (eval a X.env) (λv s₁=>wpAny (model X.prog X.w) X.A (eval b X.env) (λu s₂=>wpAny (model X.prog X.w) X.A (f v u) Q X.xe s₂) X.xe s₁) X.xe s:=by
 refine thn (ha NO s σ H _ I h) λv s1 ⟨x,H1,I1,r1,q1⟩=>?_
 refine thn (hb NO s1 σ H1 _ I1 q1) λu s2 ⟨y,H2,I2,r2,q2⟩=>?_
 exact hf v u s2 x y H2 I2 r1 r2 q2
def aq{op:Operator}(ho:OpR X (binaryOp op) r)(ha:PE X a ta)(hb:PE X b tb):PE X (.BinOp a op b pos) (tOp r ta tb):=by
 intro NO s σ H Q I h;exact wpAny_BinOp (JO ha hb I h λv u s2 x y H2 I2 rx ry q=>ho NO s2 σ H2 x y v u Q I2 rx ry q)
def wb{op:UnaryOp}(ho:UnR X (unaryOp op) r)(ha:PE X a ta):PE X (.UnaryOp op a pos) (tUn r ta):=by
 intro NO s σ H Q I h;exact UnaryOp_ (thn (ha NO s σ H _ I h) λv s1 ⟨x,H1,I1,r1,q1⟩=>ho NO s1 σ H1 x v Q I1 r1 q1)
def opI{f:Value->Value->Sem Value}{C:Int->Int->Prop}{g:Int->Int->Int}
 (rule:∀(i j:Int)(t u:Tok)(s:Shared)(Q:Value->Shared->Prop)(E:Value->Shared->Prop),C i j->Q (.int (g i j) s.toks) { s with toks:=s.toks+1 }->wpAny (model X.prog X.w) X.A (f (.int i t) (.int j u)) Q E s) :
 OpR X f (rI C λi j=>.int (g i j)):=by
 intro NO s σ H x y v u Q I rx ry h;erw[i,j,1,1,hc,q]at h;erw[t,1]at rx;erw[t',1]at ry;exact rule i j t t' s _ _ hc %[.int (g i j),H,I.tok _,%[|0]|q]
def opI0{f:Value->Value->Sem Value}{g:Int->Int->Int}
 (rule:∀(i j:Int)(t u:Tok)(s:Shared)(Q:Value->Shared->Prop)(E:Value->Shared->Prop),Q (.int (g i j) s.toks) { s with toks:=s.toks+1 }->wpAny (model X.prog X.w) X.A (f (.int i t) (.int j u)) Q E s) :
 OpR X f (rI0 λi j=>.int (g i j)):=by
 intro NO s σ H x y v u Q I rx ry h;erw[i,j,1,1,q]at h;erw[t,1]at rx;erw[t',1]at ry;exact rule i j t t' s _ _ %[.int (g i j),H,I.tok _,%[|0]|q]
def GF{f:Value->Value->Sem Value}{g:Int->Int->Bool}
 (rule:∀(i j:Int)(t u:Tok)(s:Shared)(Q:Value->Shared->Prop)(E:Value->Shared->Prop),Q (.bool (g i j)) s->wpAny (model X.prog X.w) X.A (f (.int i t) (.int j u)) Q E s) :
 OpR X f (rI0 λi j=>.bl (g i j)):=by
 intro NO s σ H x y v u Q I rx ry h;erw[i,j,1,1,q]at h;erw[t,1]at rx;erw[t',1]at ry;exact rule i j t t' s _ _ %[.bl (g i j),H,I,1|q]
def CDiv(i j:Int):Prop:=0<j/\j<1073741824
def CPow(i j:Int):Prop:=0<=j/\j<=1000000/\i.natAbs<2 ^ 64
def CMul(i j:Int):Prop:=(-(2 ^ 64)<i/\i<2 ^ 64)∨(-(2 ^ 64)<j/\j<2 ^ 64)
def CMul.ok(h:CMul i j):IntMulOk i j:=by
 rcases h with⟨h1,h2⟩ | ⟨h1,h2⟩
 . exact .of_left (intBits_le_64 h1 h2)
 . exact .of_right (intBits_le_64 h1 h2)
def aS:OpR X (binaryOp .Add) (rI0 λi j=>.int (i+j)):=opI0 λ_ _ _ _ _ _ _ q=>add_int q
def bh:OpR X (binaryOp .Sub) (rI0 λi j=>.int (i-j)):=opI0 λ_ _ _ _ _ _ _ q=>sub_int q
def ci:OpR X (binaryOp .Mult) (rI CMul λi j=>.int (i*j)):=opI λ_ _ _ _ _ _ _ hc q=>mul_int q hc.ok
def zP:OpR X (binaryOp .FloorDiv) (rI CDiv λi j=>.int (i / j)):=opI λi j _ _ _ _ _ hc q=>by
 let h1:(0:Int)<j:=hc.1;let h2:j<1073741824:=hc.2;exact floordiv_int #[0] (by rw[Int.fdiv_eq_ediv_of_nonneg i #[0]];exact q) (.inl (PyProof.noPylong_small #[0]))
def ba:OpR X (binaryOp .Mod) (rI (λ_ j=>0<j) λi j=>.int (i % j)):=opI λi j _ _ _ _ _ hc q=>by
 let h1:(0:Int)<j:=hc;exact mod_int' #[0] (by rw[Int.fmod_eq_emod_of_nonneg i #[0]];exact q)
def DO:OpR X (binaryOp .Pow) (rI CPow λi j=>.int (i ^ j.toNat)):=opI λ_ _ _ _ _ _ _ hc q=>pow_int_small hc.1 hc.2.1 hc.2.2 q
def unI{f:Value->Sem Value}{g:Int->Int}
 (rule:∀(i:Int)(t:Tok)(s:Shared)(Q:Value->Shared->Prop)(E:Value->Shared->Prop),Q (.int (g i) s.toks) { s with toks:=s.toks+1 }->wpAny (model X.prog X.w) X.A (f (.int i t)) Q E s) :
 UnR X f (rU λi=>.int (g i)):=by
 intro NO s σ H x v Q I rx h;erw[i,1,q]at h;erw[t,1]at rx;exact rule i t s _ _ %[.int (g i),H,I.tok _,%[|0]|q]
def qo:UnR X (unaryOp .USub) (rU λi=>.int (-i)):=unI λ_ _ _ _ _ q=>neg_int q
end
def scal:V->V->Bool
 | .non,.non=>true | .non,.int _=>true | .int _,.non=>true | .non,.bl _=>true | .bl _,.non=>true | .non,.str _=>true | .str _,.non=>true
 | .int _,.int _=>true | .bl _,.bl _=>true | .str _,.str _=>true | .byt _,.byt _=>true
 | .int _,.str _=>true | .str _,.int _=>true | .bl _,.str _=>true | .str _,.bl _=>true
 | _,_=>false
instance rEq(x:V)(y:V)(H:Hp)(Q:VK):scal x y=true->Q (.bl (decide (x=y))) H:=0
instance rNe(x:V)(y:V)(H:Hp)(Q:VK):scal x y=true->Q (.bl (!decide (x=y))) H:=0
def An{i j:Int}:decide (V.int i=V.int j)=(i==j):=by
 rw[jT1]
 simp
def Fg{i j:Bool}:decide (V.bl i=V.bl j)=(i==j):=by
 rw[jT1]
 simp
def Am{i j:Str}:decide (V.str i=V.str j)=(i==j):=by
 rw[jT1]
 simp
def Ao{i j:Array UInt8}:decide (V.byt i=V.byt j)=(i.toList==j.toList):=by
 rw[jT1];cases i;cases j
 simp
section
variable {X:Cx} {a b c:Expr} {ta tb tc:TE} {pos:Pos}
def bN{σ:St}{Q:VK}{k k':Bool}(I:Inv X NO σ H s)(q:Q (.bl k) H)(e:k=k'):EP X NO σ Q (.bool k') s:=by
 subst e;erw[.bl k,H,I,1,q]
def aR:OpR X (compareOp .Eq) rEq:=by
 intro NO s σ H x y v u Q I rx ry h;erw[hs,q]at h;cases x with
 | non=>
   cases rx;cases y with
   | non=>cases ry;exact PySem.EqNone.eq_none_none (bN I q #[2])
   | bl j=>cases ry;exact PySem.EqNone.eq_none_bool (bN I q #[2])
   | int j=>erw[t',1]at ry;exact PySem.EqNone.eq_none_int (bN I q #[2])
   | str j=>erw[t',1]at ry;exact PySem.EqNone.eq_none_str (bN I q #[2])
   | _=>exact absurd (show false=true from hs) qC0
 | bl i=>
   cases rx;cases y with
   | non=>cases ry;exact PySem.EqNone.eq_bool_none (bN I q #[2])
   | bl j=>cases ry;exact eq_bool (bN I q Fg)
   | str j=>erw[t',1]at ry;exact PySem.EqMixed.eq_bool_str (bN I q #[2])
   | _=>exact absurd (show false=true from hs) qC0
 | int i=>
   erw[t,1]at rx;cases y with
   | non=>cases ry;exact PySem.EqNone.eq_int_none (bN I q #[2])
   | int j=>erw[t',1]at ry;exact eq_int (bN I q An)
   | str j=>erw[t',1]at ry;exact PySem.EqMixed.eq_int_str (bN I q #[2])
   | _=>exact absurd (show false=true from hs) qC0
 | str i=>
   erw[t,1]at rx;cases y with
   | non=>cases ry;exact PySem.EqNone.eq_str_none (bN I q #[2])
   | bl j=>cases ry;exact PySem.EqMixed.eq_str_bool (bN I q #[2])
   | int j=>erw[t',1]at ry;exact PySem.EqMixed.eq_str_int (bN I q #[2])
   | str j=>erw[t',1]at ry;exact eq_str (bN I q Am)
   | _=>exact absurd (show false=true from hs) qC0
 | byt i=>
   erw[t,1]at rx;cases y with
   | byt j=>erw[t',1]at ry;exact PySem.W.eq_bytes (bN I q Ao)
   | _=>exact absurd (show false=true from hs) qC0
 | _=>cases y <;> exact absurd (show false=true from hs) qC0
def mO:OpR X (compareOp .NotEq) rNe:=by
 intro NO s σ H x y v u Q I rx ry h;erw[hs,q]at h;cases x with
 | non=>
   cases rx;cases y with
   | non=>cases ry;exact PySem.EqNone.ne_none_none (bN I q #[2])
   | bl j=>cases ry;exact PySem.EqNone.ne_none_bool (bN I q #[2])
   | int j=>erw[t',1]at ry;exact PySem.EqNone.ne_none_int (bN I q #[2])
   | str j=>erw[t',1]at ry;exact PySem.EqNone.ne_none_str (bN I q #[2])
   | _=>exact absurd (show false=true from hs) qC0
 | bl i=>
   cases rx;cases y with
   | non=>cases ry;exact PySem.EqNone.ne_bool_none (bN I q #[2])
   | bl j=>cases ry;exact ne_bool (bN I q (congrArg not Fg))
   | str j=>erw[t',1]at ry;exact PySem.EqMixed.ne_bool_str (bN I q #[2])
   | _=>exact absurd (show false=true from hs) qC0
 | int i=>
   erw[t,1]at rx;cases y with
   | non=>cases ry;exact PySem.EqNone.ne_int_none (bN I q #[2])
   | int j=>erw[t',1]at ry;exact ne_int (bN I q (congrArg not An))
   | str j=>erw[t',1]at ry;exact PySem.EqMixed.ne_int_str (bN I q #[2])
   | _=>exact absurd (show false=true from hs) qC0
 | str i=>
   erw[t,1]at rx;cases y with
   | non=>cases ry;exact PySem.EqNone.ne_str_none (bN I q #[2])
   | bl j=>cases ry;exact PySem.EqMixed.ne_str_bool (bN I q #[2])
   | int j=>erw[t',1]at ry;exact PySem.EqMixed.ne_str_int (bN I q #[2])
   | str j=>erw[t',1]at ry;exact ne_str (bN I q (congrArg not Am))
   | _=>exact absurd (show false=true from hs) qC0
 | byt i=>
   erw[t,1]at rx;cases y with
   | byt j=>erw[t',1]at ry;exact PySem.W.ne_bytes (bN I q (congrArg not Ao))
   | _=>exact absurd (show false=true from hs) qC0
 | _=>cases y <;> exact absurd (show false=true from hs) qC0
def dN:OpR X (compareOp .Lt) (rI0 λi j=>.bl (decide (i<j))):=GF λ_ _ _ _ _ _ _ q=>lt_int q
def rF:OpR X (compareOp .LtE) (rI0 λi j=>.bl (decide (i<=j))):=GF λ_ _ _ _ _ _ _ q=>le_int q
def gQ:OpR X (compareOp .Gt) (rI0 λi j=>.bl (decide (j<i))):=GF λ_ _ _ _ _ _ _ q=>gt_int q
def Ib:OpR X (compareOp .GtE) (rI0 λi j=>.bl (decide (j<=i))):=GF λ_ _ _ _ _ _ _ q=>ge_int q
def tH:OpR X (compareOp .In) (λx y H Q=>∃i j,x=.str i/\y=.str j/\Q (.bl (!(Builtin.Str.occurrences j i 0 j.length 1).isEmpty)) H):=by
 intro NO s σ H x y v u Q I rx ry h;erw[i,j,1,1,q]at h;erw[t,1]at rx;erw[t',1]at ry;exact in_str (bN I q rfl)
def yj:OpR X (compareOp .Is) (λx y H Q=>y=.non/\Q (.bl (decide (x=.non))) H):=by
 intro NO s σ H x y v u Q I rx ry h;erw[1,q]at h;cases ry;refine is_none_gen (bN I q ?_);cases x <;> first
  | (cases rx;rfl)
  | (erw[t,1]at rx;rfl)
def Gz:OpR X (compareOp .IsNot) (λx y H Q=>y=.non/\Q (.bl (!decide (x=.non))) H):=by
 intro NO s σ H x y v u Q I rx ry h;erw[1,q]at h;cases ry;refine isnot_none_gen (bN I q ?_);cases x <;> first
  | (cases rx;rfl)
  | (erw[t,1]at rx;rfl)
def OpR.or(h:OpR X f r)(h':OpR X f r'):OpR X f (λx y H Q=>r x y H Q∨r' x y H Q):=by
 intro NO s σ H x y v u Q I rx ry q;rcases q with q | q
 . exact h NO s σ H x y v u Q I rx ry q
 . exact h' NO s σ H x y v u Q I rx ry q
def ax(b:Expr){op:CmpOp}(h:op≠.In:=by decide)(h2:op≠.NotIn:=by decide):behindInMarks op b=false:=by
 let e1:(op==CmpOp.In)=false:=by cases op <;> first | rfl | exact absurd rfl h
 let e2:(op==CmpOp.NotIn)=false:=by cases op <;> first | rfl | exact absurd rfl h2
 cases b <;> simp [behindInMarks,e1,e2]
def iE{op:CmpOp}(ho:OpR X (compareOp op) r)(ha:PE X a ta)(hb:PE X b tb)(hm:behindInMarks op b=false):PE X (.Compare a [op] [b] pos) (tOp r ta tb):=by
 intro NO s σ H Q I h;exact wpAny_Compare1 (JO ha hb I h λv u s2 x y H2 I2 rx ry q=>ho NO s2 σ H2 x y v u Q I2 rx ry q) hm
instance ZtTest(Q:(Bool->Hp->Prop))(x:V)(H':Hp):∀k,x=.bl k->Q k H':=0
def HP(t:TE):TT:=λσ H Q=>t σ H λx H'=>ZtTest Q x H'
def ag{op:CmpOp}(ho:OpR X (compareOp op) r)(ha:PE X a ta)(hb:PE X b tb)(hm:behindInMarks op b=false):PT X (.Compare a [op] [b] pos) (HP (tOp r ta tb)):=by
 intro NO s σ H Q I h;refine wpAny_isTrue_Compare1 (thn (ha NO s σ H _ I h) λv s1 ⟨x,H1,I1,r1,q1⟩=>thn (hb NO s1 σ H1 _ I1 q1) λu s2 ⟨y,H2,I2,r2,q2⟩=>
  thn (ho NO s2 σ H2 x y v u _ I2 r1 r2 q2) λc s3 ⟨z,H3,I3,r3,k,e,q3⟩=>?_) hm
 subst e;cases r3;exact zV1 %[H3,I3|q3]
instance ZtChain(r':R2)(tc:TE)(σ:St)(Q:VK)(y:V)(z:V)(H3:Hp):∀k,z=.bl k->(if k=true then tc σ H3 λw' H4=>r' y w' H4 Q else Q (.bl false) H3):=0
def CJ(r r':R2)(ta tb tc:TE):TE:=λσ H Q=>ta σ H λx H1=>tb σ H1 λy H2=>r x y H2 λz H3=>ZtChain r' tc σ Q y z H3
def DK{op op':CmpOp}(ho:OpR X (compareOp op) r)(ho':OpR X (compareOp op') r')(ha:PE X a ta)(hb:PE X b tb)(hc:PE X c tc)
 (hm:lastMarks [op,op'] [b,c]=false:=by rfl'):PE X (.Compare a [op,op'] [b,c] pos) (CJ r r' ta tb tc):=by
 intro NO s σ H Q I h;refine Compare_chain (thn (ha NO s σ H _ I h) λv s1 ⟨x,H1,I1,r1,q1⟩=>chain_link (thn (hb NO s1 σ H1 _ I1 q1) λu s2 ⟨y,H2,I2,r2,q2⟩=>
  thn (ho NO s2 σ H2 x y v u _ I2 r1 r2 q2) λd s3 ⟨z,H3,I3,r3,k,e,q3⟩=>?_)) hm
 subst e;cases r3;refine zV1 ?_;cases k with
 | false=>exact ite_ff %[.bl false,H3,I3,1|q3]
 | true=>exact ite_tt (chain_last (thn (hc NO s3 σ H3 _ I3 q3) λw' s4 ⟨z',H4,I4,r4,q4⟩=>ho' NO s4 σ H4 y z' u w' Q I4 r2 r4 q4))
def DB{op op':CmpOp}(ho:OpR X (compareOp op) r)(ho':OpR X (compareOp op') r')(ha:PE X a ta)(hb:PE X b tb)(hc:PE X c tc)
 (hm:lastMarks [op,op'] [b,c]=false:=by rfl'):PT X (.Compare a [op,op'] [b,c] pos) (HP (CJ r r' ta tb tc)):=by
 intro NO s σ H Q I h;refine isTrue_chain (thn (ha NO s σ H _ I h) λv s1 ⟨x,H1,I1,r1,q1⟩=>test_link (thn (hb NO s1 σ H1 _ I1 q1) λu s2 ⟨y,H2,I2,r2,q2⟩=>
  thn (ho NO s2 σ H2 x y v u _ I2 r1 r2 q2) λd s3 ⟨z,H3,I3,r3,k,e,q3⟩=>?_)) hm
 subst e;cases r3;refine zV1 ?_;cases k with
 | false=>
   erw[k',e',q']at q3;cases e';exact ite_ff %[H3,I3|q']
 | true=>
   refine ite_tt (test_last (thn (hc NO s3 σ H3 _ I3 q3) λw' s4 ⟨z',H4,I4,r4,q4⟩=>thn (ho' NO s4 σ H4 y z' u w' _ I4 r2 r4 q4) λd' s5 ⟨z2,H5,I5,r5,k2,e2,q5⟩=>?_));subst e2;cases r5;exact zV1 %[H5,I5|q5]
def jG:(sizeLine:Nat)<2 ^ 63:=by rw[sizeLine_eq];decide
def rH:OpR X (binaryOp .Add) (λx y H Q=>∃i j,x=.str i/\y=.str j/\i.length+j.length<=sizeLine/\Q (.str (i++j)) H):=by
 intro NO s σ H x y v u Q I rx ry h;erw[i,j,1,1,hz,q]at h;erw[t,1]at rx;erw[t',1]at ry;exact add_str (λt' tk=>%[.str (i++j),H,I.tok _,%[|0]|q]) hz
def jQ{x:V}(r:Vals [x] us):∃u,us=[u]/\RelV x u:=by
 cases r with
 | cons r1 r2=>cases r2;erw[0,r1]
def Cp{x y:V}(r:Vals [x,y] us):∃u w',us=[u,w']/\RelV x u/\RelV y w':=by
 cases r with
 | cons r1 r2=>
   cases r2 with
   | cons r3 r4=>cases r4;erw[_,0,r1,r3]
def oU (hc:X.calm=true):gR X (.builtin "max") (λxs H Q=>∃i j,xs=[.int i,.int j]/\Q (.int (if j>i then j else i)) H):=by
 intro NO s σ H xs us Q I r h;erw[i,j,1,q]at h;let%[u,w',1,%[t|1]|%[t'|1]]:=Cp r;refine max_two_ints (I.ok.hd hc) λh' tk k=>%[_,H,I.kept k,6|q]
 by_cases hj:j>i
 . rw[NQ hj,NQ hj];erw[0]
 . rw[NP hj,NP hj];erw[0]
def Cf (hc:X.calm=true):gR X (.builtin "min") (λxs H Q=>∃i j,xs=[.int i,.int j]/\Q (.int (if j<i then j else i)) H):=by
 intro NO s σ H xs us Q I r h;erw[i,j,1,q]at h;let%[u,w',1,%[t|1]|%[t'|1]]:=Cp r;refine min_two_ints (I.ok.hd hc) λh' tk k=>%[_,H,I.kept k,6|q]
 by_cases hj:j<i
 . rw[NQ hj,NQ hj];erw[0]
 . rw[NP hj,NP hj];erw[0]
def Cg:gR X (.type "int") (λxs H Q=>(∃i,xs=[.int i]/\Q (.int i) H)∨∃k,xs=[.bl k]/\Q (.int (if k then 1 else 0)) H):=by
 intro NO s σ H xs us Q I r h;rcases h with⟨i,rfl,q⟩ | ⟨k,rfl,q⟩
 . let%[u,1,t|1]:=jQ r;exact call_int_int %[.int i,H,I,%[|0]|q]
 . let%[u,1|r1]:=jQ r;cases r1;exact call_int_bool %[.int (if k then 1 else 0),H,I.tok _,%[|0]|q]
end
structure ObjM(h:Heap)(x dx C:Addr)(mA:Str->Option Value):Prop where
 obj:h.get? x=some (PySem.W.instObj C dx)
 ns:h.Ns1 dx mA
 ne:dx≠x
def BA{h:Heap}{dx:Addr}{mA:Str->Option Value}(n:h.Ns1 dx mA):∃od,h.get? dx=some od/\∀name,PySem.W.lookIn name od=some (mA name):=by
 erw[o,es,ep,ho,hd,hk,_,hm]at n;erw[o,ho,λname=>?_];let e:=hm name;unfold nsFind findBy at e;rw[←Array.find?_toList]at e;unfold PySem.W.lookIn;rw[hd]
 dsimp only
 split
 . rename_i y q;rw[q]at e;exact congrArg some e
 . rename_i q;rw[q]at e;let a:es.toList.any (·.refKey)=false:=by
    rw[List.any_eq_false];intro y hy;let%[z,t|hkey]:=hk y (Array.mem_toList_iff.mp hy)
    simp [DictEntry.refKey,hkey]
   let a':¬ es.toList.any (·.refKey)=true:=by rw[a];exact qC0
   rw[NP a'];exact congrArg some e
def ObjM.look(I:ObjM h x dx C mA):∃od,PySem.W.InstAt h x (PySem.W.instObj C dx) C (some od)/\∀name,PySem.W.lookIn name od=some (mA name):=
 let⟨od,ho,hl⟩:=BA I.ns
 %[od,%[I.obj,1,1|ho]|hl]
section
variable {prog:Program} {w:World} {A:Around} {E:Value->Shared->Prop} {s:Shared} {K:W.Frag} {x dx C f:Addr} {mA:Str->Option Value} {name:Str} {v:Value}
def Ht{expr:Bool}{Q:Value->Shared->Prop}(X:K.In s.heap)(I:ObjM s.heap x dx C mA)(hg:PySem.W.plainGet K C name=true)(hh:PySem.W.hasDictIn K C=true)
 (ha:PySem.W.findIn K (.ref C) name=some none) (hv:mA name=some v) (hv':PySem.W.handedIn v=true) (h:Q v { s with toks:=s.toks+1 }) :
 wpAny (model prog w) A (getAttr (.ref x) name expr) Q E s:=by
 erw[od,J,hl]at I.look;exact PySem.W.get_value X J (wH0 hg).1 (PySem.W.findObj_own hh ha rfl (by rw[hl,hv])) hv' h
def ES{pl:Sem Bool}{Q:Value×List Value->Shared->Prop}(X:K.In s.heap)(I:ObjM s.heap x dx C mA)(hg:PySem.W.plainGet K C name=true)
 (hf:PySem.W.findIn K (.ref C) name=some (some (.ref f))) (ht:PySem.W.isFn K (.ref f)=true) (hv:mA name=none) (h:Q (.ref f,[.ref x]) s) :
 wpAny (model prog w) A (getMethod (.ref x) name pl) Q E s:=by
 erw[od,J,hl]at I.look;exact PySem.W.method_fn X J (wH0 hg).1 (wH0 hg).2 hf (beq_iff_eq.mp ht) (by show(PySem.W.lookIn name od).map (·.isSome)=some false;rw[hl,hv];rfl) h
def Gh{ns:List Str}{Q:Unit->Shared->Prop}(X:K.In s.heap)(I:ObjM s.heap x dx C mA)
 (hs:PySem.W.findIn K (.ref C) "__setattr__"=some (some (.builtin "object.__setattr__"))) (hp:PySem.W.plainOver K C=true) (ht:PySem.W.takerIn K C name=some none) (hh:PySem.W.hasDictIn K C=true)
 (hw:PySem.Within mA ns) (hsz:ns.length<=sizeLine)
 (h:∀h',ObjM h' x dx C (λy=>if y=name then some v else mA y)->Heap.SameBut dx s.heap h'->Q () { s with heap:=h',toks:=s.toks+2 }) :
 wpAny (model prog w) A (setAttr (.ref x) name v) Q E s:=by
 erw[od,J,hl]at I.look;refine PySem.W.set_plain X J hs (PySem.W.osa_open (s:={ s with toks:=s.toks+1 }) (r:=none) X J hp ht λb=>?_);let%[cd,hc|hd']:=PySem.W.any_some hh;let hx:s.heap.get? x=some %[.ref C,some dx,.plain|#[]]:=I.obj;refine zE0 (zI0 (zE0 (zE0 (wpAny_loadPart hx (zE0 (PySem.W.Looks.here (s:={ s with toks:=s.toks+1 }) (PySem.W.looks_clsIn X hc) ?_))))));rw[hd'];refine zI0 (a:=some dx) (zE0 (zI0 (zE0 ?_)));refine wpAny_nsSet1 (s:={ s with toks:=s.toks+1 }) I.ns λh' hn2 hs2=>?_
 let%[oD,esD,epD,hoD,hdD|hcD]:=hn2.count (PySem.Within.cons name v hw);refine zE0 (wpAny_lookBehind hoD (by rw[hdD];exact pastItsLine_dict (zR0 hcD (by rw[zP0];omega))) ?_);exact zI0 (h _ %[(hs2.2 _ (Ne.symm I.ne)).trans I.obj,hn2|I.ne] hs2)
def Ey{R:Result->Shared->Prop}{vs:List Value}{kw:List (Str×Value)}(X:K.In s.heap)(hm:PySem.W.makesIn K C=true)
 (hi:PySem.W.findIn K (.ref C) "__init__"=some (some (.ref f))) (hf:PySem.W.typeIn K (.ref f)=some (.type "function"))
 (h:codeAny (model prog w) (A.under (.builtin "type.__call__" %[.ref C::vs|kw])) (.call (.ref f) ⟨.ref (‹s›+1)::vs,kw⟩) (PySem.W.InitBack (‹s›+1) R)
  { s with heap:=(s.heap.push PySem.W.emptyDict).push (PySem.W.instObj C ‹s›) }) :
 codeAny (model prog w) A (.call (.ref C) %[vs|kw]) R s:=by
 erw[hh,g,d,t,os]at s;exact PySem.W.make_core (PySem.W.makes_of X hm) (PySem.W.looks_findIn X hi) (λself=>PySem.W.bind_fn X self hf) (.inl rfl) h
end
def cD(f:Str)(v:V):List (Str×V)->List (Str×V)
 | []=>[(f,v)]
 | (g,x)::r=>if g=f then(g,v)::r else(g,x)::cD f v r
def au(f g:Str)(v:V):∀fs:List (Str×V),(cD f v fs).lookup g=if g=f then some v else fs.lookup g
 | []=>by
   show List.lookup g [(f,v)]=_
   by_cases h:g=f
   . let hb:(g==f)=true:=beq_iff_eq.mpr h;simp only[List.lookup,hb,NQ h]
   . let hb:(g==f)=false:=beq_eq_false_iff_ne.mpr h;simp only[List.lookup,hb,NP h]
 | (k,x)::r=>by
   let ih:=au f g v r;rw[show cD f v ((k,x)::r)=(if k=f then(k,v)::r else(k,x)::cD f v r)from rfl]
   by_cases hk:k=f
   . rw [NQ hk]
     by_cases h:g=k
     . let hb:(g==k)=true:=beq_iff_eq.mpr h;simp only[List.lookup,hb,NQ (h.trans hk)]
     . let hb:(g==k)=false:=beq_eq_false_iff_ne.mpr h;simp only[List.lookup,hb,NP (λe:g=f=>h (e.trans hk.symm))]
   . rw [NP hk]
     by_cases h:g=k
     . let hb:(g==k)=true:=beq_iff_eq.mpr h;simp only[List.lookup,hb,NP (λe:g=f=>hk (h.symm.trans e))]
     . let hb:(g==k)=false:=beq_eq_false_iff_ne.mpr h;simp only[List.lookup,hb];exact ih
def oO(f:Str)(v:V):∀fs:List (Str×V),f∈(cD f v fs).map (·.1)/\∀g,g∈fs.map (·.1)->g∈(cD f v fs).map (·.1)
 | []=>%[by simp [cD]|λg h=>by simp at h]
 | (k,x)::r=>by
   let%[i1|i2]:=oO f v r;rw[show cD f v ((k,x)::r)=(if k=f then(k,v)::r else(k,x)::cD f v r)from rfl]
   by_cases hk:k=f
   . rw[NQ hk];subst hk;erw[by simp,λg h=>by simpa using h]
   . rw [NP hk];erw[6,λg h=>?_]
     . rw[zX0];exact qH0 _ i1
     . rw [zX0]at h ⊢;rcases zW0 h with e | e
       . exact List.mem_cons.mpr (.inl e)
       . exact qH0 _ (i2 g e)
def pG(f:Str)(v:V):∀fs:List (Str×V),(cD f v fs).length<=fs.length+1
 | []=>by simp [cD]
 | (k,x)::r=>by
   let ih:=pG f v r;rw[show cD f v ((k,x)::r)=(if k=f then(k,v)::r else(k,x)::cD f v r)from rfl]
   by_cases hk:k=f
   . rw[NQ hk,zP0,zP0];omega
   . rw[NP hk,zP0,zP0];omega
def RelO.some_of{v:V}(r:RelO (some v) o):∃u,o=some u/\RelV v u:=by
 cases o with
 | none=>exact(show False from r).elim
 | some u=>erw[u,1,r]
def RelO.none_of(r:RelO none o):o=none:=by
 cases o with
 | none=>rfl
 | some u=>exact(show False from r).elim
def BQ(r:RelV v u):PySem.W.handedIn u=true:=by
 cases v with
 | non=>cases(show u=Value.none from r);rfl
 | bl b=>cases(show u=Value.bool b from r);rfl
 | int i=>let%[t|e]:=(show ∃t,u=Value.int i t from r);cases e;rfl
 | str x=>let%[t|e]:=(show ∃t,u=Value.str x t from r);cases e;rfl
 | byt b=>let%[t|e]:=(show ∃t,u=Value.bytes b t from r);cases e;rfl
 | flt b=>let%[t|e]:=(show ∃t,u=Value.float b t from r);cases e;rfl
 | ref a=>cases(show u=Value.ref a from r);rfl
 | ty n=>cases(show u=Value.type n from r);rfl
section
variable {P:Program} {w:World} {H H':Hp} {h h':Heap} {a C dx:Addr} {fs fs':List (Str×V)}
def qf(hok:HOk P w H h)(e:H a=some (.ins C dx fs)):∃mA,ObjM h a dx C mA/\(∀f,RelO (fs.lookup f) (mA f))/\PySem.Within mA (fs.map (·.1))/\fs.length<=1000/\H dx=some (.own a):=by
 let%[d,z,ne,ob,mA,n,r|q]:=(show ObjOk P w H h a (.ins C dx fs)from hok a _ e)
 erw[mA,%[ob,n|ne],r,q,z,d]
end
structure Cls(K:W.Frag)(C:Addr):Prop where
 pg:PySem.W.plainGet K C Str.empty=true
 hd:PySem.W.hasDictIn K C=true
 po:PySem.W.plainOver K C=true
 sa:PySem.W.findIn K (.ref C) "__setattr__"=some (some (.builtin "object.__setattr__"))
def Cls.get{K:W.Frag}(c:Cls K C)(f:Str):PySem.W.plainGet K C f=true:=c.pg
def NoAttr(K:W.Frag)(C:Addr)(f:Str):Prop:=PySem.W.findIn K (.ref C) f=some none
def NoAttr.taker{K:W.Frag}(n:NoAttr K C f):PySem.W.takerIn K C f=some none:=by
 unfold PySem.W.takerIn;rw[show PySem.W.findIn K (.ref C) f=some none from n];rfl
structure Meth(K:W.Frag)(C:Addr)(m:Str)(f:Addr):Prop where
 at_:PySem.W.findIn K (.ref C) m=some (some (.ref f))
 fn:PySem.W.isFn K (.ref f)=true
 kp:PySem.W.keepIn K (.ref f)=true
section
variable {X:Cx} {NO:List (Addr×Obj)} {σ:St} {H:Hp} {s:Shared} {a C dx:Addr} {fs:List (Str×V)} {f:Str} {v:V} {A:Around} {E:Value->Shared->Prop}
def yS{b:Bool}{Q:Value->Shared->Prop}(I:Inv X NO σ H s)(e:H a=some (.ins C dx fs))(c:Cls X.K C)(n:NoAttr X.K C f)(l:fs.lookup f=some v)
 (h:∀u s',Inv X NO σ H s'->RelV v u->Q u s'):wpAny (model X.prog X.w) A (getAttr (.ref a) f b) Q E s:=by
 let%[mA,O,r,_,_|_]:=qf I.hok e;let%[u,hu|ru]:=RelO.some_of (v:=v) (o:=mA f) (by rw[←l];exact r f);exact Ht I.kIn O (c.get f) c.hd n hu (BQ ru) (h u _ (I.tok _) ru)
def so{pl:Sem Bool}{Q:Value×List Value->Shared->Prop}(I:Inv X NO σ H s)(e:H a=some (.ins C dx fs))(c:Cls X.K C)(k:Meth X.K C m g)(l:fs.lookup m=none)
 (h:Q (.ref g,[.ref a]) s):wpAny (model X.prog X.w) A (getMethod (.ref a) m pl) Q E s:=by
 let%[mA,O,r,_,_|_]:=qf I.hok e;let hn:mA m=none:=RelO.none_of (by rw[←l];exact r m);exact ES I.kIn O (c.get m) k.at_ k.fn hn h
def xN{Q:Unit->Shared->Prop}(I:Inv X NO σ H s)(e:H a=some (.ins C dx fs))(c:Cls X.K C)(n:NoAttr X.K C f)(hl:fs.length<1000)(ry:RelV y u)
 (h:∀s',Inv X NO σ (upd H a (.ins C dx (cD f y fs))) s'->Q () s'):wpAny (model X.prog X.w) A (setAttr (.ref a) f u) Q E s:=by
 let%[mA,O,r,wi,_|ho]:=qf I.hok e;let hz:(fs.map (·.1)).length<=sizeLine:=by rw[zF0,sizeLine_eq];omega
 refine Gh I.kIn O c.sa c.po n.taker c.hd wi hz λh' O' sb=>h _ ?_
 let hd:∃o,h'.get? dx=some o:=let⟨o,_,_,e',_⟩:=O'.ns;%[o|e']
 refine I.write (x:=a) (e:=dx) (by rw[e];exact True.intro) (.inr ho) (λb q hb z=>(sb.2 b hb).trans z) hd ?_;erw[by rw[aB O.ne];exact ho,6,O.ne,O'.obj,_,O'.ns,λg=>?_,λg hg=>?_]
 . have:=pG f y fs;omega
 . show RelO ((cD f y fs).lookup g) (if g=f then some u else mA g);rw[au]
   by_cases q:g=f
   . rw[NQ q,NQ q];exact ry
   . rw[NP q,NP q];exact r g
 . by_cases q:g=f
   . rw[q];exact(oO f y fs).1
   . refine(oO f y fs).2 g (wi g λz=>hg ?_);show(if g=f then some u else mA g)=none;rw[NP q];exact z
def Inv.made(I:Inv X NO σ H s):Inv X NO σ (upd (upd H ‹s› (.own (‹s›+1))) (‹s›+1) (.ins C ‹s› []))
 { s with heap:=(s.heap.push PySem.W.emptyDict).push (PySem.W.instObj C ‹s›) }:=by
 let e1:(s.heap.push PySem.W.emptyDict).get? ‹s›=some PySem.W.emptyDict:=qB0 s.heap rfl;let e2:((s.heap.push PySem.W.emptyDict).push (PySem.W.instObj C ‹s›)).get? (‹s›+1)=some (PySem.W.instObj C ‹s›):=by
  have:=qB0 (s.heap.push PySem.W.emptyDict) (o:=PySem.W.instObj C ‹s›) rfl
  rwa [jP0]at this
 let e3:(s.heap.push PySem.W.emptyDict).Ns ‹s› (λ_=>none):=%[PySem.W.emptyDict,#[],_,e1,1,(λe he=>absurd he #[2])|λ_=>rfl]
 let I1:=I.laid (a:=‹s›) (o:=.own (‹s›+1)) (h':=s.heap.push PySem.W.emptyDict) (t':=s.toks) (λb u q=>zQ0 _ q) (zG0 _) %[_|e1];refine I1.laid (a:=‹s›+1) (o:=.ins C ‹s› []) (t':=s.toks) (λb u q=>zQ0 _ q) (Nat.le_of_eq (jP0 _ _)) ?_;let ne:‹s›≠‹s›+1:=zV0 (qI1 _);erw[by rw[aB ne,aJ],zU0 _,ne,e2,λ_=>none,(Heap.Ns1.of_empty e3).at λo q=>zQ0 _ q,λ_=>True.intro,λy hy=>absurd rfl hy]
def HG{prog:Program}{w:World}{env:Env}{e:Expr}{f:Str}{pos:Pos}{s:Shared}{Q:Value->Shared->Prop}(hb:attributeBase e f env (eval e env)=eval e env)
 (h:wpAny (model prog w) A (eval e env) (λo s₁=>wpAny (model prog w) A (getAttr o f true) Q E s₁) E s):wpAny (model prog w) A (eval (.Attribute e f pos) env) Q E s:=
 Attribute_any_ h (by rw[arm_eval_Attribute,hb])
end
instance ZtFld(K:W.Frag)(f:Str)(Q:VK)(x:V)(H1:Hp):∀a C dx fs v,x=.ref a->H1 a=some (.ins C dx fs)->Cls K C->NoAttr K C f->fs.lookup f=some v->Q v H1:=0
def tFld(K:W.Frag)(ta:TE)(f:Str):TE:=λσ H Q=>ta σ H λx H1=>ZtFld K f Q x H1
instance ZsFld(K:W.Frag)(f:Str)(D:Ends)(σ:St)(y:V)(x:V)(H2:Hp):∀a C dx fs,x=.ref a->H2 a=some (.ins C dx fs)->Cls K C->NoAttr K C f->fs.length<1000->D.nx σ (upd H2 a (.ins C dx (cD f y fs))):=0
def sFld(K:W.Frag)(ta tv:TE)(f:Str):TS:=λD σ H=>tv σ H λy H1=>ta σ H1 λx H2=>ZsFld K f D σ y x H2
section
variable {X:Cx} {o e value:Expr} {f:Str} {pos pos' tpos:Pos} {ta tv:TE}
def ay(he:PE X e ta)(hb:attributeBase e f X.env (eval e X.env)=eval e X.env):PE X (.Attribute e f pos) (tFld X.K ta f):=by
 intro NO s σ H Q I h;refine HG hb (thn (he NO s σ H _ I h) λu s1 ⟨x,H1,I1,rx,a,C,dx,fs,v,ex,ea,c,n,l,q⟩=>?_);subst ex;obtain rfl:u=Value.ref a:=rx;exact yS I1 ea c n l λu' s2 I2 ru=>%[v,H1,I2,ru|q]
def aO(ha:PE X o ta)(hv:PE X value tv)(hs:swapsWith value (some (.Attribute o f pos')) pos.line X.env=pure false):PS X (.Assign [.Attribute o f pos'] value pos) (sFld X.K ta tv f):=by
 intro NO s σ H D I h;refine plainObj_wpAny_Assign_Attribute (thn (hv NO s σ H _ I h) λu s1 ⟨y,H1,I1,ry,q⟩=>thn (ha NO s1 σ H1 _ I1 q) λov s2 ⟨x,H2,I2,rx,a,C,dx,fs,ex,ea,c,n,l,q2⟩=>?_) hs;subst ex;obtain rfl:ov=Value.ref a:=rx;exact xN I2 ea c n l ry λs3 I3=>%[σ,_,I3|q2]
end
section
variable {X:Cx} {NO:List (Addr×Obj)} {σ:St} {H:Hp} {s:Shared} {A:Around} {E:Value->Shared->Prop} {Q:Value->Shared->Prop} {c:Value} {b:Bool}
inductive TyOf(K:W.Frag)(H:Hp):V->Value->Prop where
 | non:TyOf K H .non (.type "NoneType")
 | bl (x:Bool):TyOf K H (.bl x) (.type "bool")
 | int (i:Int):TyOf K H (.int i) (.type "int")
 | str (x:Str):TyOf K H (.str x) (.type "str")
 | flt (x:UInt64):TyOf K H (.flt x) (.type "float")
 | lst {a:Addr} {xs:List V} (e:H a=some (.lst xs)):TyOf K H (.ref a) (.type "list")
 | frz {a:Addr} {o:Obj} {xs:List V} (e:H a=some (.frz o (.lst xs))):TyOf K H (.ref a) (.type "list")
 | tup {a:Addr} {xs:List V} (e:H a=some (.tup xs)):TyOf K H (.ref a) (.type "tuple")
 | dK {a:Addr} {NS:List (Key×V)} (e:H a=some (.dK NS)):TyOf K H (.ref a) (.type "dict")
 | dT {a:Addr} {NS:List (List Key×V)} (e:H a=some (.dT NS)):TyOf K H (.ref a) (.type "dict")
 | ins {a C dx:Addr} {fs:List (Str×V)} (e:H a=some (.ins C dx fs)) (cl:Cls K C) (ha:PySem.W.findIn K (.ref C) "__class__"=some (some (.builtin "object.__class__")))
  (hn:PySem.W.specialIn K (.builtin "object.__class__") "__get__"=some (some (.builtin "getset_descriptor.__get__"))) (htk:PySem.W.takesIn K (.builtin "object.__class__")=some true)
  (hm:PySem.W.mroIn K C (.type "object")=some true):TyOf K H (.ref a) (.ref C)
def BJ(I:Inv X NO σ H s)(rx:RelV x u)(ty:TyOf X.K H x t)(e:PySem.W.kitOne X.K t c=some b)(h:∀tk,Q (.bool b) { s with toks:=tk }) :
 wpAny (model X.prog X.w) A (call (.builtin "isinstance") [u,c]) Q E s:=by
 cases ty with
 | non=>cases(show u=Value.none from rx);exact qD1 PySem.W.kitx_none I.kIn True.intro e (λz=>nomatch z) h
 | bl y=>cases(show u=Value.bool y from rx);exact qD1 PySem.W.kitx_bool I.kIn True.intro e (λz=>nomatch z) h
 | int i=>let%[t|q]:=(show ∃t,u=Value.int i t from rx);cases q;exact qD1 PySem.W.kitx_int I.kIn True.intro e (λz=>nomatch z) h
 | str y=>let%[t|q]:=(show ∃t,u=Value.str y t from rx);cases q;exact qD1 PySem.W.kitx_str I.kIn True.intro e (λz=>nomatch z) h
 | flt y=>let%[t|q]:=(show ∃t,u=Value.float y t from rx);cases q;exact qD1 PySem.W.kitx_float I.kIn True.intro e (λz=>nomatch z) h
 | @lst a xs ea=>
   cases(show u=Value.ref a from rx);let%[_,_,n,_|h1]:=(show ObjOk X.prog X.w H s.heap a (.lst xs)from I.hok a _ ea)
   exact qD1 PySem.W.kitx_list I.kIn %[_,h1|1] e (λz=>nomatch z) h
 | @frz a ob xs ea=>
   cases(show u=Value.ref a from rx);let%[_,_,_,n,_|h1]:=(show ObjOk X.prog X.w H s.heap a (.frz ob (.lst xs))from I.hok a _ ea)
   exact qD1 PySem.W.kitx_list I.kIn %[_,h1|1] e (λz=>nomatch z) h
 | @tup a xs ea=>
   cases(show u=Value.ref a from rx);let%[_,_,_,p|_]:=(show ObjOk X.prog X.w H s.heap a (.tup xs)from I.hok a _ ea)
   erw[o,h1,h2,_]at p;exact qD1 PySem.W.kitx_tuple I.kIn %[o,h1|h2] e (λz=>nomatch z) h
 | @dK a NS ea=>
   cases(show u=Value.ref a from rx);let%[_,_,vs,_|p]:=(show ObjOk X.prog X.w H s.heap a (.dK NS)from I.hok a _ ea)
   erw[o,es,ep,h1,h2,_]at p;exact qD1 PySem.W.kitx_dict I.kIn %[o,h1|h2.1] e (λz=>nomatch z) h
 | @dT a NS ea=>
   cases(show u=Value.ref a from rx);let%[_,_,xs,_,o,es,ep,h1,h2|_]:=(show ObjOk X.prog X.w H s.heap a (.dT NS)from I.hok a _ ea)
   exact qD1 PySem.W.kitx_dict I.kIn %[o,h1|h2.1] e (λz=>nomatch z) h
 | @ins a C dx fs ea cl ha hn htk hm=>
   cases(show u=Value.ref a from rx);let%[mA,O|_]:=qf I.hok ea;erw[od,J,_]at O.look;exact qD1 (PySem.W.kitx_own (cl.get _) cl.hd ha hn htk hm) I.kIn J e (λz=>nomatch z) h
end
structure Room(k:Nat)(A:Around):Prop where
 hd:A.handled=none
 gd:A.guards=some []
 dp:A.depth+3*k+5<recursionLimit
 un:A.units+16*k+200<cLine
def Room.mono{j:Nat}(r:Room k A)(h:j<=k):Room j A:=%[r.hd,r.gd,by have:=r.dp;omega|by have:=r.un;omega]
def Room.deeper{k:Nat}(r:Room (k+1) A)(env:Env):Room k (A.deeper env):=
 %[r.hd,r.gd,by have:=r.dp;show A.depth+1+3*k+5<_;omega|by have:=r.un;show A.units+3+16*k+200<_;omega]
def yH {A:Around} {C:Addr} {us:List Value} {kw:List (Str×Value)}:(A.under (.builtin "type.__call__" %[.ref C::us|kw])).depth=A.depth+1:=by
 first | rfl | simp [Around.under,Code.weight,Code.isCreation,Code.isGuard,Code.isCaller,Code.frames,Code.isFrame,guardIds]
def yG {A:Around} {C:Addr} {us:List Value} {kw:List (Str×Value)}:(A.under (.builtin "type.__call__" %[.ref C::us|kw])).units=A.units+1:=by
 first | rfl | simp [Around.under,Code.cUnits,Code.frames,Code.isFrame]
def Room.make {k:Nat}  (r:Room (k+1) A) (C:Addr) (us:List Value) (kw:List (Str×Value)):Room k (A.under (.builtin "type.__call__" %[.ref C::us|kw])):=
 %[r.hd,by simp [Around.under,Code.guards,Code.isGuard,guardIds,pushGuards,r.gd],by have:=r.dp;rw[yH];omega|by have:=r.un;rw[yG];omega]
def Room.depth(r:Room k A):A.depth<recursionLimit:=by have:=r.dp;omega
def Room.units(r:Room k A):A.units+64<cLine:=by have:=r.un;omega
def CD:TA:=λ_ H Q=>Q [] H
def tf(ta:TE)(tr:TA):TA:=λσ H Q=>ta σ H λx H1=>tr σ H1 λxs H2=>Q (x::xs) H2
section
variable {X:Cx} {e:Expr} {es:List Expr} {te:TE} {t:TA} {pos:Pos}
def aP:PA X [] CD:=λ_ _ _ _ H Q I h=>jB1 %[[],H,I,.nil|h]
def af(ha:PE X e te)(hr:PA X es t)(hs:starEach (e::es) X.env=(false,eval e X.env)::starEach es X.env:=by rfl):PA X (e::es) (tf te t):=by
 intro pos NO s σ H Q I h;rw[hs];show wpAny _ _ (spliced ((false,eval e X.env)::backTo pos (starEach es X.env))) _ _ s;refine qP1 (thn (ha NO s σ H _ I h) λu s1 ⟨x,H1,I1,r1,q1⟩=>?_);exact thn (hr pos NO s1 σ H1 _ I1 q1) λus s2 ⟨xs,H2,I2,r2,q2⟩=>%[x::xs,H2,I2,.cons r1 r2|q2]
instance ZtTup(Q:VK)(xs:(List V))(H1:Hp):xs.length<=sizeLine->(∀p,H1 p=none->Q (.ref p) (upd H1 p (.tup xs))):=0
def tTup(t:TA):TE:=λσ H Q=>t σ H λxs H1=>ZtTup Q xs H1
instance ZtLst(Q:VK)(xs:(List V))(H1:Hp):xs.length<=sizeLine->(∀p,H1 p=none->Q (.ref p) (upd H1 p (.lst xs))):=0
def tLst(t:TA):TE:=λσ H Q=>t σ H λxs H1=>ZtLst Q xs H1
def aF{x1}(h:PA X es t):PE X (.Tuple es x1 pos) (tTup t):=by
 intro NO s σ H Q I hq;refine wpAny_Tuple_spliced (thn (h pos NO s σ H _ I hq) λus s1 ⟨xs,H1,I1,r,z,q⟩=>%[by rw[←r.length];exact z|6]);let hf:H1 ‹s1›=none:=I1.hok.fresh (zG0 _);erw[.ref ‹s1›,upd H1 ‹s1› (.tup xs),I1.laid (t':=s1.toks) (λb u e=>zQ0 _ e) (zG0 _) ?_,1,q _ hf];erw[z,us,r,%[_,qB0 _ rfl,1|0],_,qB0 _ rfl,1]
def dL(h:PA X es t):PE X (.List es pos) (tLst t):=by
 intro NO s σ H Q I hq;refine wpAny_List_spliced (thn (h pos NO s σ H _ I hq) λus s1 ⟨xs,H1,I1,r,z,q⟩=>%[by rw[←r.length];exact z|6]);let hf:H1 ‹s1›=none:=I1.hok.fresh (zG0 _);erw[.ref ‹s1›,upd H1 ‹s1› (.lst xs),I1.laid (t':=s1.toks) (λb u e=>zQ0 _ e) (zG0 _) ?_,1,q _ hf];erw[z,us,(0),r,qB0 _ rfl]
end
abbrev Sp:=List V->Hp->VK->XK->Prop
abbrev CXT:=List Env->Hp->Shared->XK->Value->Shared->Prop
structure Env0(P:Program)(w:World)(K:W.Frag)(mg:Str->Option Value)(base:Heap)(A:Around)(outer:List Env)(s:Shared)(H:Hp):Prop where
 frames:A.frames=some outer
 mod:Mod K mg base
 bs:∀b o,base.get? b=some o->s.heap.get? b=some o/\H b=none
 bsz:base.objs.size<=‹s›
 funs:s.heap.FunFrames base outer
 frf:∀b∈frs outer,H b=none
 hok:HOk P w H s.heap
 bare:AllBare s.gens
def CE(outer:List Env)(P:Program)(w:World)(H:Hp)(s:Shared)(Q:VK)(u:Value)(s':Shared):Prop:=
 ∃v H',s'.os=s.os/\AllBare s'.gens/\Un (frs outer) [] H H' s.heap s'.heap/\HOk P w H' s'.heap/\RelV v u/\Q v H'
def CR(CX:CXT)(outer:List Env)(P:Program)(w:World)(H:Hp)(s:Shared)(Q:VK)(E:XK)(r:Result)(s':Shared):Prop:=
 match r with
 | .ok (.ret u)=>CE outer P w H s Q u s'
 | .ok _=>False
 | .error e=>CX outer H s E e s'
structure FnOk(P:Program)(w:World)(K:W.Frag)(mg:Str->Option Value)(base:Heap)(CX:CXT)(k:Nat)(f:Addr)(fd:FuncData)(ps:List Str)(sp:Sp):Prop where
 len:∀vs H Q E,sp vs H Q E->vs.length=ps.length
 run:∀(A:Around)(outer:List Env)(s:Shared)(H:Hp)(args:Args)(us:List Value)(vs:List V)(Q:VK)(E:XK),Room k A->Env0 P w K mg base A outer s H->BindsTo s fd args (ps.zip us)->Vals vs us->sp vs H Q E ->
  codeAny (model P w) A (.call (.ref f) args) (CR CX outer P w H s Q E) s
def Env0.make{K:W.Frag}(e:Env0 P w K mg base A outer s H)(C:Addr)(us:List Value)(kw:List (Str×Value)) :
 Env0 P w K mg base (A.under (.builtin "type.__call__" %[.ref C::us|kw])) outer s H:=⟨by first | exact e.frames | (simpa [Around.under,Code.envs,Code.isFrame,pushEnvs]using e.frames),e.mod,e.bs,e.bsz,e.funs,e.frf,e.hok,e.bare⟩
section
variable {X:Cx} {NO:List (Addr×Obj)} {σ:St} {H:Hp} {s s':Shared}
def Inv.env0(I:Inv X NO σ H s):Env0 X.prog X.w X.K X.mg X.base X.A X.stack s H:=
 %[I.ok.frames,I.ok.mod,I.bs,zR0 I.ok.bsz I.sz,I.stack,I.stkFree,I.hok|I.bare]
def Inv.after(I:Inv X NO σ H s)(h:CE X.stack X.prog X.w H s Q u s'):EP X NO σ Q u s':=by
 erw[v,H',os,bare,un,hok,r,q]at h;erw[hh,g,d,t,os']at s';obtain rfl:os'=s.os:=os;erw[v,H',I.call (h':=hh) (g':=g) (d':=d) (t':=t) (ch:=[]) un hok bare (λb z=>absurd z #[2]),r,q]
end
def zv(sp:Sp)(dvs:List V)(E:XK)(t:TA):TE:=λσ H Q=>t σ H λvs H1=>sp (vs++dvs) H1 Q E
instance ZtMeth(C:Addr)(m:Str)(sp:Sp)(dvs:List V)(E:XK)(t:TA)(σ:St)(Q:VK)(x:V)(H1:Hp):∀a dx fs,x=.ref a->H1 a=some (.ins C dx fs)->fs.lookup m=none->(t σ H1 λvs H2=>sp (x::(vs++dvs)) H2 Q E):=0
def HQ(C:Addr)(m:Str)(sp:Sp)(dvs:List V)(E:XK)(ta:TE)(t:TA):TE:=λσ H Q=>ta σ H λx H1=>ZtMeth C m sp dvs E t σ Q x H1
def tMake(C:Addr)(sp:Sp)(dvs:List V)(E:XK)(t:TA):TE:=λσ H Q=>t σ H λvs H1=>∀x dx,H1 x=none->H1 dx=none->dx≠x ->
 sp (.ref x::(vs++dvs)) (upd (upd H1 dx (.own x)) x (.ins C dx [])) (λv H2=>v=.non/\Q (.ref x) H2) E
def Binds(K:W.Frag)(fd:FuncData)(ps:List Str)(ds:List Value):Prop:=
 ∀(s:Shared)(us:List Value),K.In s.heap->(us++ds).length=ps.length->BindsTo s fd %[us|[]] (ps.zip (us++ds))
def Binds.all{K:W.Frag}{fd:FuncData}{ps:List Str}(h:∀us:List Value,us.length=ps.length->bindArgs fd %[us|[]]=pure (ps.zip us)):Binds K fd ps []:=λs us _ hl=>by
 rw[qM1]at hl ⊢;exact .of_eq (h us hl)
def kJ(CX:CXT)(X:Cx)(E:XK):Prop:=∀(NO:List (Addr×Obj))(σ:St)(H:Hp)(s:Shared)(e:Value)(s':Shared),Inv X NO σ H s->CX X.stack H s E e s'->X.xe e s'
section
variable {X:Cx} {CX:CXT} {k:Nat} {f C:Addr} {fd:FuncData} {ps:List Str} {sp:Sp} {dvs:List V} {ds:List Value} {E:XK} {x m:Str} {p pos NY:Pos} {e o:Expr} {es:List Expr} {ta:TE} {t:TA}
def uP{σ:St}{Q:VK}(F:FnOk X.prog X.w X.K X.mg X.base CX k f fd ps sp)(hr:Room k X.A)(hb:Binds X.K fd ps ds)(hd:Vals dvs ds)(hx:kJ CX X E)
 (I:Inv X NO σ H s) (r:Vals vs us) (h:sp (vs++dvs) H Q E):wpAny (model X.prog X.w) X.A (call (.ref f) us) (EP X NO σ Q) X.xe s:=by
 let r2:Vals (vs++dvs) (us++ds):=r.append hd;let hl:(us++ds).length=ps.length:=by rw[←r2.length];exact F.len _ _ _ _ h
 refine wpAny_call (vC0 (F.run X.A X.stack s H %[us|[]] (us++ds) (vs++dvs) Q E hr I.env0 (hb s us I.kIn hl) r2 h) λr s' hq=>?_);cases r with
 | error e=>exact hx NO σ H s e s' I hq
 | ok fl=>
   cases fl with
   | ret u=>exact I.after hq
   | next=>exact False.elim hq
   | brk=>exact False.elim hq
   | cont=>exact False.elim hq
def Gw(F:FnOk X.prog X.w X.K X.mg X.base CX k f fd ps sp)(hr:Room k X.A)(hg:Gl X x)(hm:X.mg x=some (.ref f))(hk:PySem.W.keepIn X.K (.ref f)=true)(hb:Binds X.K fd ps ds)(hd:Vals dvs ds)(hx:kJ CX X E)
 (ha:PA X (e::es) t) (hdb:(x==("__debug__":Str))=false:=by decide) (he:starEach (e::es) X.env=(false,eval e X.env)::starEach es X.env:=by rfl) (hpl:(backTo pos (starEach es X.env)).any (·.1)=false:=by rfl) :
 PE X (.Call (.Name x p) (e::es) [] pos) (zv sp dvs E t):=by
 intro NO s σ H Q I h;refine qQ1 (qe I hg hm ?_ hdb);refine wN1 (h₀:=X.base) I.ok.mod.kin hk (thn (ha pos NO s σ H _ I h) λus s1 ⟨vs,H1,I1,r,q⟩=>%[I1.kIn|6]) he hpl;exact uP F hr hb hd hx I1 r q
def DL(F:FnOk X.prog X.w X.K X.mg X.base CX k f fd ps sp)(hr:Room k X.A)(hg:Gl X x)(hm:X.mg x=some (.ref f))(hk:PySem.W.keepIn X.K (.ref f)=true)(hb:Binds X.K fd ps ds)(hd:Vals dvs ds)(hx:kJ CX X E)
 (hdb:(x==("__debug__":Str))=false:=by decide):PE X (.Call (.Name x p) [] [] pos) (zv sp dvs E CD):=by
 intro NO s σ H Q I h;refine qQ1 (qe I hg hm ?_ hdb);exact PySem.W.callWith_K0 I.kIn hk (uP (us:=[]) F hr hb hd hx I .nil h)
def bQ{pl:Sem Bool}(he:PE X o ta)(c:Cls X.K C)(hm:Meth X.K C m f)(F:FnOk X.prog X.w X.K X.mg X.base CX k f fd ps sp)(hr:Room k X.A)(hb:Binds X.K fd ps ds)(hd:Vals dvs ds)(hx:kJ CX X E)(ha:PA X (e::es) t)
 (NV:starEach (e::es) X.env=(false,eval e X.env)::starEach es X.env:=by rfl) (hpl:(backTo pos (starEach es X.env)).any (·.1)=false:=by rfl)
 (ht:eval (.Call (.Attribute o m NY) (e::es) [] pos) X.env=(do
  let ov ←eval o X.env
  standAt NY.atName
  let(f,first) ←holding [ov] (getMethod ov m pl)
  callWith pos f first (backTo pos (starEach (e::es) X.env)) (backToKw pos (keywordEach [] X.env))):=by rfl) :
 PE X (.Call (.Attribute o m NY) (e::es) [] pos) (HQ C m sp dvs E ta t):=by
 intro NO s σ H Q I h;refine PySem.W.methodCall_KW (pl:=pl) (thn (he NO s σ H _ I h) λu s1 ⟨x,H1,I1,rx,a,dx,fs,ex,ea,l,q⟩=>?_) ht;subst ex;obtain rfl:u=Value.ref a:=rx;refine so I1 ea c hm l ?_;refine wN1 (first:=[.ref a]) (h₀:=X.base) I.ok.mod.kin hm.kp (thn (ha pos NO s1 σ H1 _ I1 q) λus s2 ⟨vs,H2,I2,r,q2⟩=>%[I2.kIn|6]) NV hpl;exact uP (us:=.ref a::us) (vs:=.ref a::vs) F hr hb hd hx I2 (.cons rfl r) q2
def bK{pl:Sem Bool}(he:PE X o ta)(c:Cls X.K C)(hm:Meth X.K C m f)(F:FnOk X.prog X.w X.K X.mg X.base CX k f fd ps sp)(hr:Room k X.A)(hb:Binds X.K fd ps ds)(hd:Vals dvs ds)(hx:kJ CX X E)
 (ht:eval (.Call (.Attribute o m NY) [] [] pos) X.env=(do
  let ov ←eval o X.env
  standAt NY.atName
  let(f,first) ←holding [ov] (getMethod ov m pl)
  callWith pos f first (backTo pos (starEach [] X.env)) (backToKw pos (keywordEach [] X.env))):=by rfl) :
 PE X (.Call (.Attribute o m NY) [] [] pos) (HQ C m sp dvs E ta CD):=by
 intro NO s σ H Q I h;refine PySem.W.methodCall_KW (pl:=pl) (thn (he NO s σ H _ I h) λu s1 ⟨x,H1,I1,rx,a,dx,fs,ex,ea,l,q⟩=>?_) ht;subst ex;obtain rfl:u=Value.ref a:=rx;refine so I1 ea c hm l ?_;exact PySem.W.callWith_K0 (first:=[.ref a]) I1.kIn hm.kp (uP (us:=[.ref a]) (vs:=[.ref a]) F hr hb hd hx I1 (.cons rfl .nil) q)
structure Mk(K:W.Frag)(C f:Addr):Prop where
 makes:PySem.W.makesIn K C=true
 init:PySem.W.findIn K (.ref C) "__init__"=some (some (.ref f))
 fn:PySem.W.isFn K (.ref f)=true
 kp:PySem.W.keepIn K (.ref C)=true
def Dr{σ:St}{Q:VK}(M:Mk X.K C f)(F:FnOk X.prog X.w X.K X.mg X.base CX k f fd ps sp)(hr:Room (k+1) X.A)(hb:Binds X.K fd ps ds)(hd:Vals dvs ds)
 (hx:kJ CX X E) (I:Inv X NO σ H s) (r:Vals vs us)
 (h:∀x dx,H x=none->H dx=none->dx≠x->sp (.ref x::(vs++dvs)) (upd (upd H dx (.own x)) x (.ins C dx [])) (λv H2=>v=.non/\Q (.ref x) H2) E) :
 wpAny (model X.prog X.w) X.A (call (.ref C) us) (EP X NO σ Q) X.xe s:=by
 let hq:=h (‹s›+1) ‹s› (I.hok.fresh (qO0 _)) (I.hok.fresh (zG0 _)) (zV0 (qI1 _));let I2:=Inv.made (C:=C) I;let r2:Vals (V.ref (‹s›+1)::(vs++dvs)) (Value.ref (‹s›+1)::(us++ds)):=.cons rfl (r.append hd);let hl:(Value.ref (‹s›+1)::us++ds).length=ps.length:=by
  let e:=r2.length;rw[F.len _ _ _ _ hq]at e;exact e.symm
 refine wpAny_call (Ey (f:=f) I.kIn M.makes M.init (beq_iff_eq.mp M.fn) (vC0 (F.run _ X.stack _ _ %[Value.ref (‹s›+1)::us|[]] (Value.ref (‹s›+1)::(us++ds)) _ _ E (hr.make C us [])
  (I2.env0.make C us []) (hb _ (Value.ref (‹s›+1)::us) I2.kIn hl) r2 hq) λr s' hq'=>?_))
 cases r with
 | error e=>exact hx NO σ _ _ e s' I2 hq'
 | ok fl=>
   cases fl with
   | ret u=>
     let%[v,H',I3,rv,ev|q3]:=I2.after hq';subst ev;erw[rv,%[V.ref (‹s›+1),H',I3,1|q3]]
   | next=>exact False.elim hq'
   | brk=>exact False.elim hq'
   | cont=>exact False.elim hq'
def gn(M:Mk X.K C f)(F:FnOk X.prog X.w X.K X.mg X.base CX k f fd ps sp)(hr:Room (k+1) X.A)(hg:Gl X x)(hm:X.mg x=some (.ref C))(hb:Binds X.K fd ps ds)(hd:Vals dvs ds)(hx:kJ CX X E)
 (ha:PA X (e::es) t) (hdb:(x==("__debug__":Str))=false:=by decide) (he:starEach (e::es) X.env=(false,eval e X.env)::starEach es X.env:=by rfl) (hpl:(backTo pos (starEach es X.env)).any (·.1)=false:=by rfl) :
 PE X (.Call (.Name x p) (e::es) [] pos) (tMake C sp dvs E t):=by
 intro NO s σ H Q I h;refine qQ1 (qe I hg hm ?_ hdb);refine wN1 (h₀:=X.base) I.ok.mod.kin M.kp (thn (ha pos NO s σ H _ I h) λus s1 ⟨vs,H1,I1,r,q⟩=>%[I1.kIn|6]) he hpl;exact Dr M F hr hb hd hx I1 r q
end
structure FnScope(N P:List Str)(sc:Scope):Prop where
 kind:sc.kind=.function
 co:sc.isCoroutine=false
 gen:sc.isGenerator=false
 nd:N.Nodup
 pre:N.take P.length=P
 par:∀x∈P,sc.names.lookup x=some .local∨sc.names.lookup x=some .cell
 nofree:∀y∈sc.names,y.2≠.free
def tW{kindOf:Str->Option NameKind}{x:Str}:∀{binds:List (Str×Value)}{m:Str->Option Value},(∀v,(x,v)∉binds)->bindL kindOf binds m x=m x
 | [],_,_=>rfl
 | (n,v)::r,m,h=>by
   unfold bindL;rw[tW λw hw=>h w (qH0 _ hw)]
   split
   . have:x≠n:=by rintro rfl;exact h v qA0
     simp [this]
   . rfl
def tY{kindOf:Str->Option NameKind}{x:Str}:∀{binds:List (Str×Value)}{m:Str->Option Value},(∀v,(x,v)∉binds)->bindC kindOf binds m x=m x
 | [],_,_=>rfl
 | (n,v)::r,m,h=>by
   unfold bindC;rw[tY λw hw=>h w (qH0 _ hw)]
   split
   . rfl
   . have:x≠n:=by rintro rfl;exact h v qA0
     simp [this]
def tX{kindOf:Str->Option NameKind}{x:Str}{v:Value}:∀{P:List Str}{vs:List Value}{i:Nat}{m:Str->Option Value},P.Nodup->P[i]?=some x->vs[i]?=some v->kindOf x=some .local ->
 bindL kindOf (P.zip vs) m x=some v
 | [],_,_,_,_,h,_,_=>by simp at h
 | _::_,[],_,_,_,_,h,_=>by simp at h
 | p::P,w::vs,0,m,nd,h1,h2,hk=>by
   simp at h1 h2;subst h1;subst h2
   show bindL kindOf ((p,w)::P.zip vs) m p=_;unfold bindL;rw[tW λv hv=>(List.nodup_cons.mp nd).1 (List.of_mem_zip hv).1,NQ hk]
   simp
 | p::P,w::vs,i+1,m,nd,h1,h2,hk=>by
   show bindL kindOf ((p,w)::P.zip vs) m x=_;unfold bindL;exact tX (i:=i) (List.nodup_cons.mp nd).2 (by simpa using h1) (by simpa using h2) hk
def tZ{kindOf:Str->Option NameKind}{x:Str}{v:Value}:∀{P:List Str}{vs:List Value}{i:Nat}{m:Str->Option Value},P.Nodup->P[i]?=some x->vs[i]?=some v->kindOf x≠some .local ->
 bindC kindOf (P.zip vs) m x=some v
 | [],_,_,_,_,h,_,_=>by simp at h
 | _::_,[],_,_,_,_,h,_=>by simp at h
 | p::P,w::vs,0,m,nd,h1,h2,hk=>by
   simp at h1 h2;subst h1;subst h2
   show bindC kindOf ((p,w)::P.zip vs) m p=_;unfold bindC;rw[tY λv hv=>(List.nodup_cons.mp nd).1 (List.of_mem_zip hv).1,NP hk]
   simp
 | p::P,w::vs,i+1,m,nd,h1,h2,hk=>by
   show bindC kindOf ((p,w)::P.zip vs) m x=_;unfold bindC;exact tZ (i:=i) (List.nodup_cons.mp nd).2 (by simpa using h1) (by simpa using h2) hk
def oZ(N:List Str)(vs:List V):St:=vs.map some++List.replicate (N.length-vs.length) none
def Cc(CX:CXT)(P:Program)(w:World)(K:W.Frag)(mg:Str->Option Value)(base:Heap)(N:List Str)(qual:Str)(scope:Scope)(f:Addr)(cd:Value)(A:Around)(outer:List Env)(s:Shared)(H:Hp)(E:XK):Cx where
 prog:=P
 w:=w
 K:=K
 mg:=mg
 base:=base
 A:=A.deeper (envOfC qual scope ‹s› f cd)
 N:=N
 s₀:=s
 H₀:=H
 env:=envOfC qual scope ‹s› f cd
 outer:=outer
 stack:=envOfC qual scope ‹s› f cd::outer
 ex:=[]
 calm:=true
 fn:=λ_=>true
 pn:=[]
 xe:=λe s'=>wpAny (model P w) (A.deeper (envOfC qual scope ‹s› f cd)) (leaving (envOfC qual scope ‹s› f cd) e) (λ_ s''=>CX outer H s E e s'') (λe' s''=>CX outer H s E e' s'') s'
def xc{sc:Scope}{n:Nat}{x:Str}(h:sc.names.lookup x=some .cell):∃c,(cellsFrom n sc.names []).lookup x=some c:=by
 let q:=PySem.W.cellsFrom_some sc.names n [] (.inl h);exact Option.isSome_iff_exists.mp q
def BL{K:W.Frag}{qual:Str}{f:Addr}{cd:Value}{A:Around}{s1:Shared}{vs:List V}
 (S:FnScope N ps scope) (hd:A.handled=none) (e0:Env0 P w K mg base A outer s H) (hl:vs.length=ps.length) (r:Vals vs us)
 (x:InCallC s ‹s› (bindL (envOfC qual scope ‹s› f cd).kindOf (ps.zip us) λ_=>none) (cellsFrom (‹s›+1) scope.names []) (bindC (envOfC qual scope ‹s› f cd).kindOf (ps.zip us) λ_=>none) s1) :
 Inv (Cc CX P w K mg base N qual scope f cd A outer s H E) [] (oZ N vs) H s1:=by
 let hpl:ps.length<=N.length:=by have:=congrArg List.length S.pre;rw[qJ0]at this;omega
 erw[h1,tk,1,hk]at x.done;let noA:∀b:Addr,b∉(Cc CX P w K mg base N qual scope f cd A outer s H E).ex:=λb z=>absurd (show b∈([]:List Addr)from z) #[2]
 erw[%[e0.mod,S.kind,1,1,zG0 _,λy z c h1 h2=>?_,λy hy=>?_,λy c _ h=>?_,λ_=>hd,Around.frames_deeper e0.frames,.inr %[1|1],λb z=>absurd z (noA b),e0.bs,e0.bsz,λb _ _=>noA b,λb z=>absurd z (noA b),e0.funs|e0.frf],1,e0.bare,Un.kept hk,%[_,x.toInCall.ns|λi y v h1 h2 h3=>?_],λy c h=>%[_|x.cell y c h],e0.hok.fresh (zG0 _),λy c h=>?_,λp hp=>absurd (show p∈([]:List (Addr×Obj))from hp) #[2],e0.hok.kept hk,6]
 . exact name_of_addr x.apart (qK1 h1) (qK1 h2)
 . let hy:scope.names.lookup y=some .cell∨scope.names.lookup y=some .free:=hy;rcases hy with hy | hy
   . exact xc hy
   . exact absurd rfl (S.nofree _ (qK1 hy))
 . exact wN0 (x.above y c (qK1 h))
 . let hi:i<vs.length:=by
    unfold oZ at h2
    by_cases hi:i<vs.length
    . exact hi
    . rw [zO1 (by simpa using hi)]at h2;rw[List.getElem?_replicate]at h2
      split at h2 <;> cases h2
   let ha:vs[i]?=some v:=by
    unfold oZ at h2;rw[zW1 (by simpa using hi),zZ0]at h2;cases e:vs[i]? with
    | none=>rw[e]at h2;cases h2
    | some a=>rw[e]at h2;cases h2;rfl
   let%[u,hu|rv]:=r.get ha;let hp:ps[i]?=some y:=by
    rw[←S.pre,List.getElem?_take_of_lt #[0]];exact h1
   let ndP:ps.Nodup:=by rw[←S.pre];exact S.nd.sublist (List.take_sublist _ _)
   erw[u,rv,6];rcases S.par y (qL0 hp)with k | k
   . exact .inl %[k|tX ndP hp hu k]
   . let%[c|e]:=xc (n:=‹s›+1) k;refine .inr %[.inl k,c,e|6];let q:=x.cell y c e;rw[tZ ndP hp hu (by show scope.names.lookup y≠_;rw[k];decide)]at q;exact q
 . exact e0.hok.fresh (wN0 (x.above y c (qK1 h)))
 . unfold oZ;show _=N.length;rw[zK0,zF0,qN1];omega
def fn_of{K:W.Frag}{f:Addr}{name qual:Str}{params:Arguments}{body:List Stmt}{scope:Scope}{dV kV doc pm cdv ct oc:Value}{an od:Option Addr}
 {osl:Array (Option Value)}  {sp:Sp} (lk:K.lookup f=some %[oc,od,.func (PySem.W.fnOf name qual params body scope dV kV doc pm an cdv ct)|osl]) (hcd:PySem.W.codeIn K cdv qual=true) (S:FnScope N ps scope)
 (len:∀vs H Q E,sp vs H Q E->vs.length=ps.length)
 (hbody:∀(A:Around)(outer:List Env)(s:Shared)(H:Hp)(vs:List V)(Q:VK)(E:XK),Room k (A.deeper (envOfC qual scope ‹s› f cdv))->sp vs H Q E ->
  ∃t,PSs (Cc CX P w K mg base N qual scope f cdv A outer s H E) body t/\t { nx:=λ_ H'=>Q .non H',rt:=Q } (oZ N vs) H) :
 FnOk P w K mg base CX (k+1) f (PySem.W.fnOf name qual params body scope dV kV doc pm an cdv ct) ps sp:=by
 erw[len,λA outer s H args us vs Q E hr e0 hb r hsp=>?_];let hl:=len _ _ _ _ hsp;let KX:K.In s.heap:=e0.mod.kin.keeps λb o e=>(e0.bs b o e).1
 let lim:s.heap.NoLimit:=e0.mod.nolimit.keeps λb o e=>(e0.bs b o e).1
 let hkind:∀y∈ps.zip us,scope.names.lookup y.1=some .local∨(scope.names.lookup y.1=some .cell/\((cellsFrom (‹s›+1) scope.names []).lookup y.1).isSome=true):=fun⟨n,v⟩ hy=>by
  rcases S.par n (List.of_mem_zip hy).1 with q | q
  . exact .inl q
  . exact .inr %[q|PySem.W.cellsFrom_some _ _ _ (.inl q)]
 refine codeAny_call_function hr.depth (KX _ _ lk) rfl S.co S.gen rfl (PySem.W.codeRec_of KX hcd) (hb _ _ _ _ ?_);refine wpAny_newFunctionEnv_cells S.kind hkind λenv he s1 x=>?_
 subst he;erw[lim.keeps x.toInCall.keep,codeAny_func ?_];let%[t,ht|hq]:=hbody A outer s H vs Q E (hr.deeper _) hsp;let I:Inv (Cc CX P w K mg base N qual scope f cdv A outer s H E) [] (oZ N vs) H s1:=BL S hr.hd e0 hl r x;refine wR1 (ht [] s1 (oZ N vs) H _ I hq) (λfl s' hs=>?_) λe s' hs=>hs
 let fin:∀{σ':St}{H':Hp}{v:V}{u:Value},Inv (Cc CX P w K mg base N qual scope f cdv A outer s H E) [] σ' H' s'->RelV v u->Q v H'->CE outer P w H s Q u s':=
  fun{σ' H' v u} J rv q=>%[v,H',J.os,J.bare,J.base,J.hok,rv|q]
 cases fl with
 | ret u=>
   erw[v,σ',H',J,rv,q]at hs;exact fin J rv q
 | next=>
   erw[σ',H',J,q]at hs;exact fin (v:=V.non) (u:=Value.none) J rfl q
 | brk=>
   erw[_,_,_,q]at hs;exact False.elim q
 | cont=>
   erw[_,_,_,q]at hs;exact False.elim q
section
variable {X:Cx} {x:Str} {p pos:Pos} {e:Expr} {es:List Expr} {t:TA} {id T:String} {r:List V->Hp->VK->Prop}
def tCB(r:List V->Hp->VK->Prop)(t:TA):TE:=λσ H Q=>t σ H λvs H1=>r vs H1 Q
def aG (hc:gR X (.builtin id) r) (hg:Gl X x) (hm:X.mg x=none) (hv:bootBuiltins x=some (.builtin id)) (ha:PA X (e::es) t) (hn:x≠"__name__":=by decide) (hdb:(x==("__debug__":Str))=false:=by decide)
 (he:starEach (e::es) X.env=(false,eval e X.env)::starEach es X.env:=by rfl) (hpl:(backTo pos (starEach es X.env)).any (·.1)=false:=by rfl):PE X (.Call (.Name x p) (e::es) [] pos) (tCB r t):=by
 intro NO s σ H Q I h;refine qQ1 (ir I hg hm hv ?_ hn hdb);exact PyProof.Rows.callWith_builtin1 (thn (ha pos NO s σ H _ I h) λus s1 ⟨vs,H1,I1,r1,q1⟩=>hc NO s1 σ H1 vs us Q I1 r1 q1) he hpl
def bt (hc:gR X (.type T) r) (hg:Gl X x) (hm:X.mg x=none) (hv:bootBuiltins x=some (.type T)) (ha:PA X (e::es) t) (hn:x≠"__name__":=by decide) (hdb:(x==("__debug__":Str))=false:=by decide)
 (he:starEach (e::es) X.env=(false,eval e X.env)::starEach es X.env:=by rfl) (hpl:(backTo pos (starEach es X.env)).any (·.1)=false:=by rfl):PE X (.Call (.Name x p) (e::es) [] pos) (tCB r t):=by
 intro NO s σ H Q I h;refine qQ1 (ir I hg hm hv ?_ hn hdb);exact zN1 (thn (ha pos NO s σ H _ I h) λus s1 ⟨vs,H1,I1,r1,q1⟩=>hc NO s1 σ H1 vs us Q I1 r1 q1) he hpl
end
end L2
namespace HT
open PySem PyProof.Rows
section
variable {prog:Program} {w:World} {A:Around} {E:Value->Shared->Prop} {s:Shared}
def cat_tup{t b:Addr}{vs ws:List Value}{Q:Value->Shared->Prop}(ht:IsTup s.heap t vs.toArray)(hb:IsTup s.heap b ws.toArray)(hv:vs≠[])
 (h1:ws=[]->Q (.ref t) s) (h2:ws≠[]->Q (.ref ‹s›) { s with heap:=s.heap.push { cls:=.type "tuple",data:=.seq (vs++ws).toArray } })
 (hsz:vs.length+ws.length<=sizeLine):wpAny (model prog w) A (binaryOp .Add (.ref t) (.ref b)) Q E s:=by
 let%[%[cls,dd,data|sl],ho,hc,n|hd]:=id ht;let%[%[cls2,dd2,data2|sl2],ho2,hc2,n2|hd2]:=id hb;simp only at hc hd hc2 hd2;subst hc hd hc2 hd2;let e:vs.toArray++ws.toArray=(vs++ws).toArray:=by simp
 by_cases hw:ws=[]
 . exact concat_meets %[_,ho|1] ⟨_,ho2,rfl⟩ vA0 seq_tuple_add jV1 jU0 (jS0 _ _)
    (tuple_addW1 t b vs.toArray ws.toArray n n2 dd dd2 sl sl2 (by simpa using hv) (by simp [hw])) %[ho,ho2|h1 hw]
 . refine concat_meets %[_,ho|1] ⟨_,ho2,rfl⟩ vA0 seq_tuple_add jV1 jU0 (jS0 _ _)
    (tuple_addW2 t b vs.toArray ws.toArray n n2 dd dd2 sl sl2 (by simpa using hv) (by simpa using hw) (by rw[zS0,zS0];exact hsz)) %[ho,ho2|6]
   rw[e];exact h2 hw
def sIx(n d:Nat):Option Int->Nat
 | none=>d
 | some v=>if v<0 then(v+(n:Int)).toNat else min v.toNat n
def sIx_none(n d:Nat):sIx n d none=d:=rfl
def sIx_nat(n d k:Nat):sIx n d (some (k:Int))=min k n:=by
 show(if(k:Int)<0 then((k:Int)+(n:Int)).toNat else min (k:Int).toNat n)=min k n;rw[NP #[0],qS0]
def IK(n d:Nat)(hd:d<=n)(o:Option Int):sIx n d o<=n:=by
 cases o with
 | none=>exact hd
 | some v=>
   show(if v<0 then(v+(n:Int)).toNat else min v.toNat n)<=n
   by_cases hv:v<0
   . rw[NQ hv];omega
   . rw[NP hv];exact Nat.min_le_right _ _
def Aq(v:Int)(n d:Nat):(if v<0 then max (v+(n:Int)) 0 else min v (n:Int))=((sIx n d (some v):Nat):Int):=by
 show(if v<0 then max (v+(n:Int)) 0 else min v (n:Int))=(((if v<0 then(v+(n:Int)).toNat else min v.toNat n):Nat):Int)
 by_cases hv:v<0
 . simp only[NQ hv];omega
 . simp only[NP hv];omega
def zn(lo hi:Option Int)(n:Nat):Builtin.Slice.sliceAdjust lo hi 1 (n:Int)=(((sIx n 0 lo:Nat):Int),((sIx n n hi:Nat):Int)):=by
 let h1:¬ ((1:Int)<0):=by omega
 unfold Builtin.Slice.sliceAdjust;simp only[h1,if_false];refine Prod.ext ?_ ?_
 . cases lo with
   | none=>rfl
   | some v=>exact Aq v n 0
 . cases hi with
   | none=>rfl
   | some v=>exact Aq v n n
def yd(i j:Nat):Builtin.Slice.slicePlaces (i:Int) (j:Int) 1=j-i:=by
 unfold Builtin.Slice.slicePlaces;let h1:(1:Int)>0:=by omega
 simp only[h1,vF1,Int.ediv_one]
 split <;> omega
def qB{v:Value}{o:Option Int}{Q:Option Int->Shared->Prop}(p:IsPart v o)(h:Q o s):wpAny (model prog w) A (Builtin.Slice.slicePartIndex v) Q E s:=by
 cases p with
 | none=>exact slicePart_none h
 | int i t=>exact slicePart_int h
def iR{sl:Addr}{vl vu:Value}{lo hi:Option Int}{Q:Int×Int×Nat->Shared->Prop}(hs:s.heap.IsSliceOf sl vl vu .none)(pl:IsPart vl lo)(pu:IsPart vu hi)
 (h:Q (((sIx n 0 lo:Nat):Int),1,sIx n n hi-sIx n 0 lo) s):wpAny (model prog w) A (Builtin.Slice.sliceApplied (.ref sl) (pure (n:Int))) Q E s:=by
 let%[os,hos,hcs|hds]:=id hs;unfold Builtin.Slice.sliceApplied Builtin.Slice.sliceFields;refine zE0 (zE0 (zR1 hos hds (x:=vl) rfl (zE0 (zR1 hos hds (x:=vu) rfl (zE0 (zR1 hos hds (x:=.none) rfl (zI0 ?_)))))));refine zE0 (slicePart_none ?_);show wpAny _ _ (if((1:Int)==0)=true then _ else _) _ _ s;rw[NP ⋯];refine zE0 (qB pl (zE0 (qB pu (zE0 (zI0 ?_)))));show wpAny _ _ (match Builtin.Slice.sliceAdjust lo hi 1 (n:Int)with | (lo,hi)=>pure (lo,(1:Int),Builtin.Slice.slicePlaces lo hi 1)) _ _ s;rw[zn lo hi n];show wpAny _ _ (pure (((sIx n 0 lo:Nat):Int),(1:Int),Builtin.Slice.slicePlaces ((sIx n 0 lo:Nat):Int) ((sIx n n hi:Nat):Int) 1)) _ _ s;rw[yd];exact zI0 h
def DD(xs:Array Value)(i k:Nat):((List.range k).filterMap fun(m:Nat)=>xs[((i:Int)+(m:Int)*1).toNat]?).toArray=((xs.toList.drop i).take k).toArray:=by
 let e:(fun(m:Nat)=>xs[((i:Int)+(m:Int)*1).toNat]?)=λm=>xs[i+m]?:=by
  funext m
  have:((i:Int)+(m:Int)*1).toNat=i+m:=by omega
  rw[this]
 rw[e]
 have:=pick_run xs i k
 rw[List.filterMap_map]at this;let e2:((λx=>xs[x]?) ∘ λx=>i+x)=λm=>xs[i+m]?:=rfl
 rw[e2]at this;rw[this]
def getItem_tuple_cut{t sl:Addr}{items:Array Value}{vl vu:Value}{lo hi:Option Int}{Q:Value->Shared->Prop}(ht:IsTup s.heap t items)(hs:s.heap.IsSliceOf sl vl vu .none)(pl:IsPart vl lo)(pu:IsPart vu hi)
 (hw:¬ (sIx items.size 0 lo=0/\sIx items.size items.size hi=items.size))
 (h:Q (.ref ‹s›) { s with heap:=s.heap.push { cls:=.type "tuple",data:=.seq ((items.toList.drop (sIx items.size 0 lo)).take (sIx items.size items.size hi-sIx items.size 0 lo)).toArray } })
 (hsz:items.size<=sizeLine):wpAny (model prog w) A (getItem (.ref t) (.ref sl)) Q E s:=by
 let htake:sizeOk (.seq ((items.toList.drop (sIx items.size 0 lo)).take (sIx items.size items.size hi-sIx items.size 0 lo)).toArray):=by
  show((items.toList.drop (sIx items.size 0 lo)).take (sIx items.size items.size hi-sIx items.size 0 lo)).toArray.size<=sizeLine;rw[zS0,qJ0,qJ1,zY1];omega
 let hj:sIx items.size items.size hi<=items.size:=IK _ _ (zG0 _) hi;let%[os,hos,hcs|hds]:=id hs;let hTs:s.TypeIs (.ref sl) "slice":=%[os,hos|hcs]
 unfold getItem
 try with_reducible refine jM0 ?_
 first | refine zE0 (zI0 ?_) | skip
 refine zE0 (wpAny_sequenceKey ht.typeIs ⋯ ?_);refine zE0 (zQ1 (name:=Str.ofString "__getitem__") ht.typeIs qL1
  (qF1 qL1 ht.typeIs entry_tuple_getitem ?_ (args_tuple_getitem _ _)))
 show wpAny _ _ (Builtin.Tuple.tupleItemsOf (.ref t) >>= _) _ _ s;refine zE0 (tupleItemsOf_ ht ?_);refine zE0 (wpAny_typeOf hTs ?_);rw[NQ ⋯];refine zE0 (iR hs pl pu ?_);let hno:¬ ((((sIx items.size 0 lo:Nat):Int)==0&&(1:Int)==1&&(sIx items.size items.size hi-sIx items.size 0 lo)==items.size)=true):=by
  intro q;rw[qR1,qR1]at q;let q1:((sIx items.size 0 lo:Nat):Int)=0:=eq_of_beq q.1.1;let q2:sIx items.size items.size hi-sIx items.size 0 lo=items.size:=eq_of_beq q.2;exact hw %[3|3]
 show wpAny _ _ (if(((sIx items.size 0 lo:Nat):Int)==0&&(1:Int)==1&&(sIx items.size items.size hi-sIx items.size 0 lo)==items.size)=true then _ else _) _ _ s;rw[NP hno,DD]
 first
  | exact zE0 (m:=Builtin.Tuple.tupleExact _) (zP1 (zI0 ⟨_,rfl,zI0 h⟩) htake)
  | exact zE0 (m:=Builtin.Tuple.tupleExact _) (zP1 (zE0 (zI0 (zI0 ⟨_,rfl,zI0 h⟩))) htake)
  | exact zE0 (zE0 (m:=Builtin.Tuple.tupleExact _) (zP1 (zI0 (zI0 ⟨_,rfl,zI0 h⟩)) htake))
  | exact zE0 (zE0 (m:=Builtin.Tuple.tupleExact _) (zP1 (zI0 ⟨_,rfl,zI0 h⟩) htake))
end
end HT
namespace L2
open PySem PySem.Spec PyProof.Rows
abbrev TO:=St->Hp->(Option Int->Hp->Prop)->Prop
def PO(X:Cx)(e:Option Expr)(t:TO):Prop:=
 ∀(NO:List (Addr×Obj))(s:Shared)(σ:St)(H:Hp)(Q:Option Int->Hp->Prop),Inv X NO σ H s->t σ H Q ->
  wpAny (model X.prog X.w) X.A (evalPart e X.env) (λu s'=>∃o H',Inv X NO σ H' s'/\IsPart u o/\Q o H') X.xe s
def FS:TO:=λ_ H Q=>Q none H
instance ZtPart(Q:(Option Int->Hp->Prop))(x:V)(H1:Hp):∀i,x=.int i->Q (some i) H1:=0
def tPart(t:TE):TO:=λσ H Q=>t σ H λx H1=>ZtPart Q x H1
section
variable {X:Cx} {e:Expr} {te:TE} {lo hi:Option Expr} {tl th:TO} {pos p2:Pos}
def iD:PO X none FS:=by
 intro NO s σ H Q I h;rw[evalPart_none];exact zI0 %[none,H,I,.none|h]
def eM(h:PE X e te):PO X (some e) (tPart te):=by
 intro NO s σ H Q I hw;rw[evalPart_some];refine thn (h NO s σ H _ I hw) λu s1 ⟨x,H1,I1,r1,q1⟩=>?_
 erw[i,1,q]at q1;erw[t,1]at r1;erw[some i,H1,I1,.int i t,q]
def SlR(X:Cx)(r:V->Option Int->Option Int->Hp->VK->Prop):Prop:=
 ∀(NO:List (Addr×Obj))(s:Shared)(σ:St)(H:Hp)(x:V)(v vl vu:Value)(lo hi:Option Int)(sl:Addr)(Q:VK),Inv X NO σ H s->RelV x v->s.heap.IsSliceOf sl vl vu .none->IsPart vl lo->IsPart vu hi->r x lo hi H Q ->
  ∃T id,typeLookup (.type T) "__getitem__"=pure (some (.builtin id))/\s.TypeIs v T/\wpAny (model X.prog X.w) X.A (getItem v (.ref sl)) (EP X NO σ Q) X.xe s
def tSl(r:V->Option Int->Option Int->Hp->VK->Prop)(te:TE)(tl th:TO):TE:=λσ H Q=>te σ H λx H1=>tl σ H1 λl H2=>th σ H2 λu H3=>r x l u H3 Q
def eJ(hr:SlR X r)(he:PE X e te)(hl:PO X lo tl)(hu:PO X hi th):PE X (.Subscript e (.Slice lo hi none p2) pos) (tSl r te tl th):=by
 intro NO s σ H Q I h;refine Subscript_ (thn (he NO s σ H _ I h) λv s1 ⟨x,H1,I1,r1,q1⟩=>?_);refine wpAny_Slice (thn (hl NO s1 σ H1 _ I1 q1) λvl s2 ⟨l,H2,I2,pl,q2⟩=>thn (hu NO s2 σ H2 _ I2 q2) λvu s3 ⟨u,H3,I3,pu,q3⟩=>?_);rw[evalPart_none];refine zI0 ?_;let I4:Inv X NO σ H3 { s3 with heap:=s3.heap.push { cls:=.type "slice",data:=.fields #[vl,vu,.none] } }:=I3.kept (t':=s3.toks) λb ob q=>zQ0 _ q
 let%[T,id,hT,ht|hg]:=hr NO { s3 with heap:=s3.heap.push { cls:=.type "slice",data:=.fields #[vl,vu,.none] } } σ H3 x v vl vu l u ‹s3› Q I4 r1 (Heap.IsSliceOf.new ..) pl pu q3;show wpAny (model X.prog X.w) X.A (subscriptTail e (.Slice lo hi none p2) v (.ref ‹s3›)) (EP X NO σ Q) X.xe { s3 with heap:=s3.heap.push { cls:=.type "slice",data:=.fields #[vl,vu,.none] } };exact tail_any (ops:=[.ref ‹s3›,v]) ht hT hg (by rfl')
def iP(xs:List V)(lo hi:Option Int):List V:=(xs.drop (HT.sIx xs.length 0 lo)).take (HT.sIx xs.length xs.length hi-HT.sIx xs.length 0 lo)
def pK(xs:List V)(lo hi:Option Int):(iP xs lo hi).length<=xs.length:=by
 unfold iP;rw[qJ0,qJ1];omega
instance rSlT(K:W.Frag)(x:V)(lo:Option Int)(hi:Option Int)(H:Hp)(Q:VK):∀a xs,x=.ref a->SqT K H a xs->(¬ (HT.sIx xs.length 0 lo=0/\HT.sIx xs.length xs.length hi=xs.length))->(∀p,H p=none->Q (.ref p) (upd H p (.tup (iP xs lo hi)))):=0
def qC:SlR X (rSlT X.K):=by
 intro NO s σ H x v vl vu lo hi sl Q I rx hs pl pu h;erw[a,xs,1,hx,hw,q]at h;cases rx;let%[its,r,ht|hz]:=I.tuple hx;let hlen:its.toArray.size=xs.length:=by rw[zS0];exact r.length.symm
 erw["tuple",_,PyProof.Rows.slot_tuple_getitem.lookup,ht.typeIs,6];refine HT.getItem_tuple_cut ht hs pl pu (by rw[hlen];exact hw) ?_ (by rw[hlen];exact hz);rw[hlen];erw[.ref ‹s›,_,I.laid (t':=s.toks) (o:=.tup (iP xs lo hi)) (λb ob q=>zQ0 _ q) (zG0 _) ?_,1,q _ (I.hok.fresh (zG0 _))];erw[zR0 (pK xs lo hi) hz,_,(r.drop (HT.sIx xs.length 0 lo)).take (HT.sIx xs.length xs.length hi-HT.sIx xs.length 0 lo),IsTup.new _ _,_,qB0 _ rfl,1]
instance rCatT(K:W.Frag)(x:V)(y:V)(H:Hp)(Q:VK):∀a b xs ys,x=.ref a->y=.ref b->SqT K H a xs->SqT K H b ys->xs≠[]->xs.length+ys.length<=sizeLine->(ys=[]->Q (.ref a) H)->(ys≠[]->∀p,H p=none->Q (.ref p) (upd H p (.tup (xs++ys)))):=0
def Vals.nil_iff(r:Vals xs us):us=[]↔xs=[]:=by
 cases r with
 | nil=>simp
 | cons _ _=>simp
def op_catT:OpR X (binaryOp .Add) (rCatT X.K):=by
 intro NO s σ H x y v u Q I rx ry h;erw[a,b,xs,ys,1,1,ha,hb,hx,hz,q1,q2]at h;cases rx;cases ry;let%[its,r1,p1|_]:=I.tuple ha;let%[its2,r2,p2|_]:=I.tuple hb;refine HT.cat_tup p1 p2 (λz=>hx (r1.nil_iff.mp z)) (λz=>%[.ref a,H,I,1|q1 (r2.nil_iff.mp z)]) (λz=>?_) (by rw[←r1.length,←r2.length];exact hz);erw[.ref ‹s›,_,I.laid (t':=s.toks) (o:=.tup (xs++ys)) (λb ob q=>zQ0 _ q) (zG0 _) ?_,1,q2 (λw=>z (r2.nil_iff.mpr w)) _ (I.hok.fresh (zG0 _))];erw[by rw[zK0];exact hz,_,r1.append r2,IsTup.new _ _,_,qB0 _ rfl,1]
end
def ixN(n:Nat)(i:Int):Option Nat:=if 0<=i then(if i<n then some i.toNat else none)else if -(n:Int)<=i then some (i+n).toNat else none
def atI{α:Type}(xs:List α)(i:Int):Option α:=(ixN xs.length i).bind λj=>xs[j]?
def vt{j:Nat}(h:ixN n i=some j):seqIndex? i n=some j/\j<n/\-(n:Int)<=i/\i<n:=by
 unfold ixN at h
 by_cases h0:0<=i
 . rw [NQ h0]at h
   by_cases h1:i<n
   . rw[NQ h1]at h;let e:i.toNat=j:=zT0 h;erw[by rw[seqIndex_of h0 h1,e],3,3,h1]
   . rw[NP h1]at h;cases h
 . rw [NP h0]at h
   by_cases h1:-(n:Int)<=i
   . rw[NQ h1]at h;let e:(i+n).toNat=j:=zT0 h;erw[by rw[seqIndex_neg #[0] h1,e],3,h1,3]
   . rw[NP h1]at h;cases h
def vI{α:Type}{xs:List α}{v:α}(h:atI xs i=some v):∃j,seqIndex? i xs.length=some j/\xs[j]?=some v/\j<xs.length/\-(xs.length:Int)<=i/\i<xs.length:=by
 unfold atI at h;cases e:ixN xs.length i with
 | none=>rw[e]at h;cases h
 | some j=>
   rw[e]at h;let%[h1,h2,h3|h4]:=vt e;erw[j,h1,h,h2,h3,h4]
def cx{α:Type}{xs:List α}{j:Nat}{v:α}(h:xs[j]?=some v):atI xs (j:Int)=some v:=by
 let hj:j<xs.length:=(zY0 h).1;let e:ixN xs.length (j:Int)=some j:=by
  unfold ixN;rw[NQ #[0],NQ #[0]];simp
 unfold atI;rw[e];exact h
def xr{α:Type}(xs:List α)(v:α):atI (xs++[v]) (-1)=some v:=by
 let hl:(xs++[v]).length=xs.length+1:=by simp
 let e:ixN (xs++[v]).length (-1)=some xs.length:=by
  unfold ixN;rw[hl,NP ⋯,NQ #[0]]
  congr 1
  omega
 unfold atI;rw[e];show(xs++[v])[xs.length]?=some v
 simp
def HL(b:Expr):Prop:=∀o i,subscripted b false o i=operate [o,i] (getItem o i)
def IxR(X:Cx)(r:R2):Prop:=
 ∀(value slice:Expr)(NO:List (Addr×Obj))(s:Shared)(σ:St)(H:Hp)(x y:V)(v u:Value)(Q:VK),Inv X NO σ H s->RelV x v->RelV y u->r x y H Q ->
  subscripted slice false v u=operate [v,u] (getItem v u)->wpAny (model X.prog X.w) X.A (subscriptTail value slice v u) (EP X NO σ Q) X.xe s
def MtR(X:Cx)(id:String)(r:V->List V->Hp->VK->Prop):Prop:=
 ∀(NO:List (Addr×Obj))(s:Shared)(σ:St)(H:Hp)(x:V)(xs:List V)(v:Value)(us:List Value)(Q:VK),Inv X NO σ H s->RelV x v->Vals xs us->r x xs H Q ->
  wpAny (model X.prog X.w) X.A (call (.builtin id) (v::us)) (EP X NO σ Q) X.xe s
section
variable {X:Cx} {a b:Expr} {ta tb:TE} {pos:Pos}
def IxR.or(h:IxR X r)(h':IxR X r'):IxR X (λx y H Q=>r x y H Q∨r' x y H Q):=by
 intro value slice NO s σ H x y v u Q I rx ry q hs;rcases q with q | q
 . exact h value slice NO s σ H x y v u Q I rx ry q hs
 . exact h' value slice NO s σ H x y v u Q I rx ry q hs
def aM(hr:IxR X r)(ha:PE X a ta)(hb:PE X b tb)(hs:HL b):PE X (.Subscript a b pos) (tOp r ta tb):=by
 intro NO s σ H Q I h;exact Subscript_ (JO ha hb I h λv u s2 x y H2 I2 rx ry q=>hr a b NO s2 σ H2 x y v u Q I2 rx ry q (hs _ _))
instance rIxL(K:W.Frag)(x:V)(y:V)(H:Hp)(Q:VK):∀p xs i v,x=.ref p->y=.int i->SqL K H p xs->atI xs i=some v->Q v H:=0
instance rIxT(K:W.Frag)(x:V)(y:V)(H:Hp)(Q:VK):∀p xs i v,x=.ref p->y=.int i->SqT K H p xs->atI xs i=some v->Q v H:=0
instance rIxS(x:V)(y:V)(H:Hp)(Q:VK):∀z i c,x=.str z->y=.int i->z.length<=sizeLine->atI z.cps.toList i=some c->Q (.str ⟨#[c]⟩) H:=0
def ix_list:IxR X (rIxL X.K):=by
 intro value slice NO s σ H x y v u Q I rx ry h hs;erw[p,xs,i,z,1,1,hq,he,q]at h;cases rx;erw[t,1]at ry;let%[its,r,pl|hz]:=I.list hq;let%[j,h1,h2,h3,h4|h5]:=vI he;let%[w,ew|rw']:=r.get h2;let hl:=r.length;let hn:=jG;let fin:EP X NO σ Q w s:=%[z,H,I,rw'|q]
 by_cases h0:0<=i
 . let hj:i.toNat=j:=by
    rw[seqIndex_of h0 h5]at h1;exact zT0 h1
   exact item_listR pl.isList h0 #[0] (by rw[hj];simpa using ew) fin hs
 . let hj:(i+(its.toArray.size:Int)).toNat=j:=by
    rw[seqIndex_neg #[0] h4]at h1;rw[zS0,←hl];exact zT0 h1
   exact subscriptTail_builtinR (x:=w) pl.isList.typeIs slot_list_getitem.lookup
    (wpAny_getItem_list_neg (Q:=λr s'=>r=w/\EP X NO σ Q r s') pl.isList #[0] (by rw[zS0] <;> omega) #[0] (by rw[hj];simpa using ew) %[1|fin]) hs
def ix_tup:IxR X (rIxT X.K):=by
 intro value slice NO s σ H x y v u Q I rx ry h hs;erw[p,xs,i,z,1,1,hq,he,q]at h;cases rx;erw[t,1]at ry;let%[its,r,pl|hz]:=I.tuple hq;let%[j,h1,h2,h3,h4|h5]:=vI he;let%[w,ew|rw']:=r.get h2;let hl:=r.length;let hn:=jG;let fin:EP X NO σ Q w s:=%[z,H,I,rw'|q]
 exact subscriptTail_builtinR (x:=w) pl.typeIs slot_tuple_getitem.lookup
  (getItem_tuple (j:=j) (Q:=λr s'=>r=w/\EP X NO σ Q r s') pl #[0] #[0] (by rw[zS0,←hl];exact h1) (by simpa using ew) %[1|fin]) hs
def rX:IxR X rIxS:=by
 intro value slice NO s σ H x y v u Q I rx ry h hs;erw[z,i,c,1,1,hz,he,q]at h;erw[t,1]at rx;erw[t',1]at ry;let%[j,h1,h2,h3,h4|h5]:=vI he;let hl:z.cps.toList.length=z.length:=by simp [Str.length]
 rw [hl]at h1 h4 h5;let hn:=jG;exact tail_any (wF0 s z t) slot_str_getitem.lookup (getItem_str (c:=c) (by
  let e1:decide (i < -(2 ^ 63:Int))=false:=zB1 #[0];let e2:decide (i≥2 ^ 63)=false:=zB1 #[0];rw[e1,e2,Bool.or_false]) (by rw[h1];simpa using h2) %[.str %[|#[c]],H,I.tok _,%[|0]|q]) hs
def rIx(K:W.Frag):R2:=λx y H Q=>rIxL K x y H Q∨rIxT K x y H Q∨rIxS x y H Q
def EJ:IxR X (rIx X.K):=ix_list.or (ix_tup.or rX)
def yF (its:List Value) (n j:Nat) (u:Value):Obj.mapSeq (·.setIfInBounds j u) { cls:=.type "list",data:=.seq its.toArray n }={ cls:=.type "list",data:=.seq (its.set j u).toArray n }:=by
 simp [Obj.mapSeq]
def Inv.lst{NO:List (Addr×Obj)}{σ:St}{H:Hp}{s:Shared}{p:Addr}{xs:List V}(I:Inv X NO σ H s)(h:H p=some (.lst xs)) :
 ∃(its:List Value) (n:Nat),Vals xs its/\s.heap.get? p=some { cls:=.type "list",data:=.seq its.toArray n }/\xs.length<=sizeLine:=by
 let%[z,its,n,r|e]:=I.hok p _ h;erw[its,n,r,e,z]
def Inv.lstUpd{σ:St}{p:Addr}{xs:List V}{its its':List Value}{n n':Nat}{f:Obj->Obj}(I:Inv X NO σ H s)(h:H p=some (.lst xs))
 (ho:s.heap.get? p=some { cls:=.type "list",data:=.seq its.toArray n }) (hf:f { cls:=.type "list",data:=.seq its.toArray n }={ cls:=.type "list",data:=.seq its'.toArray n' }) (r:Vals ys its') (hz:ys.length<=sizeLine) (t:Nat) :
 Inv X NO σ (upd H p (.lst ys)) { s with heap:=s.heap.update p f,toks:=t }:=by
 let e:(s.heap.update p f).get? p=some { cls:=.type "list",data:=.seq its'.toArray n' }:=by
  rw[Heap.get?_update_self f ho (by rw[hf] <;> rfl),hf]
 refine I.write (x:=p) (e:=p) (by rw[h];trivial) (.inl rfl) (λb u hb q=>(Heap.get?_update_other _ _ (Ne.symm hb)).trans q) %[_|e] ?_;erw[hz,its',n',r,e]
instance rSetL(o:V)(i:V)(v:V)(H:Hp)(Q:(Hp->Prop)):∀p xs k j,o=.ref p->i=.int k->H p=some (.lst xs)->ixN xs.length k=some j->Q (upd H p (.lst (xs.set j v))):=0
def qE:PSet X rSetL:=by
 intro NO s σ H o i v ov iv u Q I ro ri rv h;erw[p,xs,k,j,1,1,hp,hj,q]at h;cases ro;erw[t,1]at ri;let%[its,n,r,ho|hz]:=I.lst hp;let%[h1,h2,h3|h4]:=vt hj;let hl:=r.length;let hn:=jG;let I':Inv X NO σ (upd H p (.lst (xs.set j v))) { s with heap:=s.heap.update p (Obj.mapSeq (·.setIfInBounds j u)) }:=
  I.lstUpd hp ho (yF its n j u) (r.set rv j) (by rw[List.length_set];exact hz) s.toks
 by_cases h0:0<=k
 . let hk:k.toNat=j:=by
    rw[seqIndex_of h0 h4]at h1;exact zT0 h1
   exact PySem.W.ki_setAt ho h0 #[0] (by rw[zS0,←hl];exact h4) (by rw[hk];erw[_,I',q])
 . let hk:(k+(its.toArray.size:Int)).toNat=j:=by
    rw[seqIndex_neg #[0] h3]at h1;rw[zS0,←hl];exact zT0 h1
   exact PySem.W.ki_setBack ho #[0] (by rw[zS0,←hl];exact h3) #[0] (by rw[hk];erw[_,I',q])
def ue(lo hi:Option Int)(n:Nat):(sliceBounds lo hi none n).1=((HT.sIx n 0 lo:Nat):Int)/\(sliceBounds lo hi none n).2.1=((HT.sIx n n hi:Nat):Int)/\(sliceBounds lo hi none n).2.2=1:=by
 erw[6,6,1]
 . cases lo with
   | none=>simp [sliceBounds,HT.sIx]
   | some i=>
     simp only[sliceBounds,HT.sIx,Option.getD_none,show(1:Int)>0 by decide,vF1]
     by_cases h:i<0
     . simp only[h,vF1] <;> omega
     . simp only[h,if_false] <;> omega
 . cases hi with
   | none=>simp [sliceBounds,HT.sIx]
   | some i=>
     simp only[sliceBounds,HT.sIx,Option.getD_none,show(1:Int)>0 by decide,vF1]
     by_cases h:i<0
     . simp only[h,vF1] <;> omega
     . simp only[h,if_false] <;> omega
def sI(its:List Value)(lo hi:Option Int):slicePick its.toArray lo hi none=((its.drop (HT.sIx its.length 0 lo)).take (HT.sIx its.length its.length hi-HT.sIx its.length 0 lo)).toArray:=by
 let%[h1,h2|h3]:=ue lo hi its.toArray.size;unfold slicePick;rw[h1,h2,h3];simp only[sliceRange_one,pick_run,zS0] <;> rfl
instance rSlL(K:W.Frag)(x:V)(lo:Option Int)(hi:Option Int)(H:Hp)(Q:VK):∀a xs,x=.ref a->SqL K H a xs->(∀p,H p=none->Q (.ref p) (upd H p (.lst (iP xs lo hi)))):=0
def Ge:SlR X (rSlL X.K):=by
 intro NO s σ H x v vl vu lo hi sl Q I rx hs pl pu h;erw[a,xs,1,hx,q]at h;cases rx;let%[its,r,ht|hz]:=I.list hx;let hlen:=r.length;erw["list",_,slot_list_getitem.lookup,ht.isList.typeIs,6];refine wpAny_getItem_list_slice ht.isList hs pl pu .none #[2] ?_ (by rw[zS0] <;> omega);rw[sI,←hlen];erw[.ref ‹s›,_,I.laid (t':=s.toks) (o:=.lst (iP xs lo hi)) (λb ob q=>zQ0 _ q) (zG0 _) ?_,1,q _ (I.hok.fresh (zG0 _))];erw[zR0 (pK xs lo hi) hz,_,(0),(r.drop (HT.sIx xs.length 0 lo)).take (HT.sIx xs.length xs.length hi-HT.sIx xs.length 0 lo),qB0 _ rfl]
def jN:V->Bool
 | .non=>true
 | .bl _=>true
 | .int _=>true
 | .str _=>true
 | _=>false
def eqV:V->V->Bool
 | .non,.non=>true
 | .bl a,.bl b=>a==b
 | .bl a,.int b=>(if a then 1 else 0)==b
 | .int a,.bl b=>a==(if b then 1 else 0)
 | .int a,.int b=>a==b
 | .str a,.str b=>a==b
 | _,_=>false
def Jy{A:Around}{s:Shared}(ry:RelV y u)(rx:RelV x v)(fy:jN y=true)(fx:jN x=true):SeqAt.EqAt A s u v (eqV y x):=by
 cases y with
 | non=>
   cases ry;cases x with
   | non=>cases rx;exact SeqAt.EqAt.same _
   | bl b=>cases rx;exact SeqAt.EqAt.none_bool b
   | int b=>erw[t,1]at rx;exact SeqAt.EqAt.none_int b t
   | str b=>erw[t,1]at rx;exact SeqAt.EqAt.none_str b t
   | _=>exact absurd (show false=true from fx) qC0
 | bl a=>
   cases ry;cases x with
   | non=>cases rx;exact SeqAt.EqAt.bool_none a
   | bl b=>cases rx;exact SeqAt.EqAt.bool_bool a b
   | int b=>erw[t,1]at rx;exact SeqAt.EqAt.bool_int a b t
   | str b=>erw[t,1]at rx;exact SeqAt.EqAt.bool_str a b t
   | _=>exact absurd (show false=true from fx) qC0
 | int a=>
   erw[t',1]at ry;cases x with
   | non=>cases rx;exact SeqAt.EqAt.int_none a t'
   | bl b=>cases rx;exact SeqAt.EqAt.int_bool a t' b
   | int b=>erw[t,1]at rx;exact SeqAt.EqAt.int_int a t' b t
   | str b=>erw[t,1]at rx;exact SeqAt.EqAt.int_str a t' b t
   | _=>exact absurd (show false=true from fx) qC0
 | str a=>
   erw[t',1]at ry;cases x with
   | non=>cases rx;exact SeqAt.EqAt.str_none a t'
   | bl b=>cases rx;exact SeqAt.EqAt.str_bool a t' b
   | int b=>erw[t,1]at rx;exact SeqAt.EqAt.str_int a t' b t
   | str b=>erw[t,1]at rx;exact SeqAt.EqAt.str_str a t' b t
   | _=>exact absurd (show false=true from fx) qC0
 | _=>exact absurd (show false=true from fy) qC0
def eqU(x:V)(u:Value):Bool:=match u with
 | .none=>eqV .non x
 | .bool b=>eqV (.bl b) x
 | .int i _=>eqV (.int i) x
 | .str z _=>eqV (.str z) x
 | _=>false
def yT(r:RelV y u)(f:jN y=true):eqU x u=eqV y x:=by
 cases y with
 | non=>cases r;rfl
 | bl b=>cases r;rfl
 | int i=>erw[t,1]at r;rfl
 | str z=>erw[t,1]at r;rfl
 | _=>exact absurd (show false=true from f) qC0
def oj:∀{xs:List V}{us:List Value},Vals xs us->xs.all jN=true->us.any (eqU x)=xs.any λy=>eqV y x
 | _,_,.nil,_=>rfl
 | y::xs,u::us,.cons r t,f=>by
   rw[wE1,qR1]at f;rw[jE0,jE0,yT r f.1,oj t f.2]
def gB{A:Around}{s:Shared}(rx:RelV x v)(fx:jN x=true):∀{xs:List V}{us:List Value},Vals xs us->xs.all jN=true->∀u∈us,SeqAt.EqAt A s u v (eqU x u)
 | _,_,.nil,_=>λu hu=>by cases hu
 | y::xs,u::us,.cons r t,f=>λu' hu=>by
   rw[wE1,qR1]at f;rcases zW0 hu with rfl | hu
   . rw[yT r f.1];exact Jy r rx f.1 fx
   . exact gB rx fx t f.2 u' hu
def inV(x:V)(xs:List V):Bool:=xs.any λy=>eqV y x
instance rIn(K:W.Frag)(neg:Bool)(x:V)(y:V)(H:Hp)(Q:VK):∀p xs,y=.ref p->SqL K H p xs∨SqT K H p xs->jN x=true->xs.all jN=true->Q (.bl (if neg then !inV x xs else inV x xs)) H:=0
def fY:OpR X (compareOp .In) (rIn X.K false):=by
 intro NO s σ H x y v u Q I rx ry h;erw[p,xs,1,hq,fx,fs,q]at h;cases ry;rcases hq with hq | hq
 . let%[its,r,pl|hz]:=I.list hq;refine SeqAt.in_listAt (eqU x) pl.isList (λw hw=>gB rx fx r fs w (by simpa using hw)) %[.bl _,H,I,1|6];rw[show its.toArray.any (eqU x)=its.any (eqU x) by simp,oj r fs];exact q
 . let%[its,r,pl|hz]:=I.tuple hq;refine SeqAt.in_tupleAt (eqU x) pl (λw hw=>gB rx fx r fs w (by simpa using hw)) %[.bl _,H,I,1|6];rw[show its.toArray.any (eqU x)=its.any (eqU x) by simp,oj r fs];exact q
def uV:OpR X (compareOp .NotIn) (rIn X.K true):=by
 intro NO s σ H x y v u Q I rx ry h;erw[p,xs,1,hq,fx,fs,q]at h;cases ry;rcases hq with hq | hq
 . let%[its,r,pl|hz]:=I.list hq;refine SeqAt.notIn_listAt (eqU x) pl.isList (λw hw=>gB rx fx r fs w (by simpa using hw)) %[.bl _,H,I,1|6];rw[show its.toArray.any (eqU x)=its.any (eqU x) by simp,oj r fs];exact q
 . let%[its,r,pl|hz]:=I.tuple hq;refine SeqAt.notIn_tupleAt (eqU x) pl (λw hw=>gB rx fx r fs w (by simpa using hw)) %[.bl _,H,I,1|6];rw[show its.toArray.any (eqU x)=its.any (eqU x) by simp,oj r fs];exact q
def uU:OpR X (compareOp .NotIn) (λx y H Q=>∃i j,x=.str i/\y=.str j/\Q (.bl (!(!(Builtin.Str.occurrences j i 0 j.length 1).isEmpty))) H):=by
 intro NO s σ H x y v u Q I rx ry h;erw[i,j,1,1,q]at h;erw[t,1]at rx;erw[t',1]at ry;exact notIn_str %[.bl _,H,I,1|q]
instance rLen(K:W.Frag)(xs:List V)(H:Hp)(Q:VK):∀p ys,xs=[.ref p]->SqL K H p ys∨SqT K H p ys->Q (.int ys.length) H:=0
def aE:gR X (.builtin "len") (rLen X.K):=by
 intro NO s σ H xs us Q I r h;erw[p,ys,1,hq,q]at h;let%[u,1|rx]:=jQ r;cases rx;let hn:=jG;rcases hq with hq | hq
 . let%[its,r',pl|hz]:=I.list hq;let hlen:=r'.length;exact Calls.call_len_list pl.isList (by simp only[zS0] <;> omega) %[.int ys.length,H,I.tok _,%[s.toks+1|by rw[zS0,hlen]]|q]
 . let%[its,r',pl|hz]:=I.tuple hq;let hlen:=r'.length;exact len_tuple pl (by simp only[zS0] <;> omega) %[.int ys.length,H,I.tok _,%[s.toks+1|by rw[zS0,hlen]]|q]
def cZ:gR X (.builtin "len") (λxs H Q=>∃z,xs=[.str z]/\z.length<=sizeLine/\Q (.int z.length) H):=by
 intro NO s σ H xs us Q I r h;erw[z,1,hz,q]at h;let%[u,1,t|1]:=jQ r;let hn:=jG;exact len_str #[0] %[.int z.length,H,I.tok _,%[|0]|q]
instance rListOf(K:W.Frag)(xs:List V)(H:Hp)(Q:VK):∀p ys,xs=[.ref p]->SqL K H p ys∨SqT K H p ys->(∀l,H l=none->Q (.ref l) (upd H l (.lst ys))):=0
def oh:gR X (.type "list") (rListOf X.K):=by
 intro NO s σ H xs us Q I r h;erw[p,ys,1,hq,q]at h;let%[u,1|rx]:=jQ r;cases rx;let fin:∀(its:List Value),Vals ys its->ys.length<=sizeLine->∀(h':Heap)(c':Nat),(∀b o',s.heap.get? b=some o'->h'.get? b=some o') ->
  h'.get? ‹s›=some { cls:=.type "list",dict:=none,data:=.seq its.toArray c',slots:=#[] }->EP X NO σ Q (.ref ‹s›) { s with heap:=h' }:=λits r' hz h' c' kp e=>
  %[.ref ‹s›,_,I.laid (t':=s.toks) kp (zG0 _) (show ObjOk X.prog X.w _ h' _ (.lst ys)from%[hz,its,c',r'|e]),1|q _ (I.hok.fresh (zG0 _))]
 rcases hq with hq | hq
 . let%[its,r',pl|hz]:=I.list hq;let hlen:=r'.length;erw[o,ho,hc,n,hd]at pl.isList;exact call_list_seq p (.inl rfl) ho hc hd (λh' c' kp e=>fin its r' hz h' c' kp e) (by simp only[zS0] <;> omega)
 . let%[its,r',pl|hz]:=I.tuple hq;let hlen:=r'.length;erw[o,ho,hc,n,hd]at pl;exact call_list_seq p (.inr rfl) ho hc hd (λh' c' kp e=>fin its r' hz h' c' kp e) (by simp only[zS0] <;> omega)
instance rTupOf(K:W.Frag)(xs:List V)(H:Hp)(Q:VK):∀p ys,xs=[.ref p]->(SqL K H p ys/\∀l,H l=none->Q (.ref l) (upd H l (.tup ys)))∨(SqT K H p ys/\Q (.ref p) H):=0
def bb:gR X (.type "tuple") (rTupOf X.K):=by
 intro NO s σ H xs us Q I r h;erw[p,ys,1,h]at h;let%[u,1|rx]:=jQ r;cases rx;rcases h with⟨hq,q⟩ | ⟨hq,q⟩
 . let%[its,r',pl|hz]:=I.list hq;let hlen:=r'.length;refine call_tuple_list pl.isList (λh' kp=>?_) (by simp only[zS0] <;> omega);let I1:Inv X NO σ H { s with heap:=h' }:=I.kept (t':=s.toks) kp;let I2:Inv X NO σ (upd H h'.objs.size (.tup ys)) { s with heap:=h'.push { cls:=.type "tuple",data:=.seq its.toArray } }:=
    I1.laid (t':=s.toks) (λb o e=>zQ0 _ e) (zG0 _) (show ObjOk X.prog X.w _ _ _ (.tup ys)from%[hz,its,r',IsTup.new _ _,_,qB0 _ rfl|1])
   erw[.ref h'.objs.size,_,I2,1,q _ (I1.hok.fresh (zG0 _))]
 . let%[its,r',pl|hz]:=I.tuple hq;exact call_tuple_same pl %[.ref p,H,I,1|q]
def tyV(K:W.Frag)(T:String)(x:V)(H:Hp):Prop:=match x with
 | .str _=>T="str"
 | .int _=>T="int"
 | .ref p=>(T="list"/\∃xs,SqL K H p xs)∨(T="tuple"/\∃o,K.lookup p=some o/\o.cls=.type "tuple"/\o.dict=none)∨
  (T="dict"/\((∃NS,H p=some (.dK NS))∨∃NS,H p=some (.dT NS)))∨(T="set"/\∃S n,H p=some (.set S n))
 | _=>False
def IA{σ:St}(I:Inv X NO σ H s)(r:RelV x v)(ty:tyV X.K T x H) :
 s.TypeIs v T/\∀a,v=.ref a->∃ob,s.heap.get? a=some ob/\ob.dict=none:=by
 cases x with
 | str z=>
   erw[t,1]at r;cases(show T="str" from ty);erw[wF0 s z t,λ_ e=>nomatch e]
 | int i=>
   erw[t,1]at r;cases(show T="int" from ty);erw[vF0 s i t,λ_ e=>nomatch e]
 | ref p=>
   cases r;rcases ty with⟨rfl,xs,hq⟩ | ⟨rfl,o,hk,hc,hd⟩ | ⟨rfl,hk⟩ | ⟨rfl,S,n,hk⟩
   . let%[its,_,pl|_]:=I.list hq;erw[pl.isList.typeIs,λa e=>?_];cases e;erw[o,n,e,c,hd,_]at pl;erw[o,e,hd]
   . erw[%[o,I.kIn p o hk|hc],λa e=>?_];cases e;erw[o,I.kIn _ o hk,hd]
   . let z:∃o,s.heap.get? p=some o/\o.ExactDict:=by
      rcases hk with⟨NS,hk⟩ | ⟨NS,hk⟩
      . let%[_,_,_,_,o,_,_,e,ex|_]:=I.hok p _ hk;erw[o,e,ex]
      . let%[_,_,_,_,o,_,_,e,ex|_]:=I.hok p _ hk;erw[o,e,ex]
     erw[o,e,ex]at z;erw[%[o,e|ex.1],λa e2=>?_];cases e2;erw[o,e,ex.2.1]
   . let%[o,_,_,_,e,ex|_]:=I.hok p _ hk;erw[%[o,e|ex.1],λa e2=>?_];cases e2;erw[o,e,ex.2.1]
 | _=>exact False.elim ty
instance ZtBM(K:W.Frag)(T:String)(r:V->List V->Hp->VK->Prop)(t:TA)(σ:St)(Q:VK)(x:V)(H1:Hp):tyV K T x H1->(t σ H1 λxs H2=>r x xs H2 Q):=0
def tBM(K:W.Frag)(T:String)(r:V->List V->Hp->VK->Prop)(to:TE)(t:TA):TE:=λσ H Q=>to σ H λx H1=>ZtBM K T r t σ Q x H1
variable {o e:Expr} {es:List Expr} {to:TE} {t:TA} {name:Str} {NY NU:Pos} {T id:String} {r:V->List V->Hp->VK->Prop}
def eC (pa:PlainAttrs T) (slot:Slot T name id) (hty:typeOf (.builtin id)=pure (.type "method_descriptor")) (hm:MtR X id r) (ho:PE X o to) (ha:PA X (e::es) t)
 (hbase:attributeBase o name X.env (eval o X.env)=eval o X.env:=by rfl)
 (hfew:((backTo NU (starEach (e::es) X.env)).all (λx=>!x.1)&&(backToKw NU (keywordEach [] X.env)).all (λx=>x.1.isSome)
  &&decide ((e::es).length+([]:List Keyword).length+(if([]:List Keyword).isEmpty then 0 else 1)<30))=true:=by rfl)
 (hline:(NY.endLine==NU.line)=true:=by rfl) (hs:starEach (e::es) X.env=(false,eval e X.env)::starEach es X.env:=by rfl) (hplain:(backTo NU (starEach es X.env)).any (·.1)=false:=by rfl) :
 PE X (.Call (.Attribute o name NY) (e::es) [] NU) (tBM X.K T r to t):=by
 intro NO s σ H Q I h;refine wpAny_Call_method_late hbase hfew hline rfl (thn (ho NO s σ H _ I h) λv s1 ⟨x,H1,I1,r1,ty,q1⟩=>?_);let%[h1|h2]:=IA I1 r1 ty;erw[T,id,pa,slot,hty,h1,h2,6];let hA:=ha NU NO s1 σ H1 _ I1 q1;rw[hs]at hA ⊢;refine jH1 (by show(false||(backTo NU (starEach es X.env)).any (·.1))=false;rw[hplain] <;> rfl) (jN1 ?_);exact thn hA λus s2 ⟨vs,H2,I2,r2,q2⟩=>hm NO s2 σ H2 x vs v us Q I2 r1 r2 q2
/- xs.append(e),list.index on a module's tuple .. are MtR facts of 06m -/
end
def MtM(X:Cx)(id:String)(r:V->List V->Hp->VK->Prop):Prop:=
 ∀(NO:List (Addr×Obj))(s:Shared)(σ:St)(H:Hp)(x:V)(xs:List V)(v:Value)(us:List Value)(Q:VK),Inv X NO σ H s->RelV x v->Vals xs us->r x xs H Q ->
  wpAny (model X.prog X.w) X.A (call (.builtin id) (v::us)) (EP X NO σ Q) X.xe s
def Vals.one:∀{x:V}{us:List Value},Vals [x] us->∃u,us=[u]/\RelV x u
 | _,_,.cons r .nil=>%[0|r]
def Vals.rep(h:Vals xs us):∀k:Nat,Vals (List.replicate k xs).flatten (List.replicate k us).flatten
 | 0=>.nil
 | k+1=>by
   rw[zZ1,zZ1,qV1,qV1];exact Vals.append h (Vals.rep h k)
def ld(its:List Value):∀(k:Nat)(acc:List Value),
 List.foldl (λx1 x2=>x1++x2) acc.toArray (List.replicate k its.toArray)=(acc++(List.replicate k its).flatten).toArray
 | 0,acc=>by simp
 | k+1,acc=>by
   let e:acc.toArray++its.toArray=(acc++its).toArray:=by simp
   let e2:(acc++its)++(List.replicate k its).flatten=acc++(List.replicate (k+1) its).flatten:=by
    rw[zZ1,qV1,jC0]
   rw[←e2,←ld its k (acc++its),←e,zZ1,List.foldl_cons]
section
variable {X:Cx} {NO:List (Addr×Obj)} {σ:St} {H:Hp} {s:Shared} {l b:Addr} {xs ys zs:List V}
def Inv.lset{its its':List Value}{n:Nat}{f:Array Value->Array Value}{t':Nat}(I:Inv X NO σ H s)(hH:H l=some (.lst xs))
 (e:s.heap.get? l=some { cls:=.type "list",data:=.seq its.toArray n }) (hf:f its.toArray=its'.toArray) (hv:Vals ys its') (hz:ys.length<=sizeLine) :
 Inv X NO σ (upd H l (.lst ys)) { s with heap:=s.heap.update l (Obj.mapSeq f),toks:=t' }:=by
 let q:=PySem.IsL.update e f;rw[hf]at q;refine I.write (x:=l) (e:=l) (by rw[hH];exact trivial) (.inl rfl) (λb' u hb hu=>(Heap.get?_update_other s.heap (Obj.mapSeq f) (Ne.symm hb)).trans hu) %[_|q] ?_;erw[hz,its',_,hv,q]
def Inv.lnew{t':Nat}(I:Inv X NO σ H s)(hv:Vals ys its)(hz:ys.length<=sizeLine) :
 Inv X NO σ (upd H ‹s› (.lst ys)) { s with heap:=s.heap.push { cls:=.type "list",data:=.seq its.toArray },toks:=t' }:=
 I.laid (λ_ _ q=>zQ0 _ q) (zG0 _) %[hz,its,(0),hv|qB0 _ rfl]
def Inv.fresh(I:Inv X NO σ H s):H ‹s›=none:=I.hok.fresh (zG0 _)
def Inv.lstM (I:Inv X NO σ H s) (hH:H l=some (.lst xs)):xs.length<=sizeLine/\∃(its:List Value) (n:Nat),Vals xs its/\xs.length=its.length/\s.heap.get? l=some { cls:=.type "list",data:=.seq its.toArray n }:=by
 let%[z,its,n,r|e]:=I.hok l _ hH;erw[z,its,n,r,r.length,e]
def wz{n:Nat}(h:n<=sizeLine):Builtin.List.listTooLong n=false:=by
 unfold Builtin.List.listTooLong;exact zB1 #[0]
end
section
variable {X:Cx}
instance rAppend(x:V)(vs:List V)(H:Hp)(Q:VK):∀l xs y,x=.ref l->vs=[y]->H l=some (.lst xs)->xs.length<sizeLine->Q .non (upd H l (.lst (xs++[y]))):=0
def ca:MtM X "list.append" rAppend:=by
 intro NO s σ H x vs v us Q I rx rv h;erw[l,xs,y,1,1,hH,hz,q]at h;cases rx;erw[u,1,ru]at rv.one;let%[z,its,n,r,hl|e]:=I.lstM hH;refine qW1 F.slot_list_append %[_,e|1] F.entry_list_append (F.args_list_append_2 _ _) (PySem.list_append l its.toArray n u (by rw[zS0];omega)) ⟨e,?_⟩;erw[.non,_,I.lset (its':=its++[u]) hH e #[2] (r.append (.cons ru .nil)) ?_,1,q];rw[zK0,qK0];omega
instance rExtend(x:V)(vs:List V)(H:Hp)(Q:VK):∀l b xs zs,x=.ref l->vs=[.ref b]->H l=some (.lst xs)->H b=some (.lst zs)->xs.length+zs.length<=sizeLine->Q .non (upd H l (.lst (xs++zs))):=0
def Bw:MtM X "list.extend" rExtend:=by
 intro NO s σ H x vs v us Q I rx rv h;erw[l,b,xs,zs,1,1,hH,hB,hz,q]at h;cases rx;erw[u,1,ru]at rv.one;cases ru;let%[z,its,n,r,hl|e]:=I.lstM hH;let%[z2,its2,n2,r2,hl2|e2]:=I.lstM hB;let hsz:its.toArray.size+its2.toArray.size<=sizeLine:=by rw[zS0,zS0];omega
 let hlong:¬ (!its.toArray.isEmpty&&Builtin.List.listTooLong (its.toArray.size+its2.toArray.size))=true:=by
  rw[wz hsz,wQ0];exact qC0
 refine qW1 F.slot_list_extend %[_,e|1] F.entry_list_extend (F.args_list_extend_2 _ _)
  (AutoSeq1.list_extend_list_list_0 l its.toArray n b its2.toArray n2 hlong (by rw[zS0];omega) #[0]) %[e,e2|6]
 erw[.non,_,I.lset (its':=its++its2) hH e #[2] (r.append r2) ?_,1,q];rw[zK0];omega
instance rCat(x:V)(y:V)(H:Hp)(Q:VK):∀l b xs zs,x=.ref l->y=.ref b->H l=some (.lst xs)->H b=some (.lst zs)->xs.length+zs.length<=sizeLine->(∀p,H p=none->Q (.ref p) (upd H p (.lst (xs++zs)))):=0
def rG:OpR X (binaryOp .Add) rCat:=by
 intro NO s σ H x y v u Q I rx ry h;erw[l,b,xs,zs,1,1,hH,hB,hz,q]at h;cases rx;cases ry;let%[z,its,n,r,hl|e]:=I.lstM hH;let%[z2,its2,n2,r2,hl2|e2]:=I.lstM hB;refine PySem.P.add_list e e2 ?_ (by rw[zS0,zS0];omega);let ea:its.toArray++its2.toArray=(its++its2).toArray:=by simp
 rw[ea];erw[.ref _,_,I.lnew (t':=s.toks) (r.append r2) (by rw[zK0];omega),1,q _ I.fresh]
instance rRep(x:V)(y:V)(H:Hp)(Q:VK):∀l k xs,x=.ref l->y=.int k->H l=some (.lst xs)->-(2 ^ 63)<=k->k<2 ^ 63->xs.length*k.toNat<=sizeLine->(∀p,H p=none->Q (.ref p) (upd H p (.lst (List.replicate k.toNat xs).flatten))):=0
def zV{α:Type}(xs:List α)(k:Nat):(List.replicate k xs).flatten.length=k*xs.length:=by
 induction k with
 | zero=>simp
 | succ k ih=>rw[zZ1,qV1,zK0,ih,Nat.succ_mul,Nat.add_comm]
def IX:OpR X (binaryOp .Mult) rRep:=by
 intro NO s σ H x y v u Q I rx ry h;erw[l,k,xs,1,1,hH,h1,h2,hz,q]at h;cases rx;erw[t,1]at ry;let%[z,its,n,r,hl|e]:=I.lstM hH;let hlen:its.toArray.size*k.toNat<=sizeLine:=by rw[zS0,←hl];exact hz
 let hcap:¬ its.toArray.size*k.toNat>(2 ^ 63-1) / 8:=by
  have:(sizeLine:Nat)<=(2 ^ 63-1) / 8:=by decide
  omega
 let hfit:¬ (!Builtin.List.listFitsIndex k)=true:=by
  rw[fitsIndex_both h1 h2];exact qC0
 let hlong:¬ Builtin.List.listTooLong (its.toArray.size*k.toNat)=true:=by
  rw[wz hlen];exact qC0
 let hnew:List.foldl (λx1 x2=>x1++x2) #[] (List.replicate (if its.toArray.isEmpty=true then 0 else k.toNat) its.toArray)=(List.replicate k.toNat its).flatten.toArray:=by
  let f0:∀m:Nat,List.foldl (λx1 x2=>x1++x2) #[] (List.replicate m its.toArray)=(List.replicate m its).flatten.toArray:=λm=>by
   have:=ld its m []
   rw[List.nil_append]at this;exact this
  rw[f0];cases its with
  | nil=>simp
  | cons a r'=>rw[NP #[2]]
 refine wpAny_binaryOp_repeat_ref (T:="list") (U:="int") ⋯ %[_,e|1] (λs'=>vF0 s' k t) noFill_list_mul F.fills_int_mul wH1 repeat_list F.slot_int_index.lookup
  (qW1 wH1 (vF0 s k t) F.entry_int_rmul (F.args_int_rmul_2 _ _) (int___rmul___int_list k t l its.toArray n)
   %[e,1,%[_,e|1]|qW1 F.slot_list_mul ⟨_,e,rfl⟩ F.entry_list_mul (F.args_list_mul_2 _ _) (AutoListH.list___mul___list_int_3 l its.toArray n k t hfit hcap hlong) ⟨e,?_⟩])
 rw[hnew];erw[.ref _,_,I.lnew (t':=s.toks) (r.rep k.toNat) (by rw[zV,Nat.mul_comm];exact hz),1,q _ I.fresh]
end
end L2
namespace Att
open PySem PySem.W PySem.Calls PyProof.Rows
def pU{P:Params}{h:Heap}:∀(ns:List Int)(vs:List Value),WellAll P h vs (ns.map WData.int)->IntsAre vs ns:=by
 intro ns
 induction ns with
 | nil=>
   intro vs w;rw[vC1]at w;cases w;exact .nil
 | cons n ns ih=>
   intro vs w;rw[zX0]at w;cases w with
   | cons a b=>
     cases a;exact .cons _ _ (ih _ b)
def AM{l:OpenLaw}{n:Nat}(hn:l.most=some n){P:Params}{h:Heap}{args:List WData}{vals:List Value}
 (hpre:l.row.toRowW.claim.pre args=true) (hwl:WellAll P h vals args) :
 ∃a vs ns,vals=[Value.ref a]/\args=[WData.list (ns.map WData.int)]/\h.get? a=some { cls:=.type "list",data:=.seq vs.toArray }/\IntsAre vs ns/\ns.length<=n:=by
 let hsh:WShape.hasAll [] args [.list .int]=true:=(pre_splitW hpre).1;let hc:l.pre.holds [] { args:=args }=true:=(pre_splitW hpre).2;let%[d,r,1,h1|h2]:=hasAllW_cons hsh;obtain rfl:=hasAllW_nil h2;let%[xs,1|h3]:=hasW_list h1;let%[ns|1]:=items_int h3;let hlen:ns.length<=n:=by
  unfold OpenLaw.pre at hc;let h4:(WTm.not (.lt (.lit (.int (n:Int))) (.len (.arg 0)))).holds [] { args:=[.list (ns.map .int)] }=true:=by
   let h4:=(holds_andW hc).1;rw[hn]at h4;exact h4
  let h5:=condW_of h4 (w_not (w_lt w_lit (w_len_list (w_arg rfl))));rw[zF0]at h5;refine Nat.le_of_not_lt λq=>?_
  let q':(n:Int)<((ns.length:Nat):Int):=by omega
  first
   | (rw[zD1 q']at h5;exact absurd h5 ⋯)
   | (simp at h5;omega)
 cases hwl with
 | cons w1 w2=>
   cases w2;cases w1 with
   | list ho hall=>erw[_,_,ns,1,1,ho,pU ns _ hall,hlen]
def Bb(l:OpenLaw)(args:List WData):l.row.toRowW.claim.post args (.bool true) args=true:=
 postW_of (r:=l.row.toRowW) (X:=(true==true))
  (show WShape.has [] (.bool true) .bool=true by first | rfl | decide | simp [WShape.has,WShape.arms,WShape.armsAll])
  (show(WTm.eq .res (.lit (.bool true))).value [] { args:=args,res:=some (.bool true),after:=args }=some (.bool (true==true))from w_eq_bool (w_res rfl) w_lit) rfl
def attach_call{l:OpenLaw}{n:Nat}{q:Program}{loose:List Str}{XP:(Str->Option Value)->Heap->Prop}{YP:World->Heap->Prop}{d:DefRec}
 (hn:l.most=some n) (hdf:d.params.defaults=[])
 (call:∀(w:World)(s₀ s₁:Shared)(mg mb:Str->Option Value)(fa:Addr)(o:Obj)(pm cd doc:Value)(a:Addr)(vs:List Value)(ns:List Int),
  Ground q loose [] XP w s₀ mg mb s₁.heap->YP w s₁.heap ->
  s₁.heap.get? fa=some o->o.data=.func (docDef d.name d.params d.body d.scope pm cd doc)->s₁.heap.CodeRec cd d.name->mg d.name=some (.ref fa) ->
  s₁.heap.get? a=some { cls:=.type "list",data:=.seq vs.toArray }->IntsAre vs ns->ns.length<=n->s₁.gens=#[] ->
  codeAny (model l.prog w) callerA (.call (.ref fa) %[[.ref a]|[]]) (λr s'=>r=.ok (.ret (.bool true))/\OldK s₁.heap s'.heap/\s'.os=s₁.os/\AllBare s'.gens) s₁) :
 WalkO q loose XP YP l.row.toRowW d [] (λf vs=>PySem.call f vs):=by
 intro w s₀ s₁ mg mb G Y fa o pm cd doc dV kV ho hd hcd hD hmg hg args vals as hpre hlay hrd hwl hlo;obtain rfl:dV=.none:=Dflts.none hD hdf;obtain rfl:kV=.none:=Dflts.noKw hD;let%[a,vs,ns,1,1,hobj,hints|hlen]:=AM hn hpre hwl;refine enter_call (vC0 (call w s₀ s₁ mg mb fa o pm cd doc a vs ns G Y ho (fd_plain hd) hcd hmg hobj hints hlen hg) λr s' hq=>?_);erw[1,h2,h3,h4]at hq;erw[.inl %[.bool true,.bool true,[],1,λ_=>rfl,.bool true,Bb l _|λ_=>%[List.Pairwise.nil|λ_ hm=>(nomatch hm)]],h2,h3,h4]
end Att
namespace L2
open PySem PySem.Spec PyProof.Rows
def sY:∀{vs:List Value}{ns:List Int},IntsAre vs ns->Vals (ns.map V.int) vs
 | _,_,.nil=>.nil
 | _,_,.cons n t h=>.cons %[t|1] (sY h)
def JT(H:Hp):Prop:=∀b,H b=none∨∃o xs,H b=some (.frz o (.lst xs))
def ED{K:W.Frag}{mg mb:Str->Option Value}{a:Addr}{x:Str}{s₁:Shared}{vs:List Value}{ns:List Int}
 (KX:K.In s₁.heap) (hns:s₁.heap.Ns mainGlobals mg) (hb:s₁.heap.Ns builtinsNs mb) (hbb:∀x:Str,x≠"__name__" -> mb x=bootBuiltins x) (hlim:s₁.heap.NoLimit) (hg:s₁.gens=#[])
 (ha:s₁.heap.get? a=some { cls:=.type "list",data:=.seq vs.toArray }) (hi:IntsAre vs ns) (hl:ns.length<=sizeLine) (hr:Room k callerA)
 (F:∀base:Heap,K.In base->base.Ns mainGlobals mg->FnOk P w K mg base CX k fa fd [x] sp) (hbind:∀(s:Shared)(u:Value),BindsTo s fd %[[u]|[]] [(x,u)])
 (hsp:∀H:Hp,JT H->SqL K H a (ns.map V.int)->sp [.ref a] H (λv _=>v=.bl true) λ_ _ _=>False)
 (hCX:∀H e s',CX [] H s₁ (λ_ _ _=>False) e s'->False) :
 codeAny (model P w) callerA (.call (.ref fa) %[[.ref a]|[]]) (λr s'=>r=.ok (.ret (.bool true))/\OldK s₁.heap s'.heap/\s'.os=s₁.os/\AllBare s'.gens) s₁:=by
 let rv:=sY hi;let lenV:=hi.length;let core:∀H:Hp,JT H->SqL K H a (ns.map V.int)->HOk P w H s₁.heap->(∀b,H b≠none->b=a)->(H a≠none->K.lookup a=none) ->
  codeAny (model P w) callerA (.call (.ref fa) %[[.ref a]|[]]) (λr s'=>r=.ok (.ret (.bool true))/\OldK s₁.heap s'.heap/\s'.os=s₁.os/\AllBare s'.gens) s₁:=by
  intro H hO hS hok hA hK;let base_of:∀{b:Addr}{o:Obj},s₁.heap.get? b=some o->H b=none->(vz s₁.heap H).get? b=some o:=λe n=>EO e n
  let noA:∀{b:Addr}{o:Obj}{es:Array DictEntry}{ep:Nat},s₁.heap.get? b=some o->o.data=.dict es ep->H b=none:=fun{b o es ep} e d=>by
   cases q:H b with
   | none=>rfl
   | some u=>
     let e':b=a:=hA b (by rw[q];simp);subst e';rw[ha]at e;cases e;let d':Data.seq vs.toArray _=Data.dict es ep:=d;cases d'
  let nsK:∀{b:Addr}{m:Str->Option Value},s₁.heap.Ns b m->(vz s₁.heap H).Ns b m:=fun{b m} ⟨o,es,ep,e,d,r⟩=>%[o,es,ep,base_of e (noA e d),d|r]
  let hKb:K.In (vz s₁.heap H):=λb o e=>base_of (KX b o e) (by
   cases q:H b with
   | none=>rfl
   | some u=>
     let e':b=a:=hA b (by rw[q];simp);subst e';rw[hK (by rw[q];simp)]at e;cases e)
  let hM:Mod K mg (vz s₁.heap H):=%[hKb,nsK hns,%[mb,nsK hb|hbb]|let⟨mc,h1,h2⟩:=hlim;⟨mc,nsK h1,h2⟩]
  let e0:Env0 P w K mg (vz s₁.heap H) callerA [] s₁ H:=%[1,hM,λb o e=>GV e,Nat.le_of_eq (BO _ _),trivial,λb hb=>absurd (show b∈([]:List Addr)from hb) #[2],hok|.of_eq hg]
  refine vC0 ((F _ hKb (nsK hns)).run callerA [] s₁ H %[[.ref a]|[]] [.ref a] [.ref a] _ _ hr e0 (hbind s₁ (.ref a)) (.cons rfl .nil) (hsp H hO hS)) λr s' h=>?_
  cases r with
  | error e=>exact(hCX H e s' h).elim
  | ok fl=>
    cases fl with
    | next=>exact False.elim h
    | brk=>exact False.elim h
    | cont=>exact False.elim h
    | ret u=>
      erw[v,H',os,bare,un,hok',r',q]at h;let q':v=.bl true:=q;subst q';obtain rfl:u=Value.bool true:=r';erw[1,OldK.of_keep λb o e=>?_,os,bare];cases q:H b with
      | none=>exact un.keep b o e q (by intro z;exact absurd (show b∈([]:List Addr)from z) #[2]) #[2]
      | some u=>
        rcases hO b with z | ⟨ob,xs,z⟩
        . rw[q]at z;cases z
        . let z2:=un.frzs b ob _ z;let%[e1|_]:=hok b _ z;let%[e2|_]:=hok' b _ z2;rw[e]at e1;cases e1;exact e2
 cases hk:K.lookup a with
 | some o=>
   let e:=KX a o hk;rw[ha]at e;cases e;refine core (λ_=>none) (λ_=>.inl rfl) (.inr %[_,vs.toArray,_,hk,1,1,1,by rw[zS0,lenV];exact hl|by simpa using rv]) (λb u z=>by let z':(none:Option HO)=some u:=z;cases z') (λb z=>absurd rfl z) λz=>absurd rfl z
 | none=>
   refine core (λb=>if b=a then some (.frz { cls:=.type "list",data:=.seq vs.toArray } (.lst (ns.map V.int)))else none) (λb=>?_) (.inl (.inr %[{ cls:=.type "list",data:=.seq vs.toArray }|NQ rfl])) (λb u z=>?_) (λb z=>?_) λ_=>hk
   . by_cases hb:b=a
     . exact .inr %[_,_|NQ hb]
     . exact .inl (NP hb)
   . by_cases hb:b=a
     . let z':=(NQ hb).symm.trans z;cases z';subst hb;erw[ha,by rw[zF0];exact hl,vs,_,rv,ha]
     . let z':=(NP hb).symm.trans z;cases z'
   . by_cases hb:b=a
     . exact hb
     . exact absurd (NP hb) z
def walk_of{l:PySem.W.OpenLaw}{n:Nat}{q:Program}{loose:List Str}{XP:(Str->Option Value)->Heap->Prop}{YP:World->Heap->Prop}{d:DefRec}{K:Params->PySem.W.Frag}{CX:World->CXT}{sp:World->Sp}{x:Str}
 (hn:l.most=some n) (hn2:n<=sizeLine) (hdf:d.params.defaults=[]) (hr:Room k callerA)
 (hY:∀(w:World)(h:Heap),YP w h->(K w.params).In h)
 (F:∀(w:World)(mg:Str->Option Value)(fa:Addr)(h:Heap),(K w.params).In h->h.Ns mainGlobals mg->mg d.name=some (.ref fa) ->
  ∃ fd:FuncData,(∀(s:Shared)(u:Value),BindsTo s fd %[[u]|[]] [(x,u)])/\
   ∀base:Heap,(K w.params).In base->base.Ns mainGlobals mg->FnOk l.prog w (K w.params) mg base (CX w) k fa fd [x] (sp w))
 (hsp:∀(w:World)(H:Hp)(a:Addr)(ns:List Int),ns.length<=n->JT H->SqL (K w.params) H a (ns.map V.int)->sp w [.ref a] H (λv _=>v=.bl true) λ_ _ _=>False)
 (hCX:∀(w:World)(H:Hp)(s:Shared)(e:Value)(s':Shared),CX w [] H s (λ_ _ _=>False) e s'->False) :
 PySem.W.WalkO q loose XP YP l.row.toRowW d [] (λf vs=>PySem.call f vs):=by
 refine Att.attach_call hn hdf λw s₀ s₁ mg mb fa o pm cd doc a vs ns G Y ho hd hcd hmg hobj hints hlen hg=>?_
 let KX:=hY w _ Y;let%[fd,hb|hF]:=F w mg fa _ KX G.T.g hmg;exact ED KX G.T.g G.T.b G.T.builtins G.T.nolimit hg hobj hints (zR0 hlen hn2) hr hF hb (λH hO hS=>hsp w H a ns hlen hO hS) λH e s'=>hCX w H s₁ e s'
end L2
/- THE LAST THEOREM (shape;LID,My.* are yours):
 My.Adr: a structure of the addresses that your layer names (classes,functions);My.Txt K t: a structure (Prop) of the equations over K;
 My.txt_mk:{K} {implicit addresses ..} (e1:nsIn K mainGlobals "law"=some (some (.ref f))) (e2:K.lookup f=some %[oc,od,.func (fnOf "law" "law" params body scope dV kV doc pm an cdv ct)|sl]) (e3:codeIn K cdv "law"=true) ..:∃t,My.Txt K t
set_option maxRecDepth 100000 in
set_option maxHeartbeats 0 in
def PySem.Challenge.cw_LID_holds : PySem.Challenge.rw_LID.Holds:=by
 w_on;o_law;k_head;(case hw=>w_witness2)
 k_fill
 refine L2.walk_of (l:=PySem.Challenge.rw_LID) (n:=63) (k:=40) (x:="script") (CX:=λw=>..) (sp:=λ_=>My.sp_law) rfl ⋯ rfl %[1,4|4] (λw h Y=>PySem.W.kIn_of Y) ?F ?S ?C
 case F=>
  intro w mg fa h KX G hmg;let T:∃t,My.Txt (L2.KOf KX) t:=by
   dsimp only [L2.KOf]                          -- K must stand as «<heap const> w.params» for k_is
   refine' My.txt_mk ?e1 ?e2 ?e3 ..
   (case e1=>PySem.W.k_is)                    -- in the order: a name -> its address -> its object -> its parts
   (case e2=>PySem.W.k_is)
   ..
  erw[t,T]at T;let e0:=hmg.symm.trans (PySem.W.mg_of KX G T.law);cases e0                                       -- fa is the law's own address;exact%[_,λs u=>.of_eq rfl|λbase kb nb=>My.law_fn T kb nb]     -- if «.of_eq rfl» comes too early: refine' %[_,?b|λbase kb nb=>My.law_fn T kb nb];exact λs u=>.of_eq rfl
 case S=>exact λw H a ns hl hO hS=>..
 case C=>exact ..
(the tactic k_is has no namespace: write k_is) -/
namespace L2
open PySem PySem.Spec PyProof.Rows
def bq(s:Stmt)(j:Nat):Stmt:=match s with
 | .ClassDef _ _ _ body _ _ _ _ _ _ _=>body.getD j (.Pass %[(0),(0),(0)|(0)])
 | _=>.Pass %[(0),(0),(0)|(0)]
def jI(s:Stmt):Arguments:=match s with
 | .FunctionDef _ a _ _ _ _ _ _ _ _=>a
 | _=>{ posonlyargs:=[],args:=[],vararg:=none,kwonlyargs:=[],kw_defaults:=[],kwarg:=none,defaults:=[] }
def gq(s:Stmt):List Stmt:=match s with
 | .FunctionDef _ _ b _ _ _ _ _ _ _=>b
 | _=>[]
def ah(s:Stmt):Scope:=match s with
 | .FunctionDef _ _ _ _ _ _ sc _ _ _=>sc
 | _=>{ kind:=.function,names:=[],isGenerator:=false,isCoroutine:=false }
abbrev CX0:CXT:=λ_ _ _ _ _ _=>False
abbrev E0:XK:=λ_ _ _=>False
def aZ:kJ CX0 X E0:=λ_ _ _ _ _ _ _ h=>h.elim
structure Fun(K:W.Frag)(x qual:Str)(st:Stmt)(f:Addr)(fd:FuncData):Prop where
 ex:∃(oc:Value)(od:Option Addr)(kV doc pm:Value)(an:Option Addr)(cdv ct:Value)(osl:Array (Option Value)),
  fd=PySem.W.fnOf x qual (jI st) (gq st) (ah st) .none kV doc pm an cdv ct/\K.lookup f=some %[oc,od,.func fd|osl]/\PySem.W.codeIn K cdv qual=true
 kp:PySem.W.keepIn K (.ref f)=true
section
variable {P:Program} {w:World} {K:W.Frag} {mg:Str->Option Value} {base:Heap}
def Fun.ok{st:Stmt}{sp:Sp}(F:Fun K x qual st f fd)(S:FnScope N ps (ah st))(len:∀vs H Q E,sp vs H Q E->vs.length=ps.length)
 (hbody:∀(cdv:Value)(A:Around)(outer:List Env)(s:Shared)(H:Hp)(vs:List V)(Q:VK)(E:XK),Room k (A.deeper (envOfC qual (ah st) ‹s› f cdv))->sp vs H Q E ->
  ∃t,PSs (Cc CX0 P w K mg base N qual (ah st) f cdv A outer s H E).nox (gq st) t/\t { nx:=λ_ H'=>Q .non H',rt:=Q } (oZ N vs) H):FnOk P w K mg base CX0 (k+1) f fd ps sp:=by
 erw[oc,od,kV,doc,pm,an,cdv,ct,osl,1,lk,hcd]at F.ex;refine fn_of lk hcd S len λA outer s H vs Q E hr hsp=>?_
 let%[t,h|q]:=hbody cdv A outer s H vs Q E hr hsp;erw[t,h.nox,q]
def Fun.binds{st:Stmt}{ps:List Str}(F:Fun K x qual st f fd)
 (h:∀(kV doc pm:Value)(an:Option Addr)(cdv ct:Value)(us:List Value),us.length=ps.length->bindArgs (PySem.W.fnOf x qual (jI st) (gq st) (ah st) .none kV doc pm an cdv ct) %[us|[]]=pure (ps.zip us)):Binds K fd ps []:=by
 erw[oc,od,kV,doc,pm,an,cdv,ct,osl,1,lk,hcd]at F.ex;exact .all (h kV doc pm an cdv ct)
def Js{x qual:Str}{st:Stmt}{f:Addr}{oc:Value}{od an:Option Addr}{osl:Array (Option Value)}{kV doc pm cdv ct:Value}(l:K.lookup f=some %[oc,od,.func (PySem.W.fnOf x qual (jI st) (gq st) (ah st) .none kV doc pm an cdv ct)|osl])
 (c:PySem.W.codeIn K cdv qual=true) (k:PySem.W.keepIn K (.ref f)=true):Fun K x qual st f (PySem.W.fnOf x qual (jI st) (gq st) (ah st) .none kV doc pm an cdv ct):=%[%[oc,od,kV,doc,pm,an,cdv,ct,osl,1,l|c]|k]
end
def Ig(hr:Room k A):A.units+1<cLine:=zK1 (Nat.add_le_add_left (by decide:1<=64) _) hr.units
def aN{n:Nat}(h:n<=1000):n<sizeLine:=zK1 h ⋯
section
variable {X:Cx}
def pv (i:Nat) {x:Str} {pos:Pos} (hN:X.N[i]?=some x:=by rfl) (hv:Vis X.env.scope x:=by first | exact Or.inl rfl | exact Or.inr (.inl rfl) | exact Or.inr (Or.inr rfl)) (hd:(x==("__debug__":Str))=false:=by decide)
 (hcd:(x==("__classdict__":Str))=false:=by decide):PE X (.Name x pos) (tVar i):=IT hN hv hd hcd
end
def dI{A B:Prop}(h:B):if false=true then A else B:=by
 rw[NP qC0];exact h
def eF{A B:Prop}(h:A):if true=true then A else B:=by
 rw[NQ rfl];exact h
def oP{c A B:Prop}[Decidable c](h1:c->A)(h2:¬ c->B):if c then A else B:=by
 by_cases h:c
 . rw[NQ h];exact h1 h
 . rw[NP h];exact h2 h
def wM{c A B:Prop}[Decidable c](hc:c)(h:B):if(!decide c)=true then A else B:=by
 rw[zD1 hc];exact dI h
def Same(H H':Hp):Prop:=∀b o,H b=some o->H' b=some o
def Same.refl(H:Hp):Same H H:=λ_ _ h=>h
def Same.trans(a:Same H H1)(b:Same H1 H2):Same H H2:=λc o h=>b c o (a c o h)
def Same.free(e:Same H H'){l:Addr}(h:H' l=Option.none):H l=Option.none:=by
 cases q:H l with
 | none=>rfl
 | some o=>
   rw[e l o q]at h;cases h
def Same.seq{K:W.Frag}(e:Same H H')(h:SqL K H a xs):SqL K H' a xs:=by
 rcases h with(h | ⟨o,h⟩) | h
 . exact .inl (.inl (e _ _ h))
 . exact .inl (.inr %[o|e _ _ h])
 . exact .inr h
end L2
set_option maxHeartbeats 4000000
namespace L2
open PySem PySem.Spec PyProof.Rows
section
variable {X:Cx}
instance rIsi(K:W.Frag)(xs:List V)(H:Hp)(Q:VK):∀x t n b,xs=[x,.ty n]->TyOf K H x t->PySem.W.kitOne K t (.type n)=some b->Q (.bl b) H:=0
def pN:gR X (.builtin "isinstance") (rIsi X.K):=by
 intro NO s σ H xs us Q I r h;erw[x,t,n,b,1,ty,e,q]at h;let%[u,w',1,r1|r2]:=Cp r;cases r2;exact BJ I r1 ty e (λtk=>%[.bl b,H,I.tok tk,1|q])
def EF(K:W.Frag)(n:String):PySem.W.kitOne K (.type n) (.type n)=some true:=by
 unfold PySem.W.kitOne;rw[NQ #[2]]
def vp (K:W.Frag):PySem.W.kitOne K (.type "int") (.type "bool")=some false:=by
 show(if((Value.type "int"==Value.type "bool")=true)then some true else if PySem.W.kitMeta "bool"=true then((fastBuiltinMro "int").map (·.contains (.type "bool")))else none)=some false;decide
def CDivL(_ j:Int):Prop:=0<j/\j<2 ^ 63
def DP:OpR X (binaryOp .FloorDiv) (rI CDivL λi j=>.int (i / j)):=opI λi j _ _ _ _ _ hc q=>by
 let e:Int.fdiv i j=i / j:=Int.fdiv_eq_ediv_of_nonneg i (Int.le_of_lt hc.1);rw[←e]at q;refine floordiv_int (by have:=hc.1;omega) q (.inl (PyProof.noPylong_of_log2 ?_));let h1:=hc.1;let h2:=hc.2;let h3:j.natAbs<2 ^ 63:=by omega
 let h4:=(Nat.log2_lt (n:=j.natAbs) (k:=63) #[0]).mpr h3;omega
end
def lh:bootBuiltins "int"=some (.type "int"):=by decide
def zj:bootBuiltins "bool"=some (.type "bool"):=by decide
def lU:bootBuiltins "list"=some (.type "list"):=by decide
def bu:bootBuiltins "tuple"=some (.type "tuple"):=by decide
def sC:bootBuiltins "reversed"=some (.type "reversed"):=by decide
structure Cal(P:Program)(w:World)(K:W.Frag)(mg:Str->Option Value)(base:Heap)(n:Nat)(x:Str)(ps:List Str)(sp:Sp):Prop where
 ex:∃(f:Addr)(fd:FuncData),FnOk P w K mg base CX0 n f fd ps sp/\Binds K fd ps []/\PySem.W.keepIn K (.ref f)=true/\mg x=some (.ref f)
def aj{X:Cx}{e:Expr}{es:List Expr}{p pos:Pos}(C:Cal X.prog X.w X.K X.mg X.base n x ps sp)(hr:Room k X.A)(hk:n<=k)(hg:Gl X x)
 (ha:PA X (e::es) t) (hdb:(x==("__debug__":Str))=false:=by decide) (he:starEach (e::es) X.env=(false,eval e X.env)::starEach es X.env:=by rfl) (hpl:(backTo pos (starEach es X.env)).any (·.1)=false:=by rfl) :
 PE X (.Call (.Name x p) (e::es) [] pos) (zv sp [] E0 t):=by
 erw[f,fd,F,b,kp,m]at C.ex;exact Gw F (hr.mono hk) hg m kp b .nil aZ ha hdb he hpl
def Cal.of{P:Program}{w:World}{K:W.Frag}{mg:Str->Option Value}{base:Heap}{n:Nat}{x qual:Str}{ps:List Str}{sp:Sp}{st:Stmt}{f:Addr}{fd:FuncData}(F:Fun K x qual st f fd)(O:FnOk P w K mg base CX0 n f fd ps sp)(m:mg x=some (.ref f))
 (h:∀(kV doc pm:Value)(an:Option Addr)(cdv ct:Value)(us:List Value),us.length=ps.length->bindArgs (PySem.W.fnOf x qual (jI st) (gq st) (ah st) .none kV doc pm an cdv ct) %[us|[]]=pure (ps.zip us)):Cal P w K mg base n x ps sp:=
 %[f,fd,O,F.binds h,F.kp|m]
def iteN{c A B:Prop}[Decidable c](hc:¬ c)(h:A):if(!decide c)=true then A else B:=by
 rw[zB1 hc];exact eF h
def aV{c A B:Prop}[Decidable c](hc:c)(h:A):if decide c=true then A else B:=by
 rw[zD1 hc];exact eF h
def aD{c A B:Prop}[Decidable c](hc:¬ c)(h:B):if decide c=true then A else B:=by
 rw[zB1 hc];exact dI h
def SameBut(f:Addr)(H H':Hp):Prop:=∀b o,b≠f->H b=some o->H' b=some o
def SameBut.trans(a:SameBut f H H1)(b:SameBut f H1 H2):SameBut f H H2:=λc o h e=>b c o h (a c o h e)
def SameBut.refl(f:Addr)(H:Hp):SameBut f H H:=λ_ _ _ h=>h
def zJ0{f:Addr}{H H':Hp}(h:Same H H'):SameBut f H H':=λb o _ e=>h b o e
abbrev SameBut.of:=@zJ0
def SameBut.upd(o:HO):SameBut f H (upd H f o):=λb u h e=>by rw[aB h];exact e
def zC0{H:Hp}{p:Addr}(h:H p=none)(o:HO):Same H (upd H p o):=λb u q=>by rw[aB (aQ q h)];exact q
abbrev Same.new:=@zC0
def Same.but{f:Addr}(a:Same H0 H)(n:H0 f=none)(b:SameBut f H H'):Same H0 H':=λc o e=>b c o (aQ e n) (a c o e)
def FeedAt(H:Hp)(f:Addr):Prop:=∃own st:Int,H f=some (.lst [.int own,.int st])/\0<=own/\0<=st/\st<=2147483646
def FeedAt.ne{b:Addr}(F:FeedAt H f)(h:H b=none):b≠f:=by
 erw[o,s,e,_]at F;intro z;subst z;rw[h]at e;cases e
def FeedAt.same(F:FeedAt H f)(s:Same H H'):FeedAt H' f:=by
 erw[o,t,e,h]at F;erw[o,t,s _ _ e,h]
instance spTake:∀(f:Addr)(m:Int),vs=[.ref f,.int m]->FeedAt H f->0<m->m<2 ^ 63->(∀(d:Int)(H':Hp),0<=d->d<m->FeedAt H' f->SameBut f H H'->Q (.int d) H'):=1
instance spFeed(K:W.Frag):∀(a:Addr)(ns:List Int)(k:Int),vs=[.ref a,.int k]->SqL K H a (ns.map V.int)->ns.length<=63->0<=k->k<1000000->(∀(p:Addr)(H':Hp),H p=none->Same H H'->FeedAt H' p->Q (.ref p) H'):=1
instance spLaw(K:W.Frag):∀(a:Addr)(ns:List Int),vs=[.ref a]->SqL K H a (ns.map V.int)->ns.length<=63->(∀H',Q (.bl true) H'):=1
def cq{n:Nat}(h:n<=1000):n<=sizeLine:=wN0 (aN h)
def Fq{ns:List Int}{k:Int}(h0:0<=k)(h:k<(ns.length:Int)):∃v:Int,atI (ns.map V.int) k=some (.int v):=by
 let hk:k.toNat<ns.length:=by omega
 let q:atI (ns.map V.int) ((k.toNat:Nat):Int)=some (.int ns[k.toNat]):=cx (by rw[zZ0,zM0 hk] <;> rfl);let ek:((k.toNat:Nat):Int)=k:=by omega
 rw[ek]at q;erw[_,q]
@[reducible] def cz (X:Cx) (N:List Str) (scope:Scope) (cl:List (Str×Addr)) (s:Shared) (H:Hp) (fp:List Addr):Cx where
 prog:=X.prog
 w:=X.w
 K:=X.K
 mg:=X.mg
 base:=X.base
 A:=X.A
 N:=N
 s₀:=s
 H₀:=H
 env:=compEnvC scope cl ‹s› X.env
 outer:=X.stack
 stack:=X.stack
 ex:=fp
 fn:=λ_=>false
 calm:=X.calm
 pn:=[]
 xe:=λ_ _=>False
structure CompScope(X:Cx)(x:Str)(N:List Str)(ix:List Nat)(scope:Scope)(cl:List (Str×Addr)):Prop where
 clos:closureFor scope X.env=pure cl
 nocell:∀y∈scope.names,y.2≠.cell
 kind:scope.kind=.function
 names:∀y∈scope.names,y.2=.local->scope.names.lookup y.1=some .local
 own:scope.names.lookup x=some .local
 nd:(x::N).Nodup
 sub:∀p∈cl,X.env.cells.lookup p.1=some p.2
 has:((relabel scope X.env).names.all λp=>!(p.2==.cell||p.2==.free)||(cl.lookup p.1).isSome)=true
 outs:∀(j:Nat)(y:Str),N[j]?=some y->(relabel scope X.env).names.lookup y=some .cell/\∃k c,ix[j]?=some k/\X.N[k]?=some y/\cl.lookup y=some c/\X.env.scope.names.lookup y=some .cell
def outs(ix:List Nat)(σ:St):St:=ix.map λk=>(σ[k]?).join
section
variable {X:Cx} {NO:List (Addr×Obj)} {σ:St} {x:Str} {N:List Str} {ix:List Nat} {scope:Scope} {cl:List (Str×Addr)} {fp:List Addr} {H3:Hp} {s3:Shared}
def CompScope.cells(S:CompScope X x N ix scope cl){y:Str}{c:Addr}(h:cl.lookup y=some c):X.env.cells.lookup y=some c:=S.sub _ (qK1 h)
def nV(S:CompScope X x N ix scope cl)(I3:Inv X NO σ H3 s3)(hf:∀b∈fp,jJ X NO H3 b)(NT:∀b∈fp,b<‹s3›):(cz X (x::N) scope cl s3 H3 fp).Ok where
 mod:=I3.ok.mod
 kind:=S.kind
 glob:=I3.ok.glob
 blt:=I3.ok.blt
 above:=zG0 _
 inj:=λy z c h1 h2=>I3.ok.inj y z c (S.cells h1) (S.cells h2)
 has:=λy hy=>by
  let q:=List.all_eq_true.mp S.has;let hy:(relabel scope X.env).names.lookup y=some .cell∨(relabel scope X.env).names.lookup y=some .free:=hy;let z:∀k:NameKind,(k==.cell||k==.free)=true->(relabel scope X.env).names.lookup y=some k->∃c,cl.lookup y=some c:=λk hk e=>by
   let r:=q _ (qK1 e);rw[hk]at r;exact Option.isSome_iff_exists.mp (by simpa using r)
  rcases hy with e | e
  . exact z _ (by rfl) e
  . exact z _ (by rfl) e
 cab:=λ_ _ h _=>nomatch h
 hd:=I3.ok.hd
 frames:=I3.ok.frames
 stk:=.inl rfl
 exf:=λb hb=>%[zV0 (NT b hb)|λy c e=>(hf b hb).2.2.2.2.1 y c (S.cells e)]
 bs:=λb o e=>I3.bs b o e
 bsz:=zR0 I3.ok.bsz I3.sz
 noex:=λb o e hb=>by
  rcases(hf b hb).2.2.2.1 with z | z
  . exact I3.ok.noex b o e z
  . exact absurd (qN0 (zN0 e) (zR0 I3.ok.bsz z)) (qV0 _)
 exfs:=λb hb z=>by
  rcases zW0 (I3.stkSub b z)with e | e
  . exact(hf b hb).2.1 e
  . exact(hf b hb).2.2.1 e
 funs:=I3.stack
 frf:=I3.stkFree
def yY(S:CompScope X x N ix scope cl)(I3:Inv X NO σ H3 s3)(hf:∀b∈fp,jJ X NO H3 b)(NT:∀b∈fp,b<‹s3›)(hix:ix.length=N.length){h1:Heap}{t':Nat}{m:Str->Option Value}
 (hn:h1.Ns ‹s3› m) (hk:∀b o,s3.heap.get? b=some o->h1.get? b=some o):Inv (cz X (x::N) scope cl s3 H3 fp) [] (none::outs ix σ) H3 { s3 with heap:=h1,toks:=t' } where
 ok:=nV S I3 hf NT
 os:=rfl
 bare:=I3.bare
 base:=Un.kept hk
 loc:=by
  erw[m,hn,λi y v h1' h2 h3=>?_];cases i with
  | zero=>
    let h2':(some (none:Option V))=some (some v):=h2;cases h2'
  | succ j=>
    let h1'':N[j]?=some y:=h1';let h2':(outs ix σ)[j]?=some (some v):=h2;let%[hr,k,c,e1,e2,e3|e4]:=S.outs j y h1'';unfold outs at h2';rw[zZ0,e1]at h2';let h2'':(σ[k]?).join=some v:=zT0 h2';let e5:σ[k]?=some (some v):=by
     cases q:σ[k]? with
     | none=>rw[q]at h2'';cases h2''
     | some o=>rw[q]at h2'';exact congrArg some h2''
    erw[m0,_,hl]at I3.loc;let%[u,r|l]:=hl k y v e2 e5 (.inr (.inl e4));erw[u,r,.inr %[.inl hr,c,e3|6]];rcases l with⟨kk,_⟩ | ⟨_,c',ec,z⟩
    . let kk':X.env.scope.names.lookup y=some .local:=kk;rw[e4]at kk';cases kk'
    . rw[S.cells e3]at ec;cases ec;erw[o,ho,hd]at z;erw[o,hk _ _ ho,hd]
 cell:=λy c e=>by
  let%[v,o,ho|hd]:=I3.cell y c (S.cells e);erw[v,o,hk _ _ ho,hd]
 free:=I3.hok.fresh (zG0 _)
 freeC:=λy c e=>I3.freeC y c (S.cells e)
 pin:=λp hp=>absurd (show p∈([]:List (Addr×Obj))from hp) #[2]
 hok:=I3.hok.kept hk
 len:=by
  show(none::outs ix σ).length=(x::N).length;rw[zP0,zP0];unfold outs;rw[zF0,hix]
def tS(I3:Inv X NO σ H3 s3)(hf:∀b∈fp,jJ X NO H3 b){σ':St}{h'':Heap}{N':List Str}(J:Inv (cz X N' scope cl s3 H3 fp) [] σ' H' s')(hb:Heap.SameBut ‹s3› s'.heap h'') :
 Inv X NO σ H' { s' with heap:=h'' }:=by
 let ne:∀b o,s3.heap.get? b=some o->b≠‹s3›:=λb o e=>zV0 (zN0 e)
 let B:Un (frs X.stack) fp H3 H' s3.heap s'.heap:=J.base;refine I3.call' (s':={ s' with heap:=h'' }) (ch:=fp) J.os ⟨λb o e n h1 h2=>(hb.2 b (ne b o e)).trans (B.keep b o e n h1 h2),λb o e n h1 h2=>?_,B.free,λb o e h2=>?_,B.tups,B.frzs,B.tbls⟩ (λb ob e=>?_) J.bare (λb z=>?_)
 . let%[sl|q]:=B.slot b o e n h1 h2;erw[sl,(hb.2 b (ne b o e)).trans q]
 . let%[o'|q]:=B.there b o e h2;erw[o',(hb.2 b (ne b o e)).trans q]
 . let fr:H' ‹s3›=none:=J.free;refine(J.hok b ob e).stay (λc w' hc q=>(hb.2 c ?_).trans q) (λ_ q=>q) λ_ _ q=>q
   rintro rfl;rcases hc with rfl | hc
   . rw[fr]at e;cases e
   . rw[fr]at hc;cases hc
 . let%[_,h2,_,h4,h5|h6]:=hf b z;erw[h4,h2,h5,h6]
end
abbrev TBl:=St->Hp->(Hp->Prop)->VK->Prop
def PB(X:Cx)(ifs:List Expr)(elt:Expr)(tb:TBl):Prop:=
 ∀(NO:List (Addr×Obj))(s:Shared)(σ:St)(H:Hp)(skip:Hp->Prop)(keep:VK),Inv X NO σ H s->tb σ H skip keep ->
  wpAny (model X.prog X.w) X.A (forIn ifs true λc r=>if r=true then do let ok ←isTrue c X.env (eval c X.env);pure (ForInStep.yield ok)else pure (ForInStep.yield r))
   (λok s3=>if ok=true then wpAny (model X.prog X.w) X.A (eval elt X.env) (EP X NO σ keep) X.xe s3 else ∃H',Inv X NO σ H' s3/\skip H') X.xe s
def tB0(te:TE):TBl:=λσ H _ keep=>te σ H keep
def tB1(tc:TT)(te:TE):TBl:=λσ H skip keep=>tc σ H λb H1=>if b=true then te σ H1 keep else skip H1
def cR(he:PE X elt te):PB X [] elt (tB0 te):=by
 intro NO s σ H skip keep I h;refine wpAny_tests_nil ?_;rw[NQ rfl];exact he NO s σ H keep I h
def Ia(hc:PT X c tc)(he:PE X elt te):PB X [c] elt (tB1 tc te):=by
 intro NO s σ H skip keep I h;refine wpAny_tests_one (thn (hc NO s σ H _ I h) λb s1 ⟨H1,I1,q1⟩=>?_);cases b with
 | true=>
   rw[NQ rfl]at q1 ⊢;exact he NO s1 σ H1 keep I1 q1
 | false=>
   rw[NP ⋯]at q1 ⊢;erw[H1,I1,q1]
def sG(J:It)(D:Addr)(ix:List Nat)(tb:TBl)(σ:St)(H:Hp)(Q:VK):Prop:=∃W:Nat->Nat->Hp->Prop,(∃m,W 0 m (upd H D (.lst [])))/\∀i m H2,W i m H2 ->
 (J.stop i H2/\Q (.ref D) H2)∨(J.go i H2/\∀y H3,J.yld i H2 y H3->tb (some y::outs ix σ) H3 (λH4=>∃m',m'<m/\W (i+1) m' H4)
  λz H4=>∃ys,H4 D=some (.lst ys)/\ys.length<sizeLine/\∃m',m'<m/\W (i+1) m' (upd H4 D (.lst (ys++[z]))))
def CI(wi:TI)(ix:List Nat)(tb:TBl):TE:=λσ H Q=>wi σ H λJ H1=>∀D,H1 D=none->sG J D ix tb σ H1 Q
section
variable {prog:Program} {w:World} {A:Around} {E:Value->Shared->Prop} {R:Result->Shared->Prop} {s:Shared}
def pM{elt target iter:Expr}{ifs:List Expr}{scope:Scope}{pos:Pos}{it acc:Value}{env:Env}(I:Nat->Shared->Prop)
 (turn:∀n s,I n s->wpAny (model prog w) A (pyNext it) (λr s1=>match r with
  | none=>R (.ok .next) s1
  | some v=>wpAny (model prog w) A (letOwnedTupleGo target it v) (λ_ s1'=>wpAny (model prog w) A (assign target env v) (λ_ s2=>
   wpAny (model prog w) A (forIn ifs true λc r=>if r=true then do let ok ←isTrue c env (eval c env);pure (ForInStep.yield ok)else pure (ForInStep.yield r)) (λok s3=>
    if ok=true then wpAny (model prog w) A (eval elt env) (λx s4=>
     wpAny (model prog w) A (call (.builtin "list.append") [acc,x]) (λ_ s5=>∃m,m<n/\I m s5) (λ_ _=>False) s4) (λ_ _=>False) s3
    else ∃m,m<n/\I m s3) (λ_ _=>False) s2) (λ_ _=>False) s1') (λ_ _=>False) s1) (λ_ _=>False) s)
 (n:Nat) (h:I n s) :
 codeAny (model prog w) A (.compLoop (.ListComp elt [%[target,iter,ifs|(0)]] scope pos) 0 it acc env) R s:=by
 let up:∀{α:Type}{t:Sem α}{Q Q':α->Shared->Prop}{E':Value->Shared->Prop}{s:Shared},wpAny (model prog w) A t Q (λ_ _=>False) s->(∀a s,Q a s->Q' a s)->wpAny (model prog w) A t Q' E' s:=
  λh q=>wR1 h q λ_ _ f=>f.elim
 refine codeAny_loop rfl I (λn s hI=>?_) n h;show wpAny _ A ((compTurn (.ListComp elt [%[target,iter,ifs|(0)]] scope pos) 0 it acc env).onRaise (λx=>do noteFrame x env;theTreesLotGoes x)) _ _ s;refine wpAny_noted ?_;rw[compTurn_list];refine zE0 (wpAny_standAt (zE0 (up (turn n s hI) λr s1 h1=>?_)));cases r with
 | none=>exact zI0 h1
 | some v=>
   refine zE0 (up h1 λ_ s1' h1'=>?_);refine zE0 (up h1' λ_ s2 h2=>zE0 (up h2 λok s3 h3=>?_));cases ok with
   | false=>exact zI0 %[1|h3]
   | true=>
     exact zE0 (zE0 (up h3 λx s4 h4=>zE0 (up h4 λ_ s5 h5=>zI0 (zI0 %[1|h5]))))
end
structure Apart(X:Cx)(NO:List (Addr×Obj))(H:Hp)(C:Addr):Prop where
 fr:H C=none
 lo:C≠X.env.locals
 sz:X.s₀.heap.objs.size<=C
 ce:∀y c,X.env.cells.lookup y=some c->c≠C
 pi:∀p∈X.pn++NO,p.1≠C
def Apart.turn{σ:St}{h':Heap}(a:Apart X NO H C)(I:Inv X NO σ H s)(hs:Heap.SameBut C s.heap h'):Inv X NO σ H { s with heap:=h' }:=
 I.turned (t':=s.toks) (λb o ne e=>(hs.2 b ne).trans e) a.fr a.lo (.inr a.sz) a.ce a.pi
section
variable {X:Cx} {x:Str} {N:List Str} {ix:List Nat} {scope:Scope} {cl:List (Str×Addr)} {elt iter:Expr} {ifs:List Expr} {px pos:Pos} {wi:TI} {tb:TBl}
def wZ(hc:X.calm=true)(S:CompScope X x N ix scope cl)(hix:ix.length=N.length)(hb:∀s3 H3 fp,PB (cz X (x::N) scope cl s3 H3 fp) ifs elt tb)
   {σ:St}  {Q:VK}  {fp:List Addr}   {RR:Value->Addr->Result->Shared->Prop} {E:Value->Shared->Prop}
 (I2:Inv X NO σ H2 s2) (T:Turn X.prog X.w X.K (.Name x px) J fp it tn) (st2:tn 0 s2.heap) (f2:∀b∈fp,jJ X NO H2 b)
 (h:∀D,H2 D=none->∃W:Nat->Nat->Hp->Prop,(∃m,W 0 m (upd H2 D (.lst [])))/\∀i m H3,W i m H3 ->
  (J.stop i H3/\Q (.ref D) H3)∨(J.go i H3/\∀y H4,J.yld i H3 y H4->tb (some y::outs ix σ) H4 (λH5=>∃m',m'<m/\W (i+1) m' H5)
   λz H5=>∃ys,H5 D=some (.lst ys)/\ys.length<sizeLine/\∃m',m'<m/\W (i+1) m' (upd H5 D (.lst (ys++[z])))))
 (hRR:∀(D C:Addr)(H':Hp)(s':Shared)(m:Str->Option Value),s'.heap.Ns C m->Apart X NO H' C->Inv X NO σ H' s'->Q (.ref D) H'->RR (.ref D) C (.ok .next) s') :
 wpAny (model X.prog X.w) X.A (newList []) (λacc s3=>wpAny (model X.prog X.w) X.A (newFunctionEnv scope X.env.globals cl [] X.env.qual none .none (some X.env)) (λcenv s4=>
  codeAny (model X.prog X.w) X.A (.compStart (.ListComp elt [%[.Name x px,iter,ifs|(0)]] scope pos) 0 (.ref it) acc { cenv with scope:=relabel scope X.env }) (RR acc cenv.locals) s4) E s3) E s2:=by
 refine zP1 (wpAny_newFunctionEnv S.nocell (by intro y hy;simp at hy) (λh1 hns1 hsb1=>?_) S.kind)
 dsimp only at hns1 hsb1 ⊢
 let I3:Inv X NO σ (upd H2 ‹s2› (.lst [])) { s2 with heap:=s2.heap.push { cls:=.type "list",dict:=none,data:=.seq ([]:List Value).toArray } }:=I2.lnew (its:=[]) (ys:=[]) (t':=s2.toks) .nil (zU0 _);let hD:H2 ‹s2›=none:=I2.fresh;let%[W,%[m0|w0]|turn]:=h ‹s2› hD;let hltF:∀b∈fp,b<‹s2›:=λb hb=>by
  let%[o,e|_]:=T.obj 0 _ st2 b hb;exact zN0 e
 generalize hs3:({ s2 with heap:=s2.heap.push { cls:=.type "list",dict:=none,data:=.seq ([]:List Value).toArray } }:Shared)=s3 at I3;let eh:s2.heap.push { cls:=.type "list",dict:=none,data:=.seq ([]:List Value).toArray }=s3.heap:=by rw[←hs3]
 let et:s2.toks=s3.toks:=by rw[←hs3]
 rw[eh]at hns1 hsb1 ⊢;let sz3:‹s3›=‹s2›+1:=by rw[←eh,jP0]
 let hlt3:∀b∈fp,b<‹s3›:=λb hb=>qN0 (hltF b hb) (by rw[sz3];exact qO0 _)
 let f3:∀b∈fp,jJ X NO (upd H2 ‹s2› (.lst [])) b:=λb hb=>by
  let%[q1|q2]:=f2 b hb;erw[by rw[aB (zV0 (hltF b hb))];exact q1,q2]
 let up:∀b o,s3.heap.get? b=some o->h1.get? b=some o:=λb o e=>hsb1.extBut b o (zV0 (zN0 e)) (zQ0 _ e)
 let old:∀b o,s2.heap.get? b=some o->h1.get? b=some o:=λb o e=>up b o (by rw[←eh];exact zQ0 _ e)
 let es:({ s2 with heap:=h1,toks:=s2.toks+([]:List (Str×Value)).length }:Shared)={ s3 with heap:=h1,toks:=s2.toks+([]:List (Str×Value)).length }:=by rw[←hs3]
 rw [es];let I4:Inv (cz X (x::N) scope cl s3 (upd H2 ‹s2› (.lst [])) fp) [] (none::outs ix σ) (upd H2 ‹s2› (.lst [])) { s3 with heap:=h1,toks:=s2.toks+([]:List (Str×Value)).length }:=
  yY S I3 f3 hlt3 hix hns1 up
 let st4:tn 0 h1:=T.keep 0 _ _ st2 λb _ o e=>old b o e
 let loop:codeAny (model X.prog X.w) X.A (.compLoop (.ListComp elt [%[.Name x px,iter,ifs|(0)]] scope pos) 0 (.ref it) (.ref ‹s2›) (compEnvC scope cl ‹s3› X.env)) (RR (.ref ‹s2›) ‹s3›)
  { s3 with heap:=h1,toks:=s2.toks+([]:List (Str×Value)).length }:=by
  refine pM (λn s'=>∃i v0 H',Inv (cz X (x::N) scope cl s3 (upd H2 ‹s2› (.lst [])) fp) [] (v0::outs ix σ) H' s'/\tn i s'.heap/\(∀b∈fp,H' b=none)/\W i n H') ?_ m0 %[(0),none,_,I4,st4,λb hb=>(f3 b hb).1|w0];rintro n s5 ⟨i,v0,H5,I5,st5,fr5,w5⟩;let stat:∀{H':Hp},(∀b∈fp,H' b=none)->∀b∈fp,jJ (cz X (x::N) scope cl s3 (upd H2 ‹s2› (.lst [])) fp) [] H' b:=λhn b hb=>
   %[hn b hb,((nV S I3 f3 hlt3).exf b hb).1,(nV S I3 f3 hlt3).exfs b hb,.inl hb,((nV S I3 f3 hlt3).exf b hb).2|λp hp=>absurd (show p∈([]:List (Addr×Obj))from hp) #[2]]
  rcases turn i n H5 w5 with⟨stop,qn⟩ | ⟨go,step⟩
  . refine thn (T.done (cz X (x::N) scope cl s3 (upd H2 ‹s2› (.lst [])) fp) rfl rfl rfl hc i [] s5 _ H5 _ I5 (stat fr5) st5 stop) λr s6 ⟨hr,I6⟩=>?_
    subst hr;erw[m6,hn6,_]at I6.loc;exact hRR _ _ H5 s6 m6 hn6 ⟨I6.free,Ne.symm (zV0 I3.lt),I3.sz,λy c e z=>by
     let%[v|q]:=I3.cell y c e;exact absurd q.lt (by rw[z];exact qV0 _),λp hp z=>absurd (zN0 (I3.pin p hp).1) (by rw[z];exact qV0 _)⟩ (tS I3 f3 I6 (Heap.SameBut.refl _ _)) qn
  . refine thn (T.item (cz X (x::N) scope cl s3 (upd H2 ‹s2› (.lst [])) fp) rfl rfl rfl hc i [] s5 _ H5 _ I5 (stat fr5) st5 go) λr s6 ⟨u,hr,h6⟩=>?_
    subst hr;refine thn h6 λ_ s7 ⟨y,H7,I7,r7,y7,st7,fr7⟩=>?_
    let I7':=I7.pinned (stat fr7) (T.obj _ _ st7);refine wS0 (qy (i:=0) I7' S.nd rfl (.inl (qT1 S.own)) r7 (λs8 I8=>?_) (.inr (qT1 S.own)));let I8':Inv (cz X (x::N) scope cl s3 (upd H2 ‹s2› (.lst [])) fp) ([]++lR fp s7.heap) (some y::outs ix σ) H7 s8:=I8;let again:∀{v9:Option V}{H9:Hp}{s9:Shared},Inv (cz X (x::N) scope cl s3 (upd H2 ‹s2› (.lst [])) fp) ([]++lR fp s7.heap) (v9::outs ix σ) H9 s9->(∃m',m'<n/\W (i+1) m' H9) ->
     ∃m,m<n/\∃i v0 H',Inv (cz X (x::N) scope cl s3 (upd H2 ‹s2› (.lst [])) fp) [] (v0::outs ix σ) H' s9/\tn i s9.heap/\(∀b∈fp,H' b=none)/\W i m H':=fun{v9 H9 s9} I9 ⟨m',hm,w9⟩=>by
     erw[m',hm,i+1,v9,H9,I9.unpinned,T.keep _ _ _ st7 λb hb o e=>(I9.pin (b,o) (qQ0 _ (qQ0 _ (fZ hb e)))).1,λb hb=>?_,w9];let%[o,e|d]:=T.obj _ _ st7 b hb;exact(I9.pin (b,o) (qQ0 _ (qQ0 _ (fZ hb e)))).2.1
    refine thn (hb s3 (upd H2 ‹s2› (.lst [])) fp _ s8 _ H7 _ _ I8' (step y H7 y7)) λok s9 q9=>?_
    cases ok with
    | false=>
      rw[NP ⋯]at q9 ⊢;erw[H9,I9,q9]at q9;exact again I9 q9
    | true=>
      rw[NQ rfl]at q9 ⊢;refine thn q9 λu s10 ⟨z,H10,I10,r10,ys,hy,hz,q10⟩=>?_
      refine thn (ca _ s10 _ H10 (.ref ‹s2›) [z] (.ref ‹s2›) [u] (λ_ H'=>∃m',m'<n/\W (i+1) m' H') I10 rfl (.cons r10 .nil) %[_,ys,z,1,1,hy,hz|q10]) λ_ s11 ⟨_,H11,I11,_,q11⟩=>?_
      exact again I11 q11
 exact codeAny_compStart_list loop (T.self _ 0 _ _ _ st4 loop)
def cH(hc:X.calm=true)(S:CompScope X x N ix scope cl)(hix:ix.length=N.length)(hi:PI X (.Name x px) iter wi)(hb:∀s3 H3 fp,PB (cz X (x::N) scope cl s3 H3 fp) ifs elt tb)
 (hs:∀x,foldedSetIterable iter X.env x=pure x:=by intro _;rfl):PE X (.ListComp elt [%[.Name x px,iter,ifs|(0)]] scope pos) (CI wi ix tb):=by
 intro NO s σ H Q I h;rw[eval_ListComp];refine jS1 (use:=none) rfl hs S.clos S.kind S.names (thn (hi NO s σ H _ I h) λxv s1 h1=>thn h1 λitv s2 h2=>?_);erw[it,fp,tn,J,H2,1,I2,T,st2,f2,R]at h2;refine wZ hc S hix hb (RR:=λacc C=>compPost (model X.prog X.w) X.A X.xe none (EP X NO σ Q) acc C) I2 T st2 f2 R ?_;intro D C H' s' m hn ap I' q;erw[m,hn,λh'' hb''=>%[.ref D,H',ap.turn I' hb'',1|q]]
def pY{i:Nat}{y:Str}{py spos:Pos}(hN:X.N.Nodup)(hi0:X.N[i]?=some y)(hx:Loc X.env.scope y)(hc:X.calm=true)(S:CompScope X x N ix scope cl)(hix:ix.length=N.length)(hi:PI X (.Name x px) iter wi)(hb:∀s3 H3 fp,PB (cz X (x::N) scope cl s3 H3 fp) ifs elt tb)
 (hsw:swapsWith (.ListComp elt [%[.Name x px,iter,ifs|(0)]] scope pos) (some (.Name y py)) spos.line X.env=pure true:=by rfl')
 (hs:∀x,foldedSetIterable iter X.env x=pure x:=by intro _;rfl) (hf:X.fn y=true∨X.env.scope.names.lookup y=some .local:=by first | exact .inl rfl | exact .inr rfl | assumption) :
 PS X (.Assign [.Name y py] (.ListComp elt [%[.Name x px,iter,ifs|(0)]] scope pos) spos) (λD σ H=>CI wi ix tb σ H λv H'=>D.nx (σ.set i (some v)) H'):=by
 intro NO s σ H Dn I h;rw[exec_Assign_Name_used _ _ _ _ hsw];refine zE0 (wpAny_standAt (zE0 ?_));show wpAny _ X.A (do let _ ←comprehension (.ListComp elt [%[.Name x px,iter,ifs|(0)]] scope pos) scope X.env _ (newList []) false (eval iter X.env) (some (assign (.Name y py) X.env))) _ _ s;refine zE0 (wR1 (jS1 (use:=some (assign (.Name y py) X.env)) (Q:=λ_ s'=>SP X NO Dn .next s') rfl hs S.clos S.kind S.names
  (thn (hi NO s σ H _ I h) λxv s1 h1=>thn h1 λitv s2 h2=>?_)) (λ_ s' hq=>zI0 (zI0 hq)) λ_ _ e=>e)
 erw[it,fp,tn,J,H2,1,I2,T,st2,f2,R]at h2;refine wZ hc S hix hb (RR:=λacc C=>compPost (model X.prog X.w) X.A X.xe (some (assign (.Name y py) X.env)) (λ_ s'=>SP X NO Dn .next s') acc C) (Q:=λv H'=>Dn.nx (σ.set i (some v)) H') I2 T st2 f2 R ?_;intro D C H' s' m hn ap I' q;show wpAny _ X.A (assign (.Name y py) X.env (.ref D)) _ _ _;refine wS0 (tj I' hN hi0 hx (v:=.ref D) rfl (λs'' I'' hsb=>?_) hf);erw[a,hsb,ha]at hsb;let ne:C≠a:=by
  rcases ha with z | z
  . rw[z];exact ap.lo
  . exact Ne.symm (ap.ce y a z)
 erw[m,hn.sameBut hsb ne,λh'' hb''=>%[_,H',ap.turn I'' hb''|q]]
end
section
variable {X:Cx} {NO:List (Addr×Obj)} {σ:St} {H:Hp} {s:Shared} {h':Heap}
def Inv.turnedNew{t':Nat}{ch:List Addr}{T:Addr}(I:Inv X NO σ H s)(k:∀b u,b∉ch->s.heap.get? b=some u->h'.get? b=some u)(hf:∀b∈ch,jJ X NO H b)(hT:‹s›<=T)
 (new:ObjOk X.prog X.w (upd H T o) h' T o):Inv X NO σ (upd H T o) { s with heap:=h',toks:=t' }:=by
 let nit:∀b u,H b=some u->b∉ch:=λb u e z=>by rw[(hf b z).1]at e;cases e
 let hn:H T=none:=I.hok.fresh hT;let lt:∀b u,s.heap.get? b=some u->b≠T:=λb u e=>zV0 (qN0 (zN0 e) hT)
 refine I.step (g':=s.gens) (d':=s.drawn) (ch:=ch) (λb hb=>?_) (λb u _ _ hc e _=>k b u hc e) (λb u _ _ hc e _=>%[u.slots|k b u hc e]) (λb u _ e n=>by rw[aB (lt b u e)];exact n) (λb u hc e=>%[u|k b u hc e])
  (λb xs e=>by rw[aB (aQ e hn)];exact e) (λb ob u e=>by rw[aB (aQ e hn)];exact e) (λb ps e=>%[#[]|by rw[aB (aQ e hn),e];simp]) (λm hm=>?_) (λb u e=>?_) I.bare
 . let%[_,h2,_,h4,h5|h6]:=hf b hb;erw[h4,h2,h5,h6]
 . erw[ob,es,ep,ho,r]at hm;erw[ob,es,ep,k _ ob (λz=>(hf _ z).2.1 rfl) ho,r]
 . by_cases hb:b=T
   . subst hb;rw[aJ]at e;cases e;exact new
   . rw [aB hb]at e;refine(I.hok b u e).stay (λc v hc q=>k c v ?_ q) (λc q=>by rw[aB (aQ q hn)];exact q) λc xs q=>by rw[aB (aQ q hn)];exact q
     rcases hc with z | z
     . rw[z];exact nit b u e
     . exact nit c _ z
def Inv.turnedL{t':Nat}{ch:List Addr}(I:Inv X NO σ H s)(k:∀b u,b∉ch->s.heap.get? b=some u->h'.get? b=some u)(hf:∀b∈ch,jJ X NO H b):Inv X NO σ H { s with heap:=h',toks:=t' }:=by
 let nit:∀b u,H b=some u->b∉ch:=λb u e z=>by rw[(hf b z).1]at e;cases e
 refine I.step (g':=s.gens) (d':=s.drawn) (ch:=ch) (λb hb=>?_) (λb u _ _ hc e _=>k b u hc e) (λb u _ _ hc e _=>%[u.slots|k b u hc e]) (λ_ _ _ _ n=>n) (λb u hc e=>%[u|k b u hc e])
  (λ_ _ e=>e) (λ_ _ _ e=>e) (λb ps e=>%[#[]|by rw[e];simp]) (λm hm=>?_) (λb u e=>?_) I.bare
 . let%[_,h2,_,h4,h5|h6]:=hf b hb;erw[h4,h2,h5,h6]
 . erw[ob,es,ep,ho,r]at hm;erw[ob,es,ep,k _ ob (λz=>(hf _ z).2.1 rfl) ho,r]
 . refine (I.hok b u e).stay (λc v hc q=>k c v ?_ q) (λ_ q=>q) λ_ _ q=>q
   rcases hc with z | z
   . rw[z];exact nit b u e
   . exact nit c _ z
end
def Ite(K:W.Frag)(a:Addr):It:=
 ⟨λi H=>∃xs x,SqL K H a xs/\xs[i]?=some x,λi H y H'=>∃t,y=.ref t/\H t=none/\∀xs x,SqL K H a xs->xs[i]?=some x->H'=upd H t (.tup [.int i,x]),λi H=>∃xs,SqL K H a xs/\xs.length<=i⟩
def Ay{K:W.Frag}{elts:List Expr}{k:Nat}{pos:Pos}(a e it:Addr)(hei:e≠it) :
 Turn P w K (.Tuple elts k pos) (Ite K a) [e,it] e (λi h=>(∃old,IsEnum h e it i old)/\h.IsListIter it a i) where
 mem:=by simp
 obj:=λi h st b hb=>by
  erw[%[old|he],o,e2,c,d]at st;rcases zW0 hb with z | z
  . subst z;erw[_,he,λv z=>nomatch z]
  . let z':=NW z;subst z';erw[o,e2,λv z=>by rw[d]at z;cases z]
 keep:=λi h h' st k=>by
  erw[%[old|he],hit]at st;erw[%[old|k e #[2] _ he],hit.at λo x=>k it #[2] o x]
 item:=by
  intro X hP hw hK hc i NO s σ H E I hf st hg;subst hP hw hK;erw[xs,x,hq,hx]at hg;let%[its,rv,p|hz]:=I.list hq;let%[u,hu|ru]:=rv.get hx;erw[%[old|he],hit]at st;refine wpAny_pyNext_enum_item he hit p.isList (x:=u) (by simpa using hu) hei λh1 ho hit1 hT hsz hk=>?_
  erw[0,wpAny_letOwnedTupleGo_enum ho λh2 he2 hs2=>?_];let elt:e<‹s›:=zN0 he;let hT2:h2.get? ‹s›=some { cls:=.type "tuple",data:=.seq #[.int i s.toks,u] }:=(hs2.2 _ (Ne.symm (zV0 elt))).trans hT;let I2:Inv X NO σ (upd H ‹s› (.tup [.int i,x])) { s with heap:=h2,toks:=s.toks+1 }:=by
   refine I.turnedNew (ch:=[e,it]) (λb ob hb eb=>?_) hf (zG0 _) %[by show 2<=sizeLine;decide,[.int i s.toks,u],.cons %[|0] (.cons ru .nil),%[_,hT2,1|0],_,hT2|1];let b1:b≠e:=λz=>hb (by simp [z])
   let b2:b≠it:=λz=>hb (by simp [z])
   exact(hs2.2 b b1).trans (hk b ob b1 b2 eb)
  erw[.ref ‹s›,_,I2,1,%[0,I.hok.fresh (zG0 _)|λys y hy hyi=>?_],%[%[u|by simpa using he2]|hit1.at λo z=>(hs2.2 it (Ne.symm hei)).trans z],λb hb=>?_]
  . let e1:=I.list_inj hy hq;subst e1;rw[hx]at hyi;cases hyi;rfl
  . let z:=hf b hb;let NT:b<‹s›:=by
     rcases zW0 hb with y | y
     . rw[y];exact elt
     . rw[NW y];erw[o,e2,_]at hit;exact zN0 e2
    rw[aB (zV0 NT)];exact z.1
 done:=by
  intro X hP hw hK hc i NO s σ H E I hf st hg;subst hP hw hK;erw[xs,hq,hx]at hg;let%[its,rv,p|hz]:=I.list hq;erw[%[old|he],hit]at st;let hl:=rv.length;exact wpAny_pyNext_enum_end (I.ok.hd hc) he hit p.isList (Array.getElem?_eq_none (by simp;omega)) λh' eb=>%[1|I.turnedL (t':=s.toks) (ch:=[e,it]) (λb o hb eo=>eb b o (λz=>hb (by simp [z])) eo) hf]
 self:=λ_ _ _ _ _ st h=>by
  erw[%[old|he],_]at st;exact jW1 he h
section
variable {X:Cx} {elts:List Expr} {k:Nat} {tpos:Pos}
instance ZiEnum(K:W.Frag)(R:(It->Hp->Prop))(x:V)(H1:Hp):∀a,x=.ref a->(∃xs,SqL K H1 a xs)->R (Ite K a) H1:=0
def iEnum(K:W.Frag)(tl:TE):TI:=λσ H R=>tl σ H λx H1=>ZiEnum K R x H1
def Gv   {p pos:Pos} (hg:Gl X "enumerate") (hm:X.mg "enumerate"=none) (hl:PE X l tl) (hs:starEach [l] X.env=[(false,eval l X.env)]:=by rfl) :
 PI X (.Tuple elts k tpos) (.Call (.Name "enumerate" p) [l] [] pos) (iEnum X.K tl):=by
 intro NO s σ H R I h;refine Call_ (ir I hg hm boot_enumerate (zN1 ?_ hs rfl));rw[hs];show wpAny _ _ (spliced ((false,eval l X.env)::backTo pos (starEach [] X.env))) _ _ s;refine qP1 (thn (hl NO s σ H _ I h) λu s1 ⟨x,H1,I1,r1,a,ex,⟨xs,hq⟩,q⟩=>?_);subst ex;cases r1;let%[its,rv,p|hz]:=I1.list hq;refine jB1 ?_;refine call_enumerate_list p.isList λh' he hit hsz hk=>?_
 refine jW1 he ?_;let I2:Inv X NO σ H1 { s1 with heap:=h' }:=I1.kept (t':=s1.toks) hk;erw[‹s1›+1,[‹s1›+1,‹s1›],_,_,H1,1,I2,Ay a _ _ (jX1 (qI1 _)),%[%[_|he]|hit],λb hb=>?_,q];rcases zW0 hb with z | z
 . rw[z];exact I1.fpOk (qO0 _) (I1.hok.fresh (qO0 _))
 . rw[NW z];exact I1.fpOk (zG0 _) (I1.hok.fresh (zG0 _))
end
def EV{K:W.Frag}{xs:List V}{g:TG}{tb:TS}{D:Ends}{σ:St}{H:Hp}(Pv:Nat->St->Hp->Prop)(h0:Pv 0 σ H)(hl:∀i σ H,i<=xs.length->Pv i σ H->SqL K H a xs)
 (hs:∀i x σ H t,xs[i]?=some x->Pv i σ H->H t=none->g (.ref t) σ (upd H t (.tup [.int i,x])) λσ2 H2=>tb { D with nx:=Pv (i+1),ct:=Pv (i+1),bk:=D.nx } σ2 H2) (hd:∀ σ H,Pv xs.length σ H->D.nx σ H) :
 ∃ W:Nat->Nat->St->Hp->Prop,(∃m,W 0 m σ H)/\∀i m σ H,W i m σ H ->
  ((Ite K a).stop i H/\D.nx σ H)∨((Ite K a).go i H/\∃N:St->Hp->Prop,(∀ σ' H',N σ' H'->∃m',m'<m/\W (i+1) m' σ' H')/\∀x H',(Ite K a).yld i H x H'->g x σ H' λσ2 H2=>tb { D with nx:=N,ct:=N,bk:=D.nx } σ2 H2):=by
 erw[λi m σ H=>m=xs.length-i/\i<=xs.length/\Pv i σ H,%[xs.length,by simp,zU0 _|h0],6];rintro i m σ H ⟨rfl,hi,p⟩;let q:=hl i σ H hi p
 by_cases NT:i<xs.length
 . refine .inr %[%[xs,xs[i],q|by simp [NT]],Pv (i+1),λσ' H' p'=>%[xs.length-(i+1),3,1,NT|p']|λx H' y=>?_];erw[t,1,ht,e]at y;let e':=e xs xs[i] q (by simp [NT]);subst e';exact hs i xs[i] σ H t (by simp [NT]) p ht
 . let e:i=xs.length:=by omega
   subst e;exact .inl %[%[xs,q|zG0 _]|hd σ H p]
mutual
inductive Rep(K:W.Frag)(H:Hp):V->PyData->Prop
 | non:Rep K H .non .none
 | bl (b:Bool):Rep K H (.bl b) (.bool b)
 | int (i:Int):Rep K H (.int i) (.int i)
 | str (x:Str):Rep K H (.str x) (.str x)
 | tup {a:Addr} {xs:List V} {ds:List PyData}:SqT K H a xs->RepAll K H xs ds->Rep K H (.ref a) (.tuple ds)
 | lst {a:Addr} {xs:List V} {ds:List PyData}:SqL K H a xs->RepAll K H xs ds->Rep K H (.ref a) (.list ds)
inductive RepAll(K:W.Frag)(H:Hp):List V->List PyData->Prop
 | nil:RepAll K H [] []
 | cons {x:V} {d:PyData} {xs:List V} {ds:List PyData}:Rep K H x d->RepAll K H xs ds->RepAll K H (x::xs) (d::ds)
end
section
variable {X:Cx} {NO:List (Addr×Obj)} {σ:St} {H:Hp} {s:Shared}
mutual
def Rep.reads(I:Inv X NO σ H s):∀{x:V}{d:PyData}{v:Value},Rep X.K H x d->RelV x v->∃as,Reads s.heap v d as
 | _,_,v,.non,r=>by cases(show v=Value.none from r);erw[_,Reads.none]
 | _,_,v,.bl b,r=>by cases(show v=Value.bool b from r);erw[_,Reads.bool b]
 | _,_,v,.int i,r=>by let%[t|e]:=(show ∃t,v=Value.int i t from r);cases e;erw[_,Reads.int i t]
 | _,_,v,.str x,r=>by let%[t|e]:=(show ∃t,v=Value.str x t from r);cases e;erw[_,Reads.str x t]
 | _,_,v,.tup (a:=a) h q,r=>by
   cases(show v=Value.ref a from r);let%[its,rv,%[o,ho,hc,n|hd]|_]:=I.tuple h;let%[as|z]:=RepAll.reads I q rv;erw[_,reads_tuple_at ho hc hd (by simpa using z)]
 | _,_,v,.lst (a:=a) h q,r=>by
   cases(show v=Value.ref a from r);let%[its,rv,%[o,n,ho,hc,_|hd]|_]:=I.list h;let%[as|z]:=RepAll.reads I q rv;erw[_,reads_list_at ho hc hd (by simpa using z)]
def RepAll.reads(I:Inv X NO σ H s):∀{xs:List V}{ds:List PyData}{vs:List Value},RepAll X.K H xs ds->Vals xs vs->∃as,ReadsAll s.heap vs ds as
 | _,_,_,.nil,.nil=>%[_|ReadsAll.nil]
 | _,_,_,.cons h q,.cons r rs=>by
   let%[as|z]:=Rep.reads I h r;let%[bs|y]:=RepAll.reads I q rs;erw[_,ReadsAll.cons z y]
end
end
def qW{K:W.Frag}:∀ns:List Int,RepAll K H (ns.map V.int) (ns.map PyData.int)
 | []=>.nil
 | n::r=>.cons (.int n) (qW r)
section
variable {X:Cx}
instance rEqD(K:W.Frag)(x:V)(y:V)(H:Hp)(Q:VK):∀d e,Rep K H x d->Rep K H y e->SeqAt.shaped d=true->SeqAt.shaped e=true->Q (.bl (PyData.eqv d e)) H:=0
instance rNeD(K:W.Frag)(x:V)(y:V)(H:Hp)(Q:VK):∀d e,Rep K H x d->Rep K H y e->SeqAt.shaped d=true->SeqAt.shaped e=true->Q (.bl (!PyData.eqv d e)) H:=0
def uW(hu:X.A.units+64<cLine):OpR X (compareOp .Eq) (rEqD X.K):=by
 intro NO s σ H x y v u Q I rx ry h;erw[d,e,hd,he,sd,se,q]at h;let%[as|r1]:=Rep.reads I hd rx;let%[bs|r2]:=Rep.reads I he ry;exact eq_dataH r1 r2 sd se hu %[.bl _,H,I,1|q]
def IY(hu:X.A.units+64<cLine):OpR X (compareOp .NotEq) (rNeD X.K):=by
 intro NO s σ H x y v u Q I rx ry h;erw[d,e,hd,he,sd,se,q]at h;let%[as|r1]:=Rep.reads I hd rx;let%[bs|r2]:=Rep.reads I he ry;exact ne_dataH r1 r2 sd se hu %[.bl _,H,I,1|q]
instance rCatT0(K:W.Frag)(x:V)(y:V)(H:Hp)(Q:VK):∀a b ys,x=.ref a->y=.ref b->SqT K H a []->SqT K H b ys->Q (.ref b) H:=0
def mQ:OpR X (binaryOp .Add) (rCatT0 X.K):=by
 intro NO s σ H x y v u Q I rx ry h;erw[a,b,ys,1,1,ha,hb,q]at h;cases rx;cases ry;let%[its,r1,p1|_]:=I.tuple ha;let%[its2,r2,p2|_]:=I.tuple hb;let%[%[cls,dd,data|sl],ho,hc,n|hd]:=id p1;let%[%[cls2,dd2,data2|sl2],ho2,hc2,n2|hd2]:=id p2;simp only at hc hd hc2 hd2;subst hc hd hc2 hd2;let e:its=[]:=r1.nil_iff.mpr rfl;exact concat_meets %[_,ho|1] ⟨_,ho2,rfl⟩ vA0 seq_tuple_add jV1 jU0 (jS0 _ _)
  (tuple_addW0 a b its.toArray its2.toArray n n2 dd dd2 sl sl2 (by simp [e])) %[ho,ho2|%[.ref b,H,I,1|q]]
end
def Nx(n i:Nat)(Pv:Nat->Hp->Prop)(H:Hp):Prop:=∃m',m'<n-i/\(m'=n-(i+1)/\i+1<=n/\Pv (i+1) H)
def Nx.of{n i:Nat}{Pv:Nat->Hp->Prop}{H:Hp}(h:i<n)(p:Pv (i+1) H):Nx n i Pv H:=%[n-(i+1),3,1,h|p]
def gC{K:W.Frag}{xs:List V}{tb:TBl}{Q:VK}(Pv:Nat->Hp->Prop)(h0:Pv 0 (upd H D (.lst [])))(hl:∀i H,i<=xs.length->Pv i H->SqT K H a xs)
 (hs:∀i x H,xs[i]?=some x->Pv i H->tb (some x::outs ix σ) H (Nx xs.length i Pv) λz H'=>∃ys,H' D=some (.lst ys)/\ys.length<sizeLine/\Nx xs.length i Pv (upd H' D (.lst (ys++[z])))) (hd:∀H,Pv xs.length H->Q (.ref D) H) :
 sG (Itt K a) D ix tb σ H Q:=by
 erw[λi m H=>m=xs.length-i/\i<=xs.length/\Pv i H,%[xs.length,by simp,zU0 _|h0],6];rintro i m H ⟨rfl,hi,p⟩;let q:=hl i H hi p
 by_cases NT:i<xs.length
 . refine .inr %[%[xs,xs[i],q|by simp [NT]]|λx H' y=>?_];erw[e,y]at y;subst e;exact hs i x _ (y xs q) p
 . let e:i=xs.length:=by omega
   subst e;exact .inl %[%[xs,q|zG0 _]|hd H p]
def hU{K:W.Frag}{xs:List V}{tb:TBl}{Q:VK}(Pv:Nat->Hp->Prop)(h0:Pv 0 (upd H D (.lst [])))(hl:∀i H,i<=xs.length->Pv i H->SqL K H a xs)
 (hs:∀i x H,xs[i]?=some x->Pv i H->tb (some x::outs ix σ) H (Nx xs.length i Pv) λz H'=>∃ys,H' D=some (.lst ys)/\ys.length<sizeLine/\Nx xs.length i Pv (upd H' D (.lst (ys++[z])))) (hd:∀H,Pv xs.length H->Q (.ref D) H) :
 sG (Itl K a) D ix tb σ H Q:=by
 erw[λi m H=>m=xs.length-i/\i<=xs.length/\Pv i H,%[xs.length,by simp,zU0 _|h0],6];rintro i m H ⟨rfl,hi,p⟩;let q:=hl i H hi p
 by_cases NT:i<xs.length
 . refine .inr %[%[xs,xs[i],q|by simp [NT]]|λx H' y=>?_];erw[e,y]at y;subst e;exact hs i x _ (y xs q) p
 . let e:i=xs.length:=by omega
   subst e;exact .inl %[%[xs,q|zG0 _]|hd H p]
def eP{lo:Int}{n:Nat}{tb:TBl}{Q:VK}(Pv:Nat->Hp->Prop)(h0:Pv 0 (upd H D (.lst [])))
 (hs:∀i H,i<n->Pv i H->tb (some (.int (lo+i))::outs ix σ) H (Nx n i Pv) λz H'=>∃ys,H' D=some (.lst ys)/\ys.length<sizeLine/\Nx n i Pv (upd H' D (.lst (ys++[z])))) (hd:∀H,Pv n H->Q (.ref D) H) :
 sG (Itr lo n) D ix tb σ H Q:=by
 erw[λi m H=>m=n-i/\i<=n/\Pv i H,%[n,by simp,zU0 _|h0],6];rintro i m H ⟨rfl,hi,p⟩
 by_cases NT:i<n
 . refine .inr %[NT|λx H' y=>?_];erw[e,y]at y;subst e y;exact hs i _ NT p
 . let e:i=n:=by omega
   subst e;exact .inl %[zG0 _|hd H p]
def CompScope.closed{X:Cx}{x:Str}{scope:Scope}(c1:closureFor scope X.env=pure [])(c2:∀y∈scope.names,y.2≠.cell)(c3:scope.kind=.function)(c4:∀y∈scope.names,y.2=.local->scope.names.lookup y.1=some .local)
 (c5:scope.names.lookup x=some .local) (c6:((relabel scope X.env).names.all λp=>!(p.2==.cell||p.2==.free)||((([]:List (Str×Addr))).lookup p.1).isSome)=true):CompScope X x [] [] scope [] where
 clos:=c1
 nocell:=c2
 kind:=c3
 names:=c4
 own:=c5
 nd:=by simp
 sub:=λp hp=>absurd hp #[2]
 has:=c6
 outs:=λj y h=>by simp at h
section
variable {X:Cx}
def wL(K:W.Frag)(hK:X.K=K:=by rfl):IxR X (rIxL K):=by subst hK;exact ix_list
end
def Its(z:Str):It:=⟨λi _=>i<z.cps.size,λi H x H'=>H'=H/\∃c,z.cps[i]?=some c/\x=.str %[|#[c]],λi _=>z.cps.size<=i⟩
def qm{prog:Program}{w:World}{A:Around}(hh:A.handled=none)(I:Addr)(x:Str)(t:Tok):Walks prog w A I [I] [I] x.cps.size (SignAt x) (λi h=>h.IsStrIter I (strIterType x) x t i):=by
 unfold strIterType
 split
 . exact Walks.strAscii hh I x t
 . exact Walks.strWide hh I x t
def Cw{K:W.Frag}{y:Str}{py:Pos}(z:Str)(t:Tok)(it:Addr):Turn P w K (.Name y py) (Its z) [it] it (λi h=>i<=z.cps.size/\h.IsStrIter it (strIterType z) z t i) where
 mem:=by simp
 obj:=λi h st b hb=>by
  let e:b=it:=by simpa using hb
  subst e;erw[_,o,e,c,d]at st;erw[o,e,λv z=>by rw[d]at z;cases z]
 keep:=λi h h' st k=>by
  erw[hi,o,e,r]at st;erw[hi,o,k it #[2] o e,r]
 item:=by
  intro X hP hw hK hc i NO s σ H E I hf st hg;subst hP hw hK;let%[f0,f1,f2,f3,f4|f5]:=hf it #[2];refine(qm (I.ok.hd hc) it z t).item i s _ E hg st.2 λv h' tk hP NV hk=>?_
  erw[c,u,hcx,1]at hP;let I1:Inv X NO σ H { s with heap:=h',toks:=tk }:=I.turned (λb o hb e=>hk b o (by simpa using hb) e) f0 f1 f3 f4 f5;erw[0,jE1 (a:=()) rfl %[.str %[|#[c]],H,I1,%[|0],%[1,c,hcx|1],%[hg|NV]|λb hb=>(hf b hb).1]]
 done:=by
  intro X hP hw hK hc i NO s σ H E I hf st hg;subst hP hw hK;let%[f0,f1,f2,f3,f4|f5]:=hf it #[2];let e:i=z.cps.size:=Nat.le_antisymm st.1 hg;subst e;refine(qm (I.ok.hd hc) it z t).done s _ E st.2 λh' tk hk=>?_
  erw[1,I.turned (λb o hb e=>hk b o (by simpa using hb) e) f0 f1 f3 f4 f5]
 self:=λA i s Q E st h=>by
  erw[_,st]at st;unfold strIterType at st
  split at st
  . exact wpAny_pyIter_striter_ascii st h
  . exact wpAny_pyIter_striter_wide st h
section
variable {X:Cx} {y:Str} {py:Pos}
instance ZiStr(R:(It->Hp->Prop))(x:V)(H1:Hp):∀z,x=.str z->R (Its z) H1:=0
def iStr(tl:TE):TI:=λσ H R=>tl σ H λx H1=>ZiStr R x H1
def DE(hl:PE X l tl):PI X (.Name y py) l (iStr tl):=by
 intro NO s σ H R I h;refine thn (hl NO s σ H _ I h) λv s1 ⟨x,H1,I1,r1,q1⟩=>?_
 erw[z,e,q]at q1;subst e;erw[t,1]at r1;refine wpAny_pyIter_strU ?_;erw[‹s1›,[‹s1›],_,_,H1,1,I1.kept (t':=s1.toks) λb o e=>zQ0 _ e,Cw z t _,%[zU0 _,_,qB0 _ rfl,1|1],λb hb=>?_,q];let e:b=‹s1›:=by simpa using hb
 subst e;exact I1.fpOk (zG0 _) (I1.hok.fresh (zG0 _))
end
def sy{z:Str}{tb:TBl}{Q:VK}(Pv:Nat->Hp->Prop)(h0:Pv 0 (upd H D (.lst [])))
 (hs:∀i c H,z.cps[i]?=some c->Pv i H->tb (some (.str %[|#[c]])::outs ix σ) H (Nx z.cps.size i Pv) λu H'=>∃ys,H' D=some (.lst ys)/\ys.length<sizeLine/\Nx z.cps.size i Pv (upd H' D (.lst (ys++[u])))) (hd:∀H,Pv z.cps.size H->Q (.ref D) H) :
 sG (Its z) D ix tb σ H Q:=by
 erw[λi m H=>m=z.cps.size-i/\i<=z.cps.size/\Pv i H,%[z.cps.size,by simp,zU0 _|h0],6];rintro i m H ⟨rfl,hi,p⟩
 by_cases NT:i<z.cps.size
 . refine .inr %[NT|λx H' y=>?_];erw[e,c,hc,1]at y;subst e;exact hs i c _ hc p
 . let e:i=z.cps.size:=by omega
   subst e;exact .inl %[zG0 _|hd H p]
section
variable {X:Cx}
instance rSlS(x:V)(lo:Option Int)(hi:Option Int)(H:Hp)(Q:VK):∀z,x=.str z->z.length<=sizeLine->Q (.str (Txt.slice z lo hi)) H:=0
def xK:SlR X rSlS:=by
 intro NO s σ H x v vl vu lo hi sl Q I rx hs pl pu h;erw[z,1,hz,q]at h;erw[t,1]at rx;erw["str",_,F.slot_str_getitem.lookup,wF0 _ _ _,6];let fin:∀t' k,EP X NO σ Q (.str (Txt.slice z lo hi) t') { s with toks:=k }:=λt' k=>%[.str _,H,I.tok k,%[|0]|q]
 erw[o,ho,hc,hd]at hs;cases pl with
 | none=>
   cases pu with
   | none=>exact jF0 (l:=none) (u:=none) (st:=none) %[o,ho,hc|hd] rfl (wI0 ⟨zR0 (jY0 z _ _) hz,fin⟩)
   | int j u=>exact jF0 (l:=none) (u:=some (j,u)) (st:=none) %[o,ho,hc|hd] rfl (wI0 ⟨zR0 (jY0 z _ _) hz,fin⟩)
 | int i u'=>
   cases pu with
   | none=>exact jF0 (l:=some (i,u')) (u:=none) (st:=none) %[o,ho,hc|hd] rfl (wI0 ⟨zR0 (jY0 z _ _) hz,fin⟩)
   | int j u=>exact jF0 (l:=some (i,u')) (u:=some (j,u)) (st:=none) %[o,ho,hc|hd] rfl (wI0 ⟨zR0 (jY0 z _ _) hz,fin⟩)
instance rStarts(x:V)(vs:List V)(H:Hp)(Q:VK):∀z u,x=.str z->vs=[.str u]->Q (.bl (Txt.startswith z u)) H:=0
def sT:MtR X "str.startswith" rStarts:=by
 intro NO s σ H x vs v us Q I rx rv h;erw[z,u,1,1,q]at h;erw[t,1]at rx;erw[w',1,t',1]at rv.one;exact SC.startswith %[.bl _,H,I,1|q]
def qx:∀{zs:List Str}{us:List Value},Vals (zs.map V.str) us->StrsAre us zs
 | [],_,.nil=>.nil
 | _::_,_,.cons ⟨t,e⟩ r=>by subst e;exact .cons _ t (qx r)
instance rJoin(K:W.Frag)(x:V)(vs:List V)(H:Hp)(Q:VK):∀z a ys,x=.str z->vs=[.ref a]->SqL K H a (ys.map V.str)->z.length<=16->(ys.map (·.length)).sum+ys.length<=1048576->Q (.str (Txt.join z ys)) H:=0
def Hb:MtR X "str.join" (rJoin X.K):=by
 intro NO s σ H x vs v us Q I rx rv h;erw[z,a,ys,1,1,hq,hz,hw,q]at h;erw[t,1]at rx;erw[w',1,ra]at rv.one;cases ra;let%[its,r',p|_]:=I.list hq;exact join_listW p.isList (by simpa using qx r') hz hw λt' k=>%[.str _,H,I.tok k,%[|0]|q]
instance rAll(K:W.Frag)(xs:List V)(H:Hp)(Q:VK):∀(a:Addr)(bs:List Bool),xs=[.ref a]->SqL K H a (bs.map V.bl)->Q (.bl (bs.all id)) H:=0
def tV:∀{bs:List Bool}{us:List Value}{i:Nat}{v:Value},Vals (bs.map V.bl) us->us[i]?=some v->∃b,bs[i]?=some b/\v=.bool b
 | [],_,_,_,.nil,h=>by simp at h
 | b::_,_,0,_,.cons r _,h=>by
   simp at h
   subst h;erw[b,1,r]
 | _::_,_,i+1,_,.cons _ t,h=>by
   let%[b,h1|h2]:=tV (i:=i) t (by simpa using h);erw[b,by simpa using h1,h2]
def sB (hc:X.calm=true):gR X (.builtin "all") (rAll X.K):=by
 intro NO s σ H xs us Q I r h;erw[a,bs,1,hq,q]at h;let%[u,1|ru]:=jQ r;cases ru;let%[its,r',p|hz]:=I.list hq;let hl:=r'.length;rw[zF0]at hl;let NT:a<‹s›:=by erw[o,n,e,_]at p;exact zN0 e
 refine call_all_walk (jB0 p.isList ?_);erw[‹s›,_,_,_,_,_,λi=>bs[i]?.getD true,1,Walks.list (A:=X.A.in1) (I.ok.hd hc) ‹s› a (zV0 NT) its.toArray,%[%[_,qB0 _ rfl,1|1]|p.isList.push _],6,6]
 . intro i v s' Q' E' hP hQ;let%[b,hb|1]:=tV r' (i:=i) (v:=v) (by simpa using hP);let hQ':Q' b s':=by simpa [hb]using hQ
   exact zV1 hQ'
 . intro h' tk hk;let e:(List.range its.toArray.size).all (λi=>bs[i]?.getD true)=bs.all id:=by
    rw[zS0,←hl];rw[jT1,wB1,wB1]
    constructor
    . intro h b hb;let%[i,hi|e]:=jQ0 hb
      have:=h i (List.mem_range.mpr hi)
      rw[zM0 hi]at this
      simpa [e]using this
    . intro h i hi;let hi':=List.mem_range.mp hi;rw[zM0 hi'];exact h _ (qP0 hi')
   rw[e];erw[.bl _,H,6,1,q];let I1:Inv X NO σ H { s with heap:=s.heap.push { cls:=.type "list_iterator",data:=.fields #[.ref a,.int 0 0] } }:=I.kept (t':=s.toks) λb o e=>zQ0 _ e
   refine I1.turnedL (t':=tk) (ch:=[‹s›]) (λb o hb e=>hk b o (by simpa using hb) e) λb hb=>?_
   rw[NW hb];exact I.fpOk (zG0 _) (I.hok.fresh (zG0 _))
end
def Gx {X:Cx}    {p pos:Pos} (C:Cal X.prog X.w X.K X.mg X.base n x [] sp) (hr:Room k X.A) (hk:n<=k) (hg:Gl X x) (hdb:(x==("__debug__":Str))=false:=by decide) :
 PE X (.Call (.Name x p) [] [] pos) (zv sp [] E0 CD):=by
 erw[f,fd,F,b,kp,m]at C.ex;exact DL F (hr.mono hk) hg m kp b .nil aZ hdb
inductive Consts:List Expr->List Str->Prop
 | nil:Consts [] []
 | cons {x:Str} {j:Nat} {pos:Pos} {es:List Expr} {zs:List Str}:Consts es zs->Consts (.Constant (.str x) j pos::es) (x::zs)
def kW:∀{es:List Expr}{zs:List Str},Consts es zs->PA X es (λ_ H Q=>Q (zs.map V.str) H)
 | _,_,.nil=>aP
 | _,_,.cons h=>λpos NO s σ H Q I q=>af ao (kW h) (by rfl) pos NO s σ H Q I q
def CompScope.one{X:Cx}{x y:Str}{scope:Scope}{k:Nat}{c:Addr}(c1:closureFor scope X.env=pure [(y,c)])(c2:∀y∈scope.names,y.2≠.cell)(c3:scope.kind=.function)(c4:∀y∈scope.names,y.2=.local->scope.names.lookup y.1=some .local)
 (c5:scope.names.lookup x=some .local) (nd:[x,y].Nodup) (hc:X.env.cells.lookup y=some c) (c6:((relabel scope X.env).names.all λp=>!(p.2==.cell||p.2==.free)||(([(y,c)]:List (Str×Addr)).lookup p.1).isSome)=true)
 (hr:(relabel scope X.env).names.lookup y=some .cell) (hk:X.N[k]?=some y) (hs:X.env.scope.names.lookup y=some .cell):CompScope X x [y] [k] scope [(y,c)] where
 clos:=c1
 nocell:=c2
 kind:=c3
 names:=c4
 own:=c5
 nd:=nd
 sub:=λp hp=>by
  rw[NW hp];exact hc
 has:=c6
 outs:=λj z h=>by
  cases j with
  | zero=>
    let e:y=z:=zT0 h;subst e;erw[hr,k,c,1,hk,by simp [List.lookup],hs]
  | succ j=>simp at h
def CompScope.two{X:Cx}{x y z:Str}{scope:Scope}{k l:Nat}{c d:Addr}{cl:List (Str×Addr)}(c1:closureFor scope X.env=pure cl)(c2:∀y∈scope.names,y.2≠.cell)(c3:scope.kind=.function)(c4:∀y∈scope.names,y.2=.local->scope.names.lookup y.1=some .local)
 (c5:scope.names.lookup x=some .local) (nd:[x,y,z].Nodup) (hcl:cl=[(z,d),(y,c)]∨cl=[(y,c),(z,d)]) (hc:X.env.cells.lookup y=some c) (hd:X.env.cells.lookup z=some d) (c6:((relabel scope X.env).names.all λp=>!(p.2==.cell||p.2==.free)||(cl.lookup p.1).isSome)=true)
 (hr:(relabel scope X.env).names.lookup y=some .cell) (hk:X.N[k]?=some y) (hs:X.env.scope.names.lookup y=some .cell)
 (hr2:(relabel scope X.env).names.lookup z=some .cell) (hk2:X.N[l]?=some z) (hs2:X.env.scope.names.lookup z=some .cell):CompScope X x [y,z] [k,l] scope cl where
 clos:=c1
 nocell:=c2
 kind:=c3
 names:=c4
 own:=c5
 nd:=nd
 sub:=λp hp=>by
  rcases hcl with rfl | rfl
  all_goals
   rcases zW0 hp with e | e
   . rw[e];assumption
   . rw[NW e];assumption
 has:=c6
 outs:=λj w h=>by
  let nyz:y≠z:=λe=>by simp [e]at nd
  match j,h with
  | 0,h=>
    let e:y=w:=zT0 h;subst e;erw[hr,k,c,1,hk,6,hs];rcases hcl with rfl | rfl
    . have:(y==z)=false:=by simpa using nyz
      simp [List.lookup,this]
    . simp [List.lookup]
  | 1,h=>
    let e:z=w:=zT0 h;subst e;erw[hr2,l,d,1,hk2,6,hs2];rcases hcl with rfl | rfl
    . simp [List.lookup]
    . have:(z==y)=false:=by simpa using Ne.symm nyz
      simp [List.lookup,this]
  | j+2,h=>simp at h
end L2
namespace Mine
open PySem L2
def oX (x:Str):Prop:=x.length<=20/\(∀c∈x.cps.toList,97<=c/\c<=122)/\x≠"aa"
def kY{x:Str}{l u:Option Int}{c:Nat}(h:c∈(Txt.slice x l u).cps.toList):c∈x.cps.toList:=by
 let e:Txt.slice x l u=StrLaws.sliceText x l u:=rfl;rw[e]at h;unfold StrLaws.sliceText at h
 split at h
 . exact h
 . let%[i,_|hi]:=List.mem_filterMap.mp (show c∈(List.filterMap _ _) by simpa using h)
   have:=Array.mem_of_getElem? hi
   simpa using this
def mem_append{x y:Str}{c:Nat}(h:c∈(x++y).cps.toList):c∈x.cps.toList∨c∈y.cps.toList:=by
 let e:(x++y).cps.toList=x.cps.toList++y.cps.toList:=by simp [jG0]
 rw[e]at h;exact qD0 h
def By {zs:List Str} {c:Nat} (h:c∈(Txt.join "" zs).cps.toList):∃z∈zs,c∈z.cps.toList:=by
 let e:Txt.join "" zs=Str.join "" zs:=by
  cases zs with
  | nil=>rfl
  | cons a r=>exact StrLaws.glued_cons "" r a
 rw[e]at h;rcases(PyProof.Rows.mem_join "" c zs).mp h with h | ⟨_,h⟩
 . exact h
 . let e0:(("":Str)).cps.toList=[]:=by decide
   rw[e0]at h;cases h
inductive Tr where
 | is (x:Str) | yes | no | not (a:Tr) | bin (w:Str) (a b:Tr)
def Tr.size:Tr->Nat
 | .is _=>1 | .yes=>1 | .no=>1 | .not a=>a.size+1 | .bin _ a b=>a.size+b.size+1
def Tr.depth:Tr->Nat
 | .is _=>1 | .yes=>1 | .no=>1 | .not a=>a.depth+1 | .bin _ a b=>max a.depth b.depth+1
def Tr.names:Tr->List Str
 | .is x=>[x] | .yes=>[] | .no=>[] | .not a=>a.names | .bin _ a b=>a.names++b.names
def joinW:List Str:=["and","or","odd","same"]
def Tr.ok(ns:List Str):Tr->Prop
 | .is x=>x∈ns | .yes=>True | .no=>True | .not a=>a.ok ns | .bin w a b=>w∈joinW/\a.ok ns/\b.ok ns
inductive TreeAt(H:Hp):V->Tr->Prop
 | is {a:Addr} {x:Str}:H a=some (.tup [.str "is",.str x])->TreeAt H (.ref a) (.is x)
 | yes {a:Addr}:H a=some (.tup [.str "yes"])->TreeAt H (.ref a) .yes
 | no {a:Addr}:H a=some (.tup [.str "no"])->TreeAt H (.ref a) .no
 | not {a:Addr} {v:V} {t:Tr}:H a=some (.tup [.str "not",v])->TreeAt H v t->TreeAt H (.ref a) (.not t)
 | bin {a:Addr} {w:Str} {v u:V} {t r:Tr}:H a=some (.tup [.str w,v,u])->TreeAt H v t->TreeAt H u r->TreeAt H (.ref a) (.bin w t r)
abbrev bL(H H':Hp):Prop:=∀a xs,H a=some (.tup xs)->H' a=some (.tup xs)
def TreeAt.mono(k:bL H H')(h:TreeAt H v t):TreeAt H' v t:=by
 induction h with
 | is e=>exact .is (k _ _ e)
 | yes e=>exact .yes (k _ _ e)
 | no e=>exact .no (k _ _ e)
 | not e _ ih=>exact .not (k _ _ e) ih
 | bin e _ _ i1 i2=>exact .bin (k _ _ e) i1 i2
def aY(s:Same H H'):bL H H':=λa _ h=>s a _ h
def bj(F:FeedAt H f)(s:SameBut f H H'):bL H H':=λa xs h=>s a _ (λz=>by
 erw[o,t,e,_]at F;rw[z,e]at h;cases h) h
def NamesAt(H:Hp)(a:Addr)(ns:List Str):Prop:=H a=some (.lst (ns.map V.str))∨H a=some (.tup (ns.map V.str))
def NamesAt.ne(F:FeedAt H f)(h:NamesAt H a ns):a≠f:=λz=>by
 erw[o,t,e,_]at F;subst z;rcases h with h | h
 . rw [e]at h;let h':=HO.lst.inj (zT0 h);cases ns with
   | nil=>cases h'
   | cons x r=>simp at h'
 . rw[e]at h;cases h
def NamesAt.feed(F:FeedAt H f)(s:SameBut f H H')(h:NamesAt H a ns):NamesAt H' a ns:=by
 let ne:=h.ne F;rcases h with h | h
 . exact .inl (s _ _ ne h)
 . exact .inr (s _ _ ne h)
def NamesAt.same(s:Same H H')(h:NamesAt H a ns):NamesAt H' a ns:=by
 rcases h with h | h
 . exact .inl (s _ _ h)
 . exact .inr (s _ _ h)
def NamesAt.seq{K:W.Frag}(h:NamesAt H a ns):SqL K H a (ns.map V.str)∨SqT K H a (ns.map V.str):=by
 rcases h with h | h
 . exact .inl (zH0 h)
 . exact .inr (zD0 h)
def NamesAt.ix{K:W.Frag}{x:V}{Q:VK}(h:NamesAt H a ns)(hx:atI (ns.map V.str) i=some x)(q:Q x H):rIxL K (.ref a) (.int i) H Q∨rIxT K (.ref a) (.int i) H Q:=by
 rcases h with h | h
 . exact .inl %[a,_,i,x,1,1,zH0 h,hx|q]
 . exact .inr %[a,_,i,x,1,1,zD0 h,hx|q]
instance spTree(n:Nat):∀(f a:Addr)(room deep:Int)(ns:List Str),vs=[.ref f,.ref a,.int room,.int deep]->FeedAt H f->NamesAt H a ns->ns.length<=6->1<=room->room<=100->1<=deep->deep+1<=(n:Int)+1->(∀(v:V)(t:Tr)(H':Hp),FeedAt H' f->SameBut f H H'->TreeAt H' v t->t.ok ns->(t.size:Int)<=room->(t.depth:Int)<=deep->Q v H'):=1
def oi{α:Type}{l:List α}{i:Int}(h0:0<=i)(h:i<(l.length:Int)):∃v,atI l i=some v/\v∈l:=by
 let hk:i.toNat<l.length:=by omega
 let q:atI l ((i.toNat:Nat):Int)=some l[i.toNat]:=cx (zM0 hk);let ek:((i.toNat:Nat):Int)=i:=by omega
 rw[ek]at q;erw[_,q,qP0 hk]
end Mine
namespace L2
open PySem PySem.Spec PyProof.Rows
section
variable {X:Cx}
def uQ(lo:Int)(n:Nat):List Int:=(List.range n).map λi:Nat=>lo+(i:Int)
def Dt(lo:Int)(n:Nat):(uQ lo n).length=n:=by unfold uQ;rw[zF0,qR0]
def AZ{lo:Int}{n:Nat}{acc:List Value}(h:ItemsOf (λi v=>∃t,v=Value.int (lo+(i:Int)*1) t) acc.toArray n):Vals ((uQ lo n).map V.int) acc:=by
 erw[h1,h2]at h;let l1:acc.length=n:=by simpa using h1
 let key:∀(k:Nat)(l:List Value),(∀i v,l[i]?=some v->∃t,v=Value.int (lo+((k+i:Nat):Int)) t)->Vals (((List.range' k l.length).map λi:Nat=>lo+(i:Int)).map V.int) l:=by
  intro k l
  induction l generalizing k with
  | nil=>intro _;exact .nil
  | cons a r ih=>
    intro h;let%[t|e]:=h 0 a rfl;rw[zP0,List.range'_succ,zX0,zX0];refine .cons %[t|by simpa using e] (ih (k+1) λi v hv=>?_);let%[t|e]:=h (i+1) v (by simpa using hv);erw[t,by rw[e];congr 2;omega]
 have:=key 0 acc λi v hv=>by
  let%[t|e]:=h2 i v (by simpa using hv);erw[t,by simpa using e]
 unfold uQ;rw[←l1,List.range_eq_range'];exact this
instance ZtListRng(Q:VK)(vs:(List V))(H1:Hp):∀i j:Int,vs=[.int i,.int j]->-(2 ^ 62)<=i/\i<2 ^ 62/\-(2 ^ 62)<=j/\j<2 ^ 62->j-i<=1000->(∀p,H1 p=none->Q (.ref p) (upd H1 p (.lst ((uQ i (j-i).toNat).map V.int)))):=0
def CF(ta:TA):TE:=λσ H Q=>ta σ H λvs H1=>ZtListRng Q vs H1
def yg {a b:Expr}  {p1 p2 pos1 pos2:Pos} (hc:X.calm=true) (hg1:Gl X "list") (hm1:X.mg "list"=none) (hg2:Gl X "range") (hm2:X.mg "range"=none) (ha:PA X [a,b] ta)
 (hs1:starEach [(.Call (.Name "range" p2) [a,b] [] pos2:Expr)] X.env=[(false,eval (.Call (.Name "range" p2) [a,b] [] pos2) X.env)]:=by rfl) (hs:starEach [a,b] X.env=[(false,eval a X.env),(false,eval b X.env)]:=by rfl) (hs2:starEach [b] X.env=[(false,eval b X.env)]:=by rfl) :
 PE X (.Call (.Name "list" p1) [.Call (.Name "range" p2) [a,b] [] pos2] [] pos1) (CF ta):=by
 intro NO s σ H Q I h;refine qQ1 (ir I hg1 hm1 lU ?_);refine zN1 ?_ hs1 rfl;rw[hs1];show wpAny _ _ (spliced ((false,eval (.Call (.Name "range" p2) [a,b] [] pos2) X.env)::backTo pos1 (starEach [] X.env))) _ _ s;let step:wpAny (model X.prog X.w) X.A (eval (.Call (.Name "range" p2) [a,b] [] pos2) X.env) (λv s1=>∃(r:Addr) (i j:Int) (t u k:Tok) (H1:Hp),v=.ref r/\Inv X NO σ H1 s1/\IsRange s1.heap r i j 1 t u k/\(-(2 ^ 62)<=i/\i<2 ^ 62/\-(2 ^ 62)<=j/\j<2 ^ 62)/\j-i<=1000/\
  ∀p,H1 p=none->Q (.ref p) (upd H1 p (.lst ((uQ i (j-i).toNat).map V.int)))) X.xe s:=by
  refine Call_ (ir I hg2 hm2 boot_range (zN1 (thn (ha pos2 NO s σ H _ I h) λus s1 ⟨vs,H1,I1,r1,q1⟩=>?_) (by rw[hs,hs2]) (by rw[hs2];rfl)));erw[i,j,e,q1,q2,q]at q1;subst e;cases r1 with
  | cons r rr=>
    cases rr with
    | cons r' rr=>
      cases rr;erw[t,1]at r;erw[t',1]at r';refine call_range_2 %[_,i,j,_,_,_,H1,1,I1.kept λb o e=>zQ0 _ e,IsRange.new ..,q1,q2|q]
 refine qP1 (thn step λv s1 hv=>?_);erw[r,i,j,t,u,k,H1,1,I1,hr,%[a1,a2,a3|a4],hle,q]at hv;refine jB1 ?_;let e2:Builtin.Range.rangeSize i j 1=(((j-i).toNat:Nat):Int):=by rw[rangeSize_one];split <;> omega
 refine call_list_range (I1.ok.hd hc) hr (small_one a1 a2 a3 a4) e2 #[0] λh' tk acc' c' hk hS hacc=>?_
 obtain⟨acc,rfl⟩:∃acc:List Value,acc'=acc.toArray:=%[acc'.toList|by simp]
 let rr:=AZ hacc;let I2:Inv X NO σ (upd H1 ‹s1› (.lst ((uQ i (j-i).toNat).map V.int))) { s1 with heap:=h',toks:=tk }:=by
  refine I1.turnedNew (ch:=[]) (λb ob _ eb=>hk b ob eb) (λb hb=>absurd hb #[2]) (zG0 _) %[6,acc,c',rr|hS];rw[zF0,Dt];exact cq #[0]
 erw[.ref ‹s1›,_,I2,1,q _ (I1.hok.fresh (zG0 _))]
instance rSum(K:W.Frag)(xs:List V)(H:Hp)(Q:VK):∀(a:Addr)(ns:List Int),xs=[.ref a]->SqL K H a (ns.map V.int)->(∀n∈ns,0<=n)->ns.sum<2 ^ 63->Q (.int ns.sum) H:=0
def rY:∀{bs:List Int}{us:List Value}{i:Nat}{v:Value},Vals (bs.map V.int) us->us[i]?=some v->∃b t,bs[i]?=some b/\v=.int b t
 | [],_,_,_,.nil,h=>by simp at h
 | b::_,_,0,_,.cons r _,h=>by
   simp at h
   subst h;erw[t,e]at r;erw[b,t,1,e]
 | _::_,_,i+1,_,.cons _ t,h=>by
   let%[b,t,h1|h2]:=rY (i:=i) t (by simpa using h);erw[b,t,by simpa using h1,h2]
def oY{ns:List Int}(h:∀n∈ns,0<=n)(j:Nat):0<=(ns.take j).sum/\(ns.take j).sum<=ns.sum:=by
 induction ns generalizing j with
 | nil=>simp
 | cons a r ih=>
   cases j with
   | zero=>
     have:=ih (λn hn=>h n (qH0 _ hn)) r.length
     rw[qF0]at this;let a0:=h a qA0;simp only[List.take_zero,List.sum_nil,zT1];omega
   | succ j=>
     have:=ih (λn hn=>h n (qH0 _ hn)) j
     let a0:=h a qA0;simp only[List.take_succ_cons,zT1];omega
def pz(ns:List Int)(j:Nat):preSum (λi=>ns[i]?.getD 0) j=(ns.take j).sum:=by
 induction j with
 | zero=>simp;rfl
 | succ j ih=>
   show preSum (λi=>ns[i]?.getD 0) j+(λi=>ns[i]?.getD 0) j=_;rw[ih,qI0,jJ1];cases e:ns[j]? with
   | none=>simp [e]
   | some x=>simp [e]
def sA (hc:X.calm=true):gR X (.builtin "sum") (rSum X.K):=by
 intro NO s σ H xs us Q I r h;erw[a,ns,1,hq,n0,nb,q]at h;let%[u,1|ru]:=jQ r;cases ru;let%[its,r',p|hz]:=I.list hq;let hl:=r'.length;rw[zF0]at hl;let NT:a<‹s›:=by erw[o,n,e,_]at p;exact zN0 e
 refine call_sum_walk (jB0 p.isList ?_);erw[‹s›,_,_,_,_,_,λi=>ns[i]?.getD 0,1,Walks.list (A:=X.A.in1) (I.ok.hd hc) ‹s› a (zV0 NT) its.toArray,%[%[_,qB0 _ rfl,1|1]|p.isList.push _],6,6,6,6]
 . intro b hb;let hpz:∀o:Obj,(s.heap.push o).objs.size=‹s›+1:=λo=>by simp [Heap.push]
   show b<(s.heap.push _).objs.size;rw[hpz];rcases zW0 hb with e | e
   . rw[e];exact qI1 _
   . rw[NW e];exact wS1 NT
 . intro i v hP;let%[b,t,hb|1]:=rY r' (i:=i) (v:=v) (by simpa using hP);erw[t,by simp [hb]]
 . intro j hj;let hj':j<ns.length:=by rw[hl];simpa using hj
   let s1:=oY n0 (j+1);rw[pz];erw[6,by unfold InLong;omega];let s2:=oY n0 j;let e:(ns.take (j+1)).sum=(ns.take j).sum+ns[j]:=by rw[qI0,jJ1,zM0 hj'];simp
   let n1:=n0 _ (qP0 hj');show InLong (ns[j]?.getD 0);rw[zM0 hj'];show InLong ns[j];unfold InLong;omega
 . intro h' tk t' hk;rw[pz,zS0,←hl,qF0];erw[.int _,H,6,%[|0],q];let I1:Inv X NO σ H { s with heap:=s.heap.push { cls:=.type "list_iterator",data:=.fields #[.ref a,.int 0 0] } }:=I.kept (t':=s.toks) λb o e=>zQ0 _ e
   refine I1.turnedL (t':=tk) (ch:=[‹s›]) (λb o hb e=>hk b o (by simpa using hb) e) λb hb=>?_
   rw[NW hb];exact I.fpOk (zG0 _) (I.hok.fresh (zG0 _))
end
def zG:Slot "reversed" "__iter__" "reversed.__iter__":=Slot.of (owner:="reversed") (n:="__iter__") (by rw[wI1,jK0];kernel_rfl) ⋯ ⋯ ⋯ (by first | exact .inl ⋯ | exact .inr ⋯) (by rw[wQ1];kernel_rfl) ⋯
def rv_next:Slot "reversed" "__next__" "reversed.__next__":=Slot.of (owner:="reversed") (n:="__next__") (by rw[wI1,jK0];kernel_rfl) ⋯ ⋯ ⋯ (by first | exact .inl ⋯ | exact .inr ⋯) (by rw[wQ1];kernel_rfl) ⋯
def CB:typeLookup (.type "tuple") "__reversed__"=pure none:=by rw[wI1,jK0];kernel_rfl
def AX:entryFor table "reversed.__iter__"=some Builtin.«dict_keyiterator.__iter__»:=entryFor_alias (by kernel_rfl) rfl (show _="dict_keyiterator.__iter__" by decide) (by kernel_rfl)
def tE:entryFor table "reversed.__next__"=some Builtin.«reversed.__next__»:=entryFor_of_tree (by kernel_rfl)
def RevT (h:Heap) (it t:Addr) (i:Int):Prop:=h.get? it=some { cls:=.type "reversed",data:=.fields #[.ref t,rawInt i] }
section
variable {prog:Program} {w:World} {A:Around} {E:Value->Shared->Prop} {s:Shared} {R:Result->Shared->Prop} {it t:Addr}
def RevT.typeIs  (h:RevT s.heap it t i):s.TypeIs (.ref it) "reversed":=%[_,h|1]
def tO{Q:Value->Shared->Prop}(h:RevT s.heap it t i)(q:Q (.ref it) s):wpAny (model prog w) A (pyIter (.ref it)) Q E s:=
 wpAny_pyIter_slot h.typeIs zG (qF1 zG h.typeIs AX (zI0 %[0,"reversed",_,h.typeIs,rv_next.lookup|q]) (by rfl))
def rP{i:Nat}{items:Array Value}{x:Value}{Q:Option Value->Shared->Prop}(h:RevT s.heap it t (i:Int))(ht:IsTup s.heap t items)(hx:items[i]?=some x)(hi:(i:Int)<2 ^ 63)
 (q:∀h' tk,RevT h' it t ((i:Int)-1)->Heap.SameBut it s.heap h'->Q (some x) { s with heap:=h',toks:=tk }):wpAny (model prog w) A (pyNext (.ref it)) Q E s:=by
 let hT:=h.typeIs;let hs:i<items.size:=(Array.getElem?_eq_some_iff.mp hx).1;unfold pyNext;refine zE0 (jU1 (zQ1 hT rv_next (qF1 rv_next hT tE ?_ (by rfl))));unfold Builtin.«reversed.__next__»;refine zE0 (jE1 (show slotArgs "__next__" 0 %[[.ref it]|[]]=pure (.ref it,[])from rfl) ?_);refine zE0 (zR1 h rfl rfl ?_);refine zE0 (zR1 h rfl rfl ?_);refine zS1 (λhab=>absurd hab #[0]) (λ_=>?_);refine zE0 (wpAny_specialOf (show s.TypeIs (.ref t) "tuple" from ht.typeIs) PyProof.Rows.slot_tuple_getitem.lookup ?_);refine zS1 (λhab=>absurd hab #[2]) (λ_=>?_);refine zE0 (wpAny_mkInt ?_);let e1:seqIndex? (i:Int) items.size=some i:=(vt (by unfold ixN;rw[NQ #[0],NQ #[0]];simp)).1;refine zE0 (jU1 (PyProof.Rows.getItem_tuple (items:=items) (x:=x) ht #[0] hi e1 hx ?_));refine zE0 (zR1 h rfl rfl ?_);refine zE0 (qC1 h #[2] λh' e hb=>?_);refine zI0 %[0|zI0 (q h' _ ?_ hb)];exact e
def y0S:0<=sizeLine:=⋯
def y1S:1<=sizeLine:=⋯
def y2S:2<=sizeLine:=⋯
def y3S:3<=sizeLine:=⋯
def y4S:4<=sizeLine:=⋯
def y5S:5<=sizeLine:=⋯
def y6S:6<=sizeLine:=⋯
def y12S:12<=sizeLine:=⋯
def y18S:18<=sizeLine:=⋯
def y24S:24<=sizeLine:=⋯
def sS{Q:Option Value->Shared->Prop}(hh:A.handled=none)(h:RevT s.heap it t (-1))
 (q:∀h' tk,Heap.ExtBut it s.heap h'->Q none { s with heap:=h',toks:=tk }):wpAny (model prog w) A (pyNext (.ref it)) Q E s:=by
 let hT:=h.typeIs;unfold pyNext;refine zE0 (jU1 (zQ1 hT rv_next (qF1 rv_next hT tE ?_ (by rfl))));unfold Builtin.«reversed.__next__»;refine zE0 (jE1 (show slotArgs "__next__" 0 %[[.ref it]|[]]=pure (.ref it,[])from rfl) ?_);refine zE0 (zR1 h rfl rfl ?_);refine zE0 (zR1 h rfl rfl ?_);refine zS1 (λ_=>?_) (λhab=>absurd ⋯ hab);refine zE0 (wT0 ?_);refine zE0 ?_;show wpAny _ _ (setField (.ref it) 1 (rawInt (-1)) >>= λ_=>setField (.ref it) 0 Value.none) _ _ _;refine zE0 (qC1 h #[2] λh1 e1 b1=>?_);refine qC1 e1 #[2] λh2 e2 b2=>?_
 refine zE0 ?_;unfold Builtin.SmallTypes.stopIteration newExc newTuple;refine zE0 (zE0 (zP1 ?_ y0S));refine zE0 (jE1 (show firstArgMember (.type "StopIteration") []=pure .none by rfl') ?_);refine zP1 ?_ (sizeOk_excFields ..);refine wpAny_raiseNew_none hh ?_;refine zE0 (wC0 (T:="StopIteration") %[_,qB0 _ rfl|1] isSubtype_stop ?_);refine zS1 (λ_=>?_) (λhab=>absurd rfl hab);refine zI0 (q _ _ ?_);exact(b1.extBut.trans b2.extBut).trans λb o hb e=>zQ0 _ (zQ0 _ e)
def Gk:Slot "reversed" "__init__" "object.__init__":=Slot.of (owner:="object") (n:="__init__") (by rw[wI1,jK0];kernel_rfl) ⋯ ⋯ ⋯ (by first | exact .inl ⋯ | exact .inr ⋯) (by rw[wQ1];kernel_rfl) ⋯
def AY:TypeCalled "reversed" "reversed.__new__" "object.__init__":=%[4,F.create_reversed,%[_,_|F.mro_reversed],F.made_reversed,F.plain_reversed_new,F.sub_reversed_self|Gk]
def AE:isSubtype (.type "tuple") (.type "dict")=pure false:=by rw[wQ1];kernel_rfl
def og{items:Array Value}{Q:Value->Shared->Prop}(ht:IsTup s.heap t items)(hz:items.size<=sizeLine)
 (q:∀tk,Q (.ref ‹s›) { s with heap:=s.heap.push { cls:=.type "reversed",data:=.fields #[.ref t,rawInt ((items.size:Int)-1)] },toks:=tk }):wpAny (model prog w) A (call (.type "reversed") [.ref t]) Q E s:=by
 let h63:=jG;refine callType_newIn AY ⋯ (F.typeCall_reversed_1 _) (F.newCall_reversed_1 _) (λ_=>by rfl) F.entry_reversed_new
  (S:=λA R s=>wpAny (model prog w) A.in1 (Builtin.«reversed.__new__» %[[.type "reversed",.ref t]|[]]) (λfin s'=>match fin with | .done f=>R (.ok f) s' | .again c'=>c'.quiet=true/\codeAny (model prog w) A c' R s') (λe s'=>R (.error e) s') s) (λA R s h=>h) ?_
 unfold Builtin.«reversed.__new__»;refine zE0 (jE1 (newClass_reversed _) ?_);refine zE0 (jE1 (a:=()) rfl ?_);refine zE0 (jE1 (a:=()) rfl ?_);refine zE0 (wpAny_specialOf ht.typeIs CB ?_);refine zE0 ?_;refine zE0 (wC0 ht.typeIs AE ?_);refine zS1 (λhab=>absurd hab ⋯) (λ_=>?_);refine zE0 (wpAny_specialOf ht.typeIs PyProof.Rows.slot_tuple_getitem.lookup ?_);refine zS1 (λ_=>?_) (λhab=>absurd ⋯ hab);refine zI0 ?_;refine zS1 (λhab=>absurd hab ⋯) (λ_=>?_);refine zE0 (len_tuple ht #[0] ?_);refine zE0 (zI0 ?_);refine zE0 (zP1 (data:=.fields #[.ref t,rawInt ((items.size:Int)-1)]) ?_ (by show 2<=sizeLine+2;decide));refine zI0 ?_;erw[%[_,qB0 _ rfl|1],q _]
end
end L2
namespace Mine
open PySem L2
def Tr.wf:Tr->Prop
 | .is x=>oX x | .yes=>True | .no=>True | .not a=>a.wf | .bin w a b=>w∈joinW/\a.wf/\b.wf
def Tr.parts:Tr->List Tr
 | .is _=>[] | .yes=>[] | .no=>[] | .not a=>[a] | .bin _ a b=>[a,b]
def Tr.ok_wf{ns:List Str}(hn:∀x∈ns,oX x):∀t:Tr,t.ok ns->t.wf
 | .is _,h=>hn _ h
 | .yes,_=>trivial
 | .no,_=>trivial
 | .not a,h=>Tr.ok_wf hn a h
 | .bin _ a b,⟨h,h1,h2⟩=>%[h,Tr.ok_wf hn a h1|Tr.ok_wf hn b h2]
def Tr.depth_pos:∀t:Tr,1<=t.depth
 | .is _=>zG0 _ | .yes=>zG0 _ | .no=>zG0 _ | .not a=>jK1 .. | .bin _ a b=>jK1 ..
def iS(ts:List Tr):Nat:=(ts.map Tr.size).sum
def iq(ts:List Tr):List Str:=(ts.map Tr.names).flatten
def Tr.size_parts(t:Tr):t.size=iS t.parts+1:=by
 cases t <;> simp [Tr.size,Tr.parts,iS]
def Tr.names_parts(t:Tr)(h:∀x,t≠.is x):t.names=iq t.parts:=by
 cases t with
 | is x=>exact absurd rfl (h x)
 | _=>simp [Tr.names,Tr.parts,iq]
def Tr.parts_mem{t u:Tr}(h:u∈t.parts)(w:t.wf):u.wf/\u.depth+1<=t.depth/\u.size+1<=t.size:=by
 cases t with
 | is x=>simp [Tr.parts]at h
 | yes=>simp [Tr.parts]at h
 | no=>simp [Tr.parts]at h
 | not a=>
   rw[NW h];erw[w,zG0 _,zG0 _]
 | bin o a b=>
   erw[_,w1,w2]at w;rcases zW0 h with e | e
   . rw [e];erw[w1,6,6]
     . show a.depth+1<=max a.depth b.depth+1;omega
     . show a.size+1<=a.size+b.size+1;omega
   . rw [NW e];erw[w2,6,6]
     . show b.depth+1<=max a.depth b.depth+1;omega
     . show b.size+1<=a.size+b.size+1;omega
inductive TreesAt(H:Hp):List V->List Tr->Prop
 | nil:TreesAt H [] []
 | cons {v:V} {t:Tr} {vs:List V} {ts:List Tr}:TreeAt H v t->TreesAt H vs ts->TreesAt H (v::vs) (t::ts)
def TreesAt.mono(k:bL H H')(h:TreesAt H vs ts):TreesAt H' vs ts:=by
 induction h with
 | nil=>exact .nil
 | cons a _ ih=>exact .cons (a.mono k) ih
def TreesAt.append(h:TreesAt H vs ts)(g:TreesAt H us rs):TreesAt H (vs++us) (ts++rs):=by
 induction h with
 | nil=>exact g
 | cons a _ ih=>exact .cons a ih
def TreesAt.length(h:TreesAt H vs ts):vs.length=ts.length:=by
 induction h with
 | nil=>rfl
 | cons _ _ ih=>rw[zP0,zP0,ih]
def TreesAt.get(h:TreesAt H vs ts):∀{i:Nat}{v:V},vs[i]?=some v->∃t,ts[i]?=some t/\TreeAt H v t:=by
 induction h with
 | nil=>intro i v e;simp at e
 | cons a _ ih=>
   intro i v e;cases i with
   | zero=>cases(zT0 e);erw[0,a]
   | succ i=>exact ih (i:=i) (by simpa using e)
def yN {w:Str} (h:w∈joinW):w≠"is":=(by decide:∀w∈joinW,w≠("is":Str)) w h
def TreeAt.view    (h:TreeAt H v t) (w:t.wf):(∃(a:Addr) (x:Str),v=.ref a/\t=.is x/\oX x/\H a=some (.tup [.str "is",.str x]))∨
 ∃(a:Addr) (o:Str) (xs:List V),v=.ref a/\o≠"is"/\xs.length<=2/\H a=some (.tup (.str o::xs))/\TreesAt H xs t.parts/\(∀x,t≠.is x):=by
 cases h with
 | is e=>exact .inl %[2,w|e]
 | yes e=>exact .inr %[_,_,[],1,4,by simp,e,.nil|λx z=>by cases z]
 | no e=>exact .inr %[_,_,[],1,4,by simp,e,.nil|λx z=>by cases z]
 | not e g=>exact .inr %[_,_,[_],1,4,by simp,e,.cons g .nil|λx z=>by cases z]
 | bin e g g2=>exact .inr %[_,_,[_,_],1,yN w.1,by simp,e,.cons g (.cons g2 .nil)|λx z=>by cases z]
def JI(o:V):∀xs:List V,xs.length<=2->iP (o::xs) (some 1) none=xs/\¬ (HT.sIx (o::xs).length 0 (some 1)=0/\HT.sIx (o::xs).length (o::xs).length none=(o::xs).length)
 | [],_=>%[1|λh=>absurd h.1 (show ¬ HT.sIx 1 0 (some 1)=0 by decide)]
 | [_],_=>%[1|λh=>absurd h.1 (show ¬ HT.sIx 2 0 (some 1)=0 by decide)]
 | [_,_],_=>%[1|λh=>absurd h.1 (show ¬ HT.sIx 3 0 (some 1)=0 by decide)]
 | _::_::_::_,h=>absurd h #[2]
def Tr.data:Tr->PyData
 | .is x=>.tuple [.str "is",.str x] | .yes=>.tuple [.str "yes"] | .no=>.tuple [.str "no"] | .not a=>.tuple [.str "not",a.data] | .bin w a b=>.tuple [.str w,a.data,b.data]
def Dw{K:W.Frag}(h:TreeAt H v t):Rep K H v t.data:=by
 induction h with
 | is e=>exact .tup (zD0 e) (.cons (.str _) (.cons (.str _) .nil))
 | yes e=>exact .tup (zD0 e) (.cons (.str _) .nil)
 | no e=>exact .tup (zD0 e) (.cons (.str _) .nil)
 | not e _ ih=>exact .tup (zD0 e) (.cons (.str _) (.cons ih .nil))
 | bin e _ _ i1 i2=>exact .tup (zD0 e) (.cons (.str _) (.cons i1 (.cons i2 .nil)))
def CN(h:oX x):PyData.strOk x=true:=by
 unfold PyData.strOk;rw[←Array.all_toList,wB1];intro c hc
 have:=h.2.1 c hc
 exact zD1 #[0]
def qk:∀t:Tr,t.wf->PyData.canLay0 t.data=true/\PyData.depth t.data<=t.depth+1
 | .is x,h=>by
   have:=CN h
   simp [Tr.data,PyData.canLay0,PyData.canLayAll0,PyData.depth,PyData.depthAll,Tr.depth,this]
   decide
 | .yes,_=>by
   simp [Tr.data,PyData.canLay0,PyData.canLayAll0,PyData.depth,PyData.depthAll,Tr.depth]
   decide
 | .no,_=>by
   simp [Tr.data,PyData.canLay0,PyData.canLayAll0,PyData.depth,PyData.depthAll,Tr.depth]
   decide
 | .not a,h=>by
   let ih:=qk a h;let w0:PyData.strOk "not"=true:=by decide
   simp [Tr.data,PyData.canLay0,PyData.canLayAll0,PyData.depth,PyData.depthAll,Tr.depth,ih.1,w0]
   omega
 | .bin w a b,⟨hw,h1,h2⟩=>by
   let i1:=qk a h1;let i2:=qk b h2;let w0:PyData.strOk w=true:=(by decide:∀w∈joinW,PyData.strOk w=true) w hw
   simp [Tr.data,PyData.canLay0,PyData.canLayAll0,PyData.depth,PyData.depthAll,Tr.depth,i1.1,i2.1,w0]
   omega
def Tr.names_len:∀t:Tr,t.names.length<=t.size
 | .is _=>zG0 _
 | .yes=>zU0 _
 | .no=>zU0 _
 | .not a=>Nat.le_succ_of_le (Tr.names_len a)
 | .bin _ a b=>by
   have:=Tr.names_len a
   have:=Tr.names_len b
   show(a.names++b.names).length<=a.size+b.size+1;rw[zK0];omega
end Mine
namespace L2
open PySem PySem.Spec PyProof.Rows
section
variable {prog:Program} {w:World} {A:Around} {E:Value->Shared->Prop} {s:Shared}
def Jo(xs:Array Value)(x:Value):Nat->Option PySem.Fin×Unit->Sem (ForInStep (Option PySem.Fin×Unit)):=λi _=>match xs[i]? with
 | some y=>do
   let b ←eqBool y x
   if b=true then do
    let r ←retInt (i:Int)
    pure (ForInStep.done (some r,()))
    else pure (ForInStep.yield (none,()))
 | _=>pure (ForInStep.yield (none,()))
def wN{xs:Array Value}{x:Value}{e:Value->Bool}(he:∀y∈xs,SeqAt.EqAt A s y x (e y)){j:Nat}(hj:j<xs.size)(ej:e xs[j]=true)(bf:∀(m:Nat) (hm:m<xs.size),m<j->e xs[m]=false){Q:Option PySem.Fin×Unit->Shared->Prop}
 (q:Q (some (.done (.ret (.int (j:Int) s.toks))),()) { s with toks:=s.toks+1 }):∀(n k:Nat),k<=j->j<k+n->k+n<=xs.size->wpAny (model prog w) A (forIn (List.range' k n 1) ((none:Option PySem.Fin),()) (Jo xs x)) Q E s
 | 0,k,h1,h2,_=>absurd h2 #[0]
 | n+1,k,h1,h2,h3=>by
   let hk:k<xs.size:=by omega
   rw [List.range'_succ,List.forIn_cons];refine zE0 ?_;let e1:Jo xs x k ((none:Option PySem.Fin),())=(do
    let b ←eqBool xs[k] x
    if b=true then do
     let r ←retInt (k:Int)
     pure (ForInStep.done (some r,()))
     else pure (ForInStep.yield (none,()))):=by
    unfold Jo;rw[Array.getElem?_eq_getElem hk]
   rw[e1];refine zE0 (he _ (Array.getElem_mem hk) prog w _ _ ?_)
   by_cases c:k=j
   . subst c;rw[ej];refine zS1 (λ_=>?_) (λhab=>absurd rfl hab);refine zE0 ?_;refine zE0 (wpAny_mkInt ?_);refine zI0 ?_;refine zI0 ?_;exact zI0 q
   . rw[bf k hk #[0]];refine zS1 (λhab=>absurd hab ⋯) (λ_=>?_);refine zI0 ?_;exact wN he hj ej bf q n (k+1) #[0] #[0] #[0]
def rS(l:Addr)(items:Array Value)(n:Nat)(dd:Option Addr)(sl:Array (Option Value))(x:Value)(e:Value->Bool)(j:Nat)(hj:j<items.size)(ej:e items[j]=true)(bf:∀(m:Nat) (hm:m<items.size),m<j->e items[m]=false) :
 Meets (Builtin.«tuple.index» { pos:=[.ref l,x] }) λA R s=>s.heap.get? l=some { cls:=.type "tuple",dict:=dd,data:=.seq items n,slots:=sl }/\(∀y∈items,SeqAt.EqAt A.in1 s y x (e y))/\R (.ok (.ret (.int (j:Int) s.toks))) { s with toks:=s.toks+1 }:=by
 intro prog w A R s ⟨hl,he,q⟩;unfold Builtin.«tuple.index»;refine zE0 (jE1 (a:=(Value.ref l,[x])) rfl ?_);refine zE0 (wpAny_tupleItemsOf hl rfl ?_);refine zE0 (zI0 ?_);refine zE0 (zI0 ?_);refine zE0 ?_;rw[Std.Legacy.Range.forIn_eq_forIn_range'];let e1:Std.Legacy.Range.size [0:min items.size items.size]=items.size:=by simp [Std.Legacy.Range.size]
 rw[e1];refine wN he hj ej bf ?_ items.size 0 (zU0 _) #[0] #[0];exact zI0 q
end
section
variable {X:Cx}
def eZ(z:Str):List Str->Option Nat
 | []=>none
 | a::r=>if a=z then some 0 else(eZ z r).map (·+1)
def rj:∀{ns:List Str}{j:Nat},eZ z ns=some j->ns[j]?=some z/\∀m,m<j->∀y,ns[m]?=some y->y≠z
 | [],_,h=>by simp [eZ]at h
 | a::r,j,h=>by
   unfold eZ at h
   by_cases c:a=z
   . rw[NQ c]at h;cases h;erw[by simp [c],λm hm=>absurd hm #[0]]
   . rw [NP c]at h;let%[i,hi|1]:=qT0 h;let%[h1|h2]:=rj hi;erw[by simpa using h1,λm hm y hy=>?_];cases m with
     | zero=>cases(zT0 hy);exact c
     | succ m=>exact h2 m #[0] y (by simpa using hy)
def qw:∀{bs:List Str}{us:List Value}{i:Nat}{v:Value},Vals (bs.map V.str) us->us[i]?=some v->∃b t,bs[i]?=some b/\v=.str b t
 | [],_,_,_,.nil,h=>by simp at h
 | b::_,_,0,_,.cons r _,h=>by
   simp at h
   subst h;erw[t,e]at r;erw[b,t,1,e]
 | _::_,_,i+1,_,.cons _ t,h=>by
   let%[b,t,h1|h2]:=qw (i:=i) t (by simpa using h);erw[b,t,by simpa using h1,h2]
def hR(ns:List Str):(ns.map V.str).all jN=true:=by
 induction ns with
 | nil=>rfl
 | cons a r ih=>rw[zX0,wE1,ih];rfl
def pH{ns:List Str}{j:Nat}(r:Vals (ns.map V.str) its)(h:eZ z ns=some j) :
 ∃hj:j<its.toArray.size,eqU (.str z) its.toArray[j]=true/\∀(m:Nat)(hm:m<its.toArray.size),m<j->eqU (.str z) its.toArray[m]=false:=by
 let%[h1|h2]:=rj h;let hl:=r.length;rw[zF0]at hl;let jl:j<ns.length:=(zY0 h1).1;let hj:j<its.toArray.size:=by rw[zS0,←hl];exact jl
 erw[hj,6,λm hm mj=>?_]
 . let%[b,t,e1|e2]:=qw r (i:=j) (v:=its.toArray[j]) #[2];rw[e2];rw[h1]at e1;cases e1;show(z==z)=true
   simp
 . let%[b,t,e1|e2]:=qw r (i:=m) (v:=its.toArray[m]) #[2];rw[e2];show(b==z)=false
   have:=h2 m mj b e1
   simpa using this
instance rIndexT(K:W.Frag)(x:V)(vs:List V)(H:Hp)(Q:VK):∀(a:Addr)(ns:List Str)(z:Str)(j:Nat),x=.ref a->vs=[.str z]->SqT K H a (ns.map V.str)->eZ z ns=some j->Q (.int (j:Int)) H:=0
def Bu:MtR X "tuple.index" (rIndexT X.K):=by
 intro NO s σ H x vs v us Q I rx rv h;erw[a,ns,z,j,1,1,hq,hp,q]at h;cases rx;erw[u,1,ru]at rv.one;let%[its,r,%[%[cls,dd,data|sl],ho,hc,n|hd]|hz]:=I.tuple hq;simp only at hc hd;subst hc hd;let%[hj,e1|e2]:=pH r hp;refine qW1 F.slot_tuple_index %[_,ho|1] F.entry_tuple_index (F.args_tuple_index_2 _ _) (rS a its.toArray n dd sl u (eqU (.str z)) j hj e1 e2) ⟨ho,λy hy=>?_,?_⟩
 . exact gB ru rfl r (hR ns) y (by simpa using hy)
 . erw[.int (j:Int),H,I.tok _,%[|0],q]
instance rIndexL(K:W.Frag)(x:V)(vs:List V)(H:Hp)(Q:VK):∀(a:Addr)(ns:List Str)(z:Str)(j:Nat),x=.ref a->vs=[.str z]->SqL K H a (ns.map V.str)->eZ z ns=some j->Q (.int (j:Int)) H:=0
def Bv:MtR X "list.index" (rIndexL X.K):=by
 intro NO s σ H x vs v us Q I rx rv h;erw[a,ns,z,j,1,1,hq,hp,q]at h;cases rx;erw[u,1,ru]at rv.one;let%[its,r,%[%[cls,dd,data|sl],n,ho,hc,hdd|hd]|hz]:=I.list hq;simp only at hc hd;subst hc hd;let%[hj,e1|e2]:=pH r hp;let h63:=jG;let hl:=r.length;refine qW1 F.slot_list_index %[_,ho|1] F.entry_list_index (F.args_list_index_2 _ _) (SeqAt.list_indexAt a its.toArray n dd sl u (eqU (.str z)) j hj (by rw[zS0]at hj;omega) e1 e2) ⟨ho,λy hy=>?_,?_⟩
 . exact gB ru rfl r (hR ns) y (by simpa using hy)
 . erw[.int (j:Int),H,I.tok _,%[|0],q]
end
section
variable {κ:Type} [DecidableEq κ]
def hV(NS:List (κ×V))(k:κ):Option V:=(NS.find? λkv=>decide (kv.1=k)).map (·.2)
def mz(NS:List (κ×V))(k:κ)(v:V):List (κ×V):=
 if(NS.any λkv=>decide (kv.1=k))=true then NS.map (λkv=>if kv.1=k then(kv.1,v)else kv)else NS++[(k,v)]
def dO{p:κ×V}{r:List (κ×V)}{k:κ}(e:p.1=k):hV (p::r) k=some p.2:=by simp [hV,jL0,e]
def dP{p:κ×V}{r:List (κ×V)}{k:κ}(e:¬ p.1=k):hV (p::r) k=hV r k:=by simp [hV,jL0,e]
def lY(k:κ):∀NS:List (κ×V),(NS.any λkv=>decide (kv.1=k))=(hV NS k).isSome
 | []=>rfl
 | p::r=>by
   rw[jE0]
   by_cases e:p.1=k
   . simp only[dO e,zD1 e,Bool.true_or,Option.isSome_some]
   . rw[dP e,zB1 e,Bool.false_or];exact lY k r
def vM(k j:κ)(y:V):∀NS:List (κ×V),hV (NS.map λkv=>if kv.1=k then(kv.1,y)else kv) j=(hV NS j).map λx=>if j=k then y else x
 | []=>rfl
 | p::r=>by
   let ih:=vM k j y r;rw[zX0]
   by_cases h:p.1=k
   . rw [NQ h]
     by_cases e:p.1=j
     . rw[dO (p:=(p.1,y)) e,dO e,wJ0,NQ (e.symm.trans h)]
     . rw[dP (p:=(p.1,y)) e,dP e,ih]
   . rw [NP h]
     by_cases e:p.1=j
     . rw[dO (p:=p) e,dO e,wJ0,NP (λz=>h (e.trans z))]
     . rw[dP (p:=p) e,dP e,ih]
def sZ(k j:κ)(y:V):∀NS:List (κ×V),hV NS k=none->hV (NS++[(k,y)]) j=if j=k then some y else hV NS j
 | [],_=>by
   by_cases e:k=j
   . rw[NQ e.symm];exact dO (p:=(k,y)) e
   . rw[NP (λz=>e z.symm)];exact dP (p:=(k,y)) e
 | p::r,hn=>by
   rw[List.cons_append];let hk:¬ p.1=k:=λz=>by rw[dO z]at hn;cases hn
   rw[dP hk]at hn;let ih:=sZ k j y r hn
   by_cases e:p.1=j
   . rw[dO e,dO e,NP (λz=>hk (e.trans z))]
   . rw[dP e,dP e,ih]
def Ct(NS:List (κ×V))(k j:κ)(y:V):hV (mz NS k y) j=if j=k then some y else hV NS j:=by
 unfold mz
 by_cases a:(NS.any λkv=>decide (kv.1=k))=true
 . rw [NQ a,vM];rw[lY]at a
   by_cases e:j=k
   . let%[x|hx]:=Option.isSome_iff_exists.mp a;rw[NQ e,e,hx,wJ0,NQ rfl]
   . rw [NP e];cases hV NS j with
     | none=>rfl
     | some x=>rw[wJ0,NP e]
 . rw [NP a];refine sZ k j y NS ?_;rw[lY]at a;cases q:hV NS k with
   | none=>rfl
   | some x=>rw[q]at a;exact(a rfl).elim
def kD(NS:List (κ×V))(k:κ)(v:V):(mz NS k v).length<=NS.length+1:=by
 unfold mz
 split
 . rw[zF0];omega
 . rw[zK0,zP0,zL1];omega
def RelO.isSome_eq(r:RelO o u):o.isSome=u.isSome:=by
 cases o with
 | none=>cases u with
   | none=>rfl
   | some _=>exact(show False from r).elim
 | some _=>cases u with
   | none=>exact(show False from r).elim
   | some _=>rfl
def RelO.getD(r:RelO o u)(rd:RelV d d'):RelV (o.getD d) (u.getD d'):=by
 cases o with
 | none=>cases u with
   | none=>exact rd
   | some _=>exact(show False from r).elim
 | some _=>cases u with
   | none=>exact(show False from r).elim
   | some _=>exact r
def KV.val{NS:List (κ×V)}{vs:List (κ×Value)}(r:KV NS vs)(k:κ):RelO (hV NS k) (valueAt vs k):=by
 unfold KV at r
 induction r with
 | nil=>exact True.intro
 | @cons p q ps qs h t ih=>
   erw[h1,h2]at h
   by_cases e:p.1=k
   . let e':q.1=k:=h1.symm.trans e;let b:valueAt (q::qs) k=some q.2:=by simp [valueAt,jL0,e']
     rw[dO e,b];exact h2
   . let e':¬ q.1=k:=λz=>e (h1.trans z)
     let b:valueAt (q::qs) k=valueAt qs k:=by simp [valueAt,jL0,e']
     rw[dP e,b];exact ih
def KV.any{NS:List (κ×V)}{vs:List (κ×Value)}(r:KV NS vs)(k:κ):(NS.any λkv=>decide (kv.1=k))=vs.any λkv=>decide (kv.1=k):=by
 unfold KV at r
 induction r with
 | nil=>rfl
 | cons h t ih=>rw[jE0,jE0,ih,h.1]
def KV.repl{NS:List (κ×V)}{vs:List (κ×Value)}(r:KV NS vs)(k:κ)(ry:RelV y u) :
 KV (NS.map λkv=>if kv.1=k then(kv.1,y)else kv) (vs.map λkv=>if kv.1=k then(kv.1,u)else kv):=by
 unfold KV at r ⊢
 induction r with
 | nil=>exact .nil
 | @cons p q ps qs h t ih=>
   rw[zX0,zX0];refine .cons ?_ ih;erw[h1,h2]at h
   by_cases e:p.1=k
   . rw[NQ e,NQ (h1.symm.trans e)];erw[h1,ry]
   . rw[NP e,NP (λz=>e (h1.trans z))];erw[h1,h2]
def KV.put{NS:List (κ×V)}{vs:List (κ×Value)}(r:KV NS vs)(k:κ)(ry:RelV y u):KV (mz NS k y) (stored vs k u):=by
 unfold mz stored;rw[r.any k]
 by_cases e:(vs.any λkv=>decide (kv.1=k))=true
 . rw[NQ e,NQ e];exact r.repl k ry
 . rw[NP e,NP e];exact Paired.snoc r %[1|ry]
def KV.length{NS:List (κ×V)}{vs:List (κ×Value)}(r:KV NS vs):NS.length=vs.length:=Paired.length r
end
def EH(r:RelV (kV k) u):(dG P w).is k u=true:=by
 cases k with
 | inl i=>let%[t|e]:=(show ∃t,u=Value.int i t from r);subst e;exact wG P w i t
 | inr x=>let%[t|e]:=(show ∃t,u=Value.str x t from r);subst e;exact wF P w x t
def tP:∀{ks:List Key}{us:List Value},Vals (ks.map kV) us->ItemsAre (dG P w) ks us
 | [],_,r=>by rw[vC1]at r;cases r;exact .nil
 | k::ks,_,r=>by
   rw[zX0]at r;cases r with
   | cons h t=>exact .cons (EH h) (tP t)
abbrev KT(H:Hp):List (List Key×V)->List (List Key×Addr×Value)->Prop:=Paired λp q=>p.1=q.1/\H q.2.1=some (.tup (p.1.map kV))/\RelV p.2 q.2.2
def KT.val{NS:List (List Key×V)}{xs:List (List Key×Addr×Value)}(r:KT H NS xs)(k:List Key):RelO (hV NS k) ((atKey xs k).map (·.2)):=by
 induction r with
 | nil=>exact True.intro
 | @cons p q ps qs h t ih=>
   erw[h1,_,h2]at h
   by_cases e:p.1=k
   . let e':q.1=k:=h1.symm.trans e;let b:atKey (q::qs) k=some q.2:=by simp [atKey,jL0,e']
     rw[dO e,b];exact h2
   . let e':¬ q.1=k:=λz=>e (h1.trans z)
     let b:atKey (q::qs) k=atKey qs k:=by simp [atKey,jL0,e']
     rw[dP e,b];exact ih
def KT.repl{NS:List (List Key×V)}{xs:List (List Key×Addr×Value)}(r:KT H NS xs)(k:List Key)(ry:RelV y u) :
 KT H (NS.map λkv=>if kv.1=k then(kv.1,y)else kv) (xs.map (putAt k u)):=by
 induction r with
 | nil=>exact .nil
 | @cons p q ps qs h t ih=>
   rw[zX0,zX0];refine .cons ?_ ih;erw[h1,h2,h3]at h;unfold putAt
   by_cases e:p.1=k
   . rw[NQ e,NQ (h1.symm.trans e)];erw[h1,h2,ry]
   . rw[NP e,NP (λz=>e (h1.trans z))];erw[h1,h2,h3]
def KT.put{NS:List (List Key×V)}{xs:List (List Key×Addr×Value)}(r:KT H NS xs)(k:List Key){b:Addr}(hb:H b=some (.tup (k.map kV)))(ry:RelV y u) :
 KT H (mz NS k y) (storedH xs k b u):=by
 let e:(NS.any λkv=>decide (kv.1=k))=(atKey xs k).isSome:=by
  rw[lY,(r.val k).isSome_eq,Option.isSome_map]
 unfold mz storedH;rw[e]
 by_cases q:(atKey xs k).isSome=true
 . rw[NQ q,NQ q];exact r.repl k ry
 . rw[NP q,NP q];exact Paired.snoc r %[1,hb|ry]
def KT.keeps{H':Hp}{NS:List (List Key×V)}{xs:List (List Key×Addr×Value)}(r:KT H NS xs)(ht:∀b ys,H b=some (.tup ys)->H' b=some (.tup ys)):KT H' NS xs:=
 Paired.mapP r λ_ _ z=>%[z.1,ht _ _ z.2.1|z.2.2]
section
variable {P:Program} {w:World} {H:Hp} {h:Heap} {a:Addr}
def HU(ok:HOk P w H h)(e:Rd H a u):ObjOk P w H h a u:=e.ok ok
def Al{NS:List (Key×V)}(ok:HOk P w H h)(e:Rd H a (.dK NS)):NS.length<=sizeLine/\(a==sysModules)=false/\∃vs,KV NS vs/\h.DictOf (dG P w) a vs:=
 show ObjOk P w H h a (.dK NS)from HU ok e
def dk_of{NS:List (Key×V)}(ok:HOk P w H h)(e:H a=some (.dK NS)):NS.length<=sizeLine/\(a==sysModules)=false/\∃vs,KV NS vs/\h.DictOf (dG P w) a vs:=Al ok (.inl e)
def yM{ks:List Key}(ok:HOk P w H h)(e:H a=some (.tup (ks.map kV))):(tupleKind (dG P w)).is h ks a:=by
 let%[_,its,r,%[o,h1,h2,n|h3]|_]:=(show ObjOk P w H h a (.tup (ks.map kV))from ok a _ e)
 erw[o,its.toArray,n,h1,h2,h3,by simpa using tP r]
def Fa{NS:List (List Key×V)}(ok:HOk P w H h)(e:Rd H a (.dT NS)):NS.length<=sizeLine/\(a==sysModules)=false/\
 ∃xs,KT H NS xs/\h.DictOfH (tupleKind (dG P w)) a xs:=by
 let%[z,y,xs,r,o,es,ep,h1,h2,h3,h4|h5]:=(show ObjOk P w H h a (.dT NS)from HU ok e)
 erw[z,y,xs,r,o,es,ep,h1,h2,h3,h4,λx hx=>?_,h5];let all:∀{l:List (List Key×V)}{m:List (List Key×Addr×Value)},KT H l m->∀x∈m,(tupleKind (dG P w)).is h x.1 x.2.1:=by
  intro l m q
  induction q with
  | nil=>intro x hx;exact nomatch hx
  | @cons p q ps qs hq t ih=>
    intro x hx;rcases zW0 hx with e | hx
    . subst e;exact yM ok (by rw[←hq.1];exact hq.2.1)
    . exact ih x hx
 exact all r x hx
def dt_of{NS:List (List Key×V)}(ok:HOk P w H h)(e:H a=some (.dT NS)):NS.length<=sizeLine/\(a==sysModules)=false/\
 ∃xs,KT H NS xs/\h.DictOfH (tupleKind (dG P w)) a xs:=Fa ok (.inl e)
end
def DGet(H:Hp)(a:Addr)(y:V)(r:Option V):Prop:=
 (∃NS k,Rd H a (.dK NS)/\y=kV k/\r=hV NS k)∨∃NS k b,Rd H a (.dT NS)/\y=.ref b/\H b=some (.tup (k.map kV))/\r=hV NS k
def DPut(H:Hp)(a:Addr)(y v:V)(H':Hp):Prop:=
 (∃NS k,H a=some (.dK NS)/\y=kV k/\NS.length<sizeLine/\H'=upd H a (.dK (mz NS k v)))∨
 ∃NS k b,H a=some (.dT NS)/\y=.ref b/\H b=some (.tup (k.map kV))/\NS.length<sizeLine/\H'=upd H a (.dT (mz NS k v))
def DGet.k{H:Hp}{a:Addr}{NS:List (Key×V)}{k:Key}(e:H a=some (.dK NS)):DGet H a (kV k) (hV NS k):=.inl %[NS,k,.inl e,1|1]
def DPut.k{H:Hp}{a:Addr}{NS:List (Key×V)}{k:Key}(e:H a=some (.dK NS))(hl:NS.length<sizeLine):DPut H a (kV k) v (upd H a (.dK (mz NS k v))):=.inl %[NS,k,e,1,hl|1]
section
variable {X:Cx} {NO:List (Addr×Obj)} {σ:St} {H:Hp} {s:Shared} {a:Addr} {y v:V} {u r:Value} {o:Option V} {A:Around} {E:Value->Shared->Prop}
def Inv.big(I:Inv X NO σ H s):sysModules<‹s›:=by
 let h:mainGlobals<‹s›:=(I.mod.glob.keeps I.bk).lt;exact Nat.lt_trans ⋯ h
def Ap{h':Heap}{t':Nat}(I:Inv X NO σ H s)(mu:Mut (H a))(hs:Heap.SameBut a s.heap h')(he:∃q,h'.get? a=some q)(new:ObjOk X.prog X.w (upd H a ob) h' a ob) :
 Inv X NO σ (upd H a ob) { s with heap:=h',toks:=t' }:=
 I.write (x:=a) (e:=a) mu (.inl rfl) (λb q hb z=>(hs.2 b hb).trans z) he new
def Fd{H':Hp}{h':Heap}{NS:List (Key×V)}{vs:List (Key×Value)}(z:NS.length<=sizeLine)(hd:(a==sysModules)=false)(rel:KV NS vs)(dd:h'.DictOf (dG P w) a vs) :
 ObjOk P w H' h' a (.dK NS):=%[z,hd,vs,rel|dd]
def Cb{Q:Unit->Shared->Prop}(hu:A.units+1<cLine)(I:Inv X NO σ H s)(g:DPut H a y v H')(ry:RelV y u)(rv:RelV v r)(h:∀s',Inv X NO σ H' s'->Q () s') :
 wpAny (model X.prog X.w) A (setItem (.ref a) u r) Q E s:=by
 rcases g with⟨NS,k,e,ey,l,eH⟩ | ⟨NS,k,b,e,ey,eb,l,eH⟩
 . subst ey eH;let%[z,hd,vs,rel|dd]:=dk_of I.hok e;let hz:vs.length<=sizeLine:=by rw[←rel.length];exact z
   let hl:(mz NS k v).length<=sizeLine:=by have:=kD NS k v;omega
   refine wpAny_setItem_pairs (hsz:=hz) (EH ry) dd λh' dd' hs=>h _ ?_
   let he:∃q,h'.get? a=some q:=let⟨q,_,_,hq,_⟩:=dd';%[q|hq]
   exact Ap I (by rw[e];exact True.intro) hs he (Fd hl hd (rel.put k rv) dd')
 . subst ey eH;cases(show u=Value.ref b from ry);let%[z,hd,xs,rel|dd]:=dt_of I.hok e;let hz:xs.length<=sizeLine:=by rw[←Paired.length rel];exact z
   let hl:(mz NS k v).length<=sizeLine:=by have:=kD NS k v;omega
   refine wpAny_setItem_heap (hsz:=hz) (tupleKind_room_in1 hu) (yM I.hok eb) dd λh' dd' hs=>h _ ?_
   erw[q,es,ep,hq,h2,h3,h4,_,h5]at dd';refine Ap I (by rw[e];exact True.intro) hs ⟨q,hq⟩ ⟨hl,hd,_,(rel.put k eb rv).keeps λc ys ec=>?_,q,es,ep,hq,h2,h3,h4,h5⟩;rw[aB (bp ec e (λz=>nomatch z))];exact ec
end
instance ZsDPut(D:Ends)(σ:St)(v:V)(x:V)(y:V)(H3:Hp):∀a H4,x=.ref a->DPut H3 a y v H4->D.nx σ H4:=0
def sDPut(td ty tv:TE):TS:=λD σ H=>tv σ H λv H1=>td σ H1 λx H2=>ty σ H2 λy H3=>ZsDPut D σ v x y H3
section
variable {X:Cx} {o i e value:Expr} {pos pos' tpos:Pos} {td ty tv:TE}
def Go(hu:X.A.units+1<cLine)(ho:PE X o td)(hi:PE X i ty)(hv:PE X value tv)(hs:swapsWith value (some (.Subscript o i pos')) pos.line X.env=pure false) :
 PS X (.Assign [.Subscript o i pos'] value pos) (sDPut td ty tv):=by
 intro NO s σ H D I h;refine wpAny_Assign_Subscript (thn (hv NO s σ H _ I h) λr s1 ⟨v,H1,I1,rv,q1⟩=>thn (ho NO s1 σ H1 _ I1 q1) λu s2 ⟨x,H2,I2,rx,q2⟩=>thn (hi NO s2 σ H2 _ I2 q2) λiv s3 ⟨y,H3,I3,ry,a,H4,ex,g,q3⟩=>?_) hs;subst ex;obtain rfl:u=Value.ref a:=rx;exact Cb hu I3 g ry rv λs4 I4=>%[σ,H4,I4|q3]
end
def Fe {P:Program} {w:World} {H:Hp} (h:Heap) (hb:sysModules<h.objs.size):ObjOk P w H (h.push { cls:=.type "dict",data:=.dict #[] }) h.objs.size (.dK []):=
 %[zU0 _,beq_eq_false_iff_ne.mpr (Ne.symm (zV0 hb)),[],.nil|Heap.DictOf.new h]
def IE:TE:=λ_ H Q=>∀p,H p=none->Q (.ref p) (upd H p (.dK []))
section
variable {X:Cx} {pos:Pos}
def DH:PE X (.Dict [] [] pos) IE:=λNO s σ H Q I h=>
 wpAny_Dict_empty %[.ref ‹s›,_,I.laid (a:=‹s›) (o:=.dK []) (t':=s.toks) (λ_ _ q=>zQ0 _ q) (zG0 _) (Fe s.heap I.big),1|h _ (I.hok.fresh (zG0 _))]
end
structure M2(X:Cx)(o:Expr)(m:Str)(NY:Pos)(e f:Expr)(NU:Pos):Prop where
 base:attributeBase o m X.env (eval o X.env)=eval o X.env
 few:((backTo NU (starEach [e,f] X.env)).all (λx=>!x.1)&&(backToKw NU (keywordEach [] X.env)).all (λx=>x.1.isSome)
  &&decide (([e,f]:List Expr).length+([]:List Keyword).length+(if([]:List Keyword).isEmpty then 0 else 1)<30))=true
 line:(NY.endLine==NU.line)=true
 trees:backTo NU (starEach [e,f] X.env)=[(false,eval e X.env),(false,eval f X.env)]
def IsD(H:Hp)(a:Addr):Prop:=(∃NS,Rd H a (.dK NS))∨∃NS,Rd H a (.dT NS)
def Jk{σ:St}(I:Inv X NO σ H s)(d:IsD H a) :
 s.TypeIs (.ref a) "dict"/\(∀b,Value.ref a=.ref b->∃ob,s.heap.get? b=some ob/\ob.dict=none)/\(a==sysModules)=false:=by
 rcases d with⟨NS,e⟩ | ⟨NS,e⟩
 . let%[_,hd,vs,_|dd]:=Al I.hok e;erw[dd.typeIs,λb q=>?_,hd];cases q;erw[ob,_,_,h1,h2,_]at dd;erw[ob,h1,h2.2.1]
 . let%[_,hd,xs,_|dd]:=Fa I.hok e;erw[dd.typeIs,λb q=>?_,hd];cases q;erw[ob,_,_,h1,h2,_]at dd;erw[ob,h1,h2.2.1]
section
variable {X:Cx} {NO:List (Addr×Obj)} {σ:St} {H:Hp} {s:Shared} {a:Addr} {y d:V} {u r:Value} {o:Option V} {A:Around} {E:Value->Shared->Prop}
def JF{Q:Value->Shared->Prop}(hu:A.units+1<cLine)(I:Inv X NO σ H s)(g:DGet H a y o)(ry:RelV y u)(rd:RelV d r)(h:∀w' s',Inv X NO σ H s'->RelV (o.getD d) w'->Q w' s') :
 wpAny (model X.prog X.w) A (call (.builtin "dict.get") [.ref a,u,r]) Q E s:=by
 rcases g with⟨NS,k,e,ey,l⟩ | ⟨NS,k,b,e,ey,eb,l⟩
 . subst ey;let%[z,hd,vs,rel|dd]:=Al I.hok e;refine call_meetsIn jY1 dd.typeIs PySem.F.entry_dict_get (PySem.F.args_dict_get_3 _ _ _) (meets_dict_get_default (dG X.prog X.w) a (EH ry) hd r) %[_,dd.mapOf|h _ _ (I.tok _) ?_];rw[l];exact(rel.val k).getD rd
 . subst ey;cases(show u=Value.ref b from ry);let%[z,hd,xs,rel|dd]:=Fa I.hok e;refine call_meetsIn jY1 dd.typeIs PySem.F.entry_dict_get (PySem.F.args_dict_get_3 _ _ _) (meetsH_dict_get_default (tupleKind (dG X.prog X.w)) a b hd r) %[tupleKind_room_in1 hu,k,xs,yM I.hok eb,dd|h _ _ (I.tok _) ?_];rw[l];exact(rel.val k).getD rd
end
instance ZtDGet2(ty:TE)(tx:TE)(σ:St)(Q:VK)(x:V)(H1:Hp):∀a,x=.ref a->IsD H1 a->(ty σ H1 λy H2=>tx σ H2 λz H3=>∃o,DGet H3 a y o/\Q (o.getD z) H3):=0
def IF(td ty tx:TE):TE:=λσ H Q=>td σ H λx H1=>ZtDGet2 ty tx σ Q x H1
section
variable {X:Cx} {o e f:Expr} {NY NU:Pos} {td ty tx:TE}
def DI (hu:X.A.units+1<cLine) (ho:PE X o td) (he:PE X e ty) (hf:PE X f tx) (m:M2 X o "get" NY e f NU):PE X (.Call (.Attribute o "get" NY) [e,f] [] NU) (IF td ty tx):=by
 intro NO s σ H Q I h;refine wpAny_Call_method m.base m.few m.line PySem.F.plainAttrs_dict jY1 PySem.F.type_dict_get (thn (ho NO s σ H _ I h) λu s1 ⟨x,H1,I1,rx,a,ex,d,q1⟩=>?_);subst ex;obtain rfl:u=Value.ref a:=rx;let%[t1,t2|_]:=Jk I1 d;erw[t1,t2,6];rw[m.trees];refine jH1 rfl (jN1 (qP1 (thn (he NO s1 σ H1 _ I1 q1) λiv s2 ⟨y,H2,I2,ry,q2⟩=>
  qP1 (thn (hf NO s2 σ H2 _ I2 q2) λfv s3 ⟨z,H3,I3,rz,ov,g,q3⟩=>jB1 ?_))))
 exact JF hu I3 g ry rz λw' s4 I4 rw'=>%[_,H3,I4,rw'|q3]
end
section
variable {X:Cx} {NO:List (Addr×Obj)} {σ:St} {H:Hp} {s:Shared} {a:Addr} {NS:List (Key×V)} {A:Around} {E:Value->Shared->Prop}
def Fh {Q:Value->Shared->Prop} (I:Inv X NO σ H s) (e:Rd H a (.dK NS)) (h:∀p s',H p=none->Inv X NO σ (upd H p (.dK NS)) s'->Q (.ref p) s'):wpAny (model X.prog X.w) A (call (.type "dict") [.ref a]) Q E s:=by
 let%[z,hd,vs,rel|dd]:=Al I.hok e;refine kt_call_dict hd dd (by rw[←rel.length];exact z) λh' dd' hs=>?_
 refine h _ _ (I.hok.fresh (zG0 _)) (I.laid (a:=‹s›) (o:=.dK NS) (t':=s.toks) (λb q hq=>?_) (zG0 _) (Fd z (beq_eq_false_iff_ne.mpr (Ne.symm (zV0 I.big))) rel dd'));exact(hs.2 b (zV0 (zN0 hq))).trans (zQ0 _ hq)
end
section
variable {X:Cx}
def Inv.tupD{σ:St}{a:Addr}{xs:List V}(I:Inv X NO σ H s)(h:H a=some (.tup xs)):∃ob,s.heap.get? a=some ob/\ob.dict=none:=by
 let%[_,_,_,_,o,e|d]:=(show ObjOk X.prog X.w H s.heap a (.tup xs)from I.hok a _ h)
 erw[o,e,d]
instance ZtIndex(t:TA)(σ:St)(Q:VK)(x:V)(H1:Hp):∀(a:Addr)(ns:List Str),x=.ref a->H1 a=some (.lst (ns.map V.str))∨H1 a=some (.tup (ns.map V.str))->(t σ H1 λvs H2=>(H2 a=H1 a)/\∃(z:Str)(j:Nat),vs=[.str z]/\eZ z ns=some j/\Q (.int (j:Int)) H2):=0
def ID(K:W.Frag)(to:TE)(t:TA):TE:=λσ H Q=>to σ H λx H1=>ZtIndex t σ Q x H1
variable {o e:Expr} {es:List Expr} {to:TE} {t:TA} {NY NU:Pos}
def wc (pl:PlainAttrs "list") (pt:PlainAttrs "tuple") (ho:PE X o to) (ha:PA X (e::es) t)
 (hbase:attributeBase o "index" X.env (eval o X.env)=eval o X.env:=by rfl)
 (hfew:((backTo NU (starEach (e::es) X.env)).all (λx=>!x.1)&&(backToKw NU (keywordEach [] X.env)).all (λx=>x.1.isSome)
  &&decide ((e::es).length+([]:List Keyword).length+(if([]:List Keyword).isEmpty then 0 else 1)<30))=true:=by rfl)
 (hline:(NY.endLine==NU.line)=true:=by rfl) (hs:starEach (e::es) X.env=(false,eval e X.env)::starEach es X.env:=by rfl) (hplain:(backTo NU (starEach es X.env)).any (·.1)=false:=by rfl) :
 PE X (.Call (.Attribute o "index" NY) (e::es) [] NU) (ID X.K to t):=by
 intro NO s σ H Q I h;refine wpAny_Call_method_late hbase hfew hline rfl (thn (ho NO s σ H _ I h) λv s1 ⟨x,H1,I1,r1,a,ns,ex,hh,q1⟩=>?_);subst ex;cases r1;let hA:=ha NU NO s1 σ H1 _ I1 q1;rw[hs]at hA ⊢;rcases hh with hh | hh
 . let%[its,_,p|_]:=I1.list (zH0 hh);let%[ob,n,e1,c,d|_]:=id p;erw["list","list.index",pl,F.slot_list_index,F.type_list_index,p.isList.typeIs,λb eb=>?_,6]
   . cases eb;erw[ob,e1,d]
   . refine jH1 (by show(false||(backTo NU (starEach es X.env)).any (·.1))=false;rw[hplain] <;> rfl) (jN1 ?_);exact thn hA λus s2 ⟨vs,H2,I2,r2,ek,z,j,ez,hp,q2⟩=>Bv NO s2 σ H2 (.ref a) vs (.ref a) us Q I2 rfl r2 %[a,ns,z,j,1,ez,zH0 (ek.trans hh),hp|q2]
 . let%[its,_,p|_]:=I1.tuple (zD0 hh);erw["tuple","tuple.index",pt,F.slot_tuple_index,F.type_tuple_index,p.typeIs,λb eb=>?_,6]
   . cases eb;exact I1.tupD hh
   . refine jH1 (by show(false||(backTo NU (starEach es X.env)).any (·.1))=false;rw[hplain] <;> rfl) (jN1 ?_);exact thn hA λus s2 ⟨vs,H2,I2,r2,ek,z,j,ez,hp,q2⟩=>Bu NO s2 σ H2 (.ref a) vs (.ref a) us Q I2 rfl r2 %[a,ns,z,j,1,ez,zD0 (ek.trans hh),hp|q2]
end
def CompScope.three{X:Cx}{x y z u:Str}{scope:Scope}{k l m:Nat}{c d e:Addr}{cl:List (Str×Addr)}(c1:closureFor scope X.env=pure cl)(c2:∀y∈scope.names,y.2≠.cell)(c3:scope.kind=.function)(c4:∀y∈scope.names,y.2=.local->scope.names.lookup y.1=some .local)
 (c5:scope.names.lookup x=some .local) (nd:[x,y,z,u].Nodup) (hcl:cl=[(y,c),(z,d),(u,e)]) (hc:X.env.cells.lookup y=some c) (hd:X.env.cells.lookup z=some d) (he:X.env.cells.lookup u=some e) (c6:((relabel scope X.env).names.all λp=>!(p.2==.cell||p.2==.free)||(cl.lookup p.1).isSome)=true)
 (hr:(relabel scope X.env).names.lookup y=some .cell) (hk:X.N[k]?=some y) (hs:X.env.scope.names.lookup y=some .cell)
 (hr2:(relabel scope X.env).names.lookup z=some .cell) (hk2:X.N[l]?=some z) (hs2:X.env.scope.names.lookup z=some .cell)
 (hr3:(relabel scope X.env).names.lookup u=some .cell) (hk3:X.N[m]?=some u) (hs3:X.env.scope.names.lookup u=some .cell):CompScope X x [y,z,u] [k,l,m] scope cl where
 clos:=c1
 nocell:=c2
 kind:=c3
 names:=c4
 own:=c5
 nd:=nd
 sub:=λp hp=>by
  subst hcl;rcases zW0 hp with h | h
  . rw[h];assumption
  . rcases zW0 h with h | h
    . rw[h];assumption
    . rw[NW h];assumption
 has:=c6
 outs:=λj w h=>by
  let nyz:y≠z:=λe=>by simp [e]at nd
  let nyu:y≠u:=λe=>by simp [e]at nd
  let nzu:z≠u:=λe=>by simp [e]at nd
  subst hcl
  match j,h with
  | 0,h=>
    let e:y=w:=zT0 h;subst e;erw[hr,k,c,1,hk,by simp [List.lookup],hs]
  | 1,h=>
    let e:z=w:=zT0 h;subst e
    have:(z==y)=false:=by simpa using Ne.symm nyz
    erw[hr2,l,d,1,hk2,by simp [List.lookup,this],hs2]
  | 2,h=>
    let ew:u=w:=zT0 h;subst ew;let h1:(u==y)=false:=by simpa using Ne.symm nyu
    let h2:(u==z)=false:=by simpa using Ne.symm nzu
    erw[hr3,m,e,1,hk3,by simp [List.lookup,h1,h2],hs3]
  | j+3,h=>simp at h
section
variable {X:Cx}
def tR:∀{xs:List V}{us:List Value},Vals xs us->xs.all jN=true->us.countP (eqU x)=xs.countP λy=>eqV y x
 | _,_,.nil,_=>rfl
 | y::xs,u::us,.cons r t,f=>by
   rw[wE1,qR1]at f;rw[List.countP_cons,List.countP_cons,yT r f.1,tR t f.2]
instance rCountL(K:W.Frag)(x:V)(vs:List V)(H:Hp)(Q:VK):∀(a:Addr)(xs:List V)(z:V),x=.ref a->vs=[z]->SqL K H a xs->xs.all jN=true->jN z=true->Q (.int ((xs.countP λy=>eqV y z:Nat):Int)) H:=0
def wC:MtR X "list.count" (rCountL X.K):=by
 intro NO s σ H x vs v us Q I rx rv h;erw[a,xs,z,1,1,hq,fs,fz,q]at h;cases rx;erw[u,1,ru]at rv.one;let%[its,r,%[%[cls,dd,data|sl],n,ho,hc,hdd|hd]|hz]:=I.list hq;simp only at hc hd;subst hc hd;refine qW1 F.slot_list_count %[_,ho|1] F.entry_list_count (F.args_list_count_2 _ _) (SeqAt.list_countAt a its.toArray n dd sl u (eqU z)) ⟨ho,λy hy=>?_,?_⟩
 . exact gB ru fz r fs y (by simpa using hy)
 . rw[show its.toArray.toList=its from rfl,tR r fs];erw[.int ((xs.countP λy=>eqV y z:Nat):Int),H,I.tok _,%[|0],q]
end
def eE(g:Nat->Int):Nat->Int
 | 0=>g 0
 | k+1=>if eE g k<g (k+1)then g (k+1)else eE g k
def xg(g:Nat->Int):∀n k,k<=n->g k<=eE g n
 | 0,k,h=>by
   let e:k=0:=by omega
   subst e;exact zX1 _
 | n+1,k,h=>by
   unfold eE
   by_cases c:k=n+1
   . subst c
     split <;> omega
   . have:=xg g n k #[0]
     split <;> omega
def Bz(ns:List Int)(d:Int):Int:=match ns with | []=>d | _::_=>eE (λi=>ns[i]?.getD 0) (ns.length-1)
def He{ns:List Int}{x:Int}(h:x∈ns):x<=Bz ns d:=by
 let%[i,hi|e]:=jQ0 h;cases ns with
 | nil=>cases h
 | cons a r=>
   have:=xg (λi=>(a::r)[i]?.getD 0) ((a::r).length-1) i #[0]
   simp only[zM0 hi,wC1,e]at this;exact this
section
variable {prog:Program} {w:World} {A:Around} {R:Result->Shared->Prop} {I S:Addr} {fp wr:List Addr} {n:Nat} {P:Nat->Value->Prop} {St:Nat->Heap->Prop} {g:Nat->Int} {kw:List (Str×Value)}
def qc:(toString "max"++toString ".loop":String)="max.loop":=by decide
def Er(W:Walks prog w A.in1 I fp wr n P St)(gv:∀i v,P i v->∃t,v=Value.int (g i) t)(nS:S∉fp):∀(k j:Nat)(s:Shared)(t:Tok)(c:Nat),j+1+k=n->St (j+1) s.heap ->
 s.heap.get? S=some { cls:=.type "list",dict:=none,data:=.seq #[.int (eE g j) t,.int (eE g j) t] c,slots:=#[] } ->
 (∀t' h' tk,(∀b o,b∉wr->b≠S->s.heap.get? b=some o->h'.get? b=some o)->R (.ok (.ret (.int (eE g (n-1)) t'))) { s with heap:=h',toks:=tk }) ->
 codeAny (model prog w) A (.builtin "max.loop" %[[.ref I,.none,.ref S]|kw]) R s:=by
 let nw:S∉wr:=λz=>nS (W.sub _ z)
 intro k
 induction k with
 | zero=>
   intro j s t c ek st eS q;refine codeAny_builtin vA1 ?_;rw[wD1 qY0 _];show wpAny _ A.in1 (seqItems? (.ref S) >>= _) _ _ s;refine zE0 (qG1 eS rfl ?_);show wpAny _ A.in1 (tryCatch (pyNext (.ref I)) _ >>= _) _ _ s;refine zE0 (wR0 (W.done s _ _ (by rw[←ek];exact st) λh' tk kp=>?_));show wpAny _ A.in1 (updateSeq S (λ_=>#[]) >>= _) _ _ _;refine zE0 ?_;refine wpAny_updateSeq (kp S _ nw eS) rfl (zE0 (jQ1 (zI0 ?_)));let e:n-1=j:=by omega
   rw[e]at q;exact q t _ tk λb o h1 h2 eb=>(Heap.get?_update_other _ _ (Ne.symm h2)).trans (kp b o h1 eb)
 | succ k ih=>
   intro j s t c ek st eS q;refine codeAny_builtin vA1 ?_;rw[wD1 qY0 _];show wpAny _ A.in1 (seqItems? (.ref S) >>= _) _ _ s;refine zE0 (qG1 eS rfl ?_);show wpAny _ A.in1 (tryCatch (pyNext (.ref I)) _ >>= _) _ _ s;refine zE0 (wR0 (W.item (j+1) s _ _ #[0] st λv h' tk pv st' kp=>?_));let%[tv|1]:=gv _ _ pv;let eS':=kp S _ nw eS;show wpAny _ A.in1 (tryCatch (holding [Value.int (g (j+1)) tv,Value.int (g (j+1)) tv] (richCompare .Gt (Value.int (g (j+1)) tv) (Value.int (eE g j) t) >>= _)) _ >>= _) _ _ _;refine zE0 (wR0 (jM0 (zE0 (CmpOf.ints_gt (prog:=prog) (w:=w) (A:=A.in1) (P:=λi v=>∃t,v=Value.int (if i=0 then eE g j else g (j+1)) t) (λi=>if i=0 then eE g j else g (j+1)) (λi v h=>h) 1 0 _ _ _ _ _ %[tv|1] ⟨t,rfl⟩ ?_))));refine zE0 (jM0 (zV1 ?_));refine zE0 (jQ1 (zI0 ?_))
   by_cases c1:eE g j<g (j+1)
   . let e1:eE g (j+1)=g (j+1):=by unfold eE;rw[NQ c1]
     refine zS1 (λ_=>?_) (λhab=>absurd (zD1 c1) hab);refine zE0 ?_;refine wpAny_updateSeq eS' rfl (zE0 (jQ1 ?_));rw[qc];refine zI0 %[wX0 qY0 _|ih (j+1) _ tv _ #[0] (W.frame _ _ _ st' λb hb o eb=>?_) (by rw[e1];exact Heap.get?_update_self _ eS' rfl) λt' h2 tk2 kp2=>?_]
     . exact(Heap.get?_update_other _ _ (λz:S=b=>nS (by rw[z];exact hb))).trans eb
     . exact q t' h2 tk2 λb o h1 h3 eb=>kp2 b o h1 h3 ((Heap.get?_update_other _ _ (Ne.symm h3)).trans (kp b o h1 eb))
   . let e1:eE g (j+1)=eE g j:=by unfold eE;rw[NP c1];cases j <;> rfl
     refine zS1 (λhab=>absurd (zM1 hab) c1) (λ_=>?_);refine zE0 (jQ1 ?_);rw[qc];refine zI0 %[wX0 qY0 _|ih (j+1) _ t c #[0] st' (by rw[e1];exact eS') λt' h2 tk2 kp2=>?_];exact q t' h2 tk2 λb o h1 h3 eb=>kp2 b o h1 h3 (kp b o h1 eb)
def Es (W:Walks prog w A.in1 I fp wr n P St) (gv:∀i v,P i v->∃t,v=Value.int (g i) t) (nS:S∉fp) (hn:0<n) {s:Shared} {c:Nat} (st:St 0 s.heap) (eS:s.heap.get? S=some { cls:=.type "list",dict:=none,data:=.seq #[] c,slots:=#[] })
 (q:∀t' h' tk,(∀b o,b∉wr->b≠S->s.heap.get? b=some o->h'.get? b=some o)->R (.ok (.ret (.int (eE g (n-1)) t'))) { s with heap:=h',toks:=tk }) :
 codeAny (model prog w) A (.builtin "max.loop" %[[.ref I,.none,.ref S]|kw]) R s:=by
 let nw:S∉wr:=λz=>nS (W.sub _ z)
 refine codeAny_builtin vA1 ?_;rw[wD1 qY0 _];show wpAny _ A.in1 (seqItems? (.ref S) >>= _) _ _ s;refine zE0 (qG1 eS rfl ?_);show wpAny _ A.in1 (tryCatch (pyNext (.ref I)) _ >>= _) _ _ s;refine zE0 (wR0 (W.item 0 s _ _ hn st λv h' tk pv st' kp=>?_));let%[tv|1]:=gv _ _ pv;let eS':=kp S _ nw eS;show wpAny _ A.in1 (updateSeq S (λ_=>#[Value.int (g 0) tv,Value.int (g 0) tv]) >>= _) _ _ _;refine zE0 ?_;refine wpAny_updateSeq eS' rfl ?_;rw[qc];refine zI0 %[wX0 qY0 _|Er W gv nS (n-1) 0 _ tv _ #[0] (W.frame _ _ _ st' λb hb o eb=>?_) (Heap.get?_update_self _ eS' rfl) λt' h2 tk2 kp2=>?_]
 . exact(Heap.get?_update_other _ _ (λz:S=b=>nS (by rw[z];exact hb))).trans eb
 . exact q t' h2 tk2 λb o h1 h3 eb=>kp2 b o h1 h3 ((Heap.get?_update_other _ _ (Ne.symm h3)).trans (kp b o h1 eb))
end
section
variable {X:Cx} {e k:Expr} {te tk:TE} {pos p1 kp:Pos}
instance rMax1(K:W.Frag)(xs:List V)(H:Hp)(Q:VK):∀a ns,xs=[.ref a]->SqL K H a (ns.map V.int)->ns≠[]->Q (.int (Bz ns 0)) H:=0
def tU (hc:X.calm=true):gR X (.builtin "max") (rMax1 X.K):=by
 intro NO s2 σ H2 xs us Q I2 r h;erw[a,ns,1,hq,hn,q]at h;let%[u,1|ru]:=jQ r;cases ru;let%[its,r',p|hz]:=I2.list hq;let hl:=r'.length;rw[zF0]at hl;let NT:a<‹s2›:=by erw[o,n,e,_]at p;exact zN0 e
 refine call_function_tree F.kind_max F.plain_max F.entry_max (F.args_max1 _) ?_;show wpAny _ X.A.in1 (Builtin.Builtins.bindParams "max" ["key","default"] 0 %[[]|[]] >>= λ_=>_) _ _ s2;refine zE0 (jE1 (a:=[none,none]) rfl ?_);refine zE0 (zI0 ?_);refine zE0 (jB0 p.isList ?_);refine zE0 (zP1 ?_);rw[qc];let hne:a≠‹s2›:=zV0 NT;let W:=Walks.list (prog:=X.prog) (w:=X.w) (A:=X.A.in1) (I2.ok.hd hc) ‹s2› a hne its.toArray;let I3:Inv X NO σ H2 { s2 with heap:=s2.heap.push { cls:=.type "list_iterator",data:=.fields #[.ref a,.int 0 0] } }:=I2.kept (t':=s2.toks) λb o eb=>zQ0 _ eb
 let I4:Inv X NO σ H2 { s2 with heap:=(s2.heap.push { cls:=.type "list_iterator",data:=.fields #[.ref a,.int 0 0] }).push { cls:=.type "list",data:=.seq #[] } }:=I3.kept (t':=s2.toks) λb o eb=>zQ0 _ eb
 let hz1:∀o:Obj,(s2.heap.push o).objs.size=‹s2›+1:=λo=>by simp [Heap.push]
 let nS:(s2.heap.push { cls:=.type "list_iterator",data:=.fields #[.ref a,.int 0 0] }).objs.size∉[‹s2›,a]:=by
  intro hm;rcases zW0 hm with z | z
  . rw[hz1]at z;exact absurd z (Nat.succ_ne_self _)
  . let z:=NW z;rw[hz1]at z;exact absurd z (jX1 (wS1 NT))
 let gv:∀i v,its.toArray[i]?=some v->∃t,v=Value.int (ns[i]?.getD 0) t:=λi v hv=>by
  let%[b,t,hb|1]:=rY r' (i:=i) (v:=v) (by first | exact hv | simpa using hv | (rw[List.getElem?_toArray]at hv;exact hv));erw[t,by rw[hb];rfl]
 let n0:0<ns.length:=List.length_pos_iff.mpr hn;refine zI0 %[wX0 qY0 _|Es (g:=λi=>ns[i]?.getD 0) W gv nS (by rw[zS0,←hl];exact n0) %[%[_,zQ0 _ (qB0 _ rfl),1|1]|(p.isList.push _).push _] (qB0 _ rfl) λt' h' tk kp=>?_];rw[zS0,←hl];let em:eE (λi=>ns[i]?.getD 0) (ns.length-1)=Bz ns 0:=by
  cases ns with
  | nil=>exact absurd rfl hn
  | cons _ _=>rfl
 rw[em];erw[.int _,H2,6,%[|0],q];let J:=Inv.turnedL (h':=h') (t':=tk) (ch:=[‹s2›,‹s2›+1]) I4 (λb o hb eb=>kp b o (λz=>hb (by rw[NW z];exact qA0)) (λz=>hb (by rw[z,hz1];exact qH0 _ qA0)) eb);refine J λb hb=>?_
 rcases zW0 hb with h | h
 . rw[h];exact I2.fpOk (zG0 _) (I2.hok.fresh (zG0 _))
 . rw[NW h];exact I2.fpOk (qO0 _) (I2.hok.fresh (qO0 _))
end
section
variable {prog:Program} {w:World} {A:Around} {E:Value->Shared->Prop} {s:Shared}
def zu{it t:Addr}{i:Nat}{items:Array Value}{x:Value}{Q:Value->Shared->Prop}(hit:s.heap.IsTupleIter it t i)(ht:s.heap.IsTuple t items)(hx:items[i]?=some x)
 (q:∀h',h'.IsTupleIter it t (i+1)->Heap.SameBut it s.heap h'->Q x { s with heap:=h' }):wpAny (model prog w) A (Builtin.SmallTypes.nextOf (.ref it)) Q E s:=by
 let%[o,ho,hc|hd]:=id hit;erw[ol,hol,_,nl,hdl]at ht;unfold Builtin.SmallTypes.nextOf;refine zE0 (zQ1 (name:=Str.ofString "__next__") hit.typeIs qX1 (qF1 qX1 hit.typeIs F.entry_tuple_iterator_next ?_ (F.args_tuple_iterator_next_1 _)));show wpAny _ _ (field (.ref it) 0 >>= _) _ _ s;refine zE0 (zR1 ho hd (x:=.ref t) rfl ?_);show wpAny _ _ (if(Value.ref t==Value.none)=true then _ else _) _ _ s;rw[NP (show ¬ ((Value.ref t==Value.none)=true)from qC0)];show wpAny _ _ (field (.ref it) 1 >>= _) _ _ s;refine zE0 (zR1 ho hd (x:=.int i 0) rfl ?_);show wpAny _ _ (seqItems? (.ref t) >>= _) _ _ s;refine zE0 (qG1 hol hdl ?_);simp only[qS0,hx];refine zE0 (wpAny_setField ho hd #[2] (zI0 %[x,1|zI0 (q _ ?_ (Heap.SameBut.update ..))]));erw[_,Heap.get?_update_self _ ho (Obj.isFreed_of_fields (Obj.data_mapFields hd _)),(Obj.cls_mapFields ..).trans hc,by rw[Obj.data_mapFields hd];simp [rawInt]]
def xF{it t:Addr}{i:Nat}{items:Array Value}{Q:Value->Shared->Prop}(hh:A.handled=none)(hit:s.heap.IsTupleIter it t i)(ht:s.heap.IsTuple t items)(hx:items[i]?=none)
 (q:∀h' e,Heap.ExtBut it s.heap h'->(∃o,h'.get? e=some o/\o.cls=.type "StopIteration")->E (.ref e) { s with heap:=h' }):wpAny (model prog w) A (Builtin.SmallTypes.nextOf (.ref it)) Q E s:=by
 let%[o,ho,hc|hd]:=id hit;erw[ol,hol,_,nl,hdl]at ht;unfold Builtin.SmallTypes.nextOf;refine zE0 (zQ1 (name:=Str.ofString "__next__") hit.typeIs qX1 (qF1 qX1 hit.typeIs F.entry_tuple_iterator_next ?_ (F.args_tuple_iterator_next_1 _)));show wpAny _ _ (field (.ref it) 0 >>= _) _ _ s;refine zE0 (zR1 ho hd (x:=.ref t) rfl ?_);show wpAny _ _ (if(Value.ref t==Value.none)=true then _ else _) _ _ s;rw[NP (show ¬ ((Value.ref t==Value.none)=true)from qC0)];show wpAny _ _ (field (.ref it) 1 >>= _) _ _ s;refine zE0 (zR1 ho hd (x:=.int i 0) rfl ?_);show wpAny _ _ (seqItems? (.ref t) >>= _) _ _ s;refine zE0 (qG1 hol hdl ?_);simp only[qS0,hx]
 first
  | refine zE0 (wT0 (zE0 (wpAny_setField ho hd #[2] (zE0 (jQ1 ?_)))))
  | refine zE0 (wT0 (zE0 (wpAny_setField ho hd #[2] ?_)))
 show wpAny _ _ (newExc (.type "StopIteration") [] >>= _) _ _ _;refine zE0 ?_;simp only[newExc,newTuple];refine zE0 (zP1 ?_ (by size_fits));refine zE0 (m:=firstArgMember _ _) (jE1 (a:=Value.none) (by first | rfl | (simp only[firstArgMember];rfl)) ?_);refine zP1 ?_ (by size_fits);simp only[raiseNew];refine zE0 (wpAny_handled ?_)
 first | rw[show A.in1.handled=none from hh] | rw[hh]
 refine zE0 (zI0 (wpAny_throw ?_));exact q _ _ (((Heap.SameBut.update ..).extBut.push _).push _) %[_,qB0 _ rfl|1]
def BY{e it t:Addr}{j:Nat}{i:Int}{old:Value}{items:Array Value}{Q:Option Value->Shared->Prop}(hh:A.handled=none)(he:IsEnum s.heap e it i old)(hit:s.heap.IsTupleIter it t j)(ht:s.heap.IsTuple t items)(hx:items[j]?=none)
 (q:∀h',Heap.ExtBut it s.heap h'->Q none { s with heap:=h' }):wpAny (model prog w) A (pyNext (.ref e)) Q E s:=by
 let hT:s.TypeIs (.ref e) "enumerate":=%[_,he|1]
 unfold pyNext;refine zE0 (jU1 (zQ1 (name:=Str.ofString "__next__") hT F.slot_enumerate_next (qF1 F.slot_enumerate_next hT F.entry_enumerate_next ?_ (F.args_enumerate_next_1 _))));show wpAny _ _ (field (.ref e) 2 >>= _) _ _ _;refine zE0 (zR1 he rfl (x:=.ref it) rfl ?_);refine zE0 (xF hh hit ht hx λh' x he' hx'=>?_);erw[o,ho,hc]at hx';refine zE0 (wC0 (T:="StopIteration") (b:=true) %[o,ho|hc] isSubtype_stop ?_);exact zI0 (q h' he')
end
def Ca{prog:Program}{w:World}{A:Around}(hh:A.handled=none)(it l:Addr)(hne:l≠it)(items:Array Value):Draws prog w A it [it,l] items.size (λi v=>items[i]?=some v) (λi h=>h.IsTupleIter it l i/\h.IsTuple l items) where
 live:=λ_ _ st=>let⟨o,ho,_⟩:=st.1;%[o|ho]
 frame:=λ_ _ _ st k=>%[st.1.at λo e=>k it #[2] o e|st.2.at λo e=>k l #[2] o e]
 item:=λi s Q E hi st q=>by
  refine zu st.1 st.2 (x:=items[i]) (by simp [hi]) λh' a b=>?_
  exact q _ h' s.toks (by simp [hi]) %[a|st.2.extBut b.extBut hne] b
 done:=λs Q E st q=>xF hh st.1 st.2 #[2] q
open AutoSeq1 (wpAny_loadPart') in
set_option maxHeartbeats 1000000 in
def wH(l:Addr)(items:Array Value)(n:Nat)(dct:Option Addr)(sl:Array (Option Value)) :
 Meets (Builtin.«enumerate.__new__» %[[.type "enumerate",.ref l]|[]]) (λ_ R s=>s.heap.get? l=some { cls:=.type "tuple",dict:=dct,data:=.seq items n,slots:=sl }/\
  R (.ok (.ret (.ref (s.heap.push { cls:=.type "tuple_iterator",data:=.fields #[.ref l,.int 0 0] }).objs.size)))
   { s with heap:=(s.heap.push { cls:=.type "tuple_iterator",data:=.fields #[.ref l,.int 0 0] }).push { cls:=.type "enumerate",data:=.fields #[.none,.bool false,.ref ‹s›,rawInt 0,.none,.none] } }):=
 .of_wp λprog w A R s h=>by
  erw[hp,g,d,tk,os]at s;erw[hl,h]at h;let hsub:=sub_enumerate;let hL:Heap.IsTuple (Shared.heap %[hp,g,d,tk|os]) l items:=⟨_,hl,rfl,n,rfl⟩
  wp_walk using wpAny_loadPart' hl
  refine wpAny_stack_any λst=>zI0 ?_
  split
  . rename_i c _ _ _ _ _;cases(c==Value.type "enumerate")
    . wp_walk using wpAny_loadPart' hl,jI1 hL
      erw[0,h]
    . wp_walk using wpAny_loadPart' hl,jI1 hL
      erw[0,h]
  . wp_walk using wpAny_loadPart' hl,jI1 hL
    erw[0,h]
section
variable {prog:Program} {w:World} {A:Around} {E:Value->Shared->Prop} {s:Shared}
def yZ{l:Addr}{items:Array Value}{Q:Value->Shared->Prop}(hL:s.heap.IsTuple l items)
 (q:∀h',IsEnum h' (‹s›+1) ‹s› 0 .none->h'.IsTupleIter ‹s› l 0->(∀b o,s.heap.get? b=some o->h'.get? b=some o)->Q (.ref (‹s›+1)) { s with heap:=h' }) :
 wpAny (model prog w) A (call (.type "enumerate") [.ref l]) Q E s:=by
 erw[%[c,dct,dt|sl],hl,hc,n,hd]at hL
 replace hc:c=.type "tuple":=hc
 replace hd:dt=.seq items n:=hd
 subst hc hd;refine callType_new F.called_enumerate ⋯ (F.typeCall_enumerate_1 _) (F.newCall_enumerate_1 _) (λobj=>F.args_object_init_2 obj _) F.entry_enumerate_new (wH l items n dct sl) %[hl|6];let hz:(s.heap.push { cls:=.type "tuple_iterator",data:=.fields #[.ref l,.int 0 0] }).objs.size=‹s›+1:=jP0 ..;show _/\_;rw[hz];let he:IsEnum ((s.heap.push { cls:=.type "tuple_iterator",data:=.fields #[.ref l,.int 0 0] }).push { cls:=.type "enumerate",data:=.fields #[.none,.bool false,.ref ‹s›,rawInt 0,.none,.none] }) (‹s›+1) ‹s› 0 .none:=by
  have:=qB0 (s.heap.push { cls:=.type "tuple_iterator",data:=.fields #[.ref l,.int 0 0] }) (o:={ cls:=.type "enumerate",data:=.fields #[.none,.bool false,.ref ‹s›,rawInt 0,.none,.none] }) rfl
  rw[hz]at this;exact this
 erw[%[_,he|1],q _ he ⟨_,zQ0 _ (qB0 _ rfl),rfl,rfl⟩ λb o x=>zQ0 _ (zQ0 _ x)]
end
def Fw(K:W.Frag)(a:Addr):It:=
 ⟨λi H=>∃xs x,SqT K H a xs/\xs[i]?=some x,λi H y H'=>∃t,y=.ref t/\H t=none/\∀xs x,SqT K H a xs->xs[i]?=some x->H'=upd H t (.tup [.int i,x]),λi H=>∃xs,SqT K H a xs/\xs.length<=i⟩
def xD{K:W.Frag}{elts:List Expr}{k:Nat}{pos:Pos}(a e it:Addr)(hei:e≠it)(hai:a≠it)(hae:a≠e) :
 Turn P w K (.Tuple elts k pos) (Fw K a) [e,it] e (λi h=>(∃old,IsEnum h e it i old)/\h.IsTupleIter it a i) where
 mem:=by simp
 obj:=λi h st b hb=>by
  erw[%[old|he],o,e2,c,d]at st;rcases zW0 hb with z | z
  . subst z;erw[_,he,λv z=>nomatch z]
  . let z':=NW z;subst z';erw[o,e2,λv z=>by rw[d]at z;cases z]
 keep:=λi h h' st k=>by
  erw[%[old|he],hit]at st;erw[%[old|k e #[2] _ he],hit.at λo x=>k it #[2] o x]
 item:=by
  intro X hP hw hK hc i NO s σ H E I hf st hg;subst hP hw hK;erw[xs,x,hq,hx]at hg;let%[its,rv,p|hz]:=I.tuple hq;let%[u,hu|ru]:=rv.get hx;erw[%[old|he],hit]at st;let hi:i<its.toArray.size:=by
   rw[zS0];exact(zY0 hu).1
  refine wpAny_pyNext_enum_itemD (Ca (prog:=X.prog) (w:=X.w) (A:=X.A.in1) (I.ok.hd hc) it a hai its.toArray) he %[hit|p] hi hei (by simp [hei,Ne.symm hae]) λy h1 tk hy ho hst1 hT hsz hk=>?_
  let ey:y=u:=by
   let h1:its.toArray[i]?=some u:=by simpa using hu
   rw[h1]at hy;exact(zT0 hy).symm
  subst ey;erw[0,wpAny_letOwnedTupleGo_enum ho λh2 he2 hs2=>?_];let elt:e<‹s›:=zN0 he;let hT2:h2.get? ‹s›=some { cls:=.type "tuple",data:=.seq #[.int i tk,y] }:=(hs2.2 _ (Ne.symm (zV0 elt))).trans hT;let I2:Inv X NO σ (upd H ‹s› (.tup [.int i,x])) { s with heap:=h2,toks:=tk+1 }:=by
   refine I.turnedNew (ch:=[e,it]) (λb ob hb eb=>?_) hf (zG0 _) %[by show 2<=sizeLine;decide,[.int i tk,y],.cons %[|0] (.cons ru .nil),%[_,hT2,1|0],_,hT2|1];let b1:b≠e:=λz=>hb (by simp [z])
   let b2:b≠it:=λz=>hb (by simp [z])
   exact(hs2.2 b b1).trans (hk b ob b1 b2 eb)
  erw[.ref ‹s›,_,I2,1,%[0,I.hok.fresh (zG0 _)|λys z hy hyi=>?_],%[%[y|by simpa using he2]|hst1.1.at λo z=>(hs2.2 it (Ne.symm hei)).trans z],λb hb=>?_]
  . let e1:=I.tuple_inj hy hq;subst e1;rw[hx]at hyi;cases hyi;rfl
  . let z:=hf b hb;let NT:b<‹s›:=by
     rcases zW0 hb with y | y
     . rw[y];exact elt
     . rw[NW y];erw[o,e2,_]at hit;exact zN0 e2
    rw[aB (zV0 NT)];exact z.1
 done:=by
  intro X hP hw hK hc i NO s σ H E I hf st hg;subst hP hw hK;erw[xs,hq,hx]at hg;let%[its,rv,p|hz]:=I.tuple hq;erw[%[old|he],hit]at st;let hl:=rv.length;exact BY (I.ok.hd hc) he hit p (Array.getElem?_eq_none (by simp;omega)) λh' eb=>%[1|I.turnedL (t':=s.toks) (ch:=[e,it]) (λb o hb eo=>eb b o (λz=>hb (by simp [z])) eo) hf]
 self:=λ_ _ _ _ _ st h=>by
  erw[%[old|he],_]at st;exact jW1 he h
section
variable {X:Cx} {elts:List Expr} {k:Nat} {tpos:Pos}
instance ZiEnumT(K:W.Frag)(R:(It->Hp->Prop))(x:V)(H1:Hp):∀a,x=.ref a->(∃xs,SqT K H1 a xs)->R (Fw K a) H1:=0
def Jp(K:W.Frag)(tl:TE):TI:=λσ H R=>tl σ H λx H1=>ZiEnumT K R x H1
def DF   {p pos:Pos} (hg:Gl X "enumerate") (hm:X.mg "enumerate"=none) (hl:PE X l tl) (hs:starEach [l] X.env=[(false,eval l X.env)]:=by rfl) :
 PI X (.Tuple elts k tpos) (.Call (.Name "enumerate" p) [l] [] pos) (Jp X.K tl):=by
 intro NO s σ H R I h;refine Call_ (ir I hg hm boot_enumerate (zN1 ?_ hs rfl));rw[hs];show wpAny _ _ (spliced ((false,eval l X.env)::backTo pos (starEach [] X.env))) _ _ s;refine qP1 (thn (hl NO s σ H _ I h) λu s1 ⟨x,H1,I1,r1,a,ex,⟨xs,hq⟩,q⟩=>?_);subst ex;cases r1;let%[its,rv,p|hz]:=I1.tuple hq;let alt:=p.lt;refine jB1 ?_;refine yZ p λh' he hit hk=>?_
 refine jW1 he ?_;let I2:Inv X NO σ H1 { s1 with heap:=h' }:=I1.kept (t':=s1.toks) hk;erw[‹s1›+1,[‹s1›+1,‹s1›],_,_,H1,1,I2,xD a _ _ (jX1 (qI1 _)) (zV0 alt) (zV0 (wS1 alt)),%[%[_|he]|hit],λb hb=>?_,q];rcases zW0 hb with z | z
 . rw[z];exact I1.fpOk (qO0 _) (I1.hok.fresh (qO0 _))
 . rw[NW z];exact I1.fpOk (zG0 _) (I1.hok.fresh (zG0 _))
end
def BS{K:W.Frag}{xs:List V}{g:TG}{tb:TS}{D:Ends}{σ:St}{H:Hp}(Pv:Nat->St->Hp->Prop)(h0:Pv 0 σ H)(hl:∀i σ H,i<=xs.length->Pv i σ H->SqT K H a xs)
 (hs:∀i x σ H t,xs[i]?=some x->Pv i σ H->H t=none->g (.ref t) σ (upd H t (.tup [.int i,x])) λσ2 H2=>tb { D with nx:=Pv (i+1),ct:=Pv (i+1),bk:=D.nx } σ2 H2) (hd:∀ σ H,Pv xs.length σ H->D.nx σ H) :
 ∃ W:Nat->Nat->St->Hp->Prop,(∃m,W 0 m σ H)/\∀i m σ H,W i m σ H ->
  ((Fw K a).stop i H/\D.nx σ H)∨((Fw K a).go i H/\∃N:St->Hp->Prop,(∀ σ' H',N σ' H'->∃m',m'<m/\W (i+1) m' σ' H')/\∀x H',(Fw K a).yld i H x H'->g x σ H' λσ2 H2=>tb { D with nx:=N,ct:=N,bk:=D.nx } σ2 H2):=by
 erw[λi m σ H=>m=xs.length-i/\i<=xs.length/\Pv i σ H,%[xs.length,by simp,zU0 _|h0],6];rintro i m σ H ⟨rfl,hi,p⟩;let q:=hl i σ H hi p
 by_cases NT:i<xs.length
 . refine .inr %[%[xs,xs[i],q|by simp [NT]],Pv (i+1),λσ' H' p'=>%[xs.length-(i+1),3,1,NT|p']|λx H' y=>?_];erw[t,1,ht,e]at y;let e':=e xs xs[i] q (by simp [NT]);subst e';exact hs i xs[i] σ H t (by simp [NT]) p ht
 . let e:i=xs.length:=by omega
   subst e;exact .inl %[%[xs,q|zG0 _]|hd σ H p]
def ItV(K:W.Frag)(a:Addr)(xs:List V):It:=%[λi H=>SqL K H a xs/\i<xs.length,λi H y H'=>H'=H/\xs.reverse[i]?=some y|λi _=>xs.length<=i]
def Av{K:W.Frag}(a it:Addr)(xs:List V):Turn P w K tg (ItV K a xs) [it] it (λi h=>i<=xs.length/\h.IsRevIter it a ((xs.length:Int)-1-(i:Int))) where
 mem:=by simp
 obj:=λi h st b hb=>by
  let e:b=it:=by simpa using hb
  subst e;erw[_,o,e,c,d]at st;erw[o,e,λv z=>by rw[d]at z;cases z]
 keep:=λi h h' st k=>%[st.1|st.2.at λo e=>k it #[2] o e]
 item:=by
  intro X hP hw hK hc i NO s σ H E I hf st hg;subst hP hw hK;erw[hq,hi]at hg;let%[its,rv,p|hz]:=I.list hq;let hj:xs.length-1-i<xs.length:=by omega
  let hx:xs[xs.length-1-i]?=some xs[xs.length-1-i]:=zM0 hj;let%[u,hu|ru]:=rv.get hx;let%[f0,f1,f2,f3,f4|f5]:=hf it #[2];erw[_,hit]at st;let e1:((xs.length:Int)-1-(i:Int))=((xs.length-1-i:Nat):Int):=by omega
  rw[e1]at hit;refine wpAny_pyNext_rev_item hit p.isList (x:=u) (by simpa using hu) λh' st' sb=>?_
  let I1:Inv X NO σ H { s with heap:=h' }:=I.turned (t':=s.toks) (λb o hb e=>(sb.2 b hb).trans e) f0 f1 f3 f4 f5;let e2:((xs.length-1-i:Nat):Int)-1=(xs.length:Int)-1-((i+1:Nat):Int):=by omega
  rw[e2]at st';let%[o,e,c|d]:=id st';erw[u,1,wO (s:={ s with heap:=h' }) e c d ⋯ ⟨xs[xs.length-1-i],H,I1,ru,⟨rfl,?_⟩,⟨by omega,st'⟩,λb hb=>(hf b hb).1⟩];rw[jZ0 hi,hx]
 done:=by
  intro X hP hw hK hc i NO s σ H E I hf st hg;subst hP hw hK;let hg:xs.length<=i:=hg;let%[f0,f1,f2,f3,f4|f5]:=hf it #[2];erw[hi,hit]at st;let e1:(xs.length:Int)-1-(i:Int)=-1:=by omega
  rw[e1]at hit;exact wpAny_pyNext_rev_end (I.ok.hd hc) hit λh' eb=>%[1|I.turned (t':=s.toks) (λb o hb e=>eb b o hb e) f0 f1 f3 f4 f5]
 self:=λ_ _ _ _ _ st h=>wpAny_pyIter_revIter st.2 h
def ET{K:W.Frag}{xs:List V}{g:TG}{tb:TS}{D:Ends}{σ:St}{H:Hp}(Pv:Nat->St->Hp->Prop)(h0:Pv 0 σ H)(hl:∀i σ H,i<=xs.length->Pv i σ H->SqL K H a xs)
 (hs:∀i x σ H,i<xs.length->xs.reverse[i]?=some x->Pv i σ H->g x σ H λσ2 H2=>tb { D with nx:=Pv (i+1),ct:=Pv (i+1),bk:=D.nx } σ2 H2) (hd:∀ σ H,Pv xs.length σ H->D.nx σ H) :
 ∃ W:Nat->Nat->St->Hp->Prop,(∃m,W 0 m σ H)/\∀i m σ H,W i m σ H ->
  ((ItV K a xs).stop i H/\D.nx σ H)∨((ItV K a xs).go i H/\∃N:St->Hp->Prop,(∀ σ' H',N σ' H'->∃m',m'<m/\W (i+1) m' σ' H')/\∀x H',(ItV K a xs).yld i H x H'->g x σ H' λσ2 H2=>tb { D with nx:=N,ct:=N,bk:=D.nx } σ2 H2):=by
 erw[λi m σ H=>m=xs.length-i/\i<=xs.length/\Pv i σ H,%[xs.length,by simp,zU0 _|h0],6];rintro i m σ H ⟨rfl,hi,p⟩;let q:=hl i σ H hi p
 by_cases NT:i<xs.length
 . refine .inr %[%[q|NT],Pv (i+1),λσ' H' p'=>%[xs.length-(i+1),3,1,NT|p']|λx H' y=>?_];erw[e,ex]at y;subst e;exact hs i x σ _ NT ex p
 . let e:i=xs.length:=by omega
   subst e;exact .inl %[zG0 _|hd σ H p]
def Bx {X:Cx} (K:W.Frag) (h:X.K=K:=by rfl):MtR X "list.count" (rCountL K):=by subst h;exact wC
section
variable {X:Cx} {o e:Expr} {es:List Expr} {to ta:TE} {t:TA} {T id:String} {name f:Str} {r:V->List V->Hp->VK->Prop} {NY NU pos:Pos}
def IU (K:W.Frag) (pa:PlainAttrs T) (slot:Slot T name id) (hty:typeOf (.builtin id)=pure (.type "method_descriptor")) (hm:MtR X id r) (ho:PE X o to) (ha:PA X (e::es) t) (hK:X.K=K:=by rfl)
 (hbase:attributeBase o name X.env (eval o X.env)=eval o X.env:=by rfl)
 (hfew:((backTo NU (starEach (e::es) X.env)).all (λx=>!x.1)&&(backToKw NU (keywordEach [] X.env)).all (λx=>x.1.isSome)&&decide ((e::es).length+([]:List Keyword).length+(if([]:List Keyword).isEmpty then 0 else 1)<30))=true:=by rfl)
 (hline:(NY.endLine==NU.line)=true:=by rfl) (hs:starEach (e::es) X.env=(false,eval e X.env)::starEach es X.env:=by rfl) (hplain:(backTo NU (starEach es X.env)).any (·.1)=false:=by rfl) :
 PE X (.Call (.Attribute o name NY) (e::es) [] NU) (tBM K T r to t):=by subst hK;exact eC pa slot hty hm ho ha hbase hfew hline hs hplain
def jD(K:W.Frag)(he:PE X e ta)(hK:X.K=K:=by rfl)(hb:attributeBase e f X.env (eval e X.env)=eval e X.env:=by rfl):PE X (.Attribute e f pos) (tFld K ta f):=by subst hK;exact ay he hb
end
@[reducible] def cxCompO (X:Cx) (x:Str) (N:List Str) (scope:Scope) (cl:List (Str×Addr)) (s:Shared) (H:Hp) (fp:List Addr):Cx where
 prog:=X.prog
 w:=X.w
 K:=X.K
 mg:=X.mg
 base:=X.base
 A:=X.A
 N:=x::N
 s₀:=s
 H₀:=H
 env:=compEnvC scope ((x,‹s›+1)::cl) ‹s› X.env
 outer:=X.stack
 stack:=X.stack
 ex:=fp
 fn:=λy=>y==x
 calm:=X.calm
 pn:=[]
 xe:=λ_ _=>False
def CompScope.four{X:Cx}{x y z u v:Str}{scope:Scope}{k l m n:Nat}{c d e g:Addr}{cl:List (Str×Addr)}(c1:closureFor scope X.env=pure cl)(c2:∀y∈scope.names,y.2≠.cell)(c3:scope.kind=.function)(c4:∀y∈scope.names,y.2=.local->scope.names.lookup y.1=some .local)
 (c5:scope.names.lookup x=some .local) (nd:[x,y,z,u,v].Nodup) (hcl:cl=[(y,c),(z,d),(u,e),(v,g)]) (hc:X.env.cells.lookup y=some c) (hd:X.env.cells.lookup z=some d) (he:X.env.cells.lookup u=some e) (hg:X.env.cells.lookup v=some g) (c6:((relabel scope X.env).names.all λp=>!(p.2==.cell||p.2==.free)||(cl.lookup p.1).isSome)=true)
 (hr:(relabel scope X.env).names.lookup y=some .cell) (hk:X.N[k]?=some y) (hs:X.env.scope.names.lookup y=some .cell)
 (hr2:(relabel scope X.env).names.lookup z=some .cell) (hk2:X.N[l]?=some z) (hs2:X.env.scope.names.lookup z=some .cell)
 (hr3:(relabel scope X.env).names.lookup u=some .cell) (hk3:X.N[m]?=some u) (hs3:X.env.scope.names.lookup u=some .cell)
 (hr4:(relabel scope X.env).names.lookup v=some .cell) (hk4:X.N[n]?=some v) (hs4:X.env.scope.names.lookup v=some .cell):CompScope X x [y,z,u,v] [k,l,m,n] scope cl where
 clos:=c1
 nocell:=c2
 kind:=c3
 names:=c4
 own:=c5
 nd:=nd
 sub:=λp hp=>by
  subst hcl;rcases zW0 hp with h | h
  . rw[h];assumption
  . rcases zW0 h with h | h
    . rw[h];assumption
    . rcases zW0 h with h | h
      . rw[h];assumption
      . rw[NW h];assumption
 has:=c6
 outs:=λj w h=>by
  let nyz:y≠z:=λe=>by simp [e]at nd
  let nyu:y≠u:=λe=>by simp [e]at nd
  let nyv:y≠v:=λe=>by simp [e]at nd
  let nzu:z≠u:=λe=>by simp [e]at nd
  let nzv:z≠v:=λe=>by simp [e]at nd
  let nuv:u≠v:=λe=>by simp [e]at nd
  subst hcl
  match j,h with
  | 0,h=>
    let e:y=w:=zT0 h;subst e;erw[hr,k,c,1,hk,by simp [List.lookup],hs]
  | 1,h=>
    let e:z=w:=zT0 h;subst e
    have:(z==y)=false:=by simpa using Ne.symm nyz
    erw[hr2,l,d,1,hk2,by simp [List.lookup,this],hs2]
  | 2,h=>
    let ew:u=w:=zT0 h;subst ew;let h1:(u==y)=false:=by simpa using Ne.symm nyu
    let h2:(u==z)=false:=by simpa using Ne.symm nzu
    erw[hr3,m,e,1,hk3,by simp [List.lookup,h1,h2],hs3]
  | 3,h=>
    let ew:v=w:=zT0 h;subst ew;let h1:(v==y)=false:=by simpa using Ne.symm nyv
    let h2:(v==z)=false:=by simpa using Ne.symm nzv
    let h3:(v==u)=false:=by simpa using Ne.symm nuv
    erw[hr4,n,g,1,hk4,by simp [List.lookup,h1,h2,h3],hs4]
  | j+4,h=>simp at h
end L2
namespace L2
open PySem PySem.Spec PyProof.Rows PySem.Builtin PySem.Builtin.Str
section
variable {prog:Program} {w:World} {A:Around} {E:Value->Shared->Prop} {s:Shared} {Q:Value->Shared->Prop} {x:PySem.Str} {t:Tok}
def xH{y:PySem.Str}{u:Tok}(hy:(y.length==0)=false)
 (h:∀l k,l.map (·.1)=Txt.split x y->Q (.ref ‹s›) { s with heap:=s.heap.push { cls:=.type "list",data:=.seq (strValues l).toArray },toks:=k })
 (hsz:x.length+2<=sizeLine):wpAny (model prog w) A (call (.builtin "str.split") [.str x t,.str y u]) Q E s:=by
 let hn:(partsBetween x (occurrences x y 0 x.length (x.length+1)) y.length).length<=sizeLine:=by
  let e1:=StrLaws.occ_length_le x y 0 x.length (x.length+1);rw[length_partsBetween];omega
 cases h1:(decide (x.length<y.length)||decide (strKind x<strKind y))
 . cases hf:(occurrences x y 0 x.length (x.length+1)).isEmpty
   . refine qW1 vB0 (wF0 _ _ _) wT1 (wO0 _ _) (meets_str_split_sep x y t u h1 hy hf #[0] hn) ?_;show wants Q E _ { s with toks:=_,heap:=s.heap.push { cls:=.type "list",data:=.seq (strsFrom s.toks (partsBetween x (occurrences x y 0 x.length (x.length+1)) y.length)).toArray } };rw[strsFrom_eq];exact h (numbered s.toks _) _ ((numbered_texts _ _).trans ((NP (wJ1 h1)).trans (NP (wJ1 hf))).symm)
   . exact qW1 vB0 (wF0 _ _ _) wT1 (wO0 _ _) (meets_str_split_not_found x y t u h1 hy hf)
      (h [(x,t)] s.toks ((NP (wJ1 h1)).trans (NQ hf)).symm)
 . exact qW1 vB0 (wF0 _ _ _) wT1 (wO0 _ _) (meets_str_split_cannot_occur x y t u h1)
    (h [(x,t)] s.toks (NQ h1).symm)
end
def zC:∀l:List (PySem.Str×Tok),Vals ((l.map (·.1)).map V.str) (strValues l)
 | []=>.nil
 | (x,t)::r=>.cons %[t|1] (zC r)
section
variable {X:Cx}
instance rSplit(x:V)(vs:List V)(H:Hp)(Q:VK):∀z u,x=.str z->vs=[.str u]->0<u.length->z.length<=100000->(Txt.split z u).length<=100000->(∀p,H p=none->Q (.ref p) (upd H p (.lst ((Txt.split z u).map V.str)))):=0
def Et:MtR X "str.split" rSplit:=by
 intro NO s σ H x vs v us Q I rx rv h;erw[z,u,1,1,hu,hz,hl,q]at h;erw[t,1]at rx;erw[w',1,t',1]at rv.one;let sl:sizeLine=16777216:=sizeLine_eq;refine xH (by rw[beq_eq_false_iff_ne];omega) (λl k e=>?_) #[0];let r:=zC l;rw[e]at r;erw[.ref _,_,I.lnew (t':=k) r (by rw[zF0];omega),1,q _ I.fresh]
def ly:gR X (.type "int") (λxs H Q=>∃x n,xs=[.str x]/\PySem.intText? x=some n/\x.length<=640/\Q (.int n) H):=by
 intro NO s σ H xs us Q I r h;erw[x,n,1,e,hl,q]at h;let%[u,1,t|1]:=jQ r;exact PySem.W.KIN.call_text e hl %[.int n,H,I.tok _,%[|0]|q]
end
end L2
namespace HT
open PySem PyProof.Rows
section
variable {prog:Program} {w:World} {A:Around} {E:Value->Shared->Prop} {s:Shared}
def getItem_tuple_whole{t sl:Addr}{items:Array Value}{vl vu:Value}{lo hi:Option Int}{Q:Value->Shared->Prop}(ht:IsTup s.heap t items)(hs:s.heap.IsSliceOf sl vl vu .none)(pl:IsPart vl lo)(pu:IsPart vu hi)
 (hw:sIx items.size 0 lo=0/\sIx items.size items.size hi=items.size) (h:Q (.ref t) s):wpAny (model prog w) A (getItem (.ref t) (.ref sl)) Q E s:=by
 let%[os,hos,hcs|hds]:=id hs;let hTs:s.TypeIs (.ref sl) "slice":=%[os,hos|hcs]
 unfold getItem
 try with_reducible refine jM0 ?_
 first | refine zE0 (zI0 ?_) | skip
 refine zE0 (wpAny_sequenceKey ht.typeIs ⋯ ?_);refine zE0 (zQ1 (name:=Str.ofString "__getitem__") ht.typeIs qL1
  (qF1 qL1 ht.typeIs entry_tuple_getitem ?_ (args_tuple_getitem _ _)))
 show wpAny _ _ (Builtin.Tuple.tupleItemsOf (.ref t) >>= _) _ _ s;refine zE0 (tupleItemsOf_ ht ?_);refine zE0 (wpAny_typeOf hTs ?_);rw[NQ ⋯];refine zE0 (iR hs pl pu ?_);let hyes:(((sIx items.size 0 lo:Nat):Int)==0&&(1:Int)==1&&(sIx items.size items.size hi-sIx items.size 0 lo)==items.size)=true:=by
  rw[hw.1,hw.2,jZ1]
  simp
 show wpAny _ _ (if(((sIx items.size 0 lo:Nat):Int)==0&&(1:Int)==1&&(sIx items.size items.size hi-sIx items.size 0 lo)==items.size)=true then _ else _) _ _ s;rw[NQ hyes];refine zE0 ?_;unfold Builtin.Tuple.tupleIsExact;refine zE0 (wpAny_typeOf ht.typeIs (zI0 ?_));rw[NQ ⋯]
 first
  | exact zE0 (wT0 (zI0 ⟨_,rfl,zI0 h⟩))
  | (refine zI0 ?_;erw[0,zI0 h])
  | (refine zE0 (zI0 ?_);refine zI0 ?_;erw[0,zI0 h])
  | (refine zE0 (zI0 ?_);refine zE0 (zI0 ?_);refine zI0 ?_;erw[0,zI0 h])
  | (refine zE0 (zE0 (zI0 ?_));refine zI0 ?_;erw[0,zI0 h])
end
end HT
namespace L2
open PySem PySem.Spec PyProof.Rows
section
variable {X:Cx}
instance rSlTW(K:W.Frag)(x:V)(lo:Option Int)(hi:Option Int)(H:Hp)(Q:VK):∀a xs,x=.ref a->SqT K H a xs->HT.sIx xs.length 0 lo=0/\HT.sIx xs.length xs.length hi=xs.length->Q (.ref a) H:=0
def Gc:SlR X (rSlTW X.K):=by
 intro NO s σ H x v vl vu lo hi sl Q I rx hs pl pu h;erw[a,xs,1,hx,hw,q]at h;cases rx;let%[its,r,ht|hz]:=I.tuple hx;let hlen:its.toArray.size=xs.length:=by rw[zS0];exact r.length.symm
 erw["tuple",_,PyProof.Rows.slot_tuple_getitem.lookup,ht.typeIs,6];exact HT.getItem_tuple_whole ht hs pl pu (by rw[hlen];exact hw) ⟨.ref a,H,I,rfl,q⟩
def yX{xs:List V}{lo hi:Option Int}(hw:HT.sIx xs.length 0 lo=0/\HT.sIx xs.length xs.length hi=xs.length):iP xs lo hi=xs:=by
 unfold iP;rw[hw.1,hw.2,jH0,jZ1,qF0]
instance rSlTA(K:W.Frag)(x:V)(lo:Option Int)(hi:Option Int)(H:Hp)(Q:VK):∀a xs,x=.ref a->SqT K H a xs->H a=some (.tup xs)->(∀p H',Same H H'->H' p=some (.tup (iP xs lo hi))->Q (.ref p) H'):=0
def zE:SlR X (rSlTA X.K):=by
 intro NO s σ H x v vl vu lo hi sl Q I rx hs pl pu h;erw[a,xs,1,hx,ha,q]at h
 by_cases hw:HT.sIx xs.length 0 lo=0/\HT.sIx xs.length xs.length hi=xs.length
 . exact Gc NO s σ H _ v vl vu lo hi sl Q I rx hs pl pu %[a,xs,1,hx,hw|q a H (Same.refl _) (by rw[yX hw];exact ha)]
 . exact qC NO s σ H _ v vl vu lo hi sl Q I rx hs pl pu %[a,xs,1,hx,hw|λp hp=>q p _ (zC0 hp _) aJ]
end
def SqIt(h:Heap)(i l:Addr)(k:Nat)(xs:Array Value):Prop:=(h.IsListIter i l k/\h.IsList l xs)∨(h.IsTupleIter i l k/\h.IsTuple l xs)
def SqIt.at{h':Heap}(q:SqIt h i l k xs)(e1:∀o,h.get? i=some o->h'.get? i=some o)(e2:∀o,h.get? l=some o->h'.get? l=some o):SqIt h' i l k xs:=by
 rcases q with⟨a,b⟩ | ⟨a,b⟩
 . exact .inl %[a.at e1|b.at e2]
 . exact .inr %[a.at e1|b.at e2]
def SqIt.ext{h':Heap}{c:Addr}(q:SqIt h i l k xs)(e:Heap.ExtBut c h h')(n1:i≠c)(n2:l≠c):SqIt h' i l k xs:=q.at (λo z=>e _ o n1 z) (λo z=>e _ o n2 z)
section
variable {prog:Program} {w:World} {A:Around} {E:Value->Shared->Prop} {s:Shared}
def uc{x:Value}{Q:Value->Shared->Prop}(q:SqIt s.heap i l k xs)(n:l≠i)(hx:xs[k]?=some x)
 (hQ:∀h',SqIt h' i l (k+1) xs->Heap.SameBut i s.heap h'->Q x { s with heap:=h' }):wpAny (model prog w) A (Builtin.SmallTypes.nextOf (.ref i)) Q E s:=by
 rcases q with⟨a,b⟩ | ⟨a,b⟩
 . exact wpAny_nextOf_list_item a b hx λh' a' e=>hQ h' (.inl %[a'|b.extBut e.extBut n]) e
 . exact zu a b hx λh' a' e=>hQ h' (.inr %[a'|b.extBut e.extBut n]) e
def CT{Q:Value->Shared->Prop}(hh:A.handled=none)(q:SqIt s.heap i l k xs)(hx:xs[k]?=none)
 (hE:∀h' e,Heap.ExtBut i s.heap h'->(∃o,h'.get? e=some o/\o.cls=.type "StopIteration")->E (.ref e) { s with heap:=h' }):wpAny (model prog w) A (Builtin.SmallTypes.nextOf (.ref i)) Q E s:=by
 rcases q with⟨a,b⟩ | ⟨a,b⟩
 . exact wpAny_nextOf_list_end hh a b hx hE
 . exact xF hh a b hx hE
def Fz{z TI TO i1 i2 l1 l2:Addr}{x y a b:Value}{Q:Option Value->Shared->Prop}(D:ZipApart z TI TO i1 i2 l1 l2)
 (hz:IsZip s.heap z TI TO .none) (hTI:IsPair s.heap TI (.ref i1) (.ref i2)) (hTO:IsPair s.heap TO a b) (h1:SqIt s.heap i1 l1 k1 xs) (h2:SqIt s.heap i2 l2 k2 ys) (hx:xs[k1]?=some x) (hy:ys[k2]?=some y)
 (hQ:∀h',IsZip h' z TI TO (rawInt ‹s›)->IsPair h' TO x y->SqIt h' i1 l1 (k1+1) xs->SqIt h' i2 l2 (k2+1) ys->IsPair h' ‹s› x y ->
  (∀c o,c≠z->c≠TO->c≠i1->c≠i2->s.heap.get? c=some o->h'.get? c=some o)->Q (some (.ref ‹s›)) { s with heap:=h' }) :
 wpAny (model prog w) A (pyNext (.ref z)) Q E s:=by
 let hT:s.TypeIs (.ref z) "zip":=%[_,hz|1]
 unfold pyNext;refine zE0 (jU1 (zQ1 (name:=Str.ofString "__next__") hT wK0 (qF1 wK0 hT F.entry_zip_next ?_ (F.args_zip_next_1 _))));show wpAny _ _ (field (.ref z) 2 >>= _) _ _ _;refine zE0 (zR1 hz rfl (x:=.bool false) rfl ?_);show wpAny _ _ (field (.ref z) 3 >>= _) _ _ _;refine zE0 (zR1 hz rfl (x:=.ref TI) rfl (zE0 (qG1 hTI rfl ?_)));show wpAny _ _ (Builtin.SmallTypes.ownedTupleIsFree (.ref z) >>= _) _ _ _;refine zE0 ?_;unfold Builtin.SmallTypes.ownedTupleIsFree;refine zE0 (zR1 hz rfl (x:=.none) rfl (zI0 ?_));simp only[vF1];refine zE0 (wT0 (zE0 (zR1 hz rfl (x:=.ref TO) rfl (zE0 (qC1 hz #[2] λha za sa=>zE0 ?_)))))
 replace za:IsZip ha z TI TO .ellipsis:=za
 simp only[List.zipIdx_cons,List.zipIdx_nil,List.forIn_cons,List.forIn_nil];refine zE0 (zE0 (wY0 ?_));show wpAny _ _ (Builtin.SmallTypes.nextOf (.ref i1) >>= _) _ _ _;refine zE0 (uc (h1.ext sa.extBut D.i1z D.l1z) D.l1i1 hx λhb q1 sb=>zI0 ?_);let TOb:IsPair hb TO a b:=sb.extBut _ _ D.TOi1 (sa.extBut _ _ D.TOz hTO);refine zE0 (qG1 TOb rfl (zE0 (wE0 TOb λhc TOc sc=>?_)))
 replace TOc:IsPair hc TO x b:=TOc
 refine zE0 (jQ1 (zI0 (zE0 (zE0 (wY0 ?_)))));show wpAny _ _ (Builtin.SmallTypes.nextOf (.ref i2) >>= _) _ _ _;refine zE0 (uc (((h2.ext sa.extBut D.i2z D.l2z).ext sb.extBut D.i12.symm D.l2i1).ext sc.extBut D.TOi2.symm D.l2TO) D.l2i2 hy λhd q2 sd=>zI0 ?_);let TOd:IsPair hd TO x b:=sd.extBut _ _ D.TOi2 TOc;refine zE0 (qG1 TOd rfl (zE0 (wE0 TOd λhe TOe se=>?_)))
 replace TOe:IsPair he TO x y:=TOe
 refine zE0 (jQ1 (zI0 (zI0 (zE0 (qG1 TOe rfl (zE0 (wpAny_newTuple ?_)))))));let sz:he.objs.size=‹s›:=by rw[se.1,sd.1,sc.1,sb.1,sa.1]
 let ze:IsZip he z TI TO .ellipsis:=se.extBut _ _ D.TOz.symm (sd.extBut _ _ D.i2z.symm (sc.extBut _ _ D.TOz.symm (sb.extBut _ _ D.i1z.symm za)));let ke:∀c o,c≠z->c≠TO->c≠i1->c≠i2->s.heap.get? c=some o->he.get? c=some o:=λc o c1 c2 c3 c4 e=>se.extBut _ _ c2 (sd.extBut _ _ c4 (sc.extBut _ _ c2 (sb.extBut _ _ c3 (sa.extBut _ _ c1 e))))
 let q1e:=((q1.ext sc.extBut D.TOi1.symm D.l1TO).ext sd.extBut D.i12 D.l1i2).ext se.extBut D.TOi1.symm D.l1TO;let q2e:=q2.ext se.extBut D.TOi2.symm D.l2TO;let zlt:z<he.objs.size:=zN0 ze;show wpAny _ _ (Builtin.SmallTypes.ownedTupleHandOut (.ref z) (.ref he.objs.size) >>= _) _ _ _;refine zE0 ?_;unfold Builtin.SmallTypes.ownedTupleHandOut;let zf:IsZip (he.push { cls:=.type "tuple",data:=.seq #[x,y] }) z TI TO .ellipsis:=zQ0 _ ze;refine zE0 (qC1 zf #[2] λhg zg sg=>?_)
 replace zg:IsZip hg z TI TO (rawInt he.objs.size):=zg
 refine qC1 zg #[2] λhi zi si=>?_
 replace zi:IsZip hi z TI TO (rawInt he.objs.size):=zi
 let up:∀c o,c≠z->he.get? c=some o->hi.get? c=some o:=λc o c1 e=>si.extBut _ _ c1 (sg.extBut _ _ c1 (zQ0 _ e))
 let Ti:IsPair hi he.objs.size x y:=si.extBut _ _ (jX1 zlt) (sg.extBut _ _ (jX1 zlt) (qB0 _ rfl));rw[sz]at zi Ti;refine zI0 %[0|zI0 ?_];show Q (some (.ref he.objs.size)) _;rw[sz];exact hQ hi zi (up _ _ D.TOz TOe) (q1e.at (λo e=>up _ o D.i1z e) (λo e=>up _ o D.l1z e)) (q2e.at (λo e=>up _ o D.i2z e) (λo e=>up _ o D.l2z e)) Ti λc o c1 c2 c3 c4 e=>up c o c1 (ke c o c1 c2 c3 c4 e)
def Iq{z TI TO i1 i2 l1 l2:Addr}{a b:Value}{Q:Option Value->Shared->Prop}(hh:A.handled=none)(D:ZipApart z TI TO i1 i2 l1 l2)
 (hz:IsZip s.heap z TI TO .none) (hTI:IsPair s.heap TI (.ref i1) (.ref i2)) (hTO:IsPair s.heap TO a b) (h1:SqIt s.heap i1 l1 k1 xs) (h2:SqIt s.heap i2 l2 k2 ys) (hend:xs[k1]?=none∨ys[k2]?=none)
 (hQ:∀h',(∀c o,c≠z->c≠TO->c≠i1->c≠i2->s.heap.get? c=some o->h'.get? c=some o)->Q none { s with heap:=h' }):wpAny (model prog w) A (pyNext (.ref z)) Q E s:=by
 let hT:s.TypeIs (.ref z) "zip":=%[_,hz|1]
 unfold pyNext;let hh1:A.in1.handled=none:=hh
 suffices hs:wpAny (model prog w) A.in1 (Builtin.«zip.__next__» %[[.ref z]|[]]) (λfin s'=>∃v,fin=.done (.ret v)/\False)
  (λv s'=>∃h' e,v=.ref e/\s'={ s with heap:=h' }/\(∀c o,c≠z->c≠TO->c≠i1->c≠i2->s.heap.get? c=some o->h'.get? c=some o)/\∃o,h'.get? e=some o/\o.cls=.type "StopIteration") s by
  refine zE0 (jU1 (zQ1 (name:=Str.ofString "__next__") hT wK0 (qF1 wK0 hT F.entry_zip_next (wR1 hs (λ_ _ h=>by erw[_,_,f]at h;exact f.elim) ?_) (F.args_zip_next_1 _))));rintro _ _ ⟨h',e,rfl,rfl,hk,o,ho,hc⟩;exact zE0 (wC0 (T:="StopIteration") (b:=true) %[o,ho|hc] isSubtype_stop (zI0 (hQ _ hk)))
 show wpAny _ _ (field (.ref z) 2 >>= _) _ _ _;refine zE0 (zR1 hz rfl (x:=.bool false) rfl ?_);show wpAny _ _ (field (.ref z) 3 >>= _) _ _ _;refine zE0 (zR1 hz rfl (x:=.ref TI) rfl (zE0 (qG1 hTI rfl ?_)));show wpAny _ _ (Builtin.SmallTypes.ownedTupleIsFree (.ref z) >>= _) _ _ _;refine zE0 ?_;unfold Builtin.SmallTypes.ownedTupleIsFree;refine zE0 (zR1 hz rfl (x:=.none) rfl (zI0 ?_));simp only[vF1];refine zE0 (wT0 (zE0 (zR1 hz rfl (x:=.ref TO) rfl (zE0 (qC1 hz #[2] λha za sa=>zE0 ?_)))))
 replace za:IsZip ha z TI TO .ellipsis:=za
 simp only[List.zipIdx_cons,List.zipIdx_nil,List.forIn_cons,List.forIn_nil];refine zE0 (zE0 (wY0 ?_));show wpAny _ _ (Builtin.SmallTypes.nextOf (.ref i1) >>= _) _ _ _;cases hx:xs[k1]? with
 | none=>
   refine zE0 (CT hh1 (h1.ext sa.extBut D.i1z D.l1z) hx λhb e sb ⟨oe,hoe,hce⟩=>?_);let zb:IsZip hb z TI TO .ellipsis:=sb _ _ D.i1z.symm za;let ez:e≠z:=λx=>by subst x;rw[zb]at hoe;cases hoe;simp at hce
   exact qC1 zb #[2] λhc _ sc=>%[hc,e,1,1,λc o c1 _ c3 _ x=>sc.extBut _ _ c1 (sb _ _ c3 (sa.extBut _ _ c1 x)),oe,sc.extBut _ _ ez hoe|hce]
 | some x=>
   let hy:ys[k2]?=none:=by
    rcases hend with h | h
    . rw[hx]at h;cases h
    . exact h
   refine zE0 (uc (h1.ext sa.extBut D.i1z D.l1z) D.l1i1 hx λhb q1 sb=>zI0 ?_);let TOb:IsPair hb TO a b:=sb.extBut _ _ D.TOi1 (sa.extBut _ _ D.TOz hTO);refine zE0 (qG1 TOb rfl (zE0 (wE0 TOb λhc TOc sc=>?_)));refine zE0 (jQ1 (zI0 (zE0 (zE0 (wY0 ?_)))));show wpAny _ _ (Builtin.SmallTypes.nextOf (.ref i2) >>= _) _ _ _;refine zE0 (CT hh1 (((h2.ext sa.extBut D.i2z D.l2z).ext sb.extBut D.i12.symm D.l2i1).ext sc.extBut D.TOi2.symm D.l2TO) hy λhd e sd ⟨oe,hoe,hce⟩=>?_);let zd:IsZip hd z TI TO .ellipsis:=sd _ _ D.i2z.symm (sc.extBut _ _ D.TOz.symm (sb.extBut _ _ D.i1z.symm za));let ez:e≠z:=λx=>by subst x;rw[zd]at hoe;cases hoe;simp at hce
   exact qC1 zd #[2] λhe _ se=>%[he,e,1,1,λc o c1 c2 c3 c4 x=>se.extBut _ _ c1 (sd _ _ c4 (sc.extBut _ _ c2 (sb.extBut _ _ c3 (sa.extBut _ _ c1 x)))),oe,se.extBut _ _ ez hoe|hce]
end
def itO (b:Bool) (l:Addr):Obj:={ cls:=.type (if b=true then "list_iterator" else "tuple_iterator"),data:=.fields #[.ref l,.int 0 0] }
def SqO(b:Bool)(h:Heap)(l:Addr)(xs:Array Value):Prop:=if b=true then h.IsList l xs else h.IsTuple l xs
abbrev zqH (h:Heap) (b1 b2:Bool) (l1 l2:Addr):Heap:=((((h.push (itO b1 l1)).push (itO b2 l2)).push { cls:=.type "tuple",data:=.seq #[.ref h.objs.size,.ref (h.push (itO b1 l1)).objs.size] }).push { cls:=.type "tuple",data:=.seq #[.none,.none] }).push
 { cls:=.type "zip",data:=.fields #[.none,.bool false,.bool false,.ref ((h.push (itO b1 l1)).push (itO b2 l2)).objs.size,.ref (((h.push (itO b1 l1)).push (itO b2 l2)).push { cls:=.type "tuple",data:=.seq #[.ref h.objs.size,.ref (h.push (itO b1 l1)).objs.size] }).objs.size] }
abbrev zqA (h:Heap) (b1 b2:Bool) (l1 l2:Addr):Addr:=((((h.push (itO b1 l1)).push (itO b2 l2)).push { cls:=.type "tuple",data:=.seq #[.ref h.objs.size,.ref (h.push (itO b1 l1)).objs.size] }).push { cls:=.type "tuple",data:=.seq #[.none,.none] }).objs.size
def CU(q:SqO b h l xs)(o:Obj):SqO b (h.push o) l xs:=by
 cases b
 . exact Heap.IsTuple.at q λo' e=>zQ0 _ e
 . exact Heap.IsList.push q _
def vR{prog:Program}{w:World}{A:Around}{E:Value->Shared->Prop}{s:Shared}{Q:Value->Shared->Prop}(q:SqO b s.heap l xs)(hQ:Q (.ref ‹s›) { s with heap:=s.heap.push (itO b l) }) :
 wpAny (model prog w) A (pyIter (.ref l)) Q E s:=by
 cases b
 . exact jI1 (t:=l) (items:=xs) q hQ
 . exact jB0 (l:=l) (items:=xs) q hQ
set_option maxHeartbeats 1000000 in
def Ex(b1 b2:Bool)(l1 l2:Addr)(xs ys:Array Value) :
 Meets (Builtin.«zip.__new__» %[[.type "zip",.ref l1,.ref l2]|[]]) (λ_ R s=>SqO b1 s.heap l1 xs/\SqO b2 s.heap l2 ys/\
  R (.ok (.ret (.ref (zqA s.heap b1 b2 l1 l2)))) { s with heap:=zqH s.heap b1 b2 l1 l2 }):=
 .of_wp λprog w A R s h=>by
  erw[hp,g,d,tk,os]at s;erw[hl1,hl2,h]at h;let hsub:=sub_zip;let hL1:SqO b1 (Shared.heap %[hp,g,d,tk|os]) l1 xs:=hl1;let hL2:SqO b2 (Shared.heap ⟨hp.push (itO b1 l1),g,d,tk,os⟩) l2 ys:=CU hl2 _
  wp_walk using vR hL1,vR hL2
  erw[0,h]
section
variable {prog:Program} {w:World} {A:Around} {E:Value->Shared->Prop} {s:Shared}
def EK{h':Heap}{n:Addr}(e:h'.get? n=some (itO b l))(q:SqO b h l xs)(k:∀o,h.get? l=some o->h'.get? l=some o):SqIt h' n l 0 xs:=by
 cases b
 . exact .inr %[%[_,e,1|1]|Heap.IsTuple.at q k]
 . exact .inl %[%[_,e,1|1]|Heap.IsList.at q k]
def Hz{Q:Value->Shared->Prop}(hl1:SqO b1 s.heap l1 xs)(hl2:SqO b2 s.heap l2 ys)
 (h:∀h',IsZip h' (‹s›+4) (‹s›+2) (‹s›+3) .none->IsPair h' (‹s›+2) (.ref ‹s›) (.ref (‹s›+1)) ->
  IsPair h' (‹s›+3) .none .none->SqIt h' ‹s› l1 0 xs->SqIt h' (‹s›+1) l2 0 ys ->
  (∀c o,s.heap.get? c=some o->h'.get? c=some o)->Q (.ref (‹s›+4)) { s with heap:=h' }) :
 wpAny (model prog w) A (call (.type "zip") [.ref l1,.ref l2]) Q E s:=by
 refine callType_new F.called_zip ⋯ (F.typeCall_zip_2 _ _) (F.newCall_zip_2 _ _) (λobj=>F.args_object_init_3 obj _ _) F.entry_zip_new (Ex b1 b2 l1 l2 xs ys) %[hl1,hl2|6];let z1:∀(h:Heap)(o:Obj),(h.push o).objs.size=h.objs.size+1:=λh o=>jP0 ..
 let up:∀(h:Heap)(o:Obj)(c:Addr)(u:Obj),h.get? c=some u->(h.push o).get? c=some u:=λh o c u e=>zQ0 _ e
 let top:∀(h:Heap)(o:Obj)(n:Nat),o.isFreed=false->h.objs.size=n->(h.push o).get? n=some o:=λh o n f e=>by rw[←e];exact qB0 _ f
 let f1:∀b l,(itO b l).isFreed=false:=λ_ _=>rfl
 show _/\_;let g1:(zqH s.heap b1 b2 l1 l2).get? ‹s›=some (itO b1 l1):=up _ _ _ _ (up _ _ _ _ (up _ _ _ _ (up _ _ _ _ (top _ _ _ (f1 _ _) rfl))));let g2:(zqH s.heap b1 b2 l1 l2).get? (‹s›+1)=some (itO b2 l2):=up _ _ _ _ (up _ _ _ _ (up _ _ _ _ (top _ _ _ (f1 _ _) (z1 _ _))));let g3:IsPair (zqH s.heap b1 b2 l1 l2) (‹s›+2) (.ref ‹s›) (.ref (‹s›+1)):=by
  have:=up _ { cls:=.type "zip",data:=.fields #[.none,.bool false,.bool false,.ref ((s.heap.push (itO b1 l1)).push (itO b2 l2)).objs.size,.ref (((s.heap.push (itO b1 l1)).push (itO b2 l2)).push { cls:=.type "tuple",data:=.seq #[.ref ‹s›,.ref (s.heap.push (itO b1 l1)).objs.size] }).objs.size] } _ _ (up _ { cls:=.type "tuple",data:=.seq #[.none,.none] } _ _ (top ((s.heap.push (itO b1 l1)).push (itO b2 l2)) { cls:=.type "tuple",data:=.seq #[.ref ‹s›,.ref (s.heap.push (itO b1 l1)).objs.size] } (‹s›+2) rfl (by rw[z1,z1])))
  exact this.trans (by rw[z1])
 let g4:IsPair (zqH s.heap b1 b2 l1 l2) (‹s›+3) .none .none:=up _ _ _ _ (top _ _ _ rfl (by rw[z1,z1,z1]));let g5:IsZip (zqH s.heap b1 b2 l1 l2) (‹s›+4) (‹s›+2) (‹s›+3) .none:=by
  have:=top ((((s.heap.push (itO b1 l1)).push (itO b2 l2)).push { cls:=.type "tuple",data:=.seq #[.ref ‹s›,.ref (s.heap.push (itO b1 l1)).objs.size] }).push { cls:=.type "tuple",data:=.seq #[.none,.none] })
   { cls:=.type "zip",data:=.fields #[.none,.bool false,.bool false,.ref ((s.heap.push (itO b1 l1)).push (itO b2 l2)).objs.size,.ref (((s.heap.push (itO b1 l1)).push (itO b2 l2)).push { cls:=.type "tuple",data:=.seq #[.ref ‹s›,.ref (s.heap.push (itO b1 l1)).objs.size] }).objs.size] } (‹s›+4) rfl (by rw[z1,z1,z1,z1])
  exact this.trans (by simp only[z1])
 let ea:zqA s.heap b1 b2 l1 l2=‹s›+4:=by simp only[zqA,z1]
 let keep:∀c o,s.heap.get? c=some o->(zqH s.heap b1 b2 l1 l2).get? c=some o:=λc o e=>up _ _ _ _ (up _ _ _ _ (up _ _ _ _ (up _ _ _ _ (up _ _ _ _ e))))
 rw[ea];erw[%[_,g5|1],h _ g5 g3 g4 (EK g1 hl1 (keep _)) (EK g2 hl2 (keep _)) keep]
end
def SqB(K:W.Frag)(b:Bool)(H:Hp)(a:Addr)(xs:List V):Prop:=if b=true then SqL K H a xs else SqT K H a xs
def SqB.at{σ:St}(I:Inv X NO σ H s)(q:SqB X.K b H a xs):∃its,Vals xs its/\SqO b s.heap a its.toArray/\a<‹s›:=by
 cases b
 . let%[its,rv,p|_]:=I.tuple q;erw[its,rv,p,p.lt]
 . let%[its,rv,p|_]:=I.list q;erw[its,rv,p.isList,p.lt]
def SqB.inj{σ:St}(I:Inv X NO σ H s)(q:SqB X.K b H a xs)(r:SqB X.K b H a ys):xs=ys:=by
 cases b
 . exact I.tuple_inj q r
 . exact I.list_inj q r
def Itz(K:W.Frag)(c d:Bool)(a b:Addr):It:=
 ⟨λi H=>∃xs ys x y,SqB K c H a xs/\SqB K d H b ys/\xs[i]?=some x/\ys[i]?=some y,λi H v H'=>∃t,v=.ref t/\H t=none/\∀xs ys x y,SqB K c H a xs->SqB K d H b ys->xs[i]?=some x->ys[i]?=some y->H'=upd H t (.tup [x,y]),
  λi H=>∃xs ys,SqB K c H a xs/\SqB K d H b ys/\(xs.length<=i∨ys.length<=i)⟩
def zipAp{n l1 l2:Nat}(h1:l1<n)(h2:l2<n):ZipApart (n+4) (n+2) (n+3) n (n+1) l1 l2:=by
 constructor <;> exact λy=>by
  let y':(_:Nat)=_:=y;omega
def Cv{K:W.Frag}{elts:List Expr}{k:Nat}{pos:Pos}(c d:Bool)(a b z TI TO i1 i2:Addr)(D:ZipApart z TI TO i1 i2 a b) :
 Turn P w K (.Tuple elts k pos) (Itz K c d a b) [z,TI,TO,i1,i2] z (λi h=>IsZip h z TI TO .none/\IsPair h TI (.ref i1) (.ref i2)/\(∃p q,IsPair h TO p q)/\(∃o,h.get? i1=some o/\o.cls=.type (if c=true then "list_iterator" else "tuple_iterator")/\o.data=.fields #[.ref a,.int i 0])/\
  ∃o,h.get? i2=some o/\o.cls=.type (if d=true then "list_iterator" else "tuple_iterator")/\o.data=.fields #[.ref b,.int i 0]) where
 mem:=by simp
 obj:=λi h st x hx=>by
  erw[hz,hTI,%[p,q|hTO],%[o1,e1,_|d1],o2,e2,_,d2]at st;simp only[jF1,qS1,wY1]at hx;rcases hx with rfl | rfl | rfl | rfl | rfl
  . erw[_,hz,λv y=>nomatch y]
  . erw[_,hTI,λv y=>nomatch y]
  . erw[_,hTO,λv y=>nomatch y]
  . erw[o1,e1,λv y=>by rw[d1]at y;cases y]
  . erw[o2,e2,λv y=>by rw[d2]at y;cases y]
 keep:=λi h h' st kp=>by
  erw[hz,hTI,%[p,q|hTO],%[o1,e1|r1],o2,e2,r2]at st;erw[kp z #[2] _ hz,kp TI #[2] _ hTI,%[p,q|kp TO #[2] _ hTO],%[o1,kp i1 #[2] _ e1|r1],o2,kp i2 #[2] _ e2,r2]
 item:=by
  intro X hP hw hK hc i NO s σ H E I hf st hg;subst hP hw hK;erw[xs,ys,x,y,hq1,hq2,hx,hy]at hg;let%[its1,rv1,s1|_]:=SqB.at I hq1;let%[its2,rv2,s2|_]:=SqB.at I hq2;let%[u,hu|ru]:=rv1.get hx;let%[v,hv|rv]:=rv2.get hy;erw[hz,hTI,%[p,q|hTO],it1,it2]at st;let S1:SqIt s.heap i1 a i its1.toArray:=by
   cases c
   . exact .inr %[it1|s1]
   . exact .inl %[it1|s1]
  let S2:SqIt s.heap i2 b i its2.toArray:=by
   cases d
   . exact .inr %[it2|s2]
   . exact .inl %[it2|s2]
  refine Fz D hz hTI hTO S1 S2 (x:=u) (y:=v) (by simpa using hu) (by simpa using hv) λh1 z1 TO1 q1 q2 T1 k1=>?_
  erw[0,wpAny_letOwnedTupleGo_zip z1 λh2 z2 s2'=>?_];let zlt:z<‹s›:=zN0 hz;let T2:h2.get? ‹s›=some { cls:=.type "tuple",data:=.seq #[u,v] }:=(s2'.2 _ (Ne.symm (zV0 zlt))).trans T1;let I2:Inv X NO σ (upd H ‹s› (.tup [x,y])) { s with heap:=h2 }:=by
   refine I.turnedNew (t':=s.toks) (ch:=[z,TI,TO,i1,i2]) (λe ob he ee=>?_) hf (zG0 _) %[by show 2<=sizeLine;decide,[u,v],.cons ru (.cons rv .nil),%[_,T2,1|0],_,T2|1];let n1:e≠z:=λy=>he (by simp [y])
   exact(s2'.2 e n1).trans (k1 e ob n1 (λy=>he (by simp [y])) (λy=>he (by simp [y])) (λy=>he (by simp [y])) ee)
  let g1:SqIt h2 i1 a (i+1) its1.toArray:=q1.at (λo e=>(s2'.2 _ D.i1z).trans e) (λo e=>(s2'.2 _ D.l1z).trans e);let g2:SqIt h2 i2 b (i+1) its2.toArray:=q2.at (λo e=>(s2'.2 _ D.i2z).trans e) (λo e=>(s2'.2 _ D.l2z).trans e);let kd:∀{c:Bool} {i1 a:Addr} {its its':Array Value},SqO c h2 a its'->SqIt h2 i1 a (i+1) its->∃o,h2.get? i1=some o/\o.cls=.type (if c=true then "list_iterator" else "tuple_iterator")/\o.data=.fields #[.ref a,.int ((i+1:Nat):Int) 0]:=λ{c i1 a its its'} o q=>by
   cases c
   . rcases q with⟨_,⟨o1,e1,c1,_⟩⟩ | ⟨q,_⟩
     . let%[o2,e2,c2|_]:=(show h2.IsTuple a its' from o)
       rw[e1]at e2;cases e2;rw[c1]at c2;exact absurd (Value.type.inj c2) ⋯
     . exact q
   . rcases q with⟨q,_⟩ | ⟨_,⟨o1,e1,c1,_⟩⟩
     . exact q
     . let%[o2,e2,c2|_]:=(show h2.IsList a its' from o)
       rw[e1]at e2;cases e2;rw[c1]at c2;exact absurd (Value.type.inj c2) ⋯
  let ko:∀{c:Bool}{a:Addr}{its:Array Value},SqO c s.heap a its->a≠z->a≠TO->a≠i1->a≠i2->SqO c h2 a its:=fun{c a its} o n1 n2 n3 n4=>by
   let kk:∀ob,s.heap.get? a=some ob->h2.get? a=some ob:=λob e=>(s2'.2 _ n1).trans (k1 _ _ n1 n2 n3 n4 e)
   cases c
   . exact Heap.IsTuple.at o kk
   . exact Heap.IsList.at o kk
  erw[.ref ‹s›,_,I2,1,%[0,I.hok.fresh (zG0 _)|λxs' ys' x' y' h1' h2' hx' hy'=>?_],%[z2,(s2'.2 _ D.TIz).trans (k1 _ _ D.TIz D.TITO D.TIi1 D.TIi2 hTI),%[_,_|(s2'.2 _ D.TOz).trans TO1],kd (ko s1 D.l1z D.l1TO D.l1i1 D.l1i2) g1|kd (ko s2 D.l2z D.l2TO D.l2i1 D.l2i2) g2],λe he=>?_]
  . let e1:=SqB.inj I h1' hq1;let e2:=SqB.inj I h2' hq2;subst e1 e2;rw[hx]at hx';rw[hy]at hy';cases hx';cases hy';rfl
  . let zf:=hf e he;let NT:e<‹s›:=by
     simp only[jF1,qS1,wY1]at he;rcases he with rfl | rfl | rfl | rfl | rfl
     . exact zlt
     . exact zN0 hTI
     . exact zN0 hTO
     . erw[_,e,_]at it1;exact zN0 e
     . erw[_,e,_]at it2;exact zN0 e
    rw[aB (zV0 NT)];exact zf.1
 done:=by
  intro X hP hw hK hc i NO s σ H E I hf st hg;subst hP hw hK;erw[xs,ys,hq1,hq2,hend]at hg;let%[its1,rv1,s1|_]:=SqB.at I hq1;let%[its2,rv2,s2|_]:=SqB.at I hq2;erw[hz,hTI,%[p,q|hTO],it1,it2]at st;let S1:SqIt s.heap i1 a i its1.toArray:=by
   cases c
   . exact .inr %[it1|s1]
   . exact .inl %[it1|s1]
  let S2:SqIt s.heap i2 b i its2.toArray:=by
   cases d
   . exact .inr %[it2|s2]
   . exact .inl %[it2|s2]
  let l1:=rv1.length;let l2:=rv2.length;exact Iq (I.ok.hd hc) D hz hTI hTO S1 S2 (hend.imp (λh=>Array.getElem?_eq_none (by simp;omega)) (λh=>Array.getElem?_eq_none (by simp;omega))) λh' eb=>
   %[1|I.turnedL (t':=s.toks) (ch:=[z,TI,TO,i1,i2]) (λe o he eo=>eb e o (λy=>he (by simp [y])) (λy=>he (by simp [y])) (λy=>he (by simp [y])) (λy=>he (by simp [y])) eo) hf]
 self:=λ_ _ _ _ _ st h=>wpAny_pyIter_zip st.1 h
section
variable {X:Cx} {elts:List Expr} {k:Nat} {tpos:Pos}
instance ZiZip(K:W.Frag)(R:(It->Hp->Prop))(vs:(List V))(H1:Hp):∀a b c d,vs=[.ref a,.ref b]->(∃xs,SqB K c H1 a xs)->(∃ys,SqB K d H1 b ys)->R (Itz K c d a b) H1:=0
def iZip(K:W.Frag)(tl:TA):TI:=λσ H R=>tl σ H λvs H1=>ZiZip K R vs H1
def Ch:bootBuiltins ("zip":Str)=some (.type "zip"):=by decide
def Cn{h h':Heap}(keep:∀e o,h.get? e=some o->h'.get? e=some o)(o:SqO c h l its')(q:SqIt h' n l 0 its) :
 ∃o,h'.get? n=some o/\o.cls=.type (if c=true then "list_iterator" else "tuple_iterator")/\o.data=.fields #[.ref l,.int ((0:Nat):Int) 0]:=by
 cases c
 . rcases q with⟨_,⟨o1,e1,c1,_⟩⟩ | ⟨q,_⟩
   . let%[o2,e2,c2|_]:=(show h'.IsTuple l its' from Heap.IsTuple.at o λob e=>keep _ _ e)
     rw[e1]at e2;cases e2;rw[c1]at c2;exact absurd (Value.type.inj c2) ⋯
   . exact q
 . rcases q with⟨q,_⟩ | ⟨_,⟨o1,e1,c1,_⟩⟩
   . exact q
   . let%[o2,e2,c2|_]:=(show h'.IsList l its' from Heap.IsList.at o λob e=>keep _ _ e)
     rw[e1]at e2;cases e2;rw[c1]at c2;exact absurd (Value.type.inj c2) ⋯
def Ir{σ:St}{R:It->Hp->Prop}{E:Value->Shared->Prop}(I1:Inv X NO σ H1 s1)(hq1:SqB X.K c H1 a xs)(hq2:SqB X.K d H1 b ys)(q:R (Itz X.K c d a b) H1) :
 wpAny (model X.prog X.w) X.A (call (.type "zip") [.ref a,.ref b]) (λv s2=>wpAny (model X.prog X.w) X.A (pyIter v) (PIE X NO σ (.Tuple elts k tpos) R) E s2) E s1:=by
 let%[its1,rv1,o1|l1]:=SqB.at I1 hq1;let%[its2,rv2,o2|l2]:=SqB.at I1 hq2;refine Hz o1 o2 λh' z1 p1 p2 q1 q2 keep=>?_
 refine wpAny_pyIter_zip z1 ?_;let I2:Inv X NO σ H1 { s1 with heap:=h' }:=I1.kept (t':=s1.toks) keep;erw[‹s1›+4,[‹s1›+4,‹s1›+2,‹s1›+3,‹s1›,‹s1›+1],_,_,H1,1,I2,Cv c d a b _ _ _ _ _ (zipAp l1 l2),%[z1,p1,%[_,_|p2],Cn keep o1 q1|Cn keep o2 q2],λe he=>?_,q];let ge:‹s1›<=e:=by
  simp only[jF1,qS1,wY1]at he;rcases he with h | h | h | h | h <;> rw[h]
  . exact wD0 ..
  . exact wD0 ..
  . exact wD0 ..
  . exact zG0 _
  . exact wD0 ..
 exact I1.fpOk ge (I1.hok.fresh ge)
def IS {e1 e2:Expr}  {p pos:Pos} (hg:Gl X "zip") (hm:X.mg "zip"=none) (ha:PA X [e1,e2] t) (hs:starEach [e1,e2] X.env=[(false,eval e1 X.env),(false,eval e2 X.env)]:=by rfl) (hs2:starEach [e2] X.env=[(false,eval e2 X.env)]:=by rfl) :
 PI X (.Tuple elts k tpos) (.Call (.Name "zip" p) [e1,e2] [] pos) (iZip X.K t):=by
 intro NO s σ H R I h;refine Call_ (ir I hg hm Ch (zN1 (thn (ha pos NO s σ H _ I h) λus s1 ⟨vs,H1,I1,r1,q1⟩=>?_) (by rw[hs,hs2]) (by rw[hs2];rfl)));erw[a,b,c,d,ev,%[xs|hq1],%[ys|hq2],q]at q1;subst ev;cases r1 with
 | cons r rr=>
   cases rr with
   | cons r' rr=>
     cases rr;cases r;cases r';exact Ir I1 hq1 hq2 q
end
section
variable {X:Cx} {NO:List (Addr×Obj)} {σ:St} {x y2:Str} {N:List Str} {ix:List Nat} {scope:Scope} {cl:List (Str×Addr)} {fp:List Addr} {H3:Hp} {s3:Shared}
def nU(S:CompScope X x N ix scope cl)(I3:Inv X NO σ H3 s3)(hf:∀b∈fp,jJ X NO H3 b)(NT:∀b∈fp,b<‹s3›):(cz X (x::y2::N) scope cl s3 H3 fp).Ok:=
 let h:=nV S I3 hf NT
 %[h.mod,h.kind,h.glob,h.blt,h.above,h.inj,h.has,h.cab,h.hd,h.frames,h.stk,h.exf,h.bs,h.bsz,h.noex,h.exfs,h.funs|h.frf]
def wY(S:CompScope X x N ix scope cl)(I3:Inv X NO σ H3 s3)(hf:∀b∈fp,jJ X NO H3 b)(NT:∀b∈fp,b<‹s3›)(hix:ix.length=N.length){h1:Heap}{t':Nat}{m:Str->Option Value}
 (hn:h1.Ns ‹s3› m) (hk:∀b o,s3.heap.get? b=some o->h1.get? b=some o):Inv (cz X (x::y2::N) scope cl s3 H3 fp) [] (none::none::outs ix σ) H3 { s3 with heap:=h1,toks:=t' } where
 ok:=nU S I3 hf NT
 os:=rfl
 bare:=I3.bare
 base:=Un.kept hk
 loc:=by
  erw[m,hn,λi y v h1' h2 h3=>?_];cases i with
  | zero=>
    let h2':(some (none:Option V))=some (some v):=h2;cases h2'
  | succ j=>
   cases j with
   | zero=>
    let h2':(some (none:Option V))=some (some v):=h2;cases h2'
   | succ j=>
    let h1'':N[j]?=some y:=h1';let h2':(outs ix σ)[j]?=some (some v):=h2;let%[hr,k,c,e1,e2,e3|e4]:=S.outs j y h1'';unfold outs at h2';rw[zZ0,e1]at h2';let h2'':(σ[k]?).join=some v:=zT0 h2';let e5:σ[k]?=some (some v):=by
     cases q:σ[k]? with
     | none=>rw[q]at h2'';cases h2''
     | some o=>rw[q]at h2'';exact congrArg some h2''
    erw[m0,_,hl]at I3.loc;let%[u,r|l]:=hl k y v e2 e5 (.inr (.inl e4));erw[u,r,.inr %[.inl hr,c,e3|6]];rcases l with⟨kk,_⟩ | ⟨_,c',ec,z⟩
    . let kk':X.env.scope.names.lookup y=some .local:=kk;rw[e4]at kk';cases kk'
    . rw[S.cells e3]at ec;cases ec;erw[o,ho,hd]at z;erw[o,hk _ _ ho,hd]
 cell:=λy c e=>by
  let%[v,o,ho|hd]:=I3.cell y c (S.cells e);erw[v,o,hk _ _ ho,hd]
 free:=I3.hok.fresh (zG0 _)
 freeC:=λy c e=>I3.freeC y c (S.cells e)
 pin:=λp hp=>absurd (show p∈([]:List (Addr×Obj))from hp) #[2]
 hok:=I3.hok.kept hk
 len:=by
  show(none::none::outs ix σ).length=(x::y2::N).length;rw[zP0,zP0,zP0,zP0];unfold outs;rw[zF0,hix]
end
section
variable {X:Cx} {x y2:Str} {N:List Str} {ix:List Nat} {scope:Scope} {cl:List (Str×Addr)} {elt iter:Expr} {ifs:List Expr} {px py pt pos:Pos} {kt:Nat} {wi:TI} {tb:TBl}
def As(K:W.Frag)(J:It)(D:Addr)(ix:List Nat)(tb:TBl)(σ:St)(H:Hp)(Q:VK):Prop:=∃W:Nat->Nat->Hp->Prop,(∃m,W 0 m (upd H D (.lst [])))/\∀i m H2,W i m H2 ->
 (J.stop i H2/\Q (.ref D) H2)∨(J.go i H2/\∀y H3,J.yld i H2 y H3->∃t v1 v2,y=.ref t/\SqT K H3 t [v1,v2]/\tb (some v1::some v2::outs ix σ) H3 (λH4=>∃m',m'<m/\W (i+1) m' H4)
  λz H4=>∃ys,H4 D=some (.lst ys)/\ys.length<sizeLine/\∃m',m'<m/\W (i+1) m' (upd H4 D (.lst (ys++[z]))))
def FT(K:W.Frag)(wi:TI)(ix:List Nat)(tb:TBl):TE:=λσ H Q=>wi σ H λJ H1=>∀D,H1 D=none->As K J D ix tb σ H1 Q
def Cd(hc:X.calm=true)(S:CompScope X x N ix scope cl)(S2:scope.names.lookup y2=some .local)(nd2:(x::y2::N).Nodup)(hix:ix.length=N.length)(hb:∀s3 H3 fp,PB (cz X (x::y2::N) scope cl s3 H3 fp) ifs elt tb)
   {σ:St}  {Q:VK}  {fp:List Addr}   {RR:Value->Addr->Result->Shared->Prop} {E:Value->Shared->Prop}
 (I2:Inv X NO σ H2 s2) (T:Turn X.prog X.w X.K (.Tuple [.Name x px,.Name y2 py] kt pt) J fp it tn) (st2:tn 0 s2.heap) (f2:∀b∈fp,jJ X NO H2 b)
 (h:∀D,H2 D=none->∃W:Nat->Nat->Hp->Prop,(∃m,W 0 m (upd H2 D (.lst [])))/\∀i m H3,W i m H3 ->
  (J.stop i H3/\Q (.ref D) H3)∨(J.go i H3/\∀y H4,J.yld i H3 y H4->∃t v1 v2,y=.ref t/\SqT X.K H4 t [v1,v2]/\tb (some v1::some v2::outs ix σ) H4 (λH5=>∃m',m'<m/\W (i+1) m' H5)
   λz H5=>∃ys,H5 D=some (.lst ys)/\ys.length<sizeLine/\∃m',m'<m/\W (i+1) m' (upd H5 D (.lst (ys++[z])))))
 (hRR:∀(D C:Addr)(H':Hp)(s':Shared)(m:Str->Option Value),s'.heap.Ns C m->Apart X NO H' C->Inv X NO σ H' s'->Q (.ref D) H'->RR (.ref D) C (.ok .next) s') :
 wpAny (model X.prog X.w) X.A (newList []) (λacc s3=>wpAny (model X.prog X.w) X.A (newFunctionEnv scope X.env.globals cl [] X.env.qual none .none (some X.env)) (λcenv s4=>
  codeAny (model X.prog X.w) X.A (.compStart (.ListComp elt [%[.Tuple [.Name x px,.Name y2 py] kt pt,iter,ifs|(0)]] scope pos) 0 (.ref it) acc { cenv with scope:=relabel scope X.env }) (RR acc cenv.locals) s4) E s3) E s2:=by
 refine zP1 (wpAny_newFunctionEnv S.nocell (by intro y hy;simp at hy) (λh1 hns1 hsb1=>?_) S.kind)
 dsimp only at hns1 hsb1 ⊢
 let I3:Inv X NO σ (upd H2 ‹s2› (.lst [])) { s2 with heap:=s2.heap.push { cls:=.type "list",dict:=none,data:=.seq ([]:List Value).toArray } }:=I2.lnew (its:=[]) (ys:=[]) (t':=s2.toks) .nil (zU0 _);let hD:H2 ‹s2›=none:=I2.fresh;let%[W,%[m0|w0]|turn]:=h ‹s2› hD;let hltF:∀b∈fp,b<‹s2›:=λb hb=>by
  let%[o,e|_]:=T.obj 0 _ st2 b hb;exact zN0 e
 generalize hs3:({ s2 with heap:=s2.heap.push { cls:=.type "list",dict:=none,data:=.seq ([]:List Value).toArray } }:Shared)=s3 at I3;let eh:s2.heap.push { cls:=.type "list",dict:=none,data:=.seq ([]:List Value).toArray }=s3.heap:=by rw[←hs3]
 let et:s2.toks=s3.toks:=by rw[←hs3]
 rw[eh]at hns1 hsb1 ⊢;let sz3:‹s3›=‹s2›+1:=by rw[←eh,jP0]
 let hlt3:∀b∈fp,b<‹s3›:=λb hb=>qN0 (hltF b hb) (by rw[sz3];exact qO0 _)
 let f3:∀b∈fp,jJ X NO (upd H2 ‹s2› (.lst [])) b:=λb hb=>by
  let%[q1|q2]:=f2 b hb;erw[by rw[aB (zV0 (hltF b hb))];exact q1,q2]
 let up:∀b o,s3.heap.get? b=some o->h1.get? b=some o:=λb o e=>hsb1.extBut b o (zV0 (zN0 e)) (zQ0 _ e)
 let old:∀b o,s2.heap.get? b=some o->h1.get? b=some o:=λb o e=>up b o (by rw[←eh];exact zQ0 _ e)
 let es:({ s2 with heap:=h1,toks:=s2.toks+([]:List (Str×Value)).length }:Shared)={ s3 with heap:=h1,toks:=s2.toks+([]:List (Str×Value)).length }:=by rw[←hs3]
 rw [es];let I4:Inv (cz X (x::y2::N) scope cl s3 (upd H2 ‹s2› (.lst [])) fp) [] (none::none::outs ix σ) (upd H2 ‹s2› (.lst [])) { s3 with heap:=h1,toks:=s2.toks+([]:List (Str×Value)).length }:=
  wY S I3 f3 hlt3 hix hns1 up
 let st4:tn 0 h1:=T.keep 0 _ _ st2 λb _ o e=>old b o e
 let loop:codeAny (model X.prog X.w) X.A (.compLoop (.ListComp elt [%[.Tuple [.Name x px,.Name y2 py] kt pt,iter,ifs|(0)]] scope pos) 0 (.ref it) (.ref ‹s2›) (compEnvC scope cl ‹s3› X.env)) (RR (.ref ‹s2›) ‹s3›)
  { s3 with heap:=h1,toks:=s2.toks+([]:List (Str×Value)).length }:=by
  refine pM (λn s'=>∃i v0 v00 H',Inv (cz X (x::y2::N) scope cl s3 (upd H2 ‹s2› (.lst [])) fp) [] (v0::v00::outs ix σ) H' s'/\tn i s'.heap/\(∀b∈fp,H' b=none)/\W i n H') ?_ m0 %[(0),none,none,_,I4,st4,λb hb=>(f3 b hb).1|w0];rintro n s5 ⟨i,v0,v00,H5,I5,st5,fr5,w5⟩;let stat:∀{H':Hp},(∀b∈fp,H' b=none)->∀b∈fp,jJ (cz X (x::y2::N) scope cl s3 (upd H2 ‹s2› (.lst [])) fp) [] H' b:=λhn b hb=>
   %[hn b hb,((nU S I3 f3 hlt3).exf b hb).1,(nU S I3 f3 hlt3).exfs b hb,.inl hb,((nU S I3 f3 hlt3).exf b hb).2|λp hp=>absurd (show p∈([]:List (Addr×Obj))from hp) #[2]]
  rcases turn i n H5 w5 with⟨stop,qn⟩ | ⟨go,step⟩
  . refine thn (T.done (cz X (x::y2::N) scope cl s3 (upd H2 ‹s2› (.lst [])) fp) rfl rfl rfl hc i [] s5 _ H5 _ I5 (stat fr5) st5 stop) λr s6 ⟨hr,I6⟩=>?_
    subst hr;erw[m6,hn6,_]at I6.loc;exact hRR _ _ H5 s6 m6 hn6 ⟨I6.free,Ne.symm (zV0 I3.lt),I3.sz,λy c e z=>by
     let%[v|q]:=I3.cell y c e;exact absurd q.lt (by rw[z];exact qV0 _),λp hp z=>absurd (zN0 (I3.pin p hp).1) (by rw[z];exact qV0 _)⟩ (tS I3 f3 I6 (Heap.SameBut.refl _ _)) qn
  . refine thn (T.item (cz X (x::y2::N) scope cl s3 (upd H2 ‹s2› (.lst [])) fp) rfl rfl rfl hc i [] s5 _ H5 _ I5 (stat fr5) st5 go) λr s6 ⟨u,hr,h6⟩=>?_
    subst hr;refine thn h6 λ_ s7 ⟨y,H7,I7,r7,y7,st7,fr7⟩=>?_
    let I7':=I7.pinned (stat fr7) (T.obj _ _ st7);let%[tt,v1,v2,ey,sq|stp]:=step y H7 y7;subst ey;let pg:PG (cz X (x::y2::N) scope cl s3 (upd H2 ‹s2› (.lst [])) fp) (.Tuple [.Name x px,.Name y2 py] kt pt) (gTup X.K 2 (gCons (wQ 0) (gCons (wQ 1) gNil))):=
     rC hc (eg (bc (i:=0) nd2 rfl (.inl (qT1 S.own)) (.inr (qT1 S.own))) (eg (bc (i:=1) nd2 rfl (.inl (qT1 S2)) (.inr (qT1 S2))) mL))
    refine thn (pg _ s7 _ H7 (.ref tt) u (λσ' H'=>σ'=some v1::some v2::outs ix σ/\H'=H7) I7' r7 %[tt,0,sq,1,v1,0,v2,0,1,1|1]) λ_ s8 ⟨σ8,H8,I8,e1,e2⟩=>?_
    subst e1 e2;let I8':=I8;let again:∀{v9 v99:Option V}{H9:Hp}{s9:Shared},Inv (cz X (x::y2::N) scope cl s3 (upd H2 ‹s2› (.lst [])) fp) ([]++lR fp s7.heap) (v9::v99::outs ix σ) H9 s9->(∃m',m'<n/\W (i+1) m' H9) ->
     ∃m,m<n/\∃i v0 v00 H',Inv (cz X (x::y2::N) scope cl s3 (upd H2 ‹s2› (.lst [])) fp) [] (v0::v00::outs ix σ) H' s9/\tn i s9.heap/\(∀b∈fp,H' b=none)/\W i m H':=fun{v9 v99 H9 s9} I9 ⟨m',hm,w9⟩=>by
     erw[m',hm,i+1,v9,v99,H9,I9.unpinned,T.keep _ _ _ st7 λb hb o e=>(I9.pin (b,o) (qQ0 _ (qQ0 _ (fZ hb e)))).1,λb hb=>?_,w9];let%[o,e|d]:=T.obj _ _ st7 b hb;exact(I9.pin (b,o) (qQ0 _ (qQ0 _ (fZ hb e)))).2.1
    refine thn (hb s3 (upd H2 ‹s2› (.lst [])) fp _ s8 _ _ _ _ I8' stp) λok s9 q9=>?_
    cases ok with
    | false=>
      rw[NP ⋯]at q9 ⊢;erw[H9,I9,q9]at q9;exact again I9 q9
    | true=>
      rw[NQ rfl]at q9 ⊢;refine thn q9 λu s10 ⟨z,H10,I10,r10,ys,hy,hz,q10⟩=>?_
      refine thn (ca _ s10 _ H10 (.ref ‹s2›) [z] (.ref ‹s2›) [u] (λ_ H'=>∃m',m'<n/\W (i+1) m' H') I10 rfl (.cons r10 .nil) %[_,ys,z,1,1,hy,hz|q10]) λ_ s11 ⟨_,H11,I11,_,q11⟩=>?_
      exact again I11 q11
 exact codeAny_compStart_list loop (T.self _ 0 _ _ _ st4 loop)
def DJ(hc:X.calm=true)(S:CompScope X x N ix scope cl)(S2:scope.names.lookup y2=some .local)(nd2:(x::y2::N).Nodup)(hix:ix.length=N.length)(hi:PI X (.Tuple [.Name x px,.Name y2 py] kt pt) iter wi)(hb:∀s3 H3 fp,PB (cz X (x::y2::N) scope cl s3 H3 fp) ifs elt tb)
 (hs:∀x,foldedSetIterable iter X.env x=pure x:=by intro _;rfl):PE X (.ListComp elt [%[.Tuple [.Name x px,.Name y2 py] kt pt,iter,ifs|(0)]] scope pos) (FT X.K wi ix tb):=by
 intro NO s σ H Q I h;rw[eval_ListComp];refine jS1 (use:=none) rfl hs S.clos S.kind S.names (thn (hi NO s σ H _ I h) λxv s1 h1=>thn h1 λitv s2 h2=>?_);erw[it,fp,tn,J,H2,1,I2,T,st2,f2,R]at h2;refine Cd hc S S2 nd2 hix hb (RR:=λacc C=>compPost (model X.prog X.w) X.A X.xe none (EP X NO σ Q) acc C) I2 T st2 f2 R ?_;intro D C H' s' m hn ap I' q;erw[m,hn,λh'' hb''=>%[.ref D,H',ap.turn I' hb'',1|q]]
end
def Fl{K:W.Frag}{xs ys:List V}{tb:TBl}{Q:VK}(hxy:xs.length=ys.length)(Pv:Nat->Hp->Prop)(h0:Pv 0 (upd H D (.lst [])))(hl:∀i H,i<=xs.length->Pv i H->SqB K c H a xs/\SqB K d H b ys)
 (hs:∀i x y t H,xs[i]?=some x->ys[i]?=some y->Pv i H->H t=none->tb (some x::some y::outs ix σ) (upd H t (.tup [x,y])) (Nx xs.length i Pv) λz H'=>∃ys,H' D=some (.lst ys)/\ys.length<sizeLine/\Nx xs.length i Pv (upd H' D (.lst (ys++[z])))) (hd:∀H,Pv xs.length H->Q (.ref D) H) :
 As K (Itz K c d a b) D ix tb σ H Q:=by
 erw[λi m H=>m=xs.length-i/\i<=xs.length/\Pv i H,%[xs.length,by simp,zU0 _|h0],6];rintro i m H ⟨rfl,hi,p⟩;let%[q1|q2]:=hl i H hi p
 by_cases NT:i<xs.length
 . let hlt2:i<ys.length:=by omega
   refine .inr %[%[xs,ys,xs[i],ys[i],q1,q2,by simp [NT]|by simp [hlt2]]|λv H' y=>?_];erw[t,1,ht,e]at y;let e':=e xs ys xs[i] ys[i] q1 q2 (by simp [NT]) (by simp [hlt2]);subst e';erw[t,_,0,zD0 aJ,hs i xs[i] ys[i] t H (by simp [NT]) (by simp [hlt2]) p ht]
 . let e:i=xs.length:=by omega
   subst e;exact .inl %[%[xs,ys,q1,q2|.inl (zG0 _)]|hd H p]
end L2
namespace L2
open PySem PyProof.Rows HT
section
variable {X:Cx}
def Ar:∀{bs:List Bool}{us:List Value}{i:Nat}{v:Value},Vals (bs.map V.bl) us->us[i]?=some v->∃b,bs[i]?=some b/\v=.bool b
 | [],_,_,_,.nil,h=>by simp at h
 | b::_,_,0,_,.cons r _,h=>by
   simp at h
   subst h;cases r;erw[b,1,1]
 | _::_,_,i+1,_,.cons _ t,h=>by
   let%[b,h1|h2]:=Ar (i:=i) t (by simpa using h);erw[b,by simpa using h1,h2]
def Ci:bootBuiltins ("any":Str)=some (.builtin "any"):=by decide
def HI(bs:List Bool):((List.range bs.length).any λi=>(bs[i]?).getD false)=bs.any id:=by
 cases h:bs.any id with
 | true=>
   let%[b,hb|e]:=List.any_eq_true.mp h;let%[i,hi|e2]:=jQ0 hb;refine List.any_eq_true.mpr %[i,List.mem_range.mpr hi|6];rw[zM0 hi,wC1,e2];exact e
 | false=>
   refine List.any_eq_false.mpr λi hi=>?_
   let hi':=List.mem_range.mp hi;rw[zM0 hi',wC1];exact List.any_eq_false.mp h _ (qP0 hi')
instance rAny(K:W.Frag)(xs:List V)(H:Hp)(Q:VK):∀(a:Addr)(bs:List Bool),xs=[.ref a]->SqL K H a (bs.map V.bl)->Q (.bl (bs.any id)) H:=0
def Fo (hc:X.calm=true):gR X (.builtin "any") (rAny X.K):=by
 intro NO s2 σ H2 xs us Q I2 r h;erw[a,bs,1,hq,q]at h;let%[u,1|ru]:=jQ r;cases ru;let%[its,r',p|hz]:=I2.list hq;let hl:=r'.length;rw[zF0]at hl;let NT:a<‹s2›:=by erw[o,n,e,_]at p;exact zN0 e
 let hne:a≠‹s2›:=zV0 NT;refine call_any_walk (jB0 p.isList ?_);erw[‹s2›,[‹s2›,a],[‹s2›],its.toArray.size,_,_,λi=>(bs[i]?).getD false,1,Walks.list (prog:=X.prog) (w:=X.w) (A:=X.A.in1) (I2.ok.hd hc) ‹s2› a hne its.toArray,%[%[_,qB0 _ rfl,1|1]|p.isList.push _],λi v s' Q' E' hP hQ=>?_,λh' tk hk=>?_]
 . let%[b,e|1]:=Ar r' (i:=i) (v:=v) (by first | exact hP | simpa using hP | (rw[List.getElem?_toArray]at hP;exact hP));simp only[e,wC1]at hQ;exact zV1 hQ
 . rw [zS0,←hl,HI];let I3:Inv X NO σ H2 { s2 with heap:=s2.heap.push { cls:=.type "list_iterator",data:=.fields #[.ref a,.int 0 0] } }:=I2.kept (t':=s2.toks) λb o eb=>zQ0 _ eb
   erw[.bl _,H2,6,1,q];let J:=Inv.turnedL (h':=h') (t':=tk) (ch:=[‹s2›]) I3 (λb o hb eb=>hk b o hb eb);refine J λb hb=>?_
   rw[NW hb];exact I2.fpOk (zG0 _) (I2.hok.fresh (zG0 _))
end
end L2
namespace L2
open PySem PySem.Spec PyProof.Rows
section
variable {X:Cx}
def gy(z u:Str)(i:Int):Bool:=decide (PySem.fromIndex z.length i+u.length<=z.length)&&Builtin.Str.subAt z u (PySem.fromIndex z.length i)
instance rStartsAt(x:V)(vs:List V)(H:Hp)(Q:VK):∀z u i,x=.str z->vs=[.str u,.int i]->Q (.bl (gy z u i)) H:=0
def wB:MtR X "str.startswith" rStartsAt:=by
 intro NO s σ H x vs v us Q I rx rv h;erw[z,u,i,1,1,q]at h;erw[t,1]at rx;cases rv with
 | cons r1 rv1=>
   cases rv1 with
   | cons r2 rv2=>
     cases rv2;erw[t1,1]at r1;erw[t2,1]at r2;exact call_gives F.slot_str_startswith (wF0 _ _ _) F.entry_str_startswith (F.args_str_startswith_3 _ _ _) (gives_str_startswith_from z u i t t1 t2) %[.bl _,H,I,1|q]
end
def JV(K:W.Frag)(a:Addr)(xs:List V):It:=%[λi H=>SqT K H a xs/\i<xs.length,λi H y H'=>H'=H/\xs.reverse[i]?=some y|λi _=>xs.length<=i]
def RevT.keep{h':Heap}(x:RevT h it t i)(k:∀o,h.get? it=some o->h'.get? it=some o):RevT h' it t i:=k _ x
def Aw{K:W.Frag}(a it:Addr)(xs:List V):Turn P w K tg (JV K a xs) [it] it (λi h=>i<=xs.length/\RevT h it a ((xs.length:Int)-1-(i:Int))) where
 mem:=by simp
 obj:=λi h st b hb=>by
  let e:b=it:=by simpa using hb
  subst e;erw[_,st.2,λv z=>by cases z]
 keep:=λi h h' st k=>%[st.1|st.2.keep λo e=>k it #[2] o e]
 item:=by
  intro X hP hw hK hc i NO s σ H E I hf st hg;subst hP hw hK;erw[hq,hi]at hg;let%[its,rv,p|hz]:=I.tuple hq;let hj:xs.length-1-i<xs.length:=by omega
  let hx:xs[xs.length-1-i]?=some xs[xs.length-1-i]:=zM0 hj;let%[u,hu|ru]:=rv.get hx;let%[f0,f1,f2,f3,f4|f5]:=hf it #[2];erw[_,hit]at st;let e1:((xs.length:Int)-1-(i:Int))=((xs.length-1-i:Nat):Int):=by omega
  rw[e1]at hit;let h63:=jG;refine rP hit p (x:=u) (by simpa using hu) #[0] λh' tk st' sb=>?_
  let I1:Inv X NO σ H { s with heap:=h',toks:=tk }:=I.turned (t':=tk) (λb o hb e=>(sb.2 b hb).trans e) f0 f1 f3 f4 f5;let e2:((xs.length-1-i:Nat):Int)-1=(xs.length:Int)-1-((i+1:Nat):Int):=by omega
  rw[e2]at st';erw[u,1,wO (s:={ s with heap:=h',toks:=tk }) st' rfl rfl ⋯ ⟨xs[xs.length-1-i],H,I1,ru,⟨rfl,?_⟩,⟨by omega,st'⟩,λb hb=>(hf b hb).1⟩];rw[jZ0 hi,hx]
 done:=by
  intro X hP hw hK hc i NO s σ H E I hf st hg;subst hP hw hK;let hg:xs.length<=i:=hg;let%[f0,f1,f2,f3,f4|f5]:=hf it #[2];erw[hi,hit]at st;let e1:(xs.length:Int)-1-(i:Int)=-1:=by omega
  rw[e1]at hit;exact sS (I.ok.hd hc) hit λh' tk eb=>%[1|I.turned (t':=tk) (λb o hb e=>eb b o hb e) f0 f1 f3 f4 f5]
 self:=λ_ _ _ _ _ st h=>tO st.2 h
def HM(K:W.Frag)(c:Bool)(a:Addr)(xs:List V):It:=if c=true then ItV K a xs else JV K a xs
section
variable {X:Cx} {tg:Expr}
instance ZiRevB(K:W.Frag)(R:(It->Hp->Prop))(x:V)(H1:Hp):∀c a xs,x=.ref a->SqB K c H1 a xs->R (HM K c a xs) H1:=0
def iRevB(K:W.Frag)(tl:TE):TI:=λσ H R=>tl σ H λx H1=>ZiRevB K R x H1
def Gs   {p pos:Pos} (hg:Gl X "reversed") (hm:X.mg "reversed"=none) (hl:PE X l tl) (hs:starEach [l] X.env=[(false,eval l X.env)]:=by rfl) :
 PI X tg (.Call (.Name "reversed" p) [l] [] pos) (iRevB X.K tl):=by
 intro NO s σ H R I h;refine qQ1 (ir I hg hm sC ?_);refine zN1 ?_ hs rfl;rw[hs];show wpAny _ _ (spliced ((false,eval l X.env)::backTo pos (starEach [] X.env))) _ _ s;refine qP1 (thn (hl NO s σ H _ I h) λu s1 ⟨x,H1,I1,r1,c,a,xs,ex,hq,q⟩=>?_);subst ex;cases r1;refine jB1 ?_;cases c with
 | true=>
   let hq:SqL X.K H1 a xs:=hq;let q:R (ItV X.K a xs) H1:=q;let%[its,rv,p|hz]:=I1.list hq;let hlen:=rv.length;refine call_reversed_list p.isList ?_;let hr:(s1.heap.push (revObj a ((its.toArray.size:Int)-1))).IsRevIter ‹s1› a ((xs.length:Int)-1-((0:Nat):Int)):=by
    let e:(xs.length:Int)-1-((0:Nat):Int)=(its.toArray.size:Int)-1:=by rw[zS0];omega
    rw[e];erw[_,qB0 _ rfl,1,1]
   refine wpAny_pyIter_revIter hr ?_;erw[‹s1›,[‹s1›],_,_,H1,1,I1.kept (t':=s1.toks) λb o e=>zQ0 _ e,Av a _ xs,%[zU0 _|hr],λb hb=>?_,q];let e:b=‹s1›:=by simpa using hb
   subst e;exact I1.fpOk (zG0 _) (I1.hok.fresh (zG0 _))
 | false=>
   let hq:SqT X.K H1 a xs:=hq;let q:R (JV X.K a xs) H1:=q;let%[its,rv,p|hz]:=I1.tuple hq;let hlen:=rv.length;refine og p (by rw[zS0,←rv.length];exact hz) λtk=>?_
   let hr:RevT (s1.heap.push { cls:=.type "reversed",data:=.fields #[.ref a,rawInt ((its.toArray.size:Int)-1)] }) ‹s1› a ((xs.length:Int)-1-((0:Nat):Int)):=by
    let e:(xs.length:Int)-1-((0:Nat):Int)=(its.toArray.size:Int)-1:=by rw[zS0];omega
    rw[e];exact qB0 _ rfl
   refine tO hr ?_;erw[‹s1›,[‹s1›],_,_,H1,1,I1.kept (t':=tk) λb o e=>zQ0 _ e,Aw a _ xs,%[zU0 _|hr],λb hb=>?_,q];let e:b=‹s1›:=by simpa using hb
   subst e;exact I1.fpOk (zG0 _) (I1.hok.fresh (zG0 _))
end
def EU{K:W.Frag}{xs:List V}{g:TG}{tb:TS}{D:Ends}{σ:St}{H:Hp}(Pv:Nat->St->Hp->Prop)(h0:Pv 0 σ H)(hl:∀i σ H,i<=xs.length->Pv i σ H->SqB K c H a xs)
 (hs:∀i x σ H,i<xs.length->xs.reverse[i]?=some x->Pv i σ H->g x σ H λσ2 H2=>tb { D with nx:=Pv (i+1),ct:=Pv (i+1),bk:=D.nx } σ2 H2) (hd:∀ σ H,Pv xs.length σ H->D.nx σ H) :
 ∃ W:Nat->Nat->St->Hp->Prop,(∃m,W 0 m σ H)/\∀i m σ H,W i m σ H ->
  ((HM K c a xs).stop i H/\D.nx σ H)∨((HM K c a xs).go i H/\∃N:St->Hp->Prop,(∀ σ' H',N σ' H'->∃m',m'<m/\W (i+1) m' σ' H')/\∀x H',(HM K c a xs).yld i H x H'->g x σ H' λσ2 H2=>tb { D with nx:=N,ct:=N,bk:=D.nx } σ2 H2):=by
 cases c with
 | true=>exact ET Pv h0 hl hs hd
 | false=>
   erw[λi m σ H=>m=xs.length-i/\i<=xs.length/\Pv i σ H,%[xs.length,by simp,zU0 _|h0],6];rintro i m σ H ⟨rfl,hi,p⟩;let q:=hl i σ H hi p
   by_cases NT:i<xs.length
   . refine .inr %[%[q|NT],Pv (i+1),λσ' H' p'=>%[xs.length-(i+1),3,1,NT|p']|λx H' y=>?_];erw[e,ex]at y;subst e;exact hs i x σ _ NT ex p
   . let e:i=xs.length:=by omega
     subst e;exact .inl %[zG0 _|hd σ H p]
set_option maxRecDepth 100000
def oN:fillsNumberSlot (.type "tuple") "mul"=pure false:=
 PySem.fillsNumberSlot_seq (id:="tuple.__mul__") (r:=some (.builtin "tuple.__rmul__")) F.slot_tuple_mul.lookup ⋯ F.slot_tuple_rmul.lookup ⋯
def uR:seqRepeat? (.type "tuple")=pure (some (.builtin "tuple.__mul__")):=by
 unfold seqRepeat?;rw[PySem.seqSlot_of (T:="tuple") (name:="__mul__") (id:="tuple.__mul__") F.slot_tuple_mul.lookup ⋯,PySem.seqSlot_of (T:="tuple") (name:="__rmul__") (id:="tuple.__rmul__") F.slot_tuple_rmul.lookup ⋯];rfl
def rZ(a:Int)(t:Tok)(l:Addr)(items:Array Value)(n:Nat)(dd:Option Addr)(sl:Array (Option Value)) :
 Meets (Builtin.«int.__rmul__» %[[.int a t,.ref l]|[]]) (λ_ R s=>s.heap.get? l=some { cls:=.type "tuple",dict:=dd,data:=.seq items n,slots:=sl }/\R (.ok (.ret Value.notImplemented)) s):=
 .of_wp λprog w A R s h=>by erw[hp,g,d,tk,os]at s;erw[hl,h]at h;wp_walk;erw[0,h]
def sH(l:Addr)(items:Array Value)(n:Nat)(dd:Option Addr)(sl:Array (Option Value))(u:Tok) :
 Meets (Builtin.«tuple.__mul__» %[[.ref l,.int 1 u]|[]]) (λ_ R s=>s.heap.get? l=some { cls:=.type "tuple",dict:=dd,data:=.seq items n,slots:=sl }/\R (.ok (.ret (.ref l))) s):=
 .of_wp λprog w A R s h=>by erw[hp,g,d,tk,os]at s;erw[hl,h]at h;wp_walk;erw[0,h]
def qp(l:Addr)(v:Value)(n:Nat)(dd:Option Addr)(sl:Array (Option Value))(u:Tok) :
 Meets (Builtin.«tuple.__mul__» %[[.ref l,.int 0 u]|[]]) (λ_ R s=>s.heap.get? l=some { cls:=.type "tuple",dict:=dd,data:=.seq #[v] n,slots:=sl }/\R (.ok (.ret (.ref ‹s›))) { s with heap:=s.heap.push { cls:=.type "tuple",data:=.seq #[] },toks:=s.toks }):=
 .of_wp λprog w A R s h=>by erw[hp,g,d,tk,os]at s;erw[hl,h]at h;wp_walk;erw[0,h]
def qr(l:Addr)(v:Value)(n:Nat)(dd:Option Addr)(sl:Array (Option Value))(x:Int)(u:Tok)(h2:2<=x)(hx:x<=1000) :
 Meets (Builtin.«tuple.__mul__» %[[.ref l,.int x u]|[]]) (λ_ R s=>s.heap.get? l=some { cls:=.type "tuple",dict:=dd,data:=.seq #[v] n,slots:=sl }/\R (.ok (.ret (.ref ‹s›))) { s with heap:=s.heap.push { cls:=.type "tuple",data:=.seq ((List.replicate x.toNat #[v]).foldl (·++·) #[]) },toks:=s.toks }):=
 .of_wp λprog w A R s h=>by
  erw[hp,g,d,tk,os]at s;erw[hl,h]at h;let c1:(decide (x < -(2 ^ 63))||decide (x≥2 ^ 63))=false:=by
   rw[zB1 #[0],zB1 #[0]];rfl
  let c2:(x==1)=false:=by simpa using(show x≠1 by omega)
  let c3:decide (x<=0)=false:=zB1 #[0];let c4:¬ ((1:Int)*x>(2 ^ 63-1) / 8):=by omega
  let c5:Builtin.Tuple.tupleTooMany (1*x)=false:=by
   unfold Builtin.Tuple.tupleTooMany
   have:(sizeLine:Int)≥1000:=by decide
   exact zB1 #[0]
  wp_walk
  refine zS1 (λhab=>by rw[c1]at hab;cases hab) (λ_=>?_);show wpAny _ _ (do let xs ←Builtin.Tuple.tupleItemsOf (Value.ref l);_) _ _ _
  wp_walk
  refine zS1 (λhab=>absurd hab c4) (λ_=>?_);refine zS1 (λhab=>by rw[show Builtin.Tuple.tupleTooMany (((#[v]:Array Value).size:Int)*x)=false from c5]at hab;cases hab) (λ_=>?_);let sz:((List.replicate x.toNat #[v]).foldl (·++·) #[]).size<=sizeLine:=by
   let e:(List.replicate x.toNat (#[v]:Array Value)).foldl (·++·) #[]=(List.replicate x.toNat [v]).flatten.toArray:=by
    have:=ld [v] x.toNat []
    rw[List.nil_append]at this;exact this
   rw[e,zS0,zV];exact cq (by show x.toNat*1<=1000;omega)
  refine zE0 (zP1 ?_ sz);exact zI0 %[0|h]
section
variable {X:Cx}
instance rRepT(K:W.Frag)(x:V)(y:V)(H:Hp)(Q:VK):∀a v k,x=.ref a->y=.int k->SqT K H a [v]->0<=k->k<=1000->(k=1->Q (.ref a) H)->(k≠1->∀p,H p=none->Q (.ref p) (upd H p (.tup (List.replicate k.toNat v)))):=0
def vL(r:RelV v u):∀n,Vals (List.replicate n v) (List.replicate n u)
 | 0=>.nil
 | n+1=>.cons r (vL r n)
def Gy:OpR X (binaryOp .Mult) (rRepT X.K):=by
 intro NO s σ H x y vv u Q I rx ry h;erw[a,v,k,1,1,hq,k0,k1,q1,q2]at h;cases rx;erw[t,1]at ry;let%[its,r,p|hz]:=I.tuple hq;obtain⟨w,rfl,rw'⟩:∃w,its=[w]/\RelV v w:=by
  cases r with
  | cons h1 h2=>cases h2;erw[0,h1]
 erw[o,e,hc,n,hd]at p;erw[cls,dd,data,sl]at o;cases hc;cases hd;let e:s.heap.get? a=some { cls:=.type "tuple",dict:=dd,data:=.seq #[w] n,slots:=sl }:=e;refine wpAny_binaryOp_repeat_ref (T:="tuple") (U:="int") ⋯ %[_,e|1] (λs'=>vF0 s' k t) oN F.fills_int_mul wH1 uR F.slot_int_index.lookup
  (qW1 wH1 (vF0 s k t) F.entry_int_rmul (F.args_int_rmul_2 _ _) (rZ k t a #[w] n dd sl)
   %[e,1,%[_,e|1]|6])
 by_cases c1:k=1
 . subst c1;exact qW1 vB1 %[_,e|1] wU0 (wO1 _ _) (sH a #[w] n dd sl t) ⟨e,.ref a,H,I,rfl,q1 rfl⟩
 let laid:∀m:Nat,m<=1000->Inv X NO σ (upd H ‹s› (.tup (List.replicate m v))) { s with heap:=s.heap.push { cls:=.type "tuple",data:=.seq (List.replicate m w).toArray },toks:=s.toks }:=λm hm=>
  I.laid (t':=s.toks) (o:=.tup (List.replicate m v)) (λb ob q=>zQ0 _ q) (zG0 _) %[by rw[qN1];exact cq hm,_,vL rw' m,IsTup.new _ _,_,qB0 _ rfl|1]
 by_cases c0:k=0
 . subst c0;exact qW1 vB1 %[_,e|1] wU0 (wO1 _ _) (qp a w n dd sl t) ⟨e,.ref _,_,laid 0 ⋯,rfl,q2 ⋯ _ (I.hok.fresh (zG0 _))⟩
 . let ef:(List.replicate k.toNat (#[w]:Array Value)).foldl (·++·) #[]=(List.replicate k.toNat w).toArray:=by
    have:=ld [w] k.toNat []
    rw [List.nil_append]at this;rw[show(List.replicate k.toNat w)=(List.replicate k.toNat [w]).flatten by
     induction k.toNat with
     | zero=>rfl
     | succ m ih=>rw[zZ1,zZ1,qV1,ih];rfl]
    exact this
   refine qW1 vB1 %[_,e|1] wU0 (wO1 _ _) (qr a w n dd sl k t #[0] k1) ⟨e,?_⟩;rw[ef];erw[.ref _,_,laid k.toNat #[0],1,q2 c1 _ (I.hok.fresh (zG0 _))]
def DN(K:W.Frag)(hK:X.K=K:=by rfl):OpR X (binaryOp .Mult) (rRepT K):=by subst hK;exact Gy
end
section
variable {X:Cx}
instance rDictD(xs:List V)(H:Hp)(Q:VK):∀(a:Addr)(NS:List (Key×V)),xs=[.ref a]->H a=some (.dK NS)->(∀p,H p=none->Q (.ref p) (upd H p (.dK NS))):=0
def zc:gR X (.type "dict") rDictD:=by
 intro NO s σ H xs us Q I r h;erw[a,NS,1,ha,q]at h;cases r with
 | cons ra rr=>
   cases rr;cases ra;exact Fh I (.inl ha) λp s' hp I'=>%[.ref p,_,I',1|q p hp]
end
def zh:bootBuiltins ("dict":Str)=some (.type "dict"):=by decide
end L2
namespace Mine
def Pr(n:Int):Prop:=2<=n/\∀k:Int,2<=k->k<=1000->k*k<=n->n % k≠0
def oV(n:Int)(j:Int):Prop:=∀k:Int,2<=k->k<j->k*k<=n/\n % k≠0
def tu{a b:Int}(h0:0<=a)(h:a<=b):a*a<=b*b:=Int.mul_le_mul h h h0 (Int.le_trans h0 h)
def IQ{n k:Int}(h2:2<=n)(h0:2<=k)(u:oV n k)(h:n<k*k):Pr n:=by
 erw[h2,λj j2 _ js=>?_]
 by_cases c:j<k
 . exact(u j j2 c).2
 . have:=tu (a:=k) (b:=j) #[0] #[0]
   omega
def IR{n:Int}(h2:2<=n)(u:oV n 1001):Pr n:=%[h2|λj j2 j3 _=>(u j j2 #[0]).2]
def IO{n k:Int}(h0:2<=k)(h1:k<=1000)(hs:k*k<=n)(h:n % k=0):¬ Pr n:=λp=>p.2 k h0 h1 hs h
def xA(n:Int):oV n 2:=λk a b=>by omega
def Au(u:oV n k)(hs:k*k<=n)(h:n % k≠0):oV n (k+1):=λj a b=>by
 by_cases c:j<k
 . exact u j a c
 . let e:j=k:=by omega
   subst e;erw[hs,h]
def prB(n:Int):Bool:=decide (2<=n)&&(List.range 999).all λi=>decide (n<((i:Int)+2)*((i:Int)+2))||decide (n % ((i:Int)+2)≠0)
def zL(h:prB n=true):Pr n:=by
 unfold prB at h;rw[qR1]at h;erw[zM1 h.1,λk k2 k3 ks=>?_];let q:=List.all_eq_true.mp h.2 (k.toNat-2) (List.mem_range.mpr #[0]);let e:(((k.toNat-2:Nat):Int)+2)=k:=by omega
 rw[e,Bool.or_eq_true]at q;rcases q with q | q
 . have:=zM1 q;omega
 . exact zM1 q
def Ba:Pr 999983:=zL ⋯
def IP{d:Int}(h:Pr p)(hp:p<1002001)(d0:1<d)(d1:d<p)(hd:d ∣ p):False:=by
 erw[e,he]at hd;let e0:1<e:=by
  by_cases c:e<=1
  . have:d*e<=d*1:=qW0 c #[0]
    omega
  . omega
 by_cases c:d<=e
 . let s:d*d<=p:=by
    have:=qW0 c (show(0:Int)<=d by omega)
    omega
   let t:d<=1000:=by
    by_cases c2:1001<=d
    . have:=tu (a:=1001) (b:=d) #[0] c2
      omega
    . omega
   refine h.2 d #[0] t s ?_;rw[he];exact Int.mul_emod_right d e
 . let c':e<=d:=by omega
   let s:e*e<=p:=by
    have:=jD0 c' (show(0:Int)<=e by omega)
    omega
   let t:e<=1000:=by
    by_cases c2:1001<=e
    . have:=tu (a:=1001) (b:=e) #[0] c2
      omega
    . omega
   refine h.2 e #[0] t s ?_;rw[he,qU1];exact Int.mul_emod_right e d
def Cop(x y:Int):Prop:=∀d:Int,0<d->d ∣ x->d ∣ y->d=1
def JK{a:Int}(h:Pr p)(hp:p<1002001)(a0:0<a)(a1:a<p):Cop p a:=λd d0 h1 h2=>by
 have:=jM1 a0 h2
 by_cases c:1<d
 . exact(IP h hp c #[0] h1).elim
 . omega
structure Eu(a p former ff rest f:Int):Prop where
 r0:0<rest
 rp:rest<p
 fr:rest<former
 f0:0<=f
 f1:f<p
 g0:0<=ff
 g1:ff<p
 cop:Cop former rest
 d1:p ∣ former-a*ff
 d2:p ∣ rest-a*f
def wW{a:Int}(h:Pr p)(hp:p<1002001)(a0:0<a)(a1:a<p):Eu a p p 0 (a % p) 1:=by
 let e:a % p=a:=qU0 #[0] a1;rw[e];erw[a0,a1,a1,3,3,3,3,JK h hp a0 a1,by rw[Int.mul_zero,Int.sub_zero];exact vD0 p,by rw[wG1,Int.sub_self];exact Int.dvd_zero p]
def Ag(E:Eu a p former ff rest f)(h1:rest≠1):Eu a p rest f (former-former / rest*rest) ((ff-former / rest*f) % p)/\(former-former / rest*rest).toNat<rest.toNat:=by
 let r0:=E.r0;let rp:=E.rp;let em:former-former / rest*rest=former % rest:=by
  have:=qY1 former rest
  rw[qU1]at this;omega
 let l0:0<=former % rest:=qE0 _ #[0];let l1:former % rest<rest:=qG0 _ r0;let cop':Cop rest (former % rest):=λd d0 x y=>by
  refine E.cop d d0 ?_ x
  have:=qY1 former rest
  rw[←this];exact wK1 y (Int.dvd_trans x (Int.dvd_mul_right _ _))
 let lz:former % rest≠0:=λz=>by
  have:=cop' rest r0 (vD0 _) (by rw[z];exact Int.dvd_zero _)
  exact h1 this
 rw [em];erw[%[3,3,l1,qE0 _ #[0],qG0 _ #[0],E.f0,E.f1,cop',E.d2|6],3];let q:p ∣ (former-a*ff)-former / rest*(rest-a*f):=Int.dvd_sub E.d1 (Int.dvd_trans E.d2 (Int.dvd_mul_left _ _));let q2:p ∣ (ff-former / rest*f)-(ff-former / rest*f) % p:=Int.dvd_self_sub_emod;let q3:p ∣ a*((ff-former / rest*f)-(ff-former / rest*f) % p):=Int.dvd_trans q2 (Int.dvd_mul_left _ _);let q4:=wK1 q q3;let e2:former-a*ff-former / rest*(rest-a*f)+a*(ff-former / rest*f-(ff-former / rest*f) % p)=former % rest-a*((ff-former / rest*f) % p):=by
  rw[←em];generalize former / rest=t;generalize (ff-t*f) % p=u;rw[Int.mul_sub,Int.mul_sub,Int.mul_sub,Int.mul_left_comm t a f];omega
 rw[e2]at q4;exact q4
def EY(E:Eu a p former ff rest f)(h1:rest=1)(hp:1<p):0<f/\f<p/\f*a % p=1:=by
 subst h1;let d2:=E.d2;let f0:=E.f0;let hm:f*a % p=1:=by
  erw[c,hc]at d2;let e:f*a=1+p*(-c):=by
   rw[qU1 f a,Int.mul_neg];omega
  rw[e,Int.add_mul_emod_self_left];exact qU0 #[0] hp
 erw[6,E.f1,hm]
 by_cases c:f=0
 . subst c;simp at hm
 . omega
end Mine
namespace Mine
def xt(n d:Int):Prop:=∀k:Int,3<=k->k % 2=1->k<d->n % k≠0
def Bt(n:Int):xt n 3:=λk a _ c=>by omega
def Eg(u:xt n d)(hd:d % 2=1)(h:n % d≠0):xt n (d+2):=λk a b c=>by
 by_cases e:k<d
 . exact u k a b e
 . have:k=d:=by omega
   subst this;exact h
def BU{n d:Int}(h3:3<=n)(h2:n % 2≠0)(h0:3<=d)(u:xt n d)(hd:n<d*d):Pr n:=by
 erw[3,λk k2 k3 ks z=>?_];let%[q|hq]:=qH1 z
 by_cases e:k % 2=1
 . by_cases c:k<d
   . exact u k #[0] e c z
   . have:=tu (a:=d) (b:=k) #[0] #[0]
     omega
 . obtain ⟨j,hj⟩:∃j,k=2*j:=%[k / 2|3]
   rw[hj,wZ0]at hq;omega
def BW{n:Int}(h2:n % 2=0)(h3:2<n):¬ Pr n:=λp=>p.2 2 #[0] #[0] #[0] h2
def BV{n d:Int}(h9:n<=999999)(h0:3<=d)(hs:d*d<=n)(h:n % d=0):¬ Pr n:=λp=>by
 let t:d<=1000:=by
  by_cases c2:1001<=d
  . have:=tu (a:=1001) (b:=d) #[0] c2
    omega
  . omega
 exact p.2 d #[0] t hs h
def xJ{n d:Int}(h9:n<=999999)(h0:3<=d)(hs:d*d<=n):d<=999:=by
 by_cases c2:1000<=d
 . have:=tu (a:=1000) (b:=d) #[0] c2
   omega
 . omega
def Gn{n d:Int}(h0:3<=d)(hs:d*d<=n):d<=n:=by
 have:=qW0 (show(1:Int)<=d by omega) (show(0:Int)<=d by omega)
 omega
end Mine
namespace Mine
def cS:Nat->List (List Int)
 | 0=>[[]]
 | n+1=>(cS n).flatMap λs=>[s++[0],s++[1]]
def oS{α β:Type}(f g:α->β):∀l:List α,(l.flatMap λs=>[f s,g s]).length=2*l.length
 | []=>rfl
 | x::r=>by
   let ih:=oS f g r;simp only[wU1,zK0,zP0,zL1];omega
def kO:∀n:Nat,(cS n).length=2 ^ n
 | 0=>rfl
 | n+1=>by rw[cS,oS,kO n,Nat.pow_succ];omega
def gh:∀(n:Nat)(s:List Int),s∈cS n->s.length=n
 | 0,s,h=>by
   have:s=[]:=by simpa [cS]using h
   subst this;rfl
 | n+1,s,h=>by
   rw[cS,List.mem_flatMap]at h;erw[t,ht,hs]at h
   have:=gh n t ht
   simp at hs
   rcases hs with rfl | rfl <;> simp [this]
def oI{n:Nat}(h:n<=6):2 ^ n<=64:=Nat.pow_le_pow_right ⋯ h
end Mine
namespace Mine
def Pm(p:Int):Prop:=1<p/\∀a:Int,¬ p ∣ a->∃f:Int,p ∣ f*a-1
def EX{p:Int}(hp:1<p):∀(n:Nat){former ff rest f:Int},rest.toNat<=n->Eu a p former ff rest f->∃g:Int,g*a % p=1
 | 0,former,ff,rest,f,hn,E=>by
   have:=E.r0
   omega
 | n+1,former,ff,rest,f,hn,E=>by
   by_cases c:rest=1
   . erw[f,(EY E c hp).2.2]
   . let%[E2|lt]:=Ag E c;exact EX hp n #[0] E2
def rm(h:Pr p)(hp:p<1002001):Pm p:=by
 let p1:1<p:=by have:=h.1;omega
 erw[p1,λa ha=>?_];let a0:0<a % p:=by
  have:=qE0 a (show p≠0 by omega)
  by_cases c:a % p=0
  . exact absurd (qH1 c) ha
  . omega
 let a1:a % p<p:=qG0 _ #[0];let%[g|hg]:=EX p1 _ (zG0 _) (wW h hp a0 a1);erw[g,6];let e1:g*a % p=1:=by rw[←hg,qO1 g (a % p),jV0,←qO1]
 have:=qY1 (g*a) p
 erw[g*a / p,3]
def Pm.mul{a b:Int}(h:Pm p)(hd:p ∣ a*b)(ha:¬ p ∣ a):p ∣ b:=by
 let%[f,k|hk]:=h.2 a ha;erw[m,hm]at hd;erw[f*m-k*b,by grind]
def Pm.not_mul{a b:Int}(h:Pm p)(ha:¬ p ∣ a)(hb:¬ p ∣ b):¬ p ∣ a*b:=λz=>hb (h.mul z ha)
def ch:Nat->Nat->Nat
 | _,0=>1
 | 0,_+1=>0
 | n+1,k+1=>ch n k+ch n (k+1)
def nZ(n:Nat):ch n 0=1:=by cases n <;> rfl
def oT:∀(n k:Nat),n<k->ch n k=0
 | 0,k+1,_=>rfl
 | n+1,k+1,h=>by
   show ch n k+ch n (k+1)=0;rw[oT n k #[0],oT n (k+1) #[0]]
def Hw(n:Nat):ch n n=1:=by
 induction n with
 | zero=>rfl
 | succ n ih=>
   show ch n n+ch n (n+1)=1;rw[ih,oT n (n+1) #[0]]
def vF:∀(n k:Nat),(k+1)*ch (n+1) (k+1)=(n+1)*ch n k
 | 0,0=>rfl
 | 0,k+1=>by
   show(k+2)*(ch 0 (k+1)+ch 0 (k+2))=1*ch 0 (k+1);rw[oT 0 (k+1) #[0],oT 0 (k+2) #[0]]
   simp
 | n+1,0=>by
   let h:=vF n 0;rw[nZ n]at h;show(0+1)*(ch (n+1) 0+ch (n+1) (0+1))=(n+1+1)*ch (n+1) 0;rw[nZ (n+1)];omega
 | n+1,k+1=>by
   let h1:=vF n k;let h2:=vF n (k+1);show(k+2)*(ch (n+1) (k+1)+ch (n+1) (k+2))=(n+2)*ch (n+1) (k+1);let e:ch (n+1) (k+1)=ch n k+ch n (k+1):=rfl
   grind
def sm(f:Nat->Int):Nat->Int
 | 0=>0
 | n+1=>sm f n+f n
def qA{f g:Nat->Int}:∀n,(∀k,k<n->f k=g k)->sm f n=sm g n
 | 0,_=>rfl
 | n+1,h=>by
   show sm f n+f n=sm g n+g n;rw[qA n (λk hk=>h k #[0]),h n #[0]]
def CZ(f g:Nat->Int):∀n,sm (λk=>f k+g k) n=sm f n+sm g n
 | 0=>rfl
 | n+1=>by
   show sm (λk=>f k+g k) n+(f n+g n)=(sm f n+f n)+(sm g n+g n)
   rw[CZ f g n];omega
def CW(c:Int)(f:Nat->Int):∀n,sm (λk=>c*f k) n=c*sm f n
 | 0=>by simp [sm]
 | n+1=>by
   show sm (λk=>c*f k) n+c*f n=c*(sm f n+f n)
   rw[CW c f n]
   grind
def mf(f:Nat->Int):∀n,sm f (n+1)=f 0+sm (λk=>f (k+1)) n
 | 0=>by simp [sm]
 | n+1=>by
   show sm f (n+1)+f (n+1)=f 0+(sm (λk=>f (k+1)) n+f (n+1))
   rw[mf f n];omega
def CY{p:Int}{f:Nat->Int}:∀n,(∀k,k<n->p ∣ f k)->p ∣ sm f n
 | 0,_=>%[(0)|by simp [sm]]
 | n+1,h=>wK1 (CY n λk hk=>h k #[0]) (h n #[0])
def Il(a:Int):∀n:Nat,(a+1) ^ n=sm (λk=>(ch n k:Int)*a ^ k) (n+1)
 | 0=>by simp [sm,ch]
 | n+1=>by
   let ih:=Il a n;rw[qA1,ih,mf (λk=>((ch (n+1) k:Nat):Int)*a ^ k) (n+1)];let e1:sm (λk=>((ch (n+1) (k+1):Nat):Int)*a ^ (k+1)) (n+1)=a*sm (λk=>(ch n k:Int)*a ^ k) (n+1)+sm (λk=>(ch n (k+1):Int)*a ^ (k+1)) (n+1):=by
    rw[←CW,←CZ];refine qA _ λk _=>?_
    have:ch (n+1) (k+1)=ch n k+ch n (k+1):=rfl
    rw[this,jC1,qA1]
    grind
   let e2:sm (λk=>(ch n k:Int)*a ^ k) (n+1)=1+sm (λk=>(ch n (k+1):Int)*a ^ (k+1)) (n+1):=by
    rw[mf]
    have:sm (λk=>(ch n (k+1):Int)*a ^ (k+1)) (n+1)=sm (λk=>(ch n (k+1):Int)*a ^ (k+1)) n:=by
     show _+(ch n (n+1):Int)*a ^ (n+1)=_;rw[oT n (n+1) #[0]]
     simp
    rw[this,nZ]
    simp
   rw[e1,nZ]
   grind
def JL(h:Pm p){n k:Nat}(hn:(n:Int)+1=p)(hk:k<n):p ∣ ((ch (n+1) (k+1):Nat):Int):=by
 let e:((k:Int)+1)*((ch (n+1) (k+1):Nat):Int)=p*((ch n k:Nat):Int):=by
  have:=vF n k
  rw[←hn];exact_mod_cast this
 refine h.mul (a:=(k:Int)+1) %[_|e] λhd=>?_
 have:=jM1 #[0] hd
 omega
def sv(h:Pm p):∀a:Nat,p ∣ (a:Int) ^ p.toNat-a
 | 0=>by
   have:p.toNat≠0:=by have:=h.1;omega
   simp [Int.zero_pow this]
 | a+1=>by
   let ih:=sv h a;obtain⟨n,hn⟩:∃n:Nat,p.toNat=n+1:=%[p.toNat-1|by have:=h.1;omega]
   let hp:(n:Int)+1=p:=by have:=h.1;omega
   rw [hn]at ih ⊢;let b:=Il (a:Int) (n+1);let e:sm (λk=>(ch (n+1) k:Int)*(a:Int) ^ k) (n+1+1)=sm (λk=>(ch (n+1) (k+1):Int)*(a:Int) ^ (k+1)) n+(a:Int) ^ (n+1)+1:=by
    rw[mf];show _+(sm _ n+(ch (n+1) (n+1):Int)*(a:Int) ^ (n+1))=_;rw[Hw,nZ]
    simp
    omega
   let d:p ∣ sm (λk=>(ch (n+1) (k+1):Int)*(a:Int) ^ (k+1)) n:=CY n λk hk=>Int.dvd_mul_of_dvd_left (JL h hp hk)
   erw[u,hu]at ih;erw[v,hv]at d;erw[u+v,6];rw[jC1];show((a:Int)+1) ^ (n+1)-((a:Int)+1)=_;rw[b,e]
   grind
def Jv{a:Int}(h:Pm p)(ha:¬ p ∣ a)(a0:0<=a):p ∣ a*a ^ (p-2).toNat-1:=by
 obtain⟨n,hn⟩:∃n:Nat,p.toNat=n+2:=%[p.toNat-2|by have:=h.1;omega]
 let e:(p-2).toNat=n:=by omega
 let f:=sv h a.toNat;rw[wL0 a0,hn]at f;rw[e];let g:a ^ (n+2)-a=a*(a*a ^ n-1):=by
  rw[qA1,qA1]
  grind
 rw[g]at f;exact h.mul f ha
def IsPoly:Nat->(Int->Int)->Prop
 | 0,f=>∀x,f x=0
 | n+1,f=>∃(a:Int)(g:Int->Int),IsPoly n g/\∀x,f x=a+x*g x
def IsPoly.congr:∀{n:Nat}{f g:Int->Int},IsPoly n f->(∀x,g x=f x)->IsPoly n g
 | 0,_,_,h,e=>λx=>(e x).trans (h x)
 | _+1,_,_,⟨a,k,hk,h⟩,e=>%[a,k,hk|λx=>(e x).trans (h x)]
def IsPoly.zero:∀n:Nat,IsPoly n λ_=>0
 | 0=>λ_=>rfl
 | n+1=>%[(0),λ_=>0,IsPoly.zero n|λx=>by simp]
def IsPoly.up:∀{n:Nat}{f:Int->Int},IsPoly n f->IsPoly (n+1) f
 | 0,f,h=>%[(0),λ_=>0,λ_=>rfl|λx=>by rw[h x];simp]
 | n+1,f,⟨a,g,hg,h⟩=>%[a,g,hg.up|h]
def IsPoly.upTo{n:Nat}{f:Int->Int}(h:IsPoly n f):∀m,n<=m->IsPoly m f:=λm hm=>by
 obtain⟨k,rfl⟩:∃k,m=n+k:=%[m-n|3]
 clear hm
 induction k with
 | zero=>exact h
 | succ k ih=>exact ih.up
def IsPoly.add:∀{n:Nat}{f g:Int->Int},IsPoly n f->IsPoly n g->IsPoly n λx=>f x+g x
 | 0,f,g,h,k=>λx=>by show f x+g x=0;rw[h x,k x];rfl
 | n+1,f,g,⟨a,u,hu,h⟩,⟨b,v,hv,k⟩=>%[a+b,λx=>u x+v x,hu.add hv|λx=>by show f x+g x=a+b+x*(u x+v x);rw[h x,k x];grind]
def IsPoly.mul(c:Int):∀{n:Nat}{f:Int->Int},IsPoly n f->IsPoly n λx=>c*f x
 | 0,f,h=>λx=>by show c*f x=0;rw[h x];simp
 | n+1,f,⟨a,u,hu,h⟩=>%[c*a,λx=>c*u x,hu.mul c|λx=>by show c*f x=c*a+x*(c*u x);rw[h x];grind]
def IsPoly.lin{n:Nat}{f:Int->Int}(h:IsPoly n f)(r:Int):IsPoly (n+1) λx=>(x-r)*f x:=by
 let h1:IsPoly (n+1) λx=>x*f x:=%[(0),f,h|λx=>by simp]
 exact(h1.add (h.up.mul (-r))).congr λx=>by grind
def IsPoly.div:∀{n:Nat}{f:Int->Int},IsPoly (n+1) f->∀r:Int,∃q,IsPoly n q/\∀x,f x-f r=(x-r)*q x
 | 0,f,⟨a,g,hg,h⟩,r=>%[λ_=>0,λ_=>rfl|λx=>by rw[h x,h r,hg x,hg r];simp]
 | n+1,f,⟨a,g,hg,h⟩,r=>by
   let%[q,hq|e]:=IsPoly.div hg r;erw[λx=>g x+r*q x,hg.add (hq.up.mul r),λx=>?_]
   have:=e x
   rw[h x,h r]
   grind
def IsPoly.roots(hp:Pm p):∀{n:Nat}{f:Int->Int}(rs:List Int),IsPoly n f->rs.length=n->rs.Pairwise (λa b=>¬ p ∣ b-a)->(∀r∈rs,p ∣ f r)->∀x,p ∣ f x
 | 0,f,_,h,_,_,_,x=>%[(0)|by rw[h x];simp]
 | n+1,f,[],_,hl,_,_,_=>by simp at hl
 | n+1,f,r::rs,h,hl,hd,hr,x=>by
   let%[q,hq|e]:=h.div r;let hd':=List.pairwise_cons.mp hd;let z:=IsPoly.roots hp rs hq (by simpa using hl) hd'.2 (λs hs=>by
    let h1:p ∣ (s-r)*q s:=by
     rw[←e s];exact Int.dvd_sub (hr s (qH0 _ hs)) (hr r qA0)
    exact hp.mul h1 (hd'.1 s hs)) x
   have:f x=f r+(x-r)*q x:=by have:=e x;omega
   rw[this];exact wK1 (hr r qA0) (Int.dvd_mul_of_dvd_right z)
def lT:∀c:List Int,IsPoly c.length λx=>c.foldr (λa r=>a+x*r) 0
 | []=>λ_=>rfl
 | a::r=>%[a,_,lT r|λx=>rfl]
end Mine
namespace Mine
def pr(g:Nat->Int):Nat->Int
 | 0=>1
 | n+1=>pr g n*g n
def rf{f g:Nat->Int}:∀n,(∀k,k<n->f k=g k)->pr f n=pr g n
 | 0,_=>rfl
 | n+1,h=>by
   show pr f n*f n=pr g n*g n;rw[rf n (λk hk=>h k #[0]),h n #[0]]
def re(g:Nat->Int):∀n,pr g (n+1)=g 0*pr (λk=>g (k+1)) n
 | 0=>by simp [pr]
 | n+1=>by
   show pr g (n+1)*g (n+1)=g 0*(pr (λk=>g (k+1)) n*g (n+1))
   rw[re g n,wZ0]
def px(x:Int)(i:Nat):Nat->Int
 | 0=>1
 | n+1=>if n=i then px x i n else px x i n*(x-n)
def zJ(i:Nat):∀n,IsPoly (if i<n then n else n+1) λx=>px x i n
 | 0=>%[(1),λ_=>0,λ_=>rfl|λx=>by simp [px]]
 | n+1=>by
   let ih:=zJ i n
   by_cases c:n=i
   . subst c;rw[NP (qV0 n)]at ih;rw[NQ (qI1 n)];exact ih.congr λx=>by simp [px]
   . let e:∀x,px x i (n+1)=(x-n)*px x i n:=λx=>by
      show(if n=i then px x i n else px x i n*(x-n))=_;rw[NP c,qU1]
     by_cases c2:i<n
     . rw[NQ c2]at ih;rw[NQ #[0]];exact(ih.lin n).congr e
     . rw[NP c2]at ih;rw[NP #[0]];exact(ih.lin n).congr e
def uS{k i:Nat}(h:k≠i):∀n,k<n->px (k:Int) i n=0
 | n+1,hk=>by
   show(if n=i then px (k:Int) i n else px (k:Int) i n*((k:Int)-n))=0
   by_cases c:n=i
   . rw[NQ c];exact uS h n #[0]
   . rw [NP c]
     by_cases c2:k=n
     . subst c2
       simp
     . rw [uS h n #[0]]
       simp
def lag(v u:Nat->Int)(n:Nat)(x:Int):Int:=sm (λi=>v i*px x i n*u i) n
def FZ{n m:Nat}{f:Nat->Int->Int}:(∀i,i<m->IsPoly n (f i))->IsPoly n λx=>sm (λi=>f i x) m:=by
 induction m with
 | zero=>exact λ_=>IsPoly.zero n
 | succ m ih=>exact λh=>(ih λi hi=>h i #[0]).add (h m #[0])
def nj(v u:Nat->Int)(n:Nat):IsPoly n (lag v u n):=FZ λi hi=>by
 let h:=zJ i n;rw[NQ hi]at h;exact(h.mul (v i*u i)).congr λx=>by grind
def CV{f:Nat->Int}{k:Nat}:∀n,k<n->(∀i,i<n->i≠k->f i=0)->sm f n=f k
 | n+1,hk,h=>by
   show sm f n+f n=f k
   by_cases c:k=n
   . subst c;let z:sm f k=0:=by
      have:sm f k=sm (λ_=>0) k:=qA k λi hi=>h i #[0] #[0]
      rw[this];clear this h hk
      induction k with
      | zero=>rfl
      | succ k ih=>show sm (λ_=>0) k+0=0;rw[ih];rfl
     rw[z]
     simp
   . rw [CV n #[0] (λi hi=>h i #[0]),h n #[0] #[0]]
     simp
def Wgt(p:Int)(n:Nat)(u:Nat->Int):Prop:=∀i,i<n->p ∣ px (i:Int) i n*u i-1
def yL{k:Nat}(hu:Wgt p n u)(hk:k<n):p ∣ lag v u n k-v k:=by
 unfold lag;rw[CV n hk λi hi hne=>by rw[uS (Ne.symm hne) n hk];simp];let%[m|hm]:=hu k hk;erw[v k*m,by grind]
def far{p:Int}{n:Nat}(hn:(n:Int)<=p):((List.range n).map λk:Nat=>(k:Int)).Pairwise λa b=>¬ p ∣ b-a:=by
 rw[wV0];refine List.Pairwise.imp_of_mem (fun{a b} ha hb h=>?_) List.pairwise_lt_range;intro d
 have:=jM1 #[0] d
 let hb':=List.mem_range.mp hb;omega
def alike(hp:Pm p){n:Nat}(hn:(n:Int)<=p){f g:Int->Int}(hf:IsPoly n f)(hg:IsPoly n g)(h:∀k:Nat,k<n->p ∣ f k-g k)(x:Int):p ∣ f x-g x:=by
 let hd:IsPoly n λx=>f x-g x:=(hf.add (hg.mul (-1))).congr λx=>by grind
 refine hd.roots hp ((List.range n).map λk:Nat=>(k:Int)) #[2] (far hn) (λr hr=>?_) x;let%[k,hk|1]:=List.mem_map.mp hr;exact h k (List.mem_range.mp hk)
def wJ(hp:Pm p){n:Nat}(hn:(n:Int)<=p){v:Nat->Int}{P:Int->Int}(hu:Wgt p n u)(hP:IsPoly n P)(h:∀k:Nat,k<n->p ∣ v k-P k)(x:Int):p ∣ lag v u n x-P x:=
 alike hp hn (nj v u n) hP (λk hk=>by
  let h1:=yL (v:=v) hu hk;let h2:=h k hk
  have:lag v u n k-P k=(lag v u n k-v k)+(v k-P k):=by omega
  rw[this];exact wK1 h1 h2) x
def EE(hp:Pm p){n:Nat}(hn:(n:Int)<=p)(hu:Wgt p n u)(hu':Wgt p n u')(x:Int):p ∣ lag v u n x-lag v u' n x:=
 wJ hp hn hu (nj v u' n) (λk hk=>by
  let%[m|hm]:=yL (v:=v) hu' hk;erw[-m,by grind]) x
def qX(x:Int)(i:Nat):∀m,px x i (i+1+m)=pr (λj=>x-j) i*pr (λj=>x-(i+1+j:Nat)) m
 | 0=>by
   let h:∀k,k<=i->px x i k=pr (λj=>x-j) k:=λk=>by
    induction k with
    | zero=>exact λ_=>rfl
    | succ k ih=>
      intro hk;show(if k=i then px x i k else px x i k*(x-k))=pr (λj=>x-j) k*(x-k)
      rw[NP #[0],ih #[0]]
   show(if i=i then px x i i else _)=_*1;rw[NQ rfl,h i (zG0 _),wG1]
 | m+1=>by
   show(if i+1+m=i then _ else px x i (i+1+m)*(x-(i+1+m:Nat)))=pr (λj=>x-j) i*(pr (λj=>x-(i+1+j:Nat)) m*(x-(i+1+m:Nat)))
   rw[NP #[0],qX x i m,wZ0]
def zK(x:Int)(i:Nat):∀m,pr (λj=>x-(i+m:Nat)+j) m=pr (λj=>x-(i+1+j:Nat)) m
 | 0=>rfl
 | m+1=>by
   rw[re];show _=pr (λj=>x-(i+1+j:Nat)) m*(x-(i+1+m:Nat))
   let e:pr (λk=>x-(i+(m+1):Nat)+(k+1:Nat)) m=pr (λj=>x-(i+m:Nat)+j) m:=rf m λk _=>by omega
   rw[e,zK x i m,qU1]
   congr 1
   omega
def fac:Nat->Int
 | 0=>1
 | n+1=>fac n*((n:Int)+1)
def wV:∀n:Nat,pr (λj=>(n:Int)-j) n=fac n
 | 0=>rfl
 | n+1=>by
   rw[re];let e:pr (λk=>((n+1:Nat):Int)-(k+1:Nat)) n=pr (λj=>(n:Int)-j) n:=rf n λk _=>by omega
   rw[e,wV n];show((n+1:Nat)-(0:Nat):Int)*fac n=fac n*((n:Int)+1)
   rw[qU1]
   congr 1
def Ac(i:Nat):∀m:Nat,pr (λj=>(i:Int)-(i+1+j:Nat)) m=(-1) ^ m*fac m
 | 0=>rfl
 | m+1=>by
   show pr _ m*((i:Int)-(i+1+m:Nat))=(-1) ^ (m+1)*(fac m*((m:Int)+1))
   rw[Ac i m,qA1]
   have:((i:Int)-(i+1+m:Nat))=-((m:Int)+1):=by omega
   rw[this]
   grind
def Dy(i m:Nat):px (i:Int) i (i+1+m)=fac i*((-1) ^ m*fac m):=by rw[qX,wV,Ac]
def wU:∀(k d:Nat),fac d*pr (λj=>((d+k:Nat):Int)-j) k=fac (d+k)
 | 0,d=>by simp [pr]
 | k+1,d=>by
   let ih:=wU k (d+1);rw[show d+1+k=d+(k+1) by omega]at ih;rw[←ih];show fac d*(pr (λj=>((d+(k+1):Nat):Int)-j) k*(((d+(k+1):Nat):Int)-k))=fac d*((d:Int)+1)*pr (λj=>((d+(k+1):Nat):Int)-j) k
   have:(((d+(k+1):Nat):Int)-k)=(d:Int)+1:=by omega
   rw[this]
   grind
def vE(hp:Pm p):∀n:Nat,(n:Int)<p->¬ p ∣ fac n
 | 0,_=>λd=>by
   have:=jM1 ⋯ (show p ∣ 1 from d)
   have:=hp.1
   omega
 | n+1,h=>hp.not_mul (vE hp n #[0]) λd=>by
   have:=jM1 #[0] d
   omega
def zD(m:Nat):((-1:Int) ^ m)*(-1) ^ m=1:=by
 induction m with
 | zero=>rfl
 | succ m ih=>rw[qA1];grind
def IV(hp:Pm p){n i:Nat}(hn:(n:Int)<=p)(hi:i<n):¬ p ∣ px (i:Int) i n:=by
 obtain⟨m,rfl⟩:∃m,n=i+1+m:=%[n-(i+1)|3]
 rw[Dy];refine hp.not_mul (vE hp i #[0]) (hp.not_mul (λd=>?_) (vE hp m #[0]));erw[k,hk]at d;let s:=zD m
 have:p ∣ 1:=%[k*(-1) ^ m|by grind]
 have:=jM1 ⋯ this
 have:=hp.1
 omega
def FJ{p:Int}{last:Nat}{sh:Nat->Int}(h:∀k,k<=last->p ∣ sh k*fac k-1):Wgt p (last+1) λi=>(-1) ^ (last-i)*(sh i*sh (last-i)):=λi hi=>by
 obtain⟨m,rfl⟩:∃m,last=i+m:=%[last-i|3]
 show p ∣ px (i:Int) i (i+m+1)*((-1) ^ (i+m-i)*(sh i*sh (i+m-i)))-1;rw[show i+m+1=i+1+m by omega,Dy,show i+m-i=m by omega];let%[a|ha]:=h i #[0];let%[b|hb]:=h m #[0];let s:=zD m;erw[a*(sh m*fac m)+b,6];let e:fac i*((-1) ^ m*fac m)*((-1) ^ m*(sh i*sh m))=((-1) ^ m*(-1) ^ m)*((sh i*fac i)*(sh m*fac m)):=by grind
 rw[e,s]
 grind
end Mine
namespace Mine
def fnd(g:Nat->Bool)(i:Nat):List Int:=((List.range i).filter g).map λk:Nat=>(k:Int)
def wR(g:Nat->Bool)(i:Nat):fnd g (i+1)=fnd g i++if g i=true then [(i:Int)]else []:=by
 unfold fnd;rw[qE1,jJ0,zL0];cases h:g i <;> simp [List.filter,h]
def fnd_mem{x:Int}:x∈fnd g i↔∃k:Nat,x=(k:Int)/\k<i/\g k=true:=by
 unfold fnd;rw[List.mem_map]
 constructor
 . rintro⟨k,hk,rfl⟩
   have:=List.mem_filter.mp hk
   erw[k,1,List.mem_range.mp this.1,this.2]
 . rintro⟨k,rfl,h1,h2⟩;erw[k,List.mem_filter.mpr %[List.mem_range.mpr h1|h2],1]
def wS(g:Nat->Bool)(i:Nat):(fnd g i).Pairwise (· < ·):=by
 unfold fnd;rw[wV0];exact(List.pairwise_lt_range.filter g).imp λh=>by omega
def Aa(g:Nat->Bool)(i:Nat):(fnd g i).length<=i:=by
 unfold fnd;rw[zF0];exact zR0 (jL1 _ _) (by rw[qR0];exact zG0 _)
def Ck{p a b:Int}(a0:0<=a)(b0:0<=b)(a1:a<p)(b1:b<p)(h:p ∣ a-b):a=b:=by
 erw[k,hk]at h;let h1:k<1:=by
  apply Int.lt_of_not_ge;intro c
  have:=qW0 c (show 0<=p by omega)
  omega
 let h2:-1<k:=by
  apply Int.lt_of_not_ge;intro c
  have:=qW0 c (show 0<=p by omega)
  omega
 have:k=0:=by omega
 subst this;omega
def nu{p:Int}:∀{l:List Int},l.Pairwise (· < ·)->(∀x∈l,0<=x/\x<p)->l.Pairwise λa b=>¬ p ∣ b-a
 | [],_,_=>List.Pairwise.nil
 | a::l,h,r=>by
   let h':=List.pairwise_cons.mp h;refine List.pairwise_cons.mpr %[λb hb d=>?_|nu h'.2 λx hx=>r x (qH0 _ hx)];let ra:=r a qA0;let rb:=r b (qH0 _ hb)
   have:=Ck rb.1 ra.1 rb.2 ra.2 d
   have:=h'.1 b hb
   omega
def few(hp:Pm p){n k:Nat}{f:Int->Int}(hf:IsPoly n f){x:Int}(hx:¬ p ∣ f x){rs:List Int}(hd:rs.Pairwise λa b=>¬ p ∣ b-a)(hr:∀r∈rs,p ∣ f r):rs.length<n:=by
 apply Nat.lt_of_not_le;intro c;refine hx (hf.roots hp (rs.take n) (by rw[qJ0];omega) (hd.sublist (List.take_sublist _ _)) (λr h=>hr r (List.mem_of_mem_take h)) x)
end Mine
namespace Mine
def IsPoly.prod:∀{m n:Nat}{f g:Int->Int},IsPoly (m+1) f->IsPoly (n+1) g->IsPoly (m+n+1) λx=>f x*g x
 | 0,n,f,g,⟨a,u,hu,e⟩,hg=>by
   rw[vD1];exact(hg.mul a).congr λx=>by rw[e x,hu x];simp
 | m+1,n,f,g,⟨a,u,hu,e⟩,hg=>by
   let ih:=IsPoly.prod hu hg;let h1:IsPoly (m+n+1+1) λx=>x*(u x*g x):=%[(0),_,ih|λx=>by simp]
   let h2:IsPoly (m+n+1+1) λx=>a*g x:=(hg.mul a).upTo _ #[0]
   rw[show m+1+n+1=m+n+1+1 by omega];exact(h2.add h1).congr λx=>by rw[e x];grind
def IsPoly.const(c:Int)(n:Nat):IsPoly (n+1) λ_=>c:=%[c,λ_=>0,IsPoly.zero n|λx=>by simp]
def IsPoly.self:IsPoly 2 λx=>x:=%[(0),λ_=>1,IsPoly.const 1 0|λx=>by simp]
def sw(p x:Int):p ∣ x % p-x:=⟨-(x / p),by
 have:=qY1 x p
 rw[Int.mul_neg];omega⟩
end Mine
namespace Mine
def evl(x:Int)(c:List Int):Int:=c.foldr (λa r=>a+x*r) 0
def kF(x a:Int)(r:List Int):evl x (a::r)=a+x*evl x r:=rfl
def Ae{p:Int}:∀c:List Int,evl x (c.map (· % p)) % p=evl x c % p
 | []=>rfl
 | a::r=>by
   rw[zX0,kF,kF,jD1,qO1,Ae r,←qO1,Int.emod_emod_of_dvd _ (vD0 p),←jD1]
def Af(hp:Pm p):∀c:List Int,(c.length:Int)<=p->(∀x,p ∣ evl x c)->∀a∈c,p ∣ a
 | [],_,_,a,ha=>by cases ha
 | b::r,hl,h,a,ha=>by
   let h0:p ∣ b:=by
    have:=h 0
    rw[kF,Int.zero_mul,Int.add_zero]at this;exact this
   let hl':(r.length:Int)+1<=p:=by
    rw[zP0]at hl;omega
   let hr:∀x,p ∣ evl x r:=λx=>by
    refine(lT r).roots hp ((List.range r.length).map λk:Nat=>(k:Int)+1) #[2] ?_ ?_ x
    . refine nu ?_ ?_
      . rw[wV0];exact List.pairwise_lt_range.imp λh=>by omega
      . intro y hy;let%[k,hk|1]:=List.mem_map.mp hy
        have:=List.mem_range.mp hk
        omega
    . intro y hy;let%[k,hk|1]:=List.mem_map.mp hy;let hk':=List.mem_range.mp hk;let h1:=h ((k:Int)+1);rw[kF]at h1;let h2:p ∣ ((k:Int)+1)*evl ((k:Int)+1) r:=by
       have:=Int.dvd_sub h1 h0
       rwa [show b+((k:Int)+1)*evl ((k:Int)+1) r-b=((k:Int)+1)*evl ((k:Int)+1) r by omega]at this
      refine hp.mul h2 λd=>?_
      have:=jM1 #[0] d
      omega
   rcases zW0 ha with e | e
   . rw[e];exact h0
   . exact Af hp r #[0] hr a e
def ma(p:Int)(c:List Int):List Int:=fnd (λs=>decide (evl (s:Int) c % p=0)) p.toNat
def AH(hp:Pm p){c:List Int}(hl:(c.length:Int)<=p)(h:∃a∈c,¬ p ∣ a):(ma p c).length<c.length:=by
 have:∃x,¬ p ∣ evl x c:=Classical.byContradiction λz=>by
  erw[a,ha,hn]at h;exact hn (Af hp c hl (λx=>Classical.byContradiction λy=>z %[x|y]) a ha)
 erw[x,hx]at this;let p1:=hp.1;refine few (k:=0) hp (lT c) hx (rs:=ma p c) (nu (wS _ _) λy hy=>?_) λy hy=>?_
 . let%[k,1,hk|_]:=fnd_mem.mp hy;omega
 . let%[k,1,hk|hg]:=fnd_mem.mp hy;exact qH1 (zM1 hg)
def ovr(xs cs:List Int):List Int:=List.zipWith (· - ·) xs cs
def pZ{xs cs:List Int}(h:xs.length=cs.length):(ovr xs cs).length=xs.length:=by
 unfold ovr;rw[List.length_zipWith];omega
def DM{xs cs:List Int}{i:Nat}{x c:Int}(hx:xs[i]?=some x)(hc:cs[i]?=some c):(ovr xs cs).take (i+1)=(ovr xs cs).take i++[x-c]:=by
 have:(ovr xs cs)[i]?=some (x-c):=by
  unfold ovr;rw[List.getElem?_zipWith,hx,hc]
 rw[qI0,this];rfl
def wrg(p:Int)(c:List Int):Bool:=c.any λn=>!decide (n % p=0)
def wrg_iff:wrg p c=true↔∃a∈c,¬ p ∣ a:=by
 unfold wrg;rw[List.any_eq_true]
 constructor
 . rintro⟨a,ha,h⟩;erw[a,ha,λd=>?_];rw[Int.emod_eq_zero_of_dvd d]at h
   revert h
   decide
 . rintro⟨a,ha,h⟩;erw[a,ha,6];rw[zB1 λz=>h (qH1 z)];rfl
def Fs{p:Int}:∀c:List Int,((c.map (· % p)).map λn=>!decide (n=0)).any id=wrg p c
 | []=>rfl
 | a::r=>by
   have:=Fs (p:=p) r
   unfold wrg at this ⊢;rw[zX0,zX0,jE0,jE0,this];rfl
end Mine
namespace Mine
def cgt(p:Int)(ds:List Int):Int:=ds.foldl (λa d=>a*(p-d)) 1
def Fn(p:Int)(ds:List Int)(d:Int):cgt p (ds++[d])=cgt p ds*(p-d):=by
 unfold cgt;rw[List.foldl_append];rfl
def oa{p:Int}:∀(ds:List Int)(a:Int),0<a->(∀d∈ds,d<p)->0<ds.foldl (λa d=>a*(p-d)) a
 | [],a,h,_=>h
 | d::r,a,h,hd=>by
   let h1:=hd d qA0;exact oa r _ (Int.mul_pos h #[0]) λe he=>hd e (qH0 _ he)
def Hx{p:Int}{ds:List Int}(h:∀d∈ds,d<p):0<cgt p ds:=oa ds 1 ⋯ h
def sU(p:Int)(n m:Nat)(g:Int)(c:List Int):Int:=
 if wrg p c=true then(if m=1 then p ^ n-g else((ma p c).length:Int)*p ^ n+(p-((ma p c).length:Int))*(p ^ n-g))else p ^ (if m=1 then n else n+1)
def zM{p:Int}(h:0<p):∀n:Nat,0<p ^ n
 | 0=>by rw[jT0];decide
 | n+1=>by rw[qA1];exact Int.mul_pos (zM h n) h
def EB{g:Int}(hp:Pm p){m:Nat}{c:List Int}(m1:1<=m)(hl:c.length=m)(mp:(m:Int)<=p)(g0:0<g):decide (sU p n m g c<p ^ (n+if 1<m then 1 else 0))=wrg p c:=by
 let p0:0<p:=by have:=hp.1;omega
 unfold sU
 by_cases h:wrg p c=true
 . rw [NQ h,h];refine zD1 ?_
   by_cases hm:m=1
   . rw[NQ hm,NP #[0],Nat.add_zero];omega
   . rw [NP hm,NQ #[0],qA1];let few:=AH hp (c:=c) (by rw[hl];exact mp) (wrg_iff.mp h);generalize (ma p c).length=b at few;let hb:(b:Int)<p:=by omega
     let h1:0<(p-b)*g:=Int.mul_pos #[0] g0;let e:(b:Int)*p ^ n+(p-b)*(p ^ n-g)=p ^ n*p-(p-b)*g:=by grind
     rw[e];omega
 . rw [NP h];let h':wrg p c=false:=by simpa using h
   rw[h'];refine zB1 ?_
   by_cases hm:m=1
   . rw[NQ hm,NP #[0],Nat.add_zero];omega
   . rw[NP hm,NQ #[0]];omega
end Mine
namespace Mine
open PySem L2
def Hk{us:List Value}(h:us.length=1):∃a,us=[a]:=by
 cases us with
 | nil=>cases h
 | cons a r=>
   cases r with
   | nil=>erw[a,1]
   | cons _ _=>cases h
def BD{us:List Value}{n:Nat}(h:us.length=n+1):∃a r,us=a::r/\r.length=n:=by
 cases us with
 | nil=>cases h
 | cons a r=>erw[a,r,1,Nat.succ.inj h]
def Hj{us:List Value}(h:us.length=2):∃a b,us=[a,b]:=by
 let%[a,r,1|h1]:=BD h;let%[b|1]:=Hk h1;erw[a,b,1]
def Hi{us:List Value}(h:us.length=3):∃a b c,us=[a,b,c]:=by
 let%[a,r,1|h1]:=BD h;let%[b,c|1]:=Hj h1;erw[a,b,c,1]
def Hh{us:List Value}(h:us.length=4):∃a b c d,us=[a,b,c,d]:=by
 let%[a,r,1|h1]:=BD h;let%[b,c,d|1]:=Hi h1;erw[a,b,c,d,1]
def len5{us:List Value}(h:us.length=5):∃a b c d e,us=[a,b,c,d,e]:=by
 let%[a,r,1|h1]:=BD h;let%[b,c,d,e|1]:=Hh h1;erw[a,b,c,d,e,1]
def len6{us:List Value}(h:us.length=6):∃a b c d e f,us=[a,b,c,d,e,f]:=by
 let%[a,r,1|h1]:=BD h;let%[b,c,d,e,f|1]:=len5 h1;erw[a,b,c,d,e,f,1]
def len7{us:List Value}(h:us.length=7):∃a b c d e f g,us=[a,b,c,d,e,f,g]:=by
 let%[a,r,1|h1]:=BD h;let%[b,c,d,e,f,g|1]:=len6 h1;erw[a,b,c,d,e,f,g,1]
def top(i:Nat):Stmt:=PySem.Challenge.pw_asktally_k81_whole_any_helper.main.body.getD i (.Pass %[(0),(0),(0)|(0)])
abbrev lO:Stmt:=top 13
abbrev jv:Stmt:=top 14
abbrev kc:Stmt:=top 15
abbrev lF:Stmt:=top 17
abbrev ki:Stmt:=top 18
abbrev ia:Stmt:=top 19
abbrev lH:Stmt:=top 20
abbrev dZ:Stmt:=top 21
abbrev ig:Stmt:=top 23
abbrev jw:Stmt:=top 24
abbrev qO:Stmt:=top 25
abbrev lP:Stmt:=top 26
abbrev ib:Stmt:=top 27
abbrev kQ:Stmt:=top 28
abbrev jp:Stmt:=top 29
abbrev ku:Stmt:=top 32
abbrev kh:Stmt:=top 34
abbrev lG:Stmt:=top 35
abbrev jo:Stmt:=top 39
abbrev lI:Stmt:=top 40
abbrev oF:Stmt:=top 41
abbrev uB:Stmt:=top 46
abbrev gN:Stmt:=top 47
abbrev jy:Stmt:=top 49
abbrev qI:Stmt:=top 50
abbrev ox:Stmt:=top 53
abbrev eB:Stmt:=top 54
abbrev kf:Stmt:=top 55
abbrev jm:Stmt:=top 57
abbrev ie:Stmt:=top 58
abbrev kg:Stmt:=top 62
abbrev gO:Stmt:=top 63
abbrev jq:Stmt:=top 64
abbrev jr:Stmt:=top 65
abbrev jZ:Stmt:=top 66
abbrev oE:Stmt:=top 76
abbrev ju:Stmt:=top 77
abbrev iL:Stmt:=top 85
abbrev jx:Stmt:=top 86
abbrev jY:Stmt:=top 87
abbrev ic:Stmt:=top 88
abbrev iB:Stmt:=top 89
abbrev dM:Stmt:=top 90
abbrev qP:Stmt:=top 94
abbrev kj:Stmt:=top 95
abbrev iM:Stmt:=top 96
abbrev kq:Stmt:=top 97
abbrev iO:Stmt:=top 98
abbrev fX:Stmt:=top 99
abbrev iN:Stmt:=top 100
abbrev oB:Stmt:=top 102
abbrev qN:Stmt:=top 103
abbrev qK:Stmt:=top 104
abbrev cj:Stmt:=top 105
abbrev mv:Stmt:=top 106
abbrev gU:Stmt:=top 107
abbrev qL:Stmt:=top 108
abbrev jt:Stmt:=top 109
abbrev mx:Stmt:=top 110
abbrev lN:Stmt:=top 111
abbrev qM:Stmt:=top 112
abbrev iC:Stmt:=top 113
abbrev oA:Stmt:=top 114
abbrev oC:Stmt:=top 115
abbrev lJ:Stmt:=top 116
abbrev lK:Stmt:=top 117
abbrev uE:Stmt:=top 118
abbrev ms:Stmt:=top 119
section
variable {P:Program} {w:World} {K:W.Frag} {mg:Str->Option Value} {base:Heap}
abbrev dz:Stmt:=top 31
abbrev km:Stmt:=top 37
abbrev kR:Stmt:=top 44
abbrev uG:Stmt:=top 61
structure Bl(mg:Str->Option Value):Prop where
 len:mg "len"=none
 range:mg "range"=none
 isinstance:mg "isinstance"=none
 int:mg "int"=none
 bool:mg "bool"=none
 list:mg "list"=none
 tuple:mg "tuple"=none
 max:mg "max"=none
 min:mg "min"=none
 reversed:mg "reversed"=none
 enumerate:mg "enumerate"=none
 sum:mg "sum"=none
 all:mg "all"=none
 zip:mg "zip"=none
 dict:mg "dict"=none
 any:mg "any"=none
def Ab(z:Int):0<=z % 2147483646+1/\z % 2147483646+1<=2147483646:=by omega
def gK:FnScope ["_law_script","_law_k","_law_cell","_law_own"] Wt (ah qN):=%[|5]
def Bi   (F:Fun K "_law_feed" "_law_feed" qN f fd) (hlen:mg "len"=none):#[1,f,fd,Wt,spFeed K]:=by
 exists gK
 erw[a,ns,k,1,hS,h63,k0,k1,q]at h;refine⟨_,(aa #[ai,2,gK,aq aS (aq ci ae (pv 1)) ae]
  (aa (aI (ag dN (pv 1) (aG aE rfl hlen zC1 %[0|aP]) (ax _)) (ad #[ai,2,gK,aM ix_list (pv 0) (pv 1) #[1]]) (ad (aI (ag gQ (aG aE rfl hlen zC1 %[0|aP]) ae (ax _)) (ad #[ai,2,gK,aq aS (aq ci (aq ba (aM ix_list (pv 0) (aq ba (pv 1) (aG aE rfl hlen zC1 %[0|aP])) #[1]) ae) ae) (aq ci ae (pv 1))]) az)))
  (aa #[ai,3,gK,ae]
  (aa (aI (ag Ib (pv 2) (aq DO ae ae) (ax _)) (ad #[ai,3,gK,pv 2]) az)
  (ad (am (dL %[3,aq aS (aq ba (aq aS (aq ci (aq ba (pv 2) ae) ae) (aq ci ae (pv 1))) ae) ae|aP]))))))),?_⟩
 let hl:(ns.map V.int).length=ns.length:=zF0 _;let hp:(10:Int) ^ (18:Int).toNat=1000000000000000000:=by decide
 erw[0,2,.inl %[4|4],2,6];erw[0,0,a,0,.inl hS,2,0,6];refine oP (λc=>?b1) (λc=>?b2)
 case' b1=>
  let c':k<(((ns.map V.int).length:Nat):Int):=zM1 c;rw[hl]at c';let%[v|hv]:=Fq (ns:=ns) k0 c';erw[0,0,a,_,2,hS,hv,6]
 case' b2=>
  erw[0,a,0,.inl hS,2,0,6];refine oP (λc2=>?b3) (λc2=>?b4)
  case' b3=>
   let c':(0:Int)<(((ns.map V.int).length:Nat):Int):=zM1 c2;let m0:=qE0 k (b:=(((ns.map V.int).length:Nat):Int)) #[0];let m1:=qG0 k c';let%[v|hv]:=Fq (ns:=ns) m0 (by rw[hl]at m1 ⊢;exact m1);let n0:=qE0 v (b:=2147483629) ⋯;let n1:=qG0 v (b:=2147483629) ⋯;erw[0,0,0,a,0,.inl hS,2,c',a,_,2,hS,hv,2,(by show(0:Int)<_;decide),2,.inr %[4|4],0,2,.inl %[4|4],2,6]
 all_goals
  erw[0,2,%[4,4|4],2,0,6];refine oP (λc3=>?_) (λc3=>?_)
  . let c4:=zM1 c3;rw[hp]at c4;erw[0,0,0,2,(by show(0:Int)<_;decide),2,.inr %[4|4],0,2,.inl %[4|4],2,2,(by show(0:Int)<_;decide),2,y2S,λp hp=>?_];refine q p _ hp (zC0 hp _) %[_,_,aJ,Int.le_trans ⋯ c4,(Ab _).1|(Ab _).2]
  . erw[0,0,2,(by show(0:Int)<_;decide),2,.inr %[4|4],0,2,.inl %[4|4],2,2,(by show(0:Int)<_;decide),2,y2S,λp hp=>?_];refine q p _ hp (zC0 hp _) %[_,_,aJ,zX1 0,(Ab _).1|(Ab _).2]
def qH:FnScope ["_law_feed_here","_law_many","_law_digit","_law_one"] WD (ah qK):=%[|5]
def Bf   (F:Fun K "_law_take" "_law_take" qK f fd):#[1,f,fd,WD,spTake]:=by
 exists qH
 erw[f,m,1,%[own,st,hf,o0,s0|s1],m0,m1,q]at h;refine⟨_,(aa (aI (ag gQ (aM ix_list (pv 0) ae #[1]) ae (ax _)) (aa #[ai,2,qH,aq ba (aM ix_list (pv 0) ae #[1]) (pv 1)]
  (aa (rc (aq DP (aM ix_list (pv 0) ae #[1]) (pv 1)) (ye (pv 0) ae qE))
  (ad (am (pv 2))))) az)
  (aa #[ai,3,qH,aq ba (aq ci (aM ix_list (pv 0) ae #[1]) ae) ae]
  (aa (rc (aq aS (aq ba (aq aS (aq ci (pv 3) ae) ae) ae) ae) (ye (pv 0) ae qE))
  (ad (am (aq ba (aq zP (aq aS (aq ci (pv 3) ae) (aM ix_list (pv 0) ae #[1])) ae) (pv 1))))))),?_⟩
 erw[0,f,_,(0),0,1,zH0 hf,1,2,0,6];refine oP (λc=>?_) (λc=>?_)
 . erw[0,f,_,(0),0,1,zH0 hf,1,0,2,m0,6];erw[0,f,_,(0),0,1,zH0 hf,1,0,2,%[m0|m1],0,f,_,(0),(0),1,1,hf,1,6];erw[0,6];exact q _ _ (qE0 _ #[0]) (qG0 _ m0) ⟨_,_,aJ,Int.ediv_nonneg o0 #[0],s0,s1⟩ (SameBut.upd _)
 . let a0:=qE0 (st*69621) (b:=2147483647) ⋯;let a1:=qG0 (st*69621) (b:=2147483647) ⋯;erw[0,f,_,(1),0,1,zH0 hf,1,2,.inr %[4|4],2,(by show(0:Int)<_;decide),6];erw[0,2,.inr %[4|4],2,2,(by show(0:Int)<_;decide),2,0,f,_,(1),(1),1,1,hf,1,6];let b0:=qE0 (st*69621 % 2147483647*48271+30103) (b:=2147483646) ⋯;let b1:=qG0 (st*69621 % 2147483647*48271+30103) (b:=2147483646) ⋯;erw[0,2,.inr %[4|4],0,f,_,(1),0,1,zH0 aJ,1,2,2,%[4|4],0,2,m0,6];exact q _ _ (qE0 _ #[0]) (qG0 _ m0) ⟨_,_,aJ,o0,by omega,by omega⟩ (SameBut.upd _)
def iT:FnScope ["_law_feed_here","_law_names_here","_law_room","_law_deep","_law_form","_law_more","_law_one","_law_word"] WR (ah mv):=%[|5]
def lf{a X Y B:Prop}[Decidable a](x:X)(h:¬ a->X->B):if decide a=true then(if true=true then X else Y)else B:=by
 by_cases c:a
 . rw[zD1 c];exact eF (eF x)
 . rw[zB1 c];exact dI (h c x)
def AD {n:Nat}   (F:Fun K "_law_tree" "_law_tree" mv f fd) (hlen:mg "len"=none) (aX:#[1,"_law_take",WD,spTake])
 (gH:#[n+2,"_law_tree",WR,spTree n]):#[n+3,f,fd,WR,spTree (n+1)]:=by
 exists iT
 erw[f,a,room,deep,ns,1,hF,hN,nl,r1,r100,d1,dn,q]at h;refine⟨_,(aa #[ai,4,iT,aj aX hr (zG1 (zU0 _)) rfl %[0,ae|aP]]
  (aa (aI (PW.pt (ii (ag dN (pv 2) ae (ax _)) (ii (ag dN (pv 3) ae (ax _)) (gP (ag aR (pv 4) ae (ax _)))))) (aa (aI (PW.pt (ii (ag aR (aq ba (pv 4) ae) ae (ax _)) (gP (ag aR (aG aE rfl hlen zC1 %[1|aP]) ae (ax _))))) (ad (am (aM ix_list (dL %[aF %[ao|aP],aF %[ao|aP]|aP]) (aj aX hr (zG1 (zU0 _)) rfl %[0,ae|aP]) #[1]))) az)
   (ad (am (aF %[ao,aM (ix_list.or ix_tup) (pv 1) (aj aX hr (zG1 (zU0 _)) rfl %[0,aG aE rfl hlen zC1 %[1|aP]|aP]) #[1]|aP])))) az)
  (aa (aI (PW.pt (ii (ag dN (pv 2) ae (ax _)) (gP (ag aR (pv 4) ae (ax _))))) (ad (am (aF %[ao,aj gH hr (zG0 _) rfl %[0,1,aq bh (pv 2) ae,aq bh (pv 3) ae|aP]|aP]))) az)
  (aa #[ai,5,iT,aq aS ae (aj aX hr (zG1 (zU0 _)) rfl %[0,aq bh (pv 2) ae|aP])]
  (aa #[ai,6,iT,aj gH hr (zG0 _) rfl %[0,1,5,aq bh (pv 3) ae|aP]]
  (aa #[ai,7,iT,aM ix_list (dL %[ao,ao,ao,ao|aP]) (aq ba (pv 4) ae) #[1]]
  (ad (am (aF %[7,6,aj gH hr (zG0 _) rfl %[0,1,aq bh (aq bh (pv 2) ae) (pv 5),aq bh (pv 3) ae|aP]|aP]))))))))),?_⟩
 erw[0,f,(10),1,hF,4,4,λfm H1 f0 f10 F1 S1=>?_];let N1:=hN.feed hF S1;erw[0,2,0,6];refine lf ?leaf λc1 hX=>?_
 case leaf=>
  erw[0,2,(by show(0:Int)<_;decide),1,0,6];refine lf ?yn λc6 hY=>?_
  case yn=>
   erw[y1S,λp1 h1=>?_];erw[y1S,λp2 h2=>?_];erw[y2S,λl hl=>?_];let ga:=zC0 h1 (.tup [.str "yes"]);let gb:=zC0 h2 (.tup [.str "no"]);let gc:=zC0 hl (.lst [.ref p1,.ref p2]);let G:=ga.trans (gb.trans gc);let nlf:=(F1.same (ga.trans gb)).ne hl;erw[0,f,(2),1,F1.same G,4,4,λd H2 d0 d2 F2 S2=>?_];let y2:H2 p1=some (.tup [.str "yes"]):=bj (F1.same G) S2 _ _ (gc _ _ (gb _ _ aJ));let n2:H2 p2=some (.tup [.str "no"]):=bj (F1.same G) S2 _ _ (gc _ _ aJ);let l2:=S2 l _ nlf aJ
   have:d=0∨d=1:=by omega
   rcases this with rfl | rfl
   . erw[l,_,(0),0,1,zH0 l2,1,q (.ref p1) .yes H2 F2 (S1.trans ((zJ0 G).trans S2)) (.yes y2) trivial (show(1:Int)<=room from r1) (show(1:Int)<=deep from d1)]
   . erw[l,_,(1),0,1,zH0 l2,1,q (.ref p2) .no H2 F2 (S1.trans ((zJ0 G).trans S2)) (.no n2) trivial (show(1:Int)<=room from r1) (show(1:Int)<=deep from d1)]
  erw[0,a,0,N1.seq,1,0,6]
  by_cases c7:V.int ((ns.map V.str).length:Int)=V.int 0
  . exact aV c7 hY
  refine aD c7 ?_;let nz:0<ns.length:=by
   let z:¬ ((ns.map V.str).length:Int)=0:=λz=>c7 (congrArg V.int z)
   rw[zF0]at z;omega
  erw[0,0,0,a,0,N1.seq,f,0,F1,(show(0:Int)<((ns.map V.str).length:Int) by rw[zF0];omega),by rw[zF0];omega,λd H2 d0 d9 F2 S2=>?_];let%[v,hv|vm]:=oi (l:=ns.map V.str) (i:=d) d0 d9;let%[x,hx|1]:=List.mem_map.mp vm;refine(N1.feed F1 S2).ix hv ?_;erw[y2S,λp hp=>?_];let G:=zC0 hp (.tup [.str "is",.str x]);exact q (.ref p) (.is x) _ (F2.same G) (S1.trans (S2.trans (zJ0 G))) (.is aJ) hx (show(1:Int)<=room from r1) (show(1:Int)<=deep from d1)
 erw[0,2,0,6]
 by_cases c2:deep<2
 . exact aV c2 (eF hX)
 refine aD c2 ?_;erw[0,1,0,6]
 by_cases c3:V.int fm=V.int 9
 . exact aV c3 hX
 refine aD c3 ?_;erw[0,2,0,6];let d2:2<=deep:=by omega
 let dd:1<=deep-1:=by omega
 let ddn:deep-1+1<=(n:Int)+1:=by omega
 refine lf ?nt λc4 hN=>?_
 case nt=>
  erw[0,0,0,2,0,2,f,a,_,_,ns,1,F1,N1,nl,(show 1<=room-1 by omega),3,dd,ddn,λv1 t1 H3 F3 S3 T1 o1 z1 p1=>?_];erw[y2S,λp hp=>?_];let G5:=zC0 hp (.tup [.str "not",v1]);refine q (.ref p) (.not t1) _ (F3.same G5) (S1.trans (S3.trans (zJ0 G5))) (.not aJ (T1.mono (aY G5))) o1 ?_ ?_
  . show((t1.size+1:Nat):Int)<=room;omega
  . show((t1.depth+1:Nat):Int)<=deep;omega
 erw[0,1,0,6]
 by_cases c5:V.int fm=V.int 8
 . exact aV c5 hN
 refine aD c5 ?_;erw[0,0,2,f,0,F1,(show(0:Int)<room-2 by omega),(show room-2<2 ^ 63 by omega),λe H2 e0 e1 F2 S2=>?_];erw[2,6];let N2:=N1.feed F1 S2;erw[0,0,0,0,2,f,a,_,_,ns,1,F2,N2,nl,3,3,dd,ddn,λv1 t1 H3 F3 S3 T1 o1 z1 p1=>?_];let N3:=N2.feed F2 S3;erw[y4S,λl hl=>?_];let%[wd,hw|wm]:=oi (l:=joinW.map V.str) (i:=fm % 4) #[0] (by
  have:(joinW.map V.str).length=4:=by rfl
  omega)
 let%[x,hx|1]:=List.mem_map.mp wm;erw[0,2,(by show(0:Int)<_;decide),l,_,2,zH0 aJ,hw,6];let G:=zC0 hl (.lst [.str "and",.str "or",.str "odd",.str "same"]);erw[0,0,0,0,0,2,0,2,0,2,f,a,_,_,ns,1,F3.same G,N3.same G,nl,(show 1<=room-1-(1+e) by omega),3,dd,ddn,λv2 t2 H4 F4 S4 T2 o2 z2 p2=>?_];erw[y3S,λp hp=>?_];let G5:=zC0 hp (.tup [.str x,v1,v2]);let T1':TreeAt H4 v1 t1:=(T1.mono (aY G)).mono (bj (F3.same G) S4);refine q (.ref p) (.bin x t1 t2) _ (F4.same G5) (S1.trans (S2.trans (S3.trans ((zJ0 G).trans (S4.trans (zJ0 G5)))))) (.bin aJ (T1'.mono (aY G5)) (T2.mono (aY G5))) %[hx,o1|o2] ?_ ?_
 . show((t1.size+t2.size+1:Nat):Int)<=room;omega
 . show((max t1.depth t2.depth+1:Nat):Int)<=deep;omega
def AC  :#[2,f,fd,WR,spTree 0]:=by
 let no:∀vs H Q E,¬ spTree 0 vs H Q E:=λvs H Q E h=>by
  erw[f,a,room,deep,ns,_,_,_,_,_,_,h1,h2,_]at h;omega
 exists 3
def tI   (F:Fun K "_law_tree" "_law_tree" mv f fd) (hlen:mg "len"=none) (m:mg "_law_tree"=some (.ref f)) (aX:#[1,"_law_take",WD,spTake]) :
 ∀n:Nat,#[n+2,f,fd,WR,spTree n]
 | 0=>AC
 | n+1=>AD F hlen aX (Cal.of F (tI F hlen m aX n) m (λ_ _ _ _ _ _ us hl=>by let%[u0,u1,u2,u3|1]:=Hh hl;rfl))
def Jn:Stmt->List Stmt
 | .If _ b _ _=>b
 | _=>[]
def Jm:Stmt->Expr
 | .If c _ _ _=>c
 | _=>.Constant .none 0 %[(0),(0),(0)|(0)]
def Cu:Stmt->Expr
 | .Assign _ v _=>v
 | .Return (some v) _=>v
 | _=>.Constant .none 0 %[(0),(0),(0)|(0)]
def yU:Expr->List Expr
 | .List es _=>es
 | .BinOp _ _ (.List es _) _=>es
 | .Subscript (.List es _) _ _=>es
 | _=>[]
abbrev stm(s:Stmt)(i:Nat):Stmt:=(gq s).getD i (.Pass %[(0),(0),(0)|(0)])
abbrev FX(s:Stmt)(i j:Nat):Stmt:=(Jn (stm s i)).getD j (.Pass %[(0),(0),(0)|(0)])
def wordsA:List Str:=["is","set","say","if","go","end","num","box","op","field","holds","claims"]
def wordsB:List Str:=["nota","nob","yesx","andy","ors","oddly"]
def wordsC:List Str:=["samey","rounds","dues","coins","truex","asks"]
@[irreducible] def yC:List Expr:=yU (Cu (FX cj 6 0))
@[irreducible] def yB:List Expr:=yU (Cu (FX cj 6 1))
@[irreducible] def yA:List Expr:=yU (Cu (FX cj 6 2))
def Ep:Consts yC wordsA:=by
 unfold yC;exact .cons (.cons (.cons (.cons (.cons (.cons (.cons (.cons (.cons (.cons (.cons (.cons .nil)))))))))))
def Eo:Consts yB wordsB:=by
 unfold yB;exact .cons (.cons (.cons (.cons (.cons (.cons .nil)))))
def En:Consts yA wordsC:=by
 unfold yA;exact .cons (.cons (.cons (.cons (.cons (.cons .nil)))))
def yz:∃p1 p2 p3 p4 p5 p6 p7 p8 p9 q1 q2 q3 q4 q5,gq cj=[stm cj 0,stm cj 1,stm cj 2,stm cj 3,stm cj 4,stm cj 5,
 .If (Jm (stm cj 6)) [.Assign [.Name "_law_words" p1] (.List yC p2) p3,.Assign [.Name "_law_words" p4] (.BinOp (.Name "_law_words" p5) .Add (.List yB p6) p7) p8,.Assign [.Name "_law_words" p9] (.BinOp (.Name "_law_words" q1) .Add (.List yA q2) q3) q4,FX cj 6 3] [] q5,stm cj 7]:=
 %[_,_,_,_,_,_,_,_,_,_,_,_,_,_|by rfl']
def LTR:Str:="bcdfghjklmnpqrstvwxz"
def Je:∀c∈LTR.cps.toList,c≠97:=by decide
def yI:∀c∈LTR.cps.toList,97<=c/\c<=122:=by decide
def Co:∀x∈(wordsA++wordsB)++wordsC,x.length<=20/\(∀c∈x.cps.toList,97<=c/\c<=122)/\x≠"aa":=by decide
instance spNamesN:∀(f:Addr)(m:Int),vs=[.ref f,.int m]->FeedAt H f->0<=m->m<=6->(∀(l:Addr)(ns:List Str)(H':Hp),H l=none->l≠f->H' l=some (.lst (ns.map V.str))->ns.length=m.toNat->(∀x∈ns,oX x)->ns.Nodup->FeedAt H' f->SameBut f H H'->Q (.ref l) H'):=1
def At:∀x∈(wordsA++wordsB)++wordsC,∃c∈x.cps.toList,c∉LTR.cps.toList:=by decide
def Hf:∀a b:Fin 20,LTR.cps.toList[a.val]?=LTR.cps.toList[b.val]?->a=b:=by decide
def Em{ns:List Str}{t:Nat}{u:Int}(u0:0<=u)(u20:u<20)(hl:ns.length<=6)(h:∀(k:Nat) x,ns[k]?=some x->x.cps.toList[t]?=LTR.cps.toList[((u+7*(k:Int)) % 20).toNat]?):ns.Nodup:=by
 refine List.pairwise_iff_getElem.mpr λi j hi hj ij e=>?_
 let h1:=h i _ (zM0 hi);let h2:=h j _ (zM0 hj);rw[e]at h1;let h3:=h1.symm.trans h2;let h4:=Hf %[((u+7*(i:Int)) % 20).toNat|3] ⟨((u+7*(j:Int)) % 20).toNat,by omega⟩ h3;let h5:=congrArg Fin.val h4;simp only at h5;omega
def Jc{ns:List Str}{x:Str}{j:Nat}(h:ns.Nodup)(hx:x∉ns):(ns.set j x).Nodup:=by
 refine List.pairwise_iff_getElem.mpr λa b ha hb ab=>?_
 rw[List.length_set]at ha hb;rw[List.getElem_set,List.getElem_set]
 split
 . split
   . omega
   . intro e;exact hx (e▸qP0 hb)
 . split
   . intro e;exact hx (e▸qP0 ha)
   . exact List.pairwise_iff_getElem.mp h a b ha hb ab
def JP{α:Type}{l:List α}{i:Int}{v:α}(h0:0<=i)(h:atI l i=some v):l[i.toNat]?=some v:=by
 let ek:((i.toNat:Nat):Int)=i:=by omega
 by_cases c:i.toNat<l.length
 . let q:atI l ((i.toNat:Nat):Int)=some l[i.toNat]:=cx (zM0 c);rw[ek,h]at q;rw[zM0 c];exact q.symm
 . exfalso
   unfold atI ixN at h;rw[NQ h0,NP #[0]]at h;cases h
def CK{zs:List Str}(h:∀z∈zs,z.length=1/\∀c∈z.cps.toList,c∈LTR.cps.toList):(zs.map (·.length)).sum=zs.length:=by
 induction zs with
 | nil=>rfl
 | cons a r ih=>
   rw[zX0,zT1,ih λz hz=>h z (qH0 _ hz),(h a qA0).1,zP0];omega
def b7:FnScope ["_law_feed_here","_law_many","_law_letters","_law_common","_law_at","_law_first","_law_found","_law_k","_law_tail","_law_sign","_law_words"] WD (ah cj):=%[|5]
def nO{p:Addr}(F:FeedAt H f)(h:p≠f):FeedAt (upd H p o) f:=by
 erw[x,t,e,r]at F;erw[x,t,by rw[aB (Ne.symm h)];exact e,r]
def yq   (F:Fun K "_law_names" "_law_names" cj f fd) (hrange:mg "range"=none) (aX:#[1,"_law_take",WD,spTake]):#[2,f,fd,WD,spNamesN]:=by
 exists b7
 erw[f,m,1,hF,m0,m6,q]at h;erw[p1,p2,p3,p4,p5,p6,p7,p8,p9,q1,q2,q3,q4,q5,ebody]at yz;rw[ebody];refine⟨_,(aa (ai (i:=2) b7.nd rfl (Or.inr rfl) ao)
  (aa (ai (i:=3) b7.nd rfl (.inl rfl) (eC jI0 PySem.F.slot_str_join PySem.F.type_str_join Hb ao (af (cH (N:=["_law_letters","_law_feed_here"]) (ix:=[2,0]) rfl
   #[4] rfl
   (bZ rfl hrange %[ae|aP])
   (λ_ _ _=>cR (aM rX (pv 1) (aj aX hr ⋯ rfl %[2,ae|aP]) #[1]))) aP)))
  (aa #[ai,4,b7,aj aX hr ⋯ rfl %[0,ae|aP]]
  (aa #[ai,5,b7,aj aX hr ⋯ rfl %[0,ae|aP]]
  (aa #[ai,6,b7,dL aP]
  (aa (cF zF1 rfl (bZ rfl hrange %[1|aP]) (bc (i:=7) b7.nd rfl (.inl rfl)) (aa #[ai,8,b7,aq ba (aj aX hr ⋯ rfl %[0,aq bh ae (pv 4)|aP]) ae]
   (aa #[ai,9,b7,aM rX (pv 2) (aq ba (aq aS (pv 5) (aq ci ae (pv 7))) ae) #[1]]
   (ad (aW (eC zE1 zH1 zI1 ca (pv 6) %[aq rH (aq rH (eJ xK (pv 3) iD (eM (pv 4))) (pv 9)) (eJ xK (pv 3) (eM (pv 4)) (eM (aq aS (pv 4) (pv 8))))|aP]))))))
  (aa (aI (PW.pt (kx (ag gQ (pv 1) ae (ax _)) (jB (ag aR (aj aX hr ⋯ rfl %[0,ae|aP]) ae (ax _))))) (aa #[ai,10,b7,dL (kW Ep)]
   (aa #[ai,10,b7,aq rG (pv 10) (dL (kW Eo))]
   (aa #[ai,10,b7,aq rG (pv 10) (dL (kW En))]
   (ad (rc (aM ix_list (pv 10) (aj aX hr ⋯ rfl %[0,ae|aP]) #[1]) (ye (pv 6) (aj aX hr ⋯ rfl %[0,1|aP]) qE)))))) az)
  (ad (am (pv 6)))))))))),?_⟩
 erw[1,(5),1,4,4,λD hD=>?_];let Df:=hF.ne hD;let L20:LTR.cps.toList.length=20:=by decide
 refine eP (λi H'=>∃zs:List Str,H' D=some (.lst (zs.map V.str))/\zs.length=i/\(∀z∈zs,z.length=1/\∀c∈z.cps.toList,c∈LTR.cps.toList)/\FeedAt H' f/\SameBut f H H') %[[],by rw[aJ];rfl,1,by simp,hF.same (zC0 hD _)|zJ0 (zC0 hD _)] ?_ ?_
 . rintro i H3 hi ⟨zs,hl,zl,z1,F3,S3⟩;let i5:i<5:=hi;erw[0,0,f,(20),1,F3,4,4,λd H4 d0 d26 F4 S4=>?_];let%[c,hc|hm]:=oi (l:=LTR.cps.toList) (i:=d) d0 (by rw[L20];exact d26);let hD4:H4 D=some (.lst (zs.map V.str)):=S4 D _ Df hl;erw[_,d,c,1,1,cq ⋯,hc,_,hD4,6,Nx.of hi %[zs++[⟨#[c]⟩],6,6,6,nO F4 Df|6]]
   . rw[zF0,zl];exact aN (wN0 (Nat.lt_trans i5 ⋯))
   . rw[aJ,zL0];rfl
   . rw[zK0,qK0,zl]
   . intro z hz;rcases qD0 hz with h | h
     . exact z1 z h
     . rw [NW h];erw[1,λc' hc'=>?_]
       have:c'=c:=by simpa using hc'
       subst this;exact hm
   . intro b o hb e;rw[aB (aQ e hD)];exact S4 b o hb (S3 b o hb e)
 rintro H3 ⟨zs,hl,zl,z1,F3,S3⟩;let sl:=CK z1;let zl5:zs.length=5:=zl;erw[_,D,zs,1,1,zH0 hl,⋯,3,6];let jl:(Txt.join "" zs).length=5:=by
  have:=size_glued "" zs
  let e0:(("":Str)).length=0:=by decide
  rw[e0,Nat.mul_zero]at this;show(Builtin.Str.glued "" zs).length=5;omega
 let jc:∀c∈(Txt.join "" zs).cps.toList,c∈LTR.cps.toList:=λc hc=>by
  let%[z,hz|h]:=By hc;exact(z1 z hz).2 c h
 generalize Txt.join "" zs=cm at jl jc;erw[0,f,(6),1,F3,4,4,λt H4 t0 t6 F4 S4=>?_];erw[0,f,(20),1,F4,4,4,λu H5 u0 u20 F5 S5=>?_];erw[y0S,λL hL=>?_];let S05:SameBut f H H5:=S3.trans (S4.trans S5);let Lf:=F5.ne hL;let L0:H L=none:=by
  cases e:H L with
  | none=>rfl
  | some o=>rw[S05 L o Lf e]at hL;cases hL
 refine⟨_,rfl,m,rfl,by omega,by omega,cW (λi σ H'=>∃(x7 x8 x9:Option V)(ns:List Str),σ=[some (.ref f),some (.int m),some (.str LTR),some (.str cm),some (.int t),some (.int u),some (.ref L),x7,x8,x9,none]/\H' L=some (.lst (ns.map V.str))/\ns.length=i/\(∀x∈ns,oX x)/\(∀x∈ns,∀c∈x.cps.toList,c∈LTR.cps.toList)/\(∀(k:Nat) x,ns[k]?=some x->x.cps.toList[t.toNat]?=LTR.cps.toList[((u+7*(k:Int)) % 20).toNat]?)/\FeedAt H' f/\SameBut f H H')
  %[_,_,_,[],1,by rw[aJ];rfl,1,by simp,by simp,by simp,F5.same (zC0 hL _)|S05.trans (zJ0 (zC0 hL _))] ?_ ?_⟩
 . rintro i σ H6 hi ⟨x7,x8,x9,ns,rfl,hns,nl,nok,nlt,nat,F6,S6⟩;erw[0,0,2,f,0,F6,(Int.sub_pos_of_lt t6),(Int.lt_of_le_of_lt (Int.sub_le_self 6 t0) ⋯),λd H7 d0 d1 F7 S7=>?_];erw[2,(by show(0:Int)<_;decide),6];let%[c,hc|hm]:=oi (l:=LTR.cps.toList) (i:=(u+7*(0+(i:Int))) % 20) (qE0 _ ⋯) (by rw[L20];exact qG0 _ ⋯);erw[0,0,0,2,6,2,2,(by show(0:Int)<_;decide),_,_,c,1,1,cq ⋯,hc,6]
   . exact .inl %[4|4]
   let hL7:=S7 L _ Lf hns;let z1:(Txt.slice cm none (some t)).length<=cm.length:=jY0 cm none (some t);let z2:(Txt.slice cm (some t) (some (t+d % 3))).length<=cm.length:=jY0 cm _ _;let z3:((%[|#[c]]:Str)).length=1:=rfl;erw[0,.inl %[1,_|zH0 hL7],6];erw[0,0,0,0,cq (by rw[jl];decide),0,2,cq (by rw[z3];omega),6];erw[0,0,0,0,0,2,0,0,cq (by rw[jl];decide),2,cq (by rw[wV1,z3];omega),6];erw[L,2,hL7,6,6]
   . rw[zF0];exact aN #[0]
   erw[_,_,_,ns++[(Txt.slice cm none (some t)++%[|#[c]])++Txt.slice cm (some t) (some (t+d % 3))],1,6,6,6,6,6,nO F7 Lf,6]
   . rw[aJ,zL0];rfl
   . rw[zK0,qK0,nl]
   . intro x hx;rcases qD0 hx with h | h
     . exact nok x h
     . rw [NW h];erw[6,λc' hc'=>?_,λea=>?_]
       . rw[wV1,wV1,z3];omega
       rotate_left
       . let cm1:c∈(((Txt.slice cm none (some t)++%[|#[c]])++Txt.slice cm (some t) (some (t+d % 3)):Str)).cps.toList:=by
          rw[jG0,jG0]
          simp
         rw[ea]at cm1;exact Je c hm ((by decide:∀c∈(("aa":Str)).cps.toList,c=97) c cm1)
       . rcases mem_append hc' with h | h
         . rcases mem_append h with h | h
           . exact yI _ (jc _ (kY h))
           . have:c'=c:=by simpa using h
             subst this;exact yI _ hm
         . exact yI _ (jc _ (kY h))
   . intro x hx c' hc';rcases qD0 hx with h | h
     . exact nlt x h c' hc'
     . rw [NW h]at hc';rcases mem_append hc' with h | h
       . rcases mem_append h with h | h
         . exact jc _ (kY h)
         . have:c'=c:=by simpa using h
           subst this;exact hm
       . exact jc _ (kY h)
   . intro k x hx
     by_cases ck:k<ns.length
     . rw[zW1 ck]at hx;exact nat k x hx
     . let kl:k<(ns++[(Txt.slice cm none (some t)++%[|#[c]])++Txt.slice cm (some t) (some (t+d % 3))]).length:=(zY0 hx).1;rw[zK0,qK0]at kl;let ek:k=i:=by omega
       subst ek;rw[zO1 #[0],nl,vE0]at hx;let ex:(Txt.slice cm none (some t)++%[|#[c]])++Txt.slice cm (some t) (some (t+d % 3))=x:=zT0 hx;rw[←ex];let cl:cm.cps.toList.length=5:=jl;let es:Txt.slice cm none (some t)=⟨((cm.cps.toList.drop 0).take (t-0).toNat).toArray⟩:=StrLaws.sliceText_to ⟨t0,by omega⟩;let el:(Txt.slice cm none (some t)).cps.toList.length=t.toNat:=by
        rw[es];simp only[jH0,Int.sub_zero,qJ0];omega
       let ea:((Txt.slice cm none (some t)++%[|#[c]])++Txt.slice cm (some t) (some (t+d % 3))).cps.toList=(Txt.slice cm none (some t)).cps.toList++([c]++(Txt.slice cm (some t) (some (t+d % 3))).cps.toList):=by
        rw[jG0,jG0]
        simp
       rw[ea,zO1 #[0],el,vE0];let hc2:LTR.cps.toList[((u+7*(0+(k:Int))) % 20).toNat]?=some c:=JP (qE0 _ ⋯) hc;rw[qZ0]at hc2;rw[hc2];rfl
   . intro b o hb e;rw[aB (aQ e L0)];exact S7 b o hb (S6 b o hb e)
 . rintro σ H6 ⟨x7,x8,x9,ns,rfl,hns,nl,nok,nlt,nat,F6,S6⟩;let nnd:ns.Nodup:=Em u0 u20 #[0] nat;erw[0,2,0,6];let fin:∀H':Hp,∀ns:List Str,H' L=some (.lst (ns.map V.str))->ns.length=m.toNat->(∀x∈ns,oX x)->ns.Nodup->FeedAt H' f->SameBut f H H'->Q (.ref L) H':=λH' ns a b c nd d e=>q L ns H' L0 Lf a b c nd d e
   by_cases c1:(0:Int)<m
   . refine aV c1 ?_;erw[0,f,(3),1,F6,4,4,λd H7 d0 d1 F7 S7=>?_];erw[1,0,6];let hL7:=S7 L _ Lf hns;refine oP (λ_=>?_) (λ_=>?_)
     . erw[y12S,λl1 h1=>?_];erw[0,y6S,λl2 h2=>?_];erw[l1,l2,wordsA.map V.str,wordsB.map V.str,1,1,zC0 h2 _ _ _ aJ,aJ,y18S,λl3 h3=>?_];erw[0,y6S,λl4 h4=>?_];erw[l3,l4,wordsA.map V.str++wordsB.map V.str,wordsC.map V.str,1,1,zC0 h4 _ _ _ aJ,aJ,y24S,λl5 h5=>?_];let G:=(zC0 h1 (.lst (wordsA.map V.str))).trans ((zC0 h2 (.lst (wordsB.map V.str))).trans ((zC0 h3 (.lst (wordsA.map V.str++wordsB.map V.str))).trans ((zC0 h4 (.lst (wordsC.map V.str))).trans (zC0 h5 (.lst ((wordsA.map V.str++wordsB.map V.str)++wordsC.map V.str))))));let F8:=F7.same G;let n5:=(F7.same ((zC0 h1 (.lst (wordsA.map V.str))).trans ((zC0 h2 (.lst (wordsB.map V.str))).trans ((zC0 h3 (.lst (wordsA.map V.str++wordsB.map V.str))).trans (zC0 h4 (.lst (wordsC.map V.str))))))).ne h5;erw[0,0,f,(24),1,F8,4,4,λe H9 e0 e1 F9 S9=>?_];let%[v,hv|vm]:=oi (l:=(wordsA.map V.str++wordsB.map V.str)++wordsC.map V.str) (i:=e) e0 (by
        have:((wordsA.map V.str++wordsB.map V.str)++wordsC.map V.str).length=24:=by rfl
        omega)
       rw[←zL0,←zL0]at vm;let%[x,hx|1]:=List.mem_map.mp vm;erw[l5,_,e,0,1,zH0 (S9 l5 _ n5 aJ),hv,6];erw[0,0,0,f,m,1,F9,c1,3,λj H10 j0 j1 F10 S10=>?_];let hL10:=S10 L _ Lf (S9 L _ Lf (G L _ hL7));erw[L,_,j,j.toNat,1,1,hL10,6,6]
       . let jl:j<((ns.map V.str).length:Int):=by rw[zF0];omega
         unfold ixN;rw[NQ j0,NQ jl]
       erw[0,6];refine fin _ (ns.set j.toNat x) (by rw[aJ,List.map_set]) (by rw[List.length_set];exact nl) ?_ ?_ (nO F10 Lf) ?_
       . intro y hy;rcases List.mem_or_eq_of_mem_set hy with h | h
         . exact nok y h
         . rw[h];exact Co x hx
       . refine Jc nnd λhm=>?_
         let%[c,c1|c2]:=At x hx;exact c2 (nlt x hm c c1)
       . intro b o hb e';rw[aB (aQ e' L0)];exact S10 b o hb (S9 b o hb (G b o (S7 b o hb (S6 b o hb e'))))
     . erw[0,6];exact fin H7 ns hL7 nl nok nnd F7 (S6.trans S7)
   . refine aD c1 ?_;refine dI ?_;erw[0,6];exact fin H6 ns hns nl nok nnd F6 S6
def gZ{x:Str}:∀{ns:List Str},x∈ns->∃j,eZ x ns=some j/\j<ns.length
 | [],h=>by cases h
 | a::r,h=>by
   unfold eZ
   by_cases c:a=x
   . erw[(0),by rw[NQ c],by simp]
   . rw [NP c];rcases zW0 h with e | e
     . exact absurd e.symm c
     . let%[j,h1|h2]:=gZ e;erw[j+1,by rw[h1];rfl,by simpa using h2]
def iz{a b:Str}(h:V.str a=V.str b):a=b:=by injection h
def eK (p:Int) (o:Str) (x y:Int):Int:=if o="and" then x*y % p else if o="or" then(x+y-x*y) % p else if o="odd" then(x+y-2*(x*y)) % p else(1-(x+y-2*(x*y))) % p
def Tr.worth(ns:List Str)(pt:List Int)(p:Int):Tr->Int
 | .is x=>match eZ x ns with | some j=>pt.getD j 0 | none=>0
 | .yes=>1
 | .no=>0
 | .not a=>(1-a.worth ns pt p) % p
 | .bin o a b=>eK p o (a.worth ns pt p) (b.worth ns pt p)
def cw(pt:List Int)(p:Int):Prop:=∀x∈pt,0<=x/\x<p
def BI{p:Int}(hp:0<p)(o:Str)(x y:Int):0<=eK p o x y/\eK p o x y<p:=by
 let key:∀z:Int,0<=z % p/\z % p<p:=λz=>%[qE0 _ #[0]|qG0 _ hp]
 unfold eK
 repeat' split
 all_goals exact key _
def su{l:List Int}{j:Nat}(h:j<l.length):l.getD j 0=l[j]:=by
 rw[qM0,zM0 h];rfl
def worth_rng{ns:List Str}{p:Int}(hp:1<p)(h:cw pt p)(hl:pt.length=ns.length):∀t:Tr,t.ok ns->0<=t.worth ns pt p/\t.worth ns pt p<p
 | .is x,ok=>by
   let%[j,hj|jl]:=gZ ok;show 0<=(match eZ x ns with | some j=>pt.getD j 0 | none=>0)/\(match eZ x ns with | some j=>pt.getD j 0 | none=>0)<p;rw[hj];show 0<=pt.getD j 0/\pt.getD j 0<p;rw[su #[0]];exact h _ (qP0 _)
 | .yes,_=>%[by show(0:Int)<=1;decide|hp]
 | .no,_=>%[zX1 0|by show(0:Int)<p;omega]
 | .not a,_=>%[qE0 _ #[0]|qG0 _ #[0]]
 | .bin o a b,_=>BI #[0] _ _ _
instance spJW:∀(o:Str)(x y p:Int),vs=[.str o,.int x,.int y,.int p]->0<=x->x<p->p<2 ^ 40->Q (.int (eK p o x y)) H:=1
def g9:FnScope ["word","first","second","p","both","odd"] Wl (ah ie):=%[|5]
def pS   (F:Fun K "joined_worth" "joined_worth" ie f fd):#[1,f,fd,Wl,spJW]:=by
 exists g9
 erw[o,x,y,p,1,x0,xp,pb,k]at h;refine⟨_,(aa #[ai,4,g9,aq ci (pv 1) (pv 2)]
  (aa (aI (ag aR (pv 0) ao (ax _)) (ad (am (aq ba (pv 4) (pv 3)))) az)
  (aa (aI (ag aR (pv 0) ao (ax _)) (ad (am (aq ba (aq bh (aq aS (pv 1) (pv 2)) (pv 4)) (pv 3)))) az)
  (aa #[ai,5,g9,aq bh (aq aS (pv 1) (pv 2)) (aq ci ae (pv 4))]
  (aa (aI (ag aR (pv 0) ao (ax _)) (ad (am (aq ba (pv 5) (pv 3)))) az)
  (ad (am (aq ba (aq bh ae (pv 5)) (pv 3))))))))),?_⟩
 erw[0,0,2,.inl %[3|3],6];erw[0,1,0,6]
 by_cases c1:V.str o=V.str "and"
 . refine aV c1 ?_;let e:eK p o x y=x*y % p:=by unfold eK;rw[NQ (iz c1)]
   rw[e]at k;erw[0,0,2,(show(0:Int)<p by omega),k]
 refine aD c1 ?_;let n1:¬ o="and":=λz=>c1 (by rw[z])
 erw[0,1,0,6]
 by_cases c2:V.str o=V.str "or"
 . refine aV c2 ?_;let e:eK p o x y=(x+y-x*y) % p:=by unfold eK;rw[NP n1,NQ (iz c2)]
   rw[e]at k;erw[0,0,2,0,2,0,2,(show(0:Int)<p by omega),k]
 refine aD c2 ?_;let n2:¬ o="or":=λz=>c2 (by rw[z])
 erw[0,0,2,0,2,.inl %[4|4],2,6];erw[0,1,0,6]
 by_cases c3:V.str o=V.str "odd"
 . refine aV c3 ?_;let e:eK p o x y=(x+y-2*(x*y)) % p:=by unfold eK;rw[NP n1,NP n2,NQ (iz c3)]
   rw[e]at k;erw[0,0,2,(show(0:Int)<p by omega),k]
 refine aD c3 ?_;let n3:¬ o="odd":=λz=>c3 (by rw[z])
 let e:eK p o x y=(1-(x+y-2*(x*y))) % p:=by unfold eK;rw[NP n1,NP n2,NP n3]
 rw[e]at k;erw[0,2,0,2,(show(0:Int)<p by omega),k]
instance spWorth(n:Nat):∀(v:V)(t:Tr)(a b:Addr)(ns:List Str)(pt:List Int)(p:Int),vs=[v,.ref a,.ref b,.int p]->TreeAt H v t->t.ok ns->t.depth<=n->NamesAt H a ns->H b=some (.tup (pt.map V.int))->pt.length=ns.length->1<p->p<2 ^ 40->cw pt p->Q (.int (t.worth ns pt p)) H:=1
def j4:FnScope ["tree","switches","point","p","word","first"] WS (ah jm):=%[|5]
def xx {n:Nat}   (F:Fun K "worth_of" "worth_of" jm f fd) (dy:#[1,"joined_worth",Wl,spJW]) (fV:#[n+2,"worth_of",WS,spWorth n]):#[n+3,f,fd,WS,spWorth (n+1)]:=by
 exists j4
 erw[v,t,a,b,ns,pt,p,1,T,ok,dn,hN,hb,sl,p1,p40,po,k]at h;let p0:(0:Int)<p:=by omega
 refine⟨_,(aa #[ai,4,j4,aM ix_tup (pv 0) ae #[1]]
  (aa (aI (ag aR (pv 4) ao (ax _)) (ad (am (aq ba (aM ix_tup (pv 2) (wc zE1 PySem.F.plainAttrs_tuple (pv 1) %[aM ix_tup (pv 0) ae #[1]|aP]) #[1]) (pv 3)))) az)
  (aa (aI (ag aR (pv 4) ao (ax _)) (ad (am ae)) az)
  (aa (aI (ag aR (pv 4) ao (ax _)) (ad (am ae)) az)
  (aa #[ai,5,j4,aj fV hr (zG0 _) rfl %[aM ix_tup (pv 0) ae #[1],1,2,3|aP]]
  (aa (aI (ag aR (pv 4) ao (ax _)) (ad (am (aq ba (aq bh ae (pv 5)) (pv 3)))) az)
  (ad (am (aj dy hr #[0] rfl %[4,5,aj fV hr (zG0 _) rfl %[aM ix_tup (pv 0) ae #[1],1,2,3|aP],3|aP]))))))))),?_⟩
 cases T with
 | @is q x e=>
   erw[0,q,_,(0),0,1,zD0 e,1,6];erw[0,1,0,6];refine aV rfl ?_;let%[j,hj|jl]:=gZ ok;let jl':j<pt.length:=by omega
   erw[0,0,a,ns,1,hN,0,q,_,(1),0,1,zD0 e,1,1,x,j,1,hj,b,_,(j:Int),.int pt[j],1,1,zD0 hb,6,0,2,p0,6]
   . refine cx ?_;rw[zZ0,zM0 jl'];rfl
   . let e1:(Tr.is x).worth ns pt p=pt[j] % p:=by
      show(match eZ x ns with | some j=>pt.getD j 0 | none=>0)=_;rw[hj];show pt.getD j 0=_;rw[su jl']
      have:=po _ (qP0 jl')
      rw[qU0 this.1 this.2]
     rw[e1]at k;exact k
 | @yes q e=>
   erw[0,q,_,(0),0,1,zD0 e,1,6];erw[0,1,0,6];refine aD ⋯ ?_;erw[0,1,0,6];exact aV rfl k
 | @no q e=>
   erw[0,q,_,(0),0,1,zD0 e,1,6];erw[0,1,0,6];refine aD ⋯ ?_;erw[0,1,0,6];refine aD ⋯ ?_;erw[0,1,0,6];exact aV rfl k
 | @not q u r e T1=>
   let dp:r.depth+1<=n+1:=dn;erw[0,q,_,(0),0,1,zD0 e,1,6];erw[0,1,0,6];refine aD ⋯ ?_;erw[0,1,0,6];refine aD ⋯ ?_;erw[0,1,0,6];refine aD ⋯ ?_;erw[0,q,_,(1),0,1,zD0 e,1,0,0,0,u,r,a,b,ns,pt,p,1,T1,ok,3,hN,hb,sl,p1,p40,po,6];erw[0,1,0,6];refine aV rfl ?_;erw[0,2,0,2,p0,k]
 | @bin q o u u2 r r2 e T1 T2=>
   erw[ho,ok1,ok2]at ok;let dp:max r.depth r2.depth+1<=n+1:=dn;let ne:∀z:Str,z∉joinW->¬ V.str o=V.str z:=λz hz h=>hz (iz h▸ho)
   erw[0,q,_,(0),0,1,zD0 e,1,6];erw[0,1,0,6];refine aD (ne _ ⋯) ?_;erw[0,1,0,6];refine aD (ne _ ⋯) ?_;erw[0,1,0,6];refine aD (ne _ ⋯) ?_;erw[0,q,_,(1),0,1,zD0 e,1,0,0,0,u,r,a,b,ns,pt,p,1,T1,ok1,3,hN,hb,sl,p1,p40,po,6];erw[0,1,0,6];refine aD (ne _ ⋯) ?_;let wr:=worth_rng p1 po sl r ok1;erw[0,0,0,q,_,(2),0,1,zD0 e,1,0,0,0,u2,r2,a,b,ns,pt,p,1,T2,ok2,3,hN,hb,sl,p1,p40,po,6];erw[0,o,_,_,p,1,wr.1,wr.2,p40,k]
def xw  :#[2,f,fd,WS,spWorth 0]:=by
 let no:∀vs H Q E,¬ spWorth 0 vs H Q E:=λvs H Q E h=>by
  erw[v,t,_,_,_,_,_,_,_,_,h1,_]at h
  have:=t.depth_pos
  omega
 exists 3
def pA   (F:Fun K "worth_of" "worth_of" jm f fd) (m:mg "worth_of"=some (.ref f)) (dy:#[1,"joined_worth",Wl,spJW]) :
 ∀n:Nat,#[n+2,f,fd,WS,spWorth n]
 | 0=>xw
 | n+1=>xx F dy (Cal.of F (pA F m dy n) m (λ_ _ _ _ _ _ us hl=>by let%[u0,u1,u2,u3|1]:=Hh hl;rfl))
def dH{H:Hp}{b:Addr}{ys zs:List V}(h:H b=some (.lst ys)):∀a xs,H a=some (.tup xs)->(upd H b (.lst zs)) a=some (.tup xs):=λa xs e=>by
 rw[aB]
 . exact e
 . intro z;rw[z,h]at e;cases e
def at0(x:V)(xs:List V):atI (x::xs) 0=some x:=cx (j:=0) rfl
def pF{ts:List Tr}{i:Nat}{u:Tr}(h:ts[i]?=some u):iq (ts.take (i+1))=iq (ts.take i)++u.names:=by
 unfold iq;rw[qI0,h,zL0,List.flatten_append]
 simp
def rQ(ts:List Tr):(iq ts).length<=iS ts:=by
 induction ts with
 | nil=>simp [iq,iS]
 | cons a r ih=>
   have:=a.names_len
   simp only[iq,iS,zX0,qV1,zK0,zT1]at ih ⊢;omega
def qD(ts:List Tr)(i:Nat):iS (ts.take i)<=iS ts:=by
 induction ts generalizing i with
 | nil=>simp
 | cons a r ih=>
   cases i with
   | zero=>simp [iS]
   | succ i=>
     have:=ih i
     simp only[iS,List.take_succ_cons,zX0,zT1]at this ⊢;omega
instance spNO(n:Nat):∀(v:V)(t:Tr),vs=[v]->TreeAt H v t->t.wf->t.depth<=n->t.size<=400->(∀(l:Addr)(H':Hp),H l=none->Same H H'->H' l=some (.lst (t.names.map V.str))->Q (.ref l) H'):=1
def gG:FnScope ["_law_tree_here","_law_found","_law_part"] WT (ah gU):=%[|5]
def Ha {n:Nat}   (F:Fun K "_law_names_of" "_law_names_of" gU f fd) (fQ:#[n+2,"_law_names_of",WT,spNO n]):#[n+3,f,fd,WT,spNO (n+1)]:=by
 exists gG
 erw[v,t,1,T,wf,dn,sz,q]at h;refine⟨_,(aa (aI (ag aR (aM ix_tup (pv 0) ae #[1]) ao (ax _)) (ad (am (dL %[aM ix_tup (pv 0) ae #[1]|aP]))) az)
  (aa #[ai,1,gG,dL aP]
  (aa (cF zF1 rfl (ip (eJ qC (pv 0) (eM ae) iD)) (bc (i:=2) gG.nd rfl (.inl rfl)) (ad #[ai,1,gG,aq rG (pv 1) (aj fQ hr (zG0 _) rfl %[2|aP])]))
  (ad (am (pv 1)))))),?_⟩
 rcases T.view wf with⟨a,x,rfl,rfl,_,e⟩ | ⟨a,o,xs,rfl,no,xl0,e,TS0,nis⟩
 . erw[0,a,_,(0),0,1,zD0 e,1,1,0,6];refine aV rfl ?_;erw[0,a,_,(1),0,1,zD0 e,1,y1S,λp hp=>?_];exact q p _ hp (zC0 hp _) aJ
 . erw[0,a,_,(0),.str o,1,1,zD0 e,at0 ..,1,0,6];refine aD (λz=>no (by injection z)) ?_;erw[y0S,λL hL=>?_];let G0:=zC0 hL (.lst []);let%[c1|c2]:=JI (.str o) xs xl0;erw[0,(1),1,a,0,zD0 (G0 _ _ e),c2,λp hp=>?_];rw[c1];let G1:=zC0 hp (.tup xs);let hp1:upd (upd H L (.lst [])) p (.tup xs) p=some (.tup xs):=aJ;let hL1:upd (upd H L (.lst [])) p (.tup xs) L=some (.lst []):=G1 _ _ aJ;let S1:Same H (upd (upd H L (.lst [])) p (.tup xs)):=G0.trans G1;generalize upd (upd H L (.lst [])) p (.tup xs)=H1 at hp1 hL1 S1;let TS:=TS0.mono (aY S1);let xl:=TS.length;let sp:=t.size_parts;erw[p,1,%[_|zD0 hp1],vD (K:=K) (xs:=xs) (λi σ H'=>∃(M:Addr)(x2:Option V),σ=[some (.ref a),some (.ref M),x2]/\H M=none/\H' M=some (.lst ((iq (t.parts.take i)).map V.str))/\Same H1 H') %[L,0,hL,hL1|Same.refl _] (λi σ H' _ NV=>by erw[_,_,_,_,_,h]at NV;exact zD0 (h _ _ hp1)) ?_ ?_]
   . rintro i x σ H2 hx ⟨M,x2,rfl,M0,hM,S2⟩;let%[u,hu|Tu]:=TS.get hx;let um:=qL0 hu;let%[uw,ud|us]:=Tr.parts_mem um wf;erw[0,0,x,u,1,Tu.mono (aY S2),uw,3,3,λl H3 l0 S3 hl3=>?_];let nl:=u.names_len;let nl2:=rQ (t.parts.take i);let nl3:=qD t.parts i;erw[M,l,2,S3 _ _ hM,hl3,6,λr hr0=>?_]
     . rw[zF0,zF0];exact cq #[0]
     . let S4:=(S2.trans S3).trans (zC0 hr0 (.lst ((iq (t.parts.take i)).map V.str++u.names.map V.str)));erw[r,0,(S1.trans (S2.trans S3)).free hr0,6,S4];rw[aJ,pF hu,zL0]
   . rintro σ H2 ⟨M,x2,rfl,M0,hM,S2⟩;rw[xl,qF0,←t.names_parts nis]at hM;erw[0,q M H2 M0 (S1.trans S2) hM]
def GZ  :#[2,f,fd,WT,spNO 0]:=by
 let no:∀vs H Q E,¬ spNO 0 vs H Q E:=λvs H Q E h=>by
  erw[v,t,_,_,_,h1,_]at h
  have:=t.depth_pos
  omega
 exists 3
def lq   (F:Fun K "_law_names_of" "_law_names_of" gU f fd) (m:mg "_law_names_of"=some (.ref f)) :
 ∀n:Nat,#[n+2,f,fd,WT,spNO n]
 | 0=>GZ
 | n+1=>Ha F (Cal.of F (lq F m n) m (λ_ _ _ _ _ _ us hl=>by let%[u0|1]:=Hk hl;rfl))
def sx(ns:List Str)(z:Str):((ns.map V.str).countP λy=>eqV y (.str z))=ns.count z:=by
 rw[List.countP_map];rfl
instance spNeed:∀(a b:Addr)(ns:List Str)(tv:List V)(ts:List Tr),vs=[.ref a,.ref b]->H a=some (.lst (ns.map V.str))->H b=some (.lst tv)->TreesAt H tv ts->ts.length<=10->(∀t∈ts,t.wf/\t.depth<=10/\t.size<=400)->(∀(m:Int)(H':Hp),Same H H'->2<=m->m<=400->(ns=[]->ts.length<=4->m<=3)->(ts.length:Int)<=m+1->(∀t∈ts,∀x∈ns,(t.names.count x:Int)<=m)->Q (.int m) H'):=1
def gV:FnScope ["_law_names_here","_law_trees","_law_need_here","_law_tree_here","_law_found","_law_name"] WU (ah qL):=%[|5]
def Bg   (F:Fun K "_law_need" "_law_need" qL f fd) (hlen:mg "len"=none) (hmax:mg "max"=none) (fQ:#[12,"_law_names_of",WT,spNO 10]):#[13,f,fd,WU,spNeed]:=by
 exists gV
 erw[a,b,ns,tv,ts,1,ha,hb,TS,tl,tok,q]at h;refine⟨_,(aa #[ai,2,gV,aG (oU rfl) rfl hmax qZ1 %[ae,aq bh (aG aE rfl hlen zC1 %[1|aP]) ae|aP]]
  (aa (cF zF1 rfl (eN (pv 1)) (bc (i:=3) gV.nd rfl (.inl rfl)) (aa #[ai,4,gV,aj fQ hr ⋯ rfl %[3|aP]]
   (ad (cF zF1 rfl (eN (pv 0)) (bc (i:=5) gV.nd rfl (.inl rfl)) (ad #[ai,2,gV,aG (oU rfl) rfl hmax qZ1 %[2,eC zE1 PySem.F.slot_list_count PySem.F.type_list_count wC (pv 4) %[5|aP]|aP]])))))
  (ad (am (pv 2))))),?_⟩
 let vl:=TS.length;erw[0,b,0,.inl (zH0 hb),2,_,0,6];obtain⟨m,em,m2,m4,mt,m3⟩:∃m:Int,(if((tv.length:Int)-1)>2 then((tv.length:Int)-1)else 2)=m/\2<=m/\m<=400/\(ts.length:Int)<=m+1/\(ts.length<=4->m<=3):=⟨_,rfl,by split <;> omega,by split <;> omega,by split <;> omega,λ_=>by split <;> omega⟩
 rw [em];refine⟨_,rfl,b,rfl,%[_|zH0 hb],iW (K:=K) (xs:=tv) (λi σ H'=>∃(m:Int)(x3 x4 x5:Option V),σ=[some (.ref a),some (.ref b),some (.int m),x3,x4,x5]/\2<=m/\m<=400/\(ts.length:Int)<=m+1/\(∀t∈ts.take i,∀x∈ns,(t.names.count x:Int)<=m)/\Same H H'/\(ns=[]->ts.length<=4->m<=3))
  %[m,_,_,0,m2,m4,mt,by simp,Same.refl _|λ_=>m3] (λi σ H' _ NV=>by erw[_,_,_,_,_,_,_,_,_,h,_]at NV;exact zH0 (h _ _ hb)) ?_ ?_⟩
 . rintro i v σ H1 hv ⟨m,x3,x4,x5,rfl,m2,m4,mt,mc,S1,me⟩;let%[t,ht|T]:=TS.get hv;let tm:=qL0 ht;let%[tw,td|tz]:=tok t tm;erw[0,v,t,1,T.mono (aY S1),tw,3,tz,λl H2 l0 S2 hl=>?_];let S12:=S1.trans S2;let tn:=t.names_len;refine⟨_,rfl,a,rfl,%[_|zH0 (S12 _ _ ha)],iW (K:=K) (xs:=ns.map V.str) (λj σ H'=>∃(m':Int)(x5:Option V),σ=[some (.ref a),some (.ref b),some (.int m'),some v,some (.ref l),x5]/\m<=m'/\m'<=400/\(∀x∈ns.take j,(t.names.count x:Int)<=m')/\(ns=[]->m'<=m)/\H'=H2)
    %[m,0,zX1 _,m4,by simp,λ_=>zX1 _|1] (λj σ H' _ NV=>by erw[_,_,_,_,_,_,_,h]at NV;subst h;exact zH0 (S12 _ _ ha)) ?_ ?_⟩
   . rintro j y σ H3 hy ⟨m',y5,rfl,mm,m4',mc',me',rfl⟩;rw[zZ0]at hy;let%[x,hx|1]:=qT0 hy;erw[0,0,.inl %[1,_|zH0 hl],0,l,2,zH0 hl,hR _,1,_,0,6];rw[sx];let cl:=jO0 (a:=x) (l:=t.names);erw[_,0,by split <;> omega,by split <;> omega,λz hz=>?_,λe=>(by subst e;cases hx),1];rw[qI0,hx]at hz;rcases qD0 hz with h | h
     . have:=mc' z h
       split <;> omega
     . let e:z=x:=by simpa using h
       subst e
       split <;> omega
   . rintro σ H3 ⟨m',y5,rfl,mm,m4',mc',me',rfl⟩;rw[zF0,qF0]at mc';erw[m',_,_,0,3,m4',3,λu hu x hx=>?_,S12,λe f=>(by have:=me' e;have:=me e f;omega)];rw[qI0,ht]at hu;rcases qD0 hu with h | h
     . have:=mc u h x hx
       omega
     . let e:u=t:=by simpa using h
       subst e;exact mc' x hx
 . rintro σ H1 ⟨m,x3,x4,x5,rfl,m2,m4,mt,mc,S1,me⟩;rw[vl,qF0]at mc;erw[0,q m H1 S1 m2 m4 me mt mc]
instance spPrimeB:∀n:Int,vs=[.int n]->(∀b:Bool,(b=true↔Pr n)->Q (.bl b) H):=1
def pq:FnScope ["_law_number","_law_k"] ["_law_number"] (ah jt):=%[|5]
def sN   (F:Fun K "_law_is_prime" "_law_is_prime" jt f fd) (hrange:mg "range"=none):#[1,f,fd,["_law_number"],spPrimeB]:=by
 exists pq
 erw[n,1,q]at h;refine⟨_,(aa (aI (ag dN (pv 0) ae (ax _)) (ad (am iF)) az)
  (aa (cF zF1 rfl (tG rfl hrange %[ae,ae|aP]) (bc (i:=1) pq.nd rfl (.inl rfl)) (aa (aI (ag gQ (aq ci (pv 1) (pv 1)) (pv 0) (ax _)) (ad (am iF)) az)
   (ad (aI (ag aR (aq ba (pv 0) (pv 1)) ae (ax _)) (ad (am iF)) az))))
  (ad (am iF)))),?_⟩
 erw[0,2,0,6];refine oP (λc=>?_) (λc=>?_)
 . let c':=zM1 c;exact q false %[λz=>(nomatch z)|λz=>by have:=z.1;omega]
 let c':¬ n<2:=wP0 (Bool.eq_false_iff.mpr c);erw[(2),(1001),1,%[4,4,4|4],cW (λi σ H'=>∃x,σ=[some (.int n),x]/\H'=H/\oV n (2+(i:Int))) %[0,1|by simpa using xA n] ?_ ?_]
 . rintro i σ H' hi ⟨x,rfl,rfl,u⟩;let hi':i<999:=hi;erw[0,0,2,.inl %[3|3],0,2,0,6];refine oP (λc1=>?_) (λc1=>?_)
   . let c2:=zM1 c1;exact q true %[λ_=>IQ #[0] #[0] u c2|λ_=>rfl]
   . let c2:=wP0 (Bool.eq_false_iff.mpr c1);erw[0,0,2,(show(0:Int)<2+(i:Int) by omega),1,0,6];refine oP (λc3=>?_) (λc3=>?_)
     . let c4:=V.int.inj (zM1 c3);exact q false %[λz=>(nomatch z)|λz=>(IO #[0] #[0] #[0] c4 z).elim]
     . let c4:=wP0 (Bool.eq_false_iff.mpr c3);erw[0,1,6];let e:(2:Int)+((i+1:Nat):Int)=2+(i:Int)+1:=by omega
       rw[e];exact Au u #[0] (λz=>c4 (congrArg V.int z))
 . rintro σ H' ⟨x,rfl,rfl,u⟩;exact q true %[λ_=>IR #[0] u|λ_=>rfl]
instance spWithin:∀(v:V)(t:Tr),vs=[v]->TreeAt H v t->t.wf->(∀(p:Addr)(xs:List V)(H':Hp),Same H H'->H' p=some (.tup xs)->TreesAt H' xs t.parts->Q (.ref p) H'):=1
def pO:FnScope WB WB (ah ib):=%[|5]
def pQ   (F:Fun K "trees_within" "trees_within" ib f fd):#[1,f,fd,WB,spWithin]:=by
 exists pO
 erw[v,t,1,T,wf,q]at h;refine⟨_,(aa (aI (ag aR (aM ix_tup (pv 0) ae #[1]) ao (ax _)) (ad (am (aF aP))) az)
  (ad (am (eJ qC (pv 0) (eM ae) iD)))),?_⟩
 rcases T.view wf with⟨a,x,rfl,rfl,_,e⟩ | ⟨a,o,xs,rfl,no,xl,e,TS,_⟩
 . erw[0,a,_,(0),0,1,zD0 e,1,1,0,6];refine aV rfl ?_;erw[y0S,λp hp=>?_];exact q p [] _ (zC0 hp _) aJ .nil
 . erw[0,a,_,(0),.str o,1,1,zD0 e,at0 ..,1,0,6];refine aD (λz=>no (by injection z)) ?_;let%[c1|c2]:=JI (.str o) xs xl;erw[0,(1),1,a,0,zD0 e,c2,λp hp=>?_];rw[c1];exact q p xs _ (zC0 hp _) aJ (TS.mono (aY (zC0 hp _)))
instance spNamesIn(n:Nat):∀(v:V)(t:Tr),vs=[v]->TreeAt H v t->t.wf->t.depth<=n->t.size<=400->(∀(l:Addr)(H':Hp),H l=none->Same H H'->H' l=some (.lst (t.names.map V.str))->Q (.ref l) H'):=1
def j9:FnScope ["tree","names","part"] WB (ah jp):=%[|5]
def yy {n:Nat}   (F:Fun K "names_in" "names_in" jp f fd) (bi:#[1,"trees_within",WB,spWithin]) (eT:#[n+2,"names_in",WB,spNamesIn n]):#[n+3,f,fd,WB,spNamesIn (n+1)]:=by
 exists j9
 erw[v,t,1,T,wf,dn,sz,q]at h;refine⟨_,(aa (aI (ag aR (aM ix_tup (pv 0) ae #[1]) ao (ax _)) (ad (am (dL %[aM ix_tup (pv 0) ae #[1]|aP]))) az)
  (aa #[ai,1,j9,dL aP]
  (aa (cF zF1 rfl (ip (aj bi hr #[0] rfl %[0|aP])) (bc (i:=2) j9.nd rfl (.inl rfl)) (ad (aW (eC zE1 PySem.F.slot_list_extend PySem.F.type_list_extend Bw (pv 1) %[aj eT hr (zG0 _) rfl %[2|aP]|aP]))))
  (ad (am (pv 1)))))),?_⟩
 let wf':=wf;rcases T.view wf with⟨a,x,rfl,rfl,_,e⟩ | ⟨a,o,xs0,rfl,no,xl0,e,_,nis⟩
 . erw[0,a,_,(0),0,1,zD0 e,1,1,0,6];refine aV rfl ?_;erw[0,a,_,(1),0,1,zD0 e,1,y1S,λp hp=>?_];exact q p _ hp (zC0 hp _) aJ
 . erw[0,a,_,(0),.str o,1,1,zD0 e,at0 ..,1,0,6];refine aD (λz=>no (by injection z)) ?_;erw[y0S,λL hL=>?_];let G0:=zC0 hL (.lst []);erw[0,_,t,1,T.mono (aY G0),wf,λp xs H1 S1 hp TS=>?_];let hL1:H1 L=some (.lst []):=S1 _ _ aJ;let pL:p≠L:=λz=>by rw[z,hL1]at hp;cases hp
   let xl:=TS.length;let sp:=t.size_parts;erw[p,1,%[_|zD0 hp],vD (K:=K) (xs:=xs) (λi σ H'=>∃x2,σ=[some (.ref a),some (.ref L),x2]/\H' L=some (.lst ((iq (t.parts.take i)).map V.str))/\SameBut L H1 H') %[0,hL1|SameBut.refl _ _] (λi σ H' _ NV=>by erw[_,_,_,h]at NV;exact zD0 (h _ _ pL hp)) ?_ ?_]
   . rintro i x σ H2 hx ⟨x2,rfl,hl,S2⟩;let%[u,hu|Tu]:=TS.get hx;let um:=qL0 hu;let%[uw,ud|us]:=Tr.parts_mem um wf;let Tu2:TreeAt H2 x u:=Tu.mono λb ys h=>S2 b _ (λz=>by rw[z,hL1]at h;cases h) h
     erw[0,.inl %[1,_|zH0 hl],0,x,u,1,Tu2,uw,3,3,λl H3 l0 S3 hl3=>?_];let nl:=u.names_len;let nl2:=rQ (t.parts.take i);let nl3:=qD t.parts i;erw[L,l,2,S3 _ _ hl,hl3,6,6]
     . rw[zF0,zF0];exact cq #[0]
     erw[0,6,λb o hb h=>?_]
     . rw[aJ,pF hu,zL0]
     . rw[aB hb];exact S3 _ _ (S2 _ _ hb h)
   . rintro σ H2 ⟨x2,rfl,hl,S2⟩;rw[xl,qF0,←t.names_parts nis]at hl;erw[0,6];refine q L H2 hL (λb o h=>?_) hl;exact S2 b o (aQ h hL) (S1 _ _ (G0 _ _ h))
def yx  :#[2,f,fd,WB,spNamesIn 0]:=by
 let no:∀vs H Q E,¬ spNamesIn 0 vs H Q E:=λvs H Q E h=>by
  erw[v,t,_,_,_,h1,_]at h
  have:=t.depth_pos
  omega
 exists 3
def pC   (F:Fun K "names_in" "names_in" jp f fd) (m:mg "names_in"=some (.ref f)) (bi:#[1,"trees_within",WB,spWithin]) :
 ∀n:Nat,#[n+2,f,fd,WB,spNamesIn n]
 | 0=>yx
 | n+1=>yy F bi (Cal.of F (pC F m bi n) m (λ_ _ _ _ _ _ us hl=>by let%[u0|1]:=Hk hl;rfl))
instance spField:∀n:Int,vs=[.int n]->n<=999999->(∀b:Bool,(b=true↔2<n/\Pr n)->Q (.bl b) H):=1
def kK:FnScope ["number","divisor"] ["number"] (ah lO):=%[|5]
def wv   (F:Fun K "is_field" "is_field" lO f fd):#[1,f,fd,["number"],spField]:=by
 exists kK
 erw[n,1,n9,q]at h;refine⟨_,(aa (aI (PW.pt (ii (ag dN (pv 0) ae (ax _)) (gP (ag aR (aq ba (pv 0) ae) ae (ax _))))) (ad (am iF)) az)
  (aa #[ai,1,kK,ae]
  (aa (im zF1 (ag rF (aq ci (pv 1) (pv 1)) (pv 0) (ax _)) (aa (aI (ag aR (aq ba (pv 0) (pv 1)) ae (ax _)) (ad (am iF)) az)
   (ad #[ai,1,kK,aq aS (pv 1) ae])))
  (ad (am iF))))),?_⟩
 erw[0,2,0,6]
 by_cases c:n<3
 . refine aV c ?_;refine eF ?_;exact q false %[λz=>(nomatch z)|λz=>by omega]
 refine aD c ?_;erw[0,2,(by show(0:Int)<_;decide),1,0,6]
 by_cases c2:n % 2=0
 . refine aV (congrArg V.int c2) ?_;exact q false %[λz=>(nomatch z)|λz=>absurd z.2 (BW c2 #[0])]
 refine aD (λz=>c2 (V.int.inj z)) ?_;erw[λm σ H'=>∃d:Int,σ=[some (.int n),some (.int d)]/\H'=H/\3<=d/\d<=1001/\d % 2=1/\xt n d/\m=(n+3-d).toNat,%[_,(3),1,1,3,3,3,Bt n|1],6];rintro m σ H' ⟨d,rfl,rfl,d3,d9,d2,u,rfl⟩;erw[0,0,2,.inl %[3|3],0,2,0,6]
 by_cases c3:d*d<=n
 . refine aV c3 ?_;let r1:=xJ n9 d3 c3;let r2:=Gn d3 c3;erw[_,λ_ _ h=>h,6];erw[0,0,2,(show 0<d by omega),1,0,6]
   by_cases c4:n % d=0
   . refine aV (congrArg V.int c4) ?_;exact q false %[λz=>(nomatch z)|λz=>absurd z.2 (BV n9 d3 c3 c4)]
   refine aD (λz=>c4 (V.int.inj z)) ?_;erw[0,2,6];erw[_,3,d+2,1,1,3,3,3,Eg u d2 c4,1]
 . refine aD c3 ?_;exact q true %[λ_=>%[3|BU #[0] c2 d3 u #[0]]|λ_=>rfl]
abbrev uF:Stmt:=bq uG 0
abbrev xW:Stmt:=bq uG 1
abbrev qQ:Stmt:=bq uG 2
abbrev qR:Stmt:=bq uG 3
def gf (a b:Addr) (p:Int) (d:Addr):List (Str×V):=cD "degrees" (.ref d) (cD "field" (.int p) (cD "trees" (.ref b) (cD "switches" (.ref a) [])))
def nJ (a b:Addr) (p:Int) (d:Addr):(gf a b p d).lookup ("switches":Str)=some (.ref a):=by
 unfold gf;rw[au,NP ⋯,au,NP ⋯,au,NP ⋯,au,NQ rfl]
def lu (a b:Addr) (p:Int) (d:Addr):(gf a b p d).lookup ("trees":Str)=some (.ref b):=by
 unfold gf;rw[au,NP ⋯,au,NP ⋯,au,NQ rfl]
def eU (a b:Addr) (p:Int) (d:Addr):(gf a b p d).lookup ("field":Str)=some (.int p):=by
 unfold gf;rw[au,NP ⋯,au,NQ rfl]
def zZ (a b:Addr) (p:Int) (d:Addr):(gf a b p d).lookup ("degrees":Str)=some (.ref d):=by
 unfold gf;rw[au,NQ rfl]
def pI (a b:Addr) (p:Int) (d:Addr) {m:Str} (h1:¬ m="degrees") (h2:¬ m="field") (h3:¬ m="trees") (h4:¬ m="switches"):(gf a b p d).lookup m=none:=by
 unfold gf;rw[au,NP h1,au,NP h2,au,NP h3,au,NP h4]
 all_goals rfl
structure GTxt(K:W.Frag)(mg:Str->Option Value)(C:Addr):Prop where
 cl:Cls K C
 nS:NoAttr K C "switches"
 nT:NoAttr K C "trees"
 nF:NoAttr K C "field"
 nD:NoAttr K C "degrees"
 mgC:mg "Game"=some (.ref C)
def xh(g:Nat->Int):∀n,∃k,k<=n/\eE g n=g k
 | 0=>%[(0),zG0 _|1]
 | n+1=>by
   let%[k,hk|e]:=xh g n;unfold eE
   split
   . erw[n+1,zG0 _,1]
   . erw[k,3,e]
def kz{ns:List Int}(h:ns≠[]):Bz ns 0∈ns:=by
 cases ns with
 | nil=>exact absurd rfl h
 | cons a r=>
   let%[k,hk|e]:=xh (λi=>(a::r)[i]?.getD 0) ((a::r).length-1);let e1:Bz (a::r) 0=eE (λi=>(a::r)[i]?.getD 0) ((a::r).length-1):=rfl;let hl:k<(a::r).length:=by
    rw[zP0]at hk ⊢;omega
   rw[e1,e];show(a::r)[k]?.getD 0∈a::r;rw[zM0 hl];exact qP0 hl
def bm(ts:List Tr)(x:Str):Int:=Bz (ts.map λt=>(t.names.count x:Int)) 0
def nQ{ts:List Tr}{x:Str}{p:Int}(h0:ts≠[])(h:∀t∈ts,(t.names.count x:Int)<p):bm ts x<p:=by
 have:=kz (ns:=ts.map λt=>(t.names.count x:Int)) (by simpa using h0)
 let%[t,ht|e]:=List.mem_map.mp this;unfold bm;rw[←e];exact h t ht
instance spDeg:∀(x:Str)(b:Addr)(tv:List V)(ts:List Tr),vs=[.str x,.ref b]->H b=some (.tup tv)->TreesAt H tv ts->ts≠[]->ts.length<=10->(∀t∈ts,t.wf/\t.depth<=10/\t.size<=400)->(∀H',Same H H'->Q (.int (bm ts x)) H'):=1
def uo:FnScope Wm Wm (ah kg):=%[|5]
def vb   (F:Fun K "degree_of" "degree_of" kg f fd) (hmax:mg "max"=none) (eT:#[12,"names_in",WB,spNamesIn 10]):#[13,f,fd,Wm,spDeg]:=by
 exists uo
 erw[x,b,tv,ts,1,hb,TS,t0,tl,tok,q]at h;refine⟨_,(ad (am (aG (tU rfl) rfl hmax qZ1 (af (cH (N:=["name"]) (ix:=[0]) rfl
  #[3] rfl
  (ip (pv 1)) (λ_ _ _=>cR (IU K zE1 PySem.F.slot_list_count PySem.F.type_list_count (Bx K) (aj eT hr ⋯ rfl %[0|aP]) %[1|aP]))) aP)))),?_⟩
 let vl:=TS.length;erw[0,b,1,%[_|zD0 hb],λD hD=>?_];refine gC (K:=K) (xs:=tv) (λi H'=>H' D=some (.lst (((ts.take i).map λt=>(t.names.count x:Int)).map V.int))/\Same H H') %[by rw[aJ];rfl|zC0 hD _] (λi H' _ h=>zD0 (h.2 _ _ hb)) ?_ ?_
 . rintro i z H2 hz ⟨hl,S2⟩;let%[t,ht|T]:=TS.get hz;let%[tw,td|tz]:=tok t (qL0 ht);let hi:i<tv.length:=(zY0 hz).1;erw[0,z,t,1,T.mono (aY S2),tw,3,tz,λl H3 l0 S3 hl3=>?_];erw[.inl %[1,_|zH0 hl3],0,l,2,zH0 hl3,hR _,1,6];rw[sx];erw[_,S3 _ _ hl,6,Nx.of hi %[6|λb' o' e'=>?_]]
   . rw[zF0,zF0,qJ0];exact aN #[0]
   . rw[aJ,qI0,ht,zL0,zL0];rfl
   . rw[aB (aQ e' hD)];exact S3 _ _ (S2 _ _ e')
 . rintro H2 ⟨hl,S2⟩;rw[vl,qF0]at hl;erw[D,0,zH0 hl,by simpa using t0,q H2 S2]
instance spLookS:∀(a:Addr)(ns:List Str),vs=[.ref a]->H a=some (.tup (ns.map V.str))->ns.Nodup->ns.length<=10->(∀H',Same H H'->Q .non H'):=1
def jH(x:Str)(ns:List Str):inV (.str x) (ns.map V.str)=decide (x∈ns):=by
 unfold inV
 induction ns with
 | nil=>rfl
 | cons a r ih=>
   rw [zX0,jE0,ih];let e:eqV (.str a) (.str x)=decide (x=a):=by
    show(a==x)=_
    by_cases c:x=a
    . subst c;simp
    . rw[zB1 c];simpa using λh=>c h.symm
   rw[e]
   by_cases c1:x=a <;> by_cases c2:x∈r <;> simp [c1,c2]
def gI:FnScope ["switches","place","name"] ["switches"] (ah gO):=%[|5]
def oM   (F:Fun K "look_switches" "look_switches" gO f fd) (henum:mg "enumerate"=none):#[1,f,fd,["switches"],spLookS]:=by
 exists gI
 erw[a,ns,1,ha,nd,nl,q]at h;refine⟨_,(ad (cF zF1 rfl (DF rfl henum (pv 0)) (rC rfl (eg (bc (i:=1) gI.nd rfl (.inl rfl)) (eg (bc (i:=2) gI.nd rfl (.inl rfl)) mL)))
  (ad (aI (ag fY (pv 2) (eJ qC (pv 0) iD (eM (pv 1))) (by rfl')) bJ az)))),?_⟩
 erw[0,a,1,%[_|zD0 ha],BS (K:=K) (xs:=ns.map V.str) (λi σ H'=>∃x1 x2:Option V,σ=[some (.ref a),x1,x2]/\Same H H') %[_,0|Same.refl _] (λi σ H' _ NV=>by erw[_,_,_,h]at NV;exact zD0 (h _ _ ha)) ?_ ?_]
 . rintro i z σ H1 t hz ⟨x1,x2,rfl,S1⟩ ht;let hi:i<(ns.map V.str).length:=(zY0 hz).1;rw[zZ0]at hz;let%[x,hx|1]:=qT0 hz;let G:=zC0 ht (.tup [.int (i:Int),.str x]);let S2:=S1.trans G;let hi':i<ns.length:=by rw[zF0]at hi;exact hi
   erw[t,0,zD0 aJ,1,_,0,2,6];erw[0,0,0,(i:Int),1,a,0,zD0 (S2 _ _ ha),6,λc hc=>?_]
   . rintro⟨_,h⟩;rw[HT.sIx_nat]at h;omega
   . erw[c,0,.inr (zD0 aJ),1,6,0,6]
     . let ec:iP (ns.map V.str) none (some (i:Int))=(ns.take i).map V.str:=by
        unfold iP;rw[HT.sIx_none,HT.sIx_nat,jH0,jZ1,List.map_take]
        congr 1
        omega
       rw[ec];exact hR _
     . let ec:iP (ns.map V.str) none (some (i:Int))=(ns.take i).map V.str:=by
        unfold iP;rw[HT.sIx_none,HT.sIx_nat,jH0,jZ1,List.map_take]
        congr 1
        omega
       show if inV (.str x) (iP (ns.map V.str) none (some (i:Int)))=true then _ else _
       rw[ec,jH,zB1 ?_]
       . refine dI ?_;erw[_,0,S2.trans (zC0 hc _)]
       . intro hm;let%[j,hj|e]:=jQ0 hm;rw[qJ0]at hj;rw[List.getElem_take]at e;let ex:ns[i]=x:=by
          rw[zM0 hi']at hx;exact zT0 hx
         exact List.pairwise_iff_getElem.mp nd j i #[0] hi' #[0] (e.trans ex.symm)
 . rintro σ H1 ⟨x1,x2,rfl,S1⟩;exact q H1 S1
def mZ{ns:List Str}:∀t:Tr,t.ok ns->∀x∈t.names,x∈ns
 | .is y,h,x,hx=>by rw[NW hx];exact h
 | .yes,_,x,hx=>by cases hx
 | .no,_,x,hx=>by cases hx
 | .not a,h,x,hx=>mZ a h x hx
 | .bin _ a b,⟨_,h1,h2⟩,x,hx=>by
   rcases qD0 hx with h | h
   . exact mZ a h1 x h
   . exact mZ b h2 x h
instance spLookN:∀(a b:Addr)(ns:List Str)(tv:List V)(ts:List Tr),vs=[.ref b,.ref a]->H a=some (.tup (ns.map V.str))->H b=some (.tup tv)->TreesAt H tv ts->(∀t∈ts,t.ok ns/\t.wf/\t.depth<=10/\t.size<=400)->(∀H',Same H H'->Q .non H'):=1
def i4:FnScope ["trees","switches","tree","name"] ["trees","switches"] (ah jq):=%[|5]
def sL   (F:Fun K "look_names" "look_names" jq f fd) (eT:#[12,"names_in",WB,spNamesIn 10]):#[13,f,fd,["trees","switches"],spLookN]:=by
 exists i4
 erw[a,b,ns,tv,ts,1,ha,hb,TS,tok,q]at h;refine⟨_,(ad (cF zF1 rfl (ip (pv 0)) (bc (i:=2) i4.nd rfl (.inl rfl))
  (ad (cF zF1 rfl (eN (aj eT hr ⋯ rfl %[2|aP])) (bc (i:=3) i4.nd rfl (.inl rfl))
   (ad (aI (ag uV (pv 3) (pv 1) (by rfl')) bJ az)))))),?_⟩
 erw[0,b,1,%[_|zD0 hb],vD (K:=K) (xs:=tv) (λi σ H'=>∃x2 x3:Option V,σ=[some (.ref b),some (.ref a),x2,x3]/\Same H H') %[_,0|Same.refl _] (λi σ H' _ NV=>by erw[_,_,_,h]at NV;exact zD0 (h _ _ hb)) ?_ ?_]
 . rintro i z σ H1 hz ⟨x2,x3,rfl,S1⟩;let%[t,ht|T]:=TS.get hz;let%[tk,tw,td|tz]:=tok t (qL0 ht);erw[0,z,t,1,T.mono (aY S1),tw,3,tz,λl H2 l0 S2 hl=>?_];let S12:=S1.trans S2;erw[l,1,%[_|zH0 hl],iW (K:=K) (xs:=t.names.map V.str) (λj σ H'=>∃x3:Option V,σ=[some (.ref b),some (.ref a),some z,x3]/\H'=H2) %[0|1] (λj σ H' _ NV=>by erw[_,_,h]at NV;subst h;exact zH0 hl) ?_ ?_]
   . rintro j y σ H3 hy ⟨y3,rfl,rfl⟩;rw[zZ0]at hy;let%[x,hx|1]:=qT0 hy;erw[0,0,a,0,.inr (zD0 (S12 _ _ ha)),1,hR _,0,6];show if(!inV (.str x) (ns.map V.str))=true then _ else _
     rw[jH,zD1 (mZ t tk x (qL0 hx))];refine dI ?_;erw[0,1]
   . rintro σ H3 ⟨y3,rfl,rfl⟩;erw[_,0,S12]
 . rintro σ H1 ⟨x2,x3,rfl,S1⟩;exact q H1 S1
instance spLookF:∀p:Int,vs=[.int p]->Pr p->2<p->p<=999983->Q .non H:=1
def sJ:FnScope ["field"] ["field"] (ah jr):=%[|5]
def sM   (F:Fun K "look_field" "look_field" jr f fd) (hend:∃t,mg "FIELDS_END"=some (.int 1000000 t)) (my:#[1,"is_field",["number"],spField]):#[2,f,fd,["field"],spLookF]:=by
 exists sJ
 erw[p,1,pp,p2,p9,q]at h;erw[te,ge]at hend;erw[_,(ad (aI (PW.pt (ii (ag Ib (pv 0) (cX (v:=.int 1000000) rfl ge %[|0]) (ax _)) (gP (jC (eY (aj my hr ⋯ rfl %[0|aP])))))) bJ az)),6];erw[0,2,0,6];refine aD #[0] ?_;erw[0,p,1,3,λb hb=>%[b,1|6]];rw[hb.mpr ⟨p2,pp⟩];exact dI q
instance spLookZ:∀(p:Int)(d:Addr)(ns:List Int),vs=[.int p,.ref d]->H d=some (.lst (ns.map V.int))->ns≠[]->(∀n∈ns,n<p)->Q .non H:=1
def r6:FnScope ["field","degrees","greatest"] ["field","degrees"] (ah jZ):=%[|5]
def uY   (F:Fun K "look_size" "look_size" jZ f fd) (hmax:mg "max"=none):#[1,f,fd,["field","degrees"],spLookZ]:=by
 exists r6
 erw[p,d,ns,1,hd,n0,nl,q]at h;refine⟨_,(aa #[ai,2,r6,aG (tU rfl) rfl hmax qZ1 %[1|aP]]
  (ad (aI (ag rF (pv 0) (pv 2) (ax _)) bJ az))),?_⟩
 erw[0,d,ns,1,zH0 hd,n0,6];erw[0,0,2,0,6]
 have:=nl _ (kz n0)
 exact aD #[0] q
def ik(f:Str)(v:V):∀fs:List (Str×V),(cD f v fs).length<=fs.length+1
 | []=>zG0 _
 | (g,u)::r=>by
   have:=ik f v r
   unfold cD
   split
   . simp
   . simp only[zP0];omega
def gf3 (a b:Addr) (p:Int):List (Str×V):=cD "field" (.int p) (cD "trees" (.ref b) (cD "switches" (.ref a) []))
def Jr (a b:Addr) (p:Int):(gf3 a b p).lookup ("switches":Str)=some (.ref a):=by
 unfold gf3;rw[au,NP ⋯,au,NP ⋯,au,NQ rfl]
def Jq (a b:Addr) (p:Int):(gf3 a b p).lookup ("trees":Str)=some (.ref b):=by
 unfold gf3;rw[au,NP ⋯,au,NQ rfl]
def GameAt(C:Addr)(H:Hp)(g a b d:Addr)(p:Int):Prop:=∃dx,H g=some (.ins C dx (gf a b p d))
def GameAt.same(h:GameAt C H g a b d p)(s:Same H H'):GameAt C H' g a b d p:=by
 erw[dx,e]at h;erw[dx,s _ _ e]
instance spGInit(C:Addr):∀(g dx a b:Addr)(ns:List Str)(tv:List V)(ts:List Tr)(p:Int),vs=[.ref g,.ref a,.ref b,.int p]->H g=some (.ins C dx [])->H a=some (.tup (ns.map V.str))->ns.Nodup->ns.length<=10->H b=some (.tup tv)->TreesAt H tv ts->1<=ts.length->ts.length<=10->(∀t∈ts,t.ok ns/\t.wf/\t.depth<=10/\t.size<=400)->Pr p->2<p->p<=999983->(ts.length:Int)<=p->(∀t∈ts,∀x∈ns,(t.names.count x:Int)<p)->(∀(d:Addr)(H':Hp),H d=none->GameAt C H' g a b d p->H' d=some (.lst ((ns.map (bm ts)).map V.int))->SameBut g H H'->Q .non H'):=1
def Dj:FnScope Wa Wa (ah uF):=%[|5]
def DY   (F:Fun K "__init__" "Game.__init__" uF f fd) (T:GTxt K mg C) (htuple:mg "tuple"=none) (hlen:mg "len"=none) (lj:#[13,"degree_of",Wm,spDeg]) (hZ:#[1,"look_switches",["switches"],spLookS])
 (jf:#[13,"look_names",["trees","switches"],spLookN]) (jh:#[2,"look_field",["field"],spLookF]) (lm:#[1,"look_size",["field","degrees"],spLookZ]):#[14,f,fd,Wa,spGInit C]:=by
 exists Dj
 erw[g,dx,a,b,ns,tv,ts,p,1,hg,ha,nd,nl,hb,TS,t1,t10,tok,pp,p2,p9,tp,tc,q]at h;refine⟨_,(aa (aO (pv 0) (bt bb rfl htuple bu %[1|aP]) rfl)
  (aa (aO (pv 0) (bt bb rfl htuple bu %[2|aP]) rfl)
  (aa (aO (pv 0) (pv 3) rfl)
  (aa (aO (pv 0) (cH (N:=WA) (ix:=[0]) rfl
   #[3] rfl
   (ip (ay (pv 0) rfl)) (λ_ _ _=>cR (aj lj hr ⋯ rfl %[0,jD K (pv 1)|aP]))) rfl)
  (aa (aW (aj hZ hr ⋯ rfl %[ay (pv 0) rfl|aP]))
  (aa (aW (aj jf hr ⋯ rfl %[ay (pv 0) rfl,ay (pv 0) rfl|aP]))
  (aa (aW (aj jh hr ⋯ rfl %[3|aP]))
  (ad (aW (aj lm hr ⋯ rfl %[3,aq rG (ay (pv 0) rfl) (dL %[aq bh (aG aE rfl hlen zC1 %[ay (pv 0) rfl|aP]) ae|aP])|aP])))))))))),?_⟩
 let nag:a≠g:=bp ha hg nofun;let nbg:b≠g:=bp hb hg nofun;let vl:=TS.length;erw[0,a,0,.inr %[zD0 ha,0,g,C,dx,[],1,hg,T.cl,T.nS,(by show 0<1000;decide)|6]];erw[0,b,0,.inr %[zD0 (by rw[aB nbg];exact hb),0,g,C,dx,0,aJ,T.cl,T.nT,(zK1 (ik _ _ _) (by show 1<1000;decide))|6]];erw[0,0,g,C,dx,0,aJ,9,T.nF,(zK1 (ik _ _ _) (zK1 (zG1 (ik _ _ _)) (by show 2<1000;decide))),6];let S3:SameBut g H (upd (upd (upd H g (.ins C dx (cD "switches" (.ref a) []))) g (.ins C dx (cD "trees" (.ref b) (cD "switches" (.ref a) [])))) g (.ins C dx (cD "field" (.int p) (cD "trees" (.ref b) (cD "switches" (.ref a) []))))):=
  (SameBut.upd _).trans ((SameBut.upd _).trans (SameBut.upd _))
 let hg3:upd (upd (upd H g (.ins C dx (cD "switches" (.ref a) []))) g (.ins C dx (cD "trees" (.ref b) (cD "switches" (.ref a) [])))) g (.ins C dx (cD "field" (.int p) (cD "trees" (.ref b) (cD "switches" (.ref a) [])))) g=some (.ins C dx (gf3 a b p)):=aJ;generalize upd (upd (upd H g (.ins C dx (cD "switches" (.ref a) []))) g (.ins C dx (cD "trees" (.ref b) (cD "switches" (.ref a) [])))) g (.ins C dx (cD "field" (.int p) (cD "trees" (.ref b) (cD "switches" (.ref a) []))))=H3 at S3 hg3;let kT:bL H H3:=λc xs h=>S3 c _ (bp h hg nofun) h
 let ha3:=kT _ _ ha;let hb3:=kT _ _ hb;let TS3:=TS.mono kT;erw[0,g,C,dx,_,0,hg3,9,T.nS,Jr ..,a,1,%[_|zD0 ha3],λD hD=>?_];let D0:H D=none:=by
  cases e:H D with
  | none=>rfl
  | some o=>
    by_cases c:D=g
    . rw[c,hg3]at hD;cases hD
    . rw[S3 D o c e]at hD;cases hD
 refine gC (K:=K) (xs:=ns.map V.str) (λi H'=>H' D=some (.lst (((ns.take i).map (bm ts)).map V.int))/\Same H3 H') %[by rw[aJ];rfl|zC0 hD _] (λi H' _ h=>zD0 (h.2 _ _ ha3)) ?_ ?_
 . rintro i z H4 hz ⟨hl,S4⟩;let hi:i<(ns.map V.str).length:=(zY0 hz).1;rw[zZ0]at hz;let%[x,hx|1]:=qT0 hz;erw[0,0,g,C,dx,_,0,S4 _ _ hg3,9,T.nT,Jq ..,x,b,tv,ts,1,S4 _ _ hb3,TS3.mono (aY S4),6,t10,λt ht=>(tok t ht).2,λH5 S5=>?_]
   . intro e;rw[e]at t1;exact absurd t1 ⋯
   erw[_,S5 _ _ hl,6,Nx.of hi %[6|λb' o' e'=>?_]]
   . rw[zF0,zF0,qJ0];exact aN #[0]
   . rw[aJ,qI0,hx,zL0,zL0];rfl
   . rw[aB (aQ e' hD)];exact S5 _ _ (S4 _ _ e')
 rintro H4 ⟨hl,S4⟩;rw[zF0,qF0]at hl;erw[0,g,C,dx,0,S4 _ _ hg3,9,T.nD,6,6]
 . exact zK1 (zR0 (ik _ _ _) (zG1 (zR0 (ik _ _ _) (zG1 (ik _ _ _))))) (by show 3<1000;decide)
 let nDg:D≠g:=λz=>by rw[z,hg3]at hD;cases hD
 let hg5:upd H4 g (.ins C dx (gf a b p D)) g=some (.ins C dx (gf a b p D)):=aJ;let S5:SameBut g H (upd H4 g (.ins C dx (gf a b p D))):=S3.trans ((zJ0 S4).trans (SameBut.upd _));let hD5:upd H4 g (.ins C dx (gf a b p D)) D=some (.lst ((ns.map (bm ts)).map V.int)):=by rw[aB nDg];exact hl
 show _;generalize he5:upd H4 g (.ins C dx (gf a b p D))=H5 at hg5 S5 hD5;let kT5:bL H H5:=λc xs h=>S5 c _ (bp h hg nofun) h
 rw[show upd H4 g (.ins C dx (cD "degrees" (.ref D) (gf3 a b p)))=H5 from he5];erw[0,g,C,dx,_,0,hg5,9,T.nS,nJ ..,a,ns,1,kT5 _ _ ha,nd,nl,λH6 S6=>?_];let kT6:bL H H6:=λc xs h=>S6 _ _ (kT5 c xs h)
 erw[0,g,C,dx,_,0,S6 _ _ hg5,9,T.nT,lu ..,0,g,C,dx,_,0,S6 _ _ hg5,9,T.nS,nJ ..,a,b,ns,tv,ts,1,kT6 _ _ ha,kT6 _ _ hb,TS.mono kT6,tok,λH7 S7=>?_];let S57:=S6.trans S7;erw[0,p,1,pp,p2,p9,6];erw[0,0,g,C,dx,_,0,S57 _ _ hg5,9,T.nD,zZ ..,0,g,C,dx,_,0,S57 _ _ hg5,9,T.nT,lu ..,b,0,.inr (zD0 (S57 _ _ (kT5 _ _ hb))),2,y1S,λl hl2=>?_];let Gl:=zC0 hl2 (.lst [.int ((tv.length:Int)-1)]);erw[D,l,2,Gl _ _ (S57 _ _ hD5),aJ,6,λr hr0=>?_]
 . rw[zF0,zF0];exact cq (by simp;omega)
 let Gr:=zC0 hr0 (.lst ((ns.map (bm ts)).map V.int++[.int ((tv.length:Int)-1)]));erw[p,r,ns.map (bm ts)++[(tv.length:Int)-1],1,6,by simp,λn hn=>?_,6]
 . rw[aJ,zL0];rfl
 . rcases qD0 hn with h | h
   . let%[x,hx|1]:=List.mem_map.mp h;refine nQ ?_ λt ht=>tc t ht x hx
     intro e;rw[e]at t1;exact absurd t1 ⋯
   . rw[NW h];omega
 . let S59:=S57.trans (Gl.trans Gr);exact q D _ D0 %[dx|S59 _ _ hg5] (S59 _ _ hD5) (S5.trans (zJ0 S59))
instance spInv:∀a p:Int,vs=[.int a,.int p]->Pr p->p<=999983->0<a->a<p->(∀g:Int,0<g->g<p->g*a % p=1->Q (.int g) H):=1
def bO:FnScope ["a","p","former","former_factor","rest","factor","times","lesser","lesser_factor"] ["a","p"] (ah jv):=%[|5]
def sP   (F:Fun K "inverse_of" "inverse_of" jv f fd):#[1,f,fd,["a","p"],spInv]:=by
 exists bO
 erw[a,p,1,pr,p1,a0,a1,q]at h;let p2:2<=p:=pr.1;refine⟨_,(aa #[ai,2,bO,pv 1]
  (aa #[ai,3,bO,ae]
  (aa #[ai,4,bO,aq ba (pv 0) (pv 1)]
  (aa #[ai,5,bO,ae]
  (aa (im zF1 (ag mO (pv 4) ae (ax _)) (aa #[ai,6,bO,aq zP (pv 2) (pv 4)]
   (aa #[ai,7,bO,aq bh (pv 2) (aq ci (pv 6) (pv 4))]
   (aa #[ai,8,bO,aq ba (aq bh (pv 3) (aq ci (pv 6) (pv 5))) (pv 1)]
   (aa #[ai,2,bO,pv 4]
   (aa #[ai,3,bO,pv 5]
   (aa #[ai,4,bO,pv 7]
   (ad #[ai,5,bO,pv 8]))))))))
  (ad (am (pv 5)))))))),?_⟩
 erw[0,6];erw[0,0,2,(show 0<p by omega),6];erw[λm σ H'=>∃(former ff rest g:Int)(x6 x7 x8:Option V),σ=[some (.int a),some (.int p),some (.int former),some (.int ff),some (.int rest),some (.int g),x6,x7,x8]/\H'=H/\Eu a p former ff rest g/\m=rest.toNat,%[_,_,_,_,_,_,2,wW pr #[0] a0 a1|1],6]
 rintro m σ H' ⟨former,ff,rest,g,x6,x7,x8,rfl,rfl,eu,rfl⟩;erw[0,1,0,6]
 by_cases c:rest=1
 . refine wM (congrArg V.int c) ?_;let%[g0,g1|g2]:=EY eu c #[0];erw[0,q g g0 g1 g2]
 . refine iteN (λz=>c (V.int.inj z)) ?_;erw[_,λ_ _ h=>h,6];let r0:=eu.r0;let rp:=eu.rp;let f0:=eu.f0;let f1:=eu.f1;let%[nx|lt]:=Ag eu c;erw[0,0,2,%[r0|3],6];erw[0,0,0,2,.inr %[3|3],2,6];erw[0,0,0,2,.inr %[3|3],2,0,2,(show 0<p by omega),6];erw[0,0,0,0,6];erw[_,lt,_,_,_,_,_,2,nx,1]
def md{p x y:Int}(h:p ∣ x-y):x % p=y % p:=by
 erw[k,hk]at h
 have:x=y+p*k:=by omega
 rw[this,Int.add_mul_emod_self_left]
def dm(p x:Int):p ∣ x % p-x:=⟨-(x / p),by
 have:=qY1 x p
 rw[Int.mul_neg];omega⟩
def pmd(p:Int)(g:Nat->Int):Nat->Int
 | 0=>1
 | k+1=>pmd p g k*g k % p
def mJ(p:Int)(g:Nat->Int):∀k,p ∣ pmd p g k-pr g k
 | 0=>%[(0)|by simp [pmd,pr]]
 | k+1=>by
   let%[a|ha]:=mJ p g k;let%[b|hb]:=dm p (pmd p g k*g k);erw[b+a*g k,by show pmd p g k*g k % p-pr g k*g k=_;grind]
def mI{p:Int}(hp:1<p)(g:Nat->Int):∀k,0<=pmd p g k/\pmd p g k<p
 | 0=>%[by show(0:Int)<=1;decide|hp]
 | k+1=>%[qE0 _ #[0]|qG0 _ #[0]]
def prL(p:Int)(g:Nat->Int)(n:Nat):List V:=((List.range n).map (pmd p g)).map V.int
def rh(p:Int)(g:Nat->Int)(n:Nat):prL p g (n+1)=prL p g n++[.int (pmd p g n)]:=by
 unfold prL;rw[qE1,zL0,zL0];rfl
def Gq(p:Int)(g:Nat->Int)(n:Nat):(prL p g n).length=n:=by
 unfold prL;rw[zF0,zF0,qR0]
def yE{f:Nat->Int}{n k:Nat}(h:k<n):atI (((List.range n).map f).map V.int) (k:Int)=some (.int (f k)):=by
 refine cx ?_;rw[zZ0,zZ0,jR0 h];rfl
def ya{n k:Nat}(h:k<n):atI (prL p g n) (k:Int)=some (.int (pmd p g k)):=yE h
instance spProd:∀(a:Addr)(g:Nat->Int)(n:Nat)(p:Int),vs=[.ref a,.int p]->H a=some (.lst (((List.range n).map g).map V.int))->n<=500->1<p->p<2 ^ 40->(∀(l:Addr)(H':Hp),H l=none->Same H H'->H' l=some (.lst (prL p g (n+1)))->Q (.ref l) H'):=1
def lp:FnScope ["numbers","p","told","number"] Wn (ah lH):=%[|5]
def wk   (F:Fun K "products" "products" lH f fd):#[1,f,fd,Wn,spProd]:=by
 exists lp
 erw[a,g,n,p,1,ha,n5,p1,p40,q]at h;refine⟨_,(aa #[ai,2,lp,dL %[ae|aP]]
  (aa (cF zF1 rfl (eN (pv 0)) (bc (i:=3) lp.nd rfl (.inl rfl)) (ad (aW (eC zE1 zH1 zI1 ca (pv 2) %[aq ba (aq ci (aM ix_list (pv 2) (wb qo ae) #[1]) (pv 3)) (pv 1)|aP]))))
  (ad (am (pv 2))))),?_⟩
 erw[y1S,λL hL=>?_];let aL:a≠L:=aQ ha hL;refine⟨_,rfl,a,rfl,%[_|zH0 ((zC0 hL _) _ _ ha)],iW (K:=K) (xs:=((List.range n).map g).map V.int) (λi σ H'=>∃x3:Option V,σ=[some (.ref a),some (.int p),some (.ref L),x3]/\H' L=some (.lst (prL p g (i+1)))/\SameBut L H H')
  %[0,by rw[aJ];rfl|SameBut.upd _] (λi σ H' _ NV=>by erw[_,_,_,h]at NV;exact zH0 (h _ _ aL ha)) ?_ ?_⟩
 . rintro i z σ H1 hz ⟨x3,rfl,hL1,S1⟩;let hi:=(zY0 hz).1;rw[zF0,zF0,qR0]at hi;rw[zZ0,zZ0,jR0 hi]at hz;obtain rfl:V.int (g i)=z:=zT0 hz;let rg:=mI p1 g i;erw[0,.inl %[1,_|zH0 hL1],6];erw[0,0,L,_,_,.int (pmd p g i),1,1,zH0 hL1,6,0,2,.inl %[3|3],0,2,#[0],L,2,hL1,6,6]
   . rw[rh];exact xr _ _
   . rw[Gq];exact aN #[0]
   . erw[0,6,λc o hc e=>?_]
     . rw[aJ,rh p g (i+1)];rfl
     . rw[aB hc];exact S1 c o hc e
 . rintro σ H1 ⟨x3,rfl,hL1,S1⟩;rw[zF0,zF0,qR0]at hL1;erw[0,q L H1 hL (λb o e=>S1 b o (aQ e hL) e) hL1]
def DC:∀n:Nat,pr (λk=>1+(k:Int)) n=fac n
 | 0=>rfl
 | n+1=>by
   show pr (λk=>1+(k:Int)) n*(1+(n:Int))=fac n*((n:Int)+1)
   rw[DC n,vE1]
def Dc{p g a t s:Int}{k m:Nat}(hg:g*a % p=1)(p1:1<p)(ha:p ∣ a-fac (k+m))(ht:p ∣ t-pr (λj=>((k+m:Nat):Int)-j) m)(hs:p ∣ s-g*t):p ∣ s*fac k-1:=by
 let f:=wU m k;erw[x,hx]at ha;erw[y,hy]at ht;erw[z,hz]at hs;let%[e|he]:=dm p (g*a);rw[hg]at he;erw[z*fac k+g*y*fac k-g*x-e,by grind]
instance spFacs:∀(L:Nat)(p:Int),vs=[.int (L:Int),.int p]->L<=500->(L:Int)<p->Pr p->p<=999983->(∀(l:Addr)(H':Hp)(sh:Nat->Int),H l=none->Same H H'->(∀k,k<=L->p ∣ sh k*fac k-1)->(∀k,0<=sh k/\sh k<p)->H' l=some (.lst (((List.range (L+1)).map sh).map V.int))->Q (.ref l) H'):=1
def c8:FnScope ["last","p","numbers","whole","told"] ["last","p"] (ah dZ):=%[|5]
def jP   (F:Fun K "inverse_factorials" "inverse_factorials" dZ f fd) (B:Bl mg) (eW:#[1,"products",Wn,spProd]) (fg:#[1,"inverse_of",["a","p"],spInv]):#[2,f,fd,["last","p"],spFacs]:=by
 exists c8
 erw[L,p,1,L5,Lp,pp,p9,q]at h;refine⟨_,(aa #[ai,2,c8,yg rfl rfl B.list rfl B.range %[ae,aq aS (pv 0) ae|aP]]
  (aa (ai (i:=3) c8.nd rfl (Or.inr rfl) (aj fg hr ⋯ rfl %[aM ix_list (aj eW hr ⋯ rfl %[2,1|aP]) (wb qo ae) #[1],1|aP]))
  (aa (ai (i:=4) c8.nd rfl (Or.inr rfl) (aj eW hr ⋯ rfl (af (cH (N:=["last"]) (ix:=[0]) rfl
   #[3] rfl
   (bZ rfl B.range %[0|aP]) (λ_ _ _=>cR (aq bh (pv 1) (pv 0)))) %[1|aP])))
  (ad (am (cH (N:=["whole","told","p","last"]) (ix:=[3,4,1,0]) rfl
   (CompScope.four (by rfl') ⋯ rfl ⋯ rfl ⋯ rfl (by rfl') (by rfl') (by rfl') (by rfl') (by rfl') (by rfl') rfl rfl (by rfl') rfl rfl (by rfl') rfl rfl (by rfl') rfl rfl) rfl
   (bZ rfl B.range %[aq aS (pv 0) ae|aP]) (λ_ _ _=>cR (aq ba (aq ci (pv 1) (aM (wL K) (pv 2) (aq bh (pv 4) (pv 0)) #[1])) (pv 3))))))))),?_⟩
 let p2:=pp.1;let hP:=rm pp #[0];erw[0,2,(1),0,%[4,4,3|3],3,λa ha=>?_];let e1:uQ 1 ((L:Int)+1-1).toNat=(List.range L).map λk:Nat=>1+(k:Int):=by
  unfold uQ;rw[show((L:Int)+1-1).toNat=L by omega]
 rw [e1];let Ga:=zC0 ha (.lst (((List.range L).map λk:Nat=>1+(k:Int)).map V.int));erw[0,0,a,_,L,p,1,aJ,L5,3,3,λl H2 l0 S2 hl2=>?_];let rg:=mI (show 1<p by omega) (λk:Nat=>1+(k:Int)) L;let dv:=mJ p (λk:Nat=>1+(k:Int)) L;rw[DC]at dv;let ne0:pmd p (λk:Nat=>1+(k:Int)) L≠0:=λz=>by
  rw[z]at dv;erw[m,hm]at dv;exact vE hP L Lp %[-m|by rw[Int.mul_neg];omega]
 erw[0,l,_,_,.int (pmd p (λk:Nat=>1+(k:Int)) L),1,1,zH0 hl2,by rw[rh];exact xr _ _,0,_,p,1,pp,p9,3,rg.2,λg g0 g1 hg=>?_];let SH2:=Ga.trans S2;erw[0,0,3,3,λD hD=>?_];refine eP (λi H'=>H' D=some (.lst (((List.range i).map λj:Nat=>(L:Int)-j).map V.int))/\Same H2 H') %[by rw[aJ];rfl|zC0 hD _] ?_ ?_
 . rintro i H3 hi ⟨hD3,S3⟩;erw[0,0,2,_,hD3,6,Nx.of hi %[6|λb o e=>?_]]
   . rw[zF0,zF0,qR0];exact aN #[0]
   . rw[aJ,qE1,zL0,zL0,qZ0];rfl
   . rw[aB (aQ e hD)];exact S3 _ _ e
 rintro H3 ⟨hD3,S3⟩;rw[show((L:Int)).toNat=L from qS0 L]at hD3;erw[0,D,_,L,p,1,hD3,L5,3,3,λt H4 t0 S4 ht4=>?_];erw[0,2,0,3,3,λD2 hD2=>?_];refine eP (λi H'=>H' D2=some (.lst (((List.range i).map λk:Nat=>g*pmd p (λj:Nat=>(L:Int)-j) (L-k) % p).map V.int))/\Same H4 H') %[by rw[aJ];rfl|zC0 hD2 _] ?_ ?_
 . rintro i H5 hi ⟨hD5,S5⟩;let hi':i<L+1:=by omega
   let rg2:=mI (show 1<p by omega) (λj:Nat=>(L:Int)-j) (L-i);let e2:(L:Int)-(0+(i:Int))=((L-i:Nat):Int):=by omega
   erw[0,0,0,0,2,t,_,_,.int (pmd p (λj:Nat=>(L:Int)-j) (L-i)),1,1,zH0 (S5 _ _ ht4),by rw[e2];exact ya #[0],2,.inl %[3|3],0,2,#[0],_,hD5,6,Nx.of hi ⟨?_,λb o e=>?_⟩]
   . rw[zF0,zF0,qR0];exact aN #[0]
   . rw[aJ,qE1,zL0,zL0];rfl
   . rw[aB (aQ e hD2)];exact S5 _ _ e
 rintro H5 ⟨hD5,S5⟩;rw[show((L:Int)+1).toNat=L+1 by omega]at hD5;let S05:=SH2.trans (S3.trans (S4.trans S5));refine q D2 H5 (λk=>g*pmd p (λj:Nat=>(L:Int)-j) (L-k) % p) ((SH2.trans (S3.trans S4)).free hD2) S05 (λk hk=>?_) (λk=>%[qE0 _ #[0]|qG0 _ #[0]]) hD5;obtain⟨m,rfl⟩:∃m,L=k+m:=⟨L-k,by omega⟩
 rw[show k+m-k=m by omega];exact Dc hg #[0] dv (mJ p _ m) (dm p _)
def wt(p:Int)(n i:Nat):Int:=(px (i:Int) i n % p) ^ (p-2).toNat
def xz(hp:Pm p){n:Nat}(hn:(n:Int)<=p):Wgt p n (wt p n):=λi hi=>by
 let h1:=IV hp hn hi;let%[k|hk]:=dm p (px (i:Int) i n);let h2:¬ p ∣ px (i:Int) i n % p:=fun⟨m,hm⟩=>h1 %[m-k|by grind]
 let%[m|hm]:=Jv hp h2 (qE0 _ (by have:=hp.1;omega));erw[m-k*(px (i:Int) i n % p) ^ (p-2).toNat,by unfold wt;grind]
def val(p:Int)(xs:List Int)(r:Int):Int:=lag (λi=>xs.getD i 0) (wt p xs.length) xs.length r % p
def Iy{t:Int}{xs:List Int}(hp:Pm p)(hn:(xs.length:Int)<=p)(hu:Wgt p xs.length u)(t0:0<=t)(t1:t<p)(h:p ∣ t-lag (λi=>xs.getD i 0) u xs.length r):t=val p xs r:=by
 let e:p ∣ t-lag (λi=>xs.getD i 0) (wt p xs.length) xs.length r:=by
  have:=EE hp hn (v:=λi=>xs.getD i 0) hu (xz hp hn) r
  let z:=wK1 h this;let e2:t-lag (λi=>xs.getD i 0) u xs.length r+(lag (λi=>xs.getD i 0) u xs.length r-lag (λi=>xs.getD i 0) (wt p xs.length) xs.length r)=t-lag (λi=>xs.getD i 0) (wt p xs.length) xs.length r:=by omega
  rw[e2]at z;exact z
 have:=md e
 rw[qU0 t0 t1]at this;exact this
def FN{p:Int}(hp:1<p)(xs:List Int)(r:Int):0<=val p xs r/\val p xs r<p:=%[qE0 _ #[0]|qG0 _ #[0]]
def Iz{xs:List Int}{k:Nat}(hp:Pm p)(hn:(xs.length:Int)<=p)(hk:k<xs.length):val p xs k=xs.getD k 0 % p:=md (yL (xz hp hn) hk)
def sgn(m:Nat):(-1:Int) ^ m=if m % 2=1 then -1 else 1:=by
 induction m with
 | zero=>rfl
 | succ m ih=>
   rw[qA1,ih]
   by_cases c:m % 2=1
   . rw[NQ c,NP #[0]];rfl
   . rw[NP c,NQ #[0]];rfl
def FM{p r v t s a b c d e:Int}{m:Nat}{x y:Int}(ht:p ∣ t-s)(ha:p ∣ a-pr (λj=>r-j) i)(hb:p ∣ b-pr (λj=>r-(i+m:Nat)+j) m)(hc:p ∣ c-v*a*b)(hd:p ∣ d-x*y)(he:p ∣ e-(t+(if m % 2=1 then -(c*d)else c*d))) :
 p ∣ e-(s+v*px r i (i+m+1)*((-1) ^ m*(x*y))):=by
 rw[show i+m+1=i+1+m by omega,qX,sgn];rw[zK]at hb;generalize pr (λj=>r-j) i=A at *
 generalize pr (λj=>r-(i+1+j:Nat)) m=B at *
 erw[t',ht]at ht;erw[a',ha]at ha;erw[b',hb]at hb;erw[c',hc]at hc;erw[d',hd]at hd;erw[e',he]at he;let e1:c*d-v*(A*B)*(x*y)=p*(c'*d+v*(a'*b+A*b')*d+v*A*B*d'):=by grind
 by_cases z:m % 2=1
 . rw [NQ z]at *
   erw[e'+t'-(c'*d+v*(a'*b+A*b')*d+v*A*B*d'),by grind]
 . rw [NP z]at *
   erw[e'+t'+(c'*d+v*(a'*b+A*b')*d+v*A*B*d'),by grind]
def IntsAt(H:Hp)(a:Addr)(xs:List Int):Prop:=H a=some (.lst (xs.map V.int))∨H a=some (.tup (xs.map V.int))
def IntsAt.same(h:IntsAt H a xs)(s:Same H H'):IntsAt H' a xs:=h.elim (λe=>.inl (s _ _ e)) (λe=>.inr (s _ _ e))
def IntsAt.seq{K:W.Frag}(h:IntsAt H a xs):SqL K H a (xs.map V.int)∨SqT K H a (xs.map V.int):=h.elim (λe=>.inl (zH0 e)) (λe=>.inr (zD0 e))
def IntsAt.ix{K:W.Frag}{k:Nat}{Q:VK}(h:IntsAt H a xs)(hk:k<xs.length)(q:Q (.int (xs.getD k 0)) H):rIxL K (.ref a) (.int (k:Int)) H Q∨rIxT K (.ref a) (.int (k:Int)) H Q:=by
 let e:atI (xs.map V.int) (k:Int)=some (.int (xs.getD k 0)):=cx (by rw[zZ0,zM0 hk,qM0,zM0 hk];rfl);rcases h with h | h
 . exact .inl %[a,_,2,zH0 h,e|q]
 . exact .inr %[a,_,2,zD0 h,e|q]
def lA(xs:List Int)(p:Int):Prop:=1<=xs.length/\xs.length<=500/\(xs.length:Int)<=p/\∀k,0<=xs.getD k 0/\xs.getD k 0<2 ^ 40
instance spVal:∀(a:Addr)(xs:List Int)(r p:Int),vs=[.ref a,.int r,.int p]->IntsAt H a xs->lA xs p->Pr p->p<=999983->0<=r->r<p->(∀H',Same H H'->Q (.int (val p xs r)) H'):=1
def bw:FnScope ["values","r","p","last","ahead","behind","shares","total","place","share","part"] WL (ah ia):=%[|5]
def pP   (F:Fun K "value_behind" "value_behind" ia f fd) (B:Bl mg) (eW:#[1,"products",Wn,spProd]) (fk:#[2,"inverse_factorials",["last","p"],spFacs]):#[3,f,fd,WL,spVal]:=by
 exists bw
 erw[a,xs,r,p,1,ha,%[x1,x5,xp|xb],pp,p9,r0,r1,q]at h;refine⟨_,(aa (ai (i:=3) bw.nd rfl (Or.inr rfl) (aq bh (aG aE rfl B.len zC1 %[0|aP]) ae))
  (aa (ai (i:=4) bw.nd rfl (.inl rfl) (aj eW hr ⋯ rfl (af (cH (N:=["r"]) (ix:=[1]) rfl
   #[3] rfl
   (bZ rfl B.range %[3|aP]) (λ_ _ _=>cR (aq bh (pv 1) (pv 0)))) %[2|aP])))
  (aa (ai (i:=5) bw.nd rfl (.inl rfl) (aj eW hr ⋯ rfl (af (cH (N:=["r","last"]) (ix:=[1,3]) rfl
   #[4] rfl
   (bZ rfl B.range %[3|aP]) (λ_ _ _=>cR (aq aS (aq bh (pv 1) (pv 2)) (pv 0)))) %[2|aP])))
  (aa #[ai,6,bw,aj fk hr ⋯ rfl %[3,2|aP]]
  (aa #[ai,7,bw,ae]
  (aa (cF zF1 rfl (bZ rfl B.range %[aq aS (pv 3) ae|aP]) (bc (i:=8) bw.nd rfl (.inl rfl)) (aa #[ai,9,bw,aq ba (aq ci (aM ix_list (pv 6) (pv 8) #[1]) (aM ix_list (pv 6) (aq bh (pv 3) (pv 8)) #[1])) (pv 2)]
   (aa #[ai,10,bw,aq ci (aq ba (aq ci (aq ci (aM (ix_list.or ix_tup) (pv 0) (pv 8) #[1]) (aM ix_list (pv 4) (pv 8) #[1])) (aM ix_list (pv 5) (aq bh (pv 3) (pv 8)) #[1])) (pv 2)) (pv 9)]
   (aa (aI (ag aR (aq ba (aq bh (pv 3) (pv 8)) ae) ae (ax _)) (ad #[ai,10,bw,wb qo (pv 10)]) az)
   (ad #[ai,7,bw,aq ba (aq aS (pv 7) (pv 10)) (pv 2)])))))
  (ad (am (pv 7))))))))),?_⟩
 let p2:=pp.1;let p1:1<p:=by omega
 let p0:0<p:=by omega
 let hP:=rm pp #[0];obtain⟨L,hL⟩:∃L,xs.length=L+1:=%[xs.length-1|3]
 let eL:(((xs.map V.int).length:Nat):Int)-1=(L:Int):=by rw[zF0];omega
 erw[0,a,0,ha.seq,2,6]
 dsimp only
 rw[eL];erw[0,(L:Int),1,3,3,λD hD=>?_];refine eP (λi H'=>H' D=some (.lst (((List.range i).map λj:Nat=>r-j).map V.int))/\Same H H') %[by rw[aJ];rfl|zC0 hD _] ?_ ?_
 . rintro i H3 hi ⟨hD3,S3⟩;erw[0,0,2,_,hD3,6,Nx.of hi %[6|λb o e=>?_]]
   . rw[zF0,zF0,qR0];exact aN #[0]
   . rw[aJ,qE1,zL0,zL0,qZ0];rfl
   . rw[aB (aQ e hD)];exact S3 _ _ e
 rintro H1 ⟨hD1,S1⟩;rw[show((L:Int)).toNat=L from qS0 L]at hD1;erw[0,D,_,L,p,1,hD1,3,p1,3,λla H2 la0 S2 hla=>?_];erw[0,(L:Int),1,3,3,λD2 hD2=>?_];refine eP (λi H'=>H' D2=some (.lst (((List.range i).map λj:Nat=>r-(L:Int)+j).map V.int))/\Same H2 H') %[by rw[aJ];rfl|zC0 hD2 _] ?_ ?_
 . rintro i H3 hi ⟨hD3,S3⟩;erw[0,0,2,0,2,_,hD3,6,Nx.of hi %[6|λb o e=>?_]]
   . rw[zF0,zF0,qR0];exact aN #[0]
   . rw[aJ,qE1,zL0,zL0,qZ0];rfl
   . rw[aB (aQ e hD2)];exact S3 _ _ e
 rintro H3 ⟨hD3,S3⟩;rw[show((L:Int)).toNat=L from qS0 L]at hD3;erw[0,D2,_,L,p,1,hD3,3,p1,3,λlb H4 lb0 S4 hlb=>?_];erw[0,0,L,p,1,3,3,pp,p9,λls H5 sh ls0 S5 hsh hsr hls=>?_];let S25:=S3.trans (S4.trans S5);let S05:=S1.trans (S2.trans S25);let hla5:=S25 _ _ hla;let hlb5:=S5 _ _ hlb;let ha5:=ha.same S05;let hW:=FJ hsh;refine⟨_,rfl,_,_,rfl,rfl,_,rfl,by omega,by omega,cW (λi σ H'=>∃(t:Int)(x8 x9 x10:Option V),σ=[some (.ref a),some (.int r),some (.int p),some (.int L),some (.ref la),some (.ref lb),some (.ref ls),some (.int t),x8,x9,x10]/\0<=t/\t<p/\p ∣ t-sm (λi=>xs.getD i 0*px r i (L+1)*((-1) ^ (L-i)*(sh i*sh (L-i)))) i/\H'=H5)
  %[(0),_,_,0,4,p0,%[(0)|by simp [sm]]|1] ?_ ?_⟩
 . rintro i σ H6 hi ⟨t,x8,x9,x10,rfl,t0,t1,td,rfl⟩;let hi':i<L+1:=by omega
   obtain⟨m,hm⟩:∃m,L=i+m:=%[L-i|3]
   let e0:(0:Int)+(i:Int)=(i:Int):=qZ0 _;let e1:(L:Int)-(0+(i:Int))=(m:Int):=by omega
   let r1':=hsr i;let r2':=hsr m;let ar:=mI p1 (λj:Nat=>r-j) i;let br:=mI p1 (λj:Nat=>r-(L:Int)+j) m;let xi:=xb i;let m1:∀z:Int,0<=z % p:=λz=>qE0 _ #[0]
   let m2:∀z:Int,z % p<p:=λz=>qG0 _ p0
   erw[0,0,ls,_,_,.int (sh i),1,1,zH0 hls,by rw[e0];exact yE hi',0,0,0,2,ls,_,_,.int (sh m),1,1,zH0 hls,by rw[e1];exact yE #[0],2,.inl %[3|3],0,2,p0,6];erw[0,0,6];rw[e0];refine ha5.ix #[0] ?_;erw[0,0,la,_,_,.int (pmd p (λj:Nat=>r-j) i),1,1,zH0 hla5,ya hi',2,.inl %[3|3],6];erw[0,0,0,2,lb,_,_,.int (pmd p (λj:Nat=>r-(L:Int)+j) m),1,1,zH0 hlb5,by rw[←e0,e1];exact ya #[0],2,.inr %[3|3],0,2,p0,6];let s1:=m1 (sh i*sh m);let s2:=m2 (sh i*sh m);erw[0,2,.inr %[3|3],6];erw[0,0,2,2,(by show(0:Int)<_;decide),1,0,6];let fin:∀z:Int,z=(if m % 2=1 then -(xs.getD i 0*pmd p (λj:Nat=>r-j) i*pmd p (λj:Nat=>r-(L:Int)+j) m % p*(sh i*sh m % p))else xs.getD i 0*pmd p (λj:Nat=>r-j) i*pmd p (λj:Nat=>r-(L:Int)+j) m % p*(sh i*sh m % p)) ->
    p ∣ (t+z) % p-sm (λi=>xs.getD i 0*px r i (L+1)*((-1) ^ (L-i)*(sh i*sh (L-i)))) (i+1):=λz hz=>by
    show p ∣ _-(sm _ i+xs.getD i 0*px r i (L+1)*((-1) ^ (L-i)*(sh i*sh (L-i))))
    let em:L-i=m:=by omega
    let hb:p ∣ pmd p (λj:Nat=>r-(L:Int)+j) m-pr (λj=>r-(i+m:Nat)+j) m:=by
     rw[←hm];exact mJ p _ m
    subst hz;rw[em];let el:L+1=i+m+1:=by omega
    rw[el]at td ⊢;exact FM td (mJ p _ i) hb (dm p _) (dm p _) (dm p _)
   by_cases c:m % 2=1
   . refine aV (congrArg V.int #[0]) ?_;erw[0,0,6];erw[0,0,2,0,2,p0,6];erw[_,_,_,0,m1 _,m2 _,fin _ (by rw[NQ c]),1]
   . refine aD (λz=>c (by have:=V.int.inj z;omega)) ?_;erw[0,0,2,0,2,p0,6];erw[_,_,_,0,m1 _,m2 _,fin _ (by rw[NP c]),1]
 . rintro σ H6 ⟨t,x8,x9,x10,rfl,t0,t1,td,rfl⟩;rw[show((L:Int)+1).toNat=L+1 by omega]at td;rw[←hL]at hW;let e:=Iy (r:=r) hP xp hW t0 t1 (by
    unfold lag;rw[hL];exact td)
   rw[e];erw[0,q H6 S05]
def v7:FnScope ["values","r","p","place"] WL (ah lF):=%[|5]
def wg   (F:Fun K "value_at" "value_at" lF f fd) (B:Bl mg) (iw:#[3,"value_behind",WL,spVal]):#[4,f,fd,WL,spVal]:=by
 exists v7
 erw[a,xs,r,p,1,ha,ok,pp,p9,r0,r1,q]at h;refine⟨_,(aa #[ai,3,v7,aq ba (pv 1) (pv 2)]
  (aa (aI (ag dN (pv 3) (aG aE rfl B.len zC1 %[0|aP]) (ax _)) (ad (am (aq ba (aM (ix_list.or ix_tup) (pv 0) (pv 3) #[1]) (pv 2)))) az)
  (ad (am (aj iw hr ⋯ rfl %[0,3,2|aP]))))),?_⟩
 let p0:0<p:=by omega
 let hP:=rm pp #[0];let er:r % p=r:=qU0 r0 r1;erw[0,0,2,p0,6]
 dsimp only
 rw[er];erw[0,0,a,0,ha.seq,2,0,6];refine oP (λc=>?_) (λc=>?_)
 . let c':=zM1 c;rw[zF0]at c';obtain⟨k,rfl⟩:∃k:Nat,r=(k:Int):=%[r.toNat|3]
   erw[0,0,6];refine ha.ix #[0] ?_;erw[0,2,p0,6];show Q (.int (xs.getD k 0 % p)) H;rw[←Iz hP ok.2.2.1 #[0]];exact q H (Same.refl _)
 . erw[0,0,0,a,xs,r,p,1,ha,ok,pp,p9,r0,r1,q]
instance spEnds:∀(a:Addr)(xs:List Int)(p:Int),vs=[.ref a,.int p]->IntsAt H a xs->lA xs p->Pr p->p<=999983->(∀H',Same H H'->Q (.int ((val p xs 0+val p xs 1) % p)) H'):=1
def ur:FnScope ["values","p"] ["values","p"] (ah ki):=%[|5]
def vd   (F:Fun K "both_ends" "both_ends" ki f fd) (cI:#[4,"value_at",WL,spVal]):#[5,f,fd,["values","p"],spEnds]:=by
 exists ur
 erw[a,xs,p,1,ha,ok,pp,p9,q]at h;erw[_,(ad (am (aq ba (aq aS (aj cI hr ⋯ rfl %[0,ae,1|aP]) (aj cI hr ⋯ rfl %[0,ae,1|aP])) (pv 1)))),6];let p2:=pp.1;erw[0,0,a,xs,(0),p,1,ha,ok,pp,p9,4,3,λH1 S1=>?_];erw[0,0,a,xs,(1),p,1,ha.same S1,ok,pp,p9,4,3,λH2 S2=>?_];erw[2,0,2,#[0],q H2 (S1.trans S2)]
def IntsAt.sqB{K:W.Frag}(h:IntsAt H a xs):∃c,SqB K c H a (xs.map V.int):=h.elim (λe=>%[true|zH0 e]) (λe=>%[false|zD0 e])
def hor(s p:Int):List Int->Int
 | []=>0
 | a::r=>(hor s p r*s+a) % p
def qg{p:Int}(hp:0<p):∀ns,0<=hor s p ns/\hor s p ns<p
 | []=>%[zX1 0|hp]
 | a::r=>%[qE0 _ #[0]|qG0 _ hp]
instance spMix(C:Addr):∀(g a b d l:Addr)(ns:List Int)(s p:Int),vs=[.ref g,.ref l,.int s]->GameAt C H g a b d p->0<p->p<2 ^ 40->IntsAt H l ns->Q (.int (hor s p ns)) H:=1
def vV:FnScope ["self","numbers","s","total","number"] WM (ah xW):=%[|5]
def GN   (F:Fun K "mix" "Game.mix" xW f fd) (T:GTxt K mg C) (hrev:mg "reversed"=none):#[1,f,fd,WM,spMix C]:=by
 exists vV
 erw[g,a,b,d,l,ns,s,p,1,%[dx|hg],p0,p40,hl,q]at h;refine⟨_,(aa #[ai,3,vV,ae]
  (aa (cF zF1 rfl (Gs rfl hrev (pv 1)) (bc (i:=4) vV.nd rfl (.inl rfl)) (ad #[ai,3,vV,aq ba (aq aS (aq ci (pv 3) (pv 2)) (pv 4)) (ay (pv 0) rfl)]))
  (ad (am (pv 3))))),?_⟩
 let%[c|hl]:=hl.sqB (K:=K);refine⟨_,rfl,c,l,_,rfl,hl,EU (K:=K) (c:=c) (xs:=ns.map V.int) (λi σ H'=>∃(x4:Option V)(t:Int),σ=[some (.ref g),some (.ref l),some (.int s),some (.int t),x4]/\t=hor s p (ns.drop (ns.length-i))/\H'=H)
  %[_,(0),1,by rw[jZ1,List.drop_length];rfl|1] (λi σ H' _ NV=>by erw[_,_,_,_,h]at NV;subst h;exact hl) ?_ ?_⟩
 . rintro i z σ H1 hi hz ⟨x4,t,rfl,rfl,rfl⟩;rw[zF0]at hi;rw[←List.map_reverse,zZ0]at hz;let%[x,hx|1]:=qT0 hz;rw[jZ0 hi]at hx;let hr2:=qg (s:=s) p0 (ns.drop (ns.length-i));erw[0,0,2,.inl %[3|3],0,2,0,g,C,dx,_,0,hg,T.cl,T.nF,eU ..,2,p0,6];erw[_,0,6,1];let hj:ns.length-1-i<ns.length:=by omega
   let ed:ns.drop (ns.length-(i+1))=x::ns.drop (ns.length-i):=by
    let e1:ns.length-(i+1)=ns.length-1-i:=by omega
    let e2:ns.length-i=ns.length-1-i+1:=by omega
    rw[e1,e2,jP1 hj]
    congr 1
    rw[zM0 hj]at hx;exact zT0 hx
   rw[ed];rfl
 . rintro σ H1 ⟨x4,t,rfl,rfl,rfl⟩;rw[zF0,vE0,jH0];erw[0,q]
instance spWAt(C:Addr):∀(g a b d r:Addr)(ns:List Str)(tv:List V)(ts:List Tr)(pt:List Int)(s p:Int),vs=[.ref g,.ref r,.int s]->GameAt C H g a b d p->1<p->p<2 ^ 40->H a=some (.tup (ns.map V.str))->H b=some (.tup tv)->TreesAt H tv ts->ts.length<=10->(∀t∈ts,t.ok ns/\t.depth<=10)->H r=some (.tup (pt.map V.int))->pt.length=ns.length->cw pt p->(∀H',Same H H'->Q (.int (hor s p (ts.map λt=>t.worth ns pt p))) H'):=1
def AR:FnScope WO WO (ah qQ):=%[|5]
def Bm   (F:Fun K "worth_at" "Game.worth_at" qQ f fd) (T:GTxt K mg C) (mM:Meth K C "mix" fm) (GM:#[1,fm,fdm,WM,spMix C]) (bM:Binds K fdm WM []) (fV:#[12,"worth_of",WS,spWorth 10]):#[13,f,fd,WO,spWAt C]:=by
 exists AR
 erw[g,a,b,d,r,ns,tv,ts,pt,s,p,1,%[dx|hg],p1,p40,ha,hb,TS,t10,tok,hr0,pl,po,q]at h;let hr1:Room 1 _:=hr.mono ⋯;refine⟨_,(ad (am (bQ (pv 0) T.cl mM GM hr1 bM .nil aZ (af (cH (N:=["self","point"]) (ix:=[0,1]) rfl
  #[4] rfl
  (ip (ay (pv 0) rfl)) (λ_ _ _=>cR (aj fV hr ⋯ rfl %[0,jD K (pv 1),2,jD K (pv 1)|aP]))) %[2|aP])))),?_⟩
 let vl:=TS.length;erw[0,g,dx,0,hg,pI _ _ _ _ ⋯ ⋯ ⋯ ⋯,6];erw[0,g,C,dx,_,0,hg,9,T.nT,lu ..,b,1,%[_|zD0 hb],λD hD=>?_];refine gC (K:=K) (xs:=tv) (λi H'=>H' D=some (.lst (((ts.take i).map λt=>t.worth ns pt p).map V.int))/\Same H H') %[by rw[aJ];rfl|zC0 hD _] (λi H' _ h=>zD0 (h.2 _ _ hb)) ?_ ?_
 . rintro i z H2 hz ⟨hl,S2⟩;let%[t,ht|Tt]:=TS.get hz;let%[tk|td]:=tok t (qL0 ht);let hi:i<tv.length:=(zY0 hz).1;erw[0,0,g,C,dx,_,0,S2 _ _ hg,9,T.nS,nJ ..,0,0,g,C,dx,_,0,S2 _ _ hg,9,T.nF,eU ..,z,t,a,r,ns,pt,p,1,Tt.mono (aY S2),tk,td,.inr (S2 _ _ ha),S2 _ _ hr0,pl,p1,p40,po,6];erw[_,hl,6,Nx.of hi %[6|λb' o' e'=>?_]]
   . rw[zF0,zF0,qJ0];exact aN #[0]
   . rw[aJ,qI0,ht,zL0,zL0];rfl
   . rw[aB (aQ e' hD)];exact S2 _ _ e'
 . rintro H2 ⟨hl,S2⟩;rw[vl,qF0]at hl;erw[0,g,a,b,d,D,_,s,p,1,%[dx|S2 _ _ hg],3,p40,.inl hl,q H2 S2]
instance spCoins(C:Addr):∀(g a b d:Addr)(ns:List Str)(tv:List V)(p:Int),vs=[.ref g]->GameAt C H g a b d p->H a=some (.tup (ns.map V.str))->H b=some (.tup tv)->Q (.int (if tv.length=1 then(ns.length:Int)else(ns.length:Int)+1)) H:=1
def AS:FnScope WA WA (ah qR):=%[|5]
def Bn   (F:Fun K "coins" "Game.coins" qR f fd) (T:GTxt K mg C) (hlen:mg "len"=none):#[1,f,fd,WA,spCoins C]:=by
 exists AS
 erw[g,a,b,d,ns,tv,p,1,%[dx|hg],ha,hb,q]at h;refine⟨_,(aa (aI (ag aR (aG aE rfl hlen zC1 %[ay (pv 0) rfl|aP]) ae (ax _)) (ad (am (aG aE rfl hlen zC1 %[ay (pv 0) rfl|aP]))) az)
  (ad (am (aq aS (aG aE rfl hlen zC1 %[ay (pv 0) rfl|aP]) ae)))),?_⟩
 erw[0,g,C,dx,_,0,hg,9,T.nT,lu ..,b,0,.inr (zD0 hb),1,0,6]
 by_cases c:V.int (tv.length:Int)=V.int 1
 . refine aV c ?_;let c':tv.length=1:=by have:=V.int.inj c;omega
   rw[NQ c']at q;erw[0,g,C,dx,_,0,hg,9,T.nS,nJ ..,a,0,.inr (zD0 ha),6];rw[zF0];exact q
 . refine aD c ?_;let c':¬ tv.length=1:=λz=>c (by rw[z];rfl)
   rw[NP c']at q;erw[0,g,C,dx,_,0,hg,9,T.nS,nJ ..,a,0,.inr (zD0 ha),6];rw[zF0];erw[2,q]
instance spSize(n:Nat):∀(v:V)(t:Tr),vs=[v]->TreeAt H v t->t.wf->t.depth<=n->t.size<=400->(∀H',Same H H'->Q (.int t.size) H'):=1
def xL(ts:List Tr):(ts.map λu=>(u.size:Int)).sum=(iS ts:Int):=by
 induction ts with
 | nil=>rfl
 | cons a r ih=>
   simp only[iS,zX0,zT1]at ih ⊢;rw[ih];omega
def xO:FnScope WB WB (ah kQ):=%[|5]
def AL {n:Nat}   (F:Fun K "size_of" "size_of" kQ f fd) (B:Bl mg) (bi:#[1,"trees_within",WB,spWithin]) (iU:#[n+2,"size_of",WB,spSize n]):#[n+3,f,fd,WB,spSize (n+1)]:=by
 exists xO
 erw[v,t,1,T,wf,dn,sz,q]at h;refine⟨_,(ad (am (aq aS ae (aG (sA rfl) rfl B.sum wA0 (af (cH (N:=[]) (ix:=[]) (cl:=[]) rfl #[5] rfl
  (ip (aj bi hr #[0] rfl %[0|aP])) (λ_ _ _=>cR (aj iU hr (zG0 _) rfl %[0|aP]))) aP))))),?_⟩
 erw[0,v,t,1,T,wf,λp xs H1 S1 hp TS=>?_];erw[p,1,%[_|zD0 hp],λD hD=>?_];let pD:p≠D:=aQ hp hD;let xl:=TS.length;let sp:=t.size_parts;refine gC (K:=K) (xs:=xs) (λi H'=>H' D=some (.lst (((t.parts.take i).map λu=>(u.size:Int)).map V.int))/\Same H1 H') %[by rw[aJ];rfl|zC0 hD _] (λi H' _ h=>zD0 (h.2 _ _ hp)) ?_ ?_
 . rintro i x H2 hx ⟨hl,S2⟩;let%[u,hu|Tu]:=TS.get hx;let um:=qL0 hu;let%[uw,ud|us]:=Tr.parts_mem um wf;let hi:i<xs.length:=(zY0 hx).1;erw[0,x,u,1,Tu.mono (aY S2),uw,3,3,λH3 S3=>?_];erw[_,S3 _ _ hl,6,Nx.of hi %[6|λb o e=>?_]]
   . have:t.parts.length<=2:=by cases t <;> simp [Tr.parts]
     rw[zF0,zF0,qJ0];exact aN #[0]
   . rw[aJ,qI0,hu,zL0,zL0];rfl
   . rw[aB (aQ e hD)];exact S3 _ _ (S2 _ _ e)
 . rintro H2 ⟨hl,S2⟩;rw[xl,qF0]at hl;let sc:=xL t.parts;erw[D,0,zH0 hl,6,6,6]
   . intro n hn;let%[u,_|1]:=List.mem_map.mp hn;omega
   . rw[sc];omega
   . rw [sc];erw[2,6];let e:(1:Int)+(iS t.parts:Int)=(t.size:Int):=by omega
     show Q (.int (1+(iS t.parts:Int))) H2;rw[e];exact q H2 (S1.trans S2)
def AJ  :#[2,f,fd,WB,spSize 0]:=by
 let no:∀vs H Q E,¬ spSize 0 vs H Q E:=λvs H Q E h=>by
  erw[v,t,_,_,_,h1,_]at h
  have:=t.depth_pos
  omega
 exists 3
def rJ   (F:Fun K "size_of" "size_of" kQ f fd) (B:Bl mg) (m:mg "size_of"=some (.ref f)) (bi:#[1,"trees_within",WB,spWithin]) :
 ∀n:Nat,#[n+2,f,fd,WB,spSize n]
 | 0=>AJ
 | n+1=>AL F B bi (Cal.of F (rJ F B m bi n) m (λ_ _ _ _ _ _ us hl=>by let%[u0|1]:=Hk hl;rfl))
abbrev uJ:Stmt:=bq dz 0
abbrev qS:Stmt:=bq dz 1
abbrev xY:Stmt:=bq dz 2
abbrev uK:Stmt:=bq dz 4
abbrev uI:Stmt:=bq dz 5
abbrev oG:Stmt:=bq dz 6
abbrev qU:Stmt:=bq dz 7
abbrev xX:Stmt:=bq dz 8
abbrev Dq:Stmt:=bq dz 9
abbrev qT:Stmt:=bq dz 10
def dl (g aA aC:Addr) (s:Int) (aH aT:Addr) (ed pl:Int):List (Str×V):=[("game",.ref g),("awaited",.ref aA),("claims",.ref aC),("s",.int s),("heard",.ref aH),("tossed",.ref aT),("held",.int ed),("places",.int pl)]
section
variable {g aA aC aH aT:Addr} {s ed pl:Int}
def iY:(dl g aA aC s aH aT ed pl).lookup ("game":Str)=some (.ref g):=by rfl'
def Fc:(dl g aA aC s aH aT ed pl).lookup ("awaited":Str)=some (.ref aA):=by rfl'
def JD:(dl g aA aC s aH aT ed pl).lookup ("claims":Str)=some (.ref aC):=by rfl'
def Jz:(dl g aA aC s aH aT ed pl).lookup ("s":Str)=some (.int s):=by rfl'
def JC:(dl g aA aC s aH aT ed pl).lookup ("heard":Str)=some (.ref aH):=by rfl'
def yV:(dl g aA aC s aH aT ed pl).lookup ("tossed":Str)=some (.ref aT):=by rfl'
def Aj:(dl g aA aC s aH aT ed pl).lookup ("held":Str)=some (.int ed):=by rfl'
def Ai:(dl g aA aC s aH aT ed pl).lookup ("places":Str)=some (.int pl):=by rfl'
def pJ:(dl g aA aC s aH aT ed pl).lookup ("waits":Str)=none:=by rfl'
def dl_n2:(dl g aA aC s aH aT ed pl).lookup ("due":Str)=none:=by rfl'
def dl_n4:(dl g aA aC s aH aT ed pl).lookup ("hear":Str)=none:=by rfl'
def Ik:(dl g aA aC s aH aT ed pl).lookup ("toss":Str)=none:=by rfl'
def dl_n6:(dl g aA aC s aH aT ed pl).lookup ("hear_claims":Str)=none:=by rfl'
def Ii:(dl g aA aC s aH aT ed pl).lookup ("begin_rounds":Str)=none:=by rfl'
def dl_n8:(dl g aA aC s aH aT ed pl).lookup ("hear_row":Str)=none:=by rfl'
def Fb:(dl g aA aC s aH aT ed pl).lookup ("go_on":Str)=none:=by rfl'
def JB:(dl g aA aC s aH aT ed pl).lookup ("look_at_trees":Str)=none:=by rfl'
def qY {v:Addr}:cD "awaited" (.ref v) (dl g aA aC s aH aT ed pl)=dl g v aC s aH aT ed pl:=by rfl'
def HY {v:Addr}:cD "claims" (.ref v) (dl g aA aC s aH aT ed pl)=dl g aA v s aH aT ed pl:=by rfl'
def HW {v:Int}:cD "s" (.int v) (dl g aA aC s aH aT ed pl)=dl g aA aC v aH aT ed pl:=by rfl'
def HX {v:Addr}:cD "heard" (.ref v) (dl g aA aC s aH aT ed pl)=dl g aA aC s v aT ed pl:=by rfl'
def Dz {v:Addr}:cD "tossed" (.ref v) (dl g aA aC s aH aT ed pl)=dl g aA aC s aH v ed pl:=by rfl'
def xZ {v:Int}:cD "held" (.int v) (dl g aA aC s aH aT ed pl)=dl g aA aC s aH aT v pl:=by rfl'
def uT {v:Int}:cD "places" (.int v) (dl g aA aC s aH aT ed pl)=dl g aA aC s aH aT ed v:=by rfl'
def cM:(dl g aA aC s aH aT ed pl).length<1000:=by show 8<1000;decide
end
structure DTxt(K:W.Frag)(mg:Str->Option Value)(C:Addr):Prop where
 cl:Cls K C
 nG:NoAttr K C "game"
 nA:NoAttr K C "awaited"
 nC:NoAttr K C "claims"
 nS:NoAttr K C "s"
 nH:NoAttr K C "heard"
 nT:NoAttr K C "tossed"
 nE:NoAttr K C "held"
 nP:NoAttr K C "places"
 mgC:mg "Doubter"=some (.ref C)
structure Db where
 aw:Str×Option Int
 cl:List Int
 s:Int
 he:List Int
 to:List Int
 ed:Int
 pl:Int
def awV(a:Str×Option Int):List V:=match a.2 with
 | none=>[.str a.1]
 | some n=>[.str a.1,.int n]
structure DbR(C:Addr)(H:Hp)(D g:Addr)(z:Db)(dx aA aC aH aT:Addr):Prop where
 hD:H D=some (.ins C dx (dl g aA aC z.s aH aT z.ed z.pl))
 hA:H aA=some (.tup (awV z.aw))
 hC:H aC=some (.tup (z.cl.map V.int))
 hH:H aH=some (.tup (z.he.map V.int))
 hT:H aT=some (.tup (z.to.map V.int))
def DbR.same(h:DbR C H D g z dx aA aC aH aT)(s:Same H H'):DbR C H' D g z dx aA aC aH aT:=%[s _ _ h.hD,s _ _ h.hA,s _ _ h.hC,s _ _ h.hH|s _ _ h.hT]
def DbR.set{C:Addr}{H:Hp}{D g:Addr}{z:Db}{dx aA aC aH aT C' dx':Addr}{fs:List (Str×V)}(hD:H D=some (.ins C' dx' fs))(hA:H aA=some (.tup (awV z.aw)))(hC:H aC=some (.tup (z.cl.map V.int)))(hH:H aH=some (.tup (z.he.map V.int)))(hT:H aT=some (.tup (z.to.map V.int))) :
 DbR C (upd H D (.ins C dx (dl g aA aC z.s aH aT z.ed z.pl))) D g z dx aA aC aH aT:=by
 erw[aJ,6,6,6,6]
 . rw[aB (bp hA hD nofun)];exact hA
 . rw[aB (bp hC hD nofun)];exact hC
 . rw[aB (bp hH hD nofun)];exact hH
 . rw[aB (bp hT hD nofun)];exact hT
def DbAt(C:Addr)(H:Hp)(D g:Addr)(z:Db):Prop:=∃dx aA aC aH aT,DbR C H D g z dx aA aC aH aT
def DbAt.same(h:DbAt C H D g z)(s:Same H H'):DbAt C H' D g z:=by
 erw[_,_,_,_,_,r]at h;erw[_,_,_,_,_,r.same s]
def Gm(CG:Addr)(H:Hp)(g:Addr)(ns:List Str)(ts:List Tr)(p:Int):Prop:=∃(a b d:Addr)(tv:List V),GameAt CG H g a b d p/\H a=some (.tup (ns.map V.str))/\H b=some (.tup tv)/\TreesAt H tv ts/\H d=some (.lst ((ns.map (bm ts)).map V.int))
def Gm.same(h:Gm CG H g ns ts p)(s:Same H H'):Gm CG H' g ns ts p:=by
 erw[a,b,d,tv,h1,h2,h3,h4,h5]at h;erw[a,b,d,tv,h1.same s,s _ _ h2,s _ _ h3,h4.mono (aY s),s _ _ h5]
def Hs (a b:Addr) (p:Int) (d:Addr):(gf a b p d).lookup ("game":Str)=none:=pI _ _ _ _ ⋯ ⋯ ⋯ ⋯
def Gm.ne {C:Addr}  {D:Addr}    {dx:Addr} {fs:List (Str×V)} {v:V} (h:Gm CG H g ns ts p) (hD:H D=some (.ins C dx fs)) (hg:fs.lookup ("game":Str)=some v):g≠D:=λz=>by
 erw[a,b,d,tv,%[dx'|e],_]at h;rw[z,hD]at e;cases e;rw[Hs]at hg;cases hg
def Gm.but{C:Addr}{D:Addr}{dx:Addr}{fs:List (Str×V)}(h:Gm CG H g ns ts p)(hD:H D=some (.ins C dx fs))(hg:g≠D)(s:SameBut D H H'):Gm CG H' g ns ts p:=by
 erw[a,b,d,tv,%[dx'|e],h2,h3,h4,h5]at h;erw[a,b,d,tv,%[dx'|s _ _ hg e],s _ _ (bp h2 hD nofun) h2,s _ _ (bp h3 hD nofun) h3,h4.mono (λc xs hc=>s _ _ (bp hc hD nofun) hc),s _ _ (bp h5 hD nofun) h5]
structure GmK(ns:List Str)(ts:List Tr)(p:Int):Prop where
 pr:Pr p
 p2:2<p
 p9:p<=999983
 n10:ns.length<=10
 t1:1<=ts.length
 t10:ts.length<=10
 tok:∀t∈ts,t.ok ns/\t.wf/\t.depth<=10/\t.size<=400
 tp:(ts.length:Int)<=p
 tc:∀t∈ts,∀x∈ns,(t.names.count x:Int)<p
def GmK.deg(k:GmK ns ts p):∀x∈ns,0<=bm ts x/\bm ts x<p:=λx hx=>by
 let t0:ts≠[]:=λz=>by have:=k.t1;rw[z]at this;cases this
 erw[6,nQ t0 λt ht=>k.tc t ht x hx]
 have:=kz (ns:=ts.map λt=>(t.names.count x:Int)) (by simpa using t0)
 let%[t,_|e]:=List.mem_map.mp this;unfold bm;rw[←e];omega
def szs(ts:List Tr):Int:=(ts.map λt=>(t.size:Int)).sum
def eA(ns:List Str)(ts:List Tr)(p:Int)(z:Db):Db:=
 { z with pl:=z.pl+szs ts,aw:=if z.ed=hor z.s p (ts.map λt=>t.worth ns z.to p)then("believed",none)else("caught",some ((z.to.length:Int)+1)) }
def goOn(ns:List Str)(ts:List Tr)(p:Int)(z:Db):Db:=
 if z.to.length<ns.length then { z with aw:=("hear",some (bm ts (ns.getD z.to.length "")+1)) }else eA ns ts p z
def xj(ns:List Str)(ts:List Tr)(p s:Int)(z:Db):Db:=goOn ns ts p { z with s:=s,ed:=hor s p z.cl }
def iI(ns:List Str)(ts:List Tr)(p:Int)(xs:List Int)(z:Db):Db:=
 if ts.length=1 then xj ns ts p 0 { z with cl:=xs }else { z with cl:=xs,aw:=("coin",none) }
def df(p:Int)(xs:List Int)(z:Db):Db:=
 { z with he:=xs,aw:=if(val p xs 0+val p xs 1) % p=z.ed then("coin",none)else("caught",some ((z.to.length:Int)+1)) }
def cK(ns:List Str)(ts:List Tr)(p:Int)(xs:List Int)(z:Db):Db:=
 if z.cl=[]then iI ns ts p xs { z with pl:=z.pl+(xs.length:Int) }else df p xs { z with pl:=z.pl+(xs.length:Int) }
def dq(ns:List Str)(ts:List Tr)(p r:Int)(z:Db):Db:=
 if z.he=[]then xj ns ts p r { z with pl:=z.pl+1 }else goOn ns ts p { z with pl:=z.pl+1,ed:=val p z.he r,to:=z.to++[r] }
def Db.new (ts:List Tr):Db:=%[("hear",some (ts.length:Int)),[],(0),[],[],(0)|(0)]
instance spIsNum:∀n p:Int,vs=[.int n,.int p]->Q (.bl (decide (0<=n)&&decide (n<p))) H:=1
def uj:FnScope Wb Wb (ah kc):=%[|5]
def uZ   (F:Fun K "is_number" "is_number" kc f fd) (B:Bl mg):#[1,f,fd,Wb,spIsNum]:=by
 exists uj
 erw[n,p,1,q]at h;erw[_,(ad (am (yh (aG pN rfl B.isinstance PyProof.Rows.boot_isinstance %[0,zN (v:=V.ty "int") rfl B.int lh rfl|aP]) (yh (DG (aG pN rfl B.isinstance PyProof.Rows.boot_isinstance %[0,zN (v:=V.ty "bool") rfl B.bool zj rfl|aP])) (yf (DK rF dN ae (pv 0) (pv 1))))))),6];erw[0,_,_,"int",true,1,TyOf.int _,EF _ _,true,1,eF ?_];erw[0,_,_,"bool",false,1,TyOf.int _,vp _,false,1,true,1,eF ?_];erw[0,2,0,6]
 by_cases c:0<=n
 . rw[zD1 c]at q;refine aV c %[0,2|6];exact q
 . rw[zB1 c]at q;refine aD c ?_;exact q
instance spAllSz(C:Addr):∀(g:Addr)(ns:List Str)(ts:List Tr)(p:Int),vs=[.ref g]->Gm C H g ns ts p->GmK ns ts p->(∀H',Same H H'->Q (.int (szs ts)) H'):=1
def uv:FnScope WC WC (ah ku):=%[|5]
def FU{ts:List Tr}(h:∀t∈ts,t.size<=400)(hl:ts.length<=10):0<=szs ts/\szs ts<=4000:=by
 have:∀l:List Tr,(∀t∈l,t.size<=400)->0<=szs l/\szs l<=400*(l.length:Int):=λl=>by
  induction l with
  | nil=>intro _;erw[zX1 _,zX1 _]
  | cons t r ih=>
    intro hh;let h1:=ih λu hu=>hh u (qH0 _ hu)
    let h2:=hh t (qA0 ..);let e:szs (t::r)=(t.size:Int)+szs r:=by unfold szs;rw[zX0,zT1]
    rw[e,zP0];omega
 have:=this ts h
 omega
def vg   (F:Fun K "all_sizes" "all_sizes" ku f fd) (B:Bl mg) (T:GTxt K mg C) (iU:#[12,"size_of",WB,spSize 10]):#[13,f,fd,WC,spAllSz C]:=by
 exists uv
 erw[g,ns,ts,p,1,%[a,b,d,tv,%[dx|hg],ha,hb,TS|hd],k,q]at h;refine⟨_,(ad (am (aG (sA rfl) rfl B.sum wA0 (af (cH (N:=[]) (ix:=[]) (cl:=[]) rfl #[5] rfl
  (ip (ay (pv 0) rfl)) (λ_ _ _=>cR (aj iU hr ⋯ rfl %[0|aP]))) aP)))),?_⟩
 let vl:=TS.length;erw[0,g,C,dx,_,0,hg,9,T.nT,lu ..,b,1,%[_|zD0 hb],λD hD=>?_];refine gC (K:=K) (xs:=tv) (λi H'=>H' D=some (.lst (((ts.take i).map λt=>(t.size:Int)).map V.int))/\Same H H') %[by rw[aJ];rfl|zC0 hD _] (λi H' _ h=>zD0 (h.2 _ _ hb)) ?_ ?_
 . rintro i x H2 hx ⟨hl,S2⟩;let%[u,hu|Tu]:=TS.get hx;let%[_,uw,ud|us]:=k.tok u (qL0 hu);let hi:i<tv.length:=(zY0 hx).1
   have:=k.t10
   erw[0,x,u,1,Tu.mono (aY S2),uw,ud,us,λH3 S3=>?_];erw[_,S3 _ _ hl,6,Nx.of hi %[6|λb o e=>?_]]
   . rw[zF0,zF0,qJ0];exact aN #[0]
   . rw[aJ,qI0,hu,zL0,zL0];rfl
   . rw[aB (aQ e hD)];exact S3 _ _ (S2 _ _ e)
 . rintro H2 ⟨hl,S2⟩;rw[vl,qF0]at hl;let sr:=FU (λt ht=>(k.tok t ht).2.2.2) k.t10;erw[D,0,zH0 hl,6,6,6]
   . intro n hn;let%[u,hu|1]:=List.mem_map.mp hn
     have:=(k.tok u hu).2.2.2
     omega
   . let e:((ts.map λt=>(t.size:Int)).sum)=szs ts:=rfl;rw[e];omega
   . exact q H2 S2
section
variable {C CG:Addr}
instance spTrees(C CG:Addr):∀(D g:Addr)(z:Db)(ns:List Str)(ts:List Tr)(p:Int),vs=[.ref D]->DbAt C H D g z->Gm CG H g ns ts p->GmK ns ts p->z.to.length=ns.length->cw z.to p->(∀H',SameBut D H H'->DbAt C H' D g (eA ns ts p z)->Q .non H'):=1
def AU:FnScope WA WA (ah qT):=%[|5]
def Bp   (F:Fun K "look_at_trees" "Doubter.look_at_trees" qT f fd) (B:Bl mg) (T:DTxt K mg C) (TG:GTxt K mg CG) (mW:Meth K CG "worth_at" fW) (GW:#[13,fW,fdW,WO,spWAt CG]) (bW:Binds K fdW WO [])
 (lr:#[13,"all_sizes",WC,spAllSz CG]):#[14,f,fd,WA,spTrees C CG]:=by
 exists AU
 erw[D,g,z,ns,ts,p,1,%[dx,aA,aC,aH,aT|R],G,k,tl,po,q]at h;let hr13:Room 13 _:=hr;refine⟨_,(aa (aO (pv 0) (aq aS (ay (pv 0) rfl) (aj lr hr ⋯ rfl %[ay (pv 0) rfl|aP])) rfl)
  (ad (aI (ag aR (ay (pv 0) rfl) (bQ (ay (pv 0) rfl) TG.cl mW GW hr13 bW .nil aZ %[ay (pv 0) rfl,ay (pv 0) rfl|aP]) (ax _))
   (ad (aO (pv 0) (aF %[ao|aP]) rfl))
   (ad (aO (pv 0) (aF %[ao,aq aS (aG aE rfl B.len zC1 %[ay (pv 0) rfl|aP]) ae|aP]) rfl))))),?_⟩
 let gD:=G.ne R.hD iY;erw[0,D,C,dx,_,0,R.hD,9,T.nP,Ai,0,D,C,dx,_,0,R.hD,9,T.nG,iY,g,ns,ts,p,1,G,k,λH1 S1=>?_];let R1:=R.same S1;erw[2,0,D,C,dx,0,R1.hD,9,T.nP,cM,6];rw[uT];let S2:SameBut D H1 (upd H1 D (.ins C dx (dl g aA aC z.s aH aT z.ed (z.pl+szs ts)))):=SameBut.upd _;let R2:DbR C (upd H1 D (.ins C dx (dl g aA aC z.s aH aT z.ed (z.pl+szs ts)))) D g { z with pl:=z.pl+szs ts } dx aA aC aH aT:=DbR.set (z:={ z with pl:=z.pl+szs ts }) R1.hD R1.hA R1.hC R1.hH R1.hT;let G2:=(G.same S1).but R1.hD gD S2;generalize upd H1 D (.ins C dx (dl g aA aC z.s aH aT z.ed (z.pl+szs ts)))=H2 at S2 R2 G2;let G2':=G2;erw[a,b,d,tv,GA,ha,hb,TS,hd]at G2';erw[dg,hg]at GA;let p2:=k.p2;let p9:=k.p9;erw[0,D,C,dx,_,0,R2.hD,T.cl,T.nE,Aj,0,D,C,dx,_,0,R2.hD,T.cl,T.nG,iY,g,dg,0,hg,pI _ _ _ _ ⋯ ⋯ ⋯ ⋯,0,D,C,dx,_,0,R2.hD,9,T.nT,yV,0,D,C,dx,_,0,R2.hD,9,T.nS,Jz,6];erw[g,a,b,d,aT,ns,tv,ts,z.to,z.s,p,1,%[dg|hg],3,3,ha,hb,TS,k.t10,λt ht=>%[(k.tok t ht).1|(k.tok t ht).2.2.1],R2.hT,tl,po,λH3 S3=>?_];let R3:=R2.same S3;let S03:SameBut D H H3:=(zJ0 S1).trans (S2.trans (zJ0 S3));erw[1,0,6]
 by_cases c:z.ed=hor z.s p (ts.map λt=>t.worth ns z.to p)
 . refine aV (congrArg V.int c) ?_;erw[y1S,λt ht=>?_];let I:=zC0 ht (.tup [.str "believed"]);let R4:=R3.same I;erw[0,D,C,dx,0,R4.hD,9,T.nA,cM,6];rw[qY];let e:eA ns ts p z={ z with pl:=z.pl+szs ts,aw:=("believed",none) }:=by
    unfold eA;rw[NQ c]
   refine q _ (S03.trans ((zJ0 I).trans (SameBut.upd _))) ?_;rw[e];erw[dx,t,aC,aH,aT,DbR.set (z:={ z with pl:=z.pl+szs ts,aw:=("believed",none) }) R4.hD aJ R4.hC R4.hH R4.hT]
 . refine aD (λe=>c (V.int.inj e)) ?_;erw[0,D,C,dx,_,0,R3.hD,9,T.nT,yV,aT,0,.inr (zD0 R3.hT),2,y2S,λt ht=>?_];let I:=zC0 ht (.tup [.str "caught",.int (((z.to.map V.int).length:Int)+1)]);let R4:=R3.same I;erw[0,D,C,dx,0,R4.hD,9,T.nA,cM,6];rw[qY];let e:eA ns ts p z={ z with pl:=z.pl+szs ts,aw:=("caught",some ((z.to.length:Int)+1)) }:=by
    unfold eA;rw[NP c]
   refine q _ (S03.trans ((zJ0 I).trans (SameBut.upd _))) ?_;rw[e];erw[dx,t,aC,aH,aT,DbR.set (z:={ z with pl:=z.pl+szs ts,aw:=("caught",some ((z.to.length:Int)+1)) }) R4.hD ?_ R4.hC R4.hH R4.hT];rw[aJ,zF0];rfl
def nq{xs:List Int}{j:Nat}(h:j<xs.length):atI (xs.map V.int) (j:Int)=some (.int (xs.getD j 0)):=cx (by rw[zZ0,zM0 h,qM0,zM0 h];rfl)
def Hu {ns:List Str}  {j:Nat} (h:j<ns.length):(ns.map (bm ts)).getD j 0=bm ts (ns.getD j ""):=by
 rw[qM0,zZ0,qM0,zM0 h];rfl
instance spGo(C CG:Addr):∀(D g:Addr)(z:Db)(ns:List Str)(ts:List Tr)(p:Int),vs=[.ref D]->DbAt C H D g z->Gm CG H g ns ts p->GmK ns ts p->z.to.length<=ns.length->cw z.to p->(∀H',SameBut D H H'->DbAt C H' D g (goOn ns ts p z)->Q .non H'):=1
def Lj:FnScope ["self","done"] WA (ah Dq):=%[|5]
def Jb   (F:Fun K "go_on" "Doubter.go_on" Dq f fd) (B:Bl mg) (T:DTxt K mg C) (TG:GTxt K mg CG) (mT:Meth K C "look_at_trees" fT) (GT:#[14,fT,fdT,WA,spTrees C CG]) (bT:Binds K fdT WA []):#[15,f,fd,WA,spGo C CG]:=by
 exists Lj
 erw[D,g,z,ns,ts,p,1,%[dx,aA,aC,aH,aT|R],G,k,tl,po,q]at h;refine⟨_,(aa #[ai,1,Lj,aG aE rfl B.len zC1 %[ay (pv 0) rfl|aP]]
  (ad (aI (ag dN (pv 1) (aG aE rfl B.len zC1 %[ay (ay (pv 0) rfl) rfl|aP]) (ax _))
   (ad (aO (pv 0) (aF %[ao,aq aS (aM ix_list (ay (ay (pv 0) rfl) rfl) (pv 1) #[1]) ae|aP]) rfl))
   (ad (aW (bK (pv 0) T.cl mT GT hr bT .nil aZ)))))),?_⟩
 let G':=G;erw[a,b,d,tv,%[dg|hg],ha,hb,TS,hd]at G';erw[0,D,C,dx,_,0,R.hD,9,T.nT,yV,aT,0,.inr (zD0 R.hT),6];erw[0,0,D,C,dx,_,0,R.hD,9,T.nG,iY,g,CG,dg,_,0,hg,TG.cl,TG.nS,nJ ..,a,0,.inr (zD0 ha),2,0,6]
 by_cases c:z.to.length<ns.length
 . refine aV (by rw[zF0,zF0];omega) ?_;let ej:((z.to.map V.int).length:Int)=(z.to.length:Int):=by rw[zF0]
   let hx:ns.getD z.to.length ""∈ns:=by
    rw[qM0,zM0 c];exact qP0 c
   let dr:=k.deg _ hx;erw[0,D,C,dx,_,0,R.hD,9,T.nG,iY,g,CG,dg,_,0,hg,TG.cl,TG.nD,zZ ..,0,d,_,2,zH0 hd,by rw[ej];exact nq (by rw[zF0];exact c),2,y2S,λt ht=>?_];rw[Hu c]at *
   let I:=zC0 ht (.tup [.str "hear",.int (bm ts (ns.getD z.to.length "")+1)]);let R4:=R.same I;erw[0,D,C,dx,0,R4.hD,9,T.nA,cM,6];rw[qY];let e:goOn ns ts p z={ z with aw:=("hear",some (bm ts (ns.getD z.to.length "")+1)) }:=by
    unfold goOn;rw[NQ c]
   refine q _ ((zJ0 I).trans (SameBut.upd _)) ?_;rw[e];erw[dx,t,aC,aH,aT,DbR.set (z:={ z with aw:=("hear",some (bm ts (ns.getD z.to.length "")+1)) }) R4.hD aJ R4.hC R4.hH R4.hT]
 . refine aD (by rw[zF0,zF0];omega) ?_;let e:goOn ns ts p z=eA ns ts p z:=by
    unfold goOn;rw[NP c]
   rw[e]at q;erw[0,D,dx,0,R.hD,JB,6];erw[D,g,z,ns,ts,p,1,%[dx,aA,aC,aH,aT|R],G,k,3,po,q]
instance spBeg(C CG:Addr):∀(D g:Addr)(z:Db)(s:Int)(ns:List Str)(ts:List Tr)(p:Int),vs=[.ref D,.int s]->DbAt C H D g z->Gm CG H g ns ts p->GmK ns ts p->z.to.length<=ns.length->cw z.to p->(∀H',SameBut D H H'->DbAt C H' D g (xj ns ts p s z)->Q .non H'):=1
def AV:FnScope WP WP (ah qU):=%[|5]
def Bq   (F:Fun K "begin_rounds" "Doubter.begin_rounds" qU f fd) (T:DTxt K mg C) (TG:GTxt K mg CG) (mM:Meth K CG "mix" fM) (GM:#[1,fM,fdM,WM,spMix CG]) (bM:Binds K fdM WM [])
 (mG:Meth K C "go_on" fG) (GG:#[15,fG,fdG,WA,spGo C CG]) (bG:Binds K fdG WA []):#[16,f,fd,WP,spBeg C CG]:=by
 exists AV
 erw[D,g,z,s,ns,ts,p,1,%[dx,aA,aC,aH,aT|R],G,k,tl,po,q]at h;let hr1:Room 1 _:=hr.mono ⋯;refine⟨_,(aa (aO (pv 0) (pv 1) rfl)
  (aa (aO (pv 0) (bQ (ay (pv 0) rfl) TG.cl mM GM hr1 bM .nil aZ %[ay (pv 0) rfl,1|aP]) rfl)
  (ad (aW (bK (pv 0) T.cl mG GG hr bG .nil aZ))))),?_⟩
 let gD:=G.ne R.hD iY;let p2:=k.p2;let p9:=k.p9;erw[0,0,D,C,dx,0,R.hD,9,T.nS,cM,6];rw[HW];let S1:SameBut D H (upd H D (.ins C dx (dl g aA aC s aH aT z.ed z.pl))):=SameBut.upd _;let R1:DbR C (upd H D (.ins C dx (dl g aA aC s aH aT z.ed z.pl))) D g { z with s:=s } dx aA aC aH aT:=DbR.set (z:={ z with s:=s }) R.hD R.hA R.hC R.hH R.hT;let G1:=G.but R.hD gD S1;generalize upd H D (.ins C dx (dl g aA aC s aH aT z.ed z.pl))=H1 at S1 R1 G1;let G1':=G1;erw[a,b,d,tv,%[dg|hg],ha,hb,TS,hd]at G1';erw[0,D,C,dx,_,0,R1.hD,9,T.nG,iY,g,dg,0,hg,pI _ _ _ _ ⋯ ⋯ ⋯ ⋯,0,D,C,dx,_,0,R1.hD,9,T.nC,JD,0,6];erw[g,a,b,d,aC,z.cl,s,p,1,%[dg|hg],3,3,.inr R1.hC,6];erw[0,D,C,dx,0,R1.hD,9,T.nE,cM,6];rw[xZ];let S2:SameBut D H1 (upd H1 D (.ins C dx (dl g aA aC s aH aT (hor s p z.cl) z.pl))):=SameBut.upd _;let R2:DbR C (upd H1 D (.ins C dx (dl g aA aC s aH aT (hor s p z.cl) z.pl))) D g { z with s:=s,ed:=hor s p z.cl } dx aA aC aH aT:=DbR.set (z:={ z with s:=s,ed:=hor s p z.cl }) R1.hD R1.hA R1.hC R1.hH R1.hT;let G2:=G1.but R1.hD gD S2;generalize upd H1 D (.ins C dx (dl g aA aC s aH aT (hor s p z.cl) z.pl))=H2 at S2 R2 G2;erw[0,D,dx,0,R2.hD,Fb,6];erw[D,g,_,ns,ts,p,1,%[dx,aA,aC,aH,aT|R2],G2,k,tl,po,λH3 S3 D3=>q H3 (S1.trans (S2.trans S3)) D3]
instance spClaims(C CG:Addr):∀(D g l:Addr)(z:Db)(xs:List Int)(ns:List Str)(ts:List Tr)(p:Int),vs=[.ref D,.ref l]->DbAt C H D g z->Gm CG H g ns ts p->GmK ns ts p->H l=some (.tup (xs.map V.int))->z.to.length<=ns.length->cw z.to p->(∀H',SameBut D H H'->DbAt C H' D g (iI ns ts p xs z)->Q .non H'):=1
def xS:FnScope WG WG (ah oG):=%[|5]
def yv   (F:Fun K "hear_claims" "Doubter.hear_claims" oG f fd) (B:Bl mg) (T:DTxt K mg C) (TG:GTxt K mg CG) (mB:Meth K C "begin_rounds" fB) (GB:#[16,fB,fdB,WP,spBeg C CG]) (bB:Binds K fdB WP []):#[17,f,fd,WG,spClaims C CG]:=by
 exists xS
 erw[D,g,l,z,xs,ns,ts,p,1,%[dx,aA,aC,aH,aT|R],G,k,hl,tl,po,q]at h;refine⟨_,(aa (aO (pv 0) (pv 1) rfl)
  (ad (aI (ag aR (aG aE rfl B.len zC1 %[ay (ay (pv 0) rfl) rfl|aP]) ae (ax _))
   (ad (aW (bQ (pv 0) T.cl mB GB hr bB .nil aZ %[ae|aP])))
   (ad (aO (pv 0) (aF %[ao|aP]) rfl))))),?_⟩
 let gD:=G.ne R.hD iY;erw[0,0,D,C,dx,0,R.hD,9,T.nC,cM,6];rw[HY];let S1:SameBut D H (upd H D (.ins C dx (dl g aA l z.s aH aT z.ed z.pl))):=SameBut.upd _;let R1:DbR C (upd H D (.ins C dx (dl g aA l z.s aH aT z.ed z.pl))) D g { z with cl:=xs } dx aA l aH aT:=DbR.set (z:={ z with cl:=xs }) R.hD R.hA hl R.hH R.hT;let G1:=G.but R.hD gD S1;generalize upd H D (.ins C dx (dl g aA l z.s aH aT z.ed z.pl))=H1 at S1 R1 G1;let G1':=G1;erw[a,b,d,tv,%[dg|hg],ha,hb,TS,hd]at G1';let vl:=TS.length;erw[0,D,C,dx,_,0,R1.hD,9,T.nG,iY,g,CG,dg,_,0,hg,TG.cl,TG.nT,lu ..,b,0,.inr (zD0 hb),1,0,6]
 by_cases c:ts.length=1
 . refine aV (congrArg V.int #[0]) ?_;let e:iI ns ts p xs z=xj ns ts p 0 { z with cl:=xs }:=by
    unfold iI;rw[NQ c]
   rw[e]at q;erw[0,D,dx,0,R1.hD,Ii,6];erw[D,g,_,(0),ns,ts,p,1,%[dx,aA,l,aH,aT|R1],G1,k,tl,po,λH3 S3 D3=>q H3 (S1.trans S3) D3]
 . refine aD (λe=>c (by have:=V.int.inj e;omega)) ?_;let e:iI ns ts p xs z={ z with cl:=xs,aw:=("coin",none) }:=by
    unfold iI;rw[NP c]
   erw[y1S,λt ht=>?_];let I:=zC0 ht (.tup [.str "coin"]);let R4:=R1.same I;erw[0,D,C,dx,0,R4.hD,9,T.nA,cM,6];rw[qY];refine q _ (S1.trans ((zJ0 I).trans (SameBut.upd _))) ?_;rw[e];erw[dx,t,l,aH,aT,DbR.set (z:={ z with cl:=xs,aw:=("coin",none) }) R4.hD aJ R4.hC R4.hH R4.hT]
instance spHRow(C CG:Addr):∀(D g l:Addr)(z:Db)(xs:List Int)(ns:List Str)(ts:List Tr)(p:Int),vs=[.ref D,.ref l]->DbAt C H D g z->Gm CG H g ns ts p->GmK ns ts p->H l=some (.tup (xs.map V.int))->lA xs p->(∀H',SameBut D H H'->DbAt C H' D g (df p xs z)->Q .non H'):=1
def Gi:FnScope WG WG (ah xX):=%[|5]
def GO   (F:Fun K "hear_row" "Doubter.hear_row" xX f fd) (B:Bl mg) (T:DTxt K mg C) (TG:GTxt K mg CG) (lB:#[5,"both_ends",["values","p"],spEnds]):#[6,f,fd,WG,spHRow C CG]:=by
 exists Gi
 erw[D,g,l,z,xs,ns,ts,p,1,%[dx,aA,aC,aH,aT|R],G,k,hl,ro,q]at h;refine⟨_,(aa (aO (pv 0) (pv 1) rfl)
  (ad (aI (ag aR (aj lB hr ⋯ rfl %[1,ay (ay (pv 0) rfl) rfl|aP]) (ay (pv 0) rfl) (ax _))
   (ad (aO (pv 0) (aF %[ao|aP]) rfl))
   (ad (aO (pv 0) (aF %[ao,aq aS (aG aE rfl B.len zC1 %[ay (pv 0) rfl|aP]) ae|aP]) rfl))))),?_⟩
 let gD:=G.ne R.hD iY;erw[0,0,D,C,dx,0,R.hD,9,T.nH,cM,6];rw[HX];let S1:SameBut D H (upd H D (.ins C dx (dl g aA aC z.s l aT z.ed z.pl))):=SameBut.upd _;let R1:DbR C (upd H D (.ins C dx (dl g aA aC z.s l aT z.ed z.pl))) D g { z with he:=xs } dx aA aC l aT:=DbR.set (z:={ z with he:=xs }) R.hD R.hA R.hC hl R.hT;let G1:=G.but R.hD gD S1;generalize upd H D (.ins C dx (dl g aA aC z.s l aT z.ed z.pl))=H1 at S1 R1 G1;let G1':=G1;erw[a,b,d,tv,%[dg|hg],ha,hb,TS,hd]at G1';erw[0,0,D,C,dx,_,0,R1.hD,9,T.nG,iY,g,CG,dg,_,0,hg,TG.cl,TG.nF,eU ..,l,xs,p,1,.inr R1.hH,ro,k.pr,k.p9,λH2 S2=>?_];let R2:=R1.same S2;erw[0,D,C,dx,_,0,R2.hD,9,T.nE,Aj,1,0,6];let S02:SameBut D H H2:=S1.trans (zJ0 S2)
 by_cases c:(val p xs 0+val p xs 1) % p=z.ed
 . refine aV (congrArg V.int c) ?_;let e:df p xs z={ z with he:=xs,aw:=("coin",none) }:=by
    unfold df;rw[NQ c]
   erw[y1S,λt ht=>?_];let I:=zC0 ht (.tup [.str "coin"]);let R4:=R2.same I;erw[0,D,C,dx,0,R4.hD,9,T.nA,cM,6];rw[qY];refine q _ (S02.trans ((zJ0 I).trans (SameBut.upd _))) ?_;rw[e];erw[dx,t,aC,l,aT,DbR.set (z:={ z with he:=xs,aw:=("coin",none) }) R4.hD aJ R4.hC R4.hH R4.hT]
 . refine aD (λe=>c (V.int.inj e)) ?_;let e:df p xs z={ z with he:=xs,aw:=("caught",some ((z.to.length:Int)+1)) }:=by
    unfold df;rw[NP c]
   erw[0,D,C,dx,_,0,R2.hD,9,T.nT,yV,aT,0,.inr (zD0 R2.hT),2,y2S,λt ht=>?_];let I:=zC0 ht (.tup [.str "caught",.int (((z.to.map V.int).length:Int)+1)]);let R4:=R2.same I;erw[0,D,C,dx,0,R4.hD,9,T.nA,cM,6];rw[qY];refine q _ (S02.trans ((zJ0 I).trans (SameBut.upd _))) ?_;rw[e];erw[dx,t,aC,l,aT,DbR.set (z:={ z with he:=xs,aw:=("caught",some ((z.to.length:Int)+1)) }) R4.hD ?_ R4.hC R4.hH R4.hT];rw[aJ,zF0];rfl
end
section
variable {C CG:Addr}
def kU{K:W.Frag}{H:Hp}{a:Addr}{xs:List Int}(h:H a=some (.tup (xs.map V.int))):Rep K H (.ref a) (.tuple (xs.map PyData.int)):=.tup (zD0 h) (qW xs)
def Ah(xs:List Int):PyData.eqv (.tuple (xs.map PyData.int)) (.tuple [])=decide (xs=[]):=by
 cases xs with
 | nil=>rfl
 | cons a r=>rfl
def kN(ns:List Int):SeqAt.shaped (.tuple (ns.map PyData.int))=true:=by
 simp [SeqAt.shaped,PyData.canLay0,PyData.depth,W.ke_canLayAll0,W.ke_depthAll]
instance spHear(C CG:Addr):∀(D g l:Addr) (z:Db) (xs:List Int) (ns:List Str) (ts:List Tr) (p:Int),vs=[.ref D,.ref l]->DbAt C H D g z->Gm CG H g ns ts p->GmK ns ts p->H l=some (.lst (xs.map V.int))->z.aw=(("hear":Str),some (xs.length:Int))->cw xs p->xs.length<=500->(z.cl≠[]->lA xs p)->z.to.length<=ns.length->cw z.to p->(∀H',SameBut D H H'->DbAt C H' D g (cK ns ts p xs z)->Q .non H'):=1
def Dm:FnScope WG WG (ah uK):=%[|5]
def Ec   (F:Fun K "hear" "Doubter.hear" uK f fd) (B:Bl mg) (T:DTxt K mg C) (TG:GTxt K mg CG) (fJ:#[1,"is_number",Wb,spIsNum])
 (mC:Meth K C "hear_claims" fC) (GC:#[17,fC,fdC,WG,spClaims C CG]) (bC:Binds K fdC WG [])
 (mR:Meth K C "hear_row" fR) (GR:#[6,fR,fdR,WG,spHRow C CG]) (bR:Binds K fdR WG []):#[18,f,fd,WG,spHear C CG]:=by
 exists Dm
 erw[D,g,l,z,xs,ns,ts,p,1,%[dx,aA,aC,aH,aT|R],G,k,hl,ea,xo,xl,ro,tl,po,q]at h;let hr6:Room 6 _:=hr.mono ⋯;refine⟨_,(aa (aI (ag mO (aM ix_tup (ay (pv 0) rfl) ae #[1]) ao (ax _)) bJ az)
  (aa (aI (ag mO (aG aE rfl B.len zC1 %[1|aP]) (aM ix_tup (ay (pv 0) rfl) ae #[1]) (ax _)) bJ az)
  (aa (aI (jC (eY (aG (sB rfl) rfl B.all wA1 (af (cH (N:=WA) (ix:=[0]) rfl
   #[3] rfl
   (eN (pv 1)) (λ_ _ _=>cR (aj fJ hr ⋯ rfl %[0,jD K (jD K (pv 1))|aP]))) aP)))) bJ az)
  (aa (aO (pv 0) (aq aS (ay (pv 0) rfl) (aG aE rfl B.len zC1 %[1|aP])) rfl)
  (ad (aI (ag (uW hr.units) (ay (pv 0) rfl) (aF aP) (ax _))
   (ad (aW (bQ (pv 0) T.cl mC GC hr bC .nil aZ %[bt bb rfl B.tuple bu %[1|aP]|aP])))
   (ad (aW (bQ (pv 0) T.cl mR GR hr6 bR .nil aZ %[bt bb rfl B.tuple bu %[1|aP]|aP]))))))))),?_⟩
 let gD:=G.ne R.hD iY;let hA:=R.hA;rw[ea]at hA;let hA:H aA=some (.tup [.str "hear",.int (xs.length:Int)]):=hA;erw[0,D,C,dx,_,0,R.hD,9,T.nA,Fc,aA,_,2,zD0 hA,cx (j:=0) rfl,1,0,6];refine wM rfl ?_;erw[0,l,0,.inl (zH0 hl),0,D,C,dx,_,0,R.hD,9,T.nA,Fc,aA,_,2,zD0 hA,cx (j:=1) rfl,1,0,6];refine wM (by rw[zF0]) ?_;let G':=G;erw[a,b,d,tv,%[dg|hg],ha,hb,TS,hd]at G';erw[0,l,1,%[_|zH0 hl],λW hW=>?_];refine hU (K:=K) (xs:=xs.map V.int) (λi H'=>H' W=some (.lst ((List.replicate i true).map V.bl))/\Same H H') %[by rw[aJ];rfl|zC0 hW _] (λi H' _ h=>zH0 (h.2 _ _ hl)) ?_ ?_
 . rintro i v H2 hv ⟨hW2,S2⟩;let hi:=(zY0 hv).1;rw[zZ0]at hv;let%[n,hn|1]:=qT0 hv;let nr:=xo n (qL0 hn);erw[0,0,D,C,dx,_,0,S2 _ _ R.hD,9,T.nG,iY,g,CG,dg,_,0,S2 _ _ hg,TG.cl,TG.nF,eU ..,n,p,1,6];rw[zD1 nr.1,zD1 nr.2];erw[_,hW2,6,Nx.of hi %[6|λb o e=>?_]]
   . rw[zF0,qN1];rw[zF0]at hi;exact aN #[0]
   . rw[aJ,List.replicate_succ',zL0];rfl
   . rw[aB (aQ e hW)];exact S2 _ _ e
 rintro H1 ⟨hW1,S1⟩;erw[W,0,zH0 hW1,6];let ea:(List.replicate (xs.map V.int).length true).all id=true:=by simp
 rw [ea];erw[0,6];refine dI ?_;let R1:=R.same S1;let G1:=G.same S1;erw[0,D,C,dx,_,0,R1.hD,9,T.nP,Ai,0,l,0,.inl (zH0 (S1 _ _ hl)),2,0,D,C,dx,0,R1.hD,9,T.nP,cM,6];rw[uT,zF0];let S2:SameBut D H1 (upd H1 D (.ins C dx (dl g aA aC z.s aH aT z.ed (z.pl+(xs.length:Int))))):=SameBut.upd _;let R2:DbR C (upd H1 D (.ins C dx (dl g aA aC z.s aH aT z.ed (z.pl+(xs.length:Int))))) D g { z with pl:=z.pl+(xs.length:Int) } dx aA aC aH aT:=DbR.set (z:={ z with pl:=z.pl+(xs.length:Int) }) R1.hD R1.hA R1.hC R1.hH R1.hT;let G2:=G1.but R1.hD gD S2;let hl2:upd H1 D (.ins C dx (dl g aA aC z.s aH aT z.ed (z.pl+(xs.length:Int)))) l=some (.lst (xs.map V.int)):=by
  rw[aB (bp hl R.hD nofun)];exact S1 _ _ hl
 generalize upd H1 D (.ins C dx (dl g aA aC z.s aH aT z.ed (z.pl+(xs.length:Int))))=H2 at S2 R2 G2 hl2;erw[0,D,C,dx,_,0,R2.hD,9,T.nC,JD,y0S,λu hu=>?_];let I:=zC0 hu (.tup []);let R3:=R2.same I;let hu3:upd H2 u (.tup []) u=some (.tup []):=aJ;let hl3:=I _ _ hl2;let G3:=G2.same I;generalize upd H2 u (.tup [])=H3 at I R3 hu3 hl3 G3;let S03:SameBut D H H3:=(zJ0 S1).trans (S2.trans (zJ0 I));erw[_,_,kU R3.hC,kU (xs:=[]) hu3,kN _,kN [],0,6];rw[show PyData.eqv (.tuple (z.cl.map PyData.int)) (.tuple (([]:List Int).map PyData.int))=decide (z.cl=[])from Ah z.cl]
 by_cases c:z.cl=[]
 . refine aV c ?_;let e:cK ns ts p xs z=iI ns ts p xs { z with pl:=z.pl+(xs.length:Int) }:=by
    unfold cK;rw[NQ c]
   rw[e]at q;erw[0,D,dx,0,R3.hD,dl_n6,6];erw[0,l,0,.inl %[zH0 hl3|λt ht=>?_]];let J:=zC0 ht (.tup (xs.map V.int));erw[D,g,t,_,xs,ns,ts,p,1,%[dx,aA,aC,aH,aT|R3.same J],G3.same J,k,aJ,tl,po,λH5 S5 D5=>q H5 (S03.trans ((zJ0 J).trans S5)) D5]
 . refine aD c ?_;let e:cK ns ts p xs z=df p xs { z with pl:=z.pl+(xs.length:Int) }:=by
    unfold cK;rw[NP c]
   rw[e]at q;erw[0,D,dx,0,R3.hD,dl_n8,6];erw[0,l,0,.inl %[zH0 hl3|λt ht=>?_]];let J:=zC0 ht (.tup (xs.map V.int));erw[D,g,t,_,xs,ns,ts,p,1,%[dx,aA,aC,aH,aT|R3.same J],G3.same J,k,aJ,ro c,λH5 S5 D5=>q H5 (S03.trans ((zJ0 J).trans S5)) D5]
instance spToss(C CG:Addr):∀(D g:Addr) (z:Db) (r:Int) (ns:List Str) (ts:List Tr) (p:Int),vs=[.ref D,.int r]->DbAt C H D g z->Gm CG H g ns ts p->GmK ns ts p->z.aw.1="coin"->0<=r->r<p->z.to.length<=ns.length->(z.he≠[]->lA z.he p/\z.to.length<ns.length)->cw z.to p->(∀H',SameBut D H H'->DbAt C H' D g (dq ns ts p r z)->Q .non H'):=1
def Dk:FnScope Wc Wc (ah uI):=%[|5]
def Im(a:Str×Option Int):(awV a)[0]?=some (.str a.1):=by
 unfold awV
 split <;> rfl
instance rCatA(K:W.Frag)(x:V)(y:V)(H:Hp)(Q:VK):∀a b xs ys,x=.ref a->y=.ref b->SqT K H a xs->SqT K H b ys->ys≠[]->xs.length+ys.length<=sizeLine->(xs=[]->Q (.ref b) H)->(xs≠[]->∀p,H p=none->Q (.ref p) (upd H p (.tup (xs++ys)))):=0
def zQ:OpR X (binaryOp .Add) (rCatA X.K):=by
 intro NO s σ H x y v u Q I rx ry h;erw[a,b,xs,ys,ex,ey,ha,hb,hy,hz,q1,q2]at h
 by_cases c:xs=[]
 . subst c;exact mQ NO s σ H x y v u Q I rx ry %[a,b,ys,ex,ey,ha,hb|q1 rfl]
 . exact op_catT NO s σ H x y v u Q I rx ry %[a,b,xs,ys,ex,ey,ha,hb,c,hz,λz=>absurd z hy|λ_=>q2 c]
def Ea   (F:Fun K "toss" "Doubter.toss" uI f fd) (B:Bl mg) (T:DTxt K mg C) (TG:GTxt K mg CG) (fJ:#[1,"is_number",Wb,spIsNum]) (cI:#[4,"value_at",WL,spVal])
 (mB:Meth K C "begin_rounds" fB) (GB:#[16,fB,fdB,WP,spBeg C CG]) (bB:Binds K fdB WP [])
 (mG:Meth K C "go_on" fG) (GG:#[15,fG,fdG,WA,spGo C CG]) (bG:Binds K fdG WA []):#[17,f,fd,Wc,spToss C CG]:=by
 exists Dk
 erw[D,g,z,r,ns,ts,p,1,%[dx,aA,aC,aH,aT|R],G,k,ea,r0,r1,tl,ro,po,q]at h;let hr15:Room 15 _:=hr.mono ⋯;refine⟨_,(aa (aI (ag mO (aM ix_tup (ay (pv 0) rfl) ae #[1]) ao (ax _)) bJ az)
  (aa (aI (jC (eY (aj fJ hr ⋯ rfl %[1,ay (ay (pv 0) rfl) rfl|aP]))) bJ az)
  (aa (aO (pv 0) (aq aS (ay (pv 0) rfl) ae) rfl)
  (ad (aI (ag (uW hr.units) (ay (pv 0) rfl) (aF aP) (ax _))
   (ad (aW (bQ (pv 0) T.cl mB GB hr bB .nil aZ %[1|aP])))
   (aa (aO (pv 0) (aj cI hr ⋯ rfl %[ay (pv 0) rfl,1,ay (ay (pv 0) rfl) rfl|aP]) rfl)
   (aa (aO (pv 0) (aq zQ (ay (pv 0) rfl) (aF %[1|aP])) rfl)
   (ad (aW (bK (pv 0) T.cl mG GG hr15 bG .nil aZ)))))))))),?_⟩
 let gD:=G.ne R.hD iY;let G':=G;erw[a,b,d,tv,%[dg|hg],ha,hb,TS,hd]at G';erw[0,D,C,dx,_,0,R.hD,9,T.nA,Fc,aA,_,2,zD0 R.hA,cx (j:=0) (Im _),1,0,6];refine wM (congrArg V.str ea) ?_;erw[0,0,D,C,dx,_,0,R.hD,9,T.nG,iY,g,CG,dg,_,0,hg,TG.cl,TG.nF,eU ..,r,p,1,6];rw[zD1 r0,zD1 r1];erw[0,6];refine dI ?_;erw[0,D,C,dx,_,0,R.hD,9,T.nP,Ai,2,0,D,C,dx,0,R.hD,9,T.nP,cM,6];rw[uT];let S2:SameBut D H (upd H D (.ins C dx (dl g aA aC z.s aH aT z.ed (z.pl+1)))):=SameBut.upd _;let R2:DbR C (upd H D (.ins C dx (dl g aA aC z.s aH aT z.ed (z.pl+1)))) D g { z with pl:=z.pl+1 } dx aA aC aH aT:=DbR.set (z:={ z with pl:=z.pl+1 }) R.hD R.hA R.hC R.hH R.hT;let G2:=G.but R.hD gD S2;generalize upd H D (.ins C dx (dl g aA aC z.s aH aT z.ed (z.pl+1)))=H2 at S2 R2 G2;erw[0,D,C,dx,_,0,R2.hD,9,T.nH,JC,y0S,λu hu=>?_];let I:=zC0 hu (.tup []);let R3:=R2.same I;let hu3:upd H2 u (.tup []) u=some (.tup []):=aJ;let G3:=G2.same I;generalize upd H2 u (.tup [])=H3 at I R3 hu3 G3;let S03:SameBut D H H3:=S2.trans (zJ0 I);erw[_,_,kU R3.hH,kU (xs:=[]) hu3,kN _,kN [],0,6];rw[show PyData.eqv (.tuple (z.he.map PyData.int)) (.tuple (([]:List Int).map PyData.int))=decide (z.he=[])from Ah z.he]
 by_cases c:z.he=[]
 . refine aV c ?_;let e:dq ns ts p r z=xj ns ts p r { z with pl:=z.pl+1 }:=by
    unfold dq;rw[NQ c]
   rw[e]at q;erw[0,D,dx,0,R3.hD,Ii,0,6];erw[D,g,_,r,ns,ts,p,1,%[dx,aA,aC,aH,aT|R3],G3,k,tl,po,λH5 S5 D5=>q H5 (S03.trans S5) D5]
 . refine aD c ?_;let%[rok|tl']:=ro c;let e:dq ns ts p r z=goOn ns ts p { z with pl:=z.pl+1,ed:=val p z.he r,to:=z.to++[r] }:=by
    unfold dq;rw[NP c]
   rw [e]at q;let G3':=G3;erw[a3,b3,d3,tv3,%[dg3|hg3],_]at G3';erw[0,D,C,dx,_,0,R3.hD,9,T.nH,JC,0,0,D,C,dx,_,0,R3.hD,9,T.nG,iY,g,CG,dg3,_,0,hg3,TG.cl,TG.nF,eU ..,aH,z.he,r,p,1,.inr R3.hH,rok,k.pr,k.p9,r0,r1,λH4 S4=>?_];let R4:=R3.same S4;let G4:=G3.same S4;erw[0,D,C,dx,0,R4.hD,9,T.nE,cM,6];rw[xZ];let S5:SameBut D H4 (upd H4 D (.ins C dx (dl g aA aC z.s aH aT (val p z.he r) (z.pl+1)))):=SameBut.upd _;let R5:DbR C (upd H4 D (.ins C dx (dl g aA aC z.s aH aT (val p z.he r) (z.pl+1)))) D g { z with pl:=z.pl+1,ed:=val p z.he r } dx aA aC aH aT:=DbR.set (z:={ z with pl:=z.pl+1,ed:=val p z.he r }) R4.hD R4.hA R4.hC R4.hH R4.hT;let G5:=G4.but R4.hD gD S5;generalize upd H4 D (.ins C dx (dl g aA aC z.s aH aT (val p z.he r) (z.pl+1)))=H5 at S5 R5 G5;let S05:SameBut D H H5:=S03.trans ((zJ0 S4).trans S5);erw[0,D,C,dx,_,0,R5.hD,9,T.nT,yV,0,y1S,λt ht=>?_];let J:=zC0 ht (.tup [.int r]);let R6:=R5.same J;let G6:=G5.same J;let ht6:upd H5 t (.tup [.int r]) t=some (.tup [.int r]):=aJ;generalize upd H5 t (.tup [.int r])=H6 at J R6 G6 ht6;let n10:=k.n10;let fin:∀(x:Addr)(H7:Hp),Same H6 H7->H7 x=some (.tup ((z.to++[r]).map V.int))->(ps_fin:True)->∀QQ:Hp->Prop,(∀H8,SameBut D H7 H8->DbR C H8 D g { z with pl:=z.pl+1,ed:=val p z.he r,to:=z.to++[r] } dx aA aC aH x->Gm CG H8 g ns ts p->QQ H8)->QQ (upd H7 D (.ins C dx (dl g aA aC z.s aH x (val p z.he r) (z.pl+1)))):=by
    intro x H7 s7 hx _ QQ hq;let R7:=R6.same s7;exact hq _ (SameBut.upd _) (DbR.set (z:={ z with pl:=z.pl+1,ed:=val p z.he r,to:=z.to++[r] }) R7.hD R7.hA R7.hC R7.hH hx) ((G6.same s7).but R7.hD gD (SameBut.upd _))
   let po2:cw (z.to++[r]) p:=λx hx=>by
    rcases qD0 hx with h | h
    . exact po x h
    . rw[NW h];erw[r0,r1]
   let tl2:(z.to++[r]).length<=ns.length:=by
    rw[zK0,qK0];omega
   let S06:SameBut D H H6:=S05.trans (zJ0 J);erw[aT,t,2,zD0 R6.hT,zD0 ht6,(λz=>by cases z),cq (by rw[zF0];show z.to.length+1<=1000;omega),λz0=>?_,λz0 p7 hp7=>?_]
   . let e0:z.to=[]:=by simpa using z0
     erw[0,D,C,dx,0,R6.hD,9,T.nT,cM,6];rw[Dz];refine fin t H6 (Same.refl _) (by rw[e0];exact ht6) trivial _ λH8 S8 R8 G8=>?_
     erw[0,D,dx,0,R8.hD,Fb,6];erw[D,g,_,ns,ts,p,1,%[dx,aA,aC,aH,t|R8],G8,k,tl2,po2,λH9 S9 D9=>q H9 (S06.trans (S8.trans S9)) D9]
   . let L:=zC0 hp7 (.tup (z.to.map V.int++[.int r]));let R7:=R6.same L;erw[0,D,C,dx,0,R7.hD,9,T.nT,cM,6];rw[Dz];refine fin p7 _ L (by rw[aJ,zL0];rfl) trivial _ λH8 S8 R8 G8=>?_
     erw[0,D,dx,0,R8.hD,Fb,6];erw[D,g,_,ns,ts,p,1,%[dx,aA,aC,aH,p7|R8],G8,k,tl2,po2,λH9 S9 D9=>q H9 (S06.trans ((zJ0 L).trans (S8.trans S9))) D9]
instance spDInit(C CG:Addr):∀(D g dx:Addr)(ns:List Str)(ts:List Tr)(p:Int),vs=[.ref D,.ref g]->H D=some (.ins C dx [])->Gm CG H g ns ts p->g≠D->(∀H',SameBut D H H'->DbAt C H' D g (Db.new ts)->Q .non H'):=1
def Dl:FnScope WJ WJ (ah uJ):=%[|5]
instance spOf(C:Addr)(t:Db->V->Hp->Prop):∀(D g:Addr)(z:Db),vs=[.ref D]->DbAt C H D g z->(∀v,t z v H->Q v H):=1
def Gj:FnScope WA WA (ah xY):=%[|5]
def GQ   (F:Fun K "due" "Doubter.due" xY f fd) (T:DTxt K mg C):#[1,f,fd,WA,spOf C λz v _=>v=.int z.ed]:=by
 exists Gj
 erw[D,g,z,1,%[dx,aA,aC,aH,aT|R],q]at h;erw[_,(ad (am (ay (pv 0) rfl))),6];erw[0,D,C,dx,_,0,R.hD,9,T.nE,Aj,q _ rfl]
def AT:FnScope WA WA (ah qS):=%[|5]
def Bo   (F:Fun K "waits" "Doubter.waits" qS f fd) (T:DTxt K mg C):#[1,f,fd,WA,spOf C λz v H=>∃a,v=.ref a/\H a=some (.tup (awV z.aw))]:=by
 exists AT
 erw[D,g,z,1,%[dx,aA,aC,aH,aT|R],q]at h;erw[_,(ad (am (ay (pv 0) rfl))),6];erw[0,D,C,dx,_,0,R.hD,9,T.nA,Fc,q _ %[aA,1|R.hA]]
end
section
variable {C CG:Addr}
def awD(a:Str×Option Int):PyData:=match a.2 with
 | none=>.tuple [.str a.1]
 | some n=>.tuple [.str a.1,.int n]
def IM{K:W.Frag}{H:Hp}{c:Addr}(h:H c=some (.tup (awV a))):Rep K H (.ref c) (awD a):=by
 erw[x,n]at a;cases n with
 | none=>exact .tup (zD0 h) (.cons (.str x) .nil)
 | some n=>exact .tup (zD0 h) (.cons (.str x) (.cons (.int n) .nil))
def AwW (x:Str):Prop:=x="hear"∨x="coin"∨x="caught"∨x="believed"
def AwW.ok(h:AwW x):PyData.strOk x=true:=by
 rcases h with rfl | rfl | rfl | rfl <;> decide
def tD{a:Str×Option Int}(h:AwW a.1):SeqAt.shaped (awD a)=true:=by
 erw[x,n]at a
 have:=h.ok
 cases n <;> simp [awD,SeqAt.shaped,PyData.canLay0,PyData.depth,PyData.canLayAll0,PyData.depthAll] <;> exact this
def FW(x y:Str):(x==y)=decide (x=y):=by
 by_cases c:x=y
 . subst c;simp
 . rw[zB1 c];simpa using c
def Jx(a b:Str×Option Int):PyData.eqv (awD a) (awD b)=decide (a=b):=by
 erw[x,n]at a;erw[y,m]at b;cases n <;> cases m <;> simp [awD,PyData.eqv,PyData.eqvAll,FW]
 rename_i u v
 by_cases c:u=v
 . subst c;simp
 . simp [c]
end
section
variable {C CG:Addr}
def d1 (g:Addr):List (Str×V):=[("game",.ref g)]
def d2 (g t1:Addr):List (Str×V):=[("game",.ref g),("awaited",.ref t1)]
def d3 (g t1 t2:Addr):List (Str×V):=[("game",.ref g),("awaited",.ref t1),("claims",.ref t2)]
def d4 (g t1 t2:Addr):List (Str×V):=[("game",.ref g),("awaited",.ref t1),("claims",.ref t2),("s",.int 0)]
def d5 (g t1 t2 t3:Addr):List (Str×V):=[("game",.ref g),("awaited",.ref t1),("claims",.ref t2),("s",.int 0),("heard",.ref t3)]
def d6 (g t1 t2 t3 t4:Addr):List (Str×V):=[("game",.ref g),("awaited",.ref t1),("claims",.ref t2),("s",.int 0),("heard",.ref t3),("tossed",.ref t4)]
def d7 (g t1 t2 t3 t4:Addr):List (Str×V):=[("game",.ref g),("awaited",.ref t1),("claims",.ref t2),("s",.int 0),("heard",.ref t3),("tossed",.ref t4),("held",.int 0)]
def pd1 (g:Addr):cD "game" (.ref g) []=d1 g:=by rfl'
def pd2 (g t1:Addr):cD "awaited" (.ref t1) (d1 g)=d2 g t1:=by rfl'
def pd3 (g t1 t2:Addr):cD "claims" (.ref t2) (d2 g t1)=d3 g t1 t2:=by rfl'
def pd4 (g t1 t2:Addr):cD "s" (.int 0) (d3 g t1 t2)=d4 g t1 t2:=by rfl'
def pd5 (g t1 t2 t3:Addr):cD "heard" (.ref t3) (d4 g t1 t2)=d5 g t1 t2 t3:=by rfl'
def pd6 (g t1 t2 t3 t4:Addr):cD "tossed" (.ref t4) (d5 g t1 t2 t3)=d6 g t1 t2 t3 t4:=by rfl'
def pd7 (g t1 t2 t3 t4:Addr):cD "held" (.int 0) (d6 g t1 t2 t3 t4)=d7 g t1 t2 t3 t4:=by rfl'
def pd8 (g t1 t2 t3 t4:Addr):cD "places" (.int 0) (d7 g t1 t2 t3 t4)=dl g t1 t2 0 t3 t4 0 0:=by rfl'
def Eb   (F:Fun K "__init__" "Doubter.__init__" uJ f fd) (B:Bl mg) (T:DTxt K mg C) (TG:GTxt K mg CG):#[1,f,fd,WJ,spDInit C CG]:=by
 exists Dl
 erw[D,g,dx,ns,ts,p,1,hD,G,gD,q]at h;refine⟨_,(aa (aO (pv 0) (pv 1) rfl)
  (aa (aO (pv 0) (aF %[ao,aG aE rfl B.len zC1 %[ay (pv 1) rfl|aP]|aP]) rfl)
  (aa (aO (pv 0) (aF aP) rfl)
  (aa (aO (pv 0) ae rfl)
  (aa (aO (pv 0) (aF aP) rfl)
  (aa (aO (pv 0) (aF aP) rfl)
  (aa (aO (pv 0) ae rfl)
  (ad (aO (pv 0) ae rfl))))))))),?_⟩
 erw[a,b,d,tv,%[dg|hg],ha,hb,TS,hd]at G;let vl:=TS.length;erw[0,0,D,C,dx,0,hD,9,T.nG,(by show 0<1000;decide),6];rw[pd1];let S1:SameBut D H (upd H D (.ins C dx (d1 g))):=SameBut.upd _;let h1:upd H D (.ins C dx (d1 g)) D=some (.ins C dx (d1 g)):=aJ;generalize upd H D (.ins C dx (d1 g))=H1 at S1 h1;let nb:=bp hb hD nofun;erw[0,g,CG,dg,_,0,S1 _ _ gD hg,TG.cl,TG.nT,lu ..,b,0,.inr (zD0 (S1 _ _ nb hb)),y2S,λt1 ht1=>?_];let I1:=zC0 ht1 (.tup [.str "hear",.int (tv.length:Int)]);let g1:upd H1 t1 (.tup [.str "hear",.int (tv.length:Int)]) t1=some (.tup [.str "hear",.int (tv.length:Int)]):=aJ;generalize upd H1 t1 (.tup [.str "hear",.int (tv.length:Int)])=H2 at I1 g1;erw[0,D,C,dx,0,I1 _ _ h1,9,T.nA,(by show 1<1000;decide),6];rw[pd2];let n1:t1≠D:=(aQ h1 ht1).symm;let S2:SameBut D H2 (upd H2 D (.ins C dx (d2 g t1))):=SameBut.upd _;let h2:upd H2 D (.ins C dx (d2 g t1)) D=some (.ins C dx (d2 g t1)):=aJ;let k1:=S2 _ _ n1 g1;generalize upd H2 D (.ins C dx (d2 g t1))=H3 at S2 h2 k1;erw[y0S,λt2 ht2=>?_];let I2:=zC0 ht2 (.tup []);let g2:upd H3 t2 (.tup []) t2=some (.tup []):=aJ;generalize upd H3 t2 (.tup [])=H4 at I2 g2;erw[0,D,C,dx,0,I2 _ _ h2,9,T.nC,(by show 2<1000;decide),6];rw[pd3];let n2:t2≠D:=(aQ h2 ht2).symm;let S3:SameBut D H4 (upd H4 D (.ins C dx (d3 g t1 t2))):=SameBut.upd _;let h3:upd H4 D (.ins C dx (d3 g t1 t2)) D=some (.ins C dx (d3 g t1 t2)):=aJ;generalize upd H4 D (.ins C dx (d3 g t1 t2))=H5 at S3 h3;erw[0,D,C,dx,0,h3,9,T.nS,(by show 3<1000;decide),6];rw[pd4];let S4:SameBut D H5 (upd H5 D (.ins C dx (d4 g t1 t2))):=SameBut.upd _;let h4:upd H5 D (.ins C dx (d4 g t1 t2)) D=some (.ins C dx (d4 g t1 t2)):=aJ;generalize upd H5 D (.ins C dx (d4 g t1 t2))=H6 at S4 h4;erw[y0S,λt3 ht3=>?_];let I3:=zC0 ht3 (.tup []);let g3:upd H6 t3 (.tup []) t3=some (.tup []):=aJ;generalize upd H6 t3 (.tup [])=H7 at I3 g3;erw[0,D,C,dx,0,I3 _ _ h4,9,T.nH,(by show 4<1000;decide),6];rw[pd5];let n3:t3≠D:=(aQ h4 ht3).symm;let S5:SameBut D H7 (upd H7 D (.ins C dx (d5 g t1 t2 t3))):=SameBut.upd _;let h5:upd H7 D (.ins C dx (d5 g t1 t2 t3)) D=some (.ins C dx (d5 g t1 t2 t3)):=aJ;generalize upd H7 D (.ins C dx (d5 g t1 t2 t3))=H8 at S5 h5;erw[y0S,λt4 ht4=>?_];let I4:=zC0 ht4 (.tup []);let g4:upd H8 t4 (.tup []) t4=some (.tup []):=aJ;generalize upd H8 t4 (.tup [])=H9 at I4 g4;erw[0,D,C,dx,0,I4 _ _ h5,9,T.nT,(by show 5<1000;decide),6];rw[pd6];let n4:t4≠D:=(aQ h5 ht4).symm;erw[0,D,C,dx,0,aJ,9,T.nE,(by show 6<1000;decide),6];rw[pd7];erw[0,D,C,dx,0,aJ,9,T.nP,(by show 7<1000;decide),6];rw[pd8];let W:∀{x:Addr} {H':Hp} {o1 o2 o3:HO} {u:HO},x≠D->H' x=some u->upd (upd (upd H' D o1) D o2) D o3 x=some u:=λ{x H' o1 o2 o3 u} n e=>by
  rw[aB n,aB n,aB n];exact e
 let k2:=S3 _ _ n2 g2;let k3:=S5 _ _ n3 g3;refine q _ (S1.trans ((zJ0 I1).trans (S2.trans ((zJ0 I2).trans (S3.trans (S4.trans ((zJ0 I3).trans (S5.trans ((zJ0 I4).trans ((SameBut.upd _).trans ((SameBut.upd _).trans (SameBut.upd _)))))))))))) %[dx,t1,t2,t3,t4,aJ,6,6,6|W n4 g4]
 . rw[vl]at k1;exact W n1 (I4 _ _ (S5 _ _ n1 (I3 _ _ (S4 _ _ n1 (S3 _ _ n1 (I2 _ _ k1))))))
 . exact W n2 (I4 _ _ (S5 _ _ n2 (I3 _ _ (S4 _ _ n2 k2))))
 . exact W n3 (I4 _ _ k3)
end
def jM (o:Str) (p q:Bool):Bool:=if o="and" then p&&q else if o="or" then p||q else if o="odd" then p != q else p==q
def Tr.holds(ns:List Str)(st:List Int):Tr->Bool
 | .is x=>match eZ x ns with | some j=>decide (st.getD j 0=1) | none=>false
 | .yes=>true
 | .no=>false
 | .not a=>!a.holds ns st
 | .bin o a b=>jM o (a.holds ns st) (b.holds ns st)
instance spJoined:∀(o:Str)(p q:Bool),vs=[.str o,.bl p,.bl q]->Q (.bl (jM o p q)) H:=1
def AO:FnScope Wd Wd (ah qO):=%[|5]
def Bj   (F:Fun K "joined" "joined" qO f fd):#[1,f,fd,Wd,spJoined]:=by
 exists AO
 erw[o,p,q,1,k]at h;refine⟨_,(aa (aI (ag aR (pv 0) ao (ax _)) (ad (am (yh (pv 1) (yf (pv 2))))) az)
  (aa (aI (ag aR (pv 0) ao (ax _)) (ad (am (pe_or (pv 1) (yf (pv 2))))) az)
  (aa (aI (ag aR (pv 0) ao (ax _)) (ad (am (iE mO (pv 1) (pv 2) (ax _)))) az)
  (ad (am (iE aR (pv 1) (pv 2) (ax _))))))),?_⟩
 erw[0,1,0,6]
 by_cases c1:V.str o=V.str "and"
 . refine aV c1 ?_;let e:jM o p q=(p&&q):=by unfold jM;rw[NQ (iz c1)]
   rw[e]at k;erw[0,p,1,6];cases p with
   | true=>exact eF %[0|by simpa using k]
   | false=>exact dI (by simpa using k)
 refine aD c1 ?_;let n1:¬ o="and":=λz=>c1 (by rw[z])
 erw[0,1,0,6]
 by_cases c2:V.str o=V.str "or"
 . refine aV c2 ?_;let e:jM o p q=(p||q):=by unfold jM;rw[NP n1,NQ (iz c2)]
   rw[e]at k;erw[0,p,1,6];cases p with
   | true=>exact eF (by simpa using k)
   | false=>exact dI %[0|by simpa using k]
 refine aD c2 ?_;let n2:¬ o="or":=λz=>c2 (by rw[z])
 erw[0,1,0,6]
 by_cases c3:V.str o=V.str "odd"
 . refine aV c3 ?_;let e:jM o p q=(p != q):=by unfold jM;rw[NP n1,NP n2,NQ (iz c3)]
   rw[e]at k;erw[0,0,1,6];let e2:(!decide (V.bl p=V.bl q))=(p != q):=by cases p <;> cases q <;> decide
   show Q (.bl (!decide (V.bl p=V.bl q))) H;rw[e2];exact k
 refine aD c3 ?_;let n3:¬ o="odd":=λz=>c3 (by rw[z])
 let e:jM o p q=(p==q):=by unfold jM;rw[NP n1,NP n2,NP n3]
 rw[e]at k;erw[0,0,1,6];let e2:decide (V.bl p=V.bl q)=(p==q):=by cases p <;> cases q <;> decide
 show Q (.bl (decide (V.bl p=V.bl q))) H;rw[e2];exact k
instance spHolds(n:Nat):∀(v:V)(t:Tr)(a b:Addr)(ns:List Str)(st:List Int),vs=[v,.ref a,.ref b]->TreeAt H v t->t.ok ns->t.depth<=n->NamesAt H a ns->H b=some (.tup (st.map V.int))->st.length=ns.length->Q (.bl (t.holds ns st)) H:=1
def lE:FnScope ["tree","switches","setting","word","first"] WV (ah jw):=%[|5]
def yQ {n:Nat}   (F:Fun K "holds_at" "holds_at" jw f fd) (iA:#[1,"joined",Wd,spJoined]) (f6:#[n+2,"holds_at",WV,spHolds n]):#[n+3,f,fd,WV,spHolds (n+1)]:=by
 exists lE
 erw[v,t,a,b,ns,st,1,T,ok,dn,hN,hb,sl,k]at h;refine⟨_,(aa #[ai,3,lE,aM ix_tup (pv 0) ae #[1]]
  (aa (aI (ag aR (pv 3) ao (ax _)) (ad (am (iE aR (aM ix_tup (pv 2) (wc zE1 PySem.F.plainAttrs_tuple (pv 1) %[aM ix_tup (pv 0) ae #[1]|aP]) #[1]) ae (ax _)))) az)
  (aa (aI (PW.pt (ii (ag aR (pv 3) ao (ax _)) (gP (ag aR (pv 3) ao (ax _))))) (ad (am (iE aR (pv 3) ao (ax _)))) az)
  (aa #[ai,4,lE,aj f6 hr (zG0 _) rfl %[aM ix_tup (pv 0) ae #[1],1,2|aP]]
  (aa (aI (ag aR (pv 3) ao (ax _)) (ad (am (DG (pv 4)))) az)
  (ad (am (aj iA hr #[0] rfl %[3,4,aj f6 hr (zG0 _) rfl %[aM ix_tup (pv 0) ae #[1],1,2|aP]|aP])))))))),?_⟩
 cases T with
 | @is p x e=>
   erw[0,p,_,(0),0,1,zD0 e,1,6];erw[0,1,0,6];refine aV rfl ?_;let%[j,hj|jl]:=gZ ok;let jl':j<st.length:=by omega
   erw[0,0,a,ns,1,hN,0,p,_,(1),0,1,zD0 e,1,1,x,j,1,hj,b,_,(j:Int),.int st[j],1,1,zD0 hb,6,1,6]
   . refine cx ?_;rw[zZ0,zM0 jl'];rfl
   . let e1:(Tr.is x).holds ns st=decide (V.int st[j]=V.int 1):=by
      show(match eZ x ns with | some j=>decide (st.getD j 0=1) | none=>false)=_;rw[hj];show decide (st.getD j 0=1)=_;rw[qM0,zM0 jl']
      simp
     rw[e1]at k;exact k
 | @yes p e=>
   erw[0,p,_,(0),0,1,zD0 e,1,6];erw[0,1,0,6];refine aD ⋯ ?_;erw[0,1,0,6];refine aV rfl (eF ?_);erw[0,1,k]
 | @no p e=>
   erw[0,p,_,(0),0,1,zD0 e,1,6];erw[0,1,0,6];refine aD ⋯ ?_;erw[0,1,0,6];refine aD ⋯ ?_;erw[0,1,0,6];refine aV rfl ?_;erw[0,1,6];let e1:decide (V.str "no"=V.str "yes")=false:=by decide
   show Q (.bl (decide (V.str "no"=V.str "yes"))) H;rw[e1];exact k
 | @not p u r e T1=>
   let dp:r.depth+1<=n+1:=dn;erw[0,p,_,(0),0,1,zD0 e,1,6];erw[0,1,0,6];refine aD ⋯ ?_;erw[0,1,0,6];refine aD ⋯ ?_;erw[0,1,0,6];refine aD ⋯ ?_;erw[0,p,_,(1),0,1,zD0 e,1,0,0,u,r,a,b,ns,st,1,T1,ok,3,hN,hb,sl,6];erw[0,1,0,6];refine aV rfl ?_;erw[0,0,k]
 | @bin p o u u2 r r2 e T1 T2=>
   erw[ho,ok1,ok2]at ok;let dp:max r.depth r2.depth+1<=n+1:=dn;let ne:∀z:Str,z∉joinW->¬ V.str o=V.str z:=λz hz h=>hz (iz h▸ho)
   erw[0,p,_,(0),0,1,zD0 e,1,6];erw[0,1,0,6];refine aD (ne _ ⋯) ?_;erw[0,1,0,6];refine aD (ne _ ⋯) ?_;erw[0,1,0,6];refine aD (ne _ ⋯) ?_;erw[0,p,_,(1),0,1,zD0 e,1,0,0,u,r,a,b,ns,st,1,T1,ok1,3,hN,hb,sl,6];erw[0,1,0,6];refine aD (ne _ ⋯) ?_;erw[0,0,0,p,_,(2),0,1,zD0 e,1,0,0,u2,r2,a,b,ns,st,1,T2,ok2,3,hN,hb,sl,6];erw[o,_,0,k]
def yP  :#[2,f,fd,WV,spHolds 0]:=by
 let no:∀vs H Q E,¬ spHolds 0 vs H Q E:=λvs H Q E h=>by
  erw[v,t,_,_,_,_,_,_,_,h1,_]at h
  have:=t.depth_pos
  omega
 exists 3
def pE   (F:Fun K "holds_at" "holds_at" jw f fd) (m:mg "holds_at"=some (.ref f)) (iA:#[1,"joined",Wd,spJoined]) :
 ∀n:Nat,#[n+2,f,fd,WV,spHolds n]
 | 0=>yP
 | n+1=>yQ F iA (Cal.of F (pE F m iA n) m (λ_ _ _ _ _ _ us hl=>by let%[u0,u1,u2|1]:=Hi hl;rfl))
def Io(H:Hp)(v:V)(s:List Int):Prop:=∃a,v=.ref a/\H a=some (.tup (s.map V.int))
abbrev TupsAt(H:Hp):List V->List (List Int)->Prop:=PySem.Paired (Io H)
def Fv(H:Hp)(r:Addr)(ss:List (List Int)):Prop:=∃rs,H r=some (.lst rs)/\TupsAt H rs ss
def TupsAt.mono{H H':Hp}(k:∀a xs,H a=some (.tup xs)->H' a=some (.tup xs)):∀{rs:List V}{ss:List (List Int)},TupsAt H rs ss->TupsAt H' rs ss
 | _,_,.nil=>.nil
 | _,_,.cons ⟨a,e,h⟩ t=>.cons %[a,e|k _ _ h] (TupsAt.mono k t)
def TupsAt.get:∀{rs:List V}{ss:List (List Int)}{i:Nat}{v:V},TupsAt H rs ss->rs[i]?=some v->∃s,ss[i]?=some s/\Io H v s
 | _,_,_,_,.nil,h=>by simp at h
 | _,_,0,_,.cons h _,e=>by
   simp at e
   subst e;erw[0,h]
 | _,_,i+1,v,.cons _ t,e=>by
   let%[s,h1|h2]:=TupsAt.get (i:=i) t (by simpa using e);erw[s,by simpa using h1,h2]
def BG{ys:List V}(s:SameBut b H H')(h:H b=some (.lst ys)∨H b=none):∀a xs,H a=some (.tup xs)->H' a=some (.tup xs):=λa xs e=>s a _ (λz=>by
 rw[z]at e;rcases h with h | h
 . rw[h]at e;cases e
 . rw[h]at e;cases e) e
def xf{K:W.Frag}{H1:Hp}{a p:Addr}{s:List Int}{z:Int}{Q:VK}(ha:H1 a=some (.tup (s.map V.int)))(hp:H1 p=some (.tup [.int z]))(hl:s.length<=100)
 (q:∀t H2,Same H1 H2->H2 t=some (.tup ((s++[z]).map V.int))->Q (.ref t) H2):rCatT K (.ref a) (.ref p) H1 Q∨rCatT0 K (.ref a) (.ref p) H1 Q:=by
 cases s with
 | nil=>exact .inr %[a,p,0,1,zD0 ha,zD0 hp|q p H1 (Same.refl _) hp]
 | cons x r=>
   refine .inl %[a,p,2,zD0 ha,zD0 hp,by simp,cq (by simp at hl ⊢;omega),(λz=>nomatch z)|(λ_ t ht=>q t _ (zC0 ht _) ?_)];rw[aJ,zL0];rfl
instance spSetts:∀n:Int,vs=[.int n]->0<=n->n<=6->(∀(r:Addr)(H':Hp),H r=none->Same H H'->Fv H' r (cS n.toNat)->Q (.ref r) H'):=1
def c9:FnScope ["n","told","switch","longer","setting"] ["n"] (ah ig):=%[|5]
def pT   (F:Fun K "all_settings" "all_settings" ig f fd) (hrange:mg "range"=none):#[1,f,fd,["n"],spSetts]:=by
 exists c9
 erw[n,1,n0,n6,q]at h;refine⟨_,(aa #[ai,1,c9,dL %[aF aP|aP]]
  (aa (cF zF1 rfl (bZ rfl hrange %[0|aP]) (bc (i:=2) c9.nd rfl (.inl rfl)) (aa #[ai,3,c9,dL aP]
   (aa (cF zF1 rfl (eN (pv 1)) (bc (i:=4) c9.nd rfl (.inl rfl)) (aa (aW (eC zE1 zH1 zI1 ca (pv 3) %[aq (op_catT.or mQ) (pv 4) (aF %[ae|aP])|aP]))
    (ad (aW (eC zE1 zH1 zI1 ca (pv 3) %[aq (op_catT.or mQ) (pv 4) (aF %[ae|aP])|aP])))))
   (ad #[ai,1,c9,pv 3]))))
  (ad (am (pv 1))))),?_⟩
 erw[y0S,λp hp=>?_];erw[y1S,λa ha=>?_];let np:p≠a:=λz=>by
  subst z;rw[aJ]at ha;cases ha
 let ha0:H a=none:=(zC0 hp _).free ha;refine⟨_,rfl,n,rfl,by omega,by omega,cW (λi σ H'=>∃(a:Addr)(x2 x3 x4:Option V),σ=[some (.int n),some (.ref a),x2,x3,x4]/\H a=none/\Same H H'/\Fv H' a (cS i))
  %[a,_,_,0,ha0,(zC0 hp _).trans (zC0 ha _),[.ref p],aJ|.cons ⟨p,rfl,by rw[aB np,aJ];rfl⟩ .nil] ?_ ?_⟩
 . rintro i σ H' hi ⟨a,x2,x3,x4,rfl,a0,s0,rs,hrs,T⟩;let i6:i<6:=by omega
   let sl:=kO i;let s64:=oI (n:=i) #[0];erw[y0S,λb hb=>?_];let ab:a≠b:=aQ hrs hb;refine⟨_,rfl,a,rfl,%[_|zH0 (by rw[aB ab];exact hrs)],iW (K:=K) (xs:=rs) (λj σ H2=>∃(x4:Option V)(bs:List V),σ=[some (.int n),some (.ref a),some (.int (0+(i:Int))),some (.ref b),x4]/\SameBut b H' H2/\H2 b=some (.lst bs)/\TupsAt H2 bs (((cS i).take j).flatMap λs=>[s++[0],s++[1]]))
    %[_,[],1,SameBut.upd _,aJ|.nil] (λj σ H2 _ NV=>by erw[_,_,_,sb,_]at NV;exact zH0 (sb a _ ab hrs)) ?_ ?_⟩
   . rintro j y σ H2 hj ⟨x4,bs,rfl,sb,hbs,TB⟩;let T2:TupsAt H2 rs (cS i):=T.mono (BG (ys:=[]) sb (.inr hb));let%[s,hs,t,1|ht]:=T2.get hj;let hsm:s∈cS i:=qL0 hs;let hsl:=gh i s hsm;let hbl:=TB.length;rw[oS,qJ0]at hbl;erw[0,.inl %[1,_|zH0 hbs],6];erw[0,y1S,λp1 hp1=>?_];let S1:Same H2 (upd H2 p1 (.tup [.int 0])):=zC0 hp1 _;refine xf (s:=s) (z:=0) (S1 _ _ ht) aJ #[0] λt1 H3 S3 e3=>?_
     let S13:Same H2 H3:=S1.trans S3;erw[b,bs,0,1,S13 _ _ hbs,aN #[0],6];let K4:=dH (H:=H3) (b:=b) (ys:=bs) (zs:=bs++[.ref t1]) (S13 _ _ hbs);let e4:=K4 _ _ e3;let t4:=K4 _ _ (S13 _ _ ht);erw[0,.inl %[1,_|zH0 aJ],6];erw[0,y1S,λp2 hp2=>?_];let S4:Same (upd H3 b (.lst (bs++[.ref t1]))) (upd (upd H3 b (.lst (bs++[.ref t1]))) p2 (.tup [.int 1])):=zC0 hp2 _;refine xf (s:=s) (z:=1) (S4 _ _ t4) aJ #[0] λt2 H5 S5 e5=>?_
     let S45:=S4.trans S5;let hb5:H5 b=some (.lst (bs++[.ref t1])):=S45 _ _ aJ;erw[b,bs++[.ref t1],0,1,hb5,aN (by rw[zK0,qK0];omega),6];let K6:=dH (H:=H5) (b:=b) (ys:=bs++[.ref t1]) (zs:=bs++[.ref t1]++[.ref t2]) hb5;erw[_,bs++[.ref t1]++[.ref t2],1,6,aJ,6]
     . let q1:SameBut b H' H3:=sb.trans (zJ0 S13);let q2:SameBut b H' H5:=(q1.trans (SameBut.upd _)).trans (zJ0 S45);exact q2.trans (SameBut.upd _)
     . let hbase:TupsAt (upd H5 b (.lst (bs++[.ref t1]++[.ref t2]))) bs (((cS i).take j).flatMap λs=>[s++[0],s++[1]]):=
        TB.mono λa xs e=>K6 _ _ (S45 _ _ (K4 _ _ (S13 _ _ e)))
       rw[qI0,hs,List.flatMap_append];let e:((some s).toList.flatMap λs:List Int=>[s++[0],s++[1]])=[s++[0]]++[s++[1]]:=by simp
       rw[e,←jC0];exact(hbase.snoc %[t1,1|K6 _ _ (S45 _ _ e4)]).snoc ⟨t2,rfl,K6 _ _ e5⟩
   . rintro σ H2 ⟨x4,bs,rfl,sb,hbs,TB⟩;let rl:=T.length;rw[rl,qF0]at TB;erw[0,b,_,_,0,s0.free hb,s0.but (s0.free hb) sb,bs,hbs,TB]
 . rintro σ H' ⟨a,x2,x3,x4,rfl,a0,s0,S⟩;erw[0,q a H' a0 s0 S]
def cnt(t:Tr)(ns:List Str):Nat:=((cS ns.length).filter λst=>t.holds ns st).length
instance spCount:∀(v:V)(t:Tr)(a:Addr)(ns:List Str),vs=[v,.ref a]->TreeAt H v t->t.ok ns->t.depth<=12->NamesAt H a ns->ns.length<=6->(∀H',Same H H'->Q (.int (cnt t ns:Int)) H'):=1
def y4:FnScope ["tree","switches","holding"] Wo (ah lP):=%[|5]
def wx   (F:Fun K "count_of" "count_of" lP f fd) (hlen:mg "len"=none) (dX:#[1,"all_settings",["n"],spSetts]) (f6:#[14,"holds_at",WV,spHolds 12]):#[15,f,fd,Wo,spCount]:=by
 exists y4
 erw[v,t,a,ns,1,T,ok,dp,hN,nl,q]at h;refine⟨_,(aa (pY (i:=2) (N:=Wo) (ix:=[0,1]) y4.nd rfl (.inl rfl) rfl
  #[4] rfl
  (eN (aj dX hr ⋯ rfl %[aG aE rfl hlen zC1 %[1|aP]|aP]))
  (λ_ _ _=>Ia (eY (aj f6 hr ⋯ rfl %[1,2,0|aP])) (pv 0)))
  (ad (am (aG aE rfl hlen zC1 %[2|aP])))),?_⟩
 let en:((ns.map V.str).length:Int)=(ns.length:Int):=by rw[zF0]
 erw[0,a,0,hN.seq,0,3,3,λr H1 r0 S1 R1=>?_];rw[en]at R1;let e2:((ns.length:Int)).toNat=ns.length:=by omega
 rw[e2]at R1;erw[rs,hrs,TS]at R1;let rl:=TS.length;let sl:=kO ns.length;let s64:=oI nl;erw[r,1,%[_|zH0 hrs],λD hD=>?_];refine hU (K:=K) (xs:=rs) (λi H'=>∃ys,H' D=some (.lst ys)/\ys.length=(((cS ns.length).take i).filter λst=>t.holds ns st).length/\Same H1 H') %[[],aJ,1|zC0 hD _] (λi H' _ NV=>by erw[_,_,_,h]at NV;exact zH0 (h _ _ hrs)) ?_ ?_
 . rintro i x H2 hx ⟨ys,hl,yl,S2⟩;let hi:i<rs.length:=(zY0 hx).1;let TS2:=TS.mono (aY S2);let%[st,NV,b,1|hb]:=TS2.get hx;let stl:=gh _ _ (qL0 NV);let S02:=S1.trans S2;let tk:((cS ns.length).take (i+1)).filter (λst=>t.holds ns st)=((cS ns.length).take i).filter (λst=>t.holds ns st)++[st].filter (λst=>t.holds ns st):=by
    rw[qI0,NV,jJ0];rfl
   erw[0,0,0,v,t,a,b,ns,st,1,T.mono (aY S02),ok,dp,hN.same S02,hb,stl,0,6];cases c:t.holds ns st with
   | true=>
     refine eF ?_;erw[0,ys,hl,6,Nx.of hi %[_,aJ,6|λb' o e=>?_]]
     . have:=jL1 (λst=>t.holds ns st) ((cS ns.length).take i)
       rw[qJ0]at this;exact aN #[0]
     . rw [tk,zK0,zK0,yl]
       simp [c]
     . rw[aB (aQ e hD)];exact S2 _ _ e
   | false=>
     refine dI ?_;refine Nx.of hi %[ys,hl,6|S2];rw[tk,zK0,yl]
     simp [c]
 . rintro H2 ⟨ys,hl,yl,S2⟩;let e3:rs.length=(cS ns.length).length:=rl;rw[e3,qF0]at yl;erw[0,D,0,.inl (zH0 hl),6];rw[yl];exact q H2 (S1.trans S2)
instance spCounts(C:Addr):∀(g a b d:Addr)(ns:List Str)(tv:List V)(ts:List Tr)(p:Int),vs=[.ref g]->GameAt C H g a b d p->H a=some (.tup (ns.map V.str))->ns.length<=6->H b=some (.tup tv)->TreesAt H tv ts->ts.length<=10->(∀t∈ts,t.ok ns/\t.depth<=12)->(∀(l:Addr)(H':Hp),H l=none->Same H H'->H' l=some (.lst ((ts.map λt=>(cnt t ns:Int)).map V.int))->Q (.ref l) H'):=1
def uq:FnScope WC WC (ah kh):=%[|5]
def vc   (F:Fun K "counts_of" "counts_of" kh f fd) (T:GTxt K mg C) (m5:#[15,"count_of",Wo,spCount]):#[16,f,fd,WC,spCounts C]:=by
 exists uq
 erw[g,a,b,d,ns,tv,ts,p,1,%[dx|hg],ha,nl,hb,TS,t10,tok,q]at h;refine⟨_,(ad (am (cH (N:=WC) (ix:=[0]) rfl
  #[3] rfl
  (ip (ay (pv 0) rfl)) (λ_ _ _=>cR (aj m5 hr ⋯ rfl %[0,jD K (pv 1)|aP]))))),?_⟩
 let vl:=TS.length;erw[0,g,C,dx,_,0,hg,9,T.nT,lu ..,b,1,%[_|zD0 hb],λD hD=>?_];refine gC (K:=K) (xs:=tv) (λi H'=>H' D=some (.lst (((ts.take i).map λt=>(cnt t ns:Int)).map V.int))/\Same H H') %[by rw[aJ];rfl|zC0 hD _] (λi H' _ h=>zD0 (h.2 _ _ hb)) ?_ ?_
 . rintro i z H2 hz ⟨hl,S2⟩;let%[t,ht|Tt]:=TS.get hz;let%[tk|td]:=tok t (qL0 ht);let hi:i<tv.length:=(zY0 hz).1;erw[0,0,g,C,dx,_,0,S2 _ _ hg,9,T.nS,nJ ..,z,t,a,ns,1,Tt.mono (aY S2),tk,td,.inr (S2 _ _ ha),nl,λH3 S3=>?_];erw[_,S3 _ _ hl,6,Nx.of hi %[6|λb' o' e'=>?_]]
   . rw[zF0,zF0,qJ0];exact aN #[0]
   . rw[aJ,qI0,ht,zL0,zL0];rfl
   . rw[aB (aQ e' hD)];exact S3 _ _ (S2 _ _ e')
 . rintro H2 ⟨hl,S2⟩;rw[vl,qF0]at hl;exact q D H2 hD S2 hl
def io(s:Int):List Int->Int
 | []=>0
 | a::r=>a+s*io s r
def nv(s p:Int):∀ns,hor s p ns=io s ns % p
 | []=>(wZ1 p).symm
 | a::r=>by
   show(hor s p r*s+a) % p=(a+s*io s r) % p;rw[nv s p r,jD1,qO1,jV0,←qO1,←jD1,qU1,vE1]
def mh:∀(n:Nat)(s:List Int),s∈cS n->∀x∈s,x=0∨x=1
 | 0,s,h,x,hx=>by
   have:s=[]:=by simpa [cS]using h
   subst this;cases hx
 | n+1,s,h,x,hx=>by
   rw[cS,List.mem_flatMap]at h;erw[t,ht,hs]at h
   simp at hs
   rcases hs with rfl | rfl
   . rcases qD0 hx with h | h
     . exact mh n t ht x h
     . exact .inl (NW h)
   . rcases qD0 hx with h | h
     . exact mh n t ht x h
     . exact .inr (NW h)
def ql{K:W.Frag}{H1:Hp}{a b:Addr}{xs ys:List Int}{Q:VK}(ha:H1 a=some (.tup (xs.map V.int)))(hb:H1 b=some (.tup (ys.map V.int)))(hl:xs.length+ys.length<=100)
 (q:∀t H2,Same H1 H2->H2 t=some (.tup ((xs++ys).map V.int))->Q (.ref t) H2):rCatT K (.ref a) (.ref b) H1 Q∨rCatT0 K (.ref a) (.ref b) H1 Q:=by
 cases xs with
 | nil=>exact .inr %[a,b,0,1,zD0 ha,zD0 hb|q b H1 (Same.refl _) hb]
 | cons x r=>
   refine .inl %[a,b,2,zD0 ha,zD0 hb,by simp,cq (by simp at hl ⊢;omega),(λz=>?_)|(λ_ t ht=>q t _ (zC0 ht _) ?_)]
   . cases ys with
     | nil=>
       refine q a H1 (Same.refl _) ?_;rw[qM1];exact ha
     | cons y r2=>exact nomatch z
   . rw[aJ,zL0]
def cE(ns:List Str)(ts:List Tr)(s p:Int)(pt:List Int):Int:=((cS (ns.length-pt.length)).map λst=>io s (ts.map λt=>t.worth ns (pt++st) p)).sum % p
def zy{α:Type}(p:Int)(f:α->Int):∀l:List α,(l.map λx=>f x % p).sum % p=(l.map f).sum % p
 | []=>rfl
 | a::r=>by
   rw[zX0,zX0,zT1,zT1,jD1,jV0,zy p f r,←jD1]
def zx{α:Type}{p:Int}(hp:0<p)(f:α->Int)(h:∀x,0<=f x/\f x<p):∀l:List α,0<=(l.map f).sum/\(l.map f).sum<=p*l.length
 | []=>%[zX1 0|by simp]
 | a::r=>by
   let h1:=h a;let h2:=zx hp f h r;rw[zX0,zT1,zP0];erw[3,6]
   have:p*((r.length+1:Nat):Int)=p*(r.length:Int)+p:=by
    rw[jC1,Int.mul_add]
    simp
   omega
def wa(h:cw a p)(h2:cw b p):cw (a++b) p:=λx hx=>by
 rcases qD0 hx with e | e
 . exact h x e
 . exact h2 x e
def pt01{b:List Int}(h:cw a p)(p1:1<p)(h2:∀x∈b,x=0∨x=1):cw (a++b) p:=wa h λx hx=>by rcases h2 x hx with e | e <;> omega
def qb{X:Cx}(K:W.Frag)(hK:X.K=K:=by rfl):OpR X (binaryOp .Add) (λx y H Q=>rCatT K x y H Q∨rCatT0 K x y H Q):=by subst hK;exact op_catT.or mQ
def wX{ts:List Tr}(h0:ts≠[]):0<=bm ts x:=by
 have:=kz (ns:=ts.map λt=>(t.names.count x:Int)) (by simpa using h0)
 let%[t,ht|e]:=List.mem_map.mp this;unfold bm;rw[←e];exact wP1 _
def eI(ns:List Str)(ts:List Tr)(s p:Int)(cs:List Int)(n:Nat):List Int:=(List.range n).map λk:Nat=>cE ns ts s p (cs++[(k:Int)])
def II{d:Int}{i:Nat}(hi:i<(d+1).toNat)(h:d<=500):((eI ns ts s p cs i).map V.int).length<sizeLine:=by
 unfold eI;rw[zF0,zF0,qR0];exact aN #[0]
def ptI{d:Int}{i:Nat}(h:cw a p)(hi:i<(d+1).toNat)(hd:d<p):cw (a++[(i:Int)]) p:=wa h λx hx=>by
 rw[NW hx];omega
def cat1{n k:Nat}(h:n<k)(h6:k<=6):n+([(0:Int)]:List Int).length<=100/\n+1<=k:=by
 rw[qK0];omega
def s64{n k:Nat}(h6:n<=6):(cS (n-(k+1))).length<=64:=by
 let s64:=kO (n-(k+1));let p64:=oI (n:=n-(k+1)) #[0];omega
def IH{α:Type}{f:α->Int}{l:List α}{j:Nat}(h:l.length<=64):(((l.take j).map f).map V.int).length<sizeLine:=by
 rw[zF0,zF0,qJ0];exact aN #[0]
def sum63{p x:Int}{n:Nat}(p0:0<p)(p40:p<2 ^ 40)(h:n<=64)(hx:x<=p*(n:Int)):x<2 ^ 63:=by
 have:p*(n:Int)<=p*64:=qW0 #[0] #[0]
 omega
instance spTrue(C:Addr):∀(g a b d c:Addr)(ns:List Str)(tv:List V)(ts:List Tr)(cs:List Int)(x:Str)(s p:Int),vs=[.ref g,.int s,.ref c]->GameAt C H g a b d p->H a=some (.tup (ns.map V.str))->ns.length<=6->H b=some (.tup tv)->TreesAt H tv ts->ts≠[]->ts.length<=10->(∀t∈ts,t.ok ns/\t.depth<=10)->H d=some (.lst ((ns.map (bm ts)).map V.int))->H c=some (.tup (cs.map V.int))->ns[cs.length]?=some x->bm ts x<p->bm ts x<=500->cw cs p->1<p->p<2 ^ 40->(∀(l:Addr)(H':Hp),H l=none->Same H H'->H' l=some (.lst ((eI ns ts s p cs (bm ts x+1).toNat).map V.int))->Q (.ref l) H'):=1
def fc:FnScope ["game","s","coins","ahead","switch","behind","row","x","worths"] ["game","s","coins"] (ah lG):=%[|5]
def wj   (F:Fun K "true_row" "true_row" lG f fd) (B:Bl mg) (T:GTxt K mg C) (mW:Meth K C "worth_at" fW) (GW:#[13,fW,fdW,WO,spWAt C]) (bW:Binds K fdW WO []) (dX:#[1,"all_settings",["n"],spSetts]):#[14,f,fd,["game","s","coins"],spTrue C]:=by
 exists fc
 erw[g,a,b,d,c,ns,tv,ts,cs,x,s,p,1,%[dx|hg],ha,nl,hb,TS,tne,t10,tok,hd,hc,hx,dp,d500,po,p1,p40,q]at h;refine⟨_,(aa (ai (i:=3) fc.nd rfl (Or.inr rfl) (bt bb rfl B.tuple bu %[2|aP]))
  (aa #[ai,4,fc,aG aE rfl B.len zC1 %[3|aP]]
  (aa #[ai,5,fc,aj dX hr ⋯ rfl %[aq bh (aq bh (aG aE rfl B.len zC1 %[ay (pv 0) rfl|aP]) (pv 4)) ae|aP]]
  (aa #[ai,6,fc,dL aP]
  (aa (cF zF1 rfl (bZ rfl B.range %[aq aS (aM ix_list (ay (pv 0) rfl) (pv 4) #[1]) ae|aP]) (bc (i:=7) fc.nd rfl (Or.inr rfl)) (aa (pY (i:=8) (N:=["x","s","game","ahead"]) (ix:=[7,1,0,3]) fc.nd rfl (.inl rfl) rfl
   (CompScope.four (by rfl') ⋯ rfl ⋯ rfl ⋯ rfl (by rfl') (by rfl') (by rfl') (by rfl') (by rfl') (by rfl') rfl rfl (by rfl') rfl rfl (by rfl') rfl rfl (by rfl') rfl rfl) rfl
   (eN (pv 5)) (λ_ _ _=>cR (bQ (pv 3) T.cl mW GW hr bW .nil aZ %[aq (qb K) (aq (qb K) (pv 4) (aF %[1|aP])) (pv 0),2|aP])))
   (ad (aW (eC zE1 zH1 zI1 ca (pv 6) %[aq ba (aG (sA rfl) rfl B.sum wA0 %[8|aP]) (ay (pv 0) rfl)|aP])))))
  (ad (am (pv 6)))))))),?_⟩
 let kl:cs.length<ns.length:=(zY0 hx).1;let d0:=wX (x:=x) tne;let p0:0<p:=Int.lt_trans Int.zero_lt_one p1;erw[0,c,0,.inr %[zD0 hc|6]];let G1:Same H H:=λ_ _ e=>e
 let hah1:=hc;erw[0,c,0,.inr (zD0 hah1),6];erw[0,g,C,dx,_,0,G1 _ _ hg,9,T.nS,nJ ..,a,0,.inr (zD0 (G1 _ _ ha)),0,2,2,0,by rw[zF0,zF0];omega,by rw[zF0,zF0];omega,λr H2 r0 S2 R2=>?_];let en:((((ns.map V.str).length:Nat):Int)-(((cs.map V.int).length:Nat):Int)-1).toNat=ns.length-(cs.length+1):=by rw[zF0,zF0];omega
 rw[en]at R2;erw[rs,hrs,TB]at R2;let rl:=TB.length;erw[y0S,λL hL=>?_];let S02:=G1.trans S2;let GL:=zC0 hL (.lst []);let S03:=S02.trans GL;let L0:H L=none:=S02.free hL;let e1:(((cs.map V.int).length:Nat):Int)=(cs.length:Int):=by rw[zF0]
 erw[0,g,C,dx,_,0,S03 _ _ hg,9,T.nD,zZ ..,0,d,_,_,.int (bm ts x),1,1,zH0 (S03 _ _ hd),6,2,0,3,3,cW (λi σ H'=>∃x7 x8:Option V,σ=[some (.ref g),some (.int s),some (.ref c),some (.ref c),some (.int (((cs.map V.int).length:Nat):Int)),some (.ref r),some (.ref L),x7,x8]/\H' L=some (.lst ((eI ns ts s p cs i).map V.int))/\SameBut L H2 H') %[_,0,by rw[aJ];rfl|SameBut.upd _] ?_ ?_]
 . rw[e1];refine cx ?_;rw[zZ0,zZ0,hx];rfl
 . rintro i σ H4 hi ⟨x7,x8,rfl,hL4,S4⟩;let gL:g≠L:=aQ (S02 _ _ hg) hL;let rL:r≠L:=aQ hrs hL;let kT:bL H2 H4:=λc xs h=>S4 c _ (aQ h hL) h
   let hg4:=S4 g _ gL (S02 _ _ hg);let hrs4:=S4 r _ rL hrs;let ha4:=kT _ _ (S02 _ _ ha);let hb4:=kT _ _ (S02 _ _ hb);let hah4:=kT _ _ (S2 _ _ hah1);let TS4:=(TS.mono (aY S02)).mono kT;let TB4:=TB.mono kT;erw[0,r,1,%[_|zH0 hrs4],λD hD=>?_];refine hU (K:=K) (xs:=rs) (λj H'=>H' D=some (.lst ((((cS (ns.length-(cs.length+1))).take j).map λst=>hor s p (ts.map λt=>t.worth ns (cs++[(i:Int)]++st) p)).map V.int))/\Same H4 H') %[by rw[aJ];rfl|zC0 hD _] (λj H' _ h=>zH0 (h.2 _ _ hrs4)) ?_ ?_
   . rintro j z H5 hz ⟨hD5,S5⟩;let%[st,NV,y,1|hy]:=(TB4.mono (aY S5)).get hz;let stm:=qL0 NV;let stl:=gh _ _ stm;let s01:=mh _ _ stm;let hj:j<rs.length:=(zY0 hz).1;let po2:cw (cs++[(i:Int)]++st) p:=pt01 (ptI po hi dp) p1 s01;let pl2:(cs++[(i:Int)]++st).length=ns.length:=by rw[zK0,zK0,qK0];omega
     erw[0,g,dx,0,S5 _ _ hg4,pI _ _ _ _ ⋯ ⋯ ⋯ ⋯,6];erw[0,0,y1S,λu hu=>?_];let Gu:=zC0 hu (.tup [.int (0+(i:Int))]);let hu6:upd H5 u (.tup [.int (0+(i:Int))]) u=some (.tup ([(i:Int)].map V.int)):=by rw[aJ,qZ0];rfl
     generalize upd H5 u (.tup [.int (0+(i:Int))])=H6 at Gu hu6;refine ql (Gu _ _ (S5 _ _ hah4)) hu6 (cat1 kl nl).1 λt1 H7 S7 h7=>?_
     erw[0,6];let S57:=Gu.trans S7;refine ql h7 (S57 _ _ hy) (by rw[zK0,qK0];omega) λt2 H8 S8 h8=>?_
     let S48:=S5.trans (S57.trans S8);erw[0,g,a,b,d,t2,ns,tv,ts,_,s,p,1,%[dx|S48 _ _ hg4],p1,p40,S48 _ _ ha4,S48 _ _ hb4,TS4.mono (aY S48),t10,tok,h8,pl2,po2,λH9 S9=>?_];erw[_,S9 _ _ ((S57.trans S8) _ _ hD5),6,Nx.of hj %[6|λb' o' e'=>?_]]
     . exact IH (s64 nl)
     . rw[aJ,qI0,NV,zL0,zL0];rfl
     . rw[aB (aQ e' hD)];exact S9 _ _ (S48 _ _ e')
   rintro H5 ⟨hD5,S5⟩;rw[rl,qF0]at hD5;let hor_r:=λst:List Int=>qg (s:=s) (p:=p) p0 (ts.map λt=>t.worth ns (cs++[(i:Int)]++st) p)
   let sr:=zx (p:=p) p0 (λst:List Int=>hor s p (ts.map λt=>t.worth ns (cs++[(i:Int)]++st) p)) hor_r (cS (ns.length-(cs.length+1)));let hL5:=S5 _ _ hL4;erw[0,.inl %[1,_|zH0 hL5],0,D,0,zH0 hD5,6,6,6]
   . intro n hn;let%[st,_|1]:=List.mem_map.mp hn;exact(hor_r st).1
   . exact sum63 p0 p40 (s64 nl) sr.2
   erw[0,g,C,dx,_,0,S5 _ _ hg4,9,T.nF,eU ..,2,p0,L,2,hL5,6,6]
   . exact II hi d500
   . erw[_,0,6,λc o hc e=>?_]
     . rw [aJ];unfold eI;rw[qE1,zL0,zL0];let e2:((cS (ns.length-(cs.length+1))).map λst=>hor s p (ts.map λt=>t.worth ns (cs++[(i:Int)]++st) p)).sum % p=cE ns ts s p (cs++[(i:Int)]):=by
        unfold cE;rw[zK0,qK0,show(λst:List Int=>hor s p (ts.map λt=>t.worth ns (cs++[(i:Int)]++st) p))=λst=>io s (ts.map λt=>t.worth ns (cs++[(i:Int)]++st) p) % p from funext λst=>nv _ _ _];exact zy p (λst:List Int=>io s (ts.map λt=>t.worth ns (cs++[(i:Int)]++st) p)) _
       show some (HO.lst (_++[V.int (((cS (ns.length-(cs.length+1))).map λst=>hor s p (ts.map λt=>t.worth ns (cs++[(i:Int)]++st) p)).sum % p)]))=_;rw[e2];rfl
     . rw[aB hc];exact S5 _ _ (S4 c o hc e)
 . rintro σ H4 ⟨x7,x8,rfl,hL4,S4⟩;erw[0,q L H4 L0 (S02.but L0 S4) hL4]
def neS{a b:Str}(h:¬ a=b):¬ V.str a=V.str b:=λz=>h (V.str.inj z)
open Classical in
def Jl(p a:Int):Int:=if h:∃g:Int,0<g/\g<p/\g*a % p=1 then h.choose else 0
def EN{p a g k:Int}(g0:0<g)(g1:g<p)(hg:g*a % p=1)(k0:0<k)(k1:k<p)(hk:k*a % p=1):g=k:=by
 let e1:g*(k*a) % p=g:=by
  rw[qO1,hk,wG1,jV0,qU0 #[0] g1]
 let e2:k*(g*a) % p=k:=by
  rw[qO1,hg,wG1,jV0,qU0 #[0] k1]
 let e3:g*(k*a) % p=k*(g*a) % p:=by rw[Int.mul_left_comm]
 exact e1.symm.trans (e3.trans e2)
def Hn{p a g:Int}(g0:0<g)(g1:g<p)(hg:g*a % p=1):Jl p a=g:=by
 let h:∃g:Int,0<g/\g<p/\g*a % p=1:=%[g,g0,g1|hg]
 unfold Jl;rw[dif_pos h];erw[k0,k1,hk]at h.choose_spec;exact EN k0 k1 hk g0 g1 hg
def yW(p x y:Int):Int:=if y=0 then 0 else x*Jl p y % p
def opV(p:Int)(s:Str)(x y:Int):Int:=
 if s="+" then(x+y) % p else if s="-" then(x-y) % p else if s="*" then x*y % p else if s="/" then yW p x y else if s="=" then(if x=y then 1 else 0)else if x<y then 1 else 0
def Ff{p:Int}(hp:0<p):0<=yW p x y/\yW p x y<p:=by
 unfold yW
 split
 . omega
 . erw[qE0 _ #[0],qG0 _ hp]
def GE{p:Int}(hp:1<p):0<=opV p s x y/\opV p s x y<p:=by
 let m:∀z:Int,0<=z % p/\z % p<p:=λz=>%[qE0 _ #[0]|qG0 _ #[0]]
 unfold opV
 split
 . exact m _
 . split
   . exact m _
   . split
     . exact m _
     . split
       . exact Ff #[0]
       . split <;> split <;> omega
instance spDiv:∀(x y p:Int),vs=[.int x,.int y,.int p]->Pr p->p<=999983->0<=x->x<p->0<=y->y<p->Q (.int (yW p x y)) H:=1
def xR:FnScope Wp Wp (ah oF):=%[|5]
def yu   (F:Fun K "divided" "divided" oF f fd) (fg:#[1,"inverse_of",["a","p"],spInv]):#[2,f,fd,Wp,spDiv]:=by
 exists xR
 erw[x,y,p,1,pp,p9,x0,x1,y0,y1,q]at h;refine⟨_,(aa (aI (ag aR (pv 1) ae (ax _)) (ad (am ae)) az)
  (ad (am (aq ba (aq ci (pv 0) (aj fg hr ⋯ rfl %[1,2|aP])) (pv 2))))),?_⟩
 unfold yW at q;erw[0,1,0,6]
 by_cases c:y=0
 . rw[NQ c]at q;exact aV (congrArg V.int c) q
 . rw[NP c]at q;refine aD (λz=>c (V.int.inj z)) ?_;erw[0,0,0,y,p,1,pp,p9,3,y1,λg g0 g1 hg=>?_];rw[Hn g0 g1 hg]at q;erw[2,.inl %[3|3],0,2,(by show 0<p;omega),q]
def signW:List Str:=["+","-","*","/","=","<"]
instance spOp:∀(s:Str)(x y p:Int),vs=[.str s,.int x,.int y,.int p]->s∈signW->Pr p->p<=999983->0<=x->x<p->0<=y->y<p->Q (.int (opV p s x y)) H:=1
def vT:FnScope We We (ah lI):=%[|5]
def opV_1 :opV p "+" x y=(x+y) % p:=NQ rfl
def opV_2 :opV p "-" x y=(x-y) % p:=by unfold opV;rw[NP ⋯,NQ rfl]
def opV_3 :opV p "*" x y=x*y % p:=by unfold opV;rw[NP ⋯,NP ⋯,NQ rfl]
def opV_4 :opV p "/" x y=yW p x y:=by unfold opV;rw[NP ⋯,NP ⋯,NP ⋯,NQ rfl]
def opV_5 :opV p "=" x y=if x=y then 1 else 0:=by unfold opV;rw[NP ⋯,NP ⋯,NP ⋯,NP ⋯,NQ rfl]
def opV_6 :opV p "<" x y=if x<y then 1 else 0:=by unfold opV;rw[NP ⋯,NP ⋯,NP ⋯,NP ⋯,NP ⋯]
def wn   (F:Fun K "op_value" "op_value" lI f fd) (r8:#[2,"divided",Wp,spDiv]):#[3,f,fd,We,spOp]:=by
 exists vT
 erw[s,x,y,p,1,hs,pp,p9,x0,x1,y0,y1,q]at h;let p0:0<p:=by omega
 refine⟨_,(aa (aI (ag aR (pv 0) ao (ax _)) (ad (am (aq ba (aq aS (pv 1) (pv 2)) (pv 3)))) az)
  (aa (aI (ag aR (pv 0) ao (ax _)) (ad (am (aq ba (aq bh (pv 1) (pv 2)) (pv 3)))) az)
  (aa (aI (ag aR (pv 0) ao (ax _)) (ad (am (aq ba (aq ci (pv 1) (pv 2)) (pv 3)))) az)
  (aa (aI (ag aR (pv 0) ao (ax _)) (ad (am (aj r8 hr ⋯ rfl %[1,2,3|aP]))) az)
  (aa (aI (ag aR (pv 0) ao (ax _)) (ad (am (we (ag aR (pv 1) (pv 2) (ax _)) ae ae))) az)
  (ad (am (we (ag dN (pv 1) (pv 2) (ax _)) ae ae)))))))),?_⟩
 let hs':s="+"∨s="-"∨s="*"∨s="/"∨s="="∨s="<":=by simpa [signW]using hs
 rcases hs' with rfl | rfl | rfl | rfl | rfl | rfl
 . rw[opV_1]at q;erw[0,1,0,aV rfl ?_];erw[0,0,2,0,2,p0,q]
 . rw[opV_2]at q;erw[0,1,0,7];erw[0,1,0,aV rfl ?_];erw[0,0,2,0,2,p0,q]
 . rw[opV_3]at q;erw[0,1,0,7];erw[0,1,0,7];erw[0,1,0,aV rfl ?_];erw[0,0,2,.inl %[3|3],0,2,p0,q]
 . rw[opV_4]at q;erw[0,1,0,7];erw[0,1,0,7];erw[0,1,0,7];erw[0,1,0,aV rfl ?_];erw[0,0,0,x,y,p,1,pp,p9,x0,x1,y0,y1,q]
 . rw [opV_5]at q;erw[0,1,0,7];erw[0,1,0,7];erw[0,1,0,7];erw[0,1,0,7];erw[0,1,0,aV rfl ?_];erw[0,0,1,0,6]
   by_cases c:x=y
   . rw[NQ c]at q;exact aV (congrArg V.int c) q
   . rw[NP c]at q;exact aD (λz=>c (V.int.inj z)) q
 . rw [opV_6]at q;erw[0,1,0,7];erw[0,1,0,7];erw[0,1,0,7];erw[0,1,0,7];erw[0,1,0,7];erw[0,0,2,0,6]
   by_cases c:x<y
   . rw[NQ c]at q;exact aV c q
   . rw[NP c]at q;exact aD c q
def gl{t':TS}(h:PSs X ss t)(hw:∀D σ H,t' D σ H->t D σ H):PSs X ss t':=λNO s σ H D I k=>h NO s σ H D I (hw _ _ _ k)
inductive Tm where
 | num (n:Int) | box (x:Str) | plain (w:Str) | ask (w:Str) (a:Tm) | op (s:Str) (a b:Tm)
def Tm.size:Tm->Nat
 | .num _=>1 | .box _=>1 | .plain _=>1 | .ask _ a=>a.size+1 | .op _ a b=>a.size+b.size+1
def Tm.depth:Tm->Nat
 | .num _=>1 | .box _=>1 | .plain _=>1 | .ask _ a=>a.depth+1 | .op _ a b=>max a.depth b.depth+1
def Tm.depth_pos:∀t:Tm,1<=t.depth
 | .num _=>zG0 _ | .box _=>zG0 _ | .plain _=>zG0 _ | .ask _ a=>jK1 .. | .op _ a b=>jK1 ..
def Tm.size_pos:∀t:Tm,1<=t.size
 | .num _=>zG0 _ | .box _=>zG0 _ | .plain _=>zG0 _ | .ask _ a=>jK1 .. | .op _ a b=>jK1 ..
def plainW:List Str:=["round","due","asked"]
def askW:List Str:=["coin","true"]
inductive TmAt(H:Hp):V->Tm->Prop
 | num {a:Addr} {n:Int}:H a=some (.tup [.str "num",.int n])->TmAt H (.ref a) (.num n)
 | box {a:Addr} {x:Str}:H a=some (.tup [.str "box",.str x])->TmAt H (.ref a) (.box x)
 | plain {a:Addr} {w:Str}:H a=some (.tup [.str w])->TmAt H (.ref a) (.plain w)
 | ask {a:Addr} {w:Str} {v:V} {t:Tm}:H a=some (.tup [.str w,v])->TmAt H v t->TmAt H (.ref a) (.ask w t)
 | op {a:Addr} {s:Str} {v u:V} {t r:Tm}:H a=some (.tup [.str "op",.str s,v,u])->TmAt H v t->TmAt H u r->TmAt H (.ref a) (.op s t r)
def TmAt.mono(k:bL H H')(h:TmAt H v t):TmAt H' v t:=by
 induction h with
 | num e=>exact .num (k _ _ e)
 | box e=>exact .box (k _ _ e)
 | plain e=>exact .plain (k _ _ e)
 | ask e _ ih=>exact .ask (k _ _ e) ih
 | op e _ _ i1 i2=>exact .op (k _ _ e) i1 i2
inductive Hr where
 | fin | go (n:Int) | iff (t:Tm) (n:Int) | set (x:Str) (t:Tm) | say (t:Tm)
inductive HrAt(H:Hp):V->Hr->Prop
 | fin {a:Addr}:H a=some (.tup [.str "end"])->HrAt H (.ref a) .fin
 | go {a:Addr} {n:Int}:H a=some (.tup [.str "go",.int n])->HrAt H (.ref a) (.go n)
 | iff {a:Addr} {v:V} {t:Tm} {n:Int}:H a=some (.tup [.str "if",v,.int n])->TmAt H v t->HrAt H (.ref a) (.iff t n)
 | set {a:Addr} {x:Str} {v:V} {t:Tm}:H a=some (.tup [.str "set",.str x,v])->TmAt H v t->HrAt H (.ref a) (.set x t)
 | say {a:Addr} {v:V} {t:Tm}:H a=some (.tup [.str "say",v])->TmAt H v t->HrAt H (.ref a) (.say t)
def HrAt.mono(k:bL H H')(h:HrAt H v r):HrAt H' v r:=by
 cases h with
 | fin e=>exact .fin (k _ _ e)
 | go e=>exact .go (k _ _ e)
 | iff e t=>exact .iff (k _ _ e) (t.mono k)
 | set e t=>exact .set (k _ _ e) (t.mono k)
 | say e t=>exact .say (k _ _ e) (t.mono k)
section
variable {CM CA CG:Addr}
abbrev uM:Stmt:=bq km 0
abbrev qV:Stmt:=bq km 1
abbrev uN:Stmt:=bq km 2
abbrev oH:Stmt:=bq km 3
abbrev uL:Stmt:=bq km 4
abbrev uD:Stmt:=bq kR 0
abbrev xU:Stmt:=bq kR 1
abbrev xV:Stmt:=bq kR 2
def al (g:Addr) (nr mn hd s:Int) (aT:Addr) (tr:V):List (Str×V):=[("game",.ref g),("number",.int nr),("many",.int mn),("held",.int hd),("s",.int s),("tossed",.ref aT),("truths",tr)]
def vK    :(al g nr mn hd s aT tr).lookup ("game":Str)=some (.ref g):=by rfl'
structure ATxt(K:W.Frag)(mg:Str->Option Value)(C:Addr):Prop where
 cl:Cls K C
 nG:NoAttr K C "game"
 nN:NoAttr K C "number"
 nM:NoAttr K C "many"
 nH:NoAttr K C "held"
 nS:NoAttr K C "s"
 nT:NoAttr K C "tossed"
 nR:NoAttr K C "truths"
 mgC:mg "Asking"=some (.ref C)
def ml (g h:Addr) (r:Int) (b:Addr):List (Str×V):=[("game",.ref g),("helper",.ref h),("next_round",.int r),("boxes",.ref b)]
section
variable {g h b:Addr} {r:Int}
def ml_g:(ml g h r b).lookup ("game":Str)=some (.ref g):=by rfl'
def Hd:(ml g h r b).lookup ("helper":Str)=some (.ref h):=by rfl'
def Jd:(ml g h r b).lookup ("next_round":Str)=some (.int r):=by rfl'
def Ew:(ml g h r b).lookup ("boxes":Str)=some (.ref b):=by rfl'
def ml_n1:(ml g h r b).lookup ("do_row":Str)=none:=by rfl'
def Ie:(ml g h r b).lookup ("say":Str)=none:=by rfl'
def yD:(ml g h r b).length<1000:=by show 4<1000;decide
def Ev {v:Int}:cD "next_round" (.int v) (ml g h r b)=ml g h v b:=by rfl'
end
structure MTxt(K:W.Frag)(mg:Str->Option Value)(C:Addr):Prop where
 cl:Cls K C
 nG:NoAttr K C "game"
 nH:NoAttr K C "helper"
 nR:NoAttr K C "next_round"
 nB:NoAttr K C "boxes"
 mgC:mg "Machine"=some (.ref C)
def BxAt(H:Hp)(b:Addr)(bx:Str->Int)(m:Nat):Prop:=∃NS:List (Key×V),H b=some (.dK NS)/\NS.length<=m/\∀x:Str,(hV NS (.inr x)).getD (.int 0)=.int (bx x)
def jO(bx:Str->Int)(x:Str)(n:Int):Str->Int:=λy=>if y=x then n else bx y
def BxAt.keep{H':Hp}(h:BxAt H b bx m)(k:∀o,H b=some o->H' b=some o):BxAt H' b bx m:=by
 erw[NS,e,r]at h;erw[NS,k _ e,r]
def JN{NS:List (Key×V)}{bx:Str->Int}(x:Str)(n:Int)(h:∀x:Str,(hV NS (.inr x)).getD (.int 0)=.int (bx x)):∀y:Str,(hV (mz NS (.inr x) (.int n)) (.inr y)).getD (.int 0)=.int (jO bx x n y):=λy=>by
 rw[Ct];unfold jO
 by_cases c:y=x
 . rw[NQ (by rw[c]),NQ c];rfl
 . rw[NP (λz=>c (Sum.inr.inj z)),NP c];exact h y
section
variable {g aT:Addr} {nr mn hd s:Int} {tr:V}
def JQ:(al g nr mn hd s aT tr).lookup ("number":Str)=some (.int nr):=by rfl'
def al_m:(al g nr mn hd s aT tr).lookup ("many":Str)=some (.int mn):=by rfl'
def al_h:(al g nr mn hd s aT tr).lookup ("held":Str)=some (.int hd):=by rfl'
def al_s:(al g nr mn hd s aT tr).lookup ("s":Str)=some (.int s):=by rfl'
def al_t:(al g nr mn hd s aT tr).lookup ("tossed":Str)=some (.ref aT):=by rfl'
def HK:(al g nr mn hd s aT tr).lookup ("truths":Str)=some tr:=by rfl'
def al_n1:(al g nr mn hd s aT tr).lookup ("plain_value":Str)=none:=by rfl'
def al_n2:(al g nr mn hd s aT tr).lookup ("coin_at":Str)=none:=by rfl'
def al_n3:(al g nr mn hd s aT tr).lookup ("true_numbers":Str)=none:=by rfl'
def al_n4:(al g nr mn hd s aT tr).lookup ("true_at":Str)=none:=by rfl'
def Ft :cD "truths" v (al g nr mn hd s aT tr)=al g nr mn hd s aT v:=by rfl'
def Fu:(al g nr mn hd s aT tr).length<1000:=by show 7<1000;decide
end
structure Ak where
 ns:List Str
 ts:List Tr
 p:Int
 nr:Int
 mn:Int
 hd:Int
 s:Int
 to:List Int
def Ak.tru (z:Ak):List Int:=if z.nr=0 then z.ts.map (λt=>(cnt t z.ns:Int))else eI z.ns z.ts z.s z.p z.to (bm z.ts (z.ns.getD z.to.length "")+1).toNat
structure AkOk(z:Ak):Prop where
 gk:GmK z.ns z.ts z.p
 n6:z.ns.length<=6
 nr0:0<=z.nr
 nrt:0<z.nr->z.to.length<z.ns.length
 po:cw z.to z.p
 s0:0<=z.s
 s1:z.s<z.p
 h0:0<=z.hd
 h1:z.hd<z.p
 tl:z.to.length<=100
def AkAt(CA CG:Addr)(H:Hp)(k g v:Addr)(z:Ak):Prop:=∃(dk aT a b d:Addr)(tv:List V)(tr:V),H k=some (.ins CA dk (al g z.nr z.mn z.hd z.s aT tr))/\GameAt CG H g a b d z.p/\H a=some (.tup (z.ns.map V.str))/\H b=some (.tup tv)/\TreesAt H tv z.ts/\H d=some (.lst ((z.ns.map (bm z.ts)).map V.int))/\d≠v/\H aT=some (.tup (z.to.map V.int))/\(tr=.non∨∃l,tr=.ref l/\l≠v/\H l=some (.lst (z.tru.map V.int)))
def AkAt.same(h:AkAt CA CG H k g v z)(s:Same H H'):AkAt CA CG H' k g v z:=by
 erw[dk,aT,a,b,d,tv,tr,h1,h2,h3,h4,h5,h6,h7,h8,h9]at h;erw[dk,aT,a,b,d,tv,tr,s _ _ h1,h2.same s,s _ _ h3,s _ _ h4,h5.mono (aY s),s _ _ h6,h7,s _ _ h8,h9.imp_right fun⟨l,e,n,r⟩=>%[l,e,n|s _ _ r]]
def AkAt.but2{H':Hp}{b:Addr}{NS:List (Key×V)}{ys:List V}(h:AkAt CA CG H k g v z)(hb:H b=some (.dK NS))(hv:H v=some (.lst ys))(s:∀a o,a≠b->a≠v->H a=some o->H' a=some o):AkAt CA CG H' k g v z:=by
 erw[dk,aT,a,b',d,tv,tr,h1,%[dg|h2],h3,h4,h5,h6,h7,h8,h9]at h;let T:bL H H':=λc xs e=>s _ _ (bp e hb nofun) (bp e hv nofun) e
 erw[dk,aT,a,b',d,tv,tr,s _ _ (bp h1 hb nofun) (bp h1 hv nofun) h1,%[dg|s _ _ (bp h2 hb nofun) (bp h2 hv nofun) h2],T _ _ h3,T _ _ h4,h5.mono T,s _ _ (bp h6 hb nofun) h7 h6,h7,T _ _ h8,h9.imp_right fun⟨l,e,n,r⟩=>%[l,e,n|s _ _ (bp r hb nofun) n r]]
def lx(z:Ak):List Int:=if 1<z.ts.length then z.s::z.to else z.to
def kG(z:Ak)(i:Int):Int:=if 1<=i/\i<=((lx z).length:Int)then(lx z).getD (i-1).toNat 0 else 0
def gu(z:Ak)(i:Int):Int:=if 0<z.nr then val z.p z.tru i else if i<(z.tru.length:Int)then z.tru.getD i.toNat 0 % z.p else 0
def oJ (z:Ak) (w:Str):Int:=if w="round" then z.nr % z.p else if w="asked" then z.mn % z.p else z.hd
def AkOk.p0(k:AkOk z):2<z.p:=k.gk.p2
def nK(h:cw xs p)(p0:0<p)(i:Nat):0<=xs.getD i 0/\xs.getD i 0<p:=by
 rw[qM0];cases e:xs[i]? with
 | none=>erw[zX1 0,p0]
 | some x=>exact h x (qL0 e)
def Fm(k:AkOk z):cw (lx z) z.p:=by
 unfold lx
 split
 . intro x hx;rcases zW0 hx with rfl | hx
   . erw[k.s0,k.s1]
   . exact k.po x hx
 . exact k.po
def Ce(k:AkOk z)(i:Int):0<=kG z i/\kG z i<z.p:=by
 have:=k.p0
 unfold kG
 split
 . exact nK (Fm k) #[0] _
 . omega
def AB(k:AkOk z)(i:Int):0<=gu z i/\gu z i<z.p:=by
 have:=k.p0
 unfold gu
 split
 . erw[qE0 _ #[0],qG0 _ #[0]]
 . split
   . erw[qE0 _ #[0],qG0 _ #[0]]
   . omega
def yc(k:AkOk z)(w:Str):0<=oJ z w/\oJ z w<z.p:=by
 have:=k.p0
 unfold oJ
 split
 . erw[qE0 _ #[0],qG0 _ #[0]]
 . split
   . erw[qE0 _ #[0],qG0 _ #[0]]
   . erw[k.h0,k.h1]
instance spPlain(CA CG:Addr):∀(k g v:Addr)(z:Ak)(w:Str),vs=[.ref k,.str w]->AkAt CA CG H k g v z->0<z.p->Q (.int (oJ z w)) H:=1
def AW:FnScope Wf Wf (ah qV):=%[|5]
def Br   (F:Fun K "plain_value" "Asking.plain_value" qV f fd) (TA:ATxt K mg CA) (TG:GTxt K mg CG):#[1,f,fd,Wf,spPlain CA CG]:=by
 exists AW
 erw[k,g,v,z,w,1,%[dk,aT,a,b,d,tv,tr,hk,%[dg|hg]|_],p0,q]at h;refine⟨_,(aa (aI (ag aR (pv 1) ao (ax _)) (ad (am (aq ba (ay (pv 0) rfl) (ay (ay (pv 0) rfl) rfl)))) az)
  (aa (aI (ag aR (pv 1) ao (ax _)) (ad (am (aq ba (ay (pv 0) rfl) (ay (ay (pv 0) rfl) rfl)))) az)
  (ad (am (ay (pv 0) rfl))))),?_⟩
 unfold oJ at q;erw[0,1,0,6]
 by_cases c:w="round"
 . rw[NQ c]at q;refine aV (congrArg V.str c) ?_;erw[0,k,CA,dk,_,0,hk,TA.cl,TA.nN,JQ,0,k,CA,dk,_,0,hk,TA.cl,TA.nG,vK,g,CG,dg,_,0,hg,TG.cl,TG.nF,eU ..,2,p0,q]
 . rw [NP c]at q;refine aD (neS c) ?_;erw[0,1,0,6]
   by_cases c:w="asked"
   . rw[NQ c]at q;refine aV (congrArg V.str c) ?_;erw[0,k,CA,dk,_,0,hk,TA.cl,TA.nM,al_m,0,k,CA,dk,_,0,hk,TA.cl,TA.nG,vK,g,CG,dg,_,0,hg,TG.cl,TG.nF,eU ..,2,p0,q]
   . rw[NP c]at q;refine aD (neS c) ?_;erw[0,k,CA,dk,_,0,hk,TA.cl,TA.nH,al_h,q]
instance spCoinAt(CA CG:Addr):∀(k g v:Addr)(z:Ak)(i:Int),vs=[.ref k,.int i]->AkAt CA CG H k g v z->z.to.length<=100->(∀H',Same H H'->Q (.int (kG z i)) H'):=1
def C2:FnScope ["self","place","tossed"] WN (ah uN):=%[|5]
instance tCoinE(z:Ak)(Dn:Ends)(σ:St)(H:Hp):∀(x0:Option V)(a:Addr)(i:Int),σ=[x0,some (.int i),some (.ref a)]->H a=some (.tup ((lx z).map V.int))->Dn.rt (.int (kG z i)) H:=0
def Ef   (F:Fun K "coin_at" "Asking.coin_at" uN f fd) (B:Bl mg) (TA:ATxt K mg CA) (TG:GTxt K mg CG):#[1,f,fd,WN,spCoinAt CA CG]:=by
 exists C2
 erw[k,g,v,z,i,1,%[dk,aT,a,b,d,tv,tr,hk,%[dg|hg],ha,hb,TS,_,_,hT|_],tl,q]at h;let vl:=TS.length;refine⟨_,(aa #[ai,2,C2,ay (pv 0) rfl]
  (aa (aI (ag gQ (aG aE rfl B.len zC1 %[ay (ay (pv 0) rfl) rfl|aP]) ae (ax _)) (ad #[ai,2,C2,aq op_catT (aF %[ay (pv 0) rfl|aP]) (pv 2)]) az)
  (gl (t':=tCoinE z) (aa (aI (DB rF rF ae (pv 1) (aG aE rfl B.len zC1 %[2|aP])) (ad (am (aM ix_tup (pv 2) (aq bh (pv 1) ae) #[1]))) az)
  (ad (am ae))) (by
   rintro Dn σ H ⟨x0,a,i,rfl,ha,q⟩;unfold kG at q;erw[0,2,0,6];let el:(((lx z).map V.int).length:Int)=((lx z).length:Int):=by rw[zF0]
   by_cases c1:1<=i
   . refine aV c1 ?_;erw[0,a,0,.inr (zD0 ha),2,0,6]
     by_cases c2:i<=((lx z).length:Int)
     . rw [NQ %[c1|c2]]at q;refine aV (by rw[el];exact c2) ?_;obtain⟨j,ej⟩:∃j:Nat,i-1=(j:Int):=⟨(i-1).toNat,by omega⟩
       rw[ej,qS0]at q;erw[0,0,2,a,_,2,zD0 ha,6,q];rw[ej];exact nq #[0]
     . rw[NP (λz=>c2 z.2)]at q;exact aD (by rw[el];exact c2) q
   . rw[NP (λz=>c1 z.1)]at q;exact aD c1 %[0|dI q])))),?_⟩
 erw[0,k,CA,dk,_,0,hk,TA.cl,TA.nT,al_t,6];erw[0,k,CA,dk,_,0,hk,TA.cl,TA.nG,vK,g,CG,dg,_,0,hg,TG.cl,TG.nT,lu ..,b,0,.inr (zD0 hb),2,0,6]
 by_cases c:1<z.ts.length
 . refine aV (by rw[vl];omega) ?_;let ec:lx z=z.s::z.to:=NQ c;erw[0,k,CA,dk,_,0,hk,TA.cl,TA.nS,al_s,y1S,λt ht=>?_];let I:=zC0 ht (.tup [.int z.s]);let g1:upd H t (.tup [.int z.s]) t=some (.tup [.int z.s]):=aJ;generalize upd H t (.tup [.int z.s])=H1 at I g1;erw[0,t,aT,2,zD0 g1,zD0 (I _ _ hT),(λz=>nomatch z),cq (by show 1+(z.to.map V.int).length<=1000;rw[zF0];omega),λe=>?_,λ_ y hy=>?_]
   . erw[_,t,i,1,6,q _ I];rw[ec,g1,zX0,e]
   . erw[_,y,i,1,6,q _ (I.trans (zC0 hy _))];rw[aJ,ec];rfl
 . refine aD (by rw[vl];omega) ?_;let ec:lx z=z.to:=NP c;erw[_,aT,i,1,by rw[ec];exact hT,q _ λ_ _ e=>e]
end
section
variable {CM CA CG:Addr}
def vY(ns:List Str)(ts:List Tr)(s p:Int)(cs:List Int)(n:Nat):(eI ns ts s p cs n).length=n:=by
 unfold eI;rw[zF0,qR0]
def Ds{p:Int}(hp:0<p):cw (eI ns ts s p cs n) p:=λx hx=>by
 unfold eI at hx;let%[k,_|1]:=List.mem_map.mp hx;erw[qE0 _ #[0],qG0 _ hp]
def AkOk.deg  (k:AkOk z) (h:0<z.nr):∃x,z.ns[z.to.length]?=some x/\z.ns.getD z.to.length ""=x/\0<=bm z.ts x/\bm z.ts x<z.p/\bm z.ts x<=400:=by
 let hl:=k.nrt h;erw[z.ns[z.to.length],zM0 hl,by rw[qM0,zM0 hl];rfl,6];let hm:=qP0 hl;let%[d0|d1]:=k.gk.deg _ hm;erw[d0,d1,6];let t0:z.ts≠[]:=λe=>by have:=k.gk.t1;rw[e]at this;cases this
 have:=nQ (p:=401) (x:=z.ns[z.to.length]) t0 λt ht=>by
  let h1:=(k.gk.tok t ht).2.2.2;let h2:=t.names_len;let h3:=jO0 (a:=z.ns[z.to.length]) (l:=t.names);omega
 omega
def AkOk.row(k:AkOk z)(h:0<z.nr):lA z.tru z.p:=by
 let%[x,hx,ex,d0,d1|d4]:=k.deg h;let p2:=k.p0;let p9:=k.gk.p9;let e:z.tru=eI z.ns z.ts z.s z.p z.to (bm z.ts x+1).toNat:=by
  unfold Ak.tru;rw[NP #[0],ex]
 rw[e];unfold lA;rw[vY];erw[3,3,3,λj=>?_]
 have:=nK (Ds (ns:=z.ns) (ts:=z.ts) (s:=z.s) (cs:=z.to) (n:=(bm z.ts x+1).toNat) (show 0<z.p by omega)) #[0] j
 omega
instance spTruths(CA CG:Addr):∀(k g v:Addr)(z:Ak)(ys:List V),vs=[.ref k]->AkAt CA CG H k g v z->AkOk z->H v=some (.lst ys)->(∀(l:Addr)(H':Hp),H' l=some (.lst (z.tru.map V.int))->AkAt CA CG H' k g v z->SameBut k H H'->Q (.ref l) H'):=1
def xT:FnScope WA WA (ah oH):=%[|5]
def yw   (F:Fun K "true_numbers" "Asking.true_numbers" oH f fd) (TA:ATxt K mg CA) (fK:#[16,"counts_of",WC,spCounts CG]) (m7:#[14,"true_row",["game","s","coins"],spTrue CG]):#[17,f,fd,WA,spTruths CA CG]:=by
 exists xT
 erw[k,g,v,z,ys,1,AK,ok,hv,q]at h;refine⟨_,(aa (aI (ag yj (ay (pv 0) rfl) ky (ax _)) (ad (aI (ag aR (ay (pv 0) rfl) ae (ax _)) (ad (aO (pv 0) (aj fK hr ⋯ rfl %[ay (pv 0) rfl|aP]) rfl)) (ad (aO (pv 0) (aj m7 hr ⋯ rfl %[ay (pv 0) rfl,ay (pv 0) rfl,ay (pv 0) rfl|aP]) rfl)))) az)
  (ad (am (ay (pv 0) rfl)))),?_⟩
 let AK':=AK;erw[dk,aT,a,b,d,tv,tr,hk,GA,ha,hb,TS,hd,dv,hT,ht]at AK';let t0:z.ts≠[]:=λe=>by have:=ok.gk.t1;rw[e]at this;cases this
 let t10:=ok.gk.t10;let p2:=ok.p0;let p9:=ok.gk.p9;erw[0,k,CA,dk,_,0,hk,TA.cl,TA.nR,HK,6];rcases ht with rfl | ⟨l,rfl,lv,hl⟩
 . -- not yet asked
   let put:∀(l:Addr)(H1:Hp),H l=none->Same H H1->H1 l=some (.lst (z.tru.map V.int))->AkAt CA CG (upd H1 k (.ins CA dk (al g z.nr z.mn z.hd z.s aT (.ref l)))) k g v z/\(upd H1 k (.ins CA dk (al g z.nr z.mn z.hd z.s aT (.ref l)))) l=some (.lst (z.tru.map V.int))/\SameBut k H (upd H1 k (.ins CA dk (al g z.nr z.mn z.hd z.s aT (.ref l)))):=by
    intro l H1 l0 S1 hl;let lk:l≠k:=(aQ hk l0).symm;let U:∀{c:Addr}{o:HO},c≠k->H1 c=some o->(upd H1 k (.ins CA dk (al g z.nr z.mn z.hd z.s aT (.ref l)))) c=some o:=λn e=>by rw[aB n];exact e
    let gk:g≠k:=λe=>by
     erw[dg,hg]at GA;rw[e,hk]at hg;cases hg
    let kT:bL H (upd H1 k (.ins CA dk (al g z.nr z.mn z.hd z.s aT (.ref l)))):=λc xs e=>U (bp e hk nofun) (S1 _ _ e)
    erw[dg,hg]at GA;erw[%[dk,aT,a,b,d,tv,.ref l,aJ,%[dg|U gk (S1 _ _ hg)],kT _ _ ha,kT _ _ hb,TS.mono kT,U (bp hd hk nofun) (S1 _ _ hd),dv,kT _ _ hT|.inr %[l,1,(aQ hv l0).symm|U lk hl]],U lk hl,(zJ0 S1).trans (SameBut.upd _)]
   erw[1,0,eF ?_];erw[0,k,CA,dk,_,0,hk,TA.cl,TA.nN,JQ,1,0,6]
   by_cases c:z.nr=0
   . refine aV (congrArg V.int c) ?_;erw[0,k,CA,dk,_,0,hk,TA.cl,TA.nG,vK,g,a,b,d,z.ns,tv,z.ts,z.p,1,GA,ha,ok.n6,hb,TS,t10,λt ht=>%[(ok.gk.tok t ht).1|by have:=(ok.gk.tok t ht).2.2.1;omega],λl H1 l0 S1 hl=>?_];let et:z.tru=z.ts.map (λt=>(cnt t z.ns:Int)):=NQ c;rw[←et]at hl;let%[A1,L1|B1]:=put l H1 l0 S1 hl;erw[0,k,CA,dk,0,S1 _ _ hk,TA.cl,TA.nR,Fu,6];rw[Ft];erw[0,k,CA,dk,_,0,aJ,TA.cl,TA.nR,HK,q l _ L1 A1 B1]
   . refine aD (λe=>c (V.int.inj e)) ?_;let n0:=ok.nr0;let%[x,hx,ex,d0,d1|d4]:=ok.deg #[0];erw[0,k,CA,dk,_,0,hk,TA.cl,TA.nG,vK,0,k,CA,dk,_,0,hk,TA.cl,TA.nS,al_s,0,k,CA,dk,_,0,hk,TA.cl,TA.nT,al_t,g,a,b,d,aT,z.ns,tv,z.ts,z.to,x,z.s,z.p,1,GA,ha,ok.n6,hb,TS,t0,t10,λt ht=>%[(ok.gk.tok t ht).1|(ok.gk.tok t ht).2.2.1],hd,hT,hx,d1,3,ok.po,3,3,λl H1 l0 S1 hl=>?_];let et:z.tru=eI z.ns z.ts z.s z.p z.to (bm z.ts x+1).toNat:=by
      unfold Ak.tru;rw[NP c,ex]
     rw[←et]at hl;let%[A1,L1|B1]:=put l H1 l0 S1 hl;erw[0,k,CA,dk,0,S1 _ _ hk,TA.cl,TA.nR,Fu,6];rw[Ft];erw[0,k,CA,dk,_,0,aJ,TA.cl,TA.nR,HK,q l _ L1 A1 B1]
 . erw[1,0,dI ?_];erw[0,k,CA,dk,_,0,hk,TA.cl,TA.nR,HK,q l H hl AK (SameBut.refl _ _)]
instance spTrueAt(CA CG:Addr):∀(k g v:Addr)(z:Ak)(ys:List V)(i:Int),vs=[.ref k,.int i]->AkAt CA CG H k g v z->AkOk z->H v=some (.lst ys)->0<=i->i<z.p->(∀H',AkAt CA CG H' k g v z->SameBut k H H'->Q (.int (gu z i)) H'):=1
def Kn:FnScope ["self","place","truths"] WN (ah uL):=%[|5]
def Ed   (F:Fun K "true_at" "Asking.true_at" uL f fd) (B:Bl mg) (TA:ATxt K mg CA) (TG:GTxt K mg CG) (mT:Meth K CA "true_numbers" fT) (GT:#[17,fT,fdT,WA,spTruths CA CG]) (bT:Binds K fdT WA []) (cI:#[4,"value_at",WL,spVal]):#[18,f,fd,WN,spTrueAt CA CG]:=by
 exists Kn
 erw[k,g,v,z,ys,i,1,AK,ok,hv,i0,i1,q]at h;refine⟨_,(aa #[ai,2,Kn,bK (pv 0) TA.cl mT GT hr bT .nil aZ]
  (aa (aI (ag gQ (ay (pv 0) rfl) ae (ax _)) (ad (am (aj cI hr ⋯ rfl %[2,1,ay (ay (pv 0) rfl) rfl|aP]))) az)
  (aa (aI (ag dN (pv 1) (aG aE rfl B.len zC1 %[2|aP]) (ax _)) (ad (am (aq ba (aM ix_list (pv 2) (pv 1) #[1]) (ay (ay (pv 0) rfl) rfl)))) az)
  (ad (am ae))))),?_⟩
 let p2:=ok.p0;let p9:=ok.gk.p9;let%[dk,aT,_,_,_,_,tr,hk|_]:=id AK;erw[0,k,dk,0,hk,al_n3,k,g,v,z,ys,1,AK,ok,hv,λl H1 hl A1 S1=>?_];let A1':=A1;erw[dk1,aT1,a1,b1,d1,tv1,tr1,hk1,%[dg1|hg1],_]at A1';unfold gu at q;erw[0,k,CA,dk1,_,0,hk1,TA.cl,TA.nN,JQ,2,0,6]
 by_cases c:0<z.nr
 . rw[NQ c]at q;refine aV c ?_;erw[0,0,0,k,CA,dk1,_,0,hk1,TA.cl,TA.nG,vK,g,CG,dg1,_,0,hg1,TG.cl,TG.nF,eU ..,l,z.tru,i,z.p,1,.inl hl,ok.row c,ok.gk.pr,p9,i0,i1,λH2 S2=>q H2 (A1.same S2) (S1.trans (zJ0 S2))]
 . rw [NP c]at q;refine aD c ?_;erw[0,0,l,0,.inl (zH0 hl),2,0,6];let el:((z.tru.map V.int).length:Int)=(z.tru.length:Int):=by rw[zF0]
   by_cases c2:i<(z.tru.length:Int)
   . rw[NQ c2]at q;refine aV (by rw[el];exact c2) ?_;let%[j|1]:=zU1 i0;rw[qS0]at q;erw[0,0,l,_,2,zH0 hl,nq #[0],0,k,CA,dk1,_,0,hk1,TA.cl,TA.nG,vK,g,CG,dg1,_,0,hg1,TG.cl,TG.nF,eU ..,2,(by show 0<z.p;omega),q H1 A1 S1]
   . rw[NP c2]at q;refine aD (by rw[el];exact c2) ?_;exact q H1 A1 S1
def Tm.worth(z:Ak)(bx:Str->Int):Tm->Int
 | .num n=>n % z.p | .box x=>bx x | .plain w=>oJ z w
 | .ask w a=>if w="coin" then kG z (a.worth z bx)else gu z (a.worth z bx)
 | .op s a b=>opV z.p s (a.worth z bx) (b.worth z bx)
def Tm.good:Tm->Prop
 | .num _=>True | .box _=>True | .plain w=>w∈plainW | .ask w a=>w∈askW/\a.good | .op s a b=>s∈signW/\a.good/\b.good
def kM(p:Int)(bx:Str->Int):Prop:=∀x,0<=bx x/\bx x<p
def Tm.worth_rng(k:AkOk z)(hb:kM z.p bx):∀t:Tm,0<=t.worth z bx/\t.worth z bx<z.p
 | .num n=>by have:=k.p0;erw[qE0 _ #[0],qG0 _ #[0]]
 | .box x=>hb x
 | .plain w=>yc k w
 | .ask w a=>by
   show 0<=(if w="coin" then kG z (a.worth z bx)else gu z (a.worth z bx))/\(if w="coin" then kG z (a.worth z bx)else gu z (a.worth z bx))<z.p
   split
   . exact Ce k _
   . exact AB k _
 | .op s a b=>by have:=k.p0;exact GE #[0]
instance spTm(CA CG:Addr)(n:Nat):∀(v:V)(t:Tm)(b k g sd:Addr)(z:Ak)(ys:List V)(bx:Str->Int)(m:Nat),vs=[v,.ref b,.ref k]->TmAt H v t->t.good->t.depth<=n->BxAt H b bx m->kM z.p bx->AkAt CA CG H k g sd z->AkOk z->H sd=some (.lst ys)->(∀H',AkAt CA CG H' k g sd z->SameBut k H H'->Q (.int (t.worth z bx)) H'):=1
def iK:FnScope ["term","boxes","asking","word","first","second"] WW (ah jo):=%[|5]
structure AskF(P:Program)(w:World)(K:W.Frag)(mg:Str->Option Value)(base:Heap)(CA CG fP fC fR:Addr)(fdP fdC fdR:FuncData):Prop where
 mP:Meth K CA "plain_value" fP
 GP:#[1,fP,fdP,Wf,spPlain CA CG]
 bP:Binds K fdP Wf []
 mC:Meth K CA "coin_at" fC
 GC:#[1,fC,fdC,WN,spCoinAt CA CG]
 bC:Binds K fdC WN []
 mR:Meth K CA "true_at" fR
 GR:#[18,fR,fdR,WN,spTrueAt CA CG]
 bR:Binds K fdR WN []
def Cr {n:Nat}   (F:Fun K "value_of" "value_of" jo f fd) (TA:ATxt K mg CA) (TG:GTxt K mg CG) (M:AskF P w K mg base CA CG fP fC fR fdP fdC fdR) (f7:#[3,"op_value",We,spOp]) (cJ:#[n+18,"value_of",WW,spTm CA CG n]):#[n+19,f,fd,WW,spTm CA CG (n+1)]:=by
 exists iK
 erw[v,t,b,k,g,sd,z,ys,bx,m,1,T,tg,td,BX,bo,AK,ok,hs,q]at h;let hu:=Ig hr;let hr1:Room 1 _:=hr.mono #[0];let hr18:Room 18 _:=hr.mono #[0];refine⟨_,(aa #[ai,3,iK,aM ix_tup (pv 0) ae #[1]]
  (aa (aI (ag aR (pv 3) ao (ax _)) (ad (am (aq ba (aM ix_tup (pv 0) ae #[1]) (ay (ay (pv 2) rfl) rfl)))) az)
  (aa (aI (ag aR (pv 3) ao (ax _)) (ad (am (DI hu (pv 1) (aM ix_tup (pv 0) ae #[1]) ae %[1,1,1|1]))) az)
  (aa (aI (ag aR (pv 3) ao (ax _)) (ad (am (bQ (pv 2) TA.cl M.mC M.GC hr1 M.bC .nil aZ %[aj cJ hr (zG0 _) rfl %[aM ix_tup (pv 0) ae #[1],1,2|aP]|aP]))) az)
  (aa (aI (ag aR (pv 3) ao (ax _)) (ad (am (bQ (pv 2) TA.cl M.mR M.GR hr18 M.bR .nil aZ %[aj cJ hr (zG0 _) rfl %[aM ix_tup (pv 0) ae #[1],1,2|aP]|aP]))) az)
  (aa (aI (ag aR (pv 3) ao (ax _)) (aa #[ai,4,iK,aj cJ hr (zG0 _) rfl %[aM ix_tup (pv 0) ae #[1],1,2|aP]]
   (aa #[ai,5,iK,aj cJ hr (zG0 _) rfl %[aM ix_tup (pv 0) ae #[1],1,2|aP]]
   (ad (am (aj f7 hr #[0] rfl %[aM ix_tup (pv 0) ae #[1],4,5,ay (ay (pv 2) rfl) rfl|aP]))))) az)
  (ad (am (bQ (pv 2) TA.cl M.mP M.GP hr1 M.bP .nil aZ %[3|aP]))))))))),?_⟩
 let AK':=AK;erw[dk,aT,ga,gb,gd,tv,tr,hk,%[dg|hg],_]at AK';let p2:=ok.p0;let p0:0<z.p:=by omega
 let kT:∀{H':Hp},SameBut k H H'->bL H H':=λs c xs e=>s _ _ (bp e hk nofun) e
 let kB:∀{H':Hp},SameBut k H H'->BxAt H' b bx m:=λs=>BX.keep λo e=>s _ _ (by
  erw[NS,e',_]at BX;exact bp e' hk nofun) e
 let kS:∀{H':Hp},SameBut k H H'->H' sd=some (.lst ys):=λs=>s _ _ (bp hs hk nofun) hs
 cases T with
 | @num a n e=>
   erw[0,a,_,(0),0,1,zD0 e,1,6];erw[0,1,0,aV rfl ?_];erw[0,a,_,(1),0,1,zD0 e,1,0,k,CA,dk,_,0,hk,TA.cl,TA.nG,vK,g,CG,dg,_,0,hg,TG.cl,TG.nF,eU ..,2,p0,q H AK (SameBut.refl _ _)]
 | @box a x e=>
   erw[0,a,_,(0),0,1,zD0 e,1,6];erw[0,1,0,7];erw[0,1,0,aV rfl ?_];erw[NS,hb,_,hx]at BX;erw[0,b,1,.inl %[NS|.inl hb],0,a,_,(1),0,1,zD0 e,1,_,DGet.k (k:=.inr x) hb,6];rw[hx];exact q H AK (SameBut.refl _ _)
 | @plain a wd e=>
   let no:∀x:Str,x∉plainW->¬ V.str wd=V.str x:=λx hx e=>hx (by rw[←V.str.inj e];exact tg)
   erw[0,a,_,(0),0,1,zD0 e,1,6];erw[0,1,0,aD (no _ ⋯) ?_];erw[0,1,0,aD (no _ ⋯) ?_];erw[0,1,0,aD (no _ ⋯) ?_];erw[0,1,0,aD (no _ ⋯) ?_];erw[0,1,0,aD (no _ ⋯) ?_];erw[0,k,dk,0,hk,al_n1,0,k,g,sd,z,wd,1,AK,p0,q H AK (SameBut.refl _ _)]
 | @ask a wd v1 t1 e T1=>
   erw[wq,tq]at tg;let hw:wd="coin"∨wd="true":=by simpa [askW]using wq
   let d1:t1.depth<=n:=by have:t1.depth+1<=n+1:=td;omega
   let wr:=Tm.worth_rng ok bo t1;erw[0,a,_,(0),0,1,zD0 e,1,6];rcases hw with rfl | rfl
   . erw[0,1,0,7];erw[0,1,0,7];erw[0,1,0,aV rfl ?_];erw[0,k,dk,0,hk,al_n2,0,a,_,(1),0,1,zD0 e,1,0,0,v1,t1,b,k,g,sd,z,ys,bx,m,1,T1,tq,d1,BX,bo,AK,ok,hs,λH1 A1 S1=>?_];erw[k,g,sd,z,0,A1,ok.tl,λH2 S2=>?_];let qq:=q H2 (A1.same S2) (S1.trans (zJ0 S2));let e1:(Tm.ask "coin" t1).worth z bx=kG z (t1.worth z bx):=NQ rfl;rw[e1]at qq;exact qq
   . erw[0,1,0,7];erw[0,1,0,7];erw[0,1,0,7];erw[0,1,0,aV rfl ?_];erw[0,k,dk,0,hk,al_n4,0,a,_,(1),0,1,zD0 e,1,0,0,v1,t1,b,k,g,sd,z,ys,bx,m,1,T1,tq,d1,BX,bo,AK,ok,hs,λH1 A1 S1=>?_];erw[k,g,sd,z,ys,0,A1,ok,kS S1,wr.1,wr.2,λH2 A2 S2=>?_];let qq:=q H2 A2 (S1.trans S2);let e1:(Tm.ask "true" t1).worth z bx=gu z (t1.worth z bx):=NP ⋯;rw[e1]at qq;exact qq
 | @op a o v1 v2 t1 t2 e T1 T2=>
   erw[oq,q1,q2]at tg;let d1:t1.depth<=n:=by have:max t1.depth t2.depth+1<=n+1:=td;omega
   let d2:t2.depth<=n:=by have:max t1.depth t2.depth+1<=n+1:=td;omega
   let w1:=Tm.worth_rng ok bo t1;let w2:=Tm.worth_rng ok bo t2;erw[0,a,_,(0),0,1,zD0 e,1,6];erw[0,1,0,7];erw[0,1,0,7];erw[0,1,0,7];erw[0,1,0,7];erw[0,1,0,aV rfl ?_];erw[0,a,_,(2),0,1,zD0 e,1,0,0,v1,t1,b,k,g,sd,z,ys,bx,m,1,T1,q1,d1,BX,bo,AK,ok,hs,λH1 A1 S1=>?_];let e1:=kT S1 _ _ e;erw[0,a,_,(3),0,1,zD0 e1,1,0,0,v2,t2,b,k,g,sd,z,ys,bx,m,1,T2.mono (kT S1),q2,d2,kB S1,bo,A1,ok,kS S1,λH2 A2 S2=>?_];let e2:=kT (S1.trans S2) _ _ e;let%[dk2,aT2,_,_,_,_,tr2,hk2,%[dg2|hg2]|_]:=id A2;erw[0,a,_,(1),0,1,zD0 e2,1,0,0,0,k,CA,dk2,_,0,hk2,TA.cl,TA.nG,vK,g,CG,dg2,_,0,hg2,TG.cl,TG.nF,eU ..,o,_,_,z.p,1,oq,ok.gk.pr,ok.gk.p9,w1.1,w1.2,w2.1,w2.2,q H2 A2 (S1.trans S2)]
def Cq  :#[18,f,fd,WW,spTm CA CG 0]:=by
 let no:∀vs H Q E,¬ spTm CA CG 0 vs H Q E:=λvs H Q E h=>by
  erw[v,t,_,_,_,_,_,_,_,_,_,_,_,h1,_]at h
  have:=t.depth_pos
  omega
 exists 3
def pB   (F:Fun K "value_of" "value_of" jo f fd) (m:mg "value_of"=some (.ref f)) (TA:ATxt K mg CA) (TG:GTxt K mg CG) (M:AskF P w K mg base CA CG fP fC fR fdP fdC fdR) (f7:#[3,"op_value",We,spOp]) :
 ∀n:Nat,#[n+18,f,fd,WW,spTm CA CG n]
 | 0=>Cq
 | n+1=>Cr F TA TG M f7 (Cal.of F (pB F m TA TG M f7 n) m (λ_ _ _ _ _ _ us hl=>by let%[u0,u1,u2|1]:=Hi hl;rfl))
end
section
variable {CM CA CG:Addr}
structure MS where
 pl:Int
 bx:Str->Int
 sd:List Int
def HS(z:Ak)(len:Int)(s:MS):Hr->MS
 | .fin=>%[len,s.bx|s.sd]
 | .go n=>%[n,s.bx|s.sd]
 | .iff t n=>%[if t.worth z s.bx=0 then s.pl+1 else n,s.bx|s.sd]
 | .set x t=>%[s.pl+1,jO s.bx x (t.worth z s.bx)|s.sd]
 | .say t=>%[s.pl+1,s.bx|s.sd++[t.worth z s.bx]]
def eV(z:Ak)(rows:List Hr)(s:MS):MS:=match rows[s.pl.toNat]? with
 | some r=>HS z rows.length s r
 | none=>s
def lQ(z:Ak)(rows:List Hr):Nat->MS->MS
 | 0,s=>s
 | n+1,s=>if s.pl<(rows.length:Int)/\(s.sd.length:Int)<z.mn then lQ z rows n (eV z rows s)else s
def rE(mn:Int)(sd:List Int):List Int:=sd++List.replicate (mn-(sd.length:Int)).toNat 0
def Hr.good:Hr->Prop
 | .fin=>True | .go n=>0<=n | .iff t n=>t.good/\t.depth<=5/\0<=n | .set _ t=>t.good/\t.depth<=5 | .say t=>t.good/\t.depth<=5
def CQ{rows:List Hr}(hq:∀r∈rows,r.good){s:MS}(h:0<=s.pl):0<=(eV z rows s).pl:=by
 unfold eV;cases e:rows[s.pl.toNat]? with
 | none=>exact h
 | some r=>
   let q:=hq r (qL0 e);cases r with
   | fin=>exact wP1 _
   | go n=>exact q
   | iff t n=>
     show 0<=if t.worth z s.bx=0 then s.pl+1 else n
     by_cases c:t.worth z s.bx=0
     . rw[NQ c];omega
     . rw[NP c];exact q.2.2
   | set x t=>show 0<=s.pl+1;omega
   | say t=>show 0<=s.pl+1;omega
def vP:(eV z rows s).sd.length<=s.sd.length+1:=by
 unfold eV;cases e:rows[s.pl.toNat]? with
 | none=>exact qO0 _
 | some r=>
   cases r with
   | fin=>exact qO0 _
   | go n=>exact qO0 _
   | iff t n=>exact qO0 _
   | set x t=>exact qO0 _
   | say t=>show(s.sd++[_]).length<=_;rw[zK0];exact zG0 _
def Fp{n:Int}(h:kM p bx)(h0:0<=n)(h1:n<p):kM p (jO bx x n):=λy=>by
 unfold jO
 split
 . erw[h0,h1]
 . exact h y
def qz{s:MS}(k:AkOk z)(h:kM z.p s.bx)(hs:cw s.sd z.p):kM z.p (eV z rows s).bx/\cw (eV z rows s).sd z.p:=by
 unfold eV;cases e:rows[s.pl.toNat]? with
 | none=>erw[h,hs]
 | some r=>
   cases r with
   | fin=>erw[h,hs]
   | go n=>erw[h,hs]
   | iff t n=>erw[h,hs]
   | set x t=>
     let w:=Tm.worth_rng k h t;erw[Fp h w.1 w.2,hs]
   | say t=>
     let w:=Tm.worth_rng k h t;erw[h,λy hy=>?_];rcases qD0 hy with hy | hy
     . exact hs y hy
     . rw[NW hy];exact w
def jz(k:AkOk z):∀(n:Nat)(s:MS),kM z.p s.bx->cw s.sd z.p->(s.sd.length:Int)<=z.mn->kM z.p (lQ z rows n s).bx/\cw (lQ z rows n s).sd z.p/\((lQ z rows n s).sd.length:Int)<=z.mn
 | 0,s,h,hs,hl=>%[h,hs|hl]
 | n+1,s,h,hs,hl=>by
   show kM z.p (if _ then _ else _:MS).bx/\cw (if _ then _ else _:MS).sd z.p/\((if _ then _ else _:MS).sd.length:Int)<=z.mn
   by_cases c:s.pl<(rows.length:Int)/\(s.sd.length:Int)<z.mn
   . rw [NQ c];let%[h1|h2]:=qz (rows:=rows) k h hs
     have:=vP (z:=z) (rows:=rows) (s:=s)
     exact jz k n _ h1 h2 #[0]
   . rw[NP c];erw[h,hs,hl]
def mN{mn:Int}{sd:List Int}(h:(sd.length:Int)<=mn):((rE mn sd).length:Int)=mn:=by
 unfold rE;rw[zK0,qN1];omega
def zO(h:cw sd p)(p0:0<p):cw (rE mn sd) p:=λx hx=>by
 unfold rE at hx;rcases qD0 hx with hx | hx
 . exact h x hx
 . rw[List.eq_of_mem_replicate hx];omega
def RowsAt(H:Hp)(rv:List V)(rows:List Hr):Prop:=rv.length=rows.length/\∀(i:Nat)(v:V)(r:Hr),rv[i]?=some v->rows[i]?=some r->HrAt H v r
def RowsAt.mono(h:RowsAt H rv rows)(k:bL H H'):RowsAt H' rv rows:=%[h.1|λi v r h1 h2=>(h.2 i v r h1 h2).mono k]
def HN(b c:Addr)(H H':Hp):Prop:=∀a o,a≠b->a≠c->H a=some o->H' a=some o
def BxAt.le{n:Nat}(h:BxAt H b bx m)(k:m<=n):BxAt H b bx n:=by
 erw[NS,e,l,r]at h;erw[NS,e,zR0 l k,r]
def But3(b c d:Addr)(H H':Hp):Prop:=∀a o,a≠b->a≠c->a≠d->H a=some o->H' a=some o
def But3.trans(x:But3 b c d H H1)(y:But3 b c d H1 H2):But3 b c d H H2:=λa o h1 h2 h3 e=>y a o h1 h2 h3 (x a o h1 h2 h3 e)
instance spRowM(CM CA CG:Addr):∀(M g h b dm k sd:Addr)(rv:List V)(r pl:Int)(z:Ak)(rows:List Hr)(bx:Str->Int)(m:Nat)(said:List Int),vs=[.ref M,.int pl,.ref sd,.ref k]->H M=some (.ins CM dm (ml g h r b))->M≠k->H h=some (.tup rv)->RowsAt H rv rows->(∀r∈rows,r.good)->0<=pl->pl<(rows.length:Int)->BxAt H b bx m->kM z.p bx->m<=10000->H sd=some (.lst (said.map V.int))->said.length<=900->AkAt CA CG H k g sd z->AkOk z->(∀H',H' sd=some (.lst ((eV z rows ⟨pl,bx,said⟩).sd.map V.int))->BxAt H' b (eV z rows ⟨pl,bx,said⟩).bx (m+1)->AkAt CA CG H' k g sd z->But3 b sd k H H'->Q (.int (eV z rows ⟨pl,bx,said⟩).pl) H'):=1
def JW:FnScope ["self","place","said","asking","row","word"] Wq (ah xV):=%[|5]
def GK   (F:Fun K "do_row" "Machine.do_row" xV f fd) (B:Bl mg) (TM:MTxt K mg CM) (cJ:#[23,"value_of",WW,spTm CA CG 5]):#[24,f,fd,Wq,spRowM CM CA CG]:=by
 exists JW
 erw[M,g,h,b,dm,k,sd,rv,rn,pl,z,rows,bx,m,said,1,hM,nMk,hh,RW,rq,pl0,pl1,BX,bo,m1,hsd,sl,AK,ok,q]at h;let hu:=Ig hr;refine⟨_,(aa #[ai,4,JW,aM ix_tup (ay (pv 0) rfl) (pv 1) #[1]]
  (aa #[ai,5,JW,aM ix_tup (pv 4) ae #[1]]
  (aa (aI (ag aR (pv 5) ao (ax _)) (ad (am (aG aE rfl B.len zC1 %[ay (pv 0) rfl|aP]))) az)
  (aa (aI (ag aR (pv 5) ao (ax _)) (ad (am (aM ix_tup (pv 4) ae #[1]))) az)
  (aa (aI (ag aR (pv 5) ao (ax _)) (ad (Go hu (ay (pv 0) rfl) (aM ix_tup (pv 4) ae #[1]) (aj cJ hr ⋯ rfl %[aM ix_tup (pv 4) ae #[1],ay (pv 0) rfl,3|aP]) rfl)) (ad (aI (ag aR (pv 5) ao (ax _)) (ad (aW (eC zE1 zH1 zI1 ca (pv 2) %[aj cJ hr ⋯ rfl %[aM ix_tup (pv 4) ae #[1],ay (pv 0) rfl,3|aP]|aP]))) (ad (aI (ag mO (aj cJ hr ⋯ rfl %[aM ix_tup (pv 4) ae #[1],ay (pv 0) rfl,3|aP]) ae (ax _)) (ad (am (aM ix_tup (pv 4) ae #[1]))) az)))))
  (ad (am (aq aS (pv 1) ae)))))))),?_⟩
 let%[i|1]:=zU1 pl0;let hi:i<rows.length:=by omega
 let hi':i<rv.length:=by rw[RW.1];exact hi
 let er:rows[i]?=some rows[i]:=zM0 hi;let ev:rv[i]?=some rv[i]:=zM0 hi';let RA:=RW.2 i _ _ ev er;let rqi:=rq _ (qP0 hi);let NV:eV z rows %[(i:Int),bx|said]=HS z rows.length ⟨(i:Int),bx,said⟩ rows[i]:=by
  unfold eV;rw[show((%[(i:Int),bx|said]:MS).pl.toNat)=i from qS0 i,er]
 rw[NV]at q;generalize rows[i]=row at RA rqi q er NV;let at_:atI rv (i:Int)=some rv[i]:=cx ev;generalize rv[i]=v at RA at_ ev;erw[0,M,CM,dm,_,0,hM,TM.cl,TM.nH,Hd,0,h,_,_,v,1,1,zD0 hh,at_,6];let K0:But3 b sd k H H:=λ_ _ _ _ _ e=>e
 let nBS:sd≠b:=by
  erw[NS,e,_]at BX;exact bp hsd e nofun
 let%[NS,hb,kl|hx]:=id BX;let%[dk,_,_,_,_,_,_,hk|_]:=id AK;let kT:∀{H':Hp},SameBut k H H'->bL H H':=λs c xs e=>s _ _ (bp e hk nofun) e
 let nbk:b≠k:=bp hb hk nofun;let nsk:sd≠k:=bp hsd hk nofun;cases RA with
 | @fin a e=>
   erw[0,a,_,(0),0,1,zD0 e,1,6];erw[0,1,0,aV rfl ?_];erw[0,M,CM,dm,_,0,hM,TM.cl,TM.nH,Hd,h,0,.inr (zD0 hh),6];rw[RW.1];exact q H hsd (BX.le (qO0 _)) AK K0
 | @go a n e=>
   erw[0,a,_,(0),0,1,zD0 e,1,6];erw[0,1,0,7];erw[0,1,0,aV rfl ?_];erw[0,a,_,(1),0,1,zD0 e,1,q H hsd (BX.le (qO0 _)) AK K0]
 | @iff a u t n e T=>
   erw[0,a,_,(0),0,1,zD0 e,1,6];erw[0,1,0,7];erw[0,1,0,7];erw[0,1,0,7];erw[0,1,0,7];erw[0,a,_,(1),0,1,zD0 e,1,0,M,CM,dm,_,0,hM,TM.cl,TM.nB,Ew,0,u,t,b,k,g,sd,z,_,bx,m,1,T,rqi.1,rqi.2.1,BX,bo,AK,ok,hsd,λH1 A1 S1=>?_];erw[1,0,6];let q':∀H',H' sd=some (.lst (said.map V.int))->BxAt H' b bx (m+1)->AkAt CA CG H' k g sd z->But3 b sd k H H'->Q (.int (if t.worth z bx=0 then(i:Int)+1 else n)) H':=q
   let q1:=q' H1 (S1 _ _ nsk hsd) ((BX.keep λo e=>S1 _ _ nbk e).le (qO0 _)) A1 (λc o _ _ h3 e=>S1 _ _ h3 e)
   by_cases c:t.worth z bx=0
   . rw[NQ c]at q1;refine wM (congrArg V.int c) ?_;erw[0,2,q1]
   . rw[NP c]at q1;refine iteN (λz=>c (V.int.inj z)) ?_;erw[0,a,_,(2),0,1,zD0 (kT S1 _ _ e),1,q1]
 | @set a x u t e T=>
   erw[0,a,_,(0),0,1,zD0 e,1,6];erw[0,1,0,7];erw[0,1,0,7];erw[0,1,0,aV rfl ?_];erw[0,a,_,(2),0,1,zD0 e,1,0,M,CM,dm,_,0,hM,TM.cl,TM.nB,Ew,0,u,t,b,k,g,sd,z,_,bx,m,1,T,rqi.1,rqi.2,BX,bo,AK,ok,hsd,λH1 A1 S1=>?_];let hb1:=S1 _ _ nbk hb;let hs1:=S1 _ _ nsk hsd;erw[0,M,CM,dm,_,0,S1 _ _ nMk hM,TM.cl,TM.nB,Ew,0,a,_,(1),0,1,zD0 (kT S1 _ _ e),1,b,0,DPut.k (k:=.inr x) hb1 ?_,6]
   . exact zK1 kl (zK1 m1 ⋯)
   erw[0,2,6];refine q _ ?_ ⟨_,aJ,zR0 (kD _ _ _) (zG1 kl),JN x _ hx⟩ (A1.but2 hb1 hs1 λc o h1 _ e=>by rw[aB h1];exact e) (λc o h1 _ h3 e=>by rw[aB h1];exact S1 _ _ h3 e);rw[aB nBS];exact hs1
 | @say a u t e T=>
   erw[0,a,_,(0),0,1,zD0 e,1,6];erw[0,1,0,7];erw[0,1,0,7];erw[0,1,0,7];erw[0,1,0,aV rfl ?_];erw[0,.inl %[1,_|zH0 hsd],6];erw[0,a,_,(1),0,1,zD0 e,1,0,M,CM,dm,_,0,hM,TM.cl,TM.nB,Ew,0,u,t,b,k,g,sd,z,_,bx,m,1,T,rqi.1,rqi.2,BX,bo,AK,ok,hsd,λH1 A1 S1=>?_];let hb1:=S1 _ _ nbk hb;let hs1:=S1 _ _ nsk hsd;erw[sd,2,hs1,6,6]
   . rw[zF0];exact aN #[0]
   erw[0,2,6];refine q _ ?_ ((BX.keep λo e=>by rw[aB nBS.symm];exact S1 _ _ nbk e).le (qO0 _)) (A1.but2 hb1 hs1 λc o _ h2 e=>by rw[aB h2];exact e) (λc o _ h2 h3 e=>by rw[aB h2];exact S1 _ _ h3 e);rw[aJ];show _=some (HO.lst ((said++[t.worth z bx]).map V.int));rw[zL0];rfl
end
section
variable {CM CA CG:Addr}
def m1 (g:Addr):List (Str×V):=[("game",.ref g)]
def m2 (g h:Addr):List (Str×V):=[("game",.ref g),("helper",.ref h)]
def m3 (g h:Addr):List (Str×V):=[("game",.ref g),("helper",.ref h),("next_round",.int 0)]
def pm1 {g:Addr}:cD "game" (.ref g) []=m1 g:=by rfl'
def pm2 {h:Addr}:cD "helper" (.ref h) (m1 g)=m2 g h:=by rfl'
def pm3 :cD "next_round" (.int 0) (m2 g h)=m3 g h:=by rfl'
def pm4 {b:Addr}:cD "boxes" (.ref b) (m3 g h)=ml g h 0 b:=by rfl'
instance spMInit(CM:Addr):∀(M g h dm:Addr),vs=[.ref M,.ref g,.ref h]->H M=some (.ins CM dm [])->(∀(b:Addr)(H':Hp),H b=none->H' M=some (.ins CM dm (ml g h 0 b))->H' b=some (.dK [])->SameBut M H H'->Q .non H'):=1
def Di:FnScope WI WI (ah uD):=%[|5]
def DW   (F:Fun K "__init__" "Machine.__init__" uD f fd) (T:MTxt K mg CM):#[1,f,fd,WI,spMInit CM]:=by
 exists Di
 erw[M,g,h,dm,1,hM,q]at h;refine⟨_,(aa (aO (pv 0) (pv 1) rfl)
  (aa (aO (pv 0) (pv 2) rfl)
  (aa (aO (pv 0) ae rfl)
  (ad (aO (pv 0) DH rfl))))),?_⟩
 erw[0,0,M,CM,dm,0,hM,9,T.nG,(by show 0<1000;decide),6];rw[pm1];erw[0,0,M,CM,dm,0,aJ,9,T.nH,(by show 1<1000;decide),6];rw[pm2];erw[0,M,CM,dm,0,aJ,9,T.nR,(by show 2<1000;decide),6];rw[pm3];let S3:SameBut M H (upd (upd (upd H M (.ins CM dm (m1 g))) M (.ins CM dm (m2 g h))) M (.ins CM dm (m3 g h))):=(SameBut.upd _).trans ((SameBut.upd _).trans (SameBut.upd _));let g3:upd (upd (upd H M (.ins CM dm (m1 g))) M (.ins CM dm (m2 g h))) M (.ins CM dm (m3 g h)) M=some (.ins CM dm (m3 g h)):=aJ;generalize upd (upd (upd H M (.ins CM dm (m1 g))) M (.ins CM dm (m2 g h))) M (.ins CM dm (m3 g h))=H3 at S3 g3;intro b hb;let bM:b≠M:=(aQ g3 hb).symm;erw[0,M,CM,dm,0,by rw[aB bM.symm];exact g3,T.cl,T.nB,(by show 3<1000;decide),6];rw[pm4];refine q b _ ?_ aJ (by rw[aB bM];exact aJ) (S3.trans ((zJ0 (zC0 hb _)).trans (SameBut.upd _)));cases e:H b with
 | none=>rfl
 | some o=>rw[S3 b o bM e]at hb;cases hb
def a1 (g:Addr):List (Str×V):=[("game",.ref g)]
def a2 (g:Addr) (nr:Int):List (Str×V):=[("game",.ref g),("number",.int nr)]
def a3 (g:Addr) (nr mn:Int):List (Str×V):=[("game",.ref g),("number",.int nr),("many",.int mn)]
def a4 (g:Addr) (nr mn hd:Int):List (Str×V):=[("game",.ref g),("number",.int nr),("many",.int mn),("held",.int hd)]
def a5 (g:Addr) (nr mn hd s:Int):List (Str×V):=[("game",.ref g),("number",.int nr),("many",.int mn),("held",.int hd),("s",.int s)]
def a6 (g:Addr) (nr mn hd s:Int) (aT:Addr):List (Str×V):=[("game",.ref g),("number",.int nr),("many",.int mn),("held",.int hd),("s",.int s),("tossed",.ref aT)]
section
variable {g aT:Addr} {nr mn hd s:Int}
def pa1:cD "game" (.ref g) []=a1 g:=by rfl'
def pa2:cD "number" (.int nr) (a1 g)=a2 g nr:=by rfl'
def pa3:cD "many" (.int mn) (a2 g nr)=a3 g nr mn:=by rfl'
def pa4:cD "held" (.int hd) (a3 g nr mn)=a4 g nr mn hd:=by rfl'
def pa5:cD "s" (.int s) (a4 g nr mn hd)=a5 g nr mn hd s:=by rfl'
def pa6:cD "tossed" (.ref aT) (a5 g nr mn hd s)=a6 g nr mn hd s aT:=by rfl'
def pa7:cD "truths" .non (a6 g nr mn hd s aT)=al g nr mn hd s aT .non:=by rfl'
end
instance spAInit(CA:Addr):∀(k dk g c:Addr)(nr mn hd s:Int)(xs:List V),vs=[.ref k,.ref g,.int nr,.int mn,.int hd,.int s,.ref c]->H k=some (.ins CA dk [])->H c=some (.lst xs)∨H c=some (.tup xs)->(∀(aT:Addr)(H':Hp),H' k=some (.ins CA dk (al g nr mn hd s aT .non))->H' aT=some (.tup xs)->SameBut k H H'->Q .non H'):=1
def Dp:FnScope Wg Wg (ah uM):=%[|5]
def Ee   (F:Fun K "__init__" "Asking.__init__" uM f fd) (B:Bl mg) (T:ATxt K mg CA):#[1,f,fd,Wg,spAInit CA]:=by
 exists Dp
 erw[k,dk,g,c,nr,mn,hd,s,xs,1,hk,hc,q]at h;refine⟨_,(aa (aO (pv 0) (pv 1) rfl)
  (aa (aO (pv 0) (pv 2) rfl)
  (aa (aO (pv 0) (pv 3) rfl)
  (aa (aO (pv 0) (pv 4) rfl)
  (aa (aO (pv 0) (pv 5) rfl)
  (aa (aO (pv 0) (bt bb rfl B.tuple bu %[6|aP]) rfl)
  (ad (aO (pv 0) ky rfl)))))))),?_⟩
 erw[0,0,k,CA,dk,0,hk,9,T.nG,(by show 0<1000;decide),6];rw[pa1];erw[0,0,k,CA,dk,0,aJ,9,T.nN,(by show 1<1000;decide),6];rw[pa2];erw[0,0,k,CA,dk,0,aJ,9,T.nM,(by show 2<1000;decide),6];rw[pa3];erw[0,0,k,CA,dk,0,aJ,9,T.nH,(by show 3<1000;decide),6];rw[pa4];erw[0,0,k,CA,dk,0,aJ,9,T.nS,(by show 4<1000;decide),6];rw[pa5];let S5:SameBut k H (upd (upd (upd (upd (upd H k (.ins CA dk (a1 g))) k (.ins CA dk (a2 g nr))) k (.ins CA dk (a3 g nr mn))) k (.ins CA dk (a4 g nr mn hd))) k (.ins CA dk (a5 g nr mn hd s))):=(SameBut.upd _).trans ((SameBut.upd _).trans ((SameBut.upd _).trans ((SameBut.upd _).trans (SameBut.upd _))));let g5:upd (upd (upd (upd (upd H k (.ins CA dk (a1 g))) k (.ins CA dk (a2 g nr))) k (.ins CA dk (a3 g nr mn))) k (.ins CA dk (a4 g nr mn hd))) k (.ins CA dk (a5 g nr mn hd s)) k=some (.ins CA dk (a5 g nr mn hd s)):=aJ;generalize upd (upd (upd (upd (upd H k (.ins CA dk (a1 g))) k (.ins CA dk (a2 g nr))) k (.ins CA dk (a3 g nr mn))) k (.ins CA dk (a4 g nr mn hd))) k (.ins CA dk (a5 g nr mn hd s))=H5 at S5 g5;rcases hc with hc | hc
 . let hc5:=S5 _ _ (bp hc hk nofun) hc;erw[0,c,0,.inl %[zH0 hc5|λaT ha=>?_]];let aK:aT≠k:=(aQ g5 ha).symm;erw[0,k,CA,dk,0,by rw[aB aK.symm];exact g5,T.cl,T.nT,(by show 5<1000;decide),6];rw[pa6];erw[0,k,CA,dk,0,aJ,9,T.nR,(by show 6<1000;decide),6];rw[pa7];exact q aT _ aJ (by rw[aB aK,aB aK];exact aJ) (S5.trans ((zJ0 (zC0 ha _)).trans ((SameBut.upd _).trans (SameBut.upd _))))
 . let nc:=bp hc hk nofun;let hc5:=S5 _ _ nc hc;erw[0,c,0,.inr %[zD0 hc5|6]];erw[0,k,CA,dk,0,g5,9,T.nT,(by show 5<1000;decide),6];rw[pa6];erw[0,k,CA,dk,0,aJ,9,T.nR,(by show 6<1000;decide),6];rw[pa7];exact q c _ aJ (by rw[aB nc,aB nc];exact hc5) (S5.trans ((SameBut.upd _).trans (SameBut.upd _)))
instance spSay(CM CG:Addr):∀(M g h b dm c:Addr)(rv:List V)(z:Ak)(rows:List Hr)(bx:Str->Int)(m:Nat),vs=[.ref M,.int z.mn,.int z.hd,.int z.s,.ref c]->H M=some (.ins CM dm (ml g h z.nr b))->H h=some (.tup rv)->RowsAt H rv rows->(∀r∈rows,r.good)->BxAt H b bx m->kM z.p bx->m<=5000->Gm CG H g z.ns z.ts z.p->AkOk z->H c=some (.lst (z.to.map V.int))∨H c=some (.tup (z.to.map V.int))->0<=z.mn->z.mn<=500->(∀(l:Addr)(H':Hp),H l=none->H' l=some (.lst ((rE z.mn (lQ z rows 200 ⟨0,bx,[]⟩).sd).map V.int))->BxAt H' b (lQ z rows 200 ⟨0,bx,[]⟩).bx (m+200)->H' M=some (.ins CM dm (ml g h (z.nr+1) b))->HN M b H H'->Q (.ref l) H'):=1
def iJ:FnScope ["self","many","due","s","coins","asking","said","place","done"] WX (ah xU):=%[|5]
def Dx(k:Nat)(x:V):(List.replicate k [x]).flatten=List.replicate k x:=by
 induction k with
 | zero=>rfl
 | succ k ih=>rw[zZ1,qV1,ih,zZ1];rfl
instance tSayE(Dn:Ends)(σ:St)(H:Hp):∀(x0 x2 x3 x4 x5 x7 x8:Option V)(sd:Addr)(mn:Int)(xs:List Int),σ=[x0,some (.int mn),x2,x3,x4,x5,some (.ref sd),x7,x8]->H sd=some (.lst (xs.map V.int))->xs.length<=200->0<=mn->mn<=500->(∀(l:Addr)(H':Hp),H l=none->Same H H'->H' l=some (.lst ((rE mn xs).map V.int))->Dn.rt (.ref l) H'):=0
def GJ   (F:Fun K "say" "Machine.say" xU f fd) (B:Bl mg) (TM:MTxt K mg CM) (TA:ATxt K mg CA) (hmost:∃t,mg "MOST_ROWS_DONE"=some (.int 200 t))
 (MA:Mk K CA fA) (GA:#[1,fA,fdA,Wg,spAInit CA]) (bA:Binds K fdA Wg [])
 (mR:Meth K CM "do_row" fR) (GR:#[24,fR,fdR,Wq,spRowM CM CA CG]) (bR:Binds K fdR Wq []):#[25,f,fd,WX,spSay CM CG]:=by
 exists iJ
 erw[M,g,h,b,dm,c,rv,z,rows,bx,m,1,hM,hh,RW,rq,BX,bo,mm,GG,ok,hc,mn0,mn1,q]at h;erw[a',b',d',tv,G,hga,hgb,TS,hgd]at GG;erw[te,ge]at hmost;let hr2:Room (1+1) _:=hr.mono ⋯;let hr7:Room 24 _:=hr.mono ⋯;refine⟨_,(aa #[ai,5,iJ,gn MA GA hr2 rfl TA.mgC bA .nil aZ %[ay (pv 0) rfl,ay (pv 0) rfl,1,2,3,4|aP]]
  (aa (aO (pv 0) (aq aS (ay (pv 0) rfl) ae) rfl)
  (aa #[ai,6,iJ,dL aP]
  (aa #[ai,7,iJ,ae]
  (aa #[ai,8,iJ,ae]
  (aa (im zF1 (PW.pt (kx (ag dN (pv 7) (aG aE rfl B.len zC1 %[ay (pv 0) rfl|aP]) (ax _)) (kx (ag dN (aG aE rfl B.len zC1 %[6|aP]) (pv 1) (ax _)) (jB (ag dN (pv 8) (cX (v:=.int 200) rfl ge ⟨_,rfl⟩) (ax _)))))) (aa #[ai,7,iJ,bQ (pv 0) TM.cl mR GR hr7 bR .nil aZ %[7,6,5|aP]]
   (ad #[ai,8,iJ,aq aS (pv 8) ae])))
  (gl (t':=tSayE) (ad (am (aq rG (pv 6) (aq IX (dL %[ae|aP]) (aq bh (pv 1) (aG aE rfl B.len zC1 %[6|aP])))))) (by
   rintro Dn σ H ⟨x0,x2,x3,x4,x5,x7,x8,sd,mn,xs,rfl,hsd,xl,mn0,mn1,q⟩;erw[0,y1S,λz hz=>?_];let I1:=zC0 hz (.lst [.int 0]);let g1:upd H z (.lst [.int 0]) z=some (.lst [.int 0]):=aJ;generalize upd H z (.lst [.int 0])=H1 at I1 g1;erw[0,0,sd,0,.inl (zH0 (I1 _ _ hsd)),2,6];let el:((xs.map V.int).length:Int)=(xs.length:Int):=by rw[zF0]
   erw[z,2,g1,3,3,cq (by show 1*(mn-((xs.map V.int).length:Int)).toNat<=1000;omega),λy hy=>?_];rw[Dx];let I2:=zC0 hy (.lst (List.replicate (mn-((xs.map V.int).length:Int)).toNat (.int 0)));let g2:upd H1 y (.lst (List.replicate (mn-((xs.map V.int).length:Int)).toNat (.int 0))) y=some (.lst (List.replicate (mn-((xs.map V.int).length:Int)).toNat (.int 0))):=aJ;generalize upd H1 y (.lst (List.replicate (mn-((xs.map V.int).length:Int)).toNat (.int 0)))=H2 at I2 g2;erw[sd,y,2,I2 _ _ (I1 _ _ hsd),g2,6,λl hl=>?_]
   . rw[qN1,zF0];exact cq #[0]
   refine q l _ ?_ (I1.trans (I2.trans (zC0 hl _))) ?_
   . cases e:H l with
     | none=>rfl
     | some o=>rw[I2 _ _ (I1 _ _ e)]at hl;cases hl
   . rw[aJ,el];unfold rE;rw[zL0,List.map_replicate])))))))),?_⟩
 erw[0,M,CM,dm,_,0,hM,TM.cl,TM.nG,ml_g,0,M,CM,dm,_,0,hM,TM.cl,TM.nR,Jd,0,0,0,0,λk dk hk hdk nk=>?_];let S1:Same H (upd (upd H dk (.own k)) k (.ins CA dk [])):=λa o e=>by
  rw[aB (aQ e hk),aB (aQ e hdk)];exact e
 let g1:upd (upd H dk (.own k)) k (.ins CA dk []) k=some (.ins CA dk []):=aJ;generalize upd (upd H dk (.own k)) k (.ins CA dk [])=H1 at S1 g1;erw[k,dk,g,c,z.nr,z.mn,z.hd,z.s,z.to.map V.int,1,g1,hc.imp (S1 _ _) (S1 _ _),λaT H2 hk2 hT2 S2=>%[1|6]];let S02:Same H H2:=Same.but S1 hk S2;clear S1 S2 g1;let hM2:=S02 _ _ hM;erw[0,M,CM,dm,_,0,hM2,TM.cl,TM.nR,Jd,2,0,M,CM,dm,0,hM2,TM.cl,TM.nR,yD,6];rw[Ev];let nMk:M≠k:=aQ hM hk;let S3:SameBut M H2 (upd H2 M (.ins CM dm (ml g h (z.nr+1) b))):=SameBut.upd _;let hM3:upd H2 M (.ins CM dm (ml g h (z.nr+1) b)) M=some (.ins CM dm (ml g h (z.nr+1) b)):=aJ;generalize upd H2 M (.ins CM dm (ml g h (z.nr+1) b))=H3 at S3 hM3;erw[y0S,λsd hsd=>?_];let I4:=zC0 hsd (.lst []);let g4:upd H3 sd (.lst []) sd=some (.lst []):=aJ;generalize upd H3 sd (.lst [])=H4 at I4 g4;let gM:g≠M:=λe=>by
  erw[dg,hg]at G;rw[e,hM]at hg;cases hg
 let nbM:b≠M:=by
  erw[NS,e,_]at BX;exact bp e hM nofun
 let S04:SameBut M H H4:=(zJ0 S02).trans (S3.trans (zJ0 I4));let hM4:=I4 _ _ hM3;let kT:bL H H4:=λc xs h=>S04 c _ (bp h hM nofun) h
 let hh4:=kT _ _ hh;let RW4:=RW.mono kT;let BX4:BxAt H4 b bx m:=BX.keep λo e=>S04 b o nbM e
 let G4:GameAt CG H4 g a' b' d' z.p:=by
  erw[dg,hg]at G;erw[dg,S04 _ _ gM hg]
 let hT4:H4 aT=some (.tup (z.to.map V.int)):=I4 _ _ (S3 _ _ (bp hT2 hM2 nofun) hT2);let hgd4:=S04 _ _ (bp hgd hM nofun) hgd;let nds:d'≠sd:=aQ (S3 _ _ (bp hgd hM nofun) (S02 _ _ hgd)) hsd;let hk4:=I4 _ _ (S3 _ _ nMk.symm hk2);let b4:∃NS,H4 b=some (.dK NS):=by
  erw[NS,e,_]at BX4;erw[NS,e]
 erw[kv4,hb4]at b4;let nbs:b≠sd:=bp hb4 g4 nofun;let nhb:h≠b:=bp hh4 hb4 nofun;let nhs:h≠sd:=bp hh4 g4 nofun;let nMs:M≠sd:=bp hM4 g4 nofun;let nkb:k≠b:=bp hk4 hb4 nofun;let nks:k≠sd:=bp hk4 g4 nofun;let AK4:AkAt CA CG H4 k g sd z:=%[dk,aT,a',b',d',tv,.non,hk4,G4,kT _ _ hga,kT _ _ hgb,TS.mono kT,hgd4,nds,hT4|.inl rfl]
 let sd0:H sd=none:=by
  cases e:H sd with
  | none=>rfl
  | some o=>rw[S3 _ _ nMs.symm (S02 _ _ e)]at hsd;cases hsd
 erw[λmm σ H'=>∃(st:MS)(d:Nat),σ=[some (.ref M),some (.int z.mn),some (.int z.hd),some (.int z.s),some (.ref c),some (.ref k),some (.ref sd),some (.int st.pl),some (.int (d:Int))]/\d<=200/\mm=200-d/\0<=st.pl/\st.sd.length<=d/\lQ z rows (200-d) st=lQ z rows 200 %[(0),bx|[]]/\H' sd=some (.lst (st.sd.map V.int))/\BxAt H' b st.bx (m+d)/\kM z.p st.bx/\cw st.sd z.p/\AkAt CA CG H' k g sd z/\But3 b sd k H4 H',%[_,%[(0),bx|[]],(0),1,zU0 _,1,zX1 0,zG0 _,1,g4,BX4,bo,(λx hx=>by cases hx),AK4|λ_ _ _ _ _ e=>e],6]
 rintro mm σ H' ⟨st,d,rfl,d2,rfl,st0,sl,hrun,hsd',BX',bo',so',AK',S'⟩;let hM':=S' _ _ nbM.symm nMs nMk hM4;let hh':=S' _ _ nhb nhs (bp hh4 hk4 nofun) hh4;let kT':bL H4 H':=λc xs h=>S' c _ (bp h hb4 nofun) (bp h g4 nofun) (bp h hk4 nofun) h
 let RW':=RW4.mono kT';let fin:lQ z rows (200-d) st=st->∀(l:Addr)(H5:Hp),H' l=none->Same H' H5->H5 l=some (.lst ((rE z.mn st.sd).map V.int))->Q (.ref l) H5:=λer l H5 l0 S5 hl=>by
  rw[er]at hrun;rw[←hrun]at q;refine q l H5 ?_ hl ((BX'.keep λo e=>S5 b o e).le #[0]) (S5 _ _ hM') (λa o h1 h2 e=>?_)
  . cases e:H l with
    | none=>rfl
    | some o=>
      let lM:l≠M:=λz=>by rw[z,hM']at l0;cases l0
      let lb:l≠b:=λz=>by
       erw[NS,e',_]at BX';rw[z,e']at l0;cases l0
      let ls:l≠sd:=λz=>by rw[z,hsd']at l0;cases l0
      rw[S' _ _ lb ls (aQ e hk) (S04 _ _ lM e)]at l0;cases l0
  . exact S5 _ _ (S' _ _ h2 (aQ e sd0) (aQ e hk) (S04 _ _ h1 e))
 erw[0,0,M,CM,dm,_,0,hM',TM.cl,TM.nH,Hd,h,0,.inr (zD0 hh'),2,0,6];rw[RW.1]
 by_cases c1:st.pl<(rows.length:Int)
 . refine aV c1 ?_;erw[0,sd,0,.inl (zH0 hsd'),0,2,0,6];rw[zF0]
   by_cases c2:(st.sd.length:Int)<z.mn
   . refine aV c2 ?_;erw[0,2,0,6]
     by_cases c3:d<200
     . refine aV #[0] ?_;erw[_,λ_ _ h=>h,6];erw[0,M,dm,0,hM',ml_n1,0,0,0,M,g,h,b,dm,k,sd,rv,_,st.pl,z,rows,st.bx,m+d,st.sd,1,hM',nMk,hh',RW',rq,st0,c1,BX',bo',3,hsd',3,AK',ok,λH6 hs6 BX6 A6 S6=>?_];erw[0,2,6];erw[_,(show 200-(d+1)<200-d by omega),eV z rows st,d+1,1,c3,1,CQ rq st0,zR0 vP (zG1 sl),6,hs6,BX6,(qz ok bo' so').1,(qz ok bo' so').2,A6,S'.trans S6];rw[←hrun,show 200-d=(200-(d+1))+1 by omega];exact(NQ ⟨c1,c2⟩).symm
     . refine aD #[0] ?_;let ed:200-d=0:=by omega
       erw[_,_,_,_,_,_,_,sd,z.mn,st.sd,1,hsd',3,mn0,mn1,fin (by rw[ed];rfl)]
   . refine aD c2 (dI ?_);erw[_,_,_,_,_,_,_,sd,z.mn,st.sd,1,hsd',3,mn0,mn1,fin ?_];cases 200-d with
     | zero=>rfl
     | succ n=>exact NP (λz=>c2 z.2)
 . refine aD c1 (dI ?_);erw[_,_,_,_,_,_,_,sd,z.mn,st.sd,1,hsd',3,mn0,mn1,fin ?_];cases 200-d with
   | zero=>rfl
   | succ n=>exact NP (λz=>c1 z.1)
end
section
variable {ns:List Str} {ts:List Tr} {p:Int}
def qj(k:GmK ns ts p)(x:Str):0<=bm ts x/\bm ts x<=400:=by
 let t0:ts≠[]:=λz=>by have:=k.t1;rw[z]at this;cases this
 have:=kz (ns:=ts.map λt=>(t.names.count x:Int)) (by simpa using t0)
 let%[t,ht|e]:=List.mem_map.mp this;unfold bm;rw[←e];let h1:=jO0 (a:=x) (l:=t.names);let h2:=t.names_len;let h3:=(k.tok t ht).2.2.2;omega
end
structure HearOk(ns:List Str)(p:Int)(z:Db)(xs:List Int):Prop where
 aw:z.aw=(("hear":Str),some (xs.length:Int))
 xo:cw xs p
 x5:xs.length<=500
 ro:z.cl≠[]->lA xs p
 tl:z.to.length<=ns.length
 po:cw z.to p
structure TossOk(ns:List Str)(p:Int)(z:Db)(r:Int):Prop where
 aw:z.aw.1="coin"
 r0:0<=r
 r1:r<p
 tl:z.to.length<=ns.length
 ro:z.he≠[]->lA z.he p/\z.to.length<ns.length
 po:cw z.to p
section
variable {C CG cT cC cN:Addr}
structure Gd(ns:List Str)(ts:List Tr)(p:Int)(z:Db):Prop where
 tl:z.to.length<=ns.length
 po:cw z.to p
 e0:0<=z.ed
 e1:z.ed<p
 he:z.aw.1="hear" -> (z.cl=[]/\z.aw=(("hear":Str),some (ts.length:Int)))∨(z.cl≠[]/\z.to.length<ns.length/\z.aw=(("hear":Str),some (bm ts (ns.getD z.to.length "")+1)))
 co:z.aw.1="coin" -> z.cl≠[]/\(z.he≠[]->lA z.he p/\z.to.length<ns.length)
 h0:z.cl=[]->z.he=[]
 ww:AwW z.aw.1
section
variable {ns:List Str} {ts:List Tr} {p:Int} {z:Db}
def Gd.new(k:GmK ns ts p):Gd ns ts p (Db.new ts):=by
 have:=k.p2
 erw[zU0 _,(λx hx=>by cases hx),zX1 _,(by show(0:Int)<p;omega),λ_=>.inl %[1|1],(λh=>by cases h),λ_=>rfl,.inl rfl]
def Gd.goOn(tl:z.to.length<=ns.length)(po:cw z.to p)(e0:0<=z.ed)(e1:z.ed<p)(cl:z.cl≠[]):Gd ns ts p (goOn ns ts p z):=by
 unfold Mine.goOn
 by_cases c:z.to.length<ns.length
 . rw[NQ c];erw[tl,po,e0,e1,λ_=>.inr %[cl,c|1],(λh=>by cases h),λh=>absurd h cl,.inl rfl]
 . rw [NP c];unfold eA
   by_cases e:z.ed=hor z.s p (ts.map λt=>t.worth ns z.to p)
   . rw[NQ e];erw[tl,po,e0,e1,(λh=>by cases h),(λh=>by cases h),λh=>absurd h cl,.inr (.inr (.inr rfl))]
   . rw[NP e];erw[tl,po,e0,e1,(λh=>by cases h),(λh=>by cases h),λh=>absurd h cl,.inr (.inr (.inl rfl))]
def Gd.hear_ne(k:GmK ns ts p)(h:Gd ns ts p z)(ok:HearOk ns p z xs):xs≠[]:=λe=>by
 let a:=ok.aw;rw[e,zL1]at a;let t1:=k.t1;rcases h.he (by rw[a])with⟨_,w⟩ | ⟨_,_,w⟩
 . rw [w]at a
   have:=zT0 (Prod.mk.inj a).2
   omega
 . rw [w]at a
   have:=zT0 (Prod.mk.inj a).2
   have:=qj k (ns.getD z.to.length "")
   omega
def Gd.hear(k:GmK ns ts p)(h:Gd ns ts p z)(ok:HearOk ns p z xs):Gd ns ts p (cK ns ts p xs z)/\(cK ns ts p xs z).cl≠[]:=by
 let p2:=k.p2;let xn:=h.hear_ne k ok;let a1:z.aw.1="hear":=by rw[ok.aw]
 unfold cK
 by_cases c:z.cl=[]
 . rw [NQ c];unfold iI
   by_cases c1:ts.length=1
   . rw [NQ c1];unfold xj;let hr:=qg (s:=0) (p:=p) #[0] xs;erw[Gd.goOn h.tl h.po hr.1 hr.2 xn,6];unfold Mine.goOn eA
     split <;> exact xn
   . rw[NP c1];erw[%[h.tl,h.po,h.e0,h.e1,(λz=>by cases z),λ_=>%[xn|λe=>absurd (h.h0 c) e],λe=>absurd e xn|.inr (.inl rfl)],xn]
 . rw [NP c];unfold df;let tl:z.to.length<ns.length:=by
    rcases h.he a1 with⟨e,_⟩ | ⟨_,t,_⟩
    . exact absurd e c
    . exact t
   by_cases e:(val p xs 0+val p xs 1) % p=z.ed
   . rw[NQ e];erw[%[h.tl,h.po,h.e0,h.e1,(λz=>by cases z),λ_=>%[c|λ_=>%[ok.ro c|tl]],λe=>absurd e c|.inr (.inl rfl)],c]
   . rw[NP e];erw[%[h.tl,h.po,h.e0,h.e1,(λz=>by cases z),(λz=>by cases z),λe=>absurd e c|.inr (.inr (.inl rfl))],c]
def Gd.toss(k:GmK ns ts p)(h:Gd ns ts p z)(ok:TossOk ns p z r):Gd ns ts p (dq ns ts p r z)/\(dq ns ts p r z).cl≠[]:=by
 let p2:=k.p2;let%[cl|ro]:=h.co ok.aw;unfold dq
 by_cases c:z.he=[]
 . rw [NQ c];unfold xj;let hr:=qg (s:=r) (p:=p) #[0] z.cl;erw[Gd.goOn h.tl h.po hr.1 hr.2 cl,6];unfold Mine.goOn eA
   split <;> exact cl
 . rw [NP c];let hr:=FN (p:=p) #[0] z.he r;erw[Gd.goOn ?_ (λx hx=>?_) hr.1 hr.2 cl,6]
   . show (z.to++[r]).length<=_;rw[zK0,qK0]
     have:=(ro c).2
     omega
   . rcases qD0 hx with h' | h'
     . exact h.po x h'
     . rw[NW h'];erw[ok.r0,ok.r1]
   . unfold Mine.goOn eA
     split <;> exact cl
end
end
structure Tk where
 z:Db
 bx:Str->Int
 nr:Int
def awN(z:Db):Int:=z.aw.2.getD 0
def Tk.ak(ns:List Str)(ts:List Tr)(p:Int)(t:Tk):Ak:=%[ns,ts,p,t.nr,awN t.z,t.z.ed,t.z.s|t.z.to]
def Tk.run(ns:List Str)(ts:List Tr)(p:Int)(rows:List Hr)(t:Tk):MS:=lQ (t.ak ns ts p) rows 200 %[(0),t.bx|[]]
def Tk.said(ns:List Str)(ts:List Tr)(p:Int)(rows:List Hr)(t:Tk):List Int:=rE (awN t.z) (t.run ns ts p rows).sd
def Tk.ask(ns:List Str)(ts:List Tr)(p:Int)(rows:List Hr)(t:Tk):Tk:=%[cK ns ts p (t.said ns ts p rows) t.z,(t.run ns ts p rows).bx|t.nr+1]
def Tk.toss(ns:List Str)(ts:List Tr)(p r:Int)(t:Tk):Tk:=%[dq ns ts p r t.z,t.bx|t.nr]
def Tk.new(ts:List Tr):Tk:=%[Db.new ts,λ_=>0|(0)]
def cf (ns:List Str) (z:Db):Nat:=if z.aw.1="hear" then 2*(ns.length-z.to.length)else if z.aw.1="coin" then(if z.he=[]then 2*ns.length+1 else 2*(ns.length-z.to.length)-1)else 0
def bV (ns:List Str) (z:Db):Nat:=if z.aw.1="hear" then ns.length-z.to.length else if z.aw.1="coin" then(if z.he=[]then ns.length+1 else ns.length-z.to.length)else 0
structure TkOk(ns:List Str)(ts:List Tr)(p:Int)(t:Tk):Prop where
 gd:Gd ns ts p t.z
 cl:t.z.cl≠[]
 s0:0<=t.z.s
 s1:t.z.s<p
 bo:kM p t.bx
 nr:1<=t.nr
 fi:t.z.aw.1="coin" -> t.z.he=[]->t.z.to=[]
section
variable {ns:List Str} {ts:List Tr} {p:Int} {t:Tk} {rows:List Hr}
def iH:¬ (("coin":Str)="hear"):=by decide
def tL:¬ (("caught":Str)="hear"):=by decide
def Ek:¬ (("caught":Str)="coin"):=by decide
def Ej:¬ (("believed":Str)="coin"):=by decide
def vA(z:Db):(goOn ns ts p z).s=z.s/\(goOn ns ts p z).to=z.to/\(goOn ns ts p z).he=z.he/\(goOn ns ts p z).cl=z.cl:=by
 unfold goOn eA
 split <;> erw[1,1,1,1]
def lc (z:Db):¬ (goOn ns ts p z).aw.1="coin":=by
 unfold goOn eA
 split
 . exact λh=>iH h.symm
 . show ¬ (if _ then _ else _:Str×Option Int).1="coin"
   split
   . exact Ej
   . exact Ek
def oR(z:Db):cf ns (goOn ns ts p z)<=2*(ns.length-z.to.length)/\bV ns (goOn ns ts p z)<=ns.length-z.to.length:=by
 let%[_,e|_]:=vA (ns:=ns) (ts:=ts) (p:=p) z;let no:=lc (ns:=ns) (ts:=ts) (p:=p) z;unfold cf bV;rw[e,NP no,NP no]
 constructor <;> split <;> omega
def TkOk.ak (k:GmK ns ts p) (n6:ns.length<=6) (h:TkOk ns ts p t) (hw:t.z.aw.1="hear"):AkOk (t.ak ns ts p)/\0<=awN t.z/\awN t.z<=500/\t.z.to.length<ns.length/\t.z.aw=(("hear":Str),some (awN t.z))/\awN t.z=bm ts (ns.getD t.z.to.length "")+1:=by
 rcases h.gd.he hw with⟨e,_⟩ | ⟨_,tl,aw⟩
 . exact absurd e h.cl
 let ea:awN t.z=bm ts (ns.getD t.z.to.length "")+1:=by unfold awN;rw[aw];rfl
 let%[d0|d4]:=qj k (ns.getD t.z.to.length "");let nr:=h.nr;erw[%[k,n6,by show 0<=t.nr;omega,λ_=>tl,h.gd.po,h.s0,h.s1,h.gd.e0,h.gd.e1|by show t.z.to.length<=100;omega],3,3,tl,by rw[ea];exact aw,ea]
def TkOk.hear (k:GmK ns ts p) (n6:ns.length<=6) (h:TkOk ns ts p t) (hw:t.z.aw.1="hear"):HearOk ns p t.z (t.said ns ts p rows):=by
 let%[ok,a0,a5,tl,aw|ea]:=h.ak k n6 hw;let p2:=k.p2;let p9:=k.p9;let%[_,r2|r3]:=jz (rows:=rows) ok 200 %[(0),t.bx|[]] h.bo (λx hx=>by cases hx) a0;let xo:cw (t.said ns ts p rows) p:=zO r2 (by show 0<p;omega);let xl:((t.said ns ts p rows).length:Int)=awN t.z:=mN r3;let hx:ns.getD t.z.to.length ""∈ns:=by
  rw[qM0,zM0 tl];exact qP0 tl
 let%[d0|d1]:=k.deg _ hx;let%[_|d4]:=qj k (ns.getD t.z.to.length "");erw[by rw[xl];exact aw,xo,3,λ_=>%[3,3,3|λj=>?_],h.gd.tl,h.gd.po]
 have:=nK xo #[0] j
 omega
def yR(z:Db)(xs:List Int)(x0:xs≠[]):cf ns (df p xs z)<=2*(ns.length-z.to.length)-1/\bV ns (df p xs z)<=ns.length-z.to.length:=by
 let h1:(df p xs z).to=z.to:=rfl;let h2:(df p xs z).he=xs:=rfl;unfold cf bV;rw[h1,h2,NP x0,NP x0];let nh:¬ (df p xs z).aw.1="hear":=by
  unfold df;show ¬ (if _ then _ else _:Str×Option Int).1="hear"
  split
  . exact iH
  . exact tL
 rw[NP nh,NP nh]
 constructor <;> split <;> omega
def TkOk.ask (k:GmK ns ts p) (n6:ns.length<=6) (h:TkOk ns ts p t) (hw:t.z.aw.1="hear"):TkOk ns ts p (t.ask ns ts p rows)/\cf ns (t.ask ns ts p rows).z<cf ns t.z/\bV ns (t.ask ns ts p rows).z<=bV ns t.z/\¬ (t.ask ns ts p rows).z.aw.1="hear":=by
 let%[ok,a0,a5,tl,aw|ea]:=h.ak k n6 hw;let ho:=h.hear (rows:=rows) k n6 hw;let%[r1,_|_]:=jz (rows:=rows) ok 200 %[(0),t.bx|[]] h.bo (λx hx=>by cases hx) a0;let%[g1|g2]:=h.gd.hear k ho;let x0:=h.gd.hear_ne k ho;let e:cK ns ts p (t.said ns ts p rows) t.z=df p (t.said ns ts p rows) { t.z with pl:=t.z.pl+((t.said ns ts p rows).length:Int) }:=NP h.cl;let nr:=h.nr;let%[l1|l2]:=yR (ns:=ns) (p:=p) { t.z with pl:=t.z.pl+((t.said ns ts p rows).length:Int) } _ x0;let s1:cf ns t.z=2*(ns.length-t.z.to.length):=NQ hw;let s2:bV ns t.z=ns.length-t.z.to.length:=NQ hw;erw[%[g1,g2,6,6,r1,by show 1<=t.nr+1;omega|λ_ he=>?_],6,6,6]
 . show 0<=(cK ns ts p _ t.z).s;rw[e];exact h.s0
 . show(cK ns ts p _ t.z).s<p;rw[e];exact h.s1
 . have:(cK ns ts p (t.said ns ts p rows) t.z).he=[]:=he
   rw[e]at this;exact absurd this x0
 . show cf ns (cK ns ts p _ t.z)<_;rw[e,s1];let l1':cf ns (df p (t.said ns ts p rows) { t.z with pl:=t.z.pl+((t.said ns ts p rows).length:Int) })<=2*(ns.length-t.z.to.length)-1:=l1;omega
 . show bV ns (cK ns ts p _ t.z)<=_;rw[e,s2];exact l2
 . show ¬ (cK ns ts p _ t.z).aw.1="hear";rw[e];unfold df;show ¬ (if _ then _ else _:Str×Option Int).1="hear"
   split
   . exact iH
   . exact tL
def TkOk.tossOk (h:TkOk ns ts p t) (hw:t.z.aw.1="coin") {r:Int} (r0:0<=r) (r1:r<p):TossOk ns p t.z r:=%[hw,r0,r1,h.gd.tl,(h.gd.co hw).2|h.gd.po]
def TkOk.toss (k:GmK ns ts p) (h:TkOk ns ts p t) (hw:t.z.aw.1="coin") {r:Int} (r0:0<=r) (r1:r<p):TkOk ns ts p (t.toss ns ts p r)/\cf ns (t.toss ns ts p r).z<cf ns t.z/\bV ns (t.toss ns ts p r).z+1<=bV ns t.z/\¬ (t.toss ns ts p r).z.aw.1="coin"/\(t.z.he=[]->(t.toss ns ts p r).z.s=r/\(t.toss ns ts p r).z.to=[])/\(t.z.he≠[]->(t.toss ns ts p r).z.s=t.z.s/\(t.toss ns ts p r).z.to=t.z.to++[r]):=by
 let ok:=h.tossOk hw r0 r1;let%[g1|g2]:=h.gd.toss k ok;let nh:¬ t.z.aw.1="hear":=by rw[hw];exact iH
 let s1:cf ns t.z=if t.z.he=[]then 2*ns.length+1 else 2*(ns.length-t.z.to.length)-1:=by unfold cf;rw[NP nh,NQ hw]
 let s2:bV ns t.z=if t.z.he=[]then ns.length+1 else ns.length-t.z.to.length:=by unfold bV;rw[NP nh,NQ hw]
 let nr:=h.nr
 by_cases c:t.z.he=[]
 . let et:=h.fi hw c;let e:dq ns ts p r t.z=goOn ns ts p { t.z with pl:=t.z.pl+1,s:=r,ed:=hor r p t.z.cl }:=NQ c;let lw:=vA (ns:=ns) (ts:=ts) (p:=p) { t.z with pl:=t.z.pl+1,s:=r,ed:=hor r p t.z.cl };let ll:=oR (ns:=ns) (ts:=ts) (p:=p) { t.z with pl:=t.z.pl+1,s:=r,ed:=hor r p t.z.cl };let ln:=lc (ns:=ns) (ts:=ts) (p:=p) { t.z with pl:=t.z.pl+1,s:=r,ed:=hor r p t.z.cl };rw[←e]at lw ll ln;erw[w1,w2,w3,w4]at lw;let l1:cf ns (dq ns ts p r t.z)<=2*(ns.length-t.z.to.length):=ll.1;let l2:bV ns (dq ns ts p r t.z)<=ns.length-t.z.to.length:=ll.2;rw[NQ c]at s1 s2;erw[%[g1,g2,6,6,h.bo,nr|λa=>absurd a ln],6,6,ln,λ_=>%[w1|w2.trans et],λz=>absurd c z]
   . show 0<=(dq ns ts p r t.z).s;rw[w1];exact r0
   . show(dq ns ts p r t.z).s<p;rw[w1];exact r1
   . show cf ns (dq ns ts p r t.z)<_;omega
   . show bV ns (dq ns ts p r t.z)+1<=_;omega
 . let tl:=((h.gd.co hw).2 c).2;let e:dq ns ts p r t.z=goOn ns ts p { t.z with pl:=t.z.pl+1,ed:=val p t.z.he r,to:=t.z.to++[r] }:=NP c;let lw:=vA (ns:=ns) (ts:=ts) (p:=p) { t.z with pl:=t.z.pl+1,ed:=val p t.z.he r,to:=t.z.to++[r] };let ll:=oR (ns:=ns) (ts:=ts) (p:=p) { t.z with pl:=t.z.pl+1,ed:=val p t.z.he r,to:=t.z.to++[r] };let ln:=lc (ns:=ns) (ts:=ts) (p:=p) { t.z with pl:=t.z.pl+1,ed:=val p t.z.he r,to:=t.z.to++[r] };rw[←e]at lw ll ln;erw[w1,w2,w3,w4]at lw;let el:(t.z.to++[r]).length=t.z.to.length+1:=by rw[zK0];rfl
   let l1:cf ns (dq ns ts p r t.z)<=2*(ns.length-(t.z.to++[r]).length):=ll.1;let l2:bV ns (dq ns ts p r t.z)<=ns.length-(t.z.to++[r]).length:=ll.2;rw[el]at l1 l2;rw[NP c]at s1 s2;erw[%[g1,g2,6,6,h.bo,nr|λa=>absurd a ln],6,6,ln,λz=>absurd z c,λ_=>%[w1|w2]]
   . show 0<=(dq ns ts p r t.z).s;rw[w1];exact h.s0
   . show(dq ns ts p r t.z).s<p;rw[w1];exact h.s1
   . show cf ns (dq ns ts p r t.z)<_;omega
   . show bV ns (dq ns ts p r t.z)+1<=_;omega
def vk(k:GmK ns ts p)(n6:ns.length<=6):AkOk ((Tk.new ts).ak ns ts p)/\awN (Tk.new ts).z=(ts.length:Int)/\HearOk ns p (Db.new ts) ((Tk.new ts).said ns ts p rows)/\kM p (Tk.new ts).bx:=by
 let p2:=k.p2;let t1:=k.t1;let t10:=k.t10;let b0:kM p (Tk.new ts).bx:=λx=>by show(0:Int)<=0/\(0:Int)<p;omega
 let ok:AkOk ((Tk.new ts).ak ns ts p):=%[k,n6,zX1 0,λz=>absurd z (by show ¬ (0:Int)<0;omega),(λx hx=>by cases hx),zX1 0,(by show(0:Int)<p;omega),zX1 0,(by show(0:Int)<p;omega)|zU0 _]
 let%[_,r2|r3]:=jz (rows:=rows) ok 200 %[(0),(Tk.new ts).bx|[]] b0 (λx hx=>by cases hx) (by show(0:Int)<=(ts.length:Int);omega);let xl:(((Tk.new ts).said ns ts p rows).length:Int)=(ts.length:Int):=mN r3;erw[ok,1,%[6,zO r2 (by show 0<p;omega),3,λz=>absurd rfl z,zU0 _|λx hx=>by cases hx],b0];rw[xl];rfl
def jF (k:GmK ns ts p) (n6:ns.length<=6):TkOk ns ts p ((Tk.new ts).ask ns ts p rows)/\cf ns ((Tk.new ts).ask ns ts p rows).z<=2*ns.length+1/\bV ns ((Tk.new ts).ask ns ts p rows).z<=ns.length+(if 1<ts.length then 1 else 0)/\(1<ts.length->((Tk.new ts).ask ns ts p rows).z.aw=(("coin":Str),none)/\((Tk.new ts).ask ns ts p rows).z.he=[]/\((Tk.new ts).ask ns ts p rows).z.to=[])/\(¬ 1<ts.length->¬ ((Tk.new ts).ask ns ts p rows).z.aw.1="coin"/\((Tk.new ts).ask ns ts p rows).z.s=0/\((Tk.new ts).ask ns ts p rows).z.to=[]):=by
 let p2:=k.p2;let t1:=k.t1;let%[ok,_,ho|b0]:=vk (rows:=rows) k n6;let%[r1,_|_]:=jz (rows:=rows) ok 200 %[(0),(Tk.new ts).bx|[]] b0 (λx hx=>by cases hx) (by show(0:Int)<=(ts.length:Int);omega);let%[g1|g2]:=(Gd.new k).hear k ho;let e0:cK ns ts p ((Tk.new ts).said ns ts p rows) (Db.new ts)=iI ns ts p ((Tk.new ts).said ns ts p rows) { Db.new ts with pl:=(Db.new ts).pl+(((Tk.new ts).said ns ts p rows).length:Int) }:=NQ rfl
 by_cases c:ts.length=1
 . let e:cK ns ts p ((Tk.new ts).said ns ts p rows) (Db.new ts)=goOn ns ts p { Db.new ts with pl:=(Db.new ts).pl+(((Tk.new ts).said ns ts p rows).length:Int),cl:=(Tk.new ts).said ns ts p rows,s:=0,ed:=hor 0 p ((Tk.new ts).said ns ts p rows) }:=by
    rw[e0];exact NQ c
   let lw:=vA (ns:=ns) (ts:=ts) (p:=p) { Db.new ts with pl:=(Db.new ts).pl+(((Tk.new ts).said ns ts p rows).length:Int),cl:=(Tk.new ts).said ns ts p rows,s:=0,ed:=hor 0 p ((Tk.new ts).said ns ts p rows) };let ll:=oR (ns:=ns) (ts:=ts) (p:=p) { Db.new ts with pl:=(Db.new ts).pl+(((Tk.new ts).said ns ts p rows).length:Int),cl:=(Tk.new ts).said ns ts p rows,s:=0,ed:=hor 0 p ((Tk.new ts).said ns ts p rows) };let ln:=lc (ns:=ns) (ts:=ts) (p:=p) { Db.new ts with pl:=(Db.new ts).pl+(((Tk.new ts).said ns ts p rows).length:Int),cl:=(Tk.new ts).said ns ts p rows,s:=0,ed:=hor 0 p ((Tk.new ts).said ns ts p rows) };rw[←e]at lw ll ln;erw[w1,w2,w3,w4]at lw;let l1:cf ns (cK ns ts p ((Tk.new ts).said ns ts p rows) (Db.new ts))<=2*(ns.length-0):=ll.1;let l2:bV ns (cK ns ts p ((Tk.new ts).said ns ts p rows) (Db.new ts))<=ns.length-0:=ll.2;erw[%[g1,g2,6,6,r1,by show(1:Int)<=0+1;decide|λa=>absurd a ln],6,6,λz=>by omega,λ_=>%[ln,w1|w2]]
   . show 0<=(cK ns ts p _ (Db.new ts)).s;rw[w1];exact zX1 0
   . show(cK ns ts p _ (Db.new ts)).s<p;rw[w1];show(0:Int)<p;omega
   . show cf ns (cK ns ts p _ (Db.new ts))<=_;omega
   . show bV ns (cK ns ts p _ (Db.new ts))<=_;rw[NP #[0]];omega
 . let e:cK ns ts p ((Tk.new ts).said ns ts p rows) (Db.new ts)={ Db.new ts with pl:=(Db.new ts).pl+(((Tk.new ts).said ns ts p rows).length:Int),cl:=(Tk.new ts).said ns ts p rows,aw:=("coin",none) }:=by
    rw[e0];exact NP c
   let ez:((Tk.new ts).ask ns ts p rows).z={ Db.new ts with pl:=(Db.new ts).pl+(((Tk.new ts).said ns ts p rows).length:Int),cl:=(Tk.new ts).said ns ts p rows,aw:=("coin",none) }:=e;erw[%[g1,g2,6,6,r1,by show(1:Int)<=0+1;decide|λ_ _=>?_],6,6,λ_=>%[6,6|6],λz=>by omega]
   . rw[ez];exact zX1 0
   . rw[ez];show(0:Int)<p;omega
   . rw[ez];rfl
   . rw[ez];show(if(("coin":Str)="hear")then _ else if(("coin":Str)="coin")then(if([]:List Int)=[]then 2*ns.length+1 else _)else 0)<=_;rw[NP iH,NQ rfl,NQ rfl];exact zG0 _
   . rw[ez];show(if(("coin":Str)="hear")then _ else if(("coin":Str)="coin")then(if([]:List Int)=[]then ns.length+1 else _)else 0)<=_;rw[NP iH,NQ rfl,NQ rfl,NQ #[0]];exact zG0 _
   . rw[ez]
   . rw[ez];rfl
   . rw[ez];rfl
end
inductive TR where
 | claims (xs:List Int) | say (xs:List Int) | coin (r:Int)
def bY(ns:List Str)(ts:List Tr)(p:Int)(rows:List Hr):List Int->Nat->Tk->List TR×Tk
 | _,0,t=>([],t)
 | cs,n+1,t=>if t.z.aw.1="hear" then(.say (t.said ns ts p rows)::(bY ns ts p rows cs n (t.ask ns ts p rows)).1,(bY ns ts p rows cs n (t.ask ns ts p rows)).2)
   else if t.z.aw.1="coin" then(.coin (cs.headD 0)::(bY ns ts p rows cs.tail n (t.toss ns ts p (cs.headD 0))).1,(bY ns ts p rows cs.tail n (t.toss ns ts p (cs.headD 0))).2)
   else([],t)
def eG(ns:List Str)(ts:List Tr)(p:Int)(rows:List Hr)(cs:List Int):List TR×Tk:=(.claims ((Tk.new ts).said ns ts p rows)::(bY ns ts p rows cs 20 ((Tk.new ts).ask ns ts p rows)).1,(bY ns ts p rows cs 20 ((Tk.new ts).ask ns ts p rows)).2)
def du      {t:Tk} (h1:¬ t.z.aw.1="hear") (h2:¬ t.z.aw.1="coin"):∀n,bY ns ts p rows cs n t=([],t)
 | 0=>rfl
 | n+1=>by
   show(if _ then _ else _)=_;rw[NP h1,NP h2]
def settle(ns:List Str)(ts:List Tr)(p:Int)(rows:List Hr):Nat->Tk->Tk
 | 0,t=>t
 | n+1,t=>if t.z.aw.1="hear" then settle ns ts p rows n (t.ask ns ts p rows)else t
def iX(f:Int->Int×Option (List Int)):Nat->Int×Option (List Int)
 | 0=>(0,none)
 | k+1=>((iX f k).1+(f (k:Int)).1,(iX f k).2.or (f (k:Int)).2)
def gJ(ns:List Str)(ts:List Tr)(p:Int)(rows:List Hr)(cn:Nat):Nat->Tk->List Int->Int×Option (List Int)
 | 0,_,_=>(0,none)
 | d+1,t,cs=>if(settle ns ts p rows 2 t).z.aw.1="believed" then(1,none)else if(settle ns ts p rows 2 t).z.aw.1="caught" then(0,some (cs++List.replicate (cn-cs.length) 0))
   else iX (λr=>gJ ns ts p rows cn d ((settle ns ts p rows 2 t).toss ns ts p r) (cs++[r])) p.toNat
def Beg(ns:List Str)(ts:List Tr)(p:Int)(t:Tk):Prop:=t=Tk.new ts∨TkOk ns ts p t
section
variable {ns:List Str} {ts:List Tr} {p:Int} {t:Tk} {rows:List Hr}
def cU (h:¬ t.z.aw.1="hear"):∀n,settle ns ts p rows n t=t
 | 0=>rfl
 | n+1=>NP h
def kP (k:GmK ns ts p) (n6:ns.length<=6) (h:TkOk ns ts p t):TkOk ns ts p (settle ns ts p rows 2 t)/\bV ns (settle ns ts p rows 2 t).z<=bV ns t.z/\¬ (settle ns ts p rows 2 t).z.aw.1="hear":=by
 by_cases c:t.z.aw.1="hear"
 . let%[o1,_,o3|o4]:=h.ask (rows:=rows) k n6 c;let e:settle ns ts p rows 2 t=t.ask ns ts p rows:=(NQ c).trans (cU o4 1);rw[e];erw[o1,o3,o4]
 . rw[cU c];erw[h,zG0 _,c]
def ji (k:GmK ns ts p) (n6:ns.length<=6):TkOk ns ts p (settle ns ts p rows 2 (Tk.new ts))/\bV ns (settle ns ts p rows 2 (Tk.new ts)).z<=ns.length+(if 1<ts.length then 1 else 0)/\¬ (settle ns ts p rows 2 (Tk.new ts)).z.aw.1="hear":=by
 let%[o1,_,o3,_|_]:=jF (rows:=rows) k n6;let e:settle ns ts p rows 2 (Tk.new ts)=settle ns ts p rows 1 ((Tk.new ts).ask ns ts p rows):=NQ rfl;rw[e]
 by_cases c:((Tk.new ts).ask ns ts p rows).z.aw.1="hear"
 . let%[q1,_,q3|q4]:=o1.ask (rows:=rows) k n6 c;let e:settle ns ts p rows 1 ((Tk.new ts).ask ns ts p rows)=((Tk.new ts).ask ns ts p rows).ask ns ts p rows:=NQ c;rw[e];erw[q1,zR0 q3 o3,q4]
 . rw[cU c];erw[o1,o3,c]
def Beg.settle (k:GmK ns ts p) (n6:ns.length<=6) (h:Beg ns ts p t):TkOk ns ts p (settle ns ts p rows 2 t)/\¬ (settle ns ts p rows 2 t).z.aw.1="hear":=by
 rcases h with rfl | h
 . erw[(ji k n6).1,(ji k n6).2.2]
 . erw[(kP k n6 h).1,(kP k n6 h).2.2]
def xq (h:TkOk ns ts p t) (hn:¬ t.z.aw.1="hear") (h1:¬ t.z.aw.1="believed") (h2:¬ t.z.aw.1="caught"):t.z.aw.1="coin":=by
 rcases h.gd.ww with e | e | e | e
 . exact absurd e hn
 . exact e
 . exact absurd e h2
 . exact absurd e h1
structure AskOk(ns:List Str)(ts:List Tr)(p:Int)(rows:List Hr)(t:Tk):Prop where
 ak:AkOk (t.ak ns ts p)
 bo:kM p t.bx
 aw:t.z.aw=(("hear":Str),some (awN t.z))
 a0:0<=awN t.z
 a5:awN t.z<=500
 ho:HearOk ns p t.z (t.said ns ts p rows)
def Beg.ask (k:GmK ns ts p) (n6:ns.length<=6) (h:Beg ns ts p t) (hw:t.z.aw.1="hear"):AskOk ns ts p rows t:=by
 rcases h with rfl | h
 . let%[ak0,an0,ho0|bo0]:=vk (rows:=rows) k n6;let t1:=k.t1;let t10:=k.t10;erw[ak0,bo0,1,by rw[an0];omega,by rw[an0];omega,ho0]
 . let%[ak,a0,a5,tl,aw|ea]:=h.ak k n6 hw;erw[ak,h.bo,aw,a0,a5,h.hear (rows:=rows) k n6 hw]
def Beg.asked (k:GmK ns ts p) (n6:ns.length<=6) (h:Beg ns ts p t) (hw:t.z.aw.1="hear"):TkOk ns ts p (t.ask ns ts p rows):=by
 rcases h with rfl | h
 . exact(jF (rows:=rows) k n6).1
 . exact(h.ask (rows:=rows) k n6 hw).1
end
section
variable {C CM CA CG:Addr}
structure TalkAt(C CM CG:Addr)(H:Hp)(D M g h b:Addr)(rows:List Hr)(ns:List Str)(ts:List Tr)(p:Int)(t:Tk)(m:Nat):Prop where
 DA:DbAt C H D g t.z
 G:Gm CG H g ns ts p
 hM:∃dm,H M=some (.ins CM dm (ml g h t.nr b))
 hh:∃rv,H h=some (.tup rv)/\RowsAt H rv rows
 BX:BxAt H b t.bx m
 ne:D≠M
def TalkAt.same(w:TalkAt C CM CG H D M g h b rows ns ts p t m)(s:Same H H'):TalkAt C CM CG H' D M g h b rows ns ts p t m:=by
 erw[DA,G,%[dm|hM],%[rv,hh|R],B,ne]at w;erw[DA.same s,G.same s,%[dm|s _ _ hM],%[rv,s _ _ hh|R.mono (aY s)],B.keep λo e=>s _ _ e,ne]
def DbAt.but2{C' dm:Addr}{fs:List (Str×V)}{NS:List (Key×V)}(h:DbAt C H D g z)(s:HN M b H H')(hM:H M=some (.ins C' dm fs))(hb:H b=some (.dK NS))(ne:D≠M):DbAt C H' D g z:=by
 erw[dx,aA,aC,aH,aT,R]at h;let kT:bL H H':=λa xs e=>s _ _ (bp e hM nofun) (bp e hb nofun) e
 erw[dx,aA,aC,aH,aT,s _ _ ne (bp R.hD hb nofun) R.hD,kT _ _ R.hA,kT _ _ R.hC,kT _ _ R.hH,kT _ _ R.hT]
def Gm.but2{dm:Addr}{NS:List (Key×V)}(G:Gm CG H g ns ts p)(s:HN M b H H')(hM:H M=some (.ins CM dm (ml g' h r b')))(hb:H b=some (.dK NS)):Gm CG H' g ns ts p:=by
 erw[a,b1,d,tv,%[dg|hg],h2,h3,h4,h5]at G;let kT:bL H H':=λa xs e=>s _ _ (bp e hM nofun) (bp e hb nofun) e
 let gM:g≠M:=λe=>by
  rw[e,hM]at hg;cases hg
 erw[a,b1,d,tv,%[dg|s _ _ gM (bp hg hb nofun) hg],kT _ _ h2,kT _ _ h3,h4.mono kT,s _ _ (bp h5 hM nofun) (bp h5 hb nofun) h5]
def TalkAt.doub(w:TalkAt C CM CG H D M g h b rows ns ts p t m)(s:SameBut D H H')(DA:DbAt C H' D g z'):TalkAt C CM CG H' D M g h b rows ns ts p %[z',t.bx|t.nr] m:=by
 erw[DA0,G,%[dm|hM],%[rv,hh|R],B,ne]at w;erw[dx,aA,aC,aH,aT,R0]at DA0;let kT:bL H H':=λa xs e=>s _ _ (bp e R0.hD nofun) e
 let%[NS,hb|_]:=id B;erw[DA,G.but R0.hD (G.ne R0.hD iY) s,%[dm|s _ _ ne.symm hM],%[rv,kT _ _ hh|R.mono kT],B.keep λo e=>s _ _ (bp hb R0.hD nofun) e,ne]
instance spAsked(C CM CG:Addr):∀(D M g h b:Addr) (rows:List Hr) (ns:List Str) (ts:List Tr) (p:Int) (t:Tk) (m:Nat),vs=[.ref M,.ref D]->TalkAt C CM CG H D M g h b rows ns ts p t m->GmK ns ts p->(∀r∈rows,r.good)->AkOk (t.ak ns ts p)->kM p t.bx->t.z.aw=(("hear":Str),some (awN t.z))->0<=awN t.z->awN t.z<=500->HearOk ns p t.z (t.said ns ts p rows)->m<=5000->(∀(a:Addr) (H':Hp),H a=none->H' a=some (.tup ((t.said ns ts p rows).map V.int))->TalkAt C CM CG H' D M g h b rows ns ts p (t.ask ns ts p rows) (m+200)->But3 D M b H H'->Q (.ref a) H'):=1
def pV:FnScope ["machine","doubter","values"] Wh (ah jy):=%[|5]
structure Ways(P:Program)(w:World)(K:W.Frag)(mg:Str->Option Value)(base:Heap)(C CM CG fW fU fH fT fS:Addr)(fdW fdU fdH fdT fdS:FuncData):Prop where
 mW:Meth K C "waits" fW
 GW:#[1,fW,fdW,WA,spOf C λz v H=>∃a,v=.ref a/\H a=some (.tup (awV z.aw))]
 bW:Binds K fdW WA []
 mU:Meth K C "due" fU
 GU:#[1,fU,fdU,WA,spOf C λz v _=>v=.int z.ed]
 bU:Binds K fdU WA []
 mH:Meth K C "hear" fH
 GH:#[18,fH,fdH,WG,spHear C CG]
 bH:Binds K fdH WG []
 mT:Meth K C "toss" fT
 GT:#[17,fT,fdT,Wc,spToss C CG]
 bT:Binds K fdT Wc []
 mS:Meth K CM "say" fS
 GS:#[25,fS,fdS,WX,spSay CM CG]
 bS:Binds K fdS WX []
def TalkAt.asked{dm:Addr}{n1:Int}(w:TalkAt C CM CG H D M g h b rows ns ts p t m)(hM:H M=some (.ins CM dm (ml g h t.nr b)))(B1:BxAt H1 b (t.run ns ts p rows).bx (m+200))(hM1:H1 M=some (.ins CM dm (ml g h (t.nr+1) b)))(s1:HN M b H H1)(e1:n1=t.nr+1):TalkAt C CM CG H1 D M g h b rows ns ts p %[t.z,(t.run ns ts p rows).bx|n1] (m+200):=by
 erw[DA0,G,_,%[rv,hh|R],B,ne]at w;let%[NS,hb|_]:=id B;let kT:bL H H1:=λa xs e=>s1 _ _ (bp e hM nofun) (bp e hb nofun) e
 subst e1;erw[DA0.but2 s1 hM hb ne,G.but2 s1 hM hb,%[dm|hM1],%[rv,kT _ _ hh|R.mono kT],B1,ne]
def sR   (F:Fun K "asked_once" "asked_once" jy f fd) (B:Bl mg) (T:DTxt K mg C) (TM:MTxt K mg CM) (Y:Ways P w K mg base C CM CG fW fU fH fT fS fdW fdU fdH fdT fdS):#[26,f,fd,Wh,spAsked C CM CG]:=by
 exists pV
 erw[D,M,g,h,b,rows,ns,ts,p,t,m,1,W,k,rg,ok,bo,aw,a0,a5,ho,mm,q]at h;let hr1:Room 1 _:=hr.mono ⋯;let hr18:Room 18 _:=hr.mono ⋯;let hr25:Room 25 _:=hr.mono ⋯;refine⟨_,(aa #[ai,2,pV,bQ (pv 0) TM.cl Y.mS Y.GS hr25 Y.bS .nil aZ %[aM ix_tup (bK (pv 1) T.cl Y.mW Y.GW hr1 Y.bW .nil aZ) ae #[1],bK (pv 1) T.cl Y.mU Y.GU hr1 Y.bU .nil aZ,ay (pv 1) rfl,bt oh rfl B.list lU %[ay (pv 1) rfl|aP]|aP]]
  (aa (aW (bQ (pv 1) T.cl Y.mH Y.GH hr18 Y.bH .nil aZ %[2|aP]))
  (ad (am (bt bb rfl B.tuple bu %[2|aP]))))),?_⟩
 erw[dm,hM]at W.hM;let DA:=W.DA;let%[dx,aA,aC,aH,aT|R]:=id DA;erw[0,M,dm,0,hM,Ie,0,D,dx,0,R.hD,pJ,D,g,t.z,1,DA,λv hv=>?_];erw[av,1,hav]at hv;rw[aw]at hav;erw[av,_,(1),.int (awN t.z),1,1,zD0 hav,1,0,D,dx,0,R.hD,dl_n2,D,g,t.z,1,DA,λv hv=>?_];subst hv;erw[0,D,C,dx,_,0,R.hD,9,T.nS,Jz,0,D,C,dx,_,0,R.hD,9,T.nT,yV,aT,0,.inr (zD0 R.hT),λl hl=>?_];let I:=zC0 hl (.lst (t.z.to.map V.int));let g1:upd H l (.lst (t.z.to.map V.int)) l=some (.lst (t.z.to.map V.int)):=aJ;generalize upd H l (.lst (t.z.to.map V.int))=H1 at I g1;let W1:=W.same I;erw[rv,hh,RW]at W1.hh;erw[M,g,h,b,dm,l,rv,t.ak ns ts p,rows,t.bx,m,1,I _ _ hM,hh,RW,rg,W1.BX,bo,mm,W1.G,ok,.inl g1,a0,a5,λl2 H2 l20 hl2 B2 hM2 S2=>?_];let hs:H2 l2=some (.lst ((t.said ns ts p rows).map V.int)):=hl2;let W2:=W1.asked (n1:=t.nr+1) (I _ _ hM) B2 hM2 S2 rfl;let%[NX,_,_,_,_|R2]:=id W2.DA;erw[0,D,NX,0,R2.hD,dl_n4,0,D,g,l2,t.z,t.said ns ts p rows,ns,ts,p,1,W2.DA,W2.G,k,hs,ho.aw,ho.xo,ho.x5,ho.ro,ho.tl,ho.po,λH3 S3 DA3=>?_];let W3:=W2.doub S3 DA3;let hs3:=S3 _ _ (bp hs R2.hD nofun) hs;erw[0,l2,0,.inl %[zH0 hs3|λa ha=>?_]];let J:=zC0 ha (.tup ((t.said ns ts p rows).map V.int));let fr:But3 D M b H H3:=λc o h1 h2 h3 e=>S3 _ _ h1 (S2 _ _ h2 h3 (I _ _ e))
 refine q a _ ?_ aJ (W3.same J) (λc o h1 h2 h3 e=>J _ _ (fr c o h1 h2 h3 e));cases e:H a with
 | none=>rfl
 | some o=>
   erw[dx3,_,_,_,_,R3]at W3.DA;erw[dm3,hM3]at W3.hM;erw[NS,hb3,_]at W3.BX;let n1:a≠D:=λz=>by rw[z,R3.hD]at ha;cases ha
   let n2:a≠M:=λz=>by rw[z,hM3]at ha;cases ha
   let n3:a≠b:=λz=>by rw[z,hb3]at ha;cases ha
   rw[fr a o n1 n2 n3 e]at ha;cases ha
end
section
variable {C CM CA CG:Addr}
inductive TRAt(H:Hp):V->TR->Prop
 | claims {a b:Addr} {xs:List Int}:H a=some (.tup [.str "claims",.ref b])->H b=some (.tup (xs.map V.int))->TRAt H (.ref a) (.claims xs)
 | say {a b:Addr} {xs:List Int}:H a=some (.tup [.str "say",.ref b])->H b=some (.tup (xs.map V.int))->TRAt H (.ref a) (.say xs)
 | coin {a:Addr} {r:Int}:H a=some (.tup [.str "coin",.int r])->TRAt H (.ref a) (.coin r)
def TRAt.mono(k:bL H H')(h:TRAt H v r):TRAt H' v r:=by
 cases h with
 | claims e f=>exact .claims (k _ _ e) (k _ _ f)
 | say e f=>exact .say (k _ _ e) (k _ _ f)
 | coin e=>exact .coin (k _ _ e)
def TRsAt(H:Hp):List V->List TR->Prop
 | [],[]=>True
 | v::vs,r::rs=>TRAt H v r/\TRsAt H vs rs
 | _,_=>False
def TRsAt.mono(k:bL H H'):∀{vs:List V}{rs:List TR},TRsAt H vs rs->TRsAt H' vs rs
 | [],[],_=>trivial
 | _::_,_::_,h=>%[h.1.mono k|TRsAt.mono k h.2]
 | [],_::_,h=>h.elim
 | _::_,[],h=>h.elim
def TRsAt.snoc(hr:TRAt H v r):∀{vs:List V}{rs:List TR},TRsAt H vs rs->TRsAt H (vs++[v]) (rs++[r])
 | [],[],_=>%[hr|trivial]
 | _::_,_::_,h=>%[h.1|TRsAt.snoc hr h.2]
 | [],_::_,h=>h.elim
 | _::_,[],h=>h.elim
structure Told(H:Hp)(a:Addr)(x:List TR×Tk):Prop where
 ex:∃(b c:Addr)(vs:List V),H a=some (.tup [.ref b,.ref c])/\H b=some (.tup vs)/\TRsAt H vs x.1/\H c=some (.tup (awV x.2.z.aw))
def hc_in (o:Str):inV (.str o) [.str "hear",.str "coin"]=(decide (o="hear")||decide (o="coin")):=by
 show (("hear"==o)||(("coin"==o)||false))=_;rw[Bool.or_false];let e:∀z:Str,(z==o)=decide (o=z):=λz=>by
  by_cases c:o=z
  . subst c;simp
  . rw[zB1 c];simpa using λh=>c h.symm
 rw[e,e]
instance spTalked(C CM CG:Addr):∀(g h c:Addr)(rv:List V)(rows:List Hr)(ns:List Str)(ts:List Tr)(p:Int)(cs:List Int),vs=[.ref g,.ref h,.ref c]->Gm CG H g ns ts p->GmK ns ts p->ns.length<=6->H h=some (.tup rv)->RowsAt H rv rows->(∀r∈rows,r.good)->IntsAt H c cs->cw cs p->ns.length+(if 1<ts.length then 1 else 0)<=cs.length->cs.length<=100->(∀(a:Addr)(H':Hp),Same H H'->Told H' a (eG ns ts p rows cs)->Q (.ref a) H'):=1
def gX:FnScope ["game","helper","coins","machine","doubter","talk","tossed"] Wu (ah qI):=%[|5]
def Cj(a:Str×Option Int):atI (awV a) 0=some (.str a.1):=cx (j:=0) (Im a)
def dQ      {n:Nat} {t:Tk} (h:t.z.aw.1="hear"):bY ns ts p rows cs (n+1) t=(.say (t.said ns ts p rows)::(bY ns ts p rows cs n (t.ask ns ts p rows)).1,(bY ns ts p rows cs n (t.ask ns ts p rows)).2):=NQ h
def dR      {n:Nat} {t:Tk} (h:t.z.aw.1="coin"):bY ns ts p rows cs (n+1) t=(.coin (cs.headD 0)::(bY ns ts p rows cs.tail n (t.toss ns ts p (cs.headD 0))).1,(bY ns ts p rows cs.tail n (t.toss ns ts p (cs.headD 0))).2):=by
 show(if _ then _ else if _ then _ else _)=_;rw[NP (by rw[h];exact iH),NQ h]
def eR     (h:TkOk ns ts p t) (hw:t.z.aw.1="hear"∨t.z.aw.1="coin"):1<=cf ns t.z/\(t.z.aw.1="coin" -> 1<=bV ns t.z):=by
 rcases hw with hw | hw
 . let tl:t.z.to.length<ns.length:=by
    rcases h.gd.he hw with⟨e,_⟩ | ⟨_,tl,_⟩
    . exact absurd e h.cl
    . exact tl
   erw[6,λz=>absurd (z.symm.trans hw) iH]
   have:cf ns t.z=2*(ns.length-t.z.to.length):=NQ hw
   omega
 . let nh:¬ t.z.aw.1="hear":=by rw[hw];exact iH
   let s1:cf ns t.z=if t.z.he=[]then 2*ns.length+1 else 2*(ns.length-t.z.to.length)-1:=by unfold cf;rw[NP nh,NQ hw]
   let s2:bV ns t.z=if t.z.he=[]then ns.length+1 else ns.length-t.z.to.length:=by unfold bV;rw[NP nh,NQ hw]
   by_cases c:t.z.he=[]
   . rw[NQ c]at s1 s2;erw[3,λ_=>by omega]
   . let tl:=((h.gd.co hw).2 c).2;rw[NP c]at s1 s2;erw[3,λ_=>by omega]
def BZ{cs:List Int}{u:Nat}(h:u<cs.length):(cs.drop u).headD 0=cs.getD u 0/\(cs.drop u).tail=cs.drop (u+1):=by
 rw[jP1 h,qM0,zM0 h];erw[1,1]
def zW{K:W.Frag}{u:Nat}{Q:VK}(h:IntsAt H c cs)(hu:u<cs.length)(q:Q (.int (cs.getD u 0)) H):rIx K (.ref c) (.int (u:Int)) H Q:=
 h.elim (λe=>.inl %[c,_,2,zH0 e,nq hu|q]) (λe=>.inr (.inl %[c,_,2,zD0 e,nq hu|q]))
def TalkAt.put{L:Addr}{ys zs:List V}(w:TalkAt C CM CG H D M g h b rows ns ts p t m)(hL:H L=some (.lst ys))(G:Gm CG (upd H L (.lst zs)) g ns ts p):TalkAt C CM CG (upd H L (.lst zs)) D M g h b rows ns ts p t m:=by
 erw[%[dx,aA,aC,aH,aT|R],_,%[dm|hM],%[rv,hh|RR],B,ne]at w;let kT:bL H (upd H L (.lst zs)):=dH hL;let U:∀{c:Addr}{o:HO},c≠L->H c=some o->upd H L (.lst zs) c=some o:=λn e=>by rw[aB n];exact e
 let%[NS,hb|_]:=id B;erw[%[dx,aA,aC,aH,aT,U (bp R.hD hL nofun) R.hD,kT _ _ R.hA,kT _ _ R.hC,kT _ _ R.hH|kT _ _ R.hT],G,%[dm|U (bp hM hL nofun) hM],%[rv,kT _ _ hh|RR.mono kT],B.keep λo e=>U (bp hb hL nofun) e,ne]
def TRsAt.len:∀{vs:List V}{rs:List TR},TRsAt H vs rs->vs.length=rs.length
 | [],[],_=>rfl
 | _::_,_::_,h=>congrArg (·+1) (TRsAt.len h.2)
 | [],_::_,h=>h.elim
 | _::_,[],h=>h.elim
def Bd   (F:Fun K "talked" "talked" qI f fd) (B:Bl mg) (T:DTxt K mg C) (TM:MTxt K mg CM) (Y:Ways P w K mg base C CM CG fW fU fH fT fS fdW fdU fdH fdT fdS)
 (MD:Mk K C fI) (GD:#[1,fI,fdI,WJ,spDInit C CG]) (bD:Binds K fdI WJ []) (MM:Mk K CM fM) (GM:#[1,fM,fdM,WI,spMInit CM]) (bM:Binds K fdM WI [])
 (b6:#[26,"asked_once",Wh,spAsked C CM CG]):#[27,f,fd,Wu,spTalked C CM CG]:=by
 exists gX
 erw[g,h,c,rv,rows,ns,ts,p,cs,1,G,k,n6,hh,RW,rg,hc,co,cl,c100,q]at h;let hr1:Room 1 _:=hr.mono ⋯;let hr2:Room (1+1) _:=hr.mono ⋯;let hr17:Room 17 _:=hr.mono ⋯;refine⟨_,(aa #[ai,3,gX,gn MM GM hr2 rfl TM.mgC bM .nil aZ %[0,1|aP]]
  (aa #[ai,4,gX,gn MD GD hr2 rfl T.mgC bD .nil aZ %[0|aP]]
  (aa #[ai,5,gX,dL %[aF %[ao,aj b6 hr ⋯ rfl %[3,4|aP]|aP]|aP]]
  (aa #[ai,6,gX,ae]
  (aa (im zF1 (ag fY (aM ix_tup (bK (pv 4) T.cl Y.mW Y.GW hr1 Y.bW .nil aZ) ae #[1]) (aF %[ao,ao|aP]) (by rfl')) (ad (aI (ag aR (aM ix_tup (bK (pv 4) T.cl Y.mW Y.GW hr1 Y.bW .nil aZ) ae #[1]) ao (ax _)) (ad (aW (eC zE1 zH1 zI1 ca (pv 5) %[aF %[ao,aj b6 hr ⋯ rfl %[3,4|aP]|aP]|aP]))) (aa (aW (bQ (pv 4) T.cl Y.mT Y.GT hr17 Y.bT .nil aZ %[aM EJ (pv 2) (pv 6) #[1]|aP]))
   (aa (aW (eC zE1 zH1 zI1 ca (pv 5) %[aF %[ao,aM EJ (pv 2) (pv 6) #[1]|aP]|aP]))
   (ad #[ai,6,gX,aq aS (pv 6) ae]))))))
  (ad (am (aF %[bt bb rfl B.tuple bu %[5|aP],bK (pv 4) T.cl Y.mW Y.GW hr1 Y.bW .nil aZ|aP])))))))),?_⟩
 erw[0,0,λM dm hM0 hdm0 nM=>?_];let K1:Same H (upd (upd H dm (.own M)) M (.ins CM dm [])):=λa o e=>by
  rw[aB (aQ e hM0),aB (aQ e hdm0)];exact e
 erw[M,g,h,dm,1,aJ,λb H2 b0 hM2 hb2 S2=>%[1|6]];let T2:Same H H2:=Same.but K1 hM0 S2;let b00:H b=none:=K1.free b0;clear K1 S2 b0;erw[0,λD dd hD0 hdd0 nD=>?_];let K3:Same H2 (upd (upd H2 dd (.own D)) D (.ins C dd [])):=λa o e=>by
  rw[aB (aQ e hD0),aB (aQ e hdd0)];exact e
 let G2:=G.same T2;let gD:g≠D:=by
  erw[_,_,_,_,%[dg|hg],_]at G2;exact aQ hg hD0
 erw[D,g,dd,ns,ts,p,1,aJ,G2.same K3,gD,λH4 S4 DA4=>%[1|6]];let T24:Same H2 H4:=Same.but K3 hD0 S4;let T4:Same H H4:=T2.trans T24;let D00:H D=none:=T2.free hD0;let nDM:D≠M:=(aQ hM2 hD0).symm;let W4:TalkAt C CM CG H4 D M g h b rows ns ts p (Tk.new ts) 0:=⟨DA4,G.same T4,⟨dm,T24 _ _ hM2⟩,⟨rv,T4 _ _ hh,RW.mono (aY T4)⟩,⟨[],T24 _ _ hb2,zG0 _,λ_=>rfl⟩,nDM⟩
 clear K3 S4 DA4 T24 hM2 hb2 G2 T2;let%[ak0,an0,ho0|bo0]:=vk (rows:=rows) k n6;let t1:=k.t1;let t10:=k.t10;erw[0,0,D,M,g,h,b,rows,ns,ts,p,Tk.new ts,(0),1,W4,k,rg,ak0,bo0,1,by rw[an0];omega,by rw[an0];omega,ho0,4,λa5 H5 a50 ha5 W5 S5=>?_];let T5:Same H H5:=λa o e=>S5 _ _ (aQ e D00) (aQ e hM0) (aQ e b00) (T4 _ _ e)
 erw[y2S,λt6 h6=>%[y1S|λL hL=>?_]];let I6:=zC0 h6 (.tup [.str "claims",.ref a5]);let I7:=zC0 hL (.lst [.ref t6]);let R7:TRsAt (upd (upd H5 t6 (.tup [.str "claims",.ref a5])) L (.lst [.ref t6])) [.ref t6] [.claims ((Tk.new ts).said ns ts p rows)]:=%[.claims (I7 _ _ aJ) (I7 _ _ (I6 _ _ ha5))|trivial]
 let g7:upd (upd H5 t6 (.tup [.str "claims",.ref a5])) L (.lst [.ref t6]) L=some (.lst [.ref t6]):=aJ;let J7:=I6.trans I7;let L00:H L=none:=(T5.trans I6).free hL;generalize upd (upd H5 t6 (.tup [.str "claims",.ref a5])) L (.lst [.ref t6])=H7 at R7 g7 J7;let%[ok7,st7,co7|_]:=jF (rows:=rows) k n6;let W7:=W5.same J7;let T7:=T5.trans J7;clear I6 I7 J7 S5 T5 W5 W4 T4 ha5 h6 hL;erw[λmm σ H'=>∃(t:Tk) (n u m:Nat) (rs:List TR) (vs:List V),σ=[some (.ref g),some (.ref h),some (.ref c),some (.ref M),some (.ref D),some (.ref L),some (.int (u:Int))]/\mm=n/\cf ns t.z<=n/\n<=20/\TalkAt C CM CG H' D M g h b rows ns ts p t m/\TkOk ns ts p t/\H' L=some (.lst vs)/\TRsAt H' vs rs/\(rs++(bY ns ts p rows (cs.drop u) n t).1,(bY ns ts p rows (cs.drop u) n t).2)=eG ns ts p rows cs/\bV ns t.z+u<=cs.length/\m+200*n<=4200/\rs.length+n<=21/\Same H H',%[(20),(Tk.new ts).ask ns ts p rows,(20),(0),(200),2,3,zG0 _,W7,ok7,g7,R7,1,3,4,(by show 1+20<=21;decide)|T7],6]
 clear st7 co7 ok7 W7 T7 R7 g7 ak0 an0 ho0 bo0;rintro mm σ H' ⟨t,n,u,m,rs,vs,rfl,rfl,sn,n20,W,ok,hL,TR,eq,cn,mn,rn,S⟩;let DA:=W.DA;let%[dx,aA,aC,aH,aT|R]:=id DA;let p2:=k.p2;let vl:=TR.len;erw[0,D,dx,0,R.hD,pJ,D,g,t.z,1,DA,λv hv=>?_];erw[av,1,hav]at hv;erw[av,_,(0),0,1,zD0 hav,Cj _,y2S,λc1 hc1=>?_];let I1:=zC0 hc1 (.tup [.str "hear",.str "coin"]);erw[c1,0,.inr (zD0 aJ),1,1,0,6];generalize upd H' c1 (.tup [.str "hear",.str "coin"])=H1 at I1;let W1:=W.same I1;let DA1:=W1.DA;let hL1:=I1 _ _ hL;let TR1:=TR.mono (aY I1);let S1:=S.trans I1;let%[dx1,aA1,aC1,aH1,aT1|R1]:=id DA1;show if inV (.str t.z.aw.1) [.str "hear",.str "coin"]=true then _ else _
 rw[hc_in];clear W DA R hL TR S hav I1
 by_cases ch:t.z.aw.1="hear"
 . rw [zD1 ch,Bool.true_or];refine eF ?_;erw[_,λ_ _ h=>h,6];erw[0,D,dx1,0,R1.hD,pJ,D,g,t.z,1,DA1,λv hv=>?_];erw[av2,1,hav2]at hv;erw[av2,_,(0),0,1,zD0 hav2,Cj _,1,0,aV (congrArg V.str ch) ?_];let sp:=(eR ok (.inl ch)).1;obtain⟨n',rfl⟩:∃n',mm=n'+1:=⟨mm-1,by omega⟩
   let%[ak,a0,a5,tl,aw|ea]:=ok.ak k n6 ch;let ho:=ok.hear (rows:=rows) k n6 ch;let%[ok',st',co'|_]:=ok.ask (rows:=rows) k n6 ch;erw[0,.inl %[1,_|zH0 hL1],0,0,D,M,g,h,b,rows,ns,ts,p,t,m,1,W1,k,rg,ak,ok.bo,aw,a0,a5,ho,3,λa6 H6 a60 ha6 W6 S6=>?_];erw[dmw,hMw]at W1.hM;erw[kvw,hbw,_]at W1.BX;let kT6:bL H1 H6:=λa xs e=>S6 _ _ (bp e R1.hD nofun) (bp e hMw nofun) (bp e hbw nofun) e
   let hL6:=S6 _ _ (bp hL1 R1.hD nofun) (bp hL1 hMw nofun) (bp hL1 hbw nofun) hL1;let S06:Same H H6:=λa o e=>S6 _ _ (aQ e D00) (aQ e hM0) (aQ e b00) (S1 _ _ e)
   erw[y2S,λt7 h7=>?_];let I7:=zC0 h7 (.tup [.str "say",.ref a6]);let R7:TRAt (upd H6 t7 (.tup [.str "say",.ref a6])) (.ref t7) (.say (t.said ns ts p rows)):=.say aJ (I7 _ _ ha6);generalize upd H6 t7 (.tup [.str "say",.ref a6])=H7 at I7 R7;let hL7:=I7 _ _ hL6;erw[L,2,hL7,aN #[0],6];let k8:bL H7 (upd H7 L (.lst (vs++[.ref t7]))):=dH hL7;let S8:Same H (upd H7 L (.lst (vs++[.ref t7]))):=λa o e=>by
    rw[aB (aQ e L00)];exact I7 _ _ (S06 _ _ e)
   erw[n',qI1 _,t.ask ns ts p rows,n',u,m+200,rs++[.say (t.said ns ts p rows)],0,1,3,3,(W6.same I7).put hL7 (G.same S8),ok',aJ,((TR1.mono (λa xs e=>k8 _ _ (I7 _ _ (kT6 _ _ e)))).snoc (R7.mono k8)),6,3,3,by rw[zK0];show rs.length+1+n'<=21;omega,S8];rw[←eq,dQ ch,jC0];rfl
 . rw [zB1 ch,Bool.false_or]
   by_cases cc:t.z.aw.1="coin"
   . rw [zD1 cc];refine eF ?_;erw[_,λ_ _ h=>h,6];erw[0,D,dx1,0,R1.hD,pJ,D,g,t.z,1,DA1,λv hv=>?_];erw[av2,1,hav2]at hv;erw[av2,_,(0),0,1,zD0 hav2,Cj _,1,0,aD (neS ch) ?_];let%[sp|cp]:=eR ok (.inr cc);let cp:=cp cc;obtain⟨n',rfl⟩:∃n',mm=n'+1:=⟨mm-1,by omega⟩
     let hu:u<cs.length:=by omega
     let%[dh|dt]:=BZ hu;let rr:=nK co #[0] u;let%[ok',st',co'|_]:=ok.toss k cc rr.1 rr.2;let to:=ok.tossOk cc rr.1 rr.2;erw[0,D,dx1,0,R1.hD,Ik,0,0,zW (hc.same S1) hu ?_];erw[D,g,t.z,cs.getD u 0,ns,ts,p,1,DA1,W1.G,k,to.aw,to.r0,to.r1,to.tl,to.ro,to.po,λH6 S6 DA6=>?_];let W6:=W1.doub S6 DA6;let kT6:bL H1 H6:=λa xs e=>S6 _ _ (bp e R1.hD nofun) e
     let hL6:=S6 _ _ (bp hL1 R1.hD nofun) hL1;let S06:Same H H6:=λa o e=>S6 _ _ (aQ e D00) (S1 _ _ e)
     erw[0,.inl %[1,_|zH0 hL6],0,0,zW (hc.same S06) hu ?_];erw[y2S,λt7 h7=>?_];let I7:=zC0 h7 (.tup [.str "coin",.int (cs.getD u 0)]);let R7:TRAt (upd H6 t7 (.tup [.str "coin",.int (cs.getD u 0)])) (.ref t7) (.coin (cs.getD u 0)):=.coin aJ;generalize upd H6 t7 (.tup [.str "coin",.int (cs.getD u 0)])=H7 at I7 R7;let hL7:=I7 _ _ hL6;erw[L,2,hL7,aN #[0],6];let k8:bL H7 (upd H7 L (.lst (vs++[.ref t7]))):=dH hL7;let S8:Same H (upd H7 L (.lst (vs++[.ref t7]))):=λa o e=>by
      rw[aB (aQ e L00)];exact I7 _ _ (S06 _ _ e)
     erw[0,2,6];erw[n',qI1 _,t.toss ns ts p (cs.getD u 0),n',u+1,m,rs++[.coin (cs.getD u 0)],0,1,3,3,(W6.same I7).put hL7 (G.same S8),ok',aJ,((TR1.mono (λa xs e=>k8 _ _ (I7 _ _ (kT6 _ _ e)))).snoc (R7.mono k8)),6,3,3,by rw[zK0];show rs.length+1+n'<=21;omega,S8];rw[←eq,dR cc,dh,dt,jC0];rfl
   . rw [zB1 cc];refine dI ?_;rw[du ch cc,qM1]at eq;erw[0,L,0,.inl %[zH0 hL1|λb8 hb8=>?_]];let I8:=zC0 hb8 (.tup vs);let g8:upd H1 b8 (.tup vs) b8=some (.tup vs):=aJ;generalize upd H1 b8 (.tup vs)=H8 at I8 g8;let DA8:=DA1.same I8;let%[dx8,_,_,_,_|R8]:=id DA8;erw[0,D,dx8,0,R8.hD,pJ,D,g,t.z,1,DA8,λv hv=>?_];erw[av2,1,hav2]at hv;erw[y2S,λa9 ha9=>?_];let I9:=zC0 ha9 (.tup [.ref b8,.ref av2]);refine q a9 _ (S1.trans (I8.trans I9)) %[b8,av2,vs,aJ,I9 _ _ g8,6|6]
     . rw[←eq];exact TR1.mono (aY (I8.trans I9))
     . rw[←eq];exact I9 _ _ hav2
end
section
variable {C CG:Addr}
abbrev uH:Stmt:=bq dz 11
instance spTwin(C CG:Addr):∀(D g:Addr)(z:Db)(ns:List Str)(ts:List Tr)(p:Int),vs=[.ref D]->DbAt C H D g z->Gm CG H g ns ts p->(∀(D2:Addr)(H':Hp),H D2=none->Same H H'->DbAt C H' D2 g z->Q (.ref D2) H'):=1
def Ko:FnScope ["self","other"] WA (ah uH):=%[|5]
def DZ   (F:Fun K "twin" "Doubter.twin" uH f fd) (T:DTxt K mg C) (MD:Mk K C fD) (GD:#[1,fD,fdD,WJ,spDInit C CG]) (bD:Binds K fdD WJ []):#[3,f,fd,WA,spTwin C CG]:=by
 exists Ko
 erw[D,g,z,ns,ts,p,1,%[dx,aA,aC,aH,aT|R],G,q]at h;let hr2:Room (1+1) _:=hr.mono ⋯;refine⟨_,(aa #[ai,1,Ko,gn MD GD hr2 rfl T.mgC bD .nil aZ %[ay (pv 0) rfl|aP]]
  (aa (aO (pv 1) (ay (pv 0) rfl) rfl)
  (aa (aO (pv 1) (ay (pv 0) rfl) rfl)
  (aa (aO (pv 1) (ay (pv 0) rfl) rfl)
  (aa (aO (pv 1) (ay (pv 0) rfl) rfl)
  (aa (aO (pv 1) (ay (pv 0) rfl) rfl)
  (aa (aO (pv 1) (ay (pv 0) rfl) rfl)
  (aa (aO (pv 1) (ay (pv 0) rfl) rfl)
  (ad (am (pv 1))))))))))),?_⟩
 erw[0,D,C,dx,_,0,R.hD,9,T.nG,iY,λD2 dD nD ndD neD=>?_];let s10:Same H (upd (upd H dD (.own D2)) D2 (.ins C dD [])):=λb o e=>by
  rw[aB (aQ e nD),aB (aQ e ndD)];exact e
 let gD:g≠D2:=by
  let%[a,b,d,tv,%[dg|hg]|_]:=id G;exact aQ hg nD
 erw[D2,g,dD,ns,ts,p,1,aJ,G.same s10,gD,λH0 S0 D0=>%[1|6]];let S00:Same H H0:=λb o e=>S0 b o (aQ e nD) (s10 b o e)
 let nDD:D≠D2:=aQ R.hD nD;erw[NX,aA2,aC2,aH2,aT2,R2]at D0;let h0:=R2.hD;generalize (Db.new ts).s=s2,(Db.new ts).ed=ed2,(Db.new ts).pl=pl2 at h0;let hD0:=S00 _ _ R.hD;erw[0,D,C,dx,_,0,hD0,9,T.nA,Fc,0,D2,C,NX,0,h0,9,T.nA,cM,6];rw[qY];let U0:SameBut D2 H0 (upd H0 D2 (.ins C NX (dl g aA aC2 s2 aH2 aT2 ed2 pl2))):=SameBut.upd _;let h1:upd H0 D2 (.ins C NX (dl g aA aC2 s2 aH2 aT2 ed2 pl2)) D2=some (.ins C NX (dl g aA aC2 s2 aH2 aT2 ed2 pl2)):=aJ;let hD1:=U0 _ _ nDD hD0;generalize upd H0 D2 (.ins C NX (dl g aA aC2 s2 aH2 aT2 ed2 pl2))=H1 at U0 h1 hD1;erw[0,D,C,dx,_,0,hD1,9,T.nC,JD,0,D2,C,NX,0,h1,9,T.nC,cM,6];rw[HY];let U1:SameBut D2 H1 (upd H1 D2 (.ins C NX (dl g aA aC s2 aH2 aT2 ed2 pl2))):=SameBut.upd _;let h2:upd H1 D2 (.ins C NX (dl g aA aC s2 aH2 aT2 ed2 pl2)) D2=some (.ins C NX (dl g aA aC s2 aH2 aT2 ed2 pl2)):=aJ;let hD2:=U1 _ _ nDD hD1;generalize upd H1 D2 (.ins C NX (dl g aA aC s2 aH2 aT2 ed2 pl2))=H2 at U1 h2 hD2;erw[0,D,C,dx,_,0,hD2,9,T.nS,Jz,0,D2,C,NX,0,h2,9,T.nS,cM,6];rw[HW];let U2:SameBut D2 H2 (upd H2 D2 (.ins C NX (dl g aA aC z.s aH2 aT2 ed2 pl2))):=SameBut.upd _;let h3:upd H2 D2 (.ins C NX (dl g aA aC z.s aH2 aT2 ed2 pl2)) D2=some (.ins C NX (dl g aA aC z.s aH2 aT2 ed2 pl2)):=aJ;let hD3:=U2 _ _ nDD hD2;generalize upd H2 D2 (.ins C NX (dl g aA aC z.s aH2 aT2 ed2 pl2))=H3 at U2 h3 hD3;erw[0,D,C,dx,_,0,hD3,9,T.nH,JC,0,D2,C,NX,0,h3,9,T.nH,cM,6];rw[HX];let U3:SameBut D2 H3 (upd H3 D2 (.ins C NX (dl g aA aC z.s aH aT2 ed2 pl2))):=SameBut.upd _;let h4:upd H3 D2 (.ins C NX (dl g aA aC z.s aH aT2 ed2 pl2)) D2=some (.ins C NX (dl g aA aC z.s aH aT2 ed2 pl2)):=aJ;let hD4:=U3 _ _ nDD hD3;generalize upd H3 D2 (.ins C NX (dl g aA aC z.s aH aT2 ed2 pl2))=H4 at U3 h4 hD4;erw[0,D,C,dx,_,0,hD4,9,T.nT,yV,0,D2,C,NX,0,h4,9,T.nT,cM,6];rw[Dz];let U4:SameBut D2 H4 (upd H4 D2 (.ins C NX (dl g aA aC z.s aH aT ed2 pl2))):=SameBut.upd _;let h5:upd H4 D2 (.ins C NX (dl g aA aC z.s aH aT ed2 pl2)) D2=some (.ins C NX (dl g aA aC z.s aH aT ed2 pl2)):=aJ;let hD5:=U4 _ _ nDD hD4;generalize upd H4 D2 (.ins C NX (dl g aA aC z.s aH aT ed2 pl2))=H5 at U4 h5 hD5;erw[0,D,C,dx,_,0,hD5,9,T.nE,Aj,0,D2,C,NX,0,h5,9,T.nE,cM,6];rw[xZ];let U5:SameBut D2 H5 (upd H5 D2 (.ins C NX (dl g aA aC z.s aH aT z.ed pl2))):=SameBut.upd _;let h6:upd H5 D2 (.ins C NX (dl g aA aC z.s aH aT z.ed pl2)) D2=some (.ins C NX (dl g aA aC z.s aH aT z.ed pl2)):=aJ;let hD6:=U5 _ _ nDD hD5;generalize upd H5 D2 (.ins C NX (dl g aA aC z.s aH aT z.ed pl2))=H6 at U5 h6 hD6;erw[0,D,C,dx,_,0,hD6,9,T.nP,Ai,0,D2,C,NX,0,h6,9,T.nP,cM,6];rw[uT];let U6:SameBut D2 H6 (upd H6 D2 (.ins C NX (dl g aA aC z.s aH aT z.ed z.pl))):=SameBut.upd _;let h7:upd H6 D2 (.ins C NX (dl g aA aC z.s aH aT z.ed z.pl)) D2=some (.ins C NX (dl g aA aC z.s aH aT z.ed z.pl)):=aJ;let hD7:=U6 _ _ nDD hD6;generalize upd H6 D2 (.ins C NX (dl g aA aC z.s aH aT z.ed z.pl))=H7 at U6 h7 hD7;let U:SameBut D2 H0 H7:=U0.trans (U1.trans (U2.trans (U3.trans (U4.trans (U5.trans U6)))));let S07:Same H H7:=λb o e=>U b o (aQ e nD) (S00 b o e)
 erw[0,q D2 H7 nD S07 %[NX,aA,aC,aH,aT,h7,S07 _ _ R.hA,S07 _ _ R.hC,S07 _ _ R.hH|S07 _ _ R.hT]]
end
section
variable {CM CA CG:Addr}
abbrev uC:Stmt:=bq kR 4
def ml_n4  :(ml g h r b).lookup ("twin":Str)=none:=by rfl'
def Hc {b':Addr} :cD "boxes" (.ref b') (ml g h r b)=ml g h r b':=by rfl'
instance spMTwin(CM:Addr):∀(M g h b dm:Addr)(r:Int)(bx:Str->Int)(m:Nat),vs=[.ref M]->H M=some (.ins CM dm (ml g h r b))->BxAt H b bx m->(∀(M' dm' b':Addr)(H':Hp),H M'=none->H b'=none->H' M'=some (.ins CM dm' (ml g h r b'))->BxAt H' b' bx m->Same H H'->Q (.ref M') H'):=1
def Kp:FnScope ["self","other"] WA (ah uC):=%[|5]
def DV   (F:Fun K "twin" "Machine.twin" uC f fd) (B:Bl mg) (T:MTxt K mg CM) (MM:Mk K CM fI) (GI:#[1,fI,fdI,WI,spMInit CM]) (bI:Binds K fdI WI []):#[3,f,fd,WA,spMTwin CM]:=by
 exists Kp
 erw[M,g,h,b,dm,r,bx,m,1,hM,BX,q]at h;let hr2:Room (1+1) _:=hr.mono ⋯;refine⟨_,(aa #[ai,1,Kp,gn MM GI hr2 rfl T.mgC bI .nil aZ %[ay (pv 0) rfl,ay (pv 0) rfl|aP]]
  (aa (aO (pv 1) (ay (pv 0) rfl) rfl)
  (aa (aO (pv 1) (bt zc rfl B.dict zh %[ay (pv 0) rfl|aP]) rfl)
  (ad (am (pv 1)))))),?_⟩
 erw[0,M,CM,dm,_,0,hM,9,T.nG,ml_g,0,M,CM,dm,_,0,hM,9,T.nH,Hd,λN dn hN hdn nN=>?_];let S1:Same H (upd (upd H dn (.own N)) N (.ins CM dn [])):=λa o e=>by
  rw[aB (aQ e hN),aB (aQ e hdn)];exact e
 let g1:upd (upd H dn (.own N)) N (.ins CM dn []) N=some (.ins CM dn []):=aJ;generalize upd (upd H dn (.own N)) N (.ins CM dn [])=H1 at S1 g1;erw[N,g,h,dn,1,g1,λb1 H2 hb1 hN2 _ S2=>%[1|6]];let S02:Same H H2:=Same.but S1 hN S2;let hM2:=S02 _ _ hM;let nMN:M≠N:=aQ hM hN;erw[0,M,CM,dm,_,0,hM2,9,T.nR,Jd,0,N,CM,dn,0,hN2,9,T.nR,yD,6];rw[Ev];let S3:SameBut N H2 (upd H2 N (.ins CM dn (ml g h r b1))):=SameBut.upd _;let hN3:upd H2 N (.ins CM dn (ml g h r b1)) N=some (.ins CM dn (ml g h r b1)):=aJ;generalize upd H2 N (.ins CM dn (ml g h r b1))=H3 at S3 hN3;let S03:Same H H3:=Same.but S02 hN S3;erw[NS,eb,lb,hx]at BX;erw[0,M,CM,dm,_,0,S03 _ _ hM,9,T.nB,Ew,b,NS,1,S03 _ _ eb,λc hc=>?_];let cN:c≠N:=(aQ hN3 hc).symm;let c0:H c=none:=S03.free hc;erw[0,N,CM,dn,0,by rw[aB cN.symm];exact hN3,T.cl,T.nB,yD,6];rw[Hc];erw[0,q N dn c _ hN c0 aJ %[NS,by rw[aB cN];exact aJ,lb|hx] λa o e=>?_];rw[aB (aQ e hN),aB (aQ e c0)];exact S03 _ _ e
end
instance spPow:∀(x k:Int),vs=[.int x,.int k]->0<=k->k<=100->0<x->x<2 ^ 40->Q (.int (x ^ k.toNat)) H:=1
def m8:FnScope ["number","times","told","step"] Wr (ah uB):=%[|5]
def DU   (F:Fun K "power" "power" uB f fd) (B:Bl mg):#[1,f,fd,Wr,spPow]:=by
 exists m8
 erw[x,k,1,k0,k1,x0,x1,q]at h;refine⟨_,(aa #[ai,2,m8,ae]
  (aa (cF zF1 rfl (bZ rfl B.range %[1|aP]) (bc (i:=3) m8.nd rfl (.inl rfl)) (ad #[ai,2,m8,aq ci (pv 2) (pv 0)]))
  (ad (am (pv 2))))),?_⟩
 erw[0,k,1,3,3,cW (n:=k.toNat) (λi σ H'=>∃x3:Option V,σ=[some (.int x),some (.int k),some (.int (x ^ i)),x3]/\H'=H) %[none,by rw[jT0];rfl|1] ?_ ?_]
 . rintro i σ H1 hi ⟨x3,rfl,rfl⟩;erw[0,0,2,.inr %[3|3],6];erw[some (.int (0+(i:Int))),6,1];rw[qA1];rfl
 . rintro σ H1 ⟨x3,rfl,rfl⟩;erw[0,q]
section
variable {C CM CA CG:Addr}
def JA  :(dl g aA aC s aH aT ed pl).lookup ("twin":Str)=none:=by rfl'
def OptAt(H:Hp)(v:V):Option (List Int)->Prop
 | none=>v=.non
 | some cs=>∃b,v=.ref b/\H b=some (.tup (cs.map V.int))
def OptAt.mono{x:Option (List Int)}(h:OptAt H v x)(k:bL H H'):OptAt H' v x:=by
 cases x with
 | none=>exact h
 | some cs=>erw[b,e,hb]at h;erw[b,e,k _ _ hb]
def JR(H:Hp)(a:Addr)(x:Int×Option (List Int)):Prop:=∃v,H a=some (.tup [.int x.1,v])/\OptAt H v x.2
def bz(ns:List Str)(ts:List Tr):Nat:=if ts.length=1 then ns.length else ns.length+1
def iZ{ns:List Str}(h:ns.length<=6):bz ns ts<=7:=by unfold bz;split <;> omega
instance spFirst(CG:Addr):∀(g c:Addr)(ns:List Str)(ts:List Tr)(p:Int)(cs:List Int),vs=[.ref g,.ref c]->Gm CG H g ns ts p->ns.length<=6->H c=some (.tup (cs.map V.int))->cs.length<=bz ns ts->(∀(a:Addr)(H':Hp),Same H H'->H' a=some (.tup ((cs++List.replicate (bz ns ts-cs.length) 0).map V.int))->Q (.ref a) H'):=1
def uk:FnScope Wi Wi (ah kf):=%[|5]
def va   (F:Fun K "first_row" "first_row" kf f fd) (B:Bl mg) (TG:GTxt K mg CG) (mC:Meth K CG "coins" fC) (GC:#[1,fC,fdC,WA,spCoins CG]) (bC:Binds K fdC WA []):#[2,f,fd,Wi,spFirst CG]:=by
 exists uk
 erw[g,c,ns,ts,p,cs,1,G,n6,hc,cl,q]at h;let hr1:Room 1 _:=hr.mono ⋯;erw[_,(ad (am (aq (qb K) (pv 1) (aq (DN K) (aF %[ae|aP]) (aq bh (bK (pv 0) TG.cl mC GC hr1 bC .nil aZ) (aG aE rfl B.len zC1 %[1|aP])))))),6];erw[0,y1S,λz hz=>?_];let I:=zC0 hz (.tup [.int 0]);let gz:upd H z (.tup [.int 0]) z=some (.tup [.int 0]):=aJ;generalize upd H z (.tup [.int 0])=H1 at I gz;let%[a,b,d,tv,%[dx|hg],ha,hb,TS|hd]:=G.same I;let vl:=TS.length;let noc:(gf a b p d).lookup ("coins":Str)=none:=pI _ _ _ _ ⋯ ⋯ ⋯ ⋯;erw[0,g,dx,0,hg,noc,g,a,b,d,ns,tv,p,1,%[dx|hg],ha,hb,6];let hc1:=I _ _ hc;erw[0,c,0,.inr (zD0 hc1),2,6];let ek:(if tv.length=1 then(ns.length:Int)else(ns.length:Int)+1)-((cs.map V.int).length:Int)=((bz ns ts-cs.length:Nat):Int):=by
  rw[zF0,vl];unfold bz at cl ⊢
  split <;> rename_i h <;> (first | rw[NQ h]at cl | rw[NP h]at cl) <;> omega
 show rRepT K (.ref z) (.int ((if tv.length=1 then(ns.length:Int)else(ns.length:Int)+1)-((cs.map V.int).length:Int))) H1 _;rw[ek];let c7:=iZ (ts:=ts) n6;let fin:∀(y:Addr)(H2:Hp),Same H1 H2->H2 y=some (.tup ((List.replicate (bz ns ts-cs.length) (0:Int)).map V.int))->rCatT K (.ref c) (.ref y) H2 Q∨rCatT0 K (.ref c) (.ref y) H2 Q:=λy H2 S2 hy=>
  ql (S2 _ _ hc1) hy (by rw[qN1];omega) λt H3 S3 h3=>q t H3 (I.trans (S2.trans S3)) h3
 erw[z,.int 0,((bz ns ts-cs.length:Nat):Int),1,1,zD0 gz,3,3,λe=>fin z H1 (Same.refl _) ?_,λ_ y hy=>fin y _ (zC0 hy _) ?_]
 . let e1:bz ns ts-cs.length=1:=by omega
   rw[e1];exact gz
 . rw[aJ,List.map_replicate,qS0]
instance spRowsC(CG:Addr):∀(g:Addr)(ns:List Str)(ts:List Tr)(p:Int),vs=[.ref g]->Gm CG H g ns ts p->ns.length<=6->0<p->p<2 ^ 40->Q (.int (p ^ bz ns ts)) H:=1
def ou:FnScope WC WC (ah gN):=%[|5]
def oK   (F:Fun K "rows_of_coins" "rows_of_coins" gN f fd) (T:GTxt K mg CG) (mC:Meth K CG "coins" fC) (GC:#[1,fC,fdC,WA,spCoins CG]) (bC:Binds K fdC WA []) (je:#[1,"power",Wr,spPow]):#[2,f,fd,WC,spRowsC CG]:=by
 exists ou
 erw[g,ns,ts,p,1,%[a,b,d,tv,%[dx|hg],ha,hb,TS|hd],nl,p0,p40,q]at h;let hr1:Room 1 _:=hr.mono ⋯;erw[_,(ad (am (aj je hr ⋯ rfl %[ay (pv 0) rfl,bK (pv 0) T.cl mC GC hr1 bC .nil aZ|aP]))),6];let noc:(gf a b p d).lookup ("coins":Str)=none:=pI _ _ _ _ ⋯ ⋯ ⋯ ⋯;let vl:=TS.length;erw[0,g,CG,dx,_,0,hg,9,T.nF,eU ..,0,g,dx,0,hg,noc,g,a,b,d,ns,tv,p,1,%[dx|hg],ha,hb,p,0,6,6,p0,p40,6]
 . split <;> omega
 . split <;> omega
 . let e:(if tv.length=1 then(ns.length:Int)else(ns.length:Int)+1).toNat=bz ns ts:=by
    rw[vl];unfold bz
    split <;> omega
   rw[e];exact q
structure Twins(P:Program)(w:World)(K:W.Frag)(mg:Str->Option Value)(base:Heap)(C CM CG fD fM:Addr)(fdD fdM:FuncData):Prop where
 mD:Meth K C "twin" fD
 GD:#[3,fD,fdD,WA,spTwin C CG]
 bD:Binds K fdD WA []
 mM:Meth K CM "twin" fM
 GM:#[3,fM,fdM,WA,spMTwin CM]
 bM:Binds K fdM WA []
instance spWB(C CM CG:Addr)(d:Nat):∀(D M g h b c:Addr)(rows:List Hr)(ns:List Str)(ts:List Tr)(p:Int)(t:Tk)(m:Nat)(cs:List Int),vs=[.ref M,.ref D,.ref c]->TalkAt C CM CG H D M g h b rows ns ts p t m->GmK ns ts p->ns.length<=6->(∀r∈rows,r.good)->Beg ns ts p t->bV ns (settle ns ts p rows 2 t).z<d->H c=some (.tup (cs.map V.int))->cs.length+bV ns (settle ns ts p rows 2 t).z<=bz ns ts->m+400*d<=5000->(∀(a:Addr)(H':Hp),JR H' a (gJ ns ts p rows (bz ns ts) d t cs)->But3 D M b H H'->Q (.ref a) H'):=1
def bX:FnScope ["machine","doubter","coins","number","row","coin","behind","told"] WY (ah eB):=%[|5]
def FK  :#[27,f,fd,WY,spWB C CM CG 0]:=by
 let no:∀vs H Q E,¬ spWB C CM CG 0 vs H Q E:=λvs H Q E h=>by
  erw[D,M,g,h,b,c,rows,ns,ts,p,t,m,cs,_,_,_,_,_,_,h1,_]at h;exact absurd h1 (Nat.not_lt_zero _)
 exists 3
def TalkAt.twins{M2 dm2:Addr}(w:TalkAt C CM CG H D M g h b rows ns ts p t m)(s:Same H H')(DA:DbAt C H' D2 g z)(hM:H' M2=some (.ins CM dm2 (ml g h t.nr b2)))(B:BxAt H' b2 t.bx m)(ne:D2≠M2):TalkAt C CM CG H' D2 M2 g h b2 rows ns ts p %[z,t.bx|t.nr] m:=by
 let%[_,G,_,%[rv,hh|R],_|_]:=w.same s;erw[DA,G,%[dm2|hM],%[rv,hh|R],B,ne]
def FL {n:Nat}   (F:Fun K "weighed_behind" "weighed_behind" eB f fd) (B:Bl mg) (T:DTxt K mg C) (TM:MTxt K mg CM) (TG:GTxt K mg CG) (Y:Ways P w K mg base C CM CG fW fU fH fT fS fdW fdU fdH fdT fdS) (Z:Twins P w K mg base C CM CG fDt fMt fdDt fdMt)
 (b6:#[26,"asked_once",Wh,spAsked C CM CG]) (fL:#[2,"first_row",Wi,spFirst CG]) (dY:#[n+27,"weighed_behind",WY,spWB C CM CG n]):#[n+28,f,fd,WY,spWB C CM CG (n+1)]:=by
 exists bX
 erw[D,M,g,h,b,c,rows,ns,ts,p,t,m,cs,1,W,k,n6,rg,bg,cd,hc,cl,mm,q]at h;let hr1:Room 1 _:=hr.mono #[0];let hr3:Room 3 _:=hr.mono #[0];let hr17:Room 17 _:=hr.mono #[0];refine⟨_,(aa (im zF1 (ag aR (aM ix_tup (bK (pv 1) T.cl Y.mW Y.GW hr1 Y.bW .nil aZ) ae #[1]) ao (ax _)) (ad (aW (aj b6 hr #[0] rfl %[0,1|aP]))))
  (aa (aI (ag aR (aM ix_tup (bK (pv 1) T.cl Y.mW Y.GW hr1 Y.bW .nil aZ) ae #[1]) ao (ax _)) (ad (am (aF %[ae,ky|aP]))) az)
  (aa (aI (ag aR (aM ix_tup (bK (pv 1) T.cl Y.mW Y.GW hr1 Y.bW .nil aZ) ae #[1]) ao (ax _)) (ad (am (aF %[ae,aj fL hr #[0] rfl %[ay (pv 1) rfl,2|aP]|aP]))) az)
  (aa #[ai,3,bX,ae]
  (aa #[ai,4,bX,ky]
  (aa (cF zF1 rfl (bZ rfl B.range %[ay (ay (pv 1) rfl) rfl|aP]) (bc (i:=5) bX.nd rfl (.inl rfl)) (aa #[ai,6,bX,bK (pv 1) T.cl Z.mD Z.GD hr3 Z.bD .nil aZ]
   (aa (aW (bQ (pv 6) T.cl Y.mT Y.GT hr17 Y.bT .nil aZ %[5|aP]))
   (aa #[ai,7,bX,aj dY hr #[0] rfl %[bK (pv 0) TM.cl Z.mM Z.GM hr3 Z.bM .nil aZ,6,aq (qb K) (pv 2) (aF %[5|aP])|aP]]
   (aa #[ai,3,bX,aq aS (pv 3) (aM ix_tup (pv 7) ae #[1])]
   (ad (aI (ag yj (pv 4) ky (ax _)) (ad #[ai,4,bX,aM ix_tup (pv 7) ae #[1]]) az)))))))
  (ad (am (aF %[3,4|aP]))))))))),?_⟩
 let p2:=k.p2;let p9:=k.p9;let%[uok|uno]:=bg.settle (rows:=rows) k n6;let rec1:settle ns ts p rows 2 t=settle ns ts p rows 2 t:=rfl;generalize eu:settle ns ts p rows 2 t=u at uok uno cd cl;clear rec1;let c7:=iZ (ts:=ts) n6;erw[λmm σ H'=>∃(t':Tk) (j m':Nat),σ=[some (.ref M),some (.ref D),some (.ref c),none,none,none,none,none]/\mm=j/\j<=2/\Beg ns ts p t'/\(j<=1->TkOk ns ts p t')/\(j=0->¬ t'.z.aw.1="hear")/\settle ns ts p rows j t'=u/\TalkAt C CM CG H' D M g h b rows ns ts p t' m'/\m'+200*j<=m+400/\But3 D M b H H',%[(2),t,(2),m,1,1,zG0 _,bg,λz=>absurd z ⋯,λz=>absurd z ⋯,eu,W,zG0 _|λ_ _ _ _ _ e=>e],6]
 rintro mm1 σ H1 ⟨t',j,m',rfl,rfl,j2,bg',ok',no',es,W1,m1,S1⟩;let DA:=W1.DA;let%[dx,aA,aC,aH,aT|R]:=id DA;erw[0,D,dx,0,R.hD,pJ,D,g,t'.z,1,DA,λv hv=>?_];erw[av,1,hav]at hv;erw[av,_,(0),0,1,zD0 hav,Cj _,1,0,6]
 by_cases ch:t'.z.aw.1="hear"
 . refine aV (congrArg V.str ch) %[_,λ_ _ h=>h|6];obtain⟨i,rfl⟩:∃i,mm1=i+1:=⟨mm1-1,by have:mm1≠0:=λz=>no' z ch;omega⟩
   let%[ak,bo,aw,a0,a5|ho]:=bg'.ask (rows:=rows) k n6 ch;erw[0,0,D,M,g,h,b,rows,ns,ts,p,t',m',1,W1,k,rg,ak,bo,aw,a0,a5,ho,3,λa6 H6 _ _ W6 S6=>?_];let ok2:=bg'.asked (rows:=rows) k n6 ch;erw[i,qI1 _,t'.ask ns ts p rows,i,m'+200,1,1,3,.inr ok2,λ_=>ok2,λz=>?_,6,W6,3,λa o h1 h2 h3 e=>S6 _ _ h1 h2 h3 (S1 _ _ h1 h2 h3 e)]
   . subst z;exact((ok' (zG0 _)).ask (rows:=rows) k n6 ch).2.2.2
   . rw[←es];exact(NQ ch).symm
 refine aD (neS ch) ?_;rw[cU ch]at es;subst es;clear bg' ok' no' hav;erw[0,D,dx,0,R.hD,pJ,D,g,t'.z,1,DA,λv hv=>?_];erw[av,1,hav]at hv;erw[av,_,(0),0,1,zD0 hav,Cj _,1,0,6]
 by_cases cb:t'.z.aw.1="believed"
 . refine aV (congrArg V.str cb) %[y2S|λa ha=>?_];let I:=zC0 ha (.tup [.int 1,.non]);refine q a _ ?_ (λx o h1 h2 h3 e=>I _ _ (S1 _ _ h1 h2 h3 e));let e:gJ ns ts p rows (bz ns ts) (n+1) t cs=(1,none):=by
    show(if(settle ns ts p rows 2 t).z.aw.1="believed" then _ else _)=_;rw[eu,NQ cb]
   rw[e];erw[.non,aJ,1]
 refine aD (neS cb) ?_;clear hav;erw[0,D,dx,0,R.hD,pJ,D,g,t'.z,1,DA,λv hv=>?_];erw[av,1,hav]at hv;erw[av,_,(0),0,1,zD0 hav,Cj _,1,0,6];let hDM:c≠D/\c≠M/\c≠b:=by
  erw[dx0,_,_,_,_,R0]at W.DA;erw[dm0,hM0]at W.hM;erw[kv0,hb0,_]at W.BX;erw[bp hc R0.hD nofun,bp hc hM0 nofun,bp hc hb0 nofun]
 let hc1:=S1 _ _ hDM.1 hDM.2.1 hDM.2.2 hc
 by_cases cc:t'.z.aw.1="caught"
 . refine aV (congrArg V.str cc) %[0,D,C,dx,_,0,R.hD,T.cl,T.nG,iY,0,g,c,ns,ts,p,cs,1,W1.G,n6,hc1,3|λa2 H2 S2 h2=>?_];erw[y2S,λa ha=>?_];let I:=zC0 ha (.tup [.int 0,.ref a2]);refine q a _ ?_ (λx o h1 h2 h3 e=>I _ _ (S2 _ _ (S1 _ _ h1 h2 h3 e)));let e:gJ ns ts p rows (bz ns ts) (n+1) t cs=(0,some (cs++List.replicate (bz ns ts-cs.length) 0)):=by
    show(if(settle ns ts p rows 2 t).z.aw.1="believed" then _ else if(settle ns ts p rows 2 t).z.aw.1="caught" then _ else _)=_;rw[eu,NP cb,NQ cc]
   rw[e];erw[.ref a2,aJ,a2,1,I _ _ h2]
 refine aD (neS cc) ?_;let co:=xq uok uno cb cc;let e:gJ ns ts p rows (bz ns ts) (n+1) t cs=iX (λr=>gJ ns ts p rows (bz ns ts) n (t'.toss ns ts p r) (cs++[r])) p.toNat:=by
  show(if(settle ns ts p rows 2 t).z.aw.1="believed" then _ else if(settle ns ts p rows 2 t).z.aw.1="caught" then _ else _)=_;rw[eu,NP cb,NP cc]
 rw[e]at q;clear e hav eu bg W hc;let cp:=(eR uok (.inr co)).2 co;generalize ef:(λr=>gJ ns ts p rows (bz ns ts) n (t'.toss ns ts p r) (cs++[r]))=fw at q;erw[ga,gb,gd,tv,%[dg|hg],_]at W1.G;erw[0,D,C,dx,_,0,R.hD,9,T.nG,iY,g,CG,dg,_,0,hg,TG.cl,TG.nF,eU ..,p,1,3,3,cW (n:=p.toNat) (λi σ H'=>∃(v:V)(x5 x6 x7:Option V),σ=[some (.ref M),some (.ref D),some (.ref c),some (.int (iX fw i).1),some v,x5,x6,x7]/\OptAt H' v (iX fw i).2/\Same H1 H') %[.non,none,none,none,1,1|Same.refl _] ?_ ?_]
 . rintro i σ H2 hi ⟨v,x5,x6,x7,rfl,ov,S2⟩;rw[qZ0];let W2:=W1.same S2;let DA2:=W2.DA;let%[NX,_,_,_,_|R2]:=id DA2;erw[0,D,NX,0,R2.hD,JA,D,g,t'.z,ns,ts,p,1,DA2,W2.G,λD3 H3 D30 S3 DA3=>?_];let%[dx3,_,_,_,_|R3]:=id DA3;let to:=uok.tossOk co (r:=(i:Int)) #[0] #[0];erw[0,D3,dx3,0,R3.hD,Ik,0,D3,g,t'.z,(i:Int),ns,ts,p,1,DA3,W2.G.same S3,k,to.aw,to.r0,to.r1,to.tl,to.ro,to.po,λH4 S4 DA4=>?_];let S24:Same H2 H4:=Same.but S3 D30 S4;let W4:=W2.same S24;erw[dm4,hM4]at W4.hM;erw[0,M,dm4,0,hM4,ml_n4,M,g,h,b,dm4,t'.nr,t'.bx,m',1,hM4,W4.BX,λM5 dm5 b5 H5 M50 b50 hM5 BX5 S5=>?_];erw[0,0,0,y1S,λz hz=>?_];let I6:=zC0 hz (.tup [.int (i:Int)]);let g6:upd H5 z (.tup [.int (i:Int)]) z=some (.tup ([(i:Int)].map V.int)):=aJ;generalize upd H5 z (.tup [.int (i:Int)])=H6 at I6 g6;let S26:Same H2 H6:=S24.trans (S5.trans I6);refine ql (S26 _ _ (S2 _ _ hc1)) g6 (by rw[qK0];omega) λc7 H7 S7 h7=>?_
   let S47:Same H4 H7:=S5.trans (I6.trans S7);let S57:Same H5 H7:=I6.trans S7;let%[ok3,st3,co3|_]:=uok.toss k co to.r0 to.r1;let%[_,cs3|_]:=kP (rows:=rows) k n6 ok3;let el:(cs++[(i:Int)]).length=cs.length+1:=by rw[zK0];rfl
   let D3M5:D3≠M5:=by
    erw[_,_,_,_,_,R4]at DA4;exact aQ R4.hD M50
   let W7:TalkAt C CM CG H7 D3 M5 g h b5 rows ns ts p (t'.toss ns ts p (i:Int)) m':=W4.twins S47 (DA4.same S47) (S57 _ _ hM5) (BX5.keep λo e=>S57 _ _ e) D3M5;erw[D3,M5,g,h,b5,c7,rows,ns,ts,p,t'.toss ns ts p (i:Int),m',cs++[(i:Int)],1,W7,k,n6,rg,.inr ok3,3,h7,3,3,λa8 H8 w8 S8=>?_];let S28:Same H2 H8:=λa o e=>S8 _ _ (aQ e D30) (aQ (S24 _ _ e) M50) (aQ (S24 _ _ e) b50) (S26.trans S7 _ _ e)
   erw[v8,ha8,o8]at w8;let ef8:gJ ns ts p rows (bz ns ts) n (t'.toss ns ts p (i:Int)) (cs++[(i:Int)])=fw (i:Int):=by rw[←ef]
   rw[ef8]at ha8 o8;erw[0,0,a8,_,(0),0,1,zD0 ha8,at0 _ _,2,6];erw[0,1,0,6];cases eo:(iX fw i).2 with
   | none=>
     rw[eo]at ov;let ov:v=.non:=ov;subst ov;refine aV rfl %[0,a8,_,(1),0,1,zD0 ha8,cx (j:=1) rfl|6];erw[v8,_,_,0,6,S2.trans S28];show OptAt H8 v8 ((iX fw i).2.or (fw (i:Int)).2);rw[eo];exact o8
   | some rr=>
     rw[eo]at ov;let ov':=ov;erw[bv,1,hbv]at ov';refine aD nofun ?_;erw[.ref bv,_,_,0,6,S2.trans S28];show OptAt H8 (.ref bv) ((iX fw i).2.or (fw (i:Int)).2);rw[eo];erw[bv,1,S28 _ _ hbv]
 . rintro σ H2 ⟨v,x5,x6,x7,rfl,ov,S2⟩;erw[0,0,y2S,λa ha=>?_];let I:=zC0 ha (.tup [.int (iX fw p.toNat).1,v]);exact q a _ %[v,aJ|ov.mono (aY I)] (λx o h1 h2 h3 e=>I _ _ (S2 _ _ (S1 _ _ h1 h2 h3 e)))
def iG   (F:Fun K "weighed_behind" "weighed_behind" eB f fd) (m:mg "weighed_behind"=some (.ref f)) (B:Bl mg) (T:DTxt K mg C) (TM:MTxt K mg CM) (TG:GTxt K mg CG) (Y:Ways P w K mg base C CM CG fW fU fH fT fS fdW fdU fdH fdT fdS) (Z:Twins P w K mg base C CM CG fDt fMt fdDt fdMt)
 (b6:#[26,"asked_once",Wh,spAsked C CM CG]) (fL:#[2,"first_row",Wi,spFirst CG]):∀n:Nat,#[n+27,f,fd,WY,spWB C CM CG n]
 | 0=>FK
 | n+1=>FL F B T TM TG Y Z b6 fL (Cal.of F (iG F m B T TM TG Y Z b6 fL n) m (λ_ _ _ _ _ _ us hl=>by let%[u0,u1,u2|1]:=Hi hl;rfl))
end
section
variable {C CM CA CG:Addr}
instance spWeighed(C CM CG:Addr):∀(g h:Addr)(rv:List V)(rows:List Hr)(ns:List Str)(ts:List Tr)(p:Int),vs=[.ref g,.ref h]->Gm CG H g ns ts p->GmK ns ts p->ns.length<=6->H h=some (.tup rv)->RowsAt H rv rows->(∀r∈rows,r.good)->p ^ bz ns ts<=4000->(∀(a:Addr)(H':Hp),Same H H'->JR H' a (gJ ns ts p rows (bz ns ts) 8 (Tk.new ts) [])->Q (.ref a) H'):=1
def C8:FnScope ["game","helper","rows"] ["game","helper"] (ah ox):=%[|5]
def yk   (F:Fun K "weighed" "weighed" ox f fd) (T:DTxt K mg C) (TM:MTxt K mg CM) (hmost:∃t,mg "MOST_ROWS_weighing"=some (.int 4000 t))
 (MD:Mk K C fI) (GD:#[1,fI,fdI,WJ,spDInit C CG]) (bD:Binds K fdI WJ []) (MM:Mk K CM fM) (GM:#[1,fM,fdM,WI,spMInit CM]) (bM:Binds K fdM WI [])
 (db:#[2,"rows_of_coins",WC,spRowsC CG]) (dY:#[35,"weighed_behind",WY,spWB C CM CG 8]):#[36,f,fd,["game","helper"],spWeighed C CM CG]:=by
 exists C8
 erw[g,h,rv,rows,ns,ts,p,1,G,k,n6,hh,RW,rg,p4,q]at h;erw[te,ge]at hmost;let hr2:Room (1+1) _:=hr.mono ⋯;refine⟨_,(aa #[ai,2,C8,aj db hr ⋯ rfl %[0|aP]]
  (aa (aI (ag gQ (pv 2) (cX (v:=.int 4000) rfl ge %[|0]) (ax _)) bJ az)
  (ad (am (aj dY hr ⋯ rfl %[gn MM GM hr2 rfl TM.mgC bM .nil aZ %[0,1|aP],gn MD GD hr2 rfl T.mgC bD .nil aZ %[0|aP],aF aP|aP]))))),?_⟩
 let p2:=k.p2;let p9:=k.p9;erw[0,g,ns,ts,p,1,G,n6,3,3,6];erw[0,2,0,aD #[0] ?_];erw[0,0,λM dm hM0 hdm0 nM=>?_];let K1:Same H (upd (upd H dm (.own M)) M (.ins CM dm [])):=λa o e=>by
  rw[aB (aQ e hM0),aB (aQ e hdm0)];exact e
 erw[M,g,h,dm,1,aJ,λb H2 b0 hM2 hb2 S2=>%[1|6]];let T2:Same H H2:=Same.but K1 hM0 S2;let b00:H b=none:=K1.free b0;clear K1 S2 b0;erw[0,λD dd hD0 hdd0 nD=>?_];let K3:Same H2 (upd (upd H2 dd (.own D)) D (.ins C dd [])):=λa o e=>by
  rw[aB (aQ e hD0),aB (aQ e hdd0)];exact e
 let G2:=G.same T2;let gD:g≠D:=by
  erw[_,_,_,_,%[dg|hg],_]at G2;exact aQ hg hD0
 erw[D,g,dd,ns,ts,p,1,aJ,G2.same K3,gD,λH4 S4 DA4=>%[1|6]];let T24:Same H2 H4:=Same.but K3 hD0 S4;let T4:Same H H4:=T2.trans T24;let D00:H D=none:=T2.free hD0;let nDM:D≠M:=(aQ hM2 hD0).symm;let W4:TalkAt C CM CG H4 D M g h b rows ns ts p (Tk.new ts) 0:=⟨DA4,G.same T4,⟨dm,T24 _ _ hM2⟩,⟨rv,T4 _ _ hh,RW.mono (aY T4)⟩,⟨[],T24 _ _ hb2,zG0 _,λ_=>rfl⟩,nDM⟩
 erw[y0S,λc hc=>?_];let I:=zC0 hc (.tup []);let gc:upd H4 c (.tup []) c=some (.tup (([]:List Int).map V.int)):=aJ;generalize upd H4 c (.tup [])=H5 at I gc;let%[_,c1|_]:=ji (rows:=rows) k n6;let c2:ns.length+(if 1<ts.length then 1 else 0)<=bz ns ts:=by
  unfold bz
  split <;> split <;> omega
 let c7:=iZ (ts:=ts) n6;erw[D,M,g,h,b,c,rows,ns,ts,p,Tk.new ts,(0),[],1,W4.same I,k,n6,rg,.inl rfl,3,gc,(by show 0+_<=_;omega),4,λa H6 w6 S6=>q a H6 (λx o e=>?_) w6];exact S6 _ _ (aQ e D00) (aQ e hM0) (aQ e b00) (I _ _ (T4 _ _ e))
end
def dA(p:Nat):Nat->List (List Int)
 | 0=>[[]]
 | k+1=>(List.range p).flatMap λr:Nat=>(dA p k).map ((r:Int)::·)
def kH:∀(k:Nat)(c:List Int),c∈dA p k->c.length=k/\cw c (p:Int)
 | 0,c,h=>by
   let e:c=[]:=by simpa [dA]using h
   subst e;erw[1,λx hx=>by cases hx]
 | k+1,c,h=>by
   unfold dA at h;let%[r,hr|h]:=List.mem_flatMap.mp h;let%[c',hc'|1]:=List.mem_map.mp h;let hr:=List.mem_range.mp hr;let%[l|o]:=kH k c' hc';erw[by rw[zP0,l],λx hx=>?_];rcases zW0 hx with e | e
   . subst e;omega
   . exact o x e
def ua{p:Nat}(hp:0<p):∀k,(dA p k).head?=some (List.replicate k 0)
 | 0=>rfl
 | k+1=>by
   obtain⟨q,rfl⟩:∃q,p=q+1:=%[p-1|3]
   unfold dA;rw[List.range_succ_eq_map,wU1,List.head?_append,List.head?_map,ua hp k];rfl
def kI:∀k,(dA p k).length=p ^ k
 | 0=>rfl
 | k+1=>by
   unfold dA;rw[wL1]
   have:((List.range p).map λa:Nat=>((dA p k).map ((a:Int)::·)).length)=List.replicate p (p ^ k):=by
    rw[List.eq_replicate_iff];erw[by simp,λb hb=>?_];let%[a,_|1]:=List.mem_map.mp hb;rw[zF0,kI k]
   rw[this,List.sum_replicate_nat,Nat.pow_succ,Nat.mul_comm]
def iV(L:List (List Int))(b:List Int->Bool)(cs:List Int):Int×Option (List Int):=(((L.filter b).length:Int),((L.filter λc=>!b c).head?).map (cs++·))
def jA{L:List (List Int)}{b b':List Int->Bool}(h:∀c∈L,b c=b' c):iV L b cs=iV L b' cs:=by
 unfold iV;let e1:L.filter b=L.filter b':=jX0 h;let e2:(L.filter λc=>!b c)=L.filter λc=>!b' c:=jX0 λc hc=>by rw[h c hc]
 rw[e1,e2]
def Dv{L M:List (List Int)}:iV (L++M) b cs=((iV L b cs).1+(iV M b cs).1,(iV L b cs).2.or (iV M b cs).2):=by
 unfold iV;rw[jJ0,jJ0,zK0,List.head?_append,jC1]
 congr 1
 cases(List.filter (λc=>!b c) L).head? <;> rfl
def Du{L:List (List Int)}{r:Int}:iV (L.map (r::·)) b cs=iV L (λc=>b (r::c)) (cs++[r]):=by
 unfold iV;rw[wM0,wM0,zF0,List.head?_map]
 congr 1
 show Option.map _ (Option.map _ _)=_;rw[Option.map_map]
 congr 1
 funext c
 show cs++(r::c)=(cs++[r])++c;rw[jC0];rfl
def tQ{p j:Nat}{f:Int->Int×Option (List Int)}{b:List Int->Bool}{cs:List Int}(h:∀r:Nat,r<p->f (r:Int)=iV (dA p j) (λc=>b ((r:Int)::c)) (cs++[(r:Int)])):∀k,k<=p->iX f k=iV ((List.range k).flatMap λr:Nat=>(dA p j).map ((r:Int)::·)) b cs
 | 0,_=>rfl
 | k+1,hk=>by
   show((iX f k).1+(f (k:Int)).1,(iX f k).2.or (f (k:Int)).2)=_;rw[tQ h k #[0],h k #[0],qE1,List.flatMap_append,Dv,List.flatMap_singleton,Du]
section
variable {ns:List Str} {ts:List Tr} {p:Int} {t:Tk} {rows:List Hr}
def CP(z:Db):cf ns z<=2*ns.length+1:=by
 unfold cf
 split
 . omega
 . split
   . split <;> omega
   . omega
def oQ(h:cw cs p)(p0:0<p):0<=cs.headD 0/\cs.headD 0<p:=by
 cases cs with
 | nil=>erw[zX1 0,p0]
 | cons a r=>exact h a (qA0 ..)
def ub(h:cw cs p):cw cs.tail p:=λx hx=>h x (List.mem_of_mem_tail hx)
def lC(k:GmK ns ts p)(n6:ns.length<=6):∀(n:Nat)(t:Tk)(cs:List Int),TkOk ns ts p t->cw cs p->cf ns t.z<=n->(bY ns ts p rows cs (n+1) t).2=(bY ns ts p rows cs n t).2
 | 0,t,cs,h,hc,hs=>by
   let h1:¬ t.z.aw.1="hear":=λz=>by have:=(eR h (.inl z)).1;omega
   let h2:¬ t.z.aw.1="coin":=λz=>by have:=(eR h (.inr z)).1;omega
   rw[du h1 h2,du h1 h2]
 | n+1,t,cs,h,hc,hs=>by
   let p2:=k.p2
   by_cases ch:t.z.aw.1="hear"
   . rw[dQ ch,dQ ch];let%[o,s|_]:=h.ask (rows:=rows) k n6 ch;exact lC k n6 n _ cs o hc #[0]
   . by_cases cc:t.z.aw.1="coin"
     . rw[dR cc,dR cc];let%[r0|r1]:=oQ hc #[0];let%[o,s|_]:=h.toss k cc r0 r1;exact lC k n6 n _ cs.tail o (ub hc) #[0]
     . rw[du ch cc,du ch cc]
def qt(k:GmK ns ts p)(n6:ns.length<=6)(h:TkOk ns ts p t)(hc:cw cs p){n:Nat}(hs:cf ns t.z<=n):∀m,(bY ns ts p rows cs (n+m) t).2=(bY ns ts p rows cs n t).2
 | 0=>rfl
 | m+1=>by rw[←Nat.add_assoc,lC k n6 _ _ _ h hc #[0],qt k n6 h hc hs m]
def vN(k:GmK ns ts p)(n6:ns.length<=6)(h:TkOk ns ts p t)(hc:cw cs p){n m:Nat}(hn:13<=n)(hm:13<=m):(bY ns ts p rows cs n t).2=(bY ns ts p rows cs m t).2:=by
 have:=CP (ns:=ns) t.z
 obtain⟨a,rfl⟩:∃a,n=13+a:=%[n-13|3]
 obtain⟨b,rfl⟩:∃b,m=13+b:=%[m-13|3]
 rw[qt k n6 h hc #[0],qt k n6 h hc #[0]]
def lZ(k:GmK ns ts p)(n6:ns.length<=6)(h:TkOk ns ts p t)(hc:cw cs p){n m:Nat}(hn:14<=n)(hm:14<=m):(bY ns ts p rows cs n t).2=(bY ns ts p rows cs m (settle ns ts p rows 2 t)).2:=by
 by_cases ch:t.z.aw.1="hear"
 . let%[o,s,_|o4]:=h.ask (rows:=rows) k n6 ch;let e:settle ns ts p rows 2 t=t.ask ns ts p rows:=(NQ ch).trans (cU o4 1);rw[e];obtain⟨a,rfl⟩:∃a,n=a+1:=%[n-1|3]
   rw[dQ ch];exact vN k n6 o hc #[0] #[0]
 . rw[cU ch];exact vN k n6 h hc #[0] #[0]
structure Lf(ns:List Str)(t:Tk)(j:Nat):Prop where
 hc:t.z.aw.1="hear"∨t.z.aw.1="coin" -> bV ns t.z=j
 be:t.z.aw.1="believed" -> j=0
def Id:¬ (("believed":Str)="hear"):=by decide
def zT:¬ (("coin":Str)="believed"):=by decide
def tK:¬ (("caught":Str)="believed"):=by decide
def Ic:¬ (("hear":Str)="believed"):=by decide
def Ei:¬ (("caught":Str)="coin"):=by decide
def vB(z:Db)(tl:z.to.length<=ns.length)(bx:Str->Int)(nr:Int):Lf ns %[goOn ns ts p z,bx|nr] (ns.length-z.to.length):=by
 unfold goOn
 by_cases c:z.to.length<ns.length
 . rw[NQ c];erw[λ_=>NQ rfl,λh=>absurd h Ic]
 . rw [NP c];unfold eA
   by_cases e:z.ed=hor z.s p (ts.map λt=>t.worth ns z.to p)
   . rw[NQ e];erw[λh=>h.elim (λh=>absurd h Id) (λh=>absurd h Ej),λ_=>(by show ns.length-z.to.length=0;omega)]
   . rw[NP e];erw[λh=>h.elim (λh=>absurd h tL) (λh=>absurd h Ei),λh=>absurd h tK]
def Lf.ask (k:GmK ns ts p) (n6:ns.length<=6) {j:Nat} (h:TkOk ns ts p t) (l:Lf ns t j) (hw:t.z.aw.1="hear"):Lf ns (t.ask ns ts p rows) j:=by
 let ho:=h.hear (rows:=rows) k n6 hw;let x0:=h.gd.hear_ne k ho;let e:cK ns ts p (t.said ns ts p rows) t.z=df p (t.said ns ts p rows) { t.z with pl:=t.z.pl+((t.said ns ts p rows).length:Int) }:=NP h.cl;let l1:=l.hc (.inl hw);let s2:bV ns t.z=ns.length-t.z.to.length:=NQ hw;let ez:(t.ask ns ts p rows).z=df p (t.said ns ts p rows) { t.z with pl:=t.z.pl+((t.said ns ts p rows).length:Int) }:=e;erw[λhh=>?_,λhh=>?_]
 . rw [ez]at hh ⊢;unfold df at hh ⊢
   by_cases c:(val p (t.said ns ts p rows) 0+val p (t.said ns ts p rows) 1) % p=t.z.ed
   . rw[NQ c];show(if(("coin":Str)="hear")then _ else if(("coin":Str)="coin")then(if t.said ns ts p rows=[]then _ else _)else _)=j;rw[NP iH,NQ rfl,NP x0];show ns.length-t.z.to.length=j;omega
   . rw[NP c]at hh;exact hh.elim (λh=>absurd h tL) (λh=>absurd h Ei)
 . rw [ez]at hh;unfold df at hh
   by_cases c:(val p (t.said ns ts p rows) 0+val p (t.said ns ts p rows) 1) % p=t.z.ed
   . rw[NQ c]at hh;exact absurd hh zT
   . rw[NP c]at hh;exact absurd hh tK
def Lf.settle(k:GmK ns ts p)(n6:ns.length<=6)(h:TkOk ns ts p t)(l:Lf ns t j):Lf ns (settle ns ts p rows 2 t) j:=by
 by_cases ch:t.z.aw.1="hear"
 . let%[o,s,_|o4]:=h.ask (rows:=rows) k n6 ch;let e:Mine.settle ns ts p rows 2 t=t.ask ns ts p rows:=(NQ ch).trans (cU o4 1);rw[e];exact l.ask k n6 h ch
 . rw[cU ch];exact l
def Lf.toss (h:TkOk ns ts p t) {j:Nat} (l:Lf ns t (j+1)) (hw:t.z.aw.1="coin") (r:Int):Lf ns (t.toss ns ts p r) j:=by
 let nh:¬ t.z.aw.1="hear":=by rw[hw];exact iH
 let s2:bV ns t.z=if t.z.he=[]then ns.length+1 else ns.length-t.z.to.length:=by unfold bV;rw[NP nh,NQ hw]
 let l1:=l.hc (.inr hw)
 by_cases c:t.z.he=[]
 . let et:=h.fi hw c;rw[NQ c]at s2;let e:t.toss ns ts p r=%[goOn ns ts p { t.z with pl:=t.z.pl+1,s:=r,ed:=hor r p t.z.cl },t.bx|t.nr]:=by
    unfold Tk.toss dq xj;rw[NQ c]
   rw[e]
   have:=vB (ns:=ns) (ts:=ts) (p:=p) { t.z with pl:=t.z.pl+1,s:=r,ed:=hor r p t.z.cl } h.gd.tl t.bx t.nr
   let ej:ns.length-t.z.to.length=j:=by rw[et,zL1];omega
   rw[←ej];exact this
 . let tl:=((h.gd.co hw).2 c).2;rw[NP c]at s2;let e:t.toss ns ts p r=%[goOn ns ts p { t.z with pl:=t.z.pl+1,ed:=val p t.z.he r,to:=t.z.to++[r] },t.bx|t.nr]:=by
    unfold Tk.toss dq;rw[NP c]
   rw[e];let el:(t.z.to++[r]).length=t.z.to.length+1:=by rw[zK0];rfl
   have:=vB (ns:=ns) (ts:=ts) (p:=p) { t.z with pl:=t.z.pl+1,ed:=val p t.z.he r,to:=t.z.to++[r] } (by show(t.z.to++[r]).length<=_;omega) t.bx t.nr
   let ej:ns.length-(t.z.to++[r]).length=j:=by omega
   rw[←ej];exact this
def Lf.new(k:GmK ns ts p):Lf ns ((Tk.new ts).ask ns ts p rows) (bz ns ts):=by
 let e0:cK ns ts p ((Tk.new ts).said ns ts p rows) (Db.new ts)=iI ns ts p ((Tk.new ts).said ns ts p rows) { Db.new ts with pl:=(Db.new ts).pl+(((Tk.new ts).said ns ts p rows).length:Int) }:=NQ rfl
 by_cases c:ts.length=1
 . let e:(Tk.new ts).ask ns ts p rows=%[goOn ns ts p { Db.new ts with pl:=(Db.new ts).pl+(((Tk.new ts).said ns ts p rows).length:Int),cl:=(Tk.new ts).said ns ts p rows,s:=0,ed:=hor 0 p ((Tk.new ts).said ns ts p rows) },((Tk.new ts).run ns ts p rows).bx|(Tk.new ts).nr+1]:=by
    unfold Tk.ask
    congr 1
    exact e0.trans (NQ c)
   rw[e];let ej:bz ns ts=ns.length-([]:List Int).length:=NQ c;rw[ej];exact vB _ (zU0 _) _ _
 . let ez:((Tk.new ts).ask ns ts p rows).z={ Db.new ts with pl:=(Db.new ts).pl+(((Tk.new ts).said ns ts p rows).length:Int),cl:=(Tk.new ts).said ns ts p rows,aw:=("coin",none) }:=e0.trans (NP c);let ej:bz ns ts=ns.length+1:=NP c;erw[λ_=>?_,λh=>?_]
   . rw[ez,ej];show(if(("coin":Str)="hear")then _ else if(("coin":Str)="coin")then(if([]:List Int)=[]then ns.length+1 else _)else 0)=_;rw[NP iH,NQ rfl,NQ rfl]
   . rw[ez]at h;exact absurd h zT
def zk (ns:List Str) (ts:List Tr) (p:Int) (rows:List Hr) (t:Tk) (c:List Int):Bool:=decide ((bY ns ts p rows c 20 t).2.z.aw.1="believed")
def sX (k:GmK ns ts p) (n6:ns.length<=6) {cn:Nat}:∀(d j:Nat) (t:Tk) (cs:List Int),TkOk ns ts p (settle ns ts p rows 2 t)->¬ (settle ns ts p rows 2 t).z.aw.1="hear" -> Lf ns (settle ns ts p rows 2 t) j->j<d->cs.length+j=cn ->
 gJ ns ts p rows cn d t cs=iV (dA p.toNat j) (zk ns ts p rows (settle ns ts p rows 2 t)) cs
 | 0,j,_,_,_,_,_,hd,_=>absurd hd (Nat.not_lt_zero _)
 | d+1,j,t,cs,ok,no,lf,hd,hl=>by
   let p2:=k.p2;let ep:(p.toNat:Int)=p:=by omega
   show(if(settle ns ts p rows 2 t).z.aw.1="believed" then _ else if(settle ns ts p rows 2 t).z.aw.1="caught" then _ else _)=_;generalize settle ns ts p rows 2 t=u at ok no lf
   by_cases cb:u.z.aw.1="believed"
   . rw [NQ cb];let e0:=lf.be cb;subst e0;let e1:zk ns ts p rows u []=true:=by
      unfold zk;rw[du no (by rw[cb];exact Ej)];exact zD1 cb
     unfold iV dA;rw[List.filter_cons_of_pos e1,List.filter_cons_of_neg (by rw[e1];decide)];rfl
   . rw [NP cb]
     by_cases cc:u.z.aw.1="caught"
     . rw [NQ cc];let e1:∀c∈dA p.toNat j,zk ns ts p rows u c=false:=λc _=>by
        unfold zk;rw[du no (by rw[cc];exact Ei)];exact zB1 cb
       rw[jA (b':=λ_=>false) e1];unfold iV;let e2:(dA p.toNat j).filter (λ_=>false)=[]:=List.filter_eq_nil_iff.mpr λ_ _=>by decide
       let e3:(dA p.toNat j).filter (λc=>!((λ_=>false) c))=dA p.toNat j:=List.filter_eq_self.mpr λ_ _=>rfl
       rw[e2,e3,ua #[0]];show(0,some (cs++List.replicate (cn-cs.length) 0))=((([]:List (List Int)).length:Int),some (cs++List.replicate j 0))
       rw[show cn-cs.length=j by omega];rfl
     . rw [NP cc];let co:=xq ok no cb cc;let cp:=(eR ok (.inr co)).2 co;obtain⟨i,rfl⟩:∃i,j=i+1:=%[j-1|by have:=lf.hc (.inr co);omega]
       refine tQ (p:=p.toNat) (j:=i) (λr hr=>?_) p.toNat (zG0 _);let r0:(0:Int)<=(r:Int):=wP1 r;let r1:(r:Int)<p:=by omega
       let%[ok3|_]:=ok.toss k co r0 r1;let%[ok4,_|no4]:=kP (rows:=rows) k n6 ok3;rw[sX k n6 d i _ (cs++[(r:Int)]) ok4 no4 ((lf.toss ok co (r:Int)).settle k n6 ok3) #[0] (by rw[zK0,qK0];omega)];refine jA λc hc=>?_
       let po:cw c p:=by
        have:=(kH _ _ hc).2
        rwa [ep]at this
       unfold zk;rw[←lZ (n:=19) k n6 ok3 po ⋯ ⋯,dR (n:=19) co];rfl
def sW (k:GmK ns ts p) (n6:ns.length<=6):gJ ns ts p rows (bz ns ts) 8 (Tk.new ts) []=iV (dA p.toNat (bz ns ts)) (λc=>decide ((eG ns ts p rows c).2.z.aw.1="believed")) []:=by
 let%[o1,_|no1]:=ji (rows:=rows) k n6;let%[o2|_]:=jF (rows:=rows) k n6;let c7:=iZ (ts:=ts) n6;let ep:(p.toNat:Int)=p:=by have:=k.p2;omega
 let e:settle ns ts p rows 2 (Tk.new ts)=settle ns ts p rows 1 ((Tk.new ts).ask ns ts p rows):=NQ rfl;let e2:settle ns ts p rows 2 (Tk.new ts)=settle ns ts p rows 2 ((Tk.new ts).ask ns ts p rows):=by
  rw[e]
  by_cases c:((Tk.new ts).ask ns ts p rows).z.aw.1="hear"
  . let n4:=(o2.ask (rows:=rows) k n6 c).2.2.2;show(if _ then _ else _)=(if _ then _ else _)
    rw[NQ c,NQ c,cU n4,cU n4]
  . rw[cU c,cU c]
 let lf:=(Lf.new (rows:=rows) k).settle (rows:=rows) k n6 o2;rw[←e2]at lf;rw[sX k n6 8 (bz ns ts) (Tk.new ts) [] o1 no1 lf #[0] (vD1 _)];refine jA λc hc=>?_
 let po:cw c p:=by
  have:=(kH _ _ hc).2
  rwa [ep]at this
 unfold zk;rw[e2,←lZ (n:=20) k n6 o2 po ⋯ ⋯];rfl
end
def BH{p x y:Int}(hp:1<p)(bx cy:Bool)(hx:x=if bx then 1 else 0)(hy:y=if cy then 1 else 0):eK p o x y=if jM o bx cy then 1 else 0:=by
 let m0:(0:Int) % p=0:=wZ1 p;let m1:(1:Int) % p=1:=qU0 ⋯ hp;subst hx hy;unfold eK jM;cases bx <;> cases cy <;> (repeat' split) <;> simp_all
def iy{ns:List Str}{st:List Int}{p:Int}(hp:1<p)(h:∀x∈st,x=0∨x=1)(hl:st.length=ns.length):∀t:Tr,t.ok ns->t.worth ns st p=if t.holds ns st then 1 else 0
 | .is x,ok=>by
   let%[j,hj|jl]:=gZ ok;show(match eZ x ns with | some j=>st.getD j 0 | none=>0)=if(match eZ x ns with | some j=>decide (st.getD j 0=1) | none=>false)=true then 1 else 0
   rw[hj];show st.getD j 0=if decide (st.getD j 0=1)=true then 1 else 0
   rw[su #[0]];rcases h _ (qP0 (show j<st.length by omega))with e | e <;> rw[e] <;> rfl
 | .yes,_=>rfl
 | .no,_=>rfl
 | .not a,ok=>by
   let m0:(0:Int) % p=0:=wZ1 p;let m1:(1:Int) % p=1:=qU0 ⋯ hp;show(1-a.worth ns st p) % p=if(!a.holds ns st)=true then 1 else 0
   rw[iy hp h hl a ok];cases a.holds ns st
   . exact m1
   . exact m0
 | .bin o a b,⟨_,k1,k2⟩=>BH hp _ _ (iy hp h hl a k1) (iy hp h hl b k2)
def nd_at{ns:List Str}(nd:ns.Nodup){i j:Nat}{z:Str}(hi:ns[i]?=some z)(hj:ns[j]?=some z):i=j:=by
 let%[h1|e1]:=zY0 hi;let%[h2|e2]:=zY0 hj;rcases Nat.lt_trichotomy i j with h | h | h
 . exact absurd (e1.trans e2.symm) (List.pairwise_iff_getElem.mp nd i j h1 h2 h)
 . exact h
 . exact absurd (e2.trans e1.symm) (List.pairwise_iff_getElem.mp nd j i h2 h1 h)
def Dd{pt:List Int}{j i:Nat}{x:Int}(hj:j<pt.length):(pt.set j x).getD i 0=if i=j then x else pt.getD i 0:=by
 rw[qM0,qM0,List.getElem?_set]
 by_cases c:j=i
 . subst c
   simp [hj]
 . rw[NP c,NP (Ne.symm c)]
def jg{ns:List Str}{pt:List Int}{p:Int}{j:Nat}{y:Str}(hy:ns[j]?=some y)(hl:pt.length=ns.length)(nd:ns.Nodup):∀t:Tr,t.ok ns->∃f:Int->Int,IsPoly (t.names.count y+1) f/\∀x:Int,p ∣ t.worth ns (pt.set j x) p-f x
 | .is z,ok=>by
   let jl:j<ns.length:=(zY0 hy).1;let%[i,hi|il]:=gZ ok;let hz:=(rj hi).1;let e:∀x,(Tr.is z).worth ns (pt.set j x) p=if i=j then x else pt.getD i 0:=λx=>by
    show(match eZ z ns with | some j'=>(pt.set j x).getD j' 0 | none=>0)=_;rw[hi];exact Dd #[0]
   by_cases c:i=j
   . subst c;let ez:z=y:=zT0 (hz.symm.trans hy);subst ez;erw[λx=>x,6,λx=>%[(0)|by rw[e x,NQ rfl];simp]]
     have:(Tr.is z).names.count z=1:=by simp [Tr.names]
     rw[this];exact IsPoly.self
   . let ez:z≠y:=λh=>c (by
      subst h;exact nd_at nd hz hy)
     erw[λ_=>pt.getD i 0,6,λx=>%[(0)|by rw[e x,NP c];simp]];exact IsPoly.const _ _
 | .yes,_=>%[λ_=>1,IsPoly.const _ _|λx=>%[(0)|by show(1:Int)-1=_;simp]]
 | .no,_=>%[λ_=>0,IsPoly.const _ _|λx=>%[(0)|by show(0:Int)-0=_;simp]]
 | .not a,ok=>by
   let%[f,hf|h]:=jg (p:=p) hy hl nd a ok;erw[λx=>1+(-1)*f x,(IsPoly.const 1 _).add (hf.mul (-1)),λx=>?_];let%[k|hk]:=h x;let%[m|hm]:=sw p (1-a.worth ns (pt.set j x) p);show p ∣ (1-a.worth ns (pt.set j x) p) % p-_;erw[m-k,by grind]
 | .bin o a b,⟨_,ok1,ok2⟩=>by
   let%[f,hf|h]:=jg (p:=p) hy hl nd a ok1;let%[g,hg|h']:=jg (p:=p) hy hl nd b ok2;let ec:(Tr.bin o a b).names.count y+1=a.names.count y+b.names.count y+1:=by
    show(a.names++b.names).count y+1=_;rw[List.count_append]
   rw [ec];let hF:IsPoly (a.names.count y+b.names.count y+1) f:=hf.upTo _ #[0];let hG:IsPoly (a.names.count y+b.names.count y+1) g:=hg.upTo _ #[0];let hP:=hf.prod hg;let fin:∀(c0 c1 c2:Int),(∀u v:Int,eK p o u v=(c0+c1*(u+v)+c2*(u*v)) % p)->∃F:Int->Int,IsPoly (a.names.count y+b.names.count y+1) F/\∀x:Int,p ∣ (Tr.bin o a b).worth ns (pt.set j x) p-F x:=λc0 c1 c2 hJ=>by
    erw[λx=>c0+c1*(f x+g x)+c2*(f x*g x),((IsPoly.const c0 _).add ((hF.add hG).mul c1)).add (hP.mul c2),λx=>?_];let%[k|hk]:=h x;let%[l|hl]:=h' x;show p ∣ eK p o (a.worth ns (pt.set j x) p) (b.worth ns (pt.set j x) p)-_;rw[hJ];generalize a.worth ns (pt.set j x) p=u at *
    generalize b.worth ns (pt.set j x) p=v at *
    let%[m|hm]:=sw p (c0+c1*(u+v)+c2*(u*v));erw[m+c1*(k+l)+c2*(k*v+f x*l),by grind]
   by_cases c1:o="and"
   . exact fin 0 0 1 λu v=>by unfold eK;rw[NQ c1];congr 1;grind
   by_cases c2:o="or"
   . exact fin 0 1 (-1) λu v=>by unfold eK;rw[NP c1,NQ c2];congr 1;grind
   by_cases c3:o="odd"
   . exact fin 0 1 (-2) λu v=>by unfold eK;rw[NP c1,NP c2,NQ c3];congr 1;grind
   . exact fin 1 (-1) 2 λu v=>by unfold eK;rw[NP c1,NP c2,NP c3];congr 1;grind
def wD{ns:List Str}{pt:List Int}{p:Int}{j D:Nat}{y:Str}(hy:ns[j]?=some y)(hl:pt.length=ns.length)(nd:ns.Nodup):∀ts:List Tr,(∀t∈ts,t.ok ns/\t.names.count y<=D)->∃f:Int->Int,IsPoly (D+1) f/\∀x:Int,p ∣ io s (ts.map λt=>t.worth ns (pt.set j x) p)-f x
 | [],_=>%[λ_=>0,IsPoly.const _ _|λx=>%[(0)|by simp [io]]]
 | t::ts,h=>by
   let%[f,hf|h1]:=jg (p:=p) hy hl nd t (h t qA0).1;let%[g,hg|h2]:=wD (p:=p) (s:=s) hy hl nd ts λu hu=>h u (qH0 _ hu)
   let hd:=(h t qA0).2;erw[λx=>f x+s*g x,(hf.upTo _ #[0]).add (hg.mul s),λx=>?_];let%[k|hk]:=h1 x;let%[l|hl]:=h2 x;show p ∣ t.worth ns (pt.set j x) p+s*io s (ts.map λt=>t.worth ns (pt.set j x) p)-_;erw[k+s*l,by grind]
def Cs(hp:Pm p){xs:List Int}{f:Int->Int}(hn:(xs.length:Int)<=p)(hf:IsPoly xs.length f)(h:∀k,k<xs.length->p ∣ xs.getD k 0-f k)(r:Int):val p xs r=f r % p:=
 md (wJ hp hn (xz hp hn) hf h r)
def JE{ts:List Tr}{x:Str}:∀t∈ts,t.names.count x<=(bm ts x).toNat:=λt ht=>by
 have:=He (d:=0) (List.mem_map.mpr %[t,ht|1]:((t.names.count x:Nat):Int)∈ts.map λt=>(t.names.count x:Int))
 unfold bm;omega
def zF:∀(cs st:List Int)(x z:Int),(cs++[z]++st).set cs.length x=cs++[x]++st
 | [],_,_,_=>rfl
 | a::cs,st,x,z=>congrArg (a::·) (zF cs st x z)
def vO{ns:List Str}{cs:List Int}{p:Int}{D:Nat}{y:Str}{ts:List Tr}(hy:ns[cs.length]?=some y)(nd:ns.Nodup)(h:∀t∈ts,t.ok ns/\t.names.count y<=D):∀l:List (List Int),(∀st∈l,cs.length+1+st.length=ns.length) ->
 ∃f:Int->Int,IsPoly (D+1) f/\∀x:Int,p ∣ (l.map λst=>io s (ts.map λt=>t.worth ns (cs++[x]++st) p)).sum-f x
 | [],_=>%[λ_=>0,IsPoly.const _ _|λx=>%[(0)|by simp]]
 | st::l,hs=>by
   let%[f,hf|h1]:=wD (p:=p) (s:=s) (pt:=cs++[0]++st) hy (by rw[zK0,zK0,qK0];exact hs st qA0) nd ts h;let%[g,hg|h2]:=vO (p:=p) (s:=s) hy nd h l λu hu=>hs u (qH0 _ hu)
   erw[λx=>f x+g x,hf.add hg,λx=>?_];let%[k|hk]:=h1 x;rw[zF]at hk;let%[m|hm]:=h2 x;erw[k+m,6];simp only[zX0,zT1];rw[Int.mul_add];omega
def ot:∀(n:Nat)(s:List Int),s∈cS n->s.length=n
 | 0,s,h=>by rw[NW h];rfl
 | n+1,s,h=>by
   let%[t,ht|h]:=List.mem_flatMap.mp h
   have:=ot n t ht
   rcases zW0 h with h | h
   . rw[h,zK0,this];rfl
   . rw[NW h,zK0,this];rfl
def zr{ns:List Str}{ts:List Tr}{cs:List Int}{y:Str}(hp:Pm p)(hy:ns[cs.length]?=some y)(nd:ns.Nodup)(ok:∀t∈ts,t.ok ns)(tne:ts≠[])(dp:bm ts y<p)(r:Int) :
 val p (eI ns ts s p cs (bm ts y+1).toNat) r=cE ns ts s p (cs++[r]):=by
 let cl:cs.length<ns.length:=(zY0 hy).1;let d0:=wX (x:=y) tne;let%[f,hf|h]:=vO (p:=p) (s:=s) hy nd (λt ht=>%[ok t ht|JE t ht]) (cS (ns.length-(cs.length+1))) λst NV=>by
  have:=ot _ _ NV
  omega
 let ll:(eI ns ts s p cs (bm ts y+1).toNat).length=(bm ts y).toNat+1:=by
  unfold eI;rw[zF0,qR0];omega
 let eq:∀x:Int,cE ns ts s p (cs++[x])=((cS (ns.length-(cs.length+1))).map λst=>io s (ts.map λt=>t.worth ns (cs++[x]++st) p)).sum % p:=λx=>by
  unfold cE;rw[zK0,qK0]
 rw [Cs hp (f:=f) (by rw[ll];omega) (by rw[ll];exact hf) (λk hk=>by
  let e:(eI ns ts s p cs (bm ts y+1).toNat).getD k 0=cE ns ts s p (cs++[(k:Int)]):=by
   unfold eI at hk ⊢;rw[zF0,qR0]at hk;rw[qM0,zZ0,jR0 hk];rfl
  rw[e,eq];let%[a|ha]:=h k;let%[b|hb]:=sw p ((cS (ns.length-(cs.length+1))).map λst=>io s (ts.map λt=>t.worth ns (cs++[(k:Int)]++st) p)).sum;erw[a+b,by grind]) r,eq]
 let%[a|ha]:=h r;exact md %[-a|by grind]
def zw{α:Type}(F:List α->Int)(G:List α->Int):∀l:List (List α),(l.map λs=>F s+G s).sum=(l.map F).sum+(l.map G).sum
 | []=>rfl
 | a::l=>by
   simp only[zX0,zT1,zw F G l];omega
def qv(F:List Int->Int):∀l:List (List Int),((l.flatMap λs=>[s++[0],s++[1]]).map F).sum=(l.map λs=>F (s++[0])+F (s++[1])).sum
 | []=>rfl
 | a::l=>by
   rw[wU1,zL0,jJ1,qv F l]
   simp
def ph:∀(n:Nat)(F:List Int->Int),((cS (n+1)).map F).sum=((cS n).map λs=>F (0::s)+F (1::s)).sum
 | 0,F=>by simp [cS]
 | n+1,F=>by
   let e1:((cS (n+1+1)).map F).sum=((cS (n+1)).map λs=>F (s++[0])+F (s++[1])).sum:=qv F _;rw[e1,ph n λs=>F (s++[0])+F (s++[1])];let e2:((cS (n+1)).map λs=>F (0::s)+F (1::s)).sum=((cS n).map λs=>(F (0::(s++[0]))+F (1::(s++[0])))+(F (0::(s++[1]))+F (1::(s++[1])))).sum:=qv (λs=>F (0::s)+F (1::s)) _;rw[e2]
   congr 1
   refine jR1 λs _=>?_
   show F (0::s++[0])+F (0::s++[1])+(F (1::s++[0])+F (1::s++[1]))=_;simp only[List.cons_append];omega
def tF{ns:List Str}{cs:List Int}(cl:cs.length<ns.length):(cE ns ts s p (cs++[0])+cE ns ts s p (cs++[1])) % p=cE ns ts s p cs:=by
 let eq:∀x:Int,cE ns ts s p (cs++[x])=((cS (ns.length-(cs.length+1))).map λst=>io s (ts.map λt=>t.worth ns (cs++[x]++st) p)).sum % p:=λx=>by
  unfold cE;rw[zK0,qK0]
 let e0:cE ns ts s p cs=((cS (ns.length-(cs.length+1)+1)).map λst=>io s (ts.map λt=>t.worth ns (cs++st) p)).sum % p:=by
  unfold cE;rw[show ns.length-cs.length=ns.length-(cs.length+1)+1 by omega]
 rw [e0,ph,eq,eq];let e1:((cS (ns.length-(cs.length+1))).map λst=>io s (ts.map λt=>t.worth ns (cs++0::st) p)+io s (ts.map λt=>t.worth ns (cs++1::st) p)).sum
  = ((cS (ns.length-(cs.length+1))).map λst=>io s (ts.map λt=>t.worth ns (cs++[0]++st) p)).sum+((cS (ns.length-(cs.length+1))).map λst=>io s (ts.map λt=>t.worth ns (cs++[1]++st) p)).sum:=by
  rw[←zw]
  congr 1
  refine jR1 λst _=>?_
  simp only[jC0,List.singleton_append]
 rw[e1,←jD1]
def rk(s:Int){α:Type}(F:Tr->α->Int)(l:List α):∀ts:List Tr,io s (ts.map λt=>(l.map (F t)).sum)=(l.map λa=>io s (ts.map λt=>F t a)).sum
 | []=>by
   simp only[vC1,io]
   induction l with
   | nil=>rfl
   | cons a l ih=>simpa using ih
 | t::ts=>by
   show(l.map (F t)).sum+s*io s (ts.map λt=>(l.map (F t)).sum)=_;rw[rk s F l ts];clear rk
   induction l with
   | nil=>simp
   | cons a l ih=>
     simp only[zX0,zT1,io]at ih ⊢
     grind
def zI{ns:List Str}{cs:List Int}(cl:cs.length=ns.length):cE ns ts s p cs=hor s p (ts.map λt=>t.worth ns cs p):=by
 rw[nv];unfold cE;rw[cl,vE0]
 simp [cS]
def xy:List Str:=["not","and","or","odd","same"]
def wK{o:Str}(h:o∈joinW):o∈xy:=qH0 _ h
def eQ(ts:List Tr)(ns:List Str):List Int:=ts.map λt=>(cnt t ns:Int)
def nY(ts:List Tr)(ns:List Str):(eQ ts ns).length=ts.length:=zF0 _
def GameOk(C:Addr)(H:Hp)(g:Addr)(ns:List Str)(ts:List Tr)(p:Int):Prop:=∃(a b d:Addr)(tv:List V),GameAt C H g a b d p/\H a=some (.tup (ns.map V.str))/\ns.length<=6/\H b=some (.tup tv)/\TreesAt H tv ts/\ts.length<=10/\(∀t∈ts,t.ok ns/\t.depth<=12)
def GameOk.same(h:GameOk C H g ns ts p)(s:Same H H'):GameOk C H' g ns ts p:=by
 erw[a,b,d,tv,h1,h2,h3,h4,h5,h6]at h;erw[a,b,d,tv,h1.same s,s _ _ h2,h3,s _ _ h4,h5.mono (aY s),h6]
def zY(s p:Int):∀c:List Int,hor s p c=evl s c % p
 | []=>(wZ1 p).symm
 | a::r=>by
   show(hor s p r*s+a) % p=(a+s*evl s r) % p;rw[zY s p r,jD1,qO1,Int.emod_emod_of_dvd _ (vD0 p),←qO1,←jD1,qU1,vE1]
instance spDiff(C:Addr):∀(g l:Addr)(ns:List Str)(ts:List Tr)(xs:List Int)(p:Int),vs=[.ref g,.ref l]->GameOk C H g ns ts p->0<p->H l=some (.lst (xs.map V.int))->xs.length=ts.length->(∀(D:Addr)(H':Hp),H D=none->Same H H'->H' D=some (.lst (((ovr xs (eQ ts ns)).map (· % p)).map V.int))->Q (.ref D) H'):=1
def qG:FnScope WE WE (ah iM):=%[|5]
def rM   (F:Fun K "differences" "differences" iM f fd) (B:Bl mg) (T:GTxt K mg C) (fK:#[16,"counts_of",WC,spCounts C]):#[17,f,fd,WE,spDiff C]:=by
 exists qG
 erw[g,l,ns,ts,xs,p,1,G,p0,hl,xl,q]at h;refine⟨_,(ad (am (DJ (N:=WC) (ix:=[0]) rfl
  #[3] rfl ⋯ rfl
  (IS rfl B.zip %[1,aj fK hr ⋯ rfl %[0|aP]|aP])
  (λ_ _ _=>cR (aq ba (aq bh (pv 0) (pv 1)) (jD K (pv 2))))))),?_⟩
 erw[a,b,d,tv,GA,ha,nl,hb,TS,t10,tok]at G;erw[0,0,g,a,b,d,ns,tv,ts,p,1,GA,ha,nl,hb,TS,t10,tok,λc H1 c0 S1 hc=>?_];let hl1:=S1 _ _ hl;let cl:(eQ ts ns).length=ts.length:=nY ts ns;let ol:(ovr xs (eQ ts ns)).length=xs.length:=pZ (xl.trans cl.symm);erw[dx,hg]at GA;erw[l,c,true,true,1,%[_|zH0 hl1],%[_|zH0 hc],λD hD=>?_];refine Fl (K:=K) (c:=true) (d:=true) (xs:=xs.map V.int) (ys:=(eQ ts ns).map V.int) (by rw[zF0,zF0,cl,xl]) (λi H'=>H' D=some (.lst ((((ovr xs (eQ ts ns)).take i).map (· % p)).map V.int))/\Same H1 H') %[by rw[aJ];rfl|zC0 hD _] (λi H' _ h=>%[zH0 (h.2 _ _ hl1)|zH0 (h.2 _ _ hc)]) ?_ ?_
 . rintro i x y t H2 hx hy ⟨hD2,S2⟩ ht;let hi:=(zY0 hx).1;rw[zZ0]at hx hy;let%[x',hx'|1]:=qT0 hx;let%[y',hy'|1]:=qT0 hy;let G2:=zC0 ht (.tup [.int x',.int y']);let S12:=S2.trans G2;erw[0,0,2,0,g,C,dx,_,0,S12 _ _ (S1 _ _ hg),9,T.nF,eU ..,2,p0,6];erw[_,G2 _ _ hD2,6,Nx.of hi %[6|λb' o' e'=>?_]]
   . rw[zF0,zF0,qJ0];exact aN #[0]
   . rw[aJ,DM hx' hy',zL0,zL0];rfl
   . rw[aB (aQ e' hD)];exact S12 _ _ e'
 . rintro H2 ⟨hD2,S2⟩;rw[zF0,←ol,qF0]at hD2;exact q D H2 (S1.free hD) (S1.trans S2) hD2
instance spAre(C:Addr):∀(g l:Addr)(ns:List Str)(ts:List Tr)(xs:List Int)(p:Int),vs=[.ref g,.ref l]->GameOk C H g ns ts p->0<p->H l=some (.lst (xs.map V.int))->xs.length=ts.length->(∀(H':Hp),Same H H'->Q (.bl (wrg p (ovr xs (eQ ts ns)))) H'):=1
def uu:FnScope WE WE (ah kq):=%[|5]
def vf   (F:Fun K "are_wrong" "are_wrong" kq f fd) (B:Bl mg) (d8:#[17,"differences",WE,spDiff C]):#[18,f,fd,WE,spAre C]:=by
 exists uu
 erw[g,l,ns,ts,xs,p,1,G,p0,hl,xl,q]at h;refine⟨_,(ad (am (aG (Fo rfl) rfl B.any Ci (af (cH (N:=[]) (ix:=[]) (cl:=[]) rfl #[5] rfl
  (eN (aj d8 hr ⋯ rfl %[0,1|aP])) (λ_ _ _=>cR (iE mO (pv 0) ae (ax _)))) aP)))),?_⟩
 let t10:ts.length<=10:=by erw[_,_,_,_,_,_,_,_,_,h,_]at G;exact h
 let ol:(ovr xs (eQ ts ns)).length=xs.length:=pZ (xl.trans (nY ts ns).symm);erw[0,0,g,l,ns,ts,xs,p,1,G,p0,hl,xl,λc H1 c0 S1 hc=>?_];erw[c,1,%[_|zH0 hc],λD hD=>?_];refine hU (K:=K) (xs:=((ovr xs (eQ ts ns)).map (· % p)).map V.int) (λi H'=>H' D=some (.lst (((((ovr xs (eQ ts ns)).map (· % p)).take i).map λn=>!decide (n=0)).map V.bl))/\Same H1 H') %[by rw[aJ];rfl|zC0 hD _] (λi H' _ h=>zH0 (h.2 _ _ hc)) ?_ ?_
 . rintro i z H2 hz ⟨hD2,S2⟩;let hi:=(zY0 hz).1;rw[zZ0]at hz;let%[n,hn|1]:=qT0 hz;erw[0,1,6];erw[_,hD2,6,Nx.of hi %[6|λb' o' e'=>?_]]
   . rw[zF0,zF0,qJ0,zF0];exact aN #[0]
   . let e1:decide (V.int n=V.int 0)=decide (n=0):=by
      by_cases c:n=0
      . subst c;simp
      . rw[zB1 c,zB1 λz=>c (V.int.inj z)]
     rw[aJ,qI0,hn,zL0,zL0];show some (HO.lst (_++[V.bl (!decide (V.int n=V.int 0))]))=_;rw[e1];rfl
   . rw[aB (aQ e' hD)];exact S2 _ _ e'
 . rintro H2 ⟨hD2,S2⟩;rw[zF0,qF0]at hD2;erw[D,0,zH0 hD2,6];rw[Fs];exact q H2 (S1.trans S2)
instance spBlind(C:Addr):∀(g l:Addr)(ns:List Str)(ts:List Tr)(xs:List Int)(p:Int),vs=[.ref g,.ref l]->GameOk C H g ns ts p->0<p->p<1500->H l=some (.lst (xs.map V.int))->xs.length=ts.length->(∀(D:Addr)(H':Hp),H D=none->Same H H'->H' D=some (.lst ((ma p (ovr xs (eQ ts ns))).map V.int))->Q (.ref D) H'):=1
def AI{n:Nat}(h:n<=1500):n<sizeLine:=zK1 h ⋯
def l8:FnScope ["game","claims","above"] WE (ah iO):=%[|5]
def rO   (F:Fun K "blind_spots" "blind_spots" iO f fd) (B:Bl mg) (T:GTxt K mg C)
 (mM:Meth K C "mix" fM) (GM:#[1,fM,fdM,WM,spMix C]) (bM:Binds K fdM WM []) (d8:#[17,"differences",WE,spDiff C]):#[18,f,fd,WE,spBlind C]:=by
 exists l8
 erw[g,l,ns,ts,xs,p,1,G,p0,p15,hl,xl,q]at h;let hr1:Room 1 _:=hr.mono ⋯;refine⟨_,(aa (ai (i:=2) l8.nd rfl (Or.inr rfl) (aj d8 hr ⋯ rfl %[0,1|aP]))
  (ad (am (cH (N:=["game","above"]) (ix:=[0,2]) rfl
   #[4] rfl
   (bZ rfl B.range %[ay (pv 0) rfl|aP]) (λ_ _ _=>Ia (ag aR (bQ (pv 1) T.cl mM GM hr1 bM .nil aZ %[2,0|aP]) ae (ax _)) (pv 0)))))),?_⟩
 erw[0,0,g,l,ns,ts,xs,p,1,G,p0,hl,xl,λc H1 c0 S1 hc=>?_];let G1:=G.same S1;erw[a,b,d,tv,%[dx|hg],_]at G1;let nomix:(gf a b p d).lookup ("mix":Str)=none:=pI _ _ _ _ ⋯ ⋯ ⋯ ⋯;erw[0,g,C,dx,_,0,hg,9,T.nF,eU ..,p,1,3,3,λD hD=>?_];refine eP (n:=p.toNat) (λi H'=>H' D=some (.lst ((fnd (λs=>decide (evl (s:Int) (ovr xs (eQ ts ns)) % p=0)) i).map V.int))/\Same H1 H') %[by rw[aJ];rfl|zC0 hD _] ?_ ?_
 . rintro i H2 hi ⟨hD2,S2⟩;erw[0,g,dx,0,S2 _ _ hg,nomix,6];erw[0,0,g,a,b,d,c,_,0+(i:Int),p,1,%[dx|S2 _ _ hg],p0,3,.inl (S2 _ _ hc),6];erw[1,0,6];let ei:hor (0+(i:Int)) p ((ovr xs (eQ ts ns)).map (· % p))=evl (i:Int) (ovr xs (eQ ts ns)) % p:=by rw[zY,Ae,qZ0]
   rw[ei]
   by_cases e:evl (i:Int) (ovr xs (eQ ts ns)) % p=0
   . refine aV (by rw[e]) ?_;erw[0,_,hD2,6,Nx.of hi %[6|λb' o' e'=>?_]]
     . rw [zF0]
       have:=Aa (λs=>decide (evl (s:Int) (ovr xs (eQ ts ns)) % p=0)) i
       exact AI #[0]
     . rw[aJ,wR,zD1 e,NQ rfl,zL0,qZ0];rfl
     . rw[aB (aQ e' hD)];exact S2 _ _ e'
   . refine aD (λz=>e (V.int.inj z)) ?_;refine Nx.of hi %[6|S2];rw[wR,zB1 e,NP qC0,qM1];exact hD2
 . rintro H2 ⟨hD2,S2⟩;exact q D H2 (S1.free hD) (S1.trans S2) hD2
def GameD(C:Addr)(H:Hp)(g d:Addr)(ns:List Str)(ts:List Tr)(p:Int):Prop:=∃(a b:Addr)(tv:List V),GameAt C H g a b d p/\H a=some (.tup (ns.map V.str))/\ns.length<=6/\H b=some (.tup tv)/\TreesAt H tv ts/\ts.length<=10/\(∀t∈ts,t.ok ns/\t.depth<=12)/\H d=some (.lst ((ns.map (bm ts)).map V.int))/\(∀x∈ns,-(2 ^ 40)<bm ts x/\bm ts x<p)
def GameD.ok(h:GameD C H g d ns ts p):GameOk C H g ns ts p:=by
 erw[a,b,tv,h1,h2,h3,h4,h5,h6,h7,_]at h;erw[a,b,d,tv,h1,h2,h3,h4,h5,h6,h7]
def GameD.same(h:GameD C H g d ns ts p)(s:Same H H'):GameD C H' g d ns ts p:=by
 erw[a,b,tv,h1,h2,h3,h4,h5,h6,h7,h8,h9]at h;erw[a,b,tv,h1.same s,s _ _ h2,h3,s _ _ h4,h5.mono (aY s),h6,h7,s _ _ h8,h9]
def GameD.but{f:Addr}(h:GameD C H g d ns ts p)(hf:∃xs,H f=some (.lst xs))(hn:d≠f)(s:SameBut f H H'):GameD C H' g d ns ts p:=by
 erw[a,b,tv,%[dx|h1],h2,h3,h4,h5,h6,h7,h8,h9]at h;erw[xs,hf]at hf;let n:∀{c:Addr}{o:HO},H c=some o->(∀ys,o≠.lst ys)->c≠f:=fun{c o} hc hn z=>by
  rw[z,hf]at hc;exact hn _ (zT0 hc).symm
 erw[a,b,tv,%[dx|s _ _ (n h1 (λys z=>by cases z)) h1],s _ _ (n h2 (λys z=>by cases z)) h2,h3,s _ _ (n h4 (λys z=>by cases z)) h4,h5.mono (λc xs hc=>s _ _ (n hc (λys z=>by cases z)) hc),h6,h7,s _ _ hn h8,h9]
def GameD.gm(h:GameD C H g d ns ts p):Gm C H g ns ts p/\ns.length<=6:=by
 erw[a,b,tv,h1,h2,h3,h4,h5,_,_,h8,_]at h;erw[%[a,b,d,tv,h1,h2,h4,h5|h8],h3]
instance spCaught(C:Addr):∀(g d:Addr)(ns:List Str)(ts:List Tr)(p:Int),vs=[.ref g]->GameD C H g d ns ts p->0<p->p<1500->Q (.int (cgt p (ns.map (bm ts)))) H:=1
def f8:FnScope ["game","told","degree"] WC (ah iN):=%[|5]
def rN   (F:Fun K "caught_rows" "caught_rows" iN f fd) (T:GTxt K mg C):#[1,f,fd,WC,spCaught C]:=by
 exists f8
 erw[g,d,ns,ts,p,1,%[a,b,tv,%[dx|hg],ha,nl,hb,TS,t10,tok,hd|dr],p0,p15,q]at h;refine⟨_,(aa #[ai,1,f8,ae]
  (aa (cF zF1 rfl (eN (ay (pv 0) rfl)) (bc (i:=2) f8.nd rfl (.inl rfl)) (ad #[ai,1,f8,aq ci (pv 1) (aq bh (ay (pv 0) rfl) (pv 2))]))
  (ad (am (pv 1))))),?_⟩
 erw[0,g,C,dx,_,0,hg,9,T.nD,zZ ..,d,1,%[_|zH0 hd],iW (K:=K) (xs:=(ns.map (bm ts)).map V.int) (λi σ H'=>∃x2:Option V,σ=[some (.ref g),some (.int (cgt p ((ns.map (bm ts)).take i))),x2]/\H'=H) %[0|1] (λi σ H' _ NV=>by erw[_,_,h]at NV;subst h;exact zH0 hd) ?_ ?_]
 . rintro i z σ H1 hz ⟨x2,rfl,rfl⟩;rw[zZ0]at hz;let%[n,hn|1]:=qT0 hz;let nr:-(2 ^ 40)<n/\n<p:=by
    let%[x,hx|1]:=List.mem_map.mp (qL0 hn);exact dr x hx
   let et:cgt p ((ns.map (bm ts)).take (i+1))=cgt p ((ns.map (bm ts)).take i)*(p-n):=by
    rw[qI0,hn];exact Fn p _ n
   erw[0,0,g,C,dx,_,0,hg,9,T.nF,eU ..,0,2,2,.inr %[3|3],6];erw[some (.int n),6,1];rw[et];rfl
 . rintro σ H1 ⟨x2,rfl,rfl⟩;rw[zF0,qF0];erw[0,q]
instance spLet(C:Addr):∀(g d l:Addr)(ns:List Str)(ts:List Tr)(xs:List Int)(p:Int),vs=[.ref g,.ref l]->GameD C H g d ns ts p->0<p->p<1500->H l=some (.lst (xs.map V.int))->xs.length=ts.length->(∀(H':Hp),Same H H'->Q (.int (sU p ns.length ts.length (cgt p (ns.map (bm ts))) (ovr xs (eQ ts ns)))) H'):=1
def fe:FnScope ["game","claims","rows","by_chance","blind"] WE (ah fX):=%[|5]
def mX   (F:Fun K "let_by_at_most" "let_by_at_most" fX f fd) (B:Bl mg) (T:GTxt K mg C) (je:#[1,"power",Wr,spPow]) (db:#[2,"rows_of_coins",WC,spRowsC C]) (i7:#[1,"caught_rows",WC,spCaught C])
 (fN:#[18,"are_wrong",WE,spAre C]) (i8:#[18,"blind_spots",WE,spBlind C]):#[19,f,fd,WE,spLet C]:=by
 exists fe
 erw[g,d,l,ns,ts,xs,p,1,G,p0,p15,hl,xl,q]at h;refine⟨_,(aa (aI (jC (eY (aj fN hr ⋯ rfl %[0,1|aP]))) (ad (am (aj db hr ⋯ rfl %[0|aP]))) az)
  (aa #[ai,2,fe,aj je hr ⋯ rfl %[ay (pv 0) rfl,aG aE rfl B.len zC1 %[ay (pv 0) rfl|aP]|aP]]
  (aa #[ai,3,fe,aq bh (pv 2) (aj i7 hr ⋯ rfl %[0|aP])]
  (aa (aI (ag aR (aG aE rfl B.len zC1 %[ay (pv 0) rfl|aP]) ae (ax _)) (ad (am (pv 3))) az)
  (aa #[ai,4,fe,aG aE rfl B.len zC1 %[aj i8 hr ⋯ rfl %[0,1|aP]|aP]]
  (ad (am (aq aS (aq ci (pv 4) (pv 2)) (aq ci (aq bh (ay (pv 0) rfl) (pv 4)) (pv 3)))))))))),?_⟩
 erw[0,0,g,l,ns,ts,xs,p,1,G.ok,p0,hl,xl,λH1 S1=>%[0|6]];let G1:=G.same S1;let q1:=q H1 S1;unfold sU at q1;cases W:wrg p (ovr xs (eQ ts ns))with
 | false=>
   rw[W,NP qC0]at q1;refine eF ?_;erw[0,g,ns,ts,p,1,G1.gm.1,G1.gm.2,p0,3,q1]
 | true=>
   rw[W,NQ rfl]at q1;refine dI ?_;let%[a,b,tv,%[dx|hg],ha,nl,hb,TS,t10,tok,hd|dr]:=id G1;let vl:=TS.length;erw[0,g,C,dx,_,0,hg,9,T.nF,eU ..,0,g,C,dx,_,0,hg,9,T.nS,nJ ..,a,0,.inr (zD0 ha),p,0,3,by rw[zF0];omega,p0,3,6];let en:(((ns.map V.str).length:Nat):Int).toNat=ns.length:=by rw[zF0];omega
   rw[en];erw[0,0,g,d,ns,ts,p,1,G1,p0,p15,2,6];erw[0,g,C,dx,_,0,hg,9,T.nT,lu ..,b,0,.inr (zD0 hb),1,0,6]
   by_cases c:V.int (tv.length:Int)=V.int 1
   . refine aV c ?_;let c':ts.length=1:=by have:=V.int.inj c;omega
     rw[NQ c']at q1;erw[0,q1]
   . refine aD c ?_;let c':¬ ts.length=1:=λz=>c (by rw[vl,z];rfl)
     erw[0,0,g,l,ns,ts,xs,p,1,G1.ok,p0,p15,S1 _ _ hl,xl,λD H2 D0 S2 hD=>?_];let q2:=q H2 (S1.trans S2);unfold sU at q2;rw[W,NQ rfl,NP c']at q2;let bl:=Aa (λs=>decide (evl (s:Int) (ovr xs (eQ ts ns)) % p=0)) p.toNat;let bl':(ma p (ovr xs (eQ ts ns))).length<=p.toNat:=bl;erw[D,0,.inl (zH0 hD),6];rw[zF0];erw[0,0,2,.inl %[3|3],0,g,C,dx,_,0,S2 _ _ hg,T.cl,T.nF,eU ..,0,2,0,2,.inl %[3|3],2,q2]
def i9:FnScope ["_law_p","_law_many","_law_found","_law_k"] Wv (ah oB):=%[|5]
def yp   (F:Fun K "_law_power" "_law_power" oB f fd) (B:Bl mg):#[1,f,fd,Wv,spPow]:=by
 exists i9
 erw[x,k,1,k0,k1,x0,x1,q]at h;refine⟨_,(aa #[ai,2,i9,ae]
  (aa (cF zF1 rfl (bZ rfl B.range %[1|aP]) (bc (i:=3) i9.nd rfl (.inl rfl)) (ad #[ai,2,i9,aq ci (pv 2) (pv 0)]))
  (ad (am (pv 2))))),?_⟩
 erw[0,k,1,3,3,cW (n:=k.toNat) (λi σ H'=>∃x3:Option V,σ=[some (.int x),some (.int k),some (.int (x ^ i)),x3]/\H'=H) %[none,by rw[jT0];rfl|1] ?_ ?_]
 . rintro i σ H1 hi ⟨x3,rfl,rfl⟩;erw[0,0,2,.inr %[3|3],6];erw[some (.int (0+(i:Int))),6,1];rw[qA1];rfl
 . rintro σ H1 ⟨x3,rfl,rfl⟩;erw[0,q]
def pr_5:Pr 5:=zL ⋯
instance spLeast:∀(a b:Addr)(ns:List Str)(tv:List V)(ts:List Tr),vs=[.ref a,.ref b]->H a=some (.lst (ns.map V.str))->H b=some (.lst tv)->TreesAt H tv ts->ts.length<=10->(∀t∈ts,t.wf/\t.depth<=10/\t.size<=400)->(∀(p:Int)(H':Hp),Same H H'->Pr p->2<p->p<=999983->(ns=[]->ts.length<=4->p<=5)->(ts.length:Int)<=p->(∀t∈ts,∀x∈ns,(t.names.count x:Int)<p)->Q (.int p) H'):=1
def n8:FnScope ["_law_names_here","_law_trees","_law_number"] WU (ah oC):=%[|5]
def yr   (F:Fun K "_law_least" "_law_least" oC f fd) (C3:#[13,"_law_need",WU,spNeed]) (jj:#[1,"_law_is_prime",["_law_number"],spPrimeB]):#[14,f,fd,WU,spLeast]:=by
 exists n8
 erw[a,b,ns,tv,ts,1,ha,hb,TS,tl,tok,q]at h;refine⟨_,(aa #[ai,2,n8,aq aS (aj C3 hr ⋯ rfl %[0,1|aP]) ae]
  (aa (im zF1 (jC (eY (aj jj hr ⋯ rfl %[2|aP]))) (ad #[ai,2,n8,aq aS (pv 2) ae]))
  (ad (am (pv 2))))),?_⟩
 erw[0,0,a,b,ns,tv,ts,1,ha,hb,TS,tl,tok,λm H1 S1 m2 m4 me mt mc=>?_];erw[2,6];erw[λmm σ H'=>∃n:Int,σ=[some (.ref a),some (.ref b),some (.int n)]/\H'=H1/\m<n/\n<=999983/\(m<=3->n<=5)/\mm=(999983-n).toNat,%[_,m+1,1,1,3,3,3|1],6];rintro mm σ H' ⟨n,rfl,rfl,n0,n1,n5,rfl⟩;erw[0,n,1,λb hb=>%[b,1|6]];cases b with
 | true=>
   refine dI ?_;erw[0,q n _ S1 (hb.mp rfl) #[0] n1 (λe f=>n5 (me e f)) #[0] λt ht x hx=>by have:=mc t ht x hx;omega]
 | false=>
   refine eF ?_;erw[_,λ_ _ h=>h,6];let ne:n≠999983:=λz=>by
    subst z;exact nomatch hb.mpr Ba
   let ne5:n≠5:=λz=>by
    subst z;exact nomatch hb.mpr pr_5
   erw[0,2,6];erw[_,3,n+1,1,1,3,3,3,1]
def Tr.without(x:Str):Tr->Tr
 | .is y=>if y=x then .yes else .is y
 | .yes=>.yes
 | .no=>.no
 | .not a=>.not (a.without x)
 | .bin w a b=>.bin w (a.without x) (b.without x)
def pW(x:Str):∀t:Tr,(t.without x).size=t.size
 | .is y=>by unfold Tr.without;split <;> rfl
 | .yes=>rfl
 | .no=>rfl
 | .not a=>by show(a.without x).size+1=a.size+1;rw[pW x a]
 | .bin w a b=>by show(a.without x).size+(b.without x).size+1=_;rw[pW x a,pW x b];rfl
def lW(x:Str):∀t:Tr,(t.without x).depth=t.depth
 | .is y=>by unfold Tr.without;split <;> rfl
 | .yes=>rfl
 | .no=>rfl
 | .not a=>by show(a.without x).depth+1=a.depth+1;rw[lW x a]
 | .bin w a b=>by show max (a.without x).depth (b.without x).depth+1=_;rw[lW x a,lW x b];rfl
def zq{ns:List Str}{x:Str}:∀t:Tr,t.ok (ns++[x])->(t.without x).ok ns
 | .is y,h=>by
   unfold Tr.without
   split
   . trivial
   . rename_i c;let h:y∈ns++[x]:=h;rcases qD0 h with h | h
     . exact h
     . exact absurd (NW h) c
 | .yes,_=>trivial
 | .no,_=>trivial
 | .not a,h=>zq a h
 | .bin w a b,⟨h1,h2,h3⟩=>%[h1,zq a h2|zq b h3]
def vq (o:Str):inV (.str o) [.str "is",.str "yes",.str "no"]=(decide (o="is")||(decide (o="yes")||decide (o="no"))):=by
 show (("is"==o)||(("yes"==o)||(("no"==o)||false)))=_;rw[Bool.or_false];let e:∀z:Str,(z==o)=decide (o=z):=λz=>by
  by_cases c:o=z
  . subst c;simp
  . rw[zB1 c];simpa using λh=>c h.symm
 rw[e,e,e]
def Hm {o:Str} (h:o∈xy):inV (.str o) [.str "is",.str "yes",.str "no"]=false:=by
 rw[vq,zB1,zB1,zB1]
 . rfl
 . intro z;subst z;revert h;decide
 . intro z;subst z;revert h;decide
 . intro z;subst z;revert h;decide
def isD(x:Str):Tr->Bool
 | .is y=>decide (y=x)
 | _=>false
def Jw (t:Tr) (x:Str) (w:t.wf):PyData.eqv t.data (.tuple [.str "is",.str x])=isD x t:=by
 cases t with
 | is y=>
   simp only[Tr.data,PyData.eqv,PyData.eqvAll,isD,Bool.and_true]
   by_cases c:y=x
   . subst c;simp
   . simp [c]
 | yes=>simp [Tr.data,PyData.eqv,PyData.eqvAll,isD]
 | no=>simp [Tr.data,PyData.eqv,PyData.eqvAll,isD]
 | not a=>
   have:(("not":Str)=="is")=false:=by decide
   simp only[Tr.data,PyData.eqv,PyData.eqvAll,isD,this,Bool.false_and]
 | bin o a b=>simp [Tr.data,PyData.eqv,PyData.eqvAll,isD]
def pf{t:Tr}(w:t.wf)(d:t.depth<=20):SeqAt.shaped t.data=true:=by
 let h:=qk t w;simp only[SeqAt.shaped,h.1,Bool.true_and];exact zD1 #[0]
def xM  (h:oX x):SeqAt.shaped (.tuple [.str "is",.str x])=true:=pf (t:=.is x) h (by show 1<=20;decide)
instance spWo(n:Nat):∀(v:V)(t:Tr)(x:Str),vs=[v,.str x]->TreeAt H v t->t.wf->oX x->t.depth<=n->t.depth<=10->(∀(v':V)(H':Hp),Same H H'->TreeAt H' v' (t.without x)->Q v' H'):=1
def ui:FnScope WQ WQ (ah iC):=%[|5]
def FI {H:Hp} {a:Addr} {o:Str}  {t:Tr} {us:List V} (h:∃xs,t.parts.length=xs/\1<=xs) (nt:(∃r,t=.not r/\o="not")∨∃r r2,t=.bin o r r2) (ha:H a=some (.tup (.str o::us))) (TS:TreesAt H us (t.parts.map (Tr.without x))):TreeAt H (.ref a) (t.without x):=by
 rcases nt with⟨r,rfl,rfl⟩ | ⟨r,r2,rfl⟩
 . cases TS with
   | cons g r=>cases r;exact .not ha g
 . cases TS with
   | cons g r=>cases r with
     | cons g2 r=>cases r;exact .bin ha g g2
def FG {n:Nat}   (F:Fun K "_law_without" "_law_without" iC f fd) (B:Bl mg) (gi:#[n+2,"_law_without",WQ,spWo n]):#[n+3,f,fd,WQ,spWo (n+1)]:=by
 exists ui
 erw[v,t,x,1,T,wf,nx,dn,d10,q]at h;refine⟨_,(aa (aI (ag (uW hr.units) (pv 0) (aF %[ao,1|aP]) (ax _)) (ad (am (aF %[ao|aP]))) az)
  (aa (aI (ag fY (aM ix_tup (pv 0) ae #[1]) (aF %[ao,ao,ao|aP]) (by rfl')) (ad (am (pv 0))) az)
  (ad (am (aq op_catT (aF %[aM ix_tup (pv 0) ae #[1]|aP]) (bt bb rfl B.tuple bu (af (cH (N:=["_law_name"]) (ix:=[1]) rfl
   #[3] rfl
   (ip (eJ qC (pv 0) (eM ae) iD)) (λ_ _ _=>cR (aj gi hr (zG0 _) rfl %[0,1|aP]))) aP))))))),?_⟩
 erw[0,0,y2S,λc hc=>?_];let I1:=zC0 hc (.tup [.str "is",.str x]);let g1:upd H c (.tup [.str "is",.str x]) c=some (.tup [.str "is",.str x]):=aJ;generalize upd H c (.tup [.str "is",.str x])=H1 at I1 g1;let T1:=T.mono (aY I1);erw[t.data,.tuple [.str "is",.str x],Dw T1,.tup (zD0 g1) (.cons (.str _) (.cons (.str _) .nil)),pf wf #[0],xM nx,0,6];rw[Jw t x wf];let cs:t=.is x∨(∃(a:Addr) (o:Str) (us:List V),v=.ref a/\H1 a=some (.tup (.str o::us))/\inV (.str o) [.str "is",.str "yes",.str "no"]=true/\t.without x=t/\isD x t=false)∨(∃(a:Addr) (o:Str) (us:List V),v=.ref a/\H1 a=some (.tup (.str o::us))/\o∈xy/\us.length<=2/\us≠[]/\TreesAt H1 us t.parts/\((∃r,t=.not r/\o="not")∨∃r r2,t=.bin o r r2)/\isD x t=false):=by
  cases id T1 with
  | @is a y e=>
    by_cases c:y=x
    . exact .inl (by rw[c])
    . exact .inr (.inl %[a,"is",0,e,by rw[vq];decide,NP c|zB1 c])
  | @yes a e=>exact .inr (.inl %[a,"yes",0,e,by rw[vq];decide,1|1])
  | @no a e=>exact .inr (.inl %[a,"no",0,e,by rw[vq];decide,1|1])
  | @not a u r e g=>exact .inr (.inr %[a,"not",[u],1,e,4,(by show 1<=2;decide),by simp,.cons g .nil,.inl %[r,1|1]|1])
  | @bin a o u u2 r r2 e g g2=>exact .inr (.inr %[a,o,[u,u2],1,e,wK wf.1,(by show 2<=2;decide),by simp,.cons g (.cons g2 .nil),.inr %[r,r2|1]|1])
 rcases cs with rfl | ⟨a,o,us,rfl,e2,e3,e4,eD⟩ | ⟨a,o,us,rfl,e2,om,ul,u0,TS0,nt,eD⟩
 . rw[show isD x (.is x)=true from zD1 rfl];refine eF %[y1S|λz hz=>q (.ref z) _ (I1.trans (zC0 hz _)) ?_];rw[show(Tr.is x).without x=.yes from NQ rfl];exact .yes aJ
 . rw [eD];refine dI ?_;erw[0,a,_,(0),.str o,1,1,zD0 e2,at0 ..,y3S,λc2 hc2=>?_];let I2:=zC0 hc2 (.tup [.str "is",.str "yes",.str "no"]);erw[c2,0,.inr (zD0 aJ),1,1,0,6];show if inV (.str o) [.str "is",.str "yes",.str "no"]=true then _ else _
   rw[e3];refine eF %[0|q _ _ (I1.trans I2) ?_];rw[e4];exact T1.mono (aY I2)
 . rw [eD];refine dI ?_;erw[0,a,_,(0),.str o,1,1,zD0 e2,at0 ..,y3S,λc2 hc2=>?_];let I2:=zC0 hc2 (.tup [.str "is",.str "yes",.str "no"]);erw[c2,0,.inr (zD0 aJ),1,1,0,6];show if inV (.str o) [.str "is",.str "yes",.str "no"]=true then _ else _
   rw[Hm om];refine dI ?_;generalize upd H1 c2 (.tup [.str "is",.str "yes",.str "no"])=H2 at I2;erw[0,a,_,(0),.str o,1,1,zD0 (I2 _ _ e2),at0 ..,y1S,λc3 hc3=>?_];let I3:=zC0 hc3 (.tup [.str o]);let g3:upd H2 c3 (.tup [.str o]) c3=some (.tup [.str o]):=aJ;generalize upd H2 c3 (.tup [.str o])=H3 at I3 g3;let I13:=I2.trans I3;let%[w1|w2]:=JI (.str o) us ul;erw[0,(1),1,a,0,zD0 (I13 _ _ e2),w2,λc4 hc4=>?_];rw[w1];let I4:=zC0 hc4 (.tup us);let g4:upd H3 c4 (.tup us) c4=some (.tup us):=aJ;generalize upd H3 c4 (.tup us)=H4 at I4 g4;let I14:=I13.trans I4;let TS:=TS0.mono (aY I14);let xl:=TS.length;erw[c4,1,%[_|zD0 g4],λD hD=>?_];refine gC (K:=K) (xs:=us) (λi H'=>∃vs:List V,H' D=some (.lst vs)/\vs.length=i/\TreesAt H' vs ((t.parts.take i).map (Tr.without x))/\Same H4 H') %[[],by rw[aJ],1,.nil|zC0 hD _] (λi H' _ NV=>by erw[_,_,_,_,h]at NV;exact zD0 (h _ _ g4)) ?_ ?_
   . rintro i z H5 hz ⟨vs,hl,vl,TV,S5⟩;let%[u,hu'|Tu]:=TS.get hz;let um:=qL0 hu';let%[uw,ud|us']:=Tr.parts_mem um wf;let hi:i<us.length:=(zY0 hz).1;erw[0,0,z,u,x,1,Tu.mono (aY S5),uw,nx,3,3,λv' H6 S6 T6=>?_];let hl6:=S6 _ _ hl;let k7:=dH (H:=H6) (b:=D) (ys:=vs) (zs:=vs++[v']) hl6;erw[_,hl6,aN #[0],Nx.of hi ⟨vs++[v'],aJ,by rw[zK0,vl];rfl,?_,λb' o' e'=>?_⟩]
     . rw[qI0,hu',zL0];exact((TV.mono (aY S6)).mono k7).append (.cons (T6.mono k7) .nil)
     . rw[aB (aQ e' hD)];exact S6 _ _ (S5 _ _ e')
   . rintro H5 ⟨vs,hl,vl,TV,S5⟩;rw[xl,qF0]at TV;erw[D,0,.inl %[zH0 hl|λc6 hc6=>?_]];let I6:=zC0 hc6 (.tup vs);let g6:upd H5 c6 (.tup vs) c6=some (.tup vs):=aJ;generalize upd H5 c6 (.tup vs)=H6 at I6 g6;let v0:vs≠[]:=λz=>by
      rw[z]at vl;exact u0 (List.eq_nil_of_length_eq_zero vl.symm)
     let S36:Same H3 H6:=I4.trans (S5.trans I6);erw[c3,c6,2,zD0 (S36 _ _ g3),zD0 g6,by simp,cq (by show 1+vs.length<=1000;omega),λz=>absurd z v0,λ_ t7 ht7=>?_];let I7:=zC0 ht7 (.tup ([.str o]++vs));refine q (.ref t7) _ (I1.trans (I13.trans (I4.trans (S5.trans (I6.trans I7))))) ?_;exact FI ⟨_,rfl,by rw[←xl];cases us with | nil=>exact absurd rfl u0 | cons _ _=>exact zG1 (zU0 _)⟩ nt (by rw[aJ];rfl) ((TV.mono (aY I6)).mono (aY I7))
def FE  :#[2,f,fd,WQ,spWo 0]:=by
 let no:∀vs H Q E,¬ spWo 0 vs H Q E:=λvs H Q E h=>by
  erw[v,t,x,_,_,_,_,h1,_]at h
  have:=t.depth_pos
  omega
 exists 3
def mY   (F:Fun K "_law_without" "_law_without" iC f fd) (m:mg "_law_without"=some (.ref f)) (B:Bl mg) :
 ∀n:Nat,#[n+2,f,fd,WQ,spWo n]
 | 0=>FE
 | n+1=>FG F B (Cal.of F (mY F m B n) m (λ_ _ _ _ _ _ us hl=>by let%[u0,u1|1]:=Hj hl;rfl))
structure SmallG(ns:List Str)(ts:List Tr)(p:Int):Prop where
 nl:ns.length<=5
 nok:∀x∈ns,oX x
 nd:ns.Nodup
 t1:1<=ts.length
 t4:ts.length<=4
 tok:∀t∈ts,t.ok ns/\t.depth<=9/\t.size<=8
 pp:Pr p
 p2:2<p
 p9:p<=999983
 p5:ns=[]->p<=5
 tp:(ts.length:Int)<=p
 tc:∀t∈ts,∀x∈ns,(t.names.count x:Int)<p
def SmallG.ne(h:SmallG ns ts p)(hp:¬ p ^ bz ns ts<=120):ns≠[]:=λz=>by
 let p5:=h.p5 z;let p2:=h.p2;refine hp ?_
 have:bz ns ts=0∨bz ns ts=1:=by
  unfold bz;rw[z]
  split
  . exact .inl rfl
  . exact .inr rfl
 rcases this with e | e <;> rw[e]
 . show p ^ 0<=120;rw[jT0];decide
 . rw[qA1,jT0];omega
instance spSmall:∀(f:Addr),vs=[.ref f,.int 120,.int 8]->FeedAt H f->(∀(g a b:Addr)(ns:List Str)(tv:List V)(ts:List Tr)(p:Int)(H':Hp),H' g=some (.tup [.ref a,.ref b,.int p])->H' a=some (.tup (ns.map V.str))->H' b=some (.tup tv)->TreesAt H' tv ts->SmallG ns ts p->p ^ bz ns ts<=120->FeedAt H' f->SameBut f H H'->Q (.ref g) H'):=1
def eX:FnScope ["_law_feed_here","_law_most","_law_room","_law_names_here","_law_trees","_law_p","_law_turn"] Ww (ah oA):=%[|5]
def SmallG.wf{ns:List Str}{ts:List Tr}(nok:∀x∈ns,oX x)(tok:∀t∈ts,t.ok ns/\t.depth<=9/\t.size<=8):∀t∈ts,t.wf/\t.depth<=10/\t.size<=400:=λt ht=>%[Tr.ok_wf nok t (tok t ht).1,by have:=(tok t ht).2.1;omega|by have:=(tok t ht).2.2;omega]
def Ix{ns:List Str}{x:Str}{ts:List Tr}(tok:∀t∈ts,t.ok (ns++[x])/\t.depth<=9/\t.size<=8):∀t∈ts.map (Tr.without x),t.ok ns/\t.depth<=9/\t.size<=8:=λt ht=>by
 let%[u,hu|1]:=List.mem_map.mp ht;let%[h1,h2|h3]:=tok u hu;erw[zq u h1,by rw[lW];exact h2,by rw[pW];exact h3]
def Fi(xs:List V)(a:V):iP (xs++[a]) none (some (-1))=xs:=by
 simp only[iP,HT.sIx,zK0,zP0,zL1];let e:(-1+(((xs.length+(0+1):Nat)):Int)).toNat=xs.length:=by omega
 simp
 let e2:(-1+((xs.length:Int)+1)).toNat=xs.length:=by omega
 rw[e2]
 simp
def HH(xs:List V)(a:V):atI (xs++[a]) (-1)=some a:=by
 unfold atI ixN;rw[zK0,qK0];let e2:(-1+(((xs.length+1:Nat)):Int)).toNat=xs.length:=by omega
 rw[NP ⋯,NQ #[0],e2];show(xs++[a])[xs.length]?=some a
 simp
def yo   (F:Fun K "_law_small" "_law_small" oA f fd) (B:Bl mg) (aX:#[1,"_law_take",WD,spTake]) (gY:#[2,"_law_names",WD,spNamesN])
 (gH:#[12,"_law_tree",WR,spTree 10]) (jT:#[14,"_law_least",WU,spLeast]) (r9:#[1,"_law_power",Wv,spPow]) (gi:#[12,"_law_without",WQ,spWo 10]):#[15,f,fd,Ww,spSmall]:=by
 exists eX
 erw[f,1,hF,q]at h;refine⟨_,(aa (ai (i:=3) eX.nd rfl (Or.inr rfl) (aj gY hr ⋯ rfl %[0,aj aX hr ⋯ rfl %[0,ae|aP]|aP]))
  (aa (pY (i:=4) (N:=["_law_room","_law_names_here","_law_feed_here"]) (ix:=[2,3,0]) eX.nd rfl (.inl rfl) rfl
   (CompScope.three (by rfl') ⋯ rfl ⋯ rfl ⋯ rfl (by rfl') (by rfl') (by rfl') (by rfl') (by rfl') rfl rfl (by rfl') rfl rfl (by rfl') rfl rfl) rfl
   (bZ rfl B.range %[aM ix_list (dL %[ae,ae,ae,ae,ae|aP]) (aj aX hr ⋯ rfl %[0,ae|aP]) #[1]|aP])
   (λ_ _ _=>cR (aj gH hr ⋯ rfl %[3,2,aq aS ae (aj aX hr ⋯ rfl %[3,1|aP]),ae|aP])))
  (aa #[ai,5,eX,aj jT hr ⋯ rfl %[3,4|aP]]
  (aa (cF zF1 rfl (bZ rfl B.range %[ae|aP]) (bc (i:=6) eX.nd rfl (.inl rfl)) (ad (aI (ag gQ (aj r9 hr ⋯ rfl %[5,aq aS (aG aE rfl B.len zC1 %[3|aP]) (bt Cg rfl B.int lh %[iE gQ (aG aE rfl B.len zC1 %[4|aP]) ae (ax _)|aP])|aP]) (pv 1) (ax _)) (aa (pY (i:=4) (N:=["_law_names_here"]) (ix:=[3]) eX.nd rfl (.inl rfl) rfl
   #[3] rfl
   (eN (pv 4)) (λ_ _ _=>cR (aj gi hr ⋯ rfl %[0,aM (wL K) (pv 1) (wb qo ae) #[1]|aP])))
   (aa (ai (i:=3) eX.nd rfl (Or.inr rfl) (eJ Ge (pv 3) iD (eM (wb qo ae))))
   (ad #[ai,5,eX,aj jT hr ⋯ rfl %[3,4|aP]]))) az)))
  (ad (am (aF %[bt bb rfl B.tuple bu %[3|aP],bt bb rfl B.tuple bu %[4|aP],5|aP]))))))),?_⟩
 erw[0,0,f,(6),1,hF,4,4,λmk H1 k0 k7 F1 S1=>?_];erw[f,mk,1,F1,k0,3,λnl ns H2 nl0 nlf hnl nsl nok nnd F2 S2=>?_];let S02:=S1.trans S2;let nl6:ns.length<=5:=by have:mk<6:=k7;omega
 erw[y5S,λl hl=>?_];let lf:=F2.ne hl;let G2:=zC0 hl (.lst [.int 1,.int 1,.int 2,.int 3,.int 4]);erw[0,f,(5),1,F2.same G2,4,4,λj H3 j0 j6 F3 S3=>?_];let hl3:=S3 l _ lf aJ;let%[x,hx|xm]:=oi (l:=[V.int 1,V.int 1,V.int 2,V.int 3,V.int 4]) (i:=j) j0 (by show j<5;omega);obtain⟨z,rfl,z0,z4⟩:∃z:Int,x=.int z/\1<=z/\z<=4:=by
  simp only[jF1,qS1,wY1]at xm;rcases xm with h | h | h | h | h <;> erw[_,h,4,4]
 erw[l,_,2,zH0 hl3,hx,6];let S23:SameBut f H2 H3:=(zJ0 G2).trans S3;let hnl3:=S23 nl _ nlf hnl;let S03:=S02.trans S23;erw[z,1,3,3,λD hD=>?_];let Df:=F3.ne hD;let nD:nl≠D:=aQ hnl3 hD;let GD:=zC0 hD (.lst []);refine eP (λi H'=>∃(tv:List V)(ts:List Tr),H' D=some (.lst tv)/\TreesAt H' tv ts/\ts.length=i/\(∀t∈ts,t.ok ns/\t.depth<=9/\t.size<=8)/\FeedAt H' f/\SameBut f H3 H') %[[],[],aJ,.nil,1,(λt ht=>by cases ht),F3.same GD|zJ0 GD] ?_ ?_
 . rintro i H4 hi ⟨tv,ts,hD4,TS,tl,tok,F4,S4⟩;let hi':i<z.toNat:=hi;let hnl4:=S4 nl _ nlf hnl3;erw[0,0,0,0,f,(8),1,F4,4,4,λe H5 e0 e1 F5 S5=>?_];let hnl5:=S5 nl _ nlf hnl4;let e8:e<8:=#[0]
   erw[2,f,nl,_,_,ns,1,F5,.inl hnl5,3,3,3,4,4,λv t H6 F6 S6 T6 ok6 sz6 dp6=>?_];let S46:=S5.trans S6;let hD6:=S46 D _ Df hD4;let k46:=bj F4 S46;let vl:=TS.length;erw[_,hD6,aN #[0],Nx.of hi ⟨tv++[v],ts++[t],aJ,?_,?_,?_,nO F6 Df,?_⟩]
   . let k:=dH (H:=H6) (b:=D) (ys:=tv) (zs:=tv++[v]) hD6;exact((TS.mono k46).mono k).append (.cons (T6.mono k) .nil)
   . rw[zK0,qK0,tl]
   . intro u hu;rcases qD0 hu with h | h
     . exact tok u h
     . rw[NW h];let d9:(t.depth:Int)<=9:=dp6;let s9:(t.size:Int)<=1+e:=sz6;erw[ok6,3,3]
   . intro b o hb eb;rw[aB (aQ eb hD)];exact S46 b o hb (S4 b o hb eb)
 rintro H4 ⟨tv,ts,hD4,TS,tl,tok,F4,S4⟩;let hnl4:=S4 nl _ nlf hnl3;let tl':ts.length=z.toNat:=tl;let tl1:1<=ts.length:=by omega
 let tl4:ts.length<=4:=by omega
 let S04:=S03.trans S4;erw[0,0,nl,D,ns,tv,ts,1,hnl4,hD4,TS,3,SmallG.wf nok tok,λp H5 S5 pp p2 p9 p5 tp tc=>?_];let SG:SmallG ns ts p:=%[nl6,nok,nnd,tl1,tl4,tok,pp,p2,p9,λe=>p5 e tl4,tp|tc]
 let hnl5:=S5 _ _ hnl4;let hD5:=S5 _ _ hD4;let TS5:=TS.mono (aY S5);let S05:=S04.trans (zJ0 S5);let F5:=F4.same S5;clear hnl4 hD4 TS S04 S03 S02 S4 hnl3 hl3 F4 F3 F2 F1 S1 S2 S3 S23 G2 GD tok tl tl' tl1 tl4 p5 tp tc pp p2 p9 hnl nsl nok nnd nl6 xm hx;refine⟨6,rfl,by decide,by decide,cW (n:=6) (λi σ H'=>∃(na ta:Addr)(ns:List Str)(tv:List V)(ts:List Tr)(p:Int)(x6:Option V),σ=[some (.ref f),some (.int 120),some (.int 8),some (.ref na),some (.ref ta),some (.int p),x6]/\H' na=some (.lst (ns.map V.str))/\H' ta=some (.lst tv)/\TreesAt H' tv ts/\SmallG ns ts p/\(ns.length+i<=5∨p ^ bz ns ts<=120)/\Same H5 H')
  %[nl,D,ns,tv,ts,p,0,hnl5,hD5,TS5,SG,.inl SG.nl|Same.refl _] ?_ ?_⟩
 . clear hnl5 hD5 TS5 SG;rintro i σ H6 hi ⟨na,ta,ns,tv,ts,p,x6,rfl,hna,hta,TS,SG,dj,S6⟩;let p2:=SG.p2;let p9:=SG.p9;let t1:=SG.t1;let n5:=SG.nl;let vl:=TS.length;let ec:((ns.map V.str).length:Int)+(if((tv.length:Int)>1)then 1 else 0)=(bz ns ts:Int):=by
    rw[zF0,vl];unfold bz
    split <;> split <;> omega
   erw[0,0,na,0,.inl (zH0 hna),0,ta,0,.inl (zH0 hta),2,.inr %[0|6]];erw[2,p,(bz ns ts:Int),6,3,by have:=iZ (ts:=ts) (show ns.length<=6 by omega);omega,3,3,6]
   . rw [←ec]
     by_cases c1:(tv.length:Int)>1
     . rw[NQ c1,show decide ((tv.length:Int)>1)=true from zD1 c1];rfl
     . rw[NP c1,show decide ((tv.length:Int)>1)=false from zB1 c1];rfl
   rw[qS0];erw[0,2,0,6]
   by_cases c1:p ^ bz ns ts<=120
   . refine aD #[0] ?_;erw[na,ta,ns,tv,ts,p,0,hna,hta,TS,SG,.inr c1,S6]
   refine aV #[0] ?_;let nz:=SG.ne c1;let dl:ns.length+i<=5:=dj.elim id λh=>absurd h c1
   obtain⟨ns',x,rfl⟩:∃ns' x,ns=ns'++[x]:=%[ns.dropLast,ns.getLast nz|(List.dropLast_concat_getLast nz).symm]
   let nok':∀y∈ns',oX y:=λy hy=>SG.nok y (jN0 _ hy)
   let nx:oX x:=SG.nok x (qQ0 _ (List.mem_singleton.mpr rfl));let wfs:=SmallG.wf SG.nok SG.tok;erw[0,ta,1,%[_|zH0 hta],λD hD=>?_];refine hU (K:=K) (xs:=tv) (λu H'=>∃vs:List V,H' D=some (.lst vs)/\TreesAt H' vs ((ts.take u).map (Tr.without x))/\vs.length=u/\Same H6 H') %[[],aJ,.nil,1|zC0 hD _] (λu H' _ NV=>by erw[_,_,_,_,h]at NV;exact zH0 (h _ _ hta)) ?_ ?_
   . rintro u y H7 hy ⟨vs,hD7,TV,vl7,S7⟩;let%[t,ht|Tt]:=TS.get hy;let tm:=qL0 ht;let%[tw,td|_]:=wfs t tm;let hu:u<tv.length:=(zY0 hy).1;erw[0,0,(1),1,na,_,(-1),0,1,zH0 (S7 _ _ hna),6,y,t,x,1,Tt.mono (aY S7),tw,nx,td,td,λv' H8 S8 T8=>?_]
     . rw[zL0];exact HH _ _
     let hD8:=S8 _ _ hD7;let k9:=dH (H:=H8) (b:=D) (ys:=vs) (zs:=vs++[v']) hD8;let t4:=SG.t4;erw[_,hD8,aN #[0],Nx.of hu ⟨vs++[v'],aJ,?_,by rw[zK0,vl7];rfl,λb' o' e'=>?_⟩]
     . rw[qI0,ht,zL0];exact((TV.mono (aY S8)).mono k9).append (.cons (T8.mono k9) .nil)
     . rw[aB (aQ e' hD)];exact S8 _ _ (S7 _ _ e')
   rintro H7 ⟨vs,hD7,TV,vl7,S7⟩;rw[vl,qF0]at TV;erw[0,(1),1,(-1),1,na,0,zH0 (S7 _ _ hna),λnb hnb=>?_];rw[zL0,List.map_singleton,Fi];let I8:=zC0 hnb (.lst (ns'.map V.str));let g8:upd H7 nb (.lst (ns'.map V.str)) nb=some (.lst (ns'.map V.str)):=aJ;generalize upd H7 nb (.lst (ns'.map V.str))=H8 at I8 g8;let tok':=Ix SG.tok;let t4:=SG.t4;let tml:(ts.map (Tr.without x)).length=ts.length:=zF0 _;erw[0,0,nb,D,ns',vs,ts.map (Tr.without x),1,g8,I8 _ _ hD7,TV.mono (aY I8),3,SmallG.wf nok' tok',λp' H9 S9 pp' p2' p9' p5' tp' tc'=>?_];let S89:=I8.trans S9;let nl':ns'.length+1+i<=5:=by
    rw[zK0,qK0]at dl;exact dl
   erw[nb,D,ns',vs,ts.map (Tr.without x),p',0,S9 _ _ g8,S89 _ _ hD7,TV.mono (aY S89),%[3,nok',(List.nodup_append.mp SG.nd).1,3,3,tok',pp',p2',p9',λe=>p5' e #[0],tp'|tc'],.inl #[0],S6.trans (S7.trans S89)]
 . rintro σ H6 ⟨na,ta,ns,tv,ts,p,x6,rfl,hna,hta,TS,SG,dj,S6⟩;let pw:p ^ bz ns ts<=120:=dj.elim (λh=>absurd h #[0]) id;erw[0,na,0,.inl %[zH0 hna|λa ha=>?_]];let Ga:=zC0 ha (.tup (ns.map V.str));erw[0,ta,0,.inl %[zH0 (Ga _ _ hta)|λb hb=>?_]];let Gb:=zC0 hb (.tup tv);erw[0,y3S,λg hg=>?_];let Gg:=zC0 hg (.tup [.ref a,.ref b,.int p]);exact q g a b ns tv ts p _ aJ (Gg _ _ (Gb _ _ aJ)) (Gg _ _ aJ) (TS.mono (aY (Ga.trans (Gb.trans Gg)))) SG pw (F5.same (S6.trans (Ga.trans (Gb.trans Gg)))) (S05.trans (zJ0 (S6.trans (Ga.trans (Gb.trans Gg)))))
def Cy(k:AkOk z)(nd:z.ns.Nodup)(i:Int)(h:0<z.nr):gu z i=cE z.ns z.ts z.s z.p (z.to++[i]):=by
 let%[x,hx,ex,d0,d1|d4]:=k.deg h;unfold gu;rw[NQ h];let e:z.tru=eI z.ns z.ts z.s z.p z.to (bm z.ts x+1).toNat:=by
  unfold Ak.tru;rw[NP #[0],ex]
 let t0:z.ts≠[]:=λe=>by have:=k.gk.t1;rw[e]at this;cases this
 rw[e];exact zr (rm k.gk.pr (by have:=k.gk.p9;omega)) hx nd (λt ht=>(k.gk.tok t ht).1) t0 d1 i
def Cz{z:Ak}(h:z.nr=0)(i:Nat){t:Tr}(ht:z.ts[i]?=some t):gu z (i:Int)=(cnt t z.ns:Int) % z.p:=by
 let hl:=(zY0 ht).1;unfold gu;let e:z.tru=z.ts.map (λt=>(cnt t z.ns:Int)):=by
  unfold Ak.tru;rw[NQ h]
 rw[NP #[0],e,zF0,NQ #[0],qS0,qM0,zZ0,ht];rfl
def Hv{ns:List Str}{p:Int}(hp:1<p){t:Tr}(ok:t.ok ns):(cnt t ns:Int)=((cS ns.length).map λst=>t.worth ns st p).sum:=by
 unfold cnt;let h:∀st∈cS ns.length,t.worth ns st p=if t.holds ns st then 1 else 0:=λst NV=>iy hp (mh _ _ NV) (ot _ _ NV) t ok
 generalize cS ns.length=l at h
 induction l with
 | nil=>rfl
 | cons a l ih=>
   let ih:=ih λst NV=>h st (qH0 _ NV)
   rw[zX0,zT1,←ih,h a qA0,List.filter_cons];cases t.holds ns a
   . simp
   . simp only[vF1,zP0];omega
def rR{ns:List Str}{ts:List Tr}{p:Int}(hp:1<p)(ok:∀t∈ts,t.ok ns):hor s p (ts.map λt=>(cnt t ns:Int))=cE ns ts s p []:=by
 rw[nv];unfold cE;let e:(ts.map λt=>(cnt t ns:Int))=ts.map λt=>((cS ns.length).map λst=>t.worth ns st p).sum:=jR1 λt ht=>Hv hp (ok t ht)
 rw[e,rk s (λt st=>t.worth ns st p)];rfl
def zX(s p:Int):∀xs:List Int,hor s p (xs.map (· % p))=hor s p xs
 | []=>rfl
 | a::r=>by
   show(hor s p (r.map (· % p))*s+a % p) % p=(hor s p r*s+a) % p;rw[zX s p r,Int.add_emod_emod]
section
variable {ns:List Str} {ts:List Tr} {p:Int} {t:Tk} {rows:List Hr}
def wE(k:GmK ns ts p)(s:Int):hor s p (ts.map λu=>(cnt u ns:Int) % p)=cE ns ts s p []:=by
 let p2:=k.p2;rw[←rR (s:=s) (p:=p) #[0] (λu hu=>(k.tok u hu).1),←zX s p (ts.map λt=>(cnt t ns:Int)),List.map_map];rfl
def wP (z:Db) (tl:z.to.length<=ns.length) (e:z.ed=cE ns ts z.s p z.to):((goOn ns ts p z).aw.1="hear" -> (goOn ns ts p z).ed=cE ns ts (goOn ns ts p z).s p (goOn ns ts p z).to)/\(¬ (goOn ns ts p z).aw.1="hear" -> (goOn ns ts p z).aw=(("believed":Str),none)):=by
 unfold goOn
 by_cases c:z.to.length<ns.length
 . rw[NQ c];erw[λ_=>e,λh=>absurd rfl h]
 . rw [NP c];unfold eA;let e2:z.ed=hor z.s p (ts.map λt=>t.worth ns z.to p):=by rw[e,zI #[0]]
   rw[NQ e2];erw[λh=>absurd h Id,λ_=>rfl]
structure Tru(ns:List Str)(ts:List Tr)(p:Int)(t:Tk):Prop where
 he:t.z.aw.1="hear" -> t.z.ed=cE ns ts t.z.s p t.z.to
 co:t.z.aw.1="coin" -> t.z.he≠[]->t.z.he=eI ns ts t.z.s p t.z.to (bm ts (ns.getD t.z.to.length "")+1).toNat
 cm:t.z.aw.1="coin" -> t.z.he=[]->t.z.cl=ts.map (λu=>(cnt u ns:Int) % p)/\t.z.to=[]
 en:¬ t.z.aw.1="hear" -> ¬ t.z.aw.1="coin" -> t.z.aw=(("believed":Str),none)
structure Hon(ns:List Str)(ts:List Tr)(p:Int)(rows:List Hr):Prop where
 cl:(Tk.new ts).said ns ts p rows=ts.map (λu=>(cnt u ns:Int) % p)
 ro:∀t,TkOk ns ts p t->t.z.aw.1="hear" -> t.said ns ts p rows=eI ns ts t.z.s p t.z.to (awN t.z).toNat
def lX (k:GmK ns ts p) (nd:ns.Nodup) {cs:List Int}  (tl:cs.length<ns.length) (r:Int):val p (eI ns ts s p cs (bm ts (ns.getD cs.length "")+1).toNat) r=cE ns ts s p (cs++[r]):=by
 let hy:ns[cs.length]?=some (ns.getD cs.length ""):=by
  rw[qM0,zM0 tl];rfl
 let hx:ns.getD cs.length ""∈ns:=qL0 hy;let t0:ts≠[]:=λe=>by have:=k.t1;rw[e]at this;cases this
 exact zr (rm k.pr (by have:=k.p9;omega)) hy nd (λu hu=>(k.tok u hu).1) t0 (k.deg _ hx).2 r
def Tru.ask (k:GmK ns ts p) (n6:ns.length<=6) (nd:ns.Nodup) (hn:Hon ns ts p rows) (h:TkOk ns ts p t) (d:Tru ns ts p t) (hw:t.z.aw.1="hear"):Tru ns ts p (t.ask ns ts p rows)/\(t.ask ns ts p rows).z.aw=(("coin":Str),none):=by
 let%[_,_,_,tl,aw|ea]:=h.ak k n6 hw;let x0:=h.gd.hear_ne k (h.hear (rows:=rows) k n6 hw);let e:(t.ask ns ts p rows).z=df p (t.said ns ts p rows) { t.z with pl:=t.z.pl+((t.said ns ts p rows).length:Int) }:=NP h.cl;let es:t.said ns ts p rows=eI ns ts t.z.s p t.z.to (bm ts (ns.getD t.z.to.length "")+1).toNat:=by rw[hn.ro t h hw,ea]
 let ac:(t.ask ns ts p rows).z.aw=(("coin":Str),none):=by
  rw[e];unfold df;rw[NQ];show(val p (t.said ns ts p rows) 0+val p (t.said ns ts p rows) 1) % p=t.z.ed;rw[es,lX k nd tl,lX k nd tl,tF tl,d.he hw]
 erw[%[λz=>?_,λ_ _=>?_,λ_ z=>?_|λ_ z=>?_],ac]
 . rw[ac]at z;exact absurd z iH
 . rw[e];exact es
 . rw[e]at z;exact absurd z x0
 . rw[ac]at z;exact absurd rfl z
def Tru.toss (k:GmK ns ts p) (nd:ns.Nodup) (h:TkOk ns ts p t) (d:Tru ns ts p t) (hw:t.z.aw.1="coin") (r:Int):Tru ns ts p (t.toss ns ts p r):=by
 let fin:∀z:Db,z.to.length<=ns.length->z.ed=cE ns ts z.s p z.to->(t.toss ns ts p r).z=goOn ns ts p z->Tru ns ts p (t.toss ns ts p r):=λz tl e ez=>by
  let%[f1|f2]:=wP (ns:=ns) (ts:=ts) (p:=p) z tl e;let no:=lc (ns:=ns) (ts:=ts) (p:=p) z;rw[←ez]at f1 f2 no;erw[f1,λz=>absurd z no,λz=>absurd z no,λz _=>f2 z]
 by_cases c:t.z.he=[]
 . let%[ec|et]:=d.cm hw c;refine fin { t.z with pl:=t.z.pl+1,s:=r,ed:=hor r p t.z.cl } h.gd.tl ?_ (NQ c);show hor r p t.z.cl=cE ns ts r p t.z.to;rw[ec,et,wE k]
 . let tl:=((h.gd.co hw).2 c).2;refine fin { t.z with pl:=t.z.pl+1,ed:=val p t.z.he r,to:=t.z.to++[r] } (by show(t.z.to++[r]).length<=_;rw[zK0,qK0];omega) ?_ (NP c);show val p t.z.he r=cE ns ts t.z.s p (t.z.to++[r]);rw[d.co hw c,lX k nd tl]
def kE (k:GmK ns ts p) (n6:ns.length<=6) (nd:ns.Nodup) (hn:Hon ns ts p rows):∀(n:Nat) (t:Tk) (cs:List Int),TkOk ns ts p t->Tru ns ts p t->cw cs p->cf ns t.z<=n->(bY ns ts p rows cs n t).2.z.aw=(("believed":Str),none)
 | 0,t,cs,h,d,hc,hs=>d.en (λz=>by have:=(eR h (.inl z)).1;omega) (λz=>by have:=(eR h (.inr z)).1;omega)
 | n+1,t,cs,h,d,hc,hs=>by
   let p2:=k.p2
   by_cases ch:t.z.aw.1="hear"
   . rw[dQ ch];let%[o,s|_]:=h.ask (rows:=rows) k n6 ch;exact kE k n6 nd hn n _ cs o (d.ask k n6 nd hn h ch).1 hc #[0]
   . by_cases cc:t.z.aw.1="coin"
     . rw[dR cc];let%[r0|r1]:=oQ hc #[0];let%[o,s|_]:=h.toss k cc r0 r1;exact kE k n6 nd hn n _ cs.tail o (d.toss k nd h cc _) (ub hc) #[0]
     . rw[du ch cc];exact d.en ch cc
def Tru.new(k:GmK ns ts p)(hn:Hon ns ts p rows):Tru ns ts p ((Tk.new ts).ask ns ts p rows):=by
 let e0:cK ns ts p ((Tk.new ts).said ns ts p rows) (Db.new ts)=iI ns ts p ((Tk.new ts).said ns ts p rows) { Db.new ts with pl:=(Db.new ts).pl+(((Tk.new ts).said ns ts p rows).length:Int) }:=NQ rfl
 by_cases c:ts.length=1
 . let e:((Tk.new ts).ask ns ts p rows).z=goOn ns ts p { Db.new ts with pl:=(Db.new ts).pl+(((Tk.new ts).said ns ts p rows).length:Int),cl:=(Tk.new ts).said ns ts p rows,s:=0,ed:=hor 0 p ((Tk.new ts).said ns ts p rows) }:=e0.trans (NQ c);let%[f1|f2]:=wP (ns:=ns) (ts:=ts) (p:=p) { Db.new ts with pl:=(Db.new ts).pl+(((Tk.new ts).said ns ts p rows).length:Int),cl:=(Tk.new ts).said ns ts p rows,s:=0,ed:=hor 0 p ((Tk.new ts).said ns ts p rows) } (zU0 _) (by
    show hor 0 p ((Tk.new ts).said ns ts p rows)=cE ns ts 0 p [];rw[hn.cl,wE k])
   let no:=lc (ns:=ns) (ts:=ts) (p:=p) { Db.new ts with pl:=(Db.new ts).pl+(((Tk.new ts).said ns ts p rows).length:Int),cl:=(Tk.new ts).said ns ts p rows,s:=0,ed:=hor 0 p ((Tk.new ts).said ns ts p rows) };rw[←e]at f1 f2 no;erw[f1,λz=>absurd z no,λz=>absurd z no,λz _=>f2 z]
 . let ez:((Tk.new ts).ask ns ts p rows).z={ Db.new ts with pl:=(Db.new ts).pl+(((Tk.new ts).said ns ts p rows).length:Int),cl:=(Tk.new ts).said ns ts p rows,aw:=("coin",none) }:=e0.trans (NP c);erw[λz=>?_,λ_ z=>?_,λ_ _=>?_,λ_ z=>?_]
   . rw[ez]at z;exact absurd z iH
   . rw[ez]at z;exact absurd rfl z
   . rw[ez];erw[hn.cl,1]
   . rw[ez]at z;exact absurd rfl z
def yO (k:GmK ns ts p) (n6:ns.length<=6) (nd:ns.Nodup) (hn:Hon ns ts p rows)  (hc:cw c p):(eG ns ts p rows c).2.z.aw=(("believed":Str),none):=by
 let%[o,st|_]:=jF (rows:=rows) k n6;exact kE k n6 nd hn 20 _ c o (Tru.new k hn) hc #[0]
def vy(k:GmK ns ts p)(n6:ns.length<=6)(nd:ns.Nodup)(hn:Hon ns ts p rows):gJ ns ts p rows (bz ns ts) 8 (Tk.new ts) []=(p ^ bz ns ts,none):=by
 let p2:=k.p2;let ep:(p.toNat:Int)=p:=by omega
 let e1:∀c∈dA p.toNat (bz ns ts),decide ((eG ns ts p rows c).2.z.aw.1="believed")=true:=λc hc=>by
  let%[_|co]:=kH _ _ hc;rw[ep]at co;rw[yO k n6 nd hn co];exact zD1 rfl
 rw[sW k n6,jA (b':=λ_=>true) e1];unfold iV;let e2:(dA p.toNat (bz ns ts)).filter (λ_=>true)=dA p.toNat (bz ns ts):=List.filter_eq_self.mpr λ_ _=>rfl
 let e3:(dA p.toNat (bz ns ts)).filter (λc=>!((λ_=>true) c))=[]:=List.filter_eq_nil_iff.mpr λ_ _=>by simp
 rw[e2,e3,kI,wM1,ep];rfl
end
section
variable {ns:List Str} {ts:List Tr} {p:Int} {t:Tk} {rows:List Hr}
def dB(z:Ak)(n:Nat):List Int:=(List.range n).map λk:Nat=>gu z ((k:Int) % z.p)
def iQ(z:Ak)(n:Nat):(dB z n).length=n:=by unfold dB;rw[zF0,qR0]
def xE(z:Ak)(n:Nat):dB z (n+1)=dB z n++[gu z ((n:Int) % z.p)]:=by
 unfold dB;rw[qE1,zL0];rfl
def rD(z:Ak){n:Nat}(h:z.mn=(n:Int)):rE z.mn (dB z n)=dB z n:=by
 unfold rE;rw[iQ,h,Int.sub_self];exact qM1 _
def Az (k:GmK ns ts p) (n6:ns.length<=6) (nd:ns.Nodup) (h:TkOk ns ts p t) (hw:t.z.aw.1="hear"):dB (t.ak ns ts p) (awN t.z).toNat=eI ns ts t.z.s p t.z.to (awN t.z).toNat:=by
 let%[ok,a0,a5,tl,aw|ea]:=h.ak k n6 hw;let nr:=h.nr;let hx:ns.getD t.z.to.length ""∈ns:=by
  rw[qM0,zM0 tl];exact qP0 tl
 let dp:=(k.deg _ hx).2;unfold dB eI;refine jR1 λj hj=>?_
 let hj:=List.mem_range.mp hj;let e:(j:Int) % (t.ak ns ts p).p=(j:Int):=qU0 #[0] (by show(j:Int)<p;omega);rw[e];exact Cy ok nd (j:Int) (by show 0<t.nr;omega)
def AA(k:GmK ns ts p):dB ((Tk.new ts).ak ns ts p) ts.length=ts.map λu=>(cnt u ns:Int) % p:=by
 let tp:=k.tp;refine List.ext_getElem? λj=>?_
 unfold dB;rw[zZ0,zZ0]
 by_cases c:j<ts.length
 . rw[jR0 c,zM0 c];show some (gu ((Tk.new ts).ak ns ts p) ((j:Int) % ((Tk.new ts).ak ns ts p).p))=_;let e:(j:Int) % ((Tk.new ts).ak ns ts p).p=(j:Int):=qU0 #[0] (by show(j:Int)<p;omega);rw[e,Cz (z:=(Tk.new ts).ak ns ts p) rfl j (zM0 c)];rfl
 . rw[List.getElem?_eq_none (by rw[qR0];omega),List.getElem?_eq_none #[0]];rfl
def Hon.of(k:GmK ns ts p)(n6:ns.length<=6)(nd:ns.Nodup)(h:∀(z:Ak) (bx:Str->Int) (n:Nat),z.p=p->z.mn=(n:Int)->1<=n->(n=ts.length∨∃x∈ns,(n:Int)=bm ts x+1)->(lQ z rows 200 %[(0),bx|[]]).sd=dB z n):Hon ns ts p rows:=by
 erw[6,λt ht hw=>?_]
 . let e:=h ((Tk.new ts).ak ns ts p) (Tk.new ts).bx ts.length rfl rfl k.t1 (.inl rfl);unfold Tk.said Tk.run;rw[e];exact(rD ((Tk.new ts).ak ns ts p) rfl).trans (AA k)
 . let%[ok,a0,a5,tl,aw|ea]:=ht.ak k n6 hw;let hx:ns.getD t.z.to.length ""∈ns:=by
    rw[qM0,zM0 tl];exact qP0 tl
   let d0:=(qj k (ns.getD t.z.to.length "")).1;let en:awN t.z=((awN t.z).toNat:Int):=by omega
   let e:=h (t.ak ns ts p) t.bx (awN t.z).toNat rfl en #[0] (.inr %[_,hx|3]);unfold Tk.said Tk.run;rw[e];exact(rD (t.ak ns ts p) en).trans (Az k n6 nd ht hw)
def ne_tc:¬ (("true":Str)="coin"):=by decide
def hB (x:Str):List Hr:=[.set x (.num 0),.say (.ask "true" (.box x)),.set x (.op "+" (.box x) (.num 1)),.go 1]
def uO{z:Ak}{rows:List Hr}{n:Nat}{s:MS}(h1:s.pl<(rows.length:Int))(h2:(s.sd.length:Int)<z.mn):lQ z rows (n+1) s=lQ z rows n (eV z rows s):=NQ %[h1|h2]
def zH{z:Ak}{rows:List Hr}{s:MS}(h:¬ (s.pl<(rows.length:Int)/\(s.sd.length:Int)<z.mn)):∀n,lQ z rows n s=s
 | 0=>rfl
 | n+1=>NP h
def runB{z:Ak}{x:Str}(p0:0<z.p):∀(m j fuel:Nat)(bx:Str->Int),z.mn=((j+m:Nat):Int)->3*m<=fuel->bx x=(j:Int) % z.p->(lQ z (hB x) fuel %[(1),bx|dB z j]).sd=dB z (j+m)
 | 0,j,fuel,bx,hm,hf,hb=>by
   rw[zH (λc=>absurd c.2 (by show ¬ ((dB z j).length:Int)<z.mn;rw[iQ,hm];omega))];rfl
 | m+1,j,fuel,bx,hm,hf,hb=>by
   obtain⟨fu,rfl⟩:∃fu,fuel=fu+3:=%[fuel-3|3]
   let e1:eV z (hB x) %[(1),bx|dB z j]=⟨2,bx,dB z (j+1)⟩:=by
    show(%[1+1,bx|dB z j++[if("true":Str)="coin" then kG z (bx x)else gu z (bx x)]]:MS)=_;rw[NP ne_tc,hb,xE];rfl
   rw[uO (by show(1:Int)<4;decide) (by show((dB z j).length:Int)<z.mn;rw[iQ,hm];omega),e1];cases m with
   | zero=>
     rw[zH (λc=>absurd c.2 (by show ¬ ((dB z (j+1)).length:Int)<z.mn;rw[iQ,hm];omega))]
   | succ m=>
     let hl:((dB z (j+1)).length:Int)<z.mn:=by rw[iQ,hm];omega
     let e2:eV z (hB x) %[(2),bx|dB z (j+1)]=⟨3,jO bx x (opV z.p "+" (bx x) (1 % z.p)),dB z (j+1)⟩:=rfl;let e3:eV z (hB x) ⟨3,jO bx x (opV z.p "+" (bx x) (1 % z.p)),dB z (j+1)⟩=⟨1,jO bx x (opV z.p "+" (bx x) (1 % z.p)),dB z (j+1)⟩:=rfl;rw[uO (by show(2:Int)<4;decide) hl,e2,uO (by show(3:Int)<4;decide) hl,e3];let hb2:jO bx x (opV z.p "+" (bx x) (1 % z.p)) x=((j+1:Nat):Int) % z.p:=by
      unfold jO;rw[NQ rfl];show(bx x+1 % z.p) % z.p=_;rw[hb,wW0,Int.add_emod_emod];rfl
     have:=runB p0 (m+1) (j+1) fu _ (by rw[hm];omega) #[0] hb2
     rw[this]
     congr 1
     omega
def hon_B(k:GmK ns ts p)(n6:ns.length<=6)(nd:ns.Nodup)(d60:∀y∈ns,bm ts y<=60):Hon ns ts p (hB x):=Hon.of k n6 nd λz bx n zp hn n1 h=>by
 let p2:=k.p2;let t10:=k.t10;let n66:n<=66:=by
  rcases h with h | ⟨y,hy,h⟩
  . omega
  . have:=d60 y hy
    omega
 let e1:eV z (hB x) %[(0),bx|[]]=⟨1,jO bx x (0 % z.p),dB z 0⟩:=rfl;rw[uO (by show(0:Int)<4;decide) (by rw[hn];show(0:Int)<(n:Int);omega),e1,runB #[0] n 0 199 _ (by rw[hn,vD1]) #[0] (by unfold jO;rw[NQ rfl];rfl),vD1]
end
section
def zA{P:Nat}(q:Nat->Bool)(a b:Nat):(((List.range P).map λr=>if q r=true then a else b).sum:Nat)+b*((List.range P).filter q).length=a*((List.range P).filter q).length+b*P:=by
 induction P with
 | zero=>rfl
 | succ P ih=>
   rw[qE1,zL0,jJ1,jJ0,zK0,Nat.mul_add,Nat.mul_add,Nat.mul_add]
   by_cases c:q P=true
   . simp [c]
     omega
   . simp [c]
     omega
def wT{α:Type}(f:α->Bool):∀L:List α,(L.filter f).length+(L.filter λc=>!f c).length=L.length
 | []=>rfl
 | a::r=>by
   let ih:=wT f r;cases e:f a <;> simp [e] <;> omega
def cgr(p:Int):List Int->Int
 | []=>1
 | d::ds=>(p-d)*cgr p ds
def xa(p:Int):∀(ds:List Int)(a:Int),ds.foldl (λa d=>a*(p-d)) a=a*cgr p ds
 | [],a=>(wG1 a).symm
 | d::ds,a=>by
   show ds.foldl _ (a*(p-d))=a*((p-d)*cgr p ds)
   rw[xa p ds,wZ0]
def Hy(p:Int)(ds:List Int):cgt p ds=cgr p ds:=by
 unfold cgt;rw[xa,Int.one_mul]
def zz{P:Nat}{f g:Nat->Nat}(h:∀r,r<P->f r<=g r):((List.range P).map f).sum<=((List.range P).map g).sum:=by
 induction P with
 | zero=>exact zG0 _
 | succ P ih=>
   let h1:=ih λr hr=>h r #[0]
   let h2:=h P #[0];rw[qE1,zL0,zL0,jJ1,jJ1];simp only[zX0,vC1,zT1,List.sum_nil];omega
def vG{p:Int}(p0:0<p):∀ds:List Int,(∀d∈ds,0<=d/\d<p)->0<cgr p ds/\cgr p ds<=p ^ ds.length
 | [],_=>%[(by decide:(0:Int)<1)|by show(1:Int)<=p ^ 0;rw[jT0];exact zX1 1]
 | d::ds,h=>by
   let%[h1|h2]:=vG p0 ds λx hx=>h x (qH0 _ hx)
   let%[d0|d1]:=h d qA0;erw[Int.mul_pos #[0] h1,6];show(p-d)*cgr p ds<=p ^ (ds.length+1);rw[qA1,qU1 (p ^ ds.length) p];exact Int.mul_le_mul #[0] h2 #[0] #[0]
variable {ns:List Str} {ts:List Tr} {p:Int} {t:Tk} {rows:List Hr}
def FO{X L:List Int}(hp:Pm p)(hl:X.length=L.length)(hx:val p X x≠val p L x):((List.range p.toNat).filter λr:Nat=>decide (val p X r=val p L r)).length<L.length:=by
 let p1:=hp.1;let hpoly:IsPoly L.length λx=>lag (λi=>X.getD i 0) (wt p L.length) L.length x+(-1)*lag (λi=>L.getD i 0) (wt p L.length) L.length x:=(nj _ _ _).add ((nj _ _ _).mul (-1))
 let iff:∀x:Int,val p X x=val p L x↔p ∣ lag (λi=>X.getD i 0) (wt p L.length) L.length x+(-1)*lag (λi=>L.getD i 0) (wt p L.length) L.length x:=λx=>by
  unfold val;rw[hl,jO1,show ∀A B:Int,A+-1*B=A-B by intro A B;omega];erw[qH1,Int.emod_eq_zero_of_dvd]
 let h:=few (k:=0) hp hpoly (x:=x) (λz=>hx ((iff x).mpr z)) (rs:=fnd (λr:Nat=>decide (val p X r=val p L r)) p.toNat) (nu (wS _ _) λy hy=>by
  let%[k,1,hk|_]:=fnd_mem.mp hy;omega) λy hy=>by
   let%[k,1,hk|hg]:=fnd_mem.mp hy;exact(iff _).mp (zM1 hg)
 unfold fnd at h;rw[zF0]at h;exact h
def Fr(h:TkOk ns ts p t):(t.ask ns ts p rows).z=df p (t.said ns ts p rows) { t.z with pl:=t.z.pl+((t.said ns ts p rows).length:Int) }:=NP h.cl
def BR  (ez:t.z=goOn ns ts p z) (c:z.to.length<ns.length):t.z.aw.1="hear"/\t.z.to=z.to/\t.z.ed=z.ed/\t.z.s=z.s:=by
 let e:t.z={ z with aw:=("hear",some (bm ts (ns.getD z.to.length "")+1)) }:=ez.trans (NQ c);rw[e];erw[1,1,1,1]
def Cm (k:GmK ns ts p) (n6:ns.length<=6) {r:Int} {cs:List Int} {f:Nat} (h:TkOk ns ts p t) (ch:t.z.aw.1="hear") (ce:(val p (t.said ns ts p rows) 0+val p (t.said ns ts p rows) 1) % p=t.z.ed) (r0:0<=r) (r1:r<p) :
 ∃z2,(∀cs f,(bY ns ts p rows (r::cs) (f+2) t).2=(bY ns ts p rows cs f ((t.ask ns ts p rows).toss ns ts p r)).2)/\TkOk ns ts p ((t.ask ns ts p rows).toss ns ts p r)/\((t.ask ns ts p rows).toss ns ts p r).z=goOn ns ts p z2/\z2.s=t.z.s/\z2.to=t.z.to++[r]/\z2.ed=val p (t.said ns ts p rows) r:=by
 let%[o,s|_]:=h.ask (rows:=rows) k n6 ch;let x0:=h.gd.hear_ne k (h.hear (rows:=rows) k n6 ch);let ez:=Fr (rows:=rows) h;let ac:(t.ask ns ts p rows).z.aw=(("coin":Str),none):=by
  rw[ez];unfold df;rw[NQ];exact ce
 let cc:(t.ask ns ts p rows).z.aw.1="coin":=by rw[ac]
 let he:(t.ask ns ts p rows).z.he≠[]:=by rw[ez];exact x0
 let%[o2|_]:=o.toss k cc r0 r1;erw[{ (t.ask ns ts p rows).z with pl:=(t.ask ns ts p rows).z.pl+1,ed:=val p (t.ask ns ts p rows).z.he r,to:=(t.ask ns ts p rows).z.to++[r] },λcs f=>?_,o2,NP he,6,6,6]
 . rw[dQ ch,dR cc];rfl
 . rw[ez];rfl
 . rw[ez];rfl
 . rw[ez];rfl
def vJ (k:GmK ns ts p) (n6:ns.length<=6) (nd:ns.Nodup):∀(j f:Nat) (t:Tk) (z:Db),TkOk ns ts p t->t.z=goOn ns ts p z->z.ed≠cE ns ts z.s p z.to->z.to.length+j=ns.length->2*j<=f->(((dA p.toNat j).filter λcs=>decide ((bY ns ts p rows cs f t).2.z.aw.1="believed")).length:Int)<=p ^ j-cgr p ((ns.drop z.to.length).map (bm ts))
 | 0,f,t,z,h,ez,e,hl,hf=>by
   let ea:t.z.aw=(("caught":Str),some ((z.to.length:Int)+1)):=by
    rw[ez];unfold goOn;rw[NP #[0]];unfold eA;rw[NP];rw[←zI #[0]];exact e
   let e0:∀cs,bY ns ts p rows cs f t=([],t):=λcs=>du (by rw[ea];exact tL) (by rw[ea];exact Ek) f
   rw[List.filter_eq_nil_iff.mpr (λcs _=>by rw[e0,ea];exact λz=>tK (zM1 z)),List.drop_eq_nil_of_le #[0]];show((0:Nat):Int)<=p ^ 0-1;rw[jT0];decide
 | j+1,f,t,z,h,ez,e,hl,hf=>by
   obtain⟨f,rfl⟩:∃m,f=m+2:=%[f-2|3]
   let c:z.to.length<ns.length:=by omega
   let p2:=k.p2;let ep:(p.toNat:Int)=p:=by omega
   let%[ch,et,ee|es]:=BR ez c;let%[ok,a0,a5,tl,aw|ea]:=h.ak k n6 ch;let dr:(ns.drop z.to.length).map (bm ts)=bm ts (ns.getD z.to.length "")::(ns.drop (z.to.length+1)).map (bm ts):=by
    rw[jP1 c,zX0,qM0,zM0 c];rfl
   let hx:ns.getD z.to.length ""∈ns:=by
    rw[qM0,zM0 c];exact qP0 c
   let%[d0|d1]:=k.deg _ hx;let%[g0|g1]:=vG (p:=p) #[0] ((ns.drop (z.to.length+1)).map (bm ts)) (λd hd=>by
    let%[x,hx|1]:=List.mem_map.mp hd;exact k.deg x (List.mem_of_mem_drop hx))
   rw[zF0,qJ1,show ns.length-(z.to.length+1)=j by omega]at g1;rw[dr];show _<=p ^ (j+1)-(p-bm ts (ns.getD z.to.length ""))*cgr p ((ns.drop (z.to.length+1)).map (bm ts))
   by_cases ce:(val p (t.said ns ts p rows) 0+val p (t.said ns ts p rows) 1) % p=t.z.ed
   . let ho:=h.hear (rows:=rows) k n6 ch;let xl:((t.said ns ts p rows).length:Int)=awN t.z:=by
      let%[_,_|r3]:=jz (rows:=rows) ok 200 %[(0),t.bx|[]] h.bo (λx hx=>by cases hx) a0;exact mN r3
     let Ll:=vY ns ts t.z.s p t.z.to (awN t.z).toNat;let vr:∀x,val p (eI ns ts t.z.s p t.z.to (awN t.z).toNat) x=cE ns ts t.z.s p (t.z.to++[x]):=λx=>by rw[ea];exact lX k nd tl x
     let hne:∃x,val p (t.said ns ts p rows) x≠val p (eI ns ts t.z.s p t.z.to (awN t.z).toNat) x:=Classical.byContradiction λq=>by
      let q0:val p (t.said ns ts p rows) 0=_:=Classical.byContradiction λy=>q %[(0)|y]
      let q1:val p (t.said ns ts p rows) 1=_:=Classical.byContradiction λy=>q %[(1)|y]
      rw[q0,q1,vr,vr,tF tl,et,es,ee]at ce;exact e ce.symm
     erw[x,hx2]at hne;let fw:=FO (rm k.pr (by have:=k.p9;omega)) (X:=t.said ns ts p rows) (L:=eI ns ts t.z.s p t.z.to (awN t.z).toNat) #[0] hx2;rw[Ll]at fw;show(((List.filter (λcs=>decide ((bY ns ts p rows cs (f+2) t).2.z.aw.1="believed")) ((List.range p.toNat).flatMap λr:Nat=>(dA p.toNat j).map ((r:Int)::·))).length:Nat):Int)<=_;rw[List.filter_flatMap,wL1];let bd:∀r,r<p.toNat->(((dA p.toNat j).map ((r:Int)::·)).filter λcs=>decide ((bY ns ts p rows cs (f+2) t).2.z.aw.1="believed")).length<=if decide (val p (t.said ns ts p rows) r=val p (eI ns ts t.z.s p t.z.to (awN t.z).toNat) r)=true then p.toNat ^ j else(p ^ j-cgr p ((ns.drop (z.to.length+1)).map (bm ts))).toNat:=λr hr=>by
      let%[z2,e2,o2,ez2,s2,to2|ed2]:=Cm (cs:=[]) (f:=0) (rows:=rows) k n6 h ch ce (r:=(r:Int)) #[0] #[0];rw[wM0,zF0]
      by_cases cr:val p (t.said ns ts p rows) r=val p (eI ns ts t.z.s p t.z.to (awN t.z).toNat) r
      . rw[NQ (zD1 cr),←kI (p:=p.toNat) j];exact jL1 _ _
      . rw [NP (by rw[zB1 cr];decide)];let l2:z2.to.length=z.to.length+1:=by rw[to2,et,zK0,qK0]
        let ih:=vJ k n6 nd j f _ z2 o2 ez2 (by rw[ed2,s2,to2,←vr];exact cr) #[0] #[0];rw[l2]at ih;let e3:((dA p.toNat j).filter ((λcs=>decide ((bY ns ts p rows cs (f+2) t).2.z.aw.1="believed")) ∘ λx=>(r:Int)::x))=(dA p.toNat j).filter λcs=>decide ((bY ns ts p rows cs f ((t.ask ns ts p rows).toss ns ts p (r:Int))).2.z.aw.1="believed"):=jX0 λx _=>by
         show decide ((bY ns ts p rows ((r:Int)::x) (f+2) t).2.z.aw.1="believed")=_;rw[e2]
        rw[e3];omega
     let sl:=zz bd;let s2:=zA (P:=p.toNat) (λr:Nat=>decide (val p (t.said ns ts p rows) r=val p (eI ns ts t.z.s p t.z.to (awN t.z).toNat) r)) (p.toNat ^ j) ((p ^ j-cgr p ((ns.drop (z.to.length+1)).map (bm ts))).toNat);let pe:((p.toNat ^ j:Nat):Int)=p ^ j:=by rw[wM1,ep]
     let en:((awN t.z).toNat:Int)=bm ts (ns.getD z.to.length "")+1:=by rw[←et];omega
     generalize ((List.range p.toNat).filter λr:Nat=>decide (val p (t.said ns ts p rows) r=val p (eI ns ts t.z.s p t.z.to (awN t.z).toNat) r)).length=b at fw s2;generalize (((List.range p.toNat).map λr:Nat=>if decide (val p (t.said ns ts p rows) r=val p (eI ns ts t.z.s p t.z.to (awN t.z).toNat) r)=true then p.toNat ^ j else(p ^ j-cgr p ((ns.drop (z.to.length+1)).map (bm ts))).toNat).sum:Nat)=S at sl s2;let s2':=congrArg (Nat.cast (R:=Int)) s2;simp only[jC1,Int.natCast_mul]at s2';rw[pe,ep,wL0 #[0]]at s2';generalize cgr p ((ns.drop (z.to.length+1)).map (bm ts))=g at *
     generalize bm ts (ns.getD z.to.length "")=dd at *
     rw[qA1];generalize p ^ j=A at *
     let hb:(b:Int)<=dd:=by omega
     let m1:(p-dd)*g<=(p-b)*g:=jD0 #[0] #[0];let m2:(S:Int)=A*p-(p-b)*g:=by grind
     omega
   . let ea2:(t.ask ns ts p rows).z.aw=(("caught":Str),some ((t.z.to.length:Int)+1)):=by
      rw[Fr (rows:=rows) h];unfold df;rw[NP];exact ce
     let e0:∀cs,(bY ns ts p rows cs (f+2) t).2=t.ask ns ts p rows:=λcs=>by
      rw[dQ ch];show(bY ns ts p rows cs (f+1) (t.ask ns ts p rows)).2=_;rw[du (by rw[ea2];exact tL) (by rw[ea2];exact Ek)]
     rw[List.filter_eq_nil_iff.mpr (λcs _=>by rw[e0,ea2];exact λz=>tK (zM1 z))];show((0:Nat):Int)<=_;let m1:(p-bm ts (ns.getD z.to.length ""))*cgr p ((ns.drop (z.to.length+1)).map (bm ts))<=p*p ^ j:=Int.mul_le_mul #[0] g1 #[0] #[0];rw[qA1,qU1 (p ^ j) p];omega
def sj(s p:Int):∀c:List Int,hor s p c=evl s c % p
 | []=>rfl
 | a::r=>by
   show(hor s p r*s+a) % p=(a+s*evl s r) % p;rw[sj s p r,←wW0,qO1,jV0,←qO1,wW0,qU1,vE1]
def Ad(s:Int):∀(xs cs:List Int),xs.length=cs.length->evl s (ovr xs cs)=evl s xs-evl s cs
 | [],[],_=>rfl
 | x::xs,c::cs,h=>by
   let ih:=Ad s xs cs (Nat.succ.inj h);show(x-c)+s*evl s (ovr xs cs)=(x+s*evl s xs)-(c+s*evl s cs)
   rw[ih,Int.mul_sub];omega
def FD(k:GmK ns ts p){xs:List Int}(xl:xs.length=ts.length)(s:Int):hor s p xs=cE ns ts s p []↔evl s (ovr xs (eQ ts ns)) % p=0:=by
 let p2:=k.p2;unfold eQ;rw[←rR #[0] (λu hu=>(k.tok u hu).1),sj,sj,Ad _ _ _ (by rw[xl,zF0])];exact jO1
def Cl (k:GmK ns ts p) (n6:ns.length<=6) (nd:ns.Nodup) {xs:List Int} (hs:(Tk.new ts).said ns ts p rows=xs) (xl:xs.length=ts.length) (wr:wrg p (ovr xs (eQ ts ns))=true):(((dA p.toNat (bz ns ts)).filter λc=>decide ((eG ns ts p rows c).2.z.aw.1="believed")).length:Int)<=sU p ns.length ts.length (cgt p (ns.map (bm ts))) (ovr xs (eQ ts ns)):=by
 let p2:=k.p2;let ep:(p.toNat:Int)=p:=by omega
 let%[o,_,_|_]:=jF (rows:=rows) k n6;let e0:cK ns ts p ((Tk.new ts).said ns ts p rows) (Db.new ts)=iI ns ts p ((Tk.new ts).said ns ts p rows) { Db.new ts with pl:=(Db.new ts).pl+(((Tk.new ts).said ns ts p rows).length:Int) }:=NQ rfl;let ol:(ovr xs (eQ ts ns)).length=ts.length:=(pZ (xl.trans (nY ts ns).symm)).trans xl;let wm:=λs=>FD k xl s
 let%[g0|g1]:=vG (p:=p) #[0] (ns.map (bm ts)) (λd hd=>by
  let%[x,hx|1]:=List.mem_map.mp hd;exact k.deg x hx)
 rw[zF0]at g1;unfold sU bz;rw[NQ wr,Hy];generalize hov:ovr xs (eQ ts ns)=ov at *
 by_cases c1:ts.length=1
 . rw [NQ c1,NQ c1];let%[a|1]:=List.length_eq_one_iff.mp (ol.trans c1);let ha:¬ a % p=0:=λz=>by
    let%[b,hb|hn]:=wrg_iff.mp wr;rw[NW hb]at hn;exact hn (qH1 z)
   let b:=vJ (rows:=rows) k n6 nd ns.length 20 ((Tk.new ts).ask ns ts p rows) { Db.new ts with pl:=(Db.new ts).pl+(((Tk.new ts).said ns ts p rows).length:Int),cl:=(Tk.new ts).said ns ts p rows,s:=0,ed:=hor 0 p ((Tk.new ts).said ns ts p rows) } o (e0.trans (NQ c1)) (by
    show hor 0 p ((Tk.new ts).said ns ts p rows)≠cE ns ts 0 p [];rw[hs];intro q
    have:=(wm 0).mp q
    rw[kF,Int.zero_mul,Int.add_zero]at this;exact ha this) (by show 0+ns.length=ns.length;omega) #[0]
   exact b
 . rw [NP c1,NP c1];let ez:((Tk.new ts).ask ns ts p rows).z={ Db.new ts with pl:=(Db.new ts).pl+(((Tk.new ts).said ns ts p rows).length:Int),cl:=(Tk.new ts).said ns ts p rows,aw:=("coin",none) }:=e0.trans (NP c1);let cc:((Tk.new ts).ask ns ts p rows).z.aw.1="coin":=by rw[ez]
   let he:((Tk.new ts).ask ns ts p rows).z.he=[]:=by rw[ez];rfl
   show (((List.filter (λc=>decide ((eG ns ts p rows c).2.z.aw.1="believed")) ((List.range p.toNat).flatMap λr:Nat=>(dA p.toNat ns.length).map ((r:Int)::·))).length:Nat):Int)<=_;rw[List.filter_flatMap,wL1];let bd:∀r,r<p.toNat->(((dA p.toNat ns.length).map ((r:Int)::·)).filter λc=>decide ((eG ns ts p rows c).2.z.aw.1="believed")).length<=if decide (evl (r:Int) ov % p=0)=true then p.toNat ^ ns.length else(p ^ ns.length-cgr p (ns.map (bm ts))).toNat:=λr hr=>by
    rw[wM0,zF0]
    by_cases cr:evl (r:Int) ov % p=0
    . rw[NQ (zD1 cr),←kI (p:=p.toNat) ns.length];exact jL1 _ _
    . rw [NP (by rw[zB1 cr];decide)];let%[o2|_]:=o.toss k cc (r:=(r:Int)) #[0] #[0];let b:=vJ (rows:=rows) k n6 nd ns.length 19 (((Tk.new ts).ask ns ts p rows).toss ns ts p (r:Int)) { ((Tk.new ts).ask ns ts p rows).z with pl:=((Tk.new ts).ask ns ts p rows).z.pl+1,s:=(r:Int),ed:=hor (r:Int) p ((Tk.new ts).ask ns ts p rows).z.cl } o2 (NQ he) (by
       rw[ez];show hor (r:Int) p ((Tk.new ts).said ns ts p rows)≠cE ns ts (r:Int) p [];rw[hs];exact λq=>cr ((wm _).mp q)) (by rw[ez];show 0+ns.length=ns.length;omega) #[0]
      let e3:((dA p.toNat ns.length).filter ((λc=>decide ((eG ns ts p rows c).2.z.aw.1="believed")) ∘ λx=>(r:Int)::x))=(dA p.toNat ns.length).filter λcs=>decide ((bY ns ts p rows cs 19 (((Tk.new ts).ask ns ts p rows).toss ns ts p (r:Int))).2.z.aw.1="believed"):=jX0 λx _=>by
       show decide ((bY ns ts p rows ((r:Int)::x) (19+1) ((Tk.new ts).ask ns ts p rows)).2.z.aw.1="believed")=_;rw[dR cc];rfl
      let zt:(((Tk.new ts).ask ns ts p rows).z).to=[]:=by rw[ez];rfl
      let b':(((dA p.toNat ns.length).filter λcs=>decide ((bY ns ts p rows cs 19 (((Tk.new ts).ask ns ts p rows).toss ns ts p (r:Int))).2.z.aw.1="believed")).length:Int)<=p ^ ns.length-cgr p (ns.map (bm ts)):=by
       have:=b
       rw[show({ ((Tk.new ts).ask ns ts p rows).z with pl:=((Tk.new ts).ask ns ts p rows).z.pl+1,s:=(r:Int),ed:=hor (r:Int) p ((Tk.new ts).ask ns ts p rows).z.cl }:Db).to=[]from zt]at this;exact this
      rw[e3];omega
   let sl:=zz bd;let s2:=zA (P:=p.toNat) (λr:Nat=>decide (evl (r:Int) ov % p=0)) (p.toNat ^ ns.length) ((p ^ ns.length-cgr p (ns.map (bm ts))).toNat);let pe:((p.toNat ^ ns.length:Nat):Int)=p ^ ns.length:=by rw[wM1,ep]
   let sp:(ma p ov).length=((List.range p.toNat).filter λr:Nat=>decide (evl (r:Int) ov % p=0)).length:=by
    unfold ma fnd;rw[zF0]
   rw[sp];generalize ((List.range p.toNat).filter λr:Nat=>decide (evl (r:Int) ov % p=0)).length=b at s2 ⊢;generalize (((List.range p.toNat).map λr:Nat=>if decide (evl (r:Int) ov % p=0)=true then p.toNat ^ ns.length else(p ^ ns.length-cgr p (ns.map (bm ts))).toNat).sum:Nat)=S at sl s2;let s2':=congrArg (Nat.cast (R:=Int)) s2;simp only[jC1,Int.natCast_mul]at s2';rw[pe,ep,wL0 #[0]]at s2';generalize cgr p (ns.map (bm ts))=g at *
   generalize p ^ ns.length=A at *
   let m2:(S:Int)=(b:Int)*A+(p-b)*(A-g):=by grind
   omega
end
def kept:List Str:=["yes","no","not","and","or","odd","same","round","due","asked","true","coin"]
def NmK(x:Str):Prop:=(∀c∈x.cps.toList,97<=c/\c<=122)/\1<=x.length/\x.length<=6/\x∉kept
def Tm.ok:Tm->Prop
 | .num n=>0<=n/\n<1000000000000 | .box x=>NmK x | .plain w=>w∈plainW | .ask w a=>w∈askW/\a.ok | .op s a b=>s∈signW/\a.ok/\b.ok
def Tm.fit(m:Nat)(t:Tm):Prop:=t.ok/\t.size<=m/\t.depth<=8
def Hr.ok(m:Nat):Hr->Prop
 | .fin=>True | .go n=>0<=n/\n<1000000000000 | .iff t n=>t.fit m/\0<=n/\n<1000000000000 | .set x t=>NmK x/\t.fit m | .say t=>t.fit m
def LET:Str:="abcdefghijklmnopqrstuvwxyz"
def ENDS:Str:=" ()"
def isIn(L:Str)(c:Nat):Bool:=!(Builtin.Str.occurrences L %[|#[c]] 0 L.length 1).isEmpty
def jL(z:Str):Bool:=decide (1<=z.length)&&decide (z.length<=6)&&!inV (.str z) (kept.map V.str)&&z.cps.toList.all (isIn LET)
def FIG:Str:="0123456789"
def li (z:Str):Bool:=decide (1<=z.length)&&decide (z.length<=12)&&!(decide (1<z.length)&&Txt.startswith z "0")&&z.cps.toList.all (isIn FIG)
def vQ {z:Str} {c:Nat} (h:z.cps.toList[0]?=some c):Txt.startswith z "0"=decide (V.str %[|#[c]]=V.str "0"):=by
 let q:=StrLaws.subAt_one z 48 0;let e0:("0":Str)=%[|#[48]]:=by decide
 unfold Txt.startswith;rw[e0]
 by_cases hc:c=48
 . subst hc
   have:=q.mpr h
   rw[show decide (V.str (%[|#[48]]:Str)=V.str ⟨#[48]⟩)=true from zD1 rfl];simp only[qR1,wW1];exact this
 . let hne:¬ (V.str (%[|#[c]]:Str)=V.str ⟨#[48]⟩):=λe=>hc (by
    have:=V.str.inj e
    injection this with this
    simpa using this)
   rw[show decide (V.str (%[|#[c]]:Str)=V.str ⟨#[48]⟩)=false from zB1 hne];rw[Bool.eq_false_iff];intro e;simp only[qR1,wW1]at e
   have:=q.mp e
   rw[h]at this;exact hc (zT0 this)
instance spTxt(fB:Str->Bool):∀z:Str,vs=[.str z]->z.length<=1000->(∀H',Same H H'->Q (.bl (fB z)) H'):=1
structure Tx(K:W.Frag)(mg:Str->Option Value):Prop where
 letters:∃t,mg "LETTERS"=some (.str LET t)
 longest:∃t,mg "LONGEST_NAME"=some (.int 6 t)
 keptW:∃a,mg "KEPT_WORDS"=some (.ref a)/\∀H,SqT K H a (kept.map V.str)
 ends:∃t,mg "WORD_ENDS"=some (.str ENDS t)
 within:∃t,mg "MOST_WITHIN"=some (.int 8 t)
 parts:∃t,mg "MOST_PARTS"=some (.int 20 t)
 figures:∃t,mg "FIGURES"=some (.str FIG t)
 most:∃t,mg "MOST_FIGURES"=some (.int 12 t)
 rows:∃t,mg "MOST_ROWS_helptexts"=some (.int 60 t)
 signs:∃a,mg "SIGNS"=some (.ref a)/\∀H,SqT K H a (signW.map V.str)
 asking:∃a,mg "ASKING_WORDS"=some (.ref a)/\∀H,SqT K H a (askW.map V.str)
 plain:∃a,mg "PLAIN_WORDS"=some (.ref a)/\∀H,SqT K H a (plainW.map V.str)
def rW(z:Str):z.cps.size=z.length:=rfl
def xQ:FnScope WF WF (ah oE):=%[|5]
def yt   (F:Fun K "is_name" "is_name" oE f fd) (B:Bl mg) (T:Tx K mg):#[1,f,fd,WF,spTxt jL]:=by
 exists xQ
 erw[z,1,hz,q]at h;erw[t1,g1]at T.letters;erw[t3,g3]at T.longest;erw[ka,g5,hk]at T.keptW;refine⟨_,(aa (aI (PW.pt (ii (ag dN (aG cZ rfl B.len zC1 %[0|aP]) ae (ax _)) (ii (ag gQ (aG cZ rfl B.len zC1 %[0|aP]) (cX (v:=.int 6) rfl g3 ⟨_,rfl⟩) (ax _)) (gP (ag fY (pv 0) (cX (v:=.ref ka) rfl g5 rfl) (by rfl')))))) (ad (am iF)) az)
  (ad (am (aG (sB rfl) rfl B.all wA1 (af (cH (N:=[]) (ix:=[]) (cl:=[]) rfl #[5] rfl (DE (pv 0))
   (λ_ _ _=>cR (iE tH (pv 0) (cX (v:=.str LET) rfl g1 %[|0]) (by rfl')))) aP))))),?_⟩
 let fls:jL z=false->Q (.bl false) H:=λe=>by
  have:=q H (Same.refl H)
  rw[e]at this;exact this
 erw[0,z,1,cq hz,2,0,6]
 by_cases c1:(z.length:Int)<1
 . refine aV c1 (eF ?_);exact fls (by unfold jL;rw[zB1 (show ¬ 1<=z.length by omega)];rfl)
 refine aD c1 ?_;erw[0,z,1,cq hz,2,0,6]
 by_cases c2:(6:Int)<(z.length:Int)
 . refine aV c2 (eF ?_);exact fls (by unfold jL;rw[zB1 (show ¬ z.length<=6 by omega)];simp)
 refine aD c2 ?_;erw[0,ka,0,.inr (hk _),1,⋯,0,6];cases c3:inV (.str z) (kept.map V.str)with
 | true=>
   refine eF ?_;exact fls (by unfold jL;rw[c3];simp)
 | false=>
   refine dI ?_;erw[0,z,1,λD hD=>?_];refine sy (z:=z) (λi H'=>H' D=some (.lst (((z.cps.toList.take i).map (isIn LET)).map V.bl))/\Same H H') %[by rw[aJ];rfl|zC0 hD _] ?_ ?_
   . rintro i c H' hc ⟨hl,s0⟩;let hi:i<z.cps.size:=(Array.getElem?_eq_some_iff.mp hc).1;rw[rW]at hi;erw[0,2,_,hl,6,Nx.of hi %[6|6]]
     . rw[zF0,zF0,qJ0];exact aN #[0]
     . rw [aJ];let ec:z.cps.toList[i]?=some c:=by simpa using hc
       rw[qI0,ec,zL0,zL0];rfl
     . intro b o e;rw[aB (aQ e hD)];exact s0 b o e
   . rintro H' ⟨hl,s0⟩;rw[show z.cps.toList.take z.cps.size=z.cps.toList by rw[←zY1];exact qF0]at hl;erw[D,0,zH0 hl,6];let e:jL z=(z.cps.toList.map (isIn LET)).all id:=by
      unfold jL;rw[c3,zD1 (show 1<=z.length by omega),zD1 (show z.length<=6 by omega),List.all_map];rfl
     rw[←e];exact q H' s0
def sK:FnScope WF WF (ah ju):=%[|5]
def sO   (F:Fun K "is_figures" "is_figures" ju f fd) (B:Bl mg) (T:Tx K mg):#[1,f,fd,WF,spTxt li]:=by
 exists sK
 erw[z,1,hz,q]at h;erw[t1,g1]at T.figures;erw[t3,g3]at T.most;refine⟨_,(aa (aI (PW.pt (ii (ag dN (aG cZ rfl B.len zC1 %[0|aP]) ae (ax _)) (gP (ag gQ (aG cZ rfl B.len zC1 %[0|aP]) (cX (v:=.int 12) rfl g3 ⟨_,rfl⟩) (ax _))))) (ad (am iF)) az)
  (aa (aI (PW.pt (kx (ag gQ (aG cZ rfl B.len zC1 %[0|aP]) ae (ax _)) (jB (eY (eC jI0 PySem.F.slot_str_startswith PySem.F.type_str_startswith sT (pv 0) %[ao|aP]))))) (ad (am iF)) az)
  (ad (am (aG (sB rfl) rfl B.all wA1 (af (cH (N:=[]) (ix:=[]) (cl:=[]) rfl #[5] rfl (DE (pv 0))
   (λ_ _ _=>cR (iE tH (pv 0) (cX (v:=.str FIG) rfl g1 %[|0]) (by rfl')))) aP)))))),?_⟩
 let fls:li z=false->Q (.bl false) H:=λe=>by
  have:=q H (Same.refl H)
  rw[e]at this;exact this
 erw[0,z,1,cq hz,2,0,6]
 by_cases c1:(z.length:Int)<1
 . refine aV c1 (eF ?_);exact fls (by unfold li;rw[zB1 (show ¬ 1<=z.length by omega)];rfl)
 refine aD c1 ?_;erw[0,z,1,cq hz,2,0,6]
 by_cases c2:(12:Int)<(z.length:Int)
 . refine aV c2 ?_;exact fls (by unfold li;rw[zB1 (show ¬ z.length<=12 by omega)];simp)
 refine aD c2 ?_;erw[0,z,1,cq hz,2,0,6]
 by_cases c4:(1:Int)<(z.length:Int)
 . refine aV c4 ?_;erw[0,1,z,0,1,0,6];cases c5:Txt.startswith z "0" with
   | true=>
     refine eF ?_;exact fls (by unfold li;rw[c5,zD1 (show 1<z.length by omega)];simp)
   | false=>
     refine dI ?_;let c3:(decide (1<z.length)&&Txt.startswith z "0")=false:=by rw[c5];simp
     erw[0,z,1,λD hD=>?_];refine sy (z:=z) (λi H'=>H' D=some (.lst (((z.cps.toList.take i).map (isIn FIG)).map V.bl))/\Same H H') %[by rw[aJ];rfl|zC0 hD _] ?_ ?_
     . rintro i c H' hc ⟨hl,s0⟩;let hi:i<z.cps.size:=(Array.getElem?_eq_some_iff.mp hc).1;rw[rW]at hi;erw[0,2,_,hl,6,Nx.of hi %[6|6]]
       . rw[zF0,zF0,qJ0];exact aN #[0]
       . rw [aJ];let ec:z.cps.toList[i]?=some c:=by simpa using hc
         rw[qI0,ec,zL0,zL0];rfl
       . intro b o e;rw[aB (aQ e hD)];exact s0 b o e
     . rintro H' ⟨hl,s0⟩;rw[show z.cps.toList.take z.cps.size=z.cps.toList by rw[←zY1];exact qF0]at hl;erw[D,0,zH0 hl,6];let e:li z=(z.cps.toList.map (isIn FIG)).all id:=by
        unfold li;rw[c3,zD1 (show 1<=z.length by omega),zD1 (show z.length<=12 by omega),List.all_map];rfl
       rw[←e];exact q H' s0
 . refine aD c4 ?_;refine dI ?_;let c3:(decide (1<z.length)&&Txt.startswith z "0")=false:=by rw[zB1 (show ¬ 1<z.length by omega)];rfl
   erw[0,z,1,λD hD=>?_];refine sy (z:=z) (λi H'=>H' D=some (.lst (((z.cps.toList.take i).map (isIn FIG)).map V.bl))/\Same H H') %[by rw[aJ];rfl|zC0 hD _] ?_ ?_
   . rintro i c H' hc ⟨hl,s0⟩;let hi:i<z.cps.size:=(Array.getElem?_eq_some_iff.mp hc).1;rw[rW]at hi;erw[0,2,_,hl,6,Nx.of hi %[6|6]]
     . rw[zF0,zF0,qJ0];exact aN #[0]
     . rw [aJ];let ec:z.cps.toList[i]?=some c:=by simpa using hc
       rw[qI0,ec,zL0,zL0];rfl
     . intro b o e;rw[aB (aQ e hD)];exact s0 b o e
   . rintro H' ⟨hl,s0⟩;rw[show z.cps.toList.take z.cps.size=z.cps.toList by rw[←zY1];exact qF0]at hl;erw[D,0,zH0 hl,6];let e:li z=(z.cps.toList.map (isIn FIG)).all id:=by
      unfold li;rw[c3,zD1 (show 1<=z.length by omega),zD1 (show z.length<=12 by omega),List.all_map];rfl
     rw[←e];exact q H' s0
def Jf:∀c:Fin 26,isIn LET (97+c.val)=true:=by decide
def Hg:∀c:Fin 26,isIn ENDS (97+c.val)=false:=by decide
def ends_in:isIn ENDS 32=true/\isIn ENDS 40=true/\isIn ENDS 41=true:=by decide
def EL{c:Nat}(h:97<=c/\c<=122):isIn LET c=true:=by
 have:=Jf %[c-97|3]
 rwa [show 97+(%[c-97|3]:Fin 26).val=c by show 97+(c-97)=c;omega]at this
def BK{c:Nat}(h:97<=c/\c<=122):isIn ENDS c=false:=by
 have:=Hg %[c-97|3]
 rwa [show 97+(%[c-97|3]:Fin 26).val=c by show 97+(c-97)=c;omega]at this
def zU(h:NmK x):jL x=true:=by
 erw[hl,h1,h6,hk]at h;unfold jL;rw[jH,zD1 h1,zD1 h6,zB1 hk];simp only[Bool.and_self,Bool.not_false,Bool.true_and];rw[wB1];exact λc hc=>EL (hl c hc)
def stl(l:List Nat):Str:=%[|l.toArray]
def FV{a b:Str}(h:a.cps.toList=b.cps.toList):a=b:=by
 cases a with
 | mk x=>
   cases b with
   | mk y=>
     have:x=y:=Array.toList_inj.mp h
     rw[this]
def lD(x:Str):stl x.cps.toList=x:=rfl
def FY(l:List Nat):(stl l).length=l.length:=by
 show l.toArray.size=_
 simp
def jb(a b:Str):(a++b).cps.toList=a.cps.toList++b.cps.toList:=by simp [jG0]
def vo:(("(":Str)).cps.toList=[40]:=by decide
def Ez:((")":Str)).cps.toList=[41]:=by decide
def lS:((" ":Str)).cps.toList=[32]:=by decide
def CO{a b:Str}(h:V.str a=V.str b):a=b:=V.str.inj h
def neStr{a b:Str}(h:a≠b):¬ V.str a=V.str b:=λz=>h (CO z)
def jn(c:Nat):List (List Nat)->List Nat
 | []=>[]
 | [a]=>a
 | a::b::r=>a++c::jn c (b::r)
def Fk{c:Nat}:∀{a b x y:List Nat},c∉a->c∉b->a++c::x=b++c::y->a=b/\x=y
 | [],[],_,_,_,_,h=>%[1|(List.cons.inj h).2]
 | [],d::b,x,y,_,hb,h=>by
   have:=(List.cons.inj h).1
   exact absurd (by rw[this];exact qA0) hb
 | d::a,[],x,y,ha,_,h=>by
   have:=(List.cons.inj h).1
   exact absurd (by rw[←this];exact qA0) ha
 | d::a,e::b,x,y,ha,hb,h=>by
   let h':=List.cons.inj h;let r:=Fk (λz=>ha (qH0 _ z)) (λz=>hb (qH0 _ z)) h'.2;erw[by rw[h'.1,r.1],r.2]
def EI{c:Nat}:∀{l m:List (List Nat)},l≠[]->m≠[]->(∀a∈l,c∉a)->(∀a∈m,c∉a)->jn c l=jn c m->l=m
 | [],_,h,_,_,_,_=>absurd rfl h
 | _::_,[],_,h,_,_,_=>absurd rfl h
 | [a],[b],_,_,_,_,h=>congrArg (λz=>[z]) h
 | [a],b::d::r,_,_,hl,_,h=>by
   have:c∈a:=by
    rw[show a=b++c::jn c (d::r)from h]
    simp
   exact absurd this (hl a qA0)
 | a::d::r,[b],_,_,_,hm,h=>by
   have:c∈b:=by
    rw[show b=a++c::jn c (d::r)from h.symm]
    simp
   exact absurd this (hm b qA0)
 | a::d::r,b::e::s,_,_,hl,hm,h=>by
   let q:=Fk (hl a qA0) (hm b qA0) (show a++c::jn c (d::r)=b++c::jn c (e::s)from h)
   have:=EI #[2] #[2] (λz hz=>hl z (qH0 _ hz)) (λz hz=>hm z (qH0 _ hz)) q.2
   rw[q.1,this]
def cd(x:Str):List Nat:=x.cps.toList
def JM(h:cd x=cd y):x=y:=by
 have:x.cps=y.cps:=Array.toList_inj.mp h
 cases x;cases y;exact congrArg Str.mk this
def tT(x y:Str):cd (x++y)=cd x++cd y:=by
 unfold cd;rw[jG0]
 simp
def vH(c:Nat):∀ps:List Str,cd (Str.join %[|#[c]] ps)=jn c (ps.map cd)
 | []=>rfl
 | [a]=>rfl
 | a::b::r=>by
   show cd (a++%[|#[c]]++Str.join ⟨#[c]⟩ (b::r))=cd a++c::jn c ((b::r).map cd);rw[tT,tT,vH c (b::r)]
   simp [cd]
def Hl(sep:Str):∀ps:List Str,Txt.join sep ps=Str.join sep ps
 | []=>rfl
 | a::r=>StrLaws.glued_cons sep r a
def xG(x y:Str):Txt.split x y≠[]:=by
 unfold Txt.split
 split
 . exact List.cons_ne_nil _ _
 . split
   . exact List.cons_ne_nil _ _
   . intro h
     have:=length_partsBetween x (Builtin.Str.occurrences x y 0 x.length (x.length+1)) y.length
     rw[h]at this
     simp at this
def rT:∀{l m:List Str},l.map cd=m.map cd->l=m
 | [],[],_=>rfl
 | [],_::_,h=>by simp at h
 | _::_,[],h=>by simp at h
 | a::l,b::m,h=>by
   let h':=List.cons.inj h;rw[JM h'.1,rT h'.2]
def xI{c:Nat}{ps:List Str}(h0:ps≠[])(hf:∀p∈ps,c∉cd p):Txt.split (Str.join %[|#[c]] ps) ⟨#[c]⟩=ps:=by
 apply rT;refine EI (c:=c) (λh=>xG _ _ (List.map_eq_nil_iff.mp h)) (λh=>h0 (List.map_eq_nil_iff.mp h)) ?_ ?_ ?_
 . intro a ha;let%[p,hp|1]:=List.mem_map.mp ha;exact StrLaws.split_free _ c p hp
 . intro a ha;let%[p,hp|1]:=List.mem_map.mp ha;exact hf p hp
 . rw[←vH,←vH,StrLaws.join_split]
def cg(n:Int):Str:=toString n
def vi(m:Nat):cd (cg (m:Int))=(Nat.toDigits 10 m).map Char.toNat:=PySem.W.KIN.signs_num m
def kX{n:Int}(h0:0<=n):∀c∈cd (cg n),48<=c/\c<=57:=by
 let%[m|1]:=zU1 h0;intro c hc;rw[vi]at hc;let%[ch,hch|e]:=List.mem_map.mp hc;rw[←e];exact PyProof.Rows.digit_range (Nat.isDigit_of_mem_toDigits ⋯ ⋯ hch)
def Eh{n:Int}(h0:0<=n):cd (cg n)≠[]:=by
 let%[m|1]:=zU1 h0;rw[vi];intro e;let h:=PySem.toDigits_len_ge 10 m;rw[List.map_eq_nil_iff.mp e]at h;exact absurd h ⋯
def jE{n:Int}(h0:0<=n)(h1:n<1000000000000):(cg n).length<=12:=PyProof.Rows.toString_length_le h0 ⋯ (by show n<10 ^ 12;omega)
def wy{n:Int}(h0:0<=n):1<=(cg n).length:=by
 let h:=Eh h0;let e:(cd (cg n)).length=(cg n).length:=rfl;cases c:cd (cg n)with
 | nil=>exact absurd c h
 | cons a r=>rw[←e,c];simp
def zR{n:Int}(h0:0<=n)(h1:n<1000000000000):PySem.intText? (cg n)=some n:=by
 let e:=intText_digits (x:=cg n) (kX h0) (Eh h0) (zR0 (jE h0 h1) ⋯);let%[m|1]:=zU1 h0;let e2:=vi m;unfold cd at e2;rw[e2,PySem.W.KIN.val_back]at e;exact e
def Hq(m:Nat)(h:0<m):∃d r,Nat.toDigits 10 m=d::r/\d.toNat≠48:=by
 induction m using Nat.strongRecOn with
 | _ m ih=>
   by_cases c:m<10
   . erw[Nat.digitChar m,[],Nat.toDigits_of_lt_base c,6]
     have:∀d:Nat,d<10->0<d->(Nat.digitChar d).toNat≠48:=by decide
     exact this m c h
   . let hm:m % 10<10:=Nat.mod_lt m ⋯;let t:Nat.toDigits 10 (m / 10)++Nat.toDigits 10 (m % 10)=Nat.toDigits 10 (10*(m / 10)+m % 10):=Nat.toDigits_append_toDigits ⋯ #[0] hm;rw[Nat.div_add_mod]at t;let%[d,r,e|hd]:=ih (m / 10) #[0] #[0];erw[d,r++Nat.toDigits 10 (m % 10),by rw[←t,e];rfl,hd]
def Ju:∀c:Nat,c<58->48<=c->isIn FIG c=true:=by decide
def zS{n:Int}(h0:0<=n)(h1:n<1000000000000):li (cg n)=true:=by
 unfold li;rw[zD1 (wy h0),zD1 (jE h0 h1)];let a:(cd (cg n)).all (isIn FIG)=true:=List.all_eq_true.mpr λc hc=>by
  have:=kX h0 c hc
  exact Ju c #[0] this.1
 let a':(cg n).cps.toList.all (isIn FIG)=true:=a;rw[a'];let b:(decide (1<(cg n).length)&&Txt.startswith (cg n) "0")=false:=by
  by_cases c:1<(cg n).length
  . let%[m|1]:=zU1 h0;let hm:0<m:=by
     apply Nat.pos_of_ne_zero;intro z;subst z
     revert c
     decide
    let%[d,r,e|hd]:=Hq m hm;let e0:(cg (m:Int)).cps.toList[0]?=some d.toNat:=by
     have:=vi m
     unfold cd at this;rw[this,e];rfl
    let z:decide (V.str (%[|#[d.toNat]]:Str)=V.str "0")=false:=zB1 λz=>by
     have:=V.str.inj z
     let e1:("0":Str)=%[|#[48]]:=by decide
     rw[e1]at this;injection this with this
     have:=congrArg Array.toList this
     simp at this
     exact hd this
    rw[vQ e0,z,wQ0]
  . rw[zB1 c];rfl
 rw[b];rfl
def NL:Str:=%[|#[10]]
def nl_eq:("\n":Str)=NL:=by decide
def CL{l:List Str}{b:Nat}(h:∀p∈l,p.length<=b):(l.map (·.length)).sum<=l.length*b:=by
 induction l with
 | nil=>simp
 | cons a r ih=>
   let h1:=h a qA0;let h2:=ih λp hp=>h p (qH0 _ hp)
   simp only[zX0,zT1,zP0];rw[Nat.succ_mul];omega
def Tm.txt:Tm->List Nat
 | .num n=>cd (cg n)
 | .box x=>cd x
 | .plain w=>cd w
 | .ask w a=>[40]++(cd w++([32]++(a.txt++[41])))
 | .op s a b=>[40]++(cd s++([32]++(a.txt++([32]++(b.txt++[41])))))
def Tm.str(t:Tm):Str:=stl t.txt
def mK:∀w∈plainW,w.length<=5/\1<=w.length/\(∀c∈w.cps.toList,97<=c/\c<=122)/\w≠"num"/\w≠"box"/\w≠"op":=by decide
def zm:∀w∈askW,w.length<=4/\1<=w.length/\(∀c∈w.cps.toList,97<=c/\c<=122)/\w≠"num"/\w≠"box"/\w≠"op"/\w∉plainW:=by decide
def uf:∀w∈signW,w.length=1/\(∀c∈w.cps.toList,42<=c/\c<=61)/\w∉askW:=by decide
def dJ(x:Str):(cd x).length=x.length:=by unfold cd;rw[zY1];rfl
def Tm.txt_len:∀t:Tm,t.ok->t.txt.length<=14*t.size
 | .num n,h=>by
   have:=jE h.1 h.2
   show(cd (cg n)).length<=14;rw[dJ];omega
 | .box x,h=>by
   show(cd x).length<=14;rw[dJ]
   have:=h.2.2.1
   omega
 | .plain w,h=>by
   show(cd w).length<=14;rw[dJ]
   have:=(mK w h).1
   omega
 | .ask w a,⟨h,h1⟩=>by
   have:=Tm.txt_len a h1
   let e4:=(zm w h).1;show([40]++(cd w++([32]++(a.txt++[41])))).length<=14*(a.size+1)
   simp only[zK0,zP0,zL1,dJ];omega
 | .op o a b,⟨h,h1,h2⟩=>by
   let e1:=Tm.txt_len a h1;let e2:=Tm.txt_len b h2;let e4:=(uf o h).1;show([40]++(cd o++([32]++(a.txt++([32]++(b.txt++[41])))))).length<=14*(a.size+b.size+1)
   simp only[zK0,zP0,zL1,dJ];omega
def Tm.str_len{t:Tm}(h:t.ok):t.str.length<=14*t.size:=by
 unfold Tm.str;rw[FY];exact t.txt_len h
def Hr.ws:Hr->List Str
 | .fin=>["end"] | .go n=>["go",cg n] | .iff t n=>["if",t.str,cg n] | .set x t=>["set",x,t.str] | .say t=>["say",t.str]
def Hr.str (r:Hr):Str:=Txt.join (" ":Str) r.ws
def Iw{r:Hr}(h:r.ok 20):r.ws.length<=3/\∀z∈r.ws,z.length<=280:=by
 let fixed:∀z∈(Ws:List Str),z.length<=280:=by decide
 let ft:∀{t:Tm},t.fit 20->t.str.length<=280:=fun{t} h=>by
  have:=Tm.str_len h.1
  have:=h.2.1
  omega
 cases r with
 | fin=>erw[4,λz hz=>fixed z (by rw[NW hz];decide)]
 | go n=>
   erw[by show 2<=3;decide,λz hz=>?_];rcases zW0 (show z∈[("go":Str),cg n]from hz)with rfl | hz
   . exact fixed _ ⋯
   . rw [NW hz]
     have:=jE h.1 h.2
     omega
 | iff t n=>
   erw[by show 3<=3;decide,λz hz=>?_];rcases zW0 (show z∈[("if":Str),t.str,cg n]from hz)with rfl | hz
   . exact fixed _ ⋯
   rcases zW0 hz with rfl | hz
   . exact ft h.1
   . rw [NW hz]
     have:=jE h.2.1 h.2.2
     omega
 | set x t=>
   erw[by show 3<=3;decide,λz hz=>?_];rcases zW0 (show z∈[("set":Str),x,t.str]from hz)with rfl | hz
   . exact fixed _ ⋯
   rcases zW0 hz with rfl | hz
   . have:=h.1.2.2.1
     omega
   . rw[NW hz];exact ft h.2
 | say t=>
   erw[by show 2<=3;decide,λz hz=>?_];rcases zW0 (show z∈[("say":Str),t.str]from hz)with rfl | hz
   . exact fixed _ ⋯
   . rw[NW hz];exact ft h
def wI(sep:Str)(zs:List Str)(h:sep.length=1):(Txt.join sep zs).length<=(zs.map (·.length)).sum+zs.length:=by
 have:=size_glued sep zs
 rw[h]at this;show(Builtin.Str.glued sep zs).length<=_;omega
def Iv{r:Hr}(h:r.ok 20):(r.ws.map (·.length)).sum+r.ws.length<=900:=by
 let%[h1|h2]:=Iw h
 have:=CL h2
 have:r.ws.length*280<=840:=by omega
 omega
def Hr.str_len{r:Hr}(h:r.ok 20):r.str.length<=900:=zR0 (wI _ _ ⋯) (Iv h)
def EG{H:Hp}{b:Addr}{ys zs:List V}(h:H b=some (.lst ys)):bL H (upd H b (.lst zs)):=λa xs e=>by
 rw[aB (λz=>by rw[z,h]at e;cases e)];exact e
def RowsAt.nil:RowsAt H [] []:=%[1|λi v r h=>by simp at h]
def RowsAt.snoc(h:RowsAt H tv rs)(a:HrAt H v r):RowsAt H (tv++[v]) (rs++[r]):=by
 erw[by rw[zK0,zK0,h.1];rfl,λi u s hu hs=>?_];let hl:=h.1
 by_cases c:i<tv.length
 . rw[zW1 c]at hu;rw[zW1 #[0]]at hs;exact h.2 i u s hu hs
 . rw [zO1 #[0]]at hu;rw[zO1 #[0]]at hs;let e1:i-tv.length=0:=by
    have:=(zY0 hu).1
    rw[qK0]at this;omega
   let e2:i-rs.length=0:=by omega
   rw[e1]at hu;rw[e2]at hs;cases hu;cases hs;exact a
def sF(rs:List Hr):Prop:=rs.length<=60/\∀r∈rs,r.ok 20
def ny (rs:List Hr):Str:=Txt.join ("\n":Str) (rs.map Hr.str)
def EQ(g:sF rs):((rs.map Hr.str).map (·.length)).sum+(rs.map Hr.str).length<=60000:=by
 have:=CL (l:=rs.map Hr.str) (b:=900) λp hp=>by
  let%[r,hr|1]:=List.mem_map.mp hp;exact Hr.str_len (g.2 r hr)
 rw[zF0]at this ⊢;let h1:=g.1
 have:rs.length*900<=60*900:=Nat.mul_le_mul_right _ h1
 omega
def ER(g:sF rs):(ny rs).length<=60000:=zR0 (wI _ _ ⋯) (EQ g)
abbrev oz:Stmt:=top 69
abbrev uA:Stmt:=bq oz 0
abbrev qJ:Stmt:=bq oz 1
abbrev uz:Stmt:=bq oz 2
abbrev uy:Stmt:=bq oz 3
abbrev ux:Stmt:=bq oz 4
abbrev oy:Stmt:=bq oz 5
structure STxt(K:W.Frag)(mg:Str->Option Value)(C:Addr):Prop where
 cl:Cls K C
 nX:NoAttr K C "text"
 nR:NoAttr K C "row"
 nW:NoAttr K C "most_within"
 nP:NoAttr K C "most_parts"
 nL:NoAttr K C "place"
 nN:NoAttr K C "parts"
 mgC:mg "Scan"=some (.ref C)
def qZ(f:Str)(v:V):∀(fs:List (Str×V))(u:V),fs.lookup f=some u->(cD f v fs).length=fs.length
 | [],u,h=>by cases h
 | (g,x)::r,u,h=>by
   unfold cD
   by_cases e:g=f
   . rw[NQ e];rfl
   . rw [NP e];let e':(f==g)=false:=by simpa using λz=>e z.symm
     simp only[List.lookup,e']at h;rw[zP0,zP0,qZ f v r u h]
def cu(f:Str)(v:V):∀fs:List (Str×V),(cD f v fs).length<=fs.length+1
 | []=>zG0 _
 | (g,u)::r=>by
   have:=cu f v r
   unfold cD
   split
   . simp
   . simp only[zP0];omega
structure SF(T:Str)(p n:Nat)(fs:List (Str×V)):Prop where
 text:fs.lookup ("text":Str)=some (.str T)
 mw:fs.lookup ("most_within":Str)=some (.int 8)
 mp:fs.lookup ("most_parts":Str)=some (.int 20)
 place:fs.lookup ("place":Str)=some (.int (p:Int))
 parts:fs.lookup ("parts":Str)=some (.int (n:Int))
 no1:fs.lookup ("enter":Str)=none
 no2:fs.lookup ("sees":Str)=none
 no3:fs.lookup ("take":Str)=none
 no4:fs.lookup ("word":Str)=none
 no5:fs.lookup ("finish":Str)=none
 len:fs.length<=6
def SF.toPlace    (h:SF T p n fs) (p':Nat):SF T p' n (cD "place" (.int (p':Int)) fs):=by
 erw[6,6,6,6,6,6,6,6,6,6,6]
 . rw[au,NP ⋯];exact h.text
 . rw[au,NP ⋯];exact h.mw
 . rw[au,NP ⋯];exact h.mp
 . rw[au,NQ rfl]
 . rw[au,NP ⋯];exact h.parts
 . rw[au,NP ⋯];exact h.no1
 . rw[au,NP ⋯];exact h.no2
 . rw[au,NP ⋯];exact h.no3
 . rw[au,NP ⋯];exact h.no4
 . rw[au,NP ⋯];exact h.no5
 . rw[qZ _ _ _ _ h.place];exact h.len
def SF.toParts    (h:SF T p n fs) (n':Nat):SF T p n' (cD "parts" (.int (n':Int)) fs):=by
 erw[6,6,6,6,6,6,6,6,6,6,6]
 . rw[au,NP ⋯];exact h.text
 . rw[au,NP ⋯];exact h.mw
 . rw[au,NP ⋯];exact h.mp
 . rw[au,NP ⋯];exact h.place
 . rw[au,NQ rfl]
 . rw[au,NP ⋯];exact h.no1
 . rw[au,NP ⋯];exact h.no2
 . rw[au,NP ⋯];exact h.no3
 . rw[au,NP ⋯];exact h.no4
 . rw[au,NP ⋯];exact h.no5
 . rw[qZ _ _ _ _ h.parts];exact h.len
def sfs (T:Str) (k:Int):List (Str×V):=cD "parts" (.int 0) (cD "place" (.int 0) (cD "most_parts" (.int 20) (cD "most_within" (.int 8) (cD "row" (.int k) (cD "text" (.str T) [])))))
def IJ(T:Str)(k:Int):SF T 0 0 (sfs T k):=by
 let no:∀m:Str,m≠"parts" -> m≠"place" -> m≠"most_parts" -> m≠"most_within" -> m≠"row" -> m≠"text" -> (sfs T k).lookup m=none:=λm h1 h2 h3 h4 h5 h6=>by
  unfold sfs;rw[au,NP h1,au,NP h2,au,NP h3,au,NP h4,au,NP h5,au,NP h6];rfl
 erw[6,6,6,6,6,no _ ⋯ ⋯ ⋯ ⋯ ⋯ ⋯,no _ ⋯ ⋯ ⋯ ⋯ ⋯ ⋯,no _ ⋯ ⋯ ⋯ ⋯ ⋯ ⋯,no _ ⋯ ⋯ ⋯ ⋯ ⋯ ⋯,no _ ⋯ ⋯ ⋯ ⋯ ⋯ ⋯,6]
 . unfold sfs;rw[au,NP ⋯,au,NP ⋯,au,NP ⋯,au,NP ⋯,au,NP ⋯,au,NQ rfl]
 . unfold sfs;rw[au,NP ⋯,au,NP ⋯,au,NP ⋯,au,NQ rfl]
 . unfold sfs;rw[au,NP ⋯,au,NP ⋯,au,NQ rfl]
 . unfold sfs;rw[au,NP ⋯,au,NQ rfl];rfl
 . unfold sfs;rw[au,NQ rfl];rfl
 . unfold sfs;refine zR0 (cu _ _ _) (zG1 (zR0 (cu _ _ _) (zG1 (zR0 (cu _ _ _) (zG1 (zR0 (cu _ _ _) (zG1 (zR0 (cu _ _ _) (zG1 (cu _ _ _))))))))))
def ScanAt(C:Addr)(H:Hp)(sc:Addr)(T:Str)(p n:Nat):Prop:=∃dx fs,H sc=some (.ins C dx fs)/\SF T p n fs
instance spSInit(C:Addr):∀(g dx:Addr)(T:Str)(k:Int),vs=[.ref g,.str T,.int k,.int 8,.int 20]->H g=some (.ins C dx [])->(∀H',ScanAt C H' g T 0 0->SameBut g H H'->Q .non H'):=1
def Dh:FnScope Wj Wj (ah uA):=%[|5]
def DT   (F:Fun K "__init__" "Scan.__init__" uA f fd) (T:STxt K mg C):#[1,f,fd,Wj,spSInit C]:=by
 exists Dh
 erw[g,dx,Tx,kr,1,hg,q]at h;erw[_,(aa (aO (pv 0) (pv 1) rfl) (aa (aO (pv 0) (pv 2) rfl) (aa (aO (pv 0) (pv 3) rfl) (aa (aO (pv 0) (pv 4) rfl) (aa (aO (pv 0) ae rfl) (ad (aO (pv 0) ae rfl))))))),6];erw[0,0,g,C,dx,[],1,hg,T.cl,T.nX,(by show 0<1000;decide),6];erw[0,0,g,C,dx,0,aJ,9,T.nR,(zK1 (cu _ _ _) (by show 1<1000;decide)),6];erw[0,0,g,C,dx,0,aJ,9,T.nW,(zK1 (cu _ _ _) (zK1 (zG1 (cu _ _ _)) (by show 2<1000;decide))),6];erw[0,0,g,C,dx,0,aJ,9,T.nP,(zK1 (cu _ _ _) (zK1 (zG1 (zR0 (cu _ _ _) (zG1 (cu _ _ _)))) (by show 3<1000;decide))),6];erw[0,g,C,dx,0,aJ,9,T.nL,(zK1 (cu _ _ _) (zK1 (zG1 (zR0 (cu _ _ _) (zG1 (zR0 (cu _ _ _) (zG1 (cu _ _ _)))))) (by show 4<1000;decide))),6];erw[0,g,C,dx,0,aJ,9,T.nN,(zK1 (cu _ _ _) (zK1 (zG1 (zR0 (cu _ _ _) (zG1 (zR0 (cu _ _ _) (zG1 (zR0 (cu _ _ _) (zG1 (cu _ _ _)))))))) (by show 5<1000;decide))),6];exact q _ ⟨dx,sfs Tx kr,aJ,IJ Tx kr⟩ ((SameBut.upd _).trans ((SameBut.upd _).trans ((SameBut.upd _).trans ((SameBut.upd _).trans ((SameBut.upd _).trans (SameBut.upd _))))))
def SF.size(h:SF T p n fs):fs.length<1000:=zK1 h.len ⋯
instance spEnter(C:Addr):∀(sc:Addr)(T:Str)(p n:Nat)(wi:Int),vs=[.ref sc,.int wi]->ScanAt C H sc T p n->wi<=8->n+1<=20->(∀H',ScanAt C H' sc T p (n+1)->SameBut sc H H'->Q .non H'):=1
def AN:FnScope Wk Wk (ah qJ):=%[|5]
def Be   (F:Fun K "enter" "Scan.enter" qJ f fd) (T:STxt K mg C):#[1,f,fd,Wk,spEnter C]:=by
 exists AN
 erw[sc,Tx,p,n,wi,1,%[dx,fs,hs|sf],w10,n30,q]at h;refine⟨_,(aa (aO (pv 0) (aq aS (ay (pv 0) rfl) ae) rfl)
  (ad (aI (PW.pt (ii (ag gQ (pv 1) (ay (pv 0) rfl) (ax _)) (gP (ag gQ (ay (pv 0) rfl) (ay (pv 0) rfl) (ax _))))) bJ az))),?_⟩
 let sf':=sf.toParts (n+1);erw[0,sc,C,dx,fs,0,hs,9,T.nN,sf.parts,2,0,sc,C,dx,fs,1,hs,9,T.nN,sf.size,6];let hs':upd H sc (.ins C dx (cD "parts" (.int ((n:Int)+1)) fs)) sc=some (.ins C dx (cD "parts" (.int ((n+1:Nat):Int)) fs)):=aJ;erw[0,0,sc,C,dx,_,0,hs',9,T.nW,sf'.mw,2,0,6];refine aD #[0] ?_;erw[0,sc,C,dx,_,0,hs',9,T.nN,sf'.parts,0,sc,C,dx,_,0,hs',9,T.nP,sf'.mp,2,0,6];refine aD #[0] ?_;exact q _ ⟨dx,_,hs',sf'⟩ (SameBut.upd _)
instance spSees(C:Addr):∀(sc:Addr)(T u:Str)(p n:Nat),vs=[.ref sc,.str u]->ScanAt C H sc T p n->Q (.bl (gy T u p)) H:=1
def Dg:FnScope WH WH (ah uz):=%[|5]
def DS   (F:Fun K "sees" "Scan.sees" uz f fd) (T:STxt K mg C):#[1,f,fd,WH,spSees C]:=by
 exists Dg
 erw[sc,Tx,u,p,n,1,%[dx,fs,hs|sf],q]at h;erw[_,(ad (am (eC jI0 PySem.F.slot_str_startswith PySem.F.type_str_startswith wB (ay (pv 0) rfl) %[1,ay (pv 0) rfl|aP]))),6];erw[0,sc,C,dx,fs,0,hs,9,T.nX,sf.text,1,0,0,sc,C,dx,fs,0,hs,9,T.nL,sf.place,Tx,u,0,1,q]
instance spTake'(C:Addr):∀(sc:Addr)(T u:Str)(p n:Nat),vs=[.ref sc,.str u]->ScanAt C H sc T p n->gy T u p=true->u.length<=10->(∀H',ScanAt C H' sc T (p+u.length) n->SameBut sc H H'->Q .non H'):=1
def De:FnScope WH WH (ah uy):=%[|5]
def DR   (F:Fun K "take" "Scan.take" uy f fd) (B:Bl mg) (T:STxt K mg C) (mS:Meth K C "sees" fS) (GS:#[1,fS,fdS,WH,spSees C]) (bS:Binds K fdS WH []):#[2,f,fd,WH,spTake' C]:=by
 exists De
 erw[sc,Tx,u,p,n,1,S,hu,u10,q]at h;let hr1:Room 1 _:=hr.mono ⋯;refine⟨_,(aa (aI (jC (eY (bQ (pv 0) T.cl mS GS hr1 bS .nil aZ %[1|aP]))) bJ az)
  (ad (aO (pv 0) (aq aS (ay (pv 0) rfl) (aG cZ rfl B.len zC1 %[1|aP])) rfl))),?_⟩
 let%[dx,fs,hs|sf]:=id S;erw[0,sc,dx,fs,1,hs,sf.no2,0,sc,Tx,u,p,n,1,S,0,6];rw[hu];refine dI ?_;erw[0,sc,C,dx,fs,0,hs,9,T.nL,sf.place,0,u,1,cq #[0],2,0,sc,C,dx,fs,1,hs,T.cl,T.nL,sf.size,6];let hs':upd H sc (.ins C dx (cD "place" (.int ((p:Int)+(u.length:Int))) fs)) sc=some (.ins C dx (cD "place" (.int ((p+u.length:Nat):Int)) fs)):=by rw[aJ,jC1]
 exact q _ %[dx,_,hs'|sf.toPlace _] (SameBut.upd _)
def xu(r:List Nat):Prop:=r=[]∨∃c r',r=c::r'/\(c=32∨c=40∨c=41)
instance spWord(C:Addr):∀(sc:Addr)(T:Str)(p n:Nat)(x r:List Nat),vs=[.ref sc]->ScanAt C H sc T p n->T.length<=1000->p<=T.length->T.cps.toList.drop p=x++r->(∀c∈x,isIn ENDS c=false)->xu r->(∀H',ScanAt C H' sc T (p+x.length) n->SameBut sc H H'->Q (.str (stl x)) H'):=1
def Kq:FnScope ["self","start"] WA (ah ux):=%[|5]
def DQ   (F:Fun K "word" "Scan.word" ux f fd) (B:Bl mg) (X:Tx K mg) (T:STxt K mg C):#[1,f,fd,WA,spWord C]:=by
 exists Kq
 erw[sc,Tx,p,n,x,r,1,%[dx,fs,hs|sf],tl,pl,hd,xl,er,q]at h;erw[te,ge]at X.ends;refine⟨_,(aa #[ai,1,Kq,ay (pv 0) rfl]
  (aa (im zF1 (PW.pt (kx (ag dN (ay (pv 0) rfl) (aG cZ rfl B.len zC1 %[ay (pv 0) rfl|aP]) (ax _)) (jB (ag uU (aM rX (ay (pv 0) rfl) (ay (pv 0) rfl) #[1]) (cX (v:=.str ENDS) rfl ge %[|0]) (by rfl'))))) (ad (aO (pv 0) (aq aS (ay (pv 0) rfl) ae) rfl)))
  (ad (am (eJ xK (ay (pv 0) rfl) (eM (pv 1)) (eM (ay (pv 0) rfl))))))),?_⟩
 let L:Tx.cps.toList.length=Tx.length:=by rw[zY1];rfl
 let hlen:Tx.length=p+(x.length+r.length):=by
  have:=congrArg List.length hd
  rw[qJ1,zK0,L]at this;omega
 erw[0,sc,C,dx,fs,0,hs,9,T.nL,sf.place,6];erw[λm σ H'=>∃j:Nat,j<=x.length/\σ=[some (.ref sc),some (.int (p:Int))]/\ScanAt C H' sc Tx (p+j) n/\SameBut sc H H'/\m=x.length-j,%[_,(0),zU0 _,1,%[dx,fs,hs|sf],SameBut.refl _ _|1],6];rintro m σ H1 ⟨j,hj,rfl,⟨dx1,fs1,hs1,sf1⟩,S1,rfl⟩;erw[0,sc,C,dx1,fs1,0,hs1,9,T.nL,sf1.place,0,sc,C,dx1,fs1,0,hs1,9,T.nX,sf1.text,Tx,1,cq tl,2,0,6];let sl:j=x.length->Txt.slice Tx (some (p:Int)) (some ((p+j:Nat):Int))=stl x:=λej=>by
  let es:Txt.slice Tx (some (p:Int)) (some ((p+j:Nat):Int))=_:=StrLaws.sliceText_plain (i:=(p:Int)) (j:=((p+j:Nat):Int)) %[3,3|by rw[L];omega];rw[es];refine FV ?_;show(Tx.cps.toList.drop (p:Int).toNat).take (((p+j:Nat):Int)-(p:Int)).toNat=x;rw[show(p:Int).toNat=p by omega,show(((p+j:Nat):Int)-(p:Int)).toNat=x.length by omega,hd,List.take_left'];rfl
 by_cases c1:(((p+j:Nat):Int))<(Tx.length:Int)
 . refine aV c1 ?_;let hk:p+j<Tx.cps.toList.length:=by rw[L];omega
   let ha:atI Tx.cps.toList ((p+j:Nat):Int)=some Tx.cps.toList[p+j]:=cx (zM0 hk);let hx:Tx.cps.toList[p+j]?=(x++r)[j]?:=by rw[←hd,List.getElem?_drop]
   erw[0,sc,C,dx1,fs1,0,hs1,9,T.nX,sf1.text,0,sc,C,dx1,fs1,0,hs1,9,T.nL,sf1.place,Tx,2,cq tl,ha,2,0,6]
   by_cases c2:j<x.length
   . let ec:Tx.cps.toList[p+j]=x[j]:=by
      rw[zM0 hk,zW1 c2,zM0 c2]at hx;exact zT0 hx
     let en:(!isIn ENDS Tx.cps.toList[p+j])=true:=by rw[ec,xl _ (qP0 c2)];rfl
     let en':(!(!(Builtin.Str.occurrences ENDS %[|#[Tx.cps.toList[p+j]]] 0 ENDS.length 1).isEmpty))=true:=en;rw[en'];erw[_,λ_ _ h=>h,6];erw[0,sc,C,dx1,fs1,0,hs1,9,T.nL,sf1.place,2,0,sc,C,dx1,fs1,1,hs1,9,T.nL,sf1.size,6];let hs':upd H1 sc (.ins C dx1 (cD "place" (.int (((p+j:Nat):Int)+1)) fs1)) sc=some (.ins C dx1 (cD "place" (.int ((p+(j+1):Nat):Int)) fs1)):=by
      rw[aJ,show((p+j:Nat):Int)+1=((p+(j+1):Nat):Int) by omega]
     erw[_,3,j+1,3,1,%[dx1,_,hs'|sf1.toPlace _],S1.trans (SameBut.upd _),1]
   . let ej:j=x.length:=by omega
     let en:(!isIn ENDS Tx.cps.toList[p+j])=false:=by
      rcases er with rfl | ⟨c,r',rfl,hc⟩
      . rw[zL1]at hlen;omega
      . rw [zM0 hk,zO1 #[0],show j-x.length=0 by omega]at hx;let ec:Tx.cps.toList[p+j]=c:=zT0 hx;rw[ec];rcases hc with rfl | rfl | rfl
        . rw[ends_in.1];rfl
        . rw[ends_in.2.1];rfl
        . rw[ends_in.2.2];rfl
     let en':(!(!(Builtin.Str.occurrences ENDS %[|#[Tx.cps.toList[p+j]]] 0 ENDS.length 1).isEmpty))=false:=en;rw[en'];erw[0,sc,C,dx1,fs1,0,hs1,9,T.nX,sf1.text,0,0,0,sc,C,dx1,fs1,0,hs1,9,T.nL,sf1.place,0,Tx,1,cq tl,6];rw[sl ej];rw[ej]at sf1;exact q H1 ⟨dx1,fs1,hs1,sf1⟩ S1
 . refine aD c1 ?_;let ej:j=x.length:=by omega
   erw[0,sc,C,dx1,fs1,0,hs1,9,T.nX,sf1.text,0,0,0,sc,C,dx1,fs1,0,hs1,9,T.nL,sf1.place,0,Tx,1,cq tl,6];rw[sl ej];rw[ej]at sf1;exact q H1 ⟨dx1,fs1,hs1,sf1⟩ S1
instance spFinish(C:Addr):∀(sc:Addr)(T:Str)(n:Nat),vs=[.ref sc]->ScanAt C H sc T T.length n->T.length<=1000->Q .non H:=1
def xP:FnScope WA WA (ah oy):=%[|5]
def ym   (F:Fun K "finish" "Scan.finish" oy f fd) (B:Bl mg) (T:STxt K mg C):#[1,f,fd,WA,spFinish C]:=by
 exists xP
 erw[sc,Tx,n,1,%[dx,fs,hs|sf],tl,q]at h;erw[_,(ad (aI (ag mO (ay (pv 0) rfl) (aG cZ rfl B.len zC1 %[ay (pv 0) rfl|aP]) (ax _)) bJ az)),6];erw[0,sc,C,dx,fs,0,hs,9,T.nL,sf.place,0,sc,C,dx,fs,0,hs,9,T.nX,sf.text,Tx,1,cq tl,1,0,6];show if(!decide (V.int (Tx.length:Int)=V.int (Tx.length:Int)))=true then _ else _
 rw[zD1 rfl];exact dI q
def EW(n p:Nat):PySem.fromIndex n (p:Int)=p:=by
 unfold PySem.fromIndex;rw[NP #[0]];omega
def zB(T u:Str)(p:Nat):Builtin.Str.subAt T u p=decide ((T.cps.toList.drop p).take u.length=u.cps.toList):=by
 unfold Builtin.Str.subAt;let e:(T.cps.extract p (p+u.length)).toList=(T.cps.toList.drop p).take u.length:=by
  rw[Array.toList_extract,List.extract_eq_drop_take]
  congr 1
  omega
 by_cases c:(T.cps.toList.drop p).take u.length=u.cps.toList
 . rw [zD1 c]
   have:T.cps.extract p (p+u.length)=u.cps:=Array.toList_inj.mp (e.trans c)
   rw[this]
   simp
 . rw [zB1 c]
   have:¬ T.cps.extract p (p+u.length)=u.cps:=λz=>c (by rw[←e,z])
   simpa using this
def ng(T:Str):T.cps.toList.length=T.length:=by rw[zY1];rfl
def kZ{T:Str}{p:Nat}{u v:List Nat}(h:T.cps.toList.drop p=u++v)(hp:p<=T.length):p+u.length+v.length=T.length:=by
 have:=congrArg List.length h
 rw[qJ1,zK0,ng]at this;omega
def cv{T:Str}{p:Nat}{u v:List Nat}(h:T.cps.toList.drop p=u++v):T.cps.toList.drop (p+u.length)=v:=by
 rw[←List.drop_drop,h,List.drop_left]
def dU{T u:Str}{p:Nat}{r:List Nat}(h:T.cps.toList.drop p=u.cps.toList++r)(hp:p<=T.length):gy T u (p:Int)=true:=by
 unfold gy;let hl:=kZ h hp;rw[ng]at hl;rw[EW,zB,zD1 #[0],h,←ng u,List.take_left,zD1 rfl];rfl
def AG {T:Str} {p:Nat} {c:Nat} {r:List Nat} (h:T.cps.toList.drop p=c::r) (hc:c≠40):gy T ("(":Str) (p:Int)=false:=by
 unfold gy;let l1:(("(":Str)).length=1:=by decide
 rw[EW,zB,h,vo,l1]
 have:¬ (c::r).take 1=[40]:=λz=>hc (by simpa using z)
 rw[zB1 this,wQ0]
def de(S:ScanAt C H sc T p n)(s:SameBut sc H H'):bL H H':=λa xs h=>s a _ (λz=>by
 erw[dx,fs,e,_]at S;rw[z,e]at h;cases h) h
def ScanAt.same(S:ScanAt C H sc T p n)(s:Same H H'):ScanAt C H' sc T p n:=by
 erw[dx,fs,e,sf]at S;erw[dx,fs,s _ _ e,sf]
structure Mths(P:Program)(w:World)(K:W.Frag)(mg:Str->Option Value)(base:Heap)(C fE fS fT fW fF:Addr)(dE dS dT dW dF:FuncData):Prop where
 mE:Meth K C "enter" fE
 gE:#[1,fE,dE,Wk,spEnter C]
 bE:Binds K dE Wk []
 mS:Meth K C "sees" fS
 gS:#[1,fS,dS,WH,spSees C]
 bS:Binds K dS WH []
 mT:Meth K C "take" fT
 gT:#[2,fT,dT,WH,spTake' C]
 bT:Binds K dT WH []
 mW:Meth K C "word" fW
 gW:#[1,fW,dW,WA,spWord C]
 bW:Binds K dW WA []
 mF:Meth K C "finish" fF
 gF:#[1,fF,dF,WA,spFinish C]
 bF:Binds K dF WA []
def EZ:∀c:Nat,c<62->42<=c->isIn ENDS c=false:=by decide
def Jt:∀c:Fin 26,isIn FIG (97+c.val)=false:=by decide
def EM{c:Nat}(h:97<=c/\c<=122):isIn FIG c=false:=by
 have:=Jt %[c-97|3]
 rwa [show 97+(%[c-97|3]:Fin 26).val=c by show 97+(c-97)=c;omega]at this
def BT(h:NmK x):li x=false:=by
 unfold li;erw[hl,h1,_,_]at h
 have:x.cps.toList.all (isIn FIG)=false:=by
  cases e:x.cps.toList with
  | nil=>
    have:=dJ x
    unfold cd at this;rw[e]at this
    simp at this
    omega
  | cons c r=>
    have:=EM (hl c (by rw[e];exact qA0))
    rw[wE1,this];rfl
 rw[this,wQ0]
def oW(l:List Nat):Prop:=∀c∈l,isIn ENDS c=false
def dC{l:List Nat}(h:∀c∈l,97<=c/\c<=122):oW l:=λc hc=>BK (h c hc)
def rB{l:List Nat}(h:∀c∈l,42<=c/\c<=61):oW l:=λc hc=>EZ c (by have:=h c hc;omega) (h c hc).1
def rA{n:Int}(h:0<=n):oW (cd (cg n)):=rB λc hc=>by have:=kX h c hc;omega
def Bc(h:oW l)(h1:1<=l.length)(r:List Nat):∃c r',l++r=c::r'/\c≠40:=by
 cases l with
 | nil=>cases h1
 | cons c l'=>
   erw[c,l'++r,1,λe=>?_]
   have:=h c qA0
   rw[e,ends_in.2.1]at this;cases this
instance spNextT(C:Addr)(n:Nat):∀(sc:Addr)(wi:Int)(T:Str)(p k:Nat)(t:Tm)(r:List Nat),vs=[.ref sc,.int wi]->ScanAt C H sc T p k->T.length<=1000->p<=T.length->T.cps.toList.drop p=[32]++(t.txt++r)->xu r->t.ok->t.depth<=n->wi+(t.depth:Int)<=9->k+t.size<=20->(∀(v:V)(H':Hp),TmAt H' v t->ScanAt C H' sc T (p+1+t.txt.length) (k+t.size)->SameBut sc H H'->Q v H'):=1
instance spTB(C:Addr)(n:Nat):∀(sc:Addr)(wi:Int)(T:Str)(p k:Nat)(t:Tm)(r:List Nat),vs=[.ref sc,.int wi]->ScanAt C H sc T p (k+1)->T.length<=1000->p<=T.length->T.cps.toList.drop p=t.txt++r->t.ok->((∃w a,t=.ask w a)∨∃s a b,t=.op s a b)->t.depth<=n+1->wi+(t.depth:Int)<=9->k+t.size<=20->(∀(v:V)(H':Hp),TmAt H' v t->ScanAt C H' sc T (p+t.txt.length) (k+t.size)->SameBut sc H H'->Q v H'):=1
def cP:FnScope ["scan","within","word","first","term"] WK (ah dM):=%[|5]
def FR {n:Nat}   (F:Fun K "term_in_bracket" "term_in_bracket" dM f fd) (X:Tx K mg) (T:STxt K mg C) (M:Mths P w K mg base C fE fS fT fW fF dE dS dT dW dF) (di:#[2*n+3,"next_term",WK,spNextT C n]):#[2*n+4,f,fd,WK,spTB C n]:=by
 exists cP
 erw[sc,wi,Tx,p,k,t,r,1,S0,tl,pl,hd,ok,kind,dn,wd,k20,q]at h;erw[ja,gj,hj]at X.asking;erw[sa,gs,hs]at X.signs;let hr1:Room 1 _:=hr.mono #[0];let hr2:Room 2 _:=hr.mono #[0];refine⟨_,(aa (aW (bQ (pv 0) T.cl M.mT M.gT hr2 M.bT .nil aZ %[ao|aP]))
  (aa #[ai,2,cP,bK (pv 0) T.cl M.mW M.gW hr1 M.bW .nil aZ]
  (aa #[ai,3,cP,aj di hr #[0] rfl %[0,aq aS (pv 1) ae|aP]]
  (aa (aI (ag fY (pv 2) (cX (v:=.ref ja) rfl gj rfl) (by rfl')) (ad #[ai,4,cP,aF %[2,3|aP]]) (ad (aI (ag fY (pv 2) (cX (v:=.ref sa) rfl gs rfl) (by rfl')) (ad #[ai,4,cP,aF %[ao,2,3,aj di hr #[0] rfl %[0,aq aS (pv 1) ae|aP]|aP]]) bJ)))
  (aa (aW (bQ (pv 0) T.cl M.mT M.gT hr2 M.bT .nil aZ %[ao|aP]))
  (ad (am (pv 4)))))))),?_⟩
 let l1:(("(":Str)).length=1:=by decide
 let l3:((")":Str)).length=1:=by decide
 let%[dx0,fs0,hs0|sf0]:=id S0;rcases kind with⟨wd',a,rfl⟩ | ⟨o,a,b,rfl⟩
 . erw[okw,oka]at ok;let%[_,w1,wl|_]:=zm wd' okw;let da:a.depth<=n:=Nat.le_of_succ_le_succ dn;let ed:(((Tm.ask wd' a).depth:Nat):Int)=(a.depth:Int)+1:=by show((a.depth+1:Nat):Int)=_;omega
   let es:(Tm.ask wd' a).size=a.size+1:=rfl;let wlen:(cd wd').length=wd'.length:=dJ _;let hd0:Tx.cps.toList.drop p=[40]++(cd wd'++([32]++(a.txt++([41]++r)))):=by
    rw[hd];show([40]++(cd wd'++([32]++(a.txt++[41]))))++r=_
    simp
   let tlen:(Tm.ask wd' a).txt.length=1+(wd'.length+(1+(a.txt.length+1))):=by
    show([40]++(cd wd'++([32]++(a.txt++[41])))).length=_;simp only[zK0,zP0,zL1,wlen]
   let hl0:=kZ hd0 pl;simp only[zK0,zP0,zL1,wlen]at hl0;let hd1:=cv hd0;let hd2:=cv hd1;let hd3:=cv hd2;let hd4:=cv hd3;simp only[zP0,zL1,wlen]at hd1 hd2 hd3 hd4;erw[0,sc,dx0,fs0,1,hs0,sf0.no3,sc,Tx,_,p,0,S0,dU (r:=cd wd'++([32]++(a.txt++([41]++r)))) (by rw[vo];exact hd0) pl,by rw[l1];decide,λH1 S1 B1=>?_];rw[l1]at S1;let%[dx1,fs1,hs1|sf1]:=id S1;erw[0,sc,dx1,fs1,1,hs1,sf1.no4,sc,Tx,_,_,cd wd',0,S1,tl,3,hd1,dC wl,.inr %[(32),0|.inl rfl],λH2 S2 B2=>?_];rw[wlen]at S2;erw[0,0,2,sc,wi+1,Tx,_,_,a,0,S2,tl,3,hd2,.inr %[(41),r,1|.inr (.inr rfl)],oka,da,3,3,λv1 H3 T3 S3 B3=>?_];erw[0,ja,0,.inr (hj _),1,⋯,0,6];let einj:inV (.str (stl (cd wd'))) (askW.map V.str)=true:=by rw[show stl (cd wd')=wd' from lD _,jH,zD1 okw]
   rw[einj];refine eF ?_;erw[0,0,y2S,λc hc=>?_];let G:=zC0 hc (.tup [.str (stl (cd wd')),v1]);let S4:=S3.same G;let ec:upd H3 c (.tup [.str (stl (cd wd')),v1]) c=some (.tup [.str wd',v1]):=aJ;let T4:=T3.mono (aY G);generalize upd H3 c (.tup [.str (stl (cd wd')),v1])=H4 at G S4 ec T4;let%[dx4,fs4,hs4|sf4]:=id S4;erw[0,sc,dx4,fs4,1,hs4,sf4.no3,sc,Tx,_,_,0,S4,dU (r:=r) (by rw[Ez,show p+1+wd'.length+1+a.txt.length=p+(0+1)+wd'.length+(0+1)+a.txt.length by omega];exact hd4) #[0],by rw[l3];decide,λH5 S5 B5=>?_];rw[l3]at S5;let k5:=de S4 B5;erw[0,6];rw[show p+1+wd'.length+1+a.txt.length+1=p+(Tm.ask wd' a).txt.length by rw[tlen];omega,show k+1+a.size=k+(Tm.ask wd' a).size by rw[es];omega]at S5;exact q _ _ (.ask (k5 _ _ ec) (T4.mono k5)) S5 (B1.trans (B2.trans (B3.trans ((zJ0 G).trans B5))))
 . erw[oko,oka,okb]at ok;let%[o1,ol|no]:=uf o oko;let dd:a.depth<=n/\b.depth<=n/\wi+(a.depth:Int)<=8/\wi+(b.depth:Int)<=8:=by
    let e1:(Tm.op o a b).depth=max a.depth b.depth+1:=rfl;rw[e1]at dn wd;omega
   let es:(Tm.op o a b).size=a.size+b.size+1:=rfl;let wlen:(cd o).length=o.length:=dJ _;let hd0:Tx.cps.toList.drop p=[40]++(cd o++([32]++(a.txt++([32]++(b.txt++([41]++r)))))):=by
    rw[hd];show([40]++(cd o++([32]++(a.txt++([32]++(b.txt++[41]))))))++r=_
    simp
   let tlen:(Tm.op o a b).txt.length=1+(o.length+(1+(a.txt.length+(1+(b.txt.length+1))))):=by
    show([40]++(cd o++([32]++(a.txt++([32]++(b.txt++[41])))))).length=_;simp only[zK0,zP0,zL1,wlen]
   let hl0:=kZ hd0 pl;simp only[zK0,zP0,zL1,wlen]at hl0;let hd1:=cv hd0;let hd2:=cv hd1;let hd3:=cv hd2;let hd4:=cv hd3;let hd5:=cv hd4;let hd6:=cv hd5;simp only[zP0,zL1,wlen]at hd1 hd2 hd3 hd4 hd5 hd6;erw[0,sc,dx0,fs0,1,hs0,sf0.no3,sc,Tx,_,p,0,S0,dU (r:=cd o++([32]++(a.txt++([32]++(b.txt++([41]++r)))))) (by rw[vo];exact hd0) pl,by rw[l1];decide,λH1 S1 B1=>?_];rw[l1]at S1;let%[dx1,fs1,hs1|sf1]:=id S1;erw[0,sc,dx1,fs1,1,hs1,sf1.no4,sc,Tx,_,_,cd o,0,S1,tl,3,hd1,rB ol,.inr %[(32),0|.inl rfl],λH2 S2 B2=>?_];rw[wlen]at S2;erw[0,0,2,sc,wi+1,Tx,_,_,a,0,S2,tl,3,hd2,.inr %[(32),0|.inl rfl],oka,dd.1,3,3,λv1 H3 T3 S3 B3=>?_];erw[0,ja,0,.inr (hj _),1,⋯,0,6];let einj:inV (.str (stl (cd o))) (askW.map V.str)=false:=by rw[show stl (cd o)=o from lD _,jH,zB1 no]
   rw[einj];refine dI ?_;erw[0,sa,0,.inr (hs _),1,⋯,0,6];let eins:inV (.str (stl (cd o))) (signW.map V.str)=true:=by rw[show stl (cd o)=o from lD _,jH,zD1 oko]
   rw [eins];refine eF ?_;let hd4':Tx.cps.toList.drop (p+1+o.length+1+a.txt.length)=[32]++(b.txt++([41]++r)):=by
    rw[show p+1+o.length+1+a.txt.length=p+(0+1)+o.length+(0+1)+a.txt.length by omega];exact hd4
   erw[0,0,0,0,2,sc,wi+1,Tx,_,_,b,0,S3,tl,3,hd4',.inr %[(41),r,1|.inr (.inr rfl)],okb,dd.2.1,3,3,λv2 H4 T4 S4 B4=>?_];let T3':=T3.mono (de S3 B4);erw[y4S,λc hc=>?_];let G:=zC0 hc (.tup [.str "op",.str (stl (cd o)),v1,v2]);let S5:=S4.same G;let ec:upd H4 c (.tup [.str "op",.str (stl (cd o)),v1,v2]) c=some (.tup [.str "op",.str o,v1,v2]):=aJ;let T5:=T4.mono (aY G);let T5':=T3'.mono (aY G);generalize upd H4 c (.tup [.str "op",.str (stl (cd o)),v1,v2])=H5 at G S5 ec T5 T5';let%[dx5,fs5,hs5|sf5]:=id S5;erw[0,sc,dx5,fs5,1,hs5,sf5.no3,sc,Tx,_,_,0,S5,dU (r:=r) (by rw[Ez,show p+1+o.length+1+a.txt.length+1+b.txt.length=p+(0+1)+o.length+(0+1)+a.txt.length+(0+1)+b.txt.length by omega];exact hd6) #[0],by rw[l3];decide,λH6 S6 B6=>?_];rw[l3]at S6;let k6:=de S5 B6;erw[0,6];rw[show p+1+o.length+1+a.txt.length+1+b.txt.length+1=p+(Tm.op o a b).txt.length by rw[tlen];omega,show k+1+a.size+b.size=k+(Tm.op o a b).size by rw[es];omega]at S6;exact q _ _ (.op (k6 _ _ ec) (T5'.mono k6) (T5.mono k6)) S6 (B1.trans (B2.trans (B3.trans (B4.trans ((zJ0 G).trans B6)))))
def sD:FnScope ["scan","within","word"] WK (ah iB):=%[|5]
def vh{n:Int}(h:0<=n):cg n∉plainW:=λhm=>by
 let%[_,w1,wl|_]:=mK _ hm;cases e:cd (cg n)with
 | nil=>
   have:=dJ (cg n)
   rw[e]at this
   simp at this
   omega
 | cons c r=>
   let h1:=kX h c (by rw[e];exact qA0);let h2:=wl c (by show c∈cd (cg n);rw[e];exact qA0);omega
def yb:∀w∈plainW,w∈kept:=by decide
def GY {n:Nat}   (F:Fun K "next_term" "next_term" iB f fd) (B:Bl mg) (X:Tx K mg) (T:STxt K mg C) (M:Mths P w K mg base C fE fS fT fW fF dE dS dT dW dF) (fb:#[1,"is_name",WF,spTxt jL]) (b9:#[1,"is_figures",WF,spTxt li]) (vW:#[2*n+4,"term_in_bracket",WK,spTB C n]):#[2*(n+1)+3,f,fd,WK,spNextT C (n+1)]:=by
 exists sD
 erw[sc,wi,Tx,p,k,t,r,1,S0,tl,pl,hd,er,ok,dn,wd,k20,q]at h;erw[ja,gj,hj]at X.plain;let hr1:Room 1 _:=hr.mono #[0];let hr2:Room 2 _:=hr.mono #[0];refine⟨_,(aa (aW (bQ (pv 0) T.cl M.mT M.gT hr2 M.bT .nil aZ %[ao|aP]))
  (aa (aW (bQ (pv 0) T.cl M.mE M.gE hr1 M.bE .nil aZ %[1|aP]))
  (aa (aI (eY (bQ (pv 0) T.cl M.mS M.gS hr1 M.bS .nil aZ %[ao|aP])) (ad (am (aj vW hr #[0] rfl %[0,1|aP]))) az)
  (aa #[ai,2,sD,bK (pv 0) T.cl M.mW M.gW hr1 M.bW .nil aZ]
  (aa (aI (ag fY (pv 2) (cX (v:=.ref ja) rfl gj rfl) (by rfl')) (ad (am (aF %[2|aP]))) az)
  (aa (aI (eY (aj b9 hr #[0] rfl %[2|aP])) (ad (am (aF %[ao,bt ly rfl B.int lh %[2|aP]|aP]))) az)
  (aa (aI (jC (eY (aj fb hr #[0] rfl %[2|aP]))) bJ az)
  (ad (am (aF %[ao,2|aP])))))))))),?_⟩
 let l2:((" ":Str)).length=1:=by decide
 let dp:=t.depth_pos;let sp:=t.size_pos;let hl0:=kZ hd pl;let hd1:=cv hd;simp only[zK0,zP0,zL1]at hl0 hd1;let%[dx0,fs0,hs0|sf0]:=id S0;erw[0,sc,dx0,fs0,1,hs0,sf0.no3,sc,Tx,_,p,0,S0,dU (r:=t.txt++r) (by rw[lS];exact hd) pl,by rw[l2];decide,λH1 S1 B1=>?_];rw[l2]at S1;let%[dx1,fs1,hs1|sf1]:=id S1;erw[0,sc,dx1,fs1,1,hs1,sf1.no1,0,sc,Tx,_,k,wi,1,S1,3,3,λH2 S2 B2=>?_];let%[NX,fs2,hs2|sf2]:=id S2;erw[0,sc,NX,fs2,1,hs2,sf2.no2,sc,Tx,_,_,0,S2,0,6];let shape:(((∃w a,t=.ask w a)∨∃s a b,t=.op s a b)/\∃z,t.txt=40::z)∨∃x:Str,t.txt=cd x/\oW (cd x)/\1<=x.length/\t.size=1/\((t=.plain x/\x∈plainW)∨(∃m,t=.num m/\x=cg m/\0<=m/\m<1000000000000)∨(t=.box x/\NmK x)):=by
  cases t with
  | ask w a=>exact .inl %[.inl %[w,a|1]|0]
  | op s a b=>exact .inl %[.inr %[s,a,b|1]|0]
  | plain x=>
    let okx:x∈plainW:=ok;let%[_,w1,wl|_]:=mK x okx;exact .inr %[x,1,dC wl,w1,1|.inl %[1|okx]]
  | num m=>exact .inr %[cg m,1,rA ok.1,wy ok.1,1|.inr (.inl %[m,1,1,ok.1|ok.2])]
  | box x=>
    let okx:NmK x:=ok;exact .inr %[x,1,dC okx.1,okx.2.1,1|.inr (.inr %[1|okx])]
 rcases shape with⟨kind,z,ez⟩ | ⟨x,et,pc,x1,s1,kd⟩
 . let hs:gy Tx ("(":Str) ((p+1:Nat):Int)=true:=dU (r:=z++r) (by rw[vo];show _=40::(z++r);rw[hd1,ez];rfl) #[0];rw[hs];refine eF ?_;erw[0,0,sc,wi,Tx,p+1,k,t,r,1,S2,tl,3,hd1,ok,kind,dn,wd,k20,λv H3 T3 S3 B3=>?_];exact q v H3 T3 S3 (B1.trans (B2.trans B3))
 let%[c,r',hc|c40]:=Bc pc (by rw[dJ];exact x1) r;let hd':Tx.cps.toList.drop (p+1)=cd x++r:=by rw[hd1,et]
 rw[AG (hd'.trans hc) c40];refine dI ?_;erw[0,sc,NX,fs2,1,hs2,sf2.no4,sc,Tx,_,_,cd x,r,1,S2,tl,3,hd',pc,er,λH3 S3 B3'=>?_];rw[show stl (cd x)=x from lD _];rw[←et,←s1]at S3;let B3:SameBut sc H H3:=B1.trans (B2.trans B3');erw[0,ja,0,.inr (hj _),1,⋯,0,6];show if inV (.str x) (plainW.map V.str)=true then _ else _
 rw[jH];rcases kd with⟨rfl,okx⟩ | ⟨m,rfl,rfl,m0,m1⟩ | ⟨rfl,okx⟩
 . refine aV okx ?_;erw[0,y1S,λc hc=>?_];let G:=zC0 hc (.tup [.str x]);exact q _ _ (.plain aJ) (S3.same G) (B3.trans (zJ0 G))
 . refine aD (vh m0) ?_;let nl:=jE m0 m1;erw[0,cg m,1,3,λH4 S4=>%[0|6]];rw[zS m0 m1];refine eF ?_;erw[0,cg m,m,1,zR m0 m1,3,y2S,λc hc=>?_];let G:=zC0 hc (.tup [.str "num",.int m]);exact q _ _ (.num aJ) ((S3.same S4).same G) (B3.trans (zJ0 (S4.trans G)))
 . let%[xl,_,x6|xk]:=id okx;refine aD (λh=>xk (yb x h)) ?_;erw[0,x,1,3,λH4 S4=>%[0|6]];rw[BT okx];refine dI ?_;erw[0,x,1,3,λH5 S5=>%[0|6]];rw[zU okx];refine dI ?_;erw[0,y2S,λc hc=>?_];let G:=zC0 hc (.tup [.str "box",.str x]);exact q _ _ (.box aJ) (((S3.same S4).same S5).same G) (B3.trans (zJ0 (S4.trans (S5.trans G))))
def GX  :#[3,f,fd,WK,spNextT C 0]:=by
 let no:∀vs H Q E,¬ spNextT C 0 vs H Q E:=λvs H Q E h=>by
  erw[_,_,_,_,_,t,_,_,_,_,_,_,_,_,h1,_]at h
  have:=t.depth_pos
  omega
 exists 3
def mV   (F:Fun K "next_term" "next_term" iB f fd) (m:mg "next_term"=some (.ref f)) (Fj:Fun K "term_in_bracket" "term_in_bracket" dM fj fdj) (mj:mg "term_in_bracket"=some (.ref fj)) (B:Bl mg) (X:Tx K mg) (T:STxt K mg C) (M:Mths P w K mg base C fE fS fT fW fF dE dS dT dW dF) (fb:#[1,"is_name",WF,spTxt jL]) (b9:#[1,"is_figures",WF,spTxt li]) :
 ∀n:Nat,#[2*n+3,f,fd,WK,spNextT C n]
 | 0=>GX
 | n+1=>
   let c1:=Cal.of F (mV F m Fj mj B X T M fb b9 n) m (λ_ _ _ _ _ _ us hl=>by let%[u0,u1|1]:=Hj hl;rfl)
   GY F B X T M fb b9 (Cal.of Fj (FR Fj X T M c1) mj (λ_ _ _ _ _ _ us hl=>by let%[u0,u1|1]:=Hj hl;rfl))
instance spNextN(C:Addr):∀(sc:Addr)(T:Str)(p k:Nat)(x:Str)(r:List Nat),vs=[.ref sc]->ScanAt C H sc T p k->T.length<=1000->p<=T.length->T.cps.toList.drop p=[32]++(cd x++r)->xu r->NmK x->(∀H',ScanAt C H' sc T (p+1+x.length) k->SameBut sc H H'->Q (.str x) H'):=1
def sE:FnScope ["scan","word"] ["scan"] (ah jY):=%[|5]
def uX   (F:Fun K "next_name" "next_name" jY f fd) (T:STxt K mg C) (M:Mths P w K mg base C fE fS fT fW fF dE dS dT dW dF) (fb:#[1,"is_name",WF,spTxt jL]):#[3,f,fd,["scan"],spNextN C]:=by
 exists sE
 erw[sc,Tx,p,k,x,r,1,S0,tl,pl,hd,er,ok,q]at h;let hr1:Room 1 _:=hr.mono #[0];let hr2:Room 2 _:=hr.mono #[0];refine⟨_,(aa (aW (bQ (pv 0) T.cl M.mT M.gT hr2 M.bT .nil aZ %[ao|aP]))
  (aa #[ai,1,sE,bK (pv 0) T.cl M.mW M.gW hr1 M.bW .nil aZ]
  (aa (aI (jC (eY (aj fb hr #[0] rfl %[1|aP]))) bJ az)
  (ad (am (pv 1)))))),?_⟩
 let l2:((" ":Str)).length=1:=by decide
 let hl0:=kZ hd pl;let hd1:=cv hd;simp only[zK0,zP0,zL1]at hl0 hd1;let%[dx0,fs0,hs0|sf0]:=id S0;erw[0,sc,dx0,fs0,1,hs0,sf0.no3,sc,Tx,_,p,0,S0,dU (r:=cd x++r) (by rw[lS];exact hd) pl,by rw[l2];decide,λH1 S1 B1=>?_];rw[l2]at S1;let%[dx1,fs1,hs1|sf1]:=id S1;erw[0,sc,dx1,fs1,1,hs1,sf1.no4,sc,Tx,_,_,cd x,r,1,S1,tl,3,hd1,dC ok.1,er,λH2 S2 B2=>?_];rw[show stl (cd x)=x from lD _];rw[dJ]at S2;let x6:=ok.2.2.1;erw[0,x,1,3,λH3 S3=>%[0|6]];rw[zU ok];refine dI ?_;erw[0,q H3 (S2.same S3) (B1.trans (B2.trans (zJ0 S3)))]
instance spNextF(C:Addr):∀(sc:Addr)(T:Str)(p k:Nat)(m:Int)(r:List Nat),vs=[.ref sc]->ScanAt C H sc T p k->T.length<=1000->p<=T.length->T.cps.toList.drop p=[32]++(cd (cg m)++r)->xu r->0<=m->m<1000000000000->(∀H',ScanAt C H' sc T (p+1+(cg m).length) k->SameBut sc H H'->Q (.int m) H'):=1
def jU:FnScope ["scan","word"] ["scan"] (ah ic):=%[|5]
def pR   (F:Fun K "next_figures" "next_figures" ic f fd) (B:Bl mg) (T:STxt K mg C) (M:Mths P w K mg base C fE fS fT fW fF dE dS dT dW dF) (b9:#[1,"is_figures",WF,spTxt li]):#[3,f,fd,["scan"],spNextF C]:=by
 exists jU
 erw[sc,Tx,p,k,m,r,1,S0,tl,pl,hd,er,m0,m1,q]at h;let hr1:Room 1 _:=hr.mono #[0];let hr2:Room 2 _:=hr.mono #[0];refine⟨_,(aa (aW (bQ (pv 0) T.cl M.mT M.gT hr2 M.bT .nil aZ %[ao|aP]))
  (aa #[ai,1,jU,bK (pv 0) T.cl M.mW M.gW hr1 M.bW .nil aZ]
  (aa (aI (jC (eY (aj b9 hr #[0] rfl %[1|aP]))) bJ az)
  (ad (am (bt ly rfl B.int lh %[1|aP])))))),?_⟩
 let l2:((" ":Str)).length=1:=by decide
 let hl0:=kZ hd pl;let hd1:=cv hd;simp only[zK0,zP0,zL1]at hl0 hd1;let nl:=jE m0 m1;let%[dx0,fs0,hs0|sf0]:=id S0;erw[0,sc,dx0,fs0,1,hs0,sf0.no3,sc,Tx,_,p,0,S0,dU (r:=cd (cg m)++r) (by rw[lS];exact hd) pl,by rw[l2];decide,λH1 S1 B1=>?_];rw[l2]at S1;let%[dx1,fs1,hs1|sf1]:=id S1;erw[0,sc,dx1,fs1,1,hs1,sf1.no4,sc,Tx,_,_,cd (cg m),r,1,S1,tl,3,hd1,rA m0,er,λH2 S2 B2=>?_];rw[show stl (cd (cg m))=cg m from lD _];rw[dJ]at S2;erw[0,cg m,1,3,λH3 S3=>%[0|6]];rw[zS m0 m1];refine dI ?_;erw[0,cg m,m,1,zR m0 m1,3,q H3 (S2.same S3) (B1.trans (B2.trans (zJ0 S3)))]
def iteNT{c A B:Prop}[Decidable c](hc:c)(h:B):if(!decide c)=true then A else B:=by
 rw[zD1 hc];exact dI h
def Hr.wd:Hr->Str
 | .fin=>"end" | .go _=>"go" | .iff _ _=>"if" | .set _ _=>"set" | .say _=>"say"
def Hr.rest:Hr->List Nat
 | .fin=>[] | .go n=>[32]++cd (cg n) | .iff t n=>[32]++(t.txt++([32]++cd (cg n))) | .set x t=>[32]++(cd x++([32]++t.txt)) | .say t=>[32]++t.txt
def Hr.codes(r:Hr):r.str.cps.toList=cd r.wd++r.rest:=by
 cases r with
 | fin=>decide
 | go n=>
   rw[show(Hr.go n).str=(("go":Str)++(" ":Str))++cg n from rfl,jb,jb,lS];show(cd "go"++[32])++cd (cg n)=cd "go"++([32]++cd (cg n))
   simp
 | iff t n=>
   rw[show(Hr.iff t n).str=(((("if":Str)++(" ":Str))++t.str)++(" ":Str))++cg n from rfl];simp only[jb,lS];show(((cd "if"++[32])++t.txt)++[32])++cd (cg n)=cd "if"++([32]++(t.txt++([32]++cd (cg n))))
   simp
 | set x t=>
   rw[show(Hr.set x t).str=(((("set":Str)++(" ":Str))++x)++(" ":Str))++t.str from rfl];simp only[jb,lS];show(((cd "set"++[32])++cd x)++[32])++t.txt=cd "set"++([32]++(cd x++([32]++t.txt)))
   simp
 | say t=>
   rw[show(Hr.say t).str=(("say":Str)++(" ":Str))++t.str from rfl,jb,jb,lS];show(cd "say"++[32])++t.txt=cd "say"++([32]++t.txt)
   simp
def lg:∀x∈(Ws:List Str),∀c∈x.cps.toList,97<=c/\c<=122:=by decide
def Hr.wd_ok(r:Hr):oW (cd r.wd):=by
 cases r with
 | fin=>exact dC (lg "end" ⋯)
 | go n=>exact dC (lg "go" ⋯)
 | iff t n=>exact dC (lg "if" ⋯)
 | set x t=>exact dC (lg "set" ⋯)
 | say t=>exact dC (lg "say" ⋯)
def Hr.rest_ok(r:Hr):xu r.rest:=by
 cases r with
 | fin=>exact .inl rfl
 | go n=>exact .inr %[(32),0|.inl rfl]
 | iff t n=>exact .inr %[(32),0|.inl rfl]
 | set x t=>exact .inr %[(32),0|.inl rfl]
 | say t=>exact .inr %[(32),0|.inl rfl]
instance spHRw:∀(r:Hr)(k:Int),vs=[.str r.str,.int k]->r.ok 20->(∀(v:V)(H':Hp),HrAt H' v r->Same H H'->Q v H'):=1
def cG:FnScope ["text","number","scan","word","row"] ["text","number"] (ah jx):=%[|5]
def sQ   (F:Fun K "helper_row" "helper_row" jx f fd) (X:Tx K mg) (T:STxt K mg C) (M:Mths P w K mg base C fE fS fT fW fF dE dS dT dW dF) (MK:Mk K C fI) (GI:#[1,fI,fdI,Wj,spSInit C]) (bI:Binds K fdI Wj [])
 (lV:#[3,"next_name",["scan"],spNextN C]) (f9:#[3,"next_figures",["scan"],spNextF C]) (di:#[19,"next_term",WK,spNextT C 8]):#[20,f,fd,["text","number"],spHRw]:=by
 exists cG
 erw[r,k,1,ok,q]at h;erw[tw,gw]at X.within;erw[tp,gp]at X.parts;let hr1:Room 1 _:=hr.mono ⋯;let hr2:Room 2 _:=hr.mono ⋯;refine⟨_,(aa #[ai,2,cG,gn MK GI hr2 rfl T.mgC bI .nil aZ %[0,1,cX (v:=.int 8) rfl gw %[|0],cX (v:=.int 20) rfl gp ⟨_,rfl⟩|aP]]
  (aa #[ai,3,cG,bK (pv 2) T.cl M.mW M.gW hr1 M.bW .nil aZ]
  (aa #[ai,4,cG,aF %[3|aP]]
  (aa (aI (ag aR (pv 3) ao (ax _)) (ad #[ai,4,cG,aq op_catT (pv 4) (aF %[aj lV hr ⋯ rfl %[2|aP],aj di hr ⋯ rfl %[2,ae|aP]|aP])]) (ad (aI (ag aR (pv 3) ao (ax _)) (ad #[ai,4,cG,aq op_catT (pv 4) (aF %[aj di hr ⋯ rfl %[2,ae|aP]|aP])]) (ad (aI (ag aR (pv 3) ao (ax _)) (ad #[ai,4,cG,aq op_catT (pv 4) (aF %[aj di hr ⋯ rfl %[2,ae|aP],aj f9 hr ⋯ rfl %[2|aP]|aP])]) (ad (aI (ag aR (pv 3) ao (ax _)) (ad #[ai,4,cG,aq op_catT (pv 4) (aF %[aj f9 hr ⋯ rfl %[2|aP]|aP])]) (ad (aI (ag mO (pv 3) ao (ax _)) bJ az)))))))))
  (aa (aW (bK (pv 2) T.cl M.mF M.gF hr1 M.bF .nil aZ))
  (ad (am (pv 4)))))))),?_⟩
 erw[0,0,λg dx nx ndx nex=>?_];let s3:Same H (upd (upd H dx (.own g)) g (.ins C dx [])):=λb o e=>by
  rw[aB (aQ e nx),aB (aQ e ndx)];exact e
 erw[g,dx,r.str,k,1,aJ,λH1 S1 B1=>%[1|6]];let N1:Same H H1:=λb o e=>B1 b o (aQ e nx) (s3 b o e)
 let tl:r.str.length<=1000:=zR0 (Hr.str_len ok) ⋯;let hc:=r.codes;let hlen:r.str.length=r.wd.length+r.rest.length:=by
  have:=congrArg List.length hc
  rw[ng,zK0,dJ]at this;exact this
 let hd0:r.str.cps.toList.drop 0=cd r.wd++r.rest:=by rw[jH0];exact hc
 let%[dx1,fs1,hs1|sf1]:=id S1;erw[0,g,dx1,fs1,1,hs1,sf1.no4,g,r.str,(0),(0),cd r.wd,r.rest,1,S1,tl,zU0 _,hd0,r.wd_ok,r.rest_ok,λH2 S2 B2=>?_];rw[show stl (cd r.wd)=r.wd from lD _];let hd1:=cv hd0;rw[dJ]at S2 hd1;let N2:Same H H2:=λb o e=>B2 b o (aQ e nx) (N1 b o e)
 erw[0,y1S,λa ha=>?_];let Ga:=zC0 ha (.tup [.str r.wd]);let ea:upd H2 a (.tup [.str r.wd]) a=some (.tup [.str r.wd]):=aJ;let S3:=S2.same Ga;generalize upd H2 a (.tup [.str r.wd])=H3 at Ga ea S3;let N3:=N2.trans Ga;let isF:∀{x y:Str},x≠y->¬ V.str x=V.str y:=λh=>neStr h
 cases r with
 | fin=>
   erw[0,1,0,6];refine aD (isF (x:="end") ⋯) ?_;erw[0,1,0,6];refine aD (isF (x:="end") ⋯) ?_;erw[0,1,0,6];refine aD (isF (x:="end") ⋯) ?_;erw[0,1,0,6];refine aD (isF (x:="end") ⋯) ?_;erw[0,1,0,6];refine iteNT rfl ?_;let%[dx3,fs3,hs3|sf3]:=id S3;let el:0+(Hr.fin).wd.length=(Hr.fin).str.length:=by rw[hlen];show 0+_=_+0;omega
   rw[el]at S3;erw[0,g,dx3,fs3,1,hs3,sf3.no5,g,_,0,S3,tl,6];erw[0,q _ H3 (.fin ea) N3]
 | go n=>
   erw[0,1,0,6];refine aD (isF (x:="go") ⋯) ?_;erw[0,1,0,6];refine aD (isF (x:="go") ⋯) ?_;erw[0,1,0,6];refine aD (isF (x:="go") ⋯) ?_;erw[0,1,0,6];refine aV rfl ?_;let hrl:(Hr.go n).rest.length=1+(cg n).length:=by
    show([32]++cd (cg n)).length=_;rw[zK0,dJ];rfl
   erw[0,0,g,_,_,_,n,[],1,S3,tl,3,by rw[hd1];show [32]++cd (cg n)=[32]++(cd (cg n)++[]);rw[qM1],.inl rfl,ok.1,ok.2,λH4 S4 B4=>?_];let ea4:=de S3 B4 _ _ ea;erw[y1S,λb hb=>?_];let Gb:=zC0 hb (.tup [.int n]);erw[a,b,2,zD0 (Gb _ _ ea4),zD0 aJ,by simp,y2S,λz=>(by cases z),λ_ p hp=>?_];let Gp:=zC0 hp (.tup ([V.str (Hr.go n).wd]++[V.int n]));let S5:=(S4.same Gb).same Gp;let ep:upd (upd H4 b (.tup [.int n])) p (.tup ([V.str (Hr.go n).wd]++[V.int n])) p=some (.tup [.str "go",.int n]):=aJ;let N5:=Gb.trans Gp;generalize upd (upd H4 b (.tup [.int n])) p (.tup ([V.str (Hr.go n).wd]++[V.int n]))=H5 at S5 ep N5;rw[show 0+(Hr.go n).wd.length+1+(cg n).length=(Hr.go n).str.length by omega]at S5;let%[dx5,fs5,hs5|sf5]:=id S5;erw[0,g,dx5,fs5,1,hs5,sf5.no5,g,_,0,S5,tl,6];erw[0,q _ H5 (.go ep) λc o e=>N5 _ _ (B4 c o (aQ e nx) (N3 c o e))]
 | say t=>
   erw[0,1,0,6];refine aD (isF (x:="say") ⋯) ?_;erw[0,1,0,6];refine aV rfl ?_;let hrl:(Hr.say t).rest.length=1+t.txt.length:=by
    show([32]++t.txt).length=_;rw[zK0];rfl
   let ok':t.fit 20:=ok;erw[0,0,g,(1),_,_,_,t,[],1,S3,tl,3,by rw[hd1];show [32]++t.txt=[32]++(t.txt++[]);rw[qM1],.inl rfl,ok'.1,ok'.2.2,by have:=ok'.2.2;omega,by have:=ok'.2.1;omega,λv H4 T4 S4 B4=>?_];let ea4:=de S3 B4 _ _ ea;erw[y1S,λb hb=>?_];let Gb:=zC0 hb (.tup [v]);erw[a,b,2,zD0 (Gb _ _ ea4),zD0 aJ,by simp,y2S,λz=>(by cases z),λ_ p hp=>?_];let Gp:=zC0 hp (.tup ([V.str (Hr.say t).wd]++[v]));let S5:=(S4.same Gb).same Gp;let ep:upd (upd H4 b (.tup [v])) p (.tup ([V.str (Hr.say t).wd]++[v])) p=some (.tup [.str "say",v]):=aJ;let N5:=Gb.trans Gp;generalize upd (upd H4 b (.tup [v])) p (.tup ([V.str (Hr.say t).wd]++[v]))=H5 at S5 ep N5;rw[show 0+(Hr.say t).wd.length+1+t.txt.length=(Hr.say t).str.length by omega]at S5;let%[dx5,fs5,hs5|sf5]:=id S5;erw[0,g,dx5,fs5,1,hs5,sf5.no5,g,_,0,S5,tl,6];erw[0,q _ H5 (.say ep (T4.mono (aY N5))) λc o e=>N5 _ _ (B4 c o (aQ e nx) (N3 c o e))]
 | iff t n=>
   erw[0,1,0,6];refine aD (isF (x:="if") ⋯) ?_;erw[0,1,0,6];refine aD (isF (x:="if") ⋯) ?_;erw[0,1,0,6];refine aV rfl ?_;let hrl:(Hr.iff t n).rest.length=1+(t.txt.length+(1+(cg n).length)):=by
    show([32]++(t.txt++([32]++cd (cg n)))).length=_;simp only[zK0,zP0,zL1,dJ]
   erw[ok',n0,n1]at ok;let hd2:(Hr.iff t n).str.cps.toList.drop (0+(Hr.iff t n).wd.length)=[32]++(t.txt++([32]++(cd (cg n)++[]))):=by rw[hd1,qM1];rfl
   let hd3:=cv (cv hd2);simp only[zP0,zL1]at hd3;erw[0,0,g,(1),_,_,_,t,0,S3,tl,3,hd2,.inr %[(32),0|.inl rfl],ok'.1,ok'.2.2,by have:=ok'.2.2;omega,by have:=ok'.2.1;omega,λv H4 T4 S4 B4=>?_];let ea4:=de S3 B4 _ _ ea;erw[0,g,_,_,_,n,[],1,S4,tl,3,hd3,.inl rfl,n0,n1,λH5 S5 B5=>?_];let ea5:=de S4 B5 _ _ ea4;let T5:=T4.mono (de S4 B5);erw[y2S,λb hb=>?_];let Gb:=zC0 hb (.tup [v,.int n]);erw[a,b,2,zD0 (Gb _ _ ea5),zD0 aJ,by simp,y3S,λz=>(by cases z),λ_ p hp=>?_];let Gp:=zC0 hp (.tup ([V.str (Hr.iff t n).wd]++[v,V.int n]));let S6:=(S5.same Gb).same Gp;let ep:upd (upd H5 b (.tup [v,.int n])) p (.tup ([V.str (Hr.iff t n).wd]++[v,V.int n])) p=some (.tup [.str "if",v,.int n]):=aJ;let N6:=Gb.trans Gp;generalize upd (upd H5 b (.tup [v,.int n])) p (.tup ([V.str (Hr.iff t n).wd]++[v,V.int n]))=H6 at S6 ep N6;rw[show 0+(Hr.iff t n).wd.length+1+t.txt.length+1+(cg n).length=(Hr.iff t n).str.length by omega]at S6;let%[dx6,fs6,hs6|sf6]:=id S6;erw[0,g,dx6,fs6,1,hs6,sf6.no5,g,_,0,S6,tl,6];erw[0,q _ H6 (.iff ep (T5.mono (aY N6))) λc o e=>N6 _ _ (B5 c o (aQ e nx) (B4 c o (aQ e nx) (N3 c o e)))]
 | set x t=>
   erw[0,1,0,6];refine aV rfl ?_;let hrl:(Hr.set x t).rest.length=1+(x.length+(1+t.txt.length)):=by
    show([32]++(cd x++([32]++t.txt))).length=_;simp only[zK0,zP0,zL1,dJ]
   erw[okx,ok']at ok;let hd2:(Hr.set x t).str.cps.toList.drop (0+(Hr.set x t).wd.length)=[32]++(cd x++([32]++(t.txt++[]))):=by rw[hd1,qM1];rfl
   let hd3:=cv (cv hd2);simp only[zP0,zL1,dJ]at hd3;erw[0,0,g,_,_,_,x,0,S3,tl,3,hd2,.inr %[(32),0|.inl rfl],okx,λH4 S4 B4=>?_];let ea4:=de S3 B4 _ _ ea;erw[0,g,(1),_,_,_,t,[],1,S4,tl,3,hd3,.inl rfl,ok'.1,ok'.2.2,by have:=ok'.2.2;omega,by have:=ok'.2.1;omega,λv H5 T5 S5 B5=>?_];let ea5:=de S4 B5 _ _ ea4;erw[y2S,λb hb=>?_];let Gb:=zC0 hb (.tup [.str x,v]);erw[a,b,2,zD0 (Gb _ _ ea5),zD0 aJ,by simp,y3S,λz=>(by cases z),λ_ p hp=>?_];let Gp:=zC0 hp (.tup ([V.str (Hr.set x t).wd]++[.str x,v]));let S6:=(S5.same Gb).same Gp;let ep:upd (upd H5 b (.tup [.str x,v])) p (.tup ([V.str (Hr.set x t).wd]++[.str x,v])) p=some (.tup [.str "set",.str x,v]):=aJ;let N6:=Gb.trans Gp;generalize upd (upd H5 b (.tup [.str x,v])) p (.tup ([V.str (Hr.set x t).wd]++[.str x,v]))=H6 at S6 ep N6;rw[show 0+(Hr.set x t).wd.length+1+x.length+1+t.txt.length=(Hr.set x t).str.length by omega]at S6;let%[dx6,fs6,hs6|sf6]:=id S6;erw[0,g,dx6,fs6,1,hs6,sf6.no5,g,_,0,S6,tl,6];erw[0,q _ H6 (.set ep (T5.mono (aY N6))) λc o e=>N6 _ _ (B5 c o (aQ e nx) (B4 c o (aQ e nx) (N3 c o e)))]
def Tm.txt_hi:∀t:Tm,t.ok->∀c∈t.txt,32<=c
 | .num n,h,c,hc=>by have:=kX h.1 c hc;omega
 | .box x,h,c,hc=>by have:=h.1 c hc;omega
 | .plain w,h,c,hc=>by have:=(mK w h).2.2.1 c hc;omega
 | .ask w a,⟨h,h1⟩,c,hc=>by
   let hc':c∈[40]++(cd w++([32]++(a.txt++[41]))):=hc;simp only[List.mem_append,jA0]at hc';rcases hc' with e | e | e | e | e
   . omega
   . have:=(zm w h).2.2.1 c e;omega
   . omega
   . exact Tm.txt_hi a h1 c e
   . omega
 | .op o a b,⟨h,h1,h2⟩,c,hc=>by
   let hc':c∈[40]++(cd o++([32]++(a.txt++([32]++(b.txt++[41]))))):=hc;simp only[List.mem_append,jA0]at hc';rcases hc' with e | e | e | e | e | e | e
   . omega
   . have:=(uf o h).2.1 c e;omega
   . omega
   . exact Tm.txt_hi a h1 c e
   . omega
   . exact Tm.txt_hi b h2 c e
   . omega
def IL{r:Hr}(ok:r.ok 20):∀c∈cd r.str,32<=c:=by
 intro c hc;let hc1:c∈cd r.wd++r.rest:=by rw[←r.codes];exact hc
 let nm:∀{n:Int},0<=n->c∈cd (cg n)->32<=c:=λh0 h=>by have:=kX h0 c h;omega
 rcases qD0 hc1 with h | h
 . have:=r.wd_ok
   let h5:∀x∈(Ws:List Str),c∈cd x->32<=c:=λx hx hc=>by have:=lg x hx c hc;omega
   cases r with
   | fin=>exact h5 "end" ⋯ h
   | go n=>exact h5 "go" ⋯ h
   | iff t n=>exact h5 "if" ⋯ h
   | set x t=>exact h5 "set" ⋯ h
   | say t=>exact h5 "say" ⋯ h
 . cases r with
   | fin=>cases h
   | go n=>
     let h':c∈[32]++cd (cg n):=h;simp only[List.mem_append,jA0]at h';rcases h' with e | e
     . omega
     . exact nm ok.1 e
   | iff t n=>
     let h':c∈[32]++(t.txt++([32]++cd (cg n))):=h;simp only[List.mem_append,jA0]at h';rcases h' with e | e | e | e
     . omega
     . exact Tm.txt_hi t ok.1.1 c e
     . omega
     . exact nm ok.2.1 e
   | set x t=>
     let h':c∈[32]++(cd x++([32]++t.txt)):=h;simp only[List.mem_append,jA0]at h';rcases h' with e | e | e | e
     . omega
     . have:=ok.1.1 c e;omega
     . omega
     . exact Tm.txt_hi t ok.2.1 c e
   | say t=>
     let h':c∈[32]++t.txt:=h;simp only[List.mem_append,jA0]at h';rcases h' with e | e
     . omega
     . exact Tm.txt_hi t (show t.fit 20 from ok).1 c e
def sk  (g:sF rs) (h0:rs≠[]):Txt.split (ny rs) ("\n":Str)=rs.map Hr.str:=by
 unfold ny;rw[nl_eq,Hl];refine xI (c:=10) (λz=>h0 (List.map_eq_nil_iff.mp z)) λp hp hc=>?_
 let%[r,hr|1]:=List.mem_map.mp hp
 have:=IL (g.2 r hr) 10 hc
 omega
def BP  (g:sF rs) (h0:rs≠[]):ny rs≠"":=λe=>by
 let h1:=sk g h0;rw[e,show Txt.split ("":Str) ("\n":Str)=[("":Str)]from by decide]at h1;cases rs with
 | nil=>exact h0 rfl
 | cons r l=>
   let h2:=(List.cons.inj h1).1;let h3:=r.codes;rw[←h2]at h3;let h4:cd r.wd=[]:=(List.append_eq_nil_iff.mp h3.symm).1;let h5:∀x∈(Ws:List Str),cd x≠[]:=by decide
   cases r with
   | fin=>exact h5 "end" ⋯ h4
   | go n=>exact h5 "go" ⋯ h4
   | iff t n=>exact h5 "if" ⋯ h4
   | set x t=>exact h5 "set" ⋯ h4
   | say t=>exact h5 "say" ⋯ h4
instance spReadH:∀rs:List Hr,vs=[.str (ny rs)]->sF rs->(∀(a:Addr)(tv:List V)(H':Hp),H' a=some (.tup tv)->RowsAt H' tv rs->Same H H'->Q (.ref a) H'):=1
def gg:FnScope ["text","helper","number","row"] WF (ah iL):=%[|5]
def rK   (F:Fun K "read_helper" "read_helper" iL f fd) (B:Bl mg) (X:Tx K mg) (jk:#[20,"helper_row",["text","number"],spHRw]):#[21,f,fd,WF,spReadH]:=by
 exists gg
 erw[rs,1,g,q]at h;erw[tm,gm]at X.rows;refine⟨_,(aa (aI (ag aR (pv 0) ao (ax _)) (ad (am (aF aP))) az)
  (aa #[ai,1,gg,dL aP]
  (aa (cF zF1 rfl (Gv rfl B.enumerate (eC jI0 PySem.F.slot_str_split PySem.F.type_str_split Et (pv 0) %[ao|aP])) (rC rfl (eg (bc (i:=2) gg.nd rfl (.inl rfl)) (eg (bc (i:=3) gg.nd rfl (.inl rfl)) mL))) (aa (aI (ag aR (pv 2) (cX (v:=.int 60) rfl gm ⟨_,rfl⟩) (ax _)) bJ az)
   (ad (aW (eC zE1 zH1 zI1 ca (pv 1) %[aj jk hr ⋯ rfl %[3,2|aP]|aP])))))
  (ad (am (bt bb rfl B.tuple bu %[1|aP])))))),?_⟩
 let tl:=ER g;let r60:=g.1;erw[0,1,0,6]
 by_cases c0:rs=[]
 . subst c0;refine aV (by show V.str (ny [])=V.str "";decide) ?_;erw[zU0 _,λt ht=>?_];exact q t [] _ aJ RowsAt.nil (zC0 ht _)
 refine aD (λz=>BP g c0 (CO z)) ?_;erw[zU0 _,λL hL=>?_];let GL:=zC0 hL (.lst []);let gL:upd H L (.lst []) L=some (.lst []):=aJ;generalize upd H L (.lst [])=H1 at GL gL;let ts:=sk g c0;erw[0,1,2,⋯,3,by rw[ts,zF0];omega,λa ha=>?_];rw[ts];let Ga:=zC0 ha (.lst ((rs.map Hr.str).map V.str));let ga:upd H1 a (.lst ((rs.map Hr.str).map V.str)) a=some (.lst ((rs.map Hr.str).map V.str)):=aJ;let aL:a≠L:=λz=>by rw[z,gL]at ha;cases ha
 generalize upd H1 a (.lst ((rs.map Hr.str).map V.str))=H2 at Ga ga;let gL2:=Ga _ _ gL;refine⟨a,rfl,%[_|zH0 ga],EV (K:=K) (xs:=(rs.map Hr.str).map V.str) (λi σ H'=>∃(x2 x3:Option V)(tv:List V),σ=[some (.str (ny rs)),some (.ref L),x2,x3]/\H' L=some (.lst tv)/\RowsAt H' tv (rs.take i)/\SameBut L H2 H')
  %[_,_,[],1,gL2,RowsAt.nil|SameBut.refl _ _] (λi σ H' _ NV=>by erw[_,_,_,_,_,_,h]at NV;exact zH0 (h _ _ aL ga)) ?_ ?_⟩
 . rintro i z σ H3 t hz ⟨x2,x3,tv,rfl,hL3,R3,S3⟩ ht;let hi:=(zY0 hz).1;rw[zF0,zF0]at hi;rw[zZ0,zZ0,Option.map_map]at hz;let%[r,hr'|1]:=qT0 hz;let Gt:=zC0 ht (.tup [.int (i:Int),.str r.str]);let hL4:=Gt _ _ hL3;let vl:=R3.1;rw[qJ0]at vl;erw[t,0,zD0 aJ,1,_,0,2,6];erw[0,1,0,6];refine aD (λz=>by have:=V.int.inj z;omega) ?_;erw[0,.inl %[1,_|zH0 hL4],0,0,r,0,g.2 r (qL0 hr'),λv H4 ra S4=>?_];let S34:Same H3 H4:=Gt.trans S4;let hL5:=S34 _ _ hL3;let kp:bL H4 (upd H4 L (.lst (tv++[v]))):=EG hL5;erw[L,2,hL5,aN #[0],6];erw[_,_,tv++[v],1,aJ,6,6]
   . rw[qI0,hr'];exact((R3.mono (aY S34)).mono kp).snoc (ra.mono kp)
   . exact S3.trans ((zJ0 S34).trans (SameBut.upd _))
 . rintro σ H3 ⟨x2,x3,tv,rfl,hL3,R3,S3⟩;rw[zF0,zF0,qF0]at R3;erw[0,L,0,.inl %[zH0 hL3|λt ht=>?_]];let S03:Same H H3:=λb o e=>S3 b o (aQ e hL) (Ga _ _ (GL _ _ e))
   exact q t tv _ aJ (R3.mono (aY (zC0 ht _))) (S03.trans (zC0 ht _))
instance spTerm(n:Nat):∀(f b:Addr)(bs:List Str)(room deep:Int),vs=[.ref f,.ref b,.int room,.int deep]->FeedAt H f->H b=some (.lst (bs.map V.str))->b≠f->1<=bs.length->bs.length<=100->1<=room->room<=100->1<=deep->deep<=(n:Int)->(∀(v:V)(t:Tm)(H':Hp),TmAt H' v t->t.good->(t.depth:Int)<=deep->FeedAt H' f->SameBut f H H'->Q v H'):=1
def i3:FnScope ["_law_feed_here","_law_boxes","_law_room","_law_deep","_law_form","_law_plain","_law_more","_law_one"] WZ (ah mx):=%[|5]
def Gf:∀c∈(("+-*/=<":Str)).cps.toList,(%[|#[c]]:Str)∈signW:=by decide
def Da:(("+-*/=<":Str)).cps.toList.length=6:=by decide
def at1(x y:V)(xs:List V):atI (x::y::xs) 1=some y:=cx (j:=1) rfl
instance tLeaf(Dn:Ends)(σ:St)(H:Hp):∀(x2 x3 x5 x6 x7:Option V)(f b:Addr)(bs:List Str)(fm:Int),σ=[some (.ref f),some (.ref b),x2,x3,some (.int fm),x5,x6,x7]->FeedAt H f->H b=some (.lst (bs.map V.str))->b≠f->1<=bs.length->bs.length<=100->(∀(v:V)(t:Tm)(H':Hp),TmAt H' v t->t.good->t.depth=1->FeedAt H' f->SameBut f H H'->Dn.rt v H'):=0
instance tAskT(n:Nat)(Dn:Ends)(σ:St)(H:Hp):∀(x4 x5 x6 x7:Option V)(f b:Addr)(bs:List Str)(room deep:Int),σ=[some (.ref f),some (.ref b),some (.int room),some (.int deep),x4,x5,x6,x7]->FeedAt H f->H b=some (.lst (bs.map V.str))->b≠f->1<=bs.length->bs.length<=100->2<=room->room<=100->2<=deep->deep<=(n:Int)+1->(∀(v:V)(t:Tm)(H':Hp),TmAt H' v t->t.good->(t.depth:Int)<=deep->FeedAt H' f->SameBut f H H'->Dn.rt v H'):=0
structure PSW(X:Cx)(st:List Stmt)(t:TS):Prop where
 out:PSs X st t
def IN{pos:Pos}(hc:PT X c tc)(ha:PSW X a t)(hb:PSs X b u):PS X (.If c a b pos) (tIfS tc t u):=aI hc ha.out hb
def EC{X:Cx}{i:Nat}{x:Str}{pos' pos p:Pos}{t':TS}(hN:X.N.Nodup)(hi:X.N[i]?=some x)(hx:Loc X.env.scope x)(h1:PE X e1 t1)(h2:PE X e2 t2)(h3:PE X e3 t3)(h4:PE X e4 t4)(h5:PE X e5 t5)(hr:PSs X rest u)
 (hw:∀D σ H,t' D σ H->tSeq (IG (tLst (tf t1 (tf t2 (tf t3 (tf t4 (tf t5 CD)))))) (wQ i)) u D σ H)
 (s1:starEach [e1,e2,e3,e4,e5] X.env=(false,eval e1 X.env)::starEach [e2,e3,e4,e5] X.env:=by rfl) (s2:starEach [e2,e3,e4,e5] X.env=(false,eval e2 X.env)::starEach [e3,e4,e5] X.env:=by rfl) (s3:starEach [e3,e4,e5] X.env=(false,eval e3 X.env)::starEach [e4,e5] X.env:=by rfl) (s4:starEach [e4,e5] X.env=(false,eval e4 X.env)::starEach [e5] X.env:=by rfl) (s5:starEach [e5] X.env=(false,eval e5 X.env)::starEach [] X.env:=by rfl)
 (hf:X.fn x=true∨X.env.scope.names.lookup x=some .local:=by first | exact .inl rfl | exact .inr rfl):PSW X (.Assign [.Name x pos'] (.List [e1,e2,e3,e4,e5] p) pos::rest) t':=
 %[|gl (aa (ai hN hi hx (dL (af h1 (af h2 (af h3 (af h4 (af h5 aP s5) s4) s3) s2) s1)) rfl hf) hr) hw]
def FQ {n:Nat}   (F:Fun K "_law_term" "_law_term" mx fA fd) (B:Bl mg) (aX:#[1,"_law_take",WD,spTake]) (fo:#[n+2,"_law_term",WZ,spTerm n]):#[n+3,fA,fd,WZ,spTerm (n+1)]:=by
 exists i3
 erw[f,b,bs,room,deep,1,F0,hb,nb,b1,b2,r1,r2,d1,d2,q]at h;let hp12:(10:Int) ^ (12:Int).toNat=1000000000000:=by decide
 refine⟨_,(aa #[ai,4,i3,aj aX hr #[0] rfl %[0,ae|aP]]
  (aa (IN (PW.pt (ii (ag dN (pv 2) ae (ax _)) (ii (ag dN (pv 3) ae (ax _)) (gP (ag dN (pv 4) ae (ax _)))))) (EC (t':=tLeaf) (i:=5) i3.nd rfl (.inl rfl) (aF %[ao|aP]) (aF %[ao|aP]) (aF %[ao|aP]) (aF %[ao,aj aX hr #[0] rfl %[0,ae|aP]|aP]) (aF %[ao,aj aX hr #[0] rfl %[0,aq DO ae ae|aP]|aP])
   (aa (aI (ag aR (pv 4) ae (ax _)) (ad (am (aF %[ao,aM ix_list (pv 1) (aj aX hr #[0] rfl %[0,aG (x:="len") aE rfl B.len zC1 %[1|aP]|aP]) #[1]|aP]))) az)
   (ad (am (aM ix_list (pv 5) (aj aX hr #[0] rfl %[0,ae|aP]) #[1])))) (by
    rintro Dn σ H ⟨x2,x3,x5,x6,x7,f,b,bs,fm,rfl,F0,hb,nb,b1,b2,q⟩;erw[y1S,λp1 hp1=>%[y1S|λp2 hp2=>%[y1S|λp3 hp3=>?_]]];let g1:=zC0 hp1 (.tup [.str "round"]);let g2:=zC0 hp2 (.tup [.str "due"]);let g3:=zC0 hp3 (.tup [.str "asked"]);let e1:upd (upd (upd H p1 (.tup [.str "round"])) p2 (.tup [.str "due"])) p3 (.tup [.str "asked"]) p1=some (.tup [.str "round"]):=g3 _ _ (g2 _ _ aJ);let e2:upd (upd (upd H p1 (.tup [.str "round"])) p2 (.tup [.str "due"])) p3 (.tup [.str "asked"]) p2=some (.tup [.str "due"]):=g3 _ _ aJ;let e3:upd (upd (upd H p1 (.tup [.str "round"])) p2 (.tup [.str "due"])) p3 (.tup [.str "asked"]) p3=some (.tup [.str "asked"]):=aJ;let S3:=g1.trans (g2.trans g3);generalize upd (upd (upd H p1 (.tup [.str "round"])) p2 (.tup [.str "due"])) p3 (.tup [.str "asked"])=H3 at e1 e2 e3 S3;erw[0,f,(5),1,F0.same S3,4,4,λw1 H4 _ _ F4 B4=>%[y2S|λp4 hp4=>?_]];let k4:=bj (F0.same S3) B4;let g4:=zC0 hp4 (.tup [.str "num",.int w1]);let e4:upd H4 p4 (.tup [.str "num",.int w1]) p4=some (.tup [.str "num",.int w1]):=aJ;generalize upd H4 p4 (.tup [.str "num",.int w1])=H5 at g4 e4;erw[0,2,%[4,4|4],f,0,F4.same g4,(by show(0:Int)<10 ^ (12:Int).toNat;rw[hp12];decide),(by show(10:Int) ^ (12:Int).toNat<2 ^ 63;rw[hp12];decide),λw2 H6 _ _ F6 B6=>%[y2S|λp5 hp5=>%[y5S|λL hL=>?_]]];let k6:=bj (F4.same g4) B6;let g5:=zC0 hp5 (.tup [.str "num",.int w2]);let g6:=zC0 hL (.lst [.ref p1,.ref p2,.ref p3,.ref p4,.ref p5]);let e5:upd (upd H6 p5 (.tup [.str "num",.int w2])) L (.lst [.ref p1,.ref p2,.ref p3,.ref p4,.ref p5]) p5=some (.tup [.str "num",.int w2]):=g6 _ _ aJ;let eL:upd (upd H6 p5 (.tup [.str "num",.int w2])) L (.lst [.ref p1,.ref p2,.ref p3,.ref p4,.ref p5]) L=some (.lst [.ref p1,.ref p2,.ref p3,.ref p4,.ref p5]):=aJ;let F7:=F6.same (g5.trans g6);let S7:SameBut f H (upd (upd H6 p5 (.tup [.str "num",.int w2])) L (.lst [.ref p1,.ref p2,.ref p3,.ref p4,.ref p5])):=(zJ0 S3).trans (B4.trans ((zJ0 g4).trans (B6.trans (zJ0 (g5.trans g6)))));let Lf:L≠f:=(F6.same g5).ne hL;let J:bL H5 (upd (upd H6 p5 (.tup [.str "num",.int w2])) L (.lst [.ref p1,.ref p2,.ref p3,.ref p4,.ref p5])):=λa xs e=>(g5.trans g6) _ _ (k6 _ _ e)
    let J3:bL H3 (upd (upd H6 p5 (.tup [.str "num",.int w2])) L (.lst [.ref p1,.ref p2,.ref p3,.ref p4,.ref p5])):=λa xs e=>J _ _ (g4 _ _ (k4 _ _ e))
    let e1':=J3 _ _ e1;let e2':=J3 _ _ e2;let e3':=J3 _ _ e3;let e4':=J _ _ e4;generalize upd (upd H6 p5 (.tup [.str "num",.int w2])) L (.lst [.ref p1,.ref p2,.ref p3,.ref p4,.ref p5])=H7 at e1' e2' e3' e4' e5 eL F7 S7;let hb7:=S7 _ _ nb hb;clear J J3 e1 e2 e3 e4 k4 k6;erw[0,1,0,6]
    by_cases c:fm=3
    . refine aV (congrArg V.int c) ?_;let bl:(bs.map V.str).length=bs.length:=zF0 _;erw[0,0,0,b,0,.inl (zH0 hb7),f,0,F7,3,3,λd H8 d0 d1 F8 B8=>?_];let%[v,hv|vm]:=oi (l:=bs.map V.str) (i:=d) d0 d1;let%[x,hx|1]:=List.mem_map.mp vm;erw[b,_,2,zH0 (B8 _ _ nb hb7),hv,y2S,λp8 hp8=>?_];let g8:=zC0 hp8 (.tup [.str "box",.str x]);exact q _ (.box x) _ (.box aJ) trivial rfl (F8.same g8) (S7.trans (B8.trans (zJ0 g8)))
    . refine aD (λz=>c (V.int.inj z)) ?_;erw[0,0,f,(5),1,F7,4,4,λd H8 d0 d1 F8 B8=>?_];let k8:=bj F7 B8;let hL8:=B8 _ _ Lf eL;let S8:=S7.trans B8
      have:d=0∨d=1∨d=2∨d=3∨d=4:=by omega
      rcases this with rfl | rfl | rfl | rfl | rfl
      . erw[L,_,(0),.ref p1,1,1,zH0 hL8,1,q _ (.plain "round") _ (.plain (k8 _ _ e1')) (show("round":Str)∈plainW by decide) rfl F8 S8]
      . erw[L,_,(1),.ref p2,1,1,zH0 hL8,1,q _ (.plain "due") _ (.plain (k8 _ _ e2')) (show("due":Str)∈plainW by decide) rfl F8 S8]
      . erw[L,_,(2),.ref p3,1,1,zH0 hL8,1,q _ (.plain "asked") _ (.plain (k8 _ _ e3')) (show("asked":Str)∈plainW by decide) rfl F8 S8]
      . erw[L,_,(3),.ref p4,1,1,zH0 hL8,1,q _ (.num w1) _ (.num (k8 _ _ e4')) trivial rfl F8 S8]
      . erw[L,_,(4),.ref p5,1,1,zH0 hL8,1,q _ (.num w2) _ (.num (k8 _ _ e5)) trivial rfl F8 S8])) az)
  (aa (aI (PW.pt (ii (ag dN (pv 4) ae (ax _)) (gP (ag dN (pv 2) ae (ax _))))) (gl (t':=tAskT n) (ad (am (aF %[aM ix_list (dL %[ao,ao|aP]) (aj aX hr #[0] rfl %[0,ae|aP]) #[1],aj fo hr (zG0 _) rfl %[0,1,aq bh (pv 2) ae,aq bh (pv 3) ae|aP]|aP]))) (by
   rintro Dn σ H ⟨x4,x5,x6,x7,f,b,bs,room,deep,rfl,F0,hb,nb,b1,b2,r1,r2,d1,d2,q⟩;erw[y2S,λL hL=>?_];let gL:=zC0 hL (.lst [.str "coin",.str "true"]);let eL:upd H L (.lst [.str "coin",.str "true"]) L=some (.lst [.str "coin",.str "true"]):=aJ;let Lf:L≠f:=F0.ne hL;generalize upd H L (.lst [.str "coin",.str "true"])=H1 at gL eL;erw[0,f,(2),1,F0.same gL,4,4,λd H2 d0 d1' F2 B2=>?_];let aw:∃aw:Str,aw∈askW/\atI [V.str "coin",.str "true"] d=some (.str aw):=by
    have:d=0∨d=1:=by omega
    rcases this with rfl | rfl
    . erw["coin",4,at0 ..]
    . erw["true",4,at1 ..]
   erw[aw,awm,haw]at aw;erw[L,_,2,zH0 (B2 _ _ Lf eL),haw,6];let hb2:=B2 _ _ nb (gL _ _ hb);refine⟨_,rfl,_,rfl,_,rfl,_,_,rfl,rfl,_,rfl,_,_,rfl,rfl,f,b,bs,room-1,deep-1,rfl,F2,hb2,nb,b1,b2,by omega,by omega,by omega,by omega,λv t H3 T3 ok3 dp3 F3 B3=>?_⟩;erw[y2S,λp hp=>?_];let gp:=zC0 hp (.tup [.str aw,v]);let ed:((Tm.ask aw t).depth:Int)=(t.depth:Int)+1:=by show((t.depth+1:Nat):Int)=_;omega
   exact q _ (.ask aw t) _ (.ask aJ (T3.mono (aY gp))) %[awm|ok3] #[0] (F3.same gp) ((zJ0 gL).trans (B2.trans (B3.trans (zJ0 gp)))))) az)
  (aa #[ai,6,i3,aq aS ae (aj aX hr #[0] rfl %[0,aq bh (pv 2) ae|aP])]
  (aa #[ai,7,i3,aj fo hr (zG0 _) rfl %[0,1,6,aq bh (pv 3) ae|aP]]
  (ad (am (aF %[ao,aM rX ao (aj aX hr #[0] rfl %[0,ae|aP]) #[1],7,aj fo hr (zG0 _) rfl %[0,1,aq bh (aq bh (pv 2) ae) (pv 6),aq bh (pv 3) ae|aP]|aP])))))))),?_⟩
 erw[0,f,(9),1,F0,4,4,λfm H1 m0 m9 F1 B1=>?_];let hb1:=B1 _ _ nb hb;let leaf:∀(v:V)(t:Tm)(H':Hp),TmAt H' v t->t.good->t.depth=1->FeedAt H' f->SameBut f H1 H'->Q v H':=λv t H' T g d FF BB=>q v t H' T g #[0] FF (B1.trans BB)
 erw[0,2,0,6]
 by_cases c1:room<2
 . exact aV c1 (eF %[_,_,_,_,_,f,b,bs,fm,1,F1,hb1,nb,b1,b2|leaf])
 refine aD c1 %[0,2,0|6]
 by_cases c2:deep<2
 . exact aV c2 (eF %[_,_,_,_,_,f,b,bs,fm,1,F1,hb1,nb,b1,b2|leaf])
 refine aD c2 %[0,2,0|6]
 by_cases c3:fm<4
 . exact aV c3 %[_,_,_,_,_,f,b,bs,fm,1,F1,hb1,nb,b1,b2|leaf]
 refine aD c3 ?_;let ask:∀(v:V)(t:Tm)(H':Hp),TmAt H' v t->t.good->(t.depth:Int)<=deep->FeedAt H' f->SameBut f H1 H'->Q v H':=λv t H' T g d FF BB=>q v t H' T g d FF (B1.trans BB)
 erw[0,2,0,6]
 by_cases c4:fm<6
 . exact aV c4 (eF %[_,_,_,_,f,b,bs,room,deep,1,F1,hb1,nb,b1,b2,3,r2,3,3|ask])
 refine aD c4 %[0,2,0|6]
 by_cases c5:room<3
 . exact aV c5 %[_,_,_,_,f,b,bs,room,deep,1,F1,hb1,nb,b1,b2,3,r2,3,3|ask]
 refine aD c5 ?_;erw[0,0,2,f,room-2,1,F1,3,3,λd3 H2 a0 a1 F2 B2=>?_];erw[2,6];let hb2:=B2 _ _ nb hb1;erw[0,0,0,0,2,f,b,bs,1+d3,deep-1,1,F2,hb2,nb,b1,b2,3,3,3,3,λv1 t1 H3 T1 ok1 dp1 F3 B3=>?_];let hb3:=B3 _ _ nb hb2;erw[0,f,(6),1,F3,4,4,λd4 H4 g0 g1 F4 B4=>?_];let%[c,hc|hm]:=oi (l:=(("+-*/=<":Str)).cps.toList) (i:=d4) g0 (by rw[Da];exact g1);let hb4:=B4 _ _ nb hb3;erw[_,2,cq ⋯,hc,0,6];erw[0,0,0,2,0,2,0,2,f,b,bs,room-1-(1+d3),deep-1,1,F4,hb4,nb,b1,b2,3,3,3,3,λv2 t2 H5 T2 ok2 dp2 F5 B5=>?_];let k35:bL H3 H5:=λa ys e=>bj F4 B5 _ _ (bj F3 B4 _ _ e)
 erw[y4S,λp hp=>?_];let gp:=zC0 hp (.tup [.str "op",.str %[|#[c]],v1,v2]);let ed:((Tm.op ⟨#[c]⟩ t1 t2).depth:Int)<=deep:=by
  show((max t1.depth t2.depth+1:Nat):Int)<=deep;omega
 exact q _ (.op %[|#[c]] t1 t2) _ (.op aJ (T1.mono λa xs e=>gp _ _ (k35 _ _ e)) (T2.mono (aY gp))) %[Gf c hm,ok1|ok2] ed (F5.same gp) (B1.trans (B2.trans (B3.trans (B4.trans (B5.trans (zJ0 gp))))))
def FP  :#[2,f,fd,WZ,spTerm 0]:=by
 let no:∀vs H Q E,¬ spTerm 0 vs H Q E:=λvs H Q E h=>by
  erw[_,_,_,_,_,_,_,_,_,_,_,_,_,h1,h2,_]at h;omega
 exists 3
def tJ   (F:Fun K "_law_term" "_law_term" mx f fd) (B:Bl mg) (m:mg "_law_term"=some (.ref f)) (aX:#[1,"_law_take",WD,spTake]) :
 ∀n:Nat,#[n+2,f,fd,WZ,spTerm n]
 | 0=>FP
 | n+1=>FQ F B aX (Cal.of F (tJ F B m aX n) m (λ_ _ _ _ _ _ us hl=>by let%[u0,u1,u2,u3|1]:=Hh hl;rfl))
def RowsAt.app(h:RowsAt H a r)(k:RowsAt H b s):RowsAt H (a++b) (r++s):=by
 erw[by rw[zK0,zK0,h.1,k.1],λi v x e1 e2=>?_]
 by_cases c:i<a.length
 . rw[zW1 c]at e1;rw[zW1 (by rw[←h.1];exact c)]at e2;exact h.2 i v x e1 e2
 . rw[zO1 #[0]]at e1;rw[zO1 (by rw[←h.1];omega),←h.1]at e2;exact k.2 _ v x e1 e2
def RowsAt.one(h:HrAt H v r):RowsAt H [v] [r]:=⟨rfl,λi u x e1 e2=>by
 cases i with
 | zero=>cases e1;cases e2;exact h
 | succ i=>cases e1⟩
instance spHelp:∀(f b:Addr)(bs:List Str)(most:Int),vs=[.ref f,.ref b,.int most]->FeedAt H f->H b=some (.lst (bs.map V.str))->b≠f->1<=bs.length->bs.length<=100->0<=most->most<=60->(∀(h:Addr)(rv:List V)(rows:List Hr)(H':Hp),H' h=some (.tup rv)->RowsAt H' rv rows->(∀r∈rows,r.good)->rv.length<=60->FeedAt H' f->SameBut f H H'->Q (.ref h) H'):=1
def gA:FnScope ["_law_feed_here","_law_boxes","_law_most","_law_rows","_law_many","_law_k","_law_form"] Wx (ah lN):=%[|5]
def wu   (F:Fun K "_law_helper" "_law_helper" lN f fd) (B:Bl mg) (aX:#[1,"_law_take",WD,spTake]) (fo:#[7,"_law_term",WZ,spTerm 5]):#[8,f,fd,Wx,spHelp]:=by
 exists gA
 erw[f,b,bs,most,1,F0,hb,nb,b1,b2,m0,m1,q]at h;refine⟨_,(aa #[ai,3,gA,dL aP]
  (aa #[ai,4,gA,aj aX hr ⋯ rfl %[0,aq aS (pv 2) ae|aP]]
  (aa (cF zF1 rfl (bZ rfl B.range %[4|aP]) (bc (i:=5) gA.nd rfl (.inl rfl)) (aa #[ai,6,gA,aj aX hr ⋯ rfl %[0,ae|aP]]
   (ad (aI (ag dN (pv 6) ae (ax _)) (ad (aW (eC zE1 zH1 zI1 ca (pv 3) %[aF %[ao,aj fo hr ⋯ rfl %[0,1,ae,ae|aP]|aP]|aP]))) (ad (aI (ag dN (pv 6) ae (ax _)) (ad (aW (eC zE1 zH1 zI1 ca (pv 3) %[aF %[ao,aM ix_list (pv 1) (aj aX hr ⋯ rfl %[0,aG aE rfl B.len zC1 %[1|aP]|aP]) #[1],aj fo hr ⋯ rfl %[0,1,ae,ae|aP]|aP]|aP]))) (ad (aI (ag aR (pv 6) ae (ax _)) (ad (aW (eC zE1 zH1 zI1 ca (pv 3) %[aF %[ao,aj fo hr ⋯ rfl %[0,1,ae,ae|aP],aj aX hr ⋯ rfl %[0,4|aP]|aP]|aP]))) (ad (aI (ag aR (pv 6) ae (ax _)) (ad (aW (eC zE1 zH1 zI1 ca (pv 3) %[aF %[ao,aj aX hr ⋯ rfl %[0,4|aP]|aP]|aP]))) (ad (aW (eC zE1 zH1 zI1 ca (pv 3) %[aF %[ao|aP]|aP])))))))))))))
  (ad (am (bt bb rfl B.tuple bu %[3|aP])))))),?_⟩
 erw[y0S,λL hL=>?_];let I0:=zC0 hL (.lst []);let Lf:L≠f:=F0.ne hL;let g0:upd H L (.lst []) L=some (.lst []):=aJ;generalize upd H L (.lst [])=H1 at I0 g0;erw[0,0,2,f,most+1,1,F0.same I0,3,3,λmn H2 n0 n1 F2 B2=>?_];let S2:SameBut f H H2:=(zJ0 I0).trans B2;refine⟨_,rfl,_,rfl,by omega,by omega,cW (λi σ H'=>∃(x5 x6:Option V)(vs:List V)(rows:List Hr),σ=[some (.ref f),some (.ref b),some (.int most),some (.ref L),some (.int mn),x5,x6]/\FeedAt H' f/\SameBut f H H'/\H' L=some (.lst vs)/\RowsAt H' vs rows/\(∀r∈rows,r.good)/\vs.length=i)
  %[_,_,[],[],1,F2,S2,B2 _ _ Lf g0,%[1|λi v r e=>by cases e],(λr hr=>by cases hr)|1] ?_ ?_⟩
 . rintro i σ H3 hi ⟨x5,x6,vs,rows,rfl,F3,S3,hL3,RW,rg,vl⟩;let hb3:=S3 _ _ nb hb;erw[0,f,(8),1,F3,4,4,λfm H4 f0 f1 F4 B4=>?_];let hb4:=B4 _ _ nb hb3;let hL4:=B4 _ _ Lf hL3;let S4:=S3.trans B4;let RW4:=RW.mono (bj F3 B4);let fin:∀(r:Hr)(v:V)(H5:Hp),HrAt H5 v r->r.good->FeedAt H5 f->SameBut f H4 H5->H5 L=some (.lst vs)/\vs.length<sizeLine/\∃(x5' x6':Option V)(vs':List V)(rows':List Hr),[some (V.ref f),some (.ref b),some (.int most),some (.ref L),some (.int mn),some (.int (0+(i:Int))),some (.int fm)]=[some (V.ref f),some (.ref b),some (.int most),some (.ref L),some (.int mn),x5',x6']/\FeedAt (upd H5 L (.lst (vs++[v]))) f/\SameBut f H (upd H5 L (.lst (vs++[v])))/\(upd H5 L (.lst (vs++[v]))) L=some (.lst vs')/\RowsAt (upd H5 L (.lst (vs++[v]))) vs' rows'/\(∀r∈rows',r.good)/\vs'.length=i+1:=by
    intro r v H5 R5 g5 F5 B5;let hL5:=B5 _ _ Lf hL4;let k6:bL H5 (upd H5 L (.lst (vs++[v]))):=dH hL5;erw[hL5,aN #[0],_,_,vs++[v],rows++[r],1,6,6,aJ,((RW4.mono (bj F4 B5)).mono k6).app (RowsAt.one (R5.mono k6)),λr' hr'=>?_,by rw[zK0,vl];rfl]
    . erw[x,t,e,rr]at F5;erw[x,t,by rw[aB Lf.symm];exact e,rr]
    . intro c o hc e;rw[aB (aQ e hL)];exact B5 _ _ hc (S4 _ _ hc e)
    . rcases qD0 hr' with h | h
      . exact rg r' h
      . rw[NW h];exact g5
   erw[0,2,0,6]
   by_cases c1:fm<3
   . refine aV c1 ?_;erw[0,.inl %[1,_|zH0 hL4],0,0,f,b,bs,(6),(5),1,F4,hb4,nb,b1,b2,4,4,4,4,λv t H5 T5 g5 d5 F5 B5=>%[y2S|λp hp=>?_]];let Ip:=zC0 hp (.tup [.str "say",v]);let%[hLx,sz|iv]:=fin (.say t) (.ref p) _ (.say aJ (T5.mono (aY Ip))) %[g5|3] (F5.same Ip) (B5.trans (zJ0 Ip));erw[L,2,hLx,sz,iv]
   refine aD c1 %[0,2,0|6]
   by_cases c2:fm<5
   . refine aV c2 ?_;let bl:(bs.map V.str).length=bs.length:=zF0 _;erw[0,.inl %[1,_|zH0 hL4],0,0,0,b,0,.inl (zH0 hb4),f,0,F4,3,3,λd H5 d0 d1 F5 B5=>?_];let%[v,hv|vm]:=oi (l:=bs.map V.str) (i:=d) d0 d1;let%[x,hx|1]:=List.mem_map.mp vm;let hb5:=B5 _ _ nb hb4;erw[b,_,2,zH0 hb5,hv,0,0,f,b,bs,(6),(5),1,F5,hb5,nb,b1,b2,4,4,4,4,λv t H6 T6 g6 d6 F6 B6=>%[y3S|λp hp=>?_]];let Ip:=zC0 hp (.tup [.str "set",.str x,v]);let%[hLx,sz|iv]:=fin (.set x t) (.ref p) _ (.set aJ (T6.mono (aY Ip))) %[g6|3] (F6.same Ip) (B5.trans (B6.trans (zJ0 Ip)));erw[L,2,hLx,sz,iv]
   refine aD c2 %[0,1,0|6]
   by_cases c3:fm=5
   . refine aV (congrArg V.int c3) ?_;erw[0,.inl %[1,_|zH0 hL4],0,0,f,b,bs,(5),(4),1,F4,hb4,nb,b1,b2,4,4,4,4,λv t H5 T5 g5 d5 F5 B5=>?_];erw[0,0,f,mn,1,F5,3,3,λd H6 d0 d1 F6 B6=>%[y3S|λp hp=>?_]];let Ip:=zC0 hp (.tup [.str "if",v,.int d]);let%[hLx,sz|iv]:=fin (.iff t d) (.ref p) _ (.iff aJ (T5.mono λa xs e=>Ip _ _ (bj F5 B6 _ _ e))) %[g5,3|d0] (F6.same Ip) (B5.trans (B6.trans (zJ0 Ip)));erw[L,2,hLx,sz,iv]
   refine aD (λz=>c3 (V.int.inj z)) %[0,1,0|6]
   by_cases c4:fm=6
   . refine aV (congrArg V.int c4) ?_;erw[0,.inl %[1,_|zH0 hL4],0,0,f,mn,1,F4,3,3,λd H6 d0 d1 F6 B6=>%[y2S|λp hp=>?_]];let Ip:=zC0 hp (.tup [.str "go",.int d]);let%[hLx,sz|iv]:=fin (.go d) (.ref p) _ (.go aJ) d0 (F6.same Ip) (B6.trans (zJ0 Ip));erw[L,2,hLx,sz,iv]
   refine aD (λz=>c4 (V.int.inj z)) ?_;erw[0,.inl %[1,_|zH0 hL4],y1S,λp hp=>?_];let Ip:=zC0 hp (.tup [.str "end"]);let%[hLx,sz|iv]:=fin .fin (.ref p) _ (.fin aJ) trivial (F4.same Ip) (zJ0 Ip);erw[L,2,hLx,sz,iv]
 . rintro σ H3 ⟨x5,x6,vs,rows,rfl,F3,S3,hL3,RW,rg,vl⟩;erw[0,L,0,.inl %[zH0 hL3|λh hh=>?_]];let Ih:=zC0 hh (.tup vs);exact q h vs rows _ aJ (RW.mono (aY Ih)) rg #[0] (F3.same Ih) (S3.trans (zJ0 Ih))
instance spLiar:∀(f:Addr)(x:Str),vs=[.ref f,.str x]->FeedAt H f->(∀(h:Addr)(rv:List V)(rows:List Hr)(H':Hp),H' h=some (.tup rv)->RowsAt H' rv rows->(∀r∈rows,r.good)->FeedAt H' f->SameBut f H H'->Q (.ref h) H'):=1
def cV:FnScope ["_law_feed_here","_law_box","_law_j","_law_wrong","_law_turn","_law_more","_law_coin","_law_told","_law_on"] Wy (ah qM):=%[|5]
instance tLi1(Dn:Ends)(σ:St)(H:Hp):∀(x4 x5 x6 x7 x8:Option V)(f:Addr)(x:Str)(vj vw:V)(tw:Tm),σ=[some (.ref f),some (.str x),some vj,some vw,x4,x5,x6,x7,x8]->FeedAt H f->TmAt H vj (.box x)->TmAt H vw tw->tw.good->tw.depth<=3->(∀(h:Addr)(rv:List V)(rows:List Hr)(H':Hp),H' h=some (.tup rv)->RowsAt H' rv rows->(∀r∈rows,r.good)->FeedAt H' f->SameBut f H H'->Dn.rt (.ref h) H'):=0
instance tLi2(Dn:Ends)(σ:St)(H:Hp):∀(x3 x4 x6 x7 x8:Option V)(f:Addr)(x:Str)(vj vm:V)(tm:Tm),σ=[some (.ref f),some (.str x),some vj,x3,x4,some vm,x6,x7,x8]->FeedAt H f->TmAt H vj (.box x)->TmAt H vm tm->tm.good->tm.depth<=4->(∀(h:Addr)(rv:List V)(rows:List Hr)(H':Hp),H' h=some (.tup rv)->RowsAt H' rv rows->(∀r∈rows,r.good)->FeedAt H' f->SameBut f H H'->Dn.rt (.ref h) H'):=0
def IZ{s:Str}{a b:Tm}{m:Nat}(h1:a.depth<=m)(h2:b.depth<=m):(Tm.op s a b).depth<=m+1:=by
 show max a.depth b.depth+1<=m+1;omega
def Bh   (F:Fun K "_law_liar" "_law_liar" qM f fd) (aX:#[1,"_law_take",WD,spTake]):#[2,f,fd,Wy,spLiar]:=by
 exists cV
 erw[f,x,1,F0,q]at h;refine⟨_,(aa #[ai,2,cV,aF %[ao,1|aP]]
  (aa #[ai,3,cV,aF %[ao,ao,2,aF %[ao,aj aX hr ⋯ rfl %[0,ae|aP]|aP]|aP]]
  (aa (aI (ag gQ (aj aX hr ⋯ rfl %[0,ae|aP]) ae (ax _)) (aa #[ai,4,cV,aF %[ao,ao,aF %[ao|aP],aF %[ao,aj aX hr ⋯ rfl %[0,ae|aP]|aP]|aP]]
   (ad #[ai,3,cV,aF %[ao,ao,3,4|aP]])) az)
  (gl (t':=tLi1) (aa #[ai,5,cV,aF %[ao,ao,3,aF %[ao,aq aS ae (aj aX hr ⋯ rfl %[0,ae|aP])|aP]|aP]]
  (aa (aI (ag aR (aj aX hr ⋯ rfl %[0,ae|aP]) ae (ax _)) (aa #[ai,6,cV,aF %[ao,aF %[ao,aq aS ae (aj aX hr ⋯ rfl %[0,ae|aP])|aP]|aP]]
   (aa #[ai,6,cV,aF %[ao,ao,6,aF %[ao,aj aX hr ⋯ rfl %[0,ae|aP]|aP]|aP]]
   (ad #[ai,5,cV,aF %[ao,ao,3,6|aP]]))) az)
  (gl (t':=tLi2) (aa #[ai,7,cV,aF %[ao,ao,aF %[ao,2|aP],5|aP]]
  (aa #[ai,8,cV,aF %[ao,ao,2,aF %[ao,ae|aP]|aP]]
  (ad (am (aF %[aF %[ao,1,aF %[ao,ae|aP]|aP],aF %[ao,7|aP],aF %[ao,1,8|aP],aF %[ao,ae|aP]|aP]))))) (by
   rintro Dn σ H ⟨x3,x4,x6,x7,x8,f,x,vj,vm,tm,rfl,F0,Tj,Tm,gm,dm,q⟩;let s2:2<=sizeLine:=by decide
   let s3:3<=sizeLine:=by decide
   let s4:4<=sizeLine:=by decide
   erw[0,s2,λp1 h1=>%[0,s4|λp2 h2=>?_]];let I1:=zC0 h1 (.tup [.str "true",vj]);let I2:=zC0 h2 (.tup [.str "op",.str "+",.ref p1,vm]);let T2:TmAt (upd (upd H p1 (.tup [.str "true",vj])) p2 (.tup [.str "op",.str "+",.ref p1,vm])) (.ref p2) (.op "+" (.ask "true" (.box x)) tm):=.op aJ (.ask (I2 _ _ aJ) (Tj.mono (aY (I1.trans I2)))) (Tm.mono (aY (I1.trans I2)));let J2:=I1.trans I2;generalize upd (upd H p1 (.tup [.str "true",vj])) p2 (.tup [.str "op",.str "+",.ref p1,vm])=H2 at T2 J2;erw[0,s2,λp3 h3=>%[s4|λp4 h4=>?_]];let I3:=zC0 h3 (.tup [.str "num",.int 1]);let I4:=zC0 h4 (.tup [.str "op",.str "+",vj,.ref p3]);let T4:TmAt (upd (upd H2 p3 (.tup [.str "num",.int 1])) p4 (.tup [.str "op",.str "+",vj,.ref p3])) (.ref p4) (.op "+" (.box x) (.num 1)):=.op aJ (Tj.mono (aY (J2.trans (I3.trans I4)))) (.num (I4 _ _ aJ));let J4:=I3.trans I4;generalize upd (upd H2 p3 (.tup [.str "num",.int 1])) p4 (.tup [.str "op",.str "+",vj,.ref p3])=H4 at T4 J4;erw[0,s2,λp5 h5=>%[s3|λp6 h6=>?_]];let I5:=zC0 h5 (.tup [.str "num",.int 0]);let I6:=zC0 h6 (.tup [.str "set",.str x,.ref p5]);let R6:HrAt (upd (upd H4 p5 (.tup [.str "num",.int 0])) p6 (.tup [.str "set",.str x,.ref p5])) (.ref p6) (.set x (.num 0)):=.set aJ (.num (I6 _ _ aJ));let J6:=I5.trans I6;generalize upd (upd H4 p5 (.tup [.str "num",.int 0])) p6 (.tup [.str "set",.str x,.ref p5])=H6 at R6 J6;erw[0,s2,λp7 h7=>%[0,0,s3|λp8 h8=>%[s2|λp9 h9=>%[s4|λp h10=>?_]]]];let I7:=zC0 h7 (.tup [.str "say",.ref p2]);let I8:=zC0 h8 (.tup [.str "set",.str x,.ref p4]);let I9:=zC0 h9 (.tup [.str "go",.int 1]);let I10:=zC0 h10 (.tup [.ref p6,.ref p7,.ref p8,.ref p9]);let J10:=I7.trans (I8.trans (I9.trans I10));let R7:HrAt (upd (upd (upd (upd H6 p7 (.tup [.str "say",.ref p2])) p8 (.tup [.str "set",.str x,.ref p4])) p9 (.tup [.str "go",.int 1])) p (.tup [.ref p6,.ref p7,.ref p8,.ref p9])) (.ref p7) (.say (.op "+" (.ask "true" (.box x)) tm)):=.say ((I8.trans (I9.trans I10)) _ _ aJ) (T2.mono (aY (J4.trans (J6.trans J10))));let R8:HrAt (upd (upd (upd (upd H6 p7 (.tup [.str "say",.ref p2])) p8 (.tup [.str "set",.str x,.ref p4])) p9 (.tup [.str "go",.int 1])) p (.tup [.ref p6,.ref p7,.ref p8,.ref p9])) (.ref p8) (.set x (.op "+" (.box x) (.num 1))):=.set ((I9.trans I10) _ _ aJ) (T4.mono (aY (J6.trans J10)));let R9:HrAt (upd (upd (upd (upd H6 p7 (.tup [.str "say",.ref p2])) p8 (.tup [.str "set",.str x,.ref p4])) p9 (.tup [.str "go",.int 1])) p (.tup [.ref p6,.ref p7,.ref p8,.ref p9])) (.ref p9) (.go 1):=.go (I10 _ _ aJ);let JJ:=J2.trans (J4.trans (J6.trans J10));let pl:("+":Str)∈signW:=by decide
   refine q p _ _ _ aJ ((((RowsAt.one (R6.mono (aY J10))).app (RowsAt.one R7)).app (RowsAt.one R8)).app (RowsAt.one R9)) (λr hr=>?_) (F0.same JJ) (zJ0 JJ);rcases qD0 hr with hr | hr
   . rcases qD0 hr with hr | hr
     . rcases qD0 hr with hr | hr
       . rw[NW hr];erw[trivial,(by show 1<=5;decide)]
       . rw[NW hr];erw[%[pl,%[4|trivial]|gm],IZ (m:=4) (by show 2<=4;decide) dm]
     . rw[NW hr];erw[%[pl,trivial|trivial],(by show 2<=5;decide)]
   . rw[NW hr];exact(by show(0:Int)<=1;decide))))) (by
   rintro Dn σ H ⟨x4,x5,x6,x7,x8,f,x,vj,vw,tw,rfl,F0,Tj,Tw,gw,dw,q⟩;let s2:2<=sizeLine:=by decide
   let s4:4<=sizeLine:=by decide
   let st:("*":Str)∈signW:=by decide
   let pl:("+":Str)∈signW:=by decide
   erw[0,0,f,(4),1,F0,4,4,λd1 H1 _ _ F1 B1=>%[2,s2|λp1 h1=>%[s4|λp2 h2=>?_]]];let k1:=bj F0 B1;let I1:=zC0 h1 (.tup [.str "num",.int (1+d1)]);let I2:=zC0 h2 (.tup [.str "op",.str "*",vw,.ref p1]);let J2:=I1.trans I2;let T2:TmAt (upd (upd H1 p1 (.tup [.str "num",.int (1+d1)])) p2 (.tup [.str "op",.str "*",vw,.ref p1])) (.ref p2) (.op "*" tw (.num (1+d1))):=.op aJ (Tw.mono λa xs e=>J2 _ _ (k1 _ _ e)) (.num (I2 _ _ aJ));generalize upd (upd H1 p1 (.tup [.str "num",.int (1+d1)])) p2 (.tup [.str "op",.str "*",vw,.ref p1])=H2 at T2 J2;let F2:=F1.same J2;erw[0,f,(3),1,F2,4,4,λd2 H3 _ _ F3 B3=>%[1,0|6]];let k3:=bj F2 B3;let S3:SameBut f H H3:=B1.trans ((zJ0 J2).trans B3);let kk:bL H H3:=λa xs e=>k3 _ _ (J2 _ _ (k1 _ _ e))
   by_cases c:d2=0
   . refine aV (congrArg V.int c) ?_;erw[0,f,(3),1,F3,4,4,λd3 H4 _ _ F4 B4=>%[2,s2|λp3 h3=>%[s2|λp4 h4=>?_]]];let k4:=bj F3 B4;let I3:=zC0 h3 (.tup [.str "num",.int (1+d3)]);let I4:=zC0 h4 (.tup [.str "coin",.ref p3]);let J4:=I3.trans I4;let T4:TmAt (upd (upd H4 p3 (.tup [.str "num",.int (1+d3)])) p4 (.tup [.str "coin",.ref p3])) (.ref p4) (.ask "coin" (.num (1+d3))):=.ask aJ (.num (I4 _ _ aJ));generalize upd (upd H4 p3 (.tup [.str "num",.int (1+d3)])) p4 (.tup [.str "coin",.ref p3])=H5 at T4 J4;let F5:=F4.same J4;erw[0,0,f,(3),1,F5,4,4,λd5 H6 _ _ F6 B6=>%[s2|λp5 h5=>%[s4|λp6 h6=>?_]]];let k6:=bj F5 B6;let I5:=zC0 h5 (.tup [.str "num",.int d5]);let I6:=zC0 h6 (.tup [.str "op",.str "+",.ref p4,.ref p5]);let J6:=I5.trans I6;let T6:TmAt (upd (upd H6 p5 (.tup [.str "num",.int d5])) p6 (.tup [.str "op",.str "+",.ref p4,.ref p5])) (.ref p6) (.op "+" (.ask "coin" (.num (1+d3))) (.num d5)):=.op aJ (T4.mono λa xs e=>J6 _ _ (k6 _ _ e)) (.num (I6 _ _ aJ));generalize upd (upd H6 p5 (.tup [.str "num",.int d5])) p6 (.tup [.str "op",.str "+",.ref p4,.ref p5])=H7 at T6 J6;let F7:=F6.same J6;let kw:bL H H7:=λa xs e=>J6 _ _ (k6 _ _ (J4 _ _ (k4 _ _ (kk _ _ e))))
     erw[0,0,s4,λp7 h7=>?_];let I7:=zC0 h7 (.tup [.str "op",.str "*",vw,.ref p6]);erw[_,_,_,_,_,f,x,vj,.ref p7,.op "*" tw (.op "+" (.ask "coin" (.num (1+d3))) (.num d5)),1,F7.same I7,Tj.mono (λa xs e=>I7 _ _ (kw _ _ e)),.op aJ (Tw.mono λa xs e=>I7 _ _ (kw _ _ e)) (T6.mono (aY I7)),%[st,gw,pl,%[4|trivial]|trivial],IZ (m:=3) dw (by show 3<=3;decide),λh rv rows H' h1 h2 h3 h4 h5=>q h rv rows H' h1 h2 h3 h4 (S3.trans (B4.trans ((zJ0 J4).trans (B6.trans ((zJ0 (J6.trans I7)).trans h5)))))]
   . refine aD (λz=>c (V.int.inj z)) ?_;erw[_,_,_,_,_,f,x,vj,.ref p2,.op "*" tw (.num (1+d1)),1,F3,Tj.mono kk,T2.mono k3,%[st,gw|trivial],IZ (m:=3) dw (by show 1<=3;decide),λh rv rows H' h1 h2 h3 h4 h5=>q h rv rows H' h1 h2 h3 h4 (S3.trans h5)]))))),?_⟩
 let s1:1<=sizeLine:=by decide
 let s2:2<=sizeLine:=by decide
 let s4:4<=sizeLine:=by decide
 let st:("*":Str)∈signW:=by decide
 let eqs:("=":Str)∈signW:=by decide
 erw[0,s2,λpj hj=>?_];let Ij:=zC0 hj (.tup [.str "box",.str x]);let Tj:TmAt (upd H pj (.tup [.str "box",.str x])) (.ref pj) (.box x):=.box aJ;generalize upd H pj (.tup [.str "box",.str x])=H1 at Ij Tj;erw[0,0,f,(4),1,F0.same Ij,4,4,λd1 H2 _ _ F2 B2=>%[s2|λp1 h1=>%[s4|λp2 h2=>?_]]];let k2:=bj (F0.same Ij) B2;let I1:=zC0 h1 (.tup [.str "num",.int d1]);let I2:=zC0 h2 (.tup [.str "op",.str "=",.ref pj,.ref p1]);let J2:=I1.trans I2;let T2:TmAt (upd (upd H2 p1 (.tup [.str "num",.int d1])) p2 (.tup [.str "op",.str "=",.ref pj,.ref p1])) (.ref p2) (.op "=" (.box x) (.num d1)):=.op aJ (Tj.mono λa xs e=>J2 _ _ (k2 _ _ e)) (.num (I2 _ _ aJ));let Tj2:=Tj.mono λa xs e=>J2 _ _ (k2 _ _ e)
 let S3:SameBut f H (upd (upd H2 p1 (.tup [.str "num",.int d1])) p2 (.tup [.str "op",.str "=",.ref pj,.ref p1])):=(zJ0 Ij).trans (B2.trans (zJ0 J2));let F3:=F2.same J2;generalize upd (upd H2 p1 (.tup [.str "num",.int d1])) p2 (.tup [.str "op",.str "=",.ref pj,.ref p1])=H3 at T2 Tj2 S3 F3;erw[0,f,(3),1,F3,4,4,λd2 H4 _ _ F4 B4=>%[2,0|6]];let k4:=bj F3 B4;let S4:=S3.trans B4
 by_cases c:d2>0
 . refine aV c ?_;erw[s1,λp3 h3=>?_];let I3:=zC0 h3 (.tup [.str "round"]);let e3:upd H4 p3 (.tup [.str "round"]) p3=some (.tup [.str "round"]):=aJ;generalize upd H4 p3 (.tup [.str "round"])=H5 at I3 e3;erw[0,f,(6),1,F4.same I3,4,4,λd5 H6 _ _ F6 B6=>%[s2|λp5 h5=>%[s4|λp6 h6=>?_]]];let k6:=bj (F4.same I3) B6;let I5:=zC0 h5 (.tup [.str "num",.int d5]);let I6:=zC0 h6 (.tup [.str "op",.str "=",.ref p3,.ref p5]);let J6:=I5.trans I6;let T6:TmAt (upd (upd H6 p5 (.tup [.str "num",.int d5])) p6 (.tup [.str "op",.str "=",.ref p3,.ref p5])) (.ref p6) (.op "=" (.plain "round") (.num d5)):=.op aJ (.plain (J6 _ _ (k6 _ _ e3))) (.num (I6 _ _ aJ));generalize upd (upd H6 p5 (.tup [.str "num",.int d5])) p6 (.tup [.str "op",.str "=",.ref p3,.ref p5])=H7 at T6 J6;let kw:bL H3 H7:=λa xs e=>J6 _ _ (k6 _ _ (I3 _ _ (k4 _ _ e)))
   erw[0,0,s4,λp7 h7=>?_];let I7:=zC0 h7 (.tup [.str "op",.str "*",.ref p2,.ref p6]);erw[_,_,_,_,_,f,x,.ref pj,.ref p7,.op "*" (.op "=" (.box x) (.num d1)) (.op "=" (.plain "round") (.num d5)),1,F6.same (J6.trans I7),Tj2.mono (λa xs e=>I7 _ _ (kw _ _ e)),.op aJ (T2.mono λa xs e=>I7 _ _ (kw _ _ e)) (T6.mono (aY I7)),%[st,%[eqs,trivial|trivial],eqs,(show("round":Str)∈plainW by decide)|trivial],(by show 3<=3;decide),λh rv rows H' h1 h2 h3 h4 h5=>q h rv rows H' h1 h2 h3 h4 (S4.trans ((zJ0 I3).trans (B6.trans ((zJ0 (J6.trans I7)).trans h5))))]
 . refine aD c ?_;erw[_,_,_,_,_,f,x,.ref pj,.ref p2,.op "=" (.box x) (.num d1),1,F4,Tj2.mono k4,T2.mono k4,%[eqs,trivial|trivial],(by show 2<=3;decide),λh rv rows H' h1 h2 h3 h4 h5=>q h rv rows H' h1 h2 h3 h4 (S4.trans h5)]
section
variable {C CM CA CG:Addr}
def nI(rows:List Hr):Prop:=∀r∈rows,r.good
instance spOnw:∀(h:Addr)(rv:List V)(rows:List Hr),vs=[.ref h]->H h=some (.tup rv)->RowsAt H rv rows->nI rows->rv.length<=100->(∀(h':Addr)(rv':List V)(rows':List Hr)(H':Hp),Same H H'->H' h'=some (.tup rv')->RowsAt H' rv' rows'->nI rows'->Q (.ref h') H'):=1
def fO:FnScope ["_law_helper_here","_law_found","_law_k","_law_row"] ["_law_helper_here"] (ah lK):=%[|5]
inductive RwV(H:Hp)(v:V)(r:Hr):Prop
 | go (a:Addr) (n:Int):v=.ref a->r=.go n->H a=some (.tup [.str "go",.int n])->RwV H v r
 | iff (a:Addr) (u:V) (t:Tm) (n:Int):v=.ref a->r=.iff t n->H a=some (.tup [.str "if",u,.int n])->TmAt H u t->RwV H v r
 | oth (a:Addr) (o:Str) (us:List V):v=.ref a->H a=some (.tup (.str o::us))->o≠"go" -> o≠"if" -> RwV H v r
def HrAt.rv(h:HrAt H v r):RwV H v r:=by
 cases h with
 | fin e=>exact .oth _ _ _ rfl e ⋯ ⋯
 | go e=>exact .go _ _ rfl rfl e
 | iff e t=>exact .iff _ _ _ _ rfl rfl e t
 | set e t=>exact .oth _ _ _ rfl e ⋯ ⋯
 | say e t=>exact .oth _ _ _ rfl e ⋯ ⋯
def El{a b:Str}(h:a≠b):¬ V.str a=V.str b:=λz=>h (V.str.inj z)
instance tO81(Dn:Ends)(σ:St)(H:Hp):∀(x0 x2:Option V)(L:Addr)(v:V)(us:List V),σ=[x0,some (.ref L),x2,some v]->H L=some (.lst us)->us.length<=100->(∀H',SameBut L H H'->H' L=some (.lst (us++[v]))->Dn.nx [x0,some (.ref L),x2,some v] H'):=0
def wp   (F:Fun K "_law_onward" "_law_onward" lK f fd) (B:Bl mg):#[1,f,fd,["_law_helper_here"],spOnw]:=by
 exists fO
 erw[h,rv,rows,1,hh,RW,gd,r100,q]at h;refine⟨_,(aa #[ai,1,fO,dL aP]
  (aa (cF zF1 rfl (bZ rfl B.range %[aG aE rfl B.len zC1 %[0|aP]|aP]) (bc (i:=2) fO.nd rfl (.inl rfl)) (aa #[ai,3,fO,aM ix_tup (pv 0) (pv 2) #[1]]
   (aa (aI (PW.pt (kx (ag aR (aM ix_tup (pv 3) ae #[1]) ao (ax _)) (jB (ag rF (aM ix_tup (pv 3) ae #[1]) (pv 2) (ax _))))) (ad #[ai,3,fO,aF %[ao|aP]]) az)
   (aa (aI (PW.pt (kx (ag aR (aM ix_tup (pv 3) ae #[1]) ao (ax _)) (jB (ag rF (aM ix_tup (pv 3) ae #[1]) (pv 2) (ax _))))) (ad #[ai,3,fO,aF %[ao,aM ix_tup (pv 3) ae #[1]|aP]]) az)
   (gl (t':=tO81) (ad (aW (eC zE1 zH1 zI1 ca (pv 1) %[3|aP]))) ?cO)))))
  (ad (am (bt bb rfl B.tuple bu %[1|aP]))))),?_⟩
 case cO=>
  rintro Dn σ H ⟨x0,x2,L,v,us,rfl,hL,ul,q⟩;erw[0,.inl %[1,_|zH0 hL],0,L,us,v,1,1,hL,aN #[0],q _ (SameBut.upd _) aJ]
 let n1:¬ V.str "if"=V.str "go":=El ⋯;let n2:¬ V.str "go"=V.str "if":=El ⋯;let n3:¬ V.str "end"=V.str "if":=El ⋯;erw[y0S,λL hL=>?_];let I:=zC0 hL (.lst []);let e1:upd H L (.lst []) L=some (.lst []):=aJ;generalize upd H L (.lst [])=H1 at I e1;erw[0,h,0,.inr (zD0 (I _ _ hh)),0,3,3,cW (n:=rv.length) (λi σ H'=>∃(x2 x3:Option V) (us:List V) (rs:List Hr),σ=[some (.ref h),some (.ref L),x2,x3]/\H' L=some (.lst us)/\RowsAt H' us rs/\nI rs/\us.length=i/\Same H H') %[_,_,[],[],1,e1,RowsAt.nil,(λr hr=>by cases hr),1|I] ?_ ?_]
 . rintro i σ H2 hi ⟨x2,x3,us,rs,rfl,hL2,R2,g2,ul,S2⟩;let hi:i<rv.length:=hi;let hz:=zM0 (l:=rv) (i:=i) hi;let hr':=zM0 (l:=rows) (i:=i) (by rw[←RW.1];exact hi);let gr:=gd _ (qL0 hr');let HR:=(RW.2 i _ _ hz hr').mono (aY S2);generalize rv[i]=z at hz HR;generalize rows[i]'(by rw[←RW.1];exact hi)=r0 at gr HR;let s1:1<=sizeLine:=by decide
   let s2:2<=sizeLine:=by decide
   erw[0,0,h,rv,_,z,1,1,zD0 (S2 _ _ hh),by rw[qZ0];exact cx hz,6];let fin:∀(D:Ends)(H3:Hp)(v:V)(r:Hr),Same H2 H3->HrAt H3 v r->r.good->(∀(x2 x3:Option V)(us:List V)(rs:List Hr)(H':Hp),H' L=some (.lst us)->RowsAt H' us rs->nI rs->us.length=i+1->Same H H'->D.nx [some (.ref h),some (.ref L),x2,x3] H')->tO81 D [some (.ref h),some (.ref L),some (.int (0+(i:Int))),some v] H3:=λD H3 v r S3 hv gv qn=>by
    erw[_,_,L,v,us,1,S3 _ _ hL2,3,λH4 B4 h4=>?_];let k4:bL H3 H4:=λa xs e=>B4 _ _ (bp e (S3 _ _ hL2) nofun) e
    refine qn _ _ _ (rs++[r]) H4 h4 (((R2.mono (aY S3)).mono k4).snoc (hv.mono k4)) (λx hx=>?_) (by rw[zK0,ul];rfl) (λa o e=>B4 _ _ (aQ e hL) (S3 _ _ (S2 _ _ e)));rcases qD0 hx with y | y
    . exact g2 x y
    . rw[NW y];exact gv
   cases id HR.rv with
   | go r n ez eq er=>
     subst ez;erw[0,r,_,(0),0,1,zD0 er,at0 ..,1,0,aV rfl ?_];erw[0,r,_,(1),.int n,1,1,zD0 er,1,0,2,0,6];refine oP (λc=>?_) (λc=>?_)
     . erw[s1,λc hc=>?_];let I3:=zC0 hc (.tup [.str "end"]);let e3:upd H2 c (.tup [.str "end"]) c=some (.tup [.str "end"]):=aJ;generalize upd H2 c (.tup [.str "end"])=H3 at I3 e3;erw[0,c,_,(0),0,1,zD0 e3,at0 ..,1,0,aD n3 ?_];exact fin _ H3 (.ref c) .fin I3 (.fin e3) trivial λy2 y3 us rs H' h1 h2 h3 h4 h5=>%[y2,y3,us,rs,1,h1,h2,h3,h4|h5]
     . erw[0,r,_,(0),0,1,zD0 er,at0 ..,1,0,aD n2 ?_];exact fin _ H2 (.ref r) r0 (Same.refl _) HR gr λy2 y3 us rs H' h1 h2 h3 h4 h5=>%[y2,y3,us,rs,1,h1,h2,h3,h4|h5]
   | iff r u tm n ez eq er tt=>
     subst ez;erw[0,r,_,(0),0,1,zD0 er,at0 ..,1,0,aD n1 ?_];erw[0,r,_,(0),0,1,zD0 er,at0 ..,1,0,aV rfl ?_];erw[0,r,_,(2),.int n,1,1,zD0 er,1,0,2,0,6];refine oP (λc=>?_) (λc=>?_)
     . erw[0,r,_,(1),u,1,1,zD0 er,1,s2,λc hc=>?_];let I3:=zC0 hc (.tup [.str "say",u]);let e3:upd H2 c (.tup [.str "say",u]) c=some (.tup [.str "say",u]):=aJ;generalize upd H2 c (.tup [.str "say",u])=H3 at I3 e3;rw[eq]at gr;exact fin _ H3 (.ref c) (.say tm) I3 (.say e3 (tt.mono (aY I3))) %[gr.1|gr.2.1] λy2 y3 us rs H' h1 h2 h3 h4 h5=>%[y2,y3,us,rs,1,h1,h2,h3,h4|h5]
     . exact fin _ H2 (.ref r) r0 (Same.refl _) HR gr λy2 y3 us rs H' h1 h2 h3 h4 h5=>%[y2,y3,us,rs,1,h1,h2,h3,h4|h5]
   | oth r o ys ez er o1 o2=>
     subst ez;erw[0,r,_,(0),0,1,zD0 er,at0 ..,1,0,aD (El o1) ?_];erw[0,r,_,(0),0,1,zD0 er,at0 ..,1,0,aD (El o2) ?_];exact fin _ H2 (.ref r) r0 (Same.refl _) HR gr λy2 y3 us rs H' h1 h2 h3 h4 h5=>%[y2,y3,us,rs,1,h1,h2,h3,h4|h5]
 . rintro σ H1 ⟨x2,x3,us,rs,rfl,hL1,R1,g1,ul,S1⟩;erw[0,L,0,.inl %[zH0 hL1|λa ha=>?_]];let I:=zC0 ha (.tup us);exact q a us rs _ (S1.trans I) aJ (R1.mono (aY I)) g1
def RowsAt.take(h:RowsAt H a r)(n:Nat):RowsAt H (a.take n) (r.take n):=by
 erw[by rw[qJ0,qJ0,h.1],λi v x e1 e2=>?_];rw[List.getElem?_take]at e1 e2
 split at e1
 . next c=>rw[NQ c]at e2;exact h.2 i v x e1 e2
 . cases e1
def RowsAt.drop(h:RowsAt H a r)(n:Nat):RowsAt H (a.drop n) (r.drop n):=by
 erw[by rw[qJ1,qJ1,h.1],λi v x e1 e2=>?_];rw[List.getElem?_drop]at e1 e2;exact h.2 _ v x e1 e2
def JG{xs:List V}{k:Nat}(hk:k<=xs.length):iP xs none (some (k:Int))=xs.take k:=by
 unfold iP;rw[HT.sIx_none,HT.sIx_nat,jH0,jZ1,Nat.min_eq_left hk]
def JH{xs:List V}{k:Nat}(hk:k<=xs.length):iP xs (some (k:Int)) none=xs.drop k:=by
 unfold iP;rw[HT.sIx_none,HT.sIx_nat,Nat.min_eq_left hk];exact List.take_of_length_le (by rw[qJ1];exact zG0 _)
instance spTurn:∀(f h:Addr)(rv:List V)(rows:List Hr),vs=[.ref f,.ref h]->FeedAt H f->H h=some (.tup rv)->RowsAt H rv rows->nI rows->1<=rv.length->rv.length<=100->(∀(h':Addr)(rv':List V)(rows':List Hr)(H':Hp),SameBut f H H'->H' h'=some (.tup rv')->RowsAt H' rv' rows'->nI rows'->Q (.ref h') H'):=1
def l6:FnScope ["_law_feed_here","_law_helper_here","_law_at","_law_some"] Wz (ah lJ):=%[|5]
def wo   (F:Fun K "_law_turned" "_law_turned" lJ f fd) (B:Bl mg) (aX:#[1,"_law_take",WD,spTake]):#[2,f,fd,Wz,spTurn]:=by
 exists l6
 erw[f,h,rv,rows,1,F0,hh,RW,gd,r1,r100,q]at h;refine⟨_,(aa #[ai,2,l6,aj aX hr ⋯ rfl %[0,aG aE rfl B.len zC1 %[1|aP]|aP]]
  (aa #[ai,3,l6,dL %[aF %[ao,aF %[ao|aP]|aP],aF %[ao,aF %[ao,aj aX hr ⋯ rfl %[0,ae|aP]|aP]|aP],aF %[ao,ao,aF %[ao,ae|aP]|aP],aF %[ao|aP]|aP]]
  (ad (am (aq op_catT (aq zQ (eJ zE (pv 1) iD (eM (pv 2))) (aF %[aM ix_list (pv 3) (aj aX hr ⋯ rfl %[0,ae|aP]) #[1]|aP])) (eJ zE (pv 1) (eM (aq aS (pv 2) ae)) iD)))))),?_⟩
 let s1:1<=sizeLine:=by decide
 let s2:2<=sizeLine:=by decide
 let s3:3<=sizeLine:=by decide
 let s4:4<=sizeLine:=by decide
 erw[0,0,h,0,.inr (zD0 hh),f,(rv.length:Int),1,F0,3,3,λk H1 k0 k1 F1 S1=>?_];let%[k|1]:=zU1 k0;let kT1:bL H H1:=λa xs e=>S1 _ _ (λz=>by erw[_,_,hf,_]at F0;rw[z,hf]at e;cases e) e
 let hh1:=kT1 _ _ hh;let RW1:=RW.mono kT1;erw[s1,λa1 h1=>?_];let I1:=zC0 h1 (.tup [.str "due"]);let e1:upd H1 a1 (.tup [.str "due"]) a1=_:=aJ;generalize upd H1 a1 (.tup [.str "due"])=H2 at I1 e1;erw[s2,λa2 h2=>?_];let I2:=zC0 h2 (.tup [.str "say",.ref a1]);let e2:upd H2 a2 (.tup [.str "say",.ref a1]) a2=_:=aJ;generalize upd H2 a2 (.tup [.str "say",.ref a1])=H3 at I2 e2;let F3:=(F1.same I1).same I2;erw[0,f,(9),1,F3,4,4,λm H4 m0 m1 F4 S4=>?_];let kT4:bL H3 H4:=λa xs e=>S4 _ _ (λz=>by erw[_,_,hf,_]at F3;rw[z,hf]at e;cases e) e
 erw[s2,λa3 h3=>?_];let I3:=zC0 h3 (.tup [.str "num",.int m]);let e3:upd H4 a3 (.tup [.str "num",.int m]) a3=_:=aJ;generalize upd H4 a3 (.tup [.str "num",.int m])=H5 at I3 e3;erw[s2,λa4 h4=>?_];let I4:=zC0 h4 (.tup [.str "say",.ref a3]);let e4:upd H5 a4 (.tup [.str "say",.ref a3]) a4=_:=aJ;generalize upd H5 a4 (.tup [.str "say",.ref a3])=H6 at I4 e4;erw[s2,λa5 h5=>?_];let I5:=zC0 h5 (.tup [.str "num",.int 1]);let e5:upd H6 a5 (.tup [.str "num",.int 1]) a5=_:=aJ;generalize upd H6 a5 (.tup [.str "num",.int 1])=H7 at I5 e5;erw[s3,λa6 h6=>?_];let I6:=zC0 h6 (.tup [.str "set",.str "e",.ref a5]);let e6:upd H7 a6 (.tup [.str "set",.str "e",.ref a5]) a6=_:=aJ;generalize upd H7 a6 (.tup [.str "set",.str "e",.ref a5])=H8 at I6 e6;erw[s1,λa7 h7=>?_];let I7:=zC0 h7 (.tup [.str "end"]);let e7:upd H8 a7 (.tup [.str "end"]) a7=_:=aJ;generalize upd H8 a7 (.tup [.str "end"])=H9 at I7 e7;erw[s4,λL hL=>?_];let I8:=zC0 hL (.lst [.ref a2,.ref a4,.ref a6,.ref a7]);let e8:upd H9 L (.lst [.ref a2,.ref a4,.ref a6,.ref a7]) L=some (.lst [.ref a2,.ref a4,.ref a6,.ref a7]):=aJ;let F9:=F4.same (I3.trans (I4.trans (I5.trans (I6.trans I7))));let Lf:L≠f:=F9.ne hL;generalize upd H9 L (.lst [.ref a2,.ref a4,.ref a6,.ref a7])=HA at I8 e8;let FA:=F9.same I8;let J4A:=I3.trans (I4.trans (I5.trans (I6.trans (I7.trans I8))));let kA:bL H1 HA:=λa xs e=>J4A _ _ (kT4 _ _ ((I1.trans I2) _ _ e))
 let hs:∀i:Nat,i<4->∃(v:V)(r:Hr),([V.ref a2,.ref a4,.ref a6,.ref a7]:List V)[i]?=some v/\HrAt HA v r/\r.good:=λi hi=>by
  have:i=0∨i=1∨i=2∨i=3:=by omega
  rcases this with rfl | rfl | rfl | rfl
  . erw[_,.say (.plain "due"),1,.say (J4A _ _ (kT4 _ _ e2)) (.plain (J4A _ _ (kT4 _ _ (I2 _ _ e1)))),(by decide:("due":Str)∈plainW),by show 1<=5;decide]
  . erw[_,.say (.num m),1,.say ((I5.trans (I6.trans (I7.trans I8))) _ _ e4) (.num ((I4.trans (I5.trans (I6.trans (I7.trans I8)))) _ _ e3)),trivial,by show 1<=5;decide]
  . erw[_,.set "e" (.num 1),1,.set ((I7.trans I8) _ _ e6) (.num ((I6.trans (I7.trans I8)) _ _ e5)),trivial,by show 1<=5;decide]
  . erw[_,.fin,1,.fin (I8 _ _ e7),trivial]
 let kl:k<rv.length:=by omega
 let S1A:SameBut f H HA:=S1.trans ((zJ0 (I1.trans I2)).trans (S4.trans (zJ0 J4A)));erw[0,0,0,h,0,zD0 (kA _ _ hh1),kA _ _ hh1,λb1 HB SB hb1=>?_];rw[JG #[0]]at hb1;erw[0,0,f,(4),1,FA.same SB,4,4,λd HC d0 d1 FC SC=>?_];let%[d|1]:=zU1 d0;let%[v,r,hv,HV|gv]:=hs d #[0];let FB:=FA.same SB;let kC:bL HB HC:=λa xs e=>SC _ _ (λz=>by erw[_,_,hf,_]at FB;rw[z,hf]at e;cases e) e
 let LC:=SC _ _ Lf (SB _ _ e8);erw[L,_,_,v,1,1,zH0 LC,cx hv,s1,λb2 hb2=>?_];let I9:=zC0 hb2 (.tup [v]);let e9:upd HC b2 (.tup [v]) b2=_:=aJ;generalize upd HC b2 (.tup [v])=HD at I9 e9;let kAD:bL HA HD:=λa xs e=>I9 _ _ (kC _ _ (SB _ _ e))
 let hb1D:=I9 _ _ (kC _ _ hb1);let RT:=((RW1.mono kA).mono kAD)
 let R2:RowsAt HD [v] [r]:=⟨rfl,λi u x e1 e2=>by
  cases i with
  | zero=>cases e1;cases e2;exact HV.mono kAD
  | succ i=>cases e1⟩
 let SAD:SameBut f HA HD:=(zJ0 SB).trans (SC.trans (zJ0 I9));let tl:(rv.take k).length=k:=by rw[qJ0];omega
 let GR:nI (rows.take k++[r]++rows.drop (k+1)):=λx hx=>by
  rcases qD0 hx with y | y
  . rcases qD0 y with y | y
    . exact gd x (List.mem_of_mem_take y)
    . rw[NW y];exact gv
  . exact gd x (List.mem_of_mem_drop y)
 let S0D:=S1A.trans SAD;let rest:∀(b3:Addr)(HE:Hp),Same HD HE->HE b3=some (.tup (rv.take k++[v]))->∀(b4:Addr)(HF:Hp),Same HE HF->HF b4=some (.tup (rv.drop (k+1)))->rCatT K (.ref b3) (.ref b4) HF Q:=λb3 HE SE e3 b4 HF SF e4=>by
  let SDF:=SE.trans SF;let dl:(rv.drop (k+1)).length<=100:=by rw[qJ1];omega
  erw[b3,b4,2,zD0 (SF _ _ e3),zD0 e4,by simp,cq (by rw[zK0,tl,qK0];omega),λz=>?_,λ_ b5 h5=>?_]
  . let kl2:rows.drop (k+1)=[]:=List.drop_eq_nil_of_le (by have:=List.drop_eq_nil_iff.mp z;rw[←RW.1];exact this);refine q b3 _ (rows.take k++[r]) HF (S0D.trans (zJ0 SDF)) (SF _ _ e3) (((RT.take k).app R2).mono (aY SDF)) (λx hx=>GR x (jN0 _ hx))
  . let I5:=zC0 h5 (.tup (rv.take k++[v]++rv.drop (k+1)));exact q b5 _ _ _ (S0D.trans (zJ0 (SDF.trans I5))) aJ ((((RT.take k).app R2).app (RT.drop (k+1))).mono (aY (SDF.trans I5))) GR
 let tail:∀(b3:Addr)(HE:Hp),Same HD HE->HE b3=some (.tup (rv.take k++[v]))->rSlTA K (.ref h) (some ((k:Int)+1)) none HE λy H1=>rCatT K (.ref b3) y H1 Q:=λb3 HE SE e3=>by
  let hhE:=SE _ _ (kAD _ _ (kA _ _ hh1));erw[h,rv,1,zD0 hhE,hhE,λb4 HF SF e4=>?_];rw[show((k:Int)+1)=((k+1:Nat):Int) by omega,JH #[0]]at e4;exact rest b3 HE SE e3 b4 HF SF e4
 erw[b1,b2,2,zD0 hb1D,zD0 e9,by simp,cq (by rw[tl,qK0];omega),λz=>?_,λ_ b3 h3=>?_]
 . erw[0,0,2,0,tail b2 HD (Same.refl _) (by rw[e9,z];rfl)]
 . erw[0,0,2,0,tail b3 _ (zC0 h3 _) aJ]
end
def rV:List Hr:=[.iff (.op "=" (.box "lied") (.num 0)) 9,.iff (.op "=" (.plain "asked") (.num 1)) 8,.say (.ask "true" (.num 0)),.say (.op "-" (.plain "due") (.ask "true" (.num 0))),.set "i" (.num 2),.say (.ask "true" (.box "i")),.set "i" (.op "+" (.box "i") (.num 1)),.go 5,.say (.op "/" (.plain "due") (.num 2)),.set "lied" (.num 1)]
def tM(cl:List Int):List Hr:=rV++cl.map λc=>.say (.num c)
def BC(cl:List Int):((tM cl).length:Int)=10+(cl.length:Int):=by
 unfold tM;rw[zK0,zF0];show((10+cl.length:Nat):Int)=_;omega
abbrev JU:Str:="if (= lied 0) 9\nif (= asked 1) 8\nsay (true 0)\nsay (- due (true 0))\nset i 2\nsay (true i)\nset i (+ i 1)\ngo 5\nsay (/ due 2)\nset lied 1"
def yJ:ny rV=JU:=by decide
def yK:sF rV:=by
 erw[4,λr hr=>?_];unfold rV at hr;simp only[jF1,qS1,wY1]at hr;let ni:NmK "i":=by unfold NmK;decide
 let nl:NmK "lied":=by unfold NmK;decide
 rcases hr with rfl | rfl | rfl | rfl | rfl | rfl | rfl | rfl | rfl | rfl
 . erw[%[%[4,nl,4|4],4|4],4,4]
 . erw[%[%[4,(by decide:("asked":Str)∈plainW),4|4],4|4],4,4]
 . erw[%[4,4|4],4,4]
 . erw[%[4,(by decide:("due":Str)∈plainW),4,4|4],4,4]
 . erw[ni,%[4|4],4,4]
 . erw[%[4|ni],4,4]
 . erw[ni,%[4,ni,4|4],4,4]
 . erw[4,4]
 . erw[%[4,(by decide:("due":Str)∈plainW),4|4],4,4]
 . erw[nl,%[4|4],4,4]
def EA:∀r∈rV,r.good:=by
 intro r hr;unfold rV at hr;simp only[jF1,qS1,wY1]at hr;rcases hr with rfl | rfl | rfl | rfl | rfl | rfl | rfl | rfl | rfl | rfl
 . erw[%[4,trivial|trivial],4,4]
 . erw[%[4,(by decide:("asked":Str)∈plainW)|trivial],4,4]
 . erw[%[4|trivial],4]
 . erw[%[4,(by decide:("due":Str)∈plainW),4|trivial],4]
 . erw[trivial,4]
 . erw[%[4|trivial],4]
 . erw[%[4,trivial|trivial],4]
 . exact(by decide:(0:Int)<=5)
 . erw[%[4,(by decide:("due":Str)∈plainW)|trivial],4]
 . erw[trivial,4]
instance spBest:∀(l:Addr)(cl:List Int),vs=[.ref l]->H l=some (.lst (cl.map V.int))->1<=cl.length->cl.length<=10->(∀(a:Addr)(rv:List V)(H':Hp),H' a=some (.tup rv)->RowsAt H' rv (tM cl)->(∀r∈tM cl,r.good)->Same H H'->Q (.ref a) H'):=1
def ut:FnScope ["claims"] ["claims"] (ah kj):=%[|5]
def ve   (F:Fun K "best_liar" "best_liar" kj f fd) (B:Bl mg) (X:∃t,mg "LIAR_ROWS"=some (.str JU t)) (eO:#[21,"read_helper",WF,spReadH]):#[22,f,fd,["claims"],spBest]:=by
 exists ut
 erw[l,cl,1,hl,c1,c10,q]at h;erw[t,gx]at X;refine⟨_,(ad (am (aq op_catT (aj eO hr ⋯ rfl %[cX (v:=.str JU) rfl gx %[|0]|aP]) (bt bb rfl B.tuple bu (af (cH (N:=[]) (ix:=[]) (cl:=[]) rfl
  #[5] rfl
  (eN (pv 0)) (λ_ _ _=>cR (aF %[ao,aF %[ao,0|aP]|aP]))) aP))))),?_⟩
 erw[rV,by rw[yJ];rfl,yK,λa tv H1 ha R1 S1=>?_];let hl1:=S1 _ _ hl;erw[0,l,1,%[_|zH0 hl1],λD hD=>?_];refine hU (K:=K) (xs:=cl.map V.int) (λi H'=>∃(us:List V),H' D=some (.lst us)/\RowsAt H' us ((cl.take i).map λc=>.say (.num c))/\us.length=i/\Same H1 H') %[[],aJ,RowsAt.nil,1|zC0 hD _] (λi H' _ NV=>by erw[_,_,_,_,h]at NV;exact zH0 (h _ _ hl1)) ?_ ?_
 . rintro i z H2 hz ⟨us,hD2,R2,ul,S2⟩;let hi:i<(cl.map V.int).length:=(zY0 hz).1;let hi':i<cl.length:=by rw[zF0]at hi;exact hi
   let ez:z=.int cl[i]:=by
    rw[zZ0,zM0 hi']at hz;exact(zT0 hz).symm
   subst ez;erw[0,y2S,λb hb=>%[y2S|λd hd=>?_]];let I3:=zC0 hb (.tup [.str "num",.int cl[i]]);let e3:upd H2 b (.tup [.str "num",.int cl[i]]) b=_:=aJ;generalize upd H2 b (.tup [.str "num",.int cl[i]])=H3 at hd I3 e3;let I4:=zC0 hd (.tup [.str "say",.ref b]);let e4:upd H3 d (.tup [.str "say",.ref b]) d=_:=aJ;generalize upd H3 d (.tup [.str "say",.ref b])=H4 at I4 e4;let J4:=I3.trans I4;let hD4:=J4 _ _ hD2;let k5:=dH (H:=H4) (b:=D) (ys:=us) (zs:=us++[.ref d]) hD4;erw[_,hD4,aN #[0],Nx.of hi ⟨us++[.ref d],aJ,?_,by rw[zK0,ul];rfl,λb' o' e'=>?_⟩]
   . rw[qI0,zM0 hi',zL0];exact((R2.mono (aY J4)).mono k5).snoc (.say (k5 _ _ e4) (.num (k5 _ _ (I4 _ _ e3))))
   . rw[aB (aQ e' hD)];exact J4 _ _ (S2 _ _ e')
 . rintro H2 ⟨us,hD2,R2,ul,S2⟩;rw[zF0]at ul;rw[zF0,qF0]at R2;erw[D,0,.inl %[zH0 hD2|λb hb=>?_]];let I3:=zC0 hb (.tup us);let e3:upd H2 b (.tup us) b=_:=aJ;generalize upd H2 b (.tup us)=H3 at I3 e3;let J3:=S2.trans I3;let tl:=R1.1;let un:us≠[]:=λz=>by rw[z]at ul;rw[zL1]at ul;omega
   let tn:tv≠[]:=λz=>by rw[z]at tl;cases tl
   let t10:tv.length=10:=tl;erw[a,b,2,zD0 (J3 _ _ ha),zD0 e3,tn,cq #[0],λz=>absurd z un,λ_ c' hc'=>?_];let I4:=zC0 hc' (.tup (tv++us));refine q c' _ _ aJ (((R1.mono (aY J3)).app (R2.mono (aY I3))).mono (aY I4)) (λr hr=>?_) (S1.trans (J3.trans I4));unfold tM at hr;rcases qD0 hr with h | h
   . exact EA r h
   . let%[c,_|1]:=List.mem_map.mp h;erw[trivial,by show 1<=5;decide]
def vx:List Hr:=hB "i"
def BN:sF vx:=by
 erw[4,λr hr=>?_];unfold vx hB at hr;simp only[jF1,qS1,wY1]at hr;let ni:NmK "i":=by unfold NmK;decide
 rcases hr with rfl | rfl | rfl | rfl
 . erw[ni,%[4|4],4,4]
 . erw[%[4|ni],4,4]
 . erw[ni,%[4,ni,4|4],4,4]
 . erw[4,4]
def BM:ny vx="set i 0\nsay (true i)\nset i (+ i 1)\ngo 1":=by decide
instance spHonest:vs=[]->(∀(a:Addr)(tv:List V)(H':Hp),H' a=some (.tup tv)->RowsAt H' tv vx->Same H H'->Q (.ref a) H'):=1
def AQ:FnScope [] [] (ah qP):=%[|5]
def Bk   (F:Fun K "honest" "honest" qP f fd) (X:∃t,mg "HONEST_ROWS"=some (.str ("set i 0\nsay (true i)\nset i (+ i 1)\ngo 1":Str) t)) (eO:#[21,"read_helper",WF,spReadH]):#[22,f,fd,[],spHonest]:=by
 exists AQ
 erw[1,q]at h;erw[t,gx]at X;erw[_,(ad (am (aj eO hr ⋯ rfl %[cX (v:=.str ("set i 0\nsay (true i)\nset i (+ i 1)\ngo 1":Str)) rfl gx %[|0]|aP]))),6];erw[vx,by rw[BM];rfl,BN,q]
def Ho:∀r∈vx,r.good:=by
 intro r hr;unfold vx hB at hr;simp only[jF1,qS1,wY1]at hr;rcases hr with rfl | rfl | rfl | rfl
 . erw[trivial,4]
 . erw[%[4|trivial],4]
 . erw[%[4,trivial|trivial],4]
 . exact(by decide:(0:Int)<=1)
def yi:Option (List Int)->PyData
 | none=>.none
 | some c=>.tuple (c.map PyData.int)
def wtD(x:Int×Option (List Int)):PyData:=.tuple [.int x.1,yi x.2]
def OptAt.rep{K:W.Frag}{x:Option (List Int)}(h:OptAt H v x):Rep K H v (yi x):=by
 cases x with
 | none=>rw[show v=.non from h];exact .non
 | some c=>erw[b,1,hb]at h;exact .tup (zD0 hb) (qW _)
def IW(x:Option (List Int)):(yi x).canLay0=true/\(yi x).depth<=1:=by
 cases x with
 | none=>simp [yi,PyData.canLay0,PyData.depth]
 | some c=>simp [yi,PyData.canLay0,PyData.depth,W.ke_canLayAll0,W.ke_depthAll]
def oo(x:Int×Option (List Int)):SeqAt.shaped (wtD x)=true:=by
 let h:=IW x.2;let hc:(wtD x).canLay0=true:=by simp [wtD,PyData.canLay0,PyData.canLayAll0,h.1]
 let hd:(wtD x).depth<=10:=by
  show max 0 (max (yi x.2).depth 0)+1<=10;omega
 unfold SeqAt.shaped;rw[hc,Bool.true_and,wW1];omega
def Iu(x:Int×Option (List Int)):PyData.eqv (wtD x) (wtD x)=true:=PySem.SeqAt.eqv_refl _ (SeqAt.canLay_of_shaped (oo x))
section
variable {C CM CA CG:Addr} {ns:List Str} {ts:List Tr} {p:Int} {rows:List Hr}
def EdW (a:Str×Option Int):Prop:=a.1="believed" -> a=(("believed":Str),none)
def vC(z:Db):EdW (goOn ns ts p z).aw:=by
 unfold goOn eA EdW
 split
 . exact λh=>absurd h Ic
 . show (if _ then _ else _:Str×Option Int).1="believed" -> (if _ then _ else _:Str×Option Int)=_
   split
   . exact λ_=>rfl
   . exact λh=>absurd h tK
def qu(k:GmK ns ts p)(n6:ns.length<=6):∀(n:Nat)(cs:List Int)(t:Tk),TkOk ns ts p t->cw cs p->EdW t.z.aw->EdW (bY ns ts p rows cs n t).2.z.aw/\AwW (bY ns ts p rows cs n t).2.z.aw.1
 | 0,_,_,h,_,e=>%[e|h.gd.ww]
 | n+1,cs,t,h,co,e=>by
   let p2:=k.p2
   by_cases ch:t.z.aw.1="hear"
   . rw [dQ ch];refine qu k n6 n cs _ (h.ask k n6 ch).1 co ?_;rw[show(t.ask ns ts p rows).z=df p (t.said ns ts p rows) { t.z with pl:=t.z.pl+((t.said ns ts p rows).length:Int) }from NP h.cl];unfold df EdW;show(if _ then _ else _:Str×Option Int).1="believed" -> _
     split
     . exact λz=>absurd z zT
     . exact λz=>absurd z tK
   . by_cases cc:t.z.aw.1="coin"
     . rw [dR cc];let%[r0|r1]:=oQ co #[0];refine qu k n6 n cs.tail _ (h.toss k cc r0 r1).1 (ub co) ?_;show EdW (dq ns ts p (cs.headD 0) t.z).aw;unfold dq
       split
       . exact vC _
       . exact vC _
     . rw[du ch cc];erw[e,h.gd.ww]
def CC(k:GmK ns ts p)(n6:ns.length<=6)(co:cw cs p):EdW (eG ns ts p rows cs).2.z.aw/\AwW (eG ns ts p rows cs).2.z.aw.1:=by
 refine qu k n6 20 cs _ (jF k n6).1 co ?_;let e0:cK ns ts p ((Tk.new ts).said ns ts p rows) (Db.new ts)=iI ns ts p ((Tk.new ts).said ns ts p rows) { Db.new ts with pl:=(Db.new ts).pl+(((Tk.new ts).said ns ts p rows).length:Int) }:=NQ rfl;show EdW (cK ns ts p ((Tk.new ts).said ns ts p rows) (Db.new ts)).aw;rw[e0];unfold iI
 split
 . exact vC _
 . exact λz=>absurd z zT
end
section
variable {C CM CA CG:Addr}
instance spAny81:∀(f l b:Addr)(cl:List Int)(bs:List Str),vs=[.ref f,.ref l,.ref b]->FeedAt H f->H l=some (.lst (cl.map V.int))->l≠f->1<=cl.length->cl.length<=10->H b=some (.lst (bs.map V.str))->b≠f->bs.length=3->(∀(h:Addr)(rv:List V)(rows:List Hr)(H':Hp),H' h=some (.tup rv)->RowsAt H' rv rows->nI rows->SameBut f H H'->Q (.ref h) H'):=1
def Kr:FnScope ["_law_feed_here","_law_claims","_law_names_here","_law_form"] W0 (ah uE):=%[|5]
def DX   (F:Fun K "_law_any" "_law_any" uE f fd) (aX:#[1,"_law_take",WD,spTake]) (ow:#[1,"_law_onward",["_law_helper_here"],spOnw]) (o6:#[2,"_law_turned",Wz,spTurn]) (l7:#[22,"best_liar",["claims"],spBest])
 (o7:#[8,"_law_helper",Wx,spHelp]) (C4:#[2,"_law_liar",Wy,spLiar]):#[23,f,fd,W0,spAny81]:=by
 exists Kr
 erw[f,l,b,cl,bs,1,hF,hl,lf,c1,c10,hb,bf,bl,q]at h;refine⟨_,(aa #[ai,3,Kr,aj aX hr ⋯ rfl %[0,ae|aP]]
  (aa (aI (ag aR (pv 3) ae (ax _)) (ad (am (aj ow hr ⋯ rfl %[aj o7 hr ⋯ rfl %[0,2,ae|aP]|aP]))) az)
  (aa (aI (ag aR (pv 3) ae (ax _)) (ad (am (aj o6 hr ⋯ rfl %[0,aj l7 hr ⋯ rfl %[1|aP]|aP]))) az)
  (ad (am (aj C4 hr ⋯ rfl %[0,aM ix_list (pv 2) ae #[1]|aP])))))),?_⟩
 erw[0,f,(4),1,hF,4,4,λd H1 d0 d2 F1 B1=>?_];let hb1:=B1 _ _ bf hb;let hl1:=B1 _ _ lf hl;erw[0,1,0,oP (λc=>?_) (λc=>?_)]
 . erw[0,0,f,b,bs,(10),1,F1,hb1,bf,3,3,4,4,λh rv rows H2 hh RW gd r60 F2 B2=>%[h,rv,rows,1,hh,RW,gd,3|λh' rv' rows' H3 S3 hh' RW' gd'=>q h' rv' rows' H3 hh' RW' gd' (B1.trans (B2.trans (zJ0 S3)))]]
 erw[0,1,0,oP (λc2=>?_) (λc2=>?_)]
 . erw[0,0,l,cl,1,hl1,c1,c10,λa rv H2 ha RW gd S2=>?_];let ln:=RW.1;let ll:=BC cl;erw[f,a,rv,tM cl,1,F1.same S2,ha,RW,gd,3,3,λh' rv' rows' H3 B3 hh' RW' gd'=>q h' rv' rows' H3 hh' RW' gd' (B1.trans ((zJ0 S2).trans B3))]
 . cases bs with
   | nil=>cases bl
   | cons x bs=>erw[0,0,b,_,(0),.str x,1,1,zH0 hb1,at0 ..,f,x,1,F1,λh rv rows H2 hh RW gd F2 B2=>q h rv rows H2 hh RW gd (B1.trans B2)]
def SmallG.gm(h:SmallG ns ts p):GmK ns ts p:=by
 let t4:=h.t4;let nl:=h.nl;erw[h.pp,h.p2,h.p9,3,h.t1,3,λt ht=>%[(h.tok t ht).1,Tr.ok_wf h.nok t (h.tok t ht).1,by have:=(h.tok t ht).2.1;omega|by have:=(h.tok t ht).2.2;omega],h.tp,h.tc]
def SmallG.d60(h:SmallG ns ts p):∀y∈ns,bm ts y<=60:=λy _=>by
 let t0:ts≠[]:=λz=>by have:=h.t1;rw[z]at this;cases this
 have:bm ts y<9:=nQ t0 λt ht=>by
  let h1:=jO0 (a:=y) (l:=t.names);let h2:=t.names_len;let h3:=(h.tok t ht).2.2;omega
 omega
def SmallG.p120(h:SmallG ns ts p)(pw:p ^ bz ns ts<=120):p<=120:=by
 let p2:=h.p2
 by_cases c:bz ns ts=0
 . have:ns=[]:=by
    unfold bz at c
    split at c
    . exact List.length_eq_zero_iff.mp c
    . omega
   have:=h.p5 this
   omega
 . obtain ⟨k,hk⟩:∃k,bz ns ts=k+1:=%[bz ns ts-1|3]
   rw[hk,qA1]at pw
   have:0<p ^ k:=zM #[0] k
   let h1:1*p<=p ^ k*p:=jD0 #[0] #[0];omega
abbrev sV (ns:List Str) (ts:List Tr) (p:Int) (rows:List Hr):Int×Option (List Int):=iV (dA p.toNat (bz ns ts)) (λc=>decide ((eG ns ts p rows c).2.z.aw.1="believed")) []
def HJ    {rows:List Hr} {xs:List Int} (k:GmK ns ts p) (n6:ns.length<=6) (nd:ns.Nodup) (hs:(Tk.new ts).said ns ts p rows=xs) (xl:xs.length=ts.length):(wrg p (ovr xs (eQ ts ns))=true->(sV ns ts p rows).1<=sU p ns.length ts.length (cgt p (ns.map (bm ts))) (ovr xs (eQ ts ns))/\(sV ns ts p rows).2≠none)/\(∀c,(sV ns ts p rows).2=some c->c.length=bz ns ts/\cw c p/\¬ (eG ns ts p rows c).2.z.aw.1="believed"):=by
 let p2:=k.p2;let ep:(p.toNat:Int)=p:=by omega
 let cn:=nY ts ns;let ol:(ovr xs (eQ ts ns)).length=ts.length:=(pZ (xl.trans cn.symm)).trans xl;let g0:0<cgt p (ns.map (bm ts)):=Hx λd hd=>by
  let%[x,hx|1]:=List.mem_map.mp hd;exact(k.deg x hx).2
 let less:=EB (rm k.pr (by have:=k.p9;omega)) (n:=ns.length) k.t1 ol k.tp g0;let tot:((p.toNat ^ bz ns ts:Nat):Int)=p ^ (ns.length+if 1<ts.length then 1 else 0):=by
  rw[wM1,ep]
  congr 1
  have:=k.t1
  unfold bz
  split <;> split <;> omega
 let f2:=wT (λc=>decide ((eG ns ts p rows c).2.z.aw.1="believed")) (dA p.toNat (bz ns ts));rw[kI]at f2;let e0:(sV ns ts p rows).1=(((dA p.toNat (bz ns ts)).filter λc=>decide ((eG ns ts p rows c).2.z.aw.1="believed")).length:Int):=rfl;let e2:(sV ns ts p rows).2=(((dA p.toNat (bz ns ts)).filter λc=>!decide ((eG ns ts p rows c).2.z.aw.1="believed")).head?).map ([]++·):=rfl;erw[λwr=>?_,λc z=>?_]
 . let b:=Cl k n6 nd hs xl wr;rw[wr]at less;let l2:=zM1 less;erw[by rw[e0];exact b,λz=>?_];rw[e2]at z;cases e3:(dA p.toNat (bz ns ts)).filter λc=>!decide ((eG ns ts p rows c).2.z.aw.1="believed")with
   | nil=>
     rw[e3,zL1]at f2;omega
   | cons a r=>
     rw[e3]at z;cases z
 . rw [e2]at z;cases e3:(dA p.toNat (bz ns ts)).filter λc=>!decide ((eG ns ts p rows c).2.z.aw.1="believed")with
   | nil=>
     rw[e3]at z;cases z
   | cons a r=>
     rw[e3]at z;cases z;let hm:a∈(dA p.toNat (bz ns ts)).filter λc=>!decide ((eG ns ts p rows c).2.z.aw.1="believed"):=by rw[e3];exact qA0
     let%[m1|m2]:=List.mem_filter.mp hm;let%[c1|c2]:=kH _ _ m1;rw[ep]at c2;erw[c1,c2,λy=>?_];let y':(eG ns ts p rows a).2.z.aw.1="believed":=y;rw[zD1 y']at m2;cases m2
structure Z81(CG:Addr)(H:Hp)(sb g h:Addr)(ns:List Str)(ts:List Tr)(p:Int)(rows:List Hr):Prop where
 G:∃d,GameD CG H g d ns ts p
 SG:SmallG ns ts p
 pw:p ^ bz ns ts<=120
 hb:∃tv,H sb=some (.tup tv)/\tv.length=ts.length
 hh:∃rv,H h=some (.tup rv)/\RowsAt H rv rows
 gd:nI rows
def Z81.same(x:Z81 CG H sb g h ns ts p rows)(s:Same H H'):Z81 CG H' sb g h ns ts p rows:=by
 erw[tv,h1,h2]at x.hb;erw[rv,h3,h4]at x.hh;erw[d,h5]at x.G;erw[%[d|h5.same s],x.SG,x.pw,%[tv,s _ _ h1|h2],%[rv,s _ _ h3|h4.mono (aY s)],x.gd]
instance tA81(CG:Addr)(Dn:Ends)(σ:St)(H:Hp):∀(x0 x1 x2 x6 x7 x9 x10 x11:Option V)(sb g h:Addr)(ns:List Str)(ts:List Tr)(p:Int)(rows:List Hr),σ=[x0,x1,x2,some (.ref sb),some (.int p),some (.ref g),x6,x7,some (.ref h),x9,x10,x11]->Z81 CG H sb g h ns ts p rows->(∀(y9 y10 y11:Option V)(H':Hp),Same H H'->Dn.nx [x0,x1,x2,some (.ref sb),some (.int p),some (.ref g),x6,x7,some (.ref h),y9,y10,y11] H'):=0
instance tB81(CG:Addr)(Dn:Ends)(σ:St)(H:Hp):∀(x0 x1 x2 x6 x7 x10 x11:Option V)(sb g h l:Addr)(ns:List Str)(ts:List Tr)(p:Int)(rows:List Hr)(xs:List Int),σ=[x0,x1,x2,some (.ref sb),some (.int p),some (.ref g),x6,x7,some (.ref h),some (.ref l),x10,x11]->Z81 CG H sb g h ns ts p rows->H l=some (.lst (xs.map V.int))->(Tk.new ts).said ns ts p rows=xs->xs.length=ts.length->(∀(y10 y11:Option V)(H':Hp),Same H H'->Dn.nx [x0,x1,x2,some (.ref sb),some (.int p),some (.ref g),x6,x7,some (.ref h),some (.ref l),y10,y11] H'):=0
instance tC81(CG:Addr)(Dn:Ends)(σ:St)(H:Hp):∀(x0 x1 x2 x6 x7 x9 x10:Option V) (sb g h:Addr) (v:V) (ns:List Str) (ts:List Tr) (p:Int) (rows:List Hr),σ=[x0,x1,x2,some (.ref sb),some (.int p),some (.ref g),x6,x7,some (.ref h),x9,x10,some v]->Z81 CG H sb g h ns ts p rows->OptAt H v (sV ns ts p rows).2->(∀c,(sV ns ts p rows).2=some c->c.length=bz ns ts/\cw c p/\¬ (eG ns ts p rows c).2.z.aw.1="believed")->(∀(H':Hp),Same H H'->Dn.nx [x0,x1,x2,some (.ref sb),some (.int p),some (.ref g),x6,x7,some (.ref h),x9,x10,some v] H'):=0
def fh:FnScope ["_law_script","_law_feed_here","_law_switches","_law_trees","_law_p","_law_game","_law_names_here","_law_k","_law_helper_here","_law_claims","_law_many","_law_row"] ["_law_script"] (ah ms):=%[|5]
def Ja   (F:Fun K "law" "law" ms f fd) (B:Bl mg) (TG:GTxt K mg CG) (M:Mk K CG fI) (GI:#[14,fI,fdI,Wa,spGInit CG]) (bI:Binds K fdI Wa [])
 (TM:MTxt K mg CM) (MM:Mk K CM fM) (GM:#[1,fM,fdM,WI,spMInit CM]) (bM:Binds K fdM WI []) (mS:Meth K CM "say" fS) (GS:#[25,fS,fdS,WX,spSay CM CG]) (bS:Binds K fdS WX [])
 (o9:#[1,"_law_feed",Wt,spFeed K]) (aX:#[1,"_law_take",WD,spTake]) (gY:#[2,"_law_names",WD,spNamesN]) (t8:#[15,"_law_small",Ww,spSmall])
 (JX:#[23,"_law_any",W0,spAny81]) (C5:#[22,"honest",[],spHonest]) (fq:#[19,"let_by_at_most",WE,spLet CG]) (fN:#[18,"are_wrong",WE,spAre CG])
 (C6:#[27,"talked",Wu,spTalked C CM CG]) (jV:#[36,"weighed",["game","helper"],spWeighed C CM CG]):#[37,f,fd,["_law_script"],spLaw K]:=by
 exists fh
 erw[a,sn,1,hS,h63,q]at h;let hr2:Room 2 _:=hr.mono ⋯;let hr15:Room 15 _:=hr.mono ⋯;let hr25:Room 25 _:=hr.mono ⋯;refine⟨_,(aa (ai (i:=1) fh.nd rfl (Or.inr rfl) (aj o9 hr ⋯ rfl %[0,ae|aP]))
  (aa (rc (aj t8 hr ⋯ rfl %[1,ae,ae|aP]) (rC rfl (eg (bc (i:=2) fh.nd rfl (.inl rfl)) (eg (bc (i:=3) fh.nd rfl (.inl rfl)) (eg (bc (i:=4) fh.nd rfl (.inl rfl)) mL)))))
  (aa #[ai,5,fh,gn M GI hr15 rfl TG.mgC bI .nil aZ %[2,3,4|aP]]
  (aa #[ai,6,fh,aj gY hr ⋯ rfl %[1,ae|aP]]
  (aa (cF zF1 rfl (tG rfl B.range %[ae,aG (oU rfl) rfl B.max qZ1 %[ae,aG (Cf rfl) rfl B.min PyProof.Rows.boot_min %[ae,aG aE rfl B.len zC1 %[0|aP]|aP]|aP]|aP]) (bc (i:=7) fh.nd rfl (.inl rfl)) (aa (ai (i:=1) fh.nd rfl (Or.inr rfl) (aj o9 hr ⋯ rfl %[0,7|aP]))
   (aa (ai (i:=8) fh.nd rfl (.inl rfl) (aj JX hr ⋯ rfl (af (pv 1) (af (cH (N:=["_law_feed_here"]) (ix:=[1]) rfl
    #[3] rfl
    (ip (pv 3)) (λ_ _ _=>cR (aj aX hr ⋯ rfl %[1,ae|aP]))) %[6|aP]))))
   (gl (t':=tA81 CG) (aa #[ai,9,fh,bQ (gn MM GM hr2 rfl TM.mgC bM .nil aZ %[5,8|aP]) TM.cl mS GS hr25 bS .nil aZ %[aG aE rfl B.len zC1 %[3|aP],ae,ae,dL aP|aP]]
   (gl (t':=tB81 CG) (aa (rc (aj jV hr ⋯ rfl %[5,8|aP]) (rC rfl (eg (bc (i:=10) fh.nd rfl (.inl rfl)) (eg (bc (i:=11) fh.nd rfl (.inl rfl)) mL))))
   (aa (aI (eY (aj fN hr ⋯ rfl %[5,9|aP])) (ad (aI (PW.pt (ii (ag gQ (pv 10) (aj fq hr ⋯ rfl %[5,9|aP]) (ax _)) (gP (ag yj (pv 11) ky (ax _))))) (ad (am iF)) az)) (ad (aI (ag (IY hr.units) (aj jV hr ⋯ rfl %[5,Gx C5 hr ⋯ rfl|aP]) (aF %[aj fq hr ⋯ rfl %[5,9|aP],ky|aP]) (ax _)) (ad (am iF)) az)))
   (gl (t':=tC81 CG) (ad (aI (PW.pt (kx (ag Gz (pv 11) ky (ax _)) (jB (ag (uW hr.units) (aM ix_tup (aj C6 hr ⋯ rfl %[5,8,bt oh rfl B.list lU %[11|aP]|aP]) ae #[1]) (aF %[ao|aP]) (ax _))))) (ad (am iF)) az)) ?cC))) ?cB)) ?cA))))
  (ad (am iF))))))),?_⟩
 case cC=>
  rintro Dn σ H ⟨x0,x1,x2,x6,x7,x9,x10,sb,g,h,v,ns,ts,p,rows,rfl,Z,o4,w3,q⟩;let k:=Z.SG.gm;let nl:=Z.SG.nl;let n6:ns.length<=6:=by omega
  erw[d,GD]at Z.G;erw[rv,hh,RW]at Z.hh;cases eo:(sV ns ts p rows).2 with
  | none=>
    rw[eo]at o4
    have:v=.non:=o4
    subst this;erw[0,1,0,dI ?_];exact q _ (Same.refl _)
  | some c=>
    rw [eo]at o4;erw[b,1,hb]at o4;let%[v2,v3|v4]:=w3 c eo;erw[0,1,0,eF ?_];erw[0,0,0,b,0,.inr (zD0 hb),λl5 hl5=>?_];let I5:=zC0 hl5 (.lst (c.map V.int));let e5:upd H l5 (.lst (c.map V.int)) l5=some (.lst (c.map V.int)):=aJ;generalize upd H l5 (.lst (c.map V.int))=H5 at I5 e5;let cn:=iZ (ts:=ts) n6;let cnl:ns.length+(if 1<ts.length then 1 else 0)<=c.length:=by
     rw[v2];unfold bz
     split <;> split <;> omega
    erw[g,h,l5,rv,rows,ns,ts,p,c,1,(GD.same I5).gm.1,k,n6,I5 _ _ hh,RW.mono (aY I5),Z.gd,.inl e5,v3,cnl,3,λa6 H6 S6 Td=>?_];erw[tb,tc,us,t1,t2,t3,t4]at Td.ex;erw[a6,_,(1),0,1,zD0 t1,cx (j:=1) rfl,y1S,λu hu=>?_];let I7:=zC0 hu (.tup [.str "believed"]);let e7:upd H6 u (.tup [.str "believed"]) u=_:=aJ;generalize upd H6 u (.tup [.str "believed"])=H7 at I7 e7;let%[be|ww]:=CC (rows:=rows) k n6 v3;erw[_,awD (("believed":Str),none),IM (I7 _ _ t4),.tup (zD0 e7) (.cons (.str _) .nil),tD ww,tD (.inr (.inr (.inr rfl))),0,6];rw[Jx];refine aD (λz=>v4 (congrArg Prod.fst z)) ?_;exact q _ (I5.trans (S6.trans I7))
 case cB=>
  rintro Dn σ H ⟨x0,x1,x2,x6,x7,x10,x11,sb,g,h,l,ns,ts,p,rows,xs,rfl,Z,hl,hs,xl,q⟩;let k:=Z.SG.gm;let nl:=Z.SG.nl;let n6:ns.length<=6:=by omega
  let p2:=k.p2;let pm:=Z.SG.p120 Z.pw;let%[w1|w3]:=HJ k n6 Z.SG.nd hs xl;erw[d,GD]at Z.G;erw[rv,hh,RW]at Z.hh;erw[0,0,g,h,rv,rows,ns,ts,p,1,GD.gm.1,k,n6,hh,RW,Z.gd,by have:=Z.pw;omega,λa2 H2 S2 W2=>?_];rw[sW k n6]at W2;let W2:JR H2 a2 (sV ns ts p rows):=W2;erw[v,h2,o2]at W2;erw[a2,0,zD0 h2,1,_,0,2,6];let GD2:=GD.same S2;let hl2:=S2 _ _ hl;erw[0,0,g,l,ns,ts,xs,p,1,GD2.ok,3,hl2,xl,λH3 S3=>%[0|6]];let GD3:=GD2.same S3;let hl3:=S3 _ _ hl2;cases W:wrg p (ovr xs (eQ ts ns))with
  | true=>
    let%[le|nn]:=w1 W;refine eF ?_;erw[0,0,0,g,d,l,ns,ts,xs,p,1,GD3,3,3,hl3,xl,λH4 S4=>?_];erw[2,0,aD #[0] ?_];let S24:=S3.trans S4;let o4:=o2.mono (aY S24);let vn:¬ v=.non:=λz=>by
     subst z;cases eo:(sV ns ts p rows).2 with
     | none=>exact nn eo
     | some c=>rw[eo]at o4;erw[b,e,_]at o4;cases e
    erw[0,1,0,aD vn ?_];erw[_,_,_,_,_,_,_,sb,g,h,v,ns,ts,p,rows,1,Z.same (S2.trans S24),o4,w3,λH' S'=>q _ _ _ (S2.trans (S24.trans S'))]
  | false=>
    refine dI ?_;erw[0,1,λho tvh H4 hho Rho S4=>?_];let GD4:=GD3.same S4;erw[g,ho,tvh,vx,ns,ts,p,1,GD4.gm.1,k,n6,hho,Rho,Ho,by have:=Z.pw;omega,λa5 H5 S5 W5=>?_];rw[show vx=hB "i" from rfl,vy k n6 Z.SG.nd (hon_B (x:="i") k n6 Z.SG.nd Z.SG.d60)]at W5;let S35:=S4.trans S5;erw[0,0,g,d,l,ns,ts,xs,p,1,GD3.same S35,3,3,S35 _ _ hl3,xl,λH6 S6=>?_];erw[y2S,λa7 h7=>?_];let eL:sU p ns.length ts.length (cgt p (ns.map (bm ts))) (ovr xs (eQ ts ns))=p ^ bz ns ts:=by
     unfold sU bz;rw[W,NP qC0]
    rw[eL];let I7:=zC0 h7 (.tup [.int (p ^ bz ns ts),.non]);let e7:upd H6 a7 (.tup [.int (p ^ bz ns ts),.non]) a7=_:=aJ;generalize upd H6 a7 (.tup [.int (p ^ bz ns ts),.non])=H7 at I7 e7;erw[v5,h5,o5]at W5;let S57:=S6.trans I7;erw[wtD (p ^ bz ns ts,none),wtD (p ^ bz ns ts,none),.tup (zD0 (S57 _ _ h5)) (.cons (.int _) (.cons (o5.mono (aY S57)).rep .nil)),.tup (zD0 e7) (.cons (.int _) (.cons .non .nil)),oo _,oo _,0,6];rw[Iu];refine dI ?_;let S27:=S3.trans (S35.trans S57);erw[_,_,_,_,_,_,_,sb,g,h,v,ns,ts,p,rows,1,Z.same (S2.trans S27),o2.mono (aY S27),w3,λH' S'=>q _ _ _ (S2.trans (S27.trans S'))]
 case cA=>
  rintro Dn σ H ⟨x0,x1,x2,x6,x7,x9,x10,x11,sb,g,h,ns,ts,p,rows,rfl,Z,q⟩;let k:=Z.SG.gm;let nl:=Z.SG.nl;let n6:ns.length<=6:=by omega
  let p2:=k.p2;let t1:=k.t1;let t10:=k.t10;erw[d,GD]at Z.G;erw[rv,hh,RW]at Z.hh;erw[tv,hb,tvl]at Z.hb;erw[0,0,λM dm hM0 hdm0 nM=>?_];let K1:Same H (upd (upd H dm (.own M)) M (.ins CM dm [])):=λa o e=>by
   rw[aB (aQ e hM0),aB (aQ e hdm0)];exact e
  erw[M,g,h,dm,1,aJ,λb H2 b0 hM2 hb2 S2=>%[1|6]];let T2:Same H H2:=Same.but K1 hM0 S2;let b00:H b=none:=K1.free b0;clear K1 S2 b0;erw[M,dm,0,hM2,Ie,0,sb,0,.inr (zD0 (T2 _ _ hb)),y0S,λc0 hc0=>?_];let I3:=zC0 hc0 (.lst []);let e3:upd H2 c0 (.lst []) c0=some (.lst []):=aJ;generalize upd H2 c0 (.lst [])=H3 at I3 e3;let T3:=T2.trans I3;let%[ok,_,ho|bo]:=vk (rows:=rows) k n6;rw[tvl];erw[M,g,h,b,dm,c0,rv,(Tk.new ts).ak ns ts p,rows,(Tk.new ts).bx,(0),1,I3 _ _ hM2,T3 _ _ hh,RW.mono (aY T3),Z.gd,%[[],I3 _ _ hb2,zG0 _|λ_=>rfl],bo,4,(GD.same T3).gm.1,ok,.inl e3,by show(0:Int)<=(ts.length:Int);omega,by show(ts.length:Int)<=500;omega,λl H4 l0 hl4 _ _ B4=>?_];let T4:Same H H4:=λa o e=>B4 _ _ (aQ e hM0) (aQ e b00) (T3 _ _ e)
  let xl:((Tk.new ts).said ns ts p rows).length=ts.length:=by
   let%[_,_|r3]:=jz (rows:=rows) ok 200 %[(0),(Tk.new ts).bx|[]] bo (λx hx=>by cases hx) (by show(0:Int)<=(ts.length:Int);omega)
   have:(((Tk.new ts).said ns ts p rows).length:Int)=(ts.length:Int):=mN r3
   omega
  erw[_,_,_,_,_,_,_,sb,g,h,l,ns,ts,p,rows,0,Z.same T4,hl4,1,xl,λy10 y11 H' S'=>q _ _ _ _ (T4.trans S')]
 erw[0,a,sn,0,hS,h63,⋯,⋯,λf0 H1 f00 s1 F1=>?_];erw[0,f0,1,F1,λgt sa sb ns tv ts p H2 hgt hsa hsb TS SG pw F2 S2=>?_];erw[gt,0,zD0 hgt,1,_,0,_,0,2,6];let SH2:Same H H2:=s1.but f00 S2;let k:=SG.gm;let nl:=SG.nl;let p2:=SG.p2;let p9:=SG.p9;let t1:=SG.t1;let t4:=SG.t4;erw[0,0,0,λg dx nx ndx nex=>?_];let s3:Same H2 (upd (upd H2 dx (.own g)) g (.ins CG dx [])):=λb o e=>by
  rw[aB (aQ e nx),aB (aQ e ndx)];exact e
 erw[g,dx,sa,sb,ns,tv,ts,p,1,aJ,s3 _ _ hsa,SG.nd,3,s3 _ _ hsb,TS.mono (aY s3),t1,3,k.tok,k.pr,p2,p9,k.tp,k.tc,λd H3 d0 GA hd S3=>%[1|6]];let dnf:d≠f0:=(F2.same s3).ne d0;let S23:Same H2 H3:=λb o e=>S3 b o (aQ e nx) (s3 b o e)
 let hsa3:=S23 _ _ hsa;let hsb3:=S23 _ _ hsb;let TS3:=TS.mono (aY S23);let F3:=F2.same S23;let S03:=SH2.trans S23;let GD3:GameD CG H3 g d ns ts p:=%[sa,sb,tv,GA,hsa3,3,hsb3,TS3,3,λt ht=>%[(k.tok t ht).1|by have:=(k.tok t ht).2.2.1;omega],hd|λx hx=>by have:=k.deg x hx;omega]
 let tvl:=TS3.length;clear s3 S3 nx ndx nex hgt hsa hsb TS S2 F1 s1 S23 d0 F2 SH2;erw[0,f0,(3),1,F3,4,4,λnm bs H4 nm0 nmf hnm bl _ _ F4 S4=>?_];let%[_,_,hf3|_]:=id F3;let GD4:=GD3.but %[_|hf3] dnf S4;let hsb4:=S4 _ _ (bp hsb3 hf3 nofun) hsb3;let S04:Same H H4:=λa o e=>S4 _ _ (aQ e f00) (S03 _ _ e)
 let bl3:bs.length=3:=bl;clear hsa3 hsb3 TS3 F3 S03 GD3 GA hd hf3 S4 F4;let hlen:(sn.map V.int).length=sn.length:=zF0 _;erw[0,a,0,.inl (S04.seq hS),_,0,_,0,6];erw[_,0,%[4,4,by(repeat' split) <;> omega|by(repeat' split) <;> omega],cW (λi σ H'=>∃x1 x7 x8 x9 x10 x11:Option V,σ=[some (.ref a),x1,some (.ref sa),some (.ref sb),some (.int p),some (.ref g),some (.ref nm),x7,x8,x9,x10,x11]/\Same H4 H') %[_,_,_,_,_,0|Same.refl _] ?_ ?_]
 . rintro i σ H5 hi ⟨x1,x7,x8,x9,x10,x11,rfl,S5⟩;let hi':i<63:=by
    rw[hlen]at hi
    revert hi
    (repeat' split) <;> omega
   let S05:=S04.trans S5;erw[0,0,a,sn,0,S05.seq hS,h63,(show(0:Int)<=1+(i:Int) by omega),(show(1:Int)+(i:Int)<1000000 by omega),λf1 H6 f10 s6 F6=>?_];let hsb6:=s6 _ _ (S5 _ _ hsb4);let hnm6:=s6 _ _ (S5 _ _ hnm);erw[0,0,sb,1,%[_|zD0 hsb6],λD hD=>?_];let Df:D≠f1:=F6.ne hD;refine gC (K:=K) (xs:=tv) (λj H'=>∃cl:List Int,H' D=some (.lst (cl.map V.int))/\cl.length=j/\FeedAt H' f1/\SameBut f1 H6 H') %[[],aJ,1,F6.same (zC0 hD _)|zJ0 (zC0 hD _)] (λj H' _ NV=>by erw[_,_,_,_,h]at NV;exact zD0 (h _ _ (by erw[_,_,hf,_]at F6;exact bp hsb6 hf nofun) hsb6)) ?_ ?_
   . rintro j y H7 hy ⟨cl,hD7,cll,F7,B7⟩;let hj:=(zY0 hy).1;erw[0,f1,(20),1,F7,4,4,λe H8 e0 e1 F8 B8=>?_];let hD8:=B8 _ _ Df hD7;erw[_,hD8,aN (by rw[zF0];omega),Nx.of hj ⟨cl++[e],by rw[aJ,zL0];rfl,by rw[zK0,cll];rfl,by erw[o,st,e,r]at F8;exact⟨o,st,by rw[aB Df.symm];exact e,r⟩,?_⟩];intro b o bn eb
     by_cases c:b=D
     . subst c;rw[hD]at eb;cases eb
     . rw[aB c];exact B8 _ _ bn (B7 _ _ bn eb)
   rintro H7 ⟨cl,hD7,cll,F7,B7⟩;erw[0,f1,D,nm,cl,bs,1,F7,hD7,Df,3,3,B7 _ _ (aQ (S5 _ _ hnm) f10) hnm6,(aQ (S5 _ _ hnm) f10),bl3,λh rv rows H8 hh RW gd B8=>?_];let B68:=B7.trans B8;let S8:Same H5 H8:=s6.but f10 B68;let S48:=S5.trans S8;erw[_,_,_,_,_,_,_,_,sb,g,h,ns,ts,p,rows,1,%[%[d|GD4.same S48],SG,pw,%[tv,S48 _ _ hsb4|tvl],%[rv,hh|RW]|gd],λy9 y10 y11 H' S'=>%[_,_,_,_,_,0|S48.trans S']]
 . rintro σ H5 ⟨x1,x7,x8,x9,x10,x11,rfl,S5⟩;exact q H5
end
def kept_vals {a b c d e f g h i j k l:Tok}:Vals (kept.map V.str) [.str "yes" a,.str "no" b,.str "not" c,.str "and" d,.str "or" e,.str "odd" f,.str "same" g,.str "round" h,.str "due" i,.str "asked" j,.str "true" k,.str "coin" l]:=
 .cons %[|0] (.cons ⟨_,rfl⟩ (.cons ⟨_,rfl⟩ (.cons ⟨_,rfl⟩ (.cons ⟨_,rfl⟩ (.cons ⟨_,rfl⟩ (.cons ⟨_,rfl⟩ (.cons ⟨_,rfl⟩ (.cons ⟨_,rfl⟩ (.cons ⟨_,rfl⟩ (.cons ⟨_,rfl⟩ (.cons ⟨_,rfl⟩ .nil)))))))))))
def sign_vals {a b c d e f:Tok}:Vals (signW.map V.str) [.str "+" a,.str "-" b,.str "*" c,.str "/" d,.str "=" e,.str "<" f]:=
 .cons %[|0] (.cons ⟨_,rfl⟩ (.cons ⟨_,rfl⟩ (.cons ⟨_,rfl⟩ (.cons ⟨_,rfl⟩ (.cons ⟨_,rfl⟩ .nil)))))
def ask_vals {a b:Tok}:Vals (askW.map V.str) [.str "coin" a,.str "true" b]:=.cons %[|0] (.cons ⟨_,rfl⟩ .nil)
def plain_vals {a b c:Tok}:Vals (plainW.map V.str) [.str "round" a,.str "due" b,.str "asked" c]:=.cons %[|0] (.cons ⟨_,rfl⟩ (.cons ⟨_,rfl⟩ .nil))
end
abbrev FH(K:W.Frag)(x:Str)(s:Stmt):Prop:=∃f,W.nsIn K mainGlobals x=some (some (.ref f))/\∃fd,Fun K x x s f fd
abbrev MH(K:W.Frag)(C:Addr)(x y:Str)(s:Stmt):Prop:=∃g,W.findIn K (.ref C) x=some (some (.ref g))/\W.isFn K (.ref g)=true/\∃fd,Fun K x y s g fd
abbrev CH (K:W.Frag) (x:Str) (C:Addr):Prop:=W.nsIn K mainGlobals x=some (some (.ref C))/\W.plainGet K C Str.empty=true/\W.hasDictIn K C=true/\W.plainOver K C=true/\W.findIn K (.ref C) "__setattr__"=some (some (.builtin "object.__setattr__"))/\W.makesIn K C=true/\W.keepIn K (.ref C)=true
abbrev HF(K:W.Frag)(C:Addr)(x:Str):Prop:=W.findIn K (.ref C) x=some none
abbrev HZ(K:W.Frag)(x:Str):Prop:=W.nsIn K mainGlobals x=some none
def aU{K:W.Frag}{h:Heap}{mg:Str->Option Value}(X:K.In h)(G:h.Ns mainGlobals mg)(z:FH K x s):∃f fd,Fun K x x s f fd/\mg x=some (.ref f):=by
 erw[f,a,fd,F]at z;erw[f,fd,F,qX0 X G a]
def cQ{K:W.Frag}(z:MH K C x y s):∃f fd,Fun K x y s f fd/\Meth K C x f:=by
 erw[f,a,i,fd,F]at z;erw[f,fd,F,a,i,F.kp]
def all_mk {l:PySem.W.OpenLaw} {w:World} {K:W.Frag} {h:Heap} {mg:Str->Option Value} {fa fl CG C CA CM CS:Addr} (X:K.In h) (G:h.Ns mainGlobals mg) (hfa:mg "law"=some (.ref fa))
 {od an:Option Addr} {sl:Array (Option Value)} {oc kV dc pm cd ct:Value}
 {t1 t3 t4 t5 t6 u1 u2 u3 uh ul:Tok} {ka ja qa pa:Addr} {kd jd qd pd:Option Addr} {kits jits qits pits:Array Value} {kn jn qn pn:Nat} {ksl jsl qsl psl:Array (Option Value)}
 {te tm tr:Tok}
 (aL:W.nsIn K mainGlobals "law"=some (some (.ref fl))) (lL:K.lookup fl=some %[oc,od,.func (W.fnOf "law" "law" (jI ms) (gq ms) (ah ms) .none kV dc pm an cd ct)|sl]) (cL:W.codeIn K cd "law"=true) (kL:W.keepIn K (.ref fl)=true)
 (h0:FH K "is_field" lO)
 (h1:FH K "inverse_of" jv)
 (h2:FH K "is_number" kc)
 (h3:FH K "value_at" lF)
 (h4:FH K "both_ends" ki)
 (h5:FH K "value_behind" ia)
 (h6:FH K "products" lH)
 (h7:FH K "inverse_factorials" dZ)
 (h8:FH K "all_settings" ig)
 (h9:FH K "holds_at" jw)
 (h10:FH K "joined" qO)
 (h11:FH K "count_of" lP)
 (h12:FH K "trees_within" ib)
 (h13:FH K "size_of" kQ)
 (h14:FH K "names_in" jp)
 (h15:FH K "all_sizes" ku)
 (h16:FH K "counts_of" kh)
 (h17:FH K "true_row" lG)
 (h18:FH K "value_of" jo)
 (h19:FH K "op_value" lI)
 (h20:FH K "divided" oF)
 (h21:FH K "power" uB)
 (h22:FH K "rows_of_coins" gN)
 (h23:FH K "asked_once" jy)
 (h24:FH K "talked" qI)
 (h25:FH K "weighed" ox)
 (h26:FH K "weighed_behind" eB)
 (h27:FH K "first_row" kf)
 (h28:FH K "worth_of" jm)
 (h29:FH K "joined_worth" ie)
 (h30:FH K "degree_of" kg)
 (h31:FH K "look_switches" gO)
 (h32:FH K "look_names" jq)
 (h33:FH K "look_field" jr)
 (h34:FH K "look_size" jZ)
 (h35:FH K "is_name" oE)
 (h36:FH K "is_figures" ju)
 (h37:FH K "read_helper" iL)
 (h38:FH K "helper_row" jx)
 (h39:FH K "next_name" jY)
 (h40:FH K "next_figures" ic)
 (h41:FH K "next_term" iB)
 (h42:FH K "term_in_bracket" dM)
 (h43:FH K "honest" qP)
 (h44:FH K "best_liar" kj)
 (h45:FH K "differences" iM)
 (h46:FH K "are_wrong" kq)
 (h47:FH K "blind_spots" iO)
 (h48:FH K "let_by_at_most" fX)
 (h49:FH K "caught_rows" iN)
 (h50:FH K "_law_power" oB)
 (h51:FH K "_law_feed" qN)
 (h52:FH K "_law_take" qK)
 (h53:FH K "_law_names" cj)
 (h54:FH K "_law_tree" mv)
 (h55:FH K "_law_names_of" gU)
 (h56:FH K "_law_need" qL)
 (h57:FH K "_law_is_prime" jt)
 (h58:FH K "_law_term" mx)
 (h59:FH K "_law_helper" lN)
 (h60:FH K "_law_liar" qM)
 (h61:FH K "_law_without" iC)
 (h62:FH K "_law_small" oA)
 (h63:FH K "_law_least" oC)
 (h64:FH K "_law_turned" lJ)
 (h65:FH K "_law_onward" lK)
 (h66:FH K "_law_any" uE)
 (gmc:CH K "Game" CG)
 (dbc:CH K "Doubter" C)
 (asc:CH K "Asking" CA)
 (mcc:CH K "Machine" CM)
 (scc:CH K "Scan" CS)
 (MC:MH K CG "__init__" "Game.__init__" uF)
 (gmmM:MH K CG "mix" "Game.mix" xW)
 (gmmW:MH K CG "worth_at" "Game.worth_at" qQ)
 (gmmC:MH K CG "coins" "Game.coins" qR)
 (dbmI:MH K C "__init__" "Doubter.__init__" uJ)
 (dbmW:MH K C "waits" "Doubter.waits" qS)
 (dbmU:MH K C "due" "Doubter.due" xY)
 (dbmH:MH K C "hear" "Doubter.hear" uK)
 (dbmT:MH K C "toss" "Doubter.toss" uI)
 (dbmC:MH K C "hear_claims" "Doubter.hear_claims" oG)
 (dbmB:MH K C "begin_rounds" "Doubter.begin_rounds" qU)
 (dbmR:MH K C "hear_row" "Doubter.hear_row" xX)
 (dbmG:MH K C "go_on" "Doubter.go_on" Dq)
 (dbmE:MH K C "look_at_trees" "Doubter.look_at_trees" qT)
 (dbmN:MH K C "twin" "Doubter.twin" uH)
 (asmI:MH K CA "__init__" "Asking.__init__" uM)
 (asmP:MH K CA "plain_value" "Asking.plain_value" qV)
 (asmC:MH K CA "coin_at" "Asking.coin_at" uN)
 (asmN:MH K CA "true_numbers" "Asking.true_numbers" oH)
 (asmR:MH K CA "true_at" "Asking.true_at" uL)
 (mcmI:MH K CM "__init__" "Machine.__init__" uD)
 (mcmS:MH K CM "say" "Machine.say" xU)
 (mcmR:MH K CM "do_row" "Machine.do_row" xV)
 (mcmN:MH K CM "twin" "Machine.twin" uC)
 (scmI:MH K CS "__init__" "Scan.__init__" uA)
 (scmE:MH K CS "enter" "Scan.enter" qJ)
 (scmS:MH K CS "sees" "Scan.sees" uz)
 (scmT:MH K CS "take" "Scan.take" uy)
 (scmW:MH K CS "word" "Scan.word" ux)
 (scmF:MH K CS "finish" "Scan.finish" oy)
 (t9:HF K CG "switches")
 (gmn_trees:HF K CG "trees")
 (gmn_field:HF K CG "field")
 (gmn_degrees:HF K CG "degrees")
 (dbn_game:HF K C "game")
 (dbn_awaited:HF K C "awaited")
 (dbn_claims:HF K C "claims")
 (dbn_s:HF K C "s")
 (dbn_heard:HF K C "heard")
 (dbn_tossed:HF K C "tossed")
 (dbn_held:HF K C "held")
 (dbn_places:HF K C "places")
 (asn_game:HF K CA "game")
 (asn_number:HF K CA "number")
 (asn_many:HF K CA "many")
 (asn_held:HF K CA "held")
 (asn_s:HF K CA "s")
 (asn_tossed:HF K CA "tossed")
 (asn_truths:HF K CA "truths")
 (mcn_game:HF K CM "game")
 (mcn_helper:HF K CM "helper")
 (mcn_next_round:HF K CM "next_round")
 (mcn_boxes:HF K CM "boxes")
 (scn_text:HF K CS "text")
 (scn_row:HF K CS "row")
 (scn_most_within:HF K CS "most_within")
 (scn_most_parts:HF K CS "most_parts")
 (scn_place:HF K CS "place")
 (scn_parts:HF K CS "parts")
 (g1:W.nsIn K mainGlobals "LETTERS"=some (some (.str LET t1)))
 (g3:W.nsIn K mainGlobals "LONGEST_NAME"=some (some (.int 6 t3)))
 (g5:W.nsIn K mainGlobals "KEPT_WORDS"=some (some (.ref ka)))
 (g6:K.lookup ka=some %[.type "tuple",kd,.seq kits kn|ksl])
 (g7:kits.size<=100)
 (g8:Vals (kept.map V.str) kits.toList)
 (e1:W.nsIn K mainGlobals "WORD_ENDS"=some (some (.str ENDS t4)))
 (e2:W.nsIn K mainGlobals "MOST_WITHIN"=some (some (.int 8 t5)))
 (e3:W.nsIn K mainGlobals "MOST_PARTS"=some (some (.int 20 t6)))
 (w1:W.nsIn K mainGlobals "FIGURES"=some (some (.str FIG u1)))
 (w2:W.nsIn K mainGlobals "MOST_FIGURES"=some (some (.int 12 u2)))
 (w3:W.nsIn K mainGlobals "MOST_ROWS_helptexts"=some (some (.int 60 u3)))
 (j5:W.nsIn K mainGlobals "SIGNS"=some (some (.ref ja)))
 (j6:K.lookup ja=some %[.type "tuple",jd,.seq jits jn|jsl])
 (j7:jits.size<=100)
 (j8:Vals (signW.map V.str) jits.toList)
 (q5:W.nsIn K mainGlobals "ASKING_WORDS"=some (some (.ref qa)))
 (q6:K.lookup qa=some %[.type "tuple",qd,.seq qits qn|qsl])
 (q7:qits.size<=100)
 (q8:Vals (askW.map V.str) qits.toList)
 (p5:W.nsIn K mainGlobals "PLAIN_WORDS"=some (some (.ref pa)))
 (p6:K.lookup pa=some %[.type "tuple",pd,.seq pits pn|psl])
 (p7:pits.size<=100)
 (p8:Vals (plainW.map V.str) pits.toList)
 (wh:W.nsIn K mainGlobals "HONEST_ROWS"=some (some (.str ("set i 0\nsay (true i)\nset i (+ i 1)\ngo 1":Str) uh)))
 (wl:W.nsIn K mainGlobals "LIAR_ROWS"=some (some (.str ("if (= lied 0) 9\nif (= asked 1) 8\nsay (true 0)\nsay (- due (true 0))\nset i 2\nsay (true i)\nset i (+ i 1)\ngo 5\nsay (/ due 2)\nset lied 1":Str) ul)))
 (xmr:W.nsIn K mainGlobals "MOST_ROWS_weighing"=some (some (.int 4000 tr)))
 (ge:W.nsIn K mainGlobals "FIELDS_END"=some (some (.int 1000000 te)))
 (xmo:W.nsIn K mainGlobals "MOST_ROWS_DONE"=some (some (.int 200 tm)))
 (z0:HZ K "len") (z1:HZ K "range") (z2:HZ K "isinstance") (z3:HZ K "int") (z4:HZ K "bool") (z5:HZ K "list") (z6:HZ K "tuple") (z7:HZ K "max") (z8:HZ K "min") (z9:HZ K "reversed") (z10:HZ K "enumerate") (z11:HZ K "sum") (z12:HZ K "all") (z13:HZ K "zip") (z14:HZ K "dict") (z15:HZ K "any") :
 ∃fd:FuncData,(∀(s:Shared) (v:Value),BindsTo s fd %[[v]|[]] [("_law_script",v)])/\∀base:Heap,K.In base->base.Ns mainGlobals mg->FnOk l.prog w K mg base CX0 37 fa fd ["_law_script"] (spLaw K):=by
 let e:=hfa.symm.trans (qX0 X G aL);cases e;let ME:=Js (st:=ms) lL cL kL;exists 1,C9,KZ,h0,ug,Ks,h1,y6,KK,h2,Do,K2,h3,y8,KL,h4,l9,JY,h5,D1,K5,h6,iu,pk,h7,mi,JZ,h8,D4,D6,h9,Kt,Lu,h10,D7,K7,h11,mo,J0,h12,J8,J9,h13,D8,E1,h14,zo,KM,h15,A0,KN,h16,E3,K8,h17,E4,E5,h18,E6,K9,h19,Ka,Lk,h20,KW,Mz,h21,jW,E7,h22,u4,Ku,h23,Kv,Lv,h24,Kb,Lm,h25,jK,jR,h26,A3,KO,h27,E8,E9,h28,mq,J1,h29,A4,KP,h30,jX,Fx,h31,u5,Kw,h32,u6,Kx,h33,A5,KQ,h34,Kc,Ln,h35,u7,Ky,h36,pX,Kh,h37,u8,Kz,h38,A7,KR,h39,mr,J5,h40,A8,A9,h41,vX,v6,h42,KA,Lw,h43,B0,KS,h44,qh,Ki,h45,B9,KU,h46,qi,Kj,h47,jS,C7,h48,qF,Kk,h49,Kd,Lo,h50,KB,Lx,h51,KC,Ly,h52,Ke,Lq,h53,KD,KE,h54,u9,vS,h55,KF,Lz,h56,vU,KG,h57,KH,KI,h58,Fy,La,h59,KJ,LA,h60,C0,C1,h61,Kf,Lr,h62,Kg,Ls,h63,G7,Lb,h64,G9,Lc,h65,KY,MB,h66;erw[gmgg,gmpg,gmhdi,gmpov,gmsat,gmmki,gmkcl]at gmc;erw[dbgg,dbpg,dbhdi,dbpov,dbsat,dbmki,dbkcl]at dbc;erw[asgg,aspg,ashdi,aspov,assat,asmki,askcl]at asc;erw[mcgg,mcpg,mchdi,mcpov,mcsat,mcmki,mckcl]at mcc;erw[scgg,scpg,schdi,scpov,scsat,scmki,sckcl]at scc;exists 2,LB,LD,MC,LE,Ld,gmmM,LF,LG,gmmW,LH,LI,gmmC,LJ,LK,dbmI,LL,MF,dbmW,LM,MG,dbmU,LN,MI,dbmH,LO,MJ,dbmT,LP,ML,dbmC,LQ,LR,dbmB,LS,MN,dbmR,LT,LU,dbmG,LV,MO,dbmE,LW,MP,dbmN,LX,LY,asmI,LZ,MQ,asmP,L3,MR,asmC,L4,MT,asmN,L6,MU,asmR,L7,L8,mcmI,L9,Ma,mcmS,Mb,MV,mcmR,Mc,MW,mcmN,Md,Me,scmI,Mf,MX,scmE,Mg,Mh,scmS,Mi,MY,scmT,Mj,MZ,scmW,Ml,M1,scmF;let B:Bl mg:=%[qB1 X G z0,qB1 X G z1,qB1 X G z2,qB1 X G z3,qB1 X G z4,qB1 X G z5,qB1 X G z6,qB1 X G z7,qB1 X G z8,qB1 X G z9,qB1 X G z10,qB1 X G z11,qB1 X G z12,qB1 X G z13,qB1 X G z14|qB1 X G z15]
 erw[W.fnOf "law" "law" (jI ms) (gq ms) (ah ms) .none kV dc pm an cd ct,λs v=>.of_eq rfl,λbase _ _=>?_];let cal:=@Cal.of l.prog w K mg base;let TG:GTxt K mg CG:=%[%[gmpg,gmhdi,gmpov|gmsat],t9,gmn_trees,gmn_field,gmn_degrees|qX0 X G gmgg]
 let T:DTxt K mg C:=%[%[dbpg,dbhdi,dbpov|dbsat],dbn_game,dbn_awaited,dbn_claims,dbn_s,dbn_heard,dbn_tossed,dbn_held,dbn_places|qX0 X G dbgg]
 let TA:ATxt K mg CA:=%[%[aspg,ashdi,aspov|assat],asn_game,asn_number,asn_many,asn_held,asn_s,asn_tossed,asn_truths|qX0 X G asgg]
 let TM:MTxt K mg CM:=%[%[mcpg,mchdi,mcpov|mcsat],mcn_game,mcn_helper,mcn_next_round,mcn_boxes|qX0 X G mcgg]
 let TS:STxt K mg CS:=%[%[scpg,schdi,scpov|scsat],scn_text,scn_row,scn_most_within,scn_most_parts,scn_place,scn_parts|qX0 X G scgg]
 let TX:Tx K mg:=%[%[t1|qX0 X G g1],%[t3|qX0 X G g3],%[ka,qX0 X G g5|λ_=>.inr %[_,kits,kn,g6,1,1,zR0 g7 (cq ⋯)|g8]],%[t4|qX0 X G e1],%[t5|qX0 X G e2],%[t6|qX0 X G e3],%[u1|qX0 X G w1],%[u2|qX0 X G w2],%[u3|qX0 X G w3],%[ja,qX0 X G j5|λ_=>.inr %[_,jits,jn,j6,1,1,zR0 j7 (cq ⋯)|j8]],%[qa,qX0 X G q5|λ_=>.inr %[_,qits,qn,q6,1,1,zR0 q7 (cq ⋯)|q8]]|%[pa,qX0 X G p5|λ_=>.inr %[_,pits,pn,p6,1,1,zR0 p7 (cq ⋯)|p8]]]
 let M3:=LB.binds (ps:=["self","switches","trees","field"]) (by ac_rfl);let Le:=LE.binds (ps:=["self","numbers","s"]) (by ac_rfl);let Mm:=LF.binds (ps:=["self","point","s"]) (by ac_rfl);let Mn:=LH.binds (ps:=["self"]) (by ac_rfl);let Lg:=LJ.binds (ps:=["self","game"]) (by ac_rfl);let M4:=LL.binds (ps:=["self"]) (by ac_rfl);let M6:=LM.binds (ps:=["self"]) (by ac_rfl);let M7:=LN.binds (ps:=["self","values"]) (by ac_rfl);let M8:=LO.binds (ps:=["self","r"]) (by ac_rfl);let M9:=LP.binds (ps:=["self","values"]) (by ac_rfl);let Mo:=LQ.binds (ps:=["self","s"]) (by ac_rfl);let Na:=LS.binds (ps:=["self","values"]) (by ac_rfl);let Mp:=LT.binds (ps:=["self"]) (by ac_rfl);let Nb:=LV.binds (ps:=["self"]) (by ac_rfl);let Nc:=LW.binds (ps:=["self"]) (by ac_rfl);let Nd:=LX.binds (ps:=["self","game","number","many","due","s","coins"]) (by ac_rfl);let Nf:=LZ.binds (ps:=["self","word"]) (by ac_rfl);let Ng:=L3.binds (ps:=["self","place"]) (by ac_rfl);let Nh:=L4.binds (ps:=["self"]) (by ac_rfl);let Ni:=L6.binds (ps:=["self","place"]) (by ac_rfl);let Kl:=L7.binds (ps:=["self","game","helper"]) (by ac_rfl);let Mq:=L9.binds (ps:=["self","many","due","s","coins"]) (by ac_rfl);let Nj:=Mb.binds (ps:=["self","place","said","asking"]) (by ac_rfl);let Nk:=Mc.binds (ps:=["self"]) (by ac_rfl);let Nl:=Md.binds (ps:=["self","text","row","most_within","most_parts"]) (by ac_rfl);let Nm:=Mf.binds (ps:=["self","within"]) (by ac_rfl);let Mr:=Mg.binds (ps:=["self","signs"]) (by ac_rfl);let Nn:=Mi.binds (ps:=["self","signs"]) (by ac_rfl);let No:=Mj.binds (ps:=["self"]) (by ac_rfl);let Np:=Ml.binds (ps:=["self"]) (by ac_rfl);let o9:=cal KB (Bi KB B.len) Lx (by ac_rfl);let aX:=cal KC (Bf KC ) Ly (by ac_rfl);let my:=cal C9 (wv C9 ) KZ (by ac_rfl);let fg:=cal ug (sP ug ) Ks (by ac_rfl);let fJ:=cal y6 (uZ y6 B) KK (by ac_rfl);let eW:=cal D1 (wk D1 ) K5 (by ac_rfl);let fk:=cal iu (jP iu B eW fg) pk (by ac_rfl);let iw:=cal l9 (pP l9 B eW fk) JY (by ac_rfl);let cI:=cal Do (wg Do B iw) K2 (by ac_rfl);let lB:=cal y8 (vd y8 cI) KL (by ac_rfl);let bi:=cal mo (pQ mo ) J0 (by ac_rfl);let iU:=cal J8 (rJ J8 B J9 bi 10) J9 (by ac_rfl);let eT:=cal D8 (pC D8 E1 bi 10) E1 (by ac_rfl);let dy:=cal mq (pS mq ) J1 (by ac_rfl);let fV:=cal E8 (pA E8 E9 dy 10) E9 (by ac_rfl);let lj:=cal A4 (vb A4 B.max eT) KP (by ac_rfl);let hZ:=cal jX (oM jX B.enumerate) Fx (by ac_rfl);let jf:=cal u5 (sL u5 eT) Kw (by ac_rfl);let jh:=cal u6 (sM u6 %[te|qX0 X G ge] my) Kx (by ac_rfl);let lm:=cal A5 (uY A5 B.max) KQ (by ac_rfl);let gY:=cal Ke (yq Ke B.range aX) Lq (by ac_rfl);let gH:=cal KD (tI KD B.len KE aX 10) KE (by ac_rfl);let fQ:=cal u9 (lq u9 vS 10) vS (by ac_rfl);let C3:=cal KF (Bg KF B.len B.max fQ) Lz (by ac_rfl);let jj:=cal vU (sN vU B.range) KG (by ac_rfl);let r9:=cal Kd (yp Kd B) Lo (by ac_rfl);let jT:=cal Kg (yr Kg C3 jj) Ls (by ac_rfl);let gi:=cal C0 (mY C0 C1 B 10) C1 (by ac_rfl);let t8:=cal Kf (yo Kf B aX gY gH jT r9 gi) Lr (by ac_rfl);let lr:=cal zo (vg zo B TG iU) KM (by ac_rfl);let Nq:=DY (P:=l.prog) (w:=w) (base:=base) LB TG B.tuple B.len lj hZ jf jh lm;let Lh:=GN (P:=l.prog) (w:=w) (base:=base) LE TG B.reversed;let Ms:=Bm (P:=l.prog) (w:=w) (base:=base) LF TG Ld Lh Le fV;let Mt:=Bn (P:=l.prog) (w:=w) (base:=base) LH TG B.len;let Nr:=Bp (P:=l.prog) (w:=w) (base:=base) LV B T TG LG Ms Mm lr;let Mu:=Jb (P:=l.prog) (w:=w) (base:=base) LT B T TG MO Nr Nb;let Mv:=Bq (P:=l.prog) (w:=w) (base:=base) LQ T TG Ld Lh Le LU Mu Mp;let Nt:=yv (P:=l.prog) (w:=w) (base:=base) LP B T TG LR Mv Mo;let Nu:=GO (P:=l.prog) (w:=w) (base:=base) LS B T TG lB;let Nv:=Ec (P:=l.prog) (w:=w) (base:=base) LN B T TG fJ ML Nt M9 MN Nu Na;let Nw:=Ea (P:=l.prog) (w:=w) (base:=base) LO B T TG fJ cI LR Mv Mo LU Mu Mp;let Li:=Eb (P:=l.prog) (w:=w) (base:=base) LJ B T TG;let Ny:=Bo (P:=l.prog) (w:=w) (base:=base) LL T;let Nz:=GQ (P:=l.prog) (w:=w) (base:=base) LM T;let dX:=cal mi (pT mi B.range) JZ (by ac_rfl);let iA:=cal Kt (Bj Kt ) Lu (by ac_rfl);let f6:=cal D4 (pE D4 D6 iA 12) D6 (by ac_rfl);let m5:=cal D7 (wx D7 B.len dX f6) K7 (by ac_rfl);let fK:=cal A0 (vc A0 TG m5) KN (by ac_rfl);let m7:=cal E3 (wj E3 B TG LG Ms Mm dX) K8 (by ac_rfl);let r8:=cal Ka (yu Ka fg) Lk (by ac_rfl);let f7:=cal E6 (wn E6 r8) K9 (by ac_rfl);let NA:=Ee (P:=l.prog) (w:=w) (base:=base) LX B TA;let NB:=Br (P:=l.prog) (w:=w) (base:=base) LZ TA TG;let NC:=Ef (P:=l.prog) (w:=w) (base:=base) L3 B TA TG;let ND:=yw (P:=l.prog) (w:=w) (base:=base) L4 TA fK m7;let NE:=Ed (P:=l.prog) (w:=w) (base:=base) L6 B TA TG MT ND Nh cI;let AF:AskF l.prog w K mg base CA CG _ _ _ _ _ _:=⟨MQ,NB,Nf,MR,NC,Ng,MU,NE,Ni⟩
 let cJ:=cal E4 (pB E4 E5 TA TG AF f7 5) E5 (by ac_rfl);let Km:=DW (P:=l.prog) (w:=w) (base:=base) L7 TM;let NF:=GK (P:=l.prog) (w:=w) (base:=base) Mb B TM cJ;let Mw:=GJ (P:=l.prog) (w:=w) (base:=base) L9 B TM TA %[tm|qX0 X G xmo] ⟨asmki,LY.1,LY.2,askcl⟩ NA Nd MV NF Nj;let Y:Ways l.prog w K mg base C CM CG _ _ _ _ _ _ _ _ _ _:=⟨MF,Ny,M4,MG,Nz,M6,MI,Nv,M7,MJ,Nw,M8,Ma,Mw,Mq⟩
 let MDk:Mk K C _:=%[dbmki,LK.1,LK.2|dbkcl]
 let MMk:Mk K CM _:=%[mcmki,L8.1,L8.2|mckcl]
 let NG:=DZ (P:=l.prog) (w:=w) (base:=base) LW T MDk Li Lg;let NH:=DV (P:=l.prog) (w:=w) (base:=base) Mc B TM MMk Km Kl;let Z:Twins l.prog w K mg base C CM CG _ _ _ _:=%[MP,NG,Nc,MW,NH|Nk]
 let b6:=cal u4 (sR u4 B T TM Y) Ku (by ac_rfl);let C6:=cal Kv (Bd Kv B T TM Y MDk Li Lg MMk Km Kl b6) Lv (by ac_rfl);let je:=cal KW (DU KW B) Mz (by ac_rfl);let db:=cal jW (oK jW TG LI Mt Mn je) E7 (by ac_rfl);let fL:=cal A3 (va A3 B TG LI Mt Mn) KO (by ac_rfl);let dY:=cal jK (iG jK jR B T TM TG Y Z b6 fL 8) jR (by ac_rfl);let jV:=cal Kb (yk Kb T TM %[tr|qX0 X G xmr] MDk Li Lg MMk Km Kl db dY) Lm (by ac_rfl);let NI:=DT (P:=l.prog) (w:=w) (base:=base) Md TS;let NJ:=Be (P:=l.prog) (w:=w) (base:=base) Mf TS;let Mx:=DS (P:=l.prog) (w:=w) (base:=base) Mg TS;let NK:=DR (P:=l.prog) (w:=w) (base:=base) Mi B TS Mh Mx Mr;let NM:=DQ (P:=l.prog) (w:=w) (base:=base) Mj B TX TS;let NN:=ym (P:=l.prog) (w:=w) (base:=base) Ml B TS;let M:Mths l.prog w K mg base CS _ _ _ _ _ _ _ _ _ _:=⟨MX,NJ,Nm,Mh,Mx,Mr,MY,NK,Nn,MZ,NM,No,M1,NN,Np⟩
 let fb:=cal Kc (yt Kc B TX) Ln (by ac_rfl);let b9:=cal u7 (sO u7 B TX) Ky (by ac_rfl);let di:=cal A8 (mV A8 A9 vX v6 B TX TS M fb b9 8) A9 (by ac_rfl);let lV:=cal A7 (uX A7 TS M fb) KR (by ac_rfl);let f9:=cal mr (pR mr B TS M b9) J5 (by ac_rfl);let jk:=cal u8 (sQ u8 TX TS M %[scmki,Me.1,Me.2|sckcl] NI Nl lV f9 di) Kz (by ac_rfl);let eO:=cal pX (rK pX B TX jk) Kh (by ac_rfl);let C5:=cal KA (Bk KA ⟨uh,qX0 X G wh⟩ eO) Lw (by ac_rfl);let l7:=cal B0 (ve B0 B ⟨ul,qX0 X G wl⟩ eO) KS (by ac_rfl);let fo:=cal KH (tJ KH B KI aX 5) KI (by ac_rfl);let o7:=cal Fy (wu Fy B aX fo) La (by ac_rfl);let C4:=cal KJ (Bh KJ aX) LA (by ac_rfl);let ow:=cal G9 (wp G9 B) Lc (by ac_rfl);let o6:=cal G7 (wo G7 B aX) Lb (by ac_rfl);let JX:=cal KY (DX KY aX ow o6 l7 o7 C4) MB (by ac_rfl);let d8:=cal qh (rM qh B TG fK) Ki (by ac_rfl);let fN:=cal B9 (vf B9 B d8) KU (by ac_rfl);let i8:=cal qi (rO qi B TG Ld Lh Le d8) Kj (by ac_rfl);let i7:=cal qF (rN qF TG) Kk (by ac_rfl);let fq:=cal jS (mX jS B TG je db i7 fN i8) C7 (by ac_rfl);let MGk:Mk K CG _:=⟨gmmki,LD.1,LD.2,gmkcl⟩
 exact Ja ME B TG MGk Nq M3 TM MMk Km Kl Ma Mw Mq o9 aX gY t8 JX C5 fq fN C6 jV
def walk{l:PySem.W.OpenLaw}{q:Program}{loose:List Str}{XP:(Str->Option Value)->Heap->Prop}{YP:World->Heap->Prop}{d:DefRec}{K:Params->PySem.W.Frag}(hn:l.most=some 63)(hdf:d.params.defaults=[])
 (hY:∀(w:World)(h:Heap),YP w h->(K w.params).In h)
 (F:∀(w:World)(mg:Str->Option Value)(fa:Addr)(h:Heap),(K w.params).In h->h.Ns mainGlobals mg->mg d.name=some (.ref fa) ->
  ∃fd:FuncData,(∀(s:Shared) (u:Value),BindsTo s fd %[[u]|[]] [("_law_script",u)])/\∀base:Heap,(K w.params).In base->base.Ns mainGlobals mg->FnOk l.prog w (K w.params) mg base CX0 37 fa fd ["_law_script"] (spLaw (K w.params))) :
 PySem.W.WalkO q loose XP YP l.row.toRowW d [] (λf vs=>PySem.call f vs):=
 L2.walk_of (n:=63) (k:=37) (x:="_law_script") (CX:=λ_=>CX0) (sp:=λw=>spLaw (K w.params)) hn ⋯ hdf %[1,1,4|4] hY F (λ_ _ a ns hl _ hS=>%[a,ns,1,hS,hl|λ_=>rfl]) λ_ _ _ _ _ z=>z
end Mine
namespace PySem.W.Fast
example:=[5975573072514315949,16560120930513286230,6467167635728765643,8998356715223734661,12021277477963039753,4188192770875618601,6147297812671555887,15627988511065423238,12267587668352738637,6865373467772623611,15570907535280587257,14739516885515259873,12021501494210827439,16211830005504264258,18435349509845443912,16923798855964927710,16923477990454999151,12149804697289761738,11877566962705399076,5584946374494630978,14105468872589200485,1498695338735709736,10048499319101273013,12535375690213976858,11632631988874784273,5168829727422885175,9235018221795871043,12333991559748020169,863558175126334614,836707596173205934,15517796412118122697,3714915757868628016,3333307557151588060,10871769870908275968,5665145645305443570,16134879098792865934,9624558939467066877,18208104636290137216,6781553480932749458,12708558116559557081,16452805035409168076,1586518517165361382,13999801896543461525,5019161506357368421,15686514824033320484,7623088923203880039,4539072779698027264,1964722223077181555,13974228280662196124,7502468193075079435,2547454235242681784,13915777925422435741,15766228599975023985,17198778443067184262,4139359156703457507,279000197408994667,12530928186391354348,3412457553607425867,14213437306359759319,2024365467308002400,16551856447323304074,7070551805657696842,13745417274860119574,5278813145454692611,704513859639518824,8013415849562231400,2887668599877060781,13039432361798959234,14456705940808150758,2291732874499545718,9081279490786548842,14809795698011162102,1023465217011631172,1163729530958866656,16757716854761161439,3930316252435494838,7801535777288835554,17909561513955067100,367220591204570862,17983492092659653089,14493559971829977229,18069349245066851446,915599746179255182,12751558580786708001,7255881907500482716,18286973528594579008,6594957302355096777,18180257347823232972,1095404628495488821,10742978760921260429,9812351452667518507,3309896440126513131,2205374659377831258,10649481427347521465,1176793368410844098,11467868999808345091,10919812887908854292,4730565027431967138,5977230736910572682,6110973040393413919,17861249099645258583,11232979371804458273,13613896156858544465,13486732039719763634,12739665392195887575,1220945959464953541,2812097540163588037,9114335273665900210,4811695832150505050,153400742898146615,10804040744884650492,2356510769072773393,17592700277022541534,7922766543522631978,5545914487074551482,10562841192093642122,7733775408132333730,9415086679542036314,17176084832242194340,14648611607173703107,4214816245500987423,204338977935291045,9407827927839260834,14172936369310488990,13833877378249511631,1771261455985030850,17866939770741442202,8449626649376153734,17321694990476432526,7393536214191331405,4480889516266091123,3171306694247399433,6350104137046670391,694553412833564134,15027166576121196882,9846482665610336991,18121392010824142167,1841066154563035017,1149242089015397948,17895708677190778802,9776708704425871237,3550833942074095823,10484443058140217306,4835678688920896142,7581165186348062271,14535084091356762598,15182064376034202021,17694942689860955118,14594955008873266868,1549825494551992855,11899233723291391136,3924940922879391671,2906341389471471085,2049267011608392124,7317624843166152422,13134829650968655959,601820429687482792,17177891038043606820,10523572963335456134,9047159633377992685,10540723420181295240,12131190896866443476,6658295370373118276,8031258430267997693,5956267565783909205,1372282951557319130,5447144003896532365,6950336766018191326,7039033237772149530,11966787074688561005,4888830756603474501,7081684837327123282,17374668859069447579,3254376959097764296,15511879072594526960,4106008737926572706,9502553209534364640,9233438974680039464,15415911482999920309,16102535684158008508,3365362511745257345,8295021134281210184,10630446099929394338,10868627808091308580,1320977538032454169,13468460666118599146,14665164127826879766,4634332457436817373,88552749931312409,4062581231942714492,10553176262739933372,11370690786072434155,9778347072476724246,9127712352373460405,4505045529638775654,7282119482889615813,13329899826676480809,14766154628568388252,15653798240855498743,15510049040202421913,2433151021420727858,13605885747543639109,17852082716583049130,5104964769894415812,16770073826599465121,3536071316910721390,3235174963503468911,12421505524147583590,6004522217516288842,16608242206879963550,349700015127841224,17477773972163400414,3527699002450546327,16169278059211298320,2454278752784946679,3774015532244009229,9959886004471693068,12848974423157429777,7492559287692294524,9030841731996033550,15564360232267819974,16460318909221983059,8104845705711497323,15143256016945867350,3987791065350659421,1942773922646115764,3936350922212826336,6378300253201506727,2659418718983641885,13318058826183621523,1173667158965689085,4314384823131610224,14288576374946462473,16802694079085955681,9311357999580303673,14946059495044178896,11388231631998860452,1632111515021729178,8716025982901446856,13122885431302232165,4128246137675516581,6038551205611693110,6321230198997927529,9675342229620297508,17884272617115322803,6548500578131527969,14242170002533300717,7088463751676980884,15769096575170236848,12647418490518253524,10736858641968669104,18407879379687605483,7913718785627910848,2244714747662714137,5245728270449130032,1000127730874862853,7812133287163890805,15466576093582665087,5608758446175251290,4984513786941422675,8206975775625670098,13095379057254822833,11699619741129417265,13658246205071879452,9952964914131683382,11161640734831598576,12899691433318754404,15288206619969078592,17948523717269602796,8929011346545506338,12044868615980773100,11152726263222216422,1559433111394862617,1060626673115265542,6539657472660435352,17036556707458049458,18086383590056091321,7083831949705605523,18201929384102508261,11826636623102914976,3576258423888395828,15986333541477899641,5867756191436272225,6189391103899494051,3939808218904458484,562621712892272642,14208767335649721152,991466944650891242,6791908398860143698,13415305520642051108,1356380094759334361,346338129468388978,9433624273351966090,17289404176851497952,3746136633282587303,8603284247102572555,3424706461422718944,7385192391957842029,4840343271956726547,9456813714135622960,5245701370944565230,6051093495928776749,3703602986752539660,3995330893684181445,16529122754608541366,14764287153083855883,15613298318094080916,453067055698183302,3503013405166951332,9966602070357662959,15000565508515171224,8456584610594166713,1080891227721179894,8322127664875857390,179962089822096533,14018703819011615604,1439738509394429107,13959379882576611004,5516723327301785450,119568798828762531,5741345377469721779,9978897160751075086,8512319264428924773,6520346230827394361,9517377870670294520,7292995350650958792,18210678397315345009,13467639263182620565,14759136081555476535,18358019821789794566,376818929056738656,6492459069680016718,16601162258866886530,4093804178915667864,11688879101105215227,16054632266645632631,2984482340088253511,185954309569354381,11659099666626108568,17727443436131896649,3978551054024704062,7329762874359222636,15905460582661951806,16361385738094179659,3711776069250201717,9745374139102390948,9216512073769838930,4045506871306307119,10102780034424870987,66421645953731634,2574931074854006562,2210978144233158962,11157418431055413599,3384963983569667506,16828546445824736430,11822328368887978650,2076049267996078115,7259516861547607261,5076838906260546487,9087112286993526812,14315017888159238216,14035681225540111167,18348489032073490827,4156842284945884467,17552516165229409677,9640708152574585871,13607023081628573877,4338745750254759828,7511467732351835097,14145898115221601860,16997325554918964357,10009153489723448555,4714242644799041797,14200116325917898418,6790169426075784180,10180276766321699144,6097108169845898218,85479041928897148,12218181247763667347,16762302211823026552,8826054954108383939,15004292175832589068,6306120679107070235,627202571723264243,3439535579730201998,4978417559113557202,12691704552278047736,757968601953667350,3371410073221712844,12031267549403177657,1929483002456632969,796903739286462977,5205747849297531898,3849317293629110488,8554324555617972244,9026179650679588015,338304524337318272,11882064156696459369,707124710994952310,4814471082523779739,292530098090248660,1579579102281781969,3629283030546420520,2034886424074418255,6578422746870539508,14033616698367117608,3036379083506542201,16507607373691736394,1837396697335228661,16415911642382194234,14200922629105581089,13340272029290752347,7049398377368771053,2663537033538712658,9987065239681226527,12679264790426094509,2745497597746838404,4524360395802026386,17993148151564057732,4609050977789123083,8385414844230943001,17183992992316697271,136719868020921416,2809091037028651978,13282256114194508722,948631660277627286,8958939602329583152,16398751648641626240,18354444815661447413,4761939031673888159,16161297990775778433,2918495766842913803,9712051480918221634,4841945693774814602,13037824770125290334,10385677373474545753,9077132785373594069,10776816817816981157,16872824833800903644,17270902887571549108,11425903253625735999,838433070568362710,16957413221612967570,16658588485161036931,8814479903841264940,7724942177744835723,15680976880134599339,9211399499348482623,10162791488048233227,1095389415341208450,16616446749380963817,13156155444079603005,1531039647671238958,3364655610967135784,10440661241222169142,1277149825834609496,6604144780086422579,10139327675615551796,2909594955113262664,14062486900684657906,15954747500468642059,1065740889264703305,2516389316849910405,717871667558903522,3962093482885357825,1672245781798808169,4954005015623965575,1362212645959599508,611098307397426261,16662576781389401806,6072656197140690431,3898612611688081960,11981325332376509298,3681246014320372309,17099886592197206600,4587736577339794780,18357479876305098216,4654272490788208977,10033005900203679536,12022638309530534364,4902064911337621726,16060210487932099531,5286697070764771043,10344550024198393039,11497325359386381004,6226647458650422916,4578990353713409874,4621845758712140479,5802033240300231010,13021076737583938886,10227091208184831901,10095077810349830763,14591090133210954921,5082908868670298380,357709132742880664,6315451733527526172,3450865503013513385,12184374997962377917,5128416071264572313,2855462274882417895]
end PySem.W.Fast
open PySem PySem.W PyProof.Rows
set_option maxRecDepth 100000 in
set_option maxHeartbeats 0 in
theorem PySem.Challenge.cw_asktally_k81_whole_any_helper_holds : PySem.Challenge.rw_asktally_k81_whole_any_helper.Holds := by
 w_on; o_law; k_head; (case hw=>w_witness2)
 k_fill
 refine Mine.walk (l:=PySem.Challenge.rw_asktally_k81_whole_any_helper) rfl rfl (λw h Y=>PySem.W.kIn_of Y) ?F
 case F =>
  intro w mg fa h KX G hmg
  refine' Mine.all_mk KX G hmg ?aL ?lL ?cL ?kL ?h0 ?h1 ?h2 ?h3 ?h4 ?h5 ?h6 ?h7 ?h8 ?h9 ?h10 ?h11 ?h12 ?h13 ?h14 ?h15 ?h16 ?h17 ?h18 ?h19 ?h20 ?h21 ?h22 ?h23 ?h24 ?h25 ?h26 ?h27 ?h28 ?h29 ?h30 ?h31 ?h32 ?h33 ?h34 ?h35 ?h36 ?h37 ?h38 ?h39 ?h40 ?h41 ?h42 ?h43 ?h44 ?h45 ?h46 ?h47 ?h48 ?h49 ?h50 ?h51 ?h52 ?h53 ?h54 ?h55 ?h56 ?h57 ?h58 ?h59 ?h60 ?h61 ?h62 ?h63 ?h64 ?h65 ?h66 ?gmc ?dbc ?asc ?mcc ?scc ?MC ?gmmM ?gmmW ?gmmC ?dbmI ?dbmW ?dbmU ?dbmH ?dbmT ?dbmC ?dbmB ?dbmR ?dbmG ?dbmE ?dbmN ?asmI ?asmP ?asmC ?asmN ?asmR ?mcmI ?mcmS ?mcmR ?mcmN ?scmI ?scmE ?scmS ?scmT ?scmW ?scmF ?t9 ?gmn_trees ?gmn_field ?gmn_degrees ?dbn_game ?dbn_awaited ?dbn_claims ?dbn_s ?dbn_heard ?dbn_tossed ?dbn_held ?dbn_places ?asn_game ?asn_number ?asn_many ?asn_held ?asn_s ?asn_tossed ?asn_truths ?mcn_game ?mcn_helper ?mcn_next_round ?mcn_boxes ?scn_text ?scn_row ?scn_most_within ?scn_most_parts ?scn_place ?scn_parts ?g1 ?g3 ?g5 ?g6 ?g7 ?g8 ?e1 ?e2 ?e3 ?w1 ?w2 ?w3 ?j5 ?j6 ?j7 ?j8 ?q5 ?q6 ?q7 ?q8 ?p5 ?p6 ?p7 ?p8 ?wh ?wl ?xmr ?ge ?xmo ?z0 ?z1 ?z2 ?z3 ?z4 ?z5 ?z6 ?z7 ?z8 ?z9 ?z10 ?z11 ?z12 ?z13 ?z14 ?z15
  case aL|lL|cL|kL=>k_is
  case h0|h1|h2|h3|h4|h5|h6|h7|h8|h9|h10|h11|h12|h13|h14|h15|h16|h17|h18|h19|h20|h21|h22|h23|h24|h25|h26|h27|h28|h29|h30|h31|h32|h33|h34|h35|h36|h37|h38|h39|h40|h41|h42|h43|h44|h45|h46|h47|h48|h49|h50|h51|h52|h53|h54|h55|h56|h57|h58|h59|h60|h61|h62|h63|h64|h65|h66=>exact%[_,by k_is,_,%[_,_,_,_,_,_,_,_,0,by k_is|by k_is]|by k_is]
  case gmc|dbc|asc|mcc|scc=>exact%[by k_is,by k_is,by k_is,by k_is,by k_is,by k_is|by k_is]
  case MC|gmmM|gmmW|gmmC|dbmI|dbmW|dbmU|dbmH|dbmT|dbmC|dbmB|dbmR|dbmG|dbmE|dbmN|asmI|asmP|asmC|asmN|asmR|mcmI|mcmS|mcmR|mcmN|scmI|scmE|scmS|scmT|scmW|scmF=>exact%[_,by k_is,by k_is,_,%[_,_,_,_,_,_,_,_,0,by k_is|by k_is]|by k_is]
  case t9|gmn_trees|gmn_field|gmn_degrees|dbn_game|dbn_awaited|dbn_claims|dbn_s|dbn_heard|dbn_tossed|dbn_held|dbn_places|asn_game|asn_number|asn_many|asn_held|asn_s|asn_tossed|asn_truths|mcn_game|mcn_helper|mcn_next_round|mcn_boxes|scn_text|scn_row|scn_most_within|scn_most_parts|scn_place|scn_parts=>delta Mine.HF; k_is
  case g1|g3|g5|g6|e1|e2|e3|w1|w2|w3|j5|j6|q5|q6|p5|p6|wh|wl|xmr|ge|xmo=>k_is
  case g7|j7|q7|p7=>decide
  case g8=>exact Mine.kept_vals
  case j8=>exact Mine.sign_vals
  case q8=>exact Mine.ask_vals
  case p8=>exact Mine.plain_vals
  case z0|z1|z2|z3|z4|z5|z6|z7|z8|z9|z10|z11|z12|z13|z14|z15=>delta Mine.HZ; k_is
