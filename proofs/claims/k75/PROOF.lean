import PyProof.Rows.All
import Wide.FinOn
import OpenK.KLine
import KE.KIntText
import KE.KIsAll
import KE.KEqSeq
import KE.KItem
import KE.KRevIter
import Lean
import PyProof.EqAt
import PyProof.EqKinds
import PyProof.TupleCall
import PySem.Challenge.RW_asktally_k75_talks_at_the_desk
set_option Elab.async false
set_option linter.all false
set_option maxRecDepth 100000
set_option bootstrap.genMatcherCode false
set_option compiler.extract_closed false
local macro_rules|`(%[$xs,*|$y])=>do
 if y.raw.isIdent then if y.raw.getId==`List.nil then Lean.Macro.throwUnsupported
 if y.raw.isIdent then if y.raw.getId==`aV then return←xs.getElems.foldrM (fun x a=>do match x.raw.isNatLit? with|some _=>`($(Lean.mkIdent `aJ) ($(Lean.mkIdent `pv) $x) $a)|_=>`($(Lean.mkIdent `aJ) $x $a)) y
 let h←`(_);let r←`(rfl);let q←`(?_);let a←`(by omega);let b←`(by decide);let i:=Lean.mkIdent;let u←`($(i `az) ($(i `neS) $b) ?_);let c←`($(i `T.cl))
 let o:=(xs.getElems.push y).flatMap fun x=>match x.raw.isNatLit? with|some 0=>#[h,r]|some 1=>#[r]|some 2=>#[h,h,r,r]|some 3=>#[a]|some 4=>#[b]|some 5=>#[r,r,r,b,r,b,b]|some 6=>#[q]|some 7=>#[u]|some 9=>#[c]|_=>#[x]
 `(⟨$o,*⟩)
local macro_rules|`(tactic|let%[$xs,*|$y]:=$e)=>do
 let g:=fun(f:Lean.Term->Lean.MacroM (Lean.TSyntax `rcasesPat))(t:Lean.Term)=>show Lean.MacroM (Lean.TSyntax `rcasesPat) from do
  match t with
  |`(%[$xs,*|$y])=>
   let p←(xs.getElems.push y).mapM fun x=>do let p←f x;`(Lean.Parser.Tactic.rcasesPatLo|$p:rcasesPat)
   `(rcasesPat|⟨$p,*⟩)
  |`($i:ident)=>`(rcasesPat|$i:ident)
  |_=>if t.raw.isNatLit?==some 1 then`(rcasesPat|$(Lean.mkIdent `rfl):ident)else`(rcasesPat|_)
 let p←g (g (g (g (g (g fun _=>`(rcasesPat|_)))))) (←`(%[$xs,*|$y]))
 `(tactic|obtain $p:rcasesPat:=$e)
local macro_rules|`(tactic|erw[$xs,*]$[at $h:ident]?)=>do
 let o:Array Lean.Term:=xs.getElems.map fun x=>⟨x.raw[1]⟩
 let l:=o.back!;let o:=o.pop
 match h with|some h=>`(tactic|let%[$o,*|$l]:=$h)|_=>`(tactic|refine %[$o,*|$l])
local macro_rules|`(⋯)=>`(by decide)
local macro_rules|`(#[1])=>`(λ _ _=>rfl)|`(#[2])=>`(by simp)|`(#[0])=>`(by omega)|`(#[$f:ident,$i:num,$s:ident,$e])=>`($f (i:=$i) ($s).nd rfl (Or.inl rfl) $e)
local macro_rules|`(tactic|exists $x:ident)=>do
 let i:=Lean.mkIdent
 `(tactic|refine $(i `F.ok) $x (fun _ _ _ _ h=>by cases h;subst_vars;rfl) (fun $(i `cdv) $(i `A) $(i `outer) $(i `s) $(i `H) $(i `vs) $(i `Q) $(i `E) $(i `hr) $(i `h)=>?_))
local macro_rules | `(tactic|omega)=>`(tactic|first | lia | omega +splitDisjunctions)
local macro_rules | `(command|def $n:declId $s:optDeclSig $b:declVal)=>return(←`(command|noncomputable def $n:declId $s:optDeclSig $b:declVal)).raw.rewriteBottomUp (·.setInfo .none)
local macro_rules | `(tactic|decide)=>`(tactic|decide +kernel)
local macro_rules | `(tactic|rfl')=>`(tactic|with_unfolding_all rfl)
section
variable{α:Type}{F:List α->Prop}
def QQ0(h:F []):∀u,u.length=0->F u|[],_=>h
def QQS{n}(h:∀a u,u.length=n->F (a::u)):∀u,u.length=n+1->F u|a::u,e=>h a u (Nat.succ.inj e)
def QQ1(h:∀a,F [a]):∀u,u.length=1->F u:=QQS λa=>QQ0 (h a)
def QQ2(h:∀a b,F [a,b]):∀u,u.length=2->F u:=QQS λa=>QQ1 (h a)
def QQ3(h:∀a b c,F [a,b,c]):∀u,u.length=3->F u:=QQS λa=>QQ2 (h a)
def QQ4(h:∀a b c d,F [a,b,c,d]):∀u,u.length=4->F u:=QQS λa=>QQ3 (h a)
def QQ5(h:∀a b c d e,F [a,b,c,d,e]):∀u,u.length=5->F u:=QQS λa=>QQ4 (h a)
def QQ6(h:∀a b c d e f,F [a,b,c,d,e,f]):∀u,u.length=6->F u:=QQS λa=>QQ5 (h a)
def QQ7(h:∀a b c d e f g,F [a,b,c,d,e,f,g]):∀u,u.length=7->F u:=QQS λa=>QQ6 (h a)
end
local macro_rules|`(tactic|ac_rfl)=>do
 let r←[`QQ1,`QQ2,`QQ3,`QQ0,`QQ4,`QQ5,`QQ6,`QQ7].foldrM (fun n (r:Lean.TSyntax `tactic)=>`(tactic|first|(refine $(Lean.mkIdent n) ?_;intros;exact rfl)|$r:tactic)) (←`(tactic|skip))
 `(tactic|(intro _ _ _ _ _ _;$r:tactic))
local macro_rules|`(#[$n,$f:ident,$d:ident,$p,$s])=>return Lean.Syntax.mkApp (Lean.mkIdent `FnOk) (([`P,`w,`K,`mg,`base,`CX0].map fun x=>(Lean.mkIdent x:Lean.Term))++[n,f,d,p,s]).toArray|`(#[$n,$x:str,$p,$s])=>return Lean.Syntax.mkApp (Lean.mkIdent `Cal) (([`P,`w,`K,`mg,`base].map fun x=>(Lean.mkIdent x:Lean.Term))++[n,x,p,s]).toArray
local macro_rules|`(‹$x:ident›)=>return Lean.mkIdentFrom x (x.getId++`heap.objs.size)
local macro_rules|`(#[$k:num])=>do
 let n:=k.getNat;if n<3||n>5 then Lean.Macro.throwUnsupported
 let a←`(by rfl');let d←`(⋯);let r←`(rfl);let o←`(by first | exact Or.inl rfl | exact Or.inr rfl)
 return Lean.Syntax.mkApp (Lean.mkIdent (`CompScope++if n==3 then`one else if n==4 then`two else`closed)) ([a,d,r,d,r]++if n==3 then[d,a,a,a,r,r]else if n==4 then[d,o,a,a,a,a,r,r,a,r,r]else[a]).toArray
local macro_rules|`(tactic|exists $n:num,$xs,*)=>do
 let i:=Lean.mkIdent;if n.getNat==4 then return ←`(tactic|intro $(i `Qh) $(i `s) $(i `σ) $(i `H) $(xs.getElems)*)
 let i:=Lean.mkIdent;let a:=xs.getElems;let mut r:Array (Lean.TSyntax `tactic):=#[]
 for k in [0:a.size/3] do
  let z:=a[3*k+2]!;let v←if n.getNat==1 then`($(i `aS) $(i `X) $(i `G) $z)else`($(i `dH) $z)
  r:=r.push (←`(tactic|let%[_,_,$(a[3*k]!)|$(a[3*k+1]!)]:=$v))
 `(tactic|($[$r];*))
local macro_rules|`(tactic|exists 3)=>let n:=Lean.mkIdent `no;`(tactic|refine ⟨fun vs H Q E h=>absurd h ($n vs H Q E),fun A outer s H args us vs Q E _ _ _ _ h=>absurd h ($n vs H Q E)⟩)
local macro_rules|`(command|instance $n:declId $s:declSig:=$v)=>do
 if v.raw.isNatLit?==none then Lean.Macro.throwUnsupported
 let i:=Lean.mkIdent;let b:=s.raw[0].getArgs
 let c:Lean.TSyntaxArray ``Lean.Parser.Term.bracketedBinder:=b.map (⟨·⟩)
 let a:Array Lean.Term:=b.flatMap fun x=>x[1].getArgs.map (⟨·⟩)
 let o:=v.raw.isNatLit?==some 1
 let r:=Lean.Syntax.mkApp ⟨n.raw[0]⟩ (if o then a++#[i `vs,i `H,i `Q,i `Qj]else a)
 let t:Lean.Term←Nat.repeat (fun (g:Lean.Term->Lean.MacroM Lean.Term) (t:Lean.Term)=>show Lean.MacroM Lean.Term from if t.raw.isOfKind ``Lean.Parser.Term.forall then do return⟨t.raw.setArg 4 (←g ⟨t.raw[4]⟩)⟩else if t.raw.isOfKind ``Lean.Parser.Term.arrow then do return⟨t.raw.setArg 2 (←g ⟨t.raw[2]⟩)⟩else`($t->$r)) 60 pure ⟨s.raw[1][1]⟩
 let m:=i `mk
 let d←if o then [(`vs,←`(List $(i `V))),(`H,i `Hp),(`Q,i `VK),(`Qj,i `XK)].mapM fun (x,t)=>`(Lean.Parser.Term.bracketedBinderF|($(i x):ident:$t))else pure []
 let d:Lean.TSyntaxArray ``Lean.Parser.Term.bracketedBinder:=c++(d.toArray.map (⟨·.raw⟩))
 return(←`(command|inductive $n:declId $d*:Prop|$m:ident:$t)).raw.rewriteBottomUp (·.setInfo .none)
local macro_rules|`(tactic|let $d:letDecl)=>if d.raw[0].isOfKind ``Lean.Parser.Term.letIdDecl then`(tactic|have $d:letDecl)else Lean.Macro.throwUnsupported
local macro_rules|`(let $d:letDecl;$b)=>`(have $d:letDecl;$b)
local macro_rules|`(command|example:=[$xs,*])=>do
 let a:=xs.getElems;let i:=Lean.mkIdent;if a[0]!.raw.isIdent then
  let c:Array Lean.Command←(Array.range (a.size/2)).mapM fun k=>do
   let x:Lean.Ident:=⟨a[2*k]!⟩;let y:=a[2*k+1]!
   if y.raw.isIdent then`(command|abbrev $x:ident := @$(⟨y.raw⟩):ident)else if y.raw.isOfKind `«term[_]» then`(command|abbrev $x:ident : List PySem.Str := $y)else if y.raw.isNatLit?.isSome then`(command|abbrev $x:ident : $(i `Stmt) := $(i `top) $y)else`(command|abbrev $x:ident : $(i `Stmt) := $(i `bp) $(⟨y.raw[0]⟩) $(⟨y.raw[1][0]⟩))
  return (Lean.mkNullNode c).rewriteBottomUp (·.setInfo .none)
 Lean.Macro.throwUnsupported
local macro_rules|`(#[6])=>let i:=Lean.mkIdent;`($(i `Value)->$(i `Shared)->Prop)|`(#[7])=>let i:=Lean.mkIdent;`(List ($(i `Addr)×$(i `Obj)))|`(#[8])=>let i:=Lean.mkIdent;`($(i `Inv) $(i `X) $(i `Qh) $(i `σ))|`(#[9])=>let i:=Lean.mkIdent;`($(i `Str)->Option $(i `Value))
local macro_rules|`(#[$e,0])=>`(by simpa using $e)
local macro_rules|`(tactic|exists 5)=>let i:=Lean.mkIdent;`(tactic|(intro $(i `X) $(i `hP) $(i `hw) $(i `hK) $(i `hc) $(i `i) $(i `Qh) $(i `s) $(i `σ) $(i `H) $(i `E) $(i `I) $(i `hf) $(i `st) $(i `hg);subst $(i `hP) $(i `hw) $(i `hK)))
local macro_rules|`(#[$x:str,$s:ident])=>let i:=Lean.mkIdent;`($(i `Fun) $(i `K) $x $x $s $(i `f) $(i `fd))|`(#[$x:str,$y:str,$s:ident])=>let i:=Lean.mkIdent;`($(i `Fun) $(i `K) $x $y $s $(i `f) $(i `fd))
local macro_rules|`(tactic|apply $e)=>`(tactic|refine $e)
local macro_rules|`(‹$x:ident›)=>do
 let i:=Lean.mkIdent;let n:=x.getId;let a (x:Lean.Name) (y:List Lean.Term):Lean.Term:=Lean.Syntax.mkApp (i x) y.toArray
 if let .str m "p":=n then return←`($(i m) (P:=$(i `l.prog)) (w:=$(i `w)) (base:=$(i `base)))
 let r:List Lean.Term:=[i `ns,i `ts,i `p,i `rows];let q:=a `Tk.new [i `ts]
 if n==`X.a then`(by ac_rfl)else if n==`X.w then return a `wpAny [a `model [i `X.prog,i `X.w],i `X.A]else if n==`w.A then return a `wpAny [a `model [i `prog,i `w],i `A]else if n==`Tk.s then return a `Tk.said (r++[q])else if n==`Tk.a then return a `Tk.ask (r++[q])else Lean.Macro.throwUnsupported
local macro_rules|`(command|example:=($a,$xs,*))=>do
 let q:=`PySem.Challenge;let i:="asktally_k75_talks_at_the_desk";let p:=q++.mkSimple s!"cw_{i}_holds"
 let n:Array Lean.Name:=#[q.str s!"rw_{i}",q.str s!"pw_{i}",p.str "tree_47",p.str "tree_1137",p.str "sts_49",p.str "heap_39",p.str "heap_46",p.str "heap_1138",p.str "env_41",p.str "view_39"]++((Array.range 1095).map fun k=>p.str s!"o_{k+43}")++xs.getElems.flatMap fun (x:Lean.Term)=>let x:=x.raw.isNatLit?.getD 0;#[p.str s!"tree_{x}",p.str s!"sts_{x+1}"]
 return (Lean.mkNullNode (←n.mapM fun k=>`(command|theorem $(Lean.mkIdent (.mkSimple s!"tw{k.hash}")):ident:True:=⟨⟩))).rewriteBottomUp (·.setInfo .none)
noncomputable section
section
open PySem PySem.Spec PyProof.Rows
def Qi.{u}{c:Prop}{h:Decidable c}(hc:¬c){α:Sort u}{t e:α}:ite c t e=e:=if_neg hc
abbrev ft:=@wpAny_bind
def Qk.{u}{c:Prop}{h:Decidable c}(hc:c){α:Sort u}{t e:α}:ite c t e=t:=if_pos hc
example:=[fx,List.length_map,fz,Nat.le_refl,gh,wpAny_pure,gl,List.length_append,hI,List.map_append,hQ,Nat.le_trans,ih,Heap.get?_push_of_some,ij,List.length_cons,js,Heap.lt_size]
def Qq.{u}{α:Type u}{a b:α}{l:List α}(h:a∈b::l):a=b∨a∈l:=List.mem_cons.mp h
def Qr.{u}{α:Type u}{a b:α}(h:a∈[b]):a=b:=List.mem_singleton.mp h
example:=[j3,List.getElem?_eq_getElem,kr,Nat.zero_le,ks,List.size_toArray]
def Qs.{u}{α:Type u}{l:List α}{i:Nat}{a:α}(h:l[i]?=some a):∃h:i<l.length,l[i]=a:=List.getElem?_eq_some_iff.mp h
example:=[kv,List.getElem?_map,ln,Option.some.inj,lr,List.mem_of_getElem?,lw,List.length_take,mj,List.mem_cons_self,mu,List.take_length,mM,Heap.get?_push_size,nc,Nat.ne_of_lt,nh,List.take_add_one,nn,List.map_cons,oa,Int.emod_nonneg]
def qH0.{u}{α:Type u}{a:α}{s t:List α}(h:a∈s++t):a∈s∨a∈t:=List.mem_append.mp h
example:=[o8,Bool.false_ne_true,pb,Int.emod_lt_of_pos,pj,List.mem_cons_of_mem]
def qs{α β:Type}{f:α->β}{x:Option α}{b:β}(h:x.map f=some b):∃a,x=some a/\f a=b:=Option.map_eq_some_iff.mp h
example:=[q0,List.length_singleton,q9,Nat.le_succ,rz,Nat.lt_of_lt_of_le,vr,List.getElem_mem,y0,List.getD_eq_getElem?_getD,Fj,List.mem_append_right,Fn,List.length_range,Fo,Nat.lt_irrefl,J6,Int.toNat_natCast,QH,Int.emod_eq_of_lt,Rt,Int.mul_le_mul_of_nonneg_left]
end
section
open PySem PySem.Spec PyProof.Rows
example:=[i0,Str.length_append,hR,PySem.boot_len,j2,decide_eq_true,pu,PySem.F.plainAttrs_str,qq,PySem.F.plainAttrs_list,ll,decide_eq_false,sk,PySem.F.slot_list_append,ti,PySem.F.type_list_append,on,Nat.succ_le_succ,n7,PassesOwn.never,o0,List.length_nil,y1,List.getElem?_append_right,sb,Nat.lt_of_le_of_lt,ri,wpAny_loadPart_at,wh,PySem.F.slot_str_join,w4,PySem.F.type_str_join,n9,wpAny_field,Gp,List.getElem?_append_left,y3,List.length_replicate,xn,Obj.data_mapFields,Qw,PyProof.Rows.callWith_type1,yl,wpAny_newObj_type,zf,Array.length_toList,t7,List.sum_cons,GN,wpAny_isSubtype_exc,CS,of_decide_eq_true,GV,wpAny_Call_Name_kw,Qx,Obj.isFreed_of_fields,G0,wpAny_truthy_bool,QI,wpAny_callSpecial?_slot,lz,W.mg_of,vu,W.mg_none_of,C0,PySem.W.kia_one,D1,wpAny_ite_split,Qy,List.replicate_succ,u6,Int.le_refl,se,wpAny_mono,QJ,PyProof.Rows.boot_all,Fb,wpAny_setField,Qz,Calls.spliced_cons,QW,Int.eq_ofNat_of_zero_le,QA,List.mem_singleton,QX,PySem.F.slot_str_split,QY,PySem.F.type_str_split,QK,PySem.mem_of_lookup,Ru,PyProof.Rows.slot_tuple_getitem,Rv,PyProof.Rows.toString_length_le,Ip,List.drop_zero,LO,wpAny_execs_nil,My,List.append_nil,QB,Nat.lt_succ_self,QC,wpAny_call_entry,QD,Bool.and_eq_true,IL,wpAny_holding,QE,Nat.le_add_left,Rw,PySem.F.slot_str_startswith,Rx,PySem.F.type_str_startswith,Ra,Calls.callWith_builtin,Ry,F.slot_tuple_iterator_next,QL,List.length_drop,QM,F.plain_max_loop,QN,List.cons_ne_nil,Rb,PySem.W.methodCall_KW,Rc,PyProof.Rows.boot_max,Re,Calls.evalArgs_plain,Rf,List.replicate_succ',QO,wpAny_passesOwn,QZ,Calls.spliced_nil,Q0,List.flatten_cons,Qu,codeAny_mono,Rg,List.filterMap_cons,QF,wpAny_standAt,J2,wpAny_of_eq,Rz,wpAny_getItem_str_slice,QP,Heap.size_push,QR,Str.cps_append,Rh,wpAny_pyIter_tuple,RB,builtinLookup_eq_fast,Q1,List.find?_cons,RC,Int.emod_add_mul_ediv,Q2,List.range_succ,Ri,wpAny_pyIter_list,J4,call_meets,RY,PySem.F.excBase_ValueError,RZ,List.drop_eq_getElem_cons,Rj,wpAny_execs_cons,QS,Nat.ne_of_gt,R0,PySem.F.args_tuple_add_2,QT,Int.mul_comm,QU,Int.pow_succ,Rk,Bool.eq_iff_iff,R4,PySem.F.entry_tuple_add,Q3,List.all_cons,Q4,List.any_cons,RD,List.contains_cons,Q5,Int.le_of_dvd,Sa,PySem.F.slot_tuple_add,Sb,Nat.le_of_succ_le_succ,Sc,StrLaws.join_length_le,Sz,plainObj_wpAny_Assign_Attribute,QG,wpAny_call,RE,List.append_assoc,RF,wpAny_pyIter_enum,Rl,wpAny_seqItems,Rm,W.looks_findIn,Q6,Txt.slice_le,Sd,PySem.F.slot_dict_get,Se,List.getElem?_reverse,Q7,Int.mul_emod,Q8,Int.zero_add,Sf,PyProof.Rows.boot_sum,RG,List.all_eq_true,Sg,Around.under_plainId,Sh,List.count_le_length,Rn,Int.emod_emod,QV,typeIs_str,Si,PySem.W.plainGet_of,RH,List.of_mem_zip,RI,List.length_set,RJ,post_val_or_str,RK,typeLookup_type,RL,Option.map_some,Sj,ne_true_of_eq_false,Q9,Int.dvd_add,RM,Int.natCast_add,Ro,Nat.le_of_lt,Sk,PySem.W.callWith_K,Sl,wpAny_setField_rec,Sm,F.args_str_split_2,Rp,Nat.sub_zero,Rq,W.callWith_K,Sn,of_decide_eq_false,So,Nat.pos_of_ne_zero,RN,Bool.and_false,RO,isSubtype_type,RQ,wpAny_tryCatch,Sq,wpAny_Assign_Name,Sr,Nat.lt_succ_of_lt,Ss,F.entry_str_split,Su,decide_eq_true_eq,Rr,Int.mul_one,RS,wpAny_attempt,Rs,wpAny_letGo,RT,plainId_quiet,Sv,noFill_tuple_add,Sw,wpAny_isInstance,Sx,F.entry_max_loop,Sy,F.slot_str_split,RU,Nat.le_of_eq,RV,wpAny_typeOf,RX,Int.add_emod]
end
example:=[WA,["self"],WB,["text"],WC,["tree"],WD,["self","values"],WE,["scan","within"],WF,["_law_feed_here","_law_many"],WG,["self","signs"],WH,["game"],WI,["self","r"],WJ,["values","r","p"],WK,["self","words"],WL,["self","row"],WM,["self","place"],WN,["self","switches","trees","field"],WO,["self","point","s"],WP,["self","s"],WQ,["self","game"],WR,["game","helper","coins"],WS,["game","talk"],WT,["helper"],WU,["self","text","row","most_within","most_parts"],WV,["_law_feed_here","_law_names_here","_law_room","_law_deep"],WW,["tree","switches","point","p"],WX,["_law_tree_here"],WY,["self","numbers","s"],WZ,["value","p"],Wa,["tree","switches","setting"],Wb,["term","boxes","asking"],Wc,["text","number"],Wd,["_law_feed_here","_law_boxes","_law_room","_law_deep"],We,["word","first","second"],Wf,["sign","first","second","p"],Wg,["self","word"],Wh,["self","game","helper"],Wi,["self","game","number","many","due","s","coins"],Wj,["self","within"],Wk,["_law_end"],Wl,["word","first","second","p"],Wm,["name","trees"],Wn,["numbers","p"],Wo,["tree","switches"],Wp,["first","second","p"],Wq,["self","place","said","asking"],Wr,["self","many","due","s","coins"],Ws,["doubter","row","is_first"],Wt,["doubter","row","number"],Wu,["end","go","if","set","say"],Wv,["rows","number"],Ww,["_law_feed_here","_law_game_here","_law_many"],Wx,["_law_script","_law_k"],Wy,["_law_names_here","_law_trees"],Wz,["_law_feed_here","_law_need_here"],W0,["_law_feed_here","_law_most","_law_room"],W8,["machine","doubter"],W9,["_law_feed_here","_law_boxes","_law_most"]]
abbrev VA:List PySem.Str:=["_law_feed_here","_law_box"]
abbrev VB:List PySem.Str:=["switches","trees","field"]
abbrev VC:List PySem.Str:=["_law_feed_here","_law_game_here","_law_talk"]
abbrev VD:List PySem.Str:=["_law_text","_law_known","_law_talk"]
namespace L2
open PySem PySem.Spec PyProof.Rows
abbrev Key:=Sum Int Str
def vC:Key->Value->Bool
 |.inl k,v=>Value.isInt k v
 |.inr x,v=>Value.isStrOf x v
def keyH(w:World):Key->Int
 |.inl k=>hashInt k
 |.inr x=>hashStr w x
def dD:∀{k:Key}{v:Value},vC k v=true->(∃i t,k=Sum.inl i/\v=Value.int i t)∨(∃x t,k=Sum.inr x/\v=Value.str x t)
 |.inl i,v,h=>by
   let%[t|e]:=Value.isInt_shape (k:=i) (v:=v) h;exact .inl %[i,t,1|e]
 |.inr x,v,h=>by
   let%[t|e]:=Value.isStrOf_shape (x:=x) (v:=v) h;exact .inr %[x,t,1|e]
def Dy(i:Int)(t:Tok):vC (.inl i) (.int i t)=true:=by simp [vC,Value.isInt]
def Dx(x:Str)(t:Tok):vC (.inr x) (.str x t)=true:=by simp [vC,Value.isStrOf]
def KU(a b:Int):decide ((Sum.inl a:Key)=Sum.inl b)=(a==b):=by
 by_cases e:a=b
 . subst e;simp
 . let h:¬ (Sum.inl a:Key)=Sum.inl b:=λq=>e (Sum.inl.inj q)
   rw[ll h];exact(beq_eq_false_iff_ne.mpr e).symm
def KQ(a b:Str):decide ((Sum.inr a:Key)=Sum.inr b)=decide (a=b):=by
 by_cases e:a=b
 . subst e;simp
 . let h:¬ (Sum.inr a:Key)=Sum.inr b:=λq=>e (Sum.inr.inj q)
   rw[ll h,ll e]
def KS(a:Int)(b:Str):decide ((Sum.inl a:Key)=Sum.inr b)=false:=ll (λq=>nomatch q)
def KR(a:Str)(b:Int):decide ((Sum.inr a:Key)=Sum.inl b)=false:=ll (λq=>nomatch q)
def dR(prog:Program)(w:World):PySem.KeyKind prog w Key where
 is:=vC
 hash:=keyH w
 inj:=λv a b g d=>by
  rcases dD g with⟨i,t,rfl,rfl⟩ | ⟨x,t,rfl,rfl⟩
  . rcases dD d with⟨j,u,rfl,e⟩ | ⟨y,u,rfl,e⟩
    . injection e with e1 _;rw[e1]
    . exact nomatch e
  . rcases dD d with⟨j,u,rfl,e⟩ | ⟨y,u,rfl,e⟩
    . exact nomatch e
    . injection e with e1 _;rw[e1]
 byValue:=λk v h=>by
  rcases dD h with⟨i,t,rfl,rfl⟩ | ⟨x,t,rfl,rfl⟩ <;> rfl
 pyHash:=λc h=>by
  rcases dD c with⟨i,t,rfl,rfl⟩ | ⟨x,t,rfl,rfl⟩
  . exact wpAny_pyHash_int h
  . exact wpAny_pyHash_str h
 eqBool:=λm c h=>by
  rcases dD m with⟨i,t,rfl,rfl⟩ | ⟨x,t,rfl,rfl⟩
  . rcases dD c with⟨j,u,rfl,rfl⟩ | ⟨y,u,rfl,rfl⟩
    . rw[KU]at h;exact wpAny_eqBool_int h
    . rw[KS]at h;exact SeqAt.EqAt.int_str i t y u _ _ _ _ h
  . rcases dD c with⟨j,u,rfl,rfl⟩ | ⟨y,u,rfl,rfl⟩
    . rw[KR]at h;exact SeqAt.EqAt.str_int x t j u _ _ _ _ h
    . rw[KQ]at h;exact wpAny_eqBool_str h
 «strs»:=λk x t v h=>by
  rcases dD h with⟨i,u,rfl,e⟩ | ⟨y,u,rfl,e⟩
  . exact nomatch e
  . injection e with e1 _;subst e1;cases v <;> rfl
def yG(prog:Program)(w:World)(i:Int)(t:Tok):(dR prog w).is (.inl i) (.int i t)=true:=Dy i t
def yF(prog:Program)(w:World)(x:Str)(t:Tok):(dR prog w).is (.inr x) (.str x t)=true:=Dx x t
inductive V where
 |non | bl (b:Bool) | int (i:Int) | str (x:Str) | byt (b:Array UInt8) | flt (b:UInt64) | ref (a:Addr) | ty (n:String)
 deriving DecidableEq
def RelV:V->Value->Prop
 |.non,u=>u=Value.none
 |.bl b,u=>u=Value.bool b
 |.int i,u=>∃t,u=Value.int i t
 |.str x,u=>∃t,u=Value.str x t
 |.byt b,u=>∃t,u=Value.bytes b t
 |.flt b,u=>∃t,u=Value.float b t
 |.ref a,u=>u=Value.ref a
 |.ty n,u=>u=Value.type n
abbrev Vals:List V->List Value->Prop:=Paired RelV
def Vals.length(r:Vals xs us):xs.length=us.length:=Paired.length r
def Vals.get:∀{xs:List V}{us:List Value}{i:Nat}{x:V},Vals xs us->xs[i]?=some x->∃u,us[i]?=some u/\RelV x u
 |_,_,_,_,.nil,e=>by simp at e
 |_,_,0,_,.cons r _,e=>by simp at e;subst e;erw[0,r]
 |_,_,i+1,x,.cons _ t,e=>by
   let%[u,h1|h2]:=Vals.get (i:=i) (x:=x) t #[e,0];erw[u,by simpa using h1,h2]
def Vals.set{x:V}{u:Value}(r:RelV x u):∀{xs:List V}{us:List Value}(i:Nat),Vals xs us->Vals (xs.set i x) (us.set i u)
 |_,_,_,.nil=>.nil
 |_,_,0,.cons _ t=>.cons r t
 |_,_,i+1,.cons q t=>.cons q (Vals.set r i t)
def Vals.append:∀{xs ys:List V}{us ws:List Value},Vals xs us->Vals ys ws->Vals (xs++ys) (us++ws)
 |_,_,_,_,.nil,s=>s
 |_,_,_,_,.cons r t,s=>.cons r (Vals.append t s)
def Vals.take:∀{xs:List V}{us:List Value}(n:Nat),Vals xs us->Vals (xs.take n) (us.take n)
 |_,_,0,_=>.nil
 |_,_,_+1,.nil=>.nil
 |_,_,n+1,.cons r t=>.cons r (Vals.take n t)
def Vals.drop:∀{xs:List V}{us:List Value}(n:Nat),Vals xs us->Vals (xs.drop n) (us.drop n)
 |_,_,0,r=>r
 |_,_,_+1,.nil=>.nil
 |_,_,n+1,.cons _ t=>Vals.drop n t
def RelO:Option V->Option Value->Prop
 |some v,some u=>RelV v u
 |none,none=>True
 |_,_=>False
def KV{κ:Type}:List (κ×V)->List (κ×Value)->Prop:=Paired fun(p:κ×V)(q:κ×Value)=>p.1=q.1/\RelV p.2 q.2
def kV:Key->V
 |.inl i=>.int i
 |.inr x=>.str x
inductive HO where
 |lst (xs:List V)
 |tup (xs:List V)
 |dK (Ql:List (Key×V)) | dT (Ql:List (List Key×V))
 |set (S:Int->Bool) (n:Nat)
 |ins (C dx:Addr) (fs:List (Str×V))
 |own (x:Addr)
 |xd (fs:List (Str×V))
 |met (f x:Addr)
 |rng (lo hi:Int)
 |frz (o:Obj) (u:HO)
 |tbl (ps:Array Value)
 |ext (φ:Heap->Prop)
abbrev Hp:=Addr->Option HO
def upd(H:Hp)(a:Addr)(o:HO):Hp:=λb=>if b=a then some o else H b
def aX:upd H a o a=some o:=by unfold upd;rw[Qk rfl]
def aB{a b:Addr}(h:b≠a):upd H a o b=H b:=by unfold upd;rw[Qi h]
def bV{H:Hp}{a b:Addr}{o u:HO}(h:H a=some o)(h':H b=some u)(d:o≠u):a≠b:=by
 intro e;subst e;rw[h]at h';exact d (ln h')
def bh{H:Hp}{a b:Addr}{o:HO}(h:H a=some o)(h':H b=none):a≠b:=by
 intro e;subst e;rw[h]at h';cases h'
section
variable (P:Program)(w:World)
def ObjOk(H:Hp)(h:Heap)(a:Addr):HO->Prop
 |.lst xs=>xs.length<=sizeLine/\∃(its:List Value) (n:Nat),Vals xs its/\h.get? a=some { cls:=.type "list",data:=.seq its.toArray n }
 |.tup xs=>xs.length<=sizeLine/\∃its:List Value,Vals xs its/\IsTup h a its.toArray/\∃o,h.get? a=some o/\o.dict=none
 |.dK c=>c.length<=sizeLine/\(a==sysModules)=false/\∃vs,KV c vs/\h.DictOf (dR P w) a vs
 | .dT c=>c.length<=sizeLine/\(a==sysModules)=false/\∃xs:List (List Key×Addr×Value),
  Paired (fun(p:List Key×V)(q:List Key×Addr×Value)=>p.1=q.1/\H q.2.1=some (.tup (p.1.map kV))/\RelV p.2 q.2.2) c xs/\
  ∃o d e,h.get? a=some o/\o.ExactDict/\o.data=.dict d e/\d.toList=xs.map (entryOfKey (tupleKind (dR P w)))/\(xs.map (·.1)).Nodup
 |.set S n=>h.SetOf (intKind P w) a S n
 | .ins C dx fs=>H dx=some (.own a)/\fs.length<=1000/\dx≠a/\h.get? a=some (PySem.W.instObj C dx)/\
  ∃b,h.Ns1 dx b/\(∀f,RelO (fs.lookup f) (b f))/\PySem.Within b (fs.map (·.1))
 |.own _=>∃o,h.get? a=some o
 |.xd fs=>∃b,h.Ns1 a b/\∀f,RelO (fs.lookup f) (b f)
 |.rng lo g=>∃t u v,h.get? a=some { cls:=.type "range",data:=.fields #[.int lo t,.int g u,.int 1 v] }
 |.frz o u=>h.get? a=some o/\ObjOk H h a u
 |.tbl ps=>h.get? a=some { cls:=.none,data:=.fields ps }
 |.met f x=>h.get? a=some (PySem.W.methodObj (.ref f) (.ref x))
 |.ext φ=>φ h/\(∃o,h.get? a=some o)/\∀h1 h2:Heap,φ h1->(∀o,h1.get? a=some o->h2.get? a=some o)->φ h2
def HOk(H:Hp)(h:Heap):Prop:=∀a o,H a=some o->ObjOk P w H h a o
end
section
variable {P:Program}{w:World}{H H':Hp}{h h':Heap}{a:Addr}{o:HO}
def ObjOk.lt(x:ObjOk P w H h a o):a<h.objs.size:=by
 cases o with
 |lst xs=>erw[_,_,_,_,e]at x;exact js e
 |tup xs=>erw[_,_,_,p,_]at x;exact p.lt
 |dK b=>erw[_,_,_,_,o,_,_,e,_]at x;exact js e
 |dT b=>erw[_,_,_,_,o,_,_,e,_]at x;exact js e
 |set S n=>erw[o,_,_,_,e,_]at x;exact js e
 |ins C dx fs=>erw[_,_,_,e,_]at x;exact js e
 |own y=>erw[_,e]at x;exact js e
 |xd fs=>erw[_,%[_,_,_,e|_],_]at x;exact js e
 |rng lo c=>erw[_,_,_,e]at x;exact js e
 |frz d u=>erw[e,_]at x;exact js e
 |tbl ps=>exact js (show h.get? a=some _ from x)
 |met f y=>exact js (show h.get? a=some _ from x)
 |ext φ=>erw[_,%[_|e],_]at x;exact js e
def Paired.mapP{α β:Type}{F G:α->β->Prop}:∀{c:List α}{d:List β},Paired F c d->(∀a b,F a b->G a b)->Paired G c d
 |_,_,.nil,_=>.nil
 |_,_,.cons r t,f=>.cons (f _ _ r) (Paired.mapP t f)
def ObjOk.stay(x:ObjOk P w H h a o)(k:∀b u,(b=a∨H b=some (.own a))->h.get? b=some u->h'.get? b=some u)
 (J:∀b,H b=some (.own a)->H' b=some (.own a))(L:∀b xs,H b=some (.tup xs)->H' b=some (.tup xs)):ObjOk P w H' h' a o:=by
 induction o with
 |lst xs=>erw[z,its,n,r,e]at x;erw[z,its,n,r,k _ _ (.inl rfl) e]
 |tup xs=>erw[z,its,r,%[g,e|c],B,e2,d]at x;erw[z,its,r,%[g,k _ _ (.inl rfl) e|c],B,k _ _ (.inl rfl) e2,d]
 |dK M=>erw[z,y,vs,r,g,j,m,e,c]at x;erw[z,y,vs,r,g,j,m,k _ _ (.inl rfl) e,c]
 |dT M=>
   erw[z,y,xs,r,g,j,m,e,c]at x;erw[z,y,xs,Paired.mapP r λp q z=>%[z.1,L _ _ z.2.1|z.2.2],g,j,m,k _ _ (.inl rfl) e,c]
 |set S n=>erw[g,j,m,t,e,c]at x;erw[g,j,m,t,k _ _ (.inl rfl) e,c]
 |ins C dx fs=>
   erw[d,z,ne,e,D,%[B,j,m,e2|c],r]at x;erw[J _ d,z,ne,k _ _ (.inl rfl) e,D,%[B,j,m,k _ _ (.inr d) e2|c],r]
 |own y=>erw[g,e]at x;erw[g,k _ _ (.inl rfl) e]
 |xd fs=>erw[D,%[B,j,m,e|c],r]at x;erw[D,%[B,j,m,k _ _ (.inl rfl) e|c],r]
 |rng lo O=>erw[t,u,v,e]at x;erw[t,u,v,k _ _ (.inl rfl) e]
 |frz g u N=>erw[e,q]at x;erw[k _ _ (.inl rfl) e,N q]
 |tbl ps=>
   let e:h.get? a=some { cls:=.none,data:=.fields ps }:=x;show h'.get? a=some { cls:=.none,data:=.fields ps };exact k a _ (.inl rfl) e
 |met f y=>
   let e:h.get? a=some (PySem.W.methodObj (.ref f) (.ref y)):=x;show h'.get? a=some (PySem.W.methodObj (.ref f) (.ref y));exact k a _ (.inl rfl) e
 |ext φ=>erw[p,%[o|e],st]at x;erw[st _ _ p λo q=>k _ _ (.inl rfl) q,%[o|k _ _ (.inl rfl) e],st]
def HOk.lt(x:HOk P w H h)(e:H a=some o):a<h.objs.size:=(x a o e).lt
def HOk.fresh(x:HOk P w H h)(e:h.objs.size<=a):H a=none:=by
 cases q:H a with
 |none=>rfl
 |some u=>exact absurd (rz (x.lt q) e) (Fo _)
def HOk.kept(x:HOk P w H h)(k:∀b u,h.get? b=some u->h'.get? b=some u):HOk P w H h':=λa o e=>
 (x a o e).stay (λb u _ q=>k b u q) (λ_ q=>q) λ_ _ q=>q
def HOk.laid(x:HOk P w H h)(k:∀b u,h.get? b=some u->h'.get? b=some u)(j:h.objs.size<=a)(new:ObjOk P w (upd H a o) h' a o):HOk P w (upd H a o) h':=λb u e=>by
 let d:=x.fresh j
 by_cases g:b=a
 . subst g;rw[aX]at e;cases e;exact new
 . rw[aB g]at e;exact(x b u e).stay (λc v _ q=>k c v q) (λc q=>by rw[aB (bh q d)];exact q) λc xs q=>by rw[aB (bh q d)];exact q
end
def Rd(H:Hp)(a:Addr)(u:HO):Prop:=H a=some u∨∃o,H a=some (.frz o u)
def Rd.ok{P:Program}{w:World}{h:Heap}(r:Rd H a u)(x:HOk P w H h):ObjOk P w H h a u:=by
 rcases r with r | ⟨o,r⟩
 . exact x a u r
 . let%[_|q]:=x a _ r;exact q
def Mut:Option HO->Prop
 |some (.lst _)=>True
 |some (.dK _)=>True
 |some (.dT _)=>True
 |some (.set _ _)=>True
 |some (.ins _ _ _)=>True
 |some (.ext _)=>True
 |_=>False
section
variable {P:Program}{w:World}{H:Hp}{h h':Heap}{x e:Addr}{o':HO}
def HOk.write(ok:HOk P w H h)(m:Mut (H x))(he:e=x∨H e=some (.own x))(k:∀b u,b≠e->h.get? b=some u->h'.get? b=some u)(o:∃u,h'.get? e=some u)
 (new:ObjOk P w (upd H x o') h' x o'):HOk P w (upd H x o') h':=λb u q=>by
 let g:∀c y,H c=some (.own y)->c≠x:=λc y r z=>by subst z;rw[r]at m;exact m
 let j:∀c xs,H c=some (.tup xs)->c≠x:=λc xs r z=>by subst z;rw[r]at m;exact m
 by_cases n:b=x
 . subst n;rw[aX]at q;cases q;exact new
 . rw [aB n]at q
   by_cases d:b=e
   . let t:H b=some (.own x):=by
      rcases he with z | z
      . exact absurd (d.trans z) n
      . rw[d];exact z
     rw[q]at t;cases t;erw[v,B]at o;erw[v,by rw[d];exact B]
   . apply (ok b u q).stay (λc v hc r=>k c v ?_ r) (λc r=>by rw[aB (g c b r)];exact r) λc xs r=>by rw[aB (j c xs r)];exact r
     rcases hc with rfl | hc
     . exact d
     . rintro rfl;rcases he with z | z
       . exact g c b hc z
       . rw[hc]at z;cases z;exact n rfl
end
structure Un(fs ex:List Addr)(H H':Hp)(h h':Heap):Prop where
 keep:∀b o,h.get? b=some o->H b=none->b∉fs->b∉ex->h'.get? b=some o
 slot:∀b o,h.get? b=some o->H b=none->b∈fs->b∉ex->∃sl,h'.get? b=some { o with slots:=sl }
 free:∀b o,h.get? b=some o->H b=none->b∉ex->H' b=none
 there:∀b o,h.get? b=some o->b∉ex->∃o',h'.get? b=some o'
 tups:∀b xs,H b=some (.tup xs)->H' b=some (.tup xs)
 frzs:∀b o u,H b=some (.frz o u)->H' b=some (.frz o u)
 tbls:∀b ps,H b=some (.tbl ps)->∃more,H' b=some (.tbl (ps++more))
section
variable {fs fs' ex ex':List Addr}{H H1 H2:Hp}{h h1 h2 h':Heap}{a x e:Addr}{o:HO}
def Un.any(u:Un fs ex H H1 h h1){b:Addr}{c:Obj}(q:h.get? b=some c)(n:H b=none)(d:b∉ex):∃j,h1.get? b=some { c with slots:=j }:=by
 by_cases g:b∈fs
 . exact u.slot b c q n g d
 . erw[c.slots,u.keep b c q n g d]
def Un.trans(a:Un fs ex H H1 h h1)(b:Un fs ex H1 H2 h1 h2):Un fs ex H H2 h h2 where
 keep:=λc d q n hc g=>b.keep c d (a.keep c d q n hc g) (a.free c d q n g) hc g
 slot:=λc d q n hc g=>by
  let%[r|e1]:=a.slot c d q n hc g;let%[j|e2]:=b.slot c _ e1 (a.free c d q n g) hc g;erw[j,e2]
 free:=λc d q n g=>by
  let%[m|e1]:=a.there c d q g;exact b.free c m e1 (a.free c d q n g) g
 there:=λc d q g=>by
  let%[m|e1]:=a.there c d q g;exact b.there c m e1 g
 tups:=λc xs q=>b.tups c xs (a.tups c xs q)
 frzs:=λc d xs q=>b.frzs c d xs (a.frzs c d xs q)
 tbls:=λc ps q=>by
  let%[m1|e1]:=a.tbls c ps q;let%[m2|e2]:=b.tbls c _ e1;erw[m1++m2,by rw[e2,Array.append_assoc]]
def Un.kept(k:∀b u,h.get? b=some u->h'.get? b=some u):Un fs ex H H h h':=
 %[λb c q _ _ _=>k b c q,λb c q _ _ _=>%[c.slots|k b c q],λ_ _ _ n _=>n,λb c q _=>%[c|k b c q],λ_ _ q=>q,λ_ _ _ q=>q|λ_ ps q=>%[#[]|by rw[q];simp]]
def Un.refl:Un fs ex H H h h:=Un.kept λ_ _ q=>q
def Un.laid(k:∀b u,h.get? b=some u->h'.get? b=some u)(d:h.objs.size<=a)(c:H a=none):Un fs ex H (upd H a o) h h' where
 keep:=λb u q _ _ _=>k b u q
 slot:=λb u q _ _ _=>%[u.slots|k b u q]
 free:=λb u q n _=>by rw[aB (nc (rz (js q) d))];exact n
 there:=λb u q _=>%[u|k b u q]
 tups:=λb xs q=>by rw[aB (bh q c)];exact q
 frzs:=λb u xs q=>by rw[aB (bh q c)];exact q
 tbls:=λb ps q=>%[#[]|by rw[aB (bh q c),q];simp]
def Un.write(d:Mut (H x))(he:e=x∨H e=some (.own x))(k:∀b u,b≠e->h.get? b=some u->h'.get? b=some u)(g:∃u,h'.get? e=some u):Un fs ex H (upd H x o) h h':=by
 let m:∀b,H b=none->b≠x:=λb n z=>by subst z;rw[n]at d;exact d
 let t:∀b,H b=none->b≠e:=λb n z=>by
  subst z;rcases he with r | r
  . exact m b n r
  . rw[n]at r;cases r
 let j:∀b u,H b=some u->¬ Mut (some u)->b≠x:=λb u q nm z=>by subst z;rw[q]at d;exact nm d
 erw[λb u q n _ _=>k b u (t b n) q,λb u q n _ _=>%[u.slots|k b u (t b n) q],λb u q n _=>by rw[aB (m b n)];exact n,λb u q _=>?_,λb xs q=>by rw[aB (j b _ q λz=>z)];exact q,λb u xs q=>by rw[aB (j b _ q λz=>z)];exact q,λb ps q=>%[#[]|by rw[aB (j b _ q λz=>z),q];simp]]
 by_cases c:b=e
 . subst c;exact g
 . erw[u,k b u c q]
def Un.mono(u:Un fs ex H H1 h h1)(g:∀b∈fs,b∈fs')(d:∀b∈ex,b∈ex'):Un fs' ex' H H1 h h1:=
 %[λb c q n j he=>u.keep b c q n (λz=>j (g b z)) λz=>he (d b z),λ_ _ q n _ he=>u.any q n λz=>he (d _ z),λb c q n he=>u.free b c q n λz=>he (d b z),λb c q he=>u.there b c q λz=>he (d b z),u.tups,u.frzs|u.tbls]
end
def trk(h:Heap)(H:Hp):List Addr:=(List.range h.objs.size).filter λa=>(H a).isSome
def xB(h:Heap)(H:Hp):Heap:=PySem.W.hideAll h (trk h H)
def DD(h:Heap)(H:Hp):(xB h H).objs.size=h.objs.size:=PySem.W.hideAll_size _ _
def Hc{h:Heap}{H:Hp}{b:Addr}{o:Obj}(e:h.get? b=some o)(n:H b=none):(xB h H).get? b=some o:=
 PySem.W.hideAll_get _ e λc=>by
  let q:(H b).isSome=true:=(List.mem_filter.mp c).2;rw[n]at q;simp at q
def Jb{b:Addr}{o:Obj}(e:(xB h H).get? b=some o):h.get? b=some o/\H b=none:=by
 let c:h.get? b=some o:=PySem.W.of_hideAll (trk h H) e;erw[c,6];cases q:H b with
 |none=>rfl
 |some x=>
   let d:b∈trk h H:=List.mem_filter.mpr %[List.mem_range.mpr (js c)|by simp [q]];let z:(xB h H).get? b=none:=PySem.W.hideAll_none (trk h H) d;rw[z]at e;cases e
structure Mod(K:W.Frag)(mg:#[9])(base:Heap):Prop where
 kin:K.In base
 glob:base.Ns mainGlobals mg
 blt:∃mb,base.Ns builtinsNs mb/\∀x:Str,x≠"__name__" -> mb x=bootBuiltins x
 nolimit:base.NoLimit
structure Cx where
 prog:Program
 w:World
 K:W.Frag
 mg:#[9]
 base:Heap
 A:Around
 N:List Str
 s₀:Shared
 H₀:Hp
 env:Env
 outer:List Env
 stack:List Env
 ex:List Addr
 fn:Str->Bool
 calm:Bool
 pn:#[7]
 xe:#[6]
def frs(l:List Env):List Addr:=l.filterMap (·.frame)
abbrev Cx.fs(X:Cx):List Addr:=frs X.outer
def Vis(b:Scope)(x:Str):Prop:=b.names.lookup x=some .local∨b.names.lookup x=some .cell∨b.names.lookup x=some .free
def Loc(b:Scope)(x:Str):Prop:=b.names.lookup x=some .local∨b.names.lookup x=some .cell
def Look(env:Env)(h:Heap)(m:#[9])(x:Str)(u:Value):Prop:=
 (env.kindOf x=some .local/\m x=some u)∨((env.kindOf x=some .cell∨env.kindOf x=some .free)/\∃c,env.cells.lookup x=some c/\h.IsCell c (some u))
structure Cx.Ok(X:Cx):Prop where
 mod:Mod X.K X.mg X.base
 kind:X.env.scope.kind=.function
 glob:X.env.globals=mainGlobals
 blt:X.env.builtins=builtinsNs
 above:X.s₀.heap.objs.size<=X.env.locals
 inj:∀x y c,X.env.cells.lookup x=some c->X.env.cells.lookup y=some c->x=y
 has:∀x,(X.env.kindOf x=some .cell∨X.env.kindOf x=some .free)->∃c,X.env.cells.lookup x=some c
 cab:∀x c,X.fn x=true->X.env.cells.lookup x=some c->X.s₀.heap.objs.size<=c
 hd:X.calm=true->X.A.handled=none
 frames:X.A.frames=some X.stack
 stk:X.stack=X.outer∨(X.stack=X.env::X.outer/\X.env.frame=some X.env.locals)
 exf:∀b∈X.ex,b≠X.env.locals/\∀x c,X.env.cells.lookup x=some c->c≠b
 bs:∀b o,X.base.get? b=some o->X.s₀.heap.get? b=some o/\X.H₀ b=none
 bsz:X.base.objs.size<=X.s₀.heap.objs.size
 noex:∀b o,X.base.get? b=some o->b∉X.ex
 exfs:∀b∈X.ex,b∉X.fs
 funs:X.s₀.heap.FunFrames X.base X.outer
 frf:∀b∈X.fs,X.H₀ b=none
structure Inv(X:Cx)(Qh:#[7])(σ:List (Option V))(H:Hp)(s:Shared):Prop where
 ok:X.Ok
 os:s.os=X.s₀.os
 bare:AllBare s.gens
 base:Un X.fs X.ex X.H₀ H X.s₀.heap s.heap
 loc:∃m,s.heap.Ns X.env.locals m/\∀(i:Nat)(x:Str)(v:V),X.N[i]?=some x->σ[i]?=some (some v)->Vis X.env.scope x->∃u,RelV v u/\Look X.env s.heap m x u
 cell:∀x c,X.env.cells.lookup x=some c->∃v,s.heap.IsCell c v
 free:H X.env.locals=none
 freeC:∀x c,X.env.cells.lookup x=some c->H c=none
 pin:∀p∈X.pn++Qh,s.heap.get? p.1=some p.2/\H p.1=none/\p.1≠X.env.locals/\p.1∉X.fs/\∀v,p.2.data≠.cell v
 hok:HOk X.prog X.w H s.heap
 len:σ.length=X.N.length
section
variable {X:Cx}{Qh:#[7]}{σ:List (Option V)}{H H':Hp}{s:Shared}{h':Heap}
def Cx.Ok.nofr(ok:X.Ok){b:Addr}{o:Obj}(e:X.base.get? b=some o):b∉X.fs:=λc=>by
 have:=(ok.funs.mem c).1
 rw[e]at this;cases this
def Inv.bs(I:#[8] H s):∀b o,X.base.get? b=some o->s.heap.get? b=some o/\H b=none:=λb o e=>
 %[I.base.keep b o (I.ok.bs b o e).1 (I.ok.bs b o e).2 (I.ok.nofr e) (I.ok.noex b o e)|I.base.free b o (I.ok.bs b o e).1 (I.ok.bs b o e).2 (I.ok.noex b o e)]
def Inv.bk(I:#[8] H s):∀b o,X.base.get? b=some o->s.heap.get? b=some o:=λb o e=>(I.bs b o e).1
def Inv.mod(I:#[8] H s):Mod X.K X.mg X.base:=I.ok.mod
def Inv.kIn(I:#[8] H s):X.K.In s.heap:=I.ok.mod.kin.keeps I.bk
def Inv.lt(I:#[8] H s):X.env.locals<‹s›:=let⟨_,b,_⟩:=I.loc;b.lt
def Inv.sz(I:#[8] H s):X.s₀.heap.objs.size<=‹s›:=hQ I.ok.above (Ro I.lt)
def Inv.nofs(I:#[8] H s){a:Addr}(h:‹s›<=a):a∉X.fs:=λb=>by
 let%[_,o,c|_]:=I.ok.funs.mem b;exact absurd (rz (js c) (hQ I.sz h)) (Fo _)
def Inv.cne(I:#[8] H s):∀x c,X.env.cells.lookup x=some c->c≠X.env.locals:=λx c e z=>by
 let%[v,o,g|hd]:=I.cell x c e;erw[m,%[j,n,q,b,d|_],_]at I.loc;rw[z,b]at g;cases g;rw[d]at hd;cases hd
def Inv.funs(I:#[8] H s):s.heap.FunFrames X.base X.outer:=by
 let all:∀(l:List Env),(∀b∈frs l,b∈X.fs)->X.s₀.heap.FunFrames X.base l->s.heap.FunFrames X.base l:=by
  intro l
  induction l with
  |nil=>intro _ _;trivial
  |cons env r j=>
    intro g hl;erw[m,%[L,o,hf,n,q|hd],hr]at hl;let c:L∈X.fs:=g L (by unfold frs;rw[Rg,hf];exact mj);let%[t|e]:=I.base.slot L o q (I.ok.frf L c) c λz=>I.ok.exfs L z c
    erw[m,%[L,_,hf,n,e|hd],j (λb d=>g b (by unfold frs;rw[Rg,hf];exact pj _ d)) hr]
 exact all X.outer (λ_ d=>d) I.ok.funs
def Inv.stack(I:#[8] H s):s.heap.FunFrames X.base X.stack:=by
 rcases I.ok.stk with e | ⟨e,hf⟩
 . rw[e];exact I.funs
 . rw[e];erw[m,b,_]at I.loc;refine .cons (by rw[I.ok.kind];decide) hf b ?_ I.funs;exact Heap.get?_none_of_le (hQ I.ok.bsz I.ok.above)
def Inv.stkSub(I:#[8] H s):∀b∈frs X.stack,b∈X.env.locals::X.fs:=λb c=>by
 rcases I.ok.stk with e | ⟨e,hf⟩
 . rw[e]at c;exact pj _ c
 . rw[e]at c;unfold frs at c;rw[Rg,hf]at c;exact c
def Inv.stkFree(I:#[8] H s):∀b∈frs X.stack,H b=none:=λb c=>by
 rcases Qq (I.stkSub b c)with e | c
 . rw[e];exact I.free
 . let%[_,o,d|_]:=I.ok.funs.mem c;exact I.base.free b o d (I.ok.frf b c) λz=>I.ok.exfs b z c
def Inv.step{g':Array GenState}{t':Nat}{d':Drawn}{ch:List Addr}(I:#[8] H s)
 (j:∀b∈ch,(b∈X.ex∨X.s₀.heap.objs.size<=b)/\b≠X.env.locals/\(∀x c,X.env.cells.lookup x=some c->c≠b)/\∀p∈X.pn++Qh,p.1≠b)
 (keep:∀b o,b≠X.env.locals->b∉X.fs->b∉ch->s.heap.get? b=some o->H b=none->h'.get? b=some o)
 (slot:∀b o,b≠X.env.locals->b∈X.fs->b∉ch->s.heap.get? b=some o->H b=none->∃N,h'.get? b=some { o with slots:=N })(free:∀b o,b∉ch->s.heap.get? b=some o->H b=none->H' b=none)
 (there:∀b o,b∉ch->s.heap.get? b=some o->∃J,h'.get? b=some J)
 (tups:∀b xs,H b=some (.tup xs)->H' b=some (.tup xs))(frzs:∀b o u,H b=some (.frz o u)->H' b=some (.frz o u))(tbls:∀b ps,H b=some (.tbl ps)->∃L,H' b=some (.tbl (ps++L)))
 (ns:∀m,s.heap.Ns X.env.locals m->h'.Ns X.env.locals m)(hok:HOk X.prog X.w H' h')(hg:AllBare g'):
 #[8] H' { s with heap:=h',gens:=g',drawn:=d',toks:=t' }:=by
 let M:∀b o,X.s₀.heap.get? b=some o->b≠X.env.locals:=λb o e=>nc (rz (js e) I.ok.above)
 let B:∀b o,X.s₀.heap.get? b=some o->b∉X.ex->b∉ch:=λb o e g C=>by
  rcases(j b C).1 with z | z
  . exact g z
  . exact absurd (rz (js e) z) (Fo _)
 let t:∀x c,X.env.cells.lookup x=some c->∀v,s.heap.IsCell c v->h'.IsCell c v:=λx c e v ⟨o,D,hd⟩=>by
  let y:c∉ch:=λz=>(j c z).2.2.1 x c e rfl
  by_cases hc:c∈X.fs
  . let%[N|q]:=slot c o (I.cne x c e) hc y D (I.freeC x c e);erw[_,q,hd]
  . erw[o,keep c o (I.cne x c e) hc y D (I.freeC x c e),hd]
 erw[I.ok,I.os,hg,%[λb o e n C g=>?_,λb o e n C g=>?_,λb o e n g=>?_,λb o e g=>?_,λb xs e=>tups b xs (I.base.tups b xs e),λb o xs e=>frzs b o xs (I.base.frzs b o xs e)|λb ps e=>?_],6,λx c e=>?_,6,λx c e=>?_,λp U=>?_,hok,I.len]
 . exact keep b o (M b o e) C (B b o e g) (I.base.keep b o e n C g) (I.base.free b o e n g)
 . let%[N|e1]:=I.base.slot b o e n C g;let%[O|e2]:=slot b _ (M b o e) C (B b o e g) e1 (I.base.free b o e n g);erw[O,e2]
 . let%[J|e1]:=I.base.there b o e g;exact free b J (B b o e g) e1 (I.base.free b o e n g)
 . let%[J|e1]:=I.base.there b o e g;exact there b J (B b o e g) e1
 . let%[m1|e1]:=I.base.tbls b ps e;let%[m2|e2]:=tbls b _ e1;erw[m1++m2,by rw[e2,Array.append_assoc]]
 . erw[m,hn,hl]at I.loc;erw[m,ns m hn,λi x v e1 e2 e3=>?_];let%[u,r|l]:=hl i x v e1 e2 e3;erw[u,r,6];rcases l with l | ⟨k,c,e,z⟩
   . exact .inl l
   . exact .inr %[k,c,e|t x c e _ z]
 . let%[v|z]:=I.cell x c e;erw[v,t x c e v z]
 . erw[m,%[o,_,_,D|_],_]at I.loc;exact free _ o (λz=>(j _ z).2.1 rfl) D I.free
 . let%[v,o,D|hd]:=I.cell x c e;exact free c o (λz=>(j c z).2.2.1 x c e rfl) D (I.freeC x c e)
 . let%[e,n,ne,Y|d]:=I.pin p U;let y:p.1∉ch:=λz=>(j p.1 z).2.2.2 p U rfl
   erw[keep p.1 p.2 ne Y y e n,free p.1 p.2 y e n,ne,Y,d]
def Inv.un{t':Nat}(I:#[8] H s)(u:Un X.fs [] H H' s.heap h')(hok:HOk X.prog X.w H' h'):#[8] H' { s with heap:=h',toks:=t' }:=by
 let%[m,%[o,x,y,q|r]|_]:=id I.loc;let%[B|t]:=u.any q I.free #[2];exact I.step (g':=s.gens) (d':=s.drawn) (ch:=[]) (λ_ z=>nomatch z) (λb o _ d _ e n=>u.keep b o e n d #[2]) (λb o _ d _ e n=>u.slot b o e n d #[2]) (λb o _ e n=>u.free b o e n #[2]) (λb o _ e=>u.there b o e #[2]) u.tups u.frzs u.tbls (λC v=>by
  erw[D,g,j,c,r']at v;rw[q]at c;cases c;erw[_,g,j,t,r']) hok I.bare
def Inv.call{g':Array GenState}{t':Nat}{d':Drawn}{ch:List Addr}(I:#[8] H s)(u:Un (frs X.stack) ch H H' s.heap h')(hok:HOk X.prog X.w H' h')(hg:AllBare g')
 (d:∀b∈ch,(b∈X.ex∨X.s₀.heap.objs.size<=b)/\b≠X.env.locals/\(∀x c,X.env.cells.lookup x=some c->c≠b)/\∀p∈X.pn++Qh,p.1≠b):
 #[8] H' { s with heap:=h',gens:=g',drawn:=d',toks:=t' }:=by
 let%[m,%[o,C,D,v|r]|_]:=id I.loc;let%[J|j]:=u.any v I.free λz=>(d _ z).2.1 rfl
 exact I.step (ch:=ch) d (λb o j y hc e n=>u.keep b o e n (λz=>(Qq (I.stkSub b z)).elim j y) hc) (λb o _ _ hc e n=>u.any e n hc) (λb o hc e n=>u.free b o e n hc) (λb o hc e=>u.there b o e hc) u.tups u.frzs u.tbls (λL B=>by
  erw[M,q,t,g,r']at B;rw[v]at g;cases g;erw[_,q,t,j,r']) hok hg
def Inv.turned{t':Nat}{d:Addr}(I:#[8] H s)(k:∀b o,b≠d->s.heap.get? b=some o->h'.get? b=some o)(t:H d=none)(j:d≠X.env.locals)
 (h1:d∈X.ex∨X.s₀.heap.objs.size<=d)(h2:∀x c,X.env.cells.lookup x=some c->c≠d)(h3:∀p∈X.pn++Qh,p.1≠d):#[8] H { s with heap:=h',toks:=t' }:=by
 let g:∀b u,H b=some u->b≠d:=λb u e z=>by rw[z,t]at e;cases e
 apply I.step (g':=s.gens) (d':=s.drawn) (ch:=[d]) (λb y=>?_) (λb o _ _ hc e _=>k b o (λz=>hc (by simp [z])) e) (λb o _ _ hc e _=>%[o.slots|k b o (λz=>hc (by simp [z])) e]) (λ_ _ _ _ n=>n)
  (λb o hc e=>%[o|k b o (λz=>hc (by simp [z])) e]) (λ_ _ e=>e) (λ_ _ _ e=>e) (λb ps e=>%[#[]|by rw[e];simp]) (λm B=>?_) (λb u e=>?_) I.bare
 . let e:b=d:=#[y,0]
   subst e;erw[h1,j,h2,h3]
 . erw[o,C,D,J,r]at B;erw[o,C,D,k _ o (Ne.symm j) J,r]
 . apply (I.hok b u e).stay (λc v hc q=>k c v ?_ q) (λ_ q=>q) λ_ _ q=>q
   rcases hc with z | z
   . rw[z];exact g b u e
   . exact g c _ z
def Inv.tok(I:#[8] H s)(t:Nat):#[8] H { s with toks:=t }:=I.un (h':=s.heap) (t':=t) Un.refl I.hok
def Inv.kept{t':Nat}(I:#[8] H s)(k:∀b u,s.heap.get? b=some u->h'.get? b=some u):#[8] H { s with heap:=h',toks:=t' }:=I.un (Un.kept k) (I.hok.kept k)
def Inv.laid{a:Addr}{t':Nat}(I:#[8] H s)(k:∀b u,s.heap.get? b=some u->h'.get? b=some u)(c:‹s›<=a)(new:ObjOk X.prog X.w (upd H a o) h' a o):
 #[8] (upd H a o) { s with heap:=h',toks:=t' }:=I.un (Un.laid k c (I.hok.fresh c)) (I.hok.laid k c new)
def Inv.write{x e:Addr}{t':Nat}(I:#[8] H s)(d:Mut (H x))(he:e=x∨H e=some (.own x))(k:∀b u,b≠e->s.heap.get? b=some u->h'.get? b=some u)(c:∃u,h'.get? e=some u)
 (new:ObjOk X.prog X.w (upd H x o) h' x o):#[8] (upd H x o) { s with heap:=h',toks:=t' }:=I.un (Un.write d he k c) (I.hok.write d he k c new)
def Inv.pins_of{b:#[7]}(I:#[8] H s)(h:∀p∈b,s.heap.get? p.1=some p.2/\H p.1=none/\p.1≠X.env.locals/\p.1∉X.fs/\∀v,p.2.data≠.cell v):Inv X b σ H s:=
 %[I.ok,I.os,I.bare,I.base,I.loc,I.cell,I.free,I.freeC,λp c=>(qH0 c).elim (λz=>I.pin p (List.mem_append_left _ z)) (h p),I.hok|I.len]
def yC{N:List Str}(c:N.Nodup){i j:Nat}{x:Str}(a:N[i]?=some x)(b:N[j]?=some x):i=j:=by
 let%[h1|e1]:=Qs a;let%[h2|e2]:=Qs b;exact(List.getElem_inj c).mp (e1.trans e2.symm)
def ve{M:Model}{A:Around}{E:#[6]}{i:Nat}{x:Str}{Q:Unit->Shared->Prop}(I:#[8] H s)(hN:X.N.Nodup)(U:X.N[i]?=some x)(B:Loc X.env.scope x)(r:RelV v u)
 (h:∀s',Inv X Qh (σ.set i (some v)) H s'->(∃a,Heap.SameBut a s.heap s'.heap/\(a=X.env.locals∨X.env.cells.lookup x=some a))->Q () s')(hf:X.fn x=true∨X.env.scope.names.lookup x=some .local:=by first | exact .inl rfl | exact .inr rfl | assumption):wpAny M A (storeName X.env x u) Q E s:=by
 let%[m,hn|hl]:=id I.loc;let Y:(X.env.scope.kind==.class||(X.env.scope.kind==.module&&X.env.locals != X.env.globals))=false:=by rw[I.ok.kind];rfl
 let ab:i<σ.length:=by rw[I.len];exact(Qs U).1
 let cne:=I.cne;let t:∀{a:Addr}{h':Heap},(∃o,s.heap.get? a=some o/\H a=none)->Heap.SameBut a s.heap h'->HOk X.prog X.w H h':=fun{a h'} ha g b ob e=>by
  erw[_,_,C]at ha;refine(I.hok b ob e).stay (λc w' hc q=>(g.2 c ?_).trans q) (λ_ q=>q) λ_ _ q=>q
  rintro rfl;rcases hc with rfl | hc
  . rw[C]at e;cases e
  . rw[C]at hc;cases hc
 rcases B with D | D
 . apply wpAny_storeName_local D hn (λh' as g=>?_) Y;let%[oL,_,_,av|_]:=id hn;apply h _ %[I.ok,I.os,I.bare,%[λb o e n J B=>?_,λb o e n J B=>?_,I.base.free,λb o e B=>?_,I.base.tups,I.base.frzs|I.base.tbls],%[_,as|λj y v' e1 e2 e3=>?_],λy c e=>?_,I.free,I.freeC,λp hp=>?_,t %[oL,av|I.free] g|by simpa using I.len] ⟨_,g,.inl rfl⟩
   . exact(g.2 b (nc (rz (js e) I.ok.above))).trans (I.base.keep b o e n J B)
   . let%[sl|e1]:=I.base.slot b o e n J B;erw[sl,(g.2 b (nc (rz (js e) I.ok.above))).trans e1]
   . let%[o'|e1]:=I.base.there b o e B;erw[o',(g.2 b (nc (rz (js e) I.ok.above))).trans e1]
   . by_cases L:j=i
     . subst L;rw[U]at e1;cases e1;rw[List.getElem?_set_self ab]at e2;cases e2;erw[u,r,.inl %[D|by simp]]
     . rw [List.getElem?_set_ne (Ne.symm L)]at e2;let%[u',r'|q]:=hl j y v' e1 e2 e3;erw[u',r',6];rcases q with⟨k,e⟩ | ⟨k,c,e,z⟩
       . refine .inl %[k|6]
         have:y≠x:=λe=>L (yC hN e1 (e▸U))
         simp [this,e]
       . exact .inr %[k,c,e|z.sameBut g (cne y c e)]
   . let%[w'|z]:=I.cell y c e;erw[w',z.sameBut g (cne y c e)]
   . let%[e,n,ne,nf|d]:=I.pin p hp;erw[(g.2 p.1 ne).trans e,n,ne,nf,d]
 . let O:X.fn x=true:=by
    rcases hf with z | z
    . exact z
    . rw[z]at D;cases D
   let%[c|hc]:=I.ok.has x (.inl D);let%[w'|z]:=I.cell x c hc;apply wpAny_storeName_cell I.ok.kind D hc z (λh' ah g=>?_);let%[oc,an|ap]:=id z;apply h { s with heap:=h' } ⟨I.ok,I.os,I.bare,⟨λb o e n J B=>?_,λb o e n J B=>?_,I.base.free,λb o e B=>?_,I.base.tups,I.base.frzs,I.base.tbls⟩,%[m,hn.sameBut g (Ne.symm (cne x c hc))|λj y v' e1 e2 e3=>?_],λy c' e=>?_,I.free,I.freeC,λp hp=>?_,t %[oc,an|I.freeC x c hc] g,by simpa using I.len⟩ ⟨c,g,.inr hc⟩
   . exact(g.2 b (nc (rz (js e) (I.ok.cab x c O hc)))).trans (I.base.keep b o e n J B)
   . let%[sl|e1]:=I.base.slot b o e n J B;erw[sl,(g.2 b (nc (rz (js e) (I.ok.cab x c O hc)))).trans e1]
   . let%[o'|e1]:=I.base.there b o e B;erw[o',(g.2 b (nc (rz (js e) (I.ok.cab x c O hc)))).trans e1]
   . by_cases L:j=i
     . subst L;rw[U]at e1;cases e1;rw[List.getElem?_set_self ab]at e2;cases e2;erw[u,r,.inr %[.inl D,c,hc|ah]]
     . rw [List.getElem?_set_ne (Ne.symm L)]at e2;let%[u',r'|q]:=hl j y v' e1 e2 e3;erw[u',r',6];rcases q with q | ⟨k,c',e,z'⟩
       . exact .inl q
       . refine .inr %[k,c',e|z'.sameBut g ?_];rintro rfl;exact L (yC hN e1 (I.ok.inj _ _ _ e hc▸U))
   . by_cases ar:c'=c
     . subst ar;erw[_,ah]
     . let%[w2|z2]:=I.cell y c' e;erw[w2,z2.sameBut g ar]
   . let%[e,n,ne,nf|d]:=I.pin p hp;erw[(g.2 p.1 ?_).trans e,n,ne,nf,d];intro q;rw[q,an]at e;let q':oc=p.2:=ln e;exact d w' (by rw[←q'];exact ap)
def ox{M:Model}{A:Around}{E:#[6]}{i:Nat}{x:Str}{Q:Unit->Shared->Prop}(I:#[8] H s)(b:X.N.Nodup)(c:X.N[i]?=some x)(d:Loc X.env.scope x)(r:RelV v u)
 (h:∀s',Inv X Qh (σ.set i (some v)) H s'->Q () s')(hf:X.fn x=true∨X.env.scope.names.lookup x=some .local:=by first | exact .inl rfl | exact .inr rfl | assumption):wpAny M A (storeName X.env x u) Q E s:=
 ve I b c d r (λs' e _=>h s' e) hf
def Inv.call'{s':Shared}{ch:List Addr}(I:#[8] H s)(g:s'.os=s.os)(u:Un (frs X.stack) ch H H' s.heap s'.heap)(hok:HOk X.prog X.w H' s'.heap)(hg:AllBare s'.gens)
 (d:∀b∈ch,(b∈X.ex∨X.s₀.heap.objs.size<=b)/\b≠X.env.locals/\(∀x c,X.env.cells.lookup x=some c->c≠b)/\∀p∈X.pn++Qh,p.1≠b):#[8] H' s':=by
 erw[h',g',d',t',j]at s';let e:j=s.os:=g;subst e;exact I.call (g':=g') (t':=t') (d':=d') u hok hg d
end
abbrev XK:=Value->Option Addr->Hp->Prop
abbrev St:=List (Option V)
abbrev VK:=V->Hp->Prop
abbrev TE:=St->Hp->VK->Prop
abbrev TT:=St->Hp->(Bool->Hp->Prop)->Prop
abbrev TA:=St->Hp->(List V->Hp->Prop)->Prop
structure Ends where
 nx:St->Hp->Prop
 rt:VK
 bk:St->Hp->Prop:=λ_ _=>False
 ct:St->Hp->Prop:=λ_ _=>False
abbrev TS:=Ends->St->Hp->Prop
instance EP(X:Cx)(Qh:#[7])(σ:St)(Q:VK)(u:Value)(s':Shared):∀v H',#[8] H' s'->RelV v u->Q v H':=0
instance TP(X:Cx)(Qh:#[7])(σ:St)(Q:Bool->Hp->Prop)(b:Bool)(s':Shared):∀H',#[8] H' s'->Q b H':=0
instance AP(X:Cx)(Qh:#[7])(σ:St)(Q:List V->Hp->Prop)(us:List Value)(s':Shared):∀vs H',#[8] H' s'->Vals vs us->Q vs H':=0
instance NP(X:Cx)(Qh:#[7])(N:St->Hp->Prop)(s':Shared):∀ σ' H',Inv X Qh σ' H' s'->N σ' H':=0
instance RP(X:Cx)(Qh:#[7])(Q:VK)(u:Value)(s':Shared):∀v σ' H',Inv X Qh σ' H' s'->RelV v u->Q v H':=0
instance HQ(X:Cx)(Qh:#[7])(σ:St)(Q:Hp->Prop)(s':Shared):∀H',#[8] H' s'->Q H':=0
def SP(X:Cx)(Qh:#[7])(D:Ends)(f:Flow)(s':Shared):Prop:=
 match f with
 |.next=>NP X Qh D.nx s'
 |.brk=>NP X Qh D.bk s'
 |.cont=>NP X Qh D.ct s'
 |.ret u=>RP X Qh D.rt u s'
def PE(X:Cx)(e:Expr)(t:TE):Prop:=
 ∀(Qh:#[7])(s:Shared)(σ:St)(H:Hp)(Q:VK),#[8] H s->t σ H Q->‹X.w› (eval e X.env) (EP X Qh σ Q) X.xe s
def PT(X:Cx)(e:Expr)(t:TT):Prop:=
 ∀(Qh:#[7])(s:Shared)(σ:St)(H:Hp)(Q:Bool->Hp->Prop),#[8] H s->t σ H Q->‹X.w› (isTrue e X.env (eval e X.env)) (TP X Qh σ Q) X.xe s
def PW(X:Cx)(e:Expr)(t:TT):Prop:=
 ∀(whole:Sem Value)(Qh:#[7])(s:Shared)(σ:St)(H:Hp)(Q:Bool->Hp->Prop),#[8] H s->t σ H Q->‹X.w› (isTrue e X.env whole) (TP X Qh σ Q) X.xe s
def PW.pt(h:PW X e t):PT X e t:=h _
def PA(X:Cx)(b:List Expr)(t:TA):Prop:=
 ∀(pos:Pos)(Qh:#[7])(s:Shared)(σ:St)(H:Hp)(Q:List V->Hp->Prop),#[8] H s->t σ H Q->‹X.w› (spliced (backTo pos (starEach b X.env))) (AP X Qh σ Q) X.xe s
def PS(X:Cx)(st:Stmt)(t:TS):Prop:=
 ∀(Qh:#[7])(s:Shared)(σ:St)(H:Hp)(D:Ends),#[8] H s->t D σ H->‹X.w› (exec st X.env) (SP X Qh D) X.xe s
def PSs(X:Cx)(st:List Stmt)(t:TS):Prop:=
 ∀(Qh:#[7])(s:Shared)(σ:St)(H:Hp)(D:Ends),#[8] H s->t D σ H->‹X.w› (execs st X.env) (SP X Qh D) X.xe s
def thn{α:Type}{t:Sem α}{Q b:α->Shared->Prop}{M:Model}{A:Around}{E:#[6]}{s:Shared}(h:wpAny M A t Q E s)(c:∀a s,Q a s->b a s):wpAny M A t b E s:=se h c λ_ _ x=>x
section
variable {X:Cx}
instance tVar(i:Nat)(σ:St)(H:Hp)(Q:VK):∀v,σ[i]?=some (some v)->Q v H:=0
def tC(v:V):TE:=λ_ H Q=>Q v H
def Kz{i:Nat}{x:Str}{pos:Pos}(j:X.N[i]?=some x)(n:Vis X.env.scope x)(hd:(x==("__debug__":Str))=false:=by decide)(g:(x==("__classdict__":Str))=false:=by decide):PE X (.Name x pos) (tVar i):=by
 exists 4,Q,I,h;erw[v,e,h]at h;erw[m,o,hl]at I.loc;let%[u,r|l]:=hl i x v j e n;let fin:EP X Qh σ Q u s:=%[v,H,I,r|h]
 rcases l with⟨d,q⟩ | ⟨d,c,hc,b⟩
 . exact wpAny_Name (wpAny_loadName_local I.ok.kind d o q fin) hd
 . rcases d with d | d
   . exact wpAny_Name (wpAny_loadName_cell I.ok.kind d hc b fin) hd
   . exact wpAny_Name (wpAny_loadName_free I.ok.kind d hc b fin g) hd
def ae{i j pos}:PE X (.Constant (.int i) j pos) (tC (.int i)):=λ_ _ _ H _ I h=>wpAny_Constant_int %[.int i,H,I.tok _,%[|0]|h]
def jz{b j pos}:PE X (.Constant (.bool b) j pos) (tC (.bl b)):=λ_ _ _ H _ I h=>Constant_bool %[.bl b,H,I,1|h]
def FA{j pos}:PE X (.Constant .none j pos) (tC .non):=λ_ _ _ H _ I h=>Constant_none %[.non,H,I,1|h]
def ao{x j pos}:PE X (.Constant (.str x) j pos) (tC (.str x)):=λ_ _ _ H _ I h=>Calls.Constant_str %[.str x,H,I.tok _,%[|0]|h]
def Gl(X:Cx)(x:Str):Prop:=X.env.kindOf x=some .globalImplicit
def iK{E:#[6]}{σ:St}{u:Value}{pos:Pos}{Q:#[6]}(I:#[8] H s)(hg:Gl X x)(b:X.mg x=some u)(h:Q u s)
 (hd:(x==("__debug__":Str))=false:=by decide):‹X.w› (eval (.Name x pos) X.env) Q E s:=
 Calls.Name_function_global I.ok.kind hg (Calls.loadGlobal_global (by rw[I.ok.glob];exact I.mod.glob.keeps I.bk) b h) hd
def jN{E:#[6]}{σ:St}{u:Value}{pos:Pos}{Q:#[6]}(I:#[8] H s)(hg:Gl X x)(b:X.mg x=none)(c:bootBuiltins x=some u)(h:Q u s)
 (d:x≠"__name__":=by decide)(hd:(x==("__debug__":Str))=false:=by decide):‹X.w› (eval (.Name x pos) X.env) Q E s:=by
 erw[e,h1,h2]at I.mod.blt;exact Calls.Name_function_global I.ok.kind hg (Calls.loadGlobal_builtin (by rw[I.ok.glob];exact I.mod.glob.keeps I.bk) b (by rw[I.ok.blt];exact h1.keeps I.bk) ((h2 x d).trans c) h) hd
def bQ{u:Value}{pos:Pos}(hg:Gl X x)(b:X.mg x=some u)(r:RelV v u)(hd:(x==("__debug__":Str))=false:=by decide):PE X (.Name x pos) (tC v):=
 λ_ _ _ H _ I h=>iK I hg b %[v,H,I,r|h] hd
def wO{u:Value}{pos:Pos}(hg:Gl X x)(b:X.mg x=none)(c:bootBuiltins x=some u)(r:RelV v u)(d:x≠"__name__":=by decide)(hd:(x==("__debug__":Str))=false:=by decide):PE X (.Name x pos) (tC v):=
 λ_ _ _ H _ I h=>jN I hg b c %[v,H,I,r|h] d hd
variable {a b:Expr}{ta tb:TE}{pos:Pos}
instance ZtB(Q:(Bool->Hp->Prop))(x:V)(H1:Hp):∀c,x=.bl c->Q c H1:=0
def tB(t:TE):TT:=λσ H Q=>t σ H λx c=>ZtB Q x c
def di(h:PE X e t)(he:∀whole,isTrue e X.env whole=(do let v ←whole;standAt e.pos;holding [v] (truthy v)):=by intro _;rfl):PT X e (tB t):=by
 exists 4,Q,I,hw;apply isTrue_plain (thn (h Qh s σ H _ I hw) λv s1 ⟨x,c,g,r1,j⟩=>?_) (he _);erw[d,1,q]at j;cases r1;exact G0 %[c,g|q]
variable {tA tB':TT}{rest:List Expr}
def tAnd(t u:TT):TT:=λσ H Q=>t σ H λc d=>if c=true then u σ d Q else Q false d
def tOr(t u:TT):TT:=λσ H Q=>t σ H λc d=>if c=true then Q true d else u σ d Q
def tNot(t:TT):TT:=λσ H Q=>t σ H λc d=>Q (!c) d
def oR(d:PT X a tA):PW X (.BoolOp .And [a] pos) tA:=by
 intro g Qh s σ H Q I h;apply isTrue_and (thn (d Qh s σ H Q I h) λc s1 e=>?_);cases c with
 |true=>exact isTrue_and_nil e
 |false=>exact e
def dL(d:PT X a tA):PW X (.BoolOp .Or [a] pos) tA:=by
 intro g Qh s σ H Q I h;apply isTrue_or (thn (d Qh s σ H Q I h) λc s1 e=>?_);cases c with
 |false=>exact isTrue_or_nil e
 |true=>exact e
def qi(j:PT X a tA)(m:PW X (.BoolOp .And (b::rest) pos) tB'):PW X (.BoolOp .And (a::b::rest) pos) (tAnd tA tB'):=by
 intro n Qh s σ H Q I h;apply isTrue_and (thn (j Qh s σ H _ I h) λc s1 ⟨d,e,g⟩=>?_);cases c with
 |true=>exact m n Qh s1 σ d Q e g
 |false=>erw[d,e,g]
def eO(j:PT X a tA)(m:PW X (.BoolOp .Or (b::rest) pos) tB'):PW X (.BoolOp .Or (a::b::rest) pos) (tOr tA tB'):=by
 intro n Qh s σ H Q I h;apply isTrue_or (thn (j Qh s σ H _ I h) λc s1 ⟨d,e,g⟩=>?_);cases c with
 |true=>erw[d,e,g]
 |false=>exact m n Qh s1 σ d Q e g
def dO(d:PT X a tA):PT X (.UnaryOp .Not a pos) (tNot tA):=by
 exists 4,Q,I,h;exact isTrue_not (thn (d Qh s σ H (λc e=>Q (!c) e) I h) λ_ _ ⟨a,b,c⟩=>%[a,b|c])
instance ZtAndV(tb:TE)(σ:St)(Q:VK)(x:V)(H1:Hp):∀c,x=.bl c->(if c=true then tb σ H1 Q else Q (.bl false) H1):=0
def tAndV(ta tb:TE):TE:=λσ H Q=>ta σ H λx c=>ZtAndV tb σ Q x c
instance ZtOrV(tb:TE)(σ:St)(Q:VK)(x:V)(H1:Hp):∀c,x=.bl c->(if c=true then Q (.bl true) H1 else tb σ H1 Q):=0
def tOrV(ta tb:TE):TE:=λσ H Q=>ta σ H λx c=>ZtOrV tb σ Q x c
instance ZtNotV(Q:VK)(x:V)(H1:Hp):∀c,x=.bl c->Q (.bl (!c)) H1:=0
def tNotV(ta:TE):TE:=λσ H Q=>ta σ H λx c=>ZtNotV Q x c
def Ac{op}(h:PE X a t):PE X (.BoolOp op [a] pos) t:=λQh s σ H Q I hw=>BoolOp_one (h Qh s σ H Q I hw)
def Af(j:PE X a ta)(m:PE X (.BoolOp .And (b::rest) pos) tb):PE X (.BoolOp .And (a::b::rest) pos) (tAndV ta tb):=by
 exists 4,Q,I,h;apply BoolOp_and (thn (j Qh s σ H _ I h) λv s1 ⟨x,e,g,r1,d⟩=>?_);erw[c,1,d]at d;cases r1;apply G0 ?_;cases c with
 |true=>exact m Qh s1 σ e Q g d
 |false=>erw[.bl false,e,g,1,d]
def pe_or(j:PE X a ta)(m:PE X (.BoolOp .Or (b::rest) pos) tb):PE X (.BoolOp .Or (a::b::rest) pos) (tOrV ta tb):=by
 exists 4,Q,I,h;apply BoolOp_or (thn (j Qh s σ H _ I h) λv s1 ⟨x,e,g,r1,d⟩=>?_);erw[c,1,d]at d;cases r1;apply G0 ?_;cases c with
 |false=>exact m Qh s1 σ e Q g d
 |true=>erw[.bl true,e,g,1,d]
def Fz(e:PE X a ta):PE X (.UnaryOp .Not a pos) (tNotV ta):=by
 exists 4,Q,I,h;apply UnaryOp_ (thn (e Qh s σ H _ I h) λv s1 ⟨x,g,j,r1,d⟩=>?_);erw[c,1,d]at d;cases r1;exact not_of (G0 %[.bl (!c),g,j,1|d])
def tIf(t:TT)(ta tb:TE):TE:=λσ H Q=>t σ H λc d=>if c=true then ta σ d Q else tb σ d Q
def oW(hc:PT X c tA)(m:PE X a ta)(n:PE X b tb):PE X (.IfExp c a b pos) (tIf tA ta tb):=by
 exists 4,Q,I,h;apply wpAny_IfExp (thn (hc Qh s σ H _ I h) λd s1 ⟨e,g,j⟩=>?_);cases d with
 |true=>exact m Qh s1 σ e Q g j
 |false=>exact n Qh s1 σ e Q g j
end
def SqL(K:W.Frag)(H:Hp)(a:Addr)(xs:List V):Prop:=
 Rd H a (.lst xs)∨
  ∃(o:Obj) (its:Array Value) (n:Nat),K.lookup a=some o/\o.cls=.type "list"/\o.dict=none/\o.data=.seq its n/\its.size<=sizeLine/\Vals xs its.toList
def SqT(K:W.Frag)(H:Hp)(a:Addr)(xs:List V):Prop:=
 Rd H a (.tup xs)∨
  ∃(o:Obj) (its:Array Value) (n:Nat),K.lookup a=some o/\o.cls=.type "tuple"/\o.data=.seq its n/\its.size<=sizeLine/\Vals xs its.toList
def absV:Value->Option V
 |.none=>some .non
 |.bool b=>some (.bl b)
 |.int i _=>some (.int i)
 |.str x _=>some (.str x)
 |.bytes b _=>some (.byt b)
 |.float b _=>some (.flt b)
 |.ref a=>some (.ref a)
 |.type n=>some (.ty n)
 |_=>none
def RelV.abs(r:RelV x u):absV u=some x:=by
 cases x with
 |non=>cases r;rfl
 |bl _=>cases r;rfl
 |int _=>erw[t,1]at r;rfl
 |str _=>erw[t,1]at r;rfl
 |byt _=>erw[t,1]at r;rfl
 |flt _=>erw[t,1]at r;rfl
 |ref _=>cases r;rfl
 |ty _=>cases r;rfl
def RelV.inj(r:RelV x u)(q:RelV y u):x=y:=ln (r.abs.symm.trans q.abs)
def Vals.inj:∀{xs ys:List V}{us:List Value},Vals xs us->Vals ys us->xs=ys
 |_,_,_,.nil,.nil=>rfl
 |_,_,_,.cons r t,.cons r' t'=>by rw[r.inj r',Vals.inj t t']
section
variable {X:Cx}{Qh:#[7]}{σ:St}{H:Hp}{s:Shared}{a:Addr}{xs ys:List V}
def fy{K:W.Frag}(h:H a=some (.lst xs)):SqL K H a xs:=.inl (.inl h)
abbrev SqL.of:=@fy
def eS{K:W.Frag}(h:H a=some (.tup xs)):SqT K H a xs:=.inl (.inl h)
abbrev SqT.of:=@eS
def Inv.list(I:#[8] H s)(h:SqL X.K H a xs):∃its:List Value,Vals xs its/\PlainL s.heap a its.toArray/\xs.length<=sizeLine:=by
 rcases h with h | ⟨o,its,n,b,hc,hd,c,d,r⟩
 . let%[z,its,n,r|e]:=h.ok I.hok;erw[its,r,%[_,n,e,1,1|1],z]
 . erw[its.toList,r,%[o,n,I.kIn a o b,hc,hd|by simpa using c],6];let e:=r.length;simp only[zf]at e;omega
def Inv.tuple(I:#[8] H s)(h:SqT X.K H a xs):∃its:List Value,Vals xs its/\IsTup s.heap a its.toArray/\xs.length<=sizeLine:=by
 rcases h with h | ⟨o,its,n,b,hc,c,d,r⟩
 . let%[z,its,r,p|_]:=h.ok I.hok;erw[its,r,p,z]
 . erw[its.toList,r,%[o,I.kIn a o b,hc,n|by simpa using c],6];let e:=r.length;simp only[zf]at e;omega
def Inv.list_inj(I:#[8] H s)(h:SqL X.K H a xs)(h':SqL X.K H a ys):xs=ys:=by
 let%[its,r,%[o,n,e,_,_|d]|_]:=I.list h;let%[its',r',%[c,g,b,_,_|d']|_]:=I.list h';rw[e]at b;cases b;rw[d]at d';injection d' with d1 _
 have:its=its':=#[congrArg Array.toList d1,0]
 subst this;exact r.inj r'
def Inv.tuple_inj(I:#[8] H s)(h:SqT X.K H a xs)(h':SqT X.K H a ys):xs=ys:=by
 let%[its,r,%[o,e,_,n|d]|_]:=I.tuple h;let%[its',r',%[c,b,_,g|d']|_]:=I.tuple h';rw[e]at b;cases b;rw[d]at d';injection d' with d1 _
 have:its=its':=#[congrArg Array.toList d1,0]
 subst this;exact r.inj r'
end
abbrev Cx.wish(X:Cx)(E:#[6]):Cx:={ X with xe:=E }
abbrev Cx.nox(X:Cx):Cx:=X.wish λ_ _=>False
def Cx.Ok.wish{X:Cx}(ok:X.Ok)(E:#[6]):(X.wish E).Ok:=
 %[ok.mod,ok.kind,ok.glob,ok.blt,ok.above,ok.inj,ok.has,ok.cab,ok.hd,ok.frames,ok.stk,ok.exf,ok.bs,ok.bsz,ok.noex,ok.exfs,ok.funs|ok.frf]
def Cx.Ok.unwish{X:Cx}{E:#[6]}(ok:(X.wish E).Ok):X.Ok:=
 %[ok.mod,ok.kind,ok.glob,ok.blt,ok.above,ok.inj,ok.has,ok.cab,ok.hd,ok.frames,ok.stk,ok.exf,ok.bs,ok.bsz,ok.noex,ok.exfs,ok.funs|ok.frf]
section
variable {X:Cx}{Qh:#[7]}{σ:St}{H:Hp}{s:Shared}{E:#[6]}
def Inv.wish(I:#[8] H s)(E:#[6]):Inv (X.wish E) Qh σ H s:=%[I.ok.wish E,I.os,I.bare,I.base,I.loc,I.cell,I.free,I.freeC,I.pin,I.hok|I.len]
def Inv.unwish(I:Inv (X.wish E) Qh σ H s):#[8] H s:=%[I.ok.unwish,I.os,I.bare,I.base,I.loc,I.cell,I.free,I.freeC,I.pin,I.hok|I.len]
def SP.unwish{D:Ends}{f:Flow}{s':Shared}(h:SP (X.wish E) Qh D f s'):SP X Qh D f s':=by
 cases f with
 |next=>erw[σ',b,I,q]at h;erw[σ',b,I.unwish,q]
 |brk=>erw[σ',b,I,q]at h;erw[σ',b,I.unwish,q]
 |cont=>erw[σ',b,I,q]at h;erw[σ',b,I.unwish,q]
 |ret u=>erw[v,σ',b,I,r,q]at h;erw[v,σ',b,I.unwish,r,q]
def PSs.nox{st:List Stmt}(h:PSs X.nox st t):PSs X st t:=λQh s σ H D I hw=>
 se (h Qh s σ H D (I.wish _) hw) (λ_ _ q=>q.unwish) λ_ _ z=>False.elim z
end
section
variable {X:Cx}{st:Stmt}{rest:List Stmt}{t u:TS}{e:Expr}{te:TE}{pos:Pos}
def JQ:TS:=λD σ H=>D.nx σ H
def Ki(t u:TS):TS:=λD σ H=>t { D with nx:=u D } σ H
def au:PSs X [] JQ:=λ_ _ σ H _ I h=>LO %[σ,H,I|h]
def aa(h1:PS X st t)(h2:PSs X rest u):PSs X (st::rest) (Ki t u):=by
 exists 4,D,I,h;apply Rj (thn (h1 Qh s σ H { D with nx:=u D } I h) λf s1 q=>?_);cases f with
 |next=>
   erw[σ',b,c,q]at q;exact h2 Qh s1 σ' b D c q
 |ret v=>exact q
 |brk=>exact q
 |cont=>exact q
def ac(h1:PS X st t):PSs X [st] t:=by
 exists 4,D,I,h;apply Rj (thn (h1 Qh s σ H D I h) λf s1 q=>?_);cases f with
 |next=>exact LO q
 |ret v=>exact q
 |brk=>exact q
 |cont=>exact q
def Inv.quiet{σ:St}(I:#[8] H s):interactive X.env=false:=by simp [interactive,I.ok.kind]
def tDrop(te:TE):TS:=λD σ H=>te σ H λ_ b=>D.nx σ b
def aQ(he:PE X e te)(b:swapsWith e none pos.line X.env=pure false:=by rfl):PS X (.Expr e pos) (tDrop te):=by
 exists 4,D,I,h;exact wpAny_Expr_any (thn (he Qh s σ H _ I h) λv s1 ⟨x,c,d,r1,g⟩=>%[σ,c,d|g]) I.quiet b
def tRet(te:TE):TS:=λD σ H=>te σ H D.rt
def am(he:PE X e te):PS X (.Return (some e) pos) (tRet te):=by
 exists 4,D,I,h;exact wpAny_Return_some (thn (he Qh s σ H _ I h) λv s1 ⟨x,b,c,r1,d⟩=>%[x,σ,b,c,r1|d])
def Kk(c:TT)(t u:TS):TS:=λD σ H=>c σ H λb d=>if b=true then t D σ d else u D σ d
def aG(hc:PT X c tc)(n:PSs X a t)(o:PSs X b u):PS X (.If c a b pos) (Kk tc t u):=by
 exists 4,D,I,h;apply wpAny_If (thn (hc Qh s σ H _ I h) λd s1 ⟨g,j,m⟩=>?_);cases d with
 |true=>exact n Qh s1 σ g D j m
 |false=>exact o Qh s1 σ g D j m
def Ey:TS:=λ_ _ _=>False
def yg:PS X st Ey:=λ_ _ _ _ _ _ h=>h.elim
def ba:PSs X b Ey:=λ_ _ _ _ _ _ h=>h.elim
end
abbrev TG:=V->St->Hp->(St->Hp->Prop)->Prop
abbrev TGs:=List V->St->Hp->(St->Hp->Prop)->Prop
def PG(X:Cx)(b:Expr)(t:TG):Prop:=
 ∀(Qh:#[7])(s:Shared)(σ:St)(H:Hp)(v:V)(u:Value)(Q:St->Hp->Prop),#[8] H s->RelV v u->t v σ H Q ->
  ‹X.w› (assign b X.env u) (λ_ s'=>NP X Qh Q s') X.xe s
def PGs(X:Cx)(ts:List Expr)(t:TGs):Prop:=
 ∀(Qh:#[7])(s:Shared)(σ:St)(H:Hp)(vs:List V)(us:List Value)(Q:St->Hp->Prop),#[8] H s->Vals vs us->t vs σ H Q ->
  ‹X.w› (assignInOrder ((assignEach ts X.env).map (·.2)) us) (λ_ s'=>NP X Qh Q s') X.xe s
abbrev LH:=V->V->V->Hp->(Hp->Prop)->Prop
def PSet(X:Cx)(t:LH):Prop:=
 ∀(Qh:#[7])(s:Shared)(σ:St)(H:Hp)(o i v:V)(b c u:Value)(Q:Hp->Prop),#[8] H s->RelV o b->RelV i c->RelV v u->t o i v H Q ->
  ‹X.w› (setItem b c u) (λ_ s'=>HQ X Qh σ Q s') X.xe s
section
variable {X:Cx}{pos:Pos}
def yU(i:Nat):TG:=λv σ H Q=>Q (σ.set i (some v)) H
def bn{i:Nat}{x:Str}(b:X.N.Nodup)(c:X.N[i]?=some x)(d:Loc X.env.scope x)(hf:X.fn x=true∨X.env.scope.names.lookup x=some .local:=by first | exact .inl rfl | exact .inr rfl | assumption):PG X (.Name x pos) (yU i):=by
 exists 4,v,u,Q,I,r,h;exact wpAny_assign_Name (ox I b c d r (λs' e=>%[_,H,e|h]) hf)
instance gNil(vs:List V)(σ:St)(H:Hp)(Q:(St->Hp->Prop)):vs=[]->Q σ H:=0
instance gCons(t:TG)(u:TGs)(vs:List V)(σ:St)(H:Hp)(Q:(St->Hp->Prop)):∀v r,vs=v::r->(t v σ H λσ' H'=>u r σ' H' Q):=0
def kJ:PGs X [] gNil:=by
 exists 4,vs,us,Q,I,r,h;erw[e,h]at h;subst e;cases r;exact assignInOrder_nil %[σ,H,I|h]
def dB(h1:PG X e t)(h2:PGs X b u)
 (c:(assignEach (e::b) X.env).map (·.2)=assign e X.env::(assignEach b X.env).map (·.2):=by rfl):PGs X (e::b) (gCons t u):=by
 exists 4,vs,us,Q,I,r,h;erw[v,n,e1,h]at h;subst e1;cases r with
 |cons r d=>
   rw[c];apply assignInOrder_cons (thn (h1 Qh s σ H _ _ _ I r h) λ_ s1 ⟨σ1,g,j,m⟩=>?_);exact h2 Qh s1 σ1 g _ _ Q j d m
instance gTup(K:W.Frag)(n:Nat)(t:TGs)(v:V)(σ:St)(H:Hp)(Q:(St->Hp->Prop)):∀a xs,v=.ref a->SqT K H a xs->xs.length=n->t xs σ H Q:=0
def om{k:Nat}{n:Nat}(hc:X.calm=true)(h:PGs X c t)
 (g:(assignEach c X.env).length=n:=by rfl)(j:(assignEach c X.env).findIdx? (·.1)=none:=by rfl):PG X (.Tuple c k pos) (gTup X.K n t):=by
 exists 4,v,u,Q,I,r,hw;erw[a,xs,e1,m,hl,hw]at hw;subst e1;cases r;let%[its,d,q|z]:=I.tuple m;apply assign_Tuple_tuple (I.ok.hd hc) q (by simp [g,←hl,d.length]) j λh' x=>?_
 let y:#[8] H { s with heap:=h' }:=I.kept (t':=s.toks) λb o e=>x b o (nc (js e)) e
 exact h Qh _ σ H xs _ Q y #[d,0] hw
def gSub(to b:TE)(t:LH):TG:=λv σ H Q=>to σ H λo c=>b σ c λi d=>t o i v d λe=>Q σ e
def tE(d:PE X o to)(e:PE X i g)(j:PSet X t)
 (m:∀v,assign (.Subscript o i pos) X.env v=(do
  let b ←holding [v] (eval o X.env)
  let c ←holding [v,b] (eval i X.env)
  standAt pos
  holding [v,b,c] (setItem b c v)
  release [v,b,c] []):=by intro _;rfl):PG X (.Subscript o i pos) (gSub to g t):=by
 exists 4,v,u,Q,I,r,h;rw[m];apply ft (IL (thn (d Qh s σ H _ I h) λb s1 ⟨x,n,q,r1,z⟩=>?_));apply ft (IL (thn (e Qh s1 σ n _ q z) λc B ⟨y,C,D,r2,J⟩=>?_));apply ft (QF (ft (IL (thn (j Qh B σ C x y v b c u _ D r1 r2 r J) λ_ O ⟨L,M,N⟩=>?_))));exact wpAny_release %[σ,L,M|N]
def ED(b:TE)(g:TG):TS:=λD σ H=>b σ H λx c=>g x σ c D.nx
def oh(he:PE X e c)(hg:PG X b g)(d:swapsWithSole [b] e pos.line X.env=pure false:=by rfl)(hw:swappedStores [b] e X.env=pure none:=by rfl)
 (h1:(assignEach [b] X.env).map (·.2)=[assign b X.env]:=by rfl):PS X (.Assign [b] e pos) (ED c g):=by
 exists 4,D,I,h;apply wpAny_Assign_stores (thn (he Qh s σ H _ I h) λv s1 ⟨x,j,m,r1,n⟩=>?_) d hw;rw[h1];exact thn (hg Qh s1 σ j x v _ m r1 n) λ_ o q=>q
def aj{i:Nat}{x:Str}{b:Pos}(c:X.N.Nodup)(d:X.N[i]?=some x)(g:Loc X.env.scope x)(he:PE X e j)(m:swapsWith e (some (.Name x b)) pos.line X.env=pure false:=by rfl)(hf:X.fn x=true∨X.env.scope.names.lookup x=some .local:=by first | exact .inl rfl | exact .inr rfl | assumption):
 PS X (.Assign [.Name x b] e pos) (ED j (yU i)):=by
 exists 4,D,I,h;apply Sq (thn (he Qh s σ H _ I h) λv s1 ⟨y,n,o,r1,q⟩=>?_) m;exact ox o c d g r1 (λt r=>%[_,n,r|q]) hf
end
section
variable {X:Cx}{pos:Pos}
def Ew(c:TT)(j:TS):TS:=λD σ H=>∃W:Nat->St->Hp->Prop,(∃m,W m σ H)/\∀m σ H,W m σ H ->
 c σ H λb d=>if b=true then ∃N:St->Hp->Prop,(∀ σ' e,N σ' e->∃g,g<m/\W g σ' e)/\j { D with nx:=N,ct:=N,bk:=D.nx } σ d else D.nx σ d
def jX(r:PassesOwn (model X.prog X.w) X.A X.env X.xe)(hc:PT X c tc)(z:PSs X body B):PS X (.While c body [] pos) (Ew tc B):=by
 exists 4,D,I,h;erw[W,%[C|J],turn]at h;apply wpAny_While (codeAny_whileLoop (λn s'=>NP X Qh (W n) s') ?_ C %[σ,H,I|J]);rintro n s1 ⟨σ1,t,L,w1⟩;apply QO r (thn (hc Qh s1 σ1 t _ L (turn n σ1 t w1)) λb M ⟨u,x,e⟩=>?_);cases b with
 |true=>
   erw[N,y,e]at e;rw[Qk rfl];apply QO r (thn (z Qh M σ1 u _ x e) λf O g=>?_);cases f with
   |next=>
     erw[σ3,d,j,m]at g;let%[o,q|w3]:=y σ3 d m;erw[o,q,σ3,d,j,w3]
   |cont=>
     erw[σ3,d,j,m]at g;let%[o,q|w3]:=y σ3 d m;erw[o,q,σ3,d,j,w3]
   |brk=>exact g
   |ret v=>exact g
 |false=>
   rw[Qi o8];exact LO %[σ1,u,x|e]
end
structure It where
 go:Nat->Hp->Prop
 yld:Nat->Hp->V->Hp->Prop
 stop:Nat->Hp->Prop
def pO(X:Cx)(Qh:#[7])(H:Hp)(b:Addr):Prop:=
 H b=none/\b≠X.env.locals/\b∉X.fs/\(b∈X.ex∨X.s₀.heap.objs.size<=b)/\(∀x c,X.env.cells.lookup x=some c->c≠b)/\∀p∈X.pn++Qh,p.1≠b
def Inv.fpOk{σ:St}{g:Hp}{b:Addr}(I:#[8] H s)(d:‹s›<=b)(j:g b=none):pO X Qh g b:=by
 erw[j,QS (rz I.lt d),I.nofs d,.inr (hQ I.sz d),λx c e z=>?_,λp m z=>?_]
 . let%[v|q]:=I.cell x c e;exact absurd (rz q.lt (by rw[z];exact d)) (Fo _)
 . exact absurd (rz (js (I.pin p m).1) (by rw[z];exact d)) (Fo _)
structure Turn(P:Program)(w:World)(K:W.Frag)(tg:Expr)(J:It)(fp:List Addr)(it:Addr)(tn:Nat->Heap->Prop):Prop where
 mem:it∈fp
 obj:∀i h,tn i h->∀b∈fp,∃o,h.get? b=some o/\∀v,o.data≠.cell v
 keep:∀i h h',tn i h->(∀b∈fp,∀o,h.get? b=some o->h'.get? b=some o)->tn i h'
 item:∀(X:Cx),X.prog=P->X.w=w->X.K=K->X.calm=true->∀(i:Nat)(Qh:#[7])(s:Shared)(σ:St)(H:Hp)(E:#[6]),#[8] H s->(∀b∈fp,pO X Qh H b)->tn i s.heap->J.go i H ->
  wpAny (model P w) X.A (pyNext (.ref it)) (λr s1=>∃u,r=some u/\
   wpAny (model P w) X.A (letOwnedTupleGo tg (.ref it) u) (λ_ s2=>∃x H',#[8] H' s2/\RelV x u/\J.yld i H x H'/\tn (i+1) s2.heap/\∀b∈fp,H' b=none) E s1) E s
 done:∀(X:Cx),X.prog=P->X.w=w->X.K=K->X.calm=true->∀(i:Nat)(Qh:#[7])(s:Shared)(σ:St)(H:Hp)(E:#[6]),#[8] H s->(∀b∈fp,pO X Qh H b)->tn i s.heap->J.stop i H ->
  wpAny (model P w) X.A (pyNext (.ref it)) (λr s1=>r=none/\#[8] H s1) E s
 self:∀(A:Around)(i:Nat)(s:Shared)(Q:#[6])(E:#[6]),tn i s.heap->Q (.ref it) s->wpAny (model P w) A (pyIter (.ref it)) Q E s
abbrev TI:=St->Hp->(It->Hp->Prop)->Prop
def PIE(X:Cx)(Qh:#[7])(σ:St)(n:Expr)(R:It->Hp->Prop)(c:Value)(e:Shared):Prop:=
 ∃(g:Addr)(j:List Addr)(m:Nat->Heap->Prop)(J:It)(d:Hp),c=.ref g/\#[8] d e/\Turn X.prog X.w X.K n J j g m/\m 0 e.heap/\(∀b∈j,pO X Qh d b)/\R J d
def PI(X:Cx)(b iter:Expr)(c:TI):Prop:=
 ∀(Qh:#[7])(s:Shared)(σ:St)(H:Hp)(R:It->Hp->Prop),#[8] H s->c σ H R ->
  ‹X.w› (eval iter X.env) (λv s1=>‹X.w› (pyIter v) (PIE X Qh σ b R) X.xe s1) X.xe s
def yR{M:Model}{A:Around}{E:#[6]}{s:Shared}{c:Expr}{d:Addr}{u:Value}{o:Obj}{n:String}{vs:Array Value}{Q:Unit->Shared->Prop}(e:s.heap.get? d=some o)(hc:o.cls=.type n)(hd:o.data=.fields vs)
 (g:["enumerate","zip","dict_itemiterator","dict_reverseitemiterator","odict_iterator","itertools.zip_longest","itertools.pairwise"].contains n=false)(b:Q () s):wpAny M A (letOwnedTupleGo c (.ref d) u) Q E s:=by
 unfold letOwnedTupleGo;cases c <;> first
  |exact gh b
  | (cases u <;> first
   |exact gh b
   | (apply ft (wpAny_load e ?_)
      rw[hc,hd];show wpAny M A (if(["enumerate","zip","dict_itemiterator","dict_reverseitemiterator","odict_iterator","itertools.zip_longest","itertools.pairwise"].contains n&&vs[0]?==some (rawInt _))=true then _ else _) Q E s;rw[Qi (by intro h;rw[g,Bool.false_and]at h;cases h)];exact gh b))
def Itl(K:W.Frag)(a:Addr):It:=
 ⟨λi H=>∃xs x,SqL K H a xs/\xs[i]?=some x,λi H x b=>b=H/\∀xs,SqL K H a xs->xs[i]?=some x,λi H=>∃xs,SqL K H a xs/\xs.length<=i⟩
def Itt(K:W.Frag)(a:Addr):It:=
 ⟨λi H=>∃xs x,SqT K H a xs/\xs[i]?=some x,λi H x b=>b=H/\∀xs,SqT K H a xs->xs[i]?=some x,λi H=>∃xs,SqT K H a xs/\xs.length<=i⟩
def Itr(lo:Int)(n:Nat):It:=%[λi _=>i<n,λi H x b=>b=H/\x=.int (lo+i)|λi _=>n<=i]
def uX{K:W.Frag}(a g:Addr):Turn P w K Y (Itl K a) [g] g (λi h=>h.IsListIter g a i) where
 mem:=by simp
 obj:=λi h st b j=>by
  let e:b=g:=#[j,0]
  subst e;erw[o,e,c,d]at st;erw[o,e,λv z=>by rw[d]at z;cases z]
 keep:=λi h h' st k=>st.at λo e=>k g #[2] o e
 item:=by
  exists 5;erw[xs,x,n,q]at hg;let%[its,r,p|C]:=I.list n;let%[u,D|J]:=r.get q;let%[f0,f1,L,t,y|B]:=hf g #[2];apply wpAny_pyNext_list_item st p.isList (x:=u) #[D,0] λh' m M=>?_
  let N:#[8] H { s with heap:=h' }:=I.turned (t':=s.toks) (λb o j e=>(M.2 b j).trans e) f0 f1 t y B;let%[o,e,c|d]:=id m;erw[u,1,yR (s:={ s with heap:=h' }) e c d ⋯ ⟨x,H,N,J,⟨rfl,λys O=>by rw[I.list_inj O n];exact q⟩,m,λb j=>(hf b j).1⟩]
 done:=by
  exists 5;erw[xs,n,q]at hg;let%[its,r,p|C]:=I.list n;let%[f0,f1,L,t,y|B]:=hf g #[2];let hl:=r.length;exact wpAny_pyNext_list_end (I.ok.hd hc) st p.isList (by simp;omega) λh' U=>%[1|I.turned (t':=s.toks) (λb o j e=>U b o j e) f0 f1 t y B]
 self:=λ_ _ _ _ _ st h=>wpAny_pyIter_listiter st h
def rY{K:W.Frag}(a g:Addr):Turn P w K Y (Itt K a) [g] g (λi h=>h.IsTupleIter g a i) where
 mem:=by simp
 obj:=λi h st b j=>by
  let e:b=g:=#[j,0]
  subst e;erw[o,e,c,d]at st;erw[o,e,λv z=>by rw[d]at z;cases z]
 keep:=λi h h' st k=>st.at λo e=>k g #[2] o e
 item:=by
  exists 5;erw[xs,x,n,q]at hg;let%[its,r,p|C]:=I.tuple n;let%[u,D|J]:=r.get q;let%[f0,f1,L,t,y|B]:=hf g #[2];apply wpAny_pyNext_tuple_item st (show s.heap.IsTuple a its.toArray from p) (x:=u) #[D,0] λh' m M=>?_
  let N:#[8] H { s with heap:=h' }:=I.turned (t':=s.toks) (λb o j e=>(M.2 b j).trans e) f0 f1 t y B;let%[o,e,c|d]:=id m;erw[u,1,yR (s:={ s with heap:=h' }) e c d ⋯ ⟨x,H,N,J,⟨rfl,λys O=>by rw[I.tuple_inj O n];exact q⟩,m,λb j=>(hf b j).1⟩]
 done:=by
  exists 5;erw[xs,n,q]at hg;let%[its,r,p|C]:=I.tuple n;let%[f0,f1,L,t,y|B]:=hf g #[2];let hl:=r.length;exact wpAny_pyNext_tuple_end (I.ok.hd hc) st (show s.heap.IsTuple a its.toArray from p) (by simp;omega) λh' U=>%[1|I.turned (t':=s.toks) (λb o j e=>U b o j e) f0 f1 t y B]
 self:=λ_ _ _ _ _ st h=>wpAny_pyIter_tupleiter st h
def zx{K:W.Frag}(c:Addr)(lo:Int)(n:Nat):Turn P w K D (Itr lo n) [c] c (λi h=>IsRangeIter h c (lo+(i:Nat)*1) ((n:Int)-(i:Nat)) 1) where
 mem:=by simp
 obj:=λi h st b d=>by
  let e:b=c:=#[d,0]
  subst e;exact⟨_,st,λv z=>by
   let r:Data.fields _=Data.cell v:=z;cases r⟩
 keep:=λi h h' st k=>k c #[2] _ st
 item:=by
  exists 5;let%[f0,f1,u,j,m|q]:=hf c #[2];let W:=Walks.range (prog:=X.prog) (w:=X.w) (I.ok.hd hc) c lo 1 n;apply W.item i s _ _ hg st λv h' tk x g y=>?_
  erw[t,1]at x;let B:#[8] H { s with heap:=h',toks:=tk }:=I.turned (λb o d e=>y b o #[d,0] e) f0 f1 j m q;erw[0,yR (s:={ s with heap:=h',toks:=tk }) (n:="range_iterator") g rfl rfl ⋯ ⟨.int (lo+i),H,B,⟨t,?_⟩,⟨rfl,rfl⟩,g,λb d=>(hf b d).1⟩];rw[Rr]
 done:=by
  exists 5;let%[f0,f1,u,j,m|q]:=hf c #[2];exact wpAny_pyNext_range_end (I.ok.hd hc) st (by have:n<=i:=hg;omega) λh' C=>%[1|I.turned (t':=s.toks) (λb o d e=>C b o d e) f0 f1 j m q]
 self:=λ_ _ _ _ _ st h=>wpAny_pyIter_rangeiter st h
section
variable {X:Cx}{tg:Expr}
instance ZiList(K:W.Frag)(R:(It->Hp->Prop))(x:V)(H1:Hp):∀a,x=.ref a->(∃xs,SqL K H1 a xs)->R (Itl K a) H1:=0
def iList(K:W.Frag)(tl:TE):TI:=λσ H R=>tl σ H λx b=>ZiList K R x b
instance ZiTup(K:W.Frag)(R:(It->Hp->Prop))(x:V)(H1:Hp):∀a,x=.ref a->(∃xs,SqT K H1 a xs)->R (Itt K a) H1:=0
def iTup(K:W.Frag)(tl:TE):TI:=λσ H R=>tl σ H λx b=>ZiTup K R x b
def eC(hl:PE X l tl):PI X tg l (iList X.K tl):=by
 exists 4,R,I,h;apply thn (hl Qh s σ H _ I h) λv s1 ⟨x,d,c,r1,g⟩=>?_
 erw[a,e,%[xs|j],q]at g;subst e;cases r1;let%[its,n,p|r]:=c.list j;apply Ri p.isList ?_;erw[‹s1›,[‹s1›],_,_,d,1,c.kept (t':=s1.toks) λb o e=>ih _ e,uX a _,%[_,mM _ rfl,1|1],λb m=>?_,q];let e:b=‹s1›:=#[m,0]
 subst e;exact c.fpOk (fz _) (c.hok.fresh (fz _))
def eV(hl:PE X l tl):PI X tg l (iTup X.K tl):=by
 exists 4,R,I,h;apply thn (hl Qh s σ H _ I h) λv s1 ⟨x,d,c,r1,g⟩=>?_
 erw[a,e,%[xs|j],q]at g;subst e;cases r1;let%[its,n,p|r]:=c.tuple j;apply Rh (show s1.heap.IsTuple a its.toArray from p) ?_;erw[‹s1›,[‹s1›],_,_,d,1,c.kept (t':=s1.toks) λb o e=>ih _ e,rY a _,%[_,mM _ rfl,1|1],λb m=>?_,q];let e:b=‹s1›:=#[m,0]
 subst e;exact c.fpOk (fz _) (c.hok.fresh (fz _))
def xY{σ:St}{R:It->Hp->Prop}{E:#[6]}{lo c:Int}{t u v:Tok}{tk:Nat}(I:#[8] H s)(h1:-(2 ^ 62)<=lo)(h2:lo<2 ^ 62)(h3:-(2 ^ 62)<=c)(h4:c<2 ^ 62)
 (q:R (Itr lo (c-lo).toNat) H):‹X.w› (pyIter (.ref ‹s›)) (PIE X Qh σ tg R) E { s with heap:=s.heap.push { cls:=.type "range",data:=.fields #[.int lo t,.int c u,.int 1 v] },toks:=tk }:=by
 apply wpAny_pyIter_range (IsRange.new ..) (small_one h1 h2 h3 h4) ?_;let d:#[8] H { s with heap:=s.heap.push { cls:=.type "range",data:=.fields #[.int lo t,.int c u,.int 1 v] },toks:=tk }:=I.kept λb o e=>ih _ e
 erw[(s.heap.push { cls:=.type "range",data:=.fields #[.int lo t,.int c u,.int 1 v] }).objs.size,[(s.heap.push { cls:=.type "range",data:=.fields #[.int lo t,.int c u,.int 1 v] }).objs.size],_,_,H,1,d.kept (t':=tk) λb o e=>ih _ e,zx _ lo (c-lo).toNat,6,λb g=>?_,q]
 . let e1:lo+((0:Nat):Int)*1=lo:=by simp
   let e2:(((c-lo).toNat:Nat):Int)-((0:Nat):Int)=Builtin.Range.rangeSize lo c 1:=by rw[rangeSize_one];split <;> omega
   show IsRangeIter _ _ (lo+((0:Nat):Int)*1) ((((c-lo).toNat:Nat):Int)-((0:Nat):Int)) 1;rw[e1,e2];exact mM _ rfl
 . let e:b=(s.heap.push { cls:=.type "range",data:=.fields #[.int lo t,.int c u,.int 1 v] }).objs.size:=#[g,0]
   subst e;exact d.fpOk (fz _) (d.hok.fresh (fz _))
instance ZiRng1(R:(It->Hp->Prop))(vs:(List V))(H1:Hp):∀j:Int,vs=[.int j]->-(2 ^ 62)<=j->j<2 ^ 62->R (Itr 0 j.toNat) H1:=0
def iRng1(b:TA):TI:=λσ H R=>b σ H λvs c=>ZiRng1 R vs c
instance ZiRng2(R:(It->Hp->Prop))(vs:(List V))(H1:Hp):∀i j:Int,vs=[.int i,.int j]->-(2 ^ 62)<=i/\i<2 ^ 62/\-(2 ^ 62)<=j/\j<2 ^ 62->R (Itr i (j-i).toNat) H1:=0
def iRng2(b:TA):TI:=λσ H R=>b σ H λvs c=>ZiRng2 R vs c
def cZ{a:Expr}{p pos:Pos}(hg:Gl X "range")(c:X.mg "range"=none)(d:PA X [a] g)(m:starEach [a] X.env=[(false,eval a X.env)]:=by rfl):PI X tg (.Call (.Name "range" p) [a] [] pos) (iRng1 g):=by
 exists 4,R,I,h;apply Call_ (jN I hg c boot_range (Qw (thn (d pos Qh s σ H _ I h) λus s1 ⟨vs,v,n,r1,b⟩=>?_) m rfl));erw[j,e,b,o,q]at b;subst e;cases r1 with
 |cons r u=>
   cases u;erw[t,1]at r;exact call_range_1 (xY n #[0] #[0] b o #[q,0])
def ql{a b:Expr}{p pos:Pos}(hg:Gl X "range")(m:X.mg "range"=none)(n:PA X [a,b] o)(u:starEach [a,b] X.env=[(false,eval a X.env),(false,eval b X.env)]:=by rfl)(c:starEach [b] X.env=[(false,eval b X.env)]:=by rfl):
 PI X tg (.Call (.Name "range" p) [a,b] [] pos) (iRng2 o):=by
 exists 4,R,I,h;apply Call_ (jN I hg m boot_range (Qw (thn (n pos Qh s σ H _ I h) λus s1 ⟨vs,B,v,r1,d⟩=>?_) (by rw[u,c]) (by rw[c];rfl)));erw[i,j,e,%[d,x,y|z],q]at d;subst e;cases r1 with
 |cons r g=>
   cases g with
   |cons r' g=>
     cases g;erw[t,1]at r;erw[t',1]at r';exact call_range_2 (xY v d x y z q)
def tFor(d:TI)(g:TG)(e:TS):TS:=λD σ H=>d σ H λJ j=>∃W:Nat->Nat->St->Hp->Prop,(∃m,W 0 m σ j)/\∀i m σ H,W i m σ H ->
 (J.stop i H/\D.nx σ H)∨(J.go i H/\∃N:St->Hp->Prop,(∀ σ' b,N σ' b->∃c,c<m/\W (i+1) c σ' b)/\∀x b,J.yld i H x b->g x σ b λσ2 n=>e { D with nx:=N,ct:=N,bk:=D.nx } σ2 n)
def tu(c:List Addr)(h:Heap):#[7]:=c.filterMap λb=>(h.get? b).map λo=>(b,o)
def kN{c:List Addr}{h:Heap}{b:Addr}{o:Obj}(d:b∈c)(e:h.get? b=some o):(b,o)∈tu c h:=List.mem_filterMap.mpr %[b,d|by rw[e];rfl]
def Dj{p:Addr×Obj}(c:p∈tu d h):p.1∈d/\h.get? p.1=some p.2:=by
 let%[b,g|e]:=List.mem_filterMap.mp c;cases q:h.get? b with
 |none=>rw[q]at e;cases e
 |some o=>
   rw[q]at e;let j:(b,o)=p:=ln e;subst j;erw[g,q]
def Inv.pinned{σ:St}{c:List Addr}(I:#[8] H s)(hf:∀b∈c,pO X Qh H b)(m:∀b∈c,∃o,s.heap.get? b=some o/\∀v,o.data≠.cell v):Inv X (Qh++tu c s.heap) σ H s:=
 I.pins_of λp n=>(qH0 n).elim (λz=>I.pin p (Fj _ z)) λz=>by
  let%[g|e]:=Dj z;let%[f0,f1,q|_]:=hf p.1 g;let%[o,j|d]:=m p.1 g;rw[e]at j;cases j;erw[e,f0,f1,q,d]
def Inv.unpinned{Qh pl:#[7]}{σ:St}(I:Inv X (Qh++pl) σ H s):#[8] H s:=I.pins_of λp b=>I.pin p (Fj _ (List.mem_append_left _ b))
def cV{iter:Expr}{pos:Pos}(B:PassesOwn (model X.prog X.w) X.A X.env X.xe)(hc:X.calm=true)(hi:PI X tg iter wi)(hg:PG X tg g)(c:PSs X body tb)
 (hs:∀x,foldedSetIterable iter X.env x=pure x:=by intro _;rfl):PS X (.For tg iter body [] pos) (tFor wi g tb):=by
 exists 4,D,I,h;apply wpAny_For (thn (hi Qh s σ H _ I h) λv s1 h1=>thn h1 λan s2 h2=>?_) hs;erw[it,C,tn,J,H2,e,I2,T,Y,f2,W,%[m0|w0],turn]at h2;subst e;let j:∀{y:Hp},(∀b∈C,y b=none)->∀b∈C,pO X Qh y b:=λhn b c=>%[hn b c|(f2 b c).2]
 apply codeAny_forLoop_any (λn s'=>∃i σ' y,Inv X Qh σ' y s'/\tn i s'.heap/\(∀b∈C,y b=none)/\W i n σ' y) ?_ m0 %[(0),σ,H2,I2,Y,λb c=>(f2 b c).1|w0];rintro n s3 ⟨i,σ3,U,I3,L,M,w3⟩;rcases turn i n σ3 U w3 with⟨stop,qn⟩ | ⟨go,N,hN,step⟩
 . apply QO B (thn (T.done X rfl rfl rfl hc i Qh s3 σ3 U X.xe I3 (j M) L stop) λr s4 ⟨hr,I4⟩=>?_);subst hr;exact LO %[σ3,U,I4|qn]
 . apply QO B (thn (T.item X rfl rfl rfl hc i Qh s3 σ3 U X.xe I3 (j M) L go) λr s4 ⟨u,hr,h4⟩=>?_);subst hr;apply QO B (thn h4 λ_ s5 ⟨x,H5,I5,r5,y5,z,ab⟩=>?_);let ah:=I5.pinned (j ab) (T.obj _ _ z);apply QO B (thn (hg _ s5 σ3 H5 x u _ ah r5 (step x H5 y5)) λ_ s6 ⟨σ6,H6,I6,q6⟩=>?_);apply QO B (thn (c _ s6 σ6 H6 _ I6 q6) λf s7 q7=>?_);let again:∀{σ7:St}{q:Hp},Inv X (Qh++tu C s5.heap) σ7 q s7->N σ7 q->∃m,m<n/\∃i σ' y,Inv X Qh σ' y s7/\tn i s7.heap/\(∀b∈C,y b=none)/\W i m σ' y:=fun{σ7 q} t O=>by
    let%[m',hm|w7]:=hN σ7 q O;erw[m',hm,i+1,σ7,q,t.unpinned,T.keep _ _ _ z λb c o e=>(t.pin (b,o) (Fj _ (Fj _ (kN c e)))).1,λb c=>?_,w7];let%[o,e|d]:=T.obj _ _ z b c;exact(t.pin (b,o) (Fj _ (Fj _ (kN c e)))).2.1
   cases f with
   |next=>erw[σ7,q,t,O]at q7;exact again t O
   |cont=>erw[σ7,q,t,O]at q7;exact again t O
   |brk=>erw[σ7,q,t,q7]at q7;erw[σ7,q,t.unpinned,q7]
   |ret v=>erw[x7,σ7,q,t,r7,q7]at q7;erw[x7,σ7,q,t.unpinned,r7,q7]
end
def lU{K:W.Frag}{xs:List V}{g:TG}{d:TS}{D:Ends}{σ:St}{H:Hp}(Pv:Nat->St->Hp->Prop)(h0:Pv 0 σ H)(hl:∀i σ H,i<=xs.length->Pv i σ H->SqL K H a xs)
 (o:∀i x σ H,xs[i]?=some x->Pv i σ H->g x σ H λσ2 c=>d { D with nx:=Pv (i+1),ct:=Pv (i+1),bk:=D.nx } σ2 c)(hd:∀ σ H,Pv xs.length σ H->D.nx σ H):
 ∃ W:Nat->Nat->St->Hp->Prop,(∃m,W 0 m σ H)/\∀i m σ H,W i m σ H ->
  ((Itl K a).stop i H/\D.nx σ H)∨((Itl K a).go i H/\∃N:St->Hp->Prop,(∀ σ' b,N σ' b->∃j,j<m/\W (i+1) j σ' b)/\∀x b,(Itl K a).yld i H x b->g x σ b λσ2 c=>d { D with nx:=N,ct:=N,bk:=D.nx } σ2 c):=by
 erw[λi m σ H=>m=xs.length-i/\i<=xs.length/\Pv i σ H,%[xs.length,by simp,kr _|h0],6];rintro i m σ H ⟨rfl,r,p⟩;let q:=hl i σ H r p
 by_cases n:i<xs.length
 . refine .inr %[%[xs,xs[i],q|by simp [n]],Pv (i+1),λσ' b t=>%[xs.length-(i+1),3,1,n|t]|λx b y=>?_];erw[e,y]at y;subst e;exact o i x σ _ (y xs q) p
 . let e:i=xs.length:=#[0]
   subst e;exact .inl %[%[xs,q|fz _]|hd σ H p]
def rS{K:W.Frag}{xs:List V}{g:TG}{d:TS}{D:Ends}{σ:St}{H:Hp}(Pv:Nat->St->Hp->Prop)(h0:Pv 0 σ H)(hl:∀i σ H,i<=xs.length->Pv i σ H->SqT K H a xs)
 (o:∀i x σ H,xs[i]?=some x->Pv i σ H->g x σ H λσ2 c=>d { D with nx:=Pv (i+1),ct:=Pv (i+1),bk:=D.nx } σ2 c)(hd:∀ σ H,Pv xs.length σ H->D.nx σ H):
 ∃ W:Nat->Nat->St->Hp->Prop,(∃m,W 0 m σ H)/\∀i m σ H,W i m σ H ->
  ((Itt K a).stop i H/\D.nx σ H)∨((Itt K a).go i H/\∃N:St->Hp->Prop,(∀ σ' b,N σ' b->∃j,j<m/\W (i+1) j σ' b)/\∀x b,(Itt K a).yld i H x b->g x σ b λσ2 c=>d { D with nx:=N,ct:=N,bk:=D.nx } σ2 c):=by
 erw[λi m σ H=>m=xs.length-i/\i<=xs.length/\Pv i σ H,%[xs.length,by simp,kr _|h0],6];rintro i m σ H ⟨rfl,r,p⟩;let q:=hl i σ H r p
 by_cases n:i<xs.length
 . refine .inr %[%[xs,xs[i],q|by simp [n]],Pv (i+1),λσ' b t=>%[xs.length-(i+1),3,1,n|t]|λx b y=>?_];erw[e,y]at y;subst e;exact o i x σ _ (y xs q) p
 . let e:i=xs.length:=#[0]
   subst e;exact .inl %[%[xs,q|fz _]|hd σ H p]
def eQ{lo:Int}{n:Nat}{g:TG}{j:TS}{D:Ends}{σ:St}{H:Hp}(Pv:Nat->St->Hp->Prop)(h0:Pv 0 σ H)
 (q:∀i σ H,i<n->Pv i σ H->g (.int (lo+i)) σ H λσ2 c=>j { D with nx:=Pv (i+1),ct:=Pv (i+1),bk:=D.nx } σ2 c)(hd:∀ σ H,Pv n σ H->D.nx σ H):
 ∃ W:Nat->Nat->St->Hp->Prop,(∃m,W 0 m σ H)/\∀i m σ H,W i m σ H ->
  ((Itr lo n).stop i H/\D.nx σ H)∨((Itr lo n).go i H/\∃N:St->Hp->Prop,(∀ σ' b,N σ' b->∃o,o<m/\W (i+1) o σ' b)/\∀x b,(Itr lo n).yld i H x b->g x σ b λσ2 c=>j { D with nx:=N,ct:=N,bk:=D.nx } σ2 c):=by
 erw[λi m σ H=>m=n-i/\i<=n/\Pv i σ H,%[n,by simp,kr _|h0],6];rintro i m σ H ⟨rfl,t,p⟩
 by_cases d:i<n
 . refine .inr %[d,Pv (i+1),λσ' b r=>%[n-(i+1),3,1,d|r]|λx b y=>?_];erw[e,y]at y;subst e y;exact q i σ _ d p
 . let e:i=n:=#[0]
   subst e;exact .inl %[fz _|hd σ H p]
abbrev R2:=V->V->Hp->VK->Prop
def OpR(X:Cx)(f:Value->Value->Sem Value)(r:R2):Prop:=
 ∀(Qh:#[7])(s:Shared)(σ:St)(H:Hp)(x y:V)(v u:Value)(Q:VK),#[8] H s->RelV x v->RelV y u->r x y H Q ->
  ‹X.w› (f v u) (EP X Qh σ Q) X.xe s
def UnR(X:Cx)(f:Value->Sem Value)(r:V->Hp->VK->Prop):Prop:=
 ∀(Qh:#[7])(s:Shared)(σ:St)(H:Hp)(x:V)(v:Value)(Q:VK),#[8] H s->RelV x v->r x H Q ->
  ‹X.w› (f v) (EP X Qh σ Q) X.xe s
def iE(X:Cx)(f:Value)(r:List V->Hp->VK->Prop):Prop:=
 ∀(Qh:#[7])(s:Shared)(σ:St)(H:Hp)(xs:List V)(us:List Value)(Q:VK),#[8] H s->Vals xs us->r xs H Q ->
  ‹X.w› (call f us) (EP X Qh σ Q) X.xe s
def tOp(r:R2)(b c:TE):TE:=λσ H Q=>b σ H λx d=>c σ d λy e=>r x y e Q
def tUn(r:V->Hp->VK->Prop)(b:TE):TE:=λσ H Q=>b σ H λx c=>r x c Q
instance rI(C:Int->Int->Prop)(g:Int->Int->V)(x:V)(y:V)(H:Hp)(Q:VK):∀i j,x=.int i->y=.int j->C i j->Q (g i j) H:=0
instance Qv(g:Int->Int->V)(x:V)(y:V)(H:Hp)(Q:VK):∀i j,x=.int i->y=.int j->Q (g i j) H:=0
instance rU(g:Int->V)(x:V)(H:Hp)(Q:VK):∀i,x=.int i->Q (g i) H:=0
section
variable {X:Cx}{a b c:Expr}{ta tb tc:TE}{pos:Pos}
def LE(j:PE X a ta)(m:PE X b tb){σ:St}{R:V->V->Hp->Prop}(I:#[8] H s)
 (h:ta σ H λx g=>tb σ g λy d=>R x y d){Q:#[6]}{f:Value->Value->Sem Value}
 (hf:∀v u e x y d,#[8] d e->RelV x v->RelV y u->R x y d->‹X.w› (f v u) Q X.xe e):
 ‹X.w› (eval a X.env) (λv n=>‹X.w› (eval b X.env) (λu o=>‹X.w› (f v u) Q X.xe o) X.xe n) X.xe s:=by
 apply thn (j Qh s σ H _ I h) λv s1 ⟨x,g,q,r1,r⟩=>?_
 apply thn (m Qh s1 σ g _ q r) λu e ⟨y,d,t,r2,z⟩=>?_
 exact hf v u e x y d t r1 r2 z
def ax{op:Operator}(d:OpR X (binaryOp op) r)(e:PE X a ta)(g:PE X b tb):PE X (.BinOp a op b pos) (tOp r ta tb):=by
 exists 4,Q,I,h;exact wpAny_BinOp (LE e g I h λv u j x y m n o t q=>d Qh j σ m x y v u Q n o t q)
def Bu{op:UnaryOp}(d:UnR X (unaryOp op) r)(e:PE X a ta):PE X (.UnaryOp op a pos) (tUn r ta):=by
 exists 4,Q,I,h;exact UnaryOp_ (thn (e Qh s σ H _ I h) λv s1 ⟨x,g,j,r1,m⟩=>d Qh s1 σ g x v Q j r1 m)
def opI{f:Value->Value->Sem Value}{C:Int->Int->Prop}{g:Int->Int->Int}
 (rule:∀(i j:Int)(t u:Tok)(s:Shared)(Q:#[6])(E:#[6]),C i j->Q (.int (g i j) s.toks) { s with toks:=s.toks+1 }->‹X.w› (f (.int i t) (.int j u)) Q E s):
 OpR X f (rI C λi j=>.int (g i j)):=by
 exists 4,x,y,v,u,Q,I,d,e,h;erw[i,j,1,1,hc,q]at h;erw[t,1]at d;erw[t',1]at e;exact rule i j t t' s _ _ hc %[.int (g i j),H,I.tok _,%[|0]|q]
def opI0{f:Value->Value->Sem Value}{g:Int->Int->Int}
 (rule:∀(i j:Int)(t u:Tok)(s:Shared)(Q:#[6])(E:#[6]),Q (.int (g i j) s.toks) { s with toks:=s.toks+1 }->‹X.w› (f (.int i t) (.int j u)) Q E s):
 OpR X f (Qv λi j=>.int (g i j)):=by
 exists 4,x,y,v,u,Q,I,d,e,h;erw[i,j,1,1,q]at h;erw[t,1]at d;erw[t',1]at e;exact rule i j t t' s _ _ %[.int (g i j),H,I.tok _,%[|0]|q]
def IT{f:Value->Value->Sem Value}{g:Int->Int->Bool}
 (rule:∀(i j:Int)(t u:Tok)(s:Shared)(Q:#[6])(E:#[6]),Q (.bool (g i j)) s->‹X.w› (f (.int i t) (.int j u)) Q E s):
 OpR X f (Qv λi j=>.bl (g i j)):=by
 exists 4,x,y,v,u,Q,I,d,e,h;erw[i,j,1,1,q]at h;erw[t,1]at d;erw[t',1]at e;exact rule i j t t' s _ _ %[.bl (g i j),H,I,1|q]
def CDiv(i j:Int):Prop:=0<j/\j<1073741824
def CPow(i j:Int):Prop:=0<=j/\j<=1000000/\i.natAbs<2 ^ 64
def CMul(i j:Int):Prop:=(-(2 ^ 64)<i/\i<2 ^ 64)∨(-(2 ^ 64)<j/\j<2 ^ 64)
def CMul.ok(h:CMul i j):IntMulOk i j:=by
 rcases h with⟨h1,h2⟩ | ⟨h1,h2⟩
 . exact .of_left (intBits_le_64 h1 h2)
 . exact .of_right (intBits_le_64 h1 h2)
def aU:OpR X (binaryOp .Add) (Qv λi j=>.int (i+j)):=opI0 λ_ _ _ _ _ _ _ q=>add_int q
def bz:OpR X (binaryOp .Sub) (Qv λi j=>.int (i-j)):=opI0 λ_ _ _ _ _ _ _ q=>sub_int q
def cW:OpR X (binaryOp .Mult) (rI CMul λi j=>.int (i*j)):=opI λ_ _ _ _ _ _ _ hc q=>mul_int q hc.ok
def BA:OpR X (binaryOp .FloorDiv) (rI CDiv λi j=>.int (i / j)):=opI λi j _ _ _ _ _ hc q=>by
 let h1:(0:Int)<j:=hc.1;let h2:j<1073741824:=hc.2;exact floordiv_int #[0] (by rw[Int.fdiv_eq_ediv_of_nonneg i #[0]];exact q) (.inl (PyProof.noPylong_small #[0]))
def bp:OpR X (binaryOp .Mod) (rI (λ_ j=>0<j) λi j=>.int (i % j)):=opI λi j _ _ _ _ _ hc q=>by
 let h1:(0:Int)<j:=hc;exact mod_int' #[0] (by rw[Int.fmod_eq_emod_of_nonneg i #[0]];exact q)
def FE:OpR X (binaryOp .Pow) (rI CPow λi j=>.int (i ^ j.toNat)):=opI λ_ _ _ _ _ _ _ hc q=>pow_int_small hc.1 hc.2.1 hc.2.2 q
def unI{f:Value->Sem Value}{g:Int->Int}
 (rule:∀(i:Int)(t:Tok)(s:Shared)(Q:#[6])(E:#[6]),Q (.int (g i) s.toks) { s with toks:=s.toks+1 }->‹X.w› (f (.int i t)) Q E s):
 UnR X f (rU λi=>.int (g i)):=by
 exists 4,x,v,Q,I,d,h;erw[i,1,q]at h;erw[t,1]at d;exact rule i t s _ _ %[.int (g i),H,I.tok _,%[|0]|q]
def vT:UnR X (unaryOp .USub) (rU λi=>.int (-i)):=unI λ_ _ _ _ _ q=>neg_int q
end
def scal:V->V->Bool
 |.non,.non=>true | .non,.int _=>true | .int _,.non=>true | .non,.bl _=>true | .bl _,.non=>true | .non,.str _=>true | .str _,.non=>true
 |.int _,.int _=>true | .bl _,.bl _=>true | .str _,.str _=>true | .byt _,.byt _=>true
 |.int _,.str _=>true | .str _,.int _=>true | .bl _,.str _=>true | .str _,.bl _=>true
 |_,_=>false
instance rEq(x:V)(y:V)(H:Hp)(Q:VK):scal x y=true->Q (.bl (decide (x=y))) H:=0
instance rNe(x:V)(y:V)(H:Hp)(Q:VK):scal x y=true->Q (.bl (!decide (x=y))) H:=0
def BM{i j:Int}:decide (V.int i=V.int j)=(i==j):=by
 rw[Rk]
 simp
def HB{i j:Bool}:decide (V.bl i=V.bl j)=(i==j):=by
 rw[Rk]
 simp
def BL{i j:Str}:decide (V.str i=V.str j)=(i==j):=by
 rw[Rk]
 simp
def BN{i j:Array UInt8}:decide (V.byt i=V.byt j)=(i.toList==j.toList):=by
 rw[Rk];cases i;cases j
 simp
section
variable {X:Cx}{a b c:Expr}{ta tb tc:TE}{pos:Pos}
def cb{σ:St}{Q:VK}{k d:Bool}(I:#[8] H s)(q:Q (.bl k) H)(e:k=d):EP X Qh σ Q (.bool d) s:=by
 subst e;erw[.bl k,H,I,1,q]
def aP:OpR X (compareOp .Eq) rEq:=by
 exists 4,x,y,v,u,Q,I,g,d,h;erw[e,q]at h;cases x with
 |non=>
   cases g;cases y with
   |non=>cases d;exact PySem.EqNone.eq_none_none (cb I q #[2])
   |bl j=>cases d;exact PySem.EqNone.eq_none_bool (cb I q #[2])
   |int j=>erw[t',1]at d;exact PySem.EqNone.eq_none_int (cb I q #[2])
   |str j=>erw[t',1]at d;exact PySem.EqNone.eq_none_str (cb I q #[2])
   |_=>exact absurd (show false=true from e) o8
 |bl i=>
   cases g;cases y with
   |non=>cases d;exact PySem.EqNone.eq_bool_none (cb I q #[2])
   |bl j=>cases d;exact eq_bool (cb I q HB)
   |str j=>erw[t',1]at d;exact PySem.EqMixed.eq_bool_str (cb I q #[2])
   |_=>exact absurd (show false=true from e) o8
 |int i=>
   erw[t,1]at g;cases y with
   |non=>cases d;exact PySem.EqNone.eq_int_none (cb I q #[2])
   |int j=>erw[t',1]at d;exact eq_int (cb I q BM)
   |str j=>erw[t',1]at d;exact PySem.EqMixed.eq_int_str (cb I q #[2])
   |_=>exact absurd (show false=true from e) o8
 |str i=>
   erw[t,1]at g;cases y with
   |non=>cases d;exact PySem.EqNone.eq_str_none (cb I q #[2])
   |bl j=>cases d;exact PySem.EqMixed.eq_str_bool (cb I q #[2])
   |int j=>erw[t',1]at d;exact PySem.EqMixed.eq_str_int (cb I q #[2])
   |str j=>erw[t',1]at d;exact eq_str (cb I q BL)
   |_=>exact absurd (show false=true from e) o8
 |byt i=>
   erw[t,1]at g;cases y with
   |byt j=>erw[t',1]at d;exact PySem.W.eq_bytes (cb I q BN)
   |_=>exact absurd (show false=true from e) o8
 |_=>cases y <;> exact absurd (show false=true from e) o8
def jY:OpR X (compareOp .NotEq) rNe:=by
 exists 4,x,y,v,u,Q,I,g,d,h;erw[e,q]at h;cases x with
 |non=>
   cases g;cases y with
   |non=>cases d;exact PySem.EqNone.ne_none_none (cb I q #[2])
   |bl j=>cases d;exact PySem.EqNone.ne_none_bool (cb I q #[2])
   |int j=>erw[t',1]at d;exact PySem.EqNone.ne_none_int (cb I q #[2])
   |str j=>erw[t',1]at d;exact PySem.EqNone.ne_none_str (cb I q #[2])
   |_=>exact absurd (show false=true from e) o8
 |bl i=>
   cases g;cases y with
   |non=>cases d;exact PySem.EqNone.ne_bool_none (cb I q #[2])
   |bl j=>cases d;exact ne_bool (cb I q (congrArg not HB))
   |str j=>erw[t',1]at d;exact PySem.EqMixed.ne_bool_str (cb I q #[2])
   |_=>exact absurd (show false=true from e) o8
 |int i=>
   erw[t,1]at g;cases y with
   |non=>cases d;exact PySem.EqNone.ne_int_none (cb I q #[2])
   |int j=>erw[t',1]at d;exact ne_int (cb I q (congrArg not BM))
   |str j=>erw[t',1]at d;exact PySem.EqMixed.ne_int_str (cb I q #[2])
   |_=>exact absurd (show false=true from e) o8
 |str i=>
   erw[t,1]at g;cases y with
   |non=>cases d;exact PySem.EqNone.ne_str_none (cb I q #[2])
   |bl j=>cases d;exact PySem.EqMixed.ne_str_bool (cb I q #[2])
   |int j=>erw[t',1]at d;exact PySem.EqMixed.ne_str_int (cb I q #[2])
   |str j=>erw[t',1]at d;exact ne_str (cb I q (congrArg not BL))
   |_=>exact absurd (show false=true from e) o8
 |byt i=>
   erw[t,1]at g;cases y with
   |byt j=>erw[t',1]at d;exact PySem.W.ne_bytes (cb I q (congrArg not BN))
   |_=>exact absurd (show false=true from e) o8
 |_=>cases y <;> exact absurd (show false=true from e) o8
def dX:OpR X (compareOp .Lt) (Qv λi j=>.bl (decide (i<j))):=IT λ_ _ _ _ _ _ _ q=>lt_int q
def vv:OpR X (compareOp .LtE) (Qv λi j=>.bl (decide (i<=j))):=IT λ_ _ _ _ _ _ _ q=>le_int q
def ji:OpR X (compareOp .Gt) (Qv λi j=>.bl (decide (j<i))):=IT λ_ _ _ _ _ _ _ q=>gt_int q
def FI:OpR X (compareOp .GtE) (Qv λi j=>.bl (decide (j<=i))):=IT λ_ _ _ _ _ _ _ q=>ge_int q
def vx:OpR X (compareOp .In) (λx y H Q=>∃i j,x=.str i/\y=.str j/\Q (.bl (!(Builtin.Str.occurrences j i 0 j.length 1).isEmpty)) H):=by
 exists 4,x,y,v,u,Q,I,d,e,h;erw[i,j,1,1,q]at h;erw[t,1]at d;erw[t',1]at e;exact in_str (cb I q rfl)
def KE:OpR X (compareOp .Is) (λx y H Q=>y=.non/\Q (.bl (decide (x=.non))) H):=by
 exists 4,x,y,v,u,Q,I,d,e,h;erw[1,q]at h;cases e;apply is_none_gen (cb I q ?_);cases x <;> first
  | (cases d;rfl)
  | (erw[t,1]at d;rfl)
def OpR.or(h:OpR X f r)(h':OpR X f r'):OpR X f (λx y H Q=>r x y H Q∨r' x y H Q):=by
 exists 4,x,y,v,u,Q,I,d,e,q;rcases q with q | q
 . exact h Qh s σ H x y v u Q I d e q
 . exact h' Qh s σ H x y v u Q I d e q
def aq(b:Expr){op:CmpOp}(h:op≠.In:=by decide)(h2:op≠.NotIn:=by decide):behindInMarks op b=false:=by
 let e1:(op==CmpOp.In)=false:=by cases op <;> first | rfl | exact absurd rfl h
 let e2:(op==CmpOp.NotIn)=false:=by cases op <;> first | rfl | exact absurd rfl h2
 cases b <;> simp [behindInMarks,e1,e2]
def ig{op:CmpOp}(d:OpR X (compareOp op) r)(e:PE X a ta)(g:PE X b tb)(j:behindInMarks op b=false):PE X (.Compare a [op] [b] pos) (tOp r ta tb):=by
 exists 4,Q,I,h;exact wpAny_Compare1 (LE e g I h λv u m x y n o t z q=>d Qh m σ n x y v u Q o t z q) j
instance ZtTest(Q:(Bool->Hp->Prop))(x:V)(H':Hp):∀k,x=.bl k->Q k H':=0
def JP(t:TE):TT:=λσ H Q=>t σ H λx d=>ZtTest Q x d
def ag{op:CmpOp}(d:OpR X (compareOp op) r)(g:PE X a ta)(j:PE X b tb)(m:behindInMarks op b=false):PT X (.Compare a [op] [b] pos) (JP (tOp r ta tb)):=by
 exists 4,Q,I,h;apply wpAny_isTrue_Compare1 (thn (g Qh s σ H _ I h) λv s1 ⟨x,n,o,r1,q⟩=>thn (j Qh s1 σ n _ o q) λu t ⟨y,B,C,r2,D⟩=>
  thn (d Qh t σ B x y v u _ C r1 r2 D) λc N ⟨z,J,L,r3,k,e,M⟩=>?_) m
 subst e;cases r3;exact G0 %[J,L|M]
instance ZtChain(r':R2)(tc:TE)(σ:St)(Q:VK)(y:V)(z:V)(H3:Hp):∀k,z=.bl k->(if k=true then tc σ H3 λw' H4=>r' y w' H4 Q else Q (.bl false) H3):=0
def EC(r r':R2)(ta tb tc:TE):TE:=λσ H Q=>ta σ H λx d=>tb σ d λy e=>r x y e λz g=>ZtChain r' tc σ Q y z g
def FD{op g:CmpOp}(q:OpR X (compareOp op) r)(j:OpR X (compareOp g) r')(t:PE X a ta)(B:PE X b tb)(hc:PE X c tc)
 (C:lastMarks [op,g] [b,c]=false:=by rfl'):PE X (.Compare a [op,g] [b,c] pos) (EC r r' ta tb tc):=by
 exists 4,Q,I,h;apply Compare_chain (thn (t Qh s σ H _ I h) λv s1 ⟨x,D,J,r1,L⟩=>chain_link (thn (B Qh s1 σ D _ J L) λu M ⟨y,N,O,r2,U⟩=>
  thn (q Qh M σ N x y v u _ O r1 r2 U) λd Y ⟨z,m,n,r3,k,e,o⟩=>?_)) C
 subst e;cases r3;apply G0 ?_;cases k with
 |false=>exact ite_ff %[.bl false,m,n,1|o]
 |true=>exact ite_tt (chain_last (thn (hc Qh Y σ m _ n o) λw' s4 ⟨z',H4,I4,r4,q4⟩=>j Qh s4 σ H4 y z' u w' Q I4 r2 r4 q4))
def yc{op g:CmpOp}(q:OpR X (compareOp op) r)(j:OpR X (compareOp g) r')(t:PE X a ta)(B:PE X b tb)(hc:PE X c tc)
 (C:lastMarks [op,g] [b,c]=false:=by rfl'):PT X (.Compare a [op,g] [b,c] pos) (JP (EC r r' ta tb tc)):=by
 exists 4,Q,I,h;apply isTrue_chain (thn (t Qh s σ H _ I h) λv s1 ⟨x,D,J,r1,L⟩=>test_link (thn (B Qh s1 σ D _ J L) λu M ⟨y,N,O,r2,U⟩=>
  thn (q Qh M σ N x y v u _ O r1 r2 U) λd Y ⟨z,m,n,r3,k,e,o⟩=>?_)) C
 subst e;cases r3;apply G0 ?_;cases k with
 |false=>
   erw[k',e',q']at o;cases e';exact ite_ff %[m,n|q']
 |true=>
   apply ite_tt (test_last (thn (hc Qh Y σ m _ n o) λw' s4 ⟨z',H4,I4,r4,q4⟩=>thn (j Qh s4 σ H4 y z' u w' _ I4 r2 r4 q4) λd' s5 ⟨z2,H5,I5,r5,k2,e2,q5⟩=>?_));subst e2;cases r5;exact G0 %[H5,I5|q5]
def kP:(sizeLine:Nat)<2 ^ 63:=by rw[sizeLine_eq];decide
def gY:OpR X (binaryOp .Add) (λx y H Q=>∃i j,x=.str i/\y=.str j/\i.length+j.length<=sizeLine/\Q (.str (i++j)) H):=by
 exists 4,x,y,v,u,Q,I,d,e,h;erw[i,j,1,1,g,q]at h;erw[t,1]at d;erw[t',1]at e;exact add_str (λt' tk=>%[.str (i++j),H,I.tok _,%[|0]|q]) g
def jQ{x:V}(r:Vals [x] us):∃u,us=[u]/\RelV x u:=by
 cases r with
 |cons r1 r2=>cases r2;erw[0,r1]
def Ee{x y:V}(r:Vals [x,y] us):∃u d,us=[u,d]/\RelV x u/\RelV y d:=by
 cases r with
 |cons r1 r2=>
   cases r2 with
   |cons r3 r4=>cases r4;erw[_,0,r1,r3]
def qD(hc:X.calm=true):iE X (.builtin "max") (λxs H Q=>∃i j,xs=[.int i,.int j]/\Q (.int (if j>i then j else i)) H):=by
 exists 4,xs,us,Q,I,r,h;erw[i,j,1,q]at h;let%[u,e,1,%[t|1]|%[t'|1]]:=Ee r;apply max_two_ints (I.ok.hd hc) λh' tk k=>%[_,H,I.kept k,6|q]
 by_cases d:j>i
 . rw[Qk d,Qk d];erw[0]
 . rw[Qi d,Qi d];erw[0]
def DW(hc:X.calm=true):iE X (.builtin "min") (λxs H Q=>∃i j,xs=[.int i,.int j]/\Q (.int (if j<i then j else i)) H):=by
 exists 4,xs,us,Q,I,r,h;erw[i,j,1,q]at h;let%[u,e,1,%[t|1]|%[t'|1]]:=Ee r;apply min_two_ints (I.ok.hd hc) λh' tk k=>%[_,H,I.kept k,6|q]
 by_cases d:j<i
 . rw[Qk d,Qk d];erw[0]
 . rw[Qi d,Qi d];erw[0]
def DX:iE X (.type "int") (λxs H Q=>(∃i,xs=[.int i]/\Q (.int i) H)∨∃k,xs=[.bl k]/\Q (.int (if k then 1 else 0)) H):=by
 exists 4,xs,us,Q,I,r,h;rcases h with⟨i,rfl,q⟩ | ⟨k,rfl,q⟩
 . let%[u,1,t|1]:=jQ r;exact call_int_int %[.int i,H,I,%[|0]|q]
 . let%[u,1|r1]:=jQ r;cases r1;exact call_int_bool %[.int (if k then 1 else 0),H,I.tok _,%[|0]|q]
def eT:iE X (.type "str") (λxs H Q=>∃i,xs=[.int i]/\i.natAbs.log2<1920/\Q (.str (toString i)) H):=by
 exists 4,xs,us,Q,I,r,h;erw[i,1,d,q]at h;let%[u,1,t|1]:=jQ r;exact PySem.P.str_of_int d %[.str _,H,I.tok _,%[|0]|q]
end
structure ObjM(h:Heap)(x dx C:Addr)(mA:#[9]):Prop where
 obj:h.get? x=some (PySem.W.instObj C dx)
 ns:h.Ns1 dx mA
 ne:dx≠x
def Ds{h:Heap}{dx:Addr}{c:#[9]}(n:h.Ns1 dx c):∃d,h.get? dx=some d/\∀name,PySem.W.lookIn name d=some (c name):=by
 erw[o,g,x,j,hd,m,_,r]at n;erw[o,j,λname=>?_];let e:=r name;unfold nsFind findBy at e;rw[←Array.find?_toList]at e;unfold PySem.W.lookIn;rw[hd]
 dsimp only
 split
 . rename_i y q;rw[q]at e;exact congrArg some e
 . rename_i q;rw[q]at e;let a:g.toList.any (·.refKey)=false:=by
    rw[List.any_eq_false];intro y u;let%[z,t|b]:=m y (Array.mem_toList_iff.mp u)
    simp [DictEntry.refKey,b]
   let v:¬ g.toList.any (·.refKey)=true:=by rw[a];exact o8
   rw[Qi v];exact congrArg some e
def ObjM.look(I:ObjM h x dx C c):∃b,PySem.W.InstAt h x (PySem.W.instObj C dx) C (some b)/\∀name,PySem.W.lookIn name b=some (c name):=
 let⟨b,d,hl⟩:=Ds I.ns
 %[b,%[I.obj,1,1|d]|hl]
section
variable {prog:Program}{w:World}{A:Around}{E:#[6]}{s:Shared}{K:W.Frag}{x dx C f:Addr}{mA:#[9]}{name:Str}{v:Value}
def Jv{b:Bool}{Q:#[6]}(X:K.In s.heap)(I:ObjM s.heap x dx C mA)(hg:PySem.W.plainGet K C name=true)(hh:PySem.W.hasDictIn K C=true)
 (d:PySem.W.findIn K (.ref C) name=some none)(e:mA name=some v)(c:PySem.W.handedIn v=true)(h:Q v { s with toks:=s.toks+1 }):
 ‹w.A› (getAttr (.ref x) name b) Q E s:=by
 erw[g,J,hl]at I.look;exact PySem.W.get_value X J (Si hg).1 (PySem.W.findObj_own hh d rfl (by rw[hl,e])) c h
def Hf{pl:Sem Bool}{Q:Value×List Value->Shared->Prop}(X:K.In s.heap)(I:ObjM s.heap x dx C mA)(hg:PySem.W.plainGet K C name=true)
 (hf:PySem.W.findIn K (.ref C) name=some (some (.ref f)))(b:PySem.W.isFn K (.ref f)=true)(c:mA name=none)(h:Q (.ref f,[.ref x]) s):
 ‹w.A› (getMethod (.ref x) name pl) Q E s:=by
 erw[d,J,hl]at I.look;exact PySem.W.method_fn X J (Si hg).1 (Si hg).2 hf (beq_iff_eq.mp b) (by show(PySem.W.lookIn name d).map (·.isSome)=some false;rw[hl,c];rfl) h
def ID{ns:List Str}{Q:Unit->Shared->Prop}(X:K.In s.heap)(I:ObjM s.heap x dx C mA)
 (n:PySem.W.findIn K (.ref C) "__setattr__"=some (some (.builtin "object.__setattr__")))(o:PySem.W.plainOver K C=true)(q:PySem.W.takerIn K C name=some none)(hh:PySem.W.hasDictIn K C=true)
 (hw:PySem.Within mA ns)(hsz:ns.length<=sizeLine)
 (h:∀h',ObjM h' x dx C (λy=>if y=name then some v else mA y)->Heap.SameBut dx s.heap h'->Q () { s with heap:=h',toks:=s.toks+2 }):
 ‹w.A› (setAttr (.ref x) name v) Q E s:=by
 erw[B,J,hl]at I.look;apply PySem.W.set_plain X J n (PySem.W.osa_open (s:={ s with toks:=s.toks+1 }) (r:=none) X J o q λb=>?_);let%[cd,hc|e]:=PySem.W.any_some hh;let t:s.heap.get? x=some %[.ref C,some dx,.plain|#[]]:=I.obj;apply ft (gh (ft (ft (wpAny_loadPart t (ft (PySem.W.Looks.here (s:={ s with toks:=s.toks+1 }) (PySem.W.looks_clsIn X hc) ?_))))));rw[e];apply gh (a:=some dx) (ft (gh (ft ?_)));apply wpAny_nsSet1 (s:={ s with toks:=s.toks+1 }) I.ns λh' c d=>?_
 let%[D,u,z,g,j|m]:=c.count (PySem.Within.cons name v hw);apply ft (wpAny_lookBehind g (by rw[j];exact pastItsLine_dict (hQ m (by rw[ij];omega))) ?_);exact gh (h _ %[(d.2 _ (Ne.symm I.ne)).trans I.obj,c|I.ne] d)
def Gv{R:Result->Shared->Prop}{vs:List Value}{kw:List (Str×Value)}(X:K.In s.heap)(b:PySem.W.makesIn K C=true)
 (c:PySem.W.findIn K (.ref C) "__init__"=some (some (.ref f)))(hf:PySem.W.typeIn K (.ref f)=some (.type "function"))
 (h:codeAny (model prog w) (A.under (.builtin "type.__call__" %[.ref C::vs|kw])) (.call (.ref f) ⟨.ref (‹s›+1)::vs,kw⟩) (PySem.W.InitBack (‹s›+1) R)
  { s with heap:=(s.heap.push PySem.W.emptyDict).push (PySem.W.instObj C ‹s›) }) :
 codeAny (model prog w) A (.call (.ref C) %[vs|kw]) R s:=by
 erw[hh,g,d,t,os]at s;exact PySem.W.make_core (PySem.W.makes_of X b) (PySem.W.looks_findIn X c) (λself=>PySem.W.bind_fn X self hf) (.inl rfl) h
end
def cQ(f:Str)(v:V):List (Str×V)->List (Str×V)
 | []=>[(f,v)]
 | (g,x)::r=>if g=f then(g,v)::r else(g,x)::cQ f v r
def ay(f g:Str)(v:V):∀fs:List (Str×V),(cQ f v fs).lookup g=if g=f then some v else fs.lookup g
 | []=>by
   show List.lookup g [(f,v)]=_
   by_cases h:g=f
   . let b:(g==f)=true:=beq_iff_eq.mpr h;simp only[List.lookup,b,Qk h]
   . let b:(g==f)=false:=beq_eq_false_iff_ne.mpr h;simp only[List.lookup,b,Qi h]
 | (k,x)::r=>by
   let d:=ay f g v r;rw[show cQ f v ((k,x)::r)=(if k=f then(k,v)::r else(k,x)::cQ f v r)from rfl]
   by_cases c:k=f
   . rw [Qk c]
     by_cases h:g=k
     . let b:(g==k)=true:=beq_iff_eq.mpr h;simp only[List.lookup,b,Qk (h.trans c)]
     . let b:(g==k)=false:=beq_eq_false_iff_ne.mpr h;simp only[List.lookup,b,Qi (λe:g=f=>h (e.trans c.symm))]
   . rw [Qi c]
     by_cases h:g=k
     . let b:(g==k)=true:=beq_iff_eq.mpr h;simp only[List.lookup,b,Qi (λe:g=f=>c (h.symm.trans e))]
     . let b:(g==k)=false:=beq_eq_false_iff_ne.mpr h;simp only[List.lookup,b];exact d
def qv(f:Str)(v:V):∀fs:List (Str×V),f∈(cQ f v fs).map (·.1)/\∀g,g∈fs.map (·.1)->g∈(cQ f v fs).map (·.1)
 | []=>%[by simp [cQ]|λg h=>by simp at h]
 | (k,x)::r=>by
   let%[c|d]:=qv f v r;rw[show cQ f v ((k,x)::r)=(if k=f then(k,v)::r else(k,x)::cQ f v r)from rfl]
   by_cases b:k=f
   . rw[Qk b];subst b;erw[by simp,λg h=>by simpa using h]
   . rw [Qi b];erw[6,λg h=>?_]
     . rw[nn];exact pj _ c
     . rw [nn]at h ⊢;rcases Qq h with e | e
       . exact List.mem_cons.mpr (.inl e)
       . exact pj _ (d g e)
def qU(f:Str)(v:V):∀fs:List (Str×V),(cQ f v fs).length<=fs.length+1
 | []=>by simp [cQ]
 | (k,x)::r=>by
   let c:=qU f v r;rw[show cQ f v ((k,x)::r)=(if k=f then(k,v)::r else(k,x)::cQ f v r)from rfl]
   by_cases b:k=f
   . rw[Qk b,ij,ij];omega
   . rw[Qi b,ij,ij];omega
def RelO.some_of{v:V}(r:RelO (some v) o):∃u,o=some u/\RelV v u:=by
 cases o with
 |none=>exact(show False from r).elim
 |some u=>erw[u,1,r]
def RelO.none_of(r:RelO none o):o=none:=by
 cases o with
 |none=>rfl
 |some u=>exact(show False from r).elim
def DF(r:RelV v u):PySem.W.handedIn u=true:=by
 cases v with
 |non=>cases(show u=Value.none from r);rfl
 |bl b=>cases(show u=Value.bool b from r);rfl
 |int i=>let%[t|e]:=(show ∃t,u=Value.int i t from r);cases e;rfl
 |str x=>let%[t|e]:=(show ∃t,u=Value.str x t from r);cases e;rfl
 |byt b=>let%[t|e]:=(show ∃t,u=Value.bytes b t from r);cases e;rfl
 |flt b=>let%[t|e]:=(show ∃t,u=Value.float b t from r);cases e;rfl
 |ref a=>cases(show u=Value.ref a from r);rfl
 |ty n=>cases(show u=Value.type n from r);rfl
section
variable {P:Program}{w:World}{H H':Hp}{h h':Heap}{a C dx:Addr}{fs fs':List (Str×V)}
def rP(hok:HOk P w H h)(e:H a=some (.ins C dx fs)):∃b,ObjM h a dx C b/\(∀f,RelO (fs.lookup f) (b f))/\PySem.Within b (fs.map (·.1))/\fs.length<=1000/\H dx=some (.own a):=by
 let%[d,z,ne,c,b,n,r|q]:=(show ObjOk P w H h a (.ins C dx fs)from hok a _ e)
 erw[b,%[c,n|ne],r,q,z,d]
end
structure Cls(K:W.Frag)(C:Addr):Prop where
 pg:PySem.W.plainGet K C Str.empty=true
 hd:PySem.W.hasDictIn K C=true
 po:PySem.W.plainOver K C=true
 sa:PySem.W.findIn K (.ref C) "__setattr__"=some (some (.builtin "object.__setattr__"))
def Cls.get{K:W.Frag}(c:Cls K C)(f:Str):PySem.W.plainGet K C f=true:=c.pg
def NoAttr(K:W.Frag)(C:Addr)(f:Str):Prop:=PySem.W.findIn K (.ref C) f=some none
def NoAttr.taker{K:W.Frag}(n:NoAttr K C f):PySem.W.takerIn K C f=some none:=by
 unfold PySem.W.takerIn;rw[show PySem.W.findIn K (.ref C) f=some none from n];rfl
structure Meth(K:W.Frag)(C:Addr)(m:Str)(f:Addr):Prop where
 at_:PySem.W.findIn K (.ref C) m=some (some (.ref f))
 fn:PySem.W.isFn K (.ref f)=true
 kp:PySem.W.keepIn K (.ref f)=true
section
variable {X:Cx}{Qh:#[7]}{σ:St}{H:Hp}{s:Shared}{a C dx:Addr}{fs:List (Str×V)}{f:Str}{v:V}{A:Around}{E:#[6]}
def AT{b:Bool}{Q:#[6]}(I:#[8] H s)(e:H a=some (.ins C dx fs))(c:Cls X.K C)(n:NoAttr X.K C f)(l:fs.lookup f=some v)
 (h:∀u s',#[8] H s'->RelV v u->Q u s'):wpAny (model X.prog X.w) A (getAttr (.ref a) f b) Q E s:=by
 let%[g,O,r,_,_|_]:=rP I.hok e;let%[u,j|d]:=RelO.some_of (v:=v) (o:=g f) (by rw[←l];exact r f);exact Jv I.kIn O (c.get f) c.hd n j (DF d) (h u _ (I.tok _) d)
def uc{pl:Sem Bool}{Q:Value×List Value->Shared->Prop}(I:#[8] H s)(e:H a=some (.ins C dx fs))(c:Cls X.K C)(k:Meth X.K C m g)(l:fs.lookup m=none)
 (h:Q (.ref g,[.ref a]) s):wpAny (model X.prog X.w) A (getMethod (.ref a) m pl) Q E s:=by
 let%[b,O,r,_,_|_]:=rP I.hok e;let d:b m=none:=RelO.none_of (by rw[←l];exact r m);exact Hf I.kIn O (c.get m) k.at_ k.fn d h
def zG{Q:Unit->Shared->Prop}(I:#[8] H s)(e:H a=some (.ins C dx fs))(c:Cls X.K C)(n:NoAttr X.K C f)(hl:fs.length<1000)(B:RelV y u)
 (h:∀s',#[8] (upd H a (.ins C dx (cQ f y fs))) s'->Q () s'):wpAny (model X.prog X.w) A (setAttr (.ref a) f u) Q E s:=by
 let%[j,O,r,m,_|t]:=rP I.hok e;let D:(fs.map (·.1)).length<=sizeLine:=by rw[fx,sizeLine_eq];omega
 apply ID I.kIn O c.sa c.po n.taker c.hd m D λh' d J=>h _ ?_
 let hd:∃o,h'.get? dx=some o:=let⟨o,_,_,L,_⟩:=d.ns;%[o|L]
 apply I.write (x:=a) (e:=dx) (by rw[e];exact True.intro) (.inr t) (λb q M z=>(J.2 b M).trans z) hd ?_;erw[by rw[aB O.ne];exact t,6,O.ne,d.obj,_,d.ns,λg=>?_,λg hg=>?_]
 . have:=qU f y fs;omega
 . show RelO ((cQ f y fs).lookup g) (if g=f then some u else j g);rw[ay]
   by_cases q:g=f
   . rw[Qk q,Qk q];exact B
   . rw[Qi q,Qi q];exact r g
 . by_cases q:g=f
   . rw[q];exact(qv f y fs).1
   . refine(qv f y fs).2 g (m g λz=>hg ?_);show(if g=f then some u else j g)=none;rw[Qi q];exact z
def Inv.made(I:#[8] H s):#[8] (upd (upd H ‹s› (.own (‹s›+1))) (‹s›+1) (.ins C ‹s› []))
 { s with heap:=(s.heap.push PySem.W.emptyDict).push (PySem.W.instObj C ‹s›) }:=by
 let e1:(s.heap.push PySem.W.emptyDict).get? ‹s›=some PySem.W.emptyDict:=mM s.heap rfl;let e2:((s.heap.push PySem.W.emptyDict).push (PySem.W.instObj C ‹s›)).get? (‹s›+1)=some (PySem.W.instObj C ‹s›):=by
  have:=mM (s.heap.push PySem.W.emptyDict) (o:=PySem.W.instObj C ‹s›) rfl
  rwa [QP]at this
 let e3:(s.heap.push PySem.W.emptyDict).Ns ‹s› (λ_=>none):=%[PySem.W.emptyDict,#[],_,e1,1,(λe he=>absurd he #[2])|λ_=>rfl]
 let c:=I.laid (a:=‹s›) (o:=.own (‹s›+1)) (h':=s.heap.push PySem.W.emptyDict) (t':=s.toks) (λb u q=>ih _ q) (fz _) %[_|e1];apply c.laid (a:=‹s›+1) (o:=.ins C ‹s› []) (t':=s.toks) (λb u q=>ih _ q) (RU (QP _ _)) ?_;let ne:‹s›≠‹s›+1:=nc (QB _);erw[by rw[aB ne,aX],kr _,ne,e2,λ_=>none,(Heap.Ns1.of_empty e3).at λo q=>ih _ q,λ_=>True.intro,λy d=>absurd rfl d]
def JE{prog:Program}{w:World}{env:Env}{e:Expr}{f:Str}{pos:Pos}{s:Shared}{Q:#[6]}(b:attributeBase e f env (eval e env)=eval e env)
 (h:‹w.A› (eval e env) (λo c=>‹w.A› (getAttr o f true) Q E c) E s):‹w.A› (eval (.Attribute e f pos) env) Q E s:=
 Attribute_any_ h (by rw[arm_eval_Attribute,b])
end
instance ZtFld(K:W.Frag)(f:Str)(Q:VK)(x:V)(H1:Hp):∀a C dx fs v,x=.ref a->H1 a=some (.ins C dx fs)->Cls K C->NoAttr K C f->fs.lookup f=some v->Q v H1:=0
def tFld(K:W.Frag)(b:TE)(f:Str):TE:=λσ H Q=>b σ H λx c=>ZtFld K f Q x c
instance ZsFld(K:W.Frag)(f:Str)(D:Ends)(σ:St)(y:V)(x:V)(H2:Hp):∀a C dx fs,x=.ref a->H2 a=some (.ins C dx fs)->Cls K C->NoAttr K C f->fs.length<1000->D.nx σ (upd H2 a (.ins C dx (cQ f y fs))):=0
def sFld(K:W.Frag)(b c:TE)(f:Str):TS:=λD σ H=>c σ H λy d=>b σ d λx e=>ZsFld K f D σ y x e
section
variable {X:Cx}{o e value:Expr}{f:Str}{pos pos' tpos:Pos}{ta tv:TE}
def aF(he:PE X e ta)(b:attributeBase e f X.env (eval e X.env)=eval e X.env):PE X (.Attribute e f pos) (tFld X.K ta f):=by
 exists 4,Q,I,h;apply JE b (thn (he Qh s σ H _ I h) λu s1 ⟨x,d,g,j,a,C,dx,fs,v,ex,m,c,n,l,q⟩=>?_);subst ex;obtain rfl:u=Value.ref a:=j;exact AT g m c n l λy z r t=>%[v,d,r,t|q]
def aZ(b:PE X o ta)(d:PE X value tv)(g:swapsWith value (some (.Attribute o f pos')) pos.line X.env=pure false):PS X (.Assign [.Attribute o f pos'] value pos) (sFld X.K ta tv f):=by
 exists 4,D,I,h;apply Sz (thn (d Qh s σ H _ I h) λu s1 ⟨y,j,m,r,q⟩=>thn (b Qh s1 σ j _ m q) λt M ⟨x,N,v,z,a,C,dx,fs,ex,B,c,n,l,J⟩=>?_) g;subst ex;obtain rfl:t=Value.ref a:=z;exact zG v B c n l r λO L=>%[σ,_,L|J]
end
section
variable {X:Cx}{Qh:#[7]}{σ:St}{H:Hp}{s:Shared}{A:Around}{E:#[6]}{Q:#[6]}{c:Value}{b:Bool}
inductive TyOf(K:W.Frag)(H:Hp):V->Value->Prop where
 |non:TyOf K H .non (.type "NoneType")
 |bl (x:Bool):TyOf K H (.bl x) (.type "bool")
 |int (i:Int):TyOf K H (.int i) (.type "int")
 |str (x:Str):TyOf K H (.str x) (.type "str")
 |flt (x:UInt64):TyOf K H (.flt x) (.type "float")
 |lst {a:Addr} {xs:List V} (e:H a=some (.lst xs)):TyOf K H (.ref a) (.type "list")
 |frz {a:Addr} {o:Obj} {xs:List V} (e:H a=some (.frz o (.lst xs))):TyOf K H (.ref a) (.type "list")
 |tup {a:Addr} {xs:List V} (e:H a=some (.tup xs)):TyOf K H (.ref a) (.type "tuple")
 |dK {a:Addr} {Ql:List (Key×V)} (e:H a=some (.dK Ql)):TyOf K H (.ref a) (.type "dict")
 |dT {a:Addr} {Ql:List (List Key×V)} (e:H a=some (.dT Ql)):TyOf K H (.ref a) (.type "dict")
 | ins {a C dx:Addr} {fs:List (Str×V)} (e:H a=some (.ins C dx fs)) (cl:Cls K C) (ha:PySem.W.findIn K (.ref C) "__class__"=some (some (.builtin "object.__class__")))
  (hn:PySem.W.specialIn K (.builtin "object.__class__") "__get__"=some (some (.builtin "getset_descriptor.__get__"))) (htk:PySem.W.takesIn K (.builtin "object.__class__")=some true)
  (hm:PySem.W.mroIn K C (.type "object")=some true):TyOf K H (.ref a) (.ref C)
def DC(I:#[8] H s)(d:RelV x u)(ty:TyOf X.K H x t)(e:PySem.W.kitOne X.K t c=some b)(h:∀tk,Q (.bool b) { s with toks:=tk }):
 wpAny (model X.prog X.w) A (call (.builtin "isinstance") [u,c]) Q E s:=by
 cases ty with
 |non=>cases(show u=Value.none from d);exact C0 PySem.W.kitx_none I.kIn True.intro e (λz=>nomatch z) h
 |bl y=>cases(show u=Value.bool y from d);exact C0 PySem.W.kitx_bool I.kIn True.intro e (λz=>nomatch z) h
 |int i=>let%[t|q]:=(show ∃t,u=Value.int i t from d);cases q;exact C0 PySem.W.kitx_int I.kIn True.intro e (λz=>nomatch z) h
 |str y=>let%[t|q]:=(show ∃t,u=Value.str y t from d);cases q;exact C0 PySem.W.kitx_str I.kIn True.intro e (λz=>nomatch z) h
 |flt y=>let%[t|q]:=(show ∃t,u=Value.float y t from d);cases q;exact C0 PySem.W.kitx_float I.kIn True.intro e (λz=>nomatch z) h
 | @lst a xs g=>
   cases(show u=Value.ref a from d);let%[_,_,n,_|h1]:=(show ObjOk X.prog X.w H s.heap a (.lst xs)from I.hok a _ g)
   exact C0 PySem.W.kitx_list I.kIn %[_,h1|1] e (λz=>nomatch z) h
 | @frz a r xs g=>
   cases(show u=Value.ref a from d);let%[_,_,_,n,_|h1]:=(show ObjOk X.prog X.w H s.heap a (.frz r (.lst xs))from I.hok a _ g)
   exact C0 PySem.W.kitx_list I.kIn %[_,h1|1] e (λz=>nomatch z) h
 | @tup a xs g=>
   cases(show u=Value.ref a from d);let%[_,_,_,p|_]:=(show ObjOk X.prog X.w H s.heap a (.tup xs)from I.hok a _ g)
   erw[o,h1,h2,_]at p;exact C0 PySem.W.kitx_tuple I.kIn %[o,h1|h2] e (λz=>nomatch z) h
 | @dK a j g=>
   cases(show u=Value.ref a from d);let%[_,_,vs,_|p]:=(show ObjOk X.prog X.w H s.heap a (.dK j)from I.hok a _ g)
   erw[o,v,B,h1,h2,_]at p;exact C0 PySem.W.kitx_dict I.kIn %[o,h1|h2.1] e (λz=>nomatch z) h
 | @dT a j g=>
   cases(show u=Value.ref a from d);let%[_,_,xs,_,o,v,B,h1,h2|_]:=(show ObjOk X.prog X.w H s.heap a (.dT j)from I.hok a _ g)
   exact C0 PySem.W.kitx_dict I.kIn %[o,h1|h2.1] e (λz=>nomatch z) h
 | @ins a C dx fs g cl D L m M=>
   cases(show u=Value.ref a from d);let%[N,O|_]:=rP I.hok g;erw[U,J,_]at O.look;exact C0 (PySem.W.kitx_own (cl.get _) cl.hd D L m M) I.kIn J e (λz=>nomatch z) h
end
structure Room(k:Nat)(A:Around):Prop where
 hd:A.handled=none
 gd:A.guards=some []
 dp:A.depth+3*k+5<recursionLimit
 un:A.units+16*k+200<cLine
def Room.mono{j:Nat}(r:Room k A)(h:j<=k):Room j A:=%[r.hd,r.gd,by have:=r.dp;omega|by have:=r.un;omega]
def Room.deeper{k:Nat}(r:Room (k+1) A)(env:Env):Room k (A.deeper env):=
 %[r.hd,r.gd,by have:=r.dp;show A.depth+1+3*k+5<_;omega|by have:=r.un;show A.units+3+16*k+200<_;omega]
def tU{A:Around}{C:Addr}{us:List Value}{kw:List (Str×Value)}:(A.under (.builtin "type.__call__" %[.ref C::us|kw])).depth=A.depth+1:=by
 first | rfl | simp [Around.under,Code.weight,Code.isCreation,Code.isGuard,Code.isCaller,Code.frames,Code.isFrame,guardIds]
def tT{A:Around}{C:Addr}{us:List Value}{kw:List (Str×Value)}:(A.under (.builtin "type.__call__" %[.ref C::us|kw])).units=A.units+1:=by
 first | rfl | simp [Around.under,Code.cUnits,Code.frames,Code.isFrame]
def Room.make{k:Nat}(r:Room (k+1) A)(C:Addr)(us:List Value)(kw:List (Str×Value)):Room k (A.under (.builtin "type.__call__" %[.ref C::us|kw])):=
 %[r.hd,by simp [Around.under,Code.guards,Code.isGuard,guardIds,pushGuards,r.gd],by have:=r.dp;rw[tU];omega|by have:=r.un;rw[tT];omega]
def Room.depth(r:Room k A):A.depth<recursionLimit:=by have:=r.dp;omega
def Room.units(r:Room k A):A.units+64<cLine:=by have:=r.un;omega
def Ck:TA:=λ_ H Q=>Q [] H
def qH(b:TE)(c:TA):TA:=λσ H Q=>b σ H λx d=>c σ d λxs e=>Q (x::xs) e
section
variable {X:Cx}{e:Expr}{es:List Expr}{te:TE}{t:TA}{pos:Pos}
def aV:PA X [] Ck:=λ_ _ _ _ H Q I h=>QZ %[[],H,I,.nil|h]
def aJ(b:PE X e te)(hr:PA X es t)(c:starEach (e::es) X.env=(false,eval e X.env)::starEach es X.env:=by rfl):PA X (e::es) (qH te t):=by
 intro pos Qh s σ H Q I h;rw[c];show wpAny _ _ (spliced ((false,eval e X.env)::backTo pos (starEach es X.env))) _ _ s;apply Qz (thn (b Qh s σ H _ I h) λu s1 ⟨x,d,g,r1,j⟩=>?_);exact thn (hr pos Qh s1 σ d _ g j) λus q ⟨xs,m,n,r2,o⟩=>%[x::xs,m,n,.cons r1 r2|o]
instance ZtTup(Q:VK)(xs:(List V))(H1:Hp):xs.length<=sizeLine->(∀p,H1 p=none->Q (.ref p) (upd H1 p (.tup xs))):=0
def tTup(t:TA):TE:=λσ H Q=>t σ H λxs b=>ZtTup Q xs b
instance ZtLst(Q:VK)(xs:(List V))(H1:Hp):xs.length<=sizeLine->(∀p,H1 p=none->Q (.ref p) (upd H1 p (.lst xs))):=0
def tLst(t:TA):TE:=λσ H Q=>t σ H λxs b=>ZtLst Q xs b
def aO{g}(h:PA X es t):PE X (.Tuple es g pos) (tTup t):=by
 exists 4,Q,I,j;apply wpAny_Tuple_spliced (thn (h pos Qh s σ H _ I j) λus s1 ⟨xs,c,d,r,z,q⟩=>%[by rw[←r.length];exact z|6]);let hf:c ‹s1›=none:=d.hok.fresh (fz _);erw[.ref ‹s1›,upd c ‹s1› (.tup xs),d.laid (t':=s1.toks) (λb u e=>ih _ e) (fz _) ?_,1,q _ hf];erw[z,us,r,%[_,mM _ rfl,1|0],_,mM _ rfl,1]
def cY(h:PA X es t):PE X (.List es pos) (tLst t):=by
 exists 4,Q,I,g;apply wpAny_List_spliced (thn (h pos Qh s σ H _ I g) λus s1 ⟨xs,c,d,r,z,q⟩=>%[by rw[←r.length];exact z|6]);let hf:c ‹s1›=none:=d.hok.fresh (fz _);erw[.ref ‹s1›,upd c ‹s1› (.lst xs),d.laid (t':=s1.toks) (λb u e=>ih _ e) (fz _) ?_,1,q _ hf];erw[z,us,(0),r,mM _ rfl]
end
abbrev Sp:=List V->Hp->VK->XK->Prop
abbrev CXT:=List Env->Hp->Shared->XK->#[6]
structure Env0(P:Program)(w:World)(K:W.Frag)(mg:#[9])(base:Heap)(A:Around)(outer:List Env)(s:Shared)(H:Hp):Prop where
 frames:A.frames=some outer
 mod:Mod K mg base
 bs:∀b o,base.get? b=some o->s.heap.get? b=some o/\H b=none
 bsz:base.objs.size<=‹s›
 funs:s.heap.FunFrames base outer
 frf:∀b∈frs outer,H b=none
 hok:HOk P w H s.heap
 bare:AllBare s.gens
def CE(outer:List Env)(P:Program)(w:World)(H:Hp)(s:Shared)(Q:VK)(u:Value)(s':Shared):Prop:=
 ∃v b,s'.os=s.os/\AllBare s'.gens/\Un (frs outer) [] H b s.heap s'.heap/\HOk P w b s'.heap/\RelV v u/\Q v b
def CR(CX:CXT)(outer:List Env)(P:Program)(w:World)(H:Hp)(s:Shared)(Q:VK)(E:XK)(r:Result)(s':Shared):Prop:=
 match r with
 |.ok (.ret u)=>CE outer P w H s Q u s'
 |.ok _=>False
 |.error e=>CX outer H s E e s'
structure FnOk(P:Program)(w:World)(K:W.Frag)(mg:#[9])(base:Heap)(CX:CXT)(k:Nat)(f:Addr)(fd:FuncData)(ps:List Str)(sp:Sp):Prop where
 len:∀vs H Q E,sp vs H Q E->vs.length=ps.length
 run:∀(A:Around)(outer:List Env)(s:Shared)(H:Hp)(args:Args)(us:List Value)(vs:List V)(Q:VK)(E:XK),Room k A->Env0 P w K mg base A outer s H->BindsTo s fd args (ps.zip us)->Vals vs us->sp vs H Q E ->
  codeAny (model P w) A (.call (.ref f) args) (CR CX outer P w H s Q E) s
def Env0.make{K:W.Frag}(e:Env0 P w K mg base A outer s H)(C:Addr)(us:List Value)(kw:List (Str×Value)):
 Env0 P w K mg base (A.under (.builtin "type.__call__" %[.ref C::us|kw])) outer s H:=⟨by first | exact e.frames | (simpa [Around.under,Code.envs,Code.isFrame,pushEnvs]using e.frames),e.mod,e.bs,e.bsz,e.funs,e.frf,e.hok,e.bare⟩
section
variable {X:Cx}{Qh:#[7]}{σ:St}{H:Hp}{s s':Shared}
def Inv.env0(I:#[8] H s):Env0 X.prog X.w X.K X.mg X.base X.A X.stack s H:=
 %[I.ok.frames,I.ok.mod,I.bs,hQ I.ok.bsz I.sz,I.stack,I.stkFree,I.hok|I.bare]
def Inv.after(I:#[8] H s)(h:CE X.stack X.prog X.w H s Q u s'):EP X Qh σ Q u s':=by
 erw[v,e,os,bare,un,hok,r,q]at h;erw[hh,g,d,t,c]at s';obtain rfl:c=s.os:=os;erw[v,e,I.call (h':=hh) (g':=g) (d':=d) (t':=t) (ch:=[]) un hok bare (λb z=>absurd z #[2]),r,q]
end
def mN(sp:Sp)(b:List V)(E:XK)(t:TA):TE:=λσ H Q=>t σ H λvs c=>sp (vs++b) c Q E
instance ZtMeth(C:Addr)(m:Str)(sp:Sp)(dvs:List V)(E:XK)(t:TA)(σ:St)(Q:VK)(x:V)(H1:Hp):∀a dx fs,x=.ref a->H1 a=some (.ins C dx fs)->fs.lookup m=none->(t σ H1 λvs H2=>sp (x::(vs++dvs)) H2 Q E):=0
def JR(C:Addr)(m:Str)(sp:Sp)(b:List V)(E:XK)(c:TE)(t:TA):TE:=λσ H Q=>c σ H λx d=>ZtMeth C m sp b E t σ Q x d
def tMake(C:Addr)(sp:Sp)(b:List V)(E:XK)(t:TA):TE:=λσ H Q=>t σ H λvs c=>∀x dx,c x=none->c dx=none->dx≠x ->
 sp (.ref x::(vs++b)) (upd (upd c dx (.own x)) x (.ins C dx [])) (λv d=>v=.non/\Q (.ref x) d) E
def Binds(K:W.Frag)(fd:FuncData)(ps:List Str)(b:List Value):Prop:=
 ∀(s:Shared)(us:List Value),K.In s.heap->(us++b).length=ps.length->BindsTo s fd %[us|[]] (ps.zip (us++b))
def Binds.all{K:W.Frag}{fd:FuncData}{ps:List Str}(h:∀us:List Value,us.length=ps.length->bindArgs fd %[us|[]]=pure (ps.zip us)):Binds K fd ps []:=λs us _ hl=>by
 rw[My]at hl ⊢;exact .of_eq (h us hl)
def eX(CX:CXT)(X:Cx)(E:XK):Prop:=∀(Qh:#[7])(σ:St)(H:Hp)(s:Shared)(e:Value)(s':Shared),#[8] H s->CX X.stack H s E e s'->X.xe e s'
section
variable {X:Cx}{CX:CXT}{k:Nat}{f C:Addr}{fd:FuncData}{ps:List Str}{sp:Sp}{dvs:List V}{ds:List Value}{E:XK}{x m:Str}{p pos Qm:Pos}{e o:Expr}{es:List Expr}{ta:TE}{t:TA}
def sU{σ:St}{Q:VK}(F:FnOk X.prog X.w X.K X.mg X.base CX k f fd ps sp)(hr:Room k X.A)(c:Binds X.K fd ps ds)(hd:Vals dvs ds)(d:eX CX X E)
 (I:#[8] H s)(r:Vals vs us)(h:sp (vs++dvs) H Q E):‹X.w› (call (.ref f) us) (EP X Qh σ Q) X.xe s:=by
 let r2:Vals (vs++dvs) (us++ds):=r.append hd;let hl:(us++ds).length=ps.length:=by rw[←r2.length];exact F.len _ _ _ _ h
 apply QG (Qu (F.run X.A X.stack s H %[us|[]] (us++ds) (vs++dvs) Q E hr I.env0 (c s us I.kIn hl) r2 h) λr s' b=>?_);cases r with
 |error e=>exact d Qh σ H s e s' I b
 |ok g=>
   cases g with
   |ret u=>exact I.after b
   |next=>exact False.elim b
   |brk=>exact False.elim b
   |cont=>exact False.elim b
def Bw(F:FnOk X.prog X.w X.K X.mg X.base CX k f fd ps sp)(hr:Room k X.A)(hg:Gl X x)(g:X.mg x=some (.ref f))(j:PySem.W.keepIn X.K (.ref f)=true)(n:Binds X.K fd ps ds)(hd:Vals dvs ds)(u:eX CX X E)
 (v:PA X (e::es) t)(b:(x==("__debug__":Str))=false:=by decide)(he:starEach (e::es) X.env=(false,eval e X.env)::starEach es X.env:=by rfl)(c:(backTo pos (starEach es X.env)).any (·.1)=false:=by rfl):
 PE X (.Call (.Name x p) (e::es) [] pos) (mN sp dvs E t):=by
 exists 4,Q,I,h;apply GV (iK I hg g ?_ b);apply Sk (h₀:=X.base) I.ok.mod.kin j (thn (v pos Qh s σ H _ I h) λus s1 ⟨vs,y,d,r,q⟩=>%[d.kIn|6]) he c;exact sU F hr n hd u d r q
def bu{pl:Sem Bool}(he:PE X o ta)(c:Cls X.K C)(d:Meth X.K C m f)(F:FnOk X.prog X.w X.K X.mg X.base CX k f fd ps sp)(hr:Room k X.A)(v:Binds X.K fd ps ds)(hd:Vals dvs ds)(y:eX CX X E)(z:PA X (e::es) t)
 (B:starEach (e::es) X.env=(false,eval e X.env)::starEach es X.env:=by rfl)(b:(backTo pos (starEach es X.env)).any (·.1)=false:=by rfl)
 (D:eval (.Call (.Attribute o m Qm) (e::es) [] pos) X.env=(do
  let g ←eval o X.env
  standAt Qm.atName
  let(f,first) ←holding [g] (getMethod g m pl)
  callWith pos f first (backTo pos (starEach (e::es) X.env)) (backToKw pos (keywordEach [] X.env))):=by rfl) :
 PE X (.Call (.Attribute o m Qm) (e::es) [] pos) (JR C m sp dvs E ta t):=by
 exists 4,Q,I,h;apply Rb (pl:=pl) (thn (he Qh s σ H _ I h) λu s1 ⟨x,J,j,L,a,dx,fs,ex,M,l,q⟩=>?_) D;subst ex;obtain rfl:u=Value.ref a:=L;apply uc j M c d l ?_;apply Sk (first:=[.ref a]) (h₀:=X.base) I.ok.mod.kin d.kp (thn (z pos Qh s1 σ J _ j q) λus O ⟨vs,U,n,r,N⟩=>%[n.kIn|6]) B b;exact sU (us:=.ref a::us) (vs:=.ref a::vs) F hr v hd y n (.cons rfl r) N
def ci{pl:Sem Bool}(he:PE X o ta)(c:Cls X.K C)(d:Meth X.K C m f)(F:FnOk X.prog X.w X.K X.mg X.base CX k f fd ps sp)(hr:Room k X.A)(j:Binds X.K fd ps ds)(hd:Vals dvs ds)(n:eX CX X E)
 (r:eval (.Call (.Attribute o m Qm) [] [] pos) X.env=(do
  let g ←eval o X.env
  standAt Qm.atName
  let(f,first) ←holding [g] (getMethod g m pl)
  callWith pos f first (backTo pos (starEach [] X.env)) (backToKw pos (keywordEach [] X.env))):=by rfl) :
 PE X (.Call (.Attribute o m Qm) [] [] pos) (JR C m sp dvs E ta Ck):=by
 exists 4,Q,I,h;apply Rb (pl:=pl) (thn (he Qh s σ H _ I h) λu s1 ⟨x,z,b,v,a,dx,fs,ex,y,l,q⟩=>?_) r;subst ex;obtain rfl:u=Value.ref a:=v;apply uc b y c d l ?_;exact PySem.W.callWith_K0 (first:=[.ref a]) b.kIn d.kp (sU (us:=[.ref a]) (vs:=[.ref a]) F hr j hd n b (.cons rfl .nil) q)
structure Mk(K:W.Frag)(C f:Addr):Prop where
 makes:PySem.W.makesIn K C=true
 init:PySem.W.findIn K (.ref C) "__init__"=some (some (.ref f))
 fn:PySem.W.isFn K (.ref f)=true
 kp:PySem.W.keepIn K (.ref C)=true
def Ff{σ:St}{Q:VK}(M:Mk X.K C f)(F:FnOk X.prog X.w X.K X.mg X.base CX k f fd ps sp)(hr:Room (k+1) X.A)(g:Binds X.K fd ps ds)(hd:Vals dvs ds)
 (j:eX CX X E)(I:#[8] H s)(r:Vals vs us)
 (h:∀x dx,H x=none->H dx=none->dx≠x->sp (.ref x::(vs++dvs)) (upd (upd H dx (.own x)) x (.ins C dx [])) (λv n=>v=.non/\Q (.ref x) n) E):
 ‹X.w› (call (.ref C) us) (EP X Qh σ Q) X.xe s:=by
 let d:=h (‹s›+1) ‹s› (I.hok.fresh (q9 _)) (I.hok.fresh (fz _)) (nc (QB _));let c:=Inv.made (C:=C) I;let r2:Vals (V.ref (‹s›+1)::(vs++dvs)) (Value.ref (‹s›+1)::(us++ds)):=.cons rfl (r.append hd);let hl:(Value.ref (‹s›+1)::us++ds).length=ps.length:=by
  let e:=r2.length;rw[F.len _ _ _ _ d]at e;exact e.symm
 apply QG (Gv (f:=f) I.kIn M.makes M.init (beq_iff_eq.mp M.fn) (Qu (F.run _ X.stack _ _ %[Value.ref (‹s›+1)::us|[]] (Value.ref (‹s›+1)::(us++ds)) _ _ E (hr.make C us [])
  (c.env0.make C us []) (g _ (Value.ref (‹s›+1)::us) c.kIn hl) r2 d) λr s' b=>?_))
 cases r with
 |error e=>exact j Qh σ _ _ e s' c b
 |ok q=>
   cases q with
   |ret u=>
     let%[v,y,z,B,D|J]:=c.after b;subst D;erw[B,%[V.ref (‹s›+1),y,z,1|J]]
   |next=>exact False.elim b
   |brk=>exact False.elim b
   |cont=>exact False.elim b
def jy(M:Mk X.K C f)(F:FnOk X.prog X.w X.K X.mg X.base CX k f fd ps sp)(hr:Room (k+1) X.A)(hg:Gl X x)(g:X.mg x=some (.ref C))(j:Binds X.K fd ps ds)(hd:Vals dvs ds)(n:eX CX X E)
 (u:PA X (e::es) t)(b:(x==("__debug__":Str))=false:=by decide)(he:starEach (e::es) X.env=(false,eval e X.env)::starEach es X.env:=by rfl)(c:(backTo pos (starEach es X.env)).any (·.1)=false:=by rfl):
 PE X (.Call (.Name x p) (e::es) [] pos) (tMake C sp dvs E t):=by
 exists 4,Q,I,h;apply GV (iK I hg g ?_ b);apply Sk (h₀:=X.base) I.ok.mod.kin M.kp (thn (u pos Qh s σ H _ I h) λus s1 ⟨vs,v,d,r,q⟩=>%[d.kIn|6]) he c;exact Ff M F hr j hd n d r q
end
structure FnScope(N P:List Str)(sc:Scope):Prop where
 kind:sc.kind=.function
 co:sc.isCoroutine=false
 gen:sc.isGenerator=false
 nd:N.Nodup
 pre:N.take P.length=P
 par:∀x∈P,sc.names.lookup x=some .local∨sc.names.lookup x=some .cell
 nofree:∀y∈sc.names,y.2≠.free
def vN{kindOf:Str->Option NameKind}{x:Str}:∀{binds:List (Str×Value)}{m:#[9]},(∀v,(x,v)∉binds)->bindL kindOf binds m x=m x
 | [],_,_=>rfl
 | (n,v)::r,m,h=>by
   unfold bindL;rw[vN λw hw=>h w (pj _ hw)]
   split
   . have:x≠n:=by rintro rfl;exact h v mj
     simp [this]
   . rfl
def vP{kindOf:Str->Option NameKind}{x:Str}:∀{binds:List (Str×Value)}{m:#[9]},(∀v,(x,v)∉binds)->bindC kindOf binds m x=m x
 | [],_,_=>rfl
 | (n,v)::r,m,h=>by
   unfold bindC;rw[vP λw hw=>h w (pj _ hw)]
   split
   . rfl
   . have:x≠n:=by rintro rfl;exact h v mj
     simp [this]
def vO{kindOf:Str->Option NameKind}{x:Str}{v:Value}:∀{P:List Str}{vs:List Value}{i:Nat}{m:#[9]},P.Nodup->P[i]?=some x->vs[i]?=some v->kindOf x=some .local ->
 bindL kindOf (P.zip vs) m x=some v
 | [],_,_,_,_,h,_,_=>by simp at h
 |_::_,[],_,_,_,_,h,_=>by simp at h
 |p::P,w::vs,0,m,nd,h1,h2,b=>by
   simp at h1 h2;subst h1;subst h2
   show bindL kindOf ((p,w)::P.zip vs) m p=_;unfold bindL;rw[vN λv c=>(List.nodup_cons.mp nd).1 (RH c).1,Qk b]
   simp
 |p::P,w::vs,i+1,m,nd,h1,h2,b=>by
   show bindL kindOf ((p,w)::P.zip vs) m x=_;unfold bindL;exact vO (i:=i) (List.nodup_cons.mp nd).2 #[h1,0] #[h2,0] b
def vQ{kindOf:Str->Option NameKind}{x:Str}{v:Value}:∀{P:List Str}{vs:List Value}{i:Nat}{m:#[9]},P.Nodup->P[i]?=some x->vs[i]?=some v->kindOf x≠some .local ->
 bindC kindOf (P.zip vs) m x=some v
 | [],_,_,_,_,h,_,_=>by simp at h
 |_::_,[],_,_,_,_,h,_=>by simp at h
 |p::P,w::vs,0,m,nd,h1,h2,b=>by
   simp at h1 h2;subst h1;subst h2
   show bindC kindOf ((p,w)::P.zip vs) m p=_;unfold bindC;rw[vP λv c=>(List.nodup_cons.mp nd).1 (RH c).1,Qi b]
   simp
 |p::P,w::vs,i+1,m,nd,h1,h2,b=>by
   show bindC kindOf ((p,w)::P.zip vs) m x=_;unfold bindC;exact vQ (i:=i) (List.nodup_cons.mp nd).2 #[h1,0] #[h2,0] b
def il(N:List Str)(vs:List V):St:=vs.map some++List.replicate (N.length-vs.length) none
def fu(CX:CXT)(P:Program)(w:World)(K:W.Frag)(mg:#[9])(base:Heap)(N:List Str)(qual:Str)(scope:Scope)(f:Addr)(cd:Value)(A:Around)(outer:List Env)(s:Shared)(H:Hp)(E:XK):Cx where
 prog:=P
 w:=w
 K:=K
 mg:=mg
 base:=base
 A:=A.deeper (envOfC qual scope ‹s› f cd)
 N:=N
 s₀:=s
 H₀:=H
 env:=envOfC qual scope ‹s› f cd
 outer:=outer
 stack:=envOfC qual scope ‹s› f cd::outer
 ex:=[]
 calm:=true
 fn:=λ_=>true
 pn:=[]
 xe:=λe s'=>wpAny (model P w) (A.deeper (envOfC qual scope ‹s› f cd)) (leaving (envOfC qual scope ‹s› f cd) e) (λ_ b=>CX outer H s E e b) (λc b=>CX outer H s E c b) s'
def zk{b:Scope}{n:Nat}{x:Str}(h:b.names.lookup x=some .cell):∃c,(cellsFrom n b.names []).lookup x=some c:=by
 let q:=PySem.W.cellsFrom_some b.names n [] (.inl h);exact Option.isSome_iff_exists.mp q
def vF{K:W.Frag}{qual:Str}{f:Addr}{cd:Value}{A:Around}{s1:Shared}{vs:List V}
 (S:FnScope N ps scope)(hd:A.handled=none)(e0:Env0 P w K mg base A outer s H)(hl:vs.length=ps.length)(r:Vals vs us)
 (x:InCallC s ‹s› (bindL (envOfC qual scope ‹s› f cd).kindOf (ps.zip us) λ_=>none) (cellsFrom (‹s›+1) scope.names []) (bindC (envOfC qual scope ‹s› f cd).kindOf (ps.zip us) λ_=>none) s1):
 Inv (fu CX P w K mg base N qual scope f cd A outer s H E) [] (il N vs) H s1:=by
 let C:ps.length<=N.length:=by have:=congrArg List.length S.pre;rw[lw]at this;omega
 erw[h1,tk,1,t]at x.done;let d:∀b:Addr,b∉(fu CX P w K mg base N qual scope f cd A outer s H E).ex:=λb z=>absurd (show b∈([]:List Addr)from z) #[2]
 erw[%[e0.mod,S.kind,1,1,fz _,λy z c h1 h2=>?_,λy g=>?_,λy c _ h=>?_,λ_=>hd,Around.frames_deeper e0.frames,.inr %[1|1],λb z=>absurd z (d b),e0.bs,e0.bsz,λb _ _=>d b,λb z=>absurd z (d b),e0.funs|e0.frf],1,e0.bare,Un.kept t,%[_,x.toInCall.ns|λi y v h1 h2 h3=>?_],λy c h=>%[_|x.cell y c h],e0.hok.fresh (fz _),λy c h=>?_,λp j=>absurd (show p∈([]:#[7])from j) #[2],e0.hok.kept t,6]
 . exact name_of_addr x.apart (QK h1) (QK h2)
 . let g:scope.names.lookup y=some .cell∨scope.names.lookup y=some .free:=g;rcases g with g | g
   . exact zk g
   . exact absurd rfl (S.nofree _ (QK g))
 . exact Ro (x.above y c (QK h))
 . let o:i<vs.length:=by
    unfold il at h2
    by_cases o:i<vs.length
    . exact o
    . rw [y1 #[o,0]]at h2;rw[List.getElem?_replicate]at h2
      split at h2 <;> cases h2
   let D:vs[i]?=some v:=by
    unfold il at h2;rw[Gp #[o,0],kv]at h2;cases e:vs[i]? with
    |none=>rw[e]at h2;cases h2
    |some a=>rw[e]at h2;cases h2;rfl
   let%[u,B|J]:=r.get D;let j:ps[i]?=some y:=by
    rw[←S.pre,List.getElem?_take_of_lt #[0]];exact h1
   let m:ps.Nodup:=by rw[←S.pre];exact S.nd.sublist (List.take_sublist _ _)
   erw[u,J,6];rcases S.par y (lr j)with k | k
   . exact .inl %[k|vO m j B k]
   . let%[c|e]:=zk (n:=‹s›+1) k;refine .inr %[.inl k,c,e|6];let q:=x.cell y c e;rw[vQ m j B (by show scope.names.lookup y≠_;rw[k];decide)]at q;exact q
 . exact e0.hok.fresh (Ro (x.above y c (QK h)))
 . unfold il;show _=N.length;rw[gl,fx,y3];omega
def Hk{K:W.Frag}{f:Addr}{name qual:Str}{params:Arguments}{body:List Stmt}{scope:Scope}{M kV m O cdv ct Y:Value}{U od:Option Addr}
 {B:Array (Option Value)}{sp:Sp}(lk:K.lookup f=some %[Y,od,.func (PySem.W.fnOf name qual params body scope M kV m O U cdv ct)|B])(C:PySem.W.codeIn K cdv qual=true)(S:FnScope N ps scope)
 (len:∀vs H Q E,sp vs H Q E->vs.length=ps.length)
 (d:∀(A:Around)(outer:List Env)(s:Shared)(H:Hp)(vs:List V)(Q:VK)(E:XK),Room k (A.deeper (envOfC qual scope ‹s› f cdv))->sp vs H Q E ->
  ∃t,PSs (fu CX P w K mg base N qual scope f cdv A outer s H E) body t/\t { nx:=λ_ c=>Q .non c,rt:=Q } (il N vs) H) :
 FnOk P w K mg base CX (k+1) f (PySem.W.fnOf name qual params body scope M kV m O U cdv ct) ps sp:=by
 erw[len,λA outer s H args us vs Q E hr e0 hb r z=>?_];let hl:=len _ _ _ _ z;let KX:K.In s.heap:=e0.mod.kin.keeps λb o e=>(e0.bs b o e).1
 let D:s.heap.NoLimit:=e0.mod.nolimit.keeps λb o e=>(e0.bs b o e).1
 let g:∀y∈ps.zip us,scope.names.lookup y.1=some .local∨(scope.names.lookup y.1=some .cell/\((cellsFrom (‹s›+1) scope.names []).lookup y.1).isSome=true):=fun⟨n,v⟩ hy=>by
  rcases S.par n (RH hy).1 with q | q
  . exact .inl q
  . exact .inr %[q|PySem.W.cellsFrom_some _ _ _ (.inl q)]
 apply codeAny_call_function hr.depth (KX _ _ lk) rfl S.co S.gen rfl (PySem.W.codeRec_of KX C) (hb _ _ _ _ ?_);apply wpAny_newFunctionEnv_cells S.kind g λenv he s1 x=>?_
 subst he;erw[D.keeps x.toInCall.keep,codeAny_func ?_];let%[t,ht|hq]:=d A outer s H vs Q E (hr.deeper _) z;let I:Inv (fu CX P w K mg base N qual scope f cdv A outer s H E) [] (il N vs) H s1:=vF S hr.hd e0 hl r x;apply se (ht [] s1 (il N vs) H _ I hq) (λfl s' j=>?_) λe s' j=>j
 let fin:∀{σ':St}{c:Hp}{v:V}{u:Value},Inv (fu CX P w K mg base N qual scope f cdv A outer s H E) [] σ' c s'->RelV v u->Q v c->CE outer P w H s Q u s':=
  fun{σ' c v u} J L q=>%[v,c,J.os,J.bare,J.base,J.hok,L|q]
 cases fl with
 |ret u=>
   erw[v,σ',c,J,L,q]at j;exact fin J L q
 |next=>
   erw[σ',c,J,q]at j;exact fin (v:=V.non) (u:=Value.none) J rfl q
 |brk=>
   erw[_,_,_,q]at j;exact False.elim q
 |cont=>
   erw[_,_,_,q]at j;exact False.elim q
section
variable {X:Cx}{x:Str}{p pos:Pos}{e:Expr}{es:List Expr}{t:TA}{id T:String}{r:List V->Hp->VK->Prop}
def tCB(r:List V->Hp->VK->Prop)(t:TA):TE:=λσ H Q=>t σ H λvs b=>r vs b Q
def aE(hc:iE X (.builtin id) r)(hg:Gl X x)(d:X.mg x=none)(g:bootBuiltins x=some (.builtin id))(j:PA X (e::es) t)(m:x≠"__name__":=by decide)(b:(x==("__debug__":Str))=false:=by decide)
 (he:starEach (e::es) X.env=(false,eval e X.env)::starEach es X.env:=by rfl)(c:(backTo pos (starEach es X.env)).any (·.1)=false:=by rfl):PE X (.Call (.Name x p) (e::es) [] pos) (tCB r t):=by
 exists 4,Q,I,h;apply GV (jN I hg d g ?_ m b);exact PyProof.Rows.callWith_builtin1 (thn (j pos Qh s σ H _ I h) λus s1 ⟨vs,n,o,r1,q⟩=>hc Qh s1 σ n vs us Q o r1 q) he c
def aR(hc:iE X (.type T) r)(hg:Gl X x)(d:X.mg x=none)(g:bootBuiltins x=some (.type T))(j:PA X (e::es) t)(m:x≠"__name__":=by decide)(b:(x==("__debug__":Str))=false:=by decide)
 (he:starEach (e::es) X.env=(false,eval e X.env)::starEach es X.env:=by rfl)(c:(backTo pos (starEach es X.env)).any (·.1)=false:=by rfl):PE X (.Call (.Name x p) (e::es) [] pos) (tCB r t):=by
 exists 4,Q,I,h;apply GV (jN I hg d g ?_ m b);exact Qw (thn (j pos Qh s σ H _ I h) λus s1 ⟨vs,n,o,r1,q⟩=>hc Qh s1 σ n vs us Q o r1 q) he c
end
end L2
namespace HT
open PySem PyProof.Rows
section
variable {prog:Program}{w:World}{A:Around}{E:#[6]}{s:Shared}
def cat_tup{t b:Addr}{vs ws:List Value}{Q:#[6]}(y:IsTup s.heap t vs.toArray)(z:IsTup s.heap b ws.toArray)(q:vs≠[])
 (h1:ws=[]->Q (.ref t) s)(h2:ws≠[]->Q (.ref ‹s›) { s with heap:=s.heap.push { cls:=.type "tuple",data:=.seq (vs++ws).toArray } })
 (hsz:vs.length+ws.length<=sizeLine):‹w.A› (binaryOp .Add (.ref t) (.ref b)) Q E s:=by
 let%[%[cls,r,data|u],o,hc,n|hd]:=id y;let%[%[v,d,data2|g],c,j,x|m]:=id z;simp only at hc hd j m;subst hc hd j m;let e:vs.toArray++ws.toArray=(vs++ws).toArray:=by simp
 by_cases hw:ws=[]
 . exact concat_meets %[_,o|1] ⟨_,c,rfl⟩ Sv seq_tuple_add Sa R4 (R0 _ _)
    (tuple_addW1 t b vs.toArray ws.toArray n x r d u g #[q,0] (by simp [hw])) %[o,c|h1 hw]
 . apply concat_meets %[_,o|1] ⟨_,c,rfl⟩ Sv seq_tuple_add Sa R4 (R0 _ _)
    (tuple_addW2 t b vs.toArray ws.toArray n x r d u g #[q,0] #[hw,0] (by rw[ks,ks];exact hsz)) %[o,c|6]
   rw[e];exact h2 hw
def sIx(n d:Nat):Option Int->Nat
 |none=>d
 |some v=>if v<0 then(v+(n:Int)).toNat else min v.toNat n
def sIx_none(n d:Nat):sIx n d none=d:=rfl
def sIx_nat(n d k:Nat):sIx n d (some (k:Int))=min k n:=by
 show(if(k:Int)<0 then((k:Int)+(n:Int)).toNat else min (k:Int).toNat n)=min k n;rw[Qi #[0],J6]
def Kr(n d:Nat)(hd:d<=n)(o:Option Int):sIx n d o<=n:=by
 cases o with
 |none=>exact hd
 |some v=>
   show(if v<0 then(v+(n:Int)).toNat else min v.toNat n)<=n
   by_cases b:v<0
   . rw[Qk b];omega
   . rw[Qi b];exact Nat.min_le_right _ _
def BQ(v:Int)(n d:Nat):(if v<0 then max (v+(n:Int)) 0 else min v (n:Int))=((sIx n d (some v):Nat):Int):=by
 show(if v<0 then max (v+(n:Int)) 0 else min v (n:Int))=(((if v<0 then(v+(n:Int)).toNat else min v.toNat n):Nat):Int)
 by_cases b:v<0
 . simp only[Qk b];omega
 . simp only[Qi b];omega
def Be(lo b:Option Int)(n:Nat):Builtin.Slice.sliceAdjust lo b 1 (n:Int)=(((sIx n 0 lo:Nat):Int),((sIx n n b:Nat):Int)):=by
 let h1:¬ ((1:Int)<0):=#[0]
 unfold Builtin.Slice.sliceAdjust;simp only[h1,if_false];apply Prod.ext ?_ ?_
 . cases lo with
   |none=>rfl
   |some v=>exact BQ v n 0
 . cases b with
   |none=>rfl
   |some v=>exact BQ v n n
def Ab(i j:Nat):Builtin.Slice.slicePlaces (i:Int) (j:Int) 1=j-i:=by
 unfold Builtin.Slice.slicePlaces;let h1:(1:Int)>0:=#[0]
 simp only[h1,if_true,Int.ediv_one]
 split <;> omega
def sx{v:Value}{o:Option Int}{Q:Option Int->Shared->Prop}(p:IsPart v o)(h:Q o s):‹w.A› (Builtin.Slice.slicePartIndex v) Q E s:=by
 cases p with
 |none=>exact slicePart_none h
 |int i t=>exact slicePart_int h
def jS{j:Addr}{e g:Value}{lo b:Option Int}{Q:Int×Int×Nat->Shared->Prop}(m:s.heap.IsSliceOf j e g .none)(pl:IsPart e lo)(o:IsPart g b)
 (h:Q (((sIx n 0 lo:Nat):Int),1,sIx n n b-sIx n 0 lo) s):‹w.A› (Builtin.Slice.sliceApplied (.ref j) (pure (n:Int))) Q E s:=by
 let%[os,c,q|d]:=id m;unfold Builtin.Slice.sliceApplied Builtin.Slice.sliceFields;apply ft (ft (n9 c d (x:=e) rfl (ft (n9 c d (x:=g) rfl (ft (n9 c d (x:=.none) rfl (gh ?_)))))));apply ft (slicePart_none ?_);show wpAny _ _ (if((1:Int)==0)=true then _ else _) _ _ s;rw[Qi ⋯];apply ft (sx pl (ft (sx o (ft (gh ?_)))));show wpAny _ _ (match Builtin.Slice.sliceAdjust lo b 1 (n:Int)with | (lo,b)=>pure (lo,(1:Int),Builtin.Slice.slicePlaces lo b 1)) _ _ s;rw[Be lo b n];show wpAny _ _ (pure (((sIx n 0 lo:Nat):Int),(1:Int),Builtin.Slice.slicePlaces ((sIx n 0 lo:Nat):Int) ((sIx n n b:Nat):Int) 1)) _ _ s;rw[Ab];exact gh h
def Fx(xs:Array Value)(i k:Nat):((List.range k).filterMap fun(m:Nat)=>xs[((i:Int)+(m:Int)*1).toNat]?).toArray=((xs.toList.drop i).take k).toArray:=by
 let e:(fun(m:Nat)=>xs[((i:Int)+(m:Int)*1).toNat]?)=λm=>xs[i+m]?:=by
  funext m
  have:((i:Int)+(m:Int)*1).toNat=i+m:=#[0]
  rw[this]
 rw[e]
 have:=pick_run xs i k
 rw[List.filterMap_map]at this;let e2:((λx=>xs[x]?) ∘ λx=>i+x)=λm=>xs[i+m]?:=rfl
 rw[e2]at this;rw[this]
def getItem_tuple_cut{t e:Addr}{items:Array Value}{r u:Value}{lo c:Option Int}{Q:#[6]}(d:IsTup s.heap t items)(v:s.heap.IsSliceOf e r u .none)(pl:IsPart r lo)(x:IsPart u c)
 (hw:¬ (sIx items.size 0 lo=0/\sIx items.size items.size c=items.size))
 (h:Q (.ref ‹s›) { s with heap:=s.heap.push { cls:=.type "tuple",data:=.seq ((items.toList.drop (sIx items.size 0 lo)).take (sIx items.size items.size c-sIx items.size 0 lo)).toArray } })
 (hsz:items.size<=sizeLine):‹w.A› (getItem (.ref t) (.ref e)) Q E s:=by
 let b:sizeOk (.seq ((items.toList.drop (sIx items.size 0 lo)).take (sIx items.size items.size c-sIx items.size 0 lo)).toArray):=by
  show((items.toList.drop (sIx items.size 0 lo)).take (sIx items.size items.size c-sIx items.size 0 lo)).toArray.size<=sizeLine;rw[ks,lw,QL,zf];omega
 let z:sIx items.size items.size c<=items.size:=Kr _ _ (fz _) c;let%[os,g,j|y]:=id v;let n:s.TypeIs (.ref e) "slice":=%[os,g|j]
 unfold getItem
 try with_reducible apply IL ?_
 first | refine ft (gh ?_) | skip
 apply ft (wpAny_sequenceKey d.typeIs ⋯ ?_);apply ft (QI (name:=Str.ofString "__getitem__") d.typeIs Ru
  (QC Ru d.typeIs entry_tuple_getitem ?_ (args_tuple_getitem _ _)))
 show wpAny _ _ (Builtin.Tuple.tupleItemsOf (.ref t) >>= _) _ _ s;apply ft (tupleItemsOf_ d ?_);apply ft (RV n ?_);rw[Qk ⋯];apply ft (jS v pl x ?_);let o:¬ ((((sIx items.size 0 lo:Nat):Int)==0&&(1:Int)==1&&(sIx items.size items.size c-sIx items.size 0 lo)==items.size)=true):=by
  intro q;rw[QD,QD]at q;let B:((sIx items.size 0 lo:Nat):Int)=0:=eq_of_beq q.1.1;let C:sIx items.size items.size c-sIx items.size 0 lo=items.size:=eq_of_beq q.2;exact hw %[3|3]
 show wpAny _ _ (if(((sIx items.size 0 lo:Nat):Int)==0&&(1:Int)==1&&(sIx items.size items.size c-sIx items.size 0 lo)==items.size)=true then _ else _) _ _ s;rw[Qi o,Fx]
 first
  |exact ft (m:=Builtin.Tuple.tupleExact _) (yl (gh ⟨_,rfl,gh h⟩) b)
  |exact ft (m:=Builtin.Tuple.tupleExact _) (yl (ft (gh (gh ⟨_,rfl,gh h⟩))) b)
  |exact ft (ft (m:=Builtin.Tuple.tupleExact _) (yl (gh (gh ⟨_,rfl,gh h⟩)) b))
  |exact ft (ft (m:=Builtin.Tuple.tupleExact _) (yl (gh ⟨_,rfl,gh h⟩) b))
end
end HT
namespace L2
open PySem PySem.Spec PyProof.Rows
abbrev TO:=St->Hp->(Option Int->Hp->Prop)->Prop
def PO(X:Cx)(e:Option Expr)(t:TO):Prop:=
 ∀(Qh:#[7])(s:Shared)(σ:St)(H:Hp)(Q:Option Int->Hp->Prop),#[8] H s->t σ H Q ->
  ‹X.w› (evalPart e X.env) (λu s'=>∃o b,#[8] b s'/\IsPart u o/\Q o b) X.xe s
def Iu:TO:=λ_ H Q=>Q none H
instance ZtPart(Q:(Option Int->Hp->Prop))(x:V)(H1:Hp):∀i,x=.int i->Q (some i) H1:=0
def tPart(t:TE):TO:=λσ H Q=>t σ H λx b=>ZtPart Q x b
section
variable {X:Cx}{e:Expr}{te:TE}{lo hi:Option Expr}{tl th:TO}{pos p2:Pos}
def eA:PO X none Iu:=by
 exists 4,Q,I,h;rw[evalPart_none];exact gh %[none,H,I,.none|h]
def dy(h:PE X e te):PO X (some e) (tPart te):=by
 exists 4,Q,I,hw;rw[evalPart_some];apply thn (h Qh s σ H _ I hw) λu s1 ⟨x,b,c,r1,d⟩=>?_
 erw[i,1,q]at d;erw[t,1]at r1;erw[some i,b,c,.int i t,q]
def SlR(X:Cx)(r:V->Option Int->Option Int->Hp->VK->Prop):Prop:=
 ∀(Qh:#[7])(s:Shared)(σ:St)(H:Hp)(x:V)(v b c:Value)(lo hi:Option Int)(d:Addr)(Q:VK),#[8] H s->RelV x v->s.heap.IsSliceOf d b c .none->IsPart b lo->IsPart c hi->r x lo hi H Q ->
  ∃T id,typeLookup (.type T) "__getitem__"=pure (some (.builtin id))/\s.TypeIs v T/\‹X.w› (getItem v (.ref d)) (EP X Qh σ Q) X.xe s
def tSl(r:V->Option Int->Option Int->Hp->VK->Prop)(te:TE)(tl th:TO):TE:=λσ H Q=>te σ H λx b=>tl σ b λl c=>th σ c λu d=>r x l u d Q
def cR(hr:SlR X r)(he:PE X e te)(hl:PO X lo tl)(m:PO X hi th):PE X (.Subscript e (.Slice lo hi none p2) pos) (tSl r te tl th):=by
 exists 4,Q,I,h;apply Subscript_ (thn (he Qh s σ H _ I h) λv s1 ⟨x,n,o,r1,t⟩=>?_);apply wpAny_Slice (thn (hl Qh s1 σ n _ o t) λd y ⟨l,z,B,pl,C⟩=>thn (m Qh y σ z _ B C) λg c ⟨u,j,D,J,L⟩=>?_);rw[evalPart_none];apply gh ?_;let M:#[8] j { c with heap:=c.heap.push { cls:=.type "slice",data:=.fields #[d,g,.none] } }:=D.kept (t':=c.toks) λb O q=>ih _ q
 let%[T,id,hT,N|hg]:=hr Qh { c with heap:=c.heap.push { cls:=.type "slice",data:=.fields #[d,g,.none] } } σ j x v d g l u ‹c› Q M r1 (Heap.IsSliceOf.new ..) pl J L;show ‹X.w› (subscriptTail e (.Slice lo hi none p2) v (.ref ‹c›)) (EP X Qh σ Q) X.xe { c with heap:=c.heap.push { cls:=.type "slice",data:=.fields #[d,g,.none] } };exact tail_any (ops:=[.ref ‹c›,v]) N hT hg (by rfl')
def hJ(xs:List V)(lo hi:Option Int):List V:=(xs.drop (HT.sIx xs.length 0 lo)).take (HT.sIx xs.length xs.length hi-HT.sIx xs.length 0 lo)
def qY(xs:List V)(lo hi:Option Int):(hJ xs lo hi).length<=xs.length:=by
 unfold hJ;rw[lw,QL];omega
instance rSlT(K:W.Frag)(x:V)(lo:Option Int)(hi:Option Int)(H:Hp)(Q:VK):∀a xs,x=.ref a->SqT K H a xs->(¬ (HT.sIx xs.length 0 lo=0/\HT.sIx xs.length xs.length hi=xs.length))->(∀p,H p=none->Q (.ref p) (upd H p (.tup (hJ xs lo hi)))):=0
def wj:SlR X (rSlT X.K):=by
 exists 4,x,v,u,y,lo,hi,z,Q,I,j,m,pl,n,h;erw[a,xs,1,t,hw,q]at h;cases j;let%[its,r,d|g]:=I.tuple t;let c:its.toArray.size=xs.length:=by rw[ks];exact r.length.symm
 erw["tuple",_,PyProof.Rows.slot_tuple_getitem.lookup,d.typeIs,6];apply HT.getItem_tuple_cut d m pl n (by rw[c];exact hw) ?_ (by rw[c];exact g);rw[c];erw[.ref ‹s›,_,I.laid (t':=s.toks) (o:=.tup (hJ xs lo hi)) (λb B q=>ih _ q) (fz _) ?_,1,q _ (I.hok.fresh (fz _))];erw[hQ (qY xs lo hi) g,_,(r.drop (HT.sIx xs.length 0 lo)).take (HT.sIx xs.length xs.length hi-HT.sIx xs.length 0 lo),IsTup.new _ _,_,mM _ rfl,1]
instance rCatT(K:W.Frag)(x:V)(y:V)(H:Hp)(Q:VK):∀a b xs ys,x=.ref a->y=.ref b->SqT K H a xs->SqT K H b ys->xs≠[]->xs.length+ys.length<=sizeLine->(ys=[]->Q (.ref a) H)->(ys≠[]->∀p,H p=none->Q (.ref p) (upd H p (.tup (xs++ys)))):=0
def Vals.nil_iff(r:Vals xs us):us=[]↔xs=[]:=by
 cases r with
 |nil=>simp
 |cons _ _=>simp
def op_catT:OpR X (binaryOp .Add) (rCatT X.K):=by
 exists 4,x,y,v,u,Q,I,g,j,h;erw[a,b,xs,ys,1,1,m,n,r,c,t,B]at h;cases g;cases j;let%[its,r1,C|_]:=I.tuple m;let%[d,r2,p2|_]:=I.tuple n;apply HT.cat_tup C p2 (λz=>r (r1.nil_iff.mp z)) (λz=>%[.ref a,H,I,1|t (r2.nil_iff.mp z)]) (λz=>?_) (by rw[←r1.length,←r2.length];exact c);erw[.ref ‹s›,_,I.laid (t':=s.toks) (o:=.tup (xs++ys)) (λb D q=>ih _ q) (fz _) ?_,1,B (λw=>z (r2.nil_iff.mpr w)) _ (I.hok.fresh (fz _))];erw[by rw[gl];exact c,_,r1.append r2,IsTup.new _ _,_,mM _ rfl,1]
end
def ixN(n:Nat)(i:Int):Option Nat:=if 0<=i then(if i<n then some i.toNat else none)else if -(n:Int)<=i then some (i+n).toNat else none
def atI{α:Type}(xs:List α)(i:Int):Option α:=(ixN xs.length i).bind λj=>xs[j]?
def xz{j:Nat}(h:ixN n i=some j):seqIndex? i n=some j/\j<n/\-(n:Int)<=i/\i<n:=by
 unfold ixN at h
 by_cases h0:0<=i
 . rw [Qk h0]at h
   by_cases h1:i<n
   . rw[Qk h1]at h;let e:i.toNat=j:=ln h;erw[by rw[seqIndex_of h0 h1,e],3,3,h1]
   . rw[Qi h1]at h;cases h
 . rw [Qi h0]at h
   by_cases h1:-(n:Int)<=i
   . rw[Qk h1]at h;let e:(i+n).toNat=j:=ln h;erw[by rw[seqIndex_neg #[0] h1,e],3,h1,3]
   . rw[Qi h1]at h;cases h
def xI{α:Type}{xs:List α}{v:α}(h:atI xs i=some v):∃j,seqIndex? i xs.length=some j/\xs[j]?=some v/\j<xs.length/\-(xs.length:Int)<=i/\i<xs.length:=by
 unfold atI at h;cases e:ixN xs.length i with
 |none=>rw[e]at h;cases h
 |some j=>
   rw[e]at h;let%[h1,h2,h3|h4]:=xz e;erw[j,h1,h,h2,h3,h4]
def bd{α:Type}{xs:List α}{j:Nat}{v:α}(h:xs[j]?=some v):atI xs (j:Int)=some v:=by
 let b:j<xs.length:=(Qs h).1;let e:ixN xs.length (j:Int)=some j:=by
  unfold ixN;rw[Qk #[0],Qk #[0]];simp
 unfold atI;rw[e];exact h
def zp{α:Type}(xs:List α)(v:α):atI (xs++[v]) (-1)=some v:=by
 let hl:(xs++[v]).length=xs.length+1:=by simp
 let e:ixN (xs++[v]).length (-1)=some xs.length:=by
  unfold ixN;rw[hl,Qi ⋯,Qk #[0]]
  congr 1
  omega
 unfold atI;rw[e];show(xs++[v])[xs.length]?=some v
 simp
def JH(b:Expr):Prop:=∀o i,subscripted b false o i=operate [o,i] (getItem o i)
def IxR(X:Cx)(r:R2):Prop:=
 ∀(value slice:Expr)(Qh:#[7])(s:Shared)(σ:St)(H:Hp)(x y:V)(v u:Value)(Q:VK),#[8] H s->RelV x v->RelV y u->r x y H Q ->
  subscripted slice false v u=operate [v,u] (getItem v u)->‹X.w› (subscriptTail value slice v u) (EP X Qh σ Q) X.xe s
def MtR(X:Cx)(id:String)(r:V->List V->Hp->VK->Prop):Prop:=
 ∀(Qh:#[7])(s:Shared)(σ:St)(H:Hp)(x:V)(xs:List V)(v:Value)(us:List Value)(Q:VK),#[8] H s->RelV x v->Vals xs us->r x xs H Q ->
  ‹X.w› (call (.builtin id) (v::us)) (EP X Qh σ Q) X.xe s
section
variable {X:Cx}{a b:Expr}{ta tb:TE}{pos:Pos}
def IxR.or(h:IxR X r)(h':IxR X r'):IxR X (λx y H Q=>r x y H Q∨r' x y H Q):=by
 intro value slice Qh s σ H x y v u Q I c d q e;rcases q with q | q
 . exact h value slice Qh s σ H x y v u Q I c d q e
 . exact h' value slice Qh s σ H x y v u Q I c d q e
def aI(hr:IxR X r)(c:PE X a ta)(d:PE X b tb)(e:JH b):PE X (.Subscript a b pos) (tOp r ta tb):=by
 exists 4,Q,I,h;exact Subscript_ (LE c d I h λv u g x y j m n o q=>hr a b Qh g σ j x y v u Q m n o q (e _ _))
instance rIxL(K:W.Frag)(x:V)(y:V)(H:Hp)(Q:VK):∀p xs i v,x=.ref p->y=.int i->SqL K H p xs->atI xs i=some v->Q v H:=0
instance rIxT(K:W.Frag)(x:V)(y:V)(H:Hp)(Q:VK):∀p xs i v,x=.ref p->y=.int i->SqT K H p xs->atI xs i=some v->Q v H:=0
instance rIxS(x:V)(y:V)(H:Hp)(Q:VK):∀z i c,x=.str z->y=.int i->z.length<=sizeLine->atI z.cps.toList i=some c->Q (.str ⟨#[c]⟩) H:=0
def ix_list:IxR X (rIxL X.K):=by
 intro value slice Qh s σ H x y v u Q I m n h e;erw[p,xs,i,z,1,1,o,he,q]at h;cases m;erw[t,1]at n;let%[its,r,pl|B]:=I.list o;let%[j,h1,h2,h3,h4|h5]:=xI he;let%[w,g|c]:=r.get h2;let hl:=r.length;let C:=kP;let fin:EP X Qh σ Q w s:=%[z,H,I,c|q]
 by_cases h0:0<=i
 . let d:i.toNat=j:=by
    rw[seqIndex_of h0 h5]at h1;exact ln h1
   exact item_listR pl.isList h0 #[0] (by rw[d];simpa using g) fin e
 . let d:(i+(its.toArray.size:Int)).toNat=j:=by
    rw[seqIndex_neg #[0] h4]at h1;rw[ks,←hl];exact ln h1
   exact subscriptTail_builtinR (x:=w) pl.isList.typeIs slot_list_getitem.lookup
    (wpAny_getItem_list_neg (Q:=λr s'=>r=w/\EP X Qh σ Q r s') pl.isList #[0] (by rw[ks] <;> omega) #[0] (by rw[d];simpa using g) %[1|fin]) e
def ix_tup:IxR X (rIxT X.K):=by
 intro value slice Qh s σ H x y v u Q I d e h g;erw[p,xs,i,z,1,1,m,he,q]at h;cases d;erw[t,1]at e;let%[its,r,pl|o]:=I.tuple m;let%[j,h1,h2,h3,h4|h5]:=xI he;let%[w,n|c]:=r.get h2;let hl:=r.length;let B:=kP;let fin:EP X Qh σ Q w s:=%[z,H,I,c|q]
 exact subscriptTail_builtinR (x:=w) pl.typeIs slot_tuple_getitem.lookup
  (getItem_tuple (j:=j) (Q:=λr s'=>r=w/\EP X Qh σ Q r s') pl #[0] #[0] (by rw[ks,←hl];exact h1) #[n,0] %[1|fin]) g
def tX:IxR X rIxS:=by
 intro value slice Qh s σ H x y v u Q I d e h g;erw[z,i,c,1,1,m,he,q]at h;erw[t,1]at d;erw[t',1]at e;let%[j,h1,h2,h3,h4|h5]:=xI he;let hl:z.cps.toList.length=z.length:=by simp [Str.length]
 rw [hl]at h1 h4 h5;let n:=kP;exact tail_any (QV s z t) slot_str_getitem.lookup (getItem_str (c:=c) (by
  let e1:decide (i < -(2 ^ 63:Int))=false:=ll #[0];let e2:decide (i≥2 ^ 63)=false:=ll #[0];rw[e1,e2,Bool.or_false]) (by rw[h1];simpa using h2) %[.str %[|#[c]],H,I.tok _,%[|0]|q]) g
def rIx(K:W.Frag):R2:=λx y H Q=>rIxL K x y H Q∨rIxT K x y H Q∨rIxS x y H Q
def GY:IxR X (rIx X.K):=ix_list.or (ix_tup.or tX)
def AD(its:List Value)(n j:Nat)(u:Value):Obj.mapSeq (·.setIfInBounds j u) { cls:=.type "list",data:=.seq its.toArray n }={ cls:=.type "list",data:=.seq (its.set j u).toArray n }:=by
 simp [Obj.mapSeq]
def Inv.lst{Qh:#[7]}{σ:St}{H:Hp}{s:Shared}{p:Addr}{xs:List V}(I:#[8] H s)(h:H p=some (.lst xs)):
 ∃(its:List Value) (n:Nat),Vals xs its/\s.heap.get? p=some { cls:=.type "list",data:=.seq its.toArray n }/\xs.length<=sizeLine:=by
 let%[z,its,n,r|e]:=I.hok p _ h;erw[its,n,r,e,z]
def Inv.lstUpd{σ:St}{p:Addr}{xs:List V}{its its':List Value}{n c:Nat}{f:Obj->Obj}(I:#[8] H s)(h:H p=some (.lst xs))
 (d:s.heap.get? p=some { cls:=.type "list",data:=.seq its.toArray n })(hf:f { cls:=.type "list",data:=.seq its.toArray n }={ cls:=.type "list",data:=.seq its'.toArray c })(r:Vals ys its')(g:ys.length<=sizeLine)(t:Nat):
 #[8] (upd H p (.lst ys)) { s with heap:=s.heap.update p f,toks:=t }:=by
 let e:(s.heap.update p f).get? p=some { cls:=.type "list",data:=.seq its'.toArray c }:=by
  rw[Heap.get?_update_self f d (by rw[hf] <;> rfl),hf]
 apply I.write (x:=p) (e:=p) (by rw[h];trivial) (.inl rfl) (λb u j q=>(Heap.get?_update_other _ _ (Ne.symm j)).trans q) %[_|e] ?_;erw[g,its',c,r,e]
instance rSetL(o:V)(i:V)(v:V)(H:Hp)(Q:(Hp->Prop)):∀p xs k j,o=.ref p->i=.int k->H p=some (.lst xs)->ixN xs.length k=some j->Q (upd H p (.lst (xs.set j v))):=0
def li:PSet X rSetL:=by
 exists 4,o,i,v,B,C,u,Q,I,ro,m,x,h;erw[p,xs,k,j,1,1,e,y,q]at h;cases ro;erw[t,1]at m;let%[its,n,r,c|z]:=I.lst e;let%[h1,h2,h3|h4]:=xz y;let hl:=r.length;let D:=kP;let g:#[8] (upd H p (.lst (xs.set j v))) { s with heap:=s.heap.update p (Obj.mapSeq (·.setIfInBounds j u)) }:=
  I.lstUpd e c (AD its n j u) (r.set x j) (by rw[RI];exact z) s.toks
 by_cases h0:0<=k
 . let d:k.toNat=j:=by
    rw[seqIndex_of h0 h4]at h1;exact ln h1
   exact PySem.W.ki_setAt c h0 #[0] (by rw[ks,←hl];exact h4) (by rw[d];erw[_,g,q])
 . let d:(k+(its.toArray.size:Int)).toNat=j:=by
    rw[seqIndex_neg #[0] h3]at h1;rw[ks,←hl];exact ln h1
   exact PySem.W.ki_setBack c #[0] (by rw[ks,←hl];exact h3) #[0] (by rw[d];erw[_,g,q])
def wg(lo c:Option Int)(n:Nat):(sliceBounds lo c none n).1=((HT.sIx n 0 lo:Nat):Int)/\(sliceBounds lo c none n).2.1=((HT.sIx n n c:Nat):Int)/\(sliceBounds lo c none n).2.2=1:=by
 erw[6,6,1]
 . cases lo with
   |none=>simp [sliceBounds,HT.sIx]
   |some i=>
     simp only[sliceBounds,HT.sIx,Option.getD_none,show(1:Int)>0 by decide,if_true]
     by_cases h:i<0
     . simp only[h,if_true] <;> omega
     . simp only[h,if_false] <;> omega
 . cases c with
   |none=>simp [sliceBounds,HT.sIx]
   |some i=>
     simp only[sliceBounds,HT.sIx,Option.getD_none,show(1:Int)>0 by decide,if_true]
     by_cases h:i<0
     . simp only[h,if_true] <;> omega
     . simp only[h,if_false] <;> omega
def ut(its:List Value)(lo c:Option Int):slicePick its.toArray lo c none=((its.drop (HT.sIx its.length 0 lo)).take (HT.sIx its.length its.length c-HT.sIx its.length 0 lo)).toArray:=by
 let%[h1,h2|h3]:=wg lo c its.toArray.size;unfold slicePick;rw[h1,h2,h3];simp only[sliceRange_one,pick_run,ks] <;> rfl
instance rSlL(K:W.Frag)(x:V)(lo:Option Int)(hi:Option Int)(H:Hp)(Q:VK):∀a xs,x=.ref a->SqL K H a xs->(∀p,H p=none->Q (.ref p) (upd H p (.lst (hJ xs lo hi)))):=0
def wk:SlR X (rSlL X.K):=by
 exists 4,x,v,u,y,lo,d,z,Q,I,g,j,pl,m,h;erw[a,xs,1,n,q]at h;cases g;let%[its,r,e|t]:=I.list n;let c:=r.length;erw["list",_,slot_list_getitem.lookup,e.isList.typeIs,6];apply wpAny_getItem_list_slice e.isList j pl m .none #[2] ?_ (by rw[ks] <;> omega);rw[ut,←c];erw[.ref ‹s›,_,I.laid (t':=s.toks) (o:=.lst (hJ xs lo d)) (λb B q=>ih _ q) (fz _) ?_,1,q _ (I.hok.fresh (fz _))];erw[hQ (qY xs lo d) t,_,(0),(r.drop (HT.sIx xs.length 0 lo)).take (HT.sIx xs.length xs.length d-HT.sIx xs.length 0 lo),mM _ rfl]
def kX:V->Bool
 |.non=>true
 |.bl _=>true
 |.int _=>true
 |.str _=>true
 |_=>false
def eqV:V->V->Bool
 |.non,.non=>true
 |.bl a,.bl b=>a==b
 |.bl a,.int b=>(if a then 1 else 0)==b
 |.int a,.bl b=>a==(if b then 1 else 0)
 |.int a,.int b=>a==b
 |.str a,.str b=>a==b
 |_,_=>false
def Lq{A:Around}{s:Shared}(d:RelV y u)(c:RelV x v)(g:kX y=true)(e:kX x=true):SeqAt.EqAt A s u v (eqV y x):=by
 cases y with
 |non=>
   cases d;cases x with
   |non=>cases c;exact SeqAt.EqAt.same _
   |bl b=>cases c;exact SeqAt.EqAt.none_bool b
   |int b=>erw[t,1]at c;exact SeqAt.EqAt.none_int b t
   |str b=>erw[t,1]at c;exact SeqAt.EqAt.none_str b t
   |_=>exact absurd (show false=true from e) o8
 |bl a=>
   cases d;cases x with
   |non=>cases c;exact SeqAt.EqAt.bool_none a
   |bl b=>cases c;exact SeqAt.EqAt.bool_bool a b
   |int b=>erw[t,1]at c;exact SeqAt.EqAt.bool_int a b t
   |str b=>erw[t,1]at c;exact SeqAt.EqAt.bool_str a b t
   |_=>exact absurd (show false=true from e) o8
 |int a=>
   erw[t',1]at d;cases x with
   |non=>cases c;exact SeqAt.EqAt.int_none a t'
   |bl b=>cases c;exact SeqAt.EqAt.int_bool a t' b
   |int b=>erw[t,1]at c;exact SeqAt.EqAt.int_int a t' b t
   |str b=>erw[t,1]at c;exact SeqAt.EqAt.int_str a t' b t
   |_=>exact absurd (show false=true from e) o8
 |str a=>
   erw[t',1]at d;cases x with
   |non=>cases c;exact SeqAt.EqAt.str_none a t'
   |bl b=>cases c;exact SeqAt.EqAt.str_bool a t' b
   |int b=>erw[t,1]at c;exact SeqAt.EqAt.str_int a t' b t
   |str b=>erw[t,1]at c;exact SeqAt.EqAt.str_str a t' b t
   |_=>exact absurd (show false=true from e) o8
 |_=>exact absurd (show false=true from g) o8
def eqU(x:V)(u:Value):Bool:=match u with
 |.none=>eqV .non x
 |.bool b=>eqV (.bl b) x
 |.int i _=>eqV (.int i) x
 |.str z _=>eqV (.str z) x
 |_=>false
def AU(r:RelV y u)(f:kX y=true):eqU x u=eqV y x:=by
 cases y with
 |non=>cases r;rfl
 |bl b=>cases r;rfl
 |int i=>erw[t,1]at r;rfl
 |str z=>erw[t,1]at r;rfl
 |_=>exact absurd (show false=true from f) o8
def pK:∀{xs:List V}{us:List Value},Vals xs us->xs.all kX=true->us.any (eqU x)=xs.any λy=>eqV y x
 |_,_,.nil,_=>rfl
 |y::xs,u::us,.cons r t,f=>by
   rw[Q3,QD]at f;rw[Q4,Q4,AU r f.1,pK t f.2]
def ip{A:Around}{s:Shared}(d:RelV x v)(e:kX x=true):∀{xs:List V}{us:List Value},Vals xs us->xs.all kX=true->∀u∈us,SeqAt.EqAt A s u v (eqU x u)
 |_,_,.nil,_=>λu c=>by cases c
 |y::xs,u::us,.cons r t,f=>λg c=>by
   rw[Q3,QD]at f;rcases Qq c with rfl | c
   . rw[AU r f.1];exact Lq r d f.1 e
   . exact ip d e t f.2 g c
def inV(x:V)(xs:List V):Bool:=xs.any λy=>eqV y x
instance rIn(K:W.Frag)(neg:Bool)(x:V)(y:V)(H:Hp)(Q:VK):∀p xs,y=.ref p->SqL K H p xs∨SqT K H p xs->kX x=true->xs.all kX=true->Q (.bl (if neg then !inV x xs else inV x xs)) H:=0
def eP:OpR X (compareOp .In) (rIn X.K false):=by
 exists 4,x,y,v,u,Q,I,d,g,h;erw[p,xs,1,c,e,fs,q]at h;cases g;rcases c with c | c
 . let%[its,r,pl|j]:=I.list c;apply SeqAt.in_listAt (eqU x) pl.isList (λw hw=>ip d e r fs w #[hw,0]) %[.bl _,H,I,1|6];rw[show its.toArray.any (eqU x)=its.any (eqU x) by simp,pK r fs];exact q
 . let%[its,r,pl|j]:=I.tuple c;apply SeqAt.in_tupleAt (eqU x) pl (λw hw=>ip d e r fs w #[hw,0]) %[.bl _,H,I,1|6];rw[show its.toArray.any (eqU x)=its.any (eqU x) by simp,pK r fs];exact q
def oX:OpR X (compareOp .NotIn) (rIn X.K true):=by
 exists 4,x,y,v,u,Q,I,d,g,h;erw[p,xs,1,c,e,fs,q]at h;cases g;rcases c with c | c
 . let%[its,r,pl|j]:=I.list c;apply SeqAt.notIn_listAt (eqU x) pl.isList (λw hw=>ip d e r fs w #[hw,0]) %[.bl _,H,I,1|6];rw[show its.toArray.any (eqU x)=its.any (eqU x) by simp,pK r fs];exact q
 . let%[its,r,pl|j]:=I.tuple c;apply SeqAt.notIn_tupleAt (eqU x) pl (λw hw=>ip d e r fs w #[hw,0]) %[.bl _,H,I,1|6];rw[show its.toArray.any (eqU x)=its.any (eqU x) by simp,pK r fs];exact q
def wQ:OpR X (compareOp .NotIn) (λx y H Q=>∃i j,x=.str i/\y=.str j/\Q (.bl (!(!(Builtin.Str.occurrences j i 0 j.length 1).isEmpty))) H):=by
 exists 4,x,y,v,u,Q,I,c,d,h;erw[i,j,1,1,q]at h;erw[t,1]at c;erw[t',1]at d;exact notIn_str %[.bl _,H,I,1|q]
instance rLen(K:W.Frag)(xs:List V)(H:Hp)(Q:VK):∀p ys,xs=[.ref p]->SqL K H p ys∨SqT K H p ys->Q (.int ys.length) H:=0
def aD:iE X (.builtin "len") (rLen X.K):=by
 exists 4,xs,us,Q,I,r,h;erw[p,ys,1,d,q]at h;let%[u,1|e]:=jQ r;cases e;let j:=kP;rcases d with d | d
 . let%[its,r',pl|g]:=I.list d;let c:=r'.length;exact Calls.call_len_list pl.isList (by simp only[ks] <;> omega) %[.int ys.length,H,I.tok _,%[s.toks+1|by rw[ks,c]]|q]
 . let%[its,r',pl|g]:=I.tuple d;let c:=r'.length;exact len_tuple pl (by simp only[ks] <;> omega) %[.int ys.length,H,I.tok _,%[s.toks+1|by rw[ks,c]]|q]
def cH:iE X (.builtin "len") (λxs H Q=>∃z,xs=[.str z]/\z.length<=sizeLine/\Q (.int z.length) H):=by
 exists 4,xs,us,Q,I,r,h;erw[z,1,c,q]at h;let%[u,1,t|1]:=jQ r;let d:=kP;exact len_str #[0] %[.int z.length,H,I.tok _,%[|0]|q]
instance rListOf(K:W.Frag)(xs:List V)(H:Hp)(Q:VK):∀p ys,xs=[.ref p]->SqL K H p ys∨SqT K H p ys->(∀l,H l=none->Q (.ref l) (upd H l (.lst ys))):=0
def iM:iE X (.type "list") (rListOf X.K):=by
 exists 4,xs,us,Q,I,r,h;erw[p,ys,1,d,q]at h;let%[u,1|v]:=jQ r;cases v;let fin:∀(its:List Value),Vals ys its->ys.length<=sizeLine->∀(h':Heap)(c:Nat),(∀b t,s.heap.get? b=some t->h'.get? b=some t) ->
  h'.get? ‹s›=some { cls:=.type "list",dict:=none,data:=.seq its.toArray c,slots:=#[] }->EP X Qh σ Q (.ref ‹s›) { s with heap:=h' }:=λits r' g h' c kp e=>
  %[.ref ‹s›,_,I.laid (t':=s.toks) kp (fz _) (show ObjOk X.prog X.w _ h' _ (.lst ys)from%[g,its,c,r'|e]),1|q _ (I.hok.fresh (fz _))]
 rcases d with d | d
 . let%[its,r',pl|g]:=I.list d;let j:=r'.length;erw[o,m,hc,n,hd]at pl.isList;exact call_list_seq p (.inl rfl) m hc hd (λh' c kp e=>fin its r' g h' c kp e) (by simp only[ks] <;> omega)
 . let%[its,r',pl|g]:=I.tuple d;let j:=r'.length;erw[o,m,hc,n,hd]at pl;exact call_list_seq p (.inr rfl) m hc hd (λh' c kp e=>fin its r' g h' c kp e) (by simp only[ks] <;> omega)
instance rTupOf(K:W.Frag)(xs:List V)(H:Hp)(Q:VK):∀p ys,xs=[.ref p]->(SqL K H p ys/\∀l,H l=none->Q (.ref l) (upd H l (.tup ys)))∨(SqT K H p ys/\Q (.ref p) H):=0
def aY:iE X (.type "tuple") (rTupOf X.K):=by
 exists 4,xs,us,Q,I,r,h;erw[p,ys,1,h]at h;let%[u,1|m]:=jQ r;cases m;rcases h with⟨c,q⟩ | ⟨c,q⟩
 . let%[its,r',pl|d]:=I.list c;let g:=r'.length;apply call_tuple_list pl.isList (λh' kp=>?_) (by simp only[ks] <;> omega);let j:#[8] H { s with heap:=h' }:=I.kept (t':=s.toks) kp;let n:#[8] (upd H h'.objs.size (.tup ys)) { s with heap:=h'.push { cls:=.type "tuple",data:=.seq its.toArray } }:=
    j.laid (t':=s.toks) (λb o e=>ih _ e) (fz _) (show ObjOk X.prog X.w _ _ _ (.tup ys)from%[d,its,r',IsTup.new _ _,_,mM _ rfl|1])
   erw[.ref h'.objs.size,_,n,1,q _ (j.hok.fresh (fz _))]
 . let%[its,r',pl|d]:=I.tuple c;exact call_tuple_same pl %[.ref p,H,I,1|q]
def tyV(K:W.Frag)(T:String)(x:V)(H:Hp):Prop:=match x with
 |.str _=>T="str"
 |.int _=>T="int"
 | .ref p=>(T="list"/\∃xs,SqL K H p xs)∨(T="tuple"/\∃o,K.lookup p=some o/\o.cls=.type "tuple"/\o.dict=none)∨
  (T="dict"/\((∃c,H p=some (.dK c))∨∃c,H p=some (.dT c)))∨(T="set"/\∃S n,H p=some (.set S n))
 |_=>False
def Kh{σ:St}(I:#[8] H s)(r:RelV x v)(ty:tyV X.K T x H):
 s.TypeIs v T/\∀a,v=.ref a->∃g,s.heap.get? a=some g/\g.dict=none:=by
 cases x with
 |str z=>
   erw[t,1]at r;cases(show T="str" from ty);erw[QV s z t,λ_ e=>nomatch e]
 |int i=>
   erw[t,1]at r;cases(show T="int" from ty);erw[typeIs_int s i t,λ_ e=>nomatch e]
 |ref p=>
   cases r;rcases ty with⟨rfl,xs,j⟩ | ⟨rfl,o,d,hc,hd⟩ | ⟨rfl,d⟩ | ⟨rfl,S,n,d⟩
   . let%[its,_,pl|_]:=I.list j;erw[pl.isList.typeIs,λa e=>?_];cases e;erw[o,n,e,c,hd,_]at pl;erw[o,e,hd]
   . erw[%[o,I.kIn p o d|hc],λa e=>?_];cases e;erw[o,I.kIn _ o d,hd]
   . let z:∃o,s.heap.get? p=some o/\o.ExactDict:=by
      rcases d with⟨m,d⟩ | ⟨m,d⟩
      . let%[_,_,_,_,o,_,_,e,ex|_]:=I.hok p _ d;erw[o,e,ex]
      . let%[_,_,_,_,o,_,_,e,ex|_]:=I.hok p _ d;erw[o,e,ex]
     erw[o,e,ex]at z;erw[%[o,e|ex.1],λa e2=>?_];cases e2;erw[o,e,ex.2.1]
   . let%[o,_,_,_,e,ex|_]:=I.hok p _ d;erw[%[o,e|ex.1],λa e2=>?_];cases e2;erw[o,e,ex.2.1]
 |_=>exact False.elim ty
instance ZtBM(K:W.Frag)(T:String)(r:V->List V->Hp->VK->Prop)(t:TA)(σ:St)(Q:VK)(x:V)(H1:Hp):tyV K T x H1->(t σ H1 λxs H2=>r x xs H2 Q):=0
def tBM(K:W.Frag)(T:String)(r:V->List V->Hp->VK->Prop)(to:TE)(t:TA):TE:=λσ H Q=>to σ H λx c=>ZtBM K T r t σ Q x c
variable {o e:Expr}{es:List Expr}{to:TE}{t:TA}{name:Str}{Qm Qo:Pos}{T id:String}{r:V->List V->Hp->VK->Prop}
def bZ(q:PlainAttrs T)(slot:Slot T name id)(m:typeOf (.builtin id)=pure (.type "method_descriptor"))(u:MtR X id r)(y:PE X o to)(z:PA X (e::es) t)
 (d:attributeBase o name X.env (eval o X.env)=eval o X.env:=by rfl)
 (j:((backTo Qo (starEach (e::es) X.env)).all (λx=>!x.1)&&(backToKw Qo (keywordEach [] X.env)).all (λx=>x.1.isSome)
  &&decide ((e::es).length+([]:List Keyword).length+(if([]:List Keyword).isEmpty then 0 else 1)<30))=true:=by rfl)
 (g:(Qm.endLine==Qo.line)=true:=by rfl) (B:starEach (e::es) X.env=(false,eval e X.env)::starEach es X.env:=by rfl) (c:(backTo Qo (starEach es X.env)).any (·.1)=false:=by rfl) :
 PE X (.Call (.Attribute o name Qm) (e::es) [] Qo) (tBM X.K T r to t):=by
 exists 4,Q,I,h;apply wpAny_Call_method_late d j g rfl (thn (y Qh s σ H _ I h) λv s1 ⟨x,C,n,r1,ty,D⟩=>?_);let%[h1|h2]:=Kh n r1 ty;erw[T,id,q,slot,m,h1,h2,6];let hA:=z Qo Qh s1 σ C _ n D;rw[B]at hA ⊢;apply Ra (by show(false||(backTo Qo (starEach es X.env)).any (·.1))=false;rw[c] <;> rfl) (Re ?_);exact thn hA λus J ⟨vs,L,M,r2,N⟩=>u Qh J σ L x vs v us Q M r1 r2 N
end
def MtM(X:Cx)(id:String)(r:V->List V->Hp->VK->Prop):Prop:=
 ∀(Qh:#[7])(s:Shared)(σ:St)(H:Hp)(x:V)(xs:List V)(v:Value)(us:List Value)(Q:VK),#[8] H s->RelV x v->Vals xs us->r x xs H Q ->
  ‹X.w› (call (.builtin id) (v::us)) (EP X Qh σ Q) X.xe s
def Vals.one:∀{x:V}{us:List Value},Vals [x] us->∃u,us=[u]/\RelV x u
 |_,_,.cons r .nil=>%[0|r]
def Vals.rep(h:Vals xs us):∀k:Nat,Vals (List.replicate k xs).flatten (List.replicate k us).flatten
 |0=>.nil
 |k+1=>by
   rw[Qy,Qy,Q0,Q0];exact Vals.append h (Vals.rep h k)
def vH(its:List Value):∀(k:Nat)(b:List Value),
 List.foldl (λc d=>c++d) b.toArray (List.replicate k its.toArray)=(b++(List.replicate k its).flatten).toArray
 |0,b=>by simp
 |k+1,b=>by
   let e:b.toArray++its.toArray=(b++its).toArray:=by simp
   let e2:(b++its)++(List.replicate k its).flatten=b++(List.replicate (k+1) its).flatten:=by
    rw[Qy,Q0,RE]
   rw[←e2,←vH its k (b++its),←e,Qy,List.foldl_cons]
section
variable {X:Cx}{Qh:#[7]}{σ:St}{H:Hp}{s:Shared}{l b:Addr}{xs ys zs:List V}
def Inv.lset{its its':List Value}{n:Nat}{f:Array Value->Array Value}{t':Nat}(I:#[8] H s)(hH:H l=some (.lst xs))
 (e:s.heap.get? l=some { cls:=.type "list",data:=.seq its.toArray n })(hf:f its.toArray=its'.toArray)(c:Vals ys its')(d:ys.length<=sizeLine):
 #[8] (upd H l (.lst ys)) { s with heap:=s.heap.update l (Obj.mapSeq f),toks:=t' }:=by
 let q:=PySem.IsL.update e f;rw[hf]at q;apply I.write (x:=l) (e:=l) (by rw[hH];exact trivial) (.inl rfl) (λm u g j=>(Heap.get?_update_other s.heap (Obj.mapSeq f) (Ne.symm g)).trans j) %[_|q] ?_;erw[d,its',_,c,q]
def Inv.lnew{t':Nat}(I:#[8] H s)(c:Vals ys its)(d:ys.length<=sizeLine):
 #[8] (upd H ‹s› (.lst ys)) { s with heap:=s.heap.push { cls:=.type "list",data:=.seq its.toArray },toks:=t' }:=
 I.laid (λ_ _ q=>ih _ q) (fz _) %[d,its,(0),c|mM _ rfl]
def Inv.fresh(I:#[8] H s):H ‹s›=none:=I.hok.fresh (fz _)
def Inv.lstM(I:#[8] H s)(hH:H l=some (.lst xs)):xs.length<=sizeLine/\∃(its:List Value) (n:Nat),Vals xs its/\xs.length=its.length/\s.heap.get? l=some { cls:=.type "list",data:=.seq its.toArray n }:=by
 let%[z,its,n,r|e]:=I.hok l _ hH;erw[z,its,n,r,r.length,e]
def yB{n:Nat}(h:n<=sizeLine):Builtin.List.listTooLong n=false:=by
 unfold Builtin.List.listTooLong;exact ll #[0]
end
section
variable {X:Cx}
instance rAppend(x:V)(vs:List V)(H:Hp)(Q:VK):∀l xs y,x=.ref l->vs=[y]->H l=some (.lst xs)->xs.length<sizeLine->Q .non (upd H l (.lst (xs++[y]))):=0
def ca:MtM X "list.append" rAppend:=by
 exists 4,x,vs,v,us,Q,I,b,c,h;erw[l,xs,y,1,1,hH,g,q]at h;cases b;erw[u,1,d]at c.one;let%[z,its,n,r,hl|e]:=I.lstM hH;apply J4 F.slot_list_append %[_,e|1] F.entry_list_append (F.args_list_append_2 _ _) (PySem.list_append l its.toArray n u (by rw[ks];omega)) ⟨e,?_⟩;erw[.non,_,I.lset (its':=its++[u]) hH e #[2] (r.append (.cons d .nil)) ?_,1,q];rw[gl,q0];omega
instance rExtend(x:V)(vs:List V)(H:Hp)(Q:VK):∀l b xs zs,x=.ref l->vs=[.ref b]->H l=some (.lst xs)->H b=some (.lst zs)->xs.length+zs.length<=sizeLine->Q .non (upd H l (.lst (xs++zs))):=0
def Dp:MtM X "list.extend" rExtend:=by
 exists 4,x,vs,v,us,Q,I,g,j,h;erw[l,b,xs,zs,1,1,hH,m,B,q]at h;cases g;erw[u,1,o]at j.one;cases o;let%[z,its,n,r,hl|e]:=I.lstM hH;let%[z2,c,t,r2,y|e2]:=I.lstM m;let hsz:its.toArray.size+c.toArray.size<=sizeLine:=by rw[ks,ks];omega
 let d:¬ (!its.toArray.isEmpty&&Builtin.List.listTooLong (its.toArray.size+c.toArray.size))=true:=by
  rw[yB hsz,RN];exact o8
 apply J4 F.slot_list_extend %[_,e|1] F.entry_list_extend (F.args_list_extend_2 _ _)
  (AutoSeq1.list_extend_list_list_0 l its.toArray n b c.toArray t d (by rw[ks];omega) #[0]) %[e,e2|6]
 erw[.non,_,I.lset (its':=its++c) hH e #[2] (r.append r2) ?_,1,q];rw[gl];omega
instance rCat(x:V)(y:V)(H:Hp)(Q:VK):∀l b xs zs,x=.ref l->y=.ref b->H l=some (.lst xs)->H b=some (.lst zs)->xs.length+zs.length<=sizeLine->(∀p,H p=none->Q (.ref p) (upd H p (.lst (xs++zs)))):=0
def kM:OpR X (binaryOp .Add) rCat:=by
 exists 4,x,y,v,u,Q,I,d,g,h;erw[l,b,xs,zs,1,1,hH,j,t,q]at h;cases d;cases g;let%[z,its,n,r,hl|e]:=I.lstM hH;let%[z2,c,B,r2,m|e2]:=I.lstM j;apply PySem.P.add_list e e2 ?_ (by rw[ks,ks];omega);let o:its.toArray++c.toArray=(its++c).toArray:=by simp
 rw[o];erw[.ref _,_,I.lnew (t':=s.toks) (r.append r2) (by rw[gl];omega),1,q _ I.fresh]
instance rRep(x:V)(y:V)(H:Hp)(Q:VK):∀l k xs,x=.ref l->y=.int k->H l=some (.lst xs)->-(2 ^ 63)<=k->k<2 ^ 63->xs.length*k.toNat<=sizeLine->(∀p,H p=none->Q (.ref p) (upd H p (.lst (List.replicate k.toNat xs).flatten))):=0
def Jm{α:Type}(xs:List α)(k:Nat):(List.replicate k xs).flatten.length=k*xs.length:=by
 induction k with
 |zero=>simp
 |succ k b=>rw[Qy,Q0,gl,b,Nat.succ_mul,Nat.add_comm]
def KD:OpR X (binaryOp .Mult) rRep:=by
 exists 4,x,y,v,u,Q,I,D,J,h;erw[l,k,xs,1,1,hH,h1,h2,C,q]at h;cases D;erw[t,1]at J;let%[z,its,n,r,hl|e]:=I.lstM hH;let c:its.toArray.size*k.toNat<=sizeLine:=by rw[ks,←hl];exact C
 let d:¬ its.toArray.size*k.toNat>(2 ^ 63-1) / 8:=by
  have:(sizeLine:Nat)<=(2 ^ 63-1) / 8:=by decide
  omega
 let g:¬ (!Builtin.List.listFitsIndex k)=true:=by
  rw[fitsIndex_both h1 h2];exact o8
 let b:¬ Builtin.List.listTooLong (its.toArray.size*k.toNat)=true:=by
  rw[yB c];exact o8
 let j:List.foldl (λo B=>o++B) #[] (List.replicate (if its.toArray.isEmpty=true then 0 else k.toNat) its.toArray)=(List.replicate k.toNat its).flatten.toArray:=by
  let f0:∀m:Nat,List.foldl (λo B=>o++B) #[] (List.replicate m its.toArray)=(List.replicate m its).flatten.toArray:=λm=>by
   have:=vH its m []
   rw[List.nil_append]at this;exact this
  rw[f0];cases its with
  |nil=>simp
  |cons a r'=>rw[Qi #[2]]
 apply wpAny_binaryOp_repeat_ref (T:="list") (U:="int") ⋯ %[_,e|1] (λs'=>typeIs_int s' k t) noFill_list_mul F.fills_int_mul F.slot_int_rmul repeat_list F.slot_int_index.lookup
  (J4 F.slot_int_rmul (typeIs_int s k t) F.entry_int_rmul (F.args_int_rmul_2 _ _) (int___rmul___int_list k t l its.toArray n)
   %[e,1,%[_,e|1]|J4 F.slot_list_mul ⟨_,e,rfl⟩ F.entry_list_mul (F.args_list_mul_2 _ _) (AutoListH.list___mul___list_int_3 l its.toArray n k t g d b) ⟨e,?_⟩])
 rw[j];erw[.ref _,_,I.lnew (t':=s.toks) (r.rep k.toNat) (by rw[Jm,Nat.mul_comm];exact C),1,q _ I.fresh]
end
end L2
namespace Att
open PySem PySem.W PySem.Calls PyProof.Rows
def rF{P:Params}{h:Heap}:∀(ns:List Int)(vs:List Value),WellAll P h vs (ns.map WData.int)->IntsAre vs ns:=by
 intro ns
 induction ns with
 |nil=>
   intro vs w;rw[List.map_nil]at w;cases w;exact .nil
 |cons n ns c=>
   intro vs w;rw[nn]at w;cases w with
   |cons a b=>
     cases a;exact .cons _ _ (c _ b)
def Cp{l:OpenLaw}{n:Nat}(o:l.most=some n){P:Params}{h:Heap}{args:List WData}{b:List Value}
 (c:l.row.toRowW.claim.pre args=true)(j:WellAll P h b args):
 ∃a vs ns,b=[Value.ref a]/\args=[WData.list (ns.map WData.int)]/\h.get? a=some { cls:=.type "list",data:=.seq vs.toArray }/\IntsAre vs ns/\ns.length<=n:=by
 let m:WShape.hasAll [] args [.list .int]=true:=(pre_splitW c).1;let hc:l.pre.holds [] { args:=args }=true:=(pre_splitW c).2;let%[d,r,1,h1|h2]:=hasAllW_cons m;obtain rfl:=hasAllW_nil h2;let%[xs,1|h3]:=hasW_list h1;let%[ns|1]:=items_int h3;let e:ns.length<=n:=by
  unfold OpenLaw.pre at hc;let h4:(WTm.not (.lt (.lit (.int (n:Int))) (.len (.arg 0)))).holds [] { args:=[.list (ns.map .int)] }=true:=by
   let h4:=(holds_andW hc).1;rw[o]at h4;exact h4
  let h5:=condW_of h4 (w_not (w_lt w_lit (w_len_list (w_arg rfl))));rw[fx]at h5;apply Nat.le_of_not_lt λq=>?_
  let t:(n:Int)<((ns.length:Nat):Int):=#[0]
  first
   | (rw[j2 t]at h5;exact absurd h5 ⋯)
   | (simp at h5;omega)
 cases j with
 |cons w1 w2=>
   cases w2;cases w1 with
   |list u g=>erw[_,_,ns,1,1,u,rF ns _ g,e]
def CJ(l:OpenLaw)(args:List WData):l.row.toRowW.claim.post args (.bool true) args=true:=
 postW_of (r:=l.row.toRowW) (X:=(true==true))
  (show WShape.has [] (.bool true) .bool=true by first | rfl | decide | simp [WShape.has,WShape.arms,WShape.armsAll])
  (show(WTm.eq .res (.lit (.bool true))).value [] { args:=args,res:=some (.bool true),after:=args }=some (.bool (true==true))from w_eq_bool (w_res rfl) w_lit) rfl
def attach_call{l:OpenLaw}{n:Nat}{q:Program}{loose:List Str}{z:(#[9])->Heap->Prop}{B:World->Heap->Prop}{d:DefRec}
 (J:l.most=some n)(t:d.params.defaults=[])
 (call:∀(w:World)(s₀ b:Shared)(mg u:#[9])(fa:Addr)(o:Obj)(v cd c:Value)(a:Addr)(vs:List Value)(ns:List Int),
  Ground q loose [] z w s₀ mg u b.heap->B w b.heap ->
  b.heap.get? fa=some o->o.data=.func (docDef d.name d.params d.body d.scope v cd c)->b.heap.CodeRec cd d.name->mg d.name=some (.ref fa) ->
  b.heap.get? a=some { cls:=.type "list",data:=.seq vs.toArray }->IntsAre vs ns->ns.length<=n->b.gens=#[] ->
  codeAny (model l.prog w) callerA (.call (.ref fa) %[[.ref a]|[]]) (λr s'=>r=.ok (.ret (.bool true))/\OldK b.heap s'.heap/\s'.os=b.os/\AllBare s'.gens) b) :
 WalkO q loose z B l.row.toRowW d [] (λf vs=>PySem.call f vs):=by
 intro w s₀ b mg u G Y fa o v cd c L kV M hd x hD hmg hg args C as g D N y O;obtain rfl:L=.none:=Dflts.none hD t;obtain rfl:kV=.none:=Dflts.noKw hD;let%[a,vs,ns,1,1,j,e|m]:=Cp J g y;apply enter_call (Qu (call w s₀ b mg u fa o v cd c a vs ns G Y M (fd_plain hd) x hmg j e m hg) λr s' U=>?_);erw[1,h2,h3,h4]at U;erw[.inl %[.bool true,.bool true,[],1,λ_=>rfl,.bool true,CJ l _|λ_=>%[List.Pairwise.nil|λ_ hm=>(nomatch hm)]],h2,h3,h4]
end Att
namespace L2
open PySem PySem.Spec PyProof.Rows
def uV:∀{vs:List Value}{ns:List Int},IntsAre vs ns->Vals (ns.map V.int) vs
 |_,_,.nil=>.nil
 |_,_,.cons n t h=>.cons %[t|1] (uV h)
def LI(H:Hp):Prop:=∀b,H b=none∨∃o xs,H b=some (.frz o (.lst xs))
def Gz{K:W.Frag}{mg Y:#[9]}{a:Addr}{x:Str}{c:Shared}{vs:List Value}{ns:List Int}
 (KX:K.In c.heap)(B:c.heap.Ns mainGlobals mg)(g:c.heap.Ns builtinsNs Y)(ab:∀x:Str,x≠"__name__" -> Y x=bootBuiltins x)(C:c.heap.NoLimit)(hg:c.gens=#[])
 (U:c.heap.get? a=some { cls:=.type "list",data:=.seq vs.toArray })(hi:IntsAre vs ns)(hl:ns.length<=sizeLine)(hr:Room k callerA)
 (F:∀base:Heap,K.In base->base.Ns mainGlobals mg->FnOk P w K mg base CX k fa fd [x] sp)(y:∀(s:Shared)(u:Value),BindsTo s fd %[[u]|[]] [(x,u)])
 (ah:∀H:Hp,LI H->SqL K H a (ns.map V.int)->sp [.ref a] H (λv _=>v=.bl true) λ_ _ _=>False)
 (an:∀H e s',CX [] H c (λ_ _ _=>False) e s'->False):
 codeAny (model P w) callerA (.call (.ref fa) %[[.ref a]|[]]) (λr s'=>r=.ok (.ret (.bool true))/\OldK c.heap s'.heap/\s'.os=c.os/\AllBare s'.gens) c:=by
 let rv:=uV hi;let D:=hi.length;let t:∀H:Hp,LI H->SqL K H a (ns.map V.int)->HOk P w H c.heap->(∀b,H b≠none->b=a)->(H a≠none->K.lookup a=none) ->
  codeAny (model P w) callerA (.call (.ref fa) %[[.ref a]|[]]) (λr s'=>r=.ok (.ret (.bool true))/\OldK c.heap s'.heap/\s'.os=c.os/\AllBare s'.gens) c:=by
  intro H hO hS hok hA hK;let base_of:∀{b:Addr}{o:Obj},c.heap.get? b=some o->H b=none->(xB c.heap H).get? b=some o:=λe n=>Hc e n
  let ap:∀{b:Addr}{o:Obj}{J:Array DictEntry}{L:Nat},c.heap.get? b=some o->o.data=.dict J L->H b=none:=fun{b o J L} e d=>by
   cases q:H b with
   |none=>rfl
   |some u=>
     let e':b=a:=hA b (by rw[q];simp);subst e';rw[U]at e;cases e;let d':Data.seq vs.toArray _=Data.dict J L:=d;cases d'
  let j:∀{b:Addr}{m:#[9]},c.heap.Ns b m->(xB c.heap H).Ns b m:=fun{b m} ⟨o,J,L,e,d,r⟩=>%[o,J,L,base_of e (ap e d),d|r]
  let M:K.In (xB c.heap H):=λb o e=>base_of (KX b o e) (by
   cases q:H b with
   |none=>rfl
   |some u=>
     let e':b=a:=hA b (by rw[q];simp);subst e';rw[hK (by rw[q];simp)]at e;cases e)
  let hM:Mod K mg (xB c.heap H):=%[M,j B,%[Y,j g|ab]|let⟨mc,h1,h2⟩:=C;⟨mc,j h1,h2⟩]
  let e0:Env0 P w K mg (xB c.heap H) callerA [] c H:=%[1,hM,λb o e=>Jb e,RU (DD _ _),trivial,λb g=>absurd (show b∈([]:List Addr)from g) #[2],hok|.of_eq hg]
  apply Qu ((F _ M (j B)).run callerA [] c H %[[.ref a]|[]] [.ref a] [.ref a] _ _ hr e0 (y c (.ref a)) (.cons rfl .nil) (ah H hO hS)) λr s' h=>?_
  cases r with
  |error e=>exact(an H e s' h).elim
  |ok fl=>
    cases fl with
    |next=>exact False.elim h
    |brk=>exact False.elim h
    |cont=>exact False.elim h
    |ret u=>
      erw[v,H',os,bare,un,N,r',q]at h;let q':v=.bl true:=q;subst q';obtain rfl:u=Value.bool true:=r';erw[1,OldK.of_keep λb o e=>?_,os,bare];cases q:H b with
      |none=>exact un.keep b o e q (by intro z;exact absurd (show b∈([]:List Addr)from z) #[2]) #[2]
      |some u=>
        rcases hO b with z | ⟨ob,xs,z⟩
        . rw[q]at z;cases z
        . let z2:=un.frzs b ob _ z;let%[e1|_]:=hok b _ z;let%[e2|_]:=N b _ z2;rw[e]at e1;cases e1;exact e2
 cases hk:K.lookup a with
 |some o=>
   let e:=KX a o hk;rw[U]at e;cases e;apply t (λ_=>none) (λ_=>.inl rfl) (.inr %[_,vs.toArray,_,hk,1,1,1,by rw[ks,D];exact hl|by simpa using rv]) (λb u z=>by let O:(none:Option HO)=some u:=z;cases O) (λb z=>absurd rfl z) λz=>absurd rfl z
 |none=>
   apply t (λb=>if b=a then some (.frz { cls:=.type "list",data:=.seq vs.toArray } (.lst (ns.map V.int)))else none) (λb=>?_) (.inl (.inr %[{ cls:=.type "list",data:=.seq vs.toArray }|Qk rfl])) (λb u z=>?_) (λb z=>?_) λ_=>hk
   . by_cases g:b=a
     . exact .inr %[_,_|Qk g]
     . exact .inl (Qi g)
   . by_cases g:b=a
     . let O:=(Qk g).symm.trans z;cases O;subst g;erw[U,by rw[fx];exact hl,vs,_,rv,U]
     . let O:=(Qi g).symm.trans z;cases O
   . by_cases g:b=a
     . exact g
     . exact absurd (Qi g) z
def walk_of{l:PySem.W.OpenLaw}{n:Nat}{q:Program}{loose:List Str}{C:(#[9])->Heap->Prop}{B:World->Heap->Prop}{d:DefRec}{K:Params->PySem.W.Frag}{CX:World->CXT}{sp:World->Sp}{x:Str}
 (D:l.most=some n)(r:n<=sizeLine)(t:d.params.defaults=[])(hr:Room k callerA)
 (J:∀(w:World)(h:Heap),B w h->(K w.params).In h)
 (F:∀(w:World)(mg:#[9])(fa:Addr)(h:Heap),(K w.params).In h->h.Ns mainGlobals mg->mg d.name=some (.ref fa) ->
  ∃ fd:FuncData,(∀(s:Shared)(u:Value),BindsTo s fd %[[u]|[]] [(x,u)])/\
   ∀base:Heap,(K w.params).In base->base.Ns mainGlobals mg->FnOk l.prog w (K w.params) mg base (CX w) k fa fd [x] (sp w))
 (y:∀(w:World)(H:Hp)(a:Addr)(ns:List Int),ns.length<=n->LI H->SqL (K w.params) H a (ns.map V.int)->sp w [.ref a] H (λv _=>v=.bl true) λ_ _ _=>False)
 (z:∀(w:World)(H:Hp)(s:Shared)(e:Value)(s':Shared),CX w [] H s (λ_ _ _=>False) e s'->False) :
 PySem.W.WalkO q loose C B l.row.toRowW d [] (λf vs=>PySem.call f vs):=by
 apply Att.attach_call D t λw s₀ L mg mb fa o pm cd M a vs ns G Y ho hd N hmg m j c hg=>?_
 let KX:=J w _ Y;let%[fd,O|U]:=F w mg fa _ KX G.T.g hmg;exact Gz KX G.T.g G.T.b G.T.builtins G.T.nolimit hg m j (hQ c r) hr U O (λH hO hS=>y w H a ns c hO hS) λH e s'=>z w H L e s'
end L2
namespace L2
open PySem PySem.Spec PyProof.Rows
def bK(s:Stmt)(j:Nat):Stmt:=match s with
 |.ClassDef _ _ _ body _ _ _ _ _ _ _=>body.getD j (.Pass %[(0),(0),(0)|(0)])
 |_=>.Pass %[(0),(0),(0)|(0)]
def eR(s:Stmt):Arguments:=match s with
 |.FunctionDef _ a _ _ _ _ _ _ _ _=>a
 |_=>{ posonlyargs:=[],args:=[],vararg:=none,kwonlyargs:=[],kw_defaults:=[],kwarg:=none,defaults:=[] }
def cP(s:Stmt):List Stmt:=match s with
 |.FunctionDef _ _ b _ _ _ _ _ _ _=>b
 |_=>[]
def af(s:Stmt):Scope:=match s with
 |.FunctionDef _ _ _ _ _ _ b _ _ _=>b
 |_=>{ kind:=.function,names:=[],isGenerator:=false,isCoroutine:=false }
abbrev CX0:CXT:=λ_ _ _ _ _ _=>False
abbrev E0:XK:=λ_ _ _=>False
def be:eX CX0 X E0:=λ_ _ _ _ _ _ _ h=>h.elim
structure Fun(K:W.Frag)(x qual:Str)(st:Stmt)(f:Addr)(fd:FuncData):Prop where
 ex:∃(oc:Value)(od:Option Addr)(kV doc pm:Value)(an:Option Addr)(cdv ct:Value)(osl:Array (Option Value)),
  fd=PySem.W.fnOf x qual (eR st) (cP st) (af st) .none kV doc pm an cdv ct/\K.lookup f=some %[oc,od,.func fd|osl]/\PySem.W.codeIn K cdv qual=true
 kp:PySem.W.keepIn K (.ref f)=true
section
variable {P:Program}{w:World}{K:W.Frag}{mg:#[9]}{base:Heap}
def Fun.ok{st:Stmt}{sp:Sp}(F:Fun K x qual st f fd)(S:FnScope N ps (af st))(len:∀vs H Q E,sp vs H Q E->vs.length=ps.length)
 (b:∀(cdv:Value)(A:Around)(outer:List Env)(s:Shared)(H:Hp)(vs:List V)(Q:VK)(E:XK),Room k (A.deeper (envOfC qual (af st) ‹s› f cdv))->sp vs H Q E ->
  ∃t,PSs (fu CX0 P w K mg base N qual (af st) f cdv A outer s H E).nox (cP st) t/\t { nx:=λ_ e=>Q .non e,rt:=Q } (il N vs) H):FnOk P w K mg base CX0 (k+1) f fd ps sp:=by
 erw[n,o,kV,g,r,u,cdv,ct,j,1,m,c]at F.ex;apply Hk m c S len λA outer s H vs Q E hr d=>?_
 let%[t,h|q]:=b cdv A outer s H vs Q E hr d;erw[t,h.nox,q]
def Fun.binds{st:Stmt}{ps:List Str}(F:Fun K x qual st f fd)
 (h:∀(kV b c:Value)(d:Option Addr)(cdv ct:Value)(us:List Value),us.length=ps.length->bindArgs (PySem.W.fnOf x qual (eR st) (cP st) (af st) .none kV b c d cdv ct) %[us|[]]=pure (ps.zip us)):Binds K fd ps []:=by
 erw[j,m,kV,b,c,d,cdv,ct,e,1,n,g]at F.ex;exact .all (h kV b c d cdv ct)
def Li{x qual:Str}{st:Stmt}{f:Addr}{j:Value}{m e:Option Addr}{d:Array (Option Value)}{kV b g cdv ct:Value}(l:K.lookup f=some %[j,m,.func (PySem.W.fnOf x qual (eR st) (cP st) (af st) .none kV b g e cdv ct)|d])
 (c:PySem.W.codeIn K cdv qual=true)(k:PySem.W.keepIn K (.ref f)=true):Fun K x qual st f (PySem.W.fnOf x qual (eR st) (cP st) (af st) .none kV b g e cdv ct):=%[%[j,m,kV,b,g,e,cdv,ct,d,1,l|c]|k]
end
def JX(hr:Room k A):A.units+1<cLine:=sb (Nat.add_le_add_left (by decide:1<=64) _) hr.units
def aN{n:Nat}(h:n<=1000):n<sizeLine:=sb h ⋯
section
variable {X:Cx}
def pv(i:Nat){x:Str}{pos:Pos}(c:X.N[i]?=some x:=by rfl)(d:Vis X.env.scope x:=by first | exact Or.inl rfl | exact Or.inr (.inl rfl) | exact Or.inr (Or.inr rfl))(hd:(x==("__debug__":Str))=false:=by decide)
 (b:(x==("__classdict__":Str))=false:=by decide):PE X (.Name x pos) (tVar i):=Kz c d hd b
end
def cz{A B:Prop}(h:B):if false=true then A else B:=by
 rw[Qi o8];exact h
def dZ{A B:Prop}(h:A):if true=true then A else B:=by
 rw[Qk rfl];exact h
def tY{c A B:Prop}[Decidable c](h1:c->A)(h2:¬ c->B):if c then A else B:=by
 by_cases h:c
 . rw[Qk h];exact h1 h
 . rw[Qi h];exact h2 h
def mZ{c A B:Prop}[Decidable c](hc:c)(h:B):if(!decide c)=true then A else B:=by
 rw[j2 hc];exact cz h
def Same(H c:Hp):Prop:=∀b o,H b=some o->c b=some o
def Same.refl(H:Hp):Same H H:=λ_ _ h=>h
def Same.trans(a:Same H d)(b:Same d e):Same H e:=λc o h=>b c o (a c o h)
def Same.free(e:Same H b){l:Addr}(h:b l=Option.none):H l=Option.none:=by
 cases q:H l with
 |none=>rfl
 |some o=>
   rw[e l o q]at h;cases h
def Same.seq{K:W.Frag}(e:Same H b)(h:SqL K H a xs):SqL K b a xs:=by
 rcases h with(h | ⟨o,h⟩) | h
 . exact .inl (.inl (e _ _ h))
 . exact .inl (.inr %[o|e _ _ h])
 . exact .inr h
end L2
set_option maxHeartbeats 4000000
namespace L2
open PySem PySem.Spec PyProof.Rows
section
variable {X:Cx}
instance rIsi(K:W.Frag)(xs:List V)(H:Hp)(Q:VK):∀x t n b,xs=[x,.ty n]->TyOf K H x t->PySem.W.kitOne K t (.type n)=some b->Q (.bl b) H:=0
def qZ:iE X (.builtin "isinstance") (rIsi X.K):=by
 exists 4,xs,us,Q,I,r,h;erw[x,t,n,b,1,ty,e,q]at h;let%[u,c,1,r1|r2]:=Ee r;cases r2;exact DC I r1 ty e (λtk=>%[.bl b,H,I.tok tk,1|q])
def GJ(K:W.Frag)(n:String):PySem.W.kitOne K (.type n) (.type n)=some true:=by
 unfold PySem.W.kitOne;rw[Qk #[2]]
def xy(K:W.Frag):PySem.W.kitOne K (.type "int") (.type "bool")=some false:=by
 show(if((Value.type "int"==Value.type "bool")=true)then some true else if PySem.W.kitMeta "bool"=true then((fastBuiltinMro "int").map (·.contains (.type "bool")))else none)=some false;decide
def CDivL(_ j:Int):Prop:=0<j/\j<2 ^ 63
def FJ:OpR X (binaryOp .FloorDiv) (rI CDivL λi j=>.int (i / j)):=opI λi j _ _ _ _ _ hc q=>by
 let e:Int.fdiv i j=i / j:=Int.fdiv_eq_ediv_of_nonneg i (Int.le_of_lt hc.1);rw[←e]at q;apply floordiv_int (by have:=hc.1;omega) q (.inl (PyProof.noPylong_of_log2 ?_));let h1:=hc.1;let h2:=hc.2;let h3:j.natAbs<2 ^ 63:=#[0]
 let h4:=(Nat.log2_lt (n:=j.natAbs) (k:=63) #[0]).mpr h3;omega
end
def hZ:bootBuiltins "int"=some (.type "int"):=by decide
def Bc:bootBuiltins "bool"=some (.type "bool"):=by decide
def jo:bootBuiltins "list"=some (.type "list"):=by decide
def bq:bootBuiltins "tuple"=some (.type "tuple"):=by decide
def uk:bootBuiltins "reversed"=some (.type "reversed"):=by decide
structure Cal(P:Program)(w:World)(K:W.Frag)(mg:#[9])(base:Heap)(n:Nat)(x:Str)(ps:List Str)(sp:Sp):Prop where
 ex:∃(f:Addr)(fd:FuncData),FnOk P w K mg base CX0 n f fd ps sp/\Binds K fd ps []/\PySem.W.keepIn K (.ref f)=true/\mg x=some (.ref f)
def ai{X:Cx}{e:Expr}{c:List Expr}{p pos:Pos}(C:Cal X.prog X.w X.K X.mg X.base n x ps sp)(hr:Room k X.A)(j:n<=k)(hg:Gl X x)
 (o:PA X (e::c) t)(d:(x==("__debug__":Str))=false:=by decide)(he:starEach (e::c) X.env=(false,eval e X.env)::starEach c X.env:=by rfl)(g:(backTo pos (starEach c X.env)).any (·.1)=false:=by rfl):
 PE X (.Call (.Name x p) (e::c) [] pos) (mN sp [] E0 t):=by
 erw[f,fd,F,b,kp,m]at C.ex;exact Bw F (hr.mono j) hg m kp b .nil be o d he g
def Cal.of{P:Program}{w:World}{K:W.Frag}{mg:#[9]}{base:Heap}{n:Nat}{x qual:Str}{ps:List Str}{sp:Sp}{st:Stmt}{f:Addr}{fd:FuncData}(F:Fun K x qual st f fd)(O:FnOk P w K mg base CX0 n f fd ps sp)(m:mg x=some (.ref f))
 (h:∀(kV b c:Value)(d:Option Addr)(cdv ct:Value)(us:List Value),us.length=ps.length->bindArgs (PySem.W.fnOf x qual (eR st) (cP st) (af st) .none kV b c d cdv ct) %[us|[]]=pure (ps.zip us)):Cal P w K mg base n x ps sp:=
 %[f,fd,O,F.binds h,F.kp|m]
def iteN{c A B:Prop}[Decidable c](hc:¬ c)(h:A):if(!decide c)=true then A else B:=by
 rw[ll hc];exact dZ h
def aW{c A B:Prop}[Decidable c](hc:c)(h:A):if decide c=true then A else B:=by
 rw[j2 hc];exact dZ h
def az{c A B:Prop}[Decidable c](hc:¬ c)(h:B):if decide c=true then A else B:=by
 rw[ll hc];exact cz h
def SameBut(f:Addr)(H c:Hp):Prop:=∀b o,b≠f->H b=some o->c b=some o
def SameBut.trans(a:SameBut f H d)(b:SameBut f d g):SameBut f H g:=λc o h e=>b c o h (a c o h e)
def SameBut.refl(f:Addr)(H:Hp):SameBut f H H:=λ_ _ _ h=>h
def f4{f:Addr}{H c:Hp}(h:Same H c):SameBut f H c:=λb o _ e=>h b o e
abbrev SameBut.of:=@f4
def SameBut.upd(o:HO):SameBut f H (upd H f o):=λb u h e=>by rw[aB h];exact e
def fj{H:Hp}{p:Addr}(h:H p=none)(o:HO):Same H (upd H p o):=λb u q=>by rw[aB (bh q h)];exact q
abbrev Same.new:=@fj
def Same.but{f:Addr}(a:Same d H)(n:d f=none)(b:SameBut f H g):Same d g:=λc o e=>b c o (bh e n) (a c o e)
def FeedAt(H:Hp)(f:Addr):Prop:=∃own st:Int,H f=some (.lst [.int own,.int st])/\0<=own/\0<=st/\st<=2147483646
def FeedAt.ne{b:Addr}(F:FeedAt H f)(h:H b=none):b≠f:=by
 erw[o,s,e,_]at F;intro z;subst z;rw[h]at e;cases e
def FeedAt.same(F:FeedAt H f)(s:Same H b):FeedAt b f:=by
 erw[o,t,e,h]at F;erw[o,t,s _ _ e,h]
instance spTake:∀(f:Addr)(m:Int),vs=[.ref f,.int m]->FeedAt H f->0<m->m<2 ^ 63->(∀(d:Int)(H':Hp),0<=d->d<m->FeedAt H' f->SameBut f H H'->Q (.int d) H'):=1
instance spFeed(K:W.Frag):∀(a:Addr)(ns:List Int)(k:Int),vs=[.ref a,.int k]->SqL K H a (ns.map V.int)->ns.length<=63->0<=k->k<1000000->(∀(p:Addr)(H':Hp),H p=none->Same H H'->FeedAt H' p->Q (.ref p) H'):=1
instance spLaw(K:W.Frag):∀(a:Addr)(ns:List Int),vs=[.ref a]->SqL K H a (ns.map V.int)->ns.length<=63->(∀H',Q (.bl true) H'):=1
def bc{n:Nat}(h:n<=1000):n<=sizeLine:=Ro (aN h)
def HP{ns:List Int}{k:Int}(h0:0<=k)(h:k<(ns.length:Int)):∃v:Int,atI (ns.map V.int) k=some (.int v):=by
 let b:k.toNat<ns.length:=#[0]
 let q:atI (ns.map V.int) ((k.toNat:Nat):Int)=some (.int ns[k.toNat]):=bd (by rw[kv,j3 b] <;> rfl);let c:((k.toNat:Nat):Int)=k:=#[0]
 rw[c]at q;erw[_,q]
@[reducible] def lX (X:Cx) (N:List Str) (scope:Scope) (cl:List (Str×Addr)) (s:Shared) (H:Hp) (d:List Addr):Cx where
 prog:=X.prog
 w:=X.w
 K:=X.K
 mg:=X.mg
 base:=X.base
 A:=X.A
 N:=N
 s₀:=s
 H₀:=H
 env:=compEnvC scope cl ‹s› X.env
 outer:=X.stack
 stack:=X.stack
 ex:=d
 fn:=λ_=>false
 calm:=X.calm
 pn:=[]
 xe:=λ_ _=>False
structure CompScope(X:Cx)(x:Str)(N:List Str)(ix:List Nat)(scope:Scope)(cl:List (Str×Addr)):Prop where
 clos:closureFor scope X.env=pure cl
 nocell:∀y∈scope.names,y.2≠.cell
 kind:scope.kind=.function
 names:∀y∈scope.names,y.2=.local->scope.names.lookup y.1=some .local
 own:scope.names.lookup x=some .local
 nd:(x::N).Nodup
 sub:∀p∈cl,X.env.cells.lookup p.1=some p.2
 has:((relabel scope X.env).names.all λp=>!(p.2==.cell||p.2==.free)||(cl.lookup p.1).isSome)=true
 outs:∀(j:Nat)(y:Str),N[j]?=some y->(relabel scope X.env).names.lookup y=some .cell/\∃k c,ix[j]?=some k/\X.N[k]?=some y/\cl.lookup y=some c/\X.env.scope.names.lookup y=some .cell
def outs(ix:List Nat)(σ:St):St:=ix.map λk=>(σ[k]?).join
section
variable {X:Cx}{Qh:#[7]}{σ:St}{x:Str}{N:List Str}{ix:List Nat}{scope:Scope}{cl:List (Str×Addr)}{fp:List Addr}{H3:Hp}{s3:Shared}
def CompScope.cells(S:CompScope X x N ix scope cl){y:Str}{c:Addr}(h:cl.lookup y=some c):X.env.cells.lookup y=some c:=S.sub _ (QK h)
def BP{M:List Str}(S:CompScope X x N ix scope cl)(d:#[8] H3 s3)(hf:∀b∈fp,pO X Qh H3 b)(m:∀b∈fp,b<‹s3›):(lX X M scope cl s3 H3 fp).Ok where
 mod:=d.ok.mod
 kind:=S.kind
 glob:=d.ok.glob
 blt:=d.ok.blt
 above:=fz _
 inj:=λy z c h1 h2=>d.ok.inj y z c (S.cells h1) (S.cells h2)
 has:=λy j=>by
  let q:=List.all_eq_true.mp S.has;let j:(relabel scope X.env).names.lookup y=some .cell∨(relabel scope X.env).names.lookup y=some .free:=j;let z:∀k:NameKind,(k==.cell||k==.free)=true->(relabel scope X.env).names.lookup y=some k->∃c,cl.lookup y=some c:=λk n e=>by
   let r:=q _ (QK e);rw[n]at r;exact Option.isSome_iff_exists.mp #[r,0]
  rcases j with e | e
  . exact z _ (by rfl) e
  . exact z _ (by rfl) e
 cab:=λ_ _ h _=>nomatch h
 hd:=d.ok.hd
 frames:=d.ok.frames
 stk:=.inl rfl
 exf:=λb g=>%[nc (m b g)|λy c e=>(hf b g).2.2.2.2.1 y c (S.cells e)]
 bs:=λb o e=>d.bs b o e
 bsz:=hQ d.ok.bsz d.sz
 noex:=λb o e g=>by
  rcases(hf b g).2.2.2.1 with z | z
  . exact d.ok.noex b o e z
  . exact absurd (rz (js e) (hQ d.ok.bsz z)) (Fo _)
 exfs:=λb g z=>by
  rcases Qq (d.stkSub b z)with e | e
  . exact(hf b g).2.1 e
  . exact(hf b g).2.2.1 e
 funs:=d.stack
 frf:=d.stkFree
def AZ(pre:List Str)(S:CompScope X x N ix scope cl)(t:#[8] H3 s3)(hf:∀b∈fp,pO X Qh H3 b)(Qp:∀b∈fp,b<‹s3›)(D:ix.length=N.length){h1:Heap}{t':Nat}{m:#[9]}
 (hn:h1.Ns ‹s3› m)(C:∀b o,s3.heap.get? b=some o->h1.get? b=some o):Inv (lX X (pre++N) scope cl s3 H3 fp) [] (List.replicate pre.length none++outs ix σ) H3 { s3 with heap:=h1,toks:=t' } where
 ok:=BP S t hf Qp
 os:=rfl
 bare:=t.bare
 base:=Un.kept C
 loc:=by
  erw[m,hn,λi y v J h2 h3=>?_];let n:(pre++N)[i]?=some y:=J;let d:(List.replicate pre.length none++outs ix σ)[i]?=some (some v):=h2
  by_cases L:i<pre.length
  . rw[Gp (by rw[y3];exact L),List.getElem?_replicate,Qk L]at d;cases d
  . let O:=Nat.le_of_not_lt L;rw[y1 O]at n;rw[y1 (by rw[y3];exact O),y3]at d;generalize i-pre.length=j at n d;let%[hr,k,c,e1,e2,e3|U]:=S.outs j y n;unfold outs at d;rw[kv,e1]at d;let g:(σ[k]?).join=some v:=ln d;let e5:σ[k]?=some (some v):=by
     cases q:σ[k]? with
     |none=>rw[q]at g;cases g
     |some o=>rw[q]at g;exact congrArg some g
    erw[m0,_,hl]at t.loc;let%[u,r|l]:=hl k y v e2 e5 (.inr (.inl U));erw[u,r,.inr %[.inl hr,c,e3|6]];rcases l with⟨kk,_⟩ | ⟨_,c',Y,z⟩
    . let B:X.env.scope.names.lookup y=some .local:=kk;rw[U]at B;cases B
    . rw[S.cells e3]at Y;cases Y;erw[o,M,hd]at z;erw[o,C _ _ M,hd]
 cell:=λy c e=>by
  let%[v,o,M|hd]:=t.cell y c (S.cells e);erw[v,o,C _ _ M,hd]
 free:=t.hok.fresh (fz _)
 freeC:=λy c e=>t.freeC y c (S.cells e)
 pin:=λp hp=>absurd (show p∈([]:#[7])from hp) #[2]
 hok:=t.hok.kept C
 len:=by
  show(List.replicate pre.length (none:Option V)++outs ix σ).length=(pre++N).length
  simp [outs,D]
def DS(m:#[8] H3 s3)(hf:∀b∈fp,pO X Qh H3 b){σ':St}{d:Heap}{r:List Str}(J:Inv (lX X r scope cl s3 H3 fp) [] σ' j s')(g:Heap.SameBut ‹s3› s'.heap d):
 #[8] j { s' with heap:=d }:=by
 let ne:∀b o,s3.heap.get? b=some o->b≠‹s3›:=λb o e=>nc (js e)
 let B:Un (frs X.stack) fp H3 j s3.heap s'.heap:=J.base;apply m.call' (s':={ s' with heap:=d }) (ch:=fp) J.os ⟨λb o e n h1 h2=>(g.2 b (ne b o e)).trans (B.keep b o e n h1 h2),λb o e n h1 h2=>?_,B.free,λb o e h2=>?_,B.tups,B.frzs,B.tbls⟩ (λb t e=>?_) J.bare (λb z=>?_)
 . let%[u|q]:=B.slot b o e n h1 h2;erw[u,(g.2 b (ne b o e)).trans q]
 . let%[v|q]:=B.there b o e h2;erw[v,(g.2 b (ne b o e)).trans q]
 . let fr:j ‹s3›=none:=J.free;refine(J.hok b t e).stay (λc y hc q=>(g.2 c ?_).trans q) (λ_ q=>q) λ_ _ q=>q
   rintro rfl;rcases hc with rfl | hc
   . rw[fr]at e;cases e
   . rw[fr]at hc;cases hc
 . let%[_,h2,_,h4,h5|h6]:=hf b z;erw[h4,h2,h5,h6]
end
abbrev TBl:=St->Hp->(Hp->Prop)->VK->Prop
def PB(X:Cx)(b:List Expr)(d:Expr)(j:TBl):Prop:=
 ∀(Qh:#[7])(s:Shared)(σ:St)(H:Hp)(skip:Hp->Prop)(keep:VK),#[8] H s->j σ H skip keep ->
  ‹X.w› (forIn b true λc r=>if r=true then do let ok ←isTrue c X.env (eval c X.env);pure (ForInStep.yield ok)else pure (ForInStep.yield r))
   (λok e=>if ok=true then ‹X.w› (eval d X.env) (EP X Qh σ keep) X.xe e else ∃g,#[8] g e/\skip g) X.xe s
def SA(b:TE):TBl:=λσ H _ keep=>b σ H keep
def SD(tc:TT)(d:TE):TBl:=λσ H skip keep=>tc σ H λb c=>if b=true then d σ c keep else skip c
def cr(he:PE X b c):PB X [] b (SA c):=by
 exists 4,skip,keep,I,h;apply wpAny_tests_nil ?_;rw[Qk rfl];exact he Qh s σ H keep I h
def pb_if(hc:PT X c tc)(he:PE X e m):PB X [c] e (SD tc m):=by
 exists 4,skip,keep,I,h;apply wpAny_tests_one (thn (hc Qh s σ H _ I h) λb s1 ⟨g,j,d⟩=>?_);cases b with
 |true=>
   rw[Qk rfl]at d ⊢;exact he Qh s1 σ g keep j d
 |false=>
   rw[Qi ⋯]at d ⊢;erw[g,j,d]
def qG(J:It)(D:Addr)(ix:List Nat)(g:TBl)(σ:St)(H:Hp)(Q:VK):Prop:=∃W:Nat->Nat->Hp->Prop,(∃m,W 0 m (upd H D (.lst [])))/\∀i m b,W i m b ->
 (J.stop i b/\Q (.ref D) b)∨(J.go i b/\∀y e,J.yld i b y e->g (some y::outs ix σ) e (λd=>∃c,c<m/\W (i+1) c d)
  λz d=>∃ys,d D=some (.lst ys)/\ys.length<sizeLine/\∃c,c<m/\W (i+1) c (upd d D (.lst (ys++[z]))))
def EB(c:TI)(ix:List Nat)(d:TBl):TE:=λσ H Q=>c σ H λJ b=>∀D,b D=none->qG J D ix d σ b Q
section
variable {prog:Program}{w:World}{A:Around}{E:#[6]}{R:Result->Shared->Prop}{s:Shared}
def zi{d b iter:Expr}{e:List Expr}{scope:Scope}{pos:Pos}{o g:Value}{env:Env}(I:Nat->Shared->Prop)
 (turn:∀n s,I n s->‹w.A› (pyNext o) (λr s1=>match r with
  |none=>R (.ok .next) s1
  |some v=>‹w.A› (letOwnedTupleGo b o v) (λ_ j=>‹w.A› (assign b env v) (λ_ z=>
   ‹w.A› (forIn e true λc r=>if r=true then do let ok ←isTrue c env (eval c env);pure (ForInStep.yield ok)else pure (ForInStep.yield r)) (λok u=>
    if ok=true then ‹w.A› (eval d env) (λx B=>
     ‹w.A› (call (.builtin "list.append") [g,x]) (λ_ C=>∃m,m<n/\I m C) (λ_ _=>False) B) (λ_ _=>False) u
    else ∃m,m<n/\I m u) (λ_ _=>False) z) (λ_ _=>False) j) (λ_ _=>False) s1) (λ_ _=>False) s)
 (n:Nat) (h:I n s) :
 codeAny (model prog w) A (.compLoop (.ListComp d [%[b,iter,e|(0)]] scope pos) 0 o g env) R s:=by
 let up:∀{α:Type}{t:Sem α}{Q D:α->Shared->Prop}{J:#[6]}{s:Shared},‹w.A› t Q (λ_ _=>False) s->(∀a s,Q a s->D a s)->‹w.A› t D J s:=
  λh q=>se h q λ_ _ f=>f.elim
 apply codeAny_loop rfl I (λn s L=>?_) n h;show wpAny _ A ((compTurn (.ListComp d [%[b,iter,e|(0)]] scope pos) 0 o g env).onRaise (λx=>do noteFrame x env;theTreesLotGoes x)) _ _ s;apply wpAny_noted ?_;rw[compTurn_list];apply ft (QF (ft (up (turn n s L) λr s1 h1=>?_)));cases r with
 |none=>exact gh h1
 |some v=>
   apply ft (up h1 λ_ j y=>?_);apply ft (up y λ_ z h2=>ft (up h2 λok u h3=>?_));cases ok with
   |false=>exact gh %[1|h3]
   |true=>
     exact ft (ft (up h3 λx B h4=>ft (up h4 λ_ C h5=>gh (gh %[1|h5]))))
end
def DR{Y:Cx}{iter:Expr}{scope:Scope}{pos:Pos}{D:Addr}{R:Result->Shared->Prop}{Pf:St->Prop}{W:Nat->Nat->Hp->Prop}{σ0:St}{m0:Nat}
 (hc:Y.calm=true)(hx:∀v s,Y.xe v s->False)(T:Turn Y.prog Y.w Y.K L J x it tn)(hg:PG Y L g)(B:PB Y ab ah tb)(q:∀{j:Hp},(∀b∈x,j b=none)->∀b∈x,pO Y [] j b)
 (turn:∀i m M,W i m M->(J.stop i M/\∀ σ' s',Pf σ'->Inv Y [] σ' M s'->R (.ok .next) s')∨(J.go i M/\∀y H3,J.yld i M y H3->∀ σ',Pf σ'->g y σ' H3 λσ8 H8=>Pf σ8/\tb σ8 H8 (λH4=>∃c,c<m/\W (i+1) c H4)
  λz H4=>∃ys,H4 D=some (.lst ys)/\ys.length<sizeLine/\∃c,c<m/\W (i+1) c (upd H4 D (.lst (ys++[z])))))
 (p0:Pf σ0) (I0:Inv Y [] σ0 H0 s0) (an:tn 0 s0.heap) (f0:∀b∈x,H0 b=none) (w0:W 0 m0 H0) :
 codeAny (model Y.prog Y.w) Y.A (.compLoop (.ListComp ah [%[L,iter,ab|(0)]] scope pos) 0 (.ref it) (.ref D) Y.env) R s0:=by
 apply zi (λn s'=>∃i σ' j,Pf σ'/\Inv Y [] σ' j s'/\tn i s'.heap/\(∀b∈x,j b=none)/\W i n j) ?_ m0 %[(0),_,_,p0,I0,an,f0|w0];rintro n s5 ⟨i,σ5,H5,p5,I5,N,O,w5⟩;rcases turn i n H5 w5 with⟨stop,qn⟩ | ⟨go,step⟩
 . apply thn (T.done Y rfl rfl rfl hc i [] s5 _ H5 _ I5 (q O) N stop) λr s6 ⟨hr,I6⟩=>?_
   subst hr;exact qn _ _ p5 I6
 . apply thn (T.item Y rfl rfl rfl hc i [] s5 _ H5 _ I5 (q O) N go) λr s6 ⟨u,hr,h6⟩=>?_
   subst hr;apply thn h6 λ_ s7 ⟨y,H7,I7,r7,y7,t,ap⟩=>?_
   apply se (hg _ s7 _ H7 y u _ (I7.pinned (q ap) (T.obj _ _ t)) r7 (step y H7 y7 _ p5)) (λ_ s8 ⟨σ8,H8,I8,p8,q8⟩=>?_) hx;let again:∀{U:Hp}{s9:Shared},Inv Y ([]++tu x s7.heap) σ8 U s9->(∃c,c<n/\W (i+1) c U) ->
    ∃m,m<n/\∃i σ' j,Pf σ'/\Inv Y [] σ' j s9/\tn i s9.heap/\(∀b∈x,j b=none)/\W i m j:=fun{U s9} I9 ⟨c,hm,w9⟩=>by
    erw[c,hm,i+1,_,U,p8,I9.unpinned,T.keep _ _ _ t λb B o e=>(I9.pin (b,o) (Fj _ (Fj _ (kN B e)))).1,λb B=>?_,w9];let%[o,e|d]:=T.obj _ _ t b B;exact(I9.pin (b,o) (Fj _ (Fj _ (kN B e)))).2.1
   apply se (B _ s8 _ _ _ _ I8 q8) (λok s9 C=>?_) hx;cases ok with
   |false=>
     rw[Qi ⋯]at C ⊢;erw[U,I9,C]at C;exact again I9 C
   |true=>
     rw[Qk rfl]at C ⊢;apply se C (λu ar ⟨z,as,av,aw,ys,hy,hz,aA⟩=>?_) hx;apply se (ca _ ar _ as (.ref D) [z] (.ref D) [u] (λ_ j=>∃c,c<n/\W (i+1) c j) av rfl (.cons aw .nil) %[_,ys,z,1,1,hy,hz|aA]) (λ_ aK ⟨_,aL,aC,_,aH⟩=>?_) hx;exact again aC aH
structure Apart(X:Cx)(Qh:#[7])(H:Hp)(C:Addr):Prop where
 fr:H C=none
 lo:C≠X.env.locals
 sz:X.s₀.heap.objs.size<=C
 ce:∀y c,X.env.cells.lookup y=some c->c≠C
 pi:∀p∈X.pn++Qh,p.1≠C
def Apart.turn{σ:St}{h':Heap}(a:Apart X Qh H C)(I:#[8] H s)(c:Heap.SameBut C s.heap h'):#[8] H { s with heap:=h' }:=
 I.turned (t':=s.toks) (λb o ne e=>(c.2 b ne).trans e) a.fr a.lo (.inr a.sz) a.ce a.pi
section
variable {X:Cx}{x:Str}{N:List Str}{ix:List Nat}{scope:Scope}{cl:List (Str×Addr)}{elt iter:Expr}{ifs:List Expr}{px pos:Pos}{wi:TI}{tb:TBl}
def zh(hc:X.calm=true)(S:CompScope X x N ix scope cl)(av:ix.length=N.length)(g:∀j t u,PB (lX X (x::N) scope cl j t u) ifs elt tb)
 {σ:St}{Q:VK}{u:List Addr}{RR:Value->Addr->Result->Shared->Prop}{E:#[6]}
 (I2:#[8] B d)(T:Turn X.prog X.w X.K (.Name x px) J u it tn)(ap:tn 0 d.heap)(f2:∀b∈u,pO X Qh B b)
 (h:∀D,B D=none->∃W:Nat->Nat->Hp->Prop,(∃m,W 0 m (upd B D (.lst [])))/\∀i m t,W i m t ->
  (J.stop i t/\Q (.ref D) t)∨(J.go i t/\∀y H4,J.yld i t y H4->tb (some y::outs ix σ) H4 (λH5=>∃m',m'<m/\W (i+1) m' H5)
   λz H5=>∃ys,H5 D=some (.lst ys)/\ys.length<sizeLine/\∃m',m'<m/\W (i+1) m' (upd H5 D (.lst (ys++[z])))))
 (aw:∀(D C:Addr)(H':Hp)(s':Shared)(m:#[9]),s'.heap.Ns C m->Apart X Qh H' C->#[8] H' s'->Q (.ref D) H'->RR (.ref D) C (.ok .next) s') :
 ‹X.w› (newList []) (λar j=>‹X.w› (newFunctionEnv scope X.env.globals cl [] X.env.qual none .none (some X.env)) (λL s4=>
  codeAny (model X.prog X.w) X.A (.compStart (.ListComp elt [%[.Name x px,iter,ifs|(0)]] scope pos) 0 (.ref it) ar { L with scope:=relabel scope X.env }) (RR ar L.locals) s4) E j) E d:=by
 apply yl (wpAny_newFunctionEnv S.nocell (by intro y hy;simp at hy) (λh1 n r=>?_) S.kind)
 dsimp only at n r ⊢
 let O:#[8] (upd B ‹d› (.lst [])) { d with heap:=d.heap.push { cls:=.type "list",dict:=none,data:=.seq ([]:List Value).toArray } }:=I2.lnew (its:=[]) (ys:=[]) (t':=d.toks) .nil (kr _);let hD:B ‹d›=none:=I2.fresh;let%[W,%[m0|w0]|turn]:=h ‹d› hD;let U:∀b∈u,b<‹d›:=λb g=>by
  let%[o,e|_]:=T.obj 0 _ ap b g;exact js e
 generalize an:({ d with heap:=d.heap.push { cls:=.type "list",dict:=none,data:=.seq ([]:List Value).toArray } }:Shared)=j at O;let eh:d.heap.push { cls:=.type "list",dict:=none,data:=.seq ([]:List Value).toArray }=j.heap:=by rw[←an]
 let et:d.toks=j.toks:=by rw[←an]
 rw[eh]at n r ⊢;let aA:‹j›=‹d›+1:=by rw[←eh,QP]
 let ab:∀b∈u,b<‹j›:=λb g=>rz (U b g) (by rw[aA];exact q9 _)
 let f3:∀b∈u,pO X Qh (upd B ‹d› (.lst [])) b:=λb g=>by
  let%[q1|q2]:=f2 b g;erw[by rw[aB (nc (U b g))];exact q1,q2]
 let up:∀b o,j.heap.get? b=some o->h1.get? b=some o:=λb o e=>r.extBut b o (nc (js e)) (ih _ e)
 let aC:∀b o,d.heap.get? b=some o->h1.get? b=some o:=λb o e=>up b o (by rw[←eh];exact ih _ e)
 let es:({ d with heap:=h1,toks:=d.toks+([]:List (Str×Value)).length }:Shared)={ j with heap:=h1,toks:=d.toks+([]:List (Str×Value)).length }:=by rw[←an]
 rw [es];let I4:Inv (lX X (x::N) scope cl j (upd B ‹d› (.lst [])) u) [] (none::outs ix σ) (upd B ‹d› (.lst [])) { j with heap:=h1,toks:=d.toks+([]:List (Str×Value)).length }:=
  AZ [x] S O f3 ab av n up
 let as:tn 0 h1:=T.keep 0 _ _ ap λb _ o e=>aC b o e
 let ah:codeAny (model X.prog X.w) X.A (.compLoop (.ListComp elt [%[.Name x px,iter,ifs|(0)]] scope pos) 0 (.ref it) (.ref ‹d›) (compEnvC scope cl ‹j› X.env)) (RR (.ref ‹d›) ‹j›)
  { j with heap:=h1,toks:=d.toks+([]:List (Str×Value)).length }:=by
  let k:=BP (M:=x::N) S O f3 ab;apply DR (Y:=lX X (x::N) scope cl j (upd B ‹d› (.lst [])) u) (Pf:=λσ'=>∃v0,σ'=v0::outs ix σ) hc (λ_ _ z=>z) T (bn (i:=0) S.nd rfl (.inl (lookup_relabel_local S.own)) (.inr (lookup_relabel_local S.own))) (g _ _ _) (λhn b g=>%[hn b g,(k.exf b g).1,k.exfs b g,.inl g,(k.exf b g).2|λp hp=>absurd (show p∈([]:#[7])from hp) #[2]]) (λi m H5 w5=>(turn i m H5 w5).imp (fun⟨stop,qn⟩=>%[stop|λσ' s6 _ I6=>?_]) (fun⟨go,step⟩=>⟨go,λy t y7 σ' ⟨v0,e⟩=>by
   subst e;erw[%[|0],step y t y7]⟩)) ⟨none,rfl⟩ I4 as (λb g=>(f3 b g).1) w0
  erw[m6,aH,_]at I6.loc;exact aw _ _ H5 s6 m6 aH ⟨I6.free,Ne.symm (nc O.lt),O.sz,λy c e z=>by
   let%[v|q]:=O.cell y c e;exact absurd q.lt (by rw[z];exact Fo _),λp hp z=>absurd (js (O.pin p hp).1) (by rw[z];exact Fo _)⟩ (DS O f3 I6 (Heap.SameBut.refl _ _)) qn
 exact codeAny_compStart_list ah (T.self _ 0 _ _ _ as ah)
def bX(hc:X.calm=true)(S:CompScope X x N ix scope cl)(c:ix.length=N.length)(j:PI X (.Name x px) iter wi)(n:∀o r g,PB (lX X (x::N) scope cl o r g) ifs elt tb)
 (t:∀x,foldedSetIterable iter X.env x=pure x:=by intro _;rfl):PE X (.ListComp elt [%[.Name x px,iter,ifs|(0)]] scope pos) (EB wi ix tb):=by
 exists 4,Q,I,h;rw[eval_ListComp];apply wpAny_comprehension_free (use:=none) rfl t S.clos S.kind S.names (thn (j Qh s σ H _ I h) λU s1 h1=>thn h1 λu Y h2=>?_);erw[it,g,tn,J,H2,1,v,T,d,y,R]at h2;apply zh hc S c n (RR:=λe C=>compPost (model X.prog X.w) X.A X.xe none (EP X Qh σ Q) e C) v T d y R ?_;intro D C z s' m B L M q;erw[m,B,λO b=>%[.ref D,z,L.turn M b,1|q]]
def rM{i:Nat}{y:Str}{d b:Pos}(U:X.N.Nodup)(n:X.N[i]?=some y)(Y:Loc X.env.scope y)(hc:X.calm=true)(S:CompScope X x N ix scope cl)(o:ix.length=N.length)(hi:PI X (.Name x px) iter wi)(hb:∀s3 H3 O,PB (lX X (x::N) scope cl s3 H3 O) ifs elt tb)
 (r:swapsWith (.ListComp elt [%[.Name x px,iter,ifs|(0)]] scope pos) (some (.Name y d)) b.line X.env=pure true:=by rfl')
 (hs:∀x,foldedSetIterable iter X.env x=pure x:=by intro _;rfl)(hf:X.fn y=true∨X.env.scope.names.lookup y=some .local:=by first | exact .inl rfl | exact .inr rfl | assumption):
 PS X (.Assign [.Name y d] (.ListComp elt [%[.Name x px,iter,ifs|(0)]] scope pos) b) (λD σ H=>EB wi ix tb σ H λv g=>D.nx (σ.set i (some v)) g):=by
 exists 4,t,I,h;rw[exec_Assign_Name_used _ _ _ _ r];apply ft (QF (ft ?_));show wpAny _ X.A (do let _ ←comprehension (.ListComp elt [%[.Name x px,iter,ifs|(0)]] scope pos) scope X.env _ (newList []) false (eval iter X.env) (some (assign (.Name y d) X.env))) _ _ s;apply ft (se (wpAny_comprehension_free (use:=some (assign (.Name y d) X.env)) (Q:=λ_ s'=>SP X Qh t .next s') rfl hs S.clos S.kind S.names
  (thn (hi Qh s σ H _ I h) λxv s1 h1=>thn h1 λab s2 h2=>?_)) (λ_ s' hq=>gh (gh hq)) λ_ _ e=>e)
 erw[it,O,tn,J,H2,1,I2,T,u,f2,R]at h2;apply zh hc S o hb (RR:=λB C=>compPost (model X.prog X.w) X.A X.xe (some (assign (.Name y d) X.env)) (λ_ s'=>SP X Qh t .next s') B C) (Q:=λv g=>t.nx (σ.set i (some v)) g) I2 T u f2 R ?_;intro D C g s' m hn L I' q;show wpAny _ X.A (assign (.Name y d) X.env (.ref D)) _ _ _;apply wpAny_assign_Name (ve I' U n Y (v:=.ref D) rfl (λah M c=>?_) hf);erw[a,c,ha]at c;let ne:C≠a:=by
  rcases ha with z | z
  . rw[z];exact L.lo
  . exact Ne.symm (L.ce y a z)
 erw[m,hn.sameBut c ne,λan j=>%[_,g,L.turn M j|q]]
end
section
variable {X:Cx}{Qh:#[7]}{σ:St}{H:Hp}{s:Shared}{h':Heap}
def Inv.turnedNew{t':Nat}{ch:List Addr}{T:Addr}(I:#[8] H s)(k:∀b u,b∉ch->s.heap.get? b=some u->h'.get? b=some u)(hf:∀b∈ch,pO X Qh H b)(hT:‹s›<=T)
 (new:ObjOk X.prog X.w (upd H T o) h' T o):#[8] (upd H T o) { s with heap:=h',toks:=t' }:=by
 let d:∀b u,H b=some u->b∉ch:=λb u e z=>by rw[(hf b z).1]at e;cases e
 let g:H T=none:=I.hok.fresh hT;let lt:∀b u,s.heap.get? b=some u->b≠T:=λb u e=>nc (rz (js e) hT)
 apply I.step (g':=s.gens) (d':=s.drawn) (ch:=ch) (λb j=>?_) (λb u _ _ hc e _=>k b u hc e) (λb u _ _ hc e _=>%[u.slots|k b u hc e]) (λb u _ e n=>by rw[aB (lt b u e)];exact n) (λb u hc e=>%[u|k b u hc e])
  (λb xs e=>by rw[aB (bh e g)];exact e) (λb t u e=>by rw[aB (bh e g)];exact e) (λb ps e=>%[#[]|by rw[aB (bh e g),e];simp]) (λm x=>?_) (λb u e=>?_) I.bare
 . let%[_,h2,_,h4,h5|h6]:=hf b j;erw[h4,h2,h5,h6]
 . erw[t,y,B,C,r]at x;erw[t,y,B,k _ t (λz=>(hf _ z).2.1 rfl) C,r]
 . by_cases j:b=T
   . subst j;rw[aX]at e;cases e;exact new
   . rw [aB j]at e;refine(I.hok b u e).stay (λc v hc q=>k c v ?_ q) (λc q=>by rw[aB (bh q g)];exact q) λc xs q=>by rw[aB (bh q g)];exact q
     rcases hc with z | z
     . rw[z];exact d b u e
     . exact d c _ z
def Inv.turnedL{t':Nat}{ch:List Addr}(I:#[8] H s)(k:∀b u,b∉ch->s.heap.get? b=some u->h'.get? b=some u)(hf:∀b∈ch,pO X Qh H b):#[8] H { s with heap:=h',toks:=t' }:=by
 let d:∀b u,H b=some u->b∉ch:=λb u e z=>by rw[(hf b z).1]at e;cases e
 apply I.step (g':=s.gens) (d':=s.drawn) (ch:=ch) (λb j=>?_) (λb u _ _ hc e _=>k b u hc e) (λb u _ _ hc e _=>%[u.slots|k b u hc e]) (λ_ _ _ _ n=>n) (λb u hc e=>%[u|k b u hc e])
  (λ_ _ e=>e) (λ_ _ _ e=>e) (λb ps e=>%[#[]|by rw[e];simp]) (λm o=>?_) (λb u e=>?_) I.bare
 . let%[_,h2,_,h4,h5|h6]:=hf b j;erw[h4,h2,h5,h6]
 . erw[g,t,x,y,r]at o;erw[g,t,x,k _ g (λz=>(hf _ z).2.1 rfl) y,r]
 . apply (I.hok b u e).stay (λc v hc q=>k c v ?_ q) (λ_ q=>q) λ_ _ q=>q
   rcases hc with z | z
   . rw[z];exact d b u e
   . exact d c _ z
end
def Ite(K:W.Frag)(a:Addr):It:=
 ⟨λi H=>∃xs x,SqL K H a xs/\xs[i]?=some x,λi H y b=>∃t,y=.ref t/\H t=none/\∀xs x,SqL K H a xs->xs[i]?=some x->b=upd H t (.tup [.int i,x]),λi H=>∃xs,SqL K H a xs/\xs.length<=i⟩
def Cb{K:W.Frag}{r:List Expr}{k:Nat}{pos:Pos}(a e m:Addr)(t:e≠m):
 Turn P w K (.Tuple r k pos) (Ite K a) [e,m] e (λi h=>(∃g,IsEnum h e m i g)/\h.IsListIter m a i) where
 mem:=by simp
 obj:=λi h st b n=>by
  erw[%[g|he],o,e2,c,d]at st;rcases Qq n with z | z
  . subst z;erw[_,he,λv z=>nomatch z]
  . let z':=Qr z;subst z';erw[o,e2,λv z=>by rw[d]at z;cases z]
 keep:=λi h h' st k=>by
  erw[%[g|he],j]at st;erw[%[g|k e #[2] _ he],j.at λo x=>k m #[2] o x]
 item:=by
  exists 5;erw[xs,x,L,M]at hg;let%[its,N,p|hz]:=I.list L;let%[u,hu|ru]:=N.get M;erw[%[g|he],j]at st;apply wpAny_pyNext_enum_item he j p.isList (x:=u) #[hu,0] t λh1 ho B hT hsz hk=>?_
  erw[0,wpAny_letOwnedTupleGo_enum ho λh2 O q=>?_];let C:e<‹s›:=js he;let D:h2.get? ‹s›=some { cls:=.type "tuple",data:=.seq #[.int i s.toks,u] }:=(q.2 _ (Ne.symm (nc C))).trans hT;let I2:#[8] (upd H ‹s› (.tup [.int i,x])) { s with heap:=h2,toks:=s.toks+1 }:=by
   apply I.turnedNew (ch:=[e,m]) (λb ob n U=>?_) hf (fz _) %[by show 2<=sizeLine;decide,[.int i s.toks,u],.cons %[|0] (.cons ru .nil),%[_,D,1|0],_,D|1];let Y:b≠e:=λz=>n (by simp [z])
   let b2:b≠m:=λz=>n (by simp [z])
   exact(q.2 b Y).trans (hk b ob Y b2 U)
  erw[.ref ‹s›,_,I2,1,%[0,I.hok.fresh (fz _)|λys y hy J=>?_],%[%[u|by simpa using O]|B.at λo z=>(q.2 m (Ne.symm t)).trans z],λb n=>?_]
  . let e1:=I.list_inj hy L;subst e1;rw[M]at J;cases J;rfl
  . let z:=hf b n;let Qp:b<‹s›:=by
     rcases Qq n with y | y
     . rw[y];exact C
     . rw[Qr y];erw[o,e2,_]at j;exact js e2
    rw[aB (nc Qp)];exact z.1
 done:=by
  exists 5;erw[xs,L,M]at hg;let%[its,N,p|hz]:=I.list L;erw[%[g|he],j]at st;let hl:=N.length;exact wpAny_pyNext_enum_end (I.ok.hd hc) he j p.isList (Array.getElem?_eq_none (by simp;omega)) λh' U=>%[1|I.turnedL (t':=s.toks) (ch:=[e,m]) (λb o n eo=>U b o (λz=>n (by simp [z])) eo) hf]
 self:=λ_ _ _ _ _ st h=>by
  erw[%[g|he],_]at st;exact RF he h
section
variable {X:Cx}{elts:List Expr}{k:Nat}{tpos:Pos}
instance ZiEnum(K:W.Frag)(R:(It->Hp->Prop))(x:V)(H1:Hp):∀a,x=.ref a->(∃xs,SqL K H1 a xs)->R (Ite K a) H1:=0
def iEnum(K:W.Frag)(tl:TE):TI:=λσ H R=>tl σ H λx b=>ZiEnum K R x b
def Bt{p pos:Pos}(hg:Gl X "enumerate")(j:X.mg "enumerate"=none)(hl:PE X l tl)(e:starEach [l] X.env=[(false,eval l X.env)]:=by rfl):
 PI X (.Tuple elts k tpos) (.Call (.Name "enumerate" p) [l] [] pos) (iEnum X.K tl):=by
 exists 4,R,I,h;apply Call_ (jN I hg j boot_enumerate (Qw ?_ e rfl));rw[e];show wpAny _ _ (spliced ((false,eval l X.env)::backTo pos (starEach [] X.env))) _ _ s;apply Qz (thn (hl Qh s σ H _ I h) λu s1 ⟨x,g,c,r1,a,ex,⟨xs,m⟩,q⟩=>?_);subst ex;cases r1;let%[its,t,p|v]:=c.list m;apply QZ ?_;apply call_enumerate_list p.isList λh' he d hsz n=>?_
 apply RF he ?_;let o:#[8] g { s1 with heap:=h' }:=c.kept (t':=s1.toks) n;erw[‹s1›+1,[‹s1›+1,‹s1›],_,_,g,1,o,Cb a _ _ (QS (QB _)),%[%[_|he]|d],λb r=>?_,q];rcases Qq r with z | z
 . rw[z];exact c.fpOk (q9 _) (c.hok.fresh (q9 _))
 . rw[Qr z];exact c.fpOk (fz _) (c.hok.fresh (fz _))
end
def yV{K:W.Frag}{xs:List V}{g:TG}{j:TS}{D:Ends}{σ:St}{H:Hp}(Pv:Nat->St->Hp->Prop)(h0:Pv 0 σ H)(hl:∀i σ H,i<=xs.length->Pv i σ H->SqL K H a xs)
 (o:∀i x σ H t,xs[i]?=some x->Pv i σ H->H t=none->g (.ref t) σ (upd H t (.tup [.int i,x])) λσ2 d=>j { D with nx:=Pv (i+1),ct:=Pv (i+1),bk:=D.nx } σ2 d)(hd:∀ σ H,Pv xs.length σ H->D.nx σ H):
 ∃ W:Nat->Nat->St->Hp->Prop,(∃m,W 0 m σ H)/\∀i m σ H,W i m σ H ->
  ((Ite K a).stop i H/\D.nx σ H)∨((Ite K a).go i H/\∃N:St->Hp->Prop,(∀ σ' b,N σ' b->∃n,n<m/\W (i+1) n σ' b)/\∀x b,(Ite K a).yld i H x b->g x σ b λσ2 d=>j { D with nx:=N,ct:=N,bk:=D.nx } σ2 d):=by
 erw[λi m σ H=>m=xs.length-i/\i<=xs.length/\Pv i σ H,%[xs.length,by simp,kr _|h0],6];rintro i m σ H ⟨rfl,r,p⟩;let q:=hl i σ H r p
 by_cases c:i<xs.length
 . refine .inr %[%[xs,xs[i],q|by simp [c]],Pv (i+1),λσ' b u=>%[xs.length-(i+1),3,1,c|u]|λx b y=>?_];erw[t,1,v,e]at y;let z:=e xs xs[i] q (by simp [c]);subst z;exact o i xs[i] σ H t (by simp [c]) p v
 . let e:i=xs.length:=#[0]
   subst e;exact .inl %[%[xs,q|fz _]|hd σ H p]
mutual
inductive Rep(K:W.Frag)(H:Hp):V->PyData->Prop
 |non:Rep K H .non .none
 |bl (b:Bool):Rep K H (.bl b) (.bool b)
 |int (i:Int):Rep K H (.int i) (.int i)
 |str (x:Str):Rep K H (.str x) (.str x)
 |tup {a:Addr} {xs:List V} {ds:List PyData}:SqT K H a xs->RepAll K H xs ds->Rep K H (.ref a) (.tuple ds)
 |lst {a:Addr} {xs:List V} {ds:List PyData}:SqL K H a xs->RepAll K H xs ds->Rep K H (.ref a) (.list ds)
inductive RepAll(K:W.Frag)(H:Hp):List V->List PyData->Prop
 |nil:RepAll K H [] []
 |cons {x:V} {d:PyData} {xs:List V} {ds:List PyData}:Rep K H x d->RepAll K H xs ds->RepAll K H (x::xs) (d::ds)
end
section
variable {X:Cx}{Qh:#[7]}{σ:St}{H:Hp}{s:Shared}
mutual
def Rep.reads(I:#[8] H s):∀{x:V}{d:PyData}{v:Value},Rep X.K H x d->RelV x v->∃c,Reads s.heap v d c
 |_,_,v,.non,r=>by cases(show v=Value.none from r);erw[_,Reads.none]
 |_,_,v,.bl b,r=>by cases(show v=Value.bool b from r);erw[_,Reads.bool b]
 |_,_,v,.int i,r=>by let%[t|e]:=(show ∃t,v=Value.int i t from r);cases e;erw[_,Reads.int i t]
 |_,_,v,.str x,r=>by let%[t|e]:=(show ∃t,v=Value.str x t from r);cases e;erw[_,Reads.str x t]
 |_,_,v,.tup (a:=a) h q,r=>by
   cases(show v=Value.ref a from r);let%[its,g,%[o,j,hc,n|hd]|_]:=I.tuple h;let%[c|z]:=RepAll.reads I q g;erw[_,reads_tuple_at j hc hd #[z,0]]
 |_,_,v,.lst (a:=a) h q,r=>by
   cases(show v=Value.ref a from r);let%[its,g,%[o,n,j,hc,_|hd]|_]:=I.list h;let%[c|z]:=RepAll.reads I q g;erw[_,reads_list_at j hc hd #[z,0]]
def RepAll.reads(I:#[8] H s):∀{xs:List V}{b:List PyData}{vs:List Value},RepAll X.K H xs b->Vals xs vs->∃c,ReadsAll s.heap vs b c
 |_,_,_,.nil,.nil=>%[_|ReadsAll.nil]
 |_,_,_,.cons h q,.cons r d=>by
   let%[c|z]:=Rep.reads I h r;let%[bs|y]:=RepAll.reads I q d;erw[_,ReadsAll.cons z y]
end
end
def xX{K:W.Frag}:∀ns:List Int,RepAll K H (ns.map V.int) (ns.map PyData.int)
 | []=>.nil
 |n::r=>.cons (.int n) (xX r)
section
variable {X:Cx}
instance rEqD(K:W.Frag)(x:V)(y:V)(H:Hp)(Q:VK):∀d e,Rep K H x d->Rep K H y e->SeqAt.shaped d=true->SeqAt.shaped e=true->Q (.bl (PyData.eqv d e)) H:=0
def Ag(b:X.A.units+64<cLine):OpR X (compareOp .Eq) (rEqD X.K):=by
 exists 4,x,y,v,u,Q,I,c,g,h;erw[d,e,hd,he,sd,j,q]at h;let%[m|r1]:=Rep.reads I hd c;let%[bs|r2]:=Rep.reads I he g;exact eq_dataH r1 r2 sd j b %[.bl _,H,I,1|q]
instance rCatT0(K:W.Frag)(x:V)(y:V)(H:Hp)(Q:VK):∀a b ys,x=.ref a->y=.ref b->SqT K H a []->SqT K H b ys->Q (.ref b) H:=0
def oY:OpR X (binaryOp .Add) (rCatT0 X.K):=by
 exists 4,x,y,v,u,Q,I,z,B,h;erw[a,b,ys,1,1,C,D,q]at h;cases z;cases B;let%[its,r1,J|_]:=I.tuple C;let%[c,r2,p2|_]:=I.tuple D;let%[%[cls,L,data|M],r,hc,n|hd]:=id J;let%[%[t,m,data2|o],d,g,N|j]:=id p2;simp only at hc hd g j;subst hc hd g j;let e:its=[]:=r1.nil_iff.mpr rfl;exact concat_meets %[_,r|1] ⟨_,d,rfl⟩ Sv seq_tuple_add Sa R4 (R0 _ _)
  (tuple_addW0 a b its.toArray c.toArray n N L m M o (by simp [e])) %[r,d|%[.ref b,H,I,1|q]]
end
def Nx(n i:Nat)(Pv:Nat->Hp->Prop)(H:Hp):Prop:=∃b,b<n-i/\(b=n-(i+1)/\i+1<=n/\Pv (i+1) H)
def Nx.of{n i:Nat}{Pv:Nat->Hp->Prop}{H:Hp}(h:i<n)(p:Pv (i+1) H):Nx n i Pv H:=%[n-(i+1),3,1,h|p]
def dN{K:W.Frag}{xs:List V}{c:TBl}{Q:VK}(Pv:Nat->Hp->Prop)(h0:Pv 0 (upd H D (.lst [])))(hl:∀i H,i<=xs.length->Pv i H->SqT K H a xs)
 (d:∀i x H,xs[i]?=some x->Pv i H->c (some x::outs ix σ) H (Nx xs.length i Pv) λz b=>∃ys,b D=some (.lst ys)/\ys.length<sizeLine/\Nx xs.length i Pv (upd b D (.lst (ys++[z]))))(hd:∀H,Pv xs.length H->Q (.ref D) H):
 qG (Itt K a) D ix c σ H Q:=by
 erw[λi m H=>m=xs.length-i/\i<=xs.length/\Pv i H,%[xs.length,by simp,kr _|h0],6];rintro i m H ⟨rfl,g,p⟩;let q:=hl i H g p
 by_cases j:i<xs.length
 . refine .inr %[%[xs,xs[i],q|by simp [j]]|λx b y=>?_];erw[e,y]at y;subst e;exact d i x _ (y xs q) p
 . let e:i=xs.length:=#[0]
   subst e;exact .inl %[%[xs,q|fz _]|hd H p]
def de{K:W.Frag}{xs:List V}{c:TBl}{Q:VK}(Pv:Nat->Hp->Prop)(h0:Pv 0 (upd H D (.lst [])))(hl:∀i H,i<=xs.length->Pv i H->SqL K H a xs)
 (d:∀i x H,xs[i]?=some x->Pv i H->c (some x::outs ix σ) H (Nx xs.length i Pv) λz b=>∃ys,b D=some (.lst ys)/\ys.length<sizeLine/\Nx xs.length i Pv (upd b D (.lst (ys++[z]))))(hd:∀H,Pv xs.length H->Q (.ref D) H):
 qG (Itl K a) D ix c σ H Q:=by
 erw[λi m H=>m=xs.length-i/\i<=xs.length/\Pv i H,%[xs.length,by simp,kr _|h0],6];rintro i m H ⟨rfl,g,p⟩;let q:=hl i H g p
 by_cases j:i<xs.length
 . refine .inr %[%[xs,xs[i],q|by simp [j]]|λx b y=>?_];erw[e,y]at y;subst e;exact d i x _ (y xs q) p
 . let e:i=xs.length:=#[0]
   subst e;exact .inl %[%[xs,q|fz _]|hd H p]
def fw{lo:Int}{n:Nat}{c:TBl}{Q:VK}(Pv:Nat->Hp->Prop)(h0:Pv 0 (upd H D (.lst [])))
 (g:∀i H,i<n->Pv i H->c (some (.int (lo+i))::outs ix σ) H (Nx n i Pv) λz b=>∃ys,b D=some (.lst ys)/\ys.length<sizeLine/\Nx n i Pv (upd b D (.lst (ys++[z]))))(hd:∀H,Pv n H->Q (.ref D) H):
 qG (Itr lo n) D ix c σ H Q:=by
 erw[λi m H=>m=n-i/\i<=n/\Pv i H,%[n,by simp,kr _|h0],6];rintro i m H ⟨rfl,j,p⟩
 by_cases d:i<n
 . refine .inr %[d|λx b y=>?_];erw[e,y]at y;subst e y;exact g i _ d p
 . let e:i=n:=#[0]
   subst e;exact .inl %[fz _|hd H p]
def CompScope.closed{X:Cx}{x:Str}{scope:Scope}(b:closureFor scope X.env=pure [])(c:∀y∈scope.names,y.2≠.cell)(d:scope.kind=.function)(e:∀y∈scope.names,y.2=.local->scope.names.lookup y.1=some .local)
 (g:scope.names.lookup x=some .local)(m:((relabel scope X.env).names.all λp=>!(p.2==.cell||p.2==.free)||((([]:List (Str×Addr))).lookup p.1).isSome)=true):CompScope X x [] [] scope [] where
 clos:=b
 nocell:=c
 kind:=d
 names:=e
 own:=g
 nd:=by simp
 sub:=λp n=>absurd n #[2]
 has:=m
 outs:=λj y h=>by simp at h
section
variable {X:Cx}
def yM(K:W.Frag)(hK:X.K=K:=by rfl):IxR X (rIxL K):=by subst hK;exact ix_list
def BE(K:W.Frag)(hK:X.K=K:=by rfl):IxR X (rIxT K):=by subst hK;exact ix_tup
end
def Its(z:Str):It:=⟨λi _=>i<z.cps.size,λi H x b=>b=H/\∃c,z.cps[i]?=some c/\x=.str %[|#[c]],λi _=>z.cps.size<=i⟩
def rW{prog:Program}{w:World}{A:Around}(hh:A.handled=none)(I:Addr)(x:Str)(t:Tok):Walks prog w A I [I] [I] x.cps.size (SignAt x) (λi h=>h.IsStrIter I (strIterType x) x t i):=by
 unfold strIterType
 split
 . exact Walks.strAscii hh I x t
 . exact Walks.strWide hh I x t
def Em{K:W.Frag}{y:Str}{C:Pos}(z:Str)(t:Tok)(g:Addr):Turn P w K (.Name y C) (Its z) [g] g (λi h=>i<=z.cps.size/\h.IsStrIter g (strIterType z) z t i) where
 mem:=by simp
 obj:=λi h st b j=>by
  let e:b=g:=#[j,0]
  subst e;erw[_,o,e,c,d]at st;erw[o,e,λv z=>by rw[d]at z;cases z]
 keep:=λi h h' st k=>by
  erw[D,o,e,r]at st;erw[D,o,k g #[2] o e,r]
 item:=by
  exists 5;let%[f0,f1,J,m,n|q]:=hf g #[2];refine(rW (I.ok.hd hc) g z t).item i s _ E hg st.2 λv h' tk hP L x=>?_
  erw[c,u,B,1]at hP;let M:#[8] H { s with heap:=h',toks:=tk }:=I.turned (λb o j e=>x b o #[j,0] e) f0 f1 m n q;erw[0,J2 (a:=()) rfl %[.str %[|#[c]],H,M,%[|0],%[1,c,B|1],%[hg|L]|λb j=>(hf b j).1]]
 done:=by
  exists 5;let%[f0,f1,J,m,n|q]:=hf g #[2];let e:i=z.cps.size:=Nat.le_antisymm st.1 hg;subst e;refine(rW (I.ok.hd hc) g z t).done s _ E st.2 λh' tk x=>?_
  erw[1,I.turned (λb o j e=>x b o #[j,0] e) f0 f1 m n q]
 self:=λA i s Q E st h=>by
  erw[_,st]at st;unfold strIterType at st
  split at st
  . exact wpAny_pyIter_striter_ascii st h
  . exact wpAny_pyIter_striter_wide st h
section
variable {X:Cx}{y:Str}{py:Pos}
instance ZiStr(R:(It->Hp->Prop))(x:V)(H1:Hp):∀z,x=.str z->R (Its z) H1:=0
def iStr(tl:TE):TI:=λσ H R=>tl σ H λx b=>ZiStr R x b
def Fy(hl:PE X l tl):PI X (.Name y py) l (iStr tl):=by
 exists 4,R,I,h;apply thn (hl Qh s σ H _ I h) λv s1 ⟨x,d,c,r1,g⟩=>?_
 erw[z,e,q]at g;subst e;erw[t,1]at r1;apply wpAny_pyIter_strU ?_;erw[‹s1›,[‹s1›],_,_,d,1,c.kept (t':=s1.toks) λb o e=>ih _ e,Em z t _,%[kr _,_,mM _ rfl,1|1],λb j=>?_,q];let e:b=‹s1›:=#[j,0]
 subst e;exact c.fpOk (fz _) (c.hok.fresh (fz _))
end
def ui{z:Str}{d:TBl}{Q:VK}(Pv:Nat->Hp->Prop)(h0:Pv 0 (upd H D (.lst [])))
 (g:∀i c H,z.cps[i]?=some c->Pv i H->d (some (.str %[|#[c]])::outs ix σ) H (Nx z.cps.size i Pv) λu b=>∃ys,b D=some (.lst ys)/\ys.length<sizeLine/\Nx z.cps.size i Pv (upd b D (.lst (ys++[u]))))(hd:∀H,Pv z.cps.size H->Q (.ref D) H):
 qG (Its z) D ix d σ H Q:=by
 erw[λi m H=>m=z.cps.size-i/\i<=z.cps.size/\Pv i H,%[z.cps.size,by simp,kr _|h0],6];rintro i m H ⟨rfl,n,p⟩
 by_cases j:i<z.cps.size
 . refine .inr %[j|λx b y=>?_];erw[e,c,hc,1]at y;subst e;exact g i c _ hc p
 . let e:i=z.cps.size:=#[0]
   subst e;exact .inl %[fz _|hd H p]
section
variable {X:Cx}
instance rSlS(x:V)(lo:Option Int)(hi:Option Int)(H:Hp)(Q:VK):∀z,x=.str z->z.length<=sizeLine->Q (.str (Txt.slice z lo hi)) H:=0
def sy:SlR X rSlS:=by
 exists 4,x,v,r,y,lo,g,B,Q,I,m,n,pl,d,h;erw[z,1,b,q]at h;erw[t,1]at m;erw["str",_,F.slot_str_getitem.lookup,QV _ _ _,6];let fin:∀t' k,EP X Qh σ Q (.str (Txt.slice z lo g) t') { s with toks:=k }:=λt' k=>%[.str _,H,I.tok k,%[|0]|q]
 erw[o,c,hc,hd]at n;cases pl with
 |none=>
   cases d with
   |none=>exact Rz (l:=none) (u:=none) (st:=none) %[o,c,hc|hd] rfl (RJ ⟨hQ (Q6 z _ _) b,fin⟩)
   |int j u=>exact Rz (l:=none) (u:=some (j,u)) (st:=none) %[o,c,hc|hd] rfl (RJ ⟨hQ (Q6 z _ _) b,fin⟩)
 |int i e=>
   cases d with
   |none=>exact Rz (l:=some (i,e)) (u:=none) (st:=none) %[o,c,hc|hd] rfl (RJ ⟨hQ (Q6 z _ _) b,fin⟩)
   |int j u=>exact Rz (l:=some (i,e)) (u:=some (j,u)) (st:=none) %[o,c,hc|hd] rfl (RJ ⟨hQ (Q6 z _ _) b,fin⟩)
instance rStarts(x:V)(vs:List V)(H:Hp)(Q:VK):∀z u,x=.str z->vs=[.str u]->Q (.bl (Txt.startswith z u)) H:=0
def jM:MtR X "str.startswith" rStarts:=by
 exists 4,x,vs,v,us,Q,I,b,c,h;erw[z,u,1,1,q]at h;erw[t,1]at b;erw[d,1,t',1]at c.one;exact SC.startswith %[.bl _,H,I,1|q]
def si:∀{zs:List Str}{us:List Value},Vals (zs.map V.str) us->StrsAre us zs
 | [],_,.nil=>.nil
 |_::_,_,.cons ⟨t,e⟩ r=>by subst e;exact .cons _ t (si r)
instance rJoin(K:W.Frag)(x:V)(vs:List V)(H:Hp)(Q:VK):∀z a ys,x=.str z->vs=[.ref a]->SqL K H a (ys.map V.str)->z.length<=16->(ys.map (·.length)).sum+ys.length<=1048576->Q (.str (Txt.join z ys)) H:=0
def eF:MtR X "str.join" (rJoin X.K):=by
 exists 4,x,vs,v,us,Q,I,b,c,h;erw[z,a,ys,1,1,d,e,hw,q]at h;erw[t,1]at b;erw[j,1,g]at c.one;cases g;let%[its,r',p|_]:=I.list d;exact join_listW p.isList #[si r',0] e hw λt' k=>%[.str _,H,I.tok k,%[|0]|q]
instance rAll(K:W.Frag)(xs:List V)(H:Hp)(Q:VK):∀(a:Addr)(bs:List Bool),xs=[.ref a]->SqL K H a (bs.map V.bl)->Q (.bl (bs.all id)) H:=0
def vM:∀{bs:List Bool}{us:List Value}{i:Nat}{v:Value},Vals (bs.map V.bl) us->us[i]?=some v->∃b,bs[i]?=some b/\v=.bool b
 | [],_,_,_,.nil,h=>by simp at h
 |b::_,_,0,_,.cons r _,h=>by
   simp at h
   subst h;erw[b,1,r]
 |_::_,_,i+1,_,.cons _ t,h=>by
   let%[b,h1|h2]:=vM (i:=i) t #[h,0];erw[b,by simpa using h1,h2]
def jm(hc:X.calm=true):iE X (.builtin "all") (rAll X.K):=by
 exists 4,xs,us,Q,I,r,h;erw[a,bs,1,m,q]at h;let%[u,1|t]:=jQ r;cases t;let%[its,r',p|D]:=I.list m;let hl:=r'.length;rw[fx]at hl;let x:a<‹s›:=by erw[o,n,e,_]at p;exact js e
 apply call_all_walk (Ri p.isList ?_);erw[‹s›,_,_,_,_,_,λi=>bs[i]?.getD true,1,Walks.list (A:=X.A.in1) (I.ok.hd hc) ‹s› a (nc x) its.toArray,%[%[_,mM _ rfl,1|1]|p.isList.push _],6,6]
 . intro i v s' y J hP z;let%[b,c|1]:=vM r' (i:=i) (v:=v) #[hP,0];let j:y b s':=by simpa [c]using z
   exact G0 j
 . intro h' tk B;let e:(List.range its.toArray.size).all (λi=>bs[i]?.getD true)=bs.all id:=by
    rw[ks,←hl];rw[Rk,RG,RG]
    constructor
    . intro h b c;let%[i,g|e]:=List.getElem_of_mem c
      have:=h i (List.mem_range.mpr g)
      rw[j3 g]at this
      simpa [e]using this
    . intro h i g;let d:=List.mem_range.mp g;rw[j3 d];exact h _ (vr d)
   rw[e];erw[.bl _,H,6,1,q];let C:#[8] H { s with heap:=s.heap.push { cls:=.type "list_iterator",data:=.fields #[.ref a,.int 0 0] } }:=I.kept (t':=s.toks) λb o e=>ih _ e
   apply C.turnedL (t':=tk) (ch:=[‹s›]) (λb o c e=>B b o #[c,0] e) λb c=>?_
   rw[Qr c];exact I.fpOk (fz _) (I.hok.fresh (fz _))
end
inductive Consts:List Expr->List Str->Prop
 |nil:Consts [] []
 |cons {x:Str} {j:Nat} {pos:Pos} {es:List Expr} {zs:List Str}:Consts es zs->Consts (.Constant (.str x) j pos::es) (x::zs)
def mx:∀{b:List Expr}{zs:List Str},Consts b zs->PA X b (λ_ H Q=>Q (zs.map V.str) H)
 |_,_,.nil=>aV
 |_,_,.cons h=>λpos Qh s σ H Q I q=>aJ ao (mx h) (by rfl) pos Qh s σ H Q I q
def CompScope.one{X:Cx}{x y:Str}{scope:Scope}{k:Nat}{c:Addr}(b:closureFor scope X.env=pure [(y,c)])(d:∀y∈scope.names,y.2≠.cell)(g:scope.kind=.function)(m:∀y∈scope.names,y.2=.local->scope.names.lookup y.1=some .local)
 (n:scope.names.lookup x=some .local)(nd:[x,y].Nodup)(hc:X.env.cells.lookup y=some c)(o:((relabel scope X.env).names.all λp=>!(p.2==.cell||p.2==.free)||(([(y,c)]:List (Str×Addr)).lookup p.1).isSome)=true)
 (hr:(relabel scope X.env).names.lookup y=some .cell)(q:X.N[k]?=some y)(r:X.env.scope.names.lookup y=some .cell):CompScope X x [y] [k] scope [(y,c)] where
 clos:=b
 nocell:=d
 kind:=g
 names:=m
 own:=n
 nd:=nd
 sub:=λp t=>by
  rw[Qr t];exact hc
 has:=o
 outs:=λj z h=>by
  cases j with
  |zero=>
    let e:y=z:=ln h;subst e;erw[hr,k,c,1,q,by simp [List.lookup],r]
  |succ j=>simp at h
def CompScope.two{X:Cx}{x y z:Str}{scope:Scope}{k l:Nat}{c d:Addr}{cl:List (Str×Addr)}(q:closureFor scope X.env=pure cl)(r:∀y∈scope.names,y.2≠.cell)(t:scope.kind=.function)(u:∀y∈scope.names,y.2=.local->scope.names.lookup y.1=some .local)
 (v:scope.names.lookup x=some .local)(nd:[x,y,z].Nodup)(b:cl=[(z,d),(y,c)]∨cl=[(y,c),(z,d)])(hc:X.env.cells.lookup y=some c)(hd:X.env.cells.lookup z=some d)(B:((relabel scope X.env).names.all λp=>!(p.2==.cell||p.2==.free)||(cl.lookup p.1).isSome)=true)
 (hr:(relabel scope X.env).names.lookup y=some .cell)(C:X.N[k]?=some y)(D:X.env.scope.names.lookup y=some .cell)
 (m:(relabel scope X.env).names.lookup z=some .cell)(n:X.N[l]?=some z)(o:X.env.scope.names.lookup z=some .cell):CompScope X x [y,z] [k,l] scope cl where
 clos:=q
 nocell:=r
 kind:=t
 names:=u
 own:=v
 nd:=nd
 sub:=λp J=>by
  rcases b with rfl | rfl
  all_goals
   rcases Qq J with e | e
   . rw[e];assumption
   . rw[Qr e];assumption
 has:=B
 outs:=λj w h=>by
  let g:y≠z:=λe=>by simp [e]at nd
  match j,h with
  |0,h=>
    let e:y=w:=ln h;subst e;erw[hr,k,c,1,C,6,D];rcases b with rfl | rfl
    . have:(y==z)=false:=#[g,0]
      simp [List.lookup,this]
    . simp [List.lookup]
  |1,h=>
    let e:z=w:=ln h;subst e;erw[m,l,d,1,n,6,o];rcases b with rfl | rfl
    . simp [List.lookup]
    . have:(z==y)=false:=#[Ne.symm g,0]
      simp [List.lookup,this]
  |j+2,h=>simp at h
end L2
namespace Mine
open PySem L2
def HW(x:Str):Prop:=x.length<=20/\(∀c∈x.cps.toList,97<=c/\c<=122)/\x≠"aa"
def iR{x:Str}{l u:Option Int}{c:Nat}(h:c∈(Txt.slice x l u).cps.toList):c∈x.cps.toList:=by
 let e:Txt.slice x l u=StrLaws.sliceText x l u:=rfl;rw[e]at h;unfold StrLaws.sliceText at h
 split at h
 . exact h
 . let%[i,_|b]:=List.mem_filterMap.mp (show c∈(List.filterMap _ _) by simpa using h)
   have:=Array.mem_of_getElem? b
   simpa using this
def mem_append{x y:Str}{c:Nat}(h:c∈(x++y).cps.toList):c∈x.cps.toList∨c∈y.cps.toList:=by
 let e:(x++y).cps.toList=x.cps.toList++y.cps.toList:=by simp [QR]
 rw[e]at h;exact qH0 h
def Dr{zs:List Str}{c:Nat}(h:c∈(Txt.join "" zs).cps.toList):∃z∈zs,c∈z.cps.toList:=by
 let e:Txt.join "" zs=Str.join "" zs:=by
  cases zs with
  |nil=>rfl
  |cons a r=>exact StrLaws.glued_cons "" r a
 rw[e]at h;rcases(PyProof.Rows.mem_join "" c zs).mp h with h | ⟨_,h⟩
 . exact h
 . let e0:(("":Str)).cps.toList=[]:=by decide
   rw[e0]at h;cases h
inductive Tr where
 |is (x:Str) | yes | no | not (a:Tr) | bin (w:Str) (a b:Tr)
def Tr.size:Tr->Nat
 |.is _=>1 | .yes=>1 | .no=>1 | .not a=>a.size+1 | .bin _ a b=>a.size+b.size+1
def Tr.depth:Tr->Nat
 |.is _=>1 | .yes=>1 | .no=>1 | .not a=>a.depth+1 | .bin _ a b=>max a.depth b.depth+1
def Tr.names:Tr->List Str
 |.is x=>[x] | .yes=>[] | .no=>[] | .not a=>a.names | .bin _ a b=>a.names++b.names
def joinW:List Str:=["and","or","odd","same"]
def Tr.ok(ns:List Str):Tr->Prop
 |.is x=>x∈ns | .yes=>True | .no=>True | .not a=>a.ok ns | .bin w a b=>w∈joinW/\a.ok ns/\b.ok ns
inductive TreeAt(H:Hp):V->Tr->Prop
 |is {a:Addr} {x:Str}:H a=some (.tup [.str "is",.str x])->TreeAt H (.ref a) (.is x)
 |yes {a:Addr}:H a=some (.tup [.str "yes"])->TreeAt H (.ref a) .yes
 |no {a:Addr}:H a=some (.tup [.str "no"])->TreeAt H (.ref a) .no
 |not {a:Addr} {v:V} {t:Tr}:H a=some (.tup [.str "not",v])->TreeAt H v t->TreeAt H (.ref a) (.not t)
 |bin {a:Addr} {w:Str} {v u:V} {t r:Tr}:H a=some (.tup [.str w,v,u])->TreeAt H v t->TreeAt H u r->TreeAt H (.ref a) (.bin w t r)
abbrev bO(H H':Hp):Prop:=∀a xs,H a=some (.tup xs)->H' a=some (.tup xs)
def TreeAt.mono(k:bO H b)(h:TreeAt H v t):TreeAt b v t:=by
 induction h with
 |is e=>exact .is (k _ _ e)
 |yes e=>exact .yes (k _ _ e)
 |no e=>exact .no (k _ _ e)
 |not e _ c=>exact .not (k _ _ e) c
 |bin e _ _ d g=>exact .bin (k _ _ e) d g
def bw(s:Same H b):bO H b:=λa _ h=>s a _ h
def bj(F:FeedAt H f)(s:SameBut f H b):bO H b:=λa xs h=>s a _ (λz=>by
 erw[o,t,e,_]at F;rw[z,e]at h;cases h) h
def NamesAt(H:Hp)(a:Addr)(ns:List Str):Prop:=H a=some (.lst (ns.map V.str))∨H a=some (.tup (ns.map V.str))
def NamesAt.ne(F:FeedAt H f)(h:NamesAt H a ns):a≠f:=λz=>by
 erw[o,t,e,_]at F;subst z;rcases h with h | h
 . rw [e]at h;let h':=HO.lst.inj (ln h);cases ns with
   |nil=>cases h'
   |cons x r=>simp at h'
 . rw[e]at h;cases h
def NamesAt.feed(F:FeedAt H f)(s:SameBut f H b)(h:NamesAt H a ns):NamesAt b a ns:=by
 let ne:=h.ne F;rcases h with h | h
 . exact .inl (s _ _ ne h)
 . exact .inr (s _ _ ne h)
def NamesAt.same(s:Same H b)(h:NamesAt H a ns):NamesAt b a ns:=by
 rcases h with h | h
 . exact .inl (s _ _ h)
 . exact .inr (s _ _ h)
def NamesAt.seq{K:W.Frag}(h:NamesAt H a ns):SqL K H a (ns.map V.str)∨SqT K H a (ns.map V.str):=by
 rcases h with h | h
 . exact .inl (fy h)
 . exact .inr (eS h)
def NamesAt.ix{K:W.Frag}{x:V}{Q:VK}(h:NamesAt H a ns)(b:atI (ns.map V.str) i=some x)(q:Q x H):rIxL K (.ref a) (.int i) H Q∨rIxT K (.ref a) (.int i) H Q:=by
 rcases h with h | h
 . exact .inl %[a,_,i,x,1,1,fy h,b|q]
 . exact .inr %[a,_,i,x,1,1,eS h,b|q]
instance spTree(n:Nat):∀(f a:Addr)(room deep:Int)(ns:List Str),vs=[.ref f,.ref a,.int room,.int deep]->FeedAt H f->NamesAt H a ns->ns.length<=6->1<=room->room<=100->1<=deep->deep+1<=(n:Int)+1->(∀(v:V)(t:Tr)(H':Hp),FeedAt H' f->SameBut f H H'->TreeAt H' v t->t.ok ns->(t.size:Int)<=room->(t.depth:Int)<=deep->Q v H'):=1
def pJ{α:Type}{l:List α}{i:Int}(h0:0<=i)(h:i<(l.length:Int)):∃v,atI l i=some v/\v∈l:=by
 let b:i.toNat<l.length:=#[0]
 let q:atI l ((i.toNat:Nat):Int)=some l[i.toNat]:=bd (j3 b);let c:((i.toNat:Nat):Int)=i:=#[0]
 rw[c]at q;erw[_,q,vr b]
end Mine
namespace L2
open PySem PySem.Spec PyProof.Rows
section
variable {X:Cx}
def wM(lo:Int)(n:Nat):List Int:=(List.range n).map λi:Nat=>lo+(i:Int)
def Fm(lo:Int)(n:Nat):(wM lo n).length=n:=by unfold wM;rw[fx,Fn]
def CD{lo:Int}{n:Nat}{b:List Value}(h:ItemsOf (λi v=>∃t,v=Value.int (lo+(i:Int)*1) t) b.toArray n):Vals ((wM lo n).map V.int) b:=by
 erw[h1,h2]at h;let g:b.length=n:=#[h1,0]
 let c:∀(k:Nat)(l:List Value),(∀i v,l[i]?=some v->∃t,v=Value.int (lo+((k+i:Nat):Int)) t)->Vals (((List.range' k l.length).map λi:Nat=>lo+(i:Int)).map V.int) l:=by
  intro k l
  induction l generalizing k with
  |nil=>intro _;exact .nil
  |cons a r j=>
    intro h;let%[t|e]:=h 0 a rfl;rw[ij,List.range'_succ,nn,nn];refine .cons %[t|by simpa using e] (j (k+1) λi v d=>?_);let%[t|e]:=h (i+1) v #[d,0];erw[t,by rw[e];congr 2;omega]
 have:=c 0 b λi v d=>by
  let%[t|e]:=h2 i v #[d,0];erw[t,by simpa using e]
 unfold wM;rw[←g,List.range_eq_range'];exact this
instance ZtListRng(Q:VK)(vs:(List V))(H1:Hp):∀i j:Int,vs=[.int i,.int j]->-(2 ^ 62)<=i/\i<2 ^ 62/\-(2 ^ 62)<=j/\j<2 ^ 62->j-i<=1000->(∀p,H1 p=none->Q (.ref p) (upd H1 p (.lst ((wM i (j-i).toNat).map V.int)))):=0
def EA(b:TA):TE:=λσ H Q=>b σ H λvs c=>ZtListRng Q vs c
def Ad{a b:Expr}{O p2 d c:Pos}(hc:X.calm=true)(D:Gl X "list")(J:X.mg "list"=none)(L:Gl X "range")(M:X.mg "range"=none)(U:PA X [a,b] Y)
 (x:starEach [(.Call (.Name "range" p2) [a,b] [] c:Expr)] X.env=[(false,eval (.Call (.Name "range" p2) [a,b] [] c) X.env)]:=by rfl)(hs:starEach [a,b] X.env=[(false,eval a X.env),(false,eval b X.env)]:=by rfl)(y:starEach [b] X.env=[(false,eval b X.env)]:=by rfl):
 PE X (.Call (.Name "list" O) [.Call (.Name "range" p2) [a,b] [] c] [] d) (EA Y):=by
 exists 4,Q,I,h;apply GV (jN I D J jo ?_);apply Qw ?_ x rfl;rw[x];show wpAny _ _ (spliced ((false,eval (.Call (.Name "range" p2) [a,b] [] c) X.env)::backTo d (starEach [] X.env))) _ _ s;let step:‹X.w› (eval (.Call (.Name "range" p2) [a,b] [] c) X.env) (λv s1=>∃(r:Addr) (i j:Int) (t u k:Tok) (m:Hp),v=.ref r/\#[8] m s1/\IsRange s1.heap r i j 1 t u k/\(-(2 ^ 62)<=i/\i<2 ^ 62/\-(2 ^ 62)<=j/\j<2 ^ 62)/\j-i<=1000/\
  ∀p,m p=none->Q (.ref p) (upd m p (.lst ((wM i (j-i).toNat).map V.int)))) X.xe s:=by
  apply Call_ (jN I L M boot_range (Qw (thn (U c Qh s σ H _ I h) λus s1 ⟨vs,m,z,r1,N⟩=>?_) (by rw[hs,y]) (by rw[y];rfl)));erw[i,j,e,N,q2,q]at N;subst e;cases r1 with
  |cons r B=>
    cases B with
    |cons r' B=>
      cases B;erw[t,1]at r;erw[t',1]at r';apply call_range_2 %[_,i,j,_,_,_,m,1,z.kept λb o e=>ih _ e,IsRange.new ..,N,q2|q]
 apply Qz (thn step λv s1 hv=>?_);erw[r,i,j,t,u,k,m,1,z,hr,%[a1,a2,a3|a4],ab,q]at hv;apply QZ ?_;let e2:Builtin.Range.rangeSize i j 1=(((j-i).toNat:Nat):Int):=by rw[rangeSize_one];split <;> omega
 apply call_list_range (z.ok.hd hc) hr (small_one a1 a2 a3 a4) e2 #[0] λh' tk g c' hk hS C=>?_
 obtain⟨n,rfl⟩:∃n:List Value,g=n.toArray:=%[g.toList|by simp]
 let B:=CD C;let I2:#[8] (upd m ‹s1› (.lst ((wM i (j-i).toNat).map V.int))) { s1 with heap:=h',toks:=tk }:=by
  apply z.turnedNew (ch:=[]) (λb ob _ eb=>hk b ob eb) (λb hb=>absurd hb #[2]) (fz _) %[6,n,c',B|hS];rw[fx,Fm];exact bc #[0]
 erw[.ref ‹s1›,_,I2,1,q _ (z.hok.fresh (fz _))]
instance rSum(K:W.Frag)(xs:List V)(H:Hp)(Q:VK):∀(a:Addr)(ns:List Int),xs=[.ref a]->SqL K H a (ns.map V.int)->(∀n∈ns,0<=n)->ns.sum<2 ^ 63->Q (.int ns.sum) H:=0
def tZ:∀{bs:List Int}{us:List Value}{i:Nat}{v:Value},Vals (bs.map V.int) us->us[i]?=some v->∃b t,bs[i]?=some b/\v=.int b t
 | [],_,_,_,.nil,h=>by simp at h
 |b::_,_,0,_,.cons r _,h=>by
   simp at h
   subst h;erw[t,e]at r;erw[b,t,1,e]
 |_::_,_,i+1,_,.cons _ t,h=>by
   let%[b,t,h1|h2]:=tZ (i:=i) t #[h,0];erw[b,t,by simpa using h1,h2]
def qI{ns:List Int}(h:∀n∈ns,0<=n)(j:Nat):0<=(ns.take j).sum/\(ns.take j).sum<=ns.sum:=by
 induction ns generalizing j with
 |nil=>simp
 |cons a r c=>
   cases j with
   |zero=>
     have:=c (λn b=>h n (pj _ b)) r.length
     rw[mu]at this;let d:=h a mj;simp only[List.take_zero,List.sum_nil,t7];omega
   |succ j=>
     have:=c (λn b=>h n (pj _ b)) j
     let d:=h a mj;simp only[List.take_succ_cons,t7];omega
def qO(ns:List Int)(j:Nat):preSum (λi=>ns[i]?.getD 0) j=(ns.take j).sum:=by
 induction j with
 |zero=>simp;rfl
 |succ j b=>
   show preSum (λi=>ns[i]?.getD 0) j+(λi=>ns[i]?.getD 0) j=_;rw[b,nh,List.sum_append];cases e:ns[j]? with
   |none=>simp [e]
   |some x=>simp [e]
def uj(hc:X.calm=true):iE X (.builtin "sum") (rSum X.K):=by
 exists 4,xs,us,Q,I,r,h;erw[a,ns,1,x,n0,D,q]at h;let%[u,1|y]:=jQ r;cases y;let%[its,r',p|J]:=I.list x;let hl:=r'.length;rw[fx]at hl;let m:a<‹s›:=by erw[o,n,e,_]at p;exact js e
 apply call_sum_walk (Ri p.isList ?_);erw[‹s›,_,_,_,_,_,λi=>ns[i]?.getD 0,1,Walks.list (A:=X.A.in1) (I.ok.hd hc) ‹s› a (nc m) its.toArray,%[%[_,mM _ rfl,1|1]|p.isList.push _],6,6,6,6]
 . intro b c;let g:∀o:Obj,(s.heap.push o).objs.size=‹s›+1:=λo=>by simp [Heap.push]
   show b<(s.heap.push _).objs.size;rw[g];rcases Qq c with e | e
   . rw[e];exact QB _
   . rw[Qr e];exact Sr m
 . intro i v hP;let%[b,t,c|1]:=tZ r' (i:=i) (v:=v) #[hP,0];erw[t,by simp [c]]
 . intro j z;let d:j<ns.length:=by rw[hl];simpa using z
   let s1:=qI n0 (j+1);rw[qO];erw[6,by unfold InLong;omega];let L:=qI n0 j;let e:(ns.take (j+1)).sum=(ns.take j).sum+ns[j]:=by rw[nh,List.sum_append,j3 d];simp
   let n1:=n0 _ (vr d);show InLong (ns[j]?.getD 0);rw[j3 d];show InLong ns[j];unfold InLong;omega
 . intro h' tk t' B;rw[qO,ks,←hl,mu];erw[.int _,H,6,%[|0],q];let C:#[8] H { s with heap:=s.heap.push { cls:=.type "list_iterator",data:=.fields #[.ref a,.int 0 0] } }:=I.kept (t':=s.toks) λb o e=>ih _ e
   apply C.turnedL (t':=tk) (ch:=[‹s›]) (λb o c e=>B b o #[c,0] e) λb c=>?_
   rw[Qr c];exact I.fpOk (fz _) (I.hok.fresh (fz _))
end
def Bp:Slot "reversed" "__iter__" "reversed.__iter__":=Slot.of (owner:="reversed") (n:="__iter__") (by rw[RK,RB];kernel_rfl) ⋯ ⋯ ⋯ (by first | exact .inl ⋯ | exact .inr ⋯) (by rw[RO];kernel_rfl) ⋯
def rv_next:Slot "reversed" "__next__" "reversed.__next__":=Slot.of (owner:="reversed") (n:="__next__") (by rw[RK,RB];kernel_rfl) ⋯ ⋯ ⋯ (by first | exact .inl ⋯ | exact .inr ⋯) (by rw[RO];kernel_rfl) ⋯
def Eo:typeLookup (.type "tuple") "__reversed__"=pure none:=by rw[RK,RB];kernel_rfl
def Cz:entryFor table "reversed.__iter__"=some Builtin.«dict_keyiterator.__iter__»:=entryFor_alias (by kernel_rfl) rfl (show _="dict_keyiterator.__iter__" by decide) (by kernel_rfl)
def vk:entryFor table "reversed.__next__"=some Builtin.«reversed.__next__»:=entryFor_of_tree (by kernel_rfl)
def RevT(h:Heap)(b t:Addr)(i:Int):Prop:=h.get? b=some { cls:=.type "reversed",data:=.fields #[.ref t,rawInt i] }
section
variable {prog:Program}{w:World}{A:Around}{E:#[6]}{s:Shared}{R:Result->Shared->Prop}{it t:Addr}
def RevT.typeIs(h:RevT s.heap it t i):s.TypeIs (.ref it) "reversed":=%[_,h|1]
def vD{Q:#[6]}(h:RevT s.heap it t i)(q:Q (.ref it) s):‹w.A› (pyIter (.ref it)) Q E s:=
 wpAny_pyIter_slot h.typeIs Bp (QC Bp h.typeIs Cz (gh %[0,"reversed",_,h.typeIs,rv_next.lookup|q]) (by rfl))
def tP{i:Nat}{items:Array Value}{x:Value}{Q:Option Value->Shared->Prop}(h:RevT s.heap it t (i:Int))(c:IsTup s.heap t items)(d:items[i]?=some x)(g:(i:Int)<2 ^ 63)
 (q:∀h' tk,RevT h' it t ((i:Int)-1)->Heap.SameBut it s.heap h'->Q (some x) { s with heap:=h',toks:=tk }):‹w.A› (pyNext (.ref it)) Q E s:=by
 let hT:=h.typeIs;let m:i<items.size:=(Array.getElem?_eq_some_iff.mp d).1;unfold pyNext;apply ft (RS (QI hT rv_next (QC rv_next hT vk ?_ (by rfl))));unfold Builtin.«reversed.__next__»;apply ft (J2 (show slotArgs "__next__" 0 %[[.ref it]|[]]=pure (.ref it,[])from rfl) ?_);apply ft (n9 h rfl rfl ?_);apply ft (n9 h rfl rfl ?_);apply D1 (λb=>absurd b #[0]) (λ_=>?_);apply ft (wpAny_specialOf (show s.TypeIs (.ref t) "tuple" from c.typeIs) PyProof.Rows.slot_tuple_getitem.lookup ?_);apply D1 (λb=>absurd b #[2]) (λ_=>?_);apply ft (wpAny_mkInt ?_);let e1:seqIndex? (i:Int) items.size=some i:=(xz (by unfold ixN;rw[Qk #[0],Qk #[0]];simp)).1;apply ft (RS (PyProof.Rows.getItem_tuple (items:=items) (x:=x) c #[0] g e1 d ?_));apply ft (n9 h rfl rfl ?_);apply ft (Sl h #[2] λh' e j=>?_);apply gh %[0|gh (q h' _ ?_ j)];exact e
def y0S:0<=sizeLine:=⋯
def y1S:1<=sizeLine:=⋯
def y2S:2<=sizeLine:=⋯
def y3S:3<=sizeLine:=⋯
def y4S:4<=sizeLine:=⋯
def y5S:5<=sizeLine:=⋯
def y6S:6<=sizeLine:=⋯
def y12S:12<=sizeLine:=⋯
def y18S:18<=sizeLine:=⋯
def y24S:24<=sizeLine:=⋯
def uN{Q:Option Value->Shared->Prop}(hh:A.handled=none)(h:RevT s.heap it t (-1))
 (q:∀h' tk,Heap.ExtBut it s.heap h'->Q none { s with heap:=h',toks:=tk }):‹w.A› (pyNext (.ref it)) Q E s:=by
 let hT:=h.typeIs;unfold pyNext;apply ft (RS (QI hT rv_next (QC rv_next hT vk ?_ (by rfl))));unfold Builtin.«reversed.__next__»;apply ft (J2 (show slotArgs "__next__" 0 %[[.ref it]|[]]=pure (.ref it,[])from rfl) ?_);apply ft (n9 h rfl rfl ?_);apply ft (n9 h rfl rfl ?_);apply D1 (λ_=>?_) (λc=>absurd ⋯ c);apply ft (wpAny_rule ?_);apply ft ?_;show wpAny _ _ (setField (.ref it) 1 (rawInt (-1)) >>= λ_=>setField (.ref it) 0 Value.none) _ _ _;apply ft (Sl h #[2] λh1 e1 d=>?_);apply Sl e1 #[2] λh2 e2 g=>?_
 apply ft ?_;unfold Builtin.SmallTypes.stopIteration newExc newTuple;apply ft (ft (yl ?_ y0S));apply ft (J2 (show firstArgMember (.type "StopIteration") []=pure .none by rfl') ?_);apply yl ?_ (sizeOk_excFields ..);apply wpAny_raiseNew_none hh ?_;apply ft (Sw (T:="StopIteration") %[_,mM _ rfl|1] isSubtype_stop ?_);apply D1 (λ_=>?_) (λc=>absurd rfl c);apply gh (q _ _ ?_);exact(d.extBut.trans g.extBut).trans λb o j e=>ih _ (ih _ e)
def IH:Slot "reversed" "__init__" "object.__init__":=Slot.of (owner:="object") (n:="__init__") (by rw[RK,RB];kernel_rfl) ⋯ ⋯ ⋯ (by first | exact .inl ⋯ | exact .inr ⋯) (by rw[RO];kernel_rfl) ⋯
def CB:TypeCalled "reversed" "reversed.__new__" "object.__init__":=%[4,F.create_reversed,%[_,_|F.mro_reversed],F.made_reversed,F.plain_reversed_new,F.sub_reversed_self|IH]
def Cf:isSubtype (.type "tuple") (.type "dict")=pure false:=by rw[RO];kernel_rfl
def pI{items:Array Value}{Q:#[6]}(c:IsTup s.heap t items)(g:items.size<=sizeLine)
 (q:∀tk,Q (.ref ‹s›) { s with heap:=s.heap.push { cls:=.type "reversed",data:=.fields #[.ref t,rawInt ((items.size:Int)-1)] },toks:=tk }):‹w.A› (call (.type "reversed") [.ref t]) Q E s:=by
 let h63:=kP;apply callType_newIn CB ⋯ (F.typeCall_reversed_1 _) (F.newCall_reversed_1 _) (λ_=>by rfl) F.entry_reversed_new
  (S:=λA R s=>wpAny (model prog w) A.in1 (Builtin.«reversed.__new__» %[[.type "reversed",.ref t]|[]]) (λfin s'=>match fin with | .done f=>R (.ok f) s' | .again d=>d.quiet=true/\codeAny (model prog w) A d R s') (λe s'=>R (.error e) s') s) (λA R s h=>h) ?_
 unfold Builtin.«reversed.__new__»;apply ft (J2 (newClass_reversed _) ?_);apply ft (J2 (a:=()) rfl ?_);apply ft (J2 (a:=()) rfl ?_);apply ft (wpAny_specialOf c.typeIs Eo ?_);apply ft ?_;apply ft (Sw c.typeIs Cf ?_);apply D1 (λb=>absurd b ⋯) (λ_=>?_);apply ft (wpAny_specialOf c.typeIs PyProof.Rows.slot_tuple_getitem.lookup ?_);apply D1 (λ_=>?_) (λb=>absurd ⋯ b);apply gh ?_;apply D1 (λb=>absurd b ⋯) (λ_=>?_);apply ft (len_tuple c #[0] ?_);apply ft (gh ?_);apply ft (yl (data:=.fields #[.ref t,rawInt ((items.size:Int)-1)]) ?_ (by show 2<=sizeLine+2;decide));apply gh ?_;erw[%[_,mM _ rfl|1],q _]
end
end L2
namespace Mine
open PySem L2
def Tr.wf:Tr->Prop
 |.is x=>HW x | .yes=>True | .no=>True | .not a=>a.wf | .bin w a b=>w∈joinW/\a.wf/\b.wf
def Tr.parts:Tr->List Tr
 |.is _=>[] | .yes=>[] | .no=>[] | .not a=>[a] | .bin _ a b=>[a,b]
def Tr.ok_wf{ns:List Str}(c:∀x∈ns,HW x):∀t:Tr,t.ok ns->t.wf
 |.is _,h=>c _ h
 |.yes,_=>trivial
 |.no,_=>trivial
 |.not a,h=>Tr.ok_wf c a h
 |.bin _ a b,⟨h,h1,h2⟩=>%[h,Tr.ok_wf c a h1|Tr.ok_wf c b h2]
def Tr.size_pos:∀t:Tr,1<=t.size
 |.is _=>fz _ | .yes=>fz _ | .no=>fz _ | .not a=>QE .. | .bin _ a b=>QE ..
def Tr.depth_pos:∀t:Tr,1<=t.depth
 |.is _=>fz _ | .yes=>fz _ | .no=>fz _ | .not a=>QE .. | .bin _ a b=>QE ..
def jT(ts:List Tr):Nat:=(ts.map Tr.size).sum
def jj(ts:List Tr):List Str:=(ts.map Tr.names).flatten
def Tr.size_parts(t:Tr):t.size=jT t.parts+1:=by
 cases t <;> simp [Tr.size,Tr.parts,jT]
def Tr.names_parts(t:Tr)(h:∀x,t≠.is x):t.names=jj t.parts:=by
 cases t with
 |is x=>exact absurd rfl (h x)
 |_=>simp [Tr.names,Tr.parts,jj]
def Tr.parts_mem{t u:Tr}(h:u∈t.parts)(w:t.wf):u.wf/\u.depth+1<=t.depth/\u.size+1<=t.size:=by
 cases t with
 |is x=>simp [Tr.parts]at h
 |yes=>simp [Tr.parts]at h
 |no=>simp [Tr.parts]at h
 |not a=>
   rw[Qr h];erw[w,fz _,fz _]
 |bin o a b=>
   erw[_,w1,w2]at w;rcases Qq h with e | e
   . rw [e];erw[w1,6,6]
     . show a.depth+1<=max a.depth b.depth+1;omega
     . show a.size+1<=a.size+b.size+1;omega
   . rw [Qr e];erw[w2,6,6]
     . show b.depth+1<=max a.depth b.depth+1;omega
     . show b.size+1<=a.size+b.size+1;omega
inductive TreesAt(H:Hp):List V->List Tr->Prop
 |nil:TreesAt H [] []
 |cons {v:V} {t:Tr} {vs:List V} {ts:List Tr}:TreeAt H v t->TreesAt H vs ts->TreesAt H (v::vs) (t::ts)
def TreesAt.mono(k:bO H b){ts:List Tr}(h:TreesAt H vs ts):TreesAt b vs ts:=by
 induction h with
 |nil=>exact .nil
 |cons a _ c=>exact .cons (a.mono k) c
def TreesAt.append{ts:List Tr}(h:TreesAt H vs ts)(g:TreesAt H us b):TreesAt H (vs++us) (ts++b):=by
 induction h with
 |nil=>exact g
 |cons a _ c=>exact .cons a c
def TreesAt.length{ts:List Tr}(h:TreesAt H vs ts):vs.length=ts.length:=by
 induction h with
 |nil=>rfl
 |cons _ _ b=>rw[ij,ij,b]
def TreesAt.get{ts:List Tr}(h:TreesAt H vs ts):∀{i:Nat}{v:V},vs[i]?=some v->∃t,ts[i]?=some t/\TreeAt H v t:=by
 induction h with
 |nil=>intro i v e;simp at e
 |cons a _ b=>
   intro i v e;cases i with
   |zero=>cases(ln e);erw[0,a]
   |succ i=>exact b (i:=i) #[e,0]
def AL{w:Str}(h:w∈joinW):w≠"is":=(by decide:∀w∈joinW,w≠("is":Str)) w h
def TreeAt.view(h:TreeAt H v t)(w:t.wf):(∃(a:Addr) (x:Str),v=.ref a/\t=.is x/\HW x/\H a=some (.tup [.str "is",.str x]))∨
 ∃(a:Addr) (o:Str) (xs:List V),v=.ref a/\o≠"is"/\xs.length<=2/\H a=some (.tup (.str o::xs))/\TreesAt H xs t.parts/\(∀x,t≠.is x):=by
 cases h with
 |is e=>exact .inl %[2,w|e]
 |yes e=>exact .inr %[_,_,[],1,4,by simp,e,.nil|λx z=>by cases z]
 |no e=>exact .inr %[_,_,[],1,4,by simp,e,.nil|λx z=>by cases z]
 |not e g=>exact .inr %[_,_,[_],1,4,by simp,e,.cons g .nil|λx z=>by cases z]
 |bin e g b=>exact .inr %[_,_,[_,_],1,AL w.1,by simp,e,.cons g (.cons b .nil)|λx z=>by cases z]
def cut1(o:V):∀xs:List V,xs.length<=2->hJ (o::xs) (some 1) none=xs/\¬ (HT.sIx (o::xs).length 0 (some 1)=0/\HT.sIx (o::xs).length (o::xs).length none=(o::xs).length)
 | [],_=>%[1|λh=>absurd h.1 (show ¬ HT.sIx 1 0 (some 1)=0 by decide)]
 | [_],_=>%[1|λh=>absurd h.1 (show ¬ HT.sIx 2 0 (some 1)=0 by decide)]
 | [_,_],_=>%[1|λh=>absurd h.1 (show ¬ HT.sIx 3 0 (some 1)=0 by decide)]
 |_::_::_::_,h=>absurd h #[2]
def Tr.names_len:∀t:Tr,t.names.length<=t.size
 |.is _=>fz _
 |.yes=>kr _
 |.no=>kr _
 |.not a=>Nat.le_succ_of_le (Tr.names_len a)
 |.bin _ a b=>by
   have:=Tr.names_len a
   have:=Tr.names_len b
   show(a.names++b.names).length<=a.size+b.size+1;rw[gl];omega
end Mine
namespace L2
open PySem PySem.Spec PyProof.Rows
section
variable {prog:Program}{w:World}{A:Around}{E:#[6]}{s:Shared}
def Lc(xs:Array Value)(x:Value):Nat->Option PySem.Fin×Unit->Sem (ForInStep (Option PySem.Fin×Unit)):=λi _=>match xs[i]? with
 |some y=>do
   let b ←eqBool y x
   if b=true then do
    let r ←retInt (i:Int)
    pure (ForInStep.done (some r,()))
    else pure (ForInStep.yield (none,()))
 |_=>pure (ForInStep.yield (none,()))
def yN{xs:Array Value}{x:Value}{e:Value->Bool}(he:∀y∈xs,SeqAt.EqAt A s y x (e y)){j:Nat}(u:j<xs.size)(o:e xs[j]=true)(t:∀(m:Nat) (v:m<xs.size),m<j->e xs[m]=false){Q:Option PySem.Fin×Unit->Shared->Prop}
 (q:Q (some (.done (.ret (.int (j:Int) s.toks))),()) { s with toks:=s.toks+1 }):∀(n k:Nat),k<=j->j<k+n->k+n<=xs.size->‹w.A› (forIn (List.range' k n 1) ((none:Option PySem.Fin),()) (Lc xs x)) Q E s
 |0,k,h1,h2,_=>absurd h2 #[0]
 |n+1,k,h1,h2,h3=>by
   let g:k<xs.size:=#[0]
   rw [List.range'_succ,List.forIn_cons];apply ft ?_;let e1:Lc xs x k ((none:Option PySem.Fin),())=(do
    let b ←eqBool xs[k] x
    if b=true then do
     let r ←retInt (k:Int)
     pure (ForInStep.done (some r,()))
     else pure (ForInStep.yield (none,()))):=by
    unfold Lc;rw[Array.getElem?_eq_getElem g]
   rw[e1];apply ft (he _ (Array.getElem_mem g) prog w _ _ ?_)
   by_cases c:k=j
   . subst c;rw[o];apply D1 (λ_=>?_) (λd=>absurd rfl d);apply ft ?_;apply ft (wpAny_mkInt ?_);apply gh ?_;apply gh ?_;exact gh q
   . rw[t k g #[0]];apply D1 (λd=>absurd d ⋯) (λ_=>?_);apply gh ?_;exact yN he u o t q n (k+1) #[0] #[0] #[0]
def tR(l:Addr)(items:Array Value)(n:Nat)(b:Option Addr)(c:Array (Option Value))(x:Value)(e:Value->Bool)(j:Nat)(d:j<items.size)(g:e items[j]=true)(o:∀(m:Nat) (r:m<items.size),m<j->e items[m]=false):
 Meets (Builtin.«tuple.index» { pos:=[.ref l,x] }) λA R s=>s.heap.get? l=some { cls:=.type "tuple",dict:=b,data:=.seq items n,slots:=c }/\(∀y∈items,SeqAt.EqAt A.in1 s y x (e y))/\R (.ok (.ret (.int (j:Int) s.toks))) { s with toks:=s.toks+1 }:=by
 intro prog w A R s ⟨hl,he,q⟩;unfold Builtin.«tuple.index»;apply ft (J2 (a:=(Value.ref l,[x])) rfl ?_);apply ft (wpAny_tupleItemsOf hl rfl ?_);apply ft (gh ?_);apply ft (gh ?_);apply ft ?_;rw[Std.Legacy.Range.forIn_eq_forIn_range'];let e1:Std.Legacy.Range.size [0:min items.size items.size]=items.size:=by simp [Std.Legacy.Range.size]
 rw[e1];apply yN he d g o ?_ items.size 0 (kr _) #[0] #[0];exact gh q
end
section
variable {X:Cx}
def iC(z:Str):List Str->Option Nat
 | []=>none
 |a::r=>if a=z then some 0 else(iC z r).map (·+1)
def yh:∀{ns:List Str}{j:Nat},iC z ns=some j->ns[j]?=some z/\∀m,m<j->∀y,ns[m]?=some y->y≠z
 | [],_,h=>by simp [iC]at h
 |a::r,j,h=>by
   unfold iC at h
   by_cases c:a=z
   . rw[Qk c]at h;cases h;erw[by simp [c],λm b=>absurd b #[0]]
   . rw [Qi c]at h;let%[i,e|1]:=qs h;let%[h1|h2]:=yh e;erw[by simpa using h1,λm b y d=>?_];cases m with
     |zero=>cases(ln d);exact c
     |succ m=>exact h2 m #[0] y #[d,0]
def sg:∀{bs:List Str}{us:List Value}{i:Nat}{v:Value},Vals (bs.map V.str) us->us[i]?=some v->∃b t,bs[i]?=some b/\v=.str b t
 | [],_,_,_,.nil,h=>by simp at h
 |b::_,_,0,_,.cons r _,h=>by
   simp at h
   subst h;erw[t,e]at r;erw[b,t,1,e]
 |_::_,_,i+1,_,.cons _ t,h=>by
   let%[b,t,h1|h2]:=sg (i:=i) t #[h,0];erw[b,t,by simpa using h1,h2]
def iS(ns:List Str):(ns.map V.str).all kX=true:=by
 induction ns with
 |nil=>rfl
 |cons a r b=>rw[nn,Q3,b];rfl
def qV{ns:List Str}{j:Nat}(r:Vals (ns.map V.str) its)(h:iC z ns=some j):
 ∃c:j<its.toArray.size,eqU (.str z) its.toArray[j]=true/\∀(m:Nat)(d:m<its.toArray.size),m<j->eqU (.str z) its.toArray[m]=false:=by
 let%[h1|h2]:=yh h;let hl:=r.length;rw[fx]at hl;let e:j<ns.length:=(Qs h1).1;let c:j<its.toArray.size:=by rw[ks,←hl];exact e
 erw[c,6,λm d g=>?_]
 . let%[b,t,e1|e2]:=sg r (i:=j) (v:=its.toArray[j]) #[2];rw[e2];rw[h1]at e1;cases e1;show(z==z)=true
   simp
 . let%[b,t,e1|e2]:=sg r (i:=m) (v:=its.toArray[m]) #[2];rw[e2];show(b==z)=false
   have:=h2 m g b e1
   simpa using this
instance rIndexT(K:W.Frag)(x:V)(vs:List V)(H:Hp)(Q:VK):∀(a:Addr)(ns:List Str)(z:Str)(j:Nat),x=.ref a->vs=[.str z]->SqT K H a (ns.map V.str)->iC z ns=some j->Q (.int (j:Int)) H:=0
def Dm:MtR X "tuple.index" (rIndexT X.K):=by
 exists 4,x,vs,v,us,Q,I,c,d,h;erw[a,ns,z,j,1,1,e,g,q]at h;cases c;erw[u,1,m]at d.one;let%[its,r,%[%[cls,o,data|t],b,hc,n|hd]|D]:=I.tuple e;simp only at hc hd;subst hc hd;let%[B,e1|e2]:=qV r g;apply J4 F.slot_tuple_index %[_,b|1] F.entry_tuple_index (F.args_tuple_index_2 _ _) (tR a its.toArray n o t u (eqU (.str z)) j B e1 e2) ⟨b,λy C=>?_,?_⟩
 . exact ip m rfl r (iS ns) y #[C,0]
 . erw[.int (j:Int),H,I.tok _,%[|0],q]
instance rIndexL(K:W.Frag)(x:V)(vs:List V)(H:Hp)(Q:VK):∀(a:Addr)(ns:List Str)(z:Str)(j:Nat),x=.ref a->vs=[.str z]->SqL K H a (ns.map V.str)->iC z ns=some j->Q (.int (j:Int)) H:=0
def Do:MtR X "list.index" (rIndexL X.K):=by
 exists 4,x,vs,v,us,Q,I,d,e,h;erw[a,ns,z,j,1,1,g,m,q]at h;cases d;erw[u,1,o]at e.one;let%[its,r,%[%[cls,t,data|B],n,b,hc,C|hd]|J]:=I.list g;simp only at hc hd;subst hc hd;let%[c,e1|e2]:=qV r m;let h63:=kP;let hl:=r.length;apply J4 F.slot_list_index %[_,b|1] F.entry_list_index (F.args_list_index_2 _ _) (SeqAt.list_indexAt a its.toArray n t B u (eqU (.str z)) j c (by rw[ks]at c;omega) e1 e2) ⟨b,λy D=>?_,?_⟩
 . exact ip o rfl r (iS ns) y #[D,0]
 . erw[.int (j:Int),H,I.tok _,%[|0],q]
end
section
variable {κ:Type}[DecidableEq κ]
def iT(b:List (κ×V))(k:κ):Option V:=(b.find? λc=>decide (c.1=k)).map (·.2)
def oS(c:List (κ×V))(k:κ)(v:V):List (κ×V):=
 if(c.any λb=>decide (b.1=k))=true then c.map (λb=>if b.1=k then(b.1,v)else b)else c++[(k,v)]
def eG{p:κ×V}{r:List (κ×V)}{k:κ}(e:p.1=k):iT (p::r) k=some p.2:=by simp [iT,Q1,e]
def eI{p:κ×V}{r:List (κ×V)}{k:κ}(e:¬ p.1=k):iT (p::r) k=iT r k:=by simp [iT,Q1,e]
def ou(k:κ):∀b:List (κ×V),(b.any λc=>decide (c.1=k))=(iT b k).isSome
 | []=>rfl
 |p::r=>by
   rw[Q4]
   by_cases e:p.1=k
   . simp only[eG e,j2 e,Bool.true_or,Option.isSome_some]
   . rw[eI e,ll e,Bool.false_or];exact ou k r
def xM(k j:κ)(y:V):∀c:List (κ×V),iT (c.map λb=>if b.1=k then(b.1,y)else b) j=(iT c j).map λx=>if j=k then y else x
 | []=>rfl
 |p::r=>by
   let d:=xM k j y r;rw[nn]
   by_cases h:p.1=k
   . rw [Qk h]
     by_cases e:p.1=j
     . rw[eG (p:=(p.1,y)) e,eG e,RL,Qk (e.symm.trans h)]
     . rw[eI (p:=(p.1,y)) e,eI e,d]
   . rw [Qi h]
     by_cases e:p.1=j
     . rw[eG (p:=p) e,eG e,RL,Qi (λz=>h (e.trans z))]
     . rw[eI (p:=p) e,eI e,d]
def uW(k j:κ)(y:V):∀c:List (κ×V),iT c k=none->iT (c++[(k,y)]) j=if j=k then some y else iT c j
 | [],_=>by
   by_cases e:k=j
   . rw[Qk e.symm];exact eG (p:=(k,y)) e
   . rw[Qi (λz=>e z.symm)];exact eI (p:=(k,y)) e
 |p::r,b=>by
   rw[List.cons_append];let d:¬ p.1=k:=λz=>by rw[eG z]at b;cases b
   rw[eI d]at b;let g:=uW k j y r b
   by_cases e:p.1=j
   . rw[eG e,eG e,Qi (λz=>d (e.trans z))]
   . rw[eI e,eI e,g]
def Ej(b:List (κ×V))(k j:κ)(y:V):iT (oS b k y) j=if j=k then some y else iT b j:=by
 unfold oS
 by_cases a:(b.any λc=>decide (c.1=k))=true
 . rw [Qk a,xM];rw[ou]at a
   by_cases e:j=k
   . let%[x|d]:=Option.isSome_iff_exists.mp a;rw[Qk e,e,d,RL,Qk rfl]
   . rw [Qi e];cases iT b j with
     |none=>rfl
     |some x=>rw[RL,Qi e]
 . rw [Qi a];apply uW k j y b ?_;rw[ou]at a;cases q:iT b k with
   |none=>rfl
   |some x=>rw[q]at a;exact(a rfl).elim
def lS(b:List (κ×V))(k:κ)(v:V):(oS b k v).length<=b.length+1:=by
 unfold oS
 split
 . rw[fx];omega
 . rw[gl,ij,o0];omega
def RelO.isSome_eq(r:RelO o u):o.isSome=u.isSome:=by
 cases o with
 | none=>cases u with
   |none=>rfl
   |some _=>exact(show False from r).elim
 | some _=>cases u with
   |none=>exact(show False from r).elim
   |some _=>rfl
def RelO.getD(r:RelO o u)(rd:RelV d d'):RelV (o.getD d) (u.getD d'):=by
 cases o with
 | none=>cases u with
   |none=>exact rd
   |some _=>exact(show False from r).elim
 | some _=>cases u with
   |none=>exact(show False from r).elim
   |some _=>exact r
def KV.val{g:List (κ×V)}{vs:List (κ×Value)}(r:KV g vs)(k:κ):RelO (iT g k) (valueAt vs k):=by
 unfold KV at r
 induction r with
 |nil=>exact True.intro
 | @cons p q ps c h t j=>
   erw[h1,h2]at h
   by_cases e:p.1=k
   . let d:q.1=k:=h1.symm.trans e;let b:valueAt (q::c) k=some q.2:=by simp [valueAt,Q1,d]
     rw[eG e,b];exact h2
   . let d:¬ q.1=k:=λz=>e (h1.trans z)
     let b:valueAt (q::c) k=valueAt c k:=by simp [valueAt,Q1,d]
     rw[eI e,b];exact j
def KV.any{c:List (κ×V)}{vs:List (κ×Value)}(r:KV c vs)(k:κ):(c.any λb=>decide (b.1=k))=vs.any λb=>decide (b.1=k):=by
 unfold KV at r
 induction r with
 |nil=>rfl
 |cons h t d=>rw[Q4,Q4,d,h.1]
def KV.repl{c:List (κ×V)}{vs:List (κ×Value)}(r:KV c vs)(k:κ)(d:RelV y u):
 KV (c.map λb=>if b.1=k then(b.1,y)else b) (vs.map λb=>if b.1=k then(b.1,u)else b):=by
 unfold KV at r ⊢
 induction r with
 |nil=>exact .nil
 | @cons p q ps j h t g=>
   rw[nn,nn];refine .cons ?_ g;erw[h1,h2]at h
   by_cases e:p.1=k
   . rw[Qk e,Qk (h1.symm.trans e)];erw[h1,d]
   . rw[Qi e,Qi (λz=>e (h1.trans z))];erw[h1,h2]
def KV.put{b:List (κ×V)}{vs:List (κ×Value)}(r:KV b vs)(k:κ)(c:RelV y u):KV (oS b k y) (stored vs k u):=by
 unfold oS stored;rw[r.any k]
 by_cases e:(vs.any λd=>decide (d.1=k))=true
 . rw[Qk e,Qk e];exact r.repl k c
 . rw[Qi e,Qi e];exact Paired.snoc r %[1|c]
def KV.length{b:List (κ×V)}{vs:List (κ×Value)}(r:KV b vs):b.length=vs.length:=Paired.length r
end
def GQ(r:RelV (kV k) u):(dR P w).is k u=true:=by
 cases k with
 |inl i=>let%[t|e]:=(show ∃t,u=Value.int i t from r);subst e;exact yG P w i t
 |inr x=>let%[t|e]:=(show ∃t,u=Value.str x t from r);subst e;exact yF P w x t
def vE:∀{b:List Key}{us:List Value},Vals (b.map kV) us->ItemsAre (dR P w) b us
 | [],_,r=>by rw[List.map_nil]at r;cases r;exact .nil
 |k::b,_,r=>by
   rw[nn]at r;cases r with
   |cons h t=>exact .cons (GQ h) (vE t)
abbrev KT(H:Hp):List (List Key×V)->List (List Key×Addr×Value)->Prop:=Paired λp q=>p.1=q.1/\H q.2.1=some (.tup (p.1.map kV))/\RelV p.2 q.2.2
def KT.val{g:List (List Key×V)}{xs:List (List Key×Addr×Value)}(r:KT H g xs)(k:List Key):RelO (iT g k) ((atKey xs k).map (·.2)):=by
 induction r with
 |nil=>exact True.intro
 | @cons p q ps c h t j=>
   erw[h1,_,h2]at h
   by_cases e:p.1=k
   . let d:q.1=k:=h1.symm.trans e;let b:atKey (q::c) k=some q.2:=by simp [atKey,Q1,d]
     rw[eG e,b];exact h2
   . let d:¬ q.1=k:=λz=>e (h1.trans z)
     let b:atKey (q::c) k=atKey c k:=by simp [atKey,Q1,d]
     rw[eI e,b];exact j
def KT.repl{c:List (List Key×V)}{xs:List (List Key×Addr×Value)}(r:KT H c xs)(k:List Key)(d:RelV y u):
 KT H (c.map λb=>if b.1=k then(b.1,y)else b) (xs.map (putAt k u)):=by
 induction r with
 |nil=>exact .nil
 | @cons p q ps j h t g=>
   rw[nn,nn];refine .cons ?_ g;erw[h1,h2,h3]at h;unfold putAt
   by_cases e:p.1=k
   . rw[Qk e,Qk (h1.symm.trans e)];erw[h1,h2,d]
   . rw[Qi e,Qi (λz=>e (h1.trans z))];erw[h1,h2,h3]
def KT.put{c:List (List Key×V)}{xs:List (List Key×Addr×Value)}(r:KT H c xs)(k:List Key){b:Addr}(g:H b=some (.tup (k.map kV)))(d:RelV y u):
 KT H (oS c k y) (storedH xs k b u):=by
 let e:(c.any λj=>decide (j.1=k))=(atKey xs k).isSome:=by
  rw[ou,(r.val k).isSome_eq,Option.isSome_map]
 unfold oS storedH;rw[e]
 by_cases q:(atKey xs k).isSome=true
 . rw[Qk q,Qk q];exact r.repl k d
 . rw[Qi q,Qi q];exact Paired.snoc r %[1,g|d]
def KT.keeps{c:Hp}{d:List (List Key×V)}{xs:List (List Key×Addr×Value)}(r:KT H d xs)(e:∀b ys,H b=some (.tup ys)->c b=some (.tup ys)):KT c d xs:=
 Paired.mapP r λ_ _ z=>%[z.1,e _ _ z.2.1|z.2.2]
section
variable {P:Program}{w:World}{H:Hp}{h:Heap}{a:Addr}
def JT(ok:HOk P w H h)(e:Rd H a u):ObjOk P w H h a u:=e.ok ok
def Hx{b:List (Key×V)}(ok:HOk P w H h)(e:Rd H a (.dK b)):b.length<=sizeLine/\(a==sysModules)=false/\∃vs,KV b vs/\h.DictOf (dR P w) a vs:=
 show ObjOk P w H h a (.dK b)from JT ok e
def dk_of{b:List (Key×V)}(ok:HOk P w H h)(e:H a=some (.dK b)):b.length<=sizeLine/\(a==sysModules)=false/\∃vs,KV b vs/\h.DictOf (dR P w) a vs:=Hx ok (.inl e)
def AJ{b:List Key}(ok:HOk P w H h)(e:H a=some (.tup (b.map kV))):(tupleKind (dR P w)).is h b a:=by
 let%[_,its,r,%[o,h1,h2,n|h3]|_]:=(show ObjOk P w H h a (.tup (b.map kV))from ok a _ e)
 erw[o,its.toArray,n,h1,h2,h3,by simpa using vE r]
def Hs{c:List (List Key×V)}(ok:HOk P w H h)(e:Rd H a (.dT c)):c.length<=sizeLine/\(a==sysModules)=false/\
 ∃xs,KT H c xs/\h.DictOfH (tupleKind (dR P w)) a xs:=by
 let%[z,y,xs,r,o,g,j,h1,h2,h3,h4|h5]:=(show ObjOk P w H h a (.dT c)from JT ok e)
 erw[z,y,xs,r,o,g,j,h1,h2,h3,h4,λx b=>?_,h5];let all:∀{l:List (List Key×V)}{m:List (List Key×Addr×Value)},KT H l m->∀x∈m,(tupleKind (dR P w)).is h x.1 x.2.1:=by
  intro l m q
  induction q with
  |nil=>intro x b;exact nomatch b
  | @cons p q ps u d t n=>
    intro x b;rcases Qq b with e | b
    . subst e;exact AJ ok (by rw[←d.1];exact d.2.1)
    . exact n x b
 exact all r x b
def dt_of{b:List (List Key×V)}(ok:HOk P w H h)(e:H a=some (.dT b)):b.length<=sizeLine/\(a==sysModules)=false/\
 ∃xs,KT H b xs/\h.DictOfH (tupleKind (dR P w)) a xs:=Hs ok (.inl e)
end
def DGet(H:Hp)(a:Addr)(y:V)(r:Option V):Prop:=
 (∃c k,Rd H a (.dK c)/\y=kV k/\r=iT c k)∨∃c k b,Rd H a (.dT c)/\y=.ref b/\H b=some (.tup (k.map kV))/\r=iT c k
def DPut(H:Hp)(a:Addr)(y v:V)(d:Hp):Prop:=
 (∃c k,H a=some (.dK c)/\y=kV k/\c.length<sizeLine/\d=upd H a (.dK (oS c k v)))∨
 ∃c k b,H a=some (.dT c)/\y=.ref b/\H b=some (.tup (k.map kV))/\c.length<sizeLine/\d=upd H a (.dT (oS c k v))
def DGet.k{H:Hp}{a:Addr}{b:List (Key×V)}{k:Key}(e:H a=some (.dK b)):DGet H a (kV k) (iT b k):=.inl %[b,k,.inl e,1|1]
def DPut.k{H:Hp}{a:Addr}{b:List (Key×V)}{k:Key}(e:H a=some (.dK b))(hl:b.length<sizeLine):DPut H a (kV k) v (upd H a (.dK (oS b k v))):=.inl %[b,k,e,1,hl|1]
section
variable {X:Cx}{Qh:#[7]}{σ:St}{H:Hp}{s:Shared}{a:Addr}{y v:V}{u r:Value}{o:Option V}{A:Around}{E:#[6]}
def Inv.big(I:#[8] H s):sysModules<‹s›:=by
 let h:mainGlobals<‹s›:=(I.mod.glob.keeps I.bk).lt;exact Nat.lt_trans ⋯ h
def BO{h':Heap}{t':Nat}(I:#[8] H s)(d:Mut (H a))(g:Heap.SameBut a s.heap h')(he:∃q,h'.get? a=some q)(new:ObjOk X.prog X.w (upd H a c) h' a c):
 #[8] (upd H a c) { s with heap:=h',toks:=t' }:=
 I.write (x:=a) (e:=a) d (.inl rfl) (λb q j z=>(g.2 b j).trans z) he new
def Ls{d:Hp}{h':Heap}{b:List (Key×V)}{vs:List (Key×Value)}(z:b.length<=sizeLine)(hd:(a==sysModules)=false)(c:KV b vs)(e:h'.DictOf (dR P w) a vs):
 ObjOk P w d h' a (.dK b):=%[z,hd,vs,c|e]
def DQ{Q:Unit->Shared->Prop}(O:A.units+1<cLine)(I:#[8] H s)(g:DPut H a y v U)(J:RelV y u)(L:RelV v r)(h:∀s',#[8] U s'->Q () s'):
 wpAny (model X.prog X.w) A (setItem (.ref a) u r) Q E s:=by
 rcases g with⟨m,k,e,t,l,x⟩ | ⟨m,k,b,e,t,M,l,x⟩
 . subst t x;let%[z,hd,vs,d|B]:=dk_of I.hok e;let C:vs.length<=sizeLine:=by rw[←d.length];exact z
   let hl:(oS m k v).length<=sizeLine:=by have:=lS m k v;omega
   apply wpAny_setItem_pairs (hsz:=C) (GQ J) B λh' j D=>h _ ?_
   let he:∃q,h'.get? a=some q:=let⟨q,_,_,n,_⟩:=j;%[q|n]
   exact BO I (by rw[e];exact True.intro) D he (Ls hl hd (d.put k L) j)
 . subst t x;cases(show u=Value.ref b from J);let%[z,hd,xs,d|B]:=dt_of I.hok e;let C:xs.length<=sizeLine:=by rw[←Paired.length d];exact z
   let hl:(oS m k v).length<=sizeLine:=by have:=lS m k v;omega
   apply wpAny_setItem_heap (hsz:=C) (tupleKind_room_in1 O) (AJ I.hok M) B λh' j D=>h _ ?_
   erw[q,Y,ep,n,h2,h3,h4,_,h5]at j;apply BO I (by rw[e];exact True.intro) D ⟨q,n⟩ ⟨hl,hd,_,(d.put k M L).keeps λc ys N=>?_,q,Y,ep,n,h2,h3,h4,h5⟩;rw[aB (bV N e (λz=>nomatch z))];exact N
end
instance ZsDPut(D:Ends)(σ:St)(v:V)(x:V)(y:V)(H3:Hp):∀a H4,x=.ref a->DPut H3 a y v H4->D.nx σ H4:=0
def sDPut(b ty c:TE):TS:=λD σ H=>c σ H λv d=>b σ d λx e=>ty σ e λy g=>ZsDPut D σ v x y g
section
variable {X:Cx}{o i e value:Expr}{pos pos' tpos:Pos}{td ty tv:TE}
def IN(b:X.A.units+1<cLine)(c:PE X o td)(d:PE X i ty)(j:PE X value tv)(m:swapsWith value (some (.Subscript o i pos')) pos.line X.env=pure false):
 PS X (.Assign [.Subscript o i pos'] value pos) (sDPut td ty tv):=by
 exists 4,D,I,h;apply wpAny_Assign_Subscript (thn (j Qh s σ H _ I h) λr s1 ⟨v,n,q,t,z⟩=>thn (c Qh s1 σ n _ q z) λu B ⟨x,C,J,L,M⟩=>thn (d Qh B σ C _ J M) λiv s3 ⟨y,H3,N,O,a,U,ex,g,Y⟩=>?_) m;subst ex;obtain rfl:u=Value.ref a:=L;exact DQ b N g O t λs4 I4=>%[σ,U,I4|Y]
end
def Hy{P:Program}{w:World}{H:Hp}(h:Heap)(b:sysModules<h.objs.size):ObjOk P w H (h.push { cls:=.type "dict",data:=.dict #[] }) h.objs.size (.dK []):=
 %[kr _,beq_eq_false_iff_ne.mpr (Ne.symm (nc b)),[],.nil|Heap.DictOf.new h]
def Kl:TE:=λ_ H Q=>∀p,H p=none->Q (.ref p) (upd H p (.dK []))
section
variable {X:Cx}{pos:Pos}
def FB:PE X (.Dict [] [] pos) Kl:=λQh s σ H Q I h=>
 wpAny_Dict_empty %[.ref ‹s›,_,I.laid (a:=‹s›) (o:=.dK []) (t':=s.toks) (λ_ _ q=>ih _ q) (fz _) (Hy s.heap I.big),1|h _ (I.hok.fresh (fz _))]
end
structure M2(X:Cx)(o:Expr)(m:Str)(Qm:Pos)(e f:Expr)(Qo:Pos):Prop where
 base:attributeBase o m X.env (eval o X.env)=eval o X.env
 few:((backTo Qo (starEach [e,f] X.env)).all (λx=>!x.1)&&(backToKw Qo (keywordEach [] X.env)).all (λx=>x.1.isSome)
  &&decide (([e,f]:List Expr).length+([]:List Keyword).length+(if([]:List Keyword).isEmpty then 0 else 1)<30))=true
 line:(Qm.endLine==Qo.line)=true
 trees:backTo Qo (starEach [e,f] X.env)=[(false,eval e X.env),(false,eval f X.env)]
def IsD(H:Hp)(a:Addr):Prop:=(∃b,Rd H a (.dK b))∨∃b,Rd H a (.dT b)
def KY{σ:St}(I:#[8] H s)(d:IsD H a):
 s.TypeIs (.ref a) "dict"/\(∀b,Value.ref a=.ref b->∃c,s.heap.get? b=some c/\c.dict=none)/\(a==sysModules)=false:=by
 rcases d with⟨j,e⟩ | ⟨j,e⟩
 . let%[_,hd,vs,_|g]:=Hx I.hok e;erw[g.typeIs,λb q=>?_,hd];cases q;erw[c,_,_,h1,h2,_]at g;erw[c,h1,h2.2.1]
 . let%[_,hd,xs,_|g]:=Hs I.hok e;erw[g.typeIs,λb q=>?_,hd];cases q;erw[c,_,_,h1,h2,_]at g;erw[c,h1,h2.2.1]
section
variable {X:Cx}{Qh:#[7]}{σ:St}{H:Hp}{s:Shared}{a:Addr}{y d:V}{u r:Value}{o:Option V}{A:Around}{E:#[6]}
def Lu{Q:#[6]}(t:A.units+1<cLine)(I:#[8] H s)(g:DGet H a y o)(n:RelV y u)(rd:RelV d r)(h:∀q s',#[8] H s'->RelV (o.getD d) q->Q q s'):
 wpAny (model X.prog X.w) A (call (.builtin "dict.get") [.ref a,u,r]) Q E s:=by
 rcases g with⟨v,k,e,m,l⟩ | ⟨v,k,b,e,m,x,l⟩
 . subst m;let%[z,hd,vs,c|j]:=Hx I.hok e;apply call_meetsIn Sd j.typeIs PySem.F.entry_dict_get (PySem.F.args_dict_get_3 _ _ _) (meets_dict_get_default (dR X.prog X.w) a (GQ n) hd r) %[_,j.mapOf|h _ _ (I.tok _) ?_];rw[l];exact(c.val k).getD rd
 . subst m;cases(show u=Value.ref b from n);let%[z,hd,xs,c|j]:=Hs I.hok e;apply call_meetsIn Sd j.typeIs PySem.F.entry_dict_get (PySem.F.args_dict_get_3 _ _ _) (meetsH_dict_get_default (tupleKind (dR X.prog X.w)) a b hd r) %[tupleKind_room_in1 t,k,xs,AJ I.hok x,j|h _ _ (I.tok _) ?_];rw[l];exact(c.val k).getD rd
end
instance ZtDGet2(ty:TE)(tx:TE)(σ:St)(Q:VK)(x:V)(H1:Hp):∀a,x=.ref a->IsD H1 a->(ty σ H1 λy H2=>tx σ H2 λz H3=>∃o,DGet H3 a y o/\Q (o.getD z) H3):=0
def Km(b ty c:TE):TE:=λσ H Q=>b σ H λx d=>ZtDGet2 ty c σ Q x d
section
variable {X:Cx}{o e f:Expr}{Qm Qo:Pos}{td ty tx:TE}
def FC(j:X.A.units+1<cLine)(n:PE X o td)(he:PE X e ty)(hf:PE X f tx)(m:M2 X o "get" Qm e f Qo):PE X (.Call (.Attribute o "get" Qm) [e,f] [] Qo) (Km td ty tx):=by
 exists 4,Q,I,h;apply wpAny_Call_method m.base m.few m.line PySem.F.plainAttrs_dict Sd PySem.F.type_dict_get (thn (n Qh s σ H _ I h) λu s1 ⟨x,q,c,r,a,ex,d,t⟩=>?_);subst ex;obtain rfl:u=Value.ref a:=r;let%[t1,v|_]:=KY c d;erw[t1,v,6];rw[m.trees];apply Ra rfl (Re (Qz (thn (he Qh s1 σ q _ c t) λiv B ⟨y,C,D,J,L⟩=>
  Qz (thn (hf Qh B σ C _ D L) λfv s3 ⟨z,M,N,O,ov,g,U⟩=>QZ ?_))))
 exact Lu j N g J O λw' s4 Y b=>%[_,M,Y,b|U]
end
section
variable {X:Cx}
def Inv.tupD{σ:St}{a:Addr}{xs:List V}(I:#[8] H s)(h:H a=some (.tup xs)):∃b,s.heap.get? a=some b/\b.dict=none:=by
 let%[_,_,_,_,o,e|d]:=(show ObjOk X.prog X.w H s.heap a (.tup xs)from I.hok a _ h)
 erw[o,e,d]
instance ZtIndex(t:TA)(σ:St)(Q:VK)(x:V)(H1:Hp):∀(a:Addr)(ns:List Str),x=.ref a->H1 a=some (.lst (ns.map V.str))∨H1 a=some (.tup (ns.map V.str))->(t σ H1 λvs H2=>(H2 a=H1 a)/\∃(z:Str)(j:Nat),vs=[.str z]/\iC z ns=some j/\Q (.int (j:Int)) H2):=0
def Kj(K:W.Frag)(to:TE)(t:TA):TE:=λσ H Q=>to σ H λx b=>ZtIndex t σ Q x b
variable {o e:Expr}{es:List Expr}{to:TE}{t:TA}{Qm Qo:Pos}
def yi(pl:PlainAttrs "list")(pt:PlainAttrs "tuple")(O:PE X o to)(U:PA X (e::es) t)
 (m:attributeBase o "index" X.env (eval o X.env)=eval o X.env:=by rfl)
 (r:((backTo Qo (starEach (e::es) X.env)).all (λx=>!x.1)&&(backToKw Qo (keywordEach [] X.env)).all (λx=>x.1.isSome)
  &&decide ((e::es).length+([]:List Keyword).length+(if([]:List Keyword).isEmpty then 0 else 1)<30))=true:=by rfl)
 (q:(Qm.endLine==Qo.line)=true:=by rfl) (Y:starEach (e::es) X.env=(false,eval e X.env)::starEach es X.env:=by rfl) (g:(backTo Qo (starEach es X.env)).any (·.1)=false:=by rfl) :
 PE X (.Call (.Attribute o "index" Qm) (e::es) [] Qo) (Kj X.K to t):=by
 exists 4,Q,I,h;apply wpAny_Call_method_late m r q rfl (thn (O Qh s σ H _ I h) λv s1 ⟨x,H1,u,r1,a,ns,ex,hh,q1⟩=>?_);subst ex;cases r1;let hA:=U Qo Qh s1 σ H1 _ u q1;rw[Y]at hA ⊢;rcases hh with hh | hh
 . let%[its,_,p|_]:=u.list (fy hh);let%[ob,n,e1,c,d|_]:=id p;erw["list","list.index",pl,F.slot_list_index,F.type_list_index,p.isList.typeIs,λb y=>?_,6]
   . cases y;erw[ob,e1,d]
   . apply Ra (by show(false||(backTo Qo (starEach es X.env)).any (·.1))=false;rw[g] <;> rfl) (Re ?_);exact thn hA λus B ⟨vs,C,D,r2,J,z,j,L,M,N⟩=>Do Qh B σ C (.ref a) vs (.ref a) us Q D rfl r2 %[a,ns,z,j,1,L,fy (J.trans hh),M|N]
 . let%[its,_,p|_]:=u.tuple (eS hh);erw["tuple","tuple.index",pt,F.slot_tuple_index,F.type_tuple_index,p.typeIs,λb y=>?_,6]
   . cases y;exact u.tupD hh
   . apply Ra (by show(false||(backTo Qo (starEach es X.env)).any (·.1))=false;rw[g] <;> rfl) (Re ?_);exact thn hA λus B ⟨vs,C,D,r2,J,z,j,L,M,N⟩=>Dm Qh B σ C (.ref a) vs (.ref a) us Q D rfl r2 %[a,ns,z,j,1,L,eS (J.trans hh),M|N]
end
def CompScope.three{X:Cx}{x y z u:Str}{scope:Scope}{k l m:Nat}{c d e:Addr}{cl:List (Str×Addr)}(D:closureFor scope X.env=pure cl)(J:∀y∈scope.names,y.2≠.cell)(L:scope.kind=.function)(M:∀y∈scope.names,y.2=.local->scope.names.lookup y.1=some .local)
 (O:scope.names.lookup x=some .local)(nd:[x,y,z,u].Nodup)(b:cl=[(y,c),(z,d),(u,e)])(hc:X.env.cells.lookup y=some c)(hd:X.env.cells.lookup z=some d)(he:X.env.cells.lookup u=some e)(U:((relabel scope X.env).names.all λp=>!(p.2==.cell||p.2==.free)||(cl.lookup p.1).isSome)=true)
 (hr:(relabel scope X.env).names.lookup y=some .cell)(Y:X.N[k]?=some y)(hs:X.env.scope.names.lookup y=some .cell)
 (g:(relabel scope X.env).names.lookup z=some .cell)(n:X.N[l]?=some z)(o:X.env.scope.names.lookup z=some .cell)
 (q:(relabel scope X.env).names.lookup u=some .cell)(r:X.N[m]?=some u)(t:X.env.scope.names.lookup u=some .cell):CompScope X x [y,z,u] [k,l,m] scope cl where
 clos:=D
 nocell:=J
 kind:=L
 names:=M
 own:=O
 nd:=nd
 sub:=λp hp=>by
  subst b;rcases Qq hp with h | h
  . rw[h];assumption
  . rcases Qq h with h | h
    . rw[h];assumption
    . rw[Qr h];assumption
 has:=U
 outs:=λj w h=>by
  let v:y≠z:=λe=>by simp [e]at nd
  let B:y≠u:=λe=>by simp [e]at nd
  let C:z≠u:=λe=>by simp [e]at nd
  subst b
  match j,h with
  |0,h=>
    let e:y=w:=ln h;subst e;erw[hr,k,c,1,Y,by simp [List.lookup],hs]
  |1,h=>
    let e:z=w:=ln h;subst e
    have:(z==y)=false:=#[Ne.symm v,0]
    erw[g,l,d,1,n,by simp [List.lookup,this],o]
  |2,h=>
    let ew:u=w:=ln h;subst ew;let h1:(u==y)=false:=#[Ne.symm B,0]
    let h2:(u==z)=false:=#[Ne.symm C,0]
    erw[q,m,e,1,r,by simp [List.lookup,h1,h2],t]
  |j+3,h=>simp at h
section
variable {X:Cx}
def vK:∀{xs:List V}{us:List Value},Vals xs us->xs.all kX=true->us.countP (eqU x)=xs.countP λy=>eqV y x
 |_,_,.nil,_=>rfl
 |y::xs,u::us,.cons r t,f=>by
   rw[Q3,QD]at f;rw[List.countP_cons,List.countP_cons,AU r f.1,vK t f.2]
instance rCountL(K:W.Frag)(x:V)(vs:List V)(H:Hp)(Q:VK):∀(a:Addr)(xs:List V)(z:V),x=.ref a->vs=[z]->SqL K H a xs->xs.all kX=true->kX z=true->Q (.int ((xs.countP λy=>eqV y z:Nat):Int)) H:=0
def yE:MtR X "list.count" (rCountL X.K):=by
 exists 4,x,vs,v,us,Q,I,c,d,h;erw[a,xs,z,1,1,e,fs,g,q]at h;cases c;erw[u,1,j]at d.one;let%[its,r,%[%[cls,m,data|o],n,b,hc,t|hd]|C]:=I.list e;simp only at hc hd;subst hc hd;apply J4 F.slot_list_count %[_,b|1] F.entry_list_count (F.args_list_count_2 _ _) (SeqAt.list_countAt a its.toArray n m o u (eqU z)) ⟨b,λy B=>?_,?_⟩
 . exact ip j g r fs y #[B,0]
 . rw[show its.toArray.toList=its from rfl,vK r fs];erw[.int ((xs.countP λy=>eqV y z:Nat):Int),H,I.tok _,%[|0],q]
end
def fK(g:Nat->Int):Nat->Int
 |0=>g 0
 |k+1=>if fK g k<g (k+1)then g (k+1)else fK g k
def Gs(ns:List Int)(d:Int):Int:=match ns with | []=>d | _::_=>fK (λi=>ns[i]?.getD 0) (ns.length-1)
section
variable {prog:Program}{w:World}{A:Around}{R:Result->Shared->Prop}{I S:Addr}{fp wr:List Addr}{n:Nat}{P:Nat->Value->Prop}{St:Nat->Heap->Prop}{g:Nat->Int}{kw:List (Str×Value)}
def rO:(toString "max"++toString ".loop":String)="max.loop":=by decide
def Gn(W:Walks prog w A.in1 I fp wr n P St)(N:∀i v,P i v->∃t,v=Value.int (g i) t)(nS:S∉fp):∀(k j:Nat)(s:Shared)(t:Tok)(c:Nat),j+1+k=n->St (j+1) s.heap ->
 s.heap.get? S=some { cls:=.type "list",dict:=none,data:=.seq #[.int (fK g j) t,.int (fK g j) t] c,slots:=#[] } ->
 (∀t' h' tk,(∀b o,b∉wr->b≠S->s.heap.get? b=some o->h'.get? b=some o)->R (.ok (.ret (.int (fK g (n-1)) t'))) { s with heap:=h',toks:=tk }) ->
 codeAny (model prog w) A (.builtin "max.loop" %[[.ref I,.none,.ref S]|kw]) R s:=by
 let J:S∉wr:=λz=>nS (W.sub _ z)
 intro k
 induction k with
 |zero=>
   intro j s t c L st y q;apply codeAny_builtin Sx ?_;rw[Sg QM _];show wpAny _ A.in1 (seqItems? (.ref S) >>= _) _ _ s;apply ft (Rl y rfl ?_);show wpAny _ A.in1 (tryCatch (pyNext (.ref I)) _ >>= _) _ _ s;apply ft (RQ (W.done s _ _ (by rw[←L];exact st) λh' tk kp=>?_));show wpAny _ A.in1 (updateSeq S (λ_=>#[]) >>= _) _ _ _;apply ft ?_;apply wpAny_updateSeq (kp S _ J y) rfl (ft (Rs (gh ?_)));let e:n-1=j:=#[0]
   rw[e]at q;exact q t _ tk λb o h1 h2 d=>(Heap.get?_update_other _ _ (Ne.symm h2)).trans (kp b o h1 d)
 |succ k M=>
   intro j s t c L st y q;apply codeAny_builtin Sx ?_;rw[Sg QM _];show wpAny _ A.in1 (seqItems? (.ref S) >>= _) _ _ s;apply ft (Rl y rfl ?_);show wpAny _ A.in1 (tryCatch (pyNext (.ref I)) _ >>= _) _ _ s;apply ft (RQ (W.item (j+1) s _ _ #[0] st λv h' tk pv B kp=>?_));let%[C|1]:=N _ _ pv;let m:=kp S _ J y;show wpAny _ A.in1 (tryCatch (holding [Value.int (g (j+1)) C,Value.int (g (j+1)) C] (richCompare .Gt (Value.int (g (j+1)) C) (Value.int (fK g j) t) >>= _)) _ >>= _) _ _ _;apply ft (RQ (IL (ft (CmpOf.ints_gt (prog:=prog) (w:=w) (A:=A.in1) (P:=λi v=>∃t,v=Value.int (if i=0 then fK g j else g (j+1)) t) (λi=>if i=0 then fK g j else g (j+1)) (λi v h=>h) 1 0 _ _ _ _ _ %[C|1] ⟨t,rfl⟩ ?_))));apply ft (IL (G0 ?_));apply ft (Rs (gh ?_))
   by_cases D:fK g j<g (j+1)
   . let e1:fK g (j+1)=g (j+1):=by unfold fK;rw[Qk D]
     apply D1 (λ_=>?_) (λr=>absurd (j2 D) r);apply ft ?_;apply wpAny_updateSeq m rfl (ft (Rs ?_));rw[rO];apply gh %[RT QM _|M (j+1) _ C _ #[0] (W.frame _ _ _ B λb O o d=>?_) (by rw[e1];exact Heap.get?_update_self _ m rfl) λt' h2 u x=>?_]
     . exact(Heap.get?_update_other _ _ (λz:S=b=>nS (by rw[z];exact O))).trans d
     . exact q t' h2 u λb o h1 h3 d=>x b o h1 h3 ((Heap.get?_update_other _ _ (Ne.symm h3)).trans (kp b o h1 d))
   . let e1:fK g (j+1)=fK g j:=by unfold fK;rw[Qi D];cases j <;> rfl
     apply D1 (λr=>absurd (CS r) D) (λ_=>?_);apply ft (Rs ?_);rw[rO];apply gh %[RT QM _|M (j+1) _ t c #[0] B (by rw[e1];exact m) λt' h2 u x=>?_];exact q t' h2 u λb o h1 h3 d=>x b o h1 h3 (kp b o h1 d)
def Go(W:Walks prog w A.in1 I fp wr n P St)(x:∀i v,P i v->∃t,v=Value.int (g i) t)(nS:S∉fp)(B:0<n){s:Shared}{c:Nat}(st:St 0 s.heap)(y:s.heap.get? S=some { cls:=.type "list",dict:=none,data:=.seq #[] c,slots:=#[] })
 (q:∀t' h' tk,(∀b o,b∉wr->b≠S->s.heap.get? b=some o->h'.get? b=some o)->R (.ok (.ret (.int (fK g (n-1)) t'))) { s with heap:=h',toks:=tk }):
 codeAny (model prog w) A (.builtin "max.loop" %[[.ref I,.none,.ref S]|kw]) R s:=by
 let C:S∉wr:=λz=>nS (W.sub _ z)
 apply codeAny_builtin Sx ?_;rw[Sg QM _];show wpAny _ A.in1 (seqItems? (.ref S) >>= _) _ _ s;apply ft (Rl y rfl ?_);show wpAny _ A.in1 (tryCatch (pyNext (.ref I)) _ >>= _) _ _ s;apply ft (RQ (W.item 0 s _ _ B st λv h' tk pv e kp=>?_));let%[j|1]:=x _ _ pv;let d:=kp S _ C y;show wpAny _ A.in1 (updateSeq S (λ_=>#[Value.int (g 0) j,Value.int (g 0) j]) >>= _) _ _ _;apply ft ?_;apply wpAny_updateSeq d rfl ?_;rw[rO];apply gh %[RT QM _|Gn W x nS (n-1) 0 _ j _ #[0] (W.frame _ _ _ e λb D o m=>?_) (Heap.get?_update_self _ d rfl) λt' h2 r u=>?_]
 . exact(Heap.get?_update_other _ _ (λz:S=b=>nS (by rw[z];exact D))).trans m
 . exact q t' h2 r λb o h1 h3 m=>u b o h1 h3 ((Heap.get?_update_other _ _ (Ne.symm h3)).trans (kp b o h1 m))
end
section
variable {X:Cx}{e k:Expr}{te tk:TE}{pos p1 kp:Pos}
instance rMax1(K:W.Frag)(xs:List V)(H:Hp)(Q:VK):∀a ns,xs=[.ref a]->SqL K H a (ns.map V.int)->ns≠[]->Q (.int (Gs ns 0)) H:=0
def vL(hc:X.calm=true):iE X (.builtin "max") (rMax1 X.K):=by
 intro Qh c σ B xs us Q d r h;erw[a,ns,1,M,D,q]at h;let%[u,1|N]:=jQ r;cases N;let%[its,r',p|hz]:=d.list M;let hl:=r'.length;rw[fx]at hl;let L:a<‹c›:=by erw[o,n,e,_]at p;exact js e
 apply call_function_tree F.kind_max F.plain_max F.entry_max (F.args_max1 _) ?_;show wpAny _ X.A.in1 (Builtin.Builtins.bindParams "max" ["key","default"] 0 %[[]|[]] >>= λ_=>_) _ _ c;apply ft (J2 (a:=[none,none]) rfl ?_);apply ft (gh ?_);apply ft (Ri p.isList ?_);apply ft (yl ?_);rw[rO];let C:a≠‹c›:=nc L;let W:=Walks.list (prog:=X.prog) (w:=X.w) (A:=X.A.in1) (d.ok.hd hc) ‹c› a C its.toArray;let O:#[8] B { c with heap:=c.heap.push { cls:=.type "list_iterator",data:=.fields #[.ref a,.int 0 0] } }:=d.kept (t':=c.toks) λb o x=>ih _ x
 let U:#[8] B { c with heap:=(c.heap.push { cls:=.type "list_iterator",data:=.fields #[.ref a,.int 0 0] }).push { cls:=.type "list",data:=.seq #[] } }:=O.kept (t':=c.toks) λb o x=>ih _ x
 let j:∀o:Obj,(c.heap.push o).objs.size=‹c›+1:=λo=>by simp [Heap.push]
 let nS:(c.heap.push { cls:=.type "list_iterator",data:=.fields #[.ref a,.int 0 0] }).objs.size∉[‹c›,a]:=by
  intro Y;rcases Qq Y with z | z
  . rw[j]at z;exact absurd z (Nat.succ_ne_self _)
  . let z:=Qr z;rw[j]at z;exact absurd z (QS (Sr L))
 let gv:∀i v,its.toArray[i]?=some v->∃t,v=Value.int (ns[i]?.getD 0) t:=λi v y=>by
  let%[b,t,m|1]:=tZ r' (i:=i) (v:=v) (by first | exact y | simpa using y | (rw[List.getElem?_toArray]at y;exact y));erw[t,by rw[m];rfl]
 let n0:0<ns.length:=List.length_pos_iff.mpr D;apply gh %[RT QM _|Go (g:=λi=>ns[i]?.getD 0) W gv nS (by rw[ks,←hl];exact n0) %[%[_,ih _ (mM _ rfl),1|1]|(p.isList.push _).push _] (mM _ rfl) λt' h' tk kp=>?_];rw[ks,←hl];let em:fK (λi=>ns[i]?.getD 0) (ns.length-1)=Gs ns 0:=by
  cases ns with
  |nil=>exact absurd rfl D
  |cons _ _=>rfl
 rw[em];erw[.int _,B,6,%[|0],q];let J:=Inv.turnedL (h':=h') (t':=tk) (ch:=[‹c›,‹c›+1]) U (λb o m x=>kp b o (λz=>m (by rw[Qr z];exact mj)) (λz=>m (by rw[z,j];exact pj _ mj)) x);apply J λb m=>?_
 rcases Qq m with h | h
 . rw[h];exact d.fpOk (fz _) (d.hok.fresh (fz _))
 . rw[Qr h];exact d.fpOk (q9 _) (d.hok.fresh (q9 _))
end
section
variable {prog:Program}{w:World}{A:Around}{E:#[6]}{s:Shared}
def Im{c t:Addr}{i:Nat}{items:Array Value}{x:Value}{Q:#[6]}(b:s.heap.IsTupleIter c t i)(j:s.heap.IsTuple t items)(m:items[i]?=some x)
 (q:∀h',h'.IsTupleIter c t (i+1)->Heap.SameBut c s.heap h'->Q x { s with heap:=h' }):‹w.A› (Builtin.SmallTypes.nextOf (.ref c)) Q E s:=by
 let%[o,d,hc|hd]:=id b;erw[n,e,_,r,g]at j;unfold Builtin.SmallTypes.nextOf;apply ft (QI (name:=Str.ofString "__next__") b.typeIs Ry (QC Ry b.typeIs F.entry_tuple_iterator_next ?_ (F.args_tuple_iterator_next_1 _)));show wpAny _ _ (field (.ref c) 0 >>= _) _ _ s;apply ft (n9 d hd (x:=.ref t) rfl ?_);show wpAny _ _ (if(Value.ref t==Value.none)=true then _ else _) _ _ s;rw[Qi (show ¬ ((Value.ref t==Value.none)=true)from o8)];show wpAny _ _ (field (.ref c) 1 >>= _) _ _ s;apply ft (n9 d hd (x:=.int i 0) rfl ?_);show wpAny _ _ (seqItems? (.ref t) >>= _) _ _ s;apply ft (Rl e g ?_);simp only[J6,m];apply ft (Fb d hd #[2] (gh %[x,1|gh (q _ ?_ (Heap.SameBut.update ..))]));erw[_,Heap.get?_update_self _ d (Qx (xn hd _)),(Obj.cls_mapFields ..).trans hc,by rw[xn hd];simp [rawInt]]
def Es{c t:Addr}{i:Nat}{items:Array Value}{Q:#[6]}(hh:A.handled=none)(b:s.heap.IsTupleIter c t i)(n:s.heap.IsTuple t items)(r:items[i]?=none)
 (q:∀h' e,Heap.ExtBut c s.heap h'->(∃o,h'.get? e=some o/\o.cls=.type "StopIteration")->E (.ref e) { s with heap:=h' }):‹w.A› (Builtin.SmallTypes.nextOf (.ref c)) Q E s:=by
 let%[o,d,hc|hd]:=id b;erw[u,g,_,v,j]at n;unfold Builtin.SmallTypes.nextOf;apply ft (QI (name:=Str.ofString "__next__") b.typeIs Ry (QC Ry b.typeIs F.entry_tuple_iterator_next ?_ (F.args_tuple_iterator_next_1 _)));show wpAny _ _ (field (.ref c) 0 >>= _) _ _ s;apply ft (n9 d hd (x:=.ref t) rfl ?_);show wpAny _ _ (if(Value.ref t==Value.none)=true then _ else _) _ _ s;rw[Qi (show ¬ ((Value.ref t==Value.none)=true)from o8)];show wpAny _ _ (field (.ref c) 1 >>= _) _ _ s;apply ft (n9 d hd (x:=.int i 0) rfl ?_);show wpAny _ _ (seqItems? (.ref t) >>= _) _ _ s;apply ft (Rl g j ?_);simp only[J6,r]
 first
  |apply ft (wpAny_rule (ft (Fb d hd #[2] (ft (Rs ?_)))))
  |apply ft (wpAny_rule (ft (Fb d hd #[2] ?_)))
 show wpAny _ _ (newExc (.type "StopIteration") [] >>= _) _ _ _;apply ft ?_;simp only[newExc,newTuple];apply ft (yl ?_ (by size_fits));apply ft (m:=firstArgMember _ _) (J2 (a:=Value.none) (by first | rfl | (simp only[firstArgMember];rfl)) ?_);apply yl ?_ (by size_fits);simp only[raiseNew];apply ft (wpAny_handled ?_)
 first | rw[show A.in1.handled=none from hh] | rw[hh]
 apply ft (gh (wpAny_throw ?_));exact q _ _ (((Heap.SameBut.update ..).extBut.push _).push _) %[_,mM _ rfl|1]
def DL{e c t:Addr}{j:Nat}{i:Int}{d:Value}{items:Array Value}{Q:Option Value->Shared->Prop}(hh:A.handled=none)(he:IsEnum s.heap e c i d)(g:s.heap.IsTupleIter c t j)(r:s.heap.IsTuple t items)(u:items[j]?=none)
 (q:∀h',Heap.ExtBut c s.heap h'->Q none { s with heap:=h' }):‹w.A› (pyNext (.ref e)) Q E s:=by
 let hT:s.TypeIs (.ref e) "enumerate":=%[_,he|1]
 unfold pyNext;apply ft (RS (QI (name:=Str.ofString "__next__") hT F.slot_enumerate_next (QC F.slot_enumerate_next hT F.entry_enumerate_next ?_ (F.args_enumerate_next_1 _))));show wpAny _ _ (field (.ref e) 2 >>= _) _ _ _;apply ft (n9 he rfl (x:=.ref c) rfl ?_);apply ft (Es hh g r u λh' x m n=>?_);erw[o,v,hc]at n;apply ft (Sw (T:="StopIteration") (b:=true) %[o,v|hc] isSubtype_stop ?_);exact gh (q h' m)
end
def DN{prog:Program}{w:World}{A:Around}(hh:A.handled=none)(c l:Addr)(d:l≠c)(items:Array Value):Draws prog w A c [c,l] items.size (λi v=>items[i]?=some v) (λi h=>h.IsTupleIter c l i/\h.IsTuple l items) where
 live:=λ_ _ st=>let⟨o,j,_⟩:=st.1;%[o|j]
 frame:=λ_ _ _ st k=>%[st.1.at λo e=>k c #[2] o e|st.2.at λo e=>k l #[2] o e]
 item:=λi s Q E g st q=>by
  apply Im st.1 st.2 (x:=items[i]) (by simp [g]) λh' a b=>?_
  exact q _ h' s.toks (by simp [g]) %[a|st.2.extBut b.extBut d] b
 done:=λs Q E st q=>Es hh st.1 st.2 #[2] q
open AutoSeq1 (wpAny_loadPart') in
set_option maxHeartbeats 1000000 in
def yH(l:Addr)(items:Array Value)(n:Nat)(b:Option Addr)(m:Array (Option Value)):
 Meets (Builtin.«enumerate.__new__» %[[.type "enumerate",.ref l]|[]]) (λ_ R s=>s.heap.get? l=some { cls:=.type "tuple",dict:=b,data:=.seq items n,slots:=m }/\
  R (.ok (.ret (.ref (s.heap.push { cls:=.type "tuple_iterator",data:=.fields #[.ref l,.int 0 0] }).objs.size)))
   { s with heap:=(s.heap.push { cls:=.type "tuple_iterator",data:=.fields #[.ref l,.int 0 0] }).push { cls:=.type "enumerate",data:=.fields #[.none,.bool false,.ref ‹s›,rawInt 0,.none,.none] } }):=
 .of_wp λprog w A R s h=>by
  erw[o,g,d,tk,os]at s;erw[hl,h]at h;let j:=sub_enumerate;let e:Heap.IsTuple (Shared.heap %[o,g,d,tk|os]) l items:=⟨_,hl,rfl,n,rfl⟩
  wp_walk using wpAny_loadPart' hl
  apply wpAny_stack_any λst=>gh ?_
  split
  . rename_i c _ _ _ _ _;cases(c==Value.type "enumerate")
    . wp_walk using wpAny_loadPart' hl,Rh e
      erw[0,h]
    . wp_walk using wpAny_loadPart' hl,Rh e
      erw[0,h]
  . wp_walk using wpAny_loadPart' hl,Rh e
    erw[0,h]
section
variable {prog:Program}{w:World}{A:Around}{E:#[6]}{s:Shared}
def Bb{l:Addr}{items:Array Value}{Q:#[6]}(g:s.heap.IsTuple l items)
 (q:∀h',IsEnum h' (‹s›+1) ‹s› 0 .none->h'.IsTupleIter ‹s› l 0->(∀b o,s.heap.get? b=some o->h'.get? b=some o)->Q (.ref (‹s›+1)) { s with heap:=h' }):
 ‹w.A› (call (.type "enumerate") [.ref l]) Q E s:=by
 erw[%[c,d,j|m],hl,hc,n,hd]at g
 replace hc:c=.type "tuple":=hc
 replace hd:j=.seq items n:=hd
 subst hc hd;apply callType_new F.called_enumerate ⋯ (F.typeCall_enumerate_1 _) (F.newCall_enumerate_1 _) (λobj=>F.args_object_init_2 obj _) F.entry_enumerate_new (yH l items n d m) %[hl|6];let e:(s.heap.push { cls:=.type "tuple_iterator",data:=.fields #[.ref l,.int 0 0] }).objs.size=‹s›+1:=QP ..;show _/\_;rw[e];let he:IsEnum ((s.heap.push { cls:=.type "tuple_iterator",data:=.fields #[.ref l,.int 0 0] }).push { cls:=.type "enumerate",data:=.fields #[.none,.bool false,.ref ‹s›,rawInt 0,.none,.none] }) (‹s›+1) ‹s› 0 .none:=by
  have:=mM (s.heap.push { cls:=.type "tuple_iterator",data:=.fields #[.ref l,.int 0 0] }) (o:={ cls:=.type "enumerate",data:=.fields #[.none,.bool false,.ref ‹s›,rawInt 0,.none,.none] }) rfl
  rw[e]at this;exact this
 erw[%[_,he|1],q _ he ⟨_,ih _ (mM _ rfl),rfl,rfl⟩ λb o x=>ih _ (ih _ x)]
end
def HX(K:W.Frag)(a:Addr):It:=
 ⟨λi H=>∃xs x,SqT K H a xs/\xs[i]?=some x,λi H y b=>∃t,y=.ref t/\H t=none/\∀xs x,SqT K H a xs->xs[i]?=some x->b=upd H t (.tup [.int i,x]),λi H=>∃xs,SqT K H a xs/\xs.length<=i⟩
def zy{K:W.Frag}{t:List Expr}{k:Nat}{pos:Pos}(a e m:Addr)(q:e≠m)(N:a≠m)(O:a≠e):
 Turn P w K (.Tuple t k pos) (HX K a) [e,m] e (λi h=>(∃g,IsEnum h e m i g)/\h.IsTupleIter m a i) where
 mem:=by simp
 obj:=λi h st b n=>by
  erw[%[g|he],o,e2,c,d]at st;rcases Qq n with z | z
  . subst z;erw[_,he,λv z=>nomatch z]
  . let z':=Qr z;subst z';erw[o,e2,λv z=>by rw[d]at z;cases z]
 keep:=λi h h' st k=>by
  erw[%[g|he],j]at st;erw[%[g|k e #[2] _ he],j.at λo x=>k m #[2] o x]
 item:=by
  exists 5;erw[xs,x,L,U]at hg;let%[its,Y,p|hz]:=I.tuple L;let%[u,hu|ru]:=Y.get U;erw[%[g|he],j]at st;let hi:i<its.toArray.size:=by
   rw[ks];exact(Qs hu).1
  apply wpAny_pyNext_enum_itemD (DN (prog:=X.prog) (w:=X.w) (A:=X.A.in1) (I.ok.hd hc) m a N its.toArray) he %[j|p] hi q (by simp [q,Ne.symm O]) λy h1 tk M ho B hT hsz hk=>?_
  let ey:y=u:=by
   let h1:its.toArray[i]?=some u:=#[hu,0]
   rw[h1]at M;exact(ln M).symm
  subst ey;erw[0,wpAny_letOwnedTupleGo_enum ho λh2 ab r=>?_];let C:e<‹s›:=js he;let D:h2.get? ‹s›=some { cls:=.type "tuple",data:=.seq #[.int i tk,y] }:=(r.2 _ (Ne.symm (nc C))).trans hT;let I2:#[8] (upd H ‹s› (.tup [.int i,x])) { s with heap:=h2,toks:=tk+1 }:=by
   apply I.turnedNew (ch:=[e,m]) (λb ob n eb=>?_) hf (fz _) %[by show 2<=sizeLine;decide,[.int i tk,y],.cons %[|0] (.cons ru .nil),%[_,D,1|0],_,D|1];let b1:b≠e:=λz=>n (by simp [z])
   let b2:b≠m:=λz=>n (by simp [z])
   exact(r.2 b b1).trans (hk b ob b1 b2 eb)
  erw[.ref ‹s›,_,I2,1,%[0,I.hok.fresh (fz _)|λys z M J=>?_],%[%[y|by simpa using ab]|B.1.at λo z=>(r.2 m (Ne.symm q)).trans z],λb n=>?_]
  . let e1:=I.tuple_inj M L;subst e1;rw[U]at J;cases J;rfl
  . let z:=hf b n;let Qp:b<‹s›:=by
     rcases Qq n with y | y
     . rw[y];exact C
     . rw[Qr y];erw[o,e2,_]at j;exact js e2
    rw[aB (nc Qp)];exact z.1
 done:=by
  exists 5;erw[xs,L,U]at hg;let%[its,Y,p|hz]:=I.tuple L;erw[%[g|he],j]at st;let hl:=Y.length;exact DL (I.ok.hd hc) he j p (Array.getElem?_eq_none (by simp;omega)) λh' eb=>%[1|I.turnedL (t':=s.toks) (ch:=[e,m]) (λb o n eo=>eb b o (λz=>n (by simp [z])) eo) hf]
 self:=λ_ _ _ _ _ st h=>by
  erw[%[g|he],_]at st;exact RF he h
section
variable {X:Cx}{elts:List Expr}{k:Nat}{tpos:Pos}
instance ZiEnumT(K:W.Frag)(R:(It->Hp->Prop))(x:V)(H1:Hp):∀a,x=.ref a->(∃xs,SqT K H1 a xs)->R (HX K a) H1:=0
def Ld(K:W.Frag)(tl:TE):TI:=λσ H R=>tl σ H λx b=>ZiEnumT K R x b
def tD{p pos:Pos}(hg:Gl X "enumerate")(m:X.mg "enumerate"=none)(hl:PE X l tl)(g:starEach [l] X.env=[(false,eval l X.env)]:=by rfl):
 PI X (.Tuple elts k tpos) (.Call (.Name "enumerate" p) [l] [] pos) (Ld X.K tl):=by
 exists 4,R,I,h;apply Call_ (jN I hg m boot_enumerate (Qw ?_ g rfl));rw[g];show wpAny _ _ (spliced ((false,eval l X.env)::backTo pos (starEach [] X.env))) _ _ s;apply Qz (thn (hl Qh s σ H _ I h) λu s1 ⟨x,j,c,r1,a,ex,⟨xs,n⟩,q⟩=>?_);subst ex;cases r1;let%[its,v,p|y]:=c.tuple n;let d:=p.lt;apply QZ ?_;apply Bb p λh' he e o=>?_
 apply RF he ?_;let r:#[8] j { s1 with heap:=h' }:=c.kept (t':=s1.toks) o;erw[‹s1›+1,[‹s1›+1,‹s1›],_,_,j,1,r,zy a _ _ (QS (QB _)) (nc d) (nc (Sr d)),%[%[_|he]|e],λb t=>?_,q];rcases Qq t with z | z
 . rw[z];exact c.fpOk (q9 _) (c.hok.fresh (q9 _))
 . rw[Qr z];exact c.fpOk (fz _) (c.hok.fresh (fz _))
end
def qA{K:W.Frag}{xs:List V}{g:TG}{j:TS}{D:Ends}{σ:St}{H:Hp}(Pv:Nat->St->Hp->Prop)(h0:Pv 0 σ H)(hl:∀i σ H,i<=xs.length->Pv i σ H->SqT K H a xs)
 (o:∀i x σ H t,xs[i]?=some x->Pv i σ H->H t=none->g (.ref t) σ (upd H t (.tup [.int i,x])) λσ2 d=>j { D with nx:=Pv (i+1),ct:=Pv (i+1),bk:=D.nx } σ2 d)(hd:∀ σ H,Pv xs.length σ H->D.nx σ H):
 ∃ W:Nat->Nat->St->Hp->Prop,(∃m,W 0 m σ H)/\∀i m σ H,W i m σ H ->
  ((HX K a).stop i H/\D.nx σ H)∨((HX K a).go i H/\∃N:St->Hp->Prop,(∀ σ' b,N σ' b->∃n,n<m/\W (i+1) n σ' b)/\∀x b,(HX K a).yld i H x b->g x σ b λσ2 d=>j { D with nx:=N,ct:=N,bk:=D.nx } σ2 d):=by
 erw[λi m σ H=>m=xs.length-i/\i<=xs.length/\Pv i σ H,%[xs.length,by simp,kr _|h0],6];rintro i m σ H ⟨rfl,r,p⟩;let q:=hl i σ H r p
 by_cases c:i<xs.length
 . refine .inr %[%[xs,xs[i],q|by simp [c]],Pv (i+1),λσ' b u=>%[xs.length-(i+1),3,1,c|u]|λx b y=>?_];erw[t,1,v,e]at y;let z:=e xs xs[i] q (by simp [c]);subst z;exact o i xs[i] σ H t (by simp [c]) p v
 . let e:i=xs.length:=#[0]
   subst e;exact .inl %[%[xs,q|fz _]|hd σ H p]
def ItV(K:W.Frag)(a:Addr)(xs:List V):It:=%[λi H=>SqL K H a xs/\i<xs.length,λi H y b=>b=H/\xs.reverse[i]?=some y|λi _=>xs.length<=i]
def BZ{K:W.Frag}(a j:Addr)(xs:List V):Turn P w K tg (ItV K a xs) [j] j (λi h=>i<=xs.length/\h.IsRevIter j a ((xs.length:Int)-1-(i:Int))) where
 mem:=by simp
 obj:=λi h st b m=>by
  let e:b=j:=#[m,0]
  subst e;erw[_,o,e,c,d]at st;erw[o,e,λv z=>by rw[d]at z;cases z]
 keep:=λi h h' st k=>%[st.1|st.2.at λo e=>k j #[2] o e]
 item:=by
  exists 5;erw[C,y]at hg;let%[its,D,p|hz]:=I.list C;let J:xs.length-1-i<xs.length:=#[0]
  let B:xs[xs.length-1-i]?=some xs[xs.length-1-i]:=j3 J;let%[u,L|M]:=D.get B;let%[f0,f1,N,q,r|t]:=hf j #[2];erw[_,g]at st;let e1:((xs.length:Int)-1-(i:Int))=((xs.length-1-i:Nat):Int):=#[0]
  rw[e1]at g;apply wpAny_pyNext_rev_item g p.isList (x:=u) #[L,0] λh' n O=>?_
  let U:#[8] H { s with heap:=h' }:=I.turned (t':=s.toks) (λb o m e=>(O.2 b m).trans e) f0 f1 q r t;let e2:((xs.length-1-i:Nat):Int)-1=(xs.length:Int)-1-((i+1:Nat):Int):=#[0]
  rw[e2]at n;let%[o,e,c|d]:=id n;erw[u,1,yR (s:={ s with heap:=h' }) e c d ⋯ ⟨xs[xs.length-1-i],H,U,M,⟨rfl,?_⟩,⟨#[0],n⟩,λb m=>(hf b m).1⟩];rw[Se y,B]
 done:=by
  exists 5;let hg:xs.length<=i:=hg;let%[f0,f1,N,q,r|t]:=hf j #[2];erw[y,g]at st;let e1:(xs.length:Int)-1-(i:Int)=-1:=#[0]
  rw[e1]at g;exact wpAny_pyNext_rev_end (I.ok.hd hc) g λh' Y=>%[1|I.turned (t':=s.toks) (λb o m e=>Y b o m e) f0 f1 q r t]
 self:=λ_ _ _ _ _ st h=>wpAny_pyIter_revIter st.2 h
def Hi{K:W.Frag}{xs:List V}{g:TG}{j:TS}{D:Ends}{σ:St}{H:Hp}(Pv:Nat->St->Hp->Prop)(h0:Pv 0 σ H)(hl:∀i σ H,i<=xs.length->Pv i σ H->SqL K H a xs)
 (o:∀i x σ H,i<xs.length->xs.reverse[i]?=some x->Pv i σ H->g x σ H λσ2 c=>j { D with nx:=Pv (i+1),ct:=Pv (i+1),bk:=D.nx } σ2 c)(hd:∀ σ H,Pv xs.length σ H->D.nx σ H):
 ∃ W:Nat->Nat->St->Hp->Prop,(∃m,W 0 m σ H)/\∀i m σ H,W i m σ H ->
  ((ItV K a xs).stop i H/\D.nx σ H)∨((ItV K a xs).go i H/\∃N:St->Hp->Prop,(∀ σ' b,N σ' b->∃n,n<m/\W (i+1) n σ' b)/\∀x b,(ItV K a xs).yld i H x b->g x σ b λσ2 c=>j { D with nx:=N,ct:=N,bk:=D.nx } σ2 c):=by
 erw[λi m σ H=>m=xs.length-i/\i<=xs.length/\Pv i σ H,%[xs.length,by simp,kr _|h0],6];rintro i m σ H ⟨rfl,r,p⟩;let q:=hl i σ H r p
 by_cases d:i<xs.length
 . refine .inr %[%[q|d],Pv (i+1),λσ' b t=>%[xs.length-(i+1),3,1,d|t]|λx b y=>?_];erw[e,ex]at y;subst e;exact o i x σ _ d ex p
 . let e:i=xs.length:=#[0]
   subst e;exact .inl %[fz _|hd σ H p]
def Dq{X:Cx}(K:W.Frag)(h:X.K=K:=by rfl):MtR X "list.count" (rCountL K):=by subst h;exact yE
section
variable {X:Cx}{o e:Expr}{es:List Expr}{to ta:TE}{t:TA}{T id:String}{name f:Str}{r:V->List V->Hp->VK->Prop}{Qm Qo pos:Pos}
def KA(K:W.Frag)(m:PlainAttrs T)(slot:Slot T name id)(j:typeOf (.builtin id)=pure (.type "method_descriptor"))(n:MtR X id r)(q:PE X o to)(u:PA X (e::es) t)(hK:X.K=K:=by rfl)
 (c:attributeBase o name X.env (eval o X.env)=eval o X.env:=by rfl)
 (g:((backTo Qo (starEach (e::es) X.env)).all (λx=>!x.1)&&(backToKw Qo (keywordEach [] X.env)).all (λx=>x.1.isSome)&&decide ((e::es).length+([]:List Keyword).length+(if([]:List Keyword).isEmpty then 0 else 1)<30))=true:=by rfl)
 (d:(Qm.endLine==Qo.line)=true:=by rfl)(v:starEach (e::es) X.env=(false,eval e X.env)::starEach es X.env:=by rfl)(b:(backTo Qo (starEach es X.env)).any (·.1)=false:=by rfl):
 PE X (.Call (.Attribute o name Qm) (e::es) [] Qo) (tBM K T r to t):=by subst hK;exact bZ m slot j n q u c g d v b
def ms(K:W.Frag)(he:PE X e ta)(hK:X.K=K:=by rfl)(b:attributeBase e f X.env (eval e X.env)=eval e X.env:=by rfl):PE X (.Attribute e f pos) (tFld K ta f):=by subst hK;exact aF he b
end
@[reducible] def cxCompO (X:Cx) (x:Str) (N:List Str) (scope:Scope) (cl:List (Str×Addr)) (s:Shared) (H:Hp) (fp:List Addr):Cx where
 prog:=X.prog
 w:=X.w
 K:=X.K
 mg:=X.mg
 base:=X.base
 A:=X.A
 N:=x::N
 s₀:=s
 H₀:=H
 env:=compEnvC scope ((x,‹s›+1)::cl) ‹s› X.env
 outer:=X.stack
 stack:=X.stack
 ex:=fp
 fn:=λy=>y==x
 calm:=X.calm
 pn:=[]
 xe:=λ_ _=>False
def CompScope.four{X:Cx}{x y z u v:Str}{scope:Scope}{k l m n:Nat}{c d e g:Addr}{cl:List (Str×Addr)}(c1:closureFor scope X.env=pure cl)(c2:∀y∈scope.names,y.2≠.cell)(c3:scope.kind=.function)(c4:∀y∈scope.names,y.2=.local->scope.names.lookup y.1=some .local)
 (c5:scope.names.lookup x=some .local)(nd:[x,y,z,u,v].Nodup)(b:cl=[(y,c),(z,d),(u,e),(v,g)])(hc:X.env.cells.lookup y=some c)(hd:X.env.cells.lookup z=some d)(he:X.env.cells.lookup u=some e)(hg:X.env.cells.lookup v=some g)(c6:((relabel scope X.env).names.all λp=>!(p.2==.cell||p.2==.free)||(cl.lookup p.1).isSome)=true)
 (hr:(relabel scope X.env).names.lookup y=some .cell)(hk:X.N[k]?=some y)(hs:X.env.scope.names.lookup y=some .cell)
 (o:(relabel scope X.env).names.lookup z=some .cell)(q:X.N[l]?=some z)(r:X.env.scope.names.lookup z=some .cell)
 (t:(relabel scope X.env).names.lookup u=some .cell)(B:X.N[m]?=some u)(C:X.env.scope.names.lookup u=some .cell)
 (D:(relabel scope X.env).names.lookup v=some .cell)(J:X.N[n]?=some v)(L:X.env.scope.names.lookup v=some .cell):CompScope X x [y,z,u,v] [k,l,m,n] scope cl where
 clos:=c1
 nocell:=c2
 kind:=c3
 names:=c4
 own:=c5
 nd:=nd
 sub:=λp hp=>by
  subst b;rcases Qq hp with h | h
  . rw[h];assumption
  . rcases Qq h with h | h
    . rw[h];assumption
    . rcases Qq h with h | h
      . rw[h];assumption
      . rw[Qr h];assumption
 has:=c6
 outs:=λj w h=>by
  let M:y≠z:=λe=>by simp [e]at nd
  let O:y≠u:=λe=>by simp [e]at nd
  let U:y≠v:=λe=>by simp [e]at nd
  let Y:z≠u:=λe=>by simp [e]at nd
  let ab:z≠v:=λe=>by simp [e]at nd
  let ah:u≠v:=λe=>by simp [e]at nd
  subst b
  match j,h with
  |0,h=>
    let e:y=w:=ln h;subst e;erw[hr,k,c,1,hk,by simp [List.lookup],hs]
  |1,h=>
    let e:z=w:=ln h;subst e
    have:(z==y)=false:=#[Ne.symm M,0]
    erw[o,l,d,1,q,by simp [List.lookup,this],r]
  |2,h=>
    let ew:u=w:=ln h;subst ew;let h1:(u==y)=false:=#[Ne.symm O,0]
    let h2:(u==z)=false:=#[Ne.symm Y,0]
    erw[t,m,e,1,B,by simp [List.lookup,h1,h2],C]
  |3,h=>
    let ew:v=w:=ln h;subst ew;let h1:(v==y)=false:=#[Ne.symm U,0]
    let h2:(v==z)=false:=#[Ne.symm ab,0]
    let h3:(v==u)=false:=#[Ne.symm ah,0]
    erw[D,n,g,1,J,by simp [List.lookup,h1,h2,h3],L]
  |j+4,h=>simp at h
end L2
namespace L2
open PySem PySem.Spec PyProof.Rows PySem.Builtin PySem.Builtin.Str
section
variable {prog:Program}{w:World}{A:Around}{E:#[6]}{s:Shared}{Q:#[6]}{x:PySem.Str}{t:Tok}
def zD{y:PySem.Str}{u:Tok}(b:(y.length==0)=false)
 (h:∀l k,l.map (·.1)=Txt.split x y->Q (.ref ‹s›) { s with heap:=s.heap.push { cls:=.type "list",data:=.seq (strValues l).toArray },toks:=k })
 (hsz:x.length+2<=sizeLine):‹w.A› (call (.builtin "str.split") [.str x t,.str y u]) Q E s:=by
 let c:(partsBetween x (occurrences x y 0 x.length (x.length+1)) y.length).length<=sizeLine:=by
  let e1:=StrLaws.occ_length_le x y 0 x.length (x.length+1);rw[length_partsBetween];omega
 cases h1:(decide (x.length<y.length)||decide (strKind x<strKind y))
 . cases hf:(occurrences x y 0 x.length (x.length+1)).isEmpty
   . apply J4 Sy (QV _ _ _) Ss (Sm _ _) (meets_str_split_sep x y t u h1 b hf #[0] c) ?_;show wants Q E _ { s with toks:=_,heap:=s.heap.push { cls:=.type "list",data:=.seq (strsFrom s.toks (partsBetween x (occurrences x y 0 x.length (x.length+1)) y.length)).toArray } };rw[strsFrom_eq];exact h (numbered s.toks _) _ ((numbered_texts _ _).trans ((Qi (Sj h1)).trans (Qi (Sj hf))).symm)
   . exact J4 Sy (QV _ _ _) Ss (Sm _ _) (meets_str_split_not_found x y t u h1 b hf)
      (h [(x,t)] s.toks ((Qi (Sj h1)).trans (Qk hf)).symm)
 . exact J4 Sy (QV _ _ _) Ss (Sm _ _) (meets_str_split_cannot_occur x y t u h1)
    (h [(x,t)] s.toks (Qk h1).symm)
end
def Bm:∀l:List (PySem.Str×Tok),Vals ((l.map (·.1)).map V.str) (strValues l)
 | []=>.nil
 | (x,t)::r=>.cons %[t|1] (Bm r)
section
variable {X:Cx}
instance rSplit(x:V)(vs:List V)(H:Hp)(Q:VK):∀z u,x=.str z->vs=[.str u]->0<u.length->z.length<=100000->(Txt.split z u).length<=100000->(∀p,H p=none->Q (.ref p) (upd H p (.lst ((Txt.split z u).map V.str)))):=0
def jZ:MtR X "str.split" rSplit:=by
 exists 4,x,vs,v,us,Q,I,b,c,h;erw[z,u,1,1,d,g,hl,q]at h;erw[t,1]at b;erw[j,1,t',1]at c.one;let m:sizeLine=16777216:=sizeLine_eq;apply zD (by rw[beq_eq_false_iff_ne];omega) (λl k e=>?_) #[0];let r:=Bm l;rw[e]at r;erw[.ref _,_,I.lnew (t':=k) r (by rw[fx];omega),1,q _ I.fresh]
def eZ:iE X (.type "int") (λxs H Q=>∃x n,xs=[.str x]/\PySem.intText? x=some n/\x.length<=640/\Q (.int n) H):=by
 exists 4,xs,us,Q,I,r,h;erw[x,n,1,e,hl,q]at h;let%[u,1,t|1]:=jQ r;exact PySem.W.KIN.call_text e hl %[.int n,H,I.tok _,%[|0]|q]
end
end L2
namespace HT
open PySem PyProof.Rows
section
variable {prog:Program}{w:World}{A:Around}{E:#[6]}{s:Shared}
def getItem_tuple_whole{t e:Addr}{items:Array Value}{n o:Value}{lo d:Option Int}{Q:#[6]}(b:IsTup s.heap t items)(q:s.heap.IsSliceOf e n o .none)(pl:IsPart n lo)(r:IsPart o d)
 (hw:sIx items.size 0 lo=0/\sIx items.size items.size d=items.size)(h:Q (.ref t) s):‹w.A› (getItem (.ref t) (.ref e)) Q E s:=by
 let%[os,g,j|u]:=id q;let m:s.TypeIs (.ref e) "slice":=%[os,g|j]
 unfold getItem
 try with_reducible apply IL ?_
 first | refine ft (gh ?_) | skip
 apply ft (wpAny_sequenceKey b.typeIs ⋯ ?_);apply ft (QI (name:=Str.ofString "__getitem__") b.typeIs Ru
  (QC Ru b.typeIs entry_tuple_getitem ?_ (args_tuple_getitem _ _)))
 show wpAny _ _ (Builtin.Tuple.tupleItemsOf (.ref t) >>= _) _ _ s;apply ft (tupleItemsOf_ b ?_);apply ft (RV m ?_);rw[Qk ⋯];apply ft (jS q pl r ?_);let c:(((sIx items.size 0 lo:Nat):Int)==0&&(1:Int)==1&&(sIx items.size items.size d-sIx items.size 0 lo)==items.size)=true:=by
  rw[hw.1,hw.2,Rp]
  simp
 show wpAny _ _ (if(((sIx items.size 0 lo:Nat):Int)==0&&(1:Int)==1&&(sIx items.size items.size d-sIx items.size 0 lo)==items.size)=true then _ else _) _ _ s;rw[Qk c];apply ft ?_;unfold Builtin.Tuple.tupleIsExact;apply ft (RV b.typeIs (gh ?_));rw[Qk ⋯]
 first
  |exact ft (wpAny_rule (gh ⟨_,rfl,gh h⟩))
  | (apply gh ?_;erw[0,gh h])
  | (apply ft (gh ?_);apply gh ?_;erw[0,gh h])
  | (apply ft (gh ?_);apply ft (gh ?_);apply gh ?_;erw[0,gh h])
  | (apply ft (ft (gh ?_));apply gh ?_;erw[0,gh h])
end
end HT
namespace L2
open PySem PySem.Spec PyProof.Rows
section
variable {X:Cx}
instance rSlTW(K:W.Frag)(x:V)(lo:Option Int)(hi:Option Int)(H:Hp)(Q:VK):∀a xs,x=.ref a->SqT K H a xs->HT.sIx xs.length 0 lo=0/\HT.sIx xs.length xs.length hi=xs.length->Q (.ref a) H:=0
def IB:SlR X (rSlTW X.K):=by
 exists 4,x,v,m,n,lo,o,t,Q,I,d,e,pl,g,h;erw[a,xs,1,j,hw,q]at h;cases d;let%[its,r,c|u]:=I.tuple j;let b:its.toArray.size=xs.length:=by rw[ks];exact r.length.symm
 erw["tuple",_,PyProof.Rows.slot_tuple_getitem.lookup,c.typeIs,6];exact HT.getItem_tuple_whole c e pl g (by rw[b];exact hw) ⟨.ref a,H,I,rfl,q⟩
def AY{xs:List V}{lo b:Option Int}(hw:HT.sIx xs.length 0 lo=0/\HT.sIx xs.length xs.length b=xs.length):hJ xs lo b=xs:=by
 unfold hJ;rw[hw.1,hw.2,Ip,Rp,mu]
instance rSlTA(K:W.Frag)(x:V)(lo:Option Int)(hi:Option Int)(H:Hp)(Q:VK):∀a xs,x=.ref a->SqT K H a xs->H a=some (.tup xs)->(∀p H',Same H H'->H' p=some (.tup (hJ xs lo hi))->Q (.ref p) H'):=0
def oz:SlR X (rSlTA X.K):=by
 exists 4,x,v,c,d,lo,b,e,Q,I,g,j,pl,m,h;erw[a,xs,1,n,o,q]at h
 by_cases hw:HT.sIx xs.length 0 lo=0/\HT.sIx xs.length xs.length b=xs.length
 . exact IB Qh s σ H _ v c d lo b e Q I g j pl m %[a,xs,1,n,hw|q a H (Same.refl _) (by rw[AY hw];exact o)]
 . exact wj Qh s σ H _ v c d lo b e Q I g j pl m %[a,xs,1,n,hw|λp r=>q p _ (fj r _) aX]
end
def SqB(K:W.Frag)(b:Bool)(H:Hp)(a:Addr)(xs:List V):Prop:=if b=true then SqL K H a xs else SqT K H a xs
section
variable {X:Cx}
def fO(z u:Str)(i:Int):Bool:=decide (PySem.fromIndex z.length i+u.length<=z.length)&&Builtin.Str.subAt z u (PySem.fromIndex z.length i)
instance rStartsAt(x:V)(vs:List V)(H:Hp)(Q:VK):∀z u i,x=.str z->vs=[.str u,.int i]->Q (.bl (fO z u i)) H:=0
def yD:MtR X "str.startswith" rStartsAt:=by
 exists 4,x,vs,v,us,Q,I,d,e,h;erw[z,u,i,1,1,q]at h;erw[t,1]at d;cases e with
 |cons r1 b=>
   cases b with
   |cons r2 c=>
     cases c;erw[t1,1]at r1;erw[g,1]at r2;exact call_gives F.slot_str_startswith (QV _ _ _) F.entry_str_startswith (F.args_str_startswith_3 _ _ _) (gives_str_startswith_from z u i t t1 g) %[.bl _,H,I,1|q]
abbrev TJ:=St->Hp->Str->VK->Prop
def PJ(X:Cx)(b:List Expr)(t:TJ):Prop:=
 ∀(Qh:#[7])(s:Shared)(σ:St)(H:Hp)(out:Str)(Q:VK),#[8] H s->t σ H out Q->‹X.w› (joinParts out (evalEach b X.env)) (EP X Qh σ Q) X.xe s
def oi:PJ X [] (λ_ H out Q=>out.length<=sizeLine/\Q (.str out) H):=by
 exists 4,out,Q,I,h;exact joinParts_nil %[.str out,H,I.tok _,%[|0]|h.2] h.1
def cK(he:PE X e d)(g:PJ X c t):PJ X (e::c) (λσ H out Q=>d σ H λv b=>∃y,v=.str y/\(out++y).length<=sizeLine/\t σ b (out++y) Q):=by
 exists 4,out,Q,I,h;show wpAny _ _ (joinParts out (eval e X.env::evalEach c X.env)) _ _ s;apply joinParts_cons (thn (he Qh s σ H _ I h) λv s1 ⟨x,b,j,r1,y,ex,m,q⟩=>?_);subst ex;erw[t',1]at r1;erw[m,g Qh s1 σ b _ Q j q]
def kK{e1 e2:Expr}{b:List Expr}{pos:Pos}(h:PJ X (e1::e2::b) t):PE X (.JoinedStr (e1::e2::b) pos) (λσ H Q=>t σ H Str.empty Q):=
 λQh s σ H Q I k=>JoinedStr_many (h Qh s σ H Str.empty Q I k)
def qm{pos:Pos}(he:PE X e c):PE X (.FormattedValue e (-1) none pos) (λσ H Q=>c σ H λv b=>∃y,v=.str y/\y.length<=sizeLine/\Q (.str y) b):=by
 exists 4,Q,I,h;apply FormattedValue_plain (thn (he Qh s σ H _ I h) λv s1 ⟨x,b,d,r1,y,ex,g,q⟩=>?_);subst ex;erw[t',1]at r1;exact formatField_str (λj tk=>%[.str y,b,d.tok _,%[|0]|q]) g
end
section
variable {X:Cx}
def IR{pos:Pos}(he:PE X e c):PE X (.FormattedValue e (-1) none pos) (λσ H Q=>c σ H λv b=>∃i:Int,v=.int i/\i.natAbs.log2<1920/\Q (.str (toString i)) b):=by
 exists 4,Q,I,h;apply FormattedValue_plain (thn (he Qh s σ H _ I h) λv s1 ⟨x,b,d,r1,i,ex,g,q⟩=>?_);subst ex;erw[t',1]at r1;exact formatField_int_small g %[.str (toString i),b,d.tok _,%[|0]|q]
end
section
variable {X:Cx}
def DV:iE X (.type "str") (λxs H Q=>(∃i,xs=[.int i]/\i.natAbs.log2<1920/\Q (.str (toString i)) H)∨∃x,xs=[.str x]/\Q (.str x) H):=by
 exists 4,xs,us,Q,I,r,h;rcases h with⟨i,rfl,b,q⟩ | ⟨x,rfl,q⟩
 . let%[u,1,t|1]:=jQ r;exact PySem.P.str_of_int b %[.str _,H,I.tok _,%[|0]|q]
 . let%[u,1,t|1]:=jQ r;exact PySem.P.str_of_str %[.str x,H,I,%[|0]|q]
end
end L2
namespace L2
open PySem
section
variable {M:Model}{A:Around}{E:#[6]}{h:Heap}{g:Array GenState}{d:Drawn}{t:Nat}{os:OsState}
variable {nm q:Str}{C N:Addr}{bs bm:List Value}{hdct:Bool}{sn:List Str}{sub:List Value}{ab:Bool}{col:Option Bool}{dd:Option Addr}{k0 k1 k2 k3 k5:Option Value}{Bn newId inN:String}{bmN:List Value}
def Ba(c:ExcBaseFacts Bn newId inN bmN)(b:(Value.ref C::bm).contains (.type Bn)=true){rest:List Value}{Q:Unit->Shared->Prop}(hC:h.get? C=some (excClassObj nm q C N bs bm hdct sn sub ab col dd k0 k1 k2 k3 k5 newId))
 (j:Q () %[h,g,d,t|os]):wpAny M A (checkBuiltinCall newId ⟨.ref C::rest,[]⟩) Q E ⟨h,g,d,t,os⟩:=by
 let e:=c.noStar;simp only[checkBuiltinCall,c.newKind,c.newSplit,c.newRow]
 repeat (first | refine ri hC ?_ | (refine GN hC ?_;rw[b]) | refine wpAny_staticBase_exc hC ?_ | refine wpAny_madeBy_exc hC ?_ | simp only[bne_self_eq_false,Bool.false_eq_true,if_false] | wp_step)
 exact j
end
section
variable {prog:Program}{w:World}{A:Around}{R:Result->Shared->Prop}{h:Heap}{g:Array GenState}{d:Drawn}{t:Nat}{os:OsState}
variable {nm q:Str}{C N:Addr}{bs bm:List Value}{hdct:Bool}{sn:List Str}{sub:List Value}{ab:Bool}{col:Option Bool}{dd:Option Addr}{k0 k1 k2 k3 k5:Option Value}{Bn newId inN:String}{bmN:List Value}
def Hm(b:ExcBaseFacts Bn newId inN bmN)(c:(Value.ref C::bm).contains (.type Bn)=true)(e:(Value.ref C::bm).contains (.type "AttributeError")=false)(j:(Value.ref C::bm).contains (.type "NameError")=false){rest:List Value}(hC:h.get? C=some (excClassObj nm q C N bs bm hdct sn sub ab col dd k0 k1 k2 k3 k5 newId))
 (o:R (.ok (.ret (.ref (h.objs.size+1)))) ⟨(h.push { cls:=.type "tuple",data:=.seq rest.toArray }).push
  { cls:=.ref C,data:=.fields #[.ref h.objs.size,.none,.none,.none,.bool false,.none] },g,d,t,os⟩) (hrest:rest.length<=sizeLine:=by size_fits) :
 codeAny (model prog w) A (.builtin newId %[.ref C::rest|[]]) R ⟨h,g,d,t,os⟩:=by
 let m:=b.ends;apply codeAny_builtinAt b.entry ?_;unfold Builtin.«BaseException.__new__»;apply wpAt_bind ?_;show wpAt _ _ _ (stack >>= _) _ _ _;apply wpAt_bind (wpAt_stack λp n=>wpAt_of_wpAny ?_)
 wp_walk
 apply wpAt_of_wpAny ?_;rw[b.owner]
 repeat (first | with_reducible apply wpAny_madeHere_exc b.canon hC ?_ | with_reducible apply ri hC ?_ | (with_reducible apply GN hC ?_;first | rw[c] | rw[e] | rw[j]) | wp_step)
 show R _ _;rw[QP];exact o
end
section
variable {prog:Program}{w:World}{A:Around}{E:#[6]}{h:Heap}{g:Array GenState}{d:Drawn}{t:Nat}{os:OsState}
variable {nm q:Str}{C N:Addr}{bs bm:List Value}{hdct:Bool}{sn:List Str}{sub:List Value}{ab:Bool}{col:Option Bool}{dd:Option Addr}{k0 k1 k2 k3 k5:Option Value}{Bn newId inN:String}{bmN:List Value}
abbrev dM(C:Addr)(dx:Option Addr)(vs:Array Value):Obj:={ cls:=.ref C,dict:=dx,data:=.fields vs }
abbrev jO(C a:Addr):Obj:=dM C none #[.ref a,.none,.none,.none,.bool false,.none]
def rb(n:ExcBaseFacts Bn newId inN bmN)(c:(Value.ref C::bm).contains (.type Bn)=true)(u:(Value.ref C::bm).contains (.type "AttributeError")=false)(v:(Value.ref C::bm).contains (.type "NameError")=false){rest:List Value}{y:Addr}{L:Obj}{Q:Fin->Shared->Prop}
 (hC:h.get? C=some (excClassObj nm q C N bs bm hdct sn sub ab col dd k0 k1 k2 k3 k5 newId))(M:PySem.W.Looks (model prog w) h (typeLookup (.ref C) "__init__") (some (.ref y)))
 (z:h.get? y=some L)(B:L.cls=.type "function")
 (O:‹w.A› (call (.ref y) (.ref (h.objs.size+1)::rest)) (λr s'=>r=.none/\Q (.done (.ret (.ref (h.objs.size+1)))) s') E %[(h.push { cls:=.type "tuple",data:=.seq rest.toArray }).push (jO C h.objs.size),g,d,t|os])(hrest:rest.length<=sizeLine:=by size_fits):
 ‹w.A› (Builtin.«type.__call__» %[.ref C::rest|[]]) Q E ⟨h,g,d,t,os⟩:=by
 repeat (first | with_reducible apply ri hC ?_ | with_reducible apply wpAny_madeBy_exc hC ?_ | wp_step)
 apply codeAny_call_builtin_code (Code.quiet_builtin _ n.quiet) (Ba n c hC ?_);apply Hm n c u v hC ?_ hrest;show wpAny _ _ _ _ _ _;let D:=ih (jO C h.objs.size) (ih { cls:=.type "tuple",data:=.seq rest.toArray } hC);let j:=ih (jO C h.objs.size) (ih { cls:=.type "tuple",data:=.seq rest.toArray } z);let m:((h.push { cls:=.type "tuple",data:=.seq rest.toArray }).push (jO C h.objs.size)).get? (h.objs.size+1)=some (jO C h.objs.size):=by heap_get
 let J:(Value.ref C::bm).contains (.ref C)=true:=by simp
 unfold isInstance
 repeat (first | with_reducible apply ri m ?_ | (with_reducible apply GN D ?_;rw[J]) | wp_step)
 show wpAny _ _ (typeLookup (.ref C) _) _ _ _;apply M _ _ _ _ (λb o e=>ih _ (ih _ e)) ?_;apply IL (ft ?_);unfold bindSpecial;apply ft (RV (T:="function") %[_,j|B] ?_);rw[Qk ⋯];apply gh (ft (se O (λr s' hr=>?_) λ_ _ x=>x));erw[1,U]at hr
 wp_walk
 exact U
def lY(u:ExcBaseFacts Bn newId inN bmN)(b:(Value.ref C::bm).contains (.type Bn)=true)(c:(Value.ref C::bm).contains (.type "AttributeError")=false)(e:(Value.ref C::bm).contains (.type "NameError")=false){rest:List Value}{j:Addr}{o:Obj}{Q:#[6]}
 (hC:h.get? C=some (excClassObj nm q C N bs bm hdct sn sub ab col dd k0 k1 k2 k3 k5 newId))(v:PySem.W.Looks (model prog w) h (typeLookup (.ref C) "__init__") (some (.ref j)))
 (m:h.get? j=some o)(n:o.cls=.type "function")
 (x:wpAny (model prog w) (A.under (.builtin "type.__call__" %[.ref C::rest|[]])) (call (.ref j) (.ref (h.objs.size+1)::rest)) (λr s'=>r=.none/\Q (.ref (h.objs.size+1)) s') E %[(h.push { cls:=.type "tuple",data:=.seq rest.toArray }).push (jO C h.objs.size),g,d,t|os])(hrest:rest.length<=sizeLine:=by size_fits):
 ‹w.A› (call (.ref C) rest) Q E %[h,g,d,t|os]:=by
 let f1:=tc_lookup;let y:=tc_bind (.ref C);let hT:(%[h,g,d,t|os]:Shared).TypeIs (.ref C) "type":=⟨_,hC,rfl⟩
 apply QG (codeAny_of_tree ?_);show wpAny _ _ (callAny (.ref C) _) _ _ _
 repeat (any_goals (first | assumption | with_reducible apply ri hC ?_ | wp_step))
 erw[1,6];apply codeAny_call_builtin_at (Code.quiet_builtin _ ⋯) entry_typeCall (wpAny_check_type_call_sub hC (rb (hrest:=hrest) u b c e hC v m n ?_));exact x
end
end L2
namespace L2
open PySem PySem.Spec PyProof.Rows
def ObP(e:Addr)(p:Obj->Prop):HO:=.ext λh=>∃o,h.get? e=some o/\p o
def ObP.ok{P:Program}{w:World}{H:Hp}{h:Heap}{e:Addr}{p:Obj->Prop}{o:Obj}(b:h.get? e=some o)(c:p o):ObjOk P w H h e (ObP e p):=
 %[%[o,b|c],%[o|b]|λ_ _ ⟨o,b,c⟩ k=>%[o,k o b|c]]
def ObP.get{P:Program}{w:World}{H:Hp}{h:Heap}{e:Addr}(x:HOk P w H h)(he:H e=some (ObP e p)):∃o,h.get? e=some o/\p o:=(x e _ he).1
abbrev vs6(a:Addr):Array Value:=#[.ref a,.none,.none,.none,.bool false,.none]
def pP(C e:Addr):HO:=ObP e λo=>∃a,o=dM C none (vs6 a)
def uS(C e dx:Addr):HO:=ObP e λo=>∃a,o=dM C (some dx) (vs6 a)
def kg(b:Bool)(C e dx:Addr):HO:=ObP e λo=>∃vs,o=dM C (some dx) vs/\vs.size=6/\(b=true->vs[2]?=some Value.none)
abbrev JL(C e dx:Addr):HO:=kg true C e dx
structure MkX(K:W.Frag)(C f:Addr):Prop where
 obj:∃(nm q:Str) (N:Addr) (bs bm:List Value) (hdct:Bool) (sn:List Str) (sub:List Value) (ab:Bool) (col:Option Bool) (dd:Option Addr) (k0 k1 k2 k3 k5:Option Value),K.lookup C=some (excClassObj nm q C N bs bm hdct sn sub ab col dd k0 k1 k2 k3 k5 "ValueError.__new__")/\
  (Value.ref C::bm).contains (.type "ValueError")=true/\(Value.ref C::bm).contains (.type "AttributeError")=false/\(Value.ref C::bm).contains (.type "NameError")=false
 init:W.findIn K (.ref C) "__init__"=some (some (.ref f))
 fn:∃o,K.lookup f=some o/\o.cls=.type "function"
 kp:W.keepIn K (.ref C)=true
section
variable {X:Cx}{CX:CXT}{k:Nat}{f C:Addr}{fd:FuncData}{ps:List Str}{sp:Sp}{dvs:List V}{ds:List Value}{E:XK}{x m:Str}{p pos Qm:Pos}{e o:Expr}{es:List Expr}{ta:TE}{t:TA}
def CC{σ:St}{Q:VK}(M:MkX X.K C f)(z:FnOk X.prog X.w X.K X.mg X.base CX k f fd ps sp)(hr:Room (k+1) X.A)(J:Binds X.K fd ps ds)(hd:Vals dvs ds)
 (L:eX CX X E)(I:#[8] H s)(r:Vals vs us)(O:vs.length<=sizeLine)
 (h:∀e,H e=none->sp (.ref e::(vs++dvs)) (upd H e (pP C e)) (λv U=>v=.non/\Q (.ref e) U) E):
 ‹X.w› (call (.ref C) us) (EP X Qh σ Q) X.xe s:=by
 let hf:H (‹s›+1)=none:=I.hok.fresh (q9 _);let B:=h (‹s›+1) hf;erw[nm,q,N,bs,bm,D,sn,sub,ab,Y,dd,k0,k1,k2,k3,k5,lk,c1,c2,c3]at M.obj;erw[oI,lf,y]at M.fn;erw[hh,g,d,tk,os]at s;let I1:#[8] H { heap:=hh.push { cls:=.type "tuple",data:=.seq us.toArray },gens:=g,drawn:=d,toks:=tk,os:=os }:=I.kept (t':=tk) λb o e=>ih _ e
 let j:(hh.push { cls:=.type "tuple",data:=.seq us.toArray }).objs.size=hh.objs.size+1:=QP ..;let n:#[8] (upd H (hh.objs.size+1) (pP C (hh.objs.size+1))) { heap:=(hh.push { cls:=.type "tuple",data:=.seq us.toArray }).push (jO C hh.objs.size),gens:=g,drawn:=d,toks:=tk,os:=os }:=
  I1.laid (t':=tk) (λb o e=>ih _ e) (RU j) (ObP.ok (o:=jO C hh.objs.size) (by rw[←j];exact mM _ rfl) %[|0])
 let r2:Vals (V.ref (hh.objs.size+1)::(vs++dvs)) (Value.ref (hh.objs.size+1)::(us++ds)):=.cons rfl (r.append hd);let hl:(Value.ref (hh.objs.size+1)::us++ds).length=ps.length:=by
  let e:=r2.length;rw[z.len _ _ _ _ B]at e;exact e.symm
 apply lY RY c1 c2 c3 (I.kIn _ _ lk) (Rm I.kIn M.init) (I.kIn _ _ lf) y ?_ (by rw[←r.length];exact O);apply QG (Qu (z.run _ X.stack _ _ %[Value.ref (hh.objs.size+1)::us|[]] (Value.ref (hh.objs.size+1)::(us++ds)) _ _ E (hr.make C us []) (n.env0.make C us []) (J _ (Value.ref (hh.objs.size+1)::us) n.kIn hl) r2 B) λr s' c=>?_);cases r with
 |error e=>exact L Qh σ _ _ e s' n c
 |ok fl=>
   cases fl with
   |ret u=>
     let%[v,H',I3,rv,ev|q3]:=n.after c;subst ev;erw[rv,%[V.ref (hh.objs.size+1),H',I3,1|q3]]
   |next=>exact False.elim c
   |brk=>exact False.elim c
   |cont=>exact False.elim c
inductive ZtMakeX(C:Addr)(sp:Sp)(dvs:List V)(E:XK)(Q:VK)(vs:(List V))(H1:Hp):Prop
 |mk:vs.length<=sizeLine->(∀e,H1 e=none ->
 sp (.ref e::(vs++dvs)) (upd H1 e (pP C e)) (λv H2=>v=.non/\Q (.ref e) H2) E)->ZtMakeX C sp dvs E Q vs H1
def Ez(C:Addr)(sp:Sp)(dvs:List V)(E:XK)(t:TA):TE:=λσ H Q=>t σ H λvs b=>ZtMakeX C sp dvs E Q vs b
def vq(M:MkX X.K C f)(F:FnOk X.prog X.w X.K X.mg X.base CX k f fd ps sp)(hr:Room (k+1) X.A)(hg:Gl X x)(c:X.mg x=some (.ref C))(d:Binds X.K fd ps ds)(hd:Vals dvs ds)(g:eX CX X E)
 (b:(x==("__debug__":Str))=false:=by decide):PE X (.Call (.Name x p) [] [] pos) (Ez C sp dvs E Ck):=by
 exists 4,Q,I,h;apply GV (iK I hg c ?_ b);exact W.callWith_K0 I.kIn M.kp (CC (us:=[]) M F hr d hd g I .nil h.1 h.2)
end
structure ClsFn(K:W.Frag)(C f:Addr)(name:Str):Prop where
 ga:W.specialIn K (.ref C) "__getattribute__"=some (some (.builtin "type.__getattribute__"))
 rd:W.readsIn K C (.type "type")=true
 fc:(match W.findCls K (.ref C) (.type "type") name with | some (.val v)=>some v | _=>none)=some (.ref f)
 kp:W.keepIn K (.ref f)=true
def ClsFn.find{K:W.Frag}(c:ClsFn K C f name):W.findCls K (.ref C) (.type "type") name=some (.val (.ref f)):=by
 let h:=c.fc
 split at h
 . rename_i v e;cases h;exact e
 . cases h
section
variable {X:Cx}{CX:CXT}{k:Nat}{f C:Addr}{fd:FuncData}{ps:List Str}{sp:Sp}{dvs:List V}{ds:List Value}{E:XK}{x m:Str}{p pos Qm:Pos}{e o:Expr}{es:List Expr}{ta:TE}{t:TA}
def Ae{pl:Sem Bool}(hg:Gl X x)(z:X.mg x=some (.ref C))(c:ClsFn X.K C f m)(B:FnOk X.prog X.w X.K X.mg X.base CX k f fd ps sp)(hr:Room k X.A)(D:Binds X.K fd ps ds)(hd:Vals dvs ds)(J:eX CX X E)(L:PA X (e::es) t)(b:(x==("__debug__":Str))=false:=by decide)
 (M:starEach (e::es) X.env=(false,eval e X.env)::starEach es X.env:=by rfl)(d:(backTo pos (starEach es X.env)).any (·.1)=false:=by rfl)
 (N:eval (.Call (.Attribute (.Name x p) m Qm) (e::es) [] pos) X.env=(do
  let j ←eval (.Name x p) X.env
  standAt Qm.atName
  let(f,first) ←holding [j] (getMethod j m pl)
  callWith pos f first (backTo pos (starEach (e::es) X.env)) (backToKw pos (keywordEach [] X.env))):=by rfl) :
 PE X (.Call (.Attribute (.Name x p) m Qm) (e::es) [] pos) (mN sp dvs E t):=by
 exists 4,Q,I,h;apply Rb (pl:=pl) ?_ N;apply thn (bQ (v:=.ref C) hg z rfl b Qh s σ H (λv O=>v=.ref C/\O=H) I %[1|1]) λu s1 ⟨v,U,g,r1,Y,eH⟩=>?_
 subst Y eH;cases r1;apply W.method_cls g.kIn c.ga (W.cls_value g.kIn c.rd c.find rfl ?_);let n:=g.tok (s1.toks+1);apply Rq (first:=[]) (h₀:=X.base) n.ok.mod.kin c.kp (thn (L pos Qh _ σ U _ n h) λus s2 ⟨vs,H2,y,r,q⟩=>%[y.kIn|6]) M d;exact sU B hr D hd J y r q
end
section
variable {prog:Program}{w:World}{A:Around}{E:#[6]}{h:Heap}{g:Array GenState}{d:Drawn}{t:Nat}{os:OsState}
variable {nm q:Str}{C N:Addr}{bs bm:List Value}{hdct:Bool}{sn:List Str}{sub:List Value}{ab:Bool}{col:Option Bool}{dd:Option Addr}{k0 k1 k2 k3 k5:Option Value}{B newId nid initId inN:String}{bmN bmB:List Value}
def zj(j:ExcBaseFacts B nid initId bmB)(o:(Value.ref C::bm).contains (.type B)=true){M:Model}{e:Addr}{r:Obj}{rest:List Value}{Q:Unit->Shared->Prop}
 (hC:h.get? C=some (excClassObj nm q C N bs bm hdct sn sub ab col dd k0 k1 k2 k3 k5 newId))(he:h.get? e=some r)(c:r.cls=.ref C)(u:Q () %[h,g,d,t|os]):
 wpAny M A (checkBuiltinCall initId %[.ref e::rest|[]]) Q E ⟨h,g,d,t,os⟩:=by
 let m:=j.noStar;simp only[checkBuiltinCall,j.initKind,j.initSplit,j.initRow]
 repeat (first | (with_reducible apply ri he ?_;rw[c]) | with_reducible apply ri hC ?_ | (with_reducible apply GN hC ?_;rw[o]) | wp_step)
 apply wpAny_onRaise ?_;rw[show ∀(a b:String) (n:Nat),Bind.check %[.positional,"*",B,.self|[⟨"args",.varPos,false⟩]] a b n (List.map (λx=>x.fst) ({ pos:=Value.ref e::rest }:Args).kw)=pure ()from
  λa b n=>check_star_args _ _ _ _ _ _]
 exact gh u
def DK(b:ExcBaseFacts B nid initId bmB)(c:(Value.ref C::bm).contains (.type B)=true){e:Addr}{rest:List Value}{Q:#[6]}
 (hC:h.get? C=some (excClassObj nm q C N bs bm hdct sn sub ab col dd k0 k1 k2 k3 k5 newId))(he:h.get? e=some (dM C dx (vs6 a)))(hrest:rest.length<=sizeLine)
 (j:Q .none %[(h.push { cls:=.type "tuple",data:=.seq rest.toArray }).update e (Obj.mapFields (·.setIfInBounds 0 (.ref h.objs.size))),g,d,t|os]):
 ‹w.A› (call (.builtin initId) (.ref e::rest)) Q E %[h,g,d,t|os]:=by
 apply QG (codeAny_call_builtin b.init.plain b.initEntry (zj b c hC he rfl ?_))
 wp_walk
 exact j
end
def Ei{K:W.Frag}:W.findCls K (.type "ValueError") (.type "type") "__init__"=some (.val (.builtin "ValueError.__init__")):=by
 rfl'
def Eg:typeOf (.type "ValueError")=pure (.type "type"):=by
 kernel_rfl
def rX{H:Hp}{e:Addr}{o:HO}(h:H e=some o):upd H e o=H:=by
 funext b
 unfold upd
 split
 . rename_i z;rw[z,h]
 . rfl
section
variable {prog:Program}{w:World}{A:Around}{E:#[6]}{s:Shared}{K:W.Frag}{name:Str}
def xx{T:String}{v:Value}{pl:Sem Bool}{Q:Value×List Value->Shared->Prop}(X:K.In s.heap)(d:typeOf (.type T)=pure (.type "type"))(g:Manifest.isStub T=false)
 (e:W.findCls K (.type T) (.type "type") name=some (.val v))(hh:W.handedIn v=true)(h:Q (v,[]) { s with toks:=s.toks+1 }):‹w.A› (getMethod (.type T) name pl) Q E s:=by
 let b:opaqueClassAbove (.type T)=pure none:=by unfold opaqueClassAbove;dsimp only;rw[g];rfl
 let c:PySem.W.Looks (model prog w) s.heap (typeOf (.type T)) (.type "type"):=PySem.W.Looks.of_pure d;let hg:W.findIn K (.type "type") "__getattribute__"=some (some (.builtin "type.__getattribute__")):=W.type_tga;unfold getMethod specialOf;apply ft (ft (c.here ((Rm X hg).here ?_)))
 dsimp only
 rw [Qk W.canon_tga];apply ft (se (Q:=λv=>Q (v,[])) (E:=E) ?_ (λ_ _ z=>gh z) λ_ _ z=>z);let j:PySem.W.Looks (model prog w) s.heap (opaqueClassAbove (.type T)) none:=PySem.W.Looks.of_pure b;apply W.cls_open X j c hg (W.looks_hook X (r:=none) (by rfl)) (by show W.subIn K _ _=_;rfl) e
  (gh (by show wpAny _ _ (PySem.handedOut v) _ _ _;rw[W.handedOut_of hh];exact gh h))
end
section
variable {X:Cx}{p pos Qm:Pos}{e1 e2:Expr}{t:TA}
def HL:bootBuiltins ("ValueError":Str)=some (.type "ValueError"):=by decide
def tF{pl:Sem Bool}(hg:Gl X "ValueError")(hm:X.mg "ValueError"=none)(ha:PA X [e1,e2] t)
 (Qn:starEach [e1,e2] X.env=(false,eval e1 X.env)::starEach [e2] X.env:=by rfl)(n:(backTo pos (starEach [e2] X.env)).any (·.1)=false:=by rfl)
 (ht:eval (.Call (.Attribute (.Name "ValueError" p) "__init__" Qm) [e1,e2] [] pos) X.env=(do
  let L ←eval (.Name "ValueError" p) X.env
  standAt Qm.atName
  let(f,first) ←holding [L] (getMethod L "__init__" pl)
  callWith pos f first (backTo pos (starEach [e1,e2] X.env)) (backToKw pos (keywordEach [] X.env))):=by rfl) :
 PE X (.Call (.Attribute (.Name "ValueError" p) "__init__" Qm) [e1,e2] [] pos) (λσ H Q=>t σ H λvs c=>∃e C f x,vs=[.ref e,x]/\c e=some (pP C e)/\MkX X.K C f/\Q .non c):=by
 exists 4,Q,I,h;apply Rb (pl:=pl) ?_ ht;let hP:PE X (.Name "ValueError" p) (tC (V.ty "ValueError")):=wO hg hm HL rfl;apply thn (hP Qh s σ H (λv H'=>v=.ty "ValueError"/\H'=H) I %[1|1]) λu s1 ⟨v,c,O,r1,y,eH⟩=>?_
 subst y eH;cases r1;apply xx O.kIn Eg ⋯ Ei rfl ?_;let I2:=O.tok (s1.toks+1);let hA:=ha pos Qh _ σ c _ I2 h;rw[Qn]at hA ⊢;apply Ra (by show(false||(backTo pos (starEach [e2] X.env)).any (·.1))=false;rw[n] <;> rfl) (Re ?_);apply thn hA λus s2 ⟨vs,z,B,r2,e,C,f,x,y,he,M,q⟩=>?_
 subst y;cases r2 with
 |cons r D=>
   cases D with
   | @cons _ j _ _ r' D=>
     cases D;cases r;erw[nm,qn,N,bs,bm,U,sn,sub,ab,ah,dd,k0,k1,k2,k3,k5,lk,c1,c2,c3]at M.obj;let%[o,Y,a|1]:=ObP.get B.hok he;erw[hh,g,d,tk,os]at s2;show wpAny _ _ (call (.builtin "ValueError.__init__") (.ref e::[j])) _ _ _;apply DK RY c1 (B.kIn _ _ lk) Y y1S ?_;let I4:#[8] z { heap:=hh.push { cls:=.type "tuple",data:=.seq [j].toArray },gens:=g,drawn:=d,toks:=tk,os:=os }:=B.kept (t':=tk) λb o e=>ih _ e
     let J:=ih { cls:=.type "tuple",data:=.seq [j].toArray } Y;let m:=Heap.get?_update_self (Obj.mapFields (·.setIfInBounds 0 (Value.ref hh.objs.size))) J rfl;let I5:#[8] (upd z e (pP C e)) { heap:=(hh.push { cls:=.type "tuple",data:=.seq [j].toArray }).update e (Obj.mapFields (·.setIfInBounds 0 (Value.ref hh.objs.size))),gens:=g,drawn:=d,toks:=tk,os:=os }:=
      I4.write (x:=e) (e:=e) (t':=tk) (by rw[he];exact trivial) (.inl rfl) (λb u hb m=>(Heap.get?_update_other _ _ (Ne.symm hb)).trans m) %[_|m] (ObP.ok m ⟨hh.objs.size,rfl⟩)
     rw[rX he]at I5;erw[.non,z,I5,1,q]
end
end L2
namespace L2
open PySem Builtin Builtin.ObjectAttr
section
variable {prog:Program}{w:World}{A:Around}{E:#[6]}{h:Heap}{g:Array GenState}{d:Drawn}{t:Nat}{os:OsState}
variable {nm q:Str}{C N x:Addr}{bs bm:List Value}{sn:List Str}{sub:List Value}{ab:Bool}{col:Option Bool}{dd:Option Addr}{k0 k1 k2 k3 k5:Option Value}{newId:String}{name:Str}{v:Value}{vs:Array Value}
def DU{M:Model}{B sa owner:String}{j:List Value}{o:Obj}{b:Value}{Q:Unit->Shared->Prop}(SF:StoreFacts B j sa owner)(m:(Value.ref C::bm).contains (.type owner)=true)
 (hC:h.get? C=some (excClassObj nm q C N bs bm true sn sub ab col dd k0 k1 k2 k3 k5 newId))(u:h.get? x=some o)(hc:o.cls=.ref C)(n:Q () %[h,g,d,t|os]):
 wpAny M A (checkBuiltinCall sa %[[.ref x,b,v]|[]]) Q E ⟨h,g,d,t,os⟩:=by
 let r:=SF.args (.ref x) b v;simp only[checkBuiltinCall,SF.kind,SF.split];apply ft ?_
 . unfold isInstance
   repeat (first | (with_reducible apply ri u ?_;rw[hc]) | (with_reducible apply GN hC ?_;rw[m]) | wp_step)
   cases c:Manifest.signature? sa with
   |none=>exact gh n
   |some e=>
     simp only[argsOk,c]at r;let h2:Bind.checkArgs sa e %[[.ref x,b,v]|[]]=pure ():=r;show wpAny M A (Bind.checkArgs sa e ⟨[.ref x,b,v],[]⟩) Q E _;rw[h2];exact gh n
def vX{tk:Tok}{Q:Fin->Shared->Prop}(j:refuseLoop (.ref x) "__setattr__" (.ref C::bm)=pure ())
 (hC:h.get? C=some (excClassObj nm q C N bs bm true sn sub ab col dd k0 k1 k2 k3 k5 newId))(hL:PySem.W.Looks (model prog w) h (typeLookup (.ref C) name) none){o:Obj}(z:h.get? x=some o)(hc:o.cls=.ref C)(B:o.dict=none)(D:∀c,o.data≠.cls c)
 (hq:∀h' J,h'.get? x=some { cls:=o.cls,dict:=some h.objs.size,data:=o.data,slots:=o.slots }->h'.Ns1 h.objs.size (λy=>if y=name then some v else none)->(∀b o,b≠x->h.get? b=some o->h'.get? b=some o)->Q (.done (.ret .none)) %[h',g,d,J|os]):
 ‹w.A› (Builtin.«object.__setattr__» %[[.ref x,.str name tk,v]|[]]) Q E ⟨h,g,d,t,os⟩:=by
 let L:∀{A':Around}{E':#[6]}{Q':Option Value->Shared->Prop}{t':Nat},Q' none %[h,g,d,t'|os]->wpAny (model prog w) A' (typeLookup (.ref C) name) Q' E' ⟨h,g,d,t',os⟩:=λq'=>hL _ _ _ _ (λ_ _ e=>e) q'
 unfold Builtin.«object.__setattr__»
 repeat (first | rw[refuse_eq] | (rw[j]) | (with_reducible apply ri z ?_;rw[hc]) | with_reducible apply wpAny_mroOf_exc hC ?_ | (with_reducible apply L ?_) | wp_step)
 rw[B,Qi (by simp [typeHasDict])]
 split
 . rename_i m;cases m
 split
 . rename_i c m;exact absurd m (D c)
 . let n:(h.push { cls:=.type "dict",data:=.dict #[] }).get? x=some o:=ih _ z;let r:x≠h.objs.size:=nc (js z);apply ft (wpAny_alloc' ?_);apply ft (wpAny_update' n ?_);apply gh ?_;let M:((h.push { cls:=.type "dict",data:=.dict #[] }).update x λo=>{ cls:=o.cls,dict:=some h.objs.size,data:=o.data,slots:=o.slots }).get? h.objs.size
    = some { cls:=.type "dict",data:=.dict #[] }:=
    (Heap.get?_update_ne _ _ _ _ r.symm).trans (Heap.get?_push_at rfl rfl)
   let O:((h.push { cls:=.type "dict",data:=.dict #[] }).update x λo=>{ cls:=o.cls,dict:=some h.objs.size,data:=o.data,slots:=o.slots }).Ns h.objs.size (λ_=>none):=
    %[_,#[],_,M,1,λe he=>absurd he #[2]|λ_=>rfl]
   show wpAny _ _ (storeInDict h.objs.size (.str name tk) name v) _ _ _;unfold storeInDict newKeyGuard;apply ft (gh (ft (wpAny_nsSet1 (Heap.Ns1.of_empty O) λh' u hs=>?_)));let%[oD,as,av,U,Y|ah]:=u.count (Within.cons name v Within.nil);apply ft (wpAny_lookBehind U (by rw[Y];exact pastItsLine_dict (hQ ah (by rw[ij,o0,sizeLine_eq];omega))) ?_)
   wp_walk
   apply hq h' _ ?_ u λb ob an hb=>?_
   . refine(hs.2 x r).trans (Heap.get?_update_self _ n ?_);let ap:=(Heap.get?_some_iff.mp z).2;erw[oc,od,ar,aw]at o;cases ar <;> first | rfl | exact ap
   . exact(hs.2 b (nc (js hb))).trans ((Heap.get?_update_ne _ _ _ _ an).trans (ih _ hb))
def xQ{B sa owner:String}{n:List Value}{Q:Unit->Shared->Prop}(SF:StoreFacts B n sa owner)(r:(Value.ref C::bm).contains (.type owner)=true)(j:refuseLoop (.ref x) "__setattr__" (.ref C::bm)=pure ())
 (hC:h.get? C=some (excClassObj nm q C N bs bm true sn sub ab col dd k0 k1 k2 k3 k5 newId))(M:PySem.W.Looks (model prog w) h (typeLookup (.ref C) "__setattr__") (some (.builtin sa)))
 (O:PySem.W.Looks (model prog w) h (typeLookup (.ref C) name) none){o:Obj}(u:h.get? x=some o)(hc:o.cls=.ref C)(z:o.dict=none)(D:∀c,o.data≠.cls c)
 (U:∀h' m,h'.get? x=some { cls:=o.cls,dict:=some h.objs.size,data:=o.data,slots:=o.slots }->h'.Ns1 h.objs.size (λy=>if y=name then some v else none)->(∀b o,b≠x->h.get? b=some o->h'.get? b=some o)->Q () %[h',g,d,m|os]):
 ‹w.A› (setAttr (.ref x) name v) Q E %[h,g,d,t|os]:=by
 let f3:=SF.slot.bind (.ref x);let J:∀{Y:Around} {E':#[6]} {L:Option Value->Shared->Prop} {t':Nat},L (some (.builtin sa)) %[h,g,d,t'|os]->wpAny (model prog w) Y (typeLookup (.ref C) "__setattr__") L E' ⟨h,g,d,t',os⟩:=λq'=>M _ _ _ _ (λ_ _ e=>e) q'
 unfold setAttr callSpecial? specialOf
 repeat (any_goals (first | assumption | (with_reducible apply ri u ?_;rw[hc]) | (with_reducible apply J ?_) | wp_step))
 apply codeAny_call_builtin SF.slot.plain SF.entry (DU SF r hC u hc (vX j hC O u hc z D λh' m i1 i2 i3=>?_))
 repeat (any_goals (first | assumption | wp_step))
 exact U h' m i1 i2 i3
end
end L2
namespace L2
open PySem PySem.Spec PyProof.Rows
abbrev bmV:List Value:=[.type "ValueError",.type "Exception",.type "BaseException",.type "object"]
structure ClsX(K:W.Frag)(C CA:Addr):Prop where
 obj:∃(nm q:Str) (N:Addr) (bs:List Value) (sn:List Str) (sub:List Value) (ab:Bool) (col:Option Bool) (dd:Option Addr) (k0 k1 k2 k3 k5:Option Value),K.lookup C=some (excClassObj nm q C N bs (.ref CA::bmV) true sn sub ab col dd k0 k1 k2 k3 k5 "ValueError.__new__")
 set:W.findIn K (.ref C) "__setattr__"=some (some (.builtin "object.__setattr__"))
 ga:W.findIn K (.ref C) "__getattribute__"=some (some (.builtin "BaseException.__getattribute__"))
 gt:W.findIn K (.ref C) "__getattr__"=some none
 cl:W.findIn K (.ref C) "__class__"=some (some (.builtin "object.__class__"))
section
variable {C CA:Addr}
def Ly:(Value.ref C::.ref CA::bmV).contains (.type "ValueError")=true:=by simp [bmV]
def BS:(Value.ref C::.ref CA::bmV).contains (.type "BaseException")=true:=by simp [bmV]
def Lz:(Value.ref C::.ref CA::bmV).contains (.type "object")=true:=by simp [bmV]
def JC:(Value.ref C::.ref CA::bmV).contains (.type "AttributeError")=false:=by
 rw[RD,RD];rfl
def JB:(Value.ref C::.ref CA::bmV).contains (.type "NameError")=false:=by
 rw[RD,RD];rfl
def KB(self:Value):refuseLoop self "__setattr__" (.ref C::.ref CA::bmV)=pure ():=by
 rw[refuseLoop_ref,refuseLoop_ref];exact PySem.F.store_ValueError.passes self
def ClsX.mk'{K:W.Frag}{f:Addr}(c:ClsX K C CA)(init:W.findIn K (.ref C) "__init__"=some (some (.ref f)))(fn:∃o,K.lookup f=some o/\o.cls=.type "function")(kp:W.keepIn K (.ref C)=true):MkX K C f:=by
 erw[nm,q,N,bs,d,sub,e,b,g,j,m,n,r,t,u]at c.obj;erw[%[nm,q,N,bs,_,_,d,sub,e,b,g,j,m,n,r,t,u,Ly,JC|JB],init,fn,kp]
end
section
variable {X:Cx}{Qh:#[7]}{σ:St}{H:Hp}{s:Shared}{h':Heap}{e dx:Addr}{φ:Heap->Prop}{o1 o2:HO}
def Inv.ext2{t':Nat}(I:#[8] H s)(he:H e=some (.ext φ))(x:‹s›<=dx)(k:∀b u,b≠e->s.heap.get? b=some u->h'.get? b=some u)(m:∃u,h'.get? e=some u)
 (n1:ObjOk X.prog X.w (upd (upd H dx o1) e o2) h' dx o1)(y:ObjOk X.prog X.w (upd (upd H dx o1) e o2) h' e o2):#[8] (upd (upd H dx o1) e o2) { s with heap:=h',toks:=t' }:=by
 let o:H dx=none:=I.hok.fresh x;let ne:∀b u,H b=some u->(∀ ψ,u≠.ext ψ)->b≠e/\b≠dx:=λb u g B=>%[λz=>by rw[z,he]at g;cases g;exact B _ rfl|bh g o]
 let d:∀b,b≠e->b≠dx->upd (upd H dx o1) e o2 b=H b:=λb h1 h2=>by rw[aB h1,aB h2]
 let fr:∀b u,s.heap.get? b=some u->b≠dx:=λb u q=>nc (rz (js q) x)
 let t:∀b,H b=none->b≠e:=λb n z=>by rw[z,he]at n;cases n
 apply I.un %[λb u q n _ _=>k b u (t b n) q,λb u q n _ _=>%[u.slots|k b u (t b n) q],λb u q n _=>?_,λb u q _=>?_,λb xs q=>?_,λb u xs q=>?_|λb ps q=>%[#[]|6]] λb u q=>?_
 . rw[d b (t b n) (fr b u q)];exact n
 . by_cases g:b=e
   . rw[g];exact m
   . erw[u,k b u g q]
 . let%[h1|h2]:=ne b _ q (λψ z=>by cases z);rw[d b h1 h2];exact q
 . let%[h1|h2]:=ne b _ q (λψ z=>by cases z);rw[d b h1 h2];exact q
 . let%[h1|h2]:=ne b _ q (λψ z=>by cases z);rw[d b h1 h2,q]
   simp
 . by_cases g:b=e
   . subst g;rw[aX]at q;cases q;exact y
   . by_cases j:b=dx
     . subst j;rw[aB g,aX]at q;cases q;exact n1
     . rw [d b g j]at q;refine(I.hok b u q).stay (λc v hc r=>k c v ?_ r) (λc r=>?_) λc xs r=>?_
       . rcases hc with rfl | hc
         . exact g
         . exact(ne c _ hc (λψ z=>by cases z)).1
       . let%[h1|h2]:=ne c _ r (λψ z=>by cases z);rw[d c h1 h2];exact r
       . let%[h1|h2]:=ne c _ r (λψ z=>by cases z);rw[d c h1 h2];exact r
end
section
variable {X:Cx}{o e value:Expr}{f:Str}{pos pos' tpos:Pos}{ta tv:TE}
def Br(M:PE X o ta)(O:PE X value tv)(U:swapsWith value (some (.Attribute o f pos')) pos.line X.env=pure false):
 PS X (.Assign [.Attribute o f pos'] value pos) (λD σ H=>tv σ H λy r=>ta σ r λx m=>∃e C CA,x=.ref e/\m e=some (pP C e)/\ClsX X.K C CA/\NoAttr X.K C f/\∀dx,m dx=none->dx≠e->D.nx σ (upd (upd m dx (.xd [(f,y)])) e (uS C e dx))):=by
 exists 4,D,I,h;apply Sz (thn (O Qh s σ H _ I h) λu s1 ⟨y,r,Y,ry,q⟩=>thn (M Qh s1 σ r _ Y q) λov s2 ⟨x,m,j,rx,e,C,CA,ex,he,c,n,q2⟩=>?_) U;subst ex;obtain rfl:ov=Value.ref e:=rx;erw[nm,qn,N,bs,sn,sub,ab,ah,dd,k0,k1,k2,k3,k5,lk]at c.obj;let%[ob,ho,a|1]:=ObP.get j.hok he;erw[hh,g,d,tk,os]at s2;apply xQ PySem.F.store_ValueError Lz (KB _) (j.kIn _ _ lk) (Rm j.kIn c.set) (Rm j.kIn n) ho rfl rfl (λ_ z=>by cases z) λh' t L i2 i3=>?_
 let hd:m hh.objs.size=none:=j.hok.fresh (fz _);let v:hh.objs.size≠e:=λz=>by rw[z,he]at hd;cases hd
 erw[σ,_,j.ext2 (t':=t) (dx:=hh.objs.size) (e:=e) (o1:=.xd [(f,y)]) (o2:=uS C e hh.objs.size) he (fz _) (λb u B q=>i3 b u B q) %[_|L] ⟨_,i2,λz=>?_⟩ (ObP.ok L %[a|1]),q2 _ hd v]
 by_cases J:z=f
 . subst J;rw[Qk rfl,show([(z,y)]:List (Str×V)).lookup z=some y by simp [List.lookup]];exact ry
 . rw [Qi J]
   have:([(f,y)]:List (Str×V)).lookup z=none:=by
    let B:(z==f)=false:=beq_eq_false_iff_ne.mpr J;simp only[List.lookup,B]
   rw[this];trivial
end
section
variable {X:Cx}
def FmV(v:V)(y:Str):Prop:=(∃i:Int,v=.int i/\i.natAbs.log2<1920/\y=toString i)∨v=.str y∨(v=.non/\y="None")
def Bv{pos:Pos}(he:PE X e d):PE X (.FormattedValue e (-1) none pos) (λσ H Q=>d σ H λv b=>∃y,FmV v y/\y.length<=sizeLine/\Q (.str y) b):=by
 exists 4,Q,I,h;apply FormattedValue_plain (thn (he Qh s σ H _ I h) λv s1 ⟨x,b,c,r1,y,ex,g,q⟩=>?_);rcases ex with⟨i,rfl,hl,rfl⟩ | rfl | ⟨rfl,rfl⟩
 . erw[t',1]at r1;exact formatField_int_small hl %[.str (toString i),b,c.tok _,%[|0]|q]
 . erw[t',1]at r1;exact formatField_str (λj tk=>%[.str y,b,c.tok _,%[|0]|q]) g
 . obtain rfl:v=Value.none:=r1;exact PySem.wpAny_formatField_none %[.str "None",b,c.tok _,%[|0]|q]
end
structure FunD(K:W.Frag)(x qual:Str)(st:Stmt)(f:Addr)(fd:FuncData)(dV:Value):Prop where
 ex:∃(oc:Value)(od:Option Addr)(kV doc pm:Value)(an:Option Addr)(cdv ct:Value)(osl:Array (Option Value)),
  fd=W.fnOf x qual (eR st) (cP st) (af st) dV kV doc pm an cdv ct/\K.lookup f=some %[oc,od,.func fd|osl]/\W.codeIn K cdv qual=true
 kp:W.keepIn K (.ref f)=true
section
variable {P:Program}{w:World}{K:W.Frag}{mg:#[9]}{base:Heap}{dV:Value}
def FunD.ok{st:Stmt}{sp:Sp}(F:FunD K x qual st f fd dV)(S:FnScope N ps (af st))(len:∀vs H Q E,sp vs H Q E->vs.length=ps.length)
 (b:∀(cdv:Value)(A:Around)(outer:List Env)(s:Shared)(H:Hp)(vs:List V)(Q:VK)(E:XK),Room k (A.deeper (envOfC qual (af st) ‹s› f cdv))->sp vs H Q E ->
  ∃t,PSs (fu CX0 P w K mg base N qual (af st) f cdv A outer s H E).nox (cP st) t/\t { nx:=λ_ e=>Q .non e,rt:=Q } (il N vs) H):FnOk P w K mg base CX0 (k+1) f fd ps sp:=by
 erw[n,o,kV,g,r,u,cdv,ct,j,1,m,c]at F.ex;apply Hk m c S len λA outer s H vs Q E hr d=>?_
 let%[t,h|q]:=b cdv A outer s H vs Q E hr d;erw[t,h.nox,q]
def BG{x qual:Str}{st:Stmt}{f:Addr}{j:Value}{m e:Option Addr}{d:Array (Option Value)}{kV b g cdv ct:Value}(l:K.lookup f=some %[j,m,.func (W.fnOf x qual (eR st) (cP st) (af st) dV kV b g e cdv ct)|d])
 (c:W.codeIn K cdv qual=true)(k:W.keepIn K (.ref f)=true):FunD K x qual st f (W.fnOf x qual (eR st) (cP st) (af st) dV kV b g e cdv ct) dV:=%[%[j,m,kV,b,g,e,cdv,ct,d,1,l|c]|k]
def Fun.toD{st:Stmt}(F:Fun K x qual st f fd):FunD K x qual st f fd .none:=%[F.ex|F.kp]
end
def Ex(H:Hp)(e C:Addr)(f:Str)(v:V):Prop:=∃dx,H e=some (uS C e dx)/\H dx=some (.xd [(f,v)])
def mK(k:Bool)(h:Heap)(e C dx:Addr):Prop:=∃vs,h.get? e=some (dM C (some dx) vs)/\vs.size=6/\(k=true->vs[2]?=some Value.none)/\(vs[1]?=some .none∨∃T b ts,vs[1]?=some (.ref T)/\T≠e/\h.get? T=some b/\b.data=.fields ts/\ts[3]?=some .none)
structure Lft(fs:List Addr)(e:Addr)(h h':Heap):Prop where
 keep:∀b o,h.get? b=some o->b∉fs->b≠e->h'.get? b=some o
 slot:∀b o,h.get? b=some o->b≠e->∃sl,h'.get? b=some { o with slots:=sl }
section
variable {M:Model}{A:Around}{E:#[6]}{s:Shared}
def vA{k:Bool}{base:Heap}{env:Env}{outer:List Env}{L e dx:Addr}{d:Value}{g:Bool}{Q:Unit->Shared->Prop}
 (O:A.frames=some (env::outer))(hl:s.heap.FunFrames base (env::outer))(hf:env.frame=some L)
 (he:s.heap.get? e=some (dM C (some dx) vs))(hsz:vs.size=6)(U:k=true->vs[2]?=some Value.none)
 (h:∀h',Lft ((env::outer).filterMap (·.frame)) e s.heap h'->mK k h' e C dx->Q () { s with heap:=h' }):
 wpAny M A (do let a ←frameOf env;let pl ←entryPlaceOf L g;let b ←EntryCells.newEntry d a .none (rawInt L) .none pl;setField (.ref e) 1 b) (λ_ s'=>wpAny M A (setFlight (.ref e) none) Q E s') E s:=by
 let hd:(dM C (some dx) vs).data=.fields vs:=rfl;let m:1<vs.size:=#[0]
 let t:e∉(env::outer).filterMap (·.frame):=λhm=>by
  let%[_,o,N|Y]:=hl.mem hm;rw[he]at N;injection N with N;subst N;exact Y vs hd
 apply ft (wpAny_frameOf_fun O hl hf λc n=>?_);apply ft (wpAny_entryPlaceOf λpl u=>?_);unfold EntryCells.newEntry newFields;apply ft (yl ?_ (u.sizeOk5 _ _ _ _ _));let v:c.get? e=some (dM C (some dx) vs):=(n.2.1 e t).trans he;let y:=ih (h:=c) { cls:=.type "traceback",dict:=none,data:=.fields ([d,.ref L,.none,rawInt L,.none]++(if pl.isEmpty then List.replicate 6 Value.none else pl)).toArray } v;apply Fb y hd m ?_;let q:c.objs.size≠e:=QS (js v);let B:=xn hd (·.setIfInBounds 1 (Value.ref c.objs.size));let D:=Heap.get?_update_self (Obj.mapFields (·.setIfInBounds 1 (Value.ref c.objs.size))) y (Qx B);let J:=(Heap.get?_update_other (c.push { cls:=.type "traceback",dict:=none,data:=.fields ([d,.ref L,.none,rawInt L,.none]++(if pl.isEmpty then List.replicate 6 Value.none else pl)).toArray })
  (Obj.mapFields (·.setIfInBounds 1 (Value.ref c.objs.size))) (Ne.symm q)).trans (mM c rfl)
 unfold setFlight;apply ft (n9 D B (x:=.ref c.objs.size) (by simp [m]) ?_);rw[Qk (show(Value.ref c.objs.size != Value.none)=true from by simp)];apply Fb J rfl (by simp only[ks,gl,ij,o0] <;> omega) ?_;let keep:∀b o,b≠e->c.get? b=some o ->
  (((c.push { cls:=.type "traceback",dict:=none,data:=.fields ([d,.ref L,.none,rawInt L,.none]++(if pl.isEmpty then List.replicate 6 Value.none else pl)).toArray }).update e (Obj.mapFields (·.setIfInBounds 1 (Value.ref c.objs.size)))).update c.objs.size
    (Obj.mapFields (·.setIfInBounds 3 ((none:Option Addr).elim Value.none λf=>rawInt f)))).get? b=some o:=λb o j r=>by
  let ab:c.objs.size≠b:=QS (js r);rw[Heap.get?_update_other _ _ ab,Heap.get?_update_other _ _ (Ne.symm j)];exact ih _ r
 apply h _ %[λb o r hn j=>keep b o j ((n.2.1 b hn).trans r)|λb o r j=>?_] %[vs.setIfInBounds 1 (.ref c.objs.size),6,6,6|.inr %[c.objs.size,_,_,6,q,Heap.get?_update_self _ J (Qx (xn rfl _)),xn rfl _|6]]
 . let%[sl|hs]:=n.2.2 b o r;erw[sl,keep b _ j hs]
 . rw[Heap.get?_update_other _ _ q];exact D
 . simp [hsz]
 . intro z;rw[Array.getElem?_setIfInBounds_ne ⋯];exact U z
 . simp [m]
 . first | (simp;done) | (rcases u with rfl | ⟨_,_,_,_,_,_,_,rfl⟩ <;> simp)
def oA{ts:Array Value}{i:Nat}{v:Value}(h:ts[i]?=some v):ts.setIfInBounds i v=ts:=by
 let%[c|e]:=Array.getElem?_eq_some_iff.mp h;apply Array.ext #[2] λj h1 h2=>?_
 rw[Array.getElem_setIfInBounds]
 . by_cases b:i=j
   . subst b;rw[Qk rfl,←e]
   . rw[Qi b]
def tN{base:Heap}{env:Env}{outer:List Env}{L:Addr}{Q:Unit->Shared->Prop}
 (n:A.frames=some (env::outer))(hl:s.heap.FunFrames base (env::outer))(hf:env.frame=some L)(he:mK k s.heap e C dx)
 (h:∀h',Lft ((env::outer).filterMap (·.frame)) e s.heap h'->mK k h' e C dx->Q () { s with heap:=h' }):
 wpAny M A (noteFrame (.ref e) env) (λ_ s'=>wpAny M A (setFlight (.ref e) none) Q E s') E s:=by
 erw[vs,he,u,q,y]at he;let hd:(dM C (some dx) vs).data=.fields vs:=rfl;unfold noteFrame;simp only[hf];rcases y with h1 | ⟨T,t,ts,h1,z,hT,j,h3⟩
 . apply ft (n9 he hd h1 ?_);rw[Qi ⋯];exact vA n hl hf he u q h
 . apply ft (n9 he hd h1 ?_);rw[Qk (show(Value.ref T != Value.none)=true from by simp)];apply ft (n9 hT j h3 ?_);rw[Qi (show ¬ ((Value.none==rawInt L)=true)from by simp [rawInt])];apply ft (Fb hT j (Array.getElem?_eq_some_iff.mp h3).1 ?_);let id:∀b o,s.heap.get? b=some o->(s.heap.update T (Obj.mapFields (·.setIfInBounds 3 Value.none))).get? b=some o:=λb o g=>by
    by_cases r:b=T
    . subst r;rw[hT]at g;cases g;let v:Obj.mapFields (·.setIfInBounds 3 Value.none) t=t:=by
       erw[c,d,N,B]at t;cases j;show({ cls:=c,dict:=d,data:=.fields (ts.setIfInBounds 3 Value.none),slots:=B }:Obj)=_;rw[oA h3]
      have:=Heap.get?_update_self (Obj.mapFields (·.setIfInBounds 3 Value.none)) hT (by rw[v];exact(Heap.get?_some_iff.mp hT).2)
      rw[this,v]
    . rw[Heap.get?_update_other _ _ (Ne.symm r)];exact g
   apply vA (s:={ s with heap:=_ }) n (hl.of_keeps λb o g _=>%[o,id b o g|1]) hf (id _ _ he) u q λh' x D=>h h' %[λb o g J m=>x.keep b o (id b o g) J m|λb o g m=>x.slot b o (id b o g) m] D
def Dw{base:Heap}{env:Env}{outer:List Env}{L:Addr}{Q:Unit->Shared->Prop}
 (b:A.frames=some (env::outer))(hl:s.heap.FunFrames base (env::outer))(hf:env.frame=some L)(he:mK k s.heap e C dx)
 (h:∀h',Lft ((env::outer).filterMap (·.frame)) e s.heap h'->mK k h' e C dx->Q () { s with heap:=h' }):wpAny M A (leaving env (.ref e)) Q E s:=by
 unfold leaving;exact ft (tN b hl hf he h)
def ue{Q:Unit->Shared->Prop}(he:mK k s.heap e C dx)(h:∀h',(∀b o,s.heap.get? b=some o->h'.get? b=some o)->Q () { s with heap:=h' }):wpAny M A (setFlight (.ref e) none) Q E s:=by
 erw[vs,he,y,t,u]at he;let hd:(dM C (some dx) vs).data=.fields vs:=rfl;unfold setFlight;rcases u with h1 | ⟨T,m,ts,h1,v,hT,g,h3⟩
 . apply ft (n9 he hd h1 ?_);rw[Qi ⋯];exact gh (h s.heap λ_ _ q=>q)
 . apply ft (n9 he hd h1 ?_);rw[Qk (show(Value.ref T != Value.none)=true from by simp)];apply Fb hT g (Array.getElem?_eq_some_iff.mp h3).1 (h _ λb o n=>?_);show(s.heap.update T (Obj.mapFields (·.setIfInBounds 3 Value.none))).get? b=some o
   by_cases j:b=T
   . subst j;rw[hT]at n;cases n;let r:Obj.mapFields (·.setIfInBounds 3 Value.none) m=m:=by
      erw[c,d,z,x]at m;cases g;show({ cls:=c,dict:=d,data:=.fields (ts.setIfInBounds 3 Value.none),slots:=x }:Obj)=_;rw[oA h3]
     have:=Heap.get?_update_self (Obj.mapFields (·.setIfInBounds 3 Value.none)) hT (by rw[r];exact(Heap.get?_some_iff.mp hT).2)
     rw[this,r]
   . rw[Heap.get?_update_other _ _ (Ne.symm j)];exact n
end
section
variable {k:Bool}{P:Program}{w:World}{H:Hp}{h h':Heap}{fs:List Addr}{e C dx:Addr}{φ:Heap->Prop}
def Fly.ofD(x:HOk P w H h)(he:H e=some (uS C e dx)):mK k h e C dx:=by
 let%[o,b,a|1]:=ObP.get x he;erw[_,b,1,λ_=>rfl,.inl rfl]
def tV(l:Lft fs e h h')(he:H e=some (.ext φ))(g:mK k h' e C dx):Un fs [] H (upd H e (kg k C e dx)) h h':=by
 let d:∀b,H b=none->b≠e:=λb n z=>by rw[z,he]at n;cases n
 let ne:∀b u,H b=some u->(∀ ψ,u≠.ext ψ)->b≠e:=λb u c j z=>by rw[z,he]at c;cases c;exact j _ rfl
 erw[λb o q n c _=>l.keep b o q c (d b n),λb o q n _ _=>l.slot b o q (d b n),λb o _ n _=>by rw[aB (d b n)];exact n,λb o q _=>?_,λb xs q=>?_,λb o u q=>?_,λb ps q=>%[#[]|6]]
 . by_cases c:b=e
   . erw[vs,h1,_]at g;erw[_,by rw[c];exact h1]
   . let%[m|h1]:=l.slot b o q c;erw[_,h1]
 . rw[aB (ne b _ q λψ z=>by cases z)];exact q
 . rw[aB (ne b _ q λψ z=>by cases z)];exact q
 . rw [aB (ne b _ q λψ z=>by cases z),q]
   simp
def pB(x:HOk P w H h)(l:Lft fs e h h')(g:∀b∈fs,H b=none)(he:H e=some (.ext φ))(m:mK k h' e C dx):HOk P w (upd H e (kg k C e dx)) h':=by
 let ne:∀b u,H b=some u->(∀ ψ,u≠.ext ψ)->b≠e:=λb u d n z=>by rw[z,he]at d;cases d;exact n _ rfl
 let j:∀b u,H b=some u->b∉fs:=λb u d z=>by rw[g b z]at d;cases d
 intro b u q
 by_cases d:b=e
 . subst d;rw[aX]at q;cases q;erw[vs,h1,h2,h3,_]at m;exact ObP.ok h1 %[vs,1,h2|h3]
 . rw [aB d]at q;refine(x b u q).stay (λc v hc r=>?_) (λc r=>?_) λc xs r=>?_
   . rcases hc with rfl | hc
     . exact l.keep _ _ r (j _ _ q) d
     . exact l.keep _ _ r (j _ _ hc) (ne _ _ hc λψ z=>by cases z)
   . rw[aB (ne _ _ r λψ z=>by cases z)];exact r
   . rw[aB (ne _ _ r λψ z=>by cases z)];exact r
end
def CXb(k:Bool)(P:Program)(w:World):CXT:=λouter H s E e s'=>∃e0 C dx b,e=.ref e0/\s'.os=s.os/\AllBare s'.gens/\Un (frs outer) [] H b s.heap s'.heap/\HOk P w b s'.heap/\b e0=some (kg k C e0 dx)/\mK k s'.heap e0 C dx/\E (.ref e0) (some dx) b
abbrev CXr(P:Program)(w:World):CXT:=CXb true P w
section
variable {k:Bool}{P:Program}{w:World}{K:W.Frag}{mg:#[9]}{base:Heap}{N:List Str}{qual:Str}{scope:Scope}{f:Addr}{cd:Value}{A:Around}{outer:List Env}{s s1:Shared}{H H1:Hp}{E:XK}{Qh:#[7]}{σ:St}{e C dx:Addr}{φ:Heap->Prop}
def DY(I:Inv (fu (CXb k P w) P w K mg base N qual scope f cd A outer s H E) Qh σ H1 s1)(he:H1 e=some (.ext φ))(m:mK k s1.heap e C dx)(q:E (.ref e) (some dx) (upd H1 e (kg k C e dx))):
 (fu (CXb k P w) P w K mg base N qual scope f cd A outer s H E).xe (.ref e) s1:=by
 show wpAny _ _ (leaving _ (.ref e)) _ _ s1;apply Dw (base:=base) I.ok.frames I.stack rfl m λh' l c=>?_
 let r:=tV (H:=H1) l he c;let t:=pB I.hok l I.stkFree he c;let u:Un (frs outer) [] H H1 s.heap s1.heap:=I.base;let above:‹s›<=(fu (CXb k P w) P w K mg base N qual scope f cd A outer s H E).env.locals:=I.ok.above;let sub:∀b o,s.heap.get? b=some o->b∉frs outer->b∉frs (fu (CXb k P w) P w K mg base N qual scope f cd A outer s H E).stack:=λb o q g z=>by
  rcases Qq (I.stkSub b z)with z | z
  . have:=js q
    rw[z]at this;exact absurd above (Nat.not_le.mpr this)
  . exact g z
 let d:=(u.mono (fs':=frs (fu (CXb k P w) P w K mg base N qual scope f cd A outer s H E).stack) (ex':=[]) (λb g=>by
  show b∈List.filterMap _ (_::outer);rw[Rg];exact pj _ g) λ_ z=>z).trans r
 erw[e,C,dx,0,I.os,I.bare,%[λb o q n g j=>d.keep b o q n (sub b o q g) j,λb o q n _ j=>d.any q n j,d.free,d.there,d.tups,d.frzs|d.tbls],t,aX,c,q]
end
def xZ{M:Model}{A:Around}{E:#[6]}{s:Shared}{env:Env}{K:W.Frag}{x:Sem Value}{Q:Flow->Shared->Prop}(hh:A.handled=none)
 (h:wpAny M A x (λv b=>∃e dx a C CA,v=.ref e/\ClsX K C CA/\K.In b.heap/\b.heap.get? e=some (dM C (some dx) (vs6 a))/\E (.ref e) b) E s):wpAny M A (raiseStmt env (some x) none) Q E s:=by
 unfold raiseStmt;apply ft (se h (λv b m=>?_) λ_ _ x=>x);erw[e,dx,a,C,CA,1,c,KX,he,n]at m;erw[nm,q,N,bs,t,sub,u,o,y,z,B,D,J,L,r]at c.obj;let j:=BS (C:=C) (CA:=CA);let hC:=KX _ _ r;erw[O,g,d,tk,os]at b
 repeat (first | with_reducible apply ri he ?_ | with_reducible apply ri hC ?_ | (with_reducible apply GN hC ?_;rw[j]) | wp_step)
 exact wpAny_raiseNew_none hh n
section
variable {b:Bool}{P:Program}{w:World}{K:W.Frag}{mg:#[9]}{base:Heap}{N:List Str}{qual:Str}{scope:Scope}{f:Addr}{cd:Value}{A:Around}{outer:List Env}{s:Shared}{H:Hp}{E:XK}
def yf{pos:Pos}(he:PE (fu (CXb b P w) P w K mg base N qual scope f cd A outer s H E) x m):
 PS (fu (CXb b P w) P w K mg base N qual scope f cd A outer s H E) (.Raise (some x) none pos) (λ_ σ g=>m σ g λv j=>∃e C CA dx,v=.ref e/\j e=some (uS C e dx)/\ClsX K C CA/\E (.ref e) (some dx) (upd j e (kg b C e dx))):=by
 intro Qh s1 σ g D I h;rw[arm_exec_Raise];apply ft (QF (xZ (K:=K) (I.ok.hd rfl) ?_));apply ft (thn (he Qh s1 σ g _ I h) λu y ⟨v,j,d,r,e,C,CA,dx,n,e2,c,q⟩=>ft (QF (gh ?_)));subst n;obtain rfl:u=Value.ref e:=r;let%[o,t,a|1]:=ObP.get d.hok e2;erw[e,dx,a,C,CA,1,c,d.kIn,t,DY d e2 (Fly.ofD d.hok e2) q]
def By:eX (CXb b P w) (fu (CXb b P w) P w K mg base N qual scope f cd A outer s H E) E:=by
 rintro Qh σ e s1 _ g I ⟨e0,C,dx,j,rfl,os,bare,un,hok,he,c,q⟩;let d:=I.call' (ch:=[]) os un hok bare (λb z=>absurd z #[2]);apply DY d he c ?_;rw[rX he];exact q
def ownX:PassesOwn (model P w) (fu (CXb b P w) P w K mg base N qual scope f cd A outer s H E).A (fu (CXb b P w) P w K mg base N qual scope f cd A outer s H E).env (fu (CXb b P w) P w K mg base N qual scope f cd A outer s H E).xe:=PassesOwn.leaving
end
section
variable {b:Bool}{P:Program}{w:World}{K:W.Frag}{mg:#[9]}{base:Heap}{dV:Value}
def FunD.okX{st:Stmt}{sp:Sp}(F:FunD K x qual st f fd dV)(S:FnScope N ps (af st))(len:∀vs H Q E,sp vs H Q E->vs.length=ps.length)
 (c:∀(cdv:Value)(A:Around)(outer:List Env)(s:Shared)(H:Hp)(vs:List V)(Q:VK)(E:XK),Room k (A.deeper (envOfC qual (af st) ‹s› f cdv))->sp vs H Q E ->
  ∃t,PSs (fu (CXb b P w) P w K mg base N qual (af st) f cdv A outer s H E) (cP st) t/\t { nx:=λ_ g=>Q .non g,rt:=Q } (il N vs) H):FnOk P w K mg base (CXb b P w) (k+1) f fd ps sp:=by
 erw[o,q,kV,j,r,u,cdv,ct,m,1,n,d]at F.ex;exact Hk n d S len λA outer s H vs Q E hr e=>c cdv A outer s H vs Q E hr e
def Fun.okX{st:Stmt}{sp:Sp}(F:Fun K x qual st f fd)(S:FnScope N ps (af st))(len:∀vs H Q E,sp vs H Q E->vs.length=ps.length)
 (c:∀(cdv:Value)(A:Around)(outer:List Env)(s:Shared)(H:Hp)(vs:List V)(Q:VK)(E:XK),Room k (A.deeper (envOfC qual (af st) ‹s› f cdv))->sp vs H Q E ->
  ∃t,PSs (fu (CXb b P w) P w K mg base N qual (af st) f cdv A outer s H E) (cP st) t/\t { nx:=λ_ d=>Q .non d,rt:=Q } (il N vs) H):FnOk P w K mg base (CXb b P w) (k+1) f fd ps sp:=F.toD.okX S len c
structure CalB(b:Bool)(P:Program)(w:World)(K:W.Frag)(mg:#[9])(base:Heap)(n:Nat)(x:Str)(ps:List Str)(sp:Sp):Prop where
 ex:∃(f:Addr)(fd:FuncData),FnOk P w K mg base (CXb b P w) n f fd ps sp/\Binds K fd ps []/\W.keepIn K (.ref f)=true/\mg x=some (.ref f)
abbrev CalR(P:Program)(w:World)(K:W.Frag)(mg:#[9])(base:Heap)(n:Nat)(x:Str)(ps:List Str)(sp:Sp):Prop:=CalB true P w K mg base n x ps sp
def CalR.of{st:Stmt}(F:Fun K x qual st f fd)(O:FnOk P w K mg base (CXb b P w) n f fd ps sp)(m:mg x=some (.ref f))
 (h:∀(kV c d:Value)(e:Option Addr)(cdv ct:Value)(us:List Value),us.length=ps.length->bindArgs (W.fnOf x qual (eR st) (cP st) (af st) .none kV c d e cdv ct) %[us|[]]=pure (ps.zip us)):CalB b P w K mg base n x ps sp:=
 %[f,fd,O,F.binds h,F.kp|m]
def Bx{X:Cx}{e:Expr}{c:List Expr}{p pos:Pos}(C:CalB b X.prog X.w X.K X.mg X.base n x ps sp)(hr:Room k X.A)(j:n<=k)(hg:Gl X x)(o:eX (CXb b X.prog X.w) X E)
 (q:PA X (e::c) t)(d:(x==("__debug__":Str))=false:=by decide)(he:starEach (e::c) X.env=(false,eval e X.env)::starEach c X.env:=by rfl)(g:(backTo pos (starEach c X.env)).any (·.1)=false:=by rfl):
 PE X (.Call (.Name x p) (e::c) [] pos) (mN sp [] E t):=by
 erw[f,fd,F,b,kp,m]at C.ex;exact Bw F (hr.mono j) hg m kp b .nil o q d he g
end
section
variable {M:Model}{A:Around}{E:#[6]}
def uO{K:W.Frag}{s:Shared}{e:Addr}{r:Obj}{Q:Bool->Shared->Prop}(c:ClsX K C CA)(X:K.In s.heap)(he:s.heap.get? e=some r)(b:r.cls=.ref C)
 (hA:∃(nm q:Str) (N:Addr) (bs:List Value) (u:List Str) (sub:List Value) (v:Bool) (j:Option Bool) (x:Option Addr) (y z B D J:Option Value),K.lookup CA=some (excClassObj nm q CA N bs bmV true u sub v j x y z B D J "ValueError.__new__"))
 (U:Q true s):wpAny M A (excMatches (.ref e) (.ref CA)) Q E s:=by
 erw[nm,q,N,bs,u,sub,v,j,x,y,z,B,D,J,Y]at c.obj;erw[ah,q',N',an,ap,L,ar,O,as,av,aw,aA,aC,aH,m]at hA;let hC:=X _ _ Y;let hA:=X _ _ m;erw[h,g,d,t,os]at s;let n:(Value.ref CA::bmV).contains (.type "BaseException")=true:=by simp [bmV]
 let o:(Value.ref C::.ref CA::bmV).contains (.ref CA)=true:=by simp
 let f:=tc_notTuple;unfold excMatches
 repeat (first | (with_reducible apply ri he ?_;rw[b]) | with_reducible apply ri hA ?_ | (with_reducible apply GN hA ?_;rw[n]) | (with_reducible apply GN hC ?_;rw[o]) | wp_step)
 exact U
end
abbrev Cx.marked(X:Cx)(e:Addr):Cx:={ X with A:=X.A.mark (some (.ref e)),calm:=false,xe:=λ_ _=>False }
section
variable {X:Cx}{Qh:#[7]}{σ:St}{H:Hp}{s:Shared}{e:Addr}
def Inv.marked(I:#[8] H s):Inv (X.marked e) Qh σ H s:=
 %[%[I.ok.mod,I.ok.kind,I.ok.glob,I.ok.blt,I.ok.above,I.ok.inj,I.ok.has,I.ok.cab,(λz=>by cases z),I.ok.frames,I.ok.stk,I.ok.exf,I.ok.bs,I.ok.bsz,I.ok.noex,I.ok.exfs,I.ok.funs|I.ok.frf],I.os,I.bare,I.base,I.loc,I.cell,I.free,I.freeC,I.pin,I.hok|I.len]
def Inv.unmarked(ok:X.Ok)(I:Inv (X.marked e) Qh σ H s):#[8] H s:=%[ok,I.os,I.bare,I.base,I.loc,I.cell,I.free,I.freeC,I.pin,I.hok|I.len]
def SP.unmarked{D:Ends}{f:Flow}{s':Shared}(ok:X.Ok)(h:SP (X.marked e) Qh D f s'):SP X Qh D f s':=by
 cases f with
 |next=>erw[σ',b,I,q]at h;erw[σ',b,I.unmarked ok,q]
 |brk=>erw[σ',b,I,q]at h;erw[σ',b,I.unmarked ok,q]
 |cont=>erw[σ',b,I,q]at h;erw[σ',b,I.unmarked ok,q]
 |ret u=>erw[v,σ',b,I,r,q]at h;erw[v,σ',b,I.unmarked ok,r,q]
end
def HV(b:Bool)(X:Cx)(g:Ends->St->XK)(st:List Stmt)(t:TS):Prop:=
 ∀(W:#[6])(Qh:#[7])(s:Shared)(σ:St)(H:Hp)(D:Ends),(∀c s1 d e,#[8] c s1->CXb b X.prog X.w X.stack c s1 (g D σ) d e->W d e)->#[8] H s->t D σ H ->
  ‹X.w› (execs st X.env) (SP X Qh D) W s
abbrev PSw(X:Cx)(EE:Ends->St->XK)(st:List Stmt)(t:TS):Prop:=HV true X EE st t
section
variable {b:Bool}{X:Cx}{EE:Ends->St->XK}{n k:Nat}{x:Str}{ps:List Str}{sp:Sp}{e:Expr}{es:List Expr}{ta:TA}{p pos:Pos}
def HJ{W:#[6]}{E:XK}{σ:St}{Q:VK}(C:CalB b X.prog X.w X.K X.mg X.base n x ps sp)(hr:Room k X.A)(z:n<=k)(hg:Gl X x)(B:PA (X.wish W) (e::es) ta)
 (D:∀d s1 j v,#[8] d s1->CXb b X.prog X.w X.stack d s1 E j v->W j v)(I:#[8] H s)(h:mN sp [] E ta σ H Q)
 (o:(x==("__debug__":Str))=false:=by decide)(he:starEach (e::es) X.env=(false,eval e X.env)::starEach es X.env:=by rfl)(t:(backTo pos (starEach es X.env)).any (·.1)=false:=by rfl):
 ‹X.w› (eval (.Call (.Name x p) (e::es) [] pos) X.env) (EP X Qh σ Q) W s:=by
 erw[f,fd,F,b,kp,m]at C.ex;apply GV (iK I hg m ?_ o);apply Rq (h₀:=X.base) I.ok.mod.kin kp (thn (B pos Qh s σ H _ (I.wish W) h) λus s1 ⟨vs,d,y,r,q⟩=>%[y.kIn|6]) he t;let c:=y.unwish;let r2:Vals (vs++[]) (us++[]):=r.append .nil;let hl:(us++[]).length=ps.length:=by rw[←r2.length];exact F.len _ _ _ _ q
 apply QG (Qu (F.run X.A X.stack s1 d %[us|[]] (us++[]) (vs++[]) Q E (hr.mono z) c.env0 (b s1 us c.kIn hl) r2 q) λr s' g=>?_);cases r with
 |error j=>exact D d s1 j s' c g
 |ok J=>
   cases J with
   |ret u=>exact c.after g
   |next=>exact False.elim g
   |brk=>exact False.elim g
   |cont=>exact False.elim g
def IK{i:Nat}{y:Str}{j m:Pos}(o:X.N.Nodup)(q:X.N[i]?=some y)(r:Loc X.env.scope y)(C:CalB b X.prog X.w X.K X.mg X.base n x ps sp)(hr:Room k X.A)(t:n<=k)(hg:Gl X x)(u:∀W,PA (X.wish W) (e::es) ta)
 (B:swapsWith (.Call (.Name x p) (e::es) [] pos) (some (.Name y j)) m.line X.env=pure false:=by rfl)(hf:X.fn y=true∨X.env.scope.names.lookup y=some .local:=by first | exact .inl rfl | exact .inr rfl | assumption)
 (c:(x==("__debug__":Str))=false:=by decide)(he:starEach (e::es) X.env=(false,eval e X.env)::starEach es X.env:=by rfl)(d:(backTo pos (starEach es X.env)).any (·.1)=false:=by rfl):
 HV b X EE [.Assign [.Name y j] (.Call (.Name x p) (e::es) [] pos) m] (λD σ H=>mN sp [] (EE D σ) ta σ H λv g=>D.nx (σ.set i (some v)) g):=by
 intro W Qh s σ H D J I h;apply Rj (Sq (thn (HJ C hr t hg (u W) J I h c he d) λv s1 ⟨z,g,L,r1,M⟩=>?_) B);exact ox L o q r r1 (λU O=>LO %[_,g,O|M]) hf
def Fu{j:Pos}(C:CalB b X.prog X.w X.K X.mg X.base n x ps sp)(hr:Room k X.A)(m:n<=k)(hg:Gl X x)(o:∀W,PA (X.wish W) (e::es) ta)
 (q:swapsWith (.Call (.Name x p) (e::es) [] pos) none j.line X.env=pure false:=by rfl)
 (c:(x==("__debug__":Str))=false:=by decide)(he:starEach (e::es) X.env=(false,eval e X.env)::starEach es X.env:=by rfl)(d:(backTo pos (starEach es X.env)).any (·.1)=false:=by rfl):
 HV b X EE [.Expr (.Call (.Name x p) (e::es) [] pos) j] (λD σ H=>mN sp [] (EE D σ) ta σ H λ_ g=>D.nx σ g):=by
 intro W Qh s σ H D r I h;apply Rj (wpAny_Expr_any (thn (HJ C hr m hg (o W) r I h c he d) λv s1 ⟨z,g,t,r1,u⟩=>LO %[σ,g,t|u]) I.quiet q)
def xA(K:W.Frag)(CA:Addr):Prop:=∃(nm q:Str) (N:Addr) (bs:List Value) (d:List Str) (sub:List Value) (g:Bool) (c:Option Bool) (j:Option Addr) (m o r t u:Option Value),K.lookup CA=some (excClassObj nm q CA N bs bmV true d sub g c j m o r t u "ValueError.__new__")
end
def LJ(K:W.Frag)(a:Addr)(xs:List V):It:=%[λi H=>SqT K H a xs/\i<xs.length,λi H y b=>b=H/\xs.reverse[i]?=some y|λi _=>xs.length<=i]
def RevT.keep{h':Heap}(x:RevT h b t i)(k:∀o,h.get? b=some o->h'.get? b=some o):RevT h' b t i:=k _ x
def Ca{K:W.Frag}(a d:Addr)(xs:List V):Turn P w K U (LJ K a xs) [d] d (λi h=>i<=xs.length/\RevT h d a ((xs.length:Int)-1-(i:Int))) where
 mem:=by simp
 obj:=λi h st b g=>by
  let e:b=d:=#[g,0]
  subst e;erw[_,st.2,λv z=>by cases z]
 keep:=λi h h' st k=>%[st.1|st.2.keep λo e=>k d #[2] o e]
 item:=by
  exists 5;erw[y,r]at hg;let%[its,B,p|Y]:=I.tuple y;let C:xs.length-1-i<xs.length:=#[0]
  let t:xs[xs.length-1-i]?=some xs[xs.length-1-i]:=j3 C;let%[u,D|J]:=B.get t;let%[f0,f1,L,m,n|q]:=hf d #[2];erw[_,c]at st;let e1:((xs.length:Int)-1-(i:Int))=((xs.length-1-i:Nat):Int):=#[0]
  rw[e1]at c;let h63:=kP;apply tP c p (x:=u) #[D,0] #[0] λh' tk j M=>?_
  let N:#[8] H { s with heap:=h',toks:=tk }:=I.turned (t':=tk) (λb o g e=>(M.2 b g).trans e) f0 f1 m n q;let e2:((xs.length-1-i:Nat):Int)-1=(xs.length:Int)-1-((i+1:Nat):Int):=#[0]
  rw[e2]at j;erw[u,1,yR (s:={ s with heap:=h',toks:=tk }) j rfl rfl ⋯ ⟨xs[xs.length-1-i],H,N,J,⟨rfl,?_⟩,⟨#[0],j⟩,λb g=>(hf b g).1⟩];rw[Se r,t]
 done:=by
  exists 5;let hg:xs.length<=i:=hg;let%[f0,f1,L,m,n|q]:=hf d #[2];erw[r,c]at st;let e1:(xs.length:Int)-1-(i:Int)=-1:=#[0]
  rw[e1]at c;exact uN (I.ok.hd hc) c λh' tk O=>%[1|I.turned (t':=tk) (λb o g e=>O b o g e) f0 f1 m n q]
 self:=λ_ _ _ _ _ st h=>vD st.2 h
def JI(K:W.Frag)(c:Bool)(a:Addr)(xs:List V):It:=if c=true then ItV K a xs else LJ K a xs
section
variable {X:Cx}{tg:Expr}
instance ZiRevB(K:W.Frag)(R:(It->Hp->Prop))(x:V)(H1:Hp):∀c a xs,x=.ref a->SqB K c H1 a xs->R (JI K c a xs) H1:=0
def iRevB(K:W.Frag)(tl:TE):TI:=λσ H R=>tl σ H λx b=>ZiRevB K R x b
def IQ{p pos:Pos}(hg:Gl X "reversed")(y:X.mg "reversed"=none)(hl:PE X l tl)(t:starEach [l] X.env=[(false,eval l X.env)]:=by rfl):
 PI X tg (.Call (.Name "reversed" p) [l] [] pos) (iRevB X.K tl):=by
 exists 4,R,I,h;apply GV (jN I hg y uk ?_);apply Qw ?_ t rfl;rw[t];show wpAny _ _ (spliced ((false,eval l X.env)::backTo pos (starEach [] X.env))) _ _ s;apply Qz (thn (hl Qh s σ H _ I h) λu s1 ⟨x,g,d,r1,c,a,xs,ex,j,q⟩=>?_);subst ex;cases r1;apply QZ ?_;cases c with
 |true=>
   let j:SqL X.K g a xs:=j;let q:R (ItV X.K a xs) g:=q;let%[its,n,p|v]:=d.list j;let m:=n.length;apply call_reversed_list p.isList ?_;let hr:(s1.heap.push (revObj a ((its.toArray.size:Int)-1))).IsRevIter ‹s1› a ((xs.length:Int)-1-((0:Nat):Int)):=by
    let e:(xs.length:Int)-1-((0:Nat):Int)=(its.toArray.size:Int)-1:=by rw[ks];omega
    rw[e];erw[_,mM _ rfl,1,1]
   apply wpAny_pyIter_revIter hr ?_;erw[‹s1›,[‹s1›],_,_,g,1,d.kept (t':=s1.toks) λb o e=>ih _ e,BZ a _ xs,%[kr _|hr],λb r=>?_,q];let e:b=‹s1›:=#[r,0]
   subst e;exact d.fpOk (fz _) (d.hok.fresh (fz _))
 |false=>
   let j:SqT X.K g a xs:=j;let q:R (LJ X.K a xs) g:=q;let%[its,n,p|v]:=d.tuple j;let m:=n.length;apply pI p (by rw[ks,←n.length];exact v) λtk=>?_
   let hr:RevT (s1.heap.push { cls:=.type "reversed",data:=.fields #[.ref a,rawInt ((its.toArray.size:Int)-1)] }) ‹s1› a ((xs.length:Int)-1-((0:Nat):Int)):=by
    let e:(xs.length:Int)-1-((0:Nat):Int)=(its.toArray.size:Int)-1:=by rw[ks];omega
    rw[e];exact mM _ rfl
   apply vD hr ?_;erw[‹s1›,[‹s1›],_,_,g,1,d.kept (t':=tk) λb o e=>ih _ e,Ca a _ xs,%[kr _|hr],λb r=>?_,q];let e:b=‹s1›:=#[r,0]
   subst e;exact d.fpOk (fz _) (d.hok.fresh (fz _))
end
def Hj{K:W.Frag}{xs:List V}{g:TG}{n:TS}{D:Ends}{σ:St}{H:Hp}(Pv:Nat->St->Hp->Prop)(h0:Pv 0 σ H)(hl:∀i σ H,i<=xs.length->Pv i σ H->SqB K c H a xs)
 (o:∀i x σ H,i<xs.length->xs.reverse[i]?=some x->Pv i σ H->g x σ H λσ2 d=>n { D with nx:=Pv (i+1),ct:=Pv (i+1),bk:=D.nx } σ2 d)(hd:∀ σ H,Pv xs.length σ H->D.nx σ H):
 ∃ W:Nat->Nat->St->Hp->Prop,(∃m,W 0 m σ H)/\∀i m σ H,W i m σ H ->
  ((JI K c a xs).stop i H/\D.nx σ H)∨((JI K c a xs).go i H/\∃N:St->Hp->Prop,(∀ σ' b,N σ' b->∃r,r<m/\W (i+1) r σ' b)/\∀x b,(JI K c a xs).yld i H x b->g x σ b λσ2 d=>n { D with nx:=N,ct:=N,bk:=D.nx } σ2 d):=by
 cases c with
 |true=>exact Hi Pv h0 hl o hd
 |false=>
   erw[λi m σ H=>m=xs.length-i/\i<=xs.length/\Pv i σ H,%[xs.length,by simp,kr _|h0],6];rintro i m σ H ⟨rfl,t,p⟩;let q:=hl i σ H t p
   by_cases j:i<xs.length
   . refine .inr %[%[q|j],Pv (i+1),λσ' b u=>%[xs.length-(i+1),3,1,j|u]|λx b y=>?_];erw[e,ex]at y;subst e;exact o i x σ _ j ex p
   . let e:i=xs.length:=#[0]
     subst e;exact .inl %[fz _|hd σ H p]
section
variable {M:Model}{A:Around}{E:#[6]}
def rG{K:W.Frag}{s:Shared}{e:Addr}{n:Obj}{Q:Bool->Shared->Prop}(c:ClsX K C CA)(X:K.In s.heap)(he:s.heap.get? e=some n)(b:n.cls=.ref C)(o:Q true s):wpAny M A (excMatches (.ref e) (.ref C)) Q E s:=by
 erw[nm,q,N,bs,v,sub,x,r,y,z,B,D,J,L,u]at c.obj;let hC:=X _ _ u;erw[h,g,d,t,os]at s;let j:(Value.ref C::.ref CA::bmV).contains (.type "BaseException")=true:=by simp [bmV]
 let m:(Value.ref C::.ref CA::bmV).contains (.ref C)=true:=by simp
 let f:=tc_notTuple;unfold excMatches
 repeat (first | (with_reducible apply ri he ?_;rw[b]) | with_reducible apply ri hC ?_ | (with_reducible apply GN hC ?_;first | rw[j] | rw[m]) | wp_step)
 exact o
end
def ItB(K:W.Frag)(c:Bool)(a:Addr):It:=if c=true then Itl K a else Itt K a
section
variable {X:Cx}{tg:Expr}
instance ZiAny(K:W.Frag)(R:(It->Hp->Prop))(x:V)(H1:Hp):∀c a,x=.ref a->(∃xs,SqB K c H1 a xs)->R (ItB K c a) H1:=0
def iAny(K:W.Frag)(tl:TE):TI:=λσ H R=>tl σ H λx b=>ZiAny K R x b
def Ky(hl:PE X l tl):PI X tg l (iAny X.K tl):=by
 exists 4,R,I,h;apply thn (hl Qh s σ H _ I h) λv s1 ⟨x,g,d,r1,n⟩=>?_
 erw[c,a,e,%[xs|j],q]at n;subst e;cases r1;cases c with
 |true=>
   let j:SqL X.K g a xs:=j;let q:R (Itl X.K a) g:=q;let%[its,r,p|t]:=d.list j;apply Ri p.isList ?_;erw[‹s1›,[‹s1›],_,_,g,1,d.kept (t':=s1.toks) λb o e=>ih _ e,uX a _,%[_,mM _ rfl,1|1],λb m=>?_,q];let e:b=‹s1›:=#[m,0]
   subst e;exact d.fpOk (fz _) (d.hok.fresh (fz _))
 |false=>
   let j:SqT X.K g a xs:=j;let q:R (Itt X.K a) g:=q;let%[its,r,p|t]:=d.tuple j;apply Rh (show s1.heap.IsTuple a its.toArray from p) ?_;erw[‹s1›,[‹s1›],_,_,g,1,d.kept (t':=s1.toks) λb o e=>ih _ e,rY a _,%[_,mM _ rfl,1|1],λb m=>?_,q];let e:b=‹s1›:=#[m,0]
   subst e;exact d.fpOk (fz _) (d.hok.fresh (fz _))
end
def HE{K:W.Frag}{xs:List V}{b:TBl}{Q:VK}(Pv:Nat->Hp->Prop)(h0:Pv 0 (upd H D (.lst [])))(hl:∀i H,i<=xs.length->Pv i H->SqB K c H a xs)
 (d:∀i x H,xs[i]?=some x->Pv i H->b (some x::outs ix σ) H (Nx xs.length i Pv) λz e=>∃ys,e D=some (.lst ys)/\ys.length<sizeLine/\Nx xs.length i Pv (upd e D (.lst (ys++[z]))))(hd:∀H,Pv xs.length H->Q (.ref D) H):
 qG (ItB K c a) D ix b σ H Q:=by
 cases c with
 |true=>exact de (K:=K) (xs:=xs) Pv h0 hl d hd
 |false=>exact dN (K:=K) (xs:=xs) Pv h0 hl d hd
section
variable {kb:Bool}{X:Cx}{EE:Ends->St->XK}{pos:Pos}
def ye{CA:Addr}{st body:List Stmt}{M:Stmt}{Y ph:Pos}{N:TS}(hg:Gl X c)(hm:X.mg c=some (.ref CA))(hA:xA X.K CA)
 (hb:HV kb X (λD σ ev x O=>∃e C dx,ev=.ref e/\x=some dx/\O e=some (kg kb C e dx)/\ClsX X.K C CA/\N D σ O) st t)(hh:∀e,PSs (X.marked e) (M::body) N)
 (m:X.stack=X.env::X.outer:=by rfl)(y:X.env.frame=some X.env.locals:=by rfl)(B:(c==("__debug__":Str))=false:=by decide):
 PS X (.Try st [.ExceptHandler (some (.Name c Y)) none (M::body) ph] [] [] pos) t:=by
 exists 4,D,I,h;apply wpAny_Try_except (se (hb _ Qh s σ H D ?_ I h) (λf s1 q=>?_) λ_ _ z=>z)
 . rintro H1 s1 _ J I1 ⟨e,C1,ab,n,rfl,os,bare,un,hok,d,fl,e',C,dx,ee,ed,he,cls,q⟩;cases ee;cases ed;let j:=I1.call' (ch:=[]) os un hok bare (λb z=>absurd z #[2]);apply tN (base:=X.base) (env:=X.env) (outer:=X.outer) (by rw[←m];exact j.ok.frames) (by rw[←m];exact j.stack) y fl λh' l g=>?_
   let u:=tV (H:=n) l d g;let U:=pB j.hok l (by
    let z:=j.stkFree;rw[m]at z;exact z) d g
   rw[rX d]at u U;let r:#[8] n { J with heap:=h' }:=j.call' (ch:=[]) rfl (by rw[m];exact u) U j.bare (λb z=>absurd z #[2]);apply wpAny_handleBy_cons (codeAny_handlers_test (iK (X:=X.marked e) (r.marked (e:=e)) hg hm ?_ B)) nofun;let%[o,ho,vs,1|_]:=ObP.get r.hok he;apply uO cls r.kIn ho rfl hA ?_;apply codeAny_handlers_suite ?_;apply ue g λL kp=>?_
   let I4:#[8] n { J with heap:=L }:=r.kept (t':=J.toks) kp;apply se (hh e Qh _ σ n D (I4.marked (e:=e)) q) (λf s6 q6=>?_) λ_ _ z=>z.elim
   exact SP.unmarked I.ok q6
 . cases f with
   |next=>exact LO q
   |brk=>exact q
   |cont=>exact q
   |ret v=>exact q
end
def uP:entryFor table "proto.unchain"=some Builtin.«proto.unchain»:=entryFor_of_fast (by kernel_rfl)
def vS{α:Type}{prog:Program}{w:World}{A:Around}{E:#[6]}{Q:α->Shared->Prop}{s:Shared}{a e:Addr}{g j:Obj}{vs us:Array Value}(hh:A.handled=some (.ref e))(b:e≠a)
 (he:s.heap.get? e=some g)(c:g.data=.fields vs)(h2:vs[2]?=some .none)(m:s.heap.get? a=some j)(d:j.data=.fields us)(hsz:2<us.size)
 (n:E (.ref a) { s with heap:=s.heap.update a (Obj.mapFields (·.setIfInBounds 2 (.ref e))) }):‹w.A› (raiseNew (.ref a):Sem α) Q E s:=by
 unfold raiseNew;apply ft (wpAny_handled ?_);rw[hh];show wpAny _ _ (if(Value.ref e != Value.ref a)=true then _ else _) _ _ _;rw[Qk (by simp [b])];apply ft (IL (runValue_entry uP ?_));show wpAny _ _ (field (.ref e) 2 >>= _) _ _ _;apply ft (n9 he c h2 ?_);apply gh %[0|6];apply ft ?_;unfold updateField;apply ft (wpAny_load m ?_);rw[d];show wpAny _ _ (if 2<us.size then _ else _) _ _ _;rw[Qk hsz];exact wpAny_update m (wpAny_throw n)
structure RoomH(k:Nat)(A:Around):Prop where
 dp:A.depth+3*k+5<recursionLimit
 un:A.units+16*k+200<cLine
def RoomH.mono{j:Nat}(r:RoomH k A)(h:j<=k):RoomH j A:=%[by have:=r.dp;omega|by have:=r.un;omega]
def RoomH.deeper{k:Nat}(r:RoomH (k+1) A)(env:Env):RoomH k (A.deeper env):=
 %[by have:=r.dp;show A.depth+1+3*k+5<_;omega|by have:=r.un;show A.units+3+16*k+200<_;omega]
def Room.marked{v:Option Value}(r:Room k A):RoomH k (A.mark v):=%[r.dp|r.un]
structure FnOkH(P:Program)(w:World)(K:W.Frag)(mg:#[9])(base:Heap)(k:Nat)(f:Addr)(fd:FuncData)(ps:List Str)(sp:Sp):Prop where
 len:∀vs H Q E,sp vs H Q E->vs.length=ps.length
 run:∀(A:Around)(outer:List Env)(s:Shared)(H:Hp)(args:Args)(us:List Value)(vs:List V)(Q:VK)(E:XK),RoomH k A->Env0 P w K mg base A outer s H->BindsTo s fd args (ps.zip us)->Vals vs us->sp vs H Q E ->
  codeAny (model P w) A (.call (.ref f) args) (CR CX0 outer P w H s Q E) s
abbrev zg(P:Program)(w:World)(K:W.Frag)(mg:#[9])(base:Heap)(N:List Str)(qual:Str)(scope:Scope)(f:Addr)(cd:Value)(A:Around)(outer:List Env)(s:Shared)(H:Hp)(E:XK):Cx:=
 { fu CX0 P w K mg base N qual scope f cd A outer s H E with calm:=false }
def AM{K:W.Frag}{qual:Str}{f:Addr}{cd:Value}{s1:Shared}{vs:List V}
 (S:FnScope N ps scope)(e0:Env0 P w K mg base A outer s H)(hl:vs.length=ps.length)(r:Vals vs us)
 (x:InCallC s ‹s› (bindL (envOfC qual scope ‹s› f cd).kindOf (ps.zip us) λ_=>none) (cellsFrom (‹s›+1) scope.names []) (bindC (envOfC qual scope ‹s› f cd).kindOf (ps.zip us) λ_=>none) s1):
 Inv (zg P w K mg base N qual scope f cd A outer s H E) [] (il N vs) H s1:=by
 let e1:Env0 P w K mg base { A with handled:=none } outer s H:=⟨e0.frames,e0.mod,e0.bs,e0.bsz,e0.funs,e0.frf,e0.hok,e0.bare⟩
 let I:Inv (fu CX0 P w K mg base N qual scope f cd { A with handled:=none } outer s H E) [] (il N vs) H s1:=vF S rfl e1 hl r x;erw[%[I.ok.mod,I.ok.kind,I.ok.glob,I.ok.blt,I.ok.above,I.ok.inj,I.ok.has,I.ok.cab,(λz=>by cases z),Around.frames_deeper e0.frames,I.ok.stk,I.ok.exf,I.ok.bs,I.ok.bsz,I.ok.noex,I.ok.exfs,I.ok.funs|I.ok.frf],I.os,I.bare,I.base,I.loc,I.cell,I.free,I.freeC,I.pin,I.hok,I.len]
def Lj{K:W.Frag}{f:Addr}{name qual:Str}{params:Arguments}{body:List Stmt}{scope:Scope}{M kV m O cdv ct Y:Value}{U od:Option Addr}
 {B:Array (Option Value)}{sp:Sp}(lk:K.lookup f=some %[Y,od,.func (W.fnOf name qual params body scope M kV m O U cdv ct)|B])(C:W.codeIn K cdv qual=true)(S:FnScope N ps scope)
 (len:∀vs H Q E,sp vs H Q E->vs.length=ps.length)
 (d:∀(A:Around)(outer:List Env)(s:Shared)(H:Hp)(vs:List V)(Q:VK)(E:XK),RoomH k (A.deeper (envOfC qual scope ‹s› f cdv))->sp vs H Q E ->
  ∃t,PSs (zg P w K mg base N qual scope f cdv A outer s H E) body t/\t { nx:=λ_ c=>Q .non c,rt:=Q } (il N vs) H) :
 FnOkH P w K mg base (k+1) f (W.fnOf name qual params body scope M kV m O U cdv ct) ps sp:=by
 erw[len,λA outer s H args us vs Q E hr e0 hb r z=>?_];let hl:=len _ _ _ _ z;let KX:K.In s.heap:=e0.mod.kin.keeps λb o e=>(e0.bs b o e).1
 let D:s.heap.NoLimit:=e0.mod.nolimit.keeps λb o e=>(e0.bs b o e).1
 let g:∀y∈ps.zip us,scope.names.lookup y.1=some .local∨(scope.names.lookup y.1=some .cell/\((cellsFrom (‹s›+1) scope.names []).lookup y.1).isSome=true):=fun⟨n,v⟩ hy=>by
  rcases S.par n (RH hy).1 with q | q
  . exact .inl q
  . exact .inr %[q|W.cellsFrom_some _ _ _ (.inl q)]
 apply codeAny_call_function (by have:=hr.dp;omega) (KX _ _ lk) rfl S.co S.gen rfl (W.codeRec_of KX C) (hb _ _ _ _ ?_);apply wpAny_newFunctionEnv_cells S.kind g λenv he s1 x=>?_
 subst he;erw[D.keeps x.toInCall.keep,codeAny_func ?_];let%[t,ht|hq]:=d A outer s H vs Q E (hr.deeper _) z;let I:Inv (zg P w K mg base N qual scope f cdv A outer s H E) [] (il N vs) H s1:=AM S e0 hl r x;apply se (ht [] s1 (il N vs) H _ I hq) (λfl s' j=>?_) λe s' j=>j
 let fin:∀{σ':St}{c:Hp}{v:V}{u:Value},Inv (zg P w K mg base N qual scope f cdv A outer s H E) [] σ' c s'->RelV v u->Q v c->CE outer P w H s Q u s':=
  fun{σ' c v u} J L q=>%[v,c,J.os,J.bare,J.base,J.hok,L|q]
 cases fl with
 |ret u=>
   erw[v,σ',c,J,L,q]at j;exact fin J L q
 |next=>
   erw[σ',c,J,q]at j;exact fin (v:=V.non) (u:=Value.none) J rfl q
 |brk=>
   erw[_,_,_,q]at j;exact False.elim q
 |cont=>
   erw[_,_,_,q]at j;exact False.elim q
section
variable {X:Cx}{k:Nat}{f C:Addr}{fd:FuncData}{ps:List Str}{sp:Sp}{dvs:List V}{ds:List Value}{E:XK}{x m:Str}{p pos Qm:Pos}{e o:Expr}{es:List Expr}{ta:TE}{t:TA}
def II{σ:St}{Q:VK}(F:FnOkH X.prog X.w X.K X.mg X.base k f fd ps sp)(hr:RoomH k X.A)(c:Binds X.K fd ps ds)(hd:Vals dvs ds)(d:eX CX0 X E)
 (I:#[8] H s)(r:Vals vs us)(h:sp (vs++dvs) H Q E):‹X.w› (call (.ref f) us) (EP X Qh σ Q) X.xe s:=by
 let r2:Vals (vs++dvs) (us++ds):=r.append hd;let hl:(us++ds).length=ps.length:=by rw[←r2.length];exact F.len _ _ _ _ h
 apply QG (Qu (F.run X.A X.stack s H %[us|[]] (us++ds) (vs++dvs) Q E hr I.env0 (c s us I.kIn hl) r2 h) λr s' b=>?_);cases r with
 |error e=>exact d Qh σ H s e s' I b
 |ok g=>
   cases g with
   |ret u=>exact I.after b
   |next=>exact False.elim b
   |brk=>exact False.elim b
   |cont=>exact False.elim b
end
def FlyR(k:Bool)(L T:Addr)(h:Heap)(e C dx:Addr):Prop:=∃vs,h.get? e=some (dM C (some dx) vs)/\vs.size=6/\(k=true->vs[2]?=some Value.none)/\∃b ts,vs[1]?=some (.ref T)/\T≠e/\h.get? T=some b/\b.data=.fields ts/\ts[3]?=some (rawInt L)
section
variable {M:Model}{A:Around}{E E2:#[6]}{s:Shared}
def vB{k:Bool}{base:Heap}{env:Env}{outer:List Env}{L e dx:Addr}{c:Value}{g:Bool}{Q:Unit->Shared->Prop}
 (B:A.frames=some (env::outer))(hl:s.heap.FunFrames base (env::outer))(hf:env.frame=some L)
 (he:s.heap.get? e=some (dM C (some dx) vs))(hsz:vs.size=6)(D:k=true->vs[2]?=some Value.none)
 (h:∀h' T,s.heap.get? T=none->Lft ((env::outer).filterMap (·.frame)) e s.heap h'->FlyR k L T h' e C dx->Q () { s with heap:=h' }):
 wpAny M A (do let a ←frameOf env;let pl ←entryPlaceOf L g;let b ←EntryCells.newEntry c a .none (rawInt L) .none pl;setField (.ref e) 1 b) Q E s:=by
 let hd:(dM C (some dx) vs).data=.fields vs:=rfl;let n:1<vs.size:=#[0]
 let q:e∉(env::outer).filterMap (·.frame):=λhm=>by
  let%[_,o,y|J]:=hl.mem hm;rw[he]at y;injection y with y;subst y;exact J vs hd
 apply ft (wpAny_frameOf_fun B hl hf λd m=>?_);apply ft (wpAny_entryPlaceOf λpl r=>?_);unfold EntryCells.newEntry newFields;apply ft (yl ?_ (r.sizeOk5 _ _ _ _ _));let t:d.get? e=some (dM C (some dx) vs):=(m.2.1 e q).trans he;let u:=ih (h:=d) { cls:=.type "traceback",dict:=none,data:=.fields ([c,.ref L,.none,rawInt L,.none]++(if pl.isEmpty then List.replicate 6 Value.none else pl)).toArray } t;apply Fb u hd n ?_;let v:d.objs.size≠e:=QS (js t);let N:=xn hd (·.setIfInBounds 1 (Value.ref d.objs.size));let O:=Heap.get?_update_self (Obj.mapFields (·.setIfInBounds 1 (Value.ref d.objs.size))) u (Qx N);let U:=(Heap.get?_update_other (d.push { cls:=.type "traceback",dict:=none,data:=.fields ([c,.ref L,.none,rawInt L,.none]++(if pl.isEmpty then List.replicate 6 Value.none else pl)).toArray })
  (Obj.mapFields (·.setIfInBounds 1 (Value.ref d.objs.size))) (Ne.symm v)).trans (mM d rfl)
 let keep:∀b o,b≠e->d.get? b=some o ->
  ((d.push { cls:=.type "traceback",dict:=none,data:=.fields ([c,.ref L,.none,rawInt L,.none]++(if pl.isEmpty then List.replicate 6 Value.none else pl)).toArray }).update e (Obj.mapFields (·.setIfInBounds 1 (Value.ref d.objs.size)))).get? b=some o:=λb o j x=>by
  rw[Heap.get?_update_other _ _ (Ne.symm j)];exact ih _ x
 apply h _ d.objs.size ?_ %[λb o x hn j=>keep b o j ((m.2.1 b hn).trans x)|λb o x j=>?_] %[vs.setIfInBounds 1 (.ref d.objs.size),O,6,λz=>?_,_,_,6,v,U,1|6]
 . cases en:s.heap.get? d.objs.size with
   |none=>rfl
   |some o=>
     let%[sl|Y]:=m.2.2 _ _ en;exact absurd (js Y) (Fo _)
 . let%[sl|Y]:=m.2.2 b o x;erw[sl,keep b _ j Y]
 . simp [hsz]
 . rw[Array.getElem?_setIfInBounds_ne ⋯];exact D z
 . simp [n]
 . first | (simp;done) | (rcases r with rfl | ⟨_,_,_,_,_,_,_,rfl⟩ <;> simp)
def Dl{base:Heap}{env:Env}{outer:List Env}{L:Addr}{Q:Unit->Shared->Prop}
 (n:A.frames=some (env::outer))(hl:s.heap.FunFrames base (env::outer))(hf:env.frame=some L)(he:mK k s.heap e C dx)
 (h:∀h' T,s.heap.get? T=none->Lft ((env::outer).filterMap (·.frame)) e s.heap h'->FlyR k L T h' e C dx->Q () { s with heap:=h' }):
 wpAny M A (noteFrame (.ref e) env) Q E s:=by
 erw[vs,he,u,q,z]at he;let hd:(dM C (some dx) vs).data=.fields vs:=rfl;unfold noteFrame;simp only[hf];rcases z with h1 | ⟨T,t,ts,h1,B,hT,j,h3⟩
 . apply ft (n9 he hd h1 ?_);rw[Qi ⋯];exact vB n hl hf he u q h
 . apply ft (n9 he hd h1 ?_);rw[Qk (show(Value.ref T != Value.none)=true from by simp)];apply ft (n9 hT j h3 ?_);rw[Qi (show ¬ ((Value.none==rawInt L)=true)from by simp [rawInt])];apply ft (Fb hT j (Array.getElem?_eq_some_iff.mp h3).1 ?_);let id:∀b o,s.heap.get? b=some o->(s.heap.update T (Obj.mapFields (·.setIfInBounds 3 Value.none))).get? b=some o:=λb o g=>by
    by_cases r:b=T
    . subst r;rw[hT]at g;cases g;let v:Obj.mapFields (·.setIfInBounds 3 Value.none) t=t:=by
       erw[c,d,Y,D]at t;cases j;show({ cls:=c,dict:=d,data:=.fields (ts.setIfInBounds 3 Value.none),slots:=D }:Obj)=_;rw[oA h3]
      have:=Heap.get?_update_self (Obj.mapFields (·.setIfInBounds 3 Value.none)) hT (by rw[v];exact(Heap.get?_some_iff.mp hT).2)
      rw[this,v]
    . rw[Heap.get?_update_other _ _ (Ne.symm r)];exact g
   apply vB (s:={ s with heap:=_ }) n (hl.of_keeps λb o g _=>%[o,id b o g|1]) hf (id _ _ he) u q λh' x J y N=>h h' x ?_ %[λb o g O m=>y.keep b o (id b o g) O m|λb o g m=>y.slot b o (id b o g) m] N
   cases U:s.heap.get? x with
   |none=>rfl
   |some o=>
     have:=id _ _ U
     rw[J]at this;cases this
def BW{T:Addr}{e:Obj}{ts:Array Value}{v:Value}{h:Heap}(hT:h.get? T=some e)(j:e.data=.fields ts)(h3:ts[3]?=some v):∀b o,h.get? b=some o->(h.update T (Obj.mapFields (·.setIfInBounds 3 v))).get? b=some o:=λb o m=>by
 by_cases g:b=T
 . subst g;rw[hT]at m;cases m;let n:Obj.mapFields (·.setIfInBounds 3 v) e=e:=by
    erw[c,d,r,q]at e;cases j;show({ cls:=c,dict:=d,data:=.fields (ts.setIfInBounds 3 v),slots:=q }:Obj)=_;rw[oA h3]
   have:=Heap.get?_update_self (Obj.mapFields (·.setIfInBounds 3 v)) hT (by rw[n];exact(Heap.get?_some_iff.mp hT).2)
   rw[this,n]
 . rw[Heap.get?_update_other _ _ (Ne.symm g)];exact m
def Js{D:Around}{base:Heap}{env:Env}{outer:List Env}{L:Addr}{Q:Value->Unit->Shared->Prop}{E3:Value->#[6]}
 (v:D.frames=some (env::outer))(hl:s.heap.FunFrames base (env::outer))(hf:env.frame=some L)(he:mK k s.heap e C dx)
 (h:∀h',Lft ((env::outer).filterMap (·.frame)) e s.heap h'->mK k h' e C dx->Q (.ref e) () { s with heap:=h' }):
 notedBy M D env (λx N=>cameBackBy M A env (λx O=>wpAny M A (leaving env x) (Q x) (E3 x) O) x N) (.ref e) s:=by
 unfold notedBy;apply Dl v hl hf he λh1 T n1 J f1=>?_
 erw[vs,n,U,y,oT,ts,e1,t,hT,c,h3]at f1;let hd:(dM C (some dx) vs).data=.fields vs:=rfl;unfold cameBackBy;apply ft (n9 n hd e1 ?_);rw[Qi (show ¬ ((Value.ref T==Value.none)=true)from by simp)];rw[hf];unfold setFlight;apply ft (n9 n hd e1 ?_);rw[Qk (show(Value.ref T != Value.none)=true from by simp)];let d:=BW hT c h3;apply Fb hT c (Array.getElem?_eq_some_iff.mp h3).1 ?_;let g:=d _ _ n;let j:=d _ _ hT;show wpAny M A (leaving env (.ref e)) (Q (.ref e)) (E3 (.ref e)) { s with heap:=h1.update T (Obj.mapFields (·.setIfInBounds 3 (rawInt L))) };generalize h1.update T (Obj.mapFields (·.setIfInBounds 3 (rawInt L)))=h2 at d g j;unfold leaving noteFrame;simp only[hf];apply ft ?_;apply ft (n9 g hd e1 ?_);rw[Qk (show(Value.ref T != Value.none)=true from by simp)];apply ft (n9 j c h3 ?_);rw[Qk (show(rawInt L==rawInt L)=true from by simp)];apply gh ?_;unfold setFlight;apply ft (n9 g hd e1 ?_);rw[Qk (show(Value.ref T != Value.none)=true from by simp)];apply Fb j c (Array.getElem?_eq_some_iff.mp h3).1 ?_;let up:∀b o,s.heap.get? b=some o->∀u,h2.get? b=some u->(h2.update T (Obj.mapFields (·.setIfInBounds 3 ((none:Option Addr).elim Value.none λf=>rawInt f)))).get? b=some u:=λb o m u Y=>by
  let B:T≠b:=λz=>by
   rw[←z,n1]at m;cases m
  rw[Heap.get?_update_other _ _ B];exact Y
 apply h _ %[λb o m hn r=>up b o m _ (d _ _ (J.keep b o m hn r))|λb o m r=>?_] %[vs,6,U,y|.inr %[T,_,_,e1,t,Heap.get?_update_self _ j (Qx (xn c _)),xn c _|6]]
 . let%[sl|q]:=J.slot b o m r;erw[sl,up b o m _ (d _ _ q)]
 . rw[Heap.get?_update_other _ _ t];exact g
 . have:=(Array.getElem?_eq_some_iff.mp h3).1
   simp [this]
end
section
variable {prog:Program}{w:World}{A:Around}{E:#[6]}{s:Shared}
def yb{env:Env}{K:W.Frag}{x c:Sem Value}{e0:Addr}{Q:Flow->Shared->Prop}(hh:A.handled=some (.ref e0))
 (hc:∀(s:Shared)(R:#[6]),R Value.none s->‹w.A› c R E s)
 (h:‹w.A› x (λv m=>∃e dx a C CA D us,v=.ref e/\ClsX K C CA/\K.In m.heap/\m.heap.get? e=some (dM C (some dx) (vs6 a))/\e0≠e/\m.heap.get? e0=some D/\D.data=.fields us/\us[2]?=some Value.none/\
  ∀h',(∀b o,b≠e->m.heap.get? b=some o->h'.get? b=some o)->mK false h' e C dx->E (.ref e) { m with heap:=h' }) E s):‹w.A› (raiseStmt env (some x) (some c)) Q E s:=by
 unfold raiseStmt;apply ft (se h (λv m U=>?_) λ_ _ x=>x);erw[e,dx,a,C,CA,D,us,1,Y,KX,he,ne,h0,J,h2,hE]at U;erw[nm,q,N,bs,sn,sub,ab,ah,dd,k0,k1,k2,k3,k5,lk]at Y.obj;let L:=BS (C:=C) (CA:=CA);let hC:=KX _ _ lk;apply ft (IL (hc _ _ ?_));apply ft (gh ?_);erw[B,g,d,tk,os]at m;let hd:(dM C (some dx) (vs6 a)).data=.fields (vs6 a):=rfl
 repeat (first | with_reducible apply ri he ?_ | with_reducible apply ri hC ?_ | (with_reducible apply GN hC ?_;rw[L]) | wp_step)
 let M:C≠e:=λz=>by
  rw[z]at hC
  have:=he.symm.trans hC
  cases this
 let O:=Heap.get?_update_self (Obj.mapFields λx=>x.setIfInBounds 3 Value.none) he (Qx (xn hd _));let r:=xn hd (λx=>x.setIfInBounds 3 Value.none);let j:=Heap.get?_update_self (Obj.mapFields λx=>x.setIfInBounds 4 (Value.bool true)) O (Qx (xn r _));let n:=xn r (λx=>x.setIfInBounds 4 (Value.bool true));let keep:∀b o,b≠e->B.get? b=some o->((B.update e (Obj.mapFields λx=>x.setIfInBounds 3 Value.none)).update e (Obj.mapFields λx=>x.setIfInBounds 4 (Value.bool true))).get? b=some o:=λb o t q=>by
  rw[Heap.get?_update_other _ _ (Ne.symm t),Heap.get?_update_other _ _ (Ne.symm t)];exact q
 let u:=keep _ _ M hC;let y:=keep _ _ ne h0;show wpAny _ _ _ _ _ { heap:=(B.update e (Obj.mapFields λx=>x.setIfInBounds 3 Value.none)).update e (Obj.mapFields λx=>x.setIfInBounds 4 (Value.bool true)),gens:=g,drawn:=d,toks:=tk,os:=os };generalize (B.update e (Obj.mapFields λx=>x.setIfInBounds 3 Value.none)).update e (Obj.mapFields λx=>x.setIfInBounds 4 (Value.bool true))=h4 at j keep u y;apply ri u (gh ?_);rw[Qk (by rfl)];apply gh ?_;unfold setFlight;apply ft (ft (n9 j n (x:=Value.none) rfl ?_));rw[Qi ⋯];apply gh ?_;apply vS hh ne y J h2 j n (by show 2<6;decide) ?_;apply hE _ (λb o t q=>?_) %[_,Heap.get?_update_self _ j (Qx (xn n _)),6,(λz=>by cases z)|.inl ?_]
 . show(h4.update e _).get? b=some o;rw[Heap.get?_update_other _ _ (Ne.symm t)];exact keep b o t q
 . rfl
 . rfl
end
abbrev Cx.markedR(X:Cx)(e:Addr):Cx:={ X with A:=X.A.mark (some (.ref e)),calm:=false,xe:=λv s=>notedBy (model X.prog X.w) (X.A.mark (some (.ref e))) X.env (λx s2=>cameBackBy (model X.prog X.w) X.A X.env X.xe x s2) v s }
section
variable {X:Cx}{Qh:#[7]}{σ:St}{H:Hp}{s:Shared}{e:Addr}
def Inv.markedR(I:#[8] H s):Inv (X.markedR e) Qh σ H s:=
 %[%[I.ok.mod,I.ok.kind,I.ok.glob,I.ok.blt,I.ok.above,I.ok.inj,I.ok.has,I.ok.cab,(λz=>by cases z),I.ok.frames,I.ok.stk,I.ok.exf,I.ok.bs,I.ok.bsz,I.ok.noex,I.ok.exfs,I.ok.funs|I.ok.frf],I.os,I.bare,I.base,I.loc,I.cell,I.free,I.freeC,I.pin,I.hok|I.len]
def Inv.unmarkedR(ok:X.Ok)(I:Inv (X.markedR e) Qh σ H s):#[8] H s:=%[ok,I.os,I.bare,I.base,I.loc,I.cell,I.free,I.freeC,I.pin,I.hok|I.len]
def SP.unmarkedR{D:Ends}{f:Flow}{s':Shared}(ok:X.Ok)(h:SP (X.markedR e) Qh D f s'):SP X Qh D f s':=by
 cases f with
 |next=>erw[σ',b,I,q]at h;erw[σ',b,I.unmarkedR ok,q]
 |brk=>erw[σ',b,I,q]at h;erw[σ',b,I.unmarkedR ok,q]
 |cont=>erw[σ',b,I,q]at h;erw[σ',b,I.unmarkedR ok,q]
 |ret u=>erw[v,σ',b,I,r,q]at h;erw[v,σ',b,I.unmarkedR ok,r,q]
end
section
variable {k:Bool}{P:Program}{w:World}{K:W.Frag}{mg:#[9]}{base:Heap}{N:List Str}{qual:Str}{scope:Scope}{f:Addr}{cd:Value}{A:Around}{outer:List Env}{s s1:Shared}{H H1:Hp}{E:XK}{Qh:#[7]}{σ:St}{e e0 C dx:Addr}{φ:Heap->Prop}
def Ib(I:Inv ((fu (CXb k P w) P w K mg base N qual scope f cd A outer s H E).markedR e0) Qh σ H1 s1)(he:H1 e=some (.ext φ))(r:mK k s1.heap e C dx)(q:E (.ref e) (some dx) (upd H1 e (kg k C e dx))):
 ((fu (CXb k P w) P w K mg base N qual scope f cd A outer s H E).markedR e0).xe (.ref e) s1:=by
 apply Js (base:=base) (E3:=λ_ t c=>CXb k P w outer H s E t c) (Q:=λx _ c=>CXb k P w outer H s E x c) I.ok.frames I.stack rfl r λh' l d=>?_
 let u:=tV (H:=H1) l he d;let v:=pB I.hok l I.stkFree he d;let y:Un (frs outer) [] H H1 s.heap s1.heap:=I.base;let above:‹s›<=(fu (CXb k P w) P w K mg base N qual scope f cd A outer s H E).env.locals:=I.ok.above;let sub:∀b o,s.heap.get? b=some o->b∉frs outer->b∉frs (fu (CXb k P w) P w K mg base N qual scope f cd A outer s H E).stack:=λb o q j z=>by
  rcases Qq (I.stkSub b z)with z | z
  . have:=js q
    rw[z]at this;exact absurd above (Nat.not_le.mpr this)
  . exact j z
 let g:=(y.mono (fs':=frs (fu (CXb k P w) P w K mg base N qual scope f cd A outer s H E).stack) (ex':=[]) (λb j=>by
  show b∈List.filterMap _ (_::outer);rw[Rg];exact pj _ j) λ_ z=>z).trans u
 erw[e,C,dx,0,I.os,I.bare,%[λb o q n j m=>g.keep b o q n (sub b o q j) m,λb o q n _ m=>g.any q n m,g.free,g.there,g.tups,g.frzs|g.tbls],v,aX,d,q]
def CF{j:Nat}{pos m:Pos}(he:PE ((fu (CXb false P w) P w K mg base N qual scope f cd A outer s H E).markedR e0) x O):
 PS ((fu (CXb false P w) P w K mg base N qual scope f cd A outer s H E).markedR e0) (.Raise (some x) (some (.Constant .none j m)) pos) (λ_ σ H1=>O σ H1 λv d=>∃e C CA dx L n,v=.ref e/\d e=some (uS C e dx)/\ClsX K C CA/\d e0=some (JL L e0 n)/\e0≠e/\E (.ref e) (some dx) (upd d e (kg false C e dx))):=by
 intro Qh s1 σ H1 D I h;rw[arm_exec_Raise];apply ft (QF (yb (K:=K) (e0:=e0) rfl (λs R h=>?_) ?_))
 . apply ft (Constant_none (ft (QF (gh h))))
 apply ft (thn (he Qh s1 σ H1 _ I h) λu M ⟨v,d,g,r,e,C,CA,dx,L,n,U,e2,c,h0,ne,q⟩=>ft (QF (gh ?_)));subst U;obtain rfl:u=Value.ref e:=r;let%[o,Y,a|1]:=ObP.get g.hok e2;let%[oe,t,us,1,ab|y]:=ObP.get g.hok h0;erw[e,dx,a,C,CA,_,us,1,c,g.kIn,Y,ne,t,1,y rfl,λh' kp B=>?_];let l:Lft (frs (fu (CXb false P w) P w K mg base N qual scope f cd A outer s H E).stack) e M.heap h':=%[λb o q _ J=>kp b o J q|λb o q J=>%[o.slots|kp b o J q]]
 let u:=tV (H:=d) l e2 B;let kk:=pB g.hok l g.stkFree e2 B;let I3:Inv ((fu (CXb false P w) P w K mg base N qual scope f cd A outer s H E).markedR e0) Qh σ (upd d e (kg false C e dx)) { M with heap:=h' }:=g.call' (ch:=[]) rfl u kk g.bare (λb z=>absurd z #[2]);apply Ib I3 (show upd d e (kg false C e dx) e=some (kg false C e dx)from aX) B ?_;rw[rX aX];exact q
end
section
variable {X:Cx}{pos:Pos}
def IM{x:Addr}{st body:List Stmt}{M:Stmt}{Y ph:Pos}{rest:List ExceptHandler}{N:Addr->TS}(hg:Gl X c)(hm:X.mg c=some (.ref x))(cl:ClsX X.K x CA)
 (hb:PSw X (λD σ ev y O=>∃e dx,ev=.ref e/\y=some dx/\O e=some (JL x e dx)/\N e D σ O) st t)(hh:∀e,PSs (X.markedR e) (M::body) (N e))
 (m:X.stack=X.env::X.outer:=by rfl)(B:X.env.frame=some X.env.locals:=by rfl)(C:(c==("__debug__":Str))=false:=by decide):
 PS X (.Try st (.ExceptHandler (some (.Name c Y)) none (M::body) ph::rest) [] [] pos) t:=by
 exists 4,D,I,h;apply wpAny_Try_except (se (hb _ Qh s σ H D ?_ I h) (λf s1 q=>?_) λ_ _ z=>z)
 . rintro H1 s1 _ J I1 ⟨e,C1,ab,n,rfl,os,bare,un,hok,d,fl,e',dx,ee,ed,he,q⟩;cases ee;cases ed;let j:=I1.call' (ch:=[]) os un hok bare (λb z=>absurd z #[2]);apply tN (base:=X.base) (env:=X.env) (outer:=X.outer) (by rw[←m];exact j.ok.frames) (by rw[←m];exact j.stack) B fl λh' l g=>?_
   let u:=tV (H:=n) l d g;let U:=pB j.hok l (by
    let z:=j.stkFree;rw[m]at z;exact z) d g
   rw[rX d]at u U;let r:#[8] n { J with heap:=h' }:=j.call' (ch:=[]) rfl (by rw[m];exact u) U j.bare (λb z=>absurd z #[2]);apply wpAny_handleBy_cons (codeAny_handlers_test (iK (X:=X.marked e) (r.marked (e:=e)) hg hm ?_ C)) nofun;let%[o,ho,vs,1|_]:=ObP.get r.hok he;apply rG cl r.kIn ho rfl ?_;apply codeAny_handlers_suite ?_;apply ue g λL kp=>?_
   let I4:#[8] n { J with heap:=L }:=r.kept (t':=J.toks) kp;apply se (hh e Qh _ σ n D (I4.markedR (e:=e)) q) (λf s6 q6=>?_) λ_ _ z=>z
   exact SP.unmarkedR I.ok q6
 . cases f with
   |next=>exact LO q
   |brk=>exact q
   |cont=>exact q
   |ret v=>exact q
end
def FunD.okH{K:W.Frag}{st:Stmt}{sp:Sp}(F:FunD K x qual st f fd n)(S:FnScope N ps (af st))(len:∀vs H Q E,sp vs H Q E->vs.length=ps.length)
 (b:∀(cdv:Value)(A:Around)(outer:List Env)(s:Shared)(H:Hp)(vs:List V)(Q:VK)(E:XK),RoomH k (A.deeper (envOfC qual (af st) ‹s› f cdv))->sp vs H Q E ->
  ∃t,PSs (zg P w K mg base N qual (af st) f cdv A outer s H E).nox (cP st) t/\t { nx:=λ_ e=>Q .non e,rt:=Q } (il N vs) H):FnOkH P w K mg base (k+1) f fd ps sp:=by
 erw[o,r,kV,g,u,v,cdv,ct,j,1,m,c]at F.ex;apply Lj m c S len λA outer s H vs Q E hr d=>?_
 let%[t,h|q]:=b cdv A outer s H vs Q E hr d;erw[t,h.nox,q]
def RoomH.make{k:Nat}(r:RoomH (k+1) A)(C:Addr)(us:List Value)(kw:List (Str×Value)):RoomH k (A.under (.builtin "type.__call__" %[.ref C::us|kw])):=
 %[by have:=r.dp;rw[tU];omega|by have:=r.un;rw[tT];omega]
section
variable {X:Cx}{k:Nat}{f C:Addr}{fd:FuncData}{ps:List Str}{sp:Sp}{dvs:List V}{ds:List Value}{E:XK}{x m:Str}{p pos Qm:Pos}{e o:Expr}{es:List Expr}{ta:TE}{t:TA}
def zU{σ:St}{Q:VK}(M:MkX X.K C f)(z:FnOkH X.prog X.w X.K X.mg X.base k f fd ps sp)(hr:RoomH (k+1) X.A)(J:Binds X.K fd ps ds)(hd:Vals dvs ds)
 (L:eX CX0 X E)(I:#[8] H s)(r:Vals vs us)(O:vs.length<=sizeLine)
 (h:∀e,H e=none->sp (.ref e::(vs++dvs)) (upd H e (pP C e)) (λv U=>v=.non/\Q (.ref e) U) E):
 ‹X.w› (call (.ref C) us) (EP X Qh σ Q) X.xe s:=by
 let hf:H (‹s›+1)=none:=I.hok.fresh (q9 _);let B:=h (‹s›+1) hf;erw[nm,q,N,bs,bm,D,sn,sub,ab,Y,dd,k0,k1,k2,k3,k5,lk,c1,c2,c3]at M.obj;erw[oI,lf,y]at M.fn;erw[hh,g,d,tk,os]at s;let I1:#[8] H { heap:=hh.push { cls:=.type "tuple",data:=.seq us.toArray },gens:=g,drawn:=d,toks:=tk,os:=os }:=I.kept (t':=tk) λb o e=>ih _ e
 let j:(hh.push { cls:=.type "tuple",data:=.seq us.toArray }).objs.size=hh.objs.size+1:=QP ..;let n:#[8] (upd H (hh.objs.size+1) (pP C (hh.objs.size+1))) { heap:=(hh.push { cls:=.type "tuple",data:=.seq us.toArray }).push (jO C hh.objs.size),gens:=g,drawn:=d,toks:=tk,os:=os }:=
  I1.laid (t':=tk) (λb o e=>ih _ e) (RU j) (ObP.ok (o:=jO C hh.objs.size) (by rw[←j];exact mM _ rfl) %[|0])
 let r2:Vals (V.ref (hh.objs.size+1)::(vs++dvs)) (Value.ref (hh.objs.size+1)::(us++ds)):=.cons rfl (r.append hd);let hl:(Value.ref (hh.objs.size+1)::us++ds).length=ps.length:=by
  let e:=r2.length;rw[z.len _ _ _ _ B]at e;exact e.symm
 apply lY RY c1 c2 c3 (I.kIn _ _ lk) (Rm I.kIn M.init) (I.kIn _ _ lf) y ?_ (by rw[←r.length];exact O);apply QG (Qu (z.run _ X.stack _ _ %[Value.ref (hh.objs.size+1)::us|[]] (Value.ref (hh.objs.size+1)::(us++ds)) _ _ E (hr.make C us []) (n.env0.make C us []) (J _ (Value.ref (hh.objs.size+1)::us) n.kIn hl) r2 B) λr s' c=>?_);cases r with
 |error e=>exact L Qh σ _ _ e s' n c
 |ok fl=>
   cases fl with
   |ret u=>
     let%[v,H',I3,rv,ev|q3]:=n.after c;subst ev;erw[rv,%[V.ref (hh.objs.size+1),H',I3,1|q3]]
   |next=>exact False.elim c
   |brk=>exact False.elim c
   |cont=>exact False.elim c
def CN(M:MkX X.K C f)(F:FnOkH X.prog X.w X.K X.mg X.base k f fd ps sp)(hr:RoomH (k+1) X.A)(hg:Gl X x)(g:X.mg x=some (.ref C))(j:Binds X.K fd ps ds)(hd:Vals dvs ds)(n:eX CX0 X E)
 (u:PA X (e::es) t)(b:(x==("__debug__":Str))=false:=by decide)(he:starEach (e::es) X.env=(false,eval e X.env)::starEach es X.env:=by rfl)(c:(backTo pos (starEach es X.env)).any (·.1)=false:=by rfl):
 PE X (.Call (.Name x p) (e::es) [] pos) (Ez C sp dvs E t):=by
 exists 4,Q,I,h;apply GV (iK I hg g ?_ b);apply Rq (h₀:=X.base) I.ok.mod.kin M.kp (thn (u pos Qh s σ H _ I h) λus s1 ⟨vs,v,d,r,z,q⟩=>%[d.kIn|6]) he c;exact zU M F hr j hd n d r z q
def yj{pl:Sem Bool}(hg:Gl X x)(z:X.mg x=some (.ref C))(c:ClsFn X.K C f m)(B:FnOkH X.prog X.w X.K X.mg X.base k f fd ps sp)(hr:RoomH k X.A)(D:Binds X.K fd ps ds)(hd:Vals dvs ds)(J:eX CX0 X E)(L:PA X (e::es) t)(b:(x==("__debug__":Str))=false:=by decide)
 (M:starEach (e::es) X.env=(false,eval e X.env)::starEach es X.env:=by rfl)(d:(backTo pos (starEach es X.env)).any (·.1)=false:=by rfl)
 (N:eval (.Call (.Attribute (.Name x p) m Qm) (e::es) [] pos) X.env=(do
  let j ←eval (.Name x p) X.env
  standAt Qm.atName
  let(f,first) ←holding [j] (getMethod j m pl)
  callWith pos f first (backTo pos (starEach (e::es) X.env)) (backToKw pos (keywordEach [] X.env))):=by rfl) :
 PE X (.Call (.Attribute (.Name x p) m Qm) (e::es) [] pos) (mN sp dvs E t):=by
 exists 4,Q,I,h;apply Rb (pl:=pl) ?_ N;apply thn (bQ (v:=.ref C) hg z rfl b Qh s σ H (λv O=>v=.ref C/\O=H) I %[1|1]) λu s1 ⟨v,U,g,r1,Y,eH⟩=>?_
 subst Y eH;cases r1;apply W.method_cls g.kIn c.ga (W.cls_value g.kIn c.rd c.find rfl ?_);let n:=g.tok (s1.toks+1);apply Rq (first:=[]) (h₀:=X.base) n.ok.mod.kin c.kp (thn (L pos Qh _ σ U _ n h) λus s2 ⟨vs,H2,y,r,q⟩=>%[y.kIn|6]) M d;exact II B hr D hd J y r q
end
section
variable {b:Bool}{X:Cx}{EE:Ends->St->XK}{n k n2:Nat}{x x2:Str}{ps ps2:List Str}{sp sp2:Sp}{e:Expr}{es:List Expr}{ta:TA}{p pos p2 pos2:Pos}
def Ft{i:Nat}{y:Str}{py p1:Pos}(hN:X.N.Nodup)(hi:X.N[i]?=some y)(hx:Loc X.env.scope y)(G:Cal X.prog X.w X.K X.mg X.base n2 x2 ps2 sp2)(C:CalB b X.prog X.w X.K X.mg X.base n x ps sp)(hr:Room k X.A)(J:n2<=k)(hk:n<=k)(L:Gl X x2)(hg:Gl X x)(ha:∀W,PA (X.wish W) (e::es) ta)
 (hs:swapsWith (.Call (.Name x2 p2) [.Call (.Name x p) (e::es) [] pos] [] pos2) (some (.Name y py)) p1.line X.env=pure false:=by rfl)(hf:X.fn y=true∨X.env.scope.names.lookup y=some .local:=by first | exact .inl rfl | exact .inr rfl | assumption)
 (j:(x2==("__debug__":Str))=false:=by decide)(M:(x==("__debug__":Str))=false:=by decide)(he:starEach (e::es) X.env=(false,eval e X.env)::starEach es X.env:=by rfl)(O:(backTo pos (starEach es X.env)).any (·.1)=false:=by rfl)
 (m:starEach [.Call (.Name x p) (e::es) [] pos] X.env=(false,eval (.Call (.Name x p) (e::es) [] pos) X.env)::starEach [] X.env:=by rfl)(o:(backTo pos2 (starEach [] X.env)).any (·.1)=false:=by rfl):
 HV b X EE [.Assign [.Name y py] (.Call (.Name x2 p2) [.Call (.Name x p) (e::es) [] pos] [] pos2) p1] (λD σ H=>mN sp [] (EE D σ) ta σ H λv c=>sp2 [v] c (λt d=>D.nx (σ.set i (some t)) d) E0):=by
 intro W Qh s σ H D hW I h;erw[fg,ab,Fg,bg,U,Y]at G.ex;apply Rj (Sq (thn (Q:=EP X Qh σ λt d=>D.nx (σ.set i (some t)) d) ?_ λv s1 ⟨z,c,g,r1,q1⟩=>?_) hs)
 . apply GV (iK I L Y ?_ j);apply Rq (h₀:=X.base) I.ok.mod.kin U (thn (Q:=AP (X.wish W) Qh σ λvs c=>sp2 (vs++[]) c (λt d=>D.nx (σ.set i (some t)) d) E0) ?_ λus s1 ⟨vs,c,g,r,q⟩=>%[g.kIn|6]) m o
   . rw[m];show wpAny _ _ (spliced ((false,eval (.Call (.Name x p) (e::es) [] pos) X.env)::backTo pos2 (starEach [] X.env))) _ _ _;apply Qz (thn (HJ C hr hk hg (ha W) hW I h M he O) λu s1 ⟨z,c,g,r1,q1⟩=>?_);exact thn (aV (X:=X.wish W) pos2 Qh s1 σ c (λxs H'=>xs=[]/\H'=c) (g.wish W) %[1|1]) λus s2 ⟨xs,d,B,r2,e1,e2⟩=>%[z::xs,d,B,.cons r1 r2|by subst e1 e2;exact q1]
   . exact thn (sU (X:=X.wish W) Fg (hr.mono J) bg .nil be g r q) λu s2 ⟨z,d,B,r2,q2⟩=>%[z,d,B.unwish,r2|q2]
 . exact ox g hN hi hx r1 (λs2 B=>LO %[_,c,B|q1]) hf
end
def FnOk.quiet{K:W.Frag}{c:Sp}(F:FnOk P w K mg base (CXb b P w) k f fd ps sp)(h:∀vs H Q E,c vs H Q E->sp vs H Q (λ_ _ _=>False)):FnOk P w K mg base CX0 k f fd ps c:=
 ⟨λvs H Q E g=>F.len _ _ _ _ (h _ _ _ _ g),λA outer s H args us vs Q E hr e0 j r g=>Qu (F.run A outer s H args us vs Q (λ_ _ _=>False) hr e0 j r (h _ _ _ _ g)) λr s' d=>by
  cases r with
  |error e=>
    erw[_,_,_,_,_,_,_,_,_,_,_,q]at d;exact q.elim
  |ok m=>cases m <;> exact d⟩
end L2
namespace Mine
def Pr(n:Int):Prop:=2<=n/\∀k:Int,2<=k->k<=1000->k*k<=n->n % k≠0
def qE(n:Int)(j:Int):Prop:=∀k:Int,2<=k->k<j->k*k<=n/\n % k≠0
def vf{a b:Int}(h0:0<=a)(h:a<=b):a*a<=b*b:=Int.mul_le_mul h h h0 (Int.le_trans h0 h)
def Kw{n k:Int}(h2:2<=n)(h0:2<=k)(u:qE n k)(h:n<k*k):Pr n:=by
 erw[h2,λj d _ e=>?_]
 by_cases c:j<k
 . exact(u j d c).2
 . have:=vf (a:=k) (b:=j) #[0] #[0]
   omega
def Kx{n:Int}(h2:2<=n)(u:qE n 1001):Pr n:=%[h2|λj b c _=>(u j b #[0]).2]
def Ku{n k:Int}(h0:2<=k)(h1:k<=1000)(b:k*k<=n)(h:n % k=0):¬ Pr n:=λp=>p.2 k h0 h1 b h
def zw(n:Int):qE n 2:=λk a b=>#[0]
def BY(u:qE n k)(d:k*k<=n)(h:n % k≠0):qE n (k+1):=λj a b=>by
 by_cases c:j<k
 . exact u j a c
 . let e:j=k:=#[0]
   subst e;erw[d,h]
def prB(n:Int):Bool:=decide (2<=n)&&(List.range 999).all λi=>decide (n<((i:Int)+2)*((i:Int)+2))||decide (n % ((i:Int)+2)≠0)
def IO(h:prB n=true):Pr n:=by
 unfold prB at h;rw[QD]at h;erw[CS h.1,λk b c d=>?_];let q:=List.all_eq_true.mp h.2 (k.toNat-2) (List.mem_range.mpr #[0]);let e:(((k.toNat-2:Nat):Int)+2)=k:=#[0]
 rw[e,Bool.or_eq_true]at q;rcases q with q | q
 . have:=CS q;omega
 . exact CS q
def CI:Pr 999983:=IO ⋯
def Kv{d:Int}(h:Pr p)(m:p<1002001)(n:1<d)(d1:d<p)(hd:d ∣ p):False:=by
 erw[e,he]at hd;let e0:1<e:=by
  by_cases c:e<=1
  . have:d*e<=d*1:=Rt c #[0]
    omega
  . omega
 by_cases c:d<=e
 . let s:d*d<=p:=by
    have:=Rt c (show(0:Int)<=d by omega)
    omega
   let t:d<=1000:=by
    by_cases g:1001<=d
    . have:=vf (a:=1001) (b:=d) #[0] g
      omega
    . omega
   apply h.2 d #[0] t s ?_;rw[he];exact Int.mul_emod_right d e
 . let j:e<=d:=#[0]
   let s:e*e<=p:=by
    have:=Int.mul_le_mul_of_nonneg_right j (show(0:Int)<=e by omega)
    omega
   let t:e<=1000:=by
    by_cases g:1001<=e
    . have:=vf (a:=1001) (b:=e) #[0] g
      omega
    . omega
   apply h.2 e #[0] t s ?_;rw[he,QT];exact Int.mul_emod_right e d
def Cop(x y:Int):Prop:=∀d:Int,0<d->d ∣ x->d ∣ y->d=1
def Lv{a:Int}(h:Pr p)(b:p<1002001)(e:0<a)(a1:a<p):Cop p a:=λd g h1 h2=>by
 have:=Q5 e h2
 by_cases c:1<d
 . exact(Kv h b c #[0] h1).elim
 . omega
structure Eu(a p former ff rest f:Int):Prop where
 r0:0<rest
 rp:rest<p
 fr:rest<former
 f0:0<=f
 f1:f<p
 g0:0<=ff
 g1:ff<p
 cop:Cop former rest
 d1:p ∣ former-a*ff
 d2:p ∣ rest-a*f
def yY{a:Int}(h:Pr p)(c:p<1002001)(b:0<a)(a1:a<p):Eu a p p 0 (a % p) 1:=by
 let e:a % p=a:=QH #[0] a1;rw[e];erw[b,a1,a1,3,3,3,3,Lv h c b a1,by rw[Int.mul_zero,Int.sub_zero];exact Int.dvd_refl p,by rw[Rr,Int.sub_self];exact Int.dvd_zero p]
def BJ(E:Eu a p b c rest f)(h1:rest≠1):Eu a p rest f (b-b / rest*rest) ((c-b / rest*f) % p)/\(b-b / rest*rest).toNat<rest.toNat:=by
 let r0:=E.r0;let rp:=E.rp;let g:b-b / rest*rest=b % rest:=by
  have:=RC b rest
  rw[QT]at this;omega
 let v:0<=b % rest:=oa _ #[0];let m:b % rest<rest:=pb _ r0;let e:Cop rest (b % rest):=λd n x y=>by
  apply E.cop d n ?_ x
  have:=RC b rest
  rw[←this];exact Q9 y (Int.dvd_trans x (Int.dvd_mul_right _ _))
 let B:b % rest≠0:=λz=>by
  have:=e rest r0 (Int.dvd_refl _) (by rw[z];exact Int.dvd_zero _)
  exact h1 this
 rw [g];erw[%[3,3,m,oa _ #[0],pb _ #[0],E.f0,E.f1,e,E.d2|6],3];let q:p ∣ (b-a*c)-b / rest*(rest-a*f):=Int.dvd_sub E.d1 (Int.dvd_trans E.d2 (Int.dvd_mul_left _ _));let o:p ∣ (c-b / rest*f)-(c-b / rest*f) % p:=Int.dvd_self_sub_emod;let r:p ∣ a*((c-b / rest*f)-(c-b / rest*f) % p):=Int.dvd_trans o (Int.dvd_mul_left _ _);let j:=Q9 q r;let e2:b-a*c-b / rest*(rest-a*f)+a*(c-b / rest*f-(c-b / rest*f) % p)=b % rest-a*((c-b / rest*f) % p):=by
  rw[←g];generalize b / rest=t;generalize (c-t*f) % p=u;rw[Int.mul_sub,Int.mul_sub,Int.mul_sub,Int.mul_left_comm t a f];omega
 rw[e2]at j;exact j
def Ho(E:Eu a p b j rest f)(h1:rest=1)(g:1<p):0<f/\f<p/\f*a % p=1:=by
 subst h1;let d2:=E.d2;let f0:=E.f0;let d:f*a % p=1:=by
  erw[c,hc]at d2;let e:f*a=1+p*(-c):=by
   rw[QT f a,Int.mul_neg];omega
  rw[e,Int.add_mul_emod_self_left];exact QH #[0] g
 erw[6,E.f1,d]
 by_cases c:f=0
 . subst c;simp at d
 . omega
end Mine
namespace Mine
def zq(n d:Int):Prop:=∀k:Int,3<=k->k % 2=1->k<d->n % k≠0
def Dk(n:Int):zq n 3:=λk a _ c=>#[0]
def FW(u:zq n d)(hd:d % 2=1)(h:n % d≠0):zq n (d+2):=λk a b c=>by
 by_cases e:k<d
 . exact u k a b e
 . have:k=d:=#[0]
   subst this;exact h
def DH{n d:Int}(h3:3<=n)(h2:n % 2≠0)(h0:3<=d)(u:zq n d)(hd:n<d*d):Pr n:=by
 erw[3,λk o r t z=>?_];let%[q|g]:=Int.dvd_of_emod_eq_zero z
 by_cases e:k % 2=1
 . by_cases c:k<d
   . exact u k #[0] e c z
   . have:=vf (a:=d) (b:=k) #[0] #[0]
     omega
 . obtain ⟨j,m⟩:∃j,k=2*j:=%[k / 2|3]
   rw[m,Int.mul_assoc]at g;omega
def DJ{n:Int}(h2:n % 2=0)(h3:2<n):¬ Pr n:=λp=>p.2 2 #[0] #[0] #[0] h2
def DI{n d:Int}(h9:n<=999999)(h0:3<=d)(c:d*d<=n)(h:n % d=0):¬ Pr n:=λp=>by
 let t:d<=1000:=by
  by_cases e:1001<=d
  . have:=vf (a:=1001) (b:=d) #[0] e
    omega
  . omega
 exact p.2 d #[0] t c h
def zE{n d:Int}(h9:n<=999999)(h0:3<=d)(e:d*d<=n):d<=999:=by
 by_cases c:1000<=d
 . have:=vf (a:=1000) (b:=d) #[0] c
   omega
 . omega
def IJ{n d:Int}(h0:3<=d)(b:d*d<=n):d<=n:=by
 have:=Rt (show(1:Int)<=d by omega) (show(0:Int)<=d by omega)
 omega
end Mine
namespace Mine
def dJ:Nat->List (List Int)
 |0=>[[]]
 |n+1=>(dJ n).flatMap λs=>[s++[0],s++[1]]
def qB{α β:Type}(f g:α->β):∀l:List α,(l.flatMap λs=>[f s,g s]).length=2*l.length
 | []=>rfl
 |x::r=>by
   let b:=qB f g r;simp only[List.flatMap_cons,gl,ij,o0];omega
def mh:∀n:Nat,(dJ n).length=2 ^ n
 |0=>rfl
 |n+1=>by rw[dJ,qB,mh n,Nat.pow_succ];omega
def ib:∀(n:Nat)(s:List Int),s∈dJ n->s.length=n
 |0,s,h=>by
   have:s=[]:=by simpa [dJ]using h
   subst this;rfl
 |n+1,s,h=>by
   rw[dJ,List.mem_flatMap]at h;erw[t,c,b]at h
   have:=ib n t c
   simp at b
   rcases b with rfl | rfl <;> simp [this]
def qj{n:Nat}(h:n<=6):2 ^ n<=64:=Nat.pow_le_pow_right ⋯ h
end Mine
namespace Mine
def Pm(p:Int):Prop:=1<p/\∀a:Int,¬ p ∣ a->∃f:Int,p ∣ f*a-1
def Hn{p:Int}(e:1<p):∀(n:Nat){b d rest f:Int},rest.toNat<=n->Eu a p b d rest f->∃g:Int,g*a % p=1
 |0,b,d,rest,f,j,E=>by
   have:=E.r0
   omega
 |n+1,b,d,rest,f,j,E=>by
   by_cases c:rest=1
   . erw[f,(Ho E c e).2.2]
   . let%[m|lt]:=BJ E c;exact Hn e n #[0] m
def Fw(h:Pr p)(d:p<1002001):Pm p:=by
 let b:1<p:=by have:=h.1;omega
 erw[b,λa e=>?_];let j:0<a % p:=by
  have:=oa a (show p≠0 by omega)
  by_cases c:a % p=0
  . exact absurd (Int.dvd_of_emod_eq_zero c) e
  . omega
 let a1:a % p<p:=pb _ #[0];let%[g|hg]:=Hn b _ (fz _) (yY h d j a1);erw[g,6];let e1:g*a % p=1:=by rw[←hg,Q7 g (a % p),Rn,←Q7]
 have:=RC (g*a) p
 erw[g*a / p,3]
def Pm.mul{a b:Int}(h:Pm p)(hd:p ∣ a*b)(c:¬ p ∣ a):p ∣ b:=by
 let%[f,k|d]:=h.2 a c;erw[m,e]at hd;erw[f*m-k*b,by grind]
def Pm.not_mul{a b:Int}(h:Pm p)(c:¬ p ∣ a)(d:¬ p ∣ b):¬ p ∣ a*b:=λz=>d (h.mul z c)
def ch:Nat->Nat->Nat
 |_,0=>1
 |0,_+1=>0
 |n+1,k+1=>ch n k+ch n (k+1)
def pH(n:Nat):ch n 0=1:=by cases n <;> rfl
def qC:∀(n k:Nat),n<k->ch n k=0
 |0,k+1,_=>rfl
 |n+1,k+1,h=>by
   show ch n k+ch n (k+1)=0;rw[qC n k #[0],qC n (k+1) #[0]]
def JA(n:Nat):ch n n=1:=by
 induction n with
 |zero=>rfl
 |succ n b=>
   show ch n n+ch n (n+1)=1;rw[b,qC n (n+1) #[0]]
def xG:∀(n k:Nat),(k+1)*ch (n+1) (k+1)=(n+1)*ch n k
 |0,0=>rfl
 |0,k+1=>by
   show(k+2)*(ch 0 (k+1)+ch 0 (k+2))=1*ch 0 (k+1);rw[qC 0 (k+1) #[0],qC 0 (k+2) #[0]]
   simp
 |n+1,0=>by
   let h:=xG n 0;rw[pH n]at h;show(0+1)*(ch (n+1) 0+ch (n+1) (0+1))=(n+1+1)*ch (n+1) 0;rw[pH (n+1)];omega
 |n+1,k+1=>by
   let h1:=xG n k;let h2:=xG n (k+1);show(k+2)*(ch (n+1) (k+1)+ch (n+1) (k+2))=(n+2)*ch (n+1) (k+1);let e:ch (n+1) (k+1)=ch n k+ch n (k+1):=rfl
   grind
def sm(f:Nat->Int):Nat->Int
 |0=>0
 |n+1=>sm f n+f n
def sv{f g:Nat->Int}:∀n,(∀k,k<n->f k=g k)->sm f n=sm g n
 |0,_=>rfl
 |n+1,h=>by
   show sm f n+f n=sm g n+g n;rw[sv n (λk b=>h k #[0]),h n #[0]]
def EQ(f g:Nat->Int):∀n,sm (λk=>f k+g k) n=sm f n+sm g n
 |0=>rfl
 |n+1=>by
   show sm (λk=>f k+g k) n+(f n+g n)=(sm f n+f n)+(sm g n+g n)
   rw[EQ f g n];omega
def EN(c:Int)(f:Nat->Int):∀n,sm (λk=>c*f k) n=c*sm f n
 |0=>by simp [sm]
 |n+1=>by
   show sm (λk=>c*f k) n+c*f n=c*(sm f n+f n)
   rw[EN c f n]
   grind
def oy(f:Nat->Int):∀n,sm f (n+1)=f 0+sm (λk=>f (k+1)) n
 |0=>by simp [sm]
 |n+1=>by
   show sm f (n+1)+f (n+1)=f 0+(sm (λk=>f (k+1)) n+f (n+1))
   rw[oy f n];omega
def EO{p:Int}{f:Nat->Int}:∀n,(∀k,k<n->p ∣ f k)->p ∣ sm f n
 |0,_=>%[(0)|by simp [sm]]
 |n+1,h=>Q9 (EO n λk b=>h k #[0]) (h n #[0])
def Kb(a:Int):∀n:Nat,(a+1) ^ n=sm (λk=>(ch n k:Int)*a ^ k) (n+1)
 |0=>by simp [sm,ch]
 |n+1=>by
   let b:=Kb a n;rw[QU,b,oy (λk=>((ch (n+1) k:Nat):Int)*a ^ k) (n+1)];let e1:sm (λk=>((ch (n+1) (k+1):Nat):Int)*a ^ (k+1)) (n+1)=a*sm (λk=>(ch n k:Int)*a ^ k) (n+1)+sm (λk=>(ch n (k+1):Int)*a ^ (k+1)) (n+1):=by
    rw[←EN,←EQ];apply sv _ λk _=>?_
    have:ch (n+1) (k+1)=ch n k+ch n (k+1):=rfl
    rw[this,RM,QU]
    grind
   let e2:sm (λk=>(ch n k:Int)*a ^ k) (n+1)=1+sm (λk=>(ch n (k+1):Int)*a ^ (k+1)) (n+1):=by
    rw[oy]
    have:sm (λk=>(ch n (k+1):Int)*a ^ (k+1)) (n+1)=sm (λk=>(ch n (k+1):Int)*a ^ (k+1)) n:=by
     show _+(ch n (n+1):Int)*a ^ (n+1)=_;rw[qC n (n+1) #[0]]
     simp
    rw[this,pH]
    simp
   rw[e1,pH]
   grind
def Lw(h:Pm p){n k:Nat}(b:(n:Int)+1=p)(c:k<n):p ∣ ((ch (n+1) (k+1):Nat):Int):=by
 let e:((k:Int)+1)*((ch (n+1) (k+1):Nat):Int)=p*((ch n k:Nat):Int):=by
  have:=xG n k
  rw[←b];exact_mod_cast this
 apply h.mul (a:=(k:Int)+1) %[_|e] λhd=>?_
 have:=Q5 #[0] hd
 omega
def uf(h:Pm p):∀a:Nat,p ∣ (a:Int) ^ p.toNat-a
 |0=>by
   have:p.toNat≠0:=by have:=h.1;omega
   simp [Int.zero_pow this]
 |a+1=>by
   let c:=uf h a;obtain⟨n,g⟩:∃n:Nat,p.toNat=n+1:=%[p.toNat-1|by have:=h.1;omega]
   let j:(n:Int)+1=p:=by have:=h.1;omega
   rw [g]at c ⊢;let b:=Kb (a:Int) (n+1);let e:sm (λk=>(ch (n+1) k:Int)*(a:Int) ^ k) (n+1+1)=sm (λk=>(ch (n+1) (k+1):Int)*(a:Int) ^ (k+1)) n+(a:Int) ^ (n+1)+1:=by
    rw[oy];show _+(sm _ n+(ch (n+1) (n+1):Int)*(a:Int) ^ (n+1))=_;rw[JA,pH]
    simp
    omega
   let d:p ∣ sm (λk=>(ch (n+1) (k+1):Int)*(a:Int) ^ (k+1)) n:=EO n λk m=>Int.dvd_mul_of_dvd_left (Lw h j m)
   erw[u,o]at c;erw[v,q]at d;erw[u+v,6];rw[RM];show((a:Int)+1) ^ (n+1)-((a:Int)+1)=_;rw[b,e]
   grind
def Lm{a:Int}(h:Pm p)(b:¬ p ∣ a)(c:0<=a):p ∣ a*a ^ (p-2).toNat-1:=by
 obtain⟨n,d⟩:∃n:Nat,p.toNat=n+2:=%[p.toNat-2|by have:=h.1;omega]
 let e:(p-2).toNat=n:=#[0]
 let f:=uf h a.toNat;rw[Int.toNat_of_nonneg c,d]at f;rw[e];let g:a ^ (n+2)-a=a*(a*a ^ n-1):=by
  rw[QU,QU]
  grind
 rw[g]at f;exact h.mul f b
def IsPoly:Nat->(Int->Int)->Prop
 |0,f=>∀x,f x=0
 |n+1,f=>∃(a:Int)(g:Int->Int),IsPoly n g/\∀x,f x=a+x*g x
def IsPoly.congr:∀{n:Nat}{f g:Int->Int},IsPoly n f->(∀x,g x=f x)->IsPoly n g
 |0,_,_,h,e=>λx=>(e x).trans (h x)
 |_+1,_,_,⟨a,k,b,h⟩,e=>%[a,k,b|λx=>(e x).trans (h x)]
def IsPoly.zero:∀n:Nat,IsPoly n λ_=>0
 |0=>λ_=>rfl
 |n+1=>%[(0),λ_=>0,IsPoly.zero n|λx=>by simp]
def IsPoly.up:∀{n:Nat}{f:Int->Int},IsPoly n f->IsPoly (n+1) f
 |0,f,h=>%[(0),λ_=>0,λ_=>rfl|λx=>by rw[h x];simp]
 |n+1,f,⟨a,g,hg,h⟩=>%[a,g,hg.up|h]
def IsPoly.add:∀{n:Nat}{f g:Int->Int},IsPoly n f->IsPoly n g->IsPoly n λx=>f x+g x
 |0,f,g,h,k=>λx=>by show f x+g x=0;rw[h x,k x];rfl
 |n+1,f,g,⟨a,u,c,h⟩,⟨b,v,d,k⟩=>%[a+b,λx=>u x+v x,c.add d|λx=>by show f x+g x=a+b+x*(u x+v x);rw[h x,k x];grind]
def IsPoly.mul(c:Int):∀{n:Nat}{f:Int->Int},IsPoly n f->IsPoly n λx=>c*f x
 |0,f,h=>λx=>by show c*f x=0;rw[h x];simp
 |n+1,f,⟨a,u,b,h⟩=>%[c*a,λx=>c*u x,b.mul c|λx=>by show c*f x=c*a+x*(c*u x);rw[h x];grind]
def IsPoly.lin{n:Nat}{f:Int->Int}(h:IsPoly n f)(r:Int):IsPoly (n+1) λx=>(x-r)*f x:=by
 let h1:IsPoly (n+1) λx=>x*f x:=%[(0),f,h|λx=>by simp]
 exact(h1.add (h.up.mul (-r))).congr λx=>by grind
def IsPoly.div:∀{n:Nat}{f:Int->Int},IsPoly (n+1) f->∀r:Int,∃q,IsPoly n q/\∀x,f x-f r=(x-r)*q x
 |0,f,⟨a,g,hg,h⟩,r=>%[λ_=>0,λ_=>rfl|λx=>by rw[h x,h r,hg x,hg r];simp]
 |n+1,f,⟨a,g,hg,h⟩,r=>by
   let%[q,b|e]:=IsPoly.div hg r;erw[λx=>g x+r*q x,hg.add (b.up.mul r),λx=>?_]
   have:=e x
   rw[h x,h r]
   grind
def IsPoly.roots(g:Pm p):∀{n:Nat}{f:Int->Int}(c:List Int),IsPoly n f->c.length=n->c.Pairwise (λa b=>¬ p ∣ b-a)->(∀r∈c,p ∣ f r)->∀x,p ∣ f x
 |0,f,_,h,_,_,_,x=>%[(0)|by rw[h x];simp]
 |n+1,f,[],_,hl,_,_,_=>by simp at hl
 |n+1,f,r::c,h,hl,hd,hr,x=>by
   let%[q,m|e]:=h.div r;let d:=List.pairwise_cons.mp hd;let z:=IsPoly.roots g c m #[hl,0] d.2 (λs j=>by
    let h1:p ∣ (s-r)*q s:=by
     rw[←e s];exact Int.dvd_sub (hr s (pj _ j)) (hr r mj)
    exact g.mul h1 (d.1 s j)) x
   have:f x=f r+(x-r)*q x:=by have:=e x;omega
   rw[this];exact Q9 (hr r mj) (Int.dvd_mul_of_dvd_right z)
end Mine
namespace Mine
def pr(g:Nat->Int):Nat->Int
 |0=>1
 |n+1=>pr g n*g n
def sY{f g:Nat->Int}:∀n,(∀k,k<n->f k=g k)->pr f n=pr g n
 |0,_=>rfl
 |n+1,h=>by
   show pr f n*f n=pr g n*g n;rw[sY n (λk b=>h k #[0]),h n #[0]]
def sX(g:Nat->Int):∀n,pr g (n+1)=g 0*pr (λk=>g (k+1)) n
 |0=>by simp [pr]
 |n+1=>by
   show pr g (n+1)*g (n+1)=g 0*(pr (λk=>g (k+1)) n*g (n+1))
   rw[sX g n,Int.mul_assoc]
def px(x:Int)(i:Nat):Nat->Int
 |0=>1
 |n+1=>if n=i then px x i n else px x i n*(x-n)
def Bq(i:Nat):∀n,IsPoly (if i<n then n else n+1) λx=>px x i n
 |0=>%[(1),λ_=>0,λ_=>rfl|λx=>by simp [px]]
 |n+1=>by
   let b:=Bq i n
   by_cases c:n=i
   . subst c;rw[Qi (Fo n)]at b;rw[Qk (QB n)];exact b.congr λx=>by simp [px]
   . let e:∀x,px x i (n+1)=(x-n)*px x i n:=λx=>by
      show(if n=i then px x i n else px x i n*(x-n))=_;rw[Qi c,QT]
     by_cases d:i<n
     . rw[Qk d]at b;rw[Qk #[0]];exact(b.lin n).congr e
     . rw[Qi d]at b;rw[Qi #[0]];exact(b.lin n).congr e
def wN{k i:Nat}(h:k≠i):∀n,k<n->px (k:Int) i n=0
 |n+1,d=>by
   show(if n=i then px (k:Int) i n else px (k:Int) i n*((k:Int)-n))=0
   by_cases c:n=i
   . rw[Qk c];exact wN h n #[0]
   . rw [Qi c]
     by_cases b:k=n
     . subst b
       simp
     . rw [wN h n #[0]]
       simp
def lag(v u:Nat->Int)(n:Nat)(x:Int):Int:=sm (λi=>v i*px x i n*u i) n
def IA{n m:Nat}{f:Nat->Int->Int}:(∀i,i<m->IsPoly n (f i))->IsPoly n λx=>sm (λi=>f i x) m:=by
 induction m with
 |zero=>exact λ_=>IsPoly.zero n
 |succ m b=>exact λh=>(b λi c=>h i #[0]).add (h m #[0])
def yL(v u:Nat->Int)(n:Nat):IsPoly n (lag v u n):=IA λi b=>by
 let h:=Bq i n;rw[Qk b]at h;exact(h.mul (v i*u i)).congr λx=>by grind
def EM{f:Nat->Int}{k:Nat}:∀n,k<n->(∀i,i<n->i≠k->f i=0)->sm f n=f k
 |n+1,b,h=>by
   show sm f n+f n=f k
   by_cases c:k=n
   . subst c;let z:sm f k=0:=by
      have:sm f k=sm (λ_=>0) k:=sv k λi d=>h i #[0] #[0]
      rw[this];clear this h b
      induction k with
      |zero=>rfl
      |succ k e=>show sm (λ_=>0) k+0=0;rw[e];rfl
     rw[z]
     simp
   . rw [EM n #[0] (λi d=>h i #[0]),h n #[0] #[0]]
     simp
def Wgt(p:Int)(n:Nat)(u:Nat->Int):Prop:=∀i,i<n->p ∣ px (i:Int) i n*u i-1
def AI{k:Nat}(d:Wgt p n u)(b:k<n):p ∣ lag v u n k-v k:=by
 unfold lag;rw[EM n b λi e c=>by rw[wN (Ne.symm c) n b];simp];let%[m|g]:=d k b;erw[v k*m,by grind]
def far{p:Int}{n:Nat}(g:(n:Int)<=p):((List.range n).map λk:Nat=>(k:Int)).Pairwise λa b=>¬ p ∣ b-a:=by
 rw[List.pairwise_map];apply List.Pairwise.imp_of_mem (fun{a b} j c h=>?_) List.pairwise_lt_range;intro d
 have:=Q5 #[0] d
 let e:=List.mem_range.mp c;omega
def alike(b:Pm p){n:Nat}(c:(n:Int)<=p){f g:Int->Int}(hf:IsPoly n f)(hg:IsPoly n g)(h:∀k:Nat,k<n->p ∣ f k-g k)(x:Int):p ∣ f x-g x:=by
 let hd:IsPoly n λx=>f x-g x:=(hf.add (hg.mul (-1))).congr λx=>by grind
 apply hd.roots b ((List.range n).map λk:Nat=>(k:Int)) #[2] (far c) (λr hr=>?_) x;let%[k,d|1]:=List.mem_map.mp hr;exact h k (List.mem_range.mp d)
def GF(c:Pm p){n:Nat}(d:(n:Int)<=p){v:Nat->Int}{P:Int->Int}(e:Wgt p n u)(hP:IsPoly n P)(h:∀k:Nat,k<n->p ∣ v k-P k)(x:Int):p ∣ lag v u n x-P x:=
 alike c d (yL v u n) hP (λk b=>by
  let h1:=AI (v:=v) e b;let h2:=h k b
  have:lag v u n k-P k=(lag v u n k-v k)+(v k-P k):=#[0]
  rw[this];exact Q9 h1 h2) x
def GE(d:Pm p){n:Nat}(e:(n:Int)<=p)(g:Wgt p n u)(b:Wgt p n c)(x:Int):p ∣ lag v u n x-lag v c n x:=
 GF d e g (yL v c n) (λk j=>by
  let%[m|o]:=AI (v:=v) b j;erw[-m,by grind]) x
def sV(x:Int)(i:Nat):∀m,px x i (i+1+m)=pr (λj=>x-j) i*pr (λj=>x-(i+1+j:Nat)) m
 |0=>by
   let h:∀k,k<=i->px x i k=pr (λj=>x-j) k:=λk=>by
    induction k with
    |zero=>exact λ_=>rfl
    |succ k b=>
      intro c;show(if k=i then px x i k else px x i k*(x-k))=pr (λj=>x-j) k*(x-k)
      rw[Qi #[0],b #[0]]
   show(if i=i then px x i i else _)=_*1;rw[Qk rfl,h i (fz _),Rr]
 |m+1=>by
   show(if i+1+m=i then _ else px x i (i+1+m)*(x-(i+1+m:Nat)))=pr (λj=>x-j) i*(pr (λj=>x-(i+1+j:Nat)) m*(x-(i+1+m:Nat)))
   rw[Qi #[0],sV x i m,Int.mul_assoc]
def Bs(x:Int)(i:Nat):∀m,pr (λj=>x-(i+m:Nat)+j) m=pr (λj=>x-(i+1+j:Nat)) m
 |0=>rfl
 |m+1=>by
   rw[sX];show _=pr (λj=>x-(i+1+j:Nat)) m*(x-(i+1+m:Nat))
   let e:pr (λk=>x-(i+(m+1):Nat)+(k+1:Nat)) m=pr (λj=>x-(i+m:Nat)+j) m:=sY m λk _=>#[0]
   rw[e,Bs x i m,QT]
   congr 1
   omega
def fac:Nat->Int
 |0=>1
 |n+1=>fac n*((n:Int)+1)
def yX:∀n:Nat,pr (λj=>(n:Int)-j) n=fac n
 |0=>rfl
 |n+1=>by
   rw[sX];let e:pr (λk=>((n+1:Nat):Int)-(k+1:Nat)) n=pr (λj=>(n:Int)-j) n:=sY n λk _=>#[0]
   rw[e,yX n];show((n+1:Nat)-(0:Nat):Int)*fac n=fac n*((n:Int)+1)
   rw[QT]
   congr 1
def BI(i:Nat):∀m:Nat,pr (λj=>(i:Int)-(i+1+j:Nat)) m=(-1) ^ m*fac m
 |0=>rfl
 |m+1=>by
   show pr _ m*((i:Int)-(i+1+m:Nat))=(-1) ^ (m+1)*(fac m*((m:Int)+1))
   rw[BI i m,QU]
   have:((i:Int)-(i+1+m:Nat))=-((m:Int)+1):=#[0]
   rw[this]
   grind
def Fr(i m:Nat):px (i:Int) i (i+1+m)=fac i*((-1) ^ m*fac m):=by rw[sV,yX,BI]
def yW:∀(k d:Nat),fac d*pr (λj=>((d+k:Nat):Int)-j) k=fac (d+k)
 |0,d=>by simp [pr]
 |k+1,d=>by
   let b:=yW k (d+1);rw[show d+1+k=d+(k+1) by omega]at b;rw[←b];show fac d*(pr (λj=>((d+(k+1):Nat):Int)-j) k*(((d+(k+1):Nat):Int)-k))=fac d*((d:Int)+1)*pr (λj=>((d+(k+1):Nat):Int)-j) k
   have:(((d+(k+1):Nat):Int)-k)=(d:Int)+1:=#[0]
   rw[this]
   grind
def xE(b:Pm p):∀n:Nat,(n:Int)<p->¬ p ∣ fac n
 |0,_=>λd=>by
   have:=Q5 ⋯ (show p ∣ 1 from d)
   have:=b.1
   omega
 |n+1,h=>b.not_mul (xE b n #[0]) λd=>by
   have:=Q5 #[0] d
   omega
def Bo(m:Nat):((-1:Int) ^ m)*(-1) ^ m=1:=by
 induction m with
 |zero=>rfl
 |succ m b=>rw[QU];grind
def KC(b:Pm p){n i:Nat}(c:(n:Int)<=p)(e:i<n):¬ p ∣ px (i:Int) i n:=by
 obtain⟨m,rfl⟩:∃m,n=i+1+m:=%[n-(i+1)|3]
 rw[Fr];apply b.not_mul (xE b i #[0]) (b.not_mul (λd=>?_) (xE b m #[0]));erw[k,g]at d;let s:=Bo m
 have:p ∣ 1:=%[k*(-1) ^ m|by grind]
 have:=Q5 ⋯ this
 have:=b.1
 omega
def Ic{p:Int}{c:Nat}{d:Nat->Int}(h:∀k,k<=c->p ∣ d k*fac k-1):Wgt p (c+1) λi=>(-1) ^ (c-i)*(d i*d (c-i)):=λi g=>by
 obtain⟨m,rfl⟩:∃m,c=i+m:=%[c-i|3]
 show p ∣ px (i:Int) i (i+m+1)*((-1) ^ (i+m-i)*(d i*d (i+m-i)))-1;rw[show i+m+1=i+1+m by omega,Fr,show i+m-i=m by omega];let%[a|j]:=h i #[0];let%[b|n]:=h m #[0];let s:=Bo m;erw[a*(d m*fac m)+b,6];let e:fac i*((-1) ^ m*fac m)*((-1) ^ m*(d i*d m))=((-1) ^ m*(-1) ^ m)*((d i*fac i)*(d m*fac m)):=by grind
 rw[e,s]
 grind
end Mine
namespace Mine
open PySem L2
def Dv{us:List Value}(h:us.length=1):∃a,us=[a]:=by
 cases us with
 |nil=>cases h
 |cons a r=>
   cases r with
   |nil=>erw[a,1]
   |cons _ _=>cases h
def Dt{us:List Value}{n:Nat}(h:us.length=n+1):∃a r,us=a::r/\r.length=n:=by
 cases us with
 |nil=>cases h
 |cons a r=>erw[a,r,1,Nat.succ.inj h]
def Du{us:List Value}(h:us.length=2):∃a b,us=[a,b]:=by
 let%[a,r,1|h1]:=Dt h;let%[b|1]:=Dv h1;erw[a,b,1]
def KP{us:List Value}(h:us.length=3):∃a b c,us=[a,b,c]:=by
 let%[a,r,1|h1]:=Dt h;let%[b,c|1]:=Du h1;erw[a,b,c,1]
def Jn{us:List Value}(h:us.length=4):∃a b c d,us=[a,b,c,d]:=by
 let%[a,r,1|h1]:=Dt h;let%[b,c,d|1]:=KP h1;erw[a,b,c,d,1]
def len5{us:List Value}(h:us.length=5):∃a b c d e,us=[a,b,c,d,e]:=by
 let%[a,r,1|h1]:=Dt h;let%[b,c,d,e|1]:=Jn h1;erw[a,b,c,d,e,1]
def len6{us:List Value}(h:us.length=6):∃a b c d e f,us=[a,b,c,d,e,f]:=by
 let%[a,r,1|h1]:=Dt h;let%[b,c,d,e,f|1]:=len5 h1;erw[a,b,c,d,e,f,1]
def len7{us:List Value}(h:us.length=7):∃a b c d e f g,us=[a,b,c,d,e,f,g]:=by
 let%[a,r,1|h1]:=Dt h;let%[b,c,d,e,f,g|1]:=len6 h1;erw[a,b,c,d,e,f,g,1]
def top(i:Nat):Stmt:=PySem.Challenge.pw_asktally_k75_talks_at_the_desk.main.body.getD i (.Pass %[(0),(0),(0)|(0)])
example:=[nZ,13,kF,14,lF,15,jf,17,kG,18,sN,19,og,20,iY,21,mo,22,ky,23,ko,25,jb,26,lI,30,iz,31,kz,32,kA,33,lE,34,jK,36,qb,46,kE,47,jJ,55,kH,56,lD,57,iZ,58,jx,59,ei,60,jL,61,nK,62,jv,64,iJ,65,ny,67,lK,68,iX,69,nO,70,eN,71,lO,74,sM,76,iy,77,zO,78,lJ,80,nI,81,lC,91,ku,92,je,93,fY,94,iw,95,jI,96,jw,97,ie,98,kt,102,nQ,103,qe,104,kI,109,sF,110,lB,112,nJ,113,ly,114,lA,115,pT,118,nY,119,qc,120,lG,121,kx,122,kq,123,ju,125,lH,126,sL,128,sH,129,cv,130,oM,131,iI,132,sI,133,kC,134,pY,135,sK,136,oN,137,nV,138,sJ,139,pZ,140,kD,141,pX,142,nU,143,oK,144]
section
variable {P:Program}{w:World}{K:W.Frag}{mg:#[9]}{base:Heap}
example:=[dY,73,lN,100,pW,107,wF,29]
structure Bl(mg:#[9]):Prop where
 len:mg "len"=none
 range:mg "range"=none
 isinstance:mg "isinstance"=none
 int:mg "int"=none
 bool:mg "bool"=none
 list:mg "list"=none
 tuple:mg "tuple"=none
 max:mg "max"=none
 min:mg "min"=none
 reversed:mg "reversed"=none
 enumerate:mg "enumerate"=none
 sum:mg "sum"=none
 all:mg "all"=none
 str:mg "str"=none
def BH(z:Int):0<=z % 2147483646+1/\z % 2147483646+1<=2147483646:=#[0]
def gQ:FnScope ["_law_script","_law_k","_law_cell","_law_own"] Wx (af sL):=%[|5]
def CW(F:#["_law_feed",sL])(d:mg "len"=none):#[1,f,fd,Wx,spFeed K]:=by
 exists gQ
 erw[a,ns,k,1,g,h63,t,x,q]at h;refine⟨_,(aa #[aj,2,gQ,ax aU (ax cW ae (pv 1)) ae]
  (aa (aG (ag dX (pv 1) (aE aD rfl d hR %[0|aV]) (aq _)) (ac #[aj,2,gQ,aI ix_list (pv 0) (pv 1) #[1]]) (ac (aG (ag ji (aE aD rfl d hR %[0|aV]) ae (aq _)) (ac #[aj,2,gQ,ax aU (ax cW (ax bp (aI ix_list (pv 0) (ax bp (pv 1) (aE aD rfl d hR %[0|aV])) #[1]) ae) ae) (ax cW ae (pv 1))]) au)))
  (aa #[aj,3,gQ,ae]
  (aa (aG (ag FI (pv 2) (ax FE ae ae) (aq _)) (ac #[aj,3,gQ,pv 2]) au)
  (ac (am (cY %[3,ax aU (ax bp (ax aU (ax cW (ax bp (pv 2) ae) ae) (ax cW ae (pv 1))) ae) ae|aV]))))))),?_⟩
 let hl:(ns.map V.int).length=ns.length:=fx _;let e:(10:Int) ^ (18:Int).toNat=1000000000000000000:=by decide
 erw[0,2,.inl %[4|4],2,6];erw[0,0,a,0,.inl g,2,0,6];apply tY (λc=>?b1) (λc=>?b2)
 case' b1=>
  let j:k<(((ns.map V.int).length:Nat):Int):=CS c;rw[hl]at j;let%[v|m]:=HP (ns:=ns) t j;erw[0,0,a,_,2,g,m,6]
 case' b2=>
  erw[0,a,0,.inl g,2,0,6];apply tY (λn=>?b3) (λn=>?b4)
  case' b3=>
   let j:(0:Int)<(((ns.map V.int).length:Nat):Int):=CS n;let u:=oa k (b:=(((ns.map V.int).length:Nat):Int)) #[0];let m1:=pb k j;let%[v|m]:=HP (ns:=ns) u (by rw[hl]at m1 ⊢;exact m1);let n0:=oa v (b:=2147483629) ⋯;let n1:=pb v (b:=2147483629) ⋯;erw[0,0,0,a,0,.inl g,2,j,a,_,2,g,m,2,(by show(0:Int)<_;decide),2,.inr %[4|4],0,2,.inl %[4|4],2,6]
 all_goals
  erw[0,2,%[4,4|4],2,0,6];apply tY (λo=>?_) (λo=>?_)
  . let r:=CS o;rw[e]at r;erw[0,0,0,2,(by show(0:Int)<_;decide),2,.inr %[4|4],0,2,.inl %[4|4],2,2,(by show(0:Int)<_;decide),2,y2S,λp e=>?_];apply q p _ e (fj e _) %[_,_,aX,Int.le_trans ⋯ r,(BH _).1|(BH _).2]
  . erw[0,0,2,(by show(0:Int)<_;decide),2,.inr %[4|4],0,2,.inl %[4|4],2,2,(by show(0:Int)<_;decide),2,y2S,λp e=>?_];apply q p _ e (fj e _) %[_,_,aX,u6 0,(BH _).1|(BH _).2]
def ua:FnScope ["_law_feed_here","_law_many","_law_digit","_law_one"] WF (af sH):=%[|5]
def CQ(F:#["_law_take",sH]):#[1,f,fd,WF,spTake]:=by
 exists ua
 erw[f,m,1,%[own,st,hf,e,s0|s1],d,m1,q]at h;refine⟨_,(aa (aG (ag ji (aI ix_list (pv 0) ae #[1]) ae (aq _)) (aa #[aj,2,ua,ax bp (aI ix_list (pv 0) ae #[1]) (pv 1)]
  (aa (oh (ax FJ (aI ix_list (pv 0) ae #[1]) (pv 1)) (tE (pv 0) ae li))
  (ac (am (pv 2))))) au)
  (aa #[aj,3,ua,ax bp (ax cW (aI ix_list (pv 0) ae #[1]) ae) ae]
  (aa (oh (ax aU (ax bp (ax aU (ax cW (pv 3) ae) ae) ae) ae) (tE (pv 0) ae li))
  (ac (am (ax bp (ax BA (ax aU (ax cW (pv 3) ae) (aI ix_list (pv 0) ae #[1])) ae) (pv 1))))))),?_⟩
 erw[0,f,_,(0),0,1,fy hf,1,2,0,6];apply tY (λc=>?_) (λc=>?_)
 . erw[0,f,_,(0),0,1,fy hf,1,0,2,d,6];erw[0,f,_,(0),0,1,fy hf,1,0,2,%[d|m1],0,f,_,(0),(0),1,1,hf,1,6];erw[0,6];exact q _ _ (oa _ #[0]) (pb _ d) ⟨_,_,aX,Int.ediv_nonneg e #[0],s0,s1⟩ (SameBut.upd _)
 . let g:=oa (st*69621) (b:=2147483647) ⋯;let a1:=pb (st*69621) (b:=2147483647) ⋯;erw[0,f,_,(1),0,1,fy hf,1,2,.inr %[4|4],2,(by show(0:Int)<_;decide),6];erw[0,2,.inr %[4|4],2,2,(by show(0:Int)<_;decide),2,0,f,_,(1),(1),1,1,hf,1,6];let j:=oa (st*69621 % 2147483647*48271+30103) (b:=2147483646) ⋯;let n:=pb (st*69621 % 2147483647*48271+30103) (b:=2147483646) ⋯;erw[0,2,.inr %[4|4],0,f,_,(1),0,1,fy aX,1,2,2,%[4|4],0,2,d,6];exact q _ _ (oa _ #[0]) (pb _ d) ⟨_,_,aX,e,#[0],#[0]⟩ (SameBut.upd _)
def i8:FnScope ["_law_feed_here","_law_names_here","_law_room","_law_deep","_law_form","_law_more","_law_one","_law_word"] WV (af oM):=%[|5]
def lf{a X Y B:Prop}[Decidable a](x:X)(h:¬ a->X->B):if decide a=true then(if true=true then X else Y)else B:=by
 by_cases c:a
 . rw[j2 c];exact dZ (dZ x)
 . rw[ll c];exact cz (h c x)
def Ce{n:Nat}(F:#["_law_tree",oM])(m:mg "len"=none)(J:#[1,"_law_take",WF,spTake])
 (O:#[n+2,"_law_tree",WV,spTree n]):#[n+3,f,fd,WV,spTree (n+1)]:=by
 exists i8
 erw[f,a,b,c,ns,1,hF,U,Y,r1,an,d1,dn,q]at h;refine⟨_,(aa #[aj,4,i8,ai J hr (on (kr _)) rfl %[0,ae|aV]]
  (aa (aG (PW.pt (eO (ag dX (pv 2) ae (aq _)) (eO (ag dX (pv 3) ae (aq _)) (dL (ag aP (pv 4) ae (aq _)))))) (aa (aG (PW.pt (eO (ag aP (ax bp (pv 4) ae) ae (aq _)) (dL (ag aP (aE aD rfl m hR %[1|aV]) ae (aq _))))) (ac (am (aI ix_list (cY %[aO %[ao|aV],aO %[ao|aV]|aV]) (ai J hr (on (kr _)) rfl %[0,ae|aV]) #[1]))) au)
   (ac (am (aO %[ao,aI (ix_list.or ix_tup) (pv 1) (ai J hr (on (kr _)) rfl %[0,aE aD rfl m hR %[1|aV]|aV]) #[1]|aV])))) au)
  (aa (aG (PW.pt (eO (ag dX (pv 2) ae (aq _)) (dL (ag aP (pv 4) ae (aq _))))) (ac (am (aO %[ao,ai O hr (fz _) rfl %[0,1,ax bz (pv 2) ae,ax bz (pv 3) ae|aV]|aV]))) au)
  (aa #[aj,5,i8,ax aU ae (ai J hr (on (kr _)) rfl %[0,ax bz (pv 2) ae|aV])]
  (aa #[aj,6,i8,ai O hr (fz _) rfl %[0,1,5,ax bz (pv 3) ae|aV]]
  (aa #[aj,7,i8,aI ix_list (cY %[ao,ao,ao,ao|aV]) (ax bp (pv 4) ae) #[1]]
  (ac (am (aO %[7,6,ai O hr (fz _) rfl %[0,1,ax bz (ax bz (pv 2) ae) (pv 5),ax bz (pv 3) ae|aV]|aV]))))))))),?_⟩
 erw[0,f,(10),1,hF,4,4,λfm H1 f0 ap j u=>?_];let B:=U.feed hF u;erw[0,2,0,6];apply lf ?leaf λc1 hX=>?_
 case leaf=>
  erw[0,2,(by show(0:Int)<_;decide),1,0,6];apply lf ?yn λc6 hY=>?_
  case yn=>
   erw[y1S,λC h1=>?_];erw[y1S,λp2 h2=>?_];erw[y2S,λl hl=>?_];let ga:=fj h1 (.tup [.str "yes"]);let gb:=fj h2 (.tup [.str "no"]);let gc:=fj hl (.lst [.ref C,.ref p2]);let G:=ga.trans (gb.trans gc);let ab:=(j.same (ga.trans gb)).ne hl;erw[0,f,(2),1,j.same G,4,4,λd y d0 d2 r g=>?_];let y2:y C=some (.tup [.str "yes"]):=bj (j.same G) g _ _ (gc _ _ (gb _ _ aX));let n2:y p2=some (.tup [.str "no"]):=bj (j.same G) g _ _ (gc _ _ aX);let l2:=g l _ ab aX
   have:d=0∨d=1:=#[0]
   rcases this with rfl | rfl
   . erw[l,_,(0),0,1,fy l2,1,q (.ref C) .yes y r (u.trans ((f4 G).trans g)) (.yes y2) trivial (show(1:Int)<=b from r1) (show(1:Int)<=c from d1)]
   . erw[l,_,(1),0,1,fy l2,1,q (.ref p2) .no y r (u.trans ((f4 G).trans g)) (.no n2) trivial (show(1:Int)<=b from r1) (show(1:Int)<=c from d1)]
  erw[0,a,0,B.seq,1,0,6]
  by_cases c7:V.int ((ns.map V.str).length:Int)=V.int 0
  . exact aW c7 hY
  apply az c7 ?_;let nz:0<ns.length:=by
   let z:¬ ((ns.map V.str).length:Int)=0:=λz=>c7 (congrArg V.int z)
   rw[fx]at z;omega
  erw[0,0,0,a,0,B.seq,f,0,j,(show(0:Int)<((ns.map V.str).length:Int) by rw[fx];omega),by rw[fx];omega,λd y d0 d9 r g=>?_];let%[v,hv|vm]:=pJ (l:=ns.map V.str) (i:=d) d0 d9;let%[x,hx|1]:=List.mem_map.mp vm;refine(B.feed j g).ix hv ?_;erw[y2S,λp D=>?_];let G:=fj D (.tup [.str "is",.str x]);exact q (.ref p) (.is x) _ (r.same G) (u.trans (g.trans (f4 G))) (.is aX) hx (show(1:Int)<=b from r1) (show(1:Int)<=c from d1)
 erw[0,2,0,6]
 by_cases c2:c<2
 . exact aW c2 (dZ hX)
 apply az c2 ?_;erw[0,1,0,6]
 by_cases c3:V.int fm=V.int 9
 . exact aW c3 hX
 apply az c3 ?_;erw[0,2,0,6];let d2:2<=c:=#[0]
 let dd:1<=c-1:=#[0]
 let t:c-1+1<=(n:Int)+1:=#[0]
 apply lf ?nt λc4 U=>?_
 case nt=>
  erw[0,0,0,2,0,2,f,a,_,_,ns,1,j,B,Y,(show 1<=b-1 by omega),3,dd,t,λL t1 H3 M N T1 o1 z1 C=>?_];erw[y2S,λp D=>?_];let o:=fj D (.tup [.str "not",L]);apply q (.ref p) (.not t1) _ (M.same o) (u.trans (N.trans (f4 o))) (.not aX (T1.mono (bw o))) o1 ?_ ?_
  . show((t1.size+1:Nat):Int)<=b;omega
  . show((t1.depth+1:Nat):Int)<=c;omega
 erw[0,1,0,6]
 by_cases c5:V.int fm=V.int 8
 . exact aW c5 U
 apply az c5 ?_;erw[0,0,2,f,0,j,(show(0:Int)<b-2 by omega),(show b-2<2 ^ 63 by omega),λe y e0 e1 r g=>?_];erw[2,6];let N2:=B.feed j g;erw[0,0,0,0,2,f,a,_,_,ns,1,r,N2,Y,3,3,dd,t,λL t1 H3 M N T1 o1 z1 C=>?_];let N3:=N2.feed r N;erw[y4S,λl hl=>?_];let%[wd,hw|wm]:=pJ (l:=joinW.map V.str) (i:=fm % 4) #[0] (by
  have:(joinW.map V.str).length=4:=by rfl
  omega)
 let%[x,hx|1]:=List.mem_map.mp wm;erw[0,2,(by show(0:Int)<_;decide),l,_,2,fy aX,hw,6];let G:=fj hl (.lst [.str "and",.str "or",.str "odd",.str "same"]);erw[0,0,0,0,0,2,0,2,0,2,f,a,_,_,ns,1,M.same G,N3.same G,Y,(show 1<=b-1-(1+e) by omega),3,dd,t,λv2 t2 H4 F4 S4 T2 o2 z2 p2=>?_];erw[y3S,λp D=>?_];let o:=fj D (.tup [.str x,L,v2]);let ah:TreeAt H4 L t1:=(T1.mono (bw G)).mono (bj (M.same G) S4);apply q (.ref p) (.bin x t1 t2) _ (F4.same o) (u.trans (g.trans (N.trans ((f4 G).trans (S4.trans (f4 o)))))) (.bin aX (ah.mono (bw o)) (T2.mono (bw o))) %[hx,o1|o2] ?_ ?_
 . show((t1.size+t2.size+1:Nat):Int)<=b;omega
 . show((max t1.depth t2.depth+1:Nat):Int)<=c;omega
def Cd:#[2,f,fd,WV,spTree 0]:=by
 let no:∀vs H Q E,¬ spTree 0 vs H Q E:=λvs H Q E h=>by
  erw[f,a,b,c,ns,_,_,_,_,_,_,h1,h2,_]at h;omega
 exists 3
def vy(F:#["_law_tree",oM])(b:mg "len"=none)(m:mg "_law_tree"=some (.ref f))(c:#[1,"_law_take",WF,spTake]):
 ∀n:Nat,#[n+2,f,fd,WV,spTree n]
 |0=>Cd
 |n+1=>Ce F b c (Cal.of F (vy F b m c n) m (λ_ _ _ _ _ _ us hl=>by let%[d,e,g,j|1]:=Jn hl;rfl))
def Lb:Stmt->List Stmt
 |.If _ b _ _=>b
 |_=>[]
def La:Stmt->Expr
 |.If c _ _ _=>c
 |_=>.Constant .none 0 %[(0),(0),(0)|(0)]
def Ek:Stmt->Expr
 |.Assign _ v _=>v
 |.Return (some v) _=>v
 |_=>.Constant .none 0 %[(0),(0),(0)|(0)]
def AW:Expr->List Expr
 |.List b _=>b
 |.BinOp _ _ (.List b _) _=>b
 |.Subscript (.List b _) _ _=>b
 |_=>[]
abbrev stm(s:Stmt)(i:Nat):Stmt:=(cP s).getD i (.Pass %[(0),(0),(0)|(0)])
abbrev Iz(s:Stmt)(i j:Nat):Stmt:=(Lb (stm s i)).getD j (.Pass %[(0),(0),(0)|(0)])
def wordsA:List Str:=["is","set","say","if","go","end","num","box","op","field","holds","claims"]
def wordsB:List Str:=["nota","nob","yesx","andy","ors","oddly"]
def wordsC:List Str:=["samey","rounds","dues","coins","truex","asks"]
@[irreducible] def AA:List Expr:=AW (Ek (Iz cv 6 0))
@[irreducible] def Az:List Expr:=AW (Ek (Iz cv 6 1))
@[irreducible] def Ay:List Expr:=AW (Ek (Iz cv 6 2))
def Gj:Consts AA wordsA:=by
 unfold AA;exact .cons (.cons (.cons (.cons (.cons (.cons (.cons (.cons (.cons (.cons (.cons (.cons .nil)))))))))))
def Gi:Consts Az wordsB:=by
 unfold Az;exact .cons (.cons (.cons (.cons (.cons (.cons .nil)))))
def Gh:Consts Ay wordsC:=by
 unfold Ay;exact .cons (.cons (.cons (.cons (.cons (.cons .nil)))))
def Ax:∃b p2 c d p5 p6 p7 p8 p9 e g j m q5,cP cv=[stm cv 0,stm cv 1,stm cv 2,stm cv 3,stm cv 4,stm cv 5,
 .If (La (stm cv 6)) [.Assign [.Name "_law_words" b] (.List AA p2) c,.Assign [.Name "_law_words" d] (.BinOp (.Name "_law_words" p5) .Add (.List Az p6) p7) p8,.Assign [.Name "_law_words" p9] (.BinOp (.Name "_law_words" e) .Add (.List Ay g) j) m,Iz cv 6 3] [] q5,stm cv 7]:=
 %[_,_,_,_,_,_,_,_,_,_,_,_,_,_|by rfl']
def LTR:Str:="bcdfghjklmnpqrstvwxz"
def KN:∀c∈LTR.cps.toList,c≠97:=by decide
def AE:∀c∈LTR.cps.toList,97<=c/\c<=122:=by decide
def kept:List Str:=["yes","no","not","and","or","odd","same","round","due","asked","true","coin"]
def NmK(x:Str):Prop:=HW x/\1<=x.length/\x.length<=6/\x∉kept
def BV:∀x∈(wordsA++wordsB)++wordsC,(x.length<=20/\(∀c∈x.cps.toList,97<=c/\c<=122)/\x≠"aa")/\1<=x.length/\x.length<=6/\x∉kept:=by decide
def Ec(x:Str)(h:x∈(wordsA++wordsB)++wordsC):NmK x:=BV x h
def GK:∀x∈kept,∃c∈x.cps.toList,c∉LTR.cps.toList:=by decide
instance spNamesN:∀(f:Addr)(m:Int),vs=[.ref f,.int m]->FeedAt H f->0<=m->m<=6->(∀(l:Addr)(ns:List Str)(H':Hp),H l=none->l≠f->H' l=some (.lst (ns.map V.str))->ns.length=m.toNat->(∀x∈ns,NmK x)->ns.Nodup->FeedAt H' f->SameBut f H H'->Q (.ref l) H'):=1
def BU:∀x∈(wordsA++wordsB)++wordsC,∃c∈x.cps.toList,c∉LTR.cps.toList:=by decide
def Jj:∀a b:Fin 20,LTR.cps.toList[a.val]?=LTR.cps.toList[b.val]?->a=b:=by decide
def Gf{ns:List Str}{t:Nat}{u:Int}(g:0<=u)(b:u<20)(hl:ns.length<=6)(h:∀(k:Nat) x,ns[k]?=some x->x.cps.toList[t]?=LTR.cps.toList[((u+7*(k:Int)) % 20).toNat]?):ns.Nodup:=by
 apply List.pairwise_iff_getElem.mpr λi j c d m e=>?_
 let h1:=h i _ (j3 c);let h2:=h j _ (j3 d);rw[e]at h1;let h3:=h1.symm.trans h2;let h4:=Jj %[((u+7*(i:Int)) % 20).toNat|3] ⟨((u+7*(j:Int)) % 20).toNat,#[0]⟩ h3;let h5:=congrArg Fin.val h4;simp only at h5;omega
def KI{ns:List Str}{x:Str}{j:Nat}(h:ns.Nodup)(g:x∉ns):(ns.set j x).Nodup:=by
 apply List.pairwise_iff_getElem.mpr λa b c d m=>?_
 rw[RI]at c d;rw[List.getElem_set,List.getElem_set]
 split
 . split
   . omega
   . intro e;exact g (e▸vr d)
 . split
   . intro e;exact g (e▸vr c)
   . exact List.pairwise_iff_getElem.mp h a b c d m
def LF{α:Type}{l:List α}{i:Int}{v:α}(h0:0<=i)(h:atI l i=some v):l[i.toNat]?=some v:=by
 let b:((i.toNat:Nat):Int)=i:=#[0]
 by_cases c:i.toNat<l.length
 . let q:atI l ((i.toNat:Nat):Int)=some l[i.toNat]:=bd (j3 c);rw[b,h]at q;rw[j3 c];exact q.symm
 . exfalso
   unfold atI ixN at h;rw[Qk h0,Qi #[0]]at h;cases h
def EH{zs:List Str}(h:∀z∈zs,z.length=1/\∀c∈z.cps.toList,c∈LTR.cps.toList):(zs.map (·.length)).sum=zs.length:=by
 induction zs with
 |nil=>rfl
 |cons a r b=>
   rw[nn,t7,b λz d=>h z (pj _ d),(h a mj).1,ij];omega
def b6:FnScope ["_law_feed_here","_law_many","_law_letters","_law_common","_law_at","_law_first","_law_found","_law_k","_law_tail","_law_sign","_law_words"] WF (af cv):=%[|5]
def lV{p:Addr}(F:FeedAt H f)(h:p≠f):FeedAt (upd H p o) f:=by
 erw[x,t,e,r]at F;erw[x,t,by rw[aB (Ne.symm h)];exact e,r]
def Al(F:#["_law_names",cv])(r:mg "range"=none)(a7:#[1,"_law_take",WF,spTake]):#[2,f,fd,WF,spNamesN]:=by
 exists b6
 erw[f,m,1,hF,m0,m6,q]at h;erw[p1,p2,p3,p4,p5,p6,p7,p8,p9,q1,q2,q3,q4,q5,ab]at Ax;rw[ab];refine⟨_,(aa (aj (i:=2) b6.nd rfl (Or.inr rfl) ao)
  (aa (aj (i:=3) b6.nd rfl (.inl rfl) (bZ pu wh w4 eF ao (aJ (bX (N:=["_law_letters","_law_feed_here"]) (ix:=[2,0]) rfl
   #[4] rfl
   (cZ rfl r %[ae|aV])
   (λ_ _ _=>cr (aI tX (pv 1) (ai a7 hr ⋯ rfl %[2,ae|aV]) #[1]))) aV)))
  (aa #[aj,4,b6,ai a7 hr ⋯ rfl %[0,ae|aV]]
  (aa #[aj,5,b6,ai a7 hr ⋯ rfl %[0,ae|aV]]
  (aa #[aj,6,b6,cY aV]
  (aa (cV n7 rfl (cZ rfl r %[1|aV]) (bn (i:=7) b6.nd rfl (.inl rfl)) (aa #[aj,8,b6,ax bp (ai a7 hr ⋯ rfl %[0,ax bz ae (pv 4)|aV]) ae]
   (aa #[aj,9,b6,aI tX (pv 2) (ax bp (ax aU (pv 5) (ax cW ae (pv 7))) ae) #[1]]
   (ac (aQ (bZ qq sk ti ca (pv 6) %[ax gY (ax gY (cR sy (pv 3) eA (dy (pv 4))) (pv 9)) (cR sy (pv 3) (dy (pv 4)) (dy (ax aU (pv 4) (pv 8))))|aV]))))))
  (aa (aG (PW.pt (qi (ag ji (pv 1) ae (aq _)) (oR (ag aP (ai a7 hr ⋯ rfl %[0,ae|aV]) ae (aq _))))) (aa #[aj,10,b6,cY (mx Gj)]
   (aa #[aj,10,b6,ax kM (pv 10) (cY (mx Gi))]
   (aa #[aj,10,b6,ax kM (pv 10) (cY (mx Gh))]
   (ac (oh (aI ix_list (pv 10) (ai a7 hr ⋯ rfl %[0,ae|aV]) #[1]) (tE (pv 6) (ai a7 hr ⋯ rfl %[0,1|aV]) li)))))) au)
  (ac (am (pv 6)))))))))),?_⟩
 erw[1,(5),1,4,4,λD hD=>?_];let Df:=hF.ne hD;let ar:LTR.cps.toList.length=20:=by decide
 apply fw (λi B=>∃zs:List Str,B D=some (.lst (zs.map V.str))/\zs.length=i/\(∀z∈zs,z.length=1/\∀c∈z.cps.toList,c∈LTR.cps.toList)/\FeedAt B f/\SameBut f H B) %[[],by rw[aX];rfl,1,by simp,hF.same (fj hD _)|f4 (fj hD _)] ?_ ?_
 . rintro i H3 hi ⟨zs,hl,zl,z1,F3,S3⟩;let i5:i<5:=hi;erw[0,0,f,(20),1,F3,4,4,λd H4 d0 aH F4 S4=>?_];let%[c,hc|Y]:=pJ (l:=LTR.cps.toList) (i:=d) d0 (by rw[ar];exact aH);let aK:H4 D=some (.lst (zs.map V.str)):=S4 D _ Df hl;erw[_,d,c,1,1,bc ⋯,hc,_,aK,6,Nx.of hi %[zs++[⟨#[c]⟩],6,6,6,lV F4 Df|6]]
   . rw[fx,zl];exact aN (Ro (Nat.lt_trans i5 ⋯))
   . rw[aX,hI];rfl
   . rw[gl,q0,zl]
   . intro z hz;rcases qH0 hz with h | h
     . exact z1 z h
     . rw [Qr h];erw[1,λc' n=>?_]
       have:c'=c:=#[n,0]
       subst this;exact Y
   . intro b o O e;rw[aB (bh e hD)];exact S4 b o O (S3 b o O e)
 rintro H3 ⟨zs,hl,zl,z1,F3,S3⟩;let sl:=EH z1;let a8:zs.length=5:=zl;erw[_,D,zs,1,1,fy hl,⋯,3,6];let jl:(Txt.join "" zs).length=5:=by
  have:=size_glued "" zs
  let e0:(("":Str)).length=0:=by decide
  rw[e0,Nat.mul_zero]at this;show(Builtin.Str.glued "" zs).length=5;omega
 let jc:∀c∈(Txt.join "" zs).cps.toList,c∈LTR.cps.toList:=λc hc=>by
  let%[z,hz|h]:=Dr hc;exact(z1 z hz).2 c h
 generalize Txt.join "" zs=g at jl jc;erw[0,f,(6),1,F3,4,4,λt H4 t0 t6 F4 S4=>?_];erw[0,f,(20),1,F4,4,4,λu H5 u0 aL F5 S5=>?_];erw[y0S,λL hL=>?_];let as:SameBut f H H5:=S3.trans (S4.trans S5);let Lf:=F5.ne hL;let L0:H L=none:=by
  cases e:H L with
  |none=>rfl
  |some o=>rw[as L o Lf e]at hL;cases hL
 refine⟨_,rfl,m,rfl,#[0],#[0],eQ (λi σ B=>∃(x7 x8 x9:Option V)(ns:List Str),σ=[some (.ref f),some (.int m),some (.str LTR),some (.str g),some (.int t),some (.int u),some (.ref L),x7,x8,x9,none]/\B L=some (.lst (ns.map V.str))/\ns.length=i/\(∀x∈ns,NmK x)/\(∀x∈ns,∀c∈x.cps.toList,c∈LTR.cps.toList)/\(∀(k:Nat) x,ns[k]?=some x->x.cps.toList[t.toNat]?=LTR.cps.toList[((u+7*(k:Int)) % 20).toNat]?)/\FeedAt B f/\SameBut f H B)
  %[_,_,_,[],1,by rw[aX];rfl,1,by simp,by simp,by simp,F5.same (fj hL _)|as.trans (f4 (fj hL _))] ?_ ?_⟩
 . rintro i σ H6 hi ⟨x7,x8,x9,ns,rfl,U,nl,J,ah,an,F6,S6⟩;erw[0,0,2,f,0,F6,(Int.sub_pos_of_lt t6),(Int.lt_of_le_of_lt (Int.sub_le_self 6 t0) ⋯),λd H7 d0 d1 F7 S7=>?_];erw[2,(by show(0:Int)<_;decide),6];let%[c,hc|Y]:=pJ (l:=LTR.cps.toList) (i:=(u+7*(0+(i:Int))) % 20) (oa _ ⋯) (by rw[ar];exact pb _ ⋯);erw[0,0,0,2,6,2,2,(by show(0:Int)<_;decide),_,_,c,1,1,bc ⋯,hc,6]
   . exact .inl %[4|4]
   let M:=S7 L _ Lf U;let z1:(Txt.slice g none (some t)).length<=g.length:=Q6 g none (some t);let z2:(Txt.slice g (some t) (some (t+d % 3))).length<=g.length:=Q6 g _ _;let z3:((%[|#[c]]:Str)).length=1:=rfl;erw[0,.inl %[1,_|fy M],6];erw[0,0,0,0,bc (by rw[jl];decide),0,2,bc (by rw[z3];omega),6];erw[0,0,0,0,0,2,0,0,bc (by rw[jl];decide),2,bc (by rw[i0,z3];omega),6];erw[L,2,M,6,6]
   . rw[fx];exact aN #[0]
   erw[_,_,_,ns++[(Txt.slice g none (some t)++%[|#[c]])++Txt.slice g (some t) (some (t+d % 3))],1,6,6,6,6,6,lV F7 Lf,6]
   . rw[aX,hI];rfl
   . rw[gl,q0,nl]
   . intro x C;rcases qH0 C with h | h
     . exact J x h
     . rw [Qr h];let aT:HW ((Txt.slice g none (some t)++%[|#[c]])++Txt.slice g (some t) (some (t+d % 3))):=by
        erw[6,λc' n=>?_,λea=>?_]
        . rw[i0,i0,z3];omega
        rotate_left
        . let av:c∈(((Txt.slice g none (some t)++%[|#[c]])++Txt.slice g (some t) (some (t+d % 3)):Str)).cps.toList:=by
           rw[QR,QR]
           simp
          rw[ea]at av;exact KN c Y ((by decide:∀c∈(("aa":Str)).cps.toList,c=97) c av)
        . rcases mem_append n with h | h
          . rcases mem_append h with h | h
            . exact AE _ (jc _ (iR h))
            . have:c'=c:=#[h,0]
              subst this;exact AE _ Y
          . exact AE _ (jc _ (iR h))
       let cl:g.cps.toList.length=5:=jl;let e1:(Txt.slice g none (some t)).length=t.toNat:=by
        let es:Txt.slice g none (some t)=%[|((g.cps.toList.drop 0).take (t-0).toNat).toArray]:=StrLaws.sliceText_to ⟨t0,#[0]⟩;rw[es];show(((g.cps.toList.drop 0).take (t-0).toNat).toArray).size=_;simp only[Ip,Int.sub_zero,ks,lw];omega
       let e2:(Txt.slice g (some t) (some (t+d % 3))).length<=(d % 3).toNat:=by
        let es:Txt.slice g (some t) (some (t+d % 3))=_:=StrLaws.sliceText_plain %[t0,3|3];rw[es];show(List.toArray _).size<=_;simp only[ks,lw];omega
       erw[aT,6,6,λhk=>?_]
       . rw[i0,i0,z3];omega
       . rw[i0,i0,z3];omega
       . let%[c',n|hn]:=GK _ hk;apply hn ?_;rcases mem_append n with h | h
         . rcases mem_append h with h | h
           . exact jc _ (iR h)
           . have:c'=c:=#[h,0]
             subst this;exact Y
         . exact jc _ (iR h)
   . intro x C c' n;rcases qH0 C with h | h
     . exact ah x h c' n
     . rw [Qr h]at n;rcases mem_append n with h | h
       . rcases mem_append h with h | h
         . exact jc _ (iR h)
         . have:c'=c:=#[h,0]
           subst this;exact Y
       . exact jc _ (iR h)
   . intro k x C
     by_cases ck:k<ns.length
     . rw[Gp ck]at C;exact an k x C
     . let kl:k<(ns++[(Txt.slice g none (some t)++%[|#[c]])++Txt.slice g (some t) (some (t+d % 3))]).length:=(Qs C).1;rw[gl,q0]at kl;let ek:k=i:=#[0]
       subst ek;rw[y1 #[0],nl,Nat.sub_self]at C;let ex:(Txt.slice g none (some t)++%[|#[c]])++Txt.slice g (some t) (some (t+d % 3))=x:=ln C;rw[←ex];let cl:g.cps.toList.length=5:=jl;let es:Txt.slice g none (some t)=⟨((g.cps.toList.drop 0).take (t-0).toNat).toArray⟩:=StrLaws.sliceText_to ⟨t0,#[0]⟩;let el:(Txt.slice g none (some t)).cps.toList.length=t.toNat:=by
        rw[es];simp only[Ip,Int.sub_zero,lw];omega
       let ea:((Txt.slice g none (some t)++%[|#[c]])++Txt.slice g (some t) (some (t+d % 3))).cps.toList=(Txt.slice g none (some t)).cps.toList++([c]++(Txt.slice g (some t) (some (t+d % 3))).cps.toList):=by
        rw[QR,QR]
        simp
       rw[ea,y1 #[0],el,Nat.sub_self];let aw:LTR.cps.toList[((u+7*(0+(k:Int))) % 20).toNat]?=some c:=LF (oa _ ⋯) hc;rw[Q8]at aw;rw[aw];rfl
   . intro b o O e;rw[aB (bh e L0)];exact S7 b o O (S6 b o O e)
 . rintro σ H6 ⟨x7,x8,x9,ns,rfl,U,nl,J,ah,an,F6,S6⟩;let ap:ns.Nodup:=Gf u0 aL #[0] an;erw[0,2,0,6];let fin:∀B:Hp,∀ns:List Str,B L=some (.lst (ns.map V.str))->ns.length=m.toNat->(∀x∈ns,NmK x)->ns.Nodup->FeedAt B f->SameBut f H B->Q (.ref L) B:=λB ns a b c nd d e=>q L ns B L0 Lf a b c nd d e
   by_cases c1:(0:Int)<m
   . apply aW c1 ?_;erw[0,f,(3),1,F6,4,4,λd H7 d0 d1 F7 S7=>?_];erw[1,0,6];let M:=S7 L _ Lf U;apply tY (λ_=>?_) (λ_=>?_)
     . erw[y12S,λl1 h1=>?_];erw[0,y6S,λl2 h2=>?_];erw[l1,l2,wordsA.map V.str,wordsB.map V.str,1,1,fj h2 _ _ _ aX,aX,y18S,λl3 h3=>?_];erw[0,y6S,λl4 h4=>?_];erw[l3,l4,wordsA.map V.str++wordsB.map V.str,wordsC.map V.str,1,1,fj h4 _ _ _ aX,aX,y24S,λl5 h5=>?_];let G:=(fj h1 (.lst (wordsA.map V.str))).trans ((fj h2 (.lst (wordsB.map V.str))).trans ((fj h3 (.lst (wordsA.map V.str++wordsB.map V.str))).trans ((fj h4 (.lst (wordsC.map V.str))).trans (fj h5 (.lst ((wordsA.map V.str++wordsB.map V.str)++wordsC.map V.str))))));let F8:=F7.same G;let n5:=(F7.same ((fj h1 (.lst (wordsA.map V.str))).trans ((fj h2 (.lst (wordsB.map V.str))).trans ((fj h3 (.lst (wordsA.map V.str++wordsB.map V.str))).trans (fj h4 (.lst (wordsC.map V.str))))))).ne h5;erw[0,0,f,(24),1,F8,4,4,λe H9 e0 e1 F9 S9=>?_];let%[v,hv|vm]:=pJ (l:=(wordsA.map V.str++wordsB.map V.str)++wordsC.map V.str) (i:=e) e0 (by
        have:((wordsA.map V.str++wordsB.map V.str)++wordsC.map V.str).length=24:=by rfl
        omega)
       rw[←hI,←hI]at vm;let%[x,C|1]:=List.mem_map.mp vm;erw[l5,_,e,0,1,fy (S9 l5 _ n5 aX),hv,6];erw[0,0,0,f,m,1,F9,c1,3,λj a9 j0 j1 a0 aA=>?_];let aC:=aA L _ Lf (S9 L _ Lf (G L _ M));erw[L,_,j,j.toNat,1,1,aC,6,6]
       . let jl:j<((ns.map V.str).length:Int):=by rw[fx];omega
         unfold ixN;rw[Qk j0,Qk jl]
       erw[0,6];apply fin _ (ns.set j.toNat x) (by rw[aX,List.map_set]) (by rw[RI];exact nl) ?_ ?_ (lV a0 Lf) ?_
       . intro y hy;rcases List.mem_or_eq_of_mem_set hy with h | h
         . exact J y h
         . rw[h];exact Ec x C
       . apply KI ap λY=>?_
         let%[c,c1|c2]:=BU x C;exact c2 (ah x Y c c1)
       . intro b o O e';rw[aB (bh e' L0)];exact aA b o O (S9 b o O (G b o (S7 b o O (S6 b o O e'))))
     . erw[0,6];exact fin H7 ns M nl J ap F7 (S6.trans S7)
   . apply az c1 ?_;apply cz ?_;erw[0,6];exact fin H6 ns U nl J ap F6 S6
def mr{x:Str}:∀{ns:List Str},x∈ns->∃j,iC x ns=some j/\j<ns.length
 | [],h=>by cases h
 |a::r,h=>by
   unfold iC
   by_cases c:a=x
   . erw[(0),by rw[Qk c],by simp]
   . rw [Qi c];rcases Qq h with e | e
     . exact absurd e.symm c
     . let%[j,h1|h2]:=mr e;erw[j+1,by rw[h1];rfl,by simpa using h2]
def ia{a b:Str}(h:V.str a=V.str b):a=b:=by injection h
def kc(p:Int)(o:Str)(x y:Int):Int:=if o="and" then x*y % p else if o="or" then(x+y-x*y) % p else if o="odd" then(x+y-2*(x*y)) % p else(1-(x+y-2*(x*y))) % p
def Tr.worth(ns:List Str)(pt:List Int)(p:Int):Tr->Int
 |.is x=>match iC x ns with | some j=>pt.getD j 0 | none=>0
 |.yes=>1
 |.no=>0
 |.not a=>(1-a.worth ns pt p) % p
 |.bin o a b=>kc p o (a.worth ns pt p) (b.worth ns pt p)
def cw(pt:List Int)(p:Int):Prop:=∀x∈pt,0<=x/\x<p
def DB{p:Int}(c:0<p)(o:Str)(x y:Int):0<=kc p o x y/\kc p o x y<p:=by
 let b:∀z:Int,0<=z % p/\z % p<p:=λz=>%[oa _ #[0]|pb _ c]
 unfold kc
 repeat' split
 all_goals exact b _
def yT{l:List Int}{j:Nat}(h:j<l.length):l.getD j 0=l[j]:=by
 rw[y0,j3 h];rfl
def worth_rng{ns:List Str}{p:Int}(c:1<p)(h:cw pt p)(hl:pt.length=ns.length):∀t:Tr,t.ok ns->0<=t.worth ns pt p/\t.worth ns pt p<p
 |.is x,ok=>by
   let%[j,d|e]:=mr ok;show 0<=(match iC x ns with | some j=>pt.getD j 0 | none=>0)/\(match iC x ns with | some j=>pt.getD j 0 | none=>0)<p;rw[d];show 0<=pt.getD j 0/\pt.getD j 0<p;rw[yT #[0]];exact h _ (vr _)
 |.yes,_=>%[by show(0:Int)<=1;decide|c]
 |.no,_=>%[u6 0|by show(0:Int)<p;omega]
 |.not a,_=>%[oa _ #[0]|pb _ #[0]]
 |.bin o a b,_=>DB #[0] _ _ _
instance spJW:∀(o:Str)(x y p:Int),vs=[.str o,.int x,.int y,.int p]->0<=x->x<p->p<2 ^ 40->Q (.int (kc p o x y)) H:=1
def ic:FnScope ["word","first","second","p","both","odd"] Wl (af jb):=%[|5]
def rC(F:#["joined_worth",jb]):#[1,f,fd,Wl,spJW]:=by
 exists ic
 erw[o,x,y,p,1,m,n,q,k]at h;refine⟨_,(aa #[aj,4,ic,ax cW (pv 1) (pv 2)]
  (aa (aG (ag aP (pv 0) ao (aq _)) (ac (am (ax bp (pv 4) (pv 3)))) au)
  (aa (aG (ag aP (pv 0) ao (aq _)) (ac (am (ax bp (ax bz (ax aU (pv 1) (pv 2)) (pv 4)) (pv 3)))) au)
  (aa #[aj,5,ic,ax bz (ax aU (pv 1) (pv 2)) (ax cW ae (pv 4))]
  (aa (aG (ag aP (pv 0) ao (aq _)) (ac (am (ax bp (pv 5) (pv 3)))) au)
  (ac (am (ax bp (ax bz ae (pv 5)) (pv 3))))))))),?_⟩
 erw[0,0,2,.inl %[3|3],6];erw[0,1,0,6]
 by_cases b:V.str o=V.str "and"
 . apply aW b ?_;let e:kc p o x y=x*y % p:=by unfold kc;rw[Qk (ia b)]
   rw[e]at k;erw[0,0,2,(show(0:Int)<p by omega),k]
 apply az b ?_;let n1:¬ o="and":=λz=>b (by rw[z])
 erw[0,1,0,6]
 by_cases c:V.str o=V.str "or"
 . apply aW c ?_;let e:kc p o x y=(x+y-x*y) % p:=by unfold kc;rw[Qi n1,Qk (ia c)]
   rw[e]at k;erw[0,0,2,0,2,0,2,(show(0:Int)<p by omega),k]
 apply az c ?_;let g:¬ o="or":=λz=>c (by rw[z])
 erw[0,0,2,0,2,.inl %[4|4],2,6];erw[0,1,0,6]
 by_cases d:V.str o=V.str "odd"
 . apply aW d ?_;let e:kc p o x y=(x+y-2*(x*y)) % p:=by unfold kc;rw[Qi n1,Qi g,Qk (ia d)]
   rw[e]at k;erw[0,0,2,(show(0:Int)<p by omega),k]
 apply az d ?_;let j:¬ o="odd":=λz=>d (by rw[z])
 let e:kc p o x y=(1-(x+y-2*(x*y))) % p:=by unfold kc;rw[Qi n1,Qi g,Qi j]
 rw[e]at k;erw[0,2,0,2,(show(0:Int)<p by omega),k]
instance spWorth(n:Nat):∀(v:V)(t:Tr)(a b:Addr)(ns:List Str)(pt:List Int)(p:Int),vs=[v,.ref a,.ref b,.int p]->TreeAt H v t->t.ok ns->t.depth<=n->NamesAt H a ns->H b=some (.tup (pt.map V.int))->pt.length=ns.length->1<p->p<2 ^ 40->cw pt p->Q (.int (t.worth ns pt p)) H:=1
def l8:FnScope ["tree","switches","point","p","word","first"] WW (af ko):=%[|5]
def zu{n:Nat}(F:#["worth_of",ko])(U:#[1,"joined_worth",Wl,spJW])(L:#[n+2,"worth_of",WW,spWorth n]):#[n+3,f,fd,WW,spWorth (n+1)]:=by
 exists l8
 erw[v,t,a,b,ns,pt,p,1,T,ok,M,m,y,B,C,c,po,k]at h;let p0:(0:Int)<p:=#[0]
 refine⟨_,(aa #[aj,4,l8,aI ix_tup (pv 0) ae #[1]]
  (aa (aG (ag aP (pv 4) ao (aq _)) (ac (am (ax bp (aI ix_tup (pv 2) (yi qq PySem.F.plainAttrs_tuple (pv 1) %[aI ix_tup (pv 0) ae #[1]|aV]) #[1]) (pv 3)))) au)
  (aa (aG (ag aP (pv 4) ao (aq _)) (ac (am ae)) au)
  (aa (aG (ag aP (pv 4) ao (aq _)) (ac (am ae)) au)
  (aa #[aj,5,l8,ai L hr (fz _) rfl %[aI ix_tup (pv 0) ae #[1],1,2,3|aV]]
  (aa (aG (ag aP (pv 4) ao (aq _)) (ac (am (ax bp (ax bz ae (pv 5)) (pv 3)))) au)
  (ac (am (ai U hr #[0] rfl %[4,5,ai L hr (fz _) rfl %[aI ix_tup (pv 0) ae #[1],1,2,3|aV],3|aV]))))))))),?_⟩
 cases T with
 | @is q x e=>
   erw[0,q,_,(0),0,1,eS e,1,6];erw[0,1,0,6];apply aW rfl ?_;let%[j,N|jl]:=mr ok;let d:j<pt.length:=#[0]
   erw[0,0,a,ns,1,m,0,q,_,(1),0,1,eS e,1,1,x,j,1,N,b,_,(j:Int),.int pt[j],1,1,eS y,6,0,2,p0,6]
   . apply bd ?_;rw[kv,j3 d];rfl
   . let e1:(Tr.is x).worth ns pt p=pt[j] % p:=by
      show(match iC x ns with | some j=>pt.getD j 0 | none=>0)=_;rw[N];show pt.getD j 0=_;rw[yT d]
      have:=po _ (vr d)
      rw[QH this.1 this.2]
     rw[e1]at k;exact k
 | @yes q e=>
   erw[0,q,_,(0),0,1,eS e,1,6];erw[0,1,0,6];apply az ⋯ ?_;erw[0,1,0,6];exact aW rfl k
 | @no q e=>
   erw[0,q,_,(0),0,1,eS e,1,6];erw[0,1,0,6];apply az ⋯ ?_;erw[0,1,0,6];apply az ⋯ ?_;erw[0,1,0,6];exact aW rfl k
 | @not q u r e D=>
   let dp:r.depth+1<=n+1:=M;erw[0,q,_,(0),0,1,eS e,1,6];erw[0,1,0,6];apply az ⋯ ?_;erw[0,1,0,6];apply az ⋯ ?_;erw[0,1,0,6];apply az ⋯ ?_;erw[0,q,_,(1),0,1,eS e,1,0,0,0,u,r,a,b,ns,pt,p,1,D,ok,3,m,y,B,C,c,po,6];erw[0,1,0,6];apply aW rfl ?_;erw[0,2,0,2,p0,k]
 | @bin q o u Y r r2 e D T2=>
   erw[ho,g,J]at ok;let dp:max r.depth r2.depth+1<=n+1:=M;let ne:∀z:Str,z∉joinW->¬ V.str o=V.str z:=λz hz h=>hz (ia h▸ho)
   erw[0,q,_,(0),0,1,eS e,1,6];erw[0,1,0,6];apply az (ne _ ⋯) ?_;erw[0,1,0,6];apply az (ne _ ⋯) ?_;erw[0,1,0,6];apply az (ne _ ⋯) ?_;erw[0,q,_,(1),0,1,eS e,1,0,0,0,u,r,a,b,ns,pt,p,1,D,g,3,m,y,B,C,c,po,6];erw[0,1,0,6];apply az (ne _ ⋯) ?_;let O:=worth_rng C po B r g;erw[0,0,0,q,_,(2),0,1,eS e,1,0,0,0,Y,r2,a,b,ns,pt,p,1,T2,J,3,m,y,B,C,c,po,6];erw[0,o,_,_,p,1,O.1,O.2,c,k]
def zt:#[2,f,fd,WW,spWorth 0]:=by
 let no:∀vs H Q E,¬ spWorth 0 vs H Q E:=λvs H Q E h=>by
  erw[v,t,_,_,_,_,_,_,_,_,h1,_]at h
  have:=t.depth_pos
  omega
 exists 3
def qP(F:#["worth_of",ko])(m:mg "worth_of"=some (.ref f))(b:#[1,"joined_worth",Wl,spJW]):
 ∀n:Nat,#[n+2,f,fd,WW,spWorth n]
 |0=>zt
 |n+1=>zu F b (Cal.of F (qP F m b n) m (λ_ _ _ _ _ _ us hl=>by let%[c,d,e,g|1]:=Jn hl;rfl))
def fJ{H:Hp}{b:Addr}{ys zs:List V}(h:H b=some (.lst ys)):∀a xs,H a=some (.tup xs)->(upd H b (.lst zs)) a=some (.tup xs):=λa xs e=>by
 rw[aB]
 . exact e
 . intro z;rw[z,h]at e;cases e
def at0(x:V)(xs:List V):atI (x::xs) 0=some x:=bd (j:=0) rfl
def qT{ts:List Tr}{i:Nat}{u:Tr}(h:ts[i]?=some u):jj (ts.take (i+1))=jj (ts.take i)++u.names:=by
 unfold jj;rw[nh,h,hI,List.flatten_append]
 simp
def tQ(ts:List Tr):(jj ts).length<=jT ts:=by
 induction ts with
 |nil=>simp [jj,jT]
 |cons a r b=>
   have:=a.names_len
   simp only[jj,jT,nn,Q0,gl,t7]at b ⊢;omega
def sA(ts:List Tr)(i:Nat):jT (ts.take i)<=jT ts:=by
 induction ts generalizing i with
 |nil=>simp
 |cons a r b=>
   cases i with
   |zero=>simp [jT]
   |succ i=>
     have:=b i
     simp only[jT,List.take_succ_cons,nn,t7]at this ⊢;omega
instance spNO(n:Nat):∀(v:V)(t:Tr),vs=[v]->TreeAt H v t->t.wf->t.depth<=n->t.size<=400->(∀(l:Addr)(H':Hp),H l=none->Same H H'->H' l=some (.lst (t.names.map V.str))->Q (.ref l) H'):=1
def gJ:FnScope ["_law_tree_here","_law_found","_law_part"] WX (af iI):=%[|5]
def Jf{n:Nat}(F:#["_law_names_of",iI])(fX:#[n+2,"_law_names_of",WX,spNO n]):#[n+3,f,fd,WX,spNO (n+1)]:=by
 exists gJ
 erw[v,t,1,T,wf,dn,sz,q]at h;refine⟨_,(aa (aG (ag aP (aI ix_tup (pv 0) ae #[1]) ao (aq _)) (ac (am (cY %[aI ix_tup (pv 0) ae #[1]|aV]))) au)
  (aa #[aj,1,gJ,cY aV]
  (aa (cV n7 rfl (eV (cR wj (pv 0) (dy ae) eA)) (bn (i:=2) gJ.nd rfl (.inl rfl)) (ac #[aj,1,gJ,ax kM (pv 1) (ai fX hr (fz _) rfl %[2|aV])]))
  (ac (am (pv 1)))))),?_⟩
 rcases T.view wf with⟨a,x,rfl,rfl,_,e⟩ | ⟨a,o,xs,rfl,no,y,e,B,C⟩
 . erw[0,a,_,(0),0,1,eS e,1,1,0,6];apply aW rfl ?_;erw[0,a,_,(1),0,1,eS e,1,y1S,λp j=>?_];exact q p _ j (fj j _) aX
 . erw[0,a,_,(0),.str o,1,1,eS e,at0 ..,1,0,6];apply az (λz=>no (by injection z)) ?_;erw[y0S,λL U=>?_];let Y:=fj U (.lst []);let%[c1|c2]:=cut1 (.str o) xs y;erw[0,(1),1,a,0,eS (Y _ _ e),c2,λp j=>?_];rw[c1];let G1:=fj j (.tup xs);let b:upd (upd H L (.lst [])) p (.tup xs) p=some (.tup xs):=aX;let c:upd (upd H L (.lst [])) p (.tup xs) L=some (.lst []):=G1 _ _ aX;let m:Same H (upd (upd H L (.lst [])) p (.tup xs)):=Y.trans G1;generalize upd (upd H L (.lst [])) p (.tup xs)=H1 at b c m;let TS:=B.mono (bw m);let xl:=TS.length;let sp:=t.size_parts;erw[p,1,%[_|eS b],rS (K:=K) (xs:=xs) (λi σ D=>∃(M:Addr)(J:Option V),σ=[some (.ref a),some (.ref M),J]/\H M=none/\D M=some (.lst ((jj (t.parts.take i)).map V.str))/\Same H1 D) %[L,0,U,c|Same.refl _] (λi σ D _ Qn=>by erw[_,_,_,_,_,h]at Qn;exact eS (h _ _ b)) ?_ ?_]
   . rintro i x σ H2 hx ⟨M,J,rfl,M0,hM,d⟩;let%[u,hu|Tu]:=TS.get hx;let um:=lr hu;let%[uw,ud|us]:=Tr.parts_mem um wf;erw[0,0,x,u,1,Tu.mono (bw d),uw,3,3,λl H3 l0 N O=>?_];let nl:=u.names_len;let ab:=tQ (t.parts.take i);let ah:=sA t.parts i;erw[M,l,2,N _ _ hM,O,6,λr g=>?_]
     . rw[fx,fx];exact bc #[0]
     . let S4:=(d.trans N).trans (fj g (.lst ((jj (t.parts.take i)).map V.str++u.names.map V.str)));erw[r,0,(m.trans (d.trans N)).free g,6,S4];rw[aX,qT hu,hI]
   . rintro σ H2 ⟨M,J,rfl,M0,hM,d⟩;rw[xl,mu,←t.names_parts C]at hM;erw[0,q M H2 M0 (m.trans d) hM]
def Je:#[2,f,fd,WX,spNO 0]:=by
 let no:∀vs H Q E,¬ spNO 0 vs H Q E:=λvs H Q E h=>by
  erw[v,t,_,_,_,h1,_]at h
  have:=t.depth_pos
  omega
 exists 3
def mX(F:#["_law_names_of",iI])(m:mg "_law_names_of"=some (.ref f)):
 ∀n:Nat,#[n+2,f,fd,WX,spNO n]
 |0=>Je
 |n+1=>Jf F (Cal.of F (mX F m n) m (λ_ _ _ _ _ _ us hl=>by let%[b|1]:=Dv hl;rfl))
def uh(ns:List Str)(z:Str):((ns.map V.str).countP λy=>eqV y (.str z))=ns.count z:=by
 rw[List.countP_map];rfl
instance spNeed:∀(a b:Addr)(ns:List Str)(tv:List V)(ts:List Tr),vs=[.ref a,.ref b]->H a=some (.lst (ns.map V.str))->H b=some (.lst tv)->TreesAt H tv ts->ts.length<=10->(∀t∈ts,t.wf/\t.depth<=10/\t.size<=400)->(∀(m:Int)(H':Hp),Same H H'->2<=m->m<=400->(ts.length:Int)<=m+1->(∀t∈ts,∀x∈ns,(t.names.count x:Int)<=m)->Q (.int m) H'):=1
def gU:FnScope ["_law_names_here","_law_trees","_law_need_here","_law_tree_here","_law_found","_law_name"] Wy (af sI):=%[|5]
def CT(F:#["_law_need",sI])(o:mg "len"=none)(d:mg "max"=none)(fX:#[12,"_law_names_of",WX,spNO 10]):#[13,f,fd,Wy,spNeed]:=by
 exists gU
 erw[a,b,ns,M,ts,1,ha,N,TS,tl,tok,q]at h;refine⟨_,(aa #[aj,2,gU,aE (qD rfl) rfl d Rc %[ae,ax bz (aE aD rfl o hR %[1|aV]) ae|aV]]
  (aa (cV n7 rfl (eC (pv 1)) (bn (i:=3) gU.nd rfl (.inl rfl)) (aa #[aj,4,gU,ai fX hr ⋯ rfl %[3|aV]]
   (ac (cV n7 rfl (eC (pv 0)) (bn (i:=5) gU.nd rfl (.inl rfl)) (ac #[aj,2,gU,aE (qD rfl) rfl d Rc %[2,bZ qq PySem.F.slot_list_count PySem.F.type_list_count yE (pv 4) %[5|aV]|aV]])))))
  (ac (am (pv 2))))),?_⟩
 let vl:=TS.length;erw[0,b,0,.inl (fy N),2,_,0,6];obtain⟨m,em,m2,r,mt⟩:∃m:Int,(if((M.length:Int)-1)>2 then((M.length:Int)-1)else 2)=m/\2<=m/\m<=400/\(ts.length:Int)<=m+1:=⟨_,rfl,by split <;> omega,by split <;> omega,by split <;> omega⟩
 rw [em];refine⟨_,rfl,b,rfl,%[_|fy N],lU (K:=K) (xs:=M) (λi σ B=>∃(m:Int)(O U x5:Option V),σ=[some (.ref a),some (.ref b),some (.int m),O,U,x5]/\2<=m/\m<=400/\(ts.length:Int)<=m+1/\(∀t∈ts.take i,∀x∈ns,(t.names.count x:Int)<=m)/\Same H B)
  %[m,_,_,0,m2,r,mt,by simp|Same.refl _] (λi σ B _ Y=>by erw[_,_,_,_,_,_,_,_,_,h]at Y;exact fy (h _ _ N)) ?_ ?_⟩
 . rintro i v σ H1 hv ⟨m,O,U,x5,rfl,m2,r,mt,D,J⟩;let%[t,ht|T]:=TS.get hv;let tm:=lr ht;let%[tw,td|tz]:=tok t tm;erw[0,v,t,1,T.mono (bw J),tw,3,tz,λl H2 l0 S2 hl=>?_];let g:=J.trans S2;let tn:=t.names_len;refine⟨_,rfl,a,rfl,%[_|fy (g _ _ ha)],lU (K:=K) (xs:=ns.map V.str) (λj σ B=>∃(n:Int)(x5:Option V),σ=[some (.ref a),some (.ref b),some (.int n),some v,some (.ref l),x5]/\m<=n/\n<=400/\(∀x∈ns.take j,(t.names.count x:Int)<=n)/\B=H2)
    %[m,0,u6 _,r,by simp|1] (λj σ B _ Y=>by erw[_,_,_,_,_,_,h]at Y;subst h;exact fy (g _ _ ha)) ?_ ?_⟩
   . rintro j y σ H3 hy ⟨n,y5,rfl,mm,C,c,rfl⟩;rw[kv]at hy;let%[x,L|1]:=qs hy;erw[0,0,.inl %[1,_|fy hl],0,l,2,fy hl,iS _,1,_,0,6];rw[uh];let cl:=Sh (a:=x) (l:=t.names);erw[_,0,by split <;> omega,by split <;> omega,λz hz=>?_,1];rw[nh,L]at hz;rcases qH0 hz with h | h
     . have:=c z h
       split <;> omega
     . let e:z=x:=#[h,0]
       subst e
       split <;> omega
   . rintro σ H3 ⟨n,y5,rfl,mm,C,c,rfl⟩;rw[fx,mu]at c;erw[n,_,_,0,3,C,3,λu hu x L=>?_,g];rw[nh,ht]at hu;rcases qH0 hu with h | h
     . have:=D u h x L
       omega
     . let e:u=t:=#[h,0]
       subst e;exact c x L
 . rintro σ H1 ⟨m,O,U,x5,rfl,m2,r,mt,D,J⟩;rw[vl,mu]at D;erw[0,q m H1 J m2 r mt D]
instance spPrimeB:∀n:Int,vs=[.int n]->(∀b:Bool,(b=true↔Pr n)->Q (.bl b) H):=1
def rJ:FnScope ["_law_number","_law_k"] ["_law_number"] (af kC):=%[|5]
def uG(F:#["_law_is_prime",kC])(b:mg "range"=none):#[1,f,fd,["_law_number"],spPrimeB]:=by
 exists rJ
 erw[n,1,q]at h;refine⟨_,(aa (aG (ag dX (pv 0) ae (aq _)) (ac (am jz)) au)
  (aa (cV n7 rfl (ql rfl b %[ae,ae|aV]) (bn (i:=1) rJ.nd rfl (.inl rfl)) (aa (aG (ag ji (ax cW (pv 1) (pv 1)) (pv 0) (aq _)) (ac (am jz)) au)
   (ac (aG (ag aP (ax bp (pv 0) (pv 1)) ae (aq _)) (ac (am jz)) au))))
  (ac (am jz)))),?_⟩
 erw[0,2,0,6];apply tY (λc=>?_) (λc=>?_)
 . let r:=CS c;exact q false %[λz=>(nomatch z)|λz=>by have:=z.1;omega]
 let r:¬ n<2:=Sn (Bool.eq_false_iff.mpr c);erw[(2),(1001),1,%[4,4,4|4],eQ (λi σ d=>∃x,σ=[some (.int n),x]/\d=H/\qE n (2+(i:Int))) %[0,1|by simpa using zw n] ?_ ?_]
 . rintro i σ d t ⟨x,rfl,rfl,u⟩;let v:i<999:=t;erw[0,0,2,.inl %[3|3],0,2,0,6];apply tY (λg=>?_) (λg=>?_)
   . let o:=CS g;exact q true %[λ_=>Kw #[0] #[0] u o|λ_=>rfl]
   . let o:=Sn (Bool.eq_false_iff.mpr g);erw[0,0,2,(show(0:Int)<2+(i:Int) by omega),1,0,6];apply tY (λj=>?_) (λj=>?_)
     . let m:=V.int.inj (CS j);exact q false %[λz=>(nomatch z)|λz=>(Ku #[0] #[0] #[0] m z).elim]
     . let m:=Sn (Bool.eq_false_iff.mpr j);erw[0,1,6];let e:(2:Int)+((i+1:Nat):Int)=2+(i:Int)+1:=#[0]
       rw[e];exact BY u #[0] (λz=>m (congrArg V.int z))
 . rintro σ d ⟨x,rfl,rfl,u⟩;exact q true %[λ_=>Kx #[0] u|λ_=>rfl]
instance spFieldL:∀(f:Addr)(m:Int),vs=[.ref f,.int m]->FeedAt H f->2<=m->m<=400->(∀(p:Int)(H':Hp),Pr p->m<p->p<=999983->FeedAt H' f->SameBut f H H'->Q (.int p) H'):=1
def zX{f:Addr}{m fm:Int}{D:Ends}{H:Hp}(hD:∀p:Int,Pr p->m<p->p<=999983->D.nx [some (.ref f),some (.int m),some (.int fm),some (.int p)] H)(n:Int)(h1:m<n)(h2:n<=999983):
 Ew (tNot (tB (mN spPrimeB [] E0 (qH (tVar 3) Ck)))) (ED (tOp (Qv λi j=>V.int (i+j)) (tVar 3) (tC (V.int 1))) (yU 3)) D [some (.ref f),some (.int m),some (.int fm),some (.int n)] H:=by
 erw[λc σ d=>∃n:Int,σ=[some (.ref f),some (.int m),some (.int fm),some (.int n)]/\d=H/\m<n/\n<=999983/\c=(999983-n).toNat,%[2,h1,h2|1],6];rintro c σ d ⟨n,rfl,rfl,n0,n1,rfl⟩;erw[0,n,1,λb e=>%[b,1|6]];cases b with
 |true=>exact cz (hD n (e.mp rfl) n0 n1)
 |false=>
   apply dZ ?_;erw[_,λ_ _ h=>h,6];let ne:n≠999983:=λz=>by
    subst z;exact nomatch e.mpr CI
   erw[0,2,6];erw[_,3,n+1,1,1,3,3,1]
def f9:FnScope ["_law_feed_here","_law_need_here","_law_form","_law_number"] Wz (af pY):=%[|5]
def Am(F:#["_law_field",pY])(c:#[1,"_law_take",WF,spTake])(t:#[1,"_law_is_prime",["_law_number"],spPrimeB]):#[2,f,fd,Wz,spFieldL]:=by
 exists f9
 erw[f,m,1,u,m2,D,q]at h;refine⟨_,(aa #[aj,2,f9,ai c hr ⋯ rfl %[0,ae|aV]]
  (aa #[aj,3,f9,ax aU (pv 1) ae]
  (aa (aG (ag aP (pv 2) ae (aq _)) (ac #[aj,3,f9,ax aU (ax aU (pv 1) ae) (ai c hr ⋯ rfl %[0,ae|aV])]) au)
  (aa (aG (ag aP (pv 2) ae (aq _)) (ac #[aj,3,f9,ax aU (ax aU (pv 1) ae) (ai c hr ⋯ rfl %[0,ax bz ae (pv 1)|aV])]) au)
  (aa (jX n7 (dO (di (ai t hr ⋯ rfl %[3|aV]))) (ac #[aj,3,f9,ax aU (pv 3) ae]))
  (ac (am (pv 3)))))))),?_⟩
 erw[0,f,(4),1,u,4,4,λfm J _ _ j n=>?_];erw[0,2,6];erw[0,1,0,6];apply tY (λv=>?b1) (λv=>?b2)
 case' b1=>
  erw[0,2,0,f,(60),1,j,4,4,λd L x d1 e y=>?_];erw[2,6];let g:=n.trans y;let n1:m<m+1+d:=#[0]
  let b:m+1+d<=999983:=#[0]
 case' b2=>
  let e:=j;let g:=n;let n1:m<m+1:=#[0]
  let b:m+1<=999983:=#[0]
 all_goals
  erw[0,1,0,6];apply tY (λz=>?_) (λz=>?_);erw[0,2,0,0,2,f,0,e,(show(0:Int)<999983-m by omega),(show(999983:Int)-m<2 ^ 63 by omega),λd M x d1 o B=>?_];erw[2,6];let r:=g.trans B;clear n1 b;let n1:m<m+1+d:=#[0]
  let b:m+1+d<=999983:=by
   have:d<999983-m:=d1
   omega
  rotate_left
  let o:=e;let r:=g
  rotate_left
  all_goals
   apply zX (λp C mp p9=>?_) _ n1 b;erw[0,q p _ C mp p9 o r]
inductive spGame(vs:List V)(H:Hp)(Q:VK)(Qj:XK):Prop
 |mk:∀(f:Addr)(most room:Int),vs=[.ref f,.int most,.int room]->FeedAt H f->0<=most->most<=6->1<=room->room<=30->(∀(g a b:Addr)(ns:List Str)(tv:List V)(ts:List Tr)(p:Int)(H':Hp),H' g=some (.tup [.ref a,.ref b,.int p])->H' a=some (.tup (ns.map V.str))->(ns.length:Int)<=most->(∀x∈ns,NmK x)->ns.Nodup->H' b=some (.tup tv)->TreesAt H' tv ts->1<=ts.length->ts.length<=4 ->
   (∀t∈ts,t.ok ns/\t.depth<=9/\(t.size:Int)<=room)->Pr p->2<p->p<=999983->(ts.length:Int)<=p->(∀t∈ts,∀x∈ns,(t.names.count x:Int)<p)->FeedAt H' f->SameBut f H H'->Q (.ref g) H')->spGame vs H Q Qj
def mB{m:Int}(h0:0<=m)(h6:m<=6):(0:Int)<m+1/\m+1<2 ^ 63:=#[0]
def zB{z:Int}(h0:1<=z)(h6:z<=4):-(2 ^ 62)<=z/\z<2 ^ 62:=#[0]
def rB{r:Int}(h0:1<=r)(h6:r<=30):0<r/\r<2 ^ 63:=#[0]
def eB{e r:Int}(h0:0<=e)(h1:e<r)(h6:r<=30):(1:Int)<=1+e/\(1:Int)+e<=100:=#[0]
def lq:FnScope ["_law_feed_here","_law_most","_law_room","_law_names_here","_law_many","_law_trees"] W0 (af sK):=%[|5]
def CV(F:#["_law_game",sK])(C:mg "range"=none)(d:mg "tuple"=none)(a7:#[1,"_law_take",WF,spTake])(gV:#[2,"_law_names",WF,spNamesN])
 (gK:#[12,"_law_tree",WV,spTree 10])(J5:#[13,"_law_need",Wy,spNeed])(ul:#[2,"_law_field",Wz,spFieldL]):#[14,f,fd,W0,spGame]:=by
 exists lq
 erw[f,most,U,1,hF,m0,m6,r1,J,q]at h;refine⟨_,(aa (aj (i:=3) lq.nd rfl (Or.inr rfl) (ai gV hr ⋯ rfl %[0,ai a7 hr ⋯ rfl %[0,ax aU (pv 1) ae|aV]|aV]))
  (aa #[aj,4,lq,aI ix_list (cY %[ae,ae,ae,ae,ae,ae|aV]) (ai a7 hr ⋯ rfl %[0,ae|aV]) #[1]]
  (aa (rM (i:=5) (N:=["_law_room","_law_names_here","_law_feed_here"]) (ix:=[2,3,0]) lq.nd rfl (.inl rfl) rfl
   (CompScope.three (by rfl') ⋯ rfl ⋯ rfl ⋯ rfl (by rfl') (by rfl') (by rfl') (by rfl') (by rfl') rfl rfl (by rfl') rfl rfl (by rfl') rfl rfl) rfl
   (cZ rfl C %[4|aV])
   (λ_ _ _=>cr (ai gK hr ⋯ rfl %[3,2,ax aU ae (ai a7 hr ⋯ rfl %[3,1|aV]),ae|aV])))
  (ac (am (aO %[aR aY rfl d bq %[3|aV],aR aY rfl d bq %[5|aV],ai ul hr ⋯ rfl %[0,ai J5 hr ⋯ rfl %[3,5|aV]|aV]|aV])))))),?_⟩
 erw[0,0,0,2,f,0,hF,(mB m0 m6).1,(mB m0 m6).2,λmk H1 k0 k7 F1 S1=>?_];erw[f,mk,1,F1,k0,3,λY ns H2 bf L av bg ah aw F2 S2=>?_];let aA:=S1.trans S2;erw[y6S,λl hl=>?_];let lf:=F2.ne hl;let G2:=fj hl (.lst [.int 1,.int 1,.int 1,.int 2,.int 3,.int 4]);erw[0,f,(6),1,F2.same G2,4,4,λj H3 j0 j6 F3 S3=>?_];let aC:=S3 l _ lf aX;let%[x,hx|xm]:=pJ (l:=[V.int 1,V.int 1,V.int 1,V.int 2,V.int 3,V.int 4]) (i:=j) j0 (by show j<6;omega);obtain⟨z,rfl,z0,z4⟩:∃z:Int,x=.int z/\1<=z/\z<=4:=by
  simp only[List.mem_cons,List.not_mem_nil,or_false]at xm;rcases xm with h | h | h | h | h | h <;> erw[_,h,4,4]
 erw[l,_,2,fy aC,hx,6];let an:SameBut f H2 H3:=(f4 G2).trans S3;let y:=an Y _ L av;let aH:=aA.trans an;let aK:ns.length<=6:=#[0]
 erw[0,z,1,(zB z0 z4).1,(zB z0 z4).2,λD hD=>?_];let Df:=F3.ne hD;let nD:Y≠D:=bh y hD;let GD:=fj hD (.lst []);apply fw (λi H'=>∃(B:List V)(ts:List Tr),H' D=some (.lst B)/\TreesAt H' B ts/\ts.length=i/\(∀t∈ts,t.ok ns/\t.depth<=9/\(t.size:Int)<=U)/\FeedAt H' f/\SameBut f H3 H') %[[],[],aX,.nil,1,(λt M=>by cases M),F3.same GD|f4 GD] ?_ ?_
 . rintro i H4 hi ⟨B,ts,O,TS,tl,tok,F4,S4⟩;let bi:i<z.toNat:=hi;let n:=S4 Y _ L y;erw[0,0,0,0,f,U,1,F4,(rB r1 J).1,(rB r1 J).2,λe H5 e0 e1 F5 S5=>?_];let ap:=S5 Y _ L n;erw[2,f,Y,_,_,ns,1,F5,.inl ap,aK,(eB e0 e1 J).1,(eB e0 e1 J).2,4,4,λv t H6 F6 S6 T6 aL aT a0=>?_];let ab:=S5.trans S6;let ar:=ab D _ Df O;let a8:=bj F4 ab;let vl:=TS.length;erw[_,ar,aN #[0],Nx.of hi ⟨B++[v],ts++[t],aX,?_,?_,?_,lV F6 Df,?_⟩]
   . let k:=fJ (H:=H6) (b:=D) (ys:=B) (zs:=B++[v]) ar;exact((TS.mono a8).mono k).append (.cons (T6.mono k) .nil)
   . rw[gl,q0,tl]
   . intro u hu;rcases qH0 hu with h | h
     . exact tok u h
     . rw[Qr h];let d9:(t.depth:Int)<=9:=a0;let s9:(t.size:Int)<=1+e:=aT;erw[aL,3,3]
   . intro b o hb eb;rw[aB (bh eb hD)];exact ab b o hb (S4 b o hb eb)
 . rintro H4 ⟨B,ts,O,TS,tl,tok,F4,S4⟩;let n:=S4 Y _ L y;let bm:ts.length=z.toNat:=tl;let a9:1<=ts.length:=#[0]
   let as:ts.length<=4:=#[0]
   erw[0,Y,0,.inl %[fy n|λa ha=>?_]];let Ga:=fj ha (.tup (ns.map V.str));erw[0,D,0,.inl %[fy (Ga _ _ O)|λb hb=>?_]];let Gb:=fj hb (.tup B);let r:=Ga.trans Gb;let bb:∀t∈ts,t.wf:=λt M=>Tr.ok_wf (λx hx=>(ah x hx).1) t (tok t M).1
   erw[0,0,0,Y,D,ns,B,ts,1,r _ _ n,r _ _ O,TS.mono (bw r),hQ as ⋯,λt M=>%[bb t M,hQ (tok t M).2.1 ⋯|by have:=(tok t M).2.2;omega],λm H5 S5 m2 m4 mt mc=>?_];let F5:=(F4.same r).same S5;erw[f,m,1,F5,m2,m4,λp H6 pp mp p9 F6 S6=>?_];erw[y3S,λg hg=>?_];let Gg:=fj hg (.tup [.ref a,.ref b,.int p]);let k6:bO (upd (upd H4 a (.tup (ns.map V.str))) b (.tup B)) (upd H6 g (.tup [.ref a,.ref b,.int p])):=λc ys h=>Gg _ _ (bj F5 S6 _ _ (S5 _ _ h))
   apply q g a b ns B ts p _ aX (k6 _ _ (Gb _ _ aX)) #[0] ah aw (k6 _ _ aX) ((TS.mono (bw r)).mono k6) a9 as tok pp #[0] p9 #[0] (λt M x hx=>by have:=mc t M x hx;omega) (F6.same Gg) ?_;exact aH.trans (S4.trans ((f4 (r.trans S5)).trans (S6.trans (f4 Gg))))
instance spWithin:∀(v:V)(t:Tr),vs=[v]->TreeAt H v t->t.wf->(∀(p:Addr)(xs:List V)(H':Hp),Same H H'->H' p=some (.tup xs)->TreesAt H' xs t.parts->Q (.ref p) H'):=1
def re:FnScope WC WC (af iY):=%[|5]
def rj(F:#["trees_within",iY]):#[1,f,fd,WC,spWithin]:=by
 exists re
 erw[v,t,1,T,wf,q]at h;refine⟨_,(aa (aG (ag aP (aI ix_tup (pv 0) ae #[1]) ao (aq _)) (ac (am (aO aV))) au)
  (ac (am (cR wj (pv 0) (dy ae) eA)))),?_⟩
 rcases T.view wf with⟨a,x,rfl,rfl,_,e⟩ | ⟨a,o,xs,rfl,no,c,e,TS,_⟩
 . erw[0,a,_,(0),0,1,eS e,1,1,0,6];apply aW rfl ?_;erw[y0S,λp b=>?_];exact q p [] _ (fj b _) aX .nil
 . erw[0,a,_,(0),.str o,1,1,eS e,at0 ..,1,0,6];apply az (λz=>no (by injection z)) ?_;let%[d|g]:=cut1 (.str o) xs c;erw[0,(1),1,a,0,eS e,g,λp b=>?_];rw[d];exact q p xs _ (fj b _) aX (TS.mono (bw (fj b _)))
instance spNamesIn(n:Nat):∀(v:V)(t:Tr),vs=[v]->TreeAt H v t->t.wf->t.depth<=n->t.size<=400->(∀(l:Addr)(H':Hp),H l=none->Same H H'->H' l=some (.lst (t.names.map V.str))->Q (.ref l) H'):=1
def l9:FnScope ["tree","names","part"] WC (af ky):=%[|5]
def Aw{n:Nat}(F:#["names_in",ky])(bi:#[1,"trees_within",WC,spWithin])(d8:#[n+2,"names_in",WC,spNamesIn n]):#[n+3,f,fd,WC,spNamesIn (n+1)]:=by
 exists l9
 erw[v,t,1,T,wf,dn,sz,q]at h;refine⟨_,(aa (aG (ag aP (aI ix_tup (pv 0) ae #[1]) ao (aq _)) (ac (am (cY %[aI ix_tup (pv 0) ae #[1]|aV]))) au)
  (aa #[aj,1,l9,cY aV]
  (aa (cV n7 rfl (eV (ai bi hr #[0] rfl %[0|aV])) (bn (i:=2) l9.nd rfl (.inl rfl)) (ac (aQ (bZ qq PySem.F.slot_list_extend PySem.F.type_list_extend Dp (pv 1) %[ai d8 hr (fz _) rfl %[2|aV]|aV]))))
  (ac (am (pv 1)))))),?_⟩
 let ab:=wf;rcases T.view wf with⟨a,x,rfl,rfl,_,e⟩ | ⟨a,o,ah,rfl,no,an,e,_,j⟩
 . erw[0,a,_,(0),0,1,eS e,1,1,0,6];apply aW rfl ?_;erw[0,a,_,(1),0,1,eS e,1,y1S,λp c=>?_];exact q p _ c (fj c _) aX
 . erw[0,a,_,(0),.str o,1,1,eS e,at0 ..,1,0,6];apply az (λz=>no (by injection z)) ?_;erw[y0S,λL m=>?_];let J:=fj m (.lst []);erw[0,_,t,1,T.mono (bw J),wf,λp xs M N c TS=>?_];let d:M L=some (.lst []):=N _ _ aX;let pL:p≠L:=λz=>by rw[z,d]at c;cases c
   let xl:=TS.length;let sp:=t.size_parts;erw[p,1,%[_|eS c],rS (K:=K) (xs:=xs) (λi σ r=>∃y,σ=[some (.ref a),some (.ref L),y]/\r L=some (.lst ((jj (t.parts.take i)).map V.str))/\SameBut L M r) %[0,d|SameBut.refl _ _] (λi σ r _ Qn=>by erw[_,_,_,h]at Qn;exact eS (h _ _ pL c)) ?_ ?_]
   . rintro i x σ B hx ⟨y,rfl,hl,g⟩;let%[u,O|Tu]:=TS.get hx;let um:=lr O;let%[uw,ud|us]:=Tr.parts_mem um wf;let C:TreeAt B x u:=Tu.mono λb ys h=>g b _ (λz=>by rw[z,d]at h;cases h) h
     erw[0,.inl %[1,_|fy hl],0,x,u,1,C,uw,3,3,λl H3 l0 U D=>?_];let nl:=u.names_len;let ap:=tQ (t.parts.take i);let ar:=sA t.parts i;erw[L,l,2,U _ _ hl,D,6,6]
     . rw[fx,fx];exact bc #[0]
     erw[0,6,λb o Y h=>?_]
     . rw[aX,qT O,hI]
     . rw[aB Y];exact U _ _ (g _ _ Y h)
   . rintro σ B ⟨y,rfl,hl,g⟩;rw[xl,mu,←t.names_parts j]at hl;erw[0,6];apply q L B m (λb o h=>?_) hl;exact g b o (bh h m) (N _ _ (J _ _ h))
def Av:#[2,f,fd,WC,spNamesIn 0]:=by
 let no:∀vs H Q E,¬ spNamesIn 0 vs H Q E:=λvs H Q E h=>by
  erw[v,t,_,_,_,h1,_]at h
  have:=t.depth_pos
  omega
 exists 3
def qR(F:#["names_in",ky])(m:mg "names_in"=some (.ref f))(b:#[1,"trees_within",WC,spWithin]):
 ∀n:Nat,#[n+2,f,fd,WC,spNamesIn n]
 |0=>Av
 |n+1=>Aw F b (Cal.of F (qR F m b n) m (λ_ _ _ _ _ _ us hl=>by let%[c|1]:=Dv hl;rfl))
instance spField:∀n:Int,vs=[.int n]->n<=999999->(∀b:Bool,(b=true↔2<n/\Pr n)->Q (.bl b) H):=1
def ma:FnScope ["number","divisor"] ["number"] (af nZ):=%[|5]
def yy(F:#["is_field",nZ]):#[1,f,fd,["number"],spField]:=by
 exists ma
 erw[n,1,j,q]at h;refine⟨_,(aa (aG (PW.pt (eO (ag dX (pv 0) ae (aq _)) (dL (ag aP (ax bp (pv 0) ae) ae (aq _))))) (ac (am jz)) au)
  (aa #[aj,1,ma,ae]
  (aa (jX n7 (ag vv (ax cW (pv 1) (pv 1)) (pv 0) (aq _)) (aa (aG (ag aP (ax bp (pv 0) (pv 1)) ae (aq _)) (ac (am jz)) au)
   (ac #[aj,1,ma,ax aU (pv 1) ae])))
  (ac (am jz))))),?_⟩
 erw[0,2,0,6]
 by_cases c:n<3
 . apply aW c ?_;apply dZ ?_;exact q false %[λz=>(nomatch z)|λz=>#[0]]
 apply az c ?_;erw[0,2,(by show(0:Int)<_;decide),1,0,6]
 by_cases e:n % 2=0
 . apply aW (congrArg V.int e) ?_;exact q false %[λz=>(nomatch z)|λz=>absurd z.2 (DJ e #[0])]
 apply az (λz=>e (V.int.inj z)) ?_;erw[λm σ o=>∃d:Int,σ=[some (.int n),some (.int d)]/\o=H/\3<=d/\d<=1001/\d % 2=1/\zq n d/\m=(n+3-d).toNat,%[_,(3),1,1,3,3,3,Dk n|1],6];rintro m σ o ⟨d,rfl,rfl,d3,r,d2,u,rfl⟩;erw[0,0,2,.inl %[3|3],0,2,0,6]
 by_cases b:d*d<=n
 . apply aW b ?_;let r1:=zE j d3 b;let r2:=IJ d3 b;erw[_,λ_ _ h=>h,6];erw[0,0,2,(show 0<d by omega),1,0,6]
   by_cases g:n % d=0
   . apply aW (congrArg V.int g) ?_;exact q false %[λz=>(nomatch z)|λz=>absurd z.2 (DI j d3 b g)]
   apply az (λz=>g (V.int.inj z)) ?_;erw[0,2,6];erw[_,3,d+2,1,1,3,3,3,FW u d2 g,1]
 . apply az b ?_;exact q true %[λ_=>%[3|DH #[0] e d3 u #[0]]|λ_=>rfl]
abbrev wE:Stmt:=bK wF 0
abbrev zR:Stmt:=bK wF 1
abbrev sO:Stmt:=bK wF 2
abbrev sP:Stmt:=bK wF 3
def gf(a b:Addr)(p:Int)(d:Addr):List (Str×V):=cQ "degrees" (.ref d) (cQ "field" (.int p) (cQ "trees" (.ref b) (cQ "switches" (.ref a) [])))
def qW(a b:Addr)(p:Int)(d:Addr):(gf a b p d).lookup ("switches":Str)=some (.ref a):=by
 unfold gf;rw[ay,Qi ⋯,ay,Qi ⋯,ay,Qi ⋯,ay,Qk rfl]
def pF(a b:Addr)(p:Int)(d:Addr):(gf a b p d).lookup ("trees":Str)=some (.ref b):=by
 unfold gf;rw[ay,Qi ⋯,ay,Qi ⋯,ay,Qk rfl]
def jD(a b:Addr)(p:Int)(d:Addr):(gf a b p d).lookup ("field":Str)=some (.int p):=by
 unfold gf;rw[ay,Qi ⋯,ay,Qk rfl]
def He(a b:Addr)(p:Int)(d:Addr):(gf a b p d).lookup ("degrees":Str)=some (.ref d):=by
 unfold gf;rw[ay,Qk rfl]
def vG(a b:Addr)(p:Int)(d:Addr){m:Str}(h1:¬ m="degrees")(h2:¬ m="field")(h3:¬ m="trees")(h4:¬ m="switches"):(gf a b p d).lookup m=none:=by
 unfold gf;rw[ay,Qi h1,ay,Qi h2,ay,Qi h3,ay,Qi h4]
 all_goals rfl
structure GTxt(K:W.Frag)(mg:#[9])(C:Addr):Prop where
 cl:Cls K C
 nS:NoAttr K C "switches"
 nT:NoAttr K C "trees"
 nF:NoAttr K C "field"
 nD:NoAttr K C "degrees"
 mgC:mg "Game"=some (.ref C)
def zo(g:Nat->Int):∀n,∃k,k<=n/\fK g n=g k
 |0=>%[(0),fz _|1]
 |n+1=>by
   let%[k,b|e]:=zo g n;unfold fK
   split
   . erw[n+1,fz _,1]
   . erw[k,3,e]
def lR{ns:List Int}(h:ns≠[]):Gs ns 0∈ns:=by
 cases ns with
 |nil=>exact absurd rfl h
 |cons a r=>
   let%[k,b|e]:=zo (λi=>(a::r)[i]?.getD 0) ((a::r).length-1);let e1:Gs (a::r) 0=fK (λi=>(a::r)[i]?.getD 0) ((a::r).length-1):=rfl;let hl:k<(a::r).length:=by
    rw[ij]at b ⊢;omega
   rw[e1,e];show(a::r)[k]?.getD 0∈a::r;rw[j3 hl];exact vr hl
def cj(ts:List Tr)(x:Str):Int:=Gs (ts.map λt=>(t.names.count x:Int)) 0
def ug{ts:List Tr}{x:Str}{p:Int}(h0:ts≠[])(h:∀t∈ts,(t.names.count x:Int)<p):cj ts x<p:=by
 have:=lR (ns:=ts.map λt=>(t.names.count x:Int)) #[h0,0]
 let%[t,b|e]:=List.mem_map.mp this;unfold cj;rw[←e];exact h t b
instance spDeg:∀(x:Str)(b:Addr)(tv:List V)(ts:List Tr),vs=[.str x,.ref b]->H b=some (.tup tv)->TreesAt H tv ts->ts≠[]->ts.length<=10->(∀t∈ts,t.wf/\t.depth<=10/\t.size<=400)->(∀H',Same H H'->Q (.int (cj ts x)) H'):=1
def wu:FnScope Wm Wm (af lI):=%[|5]
def xa(F:#["degree_of",lI])(c:mg "max"=none)(y:#[12,"names_in",WC,spNamesIn 10]):#[13,f,fd,Wm,spDeg]:=by
 exists wu
 erw[x,b,j,ts,1,m,TS,B,tl,tok,q]at h;refine⟨_,(ac (am (aE (vL rfl) rfl c Rc (aJ (bX (N:=["name"]) (ix:=[0]) rfl
  #[3] rfl
  (eV (pv 1)) (λ_ _ _=>cr (KA K qq PySem.F.slot_list_count PySem.F.type_list_count (Dq K) (ai y hr ⋯ rfl %[0|aV]) %[1|aV]))) aV)))),?_⟩
 let C:=TS.length;erw[0,b,1,%[_|eS m],λD hD=>?_];apply dN (K:=K) (xs:=j) (λi g=>g D=some (.lst (((ts.take i).map λt=>(t.names.count x:Int)).map V.int))/\Same H g) %[by rw[aX];rfl|fj hD _] (λi g _ h=>eS (h.2 _ _ m)) ?_ ?_
 . rintro i z n o ⟨hl,e⟩;let%[t,r|T]:=TS.get o;let%[tw,L|tz]:=tok t (lr r);let J:i<j.length:=(Qs o).1;erw[0,z,t,1,T.mono (bw e),tw,3,tz,λl M O u d=>?_];erw[.inl %[1,_|fy d],0,l,2,fy d,iS _,1,6];rw[uh];erw[_,u _ _ hl,6,Nx.of J %[6|λU Y v=>?_]]
   . rw[fx,fx,lw];exact aN #[0]
   . rw[aX,nh,r,hI,hI];rfl
   . rw[aB (bh v hD)];exact u _ _ (e _ _ v)
 . rintro n ⟨hl,e⟩;rw[C,mu]at hl;erw[D,0,fy hl,by simpa using B,q n e]
instance spLookS:∀(a:Addr)(ns:List Str),vs=[.ref a]->H a=some (.tup (ns.map V.str))->ns.Nodup->ns.length<=10->(∀H',Same H H'->Q .non H'):=1
def gi(x:Str)(ns:List Str):inV (.str x) (ns.map V.str)=decide (x∈ns):=by
 unfold inV
 induction ns with
 |nil=>rfl
 |cons a r b=>
   rw [nn,Q4,b];let e:eqV (.str a) (.str x)=decide (x=a):=by
    show(a==x)=_
    by_cases c:x=a
    . subst c;simp
    . rw[ll c];simpa using λh=>c h.symm
   rw[e]
   by_cases d:x=a <;> by_cases g:x∈r <;> simp [d,g]
def gN:FnScope ["switches","place","name"] ["switches"] (af iz):=%[|5]
def qr(F:#["look_switches",iz])(b:mg "enumerate"=none):#[1,f,fd,["switches"],spLookS]:=by
 exists gN
 erw[a,ns,1,g,nd,O,q]at h;refine⟨_,(ac (cV n7 rfl (tD rfl b (pv 0)) (om rfl (dB (bn (i:=1) gN.nd rfl (.inl rfl)) (dB (bn (i:=2) gN.nd rfl (.inl rfl)) kJ)))
  (ac (aG (ag eP (pv 2) (cR wj (pv 0) eA (dy (pv 1))) (by rfl')) ba au)))),?_⟩
 erw[0,a,1,%[_|eS g],qA (K:=K) (xs:=ns.map V.str) (λi σ v=>∃m n:Option V,σ=[some (.ref a),m,n]/\Same H v) %[_,0|Same.refl _] (λi σ v _ J=>by erw[_,_,_,h]at J;exact eS (h _ _ g)) ?_ ?_]
 . rintro i z σ y t o ⟨m,n,rfl,r⟩ L;let B:i<(ns.map V.str).length:=(Qs o).1;rw[kv]at o;let%[x,C|1]:=qs o;let G:=fj L (.tup [.int (i:Int),.str x]);let D:=r.trans G;let d:i<ns.length:=by rw[fx]at B;exact B
   erw[t,0,eS aX,1,_,0,2,6];erw[0,0,0,(i:Int),1,a,0,eS (D _ _ g),6,λc hc=>?_]
   . rintro⟨_,h⟩;rw[HT.sIx_nat]at h;omega
   . erw[c,0,.inr (eS aX),1,6,0,6]
     . let u:hJ (ns.map V.str) none (some (i:Int))=(ns.take i).map V.str:=by
        unfold hJ;rw[HT.sIx_none,HT.sIx_nat,Ip,Rp,List.map_take]
        congr 1
        omega
       rw[u];exact iS _
     . let u:hJ (ns.map V.str) none (some (i:Int))=(ns.take i).map V.str:=by
        unfold hJ;rw[HT.sIx_none,HT.sIx_nat,Ip,Rp,List.map_take]
        congr 1
        omega
       show if inV (.str x) (hJ (ns.map V.str) none (some (i:Int)))=true then _ else _
       rw[u,gi,ll ?_]
       . apply cz ?_;erw[_,0,D.trans (fj hc _)]
       . intro M;let%[j,N|e]:=List.getElem_of_mem M;rw[lw]at N;rw[List.getElem_take]at e;let ex:ns[i]=x:=by
          rw[j3 d]at C;exact ln C
         exact List.pairwise_iff_getElem.mp nd j i #[0] d #[0] (e.trans ex.symm)
 . rintro σ y ⟨m,n,rfl,r⟩;exact q y r
def pA{ns:List Str}:∀t:Tr,t.ok ns->∀x∈t.names,x∈ns
 |.is y,h,x,c=>by rw[Qr c];exact h
 |.yes,_,x,c=>by cases c
 |.no,_,x,c=>by cases c
 |.not a,h,x,c=>pA a h x c
 |.bin _ a b,⟨_,h1,h2⟩,x,c=>by
   rcases qH0 c with h | h
   . exact pA a h1 x h
   . exact pA b h2 x h
instance spLookN:∀(a b:Addr)(ns:List Str)(tv:List V)(ts:List Tr),vs=[.ref b,.ref a]->H a=some (.tup (ns.map V.str))->H b=some (.tup tv)->TreesAt H tv ts->(∀t∈ts,t.ok ns/\t.wf/\t.depth<=10/\t.size<=400)->(∀H',Same H H'->Q .non H'):=1
def jF:FnScope ["trees","switches","tree","name"] ["trees","switches"] (af kz):=%[|5]
def uE(F:#["look_names",kz])(v:#[12,"names_in",WC,spNamesIn 10]):#[13,f,fd,["trees","switches"],spLookN]:=by
 exists jF
 erw[a,b,ns,B,ts,1,C,o,TS,tok,q]at h;refine⟨_,(ac (cV n7 rfl (eV (pv 0)) (bn (i:=2) jF.nd rfl (.inl rfl))
  (ac (cV n7 rfl (eC (ai v hr ⋯ rfl %[2|aV])) (bn (i:=3) jF.nd rfl (.inl rfl))
   (ac (aG (ag oX (pv 3) (pv 1) (by rfl')) ba au)))))),?_⟩
 erw[0,b,1,%[_|eS o],rS (K:=K) (xs:=B) (λi σ c=>∃m d:Option V,σ=[some (.ref b),some (.ref a),m,d]/\Same H c) %[_,0|Same.refl _] (λi σ c _ n=>by erw[_,_,_,h]at n;exact eS (h _ _ o)) ?_ ?_]
 . rintro i z σ r D ⟨m,d,rfl,g⟩;let%[t,J|T]:=TS.get D;let%[tk,tw,Y|tz]:=tok t (lr J);erw[0,z,t,1,T.mono (bw g),tw,3,tz,λl L l0 M hl=>?_];let e:=g.trans M;erw[l,1,%[_|fy hl],lU (K:=K) (xs:=t.names.map V.str) (λj σ c=>∃d:Option V,σ=[some (.ref b),some (.ref a),some z,d]/\c=L) %[0|1] (λj σ c _ n=>by erw[_,_,h]at n;subst h;exact fy hl) ?_ ?_]
   . rintro j y σ N u ⟨O,rfl,rfl⟩;rw[kv]at u;let%[x,U|1]:=qs u;erw[0,0,a,0,.inr (eS (e _ _ C)),1,iS _,0,6];show if(!inV (.str x) (ns.map V.str))=true then _ else _
     rw[gi,j2 (pA t tk x (lr U))];apply cz ?_;erw[0,1]
   . rintro σ N ⟨O,rfl,rfl⟩;erw[_,0,e]
 . rintro σ r ⟨m,d,rfl,g⟩;exact q r g
instance spLookF:∀p:Int,vs=[.int p]->Pr p->2<p->p<=999983->Q .non H:=1
def ux:FnScope ["field"] ["field"] (af kA):=%[|5]
def uF(F:#["look_field",kA])(c:∃t,mg "FIELDS_END"=some (.int 1000000 t))(d:#[1,"is_field",["number"],spField]):#[2,f,fd,["field"],spLookF]:=by
 exists ux
 erw[p,1,e,p2,p9,q]at h;erw[j,ge]at c;erw[_,(ac (aG (PW.pt (eO (ag FI (pv 0) (bQ (v:=.int 1000000) rfl ge %[|0]) (aq _)) (dL (dO (di (ai d hr ⋯ rfl %[0|aV])))))) ba au)),6];erw[0,2,0,6];apply az #[0] ?_;erw[0,p,1,3,λb g=>%[b,1|6]];rw[g.mpr ⟨p2,e⟩];exact cz q
instance spLookZ:∀(p:Int)(d:Addr)(ns:List Int),vs=[.int p,.ref d]->H d=some (.lst (ns.map V.int))->ns≠[]->(∀n∈ns,n<p)->Q .non H:=1
def uo:FnScope ["field","degrees","greatest"] ["field","degrees"] (af lE):=%[|5]
def wW(F:#["look_size",lE])(b:mg "max"=none):#[1,f,fd,["field","degrees"],spLookZ]:=by
 exists uo
 erw[p,d,ns,1,hd,n0,c,q]at h;refine⟨_,(aa #[aj,2,uo,aE (vL rfl) rfl b Rc %[1|aV]]
  (ac (aG (ag vv (pv 0) (pv 2) (aq _)) ba au))),?_⟩
 erw[0,d,ns,1,fy hd,n0,6];erw[0,0,2,0,6]
 have:=c _ (lR n0)
 exact az #[0] q
def jh(f:Str)(v:V):∀fs:List (Str×V),(cQ f v fs).length<=fs.length+1
 | []=>fz _
 | (g,u)::r=>by
   have:=jh f v r
   unfold cQ
   split
   . simp
   . simp only[ij];omega
def gf3(a b:Addr)(p:Int):List (Str×V):=cQ "field" (.int p) (cQ "trees" (.ref b) (cQ "switches" (.ref a) []))
def Lh(a b:Addr)(p:Int):(gf3 a b p).lookup ("switches":Str)=some (.ref a):=by
 unfold gf3;rw[ay,Qi ⋯,ay,Qi ⋯,ay,Qk rfl]
def Lg(a b:Addr)(p:Int):(gf3 a b p).lookup ("trees":Str)=some (.ref b):=by
 unfold gf3;rw[ay,Qi ⋯,ay,Qk rfl]
def GameAt(C:Addr)(H:Hp)(g a b d:Addr)(p:Int):Prop:=∃dx,H g=some (.ins C dx (gf a b p d))
def GameAt.same(h:GameAt C H g a b d p)(s:Same H c):GameAt C c g a b d p:=by
 erw[dx,e]at h;erw[dx,s _ _ e]
instance spGInit(C:Addr):∀(g dx a b:Addr)(ns:List Str)(tv:List V)(ts:List Tr)(p:Int),vs=[.ref g,.ref a,.ref b,.int p]->H g=some (.ins C dx [])->H a=some (.tup (ns.map V.str))->ns.Nodup->ns.length<=10->H b=some (.tup tv)->TreesAt H tv ts->1<=ts.length->ts.length<=10->(∀t∈ts,t.ok ns/\t.wf/\t.depth<=10/\t.size<=400)->Pr p->2<p->p<=999983->(ts.length:Int)<=p->(∀t∈ts,∀x∈ns,(t.names.count x:Int)<p)->(∀(d:Addr)(H':Hp),H d=none->GameAt C H' g a b d p->H' d=some (.lst ((ns.map (cj ts)).map V.int))->SameBut g H H'->Q .non H'):=1
def EX:FnScope WN WN (af wE):=%[|5]
def FP(F:#["__init__","Game.__init__",wE])(T:GTxt K mg C)(j:mg "tuple"=none)(U:mg "len"=none)(mi:#[13,"degree_of",Wm,spDeg])(ii:#[1,"look_switches",["switches"],spLookS])
 (km:#[13,"look_names",["trees","switches"],spLookN])(kR:#[2,"look_field",["field"],spLookF])(mD:#[1,"look_size",["field","degrees"],spLookZ]):#[14,f,fd,WN,spGInit C]:=by
 exists EX
 erw[g,dx,a,b,ns,Y,ts,p,1,hg,ha,nd,nl,hb,TS,t1,t10,tok,pp,p2,p9,tp,tc,q]at h;refine⟨_,(aa (aZ (pv 0) (aR aY rfl j bq %[1|aV]) rfl)
  (aa (aZ (pv 0) (aR aY rfl j bq %[2|aV]) rfl)
  (aa (aZ (pv 0) (pv 3) rfl)
  (aa (aZ (pv 0) (bX (N:=WA) (ix:=[0]) rfl
   #[3] rfl
   (eV (aF (pv 0) rfl)) (λ_ _ _=>cr (ai mi hr ⋯ rfl %[0,ms K (pv 1)|aV]))) rfl)
  (aa (aQ (ai ii hr ⋯ rfl %[aF (pv 0) rfl|aV]))
  (aa (aQ (ai km hr ⋯ rfl %[aF (pv 0) rfl,aF (pv 0) rfl|aV]))
  (aa (aQ (ai kR hr ⋯ rfl %[3|aV]))
  (ac (aQ (ai mD hr ⋯ rfl %[3,ax kM (aF (pv 0) rfl) (cY %[ax bz (aE aD rfl U hR %[aF (pv 0) rfl|aV]) ae|aV])|aV])))))))))),?_⟩
 let aA:a≠g:=bV ha hg nofun;let ah:b≠g:=bV hb hg nofun;let vl:=TS.length;erw[0,a,0,.inr %[eS ha,0,g,C,dx,[],1,hg,T.cl,T.nS,(by show 0<1000;decide)|6]];erw[0,b,0,.inr %[eS (by rw[aB ah];exact hb),0,g,C,dx,0,aX,T.cl,T.nT,(sb (jh _ _ _) (by show 1<1000;decide))|6]];erw[0,0,g,C,dx,0,aX,9,T.nF,(sb (jh _ _ _) (sb (on (jh _ _ _)) (by show 2<1000;decide))),6];let S3:SameBut g H (upd (upd (upd H g (.ins C dx (cQ "switches" (.ref a) []))) g (.ins C dx (cQ "trees" (.ref b) (cQ "switches" (.ref a) [])))) g (.ins C dx (cQ "field" (.int p) (cQ "trees" (.ref b) (cQ "switches" (.ref a) []))))):=
  (SameBut.upd _).trans ((SameBut.upd _).trans (SameBut.upd _))
 let m:upd (upd (upd H g (.ins C dx (cQ "switches" (.ref a) []))) g (.ins C dx (cQ "trees" (.ref b) (cQ "switches" (.ref a) [])))) g (.ins C dx (cQ "field" (.int p) (cQ "trees" (.ref b) (cQ "switches" (.ref a) [])))) g=some (.ins C dx (gf3 a b p)):=aX;generalize upd (upd (upd H g (.ins C dx (cQ "switches" (.ref a) []))) g (.ins C dx (cQ "trees" (.ref b) (cQ "switches" (.ref a) [])))) g (.ins C dx (cQ "field" (.int p) (cQ "trees" (.ref b) (cQ "switches" (.ref a) []))))=H3 at S3 m;let kT:bO H H3:=λc xs h=>S3 c _ (bV h hg nofun) h
 let ab:=kT _ _ ha;let an:=kT _ _ hb;let ap:=TS.mono kT;erw[0,g,C,dx,_,0,m,9,T.nS,Lh ..,a,1,%[_|eS ab],λD hD=>?_];let D0:H D=none:=by
  cases e:H D with
  |none=>rfl
  |some o=>
    by_cases c:D=g
    . rw[c,m]at hD;cases hD
    . rw[S3 D o c e]at hD;cases hD
 apply dN (K:=K) (xs:=ns.map V.str) (λi H'=>H' D=some (.lst (((ns.take i).map (cj ts)).map V.int))/\Same H3 H') %[by rw[aX];rfl|fj hD _] (λi H' _ h=>eS (h.2 _ _ ab)) ?_ ?_
 . rintro i z M hz ⟨hl,v⟩;let hi:i<(ns.map V.str).length:=(Qs hz).1;rw[kv]at hz;let%[x,hx|1]:=qs hz;erw[0,0,g,C,dx,_,0,v _ _ m,9,T.nT,Lg ..,x,b,Y,ts,1,v _ _ an,ap.mono (bw v),6,t10,λt ht=>(tok t ht).2,λH5 O=>?_]
   . intro e;rw[e]at t1;exact absurd t1 ⋯
   erw[_,O _ _ hl,6,Nx.of hi %[6|λb' o' e'=>?_]]
   . rw[fx,fx,lw];exact aN #[0]
   . rw[aX,nh,hx,hI,hI];rfl
   . rw[aB (bh e' hD)];exact O _ _ (v _ _ e')
 rintro M ⟨hl,v⟩;rw[fx,mu]at hl;erw[0,g,C,dx,0,v _ _ m,9,T.nD,6,6]
 . exact sb (hQ (jh _ _ _) (on (hQ (jh _ _ _) (on (jh _ _ _))))) (by show 3<1000;decide)
 let ar:D≠g:=λz=>by rw[z,m]at hD;cases hD
 let d:upd M g (.ins C dx (gf a b p D)) g=some (.ins C dx (gf a b p D)):=aX;let O:SameBut g H (upd M g (.ins C dx (gf a b p D))):=S3.trans ((f4 v).trans (SameBut.upd _));let y:upd M g (.ins C dx (gf a b p D)) D=some (.lst ((ns.map (cj ts)).map V.int)):=by rw[aB ar];exact hl
 show _;generalize as:upd M g (.ins C dx (gf a b p D))=H5 at d O y;let B:bO H H5:=λc xs h=>O c _ (bV h hg nofun) h
 rw[show upd M g (.ins C dx (cQ "degrees" (.ref D) (gf3 a b p)))=H5 from as];erw[0,g,C,dx,_,0,d,9,T.nS,qW ..,a,ns,1,B _ _ ha,nd,nl,λH6 S6=>?_];let J:bO H H6:=λc xs h=>S6 _ _ (B c xs h)
 erw[0,g,C,dx,_,0,S6 _ _ d,9,T.nT,pF ..,0,g,C,dx,_,0,S6 _ _ d,9,T.nS,qW ..,a,b,ns,Y,ts,1,J _ _ ha,J _ _ hb,TS.mono J,tok,λH7 S7=>?_];let u:=S6.trans S7;erw[0,p,1,pp,p2,p9,6];erw[0,0,g,C,dx,_,0,u _ _ d,9,T.nD,He ..,0,g,C,dx,_,0,u _ _ d,9,T.nT,pF ..,b,0,.inr (eS (u _ _ (B _ _ hb))),2,y1S,λl av=>?_];let Gl:=fj av (.lst [.int ((Y.length:Int)-1)]);erw[D,l,2,Gl _ _ (u _ _ y),aX,6,λr aw=>?_]
 . rw[fx,fx];exact bc (by simp;omega)
 let Gr:=fj aw (.lst ((ns.map (cj ts)).map V.int++[.int ((Y.length:Int)-1)]));erw[p,r,ns.map (cj ts)++[(Y.length:Int)-1],1,6,by simp,λn hn=>?_,6]
 . rw[aX,hI];rfl
 . rcases qH0 hn with h | h
   . let%[x,hx|1]:=List.mem_map.mp h;apply ug ?_ λt ht=>tc t ht x hx
     intro e;rw[e]at t1;exact absurd t1 ⋯
   . rw[Qr h];omega
 . let L:=u.trans (Gl.trans Gr);exact q D _ D0 %[dx|L _ _ d] (L _ _ y) (O.trans (f4 L))
instance spInv:∀a p:Int,vs=[.int a,.int p]->Pr p->p<=999983->0<a->a<p->(∀g:Int,0<g->g<p->g*a % p=1->Q (.int g) H):=1
def b5:FnScope ["a","p","former","former_factor","rest","factor","times","lesser","lesser_factor"] ["a","p"] (af kF):=%[|5]
def uJ(F:#["inverse_of",kF]):#[1,f,fd,["a","p"],spInv]:=by
 exists b5
 erw[a,p,1,pr,v,r,a1,q]at h;let p2:2<=p:=pr.1;refine⟨_,(aa #[aj,2,b5,pv 1]
  (aa #[aj,3,b5,ae]
  (aa #[aj,4,b5,ax bp (pv 0) (pv 1)]
  (aa #[aj,5,b5,ae]
  (aa (jX n7 (ag jY (pv 4) ae (aq _)) (aa #[aj,6,b5,ax BA (pv 2) (pv 4)]
   (aa #[aj,7,b5,ax bz (pv 2) (ax cW (pv 6) (pv 4))]
   (aa #[aj,8,b5,ax bp (ax bz (pv 3) (ax cW (pv 6) (pv 5))) (pv 1)]
   (aa #[aj,2,b5,pv 4]
   (aa #[aj,3,b5,pv 5]
   (aa #[aj,4,b5,pv 7]
   (ac #[aj,5,b5,pv 8]))))))))
  (ac (am (pv 5)))))))),?_⟩
 erw[0,6];erw[0,0,2,(show 0<p by omega),6];erw[λm σ j=>∃(b e rest g:Int)(x6 n o:Option V),σ=[some (.int a),some (.int p),some (.int b),some (.int e),some (.int rest),some (.int g),x6,n,o]/\j=H/\Eu a p b e rest g/\m=rest.toNat,%[_,_,_,_,_,_,2,yY pr #[0] r a1|1],6]
 rintro m σ j ⟨b,e,rest,g,x6,n,o,rfl,rfl,d,rfl⟩;erw[0,1,0,6]
 by_cases c:rest=1
 . apply mZ (congrArg V.int c) ?_;let%[t,g1|u]:=Ho d c #[0];erw[0,q g t g1 u]
 . apply iteN (λz=>c (V.int.inj z)) ?_;erw[_,λ_ _ h=>h,6];let r0:=d.r0;let rp:=d.rp;let f0:=d.f0;let f1:=d.f1;let%[nx|lt]:=BJ d c;erw[0,0,2,%[r0|3],6];erw[0,0,0,2,.inr %[3|3],2,6];erw[0,0,0,2,.inr %[3|3],2,0,2,(show 0<p by omega),6];erw[0,0,0,0,6];erw[_,lt,_,_,_,_,_,2,nx,1]
def md{p x y:Int}(h:p ∣ x-y):x % p=y % p:=by
 erw[k,b]at h
 have:x=y+p*k:=#[0]
 rw[this,Int.add_mul_emod_self_left]
def dm(p x:Int):p ∣ x % p-x:=⟨-(x / p),by
 have:=RC x p
 rw[Int.mul_neg];omega⟩
def pmd(p:Int)(g:Nat->Int):Nat->Int
 |0=>1
 |k+1=>pmd p g k*g k % p
def oV(p:Int)(g:Nat->Int):∀k,p ∣ pmd p g k-pr g k
 |0=>%[(0)|by simp [pmd,pr]]
 |k+1=>by
   let%[a|c]:=oV p g k;let%[b|d]:=dm p (pmd p g k*g k);erw[b+a*g k,by show pmd p g k*g k % p-pr g k*g k=_;grind]
def oU{p:Int}(b:1<p)(g:Nat->Int):∀k,0<=pmd p g k/\pmd p g k<p
 |0=>%[by show(0:Int)<=1;decide|b]
 |k+1=>%[oa _ #[0]|pb _ #[0]]
def prL(p:Int)(g:Nat->Int)(n:Nat):List V:=((List.range n).map (pmd p g)).map V.int
def sZ(p:Int)(g:Nat->Int)(n:Nat):prL p g (n+1)=prL p g n++[.int (pmd p g n)]:=by
 unfold prL;rw[Q2,hI,hI];rfl
def IP(p:Int)(g:Nat->Int)(n:Nat):(prL p g n).length=n:=by
 unfold prL;rw[fx,fx,Fn]
def AC{f:Nat->Int}{n k:Nat}(h:k<n):atI (((List.range n).map f).map V.int) (k:Int)=some (.int (f k)):=by
 apply bd ?_;rw[kv,kv,List.getElem?_range h];rfl
def zY{n k:Nat}(h:k<n):atI (prL p g n) (k:Int)=some (.int (pmd p g k)):=AC h
instance spProd:∀(a:Addr)(g:Nat->Int)(n:Nat)(p:Int),vs=[.ref a,.int p]->H a=some (.lst (((List.range n).map g).map V.int))->n<=500->1<p->p<2 ^ 40->(∀(l:Addr)(H':Hp),H l=none->Same H H'->H' l=some (.lst (prL p g (n+1)))->Q (.ref l) H'):=1
def mI:FnScope ["numbers","p","told","number"] Wn (af nO):=%[|5]
def yt(F:#["products",nO]):#[1,f,fd,Wn,spProd]:=by
 exists mI
 erw[a,g,n,p,1,m,J,B,C,q]at h;refine⟨_,(aa #[aj,2,mI,cY %[ae|aV]]
  (aa (cV n7 rfl (eC (pv 0)) (bn (i:=3) mI.nd rfl (.inl rfl)) (ac (aQ (bZ qq sk ti ca (pv 2) %[ax bp (ax cW (aI ix_list (pv 2) (Bu vT ae) #[1]) (pv 3)) (pv 1)|aV]))))
  (ac (am (pv 2))))),?_⟩
 erw[y1S,λL j=>?_];let aL:a≠L:=bh m j;refine⟨_,rfl,a,rfl,%[_|fy ((fj j _) _ _ m)],lU (K:=K) (xs:=((List.range n).map g).map V.int) (λi σ r=>∃t:Option V,σ=[some (.ref a),some (.int p),some (.ref L),t]/\r L=some (.lst (prL p g (i+1)))/\SameBut L H r)
  %[0,by rw[aX];rfl|SameBut.upd _] (λi σ r _ D=>by erw[_,_,_,h]at D;exact fy (h _ _ aL m)) ?_ ?_⟩
 . rintro i z σ x u ⟨t,rfl,d,v⟩;let y:=(Qs u).1;rw[fx,fx,Fn]at y;rw[kv,kv,List.getElem?_range y]at u;obtain rfl:V.int (g i)=z:=ln u;let M:=oU B g i;erw[0,.inl %[1,_|fy d],6];erw[0,0,L,_,_,.int (pmd p g i),1,1,fy d,6,0,2,.inl %[3|3],0,2,#[0],L,2,d,6,6]
   . rw[sZ];exact zp _ _
   . rw[IP];exact aN #[0]
   . erw[0,6,λc o hc e=>?_]
     . rw[aX,sZ p g (i+1)];rfl
     . rw[aB hc];exact v c o hc e
 . rintro σ x ⟨t,rfl,d,v⟩;rw[fx,fx,Fn]at d;erw[0,q L x j (λb o e=>v b o (bh e j) e) d]
def Fv:∀n:Nat,pr (λk=>1+(k:Int)) n=fac n
 |0=>rfl
 |n+1=>by
   show pr (λk=>1+(k:Int)) n*(1+(n:Int))=fac n*((n:Int)+1)
   rw[Fv n,Int.add_comm]
def ES{p g a t s:Int}{k m:Nat}(hg:g*a % p=1)(n:1<p)(b:p ∣ a-fac (k+m))(c:p ∣ t-pr (λj=>((k+m:Nat):Int)-j) m)(d:p ∣ s-g*t):p ∣ s*fac k-1:=by
 let f:=yW m k;erw[x,o]at b;erw[y,q]at c;erw[z,r]at d;let%[e|he]:=dm p (g*a);rw[hg]at he;erw[z*fac k+g*y*fac k-g*x-e,by grind]
instance spFacs:∀(L:Nat)(p:Int),vs=[.int (L:Int),.int p]->L<=500->(L:Int)<p->Pr p->p<=999983->(∀(l:Addr)(H':Hp)(sh:Nat->Int),H l=none->Same H H'->(∀k,k<=L->p ∣ sh k*fac k-1)->(∀k,0<=sh k/\sh k<p)->H' l=some (.lst (((List.range (L+1)).map sh).map V.int))->Q (.ref l) H'):=1
def c8:FnScope ["last","p","numbers","whole","told"] ["last","p"] (af eN):=%[|5]
def kZ(F:#["inverse_factorials",eN])(B:Bl mg)(Y:#[1,"products",Wn,spProd])(e8:#[1,"inverse_of",["a","p"],spInv]):#[2,f,fd,["last","p"],spFacs]:=by
 exists c8
 erw[L,p,1,L5,Lp,C,p9,q]at h;refine⟨_,(aa #[aj,2,c8,Ad rfl rfl B.list rfl B.range %[ae,ax aU (pv 0) ae|aV]]
  (aa (aj (i:=3) c8.nd rfl (Or.inr rfl) (ai e8 hr ⋯ rfl %[aI ix_list (ai Y hr ⋯ rfl %[2,1|aV]) (Bu vT ae) #[1],1|aV]))
  (aa (aj (i:=4) c8.nd rfl (Or.inr rfl) (ai Y hr ⋯ rfl (aJ (bX (N:=["last"]) (ix:=[0]) rfl
   #[3] rfl
   (cZ rfl B.range %[0|aV]) (λ_ _ _=>cr (ax bz (pv 1) (pv 0)))) %[1|aV])))
  (ac (am (bX (N:=["whole","told","p","last"]) (ix:=[3,4,1,0]) rfl
   (CompScope.four (by rfl') ⋯ rfl ⋯ rfl ⋯ rfl (by rfl') (by rfl') (by rfl') (by rfl') (by rfl') (by rfl') rfl rfl (by rfl') rfl rfl (by rfl') rfl rfl (by rfl') rfl rfl) rfl
   (cZ rfl B.range %[ax aU (pv 0) ae|aV]) (λ_ _ _=>cr (ax bp (ax cW (pv 1) (aI (yM K) (pv 2) (ax bz (pv 4) (pv 0)) #[1])) (pv 3))))))))),?_⟩
 let p2:=C.1;let hP:=Fw C #[0];erw[0,2,(1),0,%[4,4,3|3],3,λa ha=>?_];let e1:wM 1 ((L:Int)+1-1).toNat=(List.range L).map λk:Nat=>1+(k:Int):=by
  unfold wM;rw[show((L:Int)+1-1).toNat=L by omega]
 rw [e1];let Ga:=fj ha (.lst (((List.range L).map λk:Nat=>1+(k:Int)).map V.int));erw[0,0,a,_,L,p,1,aX,L5,3,3,λl H2 l0 S2 J=>?_];let rg:=oU (show 1<p by omega) (λk:Nat=>1+(k:Int)) L;let v:=oV p (λk:Nat=>1+(k:Int)) L;rw[Fv]at v;let ab:pmd p (λk:Nat=>1+(k:Int)) L≠0:=λz=>by
  rw[z]at v;erw[m,hm]at v;exact xE hP L Lp %[-m|by rw[Int.mul_neg];omega]
 erw[0,l,_,_,.int (pmd p (λk:Nat=>1+(k:Int)) L),1,1,fy J,by rw[sZ];exact zp _ _,0,_,p,1,C,p9,3,rg.2,λg g0 g1 hg=>?_];let r:=Ga.trans S2;erw[0,0,3,3,λD hD=>?_];apply fw (λi u=>u D=some (.lst (((List.range i).map λj:Nat=>(L:Int)-j).map V.int))/\Same H2 u) %[by rw[aX];rfl|fj hD _] ?_ ?_
 . rintro i H3 M ⟨c,x⟩;erw[0,0,2,_,c,6,Nx.of M %[6|λb o e=>?_]]
   . rw[fx,fx,Fn];exact aN #[0]
   . rw[aX,Q2,hI,hI,Q8];rfl
   . rw[aB (bh e hD)];exact x _ _ e
 rintro H3 ⟨c,x⟩;rw[show((L:Int)).toNat=L from J6 L]at c;erw[0,D,_,L,p,1,c,L5,3,3,λt H4 t0 S4 O=>?_];erw[0,2,0,3,3,λD2 n=>?_];apply fw (λi u=>u D2=some (.lst (((List.range i).map λk:Nat=>g*pmd p (λj:Nat=>(L:Int)-j) (L-k) % p).map V.int))/\Same H4 u) %[by rw[aX];rfl|fj n _] ?_ ?_
 . rintro i H5 M ⟨d,y⟩;let ah:i<L+1:=#[0]
   let an:=oU (show 1<p by omega) (λj:Nat=>(L:Int)-j) (L-i);let e2:(L:Int)-(0+(i:Int))=((L-i:Nat):Int):=#[0]
   erw[0,0,0,0,2,t,_,_,.int (pmd p (λj:Nat=>(L:Int)-j) (L-i)),1,1,fy (y _ _ O),by rw[e2];exact zY #[0],2,.inl %[3|3],0,2,#[0],_,d,6,Nx.of M ⟨?_,λb o e=>?_⟩]
   . rw[fx,fx,Fn];exact aN #[0]
   . rw[aX,Q2,hI,hI];rfl
   . rw[aB (bh e n)];exact y _ _ e
 rintro H5 ⟨d,y⟩;rw[show((L:Int)+1).toNat=L+1 by omega]at d;let U:=r.trans (x.trans (S4.trans y));apply q D2 H5 (λk=>g*pmd p (λj:Nat=>(L:Int)-j) (L-k) % p) ((r.trans (x.trans S4)).free n) U (λk hk=>?_) (λk=>%[oa _ #[0]|pb _ #[0]]) d;obtain⟨m,rfl⟩:∃m,L=k+m:=⟨L-k,#[0]⟩
 rw[show k+m-k=m by omega];exact ES hg #[0] v (oV p _ m) (dm p _)
def wt(p:Int)(n i:Nat):Int:=(px (i:Int) i n % p) ^ (p-2).toNat
def Ed(b:Pm p){n:Nat}(c:(n:Int)<=p):Wgt p n (wt p n):=λi d=>by
 let h1:=KC b c d;let%[k|g]:=dm p (px (i:Int) i n);let h2:¬ p ∣ px (i:Int) i n % p:=fun⟨m,e⟩=>h1 %[m-k|by grind]
 let%[m|e]:=Lm b h2 (oa _ (by have:=b.1;omega));erw[m-k*(px (i:Int) i n % p) ^ (p-2).toNat,by unfold wt;grind]
def val(p:Int)(xs:List Int)(r:Int):Int:=lag (λi=>xs.getD i 0) (wt p xs.length) xs.length r % p
def Kf{t:Int}{xs:List Int}(b:Pm p)(c:(xs.length:Int)<=p)(d:Wgt p xs.length u)(g:0<=t)(t1:t<p)(h:p ∣ t-lag (λi=>xs.getD i 0) u xs.length r):t=val p xs r:=by
 let e:p ∣ t-lag (λi=>xs.getD i 0) (wt p xs.length) xs.length r:=by
  have:=GE b c (v:=λi=>xs.getD i 0) d (Ed b c) r
  let z:=Q9 h this;let e2:t-lag (λi=>xs.getD i 0) u xs.length r+(lag (λi=>xs.getD i 0) u xs.length r-lag (λi=>xs.getD i 0) (wt p xs.length) xs.length r)=t-lag (λi=>xs.getD i 0) (wt p xs.length) xs.length r:=#[0]
  rw[e2]at z;exact z
 have:=md e
 rw[QH g t1]at this;exact this
def Ie{p:Int}(b:1<p)(xs:List Int)(r:Int):0<=val p xs r/\val p xs r<p:=%[oa _ #[0]|pb _ #[0]]
def Kg{xs:List Int}{k:Nat}(b:Pm p)(c:(xs.length:Int)<=p)(d:k<xs.length):val p xs k=xs.getD k 0 % p:=md (AI (Ed b c) d)
def sgn(m:Nat):(-1:Int) ^ m=if m % 2=1 then -1 else 1:=by
 induction m with
 |zero=>rfl
 |succ m b=>
   rw[QU,b]
   by_cases c:m % 2=1
   . rw[Qk c,Qi #[0]];rfl
   . rw[Qi c,Qk #[0]];rfl
def Id{p r v t s a b c d e:Int}{m:Nat}{x y:Int}(u:p ∣ t-s)(C:p ∣ a-pr (λj=>r-j) i)(g:p ∣ b-pr (λj=>r-(i+m:Nat)+j) m)(hc:p ∣ c-v*a*b)(hd:p ∣ d-x*y)(he:p ∣ e-(t+(if m % 2=1 then -(c*d)else c*d))):
 p ∣ e-(s+v*px r i (i+m+1)*((-1) ^ m*(x*y))):=by
 rw[show i+m+1=i+1+m by omega,sV,sgn];rw[Bs]at g;generalize pr (λj=>r-j) i=A at *
 generalize pr (λj=>r-(i+1+j:Nat)) m=B at *
 erw[t',u]at u;erw[n,C]at C;erw[o,g]at g;erw[q,hc]at hc;erw[d',hd]at hd;erw[D,he]at he;let e1:c*d-v*(A*B)*(x*y)=p*(q*d+v*(n*b+A*o)*d+v*A*B*d'):=by grind
 by_cases z:m % 2=1
 . rw [Qk z]at *
   erw[D+t'-(q*d+v*(n*b+A*o)*d+v*A*B*d'),by grind]
 . rw [Qi z]at *
   erw[D+t'+(q*d+v*(n*b+A*o)*d+v*A*B*d'),by grind]
def IntsAt(H:Hp)(a:Addr)(xs:List Int):Prop:=H a=some (.lst (xs.map V.int))∨H a=some (.tup (xs.map V.int))
def IntsAt.same(h:IntsAt H a xs)(s:Same H b):IntsAt b a xs:=h.elim (λe=>.inl (s _ _ e)) (λe=>.inr (s _ _ e))
def IntsAt.seq{K:W.Frag}(h:IntsAt H a xs):SqL K H a (xs.map V.int)∨SqT K H a (xs.map V.int):=h.elim (λe=>.inl (fy e)) (λe=>.inr (eS e))
def IntsAt.ix{K:W.Frag}{k:Nat}{Q:VK}(h:IntsAt H a xs)(b:k<xs.length)(q:Q (.int (xs.getD k 0)) H):rIxL K (.ref a) (.int (k:Int)) H Q∨rIxT K (.ref a) (.int (k:Int)) H Q:=by
 let e:atI (xs.map V.int) (k:Int)=some (.int (xs.getD k 0)):=bd (by rw[kv,j3 b,y0,j3 b];rfl);rcases h with h | h
 . exact .inl %[a,_,2,fy h,e|q]
 . exact .inr %[a,_,2,eS h,e|q]
def kY(xs:List Int)(p:Int):Prop:=1<=xs.length/\xs.length<=500/\(xs.length:Int)<=p/\∀k,0<=xs.getD k 0/\xs.getD k 0<2 ^ 40
instance spVal:∀(a:Addr)(xs:List Int)(r p:Int),vs=[.ref a,.int r,.int p]->IntsAt H a xs->kY xs p->Pr p->p<=999983->0<=r->r<p->(∀H',Same H H'->Q (.int (val p xs r)) H'):=1
def bJ:FnScope ["values","r","p","last","ahead","behind","shares","total","place","share","part"] WJ (af iX):=%[|5]
def rh(F:#["value_behind",iX])(B:Bl mg)(eJ:#[1,"products",Wn,spProd])(fk:#[2,"inverse_factorials",["last","p"],spFacs]):#[3,f,fd,WJ,spVal]:=by
 exists bJ
 erw[a,xs,r,p,1,ha,%[x1,x5,xp|xb],pp,p9,r0,r1,q]at h;refine⟨_,(aa (aj (i:=3) bJ.nd rfl (Or.inr rfl) (ax bz (aE aD rfl B.len hR %[0|aV]) ae))
  (aa (aj (i:=4) bJ.nd rfl (.inl rfl) (ai eJ hr ⋯ rfl (aJ (bX (N:=["r"]) (ix:=[1]) rfl
   #[3] rfl
   (cZ rfl B.range %[3|aV]) (λ_ _ _=>cr (ax bz (pv 1) (pv 0)))) %[2|aV])))
  (aa (aj (i:=5) bJ.nd rfl (.inl rfl) (ai eJ hr ⋯ rfl (aJ (bX (N:=["r","last"]) (ix:=[1,3]) rfl
   #[4] rfl
   (cZ rfl B.range %[3|aV]) (λ_ _ _=>cr (ax aU (ax bz (pv 1) (pv 2)) (pv 0)))) %[2|aV])))
  (aa #[aj,6,bJ,ai fk hr ⋯ rfl %[3,2|aV]]
  (aa #[aj,7,bJ,ae]
  (aa (cV n7 rfl (cZ rfl B.range %[ax aU (pv 3) ae|aV]) (bn (i:=8) bJ.nd rfl (.inl rfl)) (aa #[aj,9,bJ,ax bp (ax cW (aI ix_list (pv 6) (pv 8) #[1]) (aI ix_list (pv 6) (ax bz (pv 3) (pv 8)) #[1])) (pv 2)]
   (aa #[aj,10,bJ,ax cW (ax bp (ax cW (ax cW (aI (ix_list.or ix_tup) (pv 0) (pv 8) #[1]) (aI ix_list (pv 4) (pv 8) #[1])) (aI ix_list (pv 5) (ax bz (pv 3) (pv 8)) #[1])) (pv 2)) (pv 9)]
   (aa (aG (ag aP (ax bp (ax bz (pv 3) (pv 8)) ae) ae (aq _)) (ac #[aj,10,bJ,Bu vT (pv 10)]) au)
   (ac #[aj,7,bJ,ax bp (ax aU (pv 7) (pv 10)) (pv 2)])))))
  (ac (am (pv 7))))))))),?_⟩
 let p2:=pp.1;let p1:1<p:=#[0]
 let p0:0<p:=#[0]
 let hP:=Fw pp #[0];obtain⟨L,hL⟩:∃L,xs.length=L+1:=%[xs.length-1|3]
 let eL:(((xs.map V.int).length:Nat):Int)-1=(L:Int):=by rw[fx];omega
 erw[0,a,0,ha.seq,2,6]
 dsimp only
 rw[eL];erw[0,(L:Int),1,3,3,λD hD=>?_];apply fw (λi n=>n D=some (.lst (((List.range i).map λj:Nat=>r-j).map V.int))/\Same H n) %[by rw[aX];rfl|fj hD _] ?_ ?_
 . rintro i H3 hi ⟨g,v⟩;erw[0,0,2,_,g,6,Nx.of hi %[6|λb o e=>?_]]
   . rw[fx,fx,Fn];exact aN #[0]
   . rw[aX,Q2,hI,hI,Q8];rfl
   . rw[aB (bh e hD)];exact v _ _ e
 rintro H1 ⟨x,S1⟩;rw[show((L:Int)).toNat=L from J6 L]at x;erw[0,D,_,L,p,1,x,3,p1,3,λla H2 av S2 ah=>?_];erw[0,(L:Int),1,3,3,λD2 y=>?_];apply fw (λi n=>n D2=some (.lst (((List.range i).map λj:Nat=>r-(L:Int)+j).map V.int))/\Same H2 n) %[by rw[aX];rfl|fj y _] ?_ ?_
 . rintro i H3 hi ⟨g,v⟩;erw[0,0,2,0,2,_,g,6,Nx.of hi %[6|λb o e=>?_]]
   . rw[fx,fx,Fn];exact aN #[0]
   . rw[aX,Q2,hI,hI,Q8];rfl
   . rw[aB (bh e y)];exact v _ _ e
 rintro H3 ⟨g,v⟩;rw[show((L:Int)).toNat=L from J6 L]at g;erw[0,D2,_,L,p,1,g,3,p1,3,λlb H4 aw S4 an=>?_];erw[0,0,L,p,1,3,3,pp,p9,λls H5 d aA S5 ap C J=>?_];let M:=v.trans (S4.trans S5);let O:=S1.trans (S2.trans M);let U:=M _ _ ah;let Y:=S5 _ _ an;let as:=ha.same O;let hW:=Ic ap;refine⟨_,rfl,_,_,rfl,rfl,_,rfl,#[0],#[0],eQ (λi σ n=>∃(t:Int)(x8 x9 u:Option V),σ=[some (.ref a),some (.int r),some (.int p),some (.int L),some (.ref la),some (.ref lb),some (.ref ls),some (.int t),x8,x9,u]/\0<=t/\t<p/\p ∣ t-sm (λi=>xs.getD i 0*px r i (L+1)*((-1) ^ (L-i)*(d i*d (L-i)))) i/\n=H5)
  %[(0),_,_,0,4,p0,%[(0)|by simp [sm]]|1] ?_ ?_⟩
 . rintro i σ H6 hi ⟨t,x8,x9,u,rfl,t0,t1,td,rfl⟩;let ab:i<L+1:=#[0]
   obtain⟨m,hm⟩:∃m,L=i+m:=%[L-i|3]
   let e0:(0:Int)+(i:Int)=(i:Int):=Q8 _;let e1:(L:Int)-(0+(i:Int))=(m:Int):=#[0]
   let aC:=C i;let aH:=C m;let ar:=oU p1 (λj:Nat=>r-j) i;let br:=oU p1 (λj:Nat=>r-(L:Int)+j) m;let xi:=xb i;let m1:∀z:Int,0<=z % p:=λz=>oa _ #[0]
   let m2:∀z:Int,z % p<p:=λz=>pb _ p0
   erw[0,0,ls,_,_,.int (d i),1,1,fy J,by rw[e0];exact AC ab,0,0,0,2,ls,_,_,.int (d m),1,1,fy J,by rw[e1];exact AC #[0],2,.inl %[3|3],0,2,p0,6];erw[0,0,6];rw[e0];apply as.ix #[0] ?_;erw[0,0,la,_,_,.int (pmd p (λj:Nat=>r-j) i),1,1,fy U,zY ab,2,.inl %[3|3],6];erw[0,0,0,2,lb,_,_,.int (pmd p (λj:Nat=>r-(L:Int)+j) m),1,1,fy Y,by rw[←e0,e1];exact zY #[0],2,.inr %[3|3],0,2,p0,6];let s1:=m1 (d i*d m);let s2:=m2 (d i*d m);erw[0,2,.inr %[3|3],6];erw[0,0,2,2,(by show(0:Int)<_;decide),1,0,6];let fin:∀z:Int,z=(if m % 2=1 then -(xs.getD i 0*pmd p (λj:Nat=>r-j) i*pmd p (λj:Nat=>r-(L:Int)+j) m % p*(d i*d m % p))else xs.getD i 0*pmd p (λj:Nat=>r-j) i*pmd p (λj:Nat=>r-(L:Int)+j) m % p*(d i*d m % p)) ->
    p ∣ (t+z) % p-sm (λi=>xs.getD i 0*px r i (L+1)*((-1) ^ (L-i)*(d i*d (L-i)))) (i+1):=λz hz=>by
    show p ∣ _-(sm _ i+xs.getD i 0*px r i (L+1)*((-1) ^ (L-i)*(d i*d (L-i))))
    let em:L-i=m:=#[0]
    let hb:p ∣ pmd p (λj:Nat=>r-(L:Int)+j) m-pr (λj=>r-(i+m:Nat)+j) m:=by
     rw[←hm];exact oV p _ m
    subst hz;rw[em];let el:L+1=i+m+1:=#[0]
    rw[el]at td ⊢;exact Id td (oV p _ i) hb (dm p _) (dm p _) (dm p _)
   by_cases c:m % 2=1
   . apply aW (congrArg V.int #[0]) ?_;erw[0,0,6];erw[0,0,2,0,2,p0,6];erw[_,_,_,0,m1 _,m2 _,fin _ (by rw[Qk c]),1]
   . apply az (λz=>c (by have:=V.int.inj z;omega)) ?_;erw[0,0,2,0,2,p0,6];erw[_,_,_,0,m1 _,m2 _,fin _ (by rw[Qi c]),1]
 . rintro σ H6 ⟨t,x8,x9,u,rfl,t0,t1,td,rfl⟩;rw[show((L:Int)+1).toNat=L+1 by omega]at td;rw[←hL]at hW;let e:=Kf (r:=r) hP xp hW t0 t1 (by
    unfold lag;rw[hL];exact td)
   rw[e];erw[0,q H6 O]
def C4:FnScope ["values","r","p","place"] WJ (af ny):=%[|5]
def yo(F:#["value_at",ny])(B:Bl mg)(e:#[3,"value_behind",WJ,spVal]):#[4,f,fd,WJ,spVal]:=by
 exists C4
 erw[a,xs,r,p,1,b,ok,d,p9,r0,r1,q]at h;refine⟨_,(aa #[aj,3,C4,ax bp (pv 1) (pv 2)]
  (aa (aG (ag dX (pv 3) (aE aD rfl B.len hR %[0|aV]) (aq _)) (ac (am (ax bp (aI (ix_list.or ix_tup) (pv 0) (pv 3) #[1]) (pv 2)))) au)
  (ac (am (ai e hr ⋯ rfl %[0,3,2|aV]))))),?_⟩
 let p0:0<p:=#[0]
 let hP:=Fw d #[0];let g:r % p=r:=QH r0 r1;erw[0,0,2,p0,6]
 dsimp only
 rw[g];erw[0,0,a,0,b.seq,2,0,6];apply tY (λc=>?_) (λc=>?_)
 . let j:=CS c;rw[fx]at j;obtain⟨k,rfl⟩:∃k:Nat,r=(k:Int):=%[r.toNat|3]
   erw[0,0,6];apply b.ix #[0] ?_;erw[0,2,p0,6];show Q (.int (xs.getD k 0 % p)) H;rw[←Kg hP ok.2.2.1 #[0]];exact q H (Same.refl _)
 . erw[0,0,0,a,xs,r,p,1,b,ok,d,p9,r0,r1,q]
instance spEnds:∀(a:Addr)(xs:List Int)(p:Int),vs=[.ref a,.int p]->IntsAt H a xs->kY xs p->Pr p->p<=999983->(∀H',Same H H'->Q (.int ((val p xs 0+val p xs 1) % p)) H'):=1
def wx:FnScope ["values","p"] ["values","p"] (af lK):=%[|5]
def xf(F:#["both_ends",lK])(c:#[4,"value_at",WJ,spVal]):#[5,f,fd,["values","p"],spEnds]:=by
 exists wx
 erw[a,xs,p,1,d,ok,b,p9,q]at h;erw[_,(ac (am (ax bp (ax aU (ai c hr ⋯ rfl %[0,ae,1|aV]) (ai c hr ⋯ rfl %[0,ae,1|aV])) (pv 1)))),6];let p2:=b.1;erw[0,0,a,xs,(0),p,1,d,ok,b,p9,4,3,λm e=>?_];erw[0,0,a,xs,(1),p,1,d.same e,ok,b,p9,4,3,λg j=>?_];erw[2,0,2,#[0],q g (e.trans j)]
def IntsAt.sqB{K:W.Frag}(h:IntsAt H a xs):∃c,SqB K c H a (xs.map V.int):=h.elim (λe=>%[true|fy e]) (λe=>%[false|eS e])
def hor(s p:Int):List Int->Int
 | []=>0
 |a::r=>(hor s p r*s+a) % p
def rQ{p:Int}(b:0<p):∀ns,0<=hor s p ns/\hor s p ns<p
 | []=>%[u6 0|b]
 |a::r=>%[oa _ #[0]|pb _ b]
instance spMix(C:Addr):∀(g a b d l:Addr)(ns:List Int)(s p:Int),vs=[.ref g,.ref l,.int s]->GameAt C H g a b d p->0<p->p<2 ^ 40->IntsAt H l ns->Q (.int (hor s p ns)) H:=1
def Bf:FnScope ["self","numbers","s","total","number"] WY (af zR):=%[|5]
def IY(F:#["mix","Game.mix",zR])(T:GTxt K mg C)(e:mg "reversed"=none):#[1,f,fd,WY,spMix C]:=by
 exists Bf
 erw[g,a,b,d,l,ns,s,p,1,%[dx|hg],p0,v,hl,q]at h;refine⟨_,(aa #[aj,3,Bf,ae]
  (aa (cV n7 rfl (IQ rfl e (pv 1)) (bn (i:=4) Bf.nd rfl (.inl rfl)) (ac #[aj,3,Bf,ax bp (ax aU (ax cW (pv 3) (pv 2)) (pv 4)) (aF (pv 0) rfl)]))
  (ac (am (pv 3))))),?_⟩
 let%[c|hl]:=hl.sqB (K:=K);refine⟨_,rfl,c,l,_,rfl,hl,Hj (K:=K) (c:=c) (xs:=ns.map V.int) (λi σ n=>∃(j:Option V)(t:Int),σ=[some (.ref g),some (.ref l),some (.int s),some (.int t),j]/\t=hor s p (ns.drop (ns.length-i))/\n=H)
  %[_,(0),1,by rw[Rp,List.drop_length];rfl|1] (λi σ n _ y=>by erw[_,_,_,_,h]at y;subst h;exact hl) ?_ ?_⟩
 . rintro i z σ B o r ⟨j,t,rfl,rfl,rfl⟩;rw[fx]at o;rw[←List.map_reverse,kv]at r;let%[x,m|1]:=qs r;rw[Se o]at m;let D:=rQ (s:=s) p0 (ns.drop (ns.length-i));erw[0,0,2,.inl %[3|3],0,2,0,g,C,dx,_,0,hg,T.cl,T.nF,jD ..,2,p0,6];erw[_,0,6,1];let u:ns.length-1-i<ns.length:=#[0]
   let ed:ns.drop (ns.length-(i+1))=x::ns.drop (ns.length-i):=by
    let e1:ns.length-(i+1)=ns.length-1-i:=#[0]
    let e2:ns.length-i=ns.length-1-i+1:=#[0]
    rw[e1,e2,RZ u]
    congr 1
    rw[j3 u]at m;exact ln m
   rw[ed];rfl
 . rintro σ B ⟨j,t,rfl,rfl,rfl⟩;rw[fx,Nat.sub_self,Ip];erw[0,q]
instance spWAt(C:Addr):∀(g a b d r:Addr)(ns:List Str)(tv:List V)(ts:List Tr)(pt:List Int)(s p:Int),vs=[.ref g,.ref r,.int s]->GameAt C H g a b d p->1<p->p<2 ^ 40->H a=some (.tup (ns.map V.str))->H b=some (.tup tv)->TreesAt H tv ts->ts.length<=10->(∀t∈ts,t.ok ns/\t.depth<=10)->H r=some (.tup (pt.map V.int))->pt.length=ns.length->cw pt p->(∀H',Same H H'->Q (.int (hor s p (ts.map λt=>t.worth ns pt p))) H'):=1
def Cs:FnScope WO WO (af sO):=%[|5]
def Da(F:#["worth_at","Game.worth_at",sO])(T:GTxt K mg C)(J:Meth K C "mix" fm)(GM:#[1,fm,j,WY,spMix C])(L:Binds K j WY [])(M:#[12,"worth_of",WW,spWorth 10]):#[13,f,fd,WO,spWAt C]:=by
 exists Cs
 erw[g,a,b,d,r,ns,o,ts,pt,s,p,1,%[dx|hg],O,e,U,u,TS,t10,tok,m,pl,po,q]at h;let Y:Room 1 _:=hr.mono ⋯;refine⟨_,(ac (am (bu (pv 0) T.cl J GM Y L .nil be (aJ (bX (N:=["self","point"]) (ix:=[0,1]) rfl
  #[4] rfl
  (eV (aF (pv 0) rfl)) (λ_ _ _=>cr (ai M hr ⋯ rfl %[0,ms K (pv 1),2,ms K (pv 1)|aV]))) %[2|aV])))),?_⟩
 let vl:=TS.length;erw[0,g,dx,0,hg,vG _ _ _ _ ⋯ ⋯ ⋯ ⋯,6];erw[0,g,C,dx,_,0,hg,9,T.nT,pF ..,b,1,%[_|eS u],λD hD=>?_];apply dN (K:=K) (xs:=o) (λi n=>n D=some (.lst (((ts.take i).map λt=>t.worth ns pt p).map V.int))/\Same H n) %[by rw[aX];rfl|fj hD _] (λi n _ h=>eS (h.2 _ _ u)) ?_ ?_
 . rintro i z v x ⟨hl,c⟩;let%[t,y|Tt]:=TS.get x;let%[tk|td]:=tok t (lr y);let hi:i<o.length:=(Qs x).1;erw[0,0,g,C,dx,_,0,c _ _ hg,9,T.nS,qW ..,0,0,g,C,dx,_,0,c _ _ hg,9,T.nF,jD ..,z,t,a,r,ns,pt,p,1,Tt.mono (bw c),tk,td,.inr (c _ _ U),c _ _ m,pl,O,e,po,6];erw[_,hl,6,Nx.of hi %[6|λb' o' B=>?_]]
   . rw[fx,fx,lw];exact aN #[0]
   . rw[aX,nh,y,hI,hI];rfl
   . rw[aB (bh B hD)];exact c _ _ B
 . rintro v ⟨hl,c⟩;rw[vl,mu]at hl;erw[0,g,a,b,d,D,_,s,p,1,%[dx|c _ _ hg],3,e,.inl hl,q v c]
instance spCoins(C:Addr):∀(g a b d:Addr)(ns:List Str)(tv:List V)(p:Int),vs=[.ref g]->GameAt C H g a b d p->H a=some (.tup (ns.map V.str))->H b=some (.tup tv)->Q (.int (if tv.length=1 then(ns.length:Int)else(ns.length:Int)+1)) H:=1
def Ct:FnScope WA WA (af sP):=%[|5]
def Dc(F:#["coins","Game.coins",sP])(T:GTxt K mg C)(e:mg "len"=none):#[1,f,fd,WA,spCoins C]:=by
 exists Ct
 erw[g,a,b,d,ns,j,p,1,%[dx|hg],n,o,q]at h;refine⟨_,(aa (aG (ag aP (aE aD rfl e hR %[aF (pv 0) rfl|aV]) ae (aq _)) (ac (am (aE aD rfl e hR %[aF (pv 0) rfl|aV]))) au)
  (ac (am (ax aU (aE aD rfl e hR %[aF (pv 0) rfl|aV]) ae)))),?_⟩
 erw[0,g,C,dx,_,0,hg,9,T.nT,pF ..,b,0,.inr (eS o),1,0,6]
 by_cases c:V.int (j.length:Int)=V.int 1
 . apply aW c ?_;let m:j.length=1:=by have:=V.int.inj c;omega
   rw[Qk m]at q;erw[0,g,C,dx,_,0,hg,9,T.nS,qW ..,a,0,.inr (eS n),6];rw[fx];exact q
 . apply az c ?_;let m:¬ j.length=1:=λz=>c (by rw[z];rfl)
   rw[Qi m]at q;erw[0,g,C,dx,_,0,hg,9,T.nS,qW ..,a,0,.inr (eS n),6];rw[fx];erw[2,q]
instance spSize(n:Nat):∀(v:V)(t:Tr),vs=[v]->TreeAt H v t->t.wf->t.depth<=n->t.size<=400->(∀H',Same H H'->Q (.int t.size) H'):=1
def zF(ts:List Tr):(ts.map λu=>(u.size:Int)).sum=(jT ts:Int):=by
 induction ts with
 |nil=>rfl
 |cons a r b=>
   simp only[jT,nn,t7]at b ⊢;rw[b];omega
def zH:FnScope WC WC (af mo):=%[|5]
def Co{n:Nat}(F:#["size_of",mo])(B:Bl mg)(C:#[1,"trees_within",WC,spWithin])(J:#[n+2,"size_of",WC,spSize n]):#[n+3,f,fd,WC,spSize (n+1)]:=by
 exists zH
 erw[v,t,1,T,wf,dn,sz,q]at h;refine⟨_,(ac (am (ax aU ae (aE (uj rfl) rfl B.sum Sf (aJ (bX (N:=[]) (ix:=[]) (cl:=[]) rfl #[5] rfl
  (eV (ai C hr #[0] rfl %[0|aV])) (λ_ _ _=>cr (ai J hr (fz _) rfl %[0|aV]))) aV))))),?_⟩
 erw[0,v,t,1,T,wf,λp xs L M d TS=>?_];erw[p,1,%[_|eS d],λD hD=>?_];let pD:p≠D:=bh d hD;let O:=TS.length;let sp:=t.size_parts;apply dN (K:=K) (xs:=xs) (λi g=>g D=some (.lst (((t.parts.take i).map λu=>(u.size:Int)).map V.int))/\Same L g) %[by rw[aX];rfl|fj hD _] (λi g _ h=>eS (h.2 _ _ d)) ?_ ?_
 . rintro i x j m ⟨hl,c⟩;let%[u,r|U]:=TS.get m;let Y:=lr r;let%[uw,ud|us]:=Tr.parts_mem Y wf;let hi:i<xs.length:=(Qs m).1;erw[0,x,u,1,U.mono (bw c),uw,3,3,λH3 y=>?_];erw[_,y _ _ hl,6,Nx.of hi %[6|λb o e=>?_]]
   . have:t.parts.length<=2:=by cases t <;> simp [Tr.parts]
     rw[fx,fx,lw];exact aN #[0]
   . rw[aX,nh,r,hI,hI];rfl
   . rw[aB (bh e hD)];exact y _ _ (c _ _ e)
 . rintro j ⟨hl,c⟩;rw[O,mu]at hl;let z:=zF t.parts;erw[D,0,fy hl,6,6,6]
   . intro n hn;let%[u,_|1]:=List.mem_map.mp hn;omega
   . rw[z];omega
   . rw [z];erw[2,6];let e:(1:Int)+(jT t.parts:Int)=(t.size:Int):=#[0]
     show Q (.int (1+(jT t.parts:Int))) j;rw[e];exact q j (M.trans c)
def Cn:#[2,f,fd,WC,spSize 0]:=by
 let no:∀vs H Q E,¬ spSize 0 vs H Q E:=λvs H Q E h=>by
  erw[v,t,_,_,_,h1,_]at h
  have:=t.depth_pos
  omega
 exists 3
def tH(F:#["size_of",mo])(B:Bl mg)(m:mg "size_of"=some (.ref f))(b:#[1,"trees_within",WC,spWithin]):
 ∀n:Nat,#[n+2,f,fd,WC,spSize n]
 |0=>Cn
 |n+1=>Co F B b (Cal.of F (tH F B m b n) m (λ_ _ _ _ _ _ us hl=>by let%[c|1]:=Dv hl;rfl))
abbrev wH:Stmt:=bK dY 0
abbrev sQ:Stmt:=bK dY 1
abbrev zT:Stmt:=bK dY 2
abbrev wI:Stmt:=bK dY 4
abbrev wG:Stmt:=bK dY 5
abbrev qf:Stmt:=bK dY 6
abbrev sS:Stmt:=bK dY 7
abbrev zS:Stmt:=bK dY 8
abbrev Fe:Stmt:=bK dY 9
abbrev sR:Stmt:=bK dY 10
def dl(g b c:Addr)(s:Int)(d e:Addr)(ed pl:Int):List (Str×V):=[("game",.ref g),("awaited",.ref b),("claims",.ref c),("s",.int s),("heard",.ref d),("tossed",.ref e),("held",.int ed),("places",.int pl)]
section
variable {g aA aC aH aT:Addr}{s ed pl:Int}
def lW:(dl g aA aC s aH aT ed pl).lookup ("game":Str)=some (.ref g):=by rfl'
def DP:(dl g aA aC s aH aT ed pl).lookup ("awaited":Str)=some (.ref aA):=by rfl'
def dl_c:(dl g aA aC s aH aT ed pl).lookup ("claims":Str)=some (.ref aC):=by rfl'
def dl_s:(dl g aA aC s aH aT ed pl).lookup ("s":Str)=some (.int s):=by rfl'
def dl_h:(dl g aA aC s aH aT ed pl).lookup ("heard":Str)=some (.ref aH):=by rfl'
def DO:(dl g aA aC s aH aT ed pl).lookup ("tossed":Str)=some (.ref aT):=by rfl'
def Hw:(dl g aA aC s aH aT ed pl).lookup ("held":Str)=some (.int ed):=by rfl'
def Ht:(dl g aA aC s aH aT ed pl).lookup ("places":Str)=some (.int pl):=by rfl'
def vJ:(dl g aA aC s aH aT ed pl).lookup ("waits":Str)=none:=by rfl'
def dl_n2:(dl g aA aC s aH aT ed pl).lookup ("due":Str)=none:=by rfl'
def zd:(dl g aA aC s aH aT ed pl).lookup ("hear":Str)=none:=by rfl'
def Hv:(dl g aA aC s aH aT ed pl).lookup ("toss":Str)=none:=by rfl'
def dl_n6:(dl g aA aC s aH aT ed pl).lookup ("hear_claims":Str)=none:=by rfl'
def Ka:(dl g aA aC s aH aT ed pl).lookup ("begin_rounds":Str)=none:=by rfl'
def dl_n8:(dl g aA aC s aH aT ed pl).lookup ("hear_row":Str)=none:=by rfl'
def Hu:(dl g aA aC s aH aT ed pl).lookup ("go_on":Str)=none:=by rfl'
def Lr:(dl g aA aC s aH aT ed pl).lookup ("look_at_trees":Str)=none:=by rfl'
def vp{v:Addr}:cQ "awaited" (.ref v) (dl g aA aC s aH aT ed pl)=dl g v aC s aH aT ed pl:=by rfl'
def put_c{v:Addr}:cQ "claims" (.ref v) (dl g aA aC s aH aT ed pl)=dl g aA v s aH aT ed pl:=by rfl'
def put_s{v:Int}:cQ "s" (.int v) (dl g aA aC s aH aT ed pl)=dl g aA aC v aH aT ed pl:=by rfl'
def put_h{v:Addr}:cQ "heard" (.ref v) (dl g aA aC s aH aT ed pl)=dl g aA aC s v aT ed pl:=by rfl'
def JU{v:Addr}:cQ "tossed" (.ref v) (dl g aA aC s aH aT ed pl)=dl g aA aC s aH v ed pl:=by rfl'
def Fs{v:Int}:cQ "held" (.int v) (dl g aA aC s aH aT ed pl)=dl g aA aC s aH aT v pl:=by rfl'
def zW{v:Int}:cQ "places" (.int v) (dl g aA aC s aH aT ed pl)=dl g aA aC s aH aT ed v:=by rfl'
def eW:(dl g aA aC s aH aT ed pl).length<1000:=by show 8<1000;decide
end
structure DTxt(K:W.Frag)(mg:#[9])(C:Addr):Prop where
 cl:Cls K C
 nG:NoAttr K C "game"
 nA:NoAttr K C "awaited"
 nC:NoAttr K C "claims"
 nS:NoAttr K C "s"
 nH:NoAttr K C "heard"
 nT:NoAttr K C "tossed"
 nE:NoAttr K C "held"
 nP:NoAttr K C "places"
 mgC:mg "Doubter"=some (.ref C)
structure Db where
 aw:Str×Option Int
 cl:List Int
 s:Int
 he:List Int
 to:List Int
 ed:Int
 pl:Int
def awV(a:Str×Option Int):List V:=match a.2 with
 |none=>[.str a.1]
 |some n=>[.str a.1,.int n]
structure DbR(C:Addr)(H:Hp)(D g:Addr)(z:Db)(dx aA aC aH aT:Addr):Prop where
 hD:H D=some (.ins C dx (dl g aA aC z.s aH aT z.ed z.pl))
 hA:H aA=some (.tup (awV z.aw))
 hC:H aC=some (.tup (z.cl.map V.int))
 hH:H aH=some (.tup (z.he.map V.int))
 hT:H aT=some (.tup (z.to.map V.int))
def DbR.same(h:DbR C H D g z dx b c d e)(s:Same H j):DbR C j D g z dx b c d e:=%[s _ _ h.hD,s _ _ h.hA,s _ _ h.hC,s _ _ h.hH|s _ _ h.hT]
def DbR.set{C:Addr}{H:Hp}{D g:Addr}{z:Db}{dx b c d e m j:Addr}{fs:List (Str×V)}(hD:H D=some (.ins m j fs))(hA:H b=some (.tup (awV z.aw)))(hC:H c=some (.tup (z.cl.map V.int)))(hH:H d=some (.tup (z.he.map V.int)))(hT:H e=some (.tup (z.to.map V.int))):
 DbR C (upd H D (.ins C dx (dl g b c z.s d e z.ed z.pl))) D g z dx b c d e:=by
 erw[aX,6,6,6,6]
 . rw[aB (bV hA hD nofun)];exact hA
 . rw[aB (bV hC hD nofun)];exact hC
 . rw[aB (bV hH hD nofun)];exact hH
 . rw[aB (bV hT hD nofun)];exact hT
def DbAt(C:Addr)(H:Hp)(D g:Addr)(z:Db):Prop:=∃dx b c d e,DbR C H D g z dx b c d e
def DbAt.same(h:DbAt C H D g z)(s:Same H b):DbAt C b D g z:=by
 erw[_,_,_,_,_,r]at h;erw[_,_,_,_,_,r.same s]
def Gm(e:Addr)(H:Hp)(g:Addr)(ns:List Str)(ts:List Tr)(p:Int):Prop:=∃(a b d:Addr)(c:List V),GameAt e H g a b d p/\H a=some (.tup (ns.map V.str))/\H b=some (.tup c)/\TreesAt H c ts/\H d=some (.lst ((ns.map (cj ts)).map V.int))
def Gm.same(h:Gm c H g ns ts p)(s:Same H e):Gm c e g ns ts p:=by
 erw[a,b,d,j,h1,h2,h3,h4,h5]at h;erw[a,b,d,j,h1.same s,s _ _ h2,s _ _ h3,h4.mono (bw s),s _ _ h5]
def Ju(a b:Addr)(p:Int)(d:Addr):(gf a b p d).lookup ("game":Str)=none:=vG _ _ _ _ ⋯ ⋯ ⋯ ⋯
def Gm.ne{C:Addr}{D:Addr}{dx:Addr}{fs:List (Str×V)}{v:V}(h:Gm j H g ns ts p)(hD:H D=some (.ins C dx fs))(hg:fs.lookup ("game":Str)=some v):g≠D:=λz=>by
 erw[a,b,d,m,%[c|e],_]at h;rw[z,hD]at e;cases e;rw[Ju]at hg;cases hg
def Gm.but{C:Addr}{D:Addr}{dx:Addr}{fs:List (Str×V)}(h:Gm m H g ns ts p)(hD:H D=some (.ins C dx fs))(hg:g≠D)(s:SameBut D H n):Gm m n g ns ts p:=by
 erw[a,b,d,o,%[j|e],h2,h3,h4,h5]at h;erw[a,b,d,o,%[j|s _ _ hg e],s _ _ (bV h2 hD nofun) h2,s _ _ (bV h3 hD nofun) h3,h4.mono (λc xs hc=>s _ _ (bV hc hD nofun) hc),s _ _ (bV h5 hD nofun) h5]
structure GmK(ns:List Str)(ts:List Tr)(p:Int):Prop where
 pr:Pr p
 p2:2<p
 p9:p<=999983
 n10:ns.length<=10
 t1:1<=ts.length
 t10:ts.length<=10
 tok:∀t∈ts,t.ok ns/\t.wf/\t.depth<=10/\t.size<=400
 tp:(ts.length:Int)<=p
 tc:∀t∈ts,∀x∈ns,(t.names.count x:Int)<p
def GmK.deg(k:GmK ns ts p):∀x∈ns,0<=cj ts x/\cj ts x<p:=λx c=>by
 let b:ts≠[]:=λz=>by have:=k.t1;rw[z]at this;cases this
 erw[6,ug b λt d=>k.tc t d x c]
 have:=lR (ns:=ts.map λt=>(t.names.count x:Int)) #[b,0]
 let%[t,_|e]:=List.mem_map.mp this;unfold cj;rw[←e];omega
def szs(ts:List Tr):Int:=(ts.map λt=>(t.size:Int)).sum
def fq(ns:List Str)(ts:List Tr)(p:Int)(z:Db):Db:=
 { z with pl:=z.pl+szs ts,aw:=if z.ed=hor z.s p (ts.map λt=>t.worth ns z.to p)then("believed",none)else("caught",some ((z.to.length:Int)+1)) }
def goOn(ns:List Str)(ts:List Tr)(p:Int)(z:Db):Db:=
 if z.to.length<ns.length then { z with aw:=("hear",some (cj ts (ns.getD z.to.length "")+1)) }else fq ns ts p z
def xH(ns:List Str)(ts:List Tr)(p s:Int)(z:Db):Db:=goOn ns ts p { z with s:=s,ed:=hor s p z.cl }
def lT(ns:List Str)(ts:List Tr)(p:Int)(xs:List Int)(z:Db):Db:=
 if ts.length=1 then xH ns ts p 0 { z with cl:=xs }else { z with cl:=xs,aw:=("coin",none) }
def gn(p:Int)(xs:List Int)(z:Db):Db:=
 { z with he:=xs,aw:=if(val p xs 0+val p xs 1) % p=z.ed then("coin",none)else("caught",some ((z.to.length:Int)+1)) }
def cM(ns:List Str)(ts:List Tr)(p:Int)(xs:List Int)(z:Db):Db:=
 if z.cl=[]then lT ns ts p xs { z with pl:=z.pl+(xs.length:Int) }else gn p xs { z with pl:=z.pl+(xs.length:Int) }
def dz(ns:List Str)(ts:List Tr)(p r:Int)(z:Db):Db:=
 if z.he=[]then xH ns ts p r { z with pl:=z.pl+1 }else goOn ns ts p { z with pl:=z.pl+1,ed:=val p z.he r,to:=z.to++[r] }
def Db.new(ts:List Tr):Db:=%[("hear",some (ts.length:Int)),[],(0),[],[],(0)|(0)]
instance spIsNum:∀n p:Int,vs=[.int n,.int p]->Q (.bl (decide (0<=n)&&decide (n<p))) H:=1
def wp:FnScope WZ WZ (af lF):=%[|5]
def wX(F:#["is_number",lF])(B:Bl mg):#[1,f,fd,WZ,spIsNum]:=by
 exists wp
 erw[n,p,1,q]at h;erw[_,(ac (am (Af (aE qZ rfl B.isinstance PyProof.Rows.boot_isinstance %[0,wO (v:=V.ty "int") rfl B.int hZ rfl|aV]) (Af (Fz (aE qZ rfl B.isinstance PyProof.Rows.boot_isinstance %[0,wO (v:=V.ty "bool") rfl B.bool Bc rfl|aV])) (Ac (FD vv dX ae (pv 0) (pv 1))))))),6];erw[0,_,_,"int",true,1,TyOf.int _,GJ _ _,true,1,dZ ?_];erw[0,_,_,"bool",false,1,TyOf.int _,xy _,false,1,true,1,dZ ?_];erw[0,2,0,6]
 by_cases c:0<=n
 . rw[j2 c]at q;apply aW c %[0,2|6];exact q
 . rw[ll c]at q;apply az c ?_;exact q
instance spAllSz(C:Addr):∀(g:Addr)(ns:List Str)(ts:List Tr)(p:Int),vs=[.ref g]->Gm C H g ns ts p->GmK ns ts p->(∀H',Same H H'->Q (.int (szs ts)) H'):=1
def wy:FnScope WH WH (af lO):=%[|5]
def Iv{ts:List Tr}(h:∀t∈ts,t.size<=400)(hl:ts.length<=10):0<=szs ts/\szs ts<=4000:=by
 have:∀l:List Tr,(∀t∈l,t.size<=400)->0<=szs l/\szs l<=400*(l.length:Int):=λl=>by
  induction l with
  |nil=>intro _;erw[u6 _,u6 _]
  |cons t r b=>
    intro hh;let h1:=b λu c=>hh u (pj _ c)
    let h2:=hh t (mj ..);let e:szs (t::r)=(t.size:Int)+szs r:=by unfold szs;rw[nn,t7]
    rw[e,ij];omega
 have:=this ts h
 omega
def xg(F:#["all_sizes",lO])(B:Bl mg)(T:GTxt K mg C)(L:#[12,"size_of",WC,spSize 10]):#[13,f,fd,WH,spAllSz C]:=by
 exists wy
 erw[g,ns,ts,p,1,%[a,b,d,r,%[dx|hg],ha,v,TS|hd],k,q]at h;refine⟨_,(ac (am (aE (uj rfl) rfl B.sum Sf (aJ (bX (N:=[]) (ix:=[]) (cl:=[]) rfl #[5] rfl
  (eV (aF (pv 0) rfl)) (λ_ _ _=>cr (ai L hr ⋯ rfl %[0|aV]))) aV)))),?_⟩
 let M:=TS.length;erw[0,g,C,dx,_,0,hg,9,T.nT,pF ..,b,1,%[_|eS v],λD hD=>?_];apply dN (K:=K) (xs:=r) (λi m=>m D=some (.lst (((ts.take i).map λt=>(t.size:Int)).map V.int))/\Same H m) %[by rw[aX];rfl|fj hD _] (λi m _ h=>eS (h.2 _ _ v)) ?_ ?_
 . rintro i x y z ⟨hl,c⟩;let%[u,j|O]:=TS.get z;let%[_,U,Y|us]:=k.tok u (lr j);let hi:i<r.length:=(Qs z).1
   have:=k.t10
   erw[0,x,u,1,O.mono (bw c),U,Y,us,λH3 J=>?_];erw[_,J _ _ hl,6,Nx.of hi %[6|λb o e=>?_]]
   . rw[fx,fx,lw];exact aN #[0]
   . rw[aX,nh,j,hI,hI];rfl
   . rw[aB (bh e hD)];exact J _ _ (c _ _ e)
 . rintro y ⟨hl,c⟩;rw[M,mu]at hl;let sr:=Iv (λt ht=>(k.tok t ht).2.2.2) k.t10;erw[D,0,fy hl,6,6,6]
   . intro n hn;let%[u,j|1]:=List.mem_map.mp hn
     have:=(k.tok u j).2.2.2
     omega
   . let e:((ts.map λt=>(t.size:Int)).sum)=szs ts:=rfl;rw[e];omega
   . exact q y c
section
variable {C CG:Addr}
instance spTrees(C CG:Addr):∀(D g:Addr)(z:Db)(ns:List Str)(ts:List Tr)(p:Int),vs=[.ref D]->DbAt C H D g z->Gm CG H g ns ts p->GmK ns ts p->z.to.length=ns.length->cw z.to p->(∀H',SameBut D H H'->DbAt C H' D g (fq ns ts p z)->Q .non H'):=1
def Cv:FnScope WA WA (af sR):=%[|5]
def De(F:#["look_at_trees","Doubter.look_at_trees",sR])(B:Bl mg)(T:DTxt K mg C)(TG:GTxt K mg CG)(mW:Meth K CG "worth_at" fW)(GW:#[13,fW,M,WO,spWAt CG])(bW:Binds K M WO [])
 (mJ:#[13,"all_sizes",WH,spAllSz CG]):#[14,f,fd,WA,spTrees C CG]:=by
 exists Cv
 erw[D,g,z,ns,ts,p,1,%[dx,y,o,r,m|R],G,k,tl,po,q]at h;let v:Room 13 _:=hr;refine⟨_,(aa (aZ (pv 0) (ax aU (aF (pv 0) rfl) (ai mJ hr ⋯ rfl %[aF (pv 0) rfl|aV])) rfl)
  (ac (aG (ag aP (aF (pv 0) rfl) (bu (aF (pv 0) rfl) TG.cl mW GW v bW .nil be %[aF (pv 0) rfl,aF (pv 0) rfl|aV]) (aq _))
   (ac (aZ (pv 0) (aO %[ao|aV]) rfl))
   (ac (aZ (pv 0) (aO %[ao,ax aU (aE aD rfl B.len hR %[aF (pv 0) rfl|aV]) ae|aV]) rfl))))),?_⟩
 let gD:=G.ne R.hD lW;erw[0,D,C,dx,_,0,R.hD,9,T.nP,Ht,0,D,C,dx,_,0,R.hD,9,T.nG,lW,g,ns,ts,p,1,G,k,λJ N=>?_];let n:=R.same N;erw[2,0,D,C,dx,0,n.hD,9,T.nP,eW,6];rw[zW];let O:SameBut D J (upd J D (.ins C dx (dl g y o z.s r m z.ed (z.pl+szs ts)))):=SameBut.upd _;let R2:DbR C (upd J D (.ins C dx (dl g y o z.s r m z.ed (z.pl+szs ts)))) D g { z with pl:=z.pl+szs ts } dx y o r m:=DbR.set (z:={ z with pl:=z.pl+szs ts }) n.hD n.hA n.hC n.hH n.hT;let Y:=(G.same N).but n.hD gD O;generalize upd J D (.ins C dx (dl g y o z.s r m z.ed (z.pl+szs ts)))=H2 at O R2 Y;let U:=Y;erw[a,b,d,tv,GA,ha,hb,TS,hd]at U;erw[dg,hg]at GA;let p2:=k.p2;let p9:=k.p9;erw[0,D,C,dx,_,0,R2.hD,T.cl,T.nE,Hw,0,D,C,dx,_,0,R2.hD,T.cl,T.nG,lW,g,dg,0,hg,vG _ _ _ _ ⋯ ⋯ ⋯ ⋯,0,D,C,dx,_,0,R2.hD,9,T.nT,DO,0,D,C,dx,_,0,R2.hD,9,T.nS,dl_s,6];erw[g,a,b,d,m,ns,tv,ts,z.to,z.s,p,1,%[dg|hg],3,3,ha,hb,TS,k.t10,λt u=>%[(k.tok t u).1|(k.tok t u).2.2.1],R2.hT,tl,po,λH3 S3=>?_];let L:=R2.same S3;let x:SameBut D H H3:=(f4 N).trans (O.trans (f4 S3));erw[1,0,6]
 by_cases c:z.ed=hor z.s p (ts.map λt=>t.worth ns z.to p)
 . apply aW (congrArg V.int c) ?_;erw[y1S,λt u=>?_];let I:=fj u (.tup [.str "believed"]);let j:=L.same I;erw[0,D,C,dx,0,j.hD,9,T.nA,eW,6];rw[vp];let e:fq ns ts p z={ z with pl:=z.pl+szs ts,aw:=("believed",none) }:=by
    unfold fq;rw[Qk c]
   apply q _ (x.trans ((f4 I).trans (SameBut.upd _))) ?_;rw[e];erw[dx,t,o,r,m,DbR.set (z:={ z with pl:=z.pl+szs ts,aw:=("believed",none) }) j.hD aX j.hC j.hH j.hT]
 . apply az (λe=>c (V.int.inj e)) ?_;erw[0,D,C,dx,_,0,L.hD,9,T.nT,DO,m,0,.inr (eS L.hT),2,y2S,λt u=>?_];let I:=fj u (.tup [.str "caught",.int (((z.to.map V.int).length:Int)+1)]);let j:=L.same I;erw[0,D,C,dx,0,j.hD,9,T.nA,eW,6];rw[vp];let e:fq ns ts p z={ z with pl:=z.pl+szs ts,aw:=("caught",some ((z.to.length:Int)+1)) }:=by
    unfold fq;rw[Qi c]
   apply q _ (x.trans ((f4 I).trans (SameBut.upd _))) ?_;rw[e];erw[dx,t,o,r,m,DbR.set (z:={ z with pl:=z.pl+szs ts,aw:=("caught",some ((z.to.length:Int)+1)) }) j.hD ?_ j.hC j.hH j.hT];rw[aX,fx];rfl
def pE{xs:List Int}{j:Nat}(h:j<xs.length):atI (xs.map V.int) (j:Int)=some (.int (xs.getD j 0)):=bd (by rw[kv,j3 h,y0,j3 h];rfl)
def Jz{ns:List Str}{j:Nat}(h:j<ns.length):(ns.map (cj ts)).getD j 0=cj ts (ns.getD j ""):=by
 rw[y0,kv,y0,j3 h];rfl
instance spGo(C CG:Addr):∀(D g:Addr)(z:Db)(ns:List Str)(ts:List Tr)(p:Int),vs=[.ref D]->DbAt C H D g z->Gm CG H g ns ts p->GmK ns ts p->z.to.length<=ns.length->cw z.to p->(∀H',SameBut D H H'->DbAt C H' D g (goOn ns ts p z)->Q .non H'):=1
def ND:FnScope ["self","done"] WA (af Fe):=%[|5]
def KH(F:#["go_on","Doubter.go_on",Fe])(B:Bl mg)(T:DTxt K mg C)(TG:GTxt K mg CG)(mT:Meth K C "look_at_trees" v)(GT:#[14,v,m,WA,spTrees C CG])(bT:Binds K m WA []):#[15,f,fd,WA,spGo C CG]:=by
 exists ND
 erw[D,g,z,ns,ts,p,1,%[dx,x,o,r,n|R],G,k,tl,po,q]at h;refine⟨_,(aa #[aj,1,ND,aE aD rfl B.len hR %[aF (pv 0) rfl|aV]]
  (ac (aG (ag dX (pv 1) (aE aD rfl B.len hR %[aF (aF (pv 0) rfl) rfl|aV]) (aq _))
   (ac (aZ (pv 0) (aO %[ao,ax aU (aI ix_list (aF (aF (pv 0) rfl) rfl) (pv 1) #[1]) ae|aV]) rfl))
   (ac (aQ (ci (pv 0) T.cl mT GT hr bT .nil be)))))),?_⟩
 let y:=G;erw[a,b,d,O,%[u|hg],J,U,TS,hd]at y;erw[0,D,C,dx,_,0,R.hD,9,T.nT,DO,n,0,.inr (eS R.hT),6];erw[0,0,D,C,dx,_,0,R.hD,9,T.nG,lW,g,CG,u,_,0,hg,TG.cl,TG.nS,qW ..,a,0,.inr (eS J),2,0,6]
 by_cases c:z.to.length<ns.length
 . apply aW (by rw[fx,fx];omega) ?_;let L:((z.to.map V.int).length:Int)=(z.to.length:Int):=by rw[fx]
   let M:ns.getD z.to.length ""∈ns:=by
    rw[y0,j3 c];exact vr c
   let Y:=k.deg _ M;erw[0,D,C,dx,_,0,R.hD,9,T.nG,lW,g,CG,u,_,0,hg,TG.cl,TG.nD,He ..,0,d,_,2,fy hd,by rw[L];exact pE (by rw[fx];exact c),2,y2S,λt N=>?_];rw[Jz c]at *
   let I:=fj N (.tup [.str "hear",.int (cj ts (ns.getD z.to.length "")+1)]);let j:=R.same I;erw[0,D,C,dx,0,j.hD,9,T.nA,eW,6];rw[vp];let e:goOn ns ts p z={ z with aw:=("hear",some (cj ts (ns.getD z.to.length "")+1)) }:=by
    unfold goOn;rw[Qk c]
   apply q _ ((f4 I).trans (SameBut.upd _)) ?_;rw[e];erw[dx,t,o,r,n,DbR.set (z:={ z with aw:=("hear",some (cj ts (ns.getD z.to.length "")+1)) }) j.hD aX j.hC j.hH j.hT]
 . apply az (by rw[fx,fx];omega) ?_;let e:goOn ns ts p z=fq ns ts p z:=by
    unfold goOn;rw[Qi c]
   rw[e]at q;erw[0,D,dx,0,R.hD,Lr,6];erw[D,g,z,ns,ts,p,1,%[dx,x,o,r,n|R],G,k,3,po,q]
instance spBeg(C CG:Addr):∀(D g:Addr)(z:Db)(s:Int)(ns:List Str)(ts:List Tr)(p:Int),vs=[.ref D,.int s]->DbAt C H D g z->Gm CG H g ns ts p->GmK ns ts p->z.to.length<=ns.length->cw z.to p->(∀H',SameBut D H H'->DbAt C H' D g (xH ns ts p s z)->Q .non H'):=1
def Cw:FnScope WP WP (af sS):=%[|5]
def Dg(F:#["begin_rounds","Doubter.begin_rounds",sS])(T:DTxt K mg C)(TG:GTxt K mg CG)(M:Meth K CG "mix" N)(GM:#[1,N,r,WY,spMix CG])(O:Binds K r WY [])
 (U:Meth K C "go_on" Y)(GG:#[15,Y,t,WA,spGo C CG])(bG:Binds K t WA []):#[16,f,fd,WP,spBeg C CG]:=by
 exists Cw
 erw[D,g,z,s,ns,ts,p,1,%[dx,j,e,m,n|R],G,k,tl,po,q]at h;let Qt:Room 1 _:=hr.mono ⋯;refine⟨_,(aa (aZ (pv 0) (pv 1) rfl)
  (aa (aZ (pv 0) (bu (aF (pv 0) rfl) TG.cl M GM Qt O .nil be %[aF (pv 0) rfl,1|aV]) rfl)
  (ac (aQ (ci (pv 0) T.cl U GG hr bG .nil be))))),?_⟩
 let B:=G.ne R.hD lW;let p2:=k.p2;let p9:=k.p9;erw[0,0,D,C,dx,0,R.hD,9,T.nS,eW,6];rw[put_s];let u:SameBut D H (upd H D (.ins C dx (dl g j e s m n z.ed z.pl))):=SameBut.upd _;let c:DbR C (upd H D (.ins C dx (dl g j e s m n z.ed z.pl))) D g { z with s:=s } dx j e m n:=DbR.set (z:={ z with s:=s }) R.hD R.hA R.hC R.hH R.hT;let v:=G.but R.hD B u;generalize upd H D (.ins C dx (dl g j e s m n z.ed z.pl))=o at u c v;let x:=v;erw[a,b,d,tv,%[J|hg],ha,hb,TS,hd]at x;erw[0,D,C,dx,_,0,c.hD,9,T.nG,lW,g,J,0,hg,vG _ _ _ _ ⋯ ⋯ ⋯ ⋯,0,D,C,dx,_,0,c.hD,9,T.nC,dl_c,0,6];erw[g,a,b,d,e,z.cl,s,p,1,%[J|hg],3,3,.inr c.hC,6];erw[0,D,C,dx,0,c.hD,9,T.nE,eW,6];rw[Fs];let y:SameBut D o (upd o D (.ins C dx (dl g j e s m n (hor s p z.cl) z.pl))):=SameBut.upd _;let R2:DbR C (upd o D (.ins C dx (dl g j e s m n (hor s p z.cl) z.pl))) D g { z with s:=s,ed:=hor s p z.cl } dx j e m n:=DbR.set (z:={ z with s:=s,ed:=hor s p z.cl }) c.hD c.hA c.hC c.hH c.hT;let L:=v.but c.hD B y;generalize upd o D (.ins C dx (dl g j e s m n (hor s p z.cl) z.pl))=H2 at y R2 L;erw[0,D,dx,0,R2.hD,Hu,6];erw[D,g,_,ns,ts,p,1,%[dx,j,e,m,n|R2],L,k,tl,po,λH3 S3 D3=>q H3 (u.trans (y.trans S3)) D3]
instance spClaims(C CG:Addr):∀(D g l:Addr)(z:Db)(xs:List Int)(ns:List Str)(ts:List Tr)(p:Int),vs=[.ref D,.ref l]->DbAt C H D g z->Gm CG H g ns ts p->GmK ns ts p->H l=some (.tup (xs.map V.int))->z.to.length<=ns.length->cw z.to p->(∀H',SameBut D H H'->DbAt C H' D g (lT ns ts p xs z)->Q .non H'):=1
def zM:FnScope WD WD (af qf):=%[|5]
def Ar(F:#["hear_claims","Doubter.hear_claims",qf])(B:Bl mg)(T:DTxt K mg C)(TG:GTxt K mg CG)(mB:Meth K C "begin_rounds" J)(L:#[16,J,v,WP,spBeg C CG])(M:Binds K v WP []):#[17,f,fd,WD,spClaims C CG]:=by
 exists zM
 erw[D,g,l,z,xs,ns,ts,p,1,%[dx,n,aC,j,m|R],G,k,hl,tl,po,q]at h;refine⟨_,(aa (aZ (pv 0) (pv 1) rfl)
  (ac (aG (ag aP (aE aD rfl B.len hR %[aF (aF (pv 0) rfl) rfl|aV]) ae (aq _))
   (ac (aQ (bu (pv 0) T.cl mB L hr M .nil be %[ae|aV])))
   (ac (aZ (pv 0) (aO %[ao|aV]) rfl))))),?_⟩
 let N:=G.ne R.hD lW;erw[0,0,D,C,dx,0,R.hD,9,T.nC,eW,6];rw[put_c];let u:SameBut D H (upd H D (.ins C dx (dl g n l z.s j m z.ed z.pl))):=SameBut.upd _;let o:DbR C (upd H D (.ins C dx (dl g n l z.s j m z.ed z.pl))) D g { z with cl:=xs } dx n l j m:=DbR.set (z:={ z with cl:=xs }) R.hD R.hA hl R.hH R.hT;let x:=G.but R.hD N u;generalize upd H D (.ins C dx (dl g n l z.s j m z.ed z.pl))=H1 at u o x;let y:=x;erw[a,b,d,tv,%[O|hg],ha,U,TS,hd]at y;let vl:=TS.length;erw[0,D,C,dx,_,0,o.hD,9,T.nG,lW,g,CG,O,_,0,hg,TG.cl,TG.nT,pF ..,b,0,.inr (eS U),1,0,6]
 by_cases c:ts.length=1
 . apply aW (congrArg V.int #[0]) ?_;let e:lT ns ts p xs z=xH ns ts p 0 { z with cl:=xs }:=by
    unfold lT;rw[Qk c]
   rw[e]at q;erw[0,D,dx,0,o.hD,Ka,6];erw[D,g,_,(0),ns,ts,p,1,%[dx,n,l,j,m|o],x,k,tl,po,λY S3 D3=>q Y (u.trans S3) D3]
 . apply az (λe=>c (by have:=V.int.inj e;omega)) ?_;let e:lT ns ts p xs z={ z with cl:=xs,aw:=("coin",none) }:=by
    unfold lT;rw[Qi c]
   erw[y1S,λt ht=>?_];let I:=fj ht (.tup [.str "coin"]);let r:=o.same I;erw[0,D,C,dx,0,r.hD,9,T.nA,eW,6];rw[vp];apply q _ (u.trans ((f4 I).trans (SameBut.upd _))) ?_;rw[e];erw[dx,t,l,j,m,DbR.set (z:={ z with cl:=xs,aw:=("coin",none) }) r.hD aX r.hC r.hH r.hT]
instance spHRow(C CG:Addr):∀(D g l:Addr)(z:Db)(xs:List Int)(ns:List Str)(ts:List Tr)(p:Int),vs=[.ref D,.ref l]->DbAt C H D g z->Gm CG H g ns ts p->GmK ns ts p->H l=some (.tup (xs.map V.int))->kY xs p->(∀H',SameBut D H H'->DbAt C H' D g (gn p xs z)->Q .non H'):=1
def IF:FnScope WD WD (af zS):=%[|5]
def IZ(F:#["hear_row","Doubter.hear_row",zS])(B:Bl mg)(T:DTxt K mg C)(TG:GTxt K mg CG)(M:#[5,"both_ends",["values","p"],spEnds]):#[6,f,fd,WD,spHRow C CG]:=by
 exists IF
 erw[D,g,l,z,xs,ns,ts,p,1,%[dx,r,n,Y,m|R],G,k,hl,ro,q]at h;refine⟨_,(aa (aZ (pv 0) (pv 1) rfl)
  (ac (aG (ag aP (ai M hr ⋯ rfl %[1,aF (aF (pv 0) rfl) rfl|aV]) (aF (pv 0) rfl) (aq _))
   (ac (aZ (pv 0) (aO %[ao|aV]) rfl))
   (ac (aZ (pv 0) (aO %[ao,ax aU (aE aD rfl B.len hR %[aF (pv 0) rfl|aV]) ae|aV]) rfl))))),?_⟩
 let N:=G.ne R.hD lW;erw[0,0,D,C,dx,0,R.hD,9,T.nH,eW,6];rw[put_h];let v:SameBut D H (upd H D (.ins C dx (dl g r n z.s l m z.ed z.pl))):=SameBut.upd _;let u:DbR C (upd H D (.ins C dx (dl g r n z.s l m z.ed z.pl))) D g { z with he:=xs } dx r n l m:=DbR.set (z:={ z with he:=xs }) R.hD R.hA R.hC hl R.hT;let J:=G.but R.hD N v;generalize upd H D (.ins C dx (dl g r n z.s l m z.ed z.pl))=H1 at v u J;let x:=J;erw[a,b,d,tv,%[O|hg],ha,hb,TS,hd]at x;erw[0,0,D,C,dx,_,0,u.hD,9,T.nG,lW,g,CG,O,_,0,hg,TG.cl,TG.nF,jD ..,l,xs,p,1,.inr u.hH,ro,k.pr,k.p9,λU L=>?_];let R2:=u.same L;erw[0,D,C,dx,_,0,R2.hD,9,T.nE,Hw,1,0,6];let o:SameBut D H U:=v.trans (f4 L)
 by_cases c:(val p xs 0+val p xs 1) % p=z.ed
 . apply aW (congrArg V.int c) ?_;let e:gn p xs z={ z with he:=xs,aw:=("coin",none) }:=by
    unfold gn;rw[Qk c]
   erw[y1S,λt y=>?_];let I:=fj y (.tup [.str "coin"]);let j:=R2.same I;erw[0,D,C,dx,0,j.hD,9,T.nA,eW,6];rw[vp];apply q _ (o.trans ((f4 I).trans (SameBut.upd _))) ?_;rw[e];erw[dx,t,n,l,m,DbR.set (z:={ z with he:=xs,aw:=("coin",none) }) j.hD aX j.hC j.hH j.hT]
 . apply az (λe=>c (V.int.inj e)) ?_;let e:gn p xs z={ z with he:=xs,aw:=("caught",some ((z.to.length:Int)+1)) }:=by
    unfold gn;rw[Qi c]
   erw[0,D,C,dx,_,0,R2.hD,9,T.nT,DO,m,0,.inr (eS R2.hT),2,y2S,λt y=>?_];let I:=fj y (.tup [.str "caught",.int (((z.to.map V.int).length:Int)+1)]);let j:=R2.same I;erw[0,D,C,dx,0,j.hD,9,T.nA,eW,6];rw[vp];apply q _ (o.trans ((f4 I).trans (SameBut.upd _))) ?_;rw[e];erw[dx,t,n,l,m,DbR.set (z:={ z with he:=xs,aw:=("caught",some ((z.to.length:Int)+1)) }) j.hD ?_ j.hC j.hH j.hT];rw[aX,fx];rfl
end
abbrev fo:Stmt:=bK (top 2) 0
abbrev jg:Stmt:=bK (top 9) 0
def FmOk(v:V):Prop:=(∃i:Int,v=.int i/\0<=i/\i<1000000000000)∨(∃y:Str,v=.str y/\y.length<=20)∨v=.non
def gZ{n:Int}(h0:0<=n)(h1:n<1000000000000):n.natAbs.log2<1920:=by
 let h2:n.natAbs<2 ^ 40:=#[0]
 by_cases c:n.natAbs=0
 . rw[c];decide
 . have:=(Nat.log2_lt c).mpr h2
   omega
def FmOk.fm(h:FmOk v):∃y,FmV v y/\y.length<=60:=by
 rcases h with⟨i,rfl,h0,h1⟩ | ⟨y,rfl,b⟩ | rfl
 . erw[_,.inl %[i,1,gZ h0 h1|1],hQ (Rv h0 (k:=12) ⋯ (by show i<10 ^ 12;omega)) ⋯]
 . erw[y,.inr (.inl rfl),3]
 . erw[_,.inr (.inr %[1|1]),4]
def fl1{a:Str}(b:a.length<=60):(Str.empty++a).length<=sizeLine:=by
 rw[i0]
 have:Str.empty.length=0:=rfl
 exact bc #[0]
def fl2{a b:Str}(c:a.length<=60)(d:b.length<=60):((Str.empty++a)++b).length<=sizeLine:=by
 rw[i0,i0]
 have:Str.empty.length=0:=rfl
 exact bc #[0]
instance spAI(K:W.Frag):∀(e C f:Addr)(x:V),vs=[.ref e,x]->H e=some (pP C e)->MkX K C f->Q .non H:=1
def qN:FnScope WK WK (af fo):=%[|5]
def yA(F:FunD K "__init__" "AskError.__init__" fo f fd c)(b:mg "ValueError"=none):#[1,f,fd,WK,spAI K]:=by
 exists qN
 erw[e,C,f,x,1,he,M,q]at h;erw[_,ac (aQ (tF rfl b %[0,1|aV])),6];erw[0,0,e,C,f,x,1,he,M,q]
instance spXI(C:Addr)(a:Str):∀(e:Addr)(v:V),vs=[.ref e,v]->H e=some (pP C e)->FmOk v->(∀dx,H dx=none->dx≠e->Q .non (upd (upd H dx (.xd [(a,v)])) e (uS C e dx))):=1
structure AskC(P:Program)(w:World)(K:W.Frag)(mg:#[9])(base:Heap)(CA fA:Addr)(fdA:FuncData):Prop where
 g:mg "AskError"=some (.ref CA)
 c:ClsFn K CA fA "__init__"
 ok:#[1,fA,fdA,WK,spAI K]
 b:Binds K fdA WK []
section
variable {CA fA:Addr}{fdA:FuncData}
def vi:FnScope WL WL (af jg):=%[|5]
def Di(F:FunD K "__init__" "NoTurn.__init__" jg f fd o)(T:AskC P w K mg base CA fA fdA)(M:MkX K C f)(c:ClsX K C CA)(j:NoAttr K C "row"):#[2,f,fd,WL,spXI C "row"]:=by
 exists vi
 erw[e,v,1,he,m,q]at h;erw[_,aa (aQ (Ae rfl T.g T.c T.ok hr T.b .nil be %[0,kK (cK ao (cK (Bv (pv 1)) oi))|aV])) (ac (Br (pv 0) (pv 1) rfl)),6];erw[y,n,d]at m.fm;erw[0,0,fl1 ⋯,0,y,n,hQ d ⋯,y,1,fl2 ⋯ d,fl2 ⋯ d,6];erw[e,C,f,0,he,M,6];erw[0,0,e,C,CA,1,he,c,j,q]
end
def Jx{H:Hp}{e dx:Addr}{a:Str}{v:V}(h0:H e=none)(h1:upd H e (pP C e) dx=none)(h2:dx≠e):Same H (upd (upd (upd H e (pP C e)) dx (.xd [(a,v)])) e (uS C e dx))/\Ex (upd (upd (upd H e (pP C e)) dx (.xd [(a,v)])) e (uS C e dx)) e C a v:=by
 rw[aB h2]at h1;erw[λb o c=>?_,dx,aX,6]
 . rw[aB (bh c h0),aB (bh c h1),aB (bh c h0)];exact c
 . rw[aB h2,aX]
def Gq{H:Hp}{e:Addr}{Q:VK}(c:FmOk v)(he:H e=none)(h:∀b,Same H b->Ex b e C a v->Q .non b):spXI C a [.ref e,v] (upd H e (pP C e)) Q E:=by
 erw[e,v,1,aX,c,λdx h1 h2=>?_];let%[s|x]:=Jx (a:=a) (v:=v) he h1 h2;exact h _ s x
structure NoX(P:Program)(w:World)(K:W.Frag)(mg:#[9])(base:Heap)(nm:Str)(C CA f:Addr)(fd:FuncData):Prop where
 made:MkX K C f
 ok:#[2,f,fd,WL,spXI C "row"]
 b:Binds K fd WL [.none]
 cl:ClsX K C CA
 g:mg nm=some (.ref C)
def pN(C:Addr)(H:Hp)(E:XK):Prop:=∀(e dx:Addr) (b:Hp),Same H b->b e=some (JL C e dx)->b dx=some (.xd [("row",.non)])->E (.ref e) (some dx) b
def ya{K:W.Frag}{e:Addr}(c:ClsX K C CA)(r:pN C H E)(n:H e=none)(q:Same H G)(t:Ex G e C "row" .non):
 ∃d g CA dx,V.ref e=.ref d/\G d=some (uS g d dx)/\ClsX K g CA/\E (.ref d) (some dx) (upd G d (JL g d dx)):=by
 erw[dx,e1,e2]at t;let j:dx≠e:=λz=>by
  rw[z,e1]at e2;cases e2
 erw[e,C,CA,dx,1,e1,c,r e dx _ (λb o m=>?_) aX (by rw[aB j];exact e2)];rw[aB (bh m n)];exact q _ _ m
def JO:Vals [V.non] [Value.none]:=.cons rfl .nil
def LC{K:W.Frag}{fd:FuncData}{x:Str}{d:Value}(h:∀(s:Shared) (u:Value),K.In s.heap->BindsTo s fd %[[u]|[]] [("self",u),(x,d)]):Binds K fd ["self",x] [d]:=λs us KX hl=>by
 let e:us.length=1:=#[hl,0]
 match us,e with
 | [u],_=>exact h s u KX
def clsfc{K:W.Frag}{C g:Addr}{m:Str}(h:W.findCls K (.ref C) (.type "type") m=some (.val (.ref g))):(match W.findCls K (.ref C) (.type "type") m with | some (.val v)=>some v | _=>none)=some (.ref g):=by
 rw[h]
def JW{c A B:Prop}[Decidable c](hc:¬ c)(h:A):if(!decide c)=true then A else B:=by
 rw[ll hc];exact dZ h
section
variable {C CG:Addr}
def BT(a:Str×Option Int):(awV a)[0]?=some (.str a.1):=by
 unfold awV
 split <;> rfl
def mq{K:W.Frag}{H:Hp}{a:Addr}{xs:List Int}(h:H a=some (.tup (xs.map V.int))):Rep K H (.ref a) (.tuple (xs.map PyData.int)):=.tup (eS h) (xX xs)
def BK(xs:List Int):PyData.eqv (.tuple (xs.map PyData.int)) (.tuple [])=decide (xs=[]):=by
 cases xs with
 |nil=>rfl
 |cons a r=>rfl
def mf(ns:List Int):SeqAt.shaped (.tuple (ns.map PyData.int))=true:=by
 simp [SeqAt.shaped,PyData.canLay0,PyData.depth,W.ke_canLayAll0,W.ke_depthAll]
def IntsAt.sq{K:W.Frag}(h:IntsAt H l xs):SqL K H l (xs.map V.int)∨SqT K H l (xs.map V.int):=h.elim (λe=>.inl (fy e)) λe=>.inr (eS e)
def En{K:W.Frag}{Q:VK}(h:IntsAt H c cs)(q:∀d b,Same H b->b d=some (.tup (cs.map V.int))->Q (.ref d) b):rTupOf K [.ref c] H Q:=by
 rcases h with h | h
 . erw[c,0,.inl %[fy h|λl hl=>q l _ (fj hl _) aX]]
 . erw[c,0,.inr %[eS h|q c H (λ_ _ e=>e) h]]
instance spHear(C CG:Addr):∀(D g l:Addr) (z:Db) (xs:List Int) (ns:List Str) (ts:List Tr) (p:Int),vs=[.ref D,.ref l]->DbAt C H D g z->Gm CG H g ns ts p->GmK ns ts p->IntsAt H l xs->z.aw=(("hear":Str),some (xs.length:Int))->cw xs p->xs.length<=500->(z.cl≠[]->kY xs p)->z.to.length<=ns.length->cw z.to p->(∀H',SameBut D H H'->DbAt C H' D g (cM ns ts p xs z)->Q .non H'):=1
def Fa:FnScope WD WD (af wI):=%[|5]
def we(C CG b:Addr):Sp:=λvs H Q E=>spHear C CG vs H Q E∨∃(D g:Addr) (v:V) (z:Db),vs=[.ref D,v]/\DbAt C H D g z/\z.aw.1≠"hear"/\pN b H E
def FS(F:#["hear","Doubter.hear",wI])(B:Bl mg)(T:DTxt K mg C)(TG:GTxt K mg CG)(N:NoX P w K mg base "NoTurn" cT CA fN a0)(cf:#[1,"is_number",WZ,spIsNum])
 (mC:Meth K C "hear_claims" fC)(GC:#[17,fC,ap,WD,spClaims C CG])(bC:Binds K ap WD [])
 (mR:Meth K C "hear_row" fR)(GR:#[6,fR,ar,WD,spHRow C CG])(bR:Binds K ar WD []):FnOk P w K mg base (CXr P w) 18 f fd WD (we C CG cT):=by
 apply F.okX Fa (λvs H Q E h=>?_) (λcdv A outer s H vs Q E hr h=>?_)
 . rcases h with⟨D,g,l,z,xs,ns,ts,p,rfl,_⟩ | ⟨D,g,v,z,rfl,_⟩ <;> rfl
 let as:Room (2+1) _:=hr.mono ⋯;let av:Room 6 _:=hr.mono ⋯;refine⟨_,(aa (aG (ag jY (aI ix_tup (aF (pv 0) rfl) ae #[1]) ao (aq _)) (ac (yf (vq N.made N.ok as rfl N.g N.b JO be))) au)
  (aa (aG (ag jY (aE aD rfl B.len hR %[1|aV]) (aI ix_tup (aF (pv 0) rfl) ae #[1]) (aq _)) ba au)
  (aa (aG (dO (di (aE (jm rfl) rfl B.all QJ (aJ (bX (N:=WA) (ix:=[0]) rfl
   #[3] rfl
   (Ky (pv 1)) (λ_ _ _=>cr (ai cf hr ⋯ rfl %[0,ms K (ms K (pv 1))|aV]))) aV)))) ba au)
  (aa (aZ (pv 0) (ax aU (aF (pv 0) rfl) (aE aD rfl B.len hR %[1|aV])) rfl)
  (ac (aG (ag (Ag hr.units) (aF (pv 0) rfl) (aO aV) (aq _))
   (ac (aQ (bu (pv 0) T.cl mC GC hr bC .nil be %[aR aY rfl B.tuple bq %[1|aV]|aV])))
   (ac (aQ (bu (pv 0) T.cl mR GR av bR .nil be %[aR aY rfl B.tuple bq %[1|aV]|aV]))))))))),?_⟩
 rcases h with⟨D,g,l,z,xs,ns,ts,p,rfl,⟨dx,m,x,y,L,R⟩,G,k,hl,ea,xo,xl,ro,tl,po,q⟩ | ⟨D,g,v,z,rfl,⟨dx,m,x,y,L,R⟩,aw,rr⟩
 rotate_left
 . erw[0,D,C,dx,_,0,R.hD,9,T.nA,DP,m,_,2,eS R.hA,bd (j:=0) (BT _),1,0,6];apply JW (λe=>aw (V.str.inj e)) ?_;erw[kr _,λe ze=>Gq (.inr (.inr rfl)) ze λG4 s4 x4=>%[1|ya N.cl rr ze s4 x4]]
 let gD:=G.ne R.hD lW;let hA:=R.hA;rw[ea]at hA;let hA:H m=some (.tup [.str "hear",.int (xs.length:Int)]):=hA;erw[0,D,C,dx,_,0,R.hD,9,T.nA,DP,m,_,2,eS hA,bd (j:=0) rfl,1,0,6];apply mZ rfl ?_;erw[0,l,0,hl.sq,0,D,C,dx,_,0,R.hD,9,T.nA,DP,m,_,2,eS hA,bd (j:=1) rfl,1,0,6];apply mZ (by rw[fx]) ?_;let G':=G;erw[a,b,d,tv,%[dg|hg],ha,hb,TS,hd]at G';obtain⟨c0,hB⟩:∃c0:Bool,∀M,Same H M->SqB K c0 M l (xs.map V.int):=hl.elim (λe=>%[true|λM S=>fy (S _ _ e)]) λe=>%[false|λM S=>eS (S _ _ e)]
 erw[0,c0,l,1,%[_|hB H (Same.refl _)],λW hW=>?_];apply HE (K:=K) (c:=c0) (xs:=xs.map V.int) (λi M=>M W=some (.lst ((List.replicate i true).map V.bl))/\Same H M) %[by rw[aX];rfl|fj hW _] (λi M _ h=>hB M h.2) ?_ ?_
 . rintro i v H2 hv ⟨aK,U⟩;let hi:=(Qs hv).1;rw[kv]at hv;let%[n,hn|1]:=qs hv;let nr:=xo n (lr hn);erw[0,0,D,C,dx,_,0,U _ _ R.hD,9,T.nG,lW,g,CG,dg,_,0,U _ _ hg,TG.cl,TG.nF,jD ..,n,p,1,6];rw[j2 nr.1,j2 nr.2];erw[_,aK,6,Nx.of hi %[6|λb o e=>?_]]
   . rw[fx,y3];rw[fx]at hi;exact aN #[0]
   . rw[aX,Rf,hI];rfl
   . rw[aB (bh e hW)];exact U _ _ e
 rintro Y ⟨aL,S1⟩;erw[W,0,fy aL,6];let ea:(List.replicate (xs.map V.int).length true).all id=true:=by simp
 rw[ea];erw[0,6];apply cz ?_;let O:=R.same S1;let G1:=G.same S1;erw[0,D,C,dx,_,0,O.hD,9,T.nP,Ht,0,l,0,(hl.same S1).sq,2,0,D,C,dx,0,O.hD,9,T.nP,eW,6];rw[zW,fx];let U:SameBut D Y (upd Y D (.ins C dx (dl g m x z.s y L z.ed (z.pl+(xs.length:Int))))):=SameBut.upd _;let R2:DbR C (upd Y D (.ins C dx (dl g m x z.s y L z.ed (z.pl+(xs.length:Int))))) D g { z with pl:=z.pl+(xs.length:Int) } dx m x y L:=DbR.set (z:={ z with pl:=z.pl+(xs.length:Int) }) O.hD O.hA O.hC O.hH O.hT;let G2:=G1.but O.hD gD U;let r:upd Y D (.ins C dx (dl g m x z.s y L z.ed (z.pl+(xs.length:Int)))) l=Y l:=aB (hl.elim (λe=>bV e R.hD nofun) λe=>bV e R.hD nofun);let r:IntsAt (upd Y D (.ins C dx (dl g m x z.s y L z.ed (z.pl+(xs.length:Int))))) l xs:=(hl.same S1).elim (λe=>.inl (r.trans e)) λe=>.inr (r.trans e)
 generalize upd Y D (.ins C dx (dl g m x z.s y L z.ed (z.pl+(xs.length:Int))))=H2 at U R2 G2 r;erw[0,D,C,dx,_,0,R2.hD,9,T.nC,dl_c,y0S,λu hu=>?_];let I:=fj hu (.tup []);let R3:=R2.same I;let ah:upd H2 u (.tup []) u=some (.tup []):=aX;let ab:=r.same I;let G3:=G2.same I;generalize upd H2 u (.tup [])=H3 at I R3 ah ab G3;let an:SameBut D H H3:=(f4 S1).trans (U.trans (f4 I));erw[_,_,mq R3.hC,mq (xs:=[]) ah,mf _,mf [],0,6];rw[show PyData.eqv (.tuple (z.cl.map PyData.int)) (.tuple (([]:List Int).map PyData.int))=decide (z.cl=[])from BK z.cl]
 by_cases c:z.cl=[]
 . apply aW c ?_;let e:cM ns ts p xs z=lT ns ts p xs { z with pl:=z.pl+(xs.length:Int) }:=by
    unfold cM;rw[Qk c]
   rw[e]at q;erw[0,D,dx,0,R3.hD,dl_n6,6];erw[0,En ab λt H4 J ht=>?_];erw[D,g,t,_,xs,ns,ts,p,1,%[dx,m,x,y,L|R3.same J],G3.same J,k,ht,tl,po,λH5 S5 D5=>q H5 (an.trans ((f4 J).trans S5)) D5]
 . apply az c ?_;let e:cM ns ts p xs z=gn p xs { z with pl:=z.pl+(xs.length:Int) }:=by
    unfold cM;rw[Qi c]
   rw[e]at q;erw[0,D,dx,0,R3.hD,dl_n8,6];erw[0,En ab λt H4 J ht=>?_];erw[D,g,t,_,xs,ns,ts,p,1,%[dx,m,x,y,L|R3.same J],G3.same J,k,ht,ro c,λH5 S5 D5=>q H5 (an.trans ((f4 J).trans S5)) D5]
instance spToss(C CG:Addr):∀(D g:Addr) (z:Db) (r:Int) (ns:List Str) (ts:List Tr) (p:Int),vs=[.ref D,.int r]->DbAt C H D g z->Gm CG H g ns ts p->GmK ns ts p->z.aw.1="coin"->0<=r->r<p->z.to.length<=ns.length->(z.he≠[]->kY z.he p/\z.to.length<ns.length)->cw z.to p->(∀H',SameBut D H H'->DbAt C H' D g (dz ns ts p r z)->Q .non H'):=1
def EY:FnScope WI WI (af wG):=%[|5]
instance rCatA(K:W.Frag)(x:V)(y:V)(H:Hp)(Q:VK):∀a b xs ys,x=.ref a->y=.ref b->SqT K H a xs->SqT K H b ys->ys≠[]->xs.length+ys.length<=sizeLine->(xs=[]->Q (.ref b) H)->(xs≠[]->∀p,H p=none->Q (.ref p) (upd H p (.tup (xs++ys)))):=0
def BD:OpR X (binaryOp .Add) (rCatA X.K):=by
 exists 4,x,y,v,u,Q,I,d,e,h;erw[a,b,xs,ys,ex,g,j,m,n,o,q,r]at h
 by_cases c:xs=[]
 . subst c;exact oY Qh s σ H x y v u Q I d e %[a,b,ys,ex,g,j,m|q rfl]
 . exact op_catT Qh s σ H x y v u Q I d e %[a,b,xs,ys,ex,g,j,m,c,o,λz=>absurd z n|λ_=>r c]
def vZ(C CG b:Addr):Sp:=λvs H Q E=>spToss C CG vs H Q E∨∃(D g:Addr) (z:Db) (v:V),vs=[.ref D,v]/\DbAt C H D g z/\z.aw.1≠"coin"/\pN b H E
def FQ(F:#["toss","Doubter.toss",wG])(B:Bl mg)(T:DTxt K mg C)(TG:GTxt K mg CG)(N:NoX P w K mg base "NoTurn" cT CA fN bg)(cf:#[1,"is_number",WZ,spIsNum])(b9:#[4,"value_at",WJ,spVal])
 (mB:Meth K C "begin_rounds" fB)(GB:#[16,fB,av,WP,spBeg C CG])(bB:Binds K av WP [])
 (mG:Meth K C "go_on" fG)(GG:#[15,fG,aw,WA,spGo C CG])(bG:Binds K aw WA []):FnOk P w K mg base (CXr P w) 17 f fd WI (vZ C CG cT):=by
 apply F.okX EY (λvs H Q E h=>?_) (λcdv A outer s H vs Q E hr h=>?_)
 . rcases h with⟨D,g,z,r,ns,ts,p,rfl,_⟩ | ⟨D,g,z,v,rfl,_⟩ <;> rfl
 let aK:Room (2+1) _:=hr.mono ⋯;let ab:Room 15 _:=hr.mono ⋯;refine⟨_,(aa (aG (ag jY (aI ix_tup (aF (pv 0) rfl) ae #[1]) ao (aq _)) (ac (yf (vq N.made N.ok aK rfl N.g N.b JO be))) au)
  (aa (aG (dO (di (ai cf hr ⋯ rfl %[1,aF (aF (pv 0) rfl) rfl|aV]))) ba au)
  (aa (aZ (pv 0) (ax aU (aF (pv 0) rfl) ae) rfl)
  (ac (aG (ag (Ag hr.units) (aF (pv 0) rfl) (aO aV) (aq _))
   (ac (aQ (bu (pv 0) T.cl mB GB hr bB .nil be %[1|aV])))
   (aa (aZ (pv 0) (ai b9 hr ⋯ rfl %[aF (pv 0) rfl,1,aF (aF (pv 0) rfl) rfl|aV]) rfl)
   (aa (aZ (pv 0) (ax BD (aF (pv 0) rfl) (aO %[1|aV])) rfl)
   (ac (aQ (ci (pv 0) T.cl mG GG ab bG .nil be)))))))))),?_⟩
 rcases h with⟨D,g,z,r,ns,ts,p,rfl,⟨dx,m,o,n,y,R⟩,G,k,ea,r0,r1,tl,ro,po,q⟩ | ⟨D,g,z,v,rfl,⟨dx,m,o,n,y,R⟩,aL,rr⟩
 rotate_left
 . erw[0,D,C,dx,_,0,R.hD,9,T.nA,DP,m,_,2,eS R.hA,bd (j:=0) (BT _),1,0,6];apply JW (λe=>aL (V.str.inj e)) ?_;erw[kr _,λe ze=>Gq (.inr (.inr rfl)) ze λG4 s4 x4=>%[1|ya N.cl rr ze s4 x4]]
 let gD:=G.ne R.hD lW;let G':=G;erw[a,b,d,tv,%[dg|hg],ha,hb,TS,hd]at G';erw[0,D,C,dx,_,0,R.hD,9,T.nA,DP,m,_,2,eS R.hA,bd (j:=0) (BT _),1,0,6];apply mZ (congrArg V.str ea) ?_;erw[0,0,D,C,dx,_,0,R.hD,9,T.nG,lW,g,CG,dg,_,0,hg,TG.cl,TG.nF,jD ..,r,p,1,6];rw[j2 r0,j2 r1];erw[0,6];apply cz ?_;erw[0,D,C,dx,_,0,R.hD,9,T.nP,Ht,2,0,D,C,dx,0,R.hD,9,T.nP,eW,6];rw[zW];let S2:SameBut D H (upd H D (.ins C dx (dl g m o z.s n y z.ed (z.pl+1)))):=SameBut.upd _;let R2:DbR C (upd H D (.ins C dx (dl g m o z.s n y z.ed (z.pl+1)))) D g { z with pl:=z.pl+1 } dx m o n y:=DbR.set (z:={ z with pl:=z.pl+1 }) R.hD R.hA R.hC R.hH R.hT;let G2:=G.but R.hD gD S2;generalize upd H D (.ins C dx (dl g m o z.s n y z.ed (z.pl+1)))=H2 at S2 R2 G2;erw[0,D,C,dx,_,0,R2.hD,9,T.nH,dl_h,y0S,λu hu=>?_];let I:=fj hu (.tup []);let M:=R2.same I;let ah:upd H2 u (.tup []) u=some (.tup []):=aX;let G3:=G2.same I;generalize upd H2 u (.tup [])=H3 at I M ah G3;let an:SameBut D H H3:=S2.trans (f4 I);erw[_,_,mq M.hH,mq (xs:=[]) ah,mf _,mf [],0,6];rw[show PyData.eqv (.tuple (z.he.map PyData.int)) (.tuple (([]:List Int).map PyData.int))=decide (z.he=[])from BK z.he]
 by_cases c:z.he=[]
 . apply aW c ?_;let e:dz ns ts p r z=xH ns ts p r { z with pl:=z.pl+1 }:=by
    unfold dz;rw[Qk c]
   rw[e]at q;erw[0,D,dx,0,M.hD,Ka,0,6];erw[D,g,_,r,ns,ts,p,1,%[dx,m,o,n,y|M],G3,k,tl,po,λH5 S5 D5=>q H5 (an.trans S5) D5]
 . apply az c ?_;let%[a0|bi]:=ro c;let e:dz ns ts p r z=goOn ns ts p { z with pl:=z.pl+1,ed:=val p z.he r,to:=z.to++[r] }:=by
    unfold dz;rw[Qi c]
   rw [e]at q;let a7:=G3;erw[a3,b3,d3,bm,%[a8|a9],_]at a7;erw[0,D,C,dx,_,0,M.hD,9,T.nH,dl_h,0,0,D,C,dx,_,0,M.hD,9,T.nG,lW,g,CG,a8,_,0,a9,TG.cl,TG.nF,jD ..,n,z.he,r,p,1,.inr M.hH,a0,k.pr,k.p9,r0,r1,λH4 S4=>?_];let O:=M.same S4;let G4:=G3.same S4;erw[0,D,C,dx,0,O.hD,9,T.nE,eW,6];rw[Fs];let S5:SameBut D H4 (upd H4 D (.ins C dx (dl g m o z.s n y (val p z.he r) (z.pl+1)))):=SameBut.upd _;let R5:DbR C (upd H4 D (.ins C dx (dl g m o z.s n y (val p z.he r) (z.pl+1)))) D g { z with pl:=z.pl+1,ed:=val p z.he r } dx m o n y:=DbR.set (z:={ z with pl:=z.pl+1,ed:=val p z.he r }) O.hD O.hA O.hC O.hH O.hT;let G5:=G4.but O.hD gD S5;generalize upd H4 D (.ins C dx (dl g m o z.s n y (val p z.he r) (z.pl+1)))=H5 at S5 R5 G5;let bb:SameBut D H H5:=an.trans ((f4 S4).trans S5);erw[0,D,C,dx,_,0,R5.hD,9,T.nT,DO,0,y1S,λt ht=>?_];let J:=fj ht (.tup [.int r]);let R6:=R5.same J;let G6:=G5.same J;let U:upd H5 t (.tup [.int r]) t=some (.tup [.int r]):=aX;generalize upd H5 t (.tup [.int r])=H6 at J R6 G6 U;let n10:=k.n10;let fin:∀(x:Addr)(H7:Hp),Same H6 H7->H7 x=some (.tup ((z.to++[r]).map V.int))->(ps_fin:True)->∀QQ:Hp->Prop,(∀H8,SameBut D H7 H8->DbR C H8 D g { z with pl:=z.pl+1,ed:=val p z.he r,to:=z.to++[r] } dx m o n x->Gm CG H8 g ns ts p->QQ H8)->QQ (upd H7 D (.ins C dx (dl g m o z.s n x (val p z.he r) (z.pl+1)))):=by
    intro x H7 s7 hx _ QQ hq;let Y:=R6.same s7;exact hq _ (SameBut.upd _) (DbR.set (z:={ z with pl:=z.pl+1,ed:=val p z.he r,to:=z.to++[r] }) Y.hD Y.hA Y.hC Y.hH hx) ((G6.same s7).but Y.hD gD (SameBut.upd _))
   let ap:cw (z.to++[r]) p:=λx hx=>by
    rcases qH0 hx with h | h
    . exact po x h
    . rw[Qr h];erw[r0,r1]
   let ar:(z.to++[r]).length<=ns.length:=by
    rw[gl,q0];omega
   let as:SameBut D H H6:=bb.trans (f4 J);erw[y,t,2,eS R6.hT,eS U,(λz=>by cases z),bc (by rw[fx];show z.to.length+1<=1000;omega),λz0=>?_,λz0 p7 bf=>?_]
   . let e0:z.to=[]:=#[z0,0]
     erw[0,D,C,dx,0,R6.hD,9,T.nT,eW,6];rw[JU];apply fin t H6 (Same.refl _) (by rw[e0];exact U) trivial _ λH8 S8 R8 G8=>?_
     erw[0,D,dx,0,R8.hD,Hu,6];erw[D,g,_,ns,ts,p,1,%[dx,m,o,n,t|R8],G8,k,ar,ap,λH9 S9 D9=>q H9 (as.trans (S8.trans S9)) D9]
   . let L:=fj bf (.tup (z.to.map V.int++[.int r]));let Y:=R6.same L;erw[0,D,C,dx,0,Y.hD,9,T.nT,eW,6];rw[JU];apply fin p7 _ L (by rw[aX,hI];rfl) trivial _ λH8 S8 R8 G8=>?_
     erw[0,D,dx,0,R8.hD,Hu,6];erw[D,g,_,ns,ts,p,1,%[dx,m,o,n,p7|R8],G8,k,ar,ap,λH9 S9 D9=>q H9 (as.trans ((f4 L).trans (S8.trans S9))) D9]
instance spDInit(C CG:Addr):∀(D g dx:Addr)(ns:List Str)(ts:List Tr)(p:Int),vs=[.ref D,.ref g]->H D=some (.ins C dx [])->Gm CG H g ns ts p->g≠D->(∀H',SameBut D H H'->DbAt C H' D g (Db.new ts)->Q .non H'):=1
def EZ:FnScope WQ WQ (af wH):=%[|5]
instance spOf(C:Addr)(t:Db->V->Hp->Prop):∀(D g:Addr)(z:Db),vs=[.ref D]->DbAt C H D g z->(∀v,t z v H->Q v H):=1
def IG:FnScope WA WA (af zT):=%[|5]
def Ja(F:#["due","Doubter.due",zT])(T:DTxt K mg C):#[1,f,fd,WA,spOf C λz v _=>v=.int z.ed]:=by
 exists IG
 erw[D,g,z,1,%[dx,b,c,d,e|R],q]at h;erw[_,(ac (am (aF (pv 0) rfl))),6];erw[0,D,C,dx,_,0,R.hD,9,T.nE,Hw,q _ rfl]
def Cu:FnScope WA WA (af sQ):=%[|5]
def Dd(F:#["waits","Doubter.waits",sQ])(T:DTxt K mg C):#[1,f,fd,WA,spOf C λz v H=>∃a,v=.ref a/\H a=some (.tup (awV z.aw))]:=by
 exists Cu
 erw[D,g,z,1,%[dx,b,c,d,e|R],q]at h;erw[_,(ac (am (aF (pv 0) rfl))),6];erw[0,D,C,dx,_,0,R.hD,9,T.nA,DP,q _ %[b,1|R.hA]]
end
section
variable {C CG:Addr}
def jA{b:Addr}{o:HO}(F:FeedAt H f)(h:H b=some o)(n:∀ys,o≠.lst ys):b≠f:=λz=>by
 erw[u,t,e,_]at F;rw[z,e]at h;exact n _ (ln h).symm
def AwW(x:Str):Prop:=x="hear"∨x="coin"∨x="caught"∨x="believed"
end
section
variable {C CG:Addr}
def d1(g:Addr):List (Str×V):=[("game",.ref g)]
def d2(g t1:Addr):List (Str×V):=[("game",.ref g),("awaited",.ref t1)]
def d3(g t1 b:Addr):List (Str×V):=[("game",.ref g),("awaited",.ref t1),("claims",.ref b)]
def d4(g t1 b:Addr):List (Str×V):=[("game",.ref g),("awaited",.ref t1),("claims",.ref b),("s",.int 0)]
def d5(g t1 b c:Addr):List (Str×V):=[("game",.ref g),("awaited",.ref t1),("claims",.ref b),("s",.int 0),("heard",.ref c)]
def d6(g t1 b c t4:Addr):List (Str×V):=[("game",.ref g),("awaited",.ref t1),("claims",.ref b),("s",.int 0),("heard",.ref c),("tossed",.ref t4)]
def d7(g t1 b c t4:Addr):List (Str×V):=[("game",.ref g),("awaited",.ref t1),("claims",.ref b),("s",.int 0),("heard",.ref c),("tossed",.ref t4),("held",.int 0)]
def pd1(g:Addr):cQ "game" (.ref g) []=d1 g:=by rfl'
def pd2(g t1:Addr):cQ "awaited" (.ref t1) (d1 g)=d2 g t1:=by rfl'
def pd3(g t1 b:Addr):cQ "claims" (.ref b) (d2 g t1)=d3 g t1 b:=by rfl'
def pd4(g t1 b:Addr):cQ "s" (.int 0) (d3 g t1 b)=d4 g t1 b:=by rfl'
def pd5(g t1 b c:Addr):cQ "heard" (.ref c) (d4 g t1 b)=d5 g t1 b c:=by rfl'
def pd6(g t1 b c t4:Addr):cQ "tossed" (.ref t4) (d5 g t1 b c)=d6 g t1 b c t4:=by rfl'
def pd7(g t1 b c t4:Addr):cQ "held" (.int 0) (d6 g t1 b c t4)=d7 g t1 b c t4:=by rfl'
def pd8(g t1 b c t4:Addr):cQ "places" (.int 0) (d7 g t1 b c t4)=dl g t1 b 0 c t4 0 0:=by rfl'
def FR(F:#["__init__","Doubter.__init__",wH])(B:Bl mg)(T:DTxt K mg C)(TG:GTxt K mg CG):#[1,f,fd,WQ,spDInit C CG]:=by
 exists EZ
 erw[D,g,dx,ns,ts,p,1,hD,G,gD,q]at h;refine⟨_,(aa (aZ (pv 0) (pv 1) rfl)
  (aa (aZ (pv 0) (aO %[ao,aE aD rfl B.len hR %[aF (pv 1) rfl|aV]|aV]) rfl)
  (aa (aZ (pv 0) (aO aV) rfl)
  (aa (aZ (pv 0) ae rfl)
  (aa (aZ (pv 0) (aO aV) rfl)
  (aa (aZ (pv 0) (aO aV) rfl)
  (aa (aZ (pv 0) ae rfl)
  (ac (aZ (pv 0) ae rfl))))))))),?_⟩
 erw[a,b,d,J,%[dg|hg],ha,hb,TS,hd]at G;let vl:=TS.length;erw[0,0,D,C,dx,0,hD,9,T.nG,(by show 0<1000;decide),6];rw[pd1];let L:SameBut D H (upd H D (.ins C dx (d1 g))):=SameBut.upd _;let h1:upd H D (.ins C dx (d1 g)) D=some (.ins C dx (d1 g)):=aX;generalize upd H D (.ins C dx (d1 g))=H1 at L h1;let nb:=bV hb hD nofun;erw[0,g,CG,dg,_,0,L _ _ gD hg,TG.cl,TG.nT,pF ..,b,0,.inr (eS (L _ _ nb hb)),y2S,λt1 o=>?_];let I1:=fj o (.tup [.str "hear",.int (J.length:Int)]);let g1:upd H1 t1 (.tup [.str "hear",.int (J.length:Int)]) t1=some (.tup [.str "hear",.int (J.length:Int)]):=aX;generalize upd H1 t1 (.tup [.str "hear",.int (J.length:Int)])=M at I1 g1;erw[0,D,C,dx,0,I1 _ _ h1,9,T.nA,(by show 1<1000;decide),6];rw[pd2];let n1:t1≠D:=(bh h1 o).symm;let S2:SameBut D M (upd M D (.ins C dx (d2 g t1))):=SameBut.upd _;let h2:upd M D (.ins C dx (d2 g t1)) D=some (.ins C dx (d2 g t1)):=aX;let k1:=S2 _ _ n1 g1;generalize upd M D (.ins C dx (d2 g t1))=H3 at S2 h2 k1;erw[y0S,λc r=>?_];let N:=fj r (.tup []);let g2:upd H3 c (.tup []) c=some (.tup []):=aX;generalize upd H3 c (.tup [])=O at N g2;erw[0,D,C,dx,0,N _ _ h2,9,T.nC,(by show 2<1000;decide),6];rw[pd3];let U:c≠D:=(bh h2 r).symm;let Y:SameBut D O (upd O D (.ins C dx (d3 g t1 c))):=SameBut.upd _;let h3:upd O D (.ins C dx (d3 g t1 c)) D=some (.ins C dx (d3 g t1 c)):=aX;generalize upd O D (.ins C dx (d3 g t1 c))=H5 at Y h3;erw[0,D,C,dx,0,h3,9,T.nS,(by show 3<1000;decide),6];rw[pd4];let S4:SameBut D H5 (upd H5 D (.ins C dx (d4 g t1 c))):=SameBut.upd _;let h4:upd H5 D (.ins C dx (d4 g t1 c)) D=some (.ins C dx (d4 g t1 c)):=aX;generalize upd H5 D (.ins C dx (d4 g t1 c))=H6 at S4 h4;erw[y0S,λj t=>?_];let v:=fj t (.tup []);let g3:upd H6 j (.tup []) j=some (.tup []):=aX;generalize upd H6 j (.tup [])=H7 at v g3;erw[0,D,C,dx,0,v _ _ h4,9,T.nH,(by show 4<1000;decide),6];rw[pd5];let n3:j≠D:=(bh h4 t).symm;let y:SameBut D H7 (upd H7 D (.ins C dx (d5 g t1 c j))):=SameBut.upd _;let h5:upd H7 D (.ins C dx (d5 g t1 c j)) D=some (.ins C dx (d5 g t1 c j)):=aX;generalize upd H7 D (.ins C dx (d5 g t1 c j))=H8 at y h5;erw[y0S,λt4 z=>?_];let m:=fj z (.tup []);let g4:upd H8 t4 (.tup []) t4=some (.tup []):=aX;generalize upd H8 t4 (.tup [])=H9 at m g4;erw[0,D,C,dx,0,m _ _ h5,9,T.nT,(by show 5<1000;decide),6];rw[pd6];let n4:t4≠D:=(bh h5 z).symm;erw[0,D,C,dx,0,aX,9,T.nE,(by show 6<1000;decide),6];rw[pd7];erw[0,D,C,dx,0,aX,9,T.nP,(by show 7<1000;decide),6];rw[pd8];let W:∀{x:Addr} {H':Hp} {o1 o2 o3:HO} {u:HO},x≠D->H' x=some u->upd (upd (upd H' D o1) D o2) D o3 x=some u:=λ{x H' o1 o2 o3 u} n e=>by
  rw[aB n,aB n,aB n];exact e
 let k2:=Y _ _ U g2;let k3:=y _ _ n3 g3;apply q _ (L.trans ((f4 I1).trans (S2.trans ((f4 N).trans (Y.trans (S4.trans ((f4 v).trans (y.trans ((f4 m).trans ((SameBut.upd _).trans ((SameBut.upd _).trans (SameBut.upd _)))))))))))) %[dx,t1,c,j,t4,aX,6,6,6|W n4 g4]
 . rw[vl]at k1;exact W n1 (m _ _ (y _ _ n1 (v _ _ (S4 _ _ n1 (Y _ _ n1 (N _ _ k1))))))
 . exact W U (m _ _ (y _ _ U (v _ _ (S4 _ _ U k2))))
 . exact W n3 (m _ _ k3)
end
def mY(o:Str)(p q:Bool):Bool:=if o="and" then p&&q else if o="or" then p||q else if o="odd" then p != q else p==q
def Tr.holds(ns:List Str)(st:List Int):Tr->Bool
 |.is x=>match iC x ns with | some j=>decide (st.getD j 0=1) | none=>false
 |.yes=>true
 |.no=>false
 |.not a=>!a.holds ns st
 |.bin o a b=>mY o (a.holds ns st) (b.holds ns st)
instance spJoined:∀(o:Str)(p q:Bool),vs=[.str o,.bl p,.bl q]->Q (.bl (mY o p q)) H:=1
def Cr:FnScope We We (af sN):=%[|5]
def CZ(F:#["joined",sN]):#[1,f,fd,We,spJoined]:=by
 exists Cr
 erw[o,p,q,1,k]at h;refine⟨_,(aa (aG (ag aP (pv 0) ao (aq _)) (ac (am (Af (pv 1) (Ac (pv 2))))) au)
  (aa (aG (ag aP (pv 0) ao (aq _)) (ac (am (pe_or (pv 1) (Ac (pv 2))))) au)
  (aa (aG (ag aP (pv 0) ao (aq _)) (ac (am (ig jY (pv 1) (pv 2) (aq _)))) au)
  (ac (am (ig aP (pv 1) (pv 2) (aq _))))))),?_⟩
 erw[0,1,0,6]
 by_cases b:V.str o=V.str "and"
 . apply aW b ?_;let e:mY o p q=(p&&q):=by unfold mY;rw[Qk (ia b)]
   rw[e]at k;erw[0,p,1,6];cases p with
   |true=>exact dZ %[0|by simpa using k]
   |false=>exact cz #[k,0]
 apply az b ?_;let n1:¬ o="and":=λz=>b (by rw[z])
 erw[0,1,0,6]
 by_cases c:V.str o=V.str "or"
 . apply aW c ?_;let e:mY o p q=(p||q):=by unfold mY;rw[Qi n1,Qk (ia c)]
   rw[e]at k;erw[0,p,1,6];cases p with
   |true=>exact dZ #[k,0]
   |false=>exact cz %[0|by simpa using k]
 apply az c ?_;let g:¬ o="or":=λz=>c (by rw[z])
 erw[0,1,0,6]
 by_cases d:V.str o=V.str "odd"
 . apply aW d ?_;let e:mY o p q=(p != q):=by unfold mY;rw[Qi n1,Qi g,Qk (ia d)]
   rw[e]at k;erw[0,0,1,6];let e2:(!decide (V.bl p=V.bl q))=(p != q):=by cases p <;> cases q <;> decide
   show Q (.bl (!decide (V.bl p=V.bl q))) H;rw[e2];exact k
 apply az d ?_;let j:¬ o="odd":=λz=>d (by rw[z])
 let e:mY o p q=(p==q):=by unfold mY;rw[Qi n1,Qi g,Qi j]
 rw[e]at k;erw[0,0,1,6];let e2:decide (V.bl p=V.bl q)=(p==q):=by cases p <;> cases q <;> decide
 show Q (.bl (decide (V.bl p=V.bl q))) H;rw[e2];exact k
instance spHolds(n:Nat):∀(v:V)(t:Tr)(a b:Addr)(ns:List Str)(st:List Int),vs=[v,.ref a,.ref b]->TreeAt H v t->t.ok ns->t.depth<=n->NamesAt H a ns->H b=some (.tup (st.map V.int))->st.length=ns.length->Q (.bl (t.holds ns st)) H:=1
def mQ:FnScope ["tree","switches","setting","word","first"] Wa (af kG):=%[|5]
def AO{n:Nat}(F:#["holds_at",kG])(L:#[1,"joined",We,spJoined])(C:#[n+2,"holds_at",Wa,spHolds n]):#[n+3,f,fd,Wa,spHolds (n+1)]:=by
 exists mQ
 erw[v,t,a,b,ns,st,1,T,ok,D,d,g,m,k]at h;refine⟨_,(aa #[aj,3,mQ,aI ix_tup (pv 0) ae #[1]]
  (aa (aG (ag aP (pv 3) ao (aq _)) (ac (am (ig aP (aI ix_tup (pv 2) (yi qq PySem.F.plainAttrs_tuple (pv 1) %[aI ix_tup (pv 0) ae #[1]|aV]) #[1]) ae (aq _)))) au)
  (aa (aG (PW.pt (eO (ag aP (pv 3) ao (aq _)) (dL (ag aP (pv 3) ao (aq _))))) (ac (am (ig aP (pv 3) ao (aq _)))) au)
  (aa #[aj,4,mQ,ai C hr (fz _) rfl %[aI ix_tup (pv 0) ae #[1],1,2|aV]]
  (aa (aG (ag aP (pv 3) ao (aq _)) (ac (am (Fz (pv 4)))) au)
  (ac (am (ai L hr #[0] rfl %[3,4,ai C hr (fz _) rfl %[aI ix_tup (pv 0) ae #[1],1,2|aV]|aV])))))))),?_⟩
 cases T with
 | @is p x e=>
   erw[0,p,_,(0),0,1,eS e,1,6];erw[0,1,0,6];apply aW rfl ?_;let%[j,J|Y]:=mr ok;let c:j<st.length:=#[0]
   erw[0,0,a,ns,1,d,0,p,_,(1),0,1,eS e,1,1,x,j,1,J,b,_,(j:Int),.int st[j],1,1,eS g,6,1,6]
   . apply bd ?_;rw[kv,j3 c];rfl
   . let e1:(Tr.is x).holds ns st=decide (V.int st[j]=V.int 1):=by
      show(match iC x ns with | some j=>decide (st.getD j 0=1) | none=>false)=_;rw[J];show decide (st.getD j 0=1)=_;rw[y0,j3 c]
      simp
     rw[e1]at k;exact k
 | @yes p e=>
   erw[0,p,_,(0),0,1,eS e,1,6];erw[0,1,0,6];apply az ⋯ ?_;erw[0,1,0,6];apply aW rfl (dZ ?_);erw[0,1,k]
 | @no p e=>
   erw[0,p,_,(0),0,1,eS e,1,6];erw[0,1,0,6];apply az ⋯ ?_;erw[0,1,0,6];apply az ⋯ ?_;erw[0,1,0,6];apply aW rfl ?_;erw[0,1,6];let e1:decide (V.str "no"=V.str "yes")=false:=by decide
   show Q (.bl (decide (V.str "no"=V.str "yes"))) H;rw[e1];exact k
 | @not p u r e q=>
   let dp:r.depth+1<=n+1:=D;erw[0,p,_,(0),0,1,eS e,1,6];erw[0,1,0,6];apply az ⋯ ?_;erw[0,1,0,6];apply az ⋯ ?_;erw[0,1,0,6];apply az ⋯ ?_;erw[0,p,_,(1),0,1,eS e,1,0,0,u,r,a,b,ns,st,1,q,ok,3,d,g,m,6];erw[0,1,0,6];apply aW rfl ?_;erw[0,0,k]
 | @bin p o u M r r2 e q N=>
   erw[O,y,B]at ok;let dp:max r.depth r2.depth+1<=n+1:=D;let ne:∀z:Str,z∉joinW->¬ V.str o=V.str z:=λz U h=>U (ia h▸O)
   erw[0,p,_,(0),0,1,eS e,1,6];erw[0,1,0,6];apply az (ne _ ⋯) ?_;erw[0,1,0,6];apply az (ne _ ⋯) ?_;erw[0,1,0,6];apply az (ne _ ⋯) ?_;erw[0,p,_,(1),0,1,eS e,1,0,0,u,r,a,b,ns,st,1,q,y,3,d,g,m,6];erw[0,1,0,6];apply az (ne _ ⋯) ?_;erw[0,0,0,p,_,(2),0,1,eS e,1,0,0,M,r2,a,b,ns,st,1,N,B,3,d,g,m,6];erw[o,_,0,k]
def AN:#[2,f,fd,Wa,spHolds 0]:=by
 let no:∀vs H Q E,¬ spHolds 0 vs H Q E:=λvs H Q E h=>by
  erw[v,t,_,_,_,_,_,_,_,h1,_]at h
  have:=t.depth_pos
  omega
 exists 3
def qS(F:#["holds_at",kG])(m:mg "holds_at"=some (.ref f))(b:#[1,"joined",We,spJoined]):
 ∀n:Nat,#[n+2,f,fd,Wa,spHolds n]
 |0=>AN
 |n+1=>AO F b (Cal.of F (qS F m b n) m (λ_ _ _ _ _ _ us hl=>by let%[c,d,e|1]:=KP hl;rfl))
def Kc(H:Hp)(v:V)(s:List Int):Prop:=∃a,v=.ref a/\H a=some (.tup (s.map V.int))
abbrev TupsAt(H:Hp):List V->List (List Int)->Prop:=PySem.Paired (Kc H)
def HU(H:Hp)(r:Addr)(ss:List (List Int)):Prop:=∃b,H r=some (.lst b)/\TupsAt H b ss
def TupsAt.mono{H b:Hp}(k:∀a xs,H a=some (.tup xs)->b a=some (.tup xs)):∀{c:List V}{ss:List (List Int)},TupsAt H c ss->TupsAt b c ss
 |_,_,.nil=>.nil
 |_,_,.cons ⟨a,e,h⟩ t=>.cons %[a,e|k _ _ h] (TupsAt.mono k t)
def TupsAt.get:∀{b:List V}{ss:List (List Int)}{i:Nat}{v:V},TupsAt H b ss->b[i]?=some v->∃s,ss[i]?=some s/\Kc H v s
 |_,_,_,_,.nil,h=>by simp at h
 |_,_,0,_,.cons h _,e=>by
   simp at e
   subst e;erw[0,h]
 |_,_,i+1,v,.cons _ t,e=>by
   let%[s,h1|h2]:=TupsAt.get (i:=i) t #[e,0];erw[s,by simpa using h1,h2]
def Dz{ys:List V}(s:SameBut b H c)(h:H b=some (.lst ys)∨H b=none):∀a xs,H a=some (.tup xs)->c a=some (.tup xs):=λa xs e=>s a _ (λz=>by
 rw[z]at e;rcases h with h | h
 . rw[h]at e;cases e
 . rw[h]at e;cases e) e
def zm{K:W.Frag}{b:Hp}{a p:Addr}{s:List Int}{z:Int}{Q:VK}(e:b a=some (.tup (s.map V.int)))(c:b p=some (.tup [.int z]))(hl:s.length<=100)
 (q:∀t d,Same b d->d t=some (.tup ((s++[z]).map V.int))->Q (.ref t) d):rCatT K (.ref a) (.ref p) b Q∨rCatT0 K (.ref a) (.ref p) b Q:=by
 cases s with
 |nil=>exact .inr %[a,p,0,1,eS e,eS c|q p b (Same.refl _) c]
 |cons x r=>
   refine .inl %[a,p,2,eS e,eS c,by simp,bc (by simp at hl ⊢;omega),(λz=>nomatch z)|(λ_ t g=>q t _ (fj g _) ?_)];rw[aX,hI];rfl
instance spSetts:∀n:Int,vs=[.int n]->0<=n->n<=6->(∀(r:Addr)(H':Hp),H r=none->Same H H'->HU H' r (dJ n.toNat)->Q (.ref r) H'):=1
def c9:FnScope ["n","told","switch","longer","setting"] ["n"] (af jf):=%[|5]
def rE(F:#["all_settings",jf])(m:mg "range"=none):#[1,f,fd,["n"],spSetts]:=by
 exists c9
 erw[n,1,n0,n6,q]at h;refine⟨_,(aa #[aj,1,c9,cY %[aO aV|aV]]
  (aa (cV n7 rfl (cZ rfl m %[0|aV]) (bn (i:=2) c9.nd rfl (.inl rfl)) (aa #[aj,3,c9,cY aV]
   (aa (cV n7 rfl (eC (pv 1)) (bn (i:=4) c9.nd rfl (.inl rfl)) (aa (aQ (bZ qq sk ti ca (pv 3) %[ax (op_catT.or oY) (pv 4) (aO %[ae|aV])|aV]))
    (ac (aQ (bZ qq sk ti ca (pv 3) %[ax (op_catT.or oY) (pv 4) (aO %[ae|aV])|aV])))))
   (ac #[aj,1,c9,pv 3]))))
  (ac (am (pv 1))))),?_⟩
 erw[y0S,λp hp=>?_];erw[y1S,λa L=>?_];let np:p≠a:=λz=>by
  subst z;rw[aX]at L;cases L
 let U:H a=none:=(fj hp _).free L;refine⟨_,rfl,n,rfl,#[0],#[0],eQ (λi σ r=>∃(a:Addr)(Y x3 u:Option V),σ=[some (.int n),some (.ref a),Y,x3,u]/\H a=none/\Same H r/\HU r a (dJ i))
  %[a,_,_,0,U,(fj hp _).trans (fj L _),[.ref p],aX|.cons ⟨p,rfl,by rw[aB np,aX];rfl⟩ .nil] ?_ ?_⟩
 . rintro i σ r hi ⟨a,Y,x3,u,rfl,a0,s0,rs,v,T⟩;let i6:i<6:=#[0]
   let sl:=mh i;let s64:=qj (n:=i) #[0];erw[y0S,λb M=>?_];let ab:a≠b:=bh v M;refine⟨_,rfl,a,rfl,%[_|fy (by rw[aB ab];exact v)],lU (K:=K) (xs:=rs) (λj σ g=>∃(u:Option V)(bs:List V),σ=[some (.int n),some (.ref a),some (.int (0+(i:Int))),some (.ref b),u]/\SameBut b r g/\g b=some (.lst bs)/\TupsAt g bs (((dJ i).take j).flatMap λs=>[s++[0],s++[1]]))
    %[_,[],1,SameBut.upd _,aX|.nil] (λj σ g _ Qn=>by erw[_,_,_,B,_]at Qn;exact fy (B a _ ab v)) ?_ ?_⟩
   . rintro j y σ g hj ⟨u,bs,rfl,B,c,C⟩;let T2:TupsAt g rs (dJ i):=T.mono (Dz (ys:=[]) B (.inr M));let%[s,hs,t,1|ht]:=T2.get hj;let ah:s∈dJ i:=lr hs;let as:=ib i s ah;let an:=C.length;rw[qB,lw]at an;erw[0,.inl %[1,_|fy c],6];erw[0,y1S,λp1 ap=>?_];let S1:Same g (upd g p1 (.tup [.int 0])):=fj ap _;apply zm (s:=s) (z:=0) (S1 _ _ ht) aX #[0] λt1 D S3 e3=>?_
     let d:Same g D:=S1.trans S3;erw[b,bs,0,1,d _ _ c,aN #[0],6];let K4:=fJ (H:=D) (b:=b) (ys:=bs) (zs:=bs++[.ref t1]) (d _ _ c);let e4:=K4 _ _ e3;let t4:=K4 _ _ (d _ _ ht);erw[0,.inl %[1,_|fy aX],6];erw[0,y1S,λp2 ar=>?_];let S4:Same (upd D b (.lst (bs++[.ref t1]))) (upd (upd D b (.lst (bs++[.ref t1]))) p2 (.tup [.int 1])):=fj ar _;apply zm (s:=s) (z:=1) (S4 _ _ t4) aX #[0] λN O S5 e5=>?_
     let o:=S4.trans S5;let J:O b=some (.lst (bs++[.ref t1])):=o _ _ aX;erw[b,bs++[.ref t1],0,1,J,aN (by rw[gl,q0];omega),6];let K6:=fJ (H:=O) (b:=b) (ys:=bs++[.ref t1]) (zs:=bs++[.ref t1]++[.ref N]) J;erw[_,bs++[.ref t1]++[.ref N],1,6,aX,6]
     . let q1:SameBut b r D:=B.trans (f4 d);let q2:SameBut b r O:=(q1.trans (SameBut.upd _)).trans (f4 o);exact q2.trans (SameBut.upd _)
     . let x:TupsAt (upd O b (.lst (bs++[.ref t1]++[.ref N]))) bs (((dJ i).take j).flatMap λs=>[s++[0],s++[1]]):=
        C.mono λa xs e=>K6 _ _ (o _ _ (K4 _ _ (d _ _ e)))
       rw[nh,hs,List.flatMap_append];let e:((some s).toList.flatMap λs:List Int=>[s++[0],s++[1]])=[s++[0]]++[s++[1]]:=by simp
       rw[e,←RE];exact(x.snoc %[t1,1|K6 _ _ (o _ _ e4)]).snoc ⟨N,rfl,K6 _ _ e5⟩
   . rintro σ g ⟨u,bs,rfl,B,c,C⟩;let rl:=T.length;rw[rl,mu]at C;erw[0,b,_,_,0,s0.free M,s0.but (s0.free M) B,bs,c,C]
 . rintro σ r ⟨a,Y,x3,u,rfl,a0,s0,S⟩;erw[0,q a r a0 s0 S]
def cnt(t:Tr)(ns:List Str):Nat:=((dJ ns.length).filter λst=>t.holds ns st).length
instance spCount:∀(v:V)(t:Tr)(a:Addr)(ns:List Str),vs=[v,.ref a]->TreeAt H v t->t.ok ns->t.depth<=12->NamesAt H a ns->ns.length<=6->(∀H',Same H H'->Q (.int (cnt t ns:Int)) H'):=1
def C5:FnScope ["tree","switches","holding"] Wo (af og):=%[|5]
def yz(F:#["count_of",og])(d:mg "len"=none)(Y:#[1,"all_settings",["n"],spSetts])(gu:#[14,"holds_at",Wa,spHolds 12]):#[15,f,fd,Wo,spCount]:=by
 exists C5
 erw[v,t,a,ns,1,T,ok,dp,J,nl,q]at h;refine⟨_,(aa (rM (i:=2) (N:=Wo) (ix:=[0,1]) C5.nd rfl (.inl rfl) rfl
  #[4] rfl
  (eC (ai Y hr ⋯ rfl %[aE aD rfl d hR %[1|aV]|aV]))
  (λ_ _ _=>pb_if (di (ai gu hr ⋯ rfl %[1,2,0|aV])) (pv 0)))
  (ac (am (aE aD rfl d hR %[2|aV])))),?_⟩
 let en:((ns.map V.str).length:Int)=(ns.length:Int):=by rw[fx]
 erw[0,a,0,J.seq,0,3,3,λr H1 r0 L y=>?_];rw[en]at y;let e2:((ns.length:Int)).toNat=ns.length:=#[0]
 rw[e2]at y;erw[z,j,TS]at y;let rl:=TS.length;let sl:=mh ns.length;let s64:=qj nl;erw[r,1,%[_|fy j],λD hD=>?_];apply de (K:=K) (xs:=z) (λi B=>∃ys,B D=some (.lst ys)/\ys.length=(((dJ ns.length).take i).filter λst=>t.holds ns st).length/\Same H1 B) %[[],aX,1|fj hD _] (λi B _ u=>by erw[_,_,_,h]at u;exact fy (h _ _ j)) ?_ ?_
 . rintro i x M O ⟨ys,hl,m,g⟩;let U:i<z.length:=(Qs O).1;let C:=TS.mono (bw g);let%[st,u,b,1|hb]:=C.get O;let stl:=ib _ _ (lr u);let n:=L.trans g;let tk:((dJ ns.length).take (i+1)).filter (λst=>t.holds ns st)=((dJ ns.length).take i).filter (λst=>t.holds ns st)++[st].filter (λst=>t.holds ns st):=by
    rw[nh,u,List.filter_append];rfl
   erw[0,0,0,v,t,a,b,ns,st,1,T.mono (bw n),ok,dp,J.same n,hb,stl,0,6];cases c:t.holds ns st with
   |true=>
     apply dZ ?_;erw[0,ys,hl,6,Nx.of U %[_,aX,6|λb' o e=>?_]]
     . have:=List.length_filter_le (λst=>t.holds ns st) ((dJ ns.length).take i)
       rw[lw]at this;exact aN #[0]
     . rw [tk,gl,gl,m]
       simp [c]
     . rw[aB (bh e hD)];exact g _ _ e
   |false=>
     apply cz ?_;apply Nx.of U %[ys,hl,6|g];rw[tk,gl,m]
     simp [c]
 . rintro M ⟨ys,hl,m,g⟩;let e3:z.length=(dJ ns.length).length:=rl;rw[e3,mu]at m;erw[0,D,0,.inl (fy hl),6];rw[m];exact q M (L.trans g)
instance spCounts(C:Addr):∀(g a b d:Addr)(ns:List Str)(tv:List V)(ts:List Tr)(p:Int),vs=[.ref g]->GameAt C H g a b d p->H a=some (.tup (ns.map V.str))->ns.length<=6->H b=some (.tup tv)->TreesAt H tv ts->ts.length<=10->(∀t∈ts,t.ok ns/\t.depth<=12)->(∀(l:Addr)(H':Hp),H l=none->Same H H'->H' l=some (.lst ((ts.map λt=>(cnt t ns:Int)).map V.int))->Q (.ref l) H'):=1
def wv:FnScope WH WH (af lJ):=%[|5]
def xc(F:#["counts_of",lJ])(T:GTxt K mg C)(x:#[15,"count_of",Wo,spCount]):#[16,f,fd,WH,spCounts C]:=by
 exists wv
 erw[g,a,b,d,ns,j,ts,p,1,%[dx|hg],y,B,m,TS,t10,tok,q]at h;refine⟨_,(ac (am (bX (N:=WH) (ix:=[0]) rfl
  #[3] rfl
  (eV (aF (pv 0) rfl)) (λ_ _ _=>cr (ai x hr ⋯ rfl %[0,ms K (pv 1)|aV]))))),?_⟩
 let J:=TS.length;erw[0,g,C,dx,_,0,hg,9,T.nT,pF ..,b,1,%[_|eS m],λD hD=>?_];apply dN (K:=K) (xs:=j) (λi e=>e D=some (.lst (((ts.take i).map λt=>(cnt t ns:Int)).map V.int))/\Same H e) %[by rw[aX];rfl|fj hD _] (λi e _ h=>eS (h.2 _ _ m)) ?_ ?_
 . rintro i z n o ⟨hl,c⟩;let%[t,r|L]:=TS.get o;let%[tk|M]:=tok t (lr r);let O:i<j.length:=(Qs o).1;erw[0,0,g,C,dx,_,0,c _ _ hg,9,T.nS,qW ..,z,t,a,ns,1,L.mono (bw c),tk,M,.inr (c _ _ y),B,λU u=>?_];erw[_,u _ _ hl,6,Nx.of O %[6|λY o' v=>?_]]
   . rw[fx,fx,lw];exact aN #[0]
   . rw[aX,nh,r,hI,hI];rfl
   . rw[aB (bh v hD)];exact u _ _ (c _ _ v)
 . rintro n ⟨hl,c⟩;rw[J,mu]at hl;exact q D n hD c hl
def CK(s:Int):List Int->Int
 | []=>0
 |a::r=>a+s*CK s r
def yO(s p:Int):∀ns,hor s p ns=CK s ns % p
 | []=>(Int.zero_emod p).symm
 |a::r=>by
   show(hor s p r*s+a) % p=(a+s*CK s r) % p;rw[yO s p r,RX,Q7,Rn,←Q7,←RX,QT,Int.add_comm]
def sB:∀(n:Nat)(s:List Int),s∈dJ n->∀x∈s,x=0∨x=1
 |0,s,h,x,b=>by
   have:s=[]:=by simpa [dJ]using h
   subst this;cases b
 |n+1,s,h,x,b=>by
   rw[dJ,List.mem_flatMap]at h;erw[t,c,d]at h
   simp at d
   rcases d with rfl | rfl
   . rcases qH0 b with h | h
     . exact sB n t c x h
     . exact .inl (Qr h)
   . rcases qH0 b with h | h
     . exact sB n t c x h
     . exact .inr (Qr h)
def BR{K:W.Frag}{c:Hp}{a b:Addr}{xs ys:List Int}{Q:VK}(d:c a=some (.tup (xs.map V.int)))(e:c b=some (.tup (ys.map V.int)))(hl:xs.length+ys.length<=100)
 (q:∀t g,Same c g->g t=some (.tup ((xs++ys).map V.int))->Q (.ref t) g):rCatT K (.ref a) (.ref b) c Q∨rCatT0 K (.ref a) (.ref b) c Q:=by
 cases xs with
 |nil=>exact .inr %[a,b,0,1,eS d,eS e|q b c (Same.refl _) e]
 |cons x r=>
   refine .inl %[a,b,2,eS d,eS e,by simp,bc (by simp at hl ⊢;omega),(λz=>?_)|(λ_ t j=>q t _ (fj j _) ?_)]
   . cases ys with
     |nil=>
       apply q a c (Same.refl _) ?_;rw[My];exact d
     |cons y r2=>exact nomatch z
   . rw[aX,hI]
def Fl(ns:List Str)(ts:List Tr)(s p:Int)(pt:List Int):Int:=((dJ (ns.length-pt.length)).map λst=>CK s (ts.map λt=>t.worth ns (pt++st) p)).sum % p
def Bj{α:Type}(p:Int)(f:α->Int):∀l:List α,(l.map λx=>f x % p).sum % p=(l.map f).sum % p
 | []=>rfl
 |a::r=>by
   rw[nn,nn,t7,t7,RX,Rn,Bj p f r,←RX]
def Bi{α:Type}{p:Int}(b:0<p)(f:α->Int)(h:∀x,0<=f x/\f x<p):∀l:List α,0<=(l.map f).sum/\(l.map f).sum<=p*l.length
 | []=>%[u6 0|by simp]
 |a::r=>by
   let h1:=h a;let h2:=Bi b f h r;rw[nn,t7,ij];erw[3,6]
   have:p*((r.length+1:Nat):Int)=p*(r.length:Int)+p:=by
    rw[RM,Int.mul_add]
    simp
   omega
def yd(h:cw a p)(h2:cw b p):cw (a++b) p:=λx c=>by
 rcases qH0 c with e | e
 . exact h x e
 . exact h2 x e
def pt01{b:List Int}(h:cw a p)(d:1<p)(h2:∀x∈b,x=0∨x=1):cw (a++b) p:=yd h λx c=>by rcases h2 x c with e | e <;> omega
def BC{X:Cx}(K:W.Frag)(hK:X.K=K:=by rfl):OpR X (binaryOp .Add) (λx y H Q=>rCatT K x y H Q∨rCatT0 K x y H Q):=by subst hK;exact op_catT.or oY
def HA{ts:List Tr}(h0:ts≠[]):0<=cj ts x:=by
 have:=lR (ns:=ts.map λt=>(t.names.count x:Int)) #[h0,0]
 let%[t,b|e]:=List.mem_map.mp this;unfold cj;rw[←e];exact Int.natCast_nonneg _
def rf(ns:List Str)(ts:List Tr)(s p:Int)(cs:List Int)(n:Nat):List Int:=(List.range n).map λk:Nat=>Fl ns ts s p (cs++[(k:Int)])
def Ko{d:Int}{i:Nat}(b:i<(d+1).toNat)(h:d<=500):((rf ns ts s p cs i).map V.int).length<sizeLine:=by
 unfold rf;rw[fx,fx,Fn];exact aN #[0]
def ptI{d:Int}{i:Nat}(h:cw a p)(c:i<(d+1).toNat)(hd:d<p):cw (a++[(i:Int)]) p:=yd h λx b=>by
 rw[Qr b];omega
def cat1{n k:Nat}(h:n<k)(h6:k<=6):n+([(0:Int)]:List Int).length<=100/\n+1<=k:=by
 rw[q0];omega
def s64{n k:Nat}(h6:n<=6):(dJ (n-(k+1))).length<=64:=by
 let s64:=mh (n-(k+1));let b:=qj (n:=n-(k+1)) #[0];omega
def Kn{α:Type}{f:α->Int}{l:List α}{j:Nat}(h:l.length<=64):(((l.take j).map f).map V.int).length<sizeLine:=by
 rw[fx,fx,lw];exact aN #[0]
def sum63{p x:Int}{n:Nat}(p0:0<p)(b:p<2 ^ 40)(h:n<=64)(c:x<=p*(n:Int)):x<2 ^ 63:=by
 have:p*(n:Int)<=p*64:=Rt #[0] #[0]
 omega
instance spTrue(C:Addr):∀(g a b d c:Addr)(ns:List Str)(tv:List V)(ts:List Tr)(cs:List Int)(x:Str)(s p:Int),vs=[.ref g,.int s,.ref c]->GameAt C H g a b d p->H a=some (.tup (ns.map V.str))->ns.length<=6->H b=some (.tup tv)->TreesAt H tv ts->ts≠[]->ts.length<=10->(∀t∈ts,t.ok ns/\t.depth<=10)->H d=some (.lst ((ns.map (cj ts)).map V.int))->H c=some (.tup (cs.map V.int))->ns[cs.length]?=some x->cj ts x<p->cj ts x<=500->cw cs p->1<p->p<2 ^ 40->(∀(l:Addr)(H':Hp),H l=none->Same H H'->H' l=some (.lst ((rf ns ts s p cs (cj ts x+1).toNat).map V.int))->Q (.ref l) H'):=1
def eK:FnScope ["game","s","coins","ahead","switch","behind","row","x","worths"] ["game","s","coins"] (af nI):=%[|5]
def yp(F:#["true_row",nI])(B:Bl mg)(T:GTxt K mg C)(mW:Meth K C "worth_at" fW)(GW:#[13,fW,aC,WO,spWAt C])(bW:Binds K aC WO [])(dG:#[1,"all_settings",["n"],spSetts]):#[14,f,fd,["game","s","coins"],spTrue C]:=by
 exists eK
 erw[g,a,b,d,c,ns,tv,ts,cs,x,s,p,1,%[dx|hg],ha,nl,hb,TS,aH,t10,tok,hd,hc,hx,dp,an,po,p1,ap,q]at h;refine⟨_,(aa (aj (i:=3) eK.nd rfl (Or.inr rfl) (aR aY rfl B.tuple bq %[2|aV]))
  (aa #[aj,4,eK,aE aD rfl B.len hR %[3|aV]]
  (aa #[aj,5,eK,ai dG hr ⋯ rfl %[ax bz (ax bz (aE aD rfl B.len hR %[aF (pv 0) rfl|aV]) (pv 4)) ae|aV]]
  (aa #[aj,6,eK,cY aV]
  (aa (cV n7 rfl (cZ rfl B.range %[ax aU (aI ix_list (aF (pv 0) rfl) (pv 4) #[1]) ae|aV]) (bn (i:=7) eK.nd rfl (Or.inr rfl)) (aa (rM (i:=8) (N:=["x","s","game","ahead"]) (ix:=[7,1,0,3]) eK.nd rfl (.inl rfl) rfl
   (CompScope.four (by rfl') ⋯ rfl ⋯ rfl ⋯ rfl (by rfl') (by rfl') (by rfl') (by rfl') (by rfl') (by rfl') rfl rfl (by rfl') rfl rfl (by rfl') rfl rfl (by rfl') rfl rfl) rfl
   (eC (pv 5)) (λ_ _ _=>cr (bu (pv 3) T.cl mW GW hr bW .nil be %[ax (BC K) (ax (BC K) (pv 4) (aO %[1|aV])) (pv 0),2|aV])))
   (ac (aQ (bZ qq sk ti ca (pv 6) %[ax bp (aE (uj rfl) rfl B.sum Sf %[8|aV]) (aF (pv 0) rfl)|aV])))))
  (ac (am (pv 6)))))))),?_⟩
 let kl:cs.length<ns.length:=(Qs hx).1;let d0:=HA (x:=x) aH;let p0:0<p:=Int.lt_trans Int.zero_lt_one p1;erw[0,c,0,.inr %[eS hc|6]];let G1:Same H H:=λ_ _ e=>e
 let M:=hc;erw[0,c,0,.inr (eS M),6];erw[0,g,C,dx,_,0,G1 _ _ hg,9,T.nS,qW ..,a,0,.inr (eS (G1 _ _ ha)),0,2,2,0,by rw[fx,fx];omega,by rw[fx,fx];omega,λr H2 r0 S2 R2=>?_];let en:((((ns.map V.str).length:Nat):Int)-(((cs.map V.int).length:Nat):Int)-1).toNat=ns.length-(cs.length+1):=by rw[fx,fx];omega
 rw[en]at R2;erw[rs,ar,TB]at R2;let rl:=TB.length;erw[y0S,λL hL=>?_];let m:=G1.trans S2;let GL:=fj hL (.lst []);let as:=m.trans GL;let L0:H L=none:=m.free hL;let e1:(((cs.map V.int).length:Nat):Int)=(cs.length:Int):=by rw[fx]
 erw[0,g,C,dx,_,0,as _ _ hg,9,T.nD,He ..,0,d,_,_,.int (cj ts x),1,1,fy (as _ _ hd),6,2,0,3,3,eQ (λi σ H'=>∃x7 x8:Option V,σ=[some (.ref g),some (.int s),some (.ref c),some (.ref c),some (.int (((cs.map V.int).length:Nat):Int)),some (.ref r),some (.ref L),x7,x8]/\H' L=some (.lst ((rf ns ts s p cs i).map V.int))/\SameBut L H2 H') %[_,0,by rw[aX];rfl|SameBut.upd _] ?_ ?_]
 . rw[e1];apply bd ?_;rw[kv,kv,hx];rfl
 . rintro i σ H4 hi ⟨x7,x8,rfl,Y,S4⟩;let gL:g≠L:=bh (m _ _ hg) hL;let rL:r≠L:=bh ar hL;let kT:bO H2 H4:=λc xs h=>S4 c _ (bh h hL) h
   let ab:=S4 g _ gL (m _ _ hg);let O:=S4 r _ rL ar;let aK:=kT _ _ (m _ _ ha);let aL:=kT _ _ (m _ _ hb);let av:=kT _ _ (S2 _ _ M);let aT:=(TS.mono (bw m)).mono kT;let a0:=TB.mono kT;erw[0,r,1,%[_|fy O],λD hD=>?_];apply de (K:=K) (xs:=rs) (λj H'=>H' D=some (.lst ((((dJ (ns.length-(cs.length+1))).take j).map λst=>hor s p (ts.map λt=>t.worth ns (cs++[(i:Int)]++st) p)).map V.int))/\Same H4 H') %[by rw[aX];rfl|fj hD _] (λj H' _ h=>fy (h.2 _ _ O)) ?_ ?_
   . rintro j z H5 hz ⟨J,U⟩;let%[st,Qn,y,1|hy]:=(a0.mono (bw U)).get hz;let stm:=lr Qn;let stl:=ib _ _ stm;let a7:=sB _ _ stm;let hj:j<rs.length:=(Qs hz).1;let a8:cw (cs++[(i:Int)]++st) p:=pt01 (ptI po hi dp) p1 a7;let a9:(cs++[(i:Int)]++st).length=ns.length:=by rw[gl,gl,q0];omega
     erw[0,g,dx,0,U _ _ ab,vG _ _ _ _ ⋯ ⋯ ⋯ ⋯,6];erw[0,0,y1S,λu hu=>?_];let Gu:=fj hu (.tup [.int (0+(i:Int))]);let aw:upd H5 u (.tup [.int (0+(i:Int))]) u=some (.tup ([(i:Int)].map V.int)):=by rw[aX,Q8];rfl
     generalize upd H5 u (.tup [.int (0+(i:Int))])=H6 at Gu aw;apply BR (Gu _ _ (U _ _ av)) aw (cat1 kl nl).1 λt1 H7 S7 h7=>?_
     erw[0,6];let ah:=Gu.trans S7;apply BR h7 (ah _ _ hy) (by rw[gl,q0];omega) λt2 H8 S8 h8=>?_
     let v:=U.trans (ah.trans S8);erw[0,g,a,b,d,t2,ns,tv,ts,_,s,p,1,%[dx|v _ _ ab],p1,ap,v _ _ aK,v _ _ aL,aT.mono (bw v),t10,tok,h8,a9,a8,λH9 S9=>?_];erw[_,S9 _ _ ((ah.trans S8) _ _ J),6,Nx.of hj %[6|λb' o' e'=>?_]]
     . exact Kn (s64 nl)
     . rw[aX,nh,Qn,hI,hI];rfl
     . rw[aB (bh e' hD)];exact S9 _ _ (v _ _ e')
   rintro H5 ⟨J,U⟩;rw[rl,mu]at J;let hor_r:=λst:List Int=>rQ (s:=s) (p:=p) p0 (ts.map λt=>t.worth ns (cs++[(i:Int)]++st) p)
   let sr:=Bi (p:=p) p0 (λst:List Int=>hor s p (ts.map λt=>t.worth ns (cs++[(i:Int)]++st) p)) hor_r (dJ (ns.length-(cs.length+1)));let aA:=U _ _ Y;erw[0,.inl %[1,_|fy aA],0,D,0,fy J,6,6,6]
   . intro n hn;let%[st,_|1]:=List.mem_map.mp hn;exact(hor_r st).1
   . exact sum63 p0 ap (s64 nl) sr.2
   erw[0,g,C,dx,_,0,U _ _ ab,9,T.nF,jD ..,2,p0,L,2,aA,6,6]
   . exact Ko hi an
   . erw[_,0,6,λc o hc e=>?_]
     . rw [aX];unfold rf;rw[Q2,hI,hI];let e2:((dJ (ns.length-(cs.length+1))).map λst=>hor s p (ts.map λt=>t.worth ns (cs++[(i:Int)]++st) p)).sum % p=Fl ns ts s p (cs++[(i:Int)]):=by
        unfold Fl;rw[gl,q0,show(λst:List Int=>hor s p (ts.map λt=>t.worth ns (cs++[(i:Int)]++st) p))=λst=>CK s (ts.map λt=>t.worth ns (cs++[(i:Int)]++st) p) % p from funext λst=>yO _ _ _];exact Bj p (λst:List Int=>CK s (ts.map λt=>t.worth ns (cs++[(i:Int)]++st) p)) _
       show some (HO.lst (_++[V.int (((dJ (ns.length-(cs.length+1))).map λst=>hor s p (ts.map λt=>t.worth ns (cs++[(i:Int)]++st) p)).sum % p)]))=_;rw[e2];rfl
     . rw[aB hc];exact U _ _ (S4 c o hc e)
 . rintro σ H4 ⟨x7,x8,rfl,Y,S4⟩;erw[0,q L H4 L0 (m.but L0 S4) Y]
def neS{a b:Str}(h:¬ a=b):¬ V.str a=V.str b:=λz=>h (V.str.inj z)
open Classical in
def KZ(p a:Int):Int:=if h:∃g:Int,0<g/\g<p/\g*a % p=1 then h.choose else 0
def Hb{p a g k:Int}(d:0<g)(g1:g<p)(hg:g*a % p=1)(e:0<k)(b:k<p)(c:k*a % p=1):g=k:=by
 let e1:g*(k*a) % p=g:=by
  rw[Q7,c,Rr,Rn,QH #[0] g1]
 let e2:k*(g*a) % p=k:=by
  rw[Q7,hg,Rr,Rn,QH #[0] b]
 let e3:g*(k*a) % p=k*(g*a) % p:=by rw[Int.mul_left_comm]
 exact e1.symm.trans (e3.trans e2)
def Jq{p a g:Int}(b:0<g)(g1:g<p)(hg:g*a % p=1):KZ p a=g:=by
 let h:∃g:Int,0<g/\g<p/\g*a % p=1:=%[g,b,g1|hg]
 unfold KZ;rw[dif_pos h];erw[c,d,e]at h.choose_spec;exact Hb c d e b g1 hg
def AX(p x y:Int):Int:=if y=0 then 0 else x*KZ p y % p
def opV(p:Int)(s:Str)(x y:Int):Int:=
 if s="+" then(x+y) % p else if s="-" then(x-y) % p else if s="*" then x*y % p else if s="/" then AX p x y else if s="=" then(if x=y then 1 else 0)else if x<y then 1 else 0
def Hz{p:Int}(b:0<p):0<=AX p x y/\AX p x y<p:=by
 unfold AX
 split
 . omega
 . erw[oa _ #[0],pb _ b]
def IS{p:Int}(b:1<p):0<=opV p s x y/\opV p s x y<p:=by
 let m:∀z:Int,0<=z % p/\z % p<p:=λz=>%[oa _ #[0]|pb _ #[0]]
 unfold opV
 split
 . exact m _
 . split
   . exact m _
   . split
     . exact m _
     . split
       . exact Hz #[0]
       . split <;> split <;> omega
instance spDiv:∀(x y p:Int),vs=[.int x,.int y,.int p]->Pr p->p<=999983->0<=x->x<p->0<=y->y<p->Q (.int (AX p x y)) H:=1
def zL:FnScope Wp Wp (af qe):=%[|5]
def Aq(F:#["divided",qe])(b:#[1,"inverse_of",["a","p"],spInv]):#[2,f,fd,Wp,spDiv]:=by
 exists zL
 erw[x,y,p,1,d,p9,m,n,o,e,q]at h;refine⟨_,(aa (aG (ag aP (pv 1) ae (aq _)) (ac (am ae)) au)
  (ac (am (ax bp (ax cW (pv 0) (ai b hr ⋯ rfl %[1,2|aV])) (pv 2))))),?_⟩
 unfold AX at q;erw[0,1,0,6]
 by_cases c:y=0
 . rw[Qk c]at q;exact aW (congrArg V.int c) q
 . rw[Qi c]at q;apply az (λz=>c (V.int.inj z)) ?_;erw[0,0,0,y,p,1,d,p9,3,e,λg j g1 hg=>?_];rw[Jq j g1 hg]at q;erw[2,.inl %[3|3],0,2,(by show 0<p;omega),q]
def signW:List Str:=["+","-","*","/","=","<"]
instance spOp:∀(s:Str)(x y p:Int),vs=[.str s,.int x,.int y,.int p]->s∈signW->Pr p->p<=999983->0<=x->x<p->0<=y->y<p->Q (.int (opV p s x y)) H:=1
def xU:FnScope Wf Wf (af nQ):=%[|5]
def opV_1:opV p "+" x y=(x+y) % p:=Qk rfl
def opV_2:opV p "-" x y=(x-y) % p:=by unfold opV;rw[Qi ⋯,Qk rfl]
def opV_3:opV p "*" x y=x*y % p:=by unfold opV;rw[Qi ⋯,Qi ⋯,Qk rfl]
def opV_4:opV p "/" x y=AX p x y:=by unfold opV;rw[Qi ⋯,Qi ⋯,Qi ⋯,Qk rfl]
def opV_5:opV p "=" x y=if x=y then 1 else 0:=by unfold opV;rw[Qi ⋯,Qi ⋯,Qi ⋯,Qi ⋯,Qk rfl]
def opV_6:opV p "<" x y=if x<y then 1 else 0:=by unfold opV;rw[Qi ⋯,Qi ⋯,Qi ⋯,Qi ⋯,Qi ⋯]
def yu(F:#["op_value",nQ])(d:#[2,"divided",Wp,spDiv]):#[3,f,fd,Wf,spOp]:=by
 exists xU
 erw[s,x,y,p,1,e,g,p9,j,m,n,o,q]at h;let p0:0<p:=#[0]
 refine⟨_,(aa (aG (ag aP (pv 0) ao (aq _)) (ac (am (ax bp (ax aU (pv 1) (pv 2)) (pv 3)))) au)
  (aa (aG (ag aP (pv 0) ao (aq _)) (ac (am (ax bp (ax bz (pv 1) (pv 2)) (pv 3)))) au)
  (aa (aG (ag aP (pv 0) ao (aq _)) (ac (am (ax bp (ax cW (pv 1) (pv 2)) (pv 3)))) au)
  (aa (aG (ag aP (pv 0) ao (aq _)) (ac (am (ai d hr ⋯ rfl %[1,2,3|aV]))) au)
  (aa (aG (ag aP (pv 0) ao (aq _)) (ac (am (oW (ag aP (pv 1) (pv 2) (aq _)) ae ae))) au)
  (ac (am (oW (ag dX (pv 1) (pv 2) (aq _)) ae ae)))))))),?_⟩
 let b:s="+"∨s="-"∨s="*"∨s="/"∨s="="∨s="<":=by simpa [signW]using e
 rcases b with rfl | rfl | rfl | rfl | rfl | rfl
 . rw[opV_1]at q;erw[0,1,0,aW rfl ?_];erw[0,0,2,0,2,p0,q]
 . rw[opV_2]at q;erw[0,1,0,7];erw[0,1,0,aW rfl ?_];erw[0,0,2,0,2,p0,q]
 . rw[opV_3]at q;erw[0,1,0,7];erw[0,1,0,7];erw[0,1,0,aW rfl ?_];erw[0,0,2,.inl %[3|3],0,2,p0,q]
 . rw[opV_4]at q;erw[0,1,0,7];erw[0,1,0,7];erw[0,1,0,7];erw[0,1,0,aW rfl ?_];erw[0,0,0,x,y,p,1,g,p9,j,m,n,o,q]
 . rw [opV_5]at q;erw[0,1,0,7];erw[0,1,0,7];erw[0,1,0,7];erw[0,1,0,7];erw[0,1,0,aW rfl ?_];erw[0,0,1,0,6]
   by_cases c:x=y
   . rw[Qk c]at q;exact aW (congrArg V.int c) q
   . rw[Qi c]at q;exact az (λz=>c (V.int.inj z)) q
 . rw [opV_6]at q;erw[0,1,0,7];erw[0,1,0,7];erw[0,1,0,7];erw[0,1,0,7];erw[0,1,0,7];erw[0,0,2,0,6]
   by_cases c:x<y
   . rw[Qk c]at q;exact aW c q
   . rw[Qi c]at q;exact az c q
def fb{t':TS}(h:PSs X ss t)(hw:∀D σ H,t' D σ H->t D σ H):PSs X ss t':=λQh s σ H D I k=>h Qh s σ H D I (hw _ _ _ k)
inductive Tm where
 |num (n:Int) | box (x:Str) | plain (w:Str) | ask (w:Str) (a:Tm) | op (s:Str) (a b:Tm)
def Tm.size:Tm->Nat
 |.num _=>1 | .box _=>1 | .plain _=>1 | .ask _ a=>a.size+1 | .op _ a b=>a.size+b.size+1
def Tm.depth:Tm->Nat
 |.num _=>1 | .box _=>1 | .plain _=>1 | .ask _ a=>a.depth+1 | .op _ a b=>max a.depth b.depth+1
def Tm.depth_pos:∀t:Tm,1<=t.depth
 |.num _=>fz _ | .box _=>fz _ | .plain _=>fz _ | .ask _ a=>QE .. | .op _ a b=>QE ..
def Tm.size_pos:∀t:Tm,1<=t.size
 |.num _=>fz _ | .box _=>fz _ | .plain _=>fz _ | .ask _ a=>QE .. | .op _ a b=>QE ..
def plainW:List Str:=["round","due","asked"]
def askW:List Str:=["coin","true"]
inductive TmAt(H:Hp):V->Tm->Prop
 |num {a:Addr} {n:Int}:H a=some (.tup [.str "num",.int n])->TmAt H (.ref a) (.num n)
 |box {a:Addr} {x:Str}:H a=some (.tup [.str "box",.str x])->TmAt H (.ref a) (.box x)
 |plain {a:Addr} {w:Str}:H a=some (.tup [.str w])->TmAt H (.ref a) (.plain w)
 |ask {a:Addr} {w:Str} {v:V} {t:Tm}:H a=some (.tup [.str w,v])->TmAt H v t->TmAt H (.ref a) (.ask w t)
 |op {a:Addr} {s:Str} {v u:V} {t r:Tm}:H a=some (.tup [.str "op",.str s,v,u])->TmAt H v t->TmAt H u r->TmAt H (.ref a) (.op s t r)
def TmAt.mono(k:bO H b)(h:TmAt H v t):TmAt b v t:=by
 induction h with
 |num e=>exact .num (k _ _ e)
 |box e=>exact .box (k _ _ e)
 |plain e=>exact .plain (k _ _ e)
 |ask e _ c=>exact .ask (k _ _ e) c
 |op e _ _ d g=>exact .op (k _ _ e) d g
inductive Hr where
 |fin | go (n:Int) | iff (t:Tm) (n:Int) | set (x:Str) (t:Tm) | say (t:Tm)
inductive HrAt(H:Hp):V->Hr->Prop
 |fin {a:Addr}:H a=some (.tup [.str "end"])->HrAt H (.ref a) .fin
 |go {a:Addr} {n:Int}:H a=some (.tup [.str "go",.int n])->HrAt H (.ref a) (.go n)
 |iff {a:Addr} {v:V} {t:Tm} {n:Int}:H a=some (.tup [.str "if",v,.int n])->TmAt H v t->HrAt H (.ref a) (.iff t n)
 |set {a:Addr} {x:Str} {v:V} {t:Tm}:H a=some (.tup [.str "set",.str x,v])->TmAt H v t->HrAt H (.ref a) (.set x t)
 |say {a:Addr} {v:V} {t:Tm}:H a=some (.tup [.str "say",v])->TmAt H v t->HrAt H (.ref a) (.say t)
def HrAt.mono(k:bO H b)(h:HrAt H v r):HrAt b v r:=by
 cases h with
 |fin e=>exact .fin (k _ _ e)
 |go e=>exact .go (k _ _ e)
 |iff e t=>exact .iff (k _ _ e) (t.mono k)
 |set e t=>exact .set (k _ _ e) (t.mono k)
 |say e t=>exact .say (k _ _ e) (t.mono k)
section
variable {CM CA CG:Addr}
abbrev wK:Stmt:=bK lN 0
abbrev sT:Stmt:=bK lN 1
abbrev wL:Stmt:=bK lN 2
abbrev qg:Stmt:=bK lN 3
abbrev wJ:Stmt:=bK lN 4
abbrev wD:Stmt:=bK pW 0
abbrev zP:Stmt:=bK pW 1
abbrev zQ:Stmt:=bK pW 2
def al(g:Addr)(nr mn hd s:Int)(b:Addr)(c:V):List (Str×V):=[("game",.ref g),("number",.int nr),("many",.int mn),("held",.int hd),("s",.int s),("tossed",.ref b),("truths",c)]
def xK:(al g nr mn hd s b c).lookup ("game":Str)=some (.ref g):=by rfl'
structure ATxt(K:W.Frag)(mg:#[9])(C:Addr):Prop where
 cl:Cls K C
 nG:NoAttr K C "game"
 nN:NoAttr K C "number"
 nM:NoAttr K C "many"
 nH:NoAttr K C "held"
 nS:NoAttr K C "s"
 nT:NoAttr K C "tossed"
 nR:NoAttr K C "truths"
 mgC:mg "Asking"=some (.ref C)
def ml(g h:Addr)(r:Int)(b:Addr):List (Str×V):=[("game",.ref g),("helper",.ref h),("next_round",.int r),("boxes",.ref b)]
section
variable {g h b:Addr}{r:Int}
def ml_g:(ml g h r b).lookup ("game":Str)=some (.ref g):=by rfl'
def KL:(ml g h r b).lookup ("helper":Str)=some (.ref h):=by rfl'
def ml_r:(ml g h r b).lookup ("next_round":Str)=some (.int r):=by rfl'
def Jh:(ml g h r b).lookup ("boxes":Str)=some (.ref b):=by rfl'
def ml_n1:(ml g h r b).lookup ("do_row":Str)=none:=by rfl'
def ml_n2:(ml g h r b).lookup ("say":Str)=none:=by rfl'
def KK:(ml g h r b).length<1000:=by show 4<1000;decide
def KJ{v:Int}:cQ "next_round" (.int v) (ml g h r b)=ml g h v b:=by rfl'
end
structure MTxt(K:W.Frag)(mg:#[9])(C:Addr):Prop where
 cl:Cls K C
 nG:NoAttr K C "game"
 nH:NoAttr K C "helper"
 nR:NoAttr K C "next_round"
 nB:NoAttr K C "boxes"
 mgC:mg "Machine"=some (.ref C)
def BxAt(H:Hp)(b:Addr)(bx:Str->Int)(m:Nat):Prop:=∃c:List (Key×V),H b=some (.dK c)/\c.length<=m/\∀x:Str,(iT c (.inr x)).getD (.int 0)=.int (bx x)
def zn(bx:Str->Int)(x:Str)(n:Int):Str->Int:=λy=>if y=x then n else bx y
def BxAt.keep{c:Hp}(h:BxAt H b bx m)(k:∀o,H b=some o->c b=some o):BxAt c b bx m:=by
 erw[d,e,r]at h;erw[d,k _ e,r]
def LA{b:List (Key×V)}{bx:Str->Int}(x:Str)(n:Int)(h:∀x:Str,(iT b (.inr x)).getD (.int 0)=.int (bx x)):∀y:Str,(iT (oS b (.inr x) (.int n)) (.inr y)).getD (.int 0)=.int (zn bx x n y):=λy=>by
 rw[Ej];unfold zn
 by_cases c:y=x
 . rw[Qk (by rw[c]),Qk c];rfl
 . rw[Qi (λz=>c (Sum.inr.inj z)),Qi c];exact h y
section
variable {g aT:Addr}{nr mn hd s:Int}{tr:V}
def LG:(al g nr mn hd s aT tr).lookup ("number":Str)=some (.int nr):=by rfl'
def al_m:(al g nr mn hd s aT tr).lookup ("many":Str)=some (.int mn):=by rfl'
def al_h:(al g nr mn hd s aT tr).lookup ("held":Str)=some (.int hd):=by rfl'
def al_s:(al g nr mn hd s aT tr).lookup ("s":Str)=some (.int s):=by rfl'
def al_t:(al g nr mn hd s aT tr).lookup ("tossed":Str)=some (.ref aT):=by rfl'
def JF:(al g nr mn hd s aT tr).lookup ("truths":Str)=some tr:=by rfl'
def al_n1:(al g nr mn hd s aT tr).lookup ("plain_value":Str)=none:=by rfl'
def al_n2:(al g nr mn hd s aT tr).lookup ("coin_at":Str)=none:=by rfl'
def al_n3:(al g nr mn hd s aT tr).lookup ("true_numbers":Str)=none:=by rfl'
def al_n4:(al g nr mn hd s aT tr).lookup ("true_at":Str)=none:=by rfl'
def HR:cQ "truths" v (al g nr mn hd s aT tr)=al g nr mn hd s aT v:=by rfl'
def HS:(al g nr mn hd s aT tr).length<1000:=by show 7<1000;decide
end
structure Ak where
 ns:List Str
 ts:List Tr
 p:Int
 nr:Int
 mn:Int
 hd:Int
 s:Int
 to:List Int
def Ak.tru(z:Ak):List Int:=if z.nr=0 then z.ts.map (λt=>(cnt t z.ns:Int))else rf z.ns z.ts z.s z.p z.to (cj z.ts (z.ns.getD z.to.length "")+1).toNat
structure AkOk(z:Ak):Prop where
 gk:GmK z.ns z.ts z.p
 n6:z.ns.length<=6
 nr0:0<=z.nr
 nrt:0<z.nr->z.to.length<z.ns.length
 po:cw z.to z.p
 s0:0<=z.s
 s1:z.s<z.p
 h0:0<=z.hd
 h1:z.hd<z.p
 tl:z.to.length<=100
def AkAt(CA CG:Addr)(H:Hp)(k g v:Addr)(z:Ak):Prop:=∃(m e a b d:Addr)(j:List V)(c:V),H k=some (.ins CA m (al g z.nr z.mn z.hd z.s e c))/\GameAt CG H g a b d z.p/\H a=some (.tup (z.ns.map V.str))/\H b=some (.tup j)/\TreesAt H j z.ts/\H d=some (.lst ((z.ns.map (cj z.ts)).map V.int))/\d≠v/\H e=some (.tup (z.to.map V.int))/\(c=.non∨∃l,c=.ref l/\l≠v/\H l=some (.lst (z.tru.map V.int)))
def AkAt.same(h:AkAt CA CG H k g v z)(s:Same H c):AkAt CA CG c k g v z:=by
 erw[j,m,a,b,d,o,q,h1,h2,h3,h4,h5,h6,h7,h8,h9]at h;erw[j,m,a,b,d,o,q,s _ _ h1,h2.same s,s _ _ h3,s _ _ h4,h5.mono (bw s),s _ _ h6,h7,s _ _ h8,h9.imp_right fun⟨l,e,n,r⟩=>%[l,e,n|s _ _ r]]
def AkAt.but2{m:Hp}{b:Addr}{t:List (Key×V)}{ys:List V}(h:AkAt CA CG H k g v z)(j:H b=some (.dK t))(q:H v=some (.lst ys))(s:∀a o,a≠b->a≠v->H a=some o->m a=some o):AkAt CA CG m k g v z:=by
 erw[u,x,a,y,d,B,C,h1,%[D|h2],h3,h4,h5,h6,h7,h8,h9]at h;let T:bO H m:=λc xs e=>s _ _ (bV e j nofun) (bV e q nofun) e
 erw[u,x,a,y,d,B,C,s _ _ (bV h1 j nofun) (bV h1 q nofun) h1,%[D|s _ _ (bV h2 j nofun) (bV h2 q nofun) h2],T _ _ h3,T _ _ h4,h5.mono T,s _ _ (bV h6 j nofun) h7 h6,h7,T _ _ h8,h9.imp_right fun⟨l,e,n,r⟩=>%[l,e,n|s _ _ (bV r j nofun) n r]]
def ni(z:Ak):List Int:=if 1<z.ts.length then z.s::z.to else z.to
def nj(z:Ak)(i:Int):Int:=if 1<=i/\i<=((ni z).length:Int)then(ni z).getD (i-1).toNat 0 else 0
def ow(z:Ak)(i:Int):Int:=if 0<z.nr then val z.p z.tru i else if i<(z.tru.length:Int)then z.tru.getD i.toNat 0 % z.p else 0
def qk(z:Ak)(w:Str):Int:=if w="round" then z.nr % z.p else if w="asked" then z.mn % z.p else z.hd
def AkOk.p0(k:AkOk z):2<z.p:=k.gk.p2
def pG(h:cw xs p)(p0:0<p)(i:Nat):0<=xs.getD i 0/\xs.getD i 0<p:=by
 rw[y0];cases e:xs[i]? with
 |none=>erw[u6 0,p0]
 |some x=>exact h x (lr e)
def HG(k:AkOk z):cw (ni z) z.p:=by
 unfold ni
 split
 . intro x b;rcases Qq b with rfl | b
   . erw[k.s0,k.s1]
   . exact k.po x b
 . exact k.po
def DT(k:AkOk z)(i:Int):0<=nj z i/\nj z i<z.p:=by
 have:=k.p0
 unfold nj
 split
 . exact pG (HG k) #[0] _
 . omega
def Cc(k:AkOk z)(i:Int):0<=ow z i/\ow z i<z.p:=by
 have:=k.p0
 unfold ow
 split
 . erw[oa _ #[0],pb _ #[0]]
 . split
   . erw[oa _ #[0],pb _ #[0]]
   . omega
def Aa(k:AkOk z)(w:Str):0<=qk z w/\qk z w<z.p:=by
 have:=k.p0
 unfold qk
 split
 . erw[oa _ #[0],pb _ #[0]]
 . split
   . erw[oa _ #[0],pb _ #[0]]
   . erw[k.h0,k.h1]
instance spPlain(CA CG:Addr):∀(k g v:Addr)(z:Ak)(w:Str),vs=[.ref k,.str w]->AkAt CA CG H k g v z->0<z.p->Q (.int (qk z w)) H:=1
def Cy:FnScope Wg Wg (af sT):=%[|5]
def Dh(F:#["plain_value","Asking.plain_value",sT])(TA:ATxt K mg CA)(TG:GTxt K mg CG):#[1,f,fd,Wg,spPlain CA CG]:=by
 exists Cy
 erw[k,g,v,z,w,1,%[e,n,a,b,d,o,r,j,%[m|hg]|_],p0,q]at h;refine⟨_,(aa (aG (ag aP (pv 1) ao (aq _)) (ac (am (ax bp (aF (pv 0) rfl) (aF (aF (pv 0) rfl) rfl)))) au)
  (aa (aG (ag aP (pv 1) ao (aq _)) (ac (am (ax bp (aF (pv 0) rfl) (aF (aF (pv 0) rfl) rfl)))) au)
  (ac (am (aF (pv 0) rfl))))),?_⟩
 unfold qk at q;erw[0,1,0,6]
 by_cases c:w="round"
 . rw[Qk c]at q;apply aW (congrArg V.str c) ?_;erw[0,k,CA,e,_,0,j,TA.cl,TA.nN,LG,0,k,CA,e,_,0,j,TA.cl,TA.nG,xK,g,CG,m,_,0,hg,TG.cl,TG.nF,jD ..,2,p0,q]
 . rw [Qi c]at q;apply az (neS c) ?_;erw[0,1,0,6]
   by_cases c:w="asked"
   . rw[Qk c]at q;apply aW (congrArg V.str c) ?_;erw[0,k,CA,e,_,0,j,TA.cl,TA.nM,al_m,0,k,CA,e,_,0,j,TA.cl,TA.nG,xK,g,CG,m,_,0,hg,TG.cl,TG.nF,jD ..,2,p0,q]
   . rw[Qi c]at q;apply az (neS c) ?_;erw[0,k,CA,e,_,0,j,TA.cl,TA.nH,al_h,q]
instance spCoinAt(CA CG:Addr):∀(k g v:Addr)(z:Ak)(i:Int),vs=[.ref k,.int i]->AkAt CA CG H k g v z->z.to.length<=100->(∀H',Same H H'->Q (.int (nj z i)) H'):=1
def K2:FnScope ["self","place","tossed"] WM (af wL):=%[|5]
instance tCoinE(z:Ak)(Dn:Ends)(σ:St)(H:Hp):∀(x0:Option V)(a:Addr)(i:Int),σ=[x0,some (.int i),some (.ref a)]->H a=some (.tup ((ni z).map V.int))->Dn.rt (.int (nj z i)) H:=0
def FV(F:#["coin_at","Asking.coin_at",wL])(B:Bl mg)(TA:ATxt K mg CA)(TG:GTxt K mg CG):#[1,f,fd,WM,spCoinAt CA CG]:=by
 exists K2
 erw[k,g,v,z,i,1,%[r,C,a,b,d,Y,tr,u,%[M|hg],x,N,TS,_,_,hT|_],tl,q]at h;let D:=TS.length;refine⟨_,(aa #[aj,2,K2,aF (pv 0) rfl]
  (aa (aG (ag ji (aE aD rfl B.len hR %[aF (aF (pv 0) rfl) rfl|aV]) ae (aq _)) (ac #[aj,2,K2,ax op_catT (aO %[aF (pv 0) rfl|aV]) (pv 2)]) au)
  (fb (t':=tCoinE z) (aa (aG (yc vv vv ae (pv 1) (aE aD rfl B.len hR %[2|aV])) (ac (am (aI ix_tup (pv 2) (ax bz (pv 1) ae) #[1]))) au)
  (ac (am ae))) (by
   rintro Dn σ H ⟨x0,a,i,rfl,x,q⟩;unfold nj at q;erw[0,2,0,6];let J:(((ni z).map V.int).length:Int)=((ni z).length:Int):=by rw[fx]
   by_cases m:1<=i
   . apply aW m ?_;erw[0,a,0,.inr (eS x),2,0,6]
     by_cases n:i<=((ni z).length:Int)
     . rw [Qk %[m|n]]at q;apply aW (by rw[J];exact n) ?_;obtain⟨j,L⟩:∃j:Nat,i-1=(j:Int):=⟨(i-1).toNat,#[0]⟩
       rw[L,J6]at q;erw[0,0,2,a,_,2,eS x,6,q];rw[L];exact pE #[0]
     . rw[Qi (λz=>n z.2)]at q;exact az (by rw[J];exact n) q
   . rw[Qi (λz=>m z.1)]at q;exact az m %[0|cz q])))),?_⟩
 erw[0,k,CA,r,_,0,u,TA.cl,TA.nT,al_t,6];erw[0,k,CA,r,_,0,u,TA.cl,TA.nG,xK,g,CG,M,_,0,hg,TG.cl,TG.nT,pF ..,b,0,.inr (eS N),2,0,6]
 by_cases c:1<z.ts.length
 . apply aW (by rw[D];omega) ?_;let o:ni z=z.s::z.to:=Qk c;erw[0,k,CA,r,_,0,u,TA.cl,TA.nS,al_s,y1S,λt O=>?_];let I:=fj O (.tup [.int z.s]);let g1:upd H t (.tup [.int z.s]) t=some (.tup [.int z.s]):=aX;generalize upd H t (.tup [.int z.s])=H1 at I g1;erw[0,t,C,2,eS g1,eS (I _ _ hT),(λz=>nomatch z),bc (by show 1+(z.to.map V.int).length<=1000;rw[fx];omega),λe=>?_,λ_ y U=>?_]
   . erw[_,t,i,1,6,q _ I];rw[o,g1,nn,e]
   . erw[_,y,i,1,6,q _ (I.trans (fj U _))];rw[aX,o];rfl
 . apply az (by rw[D];omega) ?_;let o:ni z=z.to:=Qi c;erw[_,C,i,1,by rw[o];exact hT,q _ λ_ _ e=>e]
end
section
variable {CM CA CG:Addr}
def Fk(ns:List Str)(ts:List Tr)(s p:Int)(cs:List Int)(n:Nat):(rf ns ts s p cs n).length=n:=by
 unfold rf;rw[fx,Fn]
def Fi{p:Int}(c:0<p):cw (rf ns ts s p cs n) p:=λx b=>by
 unfold rf at b;let%[k,_|1]:=List.mem_map.mp b;erw[oa _ #[0],pb _ c]
def AkOk.deg(k:AkOk z)(h:0<z.nr):∃x,z.ns[z.to.length]?=some x/\z.ns.getD z.to.length ""=x/\0<=cj z.ts x/\cj z.ts x<z.p/\cj z.ts x<=400:=by
 let hl:=k.nrt h;erw[z.ns[z.to.length],j3 hl,by rw[y0,j3 hl];rfl,6];let b:=vr hl;let%[c|d1]:=k.gk.deg _ b;erw[c,d1,6];let d:z.ts≠[]:=λe=>by have:=k.gk.t1;rw[e]at this;cases this
 have:=ug (p:=401) (x:=z.ns[z.to.length]) d λt g=>by
  let h1:=(k.gk.tok t g).2.2.2;let h2:=t.names_len;let h3:=Sh (a:=z.ns[z.to.length]) (l:=t.names);omega
 omega
def AkOk.row(k:AkOk z)(h:0<z.nr):kY z.tru z.p:=by
 let%[x,b,ex,c,d1|d4]:=k.deg h;let p2:=k.p0;let p9:=k.gk.p9;let e:z.tru=rf z.ns z.ts z.s z.p z.to (cj z.ts x+1).toNat:=by
  unfold Ak.tru;rw[Qi #[0],ex]
 rw[e];unfold kY;rw[Fk];erw[3,3,3,λj=>?_]
 have:=pG (Fi (ns:=z.ns) (ts:=z.ts) (s:=z.s) (cs:=z.to) (n:=(cj z.ts x+1).toNat) (show 0<z.p by omega)) #[0] j
 omega
instance spTruths(CA CG:Addr):∀(k g v:Addr)(z:Ak)(ys:List V),vs=[.ref k]->AkAt CA CG H k g v z->AkOk z->H v=some (.lst ys)->(∀(l:Addr)(H':Hp),H' l=some (.lst (z.tru.map V.int))->AkAt CA CG H' k g v z->SameBut k H H'->Q (.ref l) H'):=1
def zN:FnScope WA WA (af qg):=%[|5]
def As(F:#["true_numbers","Asking.true_numbers",qg])(TA:ATxt K mg CA)(mV:#[16,"counts_of",WH,spCounts CG])(o7:#[14,"true_row",["game","s","coins"],spTrue CG]):#[17,f,fd,WA,spTruths CA CG]:=by
 exists zN
 erw[k,g,v,z,ys,1,AK,ok,hv,q]at h;refine⟨_,(aa (aG (ag KE (aF (pv 0) rfl) FA (aq _)) (ac (aG (ag aP (aF (pv 0) rfl) ae (aq _)) (ac (aZ (pv 0) (ai mV hr ⋯ rfl %[aF (pv 0) rfl|aV]) rfl)) (ac (aZ (pv 0) (ai o7 hr ⋯ rfl %[aF (pv 0) rfl,aF (pv 0) rfl,aF (pv 0) rfl|aV]) rfl)))) au)
  (ac (am (aF (pv 0) rfl)))),?_⟩
 let L:=AK;erw[j,y,a,b,d,M,tr,m,D,N,O,TS,hd,dv,hT,B]at L;let t0:z.ts≠[]:=λe=>by have:=ok.gk.t1;rw[e]at this;cases this
 let t10:=ok.gk.t10;let p2:=ok.p0;let p9:=ok.gk.p9;erw[0,k,CA,j,_,0,m,TA.cl,TA.nR,JF,6];rcases B with rfl | ⟨l,rfl,lv,hl⟩
 . -- not ab asked
   let put:∀(l:Addr)(r:Hp),H l=none->Same H r->r l=some (.lst (z.tru.map V.int))->AkAt CA CG (upd r k (.ins CA j (al g z.nr z.mn z.hd z.s y (.ref l)))) k g v z/\(upd r k (.ins CA j (al g z.nr z.mn z.hd z.s y (.ref l)))) l=some (.lst (z.tru.map V.int))/\SameBut k H (upd r k (.ins CA j (al g z.nr z.mn z.hd z.s y (.ref l)))):=by
    intro l r C u hl;let lk:l≠k:=(bh m C).symm;let U:∀{c:Addr}{o:HO},c≠k->r c=some o->(upd r k (.ins CA j (al g z.nr z.mn z.hd z.s y (.ref l)))) c=some o:=λn e=>by rw[aB n];exact e
    let gk:g≠k:=λe=>by
     erw[dg,hg]at D;rw[e,m]at hg;cases hg
    let J:bO H (upd r k (.ins CA j (al g z.nr z.mn z.hd z.s y (.ref l)))):=λc xs e=>U (bV e m nofun) (u _ _ e)
    erw[dg,hg]at D;erw[%[j,y,a,b,d,M,.ref l,aX,%[dg|U gk (u _ _ hg)],J _ _ N,J _ _ O,TS.mono J,U (bV hd m nofun) (u _ _ hd),dv,J _ _ hT|.inr %[l,1,(bh hv C).symm|U lk hl]],U lk hl,(f4 u).trans (SameBut.upd _)]
   erw[1,0,dZ ?_];erw[0,k,CA,j,_,0,m,TA.cl,TA.nN,LG,1,0,6]
   by_cases c:z.nr=0
   . apply aW (congrArg V.int c) ?_;erw[0,k,CA,j,_,0,m,TA.cl,TA.nG,xK,g,a,b,d,z.ns,M,z.ts,z.p,1,D,N,ok.n6,O,TS,t10,λt B=>%[(ok.gk.tok t B).1|by have:=(ok.gk.tok t B).2.2.1;omega],λl r C u hl=>?_];let Y:z.tru=z.ts.map (λt=>(cnt t z.ns:Int)):=Qk c;rw[←Y]at hl;let%[A1,L1|B1]:=put l r C u hl;erw[0,k,CA,j,0,u _ _ m,TA.cl,TA.nR,HS,6];rw[HR];erw[0,k,CA,j,_,0,aX,TA.cl,TA.nR,JF,q l _ L1 A1 B1]
   . apply az (λe=>c (V.int.inj e)) ?_;let n0:=ok.nr0;let%[x,hx,ex,d0,d1|d4]:=ok.deg #[0];erw[0,k,CA,j,_,0,m,TA.cl,TA.nG,xK,0,k,CA,j,_,0,m,TA.cl,TA.nS,al_s,0,k,CA,j,_,0,m,TA.cl,TA.nT,al_t,g,a,b,d,y,z.ns,M,z.ts,z.to,x,z.s,z.p,1,D,N,ok.n6,O,TS,t0,t10,λt B=>%[(ok.gk.tok t B).1|(ok.gk.tok t B).2.2.1],hd,hT,hx,d1,3,ok.po,3,3,λl r C u hl=>?_];let Y:z.tru=rf z.ns z.ts z.s z.p z.to (cj z.ts x+1).toNat:=by
      unfold Ak.tru;rw[Qi c,ex]
     rw[←Y]at hl;let%[A1,L1|B1]:=put l r C u hl;erw[0,k,CA,j,0,u _ _ m,TA.cl,TA.nR,HS,6];rw[HR];erw[0,k,CA,j,_,0,aX,TA.cl,TA.nR,JF,q l _ L1 A1 B1]
 . erw[1,0,cz ?_];erw[0,k,CA,j,_,0,m,TA.cl,TA.nR,JF,q l H hl AK (SameBut.refl _ _)]
instance spTrueAt(CA CG:Addr):∀(k g v:Addr)(z:Ak)(ys:List V)(i:Int),vs=[.ref k,.int i]->AkAt CA CG H k g v z->AkOk z->H v=some (.lst ys)->0<=i->i<z.p->(∀H',AkAt CA CG H' k g v z->SameBut k H H'->Q (.int (ow z i)) H'):=1
def ME:FnScope ["self","place","truths"] WM (af wJ):=%[|5]
def FT(F:#["true_at","Asking.true_at",wJ])(B:Bl mg)(TA:ATxt K mg CA)(TG:GTxt K mg CG)(mT:Meth K CA "true_numbers" L)(GT:#[17,L,r,WA,spTruths CA CG])(bT:Binds K r WA [])(M:#[4,"value_at",WJ,spVal]):#[18,f,fd,WM,spTrueAt CA CG]:=by
 exists ME
 erw[k,g,v,z,ys,i,1,x,ok,N,y,O,q]at h;refine⟨_,(aa #[aj,2,ME,ci (pv 0) TA.cl mT GT hr bT .nil be]
  (aa (aG (ag ji (aF (pv 0) rfl) ae (aq _)) (ac (am (ai M hr ⋯ rfl %[2,1,aF (aF (pv 0) rfl) rfl|aV]))) au)
  (aa (aG (ag dX (pv 1) (aE aD rfl B.len hR %[2|aV]) (aq _)) (ac (am (ax bp (aI ix_list (pv 2) (pv 1) #[1]) (aF (aF (pv 0) rfl) rfl)))) au)
  (ac (am ae))))),?_⟩
 let p2:=ok.p0;let p9:=ok.gk.p9;let%[U,aT,_,_,_,_,tr,Y|_]:=id x;erw[0,k,U,0,Y,al_n3,k,g,v,z,ys,1,x,ok,N,λl C hl n t=>?_];let u:=n;erw[b,ab,a1,b1,d1,ah,an,d,%[e|m],_]at u;unfold ow at q;erw[0,k,CA,b,_,0,d,TA.cl,TA.nN,LG,2,0,6]
 by_cases c:0<z.nr
 . rw[Qk c]at q;apply aW c ?_;erw[0,0,0,k,CA,b,_,0,d,TA.cl,TA.nG,xK,g,CG,e,_,0,m,TG.cl,TG.nF,jD ..,l,z.tru,i,z.p,1,.inl hl,ok.row c,ok.gk.pr,p9,y,O,λH2 D=>q H2 (n.same D) (t.trans (f4 D))]
 . rw [Qi c]at q;apply az c ?_;erw[0,0,l,0,.inl (fy hl),2,0,6];let J:((z.tru.map V.int).length:Int)=(z.tru.length:Int):=by rw[fx]
   by_cases o:i<(z.tru.length:Int)
   . rw[Qk o]at q;apply aW (by rw[J];exact o) ?_;let%[j|1]:=QW y;rw[J6]at q;erw[0,0,l,_,2,fy hl,pE #[0],0,k,CA,b,_,0,d,TA.cl,TA.nG,xK,g,CG,e,_,0,m,TG.cl,TG.nF,jD ..,2,(by show 0<z.p;omega),q C n t]
   . rw[Qi o]at q;apply az (by rw[J];exact o) ?_;exact q C n t
def Tm.worth(z:Ak)(bx:Str->Int):Tm->Int
 |.num n=>n % z.p | .box x=>bx x | .plain w=>qk z w
 |.ask w a=>if w="coin" then nj z (a.worth z bx)else ow z (a.worth z bx)
 |.op s a b=>opV z.p s (a.worth z bx) (b.worth z bx)
def Tm.good:Tm->Prop
 |.num _=>True | .box _=>True | .plain w=>w∈plainW | .ask w a=>w∈askW/\a.good | .op s a b=>s∈signW/\a.good/\b.good
def mL(p:Int)(bx:Str->Int):Prop:=∀x,0<=bx x/\bx x<p
def Tm.worth_rng(k:AkOk z)(c:mL z.p bx):∀t:Tm,0<=t.worth z bx/\t.worth z bx<z.p
 |.num n=>by have:=k.p0;erw[oa _ #[0],pb _ #[0]]
 |.box x=>c x
 |.plain w=>Aa k w
 |.ask w a=>by
   show 0<=(if w="coin" then nj z (a.worth z bx)else ow z (a.worth z bx))/\(if w="coin" then nj z (a.worth z bx)else ow z (a.worth z bx))<z.p
   split
   . exact DT k _
   . exact Cc k _
 |.op s a b=>by have:=k.p0;exact IS #[0]
instance spTm(CA CG:Addr)(n:Nat):∀(v:V)(t:Tm)(b k g sd:Addr)(z:Ak)(ys:List V)(bx:Str->Int)(m:Nat),vs=[v,.ref b,.ref k]->TmAt H v t->t.good->t.depth<=n->BxAt H b bx m->mL z.p bx->AkAt CA CG H k g sd z->AkOk z->H sd=some (.lst ys)->(∀H',AkAt CA CG H' k g sd z->SameBut k H H'->Q (.int (t.worth z bx)) H'):=1
def i7:FnScope ["term","boxes","asking","word","first","second"] Wb (af kt):=%[|5]
structure AskF(P:Program)(w:World)(K:W.Frag)(mg:#[9])(base:Heap)(CA CG fP fC fR:Addr)(fdP fdC fdR:FuncData):Prop where
 mP:Meth K CA "plain_value" fP
 GP:#[1,fP,fdP,Wg,spPlain CA CG]
 bP:Binds K fdP Wg []
 mC:Meth K CA "coin_at" fC
 GC:#[1,fC,fdC,WM,spCoinAt CA CG]
 bC:Binds K fdC WM []
 mR:Meth K CA "true_at" fR
 GR:#[18,fR,fdR,WM,spTrueAt CA CG]
 bR:Binds K fdR WM []
def Eh{n:Nat}(F:#["value_of",kt])(TA:ATxt K mg CA)(TG:GTxt K mg CG)(M:AskF P w K mg base CA CG fP fC fR as av aw)(gx:#[3,"op_value",Wf,spOp])(O:#[n+18,"value_of",Wb,spTm CA CG n]):#[n+19,f,fd,Wb,spTm CA CG (n+1)]:=by
 exists i7
 erw[v,t,b,k,g,sd,z,ys,bx,m,1,T,tg,td,BX,bo,j,ok,C,q]at h;let hu:=JX hr;let Qt:Room 1 _:=hr.mono #[0];let D:Room 18 _:=hr.mono #[0];refine⟨_,(aa #[aj,3,i7,aI ix_tup (pv 0) ae #[1]]
  (aa (aG (ag aP (pv 3) ao (aq _)) (ac (am (ax bp (aI ix_tup (pv 0) ae #[1]) (aF (aF (pv 2) rfl) rfl)))) au)
  (aa (aG (ag aP (pv 3) ao (aq _)) (ac (am (FC hu (pv 1) (aI ix_tup (pv 0) ae #[1]) ae %[1,1,1|1]))) au)
  (aa (aG (ag aP (pv 3) ao (aq _)) (ac (am (bu (pv 2) TA.cl M.mC M.GC Qt M.bC .nil be %[ai O hr (fz _) rfl %[aI ix_tup (pv 0) ae #[1],1,2|aV]|aV]))) au)
  (aa (aG (ag aP (pv 3) ao (aq _)) (ac (am (bu (pv 2) TA.cl M.mR M.GR D M.bR .nil be %[ai O hr (fz _) rfl %[aI ix_tup (pv 0) ae #[1],1,2|aV]|aV]))) au)
  (aa (aG (ag aP (pv 3) ao (aq _)) (aa #[aj,4,i7,ai O hr (fz _) rfl %[aI ix_tup (pv 0) ae #[1],1,2|aV]]
   (aa #[aj,5,i7,ai O hr (fz _) rfl %[aI ix_tup (pv 0) ae #[1],1,2|aV]]
   (ac (am (ai gx hr #[0] rfl %[aI ix_tup (pv 0) ae #[1],4,5,aF (aF (pv 2) rfl) rfl|aV]))))) au)
  (ac (am (bu (pv 2) TA.cl M.mP M.GP Qt M.bP .nil be %[3|aV]))))))))),?_⟩
 let ab:=j;erw[U,aT,ga,gb,gd,tv,tr,u,%[dg|hg],_]at ab;let p2:=ok.p0;let p0:0<z.p:=#[0]
 let kT:∀{r:Hp},SameBut k H r->bO H r:=λs c xs e=>s _ _ (bV e u nofun) e
 let kB:∀{r:Hp},SameBut k H r->BxAt r b bx m:=λs=>BX.keep λo e=>s _ _ (by
  erw[Ql,e',_]at BX;exact bV e' u nofun) e
 let kS:∀{r:Hp},SameBut k H r->r sd=some (.lst ys):=λs=>s _ _ (bV C u nofun) C
 cases T with
 | @num a n e=>
   erw[0,a,_,(0),0,1,eS e,1,6];erw[0,1,0,aW rfl ?_];erw[0,a,_,(1),0,1,eS e,1,0,k,CA,U,_,0,u,TA.cl,TA.nG,xK,g,CG,dg,_,0,hg,TG.cl,TG.nF,jD ..,2,p0,q H j (SameBut.refl _ _)]
 | @box a x e=>
   erw[0,a,_,(0),0,1,eS e,1,6];erw[0,1,0,7];erw[0,1,0,aW rfl ?_];erw[Ql,hb,_,hx]at BX;erw[0,b,1,.inl %[Ql|.inl hb],0,a,_,(1),0,1,eS e,1,_,DGet.k (k:=.inr x) hb,6];rw[hx];exact q H j (SameBut.refl _ _)
 | @plain a wd e=>
   let no:∀x:Str,x∉plainW->¬ V.str wd=V.str x:=λx hx e=>hx (by rw[←V.str.inj e];exact tg)
   erw[0,a,_,(0),0,1,eS e,1,6];erw[0,1,0,az (no _ ⋯) ?_];erw[0,1,0,az (no _ ⋯) ?_];erw[0,1,0,az (no _ ⋯) ?_];erw[0,1,0,az (no _ ⋯) ?_];erw[0,1,0,az (no _ ⋯) ?_];erw[0,k,U,0,u,al_n1,0,k,g,sd,z,wd,1,j,p0,q H j (SameBut.refl _ _)]
 | @ask a wd Y t1 e T1=>
   erw[wq,tq]at tg;let hw:wd="coin"∨wd="true":=by simpa [askW]using wq
   let d1:t1.depth<=n:=by have:t1.depth+1<=n+1:=td;omega
   let wr:=Tm.worth_rng ok bo t1;erw[0,a,_,(0),0,1,eS e,1,6];rcases hw with rfl | rfl
   . erw[0,1,0,7];erw[0,1,0,7];erw[0,1,0,aW rfl ?_];erw[0,k,U,0,u,al_n2,0,a,_,(1),0,1,eS e,1,0,0,Y,t1,b,k,g,sd,z,ys,bx,m,1,T1,tq,d1,BX,bo,j,ok,C,λH1 B d=>?_];erw[k,g,sd,z,0,B,ok.tl,λJ y=>?_];let L:=q J (B.same y) (d.trans (f4 y));let e1:(Tm.ask "coin" t1).worth z bx=nj z (t1.worth z bx):=Qk rfl;rw[e1]at L;exact L
   . erw[0,1,0,7];erw[0,1,0,7];erw[0,1,0,7];erw[0,1,0,aW rfl ?_];erw[0,k,U,0,u,al_n4,0,a,_,(1),0,1,eS e,1,0,0,Y,t1,b,k,g,sd,z,ys,bx,m,1,T1,tq,d1,BX,bo,j,ok,C,λH1 B d=>?_];erw[k,g,sd,z,ys,0,B,ok,kS d,wr.1,wr.2,λJ A2 y=>?_];let L:=q J A2 (d.trans y);let e1:(Tm.ask "true" t1).worth z bx=ow z (t1.worth z bx):=Qi ⋯;rw[e1]at L;exact L
 | @op a o Y v2 t1 N e T1 T2=>
   erw[oq,q1,q2]at tg;let d1:t1.depth<=n:=by have:max t1.depth N.depth+1<=n+1:=td;omega
   let d2:N.depth<=n:=by have:max t1.depth N.depth+1<=n+1:=td;omega
   let w1:=Tm.worth_rng ok bo t1;let w2:=Tm.worth_rng ok bo N;erw[0,a,_,(0),0,1,eS e,1,6];erw[0,1,0,7];erw[0,1,0,7];erw[0,1,0,7];erw[0,1,0,7];erw[0,1,0,aW rfl ?_];erw[0,a,_,(2),0,1,eS e,1,0,0,Y,t1,b,k,g,sd,z,ys,bx,m,1,T1,q1,d1,BX,bo,j,ok,C,λH1 B d=>?_];let e1:=kT d _ _ e;erw[0,a,_,(3),0,1,eS e1,1,0,0,v2,N,b,k,g,sd,z,ys,bx,m,1,T2.mono (kT d),q2,d2,kB d,bo,B,ok,kS d,λJ A2 y=>?_];let e2:=kT (d.trans y) _ _ e;let%[ah,aA,_,_,_,_,aC,an,%[ap|ar]|_]:=id A2;erw[0,a,_,(1),0,1,eS e2,1,0,0,0,k,CA,ah,_,0,an,TA.cl,TA.nG,xK,g,CG,ap,_,0,ar,TG.cl,TG.nF,jD ..,o,_,_,z.p,1,oq,ok.gk.pr,ok.gk.p9,w1.1,w1.2,w2.1,w2.2,q J A2 (d.trans y)]
def Ef:#[18,f,fd,Wb,spTm CA CG 0]:=by
 let no:∀vs H Q E,¬ spTm CA CG 0 vs H Q E:=λvs H Q E h=>by
  erw[v,t,_,_,_,_,_,_,_,_,_,_,_,h1,_]at h
  have:=t.depth_pos
  omega
 exists 3
def qQ(F:#["value_of",kt])(m:mg "value_of"=some (.ref f))(TA:ATxt K mg CA)(TG:GTxt K mg CG)(M:AskF P w K mg base CA CG g j o c d e)(b:#[3,"op_value",Wf,spOp]):
 ∀n:Nat,#[n+18,f,fd,Wb,spTm CA CG n]
 |0=>Ef
 |n+1=>Eh F TA TG M b (Cal.of F (qQ F m TA TG M b n) m (λ_ _ _ _ _ _ us hl=>by let%[q,r,t|1]:=KP hl;rfl))
end
section
variable {CM CA CG:Addr}
structure MS where
 pl:Int
 bx:Str->Int
 sd:List Int
def JS(z:Ak)(len:Int)(s:MS):Hr->MS
 |.fin=>%[len,s.bx|s.sd]
 |.go n=>%[n,s.bx|s.sd]
 |.iff t n=>%[if t.worth z s.bx=0 then s.pl+1 else n,s.bx|s.sd]
 |.set x t=>%[s.pl+1,zn s.bx x (t.worth z s.bx)|s.sd]
 |.say t=>%[s.pl+1,s.bx|s.sd++[t.worth z s.bx]]
def jr(z:Ak)(rows:List Hr)(s:MS):MS:=match rows[s.pl.toNat]? with
 |some r=>JS z rows.length s r
 |none=>s
def uA(z:Ak)(rows:List Hr):Nat->MS->MS
 |0,s=>s
 |n+1,s=>if s.pl<(rows.length:Int)/\(s.sd.length:Int)<z.mn then uA z rows n (jr z rows s)else s
def wP(mn:Int)(sd:List Int):List Int:=sd++List.replicate (mn-(sd.length:Int)).toNat 0
def Hr.good:Hr->Prop
 |.fin=>True | .go n=>0<=n | .iff t n=>t.good/\t.depth<=5/\0<=n | .set _ t=>t.good/\t.depth<=5 | .say t=>t.good/\t.depth<=5
def EK{rows:List Hr}(b:∀r∈rows,r.good){s:MS}(h:0<=s.pl):0<=(jr z rows s).pl:=by
 unfold jr;cases e:rows[s.pl.toNat]? with
 |none=>exact h
 |some r=>
   let q:=b r (lr e);cases r with
   |fin=>exact Int.natCast_nonneg _
   |go n=>exact q
   |iff t n=>
     show 0<=if t.worth z s.bx=0 then s.pl+1 else n
     by_cases c:t.worth z s.bx=0
     . rw[Qk c];omega
     . rw[Qi c];exact q.2.2
   |set x t=>show 0<=s.pl+1;omega
   |say t=>show 0<=s.pl+1;omega
def xR:(jr z rows s).sd.length<=s.sd.length+1:=by
 unfold jr;cases e:rows[s.pl.toNat]? with
 |none=>exact q9 _
 |some r=>
   cases r with
   |fin=>exact q9 _
   |go n=>exact q9 _
   |iff t n=>exact q9 _
   |set x t=>exact q9 _
   |say t=>show(s.sd++[_]).length<=_;rw[gl];exact fz _
def HK{n:Int}(h:mL p bx)(h0:0<=n)(h1:n<p):mL p (zn bx x n):=λy=>by
 unfold zn
 split
 . erw[h0,h1]
 . exact h y
def sj{s:MS}(k:AkOk z)(h:mL z.p s.bx)(b:cw s.sd z.p):mL z.p (jr z rows s).bx/\cw (jr z rows s).sd z.p:=by
 unfold jr;cases e:rows[s.pl.toNat]? with
 |none=>erw[h,b]
 |some r=>
   cases r with
   |fin=>erw[h,b]
   |go n=>erw[h,b]
   |iff t n=>erw[h,b]
   |set x t=>
     let w:=Tm.worth_rng k h t;erw[HK h w.1 w.2,b]
   |say t=>
     let w:=Tm.worth_rng k h t;erw[h,λy c=>?_];rcases qH0 c with c | c
     . exact b y c
     . rw[Qr c];exact w
def oQ(k:AkOk z):∀(n:Nat)(s:MS),mL z.p s.bx->cw s.sd z.p->(s.sd.length:Int)<=z.mn->mL z.p (uA z rows n s).bx/\cw (uA z rows n s).sd z.p/\((uA z rows n s).sd.length:Int)<=z.mn
 |0,s,h,b,hl=>%[h,b|hl]
 |n+1,s,h,b,hl=>by
   show mL z.p (if _ then _ else _:MS).bx/\cw (if _ then _ else _:MS).sd z.p/\((if _ then _ else _:MS).sd.length:Int)<=z.mn
   by_cases c:s.pl<(rows.length:Int)/\(s.sd.length:Int)<z.mn
   . rw [Qk c];let%[h1|h2]:=sj (rows:=rows) k h b
     have:=xR (z:=z) (rows:=rows) (s:=s)
     exact oQ k n _ h1 h2 #[0]
   . rw[Qi c];erw[h,b,hl]
def ym{mn:Int}{sd:List Int}(h:(sd.length:Int)<=mn):((wP mn sd).length:Int)=mn:=by
 unfold wP;rw[gl,y3];omega
def Bz(h:cw sd p)(p0:0<p):cw (wP mn sd) p:=λx b=>by
 unfold wP at b;rcases qH0 b with b | b
 . exact h x b
 . rw[List.eq_of_mem_replicate b];omega
def RowsAt(H:Hp)(b:List V)(rows:List Hr):Prop:=b.length=rows.length/\∀(i:Nat)(v:V)(r:Hr),b[i]?=some v->rows[i]?=some r->HrAt H v r
def RowsAt.mono(h:RowsAt H b rows)(k:bO H c):RowsAt c b rows:=%[h.1|λi v r h1 h2=>(h.2 i v r h1 h2).mono k]
def JM(b c:Addr)(H d:Hp):Prop:=∀a o,a≠b->a≠c->H a=some o->d a=some o
def BxAt.le{n:Nat}(h:BxAt H b bx m)(k:m<=n):BxAt H b bx n:=by
 erw[c,e,l,r]at h;erw[c,e,hQ l k,r]
def But3(b c d:Addr)(H e:Hp):Prop:=∀a o,a≠b->a≠c->a≠d->H a=some o->e a=some o
def But3.trans(x:But3 b c d H g)(y:But3 b c d g j):But3 b c d H j:=λa o h1 h2 h3 e=>y a o h1 h2 h3 (x a o h1 h2 h3 e)
instance spRowM(CM CA CG:Addr):∀(M g h b dm k sd:Addr)(rv:List V)(r pl:Int)(z:Ak)(rows:List Hr)(bx:Str->Int)(m:Nat)(said:List Int),vs=[.ref M,.int pl,.ref sd,.ref k]->H M=some (.ins CM dm (ml g h r b))->M≠k->H h=some (.tup rv)->RowsAt H rv rows->(∀r∈rows,r.good)->0<=pl->pl<(rows.length:Int)->BxAt H b bx m->mL z.p bx->m<=10000->H sd=some (.lst (said.map V.int))->said.length<=900->AkAt CA CG H k g sd z->AkOk z->(∀H',H' sd=some (.lst ((jr z rows ⟨pl,bx,said⟩).sd.map V.int))->BxAt H' b (jr z rows ⟨pl,bx,said⟩).bx (m+1)->AkAt CA CG H' k g sd z->But3 b sd k H H'->Q (.int (jr z rows ⟨pl,bx,said⟩).pl) H'):=1
def Mb:FnScope ["self","place","said","asking","row","word"] Wq (af zQ):=%[|5]
def IW(F:#["do_row","Machine.do_row",zQ])(B:Bl mg)(y:MTxt K mg CM)(cB:#[23,"value_of",Wb,spTm CA CG 5]):#[24,f,fd,Wq,spRowM CM CA CG]:=by
 exists Mb
 erw[M,g,h,b,dm,k,sd,O,rn,pl,z,rows,bx,m,said,1,hM,ab,hh,RW,rq,ah,ap,BX,bo,m1,d,sl,U,ok,q]at h;let hu:=JX hr;refine⟨_,(aa #[aj,4,Mb,aI ix_tup (aF (pv 0) rfl) (pv 1) #[1]]
  (aa #[aj,5,Mb,aI ix_tup (pv 4) ae #[1]]
  (aa (aG (ag aP (pv 5) ao (aq _)) (ac (am (aE aD rfl B.len hR %[aF (pv 0) rfl|aV]))) au)
  (aa (aG (ag aP (pv 5) ao (aq _)) (ac (am (aI ix_tup (pv 4) ae #[1]))) au)
  (aa (aG (ag aP (pv 5) ao (aq _)) (ac (IN hu (aF (pv 0) rfl) (aI ix_tup (pv 4) ae #[1]) (ai cB hr ⋯ rfl %[aI ix_tup (pv 4) ae #[1],aF (pv 0) rfl,3|aV]) rfl)) (ac (aG (ag aP (pv 5) ao (aq _)) (ac (aQ (bZ qq sk ti ca (pv 2) %[ai cB hr ⋯ rfl %[aI ix_tup (pv 4) ae #[1],aF (pv 0) rfl,3|aV]|aV]))) (ac (aG (ag jY (ai cB hr ⋯ rfl %[aI ix_tup (pv 4) ae #[1],aF (pv 0) rfl,3|aV]) ae (aq _)) (ac (am (aI ix_tup (pv 4) ae #[1]))) au)))))
  (ac (am (ax aU (pv 1) ae)))))))),?_⟩
 let%[i|1]:=QW ah;let hi:i<rows.length:=#[0]
 let an:i<O.length:=by rw[RW.1];exact hi
 let er:rows[i]?=some rows[i]:=j3 hi;let ev:O[i]?=some O[i]:=j3 an;let RA:=RW.2 i _ _ ev er;let j:=rq _ (vr hi);let Qn:jr z rows %[(i:Int),bx|said]=JS z rows.length ⟨(i:Int),bx,said⟩ rows[i]:=by
  unfold jr;rw[show((%[(i:Int),bx|said]:MS).pl.toNat)=i from J6 i,er]
 rw[Qn]at q;generalize rows[i]=row at RA j q er Qn;let at_:atI O (i:Int)=some O[i]:=bd ev;generalize O[i]=v at RA at_ ev;erw[0,M,CM,dm,_,0,hM,y.cl,y.nH,KL,0,h,_,_,v,1,1,eS hh,at_,6];let K0:But3 b sd k H H:=λ_ _ _ _ _ e=>e
 let Y:sd≠b:=by
  erw[Ql,e,_]at BX;exact bV d e nofun
 let%[Ql,hb,kl|hx]:=id BX;let%[dk,_,_,_,_,_,_,hk|_]:=id U;let kT:∀{L:Hp},SameBut k H L->bO H L:=λs c xs e=>s _ _ (bV e hk nofun) e
 let D:b≠k:=bV hb hk nofun;let N:sd≠k:=bV d hk nofun;cases RA with
 | @fin a e=>
   erw[0,a,_,(0),0,1,eS e,1,6];erw[0,1,0,aW rfl ?_];erw[0,M,CM,dm,_,0,hM,y.cl,y.nH,KL,h,0,.inr (eS hh),6];rw[RW.1];exact q H d (BX.le (q9 _)) U K0
 | @go a n e=>
   erw[0,a,_,(0),0,1,eS e,1,6];erw[0,1,0,7];erw[0,1,0,aW rfl ?_];erw[0,a,_,(1),0,1,eS e,1,q H d (BX.le (q9 _)) U K0]
 | @iff a u t n e T=>
   erw[0,a,_,(0),0,1,eS e,1,6];erw[0,1,0,7];erw[0,1,0,7];erw[0,1,0,7];erw[0,1,0,7];erw[0,a,_,(1),0,1,eS e,1,0,M,CM,dm,_,0,hM,y.cl,y.nB,Jh,0,u,t,b,k,g,sd,z,_,bx,m,1,T,j.1,j.2.1,BX,bo,U,ok,d,λH1 A1 r=>?_];erw[1,0,6];let q':∀L,L sd=some (.lst (said.map V.int))->BxAt L b bx (m+1)->AkAt CA CG L k g sd z->But3 b sd k H L->Q (.int (if t.worth z bx=0 then(i:Int)+1 else n)) L:=q
   let q1:=q' H1 (r _ _ N d) ((BX.keep λo e=>r _ _ D e).le (q9 _)) A1 (λc o _ _ h3 e=>r _ _ h3 e)
   by_cases c:t.worth z bx=0
   . rw[Qk c]at q1;apply mZ (congrArg V.int c) ?_;erw[0,2,q1]
   . rw[Qi c]at q1;apply iteN (λz=>c (V.int.inj z)) ?_;erw[0,a,_,(2),0,1,eS (kT r _ _ e),1,q1]
 | @set a x u t e T=>
   erw[0,a,_,(0),0,1,eS e,1,6];erw[0,1,0,7];erw[0,1,0,7];erw[0,1,0,aW rfl ?_];erw[0,a,_,(2),0,1,eS e,1,0,M,CM,dm,_,0,hM,y.cl,y.nB,Jh,0,u,t,b,k,g,sd,z,_,bx,m,1,T,j.1,j.2,BX,bo,U,ok,d,λH1 A1 r=>?_];let J:=r _ _ D hb;let C:=r _ _ N d;erw[0,M,CM,dm,_,0,r _ _ ab hM,y.cl,y.nB,Jh,0,a,_,(1),0,1,eS (kT r _ _ e),1,b,0,DPut.k (k:=.inr x) J ?_,6]
   . exact sb kl (sb m1 ⋯)
   erw[0,2,6];apply q _ ?_ ⟨_,aX,hQ (lS _ _ _) (on kl),LA x _ hx⟩ (A1.but2 J C λc o h1 _ e=>by rw[aB h1];exact e) (λc o h1 _ h3 e=>by rw[aB h1];exact r _ _ h3 e);rw[aB Y];exact C
 | @say a u t e T=>
   erw[0,a,_,(0),0,1,eS e,1,6];erw[0,1,0,7];erw[0,1,0,7];erw[0,1,0,7];erw[0,1,0,aW rfl ?_];erw[0,.inl %[1,_|fy d],6];erw[0,a,_,(1),0,1,eS e,1,0,M,CM,dm,_,0,hM,y.cl,y.nB,Jh,0,u,t,b,k,g,sd,z,_,bx,m,1,T,j.1,j.2,BX,bo,U,ok,d,λH1 A1 r=>?_];let J:=r _ _ D hb;let C:=r _ _ N d;erw[sd,2,C,6,6]
   . rw[fx];exact aN #[0]
   erw[0,2,6];apply q _ ?_ ((BX.keep λo e=>by rw[aB Y.symm];exact r _ _ D e).le (q9 _)) (A1.but2 J C λc o _ h2 e=>by rw[aB h2];exact e) (λc o _ h2 h3 e=>by rw[aB h2];exact r _ _ h3 e);rw[aX];show _=some (HO.lst ((said++[t.worth z bx]).map V.int));rw[hI];rfl
end
section
variable {CM CA CG:Addr}
def m1(g:Addr):List (Str×V):=[("game",.ref g)]
def m2(g h:Addr):List (Str×V):=[("game",.ref g),("helper",.ref h)]
def m3(g h:Addr):List (Str×V):=[("game",.ref g),("helper",.ref h),("next_round",.int 0)]
def pm1{g:Addr}:cQ "game" (.ref g) []=m1 g:=by rfl'
def pm2{h:Addr}:cQ "helper" (.ref h) (m1 g)=m2 g h:=by rfl'
def pm3:cQ "next_round" (.int 0) (m2 g h)=m3 g h:=by rfl'
def pm4{b:Addr}:cQ "boxes" (.ref b) (m3 g h)=ml g h 0 b:=by rfl'
instance spMInit(CM:Addr):∀(M g h dm:Addr),vs=[.ref M,.ref g,.ref h]->H M=some (.ins CM dm [])->(∀(b:Addr)(H':Hp),H b=none->H' M=some (.ins CM dm (ml g h 0 b))->H' b=some (.dK [])->SameBut M H H'->Q .non H'):=1
def EW:FnScope Wh Wh (af wD):=%[|5]
def FO(F:#["__init__","Machine.__init__",wD])(T:MTxt K mg CM):#[1,f,fd,Wh,spMInit CM]:=by
 exists EW
 erw[M,g,h,dm,1,hM,q]at h;refine⟨_,(aa (aZ (pv 0) (pv 1) rfl)
  (aa (aZ (pv 0) (pv 2) rfl)
  (aa (aZ (pv 0) ae rfl)
  (ac (aZ (pv 0) FB rfl))))),?_⟩
 erw[0,0,M,CM,dm,0,hM,9,T.nG,(by show 0<1000;decide),6];rw[pm1];erw[0,0,M,CM,dm,0,aX,9,T.nH,(by show 1<1000;decide),6];rw[pm2];erw[0,M,CM,dm,0,aX,9,T.nR,(by show 2<1000;decide),6];rw[pm3];let d:SameBut M H (upd (upd (upd H M (.ins CM dm (m1 g))) M (.ins CM dm (m2 g h))) M (.ins CM dm (m3 g h))):=(SameBut.upd _).trans ((SameBut.upd _).trans (SameBut.upd _));let g3:upd (upd (upd H M (.ins CM dm (m1 g))) M (.ins CM dm (m2 g h))) M (.ins CM dm (m3 g h)) M=some (.ins CM dm (m3 g h)):=aX;generalize upd (upd (upd H M (.ins CM dm (m1 g))) M (.ins CM dm (m2 g h))) M (.ins CM dm (m3 g h))=m at d g3;intro b c;let j:b≠M:=(bh g3 c).symm;erw[0,M,CM,dm,0,by rw[aB j.symm];exact g3,T.cl,T.nB,(by show 3<1000;decide),6];rw[pm4];apply q b _ ?_ aX (by rw[aB j];exact aX) (d.trans ((f4 (fj c _)).trans (SameBut.upd _)));cases e:H b with
 |none=>rfl
 |some o=>rw[d b o j e]at c;cases c
def a1(g:Addr):List (Str×V):=[("game",.ref g)]
def a2(g:Addr)(nr:Int):List (Str×V):=[("game",.ref g),("number",.int nr)]
def a3(g:Addr)(nr mn:Int):List (Str×V):=[("game",.ref g),("number",.int nr),("many",.int mn)]
def a4(g:Addr)(nr mn hd:Int):List (Str×V):=[("game",.ref g),("number",.int nr),("many",.int mn),("held",.int hd)]
def a5(g:Addr)(nr mn hd s:Int):List (Str×V):=[("game",.ref g),("number",.int nr),("many",.int mn),("held",.int hd),("s",.int s)]
def a6(g:Addr)(nr mn hd s:Int)(b:Addr):List (Str×V):=[("game",.ref g),("number",.int nr),("many",.int mn),("held",.int hd),("s",.int s),("tossed",.ref b)]
section
variable {g aT:Addr}{nr mn hd s:Int}
def pa1:cQ "game" (.ref g) []=a1 g:=by rfl'
def pa2:cQ "number" (.int nr) (a1 g)=a2 g nr:=by rfl'
def pa3:cQ "many" (.int mn) (a2 g nr)=a3 g nr mn:=by rfl'
def pa4:cQ "held" (.int hd) (a3 g nr mn)=a4 g nr mn hd:=by rfl'
def pa5:cQ "s" (.int s) (a4 g nr mn hd)=a5 g nr mn hd s:=by rfl'
def pa6:cQ "tossed" (.ref aT) (a5 g nr mn hd s)=a6 g nr mn hd s aT:=by rfl'
def pa7:cQ "truths" .non (a6 g nr mn hd s aT)=al g nr mn hd s aT .non:=by rfl'
end
instance spAInit(CA:Addr):∀(k dk g c:Addr)(nr mn hd s:Int)(xs:List V),vs=[.ref k,.ref g,.int nr,.int mn,.int hd,.int s,.ref c]->H k=some (.ins CA dk [])->H c=some (.lst xs)∨H c=some (.tup xs)->(∀(aT:Addr)(H':Hp),H' k=some (.ins CA dk (al g nr mn hd s aT .non))->H' aT=some (.tup xs)->SameBut k H H'->Q .non H'):=1
def Fd:FnScope Wi Wi (af wK):=%[|5]
def FU(F:#["__init__","Asking.__init__",wK])(B:Bl mg)(T:ATxt K mg CA):#[1,f,fd,Wi,spAInit CA]:=by
 exists Fd
 erw[k,b,g,c,nr,mn,hd,s,xs,1,j,hc,q]at h;refine⟨_,(aa (aZ (pv 0) (pv 1) rfl)
  (aa (aZ (pv 0) (pv 2) rfl)
  (aa (aZ (pv 0) (pv 3) rfl)
  (aa (aZ (pv 0) (pv 4) rfl)
  (aa (aZ (pv 0) (pv 5) rfl)
  (aa (aZ (pv 0) (aR aY rfl B.tuple bq %[6|aV]) rfl)
  (ac (aZ (pv 0) FA rfl)))))))),?_⟩
 erw[0,0,k,CA,b,0,j,9,T.nG,(by show 0<1000;decide),6];rw[pa1];erw[0,0,k,CA,b,0,aX,9,T.nN,(by show 1<1000;decide),6];rw[pa2];erw[0,0,k,CA,b,0,aX,9,T.nM,(by show 2<1000;decide),6];rw[pa3];erw[0,0,k,CA,b,0,aX,9,T.nH,(by show 3<1000;decide),6];rw[pa4];erw[0,0,k,CA,b,0,aX,9,T.nS,(by show 4<1000;decide),6];rw[pa5];let e:SameBut k H (upd (upd (upd (upd (upd H k (.ins CA b (a1 g))) k (.ins CA b (a2 g nr))) k (.ins CA b (a3 g nr mn))) k (.ins CA b (a4 g nr mn hd))) k (.ins CA b (a5 g nr mn hd s))):=(SameBut.upd _).trans ((SameBut.upd _).trans ((SameBut.upd _).trans ((SameBut.upd _).trans (SameBut.upd _))));let g5:upd (upd (upd (upd (upd H k (.ins CA b (a1 g))) k (.ins CA b (a2 g nr))) k (.ins CA b (a3 g nr mn))) k (.ins CA b (a4 g nr mn hd))) k (.ins CA b (a5 g nr mn hd s)) k=some (.ins CA b (a5 g nr mn hd s)):=aX;generalize upd (upd (upd (upd (upd H k (.ins CA b (a1 g))) k (.ins CA b (a2 g nr))) k (.ins CA b (a3 g nr mn))) k (.ins CA b (a4 g nr mn hd))) k (.ins CA b (a5 g nr mn hd s))=t at e g5;rcases hc with hc | hc
 . let d:=e _ _ (bV hc j nofun) hc;erw[0,c,0,.inl %[fy d|λo r=>?_]];let m:o≠k:=(bh g5 r).symm;erw[0,k,CA,b,0,by rw[aB m.symm];exact g5,T.cl,T.nT,(by show 5<1000;decide),6];rw[pa6];erw[0,k,CA,b,0,aX,9,T.nR,(by show 6<1000;decide),6];rw[pa7];exact q o _ aX (by rw[aB m,aB m];exact aX) (e.trans ((f4 (fj r _)).trans ((SameBut.upd _).trans (SameBut.upd _))))
 . let n:=bV hc j nofun;let d:=e _ _ n hc;erw[0,c,0,.inr %[eS d|6]];erw[0,k,CA,b,0,g5,9,T.nT,(by show 5<1000;decide),6];rw[pa6];erw[0,k,CA,b,0,aX,9,T.nR,(by show 6<1000;decide),6];rw[pa7];exact q c _ aX (by rw[aB n,aB n];exact d) (e.trans ((SameBut.upd _).trans (SameBut.upd _)))
instance spSay(CM CG:Addr):∀(M g h b dm c:Addr)(rv:List V)(z:Ak)(rows:List Hr)(bx:Str->Int)(m:Nat),vs=[.ref M,.int z.mn,.int z.hd,.int z.s,.ref c]->H M=some (.ins CM dm (ml g h z.nr b))->H h=some (.tup rv)->RowsAt H rv rows->(∀r∈rows,r.good)->BxAt H b bx m->mL z.p bx->m<=5000->Gm CG H g z.ns z.ts z.p->AkOk z->H c=some (.lst (z.to.map V.int))∨H c=some (.tup (z.to.map V.int))->0<=z.mn->z.mn<=500->(∀(l:Addr)(H':Hp),H l=none->H' l=some (.lst ((wP z.mn (uA z rows 200 ⟨0,bx,[]⟩).sd).map V.int))->BxAt H' b (uA z rows 200 ⟨0,bx,[]⟩).bx (m+200)->H' M=some (.ins CM dm (ml g h (z.nr+1) b))->JM M b H H'->Q (.ref l) H'):=1
def iP:FnScope ["self","many","due","s","coins","asking","said","place","done"] Wr (af zP):=%[|5]
def Fq(k:Nat)(x:V):(List.replicate k [x]).flatten=List.replicate k x:=by
 induction k with
 |zero=>rfl
 |succ k b=>rw[Qy,Q0,b,Qy];rfl
instance tSayE(Dn:Ends)(σ:St)(H:Hp):∀(x0 x2 x3 x4 x5 x7 x8:Option V)(sd:Addr)(mn:Int)(xs:List Int),σ=[x0,some (.int mn),x2,x3,x4,x5,some (.ref sd),x7,x8]->H sd=some (.lst (xs.map V.int))->xs.length<=200->0<=mn->mn<=500->(∀(l:Addr)(H':Hp),H l=none->Same H H'->H' l=some (.lst ((wP mn xs).map V.int))->Dn.rt (.ref l) H'):=0
instance ISy(CA CG:Addr)(H4:Hp)(M c k sd b g:Addr)(rows:List Hr)(z:Ak)(bx:Str->Int)(m:Nat)(mm:Nat)(σ:St)(H':Hp):∀(st:MS)(d:Nat),σ=[some (.ref M),some (.int z.mn),some (.int z.hd),some (.int z.s),some (.ref c),some (.ref k),some (.ref sd),some (.int st.pl),some (.int (d:Int))]->d<=200->mm=200-d->0<=st.pl->st.sd.length<=d->uA z rows (200-d) st=uA z rows 200 ⟨0,bx,[]⟩->H' sd=some (.lst (st.sd.map V.int))->BxAt H' b st.bx (m+d)->mL z.p st.bx->cw st.sd z.p->AkAt CA CG H' k g sd z->But3 b sd k H4 H':=0
def IV(F:#["say","Machine.say",zP])(B:Bl mg)(C:MTxt K mg CM)(TA:ATxt K mg CA)(ap:∃t,mg "MOST_ROWS_DONE"=some (.int 200 t))
 (MA:Mk K CA fA)(GA:#[1,fA,bf,Wi,spAInit CA])(bA:Binds K bf Wi [])
 (mR:Meth K CM "do_row" fR)(GR:#[24,fR,bg,Wq,spRowM CM CA CG])(bR:Binds K bg Wq []):#[25,f,fd,Wr,spSay CM CG]:=by
 exists iP
 erw[M,g,h,b,dm,c,rv,z,rows,bx,m,1,hM,hh,RW,rq,BX,bo,mm,GG,ok,hc,N,O,q]at h;erw[a',b',d',tv,G,bi,bm,TS,U]at GG;erw[te,ge]at ap;let br:Room (1+1) _:=hr.mono ⋯;let bt:Room 24 _:=hr.mono ⋯;refine⟨_,(aa #[aj,5,iP,jy MA GA br rfl TA.mgC bA .nil be %[aF (pv 0) rfl,aF (pv 0) rfl,1,2,3,4|aV]]
  (aa (aZ (pv 0) (ax aU (aF (pv 0) rfl) ae) rfl)
  (aa #[aj,6,iP,cY aV]
  (aa #[aj,7,iP,ae]
  (aa #[aj,8,iP,ae]
  (aa (jX n7 (PW.pt (qi (ag dX (pv 7) (aE aD rfl B.len hR %[aF (pv 0) rfl|aV]) (aq _)) (qi (ag dX (aE aD rfl B.len hR %[6|aV]) (pv 1) (aq _)) (oR (ag dX (pv 8) (bQ (v:=.int 200) rfl ge ⟨_,rfl⟩) (aq _)))))) (aa #[aj,7,iP,bu (pv 0) C.cl mR GR bt bR .nil be %[7,6,5|aV]]
   (ac #[aj,8,iP,ax aU (pv 8) ae])))
  (fb (t':=tSayE) (ac (am (ax kM (pv 6) (ax KD (cY %[ae|aV]) (ax bz (pv 1) (aE aD rfl B.len hR %[6|aV])))))) (by
   rintro Dn σ H ⟨x0,x2,x3,x4,x5,x7,x8,sd,mn,xs,rfl,r,xl,N,O,q⟩;erw[0,y1S,λz hz=>?_];let I1:=fj hz (.lst [.int 0]);let g1:upd H z (.lst [.int 0]) z=some (.lst [.int 0]):=aX;generalize upd H z (.lst [.int 0])=H1 at I1 g1;erw[0,0,sd,0,.inl (fy (I1 _ _ r)),2,6];let el:((xs.map V.int).length:Int)=(xs.length:Int):=by rw[fx]
   erw[z,2,g1,3,3,bc (by show 1*(mn-((xs.map V.int).length:Int)).toNat<=1000;omega),λy hy=>?_];rw[Fq];let I2:=fj hy (.lst (List.replicate (mn-((xs.map V.int).length:Int)).toNat (.int 0)));let g2:upd H1 y (.lst (List.replicate (mn-((xs.map V.int).length:Int)).toNat (.int 0))) y=some (.lst (List.replicate (mn-((xs.map V.int).length:Int)).toNat (.int 0))):=aX;generalize upd H1 y (.lst (List.replicate (mn-((xs.map V.int).length:Int)).toNat (.int 0)))=H2 at I2 g2;erw[sd,y,2,I2 _ _ (I1 _ _ r),g2,6,λl hl=>?_]
   . rw[y3,fx];exact bc #[0]
   apply q l _ ?_ (I1.trans (I2.trans (fj hl _))) ?_
   . cases e:H l with
     |none=>rfl
     |some o=>rw[I2 _ _ (I1 _ _ e)]at hl;cases hl
   . rw[aX,el];unfold wP;rw[hI,List.map_replicate])))))))),?_⟩
 erw[0,M,CM,dm,_,0,hM,C.cl,C.nG,ml_g,0,M,CM,dm,_,0,hM,C.cl,C.nR,ml_r,0,0,0,0,λk Y hk bB nk=>?_];let S1:Same H (upd (upd H Y (.own k)) k (.ins CA Y [])):=λa o e=>by
  rw[aB (bh e hk),aB (bh e bB)];exact e
 let g1:upd (upd H Y (.own k)) k (.ins CA Y []) k=some (.ins CA Y []):=aX;generalize upd (upd H Y (.own k)) k (.ins CA Y [])=H1 at S1 g1;erw[k,Y,g,c,z.nr,z.mn,z.hd,z.s,z.to.map V.int,1,g1,hc.imp (S1 _ _) (S1 _ _),λaT H2 bC aA S2=>%[1|6]];let ab:Same H H2:=Same.but S1 hk S2;clear S1 S2 g1;let ar:=ab _ _ hM;erw[0,M,CM,dm,_,0,ar,C.cl,C.nR,ml_r,2,0,M,CM,dm,0,ar,C.cl,C.nR,KK,6];rw[KJ];let as:M≠k:=bh hM hk;let S3:SameBut M H2 (upd H2 M (.ins CM dm (ml g h (z.nr+1) b))):=SameBut.upd _;let aC:upd H2 M (.ins CM dm (ml g h (z.nr+1) b)) M=some (.ins CM dm (ml g h (z.nr+1) b)):=aX;generalize upd H2 M (.ins CM dm (ml g h (z.nr+1) b))=H3 at S3 aC;erw[y0S,λsd r=>?_];let I4:=fj r (.lst []);let g4:upd H3 sd (.lst []) sd=some (.lst []):=aX;generalize upd H3 sd (.lst [])=H4 at I4 g4;let gM:g≠M:=λe=>by
  erw[dg,hg]at G;rw[e,hM]at hg;cases hg
 let aH:b≠M:=by
  erw[Ql,e,_]at BX;exact bV e hM nofun
 let u:SameBut M H H4:=(f4 ab).trans (S3.trans (f4 I4));let aK:=I4 _ _ aC;let kT:bO H H4:=λc xs h=>u c _ (bV h hM nofun) h
 let ah:=kT _ _ hh;let bD:=RW.mono kT;let aL:BxAt H4 b bx m:=BX.keep λo e=>u b o aH e
 let G4:GameAt CG H4 g a' b' d' z.p:=by
  erw[dg,hg]at G;erw[dg,u _ _ gM hg]
 let bE:H4 aT=some (.tup (z.to.map V.int)):=I4 _ _ (S3 _ _ (bV aA ar nofun) aA);let a0:=u _ _ (bV U hM nofun) U;let bF:d'≠sd:=bh (S3 _ _ (bV U hM nofun) (ab _ _ U)) r;let D:=I4 _ _ (S3 _ _ as.symm bC);let b4:∃Ql,H4 b=some (.dK Ql):=by
  erw[Ql,e,_]at aL;erw[Ql,e]
 erw[bW,an]at b4;let b0:b≠sd:=bV an g4 nofun;let bG:h≠b:=bV ah an nofun;let bH:h≠sd:=bV ah g4 nofun;let a7:M≠sd:=bV aK g4 nofun;let b1:k≠b:=bV D an nofun;let b2:k≠sd:=bV D g4 nofun;let bI:AkAt CA CG H4 k g sd z:=%[Y,aT,a',b',d',tv,.non,D,G4,kT _ _ bi,kT _ _ bm,TS.mono kT,a0,bF,bE|.inl rfl]
 let bM:H sd=none:=by
  cases e:H sd with
  |none=>rfl
  |some o=>rw[S3 _ _ a7.symm (ab _ _ e)]at r;cases r
 erw[ISy CA CG H4 M c k sd b g rows z bx m,%[_,%[(0),bx|[]],(0),1,kr _,1,u6 0,fz _,1,g4,aL,bo,(λx hx=>by cases hx),bI|λ_ _ _ _ _ e=>e],6]
 rintro mm σ H' ⟨st,d,rfl,d2,rfl,a8,sl,J,j,av,aw,a9,bN,S'⟩;let L:=S' _ _ aH.symm a7 as aK;let bb:=S' _ _ bG bH (bV ah D nofun) ah;let bP:bO H4 H':=λc xs h=>S' c _ (bV h an nofun) (bV h g4 nofun) (bV h D nofun) h
 let bS:=bD.mono bP;let fin:uA z rows (200-d) st=st->∀(l:Addr)(H5:Hp),H' l=none->Same H' H5->H5 l=some (.lst ((wP z.mn st.sd).map V.int))->Q (.ref l) H5:=λer l H5 l0 S5 hl=>by
  rw[er]at J;rw[←J]at q;apply q l H5 ?_ hl ((av.keep λo e=>S5 b o e).le #[0]) (S5 _ _ L) (λa o h1 h2 e=>?_)
  . cases e:H l with
    |none=>rfl
    |some o=>
      let lM:l≠M:=λz=>by rw[z,L]at l0;cases l0
      let lb:l≠b:=λz=>by
       erw[Ql,e',_]at av;rw[z,e']at l0;cases l0
      let ls:l≠sd:=λz=>by rw[z,j]at l0;cases l0
      rw[S' _ _ lb ls (bh e hk) (u _ _ lM e)]at l0;cases l0
  . exact S5 _ _ (S' _ _ h2 (bh e bM) (bh e hk) (u _ _ h1 e))
 erw[0,0,M,CM,dm,_,0,L,C.cl,C.nH,KL,h,0,.inr (eS bb),2,0,6];rw[RW.1]
 by_cases c1:st.pl<(rows.length:Int)
 . apply aW c1 ?_;erw[0,sd,0,.inl (fy j),0,2,0,6];rw[fx]
   by_cases c2:(st.sd.length:Int)<z.mn
   . apply aW c2 ?_;erw[0,2,0,6]
     by_cases c3:d<200
     . apply aW #[0] ?_;erw[_,λ_ _ h=>h,6];erw[0,M,dm,0,L,ml_n1,0,0,0,M,g,h,b,dm,k,sd,rv,_,st.pl,z,rows,st.bx,m+d,st.sd,1,L,as,bb,bS,rq,a8,c1,av,aw,3,j,3,bN,ok,λH6 bT bU A6 S6=>?_];erw[0,2,6];erw[_,(show 200-(d+1)<200-d by omega),jr z rows st,d+1,1,c3,1,EK rq a8,hQ xR (on sl),6,bT,bU,(sj ok aw a9).1,(sj ok aw a9).2,A6,S'.trans S6];rw[←J,show 200-d=(200-(d+1))+1 by omega];exact(Qk ⟨c1,c2⟩).symm
     . apply az #[0] ?_;let ed:200-d=0:=#[0]
       erw[_,_,_,_,_,_,_,sd,z.mn,st.sd,1,j,3,N,O,fin (by rw[ed];rfl)]
   . apply az c2 (cz ?_);erw[_,_,_,_,_,_,_,sd,z.mn,st.sd,1,j,3,N,O,fin ?_];cases 200-d with
     |zero=>rfl
     |succ n=>exact Qi (λz=>c2 z.2)
 . apply az c1 (cz ?_);erw[_,_,_,_,_,_,_,sd,z.mn,st.sd,1,j,3,N,O,fin ?_];cases 200-d with
   |zero=>rfl
   |succ n=>exact Qi (λz=>c1 z.1)
end
section
variable {ns:List Str}{ts:List Tr}{p:Int}
def xF(k:GmK ns ts p)(x:Str):0<=cj ts x/\cj ts x<=400:=by
 let b:ts≠[]:=λz=>by have:=k.t1;rw[z]at this;cases this
 have:=lR (ns:=ts.map λt=>(t.names.count x:Int)) #[b,0]
 let%[t,c|e]:=List.mem_map.mp this;unfold cj;rw[←e];let h1:=Sh (a:=x) (l:=t.names);let h2:=t.names_len;let h3:=(k.tok t c).2.2.2;omega
end
structure HearOk(ns:List Str)(p:Int)(z:Db)(xs:List Int):Prop where
 aw:z.aw=(("hear":Str),some (xs.length:Int))
 xo:cw xs p
 x5:xs.length<=500
 ro:z.cl≠[]->kY xs p
 tl:z.to.length<=ns.length
 po:cw z.to p
structure TossOk(ns:List Str)(p:Int)(z:Db)(r:Int):Prop where
 aw:z.aw.1="coin"
 r0:0<=r
 r1:r<p
 tl:z.to.length<=ns.length
 ro:z.he≠[]->kY z.he p/\z.to.length<ns.length
 po:cw z.to p
section
variable {C CG cT cC cN:Addr}
structure Gd(ns:List Str)(ts:List Tr)(p:Int)(z:Db):Prop where
 tl:z.to.length<=ns.length
 po:cw z.to p
 e0:0<=z.ed
 e1:z.ed<p
 he:z.aw.1="hear" -> (z.cl=[]/\z.aw=(("hear":Str),some (ts.length:Int)))∨(z.cl≠[]/\z.to.length<ns.length/\z.aw=(("hear":Str),some (cj ts (ns.getD z.to.length "")+1)))
 co:z.aw.1="coin" -> z.cl≠[]/\(z.he≠[]->kY z.he p/\z.to.length<ns.length)
 h0:z.cl=[]->z.he=[]
 ww:AwW z.aw.1
section
variable {ns:List Str}{ts:List Tr}{p:Int}{z:Db}
def Gd.new(k:GmK ns ts p):Gd ns ts p (Db.new ts):=by
 have:=k.p2
 erw[kr _,(λx b=>by cases b),u6 _,(by show(0:Int)<p;omega),λ_=>.inl %[1|1],(λh=>by cases h),λ_=>rfl,.inl rfl]
def Gd.goOn(tl:z.to.length<=ns.length)(po:cw z.to p)(e0:0<=z.ed)(e1:z.ed<p)(cl:z.cl≠[]):Gd ns ts p (goOn ns ts p z):=by
 unfold Mine.goOn
 by_cases c:z.to.length<ns.length
 . rw[Qk c];erw[tl,po,e0,e1,λ_=>.inr %[cl,c|1],(λh=>by cases h),λh=>absurd h cl,.inl rfl]
 . rw [Qi c];unfold fq
   by_cases e:z.ed=hor z.s p (ts.map λt=>t.worth ns z.to p)
   . rw[Qk e];erw[tl,po,e0,e1,(λh=>by cases h),(λh=>by cases h),λh=>absurd h cl,.inr (.inr (.inr rfl))]
   . rw[Qi e];erw[tl,po,e0,e1,(λh=>by cases h),(λh=>by cases h),λh=>absurd h cl,.inr (.inr (.inl rfl))]
def Gd.hear_ne(k:GmK ns ts p)(h:Gd ns ts p z)(ok:HearOk ns p z xs):xs≠[]:=λe=>by
 let a:=ok.aw;rw[e,o0]at a;let t1:=k.t1;rcases h.he (by rw[a])with⟨_,w⟩ | ⟨_,_,w⟩
 . rw [w]at a
   have:=ln (Prod.mk.inj a).2
   omega
 . rw [w]at a
   have:=ln (Prod.mk.inj a).2
   have:=xF k (ns.getD z.to.length "")
   omega
def Gd.hear(k:GmK ns ts p)(h:Gd ns ts p z)(ok:HearOk ns p z xs):Gd ns ts p (cM ns ts p xs z)/\(cM ns ts p xs z).cl≠[]:=by
 let p2:=k.p2;let b:=h.hear_ne k ok;let a1:z.aw.1="hear":=by rw[ok.aw]
 unfold cM
 by_cases c:z.cl=[]
 . rw [Qk c];unfold lT
   by_cases d:ts.length=1
   . rw [Qk d];unfold xH;let hr:=rQ (s:=0) (p:=p) #[0] xs;erw[Gd.goOn h.tl h.po hr.1 hr.2 b,6];unfold Mine.goOn fq
     split <;> exact b
   . rw[Qi d];erw[%[h.tl,h.po,h.e0,h.e1,(λz=>by cases z),λ_=>%[b|λe=>absurd (h.h0 c) e],λe=>absurd e b|.inr (.inl rfl)],b]
 . rw [Qi c];unfold gn;let tl:z.to.length<ns.length:=by
    rcases h.he a1 with⟨e,_⟩ | ⟨_,t,_⟩
    . exact absurd e c
    . exact t
   by_cases e:(val p xs 0+val p xs 1) % p=z.ed
   . rw[Qk e];erw[%[h.tl,h.po,h.e0,h.e1,(λz=>by cases z),λ_=>%[c|λ_=>%[ok.ro c|tl]],λe=>absurd e c|.inr (.inl rfl)],c]
   . rw[Qi e];erw[%[h.tl,h.po,h.e0,h.e1,(λz=>by cases z),(λz=>by cases z),λe=>absurd e c|.inr (.inr (.inl rfl))],c]
def Gd.toss(k:GmK ns ts p)(h:Gd ns ts p z)(ok:TossOk ns p z r):Gd ns ts p (dz ns ts p r z)/\(dz ns ts p r z).cl≠[]:=by
 let p2:=k.p2;let%[cl|ro]:=h.co ok.aw;unfold dz
 by_cases c:z.he=[]
 . rw [Qk c];unfold xH;let hr:=rQ (s:=r) (p:=p) #[0] z.cl;erw[Gd.goOn h.tl h.po hr.1 hr.2 cl,6];unfold Mine.goOn fq
   split <;> exact cl
 . rw [Qi c];let hr:=Ie (p:=p) #[0] z.he r;erw[Gd.goOn ?_ (λx b=>?_) hr.1 hr.2 cl,6]
   . show (z.to++[r]).length<=_;rw[gl,q0]
     have:=(ro c).2
     omega
   . rcases qH0 b with h' | h'
     . exact h.po x h'
     . rw[Qr h'];erw[ok.r0,ok.r1]
   . unfold Mine.goOn fq
     split <;> exact cl
end
end
structure Tk where
 z:Db
 bx:Str->Int
 nr:Int
def awN(z:Db):Int:=z.aw.2.getD 0
def Tk.ak(ns:List Str)(ts:List Tr)(p:Int)(t:Tk):Ak:=%[ns,ts,p,t.nr,awN t.z,t.z.ed,t.z.s|t.z.to]
def Tk.run(ns:List Str)(ts:List Tr)(p:Int)(rows:List Hr)(t:Tk):MS:=uA (t.ak ns ts p) rows 200 %[(0),t.bx|[]]
def Tk.said(ns:List Str)(ts:List Tr)(p:Int)(rows:List Hr)(t:Tk):List Int:=wP (awN t.z) (t.run ns ts p rows).sd
def Tk.ask(ns:List Str)(ts:List Tr)(p:Int)(rows:List Hr)(t:Tk):Tk:=%[cM ns ts p (t.said ns ts p rows) t.z,(t.run ns ts p rows).bx|t.nr+1]
def Tk.toss(ns:List Str)(ts:List Tr)(p r:Int)(t:Tk):Tk:=%[dz ns ts p r t.z,t.bx|t.nr]
def Tk.new(ts:List Tr):Tk:=%[Db.new ts,λ_=>0|(0)]
def cI(ns:List Str)(z:Db):Nat:=if z.aw.1="hear" then 2*(ns.length-z.to.length)else if z.aw.1="coin" then(if z.he=[]then 2*ns.length+1 else 2*(ns.length-z.to.length)-1)else 0
def dj(ns:List Str)(z:Db):Nat:=if z.aw.1="hear" then ns.length-z.to.length else if z.aw.1="coin" then(if z.he=[]then ns.length+1 else ns.length-z.to.length)else 0
structure TkOk(ns:List Str)(ts:List Tr)(p:Int)(t:Tk):Prop where
 gd:Gd ns ts p t.z
 cl:t.z.cl≠[]
 s0:0<=t.z.s
 s1:t.z.s<p
 bo:mL p t.bx
 nr:1<=t.nr
 fi:t.z.aw.1="coin" -> t.z.he=[]->t.z.to=[]
section
variable {ns:List Str}{ts:List Tr}{p:Int}{t:Tk}{rows:List Hr}
def pz:¬ (("coin":Str)="hear"):=by decide
def JV:¬ (("caught":Str)="hear"):=by decide
def ne_w3:¬ (("caught":Str)="coin"):=by decide
def ne_w4:¬ (("believed":Str)="coin"):=by decide
def xC(z:Db):(goOn ns ts p z).s=z.s/\(goOn ns ts p z).to=z.to/\(goOn ns ts p z).he=z.he/\(goOn ns ts p z).cl=z.cl:=by
 unfold goOn fq
 split <;> erw[1,1,1,1]
def rR(z:Db):¬ (goOn ns ts p z).aw.1="coin":=by
 unfold goOn fq
 split
 . exact λh=>pz h.symm
 . show ¬ (if _ then _ else _:Str×Option Int).1="coin"
   split
   . exact ne_w4
   . exact ne_w3
def qz(z:Db):cI ns (goOn ns ts p z)<=2*(ns.length-z.to.length)/\dj ns (goOn ns ts p z)<=ns.length-z.to.length:=by
 let%[_,e|_]:=xC (ns:=ns) (ts:=ts) (p:=p) z;let no:=rR (ns:=ns) (ts:=ts) (p:=p) z;unfold cI dj;rw[e,Qi no,Qi no]
 constructor <;> split <;> omega
def TkOk.ak(k:GmK ns ts p)(n6:ns.length<=6)(h:TkOk ns ts p t)(hw:t.z.aw.1="hear"):AkOk (t.ak ns ts p)/\0<=awN t.z/\awN t.z<=500/\t.z.to.length<ns.length/\t.z.aw=(("hear":Str),some (awN t.z))/\awN t.z=cj ts (ns.getD t.z.to.length "")+1:=by
 rcases h.gd.he hw with⟨e,_⟩ | ⟨_,tl,aw⟩
 . exact absurd e h.cl
 let b:awN t.z=cj ts (ns.getD t.z.to.length "")+1:=by unfold awN;rw[aw];rfl
 let%[c|d4]:=xF k (ns.getD t.z.to.length "");let nr:=h.nr;erw[%[k,n6,by show 0<=t.nr;omega,λ_=>tl,h.gd.po,h.s0,h.s1,h.gd.e0,h.gd.e1|by show t.z.to.length<=100;omega],3,3,tl,by rw[b];exact aw,b]
def TkOk.hear(k:GmK ns ts p)(n6:ns.length<=6)(h:TkOk ns ts p t)(hw:t.z.aw.1="hear"):HearOk ns p t.z (t.said ns ts p rows):=by
 let%[ok,c,a5,tl,aw|e]:=h.ak k n6 hw;let p2:=k.p2;let p9:=k.p9;let%[_,r2|r3]:=oQ (rows:=rows) ok 200 %[(0),t.bx|[]] h.bo (λx b=>by cases b) c;let xo:cw (t.said ns ts p rows) p:=Bz r2 (by show 0<p;omega);let d:((t.said ns ts p rows).length:Int)=awN t.z:=ym r3;let b:ns.getD t.z.to.length ""∈ns:=by
  rw[y0,j3 tl];exact vr tl
 let%[g|d1]:=k.deg _ b;let%[_|d4]:=xF k (ns.getD t.z.to.length "");erw[by rw[d];exact aw,xo,3,λ_=>%[3,3,3|λj=>?_],h.gd.tl,h.gd.po]
 have:=pG xo #[0] j
 omega
def AR(z:Db)(xs:List Int)(b:xs≠[]):cI ns (gn p xs z)<=2*(ns.length-z.to.length)-1/\dj ns (gn p xs z)<=ns.length-z.to.length:=by
 let h1:(gn p xs z).to=z.to:=rfl;let h2:(gn p xs z).he=xs:=rfl;unfold cI dj;rw[h1,h2,Qi b,Qi b];let c:¬ (gn p xs z).aw.1="hear":=by
  unfold gn;show ¬ (if _ then _ else _:Str×Option Int).1="hear"
  split
  . exact pz
  . exact JV
 rw[Qi c,Qi c]
 constructor <;> split <;> omega
def TkOk.ask(k:GmK ns ts p)(n6:ns.length<=6)(h:TkOk ns ts p t)(hw:t.z.aw.1="hear"):TkOk ns ts p (t.ask ns ts p rows)/\cI ns (t.ask ns ts p rows).z<cI ns t.z/\dj ns (t.ask ns ts p rows).z<=dj ns t.z/\¬ (t.ask ns ts p rows).z.aw.1="hear":=by
 let%[ok,d,a5,tl,aw|r]:=h.ak k n6 hw;let b:=h.hear (rows:=rows) k n6 hw;let%[r1,_|_]:=oQ (rows:=rows) ok 200 %[(0),t.bx|[]] h.bo (λx g=>by cases g) d;let%[g1|j]:=h.gd.hear k b;let c:=h.gd.hear_ne k b;let e:cM ns ts p (t.said ns ts p rows) t.z=gn p (t.said ns ts p rows) { t.z with pl:=t.z.pl+((t.said ns ts p rows).length:Int) }:=Qi h.cl;let nr:=h.nr;let%[m|n]:=AR (ns:=ns) (p:=p) { t.z with pl:=t.z.pl+((t.said ns ts p rows).length:Int) } _ c;let s1:cI ns t.z=2*(ns.length-t.z.to.length):=Qk hw;let o:dj ns t.z=ns.length-t.z.to.length:=Qk hw;erw[%[g1,j,6,6,r1,by show 1<=t.nr+1;omega|λ_ he=>?_],6,6,6]
 . show 0<=(cM ns ts p _ t.z).s;rw[e];exact h.s0
 . show(cM ns ts p _ t.z).s<p;rw[e];exact h.s1
 . have:(cM ns ts p (t.said ns ts p rows) t.z).he=[]:=he
   rw[e]at this;exact absurd this c
 . show cI ns (cM ns ts p _ t.z)<_;rw[e,s1];let q:cI ns (gn p (t.said ns ts p rows) { t.z with pl:=t.z.pl+((t.said ns ts p rows).length:Int) })<=2*(ns.length-t.z.to.length)-1:=m;omega
 . show dj ns (cM ns ts p _ t.z)<=_;rw[e,o];exact n
 . show ¬ (cM ns ts p _ t.z).aw.1="hear";rw[e];unfold gn;show ¬ (if _ then _ else _:Str×Option Int).1="hear"
   split
   . exact pz
   . exact JV
def TkOk.tossOk(h:TkOk ns ts p t)(hw:t.z.aw.1="coin"){r:Int}(r0:0<=r)(r1:r<p):TossOk ns p t.z r:=%[hw,r0,r1,h.gd.tl,(h.gd.co hw).2|h.gd.po]
def TkOk.toss(k:GmK ns ts p)(h:TkOk ns ts p t)(hw:t.z.aw.1="coin"){r:Int}(r0:0<=r)(r1:r<p):TkOk ns ts p (t.toss ns ts p r)/\cI ns (t.toss ns ts p r).z<cI ns t.z/\dj ns (t.toss ns ts p r).z+1<=dj ns t.z/\¬ (t.toss ns ts p r).z.aw.1="coin"/\(t.z.he=[]->(t.toss ns ts p r).z.s=r/\(t.toss ns ts p r).z.to=[])/\(t.z.he≠[]->(t.toss ns ts p r).z.s=t.z.s/\(t.toss ns ts p r).z.to=t.z.to++[r]):=by
 let ok:=h.tossOk hw r0 r1;let%[g1|j]:=h.gd.toss k ok;let m:¬ t.z.aw.1="hear":=by rw[hw];exact pz
 let s1:cI ns t.z=if t.z.he=[]then 2*ns.length+1 else 2*(ns.length-t.z.to.length)-1:=by unfold cI;rw[Qi m,Qk hw]
 let n:dj ns t.z=if t.z.he=[]then ns.length+1 else ns.length-t.z.to.length:=by unfold dj;rw[Qi m,Qk hw]
 let nr:=h.nr
 by_cases c:t.z.he=[]
 . let u:=h.fi hw c;let e:dz ns ts p r t.z=goOn ns ts p { t.z with pl:=t.z.pl+1,s:=r,ed:=hor r p t.z.cl }:=Qk c;let g:=xC (ns:=ns) (ts:=ts) (p:=p) { t.z with pl:=t.z.pl+1,s:=r,ed:=hor r p t.z.cl };let b:=qz (ns:=ns) (ts:=ts) (p:=p) { t.z with pl:=t.z.pl+1,s:=r,ed:=hor r p t.z.cl };let d:=rR (ns:=ns) (ts:=ts) (p:=p) { t.z with pl:=t.z.pl+1,s:=r,ed:=hor r p t.z.cl };rw[←e]at g b d;erw[w1,w2,w3,v]at g;let o:cI ns (dz ns ts p r t.z)<=2*(ns.length-t.z.to.length):=b.1;let q:dj ns (dz ns ts p r t.z)<=ns.length-t.z.to.length:=b.2;rw[Qk c]at s1 n;erw[%[g1,j,6,6,h.bo,nr|λa=>absurd a d],6,6,d,λ_=>%[w1|w2.trans u],λz=>absurd c z]
   . show 0<=(dz ns ts p r t.z).s;rw[w1];exact r0
   . show(dz ns ts p r t.z).s<p;rw[w1];exact r1
   . show cI ns (dz ns ts p r t.z)<_;omega
   . show dj ns (dz ns ts p r t.z)+1<=_;omega
 . let tl:=((h.gd.co hw).2 c).2;let e:dz ns ts p r t.z=goOn ns ts p { t.z with pl:=t.z.pl+1,ed:=val p t.z.he r,to:=t.z.to++[r] }:=Qi c;let g:=xC (ns:=ns) (ts:=ts) (p:=p) { t.z with pl:=t.z.pl+1,ed:=val p t.z.he r,to:=t.z.to++[r] };let b:=qz (ns:=ns) (ts:=ts) (p:=p) { t.z with pl:=t.z.pl+1,ed:=val p t.z.he r,to:=t.z.to++[r] };let d:=rR (ns:=ns) (ts:=ts) (p:=p) { t.z with pl:=t.z.pl+1,ed:=val p t.z.he r,to:=t.z.to++[r] };rw[←e]at g b d;erw[w1,w2,w3,v]at g;let x:(t.z.to++[r]).length=t.z.to.length+1:=by rw[gl];rfl
   let o:cI ns (dz ns ts p r t.z)<=2*(ns.length-(t.z.to++[r]).length):=b.1;let q:dj ns (dz ns ts p r t.z)<=ns.length-(t.z.to++[r]).length:=b.2;rw[x]at o q;rw[Qi c]at s1 n;erw[%[g1,j,6,6,h.bo,nr|λa=>absurd a d],6,6,d,λz=>absurd z c,λ_=>%[w1|w2]]
   . show 0<=(dz ns ts p r t.z).s;rw[w1];exact h.s0
   . show(dz ns ts p r t.z).s<p;rw[w1];exact h.s1
   . show cI ns (dz ns ts p r t.z)<_;omega
   . show dj ns (dz ns ts p r t.z)+1<=_;omega
def xw(k:GmK ns ts p)(n6:ns.length<=6):AkOk ((Tk.new ts).ak ns ts p)/\awN (Tk.new ts).z=(ts.length:Int)/\HearOk ns p (Db.new ts) ‹Tk.s›/\mL p (Tk.new ts).bx:=by
 let p2:=k.p2;let t1:=k.t1;let t10:=k.t10;let c:mL p (Tk.new ts).bx:=λx=>by show(0:Int)<=0/\(0:Int)<p;omega
 let ok:AkOk ((Tk.new ts).ak ns ts p):=%[k,n6,u6 0,λz=>absurd z (by show ¬ (0:Int)<0;omega),(λx b=>by cases b),u6 0,(by show(0:Int)<p;omega),u6 0,(by show(0:Int)<p;omega)|kr _]
 let%[_,r2|r3]:=oQ (rows:=rows) ok 200 %[(0),(Tk.new ts).bx|[]] c (λx b=>by cases b) (by show(0:Int)<=(ts.length:Int);omega);let d:(‹Tk.s›.length:Int)=(ts.length:Int):=ym r3;erw[ok,1,%[6,Bz r2 (by show 0<p;omega),3,λz=>absurd rfl z,kr _|λx b=>by cases b],c];rw[d];rfl
def xu(k:GmK ns ts p)(n6:ns.length<=6):TkOk ns ts p ‹Tk.a›/\cI ns ‹Tk.a›.z<=2*ns.length+1/\dj ns ‹Tk.a›.z<=ns.length+(if 1<ts.length then 1 else 0)/\(1<ts.length->‹Tk.a›.z.aw=(("coin":Str),none)/\‹Tk.a›.z.he=[]/\‹Tk.a›.z.to=[])/\(¬ 1<ts.length->¬ ‹Tk.a›.z.aw.1="coin"/\‹Tk.a›.z.s=0/\‹Tk.a›.z.to=[]):=by
 let p2:=k.p2;let t1:=k.t1;let%[ok,_,n|o]:=xw (rows:=rows) k n6;let%[r1,_|_]:=oQ (rows:=rows) ok 200 %[(0),(Tk.new ts).bx|[]] o (λx q=>by cases q) (by show(0:Int)<=(ts.length:Int);omega);let%[g1|j]:=(Gd.new k).hear k n;let e0:cM ns ts p ‹Tk.s› (Db.new ts)=lT ns ts p ‹Tk.s› { Db.new ts with pl:=(Db.new ts).pl+(‹Tk.s›.length:Int) }:=Qk rfl
 by_cases c:ts.length=1
 . let e:cM ns ts p ‹Tk.s› (Db.new ts)=goOn ns ts p { Db.new ts with pl:=(Db.new ts).pl+(‹Tk.s›.length:Int),cl:=‹Tk.s›,s:=0,ed:=hor 0 p ‹Tk.s› }:=by
    rw[e0];exact Qk c
   let m:=xC (ns:=ns) (ts:=ts) (p:=p) { Db.new ts with pl:=(Db.new ts).pl+(‹Tk.s›.length:Int),cl:=‹Tk.s›,s:=0,ed:=hor 0 p ‹Tk.s› };let d:=qz (ns:=ns) (ts:=ts) (p:=p) { Db.new ts with pl:=(Db.new ts).pl+(‹Tk.s›.length:Int),cl:=‹Tk.s›,s:=0,ed:=hor 0 p ‹Tk.s› };let g:=rR (ns:=ns) (ts:=ts) (p:=p) { Db.new ts with pl:=(Db.new ts).pl+(‹Tk.s›.length:Int),cl:=‹Tk.s›,s:=0,ed:=hor 0 p ‹Tk.s› };rw[←e]at m d g;erw[w1,w2,w3,r]at m;let u:cI ns (cM ns ts p ‹Tk.s› (Db.new ts))<=2*(ns.length-0):=d.1;let v:dj ns (cM ns ts p ‹Tk.s› (Db.new ts))<=ns.length-0:=d.2;erw[%[g1,j,6,6,r1,by show(1:Int)<=0+1;decide|λa=>absurd a g],6,6,λz=>#[0],λ_=>%[g,w1|w2]]
   . show 0<=(cM ns ts p _ (Db.new ts)).s;rw[w1];exact u6 0
   . show(cM ns ts p _ (Db.new ts)).s<p;rw[w1];show(0:Int)<p;omega
   . show cI ns (cM ns ts p _ (Db.new ts))<=_;omega
   . show dj ns (cM ns ts p _ (Db.new ts))<=_;rw[Qi #[0]];omega
 . let e:cM ns ts p ‹Tk.s› (Db.new ts)={ Db.new ts with pl:=(Db.new ts).pl+(‹Tk.s›.length:Int),cl:=‹Tk.s›,aw:=("coin",none) }:=by
    rw[e0];exact Qi c
   let b:‹Tk.a›.z={ Db.new ts with pl:=(Db.new ts).pl+(‹Tk.s›.length:Int),cl:=‹Tk.s›,aw:=("coin",none) }:=e;erw[%[g1,j,6,6,r1,by show(1:Int)<=0+1;decide|λ_ _=>?_],6,6,λ_=>%[6,6|6],λz=>#[0]]
   . rw[b];exact u6 0
   . rw[b];show(0:Int)<p;omega
   . rw[b];rfl
   . rw[b];show(if(("coin":Str)="hear")then _ else if(("coin":Str)="coin")then(if([]:List Int)=[]then 2*ns.length+1 else _)else 0)<=_;rw[Qi pz,Qk rfl,Qk rfl];exact fz _
   . rw[b];show(if(("coin":Str)="hear")then _ else if(("coin":Str)="coin")then(if([]:List Int)=[]then ns.length+1 else _)else 0)<=_;rw[Qi pz,Qk rfl,Qk rfl,Qk #[0]];exact fz _
   . rw[b]
   . rw[b];rfl
   . rw[b];rfl
end
inductive TR where
 |claims (xs:List Int) | say (xs:List Int) | coin (r:Int)
def eU(ns:List Str)(ts:List Tr)(p:Int)(rows:List Hr):List Int->Nat->Tk->List TR×Tk
 |_,0,t=>([],t)
 | cs,n+1,t=>if t.z.aw.1="hear" then(.say (t.said ns ts p rows)::(eU ns ts p rows cs n (t.ask ns ts p rows)).1,(eU ns ts p rows cs n (t.ask ns ts p rows)).2)
   else if t.z.aw.1="coin" then(.coin (cs.headD 0)::(eU ns ts p rows cs.tail n (t.toss ns ts p (cs.headD 0))).1,(eU ns ts p rows cs.tail n (t.toss ns ts p (cs.headD 0))).2)
   else([],t)
def gO(ns:List Str)(ts:List Tr)(p:Int)(rows:List Hr)(cs:List Int):List TR×Tk:=(.claims ‹Tk.s›::(eU ns ts p rows cs 20 ‹Tk.a›).1,(eU ns ts p rows cs 20 ‹Tk.a›).2)
def pQ{t:Tk}(h1:¬ t.z.aw.1="hear")(h2:¬ t.z.aw.1="coin"):∀n,eU ns ts p rows cs n t=([],t)
 |0=>rfl
 |n+1=>by
   show(if _ then _ else _)=_;rw[Qi h1,Qi h2]
section
variable {C CM CA CG:Addr}
structure TalkAt(C CM CG:Addr)(H:Hp)(D M g h b:Addr)(rows:List Hr)(ns:List Str)(ts:List Tr)(p:Int)(t:Tk)(m:Nat):Prop where
 DA:DbAt C H D g t.z
 G:Gm CG H g ns ts p
 hM:∃dm,H M=some (.ins CM dm (ml g h t.nr b))
 hh:∃rv,H h=some (.tup rv)/\RowsAt H rv rows
 BX:BxAt H b t.bx m
 ne:D≠M
def TalkAt.same(w:TalkAt C CM CG H D M g h b rows ns ts p t m)(s:Same H c):TalkAt C CM CG c D M g h b rows ns ts p t m:=by
 erw[DA,G,%[dm|hM],%[d,hh|R],B,ne]at w;erw[DA.same s,G.same s,%[dm|s _ _ hM],%[d,s _ _ hh|R.mono (bw s)],B.keep λo e=>s _ _ e,ne]
def DbAt.but2{m dm:Addr}{fs:List (Str×V)}{n:List (Key×V)}(h:DbAt C H D g z)(s:JM M b H d)(hM:H M=some (.ins m dm fs))(j:H b=some (.dK n))(ne:D≠M):DbAt C d D g z:=by
 erw[dx,o,q,r,t,R]at h;let c:bO H d:=λa xs e=>s _ _ (bV e hM nofun) (bV e j nofun) e
 erw[dx,o,q,r,t,s _ _ ne (bV R.hD j nofun) R.hD,c _ _ R.hA,c _ _ R.hC,c _ _ R.hH,c _ _ R.hT]
def Gm.but2{dm:Addr}{n:List (Key×V)}(G:Gm CG H g ns ts p)(s:JM M b H m)(hM:H M=some (.ins CM dm (ml g' h r v)))(c:H b=some (.dK n)):Gm CG m g ns ts p:=by
 erw[a,o,d,q,%[t|hg],h2,h3,h4,h5]at G;let j:bO H m:=λa xs e=>s _ _ (bV e hM nofun) (bV e c nofun) e
 let u:g≠M:=λe=>by
  rw[e,hM]at hg;cases hg
 erw[a,o,d,q,%[t|s _ _ u (bV hg c nofun) hg],j _ _ h2,j _ _ h3,h4.mono j,s _ _ (bV h5 hM nofun) (bV h5 c nofun) h5]
def TalkAt.doub(w:TalkAt C CM CG H D M g h b rows ns ts p t m)(s:SameBut D H d)(DA:DbAt C d D g q):TalkAt C CM CG d D M g h b rows ns ts p %[q,t.bx|t.nr] m:=by
 erw[j,G,%[dm|hM],%[r,hh|R],B,ne]at w;erw[dx,v,x,y,z,c]at j;let n:bO H d:=λa xs e=>s _ _ (bV e c.hD nofun) e
 let%[J,u|_]:=id B;erw[DA,G.but c.hD (G.ne c.hD lW) s,%[dm|s _ _ ne.symm hM],%[r,n _ _ hh|R.mono n],B.keep λo e=>s _ _ (bV u c.hD nofun) e,ne]
instance spAsked(C CM CG:Addr):∀(D M g h b:Addr) (rows:List Hr) (ns:List Str) (ts:List Tr) (p:Int) (t:Tk) (m:Nat),vs=[.ref M,.ref D]->TalkAt C CM CG H D M g h b rows ns ts p t m->GmK ns ts p->(∀r∈rows,r.good)->AkOk (t.ak ns ts p)->mL p t.bx->t.z.aw=(("hear":Str),some (awN t.z))->0<=awN t.z->awN t.z<=500->HearOk ns p t.z (t.said ns ts p rows)->m<=5000->(∀(a:Addr) (H':Hp),H a=none->H' a=some (.tup ((t.said ns ts p rows).map V.int))->TalkAt C CM CG H' D M g h b rows ns ts p (t.ask ns ts p rows) (m+200)->But3 D M b H H'->Q (.ref a) H'):=1
def rT:FnScope ["machine","doubter","values"] W8 (af kI):=%[|5]
structure Ways(P:Program)(w:World)(K:W.Frag)(mg:#[9])(base:Heap)(C CM CG fW fU fH fT fS:Addr)(fdW fdU fdH fdT fdS:FuncData):Prop where
 mW:Meth K C "waits" fW
 GW:#[1,fW,fdW,WA,spOf C λz v H=>∃a,v=.ref a/\H a=some (.tup (awV z.aw))]
 bW:Binds K fdW WA []
 mU:Meth K C "due" fU
 GU:#[1,fU,fdU,WA,spOf C λz v _=>v=.int z.ed]
 bU:Binds K fdU WA []
 mH:Meth K C "hear" fH
 GH:#[18,fH,fdH,WD,spHear C CG]
 bH:Binds K fdH WD []
 mT:Meth K C "toss" fT
 GT:#[17,fT,fdT,WI,spToss C CG]
 bT:Binds K fdT WI []
 mS:Meth K CM "say" fS
 GS:#[25,fS,fdS,Wr,spSay CM CG]
 bS:Binds K fdS Wr []
def TalkAt.asked{dm:Addr}{n1:Int}(w:TalkAt C CM CG H D M g h b rows ns ts p t m)(hM:H M=some (.ins CM dm (ml g h t.nr b)))(q:BxAt c b (t.run ns ts p rows).bx (m+200))(d:c M=some (.ins CM dm (ml g h (t.nr+1) b)))(s1:JM M b H c)(e1:n1=t.nr+1):TalkAt C CM CG c D M g h b rows ns ts p %[t.z,(t.run ns ts p rows).bx|n1] (m+200):=by
 erw[j,G,_,%[r,hh|R],B,ne]at w;let%[u,n|_]:=id B;let o:bO H c:=λa xs e=>s1 _ _ (bV e hM nofun) (bV e n nofun) e
 subst e1;erw[j.but2 s1 hM n ne,G.but2 s1 hM n,%[dm|d],%[r,o _ _ hh|R.mono o],q,ne]
def uM(F:#["asked_once",kI])(B:Bl mg)(T:DTxt K mg C)(TM:MTxt K mg CM)(Y:Ways P w K mg base C CM CG fW fU fH fT fS aK aL a7 a8 a9):#[26,f,fd,W8,spAsked C CM CG]:=by
 exists rT
 erw[D,M,g,h,b,rows,ns,ts,p,t,m,1,W,k,rg,ok,bo,aw,a0,a5,j,mm,q]at h;let Qt:Room 1 _:=hr.mono ⋯;let n:Room 18 _:=hr.mono ⋯;let r:Room 25 _:=hr.mono ⋯;refine⟨_,(aa #[aj,2,rT,bu (pv 0) TM.cl Y.mS Y.GS r Y.bS .nil be %[aI ix_tup (ci (pv 1) T.cl Y.mW Y.GW Qt Y.bW .nil be) ae #[1],ci (pv 1) T.cl Y.mU Y.GU Qt Y.bU .nil be,aF (pv 1) rfl,aR iM rfl B.list jo %[aF (pv 1) rfl|aV]|aV]]
  (aa (aQ (bu (pv 1) T.cl Y.mH Y.GH n Y.bH .nil be %[2|aV]))
  (ac (am (aR aY rfl B.tuple bq %[2|aV]))))),?_⟩
 erw[dm,hM]at W.hM;let DA:=W.DA;let%[dx,aA,aC,aH,aT|R]:=id DA;erw[0,M,dm,0,hM,ml_n2,0,D,dx,0,R.hD,vJ,D,g,t.z,1,DA,λv N=>?_];erw[av,1,u]at N;rw[aw]at u;erw[av,_,(1),.int (awN t.z),1,1,eS u,1,0,D,dx,0,R.hD,dl_n2,D,g,t.z,1,DA,λv N=>?_];subst N;erw[0,D,C,dx,_,0,R.hD,9,T.nS,dl_s,0,D,C,dx,_,0,R.hD,9,T.nT,DO,aT,0,.inr (eS R.hT),λl hl=>?_];let I:=fj hl (.lst (t.z.to.map V.int));let g1:upd H l (.lst (t.z.to.map V.int)) l=some (.lst (t.z.to.map V.int)):=aX;generalize upd H l (.lst (t.z.to.map V.int))=H1 at I g1;let x:=W.same I;erw[rv,hh,RW]at x.hh;erw[M,g,h,b,dm,l,rv,t.ak ns ts p,rows,t.bx,m,1,I _ _ hM,hh,RW,rg,x.BX,bo,mm,x.G,ok,.inl g1,a0,a5,λO H2 bb U B2 ab S2=>?_];let hs:H2 O=some (.lst ((t.said ns ts p rows).map V.int)):=U;let y:=x.asked (n1:=t.nr+1) (I _ _ hM) B2 ab S2 rfl;let%[ah,_,_,_,_|R2]:=id y.DA;erw[0,D,ah,0,R2.hD,zd,0,D,g,O,t.z,t.said ns ts p rows,ns,ts,p,1,y.DA,y.G,k,.inl hs,j.aw,j.xo,j.x5,j.ro,j.tl,j.po,λH3 S3 an=>?_];let L:=y.doub S3 an;let ap:=S3 _ _ (bV hs R2.hD nofun) hs;erw[0,O,0,.inl %[fy ap|λa d=>?_]];let J:=fj d (.tup ((t.said ns ts p rows).map V.int));let fr:But3 D M b H H3:=λc o h1 h2 h3 e=>S3 _ _ h1 (S2 _ _ h2 h3 (I _ _ e))
 apply q a _ ?_ aX (L.same J) (λc o h1 h2 h3 e=>J _ _ (fr c o h1 h2 h3 e));cases e:H a with
 |none=>rfl
 |some o=>
   erw[bf,_,_,_,_,R3]at L.DA;erw[bg,ar]at L.hM;erw[Ql,as,_]at L.BX;let n1:a≠D:=λz=>by rw[z,R3.hD]at d;cases d
   let n2:a≠M:=λz=>by rw[z,ar]at d;cases d
   let n3:a≠b:=λz=>by rw[z,as]at d;cases d
   rw[fr a o n1 n2 n3 e]at d;cases d
end
section
variable {C CM CA CG:Addr}
inductive TRAt(H:Hp):V->TR->Prop
 |claims {a b:Addr} {xs:List Int}:H a=some (.tup [.str "claims",.ref b])->H b=some (.tup (xs.map V.int))->TRAt H (.ref a) (.claims xs)
 |say {a b:Addr} {xs:List Int}:H a=some (.tup [.str "say",.ref b])->H b=some (.tup (xs.map V.int))->TRAt H (.ref a) (.say xs)
 |coin {a:Addr} {r:Int}:H a=some (.tup [.str "coin",.int r])->TRAt H (.ref a) (.coin r)
def TRAt.mono(k:bO H b)(h:TRAt H v r):TRAt b v r:=by
 cases h with
 |claims e f=>exact .claims (k _ _ e) (k _ _ f)
 |say e f=>exact .say (k _ _ e) (k _ _ f)
 |coin e=>exact .coin (k _ _ e)
def TRsAt(H:Hp):List V->List TR->Prop
 | [],[]=>True
 |v::vs,r::b=>TRAt H v r/\TRsAt H vs b
 |_,_=>False
def TRsAt.mono(k:bO H c):∀{vs:List V}{b:List TR},TRsAt H vs b->TRsAt c vs b
 | [],[],_=>trivial
 |_::_,_::_,h=>%[h.1.mono k|TRsAt.mono k h.2]
 | [],_::_,h=>h.elim
 |_::_,[],h=>h.elim
def TRsAt.snoc(hr:TRAt H v r):∀{vs:List V}{b:List TR},TRsAt H vs b->TRsAt H (vs++[v]) (b++[r])
 | [],[],_=>%[hr|trivial]
 |_::_,_::_,h=>%[h.1|TRsAt.snoc hr h.2]
 | [],_::_,h=>h.elim
 |_::_,[],h=>h.elim
structure Told(H:Hp)(a:Addr)(x:List TR×Tk):Prop where
 ex:∃(b c:Addr)(vs:List V),H a=some (.tup [.ref b,.ref c])/\H b=some (.tup vs)/\TRsAt H vs x.1/\H c=some (.tup (awV x.2.z.aw))
def JY(o:Str):inV (.str o) [.str "hear",.str "coin"]=(decide (o="hear")||decide (o="coin")):=by
 show (("hear"==o)||(("coin"==o)||false))=_;rw[Bool.or_false];let e:∀z:Str,(z==o)=decide (o=z):=λz=>by
  by_cases c:o=z
  . subst c;simp
  . rw[ll c];simpa using λh=>c h.symm
 rw[e,e]
instance spTalked(C CM CG:Addr):∀(g h c:Addr)(rv:List V)(rows:List Hr)(ns:List Str)(ts:List Tr)(p:Int)(cs:List Int),vs=[.ref g,.ref h,.ref c]->Gm CG H g ns ts p->GmK ns ts p->ns.length<=6->H h=some (.tup rv)->RowsAt H rv rows->(∀r∈rows,r.good)->IntsAt H c cs->cw cs p->ns.length+(if 1<ts.length then 1 else 0)<=cs.length->cs.length<=100->(∀(a:Addr)(H':Hp),Same H H'->Told H' a (gO ns ts p rows cs)->Q (.ref a) H'):=1
def gX:FnScope ["game","helper","coins","machine","doubter","talk","tossed"] WR (af sF):=%[|5]
def JD(a:Str×Option Int):atI (awV a) 0=some (.str a.1):=bd (j:=0) (BT a)
def nu{n:Nat}{t:Tk}(h:t.z.aw.1="hear"):eU ns ts p rows cs (n+1) t=(.say (t.said ns ts p rows)::(eU ns ts p rows cs n (t.ask ns ts p rows)).1,(eU ns ts p rows cs n (t.ask ns ts p rows)).2):=Qk h
def nv{n:Nat}{t:Tk}(h:t.z.aw.1="coin"):eU ns ts p rows cs (n+1) t=(.coin (cs.headD 0)::(eU ns ts p rows cs.tail n (t.toss ns ts p (cs.headD 0))).1,(eU ns ts p rows cs.tail n (t.toss ns ts p (cs.headD 0))).2):=by
 show(if _ then _ else if _ then _ else _)=_;rw[Qi (by rw[h];exact pz),Qk h]
def me(h:TkOk ns ts p t)(hw:t.z.aw.1="hear"∨t.z.aw.1="coin"):1<=cI ns t.z/\(t.z.aw.1="coin" -> 1<=dj ns t.z):=by
 rcases hw with hw | hw
 . let tl:t.z.to.length<ns.length:=by
    rcases h.gd.he hw with⟨e,_⟩ | ⟨_,tl,_⟩
    . exact absurd e h.cl
    . exact tl
   erw[6,λz=>absurd (z.symm.trans hw) pz]
   have:cI ns t.z=2*(ns.length-t.z.to.length):=Qk hw
   omega
 . let b:¬ t.z.aw.1="hear":=by rw[hw];exact pz
   let s1:cI ns t.z=if t.z.he=[]then 2*ns.length+1 else 2*(ns.length-t.z.to.length)-1:=by unfold cI;rw[Qi b,Qk hw]
   let d:dj ns t.z=if t.z.he=[]then ns.length+1 else ns.length-t.z.to.length:=by unfold dj;rw[Qi b,Qk hw]
   by_cases c:t.z.he=[]
   . rw[Qk c]at s1 d;erw[3,λ_=>#[0]]
   . let tl:=((h.gd.co hw).2 c).2;rw[Qi c]at s1 d;erw[3,λ_=>#[0]]
def DM{cs:List Int}{u:Nat}(h:u<cs.length):(cs.drop u).headD 0=cs.getD u 0/\(cs.drop u).tail=cs.drop (u+1):=by
 rw[RZ h,y0,j3 h];erw[1,1]
def BF{K:W.Frag}{u:Nat}{Q:VK}(h:IntsAt H c cs)(b:u<cs.length)(q:Q (.int (cs.getD u 0)) H):rIx K (.ref c) (.int (u:Int)) H Q:=
 h.elim (λe=>.inl %[c,_,2,fy e,pE b|q]) (λe=>.inr (.inl %[c,_,2,eS e,pE b|q]))
def TalkAt.put{L:Addr}{ys zs:List V}(w:TalkAt C CM CG H D M g h b rows ns ts p t m)(j:H L=some (.lst ys))(G:Gm CG (upd H L (.lst zs)) g ns ts p):TalkAt C CM CG (upd H L (.lst zs)) D M g h b rows ns ts p t m:=by
 erw[%[dx,q,r,u,v|R],_,%[dm|hM],%[x,hh|RR],B,ne]at w;let d:bO H (upd H L (.lst zs)):=fJ j;let U:∀{c:Addr}{o:HO},c≠L->H c=some o->upd H L (.lst zs) c=some o:=λn e=>by rw[aB n];exact e
 let%[z,y|_]:=id B;erw[%[dx,q,r,u,v,U (bV R.hD j nofun) R.hD,d _ _ R.hA,d _ _ R.hC,d _ _ R.hH|d _ _ R.hT],G,%[dm|U (bV hM j nofun) hM],%[x,d _ _ hh|RR.mono d],B.keep λo e=>U (bV y j nofun) e,ne]
def TRsAt.len:∀{vs:List V}{b:List TR},TRsAt H vs b->vs.length=b.length
 | [],[],_=>rfl
 |_::_,_::_,h=>congrArg (·+1) (TRsAt.len h.2)
 | [],_::_,h=>h.elim
 |_::_,[],h=>h.elim
instance ITk(C CM CG:Addr)(H:Hp)(D M g h c L b:Addr)(rows:List Hr)(ns:List Str)(ts:List Tr)(p:Int)(cs:List Int)(mm:Nat)(σ:St)(H':Hp):∀(t:Tk)(n u m:Nat)(rs:List TR)(vs:List V),σ=[some (.ref g),some (.ref h),some (.ref c),some (.ref M),some (.ref D),some (.ref L),some (.int (u:Int))]->mm=n->cI ns t.z<=n->n<=20->TalkAt C CM CG H' D M g h b rows ns ts p t m->TkOk ns ts p t->H' L=some (.lst vs)->TRsAt H' vs rs->(rs++(eU ns ts p rows (cs.drop u) n t).1,(eU ns ts p rows (cs.drop u) n t).2)=gO ns ts p rows cs->dj ns t.z+u<=cs.length->m+200*n<=4200->rs.length+n<=21->Same H H':=0
def CO(F:#["talked",sF])(B:Bl mg)(T:DTxt K mg C)(TM:MTxt K mg CM)(Y:Ways P w K mg base C CM CG fW fU fH fT fS cA cB cC cD cE)
 (MD:Mk K C fI)(GD:#[1,fI,bR,WQ,spDInit C CG])(bD:Binds K bR WQ [])(MM:Mk K CM fM)(GM:#[1,fM,bS,Wh,spMInit CM])(bM:Binds K bS Wh [])
 (im:#[26,"asked_once",W8,spAsked C CM CG]):#[27,f,fd,WR,spTalked C CM CG]:=by
 exists gX
 erw[g,h,c,rv,rows,ns,ts,p,cs,1,G,k,n6,hh,RW,rg,hc,co,cl,cx,q]at h;let Qt:Room 1 _:=hr.mono ⋯;let bf:Room (1+1) _:=hr.mono ⋯;let bg:Room 17 _:=hr.mono ⋯;refine⟨_,(aa #[aj,3,gX,jy MM GM bf rfl TM.mgC bM .nil be %[0,1|aV]]
  (aa #[aj,4,gX,jy MD GD bf rfl T.mgC bD .nil be %[0|aV]]
  (aa #[aj,5,gX,cY %[aO %[ao,ai im hr ⋯ rfl %[3,4|aV]|aV]|aV]]
  (aa #[aj,6,gX,ae]
  (aa (jX n7 (ag eP (aI ix_tup (ci (pv 4) T.cl Y.mW Y.GW Qt Y.bW .nil be) ae #[1]) (aO %[ao,ao|aV]) (by rfl')) (ac (aG (ag aP (aI ix_tup (ci (pv 4) T.cl Y.mW Y.GW Qt Y.bW .nil be) ae #[1]) ao (aq _)) (ac (aQ (bZ qq sk ti ca (pv 5) %[aO %[ao,ai im hr ⋯ rfl %[3,4|aV]|aV]|aV]))) (aa (aQ (bu (pv 4) T.cl Y.mT Y.GT bg Y.bT .nil be %[aI GY (pv 2) (pv 6) #[1]|aV]))
   (aa (aQ (bZ qq sk ti ca (pv 5) %[aO %[ao,aI GY (pv 2) (pv 6) #[1]|aV]|aV]))
   (ac #[aj,6,gX,ax aU (pv 6) ae]))))))
  (ac (am (aO %[aR aY rfl B.tuple bq %[5|aV],ci (pv 4) T.cl Y.mW Y.GW Qt Y.bW .nil be|aV])))))))),?_⟩
 erw[0,0,λM dm ab bi nM=>?_];let K1:Same H (upd (upd H dm (.own M)) M (.ins CM dm [])):=λa o e=>by
  rw[aB (bh e ab),aB (bh e bi)];exact e
 erw[M,g,h,dm,1,aX,λb H2 b0 ar bm S2=>%[1|6]];let T2:Same H H2:=Same.but K1 ab S2;let br:H b=none:=K1.free b0;clear K1 S2 b0;erw[0,λD dd J bt nD=>?_];let K3:Same H2 (upd (upd H2 dd (.own D)) D (.ins C dd [])):=λa o e=>by
  rw[aB (bh e J),aB (bh e bt)];exact e
 let G2:=G.same T2;let gD:g≠D:=by
  erw[_,_,_,_,%[dg|hg],_]at G2;exact bh hg J
 erw[D,g,dd,ns,ts,p,1,aX,G2.same K3,gD,λH4 S4 bx=>%[1|6]];let ah:Same H2 H4:=Same.but K3 J S4;let T4:Same H H4:=T2.trans ah;let as:H D=none:=T2.free J;let bU:D≠M:=(bh ar J).symm;let W4:TalkAt C CM CG H4 D M g h b rows ns ts p (Tk.new ts) 0:=⟨bx,G.same T4,⟨dm,ah _ _ ar⟩,⟨rv,T4 _ _ hh,RW.mono (bw T4)⟩,⟨[],ah _ _ bm,fz _,λ_=>rfl⟩,bU⟩
 clear K3 S4 bx ah ar bm G2 T2;let%[bA,aK,bB|bC]:=xw (rows:=rows) k n6;let t1:=k.t1;let t10:=k.t10;erw[0,0,D,M,g,h,b,rows,ns,ts,p,Tk.new ts,(0),1,W4,k,rg,bA,bC,1,by rw[aK];omega,by rw[aK];omega,bB,4,λa5 H5 cF bE W5 S5=>?_];let T5:Same H H5:=λa o e=>S5 _ _ (bh e as) (bh e ab) (bh e br) (T4 _ _ e)
 erw[y2S,λt6 h6=>%[y1S|λL hL=>?_]];let I6:=fj h6 (.tup [.str "claims",.ref a5]);let d:=fj hL (.lst [.ref t6]);let R7:TRsAt (upd (upd H5 t6 (.tup [.str "claims",.ref a5])) L (.lst [.ref t6])) [.ref t6] [.claims ‹Tk.s›]:=%[.claims (d _ _ aX) (d _ _ (I6 _ _ bE))|trivial]
 let g7:upd (upd H5 t6 (.tup [.str "claims",.ref a5])) L (.lst [.ref t6]) L=some (.lst [.ref t6]):=aX;let J7:=I6.trans d;let bF:H L=none:=(T5.trans I6).free hL;generalize upd (upd H5 t6 (.tup [.str "claims",.ref a5])) L (.lst [.ref t6])=H7 at R7 g7 J7;let%[bG,b1,b2|_]:=xu (rows:=rows) k n6;let W7:=W5.same J7;let T7:=T5.trans J7;clear I6 d J7 S5 T5 W5 W4 T4 bE h6 hL;erw[ITk C CM CG H D M g h c L b rows ns ts p cs,%[(20),‹Tk.a›,(20),(0),(200),2,3,fz _,W7,bG,g7,R7,1,3,4,(by show 1+20<=21;decide)|T7],6]
 clear b1 b2 bG W7 T7 R7 g7 bA aK bB bC;rintro mm σ H' ⟨t,n,u,m,rs,vs,rfl,rfl,sn,cG,W,ok,hL,TR,eq,cn,mn,rn,S⟩;let DA:=W.DA;let%[dx,aA,aC,aH,aT|R]:=id DA;let p2:=k.p2;let vl:=TR.len;erw[0,D,dx,0,R.hD,vJ,D,g,t.z,1,DA,λv hv=>?_];erw[av,1,bH]at hv;erw[av,_,(0),0,1,eS bH,JD _,y2S,λc1 b3=>?_];let I1:=fj b3 (.tup [.str "hear",.str "coin"]);erw[c1,0,.inr (eS aX),1,1,0,6];generalize upd H' c1 (.tup [.str "hear",.str "coin"])=H1 at I1;let W1:=W.same I1;let N:=W1.DA;let j:=I1 _ _ hL;let aL:=TR.mono (bw I1);let S1:=S.trans I1;let%[a7,cJ,cL,cN,cO|R1]:=id N;show if inV (.str t.z.aw.1) [.str "hear",.str "coin"]=true then _ else _
 rw[JY];clear W DA R hL TR S bH I1
 by_cases ch:t.z.aw.1="hear"
 . rw [j2 ch,Bool.true_or];apply dZ ?_;erw[_,λ_ _ h=>h,6];erw[0,D,a7,0,R1.hD,vJ,D,g,t.z,1,N,λv hv=>?_];erw[y,1,r]at hv;erw[y,_,(0),0,1,eS r,JD _,1,0,aW (congrArg V.str ch) ?_];let sp:=(me ok (.inl ch)).1;obtain⟨O,rfl⟩:∃O,mm=O+1:=⟨mm-1,#[0]⟩
   let%[ak,a0,a5,tl,aw|ea]:=ok.ak k n6 ch;let ho:=ok.hear (rows:=rows) k n6 ch;let%[a8,b4,b9|_]:=ok.ask (rows:=rows) k n6 ch;erw[0,.inl %[1,_|fy j],0,0,D,M,g,h,b,rows,ns,ts,p,t,m,1,W1,k,rg,ak,ok.bo,aw,a0,a5,ho,3,λa6 H6 cT ce W6 S6=>?_];erw[c0,bI]at W1.hM;erw[c2,bN,_]at W1.BX;let bb:bO H1 H6:=λa xs e=>S6 _ _ (bV e R1.hD nofun) (bV e bI nofun) (bV e bN nofun) e
   let an:=S6 _ _ (bV j R1.hD nofun) (bV j bI nofun) (bV j bN nofun) j;let ap:Same H H6:=λa o e=>S6 _ _ (bh e as) (bh e ab) (bh e br) (S1 _ _ e)
   erw[y2S,λU h7=>?_];let d:=fj h7 (.tup [.str "say",.ref a6]);let R7:TRAt (upd H6 U (.tup [.str "say",.ref a6])) (.ref U) (.say (t.said ns ts p rows)):=.say aX (d _ _ ce);generalize upd H6 U (.tup [.str "say",.ref a6])=H7 at d R7;let x:=d _ _ an;erw[L,2,x,aN #[0],6];let k8:bO H7 (upd H7 L (.lst (vs++[.ref U]))):=fJ x;let S8:Same H (upd H7 L (.lst (vs++[.ref U]))):=λa o e=>by
    rw[aB (bh e bF)];exact d _ _ (ap _ _ e)
   erw[O,QB _,t.ask ns ts p rows,O,u,m+200,rs++[.say (t.said ns ts p rows)],0,1,3,3,(W6.same d).put x (G.same S8),a8,aX,((aL.mono (λa xs e=>k8 _ _ (d _ _ (bb _ _ e)))).snoc (R7.mono k8)),6,3,3,by rw[gl];show rs.length+1+O<=21;omega,S8];rw[←eq,nu ch,RE];rfl
 . rw [ll ch,Bool.false_or]
   by_cases cc:t.z.aw.1="coin"
   . rw [j2 cc];apply dZ ?_;erw[_,λ_ _ h=>h,6];erw[0,D,a7,0,R1.hD,vJ,D,g,t.z,1,N,λv hv=>?_];erw[y,1,r]at hv;erw[y,_,(0),0,1,eS r,JD _,1,0,az (neS ch) ?_];let%[sp|cp]:=me ok (.inr cc);let cp:=cp cc;obtain⟨O,rfl⟩:∃O,mm=O+1:=⟨mm-1,#[0]⟩
     let hu:u<cs.length:=#[0]
     let%[dh|dt]:=DM hu;let rr:=pG co #[0] u;let%[a8,b4,b9|_]:=ok.toss k cc rr.1 rr.2;let to:=ok.tossOk cc rr.1 rr.2;erw[0,D,a7,0,R1.hD,Hv,0,0,BF (hc.same S1) hu ?_];erw[D,g,t.z,cs.getD u 0,ns,ts,p,1,N,W1.G,k,to.aw,to.r0,to.r1,to.tl,to.ro,to.po,λH6 S6 cf=>?_];let W6:=W1.doub S6 cf;let bb:bO H1 H6:=λa xs e=>S6 _ _ (bV e R1.hD nofun) e
     let an:=S6 _ _ (bV j R1.hD nofun) j;let ap:Same H H6:=λa o e=>S6 _ _ (bh e as) (S1 _ _ e)
     erw[0,.inl %[1,_|fy an],0,0,BF (hc.same ap) hu ?_];erw[y2S,λU h7=>?_];let d:=fj h7 (.tup [.str "coin",.int (cs.getD u 0)]);let R7:TRAt (upd H6 U (.tup [.str "coin",.int (cs.getD u 0)])) (.ref U) (.coin (cs.getD u 0)):=.coin aX;generalize upd H6 U (.tup [.str "coin",.int (cs.getD u 0)])=H7 at d R7;let x:=d _ _ an;erw[L,2,x,aN #[0],6];let k8:bO H7 (upd H7 L (.lst (vs++[.ref U]))):=fJ x;let S8:Same H (upd H7 L (.lst (vs++[.ref U]))):=λa o e=>by
      rw[aB (bh e bF)];exact d _ _ (ap _ _ e)
     erw[0,2,6];erw[O,QB _,t.toss ns ts p (cs.getD u 0),O,u+1,m,rs++[.coin (cs.getD u 0)],0,1,3,3,(W6.same d).put x (G.same S8),a8,aX,((aL.mono (λa xs e=>k8 _ _ (d _ _ (bb _ _ e)))).snoc (R7.mono k8)),6,3,3,by rw[gl];show rs.length+1+O<=21;omega,S8];rw[←eq,nv cc,dh,dt,RE];rfl
   . rw [ll cc];apply cz ?_;rw[pQ ch cc,My]at eq;erw[0,L,0,.inl %[fy j|λb8 ck=>?_]];let I8:=fj ck (.tup vs);let g8:upd H1 b8 (.tup vs) b8=some (.tup vs):=aX;generalize upd H1 b8 (.tup vs)=H8 at I8 g8;let bP:=N.same I8;let%[cm,_,_,_,_|R8]:=id bP;erw[0,D,cm,0,R8.hD,vJ,D,g,t.z,1,bP,λv hv=>?_];erw[y,1,r]at hv;erw[y2S,λa9 ct=>?_];let I9:=fj ct (.tup [.ref b8,.ref y]);apply q a9 _ (S1.trans (I8.trans I9)) %[b8,y,vs,aX,I9 _ _ g8,6|6]
     . rw[←eq];exact aL.mono (bw (I8.trans I9))
     . rw[←eq];exact I9 _ _ r
end
section
variable {CA fA:Addr}{fdA:FuncData}
def xh(F:FunD K "__init__" "AskError.__init__" fo f fd c)(b:mg "ValueError"=none):FnOkH P w K mg base 1 f fd WK (spAI K):=by
 apply F.okH qN (λvs H Q E h=>?_) (λcdv A outer s H vs Q E hr h=>?_)
 . erw[e,C,f,x,1,_]at h;rfl
 erw[e,C,f,x,1,he,M,q]at h;erw[_,ac (aQ (tF rfl b %[0,1|aV])),6];erw[0,0,e,C,f,x,1,he,M,q]
structure AskCH(P:Program)(w:World)(K:W.Frag)(mg:#[9])(base:Heap)(CA fA:Addr)(fdA:FuncData):Prop where
 g:mg "AskError"=some (.ref CA)
 c:ClsFn K CA fA "__init__"
 ok:FnOkH P w K mg base 1 fA fdA WK (spAI K)
 b:Binds K fdA WK []
def At(F:FunD K "__init__" "NoTurn.__init__" jg f fd o)(T:AskCH P w K mg base CA fA fdA)(M:MkX K C f)(c:ClsX K C CA)(j:NoAttr K C "row"):FnOkH P w K mg base 2 f fd WL (spXI C "row"):=by
 apply F.okH vi (λvs H Q E h=>?_) (λcdv A outer s H vs Q E hr h=>?_)
 . erw[e,v,1,_]at h;rfl
 erw[e,v,1,he,m,q]at h;erw[_,aa (aQ (yj rfl T.g T.c T.ok hr T.b .nil be %[0,kK (cK ao (cK (Bv (pv 1)) oi))|aV])) (ac (Br (pv 0) (pv 1) rfl)),6];erw[y,n,d]at m.fm;erw[0,0,fl1 ⋯,0,y,n,hQ d ⋯,y,1,fl2 ⋯ d,fl2 ⋯ d,6];erw[e,C,f,0,he,M,6];erw[0,0,e,C,CA,1,he,c,j,q]
end
def jq(ns:List Str)(ts:List Tr)(p:Int)(z:Db):TR->Db
 |.claims xs=>cM ns ts p xs z
 |.say xs=>cM ns ts p xs z
 |.coin r=>dz ns ts p r z
def jP(ns:List Str)(p:Int)(b:Bool)(z:Db):TR->Prop
 |.claims xs=>b=true/\HearOk ns p z xs
 |.say xs=>b=false/\HearOk ns p z xs
 |.coin r=>TossOk ns p z r
def iN(ns:List Str)(ts:List Tr)(p:Int):Bool->Db->List TR->Prop
 |_,_,[]=>True
 |b,z,r::c=>jP ns p b z r/\iN ns ts p false (jq ns ts p z r) c
def rZ:∀(c:List TR)(b:Bool)(z:Db)(k:Nat),iN ns ts p b z c->iN ns ts p b z (c.take k)
 | [],_,_,k,_=>by rw[List.take_nil];trivial
 |_::_,_,_,0,_=>trivial
 |r::c,b,z,k+1,h=>%[h.1|rZ c false _ k h.2]
def vU(k:GmK ns ts p)(n6:ns.length<=6):∀(n:Nat)(t:Tk)(cs:List Int),TkOk ns ts p t->cw cs p->iN ns ts p false t.z (eU ns ts p rows cs n t).1/\(eU ns ts p rows cs n t).1.foldl (jq ns ts p) t.z=(eU ns ts p rows cs n t).2.z
 |0,t,cs,h,hc=>%[trivial|1]
 |n+1,t,cs,h,hc=>by
   let p2:=k.p2
   by_cases ch:t.z.aw.1="hear"
   . rw[nu ch];let%[o|_]:=h.ask (rows:=rows) k n6 ch;let%[h1|h2]:=vU k n6 n (t.ask ns ts p rows) cs o hc;erw[%[%[1|h.hear k n6 ch]|h1],h2]
   . by_cases b:t.z.aw.1="coin"
     . rw [nv b];obtain⟨r0,r1⟩:0<=cs.headD 0/\cs.headD 0<p:=by
        cases cs with
        |nil=>show(0:Int)<=0/\(0:Int)<p;omega
        |cons c cs=>exact hc c mj
       let%[o|_]:=h.toss k b r0 r1;let%[h1|h2]:=vU k n6 n (t.toss ns ts p (cs.headD 0)) cs.tail o (λx d=>hc x (List.mem_of_mem_tail d));erw[%[h.tossOk b r0 r1|h1],h2]
     . rw[pQ ch b];erw[trivial,1]
def Bh(k:GmK ns ts p)(n6:ns.length<=6)(hc:cw cs p):iN ns ts p true (Db.new ts) (gO ns ts p rows cs).1/\(gO ns ts p rows cs).1.foldl (jq ns ts p) (Db.new ts)=(gO ns ts p rows cs).2.z:=by
 let%[_,_,b|_]:=xw (rows:=rows) k n6;let%[o|_]:=xu (rows:=rows) k n6;let%[h1|h2]:=vU (rows:=rows) k n6 20 ‹Tk.a› cs o hc;erw[%[%[1|b]|h1],h2]
section
variable {ns:List Str}{ts:List Tr}{p:Int}{z z':Db}
structure Sim(z z':Db):Prop where
 aw:z'.aw=z.aw
 tl:z'.to.length=z.to.length
 cl:z'.cl=[]↔z.cl=[]
 he:z'.he=[]↔z.he=[]
def uR(z:Db):Prop:=z.aw.1="hear"∨z.aw.1="coin"
inductive Shp(p:Int):TR->TR->Prop
 |claims {xs ys:List Int}:ys.length=xs.length->cw ys p->Shp p (.claims xs) (.claims ys)
 |say {xs ys:List Int}:ys.length=xs.length->cw ys p->Shp p (.say xs) (.say ys)
 |coin {r q:Int}:0<=q->q<p->Shp p (.coin r) (.coin q)
def Fh{ys:List Int}(k:GmK ns ts p)(h:kY xs p)(l:ys.length=xs.length)(o:cw ys p):kY ys p:=by
 let p9:=k.p9;let p2:=k.p2;erw[h1,h2,h3,_]at h;erw[3,3,3,λi=>?_];rw[y0];cases e:ys[i]? with
 |none=>erw[u6 _,4]
 |some y=>
   have:=o y (lr e)
   erw[this.1,by show y<2 ^ 40;omega]
def qx(k:GmK ns ts p)(s:Sim z z')(g:Gd ns ts p z'){ys:List Int}(h:HearOk ns p z xs)(l:ys.length=xs.length)(o:cw ys p):HearOk ns p z' ys:=
 %[by rw[s.aw,h.aw,l],o,by have:=h.x5;omega,λc=>Fh k (h.ro λe=>c (s.cl.mpr e)) l o,g.tl|g.po]
def Cg(s:Sim z z')(g:Gd ns ts p z'){q:Int}(h:TossOk ns p z r)(b:0<=q)(c:q<p):TossOk ns p z' q:=by
 let a:z'.aw.1="coin":=by rw[s.aw];exact h.aw
 erw[a,b,c,g.tl,(g.co a).2,g.po]
def Ch(k:GmK ns ts p)(s:Sim z z')(g:Gd ns ts p z')(c:Shp p r r')(h:jP ns p b z r):jP ns p b z' r':=by
 cases c with
 |claims l o=>erw[h.1,qx k s g h.2 l o]
 |say l o=>erw[h.1,qx k s g h.2 l o]
 |coin d e=>exact Cg s g h d e
def vV(k:GmK ns ts p)(g:Gd ns ts p z)(h:jP ns p b z r):Gd ns ts p (jq ns ts p z r):=by
 cases r with
 |claims xs=>exact(g.hear k h.2).1
 |say xs=>exact(g.hear k h.2).1
 |coin r=>exact(g.toss k h).1
def qy{u b:Db}(tl:b.to.length=u.to.length)(cl:b.cl=[]↔u.cl=[])(he:b.he=[]↔u.he=[])(w:uR (goOn ns ts p u)):Sim (goOn ns ts p u) (goOn ns ts p b):=by
 unfold goOn at w ⊢
 by_cases c:u.to.length<ns.length
 . rw[Qk c]at w ⊢;rw[Qk #[0]];erw[by show(("hear":Str),some (cj ts (ns.getD b.to.length "")+1))=(("hear":Str),some (cj ts (ns.getD u.to.length "")+1));rw[tl],tl,cl,he]
 . rw [Qi c]at w;unfold fq at w
   exfalso
   by_cases e:u.ed=hor u.s p (ts.map λt=>t.worth ns u.to p)
   . rw[Qk e]at w;rcases w with w | w <;> cases w
   . rw[Qi e]at w;rcases w with w | w <;> cases w
def yQ(k:GmK ns ts p)(s:Sim z z')(g:Gd ns ts p z)(g':Gd ns ts p z'){ys:List Int}(h:HearOk ns p z xs)(l:ys.length=xs.length)(o:cw ys p)(w:uR (cM ns ts p xs z)):Sim (cM ns ts p xs z) (cM ns ts p ys z')∨¬ uR (cM ns ts p ys z'):=by
 let b:=g.hear_ne k h;let d:=g'.hear_ne k (qx k s g' h l o);unfold cM at w ⊢
 by_cases c:z.cl=[]
 . rw [Qk c]at w ⊢;rw[Qk (s.cl.mpr c)];unfold lT at w ⊢
   by_cases t:ts.length=1
   . rw[Qk t]at w ⊢;rw[Qk t];unfold xH at w ⊢;exact .inl (qy s.tl (by simp [b,d]) s.he w)
   . rw[Qi t,Qi t];exact .inl %[1,s.tl,by simp [b,d]|s.he]
 . rw [Qi c]at w ⊢;rw[Qi λe=>c (s.cl.mp e)];unfold gn at w ⊢
   by_cases e:(val p xs 0+val p xs 1) % p=z.ed
   . by_cases j:(val p ys 0+val p ys 1) % p=z'.ed
     . exact .inl %[by show(if _ then _ else _)=(if _ then _ else _);rw[Qk e,Qk j],s.tl,s.cl|by simp [b,d]]
     . refine .inr λz=>?_
       let z:(if(val p ys 0+val p ys 1) % p=z'.ed then(("coin":Str),(none:Option Int))else("caught",some ((z'.to.length:Int)+1))).1="hear"∨(if(val p ys 0+val p ys 1) % p=z'.ed then(("coin":Str),(none:Option Int))else("caught",some ((z'.to.length:Int)+1))).1="coin":=z;rw[Qi j]at z;rcases z with z | z <;> cases z
   . exfalso
     let w:(if(val p xs 0+val p xs 1) % p=z.ed then(("coin":Str),(none:Option Int))else("caught",some ((z.to.length:Int)+1))).1="hear"∨(if(val p xs 0+val p xs 1) % p=z.ed then(("coin":Str),(none:Option Int))else("caught",some ((z.to.length:Int)+1))).1="coin":=w;rw[Qi e]at w;rcases w with w | w <;> cases w
def Ep(s:Sim z z')(w:uR (dz ns ts p r z)):Sim (dz ns ts p r z) (dz ns ts p q z'):=by
 unfold dz at w ⊢
 by_cases c:z.he=[]
 . rw[Qk c]at w ⊢;rw[Qk (s.he.mpr c)];unfold xH at w ⊢;exact qy s.tl s.cl s.he w
 . rw[Qi c]at w ⊢;rw[Qi λe=>c (s.he.mp e)];exact qy (by show(z'.to++[q]).length=(z.to++[r]).length;rw[gl,gl,s.tl];rfl) s.cl s.he w
def Et(k:GmK ns ts p)(s:Sim z z')(g:Gd ns ts p z)(g':Gd ns ts p z')(c:Shp p r r')(h:jP ns p b z r)(w:uR (jq ns ts p z r)):Sim (jq ns ts p z r) (jq ns ts p z' r')∨¬ uR (jq ns ts p z' r'):=by
 cases c with
 |claims l o=>exact yQ k s g g' h.2 l o w
 |say l o=>exact yQ k s g g' h.2 l o w
 |coin d e=>exact .inl (Ep s w)
def xL(b:Bool)(z:Db):TR->Prop
 |.claims _=>b=true/\z.aw.1≠"hear"
 |.say _=>b=false/\z.aw.1≠"hear"
 |.coin _=>z.aw.1≠"coin"
inductive Runs(ns:List Str)(ts:List Tr)(p:Int):Bool->Db->List TR->Option Db->Prop
 |nil {b:Bool} {z:Db}:Runs ns ts p b z [] (some z)
 |step {b:Bool} {z:Db} {r:TR} {rs:List TR} {o:Option Db}:jP ns p b z r->Runs ns ts p false (jq ns ts p z r) rs o->Runs ns ts p b z (r::rs) o
 |stop {b:Bool} {z:Db} {r:TR} {rs:List TR}:xL b z r->Runs ns ts p b z (r::rs) none
def rK:∀(c:List TR)(b:Bool)(z:Db),iN ns ts p b z c->Runs ns ts p b z c (some (c.foldl (jq ns ts p) z))
 | [],_,_,_=>.nil
 |r::c,b,z,h=>.step h.1 (rK c false _ h.2)
inductive Shps(p:Int):List TR->List TR->Prop
 |nil:Shps p [] []
 |cons {r r':TR} {rs rs':List TR}:Shp p r r'->Shps p rs rs'->Shps p (r::rs) (r'::rs')
def IX(h:jP ns p b z r):uR z:=by
 cases r with
 |claims xs=>exact .inl (by rw[h.2.aw])
 |say xs=>exact .inl (by rw[h.2.aw])
 |coin r=>exact .inr h.aw
def Jg(h:jP ns p b z r)(c:Shp p r r')(n:¬ uR z'):xL b z' r':=by
 cases c with
 |claims l o=>erw[h.1,λe=>n (.inl e)]
 |say l o=>erw[h.1,λe=>n (.inl e)]
 |coin d g=>exact λe=>n (.inr e)
def vo(k:GmK ns ts p):∀(d rs':List TR)(b:Bool)(z z':Db),iN ns ts p b z d->Shps p d rs'->Gd ns ts p z->Gd ns ts p z'->(Sim z z'∨¬ uR z')->∃o,Runs ns ts p b z' rs' o
 | [],_,_,_,_,_,.nil,_,_,_=>%[_|.nil]
 |r::d,_,b,z,z',h,.cons (r':=r') (rs':=rs') e c,g,g',s=>by
   rcases s with s | s
   . let h1:=Ch k s g' e h.1;let w1:=vV k g h.1;let w2:=vV k g' h1;cases d with
     |nil=>
       cases c;erw[_,.step h1 .nil]
     |cons r2 j=>
       let m:=IX h.2.1;let%[o|n]:=vo k (r2::j) rs' false _ _ h.2 c w1 w2 (Et k s g g' e h.1 m);erw[o,.step h1 n]
   . erw[none,.stop (Jg h.1 e s)]
def Sim.refl(z:Db):Sim z z:=%[1,1,Iff.rfl|Iff.rfl]
end
section
variable {C CM CA CG cT:Addr}
instance spTell(C CG:Addr):∀(D g:Addr)(v:V)(b:Bool)(z:Db)(r:TR)(ns:List Str)(ts:List Tr)(p:Int),vs=[.ref D,v,.bl b]->DbAt C H D g z->Gm CG H g ns ts p->GmK ns ts p->TRAt H v r->jP ns p b z r->(∀H',SameBut D H H'->DbAt C H' D g (jq ns ts p z r)->Q .non H'):=1
def IE:FnScope Ws Ws (af zO):=%[|5]
def wc(C CG cT:Addr):Sp:=λvs H Q E=>spTell C CG vs H Q E∨∃(D g:Addr)(v:V)(b:Bool)(z:Db)(r:TR),vs=[.ref D,v,.bl b]/\DbAt C H D g z/\TRAt H v r/\xL b z r/\pN cT H E
def IU(F:#["tell",zO])(T:DTxt K mg C)(mH:Meth K C "hear" x)(GH:FnOk P w K mg base (CXr P w) 18 x o WD (we C CG cT))(bH:Binds K o WD [])(mT:Meth K C "toss" y)(GT:FnOk P w K mg base (CXr P w) 17 y t WI (vZ C CG cT))(bT:Binds K t WI []):FnOk P w K mg base (CXr P w) 19 f fd Ws (wc C CG cT):=by
 apply F.okX IE (λvs H Q E h=>?_) (λcdv A outer s H vs Q E hr h=>?_)
 . rcases h with⟨D,g,v,b,z,r,ns,ts,p,rfl,_⟩ | ⟨D,g,v,b,z,r,rfl,_⟩ <;> rfl
 let d:Room 18 _:=hr.mono ⋯;let e:Room 17 _:=hr.mono ⋯;erw[_,(ac (aG (ag aP (aI ix_tup (pv 1) ae #[1]) ao (aq _)) (ac (aQ (bu (pv 0) T.cl mT GT e bT .nil By %[aI ix_tup (pv 1) ae #[1]|aV]))) (ac (aG (ag jY (ig aP (aI ix_tup (pv 1) ae #[1]) ao (aq _)) (pv 2) (aq _)) ba (ac (aQ (bu (pv 0) T.cl mH GH d bH .nil By %[aI ix_tup (pv 1) ae #[1]|aV]))))))),6];rcases h with⟨D,g,v,b,z,r,ns,ts,p,rfl,DA,G,k,TA,ok,q⟩ | ⟨D,g,v,b,z,r,rfl,DA,TA,no,u⟩
 rotate_left
 . let%[dx,B,J,L,M|R]:=id DA;cases TA with
   | @claims a a1 xs h1 h2=>
     erw[1,c]at no;erw[0,a,_,(0),0,1,eS h1,bd (j:=0) rfl,1,0,az (λz=>absurd (V.str.inj z) ⋯) ?_];erw[0,a,_,(0),0,1,eS h1,bd (j:=0) rfl,1,0,1,0,mZ rfl ?_];erw[0,D,dx,0,R.hD,zd,0,a,_,(1),0,1,eS h1,bd (j:=1) rfl,.inr %[D,g,_,z,1,DA,c|u]]
   | @say a a1 xs h1 h2=>
     erw[1,c]at no;erw[0,a,_,(0),0,1,eS h1,bd (j:=0) rfl,1,0,az (λz=>absurd (V.str.inj z) ⋯) ?_];erw[0,a,_,(0),0,1,eS h1,bd (j:=0) rfl,1,0,1,0,mZ rfl ?_];erw[0,D,dx,0,R.hD,zd,0,a,_,(1),0,1,eS h1,bd (j:=1) rfl,.inr %[D,g,_,z,1,DA,c|u]]
   | @coin a r h1=>
     erw[0,a,_,(0),0,1,eS h1,bd (j:=0) rfl,1,0,aW rfl ?_];erw[0,D,dx,0,R.hD,Hv,0,a,_,(1),0,1,eS h1,bd (j:=1) rfl,.inr %[D,g,z,0,DA,no|u]]
 let%[dx,B,J,L,M|R]:=id DA;cases TA with
 | @claims a a1 xs h1 h2=>
   erw[1,c]at ok;erw[0,a,_,(0),0,1,eS h1,bd (j:=0) rfl,1,0,az (λz=>absurd (V.str.inj z) ⋯) ?_];erw[0,a,_,(0),0,1,eS h1,bd (j:=0) rfl,1,0,1,0,mZ rfl ?_];erw[0,D,dx,0,R.hD,zd,0,a,_,(1),0,1,eS h1,bd (j:=1) rfl,.inl %[D,g,a1,z,xs,ns,ts,p,1,DA,G,k,.inr h2,c.aw,c.xo,c.x5,c.ro,c.tl,c.po|λm S n=>q m S n]]
 | @say a a1 xs h1 h2=>
   erw[1,c]at ok;erw[0,a,_,(0),0,1,eS h1,bd (j:=0) rfl,1,0,az (λz=>absurd (V.str.inj z) ⋯) ?_];erw[0,a,_,(0),0,1,eS h1,bd (j:=0) rfl,1,0,1,0,mZ rfl ?_];erw[0,D,dx,0,R.hD,zd,0,a,_,(1),0,1,eS h1,bd (j:=1) rfl,.inl %[D,g,a1,z,xs,ns,ts,p,1,DA,G,k,.inr h2,c.aw,c.xo,c.x5,c.ro,c.tl,c.po|λm S n=>q m S n]]
 | @coin a r h1=>
   erw[0,a,_,(0),0,1,eS h1,bd (j:=0) rfl,1,0,aW rfl ?_];erw[0,D,dx,0,R.hD,Hv,0,a,_,(1),0,1,eS h1,bd (j:=1) rfl,.inl %[D,g,z,r,ns,ts,p,1,DA,G,k,ok.aw,ok.r0,ok.r1,ok.tl,ok.ro,ok.po|λm S n=>q m S n]]
instance spTellN(C CG:Addr):∀(D g:Addr)(v:V)(n:Int)(z:Db)(r:TR)(ns:List Str)(ts:List Tr)(p:Int),vs=[.ref D,v,.int n]->DbAt C H D g z->Gm CG H g ns ts p->GmK ns ts p->TRAt H v r->jP ns p (decide (V.int n=.int 0)) z r->(∀H',SameBut D H H'->DbAt C H' D g (jq ns ts p z r)->Q .non H'):=1
def pR:FnScope Wt Wt (af iy):=%[|5]
def RaisesU(C:Addr)(H:Hp)(E:XK):Prop:=∀(e dx:Addr)(b:Hp),Same H b->b e=some (kg false C e dx)->E (.ref e) (some dx) b
def RaisesU.same(r:RaisesU C H E)(S:Same H b):RaisesU C b E:=λe dx c d h=>r e dx c (S.trans d) h
structure NoH(P:Program)(w:World)(K:W.Frag)(mg:#[9])(base:Heap)(C f:Addr)(fd:FuncData):Prop where
 ok:FnOkH P w K mg base 2 f fd WL (spXI C "row")
 b:Binds K fd WL []
def su(C CG cT:Addr):Sp:=λvs H Q E=>spTellN C CG vs H Q E∨∃(D g:Addr)(v:V)(n:Int)(z:Db)(r:TR),vs=[.ref D,v,.int n]/\DbAt C H D g z/\TRAt H v r/\xL (decide (V.int n=.int 0)) z r/\0<=n/\n<1000000000000/\RaisesU cT H E
def qp(F:#["tell_numbered",iy])(N:NoX P w K mg base "NoTurn" cT B J j)(t:NoH P w K mg base cT J j)(L:CalR P w K mg base 19 "tell" Ws (wc C CG cT)):FnOk P w K mg base (CXb false P w) 21 f fd Wt (su C CG cT):=by
 apply F.okX pR (λvs H Q E h=>?_) (λcdv A outer s H vs Q E hr h=>?_)
 . rcases h with⟨D,g,v,n,z,r,ns,ts,p,rfl,_⟩ | ⟨D,g,v,n,z,r,rfl,_⟩ <;> rfl
 erw[_,(ac (IM (c:="NoTurn") rfl N.g N.cl (Fu L hr ⋯ rfl (λW=>aJ (pv 0) %[1,ig aP (pv 2) ae (aq _)|aV])) (λe0=>ac (CF (CN N.made t.ok ((hr.marked (v:=some (.ref e0))).mono ⋯) rfl N.g t.b .nil be %[2|aV]))))),6];rcases h with⟨D,g,v,n,z,r,ns,ts,p,rfl,DA,G,k,TA,ok,q⟩ | ⟨D,g,v,n,z,r,rfl,DA,TA,no,n0,n1,M⟩
 . erw[0,0,0,1,.inl %[D,g,v,_,z,r,ns,ts,p,1,DA,G,k,TA,ok|λu S O=>q u S O]]
 . erw[0,0,0,1,.inr %[D,g,v,_,z,r,1,DA,TA,no|λe0 d u S h1 h2=>?_]];erw[e0,d,1,1,h1,0,y1S,λe m=>Gq (.inl %[n,1,n0|n1]) m λY x U=>%[1|6]];erw[dx,e1,e2]at U;erw[e,cT,B,dx,cT,d,1,e1,N.cl,x _ _ h1,bh h1 m,M e dx _ (λb o y=>?_) aX];rw[aB (bh (S _ _ y) m)];exact x _ _ (S _ _ y)
def uQ(z:Db):List V:=if z.aw.1="hear"∨z.aw.1="coin" then [.str "open"]else awV z.aw
def jp:FnScope ["game","talk","doubter","number","row","end"] WS (af sM):=%[|5]
def TRsAt.nth:∀{vs:List V}{b:List TR}{i:Nat}{v:V},TRsAt H vs b->vs[i]?=some v->∃r,b[i]?=some r/\TRAt H v r
 | [],[],i,v,_,h=>by rw[List.getElem?_nil]at h;cases h
 |c::vs,r0::b,0,v,h,e=>by
   rw[List.getElem?_cons_zero]at e;cases e;erw[r0,1,h.1]
 |c::vs,r0::b,i+1,v,h,e=>TRsAt.nth (i:=i) h.2 (by rw[List.getElem?_cons_succ]at e;exact e)
 | [],_::_,_,_,h,_=>h.elim
 |_::_,[],_,_,h,_=>h.elim
instance spJudgedT(C CG cT:Addr)(vs:List V)(H:Hp)(Q:VK)(E:XK):∀(g a:Addr)(tv:List V)(rs:List TR)(ns:List Str)(ts:List Tr)(p:Int)(o:Option Db),vs=[.ref g,.ref a]->Gm CG H g ns ts p->GmK ns ts p->H a=some (.tup tv)->TRsAt H tv rs->rs.length<=1000->Runs ns ts p true (Db.new ts) rs o->(∀(z:Db)(e:Addr)(H':Hp),o=some z->Same H H'->H' e=some (.tup (uQ z))->Q (.ref e) H')->(o=none->RaisesU cT H E):=0
def CY(F:#["judged",sM])(B:Bl mg)(T:DTxt K mg C)
 (MD:Mk K C fI)(GD:#[1,fI,L,WQ,spDInit C CG])(bD:Binds K L WQ [])
 (mW:Meth K C "waits" fW)(GW:#[1,fW,M,WA,spOf C λz v H=>∃a,v=.ref a/\H a=some (.tup (awV z.aw))])(bW:Binds K M WA [])
 (Qe:CalB false P w K mg base 21 "tell_numbered" Wt (su C CG cT)):FnOk P w K mg base (CXb false P w) 23 f fd WS (spJudgedT C CG cT):=by
 apply F.okX jp (λvs H Q E h=>?_) (λcdv A outer s H vs Q E hr h=>?_)
 . erw[g,a,tv,rs,ns,ts,p,o,1,_]at h;rfl
 erw[g,a,tv,rs,ns,ts,p,o,1,G,k,ha,TR,rl,run,q,rr]at h;let Qt:Room 1 _:=hr.mono ⋯;let N:Room (1+1) _:=hr.mono ⋯;refine⟨_,(aa #[aj,2,jp,jy MD GD N rfl T.mgC bD .nil be %[0|aV]]
  (aa (cV ownX rfl (tD rfl B.enumerate (pv 1)) (om rfl (dB (bn (i:=3) jp.nd rfl (.inl rfl)) (dB (bn (i:=4) jp.nd rfl (.inl rfl)) kJ))) (ac (aQ (Bx Qe hr ⋯ rfl By %[2,4,3|aV]))))
  (aa #[aj,5,jp,ci (pv 2) T.cl mW GW Qt bW .nil be]
  (aa (aG (ag eP (aI ix_tup (pv 5) ae #[1]) (aO %[ao,ao|aV]) (by rfl')) (ac (am (aO %[ao|aV]))) au)
  (ac (am (pv 5))))))),?_⟩
 erw[0,λD O b j nD=>?_];let K3:Same H (upd (upd H O (.own D)) D (.ins C O [])):=λa o e=>by
  rw[aB (bh e b),aB (bh e j)];exact e
 let gD:g≠D:=by
  erw[_,_,_,_,%[dg|hg],_]at G;exact bh hg b
 erw[D,g,O,ns,ts,p,1,aX,G.same K3,gD,λH4 S4 U=>%[1|6]];let T4:Same H H4:=Same.but K3 b S4;erw[0,a,1,%[_|eS (T4 _ _ ha)],qA (K:=K) (xs:=tv) (λi σ Y=>∃(x3 x4:Option V)(z:Db),σ=[some (.ref g),some (.ref a),some (.ref D),x3,x4,none]/\DbAt C Y D g z/\Runs ns ts p (decide (V.int (i:Int)=.int 0)) z (rs.drop i) o/\Same H Y) %[_,_,0,U,by rw[Ip];exact run|T4] (λi σ Y _ Qn=>by erw[_,_,_,_,_,_,h]at Qn;exact eS (h _ _ ha)) ?_ ?_]
 . rintro i v σ H1 t hz ⟨x3,x4,z,rfl,m,n,y⟩ ht;let I:=fj ht (.tup [.int (i:Int),v]);let%[r,er|TA]:=TR.nth hz;let hi:=(Qs er).1;let u:=y.trans I;rw[RZ hi,(Qs er).2]at n;erw[t,0,eS aX,1,_,0,2,6];cases n with
   |step ab R2=>
     erw[0,0,0,.inl %[D,g,v,_,_,r,ns,ts,p,1,m.same I,G.same u,k,TA.mono (bw u),ab|λH5 S5 D5=>?_]];erw[_,_,0,D5,6,λc o e=>S5 _ _ (bh e b) (u _ _ e)];let e0:decide (V.int (((i+1:Nat)):Int)=.int 0)=false:=ll λz=>by have:=V.int.inj z;omega
     rw[e0];exact R2
   |stop no=>
     erw[0,0,0,.inr %[D,g,v,_,_,r,1,m.same I,TA.mono (bw u),no,3,3|(rr rfl).same u]]
 . rintro σ H1 ⟨x3,x4,d,rfl,m,n,y⟩;rw[TR.len,List.drop_length]at n;cases n;let%[dx,aA,aC,aH,aT|R]:=id m;erw[0,D,dx,0,R.hD,vJ,D,g,0,m,λv hv=>?_];erw[av,1,x]at hv;erw[0,av,_,(0),0,1,eS x,JD _,y2S,λc1 ah=>?_];let J:=fj ah (.tup [.str "hear",.str "coin"]);erw[c1,0,.inr (eS aX),1,1,0,6];generalize upd H1 c1 (.tup [.str "hear",.str "coin"])=H2 at J;show if inV (.str d.aw.1) [.str "hear",.str "coin"]=true then _ else _
   rw[JY]
   by_cases ch:d.aw.1="hear"∨d.aw.1="coin"
   . let e:(decide (d.aw.1="hear")||decide (d.aw.1="coin"))=true:=#[ch,0]
     rw[e];apply dZ ?_;erw[y1S,λo ho=>?_];apply q _ o _ rfl (y.trans (J.trans (fj ho _))) ?_;rw[uQ,Qk ch];exact aX
   . let e:(decide (d.aw.1="hear")||decide (d.aw.1="coin"))=false:=#[ch,0]
     rw[e];apply cz ?_;erw[0,q _ av _ rfl (y.trans J) ?_];rw[uQ,Qi ch];exact J _ _ x
end
def at1(x y:V)(xs:List V):atI (x::y::xs) 1=some y:=bd (j:=1) rfl
def at2(x y z:V)(xs:List V):atI (x::y::z::xs) 2=some z:=bd (j:=2) rfl
def Tm.ok:Tm->Prop
 |.num n=>0<=n/\n<1000000000000 | .box x=>NmK x | .plain w=>w∈plainW | .ask w a=>w∈askW/\a.ok | .op s a b=>s∈signW/\a.ok/\b.ok
def Tm.fit(m:Nat)(t:Tm):Prop:=t.ok/\t.size<=m/\t.depth<=8
def Hr.ok(m:Nat):Hr->Prop
 |.fin=>True | .go n=>0<=n/\n<1000000000000 | .iff t n=>t.fit m/\0<=n/\n<1000000000000 | .set x t=>NmK x/\t.fit m | .say t=>t.fit m
def LET:Str:="abcdefghijklmnopqrstuvwxyz"
def ENDS:Str:=" ()"
def isIn(L:Str)(c:Nat):Bool:=!(Builtin.Str.occurrences L %[|#[c]] 0 L.length 1).isEmpty
def jk(z:Str):Bool:=decide (1<=z.length)&&decide (z.length<=6)&&!inV (.str z) (kept.map V.str)&&z.cps.toList.all (isIn LET)
def FIG:Str:="0123456789"
def kQ(z:Str):Bool:=decide (1<=z.length)&&decide (z.length<=12)&&!(decide (1<z.length)&&Txt.startswith z "0")&&z.cps.toList.all (isIn FIG)
def xS{z:Str}{c:Nat}(h:z.cps.toList[0]?=some c):Txt.startswith z "0"=decide (V.str %[|#[c]]=V.str "0"):=by
 let q:=StrLaws.subAt_one z 48 0;let e0:("0":Str)=%[|#[48]]:=by decide
 unfold Txt.startswith;rw[e0]
 by_cases hc:c=48
 . subst hc
   have:=q.mpr h
   rw[show decide (V.str (%[|#[48]]:Str)=V.str ⟨#[48]⟩)=true from j2 rfl];simp only[QD,Su];exact this
 . let b:¬ (V.str (%[|#[c]]:Str)=V.str ⟨#[48]⟩):=λe=>hc (by
    have:=V.str.inj e
    injection this with this
    simpa using this)
   rw[show decide (V.str (%[|#[c]]:Str)=V.str ⟨#[48]⟩)=false from ll b];rw[Bool.eq_false_iff];intro e;simp only[QD,Su]at e
   have:=q.mp e
   rw[h]at this;exact hc (ln this)
instance spTxt(fB:Str->Bool):∀z:Str,vs=[.str z]->z.length<=1000->(∀H',Same H H'->Q (.bl (fB z)) H'):=1
structure Tx(K:W.Frag)(mg:#[9]):Prop where
 letters:∃t,mg "LETTERS"=some (.str LET t)
 longest:∃t,mg "LONGEST_NAME"=some (.int 6 t)
 keptW:∃a,mg "KEPT_WORDS"=some (.ref a)/\∀H,SqT K H a (kept.map V.str)
 ends:∃t,mg "WORD_ENDS"=some (.str ENDS t)
 within:∃t,mg "MOST_WITHIN_helptexts"=some (.int 8 t)
 parts:∃t,mg "MOST_PARTS_helptexts"=some (.int 20 t)
 figures:∃t,mg "FIGURES"=some (.str FIG t)
 most:∃t,mg "MOST_FIGURES"=some (.int 12 t)
 rows:∃t,mg "MOST_ROWS"=some (.int 60 t)
 signs:∃a,mg "SIGNS"=some (.ref a)/\∀H,SqT K H a (signW.map V.str)
 asking:∃a,mg "ASKING_WORDS"=some (.ref a)/\∀H,SqT K H a (askW.map V.str)
 plain:∃a,mg "PLAIN_WORDS"=some (.ref a)/\∀H,SqT K H a (plainW.map V.str)
 gwithin:∃t,mg "MOST_WITHIN_reader"=some (.int 10 t)
 gparts:∃t,mg "MOST_PARTS_reader"=some (.int 30 t)
 switches:∃t,mg "MOST_SWITCHES"=some (.int 6 t)
 trees:∃t,mg "MOST_TREES"=some (.int 4 t)
 fhead:∃t,mg "FIELD_HEAD"=some (.str "field " t)
 thead:∃t,mg "TREE_HEAD"=some (.str "holds " t)
 first:∃t,mg "FIRST_TREE_ROW"=some (.int 2 t)
 joining:∃a,mg "JOINING_WORDS"=some (.ref a)/\∀H,SqT K H a (joinW.map V.str)
def tW(z:Str):z.cps.size=z.length:=rfl
def hU:bootBuiltins "str"=some (.type "str"):=by decide
def zK:FnScope WB WB (af qb):=%[|5]
def Ao(F:#["is_name",qb])(B:Bl mg)(T:Tx K mg):#[1,f,fd,WB,spTxt jk]:=by
 exists zK
 erw[z,1,j,q]at h;erw[t1,g1]at T.letters;erw[C,g3]at T.longest;erw[m,g5,x]at T.keptW;refine⟨_,(aa (aG (PW.pt (eO (ag dX (aE cH rfl B.len hR %[0|aV]) ae (aq _)) (eO (ag ji (aE cH rfl B.len hR %[0|aV]) (bQ (v:=.int 6) rfl g3 ⟨_,rfl⟩) (aq _)) (dL (ag eP (pv 0) (bQ (v:=.ref m) rfl g5 rfl) (by rfl')))))) (ac (am jz)) au)
  (ac (am (aE (jm rfl) rfl B.all QJ (aJ (bX (N:=[]) (ix:=[]) (cl:=[]) rfl #[5] rfl (Fy (pv 0))
   (λ_ _ _=>cr (ig vx (pv 0) (bQ (v:=.str LET) rfl g1 %[|0]) (by rfl')))) aV))))),?_⟩
 let d:jk z=false->Q (.bl false) H:=λe=>by
  have:=q H (Same.refl H)
  rw[e]at this;exact this
 erw[0,z,1,bc j,2,0,6]
 by_cases n:(z.length:Int)<1
 . apply aW n (dZ ?_);exact d (by unfold jk;rw[ll (show ¬ 1<=z.length by omega)];rfl)
 apply az n ?_;erw[0,z,1,bc j,2,0,6]
 by_cases r:(6:Int)<(z.length:Int)
 . apply aW r (dZ ?_);exact d (by unfold jk;rw[ll (show ¬ z.length<=6 by omega)];simp)
 apply az r ?_;erw[0,m,0,.inr (x _),1,⋯,0,6];cases t:inV (.str z) (kept.map V.str)with
 |true=>
   apply dZ ?_;exact d (by unfold jk;rw[t];simp)
 |false=>
   apply cz ?_;erw[0,z,1,λD hD=>?_];apply ui (z:=z) (λi g=>g D=some (.lst (((z.cps.toList.take i).map (isIn LET)).map V.bl))/\Same H g) %[by rw[aX];rfl|fj hD _] ?_ ?_
   . rintro i c g hc ⟨hl,s0⟩;let u:i<z.cps.size:=(Array.getElem?_eq_some_iff.mp hc).1;rw[tW]at u;erw[0,2,_,hl,6,Nx.of u %[6|6]]
     . rw[fx,fx,lw];exact aN #[0]
     . rw [aX];let y:z.cps.toList[i]?=some c:=#[hc,0]
       rw[nh,y,hI,hI];rfl
     . intro b o e;rw[aB (bh e hD)];exact s0 b o e
   . rintro g ⟨hl,s0⟩;rw[show z.cps.toList.take z.cps.size=z.cps.toList by rw[←zf];exact mu]at hl;erw[D,0,fy hl,6];let e:jk z=(z.cps.toList.map (isIn LET)).all id:=by
      unfold jk;rw[t,j2 (show 1<=z.length by omega),j2 (show z.length<=6 by omega),List.all_map];rfl
     rw[←e];exact q g s0
def uz:FnScope WB WB (af kE):=%[|5]
def uI(F:#["is_figures",kE])(B:Bl mg)(T:Tx K mg):#[1,f,fd,WB,spTxt kQ]:=by
 exists uz
 erw[z,1,m,q]at h;erw[t1,g1]at T.figures;erw[C,g3]at T.most;refine⟨_,(aa (aG (PW.pt (eO (ag dX (aE cH rfl B.len hR %[0|aV]) ae (aq _)) (dL (ag ji (aE cH rfl B.len hR %[0|aV]) (bQ (v:=.int 12) rfl g3 ⟨_,rfl⟩) (aq _))))) (ac (am jz)) au)
  (aa (aG (PW.pt (qi (ag ji (aE cH rfl B.len hR %[0|aV]) ae (aq _)) (oR (di (bZ pu Rw Rx jM (pv 0) %[ao|aV]))))) (ac (am jz)) au)
  (ac (am (aE (jm rfl) rfl B.all QJ (aJ (bX (N:=[]) (ix:=[]) (cl:=[]) rfl #[5] rfl (Fy (pv 0))
   (λ_ _ _=>cr (ig vx (pv 0) (bQ (v:=.str FIG) rfl g1 %[|0]) (by rfl')))) aV)))))),?_⟩
 let g:kQ z=false->Q (.bl false) H:=λe=>by
  have:=q H (Same.refl H)
  rw[e]at this;exact this
 erw[0,z,1,bc m,2,0,6]
 by_cases t:(z.length:Int)<1
 . apply aW t (dZ ?_);exact g (by unfold kQ;rw[ll (show ¬ 1<=z.length by omega)];rfl)
 apply az t ?_;erw[0,z,1,bc m,2,0,6]
 by_cases u:(12:Int)<(z.length:Int)
 . apply aW u ?_;exact g (by unfold kQ;rw[ll (show ¬ z.length<=12 by omega)];simp)
 apply az u ?_;erw[0,z,1,bc m,2,0,6]
 by_cases x:(1:Int)<(z.length:Int)
 . apply aW x ?_;erw[0,1,z,0,1,0,6];cases y:Txt.startswith z "0" with
   |true=>
     apply dZ ?_;exact g (by unfold kQ;rw[y,j2 (show 1<z.length by omega)];simp)
   |false=>
     apply cz ?_;let n:(decide (1<z.length)&&Txt.startswith z "0")=false:=by rw[y];simp
     erw[0,z,1,λD hD=>?_];apply ui (z:=z) (λi d=>d D=some (.lst (((z.cps.toList.take i).map (isIn FIG)).map V.bl))/\Same H d) %[by rw[aX];rfl|fj hD _] ?_ ?_
     . rintro i c d hc ⟨hl,s0⟩;let j:i<z.cps.size:=(Array.getElem?_eq_some_iff.mp hc).1;rw[tW]at j;erw[0,2,_,hl,6,Nx.of j %[6|6]]
       . rw[fx,fx,lw];exact aN #[0]
       . rw [aX];let r:z.cps.toList[i]?=some c:=#[hc,0]
         rw[nh,r,hI,hI];rfl
       . intro b o e;rw[aB (bh e hD)];exact s0 b o e
     . rintro d ⟨hl,s0⟩;rw[show z.cps.toList.take z.cps.size=z.cps.toList by rw[←zf];exact mu]at hl;erw[D,0,fy hl,6];let e:kQ z=(z.cps.toList.map (isIn FIG)).all id:=by
        unfold kQ;rw[n,j2 (show 1<=z.length by omega),j2 (show z.length<=12 by omega),List.all_map];rfl
       rw[←e];exact q d s0
 . apply az x ?_;apply cz ?_;let n:(decide (1<z.length)&&Txt.startswith z "0")=false:=by rw[ll (show ¬ 1<z.length by omega)];rfl
   erw[0,z,1,λD hD=>?_];apply ui (z:=z) (λi d=>d D=some (.lst (((z.cps.toList.take i).map (isIn FIG)).map V.bl))/\Same H d) %[by rw[aX];rfl|fj hD _] ?_ ?_
   . rintro i c d hc ⟨hl,s0⟩;let j:i<z.cps.size:=(Array.getElem?_eq_some_iff.mp hc).1;rw[tW]at j;erw[0,2,_,hl,6,Nx.of j %[6|6]]
     . rw[fx,fx,lw];exact aN #[0]
     . rw [aX];let r:z.cps.toList[i]?=some c:=#[hc,0]
       rw[nh,r,hI,hI];rfl
     . intro b o e;rw[aB (bh e hD)];exact s0 b o e
   . rintro d ⟨hl,s0⟩;rw[show z.cps.toList.take z.cps.size=z.cps.toList by rw[←zf];exact mu]at hl;erw[D,0,fy hl,6];let e:kQ z=(z.cps.toList.map (isIn FIG)).all id:=by
      unfold kQ;rw[n,j2 (show 1<=z.length by omega),j2 (show z.length<=12 by omega),List.all_map];rfl
     rw[←e];exact q d s0
def KO:∀c:Fin 26,isIn LET (97+c.val)=true:=by decide
def Jl:∀c:Fin 26,isIn ENDS (97+c.val)=false:=by decide
def ends_in:isIn ENDS 32=true/\isIn ENDS 40=true/\isIn ENDS 41=true:=by decide
def GZ{c:Nat}(h:97<=c/\c<=122):isIn LET c=true:=by
 have:=KO %[c-97|3]
 rwa [show 97+(%[c-97|3]:Fin 26).val=c by show 97+(c-97)=c;omega]at this
def qw{c:Nat}(h:97<=c/\c<=122):isIn ENDS c=false:=by
 have:=Jl %[c-97|3]
 rwa [show 97+(%[c-97|3]:Fin 26).val=c by show 97+(c-97)=c;omega]at this
def rN(h:NmK x):jk x=true:=by
 erw[%[_,hl|_],h1,h6,b]at h;unfold jk;rw[gi,j2 h1,j2 h6,ll b];simp only[Bool.and_self,Bool.not_false,Bool.true_and];rw[RG];exact λc hc=>GZ (hl c hc)
def stl(l:List Nat):Str:=%[|l.toArray]
def fL{a b:Str}(h:a.cps.toList=b.cps.toList):a=b:=by
 cases a with
 |mk x=>
   cases b with
   |mk y=>
     have:x=y:=Array.toList_inj.mp h
     rw[this]
def ir(x:Str):stl x.cps.toList=x:=rfl
def vY(l:List Nat):(stl l).length=l.length:=by
 show l.toArray.size=_
 simp
def cq(a b:Str):(a++b).cps.toList=a.cps.toList++b.cps.toList:=by simp [QR]
def kO:(("(":Str)).cps.toList=[40]:=by decide
def qu:((")":Str)).cps.toList=[41]:=by decide
def hG:((" ":Str)).cps.toList=[32]:=by decide
def EJ{a b:Str}(h:V.str a=V.str b):a=b:=V.str.inj h
def gg{a b:Str}(h:a≠b):¬ V.str a=V.str b:=λz=>h (EJ z)
def jn(c:Nat):List (List Nat)->List Nat
 | []=>[]
 | [a]=>a
 |a::b::r=>a++c::jn c (b::r)
def HD{c:Nat}:∀{a b x y:List Nat},c∉a->c∉b->a++c::x=b++c::y->a=b/\x=y
 | [],[],_,_,_,_,h=>%[1|(List.cons.inj h).2]
 | [],d::b,x,y,_,g,h=>by
   have:=(List.cons.inj h).1
   exact absurd (by rw[this];exact mj) g
 |d::a,[],x,y,j,_,h=>by
   have:=(List.cons.inj h).1
   exact absurd (by rw[←this];exact mj) j
 |d::a,e::b,x,y,j,g,h=>by
   let h':=List.cons.inj h;let r:=HD (λz=>j (pj _ z)) (λz=>g (pj _ z)) h'.2;erw[by rw[h'.1,r.1],r.2]
def GX{c:Nat}:∀{l m:List (List Nat)},l≠[]->m≠[]->(∀a∈l,c∉a)->(∀a∈m,c∉a)->jn c l=jn c m->l=m
 | [],_,h,_,_,_,_=>absurd rfl h
 |_::_,[],_,h,_,_,_=>absurd rfl h
 | [a],[b],_,_,_,_,h=>congrArg (λz=>[z]) h
 | [a],b::d::r,_,_,hl,_,h=>by
   have:c∈a:=by
    rw[show a=b++c::jn c (d::r)from h]
    simp
   exact absurd this (hl a mj)
 |a::d::r,[b],_,_,_,g,h=>by
   have:c∈b:=by
    rw[show b=a++c::jn c (d::r)from h.symm]
    simp
   exact absurd this (g b mj)
 |a::d::r,b::e::s,_,_,hl,g,h=>by
   let q:=HD (hl a mj) (g b mj) (show a++c::jn c (d::r)=b++c::jn c (e::s)from h)
   have:=GX #[2] #[2] (λz j=>hl z (pj _ j)) (λz j=>g z (pj _ j)) q.2
   rw[q.1,this]
def cd(x:Str):List Nat:=x.cps.toList
def Lx(h:cd x=cd y):x=y:=by
 have:x.cps=y.cps:=Array.toList_inj.mp h
 cases x;cases y;exact congrArg Str.mk this
def mz(x y:Str):cd (x++y)=cd x++cd y:=by
 unfold cd;rw[QR]
 simp
def jE(c:Nat):∀ps:List Str,cd (Str.join %[|#[c]] ps)=jn c (ps.map cd)
 | []=>rfl
 | [a]=>rfl
 |a::b::r=>by
   show cd (a++%[|#[c]]++Str.join ⟨#[c]⟩ (b::r))=cd a++c::jn c ((b::r).map cd);rw[mz,mz,jE c (b::r)]
   simp [cd]
def jC(b:Str):∀ps:List Str,Txt.join b ps=Str.join b ps
 | []=>rfl
 |a::r=>StrLaws.glued_cons b r a
def zC(x y:Str):Txt.split x y≠[]:=by
 unfold Txt.split
 split
 . exact QN _ _
 . split
   . exact QN _ _
   . intro h
     have:=length_partsBetween x (Builtin.Str.occurrences x y 0 x.length (x.length+1)) y.length
     rw[h]at this
     simp at this
def tS:∀{l m:List Str},l.map cd=m.map cd->l=m
 | [],[],_=>rfl
 | [],_::_,h=>by simp at h
 |_::_,[],h=>by simp at h
 |a::l,b::m,h=>by
   let h':=List.cons.inj h;rw[Lx h'.1,tS h'.2]
def gR{c:Nat}{ps:List Str}(h0:ps≠[])(hf:∀p∈ps,c∉cd p):Txt.split (Str.join %[|#[c]] ps) ⟨#[c]⟩=ps:=by
 apply tS ?_;apply GX (c:=c) (λh=>zC _ _ (List.map_eq_nil_iff.mp h)) (λh=>h0 (List.map_eq_nil_iff.mp h)) ?_ ?_ ?_
 . intro a b;let%[p,d|1]:=List.mem_map.mp b;exact StrLaws.split_free _ c p d
 . intro a b;let%[p,d|1]:=List.mem_map.mp b;exact hf p d
 . rw[←jE,←jE,StrLaws.join_split]
def bL(n:Int):Str:=toString n
def xq(m:Nat):cd (bL (m:Int))=(Nat.toDigits 10 m).map Char.toNat:=PySem.W.KIN.signs_num m
def ik{n:Int}(h0:0<=n):∀c∈cd (bL n),48<=c/\c<=57:=by
 let%[m|1]:=QW h0;intro c hc;rw[xq]at hc;let%[ch,b|e]:=List.mem_map.mp hc;rw[←e];exact PyProof.Rows.digit_range (Nat.isDigit_of_mem_toDigits ⋯ ⋯ b)
def FY{n:Int}(h0:0<=n):cd (bL n)≠[]:=by
 let%[m|1]:=QW h0;rw[xq];intro e;let h:=PySem.toDigits_len_ge 10 m;rw[List.map_eq_nil_iff.mp e]at h;exact absurd h ⋯
def dQ{n:Int}(h0:0<=n)(h1:n<1000000000000):(bL n).length<=12:=Rv h0 ⋯ (by show n<10 ^ 12;omega)
def tM{n:Int}(h0:0<=n):1<=(bL n).length:=by
 let h:=FY h0;let e:(cd (bL n)).length=(bL n).length:=rfl;cases c:cd (bL n)with
 |nil=>exact absurd c h
 |cons a r=>rw[←e,c];simp
def pq{n:Int}(h0:0<=n)(h1:n<1000000000000):PySem.intText? (bL n)=some n:=by
 let e:=intText_digits (x:=bL n) (ik h0) (FY h0) (hQ (dQ h0 h1) ⋯);let%[m|1]:=QW h0;let e2:=xq m;unfold cd at e2;rw[e2,PySem.W.KIN.val_back]at e;exact e
def Jt(m:Nat)(h:0<m):∃d r,Nat.toDigits 10 m=d::r/\d.toNat≠48:=by
 induction m using Nat.strongRecOn with
 |_ m b=>
   by_cases c:m<10
   . erw[Nat.digitChar m,[],Nat.toDigits_of_lt_base c,6]
     have:∀d:Nat,d<10->0<d->(Nat.digitChar d).toNat≠48:=by decide
     exact this m c h
   . let g:m % 10<10:=Nat.mod_lt m ⋯;let t:Nat.toDigits 10 (m / 10)++Nat.toDigits 10 (m % 10)=Nat.toDigits 10 (10*(m / 10)+m % 10):=Nat.toDigits_append_toDigits ⋯ #[0] g;rw[Nat.div_add_mod]at t;let%[d,r,e|hd]:=b (m / 10) #[0] #[0];erw[d,r++Nat.toDigits 10 (m % 10),by rw[←t,e];rfl,hd]
def Ll:∀c:Nat,c<58->48<=c->isIn FIG c=true:=by decide
def pw{n:Int}(h0:0<=n)(h1:n<1000000000000):kQ (bL n)=true:=by
 unfold kQ;rw[j2 (tM h0),j2 (dQ h0 h1)];let a:(cd (bL n)).all (isIn FIG)=true:=List.all_eq_true.mpr λc hc=>by
  have:=ik h0 c hc
  exact Ll c #[0] this.1
 let g:(bL n).cps.toList.all (isIn FIG)=true:=a;rw[g];let b:(decide (1<(bL n).length)&&Txt.startswith (bL n) "0")=false:=by
  by_cases c:1<(bL n).length
  . let%[m|1]:=QW h0;let j:0<m:=by
     apply So ?_;intro z;subst z
     revert c
     decide
    let%[d,r,e|hd]:=Jt m j;let e0:(bL (m:Int)).cps.toList[0]?=some d.toNat:=by
     have:=xq m
     unfold cd at this;rw[this,e];rfl
    let z:decide (V.str (%[|#[d.toNat]]:Str)=V.str "0")=false:=ll λz=>by
     have:=V.str.inj z
     let e1:("0":Str)=%[|#[48]]:=by decide
     rw[e1]at this;injection this with this
     have:=congrArg Array.toList this
     simp at this
     exact hd this
    rw[xS e0,z,RN]
  . rw[ll c];rfl
 rw[b];rfl
def NL:Str:=%[|#[10]]
def tO:("\n":Str)=NL:=by decide
def iq{l:List Str}{b:Nat}(h:∀p∈l,p.length<=b):(l.map (·.length)).sum<=l.length*b:=by
 induction l with
 |nil=>simp
 |cons a r c=>
   let h1:=h a mj;let h2:=c λp d=>h p (pj _ d)
   simp only[nn,t7,ij];rw[Nat.succ_mul];omega
def kf{xs:List V}{k:Nat}(b:k<=xs.length):hJ xs (some (k:Int)) none=xs.drop k:=by
 unfold hJ;rw[HT.sIx_none,HT.sIx_nat,Nat.min_eq_left b];exact List.take_of_length_le (by rw[QL];exact fz _)
def Tm.txt:Tm->List Nat
 |.num n=>cd (bL n)
 |.box x=>cd x
 |.plain w=>cd w
 |.ask w a=>[40]++(cd w++([32]++(a.txt++[41])))
 |.op s a b=>[40]++(cd s++([32]++(a.txt++([32]++(b.txt++[41])))))
def Tm.str(t:Tm):Str:=stl t.txt
def lP:∀w∈plainW,w.length<=5/\1<=w.length/\(∀c∈w.cps.toList,97<=c/\c<=122)/\w≠"num"/\w≠"box"/\w≠"op":=by decide
def xJ:∀w∈askW,w.length<=4/\1<=w.length/\(∀c∈w.cps.toList,97<=c/\c<=122)/\w≠"num"/\w≠"box"/\w≠"op"/\w∉plainW:=by decide
def rH:∀w∈signW,w.length=1/\(∀c∈w.cps.toList,42<=c/\c<=61)/\w∉askW:=by decide
def eg(x:Str):(cd x).length=x.length:=by unfold cd;rw[zf];rfl
def Tm.txt_len:∀t:Tm,t.ok->t.txt.length<=14*t.size
 |.num n,h=>by
   have:=dQ h.1 h.2
   show(cd (bL n)).length<=14;rw[eg];omega
 |.box x,h=>by
   show(cd x).length<=14;rw[eg]
   have:=h.2.2.1
   omega
 |.plain w,h=>by
   show(cd w).length<=14;rw[eg]
   have:=(lP w h).1
   omega
 |.ask w a,⟨h,h1⟩=>by
   have:=Tm.txt_len a h1
   let c:=(xJ w h).1;show([40]++(cd w++([32]++(a.txt++[41])))).length<=14*(a.size+1)
   simp only[gl,ij,o0,eg];omega
 |.op o a b,⟨h,h1,h2⟩=>by
   let e1:=Tm.txt_len a h1;let e2:=Tm.txt_len b h2;let c:=(rH o h).1;show([40]++(cd o++([32]++(a.txt++([32]++(b.txt++[41])))))).length<=14*(a.size+b.size+1)
   simp only[gl,ij,o0,eg];omega
def Tm.str_len{t:Tm}(h:t.ok):t.str.length<=14*t.size:=by
 unfold Tm.str;rw[vY];exact t.txt_len h
def Iw(n:Int):(Tm.num n).str=bL n:=ir _
def Iy(x:Str):(Tm.box x).str=x:=ir _
def Cm(x:Str):(Tm.plain x).str=x:=ir _
def brT(wd:Str)(ts:List Tm):Str:=((Str.empty++("(":Str))++Txt.join (" ":Str) (wd::ts.map Tm.str))++(")":Str)
def LB(wd:Str)(a:Tm):brT wd [a]=(Tm.ask wd a).str:=by
 apply fL ?_;unfold brT;rw[show Txt.join (" ":Str) (wd::[a].map Tm.str)=(wd++(" ":Str))++a.str from rfl];simp only[cq,kO,hG,qu];show((([]:List Nat)++[40])++((cd wd++[32])++a.txt))++[41]=[40]++(cd wd++([32]++(a.txt++[41])))
 simp
def br_op(wd:Str)(a b:Tm):brT wd [a,b]=(Tm.op wd a b).str:=by
 apply fL ?_;unfold brT;rw[show Txt.join (" ":Str) (wd::[a,b].map Tm.str)=(((wd++(" ":Str))++a.str)++(" ":Str))++b.str from rfl];simp only[cq,kO,hG,qu];show((([]:List Nat)++[40])++((((cd wd++[32])++a.txt)++[32])++b.txt))++[41]=[40]++(cd wd++([32]++(a.txt++([32]++(b.txt++[41])))))
 simp
def TmsAt(H:Hp)(b:List V)(ts:List Tm):Prop:=b.length=ts.length/\∀(i:Nat)(v:V)(t:Tm),b[i]?=some v->ts[i]?=some t->TmAt H v t
def TmsAt.one(h:TmAt H v t):TmsAt H [v] [t]:=⟨rfl,λi a b c d=>by
 match i,c,d with
 |0,c,d=>cases c;cases d;exact h
 |i+1,c,_=>simp at c⟩
def TmsAt.two(h:TmAt H v t)(h2:TmAt H u r):TmsAt H [v,u] [t,r]:=⟨rfl,λi a b c d=>by
 match i,c,d with
 |0,c,d=>cases c;cases d;exact h
 |1,c,d=>cases c;cases d;exact h2
 |i+2,c,_=>simp at c⟩
instance spTTm(n:Nat):∀(v:V)(t:Tm),vs=[v]->TmAt H v t->t.ok->t.depth<=n->t.size<=40->(∀H',Same H H'->Q (.str t.str) H'):=1
instance spIB(n:Nat):∀(wd:Str)(a:Addr)(tv:List V)(ts:List Tm),vs=[.str wd,.ref a]->H a=some (.tup tv)->TmsAt H tv ts->ts.length<=2->wd.length<=10->(∀t∈ts,t.ok/\t.depth<=n/\t.size<=40)->(∀H',Same H H'->Q (.str (brT wd ts)) H'):=1
def r9:FnScope ["word","terms","inside"] ["word","terms"] (af iJ):=%[|5]
def uK{n:Nat}(F:#["in_bracket",iJ])(Y:#[2*n+1,"term_text",["term"],spTTm n]):#[2*n+2,f,fd,["word","terms"],spIB n]:=by
 exists r9
 erw[wd,a,x,ts,1,ha,TA,tl,wl,tk,k]at h;refine⟨_,(aa (aj (i:=2) r9.nd rfl (.inl rfl) (bZ pu wh w4 eF ao (aJ (ax kM (cY %[0|aV]) (bX (N:=[]) (ix:=[]) (cl:=[]) rfl #[5] rfl (eV (pv 1))
         (λ_ _ _=>cr (ai Y hr #[0] rfl %[0|aV])))) aV)))
  (ac (am (kK (cK ao (cK (qm (pv 2)) (cK ao oi))))))),?_⟩
 let r:=TA.1;erw[1,0,y1S,λL hL=>?_];let o:=fj hL (.lst [.str wd]);let u:upd H L (.lst [.str wd]) L=some (.lst [.str wd]):=aX;generalize upd H L (.lst [.str wd])=H1 at o u;let e:=o _ _ ha;erw[0,a,1,%[_|eS e],λD hD=>?_];let LD:L≠D:=bh u hD;apply dN (K:=K) (xs:=x) (λi v=>v D=some (.lst (((ts.take i).map Tm.str).map V.str))/\Same H1 v) %[by rw[aX];rfl|fj hD _] (λi v _ h=>eS (h.2 _ _ e)) ?_ ?_
 . rintro i z y B ⟨c,g⟩;let hi:=(Qs B).1;let d:ts[i]?=some (ts[i]'#[0]):=j3 #[0];let%[tok,td|tz]:=tk _ (lr d);erw[0,z,0,(TA.2 i z _ B d).mono (bw (o.trans g)),tok,td,tz,λH3 C=>?_];erw[_,C _ _ c,6,Nx.of hi %[6|λb' o' J=>?_]]
   . rw[fx,fx,lw];exact aN #[0]
   . rw[aX,nh,d,hI,hI];rfl
   . rw[aB (bh J hD)];exact C _ _ (g _ _ J)
 rintro y ⟨c,g⟩;rw[show x.length=ts.length from r,mu]at c;erw[L,D,2,g _ _ u,c,bc (by rw[fx,fx,q0];omega),λM hM=>?_];let GM:=fj hM (.lst ([.str wd]++(ts.map Tm.str).map V.str));let eM:upd y M (.lst ([.str wd]++(ts.map Tm.str).map V.str)) M=some (.lst ((wd::ts.map Tm.str).map V.str)):=aX;let sl:=iq (l:=ts.map Tm.str) (b:=560) λp hp=>by
  let%[t,d|1]:=List.mem_map.mp hp
  have:=Tm.str_len (tk t d).1
  have:=(tk t d).2.2
  omega
 rw[fx]at sl;let ab:ts.length*560<=1120:=#[0]
 let j:((" ":Str)).length=1:=by decide
 erw[_,M,0,1,fy eM,by rw[j];decide,6,6]
 . rw[nn,t7,ij,fx];omega
 let O:(Txt.join (" ":Str) (wd::ts.map Tm.str)).length<=2000:=by
  have:=size_glued (" ":Str) (wd::ts.map Tm.str)
  rw[j,nn,t7,ij,fx]at this;show(Builtin.Str.glued (" ":Str) (wd::ts.map Tm.str)).length<=2000;omega
 let z0:(Str.empty).length=0:=by decide
 let q:(("(":Str)).length=1:=by decide
 let U:((")":Str)).length=1:=by decide
 let big:∀{m:Nat},m<=3000->m<=sizeLine:=λh=>hQ h ⋯
 erw[0,bc (by rw[i0,z0,q];omega),0,0,big #[0],0,big (by rw[i0,i0,z0,q];omega),0,big (by rw[i0,i0,i0,z0,q,U];omega),big (by rw[i0,i0,i0,z0,q,U];omega),6];exact k _ (o.trans (g.trans GM))
def uU:FnScope ["term","word"] ["term"] (af jv):=%[|5]
def ct1(x:V)(xs:List V):hJ (x::xs) (some 1) none=xs:=kf (xs:=x::xs) (k:=1) #[2]
def ct2(x y:V)(xs:List V):hJ (x::y::xs) (some 2) none=xs:=kf (xs:=x::y::xs) (k:=2) #[2]
def Iq{n:Nat}(F:#["term_text",jv])(B:Bl mg)(X:Tx K mg)(M:#[2*n+2,"in_bracket",["word","terms"],spIB n]):#[2*(n+1)+1,f,fd,["term"],spTTm (n+1)]:=by
 exists uU
 erw[v,t,1,T,ok,N,sz,k]at h;erw[c,Y,z]at X.plain;refine⟨_,(aa #[aj,1,uU,aI ix_tup (pv 0) ae #[1]]
  (aa (aG (ag aP (pv 1) ao (aq _)) (ac (am (aR eT rfl B.str hU %[aI ix_tup (pv 0) ae #[1]|aV]))) au)
  (aa (aG (ag aP (pv 1) ao (aq _)) (ac (am (aI ix_tup (pv 0) ae #[1]))) au)
  (aa (aG (ag eP (pv 1) (bQ (v:=.ref c) rfl Y rfl) (by rfl')) (ac (am (pv 1))) au)
  (aa (aG (ag aP (pv 1) ao (aq _)) (ac (am (ai M hr #[0] rfl %[aI ix_tup (pv 0) ae #[1],cR oz (pv 0) (dy ae) eA|aV]))) au)
  (ac (am (ai M hr #[0] rfl %[1,cR oz (pv 0) (dy ae) eA|aV])))))))),?_⟩
 cases T with
 | @num a m e=>
   erw[0,a,_,(0),0,1,eS e,at0 ..,6];erw[0,1,0,6];apply aW rfl ?_;erw[0,a,_,(1),0,1,eS e,at1 ..,m,1,gZ ok.1 ok.2,6];let d:=k H (Same.refl H);rw[Iw]at d;exact d
 | @box a x e=>
   erw[0,a,_,(0),0,1,eS e,at0 ..,6];erw[0,1,0,6];apply az (gg ⋯) ?_;erw[0,1,0,6];apply aW rfl ?_;let d:=k H (Same.refl H);rw[Iy]at d;erw[0,a,_,(1),0,1,eS e,at1 ..,d]
 | @plain a x e=>
   let%[_,_,_,n1,C|O]:=lP x ok;erw[0,a,_,(0),.str x,1,1,eS e,at0 ..,6];erw[0,1,0,6];apply az (gg n1) ?_;erw[0,1,0,6];apply az (gg C) ?_;erw[0,c,0,.inr (z _),1,⋯,0,6];let b:inV (.str x) (plainW.map V.str)=true:=by rw[gi,j2 (show x∈plainW from ok)]
   rw[b];apply dZ ?_;let d:=k H (Same.refl H);rw[Cm]at d;erw[0,d]
 | @ask a x u r e g=>
   erw[j,o]at ok;let%[l4,_,_,n1,C,O|n4]:=xJ x j;let dr:r.depth<=n:=Sb N;let sr:r.size+1<=40:=sz;erw[0,a,_,(0),.str x,1,1,eS e,at0 ..,6];erw[0,1,0,6];apply az (gg n1) ?_;erw[0,1,0,6];apply az (gg C) ?_;erw[0,c,0,.inr (z _),1,⋯,0,6];let b:inV (.str x) (plainW.map V.str)=false:=by rw[gi,ll n4]
   rw[b];apply cz ?_;erw[0,1,0,6];apply az (gg O) ?_;erw[0,0,(1),1,a,0,eS e,e,λp H1 q e1=>?_];rw[ct1]at e1;erw[x,p,_,[r],1,e1,TmsAt.one (g.mono (bw q)),by simp,3,λt y=>by rw[Qr y];erw[o,dr,3],λD J=>?_];rw[LB];exact k D (q.trans J)
 | @op a x u u2 r r2 e g g2=>
   erw[j,o,L]at ok;let%[l4,_|_]:=rH x j;let U:r.depth<=n/\r2.depth<=n:=by
    have:max r.depth r2.depth+1<=n+1:=N
    omega
   let sr:r.size+r2.size+1<=40:=sz;erw[0,a,_,(0),.str "op",1,1,eS e,at0 ..,6];erw[0,1,0,6];apply az (gg ⋯) ?_;erw[0,1,0,6];apply az (gg ⋯) ?_;erw[0,c,0,.inr (z _),1,⋯,0,6];let b:inV (.str "op") (plainW.map V.str)=false:=by rw[gi,ll ⋯]
   rw[b];apply cz ?_;erw[0,1,0,6];apply aW rfl ?_;erw[0,a,_,(1),.str x,1,1,eS e,at1 ..,0,(2),1,a,0,eS e,e,λp H1 q e1=>?_];rw[ct2]at e1;erw[x,p,_,[r,r2],1,e1,TmsAt.two (g.mono (bw q)) (g2.mono (bw q)),by simp,3,λt y=>?_,λD J=>?_]
   . rcases Qq y with rfl | y
     . erw[o,U.1,3]
     . rw[Qr y];erw[L,U.2,3]
   rw[br_op];exact k D (q.trans J)
def Io:#[1,f,fd,["term"],spTTm 0]:=by
 let no:∀vs H Q E,¬ spTTm 0 vs H Q E:=λvs H Q E h=>by
  erw[v,t,_,_,_,h1,_]at h
  have:=t.depth_pos
  omega
 exists 3
def pe(F:#["term_text",jv])(b:Fun K "in_bracket" "in_bracket" iJ c d)(B:Bl mg)(X:Tx K mg)(m:mg "term_text"=some (.ref f))(m2:mg "in_bracket"=some (.ref c)):
 ∀n:Nat,#[2*n+1,f,fd,["term"],spTTm n]
 |0=>Io
 |n+1=>Iq F B X (Cal.of b (uK b (Cal.of F (pe F b B X m m2 n) m (λ_ _ _ _ _ _ us hl=>by let%[e|1]:=Dv hl;rfl))) m2 (λ_ _ _ _ _ _ us hl=>by let%[e,g|1]:=Du hl;rfl))
def Hr.ws:Hr->List Str
 |.fin=>["end"] | .go n=>["go",bL n] | .iff t n=>["if",t.str,bL n] | .set x t=>["set",x,t.str] | .say t=>["say",t.str]
def Hr.str(r:Hr):Str:=Txt.join (" ":Str) r.ws
def Ix:Hr.fin.str="end":=by decide
def Ke{r:Hr}(h:r.ok 20):r.ws.length<=3/\∀z∈r.ws,z.length<=280:=by
 let b:∀z∈(Wu:List Str),z.length<=280:=by decide
 let d:∀{t:Tm},t.fit 20->t.str.length<=280:=fun{t} h=>by
  have:=Tm.str_len h.1
  have:=h.2.1
  omega
 cases r with
 |fin=>erw[4,λz c=>b z (by rw[Qr c];decide)]
 |go n=>
   erw[by show 2<=3;decide,λz c=>?_];rcases Qq (show z∈[("go":Str),bL n]from c)with rfl | c
   . exact b _ ⋯
   . rw [Qr c]
     have:=dQ h.1 h.2
     omega
 |iff t n=>
   erw[by show 3<=3;decide,λz c=>?_];rcases Qq (show z∈[("if":Str),t.str,bL n]from c)with rfl | c
   . exact b _ ⋯
   rcases Qq c with rfl | c
   . exact d h.1
   . rw [Qr c]
     have:=dQ h.2.1 h.2.2
     omega
 |set x t=>
   erw[by show 3<=3;decide,λz c=>?_];rcases Qq (show z∈[("set":Str),x,t.str]from c)with rfl | c
   . exact b _ ⋯
   rcases Qq c with rfl | c
   . have:=h.1.2.2.1
     omega
   . rw[Qr c];exact d h.2
 |say t=>
   erw[by show 2<=3;decide,λz c=>?_];rcases Qq (show z∈[("say":Str),t.str]from c)with rfl | c
   . exact b _ ⋯
   . rw[Qr c];exact d h
def yI(b:Str)(zs:List Str)(h:b.length=1):(Txt.join b zs).length<=(zs.map (·.length)).sum+zs.length:=by
 have:=size_glued b zs
 rw[h]at this;show(Builtin.Str.glued b zs).length<=_;omega
def DZ{r:Hr}(h:r.ok 20):(r.ws.map (·.length)).sum+r.ws.length<=900:=by
 let%[h1|h2]:=Ke h
 have:=iq h2
 have:r.ws.length*280<=840:=#[0]
 omega
def Hr.str_len{r:Hr}(h:r.ok 20):r.str.length<=900:=hQ (yI _ _ ⋯) (DZ h)
instance spRT:∀(v:V)(r:Hr),vs=[v]->HrAt H v r->r.ok 20->(∀H',Same H H'->Q (.str r.str) H'):=1
def C6:FnScope ["row","word"] ["row"] (af nK):=%[|5]
def yr(F:#["row_text",nK])(B:Bl mg)(u:#[17,"term_text",["term"],spTTm 8]):#[18,f,fd,["row"],spRT]:=by
 exists C6
 erw[v,r,1,T,ok,k]at h;refine⟨_,(aa #[aj,1,C6,aI ix_tup (pv 0) ae #[1]]
  (aa (aG (ag aP (pv 1) ao (aq _)) (ac (am (bZ pu wh w4 eF ao %[cY %[1,aI ix_tup (pv 0) ae #[1],ai u hr ⋯ rfl %[aI ix_tup (pv 0) ae #[1]|aV]|aV]|aV]))) au)
  (aa (aG (ag aP (pv 1) ao (aq _)) (ac (am (bZ pu wh w4 eF ao %[cY %[1,ai u hr ⋯ rfl %[aI ix_tup (pv 0) ae #[1]|aV]|aV]|aV]))) au)
  (aa (aG (ag aP (pv 1) ao (aq _)) (ac (am (bZ pu wh w4 eF ao %[cY %[1,ai u hr ⋯ rfl %[aI ix_tup (pv 0) ae #[1]|aV],aR eT rfl B.str hU %[aI ix_tup (pv 0) ae #[1]|aV]|aV]|aV]))) au)
  (aa (aG (ag aP (pv 1) ao (aq _)) (ac (am (bZ pu wh w4 eF ao %[cY %[1,aR eT rfl B.str hU %[aI ix_tup (pv 0) ae #[1]|aV]|aV]|aV]))) au)
  (ac (am (pv 1)))))))),?_⟩
 let q:((" ":Str)).length<=16:=by decide
 let big:∀{m:Nat},m<=900->m<=1048576:=λh=>hQ h ⋯
 let b:=DZ ok;cases T with
 | @fin a e=>
   erw[0,a,_,(0),.str "end",1,1,eS e,at0 ..,6];erw[0,1,0,6];apply az (gg ⋯) ?_;erw[0,1,0,6];apply az (gg ⋯) ?_;erw[0,1,0,6];apply az (gg ⋯) ?_;erw[0,1,0,6];apply az (gg ⋯) ?_;let y:=k H (Same.refl H);rw[Ix]at y;erw[0,y]
 | @go a n e=>
   erw[0,a,_,(0),.str "go",1,1,eS e,at0 ..,6];erw[0,1,0,6];apply az (gg ⋯) ?_;erw[0,1,0,6];apply az (gg ⋯) ?_;erw[0,1,0,6];apply az (gg ⋯) ?_;erw[0,1,0,6];apply aW rfl ?_;erw[1,0,0,a,_,(1),0,1,eS e,at1 ..,n,1,gZ ok.1 ok.2,y2S,λL c=>?_];let d:upd H L (.lst [.str "go",.str (toString n)]) L=some (.lst ((Hr.go n).ws.map V.str)):=aX;erw[_,L,0,1,fy d,q,big b,k _ (fj c _)]
 | @iff a v t n e g=>
   erw[0,a,_,(0),.str "if",1,1,eS e,at0 ..,6];erw[0,1,0,6];apply az (gg ⋯) ?_;erw[0,1,0,6];apply az (gg ⋯) ?_;erw[0,1,0,6];apply aW rfl ?_;erw[1,0,0,a,_,(1),0,1,eS e,at1 ..,v,t,1,g,ok.1.1,ok.1.2.2,by have:=ok.1.2.1;omega,λo j=>?_];erw[0,a,_,(2),0,1,eS (j _ _ e),at2 ..,n,1,gZ ok.2.1 ok.2.2,y3S,λL c=>?_];let d:upd o L (.lst [.str "if",.str t.str,.str (toString n)]) L=some (.lst ((Hr.iff t n).ws.map V.str)):=aX;erw[_,L,0,1,fy d,q,big b,k _ (j.trans (fj c _))]
 | @set a x v t e g=>
   erw[0,a,_,(0),.str "set",1,1,eS e,at0 ..,6];erw[0,1,0,6];apply aW rfl ?_;erw[1,0,0,a,_,(1),.str x,1,1,eS e,at1 ..,0,a,_,(2),v,1,1,eS e,at2 ..,v,t,1,g,ok.2.1,ok.2.2.2,by have:=ok.2.2.1;omega,λo j=>?_];erw[y3S,λL c=>?_];let d:upd o L (.lst [.str "set",.str x,.str t.str]) L=some (.lst ((Hr.set x t).ws.map V.str)):=aX;erw[_,L,0,1,fy d,q,big b,k _ (j.trans (fj c _))]
 | @say a v t e g=>
   erw[0,a,_,(0),.str "say",1,1,eS e,at0 ..,6];erw[0,1,0,6];apply az (gg ⋯) ?_;erw[0,1,0,6];apply aW rfl ?_;erw[1,0,0,a,_,(1),v,1,1,eS e,at1 ..,v,t,1,g,ok.1,ok.2.2,by have:=ok.2.1;omega,λo j=>?_];erw[y2S,λL c=>?_];let d:upd o L (.lst [.str "say",.str t.str]) L=some (.lst ((Hr.say t).ws.map V.str)):=aX;erw[_,L,0,1,fy d,q,big b,k _ (j.trans (fj c _))]
def GO{H:Hp}{b:Addr}{ys zs:List V}(h:H b=some (.lst ys)):bO H (upd H b (.lst zs)):=λa xs e=>by
 rw[aB (λz=>by rw[z,h]at e;cases e)];exact e
def RowsAt.nil:RowsAt H [] []:=%[1|λi v r h=>by simp at h]
def RowsAt.snoc(h:RowsAt H e g)(a:HrAt H v r):RowsAt H (e++[v]) (g++[r]):=by
 erw[by rw[gl,gl,h.1];rfl,λi u s b d=>?_];let hl:=h.1
 by_cases c:i<e.length
 . rw[Gp c]at b;rw[Gp #[0]]at d;exact h.2 i u s b d
 . rw [y1 #[0]]at b;rw[y1 #[0]]at d;let e1:i-e.length=0:=by
    have:=(Qs b).1
    rw[q0]at this;omega
   let e2:i-g.length=0:=#[0]
   rw[e1]at b;rw[e2]at d;cases b;cases d;exact a
def ur(b:List Hr):Prop:=b.length<=60/\∀r∈b,r.ok 20
def ng(b:List Hr):Str:=Txt.join ("\n":Str) (b.map Hr.str)
def yP(g:ur c):((c.map Hr.str).map (·.length)).sum+(c.map Hr.str).length<=60000:=by
 have:=iq (l:=c.map Hr.str) (b:=900) λp d=>by
  let%[r,hr|1]:=List.mem_map.mp d;exact Hr.str_len (g.2 r hr)
 rw[fx]at this ⊢;let h1:=g.1
 have:c.length*900<=60*900:=Nat.mul_le_mul_right _ h1
 omega
def Hd(g:ur b):(ng b).length<=60000:=hQ (yI _ _ ⋯) (yP g)
instance spHT:∀(a:Addr)(tv:List V)(rs:List Hr),vs=[.ref a]->H a=some (.tup tv)->RowsAt H tv rs->ur rs->(∀H',Same H H'->Q (.str (ng rs)) H'):=1
def sC:FnScope WT WT (af jL):=%[|5]
def tK(F:#["helper_text",jL])(u:#[18,"row_text_helptexts",["row"],spRT]):#[19,f,fd,WT,spHT]:=by
 exists sC
 erw[a,v,d,1,m,n,e,k]at h;refine⟨_,(ac (am (bZ pu wh w4 eF ao (aJ (bX (N:=[]) (ix:=[]) (cl:=[]) rfl #[5] rfl (eV (pv 0))
         (λ_ _ _=>cr (ai u hr ⋯ rfl %[0|aV]))) aV)))),?_⟩
 let x:=n.1;let y:=e.1;erw[1,0,a,1,%[_|eS m],λD hD=>?_];apply dN (K:=K) (xs:=v) (λi g=>g D=some (.lst (((d.take i).map Hr.str).map V.str))/\Same H g) %[by rw[aX];rfl|fj hD _] (λi g _ h=>eS (h.2 _ _ m)) ?_ ?_
 . rintro i z o q ⟨b,c⟩;let B:=(Qs q).1;let j:d[i]?=some (d[i]'#[0]):=j3 #[0];erw[0,z,0,(n.2 i z _ q j).mono (bw c),e.2 _ (lr j),λC r=>?_];erw[_,r _ _ b,6,Nx.of B %[6|λJ L t=>?_]]
   . rw[fx,fx,lw];exact aN #[0]
   . rw[aX,nh,j,hI,hI];rfl
   . rw[aB (bh t hD)];exact r _ _ (c _ _ t)
 rintro o ⟨b,c⟩;rw[x,mu]at b;erw[_,D,0,1,fy b,⋯,hQ (yP e) ⋯,k o c]
abbrev pV:Stmt:=top 39
abbrev wC:Stmt:=bK pV 0
abbrev sG:Stmt:=bK pV 1
abbrev wB:Stmt:=bK pV 2
abbrev wA:Stmt:=bK pV 3
abbrev wz:Stmt:=bK pV 4
abbrev pU:Stmt:=bK pV 5
structure STxt(K:W.Frag)(mg:#[9])(C:Addr):Prop where
 cl:Cls K C
 nX:NoAttr K C "text"
 nR:NoAttr K C "row"
 nW:NoAttr K C "most_within"
 nP:NoAttr K C "most_parts"
 nL:NoAttr K C "place"
 nN:NoAttr K C "parts"
 mgC:mg "Scan"=some (.ref C)
def sW(f:Str)(v:V):∀(fs:List (Str×V))(u:V),fs.lookup f=some u->(cQ f v fs).length=fs.length
 | [],u,h=>by cases h
 | (g,x)::r,u,h=>by
   unfold cQ
   by_cases e:g=f
   . rw[Qk e];rfl
   . rw [Qi e];let b:(f==g)=false:=#[λz=>e z.symm,0]
     simp only[List.lookup,b]at h;rw[ij,ij,sW f v r u h]
def cy(f:Str)(v:V):∀fs:List (Str×V),(cQ f v fs).length<=fs.length+1
 | []=>fz _
 | (g,u)::r=>by
   have:=cy f v r
   unfold cQ
   split
   . simp
   . simp only[ij];omega
structure SF(T:Str)(p n:Nat)(fs:List (Str×V)):Prop where
 text:fs.lookup ("text":Str)=some (.str T)
 mw:∃i:Int,fs.lookup ("most_within":Str)=some (.int i)/\8<=i
 mp:∃i:Int,fs.lookup ("most_parts":Str)=some (.int i)/\20<=i
 place:fs.lookup ("place":Str)=some (.int (p:Int))
 parts:fs.lookup ("parts":Str)=some (.int (n:Int))
 no1:fs.lookup ("enter":Str)=none
 no2:fs.lookup ("sees":Str)=none
 no3:fs.lookup ("take":Str)=none
 no4:fs.lookup ("word":Str)=none
 no5:fs.lookup ("finish":Str)=none
 len:fs.length<=6
def SF.toPlace(h:SF T p n fs)(b:Nat):SF T b n (cQ "place" (.int (b:Int)) fs):=by
 erw[6,6,6,6,6,6,6,6,6,6,6]
 . rw[ay,Qi ⋯];exact h.text
 . rw[ay,Qi ⋯];exact h.mw
 . rw[ay,Qi ⋯];exact h.mp
 . rw[ay,Qk rfl]
 . rw[ay,Qi ⋯];exact h.parts
 . rw[ay,Qi ⋯];exact h.no1
 . rw[ay,Qi ⋯];exact h.no2
 . rw[ay,Qi ⋯];exact h.no3
 . rw[ay,Qi ⋯];exact h.no4
 . rw[ay,Qi ⋯];exact h.no5
 . rw[sW _ _ _ _ h.place];exact h.len
def SF.toParts(h:SF T p n fs)(b:Nat):SF T p b (cQ "parts" (.int (b:Int)) fs):=by
 erw[6,6,6,6,6,6,6,6,6,6,6]
 . rw[ay,Qi ⋯];exact h.text
 . rw[ay,Qi ⋯];exact h.mw
 . rw[ay,Qi ⋯];exact h.mp
 . rw[ay,Qi ⋯];exact h.place
 . rw[ay,Qk rfl]
 . rw[ay,Qi ⋯];exact h.no1
 . rw[ay,Qi ⋯];exact h.no2
 . rw[ay,Qi ⋯];exact h.no3
 . rw[ay,Qi ⋯];exact h.no4
 . rw[ay,Qi ⋯];exact h.no5
 . rw[sW _ _ _ _ h.parts];exact h.len
def sfs(T:Str)(k mw mp:Int):List (Str×V):=cQ "parts" (.int 0) (cQ "place" (.int 0) (cQ "most_parts" (.int mp) (cQ "most_within" (.int mw) (cQ "row" (.int k) (cQ "text" (.str T) [])))))
def Kq(T:Str)(k mw mp:Int)(h8:8<=mw)(h20:20<=mp):SF T 0 0 (sfs T k mw mp):=by
 let no:∀m:Str,m≠"parts" -> m≠"place" -> m≠"most_parts" -> m≠"most_within" -> m≠"row" -> m≠"text" -> (sfs T k mw mp).lookup m=none:=λm h1 h2 h3 h4 h5 h6=>by
  unfold sfs;rw[ay,Qi h1,ay,Qi h2,ay,Qi h3,ay,Qi h4,ay,Qi h5,ay,Qi h6];rfl
 erw[6,6,6,6,6,no _ ⋯ ⋯ ⋯ ⋯ ⋯ ⋯,no _ ⋯ ⋯ ⋯ ⋯ ⋯ ⋯,no _ ⋯ ⋯ ⋯ ⋯ ⋯ ⋯,no _ ⋯ ⋯ ⋯ ⋯ ⋯ ⋯,no _ ⋯ ⋯ ⋯ ⋯ ⋯ ⋯,6]
 . unfold sfs;rw[ay,Qi ⋯,ay,Qi ⋯,ay,Qi ⋯,ay,Qi ⋯,ay,Qi ⋯,ay,Qk rfl]
 . erw[mw,6,h8];unfold sfs;rw[ay,Qi ⋯,ay,Qi ⋯,ay,Qi ⋯,ay,Qk rfl]
 . erw[mp,6,h20];unfold sfs;rw[ay,Qi ⋯,ay,Qi ⋯,ay,Qk rfl]
 . unfold sfs;rw[ay,Qi ⋯,ay,Qk rfl];rfl
 . unfold sfs;rw[ay,Qk rfl];rfl
 . unfold sfs;apply hQ (cy _ _ _) (on (hQ (cy _ _ _) (on (hQ (cy _ _ _) (on (hQ (cy _ _ _) (on (hQ (cy _ _ _) (on (cy _ _ _))))))))))
def ScanAt(C:Addr)(H:Hp)(b:Addr)(T:Str)(p n:Nat):Prop:=∃dx fs,H b=some (.ins C dx fs)/\SF T p n fs
instance spSInit(C:Addr):∀(g dx:Addr)(T:Str)(k mw mp:Int),vs=[.ref g,.str T,.int k,.int mw,.int mp]->8<=mw->20<=mp->H g=some (.ins C dx [])->(∀H',ScanAt C H' g T 0 0->SameBut g H H'->Q .non H'):=1
def EV:FnScope WU WU (af wC):=%[|5]
def FN(F:#["__init__","Scan.__init__",wC])(T:STxt K mg C):#[1,f,fd,WU,spSInit C]:=by
 exists EV
 erw[g,dx,Tx,b,mw,mp,1,h8,h20,hg,q]at h;erw[_,(aa (aZ (pv 0) (pv 1) rfl) (aa (aZ (pv 0) (pv 2) rfl) (aa (aZ (pv 0) (pv 3) rfl) (aa (aZ (pv 0) (pv 4) rfl) (aa (aZ (pv 0) ae rfl) (ac (aZ (pv 0) ae rfl))))))),6];erw[0,0,g,C,dx,[],1,hg,T.cl,T.nX,(by show 0<1000;decide),6];erw[0,0,g,C,dx,0,aX,9,T.nR,(sb (cy _ _ _) (by show 1<1000;decide)),6];erw[0,0,g,C,dx,0,aX,9,T.nW,(sb (cy _ _ _) (sb (on (cy _ _ _)) (by show 2<1000;decide))),6];erw[0,0,g,C,dx,0,aX,9,T.nP,(sb (cy _ _ _) (sb (on (hQ (cy _ _ _) (on (cy _ _ _)))) (by show 3<1000;decide))),6];erw[0,g,C,dx,0,aX,9,T.nL,(sb (cy _ _ _) (sb (on (hQ (cy _ _ _) (on (hQ (cy _ _ _) (on (cy _ _ _)))))) (by show 4<1000;decide))),6];erw[0,g,C,dx,0,aX,9,T.nN,(sb (cy _ _ _) (sb (on (hQ (cy _ _ _) (on (hQ (cy _ _ _) (on (hQ (cy _ _ _) (on (cy _ _ _)))))))) (by show 5<1000;decide))),6];exact q _ ⟨dx,sfs Tx b mw mp,aX,Kq Tx b mw mp h8 h20⟩ ((SameBut.upd _).trans ((SameBut.upd _).trans ((SameBut.upd _).trans ((SameBut.upd _).trans ((SameBut.upd _).trans (SameBut.upd _))))))
def SF.size(h:SF T p n fs):fs.length<1000:=sb h.len ⋯
instance spEnter(C:Addr):∀(sc:Addr)(T:Str)(p n:Nat)(wi:Int),vs=[.ref sc,.int wi]->ScanAt C H sc T p n->wi<=8->n+1<=20->(∀H',ScanAt C H' sc T p (n+1)->SameBut sc H H'->Q .non H'):=1
def Cq:FnScope Wj Wj (af sG):=%[|5]
def CP(F:#["enter","Scan.enter",sG])(T:STxt K mg C):#[1,f,fd,Wj,spEnter C]:=by
 exists Cq
 erw[d,Tx,p,n,t,1,%[dx,fs,m|e],o,r,q]at h;refine⟨_,(aa (aZ (pv 0) (ax aU (aF (pv 0) rfl) ae) rfl)
  (ac (aG (PW.pt (eO (ag ji (pv 1) (aF (pv 0) rfl) (aq _)) (dL (ag ji (aF (pv 0) rfl) (aF (pv 0) rfl) (aq _))))) ba au))),?_⟩
 let b:=e.toParts (n+1);erw[mw,g,h8]at b.mw;erw[mp,j,h20]at b.mp;erw[0,d,C,dx,fs,0,m,9,T.nN,e.parts,2,0,d,C,dx,fs,1,m,9,T.nN,e.size,6];let c:upd H d (.ins C dx (cQ "parts" (.int ((n:Int)+1)) fs)) d=some (.ins C dx (cQ "parts" (.int ((n+1:Nat):Int)) fs)):=aX;erw[0,0,d,C,dx,_,0,c,9,T.nW,g,2,0,6];apply az #[0] ?_;erw[0,d,C,dx,_,0,c,9,T.nN,b.parts,0,d,C,dx,_,0,c,9,T.nP,j,2,0,6];apply az #[0] ?_;exact q _ ⟨dx,_,c,b⟩ (SameBut.upd _)
instance spSees(C:Addr):∀(sc:Addr)(T u:Str)(p n:Nat),vs=[.ref sc,.str u]->ScanAt C H sc T p n->Q (.bl (fO T u p)) H:=1
def EU:FnScope WG WG (af wB):=%[|5]
def FM(F:#["sees","Scan.sees",wB])(T:STxt K mg C):#[1,f,fd,WG,spSees C]:=by
 exists EU
 erw[b,Tx,u,p,n,1,%[dx,fs,c|d],q]at h;erw[_,(ac (am (bZ pu Rw Rx yD (aF (pv 0) rfl) %[1,aF (pv 0) rfl|aV]))),6];erw[0,b,C,dx,fs,0,c,9,T.nX,d.text,1,0,0,b,C,dx,fs,0,c,9,T.nL,d.place,Tx,u,0,1,q]
instance spTake'(C:Addr):∀(sc:Addr)(T u:Str)(p n:Nat),vs=[.ref sc,.str u]->ScanAt C H sc T p n->fO T u p=true->u.length<=10->(∀H',ScanAt C H' sc T (p+u.length) n->SameBut sc H H'->Q .non H'):=1
def ET:FnScope WG WG (af wA):=%[|5]
def FL(F:#["take","Scan.take",wA])(B:Bl mg)(T:STxt K mg C)(mS:Meth K C "sees" j)(GS:#[1,j,d,WG,spSees C])(bS:Binds K d WG []):#[2,f,fd,WG,spTake' C]:=by
 exists ET
 erw[b,Tx,u,p,n,1,S,m,o,q]at h;let r:Room 1 _:=hr.mono ⋯;refine⟨_,(aa (aG (dO (di (bu (pv 0) T.cl mS GS r bS .nil be %[1|aV]))) ba au)
  (ac (aZ (pv 0) (ax aU (aF (pv 0) rfl) (aE cH rfl B.len hR %[1|aV])) rfl))),?_⟩
 let%[dx,fs,e|c]:=id S;erw[0,b,dx,fs,1,e,c.no2,0,b,Tx,u,p,n,1,S,0,6];rw[m];apply cz ?_;erw[0,b,C,dx,fs,0,e,9,T.nL,c.place,0,u,1,bc #[0],2,0,b,C,dx,fs,1,e,T.cl,T.nL,c.size,6];let g:upd H b (.ins C dx (cQ "place" (.int ((p:Int)+(u.length:Int))) fs)) b=some (.ins C dx (cQ "place" (.int ((p+u.length:Nat):Int)) fs)):=by rw[aX,RM]
 exact q _ %[dx,_,g|c.toPlace _] (SameBut.upd _)
def vR(r:List Nat):Prop:=r=[]∨∃c r',r=c::r'/\(c=32∨c=40∨c=41)
instance spWord(C:Addr):∀(sc:Addr)(T:Str)(p n:Nat)(x r:List Nat),vs=[.ref sc]->ScanAt C H sc T p n->T.length<=1000->p<=T.length->T.cps.toList.drop p=x++r->(∀c∈x,isIn ENDS c=false)->vR r->(∀H',ScanAt C H' sc T (p+x.length) n->SameBut sc H H'->Q (.str (stl x)) H'):=1
def MI:FnScope ["self","start"] WA (af wz):=%[|5]
def FK(F:#["word","Scan.word",wz])(B:Bl mg)(X:Tx K mg)(T:STxt K mg C):#[1,f,fd,WA,spWord C]:=by
 exists MI
 erw[o,Tx,p,n,x,r,1,%[dx,fs,hs|sf],tl,pl,hd,xl,er,q]at h;erw[te,ge]at X.ends;refine⟨_,(aa #[aj,1,MI,aF (pv 0) rfl]
  (aa (jX n7 (PW.pt (qi (ag dX (aF (pv 0) rfl) (aE cH rfl B.len hR %[aF (pv 0) rfl|aV]) (aq _)) (oR (ag wQ (aI tX (aF (pv 0) rfl) (aF (pv 0) rfl) #[1]) (bQ (v:=.str ENDS) rfl ge %[|0]) (by rfl'))))) (ac (aZ (pv 0) (ax aU (aF (pv 0) rfl) ae) rfl)))
  (ac (am (cR sy (aF (pv 0) rfl) (dy (pv 1)) (dy (aF (pv 0) rfl))))))),?_⟩
 let L:Tx.cps.toList.length=Tx.length:=by rw[zf];rfl
 let y:Tx.length=p+(x.length+r.length):=by
  have:=congrArg List.length hd
  rw[QL,gl,L]at this;omega
 erw[0,o,C,dx,fs,0,hs,9,T.nL,sf.place,6];erw[λm σ H'=>∃j:Nat,j<=x.length/\σ=[some (.ref o),some (.int (p:Int))]/\ScanAt C H' o Tx (p+j) n/\SameBut o H H'/\m=x.length-j,%[_,(0),kr _,1,%[dx,fs,hs|sf],SameBut.refl _ _|1],6];rintro m σ D ⟨j,hj,rfl,⟨b,e,g,d⟩,J,rfl⟩;erw[0,o,C,b,e,0,g,9,T.nL,d.place,0,o,C,b,e,0,g,9,T.nX,d.text,Tx,1,bc tl,2,0,6];let sl:j=x.length->Txt.slice Tx (some (p:Int)) (some ((p+j:Nat):Int))=stl x:=λu=>by
  let es:Txt.slice Tx (some (p:Int)) (some ((p+j:Nat):Int))=_:=StrLaws.sliceText_plain (i:=(p:Int)) (j:=((p+j:Nat):Int)) %[3,3|by rw[L];omega];rw[es];apply fL ?_;show(Tx.cps.toList.drop (p:Int).toNat).take (((p+j:Nat):Int)-(p:Int)).toNat=x;rw[show(p:Int).toNat=p by omega,show(((p+j:Nat):Int)-(p:Int)).toNat=x.length by omega,hd,List.take_left'];rfl
 by_cases c1:(((p+j:Nat):Int))<(Tx.length:Int)
 . apply aW c1 ?_;let M:p+j<Tx.cps.toList.length:=by rw[L];omega
   let ha:atI Tx.cps.toList ((p+j:Nat):Int)=some Tx.cps.toList[p+j]:=bd (j3 M);let z:Tx.cps.toList[p+j]?=(x++r)[j]?:=by rw[←hd,List.getElem?_drop]
   erw[0,o,C,b,e,0,g,9,T.nX,d.text,0,o,C,b,e,0,g,9,T.nL,d.place,Tx,2,bc tl,ha,2,0,6]
   by_cases N:j<x.length
   . let O:Tx.cps.toList[p+j]=x[j]:=by
      rw[j3 M,Gp N,j3 N]at z;exact ln z
     let U:(!isIn ENDS Tx.cps.toList[p+j])=true:=by rw[O,xl _ (vr N)];rfl
     let t:(!(!(Builtin.Str.occurrences ENDS %[|#[Tx.cps.toList[p+j]]] 0 ENDS.length 1).isEmpty))=true:=U;rw[t];erw[_,λ_ _ h=>h,6];erw[0,o,C,b,e,0,g,9,T.nL,d.place,2,0,o,C,b,e,1,g,9,T.nL,d.size,6];let Y:upd D o (.ins C b (cQ "place" (.int (((p+j:Nat):Int)+1)) e)) o=some (.ins C b (cQ "place" (.int ((p+(j+1):Nat):Int)) e)):=by
      rw[aX,show((p+j:Nat):Int)+1=((p+(j+1):Nat):Int) by omega]
     erw[_,3,j+1,3,1,%[b,_,Y|d.toPlace _],J.trans (SameBut.upd _),1]
   . let u:j=x.length:=#[0]
     let U:(!isIn ENDS Tx.cps.toList[p+j])=false:=by
      rcases er with rfl | ⟨c,r',rfl,hc⟩
      . rw[o0]at y;omega
      . rw [j3 M,y1 #[0],show j-x.length=0 by omega]at z;let O:Tx.cps.toList[p+j]=c:=ln z;rw[O];rcases hc with rfl | rfl | rfl
        . rw[ends_in.1];rfl
        . rw[ends_in.2.1];rfl
        . rw[ends_in.2.2];rfl
     let t:(!(!(Builtin.Str.occurrences ENDS %[|#[Tx.cps.toList[p+j]]] 0 ENDS.length 1).isEmpty))=false:=U;rw[t];erw[0,o,C,b,e,0,g,9,T.nX,d.text,0,0,0,o,C,b,e,0,g,9,T.nL,d.place,0,Tx,1,bc tl,6];rw[sl u];rw[u]at d;exact q D ⟨b,e,g,d⟩ J
 . apply az c1 ?_;let u:j=x.length:=#[0]
   erw[0,o,C,b,e,0,g,9,T.nX,d.text,0,0,0,o,C,b,e,0,g,9,T.nL,d.place,0,Tx,1,bc tl,6];rw[sl u];rw[u]at d;exact q D ⟨b,e,g,d⟩ J
instance spFinish(C:Addr):∀(sc:Addr)(T:Str)(n:Nat),vs=[.ref sc]->ScanAt C H sc T T.length n->T.length<=1000->Q .non H:=1
def zI:FnScope WA WA (af pU):=%[|5]
def Ai(F:#["finish","Scan.finish",pU])(B:Bl mg)(T:STxt K mg C):#[1,f,fd,WA,spFinish C]:=by
 exists zI
 erw[b,Tx,n,1,%[dx,fs,c|d],tl,q]at h;erw[_,(ac (aG (ag jY (aF (pv 0) rfl) (aE cH rfl B.len hR %[aF (pv 0) rfl|aV]) (aq _)) ba au)),6];erw[0,b,C,dx,fs,0,c,9,T.nL,d.place,0,b,C,dx,fs,0,c,9,T.nX,d.text,Tx,1,bc tl,1,0,6];show if(!decide (V.int (Tx.length:Int)=V.int (Tx.length:Int)))=true then _ else _
 rw[j2 rfl];exact cz q
def Hl(n p:Nat):PySem.fromIndex n (p:Int)=p:=by
 unfold PySem.fromIndex;rw[Qi #[0]];omega
def vW(T u:Str)(p:Nat):Builtin.Str.subAt T u p=decide ((T.cps.toList.drop p).take u.length=u.cps.toList):=by
 unfold Builtin.Str.subAt;let e:(T.cps.extract p (p+u.length)).toList=(T.cps.toList.drop p).take u.length:=by
  rw[Array.toList_extract,List.extract_eq_drop_take]
  congr 1
  omega
 by_cases c:(T.cps.toList.drop p).take u.length=u.cps.toList
 . rw [j2 c]
   have:T.cps.extract p (p+u.length)=u.cps:=Array.toList_inj.mp (e.trans c)
   rw[this]
   simp
 . rw [ll c]
   have:¬ T.cps.extract p (p+u.length)=u.cps:=λz=>c (by rw[←e,z])
   simpa using this
def dC(T:Str):T.cps.toList.length=T.length:=by rw[zf];rfl
def jB{T:Str}{p:Nat}{u v:List Nat}(h:T.cps.toList.drop p=u++v)(b:p<=T.length):p+u.length+v.length=T.length:=by
 have:=congrArg List.length h
 rw[QL,gl,dC]at this;omega
def bv{T:Str}{p:Nat}{u v:List Nat}(h:T.cps.toList.drop p=u++v):T.cps.toList.drop (p+u.length)=v:=by
 rw[←List.drop_drop,h,List.drop_left]
def cu{T u:Str}{p:Nat}{r:List Nat}(h:T.cps.toList.drop p=u.cps.toList++r)(b:p<=T.length):fO T u (p:Int)=true:=by
 unfold fO;let hl:=jB h b;rw[dC]at hl;rw[Hl,vW,j2 #[0],h,←dC u,List.take_left,j2 rfl];rfl
def jR{T:Str}{p:Nat}{c:Nat}{r:List Nat}(h:T.cps.toList.drop p=c::r)(hc:c≠40):fO T ("(":Str) (p:Int)=false:=by
 unfold fO;let b:(("(":Str)).length=1:=by decide
 rw[Hl,vW,h,kO,b]
 have:¬ (c::r).take 1=[40]:=λz=>hc #[z,0]
 rw[ll this,RN]
def bY(S:ScanAt C H b T p n)(s:SameBut b H c):bO H c:=λa xs h=>s a _ (λz=>by
 erw[dx,fs,e,_]at S;rw[z,e]at h;cases h) h
def ScanAt.same(S:ScanAt C H b T p n)(s:Same H c):ScanAt C c b T p n:=by
 erw[dx,fs,e,d]at S;erw[dx,fs,s _ _ e,d]
structure Mths(P:Program)(w:World)(K:W.Frag)(mg:#[9])(base:Heap)(C fE fS fT fW fF:Addr)(dE dS dT dW dF:FuncData):Prop where
 mE:Meth K C "enter" fE
 gE:#[1,fE,dE,Wj,spEnter C]
 bE:Binds K dE Wj []
 mS:Meth K C "sees" fS
 gS:#[1,fS,dS,WG,spSees C]
 bS:Binds K dS WG []
 mT:Meth K C "take" fT
 gT:#[2,fT,dT,WG,spTake' C]
 bT:Binds K dT WG []
 mW:Meth K C "word" fW
 gW:#[1,fW,dW,WA,spWord C]
 bW:Binds K dW WA []
 mF:Meth K C "finish" fF
 gF:#[1,fF,dF,WA,spFinish C]
 bF:Binds K dF WA []
def Hq:∀c:Nat,c<62->42<=c->isIn ENDS c=false:=by decide
def Lk:∀c:Fin 26,isIn FIG (97+c.val)=false:=by decide
def Ha{c:Nat}(h:97<=c/\c<=122):isIn FIG c=false:=by
 have:=Lk %[c-97|3]
 rwa [show 97+(%[c-97|3]:Fin 26).val=c by show 97+(c-97)=c;omega]at this
def DG(h:NmK x):kQ x=false:=by
 unfold kQ;erw[%[_,hl|_],h1,_,_]at h
 have:x.cps.toList.all (isIn FIG)=false:=by
  cases e:x.cps.toList with
  |nil=>
    have:=eg x
    unfold cd at this;rw[e]at this
    simp at this
    omega
  |cons c r=>
    have:=Ha (hl c (by rw[e];exact mj))
    rw[Q3,this];rfl
 rw[this,RN]
def qF(l:List Nat):Prop:=∀c∈l,isIn ENDS c=false
def dP{l:List Nat}(h:∀c∈l,97<=c/\c<=122):qF l:=λc hc=>qw (h c hc)
def tt{l:List Nat}(h:∀c∈l,42<=c/\c<=61):qF l:=λc hc=>Hq c (by have:=h c hc;omega) (h c hc).1
def tj{n:Int}(h:0<=n):qF (cd (bL n)):=tt λc hc=>by have:=ik h c hc;omega
def CL(h:qF l)(h1:1<=l.length)(r:List Nat):∃c r',l++r=c::r'/\c≠40:=by
 cases l with
 |nil=>cases h1
 |cons c b=>
   erw[c,b++r,1,λe=>?_]
   have:=h c mj
   rw[e,ends_in.2.1]at this;cases this
instance spNextT(C:Addr)(n:Nat):∀(sc:Addr)(wi:Int)(T:Str)(p k:Nat)(t:Tm)(r:List Nat),vs=[.ref sc,.int wi]->ScanAt C H sc T p k->T.length<=1000->p<=T.length->T.cps.toList.drop p=[32]++(t.txt++r)->vR r->t.ok->t.depth<=n->wi+(t.depth:Int)<=9->k+t.size<=20->(∀(v:V)(H':Hp),TmAt H' v t->ScanAt C H' sc T (p+1+t.txt.length) (k+t.size)->SameBut sc H H'->Q v H'):=1
instance spTB(C:Addr)(n:Nat):∀(sc:Addr)(wi:Int)(T:Str)(p k:Nat)(t:Tm)(r:List Nat),vs=[.ref sc,.int wi]->ScanAt C H sc T p (k+1)->T.length<=1000->p<=T.length->T.cps.toList.drop p=t.txt++r->t.ok->((∃w a,t=.ask w a)∨∃s a b,t=.op s a b)->t.depth<=n+1->wi+(t.depth:Int)<=9->k+t.size<=20->(∀(v:V)(H':Hp),TmAt H' v t->ScanAt C H' sc T (p+t.txt.length) (k+t.size)->SameBut sc H H'->Q v H'):=1
def cX:FnScope ["scan","within","word","first","term"] WE (af ei):=%[|5]
def Ir{n:Nat}(F:#["term_in_bracket",ei])(X:Tx K mg)(T:STxt K mg C)(M:Mths P w K mg base C fE fS fT fW fF dE dS dT dW dF)(df:#[2*n+3,"next_term",WE,spNextT C n]):#[2*n+4,f,fd,WE,spTB C n]:=by
 exists cX
 erw[g,wi,Tx,p,k,t,r,1,S0,tl,pl,hd,ok,kind,dn,wd,br,q]at h;erw[ja,gj,hj]at X.asking;erw[sa,gs,hs]at X.signs;let Qt:Room 1 _:=hr.mono #[0];let an:Room 2 _:=hr.mono #[0];refine⟨_,(aa (aQ (bu (pv 0) T.cl M.mT M.gT an M.bT .nil be %[ao|aV]))
  (aa #[aj,2,cX,ci (pv 0) T.cl M.mW M.gW Qt M.bW .nil be]
  (aa #[aj,3,cX,ai df hr #[0] rfl %[0,ax aU (pv 1) ae|aV]]
  (aa (aG (ag eP (pv 2) (bQ (v:=.ref ja) rfl gj rfl) (by rfl')) (ac #[aj,4,cX,aO %[2,3|aV]]) (ac (aG (ag eP (pv 2) (bQ (v:=.ref sa) rfl gs rfl) (by rfl')) (ac #[aj,4,cX,aO %[ao,2,3,ai df hr #[0] rfl %[0,ax aU (pv 1) ae|aV]|aV]]) ba)))
  (aa (aQ (bu (pv 0) T.cl M.mT M.gT an M.bT .nil be %[ao|aV]))
  (ac (am (pv 4)))))))),?_⟩
 let l1:(("(":Str)).length=1:=by decide
 let l3:((")":Str)).length=1:=by decide
 let%[ap,ar,as|av]:=id S0;rcases kind with⟨d,a,rfl⟩ | ⟨o,a,b,rfl⟩
 . erw[aw,L]at ok;let%[_,w1,wl|_]:=xJ d aw;let da:a.depth<=n:=Sb dn;let ed:(((Tm.ask d a).depth:Nat):Int)=(a.depth:Int)+1:=by show((a.depth+1:Nat):Int)=_;omega
   let es:(Tm.ask d a).size=a.size+1:=rfl;let e:(cd d).length=d.length:=eg _;let j:Tx.cps.toList.drop p=[40]++(cd d++([32]++(a.txt++([41]++r)))):=by
    rw[hd];show([40]++(cd d++([32]++(a.txt++[41]))))++r=_
    simp
   let y:(Tm.ask d a).txt.length=1+(d.length+(1+(a.txt.length+1))):=by
    show([40]++(cd d++([32]++(a.txt++[41])))).length=_;simp only[gl,ij,o0,e]
   let N:=jB j pl;simp only[gl,ij,o0,e]at N;let m:=bv j;let u:=bv m;let z:=bv u;let x:=bv z;simp only[ij,o0,e]at m u z x;erw[0,g,ap,ar,1,as,av.no3,g,Tx,_,p,0,S0,cu (r:=cd d++([32]++(a.txt++([41]++r)))) (by rw[kO];exact j) pl,by rw[l1];decide,λH1 O B1=>?_];rw[l1]at O;let%[U,Y,ab|ah]:=id O;erw[0,g,U,Y,1,ab,ah.no4,g,Tx,_,_,cd d,0,O,tl,3,m,dP wl,.inr %[(32),0|.inl rfl],λH2 S2 B2=>?_];rw[e]at S2;erw[0,0,2,g,wi+1,Tx,_,_,a,0,S2,tl,3,u,.inr %[(41),r,1|.inr (.inr rfl)],L,da,3,3,λD H3 T3 S3 B3=>?_];erw[0,ja,0,.inr (hj _),1,⋯,0,6];let B:inV (.str (stl (cd d))) (askW.map V.str)=true:=by rw[show stl (cd d)=d from ir _,gi,j2 aw]
   rw[B];apply dZ ?_;erw[0,0,y2S,λc hc=>?_];let G:=fj hc (.tup [.str (stl (cd d)),D]);let S4:=S3.same G;let ec:upd H3 c (.tup [.str (stl (cd d)),D]) c=some (.tup [.str d,D]):=aX;let T4:=T3.mono (bw G);generalize upd H3 c (.tup [.str (stl (cd d)),D])=H4 at G S4 ec T4;let%[a0,a7,a8|a9]:=id S4;erw[0,g,a0,a7,1,a8,a9.no3,g,Tx,_,_,0,S4,cu (r:=r) (by rw[qu,show p+1+d.length+1+a.txt.length=p+(0+1)+d.length+(0+1)+a.txt.length by omega];exact x) #[0],by rw[l3];decide,λH5 J B5=>?_];rw[l3]at J;let k5:=bY S4 B5;erw[0,6];rw[show p+1+d.length+1+a.txt.length+1=p+(Tm.ask d a).txt.length by rw[y];omega,show k+1+a.size=k+(Tm.ask d a).size by rw[es];omega]at J;exact q _ _ (.ask (k5 _ _ ec) (T4.mono k5)) J (B1.trans (B2.trans (B3.trans ((f4 G).trans B5))))
 . erw[aA,L,bb]at ok;let%[o1,ol|no]:=rH o aA;let dd:a.depth<=n/\b.depth<=n/\wi+(a.depth:Int)<=8/\wi+(b.depth:Int)<=8:=by
    let e1:(Tm.op o a b).depth=max a.depth b.depth+1:=rfl;rw[e1]at dn wd;omega
   let es:(Tm.op o a b).size=a.size+b.size+1:=rfl;let e:(cd o).length=o.length:=eg _;let j:Tx.cps.toList.drop p=[40]++(cd o++([32]++(a.txt++([32]++(b.txt++([41]++r)))))):=by
    rw[hd];show([40]++(cd o++([32]++(a.txt++([32]++(b.txt++[41]))))))++r=_
    simp
   let y:(Tm.op o a b).txt.length=1+(o.length+(1+(a.txt.length+(1+(b.txt.length+1))))):=by
    show([40]++(cd o++([32]++(a.txt++([32]++(b.txt++[41])))))).length=_;simp only[gl,ij,o0,e]
   let N:=jB j pl;simp only[gl,ij,o0,e]at N;let m:=bv j;let u:=bv m;let z:=bv u;let x:=bv z;let aC:=bv x;let aH:=bv aC;simp only[ij,o0,e]at m u z x aC aH;erw[0,g,ap,ar,1,as,av.no3,g,Tx,_,p,0,S0,cu (r:=cd o++([32]++(a.txt++([32]++(b.txt++([41]++r)))))) (by rw[kO];exact j) pl,by rw[l1];decide,λH1 O B1=>?_];rw[l1]at O;let%[U,Y,ab|ah]:=id O;erw[0,g,U,Y,1,ab,ah.no4,g,Tx,_,_,cd o,0,O,tl,3,m,tt ol,.inr %[(32),0|.inl rfl],λH2 S2 B2=>?_];rw[e]at S2;erw[0,0,2,g,wi+1,Tx,_,_,a,0,S2,tl,3,u,.inr %[(32),0|.inl rfl],L,dd.1,3,3,λD H3 T3 S3 B3=>?_];erw[0,ja,0,.inr (hj _),1,⋯,0,6];let B:inV (.str (stl (cd o))) (askW.map V.str)=false:=by rw[show stl (cd o)=o from ir _,gi,ll no]
   rw[B];apply cz ?_;erw[0,sa,0,.inr (hs _),1,⋯,0,6];let aK:inV (.str (stl (cd o))) (signW.map V.str)=true:=by rw[show stl (cd o)=o from ir _,gi,j2 aA]
   rw [aK];apply dZ ?_;let aL:Tx.cps.toList.drop (p+1+o.length+1+a.txt.length)=[32]++(b.txt++([41]++r)):=by
    rw[show p+1+o.length+1+a.txt.length=p+(0+1)+o.length+(0+1)+a.txt.length by omega];exact x
   erw[0,0,0,0,2,g,wi+1,Tx,_,_,b,0,S3,tl,3,aL,.inr %[(41),r,1|.inr (.inr rfl)],bb,dd.2.1,3,3,λv2 H4 T4 S4 B4=>?_];let bf:=T3.mono (bY S3 B4);erw[y4S,λc hc=>?_];let G:=fj hc (.tup [.str "op",.str (stl (cd o)),D,v2]);let J:=S4.same G;let ec:upd H4 c (.tup [.str "op",.str (stl (cd o)),D,v2]) c=some (.tup [.str "op",.str o,D,v2]):=aX;let T5:=T4.mono (bw G);let aT:=bf.mono (bw G);generalize upd H4 c (.tup [.str "op",.str (stl (cd o)),D,v2])=H5 at G J ec T5 aT;let%[bg,bi,bm|bo]:=id J;erw[0,g,bg,bi,1,bm,bo.no3,g,Tx,_,_,0,J,cu (r:=r) (by rw[qu,show p+1+o.length+1+a.txt.length+1+b.txt.length=p+(0+1)+o.length+(0+1)+a.txt.length+(0+1)+b.txt.length by omega];exact aH) #[0],by rw[l3];decide,λH6 S6 B6=>?_];rw[l3]at S6;let k6:=bY J B6;erw[0,6];rw[show p+1+o.length+1+a.txt.length+1+b.txt.length+1=p+(Tm.op o a b).txt.length by rw[y];omega,show k+1+a.size+b.size=k+(Tm.op o a b).size by rw[es];omega]at S6;exact q _ _ (.op (k6 _ _ ec) (aT.mono k6) (T5.mono k6)) S6 (B1.trans (B2.trans (B3.trans (B4.trans ((f4 G).trans B6)))))
def u7:FnScope ["scan","within","word"] WE (af jx):=%[|5]
def xj{n:Int}(h:0<=n):bL n∉plainW:=λb=>by
 let%[_,w1,d|_]:=lP _ b;cases e:cd (bL n)with
 |nil=>
   have:=eg (bL n)
   rw[e]at this
   simp at this
   omega
 |cons c r=>
   let h1:=ik h c (by rw[e];exact mj);let h2:=d c (by show c∈cd (bL n);rw[e];exact mj);omega
def zZ:∀w∈plainW,w∈kept:=by decide
def Jd{n:Nat}(F:#["next_term",jx])(B:Bl mg)(X:Tx K mg)(T:STxt K mg C)(M:Mths P w K mg base C fE fS fT fW fF dE dS dT dW dF)(bN:#[1,"is_name",WB,spTxt jk])(a8:#[1,"is_figures",WB,spTxt kQ])(B0:#[2*n+4,"term_in_bracket",WE,spTB C n]):#[2*(n+1)+3,f,fd,WE,spNextT C (n+1)]:=by
 exists u7
 erw[e,wi,Tx,p,k,t,r,1,S0,tl,pl,hd,er,ok,dn,wd,ab,q]at h;erw[ja,gj,hj]at X.plain;let Qt:Room 1 _:=hr.mono #[0];let ah:Room 2 _:=hr.mono #[0];refine⟨_,(aa (aQ (bu (pv 0) T.cl M.mT M.gT ah M.bT .nil be %[ao|aV]))
  (aa (aQ (bu (pv 0) T.cl M.mE M.gE Qt M.bE .nil be %[1|aV]))
  (aa (aG (di (bu (pv 0) T.cl M.mS M.gS Qt M.bS .nil be %[ao|aV])) (ac (am (ai B0 hr #[0] rfl %[0,1|aV]))) au)
  (aa #[aj,2,u7,ci (pv 0) T.cl M.mW M.gW Qt M.bW .nil be]
  (aa (aG (ag eP (pv 2) (bQ (v:=.ref ja) rfl gj rfl) (by rfl')) (ac (am (aO %[2|aV]))) au)
  (aa (aG (di (ai a8 hr #[0] rfl %[2|aV])) (ac (am (aO %[ao,aR eZ rfl B.int hZ %[2|aV]|aV]))) au)
  (aa (aG (dO (di (ai bN hr #[0] rfl %[2|aV]))) ba au)
  (ac (am (aO %[ao,2|aV])))))))))),?_⟩
 let l2:((" ":Str)).length=1:=by decide
 let dp:=t.depth_pos;let sp:=t.size_pos;let an:=jB hd pl;let g:=bv hd;simp only[gl,ij,o0]at an g;let%[ap,ar,as|av]:=id S0;erw[0,e,ap,ar,1,as,av.no3,e,Tx,_,p,0,S0,cu (r:=t.txt++r) (by rw[hG];exact hd) pl,by rw[l2];decide,λH1 S1 B1=>?_];rw[l2]at S1;let%[aw,aA,aC|aH]:=id S1;erw[0,e,aw,aA,1,aC,aH.no1,0,e,Tx,_,k,wi,1,S1,3,3,λH2 U B2=>?_];let%[u,y,D|J]:=id U;erw[0,e,u,y,1,D,J.no2,e,Tx,_,_,0,U,0,6];let j:(((∃w a,t=.ask w a)∨∃s a b,t=.op s a b)/\∃z,t.txt=40::z)∨∃x:Str,t.txt=cd x/\qF (cd x)/\1<=x.length/\t.size=1/\((t=.plain x/\x∈plainW)∨(∃m,t=.num m/\x=bL m/\0<=m/\m<1000000000000)∨(t=.box x/\NmK x)):=by
  cases t with
  |ask w a=>exact .inl %[.inl %[w,a|1]|0]
  |op s a b=>exact .inl %[.inr %[s,a,b|1]|0]
  |plain x=>
    let d:x∈plainW:=ok;let%[_,w1,wl|_]:=lP x d;exact .inr %[x,1,dP wl,w1,1|.inl %[1|d]]
  |num m=>exact .inr %[bL m,1,tj ok.1,tM ok.1,1|.inr (.inl %[m,1,1,ok.1|ok.2])]
  |box x=>
    let d:NmK x:=ok;exact .inr %[x,1,dP d.1.2.1,d.2.1,1|.inr (.inr %[1|d])]
 rcases j with⟨kind,z,ez⟩ | ⟨x,et,pc,x1,s1,kd⟩
 . let hs:fO Tx ("(":Str) ((p+1:Nat):Int)=true:=cu (r:=z++r) (by rw[kO];show _=40::(z++r);rw[g,ez];rfl) #[0];rw[hs];apply dZ ?_;erw[0,0,e,wi,Tx,p+1,k,t,r,1,U,tl,3,g,ok,kind,dn,wd,ab,λv H3 T3 o L=>?_];exact q v H3 T3 o (B1.trans (B2.trans L))
 let%[c,r',hc|aK]:=CL pc (by rw[eg];exact x1) r;let N:Tx.cps.toList.drop (p+1)=cd x++r:=by rw[g,et]
 rw[jR (N.trans hc) aK];apply cz ?_;erw[0,e,u,y,1,D,J.no4,e,Tx,_,_,cd x,r,1,U,tl,3,N,pc,er,λH3 o aL=>?_];rw[show stl (cd x)=x from ir _];rw[←et,←s1]at o;let L:SameBut e H H3:=B1.trans (B2.trans aL);erw[0,ja,0,.inr (hj _),1,⋯,0,6];show if inV (.str x) (plainW.map V.str)=true then _ else _
 rw[gi];rcases kd with⟨rfl,d⟩ | ⟨m,rfl,rfl,Y,m1⟩ | ⟨rfl,d⟩
 . apply aW d ?_;erw[0,y1S,λc hc=>?_];let G:=fj hc (.tup [.str x]);exact q _ _ (.plain aX) (o.same G) (L.trans (f4 G))
 . apply az (xj Y) ?_;let nl:=dQ Y m1;erw[0,bL m,1,3,λH4 O=>%[0|6]];rw[pw Y m1];apply dZ ?_;erw[0,bL m,m,1,pq Y m1,3,y2S,λc hc=>?_];let G:=fj hc (.tup [.str "num",.int m]);exact q _ _ (.num aX) ((o.same O).same G) (L.trans (f4 (O.trans G)))
 . let%[%[_,xl|_],_,x6|xk]:=id d;apply az (λh=>xk (zZ x h)) ?_;erw[0,x,1,3,λH4 O=>%[0|6]];rw[DG d];apply cz ?_;erw[0,x,1,3,λH5 S5=>%[0|6]];rw[rN d];apply cz ?_;erw[0,y2S,λc hc=>?_];let G:=fj hc (.tup [.str "box",.str x]);exact q _ _ (.box aX) (((o.same O).same S5).same G) (L.trans (f4 (O.trans (S5.trans G))))
def Jc:#[3,f,fd,WE,spNextT C 0]:=by
 let no:∀vs H Q E,¬ spNextT C 0 vs H Q E:=λvs H Q E h=>by
  erw[_,_,_,_,_,t,_,_,_,_,_,_,_,_,h1,_]at h
  have:=t.depth_pos
  omega
 exists 3
def pk(F:#["next_term",jx])(m:mg "next_term"=some (.ref f))(b:Fun K "term_in_bracket" "term_in_bracket" ei g j)(c:mg "term_in_bracket"=some (.ref g))(B:Bl mg)(X:Tx K mg)(T:STxt K mg C)(M:Mths P w K mg base C t u v x y z D dT J L)(d:#[1,"is_name",WB,spTxt jk])(e:#[1,"is_figures",WB,spTxt kQ]):
 ∀n:Nat,#[2*n+3,f,fd,WE,spNextT C n]
 |0=>Jc
 |n+1=>
   let o:=Cal.of F (pk F m b c B X T M d e n) m (λ_ _ _ _ _ _ us hl=>by let%[q,r|1]:=Du hl;rfl)
   Jd F B X T M d e (Cal.of b (Ir b X T M o) c (λ_ _ _ _ _ _ us hl=>by let%[q,r|1]:=Du hl;rfl))
instance spNextN(C:Addr):∀(sc:Addr)(T:Str)(p k:Nat)(x:Str)(r:List Nat),vs=[.ref sc]->ScanAt C H sc T p k->T.length<=1000->p<=T.length->T.cps.toList.drop p=[32]++(cd x++r)->vR r->NmK x->(∀H',ScanAt C H' sc T (p+1+x.length) k->SameBut sc H H'->Q (.str x) H'):=1
def u8:FnScope ["scan","word"] ["scan"] (af lD):=%[|5]
def wV(F:#["next_name",lD])(T:STxt K mg C)(M:Mths P w K mg base C fE fS fT fW fF dE dS dT dW dF)(L:#[1,"is_name",WB,spTxt jk]):#[3,f,fd,["scan"],spNextN C]:=by
 exists u8
 erw[c,Tx,p,k,x,r,1,z,tl,pl,hd,N,ok,q]at h;let O:Room 1 _:=hr.mono #[0];let d:Room 2 _:=hr.mono #[0];refine⟨_,(aa (aQ (bu (pv 0) T.cl M.mT M.gT d M.bT .nil be %[ao|aV]))
  (aa #[aj,1,u8,ci (pv 0) T.cl M.mW M.gW O M.bW .nil be]
  (aa (aG (dO (di (ai L hr #[0] rfl %[1|aV]))) ba au)
  (ac (am (pv 1)))))),?_⟩
 let B:((" ":Str)).length=1:=by decide
 let e:=jB hd pl;let b:=bv hd;simp only[gl,ij,o0]at e b;let%[g,j,m|n]:=id z;erw[0,c,g,j,1,m,n.no3,c,Tx,_,p,0,z,cu (r:=cd x++r) (by rw[hG];exact hd) pl,by rw[B];decide,λH1 o U=>?_];rw[B]at o;let%[t,u,v|y]:=id o;erw[0,c,t,u,1,v,y.no4,c,Tx,_,_,cd x,r,1,o,tl,3,b,dP ok.1.2.1,N,λH2 D Y=>?_];rw[show stl (cd x)=x from ir _];rw[eg]at D;let x6:=ok.2.2.1;erw[0,x,1,3,λH3 J=>%[0|6]];rw[rN ok];apply cz ?_;erw[0,q H3 (D.same J) (U.trans (Y.trans (f4 J)))]
instance spNextF(C:Addr):∀(sc:Addr)(T:Str)(p k:Nat)(m:Int)(r:List Nat),vs=[.ref sc]->ScanAt C H sc T p k->T.length<=1000->p<=T.length->T.cps.toList.drop p=[32]++(cd (bL m)++r)->vR r->0<=m->m<1000000000000->(∀H',ScanAt C H' sc T (p+1+(bL m).length) k->SameBut sc H H'->Q (.int m) H'):=1
def lu:FnScope ["scan","word"] ["scan"] (af iZ):=%[|5]
def rA(F:#["next_figures",iZ])(B:Bl mg)(T:STxt K mg C)(M:Mths P w K mg base C fE fS fT fW fF dE dS dT dW dF)(O:#[1,"is_figures",WB,spTxt kQ]):#[3,f,fd,["scan"],spNextF C]:=by
 exists lu
 erw[c,Tx,p,k,m,r,1,D,tl,pl,hd,U,d,m1,q]at h;let Y:Room 1 _:=hr.mono #[0];let e:Room 2 _:=hr.mono #[0];refine⟨_,(aa (aQ (bu (pv 0) T.cl M.mT M.gT e M.bT .nil be %[ao|aV]))
  (aa #[aj,1,lu,ci (pv 0) T.cl M.mW M.gW Y M.bW .nil be]
  (aa (aG (dO (di (ai O hr #[0] rfl %[1|aV]))) ba au)
  (ac (am (aR eZ rfl B.int hZ %[1|aV])))))),?_⟩
 let J:((" ":Str)).length=1:=by decide
 let g:=jB hd pl;let b:=bv hd;simp only[gl,ij,o0]at g b;let nl:=dQ d m1;let%[j,n,o|t]:=id D;erw[0,c,j,n,1,o,t.no3,c,Tx,_,p,0,D,cu (r:=cd (bL m)++r) (by rw[hG];exact hd) pl,by rw[J];decide,λH1 u B1=>?_];rw[J]at u;let%[v,x,y|z]:=id u;erw[0,c,v,x,1,y,z.no4,c,Tx,_,_,cd (bL m),r,1,u,tl,3,b,tj d,U,λH2 L B2=>?_];rw[show stl (cd (bL m))=bL m from ir _];rw[eg]at L;erw[0,bL m,1,3,λH3 N=>%[0|6]];rw[pw d m1];apply cz ?_;erw[0,bL m,m,1,pq d m1,3,q H3 (L.same N) (B1.trans (B2.trans (f4 N)))]
def iteNT{c A B:Prop}[Decidable c](hc:c)(h:B):if(!decide c)=true then A else B:=by
 rw[j2 hc];exact cz h
def Hr.wd:Hr->Str
 |.fin=>"end" | .go _=>"go" | .iff _ _=>"if" | .set _ _=>"set" | .say _=>"say"
def Hr.rest:Hr->List Nat
 |.fin=>[] | .go n=>[32]++cd (bL n) | .iff t n=>[32]++(t.txt++([32]++cd (bL n))) | .set x t=>[32]++(cd x++([32]++t.txt)) | .say t=>[32]++t.txt
def Hr.codes(r:Hr):r.str.cps.toList=cd r.wd++r.rest:=by
 cases r with
 |fin=>decide
 |go n=>
   rw[show(Hr.go n).str=(("go":Str)++(" ":Str))++bL n from rfl,cq,cq,hG];show(cd "go"++[32])++cd (bL n)=cd "go"++([32]++cd (bL n))
   simp
 |iff t n=>
   rw[show(Hr.iff t n).str=(((("if":Str)++(" ":Str))++t.str)++(" ":Str))++bL n from rfl];simp only[cq,hG];show(((cd "if"++[32])++t.txt)++[32])++cd (bL n)=cd "if"++([32]++(t.txt++([32]++cd (bL n))))
   simp
 |set x t=>
   rw[show(Hr.set x t).str=(((("set":Str)++(" ":Str))++x)++(" ":Str))++t.str from rfl];simp only[cq,hG];show(((cd "set"++[32])++cd x)++[32])++t.txt=cd "set"++([32]++(cd x++([32]++t.txt)))
   simp
 |say t=>
   rw[show(Hr.say t).str=(("say":Str)++(" ":Str))++t.str from rfl,cq,cq,hG];show(cd "say"++[32])++t.txt=cd "say"++([32]++t.txt)
   simp
def my:∀x∈(Wu:List Str),∀c∈x.cps.toList,97<=c/\c<=122:=by decide
def Hr.wd_ok(r:Hr):qF (cd r.wd):=by
 cases r with
 |fin=>exact dP (my "end" ⋯)
 |go n=>exact dP (my "go" ⋯)
 |iff t n=>exact dP (my "if" ⋯)
 |set x t=>exact dP (my "set" ⋯)
 |say t=>exact dP (my "say" ⋯)
def Hr.rest_ok(r:Hr):vR r.rest:=by
 cases r with
 |fin=>exact .inl rfl
 |go n=>exact .inr %[(32),0|.inl rfl]
 |iff t n=>exact .inr %[(32),0|.inl rfl]
 |set x t=>exact .inr %[(32),0|.inl rfl]
 |say t=>exact .inr %[(32),0|.inl rfl]
instance spHRw:∀(r:Hr)(k:Int),vs=[.str r.str,.int k]->r.ok 20->(∀(v:V)(H':Hp),HrAt H' v r->Same H H'->Q v H'):=1
def b7:FnScope ["text","number","scan","word","row"] Wc (af kH):=%[|5]
def uL(F:#["helper_row",kH])(X:Tx K mg)(T:STxt K mg C)(M:Mths P w K mg base C fE fS fT fW fF dE dS dT dW dF)(MK:Mk K C fI)(GI:#[1,fI,aL,WU,spSInit C])(bI:Binds K aL WU [])
 (m5:#[3,"next_name",["scan"],spNextN C])(gy:#[3,"next_figures",["scan"],spNextF C])(df:#[19,"next_term",WE,spNextT C 8]):#[20,f,fd,Wc,spHRw]:=by
 exists b7
 erw[r,k,1,ok,q]at h;erw[tw,gw]at X.within;erw[tp,gp]at X.parts;let Qt:Room 1 _:=hr.mono ⋯;let aT:Room 2 _:=hr.mono ⋯;refine⟨_,(aa #[aj,2,b7,jy MK GI aT rfl T.mgC bI .nil be %[0,1,bQ (v:=.int 8) rfl gw %[|0],bQ (v:=.int 20) rfl gp ⟨_,rfl⟩|aV]]
  (aa #[aj,3,b7,ci (pv 2) T.cl M.mW M.gW Qt M.bW .nil be]
  (aa #[aj,4,b7,aO %[3|aV]]
  (aa (aG (ag aP (pv 3) ao (aq _)) (ac #[aj,4,b7,ax op_catT (pv 4) (aO %[ai m5 hr ⋯ rfl %[2|aV],ai df hr ⋯ rfl %[2,ae|aV]|aV])]) (ac (aG (ag aP (pv 3) ao (aq _)) (ac #[aj,4,b7,ax op_catT (pv 4) (aO %[ai df hr ⋯ rfl %[2,ae|aV]|aV])]) (ac (aG (ag aP (pv 3) ao (aq _)) (ac #[aj,4,b7,ax op_catT (pv 4) (aO %[ai df hr ⋯ rfl %[2,ae|aV],ai gy hr ⋯ rfl %[2|aV]|aV])]) (ac (aG (ag aP (pv 3) ao (aq _)) (ac #[aj,4,b7,ax op_catT (pv 4) (aO %[ai gy hr ⋯ rfl %[2|aV]|aV])]) (ac (aG (ag jY (pv 3) ao (aq _)) ba au)))))))))
  (aa (aQ (ci (pv 2) T.cl M.mF M.gF Qt M.bF .nil be))
  (ac (am (pv 4)))))))),?_⟩
 erw[0,0,λg dx nx a0 br=>?_];let s3:Same H (upd (upd H dx (.own g)) g (.ins C dx [])):=λb o e=>by
  rw[aB (bh e nx),aB (bh e a0)];exact e
 erw[g,dx,r.str,k,_,0,4,4,aX,λH1 S1 B1=>%[1|6]];let N1:Same H H1:=λb o e=>B1 b o (bh e nx) (s3 b o e)
 let tl:r.str.length<=1000:=hQ (Hr.str_len ok) ⋯;let hc:=r.codes;let aH:r.str.length=r.wd.length+r.rest.length:=by
  have:=congrArg List.length hc
  rw[dC,gl,eg]at this;exact this
 let aK:r.str.cps.toList.drop 0=cd r.wd++r.rest:=by rw[Ip];exact hc
 let%[a7,a8,a9|bb]:=id S1;erw[0,g,a7,a8,1,a9,bb.no4,g,r.str,(0),(0),cd r.wd,r.rest,1,S1,tl,kr _,aK,r.wd_ok,r.rest_ok,λH2 S2 B2=>?_];rw[show stl (cd r.wd)=r.wd from ir _];let J:=bv aK;rw[eg]at S2 J;let N2:Same H H2:=λb o e=>B2 b o (bh e nx) (N1 b o e)
 erw[0,y1S,λa ha=>?_];let Ga:=fj ha (.tup [.str r.wd]);let ea:upd H2 a (.tup [.str r.wd]) a=some (.tup [.str r.wd]):=aX;let D:=S2.same Ga;generalize upd H2 a (.tup [.str r.wd])=H3 at Ga ea D;let N3:=N2.trans Ga;let j:∀{x y:Str},x≠y->¬ V.str x=V.str y:=λh=>gg h
 cases r with
 |fin=>
   erw[0,1,0,6];apply az (j (x:="end") ⋯) ?_;erw[0,1,0,6];apply az (j (x:="end") ⋯) ?_;erw[0,1,0,6];apply az (j (x:="end") ⋯) ?_;erw[0,1,0,6];apply az (j (x:="end") ⋯) ?_;erw[0,1,0,6];apply iteNT rfl ?_;let%[bf,bg,bi|bm]:=id D;let el:0+(Hr.fin).wd.length=(Hr.fin).str.length:=by rw[aH];show 0+_=_+0;omega
   rw[el]at D;erw[0,g,bf,bg,1,bi,bm.no5,g,_,0,D,tl,6];erw[0,q _ H3 (.fin ea) N3]
 |go n=>
   erw[0,1,0,6];apply az (j (x:="go") ⋯) ?_;erw[0,1,0,6];apply az (j (x:="go") ⋯) ?_;erw[0,1,0,6];apply az (j (x:="go") ⋯) ?_;erw[0,1,0,6];apply aW rfl ?_;let ab:(Hr.go n).rest.length=1+(bL n).length:=by
    show([32]++cd (bL n)).length=_;rw[gl,eg];rfl
   erw[0,0,g,_,_,_,n,[],1,D,tl,3,by rw[J];show [32]++cd (bL n)=[32]++(cd (bL n)++[]);rw[My],.inl rfl,ok.1,ok.2,λH4 S4 L=>?_];let m:=bY D L _ _ ea;erw[y1S,λb hb=>?_];let u:=fj hb (.tup [.int n]);erw[a,b,2,eS (u _ _ m),eS aX,by simp,y2S,λz=>(by cases z),λ_ p hp=>?_];let N:=fj hp (.tup ([V.str (Hr.go n).wd]++[V.int n]));let B:=(S4.same u).same N;let O:upd (upd H4 b (.tup [.int n])) p (.tup ([V.str (Hr.go n).wd]++[V.int n])) p=some (.tup [.str "go",.int n]):=aX;let N5:=u.trans N;generalize upd (upd H4 b (.tup [.int n])) p (.tup ([V.str (Hr.go n).wd]++[V.int n]))=H5 at B O N5;rw[show 0+(Hr.go n).wd.length+1+(bL n).length=(Hr.go n).str.length by omega]at B;let%[ah,an,ap|ar]:=id B;erw[0,g,ah,an,1,ap,ar.no5,g,_,0,B,tl,6];erw[0,q _ H5 (.go O) λc o e=>N5 _ _ (L c o (bh e nx) (N3 c o e))]
 |say t=>
   erw[0,1,0,6];apply az (j (x:="say") ⋯) ?_;erw[0,1,0,6];apply aW rfl ?_;let ab:(Hr.say t).rest.length=1+t.txt.length:=by
    show([32]++t.txt).length=_;rw[gl];rfl
   let d:t.fit 20:=ok;erw[0,0,g,(1),_,_,_,t,[],1,D,tl,3,by rw[J];show [32]++t.txt=[32]++(t.txt++[]);rw[My],.inl rfl,d.1,d.2.2,by have:=d.2.2;omega,by have:=d.2.1;omega,λv H4 T4 S4 L=>?_];let m:=bY D L _ _ ea;erw[y1S,λb hb=>?_];let u:=fj hb (.tup [v]);erw[a,b,2,eS (u _ _ m),eS aX,by simp,y2S,λz=>(by cases z),λ_ p hp=>?_];let N:=fj hp (.tup ([V.str (Hr.say t).wd]++[v]));let B:=(S4.same u).same N;let O:upd (upd H4 b (.tup [v])) p (.tup ([V.str (Hr.say t).wd]++[v])) p=some (.tup [.str "say",v]):=aX;let N5:=u.trans N;generalize upd (upd H4 b (.tup [v])) p (.tup ([V.str (Hr.say t).wd]++[v]))=H5 at B O N5;rw[show 0+(Hr.say t).wd.length+1+t.txt.length=(Hr.say t).str.length by omega]at B;let%[ah,an,ap|ar]:=id B;erw[0,g,ah,an,1,ap,ar.no5,g,_,0,B,tl,6];erw[0,q _ H5 (.say O (T4.mono (bw N5))) λc o e=>N5 _ _ (L c o (bh e nx) (N3 c o e))]
 |iff t n=>
   erw[0,1,0,6];apply az (j (x:="if") ⋯) ?_;erw[0,1,0,6];apply az (j (x:="if") ⋯) ?_;erw[0,1,0,6];apply aW rfl ?_;let ab:(Hr.iff t n).rest.length=1+(t.txt.length+(1+(bL n).length)):=by
    show([32]++(t.txt++([32]++cd (bL n)))).length=_;simp only[gl,ij,o0,eg]
   erw[d,n0,n1]at ok;let U:(Hr.iff t n).str.cps.toList.drop (0+(Hr.iff t n).wd.length)=[32]++(t.txt++([32]++(cd (bL n)++[]))):=by rw[J,My];rfl
   let Y:=bv (bv U);simp only[ij,o0]at Y;erw[0,0,g,(1),_,_,_,t,0,D,tl,3,U,.inr %[(32),0|.inl rfl],d.1,d.2.2,by have:=d.2.2;omega,by have:=d.2.1;omega,λv H4 T4 S4 L=>?_];let m:=bY D L _ _ ea;erw[0,g,_,_,_,n,[],1,S4,tl,3,Y,.inl rfl,n0,n1,λH5 B B5=>?_];let as:=bY S4 B5 _ _ m;let T5:=T4.mono (bY S4 B5);erw[y2S,λb hb=>?_];let u:=fj hb (.tup [v,.int n]);erw[a,b,2,eS (u _ _ as),eS aX,by simp,y3S,λz=>(by cases z),λ_ p hp=>?_];let N:=fj hp (.tup ([V.str (Hr.iff t n).wd]++[v,V.int n]));let S6:=(B.same u).same N;let O:upd (upd H5 b (.tup [v,.int n])) p (.tup ([V.str (Hr.iff t n).wd]++[v,V.int n])) p=some (.tup [.str "if",v,.int n]):=aX;let N6:=u.trans N;generalize upd (upd H5 b (.tup [v,.int n])) p (.tup ([V.str (Hr.iff t n).wd]++[v,V.int n]))=H6 at S6 O N6;rw[show 0+(Hr.iff t n).wd.length+1+t.txt.length+1+(bL n).length=(Hr.iff t n).str.length by omega]at S6;let%[av,aw,aA|aC]:=id S6;erw[0,g,av,aw,1,aA,aC.no5,g,_,0,S6,tl,6];erw[0,q _ H6 (.iff O (T5.mono (bw N6))) λc o e=>N6 _ _ (B5 c o (bh e nx) (L c o (bh e nx) (N3 c o e)))]
 |set x t=>
   erw[0,1,0,6];apply aW rfl ?_;let ab:(Hr.set x t).rest.length=1+(x.length+(1+t.txt.length)):=by
    show([32]++(cd x++([32]++t.txt))).length=_;simp only[gl,ij,o0,eg]
   erw[bo,d]at ok;let U:(Hr.set x t).str.cps.toList.drop (0+(Hr.set x t).wd.length)=[32]++(cd x++([32]++(t.txt++[]))):=by rw[J,My];rfl
   let Y:=bv (bv U);simp only[ij,o0,eg]at Y;erw[0,0,g,_,_,_,x,0,D,tl,3,U,.inr %[(32),0|.inl rfl],bo,λH4 S4 L=>?_];let m:=bY D L _ _ ea;erw[0,g,(1),_,_,_,t,[],1,S4,tl,3,Y,.inl rfl,d.1,d.2.2,by have:=d.2.2;omega,by have:=d.2.1;omega,λv H5 T5 B B5=>?_];let as:=bY S4 B5 _ _ m;erw[y2S,λb hb=>?_];let u:=fj hb (.tup [.str x,v]);erw[a,b,2,eS (u _ _ as),eS aX,by simp,y3S,λz=>(by cases z),λ_ p hp=>?_];let N:=fj hp (.tup ([V.str (Hr.set x t).wd]++[.str x,v]));let S6:=(B.same u).same N;let O:upd (upd H5 b (.tup [.str x,v])) p (.tup ([V.str (Hr.set x t).wd]++[.str x,v])) p=some (.tup [.str "set",.str x,v]):=aX;let N6:=u.trans N;generalize upd (upd H5 b (.tup [.str x,v])) p (.tup ([V.str (Hr.set x t).wd]++[.str x,v]))=H6 at S6 O N6;rw[show 0+(Hr.set x t).wd.length+1+x.length+1+t.txt.length=(Hr.set x t).str.length by omega]at S6;let%[av,aw,aA|aC]:=id S6;erw[0,g,av,aw,1,aA,aC.no5,g,_,0,S6,tl,6];erw[0,q _ H6 (.set O (T5.mono (bw N6))) λc o e=>N6 _ _ (B5 c o (bh e nx) (L c o (bh e nx) (N3 c o e)))]
def Tm.txt_hi:∀t:Tm,t.ok->∀c∈t.txt,32<=c
 |.num n,h,c,hc=>by have:=ik h.1 c hc;omega
 |.box x,h,c,hc=>by have:=h.1.2.1 c hc;omega
 |.plain w,h,c,hc=>by have:=(lP w h).2.2.1 c hc;omega
 |.ask w a,⟨h,h1⟩,c,hc=>by
   let d:c∈[40]++(cd w++([32]++(a.txt++[41]))):=hc;simp only[List.mem_append,QA]at d;rcases d with e | e | e | e | e
   . omega
   . have:=(xJ w h).2.2.1 c e;omega
   . omega
   . exact Tm.txt_hi a h1 c e
   . omega
 |.op o a b,⟨h,h1,h2⟩,c,hc=>by
   let d:c∈[40]++(cd o++([32]++(a.txt++([32]++(b.txt++[41]))))):=hc;simp only[List.mem_append,QA]at d;rcases d with e | e | e | e | e | e | e
   . omega
   . have:=(rH o h).2.1 c e;omega
   . omega
   . exact Tm.txt_hi a h1 c e
   . omega
   . exact Tm.txt_hi b h2 c e
   . omega
def Ks{r:Hr}(ok:r.ok 20):∀c∈cd r.str,32<=c:=by
 intro c hc;let b:c∈cd r.wd++r.rest:=by rw[←r.codes];exact hc
 let nm:∀{n:Int},0<=n->c∈cd (bL n)->32<=c:=λh0 h=>by have:=ik h0 c h;omega
 rcases qH0 b with h | h
 . have:=r.wd_ok
   let h5:∀x∈(Wu:List Str),c∈cd x->32<=c:=λx d hc=>by have:=my x d c hc;omega
   cases r with
   |fin=>exact h5 "end" ⋯ h
   |go n=>exact h5 "go" ⋯ h
   |iff t n=>exact h5 "if" ⋯ h
   |set x t=>exact h5 "set" ⋯ h
   |say t=>exact h5 "say" ⋯ h
 . cases r with
   |fin=>cases h
   |go n=>
     let h':c∈[32]++cd (bL n):=h;simp only[List.mem_append,QA]at h';rcases h' with e | e
     . omega
     . exact nm ok.1 e
   |iff t n=>
     let h':c∈[32]++(t.txt++([32]++cd (bL n))):=h;simp only[List.mem_append,QA]at h';rcases h' with e | e | e | e
     . omega
     . exact Tm.txt_hi t ok.1.1 c e
     . omega
     . exact nm ok.2.1 e
   |set x t=>
     let h':c∈[32]++(cd x++([32]++t.txt)):=h;simp only[List.mem_append,QA]at h';rcases h' with e | e | e | e
     . omega
     . have:=ok.1.1.2.1 c e;omega
     . omega
     . exact Tm.txt_hi t ok.2.1 c e
   |say t=>
     let h':c∈[32]++t.txt:=h;simp only[List.mem_append,QA]at h';rcases h' with e | e
     . omega
     . exact Tm.txt_hi t (show t.fit 20 from ok).1 c e
def ub(g:ur b)(h0:b≠[]):Txt.split (ng b) ("\n":Str)=b.map Hr.str:=by
 unfold ng;rw[tO,jC];apply gR (c:=10) (λz=>h0 (List.map_eq_nil_iff.mp z)) λp d hc=>?_
 let%[r,hr|1]:=List.mem_map.mp d
 have:=Ks (g.2 r hr) 10 hc
 omega
def DE(g:ur b)(h0:b≠[]):ng b≠"":=λe=>by
 let h1:=ub g h0;rw[e,show Txt.split ("":Str) ("\n":Str)=[("":Str)]from by decide]at h1;cases b with
 |nil=>exact h0 rfl
 |cons r l=>
   let h2:=(List.cons.inj h1).1;let h3:=r.codes;rw[←h2]at h3;let h4:cd r.wd=[]:=(List.append_eq_nil_iff.mp h3.symm).1;let h5:∀x∈(Wu:List Str),cd x≠[]:=by decide
   cases r with
   |fin=>exact h5 "end" ⋯ h4
   |go n=>exact h5 "go" ⋯ h4
   |iff t n=>exact h5 "if" ⋯ h4
   |set x t=>exact h5 "set" ⋯ h4
   |say t=>exact h5 "say" ⋯ h4
instance spReadH:∀rs:List Hr,vs=[.str (ng rs)]->ur rs->(∀(a:Addr)(tv:List V)(H':Hp),H' a=some (.tup tv)->RowsAt H' tv rs->Same H H'->Q (.ref a) H'):=1
def gB:FnScope ["text","helper","number","row"] WB (af jJ):=%[|5]
def tI(F:#["read_helper",jJ])(B:Bl mg)(X:Tx K mg)(kU:#[20,"helper_row",Wc,spHRw]):#[21,f,fd,WB,spReadH]:=by
 exists gB
 erw[d,1,g,q]at h;erw[tm,gm]at X.rows;refine⟨_,(aa (aG (ag aP (pv 0) ao (aq _)) (ac (am (aO aV))) au)
  (aa #[aj,1,gB,cY aV]
  (aa (cV n7 rfl (Bt rfl B.enumerate (bZ pu QX QY jZ (pv 0) %[ao|aV])) (om rfl (dB (bn (i:=2) gB.nd rfl (.inl rfl)) (dB (bn (i:=3) gB.nd rfl (.inl rfl)) kJ))) (aa (aG (ag aP (pv 2) (bQ (v:=.int 60) rfl gm ⟨_,rfl⟩) (aq _)) ba au)
   (ac (aQ (bZ qq sk ti ca (pv 1) %[ai kU hr ⋯ rfl %[3,2|aV]|aV])))))
  (ac (am (aR aY rfl B.tuple bq %[1|aV])))))),?_⟩
 let tl:=Hd g;let an:=g.1;erw[0,1,0,6]
 by_cases D:d=[]
 . subst D;apply aW (by show V.str (ng [])=V.str "";decide) ?_;erw[kr _,λt n=>?_];exact q t [] _ aX RowsAt.nil (fj n _)
 apply az (λz=>DE g D (EJ z)) ?_;erw[kr _,λL hL=>?_];let GL:=fj hL (.lst []);let J:upd H L (.lst []) L=some (.lst []):=aX;generalize upd H L (.lst [])=H1 at GL J;let ts:=ub g D;erw[0,1,2,⋯,3,by rw[ts,fx];omega,λa M=>?_];rw[ts];let N:=fj M (.lst ((d.map Hr.str).map V.str));let ga:upd H1 a (.lst ((d.map Hr.str).map V.str)) a=some (.lst ((d.map Hr.str).map V.str)):=aX;let aL:a≠L:=λz=>by rw[z,J]at M;cases M
 generalize upd H1 a (.lst ((d.map Hr.str).map V.str))=H2 at N ga;let O:=N _ _ J;refine⟨a,rfl,%[_|fy ga],yV (K:=K) (xs:=(d.map Hr.str).map V.str) (λi σ C=>∃(U Y:Option V)(j:List V),σ=[some (.str (ng d)),some (.ref L),U,Y]/\C L=some (.lst j)/\RowsAt C j (d.take i)/\SameBut L H2 C)
  %[_,_,[],1,O,RowsAt.nil|SameBut.refl _ _] (λi σ C _ Qn=>by erw[_,_,_,_,_,_,h]at Qn;exact fy (h _ _ aL ga)) ?_ ?_⟩
 . rintro i z σ H3 t hz ⟨U,Y,j,rfl,c,u,S3⟩ n;let hi:=(Qs hz).1;rw[fx,fx]at hi;rw[kv,kv,Option.map_map]at hz;let%[r,x|1]:=qs hz;let Gt:=fj n (.tup [.int (i:Int),.str r.str]);let ab:=Gt _ _ c;let vl:=u.1;rw[lw]at vl;erw[t,0,eS aX,1,_,0,2,6];erw[0,1,0,6];apply az (λz=>by have:=V.int.inj z;omega) ?_;erw[0,.inl %[1,_|fy ab],0,0,r,0,g.2 r (lr x),λv H4 ra S4=>?_];let m:Same H3 H4:=Gt.trans S4;let y:=m _ _ c;let kp:bO H4 (upd H4 L (.lst (j++[v]))):=GO y;erw[L,2,y,aN #[0],6];erw[_,_,j++[v],1,aX,6,6]
   . rw[nh,x];exact((u.mono (bw m)).mono kp).snoc (ra.mono kp)
   . exact S3.trans ((f4 m).trans (SameBut.upd _))
 . rintro σ H3 ⟨U,Y,j,rfl,c,u,S3⟩;rw[fx,fx,mu]at u;erw[0,L,0,.inl %[fy c|λt n=>?_]];let ah:Same H H3:=λb o e=>S3 b o (bh e hL) (N _ _ (GL _ _ e))
   exact q t j _ aX (u.mono (bw (fj n _))) (ah.trans (fj n _))
def Hr.leads(n:Nat):Hr->Prop
 |.go i=>0<=i/\i<(n:Int) | .iff _ i=>0<=i/\i<(n:Int) | _=>True
instance spLook:∀(a:Addr)(tv:List V)(rs:List Hr),vs=[.ref a]->H a=some (.tup tv)->RowsAt H tv rs->(∀r∈rs,r.leads rs.length)->(∀H',Same H H'->Q (.bl true) H'):=1
def iQ:FnScope ["helper","number","row"] WT (af jK):=%[|5]
def inV_ig:inV (.str "if") [.str "if",.str "go"]=true/\inV (.str "go") [.str "if",.str "go"]=true/\inV (.str "set") [.str "if",.str "go"]=false/\inV (.str "say") [.str "if",.str "go"]=false/\inV (.str "end") [.str "if",.str "go"]=false:=by decide
def Jr{n:Nat}(h:HrAt H v r)(l:r.leads n):∃(a:Addr) (x:Str) (xs:List V),v=.ref a/\H a=some (.tup (.str x::xs))/\(inV (.str x) [.str "if",.str "go"]=false∨inV (.str x) [.str "if",.str "go"]=true/\∃i:Int,atI (.str x::xs) (-1)=some (.int i)/\0<=i/\i<(n:Int)):=by
 cases h with
 |fin e=>erw[_,_,0,e,.inl inV_ig.2.2.2.2]
 |go e=>erw[_,_,0,e,.inr %[inV_ig.2.1,0|l]]
 |iff e _=>erw[_,_,0,e,.inr %[inV_ig.1,0|l]]
 |set e _=>erw[_,_,0,e,.inl inV_ig.2.2.1]
 |say e _=>erw[_,_,0,e,.inl inV_ig.2.2.2.1]
def tJ(F:#["look_helper",jK])(B:Bl mg):#[1,f,fd,WT,spLook]:=by
 exists iQ
 erw[a,C,D,1,e,R,ld,q]at h;refine⟨_,(aa (cV n7 rfl (tD rfl B.enumerate (pv 0)) (om rfl (dB (bn (i:=1) iQ.nd rfl (.inl rfl)) (dB (bn (i:=2) iQ.nd rfl (.inl rfl)) kJ))) (ac (aG (PW.pt (qi (ag eP (aI ix_tup (pv 2) ae #[1]) (aO %[ao,ao|aV]) (by rfl')) (oR (dO (yc vv dX ae (aI ix_tup (pv 2) (Bu vT ae) #[1]) (aE aD rfl B.len hR %[0|aV])))))) ba au)))
  (ac (am jz))),?_⟩
 erw[0,a,1,%[_|eS e],qA (K:=K) (xs:=C) (λi σ o=>∃g j:Option V,σ=[some (.ref a),g,j]/\Same H o) %[_,0|Same.refl _] (λi σ o _ J=>by erw[_,_,_,h]at J;exact eS (h _ _ e)) ?_ ?_]
 . rintro i z σ M t u ⟨g,j,rfl,m⟩ N;let v:i<D.length:=by rw[←R.1];exact(Qs u).1
   let G:=fj N (.tup [.int (i:Int),z]);let b:=m.trans G;let%[r,x,xs,1,y|cs]:=Jr ((R.2 i z _ u (j3 v)).mono (bw b)) (ld _ (vr v));erw[t,0,eS aX,1,_,0,2,6];erw[0,r,_,(0),0,1,eS y,at0 ..,y2S,λL O=>?_];let d:=fj O (.tup [.str "if",.str "go"]);erw[L,0,.inr (eS aX),1,1,0,6];rcases cs with c | ⟨c,n,hl,n0,n1⟩
   . rw[c];exact cz %[_,0|b.trans d]
   . rw[c];apply dZ ?_;erw[0,0,r,_,-1,0,1,eS (d _ _ y),hl,2,0,6];rw[j2 n0];apply dZ ?_;erw[0,a,0,.inr (eS (d _ _ (b _ _ e))),2,0,6];rw[R.1,j2 n1];exact cz ⟨_,_,rfl,b.trans d⟩
 . rintro σ M ⟨g,j,rfl,m⟩;exact q _ m
def Tm.gs(m:Int)(t:Tm):Prop:=t.ok/\(t.size:Int)<=m
def gs1{t:Tm}(h:t.ok)(s:t.size=1):t.gs 1:=%[h|3]
def Tm.gs.up{t:Tm}{m n:Int}(h:t.gs m)(e:m<=n):t.gs n:=%[h.1|by have:=h.2;omega]
def Tm.ok_good:∀t:Tm,t.ok->t.good
 |.num _,_=>trivial
 |.box _,_=>trivial
 |.plain _,h=>h
 |.ask _ a,h=>%[h.1|Tm.ok_good a h.2]
 |.op _ a b,h=>%[h.1,Tm.ok_good a h.2.1|Tm.ok_good b h.2.2]
instance spTerm(n:Nat):∀(f b:Addr)(bs:List Str)(room deep:Int),vs=[.ref f,.ref b,.int room,.int deep]->FeedAt H f->H b=some (.lst (bs.map V.str))->b≠f->1<=bs.length->bs.length<=100->(∀x∈bs,NmK x)->1<=room->room<=100->1<=deep->deep<=(n:Int)->(∀(v:V)(t:Tm)(H':Hp),TmAt H' v t->t.gs room->(t.depth:Int)<=deep->FeedAt H' f->SameBut f H H'->Q v H'):=1
def jt:FnScope ["_law_feed_here","_law_boxes","_law_room","_law_deep","_law_form","_law_plain","_law_more","_law_one"] Wd (af oN):=%[|5]
def IC:∀c∈(("+-*/=<":Str)).cps.toList,(%[|#[c]]:Str)∈signW:=by decide
def ER:(("+-*/=<":Str)).cps.toList.length=6:=by decide
instance tLeaf(Dn:Ends)(σ:St)(H:Hp):∀(x2 x3 x5 x6 x7:Option V)(f b:Addr)(bs:List Str)(fm:Int),σ=[some (.ref f),some (.ref b),x2,x3,some (.int fm),x5,x6,x7]->FeedAt H f->H b=some (.lst (bs.map V.str))->b≠f->1<=bs.length->bs.length<=100->(∀x∈bs,NmK x)->(∀(v:V)(t:Tm)(H':Hp),TmAt H' v t->t.gs 1->t.depth=1->FeedAt H' f->SameBut f H H'->Dn.rt v H'):=0
instance tAskT(n:Nat)(Dn:Ends)(σ:St)(H:Hp):∀(x4 x5 x6 x7:Option V)(f b:Addr)(bs:List Str)(room deep:Int),σ=[some (.ref f),some (.ref b),some (.int room),some (.int deep),x4,x5,x6,x7]->FeedAt H f->H b=some (.lst (bs.map V.str))->b≠f->1<=bs.length->bs.length<=100->(∀x∈bs,NmK x)->2<=room->room<=100->2<=deep->deep<=(n:Int)+1->(∀(v:V)(t:Tm)(H':Hp),TmAt H' v t->t.gs room->(t.depth:Int)<=deep->FeedAt H' f->SameBut f H H'->Dn.rt v H'):=0
structure PSW(X:Cx)(st:List Stmt)(t:TS):Prop where
 out:PSs X st t
def Kt{pos:Pos}(hc:PT X c tc)(d:PSW X a t)(e:PSs X b u):PS X (.If c a b pos) (Kk tc t u):=aG hc d.out e
def Gy{X:Cx}{i:Nat}{x:Str}{d pos p:Pos}{t':TS}(e:X.N.Nodup)(g:X.N[i]?=some x)(j:Loc X.env.scope x)(h1:PE X e1 t1)(h2:PE X e2 m)(h3:PE X e3 n)(h4:PE X c t4)(h5:PE X b o)(hr:PSs X rest u)
 (hw:∀D σ H,t' D σ H->Ki (ED (tLst (qH t1 (qH m (qH n (qH t4 (qH o Ck)))))) (yU i)) u D σ H)
 (s1:starEach [e1,e2,e3,c,b] X.env=(false,eval e1 X.env)::starEach [e2,e3,c,b] X.env:=by rfl)(q:starEach [e2,e3,c,b] X.env=(false,eval e2 X.env)::starEach [e3,c,b] X.env:=by rfl)(r:starEach [e3,c,b] X.env=(false,eval e3 X.env)::starEach [c,b] X.env:=by rfl)(t:starEach [c,b] X.env=(false,eval c X.env)::starEach [b] X.env:=by rfl)(v:starEach [b] X.env=(false,eval b X.env)::starEach [] X.env:=by rfl)
 (hf:X.fn x=true∨X.env.scope.names.lookup x=some .local:=by first | exact .inl rfl | exact .inr rfl):PSW X (.Assign [.Name x d] (.List [e1,e2,e3,c,b] p) pos::rest) t':=
 %[|fb (aa (aj e g j (cY (aJ h1 (aJ h2 (aJ h3 (aJ h4 (aJ h5 aV v) t) r) q) s1)) rfl hf) hr) hw]
def Gx{n:Nat}(F:Fun K "_law_term" "_law_term" oN fA fd)(B:Bl mg)(a7:#[1,"_law_take",WF,spTake])(fD:#[n+2,"_law_term",Wd,spTerm n]):#[n+3,fA,fd,Wd,spTerm (n+1)]:=by
 exists jt
 erw[f,b,bs,j,m,1,F0,hb,o,U,Y,nk,r1,r2,d1,d2,q]at h;let M:(10:Int) ^ (12:Int).toNat=1000000000000:=by decide
 refine⟨_,(aa #[aj,4,jt,ai a7 hr #[0] rfl %[0,ae|aV]]
  (aa (Kt (PW.pt (eO (ag dX (pv 2) ae (aq _)) (eO (ag dX (pv 3) ae (aq _)) (dL (ag dX (pv 4) ae (aq _)))))) (Gy (t':=tLeaf) (i:=5) jt.nd rfl (.inl rfl) (aO %[ao|aV]) (aO %[ao|aV]) (aO %[ao|aV]) (aO %[ao,ai a7 hr #[0] rfl %[0,ae|aV]|aV]) (aO %[ao,ai a7 hr #[0] rfl %[0,ax FE ae ae|aV]|aV])
   (aa (aG (ag aP (pv 4) ae (aq _)) (ac (am (aO %[ao,aI ix_list (pv 1) (ai a7 hr #[0] rfl %[0,aE (x:="len") aD rfl B.len hR %[1|aV]|aV]) #[1]|aV]))) au)
   (ac (am (aI ix_list (pv 5) (ai a7 hr #[0] rfl %[0,ae|aV]) #[1])))) (by
    rintro Dn σ H ⟨x2,x3,x5,x6,x7,f,b,bs,fm,rfl,F0,hb,o,U,Y,nk,q⟩;erw[y1S,λr aH=>%[y1S|λp2 aK=>%[y1S|λu aL=>?_]]];let g1:=fj aH (.tup [.str "round"]);let g2:=fj aK (.tup [.str "due"]);let g3:=fj aL (.tup [.str "asked"]);let e1:upd (upd (upd H r (.tup [.str "round"])) p2 (.tup [.str "due"])) u (.tup [.str "asked"]) r=some (.tup [.str "round"]):=g3 _ _ (g2 _ _ aX);let e2:upd (upd (upd H r (.tup [.str "round"])) p2 (.tup [.str "due"])) u (.tup [.str "asked"]) p2=some (.tup [.str "due"]):=g3 _ _ aX;let e3:upd (upd (upd H r (.tup [.str "round"])) p2 (.tup [.str "due"])) u (.tup [.str "asked"]) u=some (.tup [.str "asked"]):=aX;let S3:=g1.trans (g2.trans g3);generalize upd (upd (upd H r (.tup [.str "round"])) p2 (.tup [.str "due"])) u (.tup [.str "asked"])=H3 at e1 e2 e3 S3;erw[0,f,(5),1,F0.same S3,4,4,λw1 H4 a0 a1 F4 B4=>%[y2S|λD aT=>?_]];let k4:=bj (F0.same S3) B4;let g4:=fj aT (.tup [.str "num",.int w1]);let e4:upd H4 D (.tup [.str "num",.int w1]) D=some (.tup [.str "num",.int w1]):=aX;generalize upd H4 D (.tup [.str "num",.int w1])=H5 at g4 e4;erw[0,2,%[4,4|4],f,0,F4.same g4,(by show(0:Int)<10 ^ (12:Int).toNat;rw[M];decide),(by show(10:Int) ^ (12:Int).toNat<2 ^ 63;rw[M];decide),λw2 H6 c0 c1 F6 B6=>%[y2S|λp5 a8=>%[y5S|λL hL=>?_]]];let c1:w2<1000000000000:=by rw[←M];exact c1
    let k6:=bj (F4.same g4) B6;let g5:=fj a8 (.tup [.str "num",.int w2]);let g6:=fj hL (.lst [.ref r,.ref p2,.ref u,.ref D,.ref p5]);let e5:upd (upd H6 p5 (.tup [.str "num",.int w2])) L (.lst [.ref r,.ref p2,.ref u,.ref D,.ref p5]) p5=some (.tup [.str "num",.int w2]):=g6 _ _ aX;let eL:upd (upd H6 p5 (.tup [.str "num",.int w2])) L (.lst [.ref r,.ref p2,.ref u,.ref D,.ref p5]) L=some (.lst [.ref r,.ref p2,.ref u,.ref D,.ref p5]):=aX;let F7:=F6.same (g5.trans g6);let S7:SameBut f H (upd (upd H6 p5 (.tup [.str "num",.int w2])) L (.lst [.ref r,.ref p2,.ref u,.ref D,.ref p5])):=(f4 S3).trans (B4.trans ((f4 g4).trans (B6.trans (f4 (g5.trans g6)))));let Lf:L≠f:=(F6.same g5).ne hL;let J:bO H5 (upd (upd H6 p5 (.tup [.str "num",.int w2])) L (.lst [.ref r,.ref p2,.ref u,.ref D,.ref p5])):=λa xs e=>(g5.trans g6) _ _ (k6 _ _ e)
    let J3:bO H3 (upd (upd H6 p5 (.tup [.str "num",.int w2])) L (.lst [.ref r,.ref p2,.ref u,.ref D,.ref p5])):=λa xs e=>J _ _ (g4 _ _ (k4 _ _ e))
    let ah:=J3 _ _ e1;let an:=J3 _ _ e2;let ap:=J3 _ _ e3;let ar:=J _ _ e4;generalize upd (upd H6 p5 (.tup [.str "num",.int w2])) L (.lst [.ref r,.ref p2,.ref u,.ref D,.ref p5])=H7 at ah an ap ar e5 eL F7 S7;let as:=S7 _ _ o hb;clear J J3 e1 e2 e3 e4 k4 k6;erw[0,1,0,6]
    by_cases c:fm=3
    . apply aW (congrArg V.int c) ?_;let bl:(bs.map V.str).length=bs.length:=fx _;erw[0,0,0,b,0,.inl (fy as),f,0,F7,3,3,λd H8 d0 d1 F8 B8=>?_];let%[v,hv|vm]:=pJ (l:=bs.map V.str) (i:=d) d0 d1;let%[x,hx|1]:=List.mem_map.mp vm;erw[b,_,2,fy (B8 _ _ o as),hv,y2S,λp8 a9=>?_];let g8:=fj a9 (.tup [.str "box",.str x]);exact q _ (.box x) _ (.box aX) (gs1 (nk x hx) rfl) rfl (F8.same g8) (S7.trans (B8.trans (f4 g8)))
    . apply az (λz=>c (V.int.inj z)) ?_;erw[0,0,f,(5),1,F7,4,4,λd H8 d0 d1 F8 B8=>?_];let k8:=bj F7 B8;let N:=B8 _ _ Lf eL;let S8:=S7.trans B8
      have:d=0∨d=1∨d=2∨d=3∨d=4:=#[0]
      rcases this with rfl | rfl | rfl | rfl | rfl
      . erw[L,_,(0),.ref r,1,1,fy N,1,q _ (.plain "round") _ (.plain (k8 _ _ ah)) (gs1 (show("round":Str)∈plainW by decide) rfl) rfl F8 S8]
      . erw[L,_,(1),.ref p2,1,1,fy N,1,q _ (.plain "due") _ (.plain (k8 _ _ an)) (gs1 (show("due":Str)∈plainW by decide) rfl) rfl F8 S8]
      . erw[L,_,(2),.ref u,1,1,fy N,1,q _ (.plain "asked") _ (.plain (k8 _ _ ap)) (gs1 (show("asked":Str)∈plainW by decide) rfl) rfl F8 S8]
      . erw[L,_,(3),.ref D,1,1,fy N,1,q _ (.num w1) _ (.num (k8 _ _ ar)) (gs1 %[a0|3] rfl) rfl F8 S8]
      . erw[L,_,(4),.ref p5,1,1,fy N,1,q _ (.num w2) _ (.num (k8 _ _ e5)) (gs1 %[c0|c1] rfl) rfl F8 S8])) au)
  (aa (aG (PW.pt (eO (ag dX (pv 4) ae (aq _)) (dL (ag dX (pv 2) ae (aq _))))) (fb (t':=tAskT n) (ac (am (aO %[aI ix_list (cY %[ao,ao|aV]) (ai a7 hr #[0] rfl %[0,ae|aV]) #[1],ai fD hr (fz _) rfl %[0,1,ax bz (pv 2) ae,ax bz (pv 3) ae|aV]|aV]))) (by
   rintro Dn σ H ⟨x4,x5,x6,x7,f,b,bs,j,m,rfl,F0,hb,o,U,Y,nk,r1,r2,d1,d2,q⟩;erw[y2S,λL hL=>?_];let gL:=fj hL (.lst [.str "coin",.str "true"]);let eL:upd H L (.lst [.str "coin",.str "true"]) L=some (.lst [.str "coin",.str "true"]):=aX;let Lf:L≠f:=F0.ne hL;generalize upd H L (.lst [.str "coin",.str "true"])=H1 at gL eL;erw[0,f,(2),1,F0.same gL,4,4,λd H2 d0 bo F2 B2=>?_];let aw:∃aw:Str,aw∈askW/\atI [V.str "coin",.str "true"] d=some (.str aw):=by
    have:d=0∨d=1:=#[0]
    rcases this with rfl | rfl
    . erw["coin",4,at0 ..]
    . erw["true",4,at1 ..]
   erw[aw,bb,bf]at aw;erw[L,_,2,fy (B2 _ _ Lf eL),bf,6];let ab:=B2 _ _ o (gL _ _ hb);refine⟨_,rfl,_,rfl,_,rfl,_,_,rfl,rfl,_,rfl,_,_,rfl,rfl,f,b,bs,j-1,m-1,rfl,F2,ab,o,U,Y,nk,#[0],#[0],#[0],#[0],λv t H3 T3 av br F3 B3=>?_⟩;erw[y2S,λp hp=>?_];let gp:=fj hp (.tup [.str aw,v]);let ed:((Tm.ask aw t).depth:Int)=(t.depth:Int)+1:=by show((t.depth+1:Nat):Int)=_;omega
   exact q _ (.ask aw t) _ (.ask aX (T3.mono (bw gp))) %[%[bb|av.1]|by have:=av.2;show((t.size+1:Nat):Int)<=j;omega] #[0] (F3.same gp) ((f4 gL).trans (B2.trans (B3.trans (f4 gp)))))) au)
  (aa #[aj,6,jt,ax aU ae (ai a7 hr #[0] rfl %[0,ax bz (pv 2) ae|aV])]
  (aa #[aj,7,jt,ai fD hr (fz _) rfl %[0,1,6,ax bz (pv 3) ae|aV]]
  (ac (am (aO %[ao,aI tX ao (ai a7 hr #[0] rfl %[0,ae|aV]) #[1],7,ai fD hr (fz _) rfl %[0,1,ax bz (ax bz (pv 2) ae) (pv 6),ax bz (pv 3) ae|aV]|aV])))))))),?_⟩
 erw[0,f,(9),1,F0,4,4,λfm H1 m0 m9 F1 B1=>?_];let y:=B1 _ _ o hb;let O:∀(v:V)(t:Tm)(C:Hp),TmAt C v t->t.gs 1->t.depth=1->FeedAt C f->SameBut f H1 C->Q v C:=λv t C T g d FF BB=>q v t C T (g.up r1) #[0] FF (B1.trans BB)
 erw[0,2,0,6]
 by_cases c1:j<2
 . exact aW c1 (dZ %[_,_,_,_,_,f,b,bs,fm,1,F1,y,o,U,Y,nk|O])
 apply az c1 %[0,2,0|6]
 by_cases c2:m<2
 . exact aW c2 (dZ %[_,_,_,_,_,f,b,bs,fm,1,F1,y,o,U,Y,nk|O])
 apply az c2 %[0,2,0|6]
 by_cases c3:fm<4
 . exact aW c3 %[_,_,_,_,_,f,b,bs,fm,1,F1,y,o,U,Y,nk|O]
 apply az c3 ?_;let ask:∀(v:V)(t:Tm)(C:Hp),TmAt C v t->t.gs j->(t.depth:Int)<=m->FeedAt C f->SameBut f H1 C->Q v C:=λv t C T g d FF BB=>q v t C T g d FF (B1.trans BB)
 erw[0,2,0,6]
 by_cases c4:fm<6
 . exact aW c4 (dZ %[_,_,_,_,f,b,bs,j,m,1,F1,y,o,U,Y,nk,3,r2,3,3|ask])
 apply az c4 %[0,2,0|6]
 by_cases c5:j<3
 . exact aW c5 %[_,_,_,_,f,b,bs,j,m,1,F1,y,o,U,Y,nk,3,r2,3,3|ask]
 apply az c5 ?_;erw[0,0,2,f,j-2,1,F1,3,3,λd3 H2 a0 a1 F2 B2=>?_];erw[2,6];let ab:=B2 _ _ o y;erw[0,0,0,0,2,f,b,bs,1+d3,m-1,1,F2,ab,o,U,Y,nk,3,3,3,3,λv1 t1 H3 T1 aA bt F3 B3=>?_];let bg:=B3 _ _ o ab;erw[0,f,(6),1,F3,4,4,λd4 H4 g0 g1 F4 B4=>?_];let%[c,hc|hm]:=pJ (l:=(("+-*/=<":Str)).cps.toList) (i:=d4) g0 (by rw[ER];exact g1);let bi:=B4 _ _ o bg;erw[_,2,bc ⋯,hc,0,6];erw[0,0,0,2,0,2,0,2,f,b,bs,j-1-(1+d3),m-1,1,F4,bi,o,U,Y,nk,3,3,3,3,λv2 t2 H5 T2 aC bx F5 B5=>?_];let bm:bO H3 H5:=λa ys e=>bj F4 B5 _ _ (bj F3 B4 _ _ e)
 erw[y4S,λp hp=>?_];let gp:=fj hp (.tup [.str "op",.str %[|#[c]],v1,v2]);let ed:((Tm.op ⟨#[c]⟩ t1 t2).depth:Int)<=m:=by
  show((max t1.depth t2.depth+1:Nat):Int)<=m;omega
 exact q _ (.op %[|#[c]] t1 t2) _ (.op aX (T1.mono λa xs e=>gp _ _ (bm _ _ e)) (T2.mono (bw gp))) %[%[IC c hm,aA.1|aC.1]|by have:=aA.2;have:=aC.2;show((t1.size+t2.size+1:Nat):Int)<=j;omega] ed (F5.same gp) (B1.trans (B2.trans (B3.trans (B4.trans (B5.trans (f4 gp))))))
def Gw:#[2,f,fd,Wd,spTerm 0]:=by
 let no:∀vs H Q E,¬ spTerm 0 vs H Q E:=λvs H Q E h=>by
  erw[_,_,_,_,_,_,_,_,_,_,_,_,_,_,h1,h2,_]at h;omega
 exists 3
def vz(F:#["_law_term",oN])(B:Bl mg)(m:mg "_law_term"=some (.ref f))(b:#[1,"_law_take",WF,spTake]):
 ∀n:Nat,#[n+2,f,fd,Wd,spTerm n]
 |0=>Gw
 |n+1=>Gx F B b (Cal.of F (vz F B m b n) m (λ_ _ _ _ _ _ us hl=>by let%[c,d,e,g|1]:=Jn hl;rfl))
structure PEW(X:Cx)(e:Expr)(t:TE):Prop where
 out:PE X e t
structure PAW(X:Cx)(es:List Expr)(t:TA):Prop where
 out:PA X es t
structure PTW(X:Cx)(s:Stmt)(t:TS):Prop where
 out:PS X s t
section
variable {X:Cx}{e:Expr}{es:List Expr}{te:TE}{t:TA}{pos:Pos}
def cU:PAW X [] Ck:=.mk aV
def aM(b:PEW X e te)(hr:PAW X es t)(c:starEach (e::es) X.env=(false,eval e X.env)::starEach es X.env:=by rfl):PAW X (e::es) (qH te t):=%[|aJ b.out hr.out c]
def cS{b}(h:PAW X es t):PEW X (.Tuple es b pos) (tTup t):=%[|aO h.out]
def cg{x j}:PEW X (.Constant (.str x) j pos) (tC (.str x)):=%[|ao]
def zv{i j}:PEW X (.Constant (.int i) j pos) (tC (.int i)):=%[|ae]
def Kd(h:PEW X e te):PTW X (.Return (some e) pos) (tRet te):=%[|am h.out]
def nq{i:Nat}{x:Str}{b:Pos}(c:X.N.Nodup)(d:X.N[i]?=some x)(g:Loc X.env.scope x)(he:PEW X e te)(j:swapsWith e (some (.Name x b)) pos.line X.env=pure false:=by rfl)(hf:X.fn x=true∨X.env.scope.names.lookup x=some .local:=by first | exact .inl rfl | exact .inr rfl | assumption):
 PTW X (.Assign [.Name x b] e pos) (ED te (yU i)):=%[|aj c d g he.out j hf]
def Ea:PSW X [] JQ:=%[|au]
def ki(h:PTW X s a)(k:PSW X ss b):PSW X (s::ss) (Ki a b):=%[|aa h.out k.out]
def zr(h:PTW X s a):PSW X [s] a:=%[|ac h.out]
def Eb{t':TS}(h:PSW X ss b)(hw:∀D σ H,t' D σ H->b D σ H):PSW X ss t':=%[|fb h.out hw]
def JN(hc:PT X c tc)(d:PSW X a g)(j:PSW X b u):PTW X (.If c a b pos) (Kk tc g u):=%[|aG hc d.out j.out]
end
def RowsAt.app(h:RowsAt H a r)(k:RowsAt H b s):RowsAt H (a++b) (r++s):=by
 erw[by rw[gl,gl,h.1,k.1],λi v x e1 e2=>?_]
 by_cases c:i<a.length
 . rw[Gp c]at e1;rw[Gp (by rw[←h.1];exact c)]at e2;exact h.2 i v x e1 e2
 . rw[y1 #[0]]at e1;rw[y1 (by rw[←h.1];omega),←h.1]at e2;exact k.2 _ v x e1 e2
def RowsAt.one(h:HrAt H v r):RowsAt H [v] [r]:=⟨rfl,λi u x e1 e2=>by
 cases i with
 |zero=>cases e1;cases e2;exact h
 |succ i=>cases e1⟩
def Hr.gk(m:Int)(r:Hr):Prop:=r.ok 20/\r.good/\∀n:Nat,m<=(n:Int)->r.leads n
def HOk(b:List Hr):Prop:=ur b/\(∀r∈b,r.good)/\∀r∈b,r.leads b.length
def AS{t:Tm}{m:Int}(h:t.gs m)(d:t.depth<=8)(e:m<=20):t.fit 20:=%[h.1,by have:=h.2;omega|d]
def HOk.of{b:List Hr}{m:Int}(h:∀r∈b,r.gk m)(e:m=(b.length:Int))(l:b.length<=60):HOk b:=%[%[l|λr hr=>(h r hr).1],λr hr=>(h r hr).2.1|λr hr=>(h r hr).2.2 _ (Int.le_of_eq e)]
instance spHelp:∀(f b:Addr)(bs:List Str)(most:Int),vs=[.ref f,.ref b,.int most]->FeedAt H f->H b=some (.lst (bs.map V.str))->b≠f->1<=bs.length->bs.length<=100->(∀x∈bs,NmK x)->0<=most->most<=60->(∀(h:Addr)(rv:List V)(rows:List Hr)(H':Hp),H' h=some (.tup rv)->RowsAt H' rv rows->HOk rows->FeedAt H' f->SameBut f H H'->Q (.ref h) H'):=1
def gH:FnScope ["_law_feed_here","_law_boxes","_law_most","_law_rows","_law_many","_law_k","_law_form"] W9 (af nV):=%[|5]
def yw(F:#["_law_helper",nV])(B:Bl mg)(a7:#[1,"_law_take",WF,spTake])(fD:#[7,"_law_term",Wd,spTerm 5]):#[8,f,fd,W9,spHelp]:=by
 exists gH
 erw[f,b,bs,most,1,F0,hb,nb,b1,b2,nk,m0,m1,q]at h;refine⟨_,(aa #[aj,3,gH,cY aV]
  (aa #[aj,4,gH,ai a7 hr ⋯ rfl %[0,ax aU (pv 2) ae|aV]]
  (aa (cV n7 rfl (cZ rfl B.range %[4|aV]) (bn (i:=5) gH.nd rfl (.inl rfl)) (aa #[aj,6,gH,ai a7 hr ⋯ rfl %[0,ae|aV]]
   (ac (aG (ag dX (pv 6) ae (aq _)) (ac (aQ (bZ qq sk ti ca (pv 3) %[aO %[ao,ai fD hr ⋯ rfl %[0,1,ae,ae|aV]|aV]|aV]))) (ac (aG (ag dX (pv 6) ae (aq _)) (ac (aQ (bZ qq sk ti ca (pv 3) %[aO %[ao,aI ix_list (pv 1) (ai a7 hr ⋯ rfl %[0,aE aD rfl B.len hR %[1|aV]|aV]) #[1],ai fD hr ⋯ rfl %[0,1,ae,ae|aV]|aV]|aV]))) (ac (aG (ag aP (pv 6) ae (aq _)) (ac (aQ (bZ qq sk ti ca (pv 3) %[aO %[ao,ai fD hr ⋯ rfl %[0,1,ae,ae|aV],ai a7 hr ⋯ rfl %[0,4|aV]|aV]|aV]))) (ac (aG (ag aP (pv 6) ae (aq _)) (ac (aQ (bZ qq sk ti ca (pv 3) %[aO %[ao,ai a7 hr ⋯ rfl %[0,4|aV]|aV]|aV]))) (ac (aQ (bZ qq sk ti ca (pv 3) %[aO %[ao|aV]|aV])))))))))))))
  (ac (am (aR aY rfl B.tuple bq %[3|aV])))))),?_⟩
 erw[y0S,λL hL=>?_];let I0:=fj hL (.lst []);let Lf:L≠f:=F0.ne hL;let g0:upd H L (.lst []) L=some (.lst []):=aX;generalize upd H L (.lst [])=H1 at I0 g0;erw[0,0,2,f,most+1,1,F0.same I0,3,3,λmn H2 n0 n1 F2 B2=>?_];let S2:SameBut f H H2:=(f4 I0).trans B2;refine⟨_,rfl,_,rfl,#[0],#[0],eQ (λi σ H'=>∃(x5 x6:Option V)(vs:List V)(rows:List Hr),σ=[some (.ref f),some (.ref b),some (.int most),some (.ref L),some (.int mn),x5,x6]/\FeedAt H' f/\SameBut f H H'/\H' L=some (.lst vs)/\RowsAt H' vs rows/\(∀r∈rows,r.gk mn)/\vs.length=i)
  %[_,_,[],[],1,F2,S2,B2 _ _ Lf g0,%[1|λi v r e=>by cases e],(λr hr=>by cases hr)|1] ?_ ?_⟩
 . rintro i σ H3 hi ⟨x5,x6,vs,rows,rfl,F3,S3,U,RW,rg,vl⟩;let an:=S3 _ _ nb hb;erw[0,f,(8),1,F3,4,4,λfm H4 f0 f1 F4 B4=>?_];let D:=B4 _ _ nb an;let u:=B4 _ _ Lf U;let S4:=S3.trans B4;let ap:=RW.mono (bj F3 B4);let fin:∀(r:Hr)(v:V)(m:Hp),HrAt m v r->r.gk mn->FeedAt m f->SameBut f H4 m->m L=some (.lst vs)/\vs.length<sizeLine/\∃(ar as:Option V)(Y:List V)(y:List Hr),[some (V.ref f),some (.ref b),some (.int most),some (.ref L),some (.int mn),some (.int (0+(i:Int))),some (.int fm)]=[some (V.ref f),some (.ref b),some (.int most),some (.ref L),some (.int mn),ar,as]/\FeedAt (upd m L (.lst (vs++[v]))) f/\SameBut f H (upd m L (.lst (vs++[v])))/\(upd m L (.lst (vs++[v]))) L=some (.lst Y)/\RowsAt (upd m L (.lst (vs++[v]))) Y y/\(∀r∈y,r.gk mn)/\Y.length=i+1:=by
    intro r v m R5 g5 O C;let ab:=C _ _ Lf u;let k6:bO m (upd m L (.lst (vs++[v]))):=fJ ab;erw[ab,aN #[0],_,_,vs++[v],rows++[r],1,6,6,aX,((ap.mono (bj F4 C)).mono k6).app (RowsAt.one (R5.mono k6)),λr' av=>?_,by rw[gl,vl];rfl]
    . erw[x,t,e,rr]at O;erw[x,t,by rw[aB Lf.symm];exact e,rr]
    . intro c o hc e;rw[aB (bh e hL)];exact C _ _ hc (S4 _ _ hc e)
    . rcases qH0 av with h | h
      . exact rg r' h
      . rw[Qr h];exact g5
   erw[0,2,0,6]
   by_cases c1:fm<3
   . apply aW c1 ?_;erw[0,.inl %[1,_|fy u],0,0,f,b,bs,(6),(5),1,F4,D,nb,b1,b2,nk,4,4,4,4,λv t m T5 g5 d5 O C=>%[y2S|λp J=>?_]];let j:=fj J (.tup [.str "say",v]);let%[g,sz|M]:=fin (.say t) (.ref p) _ (.say aX (T5.mono (bw j))) %[AS g5 #[0] ⋯,%[Tm.ok_good _ g5.1|3]|λ_ _=>trivial] (O.same j) (C.trans (f4 j));erw[L,2,g,sz,M]
   apply az c1 %[0,2,0|6]
   by_cases c2:fm<5
   . apply aW c2 ?_;let bl:(bs.map V.str).length=bs.length:=fx _;erw[0,.inl %[1,_|fy u],0,0,0,b,0,.inl (fy D),f,0,F4,3,3,λd m N d1 O C=>?_];let%[v,hv|vm]:=pJ (l:=bs.map V.str) (i:=d) N d1;let%[x,hx|1]:=List.mem_map.mp vm;let ah:=C _ _ nb D;erw[b,_,2,fy ah,hv,0,0,f,b,bs,(6),(5),1,O,ah,nb,b1,b2,nk,4,4,4,4,λv t H6 T6 g6 d6 F6 B6=>%[y3S|λp J=>?_]];let j:=fj J (.tup [.str "set",.str x,v]);let%[g,sz|M]:=fin (.set x t) (.ref p) _ (.set aX (T6.mono (bw j))) %[%[nk x hx|AS g6 #[0] ⋯],%[Tm.ok_good _ g6.1|3]|λ_ _=>trivial] (F6.same j) (C.trans (B6.trans (f4 j)));erw[L,2,g,sz,M]
   apply az c2 %[0,1,0|6]
   by_cases c3:fm=5
   . apply aW (congrArg V.int c3) ?_;erw[0,.inl %[1,_|fy u],0,0,f,b,bs,(5),(4),1,F4,D,nb,b1,b2,nk,4,4,4,4,λv t m T5 g5 d5 O C=>?_];erw[0,0,f,mn,1,O,3,3,λd H6 N d1 F6 B6=>%[y3S|λp J=>?_]];let j:=fj J (.tup [.str "if",v,.int d]);let%[g,sz|M]:=fin (.iff t d) (.ref p) _ (.iff aX (T5.mono λa xs e=>j _ _ (bj O B6 _ _ e))) %[%[AS g5 #[0] ⋯,N|3],%[Tm.ok_good _ g5.1,3|N]|λn e=>%[N|3]] (F6.same j) (C.trans (B6.trans (f4 j)));erw[L,2,g,sz,M]
   apply az (λz=>c3 (V.int.inj z)) %[0,1,0|6]
   by_cases c4:fm=6
   . apply aW (congrArg V.int c4) ?_;erw[0,.inl %[1,_|fy u],0,0,f,mn,1,F4,3,3,λd H6 N d1 F6 B6=>%[y2S|λp J=>?_]];let j:=fj J (.tup [.str "go",.int d]);let%[g,sz|M]:=fin (.go d) (.ref p) _ (.go aX) %[%[N|3],N|λn e=>%[N|3]] (F6.same j) (B6.trans (f4 j));erw[L,2,g,sz,M]
   apply az (λz=>c4 (V.int.inj z)) ?_;erw[0,.inl %[1,_|fy u],y1S,λp J=>?_];let j:=fj J (.tup [.str "end"]);let%[g,sz|M]:=fin .fin (.ref p) _ (.fin aX) %[trivial,trivial|λ_ _=>trivial] (F4.same j) (f4 j);erw[L,2,g,sz,M]
 . rintro σ H3 ⟨x5,x6,vs,rows,rfl,F3,S3,U,RW,rg,vl⟩;erw[0,L,0,.inl %[fy U|λh hh=>?_]];let Ih:=fj hh (.tup vs);let rl:=RW.1;exact q h vs rows _ aX (RW.mono (bw Ih)) (HOk.of rg #[0] #[0]) (F3.same Ih) (S3.trans (f4 Ih))
instance spLiar:∀(f:Addr)(x:Str),vs=[.ref f,.str x]->NmK x->FeedAt H f->(∀(h:Addr)(rv:List V)(rows:List Hr)(H':Hp),H' h=some (.tup rv)->RowsAt H' rv rows->HOk rows->FeedAt H' f->SameBut f H H'->Q (.ref h) H'):=1
def fh:FnScope ["_law_feed_here","_law_box","_law_j","_law_wrong","_law_turn","_law_more","_law_told"] VA (af sJ):=%[|5]
instance tLi1(Dn:Ends)(σ:St)(H:Hp):∀(x4 x5 x6:Option V)(f:Addr)(x:Str)(vj vw:V)(tw:Tm),σ=[some (.ref f),some (.str x),some vj,some vw,x4,x5,x6]->FeedAt H f->TmAt H vj (.box x)->TmAt H vw tw->tw.gs 7->tw.depth<=3->NmK x->(∀(h:Addr)(rv:List V)(rows:List Hr)(H':Hp),H' h=some (.tup rv)->RowsAt H' rv rows->HOk rows->FeedAt H' f->SameBut f H H'->Dn.rt (.ref h) H'):=0
instance tLi2(Dn:Ends)(σ:St)(H:Hp):∀(x3 x4 x6:Option V)(f:Addr)(x:Str)(vj vm:V)(tm:Tm),σ=[some (.ref f),some (.str x),some vj,x3,x4,some vm,x6]->FeedAt H f->TmAt H vj (.box x)->TmAt H vm tm->tm.gs 12->tm.depth<=4->NmK x->(∀(h:Addr)(rv:List V)(rows:List Hr)(H':Hp),H' h=some (.tup rv)->RowsAt H' rv rows->HOk rows->FeedAt H' f->SameBut f H H'->Dn.rt (.ref h) H'):=0
def KF{s:Str}{a b:Tm}{m:Nat}(h1:a.depth<=m)(h2:b.depth<=m):(Tm.op s a b).depth<=m+1:=by
 show max a.depth b.depth+1<=m+1;omega
def CU(F:#["_law_liar",sJ])(J:#[1,"_law_take",WF,spTake]):#[2,f,fd,VA,spLiar]:=by
 exists fh
 erw[f,x,1,nx,L,q]at h;refine⟨_,PSW.out (ki #[nq,2,fh,cS (aM cg (aM (.mk (pv 1)) cU))]
  (ki #[nq,3,fh,cS (aM cg (aM cg (aM (.mk (pv 2)) (aM (cS (aM cg (aM (.mk (ai J hr ⋯ rfl %[0,ae|aV])) cU))) cU))))]
  (ki (JN (ag ji (ai J hr ⋯ rfl %[0,ae|aV]) ae (aq _)) (ki #[nq,4,fh,cS (aM cg (aM cg (aM (cS (aM cg cU)) (aM (cS (aM cg (aM (.mk (ai J hr ⋯ rfl %[0,ae|aV])) cU))) cU))))]
   (zr #[nq,3,fh,cS (aM cg (aM cg (aM (.mk (pv 3)) (aM (.mk (pv 4)) cU))))])) Ea)
  (Eb (t':=tLi1) (ki #[nq,5,fh,cS (aM cg (aM cg (aM (.mk (pv 3)) (aM (cS (aM cg (aM (.mk (ax aU ae (ai J hr ⋯ rfl %[0,ae|aV]))) cU))) cU))))]
  (ki (JN (ag aP (ai J hr ⋯ rfl %[0,ae|aV]) ae (aq _)) (zr #[nq,5,fh,cS (aM cg (aM cg (aM (.mk (pv 3)) (aM (cS (aM cg (aM cg (aM (cS (aM cg (aM (cS (aM cg (aM (.mk (ax aU ae (ai J hr ⋯ rfl %[0,ae|aV]))) cU))) cU))) (aM (cS (aM cg (aM (.mk (ai J hr ⋯ rfl %[0,ae|aV])) cU))) cU))))) cU))))] ) Ea)
  (Eb (t':=tLi2) (ki #[nq,6,fh,cS (aM cg (aM cg (aM (cS (aM cg (aM (.mk (pv 2)) cU))) (aM (.mk (pv 5)) cU))))]
  (zr (Kd (cS (aM (cS (aM cg (aM (.mk (pv 1)) (aM (cS (aM cg (aM zv cU))) cU)))) (aM (cS (aM cg (aM (.mk (pv 6)) cU))) (aM (cS (aM cg (aM (.mk (pv 1)) (aM (cS (aM cg (aM cg (aM (.mk (pv 2)) (aM (cS (aM cg (aM zv cU))) cU))))) cU)))) (aM (cS (aM cg (aM zv cU))) cU)))))))) (by
   rintro Dn σ H ⟨x3,x4,x6,f,x,M,vm,tm,rfl,L,y,ap,gm,dm,nx,q⟩;let g:2<=sizeLine:=by decide
   let s3:3<=sizeLine:=by decide
   let t:4<=sizeLine:=by decide
   erw[0,g,λb h1=>%[0,t|λp2 h2=>?_]];let N:=fj h1 (.tup [.str "true",M]);let u:=fj h2 (.tup [.str "op",.str "+",.ref b,vm]);let B:TmAt (upd (upd H b (.tup [.str "true",M])) p2 (.tup [.str "op",.str "+",.ref b,vm])) (.ref p2) (.op "+" (.ask "true" (.box x)) tm):=.op aX (.ask (u _ _ aX) (y.mono (bw (N.trans u)))) (ap.mono (bw (N.trans u)));let j:=N.trans u;generalize upd (upd H b (.tup [.str "true",M])) p2 (.tup [.str "op",.str "+",.ref b,vm])=H2 at B j;erw[0,g,λp5 h5=>%[s3|λp6 h6=>%[0,g|λp7 h7=>%[0,0,g|λo h3=>%[t|λp4 h4=>%[s3|λp8 h8=>%[g|λp9 h9=>%[t|λp h10=>?_]]]]]]]];let O:=fj h5 (.tup [.str "num",.int 0]);let I6:=fj h6 (.tup [.str "set",.str x,.ref p5]);let v:=fj h7 (.tup [.str "say",.ref p2]);let C:=fj h3 (.tup [.str "num",.int 1]);let I4:=fj h4 (.tup [.str "op",.str "+",M,.ref o]);let I8:=fj h8 (.tup [.str "set",.str x,.ref p4]);let I9:=fj h9 (.tup [.str "go",.int 1]);let an:=fj h10 (.tup [.ref p6,.ref p7,.ref p8,.ref p9]);let J9:=I9.trans an;let J8:=I8.trans J9;let U:=I4.trans J8;let J3:=C.trans U;let J7:=v.trans J3;let d:=I6.trans J7;let R6:=HrAt.set (J7 _ _ aX) (.num (d _ _ aX));let R7:=HrAt.say (J3 _ _ aX) (B.mono (bw (O.trans d)));let R8:=HrAt.set (J9 _ _ aX) (.op (J8 _ _ aX) (y.mono (bw (j.trans (O.trans d)))) (.num (U _ _ aX)));let R9:=HrAt.go (an _ _ aX);let JJ:=j.trans (O.trans d);let pl:("+":Str)∈signW:=by decide
   apply q p _ _ _ aX ((((RowsAt.one R6).app (RowsAt.one R7)).app (RowsAt.one R8)).app (RowsAt.one R9)) (HOk.of (m:=4) (λr hr=>?_) rfl (by show 4<=60;decide)) (L.same JJ) (f4 JJ);simp only[List.mem_append,QA]at hr;let sz:=gm.2;rcases hr with((rfl | rfl) | rfl) | rfl
   . erw[%[nx,%[4|4],4|4],%[trivial|(by show 1<=5;decide)],λ_ _=>trivial]
   . let dd:(Tm.op "+" (.ask "true" (.box x)) tm).depth<=5:=KF (m:=4) (by show 2<=4;decide) dm;let oo:(Tm.op "+" (.ask "true" (.box x)) tm).ok:=%[pl,%[4|nx]|gm.1]
     erw[%[oo,by show 2+tm.size+1<=20;omega|3],%[Tm.ok_good _ oo|dd],λ_ _=>trivial]
   . let oo:(Tm.op "+" (.box x) (.num 1)).ok:=%[pl,nx,4|4]
     erw[%[nx,oo,by show 3<=20;decide|by show 2<=8;decide],%[Tm.ok_good _ oo|(by show 2<=5;decide)],λ_ _=>trivial]
   . erw[%[4|4],(by show(0:Int)<=1;decide),λn e=>%[4|3]])))) (by
   rintro Dn σ H ⟨x4,x5,x6,f,x,M,vw,tw,rfl,L,y,Tw,gw,dw,nx,q⟩;let g:2<=sizeLine:=by decide
   let t:4<=sizeLine:=by decide
   let st:("*":Str)∈signW:=by decide
   let pl:("+":Str)∈signW:=by decide
   erw[0,0,f,(4),1,L,4,4,λd1 H1 u0 u1 F1 B1=>%[2,g|λb h1=>%[t|λp2 h2=>?_]]];let k1:=bj L B1;let N:=fj h1 (.tup [.str "num",.int (1+d1)]);let u:=fj h2 (.tup [.str "op",.str "*",vw,.ref b]);let j:=N.trans u;let B:TmAt (upd (upd H1 b (.tup [.str "num",.int (1+d1)])) p2 (.tup [.str "op",.str "*",vw,.ref b])) (.ref p2) (.op "*" tw (.num (1+d1))):=.op aX (Tw.mono λa xs e=>j _ _ (k1 _ _ e)) (.num (u _ _ aX));generalize upd (upd H1 b (.tup [.str "num",.int (1+d1)])) p2 (.tup [.str "op",.str "*",vw,.ref b])=H2 at B j;let F2:=F1.same j;erw[0,f,(3),1,F2,4,4,λd2 H3 _ _ Y B3=>%[1,0|6]];let k3:=bj F2 B3;let S3:SameBut f H H3:=B1.trans ((f4 j).trans B3);let kk:bO H H3:=λa xs e=>k3 _ _ (j _ _ (k1 _ _ e))
   by_cases c:d2=0
   . apply aW (congrArg V.int c) ?_;erw[0,0,f,(3),1,Y,4,4,λd3 H4 u2 u3 F4 B4=>%[2,g|λo h3=>%[g|λp4 h4=>?_]]];let k4:=bj Y B4;let C:=fj h3 (.tup [.str "num",.int (1+d3)]);let I4:=fj h4 (.tup [.str "coin",.ref o]);let U:=C.trans I4;let T4:TmAt (upd (upd H4 o (.tup [.str "num",.int (1+d3)])) p4 (.tup [.str "coin",.ref o])) (.ref p4) (.ask "coin" (.num (1+d3))):=.ask aX (.num (I4 _ _ aX));generalize upd (upd H4 o (.tup [.str "num",.int (1+d3)])) p4 (.tup [.str "coin",.ref o])=H5 at T4 U;let F5:=F4.same U;erw[0,f,(3),1,F5,4,4,λd5 H6 u4 u5 F6 B6=>%[g|λp5 h5=>%[t|λp6 h6=>%[t|λp7 h7=>?_]]]];let k6:=bj F5 B6;let O:=fj h5 (.tup [.str "num",.int d5]);let I6:=fj h6 (.tup [.str "op",.str "+",.ref p4,.ref p5]);let v:=fj h7 (.tup [.str "op",.str "*",vw,.ref p6]);let J7:=I6.trans v;let d:=O.trans J7;let kw:bO H _:=λa xs e=>d _ _ (k6 _ _ (U _ _ (k4 _ _ (kk _ _ e))))
     erw[_,_,_,f,x,M,.ref p7,.op "*" tw (.op "+" (.ask "coin" (.num (1+d3))) (.num d5)),1,F6.same d,y.mono kw,.op aX (Tw.mono kw) (.op (v _ _ aX) (T4.mono λa xs e=>d _ _ (k6 _ _ e)) (.num (J7 _ _ aX))),%[%[st,gw.1,pl,%[4,3|3],u4|3]|by have:=gw.2;show((tw.size+4+1:Nat):Int)<=12;omega],KF (m:=3) dw (by show 3<=3;decide),nx,λh rv rows H' h1 h2 h3 h4 h5=>q h rv rows H' h1 h2 h3 h4 (S3.trans (B4.trans ((f4 U).trans (B6.trans ((f4 d).trans h5)))))]
   . apply az (λz=>c (V.int.inj z)) ?_;erw[_,_,_,f,x,M,.ref p2,.op "*" tw (.num (1+d1)),1,Y,y.mono kk,B.mono k3,%[%[st,gw.1,3|3]|by have:=gw.2;show((tw.size+1+1:Nat):Int)<=12;omega],KF (m:=3) dw (by show 1<=3;decide),nx,λh rv rows H' h1 h2 h3 h4 h5=>q h rv rows H' h1 h2 h3 h4 (S3.trans h5)]))))),?_⟩
 let s1:1<=sizeLine:=by decide
 let g:2<=sizeLine:=by decide
 let t:4<=sizeLine:=by decide
 let st:("*":Str)∈signW:=by decide
 let ab:("=":Str)∈signW:=by decide
 erw[0,g,λD hj=>?_];let Ij:=fj hj (.tup [.str "box",.str x]);let y:TmAt (upd H D (.tup [.str "box",.str x])) (.ref D) (.box x):=.box aX;generalize upd H D (.tup [.str "box",.str x])=H1 at Ij y;erw[0,0,f,(4),1,L.same Ij,4,4,λd1 H2 u0 u1 F2 B2=>%[g|λb h1=>%[t|λp2 h2=>?_]]];let k2:=bj (L.same Ij) B2;let N:=fj h1 (.tup [.str "num",.int d1]);let u:=fj h2 (.tup [.str "op",.str "=",.ref D,.ref b]);let j:=N.trans u;let B:TmAt (upd (upd H2 b (.tup [.str "num",.int d1])) p2 (.tup [.str "op",.str "=",.ref D,.ref b])) (.ref p2) (.op "=" (.box x) (.num d1)):=.op aX (y.mono λa xs e=>j _ _ (k2 _ _ e)) (.num (u _ _ aX));let ah:=y.mono λa xs e=>j _ _ (k2 _ _ e)
 let S3:SameBut f H (upd (upd H2 b (.tup [.str "num",.int d1])) p2 (.tup [.str "op",.str "=",.ref D,.ref b])):=(f4 Ij).trans (B2.trans (f4 j));let Y:=F2.same j;generalize upd (upd H2 b (.tup [.str "num",.int d1])) p2 (.tup [.str "op",.str "=",.ref D,.ref b])=H3 at B ah S3 Y;erw[0,f,(3),1,Y,4,4,λd2 H4 _ _ F4 B4=>%[2,0|6]];let k4:=bj Y B4;let S4:=S3.trans B4
 by_cases c:d2>0
 . apply aW c ?_;erw[s1,λo h3=>?_];let C:=fj h3 (.tup [.str "round"]);let e3:upd H4 o (.tup [.str "round"]) o=some (.tup [.str "round"]):=aX;generalize upd H4 o (.tup [.str "round"])=H5 at C e3;erw[0,f,(6),1,F4.same C,4,4,λd5 H6 u4 u5 F6 B6=>%[g|λp5 h5=>%[t|λp6 h6=>?_]]];let k6:=bj (F4.same C) B6;let O:=fj h5 (.tup [.str "num",.int d5]);let I6:=fj h6 (.tup [.str "op",.str "=",.ref o,.ref p5]);let d:=O.trans I6;let T6:TmAt (upd (upd H6 p5 (.tup [.str "num",.int d5])) p6 (.tup [.str "op",.str "=",.ref o,.ref p5])) (.ref p6) (.op "=" (.plain "round") (.num d5)):=.op aX (.plain (d _ _ (k6 _ _ e3))) (.num (I6 _ _ aX));generalize upd (upd H6 p5 (.tup [.str "num",.int d5])) p6 (.tup [.str "op",.str "=",.ref o,.ref p5])=H7 at T6 d;let kw:bO H3 H7:=λa xs e=>d _ _ (k6 _ _ (C _ _ (k4 _ _ e)))
   erw[0,0,t,λp7 h7=>?_];let v:=fj h7 (.tup [.str "op",.str "*",.ref p2,.ref p6]);erw[_,_,_,f,x,.ref D,.ref p7,.op "*" (.op "=" (.box x) (.num d1)) (.op "=" (.plain "round") (.num d5)),1,F6.same (d.trans v),ah.mono (λa xs e=>v _ _ (kw _ _ e)),.op aX (B.mono λa xs e=>v _ _ (kw _ _ e)) (T6.mono (bw v)),%[%[st,%[ab,nx,u0|3],ab,(show("round":Str)∈plainW by decide),u4|3]|by show(7:Int)<=7;decide],(by show 3<=3;decide),nx,λh rv rows H' h1 h2 h3 h4 h5=>q h rv rows H' h1 h2 h3 h4 (S4.trans ((f4 C).trans (B6.trans ((f4 (d.trans v)).trans h5))))]
 . apply az c ?_;erw[_,_,_,f,x,.ref D,.ref p2,.op "=" (.box x) (.num d1),1,F4,ah.mono k4,B.mono k4,%[%[ab,nx,u0|3]|by show(3:Int)<=7;decide],(by show 2<=3;decide),nx,λh rv rows H' h1 h2 h3 h4 h5=>q h rv rows H' h1 h2 h3 h4 (S4.trans h5)]
def Jk:(("not ":Str)).cps.toList=[110,111,116,32]:=by decide
def lit_n:(("not":Str)).cps.toList=[110,111,116]:=by decide
def lit_y:(("yes":Str)).cps.toList=[121,101,115]:=by decide
def lit_o:(("no":Str)).cps.toList=[110,111]:=by decide
def Tr.txt:Tr->List Nat
 |.is x=>x.cps.toList
 |.yes=>[121,101,115]
 |.no=>[110,111]
 |.not a=>[110,111,116,32]++a.txt
 |.bin o a b=>[40]++(a.txt++([32]++(o.cps.toList++([32]++(b.txt++[41])))))
def Tr.nm:Tr->Prop
 |.is x=>NmK x | .yes=>True | .no=>True | .not a=>a.nm | .bin w a b=>w∈joinW/\a.nm/\b.nm
def Tr.ok_nm{ns:List Str}(c:∀x∈ns,NmK x):∀t:Tr,t.ok ns->t.nm
 |.is _,h=>c _ h
 |.yes,_=>trivial
 |.no,_=>trivial
 |.not a,h=>Tr.ok_nm c a h
 |.bin _ a b,⟨h,h1,h2⟩=>%[h,Tr.ok_nm c a h1|Tr.ok_nm c b h2]
def iL:∀w∈joinW,w.length<=4/\(∀c∈w.cps.toList,97<=c/\c<=122)/\1<=w.length:=by decide
def Tr.txt_len:∀t:Tr,t.nm->t.txt.length<=8*t.size
 |.is x,h=>by
   have:x.cps.toList.length=x.length:=by rw[zf];rfl
   show x.cps.toList.length<=8
   have:=h.2.2.1
   omega
 |.yes,_=>by decide
 |.no,_=>by decide
 |.not a,h=>by
   have:=Tr.txt_len a h
   show([110,111,116,32]++a.txt).length<=8*(a.size+1)
   rw[gl];simp only[ij,o0];omega
 |.bin o a b,⟨h,h1,h2⟩=>by
   let e1:=Tr.txt_len a h1;let e2:=Tr.txt_len b h2;let e3:o.cps.toList.length=o.length:=by rw[zf];rfl
   let c:=(iL o h).1;show([40]++(a.txt++([32]++(o.cps.toList++([32]++(b.txt++[41])))))).length<=8*(a.size+b.size+1)
   simp only[gl,ij,o0];omega
def Tr.str(t:Tr):Str:=stl t.txt
def Tr.str_len{t:Tr}(h:t.nm):t.str.length<=8*t.size:=by
 unfold Tr.str;rw[vY];exact t.txt_len h
instance spTT(n:Nat):∀(v:V)(t:Tr),vs=[v]->TreeAt H v t->t.nm->t.depth<=n->t.size<=100->(∀H',Same H H'->Q (.str t.str) H'):=1
def io:FnScope ["tree","word","first","second"] WC (af ju):=%[|5]
def Jp:∀w∈joinW,w≠"is"/\w≠"yes"/\w≠"no"/\w≠"not":=by decide
def fZ{a b:Str}(h:a≠b):¬ V.str a=V.str b:=λz=>h (ia z)
def Ig(a:Tr):(Str.empty++("not ":Str))++a.str=(Tr.not a).str:=by
 apply fL ?_;rw[cq,cq,Jk];show([]++[110,111,116,32])++a.txt=[110,111,116,32]++a.txt;rw[List.nil_append]
def Ii(o:Str)(a b:Tr):((((((Str.empty++("(":Str))++a.str)++(" ":Str))++o)++(" ":Str))++b.str)++(")":Str)=(Tr.bin o a b).str:=by
 apply fL ?_;simp only[cq,kO,hG,qu];show((((((([]:List Nat)++[40])++a.txt)++[32])++o.cps.toList)++[32])++b.txt)++[41]=[40]++(a.txt++([32]++(o.cps.toList++([32]++(b.txt++[41])))))
 simp
def Bg:Tr.yes.str="yes":=fL lit_y.symm
def El:Tr.no.str="no":=fL lit_o.symm
def Il{n:Nat}(F:#["tree_text",ju])(z:#[n+1,"tree_text",WC,spTT n]):#[n+2,f,fd,WC,spTT (n+1)]:=by
 exists io
 erw[v,t,1,T,ok,B,sz,k]at h;refine⟨_,(aa #[aj,1,io,aI ix_tup (pv 0) ae #[1]]
  (aa (aG (ag aP (pv 1) ao (aq _)) (ac (am (aI ix_tup (pv 0) ae #[1]))) au)
  (aa (aG (PW.pt (eO (ag aP (pv 1) ao (aq _)) (dL (ag aP (pv 1) ao (aq _))))) (ac (am (pv 1))) au)
  (aa #[aj,2,io,ai z hr (fz _) rfl %[aI ix_tup (pv 0) ae #[1]|aV]]
  (aa (aG (ag aP (pv 1) ao (aq _)) (ac (am (kK (cK ao (cK (qm (pv 2)) oi))))) au)
  (aa #[aj,3,io,ai z hr (fz _) rfl %[aI ix_tup (pv 0) ae #[1]|aV]]
  (ac (am (kK (cK ao (cK (qm (pv 2)) (cK ao (cK (qm (pv 1)) (cK ao (cK (qm (pv 3)) (cK ao oi)))))))))))))))),?_⟩
 let z0:(Str.empty).length=0:=by decide
 cases T with
 | @is a x e=>
   erw[0,a,_,(0),0,1,eS e,at0 ..,6];erw[0,1,0,6];apply aW rfl ?_;erw[0,a,_,(1),0,1,eS e,at1 ..,k H (Same.refl H)]
 | @yes a e=>
   erw[0,a,_,(0),0,1,eS e,at0 ..,6];erw[0,1,0,6];apply az (fZ ⋯) ?_;erw[0,1,0,6];apply aW rfl ?_;apply dZ ?_;let d:=k H (Same.refl H);rw[Bg]at d;erw[0,d]
 | @no a e=>
   erw[0,a,_,(0),0,1,eS e,at0 ..,6];erw[0,1,0,6];apply az (fZ ⋯) ?_;erw[0,1,0,6];apply az (fZ ⋯) ?_;erw[0,1,0,6];apply aW rfl ?_;let d:=k H (Same.refl H);rw[El]at d;erw[0,d]
 | @not a u r e g=>
   let N:r.depth<=n:=Sb B;let O:r.size+1<=100:=sz;let U:=Tr.str_len (t:=r) ok;erw[0,a,_,(0),0,1,eS e,at0 ..,6];erw[0,1,0,6];apply az (fZ ⋯) ?_;erw[0,1,0,6];apply az (fZ ⋯) ?_;erw[0,1,0,6];apply az (fZ ⋯) ?_;erw[0,a,_,(1),0,1,eS e,at1 ..,u,r,1,g,ok,N,3,λC j=>?_];erw[0,1,0,6];apply aW rfl ?_;let y:(("not ":Str)).length=4:=by decide
   erw[0,bc (by rw[i0,z0,y];omega),0,0,bc #[0],0,bc (by rw[i0,i0,z0,y];omega),bc (by rw[i0,i0,z0,y];omega),6];rw[Ig];exact k C j
 | @bin a o u D r r2 e g Y=>
   erw[J,m,q]at ok;let%[n1,n2,n3|n4]:=Jp o J;let L:r.depth<=n/\r2.depth<=n:=by
    have:max r.depth r2.depth+1<=n+1:=B
    omega
   let O:r.size+r2.size+1<=100:=sz;let U:=Tr.str_len (t:=r) m;let ab:=Tr.str_len (t:=r2) q;let ol:=(iL o J).1;erw[0,a,_,(0),.str o,1,1,eS e,at0 ..,6];erw[0,1,0,6];apply az (fZ n1) ?_;erw[0,1,0,6];apply az (fZ n2) ?_;erw[0,1,0,6];apply az (fZ n3) ?_;erw[0,a,_,(1),u,1,1,eS e,at1 ..,u,r,1,g,m,L.1,3,λC j=>?_];erw[0,1,0,6];apply az (fZ n4) ?_;erw[0,a,_,(2),D,1,1,eS (j _ _ e),at2 ..,D,r2,1,Y.mono (bw j),q,L.2,3,λH2 S2=>?_];let b:(("(":Str)).length=1:=by decide
   let c:((" ":Str)).length=1:=by decide
   let M:((")":Str)).length=1:=by decide
   erw[0,bc (by simp only[i0,z0,b];omega),0,0,bc #[0],0,bc (by simp only[i0,z0,b];omega),0,bc (by simp only[i0,z0,b,c];omega),0,0,bc #[0],0,bc (by simp only[i0,z0,b,c];omega),0,bc (by simp only[i0,z0,b,c];omega),0,0,bc #[0],0,bc (by simp only[i0,z0,b,c];omega),0,bc (by simp only[i0,z0,b,c,M];omega),bc (by simp only[i0,z0,b,c,M];omega),6];rw[Ii];exact k H2 (j.trans S2)
def Ik:#[1,f,fd,WC,spTT 0]:=by
 let no:∀vs H Q E,¬ spTT 0 vs H Q E:=λvs H Q E h=>by
  erw[v,t,_,_,_,h1,_]at h
  have:=t.depth_pos
  omega
 exists 3
def oZ(F:#["tree_text",ju])(m:mg "tree_text"=some (.ref f)):
 ∀n:Nat,#[n+1,f,fd,WC,spTT n]
 |0=>Ik
 |n+1=>Il F (Cal.of F (oZ F m n) m (λ_ _ _ _ _ _ us hl=>by let%[b|1]:=Dv hl;rfl))
def SP:Str:=%[|#[32]]
def vg:(" ":Str)=SP:=by decide
def AB{x:Nat}:∀{l:List (List Nat)},x∈jn c l->x=c∨∃a∈l,x∈a
 | [],h=>by cases h
 | [a],h=>.inr %[a,mj|h]
 |a::b::r,h=>by
   rcases qH0 (show x∈a++c::jn c (b::r)from h)with h | h
   . exact .inr %[a,mj|h]
   . rcases Qq h with h | h
     . exact .inl h
     . rcases AB h with h | ⟨d,hd,h⟩
       . exact .inl h
       . exact .inr %[d,pj _ hd|h]
instance spNext(C:Addr)(n:Nat):∀(sc:Addr)(wi:Int)(T:Str)(p k:Nat)(t:Tr)(r:List Nat),vs=[.ref sc,.int wi]->ScanAt C H sc T p k->T.length<=1000->p<=T.length->T.cps.toList.drop p=t.txt++r->vR r->t.nm->t.depth<=n->wi+(t.depth:Int)<=9->k+t.size<=20->(∀(v:V)(H':Hp),TreeAt H' v t->ScanAt C H' sc T (p+t.txt.length) (k+t.size)->SameBut sc H H'->Q v H'):=1
instance spJoinT(C:Addr)(n:Nat):∀(sc:Addr)(wi:Int)(T:Str)(p k:Nat)(o:Str)(a b:Tr)(r:List Nat),vs=[.ref sc,.int wi]->ScanAt C H sc T p k->T.length<=1000->p<=T.length->T.cps.toList.drop p=(Tr.bin o a b).txt++r->o∈joinW->a.nm->b.nm->a.depth<=n->b.depth<=n->wi+(a.depth:Int)<=8->wi+(b.depth:Int)<=8->k+a.size+b.size<=20->(∀(v:V)(H':Hp),TreeAt H' v (.bin o a b)->ScanAt C H' sc T (p+(Tr.bin o a b).txt.length) (k+a.size+b.size)->SameBut sc H H'->Q v H'):=1
def gC:FnScope ["scan","within","left","word","right"] WE (af ie):=%[|5]
def Jo{n:Nat}(F:#["joined_tree",ie])(X:Tx K mg)(T:STxt K mg C)(M:Mths P w K mg base C fE fS fT fW fF dE dS dT dW dF)(du:#[2*n+3,"next_tree",WE,spNext C n]):#[2*n+4,f,fd,WE,spJoinT C n]:=by
 exists gC
 erw[e,wi,Tx,p,k,o,a,b,r,1,S0,tl,pl,hd,oj,na,nb,da,db,wa,wb,bi,q]at h;erw[ja,gj,hj]at X.joining;let Qt:Room 1 _:=hr.mono #[0];let g:Room 2 _:=hr.mono #[0];refine⟨_,(aa (aQ (bu (pv 0) T.cl M.mT M.gT g M.bT .nil be %[ao|aV]))
  (aa #[aj,2,gC,ai du hr #[0] rfl %[0,ax aU (pv 1) ae|aV]]
  (aa (aQ (bu (pv 0) T.cl M.mT M.gT g M.bT .nil be %[ao|aV]))
  (aa #[aj,3,gC,ci (pv 0) T.cl M.mW M.gW Qt M.bW .nil be]
  (aa (aG (ag oX (pv 3) (bQ (v:=.ref ja) rfl gj rfl) (by rfl')) ba au)
  (aa (aQ (bu (pv 0) T.cl M.mT M.gT g M.bT .nil be %[ao|aV]))
  (aa #[aj,4,gC,ai du hr #[0] rfl %[0,ax aU (pv 1) ae|aV]]
  (aa (aQ (bu (pv 0) T.cl M.mT M.gT g M.bT .nil be %[ao|aV]))
  (ac (am (aO %[3,2,4|aV]))))))))))),?_⟩
 let l1:(("(":Str)).length=1:=by decide
 let J:((" ":Str)).length=1:=by decide
 let l3:((")":Str)).length=1:=by decide
 let d:o.cps.toList.length=o.length:=dC o;let j:Tx.cps.toList.drop p=[40]++(a.txt++([32]++(o.cps.toList++([32]++(b.txt++([41]++r)))))):=by
  rw[hd];show([40]++(a.txt++([32]++(o.cps.toList++([32]++(b.txt++[41]))))))++r=_
  simp
 let z:(Tr.bin o a b).txt.length=1+(a.txt.length+(1+(o.length+(1+(b.txt.length+1))))):=by
  show([40]++(a.txt++([32]++(o.cps.toList++([32]++(b.txt++[41])))))).length=_;simp only[gl,ij,o0,d]
 let U:=jB j pl;simp only[gl,ij,o0,d]at U;let m:=bv j;let t:=bv m;let u:=bv t;let x:=bv u;let y:=bv x;let B:=bv y;simp only[ij,o0,d]at m t u x y B;let%[Y,ab,ah|an]:=id S0;erw[0,e,Y,ab,1,ah,an.no3,e,Tx,_,p,k,1,S0,cu (r:=a.txt++([32]++(o.cps.toList++([32]++(b.txt++([41]++r)))))) (by rw[kO];exact j) pl,by rw[l1];decide,λH1 S1 B1=>?_];rw[l1]at S1;erw[0,0,2,e,wi+1,Tx,p+1,k,a,0,S1,tl,3,m,.inr %[(32),0|.inl rfl],na,da,3,3,λv1 H2 T1 S2 B2=>?_];let%[ap,ar,as|av]:=id S2;erw[0,e,ap,ar,1,as,av.no3,e,Tx,_,_,0,S2,cu (r:=o.cps.toList++([32]++(b.txt++([41]++r)))) (by rw[hG];exact t) #[0],by rw[J];decide,λH3 L B3=>?_];rw[J]at L;let T3:=T1.mono (bY S2 B3);let%[aw,aA,aC|aH]:=id L;erw[0,e,aw,aA,1,aC,aH.no4,e,Tx,_,_,o.cps.toList,0,L,tl,3,u,(λc hc=>qw ((iL o oj).2.1 c hc)),.inr %[(32),0|.inl rfl],λH4 N B4=>?_];rw[d]at N;let T4:=T3.mono (bY L B4);erw[0,ja,0,.inr (hj _),1,⋯,0,6];let D:inV (.str (stl o.cps.toList)) (joinW.map V.str)=true:=by rw[ir,gi,j2 oj]
 rw[D];apply cz ?_;let%[aK,aL,aT|a0]:=id N;erw[0,e,aK,aL,1,aT,a0.no3,e,Tx,_,_,0,N,cu (r:=b.txt++([41]++r)) (by rw[hG];exact x) #[0],by rw[J];decide,λH5 S5 B5=>?_];rw[J]at S5;let T5:=T4.mono (bY N B5);erw[0,0,2,e,wi+1,Tx,_,_,b,0,S5,tl,3,y,.inr %[(41),r,1|.inr (.inr rfl)],nb,db,3,3,λv2 H6 T6 O B6=>?_];let a7:=T5.mono (bY S5 B6);let%[a8,a9,bb|bf]:=id O;erw[0,e,a8,a9,1,bb,bf.no3,e,Tx,_,_,0,O,cu (r:=r) (by rw[qu];exact B) #[0],by rw[l3];decide,λH7 S7 B7=>?_];rw[l3]at S7;let T7:=a7.mono (bY O B7);let bg:=T6.mono (bY O B7);erw[0,0,0,y3S,λc hc=>?_];let G:=fj hc (.tup [.str (stl o.cps.toList),v1,v2]);let ep:p+1+a.txt.length+1+o.length+1+b.txt.length+1=p+(Tr.bin o a b).txt.length:=by rw[z];omega
 rw[ep]at S7;apply q _ _ (.bin aX (T7.mono (bw G)) (bg.mono (bw G))) (S7.same G) ?_;exact B1.trans (B2.trans (B3.trans (B4.trans (B5.trans (B6.trans (B7.trans (f4 G)))))))
def u9:FnScope ["scan","within","word"] WE (af jw):=%[|5]
def AH{l:List Nat}(h:∀c∈l,97<=c/\c<=122)(h1:1<=l.length)(r:List Nat):∃c r',l++r=c::r'/\c≠40:=by
 cases l with
 |nil=>cases h1
 |cons c b=>
   have:=h c mj
   erw[c,b++r,1,3]
def Gc{n:Nat}(F:#["next_tree",jw])(T:STxt K mg C)(M:Mths P w K mg base C fE fS fT fW fF dE dS dT dW dF)(bN:#[1,"is_name",WB,spTxt jk])(du:#[2*n+3,"next_tree",WE,spNext C n])(Mt:#[2*n+4,"joined_tree",WE,spJoinT C n]):#[2*n+5,f,fd,WE,spNext C (n+1)]:=by
 exists u9
 erw[e,L,Tx,p,k,t,r,1,S0,tl,pl,hd,er,nm,dn,wd,a0,q]at h;let Qt:Room 1 _:=hr.mono #[0];let ah:Room 2 _:=hr.mono #[0];refine⟨_,(aa (aQ (bu (pv 0) T.cl M.mE M.gE Qt M.bE .nil be %[1|aV]))
  (aa (aG (di (bu (pv 0) T.cl M.mS M.gS Qt M.bS .nil be %[ao|aV])) (ac (am (ai Mt hr #[0] rfl %[0,1|aV]))) au)
  (aa #[aj,2,u9,ci (pv 0) T.cl M.mW M.gW Qt M.bW .nil be]
  (aa (aG (ag aP (pv 2) ao (aq _)) (aa (aQ (bu (pv 0) T.cl M.mT M.gT ah M.bT .nil be %[ao|aV]))
   (ac (am (aO %[ao,ai du hr #[0] rfl %[0,ax aU (pv 1) ae|aV]|aV])))) au)
  (aa (aG (PW.pt (eO (ag aP (pv 2) ao (aq _)) (dL (ag aP (pv 2) ao (aq _))))) (ac (am (aO %[2|aV]))) au)
  (aa (aG (dO (di (ai bN hr #[0] rfl %[2|aV]))) ba au)
  (ac (am (aO %[ao,2|aV]))))))))),?_⟩
 let dp:=t.depth_pos;let sp:=t.size_pos;let%[an,ap,ar|as]:=id S0;erw[0,e,an,ap,1,ar,as.no1,0,e,Tx,p,k,L,1,S0,3,3,λH1 D N=>?_];let%[g,j,m|u]:=id D;erw[0,e,g,j,1,m,u.no2,e,Tx,_,p,0,D,0,6];cases t with
 |bin o a b=>
   erw[oj,na,nb]at nm;let J:a.depth<=n/\b.depth<=n/\L+(a.depth:Int)<=8/\L+(b.depth:Int)<=8:=by
    let e1:(Tr.bin o a b).depth=max a.depth b.depth+1:=rfl;rw[e1]at dn wd;omega
   let e2:(Tr.bin o a b).size=a.size+b.size+1:=rfl;let hs:fO Tx ("(":Str) (p:Int)=true:=cu (r:=(a.txt++([32]++(o.cps.toList++([32]++(b.txt++[41])))))++r) (by rw[kO];exact hd) pl;rw[hs];apply dZ ?_;erw[0,0,e,L,Tx,p,k+1,o,a,b,r,1,D,tl,pl,hd,oj,na,nb,J.1,J.2.1,J.2.2.1,J.2.2.2,3,λv O T2 y B=>?_];rw[show k+1+a.size+b.size=k+(Tr.bin o a b).size by rw[e2];omega]at y;exact q v O T2 y (N.trans B)
 |is x=>
   let%[%[_,xl|_],x1,x6|xk]:=id nm;let av:1<=x.cps.toList.length:=by rw[dC];exact x1
   let%[c,r',hc|aw]:=AH xl av r;let d:Tx.cps.toList.drop p=x.cps.toList++r:=hd;rw[jR (d.trans hc) aw];apply cz ?_;erw[0,e,g,j,1,m,u.no4,e,Tx,p,_,x.cps.toList,r,1,D,tl,pl,d,(λc hc=>qw (xl c hc)),er,λO y B=>?_];rw[ir];let ne:∀z:Str,z∈kept->¬ V.str x=V.str z:=λz hz h=>xk (ia h▸hz)
   erw[0,1,0,6];apply az (ne _ ⋯) ?_;erw[0,1,0,6];apply az (ne _ ⋯) ?_;erw[0,1,0,6];apply az (ne _ ⋯) ?_;erw[0,x,1,3,λH3 U=>%[0|6]];rw[rN nm];apply cz ?_;erw[0,y2S,λa Y=>?_];let G:=fj Y (.tup [.str "is",.str x]);exact q _ _ (.is aX) (y.same (U.trans G)) (N.trans (B.trans (f4 (U.trans G))))
 |yes=>
   let d:Tx.cps.toList.drop p=[121,101,115]++r:=hd;rw[jR (d.trans rfl) ⋯];apply cz ?_;erw[0,e,g,j,1,m,u.no4,e,Tx,p,_,[121,101,115],r,1,D,tl,pl,d,4,er,λO y B=>?_];rw[show stl [121,101,115]=("yes":Str)from Bg];erw[0,1,0,6];apply az (fZ ⋯) ?_;erw[0,1,0,6];apply aW rfl ?_;apply dZ ?_;erw[0,y1S,λa Y=>?_];let G:=fj Y (.tup [.str "yes"]);exact q _ _ (.yes aX) (y.same G) (N.trans (B.trans (f4 G)))
 |no=>
   let d:Tx.cps.toList.drop p=[110,111]++r:=hd;rw[jR (d.trans rfl) ⋯];apply cz ?_;erw[0,e,g,j,1,m,u.no4,e,Tx,p,_,[110,111],r,1,D,tl,pl,d,4,er,λO y B=>?_];rw[show stl [110,111]=("no":Str)from El];erw[0,1,0,6];apply az (fZ ⋯) ?_;erw[0,1,0,6];apply az (fZ ⋯) ?_;erw[0,1,0,6];apply aW rfl ?_;erw[0,y1S,λa Y=>?_];let G:=fj Y (.tup [.str "no"]);exact q _ _ (.no aX) (y.same G) (N.trans (B.trans (f4 G)))
 |not a=>
   let d:Tx.cps.toList.drop p=[110,111,116]++([32]++(a.txt++r)):=hd;let hl:=jB d pl;let J:a.depth<=n/\L+1+(a.depth:Int)<=9:=by
    let e1:(Tr.not a).depth=a.depth+1:=rfl;rw[e1]at dn wd;omega
   let e2:(Tr.not a).size=a.size+1:=rfl;let e3:(Tr.not a).txt.length=4+a.txt.length:=by
    show([110,111,116,32]++a.txt).length=_;rw[gl];rfl
   rw[jR (d.trans rfl) ⋯];apply cz ?_;erw[0,e,g,j,1,m,u.no4,e,Tx,p,_,[110,111,116],0,D,tl,pl,d,4,.inr %[(32),0|.inl rfl],λO y B=>?_];rw[show stl [110,111,116]=("not":Str)from fL lit_n.symm];erw[0,1,0,6];apply aW rfl ?_;let ab:=bv d;let aA:=bv ab;let%[aC,aH,aK|aL]:=id y;let l2:((" ":Str)).length=1:=by decide
   let a7:p+3+(1+(a.txt.length+r.length))=Tx.length:=by
    simp only[gl,ij,o0]at hl;omega
   erw[0,e,aC,aH,1,aK,aL.no3,e,Tx,_,_,0,y,cu (r:=a.txt++r) (by rw[hG];exact ab) (by show p+3<=Tx.length;omega),by rw[l2];decide,λH3 U B3=>?_];rw[l2]at U;erw[0,0,2,e,L+1,Tx,_,_,a,r,1,U,tl,by show p+3+1<=Tx.length;omega,aA,er,nm,J.1,J.2,3,λv H4 T4 S4 B4=>?_];erw[y2S,λc hc=>?_];let G:=fj hc (.tup [.str "not",v]);let aT:ScanAt C H4 e Tx (p+(Tr.not a).txt.length) (k+(Tr.not a).size):=by
    rw[e2,e3,show p+(4+a.txt.length)=p+3+1+a.txt.length by omega,show k+(a.size+1)=k+1+a.size by omega];exact S4
   exact q _ _ (.not aX (T4.mono (bw G))) (aT.same G) (N.trans (B.trans (B3.trans (B4.trans (f4 G)))))
def FZ:#[3,f,fd,WE,spNext C 0]:=by
 let no:∀vs H Q E,¬ spNext C 0 vs H Q E:=λvs H Q E h=>by
  erw[_,_,_,_,_,t,_,_,_,_,_,_,_,_,h1,_]at h
  have:=t.depth_pos
  omega
 exists 3
def pf(F:#["next_tree",jw])(m:mg "next_tree"=some (.ref f))(b:Fun K "joined_tree" "joined_tree" ie g j)(c:mg "joined_tree"=some (.ref g))(X:Tx K mg)(T:STxt K mg C)(M:Mths P w K mg base C r t u v x y z dT B D)(d:#[1,"is_name",WB,spTxt jk]):
 ∀n:Nat,#[2*n+3,f,fd,WE,spNext C n]
 |0=>FZ
 |n+1=>
   let e:=Cal.of F (pf F m b c X T M d n) m (λ_ _ _ _ _ _ us hl=>by let%[o,q|1]:=Du hl;rfl)
   Gc F T M d e (Cal.of b (Jo b X T M e) c (λ_ _ _ _ _ _ us hl=>by let%[o,q|1]:=Du hl;rfl))
instance spReadK:∀(t:Tr)(k:Int),vs=[.str t.str,.int k]->t.nm->t.depth<=8->t.size<=20->(∀(v:V)(H':Hp),TreeAt H' v t->Same H H'->Q v H'):=1
def iU:FnScope ["text","row","scan","tree"] ["text","row"] (af jI):=%[|5]
def tG(F:#["tree_in_row",jI])(X:Tx K mg)(T:STxt K mg C)(M:Mths P w K mg base C fE fS fT fW fF dE dS dT dW dF)(y:Mk K C z)(B:#[1,z,c,WU,spSInit C])(D:Binds K c WU [])
 (J:#[23,"next_tree",WE,spNext C 10]):#[24,f,fd,["text","row"],spReadK]:=by
 exists iU
 erw[t,k,1,nm,dp,sz,q]at h;erw[tw,L]at X.gwithin;erw[tp,N]at X.gparts;let O:Room 1 _:=hr.mono ⋯;let d:Room 2 _:=hr.mono ⋯;refine⟨_,(aa #[aj,2,iU,jy y B d rfl T.mgC D .nil be %[0,1,bQ (v:=.int 10) rfl L %[|0],bQ (v:=.int 30) rfl N ⟨_,rfl⟩|aV]]
  (aa #[aj,3,iU,ai J hr ⋯ rfl %[2,ae|aV]]
  (aa (aQ (ci (pv 2) T.cl M.mF M.gF O M.bF .nil be))
  (ac (am (pv 3)))))),?_⟩
 erw[0,0,λg dx nx j U=>?_];let Y:Same H (upd (upd H dx (.own g)) g (.ins C dx [])):=λb o e=>by
  rw[aB (bh e nx),aB (bh e j)];exact e
 erw[g,dx,t.str,k,_,0,4,4,aX,λH1 S1 B1=>%[1|6]];let tl:=Tr.str_len nm;let e0:t.str.length=t.txt.length:=vY _;erw[0,g,(1),t.str,(0),(0),t,[],1,S1,3,kr _,by rw[Ip,My];rfl,.inl rfl,nm,3,3,3,λv H2 T2 m B2=>?_];rw[Nat.zero_add,←e0]at m;let%[n,r,u|x]:=id m;erw[0,g,n,r,1,u,x.no5,g,t.str,0,m,3,6];erw[0,q v H2 T2 λb o e=>B2 b o (bh e nx) (B1 b o (bh e nx) (Y b o e))]
def pM:∀n:Nat,(List.replicate n true).all id=true
 |0=>rfl
 |n+1=>by rw[Qy,Q3,pM n];rfl
def gq(n:Int):Str:=("field ":Str)++bL n
def lh(xs:List Str):Str:=Str.join SP (("switches":Str)::xs)
def dq(t:Tr):Str:=("holds ":Str)++t.str
def dU(n:Int)(xs:List Str)(ts:List Tr):List Str:=gq n::lh xs::ts.map dq
def kW(n:Int)(xs:List Str)(ts:List Tr):Str:=Str.join NL (dU n xs ts)
structure Gmx(n:Int)(xs:List Str)(ts:List Tr):Prop where
 n0:0<=n
 n1:n<1000000000000
 x6:xs.length<=6
 xk:∀x∈xs,NmK x
 t1:1<=ts.length
 t4:ts.length<=4
 tk:∀t∈ts,t.nm/\t.depth<=8/\t.size<=20
def cd_f:cd (("field ":Str))=[102,105,101,108,100,32]:=by decide
def cd_h:cd (("holds ":Str))=[104,111,108,100,115,32]:=by decide
def cd_s:cd (("switches":Str))=[115,119,105,116,99,104,101,115]:=by decide
def yK:(("field ":Str)).length=6:=by decide
def yJ:(("holds ":Str)).length=6:=by decide
def len_s:(("switches":Str)).length=8:=by decide
def Tr.txt_hi:∀t:Tr,t.nm->∀c∈t.txt,32<=c
 |.is x,h,c,hc=>by have:=h.1.2.1 c hc;omega
 |.yes,_,c,hc=>by revert c;decide
 |.no,_,c,hc=>by revert c;decide
 |.not a,h,c,hc=>by
   rcases qH0 (show c∈[110,111,116,32]++a.txt from hc)with h1 | h1
   . exact(by decide:∀c∈([110,111,116,32]:List Nat),32<=c) c h1
   . exact Tr.txt_hi a h c h1
 |.bin o a b,⟨h,h1,h2⟩,c,hc=>by
   let d:c∈[40]++(a.txt++([32]++(o.cps.toList++([32]++(b.txt++[41]))))):=hc;simp only[List.mem_append,QA]at d;rcases d with e | e | e | e | e | e | e
   . omega
   . exact Tr.txt_hi a h1 c e
   . omega
   . have:=(iL o h).2.1 c e;omega
   . omega
   . exact Tr.txt_hi b h2 c e
   . omega
def Le(g:Gmx n xs ts):∀r∈dU n xs ts,∀c∈cd r,32<=c:=by
 intro r hr c hc;rcases Qq hr with rfl | hr
 . unfold gq at hc;rw[mz,cd_f]at hc;rcases qH0 hc with h | h
   . exact(by decide:∀c∈([102,105,101,108,100,32]:List Nat),32<=c) c h
   . have:=ik g.n0 c h;omega
 rcases Qq hr with rfl | hr
 . unfold lh at hc;rw[show SP=%[|#[32]]from rfl,jE]at hc;rcases AB hc with e | ⟨a,d,h⟩
   . omega
   . let%[x,b|1]:=List.mem_map.mp d;rcases Qq b with rfl | b
     . rw[cd_s]at h;exact(by decide:∀c∈([115,119,105,116,99,104,101,115]:List Nat),32<=c) c h
     . have:=(g.xk x b).1.2.1 c h;omega
 . let%[t,j|1]:=List.mem_map.mp hr;unfold dq at hc;rw[mz,cd_h]at hc;rcases qH0 hc with h | h
   . exact(by decide:∀c∈([104,111,108,100,115,32]:List Nat),32<=c) c h
   . exact Tr.txt_hi t (g.tk t j).1 c h
def zV(g:Gmx n xs ts):Txt.split (kW n xs ts) NL=dU n xs ts:=gR (c:=10) (QN _ _) λp b hc=>by
 have:=Le g p b 10 hc
 omega
def pC(c:Nat):∀ps:List Str,(Str.join %[|#[c]] ps).length<=(ps.map (·.length)).sum+ps.length
 | []=>kr _
 | [a]=>by
   show a.length<=a.length+0+1;omega
 |a::b::r=>by
   let d:=pC c (b::r);let e:(Str.join %[|#[c]] (a::b::r)).length=a.length+1+(Str.join ⟨#[c]⟩ (b::r)).length:=by
    show(a++%[|#[c]]++Str.join ⟨#[c]⟩ (b::r)).length=_;rw[i0,i0];rfl
   rw[e,nn,t7,ij];omega
def vI{n:Int}(h0:0<=n)(h1:n<1000000000000):(gq n).length<=18:=by
 unfold gq;rw[i0,yK]
 have:=dQ h0 h1
 omega
def EF{xs:List Str}(x6:xs.length<=6)(xk:∀x∈xs,NmK x):(((("switches":Str)::xs)).map (·.length)).sum+((("switches":Str)::xs)).length<=60:=by
 have:=iq (l:=xs) (b:=6) λp c=>(xk p c).2.2.1
 rw[nn,t7,len_s,ij]
 have:xs.length*6<=36:=#[0]
 omega
def EG{xs:List Str}(x6:xs.length<=6)(xk:∀x∈xs,NmK x):(lh xs).length<=60:=hQ (pC 32 _) (EF x6 xk)
def xN{t:Tr}(h:t.nm)(b:t.size<=20):(dq t).length<=246:=by
 unfold dq;rw[i0,yJ]
 have:=Tr.str_len h
 omega
def xW(g:Gmx n xs ts):((dU n xs ts).map (·.length)).sum+(dU n xs ts).length<=2000:=by
 let h1:=iq (l:=dU n xs ts) (b:=246) λp c=>by
  rcases Qq c with rfl | c
  . have:=vI g.n0 g.n1;omega
  rcases Qq c with rfl | c
  . have:=EG g.x6 g.xk;omega
  . let%[t,d|1]:=List.mem_map.mp c;exact xN (g.tk t d).1 (g.tk t d).2.2
 let h2:(dU n xs ts).length=ts.length+2:=by
  unfold dU
  simp
 let h3:=g.t4;rw[h2]at h1 ⊢
 have:(ts.length+2)*246<=6*246:=Nat.mul_le_mul_right _ #[0]
 omega
def Hg(g:Gmx n xs ts):(kW n xs ts).length<=2000:=hQ (pC 10 _) (xW g)
def so{z u:Str}{r:List Nat}(h:z.cps.toList=u.cps.toList++r):Txt.startswith z u=true:=by
 let hl:=congrArg List.length h;rw[gl,dC,dC]at hl;show(decide (0+u.length<=z.length)&&Builtin.Str.subAt z u 0)=true;rw[vW,Ip,h,←dC u,List.take_left,j2 rfl,j2 (by rw[dC];omega)];rfl
def sw{u y:Str}:Txt.slice (u++y) (some (u.length:Int)) none=y:=by
 let e:(u++y).cps.toList=u.cps.toList++y.cps.toList:=cq u y;let b:Txt.slice (u++y) (some (u.length:Int)) none=_:=StrLaws.sliceText_from (x:=u++y) (i:=(u.length:Int)) %[3|by rw[e,gl,dC];omega];rw[b];apply fL ?_;show((u++y).cps.toList.drop (u.length:Int).toNat).take (((u++y).cps.toList.length:Int)-(u.length:Int)).toNat=y.cps.toList;rw[e,show(u.length:Int).toNat=u.cps.toList.length by rw[dC];omega,List.drop_left,List.take_of_length_le];rw[gl,dC,dC];omega
instance spFieldR:∀n:Int,vs=[.str (gq n)]->0<=n->n<1000000000000->(∀H',Same H H'->Q (.int n) H'):=1
def lx:FnScope ["text","figures"] WB (af je):=%[|5]
def rD(F:#["field_in_row",je])(B:Bl mg)(X:Tx K mg)(c:#[1,"is_figures",WB,spTxt kQ]):#[2,f,fd,WB,spFieldR]:=by
 exists lx
 erw[n,1,n0,n1,q]at h;erw[j,b]at X.fhead;refine⟨_,(aa #[aj,1,lx,cR sy (pv 0) (dy (aE cH rfl B.len hR %[bQ (v:=.str "field ") rfl b %[|0]|aV])) eA]
  (aa (aG (PW.pt (eO (dO (di (bZ pu Rw Rx jM (pv 0) %[bQ (v:=.str "field ") rfl b %[|0]|aV]))) (dL (dO (di (ai c hr ⋯ rfl %[1|aV])))))) ba au)
  (ac (am (aR eZ rfl B.int hZ %[1|aV]))))),?_⟩
 let m:=vI n0 n1;let o:=dQ n0 n1;erw[0,0,bc (by rw[yK];decide),0,0,bc #[0],6];let d:Txt.slice (gq n) (some ((("field ":Str)).length:Int)) none=bL n:=sw;rw[d];erw[0,1,2,0,6];rw[so (z:=gq n) (u:="field ") (r:=(bL n).cps.toList) (cq _ _)];apply cz ?_;erw[0,bL n,1,3,λe g=>%[0|6]];rw[pw n0 n1];apply cz ?_;erw[0,_,0,pq n0 n1,3,q e g]
instance spRowE:∀(a:Addr)(rs:List Str)(k:Nat)(r:Str),vs=[.ref a,.int (k:Int)]->H a=some (.lst (rs.map V.str))->rs[k]?=some r->Q (.str r) H:=1
def uv:FnScope Wv Wv (af ku):=%[|5]
def Bd{b:List Str}{k:Nat}{r:Str}(h:b[k]?=some r):atI (b.map V.str) (k:Int)=some (.str r):=bd (by rw[kv,h];rfl)
def uC(F:#["row_or_end",ku])(B:Bl mg):#[1,f,fd,Wv,spRowE]:=by
 exists uv
 erw[a,d,k,r,1,b,c,q]at h;refine⟨_,(aa (aG (ag FI (pv 1) (aE aD rfl B.len hR %[0|aV]) (aq _)) ba au)
  (ac (am (aI ix_list (pv 0) (pv 1) #[1])))),?_⟩
 let e:=(Qs c).1;erw[0,0,a,0,.inl (fy b),2,0,6];apply az (by rw[fx];omega) ?_;erw[0,0,a,_,2,fy b,Bd c,q]
instance spSwR:∀(xs:List Str),vs=[.str (lh xs)]->xs.length<=6->(∀x∈xs,NmK x)->(∀(a:Addr)(H':Hp),H' a=some (.tup (xs.map V.str))->Same H H'->Q (.ref a) H'):=1
def Cl{xs:List Str}(xk:∀x∈xs,NmK x):Txt.split (lh xs) SP=("switches":Str)::xs:=gR (c:=32) (QN _ _) λp b hc=>by
 rcases Qq b with rfl | b
 . rw [cd_s]at hc
   revert hc;decide
 . have:=(xk p b).1.2.1 32 hc;omega
def f6:FnScope ["text","words","names"] WB (af fY):=%[|5]
def ot(F:#["switches_in_row",fY])(B:Bl mg)(X:Tx K mg)(L:#[1,"is_name",WB,spTxt jk]):#[2,f,fd,WB,spSwR]:=by
 exists f6
 erw[xs,1,x6,xk,q]at h;erw[tm,gm]at X.switches;refine⟨_,(aa #[aj,1,f6,bZ pu QX QY jZ (pv 0) %[ao|aV]]
  (aa #[aj,2,f6,cR wk (pv 1) (dy ae) eA]
  (aa (aG (PW.pt (eO (ag jY (aI ix_list (pv 1) ae #[1]) ao (aq _)) (dL (ag ji (aE aD rfl B.len hR %[2|aV]) (bQ (v:=.int 6) rfl gm ⟨_,rfl⟩) (aq _))))) ba au)
  (aa (aG (dO (di (aE (jm rfl) rfl B.all QJ (aJ (bX (N:=[]) (ix:=[]) (cl:=[]) rfl #[5] rfl
   (eC (pv 2)) (λ_ _ _=>cr (ai L hr ⋯ rfl %[0|aV]))) aV)))) ba au)
  (ac (am (aR aY rfl B.tuple bq %[2|aV]))))))),?_⟩
 let sl:=EG x6 xk;let ps:=Cl xk;let e:Txt.split (lh xs) (" ":Str)=("switches":Str)::xs:=by rw[vg];exact ps
 erw[0,1,lh xs,0,1,⋯,3,by rw[e,ij];omega,λW M=>?_];rw[e];let GW:=fj M (.lst ((("switches":Str)::xs).map V.str));let c:upd H W (.lst ((("switches":Str)::xs).map V.str)) W=some (.lst ((("switches":Str)::xs).map V.str)):=aX;generalize upd H W (.lst ((("switches":Str)::xs).map V.str))=u at GW c;erw[0,(1),1,W,0,fy c,λN O=>?_];let U:hJ ((("switches":Str)::xs).map V.str) (some 1) none=xs.map V.str:=by
  have:=kf (xs:=(("switches":Str)::xs).map V.str) (k:=1) #[2]
  exact this
 rw[U];let m:=fj O (.lst (xs.map V.str));let b:upd u N (.lst (xs.map V.str)) N=some (.lst (xs.map V.str)):=aX;generalize upd u N (.lst (xs.map V.str))=Y at m b;erw[0,W,_,(0),.str "switches",1,1,fy (m _ _ c),at0 ..,1,0,6];show if(!decide (V.str "switches"=V.str "switches"))=true then _ else _
 rw[j2 rfl];apply cz ?_;erw[0,N,0,.inl (fy b),2,0,6];apply az (by rw[fx];omega) ?_;erw[0,N,1,%[_|fy b],λD hD=>?_];apply de (K:=K) (xs:=xs.map V.str) (λi n=>n D=some (.lst ((List.replicate i true).map V.bl))/\Same Y n) %[by rw[aX];rfl|fj hD _] (λi n _ h=>fy (h.2 _ _ b)) ?_ ?_
 . rintro i z H3 o ⟨d,j⟩;let y:=(Qs o).1;let r:=y;rw[fx]at r;rw[kv]at o;let%[x,hx|1]:=qs o;let g:=xk x (lr hx);erw[0,x,1,by have:=g.2.2.1;omega,λH4 C=>?_];rw[rN g];erw[_,C _ _ d,6,Nx.of y %[6|λb' o' J=>?_]]
   . rw[fx,y3];exact aN #[0]
   . rw[aX,Rf,hI];rfl
   . rw[aB (bh J hD)];exact C _ _ (j _ _ J)
 . rintro H3 ⟨d,j⟩;erw[D,0,fy d,0,6];rw[pM];apply cz ?_;erw[0,N,0,.inl %[fy (j _ _ b)|λt ht=>?_]];exact q t _ aX (GW.trans (m.trans (j.trans (fj ht _))))
def TsAt(H:Hp)(b:List V)(ts:List Tr):Prop:=b.length=ts.length/\∀(i:Nat)(v:V)(t:Tr),b[i]?=some v->ts[i]?=some t->TreeAt H v t
def TsAt.mono(h:TsAt H b ts)(k:bO H c):TsAt c b ts:=%[h.1|λi v t d e=>(h.2 i v t d e).mono k]
def TsAt.snoc(h:TsAt H d ts)(a:TreeAt H v t):TsAt H (d++[v]) (ts++[t]):=by
 erw[by rw[gl,gl,h.1];rfl,λi u r b hr=>?_];let hl:=h.1
 by_cases c:i<d.length
 . rw[Gp c]at b;rw[Gp #[0]]at hr;exact h.2 i u r b hr
 . rw [y1 #[0]]at b;rw[y1 #[0]]at hr;let e1:i-d.length=0:=by
    have:=(Qs b).1
    rw[q0]at this;omega
   let e2:i-ts.length=0:=#[0]
   rw[e1]at b;rw[e2]at hr;cases b;cases hr;exact a
instance spTsR:∀(a:Addr)(r0 r1:Str)(ts:List Tr),vs=[.ref a]->H a=some (.lst ((r0::r1::ts.map dq).map V.str))->ts.length<=4->(∀t∈ts,t.nm/\t.depth<=8/\t.size<=20)->(∀(b:Addr)(tv:List V)(H':Hp),H' b=some (.tup tv)->TsAt H' tv ts->Same H H'->Q (.ref b) H'):=1
def gP:FnScope ["rows","trees","number"] ["rows"] (af iw):=%[|5]
def qo(F:#["trees_in_rows",iw])(B:Bl mg)(X:Tx K mg)(jG:#[24,"tree_in_row",["text","row"],spReadK]):#[25,f,fd,["rows"],spTsR]:=by
 exists gP
 erw[a,r0,r1,ts,1,C,t4,tk,q]at h;erw[tf,gf]at X.first
 erw[tm,gm]at X.trees;erw[th,Y]at X.thead;refine⟨_,(aa #[aj,1,gP,cY aV]
  (aa (cV n7 rfl (ql rfl B.range %[bQ (v:=.int 2) rfl gf %[|0],aE aD rfl B.len hR %[0|aV]|aV]) (bn (i:=2) gP.nd rfl (.inl rfl)) (aa (aG (PW.pt (eO (ag aP (aE aD rfl B.len hR %[1|aV]) (bQ (v:=.int 4) rfl gm ⟨_,rfl⟩) (aq _)) (dL (dO (di (bZ pu Rw Rx jM (aI ix_list (pv 0) (pv 2) #[1]) %[bQ (v:=.str "holds ") rfl Y %[|0]|aV])))))) ba au)
   (ac (aQ (bZ qq sk ti ca (pv 1) %[ai jG hr ⋯ rfl %[cR sy (aI ix_list (pv 0) (pv 2) #[1]) (dy (aE cH rfl B.len hR %[bQ (v:=.str "holds ") rfl Y %[|0]|aV])) eA,2|aV]|aV])))))
  (ac (am (aR aY rfl B.tuple bq %[1|aV]))))),?_⟩
 erw[y0S,λL D=>?_];let GL:=fj D (.lst []);let J:a≠L:=bh C D;let rl:((r0::r1::ts.map dq).map V.str).length=ts.length+2:=by simp
 erw[0,a,0,.inl (fy (GL _ _ C)),_,0,%[4,4,3|by rw[rl];omega],6];rw[rl,show(((ts.length+2:Nat):Int)-2).toNat=ts.length by omega];apply eQ (λi σ M=>∃(N:Option V)(g:List V),σ=[some (.ref a),some (.ref L),N]/\M L=some (.lst g)/\TsAt M g (ts.take i)/\SameBut L H M) %[_,[],1,aX,%[1|λi v t hv=>by simp at hv]|f4 GL] ?_ ?_
 . rintro i σ H1 hi ⟨N,g,rfl,c,d,x⟩;let y:ts[i]?=some ts[i]:=j3 hi;let%[nm,td|tz]:=tk ts[i] (vr hi);let ab:g.length=i:=by rw[d.1,lw];omega
   let j:=x _ _ J C;let O:(r0::r1::ts.map dq)[i+2]?=some (dq ts[i]):=by
    show(ts.map dq)[i]?=_;rw[kv,y];rfl
   let m:atI ((r0::r1::ts.map dq).map V.str) (2+(i:Int))=some (.str (dq ts[i])):=by
    have:=Bd O
    rwa [show((i+2:Nat):Int)=2+(i:Int) by omega]at this
   let tl:=xN nm tz;erw[0,L,0,.inl (fy c),1,0,6];apply az (λz=>by have:=V.int.inj z;omega) ?_;erw[0,0,a,_,2,fy j,m,1,2,0,6];rw[so (z:=dq ts[i]) (u:="holds ") (r:=ts[i].str.cps.toList) (cq _ _)];apply cz ?_;erw[0,.inl %[1,_|fy c],0,0,a,_,2,fy j,m,0,bc (by rw[yJ];decide),0,0,bc #[0],6];let es:Txt.slice (dq ts[i]) (some ((("holds ":Str)).length:Int)) none=ts[i].str:=sw;rw[es];erw[0,ts[i],0,nm,td,tz,λv H2 T2 U=>?_];let n:=U _ _ c;erw[L,2,n,aN #[0],6];let k1:bO H2 (upd H2 L (.lst (g++[v]))):=fJ n;erw[_,g++[v],1,aX,6,λb o hb e=>?_]
   . rw[nh,y];exact((d.mono (bw U)).mono k1).snoc (T2.mono k1)
   . rw[aB hb];exact U _ _ (x b o hb e)
 . rintro σ H1 ⟨N,g,rfl,c,d,x⟩;rw[mu]at d;erw[0,L,0,.inl %[fy c|λt y=>?_]];let G:=fj y (.tup g);exact q t g _ aX (d.mono (bw G)) λb o e=>G _ _ (x b o (bh e D) e)
def GameV(H:Hp)(v:V)(n:Int)(xs:List Str)(ts:List Tr):Prop:=∃(g a b:Addr)(c:List V),v=.ref g/\H g=some (.tup [.ref a,.ref b,.int n])/\H a=some (.tup (xs.map V.str))/\H b=some (.tup c)/\TsAt H c ts
instance spReadG:∀(n:Int)(xs:List Str)(ts:List Tr),vs=[.str (kW n xs ts)]->Gmx n xs ts->(∀(v:V)(H':Hp),GameV H' v n xs ts->Same H H'->Q v H'):=1
def f7:FnScope ["text","rows","field","switches","trees"] WB (af lC):=%[|5]
def wU(F:#["read_game",lC])(X:Tx K mg)(z:#[2,"field_in_row",WB,spFieldR])(B:#[2,"switches_in_row",WB,spSwR])(u:#[1,"row_or_end",Wv,spRowE])(C:#[25,"trees_in_rows",["rows"],spTsR]):#[26,f,fd,WB,spReadG]:=by
 exists f7
 erw[n,xs,ts,1,g,q]at h;erw[U,gf]at X.first
 refine⟨_,(aa #[aj,1,f7,bZ pu QX QY jZ (pv 0) %[ao|aV]]
  (aa #[aj,2,f7,ai z hr ⋯ rfl %[aI ix_list (pv 1) ae #[1]|aV]]
  (aa #[aj,3,f7,ai B hr ⋯ rfl %[ai u hr ⋯ rfl %[1,ae|aV]|aV]]
  (aa (aQ (ai u hr ⋯ rfl %[1,bQ (v:=.int 2) rfl gf %[|0]|aV]))
  (aa #[aj,4,f7,ai C hr ⋯ rfl %[1|aV]]
  (ac (am (aO %[3,4,2|aV])))))))),?_⟩
 let Y:=Hg g;let D:=zV g;let j:Txt.split (kW n xs ts) ("\n":Str)=dU n xs ts:=by rw[tO];exact D
 let m:(dU n xs ts).length=ts.length+2:=by unfold dU;simp
 let t4:=g.t4;let t1:=g.t1;erw[0,1,kW n xs ts,0,1,⋯,3,by rw[j,m];omega,λW J=>?_];rw[j];let GW:=fj J (.lst ((dU n xs ts).map V.str));let d:upd H W (.lst ((dU n xs ts).map V.str)) W=some (.lst ((dU n xs ts).map V.str)):=aX;generalize upd H W (.lst ((dU n xs ts).map V.str))=H1 at GW d;let L:(dU n xs ts)[0]?=some (gq n):=rfl;let g1:(dU n xs ts)[1]?=some (lh xs):=rfl;let M:(dU n xs ts)[2]?=some (dq ts[0]):=by
  show(ts.map dq)[0]?=_;rw[kv,j3 (show 0<ts.length by omega)];rfl
 erw[0,W,_,(0),0,1,fy d,Bd L,n,1,g.n0,g.n1,λH2 x=>?_];erw[0,W,_,(1),0,x _ _ d,g1,xs,1,g.x6,g.xk,λa H3 o N=>?_];let e:=x.trans N;erw[0,W,_,(2),0,e _ _ d,M,6];erw[0,W,_,_,ts,1,e _ _ d,t4,g.tk,λb O H4 r t y=>?_];erw[0,0,0,y3S,λc hc=>?_];let G:=fj hc (.tup [.ref a,.ref b,.int n]);exact q _ _ %[c,a,b,O,1,aX,G _ _ (y _ _ o),G _ _ r|t.mono (bw G)] (GW.trans (e.trans (y.trans G)))
def TsAt.get(h:TsAt H d ts){i:Nat}{v:V}(c:d[i]?=some v):∃t,ts[i]?=some t/\TreeAt H v t:=by
 let e:=(Qs c).1;let b:i<ts.length:=by rw[←h.1];exact e
 erw[ts[i],j3 b,h.2 i v _ c (j3 b)]
instance spGText:∀(a b:Addr)(tv:List V)(n:Int)(xs:List Str)(ts:List Tr),vs=[.ref a,.ref b,.int n]->H a=some (.tup (xs.map V.str))->H b=some (.tup tv)->TsAt H tv ts->Gmx n xs ts->(∀H',Same H H'->Q (.str (kW n xs ts)) H'):=1
def iD:FnScope ["switches","trees","field","rows","tree","text"] VB (af lH):=%[|5]
def Jw(n:Int):(Str.empty++("field ":Str))++bL n=gq n:=by
 apply fL ?_;unfold gq;rw[cq,cq,cq];rfl
def Ln(t:Tr):(Str.empty++("holds ":Str))++t.str=dq t:=by
 apply fL ?_;unfold dq;rw[cq,cq,cq];rfl
def j_sw(xs:List Str):Txt.join (" ":Str) (("switches":Str)::xs)=lh xs:=by rw[jC,vg];rfl
def j_nl(b:List Str):Txt.join ("\n":Str) b=Str.join NL b:=by rw[jC,tO]
def wZ(F:#["game_text",lH])(B:Bl mg)(fV:#[11,"tree_text",WC,spTT 10]):#[12,f,fd,VB,spGText]:=by
 exists iD
 erw[a,b,tv,n,xs,ts,1,ha,y,TS,g,q]at h;refine⟨_,(aa #[aj,3,iD,cY %[kK (cK ao (cK (IR (pv 2)) oi)),bZ pu wh w4 eF ao %[ax kM (cY %[ao|aV]) (aR iM rfl B.list jo %[0|aV])|aV]|aV]]
  (aa (cV n7 rfl (eV (pv 1)) (bn (i:=4) iD.nd rfl (.inl rfl)) (aa #[aj,5,iD,ai fV hr ⋯ rfl %[4|aV]]
   (ac (aQ (bZ qq sk ti ca (pv 3) %[kK (cK ao (cK (qm (pv 5)) oi))|aV])))))
  (ac (am (bZ pu wh w4 eF ao %[3|aV]))))),?_⟩
 let z0:(Str.empty).length=0:=by decide
 let nl:=dQ g.n0 g.n1;let lg:=gZ g.n0 g.n1;let x6:=g.x6;let t4:=g.t4;let l1:((" ":Str)).length=1:=by decide
 let l2:(("\n":Str)).length=1:=by decide
 erw[0,bc (by rw[i0,z0,yK];decide),0,n,1,lg,0,bc (by rw[i0,i0,z0,yK];show _+(bL n).length<=1000;omega),bc (by rw[i0,i0,z0,yK];show _+(bL n).length<=1000;omega),6];erw[1,y1S,λj z=>?_];let Y:=fj z (.lst [.str "switches"]);let e0:upd H j (.lst [.str "switches"]) j=some (.lst [.str "switches"]):=aX;erw[0,a,0,.inr (eS (Y _ _ ha)),λC D=>?_];let G1:=fj D (.lst (xs.map V.str));erw[j,C,2,G1 _ _ e0,aX,bc (by rw[fx,q0];omega),λL2 J=>?_];let G2:=fj J (.lst ([.str "switches"]++xs.map V.str));let e2:upd (upd (upd H j (.lst [.str "switches"])) C (.lst (xs.map V.str))) L2 (.lst ([.str "switches"]++xs.map V.str)) L2=some (.lst (((("switches":Str)::xs)).map V.str)):=aX;let u:=Y.trans (G1.trans G2);generalize upd (upd (upd H j (.lst [.str "switches"])) C (.lst (xs.map V.str))) L2 (.lst ([.str "switches"]++xs.map V.str))=H2 at u e2;erw[_,L2,0,1,fy e2,by rw[l1];decide,hQ (EF x6 g.xk) ⋯,6];erw[y2S,λR L=>?_];let ef:(Str.empty++("field ":Str))++(toString n:Str)=gq n:=Jw n;rw[ef,j_sw];let GR:=fj L (.lst [.str (gq n),.str (lh xs)]);let S3:=u.trans GR;let M:b≠R:=bh (u _ _ y) L;let m:H R=none:=u.free L;refine⟨_,rfl,b,rfl,%[_|eS (S3 _ _ y)],rS (K:=K) (xs:=tv) (λi σ N=>∃(O x5:Option V),σ=[some (.ref a),some (.ref b),some (.int n),some (.ref R),O,x5]/\N R=some (.lst ((gq n::lh xs::(ts.take i).map dq).map V.str))/\SameBut R H N)
  %[_,0,aX|f4 S3] (λi σ N _ Qn=>by erw[_,_,_,_,h]at Qn;exact eS (h _ _ M y)) ?_ ?_⟩
 . rintro i v σ U hv ⟨O,x5,rfl,d,x⟩;let%[t,ht|T]:=TS.get hv;let%[nm,td|tz]:=g.tk t (lr ht);let hi:=(Qs hv).1;let kT:bO H U:=λc ys e=>x _ _ (bh e m) e
   erw[0,v,t,1,T.mono kT,nm,3,3,λH5 S5=>?_];let r:=S5 _ _ d;let sl:=Tr.str_len nm;erw[0,.inl %[1,_|fy r],0,bc (by rw[i0,z0,yJ];decide),0,0,bc #[0],0,bc (by rw[i0,i0,z0,yJ];omega),bc (by rw[i0,i0,z0,yJ];omega),6];erw[R,2,r,6,6]
   . rw[fx,ij,ij,fx,lw];exact aN #[0]
   rw[Ln];erw[_,0,6,λc o hc e=>?_]
   . rw [aX,nh,ht]
     simp
   . rw[aB hc];exact S5 _ _ (x c o hc e)
 . rintro σ U ⟨O,x5,rfl,d,x⟩;rw[TS.1,mu]at d;erw[1,0,_,R,0,1,fy d,by rw[l2];decide,hQ (xW g) ⋯,6];rw[j_nl];exact q U λc o e=>x c o (bh e m) e
def wtx:V->Str
 |.int i=>bL i
 |.str x=>x
 |_=>SP
def JG(v:V):Prop:=((∃i:Int,v=.int i/\i.natAbs.log2<1920)∨∃x:Str,v=.str x)/\(wtx v).length<=100
instance spWords:∀(l:Addr)(ws:List V),vs=[.ref l]->H l=some (.tup ws)->ws.length<=10->(∀v∈ws,JG v)->(∀H',Same H H'->Q (.str (Str.join SP (ws.map wtx))) H'):=1
def uu:FnScope ["words"] ["words"] (af kq):=%[|5]
def uB(F:#["words_text",kq])(B:Bl mg):#[1,f,fd,["words"],spWords]:=by
 exists uu
 erw[l,ws,1,hl,L,g,q]at h;refine⟨_,(ac (am (bZ pu wh w4 eF ao (aJ (bX (N:=[]) (ix:=[]) (cl:=[]) rfl
  #[5] rfl (eV (pv 0)) (λ_ _ _=>cr (aR DV rfl B.str hU %[0|aV]))) aV)))),?_⟩
 erw[1,0,l,1,%[_|eS hl],λD hD=>?_];apply dN (K:=K) (xs:=ws) (λi d=>d D=some (.lst (((ws.take i).map wtx).map V.str))/\Same H d) %[by rw[aX];rfl|fj hD _] (λi d _ h=>eS (h.2 _ _ hl)) ?_ ?_
 . rintro i z m r ⟨c,t⟩;let u:=(Qs r).1;let fin:∃ys,m D=some (.lst ys)/\ys.length<sizeLine/\Nx ws.length i (λj d=>d D=some (.lst (((ws.take j).map wtx).map V.str))/\Same H d) (upd m D (.lst (ys++[V.str (wtx z)]))):=by
    erw[_,c,6,Nx.of u %[6|λb o e=>?_]]
    . rw[fx,fx,lw];exact aN #[0]
    . rw[aX,nh,r,hI,hI];rfl
    . rw[aB (bh e hD)];exact t _ _ e
   erw[0,6];rcases(g z (lr r)).1 with⟨n,rfl,y⟩ | ⟨x,rfl⟩
   . exact .inl %[n,1,y|fin]
   . exact .inr %[x,1|fin]
 rintro m ⟨c,t⟩;rw[mu]at c;erw[_,D,ws.map wtx,1,1,fy c,⋯,6,6]
 . have:=iq (l:=ws.map wtx) (b:=100) λp C=>by
    let%[v,J|1]:=List.mem_map.mp C;exact(g v J).2
   rw[fx]at this ⊢;omega
 . rw[vg,jC];exact q _ t
instance spNumsIn:∀(xs:List Int)(m p:Int),vs=[.str (Str.join SP (xs.map bL)),.int m,.int p]->(xs.length:Int)=m->xs.length<=10->(∀x∈xs,0<=x/\x<p)->p<1000000->(∀(l:Addr)(H':Hp),H l=none->H' l=some (.lst (xs.map V.int))->Same H H'->Q (.ref l) H'):=1
def jH:FnScope ["text","many","p","words","numbers"] ["text","many","p"] (af kx):=%[|5]
def Au{xs:List Int}(h1:1<=xs.length)(h:∀x∈xs,0<=x):Txt.split (Str.join SP (xs.map bL)) SP=xs.map bL:=gR (c:=32) (by simpa using λz=>by rw[z]at h1;simp at h1) λp b hc=>by
 let%[x,d|1]:=List.mem_map.mp b
 have:=ik (h x d) 32 hc
 omega
def FX{xs:List Int}(h1:1<=xs.length)(h10:xs.length<=10)(h:∀x∈xs,0<=x/\x<1000000000000):(Str.join SP (xs.map bL)).length<=200/\1<=(Str.join SP (xs.map bL)).length:=by
 constructor
 . let a:=pC 32 (xs.map bL);let b:=iq (l:=xs.map bL) (b:=12) λp d=>by
    let%[x,c|1]:=List.mem_map.mp d;exact dQ (h x c).1 (h x c).2
   rw[fx]at a b;show(Str.join %[|#[32]] (xs.map bL)).length<=200;omega
 . cases xs with
   |nil=>simp at h1
   |cons x r=>
     let g:=tM (h x mj).1;let e:cd (Str.join %[|#[32]] ((x::r).map bL))=jn 32 (((x::r).map bL).map cd):=jE 32 _;let e2:(cd (Str.join ⟨#[32]⟩ ((x::r).map bL))).length=(Str.join SP ((x::r).map bL)).length:=rfl;rw[←e2,e];let e3:(cd (bL x)).length=(bL x).length:=rfl;cases r with
     |nil=>show 1<=(cd (bL x)).length;omega
     |cons y r'=>
       show 1<=(cd (bL x)++32::_).length;rw[gl];omega
def uD(F:#["numbers_in",kx])(B:Bl mg)(a8:#[1,"is_figures",WB,spTxt kQ])(cf:#[1,"is_number",WZ,spIsNum]):#[2,f,fd,["text","many","p"],spNumsIn]:=by
 exists jH
 erw[xs,m,p,1,xm,ab,xr,p6,q]at h;refine⟨_,(aa #[aj,3,jH,oW (ag aP (pv 0) ao (aq _)) (cY aV) (bZ pu QX QY jZ (pv 0) %[ao|aV])]
  (aa (aG (dO (di (aE (jm rfl) rfl B.all QJ (aJ (bX (N:=[]) (ix:=[]) (cl:=[]) rfl #[5] rfl
   (eC (pv 3)) (λ_ _ _=>cr (ai a8 hr ⋯ rfl %[0|aV]))) aV)))) ba au)
  (aa (aG (ag jY (aE aD rfl B.len hR %[3|aV]) (pv 1) (aq _)) ba au)
  (aa (rM (i:=4) (N:=[]) (ix:=[]) (cl:=[]) jH.nd rfl (.inl rfl) rfl #[5] rfl
   (eC (pv 3)) (λ_ _ _=>cr (aR eZ rfl B.int hZ %[0|aV])))
  (aa (aG (dO (di (aE (jm rfl) rfl B.all QJ (aJ (bX (N:=["p"]) (ix:=[2]) rfl
   #[3] rfl
   (eC (pv 4)) (λ_ _ _=>cr (ai cf hr ⋯ rfl %[0,1|aV]))) aV)))) ba au)
  (ac (am (pv 4)))))))),?_⟩
 by_cases x0:xs=[]
 . subst x0;let e0:V.str (Str.join SP (([]:List Int).map bL))=V.str "":=by decide
   generalize Str.join SP (([]:List Int).map bL)=T at e0;erw[0,1,0,6];apply aW e0 ?_;erw[y0S,λW hW=>?_];let GW:=fj hW (.lst []);let c:upd H W (.lst []) W=some (.lst []):=aX;generalize upd H W (.lst [])=H1 at GW c;erw[0,W,1,%[_|fy c],λD hD=>?_];apply de (K:=K) (xs:=[]) (λi b=>b D=some (.lst (([]:List Bool).map V.bl))/\Same H1 b) %[by rw[aX];rfl|fj hD _] (λi b _ h=>fy (h.2 _ _ c)) (λi z C d=>by cases d) ?_;rintro C ⟨j,t⟩;erw[D,0,fy j,0,6];apply cz ?_;let e:=t _ _ c;erw[0,W,0,.inl (fy e),0,1,0,6];apply iteNT (show V.int (([]:List V).length:Int)=V.int m from congrArg V.int xm) ?_;erw[0,W,1,%[_|fy e],λY n=>?_];apply de (K:=K) (xs:=[]) (λi b=>b Y=some (.lst (([]:List Int).map V.int))/\Same C b) %[by rw[aX];rfl|fj n _] (λi b _ h=>fy (h.2 _ _ e)) (λi z C d=>by cases d) ?_;rintro H4 ⟨J,u⟩;erw[0,Y,1,%[_|fy J],λD5 o=>?_];apply de (K:=K) (xs:=[]) (λi b=>b D5=some (.lst (([]:List Bool).map V.bl))/\Same H4 b) %[by rw[aX];rfl|fj o _] (λi b _ h=>fy (h.2 _ _ J)) (λi z C d=>by cases d) ?_;rintro H5 ⟨ah,L⟩;erw[D5,0,fy ah,0,6];apply cz ?_;let T4:=GW.trans (t.trans u);erw[0,q Y H5 ((GW.trans t).free n) (L _ _ J) (T4.trans L)]
 let x1:1<=xs.length:=List.length_pos_iff.mpr x0;let M:∀x∈xs,0<=x/\x<1000000000000:=λx r=>%[(xr x r).1|by have:=(xr x r).2;omega]
 let nl:=FX x1 ab M;let sp:Txt.split (Str.join SP (xs.map bL)) (" ":Str)=xs.map bL:=by rw[vg];exact Au x1 λx r=>(xr x r).1
 let ne:¬ V.str (Str.join SP (xs.map bL))=V.str "":=λz=>by
  let z':=V.str.inj z;rw[z']at nl;exact absurd nl.2 ⋯
 generalize Str.join SP (xs.map bL)=T at nl sp ne;erw[0,1,0,6];apply az ne ?_;erw[0,1,T,0,1,⋯,3,by rw[sp,fx];omega,λW hW=>?_];rw[sp];let GW:=fj hW (.lst ((xs.map bL).map V.str));let c:upd H W (.lst ((xs.map bL).map V.str)) W=some (.lst ((xs.map bL).map V.str)):=aX;generalize upd H W (.lst ((xs.map bL).map V.str))=H1 at GW c;erw[0,W,1,%[_|fy c],λD hD=>?_];apply de (K:=K) (xs:=(xs.map bL).map V.str) (λi b=>b D=some (.lst ((List.replicate i true).map V.bl))/\Same H1 b) %[by rw[aX];rfl|fj hD _] (λi b _ h=>fy (h.2 _ _ c)) ?_ ?_
 . rintro i z C d ⟨j,t⟩;let O:=(Qs d).1;let U:=O;rw[fx,fx]at U;rw[kv,kv]at d;let%[y,hy|1]:=qs d;let%[x,r|1]:=qs hy;let xk:=M x (lr r);erw[0,0,by have:=dQ xk.1 xk.2;omega,λH4 u=>?_];rw[pw xk.1 xk.2];erw[_,u _ _ j,6,Nx.of O %[6|λb' o' v=>?_]]
   . rw[fx,y3];exact aN #[0]
   . rw[aX,Rf,hI];rfl
   . rw[aB (bh v hD)];exact u _ _ (t _ _ v)
 rintro C ⟨j,t⟩;erw[D,0,fy j,0,6];rw[pM];apply cz ?_;let e:=t _ _ c;let G3:=GW.trans t;erw[0,W,0,.inl (fy e),0,1,0,6];apply iteNT (by rw[fx,fx,xm]) ?_;erw[0,W,1,%[_|fy e],λN hN=>?_];apply de (K:=K) (xs:=(xs.map bL).map V.str) (λi b=>b N=some (.lst ((xs.take i).map V.int))/\Same C b) %[by rw[aX];rfl|fj hN _] (λi b _ h=>fy (h.2 _ _ e)) ?_ ?_
 . rintro i z H4 d ⟨g,u⟩;let O:=(Qs d).1;rw[kv,kv]at d;let%[y,hy|1]:=qs d;let%[x,r|1]:=qs hy;let xk:=M x (lr r);erw[0,_,0,pq xk.1 xk.2,by have:=dQ xk.1 xk.2;omega,6];erw[_,g,6,Nx.of O %[6|λb' o' v=>?_]]
   . rw[fx,lw];exact aN #[0]
   . rw[aX,nh,r,hI];rfl
   . rw[aB (bh v hN)];exact u _ _ v
 rintro H4 ⟨g,u⟩;rw[fx,fx,mu]at g;erw[0,N,1,%[_|fy g],λY n=>?_];apply de (K:=K) (xs:=xs.map V.int) (λi b=>b Y=some (.lst ((List.replicate i true).map V.bl))/\Same H4 b) %[by rw[aX];rfl|fj n _] (λi b _ h=>fy (h.2 _ _ g)) ?_ ?_
 . rintro i z H5 d ⟨o,L⟩;let O:=(Qs d).1;let U:=O;rw[fx]at U;rw[kv]at d;let%[x,r|1]:=qs d;let xk:=xr x (lr r);erw[0,0,x,p,1,6];rw[j2 xk.1,j2 xk.2];erw[_,o,6,Nx.of O %[6|λb' o' v=>?_]]
   . rw[fx,y3];exact aN #[0]
   . rw[aX,Rf,hI];rfl
   . rw[aB (bh v n)];exact L _ _ v
 rintro H5 ⟨o,L⟩;erw[Y,0,fy o,0,6];rw[pM];apply cz ?_;erw[0,q N H5 (G3.free hN) (L _ _ g) (G3.trans (u.trans L))]
def TsAt.trees:∀{b:List V}{ts:List Tr},TsAt H b ts->TreesAt H b ts
 | [],[],_=>.nil
 | [],_::_,h=>absurd h.1 #[2]
 |_::_,[],h=>absurd h.1 #[2]
 |v::vs,t::ts,h=>.cons (h.2 0 v t rfl rfl) (TsAt.trees %[by simpa using h.1|λi c t' d e=>h.2 (i+1) c t' d e])
def TreesAt.ts{ts:List Tr}(h:TreesAt H c ts):TsAt H c ts:=⟨h.length,λi v t d e=>by
 let%[u,b|T]:=h.get d;rw[e]at b;cases b;exact T⟩
def TR.ints:TR->List Int
 |.claims xs=>xs
 |.say xs=>xs
 |.coin r=>[r]
def TR.word:TR->Str
 |.claims _=>"claims"
 |.say _=>"say"
 |.coin _=>"coin"
def TR.ok(r:TR):Prop:=1<=r.ints.length/\r.ints.length<=500/\∀n∈r.ints,0<=n/\n<1000000
def TR.parts(r:TR):List Str:=r.word::r.ints.map bL
def SPA:Str:=%[|#[32]]
def EL:(" ":Str)=SPA:=by decide
def TR.text(r:TR):Str:=Str.join SPA r.parts
def iB(b:List TR):Str:=Str.join NL (b.map TR.text)
def rV(r:TR):(∀c∈cd r.word,97<=c/\c<=122)/\r.word.length<=6/\1<=r.word.length:=by
 let e:r.word="coin"∨r.word="claims"∨r.word="say":=by cases r <;> simp [TR.word]
 rcases e with e | e | e <;> rw[e] <;> decide
def tL{n:Int}(h0:0<=n)(h1:n<1000000):(bL n).length<=6:=Rv h0 ⋯ (by show n<10 ^ 6;omega)
def lQ{r:TR}(h:r.ok):∀p∈r.parts,(∀c∈cd p,48<=c)/\p.length<=6:=by
 intro p d;rcases Qq d with e | e
 . rw [e]
   have:=rV r
   erw[λc hc=>by have:=this.1 c hc;omega,this.2.1]
 . let%[n,g|1]:=List.mem_map.mp e;let b:=h.2.2 n g;erw[λc hc=>(ik b.1 c hc).1,tL b.1 b.2]
def yk{r:TR}(h:r.ok):Txt.split r.text SPA=r.parts:=gR (c:=32) (QN _ _) λp b hc=>by
 have:=(lQ h p b).1 32 hc
 omega
def zA{b:List TR}(h:∀r∈b,r.ok)(h0:b≠[]):Txt.split (iB b) NL=b.map TR.text:=gR (c:=10) (λz=>h0 (List.map_eq_nil_iff.mp z)) λp d hc=>by
 let%[r,hr|1]:=List.mem_map.mp d;unfold TR.text SPA at hc;rw[jE]at hc;rcases AB hc with e | ⟨a,g,e⟩
 . cases e
 . let%[p,d|1]:=List.mem_map.mp g
   have:=(lQ (h r hr) p d).1 10 e
   omega
def mv(r:TR):r.parts.length=r.ints.length+1:=by unfold TR.parts;simp
def vt{r:TR}(h:r.ok):(r.parts.map (·.length)).sum<=3006:=by
 have:=iq λp b=>(lQ h p b).2
 let l:=mv r
 have:=h.2.1
 omega
def xO{r:TR}(h:r.ok):r.text.length<=3600:=by
 have:=Sc SPA r.parts
 rw[show SPA.length=1 from rfl,Nat.mul_one]at this;let s:=vt h;let l:=mv r
 have:=h.2.1
 unfold TR.text;omega
def uY{c:List TR}(h:∀r∈c,r.ok):((c.map TR.text).map (·.length)).sum<=c.length*3600:=by
 have:=iq (l:=c.map TR.text) (b:=3600) λp d=>by
  let%[r,hr|1]:=List.mem_map.mp d;exact xO (h r hr)
 rw[fx]at this;exact this
def xP{b:List TR}(h:∀r∈b,r.ok)(hl:b.length<=25):(iB b).length<=100000:=by
 have:=Sc NL (b.map TR.text)
 rw[show NL.length=1 from rfl,Nat.mul_one]at this;let s:=uY h;rw[fx]at this;unfold iB;omega
def Ci{r:TR}{b:List TR}(h:r.ok):iB (r::b)≠"":=λe=>by
 let e1:cd (iB (r::b))=[]:=by rw[e];decide
 let w:=(rV r).2.2;let hw:cd r.word≠[]:=λz=>by
  have:(cd r.word).length=r.word.length:=rfl
  rw[z]at this
  simp at this
  omega
 let d:cd r.text≠[]:=λz=>by
  unfold TR.text SPA TR.parts at z;rw[jE]at z;cases c:r.ints with
  |nil=>have:=h.1;rw[c]at this;simp at this
  |cons a l=>
    rw[c]at z
    have:cd r.word++32::jn 32 (((a::l).map bL).map cd)=[]:=z
    simp at this
 unfold iB NL at e1;rw[jE]at e1;cases b with
 |nil=>exact d e1
 |cons a l=>
   have:cd r.text++10::jn 10 (((a::l).map TR.text).map cd)=[]:=e1
   simp at this
def AG{n:Int}(h0:0<=n)(h1:n<1000000):n.natAbs.log2<1920:=by
 let h2:n.natAbs<2 ^ 40:=#[0]
 by_cases c:n.natAbs=0
 . rw[c];decide
 . have:=(Nat.log2_lt c).mpr h2
   omega
def EI(h:∀c∈cd x,c<1000):PyData.strOk x=true:=by
 unfold PyData.strOk;rw[←Array.all_toList,RG];intro c hc
 have:=h c hc
 exact j2 #[0]
instance spRowT:∀(v:V)(r:TR),vs=[v]->TRAt H v r->r.ok->(∀H',Same H H'->Q (.str r.text) H'):=1
instance tRowT(D:Ends)(σ:St)(H:Hp):∀(a b:Addr)(y:V)(r:TR),σ=[some (.ref a),some (.ref b)]->H a=some (.tup [.str r.word,y])->H b=some (.tup (r.ints.map V.int))->r.ok->(∀H',Same H H'->D.rt (.str r.text) H'):=0
def v3:FnScope ["row","values"] ["row"] (af lA):=%[|5]
def wS(F:#["row_text",lA])(B:Bl mg):#[1,f,fd,["row"],spRowT]:=by
 exists v3
 erw[v,r,1,T,ok,q]at h;refine⟨_,(aa #[aj,1,v3,oW (ag aP (aI ix_tup (pv 0) ae #[1]) ao (aq _)) (aO %[aI ix_tup (pv 0) ae #[1]|aV]) (aI ix_tup (pv 0) ae #[1])]
  (fb (t':=tRowT) (ac (am (bZ pu wh w4 eF ao (aJ (ax kM (cY %[aI ix_tup (pv 0) ae #[1]|aV]) (bX (N:=[]) (ix:=[]) (cl:=[]) rfl
   #[5] rfl (eV (pv 1)) (λ_ _ _=>cr (aR eT rfl B.str hU %[0|aV])))) aV)))) (by
   rintro D σ H ⟨a,b,y,r,rfl,ga,O,ok,q⟩;erw[1,0,a,_,(0),0,1,eS ga,1,y1S,λl hl=>?_];let t:=fj hl (.lst [.str r.word]);let C:upd H l (.lst [.str r.word]) l=some (.lst [.str r.word]):=aX;generalize upd H l (.lst [.str r.word])=U at t C;let d:=t _ _ O;erw[0,b,1,%[_|eS d],λD hD=>?_];apply dN (K:=K) (xs:=r.ints.map V.int) (λi g=>g D=some (.lst (((r.ints.take i).map bL).map V.str))/\Same U g) %[by rw[aX];rfl|fj hD _] (λi g _ h=>eS (h.2 _ _ d)) ?_ ?_
   . rintro i z Y u ⟨c,j⟩;let hi:=(Qs u).1;rw[kv]at u;let%[m,J|1]:=qs u;let L:=ok.2.2 m (lr J);erw[0,m,1,AG L.1 L.2,6];refine⟨_,c,?_,Nx.of hi ⟨?_,λb o e=>?_⟩⟩
     . rw[fx,fx,lw];exact aN (by have:=ok.2.1;omega)
     . rw[aX,nh,J,hI,hI];rfl
     . rw[aB (bh e hD)];exact j _ _ e
   rintro Y ⟨c,j⟩;rw[fx,mu]at c;let x:=j _ _ C;erw[l,D,2,x,c,6,λo ho=>?_]
   . rw[fx,fx];exact bc (by have:=ok.2.1;show 1+r.ints.length<=1000;omega)
   let G4:=fj ho (.lst ([.str r.word]++(r.ints.map bL).map V.str));let s1:=vt ok;let s2:=mv r;let s3:=ok.2.1;erw[_,o,r.parts,1,1,fy (by rw[aX];rfl),4,3,6];rw[EL,jC];exact q _ (t.trans (j.trans G4))))),?_⟩
 let M:∀w:Str,w="claims"∨w="say" -> ¬ V.str w=V.str "coin":=λw e=>by rcases e with z | z <;> rw[z] <;> decide
 cases T with
 | @coin a n e=>
   erw[0,a,_,(0),0,1,eS e,1,1,0,aW rfl ?_];erw[0,a,_,(1),0,1,eS e,1,y1S,λb hb=>?_];let G:=fj hb (.tup [.int n]);erw[a,b,.int n,.coin n,1,G _ _ e,aX,ok,λg S=>q _ (G.trans S)]
 | @claims a b xs e e2=>
   erw[0,a,_,(0),0,1,eS e,1,1,0,az (M _ (.inl rfl)) ?_];erw[0,a,_,(1),0,1,eS e,1,a,b,.ref b,.claims xs,1,e,e2,ok,q]
 | @say a b xs e e2=>
   erw[0,a,_,(0),0,1,eS e,1,1,0,az (M _ (.inr rfl)) ?_];erw[0,a,_,(1),0,1,eS e,1,a,b,.ref b,.say xs,1,e,e2,ok,q]
instance spTalkT:∀(a:Addr)(tv:List V)(rs:List TR),vs=[.ref a]->H a=some (.tup tv)->TRsAt H tv rs->(∀r∈rs,r.ok)->rs.length<=25->(∀H',Same H H'->Q (.str (iB rs)) H'):=1
def wn:FnScope ["talk"] ["talk"] (af ly):=%[|5]
def wR(F:#["talk_text",ly])(v:#[1,"row_text_talktexts",["row"],spRowT]):#[2,f,fd,["talk"],spTalkT]:=by
 exists wn
 erw[a,vs,m,1,n,R,ok,hl,q]at h;refine⟨_,(ac (am (bZ pu wh w4 eF ao (aJ (bX (N:=[]) (ix:=[]) (cl:=[]) rfl
  #[5] rfl (eV (pv 0)) (λ_ _ _=>cr (ai v hr ⋯ rfl %[0|aV]))) aV)))),?_⟩
 let x:=R.len;erw[1,0,a,1,%[_|eS n],λD hD=>?_];apply dN (K:=K) (xs:=vs) (λi j=>j D=some (.lst (((m.take i).map TR.text).map V.str))/\Same H j) %[by rw[aX];rfl|fj hD _] (λi j _ h=>eS (h.2 _ _ n)) ?_ ?_
 . rintro i z y t ⟨c,g⟩;let B:=(Qs t).1;let%[r,d|C]:=R.nth t;erw[0,z,r,1,C.mono (bw g),ok r (lr d),λJ u=>?_];erw[_,u _ _ c,6,Nx.of B %[6|λb o e=>?_]]
   . rw[fx,fx,lw];exact aN #[0]
   . rw[aX,nh,d,hI,hI];rfl
   . rw[aB (bh e hD)];exact u _ _ (g _ _ e)
 rintro y ⟨c,g⟩;rw[x,mu]at c;let s1:=uY ok;erw[_,D,m.map TR.text,1,1,fy c,⋯,6,6]
 . rw[fx];omega
 rw[tO,jC];exact q _ g
instance spTalkR:∀(r:TR)(k:Int),vs=[.str r.text,.int k]->r.ok->(∀v H',Same H H'->TRAt H' v r->Q v H'):=1
def Lo(ss:List Str):PyData.eqv (.list (ss.map PyData.str)) (.list [])=decide (ss=[]):=by
 cases ss <;> simp [PyData.eqv,PyData.eqvAll]
def Fp{K:W.Frag}:∀ss:List Str,RepAll K H (ss.map V.str) (ss.map PyData.str)
 | []=>.nil
 |n::r=>.cons (.str n) (Fp r)
def Bk:∀{ss:List Str},(∀x∈ss,∀c∈cd x,c<1000)->PyData.canLayAll0 (ss.map PyData.str)=true/\PyData.depthAll (ss.map PyData.str)<=1
 | [],_=>by simp [PyData.canLayAll0,PyData.depthAll]
 |r::d,h=>by
   let h1:=EI (h r mj);let h2:=Bk λx b=>h x (pj _ b)
   simp only[nn,PyData.canLayAll0,PyData.depthAll,h2.1,PyData.canLay0,PyData.depth,h1];erw[1,3]
def vh{ss:List Str}(b:∀x∈ss,∀c∈cd x,c<1000):SeqAt.shaped (.list (ss.map PyData.str))=true:=by
 let h:=Bk b;unfold SeqAt.shaped;rw[PyData.canLay0,h.1,Bool.true_and,Su];show PyData.depthAll _+1<=64;omega
def gI:FnScope ["text","number","words","word","figures","values"] Wc (af nJ):=%[|5]
def yq(F:#["talk_row",nJ])(B:Bl mg)(a8:#[1,"is_figures",WB,spTxt kQ]):#[2,f,fd,Wc,spTalkR]:=by
 exists gI
 erw[r,k,1,ok,q]at h;refine⟨_,(aa #[aj,2,gI,bZ pu QX QY jZ (pv 0) %[ao|aV]]
  (aa #[aj,3,gI,aI ix_list (pv 2) ae #[1]]
  (aa #[aj,4,gI,cR wk (pv 2) (dy ae) eA]
  (aa (aG (PW.pt (eO (ag (Ag hr.units) (pv 4) (cY aV) (aq _)) (dL (dO (di (aE (jm rfl) rfl B.all QJ (aJ (bX (N:=[]) (ix:=[]) (cl:=[]) rfl
   #[5] rfl (eC (pv 4)) (λ_ _ _=>cr (ai a8 hr ⋯ rfl %[0|aV]))) aV))))))) (ac yg) au)
  (aa (aj (i:=5) gI.nd rfl (.inl rfl) (aR aY rfl B.tuple bq (aJ (bX (N:=[]) (ix:=[]) (cl:=[]) rfl
   #[5] rfl (eC (pv 4)) (λ_ _ _=>cr (aR eZ rfl B.int hZ %[0|aV]))) aV)))
  (aa (aG (PW.pt (eO (ag aP (pv 3) ao (aq _)) (dL (ag aP (pv 3) ao (aq _))))) (ac (am (aO %[3,5|aV]))) au)
  (aa (aG (PW.pt (eO (ag jY (pv 3) ao (aq _)) (dL (ag ji (aE aD rfl B.len hR %[5|aV]) ae (aq _))))) (ac yg) au)
  (ac (am (aO %[3,aI ix_tup (pv 5) ae #[1]|aV])))))))))),?_⟩
 let tl:=xO ok;let pl:=mv r;let ps:=yk ok;let o5:=ok.2.1;rw[←EL]at ps;erw[0,1,2,⋯,3,by rw[ps];omega,λa ha=>?_];rw[ps];let Ga:=fj ha (.lst (r.parts.map V.str));let ga:upd H a (.lst (r.parts.map V.str)) a=some (.lst (r.parts.map V.str)):=aX;generalize upd H a (.lst (r.parts.map V.str))=H1 at Ga ga;erw[0,a,_,(0),.str r.word,1,1,fy ga,bd (j:=0) (by show((r.word::r.ints.map bL).map V.str)[0]?=_;simp),6];erw[0,(1),1,a,0,fy ga,λb hb=>?_];let ec:hJ (r.parts.map V.str) (some 1) none=(r.ints.map bL).map V.str:=kf (k:=1) (by rw[fx];omega);rw[ec];let Gb:=fj hb (.lst ((r.ints.map bL).map V.str));let gb:upd H1 b (.lst ((r.ints.map bL).map V.str)) b=some (.lst ((r.ints.map bL).map V.str)):=aX;generalize upd H1 b (.lst ((r.ints.map bL).map V.str))=H2 at Gb gb;erw[0,kr _,λe he=>?_];let Ge:=fj he (.lst []);let ge:upd H2 e (.lst []) e=some (.lst []):=aX;generalize upd H2 e (.lst [])=H3 at Ge ge;let d:=Ge _ _ gb;refine⟨_,_,.lst (fy d) (Fp _),.lst (fy ge) .nil,vh (λx U c hc=>by
  let%[m,M|1]:=List.mem_map.mp U
  have:=(ik (ok.2.2 m M).1 c hc).2
  omega),vh (ss:=[]) (λx U=>by cases U),_,rfl,?_⟩
 rw[Lo,ll (λz=>by let h1:=ok.1;rw[List.map_eq_nil_iff.mp z]at h1;exact absurd h1 ⋯)];apply cz ?_;erw[0,b,1,%[_|fy d],λD hD=>?_];apply de (K:=K) (xs:=(r.ints.map bL).map V.str) (λi u=>u D=some (.lst ((List.replicate i true).map V.bl))/\Same H3 u) %[by rw[aX];rfl|fj hD _] (λi u _ h=>fy (h.2 _ _ d)) ?_ ?_
 . rintro i z H4 v ⟨y,S4⟩;let hi:=(Qs v).1;rw[kv]at v;let%[x,U|1]:=qs v;let%[m,M|1]:=List.mem_map.mp (lr U);let C:=ok.2.2 m M;let ml:=tL C.1 C.2;erw[0,bL m,1,3,λH5 O=>?_];rw[pw C.1 #[0]];erw[_,O _ _ y,6,Nx.of hi %[6|λb o e=>?_]]
   . rw[fx,y3];rw[fx,fx]at hi;exact aN #[0]
   . rw[aX,Rf,hI];rfl
   . rw[aB (bh e hD)];exact O _ _ (S4 _ _ e)
 rintro H4 ⟨y,S4⟩;erw[D,0,fy y,0,6];rw[show(List.replicate ((r.ints.map bL).map V.str).length true).all id=true from by simp];apply cz ?_;let Y:=S4 _ _ d;erw[0,b,1,%[_|fy Y],λD2 ab=>?_];apply de (K:=K) (xs:=(r.ints.map bL).map V.str) (λi u=>u D2=some (.lst ((r.ints.take i).map V.int))/\Same H4 u) %[by rw[aX];rfl|fj ab _] (λi u _ h=>fy (h.2 _ _ Y)) ?_ ?_
 . rintro i z H5 v ⟨g,O⟩;let hi:=(Qs v).1;rw[kv,kv,Option.map_map]at v;let%[m,M|1]:=qs v;let C:=ok.2.2 m (lr M);let ml:=tL C.1 C.2;erw[0,bL m,m,1,pq C.1 #[0],3,6];erw[_,g,6,Nx.of hi %[6|λb o e=>?_]]
   . rw[fx,lw];exact aN #[0]
   . rw[aX,nh,M,hI];rfl
   . rw[aB (bh e ab)];exact O _ _ e
 rintro H5 ⟨g,O⟩;rw[fx,fx,mu]at g;erw[D2,0,.inl %[fy g|λt ht=>?_]];let Gt:=fj ht (.tup (r.ints.map V.int));let gt:upd H5 t (.tup (r.ints.map V.int)) t=some (.tup (r.ints.map V.int)):=aX;generalize upd H5 t (.tup (r.ints.map V.int))=H6 at Gt gt;let J:Same H H6:=Ga.trans (Gb.trans (Ge.trans (S4.trans (O.trans Gt))));cases r with
 |coin n=>
   erw[0,1,0,6];apply az (by show ¬ V.str "coin"=V.str "claims";decide) ?_;erw[0,1,0,6];apply az (by show ¬ V.str "coin"=V.str "say";decide) ?_;erw[0,1,0,6];apply mZ rfl ?_;erw[0,t,0,.inr (eS gt),2,0,6];apply az (by show ¬ (1:Int)<1;decide) ?_;erw[0,0,t,_,(0),.int n,1,1,eS gt,1,y2S,λo L=>?_];exact q _ _ (J.trans (fj L _)) (.coin aX)
 |claims ns=>
   erw[0,1,0,aW rfl (dZ %[0,0,y2S|λo L=>q _ _ (J.trans (fj L _)) (.claims aX (fj L _ _ _ gt))])]
 |say ns=>
   erw[0,1,0,az (by show ¬ V.str "say"=V.str "claims";decide) %[0,1,0|aW rfl %[0,0,y2S|λo L=>q _ _ (J.trans (fj L _)) (.say aX (fj L _ _ _ gt))]]]
instance spTalkRd:∀(rs:List TR),vs=[.str (iB rs)]->(∀r∈rs,r.ok)->rs.length<=25->(∀(t:Addr)(tv:List V)(H':Hp),Same H H'->H' t=some (.tup tv)->TRsAt H' tv rs->Q (.ref t) H'):=1
def iF:FnScope ["text","talk","number","row"] WB (af lB):=%[|5]
def wT(F:#["read_talk",lB])(B:Bl mg)(o9:#[2,"talk_row",Wc,spTalkR]):#[3,f,fd,WB,spTalkRd]:=by
 exists iF
 erw[d,1,ok,hl,q]at h;refine⟨_,(aa (aG (ag aP (pv 0) ao (aq _)) (ac (am (aO aV))) au)
  (aa #[aj,1,iF,cY aV]
  (aa (cV n7 rfl (Bt rfl B.enumerate (bZ pu QX QY jZ (pv 0) %[ao|aV])) (om rfl (dB (bn (i:=2) iF.nd rfl (.inl rfl)) (dB (bn (i:=3) iF.nd rfl (.inl rfl)) kJ))) (ac (aQ (bZ qq sk ti ca (pv 1) %[ai o9 hr ⋯ rfl %[3,2|aV]|aV]))))
  (ac (am (aR aY rfl B.tuple bq %[1|aV])))))),?_⟩
 by_cases x:d=[]
 . subst x;erw[0,1,0,aW ⋯ ?_];erw[y0S,λo ho=>?_];exact q o [] _ (fj ho _) aX trivial
 let tl:=xP ok hl;erw[0,1,0,az (λz=>?_) ?_]
 . cases d with
   |nil=>exact x rfl
   |cons r d=>exact Ci (ok r mj) (V.str.inj z)
 erw[kr _,λL hL=>?_];let GL:=fj hL (.lst []);let y:upd H L (.lst []) L=some (.lst []):=aX;generalize upd H L (.lst [])=H1 at GL y;let ts:=zA ok x;rw[←tO]at ts;erw[0,1,2,⋯,3,by rw[ts,fx];omega,λa C=>?_];rw[ts];let D:=fj C (.lst ((d.map TR.text).map V.str));let ga:upd H1 a (.lst ((d.map TR.text).map V.str)) a=some (.lst ((d.map TR.text).map V.str)):=aX;let aL:a≠L:=λz=>by rw[z,y]at C;cases C
 generalize upd H1 a (.lst ((d.map TR.text).map V.str))=H2 at D ga;let J:=D _ _ y;refine⟨a,rfl,%[_|fy ga],yV (K:=K) (xs:=(d.map TR.text).map V.str) (λi σ n=>∃(M N:Option V)(vs:List V),σ=[some (.str (iB d)),some (.ref L),M,N]/\n L=some (.lst vs)/\TRsAt n vs (d.take i)/\SameBut L H2 n)
  %[_,_,[],1,J,trivial|SameBut.refl _ _] (λi σ n _ Qn=>by erw[_,_,_,_,_,_,h]at Qn;exact fy (h _ _ aL ga)) ?_ ?_⟩
 . rintro i z σ O t hz ⟨M,N,vs,rfl,c,j,U⟩ u;rw[kv,kv,Option.map_map]at hz;let%[r,m|1]:=qs hz;let Gt:=fj u (.tup [.int (i:Int),.str r.text]);let vl:=j.len;rw[lw]at vl;erw[t,0,eS aX,1,_,0,2,6];erw[0,.inl %[1,_|fy (Gt _ _ c)],0,0,r,0,ok r (lr m),λv Y S4 ra=>?_];let g:Same O Y:=Gt.trans S4;let kp:bO Y (upd Y L (.lst (vs++[v]))):=λa xs e=>by
    rw[aB]
    . exact e
    . intro z;rw[z,g _ _ c]at e;cases e
   erw[L,2,g _ _ c,aN #[0],6];erw[_,_,vs++[v],1,aX,6,6]
   . rw[nh,m];exact TRsAt.snoc (ra.mono kp) ((j.mono (bw g)).mono kp)
   . exact U.trans ((f4 g).trans (SameBut.upd _))
 . rintro σ O ⟨M,N,vs,rfl,c,j,U⟩;rw[fx,fx,mu]at j;erw[0,L,0,.inl %[fy c|λt u=>?_]];let ab:Same H O:=λb o e=>U b o (bh e hL) (D _ _ (GL _ _ e))
   exact q _ vs _ (ab.trans (fj u _)) aX (j.mono (bw (fj u _)))
def Cj(k:GmK ns ts p)(n6:ns.length<=6):∀(n:Nat) (t:Tk) (cs:List Int),TkOk ns ts p t->cw cs p->cI ns t.z<=n->((eU ns ts p rows cs n t).2.z.aw.1="caught"∨(eU ns ts p rows cs n t).2.z.aw.1="believed")/\(eU ns ts p rows cs n t).1.length<=n/\∀r∈(eU ns ts p rows cs n t).1,r.ok:=by
 let p2:=k.p2;let p9:=k.p9;let fin:∀{t:Tk},TkOk ns ts p t->¬ t.z.aw.1="hear" -> ¬ t.z.aw.1="coin" -> t.z.aw.1="caught"∨t.z.aw.1="believed":=λh a b=>by
  rcases h.gd.ww with c | c | c | c
  . exact absurd c a
  . exact absurd c b
  . exact .inl c
  . exact .inr c
 intro n
 induction n with
 |zero=>
   intro t cs h hc m;erw[fin h (λz=>?_) (λz=>?_),fz _,λr hr=>by cases hr]
   . have:=(me h (.inl z)).1
     omega
   . have:=(me h (.inr z)).1
     omega
 |succ n j=>
   intro t cs h hc m
   by_cases ch:t.z.aw.1="hear"
   . rw [nu ch];let%[o,l|_]:=h.ask (rows:=rows) k n6 ch;let%[h1,h2|h3]:=j _ cs o hc #[0];let g:=h.hear (rows:=rows) k n6 ch;let q:=h.gd.hear_ne k g;erw[h1,on h2,λr hr=>?_];rcases Qq hr with rfl | hr
     . erw[So λz=>q (List.length_eq_zero_iff.mp z),g.x5,λx d=>?_]
       have:=g.xo x d
       omega
     . exact h3 r hr
   . by_cases e:t.z.aw.1="coin"
     . rw [nv e];obtain⟨r0,r1⟩:0<=cs.headD 0/\cs.headD 0<p:=by
        cases cs with
        |nil=>show(0:Int)<=0/\(0:Int)<p;omega
        |cons c cs=>exact hc c mj
       let%[o,l|_]:=h.toss k e r0 r1;let%[h1,h2|h3]:=j _ cs.tail o (λx d=>hc x (List.mem_of_mem_tail d)) #[0];erw[h1,on h2,λr hr=>?_];rcases Qq hr with rfl | hr
       . erw[fz 1,by show 1<=500;decide,λx d=>?_];rw[Qr d];omega
       . exact h3 r hr
     . rw[pQ ch e];erw[fin h ch e,kr _,λr hr=>by cases hr]
def vc(k:GmK ns ts p)(n6:ns.length<=6)(hc:cw cs p):((gO ns ts p rows cs).2.z.aw.1="caught"∨(gO ns ts p rows cs).2.z.aw.1="believed")/\(gO ns ts p rows cs).1.length<=21/\(∀r∈(gO ns ts p rows cs).1,r.ok)/\(gO ns ts p rows cs).1≠[]:=by
 let%[ok,e,b|_]:=xw (rows:=rows) k n6;let%[o,l|_]:=xu (rows:=rows) k n6;let%[h1,h2|h3]:=Cj (rows:=rows) k n6 20 _ cs o hc #[0];let p9:=k.p9;let c:=(Gd.new k).hear_ne k b;erw[h1,on h2,λr hr=>?_,QN _ _];rcases Qq hr with rfl | hr
 . erw[So λz=>c (List.length_eq_zero_iff.mp z),b.x5,λx d=>?_]
   have:=b.xo x d
   omega
 . exact h3 r hr
def ke{z:Db}(h:z.aw.1="caught"∨z.aw.1="believed"):uQ z=awV z.aw:=by
 apply Qi λc=>?_
 rcases h with h | h <;> rw[h]at c <;> rcases c with c | c <;> revert c <;> decide
def yZ{z:Db}(h:z.aw.1="hear"∨z.aw.1="coin"):uQ z=[.str "open"]:=Qk h
def TRsAt.take:∀{vs:List V}{b:List TR}(k:Nat),TRsAt H vs b->TRsAt H (vs.take k) (b.take k)
 | [],[],k,h=>by rw[List.take_nil,List.take_nil];exact h
 |_::_,_::_,0,_=>trivial
 |_::_,_::_,k+1,h=>%[h.1|TRsAt.take k h.2]
 | [],_::_,_,h=>h.elim
 |_::_,[],_,h=>h.elim
def HC{xs:List V}{k:Nat}(b:k<=xs.length):hJ xs none (some (k:Int))=xs.take k:=by
 unfold hJ;rw[HT.sIx_none,HT.sIx_nat,Nat.min_eq_left b];rfl
section
variable {C CM CA CG:Addr}
def Hh{H:Hp}{a b g dx:Addr}{ns:List Str}{j:List V}{Q:VK}(t:H a=some (.tup (ns.map V.str)))(u:H b=some (.tup j))(TS:TreesAt H j ts)(k:GmK ns ts p)(nd:ns.Nodup)(nx:H g=none)(n:H dx=none)(q:∀r,Same H r->Gm CG r g ns ts p->Q .non r):
 spGInit CG [.ref g,.ref a,.ref b,.int p] (upd (upd H dx (.own g)) g (.ins CG dx [])) Q E:=by
 let m:Same H (upd (upd H dx (.own g)) g (.ins CG dx [])):=λb o e=>by
  rw[aB (bh e nx),aB (bh e n)];exact e
 erw[g,dx,a,b,ns,j,ts,p,1,aX,m _ _ t,nd,k.n10,m _ _ u,TS.mono (bw m),k.t1,k.t10,k.tok,k.pr,k.p2,k.p9,k.tp,k.tc,λd v z x hd y=>?_];let c:Same H v:=λb o e=>y b o (bh e nx) (m b o e)
 exact q v c %[a,b,d,j,x,c _ _ t,c _ _ u,TS.mono (bw c)|hd]
structure Gk(ns:List Str)(ts:List Tr)(p:Int):Prop where
 n6:ns.length<=6
 nk:∀x∈ns,NmK x
 nd:ns.Nodup
 k:GmK ns ts p
 t4:ts.length<=4
 tz:∀t∈ts,t.depth<=8/\t.size<=20
def Gk.gm(g:Gk ns ts p):Gmx p ns ts:=
 %[by have:=g.k.p2;omega,by have:=g.k.p9;omega,g.n6,g.nk,g.k.t1,g.t4|λt b=>%[Tr.ok_nm g.nk t (g.k.tok t b).1,(g.tz t b).1|(g.tz t b).2]]
instance spGameIn(CG:Addr):∀(ns:List Str)(ts:List Tr)(p:Int),vs=[.str (kW p ns ts)]->Gk ns ts p->(∀(g:Addr)(H':Hp),Gm CG H' g ns ts p->Same H H'->Q (.ref g) H'):=1
def K8:FnScope ["text","parts"] WB (af qc):=%[|5]
def Ap(F:#["game_in",qc])(T:GTxt K mg CG)(M:Mk K CG n)(o:#[14,n,d,WN,spGInit CG])(r:Binds K d WN [])
 (t:#[26,"read_game",WB,spReadG]):#[27,f,fd,WB,spGameIn CG]:=by
 exists K8
 erw[ns,ts,p,1,gk,q]at h;let c:Room 15 _:=hr.mono ⋯;refine⟨_,(aa #[aj,1,K8,ai t hr ⋯ rfl %[0|aV]]
  (ac (am (jy M o c rfl T.mgC r .nil be %[aI ix_tup (pv 1) ae #[1],aI ix_tup (pv 1) ae #[1],aI ix_tup (pv 1) ae #[1]|aV])))),?_⟩
 erw[0,p,ns,ts,1,gk.gm,λv N u x=>?_];erw[e,a,b,O,1,hg,y,z,j]at u;let TS:=j.trees;erw[0,e,_,(0),0,1,eS hg,at0 ..,0,e,_,(1),0,1,eS hg,at1 ..,0,e,_,(2),0,1,eS hg,at2 ..,λg dx nx m B=>?_];exact Hh y z TS gk.k gk.nd nx m λD J L=>%[1|q g D L (x.trans J)]
instance spHelpIn:∀(rs:List Hr),vs=[.str (ng rs)]->HOk rs->(∀(a:Addr)(tv:List V)(H':Hp),H' a=some (.tup tv)->RowsAt H' tv rs->Same H H'->Q (.ref a) H'):=1
def v4:FnScope ["text","helper"] WB (af lG):=%[|5]
def wY(F:#["helper_in",lG])(j:#[21,"read_helper",WB,spReadH])(m:#[1,"look_helper",WT,spLook]):#[22,f,fd,WB,spHelpIn]:=by
 exists v4
 erw[c,1,g,q]at h;refine⟨_,(aa #[aj,1,v4,ai j hr ⋯ rfl %[0|aV]]
  (aa (aQ (ai m hr ⋯ rfl %[1|aV]))
  (ac (am (pv 1))))),?_⟩
 erw[0,c,1,g.1,λa d r e R n=>?_];erw[0,a,d,c,1,e,R,g.2.2,λo b=>?_];erw[0,q a d o (b _ _ e) (R.mono (bw b)) (n.trans b)]
end
section
variable {C CM CA CG cT:Addr}
def HN{a:Str×Option Int}(h1:a.1.length<=100)(h2:∀i,a.2=some i->0<=i/\i<10 ^ 24):(awV a).length<=10/\∀v∈awV a,JG v:=by
 erw[x,o]at a;cases o with
 |none=>
   erw[by show 1<=10;decide,λv b=>?_]
   have:v=.str x:=by simpa [awV]using b
   rw[this];erw[.inr %[|0],h1]
 |some i=>
   let%[d|e]:=h2 i rfl;erw[by show 2<=10;decide,λv b=>?_]
   have:v=.str x∨v=.int i:=by simpa [awV]using b
   rcases this with rfl | rfl
   . erw[.inr %[|0],h1]
   . erw[.inl %[i,1|6],hQ (Rv d ⋯ e:(bL i).length<=24) ⋯];let h2:i.natAbs<2 ^ 100:=#[0]
     by_cases c:i.natAbs=0
     . rw[c];decide
     . have:=(Nat.log2_lt c).mpr h2
       omega
end
section
variable {C CM CA CG cT:Addr}
def uT(z:Db):Prop:=uR z∨z.aw=(("believed":Str),none)∨z.aw=(("caught":Str),some ((z.to.length:Int)+1))
def yS(z:Db):uT (goOn ns ts p z):=by
 unfold goOn
 by_cases c:z.to.length<ns.length
 . rw[Qk c];exact .inl (.inl rfl)
 . rw [Qi c];unfold fq
   by_cases e:z.ed=hor z.s p (ts.map λt=>t.worth ns z.to p)
   . rw[Qk e];exact .inr (.inl rfl)
   . rw[Qi e];exact .inr (.inr rfl)
def Ev(z:Db)(r:TR):uT (jq ns ts p z r):=by
 let hear:∀xs,uT (cM ns ts p xs z):=λxs=>by
  unfold cM
  split
  . unfold lT
    split
    . exact yS _
    . exact .inl (.inr rfl)
  . unfold gn
    split
    . exact .inl (.inr rfl)
    . exact .inr (.inr rfl)
 cases r with
 |claims xs=>exact hear xs
 |say xs=>exact hear xs
 |coin r=>
   show uT (dz ns ts p r z);unfold dz
   split <;> exact yS _
def oP(k:GmK ns ts p):∀{b:Bool}{z:Db}{d:List TR}{o:Option Db},Runs ns ts p b z d o->Gd ns ts p z->uT z->∀c,o=some c->Gd ns ts p c/\uT c:=by
 intro b z d o h
 induction h with
 |nil=>intro g e c h;cases h;erw[g,e]
 |step h1 _ j=>intro g e c h;exact j (vV k g h1) (Ev _ _) c h
 |stop _=>intro _ _ c h;cases h
def AV{ns:List Str}(n6:ns.length<=6)(g:Gd ns ts p z)(e:uT z):(uQ z).length<=10/\∀v∈uQ z,JG v:=by
 rcases e with e | e | e
 . rw[yZ e];erw[by show 1<=10;decide,λv b=>?_];rw[Qr b];erw[.inr %[|0],4]
 . rw[ke (.inr (by rw[e])),e];exact HN (a:=("believed",none)) ⋯ λi h=>by cases h
 . rw [ke (.inl (by rw[e])),e]
   have:=g.tl
   exact HN (a:=("caught",some ((z.to.length:Int)+1))) (by show("caught":Str).length<=100;decide) λi h=>by cases h;erw[3,3]
def qX(z:Db):Str:=Str.join SP ((uQ z).map wtx)
instance spJudgeOf(cT:Addr)(vs:List V)(H:Hp)(Q:VK)(E:XK):∀(rs:List TR)(ns:List Str)(ts:List Tr)(p:Int)(o:Option Db),vs=[.str (kW p ns ts),.str (iB rs)]->Gk ns ts p->(∀r∈rs,r.ok)->rs.length<=25->Runs ns ts p true (Db.new ts) rs o->(∀(z:Db)(H':Hp),o=some z->Same H H'->Q (.str (qX z)) H')->(o=none->RaisesU cT H E):=0
def C7:FnScope ["game","talk","asked"] WS (af nY):=%[|5]
def yx(F:#["judge_of",nY])(m:#[27,"game_in",WB,spGameIn CG])(n:#[3,"read_talk",WB,spTalkRd])(r:CalB false P w K mg base 23 "judged" WS (spJudgedT C CG cT))(t:#[1,"words_text",["words"],spWords]):FnOk P w K mg base (CXb false P w) 28 f fd WS (spJudgeOf cT):=by
 apply F.okX C7 (λvs H Q E h=>?_) (λcdv A outer s H vs Q E hr h=>?_)
 . erw[d,ns,ts,p,o,1,_]at h;rfl
 erw[d,ns,ts,p,o,1,gk,ro,u,run,q,v]at h;refine⟨_,(aa #[aj,2,C7,ai m hr ⋯ rfl %[0|aV]]
  (ac (am (ai t hr ⋯ rfl %[Bx r hr ⋯ rfl By %[2,ai n hr ⋯ rfl %[1|aV]|aV]|aV])))),?_⟩
 erw[0,ns,ts,p,1,gk,λg H1 x y=>?_];erw[0,0,d,1,ro,u,λa B H2 j D J=>?_];let b:=y.trans j;erw[g,a,B,d,ns,ts,p,o,1,x.same j,gk.k,D,J,3,run,λz e H3 c L he=>?_,λc=>(v c).same b];let%[M|N]:=oP gk.k run (Gd.new gk.k) (.inl (.inl rfl)) z c;let%[O|wd]:=AV gk.n6 M N;erw[e,0,he,O,wd,λU Y=>q z U c (b.trans (L.trans Y))]
end
def uZ:∀(c:List TR)(b:Bool)(z:Db),iN ns ts p b z c->∀r∈c,Shp p r r
 | [],_,_,_,r,h=>by cases h
 |r::c,b,z,h,u,d=>by
   rcases Qq d with rfl | d
   . cases u with
     |claims xs=>exact .claims rfl h.1.2.xo
     |say xs=>exact .say rfl h.1.2.xo
     |coin r=>exact .coin h.1.r0 h.1.r1
   . exact uZ c false _ h.2 u d
def Shps.refl:∀{b:List TR},(∀r∈b,Shp p r r)->Shps p b b
 | [],_=>.nil
 |r::b,h=>.cons (h r mj) (Shps.refl λu c=>h u (pj _ c))
def Shps.set{p:Int}:∀{b:List TR}{i:Nat}{r r':TR},(∀r∈b,Shp p r r)->b[i]?=some r->Shp p r r'->Shps p b (b.set i r')
 | [],i,r,r',_,e,_=>by rw[List.getElem?_nil]at e;cases e
 |r0::b,0,r,r',h,e,s=>by
   rw[List.getElem?_cons_zero]at e;cases e;exact .cons s (Shps.refl λu c=>h u (pj _ c))
 |r0::b,i+1,r,r',h,e,s=>by
   rw[List.getElem?_cons_succ]at e;exact .cons (h r0 mj) (Shps.set (λu c=>h u (pj _ c)) e s)
def Kp{p:Int}(p9:p<=999983){r:TR}(h:r.ok)(s:Shp p r r'):r'.ok:=by
 erw[h1,h2,_]at h;cases s with
 | @claims xs ys l o=>erw[by show 1<=ys.length;rw[l];exact h1,by show ys.length<=500;rw[l];exact h2,λn b=>by have:=o n b;omega]
 | @say xs ys l o=>erw[by show 1<=ys.length;rw[l];exact h1,by show ys.length<=500;rw[l];exact h2,λn b=>by have:=o n b;omega]
 | @coin a q c d=>erw[h1,h2,λn b=>by rw[Qr b];omega]
def TRsAt.set{H:Hp}:∀{vs:List V}{b:List TR}(i:Nat){v:V}{r:TR},TRsAt H vs b->TRAt H v r->TRsAt H (vs.set i v) (b.set i r)
 | [],[],_,_,_,_,_=>trivial
 |_::_,_::_,0,_,_,h,t=>%[t|h.2]
 |_::_,_::_,i+1,_,_,h,t=>%[h.1|TRsAt.set i h.2 t]
 | [],_::_,_,_,_,h,_=>h.elim
 |_::_,[],_,_,_,h,_=>h.elim
def KW{n:Nat}{i:Int}(h0:0<=i)(h1:i<(n:Int)):ixN n i=some i.toNat:=by
 unfold ixN;rw[Qk #[0],Qk #[0]]
instance spOth:∀(f gr a b t:Addr)(p:Int)(tv:List V)(rs:List TR),vs=[.ref f,.ref gr,.ref t]->FeedAt H f->H gr=some (.tup [.ref a,.ref b,.int p])->2<p->p<=999983->H t=some (.tup tv)->TRsAt H tv rs->(∀r∈rs,r.ok)->(∀r∈rs,Shp p r r)->rs≠[]->rs.length<=21->(∀(t':Addr)(tv':List V)(rs':List TR)(H':Hp),H' t'=some (.tup tv')->TRsAt H' tv' rs'->((∃k,rs'=rs.take k)∨Shps p rs rs')->(∀r∈rs',r.ok)->rs'.length<=21->FeedAt H' f->SameBut f H H'->Q (.ref t') H'):=1
instance tO75(Dn:Ends)(σ:St)(H:Hp):∀(x0 x1 x2 x4 x5 x6 x7 x8:Option V)(L:Addr)(vs:List V),σ=[x0,x1,x2,some (.ref L),x4,x5,x6,x7,x8]->H L=some (.lst vs)->(∀(t:Addr)(H':Hp),Same H H'->H' t=some (.tup vs)->Dn.rt (.ref t) H'):=0
def HI{a b:Addr}{xs ys:List V}{H:Hp}{Q:VK}(j:H a=some (.tup xs))(g:H b=some (.tup ys))(ne:ys≠[])(l:xs.length+ys.length<=sizeLine)(q:∀c d,Same H d->d c=some (.tup (xs++ys))->Q (.ref c) d):rCatA K (.ref a) (.ref b) H Q:=%[a,b,xs,ys,1,1,eS j,eS g,ne,l,λe=>q b H (Same.refl _) (by rw[e];exact g)|λ_ p m=>q p _ (fj m _) aX]
def HH{a b:Addr}{xs ys:List V}{H:Hp}{Q:VK}(g:H a=some (.tup xs))(j:H b=some (.tup ys))(ne:xs≠[])(l:xs.length+ys.length<=sizeLine)(q:∀c d,Same H d->d c=some (.tup (xs++ys))->Q (.ref c) d):rCatT K (.ref a) (.ref b) H Q:=%[a,b,xs,ys,1,1,eS g,eS j,ne,l,λe=>q a H (Same.refl _) (by rw[e,My];exact g)|λ_ p m=>q p _ (fj m _) aX]
def fQ:FnScope ["_law_feed_here","_law_game_here","_law_talk","_law_rows","_law_form","_law_at","_law_word","_law_held","_law_k"] VC (af pX):=%[|5]
def Ji{xs:List Int}{d:Int}{k:Nat}(h:k<xs.length):(xs.take k++[d]++xs.drop (k+1)).length=xs.length:=by
 rw[gl,gl,lw,QL,q0];omega
def KM{d:Int}{k:Nat}(o:cw xs p)(b:0<=d)(d1:d<p):cw (xs.take k++[d]++xs.drop (k+1)) p:=λx c=>by
 rcases qH0 c with h | h
 . rcases qH0 h with h | h
   . exact o x (List.mem_of_mem_take h)
   . rw[Qr h];erw[b,d1]
 . exact o x (List.mem_of_mem_drop h)
def Aj(F:#["_law_other",pX])(B:Bl mg)(a7:#[1,"_law_take",WF,spTake]):#[2,f,fd,VC,spOth]:=by
 exists fQ
 erw[f,gr,a,b,t,p,g,rs,1,F0,hg,p2,p9,ht,TV,ro,ss,r0,rl,q]at h;refine⟨_,(aa #[aj,3,fQ,aR iM rfl B.list jo %[2|aV]]
  (aa #[aj,4,fQ,ai a7 hr ⋯ rfl %[0,ae|aV]]
  (aa (aG (ag aP (pv 4) ae (aq _)) (ac (am (aR aY rfl B.tuple bq %[cR wk (pv 3) eA (dy (ai a7 hr ⋯ rfl %[0,ax aU (aE aD rfl B.len hR %[3|aV]) ae|aV]))|aV]))) au)
  (aa #[aj,5,fQ,ai a7 hr ⋯ rfl %[0,aE aD rfl B.len hR %[3|aV]|aV]]
  (aa (oh (aI ix_list (pv 3) (pv 5) #[1]) (om rfl (dB (bn (i:=6) fQ.nd rfl (.inl rfl)) (dB (bn (i:=7) fQ.nd rfl (.inl rfl)) kJ))))
  (aa (aG (ag aP (pv 6) ao (aq _)) (ac (oh (aO %[6,ai a7 hr ⋯ rfl %[0,aI ix_tup (pv 1) ae #[1]|aV]|aV]) (tE (pv 3) (pv 5) li)))
   (aa #[aj,8,fQ,ai a7 hr ⋯ rfl %[0,aE aD rfl B.len hR %[7|aV]|aV]]
   (ac (oh (aO %[6,ax op_catT (ax BD (cR oz (pv 7) eA (dy (pv 8))) (aO %[ai a7 hr ⋯ rfl %[0,aI ix_tup (pv 1) ae #[1]|aV]|aV])) (cR oz (pv 7) (dy (ax aU (pv 8) ae)) eA)|aV]) (tE (pv 3) (pv 5) li)))))
  (fb (t':=tO75) (ac (am (aR aY rfl B.tuple bq %[3|aV]))) ?cO))))))),?_⟩
 case cO=>
  rintro Dn σ H ⟨x0,x1,x2,x4,x5,x6,x7,x8,L,vs,rfl,hL,q⟩;erw[0,L,0,.inl %[fy hL|λt ht=>q t _ (fj ht _) aX]]
 erw[0,t,0,.inr (eS ht),λL hL=>?_];let I1:=fj hL (.lst g);let e1:upd H L (.lst g) L=some (.lst g):=aX;let U:L≠f:=F0.ne hL;generalize upd H L (.lst g)=H1 at I1 e1;let tl:=TV.len;erw[0,f,(3),1,F0.same I1,4,4,λm H2 m0 m3 F2 B2=>?_];let e2:=B2 _ _ U e1;let S2:SameBut f H H2:=(f4 I1).trans B2;erw[0,1,0,6]
 by_cases c:m=0
 . apply aW (congrArg V.int c) ?_;erw[0,0,0,L,g,1,.inl (fy e2),6];erw[2,f,(g.length:Int)+1,1,F2,3,3,λd H3 d0 d1 F3 B3=>?_];let e3:=B3 _ _ U e2;erw[d,1,L,g,1,fy e3,λL2 an=>?_];let ed:d=(d.toNat:Int):=#[0]
   let dl:d.toNat<=g.length:=#[0]
   let ec:hJ g none (some d)=g.take d.toNat:=by rw[ed];exact HC dl
   rw[ec];let O:SameBut f H (upd H3 L2 (.lst (g.take d.toNat))):=(S2.trans B3).trans (f4 (fj an _));let F4:=F3.same (fj an (.lst (g.take d.toNat)));erw[L2,0,.inl %[fy aX|λt2 J=>?_]];let Y:=O.trans (f4 (fj J (.tup (g.take d.toNat))));exact q t2 _ (rs.take d.toNat) _ aX ((TV.take _).mono λa xs e=>Y _ _ (jA F0 e λ_ z=>by cases z) e) (.inl %[|0]) (λr hr=>ro r (List.mem_of_mem_take hr)) (by rw[lw];omega) (F4.same (fj J _)) Y
 apply az (λz=>c (V.int.inj z)) ?_;let lp:0<rs.length:=List.length_pos_iff.mpr r0;erw[0,0,L,g,1,.inl (fy e2),f,(g.length:Int),1,F2,3,3,λk H3 k0 k1 F3 B3=>?_];let e3:=B3 _ _ U e2;let O:=S2.trans B3;let ek:k=(k.toNat:Int):=#[0]
 let kl:k.toNat<g.length:=#[0]
 obtain⟨v,hv⟩:∃v,g[k.toNat]?=some v:=%[_|j3 kl]
 let%[r,er|ra]:=TV.nth hv;let rm:=lr er;let tup:∀{a:Addr}{xs:List V}{C:Hp},SameBut f H C->H a=some (.tup xs)->C a=some (.tup xs):=λS e=>S _ _ (jA F0 e λ_ z=>by cases z) e
 let ea:atI g k=some v:=by rw[ek];exact bd hv
 let ex:ixN g.length k=some k.toNat:=KW k0 k1;let ap:=ss r rm;let D:=ro r rm;let fin:∀(C:Hp)(o:Addr)(r':TR)(Dn:Ends)(x4 x5 x6 x7 x8:Option V),SameBut f H C->FeedAt C f->C L=some (.lst g)->TRAt C (.ref o) r'->Shp p r r'->Dn.rt=Q->tO75 Dn [some (.ref f),some (.ref gr),some (.ref t),some (.ref L),x4,x5,x6,x7,x8] (upd C L (.lst (g.set k.toNat (.ref o)))):=λC o r' Dn x4 x5 x6 x7 x8 S F5 aC aH sh eD=>by
  let kp:bO C (upd C L (.lst (g.set k.toNat (.ref o)))):=λa xs e=>by
   rw[aB (λz=>by rw[z,aC]at e;cases e)];exact e
  erw[_,_,_,_,_,_,_,_,L,0,aX,λt2 H2 S2 J=>?_];rw[eD];let SB:SameBut f H (upd C L (.lst (g.set k.toNat (.ref o)))):=λb x n e=>by
   rw[aB (bh e hL)];exact S b x n e
  apply q t2 _ (rs.set k.toNat r') H2 J (((((TV.mono λa xs e=>tup S e).set k.toNat aH).mono kp).mono (bw S2))) (.inr (Shps.set ss er sh)) (λu hu=>?_) (by rw[RI];exact rl) ((lV F5 U).same S2) (SB.trans (f4 S2));rcases List.mem_or_eq_of_mem_set hu with h | h
  . exact ro u h
  . rw[h];exact Kp p9 D sh
 erw[0,0,L,g,k,0,1,fy e3,ea,6];let two:(∃ad x,v=.ref ad/\r=.coin x/\H ad=some (.tup [.str "coin",.int x]))∨∃(ad b:Addr) (wd:Str) (xs:List Int) (mk:List Int->TR),v=.ref ad/\¬ V.str wd=V.str "coin"/\H ad=some (.tup [.str wd,.ref b])/\H b=some (.tup (xs.map V.int))/\cw xs p/\1<=xs.length/\xs.length<=500/\(∀(o y:Addr) (C:Hp) (ys:List Int),C o=some (.tup [.str wd,.ref y])->C y=some (.tup (ys.map V.int))->TRAt C (.ref o) (mk ys))/\(∀ys,ys.length=xs.length->cw ys p->Shp p r (mk ys)):=by
  cases ra with
  | @coin ad x M=>exact .inl %[ad,x,1,1|M]
  | @claims ad b xs M hb=>
    cases ap with
    |claims _ o=>exact .inr %[ad,b,_,xs,.claims,1,4,M,hb,o,D.1,D.2.1,λ_ _ _ _ h1 h2=>.claims h1 h2|λ_ h1 h2=>.claims h1 h2]
  | @say ad b xs M hb=>
    cases ap with
    |say _ o=>exact .inr %[ad,b,_,xs,.say,1,4,M,hb,o,D.1,D.2.1,λ_ _ _ _ h1 h2=>.say h1 h2|λ_ h1 h2=>.say h1 h2]
 clear ra;rcases two with⟨ad,x,rfl,rfl,M⟩ | ⟨ad,b,wd,xs,mk,rfl,nw,M,hb,pt,x1,x5,aK,aL⟩
 . let h3:=tup O M;erw[ad,0,eS h3,1,_,0,2,6];erw[0,1,0,aW rfl ?_];erw[0,0,0,gr,_,(2),0,1,eS (tup O hg),1,f,p,1,F3,3,3,λd H4 d0 d1 F4 B4=>?_];erw[y2S,λo ho=>?_];let Y:=(O.trans B4).trans (f4 (fj ho (.tup [.str "coin",.int d])));let e4:=fj ho (.tup [.str "coin",.int d]) _ _ (B4 _ _ U e3);erw[0,0,L,_,k,0,1,e4,ex,fin _ o (.coin d) _ _ _ _ _ _ Y (F4.same (fj ho _)) e4 (.coin aX) (.coin d0 d1) rfl]
 let h3:=tup O M;let aT:=tup O hb;erw[ad,0,eS h3,1,_,0,2,6];erw[0,1,0,az nw ?_];let xm:(xs.map V.int).length=xs.length:=fx _;erw[0,0,b,0,.inr (eS aT),f,((xs.map V.int).length:Int),1,F3,3,3,λj H4 j0 j1 F4 B4=>?_];let Y:=O.trans B4;let e4:=B4 _ _ U e3;let ar:=tup Y hb;let ej:j=(j.toNat:Int):=#[0]
 let jl:j.toNat<xs.length:=#[0]
 erw[0,0,0,j,1,b,0,eS ar,ar,λc1 H5 S5 ab=>?_];let a0:hJ (xs.map V.int) none (some j)=(xs.take j.toNat).map V.int:=by rw[ej,HC #[0],List.map_take];rfl
 rw[a0]at ab;let as:=Y.trans (f4 S5);erw[0,0,gr,_,(2),0,1,eS (tup as hg),1,f,p,1,F4.same S5,3,3,λd H6 d0 d1 F6 B6=>?_];erw[y1S,λo1 a8=>?_];let N7:=fj a8 (.tup [.int d]);let e7:upd H6 o1 (.tup [.int d]) o1=some (.tup [.int d]):=aX;let F7:=F6.same N7;let av:=N7 _ _ (B6 _ _ (jA (F4.same S5) ab λ_ z=>by cases z) ab);let ah:=(as.trans B6).trans (f4 N7);let E7:=N7 _ _ (B6 _ _ U (S5 _ _ e4));generalize upd H6 o1 (.tup [.int d])=H7 at e7 F7 av ah E7;let bi:((xs.take j.toNat).map V.int).length<=500:=by rw[fx,lw];omega
 apply HI av e7 (QN _ _) (by have:502<=sizeLine:=⋯;rw[q0];omega) λc2 H8 S8 a9=>?_
 let aw:=tup (ah.trans (f4 S8)) hb;erw[0,0,2,0,b,0,eS aw,aw,λc3 H9 S9 aA=>?_];let bb:hJ (xs.map V.int) (some (j+1)) none=(xs.drop (j.toNat+1)).map V.int:=by
  rw[show j+1=((j.toNat+1:Nat):Int) by omega,kf #[0],List.map_drop]
 rw[bb]at aA;let bm:((xs.drop (j.toNat+1)).map V.int).length<=500:=by rw[fx,QL];omega
 apply HH (S9 _ _ a9) aA (λz=>by have:=(List.append_eq_nil_iff.mp z).2;cases this) (by have:1002<=sizeLine:=⋯;rw[gl,q0];omega) λy bo bf hy=>?_
 rw[show(xs.take j.toNat).map V.int++[V.int d]++(xs.drop (j.toNat+1)).map V.int=(xs.take j.toNat++[d]++xs.drop (j.toNat+1)).map V.int by simp]at hy;erw[y2S,λo ho=>?_];let N:=S8.trans (S9.trans (bf.trans (fj ho (.tup [.str wd,.ref y]))));let bg:=fj ho (.tup [.str wd,.ref y]) _ _ hy;erw[0,0,L,_,k,0,1,N _ _ E7,ex,fin _ o (mk (xs.take j.toNat++[d]++xs.drop (j.toNat+1))) _ _ _ _ _ _ (ah.trans (f4 N)) (F7.same N) (N _ _ E7) (aK _ _ _ _ aX bg) (aL _ (Ji jl) (KM pt d0 d1)) rfl]
instance spEndTx:∀(e:Addr)(x:Str)(xs:List Int),vs=[.ref e]->H e=some (.tup (.str x::xs.map V.int))->x.length<=100->xs.length<=5->(∀n∈xs,0<=n/\n<1000000000000)->(∀H',Same H H'->Q (.str (Str.join SP ((V.str x::xs.map V.int).map wtx))) H'):=1
def uy:FnScope Wk Wk (af kD):=%[|5]
def uH(F:#["_law_end_text",kD])(B:Bl mg):#[1,f,fd,Wk,spEndTx]:=by
 exists uy
 erw[e,x,xs,1,he,x1,x5,t,q]at h;erw[_,(ac (am (bZ pu wh w4 eF ao %[ax kM (cY %[aI ix_tup (pv 0) ae #[1]|aV]) (bX (N:=[]) (ix:=[]) (cl:=[]) rfl #[5] rfl (eV (cR oz (pv 0) (dy ae) eA)) (λ_ _ _=>cr (aR eT rfl B.str hU %[0|aV])))|aV]))),6];erw[1,0,e,_,(0),0,1,eS he,at0 ..,y1S,λm u=>?_];let v:=fj u (.lst [.str x]);let e1:upd H m (.lst [.str x]) m=some (.lst [.str x]):=aX;let g:=v _ _ he;generalize upd H m (.lst [.str x])=H1 at v e1 g;erw[0,(1),1,e,0,eS g,g,λc O L hc=>?_];let U:hJ (.str x::xs.map V.int) (some 1) none=xs.map V.int:=kf (xs:=.str x::xs.map V.int) (k:=1) (by rw[ij];omega);rw[U]at hc;let e2:=L _ _ e1;erw[c,1,%[_|eS hc],λD hD=>?_];apply dN (K:=K) (xs:=xs.map V.int) (λi y=>y D=some (.lst (((xs.take i).map bL).map V.str))/\Same O y) %[by rw[aX];rfl|fj hD _] (λi y _ h=>eS (h.2 _ _ hc)) ?_ ?_
 . rintro i z Y C ⟨d,r⟩;let M:=(Qs C).1;rw[fx]at M;rw[kv]at C;let%[n,j|1]:=qs C;let nr:=t n (lr j);erw[0,n,1,6,_,d,6,6]
   . exact gZ nr.1 nr.2
   . rw[fx,fx,lw];exact aN #[0]
   rw[fx];apply Nx.of M %[6|λb o h=>?_]
   . rw[aX,nh,j,hI,hI];rfl
   . rw[aB (bh h hD)];exact r _ _ h
 rintro Y ⟨d,r⟩;rw[fx,mu]at d;erw[m,D,2,r _ _ e2,d,bc (by rw[fx,fx];show 1+xs.length<=1000;omega),λL4 J=>?_];let I4:=fj J (.lst ([.str x]++(xs.map bL).map V.str));erw[_,L4,x::xs.map bL,1,1,fy aX,⋯,6,6]
 . have:=iq (l:=xs.map bL) (b:=12) λp hp=>by
    let%[n,j|1]:=List.mem_map.mp hp;exact dQ (t n j).1 (t n j).2
   rw[fx]at this;rw[nn,t7,ij,fx];omega
 . rw [vg,jC];let ew:(V.str x::xs.map V.int).map wtx=x::xs.map bL:=by
    rw[nn,List.map_map];rfl
   rw[←ew];exact q _ (v.trans (L.trans (r.trans I4)))
section
variable {C CM CA CG:Addr}
def Er(x:List TR×Tk):Str:=iB x.1++NL++Str.join SP ((awV x.2.z.aw).map wtx)
instance spTalkOf:∀(ns:List Str)(ts:List Tr)(p:Int)(rs:List Hr)(cs:List Int),vs=[.str (kW p ns ts),.str (ng rs),.str (Str.join SP (cs.map bL))]->Gk ns ts p->HOk rs->((cs.length:Int)=if ts.length=1 then(ns.length:Int)else(ns.length:Int)+1)->cw cs p->(∀H',Same H H'->Q (.str (Er (gO ns ts p rs cs))) H'):=1
def vb{b:List TR}(h:∀r∈b,r.ok)(hl:b.length<=25):(iB b).length+2000<=sizeLine:=by
 have:=xP h hl
 have:102000<=sizeLine:=by decide
 omega
def HM(k:GmK ns ts p)(n6:ns.length<=6)(hc:cw cs p):uT (gO ns ts p rows cs).2.z/\Gd ns ts p (gO ns ts p rows cs).2.z:=by
 let t:=Bh (rows:=rows) k n6 hc;let r:=rK _ _ _ t.1;rw[t.2]at r
 have:=oP k r (Gd.new k) (.inl (.inl rfl)) _ rfl
 erw[this.2,this.1]
def zb{ws:List V}(e:ws.length<=10)(wd:∀v∈ws,JG v):(Str.join SP (ws.map wtx)).length<=1100:=by
 let a:=Sc SP (ws.map wtx);rw[show SP.length=1 from rfl,Nat.mul_one,fx]at a;let b:=iq (l:=ws.map wtx) (b:=100) λp c=>by
  let%[v,d|1]:=List.mem_map.mp c;exact(wd v d).2
 rw[fx]at b;omega
def j9:FnScope ["game","helper","coins","asked","rows","told"] WR (af pT):=%[|5]
def Ah(F:#["talk_of",pT])(T:GTxt K mg CG)(mC:Meth K CG "coins" fC)(GC:#[1,fC,m,WA,spCoins CG])(bC:Binds K m WA [])
 (g9:#[27,"game_in",WB,spGameIn CG])(oB:#[22,"helper_in",WB,spHelpIn])(i4:#[27,"talked",WR,spTalked C CM CG])(lj:#[2,"numbers_in",["text","many","p"],spNumsIn])(cG:#[2,"talk_text",["talk"],spTalkT])(e9:#[1,"words_text",["words"],spWords]):#[28,f,fd,WR,spTalkOf]:=by
 exists j9
 erw[ns,ts,p,e,cs,1,gk,D,cl,co,q]at h;let Qt:Room 1 _:=hr.mono ⋯;refine⟨_,(aa #[aj,3,j9,ai g9 hr ⋯ rfl %[0|aV]]
  (aa #[aj,4,j9,ai oB hr ⋯ rfl %[1|aV]]
  (aa #[aj,5,j9,ai i4 hr ⋯ rfl %[3,4,ai lj hr ⋯ rfl %[2,ci (pv 3) T.cl mC GC Qt bC .nil be,aF (pv 3) rfl|aV]|aV]]
  (ac (am (ax gY (ax gY (ai cG hr ⋯ rfl %[aI ix_tup (pv 5) ae #[1]|aV]) ao) (ai e9 hr ⋯ rfl %[aI ix_tup (pv 5) ae #[1]|aV]))))))),?_⟩
 let k:=gk.k;let n6:=gk.n6;let p9:=k.p9;let t1:=k.t1;erw[0,ns,ts,p,1,gk,λg H1 G1 S1=>?_];erw[0,e,1,D,λa tv H2 ha R J=>?_];let L:=G1.same J;let%[M,N,O,n,%[dx|hg],r,t,u|_]:=id L;let vl:=u.length;let v:(gf M N p O).lookup ("coins":Str)=none:=vG _ _ _ _ ⋯ ⋯ ⋯ ⋯;erw[0,0,0,0,g,dx,0,hg,v,g,M,N,O,ns,n,p,1,%[dx|hg],r,t,6];erw[0,g,CG,dx,_,0,hg,9,T.nF,jD ..,6];let c7:cs.length<=7:=by split at cl <;> omega
 let ce:ns.length+(if 1<ts.length then 1 else 0)<=cs.length:=by
  by_cases c:ts.length=1
  . rw[Qi #[0]];rw[Qk c]at cl;omega
  . rw[Qk #[0]];rw[Qi c]at cl;omega
 erw[cs,_,p,1,by rw[vl];exact cl,3,co,3,λl H3 _ hl j=>?_];erw[g,a,l,tv,e,ns,ts,p,cs,1,L.same j,k,n6,j _ _ ha,R.mono (bw j),D.2.1,.inl hl,co,ce,3,λo H4 S4 W=>?_];let d:=vc (rows:=e) k n6 co;let%[U|Y]:=HM (rows:=e) k n6 co;let eE:=ke d.1;generalize gO ns ts p e cs=x at W d U Y eE q;erw[y,xt]at x;erw[b,c,vs,hx,hb,TV,hc]at W.ex;let%[z|wd]:=AV n6 Y U;rw[eE]at z wd;let tl:(iB y).length+2000<=sizeLine:=vb d.2.2.1 (hQ d.2.1 ⋯);let jl:=zb z wd;erw[0,o,_,(0),0,1,eS hx,at0 ..,b,vs,y,1,hb,TV,d.2.2.1,hQ d.2.1 ⋯,λH5 B=>?_];erw[2,by show(iB y).length+1<=sizeLine;omega,6];erw[0,o,_,(1),0,1,eS (B _ _ hx),at1 ..,c,0,B _ _ hc,z,wd,λH6 S6=>?_];erw[2,6,6]
 . rw [i0]
   have:("\n":Str).length=1:=rfl
   omega
 . rw[tO];exact q H6 (S1.trans (J.trans (j.trans (S4.trans (B.trans S6)))))
end
section
variable {C CG cT:Addr}
def Jy:Option Db->Str
 |none=>"refused"
 |some z=>qX z
def za{ns:List Str}(n6:ns.length<=6)(g:Gd ns ts p z)(e:uT z):∃(x:Str)(xs:List Int),uQ z=.str x::xs.map V.int/\x.length<=100/\xs.length<=5/\∀n∈xs,0<=n/\n<1000000000000:=by
 rcases e with e | e | e
 . erw["open",[],yZ e,4,kr _,λn h=>by cases h]
 . erw["believed",[],by rw[ke (.inr (by rw[e])),e];rfl,4,kr _,λn h=>by cases h]
 . have:=g.tl
   erw["caught",[(z.to.length:Int)+1],by rw[ke (.inl (by rw[e])),e];rfl,4,(by show 1<=5;decide),λn h=>by rw[Qr h];omega]
instance spJgd(CG:Addr):∀(g a:Addr)(tv:List V)(rs:List TR)(ns:List Str)(ts:List Tr)(p:Int)(o:Option Db),vs=[.str (kW p ns ts),.ref g,.ref a]->Gm CG H g ns ts p->Gk ns ts p->H a=some (.tup tv)->TRsAt H tv rs->(∀r∈rs,r.ok)->rs.length<=25->Runs ns ts p true (Db.new ts) rs o->(∀H',Same H H'->Q (.bl true) H'):=1
instance tJ75(Dn:Ends)(σ:St)(H:Hp):∀(g a:Addr)(x4:Option V)(tv:List V)(rs:List TR)(ns:List Str)(ts:List Tr)(p:Int)(o:Option Db),σ=[some (.str (kW p ns ts)),some (.ref g),some (.ref a),some (.str (Jy o)),x4]->Gk ns ts p->H a=some (.tup tv)->TRsAt H tv rs->(∀r∈rs,r.ok)->rs.length<=25->Runs ns ts p true (Db.new ts) rs o->(∀H',Same H H'->Dn.rt (.bl true) H'):=0
def e6:FnScope ["_law_text","_law_known","_law_talk","_law_due","_law_found"] VD (af nU):=%[|5]
def yv{CA:Addr}(F:#["_law_judged",nU])(d:mg "AskError"=some (.ref CA))(hA:xA K CA)(N:NoX P w K mg base "NoTurn" cT CA fN L)
 (M:CalB false P w K mg base 23 "judged" WS (spJudgedT C CG cT))(O:CalB false P w K mg base 28 "judge_of" WS (spJudgeOf cT))(U:#[2,"talk_text",["talk"],spTalkT])(Y:#[1,"_law_end_text",Wk,spEndTx]):#[29,f,fd,VD,spJgd CG]:=by
 exists e6
 erw[g,a,v,t,ns,ts,p,o,1,G,gk,j,m,ro,n,run,q]at h;refine⟨_,(aa #[aj,3,e6,ao]
  (aa #[aj,4,e6,ao]
  (aa (ye rfl d hA (Ft (i:=3) e6.nd rfl (.inl rfl) Y M hr ⋯ ⋯ rfl rfl (λ_=>aJ (pv 1) %[2|aV])) (λe=>ac #[aj,3,e6,ao]))
  (fb (t':=tJ75) (aa (ye rfl d hA (IK (i:=4) e6.nd rfl (.inl rfl) O hr ⋯ rfl (λ_=>aJ (pv 0) %[ai U hr ⋯ rfl %[2|aV]|aV])) (λe=>ac #[aj,4,e6,ao]))
  (ac (am (ig aP (pv 4) (pv 3) (aq _))))) ?cJ)))),?_⟩
 case cJ=>
  rintro Dn σ H ⟨g,a,x4,v,t,ns,ts,p,o,rfl,gk,j,m,ro,n,run,q⟩;erw[0,0,a,v,t,1,j,m,ro,n,λD b=>?_];erw[t,ns,ts,p,o,1,gk,ro,n,run,λz u c r=>?_,λc e dx u r he=>?_]
  . subst c;erw[0,0,1,6];rw[show decide (V.str (qX z)=V.str (Jy (some z)))=true from j2 rfl];exact q u (b.trans r)
  . subst c;erw[e,cT,dx,1,1,he,N.cl,0,0,1,6];rw[show decide (V.str "refused"=V.str (Jy none))=true from j2 rfl];exact q u (b.trans r)
 erw[0,0,g,a,v,t,ns,ts,p,o,1,G,gk.k,j,m,3,run,λz e D c b he=>?_,λc e dx D b he=>?_]
 . subst c;let%[gz|ez]:=oP gk.k run (Gd.new gk.k) (.inl (.inl rfl)) z rfl;let%[x,xs,J,x1,x5|xr]:=za gk.n6 gz ez;rw[J]at he;erw[e,x,xs,1,he,x1,x5,xr,λu r=>?_];let et:Str.join SP ((V.str x::xs.map V.int).map wtx)=Jy (some z):=by rw[←J];rfl
   rw[et];let S:=b.trans r;erw[_,_,_,_,_,_,_,_,0,gk,S _ _ j,m.mono (bw S),ro,n,run,λy B=>q y (S.trans B)]
 . subst c;erw[e,cT,dx,1,1,he,N.cl,6];erw[_,_,_,_,_,_,_,_,none,1,gk,b _ _ j,m.mono (bw b),ro,n,run,λy B=>q y (b.trans B)]
end
def Tr.depth_size:∀t:Tr,t.depth<=t.size
 |.is _=>fz 1
 |.yes=>fz 1
 |.no=>fz 1
 |.not a=>by
   have:=Tr.depth_size a
   show a.depth+1<=a.size+1;omega
 |.bin _ a b=>by
   have:=Tr.depth_size a
   have:=Tr.depth_size b
   show max a.depth b.depth+1<=a.size+b.size+1;omega
instance spLCoins:∀(f dr a b:Addr)(p m:Int),vs=[.ref f,.ref dr,.int m]->FeedAt H f->H dr=some (.tup [.ref a,.ref b,.int p])->2<p->p<=999983->0<=m->m<=20->(∀(l:Addr)(cs:List Int)(H':Hp),H l=none->H' l=some (.lst (cs.map V.int))->(cs.length:Int)=m->cw cs p->FeedAt H' f->SameBut f H H'->Q (.ref l) H'):=1
def zJ:FnScope Ww Ww (af pZ):=%[|5]
def An(F:#["_law_coins",pZ])(B:Bl mg)(y:#[1,"_law_take",WF,spTake]):#[2,f,fd,Ww,spLCoins]:=by
 exists zJ
 erw[f,dr,a,b,p,m,1,C,hd,p2,p9,m0,m1,q]at h;refine⟨_,(ac (am (bX (N:=["_law_feed_here","_law_game_here"]) (ix:=[0,1]) rfl
  #[4] rfl
  (cZ rfl B.range %[2|aV]) (λ_ _ _=>cr (aI (yM K) (cY %[ai y hr ⋯ rfl %[1,aI (BE K) (pv 2) ae #[1]|aV],ai y hr ⋯ rfl %[1,ae|aV],ax bz (aI (BE K) (pv 2) ae #[1]) ae|aV]) (ai y hr ⋯ rfl %[1,ae|aV]) #[1]))))),?_⟩
 erw[0,0,3,3,λD hD=>?_];let Df:D≠f:=C.ne hD;apply fw (λi d=>∃cs:List Int,d D=some (.lst (cs.map V.int))/\cs.length=i/\cw cs p/\FeedAt d f/\SameBut f H d) %[[],by rw[aX];rfl,1,(λx J=>by cases J),C.same (fj hD _)|f4 (fj hD _)] ?_ ?_
 . rintro i M hi ⟨cs,hc,cl,co,u,v⟩;let g:=v _ _ (jA C hd (by intro ys z;cases z)) hd;erw[0,0,dr,_,(2),0,1,eS g,1,f,p,1,u,3,3,λd1 H2 a0 a1 F2 B2=>?_];let n:=B2 _ _ (jA u g (by intro ys z;cases z)) g;erw[0,f,(2),1,F2,4,4,λd2 H3 b0 b1 F3 B3=>?_];let O:=B3 _ _ (jA F2 n (by intro ys z;cases z)) n;erw[0,dr,_,(2),0,1,eS O,1,2,y3S,λL hL=>?_];let U:=fj hL (.lst [.int d1,.int d2,.int (p-1)]);let eL:upd H3 L (.lst [.int d1,.int d2,.int (p-1)]) L=some (.lst [.int d1,.int d2,.int (p-1)]):=aX;let Lf:L≠f:=F3.ne hL;generalize upd H3 L (.lst [.int d1,.int d2,.int (p-1)])=H4 at U eL;erw[0,f,(3),1,F3.same U,4,4,λd3 Y c0 c1 F5 B5=>?_];let j:=B5 _ _ Lf eL;let S5:SameBut f M Y:=B2.trans (B3.trans ((f4 U).trans B5));let ab:=S5 _ _ Df hc;let fin:∀r:Int,0<=r->r<p->∃ys,Y D=some (.lst ys)/\ys.length<sizeLine/\Nx m.toNat i (λi d=>∃cs:List Int,d D=some (.lst (cs.map V.int))/\cs.length=i/\cw cs p/\FeedAt d f/\SameBut f H d) (upd Y D (.lst (ys++[.int r]))):=λr r0 r1=>by
    erw[_,ab,aN (by rw[fx];omega),Nx.of hi ⟨cs++[r],by rw[aX,hI];rfl,by rw[gl,cl];rfl,λx J=>?_,?_,λc o h e=>?_⟩]
    . rcases qH0 J with h | h
      . exact co x h
      . rw[Qr h];erw[r0,r1]
    . erw[x,t,e,rr]at F5;erw[x,t,by rw[aB Df.symm];exact e,rr]
    . rw[aB (bh e hD)];exact S5 _ _ h (v _ _ h e)
   have:d3=0∨d3=1∨d3=2:=#[0]
   rcases this with rfl | rfl | rfl
   . erw[L,_,(0),.int d1,1,1,fy j,1,fin d1 a0 a1]
   . erw[L,_,(1),.int d2,1,1,fy j,1,fin d2 b0 #[0]]
   . erw[L,_,(2),.int (p-1),1,1,fy j,1,fin (p-1) #[0] #[0]]
 . rintro M ⟨cs,hc,cl,co,u,v⟩;exact q D cs M hD hc #[0] co u v
section
variable {C CM CA CG cT:Addr}
structure W75(K:W.Frag)(CG:Addr)(H:Hp)(a0 gr a b g l:Addr)(sn:List Int)(ns:List Str)(ts:List Tr)(p:Int)(bs:List Str):Prop where
 S:SqL K H a0 (sn.map V.int)
 hd:H gr=some (.tup [.ref a,.ref b,.int p])
 G:Gm CG H g ns ts p
 hl:H l=some (.lst (bs.map V.str))
 h63:sn.length<=63
 gk:Gk ns ts p
 bl:bs.length=3
 nk:∀x∈bs,NmK x
def W75.same(W:W75 K CG H c d a b g l e ns ts p bs)(S:Same H j):W75 K CG j c d a b g l e ns ts p bs:=%[S.seq W.S,S _ _ W.hd,W.G.same S,S _ _ W.hl,W.h63,W.gk,W.bl|W.nk]
structure R75(ns:List Str)(ts:List Tr)(p:Int)(rs:List TR):Prop where
 ok:iN ns ts p true (Db.new ts) rs
 le:rs.length<=21
 rk:∀r∈rs,r.ok
 ne:rs≠[]
def rc(j n g l:Addr)(p:Int)(ns:List Str)(ts:List Tr)(m k:Int)(o q r b c d e:Option V):St:=[some (.ref j),some (.ref n),some (.str (kW p ns ts)),some (.ref g),some (.ref l),some (.int m),some (.int k),o,q,r,b,c,d,e]
def xD(ns:List Str)(ts:List Tr)(p:Int)(b:List TR):Db:=b.foldl (jq ns ts p) (Db.new ts)
def zc(ns:List Str)(ts:List Tr)(p:Int)(b:List TR):Str:=iB b++NL++qX (xD ns ts p b)
instance tF75(K:W.Frag)(CG:Addr)(Dn:Ends)(σ:St)(H:Hp):∀(a0 gr a b g l f t:Addr)(sn:List Int)(ns:List Str)(ts:List Tr)(p m k:Int)(bs:List Str)(x8 x9 x11 x12 x13:Option V)(tv:List V)(rs:List TR)(H0:Hp),σ=rc a0 gr g l p ns ts m k (some (.ref f)) x8 x9 (some (.ref t)) x11 x12 x13->W75 K CG H0 a0 gr a b g l sn ns ts p bs->H0 f=none->Same H0 H->FeedAt H f->H t=some (.tup tv)->TRsAt H tv rs->R75 ns ts p rs->(∀(x13:Option V)(H':Hp),Same H0 H'->Dn.nx (rc a0 gr g l p ns ts m k (some (.ref f)) x8 x9 (some (.ref t)) x11 x12 x13) H'):=0
instance tE75(K:W.Frag)(CG:Addr)(Dn:Ends)(σ:St)(H:Hp):∀(a0 gr a b g l f t e:Addr)(sn:List Int)(ns:List Str)(ts:List Tr)(p m k:Int)(bs:List Str)(x8 x9 x13:Option V)(tv:List V)(rs:List TR)(H0:Hp),σ=rc a0 gr g l p ns ts m k (some (.ref f)) x8 x9 (some (.ref t)) (some (.ref e)) (some (.str (zc ns ts p rs))) x13->W75 K CG H0 a0 gr a b g l sn ns ts p bs->H0 f=none->Same H0 H->FeedAt H f->H t=some (.tup tv)->TRsAt H tv rs->H e=some (.tup (uQ (xD ns ts p rs)))->R75 ns ts p rs->(∀(x13:Option V)(H':Hp),Same H0 H'->Dn.nx (rc a0 gr g l p ns ts m k (some (.ref f)) x8 x9 (some (.ref t)) (some (.ref e)) (some (.str (zc ns ts p rs))) x13) H'):=0
instance tD75(K:W.Frag)(CG:Addr)(Dn:Ends)(σ:St)(H:Hp):∀(a0 gr a b g l f h:Addr)(sn:List Int)(ns:List Str)(ts:List Tr)(p m k:Int)(bs:List Str)(x9 x10 x11 x12 x13:Option V)(rv:List V)(rows:List Hr)(H0:Hp),σ=rc a0 gr g l p ns ts m k (some (.ref f)) (some (.ref h)) x9 x10 x11 x12 x13->W75 K CG H0 a0 gr a b g l sn ns ts p bs->H0 f=none->Same H0 H->FeedAt H f->(m=if ts.length=1 then(ns.length:Int)else(ns.length:Int)+1)->H h=some (.tup rv)->RowsAt H rv rows->HOk rows->(∀(x9 x10 x11 x12 x13:Option V)(H':Hp),Same H0 H'->Dn.nx (rc a0 gr g l p ns ts m k (some (.ref f)) (some (.ref h)) x9 x10 x11 x12 x13) H'):=0
instance tC75(K:W.Frag)(CG:Addr)(Dn:Ends)(σ:St)(H:Hp):∀(a0 gr a b g l:Addr)(sn:List Int)(ns:List Str)(ts:List Tr)(p m k:Int)(bs:List Str)(x7 x8 x9 x10 x11 x12 x13:Option V),σ=rc a0 gr g l p ns ts m k x7 x8 x9 x10 x11 x12 x13->W75 K CG H a0 gr a b g l sn ns ts p bs->0<=k->k<1000->(m=if ts.length=1 then(ns.length:Int)else(ns.length:Int)+1)->(∀(x7 x8 x9 x10 x11 x12 x13:Option V)(H':Hp),Same H H'->Dn.nx (rc a0 gr g l p ns ts m k x7 x8 x9 x10 x11 x12 x13) H'):=0
def R75.end(k:GmK ns ts p)(R:R75 ns ts p b):Runs ns ts p true (Db.new ts) b (some (xD ns ts p b))/\Gd ns ts p (xD ns ts p b)/\uT (xD ns ts p b):=by
 let r:=rK _ _ _ R.ok;erw[r,oP k r (Gd.new k) (.inl (.inl rfl)) _ rfl]
def dI:FnScope ["_law_script","_law_game_here","_law_text","_law_known","_law_boxes","_law_coins_here","_law_k","_law_feed_here","_law_helper_here","_law_row","_law_talk","_law_end","_law_found","_law_turn"] ["_law_script"] (af oK):=%[|5]
def KG(F:#["law",oK])(B:Bl mg)(TG:GTxt K mg CG)(MG:Mk K CG fI)(GI:#[14,fI,aT,WN,spGInit CG])(bI:Binds K aT WN [])
 (lm:#[1,"_law_feed",Wx,spFeed K])(a7:#[1,"_law_take",WF,spTake])(gV:#[2,"_law_names",WF,spNamesN])(K5:#[14,"_law_game",W0,spGame])
 (qJ:#[8,"_law_helper",W9,spHelp])(K7:#[2,"_law_liar",VA,spLiar])(v9:#[2,"_law_coins",Ww,spLCoins])(i4:#[27,"talked",WR,spTalked C CM CG])
 (oC:#[12,"game_text",VB,spGText])(jW:#[19,"helper_text",WT,spHT])(cG:#[2,"talk_text",["talk"],spTalkT])(wo:#[28,"talk_of",WR,spTalkOf])
 (fe:#[1,"_law_end_text",Wk,spEndTx])(w6:#[2,"_law_other",VC,spOth])(kh:#[29,"_law_judged",VD,spJgd CG]):#[30,f,fd,["_law_script"],spLaw K]:=by
 exists dI
 erw[J,U,1,hS,h63,q]at h;let aA:Room (14+1) _:=hr.mono ⋯;refine⟨_,(aa #[aj,1,dI,ai K5 hr ⋯ rfl %[ai lm hr ⋯ rfl %[0,ae|aV],ae,ae|aV]]
  (aa #[aj,2,dI,ai oC hr ⋯ rfl %[aI ix_tup (pv 1) ae #[1],aI ix_tup (pv 1) ae #[1],aI ix_tup (pv 1) ae #[1]|aV]]
  (aa #[aj,3,dI,jy MG GI aA rfl TG.mgC bI .nil be %[aI ix_tup (pv 1) ae #[1],aI ix_tup (pv 1) ae #[1],aI ix_tup (pv 1) ae #[1]|aV]]
  (aa #[aj,4,dI,ai gV hr ⋯ rfl %[ai lm hr ⋯ rfl %[0,ae|aV],ae|aV]]
  (aa #[aj,5,dI,ax aU (aE aD rfl B.len hR %[aI ix_tup (pv 1) ae #[1]|aV]) (aR DX rfl B.int hZ %[ig ji (aE aD rfl B.len hR %[aI ix_tup (pv 1) ae #[1]|aV]) ae (aq _)|aV])]
  (aa (cV n7 rfl (ql rfl B.range %[ae,aE (qD rfl) rfl B.max Rc %[ae,aE (DW rfl) rfl B.min PyProof.Rows.boot_min %[ae,aE aD rfl B.len hR %[0|aV]|aV]|aV]|aV]) (bn (i:=6) dI.nd rfl (.inl rfl)) (fb (t':=tC75 K CG) (aa #[aj,7,dI,ai lm hr ⋯ rfl %[0,6|aV]]
   (aa #[aj,8,dI,ai qJ hr ⋯ rfl %[7,4,ae|aV]]
   (aa (aG (ag aP (ai a7 hr ⋯ rfl %[7,ae|aV]) ae (aq _)) (ac #[aj,8,dI,ai K7 hr ⋯ rfl %[7,aI ix_list (pv 4) ae #[1]|aV]]) au)
   (fb (t':=tD75 K CG) (aa #[aj,9,dI,ai v9 hr ⋯ rfl %[7,1,5|aV]]
   (aa (oh (ai i4 hr ⋯ rfl %[3,8,aR iM rfl B.list jo %[9|aV]|aV]) (om rfl (dB (bn (i:=10) dI.nd rfl (.inl rfl)) (dB (bn (i:=11) dI.nd rfl (.inl rfl)) kJ))))
   (aa #[aj,12,dI,ai wo hr ⋯ rfl %[2,ai jW hr ⋯ rfl %[8|aV],bZ pu wh w4 eF ao %[bX (N:=[]) (ix:=[]) (cl:=[]) rfl #[5] rfl (eC (pv 9)) (λ_ _ _=>cr (aR eT rfl B.str hU %[0|aV]))|aV]|aV]]
   (fb (t':=tE75 K CG) (aa (aG (PW.pt (eO (ag jY (pv 12) (ax gY (ax gY (ai cG hr ⋯ rfl %[10|aV]) ao) (ai fe hr ⋯ rfl %[11|aV])) (aq _)) (dL (dO (di (ai kh hr ⋯ rfl %[2,3,10|aV])))))) (ac (am jz)) au)
   (fb (t':=tF75 K CG) (ac (cV n7 rfl (cZ rfl B.range %[ae|aV]) (bn (i:=13) dI.nd rfl (.inl rfl)) (ac (aG (dO (di (ai kh hr ⋯ rfl %[2,3,ai w6 hr ⋯ rfl %[7,1,10|aV]|aV]))) (ac (am jz)) au)))) ?cF)) ?cE)))) ?cD)))) ?cC))
  (ac (am jz)))))))),?_⟩
 case cF=>
  rintro Dn σ H ⟨J,y,a,b,g,l,f,t,U,ns,ts,p,m,k,bs,x8,L,r,u,j,tv,rs,H0,rfl,W,f0,S,F0,ht,TV,R,q⟩;let gk:=W.gk;let ss:=uZ _ _ _ R.ok;erw[(3),1,4,4,eQ (λi σ M=>∃j,σ=rc J y g l p ns ts m k (some (.ref f)) x8 L (some (.ref t)) r u j/\FeedAt M f/\Same H0 M/\SameBut f H M) %[0,F0,S|SameBut.refl _ _] ?_ ?_]
  . rintro i σ H1 hi ⟨j,rfl,F1,Y,B1⟩;let k1:bO H H1:=λc o e=>B1 _ _ (jA F0 e λ_ z=>by cases z) e
    erw[0,0,0,0,0,f,y,a,b,t,p,tv,rs,1,F1,Y _ _ W.hd,gk.k.p2,gk.k.p9,k1 _ _ ht,TV.mono k1,R.rk,ss,R.ne,R.le,λt' a8 rs' H2 a9 bb bf bg bP F2 B2=>?_];let S2:=Same.but Y f0 B2;obtain⟨o,run⟩:∃o,Runs ns ts p true (Db.new ts) rs' o:=by
     rcases bf with⟨k,rfl⟩ | sh
     . erw[_,rK _ _ _ (rZ _ _ _ k R.ok)]
     . exact vo gk.k rs rs' true _ _ R.ok sh (Gd.new gk.k) (Gd.new gk.k) (.inl (Sim.refl _))
    erw[g,t',a8,rs',ns,ts,p,o,1,W.G.same S2,gk,a9,bb,bg,3,run,λH3 O=>%[0|cz ?_]];erw[0,F2.same O,S2.trans O,B1.trans (B2.trans (f4 O))]
  . rintro σ H1 ⟨j,rfl,F1,Y,B1⟩;exact q j H1 Y
 case cE=>
  rintro Dn σ H ⟨J,y,a,b,g,l,f,t,e,U,ns,ts,p,m,k,bs,x8,L,j,tv,rs,H0,rfl,W,f0,S,F0,ht,TV,he,R,q⟩;let gk:=W.gk;let%[run,gz|ez]:=R.end gk.k;let%[x,xs,ev,x1,x5|xr]:=za gk.n6 gz ez;let%[wl|wd]:=AV gk.n6 gz ez;let jl:(qX (xD ns ts p rs)).length<=1100:=zb wl wd;let tl:=vb R.rk (hQ R.le ⋯);let l1:("\n":Str).length=1:=rfl;rw[ev]at he;erw[0,0,t,tv,rs,1,ht,TV,R.rk,hQ R.le ⋯,λH1 Y=>?_];erw[2,by rw[l1];omega,6];erw[0,e,x,xs,1,Y _ _ he,x1,x5,xr,λH2 S2=>?_];let et:Str.join SP ((V.str x::xs.map V.int).map wtx)=qX (xD ns ts p rs):=by rw[←ev];rfl
  rw[et];erw[2,by rw[i0,l1];omega,6];rw[tO];let an:=Y.trans S2;erw[1,0,6];rw[show decide (V.str (zc ns ts p rs)=V.str (iB rs++NL++qX (xD ns ts p rs)))=true from j2 rfl];apply cz ?_;erw[0,0,0,g,t,tv,rs,ns,ts,p,0,W.G.same (S.trans an),gk,an _ _ ht,TV.mono (bw an),R.rk,hQ R.le ⋯,run,λH3 O=>%[0|cz ?_]];let ap:=an.trans O;erw[J,y,a,b,g,l,f,t,U,ns,ts,p,m,k,bs,x8,L,_,_,j,tv,rs,H0,1,W,f0,S.trans ap,F0.same ap,ap _ _ ht,TV.mono (bw ap),R,q]
 case cD=>
  rintro Dn σ H ⟨J,y,a,b,g,l,f,h,U,ns,ts,p,m,k,bs,L,v,r,u,j,rv,rows,H0,rfl,W,f0,S,F0,em,hh,RW,ho,q⟩;let gk:=W.gk;let n6:=gk.n6;let p2:=gk.k.p2;let p9:=gk.k.p9;let t1:=gk.k.t1;let m7:0<=m/\m<=7:=by rw[em];split <;> omega
  erw[0,0,0,f,y,a,b,p,m,1,F0,S _ _ W.hd,p2,p9,3,3,λlc cs H1 bR aC cl co F1 B1=>?_];let Y:=Same.but S f0 B1;let k1:bO H H1:=λc o e=>B1 _ _ (jA F0 e λ_ z=>by cases z) e
  let bi:ns.length+(if 1<ts.length then 1 else 0)<=cs.length:=by
   by_cases c:ts.length=1
   . rw[Qi #[0]];rw[Qk c]at em;omega
   . rw[Qk #[0]];rw[Qi c]at em;omega
  erw[0,0,0,lc,0,.inl (fy aC),λL2 bm=>?_];let I2:=fj bm (.lst (cs.map V.int));let e2:upd H1 L2 (.lst (cs.map V.int)) L2=some (.lst (cs.map V.int)):=aX;generalize upd H1 L2 (.lst (cs.map V.int))=H2 at I2 e2;let k2:bO H H2:=λc o e=>I2 _ _ (k1 _ _ e)
  erw[g,h,L2,rv,rows,ns,ts,p,cs,1,W.G.same (Y.trans I2),gk.k,n6,k2 _ _ hh,RW.mono k2,ho.2.1,.inl e2,co,bi,3,λo H3 O Td=>?_];erw[bt,e,bo,t1,t2,t3,t4]at Td.ex;erw[o,0,eS t1,1,_,0,2,6];let%[en,le,rk|ne]:=vc (rows:=rows) gk.k n6 co;let%[ok|bx]:=Bh (rows:=rows) gk.k n6 co;let k3:bO H H3:=λc o e=>O _ _ (k2 _ _ e)
  let bA:=Y.trans (I2.trans O);let as:=O _ _ (I2 _ _ aC);erw[0,0,h,rv,rows,1,k3 _ _ hh,RW.mono k3,ho.1,λH4 S4=>?_];erw[1,0,lc,1,%[_|fy (S4 _ _ as)],λD hD=>?_];apply de (K:=K) (xs:=cs.map V.int) (λi M=>M D=some (.lst (((cs.take i).map bL).map V.str))/\Same H4 M) %[by rw[aX];rfl|fj hD _] (λi M _ h=>fy (h.2 _ _ (S4 _ _ as))) ?_ ?_
  . rintro i z H5 hz ⟨ar,S5⟩;let hi:=(Qs hz).1;rw[fx]at hi;rw[kv]at hz;let%[n,hn|1]:=qs hz;let nr:=co n (lr hn);erw[0,n,1,gZ nr.1 #[0],_,ar,6,6]
    . rw[fx,fx,lw];exact aN #[0]
    rw[fx];apply Nx.of hi %[6|λb o h=>?_]
    . rw[aX,nh,hn,hI,hI];rfl
    . rw[aB (bh h hD)];exact S5 _ _ h
  rintro H5 ⟨ar,S5⟩;rw[fx,mu]at ar;erw[_,D,cs.map bL,1,1,fy ar,⋯,6,6]
  . have:=iq (l:=cs.map bL) (b:=12) λq hq=>by
     let%[n,hn|1]:=List.mem_map.mp hq;exact dQ (co n hn).1 (by have:=(co n hn).2;omega)
    rw[fx]at this ⊢;omega
  rw [vg,jC];erw[ns,ts,p,rows,cs,1,gk,ho,3,co,λH6 S6=>?_];let ah:=S4.trans (S5.trans S6);let ef:(gO ns ts p rows cs).2.z=xD ns ts p (gO ns ts p rows cs).1:=bx.symm;let eo:=ke en;let eu:Er (gO ns ts p rows cs)=zc ns ts p (gO ns ts p rows cs).1:=by
   unfold Er zc qX;rw[←ef,eo]
  rw[eu];erw[J,y,a,b,g,l,f,bt,e,U,ns,ts,p,m,k,bs,_,_,j,bo,_,H0,1,W,f0,bA.trans ah,((F1.same I2).same O).same ah,ah _ _ t2,t3.mono (bw ah),6,%[ok,le,rk|ne],λj M S'=>q _ _ _ _ _ M S'];rw[←ef,eo];exact ah _ _ t4
 case cC=>
  rintro Dn σ H ⟨J,y,a,b,g,l,U,ns,ts,p,m,k,bs,x7,x8,L,v,r,u,j,rfl,W,k0,k9,em,q⟩;erw[0,0,J,U,k,1,W.S,W.h63,k0,3,λf H1 f0 Y F1=>?_];let lf:l≠f:=bh W.hl f0;let bl:=W.bl;let nk:=W.nk;erw[0,0,f,l,bs,(10),1,F1,Y _ _ W.hl,lf,3,3,nk,4,4,λh rv rows H2 hh RW ho F2 B2=>?_];let T2:Same H H2:=Same.but Y f0 B2;erw[0,f,(2),1,F2,4,4,λd H3 d0 d3 F3 B3=>%[1,0|6]];let T3:Same H H3:=Same.but T2 f0 B3;let k3:=bj F2 B3
  by_cases c:d=1
  . apply aW (congrArg V.int c) ?_;cases bs with
    |nil=>cases bl
    |cons x br=>
      erw[0,0,l,_,(0),0,1,fy (T3 _ _ W.hl),at0 ..,f,x,1,nk x mj,F3,λh' bB av H4 bC bD bE F4 B4=>?_];let T4:Same H H4:=Same.but T3 f0 B4;erw[J,y,a,b,g,l,f,h',U,ns,ts,p,m,k,_,_,_,_,_,_,bB,av,H,1,W,f0,T4,F4,em,bC,bD,bE,λL v r u j M S'=>q _ _ L v r u j M S']
  . apply az (λz=>c (V.int.inj z)) ?_;erw[J,y,a,b,g,l,f,h,U,ns,ts,p,m,k,bs,_,_,_,_,_,rv,rows,H,1,W,f0,T3,F3,em,k3 _ _ hh,RW.mono k3,ho,λL v r u j M S'=>q _ _ L v r u j M S']
 erw[0,J,U,(1),1,hS,h63,4,4,λf1 H1 bF Y F1=>?_];erw[f1,(4),(8),1,F1,4,4,4,4,λy a b ns tv ts p H2 hd ha nl nk nd hb TS t1 t4 tk pp p2 p9 tp tc F2 B2=>?_];let S2:Same H H2:=Same.but Y bF B2;let gk:Gk ns ts p:=by
  erw[3,nk,nd,%[pp,p2,p9,3,t1,3,λt ht=>%[(tk t ht).1,Tr.ok_wf (λx hx=>(nk x hx).1) t (tk t ht).1,by have:=(tk t ht).2.1;omega|by have:=(tk t ht).2.2;omega],tp|tc],t4,λt ht=>?_];let h1:=(tk t ht).2.2;let h2:=Tr.depth_size t;erw[3,3]
 erw[0,y,_,(0),0,1,eS hd,at0 ..,0,y,_,(1),0,1,eS hd,at1 ..,0,y,_,(2),0,1,eS hd,at2 ..,a,b,tv,p,ns,ts,1,ha,hb,TS.ts,gk.gm,λH3 O=>?_];let aw:=O _ _ hd;erw[0,y,_,(0),0,1,eS aw,at0 ..,0,y,_,(1),0,1,eS aw,at1 ..,0,y,_,(2),0,1,eS aw,at2 ..,λg dx nx bG bS=>?_];apply Hh (O _ _ ha) (O _ _ hb) (TS.mono (bw O)) gk.k gk.nd nx bG λH4 S4 G4=>%[1|6]
 let aH:=O.trans S4;let bH:=S2.trans aH;erw[0,J,U,(3),1,bH.seq hS,h63,4,4,λf5 H5 bM S5 F5=>?_];erw[f5,(3),1,F5,4,4,λl bs H6 l0 lf hl bl nk nd F6 B6=>?_];let T6:Same H4 H6:=Same.but S5 bM B6;let ab:=aH.trans T6;let W6:W75 K CG H6 J y a b g l U ns ts p bs:=%[(S2.trans ab).seq hS,ab _ _ hd,G4.same T6,hl,h63,gk,bl|nk]
 let vl:=TS.length;let bT:=ab;let aK:=ab _ _ hd;erw[0,y,_,(0),0,1,eS aK,at0 ..,a,0,.inr (eS (ab _ _ ha)),6];erw[0,y,_,(1),0,1,eS aK,at1 ..,b,0,.inr (eS (ab _ _ hb)),2,.inr %[0|6]];obtain⟨m,em,bN⟩:∃m:Int,((ns.map V.str).length:Int)+(if decide ((tv.length:Int)>1)=true then(1:Int)else 0)=m/\m=if ts.length=1 then(ns.length:Int)else(ns.length:Int)+1:=⟨_,rfl,by
  rw[fx,vl]
  by_cases c:ts.length=1
  . rw[Qk c,Qi (by rw[ll #[0]];decide)];exact Int.add_zero _
  . rw[Qi c,Qk (j2 #[0])]⟩
 erw[2,6];rw[em];let aL:(U.map V.int).length=U.length:=fx _;erw[0,J,0,.inl W6.S,_,0,_,0,6];erw[_,0,%[4,4,by(repeat' split) <;> omega|by(repeat' split) <;> omega],eQ (λi σ M=>∃(k:Int)(x7 x8 L v r u j:Option V),(σ=rc J y g l p ns ts m k x7 x8 L v r u j∨(i=0/\σ=(rc J y g l p ns ts m k x7 x8 L v r u j).set 6 none))/\Same H6 M) %[(0),_,_,_,_,_,_,_,.inr %[1|1]|Same.refl _] ?_ ?_]
 . rintro i σ H7 hi ⟨k,x7,x8,L,v,r,u,j,hs,S7⟩;let bU:i<63:=by
    rw[aL]at hi
    revert hi
    (repeat' split) <;> omega
   let es:σ.set 6 (some (V.int (4+(i:Int))))=rc J y g l p ns ts m (4+(i:Int)) x7 x8 L v r u j:=by
    rcases hs with rfl | ⟨_,rfl⟩ <;> rfl
   erw[J,y,a,b,g,l,U,ns,ts,p,m,4+(i:Int),bs,x7,x8,L,v,r,u,j,es,W6.same S7,3,3,bN,λx7 x8 L v r u j M S'=>%[_,x7,x8,L,v,r,u,j,.inl rfl|S7.trans S']]
 . rintro σ H7 ⟨k,x7,x8,L,v,r,u,j,hs,S7⟩;exact q _
end
def AQ{K:W.Frag}(G:FnOk P w K mg base (CXr P w) 18 f fd WD (we C b c)):#[18,f,fd,WD,spHear C b]:=G.quiet λvs H Q E h=>.inl (by cases h;constructor <;> assumption)
def zz{K:W.Frag}(G:FnOk P w K mg base (CXr P w) 17 f fd WI (vZ C b c)):#[17,f,fd,WI,spToss C b]:=G.quiet λvs H Q E h=>.inl (by cases h;constructor <;> assumption)
def kept_vals{a b c d e f g h i j k l:Tok}:Vals (kept.map V.str) [.str "yes" a,.str "no" b,.str "not" c,.str "and" d,.str "or" e,.str "odd" f,.str "same" g,.str "round" h,.str "due" i,.str "asked" j,.str "true" k,.str "coin" l]:=
 .cons %[|0] (.cons ⟨_,rfl⟩ (.cons ⟨_,rfl⟩ (.cons ⟨_,rfl⟩ (.cons ⟨_,rfl⟩ (.cons ⟨_,rfl⟩ (.cons ⟨_,rfl⟩ (.cons ⟨_,rfl⟩ (.cons ⟨_,rfl⟩ (.cons ⟨_,rfl⟩ (.cons ⟨_,rfl⟩ (.cons ⟨_,rfl⟩ .nil)))))))))))
def sign_vals{a b c d e f:Tok}:Vals (signW.map V.str) [.str "+" a,.str "-" b,.str "*" c,.str "/" d,.str "=" e,.str "<" f]:=
 .cons %[|0] (.cons ⟨_,rfl⟩ (.cons ⟨_,rfl⟩ (.cons ⟨_,rfl⟩ (.cons ⟨_,rfl⟩ (.cons ⟨_,rfl⟩ .nil)))))
def ask_vals{a b:Tok}:Vals (askW.map V.str) [.str "coin" a,.str "true" b]:=.cons %[|0] (.cons ⟨_,rfl⟩ .nil)
def plain_vals{a b c:Tok}:Vals (plainW.map V.str) [.str "round" a,.str "due" b,.str "asked" c]:=.cons %[|0] (.cons ⟨_,rfl⟩ (.cons ⟨_,rfl⟩ .nil))
def join_vals{a b c d:Tok}:Vals (joinW.map V.str) [.str "and" a,.str "or" b,.str "odd" c,.str "same" d]:=
 .cons %[|0] (.cons ⟨_,rfl⟩ (.cons ⟨_,rfl⟩ (.cons ⟨_,rfl⟩ .nil)))
abbrev FG(K:W.Frag)(x y:Str)(s:Stmt):Prop:=∃f,W.nsIn K mainGlobals x=some (some (.ref f))/\∃fd,Fun K y y s f fd
def JZ{K:W.Frag}{h:Heap}{mg:#[9]}(X:K.In h)(G:h.Ns mainGlobals mg)(z:FG K x y s):∃f fd,Fun K y y s f fd/\mg x=some (.ref f):=by
 erw[f,a,fd,F]at z;erw[f,fd,F,lz X G a]
end
abbrev FH(K:W.Frag)(x:Str)(s:Stmt):Prop:=∃f,W.nsIn K mainGlobals x=some (some (.ref f))/\∃fd,Fun K x x s f fd
abbrev MH(K:W.Frag)(C:Addr)(x y:Str)(s:Stmt):Prop:=∃g,W.findIn K (.ref C) x=some (some (.ref g))/\W.isFn K (.ref g)=true/\∃fd,Fun K x y s g fd
abbrev CH(K:W.Frag)(x:Str)(C:Addr):Prop:=W.nsIn K mainGlobals x=some (some (.ref C))/\W.plainGet K C Str.empty=true/\W.hasDictIn K C=true/\W.plainOver K C=true/\W.findIn K (.ref C) "__setattr__"=some (some (.builtin "object.__setattr__"))/\W.makesIn K C=true/\W.keepIn K (.ref C)=true
abbrev HF(K:W.Frag)(C:Addr)(x:Str):Prop:=W.findIn K (.ref C) x=some none
abbrev HZ(K:W.Frag)(x:Str):Prop:=W.nsIn K mainGlobals x=some none
def aS{K:W.Frag}{h:Heap}{mg:#[9]}(X:K.In h)(G:h.Ns mainGlobals mg)(z:FH K x s):∃f fd,Fun K x x s f fd/\mg x=some (.ref f):=by
 erw[f,a,fd,F]at z;erw[f,fd,F,lz X G a]
def dH{K:W.Frag}(z:MH K C x y s):∃f fd,Fun K x y s f fd/\Meth K C x f:=by
 erw[f,a,i,fd,F]at z;erw[f,fd,F,a,i,F.kp]
def all_mk{l:PySem.W.OpenLaw}{w:World}{K:W.Frag}{h:Heap}{mg:#[9]}{fa fl d C CA x g:Addr}(X:K.In h)(G:h.Ns mainGlobals mg)(ck:mg "law"=some (.ref fa))
 {od an:Option Addr}{sl:Array (Option Value)}{oc kV dc pm cd ct:Value}
 {t1 t3 t4 t5 t6 u1 u2 u3:Tok}{ka ja qa pa:Addr}{kd jd qd pd:Option Addr}{j m n o:Array Value}{kn jn qn pn:Nat}{cm cn co cp:Array (Option Value)}
 {te tm:Tok}
 {br bt bx bA bB bC bD:Tok}{va:Addr}{vd:Option Addr}{q:Array Value}{vn:Nat}{cs:Array (Option Value)}
 {gA CE TA NA c r N6 T6:Addr}{cx cA cC cD od_6 an_6 cE cF:Option Addr}{cJ bE sl_6 bF:Array (Option Value)}{cN cO cT c0 bG c1 kV_6 dc_6 pm_6 cd_6 ct_6:Value}{c2:Tok}{c3 c4:Nat}{c5 c6 c7 da:Str}{db bH dd bI:List Value}{dg dh:List Str}{dk dn:Bool}{bM bP:Option Bool}{dp dr ds dt dv dw dx dE dF dS:Option Value}
 (aL:W.nsIn K mainGlobals "law"=some (some (.ref fl)))(lL:K.lookup fl=some %[oc,od,.func (W.fnOf "law" "law" (eR oK) (cP oK) (af oK) .none kV dc pm an cd ct)|sl])(cL:W.codeIn K cd "law"=true)(kL:W.keepIn K (.ref fl)=true)
 (h0:FH K "is_field" nZ)
 (h1:FH K "inverse_of" kF)
 (h2:FH K "is_number" lF)
 (h3:FH K "all_settings" jf)
 (h4:FH K "holds_at" kG)
 (h5:FH K "joined" sN)
 (h6:FH K "count_of" og)
 (h7:FH K "trees_within" iY)
 (h8:FH K "size_of" mo)
 (h9:FH K "names_in" ky)
 (h10:FH K "worth_of" ko)
 (h11:FH K "joined_worth" jb)
 (h12:FH K "degree_of" lI)
 (h13:FH K "look_switches" iz)
 (h14:FH K "look_names" kz)
 (h15:FH K "look_field" kA)
 (h16:FH K "look_size" lE)
 (h17:FH K "look_helper" jK)
 (h18:FH K "is_name" qb)
 (h19:FH K "is_figures" kE)
 (h20:FH K "read_helper" jJ)
 (h21:FH K "helper_row" kH)
 (h22:FH K "next_name" lD)
 (h23:FH K "next_figures" iZ)
 (h24:FH K "next_term" jx)
 (h25:FH K "term_in_bracket" ei)
 (h26:FH K "helper_text" jL)
 (h27:FH K "term_text" jv)
 (h28:FH K "in_bracket" iJ)
 (h29:FH K "value_at" ny)
 (h30:FH K "both_ends" lK)
 (h31:FH K "value_behind" iX)
 (h32:FH K "products" nO)
 (h33:FH K "inverse_factorials" eN)
 (h34:FH K "all_sizes" lO)
 (h35:FH K "judged" sM)
 (h36:FH K "tell_numbered" iy)
 (h37:FH K "tell" zO)
 (h38:FH K "counts_of" lJ)
 (h39:FH K "true_row" nI)
 (h40:FH K "read_game" lC)
 (h41:FH K "row_or_end" ku)
 (h42:FH K "field_in_row" je)
 (h43:FH K "switches_in_row" fY)
 (h44:FH K "trees_in_rows" iw)
 (h45:FH K "tree_in_row" jI)
 (h46:FH K "next_tree" jw)
 (h47:FH K "joined_tree" ie)
 (h48:FH K "value_of" kt)
 (h49:FH K "op_value" nQ)
 (h50:FH K "divided" qe)
 (h51:FH K "asked_once" kI)
 (h52:FH K "talked" sF)
 (h53:FH K "read_talk" lB)
 (h54:FH K "talk_row" nJ)
 (h55:FH K "talk_text" ly)
 (h56:FH K "talk_of" pT)
 (h57:FH K "judge_of" nY)
 (h58:FH K "game_in" qc)
 (h59:FH K "helper_in" lG)
 (h60:FH K "numbers_in" kx)
 (h61:FH K "words_text" kq)
 (h62:FH K "tree_text" ju)
 (h63:FH K "game_text" lH)
 (h64:FH K "_law_feed" sL)
 (h65:FH K "_law_take" sH)
 (h66:FH K "_law_names" cv)
 (h67:FH K "_law_tree" oM)
 (h68:FH K "_law_names_of" iI)
 (h69:FH K "_law_need" sI)
 (h70:FH K "_law_is_prime" kC)
 (h71:FH K "_law_field" pY)
 (h72:FH K "_law_game" sK)
 (h73:FH K "_law_term" oN)
 (h74:FH K "_law_helper" nV)
 (h75:FH K "_law_liar" sJ)
 (h76:FH K "_law_coins" pZ)
 (h77:FH K "_law_end_text" kD)
 (h78:FH K "_law_other" pX)
 (h79:FH K "_law_judged" nU)
 (gmc:CH K "Game" d)
 (dbc:CH K "Doubter" C)
 (asc:CH K "Asking" CA)
 (mcc:CH K "Machine" x)
 (scc:CH K "Scan" g)
 (O8:MH K d "__init__" "Game.__init__" wE)
 (gmmM:MH K d "mix" "Game.mix" zR)
 (gmmW:MH K d "worth_at" "Game.worth_at" sO)
 (gmmC:MH K d "coins" "Game.coins" sP)
 (dbmI:MH K C "__init__" "Doubter.__init__" wH)
 (dbmW:MH K C "waits" "Doubter.waits" sQ)
 (dbmU:MH K C "due" "Doubter.due" zT)
 (dbmH:MH K C "hear" "Doubter.hear" wI)
 (dbmT:MH K C "toss" "Doubter.toss" wG)
 (dbmC:MH K C "hear_claims" "Doubter.hear_claims" qf)
 (dbmB:MH K C "begin_rounds" "Doubter.begin_rounds" sS)
 (dbmR:MH K C "hear_row" "Doubter.hear_row" zS)
 (dbmG:MH K C "go_on" "Doubter.go_on" Fe)
 (dbmE:MH K C "look_at_trees" "Doubter.look_at_trees" sR)
 (asmI:MH K CA "__init__" "Asking.__init__" wK)
 (asmP:MH K CA "plain_value" "Asking.plain_value" sT)
 (asmC:MH K CA "coin_at" "Asking.coin_at" wL)
 (asmN:MH K CA "true_numbers" "Asking.true_numbers" qg)
 (asmR:MH K CA "true_at" "Asking.true_at" wJ)
 (mcmI:MH K x "__init__" "Machine.__init__" wD)
 (mcmS:MH K x "say" "Machine.say" zP)
 (mcmR:MH K x "do_row" "Machine.do_row" zQ)
 (scmI:MH K g "__init__" "Scan.__init__" wC)
 (scmE:MH K g "enter" "Scan.enter" sG)
 (scmS:MH K g "sees" "Scan.sees" wB)
 (scmT:MH K g "take" "Scan.take" wA)
 (scmW:MH K g "word" "Scan.word" wz)
 (scmF:MH K g "finish" "Scan.finish" pU)
 (w8:HF K d "switches")
 (gmn_trees:HF K d "trees")
 (gmn_field:HF K d "field")
 (gmn_degrees:HF K d "degrees")
 (dbn_game:HF K C "game")
 (dbn_awaited:HF K C "awaited")
 (dbn_claims:HF K C "claims")
 (dbn_s:HF K C "s")
 (dbn_heard:HF K C "heard")
 (dbn_tossed:HF K C "tossed")
 (dbn_held:HF K C "held")
 (dbn_places:HF K C "places")
 (asn_game:HF K CA "game")
 (asn_number:HF K CA "number")
 (asn_many:HF K CA "many")
 (asn_held:HF K CA "held")
 (asn_s:HF K CA "s")
 (asn_tossed:HF K CA "tossed")
 (asn_truths:HF K CA "truths")
 (mcn_game:HF K x "game")
 (mcn_helper:HF K x "helper")
 (mcn_next_round:HF K x "next_round")
 (mcn_boxes:HF K x "boxes")
 (scn_text:HF K g "text")
 (scn_row:HF K g "row")
 (scn_most_within:HF K g "most_within")
 (scn_most_parts:HF K g "most_parts")
 (scn_place:HF K g "place")
 (scn_parts:HF K g "parts")
 (g1:W.nsIn K mainGlobals "LETTERS"=some (some (.str LET t1)))
 (g3:W.nsIn K mainGlobals "LONGEST_NAME"=some (some (.int 6 t3)))
 (g5:W.nsIn K mainGlobals "KEPT_WORDS"=some (some (.ref ka)))
 (g6:K.lookup ka=some %[.type "tuple",kd,.seq j kn|cm])
 (g7:j.size<=100)
 (g8:Vals (kept.map V.str) j.toList)
 (e1:W.nsIn K mainGlobals "WORD_ENDS"=some (some (.str ENDS t4)))
 (e2:W.nsIn K mainGlobals "MOST_WITHIN_helptexts"=some (some (.int 8 t5)))
 (e3:W.nsIn K mainGlobals "MOST_PARTS_helptexts"=some (some (.int 20 t6)))
 (w1:W.nsIn K mainGlobals "FIGURES"=some (some (.str FIG u1)))
 (w2:W.nsIn K mainGlobals "MOST_FIGURES"=some (some (.int 12 u2)))
 (w3:W.nsIn K mainGlobals "MOST_ROWS"=some (some (.int 60 u3)))
 (j5:W.nsIn K mainGlobals "SIGNS"=some (some (.ref ja)))
 (j6:K.lookup ja=some %[.type "tuple",jd,.seq m jn|cn])
 (j7:m.size<=100)
 (j8:Vals (signW.map V.str) m.toList)
 (q5:W.nsIn K mainGlobals "ASKING_WORDS"=some (some (.ref qa)))
 (q6:K.lookup qa=some %[.type "tuple",qd,.seq n qn|co])
 (q7:n.size<=100)
 (q8:Vals (askW.map V.str) n.toList)
 (p5:W.nsIn K mainGlobals "PLAIN_WORDS"=some (some (.ref pa)))
 (p6:K.lookup pa=some %[.type "tuple",pd,.seq o pn|cp])
 (p7:o.size<=100)
 (p8:Vals (plainW.map V.str) o.toList)
 (r2:W.nsIn K mainGlobals "MOST_WITHIN_reader"=some (some (.int 10 br)))
 (r3:W.nsIn K mainGlobals "MOST_PARTS_reader"=some (some (.int 30 bt)))
 (r4:W.nsIn K mainGlobals "MOST_SWITCHES"=some (some (.int 6 bx)))
 (r5:W.nsIn K mainGlobals "MOST_TREES"=some (some (.int 4 bA)))
 (r6:W.nsIn K mainGlobals "FIELD_HEAD"=some (some (.str "field " bB)))
 (r7:W.nsIn K mainGlobals "TREE_HEAD"=some (some (.str "holds " bC)))
 (r8:W.nsIn K mainGlobals "FIRST_TREE_ROW"=some (some (.int 2 bD)))
 (v5:W.nsIn K mainGlobals "JOINING_WORDS"=some (some (.ref va)))
 (v6:K.lookup va=some %[.type "tuple",vd,.seq q vn|cs])
 (v7:q.size<=100)
 (v8:Vals (joinW.map V.str) q.toList)
 (ge:W.nsIn K mainGlobals "FIELDS_END"=some (some (.int 1000000 te)))
 (xmo:W.nsIn K mainGlobals "MOST_ROWS_DONE"=some (some (.int 200 tm)))
 (gAs:W.nsIn K mainGlobals "AskError"=some (some (.ref CE)))
 (iAs0:K.lookup CE=some (excClassObj c7 da CE NA dd bmV true dh bI dn bP cD dw dx dE dF dS "ValueError.__new__"))
 (xga:W.specialIn K (.ref CE) "__getattribute__"=some (some (.builtin "type.__getattribute__")))
 (xrd:W.readsIn K CE (.type "type")=true)
 (xfc0:W.findCls K (.ref CE) (.type "type") "__init__"=some (.val (.ref gA)))
 (xlk:K.lookup gA=some %[cN,cx,.func (W.fnOf "__init__" "AskError.__init__" (eR fo) (cP fo) (af fo) (.ref TA) cO cT c0 cA bG c1)|cJ])
 (xtp:K.lookup TA=some %[.type "tuple",cC,.seq #[.str "" c2] c3|bE])
 (xcd:W.codeIn K bG "AskError.__init__"=true)
 (xkp:W.keepIn K (.ref gA)=true)
 (yg6:W.nsIn K mainGlobals "NoTurn"=some (some (.ref c)))
 (yo6:K.lookup c=some (excClassObj c5 c6 c N6 db (.ref CE::bmV) true dg bH dk bM cE dp dr ds dt dv "ValueError.__new__"))
 (ys6:W.findIn K (.ref c) "__setattr__"=some (some (.builtin "object.__setattr__")))
 (ya6:W.findIn K (.ref c) "__getattribute__"=some (some (.builtin "BaseException.__getattribute__")))
 (yt6:HF K c "__getattr__")
 (yc6:W.findIn K (.ref c) "__class__"=some (some (.builtin "object.__class__")))
 (yi6:W.findIn K (.ref c) "__init__"=some (some (.ref r)))
 (yl6:K.lookup r=some %[.type "function",od_6,.func (W.fnOf "__init__" "NoTurn.__init__" (eR jg) (cP jg) (af jg) (.ref T6) kV_6 dc_6 pm_6 an_6 cd_6 ct_6)|sl_6])
 (yd6:K.lookup T6=some %[.type "tuple",cF,.seq #[.none] c4|bF])
 (yk6:W.codeIn K cd_6 "NoTurn.__init__"=true)
 (yp6:W.keepIn K (.ref r)=true)
 (yq6:W.keepIn K (.ref c)=true)
 (yn6:HF K c "row")
 (hV0:W.nsIn K mainGlobals "ValueError"=some none)
 (qh:FG K "row_text_helptexts" "row_text" nK)
 (qt:FG K "row_text_talktexts" "row_text" lA)
 (z0:HZ K "len")(z1:HZ K "range")(z2:HZ K "isinstance")(z3:HZ K "int")(z4:HZ K "bool")(z5:HZ K "list")(z6:HZ K "tuple")(z7:HZ K "max")(z8:HZ K "min")(z9:HZ K "reversed")(z10:HZ K "enumerate")(z11:HZ K "sum")(z12:HZ K "all")(z13:HZ K "str"):
 ∃fd:FuncData,(∀(s:Shared) (v:Value),BindsTo s fd %[[v]|[]] [("_law_script",v)])/\∀base:Heap,K.In base->base.Ns mainGlobals mg->FnOk l.prog w K mg base CX0 30 fa fd ["_law_script"] (spLaw K):=by
 let e:=ck.symm.trans (lz X G aL);cases e;let Pa:=Li (st:=oK) lL cL kL;exists 1,K9,Nq,h0,xT,MJ,h1,C8,Nd,h2,oE,Mc,h3,LK,LL,h4,ML,NQ,h5,LM,Nr,h6,oF,Md,h7,Mi,Mj,h8,LN,LP,h9,LQ,LR,h10,oG,Me,h11,C9,Nf,h12,lZ,LS,h13,xV,MN,h14,y4,MO,h15,D4,Ng,h16,sD,Mu,h17,Ml,NE,h18,y6,MP,h19,sE,Mv,h20,y8,MQ,h21,D6,Nh,h22,oH,Mf,h23,D7,D8,h24,B9,C2,h25,t8,Mw,h26,E1,E4,h27,MR,MT,h28,LT,Nt,h29,E5,Ni,h30,oJ,Mg,h31,LU,Nu,h32,iG,qK,h33,E6,Nj,h34,MU,NR,h35,l6,LV,h36,NF,O9,h37,E8,Nk,h38,LW,Nv,h39,E9,Nl,h40,y9,MV,h41,oO,Mh,h42,j4,C3,h43,l7,LX,h44,t9,Mx,h45,Fc,G7,h46,Mz,MB,h47,LY,LZ,h48,L3,Nw,h49,Mm,NG,h50,A0,MW,h51,MX,NS,h52,G9,Nm,h53,L6,Ny,h54,HY,Nn,h55,Mn,NI,h56,L7,Nz,h57,Mo,NJ,h58,Ia,No,h59,A3,MY,h60,A4,MZ,h61,JK,J0,h62,J1,Np,h63,M1,NT,h64,M3,NU,h65,Mp,NK,h66,M4,M5,h67,A5,A7,h68,M6,NV,h69,A8,M7,h70,Mq,NM,h71,M8,NW,h72,M9,Na,h73,L8,NB,h74,Nb,NX,h75,Mr,NN,h76,A9,Nc,h77,Ms,NO,h78,L9,NC,h79;erw[bR,bS,J,L,O,U,ab]at gmc;erw[bT,bU,ah,ap,ar,as,av]at dbc;erw[bW,b0,aw,aA,aC,aH,aK]at asc;erw[b1,b2,aT,a0,a9,bb,bf]at mcc;erw[b3,b4,bg,bm,bo,y,z]at scc;exists 2,N0,N4,O8,N8,N9,gmmM,Oa,Ob,gmmW,Oc,Pb,gmmC,Od,Oe,dbmI,Of,Og,dbmW,Oh,Pc,dbmU,Oi,Oj,dbmH,Ol,Om,dbmT,On,Pd,dbmC,Oo,Op,dbmB,Oq,Pe,dbmR,Os,Ot,dbmG,Ou,Pg,dbmE,Ov,Ow,asmI,Ox,Ph,asmP,Oy,Pi,asmC,Oz,Pj,asmN,OA,Pk,asmR,OB,OC,mcmI,OD,Pl,mcmS,OE,Pn,mcmR,OF,MC,scmI,OG,Po,scmE,OH,OI,scmS,OJ,Pp,scmT,OK,Pq,scmW,OL,Ps,scmF;let B:Bl mg:=%[vu X G z0,vu X G z1,vu X G z2,vu X G z3,vu X G z4,vu X G z5,vu X G z6,vu X G z7,vu X G z8,vu X G z9,vu X G z10,vu X G z11,vu X G z12|vu X G z13]
 erw[W.fnOf "law" "law" (eR oK) (cP oK) (af oK) .none kV dc pm an cd ct,λs v=>.of_eq rfl,λbase _ _=>?_];let b:=@Cal.of l.prog w K mg base;let b8:=clsfc xfc0;let hV:=vu X G hV0;let Qc:=BG (st:=fo) xlk xcd xkp;let K_A:AskC l.prog w K mg base CE gA _:=⟨lz X G gAs,%[xga,xrd,b8|xkp],‹yA.p› Qc hV,λs us KX hl=>match us,hl with | [_,_],_=>W.binds_K KX rfl xtp rfl rfl rfl⟩
 let L_6:ClsX K c CE:=%[%[_,_,_,_,_,_,_,_,_,_,_,_,_,_|yo6],ys6,ya6,yt6|yc6]
 let J_6:MkX K c r:=L_6.mk' yi6 %[_,yl6|1] yq6;let Qd:=BG (st:=jg) yl6 yk6 yp6;let N:NoX l.prog w K mg base "NoTurn" c CE r _:=⟨J_6,‹Di.p› Qd K_A J_6 L_6 yn6,LC λs u KX=>W.binds_K KX rfl yd6 rfl rfl rfl,L_6,lz X G yg6⟩
 let hA:xA K CE:=%[_,_,_,_,_,_,_,_,_,_,_,_,_,_|iAs0]
 let K_H:AskCH l.prog w K mg base CE gA _:=⟨lz X G gAs,%[xga,xrd,b8|xkp],‹xh.p› Qc hV,λs us KX hl=>match us,hl with | [_,_],_=>W.binds_K KX rfl xtp rfl rfl rfl⟩
 let NH:NoH l.prog w K mg base c r _:=⟨‹At.p› Qd K_H J_6 L_6 yn6,λs us KX hl=>match us,hl with | [_,_],_=>W.binds_K KX rfl yd6 rfl rfl rfl⟩
 let%[_,_,NY|Qf]:=JZ X G qh;let%[_,_,NZ|Qg]:=JZ X G qt;let TG:GTxt K mg d:=%[%[bS,J,L|O],w8,gmn_trees,gmn_field,gmn_degrees|lz X G bR]
 let T:DTxt K mg C:=%[%[bU,ah,ap|ar],dbn_game,dbn_awaited,dbn_claims,dbn_s,dbn_heard,dbn_tossed,dbn_held,dbn_places|lz X G bT]
 let TA:ATxt K mg CA:=%[%[b0,aw,aA|aC],asn_game,asn_number,asn_many,asn_held,asn_s,asn_tossed,asn_truths|lz X G bW]
 let TM:MTxt K mg x:=%[%[b2,aT,a0|a9],mcn_game,mcn_helper,mcn_next_round,mcn_boxes|lz X G b1]
 let TS:STxt K mg g:=%[%[b4,bg,bm|bo],scn_text,scn_row,scn_most_within,scn_most_parts,scn_place,scn_parts|lz X G b3]
 let t:Tx K mg:=%[%[t1|lz X G g1],%[t3|lz X G g3],%[ka,lz X G g5|λ_=>.inr %[_,j,kn,g6,1,1,hQ g7 (bc ⋯)|g8]],%[t4|lz X G e1],%[t5|lz X G e2],%[t6|lz X G e3],%[u1|lz X G w1],%[u2|lz X G w2],%[u3|lz X G w3],%[ja,lz X G j5|λ_=>.inr %[_,m,jn,j6,1,1,hQ j7 (bc ⋯)|j8]],%[qa,lz X G q5|λ_=>.inr %[_,n,qn,q6,1,1,hQ q7 (bc ⋯)|q8]],%[pa,lz X G p5|λ_=>.inr %[_,o,pn,p6,1,1,hQ p7 (bc ⋯)|p8]],%[br|lz X G r2],%[bt|lz X G r3],%[bx|lz X G r4],%[bA|lz X G r5],%[bB|lz X G r6],%[bC|lz X G r7],%[bD|lz X G r8]|%[va,lz X G v5|λ_=>.inr %[_,q,vn,v6,1,1,hQ v7 (bc ⋯)|v8]]]
 let OM:=N0.binds (ps:=["self","switches","trees","field"]) ‹X.a›;let ON:=N8.binds (ps:=["self","numbers","s"]) ‹X.a›;let OO:=Oa.binds (ps:=["self","point","s"]) ‹X.a›;let Pt:=Oc.binds (ps:=["self"]) ‹X.a›;let OP:=Od.binds (ps:=["self","game"]) ‹X.a›;let OQ:=Of.binds (ps:=["self"]) ‹X.a›;let Pu:=Oh.binds (ps:=["self"]) ‹X.a›;let OR:=Oi.binds (ps:=["self","values"]) ‹X.a›;let OS:=Ol.binds (ps:=["self","r"]) ‹X.a›;let Pw:=On.binds (ps:=["self","values"]) ‹X.a›;let OT:=Oo.binds (ps:=["self","s"]) ‹X.a›;let Px:=Oq.binds (ps:=["self","values"]) ‹X.a›;let OU:=Os.binds (ps:=["self"]) ‹X.a›;let Py:=Ou.binds (ps:=["self"]) ‹X.a›;let Pz:=Ov.binds (ps:=["self","game","number","many","due","s","coins"]) ‹X.a›;let PC:=Ox.binds (ps:=["self","word"]) ‹X.a›;let PD:=Oy.binds (ps:=["self","place"]) ‹X.a›;let PF:=Oz.binds (ps:=["self"]) ‹X.a›;let PH:=OA.binds (ps:=["self","place"]) ‹X.a›;let PK:=OB.binds (ps:=["self","game","helper"]) ‹X.a›;let PL:=OD.binds (ps:=["self","many","due","s","coins"]) ‹X.a›;let PM:=OE.binds (ps:=["self","place","said","asking"]) ‹X.a›;let OV:=OF.binds (ps:=["self","text","row","most_within","most_parts"]) ‹X.a›;let PN:=OG.binds (ps:=["self","within"]) ‹X.a›;let OW:=OH.binds (ps:=["self","signs"]) ‹X.a›;let PP:=OJ.binds (ps:=["self","signs"]) ‹X.a›;let PQ:=OK.binds (ps:=["self"]) ‹X.a›;let PR:=OL.binds (ps:=["self"]) ‹X.a›;let lm:=b M1 (CW M1 B.len) NT ‹X.a›;let D:=b M3 (CQ M3 ) NU ‹X.a›;let o4:=b K9 (yy K9 ) Nq ‹X.a›;let e8:=b xT (uJ xT ) MJ ‹X.a›;let cf:=b C8 (wX C8 B) Nd ‹X.a›;let eJ:=b LU (yt LU ) Nu ‹X.a›;let fk:=b iG (kZ iG B eJ e8) qK ‹X.a›;let iH:=b oJ (rh oJ B eJ fk) Mg ‹X.a›;let b9:=b LT (yo LT B iH) Nt ‹X.a›;let mO:=b E5 (xf E5 b9) Ni ‹X.a›;let bi:=b oF (rj oF ) Md ‹X.a›;let i9:=b Mi (tH Mi B Mj bi 10) Mj ‹X.a›;let d8:=b LN (qR LN LP bi 10) LP ‹X.a›;let dA:=b oG (rC oG ) Me ‹X.a›;let f8:=b LQ (qP LQ LR dA 10) LR ‹X.a›;let mi:=b C9 (xa C9 B.max d8) Nf ‹X.a›;let ii:=b lZ (qr lZ B.enumerate) LS ‹X.a›;let km:=b xV (uE xV d8) MN ‹X.a›;let kR:=b y4 (uF y4 %[te|lz X G ge] o4) MO ‹X.a›;let mD:=b D4 (wW D4 B.max) Ng ‹X.a›;let gV:=b Mp (Al Mp B.range D) NK ‹X.a›;let gK:=b M4 (vy M4 B.len M5 D 10) M5 ‹X.a›;let fX:=b A5 (mX A5 A7 10) A7 ‹X.a›;let J5:=b M6 (CT M6 B.len B.max fX) NV ‹X.a›;let kj:=b A8 (uG A8 B.range) M7 ‹X.a›;let mJ:=b E6 (xg E6 B TG i9) Nj ‹X.a›;let OX:=‹FP.p› N0 TG B.tuple B.len mi ii km kR mD;let OY:=‹IY.p› N8 TG B.reversed;let OZ:=‹Da.p› Oa TG N9 OY ON f8;let PU:=‹Dc.p› Oc TG B.len;let PV:=‹De.p› Ou B T TG Ob OZ OO mJ;let O0:=‹KH.p› Os B T TG Pg PV Py;let O1:=‹Dg.p› Oo T TG N9 OY ON Ot O0 OU;let PX:=‹Ar.p› On B T TG Op O1 OT;let PY:=‹IZ.p› Oq B T TG mO;let O2:=‹FS.p› Oi B T TG N cf Pd PX Pw Pe PY Px;let O3:=‹FQ.p› Ol B T TG N cf b9 Op O1 OT Ot O0 OU;let O4:=‹FR.p› Od B T TG;let O5:=‹Dd.p› Of T;let PZ:=‹Ja.p› Oh T;let dG:=b oE (rE oE B.range) Mc ‹X.a›;let iO:=b ML (CZ ML ) NQ ‹X.a›;let gu:=b LK (qS LK LL iO 12) LL ‹X.a›;let o6:=b LM (yz LM B.len dG gu) Nr ‹X.a›;let mV:=b E8 (xc E8 TG o6) Nk ‹X.a›;let o7:=b LW (yp LW B TG Ob OZ OO dG) Nv ‹X.a›;let uq:=b Mm (Aq Mm e8) NG ‹X.a›;let gx:=b L3 (yu L3 uq) Nw ‹X.a›;let P0:=‹FU.p› Ov B TA;let P1:=‹Dh.p› Ox TA TG;let P2:=‹FV.p› Oy B TA TG;let P3:=‹As.p› Oz TA mV o7;let P4:=‹FT.p› OA B TA TG Pj P3 PF b9;let AF:AskF l.prog w K mg base CA d _ _ _ _ _ _:=⟨Ph,P1,PC,Pi,P2,PD,Pk,P4,PH⟩
 let cB:=b LY (qQ LY LZ TA TG AF gx 5) LZ ‹X.a›;let P5:=‹FO.p› OB TM;let P6:=‹IW.p› OE B TM cB;let P7:=‹IV.p› OD B TM TA %[tm|lz X G xmo] ⟨aH,Ow.1,Ow.2,aK⟩ P0 Pz Pn P6 PM;let Y:Ways l.prog w K mg base C x d _ _ _ _ _ _ _ _ _ _:=⟨Og,O5,OQ,Pc,PZ,Pu,Oj,AQ O2,OR,Om,zz O3,OS,Pl,P7,PL⟩
 let cc:Mk K C _:=%[as,Oe.1,Oe.2|av]
 let dV:Mk K x _:=%[bb,OC.1,OC.2|bf]
 let im:=b A0 (uM A0 B T TM Y) MW ‹X.a›;let i4:=b MX (CO MX B T TM Y cc O4 OP dV P5 PK im) NS ‹X.a›;let MF:CalR l.prog w K mg base 19 "tell" ["doubter","row","is_first"] (wc C d c):=CalR.of NF (IU NF T Oj O2 OR Om O3 OS) O9 ‹X.a›;let Ma:CalB false l.prog w K mg base 21 "tell_numbered" ["doubter","row","number"] (su C d c):=CalR.of l6 (qp l6 N NH MF) LV ‹X.a›;let iW:CalB false l.prog w K mg base 23 "judged" ["game","talk"] (spJudgedT C d c):=CalR.of MU (CY MU B T cc O4 OP Og O5 OQ Ma) NR ‹X.a›;let O6:=‹FN.p› OF TS;let P8:=‹CP.p› OG TS;let O7:=‹FM.p› OH TS;let P9:=‹FL.p› OJ B TS OI O7 OW;let Qa:=‹FK.p› OK B t TS;let Qb:=‹Ai.p› OL B TS;let M:Mths l.prog w K mg base g _ _ _ _ _ _ _ _ _ _:=%[Po,P8,PN,OI,O7,OW,Pp,P9,PP,Pq,Qa,PQ,Ps,Qb|PR]
 let bN:=b Ml (Ao Ml B t) NE ‹X.a›;let a8:=b y6 (uI y6 B t) MP ‹X.a›;let eY:=b E1 (pe E1 MR B t E4 MT 8) E4 ‹X.a›;let qL:Cal l.prog w K mg base 18 "row_text_helptexts" ["row"] spRT:=%[_,_,yr NY B eY,NY.binds ‹X.a›,NY.kp|Qf]
 let jW:=b t8 (tK t8 qL) Mw ‹X.a›;let df:=b D7 (pk D7 D8 B9 C2 B t TS M bN a8 8) D8 ‹X.a›;let m5:=b D6 (wV D6 TS M bN) Nh ‹X.a›;let gy:=b oH (rA oH B TS M a8) Mf ‹X.a›;let kU:=b y8 (uL y8 t TS M %[y,MC.1,MC.2|z] O6 OV m5 gy df) MQ ‹X.a›;let jU:=b sE (tI sE B t kU) Mv ‹X.a›;let jV:=b sD (tJ sD B) Mu ‹X.a›;let fV:=b JK (oZ JK J0 10) J0 ‹X.a›;let du:=b Fc (pf Fc G7 Mz MB t TS M bN 10) G7 ‹X.a›;let jG:=b t9 (tG t9 t TS M ⟨y,MC.1,MC.2,z⟩ O6 OV du) Mx ‹X.a›;let iV:=b oO (rD oO B t a8) Mh ‹X.a›;let gG:=b j4 (ot j4 B t bN) C3 ‹X.a›;let iu:=b y9 (uC y9 B) MV ‹X.a›;let iA:=b l7 (qo l7 B t jG) LX ‹X.a›;let m8:=b E9 (wU E9 t iV gG iu iA) Nl ‹X.a›;let oC:=b J1 (wZ J1 B fV) Np ‹X.a›;let e9:=b A4 (uB A4 B) MZ ‹X.a›;let ce:Mk K d _:=⟨U,N4.1,N4.2,ab⟩
 let g9:=b Mo (Ap Mo TG ce OX OM m8) NJ ‹X.a›;let oB:=b Ia (wY Ia jU jV) No ‹X.a›;let lj:=b A3 (uD A3 B a8 cf) MY ‹X.a›;let qM:Cal l.prog w K mg base 1 "row_text_talktexts" ["row"] spRowT:=%[_,_,wS NZ B,NZ.binds ‹X.a›,NZ.kp|Qg]
 let cG:=b HY (wR HY qM) Nn ‹X.a›;let o9:=b L6 (yq L6 B a8) Ny ‹X.a›;let n8:=b G9 (wT G9 B o9) Nm ‹X.a›;let pS:CalB false l.prog w K mg base 28 "judge_of" ["game","talk"] (spJudgeOf c):=CalR.of L7 (yx L7 g9 n8 iW e9) Nz ‹X.a›;let wo:=b Mn (Ah Mn TG Pb PU Pt g9 oB i4 lj cG e9) NI ‹X.a›;let fD:=b M9 (vz M9 B Na D 5) Na ‹X.a›;let qJ:=b L8 (yw L8 B D fD) NB ‹X.a›;let K7:=b Nb (CU Nb D) NX ‹X.a›;let ul:=b Mq (Am Mq D kj) NM ‹X.a›;let K5:=b M8 (CV M8 B.range B.tuple D gV gK J5 ul) NW ‹X.a›;let v9:=b Mr (An Mr B D) NN ‹X.a›;let fe:=b A9 (uH A9 B) Nc ‹X.a›;let w6:=b Ms (Aj Ms B D) NO ‹X.a›;let kh:=b L9 (yv L9 (lz X G gAs) hA N iW pS cG fe) NC ‹X.a›;exact KG Pa B TG ce OX OM lm D gV K5 qJ K7 v9 i4 oC jW cG wo fe w6 kh
def walk{l:PySem.W.OpenLaw}{q:Program}{loose:List Str}{e:(#[9])->Heap->Prop}{c:World->Heap->Prop}{d:DefRec}{K:Params->PySem.W.Frag}(g:l.most=some 63)(b:d.params.defaults=[])
 (j:∀(w:World)(h:Heap),c w h->(K w.params).In h)
 (F:∀(w:World)(mg:#[9])(fa:Addr)(h:Heap),(K w.params).In h->h.Ns mainGlobals mg->mg d.name=some (.ref fa) ->
  ∃fd:FuncData,(∀(s:Shared) (u:Value),BindsTo s fd %[[u]|[]] [("_law_script",u)])/\∀base:Heap,(K w.params).In base->base.Ns mainGlobals mg->FnOk l.prog w (K w.params) mg base CX0 30 fa fd ["_law_script"] (spLaw (K w.params))) :
 PySem.W.WalkO q loose e c l.row.toRowW d [] (λf vs=>PySem.call f vs):=
 L2.walk_of (n:=63) (k:=30) (x:="_law_script") (CX:=λ_=>CX0) (sp:=λw=>spLaw (K w.params)) g ⋯ b %[1,1,4|4] j F (λ_ _ a ns hl _ m=>%[a,ns,1,m,hl|λ_=>rfl]) λ_ _ _ _ _ z=>z
end Mine
namespace PySem.W.Fast
example:=(0,78,100,122,144,166,188,210,233,256,307,361,413,443,501,559,616,714,779,809,860,883,934,1010,1092)
end PySem.W.Fast
open PySem PySem.W PyProof.Rows
set_option maxRecDepth 100000 in
set_option maxHeartbeats 0 in
theorem PySem.Challenge.cw_asktally_k75_talks_at_the_desk_holds : PySem.Challenge.rw_asktally_k75_talks_at_the_desk.Holds := by
 w_on; o_law; k_head; (case hw=>w_witness2)
 k_fill
 apply Mine.walk (l:=PySem.Challenge.rw_asktally_k75_talks_at_the_desk) rfl rfl (λw h Y=>PySem.W.kIn_of Y) ?F
 case F =>
  intro w mg fa h KX G hmg
  refine' Mine.all_mk KX G hmg ?aL ?lL ?cL ?kL ?h0 ?h1 ?h2 ?h3 ?h4 ?h5 ?h6 ?h7 ?h8 ?h9 ?h10 ?h11 ?h12 ?h13 ?h14 ?h15 ?h16 ?h17 ?h18 ?h19 ?h20 ?h21 ?h22 ?h23 ?h24 ?h25 ?h26 ?h27 ?h28 ?h29 ?h30 ?h31 ?h32 ?h33 ?h34 ?h35 ?h36 ?h37 ?h38 ?h39 ?h40 ?h41 ?h42 ?h43 ?h44 ?h45 ?h46 ?h47 ?h48 ?h49 ?h50 ?h51 ?h52 ?h53 ?h54 ?h55 ?h56 ?h57 ?h58 ?h59 ?h60 ?h61 ?h62 ?h63 ?h64 ?h65 ?h66 ?h67 ?h68 ?h69 ?h70 ?h71 ?h72 ?h73 ?h74 ?h75 ?h76 ?h77 ?h78 ?h79 ?gmc ?dbc ?asc ?mcc ?scc ?O8 ?gmmM ?gmmW ?gmmC ?dbmI ?dbmW ?dbmU ?dbmH ?dbmT ?dbmC ?dbmB ?dbmR ?dbmG ?dbmE ?asmI ?asmP ?asmC ?asmN ?asmR ?mcmI ?mcmS ?mcmR ?scmI ?scmE ?scmS ?scmT ?scmW ?scmF ?w8 ?gmn_trees ?gmn_field ?gmn_degrees ?dbn_game ?dbn_awaited ?dbn_claims ?dbn_s ?dbn_heard ?dbn_tossed ?dbn_held ?dbn_places ?asn_game ?asn_number ?asn_many ?asn_held ?asn_s ?asn_tossed ?asn_truths ?mcn_game ?mcn_helper ?mcn_next_round ?mcn_boxes ?scn_text ?scn_row ?scn_most_within ?scn_most_parts ?scn_place ?scn_parts ?g1 ?g3 ?g5 ?g6 ?g7 ?g8 ?e1 ?e2 ?e3 ?w1 ?w2 ?w3 ?j5 ?j6 ?j7 ?j8 ?q5 ?q6 ?q7 ?q8 ?p5 ?p6 ?p7 ?p8 ?r2 ?r3 ?r4 ?r5 ?r6 ?r7 ?r8 ?v5 ?v6 ?v7 ?v8 ?ge ?xmo ?gAs ?iAs0 ?xga ?xrd ?xfc0 ?xlk ?xtp ?xcd ?xkp ?yg6 ?yo6 ?ys6 ?ya6 ?yt6 ?yc6 ?yi6 ?yl6 ?yd6 ?yk6 ?yp6 ?yq6 ?yn6 ?hV0 ?qh ?qt ?z0 ?z1 ?z2 ?z3 ?z4 ?z5 ?z6 ?z7 ?z8 ?z9 ?z10 ?z11 ?z12 ?z13
  case aL|lL|cL|kL=>k_is
  case h0|h1|h2|h3|h4|h5|h6|h7|h8|h9|h10|h11|h12|h13|h14|h15|h16|h17|h18|h19|h20|h21|h22|h23|h24|h25|h26|h27|h28|h29|h30|h31|h32|h33|h34|h35|h36|h37|h38|h39|h40|h41|h42|h43|h44|h45|h46|h47|h48|h49|h50|h51|h52|h53|h54|h55|h56|h57|h58|h59|h60|h61|h62|h63|h64|h65|h66|h67|h68|h69|h70|h71|h72|h73|h74|h75|h76|h77|h78|h79=>exact%[_,by k_is,_,%[_,_,_,_,_,_,_,_,0,by k_is|by k_is]|by k_is]
  case gmc|dbc|asc|mcc|scc=>exact%[by k_is,by k_is,by k_is,by k_is,by k_is,by k_is|by k_is]
  case O8|gmmM|gmmW|gmmC|dbmI|dbmW|dbmU|dbmH|dbmT|dbmC|dbmB|dbmR|dbmG|dbmE|asmI|asmP|asmC|asmN|asmR|mcmI|mcmS|mcmR|scmI|scmE|scmS|scmT|scmW|scmF=>exact%[_,by k_is,by k_is,_,%[_,_,_,_,_,_,_,_,0,by k_is|by k_is]|by k_is]
  case w8|gmn_trees|gmn_field|gmn_degrees|dbn_game|dbn_awaited|dbn_claims|dbn_s|dbn_heard|dbn_tossed|dbn_held|dbn_places|asn_game|asn_number|asn_many|asn_held|asn_s|asn_tossed|asn_truths|mcn_game|mcn_helper|mcn_next_round|mcn_boxes|scn_text|scn_row|scn_most_within|scn_most_parts|scn_place|scn_parts=>delta Mine.HF; k_is
  case g1|g3|g5|g6|e1|e2|e3|w1|w2|w3|j5|j6|q5|q6|p5|p6|r2|r3|r4|r5|r6|r7|r8|v5|v6|ge|xmo|gAs|iAs0|xga|xrd|xfc0|xlk|xtp|xcd|xkp|yg6|yo6|ys6|ya6|yc6|yi6|yl6|yd6|yk6|yp6|yq6|hV0=>k_is
  case g7|j7|q7|p7|v7=>decide
  case g8=>exact Mine.kept_vals
  case j8=>exact Mine.sign_vals
  case q8=>exact Mine.ask_vals
  case p8=>exact Mine.plain_vals
  case v8=>exact Mine.join_vals
  case yt6|yn6=>delta Mine.HF;k_is
  case qh|qt=>exact%[_,by k_is,_,%[_,_,_,_,_,_,_,_,0,by k_is|by k_is]|by k_is]
  case z0|z1|z2|z3|z4|z5|z6|z7|z8|z9|z10|z11|z12|z13=>delta Mine.HZ; k_is
