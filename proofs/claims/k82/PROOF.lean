import PyProof.Rows.All
import Wide.All
import OpenK.AllK
import Wide.FinOn
import Lean
import PyProof.EqAt
import PyProof.EqKinds
import PyProof.TupleCall
import PySem.Challenge.RW_asktally_k82_whole_best_liar_just_at_mos
set_option Elab.async false
set_option linter.all false
set_option maxRecDepth 100000
set_option bootstrap.genMatcherCode false
set_option compiler.extract_closed false
local macro_rules|`(%[$xs,*|$y])=>do
 if y.raw.isIdent then if y.raw.getId==`List.nil then Lean.Macro.throwUnsupported
 if y.raw.isIdent then if y.raw.getId==`ae then return←xs.getElems.foldrM (fun x a=>do match x.raw.isNatLit? with|some _=>`($(Lean.mkIdent `aa) ($(Lean.mkIdent `pv) $x) $a)|_=>`($(Lean.mkIdent `aa) $x $a)) y
 let h←`(_);let r←`(rfl);let q←`(?_);let a←`(by omega);let b←`(by decide);let i:=Lean.mkIdent;let u←`($(i `aF) ($(i `neS) $b) ?_);let c←`($(i `T.cl))
 let o:=(xs.getElems.push y).flatMap fun x=>match x.raw.isNatLit? with|some 0=>#[h,r]|some 1=>#[r]|some 2=>#[h,h,r,r]|some 3=>#[a]|some 4=>#[b]|some 5=>#[r,r,r,b,r,b,b]|some 6=>#[q]|some 7=>#[u]|some 9=>#[c]|_=>#[x]
 `(⟨$o,*⟩)
local macro_rules|`(tactic|let%[$xs,*|$y]:=$e)=>do
 let g:=fun(f:Lean.Term->Lean.MacroM (Lean.TSyntax `rcasesPat))(t:Lean.Term)=>show Lean.MacroM (Lean.TSyntax `rcasesPat) from do
  match t with
  |`(%[$xs,*|$y])=>
   let p←(xs.getElems.push y).mapM fun x=>do let p←f x;`(Lean.Parser.Tactic.rcasesPatLo|$p:rcasesPat)
   `(rcasesPat|⟨$p,*⟩)
  |`($i:ident)=>`(rcasesPat|$i:ident)
  |_=>if t.raw.isNatLit?==some 1 then`(rcasesPat|$(Lean.mkIdent `rfl):ident)else`(rcasesPat|_)
 let p←g (g (g (g (g (g fun _=>`(rcasesPat|_)))))) (←`(%[$xs,*|$y]))
 `(tactic|obtain $p:rcasesPat:=$e)
local macro_rules|`(tactic|erw[$xs,*]$[at $h:ident]?)=>do
 let o:Array Lean.Term:=xs.getElems.map fun x=>⟨x.raw[1]⟩
 let l:=o.back!;let o:=o.pop
 match h with|some h=>`(tactic|let%[$o,*|$l]:=$h)|_=>`(tactic|refine %[$o,*|$l])
local macro_rules|`(⋯)=>`(by decide)
local macro_rules|`(#[1])=>`(λ _ _=>rfl)|`(#[2])=>`(by simp)|`(#[0])=>`(by omega)|`(#[$f:ident,$i:num,$s:ident,$e])=>`($f (i:=$i) ($s).nd rfl (Or.inl rfl) $e)
local macro_rules|`(tactic|exists $x:ident)=>do
 let i:=Lean.mkIdent
 `(tactic|refine $(i `F.ok) $x (fun _ _ _ _ h=>by cases h;subst_vars;rfl) (fun $(i `cdv) $(i `A) $(i `outer) $(i `s) $(i `H) $(i `vs) $(i `Q) $(i `E) $(i `hr) $(i `h)=>?_))
local macro_rules | `(tactic|omega)=>`(tactic|first | lia | omega +splitDisjunctions)
local macro_rules | `(command|def $n:declId $s:optDeclSig $b:declVal)=>`(command|noncomputable def $n:declId $s:optDeclSig $b:declVal)
local macro_rules | `(tactic|decide)=>`(tactic|decide +kernel)
local macro_rules | `(tactic|rfl')=>`(tactic|with_unfolding_all rfl)
theorem QQ0{α:Type}{F:List α->Prop}(h:F []):∀us:List α,us.length=0->F us:=fun us hl=>match us,hl with|[],_=>h
theorem QQ1{α:Type}{F:List α->Prop}(h:∀a,F [a]):∀us:List α,us.length=1->F us:=fun us hl=>match us,hl with|[a],_=>h a
theorem QQ2{α:Type}{F:List α->Prop}(h:∀a b,F [a,b]):∀us:List α,us.length=2->F us:=fun us hl=>match us,hl with|[a,b],_=>h a b
theorem QQ3{α:Type}{F:List α->Prop}(h:∀a b c,F [a,b,c]):∀us:List α,us.length=3->F us:=fun us hl=>match us,hl with|[a,b,c],_=>h a b c
theorem QQ4{α:Type}{F:List α->Prop}(h:∀a b c d,F [a,b,c,d]):∀us:List α,us.length=4->F us:=fun us hl=>match us,hl with|[a,b,c,d],_=>h a b c d
theorem QQ5{α:Type}{F:List α->Prop}(h:∀a b c d e,F [a,b,c,d,e]):∀us:List α,us.length=5->F us:=fun us hl=>match us,hl with|[a,b,c,d,e],_=>h a b c d e
theorem QQ6{α:Type}{F:List α->Prop}(h:∀a b c d e f,F [a,b,c,d,e,f]):∀us:List α,us.length=6->F us:=fun us hl=>match us,hl with|[a,b,c,d,e,f],_=>h a b c d e f
theorem QQ7{α:Type}{F:List α->Prop}(h:∀a b c d e f g,F [a,b,c,d,e,f,g]):∀us:List α,us.length=7->F us:=fun us hl=>match us,hl with|[a,b,c,d,e,f,g],_=>h a b c d e f g
local macro_rules|`(tactic|ac_rfl)=>`(tactic|(intro _ _ _ _ _ _;first|exact QQ1 fun _=>rfl|exact QQ2 fun _ _=>rfl|exact QQ3 fun _ _ _=>rfl|exact QQ0 rfl|exact QQ4 fun _ _ _ _=>rfl|exact QQ5 fun _ _ _ _ _=>rfl|exact QQ6 fun _ _ _ _ _ _=>rfl|exact QQ7 fun _ _ _ _ _ _ _=>rfl))
local macro_rules|`(#[$n,$f:ident,$d:ident,$p,$s])=>let i:=Lean.mkIdent;`($(i `FnOk) $(i `P) $(i `w) $(i `K) $(i `mg) $(i `base) $(i `CX0) $n $f $d $p $s)|`(#[$n,$x:str,$p,$s])=>let i:=Lean.mkIdent;`($(i `Cal) $(i `P) $(i `w) $(i `K) $(i `mg) $(i `base) $n $x $p $s)
local macro_rules|`(‹$x:ident›)=>return Lean.mkIdentFrom x (x.getId++`heap.objs.size)
local macro_rules|`(#[3])=>let i:=Lean.mkIdent;`($(i `CompScope.one) (by rfl') ⋯ rfl ⋯ rfl ⋯ (by rfl') (by rfl') (by rfl') rfl rfl)|`(#[4])=>let i:=Lean.mkIdent;`($(i `CompScope.two) (by rfl') ⋯ rfl ⋯ rfl ⋯ (by first | exact Or.inl rfl | exact Or.inr rfl) (by rfl') (by rfl') (by rfl') (by rfl') rfl rfl (by rfl') rfl rfl)|`(#[5])=>let i:=Lean.mkIdent;`($(i `CompScope.closed) (by rfl') ⋯ rfl ⋯ rfl (by rfl'))
local macro_rules|`(tactic|exists $n:num,$xs,*)=>do
 let i:=Lean.mkIdent;if n.getNat==4 then return ←`(tactic|intro $(i `Pc) $(i `s) $(i `σ) $(i `H) $(xs.getElems)*)
 let i:=Lean.mkIdent;let a:=xs.getElems;let mut r:Array (Lean.TSyntax `tactic):=#[]
 for k in [0:a.size/3] do
  let z:=a[3*k+2]!;let v←if n.getNat==1 then`($(i `aW) $(i `X) $(i `G) $z)else`($(i `dz) $z)
  r:=r.push (←`(tactic|let%[_,_,$(a[3*k]!)|$(a[3*k+1]!)]:=$v))
 `(tactic|($[$r];*))
local macro_rules|`(tactic|exists 3)=>let n:=Lean.mkIdent `no;`(tactic|refine ⟨fun vs H Q E h=>absurd h ($n vs H Q E),fun A outer s H args us vs Q E _ _ _ _ h=>absurd h ($n vs H Q E)⟩)
local macro_rules|`(command|instance $n:declId $s:declSig:=$v)=>do
 if v.raw.isNatLit?==none then Lean.Macro.throwUnsupported
 let i:=Lean.mkIdent;let b:=s.raw[0].getArgs
 let c:Lean.TSyntaxArray ``Lean.Parser.Term.bracketedBinder:=b.map (⟨·⟩)
 let a:Array Lean.Term:=b.flatMap fun x=>x[1].getArgs.map (⟨·⟩)
 let o:=v.raw.isNatLit?==some 1
 let r:=Lean.Syntax.mkApp ⟨n.raw[0]⟩ (if o then a++#[i `vs,i `H,i `Q,i `Pg]else a)
 let t:Lean.Term←Nat.repeat (fun (g:Lean.Term->Lean.MacroM Lean.Term) (t:Lean.Term)=>show Lean.MacroM Lean.Term from if t.raw.isOfKind ``Lean.Parser.Term.forall then do return⟨t.raw.setArg 4 (←g ⟨t.raw[4]⟩)⟩else if t.raw.isOfKind ``Lean.Parser.Term.arrow then do return⟨t.raw.setArg 2 (←g ⟨t.raw[2]⟩)⟩else`($t->$r)) 60 pure ⟨s.raw[1][1]⟩
 let m:=i `mk
 if o then`(command|inductive $n:declId $c* ($(i `vs):ident:List $(i `V)) ($(i `H):ident:$(i `Hp)) ($(i `Q):ident:$(i `VK)) ($(i `Pg):ident:$(i `XK)):Prop
 |$m:ident:$t)
 else`(command|inductive $n:declId $c*:Prop
 |$m:ident:$t)
local macro_rules|`(tactic|let $d:letDecl)=>if d.raw[0].isOfKind ``Lean.Parser.Term.letIdDecl then`(tactic|have $d:letDecl)else Lean.Macro.throwUnsupported
local macro_rules|`(let $d:letDecl;$b)=>`(have $d:letDecl;$b)
local macro_rules|`(command|example:=[$xs,*])=>do
 let a:=xs.getElems;let i:=Lean.mkIdent;if a[0]!.raw.isIdent then
  let c:Array Lean.Command←(Array.range (a.size/2)).mapM fun k=>do
   let x:Lean.Ident:=⟨a[2*k]!⟩;let y:=a[2*k+1]!
   if y.raw.isIdent then`(command|abbrev $x:ident := @$(⟨y.raw⟩):ident)else if y.raw.isOfKind `«term[_]» then`(command|abbrev $x:ident : List PySem.Str := $y)else if y.raw.isNatLit?.isSome then`(command|abbrev $x:ident : $(i `Stmt) := $(i `top) $y)else`(command|abbrev $x:ident : $(i `Stmt) := $(i `bp) $(⟨y.raw[0]⟩) $(⟨y.raw[1][0]⟩))
  return Lean.mkNullNode c
 Lean.Macro.throwUnsupported
local macro_rules|`(command|example:=$t:str)=>do
 let l:=t.getString.toList
 let c←(Array.range (l.length/11)).mapM fun k=>`(command|noncomputable def $(Lean.mkIdent (.mkSimple s!"tw{((l.drop (11*k)).take 11).foldl (fun a c=>let n:=c.toNat;a*62+(if n<58 then n-48 else if n<91 then n-55 else n-61)) 0}")):ident:=())
 return Lean.mkNullNode c
local macro_rules|`(#[6])=>let i:=Lean.mkIdent;`($(i `Value)->$(i `Shared)->Prop)|`(#[7])=>let i:=Lean.mkIdent;`(List ($(i `Addr)×$(i `Obj)))|`(#[8])=>let i:=Lean.mkIdent;`($(i `Inv) $(i `X) $(i `Pc) $(i `σ))|`(#[9])=>let i:=Lean.mkIdent;`($(i `Str)->Option $(i `Value))
local macro_rules|`(#[$e,0])=>`(by simpa using $e)
local macro_rules|`(tactic|exists 5)=>let i:=Lean.mkIdent;`(tactic|(intro $(i `X) $(i `hP) $(i `hw) $(i `hK) $(i `hc) $(i `i) $(i `Pc) $(i `s) $(i `σ) $(i `H) $(i `E) $(i `I) $(i `hf) $(i `st) $(i `hg);subst $(i `hP) $(i `hw) $(i `hK)))
local macro_rules|`(#[$x:str,$s:ident])=>let i:=Lean.mkIdent;`($(i `Fun) $(i `K) $x $x $s $(i `f) $(i `fd))|`(#[$x:str,$y:str,$s:ident])=>let i:=Lean.mkIdent;`($(i `Fun) $(i `K) $x $y $s $(i `f) $(i `fd))
local macro_rules|`(tactic|apply $e)=>`(tactic|refine $e)
local macro_rules|`(‹$x:ident›)=>do
 let i:=Lean.mkIdent;let n:=x.getId
 if let .str m "p":=n then return←`($(i m) (P:=$(i `l.prog)) (w:=$(i `w)) (base:=$(i `base)))
 if n==`X.a then`(by ac_rfl)else if n==`X.w then`($(i `wpAny) ($(i `model) $(i `X.prog) $(i `X.w)) $(i `X.A))else if n==`w.A then`($(i `wpAny) ($(i `model) $(i `prog) $(i `w)) $(i `A))else if n==`Tk.s then`(($(i `Tk.new) $(i `ts)).said $(i `ns) $(i `ts) $(i `p) $(i `rows))else if n==`Tk.a then`(($(i `Tk.new) $(i `ts)).ask $(i `ns) $(i `ts) $(i `p) $(i `rows))else Lean.Macro.throwUnsupported
noncomputable section
section
open PySem PySem.Spec PyProof.Rows
def Pd.{u}{c:Prop}{h:Decidable c}(hc:¬c){α:Sort u}{t e:α}:ite c t e=e:=if_neg hc
def Pe.{u}{c:Prop}{h:Decidable c}(hc:c){α:Sort u}{t e:α}:ite c t e=t:=if_pos hc
example:=[d8,List.length_map,eC,wpAny_bind,eS,Nat.le_refl,fj,List.map_append,fm,List.length_append,fu,wpAny_pure,fz,List.getElem?_eq_getElem,f4,Heap.lt_size,f5,List.length_cons,gz,Heap.get?_push_of_some]
def Pl.{u}{α:Type u}{l:List α}{i:Nat}{a:α}(h:l[i]?=some a):∃h:i<l.length,l[i]=a:=List.getElem?_eq_some_iff.mp h
abbrev hE:=@Nat.le_trans
abbrev hI:=@List.getElem?_map
def Pn.{u}{α:Type u}{a b:α}(h:a∈[b]):a=b:=List.mem_singleton.mp h
example:=[ih,List.take_add_one,i0,List.take_length,i1,Nat.zero_le,i2,Nat.ne_of_lt,js,List.size_toArray,j3,Option.some.inj]
def qA0.{u}{α:Type u}{a b:α}{l:List α}(h:a∈b::l):a=b∨a∈l:=List.mem_cons.mp h
example:=[kb,List.mem_cons_self,kr,List.length_take,kv,Heap.get?_push_size,ln,Bool.false_ne_true,lw,List.map_cons,lz,Int.emod_nonneg,mj,List.mem_cons_of_mem,ms,List.mem_of_getElem?,mu,Int.emod_lt_of_pos,m9,List.getD_eq_getElem?_getD,nh,Int.emod_eq_of_lt,nm,List.length_singleton,n9,Nat.le_succ]
def qO0.{u}{α:Type u}{a:α}{s t:List α}(h:a∈s++t):a∈s∨a∈t:=List.mem_append.mp h
def oe{α β:Type}{f:α->β}{x:Option α}{b:β}(h:x.map f=some b):∃a,x=some a/\f a=b:=Option.map_eq_some_iff.mp h
example:=[oD,Nat.lt_of_lt_of_le,o0,List.length_range,o4,List.getElem_mem,pu,Int.toNat_natCast,ri,Nat.lt_irrefl,wa,Int.mul_le_mul_of_nonneg_left,xn,List.mem_append_right]
end
section
open PySem PySem.Spec PyProof.Rows
example:=[fw,decide_eq_false,ft,decide_eq_true,fx,PySem.boot_len,ks,PassesOwn.never,nw,Nat.succ_le_succ,ni,List.length_nil,qs,PySem.F.plainAttrs_list,pb,Nat.lt_of_le_of_lt,yl,List.getElem?_append_right,O2,PyProof.Rows.callWith_type1,Gp,PySem.F.slot_list_append,G0,PySem.F.type_list_append,L1,Int.dvd_of_emod_eq_zero,rx,wpAny_newObj_type,q9,List.append_nil,PF,List.getElem?_append_left,oj,wpAny_field,ry,wpAny_ite_split,O3,List.length_replicate,PH,wpAny_callSpecial?_slot,PJ,Int.eq_ofNat_of_zero_le,ss,List.range_succ,y1,wpAny_truthy_bool,y3,of_decide_eq_true,rb,List.sum_cons,Ps,Array.length_toList,Pt,PySem.mem_of_lookup,Pu,List.replicate_succ,zi,List.not_mem_nil,Pw,wpAny_setField_rec,rc,Int.pow_succ,rd,W.mg_none_of,zp,PySem.W.kia_one,qq,Int.le_refl,CS,wpAny_seqItems,L5,List.length_set,PK,List.filter_append,Px,Nat.lt_succ_self,Py,wpAny_call_entry,ti,Int.mul_comm,vu,Int.zero_add,E2,List.mem_cons,wb,Int.mul_emod,w4,Int.add_emod,PU,Calls.spliced_cons,PV,wpAny_Call_Name_kw,PL,Bool.and_eq_true,P8,lookup_relabel_local,Ro,Int.emod_eq_emod_iff_emod_sub_eq_zero,PX,wpAny_pyIter_list,PY,List.flatten_cons,rz,call_meets,P9,List.map_congr_left,n7,W.mg_of,QG,F.slot_tuple_iterator_next,PZ,F.plain_max_loop,Qa,wpAny_pyIter_tuple,Qn,Int.emod_add_mul_ediv,Pz,Int.emod_emod,Qo,PyProof.Rows.boot_max,Qb,List.mem_singleton,PM,Heap.size_push,Qp,Nat.pow_le_pow_right,P0,wpAny_passesOwn,Qc,Calls.spliced_nil,Qd,List.append_assoc,QH,wpAny_comprehension_free,Qe,List.filter_congr,Rp,Int.mul_le_mul_of_nonneg_right,PN,List.any_cons,My,wpAny_of_eq,QI,wpAny_getItem_str_slice,QJ,Int.emod_eq_zero_of_dvd,Qq,List.getElem?_range,PP,Int.zero_emod,Qf,List.countP_cons,P1,Str.cps_append,QK,List.getElem?_set_self,QL,Calls.callWith_builtin,QM,PySem.F.plainAttrs_str,Rq,PyProof.Rows.boot_isinstance,PC,Int.mul_one,QN,builtinLookup_eq_fast,Qg,Nat.le_add_left,Qh,List.find?_cons,Qi,Int.natCast_add,OA,wpAny_mono,P2,Int.le_of_dvd,Qr,List.flatMap_cons,Qs,Int.emod_add_emod,QO,List.mem_append_left,QP,List.getElem?_set_ne,QR,Calls.evalArgs_plain,QS,List.count_le_length,Rr,List.drop_eq_getElem_cons,QT,List.getElem_of_mem,PQ,wpAny_letGo,P3,Nat.ne_of_gt,Rs,PySem.F.args_tuple_add_2,P4,Int.lt_or_le,Sc,Int.mul_nonpos_of_nonneg_of_nonpos,Qj,wpAny_holding,Qt,Bool.eq_iff_iff,Rt,PySem.F.entry_tuple_add,Qu,List.sum_append,Qk,wpAny_attempt,Qv,Int.natCast_pow,Ru,PySem.F.slot_tuple_add,Rv,codeAny_compStart_list,Sd,PyProof.Rows.slot_tuple_getitem,QU,wpAny_pyIter_enum,QV,Nat.lt_succ_of_lt,P5,Int.dvd_add,P6,Int.mul_sub,Qw,List.take_zero,Fj,or_false,Qx,List.drop_zero,Ql,Txt.slice_le,Rw,PySem.F.slot_dict_get,Rx,List.getElem?_reverse,Ry,List.length_filter_le,Rz,PyProof.Rows.boot_sum,RB,PyProof.Rows.boot_all,QW,List.length_drop,QX,List.all_eq_true,QY,wpAny_isInstance,QZ,Option.getD_some,Q0,Nat.le_add_right,RC,Around.under_plainId,RD,wpAny_updateSeq_pair,RE,Nat.mul_le_mul_right,Qy,List.all_cons,Qz,Int.mul_assoc,P7,typeIs_str,RF,List.filterMap_cons,Q1,wpAny_execs_nil,RG,PySem.W.plainGet_of,Q2,List.nil_append,Q3,F.slot_int_rmul,Q4,post_val_or_str,Q5,typeLookup_type,Q6,Option.map_some,RH,ne_true_of_eq_false,Q7,F.slot_zip_next,RI,List.flatMap_append,Qm,Int.mul_add,RJ,List.length_flatMap,Q8,List.filter_map,QA,Nat.le_of_lt,RK,PySem.W.callWith_K,RL,F.args_str_split_2,RM,F.args_tuple_mul_2,QB,Nat.pow_succ,QC,Int.add_zero,RN,Int.natCast_nonneg,QD,Int.pow_zero,Q9,Bool.and_false,Ra,isSubtype_type,Rb,wpAny_tryCatch,RO,F.entry_str_split,RQ,F.entry_tuple_mul,RS,Int.mul_left_comm,RT,List.pairwise_map,RU,Str.length_append,RV,List.countP_congr,RX,decide_eq_true_eq,RY,Int.add_emod_emod,Rc,Bool.or_false,Re,plainId_quiet,Rf,wpAny_onRaise,RZ,noFill_tuple_add,R9,F.entry_max_loop,Sa,F.slot_str_split,Sb,F.slot_tuple_mul,Rg,codeAny_mono,PD,if_true,Rh,Nat.succ_mul,Ri,List.map_nil,Rj,Int.dvd_refl,Rk,Int.sub_self,Rl,Nat.zero_add,Rm,Nat.sub_self,Rn,Int.add_comm,QE,typeIs_int,QF,wpAny_rule]
end
example:=[WA,["self"],WB,["tree"],WC,["game"],WD,["game","claims"],WE,["text"],WF,["self","values"],WG,["self","signs"],WH,["_law_feed_here","_law_many"],WI,["self","game"],WJ,["self","game","helper"],WK,["scan","within"],WL,["values","r","p"],WM,["self","numbers","s"],WN,["self","place"],WO,["_law_field_here","_law_coins"],WP,["_law_tree_here"],WQ,["self","point","s"],WR,["self","s"],WS,["_law_tree_here","_law_name"],WT,["_law_feed_here","_law_names_here","_law_room","_law_deep"],WU,["tree","switches","point","p"],WV,["tree","switches","setting"],WW,["term","boxes","asking"],WX,["machine","doubter","coins"],WY,["_law_tree_here","_law_on"],WZ,["self","switches","trees","field"],Wa,["value","p"],Wb,["self","r"],Wc,["word","first","second"],Wd,["sign","first","second","p"],We,["self","word"],Wf,["self","game","number","many","due","s","coins"],Wg,["machine","doubter"],Wh,["game","coins"],Wi,["_law_names_here","_law_trees"],Wj,["_law_numbers","_law_s","_law_field_here"],Wk,["self","text","row","most_within","most_parts"],Wl,["self","within"],Wm,["word","first","second","p"],Wn,["name","trees"],Wo,["numbers","p"],Wp,["tree","switches"],Wq,["first","second","p"],Wr,["self","place","said","asking"],Ws,["self","many","due","s","coins"],Wt,["number","times"],Wu,["end","go","if","set","say"],Wv,["_law_script","_law_k"],Ww,["game","helper","coins"],Wx,["_law_feed_here","_law_most_here"],Wy,["_law_tree_here","_law_names_here"],Wz,["_law_game","_law_helper"],W0,["_law_feed_here","_law_counts","_law_field_here"],W9,["_law_names_here","_law_trees","_law_field_here","_law_wrong","_law_blind"]]
abbrev VA:List PySem.Str:=["_law_game","_law_counts","_law_claims_here"]
namespace L2
open PySem PySem.Spec PyProof.Rows
abbrev Key:=Sum Int Str
def vp:Key->Value->Bool
 |.inl k,v=>Value.isInt k v
 |.inr x,v=>Value.isStrOf x v
def keyH(w:World):Key->Int
 |.inl k=>hashInt k
 |.inr x=>hashStr w x
def dJ:∀{k:Key}{v:Value},vp k v=true->(∃i t,k=Sum.inl i/\v=Value.int i t)∨(∃x t,k=Sum.inr x/\v=Value.str x t)
 |.inl i,v,h=>by
   let%[t|e]:=Value.isInt_shape (k:=i) (v:=v) h;exact .inl %[i,t,1|e]
 |.inr x,v,h=>by
   let%[t|e]:=Value.isStrOf_shape (x:=x) (v:=v) h;exact .inr %[x,t,1|e]
def DB(i:Int)(t:Tok):vp (.inl i) (.int i t)=true:=by simp [vp,Value.isInt]
def Dz(x:Str)(t:Tok):vp (.inr x) (.str x t)=true:=by simp [vp,Value.isStrOf]
def KN(a b:Int):decide ((Sum.inl a:Key)=Sum.inl b)=(a==b):=by
 by_cases e:a=b
 . subst e;simp
 . let h:¬ (Sum.inl a:Key)=Sum.inl b:=λq=>e (Sum.inl.inj q)
   rw[fw h];exact(beq_eq_false_iff_ne.mpr e).symm
def KK(a b:Str):decide ((Sum.inr a:Key)=Sum.inr b)=decide (a=b):=by
 by_cases e:a=b
 . subst e;simp
 . let h:¬ (Sum.inr a:Key)=Sum.inr b:=λq=>e (Sum.inr.inj q)
   rw[fw h,fw e]
def KM(a:Int)(b:Str):decide ((Sum.inl a:Key)=Sum.inr b)=false:=fw (λq=>nomatch q)
def KL(a:Str)(b:Int):decide ((Sum.inr a:Key)=Sum.inl b)=false:=fw (λq=>nomatch q)
def eO(prog:Program)(w:World):PySem.KeyKind prog w Key where
 is:=vp
 hash:=keyH w
 inj:=λv a b ha hb=>by
  rcases dJ ha with⟨i,t,rfl,rfl⟩ | ⟨x,t,rfl,rfl⟩
  . rcases dJ hb with⟨j,u,rfl,e⟩ | ⟨y,u,rfl,e⟩
    . injection e with e1 _;rw[e1]
    . exact nomatch e
  . rcases dJ hb with⟨j,u,rfl,e⟩ | ⟨y,u,rfl,e⟩
    . exact nomatch e
    . injection e with e1 _;rw[e1]
 byValue:=λk v h=>by
  rcases dJ h with⟨i,t,rfl,rfl⟩ | ⟨x,t,rfl,rfl⟩ <;> rfl
 pyHash:=λc h=>by
  rcases dJ c with⟨i,t,rfl,rfl⟩ | ⟨x,t,rfl,rfl⟩
  . exact wpAny_pyHash_int h
  . exact wpAny_pyHash_str h
 eqBool:=λd c h=>by
  rcases dJ d with⟨i,t,rfl,rfl⟩ | ⟨x,t,rfl,rfl⟩
  . rcases dJ c with⟨j,u,rfl,rfl⟩ | ⟨y,u,rfl,rfl⟩
    . rw[KN]at h;exact wpAny_eqBool_int h
    . rw[KM]at h;exact SeqAt.EqAt.int_str i t y u _ _ _ _ h
  . rcases dJ c with⟨j,u,rfl,rfl⟩ | ⟨y,u,rfl,rfl⟩
    . rw[KL]at h;exact SeqAt.EqAt.str_int x t j u _ _ _ _ h
    . rw[KK]at h;exact wpAny_eqBool_str h
 «strs»:=λk x t v h=>by
  rcases dJ h with⟨i,u,rfl,e⟩ | ⟨y,u,rfl,e⟩
  . exact nomatch e
  . injection e with e1 _;subst e1;cases v <;> rfl
def yE(prog:Program)(w:World)(i:Int)(t:Tok):(eO prog w).is (.inl i) (.int i t)=true:=DB i t
def yD(prog:Program)(w:World)(x:Str)(t:Tok):(eO prog w).is (.inr x) (.str x t)=true:=Dz x t
inductive V where
 |non | bl (b:Bool) | int (i:Int) | str (x:Str) | byt (b:Array UInt8) | flt (b:UInt64) | ref (a:Addr) | ty (n:String)
 deriving DecidableEq
def RelV:V->Value->Prop
 |.non,u=>u=Value.none
 |.bl b,u=>u=Value.bool b
 |.int i,u=>∃t,u=Value.int i t
 |.str x,u=>∃t,u=Value.str x t
 |.byt b,u=>∃t,u=Value.bytes b t
 |.flt b,u=>∃t,u=Value.float b t
 |.ref a,u=>u=Value.ref a
 |.ty n,u=>u=Value.type n
abbrev Vals:List V->List Value->Prop:=Paired RelV
def Vals.length(r:Vals xs us):xs.length=us.length:=Paired.length r
def Vals.get:∀{xs:List V}{us:List Value}{i:Nat}{x:V},Vals xs us->xs[i]?=some x->∃u,us[i]?=some u/\RelV x u
 |_,_,_,_,.nil,e=>by simp at e
 |_,_,0,_,.cons r _,e=>by simp at e;subst e;erw[0,r]
 |_,_,i+1,x,.cons _ t,e=>by
   let%[u,h1|h2]:=Vals.get (i:=i) (x:=x) t #[e,0];erw[u,by simpa using h1,h2]
def Vals.set{x:V}{u:Value}(r:RelV x u):∀{xs:List V}{us:List Value}(i:Nat),Vals xs us->Vals (xs.set i x) (us.set i u)
 |_,_,_,.nil=>.nil
 |_,_,0,.cons _ t=>.cons r t
 |_,_,i+1,.cons q t=>.cons q (Vals.set r i t)
def Vals.append:∀{xs ys:List V}{us ws:List Value},Vals xs us->Vals ys ws->Vals (xs++ys) (us++ws)
 |_,_,_,_,.nil,s=>s
 |_,_,_,_,.cons r t,s=>.cons r (Vals.append t s)
def Vals.take:∀{xs:List V}{us:List Value}(n:Nat),Vals xs us->Vals (xs.take n) (us.take n)
 |_,_,0,_=>.nil
 |_,_,_+1,.nil=>.nil
 |_,_,n+1,.cons r t=>.cons r (Vals.take n t)
def Vals.drop:∀{xs:List V}{us:List Value}(n:Nat),Vals xs us->Vals (xs.drop n) (us.drop n)
 |_,_,0,r=>r
 |_,_,_+1,.nil=>.nil
 |_,_,n+1,.cons _ t=>Vals.drop n t
def RelO:Option V->Option Value->Prop
 |some v,some u=>RelV v u
 |none,none=>True
 |_,_=>False
def KV{κ:Type}:List (κ×V)->List (κ×Value)->Prop:=Paired fun(p:κ×V)(q:κ×Value)=>p.1=q.1/\RelV p.2 q.2
def kV:Key->V
 |.inl i=>.int i
 |.inr x=>.str x
inductive HO where
 |lst (xs:List V)
 |tup (xs:List V)
 |dK (Ph:List (Key×V)) | dT (Ph:List (List Key×V))
 |set (S:Int->Bool) (n:Nat)
 |ins (C dx:Addr) (fs:List (Str×V))
 |own (x:Addr)
 |xd (fs:List (Str×V))
 |met (f x:Addr)
 |rng (lo hi:Int)
 |frz (o:Obj) (u:HO)
 |tbl (ps:Array Value)
 |ext (φ:Heap->Prop)
abbrev Hp:=Addr->Option HO
def upd(H:Hp)(a:Addr)(o:HO):Hp:=λb=>if b=a then some o else H b
def ah:upd H a o a=some o:=by unfold upd;rw[Pe rfl]
def az{a b:Addr}(h:b≠a):upd H a o b=H b:=by unfold upd;rw[Pd h]
def bO{H:Hp}{a b:Addr}{o u:HO}(h:H a=some o)(h':H b=some u)(d:o≠u):a≠b:=by
 intro e;subst e;rw[h]at h';exact d (j3 h')
def aN{H:Hp}{a b:Addr}{o:HO}(h:H a=some o)(h':H b=none):a≠b:=by
 intro e;subst e;rw[h]at h';cases h'
section
variable (P:Program)(w:World)
def ObjOk(H:Hp)(h:Heap)(a:Addr):HO->Prop
 |.lst xs=>xs.length<=sizeLine/\∃(its:List Value) (n:Nat),Vals xs its/\h.get? a=some { cls:=.type "list",data:=.seq its.toArray n }
 |.tup xs=>xs.length<=sizeLine/\∃its:List Value,Vals xs its/\IsTup h a its.toArray/\∃o,h.get? a=some o/\o.dict=none
 |.dK c=>c.length<=sizeLine/\(a==sysModules)=false/\∃vs,KV c vs/\h.DictOf (eO P w) a vs
 | .dT c=>c.length<=sizeLine/\(a==sysModules)=false/\∃xs:List (List Key×Addr×Value),
  Paired (fun(p:List Key×V)(q:List Key×Addr×Value)=>p.1=q.1/\H q.2.1=some (.tup (p.1.map kV))/\RelV p.2 q.2.2) c xs/\
  ∃o e g,h.get? a=some o/\o.ExactDict/\o.data=.dict e g/\e.toList=xs.map (entryOfKey (tupleKind (eO P w)))/\(xs.map (·.1)).Nodup
 |.set S n=>h.SetOf (intKind P w) a S n
 | .ins C d fs=>H d=some (.own a)/\fs.length<=1000/\d≠a/\h.get? a=some (PySem.W.instObj C d)/\
  ∃b,h.Ns1 d b/\(∀f,RelO (fs.lookup f) (b f))/\PySem.Within b (fs.map (·.1))
 |.own _=>∃o,h.get? a=some o
 |.xd fs=>∃b,h.Ns1 a b/\∀f,RelO (fs.lookup f) (b f)
 |.rng lo j=>∃t u v,h.get? a=some { cls:=.type "range",data:=.fields #[.int lo t,.int j u,.int 1 v] }
 |.frz o u=>h.get? a=some o/\ObjOk H h a u
 |.tbl ps=>h.get? a=some { cls:=.none,data:=.fields ps }
 |.met f x=>h.get? a=some (PySem.W.methodObj (.ref f) (.ref x))
 |.ext φ=>φ h/\(∃o,h.get? a=some o)/\∀h1 h2:Heap,φ h1->(∀o,h1.get? a=some o->h2.get? a=some o)->φ h2
def HOk(H:Hp)(h:Heap):Prop:=∀a o,H a=some o->ObjOk P w H h a o
end
section
variable {P:Program}{w:World}{H H':Hp}{h h':Heap}{a:Addr}{o:HO}
def ObjOk.lt(x:ObjOk P w H h a o):a<h.objs.size:=by
 cases o with
 |lst xs=>erw[_,_,_,_,e]at x;exact f4 e
 |tup xs=>erw[_,_,_,p,_]at x;exact p.lt
 |dK b=>erw[_,_,_,_,o,_,_,e,_]at x;exact f4 e
 |dT b=>erw[_,_,_,_,o,_,_,e,_]at x;exact f4 e
 |set S n=>erw[o,_,_,_,e,_]at x;exact f4 e
 |ins C c fs=>erw[_,_,_,e,_]at x;exact f4 e
 |own y=>erw[_,e]at x;exact f4 e
 |xd fs=>erw[_,%[_,_,_,e|_],_]at x;exact f4 e
 |rng lo d=>erw[_,_,_,e]at x;exact f4 e
 |frz g u=>erw[e,_]at x;exact f4 e
 |tbl ps=>exact f4 (show h.get? a=some _ from x)
 |met f y=>exact f4 (show h.get? a=some _ from x)
 |ext φ=>erw[_,%[_|e],_]at x;exact f4 e
def Paired.mapP{α β:Type}{F G:α->β->Prop}:∀{c:List α}{d:List β},Paired F c d->(∀a b,F a b->G a b)->Paired G c d
 |_,_,.nil,_=>.nil
 |_,_,.cons r t,f=>.cons (f _ _ r) (Paired.mapP t f)
def ObjOk.stay(x:ObjOk P w H h a o)(k:∀b u,(b=a∨H b=some (.own a))->h.get? b=some u->h'.get? b=some u)
 (J:∀b,H b=some (.own a)->H' b=some (.own a))(L:∀b xs,H b=some (.tup xs)->H' b=some (.tup xs)):ObjOk P w H' h' a o:=by
 induction o with
 |lst xs=>erw[z,its,n,r,e]at x;erw[z,its,n,r,k _ _ (.inl rfl) e]
 |tup xs=>erw[z,its,r,%[g,e|c],B,e2,d]at x;erw[z,its,r,%[g,k _ _ (.inl rfl) e|c],B,k _ _ (.inl rfl) e2,d]
 |dK M=>erw[z,y,vs,r,g,j,m,e,c]at x;erw[z,y,vs,r,g,j,m,k _ _ (.inl rfl) e,c]
 |dT M=>
   erw[z,y,xs,r,g,j,m,e,c]at x;erw[z,y,xs,Paired.mapP r λp q z=>%[z.1,L _ _ z.2.1|z.2.2],g,j,m,k _ _ (.inl rfl) e,c]
 |set S n=>erw[g,j,m,t,e,c]at x;erw[g,j,m,t,k _ _ (.inl rfl) e,c]
 |ins C O fs=>
   erw[d,z,ne,e,D,%[B,j,m,e2|c],r]at x;erw[J _ d,z,ne,k _ _ (.inl rfl) e,D,%[B,j,m,k _ _ (.inr d) e2|c],r]
 |own y=>erw[g,e]at x;erw[g,k _ _ (.inl rfl) e]
 |xd fs=>erw[D,%[B,j,m,e|c],r]at x;erw[D,%[B,j,m,k _ _ (.inl rfl) e|c],r]
 |rng lo U=>erw[t,u,v,e]at x;erw[t,u,v,k _ _ (.inl rfl) e]
 |frz g u N=>erw[e,q]at x;erw[k _ _ (.inl rfl) e,N q]
 |tbl ps=>
   let e:h.get? a=some { cls:=.none,data:=.fields ps }:=x;show h'.get? a=some { cls:=.none,data:=.fields ps };exact k a _ (.inl rfl) e
 |met f y=>
   let e:h.get? a=some (PySem.W.methodObj (.ref f) (.ref y)):=x;show h'.get? a=some (PySem.W.methodObj (.ref f) (.ref y));exact k a _ (.inl rfl) e
 |ext φ=>erw[p,%[o|e],st]at x;erw[st _ _ p λo q=>k _ _ (.inl rfl) q,%[o|k _ _ (.inl rfl) e],st]
def HOk.lt(x:HOk P w H h)(e:H a=some o):a<h.objs.size:=(x a o e).lt
def HOk.fresh(x:HOk P w H h)(e:h.objs.size<=a):H a=none:=by
 cases q:H a with
 |none=>rfl
 |some u=>exact absurd (oD (x.lt q) e) (ri _)
def HOk.kept(x:HOk P w H h)(k:∀b u,h.get? b=some u->h'.get? b=some u):HOk P w H h':=λa o e=>
 (x a o e).stay (λb u _ q=>k b u q) (λ_ q=>q) λ_ _ q=>q
def HOk.laid(x:HOk P w H h)(k:∀b u,h.get? b=some u->h'.get? b=some u)(g:h.objs.size<=a)(new:ObjOk P w (upd H a o) h' a o):HOk P w (upd H a o) h':=λb u e=>by
 let d:=x.fresh g
 by_cases hb:b=a
 . subst hb;rw[ah]at e;cases e;exact new
 . rw[az hb]at e;exact(x b u e).stay (λc v _ q=>k c v q) (λc q=>by rw[az (aN q d)];exact q) λc xs q=>by rw[az (aN q d)];exact q
end
def Rd(H:Hp)(a:Addr)(u:HO):Prop:=H a=some u∨∃o,H a=some (.frz o u)
def Rd.ok{P:Program}{w:World}{h:Heap}(r:Rd H a u)(x:HOk P w H h):ObjOk P w H h a u:=by
 rcases r with r | ⟨o,r⟩
 . exact x a u r
 . let%[_|q]:=x a _ r;exact q
def Mut:Option HO->Prop
 |some (.lst _)=>True
 |some (.dK _)=>True
 |some (.dT _)=>True
 |some (.set _ _)=>True
 |some (.ins _ _ _)=>True
 |some (.ext _)=>True
 |_=>False
section
variable {P:Program}{w:World}{H:Hp}{h h':Heap}{x e:Addr}{o':HO}
def HOk.write(ok:HOk P w H h)(m:Mut (H x))(he:e=x∨H e=some (.own x))(k:∀b u,b≠e->h.get? b=some u->h'.get? b=some u)(n:∃u,h'.get? e=some u)
 (new:ObjOk P w (upd H x o') h' x o'):HOk P w (upd H x o') h':=λb u q=>by
 let g:∀c y,H c=some (.own y)->c≠x:=λc y r z=>by subst z;rw[r]at m;exact m
 let j:∀c xs,H c=some (.tup xs)->c≠x:=λc xs r z=>by subst z;rw[r]at m;exact m
 by_cases hb:b=x
 . subst hb;rw[ah]at q;cases q;exact new
 . rw [az hb]at q
   by_cases d:b=e
   . let o:H b=some (.own x):=by
      rcases he with z | z
      . exact absurd (d.trans z) hb
      . rw[d];exact z
     rw[q]at o;cases o;erw[v,t]at n;erw[v,by rw[d];exact t]
   . apply (ok b u q).stay (λc v hc r=>k c v ?_ r) (λc r=>by rw[az (g c b r)];exact r) λc xs r=>by rw[az (j c xs r)];exact r
     rcases hc with rfl | hc
     . exact d
     . rintro rfl;rcases he with z | z
       . exact g c b hc z
       . rw[hc]at z;cases z;exact hb rfl
end
structure Un(fs ex:List Addr)(H H':Hp)(h h':Heap):Prop where
 keep:∀b o,h.get? b=some o->H b=none->b∉fs->b∉ex->h'.get? b=some o
 slot:∀b o,h.get? b=some o->H b=none->b∈fs->b∉ex->∃sl,h'.get? b=some { o with slots:=sl }
 free:∀b o,h.get? b=some o->H b=none->b∉ex->H' b=none
 there:∀b o,h.get? b=some o->b∉ex->∃o',h'.get? b=some o'
 tups:∀b xs,H b=some (.tup xs)->H' b=some (.tup xs)
 frzs:∀b o u,H b=some (.frz o u)->H' b=some (.frz o u)
 tbls:∀b ps,H b=some (.tbl ps)->∃more,H' b=some (.tbl (ps++more))
section
variable {fs fs' ex ex':List Addr}{H H1 H2:Hp}{h h1 h2 h':Heap}{a x e:Addr}{o:HO}
def Un.any(u:Un fs ex H H1 h h1){b:Addr}{c:Obj}(q:h.get? b=some c)(n:H b=none)(d:b∉ex):∃g,h1.get? b=some { c with slots:=g }:=by
 by_cases hb:b∈fs
 . exact u.slot b c q n hb d
 . erw[c.slots,u.keep b c q n hb d]
def Un.kept(k:∀b u,h.get? b=some u->h'.get? b=some u):Un fs ex H H h h':=
 %[λb c q _ _ _=>k b c q,λb c q _ _ _=>%[c.slots|k b c q],λ_ _ _ n _=>n,λb c q _=>%[c|k b c q],λ_ _ q=>q,λ_ _ _ q=>q|λ_ ps q=>%[#[]|by rw[q];simp]]
def Un.refl:Un fs ex H H h h:=Un.kept λ_ _ q=>q
def Un.laid(k:∀b u,h.get? b=some u->h'.get? b=some u)(d:h.objs.size<=a)(c:H a=none):Un fs ex H (upd H a o) h h' where
 keep:=λb u q _ _ _=>k b u q
 slot:=λb u q _ _ _=>%[u.slots|k b u q]
 free:=λb u q n _=>by rw[az (i2 (oD (f4 q) d))];exact n
 there:=λb u q _=>%[u|k b u q]
 tups:=λb xs q=>by rw[az (aN q c)];exact q
 frzs:=λb u xs q=>by rw[az (aN q c)];exact q
 tbls:=λb ps q=>%[#[]|by rw[az (aN q c),q];simp]
def Un.write(d:Mut (H x))(he:e=x∨H e=some (.own x))(k:∀b u,b≠e->h.get? b=some u->h'.get? b=some u)(g:∃u,h'.get? e=some u):Un fs ex H (upd H x o) h h':=by
 let m:∀b,H b=none->b≠x:=λb n z=>by subst z;rw[n]at d;exact d
 let hb:∀b,H b=none->b≠e:=λb n z=>by
  subst z;rcases he with r | r
  . exact m b n r
  . rw[n]at r;cases r
 let j:∀b u,H b=some u->¬ Mut (some u)->b≠x:=λb u q t z=>by subst z;rw[q]at d;exact t d
 erw[λb u q n _ _=>k b u (hb b n) q,λb u q n _ _=>%[u.slots|k b u (hb b n) q],λb u q n _=>by rw[az (m b n)];exact n,λb u q _=>?_,λb xs q=>by rw[az (j b _ q λz=>z)];exact q,λb u xs q=>by rw[az (j b _ q λz=>z)];exact q,λb ps q=>%[#[]|by rw[az (j b _ q λz=>z),q];simp]]
 by_cases c:b=e
 . subst c;exact g
 . erw[u,k b u c q]
end
def trk(h:Heap)(H:Hp):List Addr:=(List.range h.objs.size).filter λa=>(H a).isSome
def xA(h:Heap)(H:Hp):Heap:=PySem.W.hideAll h (trk h H)
def DK(h:Heap)(H:Hp):(xA h H).objs.size=h.objs.size:=PySem.W.hideAll_size _ _
def Ha{h:Heap}{H:Hp}{b:Addr}{o:Obj}(e:h.get? b=some o)(n:H b=none):(xA h H).get? b=some o:=
 PySem.W.hideAll_get _ e λc=>by
  let q:(H b).isSome=true:=(List.mem_filter.mp c).2;rw[n]at q;simp at q
def IU{b:Addr}{o:Obj}(e:(xA h H).get? b=some o):h.get? b=some o/\H b=none:=by
 let c:h.get? b=some o:=PySem.W.of_hideAll (trk h H) e;erw[c,6];cases q:H b with
 |none=>rfl
 |some x=>
   let d:b∈trk h H:=List.mem_filter.mpr %[List.mem_range.mpr (f4 c)|by simp [q]];let z:(xA h H).get? b=none:=PySem.W.hideAll_none (trk h H) d;rw[z]at e;cases e
structure Mod(K:W.Frag)(mg:#[9])(base:Heap):Prop where
 kin:K.In base
 glob:base.Ns mainGlobals mg
 blt:∃mb,base.Ns builtinsNs mb/\∀x:Str,x≠"__name__" -> mb x=bootBuiltins x
 nolimit:base.NoLimit
structure Cx where
 prog:Program
 w:World
 K:W.Frag
 mg:#[9]
 base:Heap
 A:Around
 N:List Str
 s₀:Shared
 H₀:Hp
 env:Env
 outer:List Env
 stack:List Env
 ex:List Addr
 fn:Str->Bool
 calm:Bool
 pn:#[7]
 xe:#[6]
def frs(l:List Env):List Addr:=l.filterMap (·.frame)
abbrev Cx.fs(X:Cx):List Addr:=frs X.outer
def Vis(b:Scope)(x:Str):Prop:=b.names.lookup x=some .local∨b.names.lookup x=some .cell∨b.names.lookup x=some .free
def Loc(b:Scope)(x:Str):Prop:=b.names.lookup x=some .local∨b.names.lookup x=some .cell
def Look(env:Env)(h:Heap)(m:#[9])(x:Str)(u:Value):Prop:=
 (env.kindOf x=some .local/\m x=some u)∨((env.kindOf x=some .cell∨env.kindOf x=some .free)/\∃c,env.cells.lookup x=some c/\h.IsCell c (some u))
structure Cx.Ok(X:Cx):Prop where
 mod:Mod X.K X.mg X.base
 kind:X.env.scope.kind=.function
 glob:X.env.globals=mainGlobals
 blt:X.env.builtins=builtinsNs
 above:X.s₀.heap.objs.size<=X.env.locals
 inj:∀x y c,X.env.cells.lookup x=some c->X.env.cells.lookup y=some c->x=y
 has:∀x,(X.env.kindOf x=some .cell∨X.env.kindOf x=some .free)->∃c,X.env.cells.lookup x=some c
 cab:∀x c,X.fn x=true->X.env.cells.lookup x=some c->X.s₀.heap.objs.size<=c
 hd:X.calm=true->X.A.handled=none
 frames:X.A.frames=some X.stack
 stk:X.stack=X.outer∨(X.stack=X.env::X.outer/\X.env.frame=some X.env.locals)
 exf:∀b∈X.ex,b≠X.env.locals/\∀x c,X.env.cells.lookup x=some c->c≠b
 bs:∀b o,X.base.get? b=some o->X.s₀.heap.get? b=some o/\X.H₀ b=none
 bsz:X.base.objs.size<=X.s₀.heap.objs.size
 noex:∀b o,X.base.get? b=some o->b∉X.ex
 exfs:∀b∈X.ex,b∉X.fs
 funs:X.s₀.heap.FunFrames X.base X.outer
 frf:∀b∈X.fs,X.H₀ b=none
structure Inv(X:Cx)(Pc:#[7])(σ:List (Option V))(H:Hp)(s:Shared):Prop where
 ok:X.Ok
 os:s.os=X.s₀.os
 bare:AllBare s.gens
 base:Un X.fs X.ex X.H₀ H X.s₀.heap s.heap
 loc:∃m,s.heap.Ns X.env.locals m/\∀(i:Nat)(x:Str)(v:V),X.N[i]?=some x->σ[i]?=some (some v)->Vis X.env.scope x->∃u,RelV v u/\Look X.env s.heap m x u
 cell:∀x c,X.env.cells.lookup x=some c->∃v,s.heap.IsCell c v
 free:H X.env.locals=none
 freeC:∀x c,X.env.cells.lookup x=some c->H c=none
 pin:∀p∈X.pn++Pc,s.heap.get? p.1=some p.2/\H p.1=none/\p.1≠X.env.locals/\p.1∉X.fs/\∀v,p.2.data≠.cell v
 hok:HOk X.prog X.w H s.heap
 len:σ.length=X.N.length
section
variable {X:Cx}{Pc:#[7]}{σ:List (Option V)}{H H':Hp}{s:Shared}{h':Heap}
def Cx.Ok.nofr(ok:X.Ok){b:Addr}{o:Obj}(e:X.base.get? b=some o):b∉X.fs:=λhb=>by
 have:=(ok.funs.mem hb).1
 rw[e]at this;cases this
def Inv.bs(I:#[8] H s):∀b o,X.base.get? b=some o->s.heap.get? b=some o/\H b=none:=λb o e=>
 %[I.base.keep b o (I.ok.bs b o e).1 (I.ok.bs b o e).2 (I.ok.nofr e) (I.ok.noex b o e)|I.base.free b o (I.ok.bs b o e).1 (I.ok.bs b o e).2 (I.ok.noex b o e)]
def Inv.bk(I:#[8] H s):∀b o,X.base.get? b=some o->s.heap.get? b=some o:=λb o e=>(I.bs b o e).1
def Inv.mod(I:#[8] H s):Mod X.K X.mg X.base:=I.ok.mod
def Inv.kIn(I:#[8] H s):X.K.In s.heap:=I.ok.mod.kin.keeps I.bk
def Inv.lt(I:#[8] H s):X.env.locals<‹s›:=let⟨_,b,_⟩:=I.loc;b.lt
def Inv.sz(I:#[8] H s):X.s₀.heap.objs.size<=‹s›:=hE I.ok.above (QA I.lt)
def Inv.nofs(I:#[8] H s){a:Addr}(h:‹s›<=a):a∉X.fs:=λhb=>by
 let%[_,o,b|_]:=I.ok.funs.mem hb;exact absurd (oD (f4 b) (hE I.sz h)) (ri _)
def Inv.cne(I:#[8] H s):∀x c,X.env.cells.lookup x=some c->c≠X.env.locals:=λx c e z=>by
 let%[v,o,g|hd]:=I.cell x c e;erw[m,%[j,n,q,b,d|_],_]at I.loc;rw[z,b]at g;cases g;rw[d]at hd;cases hd
def Inv.funs(I:#[8] H s):s.heap.FunFrames X.base X.outer:=by
 let all:∀(l:List Env),(∀b∈frs l,b∈X.fs)->X.s₀.heap.FunFrames X.base l->s.heap.FunFrames X.base l:=by
  intro l
  induction l with
  |nil=>intro _ _;trivial
  |cons env r g=>
    intro d hl;erw[j,%[L,o,hf,m,n|hd],hr]at hl;let c:L∈X.fs:=d L (by unfold frs;rw[RF,hf];exact kb);let%[q|e]:=I.base.slot L o n (I.ok.frf L c) c λz=>I.ok.exfs L z c
    erw[j,%[L,_,hf,m,e|hd],g (λb hb=>d b (by unfold frs;rw[RF,hf];exact mj _ hb)) hr]
 exact all X.outer (λ_ hb=>hb) I.ok.funs
def Inv.stack(I:#[8] H s):s.heap.FunFrames X.base X.stack:=by
 rcases I.ok.stk with e | ⟨e,hf⟩
 . rw[e];exact I.funs
 . rw[e];erw[m,b,_]at I.loc;refine .cons (by rw[I.ok.kind];decide) hf b ?_ I.funs;exact Heap.get?_none_of_le (hE I.ok.bsz I.ok.above)
def Inv.stkSub(I:#[8] H s):∀b∈frs X.stack,b∈X.env.locals::X.fs:=λb hb=>by
 rcases I.ok.stk with e | ⟨e,hf⟩
 . rw[e]at hb;exact mj _ hb
 . rw[e]at hb;unfold frs at hb;rw[RF,hf]at hb;exact hb
def Inv.stkFree(I:#[8] H s):∀b∈frs X.stack,H b=none:=λb hb=>by
 rcases qA0 (I.stkSub b hb)with e | hb
 . rw[e];exact I.free
 . let%[_,o,c|_]:=I.ok.funs.mem hb;exact I.base.free b o c (I.ok.frf b hb) λz=>I.ok.exfs b z hb
def Inv.step{g':Array GenState}{t':Nat}{d':Drawn}{ch:List Addr}(I:#[8] H s)
 (j:∀b∈ch,(b∈X.ex∨X.s₀.heap.objs.size<=b)/\b≠X.env.locals/\(∀x c,X.env.cells.lookup x=some c->c≠b)/\∀p∈X.pn++Pc,p.1≠b)
 (keep:∀b o,b≠X.env.locals->b∉X.fs->b∉ch->s.heap.get? b=some o->H b=none->h'.get? b=some o)
 (slot:∀b o,b≠X.env.locals->b∈X.fs->b∉ch->s.heap.get? b=some o->H b=none->∃M,h'.get? b=some { o with slots:=M })(free:∀b o,b∉ch->s.heap.get? b=some o->H b=none->H' b=none)
 (there:∀b o,b∉ch->s.heap.get? b=some o->∃D,h'.get? b=some D)
 (tups:∀b xs,H b=some (.tup xs)->H' b=some (.tup xs))(frzs:∀b o u,H b=some (.frz o u)->H' b=some (.frz o u))(tbls:∀b ps,H b=some (.tbl ps)->∃J,H' b=some (.tbl (ps++J)))
 (ns:∀m,s.heap.Ns X.env.locals m->h'.Ns X.env.locals m)(hok:HOk X.prog X.w H' h')(hg:AllBare g'):
 #[8] H' { s with heap:=h',gens:=g',drawn:=d',toks:=t' }:=by
 let L:∀b o,X.s₀.heap.get? b=some o->b≠X.env.locals:=λb o e=>i2 (oD (f4 e) I.ok.above)
 let B:∀b o,X.s₀.heap.get? b=some o->b∉X.ex->b∉ch:=λb o e g hb=>by
  rcases(j b hb).1 with z | z
  . exact g z
  . exact absurd (oD (f4 e) z) (ri _)
 let t:∀x c,X.env.cells.lookup x=some c->∀v,s.heap.IsCell c v->h'.IsCell c v:=λx c e v ⟨o,C,hd⟩=>by
  let y:c∉ch:=λz=>(j c z).2.2.1 x c e rfl
  by_cases hc:c∈X.fs
  . let%[M|q]:=slot c o (I.cne x c e) hc y C (I.freeC x c e);erw[_,q,hd]
  . erw[o,keep c o (I.cne x c e) hc y C (I.freeC x c e),hd]
 erw[I.ok,I.os,hg,%[λb o e n hb g=>?_,λb o e n hb g=>?_,λb o e n g=>?_,λb o e g=>?_,λb xs e=>tups b xs (I.base.tups b xs e),λb o xs e=>frzs b o xs (I.base.frzs b o xs e)|λb ps e=>?_],6,λx c e=>?_,6,λx c e=>?_,λp O=>?_,hok,I.len]
 . exact keep b o (L b o e) hb (B b o e g) (I.base.keep b o e n hb g) (I.base.free b o e n g)
 . let%[M|e1]:=I.base.slot b o e n hb g;let%[N|e2]:=slot b _ (L b o e) hb (B b o e g) e1 (I.base.free b o e n g);erw[N,e2]
 . let%[D|e1]:=I.base.there b o e g;exact free b D (B b o e g) e1 (I.base.free b o e n g)
 . let%[D|e1]:=I.base.there b o e g;exact there b D (B b o e g) e1
 . let%[m1|e1]:=I.base.tbls b ps e;let%[m2|e2]:=tbls b _ e1;erw[m1++m2,by rw[e2,Array.append_assoc]]
 . erw[m,Y,hl]at I.loc;erw[m,ns m Y,λi x v e1 e2 e3=>?_];let%[u,r|l]:=hl i x v e1 e2 e3;erw[u,r,6];rcases l with l | ⟨k,c,e,z⟩
   . exact .inl l
   . exact .inr %[k,c,e|t x c e _ z]
 . let%[v|z]:=I.cell x c e;erw[v,t x c e v z]
 . erw[m,%[o,_,_,C|_],_]at I.loc;exact free _ o (λz=>(j _ z).2.1 rfl) C I.free
 . let%[v,o,C|hd]:=I.cell x c e;exact free c o (λz=>(j c z).2.2.1 x c e rfl) C (I.freeC x c e)
 . let%[e,n,ne,U|d]:=I.pin p O;let y:p.1∉ch:=λz=>(j p.1 z).2.2.2 p O rfl
   erw[keep p.1 p.2 ne U y e n,free p.1 p.2 y e n,ne,U,d]
def Inv.un{t':Nat}(I:#[8] H s)(u:Un X.fs [] H H' s.heap h')(hok:HOk X.prog X.w H' h'):#[8] H' { s with heap:=h',toks:=t' }:=by
 let%[m,%[o,x,y,j|r]|_]:=id I.loc;let%[B|q]:=u.any j I.free #[2];exact I.step (g':=s.gens) (d':=s.drawn) (ch:=[]) (λ_ z=>nomatch z) (λb o _ hb _ e n=>u.keep b o e n hb #[2]) (λb o _ hb _ e n=>u.slot b o e n hb #[2]) (λb o _ e n=>u.free b o e n #[2]) (λb o _ e=>u.there b o e #[2]) u.tups u.frzs u.tbls (λC t=>by
  erw[D,d,g,c,v]at t;rw[j]at c;cases c;erw[_,d,g,q,v]) hok I.bare
def Inv.call{g':Array GenState}{t':Nat}{d':Drawn}{ch:List Addr}(I:#[8] H s)(u:Un (frs X.stack) ch H H' s.heap h')(hok:HOk X.prog X.w H' h')(hg:AllBare g')
 (d:∀b∈ch,(b∈X.ex∨X.s₀.heap.objs.size<=b)/\b≠X.env.locals/\(∀x c,X.env.cells.lookup x=some c->c≠b)/\∀p∈X.pn++Pc,p.1≠b):
 #[8] H' { s with heap:=h',gens:=g',drawn:=d',toks:=t' }:=by
 let%[m,%[o,C,D,v|r]|_]:=id I.loc;let%[J|j]:=u.any v I.free λz=>(d _ z).2.1 rfl
 exact I.step (ch:=ch) d (λb o j hb hc e n=>u.keep b o e n (λz=>(qA0 (I.stkSub b z)).elim j hb) hc) (λb o _ _ hc e n=>u.any e n hc) (λb o hc e n=>u.free b o e n hc) (λb o hc e=>u.there b o e hc) u.tups u.frzs u.tbls (λL y=>by
  erw[M,q,t,g,B]at y;rw[v]at g;cases g;erw[_,q,t,j,B]) hok hg
def Inv.turned{t':Nat}{d:Addr}(I:#[8] H s)(k:∀b o,b≠d->s.heap.get? b=some o->h'.get? b=some o)(t:H d=none)(j:d≠X.env.locals)
 (h1:d∈X.ex∨X.s₀.heap.objs.size<=d)(h2:∀x c,X.env.cells.lookup x=some c->c≠d)(h3:∀p∈X.pn++Pc,p.1≠d):#[8] H { s with heap:=h',toks:=t' }:=by
 let g:∀b u,H b=some u->b≠d:=λb u e z=>by rw[z,t]at e;cases e
 apply I.step (g':=s.gens) (d':=s.drawn) (ch:=[d]) (λb hb=>?_) (λb o _ _ hc e _=>k b o (λz=>hc (by simp [z])) e) (λb o _ _ hc e _=>%[o.slots|k b o (λz=>hc (by simp [z])) e]) (λ_ _ _ _ n=>n)
  (λb o hc e=>%[o|k b o (λz=>hc (by simp [z])) e]) (λ_ _ e=>e) (λ_ _ _ e=>e) (λb ps e=>%[#[]|by rw[e];simp]) (λm y=>?_) (λb u e=>?_) I.bare
 . let e:b=d:=#[hb,0]
   subst e;erw[h1,j,h2,h3]
 . erw[o,B,C,D,r]at y;erw[o,B,C,k _ o (Ne.symm j) D,r]
 . apply (I.hok b u e).stay (λc v hc q=>k c v ?_ q) (λ_ q=>q) λ_ _ q=>q
   rcases hc with z | z
   . rw[z];exact g b u e
   . exact g c _ z
def Inv.tok(I:#[8] H s)(t:Nat):#[8] H { s with toks:=t }:=I.un (h':=s.heap) (t':=t) Un.refl I.hok
def Inv.kept{t':Nat}(I:#[8] H s)(k:∀b u,s.heap.get? b=some u->h'.get? b=some u):#[8] H { s with heap:=h',toks:=t' }:=I.un (Un.kept k) (I.hok.kept k)
def Inv.laid{a:Addr}{t':Nat}(I:#[8] H s)(k:∀b u,s.heap.get? b=some u->h'.get? b=some u)(c:‹s›<=a)(new:ObjOk X.prog X.w (upd H a o) h' a o):
 #[8] (upd H a o) { s with heap:=h',toks:=t' }:=I.un (Un.laid k c (I.hok.fresh c)) (I.hok.laid k c new)
def Inv.write{x e:Addr}{t':Nat}(I:#[8] H s)(d:Mut (H x))(he:e=x∨H e=some (.own x))(k:∀b u,b≠e->s.heap.get? b=some u->h'.get? b=some u)(c:∃u,h'.get? e=some u)
 (new:ObjOk X.prog X.w (upd H x o) h' x o):#[8] (upd H x o) { s with heap:=h',toks:=t' }:=I.un (Un.write d he k c) (I.hok.write d he k c new)
def Inv.pins_of{b:#[7]}(I:#[8] H s)(h:∀p∈b,s.heap.get? p.1=some p.2/\H p.1=none/\p.1≠X.env.locals/\p.1∉X.fs/\∀v,p.2.data≠.cell v):Inv X b σ H s:=
 %[I.ok,I.os,I.bare,I.base,I.loc,I.cell,I.free,I.freeC,λp c=>(qO0 c).elim (λz=>I.pin p (QO _ z)) (h p),I.hok|I.len]
def yx{N:List Str}(c:N.Nodup){i j:Nat}{x:Str}(a:N[i]?=some x)(b:N[j]?=some x):i=j:=by
 let%[h1|e1]:=Pl a;let%[h2|e2]:=Pl b;exact(List.getElem_inj c).mp (e1.trans e2.symm)
def vc{M:Model}{A:Around}{E:#[6]}{i:Nat}{x:Str}{Q:Unit->Shared->Prop}(I:#[8] H s)(hN:X.N.Nodup)(O:X.N[i]?=some x)(B:Loc X.env.scope x)(r:RelV v u)
 (h:∀s',Inv X Pc (σ.set i (some v)) H s'->(∃a,Heap.SameBut a s.heap s'.heap/\(a=X.env.locals∨X.env.cells.lookup x=some a))->Q () s')(hf:X.fn x=true∨X.env.scope.names.lookup x=some .local:=by first | exact .inl rfl | exact .inr rfl | assumption):wpAny M A (storeName X.env x u) Q E s:=by
 let%[m,hn|hl]:=id I.loc;let U:(X.env.scope.kind==.class||(X.env.scope.kind==.module&&X.env.locals != X.env.globals))=false:=by rw[I.ok.kind];rfl
 let Y:i<σ.length:=by rw[I.len];exact(Pl O).1
 let cne:=I.cne;let t:∀{a:Addr}{h':Heap},(∃o,s.heap.get? a=some o/\H a=none)->Heap.SameBut a s.heap h'->HOk X.prog X.w H h':=fun{a h'} ha g b ob e=>by
  erw[_,_,C]at ha;refine(I.hok b ob e).stay (λc w' hc q=>(g.2 c ?_).trans q) (λ_ q=>q) λ_ _ q=>q
  rintro rfl;rcases hc with rfl | hc
  . rw[C]at e;cases e
  . rw[C]at hc;cases hc
 rcases B with D | D
 . apply wpAny_storeName_local D hn (λh' ar g=>?_) U;let%[oL,_,_,as|_]:=id hn;apply h _ %[I.ok,I.os,I.bare,%[λb o e n hb B=>?_,λb o e n hb B=>?_,I.base.free,λb o e B=>?_,I.base.tups,I.base.frzs|I.base.tbls],%[_,ar|λj y v' e1 e2 e3=>?_],λy c e=>?_,I.free,I.freeC,λp hp=>?_,t %[oL,as|I.free] g|by simpa using I.len] ⟨_,g,.inl rfl⟩
   . exact(g.2 b (i2 (oD (f4 e) I.ok.above))).trans (I.base.keep b o e n hb B)
   . let%[sl|e1]:=I.base.slot b o e n hb B;erw[sl,(g.2 b (i2 (oD (f4 e) I.ok.above))).trans e1]
   . let%[o'|e1]:=I.base.there b o e B;erw[o',(g.2 b (i2 (oD (f4 e) I.ok.above))).trans e1]
   . by_cases J:j=i
     . subst J;rw[O]at e1;cases e1;rw[QK Y]at e2;cases e2;erw[u,r,.inl %[D|by simp]]
     . rw [QP (Ne.symm J)]at e2;let%[u',r'|q]:=hl j y v' e1 e2 e3;erw[u',r',6];rcases q with⟨k,e⟩ | ⟨k,c,e,z⟩
       . refine .inl %[k|6]
         have:y≠x:=λe=>J (yx hN e1 (e▸O))
         simp [this,e]
       . exact .inr %[k,c,e|z.sameBut g (cne y c e)]
   . let%[w'|z]:=I.cell y c e;erw[w',z.sameBut g (cne y c e)]
   . let%[e,n,ne,nf|d]:=I.pin p hp;erw[(g.2 p.1 ne).trans e,n,ne,nf,d]
 . let L:X.fn x=true:=by
    rcases hf with z | z
    . exact z
    . rw[z]at D;cases D
   let%[c|hc]:=I.ok.has x (.inl D);let%[w'|z]:=I.cell x c hc;apply wpAny_storeName_cell I.ok.kind D hc z (λh' ab g=>?_);let%[oc,ac|an]:=id z;apply h { s with heap:=h' } ⟨I.ok,I.os,I.bare,⟨λb o e n hb B=>?_,λb o e n hb B=>?_,I.base.free,λb o e B=>?_,I.base.tups,I.base.frzs,I.base.tbls⟩,%[m,hn.sameBut g (Ne.symm (cne x c hc))|λj y v' e1 e2 e3=>?_],λy c' e=>?_,I.free,I.freeC,λp hp=>?_,t %[oc,ac|I.freeC x c hc] g,by simpa using I.len⟩ ⟨c,g,.inr hc⟩
   . exact(g.2 b (i2 (oD (f4 e) (I.ok.cab x c L hc)))).trans (I.base.keep b o e n hb B)
   . let%[sl|e1]:=I.base.slot b o e n hb B;erw[sl,(g.2 b (i2 (oD (f4 e) (I.ok.cab x c L hc)))).trans e1]
   . let%[o'|e1]:=I.base.there b o e B;erw[o',(g.2 b (i2 (oD (f4 e) (I.ok.cab x c L hc)))).trans e1]
   . by_cases J:j=i
     . subst J;rw[O]at e1;cases e1;rw[QK Y]at e2;cases e2;erw[u,r,.inr %[.inl D,c,hc|ab]]
     . rw [QP (Ne.symm J)]at e2;let%[u',r'|q]:=hl j y v' e1 e2 e3;erw[u',r',6];rcases q with q | ⟨k,c',e,z'⟩
       . exact .inl q
       . refine .inr %[k,c',e|z'.sameBut g ?_];rintro rfl;exact J (yx hN e1 (I.ok.inj _ _ _ e hc▸O))
   . by_cases ap:c'=c
     . subst ap;erw[_,ab]
     . let%[w2|z2]:=I.cell y c' e;erw[w2,z2.sameBut g ap]
   . let%[e,n,ne,nf|d]:=I.pin p hp;erw[(g.2 p.1 ?_).trans e,n,ne,nf,d];intro q;rw[q,ac]at e;let q':oc=p.2:=j3 e;exact d w' (by rw[←q'];exact an)
def xR{M:Model}{A:Around}{E:#[6]}{i:Nat}{x:Str}{Q:Unit->Shared->Prop}(I:#[8] H s)(b:X.N.Nodup)(c:X.N[i]?=some x)(d:Loc X.env.scope x)(r:RelV v u)
 (h:∀s',Inv X Pc (σ.set i (some v)) H s'->Q () s')(hf:X.fn x=true∨X.env.scope.names.lookup x=some .local:=by first | exact .inl rfl | exact .inr rfl | assumption):wpAny M A (storeName X.env x u) Q E s:=
 vc I b c d r (λs' e _=>h s' e) hf
def Inv.call'{s':Shared}{ch:List Addr}(I:#[8] H s)(g:s'.os=s.os)(u:Un (frs X.stack) ch H H' s.heap s'.heap)(hok:HOk X.prog X.w H' s'.heap)(hg:AllBare s'.gens)
 (d:∀b∈ch,(b∈X.ex∨X.s₀.heap.objs.size<=b)/\b≠X.env.locals/\(∀x c,X.env.cells.lookup x=some c->c≠b)/\∀p∈X.pn++Pc,p.1≠b):#[8] H' s':=by
 erw[h',g',d',t',j]at s';let e:j=s.os:=g;subst e;exact I.call (g':=g') (t':=t') (d':=d') u hok hg d
end
abbrev XK:=Value->Option Addr->Hp->Prop
abbrev St:=List (Option V)
abbrev VK:=V->Hp->Prop
abbrev TE:=St->Hp->VK->Prop
abbrev TT:=St->Hp->(Bool->Hp->Prop)->Prop
abbrev TA:=St->Hp->(List V->Hp->Prop)->Prop
structure Ends where
 nx:St->Hp->Prop
 rt:VK
 bk:St->Hp->Prop:=λ_ _=>False
 ct:St->Hp->Prop:=λ_ _=>False
abbrev TS:=Ends->St->Hp->Prop
instance EP(X:Cx)(Pc:#[7])(σ:St)(Q:VK)(u:Value)(s':Shared):∀v H',#[8] H' s'->RelV v u->Q v H':=0
instance TP(X:Cx)(Pc:#[7])(σ:St)(Q:Bool->Hp->Prop)(b:Bool)(s':Shared):∀H',#[8] H' s'->Q b H':=0
instance AP(X:Cx)(Pc:#[7])(σ:St)(Q:List V->Hp->Prop)(us:List Value)(s':Shared):∀vs H',#[8] H' s'->Vals vs us->Q vs H':=0
instance NP(X:Cx)(Pc:#[7])(N:St->Hp->Prop)(s':Shared):∀ σ' H',Inv X Pc σ' H' s'->N σ' H':=0
instance RP(X:Cx)(Pc:#[7])(Q:VK)(u:Value)(s':Shared):∀v σ' H',Inv X Pc σ' H' s'->RelV v u->Q v H':=0
instance HQ(X:Cx)(Pc:#[7])(σ:St)(Q:Hp->Prop)(s':Shared):∀H',#[8] H' s'->Q H':=0
def SP(X:Cx)(Pc:#[7])(D:Ends)(f:Flow)(s':Shared):Prop:=
 match f with
 |.next=>NP X Pc D.nx s'
 |.brk=>NP X Pc D.bk s'
 |.cont=>NP X Pc D.ct s'
 |.ret u=>RP X Pc D.rt u s'
def PE(X:Cx)(e:Expr)(t:TE):Prop:=
 ∀(Pc:#[7])(s:Shared)(σ:St)(H:Hp)(Q:VK),#[8] H s->t σ H Q->‹X.w› (eval e X.env) (EP X Pc σ Q) X.xe s
def PT(X:Cx)(e:Expr)(t:TT):Prop:=
 ∀(Pc:#[7])(s:Shared)(σ:St)(H:Hp)(Q:Bool->Hp->Prop),#[8] H s->t σ H Q->‹X.w› (isTrue e X.env (eval e X.env)) (TP X Pc σ Q) X.xe s
def PW(X:Cx)(e:Expr)(t:TT):Prop:=
 ∀(b:Sem Value)(Pc:#[7])(s:Shared)(σ:St)(H:Hp)(Q:Bool->Hp->Prop),#[8] H s->t σ H Q->‹X.w› (isTrue e X.env b) (TP X Pc σ Q) X.xe s
def PW.pt(h:PW X e t):PT X e t:=h _
def PA(X:Cx)(b:List Expr)(t:TA):Prop:=
 ∀(pos:Pos)(Pc:#[7])(s:Shared)(σ:St)(H:Hp)(Q:List V->Hp->Prop),#[8] H s->t σ H Q->‹X.w› (spliced (backTo pos (starEach b X.env))) (AP X Pc σ Q) X.xe s
def PS(X:Cx)(st:Stmt)(t:TS):Prop:=
 ∀(Pc:#[7])(s:Shared)(σ:St)(H:Hp)(D:Ends),#[8] H s->t D σ H->‹X.w› (exec st X.env) (SP X Pc D) X.xe s
def PSs(X:Cx)(st:List Stmt)(t:TS):Prop:=
 ∀(Pc:#[7])(s:Shared)(σ:St)(H:Hp)(D:Ends),#[8] H s->t D σ H->‹X.w› (execs st X.env) (SP X Pc D) X.xe s
def thn{α:Type}{t:Sem α}{Q b:α->Shared->Prop}{M:Model}{A:Around}{E:#[6]}{s:Shared}(h:wpAny M A t Q E s)(c:∀a s,Q a s->b a s):wpAny M A t b E s:=OA h c λ_ _ x=>x
section
variable {X:Cx}
instance tVar(i:Nat)(σ:St)(H:Hp)(Q:VK):∀v,σ[i]?=some (some v)->Q v H:=0
def tC(v:V):TE:=λ_ H Q=>Q v H
def Ky{i:Nat}{x:Str}{pos:Pos}(j:X.N[i]?=some x)(n:Vis X.env.scope x)(hd:(x==("__debug__":Str))=false:=by decide)(g:(x==("__classdict__":Str))=false:=by decide):PE X (.Name x pos) (tVar i):=by
 exists 4,Q,I,h;erw[v,e,h]at h;erw[m,o,hl]at I.loc;let%[u,r|l]:=hl i x v j e n;let fin:EP X Pc σ Q u s:=%[v,H,I,r|h]
 rcases l with⟨d,q⟩ | ⟨d,c,hc,b⟩
 . exact wpAny_Name (wpAny_loadName_local I.ok.kind d o q fin) hd
 . rcases d with d | d
   . exact wpAny_Name (wpAny_loadName_cell I.ok.kind d hc b fin) hd
   . exact wpAny_Name (wpAny_loadName_free I.ok.kind d hc b fin g) hd
def ag{i j pos}:PE X (.Constant (.int i) j pos) (tC (.int i)):=λ_ _ _ H _ I h=>wpAny_Constant_int %[.int i,H,I.tok _,%[|0]|h]
def je{b j pos}:PE X (.Constant (.bool b) j pos) (tC (.bl b)):=λ_ _ _ H _ I h=>Constant_bool %[.bl b,H,I,1|h]
def kR{j pos}:PE X (.Constant .none j pos) (tC .non):=λ_ _ _ H _ I h=>Constant_none %[.non,H,I,1|h]
def aI{x j pos}:PE X (.Constant (.str x) j pos) (tC (.str x)):=λ_ _ _ H _ I h=>Calls.Constant_str %[.str x,H,I.tok _,%[|0]|h]
def Gl(X:Cx)(x:Str):Prop:=X.env.kindOf x=some .globalImplicit
def rO{E:#[6]}{σ:St}{u:Value}{pos:Pos}{Q:#[6]}(I:#[8] H s)(hg:Gl X x)(b:X.mg x=some u)(h:Q u s)
 (hd:(x==("__debug__":Str))=false:=by decide):‹X.w› (eval (.Name x pos) X.env) Q E s:=
 Calls.Name_function_global I.ok.kind hg (Calls.loadGlobal_global (by rw[I.ok.glob];exact I.mod.glob.keeps I.bk) b h) hd
def jh{E:#[6]}{σ:St}{u:Value}{pos:Pos}{Q:#[6]}(I:#[8] H s)(hg:Gl X x)(b:X.mg x=none)(c:bootBuiltins x=some u)(h:Q u s)
 (d:x≠"__name__":=by decide)(hd:(x==("__debug__":Str))=false:=by decide):‹X.w› (eval (.Name x pos) X.env) Q E s:=by
 erw[e,h1,h2]at I.mod.blt;exact Calls.Name_function_global I.ok.kind hg (Calls.loadGlobal_builtin (by rw[I.ok.glob];exact I.mod.glob.keeps I.bk) b (by rw[I.ok.blt];exact h1.keeps I.bk) ((h2 x d).trans c) h) hd
def dI{u:Value}{pos:Pos}(hg:Gl X x)(b:X.mg x=some u)(r:RelV v u)(hd:(x==("__debug__":Str))=false:=by decide):PE X (.Name x pos) (tC v):=
 λ_ _ _ H _ I h=>rO I hg b %[v,H,I,r|h] hd
def wK{u:Value}{pos:Pos}(hg:Gl X x)(b:X.mg x=none)(c:bootBuiltins x=some u)(r:RelV v u)(d:x≠"__name__":=by decide)(hd:(x==("__debug__":Str))=false:=by decide):PE X (.Name x pos) (tC v):=
 λ_ _ _ H _ I h=>jh I hg b c %[v,H,I,r|h] d hd
variable {a b:Expr}{ta tb:TE}{pos:Pos}
instance ZtB(Q:(Bool->Hp->Prop))(x:V)(H1:Hp):∀c,x=.bl c->Q c H1:=0
def tB(t:TE):TT:=λσ H Q=>t σ H λx c=>ZtB Q x c
def dP(h:PE X e t)(he:∀c,isTrue e X.env c=(do let v ←c;standAt e.pos;holding [v] (truthy v)):=by intro _;rfl):PT X e (tB t):=by
 exists 4,Q,I,hw;apply isTrue_plain (thn (h Pc s σ H _ I hw) λv s1 ⟨x,g,j,r1,m⟩=>?_) (he _);erw[d,1,q]at m;cases r1;exact y1 %[g,j|q]
variable {tA tB':TT}{rest:List Expr}
def tAnd(t u:TT):TT:=λσ H Q=>t σ H λc d=>if c=true then u σ d Q else Q false d
def tOr(t u:TT):TT:=λσ H Q=>t σ H λc d=>if c=true then Q true d else u σ d Q
def tNot(t:TT):TT:=λσ H Q=>t σ H λc d=>Q (!c) d
def iM(ha:PT X a tA):PW X (.BoolOp .And [a] pos) tA:=by
 intro wh Pc s σ H Q I h;apply isTrue_and (thn (ha Pc s σ H Q I h) λc s1 e=>?_);cases c with
 |true=>exact isTrue_and_nil e
 |false=>exact e
def hV(ha:PT X a tA):PW X (.BoolOp .Or [a] pos) tA:=by
 intro wh Pc s σ H Q I h;apply isTrue_or (thn (ha Pc s σ H Q I h) λc s1 e=>?_);cases c with
 |false=>exact isTrue_or_nil e
 |true=>exact e
def jH(ha:PT X a tA)(hb:PW X (.BoolOp .And (b::rest) pos) tB'):PW X (.BoolOp .And (a::b::rest) pos) (tAnd tA tB'):=by
 intro wh Pc s σ H Q I h;apply isTrue_and (thn (ha Pc s σ H _ I h) λc s1 ⟨d,e,g⟩=>?_);cases c with
 |true=>exact hb wh Pc s1 σ d Q e g
 |false=>erw[d,e,g]
def ip(ha:PT X a tA)(hb:PW X (.BoolOp .Or (b::rest) pos) tB'):PW X (.BoolOp .Or (a::b::rest) pos) (tOr tA tB'):=by
 intro wh Pc s σ H Q I h;apply isTrue_or (thn (ha Pc s σ H _ I h) λc s1 ⟨d,e,g⟩=>?_);cases c with
 |true=>erw[d,e,g]
 |false=>exact hb wh Pc s1 σ d Q e g
def iE(ha:PT X a tA):PT X (.UnaryOp .Not a pos) (tNot tA):=by
 exists 4,Q,I,h;exact isTrue_not (thn (ha Pc s σ H (λc d=>Q (!c) d) I h) λ_ _ ⟨a,b,c⟩=>%[a,b|c])
instance ZtAndV(tb:TE)(σ:St)(Q:VK)(x:V)(H1:Hp):∀c,x=.bl c->(if c=true then tb σ H1 Q else Q (.bl false) H1):=0
def tAndV(ta tb:TE):TE:=λσ H Q=>ta σ H λx c=>ZtAndV tb σ Q x c
instance ZtOrV(tb:TE)(σ:St)(Q:VK)(x:V)(H1:Hp):∀c,x=.bl c->(if c=true then Q (.bl true) H1 else tb σ H1 Q):=0
def tOrV(ta tb:TE):TE:=λσ H Q=>ta σ H λx c=>ZtOrV tb σ Q x c
instance ZtNotV(Q:VK)(x:V)(H1:Hp):∀c,x=.bl c->Q (.bl (!c)) H1:=0
def tNotV(ta:TE):TE:=λσ H Q=>ta σ H λx c=>ZtNotV Q x c
def qw{op}(h:PE X a t):PE X (.BoolOp op [a] pos) t:=λPc s σ H Q I hw=>BoolOp_one (h Pc s σ H Q I hw)
def tN(ha:PE X a ta)(hb:PE X (.BoolOp .And (b::rest) pos) tb):PE X (.BoolOp .And (a::b::rest) pos) (tAndV ta tb):=by
 exists 4,Q,I,h;apply BoolOp_and (thn (ha Pc s σ H _ I h) λv s1 ⟨x,e,g,r1,d⟩=>?_);erw[c,1,d]at d;cases r1;apply y1 ?_;cases c with
 |true=>exact hb Pc s1 σ e Q g d
 |false=>erw[.bl false,e,g,1,d]
def JO(ha:PE X a ta)(hb:PE X (.BoolOp .Or (b::rest) pos) tb):PE X (.BoolOp .Or (a::b::rest) pos) (tOrV ta tb):=by
 exists 4,Q,I,h;apply BoolOp_or (thn (ha Pc s σ H _ I h) λv s1 ⟨x,e,g,r1,d⟩=>?_);erw[c,1,d]at d;cases r1;apply y1 ?_;cases c with
 |false=>exact hb Pc s1 σ e Q g d
 |true=>erw[.bl true,e,g,1,d]
def Ac(ha:PE X a ta):PE X (.UnaryOp .Not a pos) (tNotV ta):=by
 exists 4,Q,I,h;apply UnaryOp_ (thn (ha Pc s σ H _ I h) λv s1 ⟨x,e,g,r1,d⟩=>?_);erw[c,1,d]at d;cases r1;exact not_of (y1 %[.bl (!c),e,g,1|d])
def tIf(t:TT)(ta tb:TE):TE:=λσ H Q=>t σ H λc d=>if c=true then ta σ d Q else tb σ d Q
def yg(hc:PT X c tA)(ha:PE X a ta)(hb:PE X b tb):PE X (.IfExp c a b pos) (tIf tA ta tb):=by
 exists 4,Q,I,h;apply wpAny_IfExp (thn (hc Pc s σ H _ I h) λd s1 ⟨e,g,j⟩=>?_);cases d with
 |true=>exact ha Pc s1 σ e Q g j
 |false=>exact hb Pc s1 σ e Q g j
end
def SqL(K:W.Frag)(H:Hp)(a:Addr)(xs:List V):Prop:=
 Rd H a (.lst xs)∨
  ∃(o:Obj) (its:Array Value) (n:Nat),K.lookup a=some o/\o.cls=.type "list"/\o.dict=none/\o.data=.seq its n/\its.size<=sizeLine/\Vals xs its.toList
def SqT(K:W.Frag)(H:Hp)(a:Addr)(xs:List V):Prop:=
 Rd H a (.tup xs)∨
  ∃(o:Obj) (its:Array Value) (n:Nat),K.lookup a=some o/\o.cls=.type "tuple"/\o.data=.seq its n/\its.size<=sizeLine/\Vals xs its.toList
def absV:Value->Option V
 |.none=>some .non
 |.bool b=>some (.bl b)
 |.int i _=>some (.int i)
 |.str x _=>some (.str x)
 |.bytes b _=>some (.byt b)
 |.float b _=>some (.flt b)
 |.ref a=>some (.ref a)
 |.type n=>some (.ty n)
 |_=>none
def RelV.abs(r:RelV x u):absV u=some x:=by
 cases x with
 |non=>cases r;rfl
 |bl _=>cases r;rfl
 |int _=>erw[t,1]at r;rfl
 |str _=>erw[t,1]at r;rfl
 |byt _=>erw[t,1]at r;rfl
 |flt _=>erw[t,1]at r;rfl
 |ref _=>cases r;rfl
 |ty _=>cases r;rfl
def RelV.inj(r:RelV x u)(q:RelV y u):x=y:=j3 (r.abs.symm.trans q.abs)
def Vals.inj:∀{xs ys:List V}{us:List Value},Vals xs us->Vals ys us->xs=ys
 |_,_,_,.nil,.nil=>rfl
 |_,_,_,.cons r t,.cons b t'=>by rw[r.inj b,Vals.inj t t']
section
variable {X:Cx}{Pc:#[7]}{σ:St}{H:Hp}{s:Shared}{a:Addr}{xs ys:List V}
def eH{K:W.Frag}(h:H a=some (.lst xs)):SqL K H a xs:=.inl (.inl h)
abbrev SqL.of:=@eH
def dV{K:W.Frag}(h:H a=some (.tup xs)):SqT K H a xs:=.inl (.inl h)
abbrev SqT.of:=@dV
def Inv.list(I:#[8] H s)(h:SqL X.K H a xs):∃its:List Value,Vals xs its/\PlainL s.heap a its.toArray/\xs.length<=sizeLine:=by
 rcases h with h | ⟨o,its,n,b,hc,hd,c,d,r⟩
 . let%[z,its,n,r|e]:=h.ok I.hok;erw[its,r,%[_,n,e,1,1|1],z]
 . erw[its.toList,r,%[o,n,I.kIn a o b,hc,hd|by simpa using c],6];let e:=r.length;simp only[Ps]at e;omega
def Inv.tuple(I:#[8] H s)(h:SqT X.K H a xs):∃its:List Value,Vals xs its/\IsTup s.heap a its.toArray/\xs.length<=sizeLine:=by
 rcases h with h | ⟨o,its,n,b,hc,c,d,r⟩
 . let%[z,its,r,p|_]:=h.ok I.hok;erw[its,r,p,z]
 . erw[its.toList,r,%[o,I.kIn a o b,hc,n|by simpa using c],6];let e:=r.length;simp only[Ps]at e;omega
def Inv.list_inj(I:#[8] H s)(h:SqL X.K H a xs)(h':SqL X.K H a ys):xs=ys:=by
 let%[its,r,%[o,n,e,_,_|d]|_]:=I.list h;let%[its',c,%[g,j,b,_,_|d']|_]:=I.list h';rw[e]at b;cases b;rw[d]at d';injection d' with d1 _
 have:its=its':=#[congrArg Array.toList d1,0]
 subst this;exact r.inj c
def Inv.tuple_inj(I:#[8] H s)(h:SqT X.K H a xs)(h':SqT X.K H a ys):xs=ys:=by
 let%[its,r,%[o,e,_,n|d]|_]:=I.tuple h;let%[its',c,%[g,b,_,j|d']|_]:=I.tuple h';rw[e]at b;cases b;rw[d]at d';injection d' with d1 _
 have:its=its':=#[congrArg Array.toList d1,0]
 subst this;exact r.inj c
end
abbrev Cx.wish(X:Cx)(E:#[6]):Cx:={ X with xe:=E }
abbrev Cx.nox(X:Cx):Cx:=X.wish λ_ _=>False
def Cx.Ok.wish{X:Cx}(ok:X.Ok)(E:#[6]):(X.wish E).Ok:=
 %[ok.mod,ok.kind,ok.glob,ok.blt,ok.above,ok.inj,ok.has,ok.cab,ok.hd,ok.frames,ok.stk,ok.exf,ok.bs,ok.bsz,ok.noex,ok.exfs,ok.funs|ok.frf]
def Cx.Ok.unwish{X:Cx}{E:#[6]}(ok:(X.wish E).Ok):X.Ok:=
 %[ok.mod,ok.kind,ok.glob,ok.blt,ok.above,ok.inj,ok.has,ok.cab,ok.hd,ok.frames,ok.stk,ok.exf,ok.bs,ok.bsz,ok.noex,ok.exfs,ok.funs|ok.frf]
section
variable {X:Cx}{Pc:#[7]}{σ:St}{H:Hp}{s:Shared}{E:#[6]}
def Inv.wish(I:#[8] H s)(E:#[6]):Inv (X.wish E) Pc σ H s:=%[I.ok.wish E,I.os,I.bare,I.base,I.loc,I.cell,I.free,I.freeC,I.pin,I.hok|I.len]
def Inv.unwish(I:Inv (X.wish E) Pc σ H s):#[8] H s:=%[I.ok.unwish,I.os,I.bare,I.base,I.loc,I.cell,I.free,I.freeC,I.pin,I.hok|I.len]
def SP.unwish(h:SP (X.wish E) Pc D f s'):SP X Pc D f s':=by
 cases f with
 |next=>erw[σ',b,I,q]at h;erw[σ',b,I.unwish,q]
 |brk=>erw[σ',b,I,q]at h;erw[σ',b,I.unwish,q]
 |cont=>erw[σ',b,I,q]at h;erw[σ',b,I.unwish,q]
 |ret u=>erw[v,σ',b,I,r,q]at h;erw[v,σ',b,I.unwish,r,q]
def PSs.nox{st:List Stmt}(h:PSs X.nox st t):PSs X st t:=λPc s σ H D I hw=>
 OA (h Pc s σ H D (I.wish _) hw) (λ_ _ q=>q.unwish) λ_ _ z=>False.elim z
end
section
variable {X:Cx}{st:Stmt}{rest:List Stmt}{t u:TS}{e:Expr}{te:TE}{pos:Pos}
def tNext:TS:=λD σ H=>D.nx σ H
def tSeq(t u:TS):TS:=λD σ H=>t { D with nx:=u D } σ H
def aE:PSs X [] tNext:=λ_ _ σ H _ I h=>Q1 %[σ,H,I|h]
def ad(h1:PS X st t)(h2:PSs X rest u):PSs X (st::rest) (tSeq t u):=by
 exists 4,D,I,h;apply wpAny_execs_cons (thn (h1 Pc s σ H { D with nx:=u D } I h) λf s1 q=>?_);cases f with
 |next=>
   erw[σ',b,c,q]at q;exact h2 Pc s1 σ' b D c q
 |ret v=>exact q
 |brk=>exact q
 |cont=>exact q
def af(h1:PS X st t):PSs X [st] t:=by
 exists 4,D,I,h;apply wpAny_execs_cons (thn (h1 Pc s σ H D I h) λf s1 q=>?_);cases f with
 |next=>exact Q1 q
 |ret v=>exact q
 |brk=>exact q
 |cont=>exact q
def Inv.quiet{σ:St}(I:#[8] H s):interactive X.env=false:=by simp [interactive,I.ok.kind]
def tDrop(te:TE):TS:=λD σ H=>te σ H λ_ b=>D.nx σ b
def bh(he:PE X e te)(b:swapsWith e none pos.line X.env=pure false:=by rfl):PS X (.Expr e pos) (tDrop te):=by
 exists 4,D,I,h;exact wpAny_Expr_any (thn (he Pc s σ H _ I h) λv s1 ⟨x,c,d,r1,g⟩=>%[σ,c,d|g]) I.quiet b
def tRet(te:TE):TS:=λD σ H=>te σ H D.rt
def au(he:PE X e te):PS X (.Return (some e) pos) (tRet te):=by
 exists 4,D,I,h;exact wpAny_Return_some (thn (he Pc s σ H _ I h) λv s1 ⟨x,b,c,r1,d⟩=>%[x,σ,b,c,r1|d])
def tIfS(c:TT)(t u:TS):TS:=λD σ H=>c σ H λb d=>if b=true then t D σ d else u D σ d
def aJ(hc:PT X c tc)(ha:PSs X a t)(hb:PSs X b u):PS X (.If c a b pos) (tIfS tc t u):=by
 exists 4,D,I,h;apply wpAny_If (thn (hc Pc s σ H _ I h) λd s1 ⟨g,j,m⟩=>?_);cases d with
 |true=>exact ha Pc s1 σ g D j m
 |false=>exact hb Pc s1 σ g D j m
def Kj:TS:=λ_ _ _=>False
def bJ:PSs X b Kj:=λ_ _ _ _ _ _ h=>h.elim
end
abbrev TG:=V->St->Hp->(St->Hp->Prop)->Prop
abbrev TGs:=List V->St->Hp->(St->Hp->Prop)->Prop
def PG(X:Cx)(b:Expr)(t:TG):Prop:=
 ∀(Pc:#[7])(s:Shared)(σ:St)(H:Hp)(v:V)(u:Value)(Q:St->Hp->Prop),#[8] H s->RelV v u->t v σ H Q ->
  ‹X.w› (assign b X.env u) (λ_ s'=>NP X Pc Q s') X.xe s
def PGs(X:Cx)(ts:List Expr)(t:TGs):Prop:=
 ∀(Pc:#[7])(s:Shared)(σ:St)(H:Hp)(vs:List V)(us:List Value)(Q:St->Hp->Prop),#[8] H s->Vals vs us->t vs σ H Q ->
  ‹X.w› (assignInOrder ((assignEach ts X.env).map (·.2)) us) (λ_ s'=>NP X Pc Q s') X.xe s
abbrev Lz:=V->V->V->Hp->(Hp->Prop)->Prop
def PSet(X:Cx)(t:Lz):Prop:=
 ∀(Pc:#[7])(s:Shared)(σ:St)(H:Hp)(o i v:V)(b c u:Value)(Q:Hp->Prop),#[8] H s->RelV o b->RelV i c->RelV v u->t o i v H Q ->
  ‹X.w› (setItem b c u) (λ_ s'=>HQ X Pc σ Q s') X.xe s
section
variable {X:Cx}{pos:Pos}
def JV(i:Nat):TG:=λv σ H Q=>Q (σ.set i (some v)) H
def ba{i:Nat}{x:Str}(b:X.N.Nodup)(c:X.N[i]?=some x)(d:Loc X.env.scope x)(hf:X.fn x=true∨X.env.scope.names.lookup x=some .local:=by first | exact .inl rfl | exact .inr rfl | assumption):PG X (.Name x pos) (JV i):=by
 exists 4,v,u,Q,I,r,h;exact wpAny_assign_Name (xR I b c d r (λs' e=>%[_,H,e|h]) hf)
instance gNil(vs:List V)(σ:St)(H:Hp)(Q:(St->Hp->Prop)):vs=[]->Q σ H:=0
instance gCons(t:TG)(u:TGs)(vs:List V)(σ:St)(H:Hp)(Q:(St->Hp->Prop)):∀v r,vs=v::r->(t v σ H λσ' H'=>u r σ' H' Q):=0
def pC:PGs X [] gNil:=by
 exists 4,vs,us,Q,I,r,h;erw[e,h]at h;subst e;cases r;exact assignInOrder_nil %[σ,H,I|h]
def fo(h1:PG X e t)(h2:PGs X b u)
 (c:(assignEach (e::b) X.env).map (·.2)=assign e X.env::(assignEach b X.env).map (·.2):=by rfl):PGs X (e::b) (gCons t u):=by
 exists 4,vs,us,Q,I,r,h;erw[v,n,e1,h]at h;subst e1;cases r with
 |cons r d=>
   rw[c];apply assignInOrder_cons (thn (h1 Pc s σ H _ _ _ I r h) λ_ s1 ⟨σ1,g,j,m⟩=>?_);exact h2 Pc s1 σ1 g _ _ Q j d m
instance gTup(K:W.Frag)(n:Nat)(t:TGs)(v:V)(σ:St)(H:Hp)(Q:(St->Hp->Prop)):∀a xs,v=.ref a->SqT K H a xs->xs.length=n->t xs σ H Q:=0
def tM{k:Nat}{n:Nat}(hc:X.calm=true)(h:PGs X c t)
 (g:(assignEach c X.env).length=n:=by rfl)(Pi:(assignEach c X.env).findIdx? (·.1)=none:=by rfl):PG X (.Tuple c k pos) (gTup X.K n t):=by
 exists 4,v,u,Q,I,r,hw;erw[a,xs,e1,j,hl,hw]at hw;subst e1;cases r;let%[its,d,m|y]:=I.tuple j;apply assign_Tuple_tuple (I.ok.hd hc) m (by simp [g,←hl,d.length]) Pi λh' q=>?_
 let x:#[8] H { s with heap:=h' }:=I.kept (t':=s.toks) λb o e=>q b o (i2 (f4 e)) e
 exact h Pc _ σ H xs _ Q x #[d,0] hw
def gSub(to b:TE)(t:Lz):TG:=λv σ H Q=>to σ H λo c=>b σ c λi d=>t o i v d λe=>Q σ e
def wJ(d:PE X o to)(e:PE X i g)(j:PSet X t)
 (ha:∀v,assign (.Subscript o i pos) X.env v=(do
  let b ←holding [v] (eval o X.env)
  let c ←holding [v,b] (eval i X.env)
  standAt pos
  holding [v,b,c] (setItem b c v)
  release [v,b,c] []):=by intro _;rfl):PG X (.Subscript o i pos) (gSub to g t):=by
 exists 4,v,u,Q,I,r,h;rw[ha];apply eC (Qj (thn (d Pc s σ H _ I h) λb s1 ⟨x,m,n,r1,q⟩=>?_));apply eC (Qj (thn (e Pc s1 σ m _ n q) λc z ⟨y,B,C,D,J⟩=>?_));apply eC (wpAny_standAt (eC (Qj (thn (j Pc z σ B x y v b c u _ C r1 D r J) λ_ O ⟨L,M,N⟩=>?_))));exact wpAny_release %[σ,L,M|N]
def tAsg(b:TE)(g:TG):TS:=λD σ H=>b σ H λx c=>g x σ c D.nx
def qt(he:PE X e c)(hg:PG X b g)(d:swapsWithSole [b] e pos.line X.env=pure false:=by rfl)(hw:swappedStores [b] e X.env=pure none:=by rfl)
 (h1:(assignEach [b] X.env).map (·.2)=[assign b X.env]:=by rfl):PS X (.Assign [b] e pos) (tAsg c g):=by
 exists 4,D,I,h;apply wpAny_Assign_stores (thn (he Pc s σ H _ I h) λv s1 ⟨x,j,m,r1,n⟩=>?_) d hw;rw[h1];exact thn (hg Pc s1 σ j x v _ m r1 n) λ_ o q=>q
def am{i:Nat}{x:Str}{b:Pos}(c:X.N.Nodup)(d:X.N[i]?=some x)(g:Loc X.env.scope x)(he:PE X e j)(m:swapsWith e (some (.Name x b)) pos.line X.env=pure false:=by rfl)(hf:X.fn x=true∨X.env.scope.names.lookup x=some .local:=by first | exact .inl rfl | exact .inr rfl | assumption):
 PS X (.Assign [.Name x b] e pos) (tAsg j (JV i)):=by
 exists 4,D,I,h;apply wpAny_Assign_Name (thn (he Pc s σ H _ I h) λv s1 ⟨y,n,o,r1,q⟩=>?_) m;exact xR o c d g r1 (λt r=>%[_,n,r|q]) hf
end
section
variable {X:Cx}{pos:Pos}
def Ki(c:TT)(j:TS):TS:=λD σ H=>∃W:Nat->St->Hp->Prop,(∃m,W m σ H)/\∀m σ H,W m σ H ->
 c σ H λb d=>if b=true then ∃N:St->Hp->Prop,(∀ σ' e,N σ' e->∃g,g<m/\W g σ' e)/\j { D with nx:=N,ct:=N,bk:=D.nx } σ d else D.nx σ d
def iq(r:PassesOwn (model X.prog X.w) X.A X.env X.xe)(hc:PT X c tc)(hb:PSs X body z):PS X (.While c body [] pos) (Ki tc z):=by
 exists 4,D,I,h;erw[W,%[B|C],turn]at h;apply wpAny_While (codeAny_whileLoop (λn s'=>NP X Pc (W n) s') ?_ B %[σ,H,I|C]);rintro n s1 ⟨σ1,t,J,w1⟩;apply P0 r (thn (hc Pc s1 σ1 t _ J (turn n σ1 t w1)) λb L ⟨u,x,e⟩=>?_);cases b with
 |true=>
   erw[N,y,e]at e;rw[Pe rfl];apply P0 r (thn (hb Pc L σ1 u _ x e) λf M g=>?_);cases f with
   |next=>
     erw[σ3,d,j,m]at g;let%[o,q|w3]:=y σ3 d m;erw[o,q,σ3,d,j,w3]
   |cont=>
     erw[σ3,d,j,m]at g;let%[o,q|w3]:=y σ3 d m;erw[o,q,σ3,d,j,w3]
   |brk=>exact g
   |ret v=>exact g
 |false=>
   rw[Pd ln];exact Q1 %[σ1,u,x|e]
end
structure It where
 go:Nat->Hp->Prop
 yld:Nat->Hp->V->Hp->Prop
 stop:Nat->Hp->Prop
def jK(X:Cx)(Pc:#[7])(H:Hp)(b:Addr):Prop:=
 H b=none/\b≠X.env.locals/\b∉X.fs/\(b∈X.ex∨X.s₀.heap.objs.size<=b)/\(∀x c,X.env.cells.lookup x=some c->c≠b)/\∀p∈X.pn++Pc,p.1≠b
def Inv.fpOk{σ:St}{d:Hp}{b:Addr}(I:#[8] H s)(hb:‹s›<=b)(g:d b=none):jK X Pc d b:=by
 erw[g,P3 (oD I.lt hb),I.nofs hb,.inr (hE I.sz hb),λx c e z=>?_,λp j z=>?_]
 . let%[v|q]:=I.cell x c e;exact absurd (oD q.lt (by rw[z];exact hb)) (ri _)
 . exact absurd (oD (f4 (I.pin p j).1) (by rw[z];exact hb)) (ri _)
structure Turn(P:Program)(w:World)(K:W.Frag)(tg:Expr)(J:It)(fp:List Addr)(it:Addr)(tn:Nat->Heap->Prop):Prop where
 mem:it∈fp
 obj:∀i h,tn i h->∀b∈fp,∃o,h.get? b=some o/\∀v,o.data≠.cell v
 keep:∀i h h',tn i h->(∀b∈fp,∀o,h.get? b=some o->h'.get? b=some o)->tn i h'
 item:∀(X:Cx),X.prog=P->X.w=w->X.K=K->X.calm=true->∀(i:Nat)(Pc:#[7])(s:Shared)(σ:St)(H:Hp)(E:#[6]),#[8] H s->(∀b∈fp,jK X Pc H b)->tn i s.heap->J.go i H ->
  wpAny (model P w) X.A (pyNext (.ref it)) (λr s1=>∃u,r=some u/\
   wpAny (model P w) X.A (letOwnedTupleGo tg (.ref it) u) (λ_ s2=>∃x H',#[8] H' s2/\RelV x u/\J.yld i H x H'/\tn (i+1) s2.heap/\∀b∈fp,H' b=none) E s1) E s
 done:∀(X:Cx),X.prog=P->X.w=w->X.K=K->X.calm=true->∀(i:Nat)(Pc:#[7])(s:Shared)(σ:St)(H:Hp)(E:#[6]),#[8] H s->(∀b∈fp,jK X Pc H b)->tn i s.heap->J.stop i H ->
  wpAny (model P w) X.A (pyNext (.ref it)) (λr s1=>r=none/\#[8] H s1) E s
 self:∀(A:Around)(i:Nat)(s:Shared)(Q:#[6])(E:#[6]),tn i s.heap->Q (.ref it) s->wpAny (model P w) A (pyIter (.ref it)) Q E s
abbrev TI:=St->Hp->(It->Hp->Prop)->Prop
def PIE(X:Cx)(Pc:#[7])(σ:St)(n:Expr)(R:It->Hp->Prop)(c:Value)(e:Shared):Prop:=
 ∃(g:Addr)(j:List Addr)(m:Nat->Heap->Prop)(J:It)(d:Hp),c=.ref g/\#[8] d e/\Turn X.prog X.w X.K n J j g m/\m 0 e.heap/\(∀b∈j,jK X Pc d b)/\R J d
def PI(X:Cx)(c b:Expr)(d:TI):Prop:=
 ∀(Pc:#[7])(s:Shared)(σ:St)(H:Hp)(R:It->Hp->Prop),#[8] H s->d σ H R ->
  ‹X.w› (eval b X.env) (λv s1=>‹X.w› (pyIter v) (PIE X Pc σ c R) X.xe s1) X.xe s
def yP{M:Model}{A:Around}{E:#[6]}{s:Shared}{c:Expr}{d:Addr}{u:Value}{o:Obj}{n:String}{vs:Array Value}{Q:Unit->Shared->Prop}(e:s.heap.get? d=some o)(hc:o.cls=.type n)(hd:o.data=.fields vs)
 (g:["enumerate","zip","dict_itemiterator","dict_reverseitemiterator","odict_iterator","itertools.zip_longest","itertools.pairwise"].contains n=false)(b:Q () s):wpAny M A (letOwnedTupleGo c (.ref d) u) Q E s:=by
 unfold letOwnedTupleGo;cases c <;> first
  |exact fu b
  | (cases u <;> first
   |exact fu b
   | (apply eC (wpAny_load e ?_)
      rw[hc,hd];show wpAny M A (if(["enumerate","zip","dict_itemiterator","dict_reverseitemiterator","odict_iterator","itertools.zip_longest","itertools.pairwise"].contains n&&vs[0]?==some (rawInt _))=true then _ else _) Q E s;rw[Pd (by intro h;rw[g,Bool.false_and]at h;cases h)];exact fu b))
def Itl(K:W.Frag)(a:Addr):It:=
 ⟨λi H=>∃xs x,SqL K H a xs/\xs[i]?=some x,λi H x b=>b=H/\∀xs,SqL K H a xs->xs[i]?=some x,λi H=>∃xs,SqL K H a xs/\xs.length<=i⟩
def Itt(K:W.Frag)(a:Addr):It:=
 ⟨λi H=>∃xs x,SqT K H a xs/\xs[i]?=some x,λi H x b=>b=H/\∀xs,SqT K H a xs->xs[i]?=some x,λi H=>∃xs,SqT K H a xs/\xs.length<=i⟩
def Itr(lo:Int)(n:Nat):It:=%[λi _=>i<n,λi H x b=>b=H/\x=.int (lo+i)|λi _=>n<=i]
def va{K:W.Frag}(a g:Addr):Turn P w K U (Itl K a) [g] g (λi h=>h.IsListIter g a i) where
 mem:=by simp
 obj:=λi h st b hb=>by
  let e:b=g:=#[hb,0]
  subst e;erw[o,e,c,d]at st;erw[o,e,λv z=>by rw[d]at z;cases z]
 keep:=λi h h' st k=>st.at λo e=>k g #[2] o e
 item:=by
  exists 5;erw[xs,x,m,n]at hg;let%[its,q,p|B]:=I.list m;let%[u,C|D]:=q.get n;let%[f0,f1,J,r,t|y]:=hf g #[2];apply wpAny_pyNext_list_item st p.isList (x:=u) #[C,0] λh' j L=>?_
  let M:#[8] H { s with heap:=h' }:=I.turned (t':=s.toks) (λb o hb e=>(L.2 b hb).trans e) f0 f1 r t y;let%[o,e,c|d]:=id j;erw[u,1,yP (s:={ s with heap:=h' }) e c d ⋯ ⟨x,H,M,D,⟨rfl,λys N=>by rw[I.list_inj N m];exact n⟩,j,λb hb=>(hf b hb).1⟩]
 done:=by
  exists 5;erw[xs,m,n]at hg;let%[its,q,p|B]:=I.list m;let%[f0,f1,J,r,t|y]:=hf g #[2];let hl:=q.length;exact wpAny_pyNext_list_end (I.ok.hd hc) st p.isList (by simp;omega) λh' O=>%[1|I.turned (t':=s.toks) (λb o hb e=>O b o hb e) f0 f1 r t y]
 self:=λ_ _ _ _ _ st h=>wpAny_pyIter_listiter st h
def sv{K:W.Frag}(a g:Addr):Turn P w K U (Itt K a) [g] g (λi h=>h.IsTupleIter g a i) where
 mem:=by simp
 obj:=λi h st b hb=>by
  let e:b=g:=#[hb,0]
  subst e;erw[o,e,c,d]at st;erw[o,e,λv z=>by rw[d]at z;cases z]
 keep:=λi h h' st k=>st.at λo e=>k g #[2] o e
 item:=by
  exists 5;erw[xs,x,m,n]at hg;let%[its,q,p|B]:=I.tuple m;let%[u,C|D]:=q.get n;let%[f0,f1,J,r,t|y]:=hf g #[2];apply wpAny_pyNext_tuple_item st (show s.heap.IsTuple a its.toArray from p) (x:=u) #[C,0] λh' j L=>?_
  let M:#[8] H { s with heap:=h' }:=I.turned (t':=s.toks) (λb o hb e=>(L.2 b hb).trans e) f0 f1 r t y;let%[o,e,c|d]:=id j;erw[u,1,yP (s:={ s with heap:=h' }) e c d ⋯ ⟨x,H,M,D,⟨rfl,λys N=>by rw[I.tuple_inj N m];exact n⟩,j,λb hb=>(hf b hb).1⟩]
 done:=by
  exists 5;erw[xs,m,n]at hg;let%[its,q,p|B]:=I.tuple m;let%[f0,f1,J,r,t|y]:=hf g #[2];let hl:=q.length;exact wpAny_pyNext_tuple_end (I.ok.hd hc) st (show s.heap.IsTuple a its.toArray from p) (by simp;omega) λh' O=>%[1|I.turned (t':=s.toks) (λb o hb e=>O b o hb e) f0 f1 r t y]
 self:=λ_ _ _ _ _ st h=>wpAny_pyIter_tupleiter st h
def zy{K:W.Frag}(c:Addr)(lo:Int)(n:Nat):Turn P w K D (Itr lo n) [c] c (λi h=>IsRangeIter h c (lo+(i:Nat)*1) ((n:Int)-(i:Nat)) 1) where
 mem:=by simp
 obj:=λi h st b hb=>by
  let e:b=c:=#[hb,0]
  subst e;exact⟨_,st,λv z=>by
   let r:Data.fields _=Data.cell v:=z;cases r⟩
 keep:=λi h h' st k=>k c #[2] _ st
 item:=by
  exists 5;let%[f0,f1,u,g,j|m]:=hf c #[2];let W:=Walks.range (prog:=X.prog) (w:=X.w) (I.ok.hd hc) c lo 1 n;apply W.item i s _ _ hg st λv h' q x d y=>?_
  erw[t,1]at x;let B:#[8] H { s with heap:=h',toks:=q }:=I.turned (λb o hb e=>y b o #[hb,0] e) f0 f1 g j m;erw[0,yP (s:={ s with heap:=h',toks:=q }) (n:="range_iterator") d rfl rfl ⋯ ⟨.int (lo+i),H,B,⟨t,?_⟩,⟨rfl,rfl⟩,d,λb hb=>(hf b hb).1⟩];rw[PC]
 done:=by
  exists 5;let%[f0,f1,u,g,j|m]:=hf c #[2];exact wpAny_pyNext_range_end (I.ok.hd hc) st (by have:n<=i:=hg;omega) λh' C=>%[1|I.turned (t':=s.toks) (λb o hb e=>C b o hb e) f0 f1 g j m]
 self:=λ_ _ _ _ _ st h=>wpAny_pyIter_rangeiter st h
section
variable {X:Cx}{tg:Expr}
instance ZiList(K:W.Frag)(R:(It->Hp->Prop))(x:V)(H1:Hp):∀a,x=.ref a->(∃xs,SqL K H1 a xs)->R (Itl K a) H1:=0
def iList(K:W.Frag)(tl:TE):TI:=λσ H R=>tl σ H λx b=>ZiList K R x b
instance ZiTup(K:W.Frag)(R:(It->Hp->Prop))(x:V)(H1:Hp):∀a,x=.ref a->(∃xs,SqT K H1 a xs)->R (Itt K a) H1:=0
def iTup(K:W.Frag)(tl:TE):TI:=λσ H R=>tl σ H λx b=>ZiTup K R x b
def cI(hl:PE X l tl):PI X tg l (iList X.K tl):=by
 exists 4,R,I,h;apply thn (hl Pc s σ H _ I h) λv s1 ⟨x,d,c,r1,g⟩=>?_
 erw[a,e,%[xs|j],q]at g;subst e;cases r1;let%[its,m,p|n]:=c.list j;apply PX p.isList ?_;erw[‹s1›,[‹s1›],_,_,d,1,c.kept (t':=s1.toks) λb o e=>gz _ e,va a _,%[_,kv _ rfl,1|1],λb hb=>?_,q];let e:b=‹s1›:=#[hb,0]
 subst e;exact c.fpOk (eS _) (c.hok.fresh (eS _))
def iF(hl:PE X l tl):PI X tg l (iTup X.K tl):=by
 exists 4,R,I,h;apply thn (hl Pc s σ H _ I h) λv s1 ⟨x,d,c,r1,g⟩=>?_
 erw[a,e,%[xs|j],q]at g;subst e;cases r1;let%[its,m,p|n]:=c.tuple j;apply Qa (show s1.heap.IsTuple a its.toArray from p) ?_;erw[‹s1›,[‹s1›],_,_,d,1,c.kept (t':=s1.toks) λb o e=>gz _ e,sv a _,%[_,kv _ rfl,1|1],λb hb=>?_,q];let e:b=‹s1›:=#[hb,0]
 subst e;exact c.fpOk (eS _) (c.hok.fresh (eS _))
def yc{σ:St}{R:It->Hp->Prop}{E:#[6]}{lo c:Int}{t u v:Tok}{d:Nat}(I:#[8] H s)(h1:-(2 ^ 62)<=lo)(h2:lo<2 ^ 62)(h3:-(2 ^ 62)<=c)(h4:c<2 ^ 62)
 (q:R (Itr lo (c-lo).toNat) H):‹X.w› (pyIter (.ref ‹s›)) (PIE X Pc σ tg R) E { s with heap:=s.heap.push { cls:=.type "range",data:=.fields #[.int lo t,.int c u,.int 1 v] },toks:=d }:=by
 apply wpAny_pyIter_range (IsRange.new ..) (small_one h1 h2 h3 h4) ?_;let g:#[8] H { s with heap:=s.heap.push { cls:=.type "range",data:=.fields #[.int lo t,.int c u,.int 1 v] },toks:=d }:=I.kept λb o e=>gz _ e
 erw[(s.heap.push { cls:=.type "range",data:=.fields #[.int lo t,.int c u,.int 1 v] }).objs.size,[(s.heap.push { cls:=.type "range",data:=.fields #[.int lo t,.int c u,.int 1 v] }).objs.size],_,_,H,1,g.kept (t':=d) λb o e=>gz _ e,zy _ lo (c-lo).toNat,6,λb hb=>?_,q]
 . let e1:lo+((0:Nat):Int)*1=lo:=by simp
   let e2:(((c-lo).toNat:Nat):Int)-((0:Nat):Int)=Builtin.Range.rangeSize lo c 1:=by rw[rangeSize_one];split <;> omega
   show IsRangeIter _ _ (lo+((0:Nat):Int)*1) ((((c-lo).toNat:Nat):Int)-((0:Nat):Int)) 1;rw[e1,e2];exact kv _ rfl
 . let e:b=(s.heap.push { cls:=.type "range",data:=.fields #[.int lo t,.int c u,.int 1 v] }).objs.size:=#[hb,0]
   subst e;exact g.fpOk (eS _) (g.hok.fresh (eS _))
instance ZiRng1(R:(It->Hp->Prop))(vs:(List V))(H1:Hp):∀j:Int,vs=[.int j]->-(2 ^ 62)<=j->j<2 ^ 62->R (Itr 0 j.toNat) H1:=0
def iRng1(b:TA):TI:=λσ H R=>b σ H λvs c=>ZiRng1 R vs c
instance ZiRng2(R:(It->Hp->Prop))(vs:(List V))(H1:Hp):∀i j:Int,vs=[.int i,.int j]->-(2 ^ 62)<=i/\i<2 ^ 62/\-(2 ^ 62)<=j/\j<2 ^ 62->R (Itr i (j-i).toNat) H1:=0
def iRng2(b:TA):TI:=λσ H R=>b σ H λvs c=>ZiRng2 R vs c
def bK{a:Expr}{p pos:Pos}(hg:Gl X "range")(c:X.mg "range"=none)(ha:PA X [a] d)(g:starEach [a] X.env=[(false,eval a X.env)]:=by rfl):PI X tg (.Call (.Name "range" p) [a] [] pos) (iRng1 d):=by
 exists 4,R,I,h;apply Call_ (jh I hg c boot_range (O2 (thn (ha pos Pc s σ H _ I h) λus s1 ⟨vs,u,m,r1,b⟩=>?_) g rfl));erw[j,e,b,n,q]at b;subst e;cases r1 with
 |cons r o=>
   cases o;erw[t,1]at r;exact call_range_1 (yc m #[0] #[0] b n #[q,0])
def CW{a b:Expr}{p pos:Pos}(hg:Gl X "range")(m:X.mg "range"=none)(ha:PA X [a,b] n)(o:starEach [a,b] X.env=[(false,eval a X.env),(false,eval b X.env)]:=by rfl)(c:starEach [b] X.env=[(false,eval b X.env)]:=by rfl):
 PI X tg (.Call (.Name "range" p) [a,b] [] pos) (iRng2 n):=by
 exists 4,R,I,h;apply Call_ (jh I hg m boot_range (O2 (thn (ha pos Pc s σ H _ I h) λus s1 ⟨vs,B,u,r1,d⟩=>?_) (by rw[o,c]) (by rw[c];rfl)));erw[i,j,e,%[d,v,x|y],q]at d;subst e;cases r1 with
 |cons r g=>
   cases g with
   |cons z g=>
     cases g;erw[t,1]at r;erw[t',1]at z;exact call_range_2 (yc u d v x y q)
def tFor(d:TI)(g:TG)(e:TS):TS:=λD σ H=>d σ H λJ j=>∃W:Nat->Nat->St->Hp->Prop,(∃m,W 0 m σ j)/\∀i m σ H,W i m σ H ->
 (J.stop i H/\D.nx σ H)∨(J.go i H/\∃N:St->Hp->Prop,(∀ σ' b,N σ' b->∃c,c<m/\W (i+1) c σ' b)/\∀x b,J.yld i H x b->g x σ b λσ2 n=>e { D with nx:=N,ct:=N,bk:=D.nx } σ2 n)
def tL(c:List Addr)(h:Heap):#[7]:=c.filterMap λb=>(h.get? b).map λo=>(b,o)
def kY{c:List Addr}{h:Heap}{b:Addr}{o:Obj}(hb:b∈c)(e:h.get? b=some o):(b,o)∈tL c h:=List.mem_filterMap.mpr %[b,hb|by rw[e];rfl]
def Do{p:Addr×Obj}(c:p∈tL d h):p.1∈d/\h.get? p.1=some p.2:=by
 let%[b,hb|e]:=List.mem_filterMap.mp c;cases q:h.get? b with
 |none=>rw[q]at e;cases e
 |some o=>
   rw[q]at e;let g:(b,o)=p:=j3 e;subst g;erw[hb,q]
def Inv.pinned{σ:St}{c:List Addr}(I:#[8] H s)(hf:∀b∈c,jK X Pc H b)(j:∀b∈c,∃o,s.heap.get? b=some o/\∀v,o.data≠.cell v):Inv X (Pc++tL c s.heap) σ H s:=
 I.pins_of λp m=>(qO0 m).elim (λz=>I.pin p (xn _ z)) λz=>by
  let%[hb|e]:=Do z;let%[f0,f1,n|_]:=hf p.1 hb;let%[o,g|d]:=j p.1 hb;rw[e]at g;cases g;erw[e,f0,f1,n,d]
def Inv.unpinned{Pc pl:#[7]}{σ:St}(I:Inv X (Pc++pl) σ H s):#[8] H s:=I.pins_of λp b=>I.pin p (xn _ (QO _ b))
def cR{c:Expr}{pos:Pos}(B:PassesOwn (model X.prog X.w) X.A X.env X.xe)(hc:X.calm=true)(hi:PI X tg c wi)(hg:PG X tg g)(hb:PSs X body tb)
 (hs:∀x,foldedSetIterable c X.env x=pure x:=by intro _;rfl):PS X (.For tg c body [] pos) (tFor wi g tb):=by
 exists 4,D,I,h;apply wpAny_For (thn (hi Pc s σ H _ I h) λv s1 h1=>thn h1 λan s2 h2=>?_) hs;erw[it,C,tn,J,H2,e,I2,T,Y,f2,W,%[m0|w0],turn]at h2;subst e;let j:∀{y:Hp},(∀b∈C,y b=none)->∀b∈C,jK X Pc y b:=λhn b hb=>%[hn b hb|(f2 b hb).2]
 apply codeAny_forLoop_any (λn s'=>∃i σ' y,Inv X Pc σ' y s'/\tn i s'.heap/\(∀b∈C,y b=none)/\W i n σ' y) ?_ m0 %[(0),σ,H2,I2,Y,λb hb=>(f2 b hb).1|w0];rintro n s3 ⟨i,σ3,U,I3,L,M,w3⟩;rcases turn i n σ3 U w3 with⟨stop,qn⟩ | ⟨go,N,hN,step⟩
 . apply P0 B (thn (T.done X rfl rfl rfl hc i Pc s3 σ3 U X.xe I3 (j M) L stop) λr s4 ⟨hr,I4⟩=>?_);subst hr;exact Q1 %[σ3,U,I4|qn]
 . apply P0 B (thn (T.item X rfl rfl rfl hc i Pc s3 σ3 U X.xe I3 (j M) L go) λr s4 ⟨u,hr,h4⟩=>?_);subst hr;apply P0 B (thn h4 λ_ s5 ⟨x,H5,I5,r5,y5,z,ab⟩=>?_);let ac:=I5.pinned (j ab) (T.obj _ _ z);apply P0 B (thn (hg _ s5 σ3 H5 x u _ ac r5 (step x H5 y5)) λ_ s6 ⟨σ6,H6,I6,q6⟩=>?_);apply P0 B (thn (hb _ s6 σ6 H6 _ I6 q6) λf s7 q7=>?_);let again:∀{σ7:St}{q:Hp},Inv X (Pc++tL C s5.heap) σ7 q s7->N σ7 q->∃m,m<n/\∃i σ' y,Inv X Pc σ' y s7/\tn i s7.heap/\(∀b∈C,y b=none)/\W i m σ' y:=fun{σ7 q} t O=>by
    let%[m',hm|w7]:=hN σ7 q O;erw[m',hm,i+1,σ7,q,t.unpinned,T.keep _ _ _ z λb hb o e=>(t.pin (b,o) (xn _ (xn _ (kY hb e)))).1,λb hb=>?_,w7];let%[o,e|d]:=T.obj _ _ z b hb;exact(t.pin (b,o) (xn _ (xn _ (kY hb e)))).2.1
   cases f with
   |next=>erw[σ7,q,t,O]at q7;exact again t O
   |cont=>erw[σ7,q,t,O]at q7;exact again t O
   |brk=>erw[σ7,q,t,q7]at q7;erw[σ7,q,t.unpinned,q7]
   |ret v=>erw[x7,σ7,q,t,r7,q7]at q7;erw[x7,σ7,q,t.unpinned,r7,q7]
end
def gu{K:W.Frag}{xs:List V}{g:TG}{d:TS}{D:Ends}{σ:St}{H:Hp}(Pv:Nat->St->Hp->Prop)(h0:Pv 0 σ H)(hl:∀i σ H,i<=xs.length->Pv i σ H->SqL K H a xs)
 (o:∀i x σ H,xs[i]?=some x->Pv i σ H->g x σ H λσ2 c=>d { D with nx:=Pv (i+1),ct:=Pv (i+1),bk:=D.nx } σ2 c)(hd:∀ σ H,Pv xs.length σ H->D.nx σ H):
 ∃ W:Nat->Nat->St->Hp->Prop,(∃m,W 0 m σ H)/\∀i m σ H,W i m σ H ->
  ((Itl K a).stop i H/\D.nx σ H)∨((Itl K a).go i H/\∃N:St->Hp->Prop,(∀ σ' b,N σ' b->∃j,j<m/\W (i+1) j σ' b)/\∀x b,(Itl K a).yld i H x b->g x σ b λσ2 c=>d { D with nx:=N,ct:=N,bk:=D.nx } σ2 c):=by
 erw[λi m σ H=>m=xs.length-i/\i<=xs.length/\Pv i σ H,%[xs.length,by simp,i1 _|h0],6];rintro i m σ H ⟨rfl,r,p⟩;let q:=hl i σ H r p
 by_cases n:i<xs.length
 . refine .inr %[%[xs,xs[i],q|by simp [n]],Pv (i+1),λσ' b t=>%[xs.length-(i+1),3,1,n|t]|λx b y=>?_];erw[e,y]at y;subst e;exact o i x σ _ (y xs q) p
 . let e:i=xs.length:=#[0]
   subst e;exact .inl %[%[xs,q|eS _]|hd σ H p]
def rV{K:W.Frag}{xs:List V}{g:TG}{d:TS}{D:Ends}{σ:St}{H:Hp}(Pv:Nat->St->Hp->Prop)(h0:Pv 0 σ H)(hl:∀i σ H,i<=xs.length->Pv i σ H->SqT K H a xs)
 (o:∀i x σ H,xs[i]?=some x->Pv i σ H->g x σ H λσ2 c=>d { D with nx:=Pv (i+1),ct:=Pv (i+1),bk:=D.nx } σ2 c)(hd:∀ σ H,Pv xs.length σ H->D.nx σ H):
 ∃ W:Nat->Nat->St->Hp->Prop,(∃m,W 0 m σ H)/\∀i m σ H,W i m σ H ->
  ((Itt K a).stop i H/\D.nx σ H)∨((Itt K a).go i H/\∃N:St->Hp->Prop,(∀ σ' b,N σ' b->∃j,j<m/\W (i+1) j σ' b)/\∀x b,(Itt K a).yld i H x b->g x σ b λσ2 c=>d { D with nx:=N,ct:=N,bk:=D.nx } σ2 c):=by
 erw[λi m σ H=>m=xs.length-i/\i<=xs.length/\Pv i σ H,%[xs.length,by simp,i1 _|h0],6];rintro i m σ H ⟨rfl,r,p⟩;let q:=hl i σ H r p
 by_cases n:i<xs.length
 . refine .inr %[%[xs,xs[i],q|by simp [n]],Pv (i+1),λσ' b t=>%[xs.length-(i+1),3,1,n|t]|λx b y=>?_];erw[e,y]at y;subst e;exact o i x σ _ (y xs q) p
 . let e:i=xs.length:=#[0]
   subst e;exact .inl %[%[xs,q|eS _]|hd σ H p]
def eV{lo:Int}{n:Nat}{g:TG}{j:TS}{D:Ends}{σ:St}{H:Hp}(Pv:Nat->St->Hp->Prop)(h0:Pv 0 σ H)
 (q:∀i σ H,i<n->Pv i σ H->g (.int (lo+i)) σ H λσ2 c=>j { D with nx:=Pv (i+1),ct:=Pv (i+1),bk:=D.nx } σ2 c)(hd:∀ σ H,Pv n σ H->D.nx σ H):
 ∃ W:Nat->Nat->St->Hp->Prop,(∃m,W 0 m σ H)/\∀i m σ H,W i m σ H ->
  ((Itr lo n).stop i H/\D.nx σ H)∨((Itr lo n).go i H/\∃N:St->Hp->Prop,(∀ σ' b,N σ' b->∃o,o<m/\W (i+1) o σ' b)/\∀x b,(Itr lo n).yld i H x b->g x σ b λσ2 c=>j { D with nx:=N,ct:=N,bk:=D.nx } σ2 c):=by
 erw[λi m σ H=>m=n-i/\i<=n/\Pv i σ H,%[n,by simp,i1 _|h0],6];rintro i m σ H ⟨rfl,t,p⟩
 by_cases d:i<n
 . refine .inr %[d,Pv (i+1),λσ' b r=>%[n-(i+1),3,1,d|r]|λx b y=>?_];erw[e,y]at y;subst e y;exact q i σ _ d p
 . let e:i=n:=#[0]
   subst e;exact .inl %[eS _|hd σ H p]
abbrev R2:=V->V->Hp->VK->Prop
def OpR(X:Cx)(f:Value->Value->Sem Value)(r:R2):Prop:=
 ∀(Pc:#[7])(s:Shared)(σ:St)(H:Hp)(x y:V)(v u:Value)(Q:VK),#[8] H s->RelV x v->RelV y u->r x y H Q ->
  ‹X.w› (f v u) (EP X Pc σ Q) X.xe s
def UnR(X:Cx)(f:Value->Sem Value)(r:V->Hp->VK->Prop):Prop:=
 ∀(Pc:#[7])(s:Shared)(σ:St)(H:Hp)(x:V)(v:Value)(Q:VK),#[8] H s->RelV x v->r x H Q ->
  ‹X.w› (f v) (EP X Pc σ Q) X.xe s
def jm(X:Cx)(f:Value)(r:List V->Hp->VK->Prop):Prop:=
 ∀(Pc:#[7])(s:Shared)(σ:St)(H:Hp)(xs:List V)(us:List Value)(Q:VK),#[8] H s->Vals xs us->r xs H Q ->
  ‹X.w› (call f us) (EP X Pc σ Q) X.xe s
def tOp(r:R2)(b c:TE):TE:=λσ H Q=>b σ H λx d=>c σ d λy e=>r x y e Q
def tUn(r:V->Hp->VK->Prop)(b:TE):TE:=λσ H Q=>b σ H λx c=>r x c Q
instance rI(C:Int->Int->Prop)(g:Int->Int->V)(x:V)(y:V)(H:Hp)(Q:VK):∀i j,x=.int i->y=.int j->C i j->Q (g i j) H:=0
instance PR(g:Int->Int->V)(x:V)(y:V)(H:Hp)(Q:VK):∀i j,x=.int i->y=.int j->Q (g i j) H:=0
instance rU(g:Int->V)(x:V)(H:Hp)(Q:VK):∀i,x=.int i->Q (g i) H:=0
section
variable {X:Cx}{a b c:Expr}{ta tb tc:TE}{pos:Pos}
def Lv(ha:PE X a ta)(hb:PE X b tb){σ:St}{R:V->V->Hp->Prop}(I:#[8] H s)
 (h:ta σ H λx g=>tb σ g λy d=>R x y d){Q:#[6]}{f:Value->Value->Sem Value}
 (hf:∀v u e x y d,#[8] d e->RelV x v->RelV y u->R x y d->‹X.w› (f v u) Q X.xe e):
 ‹X.w› (eval a X.env) (λv j=>‹X.w› (eval b X.env) (λu m=>‹X.w› (f v u) Q X.xe m) X.xe j) X.xe s:=by
 apply thn (ha Pc s σ H _ I h) λv s1 ⟨x,g,n,r1,o⟩=>?_
 apply thn (hb Pc s1 σ g _ n o) λu e ⟨y,d,q,r,t⟩=>?_
 exact hf v u e x y d q r1 r t
def ao{op:Operator}(d:OpR X (binaryOp op) r)(ha:PE X a ta)(hb:PE X b tb):PE X (.BinOp a op b pos) (tOp r ta tb):=by
 exists 4,Q,I,h;exact wpAny_BinOp (Lv ha hb I h λv u e x y g j m n q=>d Pc e σ g x y v u Q j m n q)
def ye{op:UnaryOp}(d:UnR X (unaryOp op) r)(ha:PE X a ta):PE X (.UnaryOp op a pos) (tUn r ta):=by
 exists 4,Q,I,h;exact UnaryOp_ (thn (ha Pc s σ H _ I h) λv s1 ⟨x,e,g,r1,j⟩=>d Pc s1 σ e x v Q g r1 j)
def opI{f:Value->Value->Sem Value}{C:Int->Int->Prop}{g:Int->Int->Int}
 (rule:∀(i j:Int)(t u:Tok)(s:Shared)(Q:#[6])(E:#[6]),C i j->Q (.int (g i j) s.toks) { s with toks:=s.toks+1 }->‹X.w› (f (.int i t) (.int j u)) Q E s):
 OpR X f (rI C λi j=>.int (g i j)):=by
 exists 4,x,y,v,u,Q,I,d,e,h;erw[i,j,1,1,hc,q]at h;erw[t,1]at d;erw[t',1]at e;exact rule i j t t' s _ _ hc %[.int (g i j),H,I.tok _,%[|0]|q]
def opI0{f:Value->Value->Sem Value}{g:Int->Int->Int}
 (rule:∀(i j:Int)(t u:Tok)(s:Shared)(Q:#[6])(E:#[6]),Q (.int (g i j) s.toks) { s with toks:=s.toks+1 }->‹X.w› (f (.int i t) (.int j u)) Q E s):
 OpR X f (PR λi j=>.int (g i j)):=by
 exists 4,x,y,v,u,Q,I,d,e,h;erw[i,j,1,1,q]at h;erw[t,1]at d;erw[t',1]at e;exact rule i j t t' s _ _ %[.int (g i j),H,I.tok _,%[|0]|q]
def IO{f:Value->Value->Sem Value}{g:Int->Int->Bool}
 (rule:∀(i j:Int)(t u:Tok)(s:Shared)(Q:#[6])(E:#[6]),Q (.bool (g i j)) s->‹X.w› (f (.int i t) (.int j u)) Q E s):
 OpR X f (PR λi j=>.bl (g i j)):=by
 exists 4,x,y,v,u,Q,I,d,e,h;erw[i,j,1,1,q]at h;erw[t,1]at d;erw[t',1]at e;exact rule i j t t' s _ _ %[.bl (g i j),H,I,1|q]
def CDiv(i j:Int):Prop:=0<j/\j<1073741824
def CPow(i j:Int):Prop:=0<=j/\j<=1000000/\i.natAbs<2 ^ 64
def CMul(i j:Int):Prop:=(-(2 ^ 64)<i/\i<2 ^ 64)∨(-(2 ^ 64)<j/\j<2 ^ 64)
def CMul.ok(h:CMul i j):IntMulOk i j:=by
 rcases h with⟨h1,h2⟩ | ⟨h1,h2⟩
 . exact .of_left (intBits_le_64 h1 h2)
 . exact .of_right (intBits_le_64 h1 h2)
def aV:OpR X (binaryOp .Add) (PR λi j=>.int (i+j)):=opI0 λ_ _ _ _ _ _ _ q=>add_int q
def bi:OpR X (binaryOp .Sub) (PR λi j=>.int (i-j)):=opI0 λ_ _ _ _ _ _ _ q=>sub_int q
def bN:OpR X (binaryOp .Mult) (rI CMul λi j=>.int (i*j)):=opI λ_ _ _ _ _ _ _ hc q=>mul_int q hc.ok
def By:OpR X (binaryOp .FloorDiv) (rI CDiv λi j=>.int (i / j)):=opI λi j _ _ _ _ _ hc q=>by
 let h1:(0:Int)<j:=hc.1;let h2:j<1073741824:=hc.2;exact floordiv_int #[0] (by rw[Int.fdiv_eq_ediv_of_nonneg i #[0]];exact q) (.inl (PyProof.noPylong_small #[0]))
def aY:OpR X (binaryOp .Mod) (rI (λ_ j=>0<j) λi j=>.int (i % j)):=opI λi j _ _ _ _ _ hc q=>by
 let h1:(0:Int)<j:=hc;exact mod_int' #[0] (by rw[Int.fmod_eq_emod_of_nonneg i #[0]];exact q)
def Fy:OpR X (binaryOp .Pow) (rI CPow λi j=>.int (i ^ j.toNat)):=opI λ_ _ _ _ _ _ _ hc q=>pow_int_small hc.1 hc.2.1 hc.2.2 q
def unI{f:Value->Sem Value}{g:Int->Int}
 (rule:∀(i:Int)(t:Tok)(s:Shared)(Q:#[6])(E:#[6]),Q (.int (g i) s.toks) { s with toks:=s.toks+1 }->‹X.w› (f (.int i t)) Q E s):
 UnR X f (rU λi=>.int (g i)):=by
 exists 4,x,v,Q,I,d,h;erw[i,1,q]at h;erw[t,1]at d;exact rule i t s _ _ %[.int (g i),H,I.tok _,%[|0]|q]
def su:UnR X (unaryOp .USub) (rU λi=>.int (-i)):=unI λ_ _ _ _ _ q=>neg_int q
end
def scal:V->V->Bool
 |.non,.non=>true | .non,.int _=>true | .int _,.non=>true | .non,.bl _=>true | .bl _,.non=>true | .non,.str _=>true | .str _,.non=>true
 |.int _,.int _=>true | .bl _,.bl _=>true | .str _,.str _=>true | .byt _,.byt _=>true
 |.int _,.str _=>true | .str _,.int _=>true | .bl _,.str _=>true | .str _,.bl _=>true
 |_,_=>false
instance rEq(x:V)(y:V)(H:Hp)(Q:VK):scal x y=true->Q (.bl (decide (x=y))) H:=0
instance rNe(x:V)(y:V)(H:Hp)(Q:VK):scal x y=true->Q (.bl (!decide (x=y))) H:=0
def Cb{i j:Int}:decide (V.int i=V.int j)=(i==j):=by
 rw[Qt]
 simp
def Hv{i j:Bool}:decide (V.bl i=V.bl j)=(i==j):=by
 rw[Qt]
 simp
def Ca{i j:Str}:decide (V.str i=V.str j)=(i==j):=by
 rw[Qt]
 simp
def Cc{i j:Array UInt8}:decide (V.byt i=V.byt j)=(i.toList==j.toList):=by
 rw[Qt];cases i;cases j
 simp
section
variable {X:Cx}{a b c:Expr}{ta tb tc:TE}{pos:Pos}
def bV{σ:St}{Q:VK}{k d:Bool}(I:#[8] H s)(q:Q (.bl k) H)(e:k=d):EP X Pc σ Q (.bool d) s:=by
 subst e;erw[.bl k,H,I,1,q]
def aS:OpR X (compareOp .Eq) rEq:=by
 exists 4,x,y,v,u,Q,I,g,d,h;erw[e,q]at h;cases x with
 |non=>
   cases g;cases y with
   |non=>cases d;exact PySem.EqNone.eq_none_none (bV I q #[2])
   |bl j=>cases d;exact PySem.EqNone.eq_none_bool (bV I q #[2])
   |int j=>erw[t',1]at d;exact PySem.EqNone.eq_none_int (bV I q #[2])
   |str j=>erw[t',1]at d;exact PySem.EqNone.eq_none_str (bV I q #[2])
   |_=>exact absurd (show false=true from e) ln
 |bl i=>
   cases g;cases y with
   |non=>cases d;exact PySem.EqNone.eq_bool_none (bV I q #[2])
   |bl j=>cases d;exact eq_bool (bV I q Hv)
   |str j=>erw[t',1]at d;exact PySem.EqMixed.eq_bool_str (bV I q #[2])
   |_=>exact absurd (show false=true from e) ln
 |int i=>
   erw[t,1]at g;cases y with
   |non=>cases d;exact PySem.EqNone.eq_int_none (bV I q #[2])
   |int j=>erw[t',1]at d;exact eq_int (bV I q Cb)
   |str j=>erw[t',1]at d;exact PySem.EqMixed.eq_int_str (bV I q #[2])
   |_=>exact absurd (show false=true from e) ln
 |str i=>
   erw[t,1]at g;cases y with
   |non=>cases d;exact PySem.EqNone.eq_str_none (bV I q #[2])
   |bl j=>cases d;exact PySem.EqMixed.eq_str_bool (bV I q #[2])
   |int j=>erw[t',1]at d;exact PySem.EqMixed.eq_str_int (bV I q #[2])
   |str j=>erw[t',1]at d;exact eq_str (bV I q Ca)
   |_=>exact absurd (show false=true from e) ln
 |byt i=>
   erw[t,1]at g;cases y with
   |byt j=>erw[t',1]at d;exact PySem.W.eq_bytes (bV I q Cc)
   |_=>exact absurd (show false=true from e) ln
 |_=>cases y <;> exact absurd (show false=true from e) ln
def jw:OpR X (compareOp .NotEq) rNe:=by
 exists 4,x,y,v,u,Q,I,g,d,h;erw[e,q]at h;cases x with
 |non=>
   cases g;cases y with
   |non=>cases d;exact PySem.EqNone.ne_none_none (bV I q #[2])
   |bl j=>cases d;exact PySem.EqNone.ne_none_bool (bV I q #[2])
   |int j=>erw[t',1]at d;exact PySem.EqNone.ne_none_int (bV I q #[2])
   |str j=>erw[t',1]at d;exact PySem.EqNone.ne_none_str (bV I q #[2])
   |_=>exact absurd (show false=true from e) ln
 |bl i=>
   cases g;cases y with
   |non=>cases d;exact PySem.EqNone.ne_bool_none (bV I q #[2])
   |bl j=>cases d;exact ne_bool (bV I q (congrArg not Hv))
   |str j=>erw[t',1]at d;exact PySem.EqMixed.ne_bool_str (bV I q #[2])
   |_=>exact absurd (show false=true from e) ln
 |int i=>
   erw[t,1]at g;cases y with
   |non=>cases d;exact PySem.EqNone.ne_int_none (bV I q #[2])
   |int j=>erw[t',1]at d;exact ne_int (bV I q (congrArg not Cb))
   |str j=>erw[t',1]at d;exact PySem.EqMixed.ne_int_str (bV I q #[2])
   |_=>exact absurd (show false=true from e) ln
 |str i=>
   erw[t,1]at g;cases y with
   |non=>cases d;exact PySem.EqNone.ne_str_none (bV I q #[2])
   |bl j=>cases d;exact PySem.EqMixed.ne_str_bool (bV I q #[2])
   |int j=>erw[t',1]at d;exact PySem.EqMixed.ne_str_int (bV I q #[2])
   |str j=>erw[t',1]at d;exact ne_str (bV I q (congrArg not Ca))
   |_=>exact absurd (show false=true from e) ln
 |byt i=>
   erw[t,1]at g;cases y with
   |byt j=>erw[t',1]at d;exact PySem.W.ne_bytes (bV I q (congrArg not Cc))
   |_=>exact absurd (show false=true from e) ln
 |_=>cases y <;> exact absurd (show false=true from e) ln
def iI:OpR X (compareOp .Lt) (PR λi j=>.bl (decide (i<j))):=IO λ_ _ _ _ _ _ _ q=>lt_int q
def vj:OpR X (compareOp .LtE) (PR λi j=>.bl (decide (i<=j))):=IO λ_ _ _ _ _ _ _ q=>le_int q
def gq:OpR X (compareOp .Gt) (PR λi j=>.bl (decide (j<i))):=IO λ_ _ _ _ _ _ _ q=>gt_int q
def Bx:OpR X (compareOp .GtE) (PR λi j=>.bl (decide (j<=i))):=IO λ_ _ _ _ _ _ _ q=>ge_int q
def vk:OpR X (compareOp .In) (λx y H Q=>∃i j,x=.str i/\y=.str j/\Q (.bl (!(Builtin.Str.occurrences j i 0 j.length 1).isEmpty)) H):=by
 exists 4,x,y,v,u,Q,I,d,e,h;erw[i,j,1,1,q]at h;erw[t,1]at d;erw[t',1]at e;exact in_str (bV I q rfl)
def wP:OpR X (compareOp .Is) (λx y H Q=>y=.non/\Q (.bl (decide (x=.non))) H):=by
 exists 4,x,y,v,u,Q,I,d,e,h;erw[1,q]at h;cases e;apply is_none_gen (bV I q ?_);cases x <;> first
  | (cases d;rfl)
  | (erw[t,1]at d;rfl)
def OpR.or(h:OpR X f r)(h':OpR X f g):OpR X f (λx y H Q=>r x y H Q∨g x y H Q):=by
 exists 4,x,y,v,u,Q,I,d,e,q;rcases q with q | q
 . exact h Pc s σ H x y v u Q I d e q
 . exact h' Pc s σ H x y v u Q I d e q
def ax(b:Expr){op:CmpOp}(h:op≠.In:=by decide)(h2:op≠.NotIn:=by decide):behindInMarks op b=false:=by
 let e1:(op==CmpOp.In)=false:=by cases op <;> first | rfl | exact absurd rfl h
 let e2:(op==CmpOp.NotIn)=false:=by cases op <;> first | rfl | exact absurd rfl h2
 cases b <;> simp [behindInMarks,e1,e2]
def cJ{op:CmpOp}(d:OpR X (compareOp op) r)(ha:PE X a ta)(hb:PE X b tb)(e:behindInMarks op b=false):PE X (.Compare a [op] [b] pos) (tOp r ta tb):=by
 exists 4,Q,I,h;exact wpAny_Compare1 (Lv ha hb I h λv u g x y j m n o q=>d Pc g σ j x y v u Q m n o q) e
instance ZtTest(Q:(Bool->Hp->Prop))(x:V)(H':Hp):∀k,x=.bl k->Q k H':=0
def JG(t:TE):TT:=λσ H Q=>t σ H λx d=>ZtTest Q x d
def ai{op:CmpOp}(d:OpR X (compareOp op) r)(ha:PE X a ta)(hb:PE X b tb)(g:behindInMarks op b=false):PT X (.Compare a [op] [b] pos) (JG (tOp r ta tb)):=by
 exists 4,Q,I,h;apply wpAny_isTrue_Compare1 (thn (ha Pc s σ H _ I h) λv s1 ⟨x,j,m,r1,n⟩=>thn (hb Pc s1 σ j _ m n) λu o ⟨y,q,t,B,C⟩=>
  thn (d Pc o σ q x y v u _ t r1 B C) λc N ⟨z,D,J,L,k,e,M⟩=>?_) g
 subst e;cases L;exact y1 %[D,J|M]
instance ZtChain(r':R2)(tc:TE)(σ:St)(Q:VK)(y:V)(z:V)(H3:Hp):∀k,z=.bl k->(if k=true then tc σ H3 λw' H4=>r' y w' H4 Q else Q (.bl false) H3):=0
def Ew(r d:R2)(ta tb tc:TE):TE:=λσ H Q=>ta σ H λx e=>tb σ e λy g=>r x y g λz j=>ZtChain d tc σ Q y z j
def Ft{op g:CmpOp}(t:OpR X (compareOp op) r)(j:OpR X (compareOp g) B)(ha:PE X a ta)(hb:PE X b tb)(hc:PE X c tc)
 (C:lastMarks [op,g] [b,c]=false:=by rfl'):PE X (.Compare a [op,g] [b,c] pos) (Ew r B ta tb tc):=by
 exists 4,Q,I,h;apply Compare_chain (thn (ha Pc s σ H _ I h) λv s1 ⟨x,D,J,r1,L⟩=>chain_link (thn (hb Pc s1 σ D _ J L) λu M ⟨y,N,O,m,U⟩=>
  thn (t Pc M σ N x y v u _ O r1 m U) λd Y ⟨z,n,o,r3,k,e,q⟩=>?_)) C
 subst e;cases r3;apply y1 ?_;cases k with
 |false=>exact ite_ff %[.bl false,n,o,1|q]
 |true=>exact ite_tt (chain_last (thn (hc Pc Y σ n _ o q) λw' s4 ⟨z',H4,I4,r4,q4⟩=>j Pc s4 σ H4 y z' u w' Q I4 m r4 q4))
def Fh{op g:CmpOp}(t:OpR X (compareOp op) r)(j:OpR X (compareOp g) B)(ha:PE X a ta)(hb:PE X b tb)(hc:PE X c tc)
 (C:lastMarks [op,g] [b,c]=false:=by rfl'):PT X (.Compare a [op,g] [b,c] pos) (JG (Ew r B ta tb tc)):=by
 exists 4,Q,I,h;apply isTrue_chain (thn (ha Pc s σ H _ I h) λv s1 ⟨x,D,J,r1,L⟩=>test_link (thn (hb Pc s1 σ D _ J L) λu M ⟨y,N,O,m,U⟩=>
  thn (t Pc M σ N x y v u _ O r1 m U) λd Y ⟨z,n,o,r3,k,e,q⟩=>?_)) C
 subst e;cases r3;apply y1 ?_;cases k with
 |false=>
   erw[k',e',q']at q;cases e';exact ite_ff %[n,o|q']
 |true=>
   apply ite_tt (test_last (thn (hc Pc Y σ n _ o q) λw' s4 ⟨z',H4,I4,r4,q4⟩=>thn (j Pc s4 σ H4 y z' u w' _ I4 m r4 q4) λd' s5 ⟨z2,H5,I5,r5,k2,e2,q5⟩=>?_));subst e2;cases r5;exact y1 %[H5,I5|q5]
def kZ:(sizeLine:Nat)<2 ^ 63:=by rw[sizeLine_eq];decide
def tP:OpR X (binaryOp .Add) (λx y H Q=>∃i j,x=.str i/\y=.str j/\i.length+j.length<=sizeLine/\Q (.str (i++j)) H):=by
 exists 4,x,y,v,u,Q,I,d,e,h;erw[i,j,1,1,g,q]at h;erw[t,1]at d;erw[t',1]at e;exact add_str (λt' m=>%[.str (i++j),H,I.tok _,%[|0]|q]) g
def lu{x:V}(r:Vals [x] us):∃u,us=[u]/\RelV x u:=by
 cases r with
 |cons r1 d=>cases d;erw[0,r1]
def vals2{x y:V}(r:Vals [x,y] us):∃u d,us=[u,d]/\RelV x u/\RelV y d:=by
 cases r with
 |cons r1 e=>
   cases e with
   |cons g j=>cases j;erw[_,0,r1,g]
def qH:jm X (.type "int") (λxs H Q=>(∃i,xs=[.int i]/\Q (.int i) H)∨∃k,xs=[.bl k]/\Q (.int (if k then 1 else 0)) H):=by
 exists 4,xs,us,Q,I,r,h;rcases h with⟨i,rfl,q⟩ | ⟨k,rfl,q⟩
 . let%[u,1,t|1]:=lu r;exact call_int_int %[.int i,H,I,%[|0]|q]
 . let%[u,1|r1]:=lu r;cases r1;exact call_int_bool %[.int (if k then 1 else 0),H,I.tok _,%[|0]|q]
end
structure ObjM(h:Heap)(x dx C:Addr)(mA:#[9]):Prop where
 obj:h.get? x=some (PySem.W.instObj C dx)
 ns:h.Ns1 dx mA
 ne:dx≠x
def Du{h:Heap}{c:Addr}{d:#[9]}(n:h.Ns1 c d):∃g,h.get? c=some g/\∀name,PySem.W.lookIn name g=some (d name):=by
 erw[o,j,B,m,hd,r,_,u]at n;erw[o,m,λname=>?_];let e:=u name;unfold nsFind findBy at e;rw[←Array.find?_toList]at e;unfold PySem.W.lookIn;rw[hd]
 dsimp only
 split
 . rename_i y q;rw[q]at e;exact congrArg some e
 . rename_i q;rw[q]at e;let a:j.toList.any (·.refKey)=false:=by
    rw[List.any_eq_false];intro y v;let%[z,t|b]:=r y (Array.mem_toList_iff.mp v)
    simp [DictEntry.refKey,b]
   let x:¬ j.toList.any (·.refKey)=true:=by rw[a];exact ln
   rw[Pd x];exact congrArg some e
def ObjM.look(I:ObjM h x c C d):∃b,PySem.W.InstAt h x (PySem.W.instObj C c) C (some b)/\∀name,PySem.W.lookIn name b=some (d name):=
 let⟨b,e,hl⟩:=Du I.ns
 %[b,%[I.obj,1,1|e]|hl]
section
variable {prog:Program}{w:World}{A:Around}{E:#[6]}{s:Shared}{K:W.Frag}{x dx C f:Addr}{mA:#[9]}{name:Str}{v:Value}
def Jr{b:Bool}{Q:#[6]}(X:K.In s.heap)(I:ObjM s.heap x dx C mA)(hg:PySem.W.plainGet K C name=true)(hh:PySem.W.hasDictIn K C=true)
 (ha:PySem.W.findIn K (.ref C) name=some none)(d:mA name=some v)(c:PySem.W.handedIn v=true)(h:Q v { s with toks:=s.toks+1 }):
 ‹w.A› (getAttr (.ref x) name b) Q E s:=by
 erw[e,J,hl]at I.look;exact PySem.W.get_value X J (RG hg).1 (PySem.W.findObj_own hh ha rfl (by rw[hl,d])) c h
def He{pl:Sem Bool}{Q:Value×List Value->Shared->Prop}(X:K.In s.heap)(I:ObjM s.heap x dx C mA)(hg:PySem.W.plainGet K C name=true)
 (hf:PySem.W.findIn K (.ref C) name=some (some (.ref f)))(b:PySem.W.isFn K (.ref f)=true)(c:mA name=none)(h:Q (.ref f,[.ref x]) s):
 ‹w.A› (getMethod (.ref x) name pl) Q E s:=by
 erw[d,J,hl]at I.look;exact PySem.W.method_fn X J (RG hg).1 (RG hg).2 hf (beq_iff_eq.mp b) (by show(PySem.W.lookIn name d).map (·.isSome)=some false;rw[hl,c];rfl) h
def Iy{ns:List Str}{Q:Unit->Shared->Prop}(X:K.In s.heap)(I:ObjM s.heap x dx C mA)
 (n:PySem.W.findIn K (.ref C) "__setattr__"=some (some (.builtin "object.__setattr__")))(o:PySem.W.plainOver K C=true)(q:PySem.W.takerIn K C name=some none)(hh:PySem.W.hasDictIn K C=true)
 (hw:PySem.Within mA ns)(hsz:ns.length<=sizeLine)
 (h:∀h',ObjM h' x dx C (λy=>if y=name then some v else mA y)->Heap.SameBut dx s.heap h'->Q () { s with heap:=h',toks:=s.toks+2 }):
 ‹w.A› (setAttr (.ref x) name v) Q E s:=by
 erw[B,J,hl]at I.look;apply PySem.W.set_plain X J n (PySem.W.osa_open (s:={ s with toks:=s.toks+1 }) (r:=none) X J o q λb=>?_);let%[cd,hc|e]:=PySem.W.any_some hh;let t:s.heap.get? x=some %[.ref C,some dx,.plain|#[]]:=I.obj;apply eC (fu (eC (eC (wpAny_loadPart t (eC (PySem.W.Looks.here (s:={ s with toks:=s.toks+1 }) (PySem.W.looks_clsIn X hc) ?_))))));rw[e];apply fu (a:=some dx) (eC (fu (eC ?_)));apply wpAny_nsSet1 (s:={ s with toks:=s.toks+1 }) I.ns λh' c d=>?_
 let%[D,u,z,g,j|m]:=c.count (PySem.Within.cons name v hw);apply eC (wpAny_lookBehind g (by rw[j];exact pastItsLine_dict (hE m (by rw[f5];omega))) ?_);exact fu (h _ %[(d.2 _ (Ne.symm I.ne)).trans I.obj,c|I.ne] d)
def Go{R:Result->Shared->Prop}{vs:List Value}{b:List (Str×Value)}(X:K.In s.heap)(c:PySem.W.makesIn K C=true)
 (e:PySem.W.findIn K (.ref C) "__init__"=some (some (.ref f)))(hf:PySem.W.typeIn K (.ref f)=some (.type "function"))
 (h:codeAny (model prog w) (A.under (.builtin "type.__call__" %[.ref C::vs|b])) (.call (.ref f) ⟨.ref (‹s›+1)::vs,b⟩) (PySem.W.InitBack (‹s›+1) R)
  { s with heap:=(s.heap.push PySem.W.emptyDict).push (PySem.W.instObj C ‹s›) }) :
 codeAny (model prog w) A (.call (.ref C) %[vs|b]) R s:=by
 erw[hh,g,d,t,os]at s;exact PySem.W.make_core (PySem.W.makes_of X c) (PySem.W.looks_findIn X e) (λself=>PySem.W.bind_fn X self hf) (.inl rfl) h
end
def cf(f:Str)(v:V):List (Str×V)->List (Str×V)
 | []=>[(f,v)]
 | (g,x)::r=>if g=f then(g,v)::r else(g,x)::cf f v r
def ay(f g:Str)(v:V):∀fs:List (Str×V),(cf f v fs).lookup g=if g=f then some v else fs.lookup g
 | []=>by
   show List.lookup g [(f,v)]=_
   by_cases h:g=f
   . let hb:(g==f)=true:=beq_iff_eq.mpr h;simp only[List.lookup,hb,Pe h]
   . let hb:(g==f)=false:=beq_eq_false_iff_ne.mpr h;simp only[List.lookup,hb,Pd h]
 | (k,x)::r=>by
   let c:=ay f g v r;rw[show cf f v ((k,x)::r)=(if k=f then(k,v)::r else(k,x)::cf f v r)from rfl]
   by_cases b:k=f
   . rw [Pe b]
     by_cases h:g=k
     . let hb:(g==k)=true:=beq_iff_eq.mpr h;simp only[List.lookup,hb,Pe (h.trans b)]
     . let hb:(g==k)=false:=beq_eq_false_iff_ne.mpr h;simp only[List.lookup,hb,Pd (λe:g=f=>h (e.trans b.symm))]
   . rw [Pd b]
     by_cases h:g=k
     . let hb:(g==k)=true:=beq_iff_eq.mpr h;simp only[List.lookup,hb,Pd (λe:g=f=>b (h.symm.trans e))]
     . let hb:(g==k)=false:=beq_eq_false_iff_ne.mpr h;simp only[List.lookup,hb];exact c
def qC(f:Str)(v:V):∀fs:List (Str×V),f∈(cf f v fs).map (·.1)/\∀g,g∈fs.map (·.1)->g∈(cf f v fs).map (·.1)
 | []=>%[by simp [cf]|λg h=>by simp at h]
 | (k,x)::r=>by
   let%[c|d]:=qC f v r;rw[show cf f v ((k,x)::r)=(if k=f then(k,v)::r else(k,x)::cf f v r)from rfl]
   by_cases b:k=f
   . rw[Pe b];subst b;erw[by simp,λg h=>by simpa using h]
   . rw [Pd b];erw[6,λg h=>?_]
     . rw[lw];exact mj _ c
     . rw [lw]at h ⊢;rcases qA0 h with e | e
       . exact List.mem_cons.mpr (.inl e)
       . exact mj _ (d g e)
def re(f:Str)(v:V):∀fs:List (Str×V),(cf f v fs).length<=fs.length+1
 | []=>by simp [cf]
 | (k,x)::r=>by
   let c:=re f v r;rw[show cf f v ((k,x)::r)=(if k=f then(k,v)::r else(k,x)::cf f v r)from rfl]
   by_cases b:k=f
   . rw[Pe b,f5,f5];omega
   . rw[Pd b,f5,f5];omega
def RelO.some_of{v:V}(r:RelO (some v) o):∃u,o=some u/\RelV v u:=by
 cases o with
 |none=>exact(show False from r).elim
 |some u=>erw[u,1,r]
def RelO.none_of(r:RelO none o):o=none:=by
 cases o with
 |none=>rfl
 |some u=>exact(show False from r).elim
def DM(r:RelV v u):PySem.W.handedIn u=true:=by
 cases v with
 |non=>cases(show u=Value.none from r);rfl
 |bl b=>cases(show u=Value.bool b from r);rfl
 |int i=>let%[t|e]:=(show ∃t,u=Value.int i t from r);cases e;rfl
 |str x=>let%[t|e]:=(show ∃t,u=Value.str x t from r);cases e;rfl
 |byt b=>let%[t|e]:=(show ∃t,u=Value.bytes b t from r);cases e;rfl
 |flt b=>let%[t|e]:=(show ∃t,u=Value.float b t from r);cases e;rfl
 |ref a=>cases(show u=Value.ref a from r);rfl
 |ty n=>cases(show u=Value.type n from r);rfl
section
variable {P:Program}{w:World}{H H':Hp}{h h':Heap}{a C dx:Addr}{fs fs':List (Str×V)}
def rQ(hok:HOk P w H h)(e:H a=some (.ins C dx fs)):∃b,ObjM h a dx C b/\(∀f,RelO (fs.lookup f) (b f))/\PySem.Within b (fs.map (·.1))/\fs.length<=1000/\H dx=some (.own a):=by
 let%[d,z,ne,c,b,n,r|q]:=(show ObjOk P w H h a (.ins C dx fs)from hok a _ e)
 erw[b,%[c,n|ne],r,q,z,d]
end
structure Cls(K:W.Frag)(C:Addr):Prop where
 pg:PySem.W.plainGet K C Str.empty=true
 hd:PySem.W.hasDictIn K C=true
 po:PySem.W.plainOver K C=true
 sa:PySem.W.findIn K (.ref C) "__setattr__"=some (some (.builtin "object.__setattr__"))
def Cls.get{K:W.Frag}(c:Cls K C)(f:Str):PySem.W.plainGet K C f=true:=c.pg
def NoAttr(K:W.Frag)(C:Addr)(f:Str):Prop:=PySem.W.findIn K (.ref C) f=some none
def NoAttr.taker{K:W.Frag}(n:NoAttr K C f):PySem.W.takerIn K C f=some none:=by
 unfold PySem.W.takerIn;rw[show PySem.W.findIn K (.ref C) f=some none from n];rfl
structure Meth(K:W.Frag)(C:Addr)(m:Str)(f:Addr):Prop where
 at_:PySem.W.findIn K (.ref C) m=some (some (.ref f))
 fn:PySem.W.isFn K (.ref f)=true
 kp:PySem.W.keepIn K (.ref f)=true
section
variable {X:Cx}{Pc:#[7]}{σ:St}{H:Hp}{s:Shared}{a C dx:Addr}{fs:List (Str×V)}{f:Str}{v:V}{A:Around}{E:#[6]}
def AR{b:Bool}{Q:#[6]}(I:#[8] H s)(e:H a=some (.ins C dx fs))(c:Cls X.K C)(n:NoAttr X.K C f)(l:fs.lookup f=some v)
 (h:∀u s',#[8] H s'->RelV v u->Q u s'):wpAny (model X.prog X.w) A (getAttr (.ref a) f b) Q E s:=by
 let%[g,O,r,_,_|_]:=rQ I.hok e;let%[u,j|d]:=RelO.some_of (v:=v) (o:=g f) (by rw[←l];exact r f);exact Jr I.kIn O (c.get f) c.hd n j (DM d) (h u _ (I.tok _) d)
def uo{pl:Sem Bool}{Q:Value×List Value->Shared->Prop}(I:#[8] H s)(e:H a=some (.ins C dx fs))(c:Cls X.K C)(k:Meth X.K C m g)(l:fs.lookup m=none)
 (h:Q (.ref g,[.ref a]) s):wpAny (model X.prog X.w) A (getMethod (.ref a) m pl) Q E s:=by
 let%[b,O,r,_,_|_]:=rQ I.hok e;let d:b m=none:=RelO.none_of (by rw[←l];exact r m);exact He I.kIn O (c.get m) k.at_ k.fn d h
def zL{Q:Unit->Shared->Prop}(I:#[8] H s)(e:H a=some (.ins C dx fs))(c:Cls X.K C)(n:NoAttr X.K C f)(hl:fs.length<1000)(B:RelV y u)
 (h:∀s',#[8] (upd H a (.ins C dx (cf f y fs))) s'->Q () s'):wpAny (model X.prog X.w) A (setAttr (.ref a) f u) Q E s:=by
 let%[j,O,r,m,_|t]:=rQ I.hok e;let D:(fs.map (·.1)).length<=sizeLine:=by rw[d8,sizeLine_eq];omega
 apply Iy I.kIn O c.sa c.po n.taker c.hd m D λh' d J=>h _ ?_
 let hd:∃o,h'.get? dx=some o:=let⟨o,_,_,L,_⟩:=d.ns;%[o|L]
 apply I.write (x:=a) (e:=dx) (by rw[e];exact True.intro) (.inr t) (λb q hb z=>(J.2 b hb).trans z) hd ?_;erw[by rw[az O.ne];exact t,6,O.ne,d.obj,_,d.ns,λg=>?_,λg hg=>?_]
 . have:=re f y fs;omega
 . show RelO ((cf f y fs).lookup g) (if g=f then some u else j g);rw[ay]
   by_cases q:g=f
   . rw[Pe q,Pe q];exact B
   . rw[Pd q,Pd q];exact r g
 . by_cases q:g=f
   . rw[q];exact(qC f y fs).1
   . refine(qC f y fs).2 g (m g λz=>hg ?_);show(if g=f then some u else j g)=none;rw[Pd q];exact z
def Inv.made(I:#[8] H s):#[8] (upd (upd H ‹s› (.own (‹s›+1))) (‹s›+1) (.ins C ‹s› []))
 { s with heap:=(s.heap.push PySem.W.emptyDict).push (PySem.W.instObj C ‹s›) }:=by
 let e1:(s.heap.push PySem.W.emptyDict).get? ‹s›=some PySem.W.emptyDict:=kv s.heap rfl;let e2:((s.heap.push PySem.W.emptyDict).push (PySem.W.instObj C ‹s›)).get? (‹s›+1)=some (PySem.W.instObj C ‹s›):=by
  have:=kv (s.heap.push PySem.W.emptyDict) (o:=PySem.W.instObj C ‹s›) rfl
  rwa [PM]at this
 let e3:(s.heap.push PySem.W.emptyDict).Ns ‹s› (λ_=>none):=%[PySem.W.emptyDict,#[],_,e1,1,(λe he=>absurd he #[2])|λ_=>rfl]
 let c:=I.laid (a:=‹s›) (o:=.own (‹s›+1)) (h':=s.heap.push PySem.W.emptyDict) (t':=s.toks) (λb u q=>gz _ q) (eS _) %[_|e1];apply c.laid (a:=‹s›+1) (o:=.ins C ‹s› []) (t':=s.toks) (λb u q=>gz _ q) (Nat.le_of_eq (PM _ _)) ?_;let ne:‹s›≠‹s›+1:=i2 (Px _);erw[by rw[az ne,ah],i1 _,ne,e2,λ_=>none,(Heap.Ns1.of_empty e3).at λo q=>gz _ q,λ_=>True.intro,λy d=>absurd rfl d]
def Jy{prog:Program}{w:World}{env:Env}{e:Expr}{f:Str}{pos:Pos}{s:Shared}{Q:#[6]}(hb:attributeBase e f env (eval e env)=eval e env)
 (h:‹w.A› (eval e env) (λo b=>‹w.A› (getAttr o f true) Q E b) E s):‹w.A› (eval (.Attribute e f pos) env) Q E s:=
 Attribute_any_ h (by rw[arm_eval_Attribute,hb])
end
instance ZtFld(K:W.Frag)(f:Str)(Q:VK)(x:V)(H1:Hp):∀a C dx fs v,x=.ref a->H1 a=some (.ins C dx fs)->Cls K C->NoAttr K C f->fs.lookup f=some v->Q v H1:=0
def tFld(K:W.Frag)(b:TE)(f:Str):TE:=λσ H Q=>b σ H λx c=>ZtFld K f Q x c
instance ZsFld(K:W.Frag)(f:Str)(D:Ends)(σ:St)(y:V)(x:V)(H2:Hp):∀a C dx fs,x=.ref a->H2 a=some (.ins C dx fs)->Cls K C->NoAttr K C f->fs.length<1000->D.nx σ (upd H2 a (.ins C dx (cf f y fs))):=0
def sFld(K:W.Frag)(b c:TE)(f:Str):TS:=λD σ H=>c σ H λy d=>b σ d λx e=>ZsFld K f D σ y x e
section
variable {X:Cx}{o e value:Expr}{f:Str}{pos pos' tpos:Pos}{ta tv:TE}
def aB(he:PE X e ta)(hb:attributeBase e f X.env (eval e X.env)=eval e X.env):PE X (.Attribute e f pos) (tFld X.K ta f):=by
 exists 4,Q,I,h;apply Jy hb (thn (he Pc s σ H _ I h) λu s1 ⟨x,b,d,g,a,C,t,fs,v,ex,j,c,n,l,q⟩=>?_);subst ex;obtain rfl:u=Value.ref a:=g;exact AR d j c n l λy z m r=>%[v,b,m,r|q]
def aQ(ha:PE X o ta)(b:PE X value tv)(d:swapsWith value (some (.Attribute o f pos')) pos.line X.env=pure false):PS X (.Assign [.Attribute o f pos'] value pos) (sFld X.K ta tv f):=by
 exists 4,D,I,h;apply plainObj_wpAny_Assign_Attribute (thn (b Pc s σ H _ I h) λu s1 ⟨y,g,j,m,q⟩=>thn (ha Pc s1 σ g _ j q) λr L ⟨x,M,t,v,a,C,N,fs,ex,z,c,n,l,B⟩=>?_) d;subst ex;obtain rfl:r=Value.ref a:=v;exact zL t z c n l m λO J=>%[σ,_,J|B]
end
section
variable {X:Cx}{Pc:#[7]}{σ:St}{H:Hp}{s:Shared}{A:Around}{E:#[6]}{Q:#[6]}{c:Value}{b:Bool}
inductive TyOf(K:W.Frag)(H:Hp):V->Value->Prop where
 |non:TyOf K H .non (.type "NoneType")
 |bl (x:Bool):TyOf K H (.bl x) (.type "bool")
 |int (i:Int):TyOf K H (.int i) (.type "int")
 |str (x:Str):TyOf K H (.str x) (.type "str")
 |flt (x:UInt64):TyOf K H (.flt x) (.type "float")
 |lst {a:Addr} {xs:List V} (e:H a=some (.lst xs)):TyOf K H (.ref a) (.type "list")
 |frz {a:Addr} {o:Obj} {xs:List V} (e:H a=some (.frz o (.lst xs))):TyOf K H (.ref a) (.type "list")
 |tup {a:Addr} {xs:List V} (e:H a=some (.tup xs)):TyOf K H (.ref a) (.type "tuple")
 |dK {a:Addr} {Ph:List (Key×V)} (e:H a=some (.dK Ph)):TyOf K H (.ref a) (.type "dict")
 |dT {a:Addr} {Ph:List (List Key×V)} (e:H a=some (.dT Ph)):TyOf K H (.ref a) (.type "dict")
 | ins {a C dx:Addr} {fs:List (Str×V)} (e:H a=some (.ins C dx fs)) (cl:Cls K C) (ha:PySem.W.findIn K (.ref C) "__class__"=some (some (.builtin "object.__class__")))
  (hn:PySem.W.specialIn K (.builtin "object.__class__") "__get__"=some (some (.builtin "getset_descriptor.__get__"))) (htk:PySem.W.takesIn K (.builtin "object.__class__")=some true)
  (hm:PySem.W.mroIn K C (.type "object")=some true):TyOf K H (.ref a) (.ref C)
def DF(I:#[8] H s)(d:RelV x u)(ty:TyOf X.K H x t)(e:PySem.W.kitOne X.K t c=some b)(h:∀r,Q (.bool b) { s with toks:=r }):
 wpAny (model X.prog X.w) A (call (.builtin "isinstance") [u,c]) Q E s:=by
 cases ty with
 |non=>cases(show u=Value.none from d);exact zp PySem.W.kitx_none I.kIn True.intro e (λz=>nomatch z) h
 |bl y=>cases(show u=Value.bool y from d);exact zp PySem.W.kitx_bool I.kIn True.intro e (λz=>nomatch z) h
 |int i=>let%[t|q]:=(show ∃t,u=Value.int i t from d);cases q;exact zp PySem.W.kitx_int I.kIn True.intro e (λz=>nomatch z) h
 |str y=>let%[t|q]:=(show ∃t,u=Value.str y t from d);cases q;exact zp PySem.W.kitx_str I.kIn True.intro e (λz=>nomatch z) h
 |flt y=>let%[t|q]:=(show ∃t,u=Value.float y t from d);cases q;exact zp PySem.W.kitx_float I.kIn True.intro e (λz=>nomatch z) h
 | @lst a xs g=>
   cases(show u=Value.ref a from d);let%[_,_,n,_|h1]:=(show ObjOk X.prog X.w H s.heap a (.lst xs)from I.hok a _ g)
   exact zp PySem.W.kitx_list I.kIn %[_,h1|1] e (λz=>nomatch z) h
 | @frz a v xs g=>
   cases(show u=Value.ref a from d);let%[_,_,_,n,_|h1]:=(show ObjOk X.prog X.w H s.heap a (.frz v (.lst xs))from I.hok a _ g)
   exact zp PySem.W.kitx_list I.kIn %[_,h1|1] e (λz=>nomatch z) h
 | @tup a xs g=>
   cases(show u=Value.ref a from d);let%[_,_,_,p|_]:=(show ObjOk X.prog X.w H s.heap a (.tup xs)from I.hok a _ g)
   erw[o,h1,h2,_]at p;exact zp PySem.W.kitx_tuple I.kIn %[o,h1|h2] e (λz=>nomatch z) h
 | @dK a j g=>
   cases(show u=Value.ref a from d);let%[_,_,vs,_|p]:=(show ObjOk X.prog X.w H s.heap a (.dK j)from I.hok a _ g)
   erw[o,B,D,h1,h2,_]at p;exact zp PySem.W.kitx_dict I.kIn %[o,h1|h2.1] e (λz=>nomatch z) h
 | @dT a j g=>
   cases(show u=Value.ref a from d);let%[_,_,xs,_,o,B,D,h1,h2|_]:=(show ObjOk X.prog X.w H s.heap a (.dT j)from I.hok a _ g)
   exact zp PySem.W.kitx_dict I.kIn %[o,h1|h2.1] e (λz=>nomatch z) h
 | @ins a C N fs g cl ha L m M=>
   cases(show u=Value.ref a from d);let%[U,O|_]:=rQ I.hok g;erw[Y,J,_]at O.look;exact zp (PySem.W.kitx_own (cl.get _) cl.hd ha L m M) I.kIn J e (λz=>nomatch z) h
end
structure Room(k:Nat)(A:Around):Prop where
 hd:A.handled=none
 gd:A.guards=some []
 dp:A.depth+3*k+5<recursionLimit
 un:A.units+16*k+200<cLine
def Room.mono{j:Nat}(r:Room k A)(h:j<=k):Room j A:=%[r.hd,r.gd,by have:=r.dp;omega|by have:=r.un;omega]
def Room.deeper{k:Nat}(r:Room (k+1) A)(env:Env):Room k (A.deeper env):=
 %[r.hd,r.gd,by have:=r.dp;show A.depth+1+3*k+5<_;omega|by have:=r.un;show A.units+3+16*k+200<_;omega]
def AD{A:Around}{C:Addr}{us:List Value}{b:List (Str×Value)}:(A.under (.builtin "type.__call__" %[.ref C::us|b])).depth=A.depth+1:=by
 first | rfl | simp [Around.under,Code.weight,Code.isCreation,Code.isGuard,Code.isCaller,Code.frames,Code.isFrame,guardIds]
def AC{A:Around}{C:Addr}{us:List Value}{b:List (Str×Value)}:(A.under (.builtin "type.__call__" %[.ref C::us|b])).units=A.units+1:=by
 first | rfl | simp [Around.under,Code.cUnits,Code.frames,Code.isFrame]
def Room.make{k:Nat}(r:Room (k+1) A)(C:Addr)(us:List Value)(b:List (Str×Value)):Room k (A.under (.builtin "type.__call__" %[.ref C::us|b])):=
 %[r.hd,by simp [Around.under,Code.guards,Code.isGuard,guardIds,pushGuards,r.gd],by have:=r.dp;rw[AD];omega|by have:=r.un;rw[AC];omega]
def Room.depth(r:Room k A):A.depth<recursionLimit:=by have:=r.dp;omega
def Room.units(r:Room k A):A.units+64<cLine:=by have:=r.un;omega
def Ik:TA:=λ_ H Q=>Q [] H
def tCons(b:TE)(c:TA):TA:=λσ H Q=>b σ H λx d=>c σ d λxs e=>Q (x::xs) e
section
variable {X:Cx}{e:Expr}{es:List Expr}{te:TE}{t:TA}{pos:Pos}
def ae:PA X [] Ik:=λ_ _ _ _ H Q I h=>Qc %[[],H,I,.nil|h]
def aa(ha:PE X e te)(hr:PA X es t)(b:starEach (e::es) X.env=(false,eval e X.env)::starEach es X.env:=by rfl):PA X (e::es) (tCons te t):=by
 intro pos Pc s σ H Q I h;rw[b];show wpAny _ _ (spliced ((false,eval e X.env)::backTo pos (starEach es X.env))) _ _ s;apply PU (thn (ha Pc s σ H _ I h) λu s1 ⟨x,c,d,r1,g⟩=>?_);exact thn (hr pos Pc s1 σ c _ d g) λus q ⟨xs,j,m,n,o⟩=>%[x::xs,j,m,.cons r1 n|o]
instance ZtTup(Q:VK)(xs:(List V))(H1:Hp):xs.length<=sizeLine->(∀p,H1 p=none->Q (.ref p) (upd H1 p (.tup xs))):=0
def tTup(t:TA):TE:=λσ H Q=>t σ H λxs b=>ZtTup Q xs b
instance ZtLst(Q:VK)(xs:(List V))(H1:Hp):xs.length<=sizeLine->(∀p,H1 p=none->Q (.ref p) (upd H1 p (.lst xs))):=0
def tLst(t:TA):TE:=λσ H Q=>t σ H λxs b=>ZtLst Q xs b
def aR{g}(h:PA X es t):PE X (.Tuple es g pos) (tTup t):=by
 exists 4,Q,I,j;apply wpAny_Tuple_spliced (thn (h pos Pc s σ H _ I j) λus s1 ⟨xs,c,d,r,z,q⟩=>%[by rw[←r.length];exact z|6]);let hf:c ‹s1›=none:=d.hok.fresh (eS _);erw[.ref ‹s1›,upd c ‹s1› (.tup xs),d.laid (t':=s1.toks) (λb u e=>gz _ e) (eS _) ?_,1,q _ hf];erw[z,us,r,%[_,kv _ rfl,1|0],_,kv _ rfl,1]
def bY(h:PA X es t):PE X (.List es pos) (tLst t):=by
 exists 4,Q,I,g;apply wpAny_List_spliced (thn (h pos Pc s σ H _ I g) λus s1 ⟨xs,c,d,r,z,q⟩=>%[by rw[←r.length];exact z|6]);let hf:c ‹s1›=none:=d.hok.fresh (eS _);erw[.ref ‹s1›,upd c ‹s1› (.lst xs),d.laid (t':=s1.toks) (λb u e=>gz _ e) (eS _) ?_,1,q _ hf];erw[z,us,(0),r,kv _ rfl]
end
abbrev Sp:=List V->Hp->VK->XK->Prop
abbrev CXT:=List Env->Hp->Shared->XK->#[6]
structure Env0(P:Program)(w:World)(K:W.Frag)(mg:#[9])(base:Heap)(A:Around)(outer:List Env)(s:Shared)(H:Hp):Prop where
 frames:A.frames=some outer
 mod:Mod K mg base
 bs:∀b o,base.get? b=some o->s.heap.get? b=some o/\H b=none
 bsz:base.objs.size<=‹s›
 funs:s.heap.FunFrames base outer
 frf:∀b∈frs outer,H b=none
 hok:HOk P w H s.heap
 bare:AllBare s.gens
def CE(outer:List Env)(P:Program)(w:World)(H:Hp)(s:Shared)(Q:VK)(u:Value)(s':Shared):Prop:=
 ∃v b,s'.os=s.os/\AllBare s'.gens/\Un (frs outer) [] H b s.heap s'.heap/\HOk P w b s'.heap/\RelV v u/\Q v b
def CR(CX:CXT)(outer:List Env)(P:Program)(w:World)(H:Hp)(s:Shared)(Q:VK)(E:XK)(r:Result)(s':Shared):Prop:=
 match r with
 |.ok (.ret u)=>CE outer P w H s Q u s'
 |.ok _=>False
 |.error e=>CX outer H s E e s'
structure FnOk(P:Program)(w:World)(K:W.Frag)(mg:#[9])(base:Heap)(CX:CXT)(k:Nat)(f:Addr)(fd:FuncData)(ps:List Str)(sp:Sp):Prop where
 len:∀vs H Q E,sp vs H Q E->vs.length=ps.length
 run:∀(A:Around)(outer:List Env)(s:Shared)(H:Hp)(args:Args)(us:List Value)(vs:List V)(Q:VK)(E:XK),Room k A->Env0 P w K mg base A outer s H->BindsTo s fd args (ps.zip us)->Vals vs us->sp vs H Q E ->
  codeAny (model P w) A (.call (.ref f) args) (CR CX outer P w H s Q E) s
def Env0.make{K:W.Frag}(e:Env0 P w K mg base A outer s H)(C:Addr)(us:List Value)(b:List (Str×Value)):
 Env0 P w K mg base (A.under (.builtin "type.__call__" %[.ref C::us|b])) outer s H:=⟨by first | exact e.frames | (simpa [Around.under,Code.envs,Code.isFrame,pushEnvs]using e.frames),e.mod,e.bs,e.bsz,e.funs,e.frf,e.hok,e.bare⟩
section
variable {X:Cx}{Pc:#[7]}{σ:St}{H:Hp}{s s':Shared}
def Inv.env0(I:#[8] H s):Env0 X.prog X.w X.K X.mg X.base X.A X.stack s H:=
 %[I.ok.frames,I.ok.mod,I.bs,hE I.ok.bsz I.sz,I.stack,I.stkFree,I.hok|I.bare]
def Inv.after(I:#[8] H s)(h:CE X.stack X.prog X.w H s Q u s'):EP X Pc σ Q u s':=by
 erw[v,e,os,bare,un,hok,r,q]at h;erw[hh,g,d,t,c]at s';obtain rfl:c=s.os:=os;erw[v,e,I.call (h':=hh) (g':=g) (d':=d) (t':=t) (ch:=[]) un hok bare (λb z=>absurd z #[2]),r,q]
end
def Bi(sp:Sp)(b:List V)(E:XK)(t:TA):TE:=λσ H Q=>t σ H λvs c=>sp (vs++b) c Q E
instance ZtMeth(C:Addr)(m:Str)(sp:Sp)(dvs:List V)(E:XK)(t:TA)(σ:St)(Q:VK)(x:V)(H1:Hp):∀a dx fs,x=.ref a->H1 a=some (.ins C dx fs)->fs.lookup m=none->(t σ H1 λvs H2=>sp (x::(vs++dvs)) H2 Q E):=0
def JH(C:Addr)(m:Str)(sp:Sp)(b:List V)(E:XK)(c:TE)(t:TA):TE:=λσ H Q=>c σ H λx d=>ZtMeth C m sp b E t σ Q x d
def tMake(C:Addr)(sp:Sp)(c:List V)(E:XK)(t:TA):TE:=λσ H Q=>t σ H λvs d=>∀x b,d x=none->d b=none->b≠x ->
 sp (.ref x::(vs++c)) (upd (upd d b (.own x)) x (.ins C b [])) (λv e=>v=.non/\Q (.ref x) e) E
def Binds(K:W.Frag)(fd:FuncData)(ps:List Str)(b:List Value):Prop:=
 ∀(s:Shared)(us:List Value),K.In s.heap->(us++b).length=ps.length->BindsTo s fd %[us|[]] (ps.zip (us++b))
def Binds.all{K:W.Frag}{fd:FuncData}{ps:List Str}(h:∀us:List Value,us.length=ps.length->bindArgs fd %[us|[]]=pure (ps.zip us)):Binds K fd ps []:=λs us _ hl=>by
 rw[q9]at hl ⊢;exact .of_eq (h us hl)
def mo(CX:CXT)(X:Cx)(E:XK):Prop:=∀(Pc:#[7])(σ:St)(H:Hp)(s:Shared)(e:Value)(s':Shared),#[8] H s->CX X.stack H s E e s'->X.xe e s'
section
variable {X:Cx}{CX:CXT}{k:Nat}{f C:Addr}{fd:FuncData}{ps:List Str}{sp:Sp}{dvs:List V}{ds:List Value}{E:XK}{x m:Str}{p pos Pq:Pos}{e o:Expr}{es:List Expr}{ta:TE}{t:TA}
def wE{σ:St}{Q:VK}(F:FnOk X.prog X.w X.K X.mg X.base CX k f fd ps sp)(hr:Room k X.A)(hb:Binds X.K fd ps ds)(hd:Vals dvs ds)(d:mo CX X E)
 (I:#[8] H s)(r:Vals vs us)(h:sp (vs++dvs) H Q E):‹X.w› (call (.ref f) us) (EP X Pc σ Q) X.xe s:=by
 let c:Vals (vs++dvs) (us++ds):=r.append hd;let hl:(us++ds).length=ps.length:=by rw[←c.length];exact F.len _ _ _ _ h
 apply wpAny_call (Rg (F.run X.A X.stack s H %[us|[]] (us++ds) (vs++dvs) Q E hr I.env0 (hb s us I.kIn hl) c h) λr s' b=>?_);cases r with
 |error e=>exact d Pc σ H s e s' I b
 |ok g=>
   cases g with
   |ret u=>exact I.after b
   |next=>exact False.elim b
   |brk=>exact False.elim b
   |cont=>exact False.elim b
def IJ(F:FnOk X.prog X.w X.K X.mg X.base CX k f fd ps sp)(hr:Room k X.A)(hg:Gl X x)(g:X.mg x=some (.ref f))(j:PySem.W.keepIn X.K (.ref f)=true)(hb:Binds X.K fd ps ds)(hd:Vals dvs ds)(n:mo CX X E)
 (ha:PA X (e::es) t)(b:(x==("__debug__":Str))=false:=by decide)(he:starEach (e::es) X.env=(false,eval e X.env)::starEach es X.env:=by rfl)(c:(backTo pos (starEach es X.env)).any (·.1)=false:=by rfl):
 PE X (.Call (.Name x p) (e::es) [] pos) (Bi sp dvs E t):=by
 exists 4,Q,I,h;apply PV (rO I hg g ?_ b);apply RK (h₀:=X.base) I.ok.mod.kin j (thn (ha pos Pc s σ H _ I h) λus s1 ⟨vs,u,d,r,q⟩=>%[d.kIn|6]) he c;exact wE F hr hb hd n d r q
def Fu(F:FnOk X.prog X.w X.K X.mg X.base CX k f fd ps sp)(hr:Room k X.A)(hg:Gl X x)(c:X.mg x=some (.ref f))(d:PySem.W.keepIn X.K (.ref f)=true)(hb:Binds X.K fd ps ds)(hd:Vals dvs ds)(g:mo CX X E)
 (b:(x==("__debug__":Str))=false:=by decide):PE X (.Call (.Name x p) [] [] pos) (Bi sp dvs E Ik):=by
 exists 4,Q,I,h;apply PV (rO I hg c ?_ b);exact PySem.W.callWith_K0 I.kIn d (wE (us:=[]) F hr hb hd g I .nil h)
def cq{pl:Sem Bool}(he:PE X o ta)(c:Cls X.K C)(d:Meth X.K C m f)(F:FnOk X.prog X.w X.K X.mg X.base CX k f fd ps sp)(hr:Room k X.A)(hb:Binds X.K fd ps ds)(hd:Vals dvs ds)(v:mo CX X E)(ha:PA X (e::es) t)
 (Pi:starEach (e::es) X.env=(false,eval e X.env)::starEach es X.env:=by rfl)(b:(backTo pos (starEach es X.env)).any (·.1)=false:=by rfl)
 (y:eval (.Call (.Attribute o m Pq) (e::es) [] pos) X.env=(do
  let g ←eval o X.env
  standAt Pq.atName
  let(f,first) ←holding [g] (getMethod g m pl)
  callWith pos f first (backTo pos (starEach (e::es) X.env)) (backToKw pos (keywordEach [] X.env))):=by rfl) :
 PE X (.Call (.Attribute o m Pq) (e::es) [] pos) (JH C m sp dvs E ta t):=by
 exists 4,Q,I,h;apply PySem.W.methodCall_KW (pl:=pl) (thn (he Pc s σ H _ I h) λu s1 ⟨x,z,j,B,a,L,fs,ex,D,l,q⟩=>?_) y;subst ex;obtain rfl:u=Value.ref a:=B;apply uo j D c d l ?_;apply RK (first:=[.ref a]) (h₀:=X.base) I.ok.mod.kin d.kp (thn (ha pos Pc s1 σ z _ j q) λus M ⟨vs,N,n,r,J⟩=>%[n.kIn|6]) Pi b;exact wE (us:=.ref a::us) (vs:=.ref a::vs) F hr hb hd v n (.cons rfl r) J
def bt{pl:Sem Bool}(he:PE X o ta)(c:Cls X.K C)(d:Meth X.K C m f)(F:FnOk X.prog X.w X.K X.mg X.base CX k f fd ps sp)(hr:Room k X.A)(hb:Binds X.K fd ps ds)(hd:Vals dvs ds)(j:mo CX X E)
 (n:eval (.Call (.Attribute o m Pq) [] [] pos) X.env=(do
  let g ←eval o X.env
  standAt Pq.atName
  let(f,first) ←holding [g] (getMethod g m pl)
  callWith pos f first (backTo pos (starEach [] X.env)) (backToKw pos (keywordEach [] X.env))):=by rfl) :
 PE X (.Call (.Attribute o m Pq) [] [] pos) (JH C m sp dvs E ta Ik):=by
 exists 4,Q,I,h;apply PySem.W.methodCall_KW (pl:=pl) (thn (he Pc s σ H _ I h) λu s1 ⟨x,y,b,r,a,z,fs,ex,v,l,q⟩=>?_) n;subst ex;obtain rfl:u=Value.ref a:=r;apply uo b v c d l ?_;exact PySem.W.callWith_K0 (first:=[.ref a]) b.kIn d.kp (wE (us:=[.ref a]) (vs:=[.ref a]) F hr hb hd j b (.cons rfl .nil) q)
structure Mk(K:W.Frag)(C f:Addr):Prop where
 makes:PySem.W.makesIn K C=true
 init:PySem.W.findIn K (.ref C) "__init__"=some (some (.ref f))
 fn:PySem.W.isFn K (.ref f)=true
 kp:PySem.W.keepIn K (.ref C)=true
def EY{σ:St}{Q:VK}(M:Mk X.K C f)(F:FnOk X.prog X.w X.K X.mg X.base CX k f fd ps sp)(hr:Room (k+1) X.A)(hb:Binds X.K fd ps ds)(hd:Vals dvs ds)
 (n:mo CX X E)(I:#[8] H s)(r:Vals vs us)
 (h:∀x c,H x=none->H c=none->c≠x->sp (.ref x::(vs++dvs)) (upd (upd H c (.own x)) x (.ins C c [])) (λv q=>v=.non/\Q (.ref x) q) E):
 ‹X.w› (call (.ref C) us) (EP X Pc σ Q) X.xe s:=by
 let g:=h (‹s›+1) ‹s› (I.hok.fresh (n9 _)) (I.hok.fresh (eS _)) (i2 (Px _));let d:=Inv.made (C:=C) I;let j:Vals (V.ref (‹s›+1)::(vs++dvs)) (Value.ref (‹s›+1)::(us++ds)):=.cons rfl (r.append hd);let hl:(Value.ref (‹s›+1)::us++ds).length=ps.length:=by
  let e:=j.length;rw[F.len _ _ _ _ g]at e;exact e.symm
 apply wpAny_call (Go (f:=f) I.kIn M.makes M.init (beq_iff_eq.mp M.fn) (Rg (F.run _ X.stack _ _ %[Value.ref (‹s›+1)::us|[]] (Value.ref (‹s›+1)::(us++ds)) _ _ E (hr.make C us [])
  (d.env0.make C us []) (hb _ (Value.ref (‹s›+1)::us) d.kIn hl) j g) λr s' b=>?_))
 cases r with
 |error e=>exact n Pc σ _ _ e s' d b
 |ok y=>
   cases y with
   |ret u=>
     let%[v,z,B,D,J|L]:=d.after b;subst J;erw[D,%[V.ref (‹s›+1),z,B,1|L]]
   |next=>exact False.elim b
   |brk=>exact False.elim b
   |cont=>exact False.elim b
def iN(M:Mk X.K C f)(F:FnOk X.prog X.w X.K X.mg X.base CX k f fd ps sp)(hr:Room (k+1) X.A)(hg:Gl X x)(g:X.mg x=some (.ref C))(hb:Binds X.K fd ps ds)(hd:Vals dvs ds)(j:mo CX X E)
 (ha:PA X (e::es) t)(b:(x==("__debug__":Str))=false:=by decide)(he:starEach (e::es) X.env=(false,eval e X.env)::starEach es X.env:=by rfl)(c:(backTo pos (starEach es X.env)).any (·.1)=false:=by rfl):
 PE X (.Call (.Name x p) (e::es) [] pos) (tMake C sp dvs E t):=by
 exists 4,Q,I,h;apply PV (rO I hg g ?_ b);apply RK (h₀:=X.base) I.ok.mod.kin M.kp (thn (ha pos Pc s σ H _ I h) λus s1 ⟨vs,n,d,r,q⟩=>%[d.kIn|6]) he c;exact EY M F hr hb hd j d r q
end
structure FnScope(N P:List Str)(sc:Scope):Prop where
 kind:sc.kind=.function
 co:sc.isCoroutine=false
 gen:sc.isGenerator=false
 nd:N.Nodup
 pre:N.take P.length=P
 par:∀x∈P,sc.names.lookup x=some .local∨sc.names.lookup x=some .cell
 nofree:∀y∈sc.names,y.2≠.free
def vD{kindOf:Str->Option NameKind}{x:Str}:∀{binds:List (Str×Value)}{m:#[9]},(∀v,(x,v)∉binds)->bindL kindOf binds m x=m x
 | [],_,_=>rfl
 | (n,v)::r,m,h=>by
   unfold bindL;rw[vD λw hw=>h w (mj _ hw)]
   split
   . have:x≠n:=by rintro rfl;exact h v kb
     simp [this]
   . rfl
def vF{kindOf:Str->Option NameKind}{x:Str}:∀{binds:List (Str×Value)}{m:#[9]},(∀v,(x,v)∉binds)->bindC kindOf binds m x=m x
 | [],_,_=>rfl
 | (n,v)::r,m,h=>by
   unfold bindC;rw[vF λw hw=>h w (mj _ hw)]
   split
   . rfl
   . have:x≠n:=by rintro rfl;exact h v kb
     simp [this]
def vE{kindOf:Str->Option NameKind}{x:Str}{v:Value}:∀{P:List Str}{vs:List Value}{i:Nat}{m:#[9]},P.Nodup->P[i]?=some x->vs[i]?=some v->kindOf x=some .local ->
 bindL kindOf (P.zip vs) m x=some v
 | [],_,_,_,_,h,_,_=>by simp at h
 |_::_,[],_,_,_,_,h,_=>by simp at h
 |p::P,w::vs,0,m,nd,h1,h2,b=>by
   simp at h1 h2;subst h1;subst h2
   show bindL kindOf ((p,w)::P.zip vs) m p=_;unfold bindL;rw[vD λv c=>(List.nodup_cons.mp nd).1 (List.of_mem_zip c).1,Pe b]
   simp
 |p::P,w::vs,i+1,m,nd,h1,h2,b=>by
   show bindL kindOf ((p,w)::P.zip vs) m x=_;unfold bindL;exact vE (i:=i) (List.nodup_cons.mp nd).2 #[h1,0] #[h2,0] b
def vG{kindOf:Str->Option NameKind}{x:Str}{v:Value}:∀{P:List Str}{vs:List Value}{i:Nat}{m:#[9]},P.Nodup->P[i]?=some x->vs[i]?=some v->kindOf x≠some .local ->
 bindC kindOf (P.zip vs) m x=some v
 | [],_,_,_,_,h,_,_=>by simp at h
 |_::_,[],_,_,_,_,h,_=>by simp at h
 |p::P,w::vs,0,m,nd,h1,h2,b=>by
   simp at h1 h2;subst h1;subst h2
   show bindC kindOf ((p,w)::P.zip vs) m p=_;unfold bindC;rw[vF λv c=>(List.nodup_cons.mp nd).1 (List.of_mem_zip c).1,Pd b]
   simp
 |p::P,w::vs,i+1,m,nd,h1,h2,b=>by
   show bindC kindOf ((p,w)::P.zip vs) m x=_;unfold bindC;exact vG (i:=i) (List.nodup_cons.mp nd).2 #[h1,0] #[h2,0] b
def qN(N:List Str)(vs:List V):St:=vs.map some++List.replicate (N.length-vs.length) none
def DX(CX:CXT)(P:Program)(w:World)(K:W.Frag)(mg:#[9])(base:Heap)(N:List Str)(qual:Str)(scope:Scope)(f:Addr)(cd:Value)(A:Around)(outer:List Env)(s:Shared)(H:Hp)(E:XK):Cx where
 prog:=P
 w:=w
 K:=K
 mg:=mg
 base:=base
 A:=A.deeper (envOfC qual scope ‹s› f cd)
 N:=N
 s₀:=s
 H₀:=H
 env:=envOfC qual scope ‹s› f cd
 outer:=outer
 stack:=envOfC qual scope ‹s› f cd::outer
 ex:=[]
 calm:=true
 fn:=λ_=>true
 pn:=[]
 xe:=λe s'=>wpAny (model P w) (A.deeper (envOfC qual scope ‹s› f cd)) (leaving (envOfC qual scope ‹s› f cd) e) (λ_ b=>CX outer H s E e b) (λc b=>CX outer H s E c b) s'
def zk{b:Scope}{n:Nat}{x:Str}(h:b.names.lookup x=some .cell):∃c,(cellsFrom n b.names []).lookup x=some c:=by
 let q:=PySem.W.cellsFrom_some b.names n [] (.inl h);exact Option.isSome_iff_exists.mp q
def DH{K:W.Frag}{qual:Str}{f:Addr}{cd:Value}{A:Around}{s1:Shared}{vs:List V}
 (S:FnScope N ps scope)(hd:A.handled=none)(e0:Env0 P w K mg base A outer s H)(hl:vs.length=ps.length)(r:Vals vs us)
 (x:InCallC s ‹s› (bindL (envOfC qual scope ‹s› f cd).kindOf (ps.zip us) λ_=>none) (cellsFrom (‹s›+1) scope.names []) (bindC (envOfC qual scope ‹s› f cd).kindOf (ps.zip us) λ_=>none) s1):
 Inv (DX CX P w K mg base N qual scope f cd A outer s H E) [] (qN N vs) H s1:=by
 let C:ps.length<=N.length:=by have:=congrArg List.length S.pre;rw[kr]at this;omega
 erw[h1,J,1,t]at x.done;let d:∀b:Addr,b∉(DX CX P w K mg base N qual scope f cd A outer s H E).ex:=λb z=>absurd (show b∈([]:List Addr)from z) #[2]
 erw[%[e0.mod,S.kind,1,1,eS _,λy z c h1 h2=>?_,λy g=>?_,λy c _ h=>?_,λ_=>hd,Around.frames_deeper e0.frames,.inr %[1|1],λb z=>absurd z (d b),e0.bs,e0.bsz,λb _ _=>d b,λb z=>absurd z (d b),e0.funs|e0.frf],1,e0.bare,Un.kept t,%[_,x.toInCall.ns|λi y v h1 h2 h3=>?_],λy c h=>%[_|x.cell y c h],e0.hok.fresh (eS _),λy c h=>?_,λp j=>absurd (show p∈([]:#[7])from j) #[2],e0.hok.kept t,6]
 . exact name_of_addr x.apart (Pt h1) (Pt h2)
 . let g:scope.names.lookup y=some .cell∨scope.names.lookup y=some .free:=g;rcases g with g | g
   . exact zk g
   . exact absurd rfl (S.nofree _ (Pt g))
 . exact QA (x.above y c (Pt h))
 . let o:i<vs.length:=by
    unfold qN at h2
    by_cases o:i<vs.length
    . exact o
    . rw [yl #[o,0]]at h2;rw[List.getElem?_replicate]at h2
      split at h2 <;> cases h2
   let ha:vs[i]?=some v:=by
    unfold qN at h2;rw[PF #[o,0],hI]at h2;cases e:vs[i]? with
    |none=>rw[e]at h2;cases h2
    |some a=>rw[e]at h2;cases h2;rfl
   let%[u,B|D]:=r.get ha;let j:ps[i]?=some y:=by
    rw[←S.pre,List.getElem?_take_of_lt #[0]];exact h1
   let m:ps.Nodup:=by rw[←S.pre];exact S.nd.sublist (List.take_sublist _ _)
   erw[u,D,6];rcases S.par y (ms j)with k | k
   . exact .inl %[k|vE m j B k]
   . let%[c|e]:=zk (n:=‹s›+1) k;refine .inr %[.inl k,c,e|6];let q:=x.cell y c e;rw[vG m j B (by show scope.names.lookup y≠_;rw[k];decide)]at q;exact q
 . exact e0.hok.fresh (QA (x.above y c (Pt h)))
 . unfold qN;show _=N.length;rw[fm,d8,O3];omega
def fn_of{K:W.Frag}{f:Addr}{name qual:Str}{params:Arguments}{body:List Stmt}{scope:Scope}{M kV m O cdv ct Y:Value}{U od:Option Addr}
 {B:Array (Option Value)}{sp:Sp}(lk:K.lookup f=some %[Y,od,.func (PySem.W.fnOf name qual params body scope M kV m O U cdv ct)|B])(C:PySem.W.codeIn K cdv qual=true)(S:FnScope N ps scope)
 (len:∀vs H Q E,sp vs H Q E->vs.length=ps.length)
 (d:∀(A:Around)(outer:List Env)(s:Shared)(H:Hp)(vs:List V)(Q:VK)(E:XK),Room k (A.deeper (envOfC qual scope ‹s› f cdv))->sp vs H Q E ->
  ∃t,PSs (DX CX P w K mg base N qual scope f cdv A outer s H E) body t/\t { nx:=λ_ c=>Q .non c,rt:=Q } (qN N vs) H) :
 FnOk P w K mg base CX (k+1) f (PySem.W.fnOf name qual params body scope M kV m O U cdv ct) ps sp:=by
 erw[len,λA outer s H args us vs Q E hr e0 hb r z=>?_];let hl:=len _ _ _ _ z;let KX:K.In s.heap:=e0.mod.kin.keeps λb o e=>(e0.bs b o e).1
 let D:s.heap.NoLimit:=e0.mod.nolimit.keeps λb o e=>(e0.bs b o e).1
 let g:∀y∈ps.zip us,scope.names.lookup y.1=some .local∨(scope.names.lookup y.1=some .cell/\((cellsFrom (‹s›+1) scope.names []).lookup y.1).isSome=true):=fun⟨n,v⟩ hy=>by
  rcases S.par n (List.of_mem_zip hy).1 with q | q
  . exact .inl q
  . exact .inr %[q|PySem.W.cellsFrom_some _ _ _ (.inl q)]
 apply codeAny_call_function hr.depth (KX _ _ lk) rfl S.co S.gen rfl (PySem.W.codeRec_of KX C) (hb _ _ _ _ ?_);apply wpAny_newFunctionEnv_cells S.kind g λenv he s1 x=>?_
 subst he;erw[D.keeps x.toInCall.keep,codeAny_func ?_];let%[t,ht|hq]:=d A outer s H vs Q E (hr.deeper _) z;let I:Inv (DX CX P w K mg base N qual scope f cdv A outer s H E) [] (qN N vs) H s1:=DH S hr.hd e0 hl r x;apply OA (ht [] s1 (qN N vs) H _ I hq) (λfl s' j=>?_) λe s' j=>j
 let fin:∀{σ':St}{c:Hp}{v:V}{u:Value},Inv (DX CX P w K mg base N qual scope f cdv A outer s H E) [] σ' c s'->RelV v u->Q v c->CE outer P w H s Q u s':=
  fun{σ' c v u} J L q=>%[v,c,J.os,J.bare,J.base,J.hok,L|q]
 cases fl with
 |ret u=>
   erw[v,σ',c,J,L,q]at j;exact fin J L q
 |next=>
   erw[σ',c,J,q]at j;exact fin (v:=V.non) (u:=Value.none) J rfl q
 |brk=>
   erw[_,_,_,q]at j;exact False.elim q
 |cont=>
   erw[_,_,_,q]at j;exact False.elim q
section
variable {X:Cx}{x:Str}{p pos:Pos}{e:Expr}{es:List Expr}{t:TA}{id T:String}{r:List V->Hp->VK->Prop}
def tCB(r:List V->Hp->VK->Prop)(t:TA):TE:=λσ H Q=>t σ H λvs b=>r vs b Q
def aG(hc:jm X (.builtin id) r)(hg:Gl X x)(d:X.mg x=none)(g:bootBuiltins x=some (.builtin id))(ha:PA X (e::es) t)(j:x≠"__name__":=by decide)(b:(x==("__debug__":Str))=false:=by decide)
 (he:starEach (e::es) X.env=(false,eval e X.env)::starEach es X.env:=by rfl)(c:(backTo pos (starEach es X.env)).any (·.1)=false:=by rfl):PE X (.Call (.Name x p) (e::es) [] pos) (tCB r t):=by
 exists 4,Q,I,h;apply PV (jh I hg d g ?_ j b);exact PyProof.Rows.callWith_builtin1 (thn (ha pos Pc s σ H _ I h) λus s1 ⟨vs,m,n,r1,o⟩=>hc Pc s1 σ m vs us Q n r1 o) he c
def aX(hc:jm X (.type T) r)(hg:Gl X x)(d:X.mg x=none)(g:bootBuiltins x=some (.type T))(ha:PA X (e::es) t)(j:x≠"__name__":=by decide)(b:(x==("__debug__":Str))=false:=by decide)
 (he:starEach (e::es) X.env=(false,eval e X.env)::starEach es X.env:=by rfl)(c:(backTo pos (starEach es X.env)).any (·.1)=false:=by rfl):PE X (.Call (.Name x p) (e::es) [] pos) (tCB r t):=by
 exists 4,Q,I,h;apply PV (jh I hg d g ?_ j b);exact O2 (thn (ha pos Pc s σ H _ I h) λus s1 ⟨vs,m,n,r1,o⟩=>hc Pc s1 σ m vs us Q n r1 o) he c
end
end L2
namespace HT
open PySem PyProof.Rows
section
variable {prog:Program}{w:World}{A:Around}{E:#[6]}{s:Shared}
def cat_tup{t b:Addr}{vs ws:List Value}{Q:#[6]}(y:IsTup s.heap t vs.toArray)(hb:IsTup s.heap b ws.toArray)(q:vs≠[])
 (h1:ws=[]->Q (.ref t) s)(h2:ws≠[]->Q (.ref ‹s›) { s with heap:=s.heap.push { cls:=.type "tuple",data:=.seq (vs++ws).toArray } })
 (hsz:vs.length+ws.length<=sizeLine):‹w.A› (binaryOp .Add (.ref t) (.ref b)) Q E s:=by
 let%[%[cls,r,data|u],o,hc,n|hd]:=id y;let%[%[v,d,data2|g],c,j,x|m]:=id hb;simp only at hc hd j m;subst hc hd j m;let e:vs.toArray++ws.toArray=(vs++ws).toArray:=by simp
 by_cases hw:ws=[]
 . exact concat_meets %[_,o|1] ⟨_,c,rfl⟩ RZ seq_tuple_add Ru Rt (Rs _ _)
    (tuple_addW1 t b vs.toArray ws.toArray n x r d u g #[q,0] (by simp [hw])) %[o,c|h1 hw]
 . apply concat_meets %[_,o|1] ⟨_,c,rfl⟩ RZ seq_tuple_add Ru Rt (Rs _ _)
    (tuple_addW2 t b vs.toArray ws.toArray n x r d u g #[q,0] #[hw,0] (by rw[js,js];exact hsz)) %[o,c|6]
   rw[e];exact h2 hw
def sIx(n d:Nat):Option Int->Nat
 |none=>d
 |some v=>if v<0 then(v+(n:Int)).toNat else min v.toNat n
def sIx_none(n d:Nat):sIx n d none=d:=rfl
def sIx_nat(n d k:Nat):sIx n d (some (k:Int))=min k n:=by
 show(if(k:Int)<0 then((k:Int)+(n:Int)).toNat else min (k:Int).toNat n)=min k n;rw[Pd #[0],pu]
def Ks(n d:Nat)(hd:d<=n)(o:Option Int):sIx n d o<=n:=by
 cases o with
 |none=>exact hd
 |some v=>
   show(if v<0 then(v+(n:Int)).toNat else min v.toNat n)<=n
   by_cases b:v<0
   . rw[Pe b];omega
   . rw[Pd b];exact Nat.min_le_right _ _
def Cg(v:Int)(n d:Nat):(if v<0 then max (v+(n:Int)) 0 else min v (n:Int))=((sIx n d (some v):Nat):Int):=by
 show(if v<0 then max (v+(n:Int)) 0 else min v (n:Int))=(((if v<0 then(v+(n:Int)).toNat else min v.toNat n):Nat):Int)
 by_cases b:v<0
 . simp only[Pe b];omega
 . simp only[Pd b];omega
def Bc(lo b:Option Int)(n:Nat):Builtin.Slice.sliceAdjust lo b 1 (n:Int)=(((sIx n 0 lo:Nat):Int),((sIx n n b:Nat):Int)):=by
 let h1:¬ ((1:Int)<0):=#[0]
 unfold Builtin.Slice.sliceAdjust;simp only[h1,if_false];apply Prod.ext ?_ ?_
 . cases lo with
   |none=>rfl
   |some v=>exact Cg v n 0
 . cases b with
   |none=>rfl
   |some v=>exact Cg v n n
def Ab(i j:Nat):Builtin.Slice.slicePlaces (i:Int) (j:Int) 1=j-i:=by
 unfold Builtin.Slice.slicePlaces;let h1:(1:Int)>0:=#[0]
 simp only[h1,PD,Int.ediv_one]
 split <;> omega
def sI{v:Value}{o:Option Int}{Q:Option Int->Shared->Prop}(p:IsPart v o)(h:Q o s):‹w.A› (Builtin.Slice.slicePartIndex v) Q E s:=by
 cases p with
 |none=>exact slicePart_none h
 |int i t=>exact slicePart_int h
def qb{j:Addr}{e g:Value}{lo b:Option Int}{Q:Int×Int×Nat->Shared->Prop}(m:s.heap.IsSliceOf j e g .none)(pl:IsPart e lo)(o:IsPart g b)
 (h:Q (((sIx n 0 lo:Nat):Int),1,sIx n n b-sIx n 0 lo) s):‹w.A› (Builtin.Slice.sliceApplied (.ref j) (pure (n:Int))) Q E s:=by
 let%[os,c,q|d]:=id m;unfold Builtin.Slice.sliceApplied Builtin.Slice.sliceFields;apply eC (eC (oj c d (x:=e) rfl (eC (oj c d (x:=g) rfl (eC (oj c d (x:=.none) rfl (fu ?_)))))));apply eC (slicePart_none ?_);show wpAny _ _ (if((1:Int)==0)=true then _ else _) _ _ s;rw[Pd ⋯];apply eC (sI pl (eC (sI o (eC (fu ?_)))));show wpAny _ _ (match Builtin.Slice.sliceAdjust lo b 1 (n:Int)with | (lo,b)=>pure (lo,(1:Int),Builtin.Slice.slicePlaces lo b 1)) _ _ s;rw[Bc lo b n];show wpAny _ _ (pure (((sIx n 0 lo:Nat):Int),(1:Int),Builtin.Slice.slicePlaces ((sIx n 0 lo:Nat):Int) ((sIx n n b:Nat):Int) 1)) _ _ s;rw[Ab];exact fu h
def Fl(xs:Array Value)(i k:Nat):((List.range k).filterMap fun(m:Nat)=>xs[((i:Int)+(m:Int)*1).toNat]?).toArray=((xs.toList.drop i).take k).toArray:=by
 let e:(fun(m:Nat)=>xs[((i:Int)+(m:Int)*1).toNat]?)=λm=>xs[i+m]?:=by
  funext m
  have:((i:Int)+(m:Int)*1).toNat=i+m:=#[0]
  rw[this]
 rw[e]
 have:=pick_run xs i k
 rw[List.filterMap_map]at this;let e2:((λx=>xs[x]?) ∘ λx=>i+x)=λm=>xs[i+m]?:=rfl
 rw[e2]at this;rw[this]
def getItem_tuple_cut{t e:Addr}{items:Array Value}{r u:Value}{lo c:Option Int}{Q:#[6]}(d:IsTup s.heap t items)(v:s.heap.IsSliceOf e r u .none)(pl:IsPart r lo)(x:IsPart u c)
 (hw:¬ (sIx items.size 0 lo=0/\sIx items.size items.size c=items.size))
 (h:Q (.ref ‹s›) { s with heap:=s.heap.push { cls:=.type "tuple",data:=.seq ((items.toList.drop (sIx items.size 0 lo)).take (sIx items.size items.size c-sIx items.size 0 lo)).toArray } })
 (hsz:items.size<=sizeLine):‹w.A› (getItem (.ref t) (.ref e)) Q E s:=by
 let b:sizeOk (.seq ((items.toList.drop (sIx items.size 0 lo)).take (sIx items.size items.size c-sIx items.size 0 lo)).toArray):=by
  show((items.toList.drop (sIx items.size 0 lo)).take (sIx items.size items.size c-sIx items.size 0 lo)).toArray.size<=sizeLine;rw[js,kr,QW,Ps];omega
 let z:sIx items.size items.size c<=items.size:=Ks _ _ (eS _) c;let%[os,g,j|y]:=id v;let n:s.TypeIs (.ref e) "slice":=%[os,g|j]
 unfold getItem
 try with_reducible apply Qj ?_
 first | apply eC (fu ?_) | skip
 apply eC (wpAny_sequenceKey d.typeIs ⋯ ?_);apply eC (PH (name:=Str.ofString "__getitem__") d.typeIs Sd
  (Py Sd d.typeIs entry_tuple_getitem ?_ (args_tuple_getitem _ _)))
 show wpAny _ _ (Builtin.Tuple.tupleItemsOf (.ref t) >>= _) _ _ s;apply eC (tupleItemsOf_ d ?_);apply eC (wpAny_typeOf n ?_);rw[Pe ⋯];apply eC (qb v pl x ?_);let o:¬ ((((sIx items.size 0 lo:Nat):Int)==0&&(1:Int)==1&&(sIx items.size items.size c-sIx items.size 0 lo)==items.size)=true):=by
  intro q;rw[PL,PL]at q;let B:((sIx items.size 0 lo:Nat):Int)=0:=eq_of_beq q.1.1;let C:sIx items.size items.size c-sIx items.size 0 lo=items.size:=eq_of_beq q.2;exact hw %[3|3]
 show wpAny _ _ (if(((sIx items.size 0 lo:Nat):Int)==0&&(1:Int)==1&&(sIx items.size items.size c-sIx items.size 0 lo)==items.size)=true then _ else _) _ _ s;rw[Pd o,Fl]
 first
  |exact eC (m:=Builtin.Tuple.tupleExact _) (rx (fu ⟨_,rfl,fu h⟩) b)
  |exact eC (m:=Builtin.Tuple.tupleExact _) (rx (eC (fu (fu ⟨_,rfl,fu h⟩))) b)
  |exact eC (eC (m:=Builtin.Tuple.tupleExact _) (rx (fu (fu ⟨_,rfl,fu h⟩)) b))
  |exact eC (eC (m:=Builtin.Tuple.tupleExact _) (rx (fu ⟨_,rfl,fu h⟩) b))
end
end HT
namespace L2
open PySem PySem.Spec PyProof.Rows
abbrev TO:=St->Hp->(Option Int->Hp->Prop)->Prop
def PO(X:Cx)(e:Option Expr)(t:TO):Prop:=
 ∀(Pc:#[7])(s:Shared)(σ:St)(H:Hp)(Q:Option Int->Hp->Prop),#[8] H s->t σ H Q ->
  ‹X.w› (evalPart e X.env) (λu s'=>∃o b,#[8] b s'/\IsPart u o/\Q o b) X.xe s
def Ij:TO:=λ_ H Q=>Q none H
instance ZtPart(Q:(Option Int->Hp->Prop))(x:V)(H1:Hp):∀i,x=.int i->Q (some i) H1:=0
def tPart(t:TE):TO:=λσ H Q=>t σ H λx b=>ZtPart Q x b
section
variable {X:Cx}{e:Expr}{te:TE}{lo hi:Option Expr}{tl th:TO}{pos p2:Pos}
def kQ:PO X none Ij:=by
 exists 4,Q,I,h;rw[evalPart_none];exact fu %[none,H,I,.none|h]
def gl(h:PE X e te):PO X (some e) (tPart te):=by
 exists 4,Q,I,hw;rw[evalPart_some];apply thn (h Pc s σ H _ I hw) λu s1 ⟨x,b,c,r1,d⟩=>?_
 erw[i,1,q]at d;erw[t,1]at r1;erw[some i,b,c,.int i t,q]
def SlR(X:Cx)(r:V->Option Int->Option Int->Hp->VK->Prop):Prop:=
 ∀(Pc:#[7])(s:Shared)(σ:St)(H:Hp)(x:V)(v b c:Value)(lo hi:Option Int)(d:Addr)(Q:VK),#[8] H s->RelV x v->s.heap.IsSliceOf d b c .none->IsPart b lo->IsPart c hi->r x lo hi H Q ->
  ∃T id,typeLookup (.type T) "__getitem__"=pure (some (.builtin id))/\s.TypeIs v T/\‹X.w› (getItem v (.ref d)) (EP X Pc σ Q) X.xe s
def tSl(r:V->Option Int->Option Int->Hp->VK->Prop)(te:TE)(tl th:TO):TE:=λσ H Q=>te σ H λx b=>tl σ b λl c=>th σ c λu d=>r x l u d Q
def gn(hr:SlR X r)(he:PE X e te)(hl:PO X lo tl)(m:PO X hi th):PE X (.Subscript e (.Slice lo hi none p2) pos) (tSl r te tl th):=by
 exists 4,Q,I,h;apply Subscript_ (thn (he Pc s σ H _ I h) λv s1 ⟨x,n,o,r1,t⟩=>?_);apply wpAny_Slice (thn (hl Pc s1 σ n _ o t) λd y ⟨l,z,B,pl,C⟩=>thn (m Pc y σ z _ B C) λg c ⟨u,j,D,J,L⟩=>?_);rw[evalPart_none];apply fu ?_;let M:#[8] j { c with heap:=c.heap.push { cls:=.type "slice",data:=.fields #[d,g,.none] } }:=D.kept (t':=c.toks) λb O q=>gz _ q
 let%[T,id,hT,N|hg]:=hr Pc { c with heap:=c.heap.push { cls:=.type "slice",data:=.fields #[d,g,.none] } } σ j x v d g l u ‹c› Q M r1 (Heap.IsSliceOf.new ..) pl J L;show ‹X.w› (subscriptTail e (.Slice lo hi none p2) v (.ref ‹c›)) (EP X Pc σ Q) X.xe { c with heap:=c.heap.push { cls:=.type "slice",data:=.fields #[d,g,.none] } };exact tail_any (ops:=[.ref ‹c›,v]) N hT hg (by rfl')
def nK(xs:List V)(lo hi:Option Int):List V:=(xs.drop (HT.sIx xs.length 0 lo)).take (HT.sIx xs.length xs.length hi-HT.sIx xs.length 0 lo)
def rk(xs:List V)(lo hi:Option Int):(nK xs lo hi).length<=xs.length:=by
 unfold nK;rw[kr,QW];omega
instance rSlT(K:W.Frag)(x:V)(lo:Option Int)(hi:Option Int)(H:Hp)(Q:VK):∀a xs,x=.ref a->SqT K H a xs->(¬ (HT.sIx xs.length 0 lo=0/\HT.sIx xs.length xs.length hi=xs.length))->(∀p,H p=none->Q (.ref p) (upd H p (.tup (nK xs lo hi)))):=0
def sJ:SlR X (rSlT X.K):=by
 exists 4,x,v,u,y,lo,hi,z,Q,I,j,m,pl,n,h;erw[a,xs,1,t,hw,q]at h;cases j;let%[its,r,d|g]:=I.tuple t;let c:its.toArray.size=xs.length:=by rw[js];exact r.length.symm
 erw["tuple",_,PyProof.Rows.slot_tuple_getitem.lookup,d.typeIs,6];apply HT.getItem_tuple_cut d m pl n (by rw[c];exact hw) ?_ (by rw[c];exact g);rw[c];erw[.ref ‹s›,_,I.laid (t':=s.toks) (o:=.tup (nK xs lo hi)) (λb B q=>gz _ q) (eS _) ?_,1,q _ (I.hok.fresh (eS _))];erw[hE (rk xs lo hi) g,_,(r.drop (HT.sIx xs.length 0 lo)).take (HT.sIx xs.length xs.length hi-HT.sIx xs.length 0 lo),IsTup.new _ _,_,kv _ rfl,1]
instance rCatT(K:W.Frag)(x:V)(y:V)(H:Hp)(Q:VK):∀a b xs ys,x=.ref a->y=.ref b->SqT K H a xs->SqT K H b ys->xs≠[]->xs.length+ys.length<=sizeLine->(ys=[]->Q (.ref a) H)->(ys≠[]->∀p,H p=none->Q (.ref p) (upd H p (.tup (xs++ys)))):=0
def Vals.nil_iff(r:Vals xs us):us=[]↔xs=[]:=by
 cases r with
 |nil=>simp
 |cons _ _=>simp
def op_catT:OpR X (binaryOp .Add) (rCatT X.K):=by
 exists 4,x,y,v,u,Q,I,j,m,h;erw[a,b,xs,ys,1,1,ha,hb,n,d,r,t]at h;cases j;cases m;let%[its,r1,B|_]:=I.tuple ha;let%[g,c,p2|_]:=I.tuple hb;apply HT.cat_tup B p2 (λz=>n (r1.nil_iff.mp z)) (λz=>%[.ref a,H,I,1|r (c.nil_iff.mp z)]) (λz=>?_) (by rw[←r1.length,←c.length];exact d);erw[.ref ‹s›,_,I.laid (t':=s.toks) (o:=.tup (xs++ys)) (λb C q=>gz _ q) (eS _) ?_,1,t (λw=>z (c.nil_iff.mpr w)) _ (I.hok.fresh (eS _))];erw[by rw[fm];exact d,_,r1.append c,IsTup.new _ _,_,kv _ rfl,1]
end
def ixN(n:Nat)(i:Int):Option Nat:=if 0<=i then(if i<n then some i.toNat else none)else if -(n:Int)<=i then some (i+n).toNat else none
def atI{α:Type}(xs:List α)(i:Int):Option α:=(ixN xs.length i).bind λj=>xs[j]?
def xy{j:Nat}(h:ixN n i=some j):seqIndex? i n=some j/\j<n/\-(n:Int)<=i/\i<n:=by
 unfold ixN at h
 by_cases h0:0<=i
 . rw [Pe h0]at h
   by_cases h1:i<n
   . rw[Pe h1]at h;let e:i.toNat=j:=j3 h;erw[by rw[seqIndex_of h0 h1,e],3,3,h1]
   . rw[Pd h1]at h;cases h
 . rw [Pd h0]at h
   by_cases h1:-(n:Int)<=i
   . rw[Pe h1]at h;let e:(i+n).toNat=j:=j3 h;erw[by rw[seqIndex_neg #[0] h1,e],3,h1,3]
   . rw[Pd h1]at h;cases h
def xJ{α:Type}{xs:List α}{v:α}(h:atI xs i=some v):∃j,seqIndex? i xs.length=some j/\xs[j]?=some v/\j<xs.length/\-(xs.length:Int)<=i/\i<xs.length:=by
 unfold atI at h;cases e:ixN xs.length i with
 |none=>rw[e]at h;cases h
 |some j=>
   rw[e]at h;let%[h1,h2,h3|h4]:=xy e;erw[j,h1,h,h2,h3,h4]
def cX{α:Type}{xs:List α}{j:Nat}{v:α}(h:xs[j]?=some v):atI xs (j:Int)=some v:=by
 let b:j<xs.length:=(Pl h).1;let e:ixN xs.length (j:Int)=some j:=by
  unfold ixN;rw[Pe #[0],Pe #[0]];simp
 unfold atI;rw[e];exact h
def zr{α:Type}(xs:List α)(v:α):atI (xs++[v]) (-1)=some v:=by
 let hl:(xs++[v]).length=xs.length+1:=by simp
 let e:ixN (xs++[v]).length (-1)=some xs.length:=by
  unfold ixN;rw[hl,Pd ⋯,Pe #[0]]
  congr 1
  omega
 unfold atI;rw[e];show(xs++[v])[xs.length]?=some v
 simp
def JD(b:Expr):Prop:=∀o i,subscripted b false o i=operate [o,i] (getItem o i)
def IxR(X:Cx)(r:R2):Prop:=
 ∀(value slice:Expr)(Pc:#[7])(s:Shared)(σ:St)(H:Hp)(x y:V)(v u:Value)(Q:VK),#[8] H s->RelV x v->RelV y u->r x y H Q ->
  subscripted slice false v u=operate [v,u] (getItem v u)->‹X.w› (subscriptTail value slice v u) (EP X Pc σ Q) X.xe s
def MtR(X:Cx)(id:String)(r:V->List V->Hp->VK->Prop):Prop:=
 ∀(Pc:#[7])(s:Shared)(σ:St)(H:Hp)(x:V)(xs:List V)(v:Value)(us:List Value)(Q:VK),#[8] H s->RelV x v->Vals xs us->r x xs H Q ->
  ‹X.w› (call (.builtin id) (v::us)) (EP X Pc σ Q) X.xe s
section
variable {X:Cx}{a b:Expr}{ta tb:TE}{pos:Pos}
def IxR.or(h:IxR X r)(h':IxR X g):IxR X (λx y H Q=>r x y H Q∨g x y H Q):=by
 intro value slice Pc s σ H x y v u Q I c d q e;rcases q with q | q
 . exact h value slice Pc s σ H x y v u Q I c d q e
 . exact h' value slice Pc s σ H x y v u Q I c d q e
def aO(hr:IxR X r)(ha:PE X a ta)(hb:PE X b tb)(c:JD b):PE X (.Subscript a b pos) (tOp r ta tb):=by
 exists 4,Q,I,h;exact Subscript_ (Lv ha hb I h λv u d x y e g j m q=>hr a b Pc d σ e x y v u Q g j m q (c _ _))
instance rIxL(K:W.Frag)(x:V)(y:V)(H:Hp)(Q:VK):∀p xs i v,x=.ref p->y=.int i->SqL K H p xs->atI xs i=some v->Q v H:=0
instance rIxT(K:W.Frag)(x:V)(y:V)(H:Hp)(Q:VK):∀p xs i v,x=.ref p->y=.int i->SqT K H p xs->atI xs i=some v->Q v H:=0
instance rIxS(x:V)(y:V)(H:Hp)(Q:VK):∀z i c,x=.str z->y=.int i->z.length<=sizeLine->atI z.cps.toList i=some c->Q (.str ⟨#[c]⟩) H:=0
def ix_list:IxR X (rIxL X.K):=by
 intro value slice Pc s σ H x y v u Q I m n h e;erw[p,xs,i,z,1,1,o,he,q]at h;cases m;erw[t,1]at n;let%[its,r,pl|B]:=I.list o;let%[j,h1,h2,h3,h4|h5]:=xJ he;let%[w,g|c]:=r.get h2;let hl:=r.length;let C:=kZ;let fin:EP X Pc σ Q w s:=%[z,H,I,c|q]
 by_cases h0:0<=i
 . let d:i.toNat=j:=by
    rw[seqIndex_of h0 h5]at h1;exact j3 h1
   exact item_listR pl.isList h0 #[0] (by rw[d];simpa using g) fin e
 . let d:(i+(its.toArray.size:Int)).toNat=j:=by
    rw[seqIndex_neg #[0] h4]at h1;rw[js,←hl];exact j3 h1
   exact subscriptTail_builtinR (x:=w) pl.isList.typeIs slot_list_getitem.lookup
    (wpAny_getItem_list_neg (Q:=λr s'=>r=w/\EP X Pc σ Q r s') pl.isList #[0] (by rw[js] <;> omega) #[0] (by rw[d];simpa using g) %[1|fin]) e
def ix_tup:IxR X (rIxT X.K):=by
 intro value slice Pc s σ H x y v u Q I d e h g;erw[p,xs,i,z,1,1,m,he,q]at h;cases d;erw[t,1]at e;let%[its,r,pl|o]:=I.tuple m;let%[j,h1,h2,h3,h4|h5]:=xJ he;let%[w,n|c]:=r.get h2;let hl:=r.length;let B:=kZ;let fin:EP X Pc σ Q w s:=%[z,H,I,c|q]
 exact subscriptTail_builtinR (x:=w) pl.typeIs slot_tuple_getitem.lookup
  (getItem_tuple (j:=j) (Q:=λr s'=>r=w/\EP X Pc σ Q r s') pl #[0] #[0] (by rw[js,←hl];exact h1) #[n,0] %[1|fin]) g
def xx:IxR X rIxS:=by
 intro value slice Pc s σ H x y v u Q I d e h g;erw[z,i,c,1,1,m,he,q]at h;erw[t,1]at d;erw[t',1]at e;let%[j,h1,h2,h3,h4|h5]:=xJ he;let hl:z.cps.toList.length=z.length:=by simp [Str.length]
 rw [hl]at h1 h4 h5;let n:=kZ;exact tail_any (P7 s z t) slot_str_getitem.lookup (getItem_str (c:=c) (by
  let e1:decide (i < -(2 ^ 63:Int))=false:=fw #[0];let e2:decide (i≥2 ^ 63)=false:=fw #[0];rw[e1,e2,Rc]) (by rw[h1];simpa using h2) %[.str %[|#[c]],H,I.tok _,%[|0]|q]) g
def rIx(K:W.Frag):R2:=λx y H Q=>rIxL K x y H Q∨rIxT K x y H Q∨rIxS x y H Q
def GQ:IxR X (rIx X.K):=ix_list.or (ix_tup.or xx)
def AB(its:List Value)(n j:Nat)(u:Value):Obj.mapSeq (·.setIfInBounds j u) { cls:=.type "list",data:=.seq its.toArray n }={ cls:=.type "list",data:=.seq (its.set j u).toArray n }:=by
 simp [Obj.mapSeq]
def Inv.lst{Pc:#[7]}{σ:St}{H:Hp}{s:Shared}{p:Addr}{xs:List V}(I:#[8] H s)(h:H p=some (.lst xs)):
 ∃(its:List Value) (n:Nat),Vals xs its/\s.heap.get? p=some { cls:=.type "list",data:=.seq its.toArray n }/\xs.length<=sizeLine:=by
 let%[z,its,n,r|e]:=I.hok p _ h;erw[its,n,r,e,z]
def Inv.lstUpd{σ:St}{p:Addr}{xs:List V}{its its':List Value}{n c:Nat}{f:Obj->Obj}(I:#[8] H s)(h:H p=some (.lst xs))
 (d:s.heap.get? p=some { cls:=.type "list",data:=.seq its.toArray n })(hf:f { cls:=.type "list",data:=.seq its.toArray n }={ cls:=.type "list",data:=.seq its'.toArray c })(r:Vals ys its')(g:ys.length<=sizeLine)(t:Nat):
 #[8] (upd H p (.lst ys)) { s with heap:=s.heap.update p f,toks:=t }:=by
 let e:(s.heap.update p f).get? p=some { cls:=.type "list",data:=.seq its'.toArray c }:=by
  rw[Heap.get?_update_self f d (by rw[hf] <;> rfl),hf]
 apply I.write (x:=p) (e:=p) (by rw[h];trivial) (.inl rfl) (λb u hb q=>(Heap.get?_update_other _ _ (Ne.symm hb)).trans q) %[_|e] ?_;erw[g,its',c,r,e]
instance rSetL(o:V)(i:V)(v:V)(H:Hp)(Q:(Hp->Prop)):∀p xs k j,o=.ref p->i=.int k->H p=some (.lst xs)->ixN xs.length k=some j->Q (upd H p (.lst (xs.set j v))):=0
def oW:PSet X rSetL:=by
 exists 4,o,i,v,B,C,u,Q,I,ro,m,x,h;erw[p,xs,k,j,1,1,e,y,q]at h;cases ro;erw[t,1]at m;let%[its,n,r,c|z]:=I.lst e;let%[h1,h2,h3|h4]:=xy y;let hl:=r.length;let D:=kZ;let g:#[8] (upd H p (.lst (xs.set j v))) { s with heap:=s.heap.update p (Obj.mapSeq (·.setIfInBounds j u)) }:=
  I.lstUpd e c (AB its n j u) (r.set x j) (by rw[L5];exact z) s.toks
 by_cases h0:0<=k
 . let d:k.toNat=j:=by
    rw[seqIndex_of h0 h4]at h1;exact j3 h1
   exact PySem.W.ki_setAt c h0 #[0] (by rw[js,←hl];exact h4) (by rw[d];erw[_,g,q])
 . let d:(k+(its.toArray.size:Int)).toNat=j:=by
    rw[seqIndex_neg #[0] h3]at h1;rw[js,←hl];exact j3 h1
   exact PySem.W.ki_setBack c #[0] (by rw[js,←hl];exact h3) #[0] (by rw[d];erw[_,g,q])
def vM(lo c:Option Int)(n:Nat):(sliceBounds lo c none n).1=((HT.sIx n 0 lo:Nat):Int)/\(sliceBounds lo c none n).2.1=((HT.sIx n n c:Nat):Int)/\(sliceBounds lo c none n).2.2=1:=by
 erw[6,6,1]
 . cases lo with
   |none=>simp [sliceBounds,HT.sIx]
   |some i=>
     simp only[sliceBounds,HT.sIx,Option.getD_none,show(1:Int)>0 by decide,PD]
     by_cases h:i<0
     . simp only[h,PD] <;> omega
     . simp only[h,if_false] <;> omega
 . cases c with
   |none=>simp [sliceBounds,HT.sIx]
   |some i=>
     simp only[sliceBounds,HT.sIx,Option.getD_none,show(1:Int)>0 by decide,PD]
     by_cases h:i<0
     . simp only[h,PD] <;> omega
     . simp only[h,if_false] <;> omega
def uH(its:List Value)(lo c:Option Int):slicePick its.toArray lo c none=((its.drop (HT.sIx its.length 0 lo)).take (HT.sIx its.length its.length c-HT.sIx its.length 0 lo)).toArray:=by
 let%[h1,h2|h3]:=vM lo c its.toArray.size;unfold slicePick;rw[h1,h2,h3];simp only[sliceRange_one,pick_run,js] <;> rfl
instance rSlL(K:W.Frag)(x:V)(lo:Option Int)(hi:Option Int)(H:Hp)(Q:VK):∀a xs,x=.ref a->SqL K H a xs->(∀p,H p=none->Q (.ref p) (upd H p (.lst (nK xs lo hi)))):=0
def Ix:SlR X (rSlL X.K):=by
 exists 4,x,v,u,y,lo,d,z,Q,I,g,j,pl,m,h;erw[a,xs,1,n,q]at h;cases g;let%[its,r,e|t]:=I.list n;let c:=r.length;erw["list",_,slot_list_getitem.lookup,e.isList.typeIs,6];apply wpAny_getItem_list_slice e.isList j pl m .none #[2] ?_ (by rw[js] <;> omega);rw[uH,←c];erw[.ref ‹s›,_,I.laid (t':=s.toks) (o:=.lst (nK xs lo d)) (λb B q=>gz _ q) (eS _) ?_,1,q _ (I.hok.fresh (eS _))];erw[hE (rk xs lo d) t,_,(0),(r.drop (HT.sIx xs.length 0 lo)).take (HT.sIx xs.length xs.length d-HT.sIx xs.length 0 lo),kv _ rfl]
def lj:V->Bool
 |.non=>true
 |.bl _=>true
 |.int _=>true
 |.str _=>true
 |_=>false
def eqV:V->V->Bool
 |.non,.non=>true
 |.bl a,.bl b=>a==b
 |.bl a,.int b=>(if a then 1 else 0)==b
 |.int a,.bl b=>a==(if b then 1 else 0)
 |.int a,.int b=>a==b
 |.str a,.str b=>a==b
 |_,_=>false
def Le{A:Around}{s:Shared}(d:RelV y u)(c:RelV x v)(g:lj y=true)(e:lj x=true):SeqAt.EqAt A s u v (eqV y x):=by
 cases y with
 |non=>
   cases d;cases x with
   |non=>cases c;exact SeqAt.EqAt.same _
   |bl b=>cases c;exact SeqAt.EqAt.none_bool b
   |int b=>erw[t,1]at c;exact SeqAt.EqAt.none_int b t
   |str b=>erw[t,1]at c;exact SeqAt.EqAt.none_str b t
   |_=>exact absurd (show false=true from e) ln
 |bl a=>
   cases d;cases x with
   |non=>cases c;exact SeqAt.EqAt.bool_none a
   |bl b=>cases c;exact SeqAt.EqAt.bool_bool a b
   |int b=>erw[t,1]at c;exact SeqAt.EqAt.bool_int a b t
   |str b=>erw[t,1]at c;exact SeqAt.EqAt.bool_str a b t
   |_=>exact absurd (show false=true from e) ln
 |int a=>
   erw[t',1]at d;cases x with
   |non=>cases c;exact SeqAt.EqAt.int_none a t'
   |bl b=>cases c;exact SeqAt.EqAt.int_bool a t' b
   |int b=>erw[t,1]at c;exact SeqAt.EqAt.int_int a t' b t
   |str b=>erw[t,1]at c;exact SeqAt.EqAt.int_str a t' b t
   |_=>exact absurd (show false=true from e) ln
 |str a=>
   erw[t',1]at d;cases x with
   |non=>cases c;exact SeqAt.EqAt.str_none a t'
   |bl b=>cases c;exact SeqAt.EqAt.str_bool a t' b
   |int b=>erw[t,1]at c;exact SeqAt.EqAt.str_int a t' b t
   |str b=>erw[t,1]at c;exact SeqAt.EqAt.str_str a t' b t
   |_=>exact absurd (show false=true from e) ln
 |_=>exact absurd (show false=true from g) ln
def eqU(x:V)(u:Value):Bool:=match u with
 |.none=>eqV .non x
 |.bool b=>eqV (.bl b) x
 |.int i _=>eqV (.int i) x
 |.str z _=>eqV (.str z) x
 |_=>false
def AS(r:RelV y u)(f:lj y=true):eqU x u=eqV y x:=by
 cases y with
 |non=>cases r;rfl
 |bl b=>cases r;rfl
 |int i=>erw[t,1]at r;rfl
 |str z=>erw[t,1]at r;rfl
 |_=>exact absurd (show false=true from f) ln
def pY:∀{xs:List V}{us:List Value},Vals xs us->xs.all lj=true->us.any (eqU x)=xs.any λy=>eqV y x
 |_,_,.nil,_=>rfl
 |y::xs,u::us,.cons r t,f=>by
   rw[Qy,PL]at f;rw[PN,PN,AS r f.1,pY t f.2]
def ir{A:Around}{s:Shared}(d:RelV x v)(e:lj x=true):∀{xs:List V}{us:List Value},Vals xs us->xs.all lj=true->∀u∈us,SeqAt.EqAt A s u v (eqU x u)
 |_,_,.nil,_=>λu c=>by cases c
 |y::xs,u::us,.cons r t,f=>λg c=>by
   rw[Qy,PL]at f;rcases qA0 c with rfl | c
   . rw[AS r f.1];exact Le r d f.1 e
   . exact ir d e t f.2 g c
def inV(x:V)(xs:List V):Bool:=xs.any λy=>eqV y x
instance rIn(K:W.Frag)(neg:Bool)(x:V)(y:V)(H:Hp)(Q:VK):∀p xs,y=.ref p->SqL K H p xs∨SqT K H p xs->lj x=true->xs.all lj=true->Q (.bl (if neg then !inV x xs else inV x xs)) H:=0
def fK:OpR X (compareOp .In) (rIn X.K false):=by
 exists 4,x,y,v,u,Q,I,d,g,h;erw[p,xs,1,c,e,fs,q]at h;cases g;rcases c with c | c
 . let%[its,r,pl|j]:=I.list c;apply SeqAt.in_listAt (eqU x) pl.isList (λw hw=>ir d e r fs w #[hw,0]) %[.bl _,H,I,1|6];rw[show its.toArray.any (eqU x)=its.any (eqU x) by simp,pY r fs];exact q
 . let%[its,r,pl|j]:=I.tuple c;apply SeqAt.in_tupleAt (eqU x) pl (λw hw=>ir d e r fs w #[hw,0]) %[.bl _,H,I,1|6];rw[show its.toArray.any (eqU x)=its.any (eqU x) by simp,pY r fs];exact q
def wN:OpR X (compareOp .NotIn) (rIn X.K true):=by
 exists 4,x,y,v,u,Q,I,d,g,h;erw[p,xs,1,c,e,fs,q]at h;cases g;rcases c with c | c
 . let%[its,r,pl|j]:=I.list c;apply SeqAt.notIn_listAt (eqU x) pl.isList (λw hw=>ir d e r fs w #[hw,0]) %[.bl _,H,I,1|6];rw[show its.toArray.any (eqU x)=its.any (eqU x) by simp,pY r fs];exact q
 . let%[its,r,pl|j]:=I.tuple c;apply SeqAt.notIn_tupleAt (eqU x) pl (λw hw=>ir d e r fs w #[hw,0]) %[.bl _,H,I,1|6];rw[show its.toArray.any (eqU x)=its.any (eqU x) by simp,pY r fs];exact q
def wM:OpR X (compareOp .NotIn) (λx y H Q=>∃i j,x=.str i/\y=.str j/\Q (.bl (!(!(Builtin.Str.occurrences j i 0 j.length 1).isEmpty))) H):=by
 exists 4,x,y,v,u,Q,I,c,d,h;erw[i,j,1,1,q]at h;erw[t,1]at c;erw[t',1]at d;exact notIn_str %[.bl _,H,I,1|q]
instance rLen(K:W.Frag)(xs:List V)(H:Hp)(Q:VK):∀p ys,xs=[.ref p]->SqL K H p ys∨SqT K H p ys->Q (.int ys.length) H:=0
def aD:jm X (.builtin "len") (rLen X.K):=by
 exists 4,xs,us,Q,I,r,h;erw[p,ys,1,d,q]at h;let%[u,1|g]:=lu r;cases g;let m:=kZ;rcases d with d | d
 . let%[its,e,pl|j]:=I.list d;let c:=e.length;exact Calls.call_len_list pl.isList (by simp only[js] <;> omega) %[.int ys.length,H,I.tok _,%[s.toks+1|by rw[js,c]]|q]
 . let%[its,e,pl|j]:=I.tuple d;let c:=e.length;exact len_tuple pl (by simp only[js] <;> omega) %[.int ys.length,H,I.tok _,%[s.toks+1|by rw[js,c]]|q]
def dL:jm X (.builtin "len") (λxs H Q=>∃z,xs=[.str z]/\z.length<=sizeLine/\Q (.int z.length) H):=by
 exists 4,xs,us,Q,I,r,h;erw[z,1,c,q]at h;let%[u,1,t|1]:=lu r;let d:=kZ;exact len_str #[0] %[.int z.length,H,I.tok _,%[|0]|q]
instance rListOf(K:W.Frag)(xs:List V)(H:Hp)(Q:VK):∀p ys,xs=[.ref p]->SqL K H p ys∨SqT K H p ys->(∀l,H l=none->Q (.ref l) (upd H l (.lst ys))):=0
def de:jm X (.type "list") (rListOf X.K):=by
 exists 4,xs,us,Q,I,r,h;erw[p,ys,1,g,q]at h;let%[u,1|x]:=lu r;cases x;let fin:∀(its:List Value),Vals ys its->ys.length<=sizeLine->∀(h':Heap)(c:Nat),(∀b v,s.heap.get? b=some v->h'.get? b=some v) ->
  h'.get? ‹s›=some { cls:=.type "list",dict:=none,data:=.seq its.toArray c,slots:=#[] }->EP X Pc σ Q (.ref ‹s›) { s with heap:=h' }:=λits d j h' c kp e=>
  %[.ref ‹s›,_,I.laid (t':=s.toks) kp (eS _) (show ObjOk X.prog X.w _ h' _ (.lst ys)from%[j,its,c,d|e]),1|q _ (I.hok.fresh (eS _))]
 rcases g with g | g
 . let%[its,d,pl|j]:=I.list g;let m:=d.length;erw[o,t,hc,n,hd]at pl.isList;exact call_list_seq p (.inl rfl) t hc hd (λh' c kp e=>fin its d j h' c kp e) (by simp only[js] <;> omega)
 . let%[its,d,pl|j]:=I.tuple g;let m:=d.length;erw[o,t,hc,n,hd]at pl;exact call_list_seq p (.inr rfl) t hc hd (λh' c kp e=>fin its d j h' c kp e) (by simp only[js] <;> omega)
instance rTupOf(K:W.Frag)(xs:List V)(H:Hp)(Q:VK):∀p ys,xs=[.ref p]->(SqL K H p ys/\∀l,H l=none->Q (.ref l) (upd H l (.tup ys)))∨(SqT K H p ys/\Q (.ref p) H):=0
def bq:jm X (.type "tuple") (rTupOf X.K):=by
 exists 4,xs,us,Q,I,r,h;erw[p,ys,1,h]at h;let%[u,1|n]:=lu r;cases n;rcases h with⟨c,q⟩ | ⟨c,q⟩
 . let%[its,d,pl|g]:=I.list c;let j:=d.length;apply call_tuple_list pl.isList (λh' kp=>?_) (by simp only[js] <;> omega);let m:#[8] H { s with heap:=h' }:=I.kept (t':=s.toks) kp;let t:#[8] (upd H h'.objs.size (.tup ys)) { s with heap:=h'.push { cls:=.type "tuple",data:=.seq its.toArray } }:=
    m.laid (t':=s.toks) (λb o e=>gz _ e) (eS _) (show ObjOk X.prog X.w _ _ _ (.tup ys)from%[g,its,d,IsTup.new _ _,_,kv _ rfl|1])
   erw[.ref h'.objs.size,_,t,1,q _ (m.hok.fresh (eS _))]
 . let%[its,d,pl|g]:=I.tuple c;exact call_tuple_same pl %[.ref p,H,I,1|q]
def tyV(K:W.Frag)(T:String)(x:V)(H:Hp):Prop:=match x with
 |.str _=>T="str"
 |.int _=>T="int"
 | .ref p=>(T="list"/\∃xs,SqL K H p xs)∨(T="tuple"/\∃o,K.lookup p=some o/\o.cls=.type "tuple"/\o.dict=none)∨
  (T="dict"/\((∃c,H p=some (.dK c))∨∃c,H p=some (.dT c)))∨(T="set"/\∃S n,H p=some (.set S n))
 |_=>False
def Kh{σ:St}(I:#[8] H s)(r:RelV x v)(ty:tyV X.K T x H):
 s.TypeIs v T/\∀a,v=.ref a->∃g,s.heap.get? a=some g/\g.dict=none:=by
 cases x with
 |str z=>
   erw[t,1]at r;cases(show T="str" from ty);erw[P7 s z t,λ_ e=>nomatch e]
 |int i=>
   erw[t,1]at r;cases(show T="int" from ty);erw[QE s i t,λ_ e=>nomatch e]
 |ref p=>
   cases r;rcases ty with⟨rfl,xs,j⟩ | ⟨rfl,o,d,hc,hd⟩ | ⟨rfl,d⟩ | ⟨rfl,S,n,d⟩
   . let%[its,_,pl|_]:=I.list j;erw[pl.isList.typeIs,λa e=>?_];cases e;erw[o,n,e,c,hd,_]at pl;erw[o,e,hd]
   . erw[%[o,I.kIn p o d|hc],λa e=>?_];cases e;erw[o,I.kIn _ o d,hd]
   . let z:∃o,s.heap.get? p=some o/\o.ExactDict:=by
      rcases d with⟨m,d⟩ | ⟨m,d⟩
      . let%[_,_,_,_,o,_,_,e,ex|_]:=I.hok p _ d;erw[o,e,ex]
      . let%[_,_,_,_,o,_,_,e,ex|_]:=I.hok p _ d;erw[o,e,ex]
     erw[o,e,ex]at z;erw[%[o,e|ex.1],λa e2=>?_];cases e2;erw[o,e,ex.2.1]
   . let%[o,_,_,_,e,ex|_]:=I.hok p _ d;erw[%[o,e|ex.1],λa e2=>?_];cases e2;erw[o,e,ex.2.1]
 |_=>exact False.elim ty
instance ZtBM(K:W.Frag)(T:String)(r:V->List V->Hp->VK->Prop)(t:TA)(σ:St)(Q:VK)(x:V)(H1:Hp):tyV K T x H1->(t σ H1 λxs H2=>r x xs H2 Q):=0
def tBM(K:W.Frag)(T:String)(r:V->List V->Hp->VK->Prop)(to:TE)(t:TA):TE:=λσ H Q=>to σ H λx c=>ZtBM K T r t σ Q x c
variable {o e:Expr}{es:List Expr}{to:TE}{t:TA}{name:Str}{Pq Pk:Pos}{T id:String}{r:V->List V->Hp->VK->Prop}
def iH(q:PlainAttrs T)(slot:Slot T name id)(m:typeOf (.builtin id)=pure (.type "method_descriptor"))(u:MtR X id r)(y:PE X o to)(ha:PA X (e::es) t)
 (d:attributeBase o name X.env (eval o X.env)=eval o X.env:=by rfl)
 (j:((backTo Pk (starEach (e::es) X.env)).all (λx=>!x.1)&&(backToKw Pk (keywordEach [] X.env)).all (λx=>x.1.isSome)
  &&decide ((e::es).length+([]:List Keyword).length+(if([]:List Keyword).isEmpty then 0 else 1)<30))=true:=by rfl)
 (g:(Pq.endLine==Pk.line)=true:=by rfl) (z:starEach (e::es) X.env=(false,eval e X.env)::starEach es X.env:=by rfl) (c:(backTo Pk (starEach es X.env)).any (·.1)=false:=by rfl) :
 PE X (.Call (.Attribute o name Pq) (e::es) [] Pk) (tBM X.K T r to t):=by
 exists 4,Q,I,h;apply wpAny_Call_method_late d j g rfl (thn (y Pc s σ H _ I h) λv s1 ⟨x,B,n,r1,ty,C⟩=>?_);let%[h1|h2]:=Kh n r1 ty;erw[T,id,q,slot,m,h1,h2,6];let hA:=ha Pk Pc s1 σ B _ n C;rw[z]at hA ⊢;apply QL (by show(false||(backTo Pk (starEach es X.env)).any (·.1))=false;rw[c] <;> rfl) (QR ?_);exact thn hA λus D ⟨vs,J,L,M,N⟩=>u Pc D σ J x vs v us Q L r1 M N
end
def MtM(X:Cx)(id:String)(r:V->List V->Hp->VK->Prop):Prop:=
 ∀(Pc:#[7])(s:Shared)(σ:St)(H:Hp)(x:V)(xs:List V)(v:Value)(us:List Value)(Q:VK),#[8] H s->RelV x v->Vals xs us->r x xs H Q ->
  ‹X.w› (call (.builtin id) (v::us)) (EP X Pc σ Q) X.xe s
def Vals.one:∀{x:V}{us:List Value},Vals [x] us->∃u,us=[u]/\RelV x u
 |_,_,.cons r .nil=>%[0|r]
def Vals.rep(h:Vals xs us):∀k:Nat,Vals (List.replicate k xs).flatten (List.replicate k us).flatten
 |0=>.nil
 |k+1=>by
   rw[Pu,Pu,PY,PY];exact Vals.append h (Vals.rep h k)
def nv(its:List Value):∀(k:Nat)(b:List Value),
 List.foldl (λc d=>c++d) b.toArray (List.replicate k its.toArray)=(b++(List.replicate k its).flatten).toArray
 |0,b=>by simp
 |k+1,b=>by
   let e:b.toArray++its.toArray=(b++its).toArray:=by simp
   let e2:(b++its)++(List.replicate k its).flatten=b++(List.replicate (k+1) its).flatten:=by
    rw[Pu,PY,Qd]
   rw[←e2,←nv its k (b++its),←e,Pu,List.foldl_cons]
section
variable {X:Cx}{Pc:#[7]}{σ:St}{H:Hp}{s:Shared}{l b:Addr}{xs ys zs:List V}
def Inv.lset{its its':List Value}{n:Nat}{f:Array Value->Array Value}{t':Nat}(I:#[8] H s)(hH:H l=some (.lst xs))
 (e:s.heap.get? l=some { cls:=.type "list",data:=.seq its.toArray n })(hf:f its.toArray=its'.toArray)(c:Vals ys its')(d:ys.length<=sizeLine):
 #[8] (upd H l (.lst ys)) { s with heap:=s.heap.update l (Obj.mapSeq f),toks:=t' }:=by
 let q:=PySem.IsL.update e f;rw[hf]at q;apply I.write (x:=l) (e:=l) (by rw[hH];exact trivial) (.inl rfl) (λb' u hb g=>(Heap.get?_update_other s.heap (Obj.mapSeq f) (Ne.symm hb)).trans g) %[_|q] ?_;erw[d,its',_,c,q]
def Inv.lnew{t':Nat}(I:#[8] H s)(c:Vals ys its)(d:ys.length<=sizeLine):
 #[8] (upd H ‹s› (.lst ys)) { s with heap:=s.heap.push { cls:=.type "list",data:=.seq its.toArray },toks:=t' }:=
 I.laid (λ_ _ q=>gz _ q) (eS _) %[d,its,(0),c|kv _ rfl]
def Inv.fresh(I:#[8] H s):H ‹s›=none:=I.hok.fresh (eS _)
def Inv.lstM(I:#[8] H s)(hH:H l=some (.lst xs)):xs.length<=sizeLine/\∃(its:List Value) (n:Nat),Vals xs its/\xs.length=its.length/\s.heap.get? l=some { cls:=.type "list",data:=.seq its.toArray n }:=by
 let%[z,its,n,r|e]:=I.hok l _ hH;erw[z,its,n,r,r.length,e]
def yw{n:Nat}(h:n<=sizeLine):Builtin.List.listTooLong n=false:=by
 unfold Builtin.List.listTooLong;exact fw #[0]
end
section
variable {X:Cx}
instance rAppend(x:V)(vs:List V)(H:Hp)(Q:VK):∀l xs y,x=.ref l->vs=[y]->H l=some (.lst xs)->xs.length<sizeLine->Q .non (upd H l (.lst (xs++[y]))):=0
def eE:MtM X "list.append" rAppend:=by
 exists 4,x,vs,v,us,Q,I,b,c,h;erw[l,xs,y,1,1,hH,g,q]at h;cases b;erw[u,1,d]at c.one;let%[z,its,n,r,hl|e]:=I.lstM hH;apply rz F.slot_list_append %[_,e|1] F.entry_list_append (F.args_list_append_2 _ _) (PySem.list_append l its.toArray n u (by rw[js];omega)) ⟨e,?_⟩;erw[.non,_,I.lset (its':=its++[u]) hH e #[2] (r.append (.cons d .nil)) ?_,1,q];rw[fm,nm];omega
instance rExtend(x:V)(vs:List V)(H:Hp)(Q:VK):∀l b xs zs,x=.ref l->vs=[.ref b]->H l=some (.lst xs)->H b=some (.lst zs)->xs.length+zs.length<=sizeLine->Q .non (upd H l (.lst (xs++zs))):=0
def Ds:MtM X "list.extend" rExtend:=by
 exists 4,x,vs,v,us,Q,I,g,j,h;erw[l,b,xs,zs,1,1,hH,hB,B,q]at h;cases g;erw[u,1,m]at j.one;cases m;let%[z,its,n,r,hl|e]:=I.lstM hH;let%[z2,c,o,t,y|e2]:=I.lstM hB;let hsz:its.toArray.size+c.toArray.size<=sizeLine:=by rw[js,js];omega
 let d:¬ (!its.toArray.isEmpty&&Builtin.List.listTooLong (its.toArray.size+c.toArray.size))=true:=by
  rw[yw hsz,Q9];exact ln
 apply rz F.slot_list_extend %[_,e|1] F.entry_list_extend (F.args_list_extend_2 _ _)
  (AutoSeq1.list_extend_list_list_0 l its.toArray n b c.toArray o d (by rw[js];omega) #[0]) %[e,e2|6]
 erw[.non,_,I.lset (its':=its++c) hH e #[2] (r.append t) ?_,1,q];rw[fm];omega
instance rCat(x:V)(y:V)(H:Hp)(Q:VK):∀l b xs zs,x=.ref l->y=.ref b->H l=some (.lst xs)->H b=some (.lst zs)->xs.length+zs.length<=sizeLine->(∀p,H p=none->Q (.ref p) (upd H p (.lst (xs++zs)))):=0
def jI:OpR X (binaryOp .Add) rCat:=by
 exists 4,x,y,v,u,Q,I,d,g,h;erw[l,b,xs,zs,1,1,hH,hB,t,q]at h;cases d;cases g;let%[z,its,n,r,hl|e]:=I.lstM hH;let%[z2,c,B,j,m|e2]:=I.lstM hB;apply PySem.P.add_list e e2 ?_ (by rw[js,js];omega);let o:its.toArray++c.toArray=(its++c).toArray:=by simp
 rw[o];erw[.ref _,_,I.lnew (t':=s.toks) (r.append j) (by rw[fm];omega),1,q _ I.fresh]
instance rRep(x:V)(y:V)(H:Hp)(Q:VK):∀l k xs,x=.ref l->y=.int k->H l=some (.lst xs)->-(2 ^ 63)<=k->k<2 ^ 63->xs.length*k.toNat<=sizeLine->(∀p,H p=none->Q (.ref p) (upd H p (.lst (List.replicate k.toNat xs).flatten))):=0
def BH{α:Type}(xs:List α)(k:Nat):(List.replicate k xs).flatten.length=k*xs.length:=by
 induction k with
 |zero=>simp
 |succ k b=>rw[Pu,PY,fm,b,Rh,Nat.add_comm]
def KB:OpR X (binaryOp .Mult) rRep:=by
 exists 4,x,y,v,u,Q,I,D,J,h;erw[l,k,xs,1,1,hH,h1,h2,C,q]at h;cases D;erw[t,1]at J;let%[z,its,n,r,hl|e]:=I.lstM hH;let c:its.toArray.size*k.toNat<=sizeLine:=by rw[js,←hl];exact C
 let d:¬ its.toArray.size*k.toNat>(2 ^ 63-1) / 8:=by
  have:(sizeLine:Nat)<=(2 ^ 63-1) / 8:=by decide
  omega
 let g:¬ (!Builtin.List.listFitsIndex k)=true:=by
  rw[fitsIndex_both h1 h2];exact ln
 let b:¬ Builtin.List.listTooLong (its.toArray.size*k.toNat)=true:=by
  rw[yw c];exact ln
 let j:List.foldl (λo B=>o++B) #[] (List.replicate (if its.toArray.isEmpty=true then 0 else k.toNat) its.toArray)=(List.replicate k.toNat its).flatten.toArray:=by
  let f0:∀m:Nat,List.foldl (λo B=>o++B) #[] (List.replicate m its.toArray)=(List.replicate m its).flatten.toArray:=λm=>by
   have:=nv its m []
   rw[Q2]at this;exact this
  rw[f0];cases its with
  |nil=>simp
  |cons a L=>rw[Pd #[2]]
 apply wpAny_binaryOp_repeat_ref (T:="list") (U:="int") ⋯ %[_,e|1] (λs'=>QE s' k t) noFill_list_mul F.fills_int_mul Q3 repeat_list F.slot_int_index.lookup
  (rz Q3 (QE s k t) F.entry_int_rmul (F.args_int_rmul_2 _ _) (int___rmul___int_list k t l its.toArray n)
   %[e,1,%[_,e|1]|rz F.slot_list_mul ⟨_,e,rfl⟩ F.entry_list_mul (F.args_list_mul_2 _ _) (AutoListH.list___mul___list_int_3 l its.toArray n k t g d b) ⟨e,?_⟩])
 rw[j];erw[.ref _,_,I.lnew (t':=s.toks) (r.rep k.toNat) (by rw[BH,Nat.mul_comm];exact C),1,q _ I.fresh]
end
end L2
namespace Att
open PySem PySem.W PySem.Calls PyProof.Rows
def rF{P:Params}{h:Heap}:∀(ns:List Int)(vs:List Value),WellAll P h vs (ns.map WData.int)->IntsAre vs ns:=by
 intro ns
 induction ns with
 |nil=>
   intro vs w;rw[Ri]at w;cases w;exact .nil
 |cons n ns c=>
   intro vs w;rw[lw]at w;cases w with
   |cons a b=>
     cases a;exact .cons _ _ (c _ b)
def Cz{l:OpenLaw}{n:Nat}(o:l.most=some n){P:Params}{h:Heap}{args:List WData}{b:List Value}
 (c:l.row.toRowW.claim.pre args=true)(j:WellAll P h b args):
 ∃a vs ns,b=[Value.ref a]/\args=[WData.list (ns.map WData.int)]/\h.get? a=some { cls:=.type "list",data:=.seq vs.toArray }/\IntsAre vs ns/\ns.length<=n:=by
 let m:WShape.hasAll [] args [.list .int]=true:=(pre_splitW c).1;let hc:l.pre.holds [] { args:=args }=true:=(pre_splitW c).2;let%[d,r,1,h1|h2]:=hasAllW_cons m;obtain rfl:=hasAllW_nil h2;let%[xs,1|h3]:=hasW_list h1;let%[ns|1]:=items_int h3;let e:ns.length<=n:=by
  unfold OpenLaw.pre at hc;let h4:(WTm.not (.lt (.lit (.int (n:Int))) (.len (.arg 0)))).holds [] { args:=[.list (ns.map .int)] }=true:=by
   let h4:=(holds_andW hc).1;rw[o]at h4;exact h4
  let h5:=condW_of h4 (w_not (w_lt w_lit (w_len_list (w_arg rfl))));rw[d8]at h5;apply Nat.le_of_not_lt λq=>?_
  let t:(n:Int)<((ns.length:Nat):Int):=#[0]
  first
   | (rw[ft t]at h5;exact absurd h5 ⋯)
   | (simp at h5;omega)
 cases j with
 |cons w1 w2=>
   cases w2;cases w1 with
   |list u g=>erw[_,_,ns,1,1,u,rF ns _ g,e]
def CU(l:OpenLaw)(args:List WData):l.row.toRowW.claim.post args (.bool true) args=true:=
 postW_of (r:=l.row.toRowW) (X:=(true==true))
  (show WShape.has [] (.bool true) .bool=true by first | rfl | decide | simp [WShape.has,WShape.arms,WShape.armsAll])
  (show(WTm.eq .res (.lit (.bool true))).value [] { args:=args,res:=some (.bool true),after:=args }=some (.bool (true==true))from w_eq_bool (w_res rfl) w_lit) rfl
def attach_call{l:OpenLaw}{n:Nat}{q:Program}{loose:List Str}{B:(#[9])->Heap->Prop}{C:World->Heap->Prop}{d:DefRec}
 (L:l.most=some n)(u:d.params.defaults=[])
 (call:∀(w:World)(s₀ b:Shared)(mg v:#[9])(fa:Addr)(o:Obj)(x cd c:Value)(a:Addr)(vs:List Value)(ns:List Int),
  Ground q loose [] B w s₀ mg v b.heap->C w b.heap ->
  b.heap.get? fa=some o->o.data=.func (docDef d.name d.params d.body d.scope x cd c)->b.heap.CodeRec cd d.name->mg d.name=some (.ref fa) ->
  b.heap.get? a=some { cls:=.type "list",data:=.seq vs.toArray }->IntsAre vs ns->ns.length<=n->b.gens=#[] ->
  codeAny (model l.prog w) callerA (.call (.ref fa) %[[.ref a]|[]]) (λr s'=>r=.ok (.ret (.bool true))/\OldK b.heap s'.heap/\s'.os=b.os/\AllBare s'.gens) b) :
 WalkO q loose B C l.row.toRowW d [] (λf vs=>PySem.call f vs):=by
 intro w s₀ b mg v G Y fa o x cd c M kV N hd y hD hmg hg args D as g J O z U;obtain rfl:M=.none:=Dflts.none hD u;obtain rfl:kV=.none:=Dflts.noKw hD;let%[a,vs,ns,1,1,j,e|m]:=Cz L g z;apply enter_call (Rg (call w s₀ b mg v fa o x cd c a vs ns G Y N (fd_plain hd) y hmg j e m hg) λr s' hq=>?_);erw[1,h2,h3,h4]at hq;erw[.inl %[.bool true,.bool true,[],1,λ_=>rfl,.bool true,CU l _|λ_=>%[List.Pairwise.nil|λ_ hm=>(nomatch hm)]],h2,h3,h4]
end Att
namespace L2
open PySem PySem.Spec PyProof.Rows
def uY:∀{vs:List Value}{ns:List Int},IntsAre vs ns->Vals (ns.map V.int) vs
 |_,_,.nil=>.nil
 |_,_,.cons n t h=>.cons %[t|1] (uY h)
def LA(H:Hp):Prop:=∀b,H b=none∨∃o xs,H b=some (.frz o (.lst xs))
def GF{K:W.Frag}{mg O:#[9]}{a:Addr}{x:Str}{c:Shared}{vs:List Value}{ns:List Int}
 (KX:K.In c.heap)(y:c.heap.Ns mainGlobals mg)(hb:c.heap.Ns builtinsNs O)(U:∀x:Str,x≠"__name__" -> O x=bootBuiltins x)(B:c.heap.NoLimit)(hg:c.gens=#[])
 (ha:c.heap.get? a=some { cls:=.type "list",data:=.seq vs.toArray })(hi:IntsAre vs ns)(hl:ns.length<=sizeLine)(hr:Room k callerA)
 (F:∀base:Heap,K.In base->base.Ns mainGlobals mg->FnOk P w K mg base CX k fa fd [x] sp)(t:∀(s:Shared)(u:Value),BindsTo s fd %[[u]|[]] [(x,u)])
 (Y:∀H:Hp,LA H->SqL K H a (ns.map V.int)->sp [.ref a] H (λv _=>v=.bl true) λ_ _ _=>False)
 (ab:∀H e s',CX [] H c (λ_ _ _=>False) e s'->False):
 codeAny (model P w) callerA (.call (.ref fa) %[[.ref a]|[]]) (λr s'=>r=.ok (.ret (.bool true))/\OldK c.heap s'.heap/\s'.os=c.os/\AllBare s'.gens) c:=by
 let rv:=uY hi;let C:=hi.length;let j:∀H:Hp,LA H->SqL K H a (ns.map V.int)->HOk P w H c.heap->(∀b,H b≠none->b=a)->(H a≠none->K.lookup a=none) ->
  codeAny (model P w) callerA (.call (.ref fa) %[[.ref a]|[]]) (λr s'=>r=.ok (.ret (.bool true))/\OldK c.heap s'.heap/\s'.os=c.os/\AllBare s'.gens) c:=by
  intro H hO hS hok hA hK;let base_of:∀{b:Addr}{o:Obj},c.heap.get? b=some o->H b=none->(xA c.heap H).get? b=some o:=λe n=>Ha e n
  let ac:∀{b:Addr}{o:Obj}{D:Array DictEntry}{J:Nat},c.heap.get? b=some o->o.data=.dict D J->H b=none:=fun{b o D J} e d=>by
   cases q:H b with
   |none=>rfl
   |some u=>
     let e':b=a:=hA b (by rw[q];simp);subst e';rw[ha]at e;cases e;let d':Data.seq vs.toArray _=Data.dict D J:=d;cases d'
  let g:∀{b:Addr}{m:#[9]},c.heap.Ns b m->(xA c.heap H).Ns b m:=fun{b m} ⟨o,D,J,e,d,r⟩=>%[o,D,J,base_of e (ac e d),d|r]
  let L:K.In (xA c.heap H):=λb o e=>base_of (KX b o e) (by
   cases q:H b with
   |none=>rfl
   |some u=>
     let e':b=a:=hA b (by rw[q];simp);subst e';rw[hK (by rw[q];simp)]at e;cases e)
  let hM:Mod K mg (xA c.heap H):=%[L,g y,%[O,g hb|U]|let⟨mc,h1,h2⟩:=B;⟨mc,g h1,h2⟩]
  let e0:Env0 P w K mg (xA c.heap H) callerA [] c H:=%[1,hM,λb o e=>IU e,Nat.le_of_eq (DK _ _),trivial,λb hb=>absurd (show b∈([]:List Addr)from hb) #[2],hok|.of_eq hg]
  apply Rg ((F _ L (g y)).run callerA [] c H %[[.ref a]|[]] [.ref a] [.ref a] _ _ hr e0 (t c (.ref a)) (.cons rfl .nil) (Y H hO hS)) λr s' h=>?_
  cases r with
  |error e=>exact(ab H e s' h).elim
  |ok fl=>
    cases fl with
    |next=>exact False.elim h
    |brk=>exact False.elim h
    |cont=>exact False.elim h
    |ret u=>
      erw[v,H',os,bare,un,M,r',q]at h;let q':v=.bl true:=q;subst q';obtain rfl:u=Value.bool true:=r';erw[1,OldK.of_keep λb o e=>?_,os,bare];cases q:H b with
      |none=>exact un.keep b o e q (by intro z;exact absurd (show b∈([]:List Addr)from z) #[2]) #[2]
      |some u=>
        rcases hO b with z | ⟨ob,xs,z⟩
        . rw[q]at z;cases z
        . let z2:=un.frzs b ob _ z;let%[e1|_]:=hok b _ z;let%[e2|_]:=M b _ z2;rw[e]at e1;cases e1;exact e2
 cases hk:K.lookup a with
 |some o=>
   let e:=KX a o hk;rw[ha]at e;cases e;apply j (λ_=>none) (λ_=>.inl rfl) (.inr %[_,vs.toArray,_,hk,1,1,1,by rw[js,C];exact hl|by simpa using rv]) (λb u z=>by let N:(none:Option HO)=some u:=z;cases N) (λb z=>absurd rfl z) λz=>absurd rfl z
 |none=>
   apply j (λb=>if b=a then some (.frz { cls:=.type "list",data:=.seq vs.toArray } (.lst (ns.map V.int)))else none) (λb=>?_) (.inl (.inr %[{ cls:=.type "list",data:=.seq vs.toArray }|Pe rfl])) (λb u z=>?_) (λb z=>?_) λ_=>hk
   . by_cases hb:b=a
     . exact .inr %[_,_|Pe hb]
     . exact .inl (Pd hb)
   . by_cases hb:b=a
     . let N:=(Pe hb).symm.trans z;cases N;subst hb;erw[ha,by rw[d8];exact hl,vs,_,rv,ha]
     . let N:=(Pd hb).symm.trans z;cases N
   . by_cases hb:b=a
     . exact hb
     . exact absurd (Pd hb) z
def walk_of{l:PySem.W.OpenLaw}{n:Nat}{q:Program}{loose:List Str}{C:(#[9])->Heap->Prop}{B:World->Heap->Prop}{d:DefRec}{K:Params->PySem.W.Frag}{CX:World->CXT}{sp:World->Sp}{x:Str}
 (D:l.most=some n)(r:n<=sizeLine)(t:d.params.defaults=[])(hr:Room k callerA)
 (J:∀(w:World)(h:Heap),B w h->(K w.params).In h)
 (F:∀(w:World)(mg:#[9])(fa:Addr)(h:Heap),(K w.params).In h->h.Ns mainGlobals mg->mg d.name=some (.ref fa) ->
  ∃ fd:FuncData,(∀(s:Shared)(u:Value),BindsTo s fd %[[u]|[]] [(x,u)])/\
   ∀base:Heap,(K w.params).In base->base.Ns mainGlobals mg->FnOk l.prog w (K w.params) mg base (CX w) k fa fd [x] (sp w))
 (y:∀(w:World)(H:Hp)(a:Addr)(ns:List Int),ns.length<=n->LA H->SqL (K w.params) H a (ns.map V.int)->sp w [.ref a] H (λv _=>v=.bl true) λ_ _ _=>False)
 (z:∀(w:World)(H:Hp)(s:Shared)(e:Value)(s':Shared),CX w [] H s (λ_ _ _=>False) e s'->False) :
 PySem.W.WalkO q loose C B l.row.toRowW d [] (λf vs=>PySem.call f vs):=by
 apply Att.attach_call D t λw s₀ L mg mb fa o pm cd M a vs ns G Y ho hd N hmg m j c hg=>?_
 let KX:=J w _ Y;let%[fd,hb|O]:=F w mg fa _ KX G.T.g hmg;exact GF KX G.T.g G.T.b G.T.builtins G.T.nolimit hg m j (hE c r) hr O hb (λH U hS=>y w H a ns c U hS) λH e s'=>z w H L e s'
end L2
namespace L2
open PySem PySem.Spec PyProof.Rows
def bp(s:Stmt)(j:Nat):Stmt:=match s with
 |.ClassDef _ _ _ body _ _ _ _ _ _ _=>body.getD j (.Pass %[(0),(0),(0)|(0)])
 |_=>.Pass %[(0),(0),(0)|(0)]
def lc(s:Stmt):Arguments:=match s with
 |.FunctionDef _ a _ _ _ _ _ _ _ _=>a
 |_=>{ posonlyargs:=[],args:=[],vararg:=none,kwonlyargs:=[],kw_defaults:=[],kwarg:=none,defaults:=[] }
def ik(s:Stmt):List Stmt:=match s with
 |.FunctionDef _ _ b _ _ _ _ _ _ _=>b
 |_=>[]
def aj(s:Stmt):Scope:=match s with
 |.FunctionDef _ _ _ _ _ _ b _ _ _=>b
 |_=>{ kind:=.function,names:=[],isGenerator:=false,isCoroutine:=false }
abbrev CX0:CXT:=λ_ _ _ _ _ _=>False
abbrev E0:XK:=λ_ _ _=>False
def bd:mo CX0 X E0:=λ_ _ _ _ _ _ _ h=>h.elim
structure Fun(K:W.Frag)(x qual:Str)(st:Stmt)(f:Addr)(fd:FuncData):Prop where
 ex:∃(oc:Value)(od:Option Addr)(kV doc pm:Value)(an:Option Addr)(cdv ct:Value)(osl:Array (Option Value)),
  fd=PySem.W.fnOf x qual (lc st) (ik st) (aj st) .none kV doc pm an cdv ct/\K.lookup f=some %[oc,od,.func fd|osl]/\PySem.W.codeIn K cdv qual=true
 kp:PySem.W.keepIn K (.ref f)=true
section
variable {P:Program}{w:World}{K:W.Frag}{mg:#[9]}{base:Heap}
def Fun.ok{st:Stmt}{sp:Sp}(F:Fun K x qual st f fd)(S:FnScope N ps (aj st))(len:∀vs H Q E,sp vs H Q E->vs.length=ps.length)
 (b:∀(cdv:Value)(A:Around)(outer:List Env)(s:Shared)(H:Hp)(vs:List V)(Q:VK)(E:XK),Room k (A.deeper (envOfC qual (aj st) ‹s› f cdv))->sp vs H Q E ->
  ∃t,PSs (DX CX0 P w K mg base N qual (aj st) f cdv A outer s H E).nox (ik st) t/\t { nx:=λ_ e=>Q .non e,rt:=Q } (qN N vs) H):FnOk P w K mg base CX0 (k+1) f fd ps sp:=by
 erw[n,o,kV,g,r,u,cdv,ct,j,1,m,c]at F.ex;apply fn_of m c S len λA outer s H vs Q E hr d=>?_
 let%[t,h|q]:=b cdv A outer s H vs Q E hr d;erw[t,h.nox,q]
def Fun.binds{st:Stmt}{ps:List Str}(F:Fun K x qual st f fd)
 (h:∀(kV b c:Value)(d:Option Addr)(cdv ct:Value)(us:List Value),us.length=ps.length->bindArgs (PySem.W.fnOf x qual (lc st) (ik st) (aj st) .none kV b c d cdv ct) %[us|[]]=pure (ps.zip us)):Binds K fd ps []:=by
 erw[j,m,kV,b,c,d,cdv,ct,e,1,n,g]at F.ex;exact .all (h kV b c d cdv ct)
def KY{x qual:Str}{st:Stmt}{f:Addr}{j:Value}{m e:Option Addr}{d:Array (Option Value)}{kV b g cdv ct:Value}(l:K.lookup f=some %[j,m,.func (PySem.W.fnOf x qual (lc st) (ik st) (aj st) .none kV b g e cdv ct)|d])
 (c:PySem.W.codeIn K cdv qual=true)(k:PySem.W.keepIn K (.ref f)=true):Fun K x qual st f (PySem.W.fnOf x qual (lc st) (ik st) (aj st) .none kV b g e cdv ct):=%[%[j,m,kV,b,g,e,cdv,ct,d,1,l|c]|k]
end
def JU(hr:Room k A):A.units+1<cLine:=pb (Nat.add_le_add_left (by decide:1<=64) _) hr.units
def aM{n:Nat}(h:n<=1000):n<sizeLine:=pb h ⋯
section
variable {X:Cx}
def pv(i:Nat){x:Str}{pos:Pos}(c:X.N[i]?=some x:=by rfl)(d:Vis X.env.scope x:=by first | exact Or.inl rfl | exact Or.inr (.inl rfl) | exact Or.inr (Or.inr rfl))(hd:(x==("__debug__":Str))=false:=by decide)
 (b:(x==("__classdict__":Str))=false:=by decide):PE X (.Name x pos) (tVar i):=Ky c d hd b
end
def cQ{A B:Prop}(h:B):if false=true then A else B:=by
 rw[Pd ln];exact h
def eF{A B:Prop}(h:A):if true=true then A else B:=by
 rw[Pe rfl];exact h
def AL{c A B:Prop}[Decidable c](h1:c->A)(h2:¬ c->B):if c then A else B:=by
 by_cases h:c
 . rw[Pe h];exact h1 h
 . rw[Pd h];exact h2 h
def yM{c A B:Prop}[Decidable c](hc:c)(h:B):if(!decide c)=true then A else B:=by
 rw[ft hc];exact cQ h
def Same(H c:Hp):Prop:=∀b o,H b=some o->c b=some o
def Same.refl(H:Hp):Same H H:=λ_ _ h=>h
def Same.trans(a:Same H d)(b:Same d e):Same H e:=λc o h=>b c o (a c o h)
def Same.free(e:Same H b){l:Addr}(h:b l=Option.none):H l=Option.none:=by
 cases q:H l with
 |none=>rfl
 |some o=>
   rw[e l o q]at h;cases h
def Same.seq{K:W.Frag}(e:Same H b)(h:SqL K H a xs):SqL K b a xs:=by
 rcases h with(h | ⟨o,h⟩) | h
 . exact .inl (.inl (e _ _ h))
 . exact .inl (.inr %[o|e _ _ h])
 . exact .inr h
end L2
set_option maxHeartbeats 4000000
namespace L2
open PySem PySem.Spec PyProof.Rows
section
variable {X:Cx}
instance rIsi(K:W.Frag)(xs:List V)(H:Hp)(Q:VK):∀x t n b,xs=[x,.ty n]->TyOf K H x t->PySem.W.kitOne K t (.type n)=some b->Q (.bl b) H:=0
def mi:jm X (.builtin "isinstance") (rIsi X.K):=by
 exists 4,xs,us,Q,I,r,h;erw[x,t,n,b,1,ty,e,q]at h;let%[u,g,1,r1|c]:=vals2 r;cases c;exact DF I r1 ty e (λd=>%[.bl b,H,I.tok d,1|q])
def yJ(K:W.Frag)(n:String):PySem.W.kitOne K (.type n) (.type n)=some true:=by
 unfold PySem.W.kitOne;rw[Pe #[2]]
def xu(K:W.Frag):PySem.W.kitOne K (.type "int") (.type "bool")=some false:=by
 show(if((Value.type "int"==Value.type "bool")=true)then some true else if PySem.W.kitMeta "bool"=true then((fastBuiltinMro "int").map (·.contains (.type "bool")))else none)=some false;decide
def CDivL(_ j:Int):Prop:=0<j/\j<2 ^ 63
def FA:OpR X (binaryOp .FloorDiv) (rI CDivL λi j=>.int (i / j)):=opI λi j _ _ _ _ _ hc q=>by
 let e:Int.fdiv i j=i / j:=Int.fdiv_eq_ediv_of_nonneg i (Int.le_of_lt hc.1);rw[←e]at q;apply floordiv_int (by have:=hc.1;omega) q (.inl (PyProof.noPylong_of_log2 ?_));let h1:=hc.1;let h2:=hc.2;let h3:j.natAbs<2 ^ 63:=#[0]
 let h4:=(Nat.log2_lt (n:=j.natAbs) (k:=63) #[0]).mpr h3;omega
end
def iS:bootBuiltins "int"=some (.type "int"):=by decide
def uD:bootBuiltins "bool"=some (.type "bool"):=by decide
def dU:bootBuiltins "list"=some (.type "list"):=by decide
def cw:bootBuiltins "tuple"=some (.type "tuple"):=by decide
def uC:bootBuiltins "reversed"=some (.type "reversed"):=by decide
structure Cal(P:Program)(w:World)(K:W.Frag)(mg:#[9])(base:Heap)(n:Nat)(x:Str)(ps:List Str)(sp:Sp):Prop where
 ex:∃(f:Addr)(fd:FuncData),FnOk P w K mg base CX0 n f fd ps sp/\Binds K fd ps []/\PySem.W.keepIn K (.ref f)=true/\mg x=some (.ref f)
def aq{X:Cx}{e:Expr}{c:List Expr}{p pos:Pos}(C:Cal X.prog X.w X.K X.mg X.base n x ps sp)(hr:Room k X.A)(j:n<=k)(hg:Gl X x)
 (ha:PA X (e::c) t)(d:(x==("__debug__":Str))=false:=by decide)(he:starEach (e::c) X.env=(false,eval e X.env)::starEach c X.env:=by rfl)(g:(backTo pos (starEach c X.env)).any (·.1)=false:=by rfl):
 PE X (.Call (.Name x p) (e::c) [] pos) (Bi sp [] E0 t):=by
 erw[f,fd,F,b,kp,m]at C.ex;exact IJ F (hr.mono j) hg m kp b .nil bd ha d he g
def Cal.of{P:Program}{w:World}{K:W.Frag}{mg:#[9]}{base:Heap}{n:Nat}{x qual:Str}{ps:List Str}{sp:Sp}{st:Stmt}{f:Addr}{fd:FuncData}(F:Fun K x qual st f fd)(O:FnOk P w K mg base CX0 n f fd ps sp)(m:mg x=some (.ref f))
 (h:∀(kV b c:Value)(d:Option Addr)(cdv ct:Value)(us:List Value),us.length=ps.length->bindArgs (PySem.W.fnOf x qual (lc st) (ik st) (aj st) .none kV b c d cdv ct) %[us|[]]=pure (ps.zip us)):Cal P w K mg base n x ps sp:=
 %[f,fd,O,F.binds h,F.kp|m]
def iteN{c A B:Prop}[Decidable c](hc:¬ c)(h:A):if(!decide c)=true then A else B:=by
 rw[fw hc];exact eF h
def aZ{c A B:Prop}[Decidable c](hc:c)(h:A):if decide c=true then A else B:=by
 rw[ft hc];exact eF h
def aF{c A B:Prop}[Decidable c](hc:¬ c)(h:B):if decide c=true then A else B:=by
 rw[fw hc];exact cQ h
def SameBut(f:Addr)(H c:Hp):Prop:=∀b o,b≠f->H b=some o->c b=some o
def SameBut.trans(a:SameBut f H d)(b:SameBut f d g):SameBut f H g:=λc o h e=>b c o h (a c o h e)
def SameBut.refl(f:Addr)(H:Hp):SameBut f H H:=λ_ _ _ h=>h
def fy{f:Addr}{H c:Hp}(h:Same H c):SameBut f H c:=λb o _ e=>h b o e
abbrev SameBut.of:=@fy
def SameBut.upd(o:HO):SameBut f H (upd H f o):=λb u h e=>by rw[az h];exact e
def ej{H:Hp}{p:Addr}(h:H p=none)(o:HO):Same H (upd H p o):=λb u q=>by rw[az (aN q h)];exact q
abbrev Same.new:=@ej
def Same.but{f:Addr}(a:Same d H)(n:d f=none)(b:SameBut f H g):Same d g:=λc o e=>b c o (aN e n) (a c o e)
def FeedAt(H:Hp)(f:Addr):Prop:=∃own st:Int,H f=some (.lst [.int own,.int st])/\0<=own/\0<=st/\st<=2147483646
def FeedAt.ne{b:Addr}(F:FeedAt H f)(h:H b=none):b≠f:=by
 erw[o,s,e,_]at F;intro z;subst z;rw[h]at e;cases e
def FeedAt.same(F:FeedAt H f)(s:Same H b):FeedAt b f:=by
 erw[o,t,e,h]at F;erw[o,t,s _ _ e,h]
instance spTake:∀(f:Addr)(m:Int),vs=[.ref f,.int m]->FeedAt H f->0<m->m<2 ^ 63->(∀(d:Int)(H':Hp),0<=d->d<m->FeedAt H' f->SameBut f H H'->Q (.int d) H'):=1
instance spFeed(K:W.Frag):∀(a:Addr)(ns:List Int)(k:Int),vs=[.ref a,.int k]->SqL K H a (ns.map V.int)->ns.length<=63->0<=k->k<1000000->(∀(p:Addr)(H':Hp),H p=none->Same H H'->FeedAt H' p->Q (.ref p) H'):=1
instance spLaw(K:W.Frag):∀(a:Addr)(ns:List Int),vs=[.ref a]->SqL K H a (ns.map V.int)->ns.length<=63->(∀H',Q (.bl true) H'):=1
def cx{n:Nat}(h:n<=1000):n<=sizeLine:=QA (aM h)
def HM{ns:List Int}{k:Int}(h0:0<=k)(h:k<(ns.length:Int)):∃v:Int,atI (ns.map V.int) k=some (.int v):=by
 let c:k.toNat<ns.length:=#[0]
 let q:atI (ns.map V.int) ((k.toNat:Nat):Int)=some (.int ns[k.toNat]):=cX (by rw[hI,fz c] <;> rfl);let d:((k.toNat:Nat):Int)=k:=#[0]
 rw[d]at q;erw[_,q]
@[reducible] def iG (X:Cx) (N:List Str) (scope:Scope) (cl:List (Str×Addr)) (s:Shared) (H:Hp) (e:List Addr):Cx where
 prog:=X.prog
 w:=X.w
 K:=X.K
 mg:=X.mg
 base:=X.base
 A:=X.A
 N:=N
 s₀:=s
 H₀:=H
 env:=compEnvC scope cl ‹s› X.env
 outer:=X.stack
 stack:=X.stack
 ex:=e
 fn:=λ_=>false
 calm:=X.calm
 pn:=[]
 xe:=λ_ _=>False
structure CompScope(X:Cx)(x:Str)(N:List Str)(ix:List Nat)(scope:Scope)(cl:List (Str×Addr)):Prop where
 clos:closureFor scope X.env=pure cl
 nocell:∀y∈scope.names,y.2≠.cell
 kind:scope.kind=.function
 names:∀y∈scope.names,y.2=.local->scope.names.lookup y.1=some .local
 own:scope.names.lookup x=some .local
 nd:(x::N).Nodup
 sub:∀p∈cl,X.env.cells.lookup p.1=some p.2
 has:((relabel scope X.env).names.all λp=>!(p.2==.cell||p.2==.free)||(cl.lookup p.1).isSome)=true
 outs:∀(j:Nat)(y:Str),N[j]?=some y->(relabel scope X.env).names.lookup y=some .cell/\∃k c,ix[j]?=some k/\X.N[k]?=some y/\cl.lookup y=some c/\X.env.scope.names.lookup y=some .cell
def outs(ix:List Nat)(σ:St):St:=ix.map λk=>(σ[k]?).join
section
variable {X:Cx}{Pc:#[7]}{σ:St}{x:Str}{N:List Str}{ix:List Nat}{scope:Scope}{cl:List (Str×Addr)}{fp:List Addr}{H3:Hp}{s3:Shared}
def CompScope.cells(S:CompScope X x N ix scope cl){y:Str}{c:Addr}(h:cl.lookup y=some c):X.env.cells.lookup y=some c:=S.sub _ (Pt h)
def xG{M:List Str}(S:CompScope X x N ix scope cl)(d:#[8] H3 s3)(hf:∀b∈fp,jK X Pc H3 b)(j:∀b∈fp,b<‹s3›):(iG X M scope cl s3 H3 fp).Ok where
 mod:=d.ok.mod
 kind:=S.kind
 glob:=d.ok.glob
 blt:=d.ok.blt
 above:=eS _
 inj:=λy z c h1 h2=>d.ok.inj y z c (S.cells h1) (S.cells h2)
 has:=λy g=>by
  let q:=List.all_eq_true.mp S.has;let g:(relabel scope X.env).names.lookup y=some .cell∨(relabel scope X.env).names.lookup y=some .free:=g;let z:∀k:NameKind,(k==.cell||k==.free)=true->(relabel scope X.env).names.lookup y=some k->∃c,cl.lookup y=some c:=λk m e=>by
   let r:=q _ (Pt e);rw[m]at r;exact Option.isSome_iff_exists.mp #[r,0]
  rcases g with e | e
  . exact z _ (by rfl) e
  . exact z _ (by rfl) e
 cab:=λ_ _ h _=>nomatch h
 hd:=d.ok.hd
 frames:=d.ok.frames
 stk:=.inl rfl
 exf:=λb hb=>%[i2 (j b hb)|λy c e=>(hf b hb).2.2.2.2.1 y c (S.cells e)]
 bs:=λb o e=>d.bs b o e
 bsz:=hE d.ok.bsz d.sz
 noex:=λb o e hb=>by
  rcases(hf b hb).2.2.2.1 with z | z
  . exact d.ok.noex b o e z
  . exact absurd (oD (f4 e) (hE d.ok.bsz z)) (ri _)
 exfs:=λb hb z=>by
  rcases qA0 (d.stkSub b z)with e | e
  . exact(hf b hb).2.1 e
  . exact(hf b hb).2.2.1 e
 funs:=d.stack
 frf:=d.stkFree
def ux(pre:List Str)(S:CompScope X x N ix scope cl)(t:#[8] H3 s3)(hf:∀b∈fp,jK X Pc H3 b)(Pj:∀b∈fp,b<‹s3›)(D:ix.length=N.length){h1:Heap}{t':Nat}{m:#[9]}
 (hn:h1.Ns ‹s3› m)(C:∀b o,s3.heap.get? b=some o->h1.get? b=some o):Inv (iG X (pre++N) scope cl s3 H3 fp) [] (List.replicate pre.length none++outs ix σ) H3 { s3 with heap:=h1,toks:=t' } where
 ok:=xG S t hf Pj
 os:=rfl
 bare:=t.bare
 base:=Un.kept C
 loc:=by
  erw[m,hn,λi y v J h2 h3=>?_];let n:(pre++N)[i]?=some y:=J;let d:(List.replicate pre.length none++outs ix σ)[i]?=some (some v):=h2
  by_cases L:i<pre.length
  . rw[PF (by rw[O3];exact L),List.getElem?_replicate,Pe L]at d;cases d
  . let O:=Nat.le_of_not_lt L;rw[yl O]at n;rw[yl (by rw[O3];exact O),O3]at d;generalize i-pre.length=j at n d;let%[hr,k,c,e1,e2,e3|U]:=S.outs j y n;unfold outs at d;rw[hI,e1]at d;let g:(σ[k]?).join=some v:=j3 d;let e5:σ[k]?=some (some v):=by
     cases q:σ[k]? with
     |none=>rw[q]at g;cases g
     |some o=>rw[q]at g;exact congrArg some g
    erw[m0,_,hl]at t.loc;let%[u,r|l]:=hl k y v e2 e5 (.inr (.inl U));erw[u,r,.inr %[.inl hr,c,e3|6]];rcases l with⟨kk,_⟩ | ⟨_,c',Y,z⟩
    . let B:X.env.scope.names.lookup y=some .local:=kk;rw[U]at B;cases B
    . rw[S.cells e3]at Y;cases Y;erw[o,M,hd]at z;erw[o,C _ _ M,hd]
 cell:=λy c e=>by
  let%[v,o,M|hd]:=t.cell y c (S.cells e);erw[v,o,C _ _ M,hd]
 free:=t.hok.fresh (eS _)
 freeC:=λy c e=>t.freeC y c (S.cells e)
 pin:=λp hp=>absurd (show p∈([]:#[7])from hp) #[2]
 hok:=t.hok.kept C
 len:=by
  show(List.replicate pre.length (none:Option V)++outs ix σ).length=(pre++N).length
  simp [outs,D]
def vA(j:#[8] H3 s3)(hf:∀b∈fp,jK X Pc H3 b){σ':St}{d:Heap}{m:List Str}(J:Inv (iG X m scope cl s3 H3 fp) [] σ' g s')(hb:Heap.SameBut ‹s3› s'.heap d):
 #[8] g { s' with heap:=d }:=by
 let ne:∀b o,s3.heap.get? b=some o->b≠‹s3›:=λb o e=>i2 (f4 e)
 let B:Un (frs X.stack) fp H3 g s3.heap s'.heap:=J.base;apply j.call' (s':={ s' with heap:=d }) (ch:=fp) J.os ⟨λb o e n h1 h2=>(hb.2 b (ne b o e)).trans (B.keep b o e n h1 h2),λb o e n h1 h2=>?_,B.free,λb o e h2=>?_,B.tups,B.frzs,B.tbls⟩ (λb r e=>?_) J.bare (λb z=>?_)
 . let%[t|q]:=B.slot b o e n h1 h2;erw[t,(hb.2 b (ne b o e)).trans q]
 . let%[u|q]:=B.there b o e h2;erw[u,(hb.2 b (ne b o e)).trans q]
 . let fr:g ‹s3›=none:=J.free;refine(J.hok b r e).stay (λc v hc q=>(hb.2 c ?_).trans q) (λ_ q=>q) λ_ _ q=>q
   rintro rfl;rcases hc with rfl | hc
   . rw[fr]at e;cases e
   . rw[fr]at hc;cases hc
 . let%[_,h2,_,h4,h5|h6]:=hf b z;erw[h4,h2,h5,h6]
end
abbrev TBl:=St->Hp->(Hp->Prop)->VK->Prop
def PB(X:Cx)(b:List Expr)(d:Expr)(j:TBl):Prop:=
 ∀(Pc:#[7])(s:Shared)(σ:St)(H:Hp)(skip:Hp->Prop)(keep:VK),#[8] H s->j σ H skip keep ->
  ‹X.w› (forIn b true λc r=>if r=true then do let ok ←isTrue c X.env (eval c X.env);pure (ForInStep.yield ok)else pure (ForInStep.yield r))
   (λok e=>if ok=true then ‹X.w› (eval d X.env) (EP X Pc σ keep) X.xe e else ∃g,#[8] g e/\skip g) X.xe s
def Se(b:TE):TBl:=λσ H _ keep=>b σ H keep
def Sf(tc:TT)(d:TE):TBl:=λσ H skip keep=>tc σ H λb c=>if b=true then d σ c keep else skip c
def cu(he:PE X b c):PB X [] b (Se c):=by
 exists 4,skip,keep,I,h;apply wpAny_tests_nil ?_;rw[Pe rfl];exact he Pc s σ H keep I h
def yh(hc:PT X c tc)(he:PE X e m):PB X [c] e (Sf tc m):=by
 exists 4,skip,keep,I,h;apply wpAny_tests_one (thn (hc Pc s σ H _ I h) λb s1 ⟨g,j,d⟩=>?_);cases b with
 |true=>
   rw[Pe rfl]at d ⊢;exact he Pc s1 σ g keep j d
 |false=>
   rw[Pd ⋯]at d ⊢;erw[g,j,d]
def qK(J:It)(D:Addr)(ix:List Nat)(g:TBl)(σ:St)(H:Hp)(Q:VK):Prop:=∃W:Nat->Nat->Hp->Prop,(∃m,W 0 m (upd H D (.lst [])))/\∀i m b,W i m b ->
 (J.stop i b/\Q (.ref D) b)∨(J.go i b/\∀y e,J.yld i b y e->g (some y::outs ix σ) e (λd=>∃c,c<m/\W (i+1) c d)
  λz d=>∃ys,d D=some (.lst ys)/\ys.length<sizeLine/\∃c,c<m/\W (i+1) c (upd d D (.lst (ys++[z]))))
def zB(c:TI)(ix:List Nat)(d:TBl):TE:=λσ H Q=>c σ H λJ b=>∀D,b D=none->qK J D ix d σ b Q
section
variable {prog:Program}{w:World}{A:Around}{E:#[6]}{R:Result->Shared->Prop}{s:Shared}
def zc{e b d:Expr}{g:List Expr}{scope:Scope}{pos:Pos}{u j:Value}{env:Env}(I:Nat->Shared->Prop)
 (turn:∀n s,I n s->‹w.A› (pyNext u) (λr s1=>match r with
  |none=>R (.ok .next) s1
  |some v=>‹w.A› (letOwnedTupleGo b u v) (λ_ o=>‹w.A› (assign b env v) (λ_ B=>
   ‹w.A› (forIn g true λc r=>if r=true then do let ok ←isTrue c env (eval c env);pure (ForInStep.yield ok)else pure (ForInStep.yield r)) (λok y=>
    if ok=true then ‹w.A› (eval e env) (λx C=>
     ‹w.A› (call (.builtin "list.append") [j,x]) (λ_ D=>∃m,m<n/\I m D) (λ_ _=>False) C) (λ_ _=>False) y
    else ∃m,m<n/\I m y) (λ_ _=>False) B) (λ_ _=>False) o) (λ_ _=>False) s1) (λ_ _=>False) s)
 (n:Nat) (h:I n s) :
 codeAny (model prog w) A (.compLoop (.ListComp e [%[b,d,g|(0)]] scope pos) 0 u j env) R s:=by
 let up:∀{α:Type}{t:Sem α}{Q J:α->Shared->Prop}{L:#[6]}{s:Shared},‹w.A› t Q (λ_ _=>False) s->(∀a s,Q a s->J a s)->‹w.A› t J L s:=
  λh q=>OA h q λ_ _ f=>f.elim
 apply codeAny_loop rfl I (λn s M=>?_) n h;show wpAny _ A ((compTurn (.ListComp e [%[b,d,g|(0)]] scope pos) 0 u j env).onRaise (λx=>do noteFrame x env;theTreesLotGoes x)) _ _ s;apply wpAny_noted ?_;rw[compTurn_list];apply eC (wpAny_standAt (eC (up (turn n s M) λr s1 h1=>?_)));cases r with
 |none=>exact fu h1
 |some v=>
   apply eC (up h1 λ_ o z=>?_);apply eC (up z λ_ B h2=>eC (up h2 λok y h3=>?_));cases ok with
   |false=>exact fu %[1|h3]
   |true=>
     exact eC (eC (up h3 λx C h4=>eC (up h4 λ_ D h5=>fu (fu %[1|h5]))))
end
def qF{Y:Cx}{C:Expr}{scope:Scope}{pos:Pos}{D:Addr}{R:Result->Shared->Prop}{Pf:St->Prop}{W:Nat->Nat->Hp->Prop}{σ0:St}{m0:Nat}
 (hc:Y.calm=true)(hx:∀v s,Y.xe v s->False)(T:Turn Y.prog Y.w Y.K L J x it tn)(hg:PG Y L g)(hb:PB Y ab ac tb)(q:∀{j:Hp},(∀b∈x,j b=none)->∀b∈x,jK Y [] j b)
 (turn:∀i m M,W i m M->(J.stop i M/\∀ σ' s',Pf σ'->Inv Y [] σ' M s'->R (.ok .next) s')∨(J.go i M/\∀y H3,J.yld i M y H3->∀ σ',Pf σ'->g y σ' H3 λσ8 H8=>Pf σ8/\tb σ8 H8 (λH4=>∃c,c<m/\W (i+1) c H4)
  λz H4=>∃ys,H4 D=some (.lst ys)/\ys.length<sizeLine/\∃c,c<m/\W (i+1) c (upd H4 D (.lst (ys++[z])))))
 (p0:Pf σ0) (I0:Inv Y [] σ0 H0 s0) (an:tn 0 s0.heap) (f0:∀b∈x,H0 b=none) (w0:W 0 m0 H0) :
 codeAny (model Y.prog Y.w) Y.A (.compLoop (.ListComp ac [%[L,C,ab|(0)]] scope pos) 0 (.ref it) (.ref D) Y.env) R s0:=by
 apply zc (λn s'=>∃i σ' j,Pf σ'/\Inv Y [] σ' j s'/\tn i s'.heap/\(∀b∈x,j b=none)/\W i n j) ?_ m0 %[(0),_,_,p0,I0,an,f0|w0];rintro n s5 ⟨i,σ5,H5,p5,I5,N,O,w5⟩;rcases turn i n H5 w5 with⟨stop,qn⟩ | ⟨go,step⟩
 . apply thn (T.done Y rfl rfl rfl hc i [] s5 _ H5 _ I5 (q O) N stop) λr s6 ⟨hr,I6⟩=>?_
   subst hr;exact qn _ _ p5 I6
 . apply thn (T.item Y rfl rfl rfl hc i [] s5 _ H5 _ I5 (q O) N go) λr s6 ⟨u,hr,h6⟩=>?_
   subst hr;apply thn h6 λ_ s7 ⟨y,H7,I7,r7,y7,t,ap⟩=>?_
   apply OA (hg _ s7 _ H7 y u _ (I7.pinned (q ap) (T.obj _ _ t)) r7 (step y H7 y7 _ p5)) (λ_ s8 ⟨σ8,H8,I8,p8,q8⟩=>?_) hx;let again:∀{U:Hp}{s9:Shared},Inv Y ([]++tL x s7.heap) σ8 U s9->(∃c,c<n/\W (i+1) c U) ->
    ∃m,m<n/\∃i σ' j,Pf σ'/\Inv Y [] σ' j s9/\tn i s9.heap/\(∀b∈x,j b=none)/\W i m j:=fun{U s9} I9 ⟨c,hm,w9⟩=>by
    erw[c,hm,i+1,_,U,p8,I9.unpinned,T.keep _ _ _ t λb hb o e=>(I9.pin (b,o) (xn _ (xn _ (kY hb e)))).1,λb hb=>?_,w9];let%[o,e|d]:=T.obj _ _ t b hb;exact(I9.pin (b,o) (xn _ (xn _ (kY hb e)))).2.1
   apply OA (hb _ s8 _ _ _ _ I8 q8) (λok s9 B=>?_) hx;cases ok with
   |false=>
     rw[Pd ⋯]at B ⊢;erw[U,I9,B]at B;exact again I9 B
   |true=>
     rw[Pe rfl]at B ⊢;apply OA B (λu ar ⟨z,as,av,aw,ys,hy,hz,aA⟩=>?_) hx;apply OA (eE _ ar _ as (.ref D) [z] (.ref D) [u] (λ_ j=>∃c,c<n/\W (i+1) c j) av rfl (.cons aw .nil) %[_,ys,z,1,1,hy,hz|aA]) (λ_ aK ⟨_,aL,aC,_,aH⟩=>?_) hx;exact again aC aH
structure Apart(X:Cx)(Pc:#[7])(H:Hp)(C:Addr):Prop where
 fr:H C=none
 lo:C≠X.env.locals
 sz:X.s₀.heap.objs.size<=C
 ce:∀y c,X.env.cells.lookup y=some c->c≠C
 pi:∀p∈X.pn++Pc,p.1≠C
def Apart.turn{σ:St}{h':Heap}(a:Apart X Pc H C)(I:#[8] H s)(c:Heap.SameBut C s.heap h'):#[8] H { s with heap:=h' }:=
 I.turned (t':=s.toks) (λb o ne e=>(c.2 b ne).trans e) a.fr a.lo (.inr a.sz) a.ce a.pi
section
variable {X:Cx}{x:Str}{N:List Str}{ix:List Nat}{scope:Scope}{cl:List (Str×Addr)}{elt iter:Expr}{ifs:List Expr}{px pos:Pos}{wi:TI}{tb:TBl}
def yW(hc:X.calm=true)(S:CompScope X x N ix scope cl)(as:ix.length=N.length)(hb:∀g r t,PB (iG X (x::N) scope cl g r t) ifs elt tb)
 {σ:St}{Q:VK}{t:List Addr}{RR:Value->Addr->Result->Shared->Prop}{E:#[6]}
 (I2:#[8] u d)(T:Turn X.prog X.w X.K (.Name x px) J t it tn)(an:tn 0 d.heap)(f2:∀b∈t,jK X Pc u b)
 (h:∀D,u D=none->∃W:Nat->Nat->Hp->Prop,(∃m,W 0 m (upd u D (.lst [])))/\∀i m r,W i m r ->
  (J.stop i r/\Q (.ref D) r)∨(J.go i r/\∀y H4,J.yld i r y H4->tb (some y::outs ix σ) H4 (λH5=>∃m',m'<m/\W (i+1) m' H5)
   λz H5=>∃ys,H5 D=some (.lst ys)/\ys.length<sizeLine/\∃m',m'<m/\W (i+1) m' (upd H5 D (.lst (ys++[z])))))
 (av:∀(D C:Addr)(H':Hp)(s':Shared)(m:#[9]),s'.heap.Ns C m->Apart X Pc H' C->#[8] H' s'->Q (.ref D) H'->RR (.ref D) C (.ok .next) s') :
 ‹X.w› (newList []) (λap g=>‹X.w› (newFunctionEnv scope X.env.globals cl [] X.env.qual none .none (some X.env)) (λB s4=>
  codeAny (model X.prog X.w) X.A (.compStart (.ListComp elt [%[.Name x px,iter,ifs|(0)]] scope pos) 0 (.ref it) ap { B with scope:=relabel scope X.env }) (RR ap B.locals) s4) E g) E d:=by
 apply rx (wpAny_newFunctionEnv S.nocell (by intro y hy;simp at hy) (λh1 j n=>?_) S.kind)
 dsimp only at j n ⊢
 let L:#[8] (upd u ‹d› (.lst [])) { d with heap:=d.heap.push { cls:=.type "list",dict:=none,data:=.seq ([]:List Value).toArray } }:=I2.lnew (its:=[]) (ys:=[]) (t':=d.toks) .nil (i1 _);let hD:u ‹d›=none:=I2.fresh;let%[W,%[m0|w0]|turn]:=h ‹d› hD;let O:∀b∈t,b<‹d›:=λb hb=>by
  let%[o,e|_]:=T.obj 0 _ an b hb;exact f4 e
 generalize ac:({ d with heap:=d.heap.push { cls:=.type "list",dict:=none,data:=.seq ([]:List Value).toArray } }:Shared)=g at L;let eh:d.heap.push { cls:=.type "list",dict:=none,data:=.seq ([]:List Value).toArray }=g.heap:=by rw[←ac]
 let et:d.toks=g.toks:=by rw[←ac]
 rw[eh]at j n ⊢;let aw:‹g›=‹d›+1:=by rw[←eh,PM]
 let U:∀b∈t,b<‹g›:=λb hb=>oD (O b hb) (by rw[aw];exact n9 _)
 let f3:∀b∈t,jK X Pc (upd u ‹d› (.lst [])) b:=λb hb=>by
  let%[q1|q2]:=f2 b hb;erw[by rw[az (i2 (O b hb))];exact q1,q2]
 let up:∀b o,g.heap.get? b=some o->h1.get? b=some o:=λb o e=>n.extBut b o (i2 (f4 e)) (gz _ e)
 let aA:∀b o,d.heap.get? b=some o->h1.get? b=some o:=λb o e=>up b o (by rw[←eh];exact gz _ e)
 let es:({ d with heap:=h1,toks:=d.toks+([]:List (Str×Value)).length }:Shared)={ g with heap:=h1,toks:=d.toks+([]:List (Str×Value)).length }:=by rw[←ac]
 rw [es];let I4:Inv (iG X (x::N) scope cl g (upd u ‹d› (.lst [])) t) [] (none::outs ix σ) (upd u ‹d› (.lst [])) { g with heap:=h1,toks:=d.toks+([]:List (Str×Value)).length }:=
  ux [x] S L f3 U as j up
 let ar:tn 0 h1:=T.keep 0 _ _ an λb _ o e=>aA b o e
 let ab:codeAny (model X.prog X.w) X.A (.compLoop (.ListComp elt [%[.Name x px,iter,ifs|(0)]] scope pos) 0 (.ref it) (.ref ‹d›) (compEnvC scope cl ‹g› X.env)) (RR (.ref ‹d›) ‹g›)
  { g with heap:=h1,toks:=d.toks+([]:List (Str×Value)).length }:=by
  let k:=xG (M:=x::N) S L f3 U;apply qF (Y:=iG X (x::N) scope cl g (upd u ‹d› (.lst [])) t) (Pf:=λσ'=>∃v0,σ'=v0::outs ix σ) hc (λ_ _ z=>z) T (ba (i:=0) S.nd rfl (.inl (P8 S.own)) (.inr (P8 S.own))) (hb _ _ _) (λhn b hb=>%[hn b hb,(k.exf b hb).1,k.exfs b hb,.inl hb,(k.exf b hb).2|λp hp=>absurd (show p∈([]:#[7])from hp) #[2]]) (λi m H5 w5=>(turn i m H5 w5).imp (fun⟨stop,qn⟩=>%[stop|λσ' s6 _ I6=>?_]) (fun⟨go,step⟩=>⟨go,λy r y7 σ' ⟨v0,e⟩=>by
   subst e;erw[%[|0],step y r y7]⟩)) ⟨none,rfl⟩ I4 ar (λb hb=>(f3 b hb).1) w0
  erw[m6,aC,_]at I6.loc;exact av _ _ H5 s6 m6 aC ⟨I6.free,Ne.symm (i2 L.lt),L.sz,λy c e z=>by
   let%[v|q]:=L.cell y c e;exact absurd q.lt (by rw[z];exact ri _),λp hp z=>absurd (f4 (L.pin p hp).1) (by rw[z];exact ri _)⟩ (vA L f3 I6 (Heap.SameBut.refl _ _)) qn
 exact Rv ab (T.self _ 0 _ _ _ ar ab)
def bL(hc:X.calm=true)(S:CompScope X x N ix scope cl)(c:ix.length=N.length)(j:PI X (.Name x px) iter wi)(hb:∀n o g,PB (iG X (x::N) scope cl n o g) ifs elt tb)
 (r:∀x,foldedSetIterable iter X.env x=pure x:=by intro _;rfl):PE X (.ListComp elt [%[.Name x px,iter,ifs|(0)]] scope pos) (zB wi ix tb):=by
 exists 4,Q,I,h;rw[eval_ListComp];apply QH (use:=none) rfl r S.clos S.kind S.names (thn (j Pc s σ H _ I h) λO s1 h1=>thn h1 λt U h2=>?_);erw[Y,g,tn,J,H2,1,u,T,d,v,R]at h2;apply yW hc S c hb (RR:=λe C=>compPost (model X.prog X.w) X.A X.xe none (EP X Pc σ Q) e C) u T d v R ?_;intro D C y s' m z B L q;erw[m,z,λM b=>%[.ref D,y,B.turn L b,1|q]]
def kP{i:Nat}{y:Str}{d b:Pos}(U:X.N.Nodup)(n:X.N[i]?=some y)(Y:Loc X.env.scope y)(hc:X.calm=true)(S:CompScope X x N ix scope cl)(o:ix.length=N.length)(hi:PI X (.Name x px) iter wi)(hb:∀s3 H3 O,PB (iG X (x::N) scope cl s3 H3 O) ifs elt tb)
 (r:swapsWith (.ListComp elt [%[.Name x px,iter,ifs|(0)]] scope pos) (some (.Name y d)) b.line X.env=pure true:=by rfl')
 (hs:∀x,foldedSetIterable iter X.env x=pure x:=by intro _;rfl)(hf:X.fn y=true∨X.env.scope.names.lookup y=some .local:=by first | exact .inl rfl | exact .inr rfl | assumption):
 PS X (.Assign [.Name y d] (.ListComp elt [%[.Name x px,iter,ifs|(0)]] scope pos) b) (λD σ H=>zB wi ix tb σ H λv g=>D.nx (σ.set i (some v)) g):=by
 exists 4,t,I,h;rw[exec_Assign_Name_used _ _ _ _ r];apply eC (wpAny_standAt (eC ?_));show wpAny _ X.A (do let _ ←comprehension (.ListComp elt [%[.Name x px,iter,ifs|(0)]] scope pos) scope X.env _ (newList []) false (eval iter X.env) (some (assign (.Name y d) X.env))) _ _ s;apply eC (OA (QH (use:=some (assign (.Name y d) X.env)) (Q:=λ_ s'=>SP X Pc t .next s') rfl hs S.clos S.kind S.names
  (thn (hi Pc s σ H _ I h) λxv s1 h1=>thn h1 λab s2 h2=>?_)) (λ_ s' hq=>fu (fu hq)) λ_ _ e=>e)
 erw[it,O,tn,J,H2,1,I2,T,u,f2,R]at h2;apply yW hc S o hb (RR:=λB C=>compPost (model X.prog X.w) X.A X.xe (some (assign (.Name y d) X.env)) (λ_ s'=>SP X Pc t .next s') B C) (Q:=λv g=>t.nx (σ.set i (some v)) g) I2 T u f2 R ?_;intro D C g s' m hn L I' q;show wpAny _ X.A (assign (.Name y d) X.env (.ref D)) _ _ _;apply wpAny_assign_Name (vc I' U n Y (v:=.ref D) rfl (λac M c=>?_) hf);erw[a,c,ha]at c;let ne:C≠a:=by
  rcases ha with z | z
  . rw[z];exact L.lo
  . exact Ne.symm (L.ce y a z)
 erw[m,hn.sameBut c ne,λan j=>%[_,g,L.turn M j|q]]
end
section
variable {X:Cx}{Pc:#[7]}{σ:St}{H:Hp}{s:Shared}{h':Heap}
def Inv.turnedNew{t':Nat}{ch:List Addr}{T:Addr}(I:#[8] H s)(k:∀b u,b∉ch->s.heap.get? b=some u->h'.get? b=some u)(hf:∀b∈ch,jK X Pc H b)(hT:‹s›<=T)
 (new:ObjOk X.prog X.w (upd H T o) h' T o):#[8] (upd H T o) { s with heap:=h',toks:=t' }:=by
 let d:∀b u,H b=some u->b∉ch:=λb u e z=>by rw[(hf b z).1]at e;cases e
 let g:H T=none:=I.hok.fresh hT;let lt:∀b u,s.heap.get? b=some u->b≠T:=λb u e=>i2 (oD (f4 e) hT)
 apply I.step (g':=s.gens) (d':=s.drawn) (ch:=ch) (λb hb=>?_) (λb u _ _ hc e _=>k b u hc e) (λb u _ _ hc e _=>%[u.slots|k b u hc e]) (λb u _ e n=>by rw[az (lt b u e)];exact n) (λb u hc e=>%[u|k b u hc e])
  (λb xs e=>by rw[az (aN e g)];exact e) (λb j u e=>by rw[az (aN e g)];exact e) (λb ps e=>%[#[]|by rw[az (aN e g),e];simp]) (λm t=>?_) (λb u e=>?_) I.bare
 . let%[_,h2,_,h4,h5|h6]:=hf b hb;erw[h4,h2,h5,h6]
 . erw[j,x,y,B,r]at t;erw[j,x,y,k _ j (λz=>(hf _ z).2.1 rfl) B,r]
 . by_cases hb:b=T
   . subst hb;rw[ah]at e;cases e;exact new
   . rw [az hb]at e;refine(I.hok b u e).stay (λc v hc q=>k c v ?_ q) (λc q=>by rw[az (aN q g)];exact q) λc xs q=>by rw[az (aN q g)];exact q
     rcases hc with z | z
     . rw[z];exact d b u e
     . exact d c _ z
def Inv.turnedL{t':Nat}{ch:List Addr}(I:#[8] H s)(k:∀b u,b∉ch->s.heap.get? b=some u->h'.get? b=some u)(hf:∀b∈ch,jK X Pc H b):#[8] H { s with heap:=h',toks:=t' }:=by
 let d:∀b u,H b=some u->b∉ch:=λb u e z=>by rw[(hf b z).1]at e;cases e
 apply I.step (g':=s.gens) (d':=s.drawn) (ch:=ch) (λb hb=>?_) (λb u _ _ hc e _=>k b u hc e) (λb u _ _ hc e _=>%[u.slots|k b u hc e]) (λ_ _ _ _ n=>n) (λb u hc e=>%[u|k b u hc e])
  (λ_ _ e=>e) (λ_ _ _ e=>e) (λb ps e=>%[#[]|by rw[e];simp]) (λm j=>?_) (λb u e=>?_) I.bare
 . let%[_,h2,_,h4,h5|h6]:=hf b hb;erw[h4,h2,h5,h6]
 . erw[g,o,t,x,r]at j;erw[g,o,t,k _ g (λz=>(hf _ z).2.1 rfl) x,r]
 . apply (I.hok b u e).stay (λc v hc q=>k c v ?_ q) (λ_ q=>q) λ_ _ q=>q
   rcases hc with z | z
   . rw[z];exact d b u e
   . exact d c _ z
end
def Ite(K:W.Frag)(a:Addr):It:=
 ⟨λi H=>∃xs x,SqL K H a xs/\xs[i]?=some x,λi H y b=>∃t,y=.ref t/\H t=none/\∀xs x,SqL K H a xs->xs[i]?=some x->b=upd H t (.tup [.int i,x]),λi H=>∃xs,SqL K H a xs/\xs.length<=i⟩
def Cn{K:W.Frag}{q:List Expr}{k:Nat}{pos:Pos}(a e m:Addr)(r:e≠m):
 Turn P w K (.Tuple q k pos) (Ite K a) [e,m] e (λi h=>(∃g,IsEnum h e m i g)/\h.IsListIter m a i) where
 mem:=by simp
 obj:=λi h st b hb=>by
  erw[%[g|he],o,e2,c,d]at st;rcases qA0 hb with z | z
  . subst z;erw[_,he,λv z=>nomatch z]
  . let Y:=Pn z;subst Y;erw[o,e2,λv z=>by rw[d]at z;cases z]
 keep:=λi h h' st k=>by
  erw[%[g|he],j]at st;erw[%[g|k e #[2] _ he],j.at λo x=>k m #[2] o x]
 item:=by
  exists 5;erw[xs,x,J,L]at hg;let%[its,M,p|hz]:=I.list J;let%[u,hu|ru]:=M.get L;erw[%[g|he],j]at st;apply wpAny_pyNext_enum_item he j p.isList (x:=u) #[hu,0] r λh1 ho t hT hsz hk=>?_
  erw[0,wpAny_letOwnedTupleGo_enum ho λh2 N n=>?_];let B:e<‹s›:=f4 he;let C:h2.get? ‹s›=some { cls:=.type "tuple",data:=.seq #[.int i s.toks,u] }:=(n.2 _ (Ne.symm (i2 B))).trans hT;let I2:#[8] (upd H ‹s› (.tup [.int i,x])) { s with heap:=h2,toks:=s.toks+1 }:=by
   apply I.turnedNew (ch:=[e,m]) (λb ob hb O=>?_) hf (eS _) %[by show 2<=sizeLine;decide,[.int i s.toks,u],.cons %[|0] (.cons ru .nil),%[_,C,1|0],_,C|1];let U:b≠e:=λz=>hb (by simp [z])
   let b2:b≠m:=λz=>hb (by simp [z])
   exact(n.2 b U).trans (hk b ob U b2 O)
  erw[.ref ‹s›,_,I2,1,%[0,I.hok.fresh (eS _)|λys y hy D=>?_],%[%[u|by simpa using N]|t.at λo z=>(n.2 m (Ne.symm r)).trans z],λb hb=>?_]
  . let e1:=I.list_inj hy J;subst e1;rw[L]at D;cases D;rfl
  . let z:=hf b hb;let Pj:b<‹s›:=by
     rcases qA0 hb with y | y
     . rw[y];exact B
     . rw[Pn y];erw[o,e2,_]at j;exact f4 e2
    rw[az (i2 Pj)];exact z.1
 done:=by
  exists 5;erw[xs,J,L]at hg;let%[its,M,p|hz]:=I.list J;erw[%[g|he],j]at st;let hl:=M.length;exact wpAny_pyNext_enum_end (I.ok.hd hc) he j p.isList (Array.getElem?_eq_none (by simp;omega)) λh' O=>%[1|I.turnedL (t':=s.toks) (ch:=[e,m]) (λb o hb eo=>O b o (λz=>hb (by simp [z])) eo) hf]
 self:=λ_ _ _ _ _ st h=>by
  erw[%[g|he],_]at st;exact QU he h
section
variable {X:Cx}{elts:List Expr}{k:Nat}{tpos:Pos}
instance ZiEnum(K:W.Frag)(R:(It->Hp->Prop))(x:V)(H1:Hp):∀a,x=.ref a->(∃xs,SqL K H1 a xs)->R (Ite K a) H1:=0
def iEnum(K:W.Frag)(tl:TE):TI:=λσ H R=>tl σ H λx b=>ZiEnum K R x b
def IH{p pos:Pos}(hg:Gl X "enumerate")(j:X.mg "enumerate"=none)(hl:PE X l tl)(e:starEach [l] X.env=[(false,eval l X.env)]:=by rfl):
 PI X (.Tuple elts k tpos) (.Call (.Name "enumerate" p) [l] [] pos) (iEnum X.K tl):=by
 exists 4,R,I,h;apply Call_ (jh I hg j boot_enumerate (O2 ?_ e rfl));rw[e];show wpAny _ _ (spliced ((false,eval l X.env)::backTo pos (starEach [] X.env))) _ _ s;apply PU (thn (hl Pc s σ H _ I h) λu s1 ⟨x,g,c,r1,a,ex,⟨xs,m⟩,q⟩=>?_);subst ex;cases r1;let%[its,r,p|t]:=c.list m;apply Qc ?_;apply call_enumerate_list p.isList λh' he d hsz n=>?_
 apply QU he ?_;let o:#[8] g { s1 with heap:=h' }:=c.kept (t':=s1.toks) n;erw[‹s1›+1,[‹s1›+1,‹s1›],_,_,g,1,o,Cn a _ _ (P3 (Px _)),%[%[_|he]|d],λb hb=>?_,q];rcases qA0 hb with z | z
 . rw[z];exact c.fpOk (n9 _) (c.hok.fresh (n9 _))
 . rw[Pn z];exact c.fpOk (eS _) (c.hok.fresh (eS _))
end
def Hh{K:W.Frag}{xs:List V}{g:TG}{j:TS}{D:Ends}{σ:St}{H:Hp}(Pv:Nat->St->Hp->Prop)(h0:Pv 0 σ H)(hl:∀i σ H,i<=xs.length->Pv i σ H->SqL K H a xs)
 (o:∀i x σ H t,xs[i]?=some x->Pv i σ H->H t=none->g (.ref t) σ (upd H t (.tup [.int i,x])) λσ2 d=>j { D with nx:=Pv (i+1),ct:=Pv (i+1),bk:=D.nx } σ2 d)(hd:∀ σ H,Pv xs.length σ H->D.nx σ H):
 ∃ W:Nat->Nat->St->Hp->Prop,(∃m,W 0 m σ H)/\∀i m σ H,W i m σ H ->
  ((Ite K a).stop i H/\D.nx σ H)∨((Ite K a).go i H/\∃N:St->Hp->Prop,(∀ σ' b,N σ' b->∃n,n<m/\W (i+1) n σ' b)/\∀x b,(Ite K a).yld i H x b->g x σ b λσ2 d=>j { D with nx:=N,ct:=N,bk:=D.nx } σ2 d):=by
 erw[λi m σ H=>m=xs.length-i/\i<=xs.length/\Pv i σ H,%[xs.length,by simp,i1 _|h0],6];rintro i m σ H ⟨rfl,r,p⟩;let q:=hl i σ H r p
 by_cases c:i<xs.length
 . refine .inr %[%[xs,xs[i],q|by simp [c]],Pv (i+1),λσ' b u=>%[xs.length-(i+1),3,1,c|u]|λx b y=>?_];erw[t,1,v,e]at y;let z:=e xs xs[i] q (by simp [c]);subst z;exact o i xs[i] σ H t (by simp [c]) p v
 . let e:i=xs.length:=#[0]
   subst e;exact .inl %[%[xs,q|eS _]|hd σ H p]
mutual
inductive Rep(K:W.Frag)(H:Hp):V->PyData->Prop
 |non:Rep K H .non .none
 |bl (b:Bool):Rep K H (.bl b) (.bool b)
 |int (i:Int):Rep K H (.int i) (.int i)
 |str (x:Str):Rep K H (.str x) (.str x)
 |tup {a:Addr} {xs:List V} {ds:List PyData}:SqT K H a xs->RepAll K H xs ds->Rep K H (.ref a) (.tuple ds)
 |lst {a:Addr} {xs:List V} {ds:List PyData}:SqL K H a xs->RepAll K H xs ds->Rep K H (.ref a) (.list ds)
inductive RepAll(K:W.Frag)(H:Hp):List V->List PyData->Prop
 |nil:RepAll K H [] []
 |cons {x:V} {d:PyData} {xs:List V} {ds:List PyData}:Rep K H x d->RepAll K H xs ds->RepAll K H (x::xs) (d::ds)
end
section
variable {X:Cx}{Pc:#[7]}{σ:St}{H:Hp}{s:Shared}
mutual
def Rep.reads(I:#[8] H s):∀{x:V}{d:PyData}{v:Value},Rep X.K H x d->RelV x v->∃c,Reads s.heap v d c
 |_,_,v,.non,r=>by cases(show v=Value.none from r);erw[_,Reads.none]
 |_,_,v,.bl b,r=>by cases(show v=Value.bool b from r);erw[_,Reads.bool b]
 |_,_,v,.int i,r=>by let%[t|e]:=(show ∃t,v=Value.int i t from r);cases e;erw[_,Reads.int i t]
 |_,_,v,.str x,r=>by let%[t|e]:=(show ∃t,v=Value.str x t from r);cases e;erw[_,Reads.str x t]
 |_,_,v,.tup (a:=a) h q,r=>by
   cases(show v=Value.ref a from r);let%[its,g,%[o,j,hc,n|hd]|_]:=I.tuple h;let%[c|z]:=RepAll.reads I q g;erw[_,reads_tuple_at j hc hd #[z,0]]
 |_,_,v,.lst (a:=a) h q,r=>by
   cases(show v=Value.ref a from r);let%[its,g,%[o,n,j,hc,_|hd]|_]:=I.list h;let%[c|z]:=RepAll.reads I q g;erw[_,reads_list_at j hc hd #[z,0]]
def RepAll.reads(I:#[8] H s):∀{xs:List V}{b:List PyData}{vs:List Value},RepAll X.K H xs b->Vals xs vs->∃c,ReadsAll s.heap vs b c
 |_,_,_,.nil,.nil=>%[_|ReadsAll.nil]
 |_,_,_,.cons h q,.cons r rs=>by
   let%[c|z]:=Rep.reads I h r;let%[bs|y]:=RepAll.reads I q rs;erw[_,ReadsAll.cons z y]
end
end
def dq{K:W.Frag}:∀ns:List Int,RepAll K H (ns.map V.int) (ns.map PyData.int)
 | []=>.nil
 |n::r=>.cons (.int n) (dq r)
section
variable {X:Cx}
instance rEqD(K:W.Frag)(x:V)(y:V)(H:Hp)(Q:VK):∀d e,Rep K H x d->Rep K H y e->SeqAt.shaped d=true->SeqAt.shaped e=true->Q (.bl (PyData.eqv d e)) H:=0
instance rNeD(K:W.Frag)(x:V)(y:V)(H:Hp)(Q:VK):∀d e,Rep K H x d->Rep K H y e->SeqAt.shaped d=true->SeqAt.shaped e=true->Q (.bl (!PyData.eqv d e)) H:=0
def oI(b:X.A.units+64<cLine):OpR X (compareOp .Eq) (rEqD X.K):=by
 exists 4,x,y,v,u,Q,I,c,g,h;erw[d,e,hd,he,sd,j,q]at h;let%[n|r1]:=Rep.reads I hd c;let%[bs|m]:=Rep.reads I he g;exact eq_dataH r1 m sd j b %[.bl _,H,I,1|q]
def wO(b:X.A.units+64<cLine):OpR X (compareOp .NotEq) (rNeD X.K):=by
 exists 4,x,y,v,u,Q,I,c,g,h;erw[d,e,hd,he,sd,j,q]at h;let%[n|r1]:=Rep.reads I hd c;let%[bs|m]:=Rep.reads I he g;exact ne_dataH r1 m sd j b %[.bl _,H,I,1|q]
instance rCatT0(K:W.Frag)(x:V)(y:V)(H:Hp)(Q:VK):∀a b ys,x=.ref a->y=.ref b->SqT K H a []->SqT K H b ys->Q (.ref b) H:=0
def pE:OpR X (binaryOp .Add) (rCatT0 X.K):=by
 exists 4,x,y,v,u,Q,I,z,B,h;erw[a,b,ys,1,1,ha,hb,q]at h;cases z;cases B;let%[its,r1,C|_]:=I.tuple ha;let%[c,M,p2|_]:=I.tuple hb;let%[%[cls,D,data|J],r,hc,n|hd]:=id C;let%[%[t,m,data2|o],d,g,L|j]:=id p2;simp only at hc hd g j;subst hc hd g j;let e:its=[]:=r1.nil_iff.mpr rfl;exact concat_meets %[_,r|1] ⟨_,d,rfl⟩ RZ seq_tuple_add Ru Rt (Rs _ _)
  (tuple_addW0 a b its.toArray c.toArray n L D m J o (by simp [e])) %[r,d|%[.ref b,H,I,1|q]]
end
def Nx(n i:Nat)(Pv:Nat->Hp->Prop)(H:Hp):Prop:=∃b,b<n-i/\(b=n-(i+1)/\i+1<=n/\Pv (i+1) H)
def Nx.of{n i:Nat}{Pv:Nat->Hp->Prop}{H:Hp}(h:i<n)(p:Pv (i+1) H):Nx n i Pv H:=%[n-(i+1),3,1,h|p]
def gy{K:W.Frag}{xs:List V}{c:TBl}{Q:VK}(Pv:Nat->Hp->Prop)(h0:Pv 0 (upd H D (.lst [])))(hl:∀i H,i<=xs.length->Pv i H->SqT K H a xs)
 (d:∀i x H,xs[i]?=some x->Pv i H->c (some x::outs ix σ) H (Nx xs.length i Pv) λz b=>∃ys,b D=some (.lst ys)/\ys.length<sizeLine/\Nx xs.length i Pv (upd b D (.lst (ys++[z]))))(hd:∀H,Pv xs.length H->Q (.ref D) H):
 qK (Itt K a) D ix c σ H Q:=by
 erw[λi m H=>m=xs.length-i/\i<=xs.length/\Pv i H,%[xs.length,by simp,i1 _|h0],6];rintro i m H ⟨rfl,g,p⟩;let q:=hl i H g p
 by_cases j:i<xs.length
 . refine .inr %[%[xs,xs[i],q|by simp [j]]|λx b y=>?_];erw[e,y]at y;subst e;exact d i x _ (y xs q) p
 . let e:i=xs.length:=#[0]
   subst e;exact .inl %[%[xs,q|eS _]|hd H p]
def cW{K:W.Frag}{xs:List V}{c:TBl}{Q:VK}(Pv:Nat->Hp->Prop)(h0:Pv 0 (upd H D (.lst [])))(hl:∀i H,i<=xs.length->Pv i H->SqL K H a xs)
 (d:∀i x H,xs[i]?=some x->Pv i H->c (some x::outs ix σ) H (Nx xs.length i Pv) λz b=>∃ys,b D=some (.lst ys)/\ys.length<sizeLine/\Nx xs.length i Pv (upd b D (.lst (ys++[z]))))(hd:∀H,Pv xs.length H->Q (.ref D) H):
 qK (Itl K a) D ix c σ H Q:=by
 erw[λi m H=>m=xs.length-i/\i<=xs.length/\Pv i H,%[xs.length,by simp,i1 _|h0],6];rintro i m H ⟨rfl,g,p⟩;let q:=hl i H g p
 by_cases j:i<xs.length
 . refine .inr %[%[xs,xs[i],q|by simp [j]]|λx b y=>?_];erw[e,y]at y;subst e;exact d i x _ (y xs q) p
 . let e:i=xs.length:=#[0]
   subst e;exact .inl %[%[xs,q|eS _]|hd H p]
def dR{lo:Int}{n:Nat}{c:TBl}{Q:VK}(Pv:Nat->Hp->Prop)(h0:Pv 0 (upd H D (.lst [])))
 (g:∀i H,i<n->Pv i H->c (some (.int (lo+i))::outs ix σ) H (Nx n i Pv) λz b=>∃ys,b D=some (.lst ys)/\ys.length<sizeLine/\Nx n i Pv (upd b D (.lst (ys++[z]))))(hd:∀H,Pv n H->Q (.ref D) H):
 qK (Itr lo n) D ix c σ H Q:=by
 erw[λi m H=>m=n-i/\i<=n/\Pv i H,%[n,by simp,i1 _|h0],6];rintro i m H ⟨rfl,j,p⟩
 by_cases d:i<n
 . refine .inr %[d|λx b y=>?_];erw[e,y]at y;subst e y;exact g i _ d p
 . let e:i=n:=#[0]
   subst e;exact .inl %[eS _|hd H p]
def CompScope.closed{X:Cx}{x:Str}{scope:Scope}(b:closureFor scope X.env=pure [])(c:∀y∈scope.names,y.2≠.cell)(d:scope.kind=.function)(e:∀y∈scope.names,y.2=.local->scope.names.lookup y.1=some .local)
 (g:scope.names.lookup x=some .local)(m:((relabel scope X.env).names.all λp=>!(p.2==.cell||p.2==.free)||((([]:List (Str×Addr))).lookup p.1).isSome)=true):CompScope X x [] [] scope [] where
 clos:=b
 nocell:=c
 kind:=d
 names:=e
 own:=g
 nd:=by simp
 sub:=λp n=>absurd n #[2]
 has:=m
 outs:=λj y h=>by simp at h
section
variable {X:Cx}
def yL(K:W.Frag)(hK:X.K=K:=by rfl):IxR X (rIxL K):=by subst hK;exact ix_list
end
def Its(z:Str):It:=⟨λi _=>i<z.cps.size,λi H x b=>b=H/\∃c,z.cps[i]?=some c/\x=.str %[|#[c]],λi _=>z.cps.size<=i⟩
def so{prog:Program}{w:World}{A:Around}(hh:A.handled=none)(I:Addr)(x:Str)(t:Tok):Walks prog w A I [I] [I] x.cps.size (SignAt x) (λi h=>h.IsStrIter I (strIterType x) x t i):=by
 unfold strIterType
 split
 . exact Walks.strAscii hh I x t
 . exact Walks.strWide hh I x t
def Eo{K:W.Frag}{y:Str}{C:Pos}(z:Str)(t:Tok)(g:Addr):Turn P w K (.Name y C) (Its z) [g] g (λi h=>i<=z.cps.size/\h.IsStrIter g (strIterType z) z t i) where
 mem:=by simp
 obj:=λi h st b hb=>by
  let e:b=g:=#[hb,0]
  subst e;erw[_,o,e,c,d]at st;erw[o,e,λv z=>by rw[d]at z;cases z]
 keep:=λi h h' st k=>by
  erw[D,o,e,r]at st;erw[D,o,k g #[2] o e,r]
 item:=by
  exists 5;let%[f0,f1,J,j,m|n]:=hf g #[2];refine(so (I.ok.hd hc) g z t).item i s _ E hg st.2 λv h' B hP Pi q=>?_
  erw[c,u,x,1]at hP;let L:#[8] H { s with heap:=h',toks:=B }:=I.turned (λb o hb e=>q b o #[hb,0] e) f0 f1 j m n;erw[0,My (a:=()) rfl %[.str %[|#[c]],H,L,%[|0],%[1,c,x|1],%[hg|Pi]|λb hb=>(hf b hb).1]]
 done:=by
  exists 5;let%[f0,f1,J,j,m|n]:=hf g #[2];let e:i=z.cps.size:=Nat.le_antisymm st.1 hg;subst e;refine(so (I.ok.hd hc) g z t).done s _ E st.2 λh' B q=>?_
  erw[1,I.turned (λb o hb e=>q b o #[hb,0] e) f0 f1 j m n]
 self:=λA i s Q E st h=>by
  erw[_,st]at st;unfold strIterType at st
  split at st
  . exact wpAny_pyIter_striter_ascii st h
  . exact wpAny_pyIter_striter_wide st h
section
variable {X:Cx}{y:Str}{py:Pos}
instance ZiStr(R:(It->Hp->Prop))(x:V)(H1:Hp):∀z,x=.str z->R (Its z) H1:=0
def iStr(tl:TE):TI:=λσ H R=>tl σ H λx b=>ZiStr R x b
def Fm(hl:PE X l tl):PI X (.Name y py) l (iStr tl):=by
 exists 4,R,I,h;apply thn (hl Pc s σ H _ I h) λv s1 ⟨x,d,c,r1,g⟩=>?_
 erw[z,e,q]at g;subst e;erw[t,1]at r1;apply wpAny_pyIter_strU ?_;erw[‹s1›,[‹s1›],_,_,d,1,c.kept (t':=s1.toks) λb o e=>gz _ e,Eo z t _,%[i1 _,_,kv _ rfl,1|1],λb hb=>?_,q];let e:b=‹s1›:=#[hb,0]
 subst e;exact c.fpOk (eS _) (c.hok.fresh (eS _))
end
def uv{z:Str}{d:TBl}{Q:VK}(Pv:Nat->Hp->Prop)(h0:Pv 0 (upd H D (.lst [])))
 (g:∀i c H,z.cps[i]?=some c->Pv i H->d (some (.str %[|#[c]])::outs ix σ) H (Nx z.cps.size i Pv) λu b=>∃ys,b D=some (.lst ys)/\ys.length<sizeLine/\Nx z.cps.size i Pv (upd b D (.lst (ys++[u]))))(hd:∀H,Pv z.cps.size H->Q (.ref D) H):
 qK (Its z) D ix d σ H Q:=by
 erw[λi m H=>m=z.cps.size-i/\i<=z.cps.size/\Pv i H,%[z.cps.size,by simp,i1 _|h0],6];rintro i m H ⟨rfl,n,p⟩
 by_cases j:i<z.cps.size
 . refine .inr %[j|λx b y=>?_];erw[e,c,hc,1]at y;subst e;exact g i c _ hc p
 . let e:i=z.cps.size:=#[0]
   subst e;exact .inl %[eS _|hd H p]
section
variable {X:Cx}
instance rSlS(x:V)(lo:Option Int)(hi:Option Int)(H:Hp)(Q:VK):∀z,x=.str z->z.length<=sizeLine->Q (.str (Txt.slice z lo hi)) H:=0
def zI:SlR X rSlS:=by
 exists 4,x,v,r,y,lo,g,B,Q,I,m,n,pl,d,h;erw[z,1,b,q]at h;erw[t,1]at m;erw["str",_,F.slot_str_getitem.lookup,P7 _ _ _,6];let fin:∀t' k,EP X Pc σ Q (.str (Txt.slice z lo g) t') { s with toks:=k }:=λt' k=>%[.str _,H,I.tok k,%[|0]|q]
 erw[o,c,hc,hd]at n;cases pl with
 |none=>
   cases d with
   |none=>exact QI (l:=none) (u:=none) (st:=none) %[o,c,hc|hd] rfl (Q4 ⟨hE (Ql z _ _) b,fin⟩)
   |int j u=>exact QI (l:=none) (u:=some (j,u)) (st:=none) %[o,c,hc|hd] rfl (Q4 ⟨hE (Ql z _ _) b,fin⟩)
 |int i e=>
   cases d with
   |none=>exact QI (l:=some (i,e)) (u:=none) (st:=none) %[o,c,hc|hd] rfl (Q4 ⟨hE (Ql z _ _) b,fin⟩)
   |int j u=>exact QI (l:=some (i,e)) (u:=some (j,u)) (st:=none) %[o,c,hc|hd] rfl (Q4 ⟨hE (Ql z _ _) b,fin⟩)
instance rStarts(x:V)(vs:List V)(H:Hp)(Q:VK):∀z u,x=.str z->vs=[.str u]->Q (.bl (Txt.startswith z u)) H:=0
def uU:MtR X "str.startswith" rStarts:=by
 exists 4,x,vs,v,us,Q,I,b,c,h;erw[z,u,1,1,q]at h;erw[t,1]at b;erw[d,1,t',1]at c.one;exact SC.startswith %[.bl _,H,I,1|q]
def sF:∀{zs:List Str}{us:List Value},Vals (zs.map V.str) us->StrsAre us zs
 | [],_,.nil=>.nil
 |_::_,_,.cons ⟨t,e⟩ r=>by subst e;exact .cons _ t (sF r)
instance rJoin(K:W.Frag)(x:V)(vs:List V)(H:Hp)(Q:VK):∀z a ys,x=.str z->vs=[.ref a]->SqL K H a (ys.map V.str)->z.length<=16->(ys.map (·.length)).sum+ys.length<=1048576->Q (.str (Txt.join z ys)) H:=0
def IZ:MtR X "str.join" (rJoin X.K):=by
 exists 4,x,vs,v,us,Q,I,b,c,h;erw[z,a,ys,1,1,d,e,hw,q]at h;erw[t,1]at b;erw[m,1,g]at c.one;cases g;let%[its,j,p|_]:=I.list d;exact join_listW p.isList #[sF j,0] e hw λt' k=>%[.str _,H,I.tok k,%[|0]|q]
instance rAll(K:W.Frag)(xs:List V)(H:Hp)(Q:VK):∀(a:Addr)(bs:List Bool),xs=[.ref a]->SqL K H a (bs.map V.bl)->Q (.bl (bs.all id)) H:=0
def vC:∀{bs:List Bool}{us:List Value}{i:Nat}{v:Value},Vals (bs.map V.bl) us->us[i]?=some v->∃b,bs[i]?=some b/\v=.bool b
 | [],_,_,_,.nil,h=>by simp at h
 |b::_,_,0,_,.cons r _,h=>by
   simp at h
   subst h;erw[b,1,r]
 |_::_,_,i+1,_,.cons _ t,h=>by
   let%[b,h1|h2]:=vC (i:=i) t #[h,0];erw[b,by simpa using h1,h2]
def uB(hc:X.calm=true):jm X (.builtin "all") (rAll X.K):=by
 exists 4,xs,us,Q,I,r,h;erw[a,bs,1,m,q]at h;let%[u,1|t]:=lu r;cases t;let%[its,j,p|J]:=I.list m;let hl:=j.length;rw[d8]at hl;let x:a<‹s›:=by erw[o,n,e,_]at p;exact f4 e
 apply call_all_walk (PX p.isList ?_);erw[‹s›,_,_,_,_,_,λi=>bs[i]?.getD true,1,Walks.list (A:=X.A.in1) (I.ok.hd hc) ‹s› a (i2 x) its.toArray,%[%[_,kv _ rfl,1|1]|p.isList.push _],6,6]
 . intro i v s' y L hP z;let%[b,hb|1]:=vC j (i:=i) (v:=v) #[hP,0];let g:y b s':=by simpa [hb]using z
   exact y1 g
 . intro h' B C;let e:(List.range its.toArray.size).all (λi=>bs[i]?.getD true)=bs.all id:=by
    rw[js,←hl];rw[Qt,QX,QX]
    constructor
    . intro h b hb;let%[i,d|e]:=QT hb
      have:=h i (List.mem_range.mpr d)
      rw[fz d]at this
      simpa [e]using this
    . intro h i d;let c:=List.mem_range.mp d;rw[fz c];exact h _ (o4 c)
   rw[e];erw[.bl _,H,6,1,q];let D:#[8] H { s with heap:=s.heap.push { cls:=.type "list_iterator",data:=.fields #[.ref a,.int 0 0] } }:=I.kept (t':=s.toks) λb o e=>gz _ e
   apply D.turnedL (t':=B) (ch:=[‹s›]) (λb o hb e=>C b o #[hb,0] e) λb hb=>?_
   rw[Pn hb];exact I.fpOk (eS _) (I.hok.fresh (eS _))
end
def IK{X:Cx}{p pos:Pos}(C:Cal X.prog X.w X.K X.mg X.base n x [] sp)(hr:Room k X.A)(d:n<=k)(hg:Gl X x)(c:(x==("__debug__":Str))=false:=by decide):
 PE X (.Call (.Name x p) [] [] pos) (Bi sp [] E0 Ik):=by
 erw[f,fd,F,b,kp,m]at C.ex;exact Fu F (hr.mono d) hg m kp b .nil bd c
inductive Consts:List Expr->List Str->Prop
 |nil:Consts [] []
 |cons {x:Str} {j:Nat} {pos:Pos} {es:List Expr} {zs:List Str}:Consts es zs->Consts (.Constant (.str x) j pos::es) (x::zs)
def mX:∀{b:List Expr}{zs:List Str},Consts b zs->PA X b (λ_ H Q=>Q (zs.map V.str) H)
 |_,_,.nil=>ae
 |_,_,.cons h=>λpos Pc s σ H Q I q=>aa aI (mX h) (by rfl) pos Pc s σ H Q I q
def CompScope.one{X:Cx}{x y:Str}{scope:Scope}{k:Nat}{c:Addr}(b:closureFor scope X.env=pure [(y,c)])(d:∀y∈scope.names,y.2≠.cell)(g:scope.kind=.function)(m:∀y∈scope.names,y.2=.local->scope.names.lookup y.1=some .local)
 (n:scope.names.lookup x=some .local)(nd:[x,y].Nodup)(hc:X.env.cells.lookup y=some c)(o:((relabel scope X.env).names.all λp=>!(p.2==.cell||p.2==.free)||(([(y,c)]:List (Str×Addr)).lookup p.1).isSome)=true)
 (hr:(relabel scope X.env).names.lookup y=some .cell)(q:X.N[k]?=some y)(r:X.env.scope.names.lookup y=some .cell):CompScope X x [y] [k] scope [(y,c)] where
 clos:=b
 nocell:=d
 kind:=g
 names:=m
 own:=n
 nd:=nd
 sub:=λp t=>by
  rw[Pn t];exact hc
 has:=o
 outs:=λj z h=>by
  cases j with
  |zero=>
    let e:y=z:=j3 h;subst e;erw[hr,k,c,1,q,by simp [List.lookup],r]
  |succ j=>simp at h
def CompScope.two{X:Cx}{x y z:Str}{scope:Scope}{k l:Nat}{c d:Addr}{cl:List (Str×Addr)}(q:closureFor scope X.env=pure cl)(r:∀y∈scope.names,y.2≠.cell)(t:scope.kind=.function)(u:∀y∈scope.names,y.2=.local->scope.names.lookup y.1=some .local)
 (v:scope.names.lookup x=some .local)(nd:[x,y,z].Nodup)(b:cl=[(z,d),(y,c)]∨cl=[(y,c),(z,d)])(hc:X.env.cells.lookup y=some c)(hd:X.env.cells.lookup z=some d)(B:((relabel scope X.env).names.all λp=>!(p.2==.cell||p.2==.free)||(cl.lookup p.1).isSome)=true)
 (hr:(relabel scope X.env).names.lookup y=some .cell)(C:X.N[k]?=some y)(D:X.env.scope.names.lookup y=some .cell)
 (m:(relabel scope X.env).names.lookup z=some .cell)(n:X.N[l]?=some z)(o:X.env.scope.names.lookup z=some .cell):CompScope X x [y,z] [k,l] scope cl where
 clos:=q
 nocell:=r
 kind:=t
 names:=u
 own:=v
 nd:=nd
 sub:=λp J=>by
  rcases b with rfl | rfl
  all_goals
   rcases qA0 J with e | e
   . rw[e];assumption
   . rw[Pn e];assumption
 has:=B
 outs:=λj w h=>by
  let g:y≠z:=λe=>by simp [e]at nd
  match j,h with
  |0,h=>
    let e:y=w:=j3 h;subst e;erw[hr,k,c,1,C,6,D];rcases b with rfl | rfl
    . have:(y==z)=false:=#[g,0]
      simp [List.lookup,this]
    . simp [List.lookup]
  |1,h=>
    let e:z=w:=j3 h;subst e;erw[m,l,d,1,n,6,o];rcases b with rfl | rfl
    . simp [List.lookup]
    . have:(z==y)=false:=#[Ne.symm g,0]
      simp [List.lookup,this]
  |j+2,h=>simp at h
end L2
namespace Mine
open PySem L2
def qJ(x:Str):Prop:=x.length<=20/\(∀c∈x.cps.toList,97<=c/\c<=122)/\x≠"aa"
def mZ{x:Str}{l u:Option Int}{c:Nat}(h:c∈(Txt.slice x l u).cps.toList):c∈x.cps.toList:=by
 let e:Txt.slice x l u=StrLaws.sliceText x l u:=rfl;rw[e]at h;unfold StrLaws.sliceText at h
 split at h
 . exact h
 . let%[i,_|b]:=List.mem_filterMap.mp (show c∈(List.filterMap _ _) by simpa using h)
   have:=Array.mem_of_getElem? b
   simpa using this
def mem_append{x y:Str}{c:Nat}(h:c∈(x++y).cps.toList):c∈x.cps.toList∨c∈y.cps.toList:=by
 let e:(x++y).cps.toList=x.cps.toList++y.cps.toList:=by simp [P1]
 rw[e]at h;exact qO0 h
def Dt{zs:List Str}{c:Nat}(h:c∈(Txt.join "" zs).cps.toList):∃z∈zs,c∈z.cps.toList:=by
 let e:Txt.join "" zs=Str.join "" zs:=by
  cases zs with
  |nil=>rfl
  |cons a r=>exact StrLaws.glued_cons "" r a
 rw[e]at h;rcases(PyProof.Rows.mem_join "" c zs).mp h with h | ⟨_,h⟩
 . exact h
 . let e0:(("":Str)).cps.toList=[]:=by decide
   rw[e0]at h;cases h
inductive Tr where
 |is (x:Str) | yes | no | not (a:Tr) | bin (w:Str) (a b:Tr)
def Tr.size:Tr->Nat
 |.is _=>1 | .yes=>1 | .no=>1 | .not a=>a.size+1 | .bin _ a b=>a.size+b.size+1
def Tr.depth:Tr->Nat
 |.is _=>1 | .yes=>1 | .no=>1 | .not a=>a.depth+1 | .bin _ a b=>max a.depth b.depth+1
def Tr.names:Tr->List Str
 |.is x=>[x] | .yes=>[] | .no=>[] | .not a=>a.names | .bin _ a b=>a.names++b.names
def joinW:List Str:=["and","or","odd","same"]
def Tr.ok(ns:List Str):Tr->Prop
 |.is x=>x∈ns | .yes=>True | .no=>True | .not a=>a.ok ns | .bin w a b=>w∈joinW/\a.ok ns/\b.ok ns
inductive TreeAt(H:Hp):V->Tr->Prop
 |is {a:Addr} {x:Str}:H a=some (.tup [.str "is",.str x])->TreeAt H (.ref a) (.is x)
 |yes {a:Addr}:H a=some (.tup [.str "yes"])->TreeAt H (.ref a) .yes
 |no {a:Addr}:H a=some (.tup [.str "no"])->TreeAt H (.ref a) .no
 |not {a:Addr} {v:V} {t:Tr}:H a=some (.tup [.str "not",v])->TreeAt H v t->TreeAt H (.ref a) (.not t)
 |bin {a:Addr} {w:Str} {v u:V} {t r:Tr}:H a=some (.tup [.str w,v,u])->TreeAt H v t->TreeAt H u r->TreeAt H (.ref a) (.bin w t r)
abbrev cZ(H H':Hp):Prop:=∀a xs,H a=some (.tup xs)->H' a=some (.tup xs)
def TreeAt.mono(k:cZ H b)(h:TreeAt H v t):TreeAt b v t:=by
 induction h with
 |is e=>exact .is (k _ _ e)
 |yes e=>exact .yes (k _ _ e)
 |no e=>exact .no (k _ _ e)
 |not e _ c=>exact .not (k _ _ e) c
 |bin e _ _ d g=>exact .bin (k _ _ e) d g
def bc(s:Same H b):cZ H b:=λa _ h=>s a _ h
def ji(F:FeedAt H f)(s:SameBut f H b):cZ H b:=λa xs h=>s a _ (λz=>by
 erw[o,t,e,_]at F;rw[z,e]at h;cases h) h
def NamesAt(H:Hp)(a:Addr)(ns:List Str):Prop:=H a=some (.lst (ns.map V.str))∨H a=some (.tup (ns.map V.str))
def NamesAt.ne(F:FeedAt H f)(h:NamesAt H a ns):a≠f:=λz=>by
 erw[o,t,e,_]at F;subst z;rcases h with h | h
 . rw [e]at h;let h':=HO.lst.inj (j3 h);cases ns with
   |nil=>cases h'
   |cons x r=>simp at h'
 . rw[e]at h;cases h
def NamesAt.feed(F:FeedAt H f)(s:SameBut f H b)(h:NamesAt H a ns):NamesAt b a ns:=by
 let ne:=h.ne F;rcases h with h | h
 . exact .inl (s _ _ ne h)
 . exact .inr (s _ _ ne h)
def NamesAt.same(s:Same H b)(h:NamesAt H a ns):NamesAt b a ns:=by
 rcases h with h | h
 . exact .inl (s _ _ h)
 . exact .inr (s _ _ h)
def NamesAt.seq{K:W.Frag}(h:NamesAt H a ns):SqL K H a (ns.map V.str)∨SqT K H a (ns.map V.str):=by
 rcases h with h | h
 . exact .inl (eH h)
 . exact .inr (dV h)
def NamesAt.ix{K:W.Frag}{x:V}{Q:VK}(h:NamesAt H a ns)(b:atI (ns.map V.str) i=some x)(q:Q x H):rIxL K (.ref a) (.int i) H Q∨rIxT K (.ref a) (.int i) H Q:=by
 rcases h with h | h
 . exact .inl %[a,_,i,x,1,1,eH h,b|q]
 . exact .inr %[a,_,i,x,1,1,dV h,b|q]
instance spTree(n:Nat):∀(f a:Addr)(room deep:Int)(ns:List Str),vs=[.ref f,.ref a,.int room,.int deep]->FeedAt H f->NamesAt H a ns->ns.length<=6->1<=room->room<=100->1<=deep->deep+1<=(n:Int)+1->(∀(v:V)(t:Tr)(H':Hp),FeedAt H' f->SameBut f H H'->TreeAt H' v t->t.ok ns->(t.size:Int)<=room->(t.depth:Int)<=deep->Q v H'):=1
def vH{α:Type}{l:List α}{i:Int}(h0:0<=i)(h:i<(l.length:Int)):∃v,atI l i=some v/\v∈l:=by
 let b:i.toNat<l.length:=#[0]
 let q:atI l ((i.toNat:Nat):Int)=some l[i.toNat]:=cX (fz b);let c:((i.toNat:Nat):Int)=i:=#[0]
 rw[c]at q;erw[_,q,o4 b]
end Mine
namespace L2
open PySem PySem.Spec PyProof.Rows
section
variable {X:Cx}
def wF(lo:Int)(n:Nat):List Int:=(List.range n).map λi:Nat=>lo+(i:Int)
def Fb(lo:Int)(n:Nat):(wF lo n).length=n:=by unfold wF;rw[d8,o0]
def CQ{lo:Int}{n:Nat}{b:List Value}(h:ItemsOf (λi v=>∃t,v=Value.int (lo+(i:Int)*1) t) b.toArray n):Vals ((wF lo n).map V.int) b:=by
 erw[h1,h2]at h;let g:b.length=n:=#[h1,0]
 let c:∀(k:Nat)(l:List Value),(∀i v,l[i]?=some v->∃t,v=Value.int (lo+((k+i:Nat):Int)) t)->Vals (((List.range' k l.length).map λi:Nat=>lo+(i:Int)).map V.int) l:=by
  intro k l
  induction l generalizing k with
  |nil=>intro _;exact .nil
  |cons a r j=>
    intro h;let%[t|e]:=h 0 a rfl;rw[f5,List.range'_succ,lw,lw];refine .cons %[t|by simpa using e] (j (k+1) λi v d=>?_);let%[t|e]:=h (i+1) v #[d,0];erw[t,by rw[e];congr 2;omega]
 have:=c 0 b λi v d=>by
  let%[t|e]:=h2 i v #[d,0];erw[t,by simpa using e]
 unfold wF;rw[←g,List.range_eq_range'];exact this
instance ZtListRng(Q:VK)(vs:(List V))(H1:Hp):∀i j:Int,vs=[.int i,.int j]->-(2 ^ 62)<=i/\i<2 ^ 62/\-(2 ^ 62)<=j/\j<2 ^ 62->j-i<=1000->(∀p,H1 p=none->Q (.ref p) (upd H1 p (.lst ((wF i (j-i).toNat).map V.int)))):=0
def Ev(b:TA):TE:=λσ H Q=>b σ H λvs c=>ZtListRng Q vs c
def Ad{a b:Expr}{O p2 d c:Pos}(hc:X.calm=true)(D:Gl X "list")(J:X.mg "list"=none)(L:Gl X "range")(M:X.mg "range"=none)(ha:PA X [a,b] U)
 (x:starEach [(.Call (.Name "range" p2) [a,b] [] c:Expr)] X.env=[(false,eval (.Call (.Name "range" p2) [a,b] [] c) X.env)]:=by rfl)(Y:starEach [a,b] X.env=[(false,eval a X.env),(false,eval b X.env)]:=by rfl)(y:starEach [b] X.env=[(false,eval b X.env)]:=by rfl):
 PE X (.Call (.Name "list" O) [.Call (.Name "range" p2) [a,b] [] c] [] d) (Ev U):=by
 exists 4,Q,I,h;apply PV (jh I D J dU ?_);apply O2 ?_ x rfl;rw[x];show wpAny _ _ (spliced ((false,eval (.Call (.Name "range" p2) [a,b] [] c) X.env)::backTo d (starEach [] X.env))) _ _ s;let step:‹X.w› (eval (.Call (.Name "range" p2) [a,b] [] c) X.env) (λv s1=>∃(r:Addr) (i j:Int) (t u k:Tok) (m:Hp),v=.ref r/\#[8] m s1/\IsRange s1.heap r i j 1 t u k/\(-(2 ^ 62)<=i/\i<2 ^ 62/\-(2 ^ 62)<=j/\j<2 ^ 62)/\j-i<=1000/\
  ∀p,m p=none->Q (.ref p) (upd m p (.lst ((wF i (j-i).toNat).map V.int)))) X.xe s:=by
  apply Call_ (jh I L M boot_range (O2 (thn (ha c Pc s σ H _ I h) λus s1 ⟨vs,m,z,r1,N⟩=>?_) (by rw[Y,y]) (by rw[y];rfl)));erw[i,j,e,N,q2,q]at N;subst e;cases r1 with
  |cons r B=>
    cases B with
    |cons r' B=>
      cases B;erw[t,1]at r;erw[t',1]at r';apply call_range_2 %[_,i,j,_,_,_,m,1,z.kept λb o e=>gz _ e,IsRange.new ..,N,q2|q]
 apply PU (thn step λv s1 hv=>?_);erw[r,i,j,t,u,k,m,1,z,hr,%[a1,a2,a3|a4],ab,q]at hv;apply Qc ?_;let e2:Builtin.Range.rangeSize i j 1=(((j-i).toNat:Nat):Int):=by rw[rangeSize_one];split <;> omega
 apply call_list_range (z.ok.hd hc) hr (small_one a1 a2 a3 a4) e2 #[0] λh' tk g c' hk hS C=>?_
 obtain⟨n,rfl⟩:∃n:List Value,g=n.toArray:=%[g.toList|by simp]
 let B:=CQ C;let I2:#[8] (upd m ‹s1› (.lst ((wF i (j-i).toNat).map V.int))) { s1 with heap:=h',toks:=tk }:=by
  apply z.turnedNew (ch:=[]) (λb ob _ eb=>hk b ob eb) (λb hb=>absurd hb #[2]) (eS _) %[6,n,c',B|hS];rw[d8,Fb];exact cx #[0]
 erw[.ref ‹s1›,_,I2,1,q _ (z.hok.fresh (eS _))]
instance rSum(K:W.Frag)(xs:List V)(H:Hp)(Q:VK):∀(a:Addr)(ns:List Int),xs=[.ref a]->SqL K H a (ns.map V.int)->(∀n∈ns,0<=n)->ns.sum<2 ^ 63->Q (.int ns.sum) H:=0
def uf:∀{bs:List Int}{us:List Value}{i:Nat}{v:Value},Vals (bs.map V.int) us->us[i]?=some v->∃b t,bs[i]?=some b/\v=.int b t
 | [],_,_,_,.nil,h=>by simp at h
 |b::_,_,0,_,.cons r _,h=>by
   simp at h
   subst h;erw[t,e]at r;erw[b,t,1,e]
 |_::_,_,i+1,_,.cons _ t,h=>by
   let%[b,t,h1|h2]:=uf (i:=i) t #[h,0];erw[b,t,by simpa using h1,h2]
def qM{ns:List Int}(h:∀n∈ns,0<=n)(j:Nat):0<=(ns.take j).sum/\(ns.take j).sum<=ns.sum:=by
 induction ns generalizing j with
 |nil=>simp
 |cons a r c=>
   cases j with
   |zero=>
     have:=c (λn b=>h n (mj _ b)) r.length
     rw[i0]at this;let d:=h a kb;simp only[Qw,List.sum_nil,rb];omega
   |succ j=>
     have:=c (λn b=>h n (mj _ b)) j
     let d:=h a kb;simp only[List.take_succ_cons,rb];omega
def qT(ns:List Int)(j:Nat):preSum (λi=>ns[i]?.getD 0) j=(ns.take j).sum:=by
 induction j with
 |zero=>simp;rfl
 |succ j b=>
   show preSum (λi=>ns[i]?.getD 0) j+(λi=>ns[i]?.getD 0) j=_;rw[b,ih,Qu];cases e:ns[j]? with
   |none=>simp [e]
   |some x=>simp [e]
def uA(hc:X.calm=true):jm X (.builtin "sum") (rSum X.K):=by
 exists 4,xs,us,Q,I,r,h;erw[a,ns,1,y,d,L,q]at h;let%[u,1|z]:=lu r;cases z;let%[its,m,p|M]:=I.list y;let hl:=m.length;rw[d8]at hl;let x:a<‹s›:=by erw[o,n,e,_]at p;exact f4 e
 apply call_sum_walk (PX p.isList ?_);erw[‹s›,_,_,_,_,_,λi=>ns[i]?.getD 0,1,Walks.list (A:=X.A.in1) (I.ok.hd hc) ‹s› a (i2 x) its.toArray,%[%[_,kv _ rfl,1|1]|p.isList.push _],6,6,6,6]
 . intro b hb;let g:∀o:Obj,(s.heap.push o).objs.size=‹s›+1:=λo=>by simp [Heap.push]
   show b<(s.heap.push _).objs.size;rw[g];rcases qA0 hb with e | e
   . rw[e];exact Px _
   . rw[Pn e];exact QV x
 . intro i v hP;let%[b,t,hb|1]:=uf m (i:=i) (v:=v) #[hP,0];erw[t,by simp [hb]]
 . intro j B;let c:j<ns.length:=by rw[hl];simpa using B
   let s1:=qM d (j+1);rw[qT];erw[6,by unfold InLong;omega];let N:=qM d j;let e:(ns.take (j+1)).sum=(ns.take j).sum+ns[j]:=by rw[ih,Qu,fz c];simp
   let n1:=d _ (o4 c);show InLong (ns[j]?.getD 0);rw[fz c];show InLong ns[j];unfold InLong;omega
 . intro h' C t' D;rw[qT,js,←hl,i0];erw[.int _,H,6,%[|0],q];let J:#[8] H { s with heap:=s.heap.push { cls:=.type "list_iterator",data:=.fields #[.ref a,.int 0 0] } }:=I.kept (t':=s.toks) λb o e=>gz _ e
   apply J.turnedL (t':=C) (ch:=[‹s›]) (λb o hb e=>D b o #[hb,0] e) λb hb=>?_
   rw[Pn hb];exact I.fpOk (eS _) (I.hok.fresh (eS _))
end
def Br:Slot "reversed" "__iter__" "reversed.__iter__":=Slot.of (owner:="reversed") (n:="__iter__") (by rw[Q5,QN];kernel_rfl) ⋯ ⋯ ⋯ (by first | exact .inl ⋯ | exact .inr ⋯) (by rw[Ra];kernel_rfl) ⋯
def rv_next:Slot "reversed" "__next__" "reversed.__next__":=Slot.of (owner:="reversed") (n:="__next__") (by rw[Q5,QN];kernel_rfl) ⋯ ⋯ ⋯ (by first | exact .inl ⋯ | exact .inr ⋯) (by rw[Ra];kernel_rfl) ⋯
def Es:typeLookup (.type "tuple") "__reversed__"=pure none:=by rw[Q5,QN];kernel_rfl
def CO:entryFor table "reversed.__iter__"=some Builtin.«dict_keyiterator.__iter__»:=entryFor_alias (by kernel_rfl) rfl (show _="dict_keyiterator.__iter__" by decide) (by kernel_rfl)
def ve:entryFor table "reversed.__next__"=some Builtin.«reversed.__next__»:=entryFor_of_tree (by kernel_rfl)
def RevT(h:Heap)(b t:Addr)(i:Int):Prop:=h.get? b=some { cls:=.type "reversed",data:=.fields #[.ref t,rawInt i] }
section
variable {prog:Program}{w:World}{A:Around}{E:#[6]}{s:Shared}{R:Result->Shared->Prop}{it t:Addr}
def RevT.typeIs(h:RevT s.heap it t i):s.TypeIs (.ref it) "reversed":=%[_,h|1]
def vq{Q:#[6]}(h:RevT s.heap it t i)(q:Q (.ref it) s):‹w.A› (pyIter (.ref it)) Q E s:=
 wpAny_pyIter_slot h.typeIs Br (Py Br h.typeIs CO (fu %[0,"reversed",_,h.typeIs,rv_next.lookup|q]) (by rfl))
def tX{i:Nat}{items:Array Value}{x:Value}{Q:Option Value->Shared->Prop}(h:RevT s.heap it t (i:Int))(c:IsTup s.heap t items)(d:items[i]?=some x)(g:(i:Int)<2 ^ 63)
 (q:∀h' j,RevT h' it t ((i:Int)-1)->Heap.SameBut it s.heap h'->Q (some x) { s with heap:=h',toks:=j }):‹w.A› (pyNext (.ref it)) Q E s:=by
 let hT:=h.typeIs;let m:i<items.size:=(Array.getElem?_eq_some_iff.mp d).1;unfold pyNext;apply eC (Qk (PH hT rv_next (Py rv_next hT ve ?_ (by rfl))));unfold Builtin.«reversed.__next__»;apply eC (My (show slotArgs "__next__" 0 %[[.ref it]|[]]=pure (.ref it,[])from rfl) ?_);apply eC (oj h rfl rfl ?_);apply eC (oj h rfl rfl ?_);apply ry (λb=>absurd b #[0]) (λ_=>?_);apply eC (wpAny_specialOf (show s.TypeIs (.ref t) "tuple" from c.typeIs) PyProof.Rows.slot_tuple_getitem.lookup ?_);apply ry (λb=>absurd b #[2]) (λ_=>?_);apply eC (wpAny_mkInt ?_);let e1:seqIndex? (i:Int) items.size=some i:=(xy (by unfold ixN;rw[Pe #[0],Pe #[0]];simp)).1;apply eC (Qk (PyProof.Rows.getItem_tuple (items:=items) (x:=x) c #[0] g e1 d ?_));apply eC (oj h rfl rfl ?_);apply eC (Pw h #[2] λh' e hb=>?_);apply fu %[0|fu (q h' _ ?_ hb)];exact e
def y0S:0<=sizeLine:=⋯
def y1S:1<=sizeLine:=⋯
def y2S:2<=sizeLine:=⋯
def y3S:3<=sizeLine:=⋯
def y4S:4<=sizeLine:=⋯
def y6S:6<=sizeLine:=⋯
def y12S:12<=sizeLine:=⋯
def y18S:18<=sizeLine:=⋯
def y24S:24<=sizeLine:=⋯
def uT{Q:Option Value->Shared->Prop}(hh:A.handled=none)(h:RevT s.heap it t (-1))
 (q:∀h' d,Heap.ExtBut it s.heap h'->Q none { s with heap:=h',toks:=d }):‹w.A› (pyNext (.ref it)) Q E s:=by
 let hT:=h.typeIs;unfold pyNext;apply eC (Qk (PH hT rv_next (Py rv_next hT ve ?_ (by rfl))));unfold Builtin.«reversed.__next__»;apply eC (My (show slotArgs "__next__" 0 %[[.ref it]|[]]=pure (.ref it,[])from rfl) ?_);apply eC (oj h rfl rfl ?_);apply eC (oj h rfl rfl ?_);apply ry (λ_=>?_) (λc=>absurd ⋯ c);apply eC (QF ?_);apply eC ?_;show wpAny _ _ (setField (.ref it) 1 (rawInt (-1)) >>= λ_=>setField (.ref it) 0 Value.none) _ _ _;apply eC (Pw h #[2] λh1 e1 g=>?_);apply Pw e1 #[2] λh2 e2 j=>?_
 apply eC ?_;unfold Builtin.SmallTypes.stopIteration newExc newTuple;apply eC (eC (rx ?_ y0S));apply eC (My (show firstArgMember (.type "StopIteration") []=pure .none by rfl') ?_);apply rx ?_ (sizeOk_excFields ..);apply wpAny_raiseNew_none hh ?_;apply eC (QY (T:="StopIteration") %[_,kv _ rfl|1] isSubtype_stop ?_);apply ry (λ_=>?_) (λc=>absurd rfl c);apply fu (q _ _ ?_);exact(g.extBut.trans j.extBut).trans λb o hb e=>gz _ (gz _ e)
def IB:Slot "reversed" "__init__" "object.__init__":=Slot.of (owner:="object") (n:="__init__") (by rw[Q5,QN];kernel_rfl) ⋯ ⋯ ⋯ (by first | exact .inl ⋯ | exact .inr ⋯) (by rw[Ra];kernel_rfl) ⋯
def CP:TypeCalled "reversed" "reversed.__new__" "object.__init__":=%[4,F.create_reversed,%[_,_|F.mro_reversed],F.made_reversed,F.plain_reversed_new,F.sub_reversed_self|IB]
def Cs:isSubtype (.type "tuple") (.type "dict")=pure false:=by rw[Ra];kernel_rfl
def pW{items:Array Value}{Q:#[6]}(c:IsTup s.heap t items)(j:items.size<=sizeLine)
 (q:∀g,Q (.ref ‹s›) { s with heap:=s.heap.push { cls:=.type "reversed",data:=.fields #[.ref t,rawInt ((items.size:Int)-1)] },toks:=g }):‹w.A› (call (.type "reversed") [.ref t]) Q E s:=by
 let h63:=kZ;apply callType_newIn CP ⋯ (F.typeCall_reversed_1 _) (F.newCall_reversed_1 _) (λ_=>by rfl) F.entry_reversed_new
  (S:=λA R s=>wpAny (model prog w) A.in1 (Builtin.«reversed.__new__» %[[.type "reversed",.ref t]|[]]) (λfin s'=>match fin with | .done f=>R (.ok f) s' | .again d=>d.quiet=true/\codeAny (model prog w) A d R s') (λe s'=>R (.error e) s') s) (λA R s h=>h) ?_
 unfold Builtin.«reversed.__new__»;apply eC (My (newClass_reversed _) ?_);apply eC (My (a:=()) rfl ?_);apply eC (My (a:=()) rfl ?_);apply eC (wpAny_specialOf c.typeIs Es ?_);apply eC ?_;apply eC (QY c.typeIs Cs ?_);apply ry (λb=>absurd b ⋯) (λ_=>?_);apply eC (wpAny_specialOf c.typeIs PyProof.Rows.slot_tuple_getitem.lookup ?_);apply ry (λ_=>?_) (λb=>absurd ⋯ b);apply fu ?_;apply ry (λb=>absurd b ⋯) (λ_=>?_);apply eC (len_tuple c #[0] ?_);apply eC (fu ?_);apply eC (rx (data:=.fields #[.ref t,rawInt ((items.size:Int)-1)]) ?_ (by show 2<=sizeLine+2;decide));apply fu ?_;erw[%[_,kv _ rfl|1],q _]
end
end L2
namespace Mine
open PySem L2
def Tr.wf:Tr->Prop
 |.is x=>qJ x | .yes=>True | .no=>True | .not a=>a.wf | .bin w a b=>w∈joinW/\a.wf/\b.wf
def Tr.parts:Tr->List Tr
 |.is _=>[] | .yes=>[] | .no=>[] | .not a=>[a] | .bin _ a b=>[a,b]
def Tr.ok_wf{ns:List Str}(c:∀x∈ns,qJ x):∀t:Tr,t.ok ns->t.wf
 |.is _,h=>c _ h
 |.yes,_=>trivial
 |.no,_=>trivial
 |.not a,h=>Tr.ok_wf c a h
 |.bin _ a b,⟨h,h1,h2⟩=>%[h,Tr.ok_wf c a h1|Tr.ok_wf c b h2]
def Tr.depth_pos:∀t:Tr,1<=t.depth
 |.is _=>eS _ | .yes=>eS _ | .no=>eS _ | .not a=>Qg .. | .bin _ a b=>Qg ..
def jM(ts:List Tr):Nat:=(ts.map Tr.size).sum
def jg(ts:List Tr):List Str:=(ts.map Tr.names).flatten
def Tr.size_parts(t:Tr):t.size=jM t.parts+1:=by
 cases t <;> simp [Tr.size,Tr.parts,jM]
def Tr.names_parts(t:Tr)(h:∀x,t≠.is x):t.names=jg t.parts:=by
 cases t with
 |is x=>exact absurd rfl (h x)
 |_=>simp [Tr.names,Tr.parts,jg]
def Tr.parts_mem{t u:Tr}(h:u∈t.parts)(w:t.wf):u.wf/\u.depth+1<=t.depth/\u.size+1<=t.size:=by
 cases t with
 |is x=>simp [Tr.parts]at h
 |yes=>simp [Tr.parts]at h
 |no=>simp [Tr.parts]at h
 |not a=>
   rw[Pn h];erw[w,eS _,eS _]
 |bin o a b=>
   erw[_,w1,w2]at w;rcases qA0 h with e | e
   . rw [e];erw[w1,6,6]
     . show a.depth+1<=max a.depth b.depth+1;omega
     . show a.size+1<=a.size+b.size+1;omega
   . rw [Pn e];erw[w2,6,6]
     . show b.depth+1<=max a.depth b.depth+1;omega
     . show b.size+1<=a.size+b.size+1;omega
inductive TreesAt(H:Hp):List V->List Tr->Prop
 |nil:TreesAt H [] []
 |cons {v:V} {t:Tr} {vs:List V} {ts:List Tr}:TreeAt H v t->TreesAt H vs ts->TreesAt H (v::vs) (t::ts)
def TreesAt.mono(k:cZ H b)(h:TreesAt H vs ts):TreesAt b vs ts:=by
 induction h with
 |nil=>exact .nil
 |cons a _ c=>exact .cons (a.mono k) c
def TreesAt.append(h:TreesAt H vs ts)(g:TreesAt H us rs):TreesAt H (vs++us) (ts++rs):=by
 induction h with
 |nil=>exact g
 |cons a _ b=>exact .cons a b
def TreesAt.length(h:TreesAt H vs ts):vs.length=ts.length:=by
 induction h with
 |nil=>rfl
 |cons _ _ b=>rw[f5,f5,b]
def TreesAt.get(h:TreesAt H vs ts):∀{i:Nat}{v:V},vs[i]?=some v->∃t,ts[i]?=some t/\TreeAt H v t:=by
 induction h with
 |nil=>intro i v e;simp at e
 |cons a _ b=>
   intro i v e;cases i with
   |zero=>cases(j3 e);erw[0,a]
   |succ i=>exact b (i:=i) #[e,0]
def AJ{w:Str}(h:w∈joinW):w≠"is":=(by decide:∀w∈joinW,w≠("is":Str)) w h
def TreeAt.view(h:TreeAt H v t)(w:t.wf):(∃(a:Addr) (x:Str),v=.ref a/\t=.is x/\qJ x/\H a=some (.tup [.str "is",.str x]))∨
 ∃(a:Addr) (o:Str) (xs:List V),v=.ref a/\o≠"is"/\xs.length<=2/\H a=some (.tup (.str o::xs))/\TreesAt H xs t.parts/\(∀x,t≠.is x):=by
 cases h with
 |is e=>exact .inl %[2,w|e]
 |yes e=>exact .inr %[_,_,[],1,4,by simp,e,.nil|λx z=>by cases z]
 |no e=>exact .inr %[_,_,[],1,4,by simp,e,.nil|λx z=>by cases z]
 |not e g=>exact .inr %[_,_,[_],1,4,by simp,e,.cons g .nil|λx z=>by cases z]
 |bin e g b=>exact .inr %[_,_,[_,_],1,AJ w.1,by simp,e,.cons g (.cons b .nil)|λx z=>by cases z]
def Ln(o:V):∀xs:List V,xs.length<=2->nK (o::xs) (some 1) none=xs/\¬ (HT.sIx (o::xs).length 0 (some 1)=0/\HT.sIx (o::xs).length (o::xs).length none=(o::xs).length)
 | [],_=>%[1|λh=>absurd h.1 (show ¬ HT.sIx 1 0 (some 1)=0 by decide)]
 | [_],_=>%[1|λh=>absurd h.1 (show ¬ HT.sIx 2 0 (some 1)=0 by decide)]
 | [_,_],_=>%[1|λh=>absurd h.1 (show ¬ HT.sIx 3 0 (some 1)=0 by decide)]
 |_::_::_::_,h=>absurd h #[2]
def Tr.data:Tr->PyData
 |.is x=>.tuple [.str "is",.str x] | .yes=>.tuple [.str "yes"] | .no=>.tuple [.str "no"] | .not a=>.tuple [.str "not",a.data] | .bin w a b=>.tuple [.str w,a.data,b.data]
def Fd{K:W.Frag}(h:TreeAt H v t):Rep K H v t.data:=by
 induction h with
 |is e=>exact .tup (dV e) (.cons (.str _) (.cons (.str _) .nil))
 |yes e=>exact .tup (dV e) (.cons (.str _) .nil)
 |no e=>exact .tup (dV e) (.cons (.str _) .nil)
 |not e _ b=>exact .tup (dV e) (.cons (.str _) (.cons b .nil))
 |bin e _ _ c d=>exact .tup (dV e) (.cons (.str _) (.cons c (.cons d .nil)))
def Ez(h:qJ x):PyData.strOk x=true:=by
 unfold PyData.strOk;rw[←Array.all_toList,QX];intro c hc
 have:=h.2.1 c hc
 exact ft #[0]
def rZ:∀t:Tr,t.wf->PyData.canLay0 t.data=true/\PyData.depth t.data<=t.depth+1
 |.is x,h=>by
   have:=Ez h
   simp [Tr.data,PyData.canLay0,PyData.canLayAll0,PyData.depth,PyData.depthAll,Tr.depth,this]
   decide
 |.yes,_=>by
   simp [Tr.data,PyData.canLay0,PyData.canLayAll0,PyData.depth,PyData.depthAll,Tr.depth]
   decide
 |.no,_=>by
   simp [Tr.data,PyData.canLay0,PyData.canLayAll0,PyData.depth,PyData.depthAll,Tr.depth]
   decide
 |.not a,h=>by
   let d:=rZ a h;let c:PyData.strOk "not"=true:=by decide
   simp [Tr.data,PyData.canLay0,PyData.canLayAll0,PyData.depth,PyData.depthAll,Tr.depth,d.1,c]
   omega
 |.bin w a b,⟨hw,h1,h2⟩=>by
   let e:=rZ a h1;let g:=rZ b h2;let c:PyData.strOk w=true:=(by decide:∀w∈joinW,PyData.strOk w=true) w hw
   simp [Tr.data,PyData.canLay0,PyData.canLayAll0,PyData.depth,PyData.depthAll,Tr.depth,e.1,g.1,c]
   omega
def Tr.names_len:∀t:Tr,t.names.length<=t.size
 |.is _=>eS _
 |.yes=>i1 _
 |.no=>i1 _
 |.not a=>Nat.le_succ_of_le (Tr.names_len a)
 |.bin _ a b=>by
   have:=Tr.names_len a
   have:=Tr.names_len b
   show(a.names++b.names).length<=a.size+b.size+1;rw[fm];omega
end Mine
namespace L2
open PySem PySem.Spec PyProof.Rows
section
variable {prog:Program}{w:World}{A:Around}{E:#[6]}{s:Shared}
def KR(xs:Array Value)(x:Value):Nat->Option PySem.Fin×Unit->Sem (ForInStep (Option PySem.Fin×Unit)):=λi _=>match xs[i]? with
 |some y=>do
   let b ←eqBool y x
   if b=true then do
    let r ←retInt (i:Int)
    pure (ForInStep.done (some r,()))
    else pure (ForInStep.yield (none,()))
 |_=>pure (ForInStep.yield (none,()))
def yN{xs:Array Value}{x:Value}{e:Value->Bool}(he:∀y∈xs,SeqAt.EqAt A s y x (e y)){j:Nat}(u:j<xs.size)(o:e xs[j]=true)(t:∀(m:Nat) (v:m<xs.size),m<j->e xs[m]=false){Q:Option PySem.Fin×Unit->Shared->Prop}
 (q:Q (some (.done (.ret (.int (j:Int) s.toks))),()) { s with toks:=s.toks+1 }):∀(n k:Nat),k<=j->j<k+n->k+n<=xs.size->‹w.A› (forIn (List.range' k n 1) ((none:Option PySem.Fin),()) (KR xs x)) Q E s
 |0,k,h1,h2,_=>absurd h2 #[0]
 |n+1,k,h1,h2,h3=>by
   let g:k<xs.size:=#[0]
   rw [List.range'_succ,List.forIn_cons];apply eC ?_;let e1:KR xs x k ((none:Option PySem.Fin),())=(do
    let b ←eqBool xs[k] x
    if b=true then do
     let r ←retInt (k:Int)
     pure (ForInStep.done (some r,()))
     else pure (ForInStep.yield (none,()))):=by
    unfold KR;rw[Array.getElem?_eq_getElem g]
   rw[e1];apply eC (he _ (Array.getElem_mem g) prog w _ _ ?_)
   by_cases c:k=j
   . subst c;rw[o];apply ry (λ_=>?_) (λd=>absurd rfl d);apply eC ?_;apply eC (wpAny_mkInt ?_);apply fu ?_;apply fu ?_;exact fu q
   . rw[t k g #[0]];apply ry (λd=>absurd d ⋯) (λ_=>?_);apply fu ?_;exact yN he u o t q n (k+1) #[0] #[0] #[0]
def ua(l:Addr)(items:Array Value)(n:Nat)(b:Option Addr)(c:Array (Option Value))(x:Value)(e:Value->Bool)(j:Nat)(d:j<items.size)(g:e items[j]=true)(o:∀(m:Nat) (r:m<items.size),m<j->e items[m]=false):
 Meets (Builtin.«tuple.index» { pos:=[.ref l,x] }) λA R s=>s.heap.get? l=some { cls:=.type "tuple",dict:=b,data:=.seq items n,slots:=c }/\(∀y∈items,SeqAt.EqAt A.in1 s y x (e y))/\R (.ok (.ret (.int (j:Int) s.toks))) { s with toks:=s.toks+1 }:=by
 intro prog w A R s ⟨hl,he,q⟩;unfold Builtin.«tuple.index»;apply eC (My (a:=(Value.ref l,[x])) rfl ?_);apply eC (wpAny_tupleItemsOf hl rfl ?_);apply eC (fu ?_);apply eC (fu ?_);apply eC ?_;rw[Std.Legacy.Range.forIn_eq_forIn_range'];let e1:Std.Legacy.Range.size [0:min items.size items.size]=items.size:=by simp [Std.Legacy.Range.size]
 rw[e1];apply yN he d g o ?_ items.size 0 (i1 _) #[0] #[0];exact fu q
end
section
variable {X:Cx}
def fL(z:Str):List Str->Option Nat
 | []=>none
 |a::r=>if a=z then some 0 else(fL z r).map (·+1)
def tH:∀{ns:List Str}{j:Nat},fL z ns=some j->ns[j]?=some z/\∀m,m<j->∀y,ns[m]?=some y->y≠z
 | [],_,h=>by simp [fL]at h
 |a::r,j,h=>by
   unfold fL at h
   by_cases c:a=z
   . rw[Pe c]at h;cases h;erw[by simp [c],λm b=>absurd b #[0]]
   . rw [Pd c]at h;let%[i,e|1]:=oe h;let%[h1|h2]:=tH e;erw[by simpa using h1,λm b y d=>?_];cases m with
     |zero=>cases(j3 d);exact c
     |succ m=>exact h2 m #[0] y #[d,0]
def sE:∀{bs:List Str}{us:List Value}{i:Nat}{v:Value},Vals (bs.map V.str) us->us[i]?=some v->∃b t,bs[i]?=some b/\v=.str b t
 | [],_,_,_,.nil,h=>by simp at h
 |b::_,_,0,_,.cons r _,h=>by
   simp at h
   subst h;erw[t,e]at r;erw[b,t,1,e]
 |_::_,_,i+1,_,.cons _ t,h=>by
   let%[b,t,h1|h2]:=sE (i:=i) t #[h,0];erw[b,t,by simpa using h1,h2]
def ia(ns:List Str):(ns.map V.str).all lj=true:=by
 induction ns with
 |nil=>rfl
 |cons a r b=>rw[lw,Qy,b];rfl
def rf{ns:List Str}{j:Nat}(r:Vals (ns.map V.str) its)(h:fL z ns=some j):
 ∃c:j<its.toArray.size,eqU (.str z) its.toArray[j]=true/\∀(m:Nat)(d:m<its.toArray.size),m<j->eqU (.str z) its.toArray[m]=false:=by
 let%[h1|h2]:=tH h;let hl:=r.length;rw[d8]at hl;let e:j<ns.length:=(Pl h1).1;let c:j<its.toArray.size:=by rw[js,←hl];exact e
 erw[c,6,λm d g=>?_]
 . let%[b,t,e1|e2]:=sE r (i:=j) (v:=its.toArray[j]) #[2];rw[e2];rw[h1]at e1;cases e1;show(z==z)=true
   simp
 . let%[b,t,e1|e2]:=sE r (i:=m) (v:=its.toArray[m]) #[2];rw[e2];show(b==z)=false
   have:=h2 m g b e1
   simpa using this
instance rIndexT(K:W.Frag)(x:V)(vs:List V)(H:Hp)(Q:VK):∀(a:Addr)(ns:List Str)(z:Str)(j:Nat),x=.ref a->vs=[.str z]->SqT K H a (ns.map V.str)->fL z ns=some j->Q (.int (j:Int)) H:=0
def Dq:MtR X "tuple.index" (rIndexT X.K):=by
 exists 4,x,vs,v,us,Q,I,c,d,h;erw[a,ns,z,j,1,1,e,g,q]at h;cases c;erw[u,1,m]at d.one;let%[its,r,%[%[cls,o,data|t],b,hc,n|hd]|D]:=I.tuple e;simp only at hc hd;subst hc hd;let%[B,e1|e2]:=rf r g;apply rz F.slot_tuple_index %[_,b|1] F.entry_tuple_index (F.args_tuple_index_2 _ _) (ua a its.toArray n o t u (eqU (.str z)) j B e1 e2) ⟨b,λy C=>?_,?_⟩
 . exact ir m rfl r (ia ns) y #[C,0]
 . erw[.int (j:Int),H,I.tok _,%[|0],q]
instance rIndexL(K:W.Frag)(x:V)(vs:List V)(H:Hp)(Q:VK):∀(a:Addr)(ns:List Str)(z:Str)(j:Nat),x=.ref a->vs=[.str z]->SqL K H a (ns.map V.str)->fL z ns=some j->Q (.int (j:Int)) H:=0
def Dr:MtR X "list.index" (rIndexL X.K):=by
 exists 4,x,vs,v,us,Q,I,d,e,h;erw[a,ns,z,j,1,1,g,m,q]at h;cases d;erw[u,1,o]at e.one;let%[its,r,%[%[cls,t,data|B],n,b,hc,C|hd]|J]:=I.list g;simp only at hc hd;subst hc hd;let%[c,e1|e2]:=rf r m;let h63:=kZ;let hl:=r.length;apply rz F.slot_list_index %[_,b|1] F.entry_list_index (F.args_list_index_2 _ _) (SeqAt.list_indexAt a its.toArray n t B u (eqU (.str z)) j c (by rw[js]at c;omega) e1 e2) ⟨b,λy D=>?_,?_⟩
 . exact ir o rfl r (ia ns) y #[D,0]
 . erw[.int (j:Int),H,I.tok _,%[|0],q]
end
section
variable {κ:Type}[DecidableEq κ]
def iT(b:List (κ×V))(k:κ):Option V:=(b.find? λc=>decide (c.1=k)).map (·.2)
def pq(c:List (κ×V))(k:κ)(v:V):List (κ×V):=
 if(c.any λb=>decide (b.1=k))=true then c.map (λb=>if b.1=k then(b.1,v)else b)else c++[(k,v)]
def fb{p:κ×V}{r:List (κ×V)}{k:κ}(e:p.1=k):iT (p::r) k=some p.2:=by simp [iT,Qh,e]
def fc{p:κ×V}{r:List (κ×V)}{k:κ}(e:¬ p.1=k):iT (p::r) k=iT r k:=by simp [iT,Qh,e]
def oP(k:κ):∀b:List (κ×V),(b.any λc=>decide (c.1=k))=(iT b k).isSome
 | []=>rfl
 |p::r=>by
   rw[PN]
   by_cases e:p.1=k
   . simp only[fb e,ft e,Bool.true_or,Option.isSome_some]
   . rw[fc e,fw e,Bool.false_or];exact oP k r
def xO(k j:κ)(y:V):∀c:List (κ×V),iT (c.map λb=>if b.1=k then(b.1,y)else b) j=(iT c j).map λx=>if j=k then y else x
 | []=>rfl
 |p::r=>by
   let d:=xO k j y r;rw[lw]
   by_cases h:p.1=k
   . rw [Pe h]
     by_cases e:p.1=j
     . rw[fb (p:=(p.1,y)) e,fb e,Q6,Pe (e.symm.trans h)]
     . rw[fc (p:=(p.1,y)) e,fc e,d]
   . rw [Pd h]
     by_cases e:p.1=j
     . rw[fb (p:=p) e,fb e,Q6,Pd (λz=>h (e.trans z))]
     . rw[fc (p:=p) e,fc e,d]
def uZ(k j:κ)(y:V):∀c:List (κ×V),iT c k=none->iT (c++[(k,y)]) j=if j=k then some y else iT c j
 | [],_=>by
   by_cases e:k=j
   . rw[Pe e.symm];exact fb (p:=(k,y)) e
   . rw[Pd (λz=>e z.symm)];exact fc (p:=(k,y)) e
 |p::r,b=>by
   rw[List.cons_append];let d:¬ p.1=k:=λz=>by rw[fb z]at b;cases b
   rw[fc d]at b;let g:=uZ k j y r b
   by_cases e:p.1=j
   . rw[fb e,fb e,Pd (λz=>d (e.trans z))]
   . rw[fc e,fc e,g]
def El(b:List (κ×V))(k j:κ)(y:V):iT (pq b k y) j=if j=k then some y else iT b j:=by
 unfold pq
 by_cases a:(b.any λc=>decide (c.1=k))=true
 . rw [Pe a,xO];rw[oP]at a
   by_cases e:j=k
   . let%[x|d]:=Option.isSome_iff_exists.mp a;rw[Pe e,e,d,Q6,Pe rfl]
   . rw [Pd e];cases iT b j with
     |none=>rfl
     |some x=>rw[Q6,Pd e]
 . rw [Pd a];apply uZ k j y b ?_;rw[oP]at a;cases q:iT b k with
   |none=>rfl
   |some x=>rw[q]at a;exact(a rfl).elim
def lX(b:List (κ×V))(k:κ)(v:V):(pq b k v).length<=b.length+1:=by
 unfold pq
 split
 . rw[d8];omega
 . rw[fm,f5,ni];omega
def RelO.isSome_eq(r:RelO o u):o.isSome=u.isSome:=by
 cases o with
 | none=>cases u with
   |none=>rfl
   |some _=>exact(show False from r).elim
 | some _=>cases u with
   |none=>exact(show False from r).elim
   |some _=>rfl
def RelO.getD(r:RelO o u)(b:RelV d d'):RelV (o.getD d) (u.getD d'):=by
 cases o with
 | none=>cases u with
   |none=>exact b
   |some _=>exact(show False from r).elim
 | some _=>cases u with
   |none=>exact(show False from r).elim
   |some _=>exact r
def KV.val{g:List (κ×V)}{vs:List (κ×Value)}(r:KV g vs)(k:κ):RelO (iT g k) (valueAt vs k):=by
 unfold KV at r
 induction r with
 |nil=>exact True.intro
 | @cons p q ps c h t j=>
   erw[h1,h2]at h
   by_cases e:p.1=k
   . let d:q.1=k:=h1.symm.trans e;let b:valueAt (q::c) k=some q.2:=by simp [valueAt,Qh,d]
     rw[fb e,b];exact h2
   . let d:¬ q.1=k:=λz=>e (h1.trans z)
     let b:valueAt (q::c) k=valueAt c k:=by simp [valueAt,Qh,d]
     rw[fc e,b];exact j
def KV.any{c:List (κ×V)}{vs:List (κ×Value)}(r:KV c vs)(k:κ):(c.any λb=>decide (b.1=k))=vs.any λb=>decide (b.1=k):=by
 unfold KV at r
 induction r with
 |nil=>rfl
 |cons h t d=>rw[PN,PN,d,h.1]
def KV.repl{c:List (κ×V)}{vs:List (κ×Value)}(r:KV c vs)(k:κ)(d:RelV y u):
 KV (c.map λb=>if b.1=k then(b.1,y)else b) (vs.map λb=>if b.1=k then(b.1,u)else b):=by
 unfold KV at r ⊢
 induction r with
 |nil=>exact .nil
 | @cons p q ps j h t g=>
   rw[lw,lw];refine .cons ?_ g;erw[h1,h2]at h
   by_cases e:p.1=k
   . rw[Pe e,Pe (h1.symm.trans e)];erw[h1,d]
   . rw[Pd e,Pd (λz=>e (h1.trans z))];erw[h1,h2]
def KV.put{b:List (κ×V)}{vs:List (κ×Value)}(r:KV b vs)(k:κ)(c:RelV y u):KV (pq b k y) (stored vs k u):=by
 unfold pq stored;rw[r.any k]
 by_cases e:(vs.any λd=>decide (d.1=k))=true
 . rw[Pe e,Pe e];exact r.repl k c
 . rw[Pd e,Pd e];exact Paired.snoc r %[1|c]
def KV.length{b:List (κ×V)}{vs:List (κ×Value)}(r:KV b vs):b.length=vs.length:=Paired.length r
end
def GN(r:RelV (kV k) u):(eO P w).is k u=true:=by
 cases k with
 |inl i=>let%[t|e]:=(show ∃t,u=Value.int i t from r);subst e;exact yE P w i t
 |inr x=>let%[t|e]:=(show ∃t,u=Value.str x t from r);subst e;exact yD P w x t
def vt:∀{b:List Key}{us:List Value},Vals (b.map kV) us->ItemsAre (eO P w) b us
 | [],_,r=>by rw[Ri]at r;cases r;exact .nil
 |k::b,_,r=>by
   rw[lw]at r;cases r with
   |cons h t=>exact .cons (GN h) (vt t)
abbrev KT(H:Hp):List (List Key×V)->List (List Key×Addr×Value)->Prop:=Paired λp q=>p.1=q.1/\H q.2.1=some (.tup (p.1.map kV))/\RelV p.2 q.2.2
def KT.val{g:List (List Key×V)}{xs:List (List Key×Addr×Value)}(r:KT H g xs)(k:List Key):RelO (iT g k) ((atKey xs k).map (·.2)):=by
 induction r with
 |nil=>exact True.intro
 | @cons p q ps c h t j=>
   erw[h1,_,h2]at h
   by_cases e:p.1=k
   . let d:q.1=k:=h1.symm.trans e;let b:atKey (q::c) k=some q.2:=by simp [atKey,Qh,d]
     rw[fb e,b];exact h2
   . let d:¬ q.1=k:=λz=>e (h1.trans z)
     let b:atKey (q::c) k=atKey c k:=by simp [atKey,Qh,d]
     rw[fc e,b];exact j
def KT.repl{c:List (List Key×V)}{xs:List (List Key×Addr×Value)}(r:KT H c xs)(k:List Key)(d:RelV y u):
 KT H (c.map λb=>if b.1=k then(b.1,y)else b) (xs.map (putAt k u)):=by
 induction r with
 |nil=>exact .nil
 | @cons p q ps j h t g=>
   rw[lw,lw];refine .cons ?_ g;erw[h1,h2,h3]at h;unfold putAt
   by_cases e:p.1=k
   . rw[Pe e,Pe (h1.symm.trans e)];erw[h1,h2,d]
   . rw[Pd e,Pd (λz=>e (h1.trans z))];erw[h1,h2,h3]
def KT.put{c:List (List Key×V)}{xs:List (List Key×Addr×Value)}(r:KT H c xs)(k:List Key){b:Addr}(hb:H b=some (.tup (k.map kV)))(d:RelV y u):
 KT H (pq c k y) (storedH xs k b u):=by
 let e:(c.any λg=>decide (g.1=k))=(atKey xs k).isSome:=by
  rw[oP,(r.val k).isSome_eq,Option.isSome_map]
 unfold pq storedH;rw[e]
 by_cases q:(atKey xs k).isSome=true
 . rw[Pe q,Pe q];exact r.repl k d
 . rw[Pd q,Pd q];exact Paired.snoc r %[1,hb|d]
def KT.keeps{c:Hp}{d:List (List Key×V)}{xs:List (List Key×Addr×Value)}(r:KT H d xs)(e:∀b ys,H b=some (.tup ys)->c b=some (.tup ys)):KT c d xs:=
 Paired.mapP r λ_ _ z=>%[z.1,e _ _ z.2.1|z.2.2]
section
variable {P:Program}{w:World}{H:Hp}{h:Heap}{a:Addr}
def JI(ok:HOk P w H h)(e:Rd H a u):ObjOk P w H h a u:=e.ok ok
def BZ{b:List (Key×V)}(ok:HOk P w H h)(e:Rd H a (.dK b)):b.length<=sizeLine/\(a==sysModules)=false/\∃vs,KV b vs/\h.DictOf (eO P w) a vs:=
 show ObjOk P w H h a (.dK b)from JI ok e
def dk_of{b:List (Key×V)}(ok:HOk P w H h)(e:H a=some (.dK b)):b.length<=sizeLine/\(a==sysModules)=false/\∃vs,KV b vs/\h.DictOf (eO P w) a vs:=BZ ok (.inl e)
def AI{b:List Key}(ok:HOk P w H h)(e:H a=some (.tup (b.map kV))):(tupleKind (eO P w)).is h b a:=by
 let%[_,its,r,%[o,h1,h2,n|h3]|_]:=(show ObjOk P w H h a (.tup (b.map kV))from ok a _ e)
 erw[o,its.toArray,n,h1,h2,h3,by simpa using vt r]
def Hn{c:List (List Key×V)}(ok:HOk P w H h)(e:Rd H a (.dT c)):c.length<=sizeLine/\(a==sysModules)=false/\
 ∃xs,KT H c xs/\h.DictOfH (tupleKind (eO P w)) a xs:=by
 let%[z,y,xs,r,o,g,j,h1,h2,h3,h4|h5]:=(show ObjOk P w H h a (.dT c)from JI ok e)
 erw[z,y,xs,r,o,g,j,h1,h2,h3,h4,λx b=>?_,h5];let all:∀{l:List (List Key×V)}{m:List (List Key×Addr×Value)},KT H l m->∀x∈m,(tupleKind (eO P w)).is h x.1 x.2.1:=by
  intro l m q
  induction q with
  |nil=>intro x b;exact nomatch b
  | @cons p q ps u d t n=>
    intro x b;rcases qA0 b with e | b
    . subst e;exact AI ok (by rw[←d.1];exact d.2.1)
    . exact n x b
 exact all r x b
def dt_of{b:List (List Key×V)}(ok:HOk P w H h)(e:H a=some (.dT b)):b.length<=sizeLine/\(a==sysModules)=false/\
 ∃xs,KT H b xs/\h.DictOfH (tupleKind (eO P w)) a xs:=Hn ok (.inl e)
end
def DGet(H:Hp)(a:Addr)(y:V)(r:Option V):Prop:=
 (∃c k,Rd H a (.dK c)/\y=kV k/\r=iT c k)∨∃c k b,Rd H a (.dT c)/\y=.ref b/\H b=some (.tup (k.map kV))/\r=iT c k
def DPut(H:Hp)(a:Addr)(y v:V)(d:Hp):Prop:=
 (∃c k,H a=some (.dK c)/\y=kV k/\c.length<sizeLine/\d=upd H a (.dK (pq c k v)))∨
 ∃c k b,H a=some (.dT c)/\y=.ref b/\H b=some (.tup (k.map kV))/\c.length<sizeLine/\d=upd H a (.dT (pq c k v))
def DGet.k{H:Hp}{a:Addr}{b:List (Key×V)}{k:Key}(e:H a=some (.dK b)):DGet H a (kV k) (iT b k):=.inl %[b,k,.inl e,1|1]
def DPut.k{H:Hp}{a:Addr}{b:List (Key×V)}{k:Key}(e:H a=some (.dK b))(hl:b.length<sizeLine):DPut H a (kV k) v (upd H a (.dK (pq b k v))):=.inl %[b,k,e,1,hl|1]
section
variable {X:Cx}{Pc:#[7]}{σ:St}{H:Hp}{s:Shared}{a:Addr}{y v:V}{u r:Value}{o:Option V}{A:Around}{E:#[6]}
def Inv.big(I:#[8] H s):sysModules<‹s›:=by
 let h:mainGlobals<‹s›:=(I.mod.glob.keeps I.bk).lt;exact Nat.lt_trans ⋯ h
def Cd{h':Heap}{t':Nat}(I:#[8] H s)(d:Mut (H a))(g:Heap.SameBut a s.heap h')(he:∃q,h'.get? a=some q)(new:ObjOk X.prog X.w (upd H a c) h' a c):
 #[8] (upd H a c) { s with heap:=h',toks:=t' }:=
 I.write (x:=a) (e:=a) d (.inl rfl) (λb q hb z=>(g.2 b hb).trans z) he new
def Hs{d:Hp}{h':Heap}{b:List (Key×V)}{vs:List (Key×Value)}(z:b.length<=sizeLine)(hd:(a==sysModules)=false)(c:KV b vs)(e:h'.DictOf (eO P w) a vs):
 ObjOk P w d h' a (.dK b):=%[z,hd,vs,c|e]
def DW{Q:Unit->Shared->Prop}(O:A.units+1<cLine)(I:#[8] H s)(g:DPut H a y v U)(J:RelV y u)(L:RelV v r)(h:∀s',#[8] U s'->Q () s'):
 wpAny (model X.prog X.w) A (setItem (.ref a) u r) Q E s:=by
 rcases g with⟨m,k,e,t,l,x⟩ | ⟨m,k,b,e,t,M,l,x⟩
 . subst t x;let%[z,hd,vs,d|B]:=dk_of I.hok e;let C:vs.length<=sizeLine:=by rw[←d.length];exact z
   let hl:(pq m k v).length<=sizeLine:=by have:=lX m k v;omega
   apply wpAny_setItem_pairs (hsz:=C) (GN J) B λh' j D=>h _ ?_
   let he:∃q,h'.get? a=some q:=let⟨q,_,_,n,_⟩:=j;%[q|n]
   exact Cd I (by rw[e];exact True.intro) D he (Hs hl hd (d.put k L) j)
 . subst t x;cases(show u=Value.ref b from J);let%[z,hd,xs,d|B]:=dt_of I.hok e;let C:xs.length<=sizeLine:=by rw[←Paired.length d];exact z
   let hl:(pq m k v).length<=sizeLine:=by have:=lX m k v;omega
   apply wpAny_setItem_heap (hsz:=C) (tupleKind_room_in1 O) (AI I.hok M) B λh' j D=>h _ ?_
   erw[q,Y,ep,n,h2,h3,h4,_,h5]at j;apply Cd I (by rw[e];exact True.intro) D ⟨q,n⟩ ⟨hl,hd,_,(d.put k M L).keeps λc ys N=>?_,q,Y,ep,n,h2,h3,h4,h5⟩;rw[az (bO N e (λz=>nomatch z))];exact N
end
instance ZsDPut(D:Ends)(σ:St)(v:V)(x:V)(y:V)(H3:Hp):∀a H4,x=.ref a->DPut H3 a y v H4->D.nx σ H4:=0
def sDPut(b ty c:TE):TS:=λD σ H=>c σ H λv d=>b σ d λx e=>ty σ e λy g=>ZsDPut D σ v x y g
section
variable {X:Cx}{o i e value:Expr}{pos pos' tpos:Pos}{td ty tv:TE}
def ID(b:X.A.units+1<cLine)(c:PE X o td)(d:PE X i ty)(j:PE X value tv)(m:swapsWith value (some (.Subscript o i pos')) pos.line X.env=pure false):
 PS X (.Assign [.Subscript o i pos'] value pos) (sDPut td ty tv):=by
 exists 4,D,I,h;apply wpAny_Assign_Subscript (thn (j Pc s σ H _ I h) λr s1 ⟨v,n,q,t,z⟩=>thn (c Pc s1 σ n _ q z) λu B ⟨x,C,J,L,M⟩=>thn (d Pc B σ C _ J M) λiv s3 ⟨y,H3,N,O,a,U,ex,g,Y⟩=>?_) m;subst ex;obtain rfl:u=Value.ref a:=L;exact DW b N g O t λs4 I4=>%[σ,U,I4|Y]
end
def Ht{P:Program}{w:World}{H:Hp}(h:Heap)(hb:sysModules<h.objs.size):ObjOk P w H (h.push { cls:=.type "dict",data:=.dict #[] }) h.objs.size (.dK []):=
 %[i1 _,beq_eq_false_iff_ne.mpr (Ne.symm (i2 hb)),[],.nil|Heap.DictOf.new h]
def Kl:TE:=λ_ H Q=>∀p,H p=none->Q (.ref p) (upd H p (.dK []))
section
variable {X:Cx}{pos:Pos}
def Fp:PE X (.Dict [] [] pos) Kl:=λPc s σ H Q I h=>
 wpAny_Dict_empty %[.ref ‹s›,_,I.laid (a:=‹s›) (o:=.dK []) (t':=s.toks) (λ_ _ q=>gz _ q) (eS _) (Ht s.heap I.big),1|h _ (I.hok.fresh (eS _))]
end
structure M2(X:Cx)(o:Expr)(m:Str)(Pq:Pos)(e f:Expr)(Pk:Pos):Prop where
 base:attributeBase o m X.env (eval o X.env)=eval o X.env
 few:((backTo Pk (starEach [e,f] X.env)).all (λx=>!x.1)&&(backToKw Pk (keywordEach [] X.env)).all (λx=>x.1.isSome)
  &&decide (([e,f]:List Expr).length+([]:List Keyword).length+(if([]:List Keyword).isEmpty then 0 else 1)<30))=true
 line:(Pq.endLine==Pk.line)=true
 trees:backTo Pk (starEach [e,f] X.env)=[(false,eval e X.env),(false,eval f X.env)]
def IsD(H:Hp)(a:Addr):Prop:=(∃b,Rd H a (.dK b))∨∃b,Rd H a (.dT b)
def KO{σ:St}(I:#[8] H s)(d:IsD H a):
 s.TypeIs (.ref a) "dict"/\(∀b,Value.ref a=.ref b->∃c,s.heap.get? b=some c/\c.dict=none)/\(a==sysModules)=false:=by
 rcases d with⟨j,e⟩ | ⟨j,e⟩
 . let%[_,hd,vs,_|g]:=BZ I.hok e;erw[g.typeIs,λb q=>?_,hd];cases q;erw[c,_,_,h1,h2,_]at g;erw[c,h1,h2.2.1]
 . let%[_,hd,xs,_|g]:=Hn I.hok e;erw[g.typeIs,λb q=>?_,hd];cases q;erw[c,_,_,h1,h2,_]at g;erw[c,h1,h2.2.1]
section
variable {X:Cx}{Pc:#[7]}{σ:St}{H:Hp}{s:Shared}{a:Addr}{y d:V}{u r:Value}{o:Option V}{A:Around}{E:#[6]}
def Lm{Q:#[6]}(v:A.units+1<cLine)(I:#[8] H s)(g:DGet H a y o)(n:RelV y u)(q:RelV d r)(h:∀t s',#[8] H s'->RelV (o.getD d) t->Q t s'):
 wpAny (model X.prog X.w) A (call (.builtin "dict.get") [.ref a,u,r]) Q E s:=by
 rcases g with⟨x,k,e,m,l⟩ | ⟨x,k,b,e,m,B,l⟩
 . subst m;let%[z,hd,vs,c|j]:=BZ I.hok e;apply call_meetsIn Rw j.typeIs PySem.F.entry_dict_get (PySem.F.args_dict_get_3 _ _ _) (meets_dict_get_default (eO X.prog X.w) a (GN n) hd r) %[_,j.mapOf|h _ _ (I.tok _) ?_];rw[l];exact(c.val k).getD q
 . subst m;cases(show u=Value.ref b from n);let%[z,hd,xs,c|j]:=Hn I.hok e;apply call_meetsIn Rw j.typeIs PySem.F.entry_dict_get (PySem.F.args_dict_get_3 _ _ _) (meetsH_dict_get_default (tupleKind (eO X.prog X.w)) a b hd r) %[tupleKind_room_in1 v,k,xs,AI I.hok B,j|h _ _ (I.tok _) ?_];rw[l];exact(c.val k).getD q
end
instance ZtDGet2(ty:TE)(tx:TE)(σ:St)(Q:VK)(x:V)(H1:Hp):∀a,x=.ref a->IsD H1 a->(ty σ H1 λy H2=>tx σ H2 λz H3=>∃o,DGet H3 a y o/\Q (o.getD z) H3):=0
def Km(b ty c:TE):TE:=λσ H Q=>b σ H λx d=>ZtDGet2 ty c σ Q x d
section
variable {X:Cx}{o e f:Expr}{Pq Pk:Pos}{td ty tx:TE}
def Fq(j:X.A.units+1<cLine)(n:PE X o td)(he:PE X e ty)(hf:PE X f tx)(m:M2 X o "get" Pq e f Pk):PE X (.Call (.Attribute o "get" Pq) [e,f] [] Pk) (Km td ty tx):=by
 exists 4,Q,I,h;apply wpAny_Call_method m.base m.few m.line PySem.F.plainAttrs_dict Rw PySem.F.type_dict_get (thn (n Pc s σ H _ I h) λu s1 ⟨x,q,c,r,a,ex,d,t⟩=>?_);subst ex;obtain rfl:u=Value.ref a:=r;let%[t1,v|_]:=KO c d;erw[t1,v,6];rw[m.trees];apply QL rfl (QR (PU (thn (he Pc s1 σ q _ c t) λiv B ⟨y,C,D,J,L⟩=>
  PU (thn (hf Pc B σ C _ D L) λfv s3 ⟨z,M,N,O,ov,g,U⟩=>Qc ?_))))
 exact Lm j N g J O λw' s4 Y b=>%[_,M,Y,b|U]
end
section
variable {X:Cx}{Pc:#[7]}{σ:St}{H:Hp}{s:Shared}{a:Addr}{Ph:List (Key×V)}{A:Around}{E:#[6]}
def Hw{Q:#[6]}(I:#[8] H s)(e:Rd H a (.dK Ph))(h:∀p s',H p=none->#[8] (upd H p (.dK Ph)) s'->Q (.ref p) s'):wpAny (model X.prog X.w) A (call (.type "dict") [.ref a]) Q E s:=by
 let%[z,hd,vs,c|j]:=BZ I.hok e;apply kt_call_dict hd j (by rw[←c.length];exact z) λh' d m=>?_
 apply h _ _ (I.hok.fresh (eS _)) (I.laid (a:=‹s›) (o:=.dK Ph) (t':=s.toks) (λb q g=>?_) (eS _) (Hs z (beq_eq_false_iff_ne.mpr (Ne.symm (i2 I.big))) c d));exact(m.2 b (i2 (f4 g))).trans (gz _ g)
end
section
variable {X:Cx}
def Inv.tupD{σ:St}{a:Addr}{xs:List V}(I:#[8] H s)(h:H a=some (.tup xs)):∃b,s.heap.get? a=some b/\b.dict=none:=by
 let%[_,_,_,_,o,e|d]:=(show ObjOk X.prog X.w H s.heap a (.tup xs)from I.hok a _ h)
 erw[o,e,d]
instance ZtIndex(t:TA)(σ:St)(Q:VK)(x:V)(H1:Hp):∀(a:Addr)(ns:List Str),x=.ref a->H1 a=some (.lst (ns.map V.str))∨H1 a=some (.tup (ns.map V.str))->(t σ H1 λvs H2=>(H2 a=H1 a)/\∃(z:Str)(j:Nat),vs=[.str z]/\fL z ns=some j/\Q (.int (j:Int)) H2):=0
def Kk(K:W.Frag)(to:TE)(t:TA):TE:=λσ H Q=>to σ H λx b=>ZtIndex t σ Q x b
variable {o e:Expr}{es:List Expr}{to:TE}{t:TA}{Pq Pk:Pos}
def yf(pl:PlainAttrs "list")(pt:PlainAttrs "tuple")(U:PE X o to)(ha:PA X (e::es) t)
 (m:attributeBase o "index" X.env (eval o X.env)=eval o X.env:=by rfl)
 (r:((backTo Pk (starEach (e::es) X.env)).all (λx=>!x.1)&&(backToKw Pk (keywordEach [] X.env)).all (λx=>x.1.isSome)
  &&decide ((e::es).length+([]:List Keyword).length+(if([]:List Keyword).isEmpty then 0 else 1)<30))=true:=by rfl)
 (q:(Pq.endLine==Pk.line)=true:=by rfl) (Y:starEach (e::es) X.env=(false,eval e X.env)::starEach es X.env:=by rfl) (g:(backTo Pk (starEach es X.env)).any (·.1)=false:=by rfl) :
 PE X (.Call (.Attribute o "index" Pq) (e::es) [] Pk) (Kk X.K to t):=by
 exists 4,Q,I,h;apply wpAny_Call_method_late m r q rfl (thn (U Pc s σ H _ I h) λv s1 ⟨x,H1,u,r1,a,ns,ex,hh,q1⟩=>?_);subst ex;cases r1;let hA:=ha Pk Pc s1 σ H1 _ u q1;rw[Y]at hA ⊢;rcases hh with hh | hh
 . let%[its,_,p|_]:=u.list (eH hh);let%[ob,n,e1,c,d|_]:=id p;erw["list","list.index",pl,F.slot_list_index,F.type_list_index,p.isList.typeIs,λb y=>?_,6]
   . cases y;erw[ob,e1,d]
   . apply QL (by show(false||(backTo Pk (starEach es X.env)).any (·.1))=false;rw[g] <;> rfl) (QR ?_);exact thn hA λus B ⟨vs,C,D,J,L,z,j,M,N,O⟩=>Dr Pc B σ C (.ref a) vs (.ref a) us Q D rfl J %[a,ns,z,j,1,M,eH (L.trans hh),N|O]
 . let%[its,_,p|_]:=u.tuple (dV hh);erw["tuple","tuple.index",pt,F.slot_tuple_index,F.type_tuple_index,p.typeIs,λb y=>?_,6]
   . cases y;exact u.tupD hh
   . apply QL (by show(false||(backTo Pk (starEach es X.env)).any (·.1))=false;rw[g] <;> rfl) (QR ?_);exact thn hA λus B ⟨vs,C,D,J,L,z,j,M,N,O⟩=>Dq Pc B σ C (.ref a) vs (.ref a) us Q D rfl J %[a,ns,z,j,1,M,dV (L.trans hh),N|O]
end
def CompScope.three{X:Cx}{x y z u:Str}{scope:Scope}{k l m:Nat}{c d e:Addr}{cl:List (Str×Addr)}(D:closureFor scope X.env=pure cl)(J:∀y∈scope.names,y.2≠.cell)(L:scope.kind=.function)(M:∀y∈scope.names,y.2=.local->scope.names.lookup y.1=some .local)
 (O:scope.names.lookup x=some .local)(nd:[x,y,z,u].Nodup)(b:cl=[(y,c),(z,d),(u,e)])(hc:X.env.cells.lookup y=some c)(hd:X.env.cells.lookup z=some d)(he:X.env.cells.lookup u=some e)(U:((relabel scope X.env).names.all λp=>!(p.2==.cell||p.2==.free)||(cl.lookup p.1).isSome)=true)
 (hr:(relabel scope X.env).names.lookup y=some .cell)(Y:X.N[k]?=some y)(hs:X.env.scope.names.lookup y=some .cell)
 (g:(relabel scope X.env).names.lookup z=some .cell)(n:X.N[l]?=some z)(o:X.env.scope.names.lookup z=some .cell)
 (q:(relabel scope X.env).names.lookup u=some .cell)(r:X.N[m]?=some u)(t:X.env.scope.names.lookup u=some .cell):CompScope X x [y,z,u] [k,l,m] scope cl where
 clos:=D
 nocell:=J
 kind:=L
 names:=M
 own:=O
 nd:=nd
 sub:=λp hp=>by
  subst b;rcases qA0 hp with h | h
  . rw[h];assumption
  . rcases qA0 h with h | h
    . rw[h];assumption
    . rw[Pn h];assumption
 has:=U
 outs:=λj w h=>by
  let v:y≠z:=λe=>by simp [e]at nd
  let B:y≠u:=λe=>by simp [e]at nd
  let C:z≠u:=λe=>by simp [e]at nd
  subst b
  match j,h with
  |0,h=>
    let e:y=w:=j3 h;subst e;erw[hr,k,c,1,Y,by simp [List.lookup],hs]
  |1,h=>
    let e:z=w:=j3 h;subst e
    have:(z==y)=false:=#[Ne.symm v,0]
    erw[g,l,d,1,n,by simp [List.lookup,this],o]
  |2,h=>
    let ew:u=w:=j3 h;subst ew;let h1:(u==y)=false:=#[Ne.symm B,0]
    let h2:(u==z)=false:=#[Ne.symm C,0]
    erw[q,m,e,1,r,by simp [List.lookup,h1,h2],t]
  |j+3,h=>simp at h
section
variable {X:Cx}
def vz:∀{xs:List V}{us:List Value},Vals xs us->xs.all lj=true->us.countP (eqU x)=xs.countP λy=>eqV y x
 |_,_,.nil,_=>rfl
 |y::xs,u::us,.cons r t,f=>by
   rw[Qy,PL]at f;rw[Qf,Qf,AS r f.1,vz t f.2]
instance rCountL(K:W.Frag)(x:V)(vs:List V)(H:Hp)(Q:VK):∀(a:Addr)(xs:List V)(z:V),x=.ref a->vs=[z]->SqL K H a xs->xs.all lj=true->lj z=true->Q (.int ((xs.countP λy=>eqV y z:Nat):Int)) H:=0
def Gi:MtR X "list.count" (rCountL X.K):=by
 exists 4,x,vs,v,us,Q,I,c,d,h;erw[a,xs,z,1,1,e,fs,g,q]at h;cases c;erw[u,1,j]at d.one;let%[its,r,%[%[cls,m,data|o],n,b,hc,t|hd]|C]:=I.list e;simp only at hc hd;subst hc hd;apply rz F.slot_list_count %[_,b|1] F.entry_list_count (F.args_list_count_2 _ _) (SeqAt.list_countAt a its.toArray n m o u (eqU z)) ⟨b,λy B=>?_,?_⟩
 . exact ir j g r fs y #[B,0]
 . rw[show its.toArray.toList=its from rfl,vz r fs];erw[.int ((xs.countP λy=>eqV y z:Nat):Int),H,I.tok _,%[|0],q]
end
def fO(g:Nat->Int):Nat->Int
 |0=>g 0
 |k+1=>if fO g k<g (k+1)then g (k+1)else fO g k
def zm(g:Nat->Int):∀n k,k<=n->g k<=fO g n
 |0,k,h=>by
   let e:k=0:=#[0]
   subst e;exact qq _
 |n+1,k,h=>by
   unfold fO
   by_cases c:k=n+1
   . subst c
     split <;> omega
   . have:=zm g n k #[0]
     split <;> omega
def Az(ns:List Int)(d:Int):Int:=match ns with | []=>d | _::_=>fO (λi=>ns[i]?.getD 0) (ns.length-1)
def xj{ns:List Int}{x:Int}(h:x∈ns):x<=Az ns d:=by
 let%[i,b|e]:=QT h;cases ns with
 |nil=>cases h
 |cons a r=>
   have:=zm (λi=>(a::r)[i]?.getD 0) ((a::r).length-1) i #[0]
   simp only[fz b,QZ,e]at this;exact this
section
variable {prog:Program}{w:World}{A:Around}{R:Result->Shared->Prop}{I S:Addr}{fp wr:List Addr}{n:Nat}{P:Nat->Value->Prop}{St:Nat->Heap->Prop}{g:Nat->Int}{kw:List (Str×Value)}
def rN:(toString "max"++toString ".loop":String)="max.loop":=by decide
def Ge(W:Walks prog w A.in1 I fp wr n P St)(O:∀i v,P i v->∃t,v=Value.int (g i) t)(nS:S∉fp):∀(k j:Nat)(s:Shared)(t:Tok)(c:Nat),j+1+k=n->St (j+1) s.heap ->
 s.heap.get? S=some { cls:=.type "list",dict:=none,data:=.seq #[.int (fO g j) t,.int (fO g j) t] c,slots:=#[] } ->
 (∀t' h' D,(∀b o,b∉wr->b≠S->s.heap.get? b=some o->h'.get? b=some o)->R (.ok (.ret (.int (fO g (n-1)) t'))) { s with heap:=h',toks:=D }) ->
 codeAny (model prog w) A (.builtin "max.loop" %[[.ref I,.none,.ref S]|kw]) R s:=by
 let L:S∉wr:=λz=>nS (W.sub _ z)
 intro k
 induction k with
 |zero=>
   intro j s t c M st y q;apply codeAny_builtin R9 ?_;rw[RC PZ _];show wpAny _ A.in1 (seqItems? (.ref S) >>= _) _ _ s;apply eC (CS y rfl ?_);show wpAny _ A.in1 (tryCatch (pyNext (.ref I)) _ >>= _) _ _ s;apply eC (Rb (W.done s _ _ (by rw[←M];exact st) λh' D kp=>?_));show wpAny _ A.in1 (updateSeq S (λ_=>#[]) >>= _) _ _ _;apply eC ?_;apply wpAny_updateSeq (kp S _ L y) rfl (eC (PQ (fu ?_)));let e:n-1=j:=#[0]
   rw[e]at q;exact q t _ D λb o h1 h2 d=>(Heap.get?_update_other _ _ (Ne.symm h2)).trans (kp b o h1 d)
 |succ k N=>
   intro j s t c M st y q;apply codeAny_builtin R9 ?_;rw[RC PZ _];show wpAny _ A.in1 (seqItems? (.ref S) >>= _) _ _ s;apply eC (CS y rfl ?_);show wpAny _ A.in1 (tryCatch (pyNext (.ref I)) _ >>= _) _ _ s;apply eC (Rb (W.item (j+1) s _ _ #[0] st λv h' D pv B kp=>?_));let%[C|1]:=O _ _ pv;let m:=kp S _ L y;show wpAny _ A.in1 (tryCatch (holding [Value.int (g (j+1)) C,Value.int (g (j+1)) C] (richCompare .Gt (Value.int (g (j+1)) C) (Value.int (fO g j) t) >>= _)) _ >>= _) _ _ _;apply eC (Rb (Qj (eC (CmpOf.ints_gt (prog:=prog) (w:=w) (A:=A.in1) (P:=λi v=>∃t,v=Value.int (if i=0 then fO g j else g (j+1)) t) (λi=>if i=0 then fO g j else g (j+1)) (λi v h=>h) 1 0 _ _ _ _ _ %[C|1] ⟨t,rfl⟩ ?_))));apply eC (Qj (y1 ?_));apply eC (PQ (fu ?_))
   by_cases J:fO g j<g (j+1)
   . let e1:fO g (j+1)=g (j+1):=by unfold fO;rw[Pe J]
     apply ry (λ_=>?_) (λr=>absurd (ft J) r);apply eC ?_;apply wpAny_updateSeq m rfl (eC (PQ ?_));rw[rN];apply fu %[Re PZ _|N (j+1) _ C _ #[0] (W.frame _ _ _ B λb hb o d=>?_) (by rw[e1];exact Heap.get?_update_self _ m rfl) λt' h2 u x=>?_]
     . exact(Heap.get?_update_other _ _ (λz:S=b=>nS (by rw[z];exact hb))).trans d
     . exact q t' h2 u λb o h1 h3 d=>x b o h1 h3 ((Heap.get?_update_other _ _ (Ne.symm h3)).trans (kp b o h1 d))
   . let e1:fO g (j+1)=fO g j:=by unfold fO;rw[Pd J];cases j <;> rfl
     apply ry (λr=>absurd (y3 r) J) (λ_=>?_);apply eC (PQ ?_);rw[rN];apply fu %[Re PZ _|N (j+1) _ t c #[0] B (by rw[e1];exact m) λt' h2 u x=>?_];exact q t' h2 u λb o h1 h3 d=>x b o h1 h3 (kp b o h1 d)
def Gf(W:Walks prog w A.in1 I fp wr n P St)(x:∀i v,P i v->∃t,v=Value.int (g i) t)(nS:S∉fp)(C:0<n){s:Shared}{c:Nat}(st:St 0 s.heap)(y:s.heap.get? S=some { cls:=.type "list",dict:=none,data:=.seq #[] c,slots:=#[] })
 (q:∀t' h' B,(∀b o,b∉wr->b≠S->s.heap.get? b=some o->h'.get? b=some o)->R (.ok (.ret (.int (fO g (n-1)) t'))) { s with heap:=h',toks:=B }):
 codeAny (model prog w) A (.builtin "max.loop" %[[.ref I,.none,.ref S]|kw]) R s:=by
 let D:S∉wr:=λz=>nS (W.sub _ z)
 apply codeAny_builtin R9 ?_;rw[RC PZ _];show wpAny _ A.in1 (seqItems? (.ref S) >>= _) _ _ s;apply eC (CS y rfl ?_);show wpAny _ A.in1 (tryCatch (pyNext (.ref I)) _ >>= _) _ _ s;apply eC (Rb (W.item 0 s _ _ C st λv h' B pv e kp=>?_));let%[j|1]:=x _ _ pv;let d:=kp S _ D y;show wpAny _ A.in1 (updateSeq S (λ_=>#[Value.int (g 0) j,Value.int (g 0) j]) >>= _) _ _ _;apply eC ?_;apply wpAny_updateSeq d rfl ?_;rw[rN];apply fu %[Re PZ _|Ge W x nS (n-1) 0 _ j _ #[0] (W.frame _ _ _ e λb hb o m=>?_) (Heap.get?_update_self _ d rfl) λt' h2 r u=>?_]
 . exact(Heap.get?_update_other _ _ (λz:S=b=>nS (by rw[z];exact hb))).trans m
 . exact q t' h2 r λb o h1 h3 m=>u b o h1 h3 ((Heap.get?_update_other _ _ (Ne.symm h3)).trans (kp b o h1 m))
end
section
variable {X:Cx}{e k:Expr}{te tk:TE}{pos p1 kp:Pos}
instance rMax1(K:W.Frag)(xs:List V)(H:Hp)(Q:VK):∀a ns,xs=[.ref a]->SqL K H a (ns.map V.int)->ns≠[]->Q (.int (Az ns 0)) H:=0
def kg(hc:X.calm=true):jm X (.builtin "max") (rMax1 X.K):=by
 intro Pc c σ y xs us Q d r h;erw[a,ns,1,M,C,q]at h;let%[u,1|N]:=lu r;cases N;let%[its,D,p|hz]:=d.list M;let hl:=D.length;rw[d8]at hl;let L:a<‹c›:=by erw[o,n,e,_]at p;exact f4 e
 apply call_function_tree F.kind_max F.plain_max F.entry_max (F.args_max1 _) ?_;show wpAny _ X.A.in1 (Builtin.Builtins.bindParams "max" ["key","default"] 0 %[[]|[]] >>= λ_=>_) _ _ c;apply eC (My (a:=[none,none]) rfl ?_);apply eC (fu ?_);apply eC (PX p.isList ?_);apply eC (rx ?_);rw[rN];let B:a≠‹c›:=i2 L;let W:=Walks.list (prog:=X.prog) (w:=X.w) (A:=X.A.in1) (d.ok.hd hc) ‹c› a B its.toArray;let O:#[8] y { c with heap:=c.heap.push { cls:=.type "list_iterator",data:=.fields #[.ref a,.int 0 0] } }:=d.kept (t':=c.toks) λb o m=>gz _ m
 let U:#[8] y { c with heap:=(c.heap.push { cls:=.type "list_iterator",data:=.fields #[.ref a,.int 0 0] }).push { cls:=.type "list",data:=.seq #[] } }:=O.kept (t':=c.toks) λb o m=>gz _ m
 let j:∀o:Obj,(c.heap.push o).objs.size=‹c›+1:=λo=>by simp [Heap.push]
 let nS:(c.heap.push { cls:=.type "list_iterator",data:=.fields #[.ref a,.int 0 0] }).objs.size∉[‹c›,a]:=by
  intro Y;rcases qA0 Y with z | z
  . rw[j]at z;exact absurd z (Nat.succ_ne_self _)
  . let z:=Pn z;rw[j]at z;exact absurd z (P3 (QV L))
 let gv:∀i v,its.toArray[i]?=some v->∃t,v=Value.int (ns[i]?.getD 0) t:=λi v x=>by
  let%[b,t,hb|1]:=uf D (i:=i) (v:=v) (by first | exact x | simpa using x | (rw[List.getElem?_toArray]at x;exact x));erw[t,by rw[hb];rfl]
 let n0:0<ns.length:=List.length_pos_iff.mpr C;apply fu %[Re PZ _|Gf (g:=λi=>ns[i]?.getD 0) W gv nS (by rw[js,←hl];exact n0) %[%[_,gz _ (kv _ rfl),1|1]|(p.isList.push _).push _] (kv _ rfl) λt' h' tk kp=>?_];rw[js,←hl];let em:fO (λi=>ns[i]?.getD 0) (ns.length-1)=Az ns 0:=by
  cases ns with
  |nil=>exact absurd rfl C
  |cons _ _=>rfl
 rw[em];erw[.int _,y,6,%[|0],q];let J:=Inv.turnedL (h':=h') (t':=tk) (ch:=[‹c›,‹c›+1]) U (λb o hb m=>kp b o (λz=>hb (by rw[Pn z];exact kb)) (λz=>hb (by rw[z,j];exact mj _ kb)) m);apply J λb hb=>?_
 rcases qA0 hb with h | h
 . rw[h];exact d.fpOk (eS _) (d.hok.fresh (eS _))
 . rw[Pn h];exact d.fpOk (n9 _) (d.hok.fresh (n9 _))
end
section
variable {prog:Program}{w:World}{A:Around}{E:#[6]}{s:Shared}
def Bh{c t:Addr}{i:Nat}{items:Array Value}{x:Value}{Q:#[6]}(b:s.heap.IsTupleIter c t i)(j:s.heap.IsTuple t items)(m:items[i]?=some x)
 (q:∀h',h'.IsTupleIter c t (i+1)->Heap.SameBut c s.heap h'->Q x { s with heap:=h' }):‹w.A› (Builtin.SmallTypes.nextOf (.ref c)) Q E s:=by
 let%[o,d,hc|hd]:=id b;erw[n,e,_,nl,g]at j;unfold Builtin.SmallTypes.nextOf;apply eC (PH (name:=Str.ofString "__next__") b.typeIs QG (Py QG b.typeIs F.entry_tuple_iterator_next ?_ (F.args_tuple_iterator_next_1 _)));show wpAny _ _ (field (.ref c) 0 >>= _) _ _ s;apply eC (oj d hd (x:=.ref t) rfl ?_);show wpAny _ _ (if(Value.ref t==Value.none)=true then _ else _) _ _ s;rw[Pd (show ¬ ((Value.ref t==Value.none)=true)from ln)];show wpAny _ _ (field (.ref c) 1 >>= _) _ _ s;apply eC (oj d hd (x:=.int i 0) rfl ?_);show wpAny _ _ (seqItems? (.ref t) >>= _) _ _ s;apply eC (CS e g ?_);simp only[pu,m];apply eC (wpAny_setField d hd #[2] (fu %[x,1|fu (q _ ?_ (Heap.SameBut.update ..))]));erw[_,Heap.get?_update_self _ d (Obj.isFreed_of_fields (Obj.data_mapFields hd _)),(Obj.cls_mapFields ..).trans hc,by rw[Obj.data_mapFields hd];simp [rawInt]]
def zA{c t:Addr}{i:Nat}{items:Array Value}{Q:#[6]}(hh:A.handled=none)(b:s.heap.IsTupleIter c t i)(n:s.heap.IsTuple t items)(r:items[i]?=none)
 (q:∀h' e,Heap.ExtBut c s.heap h'->(∃o,h'.get? e=some o/\o.cls=.type "StopIteration")->E (.ref e) { s with heap:=h' }):‹w.A› (Builtin.SmallTypes.nextOf (.ref c)) Q E s:=by
 let%[o,d,hc|hd]:=id b;erw[u,g,_,nl,j]at n;unfold Builtin.SmallTypes.nextOf;apply eC (PH (name:=Str.ofString "__next__") b.typeIs QG (Py QG b.typeIs F.entry_tuple_iterator_next ?_ (F.args_tuple_iterator_next_1 _)));show wpAny _ _ (field (.ref c) 0 >>= _) _ _ s;apply eC (oj d hd (x:=.ref t) rfl ?_);show wpAny _ _ (if(Value.ref t==Value.none)=true then _ else _) _ _ s;rw[Pd (show ¬ ((Value.ref t==Value.none)=true)from ln)];show wpAny _ _ (field (.ref c) 1 >>= _) _ _ s;apply eC (oj d hd (x:=.int i 0) rfl ?_);show wpAny _ _ (seqItems? (.ref t) >>= _) _ _ s;apply eC (CS g j ?_);simp only[pu,r]
 first
  |apply eC (QF (eC (wpAny_setField d hd #[2] (eC (PQ ?_)))))
  |apply eC (QF (eC (wpAny_setField d hd #[2] ?_)))
 show wpAny _ _ (newExc (.type "StopIteration") [] >>= _) _ _ _;apply eC ?_;simp only[newExc,newTuple];apply eC (rx ?_ (by size_fits));apply eC (m:=firstArgMember _ _) (My (a:=Value.none) (by first | rfl | (simp only[firstArgMember];rfl)) ?_);apply rx ?_ (by size_fits);simp only[raiseNew];apply eC (wpAny_handled ?_)
 first | rw[show A.in1.handled=none from hh] | rw[hh]
 apply eC (fu (wpAny_throw ?_));exact q _ _ (((Heap.SameBut.update ..).extBut.push _).push _) %[_,kv _ rfl|1]
def DT{e c t:Addr}{j:Nat}{i:Int}{d:Value}{items:Array Value}{Q:Option Value->Shared->Prop}(hh:A.handled=none)(he:IsEnum s.heap e c i d)(g:s.heap.IsTupleIter c t j)(r:s.heap.IsTuple t items)(u:items[j]?=none)
 (q:∀h',Heap.ExtBut c s.heap h'->Q none { s with heap:=h' }):‹w.A› (pyNext (.ref e)) Q E s:=by
 let hT:s.TypeIs (.ref e) "enumerate":=%[_,he|1]
 unfold pyNext;apply eC (Qk (PH (name:=Str.ofString "__next__") hT F.slot_enumerate_next (Py F.slot_enumerate_next hT F.entry_enumerate_next ?_ (F.args_enumerate_next_1 _))));show wpAny _ _ (field (.ref e) 2 >>= _) _ _ _;apply eC (oj he rfl (x:=.ref c) rfl ?_);apply eC (zA hh g r u λh' x m n=>?_);erw[o,v,hc]at n;apply eC (QY (T:="StopIteration") (b:=true) %[o,v|hc] isSubtype_stop ?_);exact fu (q h' m)
end
def DV{prog:Program}{w:World}{A:Around}(hh:A.handled=none)(c l:Addr)(d:l≠c)(items:Array Value):Draws prog w A c [c,l] items.size (λi v=>items[i]?=some v) (λi h=>h.IsTupleIter c l i/\h.IsTuple l items) where
 live:=λ_ _ st=>let⟨o,j,_⟩:=st.1;%[o|j]
 frame:=λ_ _ _ st k=>%[st.1.at λo e=>k c #[2] o e|st.2.at λo e=>k l #[2] o e]
 item:=λi s Q E g st q=>by
  apply Bh st.1 st.2 (x:=items[i]) (by simp [g]) λh' a b=>?_
  exact q _ h' s.toks (by simp [g]) %[a|st.2.extBut b.extBut d] b
 done:=λs Q E st q=>zA hh st.1 st.2 #[2] q
open AutoSeq1 (wpAny_loadPart') in
set_option maxHeartbeats 1000000 in
def yF(l:Addr)(items:Array Value)(n:Nat)(b:Option Addr)(m:Array (Option Value)):
 Meets (Builtin.«enumerate.__new__» %[[.type "enumerate",.ref l]|[]]) (λ_ R s=>s.heap.get? l=some { cls:=.type "tuple",dict:=b,data:=.seq items n,slots:=m }/\
  R (.ok (.ret (.ref (s.heap.push { cls:=.type "tuple_iterator",data:=.fields #[.ref l,.int 0 0] }).objs.size)))
   { s with heap:=(s.heap.push { cls:=.type "tuple_iterator",data:=.fields #[.ref l,.int 0 0] }).push { cls:=.type "enumerate",data:=.fields #[.none,.bool false,.ref ‹s›,rawInt 0,.none,.none] } }):=
 .of_wp λprog w A R s h=>by
  erw[o,g,d,q,os]at s;erw[hl,h]at h;let j:=sub_enumerate;let e:Heap.IsTuple (Shared.heap %[o,g,d,q|os]) l items:=⟨_,hl,rfl,n,rfl⟩
  wp_walk using wpAny_loadPart' hl
  apply wpAny_stack_any λst=>fu ?_
  split
  . rename_i c _ _ _ _ _;cases(c==Value.type "enumerate")
    . wp_walk using wpAny_loadPart' hl,Qa e
      erw[0,h]
    . wp_walk using wpAny_loadPart' hl,Qa e
      erw[0,h]
  . wp_walk using wpAny_loadPart' hl,Qa e
    erw[0,h]
section
variable {prog:Program}{w:World}{A:Around}{E:#[6]}{s:Shared}
def AX{l:Addr}{items:Array Value}{Q:#[6]}(g:s.heap.IsTuple l items)
 (q:∀h',IsEnum h' (‹s›+1) ‹s› 0 .none->h'.IsTupleIter ‹s› l 0->(∀b o,s.heap.get? b=some o->h'.get? b=some o)->Q (.ref (‹s›+1)) { s with heap:=h' }):
 ‹w.A› (call (.type "enumerate") [.ref l]) Q E s:=by
 erw[%[c,d,j|m],hl,hc,n,hd]at g
 replace hc:c=.type "tuple":=hc
 replace hd:j=.seq items n:=hd
 subst hc hd;apply callType_new F.called_enumerate ⋯ (F.typeCall_enumerate_1 _) (F.newCall_enumerate_1 _) (λobj=>F.args_object_init_2 obj _) F.entry_enumerate_new (yF l items n d m) %[hl|6];let e:(s.heap.push { cls:=.type "tuple_iterator",data:=.fields #[.ref l,.int 0 0] }).objs.size=‹s›+1:=PM ..;show _/\_;rw[e];let he:IsEnum ((s.heap.push { cls:=.type "tuple_iterator",data:=.fields #[.ref l,.int 0 0] }).push { cls:=.type "enumerate",data:=.fields #[.none,.bool false,.ref ‹s›,rawInt 0,.none,.none] }) (‹s›+1) ‹s› 0 .none:=by
  have:=kv (s.heap.push { cls:=.type "tuple_iterator",data:=.fields #[.ref l,.int 0 0] }) (o:={ cls:=.type "enumerate",data:=.fields #[.none,.bool false,.ref ‹s›,rawInt 0,.none,.none] }) rfl
  rw[e]at this;exact this
 erw[%[_,he|1],q _ he ⟨_,gz _ (kv _ rfl),rfl,rfl⟩ λb o x=>gz _ (gz _ x)]
end
def HU(K:W.Frag)(a:Addr):It:=
 ⟨λi H=>∃xs x,SqT K H a xs/\xs[i]?=some x,λi H y b=>∃t,y=.ref t/\H t=none/\∀xs x,SqT K H a xs->xs[i]?=some x->b=upd H t (.tup [.int i,x]),λi H=>∃xs,SqT K H a xs/\xs.length<=i⟩
def zz{K:W.Frag}{r:List Expr}{k:Nat}{pos:Pos}(a e m:Addr)(n:e≠m)(M:a≠m)(N:a≠e):
 Turn P w K (.Tuple r k pos) (HU K a) [e,m] e (λi h=>(∃g,IsEnum h e m i g)/\h.IsTupleIter m a i) where
 mem:=by simp
 obj:=λi h st b hb=>by
  erw[%[g|he],o,e2,c,d]at st;rcases qA0 hb with z | z
  . subst z;erw[_,he,λv z=>nomatch z]
  . let z':=Pn z;subst z';erw[o,e2,λv z=>by rw[d]at z;cases z]
 keep:=λi h h' st k=>by
  erw[%[g|he],j]at st;erw[%[g|k e #[2] _ he],j.at λo x=>k m #[2] o x]
 item:=by
  exists 5;erw[xs,x,J,O]at hg;let%[its,U,p|hz]:=I.tuple J;let%[u,hu|ru]:=U.get O;erw[%[g|he],j]at st;let hi:i<its.toArray.size:=by
   rw[js];exact(Pl hu).1
  apply wpAny_pyNext_enum_itemD (DV (prog:=X.prog) (w:=X.w) (A:=X.A.in1) (I.ok.hd hc) m a M its.toArray) he %[j|p] hi n (by simp [n,Ne.symm N]) λy h1 Y L ho t hT hsz hk=>?_
  let ey:y=u:=by
   let h1:its.toArray[i]?=some u:=#[hu,0]
   rw[h1]at L;exact(j3 L).symm
  subst ey;erw[0,wpAny_letOwnedTupleGo_enum ho λh2 ab q=>?_];let B:e<‹s›:=f4 he;let C:h2.get? ‹s›=some { cls:=.type "tuple",data:=.seq #[.int i Y,y] }:=(q.2 _ (Ne.symm (i2 B))).trans hT;let I2:#[8] (upd H ‹s› (.tup [.int i,x])) { s with heap:=h2,toks:=Y+1 }:=by
   apply I.turnedNew (ch:=[e,m]) (λb ob hb eb=>?_) hf (eS _) %[by show 2<=sizeLine;decide,[.int i Y,y],.cons %[|0] (.cons ru .nil),%[_,C,1|0],_,C|1];let b1:b≠e:=λz=>hb (by simp [z])
   let b2:b≠m:=λz=>hb (by simp [z])
   exact(q.2 b b1).trans (hk b ob b1 b2 eb)
  erw[.ref ‹s›,_,I2,1,%[0,I.hok.fresh (eS _)|λys z L D=>?_],%[%[y|by simpa using ab]|t.1.at λo z=>(q.2 m (Ne.symm n)).trans z],λb hb=>?_]
  . let e1:=I.tuple_inj L J;subst e1;rw[O]at D;cases D;rfl
  . let z:=hf b hb;let Pj:b<‹s›:=by
     rcases qA0 hb with y | y
     . rw[y];exact B
     . rw[Pn y];erw[o,e2,_]at j;exact f4 e2
    rw[az (i2 Pj)];exact z.1
 done:=by
  exists 5;erw[xs,J,O]at hg;let%[its,U,p|hz]:=I.tuple J;erw[%[g|he],j]at st;let hl:=U.length;exact DT (I.ok.hd hc) he j p (Array.getElem?_eq_none (by simp;omega)) λh' eb=>%[1|I.turnedL (t':=s.toks) (ch:=[e,m]) (λb o hb eo=>eb b o (λz=>hb (by simp [z])) eo) hf]
 self:=λ_ _ _ _ _ st h=>by
  erw[%[g|he],_]at st;exact QU he h
section
variable {X:Cx}{elts:List Expr}{k:Nat}{tpos:Pos}
instance ZiEnumT(K:W.Frag)(R:(It->Hp->Prop))(x:V)(H1:Hp):∀a,x=.ref a->(∃xs,SqT K H1 a xs)->R (HU K a) H1:=0
def KS(K:W.Frag)(tl:TE):TI:=λσ H R=>tl σ H λx b=>ZiEnumT K R x b
def Fn{p pos:Pos}(hg:Gl X "enumerate")(m:X.mg "enumerate"=none)(hl:PE X l tl)(g:starEach [l] X.env=[(false,eval l X.env)]:=by rfl):
 PI X (.Tuple elts k tpos) (.Call (.Name "enumerate" p) [l] [] pos) (KS X.K tl):=by
 exists 4,R,I,h;apply Call_ (jh I hg m boot_enumerate (O2 ?_ g rfl));rw[g];show wpAny _ _ (spliced ((false,eval l X.env)::backTo pos (starEach [] X.env))) _ _ s;apply PU (thn (hl Pc s σ H _ I h) λu s1 ⟨x,j,c,r1,a,ex,⟨xs,n⟩,q⟩=>?_);subst ex;cases r1;let%[its,t,p|v]:=c.tuple n;let d:=p.lt;apply Qc ?_;apply AX p λh' he e o=>?_
 apply QU he ?_;let r:#[8] j { s1 with heap:=h' }:=c.kept (t':=s1.toks) o;erw[‹s1›+1,[‹s1›+1,‹s1›],_,_,j,1,r,zz a _ _ (P3 (Px _)) (i2 d) (i2 (QV d)),%[%[_|he]|e],λb hb=>?_,q];rcases qA0 hb with z | z
 . rw[z];exact c.fpOk (n9 _) (c.hok.fresh (n9 _))
 . rw[Pn z];exact c.fpOk (eS _) (c.hok.fresh (eS _))
end
def DO{K:W.Frag}{xs:List V}{g:TG}{j:TS}{D:Ends}{σ:St}{H:Hp}(Pv:Nat->St->Hp->Prop)(h0:Pv 0 σ H)(hl:∀i σ H,i<=xs.length->Pv i σ H->SqT K H a xs)
 (o:∀i x σ H t,xs[i]?=some x->Pv i σ H->H t=none->g (.ref t) σ (upd H t (.tup [.int i,x])) λσ2 d=>j { D with nx:=Pv (i+1),ct:=Pv (i+1),bk:=D.nx } σ2 d)(hd:∀ σ H,Pv xs.length σ H->D.nx σ H):
 ∃ W:Nat->Nat->St->Hp->Prop,(∃m,W 0 m σ H)/\∀i m σ H,W i m σ H ->
  ((HU K a).stop i H/\D.nx σ H)∨((HU K a).go i H/\∃N:St->Hp->Prop,(∀ σ' b,N σ' b->∃n,n<m/\W (i+1) n σ' b)/\∀x b,(HU K a).yld i H x b->g x σ b λσ2 d=>j { D with nx:=N,ct:=N,bk:=D.nx } σ2 d):=by
 erw[λi m σ H=>m=xs.length-i/\i<=xs.length/\Pv i σ H,%[xs.length,by simp,i1 _|h0],6];rintro i m σ H ⟨rfl,r,p⟩;let q:=hl i σ H r p
 by_cases c:i<xs.length
 . refine .inr %[%[xs,xs[i],q|by simp [c]],Pv (i+1),λσ' b u=>%[xs.length-(i+1),3,1,c|u]|λx b y=>?_];erw[t,1,v,e]at y;let z:=e xs xs[i] q (by simp [c]);subst z;exact o i xs[i] σ H t (by simp [c]) p v
 . let e:i=xs.length:=#[0]
   subst e;exact .inl %[%[xs,q|eS _]|hd σ H p]
def ItV(K:W.Frag)(a:Addr)(xs:List V):It:=%[λi H=>SqL K H a xs/\i<xs.length,λi H y b=>b=H/\xs.reverse[i]?=some y|λi _=>xs.length<=i]
def Cl{K:W.Frag}(a j:Addr)(xs:List V):Turn P w K Y (ItV K a xs) [j] j (λi h=>i<=xs.length/\h.IsRevIter j a ((xs.length:Int)-1-(i:Int))) where
 mem:=by simp
 obj:=λi h st b hb=>by
  let e:b=j:=#[hb,0]
  subst e;erw[_,o,e,c,d]at st;erw[o,e,λv z=>by rw[d]at z;cases z]
 keep:=λi h h' st k=>%[st.1|st.2.at λo e=>k j #[2] o e]
 item:=by
  exists 5;erw[B,t]at hg;let%[its,C,p|hz]:=I.list B;let D:xs.length-1-i<xs.length:=#[0]
  let y:xs[xs.length-1-i]?=some xs[xs.length-1-i]:=fz D;let%[u,J|L]:=C.get y;let%[f0,f1,M,n,q|r]:=hf j #[2];erw[_,g]at st;let e1:((xs.length:Int)-1-(i:Int))=((xs.length-1-i:Nat):Int):=#[0]
  rw[e1]at g;apply wpAny_pyNext_rev_item g p.isList (x:=u) #[J,0] λh' m N=>?_
  let O:#[8] H { s with heap:=h' }:=I.turned (t':=s.toks) (λb o hb e=>(N.2 b hb).trans e) f0 f1 n q r;let e2:((xs.length-1-i:Nat):Int)-1=(xs.length:Int)-1-((i+1:Nat):Int):=#[0]
  rw[e2]at m;let%[o,e,c|d]:=id m;erw[u,1,yP (s:={ s with heap:=h' }) e c d ⋯ ⟨xs[xs.length-1-i],H,O,L,⟨rfl,?_⟩,⟨#[0],m⟩,λb hb=>(hf b hb).1⟩];rw[Rx t,y]
 done:=by
  exists 5;let hg:xs.length<=i:=hg;let%[f0,f1,M,n,q|r]:=hf j #[2];erw[t,g]at st;let e1:(xs.length:Int)-1-(i:Int)=-1:=#[0]
  rw[e1]at g;exact wpAny_pyNext_rev_end (I.ok.hd hc) g λh' U=>%[1|I.turned (t':=s.toks) (λb o hb e=>U b o hb e) f0 f1 n q r]
 self:=λ_ _ _ _ _ st h=>wpAny_pyIter_revIter st.2 h
def Hf{K:W.Frag}{xs:List V}{g:TG}{j:TS}{D:Ends}{σ:St}{H:Hp}(Pv:Nat->St->Hp->Prop)(h0:Pv 0 σ H)(hl:∀i σ H,i<=xs.length->Pv i σ H->SqL K H a xs)
 (o:∀i x σ H,i<xs.length->xs.reverse[i]?=some x->Pv i σ H->g x σ H λσ2 c=>j { D with nx:=Pv (i+1),ct:=Pv (i+1),bk:=D.nx } σ2 c)(hd:∀ σ H,Pv xs.length σ H->D.nx σ H):
 ∃ W:Nat->Nat->St->Hp->Prop,(∃m,W 0 m σ H)/\∀i m σ H,W i m σ H ->
  ((ItV K a xs).stop i H/\D.nx σ H)∨((ItV K a xs).go i H/\∃N:St->Hp->Prop,(∀ σ' b,N σ' b->∃n,n<m/\W (i+1) n σ' b)/\∀x b,(ItV K a xs).yld i H x b->g x σ b λσ2 c=>j { D with nx:=N,ct:=N,bk:=D.nx } σ2 c):=by
 erw[λi m σ H=>m=xs.length-i/\i<=xs.length/\Pv i σ H,%[xs.length,by simp,i1 _|h0],6];rintro i m σ H ⟨rfl,r,p⟩;let q:=hl i σ H r p
 by_cases d:i<xs.length
 . refine .inr %[%[q|d],Pv (i+1),λσ' b t=>%[xs.length-(i+1),3,1,d|t]|λx b y=>?_];erw[e,ex]at y;subst e;exact o i x σ _ d ex p
 . let e:i=xs.length:=#[0]
   subst e;exact .inl %[eS _|hd σ H p]
def vo{X:Cx}(K:W.Frag)(h:X.K=K:=by rfl):MtR X "list.count" (rCountL K):=by subst h;exact Gi
section
variable {X:Cx}{o e:Expr}{es:List Expr}{to ta:TE}{t:TA}{T id:String}{name f:Str}{r:V->List V->Hp->VK->Prop}{Pq Pk pos:Pos}
def Fv(K:W.Frag)(m:PlainAttrs T)(slot:Slot T name id)(j:typeOf (.builtin id)=pure (.type "method_descriptor"))(n:MtR X id r)(q:PE X o to)(ha:PA X (e::es) t)(hK:X.K=K:=by rfl)
 (c:attributeBase o name X.env (eval o X.env)=eval o X.env:=by rfl)
 (g:((backTo Pk (starEach (e::es) X.env)).all (λx=>!x.1)&&(backToKw Pk (keywordEach [] X.env)).all (λx=>x.1.isSome)&&decide ((e::es).length+([]:List Keyword).length+(if([]:List Keyword).isEmpty then 0 else 1)<30))=true:=by rfl)
 (d:(Pq.endLine==Pk.line)=true:=by rfl)(u:starEach (e::es) X.env=(false,eval e X.env)::starEach es X.env:=by rfl)(b:(backTo Pk (starEach es X.env)).any (·.1)=false:=by rfl):
 PE X (.Call (.Attribute o name Pq) (e::es) [] Pk) (tBM K T r to t):=by subst hK;exact iH m slot j n q ha c g d u b
def kU(K:W.Frag)(he:PE X e ta)(hK:X.K=K:=by rfl)(hb:attributeBase e f X.env (eval e X.env)=eval e X.env:=by rfl):PE X (.Attribute e f pos) (tFld K ta f):=by subst hK;exact aB he hb
end
@[reducible] def ld (X:Cx) (x:Str) (N:List Str) (scope:Scope) (cl:List (Str×Addr)) (s:Shared) (H:Hp) (fp:List Addr):Cx where
 prog:=X.prog
 w:=X.w
 K:=X.K
 mg:=X.mg
 base:=X.base
 A:=X.A
 N:=x::N
 s₀:=s
 H₀:=H
 env:=compEnvC scope ((x,‹s›+1)::cl) ‹s› X.env
 outer:=X.stack
 stack:=X.stack
 ex:=fp
 fn:=λy=>y==x
 calm:=X.calm
 pn:=[]
 xe:=λ_ _=>False
structure CompScopeO(X:Cx)(x:Str)(N:List Str)(ix:List Nat)(scope:Scope)(cl:List (Str×Addr)):Prop where
 clos:closureFor scope X.env=pure cl
 lay:∀(n:Addr) (h:Heap),cellsFrom n scope.names cl=(x,n)::cl/\pushCells h scope.names=h.push { cls:=.type "cell",data:=.cell none }
 kind:scope.kind=.function
 names:∀y∈scope.names,y.2=.local->scope.names.lookup y.1=some .local
 own:(relabel scope X.env).names.lookup x=some .cell
 nd:(x::N).Nodup
 sub:∀p∈cl,X.env.cells.lookup p.1=some p.2
 has:((relabel scope X.env).names.all λp=>!(p.2==.cell||p.2==.free)||(p.1==x||(cl.lookup p.1).isSome))=true
 outs:∀(j:Nat)(y:Str),N[j]?=some y->(relabel scope X.env).names.lookup y=some .cell/\∃k c,ix[j]?=some k/\X.N[k]?=some y/\cl.lookup y=some c/\X.env.scope.names.lookup y=some .cell
section
variable {X:Cx}{Pc:#[7]}{σ:St}{x:Str}{N:List Str}{ix:List Nat}{scope:Scope}{cl:List (Str×Addr)}{fp:List Addr}{H3:Hp}{s3:Shared}
def CompScopeO.cells(S:CompScopeO X x N ix scope cl){y:Str}{c:Addr}(h:cl.lookup y=some c):X.env.cells.lookup y=some c:=S.sub _ (Pt h)
def fZ{x y:Str}{n c:Addr}{cl:List (Str×Addr)}(h:((x,n)::cl).lookup y=some c):(y=x/\c=n)∨(y≠x/\cl.lookup y=some c):=by
 by_cases e:y=x
 . subst e
   simp [List.lookup]at h
   exact .inl %[1|h.symm]
 . let b:(y==x)=false:=#[e,0]
   simp only[List.lookup,b]at h;exact .inr %[e|h]
def mh{x y:Str}{n:Addr}{cl:List (Str×Addr)}(e:y≠x):((x,n)::cl).lookup y=cl.lookup y:=by
 let b:(y==x)=false:=#[e,0]
 simp only[List.lookup,b]
def yZ(S:CompScopeO X x N ix scope cl)(d:#[8] H3 s3)(hf:∀b∈fp,jK X Pc H3 b)(t:∀b∈fp,b<‹s3›):(ld X x N scope cl s3 H3 fp).Ok where
 mod:=d.ok.mod
 kind:=S.kind
 glob:=d.ok.glob
 blt:=d.ok.blt
 above:=eS _
 inj:=λy z c h1 h2=>by
  let lt:∀y c,cl.lookup y=some c->c<‹s3›:=λy c e=>by
   let%[v|q]:=d.cell y c (S.cells e);exact q.lt
  rcases fZ h1 with⟨e1,g⟩ | ⟨e1,u⟩ <;> rcases fZ h2 with⟨e2,C⟩ | ⟨e2,B⟩
  . rw[e1,e2]
  . exact absurd (lt z c B) (by rw[g];exact Nat.not_lt.mpr (n9 _))
  . exact absurd (lt y c u) (by rw[C];exact Nat.not_lt.mpr (n9 _))
  . exact d.ok.inj y z c (S.cells u) (S.cells B)
 has:=λy j=>by
  by_cases e:y=x
  . subst e;erw[‹s3›+1,by show((y,‹s3›+1)::cl).lookup y=_;simp [List.lookup]]
  let q:=List.all_eq_true.mp S.has;let j:(relabel scope X.env).names.lookup y=some .cell∨(relabel scope X.env).names.lookup y=some .free:=j;let z:∀k:NameKind,(k==.cell||k==.free)=true->(relabel scope X.env).names.lookup y=some k->∃c,((x,‹s3›+1)::cl).lookup y=some c:=λk D e2=>by
   let r:=q _ (Pt e2);let m:(y==x)=false:=#[e,0]
   rw[D]at r;rw[mh e];let J:(cl.lookup y).isSome=true:=by simpa [m]using r
   exact Option.isSome_iff_exists.mp J
  rcases j with e | e
  . exact z _ (by rfl) e
  . exact z _ (by rfl) e
 cab:=λy c h e=>by
  let m:y=x:=by simpa using(show(y==x)=true from h)
  rcases fZ e with⟨_,g⟩ | ⟨n,_⟩
  . rw[g];exact n9 _
  . exact absurd m n
 hd:=d.ok.hd
 frames:=d.ok.frames
 stk:=.inl rfl
 exf:=λb hb=>⟨i2 (t b hb),λy c e=>by
  rcases fZ e with⟨_,g⟩ | ⟨_,l⟩
  . rw[g];exact P3 (QV (t b hb))
  . exact(hf b hb).2.2.2.2.1 y c (S.cells l)⟩
 bs:=λb o e=>d.bs b o e
 bsz:=hE d.ok.bsz d.sz
 noex:=λb o e hb=>by
  rcases(hf b hb).2.2.2.1 with z | z
  . exact d.ok.noex b o e z
  . exact absurd (oD (f4 e) (hE d.ok.bsz z)) (ri _)
 exfs:=λb hb z=>by
  rcases qA0 (d.stkSub b z)with e | e
  . exact(hf b hb).2.1 e
  . exact(hf b hb).2.2.1 e
 funs:=d.stack
 frf:=d.stkFree
def yY(S:CompScopeO X x N ix scope cl)(n:#[8] H3 s3)(hf:∀b∈fp,jK X Pc H3 b)(Pj:∀b∈fp,b<‹s3›)(D:ix.length=N.length){h1:Heap}{t':Nat}{m:#[9]}
 (hn:h1.Ns ‹s3› m)(hc:h1.IsCell (‹s3›+1) none)(C:∀b o,s3.heap.get? b=some o->h1.get? b=some o):Inv (ld X x N scope cl s3 H3 fp) [] (none::outs ix σ) H3 { s3 with heap:=h1,toks:=t' } where
 ok:=yZ S n hf Pj
 os:=rfl
 bare:=n.bare
 base:=Un.kept C
 loc:=by
  erw[m,hn,λi y v J h2 h3=>?_];cases i with
  |zero=>
    let g:(some (none:Option V))=some (some v):=h2;cases g
  |succ j=>
    let t:N[j]?=some y:=J;let g:(outs ix σ)[j]?=some (some v):=h2;let L:y≠x:=λz=>(List.nodup_cons.mp S.nd).1 (z▸ms t)
    let%[hr,k,c,e1,e2,e3|U]:=S.outs j y t;unfold outs at g;rw[hI,e1]at g;let d:(σ[k]?).join=some v:=j3 g;let e5:σ[k]?=some (some v):=by
     cases q:σ[k]? with
     |none=>rw[q]at d;cases d
     |some o=>rw[q]at d;exact congrArg some d
    erw[m0,_,hl]at n.loc;let%[u,r|l]:=hl k y v e2 e5 (.inr (.inl U));erw[u,r,.inr %[.inl hr,c,(mh L).trans e3|6]];rcases l with⟨kk,_⟩ | ⟨_,c',Y,z⟩
    . let B:X.env.scope.names.lookup y=some .local:=kk;rw[U]at B;cases B
    . rw[S.cells e3]at Y;cases Y;erw[o,M,hd]at z;erw[o,C _ _ M,hd]
 cell:=λy c e=>by
  rcases fZ e with⟨_,O⟩ | ⟨_,l⟩
  . rw[O];erw[none,hc]
  . let%[v,o,M|hd]:=n.cell y c (S.cells l);erw[v,o,C _ _ M,hd]
 free:=n.hok.fresh (eS _)
 freeC:=λy c e=>by
  rcases fZ e with⟨_,O⟩ | ⟨_,l⟩
  . rw[O];exact n.hok.fresh (n9 _)
  . exact n.freeC y c (S.cells l)
 pin:=λp hp=>absurd (show p∈([]:#[7])from hp) #[2]
 hok:=n.hok.kept C
 len:=by
  show(none::outs ix σ).length=(x::N).length;rw[f5,f5];unfold outs;rw[d8,D]
def AV(j:#[8] H3 s3)(hf:∀b∈fp,jK X Pc H3 b){σ':St}{d:Heap}(J:Inv (ld X x N scope cl s3 H3 fp) [] σ' g s')(hb:Heap.SameBut ‹s3› s'.heap d):
 #[8] g { s' with heap:=d }:=by
 let ne:∀b o,s3.heap.get? b=some o->b≠‹s3›:=λb o e=>i2 (f4 e)
 let B:Un (frs X.stack) fp H3 g s3.heap s'.heap:=J.base;apply j.call' (s':={ s' with heap:=d }) (ch:=fp) J.os ⟨λb o e n h1 h2=>(hb.2 b (ne b o e)).trans (B.keep b o e n h1 h2),λb o e n h1 h2=>?_,B.free,λb o e h2=>?_,B.tups,B.frzs,B.tbls⟩ (λb m e=>?_) J.bare (λb z=>?_)
 . let%[r|q]:=B.slot b o e n h1 h2;erw[r,(hb.2 b (ne b o e)).trans q]
 . let%[t|q]:=B.there b o e h2;erw[t,(hb.2 b (ne b o e)).trans q]
 . let fr:g ‹s3›=none:=J.free;refine(J.hok b m e).stay (λc u hc q=>(hb.2 c ?_).trans q) (λ_ q=>q) λ_ _ q=>q
   rintro rfl;rcases hc with rfl | hc
   . rw[fr]at e;cases e
   . rw[fr]at hc;cases hc
 . let%[_,h2,_,h4,h5|h6]:=hf b z;erw[h4,h2,h5,h6]
end
section
variable {M:Model}{A:Around}{E:#[6]}{s:Shared}
def FU{scope:Scope}{globals:Addr}{cl:List (Str×Addr)}{x qual:Str}{env:Env}{Q:Env->Shared->Prop}(lay:∀(n:Addr) (h:Heap),cellsFrom n scope.names cl=(x,n)::cl/\pushCells h scope.names=h.push { cls:=.type "cell",data:=.cell none })
 (q:∀h',h'.Ns ‹s› (λ_=>none)->h'.IsCell (‹s›+1) none->(∀b o,s.heap.get? b=some o->h'.get? b=some o) ->
  Q { scope:=scope,locals:=‹s›,globals:=globals,cells:=(x,‹s›+1)::cl,qual:=qual,func:=none,code:=env.code,frame:=env.frame,builtins:=env.builtins } { s with heap:=h' }) :
 wpAny M A (newFunctionEnv scope globals cl [] qual none .none (some env)) Q E s:=by
 simp only[newFunctionEnv,Option.isSome_some,PD];apply eC (wpAny_alloc ?_);apply eC (wpAny_layCells _ (λname kind cells=>by cases c:kind==NameKind.cell <;> simp [c]) _ _ _ _ ?_);let d:(s.heap.push { cls:=.type "dict",data:=.dict #[] }).objs.size=‹s›+1:=PM ..;rw[show({ s with heap:=s.heap.push { cls:=.type "dict",data:=.dict #[] } }:Shared).heap.objs.size=‹s›+1 from d,(lay _ s.heap).1];show wpAny M A (do let _ ←(forIn [] PUnit.unit λ_ _=>_:Sem PUnit);pure _) Q E _;rw[List.forIn_nil];apply eC (fu (fu ?_));rw[(lay 0 _).2];apply q _ ((Heap.Ns.new s.heap (.type "dict")).keeps λb o e=>gz _ e) ?_ λb o e=>gz _ (gz _ e)
 rw[←d];erw[_,kv _ rfl,1]
end
section
variable {X:Cx}{x:Str}{N:List Str}{ix:List Nat}{scope:Scope}{cl:List (Str×Addr)}{elt iter:Expr}{ifs:List Expr}{px pos:Pos}{wi:TI}{tb:TBl}
def DZ(hc:X.calm=true)(S:CompScopeO X x N ix scope cl)(ar:ix.length=N.length)(hb:∀g r t,PB (ld X x N scope cl g r t) ifs elt tb)
 {σ:St}{Q:VK}{t:List Addr}{RR:Value->Addr->Result->Shared->Prop}{E:#[6]}
 (I2:#[8] u d)(T:Turn X.prog X.w X.K (.Name x px) J t it tn)(ac:tn 0 d.heap)(f2:∀b∈t,jK X Pc u b)
 (h:∀D,u D=none->∃W:Nat->Nat->Hp->Prop,(∃m,W 0 m (upd u D (.lst [])))/\∀i m r,W i m r ->
  (J.stop i r/\Q (.ref D) r)∨(J.go i r/\∀y H4,J.yld i r y H4->tb (some y::outs ix σ) H4 (λH5=>∃m',m'<m/\W (i+1) m' H5)
   λz H5=>∃ys,H5 D=some (.lst ys)/\ys.length<sizeLine/\∃m',m'<m/\W (i+1) m' (upd H5 D (.lst (ys++[z])))))
 (as:∀(D C:Addr)(H':Hp)(s':Shared)(m:#[9]),s'.heap.Ns C m->Apart X Pc H' C->#[8] H' s'->Q (.ref D) H'->RR (.ref D) C (.ok .next) s') :
 ‹X.w› (newList []) (λan g=>‹X.w› (newFunctionEnv scope X.env.globals cl [] X.env.qual none .none (some X.env)) (λB s4=>
  codeAny (model X.prog X.w) X.A (.compStart (.ListComp elt [%[.Name x px,iter,ifs|(0)]] scope pos) 0 (.ref it) an { B with scope:=relabel scope X.env }) (RR an B.locals) s4) E g) E d:=by
 apply rx (FU S.lay λh1 j n up1=>?_)
 dsimp only at j n up1 ⊢
 let L:#[8] (upd u ‹d› (.lst [])) { d with heap:=d.heap.push { cls:=.type "list",dict:=none,data:=.seq ([]:List Value).toArray } }:=I2.lnew (its:=[]) (ys:=[]) (t':=d.toks) .nil (i1 _);let hD:u ‹d›=none:=I2.fresh;let%[W,%[m0|w0]|turn]:=h ‹d› hD;let M:∀b∈t,b<‹d›:=λb hb=>by
  let%[o,e|_]:=T.obj 0 _ ac b hb;exact f4 e
 generalize ab:({ d with heap:=d.heap.push { cls:=.type "list",dict:=none,data:=.seq ([]:List Value).toArray } }:Shared)=g at L;let eh:d.heap.push { cls:=.type "list",dict:=none,data:=.seq ([]:List Value).toArray }=g.heap:=by rw[←ab]
 let et:d.toks=g.toks:=by rw[←ab]
 rw[eh]at j n up1 ⊢;let av:‹g›=‹d›+1:=by rw[←eh,PM]
 let O:∀b∈t,b<‹g›:=λb hb=>oD (M b hb) (by rw[av];exact n9 _)
 let f3:∀b∈t,jK X Pc (upd u ‹d› (.lst [])) b:=λb hb=>by
  let%[q1|q2]:=f2 b hb;erw[by rw[az (i2 (M b hb))];exact q1,q2]
 let up:∀b o,g.heap.get? b=some o->h1.get? b=some o:=up1
 let aw:∀b o,d.heap.get? b=some o->h1.get? b=some o:=λb o e=>up b o (by rw[←eh];exact gz _ e)
 let es:({ d with heap:=h1 }:Shared)={ g with heap:=h1,toks:=g.toks }:=by rw[←ab]
 rw [es];let I4:Inv (ld X x N scope cl g (upd u ‹d› (.lst [])) t) [] (none::outs ix σ) (upd u ‹d› (.lst [])) { g with heap:=h1,toks:=g.toks }:=
  yY S L f3 O ar j n up
 let ap:tn 0 h1:=T.keep 0 _ _ ac λb _ o e=>aw b o e
 let U:codeAny (model X.prog X.w) X.A (.compLoop (.ListComp elt [%[.Name x px,iter,ifs|(0)]] scope pos) 0 (.ref it) (.ref ‹d›) (compEnvC scope ((x,‹g›+1)::cl) ‹g› X.env)) (RR (.ref ‹d›) ‹g›)
  { g with heap:=h1,toks:=g.toks }:=by
  let k:=yZ S L f3 O;apply qF (Y:=ld X x N scope cl g (upd u ‹d› (.lst [])) t) (Pf:=λσ'=>∃v0,σ'=v0::outs ix σ) hc (λ_ _ z=>z) T (ba (i:=0) S.nd rfl (.inr S.own) (.inl (by show(x==x)=true;simp))) (hb _ _ _) (λhn b hb=>%[hn b hb,(k.exf b hb).1,k.exfs b hb,.inl hb,(k.exf b hb).2|λp hp=>absurd (show p∈([]:#[7])from hp) #[2]]) (λi m H5 w5=>(turn i m H5 w5).imp (fun⟨stop,qn⟩=>%[stop|λσ' s6 _ I6=>?_]) (fun⟨go,step⟩=>⟨go,λy r y7 σ' ⟨v0,e⟩=>by
   subst e;erw[%[|0],step y r y7]⟩)) ⟨none,rfl⟩ I4 ap (λb hb=>(f3 b hb).1) w0
  erw[m6,aA,_]at I6.loc;exact as _ _ H5 s6 m6 aA ⟨I6.free,Ne.symm (i2 L.lt),L.sz,λy c e z=>by
   let%[v|q]:=L.cell y c e;exact absurd q.lt (by rw[z];exact ri _),λp hp z=>absurd (f4 (L.pin p hp).1) (by rw[z];exact ri _)⟩ (AV L f3 I6 (Heap.SameBut.refl _ _)) qn
 exact Rv U (T.self _ 0 _ _ _ ap U)
def Fr(hc:X.calm=true)(S:CompScopeO X x N ix scope cl)(c:ix.length=N.length)(j:PI X (.Name x px) iter wi)(hb:∀n o g,PB (ld X x N scope cl n o g) ifs elt tb)
 (r:∀x,foldedSetIterable iter X.env x=pure x:=by intro _;rfl):PE X (.ListComp elt [%[.Name x px,iter,ifs|(0)]] scope pos) (zB wi ix tb):=by
 exists 4,Q,I,h;rw[eval_ListComp];apply QH (use:=none) rfl r S.clos S.kind S.names (thn (j Pc s σ H _ I h) λO s1 h1=>thn h1 λt U h2=>?_);erw[Y,g,tn,J,H2,1,u,T,d,v,R]at h2;apply DZ hc S c hb (RR:=λe C=>compPost (model X.prog X.w) X.A X.xe none (EP X Pc σ Q) e C) u T d v R ?_;intro D C y s' m z B L q;erw[m,z,λM b=>%[.ref D,y,B.turn L b,1|q]]
def CompScopeO.one{y:Str}{k:Nat}{c:Addr}(b:closureFor scope X.env=pure [(y,c)])(d:∀(n:Addr) (h:Heap),cellsFrom n scope.names [(y,c)]=(x,n)::[(y,c)]/\pushCells h scope.names=h.push { cls:=.type "cell",data:=.cell none })(g:scope.kind=.function)(m:∀y∈scope.names,y.2=.local->scope.names.lookup y.1=some .local)
 (o:(relabel scope X.env).names.lookup x=some .cell)(nd:[x,y].Nodup)(hc:X.env.cells.lookup y=some c)(q:((relabel scope X.env).names.all λp=>!(p.2==.cell||p.2==.free)||(p.1==x||(([(y,c)]:List (Str×Addr)).lookup p.1).isSome))=true)
 (hr:(relabel scope X.env).names.lookup y=some .cell)(r:X.N[k]?=some y)(t:X.env.scope.names.lookup y=some .cell):CompScopeO X x [y] [k] scope [(y,c)] where
 clos:=b
 lay:=d
 kind:=g
 names:=m
 own:=o
 nd:=nd
 sub:=λp u=>by
  rw[Pn u];exact hc
 has:=q
 outs:=λj z h=>by
  cases j with
  |zero=>
    let e:y=z:=j3 h;subst e;erw[hr,k,c,1,r,by simp [List.lookup],t]
  |succ j=>simp at h
end
def CompScope.four{X:Cx}{x y z u v:Str}{scope:Scope}{k l m n:Nat}{c d e g:Addr}{cl:List (Str×Addr)}(c1:closureFor scope X.env=pure cl)(c2:∀y∈scope.names,y.2≠.cell)(c3:scope.kind=.function)(c4:∀y∈scope.names,y.2=.local->scope.names.lookup y.1=some .local)
 (c5:scope.names.lookup x=some .local)(nd:[x,y,z,u,v].Nodup)(b:cl=[(y,c),(z,d),(u,e),(v,g)])(hc:X.env.cells.lookup y=some c)(hd:X.env.cells.lookup z=some d)(he:X.env.cells.lookup u=some e)(hg:X.env.cells.lookup v=some g)(c6:((relabel scope X.env).names.all λp=>!(p.2==.cell||p.2==.free)||(cl.lookup p.1).isSome)=true)
 (hr:(relabel scope X.env).names.lookup y=some .cell)(hk:X.N[k]?=some y)(hs:X.env.scope.names.lookup y=some .cell)
 (o:(relabel scope X.env).names.lookup z=some .cell)(q:X.N[l]?=some z)(r:X.env.scope.names.lookup z=some .cell)
 (t:(relabel scope X.env).names.lookup u=some .cell)(B:X.N[m]?=some u)(C:X.env.scope.names.lookup u=some .cell)
 (D:(relabel scope X.env).names.lookup v=some .cell)(J:X.N[n]?=some v)(L:X.env.scope.names.lookup v=some .cell):CompScope X x [y,z,u,v] [k,l,m,n] scope cl where
 clos:=c1
 nocell:=c2
 kind:=c3
 names:=c4
 own:=c5
 nd:=nd
 sub:=λp hp=>by
  subst b;rcases qA0 hp with h | h
  . rw[h];assumption
  . rcases qA0 h with h | h
    . rw[h];assumption
    . rcases qA0 h with h | h
      . rw[h];assumption
      . rw[Pn h];assumption
 has:=c6
 outs:=λj w h=>by
  let M:y≠z:=λe=>by simp [e]at nd
  let O:y≠u:=λe=>by simp [e]at nd
  let U:y≠v:=λe=>by simp [e]at nd
  let Y:z≠u:=λe=>by simp [e]at nd
  let ab:z≠v:=λe=>by simp [e]at nd
  let ac:u≠v:=λe=>by simp [e]at nd
  subst b
  match j,h with
  |0,h=>
    let e:y=w:=j3 h;subst e;erw[hr,k,c,1,hk,by simp [List.lookup],hs]
  |1,h=>
    let e:z=w:=j3 h;subst e
    have:(z==y)=false:=#[Ne.symm M,0]
    erw[o,l,d,1,q,by simp [List.lookup,this],r]
  |2,h=>
    let ew:u=w:=j3 h;subst ew;let h1:(u==y)=false:=#[Ne.symm O,0]
    let h2:(u==z)=false:=#[Ne.symm Y,0]
    erw[t,m,e,1,B,by simp [List.lookup,h1,h2],C]
  |3,h=>
    let ew:v=w:=j3 h;subst ew;let h1:(v==y)=false:=#[Ne.symm U,0]
    let h2:(v==z)=false:=#[Ne.symm ab,0]
    let h3:(v==u)=false:=#[Ne.symm ac,0]
    erw[D,n,g,1,J,by simp [List.lookup,h1,h2,h3],L]
  |j+4,h=>simp at h
end L2
namespace L2
open PySem PySem.Spec PyProof.Rows PySem.Builtin PySem.Builtin.Str
section
variable {prog:Program}{w:World}{A:Around}{E:#[6]}{s:Shared}{Q:#[6]}{x:PySem.Str}{t:Tok}
def zE{y:PySem.Str}{u:Tok}(c:(y.length==0)=false)
 (h:∀l k,l.map (·.1)=Txt.split x y->Q (.ref ‹s›) { s with heap:=s.heap.push { cls:=.type "list",data:=.seq (strValues l).toArray },toks:=k })
 (hsz:x.length+2<=sizeLine):‹w.A› (call (.builtin "str.split") [.str x t,.str y u]) Q E s:=by
 let d:(partsBetween x (occurrences x y 0 x.length (x.length+1)) y.length).length<=sizeLine:=by
  let e1:=StrLaws.occ_length_le x y 0 x.length (x.length+1);rw[length_partsBetween];omega
 cases h1:(decide (x.length<y.length)||decide (strKind x<strKind y))
 . cases hf:(occurrences x y 0 x.length (x.length+1)).isEmpty
   . apply rz Sa (P7 _ _ _) RO (RL _ _) (meets_str_split_sep x y t u h1 c hf #[0] d) ?_;show wants Q E _ { s with toks:=_,heap:=s.heap.push { cls:=.type "list",data:=.seq (strsFrom s.toks (partsBetween x (occurrences x y 0 x.length (x.length+1)) y.length)).toArray } };rw[strsFrom_eq];exact h (numbered s.toks _) _ ((numbered_texts _ _).trans ((Pd (RH h1)).trans (Pd (RH hf))).symm)
   . exact rz Sa (P7 _ _ _) RO (RL _ _) (meets_str_split_not_found x y t u h1 c hf)
      (h [(x,t)] s.toks ((Pd (RH h1)).trans (Pe hf)).symm)
 . exact rz Sa (P7 _ _ _) RO (RL _ _) (meets_str_split_cannot_occur x y t u h1)
    (h [(x,t)] s.toks (Pe h1).symm)
end
def Bo:∀l:List (PySem.Str×Tok),Vals ((l.map (·.1)).map V.str) (strValues l)
 | []=>.nil
 | (x,t)::r=>.cons %[t|1] (Bo r)
section
variable {X:Cx}
instance rSplit(x:V)(vs:List V)(H:Hp)(Q:VK):∀z u,x=.str z->vs=[.str u]->0<u.length->z.length<=100000->(Txt.split z u).length<=100000->(∀p,H p=none->Q (.ref p) (upd H p (.lst ((Txt.split z u).map V.str)))):=0
def Gh:MtR X "str.split" rSplit:=by
 exists 4,x,vs,v,us,Q,I,b,c,h;erw[z,u,1,1,d,g,hl,q]at h;erw[t,1]at b;erw[j,1,t',1]at c.one;let m:sizeLine=16777216:=sizeLine_eq;apply zE (by rw[beq_eq_false_iff_ne];omega) (λl k e=>?_) #[0];let r:=Bo l;rw[e]at r;erw[.ref _,_,I.lnew (t':=k) r (by rw[d8];omega),1,q _ I.fresh]
def oh:jm X (.type "int") (λxs H Q=>∃x n,xs=[.str x]/\PySem.intText? x=some n/\x.length<=640/\Q (.int n) H):=by
 exists 4,xs,us,Q,I,r,h;erw[x,n,1,e,hl,q]at h;let%[u,1,t|1]:=lu r;exact PySem.W.KIN.call_text e hl %[.int n,H,I.tok _,%[|0]|q]
end
end L2
namespace L2
open PySem PySem.Spec PyProof.Rows
def SqIt(h:Heap)(i l:Addr)(k:Nat)(xs:Array Value):Prop:=(h.IsListIter i l k/\h.IsList l xs)∨(h.IsTupleIter i l k/\h.IsTuple l xs)
def SqIt.at{h':Heap}(q:SqIt h i l k xs)(e1:∀o,h.get? i=some o->h'.get? i=some o)(e2:∀o,h.get? l=some o->h'.get? l=some o):SqIt h' i l k xs:=by
 rcases q with⟨a,b⟩ | ⟨a,b⟩
 . exact .inl %[a.at e1|b.at e2]
 . exact .inr %[a.at e1|b.at e2]
def SqIt.ext{h':Heap}{c:Addr}(q:SqIt h i l k xs)(e:Heap.ExtBut c h h')(n1:i≠c)(b:l≠c):SqIt h' i l k xs:=q.at (λo z=>e _ o n1 z) (λo z=>e _ o b z)
section
variable {prog:Program}{w:World}{A:Around}{E:#[6]}{s:Shared}
def vL{x:Value}{Q:#[6]}(q:SqIt s.heap i l k xs)(n:l≠i)(d:xs[k]?=some x)
 (g:∀h',SqIt h' i l (k+1) xs->Heap.SameBut i s.heap h'->Q x { s with heap:=h' }):‹w.A› (Builtin.SmallTypes.nextOf (.ref i)) Q E s:=by
 rcases q with⟨a,b⟩ | ⟨a,b⟩
 . exact wpAny_nextOf_list_item a b d λh' c e=>g h' (.inl %[c|b.extBut e.extBut n]) e
 . exact Bh a b d λh' c e=>g h' (.inr %[c|b.extBut e.extBut n]) e
def EE{Q:#[6]}(hh:A.handled=none)(q:SqIt s.heap i l k xs)(c:xs[k]?=none)
 (d:∀h' e,Heap.ExtBut i s.heap h'->(∃o,h'.get? e=some o/\o.cls=.type "StopIteration")->E (.ref e) { s with heap:=h' }):‹w.A› (Builtin.SmallTypes.nextOf (.ref i)) Q E s:=by
 rcases q with⟨a,b⟩ | ⟨a,b⟩
 . exact wpAny_nextOf_list_end hh a b c d
 . exact zA hh a b c d
def HX{z TI TO g j N O:Addr}{x y a b:Value}{Q:Option Value->Shared->Prop}(D:ZipApart z TI TO g j N O)
 (q:IsZip s.heap z TI TO .none)(U:IsPair s.heap TI (.ref g) (.ref j))(Y:IsPair s.heap TO a b)(h1:SqIt s.heap g N k1 xs)(h2:SqIt s.heap j O k2 ys)(hx:xs[k1]?=some x)(hy:ys[k2]?=some y)
 (hQ:∀h',IsZip h' z TI TO (rawInt ‹s›)->IsPair h' TO x y->SqIt h' g N (k1+1) xs->SqIt h' j O (k2+1) ys->IsPair h' ‹s› x y ->
  (∀c o,c≠z->c≠TO->c≠g->c≠j->s.heap.get? c=some o->h'.get? c=some o)->Q (some (.ref ‹s›)) { s with heap:=h' }) :
 ‹w.A› (pyNext (.ref z)) Q E s:=by
 let hT:s.TypeIs (.ref z) "zip":=%[_,q|1]
 unfold pyNext;apply eC (Qk (PH (name:=Str.ofString "__next__") hT Q7 (Py Q7 hT F.entry_zip_next ?_ (F.args_zip_next_1 _))));show wpAny _ _ (field (.ref z) 2 >>= _) _ _ _;apply eC (oj q rfl (x:=.bool false) rfl ?_);show wpAny _ _ (field (.ref z) 3 >>= _) _ _ _;apply eC (oj q rfl (x:=.ref TI) rfl (eC (CS U rfl ?_)));show wpAny _ _ (Builtin.SmallTypes.ownedTupleIsFree (.ref z) >>= _) _ _ _;apply eC ?_;unfold Builtin.SmallTypes.ownedTupleIsFree;apply eC (oj q rfl (x:=.none) rfl (fu ?_));simp only[PD];apply eC (QF (eC (oj q rfl (x:=.ref TO) rfl (eC (Pw q #[2] λha za sa=>eC ?_)))))
 replace za:IsZip ha z TI TO .ellipsis:=za
 simp only[List.zipIdx_cons,List.zipIdx_nil,List.forIn_cons,List.forIn_nil];apply eC (eC (Rf ?_));show wpAny _ _ (Builtin.SmallTypes.nextOf (.ref g) >>= _) _ _ _;apply eC (vL (h1.ext sa.extBut D.i1z D.l1z) D.l1i1 hx λhb q1 r=>fu ?_);let t:IsPair hb TO a b:=r.extBut _ _ D.TOi1 (sa.extBut _ _ D.TOz Y);apply eC (CS t rfl (eC (RD t λhc m u=>?_)))
 replace m:IsPair hc TO x b:=m
 apply eC (PQ (fu (eC (eC (Rf ?_)))));show wpAny _ _ (Builtin.SmallTypes.nextOf (.ref j) >>= _) _ _ _;apply eC (vL (((h2.ext sa.extBut D.i2z D.l2z).ext r.extBut D.i12.symm D.l2i1).ext u.extBut D.TOi2.symm D.l2TO) D.l2i2 hy λhd q2 sd=>fu ?_);let v:IsPair hd TO x b:=sd.extBut _ _ D.TOi2 m;apply eC (CS v rfl (eC (RD v λhe d B=>?_)))
 replace d:IsPair he TO x y:=d
 apply eC (PQ (fu (fu (eC (CS d rfl (eC (wpAny_newTuple ?_)))))));let sz:he.objs.size=‹s›:=by rw[B.1,sd.1,u.1,r.1,sa.1]
 let ze:IsZip he z TI TO .ellipsis:=B.extBut _ _ D.TOz.symm (sd.extBut _ _ D.i2z.symm (u.extBut _ _ D.TOz.symm (r.extBut _ _ D.i1z.symm za)));let ke:∀c o,c≠z->c≠TO->c≠g->c≠j->s.heap.get? c=some o->he.get? c=some o:=λc o n J c3 c4 e=>B.extBut _ _ J (sd.extBut _ _ c4 (u.extBut _ _ J (r.extBut _ _ c3 (sa.extBut _ _ n e))))
 let ab:=((q1.ext u.extBut D.TOi1.symm D.l1TO).ext sd.extBut D.i12 D.l1i2).ext B.extBut D.TOi1.symm D.l1TO;let ac:=q2.ext B.extBut D.TOi2.symm D.l2TO;let C:z<he.objs.size:=f4 ze;show wpAny _ _ (Builtin.SmallTypes.ownedTupleHandOut (.ref z) (.ref he.objs.size) >>= _) _ _ _;apply eC ?_;unfold Builtin.SmallTypes.ownedTupleHandOut;let zf:IsZip (he.push { cls:=.type "tuple",data:=.seq #[x,y] }) z TI TO .ellipsis:=gz _ ze;apply eC (Pw zf #[2] λhg zg sg=>?_)
 replace zg:IsZip hg z TI TO (rawInt he.objs.size):=zg
 apply Pw zg #[2] λL M si=>?_
 replace M:IsZip L z TI TO (rawInt he.objs.size):=M
 let up:∀c o,c≠z->he.get? c=some o->L.get? c=some o:=λc o n e=>si.extBut _ _ n (sg.extBut _ _ n (gz _ e))
 let Ti:IsPair L he.objs.size x y:=si.extBut _ _ (P3 C) (sg.extBut _ _ (P3 C) (kv _ rfl));rw[sz]at M Ti;apply fu %[0|fu ?_];show Q (some (.ref he.objs.size)) _;rw[sz];exact hQ L M (up _ _ D.TOz d) (ab.at (λo e=>up _ o D.i1z e) (λo e=>up _ o D.l1z e)) (ac.at (λo e=>up _ o D.i2z e) (λo e=>up _ o D.l2z e)) Ti λc o n J c3 c4 e=>up c o n (ke c o n J c3 c4 e)
def Kb{z TI TO m n Y l2:Addr}{a b:Value}{Q:Option Value->Shared->Prop}(hh:A.handled=none)(D:ZipApart z TI TO m n Y l2)
 (q:IsZip s.heap z TI TO .none)(J:IsPair s.heap TI (.ref m) (.ref n))(L:IsPair s.heap TO a b)(h1:SqIt s.heap m Y k1 xs)(h2:SqIt s.heap n l2 k2 ys)(t:xs[k1]?=none∨ys[k2]?=none)
 (hQ:∀h',(∀c o,c≠z->c≠TO->c≠m->c≠n->s.heap.get? c=some o->h'.get? c=some o)->Q none { s with heap:=h' }):‹w.A› (pyNext (.ref z)) Q E s:=by
 let hT:s.TypeIs (.ref z) "zip":=%[_,q|1]
 unfold pyNext;let u:A.in1.handled=none:=hh
 suffices hs:wpAny (model prog w) A.in1 (Builtin.«zip.__next__» %[[.ref z]|[]]) (λfin s'=>∃v,fin=.done (.ret v)/\False)
  (λv s'=>∃h' e,v=.ref e/\s'={ s with heap:=h' }/\(∀c o,c≠z->c≠TO->c≠m->c≠n->s.heap.get? c=some o->h'.get? c=some o)/\∃o,h'.get? e=some o/\o.cls=.type "StopIteration") s by
  apply eC (Qk (PH (name:=Str.ofString "__next__") hT Q7 (Py Q7 hT F.entry_zip_next (OA hs (λ_ _ h=>by erw[_,_,f]at h;exact f.elim) ?_) (F.args_zip_next_1 _))));rintro _ _ ⟨h',e,rfl,rfl,hk,o,ho,hc⟩;exact eC (QY (T:="StopIteration") (b:=true) %[o,ho|hc] isSubtype_stop (fu (hQ _ hk)))
 show wpAny _ _ (field (.ref z) 2 >>= _) _ _ _;apply eC (oj q rfl (x:=.bool false) rfl ?_);show wpAny _ _ (field (.ref z) 3 >>= _) _ _ _;apply eC (oj q rfl (x:=.ref TI) rfl (eC (CS J rfl ?_)));show wpAny _ _ (Builtin.SmallTypes.ownedTupleIsFree (.ref z) >>= _) _ _ _;apply eC ?_;unfold Builtin.SmallTypes.ownedTupleIsFree;apply eC (oj q rfl (x:=.none) rfl (fu ?_));simp only[PD];apply eC (QF (eC (oj q rfl (x:=.ref TO) rfl (eC (Pw q #[2] λha C sa=>eC ?_)))))
 replace C:IsZip ha z TI TO .ellipsis:=C
 simp only[List.zipIdx_cons,List.zipIdx_nil,List.forIn_cons,List.forIn_nil];apply eC (eC (Rf ?_));show wpAny _ _ (Builtin.SmallTypes.nextOf (.ref m) >>= _) _ _ _;cases M:xs[k1]? with
 |none=>
   apply eC (EE u (h1.ext sa.extBut D.i1z D.l1z) M λhb e j ⟨N,d,g⟩=>?_);let zb:IsZip hb z TI TO .ellipsis:=j _ _ D.i1z.symm C;let O:e≠z:=λx=>by subst x;rw[zb]at d;cases d;simp at g
   exact Pw zb #[2] λhc _ r=>%[hc,e,1,1,λc o y _ U _ x=>r.extBut _ _ y (j _ _ U (sa.extBut _ _ y x)),N,r.extBut _ _ O d|g]
 |some x=>
   let hy:ys[k2]?=none:=by
    rcases t with h | h
    . rw[M]at h;cases h
    . exact h
   apply eC (vL (h1.ext sa.extBut D.i1z D.l1z) D.l1i1 M λhb q1 j=>fu ?_);let B:IsPair hb TO a b:=j.extBut _ _ D.TOi1 (sa.extBut _ _ D.TOz L);apply eC (CS B rfl (eC (RD B λhc ab r=>?_)));apply eC (PQ (fu (eC (eC (Rf ?_)))));show wpAny _ _ (Builtin.SmallTypes.nextOf (.ref n) >>= _) _ _ _;apply eC (EE u (((h2.ext sa.extBut D.i2z D.l2z).ext j.extBut D.i12.symm D.l2i1).ext r.extBut D.TOi2.symm D.l2TO) hy λhd e sd ⟨N,d,g⟩=>?_);let zd:IsZip hd z TI TO .ellipsis:=sd _ _ D.i2z.symm (r.extBut _ _ D.TOz.symm (j.extBut _ _ D.i1z.symm C));let O:e≠z:=λx=>by subst x;rw[zd]at d;cases d;simp at g
   exact Pw zd #[2] λhe _ se=>%[he,e,1,1,λc o y c2 U c4 x=>se.extBut _ _ y (sd _ _ c4 (r.extBut _ _ c2 (j.extBut _ _ U (sa.extBut _ _ y x)))),N,se.extBut _ _ O d|g]
end
def itO(b:Bool)(l:Addr):Obj:={ cls:=.type (if b=true then "list_iterator" else "tuple_iterator"),data:=.fields #[.ref l,.int 0 0] }
def SqO(b:Bool)(h:Heap)(l:Addr)(xs:Array Value):Prop:=if b=true then h.IsList l xs else h.IsTuple l xs
abbrev zqH(h:Heap)(b1 b2:Bool)(l1 l2:Addr):Heap:=((((h.push (itO b1 l1)).push (itO b2 l2)).push { cls:=.type "tuple",data:=.seq #[.ref h.objs.size,.ref (h.push (itO b1 l1)).objs.size] }).push { cls:=.type "tuple",data:=.seq #[.none,.none] }).push
 { cls:=.type "zip",data:=.fields #[.none,.bool false,.bool false,.ref ((h.push (itO b1 l1)).push (itO b2 l2)).objs.size,.ref (((h.push (itO b1 l1)).push (itO b2 l2)).push { cls:=.type "tuple",data:=.seq #[.ref h.objs.size,.ref (h.push (itO b1 l1)).objs.size] }).objs.size] }
abbrev zqA(h:Heap)(b1 b2:Bool)(l1 l2:Addr):Addr:=((((h.push (itO b1 l1)).push (itO b2 l2)).push { cls:=.type "tuple",data:=.seq #[.ref h.objs.size,.ref (h.push (itO b1 l1)).objs.size] }).push { cls:=.type "tuple",data:=.seq #[.none,.none] }).objs.size
def EF(q:SqO b h l xs)(o:Obj):SqO b (h.push o) l xs:=by
 cases b
 . exact Heap.IsTuple.at q λc e=>gz _ e
 . exact Heap.IsList.push q _
def xV{prog:Program}{w:World}{A:Around}{E:#[6]}{s:Shared}{Q:#[6]}(q:SqO b s.heap l xs)(c:Q (.ref ‹s›) { s with heap:=s.heap.push (itO b l) }):
 ‹w.A› (pyIter (.ref l)) Q E s:=by
 cases b
 . exact Qa (t:=l) (items:=xs) q c
 . exact PX (l:=l) (items:=xs) q c
set_option maxHeartbeats 1000000 in
def Gn(c j:Bool)(b e:Addr)(xs ys:Array Value):
 Meets (Builtin.«zip.__new__» %[[.type "zip",.ref b,.ref e]|[]]) (λ_ R s=>SqO c s.heap b xs/\SqO j s.heap e ys/\
  R (.ok (.ret (.ref (zqA s.heap c j b e)))) { s with heap:=zqH s.heap c j b e }):=
 .of_wp λprog w A R s h=>by
  erw[r,g,d,t,os]at s;erw[m,n,h]at h;let u:=sub_zip;let o:SqO c (Shared.heap %[r,g,d,t|os]) b xs:=m;let q:SqO j (Shared.heap ⟨r.push (itO c b),g,d,t,os⟩) e ys:=EF n _
  wp_walk using xV o,xV q
  erw[0,h]
section
variable {prog:Program}{w:World}{A:Around}{E:#[6]}{s:Shared}
def GV{h':Heap}{n:Addr}(e:h'.get? n=some (itO b l))(q:SqO b h l xs)(k:∀o,h.get? l=some o->h'.get? l=some o):SqIt h' n l 0 xs:=by
 cases b
 . exact .inr %[%[_,e,1|1]|Heap.IsTuple.at q k]
 . exact .inl %[%[_,e,1|1]|Heap.IsList.at q k]
def Jx{Q:#[6]}(q:SqO g s.heap d xs)(r:SqO m s.heap j ys)
 (h:∀h',IsZip h' (‹s›+4) (‹s›+2) (‹s›+3) .none->IsPair h' (‹s›+2) (.ref ‹s›) (.ref (‹s›+1)) ->
  IsPair h' (‹s›+3) .none .none->SqIt h' ‹s› d 0 xs->SqIt h' (‹s›+1) j 0 ys ->
  (∀c o,s.heap.get? c=some o->h'.get? c=some o)->Q (.ref (‹s›+4)) { s with heap:=h' }) :
 ‹w.A› (call (.type "zip") [.ref d,.ref j]) Q E s:=by
 apply callType_new F.called_zip ⋯ (F.typeCall_zip_2 _ _) (F.newCall_zip_2 _ _) (λobj=>F.args_object_init_3 obj _ _) F.entry_zip_new (Gn g m d j xs ys) %[q,r|6];let z1:∀(h:Heap)(o:Obj),(h.push o).objs.size=h.objs.size+1:=λh o=>PM ..
 let up:∀(h:Heap)(o:Obj)(c:Addr)(u:Obj),h.get? c=some u->(h.push o).get? c=some u:=λh o c u e=>gz _ e
 let top:∀(h:Heap)(o:Obj)(n:Nat),o.isFreed=false->h.objs.size=n->(h.push o).get? n=some o:=λh o n f e=>by rw[←e];exact kv _ f
 let f1:∀b l,(itO b l).isFreed=false:=λ_ _=>rfl
 show _/\_;let g1:(zqH s.heap g m d j).get? ‹s›=some (itO g d):=up _ _ _ _ (up _ _ _ _ (up _ _ _ _ (up _ _ _ _ (top _ _ _ (f1 _ _) rfl))));let t:(zqH s.heap g m d j).get? (‹s›+1)=some (itO m j):=up _ _ _ _ (up _ _ _ _ (up _ _ _ _ (top _ _ _ (f1 _ _) (z1 _ _))));let g3:IsPair (zqH s.heap g m d j) (‹s›+2) (.ref ‹s›) (.ref (‹s›+1)):=by
  have:=up _ { cls:=.type "zip",data:=.fields #[.none,.bool false,.bool false,.ref ((s.heap.push (itO g d)).push (itO m j)).objs.size,.ref (((s.heap.push (itO g d)).push (itO m j)).push { cls:=.type "tuple",data:=.seq #[.ref ‹s›,.ref (s.heap.push (itO g d)).objs.size] }).objs.size] } _ _ (up _ { cls:=.type "tuple",data:=.seq #[.none,.none] } _ _ (top ((s.heap.push (itO g d)).push (itO m j)) { cls:=.type "tuple",data:=.seq #[.ref ‹s›,.ref (s.heap.push (itO g d)).objs.size] } (‹s›+2) rfl (by rw[z1,z1])))
  exact this.trans (by rw[z1])
 let v:IsPair (zqH s.heap g m d j) (‹s›+3) .none .none:=up _ _ _ _ (top _ _ _ rfl (by rw[z1,z1,z1]));let g5:IsZip (zqH s.heap g m d j) (‹s›+4) (‹s›+2) (‹s›+3) .none:=by
  have:=top ((((s.heap.push (itO g d)).push (itO m j)).push { cls:=.type "tuple",data:=.seq #[.ref ‹s›,.ref (s.heap.push (itO g d)).objs.size] }).push { cls:=.type "tuple",data:=.seq #[.none,.none] })
   { cls:=.type "zip",data:=.fields #[.none,.bool false,.bool false,.ref ((s.heap.push (itO g d)).push (itO m j)).objs.size,.ref (((s.heap.push (itO g d)).push (itO m j)).push { cls:=.type "tuple",data:=.seq #[.ref ‹s›,.ref (s.heap.push (itO g d)).objs.size] }).objs.size] } (‹s›+4) rfl (by rw[z1,z1,z1,z1])
  exact this.trans (by simp only[z1])
 let x:zqA s.heap g m d j=‹s›+4:=by simp only[zqA,z1]
 let keep:∀c o,s.heap.get? c=some o->(zqH s.heap g m d j).get? c=some o:=λc o e=>up _ _ _ _ (up _ _ _ _ (up _ _ _ _ (up _ _ _ _ (up _ _ _ _ e))))
 rw[x];erw[%[_,g5|1],h _ g5 g3 v (GV g1 q (keep _)) (GV t r (keep _)) keep]
end
def SqB(K:W.Frag)(b:Bool)(H:Hp)(a:Addr)(xs:List V):Prop:=if b=true then SqL K H a xs else SqT K H a xs
def SqB.at{σ:St}(I:#[8] H s)(q:SqB X.K b H a xs):∃its,Vals xs its/\SqO b s.heap a its.toArray/\a<‹s›:=by
 cases b
 . let%[its,c,p|_]:=I.tuple q;erw[its,c,p,p.lt]
 . let%[its,c,p|_]:=I.list q;erw[its,c,p.isList,p.lt]
def SqB.inj{σ:St}(I:#[8] H s)(q:SqB X.K b H a xs)(r:SqB X.K b H a ys):xs=ys:=by
 cases b
 . exact I.tuple_inj q r
 . exact I.list_inj q r
def Itz(K:W.Frag)(c d:Bool)(a b:Addr):It:=
 ⟨λi H=>∃xs ys x y,SqB K c H a xs/\SqB K d H b ys/\xs[i]?=some x/\ys[i]?=some y,λi H v e=>∃t,v=.ref t/\H t=none/\∀xs ys x y,SqB K c H a xs->SqB K d H b ys->xs[i]?=some x->ys[i]?=some y->e=upd H t (.tup [x,y]),
  λi H=>∃xs ys,SqB K c H a xs/\SqB K d H b ys/\(xs.length<=i∨ys.length<=i)⟩
def zipAp{n b c:Nat}(h1:b<n)(h2:c<n):ZipApart (n+4) (n+2) (n+3) n (n+1) b c:=by
 constructor <;> exact λy=>by
  let d:(_:Nat)=_:=y;omega
def En{K:W.Frag}{ab:List Expr}{k:Nat}{pos:Pos}(c d:Bool)(a b z TI TO n J:Addr)(D:ZipApart z TI TO n J a b):
 Turn P w K (.Tuple ab k pos) (Itz K c d a b) [z,TI,TO,n,J] z (λi h=>IsZip h z TI TO .none/\IsPair h TI (.ref n) (.ref J)/\(∃p q,IsPair h TO p q)/\(∃o,h.get? n=some o/\o.cls=.type (if c=true then "list_iterator" else "tuple_iterator")/\o.data=.fields #[.ref a,.int i 0])/\
  ∃o,h.get? J=some o/\o.cls=.type (if d=true then "list_iterator" else "tuple_iterator")/\o.data=.fields #[.ref b,.int i 0]) where
 mem:=by simp
 obj:=λi h st x hx=>by
  erw[N,g,%[p,q|m],%[o1,e1,_|d1],o2,e2,_,d2]at st;simp only[E2,zi,Fj]at hx;rcases hx with rfl | rfl | rfl | rfl | rfl
  . erw[_,N,λv y=>nomatch y]
  . erw[_,g,λv y=>nomatch y]
  . erw[_,m,λv y=>nomatch y]
  . erw[o1,e1,λv y=>by rw[d1]at y;cases y]
  . erw[o2,e2,λv y=>by rw[d2]at y;cases y]
 keep:=λi h h' st kp=>by
  erw[N,g,%[p,q|m],%[o1,e1|r1],o2,e2,r2]at st;erw[kp z #[2] _ N,kp TI #[2] _ g,%[p,q|kp TO #[2] _ m],%[o1,kp n #[2] _ e1|r1],o2,kp J #[2] _ e2,r2]
 item:=by
  exists 5;erw[xs,ys,x,y,L,M,hx,hy]at hg;let%[r,O,s1|_]:=SqB.at I L;let%[t,U,Y|_]:=SqB.at I M;let%[u,hu|ru]:=O.get hx;let%[v,hv|rv]:=U.get hy;erw[N,g,%[p,q|m],B,C]at st;let S1:SqIt s.heap n a i r.toArray:=by
   cases c
   . exact .inr %[B|s1]
   . exact .inl %[B|s1]
  let S2:SqIt s.heap J b i t.toArray:=by
   cases d
   . exact .inr %[C|Y]
   . exact .inl %[C|Y]
  apply HX D N g m S1 S2 (x:=u) (y:=v) #[hu,0] #[hv,0] λh1 z1 as q1 q2 T1 k1=>?_
  erw[0,wpAny_letOwnedTupleGo_zip z1 λh2 z2 j=>?_];let ac:z<‹s›:=f4 N;let T2:h2.get? ‹s›=some { cls:=.type "tuple",data:=.seq #[u,v] }:=(j.2 _ (Ne.symm (i2 ac))).trans T1;let I2:#[8] (upd H ‹s› (.tup [x,y])) { s with heap:=h2 }:=by
   apply I.turnedNew (t':=s.toks) (ch:=[z,TI,TO,n,J]) (λe ob he ee=>?_) hf (eS _) %[by show 2<=sizeLine;decide,[u,v],.cons ru (.cons rv .nil),%[_,T2,1|0],_,T2|1];let n1:e≠z:=λy=>he (by simp [y])
   exact(j.2 e n1).trans (k1 e ob n1 (λy=>he (by simp [y])) (λy=>he (by simp [y])) (λy=>he (by simp [y])) ee)
  let g1:SqIt h2 n a (i+1) r.toArray:=q1.at (λo e=>(j.2 _ D.i1z).trans e) (λo e=>(j.2 _ D.l1z).trans e);let g2:SqIt h2 J b (i+1) t.toArray:=q2.at (λo e=>(j.2 _ D.i2z).trans e) (λo e=>(j.2 _ D.l2z).trans e);let kd:∀{c:Bool} {n a:Addr} {its its':Array Value},SqO c h2 a its'->SqIt h2 n a (i+1) its->∃o,h2.get? n=some o/\o.cls=.type (if c=true then "list_iterator" else "tuple_iterator")/\o.data=.fields #[.ref a,.int ((i+1:Nat):Int) 0]:=λ{c n a its its'} o q=>by
   cases c
   . rcases q with⟨_,⟨o1,e1,c1,_⟩⟩ | ⟨q,_⟩
     . let%[o2,e2,c2|_]:=(show h2.IsTuple a its' from o)
       rw[e1]at e2;cases e2;rw[c1]at c2;exact absurd (Value.type.inj c2) ⋯
     . exact q
   . rcases q with⟨q,_⟩ | ⟨_,⟨o1,e1,c1,_⟩⟩
     . exact q
     . let%[o2,e2,c2|_]:=(show h2.IsList a its' from o)
       rw[e1]at e2;cases e2;rw[c1]at c2;exact absurd (Value.type.inj c2) ⋯
  let ko:∀{c:Bool}{a:Addr}{its:Array Value},SqO c s.heap a its->a≠z->a≠TO->a≠n->a≠J->SqO c h2 a its:=fun{c a its} o n1 n2 n3 n4=>by
   let kk:∀ob,s.heap.get? a=some ob->h2.get? a=some ob:=λob e=>(j.2 _ n1).trans (k1 _ _ n1 n2 n3 n4 e)
   cases c
   . exact Heap.IsTuple.at o kk
   . exact Heap.IsList.at o kk
  erw[.ref ‹s›,_,I2,1,%[0,I.hok.fresh (eS _)|λaA aC x' y' av aw an ap=>?_],%[z2,(j.2 _ D.TIz).trans (k1 _ _ D.TIz D.TITO D.TIi1 D.TIi2 g),%[_,_|(j.2 _ D.TOz).trans as],kd (ko s1 D.l1z D.l1TO D.l1i1 D.l1i2) g1|kd (ko Y D.l2z D.l2TO D.l2i1 D.l2i2) g2],λe he=>?_]
  . let e1:=SqB.inj I av L;let e2:=SqB.inj I aw M;subst e1 e2;rw[hx]at an;rw[hy]at ap;cases an;cases ap;rfl
  . let zf:=hf e he;let Pj:e<‹s›:=by
     simp only[E2,zi,Fj]at he;rcases he with rfl | rfl | rfl | rfl | rfl
     . exact ac
     . exact f4 g
     . exact f4 m
     . erw[_,e,_]at B;exact f4 e
     . erw[_,e,_]at C;exact f4 e
    rw[az (i2 Pj)];exact zf.1
 done:=by
  exists 5;erw[xs,ys,L,M,ar]at hg;let%[r,O,s1|_]:=SqB.at I L;let%[t,U,Y|_]:=SqB.at I M;erw[N,g,%[p,q|m],B,C]at st;let S1:SqIt s.heap n a i r.toArray:=by
   cases c
   . exact .inr %[B|s1]
   . exact .inl %[B|s1]
  let S2:SqIt s.heap J b i t.toArray:=by
   cases d
   . exact .inr %[C|Y]
   . exact .inl %[C|Y]
  let l1:=O.length;let l2:=U.length;exact Kb (I.ok.hd hc) D N g m S1 S2 (ar.imp (λh=>Array.getElem?_eq_none (by simp;omega)) (λh=>Array.getElem?_eq_none (by simp;omega))) λh' eb=>
   %[1|I.turnedL (t':=s.toks) (ch:=[z,TI,TO,n,J]) (λe o he eo=>eb e o (λy=>he (by simp [y])) (λy=>he (by simp [y])) (λy=>he (by simp [y])) (λy=>he (by simp [y])) eo) hf]
 self:=λ_ _ _ _ _ st h=>wpAny_pyIter_zip st.1 h
section
variable {X:Cx}{elts:List Expr}{k:Nat}{tpos:Pos}
instance ZiZip(K:W.Frag)(R:(It->Hp->Prop))(vs:(List V))(H1:Hp):∀a b c d,vs=[.ref a,.ref b]->(∃xs,SqB K c H1 a xs)->(∃ys,SqB K d H1 b ys)->R (Itz K c d a b) H1:=0
def iZip(K:W.Frag)(tl:TA):TI:=λσ H R=>tl σ H λvs b=>ZiZip K R vs b
def Eb:bootBuiltins ("zip":Str)=some (.type "zip"):=by decide
def Ef{h h':Heap}(keep:∀e o,h.get? e=some o->h'.get? e=some o)(o:SqO c h l its')(q:SqIt h' n l 0 its):
 ∃o,h'.get? n=some o/\o.cls=.type (if c=true then "list_iterator" else "tuple_iterator")/\o.data=.fields #[.ref l,.int ((0:Nat):Int) 0]:=by
 cases c
 . rcases q with⟨_,⟨g,e1,d,_⟩⟩ | ⟨q,_⟩
   . let%[j,e2,b|_]:=(show h'.IsTuple l its' from Heap.IsTuple.at o λm e=>keep _ _ e)
     rw[e1]at e2;cases e2;rw[d]at b;exact absurd (Value.type.inj b) ⋯
   . exact q
 . rcases q with⟨q,_⟩ | ⟨_,⟨g,e1,d,_⟩⟩
   . exact q
   . let%[j,e2,b|_]:=(show h'.IsList l its' from Heap.IsList.at o λm e=>keep _ _ e)
     rw[e1]at e2;cases e2;rw[d]at b;exact absurd (Value.type.inj b) ⋯
def Kc{σ:St}{R:It->Hp->Prop}{E:#[6]}(g:#[8] j s1)(m:SqB X.K c j a xs)(n:SqB X.K d j b ys)(q:R (Itz X.K c d a b) j):
 ‹X.w› (call (.type "zip") [.ref a,.ref b]) (λv x=>‹X.w› (pyIter v) (PIE X Pc σ (.Tuple elts k tpos) R) E x) E s1:=by
 let%[o,y,r|z]:=SqB.at g m;let%[t,B,u|C]:=SqB.at g n;apply Jx r u λh' z1 D p2 J L keep=>?_
 apply wpAny_pyIter_zip z1 ?_;let M:#[8] j { s1 with heap:=h' }:=g.kept (t':=s1.toks) keep;erw[‹s1›+4,[‹s1›+4,‹s1›+2,‹s1›+3,‹s1›,‹s1›+1],_,_,j,1,M,En c d a b _ _ _ _ _ (zipAp z C),%[z1,D,%[_,_|p2],Ef keep r J|Ef keep u L],λe he=>?_,q];let ge:‹s1›<=e:=by
  simp only[E2,zi,Fj]at he;rcases he with h | h | h | h | h <;> rw[h]
  . exact Q0 ..
  . exact Q0 ..
  . exact Q0 ..
  . exact eS _
  . exact Q0 ..
 exact g.fpOk ge (g.hok.fresh ge)
def Kx{e1 e2:Expr}{p pos:Pos}(hg:Gl X "zip")(n:X.mg "zip"=none)(ha:PA X [e1,e2] t)(o:starEach [e1,e2] X.env=[(false,eval e1 X.env),(false,eval e2 X.env)]:=by rfl)(e:starEach [e2] X.env=[(false,eval e2 X.env)]:=by rfl):
 PI X (.Tuple elts k tpos) (.Call (.Name "zip" p) [e1,e2] [] pos) (iZip X.K t):=by
 exists 4,R,I,h;apply Call_ (jh I hg n Eb (O2 (thn (ha pos Pc s σ H _ I h) λus s1 ⟨vs,z,u,r1,v⟩=>?_) (by rw[o,e]) (by rw[e];rfl)));erw[a,b,c,d,x,%[xs|g],%[ys|j],q]at v;subst x;cases r1 with
 |cons r m=>
   cases m with
   |cons y m=>
     cases m;cases r;cases y;exact Kc u g j q
end
section
variable {X:Cx}{x y2:Str}{N:List Str}{ix:List Nat}{scope:Scope}{cl:List (Str×Addr)}{elt iter:Expr}{ifs:List Expr}{px py pt pos:Pos}{kt:Nat}{wi:TI}{tb:TBl}
def Cj(K:W.Frag)(J:It)(D:Addr)(ix:List Nat)(tb:TBl)(σ:St)(H:Hp)(Q:VK):Prop:=∃W:Nat->Nat->Hp->Prop,(∃m,W 0 m (upd H D (.lst [])))/\∀i m b,W i m b ->
 (J.stop i b/\Q (.ref D) b)∨(J.go i b/\∀y e,J.yld i b y e->∃t g j,y=.ref t/\SqT K e t [g,j]/\tb (some g::some j::outs ix σ) e (λd=>∃c,c<m/\W (i+1) c d)
  λz d=>∃ys,d D=some (.lst ys)/\ys.length<sizeLine/\∃c,c<m/\W (i+1) c (upd d D (.lst (ys++[z]))))
def Il(K:W.Frag)(wi:TI)(ix:List Nat)(tb:TBl):TE:=λσ H Q=>wi σ H λJ b=>∀D,b D=none->Cj K J D ix tb σ b Q
def DY(hc:X.calm=true)(S:CompScope X x N ix scope cl)(S2:scope.names.lookup y2=some .local)(ap:(x::y2::N).Nodup)(aA:ix.length=N.length)(hb:∀g r u,PB (iG X (x::y2::N) scope cl g r u) ifs elt tb)
 {σ:St}{Q:VK}{u:List Addr}{RR:Value->Addr->Result->Shared->Prop}{E:#[6]}
 (I2:#[8] B d)(T:Turn X.prog X.w X.K (.Tuple [.Name x px,.Name y2 py] kt pt) J u it tn)(ar:tn 0 d.heap)(f2:∀b∈u,jK X Pc B b)
 (h:∀D,B D=none->∃W:Nat->Nat->Hp->Prop,(∃m,W 0 m (upd B D (.lst [])))/\∀i m r,W i m r ->
  (J.stop i r/\Q (.ref D) r)∨(J.go i r/\∀y H4,J.yld i r y H4->∃t v1 v2,y=.ref t/\SqT X.K H4 t [v1,v2]/\tb (some v1::some v2::outs ix σ) H4 (λH5=>∃m',m'<m/\W (i+1) m' H5)
   λz H5=>∃ys,H5 D=some (.lst ys)/\ys.length<sizeLine/\∃m',m'<m/\W (i+1) m' (upd H5 D (.lst (ys++[z])))))
 (aC:∀(D C:Addr)(H':Hp)(s':Shared)(m:#[9]),s'.heap.Ns C m->Apart X Pc H' C->#[8] H' s'->Q (.ref D) H'->RR (.ref D) C (.ok .next) s') :
 ‹X.w› (newList []) (λas g=>‹X.w› (newFunctionEnv scope X.env.globals cl [] X.env.qual none .none (some X.env)) (λL s4=>
  codeAny (model X.prog X.w) X.A (.compStart (.ListComp elt [%[.Tuple [.Name x px,.Name y2 py] kt pt,iter,ifs|(0)]] scope pos) 0 (.ref it) as { L with scope:=relabel scope X.env }) (RR as L.locals) s4) E g) E d:=by
 apply rx (wpAny_newFunctionEnv S.nocell (by intro y hy;simp at hy) (λh1 j n=>?_) S.kind)
 dsimp only at j n ⊢
 let O:#[8] (upd B ‹d› (.lst [])) { d with heap:=d.heap.push { cls:=.type "list",dict:=none,data:=.seq ([]:List Value).toArray } }:=I2.lnew (its:=[]) (ys:=[]) (t':=d.toks) .nil (i1 _);let hD:B ‹d›=none:=I2.fresh;let%[W,%[m0|w0]|turn]:=h ‹d› hD;let U:∀b∈u,b<‹d›:=λb hb=>by
  let%[o,e|_]:=T.obj 0 _ ar b hb;exact f4 e
 generalize an:({ d with heap:=d.heap.push { cls:=.type "list",dict:=none,data:=.seq ([]:List Value).toArray } }:Shared)=g at O;let eh:d.heap.push { cls:=.type "list",dict:=none,data:=.seq ([]:List Value).toArray }=g.heap:=by rw[←an]
 let et:d.toks=g.toks:=by rw[←an]
 rw[eh]at j n ⊢;let aH:‹g›=‹d›+1:=by rw[←eh,PM]
 let ab:∀b∈u,b<‹g›:=λb hb=>oD (U b hb) (by rw[aH];exact n9 _)
 let f3:∀b∈u,jK X Pc (upd B ‹d› (.lst [])) b:=λb hb=>by
  let%[q1|q2]:=f2 b hb;erw[by rw[az (i2 (U b hb))];exact q1,q2]
 let up:∀b o,g.heap.get? b=some o->h1.get? b=some o:=λb o e=>n.extBut b o (i2 (f4 e)) (gz _ e)
 let aK:∀b o,d.heap.get? b=some o->h1.get? b=some o:=λb o e=>up b o (by rw[←eh];exact gz _ e)
 let es:({ d with heap:=h1,toks:=d.toks+([]:List (Str×Value)).length }:Shared)={ g with heap:=h1,toks:=d.toks+([]:List (Str×Value)).length }:=by rw[←an]
 rw [es];let I4:Inv (iG X (x::y2::N) scope cl g (upd B ‹d› (.lst [])) u) [] (none::none::outs ix σ) (upd B ‹d› (.lst [])) { g with heap:=h1,toks:=d.toks+([]:List (Str×Value)).length }:=
  ux [x,y2] S O f3 ab aA j up
 let av:tn 0 h1:=T.keep 0 _ _ ar λb _ o e=>aK b o e
 let ac:codeAny (model X.prog X.w) X.A (.compLoop (.ListComp elt [%[.Tuple [.Name x px,.Name y2 py] kt pt,iter,ifs|(0)]] scope pos) 0 (.ref it) (.ref ‹d›) (compEnvC scope cl ‹g› X.env)) (RR (.ref ‹d›) ‹g›)
  { g with heap:=h1,toks:=d.toks+([]:List (Str×Value)).length }:=by
  let k:=xG (M:=x::y2::N) S O f3 ab;apply qF (Y:=iG X (x::y2::N) scope cl g (upd B ‹d› (.lst [])) u) (Pf:=λσ'=>∃v0 aw,σ'=v0::aw::outs ix σ) hc (λ_ _ z=>z) T (tM hc (fo (ba (i:=0) ap rfl (.inl (P8 S.own)) (.inr (P8 S.own))) (fo (ba (i:=1) ap rfl (.inl (P8 S2)) (.inr (P8 S2))) pC))) (hb _ _ _) (λhn b hb=>%[hn b hb,(k.exf b hb).1,k.exfs b hb,.inl hb,(k.exf b hb).2|λp hp=>absurd (show p∈([]:#[7])from hp) #[2]]) (λi m H5 w5=>(turn i m H5 w5).imp (fun⟨stop,qn⟩=>%[stop|λσ' s6 _ I6=>?_]) (fun⟨go,step⟩=>⟨go,λy r y7 σ' ⟨v0,aw,e⟩=>by
   subst e;let%[tt,v1,v2,1,sq|aL]:=step y r y7;erw[tt,0,sq,1,v1,0,v2,0,1,%[_|0],aL]⟩)) ⟨none,none,rfl⟩ I4 av (λb hb=>(f3 b hb).1) w0
  erw[m6,aP,_]at I6.loc;exact aC _ _ H5 s6 m6 aP ⟨I6.free,Ne.symm (i2 O.lt),O.sz,λy c e z=>by
   let%[v|q]:=O.cell y c e;exact absurd q.lt (by rw[z];exact ri _),λp hp z=>absurd (f4 (O.pin p hp).1) (by rw[z];exact ri _)⟩ (vA O f3 I6 (Heap.SameBut.refl _ _)) qn
 exact Rv ac (T.self _ 0 _ _ _ av ac)
def Fs(hc:X.calm=true)(S:CompScope X x N ix scope cl)(n:scope.names.lookup y2=some .local)(c:(x::y2::N).Nodup)(d:ix.length=N.length)(o:PI X (.Tuple [.Name x px,.Name y2 py] kt pt) iter wi)(hb:∀r t j,PB (iG X (x::y2::N) scope cl r t j) ifs elt tb)
 (u:∀x,foldedSetIterable iter X.env x=pure x:=by intro _;rfl):PE X (.ListComp elt [%[.Tuple [.Name x px,.Name y2 py] kt pt,iter,ifs|(0)]] scope pos) (Il X.K wi ix tb):=by
 exists 4,Q,I,h;rw[eval_ListComp];apply QH (use:=none) rfl u S.clos S.kind S.names (thn (o Pc s σ H _ I h) λY s1 h1=>thn h1 λv s2 h2=>?_);erw[it,j,tn,J,H2,1,y,T,e,z,R]at h2;apply DY hc S n c d hb (RR:=λg C=>compPost (model X.prog X.w) X.A X.xe none (EP X Pc σ Q) g C) y T e z R ?_;intro D C B s' m L M O q;erw[m,L,λU b=>%[.ref D,B,M.turn O b,1|q]]
end
def HA{K:W.Frag}{xs ys:List V}{r:TBl}{Q:VK}(u:xs.length=ys.length)(Pv:Nat->Hp->Prop)(h0:Pv 0 (upd H D (.lst [])))(hl:∀i H,i<=xs.length->Pv i H->SqB K c H a xs/\SqB K d H b ys)
 (B:∀i x y t H,xs[i]?=some x->ys[i]?=some y->Pv i H->H t=none->r (some x::some y::outs ix σ) (upd H t (.tup [x,y])) (Nx xs.length i Pv) λz j=>∃ys,j D=some (.lst ys)/\ys.length<sizeLine/\Nx xs.length i Pv (upd j D (.lst (ys++[z]))))(hd:∀H,Pv xs.length H->Q (.ref D) H):
 Cj K (Itz K c d a b) D ix r σ H Q:=by
 erw[λi m H=>m=xs.length-i/\i<=xs.length/\Pv i H,%[xs.length,by simp,i1 _|h0],6];rintro i m H ⟨rfl,C,p⟩;let%[n|o]:=hl i H C p
 by_cases q:i<xs.length
 . let g:i<ys.length:=#[0]
   refine .inr %[%[xs,ys,xs[i],ys[i],n,o,by simp [q]|by simp [g]]|λv j y=>?_];erw[t,1,J,e]at y;let L:=e xs ys xs[i] ys[i] n o (by simp [q]) (by simp [g]);subst L;erw[t,_,0,dV ah,B i xs[i] ys[i] t H (by simp [q]) (by simp [g]) p J]
 . let e:i=xs.length:=#[0]
   subst e;exact .inl %[%[xs,ys,n,o|.inl (eS _)]|hd H p]
end L2
namespace L2
open PySem PyProof.Rows HT
section
variable {X:Cx}
def Fz:OpR X (compareOp .Is) (λx y H Q=>∃b c,x=.bl b/\y=.bl c/\Q (.bl (b==c)) H):=by
 exists 4,x,y,v,u,Q,I,d,e,h;erw[b,c,1,1,q]at h;cases d;cases e;exact is_bool (bV I q rfl)
def Ci:∀{bs:List Bool}{us:List Value}{i:Nat}{v:Value},Vals (bs.map V.bl) us->us[i]?=some v->∃b,bs[i]?=some b/\v=.bool b
 | [],_,_,_,.nil,h=>by simp at h
 |b::_,_,0,_,.cons r _,h=>by
   simp at h
   subst h;cases r;erw[b,1,1]
 |_::_,_,i+1,_,.cons _ t,h=>by
   let%[b,h1|h2]:=Ci (i:=i) t #[h,0];erw[b,by simpa using h1,h2]
def Ec:bootBuiltins ("any":Str)=some (.builtin "any"):=by decide
def JB(bs:List Bool):((List.range bs.length).any λi=>(bs[i]?).getD false)=bs.any id:=by
 cases h:bs.any id with
 |true=>
   let%[b,hb|e]:=List.any_eq_true.mp h;let%[i,d|e2]:=QT hb;apply List.any_eq_true.mpr %[i,List.mem_range.mpr d|6];rw[fz d,QZ,e2];exact e
 |false=>
   apply List.any_eq_false.mpr λi d=>?_
   let c:=List.mem_range.mp d;rw[fz c,QZ];exact List.any_eq_false.mp h _ (o4 c)
instance rAny(K:W.Frag)(xs:List V)(H:Hp)(Q:VK):∀(a:Addr)(bs:List Bool),xs=[.ref a]->SqL K H a (bs.map V.bl)->Q (.bl (bs.any id)) H:=0
def HE(hc:X.calm=true):jm X (.builtin "any") (rAny X.K):=by
 intro Pc c σ m xs us Q d r h;erw[a,bs,1,y,q]at h;let%[u,1|z]:=lu r;cases z;let%[its,t,p|M]:=d.list y;let hl:=t.length;rw[d8]at hl;let B:a<‹c›:=by erw[o,n,e,_]at p;exact f4 e
 let g:a≠‹c›:=i2 B;apply call_any_walk (PX p.isList ?_);erw[‹c›,[‹c›,a],[‹c›],its.toArray.size,_,_,λi=>(bs[i]?).getD false,1,Walks.list (prog:=X.prog) (w:=X.w) (A:=X.A.in1) (d.ok.hd hc) ‹c› a g its.toArray,%[%[_,kv _ rfl,1|1]|p.isList.push _],λi v s' N O hP x=>?_,λh' C D=>?_]
 . let%[b,e|1]:=Ci t (i:=i) (v:=v) (by first | exact hP | simpa using hP | (rw[List.getElem?_toArray]at hP;exact hP));simp only[e,QZ]at x;exact y1 x
 . rw [js,←hl,JB];let L:#[8] m { c with heap:=c.heap.push { cls:=.type "list_iterator",data:=.fields #[.ref a,.int 0 0] } }:=d.kept (t':=c.toks) λb o j=>gz _ j
   erw[.bl _,m,6,1,q];let J:=Inv.turnedL (h':=h') (t':=C) (ch:=[‹c›]) L (λb o hb j=>D b o hb j);apply J λb hb=>?_
   rw[Pn hb];exact d.fpOk (eS _) (d.hok.fresh (eS _))
end
end L2
namespace L2
open PySem PySem.Spec PyProof.Rows
section
variable {X:Cx}
def io(z u:Str)(i:Int):Bool:=decide (PySem.fromIndex z.length i+u.length<=z.length)&&Builtin.Str.subAt z u (PySem.fromIndex z.length i)
instance rStartsAt(x:V)(vs:List V)(H:Hp)(Q:VK):∀z u i,x=.str z->vs=[.str u,.int i]->Q (.bl (io z u i)) H:=0
def yA:MtR X "str.startswith" rStartsAt:=by
 exists 4,x,vs,v,us,Q,I,d,e,h;erw[z,u,i,1,1,q]at h;erw[t,1]at d;cases e with
 |cons r1 b=>
   cases b with
   |cons g c=>
     cases c;erw[t1,1]at r1;erw[j,1]at g;exact call_gives F.slot_str_startswith (P7 _ _ _) F.entry_str_startswith (F.args_str_startswith_3 _ _ _) (gives_str_startswith_from z u i t t1 j) %[.bl _,H,I,1|q]
end
def LC(K:W.Frag)(a:Addr)(xs:List V):It:=%[λi H=>SqT K H a xs/\i<xs.length,λi H y b=>b=H/\xs.reverse[i]?=some y|λi _=>xs.length<=i]
def RevT.keep{h':Heap}(x:RevT h b t i)(k:∀o,h.get? b=some o->h'.get? b=some o):RevT h' b t i:=k _ x
def Cm{K:W.Frag}(a d:Addr)(xs:List V):Turn P w K U (LC K a xs) [d] d (λi h=>i<=xs.length/\RevT h d a ((xs.length:Int)-1-(i:Int))) where
 mem:=by simp
 obj:=λi h st b hb=>by
  let e:b=d:=#[hb,0]
  subst e;erw[_,st.2,λv z=>by cases z]
 keep:=λi h h' st k=>%[st.1|st.2.keep λo e=>k d #[2] o e]
 item:=by
  exists 5;erw[y,r]at hg;let%[its,B,p|Y]:=I.tuple y;let C:xs.length-1-i<xs.length:=#[0]
  let t:xs[xs.length-1-i]?=some xs[xs.length-1-i]:=fz C;let%[u,D|J]:=B.get t;let%[f0,f1,L,m,n|q]:=hf d #[2];erw[_,c]at st;let e1:((xs.length:Int)-1-(i:Int))=((xs.length-1-i:Nat):Int):=#[0]
  rw[e1]at c;let h63:=kZ;apply tX c p (x:=u) #[D,0] #[0] λh' j g M=>?_
  let N:#[8] H { s with heap:=h',toks:=j }:=I.turned (t':=j) (λb o hb e=>(M.2 b hb).trans e) f0 f1 m n q;let e2:((xs.length-1-i:Nat):Int)-1=(xs.length:Int)-1-((i+1:Nat):Int):=#[0]
  rw[e2]at g;erw[u,1,yP (s:={ s with heap:=h',toks:=j }) g rfl rfl ⋯ ⟨xs[xs.length-1-i],H,N,J,⟨rfl,?_⟩,⟨#[0],g⟩,λb hb=>(hf b hb).1⟩];rw[Rx r,t]
 done:=by
  exists 5;let hg:xs.length<=i:=hg;let%[f0,f1,L,m,n|q]:=hf d #[2];erw[r,c]at st;let e1:(xs.length:Int)-1-(i:Int)=-1:=#[0]
  rw[e1]at c;exact uT (I.ok.hd hc) c λh' j O=>%[1|I.turned (t':=j) (λb o hb e=>O b o hb e) f0 f1 m n q]
 self:=λ_ _ _ _ _ st h=>vq st.2 h
def JE(K:W.Frag)(c:Bool)(a:Addr)(xs:List V):It:=if c=true then ItV K a xs else LC K a xs
section
variable {X:Cx}{tg:Expr}
instance ZiRevB(K:W.Frag)(R:(It->Hp->Prop))(x:V)(H1:Hp):∀c a xs,x=.ref a->SqB K c H1 a xs->R (JE K c a xs) H1:=0
def iRevB(K:W.Frag)(tl:TE):TI:=λσ H R=>tl σ H λx b=>ZiRevB K R x b
def IG{p pos:Pos}(hg:Gl X "reversed")(v:X.mg "reversed"=none)(hl:PE X l tl)(r:starEach [l] X.env=[(false,eval l X.env)]:=by rfl):
 PI X tg (.Call (.Name "reversed" p) [l] [] pos) (iRevB X.K tl):=by
 exists 4,R,I,h;apply PV (jh I hg v uC ?_);apply O2 ?_ r rfl;rw[r];show wpAny _ _ (spliced ((false,eval l X.env)::backTo pos (starEach [] X.env))) _ _ s;apply PU (thn (hl Pc s σ H _ I h) λu s1 ⟨x,g,d,r1,c,a,xs,ex,j,q⟩=>?_);subst ex;cases r1;apply Qc ?_;cases c with
 |true=>
   let j:SqL X.K g a xs:=j;let q:R (ItV X.K a xs) g:=q;let%[its,n,p|t]:=d.list j;let m:=n.length;apply call_reversed_list p.isList ?_;let hr:(s1.heap.push (revObj a ((its.toArray.size:Int)-1))).IsRevIter ‹s1› a ((xs.length:Int)-1-((0:Nat):Int)):=by
    let e:(xs.length:Int)-1-((0:Nat):Int)=(its.toArray.size:Int)-1:=by rw[js];omega
    rw[e];erw[_,kv _ rfl,1,1]
   apply wpAny_pyIter_revIter hr ?_;erw[‹s1›,[‹s1›],_,_,g,1,d.kept (t':=s1.toks) λb o e=>gz _ e,Cl a _ xs,%[i1 _|hr],λb hb=>?_,q];let e:b=‹s1›:=#[hb,0]
   subst e;exact d.fpOk (eS _) (d.hok.fresh (eS _))
 |false=>
   let j:SqT X.K g a xs:=j;let q:R (LC X.K a xs) g:=q;let%[its,n,p|t]:=d.tuple j;let m:=n.length;apply pW p (by rw[js,←n.length];exact t) λy=>?_
   let hr:RevT (s1.heap.push { cls:=.type "reversed",data:=.fields #[.ref a,rawInt ((its.toArray.size:Int)-1)] }) ‹s1› a ((xs.length:Int)-1-((0:Nat):Int)):=by
    let e:(xs.length:Int)-1-((0:Nat):Int)=(its.toArray.size:Int)-1:=by rw[js];omega
    rw[e];exact kv _ rfl
   apply vq hr ?_;erw[‹s1›,[‹s1›],_,_,g,1,d.kept (t':=y) λb o e=>gz _ e,Cm a _ xs,%[i1 _|hr],λb hb=>?_,q];let e:b=‹s1›:=#[hb,0]
   subst e;exact d.fpOk (eS _) (d.hok.fresh (eS _))
end
def Hg{K:W.Frag}{xs:List V}{g:TG}{n:TS}{D:Ends}{σ:St}{H:Hp}(Pv:Nat->St->Hp->Prop)(h0:Pv 0 σ H)(hl:∀i σ H,i<=xs.length->Pv i σ H->SqB K c H a xs)
 (o:∀i x σ H,i<xs.length->xs.reverse[i]?=some x->Pv i σ H->g x σ H λσ2 d=>n { D with nx:=Pv (i+1),ct:=Pv (i+1),bk:=D.nx } σ2 d)(hd:∀ σ H,Pv xs.length σ H->D.nx σ H):
 ∃ W:Nat->Nat->St->Hp->Prop,(∃m,W 0 m σ H)/\∀i m σ H,W i m σ H ->
  ((JE K c a xs).stop i H/\D.nx σ H)∨((JE K c a xs).go i H/\∃N:St->Hp->Prop,(∀ σ' b,N σ' b->∃r,r<m/\W (i+1) r σ' b)/\∀x b,(JE K c a xs).yld i H x b->g x σ b λσ2 d=>n { D with nx:=N,ct:=N,bk:=D.nx } σ2 d):=by
 cases c with
 |true=>exact Hf Pv h0 hl o hd
 |false=>
   erw[λi m σ H=>m=xs.length-i/\i<=xs.length/\Pv i σ H,%[xs.length,by simp,i1 _|h0],6];rintro i m σ H ⟨rfl,t,p⟩;let q:=hl i σ H t p
   by_cases j:i<xs.length
   . refine .inr %[%[q|j],Pv (i+1),λσ' b u=>%[xs.length-(i+1),3,1,j|u]|λx b y=>?_];erw[e,ex]at y;subst e;exact o i x σ _ j ex p
   . let e:i=xs.length:=#[0]
     subst e;exact .inl %[eS _|hd σ H p]
set_option maxRecDepth 100000
def qB:fillsNumberSlot (.type "tuple") "mul"=pure false:=
 PySem.fillsNumberSlot_seq (id:="tuple.__mul__") (r:=some (.builtin "tuple.__rmul__")) F.slot_tuple_mul.lookup ⋯ F.slot_tuple_rmul.lookup ⋯
def wG:seqRepeat? (.type "tuple")=pure (some (.builtin "tuple.__mul__")):=by
 unfold seqRepeat?;rw[PySem.seqSlot_of (T:="tuple") (name:="__mul__") (id:="tuple.__mul__") F.slot_tuple_mul.lookup ⋯,PySem.seqSlot_of (T:="tuple") (name:="__rmul__") (id:="tuple.__rmul__") F.slot_tuple_rmul.lookup ⋯];rfl
def ug(a:Int)(t:Tok)(l:Addr)(items:Array Value)(n:Nat)(b:Option Addr)(c:Array (Option Value)):
 Meets (Builtin.«int.__rmul__» %[[.int a t,.ref l]|[]]) (λ_ R s=>s.heap.get? l=some { cls:=.type "tuple",dict:=b,data:=.seq items n,slots:=c }/\R (.ok (.ret Value.notImplemented)) s):=
 .of_wp λprog w A R s h=>by erw[e,g,d,j,os]at s;erw[hl,h]at h;wp_walk;erw[0,h]
def uG(l:Addr)(items:Array Value)(n:Nat)(b:Option Addr)(c:Array (Option Value))(u:Tok):
 Meets (Builtin.«tuple.__mul__» %[[.ref l,.int 1 u]|[]]) (λ_ R s=>s.heap.get? l=some { cls:=.type "tuple",dict:=b,data:=.seq items n,slots:=c }/\R (.ok (.ret (.ref l))) s):=
 .of_wp λprog w A R s h=>by erw[e,g,d,j,os]at s;erw[hl,h]at h;wp_walk;erw[0,h]
def sw(l:Addr)(v:Value)(n:Nat)(b:Option Addr)(c:Array (Option Value))(u:Tok):
 Meets (Builtin.«tuple.__mul__» %[[.ref l,.int 0 u]|[]]) (λ_ R s=>s.heap.get? l=some { cls:=.type "tuple",dict:=b,data:=.seq #[v] n,slots:=c }/\R (.ok (.ret (.ref ‹s›))) { s with heap:=s.heap.push { cls:=.type "tuple",data:=.seq #[] },toks:=s.toks }):=
 .of_wp λprog w A R s h=>by erw[e,g,d,j,os]at s;erw[hl,h]at h;wp_walk;erw[0,h]
def sx(l:Addr)(v:Value)(n:Nat)(c:Option Addr)(j:Array (Option Value))(x:Int)(u:Tok)(h2:2<=x)(r:x<=1000):
 Meets (Builtin.«tuple.__mul__» %[[.ref l,.int x u]|[]]) (λ_ R s=>s.heap.get? l=some { cls:=.type "tuple",dict:=c,data:=.seq #[v] n,slots:=j }/\R (.ok (.ret (.ref ‹s›))) { s with heap:=s.heap.push { cls:=.type "tuple",data:=.seq ((List.replicate x.toNat #[v]).foldl (·++·) #[]) },toks:=s.toks }):=
 .of_wp λprog w A R s h=>by
  erw[t,g,d,y,os]at s;erw[hl,h]at h;let m:(decide (x < -(2 ^ 63))||decide (x≥2 ^ 63))=false:=by
   rw[fw #[0],fw #[0]];rfl
  let z:(x==1)=false:=by simpa using(show x≠1 by omega)
  let B:decide (x<=0)=false:=fw #[0];let o:¬ ((1:Int)*x>(2 ^ 63-1) / 8):=#[0]
  let q:Builtin.Tuple.tupleTooMany (1*x)=false:=by
   unfold Builtin.Tuple.tupleTooMany
   have:(sizeLine:Int)≥1000:=by decide
   exact fw #[0]
  wp_walk
  apply ry (λb=>by rw[m]at b;cases b) (λ_=>?_);show wpAny _ _ (do let xs ←Builtin.Tuple.tupleItemsOf (Value.ref l);_) _ _ _
  wp_walk
  apply ry (λb=>absurd b o) (λ_=>?_);apply ry (λb=>by rw[show Builtin.Tuple.tupleTooMany (((#[v]:Array Value).size:Int)*x)=false from q]at b;cases b) (λ_=>?_);let sz:((List.replicate x.toNat #[v]).foldl (·++·) #[]).size<=sizeLine:=by
   let e:(List.replicate x.toNat (#[v]:Array Value)).foldl (·++·) #[]=(List.replicate x.toNat [v]).flatten.toArray:=by
    have:=nv [v] x.toNat []
    rw[Q2]at this;exact this
   rw[e,js,BH];exact cx (by show x.toNat*1<=1000;omega)
  apply eC (rx ?_ sz);exact fu %[0|h]
section
variable {X:Cx}
instance rRepT(K:W.Frag)(x:V)(y:V)(H:Hp)(Q:VK):∀a v k,x=.ref a->y=.int k->SqT K H a [v]->0<=k->k<=1000->(k=1->Q (.ref a) H)->(k≠1->∀p,H p=none->Q (.ref p) (upd H p (.tup (List.replicate k.toNat v)))):=0
def xN(r:RelV v u):∀n,Vals (List.replicate n v) (List.replicate n u)
 |0=>.nil
 |n+1=>.cons r (xN r n)
def IL:OpR X (binaryOp .Mult) (rRepT X.K):=by
 exists 4,x,y,vv,u,Q,I,B,C,h;erw[a,v,k,1,1,D,k0,J,L,j]at h;cases B;erw[t,1]at C;let%[its,r,p|hz]:=I.tuple D;obtain⟨w,rfl,g⟩:∃w,its=[w]/\RelV v w:=by
  cases r with
  |cons h1 h2=>cases h2;erw[0,h1]
 erw[o,e,hc,n,hd]at p;erw[cls,c,data,d]at o;cases hc;cases hd;let e:s.heap.get? a=some { cls:=.type "tuple",dict:=c,data:=.seq #[w] n,slots:=d }:=e;apply wpAny_binaryOp_repeat_ref (T:="tuple") (U:="int") ⋯ %[_,e|1] (λs'=>QE s' k t) qB F.fills_int_mul Q3 wG F.slot_int_index.lookup
  (rz Q3 (QE s k t) F.entry_int_rmul (F.args_int_rmul_2 _ _) (ug k t a #[w] n c d)
   %[e,1,%[_,e|1]|6])
 by_cases z:k=1
 . subst z;exact rz Sb %[_,e|1] RQ (RM _ _) (uG a #[w] n c d t) ⟨e,.ref a,H,I,rfl,L rfl⟩
 let laid:∀m:Nat,m<=1000->#[8] (upd H ‹s› (.tup (List.replicate m v))) { s with heap:=s.heap.push { cls:=.type "tuple",data:=.seq (List.replicate m w).toArray },toks:=s.toks }:=λm M=>
  I.laid (t':=s.toks) (o:=.tup (List.replicate m v)) (λb ob q=>gz _ q) (eS _) %[by rw[O3];exact cx M,_,xN g m,IsTup.new _ _,_,kv _ rfl|1]
 by_cases N:k=0
 . subst N;exact rz Sb %[_,e|1] RQ (RM _ _) (sw a w n c d t) ⟨e,.ref _,_,laid 0 ⋯,rfl,j ⋯ _ (I.hok.fresh (eS _))⟩
 . let O:(List.replicate k.toNat (#[w]:Array Value)).foldl (·++·) #[]=(List.replicate k.toNat w).toArray:=by
    have:=nv [w] k.toNat []
    rw [Q2]at this;rw[show(List.replicate k.toNat w)=(List.replicate k.toNat [w]).flatten by
     induction k.toNat with
     |zero=>rfl
     |succ m Y=>rw[Pu,Pu,PY,Y];rfl]
    exact this
   apply rz Sb %[_,e|1] RQ (RM _ _) (sx a w n c d k t #[0] J) ⟨e,?_⟩;rw[O];erw[.ref _,_,laid k.toNat #[0],1,j z _ (I.hok.fresh (eS _))]
def Fx(K:W.Frag)(hK:X.K=K:=by rfl):OpR X (binaryOp .Mult) (rRepT K):=by subst hK;exact IL
end
def ItB(K:W.Frag)(c:Bool)(a:Addr):It:=if c=true then Itl K a else Itt K a
section
variable {X:Cx}{tg:Expr}
instance ZiAny(K:W.Frag)(R:(It->Hp->Prop))(x:V)(H1:Hp):∀c a,x=.ref a->(∃xs,SqB K c H1 a xs)->R (ItB K c a) H1:=0
def iAny(K:W.Frag)(tl:TE):TI:=λσ H R=>tl σ H λx b=>ZiAny K R x b
def Fo(hl:PE X l tl):PI X tg l (iAny X.K tl):=by
 exists 4,R,I,h;apply thn (hl Pc s σ H _ I h) λv s1 ⟨x,g,d,r1,m⟩=>?_
 erw[c,a,e,%[xs|j],q]at m;subst e;cases r1;cases c with
 |true=>
   let j:SqL X.K g a xs:=j;let q:R (Itl X.K a) g:=q;let%[its,n,p|r]:=d.list j;apply PX p.isList ?_;erw[‹s1›,[‹s1›],_,_,g,1,d.kept (t':=s1.toks) λb o e=>gz _ e,va a _,%[_,kv _ rfl,1|1],λb hb=>?_,q];let e:b=‹s1›:=#[hb,0]
   subst e;exact d.fpOk (eS _) (d.hok.fresh (eS _))
 |false=>
   let j:SqT X.K g a xs:=j;let q:R (Itt X.K a) g:=q;let%[its,n,p|r]:=d.tuple j;apply Qa (show s1.heap.IsTuple a its.toArray from p) ?_;erw[‹s1›,[‹s1›],_,_,g,1,d.kept (t':=s1.toks) λb o e=>gz _ e,sv a _,%[_,kv _ rfl,1|1],λb hb=>?_,q];let e:b=‹s1›:=#[hb,0]
   subst e;exact d.fpOk (eS _) (d.hok.fresh (eS _))
end
def yX{K:W.Frag}{xs:List V}{b:TBl}{Q:VK}(Pv:Nat->Hp->Prop)(h0:Pv 0 (upd H D (.lst [])))(hl:∀i H,i<=xs.length->Pv i H->SqB K c H a xs)
 (d:∀i x H,xs[i]?=some x->Pv i H->b (some x::outs ix σ) H (Nx xs.length i Pv) λz e=>∃ys,e D=some (.lst ys)/\ys.length<sizeLine/\Nx xs.length i Pv (upd e D (.lst (ys++[z]))))(hd:∀H,Pv xs.length H->Q (.ref D) H):
 qK (ItB K c a) D ix b σ H Q:=by
 cases c with
 |true=>exact cW (K:=K) (xs:=xs) Pv h0 hl d hd
 |false=>exact gy (K:=K) (xs:=xs) Pv h0 hl d hd
section
variable {X:Cx}
instance rDictD(xs:List V)(H:Hp)(Q:VK):∀(a:Addr)(Ph:List (Key×V)),xs=[.ref a]->H a=some (.dK Ph)->(∀p,H p=none->Q (.ref p) (upd H p (.dK Ph))):=0
def AY:jm X (.type "dict") rDictD:=by
 exists 4,xs,us,Q,I,r,h;erw[a,g,1,ha,q]at h;cases r with
 |cons b c=>
   cases c;cases b;exact Hw I (.inl ha) λp s' d e=>%[.ref p,_,e,1|q p d]
end
def AZ:bootBuiltins ("dict":Str)=some (.type "dict"):=by decide
end L2
namespace Mine
def Pr(n:Int):Prop:=2<=n/\∀k:Int,2<=k->k<=1000->k*k<=n->n % k≠0
def xU{a b:Int}(h0:0<=a)(h:a<=b):a*a<=b*b:=Int.mul_le_mul h h h0 (Int.le_trans h0 h)
def prB(n:Int):Bool:=decide (2<=n)&&(List.range 999).all λi=>decide (n<((i:Int)+2)*((i:Int)+2))||decide (n % ((i:Int)+2)≠0)
def mV(h:prB n=true):Pr n:=by
 unfold prB at h;rw[PL]at h;erw[y3 h.1,λk b c d=>?_];let q:=List.all_eq_true.mp h.2 (k.toNat-2) (List.mem_range.mpr #[0]);let e:(((k.toNat-2:Nat):Int)+2)=k:=#[0]
 rw[e,Bool.or_eq_true]at q;rcases q with q | q
 . have:=y3 q;omega
 . exact y3 q
def vf:Pr 999983:=mV ⋯
def Fk{d:Int}(h:Pr p)(m:p<1002001)(n:1<d)(d1:d<p)(hd:d ∣ p):False:=by
 erw[e,he]at hd;let e0:1<e:=by
  by_cases c:e<=1
  . have:d*e<=d*1:=wa c #[0]
    omega
  . omega
 by_cases c:d<=e
 . let s:d*d<=p:=by
    have:=wa c (show(0:Int)<=d by omega)
    omega
   let t:d<=1000:=by
    by_cases g:1001<=d
    . have:=xU (a:=1001) (b:=d) #[0] g
      omega
    . omega
   apply h.2 d #[0] t s ?_;rw[he];exact Int.mul_emod_right d e
 . let j:e<=d:=#[0]
   let s:e*e<=p:=by
    have:=Rp j (show(0:Int)<=e by omega)
    omega
   let t:e<=1000:=by
    by_cases g:1001<=e
    . have:=xU (a:=1001) (b:=e) #[0] g
      omega
    . omega
   apply h.2 e #[0] t s ?_;rw[he,ti];exact Int.mul_emod_right e d
def Cop(x y:Int):Prop:=∀d:Int,0<d->d ∣ x->d ∣ y->d=1
def Lo{a:Int}(h:Pr p)(b:p<1002001)(e:0<a)(a1:a<p):Cop p a:=λd g h1 h2=>by
 have:=P2 e h2
 by_cases c:1<d
 . exact(Fk h b c #[0] h1).elim
 . omega
structure Eu(a p former ff rest f:Int):Prop where
 r0:0<rest
 rp:rest<p
 fr:rest<former
 f0:0<=f
 f1:f<p
 g0:0<=ff
 g1:ff<p
 cop:Cop former rest
 d1:p ∣ former-a*ff
 d2:p ∣ rest-a*f
def yU{a:Int}(h:Pr p)(c:p<1002001)(b:0<a)(a1:a<p):Eu a p p 0 (a % p) 1:=by
 let e:a % p=a:=nh #[0] a1;rw[e];erw[b,a1,a1,3,3,3,3,Lo h c b a1,by rw[Int.mul_zero,Int.sub_zero];exact Rj p,by rw[PC,Rk];exact Int.dvd_zero p]
def BT(E:Eu a p b c rest f)(h1:rest≠1):Eu a p rest f (b-b / rest*rest) ((c-b / rest*f) % p)/\(b-b / rest*rest).toNat<rest.toNat:=by
 let r0:=E.r0;let rp:=E.rp;let g:b-b / rest*rest=b % rest:=by
  have:=Qn b rest
  rw[ti]at this;omega
 let l0:0<=b % rest:=lz _ #[0];let m:b % rest<rest:=mu _ r0;let e:Cop rest (b % rest):=λd n x y=>by
  apply E.cop d n ?_ x
  have:=Qn b rest
  rw[←this];exact P5 y (Int.dvd_trans x (Int.dvd_mul_right _ _))
 let v:b % rest≠0:=λz=>by
  have:=e rest r0 (Rj _) (by rw[z];exact Int.dvd_zero _)
  exact h1 this
 rw [g];erw[%[3,3,m,lz _ #[0],mu _ #[0],E.f0,E.f1,e,E.d2|6],3];let q:p ∣ (b-a*c)-b / rest*(rest-a*f):=Int.dvd_sub E.d1 (Int.dvd_trans E.d2 (Int.dvd_mul_left _ _));let o:p ∣ (c-b / rest*f)-(c-b / rest*f) % p:=Int.dvd_self_sub_emod;let r:p ∣ a*((c-b / rest*f)-(c-b / rest*f) % p):=Int.dvd_trans o (Int.dvd_mul_left _ _);let j:=P5 q r;let e2:b-a*c-b / rest*(rest-a*f)+a*(c-b / rest*f-(c-b / rest*f) % p)=b % rest-a*((c-b / rest*f) % p):=by
  rw[←g];generalize b / rest=t;generalize (c-t*f) % p=u;rw[P6,P6,P6,RS t a f];omega
 rw[e2]at j;exact j
def Hl(E:Eu a p b j rest f)(h1:rest=1)(g:1<p):0<f/\f<p/\f*a % p=1:=by
 subst h1;let d2:=E.d2;let f0:=E.f0;let d:f*a % p=1:=by
  erw[c,hc]at d2;let e:f*a=1+p*(-c):=by
   rw[ti f a,Int.mul_neg];omega
  rw[e,Int.add_mul_emod_self_left];exact nh #[0] g
 erw[6,E.f1,d]
 by_cases c:f=0
 . subst c;simp at d
 . omega
end Mine
namespace Mine
def zt(n d:Int):Prop:=∀k:Int,3<=k->k % 2=1->k<d->n % k≠0
def Dp(n:Int):zt n 3:=λk a _ c=>#[0]
def FS(u:zt n d)(hd:d % 2=1)(h:n % d≠0):zt n (d+2):=λk a b c=>by
 by_cases e:k<d
 . exact u k a b e
 . have:k=d:=#[0]
   subst this;exact h
def DQ{n d:Int}(h3:3<=n)(h2:n % 2≠0)(h0:3<=d)(u:zt n d)(hd:n<d*d):Pr n:=by
 erw[3,λk o r t z=>?_];let%[q|g]:=L1 z
 by_cases e:k % 2=1
 . by_cases c:k<d
   . exact u k #[0] e c z
   . have:=xU (a:=d) (b:=k) #[0] #[0]
     omega
 . obtain ⟨j,m⟩:∃j,k=2*j:=%[k / 2|3]
   rw[m,Qz]at g;omega
def DS{n:Int}(h2:n % 2=0)(h3:2<n):¬ Pr n:=λp=>p.2 2 #[0] #[0] #[0] h2
def DR{n d:Int}(h9:n<=999999)(h0:3<=d)(c:d*d<=n)(h:n % d=0):¬ Pr n:=λp=>by
 let t:d<=1000:=by
  by_cases e:1001<=d
  . have:=xU (a:=1001) (b:=d) #[0] e
    omega
  . omega
 exact p.2 d #[0] t c h
def zH{n d:Int}(h9:n<=999999)(h0:3<=d)(e:d*d<=n):d<=999:=by
 by_cases c:1000<=d
 . have:=xU (a:=1000) (b:=d) #[0] c
   omega
 . omega
def IC{n d:Int}(h0:3<=d)(b:d*d<=n):d<=n:=by
 have:=wa (show(1:Int)<=d by omega) (show(0:Int)<=d by omega)
 omega
end Mine
namespace Mine
def cU:Nat->List (List Int)
 |0=>[[]]
 |n+1=>(cU n).flatMap λs=>[s++[0],s++[1]]
def qD{α β:Type}(f g:α->β):∀l:List α,(l.flatMap λs=>[f s,g s]).length=2*l.length
 | []=>rfl
 |x::r=>by
   let b:=qD f g r;simp only[Qr,fm,f5,ni];omega
def jN:∀n:Nat,(cU n).length=2 ^ n
 |0=>rfl
 |n+1=>by rw[cU,qD,jN n,QB];omega
def ic:∀(n:Nat)(s:List Int),s∈cU n->s.length=n
 |0,s,h=>by
   have:s=[]:=by simpa [cU]using h
   subst this;rfl
 |n+1,s,h=>by
   rw[cU,List.mem_flatMap]at h;erw[t,c,b]at h
   have:=ic n t c
   simp at b
   rcases b with rfl | rfl <;> simp [this]
def qu{n:Nat}(h:n<=6):2 ^ n<=64:=Qp ⋯ h
end Mine
namespace Mine
def Pm(p:Int):Prop:=1<p/\∀a:Int,¬ p ∣ a->∃f:Int,p ∣ f*a-1
def Hk{p:Int}(e:1<p):∀(n:Nat){b d rest f:Int},rest.toNat<=n->Eu a p b d rest f->∃g:Int,g*a % p=1
 |0,b,d,rest,f,j,E=>by
   have:=E.r0
   omega
 |n+1,b,d,rest,f,j,E=>by
   by_cases c:rest=1
   . erw[f,(Hl E c e).2.2]
   . let%[m|lt]:=BT E c;exact Hk e n #[0] m
def jv(h:Pr p)(d:p<1002001):Pm p:=by
 let b:1<p:=by have:=h.1;omega
 erw[b,λa ha=>?_];let e:0<a % p:=by
  have:=lz a (show p≠0 by omega)
  by_cases c:a % p=0
  . exact absurd (L1 c) ha
  . omega
 let a1:a % p<p:=mu _ #[0];let%[g|hg]:=Hk b _ (eS _) (yU h d e a1);erw[g,6];let e1:g*a % p=1:=by rw[←hg,wb g (a % p),Pz,←wb]
 have:=Qn (g*a) p
 erw[g*a / p,3]
def Pm.mul{a b:Int}(h:Pm p)(hd:p ∣ a*b)(ha:¬ p ∣ a):p ∣ b:=by
 let%[f,k|c]:=h.2 a ha;erw[m,d]at hd;erw[f*m-k*b,by grind]
def Pm.not_mul{a b:Int}(h:Pm p)(ha:¬ p ∣ a)(hb:¬ p ∣ b):¬ p ∣ a*b:=λz=>hb (h.mul z ha)
def ch:Nat->Nat->Nat
 |_,0=>1
 |0,_+1=>0
 |n+1,k+1=>ch n k+ch n (k+1)
def pU(n:Nat):ch n 0=1:=by cases n <;> rfl
def qG:∀(n k:Nat),n<k->ch n k=0
 |0,k+1,_=>rfl
 |n+1,k+1,h=>by
   show ch n k+ch n (k+1)=0;rw[qG n k #[0],qG n (k+1) #[0]]
def Jv(n:Nat):ch n n=1:=by
 induction n with
 |zero=>rfl
 |succ n b=>
   show ch n n+ch n (n+1)=1;rw[b,qG n (n+1) #[0]]
def xH:∀(n k:Nat),(k+1)*ch (n+1) (k+1)=(n+1)*ch n k
 |0,0=>rfl
 |0,k+1=>by
   show(k+2)*(ch 0 (k+1)+ch 0 (k+2))=1*ch 0 (k+1);rw[qG 0 (k+1) #[0],qG 0 (k+2) #[0]]
   simp
 |n+1,0=>by
   let h:=xH n 0;rw[pU n]at h;show(0+1)*(ch (n+1) 0+ch (n+1) (0+1))=(n+1+1)*ch (n+1) 0;rw[pU (n+1)];omega
 |n+1,k+1=>by
   let h1:=xH n k;let h2:=xH n (k+1);show(k+2)*(ch (n+1) (k+1)+ch (n+1) (k+2))=(n+2)*ch (n+1) (k+1);let e:ch (n+1) (k+1)=ch n k+ch n (k+1):=rfl
   grind
def sm(f:Nat->Int):Nat->Int
 |0=>0
 |n+1=>sm f n+f n
def sH{f g:Nat->Int}:∀n,(∀k,k<n->f k=g k)->sm f n=sm g n
 |0,_=>rfl
 |n+1,h=>by
   show sm f n+f n=sm g n+g n;rw[sH n (λk b=>h k #[0]),h n #[0]]
def EJ(f g:Nat->Int):∀n,sm (λk=>f k+g k) n=sm f n+sm g n
 |0=>rfl
 |n+1=>by
   show sm (λk=>f k+g k) n+(f n+g n)=(sm f n+f n)+(sm g n+g n)
   rw[EJ f g n];omega
def EH(c:Int)(f:Nat->Int):∀n,sm (λk=>c*f k) n=c*sm f n
 |0=>by simp [sm]
 |n+1=>by
   show sm (λk=>c*f k) n+c*f n=c*(sm f n+f n)
   rw[EH c f n]
   grind
def oT(f:Nat->Int):∀n,sm f (n+1)=f 0+sm (λk=>f (k+1)) n
 |0=>by simp [sm]
 |n+1=>by
   show sm f (n+1)+f (n+1)=f 0+(sm (λk=>f (k+1)) n+f (n+1))
   rw[oT f n];omega
def EI{p:Int}{f:Nat->Int}:∀n,(∀k,k<n->p ∣ f k)->p ∣ sm f n
 |0,_=>%[(0)|by simp [sm]]
 |n+1,h=>P5 (EI n λk b=>h k #[0]) (h n #[0])
def JY(a:Int):∀n:Nat,(a+1) ^ n=sm (λk=>(ch n k:Int)*a ^ k) (n+1)
 |0=>by simp [sm,ch]
 |n+1=>by
   let b:=JY a n;rw[rc,b,oT (λk=>((ch (n+1) k:Nat):Int)*a ^ k) (n+1)];let e1:sm (λk=>((ch (n+1) (k+1):Nat):Int)*a ^ (k+1)) (n+1)=a*sm (λk=>(ch n k:Int)*a ^ k) (n+1)+sm (λk=>(ch n (k+1):Int)*a ^ (k+1)) (n+1):=by
    rw[←EH,←EJ];apply sH _ λk _=>?_
    have:ch (n+1) (k+1)=ch n k+ch n (k+1):=rfl
    rw[this,Qi,rc]
    grind
   let e2:sm (λk=>(ch n k:Int)*a ^ k) (n+1)=1+sm (λk=>(ch n (k+1):Int)*a ^ (k+1)) (n+1):=by
    rw[oT]
    have:sm (λk=>(ch n (k+1):Int)*a ^ (k+1)) (n+1)=sm (λk=>(ch n (k+1):Int)*a ^ (k+1)) n:=by
     show _+(ch n (n+1):Int)*a ^ (n+1)=_;rw[qG n (n+1) #[0]]
     simp
    rw[this,pU]
    simp
   rw[e1,pU]
   grind
def Lr(h:Pm p){n k:Nat}(b:(n:Int)+1=p)(c:k<n):p ∣ ((ch (n+1) (k+1):Nat):Int):=by
 let e:((k:Int)+1)*((ch (n+1) (k+1):Nat):Int)=p*((ch n k:Nat):Int):=by
  have:=xH n k
  rw[←b];exact_mod_cast this
 apply h.mul (a:=(k:Int)+1) %[_|e] λhd=>?_
 have:=P2 #[0] hd
 omega
def ur(h:Pm p):∀a:Nat,p ∣ (a:Int) ^ p.toNat-a
 |0=>by
   have:p.toNat≠0:=by have:=h.1;omega
   simp [Int.zero_pow this]
 |a+1=>by
   let c:=ur h a;obtain⟨n,g⟩:∃n:Nat,p.toNat=n+1:=%[p.toNat-1|by have:=h.1;omega]
   let j:(n:Int)+1=p:=by have:=h.1;omega
   rw [g]at c ⊢;let b:=JY (a:Int) (n+1);let e:sm (λk=>(ch (n+1) k:Int)*(a:Int) ^ k) (n+1+1)=sm (λk=>(ch (n+1) (k+1):Int)*(a:Int) ^ (k+1)) n+(a:Int) ^ (n+1)+1:=by
    rw[oT];show _+(sm _ n+(ch (n+1) (n+1):Int)*(a:Int) ^ (n+1))=_;rw[Jv,pU]
    simp
    omega
   let d:p ∣ sm (λk=>(ch (n+1) (k+1):Int)*(a:Int) ^ (k+1)) n:=EI n λk m=>Int.dvd_mul_of_dvd_left (Lr h j m)
   erw[u,o]at c;erw[v,q]at d;erw[u+v,6];rw[Qi];show((a:Int)+1) ^ (n+1)-((a:Int)+1)=_;rw[b,e]
   grind
def Lb{a:Int}(h:Pm p)(ha:¬ p ∣ a)(b:0<=a):p ∣ a*a ^ (p-2).toNat-1:=by
 obtain⟨n,c⟩:∃n:Nat,p.toNat=n+2:=%[p.toNat-2|by have:=h.1;omega]
 let e:(p-2).toNat=n:=#[0]
 let f:=ur h a.toNat;rw[Int.toNat_of_nonneg b,c]at f;rw[e];let g:a ^ (n+2)-a=a*(a*a ^ n-1):=by
  rw[rc,rc]
  grind
 rw[g]at f;exact h.mul f ha
def IsPoly:Nat->(Int->Int)->Prop
 |0,f=>∀x,f x=0
 |n+1,f=>∃(a:Int)(g:Int->Int),IsPoly n g/\∀x,f x=a+x*g x
def IsPoly.congr:∀{n:Nat}{f g:Int->Int},IsPoly n f->(∀x,g x=f x)->IsPoly n g
 |0,_,_,h,e=>λx=>(e x).trans (h x)
 |_+1,_,_,⟨a,k,b,h⟩,e=>%[a,k,b|λx=>(e x).trans (h x)]
def IsPoly.zero:∀n:Nat,IsPoly n λ_=>0
 |0=>λ_=>rfl
 |n+1=>%[(0),λ_=>0,IsPoly.zero n|λx=>by simp]
def IsPoly.up:∀{n:Nat}{f:Int->Int},IsPoly n f->IsPoly (n+1) f
 |0,f,h=>%[(0),λ_=>0,λ_=>rfl|λx=>by rw[h x];simp]
 |n+1,f,⟨a,g,hg,h⟩=>%[a,g,hg.up|h]
def IsPoly.upTo{n:Nat}{f:Int->Int}(h:IsPoly n f):∀m,n<=m->IsPoly m f:=λm b=>by
 obtain⟨k,rfl⟩:∃k,m=n+k:=%[m-n|3]
 clear b
 induction k with
 |zero=>exact h
 |succ k c=>exact c.up
def IsPoly.add:∀{n:Nat}{f g:Int->Int},IsPoly n f->IsPoly n g->IsPoly n λx=>f x+g x
 |0,f,g,h,k=>λx=>by show f x+g x=0;rw[h x,k x];rfl
 |n+1,f,g,⟨a,u,c,h⟩,⟨b,v,d,k⟩=>%[a+b,λx=>u x+v x,c.add d|λx=>by show f x+g x=a+b+x*(u x+v x);rw[h x,k x];grind]
def IsPoly.mul(c:Int):∀{n:Nat}{f:Int->Int},IsPoly n f->IsPoly n λx=>c*f x
 |0,f,h=>λx=>by show c*f x=0;rw[h x];simp
 |n+1,f,⟨a,u,b,h⟩=>%[c*a,λx=>c*u x,b.mul c|λx=>by show c*f x=c*a+x*(c*u x);rw[h x];grind]
def IsPoly.lin{n:Nat}{f:Int->Int}(h:IsPoly n f)(r:Int):IsPoly (n+1) λx=>(x-r)*f x:=by
 let h1:IsPoly (n+1) λx=>x*f x:=%[(0),f,h|λx=>by simp]
 exact(h1.add (h.up.mul (-r))).congr λx=>by grind
def IsPoly.div:∀{n:Nat}{f:Int->Int},IsPoly (n+1) f->∀r:Int,∃q,IsPoly n q/\∀x,f x-f r=(x-r)*q x
 |0,f,⟨a,g,hg,h⟩,r=>%[λ_=>0,λ_=>rfl|λx=>by rw[h x,h r,hg x,hg r];simp]
 |n+1,f,⟨a,g,hg,h⟩,r=>by
   let%[q,b|e]:=IsPoly.div hg r;erw[λx=>g x+r*q x,hg.add (b.up.mul r),λx=>?_]
   have:=e x
   rw[h x,h r]
   grind
def IsPoly.roots(d:Pm p):∀{n:Nat}{f:Int->Int}(rs:List Int),IsPoly n f->rs.length=n->rs.Pairwise (λa b=>¬ p ∣ b-a)->(∀r∈rs,p ∣ f r)->∀x,p ∣ f x
 |0,f,_,h,_,_,_,x=>%[(0)|by rw[h x];simp]
 |n+1,f,[],_,hl,_,_,_=>by simp at hl
 |n+1,f,r::rs,h,hl,hd,hr,x=>by
   let%[q,j|e]:=h.div r;let c:=List.pairwise_cons.mp hd;let z:=IsPoly.roots d rs j #[hl,0] c.2 (λs g=>by
    let h1:p ∣ (s-r)*q s:=by
     rw[←e s];exact Int.dvd_sub (hr s (mj _ g)) (hr r kb)
    exact d.mul h1 (c.1 s g)) x
   have:f x=f r+(x-r)*q x:=by have:=e x;omega
   rw[this];exact P5 (hr r kb) (Int.dvd_mul_of_dvd_right z)
def oN:∀c:List Int,IsPoly c.length λx=>c.foldr (λa r=>a+x*r) 0
 | []=>λ_=>rfl
 |a::r=>%[a,_,oN r|λx=>rfl]
end Mine
namespace Mine
def pr(g:Nat->Int):Nat->Int
 |0=>1
 |n+1=>pr g n*g n
def tF{f g:Nat->Int}:∀n,(∀k,k<n->f k=g k)->pr f n=pr g n
 |0,_=>rfl
 |n+1,h=>by
   show pr f n*f n=pr g n*g n;rw[tF n (λk b=>h k #[0]),h n #[0]]
def tE(g:Nat->Int):∀n,pr g (n+1)=g 0*pr (λk=>g (k+1)) n
 |0=>by simp [pr]
 |n+1=>by
   show pr g (n+1)*g (n+1)=g 0*(pr (λk=>g (k+1)) n*g (n+1))
   rw[tE g n,Qz]
def px(x:Int)(i:Nat):Nat->Int
 |0=>1
 |n+1=>if n=i then px x i n else px x i n*(x-n)
def Bu(i:Nat):∀n,IsPoly (if i<n then n else n+1) λx=>px x i n
 |0=>%[(1),λ_=>0,λ_=>rfl|λx=>by simp [px]]
 |n+1=>by
   let b:=Bu i n
   by_cases c:n=i
   . subst c;rw[Pd (ri n)]at b;rw[Pe (Px n)];exact b.congr λx=>by simp [px]
   . let e:∀x,px x i (n+1)=(x-n)*px x i n:=λx=>by
      show(if n=i then px x i n else px x i n*(x-n))=_;rw[Pd c,ti]
     by_cases d:i<n
     . rw[Pe d]at b;rw[Pe #[0]];exact(b.lin n).congr e
     . rw[Pd d]at b;rw[Pd #[0]];exact(b.lin n).congr e
def wH{k i:Nat}(h:k≠i):∀n,k<n->px (k:Int) i n=0
 |n+1,d=>by
   show(if n=i then px (k:Int) i n else px (k:Int) i n*((k:Int)-n))=0
   by_cases c:n=i
   . rw[Pe c];exact wH h n #[0]
   . rw [Pd c]
     by_cases b:k=n
     . subst b
       simp
     . rw [wH h n #[0]]
       simp
def lag(v u:Nat->Int)(n:Nat)(x:Int):Int:=sm (λi=>v i*px x i n*u i) n
def Iw{n m:Nat}{f:Nat->Int->Int}:(∀i,i<m->IsPoly n (f i))->IsPoly n λx=>sm (λi=>f i x) m:=by
 induction m with
 |zero=>exact λ_=>IsPoly.zero n
 |succ m b=>exact λh=>(b λi c=>h i #[0]).add (h m #[0])
def pN(v u:Nat->Int)(n:Nat):IsPoly n (lag v u n):=Iw λi b=>by
 let h:=Bu i n;rw[Pe b]at h;exact(h.mul (v i*u i)).congr λx=>by grind
def EG{f:Nat->Int}{k:Nat}:∀n,k<n->(∀i,i<n->i≠k->f i=0)->sm f n=f k
 |n+1,b,h=>by
   show sm f n+f n=f k
   by_cases c:k=n
   . subst c;let z:sm f k=0:=by
      have:sm f k=sm (λ_=>0) k:=sH k λi d=>h i #[0] #[0]
      rw[this];clear this h b
      induction k with
      |zero=>rfl
      |succ k e=>show sm (λ_=>0) k+0=0;rw[e];rfl
     rw[z]
     simp
   . rw [EG n #[0] (λi d=>h i #[0]),h n #[0] #[0]]
     simp
def Wgt(p:Int)(n:Nat)(u:Nat->Int):Prop:=∀i,i<n->p ∣ px (i:Int) i n*u i-1
def oM{k:Nat}(d:Wgt p n u)(b:k<n):p ∣ lag v u n k-v k:=by
 unfold lag;rw[EG n b λi e c=>by rw[wH (Ne.symm c) n b];simp];let%[m|g]:=d k b;erw[v k*m,by grind]
def far{p:Int}{n:Nat}(e:(n:Int)<=p):((List.range n).map λk:Nat=>(k:Int)).Pairwise λa b=>¬ p ∣ b-a:=by
 rw[RT];apply List.Pairwise.imp_of_mem (fun{a b} ha hb h=>?_) List.pairwise_lt_range;intro d
 have:=P2 #[0] d
 let c:=List.mem_range.mp hb;omega
def alike(b:Pm p){n:Nat}(c:(n:Int)<=p){f g:Int->Int}(hf:IsPoly n f)(hg:IsPoly n g)(h:∀k:Nat,k<n->p ∣ f k-g k)(x:Int):p ∣ f x-g x:=by
 let hd:IsPoly n λx=>f x-g x:=(hf.add (hg.mul (-1))).congr λx=>by grind
 apply hd.roots b ((List.range n).map λk:Nat=>(k:Int)) #[2] (far c) (λr hr=>?_) x;let%[k,d|1]:=List.mem_map.mp hr;exact h k (List.mem_range.mp d)
def yI(c:Pm p){n:Nat}(d:(n:Int)<=p){v:Nat->Int}{P:Int->Int}(e:Wgt p n u)(hP:IsPoly n P)(h:∀k:Nat,k<n->p ∣ v k-P k)(x:Int):p ∣ lag v u n x-P x:=
 alike c d (pN v u n) hP (λk b=>by
  let h1:=oM (v:=v) e b;let h2:=h k b
  have:lag v u n k-P k=(lag v u n k-v k)+(v k-P k):=#[0]
  rw[this];exact P5 h1 h2) x
def GJ(d:Pm p){n:Nat}(e:(n:Int)<=p)(g:Wgt p n u)(b:Wgt p n c)(x:Int):p ∣ lag v u n x-lag v c n x:=
 yI d e g (pN v c n) (λk j=>by
  let%[m|o]:=oM (v:=v) b j;erw[-m,by grind]) x
def tj(x:Int)(i:Nat):∀m,px x i (i+1+m)=pr (λj=>x-j) i*pr (λj=>x-(i+1+j:Nat)) m
 |0=>by
   let h:∀k,k<=i->px x i k=pr (λj=>x-j) k:=λk=>by
    induction k with
    |zero=>exact λ_=>rfl
    |succ k b=>
      intro c;show(if k=i then px x i k else px x i k*(x-k))=pr (λj=>x-j) k*(x-k)
      rw[Pd #[0],b #[0]]
   show(if i=i then px x i i else _)=_*1;rw[Pe rfl,h i (eS _),PC]
 |m+1=>by
   show(if i+1+m=i then _ else px x i (i+1+m)*(x-(i+1+m:Nat)))=pr (λj=>x-j) i*(pr (λj=>x-(i+1+j:Nat)) m*(x-(i+1+m:Nat)))
   rw[Pd #[0],tj x i m,Qz]
def Bv(x:Int)(i:Nat):∀m,pr (λj=>x-(i+m:Nat)+j) m=pr (λj=>x-(i+1+j:Nat)) m
 |0=>rfl
 |m+1=>by
   rw[tE];show _=pr (λj=>x-(i+1+j:Nat)) m*(x-(i+1+m:Nat))
   let e:pr (λk=>x-(i+(m+1):Nat)+(k+1:Nat)) m=pr (λj=>x-(i+m:Nat)+j) m:=tF m λk _=>#[0]
   rw[e,Bv x i m,ti]
   congr 1
   omega
def fac:Nat->Int
 |0=>1
 |n+1=>fac n*((n:Int)+1)
def yT:∀n:Nat,pr (λj=>(n:Int)-j) n=fac n
 |0=>rfl
 |n+1=>by
   rw[tE];let e:pr (λk=>((n+1:Nat):Int)-(k+1:Nat)) n=pr (λj=>(n:Int)-j) n:=tF n λk _=>#[0]
   rw[e,yT n];show((n+1:Nat)-(0:Nat):Int)*fac n=fac n*((n:Int)+1)
   rw[ti]
   congr 1
def BO(i:Nat):∀m:Nat,pr (λj=>(i:Int)-(i+1+j:Nat)) m=(-1) ^ m*fac m
 |0=>rfl
 |m+1=>by
   show pr _ m*((i:Int)-(i+1+m:Nat))=(-1) ^ (m+1)*(fac m*((m:Int)+1))
   rw[BO i m,rc]
   have:((i:Int)-(i+1+m:Nat))=-((m:Int)+1):=#[0]
   rw[this]
   grind
def Ff(i m:Nat):px (i:Int) i (i+1+m)=fac i*((-1) ^ m*fac m):=by rw[tj,yT,BO]
def yS:∀(k d:Nat),fac d*pr (λj=>((d+k:Nat):Int)-j) k=fac (d+k)
 |0,d=>by simp [pr]
 |k+1,d=>by
   let b:=yS k (d+1);rw[show d+1+k=d+(k+1) by omega]at b;rw[←b];show fac d*(pr (λj=>((d+(k+1):Nat):Int)-j) k*(((d+(k+1):Nat):Int)-k))=fac d*((d:Int)+1)*pr (λj=>((d+(k+1):Nat):Int)-j) k
   have:(((d+(k+1):Nat):Int)-k)=(d:Int)+1:=#[0]
   rw[this]
   grind
def xF(b:Pm p):∀n:Nat,(n:Int)<p->¬ p ∣ fac n
 |0,_=>λd=>by
   have:=P2 ⋯ (show p ∣ 1 from d)
   have:=b.1
   omega
 |n+1,h=>b.not_mul (xF b n #[0]) λd=>by
   have:=P2 #[0] d
   omega
def Bp(m:Nat):((-1:Int) ^ m)*(-1) ^ m=1:=by
 induction m with
 |zero=>rfl
 |succ m b=>rw[rc];grind
def Kz(b:Pm p){n i:Nat}(c:(n:Int)<=p)(e:i<n):¬ p ∣ px (i:Int) i n:=by
 obtain⟨m,rfl⟩:∃m,n=i+1+m:=%[n-(i+1)|3]
 rw[Ff];apply b.not_mul (xF b i #[0]) (b.not_mul (λd=>?_) (xF b m #[0]));erw[k,g]at d;let s:=Bp m
 have:p ∣ 1:=%[k*(-1) ^ m|by grind]
 have:=P2 ⋯ this
 have:=b.1
 omega
def Id{p:Int}{c:Nat}{d:Nat->Int}(h:∀k,k<=c->p ∣ d k*fac k-1):Wgt p (c+1) λi=>(-1) ^ (c-i)*(d i*d (c-i)):=λi g=>by
 obtain⟨m,rfl⟩:∃m,c=i+m:=%[c-i|3]
 show p ∣ px (i:Int) i (i+m+1)*((-1) ^ (i+m-i)*(d i*d (i+m-i)))-1;rw[show i+m+1=i+1+m by omega,Ff,show i+m-i=m by omega];let%[a|ha]:=h i #[0];let%[b|hb]:=h m #[0];let s:=Bp m;erw[a*(d m*fac m)+b,6];let e:fac i*((-1) ^ m*fac m)*((-1) ^ m*(d i*d m))=((-1) ^ m*(-1) ^ m)*((d i*fac i)*(d m*fac m)):=by grind
 rw[e,s]
 grind
end Mine
namespace Mine
def fnd(g:Nat->Bool)(i:Nat):List Int:=((List.range i).filter g).map λk:Nat=>(k:Int)
def iu(g:Nat->Bool)(i:Nat):fnd g (i+1)=fnd g i++if g i=true then [(i:Int)]else []:=by
 unfold fnd;rw[ss,PK,fj];cases h:g i <;> simp [List.filter,h]
def fnd_mem{x:Int}:x∈fnd g i↔∃k:Nat,x=(k:Int)/\k<i/\g k=true:=by
 unfold fnd;rw[List.mem_map]
 constructor
 . rintro⟨k,b,rfl⟩
   have:=List.mem_filter.mp b
   erw[k,1,List.mem_range.mp this.1,this.2]
 . rintro⟨k,rfl,h1,h2⟩;erw[k,List.mem_filter.mpr %[List.mem_range.mpr h1|h2],1]
def Hi(g:Nat->Bool)(i:Nat):(fnd g i).Pairwise (· < ·):=by
 unfold fnd;rw[RT];exact(List.pairwise_lt_range.filter g).imp λh=>#[0]
def rW(g:Nat->Bool)(i:Nat):(fnd g i).length<=i:=by
 unfold fnd;rw[d8];exact hE (Ry _ _) (by rw[o0];exact eS _)
def Ee{p a b:Int}(d:0<=a)(e:0<=b)(a1:a<p)(g:b<p)(h:p ∣ a-b):a=b:=by
 erw[k,j]at h;let h1:k<1:=by
  apply Int.lt_of_not_ge ?_;intro c
  have:=wa c (show 0<=p by omega)
  omega
 let h2:-1<k:=by
  apply Int.lt_of_not_ge ?_;intro c
  have:=wa c (show 0<=p by omega)
  omega
 have:k=0:=#[0]
 subst this;omega
def ui{p:Int}:∀{l:List Int},l.Pairwise (· < ·)->(∀x∈l,0<=x/\x<p)->l.Pairwise λa b=>¬ p ∣ b-a
 | [],_,_=>List.Pairwise.nil
 |a::l,h,r=>by
   let h':=List.pairwise_cons.mp h;apply List.pairwise_cons.mpr %[λb hb d=>?_|ui h'.2 λx g=>r x (mj _ g)];let c:=r a kb;let e:=r b (mj _ hb)
   have:=Ee e.1 c.1 e.2 c.2 d
   have:=h'.1 b hb
   omega
def few(d:Pm p){n k:Nat}{f:Int->Int}(hf:IsPoly n f){x:Int}(e:¬ p ∣ f x){rs:List Int}(hd:rs.Pairwise λa b=>¬ p ∣ b-a)(hr:∀r∈rs,p ∣ f r):rs.length<n:=by
 apply Nat.lt_of_not_le ?_;intro c;apply e (hf.roots d (rs.take n) (by rw[kr];omega) (hd.sublist (List.take_sublist _ _)) (λr h=>hr r (List.mem_of_mem_take h)) x)
end Mine
namespace Mine
def IsPoly.prod:∀{m n:Nat}{f g:Int->Int},IsPoly (m+1) f->IsPoly (n+1) g->IsPoly (m+n+1) λx=>f x*g x
 |0,n,f,g,⟨a,u,b,e⟩,hg=>by
   rw[Rl];exact(hg.mul a).congr λx=>by rw[e x,b x];simp
 |m+1,n,f,g,⟨a,u,b,e⟩,hg=>by
   let c:=IsPoly.prod b hg;let h1:IsPoly (m+n+1+1) λx=>x*(u x*g x):=%[(0),_,c|λx=>by simp]
   let h2:IsPoly (m+n+1+1) λx=>a*g x:=(hg.mul a).upTo _ #[0]
   rw[show m+1+n+1=m+n+1+1 by omega];exact(h2.add h1).congr λx=>by rw[e x];grind
def IsPoly.const(c:Int)(n:Nat):IsPoly (n+1) λ_=>c:=%[c,λ_=>0,IsPoly.zero n|λx=>by simp]
def IsPoly.self:IsPoly 2 λx=>x:=%[(0),λ_=>1,IsPoly.const 1 0|λx=>by simp]
def ut(p x:Int):p ∣ x % p-x:=⟨-(x / p),by
 have:=Qn x p
 rw[Int.mul_neg];omega⟩
end Mine
namespace Mine
def evl(x:Int)(c:List Int):Int:=c.foldr (λa r=>a+x*r) 0
def jY(x a:Int)(r:List Int):evl x (a::r)=a+x*evl x r:=rfl
def BQ{p:Int}:∀c:List Int,evl x (c.map (· % p)) % p=evl x c % p
 | []=>rfl
 |a::r=>by
   rw[lw,jY,jY,w4,wb,BQ r,←wb,Int.emod_emod_of_dvd _ (Rj p),←w4]
def BS(g:Pm p):∀c:List Int,(c.length:Int)<=p->(∀x,p ∣ evl x c)->∀a∈c,p ∣ a
 | [],_,_,a,ha=>by cases ha
 |b::r,hl,h,a,ha=>by
   let h0:p ∣ b:=by
    have:=h 0
    rw[jY,Int.zero_mul,QC]at this;exact this
   let n:(r.length:Int)+1<=p:=by
    rw[f5]at hl;omega
   let hr:∀x,p ∣ evl x r:=λx=>by
    refine(oN r).roots g ((List.range r.length).map λk:Nat=>(k:Int)+1) #[2] ?_ ?_ x
    . apply ui ?_ ?_
      . rw[RT];exact List.pairwise_lt_range.imp λh=>#[0]
      . intro y j;let%[k,m|1]:=List.mem_map.mp j
        have:=List.mem_range.mp m
        omega
    . intro y j;let%[k,m|1]:=List.mem_map.mp j;let o:=List.mem_range.mp m;let h1:=h ((k:Int)+1);rw[jY]at h1;let h2:p ∣ ((k:Int)+1)*evl ((k:Int)+1) r:=by
       have:=Int.dvd_sub h1 h0
       rwa [show b+((k:Int)+1)*evl ((k:Int)+1) r-b=((k:Int)+1)*evl ((k:Int)+1) r by omega]at this
      apply g.mul h2 λd=>?_
      have:=P2 #[0] d
      omega
   rcases qA0 ha with e | e
   . rw[e];exact h0
   . exact BS g r #[0] hr a e
def gC(p:Int)(c:List Int):List Int:=fnd (λs=>decide (evl (s:Int) c % p=0)) p.toNat
def gY(b:Pm p){c:List Int}(hl:(c.length:Int)<=p)(h:∃a∈c,¬ p ∣ a):(gC p c).length<c.length:=by
 have:∃x,¬ p ∣ evl x c:=Classical.byContradiction λz=>by
  erw[a,ha,e]at h;exact e (BS b c hl (λx=>Classical.byContradiction λy=>z %[x|y]) a ha)
 erw[x,g]at this;let m:=b.1;apply few (k:=0) b (oN c) g (rs:=gC p c) (ui (Hi _ _) λy d=>?_) λy d=>?_
 . let%[k,1,j|_]:=fnd_mem.mp d;omega
 . let%[k,1,j|hg]:=fnd_mem.mp d;exact L1 (y3 hg)
def ovr(xs cs:List Int):List Int:=List.zipWith (· - ·) xs cs
def ii{xs cs:List Int}(h:xs.length=cs.length):(ovr xs cs).length=xs.length:=by
 unfold ovr;rw[List.length_zipWith];omega
def Fw{xs cs:List Int}{i:Nat}{x c:Int}(b:xs[i]?=some x)(hc:cs[i]?=some c):(ovr xs cs).take (i+1)=(ovr xs cs).take i++[x-c]:=by
 have:(ovr xs cs)[i]?=some (x-c):=by
  unfold ovr;rw[List.getElem?_zipWith,b,hc]
 rw[ih,this];rfl
def wrg(p:Int)(c:List Int):Bool:=c.any λn=>!decide (n % p=0)
def wrg_iff:wrg p c=true↔∃a∈c,¬ p ∣ a:=by
 unfold wrg;rw[List.any_eq_true]
 constructor
 . rintro⟨a,ha,h⟩;erw[a,ha,λd=>?_];rw[QJ d]at h
   revert h
   decide
 . rintro⟨a,ha,h⟩;erw[a,ha,6];rw[fw λz=>h (L1 z)];rfl
def HP{p:Int}:∀c:List Int,((c.map (· % p)).map λn=>!decide (n=0)).any id=wrg p c
 | []=>rfl
 |a::r=>by
   have:=HP (p:=p) r
   unfold wrg at this ⊢;rw[lw,lw,PN,PN,this];rfl
end Mine
namespace Mine
def cgt(p:Int)(b:List Int):Int:=b.foldl (λa d=>a*(p-d)) 1
def zh(p:Int)(b:List Int)(d:Int):cgt p (b++[d])=cgt p b*(p-d):=by
 unfold cgt;rw[List.foldl_append];rfl
def pV{p:Int}:∀(b:List Int)(a:Int),0<a->(∀d∈b,d<p)->0<b.foldl (λa d=>a*(p-d)) a
 | [],a,h,_=>h
 |d::r,a,h,hd=>by
   let h1:=hd d kb;exact pV r _ (Int.mul_pos h #[0]) λe he=>hd e (mj _ he)
def Ch{p:Int}{b:List Int}(h:∀d∈b,d<p):0<cgt p b:=pV b 1 ⋯ h
def Js(p:Int)(n m:Nat)(g:Int)(c:List Int):Int:=
 if m=1 then(if c.headD 0 % p=0 then p ^ n else p ^ n-g)else((gC p c).length:Int)*p ^ n+(p-((gC p c).length:Int))*(p ^ n-g)
def lW(p:Int)(n m:Nat)(g:Int)(c:List Int):Int:=
 if wrg p c=true then(if m=1 then p ^ n-g else((gC p c).length:Int)*p ^ n+(p-((gC p c).length:Int))*(p ^ n-g))else p ^ (if m=1 then n else n+1)
def HY(h:¬ wrg p c=true):∀a∈c,p ∣ a:=λa ha=>Classical.byContradiction λz=>h (wrg_iff.mpr %[a,ha|z])
def BR{p:Int}:∀c:List Int,(∀a∈c,p ∣ a)->p ∣ evl x c
 | [],_=>Int.dvd_zero p
 |a::r,h=>by
   rw[jY];exact P5 (h a kb) (Int.dvd_mul_of_dvd_right (BR r λb hb=>h b (mj _ hb)))
def BM{g:Nat->Bool}:∀i,(∀k,g k=true)->(fnd g i).length=i
 |0,_=>rfl
 |i+1,h=>by
   rw[iu,Pe (h i),fm,BM i h];rfl
def Cv{p:Int}{c:List Int}(h:∀a∈c,p ∣ a):(gC p c).length=p.toNat:=
 BM _ λ_=>ft (QJ (BR c h))
def Ji{p:Int}{m:Nat}{c:List Int}(p0:0<p)(hl:c.length=m):lW p n m g c=Js p n m g c:=by
 unfold lW Js
 by_cases j:m=1
 . rw [Pe j,Pe j,Pe j];obtain⟨a,rfl⟩:∃a,c=[a]:=List.length_eq_one_iff.mp (hl.trans j)
   let e:(wrg p [a]=true)↔¬ a % p=0:=by
    rw[wrg_iff]
    constructor
    . rintro⟨b,hb,h⟩ z;rw[Pn hb]at h;exact h (L1 z)
    . intro z;erw[a,List.mem_singleton.mpr rfl,λd=>z (QJ d)]
   show(if wrg p [a]=true then p ^ n-g else p ^ n)=if a % p=0 then p ^ n else p ^ n-g
   by_cases h:a % p=0
   . rw[Pd (λz=>e.mp z h),Pe h]
   . rw[Pe (e.mpr h),Pd h]
 . rw [Pd j,Pd j,Pd j]
   by_cases h:wrg p c=true
   . rw[Pe h]
   . rw[Pd h,Cv (HY h),Int.toNat_of_nonneg #[0],Rk,Int.zero_mul,QC,rc,ti]
def yG{g:Int}(j:Pm p){m:Nat}{c:List Int}(m1:1<=m)(hl:c.length=m)(mp:(m:Int)<=p)(o:0<g):decide (lW p n m g c<p ^ (n+if 1<m then 1 else 0))=wrg p c:=by
 let p0:0<p:=by have:=j.1;omega
 unfold lW
 by_cases h:wrg p c=true
 . rw [Pe h,h];apply ft ?_
   by_cases d:m=1
   . rw[Pe d,Pd #[0],Nat.add_zero];omega
   . rw [Pd d,Pe #[0],rc];let few:=gY j (c:=c) (by rw[hl];exact mp) (wrg_iff.mp h);generalize (gC p c).length=b at few;let hb:(b:Int)<p:=#[0]
     let h1:0<(p-b)*g:=Int.mul_pos #[0] o;let e:(b:Int)*p ^ n+(p-b)*(p ^ n-g)=p ^ n*p-(p-b)*g:=by grind
     rw[e];omega
 . rw [Pd h];let h':wrg p c=false:=#[h,0]
   rw[h'];apply fw ?_
   by_cases d:m=1
   . rw[Pe d,Pd #[0],Nat.add_zero];omega
   . rw[Pd d,Pe #[0]];omega
end Mine
namespace Mine
open PySem L2
def Jk{us:List Value}(h:us.length=1):∃a,us=[a]:=by
 cases us with
 |nil=>cases h
 |cons a r=>
   cases r with
   |nil=>erw[a,1]
   |cons _ _=>cases h
def Dy{us:List Value}{n:Nat}(h:us.length=n+1):∃a r,us=a::r/\r.length=n:=by
 cases us with
 |nil=>cases h
 |cons a r=>erw[a,r,1,Nat.succ.inj h]
def GE{us:List Value}(h:us.length=2):∃a b,us=[a,b]:=by
 let%[a,r,1|h1]:=Dy h;let%[b|1]:=Jk h1;erw[a,b,1]
def Jj{us:List Value}(h:us.length=3):∃a b c,us=[a,b,c]:=by
 let%[a,r,1|h1]:=Dy h;let%[b,c|1]:=GE h1;erw[a,b,c,1]
def KJ{us:List Value}(h:us.length=4):∃a b c d,us=[a,b,c,d]:=by
 let%[a,r,1|h1]:=Dy h;let%[b,c,d|1]:=Jj h1;erw[a,b,c,d,1]
def len5{us:List Value}(h:us.length=5):∃a b c d e,us=[a,b,c,d,e]:=by
 let%[a,r,1|h1]:=Dy h;let%[b,c,d,e|1]:=KJ h1;erw[a,b,c,d,e,1]
def len6{us:List Value}(h:us.length=6):∃a b c d e f,us=[a,b,c,d,e,f]:=by
 let%[a,r,1|h1]:=Dy h;let%[b,c,d,e,f|1]:=len5 h1;erw[a,b,c,d,e,f,1]
def len7{us:List Value}(h:us.length=7):∃a b c d e f g,us=[a,b,c,d,e,f,g]:=by
 let%[a,r,1|h1]:=Dy h;let%[b,c,d,e,f,g|1]:=len6 h1;erw[a,b,c,d,e,f,g,1]
def top(i:Nat):Stmt:=PySem.Challenge.pw_asktally_k82_whole_best_liar_just_at_mos.main.body.getD i (.Pass %[(0),(0),(0)|(0)])
example:=[qm,21,kI,22,jD,30,kM,31,lF,32,iW,33,jt,34,eZ,35,wn,37,iC,38,iY,40,kK,41,sT,42,oH,43,iV,44,mK,45,kD,46,lO,48,oz,49,sU,53,lQ,54,jE,55,lS,56,jG,57,hU,58,jF,59,oG,61,kJ,62,lJ,63,kA,65,iX,66,lN,70,iD,71,kE,72,kF,73,lG,74,oy,76,lP,77,iU,78,oA,79,fk,80,lT,83,kC,87,oB,88,qo,89,kN,94,sO,95,qf,98,fJ,99,lK,100,sS,102,sQ,103,cG,104,ph,105,iL,106,lI,107,kG,108,qk,109,lH,110,ju,111,qi,112,mN,113,ql,114,qj,115,oF,116,sR,117,kH,118,oC,119,oE,120,pf,121]
section
variable {P:Program}{w:World}{K:W.Frag}{mg:#[9]}{base:Heap}
example:=[eB,82,lR,85,mL,92,wv,69]
structure Bl(mg:#[9]):Prop where
 len:mg "len"=none
 range:mg "range"=none
 isinstance:mg "isinstance"=none
 int:mg "int"=none
 bool:mg "bool"=none
 list:mg "list"=none
 tuple:mg "tuple"=none
 max:mg "max"=none
 reversed:mg "reversed"=none
 enumerate:mg "enumerate"=none
 sum:mg "sum"=none
 all:mg "all"=none
 zip:mg "zip"=none
 dict:mg "dict"=none
 any:mg "any"=none
def BN(z:Int):0<=z % 2147483646+1/\z % 2147483646+1<=2147483646:=#[0]
def iB:FnScope ["_law_script","_law_k","_law_cell","_law_own"] Wv (aj sS):=%[|5]
def Dd(F:#["_law_feed",sS])(d:mg "len"=none):#[1,f,fd,Wv,spFeed K]:=by
 exists iB
 erw[a,ns,k,1,j,h63,u,y,q]at h;refine⟨_,(ad #[am,2,iB,ao aV (ao bN ag (pv 1)) ag]
  (ad (aJ (ai iI (pv 1) (aG aD rfl d fx %[0|ae]) (ax _)) (af #[am,2,iB,aO ix_list (pv 0) (pv 1) #[1]]) (af (aJ (ai gq (aG aD rfl d fx %[0|ae]) ag (ax _)) (af #[am,2,iB,ao aV (ao bN (ao aY (aO ix_list (pv 0) (ao aY (pv 1) (aG aD rfl d fx %[0|ae])) #[1]) ag) ag) (ao bN ag (pv 1))]) aE)))
  (ad #[am,3,iB,ag]
  (ad (aJ (ai Bx (pv 2) (ao Fy ag ag) (ax _)) (af #[am,3,iB,pv 2]) aE)
  (af (au (bY %[3,ao aV (ao aY (ao aV (ao bN (ao aY (pv 2) ag) ag) (ao bN ag (pv 1))) ag) ag|ae]))))))),?_⟩
 let hl:(ns.map V.int).length=ns.length:=d8 _;let g:(10:Int) ^ (18:Int).toNat=1000000000000000000:=by decide
 erw[0,2,.inl %[4|4],2,6];erw[0,0,a,0,.inl j,2,0,6];apply AL (λc=>?b1) (λc=>?b2)
 case' b1=>
  let m:k<(((ns.map V.int).length:Nat):Int):=y3 c;rw[hl]at m;let%[v|n]:=HM (ns:=ns) u m;erw[0,0,a,_,2,j,n,6]
 case' b2=>
  erw[0,a,0,.inl j,2,0,6];apply AL (λo=>?b3) (λo=>?b4)
  case' b3=>
   let m:(0:Int)<(((ns.map V.int).length:Nat):Int):=y3 o;let x:=lz k (b:=(((ns.map V.int).length:Nat):Int)) #[0];let m1:=mu k m;let%[v|n]:=HM (ns:=ns) x (by rw[hl]at m1 ⊢;exact m1);let z:=lz v (b:=2147483629) ⋯;let n1:=mu v (b:=2147483629) ⋯;erw[0,0,0,a,0,.inl j,2,m,a,_,2,j,n,2,(by show(0:Int)<_;decide),2,.inr %[4|4],0,2,.inl %[4|4],2,6]
 all_goals
  erw[0,2,%[4,4|4],2,0,6];apply AL (λr=>?_) (λr=>?_)
  . let t:=y3 r;rw[g]at t;erw[0,0,0,2,(by show(0:Int)<_;decide),2,.inr %[4|4],0,2,.inl %[4|4],2,2,(by show(0:Int)<_;decide),2,y2S,λp g=>?_];apply q p _ g (ej g _) %[_,_,ah,Int.le_trans ⋯ t,(BN _).1|(BN _).2]
  . erw[0,0,2,(by show(0:Int)<_;decide),2,.inr %[4|4],0,2,.inl %[4|4],2,2,(by show(0:Int)<_;decide),2,y2S,λp g=>?_];apply q p _ g (ej g _) %[_,_,ah,qq 0,(BN _).1|(BN _).2]
def r8:FnScope ["_law_feed_here","_law_many","_law_digit","_law_one"] WH (aj sQ):=%[|5]
def Da(F:#["_law_take",sQ]):#[1,f,fd,WH,spTake]:=by
 exists r8
 erw[f,m,1,%[own,st,hf,e,s0|s1],d,m1,q]at h;refine⟨_,(ad (aJ (ai gq (aO ix_list (pv 0) ag #[1]) ag (ax _)) (ad #[am,2,r8,ao aY (aO ix_list (pv 0) ag #[1]) (pv 1)]
  (ad (qt (ao FA (aO ix_list (pv 0) ag #[1]) (pv 1)) (wJ (pv 0) ag oW))
  (af (au (pv 2))))) aE)
  (ad #[am,3,r8,ao aY (ao bN (aO ix_list (pv 0) ag #[1]) ag) ag]
  (ad (qt (ao aV (ao aY (ao aV (ao bN (pv 3) ag) ag) ag) ag) (wJ (pv 0) ag oW))
  (af (au (ao aY (ao By (ao aV (ao bN (pv 3) ag) (aO ix_list (pv 0) ag #[1])) ag) (pv 1))))))),?_⟩
 erw[0,f,_,(0),0,1,eH hf,1,2,0,6];apply AL (λc=>?_) (λc=>?_)
 . erw[0,f,_,(0),0,1,eH hf,1,0,2,d,6];erw[0,f,_,(0),0,1,eH hf,1,0,2,%[d|m1],0,f,_,(0),(0),1,1,hf,1,6];erw[0,6];exact q _ _ (lz _ #[0]) (mu _ d) ⟨_,_,ah,Int.ediv_nonneg e #[0],s0,s1⟩ (SameBut.upd _)
 . let g:=lz (st*69621) (b:=2147483647) ⋯;let a1:=mu (st*69621) (b:=2147483647) ⋯;erw[0,f,_,(1),0,1,eH hf,1,2,.inr %[4|4],2,(by show(0:Int)<_;decide),6];erw[0,2,.inr %[4|4],2,2,(by show(0:Int)<_;decide),2,0,f,_,(1),(1),1,1,hf,1,6];let j:=lz (st*69621 % 2147483647*48271+30103) (b:=2147483646) ⋯;let n:=mu (st*69621 % 2147483647*48271+30103) (b:=2147483646) ⋯;erw[0,2,.inr %[4|4],0,f,_,(1),0,1,eH ah,1,2,2,%[4|4],0,2,d,6];exact q _ _ (lz _ #[0]) (mu _ d) ⟨_,_,ah,e,#[0],#[0]⟩ (SameBut.upd _)
def jJ:FnScope ["_law_feed_here","_law_names_here","_law_room","_law_deep","_law_form","_law_more","_law_one","_law_word"] WT (aj ph):=%[|5]
def lf{a X Y B:Prop}[Decidable a](x:X)(h:¬ a->X->B):if decide a=true then(if true=true then X else Y)else B:=by
 by_cases c:a
 . rw[ft c];exact eF (eF x)
 . rw[fw c];exact cQ (h c x)
def Cr{n:Nat}(F:#["_law_tree",ph])(m:mg "len"=none)(J:#[1,"_law_take",WH,spTake])
 (O:#[n+2,"_law_tree",WT,spTree n]):#[n+3,f,fd,WT,spTree (n+1)]:=by
 exists jJ
 erw[f,a,b,c,ns,1,hF,U,nl,r1,an,d1,dn,q]at h;refine⟨_,(ad #[am,4,jJ,aq J hr (nw (i1 _)) rfl %[0,ag|ae]]
  (ad (aJ (PW.pt (ip (ai iI (pv 2) ag (ax _)) (ip (ai iI (pv 3) ag (ax _)) (hV (ai aS (pv 4) ag (ax _)))))) (ad (aJ (PW.pt (ip (ai aS (ao aY (pv 4) ag) ag (ax _)) (hV (ai aS (aG aD rfl m fx %[1|ae]) ag (ax _))))) (af (au (aO ix_list (bY %[aR %[aI|ae],aR %[aI|ae]|ae]) (aq J hr (nw (i1 _)) rfl %[0,ag|ae]) #[1]))) aE)
   (af (au (aR %[aI,aO (ix_list.or ix_tup) (pv 1) (aq J hr (nw (i1 _)) rfl %[0,aG aD rfl m fx %[1|ae]|ae]) #[1]|ae])))) aE)
  (ad (aJ (PW.pt (ip (ai iI (pv 2) ag (ax _)) (hV (ai aS (pv 4) ag (ax _))))) (af (au (aR %[aI,aq O hr (eS _) rfl %[0,1,ao bi (pv 2) ag,ao bi (pv 3) ag|ae]|ae]))) aE)
  (ad #[am,5,jJ,ao aV ag (aq J hr (nw (i1 _)) rfl %[0,ao bi (pv 2) ag|ae])]
  (ad #[am,6,jJ,aq O hr (eS _) rfl %[0,1,5,ao bi (pv 3) ag|ae]]
  (ad #[am,7,jJ,aO ix_list (bY %[aI,aI,aI,aI|ae]) (ao aY (pv 4) ag) #[1]]
  (af (au (aR %[7,6,aq O hr (eS _) rfl %[0,1,ao bi (ao bi (pv 2) ag) (pv 5),ao bi (pv 3) ag|ae]|ae]))))))))),?_⟩
 erw[0,f,(10),1,hF,4,4,λY H1 f0 ap j u=>?_];let B:=U.feed hF u;erw[0,2,0,6];apply lf ?leaf λc1 hX=>?_
 case leaf=>
  erw[0,2,(by show(0:Int)<_;decide),1,0,6];apply lf ?yn λc6 hY=>?_
  case yn=>
   erw[y1S,λC h1=>?_];erw[y1S,λp2 h2=>?_];erw[y2S,λl hl=>?_];let ga:=ej h1 (.tup [.str "yes"]);let gb:=ej h2 (.tup [.str "no"]);let gc:=ej hl (.lst [.ref C,.ref p2]);let G:=ga.trans (gb.trans gc);let ab:=(j.same (ga.trans gb)).ne hl;erw[0,f,(2),1,j.same G,4,4,λd y d0 d2 r g=>?_];let y2:y C=some (.tup [.str "yes"]):=ji (j.same G) g _ _ (gc _ _ (gb _ _ ah));let n2:y p2=some (.tup [.str "no"]):=ji (j.same G) g _ _ (gc _ _ ah);let l2:=g l _ ab ah
   have:d=0∨d=1:=#[0]
   rcases this with rfl | rfl
   . erw[l,_,(0),0,1,eH l2,1,q (.ref C) .yes y r (u.trans ((fy G).trans g)) (.yes y2) trivial (show(1:Int)<=b from r1) (show(1:Int)<=c from d1)]
   . erw[l,_,(1),0,1,eH l2,1,q (.ref p2) .no y r (u.trans ((fy G).trans g)) (.no n2) trivial (show(1:Int)<=b from r1) (show(1:Int)<=c from d1)]
  erw[0,a,0,B.seq,1,0,6]
  by_cases c7:V.int ((ns.map V.str).length:Int)=V.int 0
  . exact aZ c7 hY
  apply aF c7 ?_;let nz:0<ns.length:=by
   let z:¬ ((ns.map V.str).length:Int)=0:=λz=>c7 (congrArg V.int z)
   rw[d8]at z;omega
  erw[0,0,0,a,0,B.seq,f,0,j,(show(0:Int)<((ns.map V.str).length:Int) by rw[d8];omega),by rw[d8];omega,λd y d0 d9 r g=>?_];let%[v,hv|vm]:=vH (l:=ns.map V.str) (i:=d) d0 d9;let%[x,hx|1]:=List.mem_map.mp vm;refine(B.feed j g).ix hv ?_;erw[y2S,λp D=>?_];let G:=ej D (.tup [.str "is",.str x]);exact q (.ref p) (.is x) _ (r.same G) (u.trans (g.trans (fy G))) (.is ah) hx (show(1:Int)<=b from r1) (show(1:Int)<=c from d1)
 erw[0,2,0,6]
 by_cases c2:c<2
 . exact aZ c2 (eF hX)
 apply aF c2 ?_;erw[0,1,0,6]
 by_cases c3:V.int Y=V.int 9
 . exact aZ c3 hX
 apply aF c3 ?_;erw[0,2,0,6];let d2:2<=c:=#[0]
 let dd:1<=c-1:=#[0]
 let t:c-1+1<=(n:Int)+1:=#[0]
 apply lf ?nt λc4 U=>?_
 case nt=>
  erw[0,0,0,2,0,2,f,a,_,_,ns,1,j,B,nl,(show 1<=b-1 by omega),3,dd,t,λL t1 H3 M N T1 o1 z1 C=>?_];erw[y2S,λp D=>?_];let o:=ej D (.tup [.str "not",L]);apply q (.ref p) (.not t1) _ (M.same o) (u.trans (N.trans (fy o))) (.not ah (T1.mono (bc o))) o1 ?_ ?_
  . show((t1.size+1:Nat):Int)<=b;omega
  . show((t1.depth+1:Nat):Int)<=c;omega
 erw[0,1,0,6]
 by_cases c5:V.int Y=V.int 8
 . exact aZ c5 U
 apply aF c5 ?_;erw[0,0,2,f,0,j,(show(0:Int)<b-2 by omega),(show b-2<2 ^ 63 by omega),λe y e0 e1 r g=>?_];erw[2,6];let N2:=B.feed j g;erw[0,0,0,0,2,f,a,_,_,ns,1,r,N2,nl,3,3,dd,t,λL t1 H3 M N T1 o1 z1 C=>?_];let N3:=N2.feed r N;erw[y4S,λl hl=>?_];let%[wd,hw|wm]:=vH (l:=joinW.map V.str) (i:=Y % 4) #[0] (by
  have:(joinW.map V.str).length=4:=by rfl
  omega)
 let%[x,hx|1]:=List.mem_map.mp wm;erw[0,2,(by show(0:Int)<_;decide),l,_,2,eH ah,hw,6];let G:=ej hl (.lst [.str "and",.str "or",.str "odd",.str "same"]);erw[0,0,0,0,0,2,0,2,0,2,f,a,_,_,ns,1,M.same G,N3.same G,nl,(show 1<=b-1-(1+e) by omega),3,dd,t,λv2 t2 H4 F4 S4 T2 o2 z2 p2=>?_];erw[y3S,λp D=>?_];let o:=ej D (.tup [.str x,L,v2]);let ac:TreeAt H4 L t1:=(T1.mono (bc G)).mono (ji (M.same G) S4);apply q (.ref p) (.bin x t1 t2) _ (F4.same o) (u.trans (g.trans (N.trans ((fy G).trans (S4.trans (fy o)))))) (.bin ah (ac.mono (bc o)) (T2.mono (bc o))) %[hx,o1|o2] ?_ ?_
 . show((t1.size+t2.size+1:Nat):Int)<=b;omega
 . show((max t1.depth t2.depth+1:Nat):Int)<=c;omega
def Cq:#[2,f,fd,WT,spTree 0]:=by
 let no:∀vs H Q E,¬ spTree 0 vs H Q E:=λvs H Q E h=>by
  erw[f,a,b,c,ns,_,_,_,_,_,_,h1,h2,_]at h;omega
 exists 3
def vn(F:#["_law_tree",ph])(b:mg "len"=none)(m:mg "_law_tree"=some (.ref f))(c:#[1,"_law_take",WH,spTake]):
 ∀n:Nat,#[n+2,f,fd,WT,spTree n]
 |0=>Cq
 |n+1=>Cr F b c (Cal.of F (vn F b m c n) m (λ_ _ _ _ _ _ us hl=>by let%[d,e,g,j|1]:=KJ hl;rfl))
def KQ:Stmt->List Stmt
 |.If _ b _ _=>b
 |_=>[]
def KP:Stmt->Expr
 |.If c _ _ _=>c
 |_=>.Constant .none 0 %[(0),(0),(0)|(0)]
def Em:Stmt->Expr
 |.Assign _ v _=>v
 |.Return (some v) _=>v
 |_=>.Constant .none 0 %[(0),(0),(0)|(0)]
def AT:Expr->List Expr
 |.List b _=>b
 |.BinOp _ _ (.List b _) _=>b
 |.Subscript (.List b _) _ _=>b
 |_=>[]
abbrev stm(s:Stmt)(i:Nat):Stmt:=(ik s).getD i (.Pass %[(0),(0),(0)|(0)])
abbrev Iu(s:Stmt)(i j:Nat):Stmt:=(KQ (stm s i)).getD j (.Pass %[(0),(0),(0)|(0)])
def wordsA:List Str:=["is","set","say","if","go","end","num","box","op","field","holds","claims"]
def wordsB:List Str:=["nota","nob","yesx","andy","ors","oddly"]
def wordsC:List Str:=["samey","rounds","dues","coins","truex","asks"]
@[irreducible] def Ax:List Expr:=AT (Em (Iu cG 6 0))
@[irreducible] def Aw:List Expr:=AT (Em (Iu cG 6 1))
@[irreducible] def Av:List Expr:=AT (Em (Iu cG 6 2))
def Gc:Consts Ax wordsA:=by
 unfold Ax;exact .cons (.cons (.cons (.cons (.cons (.cons (.cons (.cons (.cons (.cons (.cons (.cons .nil)))))))))))
def FZ:Consts Aw wordsB:=by
 unfold Aw;exact .cons (.cons (.cons (.cons (.cons (.cons .nil)))))
def FY:Consts Av wordsC:=by
 unfold Av;exact .cons (.cons (.cons (.cons (.cons (.cons .nil)))))
def Au:∃b p2 c d p5 p6 p7 p8 p9 e g j m q5,ik cG=[stm cG 0,stm cG 1,stm cG 2,stm cG 3,stm cG 4,stm cG 5,
 .If (KP (stm cG 6)) [.Assign [.Name "_law_words" b] (.List Ax p2) c,.Assign [.Name "_law_words" d] (.BinOp (.Name "_law_words" p5) .Add (.List Aw p6) p7) p8,.Assign [.Name "_law_words" p9] (.BinOp (.Name "_law_words" e) .Add (.List Av g) j) m,Iu cG 6 3] [] q5,stm cG 7]:=
 %[_,_,_,_,_,_,_,_,_,_,_,_,_,_|by rfl']
def LTR:Str:="bcdfghjklmnpqrstvwxz"
def KG:∀c∈LTR.cps.toList,c≠97:=by decide
def AE:∀c∈LTR.cps.toList,97<=c/\c<=122:=by decide
def Eh:∀x∈(wordsA++wordsB)++wordsC,x.length<=20/\(∀c∈x.cps.toList,97<=c/\c<=122)/\x≠"aa":=by decide
instance spNamesN:∀(f:Addr)(m:Int),vs=[.ref f,.int m]->FeedAt H f->0<=m->m<=6->(∀(l:Addr)(ns:List Str)(H':Hp),H l=none->l≠f->H' l=some (.lst (ns.map V.str))->ns.length=m.toNat->(∀x∈ns,qJ x)->ns.Nodup->FeedAt H' f->SameBut f H H'->Q (.ref l) H'):=1
def Ck:∀x∈(wordsA++wordsB)++wordsC,∃c∈x.cps.toList,c∉LTR.cps.toList:=by decide
def Jc:∀a b:Fin 20,LTR.cps.toList[a.val]?=LTR.cps.toList[b.val]?->a=b:=by decide
def FX{ns:List Str}{t:Nat}{u:Int}(g:0<=u)(b:u<20)(hl:ns.length<=6)(h:∀(k:Nat) x,ns[k]?=some x->x.cps.toList[t]?=LTR.cps.toList[((u+7*(k:Int)) % 20).toNat]?):ns.Nodup:=by
 apply List.pairwise_iff_getElem.mpr λi j c d m e=>?_
 let h1:=h i _ (fz c);let h2:=h j _ (fz d);rw[e]at h1;let h3:=h1.symm.trans h2;let h4:=Jc %[((u+7*(i:Int)) % 20).toNat|3] ⟨((u+7*(j:Int)) % 20).toNat,#[0]⟩ h3;let h5:=congrArg Fin.val h4;simp only at h5;omega
def KE{ns:List Str}{x:Str}{j:Nat}(h:ns.Nodup)(c:x∉ns):(ns.set j x).Nodup:=by
 apply List.pairwise_iff_getElem.mpr λa b ha hb d=>?_
 rw[L5]at ha hb;rw[List.getElem_set,List.getElem_set]
 split
 . split
   . omega
   . intro e;exact c (e▸o4 hb)
 . split
   . intro e;exact c (e▸o4 ha)
   . exact List.pairwise_iff_getElem.mp h a b ha hb d
def Lw{α:Type}{l:List α}{i:Int}{v:α}(h0:0<=i)(h:atI l i=some v):l[i.toNat]?=some v:=by
 let b:((i.toNat:Nat):Int)=i:=#[0]
 by_cases c:i.toNat<l.length
 . let q:atI l ((i.toNat:Nat):Int)=some l[i.toNat]:=cX (fz c);rw[b,h]at q;rw[fz c];exact q.symm
 . exfalso
   unfold atI ixN at h;rw[Pe h0,Pd #[0]]at h;cases h
def Ex{zs:List Str}(h:∀z∈zs,z.length=1/\∀c∈z.cps.toList,c∈LTR.cps.toList):(zs.map (·.length)).sum=zs.length:=by
 induction zs with
 |nil=>rfl
 |cons a r b=>
   rw[lw,rb,b λz d=>h z (mj _ d),(h a kb).1,f5];omega
def cY:FnScope ["_law_feed_here","_law_many","_law_letters","_law_common","_law_at","_law_first","_law_found","_law_k","_law_tail","_law_sign","_law_words"] WH (aj cG):=%[|5]
def jX{p:Addr}(F:FeedAt H f)(h:p≠f):FeedAt (upd H p o) f:=by
 erw[x,t,e,r]at F;erw[x,t,by rw[az (Ne.symm h)];exact e,r]
inductive ISp(f:Addr)(m:Int)(cm:Str)(t u:Int)(L:Addr)(H:Hp)(i:Nat)(σ:St)(r:Hp):Prop where|mk:∀(x7 x8 x9:Option V)(ns:List Str),(σ=[some (.ref f),some (.int m),some (.str LTR),some (.str cm),some (.int t),some (.int u),some (.ref L),x7,x8,x9,none])->(r L=some (.lst (ns.map V.str)))->(ns.length=i)->((∀x∈ns,qJ x))->((∀x∈ns,∀c∈x.cps.toList,c∈LTR.cps.toList))->((∀(k:Nat) x,ns[k]?=some x->x.cps.toList[t.toNat]?=LTR.cps.toList[((u+7*(k:Int)) % 20).toNat]?))->(FeedAt r f)->(SameBut f H r)->ISp f m cm t u L H i σ r
inductive ISq(f D:Addr)(H:Hp)(i:Nat)(r:Hp):Prop where|mk:∀(zs:List Str),(r D=some (.lst (zs.map V.str)))->(zs.length=i)->((∀z∈zs,z.length=1/\∀c∈z.cps.toList,c∈LTR.cps.toList))->(FeedAt r f)->(SameBut f H r)->ISq f D H i r
def Ai(F:#["_law_names",cG])(n:mg "range"=none)(M:#[1,"_law_take",WH,spTake]):#[2,f,fd,WH,spNamesN]:=by
 exists cY
 erw[f,m,1,hF,m0,m6,q]at h;erw[p1,p2,p3,p4,p5,p6,p7,p8,p9,q1,q2,q3,q4,q5,O]at Au;rw[O];refine⟨_,(ad (am (i:=2) cY.nd rfl (Or.inr rfl) aI)
  (ad (am (i:=3) cY.nd rfl (.inl rfl) (iH QM PySem.F.slot_str_join PySem.F.type_str_join IZ aI (aa (bL (N:=["_law_letters","_law_feed_here"]) (ix:=[2,0]) rfl
   #[4] rfl
   (bK rfl n %[ag|ae])
   (λ_ _ _=>cu (aO xx (pv 1) (aq M hr ⋯ rfl %[2,ag|ae]) #[1]))) ae)))
  (ad #[am,4,cY,aq M hr ⋯ rfl %[0,ag|ae]]
  (ad #[am,5,cY,aq M hr ⋯ rfl %[0,ag|ae]]
  (ad #[am,6,cY,bY ae]
  (ad (cR ks rfl (bK rfl n %[1|ae]) (ba (i:=7) cY.nd rfl (.inl rfl)) (ad #[am,8,cY,ao aY (aq M hr ⋯ rfl %[0,ao bi ag (pv 4)|ae]) ag]
   (ad #[am,9,cY,aO xx (pv 2) (ao aY (ao aV (pv 5) (ao bN ag (pv 7))) ag) #[1]]
   (af (bh (iH qs Gp G0 eE (pv 6) %[ao tP (ao tP (gn zI (pv 3) kQ (gl (pv 4))) (pv 9)) (gn zI (pv 3) (gl (pv 4)) (gl (ao aV (pv 4) (pv 8))))|ae]))))))
  (ad (aJ (PW.pt (jH (ai gq (pv 1) ag (ax _)) (iM (ai aS (aq M hr ⋯ rfl %[0,ag|ae]) ag (ax _))))) (ad #[am,10,cY,bY (mX Gc)]
   (ad #[am,10,cY,ao jI (pv 10) (bY (mX FZ))]
   (ad #[am,10,cY,ao jI (pv 10) (bY (mX FY))]
   (af (qt (aO ix_list (pv 10) (aq M hr ⋯ rfl %[0,ag|ae]) #[1]) (wJ (pv 6) (aq M hr ⋯ rfl %[0,1|ae]) oW)))))) aE)
  (af (au (pv 6)))))))))),?_⟩
 erw[1,(5),1,4,4,λD hD=>?_];let Df:=hF.ne hD;let an:LTR.cps.toList.length=20:=by decide
 apply dR (ISq f D H) %[[],by rw[ah];rfl,1,by simp,hF.same (ej hD _)|fy (ej hD _)] ?_ ?_
 . rintro i H3 hi ⟨zs,hl,zl,z1,F3,S3⟩;let i5:i<5:=hi;erw[0,0,f,(20),1,F3,4,4,λd H4 d0 aA F4 S4=>?_];let%[c,hc|U]:=vH (l:=LTR.cps.toList) (i:=d) d0 (by rw[an];exact aA);let aC:H4 D=some (.lst (zs.map V.str)):=S4 D _ Df hl;erw[_,d,c,1,1,cx ⋯,hc,_,aC,6,Nx.of hi %[zs++[⟨#[c]⟩],6,6,6,jX F4 Df|6]]
   . rw[d8,zl];exact aM (QA (Nat.lt_trans i5 ⋯))
   . rw[ah,fj];rfl
   . rw[fm,nm,zl]
   . intro z hz;rcases qO0 hz with h | h
     . exact z1 z h
     . rw [Pn h];erw[1,λc' g=>?_]
       have:c'=c:=#[g,0]
       subst this;exact U
   . intro b o hb e;rw[az (aN e hD)];exact S4 b o hb (S3 b o hb e)
 rintro H3 ⟨zs,hl,zl,z1,F3,S3⟩;let sl:=Ex z1;let aL:zs.length=5:=zl;erw[_,D,zs,1,1,eH hl,⋯,3,6];let jl:(Txt.join "" zs).length=5:=by
  have:=size_glued "" zs
  let e0:(("":Str)).length=0:=by decide
  rw[e0,Nat.mul_zero]at this;show(Builtin.Str.glued "" zs).length=5;omega
 let jc:∀c∈(Txt.join "" zs).cps.toList,c∈LTR.cps.toList:=λc hc=>by
  let%[z,hz|h]:=Dt hc;exact(z1 z hz).2 c h
 generalize Txt.join "" zs=cm at jl jc;erw[0,f,(6),1,F3,4,4,λt H4 t0 t6 F4 S4=>?_];erw[0,f,(20),1,F4,4,4,λu H5 u0 aH F5 S5=>?_];erw[y0S,λL hL=>?_];let ap:SameBut f H H5:=S3.trans (S4.trans S5);let Lf:=F5.ne hL;let L0:H L=none:=by
  cases e:H L with
  |none=>rfl
  |some o=>rw[ap L o Lf e]at hL;cases hL
 refine⟨_,rfl,m,rfl,#[0],#[0],eV (ISp f m cm t u L H)
  %[_,_,_,[],1,by rw[ah];rfl,1,by simp,by simp,by simp,F5.same (ej hL _)|ap.trans (fy (ej hL _))] ?_ ?_⟩
 . rintro i σ H6 hi ⟨x7,x8,x9,ns,rfl,J,nl,nok,Y,ab,F6,S6⟩;erw[0,0,2,f,0,F6,(Int.sub_pos_of_lt t6),(Int.lt_of_le_of_lt (Int.sub_le_self 6 t0) ⋯),λd H7 d0 d1 F7 S7=>?_];erw[2,(by show(0:Int)<_;decide),6];let%[c,hc|U]:=vH (l:=LTR.cps.toList) (i:=(u+7*(0+(i:Int))) % 20) (lz _ ⋯) (by rw[an];exact mu _ ⋯);erw[0,0,0,2,6,2,2,(by show(0:Int)<_;decide),_,_,c,1,1,cx ⋯,hc,6]
   . exact .inl %[4|4]
   let C:=S7 L _ Lf J;let z1:(Txt.slice cm none (some t)).length<=cm.length:=Ql cm none (some t);let z2:(Txt.slice cm (some t) (some (t+d % 3))).length<=cm.length:=Ql cm _ _;let z3:((%[|#[c]]:Str)).length=1:=rfl;erw[0,.inl %[1,_|eH C],6];erw[0,0,0,0,cx (by rw[jl];decide),0,2,cx (by rw[z3];omega),6];erw[0,0,0,0,0,2,0,0,cx (by rw[jl];decide),2,cx (by rw[RU,z3];omega),6];erw[L,2,C,6,6]
   . rw[d8];exact aM #[0]
   erw[_,_,_,ns++[(Txt.slice cm none (some t)++%[|#[c]])++Txt.slice cm (some t) (some (t+d % 3))],1,6,6,6,6,6,jX F7 Lf,6]
   . rw[ah,fj];rfl
   . rw[fm,nm,nl]
   . intro x B;rcases qO0 B with h | h
     . exact nok x h
     . rw [Pn h];erw[6,λc' g=>?_,λea=>?_]
       . rw[RU,RU,z3];omega
       rotate_left
       . let ar:c∈(((Txt.slice cm none (some t)++%[|#[c]])++Txt.slice cm (some t) (some (t+d % 3)):Str)).cps.toList:=by
          rw[P1,P1]
          simp
         rw[ea]at ar;exact KG c U ((by decide:∀c∈(("aa":Str)).cps.toList,c=97) c ar)
       . rcases mem_append g with h | h
         . rcases mem_append h with h | h
           . exact AE _ (jc _ (mZ h))
           . have:c'=c:=#[h,0]
             subst this;exact AE _ U
         . exact AE _ (jc _ (mZ h))
   . intro x B c' g;rcases qO0 B with h | h
     . exact Y x h c' g
     . rw [Pn h]at g;rcases mem_append g with h | h
       . rcases mem_append h with h | h
         . exact jc _ (mZ h)
         . have:c'=c:=#[h,0]
           subst this;exact U
       . exact jc _ (mZ h)
   . intro k x B
     by_cases ck:k<ns.length
     . rw[PF ck]at B;exact ab k x B
     . let kl:k<(ns++[(Txt.slice cm none (some t)++%[|#[c]])++Txt.slice cm (some t) (some (t+d % 3))]).length:=(Pl B).1;rw[fm,nm]at kl;let ek:k=i:=#[0]
       subst ek;rw[yl #[0],nl,Rm]at B;let ex:(Txt.slice cm none (some t)++%[|#[c]])++Txt.slice cm (some t) (some (t+d % 3))=x:=j3 B;rw[←ex];let cl:cm.cps.toList.length=5:=jl;let es:Txt.slice cm none (some t)=⟨((cm.cps.toList.drop 0).take (t-0).toNat).toArray⟩:=StrLaws.sliceText_to ⟨t0,#[0]⟩;let el:(Txt.slice cm none (some t)).cps.toList.length=t.toNat:=by
        rw[es];simp only[Qx,Int.sub_zero,kr];omega
       let ea:((Txt.slice cm none (some t)++%[|#[c]])++Txt.slice cm (some t) (some (t+d % 3))).cps.toList=(Txt.slice cm none (some t)).cps.toList++([c]++(Txt.slice cm (some t) (some (t+d % 3))).cps.toList):=by
        rw[P1,P1]
        simp
       rw[ea,yl #[0],el,Rm];let as:LTR.cps.toList[((u+7*(0+(k:Int))) % 20).toNat]?=some c:=Lw (lz _ ⋯) hc;rw[vu]at as;rw[as];rfl
   . intro b o hb e;rw[az (aN e L0)];exact S7 b o hb (S6 b o hb e)
 . rintro σ H6 ⟨x7,x8,x9,ns,rfl,J,nl,nok,Y,ab,F6,S6⟩;let ac:ns.Nodup:=FX u0 aH #[0] ab;erw[0,2,0,6];let fin:∀r:Hp,∀ns:List Str,r L=some (.lst (ns.map V.str))->ns.length=m.toNat->(∀x∈ns,qJ x)->ns.Nodup->FeedAt r f->SameBut f H r->Q (.ref L) r:=λr ns a b c nd d e=>q L ns r L0 Lf a b c nd d e
   by_cases c1:(0:Int)<m
   . apply aZ c1 ?_;erw[0,f,(3),1,F6,4,4,λd H7 d0 d1 F7 S7=>?_];erw[1,0,6];let C:=S7 L _ Lf J;apply AL (λ_=>?_) (λ_=>?_)
     . erw[y12S,λl1 h1=>?_];erw[0,y6S,λl2 h2=>?_];erw[l1,l2,wordsA.map V.str,wordsB.map V.str,1,1,ej h2 _ _ _ ah,ah,y18S,λl3 h3=>?_];erw[0,y6S,λl4 h4=>?_];erw[l3,l4,wordsA.map V.str++wordsB.map V.str,wordsC.map V.str,1,1,ej h4 _ _ _ ah,ah,y24S,λl5 h5=>?_];let G:=(ej h1 (.lst (wordsA.map V.str))).trans ((ej h2 (.lst (wordsB.map V.str))).trans ((ej h3 (.lst (wordsA.map V.str++wordsB.map V.str))).trans ((ej h4 (.lst (wordsC.map V.str))).trans (ej h5 (.lst ((wordsA.map V.str++wordsB.map V.str)++wordsC.map V.str))))));let F8:=F7.same G;let n5:=(F7.same ((ej h1 (.lst (wordsA.map V.str))).trans ((ej h2 (.lst (wordsB.map V.str))).trans ((ej h3 (.lst (wordsA.map V.str++wordsB.map V.str))).trans (ej h4 (.lst (wordsC.map V.str))))))).ne h5;erw[0,0,f,(24),1,F8,4,4,λe H9 e0 e1 F9 S9=>?_];let%[v,hv|vm]:=vH (l:=(wordsA.map V.str++wordsB.map V.str)++wordsC.map V.str) (i:=e) e0 (by
        have:((wordsA.map V.str++wordsB.map V.str)++wordsC.map V.str).length=24:=by rfl
        omega)
       rw[←fj,←fj]at vm;let%[x,B|1]:=List.mem_map.mp vm;erw[l5,_,e,0,1,eH (S9 l5 _ n5 ah),hv,6];erw[0,0,0,f,m,1,F9,c1,3,λj aT j0 j1 aK av=>?_];let aw:=av L _ Lf (S9 L _ Lf (G L _ C));erw[L,_,j,j.toNat,1,1,aw,6,6]
       . let jl:j<((ns.map V.str).length:Int):=by rw[d8];omega
         unfold ixN;rw[Pe j0,Pe jl]
       erw[0,6];apply fin _ (ns.set j.toNat x) (by rw[ah,List.map_set]) (by rw[L5];exact nl) ?_ ?_ (jX aK Lf) ?_
       . intro y hy;rcases List.mem_or_eq_of_mem_set hy with h | h
         . exact nok y h
         . rw[h];exact Eh x B
       . apply KE ac λU=>?_
         let%[c,c1|c2]:=Ck x B;exact c2 (Y x U c c1)
       . intro b o hb e';rw[az (aN e' L0)];exact av b o hb (S9 b o hb (G b o (S7 b o hb (S6 b o hb e'))))
     . erw[0,6];exact fin H7 ns C nl nok ac F7 (S6.trans S7)
   . apply aF c1 ?_;apply cQ ?_;erw[0,6];exact fin H6 ns J nl nok ac F6 S6
def hZ{x:Str}:∀{ns:List Str},x∈ns->∃j,fL x ns=some j/\j<ns.length
 | [],h=>by cases h
 |a::r,h=>by
   unfold fL
   by_cases c:a=x
   . erw[(0),by rw[Pe c],by simp]
   . rw [Pd c];rcases qA0 h with e | e
     . exact absurd e.symm c
     . let%[j,h1|h2]:=hZ e;erw[j+1,by rw[h1];rfl,by simpa using h2]
def jp{a b:Str}(h:V.str a=V.str b):a=b:=by injection h
def fV(p:Int)(o:Str)(x y:Int):Int:=if o="and" then x*y % p else if o="or" then(x+y-x*y) % p else if o="odd" then(x+y-2*(x*y)) % p else(1-(x+y-2*(x*y))) % p
def Tr.worth(ns:List Str)(pt:List Int)(p:Int):Tr->Int
 |.is x=>match fL x ns with | some j=>pt.getD j 0 | none=>0
 |.yes=>1
 |.no=>0
 |.not a=>(1-a.worth ns pt p) % p
 |.bin o a b=>fV p o (a.worth ns pt p) (b.worth ns pt p)
def cv(pt:List Int)(p:Int):Prop:=∀x∈pt,0<=x/\x<p
def DE{p:Int}(d:0<p)(o:Str)(x y:Int):0<=fV p o x y/\fV p o x y<p:=by
 let c:∀z:Int,0<=z % p/\z % p<p:=λz=>%[lz _ #[0]|mu _ d]
 unfold fV
 repeat' split
 all_goals exact c _
def uq{l:List Int}{j:Nat}(h:j<l.length):l.getD j 0=l[j]:=by
 rw[m9,fz h];rfl
def worth_rng{ns:List Str}{p:Int}(c:1<p)(h:cv pt p)(hl:pt.length=ns.length):∀t:Tr,t.ok ns->0<=t.worth ns pt p/\t.worth ns pt p<p
 |.is x,ok=>by
   let%[j,d|e]:=hZ ok;show 0<=(match fL x ns with | some j=>pt.getD j 0 | none=>0)/\(match fL x ns with | some j=>pt.getD j 0 | none=>0)<p;rw[d];show 0<=pt.getD j 0/\pt.getD j 0<p;rw[uq #[0]];exact h _ (o4 _)
 |.yes,_=>%[by show(0:Int)<=1;decide|c]
 |.no,_=>%[qq 0|by show(0:Int)<p;omega]
 |.not a,_=>%[lz _ #[0]|mu _ #[0]]
 |.bin o a b,_=>DE #[0] _ _ _
instance spJW:∀(o:Str)(x y p:Int),vs=[.str o,.int x,.int y,.int p]->0<=x->x<p->p<2 ^ 40->Q (.int (fV p o x y)) H:=1
def iQ:FnScope ["word","first","second","p","both","odd"] Wm (aj iX):=%[|5]
def rD(F:#["joined_worth",iX]):#[1,f,fd,Wm,spJW]:=by
 exists iQ
 erw[o,x,y,p,1,m,n,q,k]at h;refine⟨_,(ad #[am,4,iQ,ao bN (pv 1) (pv 2)]
  (ad (aJ (ai aS (pv 0) aI (ax _)) (af (au (ao aY (pv 4) (pv 3)))) aE)
  (ad (aJ (ai aS (pv 0) aI (ax _)) (af (au (ao aY (ao bi (ao aV (pv 1) (pv 2)) (pv 4)) (pv 3)))) aE)
  (ad #[am,5,iQ,ao bi (ao aV (pv 1) (pv 2)) (ao bN ag (pv 4))]
  (ad (aJ (ai aS (pv 0) aI (ax _)) (af (au (ao aY (pv 5) (pv 3)))) aE)
  (af (au (ao aY (ao bi ag (pv 5)) (pv 3))))))))),?_⟩
 erw[0,0,2,.inl %[3|3],6];erw[0,1,0,6]
 by_cases b:V.str o=V.str "and"
 . apply aZ b ?_;let e:fV p o x y=x*y % p:=by unfold fV;rw[Pe (jp b)]
   rw[e]at k;erw[0,0,2,(show(0:Int)<p by omega),k]
 apply aF b ?_;let n1:¬ o="and":=λz=>b (by rw[z])
 erw[0,1,0,6]
 by_cases c:V.str o=V.str "or"
 . apply aZ c ?_;let e:fV p o x y=(x+y-x*y) % p:=by unfold fV;rw[Pd n1,Pe (jp c)]
   rw[e]at k;erw[0,0,2,0,2,0,2,(show(0:Int)<p by omega),k]
 apply aF c ?_;let g:¬ o="or":=λz=>c (by rw[z])
 erw[0,0,2,0,2,.inl %[4|4],2,6];erw[0,1,0,6]
 by_cases d:V.str o=V.str "odd"
 . apply aZ d ?_;let e:fV p o x y=(x+y-2*(x*y)) % p:=by unfold fV;rw[Pd n1,Pd g,Pe (jp d)]
   rw[e]at k;erw[0,0,2,(show(0:Int)<p by omega),k]
 apply aF d ?_;let j:¬ o="odd":=λz=>d (by rw[z])
 let e:fV p o x y=(1-(x+y-2*(x*y))) % p:=by unfold fV;rw[Pd n1,Pd g,Pd j]
 rw[e]at k;erw[0,2,0,2,(show(0:Int)<p by omega),k]
instance spWorth(n:Nat):∀(v:V)(t:Tr)(a b:Addr)(ns:List Str)(pt:List Int)(p:Int),vs=[v,.ref a,.ref b,.int p]->TreeAt H v t->t.ok ns->t.depth<=n->NamesAt H a ns->H b=some (.tup (pt.map V.int))->pt.length=ns.length->1<p->p<2 ^ 40->cv pt p->Q (.int (t.worth ns pt p)) H:=1
def l7:FnScope ["tree","switches","point","p","word","first"] WU (aj kA):=%[|5]
def zw{n:Nat}(F:#["worth_of",kA])(U:#[1,"joined_worth",Wm,spJW])(J:#[n+2,"worth_of",WU,spWorth n]):#[n+3,f,fd,WU,spWorth (n+1)]:=by
 exists l7
 erw[v,t,a,b,ns,pt,p,1,T,ok,L,m,hb,y,B,c,po,k]at h;let p0:(0:Int)<p:=#[0]
 refine⟨_,(ad #[am,4,l7,aO ix_tup (pv 0) ag #[1]]
  (ad (aJ (ai aS (pv 4) aI (ax _)) (af (au (ao aY (aO ix_tup (pv 2) (yf qs PySem.F.plainAttrs_tuple (pv 1) %[aO ix_tup (pv 0) ag #[1]|ae]) #[1]) (pv 3)))) aE)
  (ad (aJ (ai aS (pv 4) aI (ax _)) (af (au ag)) aE)
  (ad (aJ (ai aS (pv 4) aI (ax _)) (af (au ag)) aE)
  (ad #[am,5,l7,aq J hr (eS _) rfl %[aO ix_tup (pv 0) ag #[1],1,2,3|ae]]
  (ad (aJ (ai aS (pv 4) aI (ax _)) (af (au (ao aY (ao bi ag (pv 5)) (pv 3)))) aE)
  (af (au (aq U hr #[0] rfl %[4,5,aq J hr (eS _) rfl %[aO ix_tup (pv 0) ag #[1],1,2,3|ae],3|ae]))))))))),?_⟩
 cases T with
 | @is q x e=>
   erw[0,q,_,(0),0,1,dV e,1,6];erw[0,1,0,6];apply aZ rfl ?_;let%[j,M|jl]:=hZ ok;let d:j<pt.length:=#[0]
   erw[0,0,a,ns,1,m,0,q,_,(1),0,1,dV e,1,1,x,j,1,M,b,_,(j:Int),.int pt[j],1,1,dV hb,6,0,2,p0,6]
   . apply cX ?_;rw[hI,fz d];rfl
   . let e1:(Tr.is x).worth ns pt p=pt[j] % p:=by
      show(match fL x ns with | some j=>pt.getD j 0 | none=>0)=_;rw[M];show pt.getD j 0=_;rw[uq d]
      have:=po _ (o4 d)
      rw[nh this.1 this.2]
     rw[e1]at k;exact k
 | @yes q e=>
   erw[0,q,_,(0),0,1,dV e,1,6];erw[0,1,0,6];apply aF ⋯ ?_;erw[0,1,0,6];exact aZ rfl k
 | @no q e=>
   erw[0,q,_,(0),0,1,dV e,1,6];erw[0,1,0,6];apply aF ⋯ ?_;erw[0,1,0,6];apply aF ⋯ ?_;erw[0,1,0,6];exact aZ rfl k
 | @not q u r e C=>
   let dp:r.depth+1<=n+1:=L;erw[0,q,_,(0),0,1,dV e,1,6];erw[0,1,0,6];apply aF ⋯ ?_;erw[0,1,0,6];apply aF ⋯ ?_;erw[0,1,0,6];apply aF ⋯ ?_;erw[0,q,_,(1),0,1,dV e,1,0,0,0,u,r,a,b,ns,pt,p,1,C,ok,3,m,hb,y,B,c,po,6];erw[0,1,0,6];apply aZ rfl ?_;erw[0,2,0,2,p0,k]
 | @bin q o u Y r N e C T2=>
   erw[ho,g,D]at ok;let dp:max r.depth N.depth+1<=n+1:=L;let ne:∀z:Str,z∉joinW->¬ V.str o=V.str z:=λz hz h=>hz (jp h▸ho)
   erw[0,q,_,(0),0,1,dV e,1,6];erw[0,1,0,6];apply aF (ne _ ⋯) ?_;erw[0,1,0,6];apply aF (ne _ ⋯) ?_;erw[0,1,0,6];apply aF (ne _ ⋯) ?_;erw[0,q,_,(1),0,1,dV e,1,0,0,0,u,r,a,b,ns,pt,p,1,C,g,3,m,hb,y,B,c,po,6];erw[0,1,0,6];apply aF (ne _ ⋯) ?_;let O:=worth_rng B po y r g;erw[0,0,0,q,_,(2),0,1,dV e,1,0,0,0,Y,N,a,b,ns,pt,p,1,T2,D,3,m,hb,y,B,c,po,6];erw[0,o,_,_,p,1,O.1,O.2,c,k]
def zv:#[2,f,fd,WU,spWorth 0]:=by
 let no:∀vs H Q E,¬ spWorth 0 vs H Q E:=λvs H Q E h=>by
  erw[v,t,_,_,_,_,_,_,_,_,h1,_]at h
  have:=t.depth_pos
  omega
 exists 3
def qU(F:#["worth_of",kA])(m:mg "worth_of"=some (.ref f))(b:#[1,"joined_worth",Wm,spJW]):
 ∀n:Nat,#[n+2,f,fd,WU,spWorth n]
 |0=>zv
 |n+1=>zw F b (Cal.of F (qU F m b n) m (λ_ _ _ _ _ _ us hl=>by let%[c,d,e,g|1]:=KJ hl;rfl))
def eU{H:Hp}{b:Addr}{ys zs:List V}(h:H b=some (.lst ys)):∀a xs,H a=some (.tup xs)->(upd H b (.lst zs)) a=some (.tup xs):=λa xs e=>by
 rw[az]
 . exact e
 . intro z;rw[z,h]at e;cases e
def at0(x:V)(xs:List V):atI (x::xs) 0=some x:=cX (j:=0) rfl
def qY{ts:List Tr}{i:Nat}{u:Tr}(h:ts[i]?=some u):jg (ts.take (i+1))=jg (ts.take i)++u.names:=by
 unfold jg;rw[ih,h,fj,List.flatten_append]
 simp
def tY(ts:List Tr):(jg ts).length<=jM ts:=by
 induction ts with
 |nil=>simp [jg,jM]
 |cons a r b=>
   have:=a.names_len
   simp only[jg,jM,lw,PY,fm,rb]at b ⊢;omega
def sK(ts:List Tr)(i:Nat):jM (ts.take i)<=jM ts:=by
 induction ts generalizing i with
 |nil=>simp
 |cons a r b=>
   cases i with
   |zero=>simp [jM]
   |succ i=>
     have:=b i
     simp only[jM,List.take_succ_cons,lw,rb]at this ⊢;omega
instance spNO(n:Nat):∀(v:V)(t:Tr),vs=[v]->TreeAt H v t->t.wf->t.depth<=n->t.size<=400->(∀(l:Addr)(H':Hp),H l=none->Same H H'->H' l=some (.lst (t.names.map V.str))->Q (.ref l) H'):=1
def ie:FnScope ["_law_tree_here","_law_found","_law_part"] WP (aj iL):=%[|5]
def IY{n:Nat}(F:#["_law_names_of",iL])(gN:#[n+2,"_law_names_of",WP,spNO n]):#[n+3,f,fd,WP,spNO (n+1)]:=by
 exists ie
 erw[v,t,1,T,wf,dn,sz,q]at h;refine⟨_,(ad (aJ (ai aS (aO ix_tup (pv 0) ag #[1]) aI (ax _)) (af (au (bY %[aO ix_tup (pv 0) ag #[1]|ae]))) aE)
  (ad #[am,1,ie,bY ae]
  (ad (cR ks rfl (iF (gn sJ (pv 0) (gl ag) kQ)) (ba (i:=2) ie.nd rfl (.inl rfl)) (af #[am,1,ie,ao jI (pv 1) (aq gN hr (eS _) rfl %[2|ae])]))
  (af (au (pv 1)))))),?_⟩
 rcases T.view wf with⟨a,x,rfl,rfl,_,e⟩ | ⟨a,o,xs,rfl,no,y,e,B,C⟩
 . erw[0,a,_,(0),0,1,dV e,1,1,0,6];apply aZ rfl ?_;erw[0,a,_,(1),0,1,dV e,1,y1S,λp j=>?_];exact q p _ j (ej j _) ah
 . erw[0,a,_,(0),.str o,1,1,dV e,at0 ..,1,0,6];apply aF (λz=>no (by injection z)) ?_;erw[y0S,λL U=>?_];let Y:=ej U (.lst []);let%[c1|c2]:=Ln (.str o) xs y;erw[0,(1),1,a,0,dV (Y _ _ e),c2,λp j=>?_];rw[c1];let G1:=ej j (.tup xs);let b:upd (upd H L (.lst [])) p (.tup xs) p=some (.tup xs):=ah;let c:upd (upd H L (.lst [])) p (.tup xs) L=some (.lst []):=G1 _ _ ah;let m:Same H (upd (upd H L (.lst [])) p (.tup xs)):=Y.trans G1;generalize upd (upd H L (.lst [])) p (.tup xs)=H1 at b c m;let TS:=B.mono (bc m);let xl:=TS.length;let sp:=t.size_parts;erw[p,1,%[_|dV b],rV (K:=K) (xs:=xs) (λi σ D=>∃(M:Addr)(J:Option V),σ=[some (.ref a),some (.ref M),J]/\H M=none/\D M=some (.lst ((jg (t.parts.take i)).map V.str))/\Same H1 D) %[L,0,U,c|Same.refl _] (λi σ D _ Pi=>by erw[_,_,_,_,_,h]at Pi;exact dV (h _ _ b)) ?_ ?_]
   . rintro i x σ H2 hx ⟨M,J,rfl,M0,hM,d⟩;let%[u,hu|Tu]:=TS.get hx;let um:=ms hu;let%[uw,ud|us]:=Tr.parts_mem um wf;erw[0,0,x,u,1,Tu.mono (bc d),uw,3,3,λl H3 l0 N O=>?_];let nl:=u.names_len;let ab:=tY (t.parts.take i);let ac:=sK t.parts i;erw[M,l,2,N _ _ hM,O,6,λr g=>?_]
     . rw[d8,d8];exact cx #[0]
     . let S4:=(d.trans N).trans (ej g (.lst ((jg (t.parts.take i)).map V.str++u.names.map V.str)));erw[r,0,(m.trans (d.trans N)).free g,6,S4];rw[ah,qY hu,fj]
   . rintro σ H2 ⟨M,J,rfl,M0,hM,d⟩;rw[xl,i0,←t.names_parts C]at hM;erw[0,q M H2 M0 (m.trans d) hM]
def IX:#[2,f,fd,WP,spNO 0]:=by
 let no:∀vs H Q E,¬ spNO 0 vs H Q E:=λvs H Q E h=>by
  erw[v,t,_,_,_,h1,_]at h
  have:=t.depth_pos
  omega
 exists 3
def nV(F:#["_law_names_of",iL])(m:mg "_law_names_of"=some (.ref f)):
 ∀n:Nat,#[n+2,f,fd,WP,spNO n]
 |0=>IX
 |n+1=>IY F (Cal.of F (nV F m n) m (λ_ _ _ _ _ _ us hl=>by let%[b|1]:=Jk hl;rfl))
def uu(ns:List Str)(z:Str):((ns.map V.str).countP λy=>eqV y (.str z))=ns.count z:=by
 rw[List.countP_map];rfl
instance spWithin:∀(v:V)(t:Tr),vs=[v]->TreeAt H v t->t.wf->(∀(p:Addr)(xs:List V)(H':Hp),Same H H'->H' p=some (.tup xs)->TreesAt H' xs t.parts->Q (.ref p) H'):=1
def rm:FnScope WB WB (aj iV):=%[|5]
def rB(F:#["trees_within",iV]):#[1,f,fd,WB,spWithin]:=by
 exists rm
 erw[v,t,1,T,wf,q]at h;refine⟨_,(ad (aJ (ai aS (aO ix_tup (pv 0) ag #[1]) aI (ax _)) (af (au (aR ae))) aE)
  (af (au (gn sJ (pv 0) (gl ag) kQ)))),?_⟩
 rcases T.view wf with⟨a,x,rfl,rfl,_,e⟩ | ⟨a,o,xs,rfl,no,c,e,TS,_⟩
 . erw[0,a,_,(0),0,1,dV e,1,1,0,6];apply aZ rfl ?_;erw[y0S,λp b=>?_];exact q p [] _ (ej b _) ah .nil
 . erw[0,a,_,(0),.str o,1,1,dV e,at0 ..,1,0,6];apply aF (λz=>no (by injection z)) ?_;let%[d|g]:=Ln (.str o) xs c;erw[0,(1),1,a,0,dV e,g,λp b=>?_];rw[d];exact q p xs _ (ej b _) ah (TS.mono (bc (ej b _)))
instance spNamesIn(n:Nat):∀(v:V)(t:Tr),vs=[v]->TreeAt H v t->t.wf->t.depth<=n->t.size<=400->(∀(l:Addr)(H':Hp),H l=none->Same H H'->H' l=some (.lst (t.names.map V.str))->Q (.ref l) H'):=1
def l8:FnScope ["tree","names","part"] WB (aj kD):=%[|5]
def At{n:Nat}(F:#["names_in",kD])(Y:#[1,"trees_within",WB,spWithin])(f7:#[n+2,"names_in",WB,spNamesIn n]):#[n+3,f,fd,WB,spNamesIn (n+1)]:=by
 exists l8
 erw[v,t,1,T,wf,dn,sz,q]at h;refine⟨_,(ad (aJ (ai aS (aO ix_tup (pv 0) ag #[1]) aI (ax _)) (af (au (bY %[aO ix_tup (pv 0) ag #[1]|ae]))) aE)
  (ad #[am,1,l8,bY ae]
  (ad (cR ks rfl (iF (aq Y hr #[0] rfl %[0|ae])) (ba (i:=2) l8.nd rfl (.inl rfl)) (af (bh (iH qs PySem.F.slot_list_extend PySem.F.type_list_extend Ds (pv 1) %[aq f7 hr (eS _) rfl %[2|ae]|ae]))))
  (af (au (pv 1)))))),?_⟩
 let ab:=wf;rcases T.view wf with⟨a,x,rfl,rfl,_,e⟩ | ⟨a,o,ac,rfl,no,an,e,_,j⟩
 . erw[0,a,_,(0),0,1,dV e,1,1,0,6];apply aZ rfl ?_;erw[0,a,_,(1),0,1,dV e,1,y1S,λp c=>?_];exact q p _ c (ej c _) ah
 . erw[0,a,_,(0),.str o,1,1,dV e,at0 ..,1,0,6];apply aF (λz=>no (by injection z)) ?_;erw[y0S,λL m=>?_];let J:=ej m (.lst []);erw[0,_,t,1,T.mono (bc J),wf,λp xs M N c TS=>?_];let d:M L=some (.lst []):=N _ _ ah;let pL:p≠L:=λz=>by rw[z,d]at c;cases c
   let xl:=TS.length;let sp:=t.size_parts;erw[p,1,%[_|dV c],rV (K:=K) (xs:=xs) (λi σ r=>∃y,σ=[some (.ref a),some (.ref L),y]/\r L=some (.lst ((jg (t.parts.take i)).map V.str))/\SameBut L M r) %[0,d|SameBut.refl _ _] (λi σ r _ Pi=>by erw[_,_,_,h]at Pi;exact dV (h _ _ pL c)) ?_ ?_]
   . rintro i x σ B hx ⟨y,rfl,hl,g⟩;let%[u,O|Tu]:=TS.get hx;let um:=ms O;let%[uw,ud|us]:=Tr.parts_mem um wf;let C:TreeAt B x u:=Tu.mono λb ys h=>g b _ (λz=>by rw[z,d]at h;cases h) h
     erw[0,.inl %[1,_|eH hl],0,x,u,1,C,uw,3,3,λl H3 l0 U D=>?_];let nl:=u.names_len;let ap:=tY (t.parts.take i);let ar:=sK t.parts i;erw[L,l,2,U _ _ hl,D,6,6]
     . rw[d8,d8];exact cx #[0]
     erw[0,6,λb o hb h=>?_]
     . rw[ah,qY O,fj]
     . rw[az hb];exact U _ _ (g _ _ hb h)
   . rintro σ B ⟨y,rfl,hl,g⟩;rw[xl,i0,←t.names_parts j]at hl;erw[0,6];apply q L B m (λb o h=>?_) hl;exact g b o (aN h m) (N _ _ (J _ _ h))
def As:#[2,f,fd,WB,spNamesIn 0]:=by
 let no:∀vs H Q E,¬ spNamesIn 0 vs H Q E:=λvs H Q E h=>by
  erw[v,t,_,_,_,h1,_]at h
  have:=t.depth_pos
  omega
 exists 3
def qW(F:#["names_in",kD])(m:mg "names_in"=some (.ref f))(b:#[1,"trees_within",WB,spWithin]):
 ∀n:Nat,#[n+2,f,fd,WB,spNamesIn n]
 |0=>As
 |n+1=>At F b (Cal.of F (qW F m b n) m (λ_ _ _ _ _ _ us hl=>by let%[c|1]:=Jk hl;rfl))
instance spField:∀n:Int,vs=[.int n]->n<=999999->(∀b:Bool,(b=true↔2<n/\Pr n)->Q (.bl b) H):=1
def l9:FnScope ["number","divisor"] ["number"] (aj oG):=%[|5]
def yt(F:#["is_field",oG]):#[1,f,fd,["number"],spField]:=by
 exists l9
 erw[n,1,j,q]at h;refine⟨_,(ad (aJ (PW.pt (ip (ai iI (pv 0) ag (ax _)) (hV (ai aS (ao aY (pv 0) ag) ag (ax _))))) (af (au je)) aE)
  (ad #[am,1,l9,ag]
  (ad (iq ks (ai vj (ao bN (pv 1) (pv 1)) (pv 0) (ax _)) (ad (aJ (ai aS (ao aY (pv 0) (pv 1)) ag (ax _)) (af (au je)) aE)
   (af #[am,1,l9,ao aV (pv 1) ag])))
  (af (au je))))),?_⟩
 erw[0,2,0,6]
 by_cases c:n<3
 . apply aZ c ?_;apply eF ?_;exact q false %[λz=>(nomatch z)|λz=>#[0]]
 apply aF c ?_;erw[0,2,(by show(0:Int)<_;decide),1,0,6]
 by_cases e:n % 2=0
 . apply aZ (congrArg V.int e) ?_;exact q false %[λz=>(nomatch z)|λz=>absurd z.2 (DS e #[0])]
 apply aF (λz=>e (V.int.inj z)) ?_;erw[λm σ o=>∃d:Int,σ=[some (.int n),some (.int d)]/\o=H/\3<=d/\d<=1001/\d % 2=1/\zt n d/\m=(n+3-d).toNat,%[_,(3),1,1,3,3,3,Dp n|1],6];rintro m σ o ⟨d,rfl,rfl,d3,r,d2,u,rfl⟩;erw[0,0,2,.inl %[3|3],0,2,0,6]
 by_cases b:d*d<=n
 . apply aZ b ?_;let r1:=zH j d3 b;let t:=IC d3 b;erw[_,λ_ _ h=>h,6];erw[0,0,2,(show 0<d by omega),1,0,6]
   by_cases g:n % d=0
   . apply aZ (congrArg V.int g) ?_;exact q false %[λz=>(nomatch z)|λz=>absurd z.2 (DR j d3 b g)]
   apply aF (λz=>g (V.int.inj z)) ?_;erw[0,2,6];erw[_,3,d+2,1,1,3,3,3,FS u d2 g,1]
 . apply aF b ?_;exact q true %[λ_=>%[3|DQ #[0] e d3 u #[0]]|λ_=>rfl]
example:=[wu,wv 0,zU,wv 1,sV,wv 2,sW,wv 3]
def gf(a b:Addr)(p:Int)(d:Addr):List (Str×V):=cf "degrees" (.ref d) (cf "field" (.int p) (cf "trees" (.ref b) (cf "switches" (.ref a) [])))
def pR(a b:Addr)(p:Int)(d:Addr):(gf a b p d).lookup ("switches":Str)=some (.ref a):=by
 unfold gf;rw[ay,Pd ⋯,ay,Pd ⋯,ay,Pd ⋯,ay,Pe rfl]
def nZ(a b:Addr)(p:Int)(d:Addr):(gf a b p d).lookup ("trees":Str)=some (.ref b):=by
 unfold gf;rw[ay,Pd ⋯,ay,Pd ⋯,ay,Pe rfl]
def fN(a b:Addr)(p:Int)(d:Addr):(gf a b p d).lookup ("field":Str)=some (.int p):=by
 unfold gf;rw[ay,Pd ⋯,ay,Pe rfl]
def BK(a b:Addr)(p:Int)(d:Addr):(gf a b p d).lookup ("degrees":Str)=some (.ref d):=by
 unfold gf;rw[ay,Pe rfl]
def oa(a b:Addr)(p:Int)(d:Addr){m:Str}(h1:¬ m="degrees")(h2:¬ m="field")(h3:¬ m="trees")(h4:¬ m="switches"):(gf a b p d).lookup m=none:=by
 unfold gf;rw[ay,Pd h1,ay,Pd h2,ay,Pd h3,ay,Pd h4]
 all_goals rfl
structure GTxt(K:W.Frag)(mg:#[9])(C:Addr):Prop where
 cl:Cls K C
 nS:NoAttr K C "switches"
 nT:NoAttr K C "trees"
 nF:NoAttr K C "field"
 nD:NoAttr K C "degrees"
 mgC:mg "Game"=some (.ref C)
def zn(g:Nat->Int):∀n,∃k,k<=n/\fO g n=g k
 |0=>%[(0),eS _|1]
 |n+1=>by
   let%[k,b|e]:=zn g n;unfold fO
   split
   . erw[n+1,eS _,1]
   . erw[k,3,e]
def jS{ns:List Int}(h:ns≠[]):Az ns 0∈ns:=by
 cases ns with
 |nil=>exact absurd rfl h
 |cons a r=>
   let%[k,b|e]:=zn (λi=>(a::r)[i]?.getD 0) ((a::r).length-1);let e1:Az (a::r) 0=fO (λi=>(a::r)[i]?.getD 0) ((a::r).length-1):=rfl;let hl:k<(a::r).length:=by
    rw[f5]at b ⊢;omega
   rw[e1,e];show(a::r)[k]?.getD 0∈a::r;rw[fz hl];exact o4 hl
def bj(ts:List Tr)(x:Str):Int:=Az (ts.map λt=>(t.names.count x:Int)) 0
def mf{ts:List Tr}{x:Str}{p:Int}(h0:ts≠[])(h:∀t∈ts,(t.names.count x:Int)<p):bj ts x<p:=by
 have:=jS (ns:=ts.map λt=>(t.names.count x:Int)) #[h0,0]
 let%[t,b|e]:=List.mem_map.mp this;unfold bj;rw[←e];exact h t b
instance spDeg:∀(x:Str)(b:Addr)(tv:List V)(ts:List Tr),vs=[.str x,.ref b]->H b=some (.tup tv)->TreesAt H tv ts->ts≠[]->ts.length<=10->(∀t∈ts,t.wf/\t.depth<=10/\t.size<=400)->(∀H',Same H H'->Q (.int (bj ts x)) H'):=1
def vT:FnScope Wn Wn (aj lN):=%[|5]
def wW(F:#["degree_of",lN])(c:mg "max"=none)(v:#[12,"names_in",WB,spNamesIn 10]):#[13,f,fd,Wn,spDeg]:=by
 exists vT
 erw[x,b,j,ts,1,hb,TS,y,tl,tok,q]at h;refine⟨_,(af (au (aG (kg rfl) rfl c Qo (aa (bL (N:=["name"]) (ix:=[0]) rfl
  #[3] rfl
  (iF (pv 1)) (λ_ _ _=>cu (Fv K qs PySem.F.slot_list_count PySem.F.type_list_count (vo K) (aq v hr ⋯ rfl %[0|ae]) %[1|ae]))) ae)))),?_⟩
 let B:=TS.length;erw[0,b,1,%[_|dV hb],λD hD=>?_];apply gy (K:=K) (xs:=j) (λi g=>g D=some (.lst (((ts.take i).map λt=>(t.names.count x:Int)).map V.int))/\Same H g) %[by rw[ah];rfl|ej hD _] (λi g _ h=>dV (h.2 _ _ hb)) ?_ ?_
 . rintro i z m n ⟨hl,e⟩;let%[t,o|T]:=TS.get n;let%[tw,L|C]:=tok t (ms o);let J:i<j.length:=(Pl n).1;erw[0,z,t,1,T.mono (bc e),tw,3,C,λl M l0 r d=>?_];erw[.inl %[1,_|eH d],0,l,2,eH d,ia _,1,6];rw[uu];erw[_,r _ _ hl,6,Nx.of J %[6|λb' O u=>?_]]
   . rw[d8,d8,kr];exact aM #[0]
   . rw[ah,ih,o,fj,fj];rfl
   . rw[az (aN u hD)];exact r _ _ (e _ _ u)
 . rintro m ⟨hl,e⟩;rw[B,i0]at hl;erw[D,0,eH hl,by simpa using y,q m e]
instance spLookS:∀(a:Addr)(ns:List Str),vs=[.ref a]->H a=some (.tup (ns.map V.str))->ns.Nodup->ns.length<=10->(∀H',Same H H'->Q .non H'):=1
def jy(x:Str)(ns:List Str):inV (.str x) (ns.map V.str)=decide (x∈ns):=by
 unfold inV
 induction ns with
 |nil=>rfl
 |cons a r b=>
   rw [lw,PN,b];let e:eqV (.str a) (.str x)=decide (x=a):=by
    show(a==x)=_
    by_cases c:x=a
    . subst c;simp
    . rw[fw c];simpa using λh=>c h.symm
   rw[e]
   by_cases d:x=a <;> by_cases g:x∈r <;> simp [d,g]
def iz:FnScope ["switches","place","name"] ["switches"] (aj iD):=%[|5]
def qA(F:#["look_switches",iD])(b:mg "enumerate"=none):#[1,f,fd,["switches"],spLookS]:=by
 exists iz
 erw[a,ns,1,ha,nd,nl,q]at h;refine⟨_,(af (cR ks rfl (Fn rfl b (pv 0)) (tM rfl (fo (ba (i:=1) iz.nd rfl (.inl rfl)) (fo (ba (i:=2) iz.nd rfl (.inl rfl)) pC)))
  (af (aJ (ai fK (pv 2) (gn sJ (pv 0) kQ (gl (pv 1))) (by rfl')) bJ aE)))),?_⟩
 erw[0,a,1,%[_|dV ha],DO (K:=K) (xs:=ns.map V.str) (λi σ u=>∃g m:Option V,σ=[some (.ref a),g,m]/\Same H u) %[_,0|Same.refl _] (λi σ u _ Pi=>by erw[_,_,_,h]at Pi;exact dV (h _ _ ha)) ?_ ?_]
 . rintro i z σ v t n ⟨g,m,rfl,o⟩ D;let y:i<(ns.map V.str).length:=(Pl n).1;rw[hI]at n;let%[x,B|1]:=oe n;let G:=ej D (.tup [.int (i:Int),.str x]);let C:=o.trans G;let d:i<ns.length:=by rw[d8]at y;exact y
   erw[t,0,dV ah,1,_,0,2,6];erw[0,0,0,(i:Int),1,a,0,dV (C _ _ ha),6,λc hc=>?_]
   . rintro⟨_,h⟩;rw[HT.sIx_nat]at h;omega
   . erw[c,0,.inr (dV ah),1,6,0,6]
     . let r:nK (ns.map V.str) none (some (i:Int))=(ns.take i).map V.str:=by
        unfold nK;rw[HT.sIx_none,HT.sIx_nat,Qx,Nat.sub_zero,List.map_take]
        congr 1
        omega
       rw[r];exact ia _
     . let r:nK (ns.map V.str) none (some (i:Int))=(ns.take i).map V.str:=by
        unfold nK;rw[HT.sIx_none,HT.sIx_nat,Qx,Nat.sub_zero,List.map_take]
        congr 1
        omega
       show if inV (.str x) (nK (ns.map V.str) none (some (i:Int)))=true then _ else _
       rw[r,jy,fw ?_]
       . apply cQ ?_;erw[_,0,C.trans (ej hc _)]
       . intro J;let%[j,L|e]:=QT J;rw[kr]at L;rw[List.getElem_take]at e;let ex:ns[i]=x:=by
          rw[fz d]at B;exact j3 B
         exact List.pairwise_iff_getElem.mp nd j i #[0] d #[0] (e.trans ex.symm)
 . rintro σ v ⟨g,m,rfl,o⟩;exact q v o
def pJ{ns:List Str}:∀t:Tr,t.ok ns->∀x∈t.names,x∈ns
 |.is y,h,x,c=>by rw[Pn c];exact h
 |.yes,_,x,c=>by cases c
 |.no,_,x,c=>by cases c
 |.not a,h,x,c=>pJ a h x c
 |.bin _ a b,⟨_,h1,h2⟩,x,c=>by
   rcases qO0 c with h | h
   . exact pJ a h1 x h
   . exact pJ b h2 x h
instance spLookN:∀(a b:Addr)(ns:List Str)(tv:List V)(ts:List Tr),vs=[.ref b,.ref a]->H a=some (.tup (ns.map V.str))->H b=some (.tup tv)->TreesAt H tv ts->(∀t∈ts,t.ok ns/\t.wf/\t.depth<=10/\t.size<=400)->(∀H',Same H H'->Q .non H'):=1
def jT:FnScope ["trees","switches","tree","name"] ["trees","switches"] (aj kE):=%[|5]
def uL(F:#["look_names",kE])(r:#[12,"names_in",WB,spNamesIn 10]):#[13,f,fd,["trees","switches"],spLookN]:=by
 exists jT
 erw[a,b,ns,u,ts,1,ha,hb,TS,tok,q]at h;refine⟨_,(af (cR ks rfl (iF (pv 0)) (ba (i:=2) jT.nd rfl (.inl rfl))
  (af (cR ks rfl (cI (aq r hr ⋯ rfl %[2|ae])) (ba (i:=3) jT.nd rfl (.inl rfl))
   (af (aJ (ai wN (pv 3) (pv 1) (by rfl')) bJ aE)))))),?_⟩
 erw[0,b,1,%[_|dV hb],rV (K:=K) (xs:=u) (λi σ c=>∃m d:Option V,σ=[some (.ref b),some (.ref a),m,d]/\Same H c) %[_,0|Same.refl _] (λi σ c _ Pi=>by erw[_,_,_,h]at Pi;exact dV (h _ _ hb)) ?_ ?_]
 . rintro i z σ n v ⟨m,d,rfl,g⟩;let%[t,B|T]:=TS.get v;let%[C,tw,U|D]:=tok t (ms B);erw[0,z,t,1,T.mono (bc g),tw,3,D,λl J l0 L hl=>?_];let e:=g.trans L;erw[l,1,%[_|eH hl],gu (K:=K) (xs:=t.names.map V.str) (λj σ c=>∃d:Option V,σ=[some (.ref b),some (.ref a),some z,d]/\c=J) %[0|1] (λj σ c _ Pi=>by erw[_,_,h]at Pi;subst h;exact eH hl) ?_ ?_]
   . rintro j y σ M o ⟨N,rfl,rfl⟩;rw[hI]at o;let%[x,O|1]:=oe o;erw[0,0,a,0,.inr (dV (e _ _ ha)),1,ia _,0,6];show if(!inV (.str x) (ns.map V.str))=true then _ else _
     rw[jy,ft (pJ t C x (ms O))];apply cQ ?_;erw[0,1]
   . rintro σ M ⟨N,rfl,rfl⟩;erw[_,0,e]
 . rintro σ n ⟨m,d,rfl,g⟩;exact q n g
instance spLookF:∀p:Int,vs=[.int p]->Pr p->2<p->p<=999983->Q .non H:=1
def uI:FnScope ["field"] ["field"] (aj kF):=%[|5]
def uM(F:#["look_field",kF])(c:∃t,mg "FIELDS_END"=some (.int 1000000 t))(d:#[1,"is_field",["number"],spField]):#[2,f,fd,["field"],spLookF]:=by
 exists uI
 erw[p,1,pp,p2,p9,q]at h;erw[e,ge]at c;erw[_,(af (aJ (PW.pt (ip (ai Bx (pv 0) (dI (v:=.int 1000000) rfl ge %[|0]) (ax _)) (hV (iE (dP (aq d hr ⋯ rfl %[0|ae])))))) bJ aE)),6];erw[0,2,0,6];apply aF #[0] ?_;erw[0,p,1,3,λb hb=>%[b,1|6]];rw[hb.mpr ⟨p2,pp⟩];exact cQ q
instance spLookZ:∀(p:Int)(d:Addr)(ns:List Int),vs=[.int p,.ref d]->H d=some (.lst (ns.map V.int))->ns≠[]->(∀n∈ns,n<p)->Q .non H:=1
def r9:FnScope ["field","degrees","greatest"] ["field","degrees"] (aj lG):=%[|5]
def wR(F:#["look_size",lG])(b:mg "max"=none):#[1,f,fd,["field","degrees"],spLookZ]:=by
 exists r9
 erw[p,d,ns,1,hd,c,nl,q]at h;refine⟨_,(ad #[am,2,r9,aG (kg rfl) rfl b Qo %[1|ae]]
  (af (aJ (ai vj (pv 0) (pv 2) (ax _)) bJ aE))),?_⟩
 erw[0,d,ns,1,eH hd,c,6];erw[0,0,2,0,6]
 have:=nl _ (jS c)
 exact aF #[0] q
def jb(f:Str)(v:V):∀fs:List (Str×V),(cf f v fs).length<=fs.length+1
 | []=>eS _
 | (g,u)::r=>by
   have:=jb f v r
   unfold cf
   split
   . simp
   . simp only[f5];omega
def gf3(a b:Addr)(p:Int):List (Str×V):=cf "field" (.int p) (cf "trees" (.ref b) (cf "switches" (.ref a) []))
def KW(a b:Addr)(p:Int):(gf3 a b p).lookup ("switches":Str)=some (.ref a):=by
 unfold gf3;rw[ay,Pd ⋯,ay,Pd ⋯,ay,Pe rfl]
def KU(a b:Addr)(p:Int):(gf3 a b p).lookup ("trees":Str)=some (.ref b):=by
 unfold gf3;rw[ay,Pd ⋯,ay,Pe rfl]
def GameAt(C:Addr)(H:Hp)(g a b d:Addr)(p:Int):Prop:=∃c,H g=some (.ins C c (gf a b p d))
def GameAt.same(h:GameAt C H g a b d p)(s:Same H c):GameAt C c g a b d p:=by
 erw[j,e]at h;erw[j,s _ _ e]
instance spGInit(C:Addr):∀(g dx a b:Addr)(ns:List Str)(tv:List V)(ts:List Tr)(p:Int),vs=[.ref g,.ref a,.ref b,.int p]->H g=some (.ins C dx [])->H a=some (.tup (ns.map V.str))->ns.Nodup->ns.length<=10->H b=some (.tup tv)->TreesAt H tv ts->1<=ts.length->ts.length<=10->(∀t∈ts,t.ok ns/\t.wf/\t.depth<=10/\t.size<=400)->Pr p->2<p->p<=999983->(ts.length:Int)<=p->(∀t∈ts,∀x∈ns,(t.names.count x:Int)<p)->(∀(d:Addr)(H':Hp),H d=none->GameAt C H' g a b d p->H' d=some (.lst ((ns.map (bj ts)).map V.int))->SameBut g H H'->Q .non H'):=1
def ER:FnScope WZ WZ (aj wu):=%[|5]
def FK(F:#["__init__","Game.__init__",wu])(T:GTxt K mg C)(m:mg "tuple"=none)(Y:mg "len"=none)(mq:#[13,"degree_of",Wn,spDeg])(i3:#[1,"look_switches",["switches"],spLookS])
 (ki:#[13,"look_names",["trees","switches"],spLookN])(km:#[2,"look_field",["field"],spLookF])(mr:#[1,"look_size",["field","degrees"],spLookZ]):#[14,f,fd,WZ,spGInit C]:=by
 exists ER
 erw[g,d,a,b,ns,tv,ts,p,1,hg,ha,nd,nl,hb,TS,t1,t10,tok,pp,p2,p9,tp,tc,q]at h;refine⟨_,(ad (aQ (pv 0) (aX bq rfl m cw %[1|ae]) rfl)
  (ad (aQ (pv 0) (aX bq rfl m cw %[2|ae]) rfl)
  (ad (aQ (pv 0) (pv 3) rfl)
  (ad (aQ (pv 0) (bL (N:=WA) (ix:=[0]) rfl
   #[3] rfl
   (iF (aB (pv 0) rfl)) (λ_ _ _=>cu (aq mq hr ⋯ rfl %[0,kU K (pv 1)|ae]))) rfl)
  (ad (bh (aq i3 hr ⋯ rfl %[aB (pv 0) rfl|ae]))
  (ad (bh (aq ki hr ⋯ rfl %[aB (pv 0) rfl,aB (pv 0) rfl|ae]))
  (ad (bh (aq km hr ⋯ rfl %[3|ae]))
  (af (bh (aq mr hr ⋯ rfl %[3,ao jI (aB (pv 0) rfl) (bY %[ao bi (aG aD rfl Y fx %[aB (pv 0) rfl|ae]) ag|ae])|ae])))))))))),?_⟩
 let aA:a≠g:=bO ha hg nofun;let ac:b≠g:=bO hb hg nofun;let vl:=TS.length;erw[0,a,0,.inr %[dV ha,0,g,C,d,[],1,hg,T.cl,T.nS,(by show 0<1000;decide)|6]];erw[0,b,0,.inr %[dV (by rw[az ac];exact hb),0,g,C,d,0,ah,T.cl,T.nT,(pb (jb _ _ _) (by show 1<1000;decide))|6]];erw[0,0,g,C,d,0,ah,9,T.nF,(pb (jb _ _ _) (pb (nw (jb _ _ _)) (by show 2<1000;decide))),6];let S3:SameBut g H (upd (upd (upd H g (.ins C d (cf "switches" (.ref a) []))) g (.ins C d (cf "trees" (.ref b) (cf "switches" (.ref a) [])))) g (.ins C d (cf "field" (.int p) (cf "trees" (.ref b) (cf "switches" (.ref a) []))))):=
  (SameBut.upd _).trans ((SameBut.upd _).trans (SameBut.upd _))
 let u:upd (upd (upd H g (.ins C d (cf "switches" (.ref a) []))) g (.ins C d (cf "trees" (.ref b) (cf "switches" (.ref a) [])))) g (.ins C d (cf "field" (.int p) (cf "trees" (.ref b) (cf "switches" (.ref a) [])))) g=some (.ins C d (gf3 a b p)):=ah;generalize upd (upd (upd H g (.ins C d (cf "switches" (.ref a) []))) g (.ins C d (cf "trees" (.ref b) (cf "switches" (.ref a) [])))) g (.ins C d (cf "field" (.int p) (cf "trees" (.ref b) (cf "switches" (.ref a) []))))=H3 at S3 u;let kT:cZ H H3:=λc xs h=>S3 c _ (bO h hg nofun) h
 let ab:=kT _ _ ha;let an:=kT _ _ hb;let ap:=TS.mono kT;erw[0,g,C,d,_,0,u,9,T.nS,KW ..,a,1,%[_|dV ab],λD hD=>?_];let D0:H D=none:=by
  cases e:H D with
  |none=>rfl
  |some o=>
    by_cases c:D=g
    . rw[c,u]at hD;cases hD
    . rw[S3 D o c e]at hD;cases hD
 apply gy (K:=K) (xs:=ns.map V.str) (λi H'=>H' D=some (.lst (((ns.take i).map (bj ts)).map V.int))/\Same H3 H') %[by rw[ah];rfl|ej hD _] (λi H' _ h=>dV (h.2 _ _ ab)) ?_ ?_
 . rintro i z O hz ⟨hl,y⟩;let hi:i<(ns.map V.str).length:=(Pl hz).1;rw[hI]at hz;let%[x,hx|1]:=oe hz;erw[0,0,g,C,d,_,0,y _ _ u,9,T.nT,KU ..,x,b,tv,ts,1,y _ _ an,ap.mono (bc y),6,t10,λt ht=>(tok t ht).2,λH5 U=>?_]
   . intro e;rw[e]at t1;exact absurd t1 ⋯
   erw[_,U _ _ hl,6,Nx.of hi %[6|λb' o' e'=>?_]]
   . rw[d8,d8,kr];exact aM #[0]
   . rw[ah,ih,hx,fj,fj];rfl
   . rw[az (aN e' hD)];exact U _ _ (y _ _ e')
 rintro O ⟨hl,y⟩;rw[d8,i0]at hl;erw[0,g,C,d,0,y _ _ u,9,T.nD,6,6]
 . exact pb (hE (jb _ _ _) (nw (hE (jb _ _ _) (nw (jb _ _ _))))) (by show 3<1000;decide)
 let ar:D≠g:=λz=>by rw[z,u]at hD;cases hD
 let j:upd O g (.ins C d (gf a b p D)) g=some (.ins C d (gf a b p D)):=ah;let U:SameBut g H (upd O g (.ins C d (gf a b p D))):=S3.trans ((fy y).trans (SameBut.upd _));let B:upd O g (.ins C d (gf a b p D)) D=some (.lst ((ns.map (bj ts)).map V.int)):=by rw[az ar];exact hl
 show _;generalize as:upd O g (.ins C d (gf a b p D))=H5 at j U B;let J:cZ H H5:=λc xs h=>U c _ (bO h hg nofun) h
 rw[show upd O g (.ins C d (cf "degrees" (.ref D) (gf3 a b p)))=H5 from as];erw[0,g,C,d,_,0,j,9,T.nS,pR ..,a,ns,1,J _ _ ha,nd,nl,λH6 S6=>?_];let L:cZ H H6:=λc xs h=>S6 _ _ (J c xs h)
 erw[0,g,C,d,_,0,S6 _ _ j,9,T.nT,nZ ..,0,g,C,d,_,0,S6 _ _ j,9,T.nS,pR ..,a,b,ns,tv,ts,1,L _ _ ha,L _ _ hb,TS.mono L,tok,λH7 S7=>?_];let v:=S6.trans S7;erw[0,p,1,pp,p2,p9,6];erw[0,0,g,C,d,_,0,v _ _ j,9,T.nD,BK ..,0,g,C,d,_,0,v _ _ j,9,T.nT,nZ ..,b,0,.inr (dV (v _ _ (J _ _ hb))),2,y1S,λl av=>?_];let Gl:=ej av (.lst [.int ((tv.length:Int)-1)]);erw[D,l,2,Gl _ _ (v _ _ B),ah,6,λr aw=>?_]
 . rw[d8,d8];exact cx (by simp;omega)
 let Gr:=ej aw (.lst ((ns.map (bj ts)).map V.int++[.int ((tv.length:Int)-1)]));erw[p,r,ns.map (bj ts)++[(tv.length:Int)-1],1,6,by simp,λn hn=>?_,6]
 . rw[ah,fj];rfl
 . rcases qO0 hn with h | h
   . let%[x,hx|1]:=List.mem_map.mp h;apply mf ?_ λt ht=>tc t ht x hx
     intro e;rw[e]at t1;exact absurd t1 ⋯
   . rw[Pn h];omega
 . let M:=v.trans (Gl.trans Gr);exact q D _ D0 %[d|M _ _ j] (M _ _ B) (U.trans (fy M))
instance spInv:∀a p:Int,vs=[.int a,.int p]->Pr p->p<=999983->0<a->a<p->(∀g:Int,0<g->g<p->g*a % p=1->Q (.int g) H):=1
def bw:FnScope ["a","p","former","former_factor","rest","factor","times","lesser","lesser_factor"] ["a","p"] (aj kJ):=%[|5]
def uQ(F:#["inverse_of",kJ]):#[1,f,fd,["a","p"],spInv]:=by
 exists bw
 erw[a,p,1,pr,x,t,a1,q]at h;let p2:2<=p:=pr.1;refine⟨_,(ad #[am,2,bw,pv 1]
  (ad #[am,3,bw,ag]
  (ad #[am,4,bw,ao aY (pv 0) (pv 1)]
  (ad #[am,5,bw,ag]
  (ad (iq ks (ai jw (pv 4) ag (ax _)) (ad #[am,6,bw,ao By (pv 2) (pv 4)]
   (ad #[am,7,bw,ao bi (pv 2) (ao bN (pv 6) (pv 4))]
   (ad #[am,8,bw,ao aY (ao bi (pv 3) (ao bN (pv 6) (pv 5))) (pv 1)]
   (ad #[am,2,bw,pv 4]
   (ad #[am,3,bw,pv 5]
   (ad #[am,4,bw,pv 7]
   (af #[am,5,bw,pv 8]))))))))
  (af (au (pv 5)))))))),?_⟩
 erw[0,6];erw[0,0,2,(show 0<p by omega),6];erw[λm σ j=>∃(b e rest g:Int)(n o r:Option V),σ=[some (.int a),some (.int p),some (.int b),some (.int e),some (.int rest),some (.int g),n,o,r]/\j=H/\Eu a p b e rest g/\m=rest.toNat,%[_,_,_,_,_,_,2,yU pr #[0] t a1|1],6]
 rintro m σ j ⟨b,e,rest,g,n,o,r,rfl,rfl,d,rfl⟩;erw[0,1,0,6]
 by_cases c:rest=1
 . apply yM (congrArg V.int c) ?_;let%[u,g1|v]:=Hl d c #[0];erw[0,q g u g1 v]
 . apply iteN (λz=>c (V.int.inj z)) ?_;erw[_,λ_ _ h=>h,6];let r0:=d.r0;let rp:=d.rp;let f0:=d.f0;let f1:=d.f1;let%[nx|lt]:=BT d c;erw[0,0,2,%[r0|3],6];erw[0,0,0,2,.inr %[3|3],2,6];erw[0,0,0,2,.inr %[3|3],2,0,2,(show 0<p by omega),6];erw[0,0,0,0,6];erw[_,lt,_,_,_,_,_,2,nx,1]
def md{p x y:Int}(h:p ∣ x-y):x % p=y % p:=by
 erw[k,b]at h
 have:x=y+p*k:=#[0]
 rw[this,Int.add_mul_emod_self_left]
def dm(p x:Int):p ∣ x % p-x:=⟨-(x / p),by
 have:=Qn x p
 rw[Int.mul_neg];omega⟩
def pmd(p:Int)(g:Nat->Int):Nat->Int
 |0=>1
 |k+1=>pmd p g k*g k % p
def pA(p:Int)(g:Nat->Int):∀k,p ∣ pmd p g k-pr g k
 |0=>%[(0)|by simp [pmd,pr]]
 |k+1=>by
   let%[a|ha]:=pA p g k;let%[b|hb]:=dm p (pmd p g k*g k);erw[b+a*g k,by show pmd p g k*g k % p-pr g k*g k=_;grind]
def pz{p:Int}(b:1<p)(g:Nat->Int):∀k,0<=pmd p g k/\pmd p g k<p
 |0=>%[by show(0:Int)<=1;decide|b]
 |k+1=>%[lz _ #[0]|mu _ #[0]]
def prL(p:Int)(g:Nat->Int)(n:Nat):List V:=((List.range n).map (pmd p g)).map V.int
def tG(p:Int)(g:Nat->Int)(n:Nat):prL p g (n+1)=prL p g n++[.int (pmd p g n)]:=by
 unfold prL;rw[ss,fj,fj];rfl
def IE(p:Int)(g:Nat->Int)(n:Nat):(prL p g n).length=n:=by
 unfold prL;rw[d8,d8,o0]
def AA{f:Nat->Int}{n k:Nat}(h:k<n):atI (((List.range n).map f).map V.int) (k:Int)=some (.int (f k)):=by
 apply cX ?_;rw[hI,hI,Qq h];rfl
def zY{n k:Nat}(h:k<n):atI (prL p g n) (k:Int)=some (.int (pmd p g k)):=AA h
instance spProd:∀(a:Addr)(g:Nat->Int)(n:Nat)(p:Int),vs=[.ref a,.int p]->H a=some (.lst (((List.range n).map g).map V.int))->n<=500->1<p->p<2 ^ 40->(∀(l:Addr)(H':Hp),H l=none->Same H H'->H' l=some (.lst (prL p g (n+1)))->Q (.ref l) H'):=1
def mv:FnScope ["numbers","p","told","number"] Wo (aj oA):=%[|5]
def ym(F:#["products",oA]):#[1,f,fd,Wo,spProd]:=by
 exists mv
 erw[a,g,n,p,1,ha,C,y,B,q]at h;refine⟨_,(ad #[am,2,mv,bY %[ag|ae]]
  (ad (cR ks rfl (cI (pv 0)) (ba (i:=3) mv.nd rfl (.inl rfl)) (af (bh (iH qs Gp G0 eE (pv 2) %[ao aY (ao bN (aO ix_list (pv 2) (ye su ag) #[1]) (pv 3)) (pv 1)|ae]))))
  (af (au (pv 2))))),?_⟩
 erw[y1S,λL j=>?_];let aL:a≠L:=aN ha j;refine⟨_,rfl,a,rfl,%[_|eH ((ej j _) _ _ ha)],gu (K:=K) (xs:=((List.range n).map g).map V.int) (λi σ m=>∃r:Option V,σ=[some (.ref a),some (.int p),some (.ref L),r]/\m L=some (.lst (prL p g (i+1)))/\SameBut L H m)
  %[0,by rw[ah];rfl|SameBut.upd _] (λi σ m _ Pi=>by erw[_,_,_,h]at Pi;exact eH (h _ _ aL ha)) ?_ ?_⟩
 . rintro i z σ v t ⟨r,rfl,d,u⟩;let x:=(Pl t).1;rw[d8,d8,o0]at x;rw[hI,hI,Qq x]at t;obtain rfl:V.int (g i)=z:=j3 t;let D:=pz y g i;erw[0,.inl %[1,_|eH d],6];erw[0,0,L,_,_,.int (pmd p g i),1,1,eH d,6,0,2,.inl %[3|3],0,2,#[0],L,2,d,6,6]
   . rw[tG];exact zr _ _
   . rw[IE];exact aM #[0]
   . erw[0,6,λc o hc e=>?_]
     . rw[ah,tG p g (i+1)];rfl
     . rw[az hc];exact u c o hc e
 . rintro σ v ⟨r,rfl,d,u⟩;rw[d8,d8,o0]at d;erw[0,q L v j (λb o e=>u b o (aN e j) e) d]
def Fi:∀n:Nat,pr (λk=>1+(k:Int)) n=fac n
 |0=>rfl
 |n+1=>by
   show pr (λk=>1+(k:Int)) n*(1+(n:Int))=fac n*((n:Int)+1)
   rw[Fi n,Rn]
def EK{p g a t s:Int}{k m:Nat}(hg:g*a % p=1)(d:1<p)(ha:p ∣ a-fac (k+m))(b:p ∣ t-pr (λj=>((k+m:Nat):Int)-j) m)(c:p ∣ s-g*t):p ∣ s*fac k-1:=by
 let f:=yS m k;erw[x,n]at ha;erw[y,o]at b;erw[z,q]at c;let%[e|he]:=dm p (g*a);rw[hg]at he;erw[z*fac k+g*y*fac k-g*x-e,by grind]
instance spFacs:∀(L:Nat)(p:Int),vs=[.int (L:Int),.int p]->L<=500->(L:Int)<p->Pr p->p<=999983->(∀(l:Addr)(H':Hp)(sh:Nat->Int),H l=none->Same H H'->(∀k,k<=L->p ∣ sh k*fac k-1)->(∀k,0<=sh k/\sh k<p)->H' l=some (.lst (((List.range (L+1)).map sh).map V.int))->Q (.ref l) H'):=1
def dG:FnScope ["last","p","numbers","whole","told"] ["last","p"] (aj fk):=%[|5]
def lq(F:#["inverse_factorials",fk])(B:Bl mg)(U:#[1,"products",Wo,spProd])(gA:#[1,"inverse_of",["a","p"],spInv]):#[2,f,fd,["last","p"],spFacs]:=by
 exists dG
 erw[L,p,1,Y,Lp,pp,p9,q]at h;refine⟨_,(ad #[am,2,dG,Ad rfl rfl B.list rfl B.range %[ag,ao aV (pv 0) ag|ae]]
  (ad (am (i:=3) dG.nd rfl (Or.inr rfl) (aq gA hr ⋯ rfl %[aO ix_list (aq U hr ⋯ rfl %[2,1|ae]) (ye su ag) #[1],1|ae]))
  (ad (am (i:=4) dG.nd rfl (Or.inr rfl) (aq U hr ⋯ rfl (aa (bL (N:=["last"]) (ix:=[0]) rfl
   #[3] rfl
   (bK rfl B.range %[0|ae]) (λ_ _ _=>cu (ao bi (pv 1) (pv 0)))) %[1|ae])))
  (af (au (bL (N:=["whole","told","p","last"]) (ix:=[3,4,1,0]) rfl
   (CompScope.four (by rfl') ⋯ rfl ⋯ rfl ⋯ rfl (by rfl') (by rfl') (by rfl') (by rfl') (by rfl') (by rfl') rfl rfl (by rfl') rfl rfl (by rfl') rfl rfl (by rfl') rfl rfl) rfl
   (bK rfl B.range %[ao aV (pv 0) ag|ae]) (λ_ _ _=>cu (ao aY (ao bN (pv 1) (aO (yL K) (pv 2) (ao bi (pv 4) (pv 0)) #[1])) (pv 3))))))))),?_⟩
 let p2:=pp.1;let hP:=jv pp #[0];erw[0,2,(1),0,%[4,4,3|3],3,λa ha=>?_];let e1:wF 1 ((L:Int)+1-1).toNat=(List.range L).map λk:Nat=>1+(k:Int):=by
  unfold wF;rw[show((L:Int)+1-1).toNat=L by omega]
 rw [e1];let Ga:=ej ha (.lst (((List.range L).map λk:Nat=>1+(k:Int)).map V.int));erw[0,0,a,_,L,p,1,ah,Y,3,3,λl H2 l0 S2 C=>?_];let rg:=pz (show 1<p by omega) (λk:Nat=>1+(k:Int)) L;let v:=pA p (λk:Nat=>1+(k:Int)) L;rw[Fi]at v;let ab:pmd p (λk:Nat=>1+(k:Int)) L≠0:=λz=>by
  rw[z]at v;erw[m,hm]at v;exact xF hP L Lp %[-m|by rw[Int.mul_neg];omega]
 erw[0,l,_,_,.int (pmd p (λk:Nat=>1+(k:Int)) L),1,1,eH C,by rw[tG];exact zr _ _,0,_,p,1,pp,p9,3,rg.2,λg g0 g1 hg=>?_];let r:=Ga.trans S2;erw[0,0,3,3,λD hD=>?_];apply dR (λi u=>u D=some (.lst (((List.range i).map λj:Nat=>(L:Int)-j).map V.int))/\Same H2 u) %[by rw[ah];rfl|ej hD _] ?_ ?_
 . rintro i H3 J ⟨c,x⟩;erw[0,0,2,_,c,6,Nx.of J %[6|λb o e=>?_]]
   . rw[d8,d8,o0];exact aM #[0]
   . rw[ah,ss,fj,fj,vu];rfl
   . rw[az (aN e hD)];exact x _ _ e
 rintro H3 ⟨c,x⟩;rw[show((L:Int)).toNat=L from pu L]at c;erw[0,D,_,L,p,1,c,Y,3,3,λt H4 t0 S4 M=>?_];erw[0,2,0,3,3,λD2 n=>?_];apply dR (λi u=>u D2=some (.lst (((List.range i).map λk:Nat=>g*pmd p (λj:Nat=>(L:Int)-j) (L-k) % p).map V.int))/\Same H4 u) %[by rw[ah];rfl|ej n _] ?_ ?_
 . rintro i H5 J ⟨d,y⟩;let ac:i<L+1:=#[0]
   let an:=pz (show 1<p by omega) (λj:Nat=>(L:Int)-j) (L-i);let e2:(L:Int)-(0+(i:Int))=((L-i:Nat):Int):=#[0]
   erw[0,0,0,0,2,t,_,_,.int (pmd p (λj:Nat=>(L:Int)-j) (L-i)),1,1,eH (y _ _ M),by rw[e2];exact zY #[0],2,.inl %[3|3],0,2,#[0],_,d,6,Nx.of J ⟨?_,λb o e=>?_⟩]
   . rw[d8,d8,o0];exact aM #[0]
   . rw[ah,ss,fj,fj];rfl
   . rw[az (aN e n)];exact y _ _ e
 rintro H5 ⟨d,y⟩;rw[show((L:Int)+1).toNat=L+1 by omega]at d;let O:=r.trans (x.trans (S4.trans y));apply q D2 H5 (λk=>g*pmd p (λj:Nat=>(L:Int)-j) (L-k) % p) ((r.trans (x.trans S4)).free n) O (λk hk=>?_) (λk=>%[lz _ #[0]|mu _ #[0]]) d;obtain⟨m,rfl⟩:∃m,L=k+m:=⟨L-k,#[0]⟩
 rw[show k+m-k=m by omega];exact EK hg #[0] v (pA p _ m) (dm p _)
def wt(p:Int)(n i:Nat):Int:=(px (i:Int) i n % p) ^ (p-2).toNat
def vK(b:Pm p){n:Nat}(c:(n:Int)<=p):Wgt p n (wt p n):=λi d=>by
 let h1:=Kz b c d;let%[k|g]:=dm p (px (i:Int) i n);let h2:¬ p ∣ px (i:Int) i n % p:=fun⟨m,e⟩=>h1 %[m-k|by grind]
 let%[m|e]:=Lb b h2 (lz _ (by have:=b.1;omega));erw[m-k*(px (i:Int) i n % p) ^ (p-2).toNat,by unfold wt;grind]
def val(p:Int)(xs:List Int)(r:Int):Int:=lag (λi=>xs.getD i 0) (wt p xs.length) xs.length r % p
def Kg{t:Int}{xs:List Int}(b:Pm p)(c:(xs.length:Int)<=p)(d:Wgt p xs.length u)(g:0<=t)(t1:t<p)(h:p ∣ t-lag (λi=>xs.getD i 0) u xs.length r):t=val p xs r:=by
 let e:p ∣ t-lag (λi=>xs.getD i 0) (wt p xs.length) xs.length r:=by
  have:=GJ b c (v:=λi=>xs.getD i 0) d (vK b c) r
  let z:=P5 h this;let e2:t-lag (λi=>xs.getD i 0) u xs.length r+(lag (λi=>xs.getD i 0) u xs.length r-lag (λi=>xs.getD i 0) (wt p xs.length) xs.length r)=t-lag (λi=>xs.getD i 0) (wt p xs.length) xs.length r:=#[0]
  rw[e2]at z;exact z
 have:=md e
 rw[nh g t1]at this;exact this
def Bg{p:Int}(b:1<p)(xs:List Int)(r:Int):0<=val p xs r/\val p xs r<p:=%[lz _ #[0]|mu _ #[0]]
def kq{xs:List Int}{k:Nat}(b:Pm p)(c:(xs.length:Int)<=p)(d:k<xs.length):val p xs k=xs.getD k 0 % p:=md (oM (vK b c) d)
def sgn(m:Nat):(-1:Int) ^ m=if m % 2=1 then -1 else 1:=by
 induction m with
 |zero=>rfl
 |succ m b=>
   rw[rc,b]
   by_cases c:m % 2=1
   . rw[Pe c,Pd #[0]];rfl
   . rw[Pd c,Pe #[0]];rfl
def Ih{p r v t s a b c d e:Int}{m:Nat}{x y:Int}(o:p ∣ t-s)(ha:p ∣ a-pr (λj=>r-j) i)(hb:p ∣ b-pr (λj=>r-(i+m:Nat)+j) m)(hc:p ∣ c-v*a*b)(hd:p ∣ d-x*y)(he:p ∣ e-(t+(if m % 2=1 then -(c*d)else c*d))):
 p ∣ e-(s+v*px r i (i+m+1)*((-1) ^ m*(x*y))):=by
 rw[show i+m+1=i+1+m by omega,tj,sgn];rw[Bv]at hb;generalize pr (λj=>r-j) i=A at *
 generalize pr (λj=>r-(i+1+j:Nat)) m=B at *
 erw[t',o]at o;erw[g,ha]at ha;erw[b',hb]at hb;erw[n,hc]at hc;erw[d',hd]at hd;erw[q,he]at he;let e1:c*d-v*(A*B)*(x*y)=p*(n*d+v*(g*b+A*b')*d+v*A*B*d'):=by grind
 by_cases z:m % 2=1
 . rw [Pe z]at *
   erw[q+t'-(n*d+v*(g*b+A*b')*d+v*A*B*d'),by grind]
 . rw [Pd z]at *
   erw[q+t'+(n*d+v*(g*b+A*b')*d+v*A*B*d'),by grind]
def IntsAt(H:Hp)(a:Addr)(xs:List Int):Prop:=H a=some (.lst (xs.map V.int))∨H a=some (.tup (xs.map V.int))
def IntsAt.same(h:IntsAt H a xs)(s:Same H b):IntsAt b a xs:=h.elim (λe=>.inl (s _ _ e)) (λe=>.inr (s _ _ e))
def IntsAt.seq{K:W.Frag}(h:IntsAt H a xs):SqL K H a (xs.map V.int)∨SqT K H a (xs.map V.int):=h.elim (λe=>.inl (eH e)) (λe=>.inr (dV e))
def IntsAt.ix{K:W.Frag}{k:Nat}{Q:VK}(h:IntsAt H a xs)(b:k<xs.length)(q:Q (.int (xs.getD k 0)) H):rIxL K (.ref a) (.int (k:Int)) H Q∨rIxT K (.ref a) (.int (k:Int)) H Q:=by
 let e:atI (xs.map V.int) (k:Int)=some (.int (xs.getD k 0)):=cX (by rw[hI,fz b,m9,fz b];rfl);rcases h with h | h
 . exact .inl %[a,_,2,eH h,e|q]
 . exact .inr %[a,_,2,dV h,e|q]
def oi(xs:List Int)(p:Int):Prop:=1<=xs.length/\xs.length<=500/\(xs.length:Int)<=p/\∀k,0<=xs.getD k 0/\xs.getD k 0<2 ^ 40
instance spVal:∀(a:Addr)(xs:List Int)(r p:Int),vs=[.ref a,.int r,.int p]->IntsAt H a xs->oi xs p->Pr p->p<=999983->0<=r->r<p->(∀H',Same H H'->Q (.int (val p xs r)) H'):=1
def bu:FnScope ["values","r","p","last","ahead","behind","shares","total","place","share","part"] WL (aj iU):=%[|5]
def rA(F:#["value_behind",iU])(B:Bl mg)(f8:#[1,"products",Wo,spProd])(gB:#[2,"inverse_factorials",["last","p"],spFacs]):#[3,f,fd,WL,spVal]:=by
 exists bu
 erw[a,xs,r,p,1,ha,%[x1,x5,xp|xb],pp,p9,r0,r1,q]at h;refine⟨_,(ad (am (i:=3) bu.nd rfl (Or.inr rfl) (ao bi (aG aD rfl B.len fx %[0|ae]) ag))
  (ad (am (i:=4) bu.nd rfl (.inl rfl) (aq f8 hr ⋯ rfl (aa (bL (N:=["r"]) (ix:=[1]) rfl
   #[3] rfl
   (bK rfl B.range %[3|ae]) (λ_ _ _=>cu (ao bi (pv 1) (pv 0)))) %[2|ae])))
  (ad (am (i:=5) bu.nd rfl (.inl rfl) (aq f8 hr ⋯ rfl (aa (bL (N:=["r","last"]) (ix:=[1,3]) rfl
   #[4] rfl
   (bK rfl B.range %[3|ae]) (λ_ _ _=>cu (ao aV (ao bi (pv 1) (pv 2)) (pv 0)))) %[2|ae])))
  (ad #[am,6,bu,aq gB hr ⋯ rfl %[3,2|ae]]
  (ad #[am,7,bu,ag]
  (ad (cR ks rfl (bK rfl B.range %[ao aV (pv 3) ag|ae]) (ba (i:=8) bu.nd rfl (.inl rfl)) (ad #[am,9,bu,ao aY (ao bN (aO ix_list (pv 6) (pv 8) #[1]) (aO ix_list (pv 6) (ao bi (pv 3) (pv 8)) #[1])) (pv 2)]
   (ad #[am,10,bu,ao bN (ao aY (ao bN (ao bN (aO (ix_list.or ix_tup) (pv 0) (pv 8) #[1]) (aO ix_list (pv 4) (pv 8) #[1])) (aO ix_list (pv 5) (ao bi (pv 3) (pv 8)) #[1])) (pv 2)) (pv 9)]
   (ad (aJ (ai aS (ao aY (ao bi (pv 3) (pv 8)) ag) ag (ax _)) (af #[am,10,bu,ye su (pv 10)]) aE)
   (af #[am,7,bu,ao aY (ao aV (pv 7) (pv 10)) (pv 2)])))))
  (af (au (pv 7))))))))),?_⟩
 let p2:=pp.1;let p1:1<p:=#[0]
 let p0:0<p:=#[0]
 let hP:=jv pp #[0];obtain⟨L,hL⟩:∃L,xs.length=L+1:=%[xs.length-1|3]
 let eL:(((xs.map V.int).length:Nat):Int)-1=(L:Int):=by rw[d8];omega
 erw[0,a,0,ha.seq,2,6]
 dsimp only
 rw[eL];erw[0,(L:Int),1,3,3,λD hD=>?_];apply dR (λi n=>n D=some (.lst (((List.range i).map λj:Nat=>r-j).map V.int))/\Same H n) %[by rw[ah];rfl|ej hD _] ?_ ?_
 . rintro i H3 hi ⟨g,v⟩;erw[0,0,2,_,g,6,Nx.of hi %[6|λb o e=>?_]]
   . rw[d8,d8,o0];exact aM #[0]
   . rw[ah,ss,fj,fj,vu];rfl
   . rw[az (aN e hD)];exact v _ _ e
 rintro H1 ⟨x,S1⟩;rw[show((L:Int)).toNat=L from pu L]at x;erw[0,D,_,L,p,1,x,3,p1,3,λla H2 av S2 ac=>?_];erw[0,(L:Int),1,3,3,λD2 y=>?_];apply dR (λi n=>n D2=some (.lst (((List.range i).map λj:Nat=>r-(L:Int)+j).map V.int))/\Same H2 n) %[by rw[ah];rfl|ej y _] ?_ ?_
 . rintro i H3 hi ⟨g,v⟩;erw[0,0,2,0,2,_,g,6,Nx.of hi %[6|λb o e=>?_]]
   . rw[d8,d8,o0];exact aM #[0]
   . rw[ah,ss,fj,fj,vu];rfl
   . rw[az (aN e y)];exact v _ _ e
 rintro H3 ⟨g,v⟩;rw[show((L:Int)).toNat=L from pu L]at g;erw[0,D2,_,L,p,1,g,3,p1,3,λlb H4 aw S4 an=>?_];erw[0,0,L,p,1,3,3,pp,p9,λls H5 d ls0 S5 ap C J=>?_];let M:=v.trans (S4.trans S5);let O:=S1.trans (S2.trans M);let U:=M _ _ ac;let Y:=S5 _ _ an;let as:=ha.same O;let hW:=Id ap;refine⟨_,rfl,_,_,rfl,rfl,_,rfl,#[0],#[0],eV (λi σ n=>∃(t:Int)(x8 x9 u:Option V),σ=[some (.ref a),some (.int r),some (.int p),some (.int L),some (.ref la),some (.ref lb),some (.ref ls),some (.int t),x8,x9,u]/\0<=t/\t<p/\p ∣ t-sm (λi=>xs.getD i 0*px r i (L+1)*((-1) ^ (L-i)*(d i*d (L-i)))) i/\n=H5)
  %[(0),_,_,0,4,p0,%[(0)|by simp [sm]]|1] ?_ ?_⟩
 . rintro i σ H6 hi ⟨t,x8,x9,u,rfl,t0,t1,td,rfl⟩;let ab:i<L+1:=#[0]
   obtain⟨m,hm⟩:∃m,L=i+m:=%[L-i|3]
   let e0:(0:Int)+(i:Int)=(i:Int):=vu _;let e1:(L:Int)-(0+(i:Int))=(m:Int):=#[0]
   let aA:=C i;let aC:=C m;let ar:=pz p1 (λj:Nat=>r-j) i;let br:=pz p1 (λj:Nat=>r-(L:Int)+j) m;let xi:=xb i;let m1:∀z:Int,0<=z % p:=λz=>lz _ #[0]
   let m2:∀z:Int,z % p<p:=λz=>mu _ p0
   erw[0,0,ls,_,_,.int (d i),1,1,eH J,by rw[e0];exact AA ab,0,0,0,2,ls,_,_,.int (d m),1,1,eH J,by rw[e1];exact AA #[0],2,.inl %[3|3],0,2,p0,6];erw[0,0,6];rw[e0];apply as.ix #[0] ?_;erw[0,0,la,_,_,.int (pmd p (λj:Nat=>r-j) i),1,1,eH U,zY ab,2,.inl %[3|3],6];erw[0,0,0,2,lb,_,_,.int (pmd p (λj:Nat=>r-(L:Int)+j) m),1,1,eH Y,by rw[←e0,e1];exact zY #[0],2,.inr %[3|3],0,2,p0,6];let s1:=m1 (d i*d m);let s2:=m2 (d i*d m);erw[0,2,.inr %[3|3],6];erw[0,0,2,2,(by show(0:Int)<_;decide),1,0,6];let fin:∀z:Int,z=(if m % 2=1 then -(xs.getD i 0*pmd p (λj:Nat=>r-j) i*pmd p (λj:Nat=>r-(L:Int)+j) m % p*(d i*d m % p))else xs.getD i 0*pmd p (λj:Nat=>r-j) i*pmd p (λj:Nat=>r-(L:Int)+j) m % p*(d i*d m % p)) ->
    p ∣ (t+z) % p-sm (λi=>xs.getD i 0*px r i (L+1)*((-1) ^ (L-i)*(d i*d (L-i)))) (i+1):=λz hz=>by
    show p ∣ _-(sm _ i+xs.getD i 0*px r i (L+1)*((-1) ^ (L-i)*(d i*d (L-i))))
    let em:L-i=m:=#[0]
    let hb:p ∣ pmd p (λj:Nat=>r-(L:Int)+j) m-pr (λj=>r-(i+m:Nat)+j) m:=by
     rw[←hm];exact pA p _ m
    subst hz;rw[em];let el:L+1=i+m+1:=#[0]
    rw[el]at td ⊢;exact Ih td (pA p _ i) hb (dm p _) (dm p _) (dm p _)
   by_cases c:m % 2=1
   . apply aZ (congrArg V.int #[0]) ?_;erw[0,0,6];erw[0,0,2,0,2,p0,6];erw[_,_,_,0,m1 _,m2 _,fin _ (by rw[Pe c]),1]
   . apply aF (λz=>c (by have:=V.int.inj z;omega)) ?_;erw[0,0,2,0,2,p0,6];erw[_,_,_,0,m1 _,m2 _,fin _ (by rw[Pd c]),1]
 . rintro σ H6 ⟨t,x8,x9,u,rfl,t0,t1,td,rfl⟩;rw[show((L:Int)+1).toNat=L+1 by omega]at td;rw[←hL]at hW;let e:=Kg (r:=r) hP xp hW t0 t1 (by
    unfold lag;rw[hL];exact td)
   rw[e];erw[0,q H6 O]
def xZ:FnScope ["values","r","p","place"] WL (aj oy):=%[|5]
def yj(F:#["value_at",oy])(B:Bl mg)(b:#[3,"value_behind",WL,spVal]):#[4,f,fd,WL,spVal]:=by
 exists xZ
 erw[a,xs,r,p,1,ha,ok,pp,p9,r0,r1,q]at h;refine⟨_,(ad #[am,3,xZ,ao aY (pv 1) (pv 2)]
  (ad (aJ (ai iI (pv 3) (aG aD rfl B.len fx %[0|ae]) (ax _)) (af (au (ao aY (aO (ix_list.or ix_tup) (pv 0) (pv 3) #[1]) (pv 2)))) aE)
  (af (au (aq b hr ⋯ rfl %[0,3,2|ae]))))),?_⟩
 let p0:0<p:=#[0]
 let hP:=jv pp #[0];let d:r % p=r:=nh r0 r1;erw[0,0,2,p0,6]
 dsimp only
 rw[d];erw[0,0,a,0,ha.seq,2,0,6];apply AL (λc=>?_) (λc=>?_)
 . let e:=y3 c;rw[d8]at e;obtain⟨k,rfl⟩:∃k:Nat,r=(k:Int):=%[r.toNat|3]
   erw[0,0,6];apply ha.ix #[0] ?_;erw[0,2,p0,6];show Q (.int (xs.getD k 0 % p)) H;rw[←kq hP ok.2.2.1 #[0]];exact q H (Same.refl _)
 . erw[0,0,0,a,xs,r,p,1,ha,ok,pp,p9,r0,r1,q]
instance spEnds:∀(a:Addr)(xs:List Int)(p:Int),vs=[.ref a,.int p]->IntsAt H a xs->oi xs p->Pr p->p<=999983->(∀H',Same H H'->Q (.int ((val p xs 0+val p xs 1) % p)) H'):=1
def vV:FnScope ["values","p"] ["values","p"] (aj lP):=%[|5]
def wY(F:#["both_ends",lP])(b:#[4,"value_at",WL,spVal]):#[5,f,fd,["values","p"],spEnds]:=by
 exists vV
 erw[a,xs,p,1,ha,ok,pp,p9,q]at h;erw[_,(af (au (ao aY (ao aV (aq b hr ⋯ rfl %[0,ag,1|ae]) (aq b hr ⋯ rfl %[0,ag,1|ae])) (pv 1)))),6];let p2:=pp.1;erw[0,0,a,xs,(0),p,1,ha,ok,pp,p9,4,3,λg c=>?_];erw[0,0,a,xs,(1),p,1,ha.same c,ok,pp,p9,4,3,λd e=>?_];erw[2,0,2,#[0],q d (c.trans e)]
def IntsAt.sqB{K:W.Frag}(h:IntsAt H a xs):∃c,SqB K c H a (xs.map V.int):=h.elim (λe=>%[true|eH e]) (λe=>%[false|dV e])
def hor(s p:Int):List Int->Int
 | []=>0
 |a::r=>(hor s p r*s+a) % p
def rR{p:Int}(b:0<p):∀ns,0<=hor s p ns/\hor s p ns<p
 | []=>%[qq 0|b]
 |a::r=>%[lz _ #[0]|mu _ b]
instance spMix(C:Addr):∀(g a b d l:Addr)(ns:List Int)(s p:Int),vs=[.ref g,.ref l,.int s]->GameAt C H g a b d p->0<p->p<2 ^ 40->IntsAt H l ns->Q (.int (hor s p ns)) H:=1
def v7:FnScope ["self","numbers","s","total","number"] WM (aj zU):=%[|5]
def IR(F:#["mix","Game.mix",zU])(T:GTxt K mg C)(e:mg "reversed"=none):#[1,f,fd,WM,spMix C]:=by
 exists v7
 erw[g,a,b,d,l,ns,s,p,1,%[v|hg],p0,y,hl,q]at h;refine⟨_,(ad #[am,3,v7,ag]
  (ad (cR ks rfl (IG rfl e (pv 1)) (ba (i:=4) v7.nd rfl (.inl rfl)) (af #[am,3,v7,ao aY (ao aV (ao bN (pv 3) (pv 2)) (pv 4)) (aB (pv 0) rfl)]))
  (af (au (pv 3))))),?_⟩
 let%[c|hl]:=hl.sqB (K:=K);refine⟨_,rfl,c,l,_,rfl,hl,Hg (K:=K) (c:=c) (xs:=ns.map V.int) (λi σ n=>∃(j:Option V)(t:Int),σ=[some (.ref g),some (.ref l),some (.int s),some (.int t),j]/\t=hor s p (ns.drop (ns.length-i))/\n=H)
  %[_,(0),1,by rw[Nat.sub_zero,List.drop_length];rfl|1] (λi σ n _ Pi=>by erw[_,_,_,_,h]at Pi;subst h;exact hl) ?_ ?_⟩
 . rintro i z σ B o r ⟨j,t,rfl,rfl,rfl⟩;rw[d8]at o;rw[←List.map_reverse,hI]at r;let%[x,m|1]:=oe r;rw[Rx o]at m;let D:=rR (s:=s) p0 (ns.drop (ns.length-i));erw[0,0,2,.inl %[3|3],0,2,0,g,C,v,_,0,hg,T.cl,T.nF,fN ..,2,p0,6];erw[_,0,6,1];let u:ns.length-1-i<ns.length:=#[0]
   let ed:ns.drop (ns.length-(i+1))=x::ns.drop (ns.length-i):=by
    let e1:ns.length-(i+1)=ns.length-1-i:=#[0]
    let e2:ns.length-i=ns.length-1-i+1:=#[0]
    rw[e1,e2,Rr u]
    congr 1
    rw[fz u]at m;exact j3 m
   rw[ed];rfl
 . rintro σ B ⟨j,t,rfl,rfl,rfl⟩;rw[d8,Rm,Qx];erw[0,q]
instance spWAt(C:Addr):∀(g a b d r:Addr)(ns:List Str)(tv:List V)(ts:List Tr)(pt:List Int)(s p:Int),vs=[.ref g,.ref r,.int s]->GameAt C H g a b d p->1<p->p<2 ^ 40->H a=some (.tup (ns.map V.str))->H b=some (.tup tv)->TreesAt H tv ts->ts.length<=10->(∀t∈ts,t.ok ns/\t.depth<=10)->H r=some (.tup (pt.map V.int))->pt.length=ns.length->cv pt p->(∀H',Same H H'->Q (.int (hor s p (ts.map λt=>t.worth ns pt p))) H'):=1
def CF:FnScope WQ WQ (aj sV):=%[|5]
def Dh(F:#["worth_at","Game.worth_at",sV])(T:GTxt K mg C)(mM:Meth K C "mix" J)(GM:#[1,J,m,WM,spMix C])(bM:Binds K m WM [])(L:#[12,"worth_of",WU,spWorth 10]):#[13,f,fd,WQ,spWAt C]:=by
 exists CF
 erw[g,a,b,d,r,ns,u,ts,pt,s,p,1,%[e|hg],M,j,ha,hb,TS,t10,tok,n,pl,po,q]at h;let O:Room 1 _:=hr.mono ⋯;refine⟨_,(af (au (cq (pv 0) T.cl mM GM O bM .nil bd (aa (bL (N:=["self","point"]) (ix:=[0,1]) rfl
  #[4] rfl
  (iF (aB (pv 0) rfl)) (λ_ _ _=>cu (aq L hr ⋯ rfl %[0,kU K (pv 1),2,kU K (pv 1)|ae]))) %[2|ae])))),?_⟩
 let U:=TS.length;erw[0,g,e,0,hg,oa _ _ _ _ ⋯ ⋯ ⋯ ⋯,6];erw[0,g,C,e,_,0,hg,9,T.nT,nZ ..,b,1,%[_|dV hb],λD hD=>?_];apply gy (K:=K) (xs:=u) (λi o=>o D=some (.lst (((ts.take i).map λt=>t.worth ns pt p).map V.int))/\Same H o) %[by rw[ah];rfl|ej hD _] (λi o _ h=>dV (h.2 _ _ hb)) ?_ ?_
 . rintro i z v x ⟨hl,c⟩;let%[t,y|Y]:=TS.get x;let%[tk|td]:=tok t (ms y);let hi:i<u.length:=(Pl x).1;erw[0,0,g,C,e,_,0,c _ _ hg,9,T.nS,pR ..,0,0,g,C,e,_,0,c _ _ hg,9,T.nF,fN ..,z,t,a,r,ns,pt,p,1,Y.mono (bc c),tk,td,.inr (c _ _ ha),c _ _ n,pl,M,j,po,6];erw[_,hl,6,Nx.of hi %[6|λb' o' B=>?_]]
   . rw[d8,d8,kr];exact aM #[0]
   . rw[ah,ih,y,fj,fj];rfl
   . rw[az (aN B hD)];exact c _ _ B
 . rintro v ⟨hl,c⟩;rw[U,i0]at hl;erw[0,g,a,b,d,D,_,s,p,1,%[e|c _ _ hg],3,j,.inl hl,q v c]
instance spCoins(C:Addr):∀(g a b d:Addr)(ns:List Str)(tv:List V)(p:Int),vs=[.ref g]->GameAt C H g a b d p->H a=some (.tup (ns.map V.str))->H b=some (.tup tv)->Q (.int (if tv.length=1 then(ns.length:Int)else(ns.length:Int)+1)) H:=1
def CI:FnScope WA WA (aj sW):=%[|5]
def Di(F:#["coins","Game.coins",sW])(T:GTxt K mg C)(e:mg "len"=none):#[1,f,fd,WA,spCoins C]:=by
 exists CI
 erw[g,a,b,d,ns,j,p,1,%[m|hg],ha,hb,q]at h;refine⟨_,(ad (aJ (ai aS (aG aD rfl e fx %[aB (pv 0) rfl|ae]) ag (ax _)) (af (au (aG aD rfl e fx %[aB (pv 0) rfl|ae]))) aE)
  (af (au (ao aV (aG aD rfl e fx %[aB (pv 0) rfl|ae]) ag)))),?_⟩
 erw[0,g,C,m,_,0,hg,9,T.nT,nZ ..,b,0,.inr (dV hb),1,0,6]
 by_cases c:V.int (j.length:Int)=V.int 1
 . apply aZ c ?_;let n:j.length=1:=by have:=V.int.inj c;omega
   rw[Pe n]at q;erw[0,g,C,m,_,0,hg,9,T.nS,pR ..,a,0,.inr (dV ha),6];rw[d8];exact q
 . apply aF c ?_;let n:¬ j.length=1:=λz=>c (by rw[z];rfl)
   rw[Pd n]at q;erw[0,g,C,m,_,0,hg,9,T.nS,pR ..,a,0,.inr (dV ha),6];rw[d8];erw[2,q]
instance spSize(n:Nat):∀(v:V)(t:Tr),vs=[v]->TreeAt H v t->t.wf->t.depth<=n->t.size<=400->(∀H',Same H H'->Q (.int t.size) H'):=1
def zJ(ts:List Tr):(ts.map λu=>(u.size:Int)).sum=(jM ts:Int):=by
 induction ts with
 |nil=>rfl
 |cons a r b=>
   simp only[jM,lw,rb]at b ⊢;rw[b];omega
def zM:FnScope WB WB (aj mK):=%[|5]
def Cy{n:Nat}(F:#["size_of",mK])(B:Bl mg)(C:#[1,"trees_within",WB,spWithin])(J:#[n+2,"size_of",WB,spSize n]):#[n+3,f,fd,WB,spSize (n+1)]:=by
 exists zM
 erw[v,t,1,T,wf,dn,sz,q]at h;refine⟨_,(af (au (ao aV ag (aG (uA rfl) rfl B.sum Rz (aa (bL (N:=[]) (ix:=[]) (cl:=[]) rfl #[5] rfl
  (iF (aq C hr #[0] rfl %[0|ae])) (λ_ _ _=>cu (aq J hr (eS _) rfl %[0|ae]))) ae))))),?_⟩
 erw[0,v,t,1,T,wf,λp xs L M d TS=>?_];erw[p,1,%[_|dV d],λD hD=>?_];let pD:p≠D:=aN d hD;let O:=TS.length;let sp:=t.size_parts;apply gy (K:=K) (xs:=xs) (λi g=>g D=some (.lst (((t.parts.take i).map λu=>(u.size:Int)).map V.int))/\Same L g) %[by rw[ah];rfl|ej hD _] (λi g _ h=>dV (h.2 _ _ d)) ?_ ?_
 . rintro i x j m ⟨hl,c⟩;let%[u,r|U]:=TS.get m;let Y:=ms r;let%[uw,ud|us]:=Tr.parts_mem Y wf;let hi:i<xs.length:=(Pl m).1;erw[0,x,u,1,U.mono (bc c),uw,3,3,λH3 y=>?_];erw[_,y _ _ hl,6,Nx.of hi %[6|λb o e=>?_]]
   . have:t.parts.length<=2:=by cases t <;> simp [Tr.parts]
     rw[d8,d8,kr];exact aM #[0]
   . rw[ah,ih,r,fj,fj];rfl
   . rw[az (aN e hD)];exact y _ _ (c _ _ e)
 . rintro j ⟨hl,c⟩;rw[O,i0]at hl;let z:=zJ t.parts;erw[D,0,eH hl,6,6,6]
   . intro n hn;let%[u,_|1]:=List.mem_map.mp hn;omega
   . rw[z];omega
   . rw [z];erw[2,6];let e:(1:Int)+(jM t.parts:Int)=(t.size:Int):=#[0]
     show Q (.int (1+(jM t.parts:Int))) j;rw[e];exact q j (M.trans c)
def Cw:#[2,f,fd,WB,spSize 0]:=by
 let no:∀vs H Q E,¬ spSize 0 vs H Q E:=λvs H Q E h=>by
  erw[v,t,_,_,_,h1,_]at h
  have:=t.depth_pos
  omega
 exists 3
def tR(F:#["size_of",mK])(B:Bl mg)(m:mg "size_of"=some (.ref f))(b:#[1,"trees_within",WB,spWithin]):
 ∀n:Nat,#[n+2,f,fd,WB,spSize n]
 |0=>Cw
 |n+1=>Cy F B b (Cal.of F (tR F B m b n) m (λ_ _ _ _ _ _ us hl=>by let%[c|1]:=Jk hl;rfl))
example:=[wz,eB 0,sX,eB 1,zW,eB 2,wA,eB 4,wy,eB 5,qp,eB 6,sZ,eB 7,zV,eB 8,EX,eB 9,sY,eB 10]
def dl(g b c:Addr)(s:Int)(d e:Addr)(ed pl:Int):List (Str×V):=[("game",.ref g),("awaited",.ref b),("claims",.ref c),("s",.int s),("heard",.ref d),("tossed",.ref e),("held",.int ed),("places",.int pl)]
section
variable {g aA aC aH aT:Addr}{s ed pl:Int}
def jZ:(dl g aA aC s aH aT ed pl).lookup ("game":Str)=some (.ref g):=by rfl'
def Hq:(dl g aA aC s aH aT ed pl).lookup ("awaited":Str)=some (.ref aA):=by rfl'
def Lk:(dl g aA aC s aH aT ed pl).lookup ("claims":Str)=some (.ref aC):=by rfl'
def Lg:(dl g aA aC s aH aT ed pl).lookup ("s":Str)=some (.int s):=by rfl'
def Lj:(dl g aA aC s aH aT ed pl).lookup ("heard":Str)=some (.ref aH):=by rfl'
def AU:(dl g aA aC s aH aT ed pl).lookup ("tossed":Str)=some (.ref aT):=by rfl'
def BY:(dl g aA aC s aH aT ed pl).lookup ("held":Str)=some (.int ed):=by rfl'
def BW:(dl g aA aC s aH aT ed pl).lookup ("places":Str)=some (.int pl):=by rfl'
def rj:(dl g aA aC s aH aT ed pl).lookup ("waits":Str)=none:=by rfl'
def dl_n2:(dl g aA aC s aH aT ed pl).lookup ("due":Str)=none:=by rfl'
def dl_n4:(dl g aA aC s aH aT ed pl).lookup ("hear":Str)=none:=by rfl'
def JX:(dl g aA aC s aH aT ed pl).lookup ("toss":Str)=none:=by rfl'
def dl_n6:(dl g aA aC s aH aT ed pl).lookup ("hear_claims":Str)=none:=by rfl'
def JW:(dl g aA aC s aH aT ed pl).lookup ("begin_rounds":Str)=none:=by rfl'
def dl_n8:(dl g aA aC s aH aT ed pl).lookup ("hear_row":Str)=none:=by rfl'
def Ho:(dl g aA aC s aH aT ed pl).lookup ("go_on":Str)=none:=by rfl'
def Li:(dl g aA aC s aH aT ed pl).lookup ("look_at_trees":Str)=none:=by rfl'
def tu{v:Addr}:cf "awaited" (.ref v) (dl g aA aC s aH aT ed pl)=dl g v aC s aH aT ed pl:=by rfl'
def JL{v:Addr}:cf "claims" (.ref v) (dl g aA aC s aH aT ed pl)=dl g aA v s aH aT ed pl:=by rfl'
def JJ{v:Int}:cf "s" (.int v) (dl g aA aC s aH aT ed pl)=dl g aA aC v aH aT ed pl:=by rfl'
def JK{v:Addr}:cf "heard" (.ref v) (dl g aA aC s aH aT ed pl)=dl g aA aC s v aT ed pl:=by rfl'
def Fg{v:Addr}:cf "tossed" (.ref v) (dl g aA aC s aH aT ed pl)=dl g aA aC s aH v ed pl:=by rfl'
def zX{v:Int}:cf "held" (.int v) (dl g aA aC s aH aT ed pl)=dl g aA aC s aH aT v pl:=by rfl'
def wI{v:Int}:cf "places" (.int v) (dl g aA aC s aH aT ed pl)=dl g aA aC s aH aT ed v:=by rfl'
def dw:(dl g aA aC s aH aT ed pl).length<1000:=by show 8<1000;decide
end
structure DTxt(K:W.Frag)(mg:#[9])(C:Addr):Prop where
 cl:Cls K C
 nG:NoAttr K C "game"
 nA:NoAttr K C "awaited"
 nC:NoAttr K C "claims"
 nS:NoAttr K C "s"
 nH:NoAttr K C "heard"
 nT:NoAttr K C "tossed"
 nE:NoAttr K C "held"
 nP:NoAttr K C "places"
 mgC:mg "Doubter"=some (.ref C)
structure Db where
 aw:Str×Option Int
 cl:List Int
 s:Int
 he:List Int
 to:List Int
 ed:Int
 pl:Int
def awV(a:Str×Option Int):List V:=match a.2 with
 |none=>[.str a.1]
 |some n=>[.str a.1,.int n]
structure DbR(C:Addr)(H:Hp)(D g:Addr)(z:Db)(dx aA aC aH aT:Addr):Prop where
 hD:H D=some (.ins C dx (dl g aA aC z.s aH aT z.ed z.pl))
 hA:H aA=some (.tup (awV z.aw))
 hC:H aC=some (.tup (z.cl.map V.int))
 hH:H aH=some (.tup (z.he.map V.int))
 hT:H aT=some (.tup (z.to.map V.int))
def DbR.same(h:DbR C H D g z b c d e j)(s:Same H m):DbR C m D g z b c d e j:=%[s _ _ h.hD,s _ _ h.hA,s _ _ h.hC,s _ _ h.hH|s _ _ h.hT]
def DbR.set{C:Addr}{H:Hp}{D g:Addr}{z:Db}{m b c d e n j:Addr}{fs:List (Str×V)}(hD:H D=some (.ins n j fs))(hA:H b=some (.tup (awV z.aw)))(hC:H c=some (.tup (z.cl.map V.int)))(hH:H d=some (.tup (z.he.map V.int)))(hT:H e=some (.tup (z.to.map V.int))):
 DbR C (upd H D (.ins C m (dl g b c z.s d e z.ed z.pl))) D g z m b c d e:=by
 erw[ah,6,6,6,6]
 . rw[az (bO hA hD nofun)];exact hA
 . rw[az (bO hC hD nofun)];exact hC
 . rw[az (bO hH hD nofun)];exact hH
 . rw[az (bO hT hD nofun)];exact hT
def DbAt(C:Addr)(H:Hp)(D g:Addr)(z:Db):Prop:=∃b c d e j,DbR C H D g z b c d e j
def DbAt.same(h:DbAt C H D g z)(s:Same H b):DbAt C b D g z:=by
 erw[_,_,_,_,_,r]at h;erw[_,_,_,_,_,r.same s]
def Gm(e:Addr)(H:Hp)(g:Addr)(ns:List Str)(ts:List Tr)(p:Int):Prop:=∃(a b d:Addr)(c:List V),GameAt e H g a b d p/\H a=some (.tup (ns.map V.str))/\H b=some (.tup c)/\TreesAt H c ts/\H d=some (.lst ((ns.map (bj ts)).map V.int))
def Gm.same(h:Gm c H g ns ts p)(s:Same H e):Gm c e g ns ts p:=by
 erw[a,b,d,j,h1,h2,h3,h4,h5]at h;erw[a,b,d,j,h1.same s,s _ _ h2,s _ _ h3,h4.mono (bc s),s _ _ h5]
def Jq(a b:Addr)(p:Int)(d:Addr):(gf a b p d).lookup ("game":Str)=none:=oa _ _ _ _ ⋯ ⋯ ⋯ ⋯
def Gm.ne{C:Addr}{D:Addr}{c:Addr}{fs:List (Str×V)}{v:V}(h:Gm m H g ns ts p)(hD:H D=some (.ins C c fs))(hg:fs.lookup ("game":Str)=some v):g≠D:=λz=>by
 erw[a,b,d,n,%[j|e],_]at h;rw[z,hD]at e;cases e;rw[Jq]at hg;cases hg
def Gm.but{C:Addr}{D:Addr}{m:Addr}{fs:List (Str×V)}(h:Gm n H g ns ts p)(hD:H D=some (.ins C m fs))(hg:g≠D)(s:SameBut D H o):Gm n o g ns ts p:=by
 erw[a,b,d,q,%[j|e],h2,h3,h4,h5]at h;erw[a,b,d,q,%[j|s _ _ hg e],s _ _ (bO h2 hD nofun) h2,s _ _ (bO h3 hD nofun) h3,h4.mono (λc xs hc=>s _ _ (bO hc hD nofun) hc),s _ _ (bO h5 hD nofun) h5]
structure GmK(ns:List Str)(ts:List Tr)(p:Int):Prop where
 pr:Pr p
 p2:2<p
 p9:p<=999983
 n10:ns.length<=10
 t1:1<=ts.length
 t10:ts.length<=10
 tok:∀t∈ts,t.ok ns/\t.wf/\t.depth<=10/\t.size<=400
 tp:(ts.length:Int)<=p
 tc:∀t∈ts,∀x∈ns,(t.names.count x:Int)<p
def GmK.deg(k:GmK ns ts p):∀x∈ns,0<=bj ts x/\bj ts x<p:=λx c=>by
 let b:ts≠[]:=λz=>by have:=k.t1;rw[z]at this;cases this
 erw[6,mf b λt d=>k.tc t d x c]
 have:=jS (ns:=ts.map λt=>(t.names.count x:Int)) #[b,0]
 let%[t,_|e]:=List.mem_map.mp this;unfold bj;rw[←e];omega
def szs(ts:List Tr):Int:=(ts.map λt=>(t.size:Int)).sum
def fq(ns:List Str)(ts:List Tr)(p:Int)(z:Db):Db:=
 { z with pl:=z.pl+szs ts,aw:=if z.ed=hor z.s p (ts.map λt=>t.worth ns z.to p)then("believed",none)else("caught",some ((z.to.length:Int)+1)) }
def goOn(ns:List Str)(ts:List Tr)(p:Int)(z:Db):Db:=
 if z.to.length<ns.length then { z with aw:=("hear",some (bj ts (ns.getD z.to.length "")+1)) }else fq ns ts p z
def zo(ns:List Str)(ts:List Tr)(p s:Int)(z:Db):Db:=goOn ns ts p { z with s:=s,ed:=hor s p z.cl }
def jz(ns:List Str)(ts:List Tr)(p:Int)(xs:List Int)(z:Db):Db:=
 if ts.length=1 then zo ns ts p 0 { z with cl:=xs }else { z with cl:=xs,aw:=("coin",none) }
def dY(p:Int)(xs:List Int)(z:Db):Db:=
 { z with he:=xs,aw:=if(val p xs 0+val p xs 1) % p=z.ed then("coin",none)else("caught",some ((z.to.length:Int)+1)) }
def du(ns:List Str)(ts:List Tr)(p:Int)(xs:List Int)(z:Db):Db:=
 if z.cl=[]then jz ns ts p xs { z with pl:=z.pl+(xs.length:Int) }else dY p xs { z with pl:=z.pl+(xs.length:Int) }
def eg(ns:List Str)(ts:List Tr)(p r:Int)(z:Db):Db:=
 if z.he=[]then zo ns ts p r { z with pl:=z.pl+1 }else goOn ns ts p { z with pl:=z.pl+1,ed:=val p z.he r,to:=z.to++[r] }
def Db.new(ts:List Tr):Db:=%[("hear",some (ts.length:Int)),[],(0),[],[],(0)|(0)]
instance spIsNum:∀n p:Int,vs=[.int n,.int p]->Q (.bl (decide (0<=n)&&decide (n<p))) H:=1
def vR:FnScope Wa Wa (aj lJ):=%[|5]
def wU(F:#["is_number",lJ])(B:Bl mg):#[1,f,fd,Wa,spIsNum]:=by
 exists vR
 erw[n,p,1,q]at h;erw[_,(af (au (tN (aG mi rfl B.isinstance Rq %[0,wK (v:=V.ty "int") rfl B.int iS rfl|ae]) (tN (Ac (aG mi rfl B.isinstance Rq %[0,wK (v:=V.ty "bool") rfl B.bool uD rfl|ae])) (qw (Ft vj iI ag (pv 0) (pv 1))))))),6];erw[0,_,_,"int",true,1,TyOf.int _,yJ _ _,true,1,eF ?_];erw[0,_,_,"bool",false,1,TyOf.int _,xu _,false,1,true,1,eF ?_];erw[0,2,0,6]
 by_cases c:0<=n
 . rw[ft c]at q;apply aZ c %[0,2|6];exact q
 . rw[fw c]at q;apply aF c ?_;exact q
instance spAllSz(C:Addr):∀(g:Addr)(ns:List Str)(ts:List Tr)(p:Int),vs=[.ref g]->Gm C H g ns ts p->GmK ns ts p->(∀H',Same H H'->Q (.int (szs ts)) H'):=1
def vY:FnScope WC WC (aj lT):=%[|5]
def Im{ts:List Tr}(h:∀t∈ts,t.size<=400)(hl:ts.length<=10):0<=szs ts/\szs ts<=4000:=by
 have:∀l:List Tr,(∀t∈l,t.size<=400)->0<=szs l/\szs l<=400*(l.length:Int):=λl=>by
  induction l with
  |nil=>intro _;erw[qq _,qq _]
  |cons t r b=>
    intro hh;let h1:=b λu c=>hh u (mj _ c)
    let h2:=hh t (kb ..);let e:szs (t::r)=(t.size:Int)+szs r:=by unfold szs;rw[lw,rb]
    rw[e,f5];omega
 have:=this ts h
 omega
def xf(F:#["all_sizes",lT])(B:Bl mg)(T:GTxt K mg C)(J:#[12,"size_of",WB,spSize 10]):#[13,f,fd,WC,spAllSz C]:=by
 exists vY
 erw[g,ns,ts,p,1,%[a,b,d,r,%[L|hg],ha,hb,TS|hd],k,q]at h;refine⟨_,(af (au (aG (uA rfl) rfl B.sum Rz (aa (bL (N:=[]) (ix:=[]) (cl:=[]) rfl #[5] rfl
  (iF (aB (pv 0) rfl)) (λ_ _ _=>cu (aq J hr ⋯ rfl %[0|ae]))) ae)))),?_⟩
 let M:=TS.length;erw[0,g,C,L,_,0,hg,9,T.nT,nZ ..,b,1,%[_|dV hb],λD hD=>?_];apply gy (K:=K) (xs:=r) (λi m=>m D=some (.lst (((ts.take i).map λt=>(t.size:Int)).map V.int))/\Same H m) %[by rw[ah];rfl|ej hD _] (λi m _ h=>dV (h.2 _ _ hb)) ?_ ?_
 . rintro i x v y ⟨hl,c⟩;let%[u,j|O]:=TS.get y;let%[_,U,Y|us]:=k.tok u (ms j);let hi:i<r.length:=(Pl y).1
   have:=k.t10
   erw[0,x,u,1,O.mono (bc c),U,Y,us,λH3 z=>?_];erw[_,z _ _ hl,6,Nx.of hi %[6|λb o e=>?_]]
   . rw[d8,d8,kr];exact aM #[0]
   . rw[ah,ih,j,fj,fj];rfl
   . rw[az (aN e hD)];exact z _ _ (c _ _ e)
 . rintro v ⟨hl,c⟩;rw[M,i0]at hl;let sr:=Im (λt ht=>(k.tok t ht).2.2.2) k.t10;erw[D,0,eH hl,6,6,6]
   . intro n hn;let%[u,j|1]:=List.mem_map.mp hn
     have:=(k.tok u j).2.2.2
     omega
   . let e:((ts.map λt=>(t.size:Int)).sum)=szs ts:=rfl;rw[e];omega
   . exact q v c
section
variable {C CG:Addr}
instance spTrees(C CG:Addr):∀(D g:Addr)(z:Db)(ns:List Str)(ts:List Tr)(p:Int),vs=[.ref D]->DbAt C H D g z->Gm CG H g ns ts p->GmK ns ts p->z.to.length=ns.length->cv z.to p->(∀H',SameBut D H H'->DbAt C H' D g (fq ns ts p z)->Q .non H'):=1
def CK:FnScope WA WA (aj sY):=%[|5]
def Dk(F:#["look_at_trees","Doubter.look_at_trees",sY])(B:Bl mg)(T:DTxt K mg C)(TG:GTxt K mg CG)(mW:Meth K CG "worth_at" fW)(GW:#[13,fW,N,WQ,spWAt CG])(bW:Binds K N WQ [])
 (m4:#[13,"all_sizes",WC,spAllSz CG]):#[14,f,fd,WA,spTrees C CG]:=by
 exists CK
 erw[D,g,z,ns,ts,p,1,%[j,J,r,u,n|R],G,k,tl,po,q]at h;let x:Room 13 _:=hr;refine⟨_,(ad (aQ (pv 0) (ao aV (aB (pv 0) rfl) (aq m4 hr ⋯ rfl %[aB (pv 0) rfl|ae])) rfl)
  (af (aJ (ai aS (aB (pv 0) rfl) (cq (aB (pv 0) rfl) TG.cl mW GW x bW .nil bd %[aB (pv 0) rfl,aB (pv 0) rfl|ae]) (ax _))
   (af (aQ (pv 0) (aR %[aI|ae]) rfl))
   (af (aQ (pv 0) (aR %[aI,ao aV (aG aD rfl B.len fx %[aB (pv 0) rfl|ae]) ag|ae]) rfl))))),?_⟩
 let gD:=G.ne R.hD jZ;erw[0,D,C,j,_,0,R.hD,9,T.nP,BW,0,D,C,j,_,0,R.hD,9,T.nG,jZ,g,ns,ts,p,1,G,k,λL O=>?_];let o:=R.same O;erw[2,0,D,C,j,0,o.hD,9,T.nP,dw,6];rw[wI];let U:SameBut D L (upd L D (.ins C j (dl g J r z.s u n z.ed (z.pl+szs ts)))):=SameBut.upd _;let R2:DbR C (upd L D (.ins C j (dl g J r z.s u n z.ed (z.pl+szs ts)))) D g { z with pl:=z.pl+szs ts } j J r u n:=DbR.set (z:={ z with pl:=z.pl+szs ts }) o.hD o.hA o.hC o.hH o.hT;let G2:=(G.same O).but o.hD gD U;generalize upd L D (.ins C j (dl g J r z.s u n z.ed (z.pl+szs ts)))=H2 at U R2 G2;let Y:=G2;erw[a,b,d,tv,GA,ha,hb,TS,hd]at Y;erw[dg,hg]at GA;let p2:=k.p2;let p9:=k.p9;erw[0,D,C,j,_,0,R2.hD,T.cl,T.nE,BY,0,D,C,j,_,0,R2.hD,T.cl,T.nG,jZ,g,dg,0,hg,oa _ _ _ _ ⋯ ⋯ ⋯ ⋯,0,D,C,j,_,0,R2.hD,9,T.nT,AU,0,D,C,j,_,0,R2.hD,9,T.nS,Lg,6];erw[g,a,b,d,n,ns,tv,ts,z.to,z.s,p,1,%[dg|hg],3,3,ha,hb,TS,k.t10,λt v=>%[(k.tok t v).1|(k.tok t v).2.2.1],R2.hT,tl,po,λH3 S3=>?_];let M:=R2.same S3;let y:SameBut D H H3:=(fy O).trans (U.trans (fy S3));erw[1,0,6]
 by_cases c:z.ed=hor z.s p (ts.map λt=>t.worth ns z.to p)
 . apply aZ (congrArg V.int c) ?_;erw[y1S,λt v=>?_];let I:=ej v (.tup [.str "believed"]);let m:=M.same I;erw[0,D,C,j,0,m.hD,9,T.nA,dw,6];rw[tu];let e:fq ns ts p z={ z with pl:=z.pl+szs ts,aw:=("believed",none) }:=by
    unfold fq;rw[Pe c]
   apply q _ (y.trans ((fy I).trans (SameBut.upd _))) ?_;rw[e];erw[j,t,r,u,n,DbR.set (z:={ z with pl:=z.pl+szs ts,aw:=("believed",none) }) m.hD ah m.hC m.hH m.hT]
 . apply aF (λe=>c (V.int.inj e)) ?_;erw[0,D,C,j,_,0,M.hD,9,T.nT,AU,n,0,.inr (dV M.hT),2,y2S,λt v=>?_];let I:=ej v (.tup [.str "caught",.int (((z.to.map V.int).length:Int)+1)]);let m:=M.same I;erw[0,D,C,j,0,m.hD,9,T.nA,dw,6];rw[tu];let e:fq ns ts p z={ z with pl:=z.pl+szs ts,aw:=("caught",some ((z.to.length:Int)+1)) }:=by
    unfold fq;rw[Pd c]
   apply q _ (y.trans ((fy I).trans (SameBut.upd _))) ?_;rw[e];erw[j,t,r,u,n,DbR.set (z:={ z with pl:=z.pl+szs ts,aw:=("caught",some ((z.to.length:Int)+1)) }) m.hD ?_ m.hC m.hH m.hT];rw[ah,d8];rfl
def pO{xs:List Int}{j:Nat}(h:j<xs.length):atI (xs.map V.int) (j:Int)=some (.int (xs.getD j 0)):=cX (by rw[hI,fz h,m9,fz h];rfl)
def Jt{ns:List Str}{j:Nat}(h:j<ns.length):(ns.map (bj ts)).getD j 0=bj ts (ns.getD j ""):=by
 rw[m9,hI,m9,fz h];rfl
instance spGo(C CG:Addr):∀(D g:Addr)(z:Db)(ns:List Str)(ts:List Tr)(p:Int),vs=[.ref D]->DbAt C H D g z->Gm CG H g ns ts p->GmK ns ts p->z.to.length<=ns.length->cv z.to p->(∀H',SameBut D H H'->DbAt C H' D g (goOn ns ts p z)->Q .non H'):=1
def MP:FnScope ["self","done"] WA (aj EX):=%[|5]
def KD(F:#["go_on","Doubter.go_on",EX])(B:Bl mg)(T:DTxt K mg C)(TG:GTxt K mg CG)(mT:Meth K C "look_at_trees" x)(GT:#[14,x,n,WA,spTrees C CG])(bT:Binds K n WA []):#[15,f,fd,WA,spGo C CG]:=by
 exists MP
 erw[D,g,z,ns,ts,p,1,%[j,y,r,u,o|R],G,k,tl,po,q]at h;refine⟨_,(ad #[am,1,MP,aG aD rfl B.len fx %[aB (pv 0) rfl|ae]]
  (af (aJ (ai iI (pv 1) (aG aD rfl B.len fx %[aB (aB (pv 0) rfl) rfl|ae]) (ax _))
   (af (aQ (pv 0) (aR %[aI,ao aV (aO ix_list (aB (aB (pv 0) rfl) rfl) (pv 1) #[1]) ag|ae]) rfl))
   (af (bh (bt (pv 0) T.cl mT GT hr bT .nil bd)))))),?_⟩
 let J:=G;erw[a,b,d,O,%[v|hg],ha,hb,TS,hd]at J;erw[0,D,C,j,_,0,R.hD,9,T.nT,AU,o,0,.inr (dV R.hT),6];erw[0,0,D,C,j,_,0,R.hD,9,T.nG,jZ,g,CG,v,_,0,hg,TG.cl,TG.nS,pR ..,a,0,.inr (dV ha),2,0,6]
 by_cases c:z.to.length<ns.length
 . apply aZ (by rw[d8,d8];omega) ?_;let L:((z.to.map V.int).length:Int)=(z.to.length:Int):=by rw[d8]
   let M:ns.getD z.to.length ""∈ns:=by
    rw[m9,fz c];exact o4 c
   let U:=k.deg _ M;erw[0,D,C,j,_,0,R.hD,9,T.nG,jZ,g,CG,v,_,0,hg,TG.cl,TG.nD,BK ..,0,d,_,2,eH hd,by rw[L];exact pO (by rw[d8];exact c),2,y2S,λt N=>?_];rw[Jt c]at *
   let I:=ej N (.tup [.str "hear",.int (bj ts (ns.getD z.to.length "")+1)]);let m:=R.same I;erw[0,D,C,j,0,m.hD,9,T.nA,dw,6];rw[tu];let e:goOn ns ts p z={ z with aw:=("hear",some (bj ts (ns.getD z.to.length "")+1)) }:=by
    unfold goOn;rw[Pe c]
   apply q _ ((fy I).trans (SameBut.upd _)) ?_;rw[e];erw[j,t,r,u,o,DbR.set (z:={ z with aw:=("hear",some (bj ts (ns.getD z.to.length "")+1)) }) m.hD ah m.hC m.hH m.hT]
 . apply aF (by rw[d8,d8];omega) ?_;let e:goOn ns ts p z=fq ns ts p z:=by
    unfold goOn;rw[Pd c]
   rw[e]at q;erw[0,D,j,0,R.hD,Li,6];erw[D,g,z,ns,ts,p,1,%[j,y,r,u,o|R],G,k,3,po,q]
instance spBeg(C CG:Addr):∀(D g:Addr)(z:Db)(s:Int)(ns:List Str)(ts:List Tr)(p:Int),vs=[.ref D,.int s]->DbAt C H D g z->Gm CG H g ns ts p->GmK ns ts p->z.to.length<=ns.length->cv z.to p->(∀H',SameBut D H H'->DbAt C H' D g (zo ns ts p s z)->Q .non H'):=1
def CL:FnScope WR WR (aj sZ):=%[|5]
def Dl(F:#["begin_rounds","Doubter.begin_rounds",sZ])(T:DTxt K mg C)(TG:GTxt K mg CG)(mM:Meth K CG "mix" N)(GM:#[1,N,t,WM,spMix CG])(bM:Binds K t WM [])
 (O:Meth K C "go_on" U)(Y:#[15,U,u,WA,spGo C CG])(bG:Binds K u WA []):#[16,f,fd,WR,spBeg C CG]:=by
 exists CL
 erw[D,g,z,s,ns,ts,p,1,%[c,m,j,n,o|R],G,k,tl,po,q]at h;let Pp:Room 1 _:=hr.mono ⋯;refine⟨_,(ad (aQ (pv 0) (pv 1) rfl)
  (ad (aQ (pv 0) (cq (aB (pv 0) rfl) TG.cl mM GM Pp bM .nil bd %[aB (pv 0) rfl,1|ae]) rfl)
  (af (bh (bt (pv 0) T.cl O Y hr bG .nil bd))))),?_⟩
 let J:=G.ne R.hD jZ;let p2:=k.p2;let p9:=k.p9;erw[0,0,D,C,c,0,R.hD,9,T.nS,dw,6];rw[JJ];let v:SameBut D H (upd H D (.ins C c (dl g m j s n o z.ed z.pl))):=SameBut.upd _;let e:DbR C (upd H D (.ins C c (dl g m j s n o z.ed z.pl))) D g { z with s:=s } c m j n o:=DbR.set (z:={ z with s:=s }) R.hD R.hA R.hC R.hH R.hT;let x:=G.but R.hD J v;generalize upd H D (.ins C c (dl g m j s n o z.ed z.pl))=r at v e x;let y:=x;erw[a,b,d,tv,%[L|hg],ha,hb,TS,hd]at y;erw[0,D,C,c,_,0,e.hD,9,T.nG,jZ,g,L,0,hg,oa _ _ _ _ ⋯ ⋯ ⋯ ⋯,0,D,C,c,_,0,e.hD,9,T.nC,Lk,0,6];erw[g,a,b,d,j,z.cl,s,p,1,%[L|hg],3,3,.inr e.hC,6];erw[0,D,C,c,0,e.hD,9,T.nE,dw,6];rw[zX];let B:SameBut D r (upd r D (.ins C c (dl g m j s n o (hor s p z.cl) z.pl))):=SameBut.upd _;let R2:DbR C (upd r D (.ins C c (dl g m j s n o (hor s p z.cl) z.pl))) D g { z with s:=s,ed:=hor s p z.cl } c m j n o:=DbR.set (z:={ z with s:=s,ed:=hor s p z.cl }) e.hD e.hA e.hC e.hH e.hT;let M:=x.but e.hD J B;generalize upd r D (.ins C c (dl g m j s n o (hor s p z.cl) z.pl))=H2 at B R2 M;erw[0,D,c,0,R2.hD,Ho,6];erw[D,g,_,ns,ts,p,1,%[c,m,j,n,o|R2],M,k,tl,po,λH3 S3 D3=>q H3 (v.trans (B.trans S3)) D3]
instance spClaims(C CG:Addr):∀(D g l:Addr)(z:Db)(xs:List Int)(ns:List Str)(ts:List Tr)(p:Int),vs=[.ref D,.ref l]->DbAt C H D g z->Gm CG H g ns ts p->GmK ns ts p->H l=some (.tup (xs.map V.int))->z.to.length<=ns.length->cv z.to p->(∀H',SameBut D H H'->DbAt C H' D g (jz ns ts p xs z)->Q .non H'):=1
def zQ:FnScope WF WF (aj qp):=%[|5]
def Ap(F:#["hear_claims","Doubter.hear_claims",qp])(B:Bl mg)(T:DTxt K mg C)(TG:GTxt K mg CG)(L:Meth K C "begin_rounds" M)(N:#[16,M,x,WR,spBeg C CG])(O:Binds K x WR []):#[17,f,fd,WF,spClaims C CG]:=by
 exists zQ
 erw[D,g,l,z,xs,ns,ts,p,1,%[j,o,aC,m,n|R],G,k,hl,tl,po,q]at h;refine⟨_,(ad (aQ (pv 0) (pv 1) rfl)
  (af (aJ (ai aS (aG aD rfl B.len fx %[aB (aB (pv 0) rfl) rfl|ae]) ag (ax _))
   (af (bh (cq (pv 0) T.cl L N hr O .nil bd %[ag|ae])))
   (af (aQ (pv 0) (aR %[aI|ae]) rfl))))),?_⟩
 let U:=G.ne R.hD jZ;erw[0,0,D,C,j,0,R.hD,9,T.nC,dw,6];rw[JL];let v:SameBut D H (upd H D (.ins C j (dl g o l z.s m n z.ed z.pl))):=SameBut.upd _;let r:DbR C (upd H D (.ins C j (dl g o l z.s m n z.ed z.pl))) D g { z with cl:=xs } j o l m n:=DbR.set (z:={ z with cl:=xs }) R.hD R.hA hl R.hH R.hT;let y:=G.but R.hD U v;generalize upd H D (.ins C j (dl g o l z.s m n z.ed z.pl))=H1 at v r y;let J:=y;erw[a,b,d,tv,%[Y|hg],ha,hb,TS,hd]at J;let vl:=TS.length;erw[0,D,C,j,_,0,r.hD,9,T.nG,jZ,g,CG,Y,_,0,hg,TG.cl,TG.nT,nZ ..,b,0,.inr (dV hb),1,0,6]
 by_cases c:ts.length=1
 . apply aZ (congrArg V.int #[0]) ?_;let e:jz ns ts p xs z=zo ns ts p 0 { z with cl:=xs }:=by
    unfold jz;rw[Pe c]
   rw[e]at q;erw[0,D,j,0,r.hD,JW,6];erw[D,g,_,(0),ns,ts,p,1,%[j,o,l,m,n|r],y,k,tl,po,λH3 S3 D3=>q H3 (v.trans S3) D3]
 . apply aF (λe=>c (by have:=V.int.inj e;omega)) ?_;let e:jz ns ts p xs z={ z with cl:=xs,aw:=("coin",none) }:=by
    unfold jz;rw[Pd c]
   erw[y1S,λt ht=>?_];let I:=ej ht (.tup [.str "coin"]);let u:=r.same I;erw[0,D,C,j,0,u.hD,9,T.nA,dw,6];rw[tu];apply q _ (v.trans ((fy I).trans (SameBut.upd _))) ?_;rw[e];erw[j,t,l,m,n,DbR.set (z:={ z with cl:=xs,aw:=("coin",none) }) u.hD ah u.hC u.hH u.hT]
instance spHRow(C CG:Addr):∀(D g l:Addr)(z:Db)(xs:List Int)(ns:List Str)(ts:List Tr)(p:Int),vs=[.ref D,.ref l]->DbAt C H D g z->Gm CG H g ns ts p->GmK ns ts p->H l=some (.tup (xs.map V.int))->oi xs p->(∀H',SameBut D H H'->DbAt C H' D g (dY p xs z)->Q .non H'):=1
def Iz:FnScope WF WF (aj zV):=%[|5]
def IS(F:#["hear_row","Doubter.hear_row",zV])(B:Bl mg)(T:DTxt K mg C)(TG:GTxt K mg CG)(N:#[5,"both_ends",["values","p"],spEnds]):#[6,f,fd,WF,spHRow C CG]:=by
 exists Iz
 erw[D,g,l,z,xs,ns,ts,p,1,%[j,u,o,aH,n|R],G,k,hl,ro,q]at h;refine⟨_,(ad (aQ (pv 0) (pv 1) rfl)
  (af (aJ (ai aS (aq N hr ⋯ rfl %[1,aB (aB (pv 0) rfl) rfl|ae]) (aB (pv 0) rfl) (ax _))
   (af (aQ (pv 0) (aR %[aI|ae]) rfl))
   (af (aQ (pv 0) (aR %[aI,ao aV (aG aD rfl B.len fx %[aB (pv 0) rfl|ae]) ag|ae]) rfl))))),?_⟩
 let O:=G.ne R.hD jZ;erw[0,0,D,C,j,0,R.hD,9,T.nH,dw,6];rw[JK];let x:SameBut D H (upd H D (.ins C j (dl g u o z.s l n z.ed z.pl))):=SameBut.upd _;let v:DbR C (upd H D (.ins C j (dl g u o z.s l n z.ed z.pl))) D g { z with he:=xs } j u o l n:=DbR.set (z:={ z with he:=xs }) R.hD R.hA R.hC hl R.hT;let L:=G.but R.hD O x;generalize upd H D (.ins C j (dl g u o z.s l n z.ed z.pl))=H1 at x v L;let y:=L;erw[a,b,d,tv,%[U|hg],ha,hb,TS,hd]at y;erw[0,0,D,C,j,_,0,v.hD,9,T.nG,jZ,g,CG,U,_,0,hg,TG.cl,TG.nF,fN ..,l,xs,p,1,.inr v.hH,ro,k.pr,k.p9,λY M=>?_];let R2:=v.same M;erw[0,D,C,j,_,0,R2.hD,9,T.nE,BY,1,0,6];let r:SameBut D H Y:=x.trans (fy M)
 by_cases c:(val p xs 0+val p xs 1) % p=z.ed
 . apply aZ (congrArg V.int c) ?_;let e:dY p xs z={ z with he:=xs,aw:=("coin",none) }:=by
    unfold dY;rw[Pe c]
   erw[y1S,λt J=>?_];let I:=ej J (.tup [.str "coin"]);let m:=R2.same I;erw[0,D,C,j,0,m.hD,9,T.nA,dw,6];rw[tu];apply q _ (r.trans ((fy I).trans (SameBut.upd _))) ?_;rw[e];erw[j,t,o,l,n,DbR.set (z:={ z with he:=xs,aw:=("coin",none) }) m.hD ah m.hC m.hH m.hT]
 . apply aF (λe=>c (V.int.inj e)) ?_;let e:dY p xs z={ z with he:=xs,aw:=("caught",some ((z.to.length:Int)+1)) }:=by
    unfold dY;rw[Pd c]
   erw[0,D,C,j,_,0,R2.hD,9,T.nT,AU,n,0,.inr (dV R2.hT),2,y2S,λt J=>?_];let I:=ej J (.tup [.str "caught",.int (((z.to.map V.int).length:Int)+1)]);let m:=R2.same I;erw[0,D,C,j,0,m.hD,9,T.nA,dw,6];rw[tu];apply q _ (r.trans ((fy I).trans (SameBut.upd _))) ?_;rw[e];erw[j,t,o,l,n,DbR.set (z:={ z with he:=xs,aw:=("caught",some ((z.to.length:Int)+1)) }) m.hD ?_ m.hC m.hH m.hT];rw[ah,d8];rfl
end
section
variable {C CG:Addr}
def mQ{K:W.Frag}{H:Hp}{a:Addr}{xs:List Int}(h:H a=some (.tup (xs.map V.int))):Rep K H (.ref a) (.tuple (xs.map PyData.int)):=.tup (dV h) (dq xs)
def BU(xs:List Int):PyData.eqv (.tuple (xs.map PyData.int)) (.tuple [])=decide (xs=[]):=by
 cases xs with
 |nil=>rfl
 |cons a r=>rfl
def mI(ns:List Int):SeqAt.shaped (.tuple (ns.map PyData.int))=true:=by
 simp [SeqAt.shaped,PyData.canLay0,PyData.depth,W.ke_canLayAll0,W.ke_depthAll]
instance spHear(C CG:Addr):∀(D g l:Addr) (z:Db) (xs:List Int) (ns:List Str) (ts:List Tr) (p:Int),vs=[.ref D,.ref l]->DbAt C H D g z->Gm CG H g ns ts p->GmK ns ts p->H l=some (.lst (xs.map V.int))->z.aw=(("hear":Str),some (xs.length:Int))->cv xs p->xs.length<=500->(z.cl≠[]->oi xs p)->z.to.length<=ns.length->cv z.to p->(∀H',SameBut D H H'->DbAt C H' D g (du ns ts p xs z)->Q .non H'):=1
def EU:FnScope WF WF (aj wA):=%[|5]
def FO(F:#["hear","Doubter.hear",wA])(B:Bl mg)(T:DTxt K mg C)(TG:GTxt K mg CG)(gG:#[1,"is_number",Wa,spIsNum])
 (mC:Meth K C "hear_claims" fC)(GC:#[17,fC,ap,WF,spClaims C CG])(bC:Binds K ap WF [])
 (mR:Meth K C "hear_row" fR)(GR:#[6,fR,ar,WF,spHRow C CG])(bR:Binds K ar WF []):#[18,f,fd,WF,spHear C CG]:=by
 exists EU
 erw[D,g,l,z,xs,ns,ts,p,1,%[m,r,y,L,M|R],G,k,hl,ea,xo,xl,ro,tl,po,q]at h;let as:Room 6 _:=hr.mono ⋯;refine⟨_,(ad (aJ (ai jw (aO ix_tup (aB (pv 0) rfl) ag #[1]) aI (ax _)) bJ aE)
  (ad (aJ (ai jw (aG aD rfl B.len fx %[1|ae]) (aO ix_tup (aB (pv 0) rfl) ag #[1]) (ax _)) bJ aE)
  (ad (aJ (iE (dP (aG (uB rfl) rfl B.all RB (aa (bL (N:=WA) (ix:=[0]) rfl
   #[3] rfl
   (cI (pv 1)) (λ_ _ _=>cu (aq gG hr ⋯ rfl %[0,kU K (kU K (pv 1))|ae]))) ae)))) bJ aE)
  (ad (aQ (pv 0) (ao aV (aB (pv 0) rfl) (aG aD rfl B.len fx %[1|ae])) rfl)
  (af (aJ (ai (oI hr.units) (aB (pv 0) rfl) (aR ae) (ax _))
   (af (bh (cq (pv 0) T.cl mC GC hr bC .nil bd %[aX bq rfl B.tuple cw %[1|ae]|ae])))
   (af (bh (cq (pv 0) T.cl mR GR as bR .nil bd %[aX bq rfl B.tuple cw %[1|ae]|ae]))))))))),?_⟩
 let gD:=G.ne R.hD jZ;let hA:=R.hA;rw[ea]at hA;let hA:H r=some (.tup [.str "hear",.int (xs.length:Int)]):=hA;erw[0,D,C,m,_,0,R.hD,9,T.nA,Hq,r,_,2,dV hA,cX (j:=0) rfl,1,0,6];apply yM rfl ?_;erw[0,l,0,.inl (eH hl),0,D,C,m,_,0,R.hD,9,T.nA,Hq,r,_,2,dV hA,cX (j:=1) rfl,1,0,6];apply yM (by rw[d8]) ?_;let G':=G;erw[a,b,d,tv,%[dg|hg],ha,hb,TS,hd]at G';erw[0,l,1,%[_|eH hl],λW hW=>?_];apply cW (K:=K) (xs:=xs.map V.int) (λi H'=>H' W=some (.lst ((List.replicate i true).map V.bl))/\Same H H') %[by rw[ah];rfl|ej hW _] (λi H' _ h=>eH (h.2 _ _ hl)) ?_ ?_
 . rintro i v H2 hv ⟨av,O⟩;let hi:=(Pl hv).1;rw[hI]at hv;let%[n,hn|1]:=oe hv;let nr:=xo n (ms hn);erw[0,0,D,C,m,_,0,O _ _ R.hD,9,T.nG,jZ,g,CG,dg,_,0,O _ _ hg,TG.cl,TG.nF,fN ..,n,p,1,6];rw[ft nr.1,ft nr.2];erw[_,av,6,Nx.of hi %[6|λb o e=>?_]]
   . rw[d8,O3];rw[d8]at hi;exact aM #[0]
   . rw[ah,List.replicate_succ',fj];rfl
   . rw[az (aN e hW)];exact O _ _ e
 rintro H1 ⟨aw,S1⟩;erw[W,0,eH aw,6];let ea:(List.replicate (xs.map V.int).length true).all id=true:=by simp
 rw [ea];erw[0,6];apply cQ ?_;let x:=R.same S1;let G1:=G.same S1;erw[0,D,C,m,_,0,x.hD,9,T.nP,BW,0,l,0,.inl (eH (S1 _ _ hl)),2,0,D,C,m,0,x.hD,9,T.nP,dw,6];rw[wI,d8];let O:SameBut D H1 (upd H1 D (.ins C m (dl g r y z.s L M z.ed (z.pl+(xs.length:Int))))):=SameBut.upd _;let R2:DbR C (upd H1 D (.ins C m (dl g r y z.s L M z.ed (z.pl+(xs.length:Int))))) D g { z with pl:=z.pl+(xs.length:Int) } m r y L M:=DbR.set (z:={ z with pl:=z.pl+(xs.length:Int) }) x.hD x.hA x.hC x.hH x.hT;let G2:=G1.but x.hD gD O;let ab:upd H1 D (.ins C m (dl g r y z.s L M z.ed (z.pl+(xs.length:Int)))) l=some (.lst (xs.map V.int)):=by
  rw[az (bO hl R.hD nofun)];exact S1 _ _ hl
 generalize upd H1 D (.ins C m (dl g r y z.s L M z.ed (z.pl+(xs.length:Int))))=H2 at O R2 G2 ab;erw[0,D,C,m,_,0,R2.hD,9,T.nC,Lk,y0S,λu hu=>?_];let I:=ej hu (.tup []);let Y:=R2.same I;let ac:upd H2 u (.tup []) u=some (.tup []):=ah;let U:=I _ _ ab;let G3:=G2.same I;generalize upd H2 u (.tup [])=H3 at I Y ac U G3;let an:SameBut D H H3:=(fy S1).trans (O.trans (fy I));erw[_,_,mQ Y.hC,mQ (xs:=[]) ac,mI _,mI [],0,6];rw[show PyData.eqv (.tuple (z.cl.map PyData.int)) (.tuple (([]:List Int).map PyData.int))=decide (z.cl=[])from BU z.cl]
 by_cases c:z.cl=[]
 . apply aZ c ?_;let e:du ns ts p xs z=jz ns ts p xs { z with pl:=z.pl+(xs.length:Int) }:=by
    unfold du;rw[Pe c]
   rw[e]at q;erw[0,D,m,0,Y.hD,dl_n6,6];erw[0,l,0,.inl %[eH U|λt ht=>?_]];let J:=ej ht (.tup (xs.map V.int));erw[D,g,t,_,xs,ns,ts,p,1,%[m,r,y,L,M|Y.same J],G3.same J,k,ah,tl,po,λH5 S5 D5=>q H5 (an.trans ((fy J).trans S5)) D5]
 . apply aF c ?_;let e:du ns ts p xs z=dY p xs { z with pl:=z.pl+(xs.length:Int) }:=by
    unfold du;rw[Pd c]
   rw[e]at q;erw[0,D,m,0,Y.hD,dl_n8,6];erw[0,l,0,.inl %[eH U|λt ht=>?_]];let J:=ej ht (.tup (xs.map V.int));erw[D,g,t,_,xs,ns,ts,p,1,%[m,r,y,L,M|Y.same J],G3.same J,k,ah,ro c,λH5 S5 D5=>q H5 (an.trans ((fy J).trans S5)) D5]
instance spToss(C CG:Addr):∀(D g:Addr) (z:Db) (r:Int) (ns:List Str) (ts:List Tr) (p:Int),vs=[.ref D,.int r]->DbAt C H D g z->Gm CG H g ns ts p->GmK ns ts p->z.aw.1="coin"->0<=r->r<p->z.to.length<=ns.length->(z.he≠[]->oi z.he p/\z.to.length<ns.length)->cv z.to p->(∀H',SameBut D H H'->DbAt C H' D g (eg ns ts p r z)->Q .non H'):=1
def ES:FnScope Wb Wb (aj wy):=%[|5]
def JZ(a:Str×Option Int):(awV a)[0]?=some (.str a.1):=by
 unfold awV
 split <;> rfl
instance rCatA(K:W.Frag)(x:V)(y:V)(H:Hp)(Q:VK):∀a b xs ys,x=.ref a->y=.ref b->SqT K H a xs->SqT K H b ys->ys≠[]->xs.length+ys.length<=sizeLine->(xs=[]->Q (.ref b) H)->(xs≠[]->∀p,H p=none->Q (.ref p) (upd H p (.tup (xs++ys)))):=0
def IM:OpR X (binaryOp .Add) (rCatA X.K):=by
 exists 4,x,y,v,u,Q,I,d,e,h;erw[a,b,xs,ys,ex,g,ha,hb,j,m,n,o]at h
 by_cases c:xs=[]
 . subst c;exact pE Pc s σ H x y v u Q I d e %[a,b,ys,ex,g,ha,hb|n rfl]
 . exact op_catT Pc s σ H x y v u Q I d e %[a,b,xs,ys,ex,g,ha,hb,c,m,λz=>absurd z j|λ_=>o c]
def FM(F:#["toss","Doubter.toss",wy])(B:Bl mg)(T:DTxt K mg C)(TG:GTxt K mg CG)(gG:#[1,"is_number",Wa,spIsNum])(dj:#[4,"value_at",WL,spVal])
 (mB:Meth K C "begin_rounds" fB)(GB:#[16,fB,av,WR,spBeg C CG])(bB:Binds K av WR [])
 (mG:Meth K C "go_on" fG)(GG:#[15,fG,aw,WA,spGo C CG])(bG:Binds K aw WA []):#[17,f,fd,Wb,spToss C CG]:=by
 exists ES
 erw[D,g,z,r,ns,ts,p,1,%[m,n,v,o,y|R],G,k,ea,r0,r1,tl,ro,po,q]at h;let ab:Room 15 _:=hr.mono ⋯;refine⟨_,(ad (aJ (ai jw (aO ix_tup (aB (pv 0) rfl) ag #[1]) aI (ax _)) bJ aE)
  (ad (aJ (iE (dP (aq gG hr ⋯ rfl %[1,aB (aB (pv 0) rfl) rfl|ae]))) bJ aE)
  (ad (aQ (pv 0) (ao aV (aB (pv 0) rfl) ag) rfl)
  (af (aJ (ai (oI hr.units) (aB (pv 0) rfl) (aR ae) (ax _))
   (af (bh (cq (pv 0) T.cl mB GB hr bB .nil bd %[1|ae])))
   (ad (aQ (pv 0) (aq dj hr ⋯ rfl %[aB (pv 0) rfl,1,aB (aB (pv 0) rfl) rfl|ae]) rfl)
   (ad (aQ (pv 0) (ao IM (aB (pv 0) rfl) (aR %[1|ae])) rfl)
   (af (bh (bt (pv 0) T.cl mG GG ab bG .nil bd)))))))))),?_⟩
 let gD:=G.ne R.hD jZ;let G':=G;erw[a,b,d,tv,%[dg|hg],ha,hb,TS,hd]at G';erw[0,D,C,m,_,0,R.hD,9,T.nA,Hq,n,_,2,dV R.hA,cX (j:=0) (JZ _),1,0,6];apply yM (congrArg V.str ea) ?_;erw[0,0,D,C,m,_,0,R.hD,9,T.nG,jZ,g,CG,dg,_,0,hg,TG.cl,TG.nF,fN ..,r,p,1,6];rw[ft r0,ft r1];erw[0,6];apply cQ ?_;erw[0,D,C,m,_,0,R.hD,9,T.nP,BW,2,0,D,C,m,0,R.hD,9,T.nP,dw,6];rw[wI];let S2:SameBut D H (upd H D (.ins C m (dl g n v z.s o y z.ed (z.pl+1)))):=SameBut.upd _;let R2:DbR C (upd H D (.ins C m (dl g n v z.s o y z.ed (z.pl+1)))) D g { z with pl:=z.pl+1 } m n v o y:=DbR.set (z:={ z with pl:=z.pl+1 }) R.hD R.hA R.hC R.hH R.hT;let G2:=G.but R.hD gD S2;generalize upd H D (.ins C m (dl g n v z.s o y z.ed (z.pl+1)))=H2 at S2 R2 G2;erw[0,D,C,m,_,0,R2.hD,9,T.nH,Lj,y0S,λu hu=>?_];let I:=ej hu (.tup []);let M:=R2.same I;let ac:upd H2 u (.tup []) u=some (.tup []):=ah;let G3:=G2.same I;generalize upd H2 u (.tup [])=H3 at I M ac G3;let an:SameBut D H H3:=S2.trans (fy I);erw[_,_,mQ M.hH,mQ (xs:=[]) ac,mI _,mI [],0,6];rw[show PyData.eqv (.tuple (z.he.map PyData.int)) (.tuple (([]:List Int).map PyData.int))=decide (z.he=[])from BU z.he]
 by_cases c:z.he=[]
 . apply aZ c ?_;let e:eg ns ts p r z=zo ns ts p r { z with pl:=z.pl+1 }:=by
    unfold eg;rw[Pe c]
   rw[e]at q;erw[0,D,m,0,M.hD,JW,0,6];erw[D,g,_,r,ns,ts,p,1,%[m,n,v,o,y|M],G3,k,tl,po,λH5 S5 D5=>q H5 (an.trans S5) D5]
 . apply aF c ?_;let%[aK|a9]:=ro c;let e:eg ns ts p r z=goOn ns ts p { z with pl:=z.pl+1,ed:=val p z.he r,to:=z.to++[r] }:=by
    unfold eg;rw[Pd c]
   rw [e]at q;let aL:=G3;erw[a3,b3,d3,bb,%[aP|a0],_]at aL;erw[0,D,C,m,_,0,M.hD,9,T.nH,Lj,0,0,D,C,m,_,0,M.hD,9,T.nG,jZ,g,CG,aP,_,0,a0,TG.cl,TG.nF,fN ..,o,z.he,r,p,1,.inr M.hH,aK,k.pr,k.p9,r0,r1,λH4 S4=>?_];let N:=M.same S4;let G4:=G3.same S4;erw[0,D,C,m,0,N.hD,9,T.nE,dw,6];rw[zX];let S5:SameBut D H4 (upd H4 D (.ins C m (dl g n v z.s o y (val p z.he r) (z.pl+1)))):=SameBut.upd _;let R5:DbR C (upd H4 D (.ins C m (dl g n v z.s o y (val p z.he r) (z.pl+1)))) D g { z with pl:=z.pl+1,ed:=val p z.he r } m n v o y:=DbR.set (z:={ z with pl:=z.pl+1,ed:=val p z.he r }) N.hD N.hA N.hC N.hH N.hT;let G5:=G4.but N.hD gD S5;generalize upd H4 D (.ins C m (dl g n v z.s o y (val p z.he r) (z.pl+1)))=H5 at S5 R5 G5;let a7:SameBut D H H5:=an.trans ((fy S4).trans S5);erw[0,D,C,m,_,0,R5.hD,9,T.nT,AU,0,y1S,λt ht=>?_];let J:=ej ht (.tup [.int r]);let R6:=R5.same J;let G6:=G5.same J;let O:upd H5 t (.tup [.int r]) t=some (.tup [.int r]):=ah;generalize upd H5 t (.tup [.int r])=H6 at J R6 G6 O;let n10:=k.n10;let fin:∀(x:Addr)(H7:Hp),Same H6 H7->H7 x=some (.tup ((z.to++[r]).map V.int))->(ps_fin:True)->∀QQ:Hp->Prop,(∀Y,SameBut D H7 Y->DbR C Y D g { z with pl:=z.pl+1,ed:=val p z.he r,to:=z.to++[r] } m n v o x->Gm CG Y g ns ts p->QQ Y)->QQ (upd H7 D (.ins C m (dl g n v z.s o x (val p z.he r) (z.pl+1)))):=by
    intro x H7 s7 hx _ QQ hq;let U:=R6.same s7;exact hq _ (SameBut.upd _) (DbR.set (z:={ z with pl:=z.pl+1,ed:=val p z.he r,to:=z.to++[r] }) U.hD U.hA U.hC U.hH hx) ((G6.same s7).but U.hD gD (SameBut.upd _))
   let ap:cv (z.to++[r]) p:=λx hx=>by
    rcases qO0 hx with h | h
    . exact po x h
    . rw[Pn h];erw[r0,r1]
   let ar:(z.to++[r]).length<=ns.length:=by
    rw[fm,nm];omega
   let as:SameBut D H H6:=a7.trans (fy J);erw[y,t,2,dV R6.hT,dV O,(λz=>by cases z),cx (by rw[d8];show z.to.length+1<=1000;omega),λz0=>?_,λz0 p7 a8=>?_]
   . let e0:z.to=[]:=#[z0,0]
     erw[0,D,C,m,0,R6.hD,9,T.nT,dw,6];rw[Fg];apply fin t H6 (Same.refl _) (by rw[e0];exact O) trivial _ λY S8 R8 G8=>?_
     erw[0,D,m,0,R8.hD,Ho,6];erw[D,g,_,ns,ts,p,1,%[m,n,v,o,t|R8],G8,k,ar,ap,λH9 S9 D9=>q H9 (as.trans (S8.trans S9)) D9]
   . let L:=ej a8 (.tup (z.to.map V.int++[.int r]));let U:=R6.same L;erw[0,D,C,m,0,U.hD,9,T.nT,dw,6];rw[Fg];apply fin p7 _ L (by rw[ah,fj];rfl) trivial _ λY S8 R8 G8=>?_
     erw[0,D,m,0,R8.hD,Ho,6];erw[D,g,_,ns,ts,p,1,%[m,n,v,o,p7|R8],G8,k,ar,ap,λH9 S9 D9=>q H9 (as.trans ((fy L).trans (S8.trans S9))) D9]
instance spDInit(C CG:Addr):∀(D g dx:Addr)(ns:List Str)(ts:List Tr)(p:Int),vs=[.ref D,.ref g]->H D=some (.ins C dx [])->Gm CG H g ns ts p->g≠D->(∀H',SameBut D H H'->DbAt C H' D g (Db.new ts)->Q .non H'):=1
def ET:FnScope WI WI (aj wz):=%[|5]
instance spOf(C:Addr)(t:Db->V->Hp->Prop):∀(D g:Addr)(z:Db),vs=[.ref D]->DbAt C H D g z->(∀v,t z v H->Q v H):=1
def IA:FnScope WA WA (aj zW):=%[|5]
def IT(F:#["due","Doubter.due",zW])(T:DTxt K mg C):#[1,f,fd,WA,spOf C λz v _=>v=.int z.ed]:=by
 exists IA
 erw[D,g,z,1,%[b,c,d,e,j|R],q]at h;erw[_,(af (au (aB (pv 0) rfl))),6];erw[0,D,C,b,_,0,R.hD,9,T.nE,BY,q _ rfl]
def CJ:FnScope WA WA (aj sX):=%[|5]
def Dj(F:#["waits","Doubter.waits",sX])(T:DTxt K mg C):#[1,f,fd,WA,spOf C λz v H=>∃a,v=.ref a/\H a=some (.tup (awV z.aw))]:=by
 exists CJ
 erw[D,g,z,1,%[b,c,d,e,j|R],q]at h;erw[_,(af (au (aB (pv 0) rfl))),6];erw[0,D,C,b,_,0,R.hD,9,T.nA,Hq,q _ %[c,1|R.hA]]
end
section
variable {C CG:Addr}
def awD(a:Str×Option Int):PyData:=match a.2 with
 |none=>.tuple [.str a.1]
 |some n=>.tuple [.str a.1,.int n]
def Kw{K:W.Frag}{H:Hp}{c:Addr}(h:H c=some (.tup (awV a))):Rep K H (.ref c) (awD a):=by
 erw[x,n]at a;cases n with
 |none=>exact .tup (dV h) (.cons (.str x) .nil)
 |some n=>exact .tup (dV h) (.cons (.str x) (.cons (.int n) .nil))
def AwW(x:Str):Prop:=x="hear"∨x="coin"∨x="caught"∨x="believed"
def AwW.ok(h:AwW x):PyData.strOk x=true:=by
 rcases h with rfl | rfl | rfl | rfl <;> decide
def vd{a:Str×Option Int}(h:AwW a.1):SeqAt.shaped (awD a)=true:=by
 erw[x,n]at a
 have:=h.ok
 cases n <;> simp [awD,SeqAt.shaped,PyData.canLay0,PyData.depth,PyData.canLayAll0,PyData.depthAll] <;> exact this
def Ir(x y:Str):(x==y)=decide (x=y):=by
 by_cases c:x=y
 . subst c;simp
 . rw[fw c];simpa using c
def Ld(a b:Str×Option Int):PyData.eqv (awD a) (awD b)=decide (a=b):=by
 erw[x,n]at a;erw[y,m]at b;cases n <;> cases m <;> simp [awD,PyData.eqv,PyData.eqvAll,Ir]
 rename_i u v
 by_cases c:u=v
 . subst c;simp
 . simp [c]
def rh:∀ns c:List Int,PyData.eqvAll (ns.map PyData.int) (c.map PyData.int)=decide (ns=c)
 | [],[]=>rfl
 | [],_::_=>rfl
 |_::_,[]=>rfl
 |a::r,b::t=>by
   simp only[lw,PyData.eqvAll,PyData.eqv,rh r t]
   by_cases h1:a=b <;> by_cases h2:r=t <;> simp [h1,h2]
def qE(ns b:List Int):PyData.eqv (.list (ns.map PyData.int)) (.list (b.map PyData.int))=decide (ns=b):=by simp [PyData.eqv,rh]
def dB(ns:List Int):SeqAt.shaped (.list (ns.map PyData.int))=true:=by
 simp [SeqAt.shaped,PyData.canLay0,PyData.depth,W.ke_canLayAll0,W.ke_depthAll]
end
section
variable {C CG:Addr}
def d1(g:Addr):List (Str×V):=[("game",.ref g)]
def d2(g t1:Addr):List (Str×V):=[("game",.ref g),("awaited",.ref t1)]
def d3(g t1 b:Addr):List (Str×V):=[("game",.ref g),("awaited",.ref t1),("claims",.ref b)]
def d4(g t1 b:Addr):List (Str×V):=[("game",.ref g),("awaited",.ref t1),("claims",.ref b),("s",.int 0)]
def d5(g t1 b c:Addr):List (Str×V):=[("game",.ref g),("awaited",.ref t1),("claims",.ref b),("s",.int 0),("heard",.ref c)]
def d6(g t1 b c t4:Addr):List (Str×V):=[("game",.ref g),("awaited",.ref t1),("claims",.ref b),("s",.int 0),("heard",.ref c),("tossed",.ref t4)]
def d7(g t1 b c t4:Addr):List (Str×V):=[("game",.ref g),("awaited",.ref t1),("claims",.ref b),("s",.int 0),("heard",.ref c),("tossed",.ref t4),("held",.int 0)]
def pd1(g:Addr):cf "game" (.ref g) []=d1 g:=by rfl'
def pd2(g t1:Addr):cf "awaited" (.ref t1) (d1 g)=d2 g t1:=by rfl'
def pd3(g t1 b:Addr):cf "claims" (.ref b) (d2 g t1)=d3 g t1 b:=by rfl'
def pd4(g t1 b:Addr):cf "s" (.int 0) (d3 g t1 b)=d4 g t1 b:=by rfl'
def pd5(g t1 b c:Addr):cf "heard" (.ref c) (d4 g t1 b)=d5 g t1 b c:=by rfl'
def pd6(g t1 b c t4:Addr):cf "tossed" (.ref t4) (d5 g t1 b c)=d6 g t1 b c t4:=by rfl'
def pd7(g t1 b c t4:Addr):cf "held" (.int 0) (d6 g t1 b c t4)=d7 g t1 b c t4:=by rfl'
def pd8(g t1 b c t4:Addr):cf "places" (.int 0) (d7 g t1 b c t4)=dl g t1 b 0 c t4 0 0:=by rfl'
def FN(F:#["__init__","Doubter.__init__",wz])(B:Bl mg)(T:DTxt K mg C)(TG:GTxt K mg CG):#[1,f,fd,WI,spDInit C CG]:=by
 exists ET
 erw[D,g,c,ns,ts,p,1,hD,G,gD,q]at h;refine⟨_,(ad (aQ (pv 0) (pv 1) rfl)
  (ad (aQ (pv 0) (aR %[aI,aG aD rfl B.len fx %[aB (pv 1) rfl|ae]|ae]) rfl)
  (ad (aQ (pv 0) (aR ae) rfl)
  (ad (aQ (pv 0) ag rfl)
  (ad (aQ (pv 0) (aR ae) rfl)
  (ad (aQ (pv 0) (aR ae) rfl)
  (ad (aQ (pv 0) ag rfl)
  (af (aQ (pv 0) ag rfl))))))))),?_⟩
 erw[a,b,d,L,%[dg|hg],ha,hb,TS,hd]at G;let vl:=TS.length;erw[0,0,D,C,c,0,hD,9,T.nG,(by show 0<1000;decide),6];rw[pd1];let M:SameBut D H (upd H D (.ins C c (d1 g))):=SameBut.upd _;let h1:upd H D (.ins C c (d1 g)) D=some (.ins C c (d1 g)):=ah;generalize upd H D (.ins C c (d1 g))=H1 at M h1;let nb:=bO hb hD nofun;erw[0,g,CG,dg,_,0,M _ _ gD hg,TG.cl,TG.nT,nZ ..,b,0,.inr (dV (M _ _ nb hb)),y2S,λt1 r=>?_];let I1:=ej r (.tup [.str "hear",.int (L.length:Int)]);let g1:upd H1 t1 (.tup [.str "hear",.int (L.length:Int)]) t1=some (.tup [.str "hear",.int (L.length:Int)]):=ah;generalize upd H1 t1 (.tup [.str "hear",.int (L.length:Int)])=N at I1 g1;erw[0,D,C,c,0,I1 _ _ h1,9,T.nA,(by show 1<1000;decide),6];rw[pd2];let n1:t1≠D:=(aN h1 r).symm;let S2:SameBut D N (upd N D (.ins C c (d2 g t1))):=SameBut.upd _;let h2:upd N D (.ins C c (d2 g t1)) D=some (.ins C c (d2 g t1)):=ah;let k1:=S2 _ _ n1 g1;generalize upd N D (.ins C c (d2 g t1))=H3 at S2 h2 k1;erw[y0S,λj t=>?_];let O:=ej t (.tup []);let g2:upd H3 j (.tup []) j=some (.tup []):=ah;generalize upd H3 j (.tup [])=U at O g2;erw[0,D,C,c,0,O _ _ h2,9,T.nC,(by show 2<1000;decide),6];rw[pd3];let Y:j≠D:=(aN h2 t).symm;let S3:SameBut D U (upd U D (.ins C c (d3 g t1 j))):=SameBut.upd _;let h3:upd U D (.ins C c (d3 g t1 j)) D=some (.ins C c (d3 g t1 j)):=ah;generalize upd U D (.ins C c (d3 g t1 j))=H5 at S3 h3;erw[0,D,C,c,0,h3,9,T.nS,(by show 3<1000;decide),6];rw[pd4];let S4:SameBut D H5 (upd H5 D (.ins C c (d4 g t1 j))):=SameBut.upd _;let h4:upd H5 D (.ins C c (d4 g t1 j)) D=some (.ins C c (d4 g t1 j)):=ah;generalize upd H5 D (.ins C c (d4 g t1 j))=H6 at S4 h4;erw[y0S,λm v=>?_];let y:=ej v (.tup []);let g3:upd H6 m (.tup []) m=some (.tup []):=ah;generalize upd H6 m (.tup [])=H7 at y g3;erw[0,D,C,c,0,y _ _ h4,9,T.nH,(by show 4<1000;decide),6];rw[pd5];let n3:m≠D:=(aN h4 v).symm;let z:SameBut D H7 (upd H7 D (.ins C c (d5 g t1 j m))):=SameBut.upd _;let h5:upd H7 D (.ins C c (d5 g t1 j m)) D=some (.ins C c (d5 g t1 j m)):=ah;generalize upd H7 D (.ins C c (d5 g t1 j m))=H8 at z h5;erw[y0S,λt4 J=>?_];let o:=ej J (.tup []);let g4:upd H8 t4 (.tup []) t4=some (.tup []):=ah;generalize upd H8 t4 (.tup [])=H9 at o g4;erw[0,D,C,c,0,o _ _ h5,9,T.nT,(by show 5<1000;decide),6];rw[pd6];let n4:t4≠D:=(aN h5 J).symm;erw[0,D,C,c,0,ah,9,T.nE,(by show 6<1000;decide),6];rw[pd7];erw[0,D,C,c,0,ah,9,T.nP,(by show 7<1000;decide),6];rw[pd8];let W:∀{x:Addr} {H':Hp} {o1 o2 o3:HO} {u:HO},x≠D->H' x=some u->upd (upd (upd H' D o1) D o2) D o3 x=some u:=λ{x H' o1 o2 o3 u} n e=>by
  rw[az n,az n,az n];exact e
 let k2:=S3 _ _ Y g2;let k3:=z _ _ n3 g3;apply q _ (M.trans ((fy I1).trans (S2.trans ((fy O).trans (S3.trans (S4.trans ((fy y).trans (z.trans ((fy o).trans ((SameBut.upd _).trans ((SameBut.upd _).trans (SameBut.upd _)))))))))))) %[c,t1,j,m,t4,ah,6,6,6|W n4 g4]
 . rw[vl]at k1;exact W n1 (o _ _ (z _ _ n1 (y _ _ (S4 _ _ n1 (S3 _ _ n1 (O _ _ k1))))))
 . exact W Y (o _ _ (z _ _ Y (y _ _ (S4 _ _ Y k2))))
 . exact W n3 (o _ _ k3)
end
def gV(o:Str)(p q:Bool):Bool:=if o="and" then p&&q else if o="or" then p||q else if o="odd" then p != q else p==q
def Tr.holds(ns:List Str)(st:List Int):Tr->Bool
 |.is x=>match fL x ns with | some j=>decide (st.getD j 0=1) | none=>false
 |.yes=>true
 |.no=>false
 |.not a=>!a.holds ns st
 |.bin o a b=>gV o (a.holds ns st) (b.holds ns st)
instance spJoined:∀(o:Str)(p q:Bool),vs=[.str o,.bl p,.bl q]->Q (.bl (gV o p q)) H:=1
def CC:FnScope Wc Wc (aj sT):=%[|5]
def De(F:#["joined",sT]):#[1,f,fd,Wc,spJoined]:=by
 exists CC
 erw[o,p,q,1,k]at h;refine⟨_,(ad (aJ (ai aS (pv 0) aI (ax _)) (af (au (tN (pv 1) (qw (pv 2))))) aE)
  (ad (aJ (ai aS (pv 0) aI (ax _)) (af (au (JO (pv 1) (qw (pv 2))))) aE)
  (ad (aJ (ai aS (pv 0) aI (ax _)) (af (au (cJ jw (pv 1) (pv 2) (ax _)))) aE)
  (af (au (cJ aS (pv 1) (pv 2) (ax _))))))),?_⟩
 erw[0,1,0,6]
 by_cases b:V.str o=V.str "and"
 . apply aZ b ?_;let e:gV o p q=(p&&q):=by unfold gV;rw[Pe (jp b)]
   rw[e]at k;erw[0,p,1,6];cases p with
   |true=>exact eF %[0|by simpa using k]
   |false=>exact cQ #[k,0]
 apply aF b ?_;let n1:¬ o="and":=λz=>b (by rw[z])
 erw[0,1,0,6]
 by_cases c:V.str o=V.str "or"
 . apply aZ c ?_;let e:gV o p q=(p||q):=by unfold gV;rw[Pd n1,Pe (jp c)]
   rw[e]at k;erw[0,p,1,6];cases p with
   |true=>exact eF #[k,0]
   |false=>exact cQ %[0|by simpa using k]
 apply aF c ?_;let g:¬ o="or":=λz=>c (by rw[z])
 erw[0,1,0,6]
 by_cases d:V.str o=V.str "odd"
 . apply aZ d ?_;let e:gV o p q=(p != q):=by unfold gV;rw[Pd n1,Pd g,Pe (jp d)]
   rw[e]at k;erw[0,0,1,6];let e2:(!decide (V.bl p=V.bl q))=(p != q):=by cases p <;> cases q <;> decide
   show Q (.bl (!decide (V.bl p=V.bl q))) H;rw[e2];exact k
 apply aF d ?_;let j:¬ o="odd":=λz=>d (by rw[z])
 let e:gV o p q=(p==q):=by unfold gV;rw[Pd n1,Pd g,Pd j]
 rw[e]at k;erw[0,0,1,6];let e2:decide (V.bl p=V.bl q)=(p==q):=by cases p <;> cases q <;> decide
 show Q (.bl (decide (V.bl p=V.bl q))) H;rw[e2];exact k
instance spHolds(n:Nat):∀(v:V)(t:Tr)(a b:Addr)(ns:List Str)(st:List Int),vs=[v,.ref a,.ref b]->TreeAt H v t->t.ok ns->t.depth<=n->NamesAt H a ns->H b=some (.tup (st.map V.int))->st.length=ns.length->Q (.bl (t.holds ns st)) H:=1
def nO:FnScope ["tree","switches","setting","word","first"] WV (aj kK):=%[|5]
def AO{n:Nat}(F:#["holds_at",kK])(L:#[1,"joined",Wc,spJoined])(B:#[n+2,"holds_at",WV,spHolds n]):#[n+3,f,fd,WV,spHolds (n+1)]:=by
 exists nO
 erw[v,t,a,b,ns,st,1,T,ok,C,d,hb,g,k]at h;refine⟨_,(ad #[am,3,nO,aO ix_tup (pv 0) ag #[1]]
  (ad (aJ (ai aS (pv 3) aI (ax _)) (af (au (cJ aS (aO ix_tup (pv 2) (yf qs PySem.F.plainAttrs_tuple (pv 1) %[aO ix_tup (pv 0) ag #[1]|ae]) #[1]) ag (ax _)))) aE)
  (ad (aJ (PW.pt (ip (ai aS (pv 3) aI (ax _)) (hV (ai aS (pv 3) aI (ax _))))) (af (au (cJ aS (pv 3) aI (ax _)))) aE)
  (ad #[am,4,nO,aq B hr (eS _) rfl %[aO ix_tup (pv 0) ag #[1],1,2|ae]]
  (ad (aJ (ai aS (pv 3) aI (ax _)) (af (au (Ac (pv 4)))) aE)
  (af (au (aq L hr #[0] rfl %[3,4,aq B hr (eS _) rfl %[aO ix_tup (pv 0) ag #[1],1,2|ae]|ae])))))))),?_⟩
 cases T with
 | @is p x e=>
   erw[0,p,_,(0),0,1,dV e,1,6];erw[0,1,0,6];apply aZ rfl ?_;let%[j,D|Y]:=hZ ok;let c:j<st.length:=#[0]
   erw[0,0,a,ns,1,d,0,p,_,(1),0,1,dV e,1,1,x,j,1,D,b,_,(j:Int),.int st[j],1,1,dV hb,6,1,6]
   . apply cX ?_;rw[hI,fz c];rfl
   . let e1:(Tr.is x).holds ns st=decide (V.int st[j]=V.int 1):=by
      show(match fL x ns with | some j=>decide (st.getD j 0=1) | none=>false)=_;rw[D];show decide (st.getD j 0=1)=_;rw[m9,fz c]
      simp
     rw[e1]at k;exact k
 | @yes p e=>
   erw[0,p,_,(0),0,1,dV e,1,6];erw[0,1,0,6];apply aF ⋯ ?_;erw[0,1,0,6];apply aZ rfl (eF ?_);erw[0,1,k]
 | @no p e=>
   erw[0,p,_,(0),0,1,dV e,1,6];erw[0,1,0,6];apply aF ⋯ ?_;erw[0,1,0,6];apply aF ⋯ ?_;erw[0,1,0,6];apply aZ rfl ?_;erw[0,1,6];let e1:decide (V.str "no"=V.str "yes")=false:=by decide
   show Q (.bl (decide (V.str "no"=V.str "yes"))) H;rw[e1];exact k
 | @not p u r e m=>
   let dp:r.depth+1<=n+1:=C;erw[0,p,_,(0),0,1,dV e,1,6];erw[0,1,0,6];apply aF ⋯ ?_;erw[0,1,0,6];apply aF ⋯ ?_;erw[0,1,0,6];apply aF ⋯ ?_;erw[0,p,_,(1),0,1,dV e,1,0,0,u,r,a,b,ns,st,1,m,ok,3,d,hb,g,6];erw[0,1,0,6];apply aZ rfl ?_;erw[0,0,k]
 | @bin p o u M r J e m N=>
   erw[O,q,y]at ok;let dp:max r.depth J.depth+1<=n+1:=C;let ne:∀z:Str,z∉joinW->¬ V.str o=V.str z:=λz U h=>U (jp h▸O)
   erw[0,p,_,(0),0,1,dV e,1,6];erw[0,1,0,6];apply aF (ne _ ⋯) ?_;erw[0,1,0,6];apply aF (ne _ ⋯) ?_;erw[0,1,0,6];apply aF (ne _ ⋯) ?_;erw[0,p,_,(1),0,1,dV e,1,0,0,u,r,a,b,ns,st,1,m,q,3,d,hb,g,6];erw[0,1,0,6];apply aF (ne _ ⋯) ?_;erw[0,0,0,p,_,(2),0,1,dV e,1,0,0,M,J,a,b,ns,st,1,N,y,3,d,hb,g,6];erw[o,_,0,k]
def AN:#[2,f,fd,WV,spHolds 0]:=by
 let no:∀vs H Q E,¬ spHolds 0 vs H Q E:=λvs H Q E h=>by
  erw[v,t,_,_,_,_,_,_,_,h1,_]at h
  have:=t.depth_pos
  omega
 exists 3
def qX(F:#["holds_at",kK])(m:mg "holds_at"=some (.ref f))(b:#[1,"joined",Wc,spJoined]):
 ∀n:Nat,#[n+2,f,fd,WV,spHolds n]
 |0=>AN
 |n+1=>AO F b (Cal.of F (qX F m b n) m (λ_ _ _ _ _ _ us hl=>by let%[c,d,e|1]:=Jj hl;rfl))
def Ka(H:Hp)(v:V)(s:List Int):Prop:=∃a,v=.ref a/\H a=some (.tup (s.map V.int))
abbrev TupsAt(H:Hp):List V->List (List Int)->Prop:=PySem.Paired (Ka H)
def xM(H:Hp)(r:Addr)(b:List (List Int)):Prop:=∃rs,H r=some (.lst rs)/\TupsAt H rs b
def TupsAt.mono{H b:Hp}(k:∀a xs,H a=some (.tup xs)->b a=some (.tup xs)):∀{rs:List V}{c:List (List Int)},TupsAt H rs c->TupsAt b rs c
 |_,_,.nil=>.nil
 |_,_,.cons ⟨a,e,h⟩ t=>.cons %[a,e|k _ _ h] (TupsAt.mono k t)
def TupsAt.get:∀{rs:List V}{b:List (List Int)}{i:Nat}{v:V},TupsAt H rs b->rs[i]?=some v->∃s,b[i]?=some s/\Ka H v s
 |_,_,_,_,.nil,h=>by simp at h
 |_,_,0,_,.cons h _,e=>by
   simp at e
   subst e;erw[0,h]
 |_,_,i+1,v,.cons _ t,e=>by
   let%[s,h1|h2]:=TupsAt.get (i:=i) t #[e,0];erw[s,by simpa using h1,h2]
def DC{ys:List V}(s:SameBut b H c)(h:H b=some (.lst ys)∨H b=none):∀a xs,H a=some (.tup xs)->c a=some (.tup xs):=λa xs e=>s a _ (λz=>by
 rw[z]at e;rcases h with h | h
 . rw[h]at e;cases e
 . rw[h]at e;cases e) e
def uz{K:W.Frag}{b:Hp}{a p:Addr}{s:List Int}{z:Int}{Q:VK}(ha:b a=some (.tup (s.map V.int)))(c:b p=some (.tup [.int z]))(hl:s.length<=100)
 (q:∀t d,Same b d->d t=some (.tup ((s++[z]).map V.int))->Q (.ref t) d):rCatT K (.ref a) (.ref p) b Q∨rCatT0 K (.ref a) (.ref p) b Q:=by
 cases s with
 |nil=>exact .inr %[a,p,0,1,dV ha,dV c|q p b (Same.refl _) c]
 |cons x r=>
   refine .inl %[a,p,2,dV ha,dV c,by simp,cx (by simp at hl ⊢;omega),(λz=>nomatch z)|(λ_ t e=>q t _ (ej e _) ?_)];rw[ah,fj];rfl
instance spSetts:∀n:Int,vs=[.int n]->0<=n->n<=6->(∀(r:Addr)(H':Hp),H r=none->Same H H'->xM H' r (cU n.toNat)->Q (.ref r) H'):=1
def dM:FnScope ["n","told","switch","longer","setting"] ["n"] (aj iY):=%[|5]
def rE(F:#["all_settings",iY])(m:mg "range"=none):#[1,f,fd,["n"],spSetts]:=by
 exists dM
 erw[n,1,n0,n6,q]at h;refine⟨_,(ad #[am,1,dM,bY %[aR ae|ae]]
  (ad (cR ks rfl (bK rfl m %[0|ae]) (ba (i:=2) dM.nd rfl (.inl rfl)) (ad #[am,3,dM,bY ae]
   (ad (cR ks rfl (cI (pv 1)) (ba (i:=4) dM.nd rfl (.inl rfl)) (ad (bh (iH qs Gp G0 eE (pv 3) %[ao (op_catT.or pE) (pv 4) (aR %[ag|ae])|ae]))
    (af (bh (iH qs Gp G0 eE (pv 3) %[ao (op_catT.or pE) (pv 4) (aR %[ag|ae])|ae])))))
   (af #[am,1,dM,pv 3]))))
  (af (au (pv 1))))),?_⟩
 erw[y0S,λp hp=>?_];erw[y1S,λa ha=>?_];let np:p≠a:=λz=>by
  subst z;rw[ah]at ha;cases ha
 let N:H a=none:=(ej hp _).free ha;refine⟨_,rfl,n,rfl,#[0],#[0],eV (λi σ r=>∃(a:Addr)(O U u:Option V),σ=[some (.int n),some (.ref a),O,U,u]/\H a=none/\Same H r/\xM r a (cU i))
  %[a,_,_,0,N,(ej hp _).trans (ej ha _),[.ref p],ah|.cons ⟨p,rfl,by rw[az np,ah];rfl⟩ .nil] ?_ ?_⟩
 . rintro i σ r hi ⟨a,O,U,u,rfl,a0,s0,rs,v,T⟩;let i6:i<6:=#[0]
   let sl:=jN i;let s64:=qu (n:=i) #[0];erw[y0S,λb hb=>?_];let ab:a≠b:=aN v hb;refine⟨_,rfl,a,rfl,%[_|eH (by rw[az ab];exact v)],gu (K:=K) (xs:=rs) (λj σ g=>∃(u:Option V)(bs:List V),σ=[some (.int n),some (.ref a),some (.int (0+(i:Int))),some (.ref b),u]/\SameBut b r g/\g b=some (.lst bs)/\TupsAt g bs (((cU i).take j).flatMap λs=>[s++[0],s++[1]]))
    %[_,[],1,SameBut.upd _,ah|.nil] (λj σ g _ Pi=>by erw[_,_,_,B,_]at Pi;exact eH (B a _ ab v)) ?_ ?_⟩
   . rintro j y σ g hj ⟨u,bs,rfl,B,c,C⟩;let T2:TupsAt g rs (cU i):=T.mono (DC (ys:=[]) B (.inr hb));let%[s,hs,t,1|ht]:=T2.get hj;let Y:s∈cU i:=ms hs;let ar:=ic i s Y;let ac:=C.length;rw[qD,kr]at ac;erw[0,.inl %[1,_|eH c],6];erw[0,y1S,λp1 an=>?_];let S1:Same g (upd g p1 (.tup [.int 0])):=ej an _;apply uz (s:=s) (z:=0) (S1 _ _ ht) ah #[0] λt1 D S3 e3=>?_
     let d:Same g D:=S1.trans S3;erw[b,bs,0,1,d _ _ c,aM #[0],6];let K4:=eU (H:=D) (b:=b) (ys:=bs) (zs:=bs++[.ref t1]) (d _ _ c);let e4:=K4 _ _ e3;let t4:=K4 _ _ (d _ _ ht);erw[0,.inl %[1,_|eH ah],6];erw[0,y1S,λp2 ap=>?_];let S4:Same (upd D b (.lst (bs++[.ref t1]))) (upd (upd D b (.lst (bs++[.ref t1]))) p2 (.tup [.int 1])):=ej ap _;apply uz (s:=s) (z:=1) (S4 _ _ t4) ah #[0] λL M S5 e5=>?_
     let o:=S4.trans S5;let J:M b=some (.lst (bs++[.ref t1])):=o _ _ ah;erw[b,bs++[.ref t1],0,1,J,aM (by rw[fm,nm];omega),6];let K6:=eU (H:=M) (b:=b) (ys:=bs++[.ref t1]) (zs:=bs++[.ref t1]++[.ref L]) J;erw[_,bs++[.ref t1]++[.ref L],1,6,ah,6]
     . let q1:SameBut b r D:=B.trans (fy d);let q2:SameBut b r M:=(q1.trans (SameBut.upd _)).trans (fy o);exact q2.trans (SameBut.upd _)
     . let x:TupsAt (upd M b (.lst (bs++[.ref t1]++[.ref L]))) bs (((cU i).take j).flatMap λs=>[s++[0],s++[1]]):=
        C.mono λa xs e=>K6 _ _ (o _ _ (K4 _ _ (d _ _ e)))
       rw[ih,hs,RI];let e:((some s).toList.flatMap λs:List Int=>[s++[0],s++[1]])=[s++[0]]++[s++[1]]:=by simp
       rw[e,←Qd];exact(x.snoc %[t1,1|K6 _ _ (o _ _ e4)]).snoc ⟨L,rfl,K6 _ _ e5⟩
   . rintro σ g ⟨u,bs,rfl,B,c,C⟩;let rl:=T.length;rw[rl,i0]at C;erw[0,b,_,_,0,s0.free hb,s0.but (s0.free hb) B,bs,c,C]
 . rintro σ r ⟨a,O,U,u,rfl,a0,s0,S⟩;erw[0,q a r a0 s0 S]
def cnt(t:Tr)(ns:List Str):Nat:=((cU ns.length).filter λst=>t.holds ns st).length
instance spCount:∀(v:V)(t:Tr)(a:Addr)(ns:List Str),vs=[v,.ref a]->TreeAt H v t->t.ok ns->t.depth<=12->NamesAt H a ns->ns.length<=6->(∀H',Same H H'->Q (.int (cnt t ns:Int)) H'):=1
def ya:FnScope ["tree","switches","holding"] Wp (aj oH):=%[|5]
def yu(F:#["count_of",oH])(d:mg "len"=none)(U:#[1,"all_settings",["n"],spSetts])(Y:#[14,"holds_at",WV,spHolds 12]):#[15,f,fd,Wp,spCount]:=by
 exists ya
 erw[v,t,a,ns,1,T,ok,dp,B,nl,q]at h;refine⟨_,(ad (kP (i:=2) (N:=Wp) (ix:=[0,1]) ya.nd rfl (.inl rfl) rfl
  #[4] rfl
  (cI (aq U hr ⋯ rfl %[aG aD rfl d fx %[1|ae]|ae]))
  (λ_ _ _=>yh (dP (aq Y hr ⋯ rfl %[1,2,0|ae])) (pv 0)))
  (af (au (aG aD rfl d fx %[2|ae])))),?_⟩
 let en:((ns.map V.str).length:Int)=(ns.length:Int):=by rw[d8]
 erw[0,a,0,B.seq,0,3,3,λr H1 r0 C u=>?_];rw[en]at u;let e2:((ns.length:Int)).toNat=ns.length:=#[0]
 rw[e2]at u;erw[rs,j,TS]at u;let rl:=TS.length;let sl:=jN ns.length;let s64:=qu nl;erw[r,1,%[_|eH j],λD hD=>?_];apply cW (K:=K) (xs:=rs) (λi y=>∃ys,y D=some (.lst ys)/\ys.length=(((cU ns.length).take i).filter λst=>t.holds ns st).length/\Same H1 y) %[[],ah,1|ej hD _] (λi y _ Pi=>by erw[_,_,_,h]at Pi;exact eH (h _ _ j)) ?_ ?_
 . rintro i x J L ⟨ys,hl,m,g⟩;let M:i<rs.length:=(Pl L).1;let z:=TS.mono (bc g);let%[st,Pi,b,1|hb]:=z.get L;let stl:=ic _ _ (ms Pi);let n:=C.trans g;let O:((cU ns.length).take (i+1)).filter (λst=>t.holds ns st)=((cU ns.length).take i).filter (λst=>t.holds ns st)++[st].filter (λst=>t.holds ns st):=by
    rw[ih,Pi,PK];rfl
   erw[0,0,0,v,t,a,b,ns,st,1,T.mono (bc n),ok,dp,B.same n,hb,stl,0,6];cases c:t.holds ns st with
   |true=>
     apply eF ?_;erw[0,ys,hl,6,Nx.of M %[_,ah,6|λb' o e=>?_]]
     . have:=Ry (λst=>t.holds ns st) ((cU ns.length).take i)
       rw[kr]at this;exact aM #[0]
     . rw [O,fm,fm,m]
       simp [c]
     . rw[az (aN e hD)];exact g _ _ e
   |false=>
     apply cQ ?_;apply Nx.of M %[ys,hl,6|g];rw[O,fm,m]
     simp [c]
 . rintro J ⟨ys,hl,m,g⟩;let e3:rs.length=(cU ns.length).length:=rl;rw[e3,i0]at m;erw[0,D,0,.inl (eH hl),6];rw[m];exact q J (C.trans g)
instance spCounts(C:Addr):∀(g a b d:Addr)(ns:List Str)(tv:List V)(ts:List Tr)(p:Int),vs=[.ref g]->GameAt C H g a b d p->H a=some (.tup (ns.map V.str))->ns.length<=6->H b=some (.tup tv)->TreesAt H tv ts->ts.length<=10->(∀t∈ts,t.ok ns/\t.depth<=12)->(∀(l:Addr)(H':Hp),H l=none->Same H H'->H' l=some (.lst ((ts.map λt=>(cnt t ns:Int)).map V.int))->Q (.ref l) H'):=1
def vU:FnScope WC WC (aj lO):=%[|5]
def wX(F:#["counts_of",lO])(T:GTxt K mg C)(x:#[15,"count_of",Wp,spCount]):#[16,f,fd,WC,spCounts C]:=by
 exists vU
 erw[g,a,b,d,ns,j,ts,p,1,%[m|hg],ha,nl,hb,TS,t10,tok,q]at h;refine⟨_,(af (au (bL (N:=WC) (ix:=[0]) rfl
  #[3] rfl
  (iF (aB (pv 0) rfl)) (λ_ _ _=>cu (aq x hr ⋯ rfl %[0,kU K (pv 1)|ae]))))),?_⟩
 let y:=TS.length;erw[0,g,C,m,_,0,hg,9,T.nT,nZ ..,b,1,%[_|dV hb],λD hD=>?_];apply gy (K:=K) (xs:=j) (λi e=>e D=some (.lst (((ts.take i).map λt=>(cnt t ns:Int)).map V.int))/\Same H e) %[by rw[ah];rfl|ej hD _] (λi e _ h=>dV (h.2 _ _ hb)) ?_ ?_
 . rintro i z n o ⟨hl,c⟩;let%[t,r|B]:=TS.get o;let%[J|L]:=tok t (ms r);let M:i<j.length:=(Pl o).1;erw[0,0,g,C,m,_,0,c _ _ hg,9,T.nS,pR ..,z,t,a,ns,1,B.mono (bc c),J,L,.inr (c _ _ ha),nl,λO u=>?_];erw[_,u _ _ hl,6,Nx.of M %[6|λb' U v=>?_]]
   . rw[d8,d8,kr];exact aM #[0]
   . rw[ah,ih,r,fj,fj];rfl
   . rw[az (aN v hD)];exact u _ _ (c _ _ v)
 . rintro n ⟨hl,c⟩;rw[y,i0]at hl;exact q D n hD c hl
def gI(s:Int):List Int->Int
 | []=>0
 |a::r=>a+s*gI s r
def lY(s p:Int):∀ns,hor s p ns=gI s ns % p
 | []=>(PP p).symm
 |a::r=>by
   show(hor s p r*s+a) % p=(a+s*gI s r) % p;rw[lY s p r,w4,wb,Pz,←wb,←w4,ti,Rn]
def vg(s a:Int):∀l,gI s (l++[a])=gI s l+a*s ^ l.length
 | []=>by simp [gI]
 |b::r=>by
   show b+s*gI s (r++[a])=b+s*gI s r+a*s ^ (r.length+1);rw[vg s a r,Qm,rc,RS s a,ti s (s ^ r.length),Int.add_assoc]
def oV:∀(n:Nat)(s:List Int),s∈cU n->∀x∈s,x=0∨x=1
 |0,s,h,x,b=>by
   have:s=[]:=by simpa [cU]using h
   subst this;cases b
 |n+1,s,h,x,b=>by
   rw[cU,List.mem_flatMap]at h;erw[t,c,d]at h
   simp at d
   rcases d with rfl | rfl
   . rcases qO0 b with h | h
     . exact oV n t c x h
     . exact .inl (Pn h)
   . rcases qO0 b with h | h
     . exact oV n t c x h
     . exact .inr (Pn h)
def sj{K:W.Frag}{c:Hp}{a b:Addr}{xs ys:List Int}{Q:VK}(ha:c a=some (.tup (xs.map V.int)))(hb:c b=some (.tup (ys.map V.int)))(hl:xs.length+ys.length<=100)
 (q:∀t d,Same c d->d t=some (.tup ((xs++ys).map V.int))->Q (.ref t) d):rCatT K (.ref a) (.ref b) c Q∨rCatT0 K (.ref a) (.ref b) c Q:=by
 cases xs with
 |nil=>exact .inr %[a,b,0,1,dV ha,dV hb|q b c (Same.refl _) hb]
 |cons x r=>
   refine .inl %[a,b,2,dV ha,dV hb,by simp,cx (by simp at hl ⊢;omega),(λz=>?_)|(λ_ t e=>q t _ (ej e _) ?_)]
   . cases ys with
     |nil=>
       apply q a c (Same.refl _) ?_;rw[q9];exact ha
     |cons y g=>exact nomatch z
   . rw[ah,fj]
def di(ns:List Str)(ts:List Tr)(s p:Int)(pt:List Int):Int:=((cU (ns.length-pt.length)).map λst=>gI s (ts.map λt=>t.worth ns (pt++st) p)).sum % p
def Bm{α:Type}(p:Int)(f:α->Int):∀l:List α,(l.map λx=>f x % p).sum % p=(l.map f).sum % p
 | []=>rfl
 |a::r=>by
   rw[lw,lw,rb,rb,w4,Pz,Bm p f r,←w4]
def Bk{α:Type}{p:Int}(b:0<p)(f:α->Int)(h:∀x,0<=f x/\f x<p):∀l:List α,0<=(l.map f).sum/\(l.map f).sum<=p*l.length
 | []=>%[qq 0|by simp]
 |a::r=>by
   let h1:=h a;let h2:=Bk b f h r;rw[lw,rb,f5];erw[3,6]
   have:p*((r.length+1:Nat):Int)=p*(r.length:Int)+p:=by
    rw[Qi,Qm]
    simp
   omega
def yd(h:cv a p)(h2:cv b p):cv (a++b) p:=λx c=>by
 rcases qO0 c with e | e
 . exact h x e
 . exact h2 x e
def pt01{b:List Int}(h:cv a p)(d:1<p)(h2:∀x∈b,x=0∨x=1):cv (a++b) p:=yd h λx c=>by rcases h2 x c with e | e <;> omega
def pF{X:Cx}(K:W.Frag)(hK:X.K=K:=by rfl):OpR X (binaryOp .Add) (λx y H Q=>rCatT K x y H Q∨rCatT0 K x y H Q):=by subst hK;exact op_catT.or pE
def yV{ts:List Tr}(h0:ts≠[]):0<=bj ts x:=by
 have:=jS (ns:=ts.map λt=>(t.names.count x:Int)) #[h0,0]
 let%[t,b|e]:=List.mem_map.mp this;unfold bj;rw[←e];exact RN _
def eJ(ns:List Str)(ts:List Tr)(s p:Int)(cs:List Int)(n:Nat):List Int:=(List.range n).map λk:Nat=>di ns ts s p (cs++[(k:Int)])
def Ko{d:Int}{i:Nat}(b:i<(d+1).toNat)(h:d<=500):((eJ ns ts s p cs i).map V.int).length<sizeLine:=by
 unfold eJ;rw[d8,d8,o0];exact aM #[0]
def ptI{d:Int}{i:Nat}(h:cv a p)(c:i<(d+1).toNat)(hd:d<p):cv (a++[(i:Int)]) p:=yd h λx b=>by
 rw[Pn b];omega
def cat1{n k:Nat}(h:n<k)(h6:k<=6):n+([(0:Int)]:List Int).length<=100/\n+1<=k:=by
 rw[nm];omega
def s64{n k:Nat}(h6:n<=6):(cU (n-(k+1))).length<=64:=by
 let s64:=jN (n-(k+1));let b:=qu (n:=n-(k+1)) #[0];omega
def Kn{α:Type}{f:α->Int}{l:List α}{j:Nat}(h:l.length<=64):(((l.take j).map f).map V.int).length<sizeLine:=by
 rw[d8,d8,kr];exact aM #[0]
def sum63{p x:Int}{n:Nat}(p0:0<p)(b:p<2 ^ 40)(h:n<=64)(c:x<=p*(n:Int)):x<2 ^ 63:=by
 have:p*(n:Int)<=p*64:=wa #[0] #[0]
 omega
instance spTrue(C:Addr):∀(g a b d c:Addr)(ns:List Str)(tv:List V)(ts:List Tr)(cs:List Int)(x:Str)(s p:Int),vs=[.ref g,.int s,.ref c]->GameAt C H g a b d p->H a=some (.tup (ns.map V.str))->ns.length<=6->H b=some (.tup tv)->TreesAt H tv ts->ts≠[]->ts.length<=10->(∀t∈ts,t.ok ns/\t.depth<=10)->H d=some (.lst ((ns.map (bj ts)).map V.int))->H c=some (.tup (cs.map V.int))->ns[cs.length]?=some x->bj ts x<p->bj ts x<=500->cv cs p->1<p->p<2 ^ 40->(∀(l:Addr)(H':Hp),H l=none->Same H H'->H' l=some (.lst ((eJ ns ts s p cs (bj ts x+1).toNat).map V.int))->Q (.ref l) H'):=1
def gh:FnScope ["game","s","coins","ahead","switch","behind","row","x","worths"] ["game","s","coins"] (aj oz):=%[|5]
def yk(F:#["true_row",oz])(B:Bl mg)(T:GTxt K mg C)(mW:Meth K C "worth_at" fW)(GW:#[13,fW,aC,WQ,spWAt C])(bW:Binds K aC WQ [])(e6:#[1,"all_settings",["n"],spSetts]):#[14,f,fd,["game","s","coins"],spTrue C]:=by
 exists gh
 erw[g,a,b,d,c,ns,tv,ts,cs,x,s,p,1,%[dx|hg],ha,nl,hb,TS,aH,t10,tok,hd,hc,hx,dp,an,po,p1,ap,q]at h;refine⟨_,(ad (am (i:=3) gh.nd rfl (Or.inr rfl) (aX bq rfl B.tuple cw %[2|ae]))
  (ad #[am,4,gh,aG aD rfl B.len fx %[3|ae]]
  (ad #[am,5,gh,aq e6 hr ⋯ rfl %[ao bi (ao bi (aG aD rfl B.len fx %[aB (pv 0) rfl|ae]) (pv 4)) ag|ae]]
  (ad #[am,6,gh,bY ae]
  (ad (cR ks rfl (bK rfl B.range %[ao aV (aO ix_list (aB (pv 0) rfl) (pv 4) #[1]) ag|ae]) (ba (i:=7) gh.nd rfl (Or.inr rfl)) (ad (kP (i:=8) (N:=["x","s","game","ahead"]) (ix:=[7,1,0,3]) gh.nd rfl (.inl rfl) rfl
   (CompScope.four (by rfl') ⋯ rfl ⋯ rfl ⋯ rfl (by rfl') (by rfl') (by rfl') (by rfl') (by rfl') (by rfl') rfl rfl (by rfl') rfl rfl (by rfl') rfl rfl (by rfl') rfl rfl) rfl
   (cI (pv 5)) (λ_ _ _=>cu (cq (pv 3) T.cl mW GW hr bW .nil bd %[ao (pF K) (ao (pF K) (pv 4) (aR %[1|ae])) (pv 0),2|ae])))
   (af (bh (iH qs Gp G0 eE (pv 6) %[ao aY (aG (uA rfl) rfl B.sum Rz %[8|ae]) (aB (pv 0) rfl)|ae])))))
  (af (au (pv 6)))))))),?_⟩
 let kl:cs.length<ns.length:=(Pl hx).1;let d0:=yV (x:=x) aH;let p0:0<p:=Int.lt_trans Int.zero_lt_one p1;erw[0,c,0,.inr %[dV hc|6]];let G1:Same H H:=λ_ _ e=>e
 let M:=hc;erw[0,c,0,.inr (dV M),6];erw[0,g,C,dx,_,0,G1 _ _ hg,9,T.nS,pR ..,a,0,.inr (dV (G1 _ _ ha)),0,2,2,0,by rw[d8,d8];omega,by rw[d8,d8];omega,λr H2 r0 S2 R2=>?_];let en:((((ns.map V.str).length:Nat):Int)-(((cs.map V.int).length:Nat):Int)-1).toNat=ns.length-(cs.length+1):=by rw[d8,d8];omega
 rw[en]at R2;erw[rs,ar,TB]at R2;let rl:=TB.length;erw[y0S,λL hL=>?_];let m:=G1.trans S2;let GL:=ej hL (.lst []);let as:=m.trans GL;let L0:H L=none:=m.free hL;let e1:(((cs.map V.int).length:Nat):Int)=(cs.length:Int):=by rw[d8]
 erw[0,g,C,dx,_,0,as _ _ hg,9,T.nD,BK ..,0,d,_,_,.int (bj ts x),1,1,eH (as _ _ hd),6,2,0,3,3,eV (λi σ H'=>∃x7 x8:Option V,σ=[some (.ref g),some (.int s),some (.ref c),some (.ref c),some (.int (((cs.map V.int).length:Nat):Int)),some (.ref r),some (.ref L),x7,x8]/\H' L=some (.lst ((eJ ns ts s p cs i).map V.int))/\SameBut L H2 H') %[_,0,by rw[ah];rfl|SameBut.upd _] ?_ ?_]
 . rw[e1];apply cX ?_;rw[hI,hI,hx];rfl
 . rintro i σ H4 hi ⟨x7,x8,rfl,Y,S4⟩;let gL:g≠L:=aN (m _ _ hg) hL;let rL:r≠L:=aN ar hL;let kT:cZ H2 H4:=λc xs h=>S4 c _ (aN h hL) h
   let ab:=S4 g _ gL (m _ _ hg);let O:=S4 r _ rL ar;let aK:=kT _ _ (m _ _ ha);let aL:=kT _ _ (m _ _ hb);let av:=kT _ _ (S2 _ _ M);let aP:=(TS.mono (bc m)).mono kT;let aT:=TB.mono kT;erw[0,r,1,%[_|eH O],λD hD=>?_];apply cW (K:=K) (xs:=rs) (λj H'=>H' D=some (.lst ((((cU (ns.length-(cs.length+1))).take j).map λst=>hor s p (ts.map λt=>t.worth ns (cs++[(i:Int)]++st) p)).map V.int))/\Same H4 H') %[by rw[ah];rfl|ej hD _] (λj H' _ h=>eH (h.2 _ _ O)) ?_ ?_
   . rintro j z H5 hz ⟨J,U⟩;let%[st,Pi,y,1|hy]:=(aT.mono (bc U)).get hz;let stm:=ms Pi;let stl:=ic _ _ stm;let a0:=oV _ _ stm;let hj:j<rs.length:=(Pl hz).1;let a7:cv (cs++[(i:Int)]++st) p:=pt01 (ptI po hi dp) p1 a0;let a8:(cs++[(i:Int)]++st).length=ns.length:=by rw[fm,fm,nm];omega
     erw[0,g,dx,0,U _ _ ab,oa _ _ _ _ ⋯ ⋯ ⋯ ⋯,6];erw[0,0,y1S,λu hu=>?_];let Gu:=ej hu (.tup [.int (0+(i:Int))]);let aw:upd H5 u (.tup [.int (0+(i:Int))]) u=some (.tup ([(i:Int)].map V.int)):=by rw[ah,vu];rfl
     generalize upd H5 u (.tup [.int (0+(i:Int))])=H6 at Gu aw;apply sj (Gu _ _ (U _ _ av)) aw (cat1 kl nl).1 λt1 H7 S7 h7=>?_
     erw[0,6];let ac:=Gu.trans S7;apply sj h7 (ac _ _ hy) (by rw[fm,nm];omega) λt2 H8 S8 h8=>?_
     let v:=U.trans (ac.trans S8);erw[0,g,a,b,d,t2,ns,tv,ts,_,s,p,1,%[dx|v _ _ ab],p1,ap,v _ _ aK,v _ _ aL,aP.mono (bc v),t10,tok,h8,a8,a7,λH9 S9=>?_];erw[_,S9 _ _ ((ac.trans S8) _ _ J),6,Nx.of hj %[6|λb' o' e'=>?_]]
     . exact Kn (s64 nl)
     . rw[ah,ih,Pi,fj,fj];rfl
     . rw[az (aN e' hD)];exact S9 _ _ (v _ _ e')
   rintro H5 ⟨J,U⟩;rw[rl,i0]at J;let hor_r:=λst:List Int=>rR (s:=s) (p:=p) p0 (ts.map λt=>t.worth ns (cs++[(i:Int)]++st) p)
   let sr:=Bk (p:=p) p0 (λst:List Int=>hor s p (ts.map λt=>t.worth ns (cs++[(i:Int)]++st) p)) hor_r (cU (ns.length-(cs.length+1)));let aA:=U _ _ Y;erw[0,.inl %[1,_|eH aA],0,D,0,eH J,6,6,6]
   . intro n hn;let%[st,_|1]:=List.mem_map.mp hn;exact(hor_r st).1
   . exact sum63 p0 ap (s64 nl) sr.2
   erw[0,g,C,dx,_,0,U _ _ ab,9,T.nF,fN ..,2,p0,L,2,aA,6,6]
   . exact Ko hi an
   . erw[_,0,6,λc o hc e=>?_]
     . rw [ah];unfold eJ;rw[ss,fj,fj];let e2:((cU (ns.length-(cs.length+1))).map λst=>hor s p (ts.map λt=>t.worth ns (cs++[(i:Int)]++st) p)).sum % p=di ns ts s p (cs++[(i:Int)]):=by
        unfold di;rw[fm,nm,show(λst:List Int=>hor s p (ts.map λt=>t.worth ns (cs++[(i:Int)]++st) p))=λst=>gI s (ts.map λt=>t.worth ns (cs++[(i:Int)]++st) p) % p from funext λst=>lY _ _ _];exact Bm p (λst:List Int=>gI s (ts.map λt=>t.worth ns (cs++[(i:Int)]++st) p)) _
       show some (HO.lst (_++[V.int (((cU (ns.length-(cs.length+1))).map λst=>hor s p (ts.map λt=>t.worth ns (cs++[(i:Int)]++st) p)).sum % p)]))=_;rw[e2];rfl
     . rw[az hc];exact U _ _ (S4 c o hc e)
 . rintro σ H4 ⟨x7,x8,rfl,Y,S4⟩;erw[0,q L H4 L0 (m.but L0 S4) Y]
def neS{a b:Str}(h:¬ a=b):¬ V.str a=V.str b:=λz=>h (V.str.inj z)
open Classical in
def Jn(p a:Int):Int:=if h:∃g:Int,0<g/\g<p/\g*a % p=1 then h.choose else 0
def GZ{p a g k:Int}(d:0<g)(g1:g<p)(hg:g*a % p=1)(e:0<k)(b:k<p)(c:k*a % p=1):g=k:=by
 let e1:g*(k*a) % p=g:=by
  rw[wb,c,PC,Pz,nh #[0] g1]
 let e2:k*(g*a) % p=k:=by
  rw[wb,hg,PC,Pz,nh #[0] b]
 let e3:g*(k*a) % p=k*(g*a) % p:=by rw[RS]
 exact e1.symm.trans (e3.trans e2)
def BJ{p a g:Int}(b:0<g)(g1:g<p)(hg:g*a % p=1):Jn p a=g:=by
 let h:∃g:Int,0<g/\g<p/\g*a % p=1:=%[g,b,g1|hg]
 unfold Jn;rw[dif_pos h];erw[c,d,e]at h.choose_spec;exact GZ c d e b g1 hg
def pT(p x y:Int):Int:=if y=0 then 0 else x*Jn p y % p
def opV(p:Int)(s:Str)(x y:Int):Int:=
 if s="+" then(x+y) % p else if s="-" then(x-y) % p else if s="*" then x*y % p else if s="/" then pT p x y else if s="=" then(if x=y then 1 else 0)else if x<y then 1 else 0
def Hu{p:Int}(b:0<p):0<=pT p x y/\pT p x y<p:=by
 unfold pT
 split
 . omega
 . erw[lz _ #[0],mu _ b]
def IN{p:Int}(b:1<p):0<=opV p s x y/\opV p s x y<p:=by
 let m:∀z:Int,0<=z % p/\z % p<p:=λz=>%[lz _ #[0]|mu _ #[0]]
 unfold opV
 split
 . exact m _
 . split
   . exact m _
   . split
     . exact m _
     . split
       . exact Hu #[0]
       . split <;> split <;> omega
instance spDiv:∀(x y p:Int),vs=[.int x,.int y,.int p]->Pr p->p<=999983->0<=x->x<p->0<=y->y<p->Q (.int (pT p x y)) H:=1
def zP:FnScope Wq Wq (aj qo):=%[|5]
def Ao(F:#["divided",qo])(b:#[1,"inverse_of",["a","p"],spInv]):#[2,f,fd,Wq,spDiv]:=by
 exists zP
 erw[x,y,p,1,pp,p9,j,m,n,d,q]at h;refine⟨_,(ad (aJ (ai aS (pv 1) ag (ax _)) (af (au ag)) aE)
  (af (au (ao aY (ao bN (pv 0) (aq b hr ⋯ rfl %[1,2|ae])) (pv 2))))),?_⟩
 unfold pT at q;erw[0,1,0,6]
 by_cases c:y=0
 . rw[Pe c]at q;exact aZ (congrArg V.int c) q
 . rw[Pd c]at q;apply aF (λz=>c (V.int.inj z)) ?_;erw[0,0,0,y,p,1,pp,p9,3,d,λg e g1 hg=>?_];rw[BJ e g1 hg]at q;erw[2,.inl %[3|3],0,2,(by show 0<p;omega),q]
def signW:List Str:=["+","-","*","/","=","<"]
instance spOp:∀(s:Str)(x y p:Int),vs=[.str s,.int x,.int y,.int p]->s∈signW->Pr p->p<=999983->0<=x->x<p->0<=y->y<p->Q (.int (opV p s x y)) H:=1
def xX:FnScope Wd Wd (aj oB):=%[|5]
def opV_1:opV p "+" x y=(x+y) % p:=Pe rfl
def opV_2:opV p "-" x y=(x-y) % p:=by unfold opV;rw[Pd ⋯,Pe rfl]
def opV_3:opV p "*" x y=x*y % p:=by unfold opV;rw[Pd ⋯,Pd ⋯,Pe rfl]
def opV_4:opV p "/" x y=pT p x y:=by unfold opV;rw[Pd ⋯,Pd ⋯,Pd ⋯,Pe rfl]
def opV_5:opV p "=" x y=if x=y then 1 else 0:=by unfold opV;rw[Pd ⋯,Pd ⋯,Pd ⋯,Pd ⋯,Pe rfl]
def opV_6:opV p "<" x y=if x<y then 1 else 0:=by unfold opV;rw[Pd ⋯,Pd ⋯,Pd ⋯,Pd ⋯,Pd ⋯]
def yo(F:#["op_value",oB])(d:#[2,"divided",Wq,spDiv]):#[3,f,fd,Wd,spOp]:=by
 exists xX
 erw[s,x,y,p,1,e,pp,p9,g,j,m,n,q]at h;let p0:0<p:=#[0]
 refine⟨_,(ad (aJ (ai aS (pv 0) aI (ax _)) (af (au (ao aY (ao aV (pv 1) (pv 2)) (pv 3)))) aE)
  (ad (aJ (ai aS (pv 0) aI (ax _)) (af (au (ao aY (ao bi (pv 1) (pv 2)) (pv 3)))) aE)
  (ad (aJ (ai aS (pv 0) aI (ax _)) (af (au (ao aY (ao bN (pv 1) (pv 2)) (pv 3)))) aE)
  (ad (aJ (ai aS (pv 0) aI (ax _)) (af (au (aq d hr ⋯ rfl %[1,2,3|ae]))) aE)
  (ad (aJ (ai aS (pv 0) aI (ax _)) (af (au (yg (ai aS (pv 1) (pv 2) (ax _)) ag ag))) aE)
  (af (au (yg (ai iI (pv 1) (pv 2) (ax _)) ag ag)))))))),?_⟩
 let b:s="+"∨s="-"∨s="*"∨s="/"∨s="="∨s="<":=by simpa [signW]using e
 rcases b with rfl | rfl | rfl | rfl | rfl | rfl
 . rw[opV_1]at q;erw[0,1,0,aZ rfl ?_];erw[0,0,2,0,2,p0,q]
 . rw[opV_2]at q;erw[0,1,0,7];erw[0,1,0,aZ rfl ?_];erw[0,0,2,0,2,p0,q]
 . rw[opV_3]at q;erw[0,1,0,7];erw[0,1,0,7];erw[0,1,0,aZ rfl ?_];erw[0,0,2,.inl %[3|3],0,2,p0,q]
 . rw[opV_4]at q;erw[0,1,0,7];erw[0,1,0,7];erw[0,1,0,7];erw[0,1,0,aZ rfl ?_];erw[0,0,0,x,y,p,1,pp,p9,g,j,m,n,q]
 . rw [opV_5]at q;erw[0,1,0,7];erw[0,1,0,7];erw[0,1,0,7];erw[0,1,0,7];erw[0,1,0,aZ rfl ?_];erw[0,0,1,0,6]
   by_cases c:x=y
   . rw[Pe c]at q;exact aZ (congrArg V.int c) q
   . rw[Pd c]at q;exact aF (λz=>c (V.int.inj z)) q
 . rw [opV_6]at q;erw[0,1,0,7];erw[0,1,0,7];erw[0,1,0,7];erw[0,1,0,7];erw[0,1,0,7];erw[0,0,2,0,6]
   by_cases c:x<y
   . rw[Pe c]at q;exact aZ c q
   . rw[Pd c]at q;exact aF c q
def ig{t':TS}(h:PSs X b t)(hw:∀D σ H,t' D σ H->t D σ H):PSs X b t':=λPc s σ H D I k=>h Pc s σ H D I (hw _ _ _ k)
inductive Tm where
 |num (n:Int) | box (x:Str) | plain (w:Str) | ask (w:Str) (a:Tm) | op (s:Str) (a b:Tm)
def Tm.size:Tm->Nat
 |.num _=>1 | .box _=>1 | .plain _=>1 | .ask _ a=>a.size+1 | .op _ a b=>a.size+b.size+1
def Tm.depth:Tm->Nat
 |.num _=>1 | .box _=>1 | .plain _=>1 | .ask _ a=>a.depth+1 | .op _ a b=>max a.depth b.depth+1
def Tm.depth_pos:∀t:Tm,1<=t.depth
 |.num _=>eS _ | .box _=>eS _ | .plain _=>eS _ | .ask _ a=>Qg .. | .op _ a b=>Qg ..
def Tm.size_pos:∀t:Tm,1<=t.size
 |.num _=>eS _ | .box _=>eS _ | .plain _=>eS _ | .ask _ a=>Qg .. | .op _ a b=>Qg ..
def plainW:List Str:=["round","due","asked"]
def askW:List Str:=["coin","true"]
inductive TmAt(H:Hp):V->Tm->Prop
 |num {a:Addr} {n:Int}:H a=some (.tup [.str "num",.int n])->TmAt H (.ref a) (.num n)
 |box {a:Addr} {x:Str}:H a=some (.tup [.str "box",.str x])->TmAt H (.ref a) (.box x)
 |plain {a:Addr} {w:Str}:H a=some (.tup [.str w])->TmAt H (.ref a) (.plain w)
 |ask {a:Addr} {w:Str} {v:V} {t:Tm}:H a=some (.tup [.str w,v])->TmAt H v t->TmAt H (.ref a) (.ask w t)
 |op {a:Addr} {s:Str} {v u:V} {t r:Tm}:H a=some (.tup [.str "op",.str s,v,u])->TmAt H v t->TmAt H u r->TmAt H (.ref a) (.op s t r)
def TmAt.mono(k:cZ H b)(h:TmAt H v t):TmAt b v t:=by
 induction h with
 |num e=>exact .num (k _ _ e)
 |box e=>exact .box (k _ _ e)
 |plain e=>exact .plain (k _ _ e)
 |ask e _ c=>exact .ask (k _ _ e) c
 |op e _ _ d g=>exact .op (k _ _ e) d g
inductive Hr where
 |fin | go (n:Int) | iff (t:Tm) (n:Int) | set (x:Str) (t:Tm) | say (t:Tm)
inductive HrAt(H:Hp):V->Hr->Prop
 |fin {a:Addr}:H a=some (.tup [.str "end"])->HrAt H (.ref a) .fin
 |go {a:Addr} {n:Int}:H a=some (.tup [.str "go",.int n])->HrAt H (.ref a) (.go n)
 |iff {a:Addr} {v:V} {t:Tm} {n:Int}:H a=some (.tup [.str "if",v,.int n])->TmAt H v t->HrAt H (.ref a) (.iff t n)
 |set {a:Addr} {x:Str} {v:V} {t:Tm}:H a=some (.tup [.str "set",.str x,v])->TmAt H v t->HrAt H (.ref a) (.set x t)
 |say {a:Addr} {v:V} {t:Tm}:H a=some (.tup [.str "say",v])->TmAt H v t->HrAt H (.ref a) (.say t)
def HrAt.mono(k:cZ H b)(h:HrAt H v r):HrAt b v r:=by
 cases h with
 |fin e=>exact .fin (k _ _ e)
 |go e=>exact .go (k _ _ e)
 |iff e t=>exact .iff (k _ _ e) (t.mono k)
 |set e t=>exact .set (k _ _ e) (t.mono k)
 |say e t=>exact .say (k _ _ e) (t.mono k)
section
variable {CM CA CG:Addr}
example:=[wC,lR 0,tf,lR 1,wD,lR 2,qr,lR 3,wB,lR 4,wp,mL 0,zS,mL 1,zT,mL 2]
def al(g:Addr)(nr mn hd s:Int)(b:Addr)(c:V):List (Str×V):=[("game",.ref g),("number",.int nr),("many",.int mn),("held",.int hd),("s",.int s),("tossed",.ref b),("truths",c)]
def xK:(al g nr mn hd s b c).lookup ("game":Str)=some (.ref g):=by rfl'
structure ATxt(K:W.Frag)(mg:#[9])(C:Addr):Prop where
 cl:Cls K C
 nG:NoAttr K C "game"
 nN:NoAttr K C "number"
 nM:NoAttr K C "many"
 nH:NoAttr K C "held"
 nS:NoAttr K C "s"
 nT:NoAttr K C "tossed"
 nR:NoAttr K C "truths"
 mgC:mg "Asking"=some (.ref C)
def ml(g h:Addr)(r:Int)(b:Addr):List (Str×V):=[("game",.ref g),("helper",.ref h),("next_round",.int r),("boxes",.ref b)]
section
variable {g h b:Addr}{r:Int}
def ml_g:(ml g h r b).lookup ("game":Str)=some (.ref g):=by rfl'
def Jb:(ml g h r b).lookup ("helper":Str)=some (.ref h):=by rfl'
def KF:(ml g h r b).lookup ("next_round":Str)=some (.int r):=by rfl'
def Gk:(ml g h r b).lookup ("boxes":Str)=some (.ref b):=by rfl'
def ml_n1:(ml g h r b).lookup ("do_row":Str)=none:=by rfl'
def ml_n2:(ml g h r b).lookup ("say":Str)=none:=by rfl'
def Ay:(ml g h r b).length<1000:=by show 4<1000;decide
def Gj{v:Int}:cf "next_round" (.int v) (ml g h r b)=ml g h v b:=by rfl'
end
structure MTxt(K:W.Frag)(mg:#[9])(C:Addr):Prop where
 cl:Cls K C
 nG:NoAttr K C "game"
 nH:NoAttr K C "helper"
 nR:NoAttr K C "next_round"
 nB:NoAttr K C "boxes"
 mgC:mg "Machine"=some (.ref C)
def BxAt(H:Hp)(b:Addr)(bx:Str->Int)(m:Nat):Prop:=∃c:List (Key×V),H b=some (.dK c)/\c.length<=m/\∀x:Str,(iT c (.inr x)).getD (.int 0)=.int (bx x)
def eR(bx:Str->Int)(x:Str)(n:Int):Str->Int:=λy=>if y=x then n else bx y
def BxAt.keep{c:Hp}(h:BxAt H b bx m)(k:∀o,H b=some o->c b=some o):BxAt c b bx m:=by
 erw[d,e,r]at h;erw[d,k _ e,r]
def Lu{b:List (Key×V)}{bx:Str->Int}(x:Str)(n:Int)(h:∀x:Str,(iT b (.inr x)).getD (.int 0)=.int (bx x)):∀y:Str,(iT (pq b (.inr x) (.int n)) (.inr y)).getD (.int 0)=.int (eR bx x n y):=λy=>by
 rw[El];unfold eR
 by_cases c:y=x
 . rw[Pe (by rw[c]),Pe c];rfl
 . rw[Pd (λz=>c (Sum.inr.inj z)),Pd c];exact h y
section
variable {g aT:Addr}{nr mn hd s:Int}{tr:V}
def Lx:(al g nr mn hd s aT tr).lookup ("number":Str)=some (.int nr):=by rfl'
def al_m:(al g nr mn hd s aT tr).lookup ("many":Str)=some (.int mn):=by rfl'
def al_h:(al g nr mn hd s aT tr).lookup ("held":Str)=some (.int hd):=by rfl'
def al_s:(al g nr mn hd s aT tr).lookup ("s":Str)=some (.int s):=by rfl'
def al_t:(al g nr mn hd s aT tr).lookup ("tossed":Str)=some (.ref aT):=by rfl'
def JC:(al g nr mn hd s aT tr).lookup ("truths":Str)=some tr:=by rfl'
def al_n1:(al g nr mn hd s aT tr).lookup ("plain_value":Str)=none:=by rfl'
def al_n2:(al g nr mn hd s aT tr).lookup ("coin_at":Str)=none:=by rfl'
def al_n3:(al g nr mn hd s aT tr).lookup ("true_numbers":Str)=none:=by rfl'
def al_n4:(al g nr mn hd s aT tr).lookup ("true_at":Str)=none:=by rfl'
def HR:cf "truths" v (al g nr mn hd s aT tr)=al g nr mn hd s aT v:=by rfl'
def HS:(al g nr mn hd s aT tr).length<1000:=by show 7<1000;decide
end
structure Ak where
 ns:List Str
 ts:List Tr
 p:Int
 nr:Int
 mn:Int
 hd:Int
 s:Int
 to:List Int
def Ak.tru(z:Ak):List Int:=if z.nr=0 then z.ts.map (λt=>(cnt t z.ns:Int))else eJ z.ns z.ts z.s z.p z.to (bj z.ts (z.ns.getD z.to.length "")+1).toNat
structure AkOk(z:Ak):Prop where
 gk:GmK z.ns z.ts z.p
 n6:z.ns.length<=6
 nr0:0<=z.nr
 nrt:0<z.nr->z.to.length<z.ns.length
 po:cv z.to z.p
 s0:0<=z.s
 s1:z.s<z.p
 h0:0<=z.hd
 h1:z.hd<z.p
 tl:z.to.length<=100
def AkAt(CA CG:Addr)(H:Hp)(k g v:Addr)(z:Ak):Prop:=∃(m e a b d:Addr)(j:List V)(c:V),H k=some (.ins CA m (al g z.nr z.mn z.hd z.s e c))/\GameAt CG H g a b d z.p/\H a=some (.tup (z.ns.map V.str))/\H b=some (.tup j)/\TreesAt H j z.ts/\H d=some (.lst ((z.ns.map (bj z.ts)).map V.int))/\d≠v/\H e=some (.tup (z.to.map V.int))/\(c=.non∨∃l,c=.ref l/\l≠v/\H l=some (.lst (z.tru.map V.int)))
def AkAt.same(h:AkAt CA CG H k g v z)(s:Same H c):AkAt CA CG c k g v z:=by
 erw[j,m,a,b,d,o,q,h1,h2,h3,h4,h5,h6,h7,h8,h9]at h;erw[j,m,a,b,d,o,q,s _ _ h1,h2.same s,s _ _ h3,s _ _ h4,h5.mono (bc s),s _ _ h6,h7,s _ _ h8,h9.imp_right fun⟨l,e,n,r⟩=>%[l,e,n|s _ _ r]]
def AkAt.but2{j:Hp}{b:Addr}{q:List (Key×V)}{ys:List V}(h:AkAt CA CG H k g v z)(hb:H b=some (.dK q))(m:H v=some (.lst ys))(s:∀a o,a≠b->a≠v->H a=some o->j a=some o):AkAt CA CG j k g v z:=by
 erw[t,u,a,b',d,x,y,h1,%[B|h2],h3,h4,h5,h6,h7,h8,h9]at h;let T:cZ H j:=λc xs e=>s _ _ (bO e hb nofun) (bO e m nofun) e
 erw[t,u,a,b',d,x,y,s _ _ (bO h1 hb nofun) (bO h1 m nofun) h1,%[B|s _ _ (bO h2 hb nofun) (bO h2 m nofun) h2],T _ _ h3,T _ _ h4,h5.mono T,s _ _ (bO h6 hb nofun) h7 h6,h7,T _ _ h8,h9.imp_right fun⟨l,e,n,r⟩=>%[l,e,n|s _ _ (bO r hb nofun) n r]]
def og(z:Ak):List Int:=if 1<z.ts.length then z.s::z.to else z.to
def jB(z:Ak)(i:Int):Int:=if 1<=i/\i<=((og z).length:Int)then(og z).getD (i-1).toNat 0 else 0
def eK(z:Ak)(i:Int):Int:=if 0<z.nr then val z.p z.tru i else if i<(z.tru.length:Int)then z.tru.getD i.toNat 0 % z.p else 0
def qv(z:Ak)(w:Str):Int:=if w="round" then z.nr % z.p else if w="asked" then z.mn % z.p else z.hd
def AkOk.p0(k:AkOk z):2<z.p:=k.gk.p2
def ma(h:cv xs p)(p0:0<p)(i:Nat):0<=xs.getD i 0/\xs.getD i 0<p:=by
 rw[m9];cases e:xs[i]? with
 |none=>erw[qq 0,p0]
 |some x=>exact h x (ms e)
def HB(k:AkOk z):cv (og z) z.p:=by
 unfold og
 split
 . intro x b;rcases qA0 b with rfl | b
   . erw[k.s0,k.s1]
   . exact k.po x b
 . exact k.po
def Ea(k:AkOk z)(i:Int):0<=jB z i/\jB z i<z.p:=by
 have:=k.p0
 unfold jB
 split
 . exact ma (HB k) #[0] _
 . omega
def Cp(k:AkOk z)(i:Int):0<=eK z i/\eK z i<z.p:=by
 have:=k.p0
 unfold eK
 split
 . erw[lz _ #[0],mu _ #[0]]
 . split
   . erw[lz _ #[0],mu _ #[0]]
   . omega
def Aa(k:AkOk z)(w:Str):0<=qv z w/\qv z w<z.p:=by
 have:=k.p0
 unfold qv
 split
 . erw[lz _ #[0],mu _ #[0]]
 . split
   . erw[lz _ #[0],mu _ #[0]]
   . erw[k.h0,k.h1]
instance spPlain(CA CG:Addr):∀(k g v:Addr)(z:Ak)(w:Str),vs=[.ref k,.str w]->AkAt CA CG H k g v z->0<z.p->Q (.int (qv z w)) H:=1
def CN:FnScope We We (aj tf):=%[|5]
def Dm(F:#["plain_value","Asking.plain_value",tf])(TA:ATxt K mg CA)(TG:GTxt K mg CG):#[1,f,fd,We,spPlain CA CG]:=by
 exists CN
 erw[k,g,v,z,w,1,%[e,n,a,b,d,o,r,j,%[m|hg]|_],p0,q]at h;refine⟨_,(ad (aJ (ai aS (pv 1) aI (ax _)) (af (au (ao aY (aB (pv 0) rfl) (aB (aB (pv 0) rfl) rfl)))) aE)
  (ad (aJ (ai aS (pv 1) aI (ax _)) (af (au (ao aY (aB (pv 0) rfl) (aB (aB (pv 0) rfl) rfl)))) aE)
  (af (au (aB (pv 0) rfl))))),?_⟩
 unfold qv at q;erw[0,1,0,6]
 by_cases c:w="round"
 . rw[Pe c]at q;apply aZ (congrArg V.str c) ?_;erw[0,k,CA,e,_,0,j,TA.cl,TA.nN,Lx,0,k,CA,e,_,0,j,TA.cl,TA.nG,xK,g,CG,m,_,0,hg,TG.cl,TG.nF,fN ..,2,p0,q]
 . rw [Pd c]at q;apply aF (neS c) ?_;erw[0,1,0,6]
   by_cases c:w="asked"
   . rw[Pe c]at q;apply aZ (congrArg V.str c) ?_;erw[0,k,CA,e,_,0,j,TA.cl,TA.nM,al_m,0,k,CA,e,_,0,j,TA.cl,TA.nG,xK,g,CG,m,_,0,hg,TG.cl,TG.nF,fN ..,2,p0,q]
   . rw[Pd c]at q;apply aF (neS c) ?_;erw[0,k,CA,e,_,0,j,TA.cl,TA.nH,al_h,q]
instance spCoinAt(CA CG:Addr):∀(k g v:Addr)(z:Ak)(i:Int),vs=[.ref k,.int i]->AkAt CA CG H k g v z->z.to.length<=100->(∀H',Same H H'->Q (.int (jB z i)) H'):=1
def B9:FnScope ["self","place","tossed"] WN (aj wD):=%[|5]
instance tCoinE(z:Ak)(Dn:Ends)(σ:St)(H:Hp):∀(x0:Option V)(a:Addr)(i:Int),σ=[x0,some (.int i),some (.ref a)]->H a=some (.tup ((og z).map V.int))->Dn.rt (.int (jB z i)) H:=0
def FR(F:#["coin_at","Asking.coin_at",wD])(B:Bl mg)(TA:ATxt K mg CA)(TG:GTxt K mg CG):#[1,f,fd,WN,spCoinAt CA CG]:=by
 exists B9
 erw[k,g,v,z,i,1,%[r,x,a,b,d,O,U,u,%[L|hg],ha,hb,TS,_,_,hT|_],tl,q]at h;let C:=TS.length;refine⟨_,(ad #[am,2,B9,aB (pv 0) rfl]
  (ad (aJ (ai gq (aG aD rfl B.len fx %[aB (aB (pv 0) rfl) rfl|ae]) ag (ax _)) (af #[am,2,B9,ao op_catT (aR %[aB (pv 0) rfl|ae]) (pv 2)]) aE)
  (ig (t':=tCoinE z) (ad (aJ (Fh vj vj ag (pv 1) (aG aD rfl B.len fx %[2|ae])) (af (au (aO ix_tup (pv 2) (ao bi (pv 1) ag) #[1]))) aE)
  (af (au ag))) (by
   rintro Y σ H ⟨x0,a,i,rfl,ha,q⟩;unfold jB at q;erw[0,2,0,6];let D:(((og z).map V.int).length:Int)=((og z).length:Int):=by rw[d8]
   by_cases m:1<=i
   . apply aZ m ?_;erw[0,a,0,.inr (dV ha),2,0,6]
     by_cases n:i<=((og z).length:Int)
     . rw [Pe %[m|n]]at q;apply aZ (by rw[D];exact n) ?_;obtain⟨j,J⟩:∃j:Nat,i-1=(j:Int):=⟨(i-1).toNat,#[0]⟩
       rw[J,pu]at q;erw[0,0,2,a,_,2,dV ha,6,q];rw[J];exact pO #[0]
     . rw[Pd (λz=>n z.2)]at q;exact aF (by rw[D];exact n) q
   . rw[Pd (λz=>m z.1)]at q;exact aF m %[0|cQ q])))),?_⟩
 erw[0,k,CA,r,_,0,u,TA.cl,TA.nT,al_t,6];erw[0,k,CA,r,_,0,u,TA.cl,TA.nG,xK,g,CG,L,_,0,hg,TG.cl,TG.nT,nZ ..,b,0,.inr (dV hb),2,0,6]
 by_cases c:1<z.ts.length
 . apply aZ (by rw[C];omega) ?_;let o:og z=z.s::z.to:=Pe c;erw[0,k,CA,r,_,0,u,TA.cl,TA.nS,al_s,y1S,λt M=>?_];let I:=ej M (.tup [.int z.s]);let g1:upd H t (.tup [.int z.s]) t=some (.tup [.int z.s]):=ah;generalize upd H t (.tup [.int z.s])=H1 at I g1;erw[0,t,x,2,dV g1,dV (I _ _ hT),(λz=>nomatch z),cx (by show 1+(z.to.map V.int).length<=1000;rw[d8];omega),λe=>?_,λ_ y N=>?_]
   . erw[_,t,i,1,6,q _ I];rw[o,g1,lw,e]
   . erw[_,y,i,1,6,q _ (I.trans (ej N _))];rw[ah,o];rfl
 . apply aF (by rw[C];omega) ?_;let o:og z=z.to:=Pd c;erw[_,x,i,1,by rw[o];exact hT,q _ λ_ _ e=>e]
end
section
variable {CM CA CG:Addr}
def lV(ns:List Str)(ts:List Tr)(s p:Int)(cs:List Int)(n:Nat):(eJ ns ts s p cs n).length=n:=by
 unfold eJ;rw[d8,o0]
def Fa{p:Int}(c:0<p):cv (eJ ns ts s p cs n) p:=λx b=>by
 unfold eJ at b;let%[k,_|1]:=List.mem_map.mp b;erw[lz _ #[0],mu _ c]
def AkOk.deg(k:AkOk z)(h:0<z.nr):∃x,z.ns[z.to.length]?=some x/\z.ns.getD z.to.length ""=x/\0<=bj z.ts x/\bj z.ts x<z.p/\bj z.ts x<=400:=by
 let hl:=k.nrt h;erw[z.ns[z.to.length],fz hl,by rw[m9,fz hl];rfl,6];let b:=o4 hl;let%[c|d1]:=k.gk.deg _ b;erw[c,d1,6];let d:z.ts≠[]:=λe=>by have:=k.gk.t1;rw[e]at this;cases this
 have:=mf (p:=401) (x:=z.ns[z.to.length]) d λt g=>by
  let h1:=(k.gk.tok t g).2.2.2;let h2:=t.names_len;let h3:=QS (a:=z.ns[z.to.length]) (l:=t.names);omega
 omega
def AkOk.row(k:AkOk z)(h:0<z.nr):oi z.tru z.p:=by
 let%[x,b,ex,c,d1|d4]:=k.deg h;let p2:=k.p0;let p9:=k.gk.p9;let e:z.tru=eJ z.ns z.ts z.s z.p z.to (bj z.ts x+1).toNat:=by
  unfold Ak.tru;rw[Pd #[0],ex]
 rw[e];unfold oi;rw[lV];erw[3,3,3,λj=>?_]
 have:=ma (Fa (ns:=z.ns) (ts:=z.ts) (s:=z.s) (cs:=z.to) (n:=(bj z.ts x+1).toNat) (show 0<z.p by omega)) #[0] j
 omega
instance spTruths(CA CG:Addr):∀(k g v:Addr)(z:Ak)(ys:List V),vs=[.ref k]->AkAt CA CG H k g v z->AkOk z->H v=some (.lst ys)->(∀(l:Addr)(H':Hp),H' l=some (.lst (z.tru.map V.int))->AkAt CA CG H' k g v z->SameBut k H H'->Q (.ref l) H'):=1
def zR:FnScope WA WA (aj qr):=%[|5]
def Aq(F:#["true_numbers","Asking.true_numbers",qr])(TA:ATxt K mg CA)(gH:#[16,"counts_of",WC,spCounts CG])(oZ:#[14,"true_row",["game","s","coins"],spTrue CG]):#[17,f,fd,WA,spTruths CA CG]:=by
 exists zR
 erw[k,g,v,z,ys,1,AK,ok,hv,q]at h;refine⟨_,(ad (aJ (ai wP (aB (pv 0) rfl) kR (ax _)) (af (aJ (ai aS (aB (pv 0) rfl) ag (ax _)) (af (aQ (pv 0) (aq gH hr ⋯ rfl %[aB (pv 0) rfl|ae]) rfl)) (af (aQ (pv 0) (aq oZ hr ⋯ rfl %[aB (pv 0) rfl,aB (pv 0) rfl,aB (pv 0) rfl|ae]) rfl)))) aE)
  (af (au (aB (pv 0) rfl)))),?_⟩
 let J:=AK;erw[j,y,a,b,d,L,tr,m,C,ha,hb,TS,hd,dv,hT,B]at J;let t0:z.ts≠[]:=λe=>by have:=ok.gk.t1;rw[e]at this;cases this
 let t10:=ok.gk.t10;let p2:=ok.p0;let p9:=ok.gk.p9;erw[0,k,CA,j,_,0,m,TA.cl,TA.nR,JC,6];rcases B with rfl | ⟨l,rfl,lv,hl⟩
 . -- not ab asked
   let put:∀(l:Addr)(r:Hp),H l=none->Same H r->r l=some (.lst (z.tru.map V.int))->AkAt CA CG (upd r k (.ins CA j (al g z.nr z.mn z.hd z.s y (.ref l)))) k g v z/\(upd r k (.ins CA j (al g z.nr z.mn z.hd z.s y (.ref l)))) l=some (.lst (z.tru.map V.int))/\SameBut k H (upd r k (.ins CA j (al g z.nr z.mn z.hd z.s y (.ref l)))):=by
    intro l r l0 u hl;let lk:l≠k:=(aN m l0).symm;let U:∀{c:Addr}{o:HO},c≠k->r c=some o->(upd r k (.ins CA j (al g z.nr z.mn z.hd z.s y (.ref l)))) c=some o:=λn e=>by rw[az n];exact e
    let gk:g≠k:=λe=>by
     erw[dg,hg]at C;rw[e,m]at hg;cases hg
    let D:cZ H (upd r k (.ins CA j (al g z.nr z.mn z.hd z.s y (.ref l)))):=λc xs e=>U (bO e m nofun) (u _ _ e)
    erw[dg,hg]at C;erw[%[j,y,a,b,d,L,.ref l,ah,%[dg|U gk (u _ _ hg)],D _ _ ha,D _ _ hb,TS.mono D,U (bO hd m nofun) (u _ _ hd),dv,D _ _ hT|.inr %[l,1,(aN hv l0).symm|U lk hl]],U lk hl,(fy u).trans (SameBut.upd _)]
   erw[1,0,eF ?_];erw[0,k,CA,j,_,0,m,TA.cl,TA.nN,Lx,1,0,6]
   by_cases c:z.nr=0
   . apply aZ (congrArg V.int c) ?_;erw[0,k,CA,j,_,0,m,TA.cl,TA.nG,xK,g,a,b,d,z.ns,L,z.ts,z.p,1,C,ha,ok.n6,hb,TS,t10,λt B=>%[(ok.gk.tok t B).1|by have:=(ok.gk.tok t B).2.2.1;omega],λl r l0 u hl=>?_];let M:z.tru=z.ts.map (λt=>(cnt t z.ns:Int)):=Pe c;rw[←M]at hl;let%[N,O|Y]:=put l r l0 u hl;erw[0,k,CA,j,0,u _ _ m,TA.cl,TA.nR,HS,6];rw[HR];erw[0,k,CA,j,_,0,ah,TA.cl,TA.nR,JC,q l _ O N Y]
   . apply aF (λe=>c (V.int.inj e)) ?_;let n0:=ok.nr0;let%[x,hx,ex,d0,d1|d4]:=ok.deg #[0];erw[0,k,CA,j,_,0,m,TA.cl,TA.nG,xK,0,k,CA,j,_,0,m,TA.cl,TA.nS,al_s,0,k,CA,j,_,0,m,TA.cl,TA.nT,al_t,g,a,b,d,y,z.ns,L,z.ts,z.to,x,z.s,z.p,1,C,ha,ok.n6,hb,TS,t0,t10,λt B=>%[(ok.gk.tok t B).1|(ok.gk.tok t B).2.2.1],hd,hT,hx,d1,3,ok.po,3,3,λl r l0 u hl=>?_];let M:z.tru=eJ z.ns z.ts z.s z.p z.to (bj z.ts x+1).toNat:=by
      unfold Ak.tru;rw[Pd c,ex]
     rw[←M]at hl;let%[N,O|Y]:=put l r l0 u hl;erw[0,k,CA,j,0,u _ _ m,TA.cl,TA.nR,HS,6];rw[HR];erw[0,k,CA,j,_,0,ah,TA.cl,TA.nR,JC,q l _ O N Y]
 . erw[1,0,cQ ?_];erw[0,k,CA,j,_,0,m,TA.cl,TA.nR,JC,q l H hl AK (SameBut.refl _ _)]
instance spTrueAt(CA CG:Addr):∀(k g v:Addr)(z:Ak)(ys:List V)(i:Int),vs=[.ref k,.int i]->AkAt CA CG H k g v z->AkOk z->H v=some (.lst ys)->0<=i->i<z.p->(∀H',AkAt CA CG H' k g v z->SameBut k H H'->Q (.int (eK z i)) H'):=1
def LR:FnScope ["self","place","truths"] WN (aj wB):=%[|5]
def FP(F:#["true_at","Asking.true_at",wB])(B:Bl mg)(TA:ATxt K mg CA)(TG:GTxt K mg CG)(mT:Meth K CA "true_numbers" L)(GT:#[17,L,r,WA,spTruths CA CG])(bT:Binds K r WA [])(M:#[4,"value_at",WL,spVal]):#[18,f,fd,WN,spTrueAt CA CG]:=by
 exists LR
 erw[k,g,v,z,ys,i,1,x,ok,N,y,O,q]at h;refine⟨_,(ad #[am,2,LR,bt (pv 0) TA.cl mT GT hr bT .nil bd]
  (ad (aJ (ai gq (aB (pv 0) rfl) ag (ax _)) (af (au (aq M hr ⋯ rfl %[2,1,aB (aB (pv 0) rfl) rfl|ae]))) aE)
  (ad (aJ (ai iI (pv 1) (aG aD rfl B.len fx %[2|ae]) (ax _)) (af (au (ao aY (aO ix_list (pv 2) (pv 1) #[1]) (aB (aB (pv 0) rfl) rfl)))) aE)
  (af (au ag))))),?_⟩
 let p2:=ok.p0;let p9:=ok.gk.p9;let%[U,aT,_,_,_,_,tr,Y|_]:=id x;erw[0,k,U,0,Y,al_n3,k,g,v,z,ys,1,x,ok,N,λl C hl n t=>?_];let u:=n;erw[b,ab,a1,b1,d1,ac,an,d,%[e|m],_]at u;unfold eK at q;erw[0,k,CA,b,_,0,d,TA.cl,TA.nN,Lx,2,0,6]
 by_cases c:0<z.nr
 . rw[Pe c]at q;apply aZ c ?_;erw[0,0,0,k,CA,b,_,0,d,TA.cl,TA.nG,xK,g,CG,e,_,0,m,TG.cl,TG.nF,fN ..,l,z.tru,i,z.p,1,.inl hl,ok.row c,ok.gk.pr,p9,y,O,λH2 D=>q H2 (n.same D) (t.trans (fy D))]
 . rw [Pd c]at q;apply aF c ?_;erw[0,0,l,0,.inl (eH hl),2,0,6];let J:((z.tru.map V.int).length:Int)=(z.tru.length:Int):=by rw[d8]
   by_cases o:i<(z.tru.length:Int)
   . rw[Pe o]at q;apply aZ (by rw[J];exact o) ?_;let%[j|1]:=PJ y;rw[pu]at q;erw[0,0,l,_,2,eH hl,pO #[0],0,k,CA,b,_,0,d,TA.cl,TA.nG,xK,g,CG,e,_,0,m,TG.cl,TG.nF,fN ..,2,(by show 0<z.p;omega),q C n t]
   . rw[Pd o]at q;apply aF (by rw[J];exact o) ?_;exact q C n t
def Tm.worth(z:Ak)(bx:Str->Int):Tm->Int
 |.num n=>n % z.p | .box x=>bx x | .plain w=>qv z w
 |.ask w a=>if w="coin" then jB z (a.worth z bx)else eK z (a.worth z bx)
 |.op s a b=>opV z.p s (a.worth z bx) (b.worth z bx)
def Tm.good:Tm->Prop
 |.num _=>True | .box _=>True | .plain w=>w∈plainW | .ask w a=>w∈askW/\a.good | .op s a b=>s∈signW/\a.good/\b.good
def mx(p:Int)(bx:Str->Int):Prop:=∀x,0<=bx x/\bx x<p
def Tm.worth_rng(k:AkOk z)(hb:mx z.p bx):∀t:Tm,0<=t.worth z bx/\t.worth z bx<z.p
 |.num n=>by have:=k.p0;erw[lz _ #[0],mu _ #[0]]
 |.box x=>hb x
 |.plain w=>Aa k w
 |.ask w a=>by
   show 0<=(if w="coin" then jB z (a.worth z bx)else eK z (a.worth z bx))/\(if w="coin" then jB z (a.worth z bx)else eK z (a.worth z bx))<z.p
   split
   . exact Ea k _
   . exact Cp k _
 |.op s a b=>by have:=k.p0;exact IN #[0]
instance spTm(CA CG:Addr)(n:Nat):∀(v:V)(t:Tm)(b k g sd:Addr)(z:Ak)(ys:List V)(bx:Str->Int)(m:Nat),vs=[v,.ref b,.ref k]->TmAt H v t->t.good->t.depth<=n->BxAt H b bx m->mx z.p bx->AkAt CA CG H k g sd z->AkOk z->H sd=some (.lst ys)->(∀H',AkAt CA CG H' k g sd z->SameBut k H H'->Q (.int (t.worth z bx)) H'):=1
def jq:FnScope ["term","boxes","asking","word","first","second"] WW (aj kC):=%[|5]
structure AskF(P:Program)(w:World)(K:W.Frag)(mg:#[9])(base:Heap)(CA CG fP fC fR:Addr)(fdP fdC fdR:FuncData):Prop where
 mP:Meth K CA "plain_value" fP
 GP:#[1,fP,fdP,We,spPlain CA CG]
 bP:Binds K fdP We []
 mC:Meth K CA "coin_at" fC
 GC:#[1,fC,fdC,WN,spCoinAt CA CG]
 bC:Binds K fdC WN []
 mR:Meth K CA "true_at" fR
 GR:#[18,fR,fdR,WN,spTrueAt CA CG]
 bR:Binds K fdR WN []
def Ej{n:Nat}(F:#["value_of",kC])(TA:ATxt K mg CA)(TG:GTxt K mg CG)(M:AskF P w K mg base CA CG fP fC fR as av aw)(gQ:#[3,"op_value",Wd,spOp])(O:#[n+18,"value_of",WW,spTm CA CG n]):#[n+19,f,fd,WW,spTm CA CG (n+1)]:=by
 exists jq
 erw[v,t,b,k,g,sd,z,ys,bx,m,1,T,tg,td,BX,bo,j,ok,C,q]at h;let hu:=JU hr;let Pp:Room 1 _:=hr.mono #[0];let D:Room 18 _:=hr.mono #[0];refine⟨_,(ad #[am,3,jq,aO ix_tup (pv 0) ag #[1]]
  (ad (aJ (ai aS (pv 3) aI (ax _)) (af (au (ao aY (aO ix_tup (pv 0) ag #[1]) (aB (aB (pv 2) rfl) rfl)))) aE)
  (ad (aJ (ai aS (pv 3) aI (ax _)) (af (au (Fq hu (pv 1) (aO ix_tup (pv 0) ag #[1]) ag %[1,1,1|1]))) aE)
  (ad (aJ (ai aS (pv 3) aI (ax _)) (af (au (cq (pv 2) TA.cl M.mC M.GC Pp M.bC .nil bd %[aq O hr (eS _) rfl %[aO ix_tup (pv 0) ag #[1],1,2|ae]|ae]))) aE)
  (ad (aJ (ai aS (pv 3) aI (ax _)) (af (au (cq (pv 2) TA.cl M.mR M.GR D M.bR .nil bd %[aq O hr (eS _) rfl %[aO ix_tup (pv 0) ag #[1],1,2|ae]|ae]))) aE)
  (ad (aJ (ai aS (pv 3) aI (ax _)) (ad #[am,4,jq,aq O hr (eS _) rfl %[aO ix_tup (pv 0) ag #[1],1,2|ae]]
   (ad #[am,5,jq,aq O hr (eS _) rfl %[aO ix_tup (pv 0) ag #[1],1,2|ae]]
   (af (au (aq gQ hr #[0] rfl %[aO ix_tup (pv 0) ag #[1],4,5,aB (aB (pv 2) rfl) rfl|ae]))))) aE)
  (af (au (cq (pv 2) TA.cl M.mP M.GP Pp M.bP .nil bd %[3|ae]))))))))),?_⟩
 let ab:=j;erw[U,aT,ga,gb,gd,tv,tr,u,%[dg|hg],_]at ab;let p2:=ok.p0;let p0:0<z.p:=#[0]
 let kT:∀{r:Hp},SameBut k H r->cZ H r:=λs c xs e=>s _ _ (bO e u nofun) e
 let kB:∀{r:Hp},SameBut k H r->BxAt r b bx m:=λs=>BX.keep λo e=>s _ _ (by
  erw[Ph,e',_]at BX;exact bO e' u nofun) e
 let kS:∀{r:Hp},SameBut k H r->r sd=some (.lst ys):=λs=>s _ _ (bO C u nofun) C
 cases T with
 | @num a n e=>
   erw[0,a,_,(0),0,1,dV e,1,6];erw[0,1,0,aZ rfl ?_];erw[0,a,_,(1),0,1,dV e,1,0,k,CA,U,_,0,u,TA.cl,TA.nG,xK,g,CG,dg,_,0,hg,TG.cl,TG.nF,fN ..,2,p0,q H j (SameBut.refl _ _)]
 | @box a x e=>
   erw[0,a,_,(0),0,1,dV e,1,6];erw[0,1,0,7];erw[0,1,0,aZ rfl ?_];erw[Ph,hb,_,hx]at BX;erw[0,b,1,.inl %[Ph|.inl hb],0,a,_,(1),0,1,dV e,1,_,DGet.k (k:=.inr x) hb,6];rw[hx];exact q H j (SameBut.refl _ _)
 | @plain a wd e=>
   let no:∀x:Str,x∉plainW->¬ V.str wd=V.str x:=λx hx e=>hx (by rw[←V.str.inj e];exact tg)
   erw[0,a,_,(0),0,1,dV e,1,6];erw[0,1,0,aF (no _ ⋯) ?_];erw[0,1,0,aF (no _ ⋯) ?_];erw[0,1,0,aF (no _ ⋯) ?_];erw[0,1,0,aF (no _ ⋯) ?_];erw[0,1,0,aF (no _ ⋯) ?_];erw[0,k,U,0,u,al_n1,0,k,g,sd,z,wd,1,j,p0,q H j (SameBut.refl _ _)]
 | @ask a wd Y t1 e T1=>
   erw[wq,tq]at tg;let hw:wd="coin"∨wd="true":=by simpa [askW]using wq
   let d1:t1.depth<=n:=by have:t1.depth+1<=n+1:=td;omega
   let wr:=Tm.worth_rng ok bo t1;erw[0,a,_,(0),0,1,dV e,1,6];rcases hw with rfl | rfl
   . erw[0,1,0,7];erw[0,1,0,7];erw[0,1,0,aZ rfl ?_];erw[0,k,U,0,u,al_n2,0,a,_,(1),0,1,dV e,1,0,0,Y,t1,b,k,g,sd,z,ys,bx,m,1,T1,tq,d1,BX,bo,j,ok,C,λH1 B d=>?_];erw[k,g,sd,z,0,B,ok.tl,λJ y=>?_];let L:=q J (B.same y) (d.trans (fy y));let e1:(Tm.ask "coin" t1).worth z bx=jB z (t1.worth z bx):=Pe rfl;rw[e1]at L;exact L
   . erw[0,1,0,7];erw[0,1,0,7];erw[0,1,0,7];erw[0,1,0,aZ rfl ?_];erw[0,k,U,0,u,al_n4,0,a,_,(1),0,1,dV e,1,0,0,Y,t1,b,k,g,sd,z,ys,bx,m,1,T1,tq,d1,BX,bo,j,ok,C,λH1 B d=>?_];erw[k,g,sd,z,ys,0,B,ok,kS d,wr.1,wr.2,λJ A2 y=>?_];let L:=q J A2 (d.trans y);let e1:(Tm.ask "true" t1).worth z bx=eK z (t1.worth z bx):=Pd ⋯;rw[e1]at L;exact L
 | @op a o Y v2 t1 N e T1 T2=>
   erw[oq,q1,q2]at tg;let d1:t1.depth<=n:=by have:max t1.depth N.depth+1<=n+1:=td;omega
   let d2:N.depth<=n:=by have:max t1.depth N.depth+1<=n+1:=td;omega
   let w1:=Tm.worth_rng ok bo t1;let w2:=Tm.worth_rng ok bo N;erw[0,a,_,(0),0,1,dV e,1,6];erw[0,1,0,7];erw[0,1,0,7];erw[0,1,0,7];erw[0,1,0,7];erw[0,1,0,aZ rfl ?_];erw[0,a,_,(2),0,1,dV e,1,0,0,Y,t1,b,k,g,sd,z,ys,bx,m,1,T1,q1,d1,BX,bo,j,ok,C,λH1 B d=>?_];let e1:=kT d _ _ e;erw[0,a,_,(3),0,1,dV e1,1,0,0,v2,N,b,k,g,sd,z,ys,bx,m,1,T2.mono (kT d),q2,d2,kB d,bo,B,ok,kS d,λJ A2 y=>?_];let e2:=kT (d.trans y) _ _ e;let%[ac,aA,_,_,_,_,aC,an,%[ap|ar]|_]:=id A2;erw[0,a,_,(1),0,1,dV e2,1,0,0,0,k,CA,ac,_,0,an,TA.cl,TA.nG,xK,g,CG,ap,_,0,ar,TG.cl,TG.nF,fN ..,o,_,_,z.p,1,oq,ok.gk.pr,ok.gk.p9,w1.1,w1.2,w2.1,w2.2,q J A2 (d.trans y)]
def Ei:#[18,f,fd,WW,spTm CA CG 0]:=by
 let no:∀vs H Q E,¬ spTm CA CG 0 vs H Q E:=λvs H Q E h=>by
  erw[v,t,_,_,_,_,_,_,_,_,_,_,_,h1,_]at h
  have:=t.depth_pos
  omega
 exists 3
def qV(F:#["value_of",kC])(m:mg "value_of"=some (.ref f))(TA:ATxt K mg CA)(TG:GTxt K mg CG)(M:AskF P w K mg base CA CG g j o c d e)(b:#[3,"op_value",Wd,spOp]):
 ∀n:Nat,#[n+18,f,fd,WW,spTm CA CG n]
 |0=>Ei
 |n+1=>Ej F TA TG M b (Cal.of F (qV F m TA TG M b n) m (λ_ _ _ _ _ _ us hl=>by let%[q,r,t|1]:=Jj hl;rfl))
end
section
variable {CM CA CG:Addr}
structure MS where
 pl:Int
 bx:Str->Int
 sd:List Int
def EC(z:Ak)(len:Int)(s:MS):Hr->MS
 |.fin=>%[len,s.bx|s.sd]
 |.go n=>%[n,s.bx|s.sd]
 |.iff t n=>%[if t.worth z s.bx=0 then s.pl+1 else n,s.bx|s.sd]
 |.set x t=>%[s.pl+1,eR s.bx x (t.worth z s.bx)|s.sd]
 |.say t=>%[s.pl+1,s.bx|s.sd++[t.worth z s.bx]]
def cV(z:Ak)(rows:List Hr)(s:MS):MS:=match rows[s.pl.toNat]? with
 |some r=>EC z rows.length s r
 |none=>s
def jQ(z:Ak)(rows:List Hr):Nat->MS->MS
 |0,s=>s
 |n+1,s=>if s.pl<(rows.length:Int)/\(s.sd.length:Int)<z.mn then jQ z rows n (cV z rows s)else s
def qx(mn:Int)(sd:List Int):List Int:=sd++List.replicate (mn-(sd.length:Int)).toNat 0
def Hr.good:Hr->Prop
 |.fin=>True | .go n=>0<=n | .iff t n=>t.good/\t.depth<=5/\0<=n | .set _ t=>t.good/\t.depth<=5 | .say t=>t.good/\t.depth<=5
def ED{rows:List Hr}(b:∀r∈rows,r.good){s:MS}(h:0<=s.pl):0<=(cV z rows s).pl:=by
 unfold cV;cases e:rows[s.pl.toNat]? with
 |none=>exact h
 |some r=>
   let q:=b r (ms e);cases r with
   |fin=>exact RN _
   |go n=>exact q
   |iff t n=>
     show 0<=if t.worth z s.bx=0 then s.pl+1 else n
     by_cases c:t.worth z s.bx=0
     . rw[Pe c];omega
     . rw[Pd c];exact q.2.2
   |set x t=>show 0<=s.pl+1;omega
   |say t=>show 0<=s.pl+1;omega
def xS:(cV z rows s).sd.length<=s.sd.length+1:=by
 unfold cV;cases e:rows[s.pl.toNat]? with
 |none=>exact n9 _
 |some r=>
   cases r with
   |fin=>exact n9 _
   |go n=>exact n9 _
   |iff t n=>exact n9 _
   |set x t=>exact n9 _
   |say t=>show(s.sd++[_]).length<=_;rw[fm];exact eS _
def HG{n:Int}(h:mx p bx)(h0:0<=n)(h1:n<p):mx p (eR bx x n):=λy=>by
 unfold eR
 split
 . erw[h0,h1]
 . exact h y
def sG{s:MS}(k:AkOk z)(h:mx z.p s.bx)(b:cv s.sd z.p):mx z.p (cV z rows s).bx/\cv (cV z rows s).sd z.p:=by
 unfold cV;cases e:rows[s.pl.toNat]? with
 |none=>erw[h,b]
 |some r=>
   cases r with
   |fin=>erw[h,b]
   |go n=>erw[h,b]
   |iff t n=>erw[h,b]
   |set x t=>
     let w:=Tm.worth_rng k h t;erw[HG h w.1 w.2,b]
   |say t=>
     let w:=Tm.worth_rng k h t;erw[h,λy c=>?_];rcases qO0 c with c | c
     . exact b y c
     . rw[Pn c];exact w
def pk(k:AkOk z):∀(n:Nat)(s:MS),mx z.p s.bx->cv s.sd z.p->(s.sd.length:Int)<=z.mn->mx z.p (jQ z rows n s).bx/\cv (jQ z rows n s).sd z.p/\((jQ z rows n s).sd.length:Int)<=z.mn
 |0,s,h,b,hl=>%[h,b|hl]
 |n+1,s,h,b,hl=>by
   show mx z.p (if _ then _ else _:MS).bx/\cv (if _ then _ else _:MS).sd z.p/\((if _ then _ else _:MS).sd.length:Int)<=z.mn
   by_cases c:s.pl<(rows.length:Int)/\(s.sd.length:Int)<z.mn
   . rw [Pe c];let%[h1|h2]:=sG (rows:=rows) k h b
     have:=xS (z:=z) (rows:=rows) (s:=s)
     exact pk k n _ h1 h2 #[0]
   . rw[Pd c];erw[h,b,hl]
def yi{mn:Int}{sd:List Int}(h:(sd.length:Int)<=mn):((qx mn sd).length:Int)=mn:=by
 unfold qx;rw[fm,O3];omega
def Bw(h:cv sd p)(p0:0<p):cv (qx mn sd) p:=λx b=>by
 unfold qx at b;rcases qO0 b with b | b
 . exact h x b
 . rw[List.eq_of_mem_replicate b];omega
def RowsAt(H:Hp)(b:List V)(rows:List Hr):Prop:=b.length=rows.length/\∀(i:Nat)(v:V)(r:Hr),b[i]?=some v->rows[i]?=some r->HrAt H v r
def RowsAt.mono(h:RowsAt H b rows)(k:cZ H c):RowsAt c b rows:=%[h.1|λi v r h1 h2=>(h.2 i v r h1 h2).mono k]
def JF(b c:Addr)(H d:Hp):Prop:=∀a o,a≠b->a≠c->H a=some o->d a=some o
def BxAt.le{n:Nat}(h:BxAt H b bx m)(k:m<=n):BxAt H b bx n:=by
 erw[c,e,l,r]at h;erw[c,e,hE l k,r]
def But3(b c d:Addr)(H e:Hp):Prop:=∀a o,a≠b->a≠c->a≠d->H a=some o->e a=some o
def But3.trans(x:But3 b c d H g)(y:But3 b c d g j):But3 b c d H j:=λa o h1 h2 h3 e=>y a o h1 h2 h3 (x a o h1 h2 h3 e)
instance spRowM(CM CA CG:Addr):∀(M g h b dm k sd:Addr)(rv:List V)(r pl:Int)(z:Ak)(rows:List Hr)(bx:Str->Int)(m:Nat)(said:List Int),vs=[.ref M,.int pl,.ref sd,.ref k]->H M=some (.ins CM dm (ml g h r b))->M≠k->H h=some (.tup rv)->RowsAt H rv rows->(∀r∈rows,r.good)->0<=pl->pl<(rows.length:Int)->BxAt H b bx m->mx z.p bx->m<=10000->H sd=some (.lst (said.map V.int))->said.length<=900->AkAt CA CG H k g sd z->AkOk z->(∀H',H' sd=some (.lst ((cV z rows ⟨pl,bx,said⟩).sd.map V.int))->BxAt H' b (cV z rows ⟨pl,bx,said⟩).bx (m+1)->AkAt CA CG H' k g sd z->But3 b sd k H H'->Q (.int (cV z rows ⟨pl,bx,said⟩).pl) H'):=1
def J0:FnScope ["self","place","said","asking","row","word"] Wr (aj zT):=%[|5]
def IQ(F:#["do_row","Machine.do_row",zT])(B:Bl mg)(y:MTxt K mg CM)(dy:#[23,"value_of",WW,spTm CA CG 5]):#[24,f,fd,Wr,spRowM CM CA CG]:=by
 exists J0
 erw[M,g,h,b,dm,k,sd,O,rn,pl,z,rows,bx,m,said,1,hM,ab,hh,RW,rq,ac,ap,BX,bo,m1,d,sl,U,ok,q]at h;let hu:=JU hr;refine⟨_,(ad #[am,4,J0,aO ix_tup (aB (pv 0) rfl) (pv 1) #[1]]
  (ad #[am,5,J0,aO ix_tup (pv 4) ag #[1]]
  (ad (aJ (ai aS (pv 5) aI (ax _)) (af (au (aG aD rfl B.len fx %[aB (pv 0) rfl|ae]))) aE)
  (ad (aJ (ai aS (pv 5) aI (ax _)) (af (au (aO ix_tup (pv 4) ag #[1]))) aE)
  (ad (aJ (ai aS (pv 5) aI (ax _)) (af (ID hu (aB (pv 0) rfl) (aO ix_tup (pv 4) ag #[1]) (aq dy hr ⋯ rfl %[aO ix_tup (pv 4) ag #[1],aB (pv 0) rfl,3|ae]) rfl)) (af (aJ (ai aS (pv 5) aI (ax _)) (af (bh (iH qs Gp G0 eE (pv 2) %[aq dy hr ⋯ rfl %[aO ix_tup (pv 4) ag #[1],aB (pv 0) rfl,3|ae]|ae]))) (af (aJ (ai jw (aq dy hr ⋯ rfl %[aO ix_tup (pv 4) ag #[1],aB (pv 0) rfl,3|ae]) ag (ax _)) (af (au (aO ix_tup (pv 4) ag #[1]))) aE)))))
  (af (au (ao aV (pv 1) ag)))))))),?_⟩
 let%[i|1]:=PJ ac;let hi:i<rows.length:=#[0]
 let an:i<O.length:=by rw[RW.1];exact hi
 let er:rows[i]?=some rows[i]:=fz hi;let ev:O[i]?=some O[i]:=fz an;let RA:=RW.2 i _ _ ev er;let j:=rq _ (o4 hi);let Pi:cV z rows %[(i:Int),bx|said]=EC z rows.length ⟨(i:Int),bx,said⟩ rows[i]:=by
  unfold cV;rw[show((%[(i:Int),bx|said]:MS).pl.toNat)=i from pu i,er]
 rw[Pi]at q;generalize rows[i]=row at RA j q er Pi;let at_:atI O (i:Int)=some O[i]:=cX ev;generalize O[i]=v at RA at_ ev;erw[0,M,CM,dm,_,0,hM,y.cl,y.nH,Jb,0,h,_,_,v,1,1,dV hh,at_,6];let K0:But3 b sd k H H:=λ_ _ _ _ _ e=>e
 let Y:sd≠b:=by
  erw[Ph,e,_]at BX;exact bO d e nofun
 let%[Ph,hb,kl|hx]:=id BX;let%[dk,_,_,_,_,_,_,hk|_]:=id U;let kT:∀{L:Hp},SameBut k H L->cZ H L:=λs c xs e=>s _ _ (bO e hk nofun) e
 let D:b≠k:=bO hb hk nofun;let N:sd≠k:=bO d hk nofun;cases RA with
 | @fin a e=>
   erw[0,a,_,(0),0,1,dV e,1,6];erw[0,1,0,aZ rfl ?_];erw[0,M,CM,dm,_,0,hM,y.cl,y.nH,Jb,h,0,.inr (dV hh),6];rw[RW.1];exact q H d (BX.le (n9 _)) U K0
 | @go a n e=>
   erw[0,a,_,(0),0,1,dV e,1,6];erw[0,1,0,7];erw[0,1,0,aZ rfl ?_];erw[0,a,_,(1),0,1,dV e,1,q H d (BX.le (n9 _)) U K0]
 | @iff a u t n e T=>
   erw[0,a,_,(0),0,1,dV e,1,6];erw[0,1,0,7];erw[0,1,0,7];erw[0,1,0,7];erw[0,1,0,7];erw[0,a,_,(1),0,1,dV e,1,0,M,CM,dm,_,0,hM,y.cl,y.nB,Gk,0,u,t,b,k,g,sd,z,_,bx,m,1,T,j.1,j.2.1,BX,bo,U,ok,d,λH1 A1 r=>?_];erw[1,0,6];let q':∀L,L sd=some (.lst (said.map V.int))->BxAt L b bx (m+1)->AkAt CA CG L k g sd z->But3 b sd k H L->Q (.int (if t.worth z bx=0 then(i:Int)+1 else n)) L:=q
   let q1:=q' H1 (r _ _ N d) ((BX.keep λo e=>r _ _ D e).le (n9 _)) A1 (λc o _ _ h3 e=>r _ _ h3 e)
   by_cases c:t.worth z bx=0
   . rw[Pe c]at q1;apply yM (congrArg V.int c) ?_;erw[0,2,q1]
   . rw[Pd c]at q1;apply iteN (λz=>c (V.int.inj z)) ?_;erw[0,a,_,(2),0,1,dV (kT r _ _ e),1,q1]
 | @set a x u t e T=>
   erw[0,a,_,(0),0,1,dV e,1,6];erw[0,1,0,7];erw[0,1,0,7];erw[0,1,0,aZ rfl ?_];erw[0,a,_,(2),0,1,dV e,1,0,M,CM,dm,_,0,hM,y.cl,y.nB,Gk,0,u,t,b,k,g,sd,z,_,bx,m,1,T,j.1,j.2,BX,bo,U,ok,d,λH1 A1 r=>?_];let J:=r _ _ D hb;let C:=r _ _ N d;erw[0,M,CM,dm,_,0,r _ _ ab hM,y.cl,y.nB,Gk,0,a,_,(1),0,1,dV (kT r _ _ e),1,b,0,DPut.k (k:=.inr x) J ?_,6]
   . exact pb kl (pb m1 ⋯)
   erw[0,2,6];apply q _ ?_ ⟨_,ah,hE (lX _ _ _) (nw kl),Lu x _ hx⟩ (A1.but2 J C λc o h1 _ e=>by rw[az h1];exact e) (λc o h1 _ h3 e=>by rw[az h1];exact r _ _ h3 e);rw[az Y];exact C
 | @say a u t e T=>
   erw[0,a,_,(0),0,1,dV e,1,6];erw[0,1,0,7];erw[0,1,0,7];erw[0,1,0,7];erw[0,1,0,aZ rfl ?_];erw[0,.inl %[1,_|eH d],6];erw[0,a,_,(1),0,1,dV e,1,0,M,CM,dm,_,0,hM,y.cl,y.nB,Gk,0,u,t,b,k,g,sd,z,_,bx,m,1,T,j.1,j.2,BX,bo,U,ok,d,λH1 A1 r=>?_];let J:=r _ _ D hb;let C:=r _ _ N d;erw[sd,2,C,6,6]
   . rw[d8];exact aM #[0]
   erw[0,2,6];apply q _ ?_ ((BX.keep λo e=>by rw[az Y.symm];exact r _ _ D e).le (n9 _)) (A1.but2 J C λc o _ h2 e=>by rw[az h2];exact e) (λc o _ h2 h3 e=>by rw[az h2];exact r _ _ h3 e);rw[ah];show _=some (HO.lst ((said++[t.worth z bx]).map V.int));rw[fj];rfl
end
section
variable {CM CA CG:Addr}
def m1(g:Addr):List (Str×V):=[("game",.ref g)]
def m2(g h:Addr):List (Str×V):=[("game",.ref g),("helper",.ref h)]
def m3(g h:Addr):List (Str×V):=[("game",.ref g),("helper",.ref h),("next_round",.int 0)]
def pm1{g:Addr}:cf "game" (.ref g) []=m1 g:=by rfl'
def pm2{h:Addr}:cf "helper" (.ref h) (m1 g)=m2 g h:=by rfl'
def pm3:cf "next_round" (.int 0) (m2 g h)=m3 g h:=by rfl'
def pm4{b:Addr}:cf "boxes" (.ref b) (m3 g h)=ml g h 0 b:=by rfl'
instance spMInit(CM:Addr):∀(M g h dm:Addr),vs=[.ref M,.ref g,.ref h]->H M=some (.ins CM dm [])->(∀(b:Addr)(H':Hp),H b=none->H' M=some (.ins CM dm (ml g h 0 b))->H' b=some (.dK [])->SameBut M H H'->Q .non H'):=1
def EQ:FnScope WJ WJ (aj wp):=%[|5]
def FJ(F:#["__init__","Machine.__init__",wp])(T:MTxt K mg CM):#[1,f,fd,WJ,spMInit CM]:=by
 exists EQ
 erw[M,g,h,dm,1,hM,q]at h;refine⟨_,(ad (aQ (pv 0) (pv 1) rfl)
  (ad (aQ (pv 0) (pv 2) rfl)
  (ad (aQ (pv 0) ag rfl)
  (af (aQ (pv 0) Fp rfl))))),?_⟩
 erw[0,0,M,CM,dm,0,hM,9,T.nG,(by show 0<1000;decide),6];rw[pm1];erw[0,0,M,CM,dm,0,ah,9,T.nH,(by show 1<1000;decide),6];rw[pm2];erw[0,M,CM,dm,0,ah,9,T.nR,(by show 2<1000;decide),6];rw[pm3];let c:SameBut M H (upd (upd (upd H M (.ins CM dm (m1 g))) M (.ins CM dm (m2 g h))) M (.ins CM dm (m3 g h))):=(SameBut.upd _).trans ((SameBut.upd _).trans (SameBut.upd _));let g3:upd (upd (upd H M (.ins CM dm (m1 g))) M (.ins CM dm (m2 g h))) M (.ins CM dm (m3 g h)) M=some (.ins CM dm (m3 g h)):=ah;generalize upd (upd (upd H M (.ins CM dm (m1 g))) M (.ins CM dm (m2 g h))) M (.ins CM dm (m3 g h))=d at c g3;intro b hb;let bM:b≠M:=(aN g3 hb).symm;erw[0,M,CM,dm,0,by rw[az bM.symm];exact g3,T.cl,T.nB,(by show 3<1000;decide),6];rw[pm4];apply q b _ ?_ ah (by rw[az bM];exact ah) (c.trans ((fy (ej hb _)).trans (SameBut.upd _)));cases e:H b with
 |none=>rfl
 |some o=>rw[c b o bM e]at hb;cases hb
def a1(g:Addr):List (Str×V):=[("game",.ref g)]
def a2(g:Addr)(nr:Int):List (Str×V):=[("game",.ref g),("number",.int nr)]
def a3(g:Addr)(nr mn:Int):List (Str×V):=[("game",.ref g),("number",.int nr),("many",.int mn)]
def a4(g:Addr)(nr mn hd:Int):List (Str×V):=[("game",.ref g),("number",.int nr),("many",.int mn),("held",.int hd)]
def a5(g:Addr)(nr mn hd s:Int):List (Str×V):=[("game",.ref g),("number",.int nr),("many",.int mn),("held",.int hd),("s",.int s)]
def a6(g:Addr)(nr mn hd s:Int)(b:Addr):List (Str×V):=[("game",.ref g),("number",.int nr),("many",.int mn),("held",.int hd),("s",.int s),("tossed",.ref b)]
section
variable {g aT:Addr}{nr mn hd s:Int}
def pa1:cf "game" (.ref g) []=a1 g:=by rfl'
def pa2:cf "number" (.int nr) (a1 g)=a2 g nr:=by rfl'
def pa3:cf "many" (.int mn) (a2 g nr)=a3 g nr mn:=by rfl'
def pa4:cf "held" (.int hd) (a3 g nr mn)=a4 g nr mn hd:=by rfl'
def pa5:cf "s" (.int s) (a4 g nr mn hd)=a5 g nr mn hd s:=by rfl'
def pa6:cf "tossed" (.ref aT) (a5 g nr mn hd s)=a6 g nr mn hd s aT:=by rfl'
def pa7:cf "truths" .non (a6 g nr mn hd s aT)=al g nr mn hd s aT .non:=by rfl'
end
instance spAInit(CA:Addr):∀(k dk g c:Addr)(nr mn hd s:Int)(xs:List V),vs=[.ref k,.ref g,.int nr,.int mn,.int hd,.int s,.ref c]->H k=some (.ins CA dk [])->H c=some (.lst xs)∨H c=some (.tup xs)->(∀(aT:Addr)(H':Hp),H' k=some (.ins CA dk (al g nr mn hd s aT .non))->H' aT=some (.tup xs)->SameBut k H H'->Q .non H'):=1
def EW:FnScope Wf Wf (aj wC):=%[|5]
def FQ(F:#["__init__","Asking.__init__",wC])(B:Bl mg)(T:ATxt K mg CA):#[1,f,fd,Wf,spAInit CA]:=by
 exists EW
 erw[k,b,g,c,nr,mn,hd,s,xs,1,j,hc,q]at h;refine⟨_,(ad (aQ (pv 0) (pv 1) rfl)
  (ad (aQ (pv 0) (pv 2) rfl)
  (ad (aQ (pv 0) (pv 3) rfl)
  (ad (aQ (pv 0) (pv 4) rfl)
  (ad (aQ (pv 0) (pv 5) rfl)
  (ad (aQ (pv 0) (aX bq rfl B.tuple cw %[6|ae]) rfl)
  (af (aQ (pv 0) kR rfl)))))))),?_⟩
 erw[0,0,k,CA,b,0,j,9,T.nG,(by show 0<1000;decide),6];rw[pa1];erw[0,0,k,CA,b,0,ah,9,T.nN,(by show 1<1000;decide),6];rw[pa2];erw[0,0,k,CA,b,0,ah,9,T.nM,(by show 2<1000;decide),6];rw[pa3];erw[0,0,k,CA,b,0,ah,9,T.nH,(by show 3<1000;decide),6];rw[pa4];erw[0,0,k,CA,b,0,ah,9,T.nS,(by show 4<1000;decide),6];rw[pa5];let e:SameBut k H (upd (upd (upd (upd (upd H k (.ins CA b (a1 g))) k (.ins CA b (a2 g nr))) k (.ins CA b (a3 g nr mn))) k (.ins CA b (a4 g nr mn hd))) k (.ins CA b (a5 g nr mn hd s))):=(SameBut.upd _).trans ((SameBut.upd _).trans ((SameBut.upd _).trans ((SameBut.upd _).trans (SameBut.upd _))));let g5:upd (upd (upd (upd (upd H k (.ins CA b (a1 g))) k (.ins CA b (a2 g nr))) k (.ins CA b (a3 g nr mn))) k (.ins CA b (a4 g nr mn hd))) k (.ins CA b (a5 g nr mn hd s)) k=some (.ins CA b (a5 g nr mn hd s)):=ah;generalize upd (upd (upd (upd (upd H k (.ins CA b (a1 g))) k (.ins CA b (a2 g nr))) k (.ins CA b (a3 g nr mn))) k (.ins CA b (a4 g nr mn hd))) k (.ins CA b (a5 g nr mn hd s))=r at e g5;rcases hc with hc | hc
 . let d:=e _ _ (bO hc j nofun) hc;erw[0,c,0,.inl %[eH d|λo ha=>?_]];let m:o≠k:=(aN g5 ha).symm;erw[0,k,CA,b,0,by rw[az m.symm];exact g5,T.cl,T.nT,(by show 5<1000;decide),6];rw[pa6];erw[0,k,CA,b,0,ah,9,T.nR,(by show 6<1000;decide),6];rw[pa7];exact q o _ ah (by rw[az m,az m];exact ah) (e.trans ((fy (ej ha _)).trans ((SameBut.upd _).trans (SameBut.upd _))))
 . let n:=bO hc j nofun;let d:=e _ _ n hc;erw[0,c,0,.inr %[dV d|6]];erw[0,k,CA,b,0,g5,9,T.nT,(by show 5<1000;decide),6];rw[pa6];erw[0,k,CA,b,0,ah,9,T.nR,(by show 6<1000;decide),6];rw[pa7];exact q c _ ah (by rw[az n,az n];exact d) (e.trans ((SameBut.upd _).trans (SameBut.upd _)))
instance spSay(CM CG:Addr):∀(M g h b dm c:Addr)(rv:List V)(z:Ak)(rows:List Hr)(bx:Str->Int)(m:Nat),vs=[.ref M,.int z.mn,.int z.hd,.int z.s,.ref c]->H M=some (.ins CM dm (ml g h z.nr b))->H h=some (.tup rv)->RowsAt H rv rows->(∀r∈rows,r.good)->BxAt H b bx m->mx z.p bx->m<=5000->Gm CG H g z.ns z.ts z.p->AkOk z->H c=some (.lst (z.to.map V.int))∨H c=some (.tup (z.to.map V.int))->0<=z.mn->z.mn<=500->(∀(l:Addr)(H':Hp),H l=none->H' l=some (.lst ((qx z.mn (jQ z rows 200 ⟨0,bx,[]⟩).sd).map V.int))->BxAt H' b (jQ z rows 200 ⟨0,bx,[]⟩).bx (m+200)->H' M=some (.ins CM dm (ml g h (z.nr+1) b))->JF M b H H'->Q (.ref l) H'):=1
def jk:FnScope ["self","many","due","s","coins","asking","said","place","done"] Ws (aj zS):=%[|5]
def Fe(k:Nat)(x:V):(List.replicate k [x]).flatten=List.replicate k x:=by
 induction k with
 |zero=>rfl
 |succ k b=>rw[Pu,PY,b,Pu];rfl
instance tSayE(Dn:Ends)(σ:St)(H:Hp):∀(x0 x2 x3 x4 x5 x7 x8:Option V)(sd:Addr)(mn:Int)(xs:List Int),σ=[x0,some (.int mn),x2,x3,x4,x5,some (.ref sd),x7,x8]->H sd=some (.lst (xs.map V.int))->xs.length<=200->0<=mn->mn<=500->(∀(l:Addr)(H':Hp),H l=none->Same H H'->H' l=some (.lst ((qx mn xs).map V.int))->Dn.rt (.ref l) H'):=0
instance ISy(CA CG:Addr)(H4:Hp)(M c k sd b g:Addr)(rows:List Hr)(z:Ak)(bx:Str->Int)(m:Nat)(mm:Nat)(σ:St)(H':Hp):∀(st:MS)(d:Nat),σ=[some (.ref M),some (.int z.mn),some (.int z.hd),some (.int z.s),some (.ref c),some (.ref k),some (.ref sd),some (.int st.pl),some (.int (d:Int))]->d<=200->mm=200-d->0<=st.pl->st.sd.length<=d->jQ z rows (200-d) st=jQ z rows 200 ⟨0,bx,[]⟩->H' sd=some (.lst (st.sd.map V.int))->BxAt H' b st.bx (m+d)->mx z.p st.bx->cv st.sd z.p->AkAt CA CG H' k g sd z->But3 b sd k H4 H':=0
def IP(F:#["say","Machine.say",zS])(B:Bl mg)(C:MTxt K mg CM)(TA:ATxt K mg CA)(ap:∃t,mg "MOST_ROWS_DONE"=some (.int 200 t))
 (MA:Mk K CA fA)(GA:#[1,fA,bb,Wf,spAInit CA])(bA:Binds K bb Wf [])
 (mR:Meth K CM "do_row" fR)(GR:#[24,fR,be,Wr,spRowM CM CA CG])(bR:Binds K be Wr []):#[25,f,fd,Ws,spSay CM CG]:=by
 exists jk
 erw[M,g,h,b,dm,c,rv,z,rows,bx,m,1,hM,hh,RW,rq,BX,bo,mm,GG,ok,hc,N,O,q]at h;erw[a',b',d',tv,G,bf,bg,TS,U]at GG;erw[te,ge]at ap;let bn:Room (1+1) _:=hr.mono ⋯;let br:Room 24 _:=hr.mono ⋯;refine⟨_,(ad #[am,5,jk,iN MA GA bn rfl TA.mgC bA .nil bd %[aB (pv 0) rfl,aB (pv 0) rfl,1,2,3,4|ae]]
  (ad (aQ (pv 0) (ao aV (aB (pv 0) rfl) ag) rfl)
  (ad #[am,6,jk,bY ae]
  (ad #[am,7,jk,ag]
  (ad #[am,8,jk,ag]
  (ad (iq ks (PW.pt (jH (ai iI (pv 7) (aG aD rfl B.len fx %[aB (pv 0) rfl|ae]) (ax _)) (jH (ai iI (aG aD rfl B.len fx %[6|ae]) (pv 1) (ax _)) (iM (ai iI (pv 8) (dI (v:=.int 200) rfl ge ⟨_,rfl⟩) (ax _)))))) (ad #[am,7,jk,cq (pv 0) C.cl mR GR br bR .nil bd %[7,6,5|ae]]
   (af #[am,8,jk,ao aV (pv 8) ag])))
  (ig (t':=tSayE) (af (au (ao jI (pv 6) (ao KB (bY %[ag|ae]) (ao bi (pv 1) (aG aD rfl B.len fx %[6|ae])))))) (by
   rintro Dn σ H ⟨x0,x2,x3,x4,x5,x7,x8,sd,mn,xs,rfl,r,xl,N,O,q⟩;erw[0,y1S,λz hz=>?_];let I1:=ej hz (.lst [.int 0]);let g1:upd H z (.lst [.int 0]) z=some (.lst [.int 0]):=ah;generalize upd H z (.lst [.int 0])=H1 at I1 g1;erw[0,0,sd,0,.inl (eH (I1 _ _ r)),2,6];let el:((xs.map V.int).length:Int)=(xs.length:Int):=by rw[d8]
   erw[z,2,g1,3,3,cx (by show 1*(mn-((xs.map V.int).length:Int)).toNat<=1000;omega),λy hy=>?_];rw[Fe];let I2:=ej hy (.lst (List.replicate (mn-((xs.map V.int).length:Int)).toNat (.int 0)));let g2:upd H1 y (.lst (List.replicate (mn-((xs.map V.int).length:Int)).toNat (.int 0))) y=some (.lst (List.replicate (mn-((xs.map V.int).length:Int)).toNat (.int 0))):=ah;generalize upd H1 y (.lst (List.replicate (mn-((xs.map V.int).length:Int)).toNat (.int 0)))=H2 at I2 g2;erw[sd,y,2,I2 _ _ (I1 _ _ r),g2,6,λl hl=>?_]
   . rw[O3,d8];exact cx #[0]
   apply q l _ ?_ (I1.trans (I2.trans (ej hl _))) ?_
   . cases e:H l with
     |none=>rfl
     |some o=>rw[I2 _ _ (I1 _ _ e)]at hl;cases hl
   . rw[ah,el];unfold qx;rw[fj,List.map_replicate])))))))),?_⟩
 erw[0,M,CM,dm,_,0,hM,C.cl,C.nG,ml_g,0,M,CM,dm,_,0,hM,C.cl,C.nR,KF,0,0,0,0,λk Y hk bv nk=>?_];let S1:Same H (upd (upd H Y (.own k)) k (.ins CA Y [])):=λa o e=>by
  rw[az (aN e hk),az (aN e bv)];exact e
 let g1:upd (upd H Y (.own k)) k (.ins CA Y []) k=some (.ins CA Y []):=ah;generalize upd (upd H Y (.own k)) k (.ins CA Y [])=H1 at S1 g1;erw[k,Y,g,c,z.nr,z.mn,z.hd,z.s,z.to.map V.int,1,g1,hc.imp (S1 _ _) (S1 _ _),λaT H2 bB aA S2=>%[1|6]];let ab:Same H H2:=Same.but S1 hk S2;clear S1 S2 g1;let ar:=ab _ _ hM;erw[0,M,CM,dm,_,0,ar,C.cl,C.nR,KF,2,0,M,CM,dm,0,ar,C.cl,C.nR,Ay,6];rw[Gj];let as:M≠k:=aN hM hk;let S3:SameBut M H2 (upd H2 M (.ins CM dm (ml g h (z.nr+1) b))):=SameBut.upd _;let aC:upd H2 M (.ins CM dm (ml g h (z.nr+1) b)) M=some (.ins CM dm (ml g h (z.nr+1) b)):=ah;generalize upd H2 M (.ins CM dm (ml g h (z.nr+1) b))=H3 at S3 aC;erw[y0S,λsd r=>?_];let I4:=ej r (.lst []);let g4:upd H3 sd (.lst []) sd=some (.lst []):=ah;generalize upd H3 sd (.lst [])=H4 at I4 g4;let gM:g≠M:=λe=>by
  erw[dg,hg]at G;rw[e,hM]at hg;cases hg
 let aH:b≠M:=by
  erw[Ph,e,_]at BX;exact bO e hM nofun
 let u:SameBut M H H4:=(fy ab).trans (S3.trans (fy I4));let aK:=I4 _ _ aC;let kT:cZ H H4:=λc xs h=>u c _ (bO h hM nofun) h
 let ac:=kT _ _ hh;let bC:=RW.mono kT;let aL:BxAt H4 b bx m:=BX.keep λo e=>u b o aH e
 let G4:GameAt CG H4 g a' b' d' z.p:=by
  erw[dg,hg]at G;erw[dg,u _ _ gM hg]
 let bD:H4 aT=some (.tup (z.to.map V.int)):=I4 _ _ (S3 _ _ (bO aA ar nofun) aA);let aP:=u _ _ (bO U hM nofun) U;let bE:d'≠sd:=aN (S3 _ _ (bO U hM nofun) (ab _ _ U)) r;let D:=I4 _ _ (S3 _ _ as.symm bB);let b4:∃Ph,H4 b=some (.dK Ph):=by
  erw[Ph,e,_]at aL;erw[Ph,e]
 erw[bW,an]at b4;let b0:b≠sd:=bO an g4 nofun;let bF:h≠b:=bO ac an nofun;let bG:h≠sd:=bO ac g4 nofun;let a0:M≠sd:=bO aK g4 nofun;let b1:k≠b:=bO D an nofun;let b2:k≠sd:=bO D g4 nofun;let bH:AkAt CA CG H4 k g sd z:=%[Y,aT,a',b',d',tv,.non,D,G4,kT _ _ bf,kT _ _ bg,TS.mono kT,aP,bE,bD|.inl rfl]
 let bI:H sd=none:=by
  cases e:H sd with
  |none=>rfl
  |some o=>rw[S3 _ _ a0.symm (ab _ _ e)]at r;cases r
 erw[ISy CA CG H4 M c k sd b g rows z bx m,%[_,%[(0),bx|[]],(0),1,i1 _,1,qq 0,eS _,1,g4,aL,bo,(λx hx=>by cases hx),bH|λ_ _ _ _ _ e=>e],6]
 rintro mm σ H' ⟨st,d,rfl,d2,rfl,a7,sl,J,j,av,aw,a8,bM,S'⟩;let L:=S' _ _ aH.symm a0 as aK;let a9:=S' _ _ bF bG (bO ac D nofun) ac;let bP:cZ H4 H':=λc xs h=>S' c _ (bO h an nofun) (bO h g4 nofun) (bO h D nofun) h
 let bS:=bC.mono bP;let fin:jQ z rows (200-d) st=st->∀(l:Addr)(H5:Hp),H' l=none->Same H' H5->H5 l=some (.lst ((qx z.mn st.sd).map V.int))->Q (.ref l) H5:=λer l H5 l0 S5 hl=>by
  rw[er]at J;rw[←J]at q;apply q l H5 ?_ hl ((av.keep λo e=>S5 b o e).le #[0]) (S5 _ _ L) (λa o h1 h2 e=>?_)
  . cases e:H l with
    |none=>rfl
    |some o=>
      let lM:l≠M:=λz=>by rw[z,L]at l0;cases l0
      let lb:l≠b:=λz=>by
       erw[Ph,e',_]at av;rw[z,e']at l0;cases l0
      let ls:l≠sd:=λz=>by rw[z,j]at l0;cases l0
      rw[S' _ _ lb ls (aN e hk) (u _ _ lM e)]at l0;cases l0
  . exact S5 _ _ (S' _ _ h2 (aN e bI) (aN e hk) (u _ _ h1 e))
 erw[0,0,M,CM,dm,_,0,L,C.cl,C.nH,Jb,h,0,.inr (dV a9),2,0,6];rw[RW.1]
 by_cases c1:st.pl<(rows.length:Int)
 . apply aZ c1 ?_;erw[0,sd,0,.inl (eH j),0,2,0,6];rw[d8]
   by_cases c2:(st.sd.length:Int)<z.mn
   . apply aZ c2 ?_;erw[0,2,0,6]
     by_cases c3:d<200
     . apply aZ #[0] ?_;erw[_,λ_ _ h=>h,6];erw[0,M,dm,0,L,ml_n1,0,0,0,M,g,h,b,dm,k,sd,rv,_,st.pl,z,rows,st.bx,m+d,st.sd,1,L,as,a9,bS,rq,a7,c1,av,aw,3,j,3,bM,ok,λH6 bT bU A6 S6=>?_];erw[0,2,6];erw[_,(show 200-(d+1)<200-d by omega),cV z rows st,d+1,1,c3,1,ED rq a7,hE xS (nw sl),6,bT,bU,(sG ok aw a8).1,(sG ok aw a8).2,A6,S'.trans S6];rw[←J,show 200-d=(200-(d+1))+1 by omega];exact(Pe ⟨c1,c2⟩).symm
     . apply aF #[0] ?_;let ed:200-d=0:=#[0]
       erw[_,_,_,_,_,_,_,sd,z.mn,st.sd,1,j,3,N,O,fin (by rw[ed];rfl)]
   . apply aF c2 (cQ ?_);erw[_,_,_,_,_,_,_,sd,z.mn,st.sd,1,j,3,N,O,fin ?_];cases 200-d with
     |zero=>rfl
     |succ n=>exact Pd (λz=>c2 z.2)
 . apply aF c1 (cQ ?_);erw[_,_,_,_,_,_,_,sd,z.mn,st.sd,1,j,3,N,O,fin ?_];cases 200-d with
   |zero=>rfl
   |succ n=>exact Pd (λz=>c1 z.1)
end
section
variable {ns:List Str}{ts:List Tr}{p:Int}
def rY(k:GmK ns ts p)(x:Str):0<=bj ts x/\bj ts x<=400:=by
 let b:ts≠[]:=λz=>by have:=k.t1;rw[z]at this;cases this
 have:=jS (ns:=ts.map λt=>(t.names.count x:Int)) #[b,0]
 let%[t,c|e]:=List.mem_map.mp this;unfold bj;rw[←e];let h1:=QS (a:=x) (l:=t.names);let h2:=t.names_len;let h3:=(k.tok t c).2.2.2;omega
end
structure HearOk(ns:List Str)(p:Int)(z:Db)(xs:List Int):Prop where
 aw:z.aw=(("hear":Str),some (xs.length:Int))
 xo:cv xs p
 x5:xs.length<=500
 ro:z.cl≠[]->oi xs p
 tl:z.to.length<=ns.length
 po:cv z.to p
structure TossOk(ns:List Str)(p:Int)(z:Db)(r:Int):Prop where
 aw:z.aw.1="coin"
 r0:0<=r
 r1:r<p
 tl:z.to.length<=ns.length
 ro:z.he≠[]->oi z.he p/\z.to.length<ns.length
 po:cv z.to p
section
variable {C CG cT cC cN:Addr}
structure Gd(ns:List Str)(ts:List Tr)(p:Int)(z:Db):Prop where
 tl:z.to.length<=ns.length
 po:cv z.to p
 e0:0<=z.ed
 e1:z.ed<p
 he:z.aw.1="hear" -> (z.cl=[]/\z.aw=(("hear":Str),some (ts.length:Int)))∨(z.cl≠[]/\z.to.length<ns.length/\z.aw=(("hear":Str),some (bj ts (ns.getD z.to.length "")+1)))
 co:z.aw.1="coin" -> z.cl≠[]/\(z.he≠[]->oi z.he p/\z.to.length<ns.length)
 h0:z.cl=[]->z.he=[]
 ww:AwW z.aw.1
section
variable {ns:List Str}{ts:List Tr}{p:Int}{z:Db}
def Gd.new(k:GmK ns ts p):Gd ns ts p (Db.new ts):=by
 have:=k.p2
 erw[i1 _,(λx b=>by cases b),qq _,(by show(0:Int)<p;omega),λ_=>.inl %[1|1],(λh=>by cases h),λ_=>rfl,.inl rfl]
def Gd.goOn(tl:z.to.length<=ns.length)(po:cv z.to p)(e0:0<=z.ed)(e1:z.ed<p)(cl:z.cl≠[]):Gd ns ts p (goOn ns ts p z):=by
 unfold Mine.goOn
 by_cases c:z.to.length<ns.length
 . rw[Pe c];erw[tl,po,e0,e1,λ_=>.inr %[cl,c|1],(λh=>by cases h),λh=>absurd h cl,.inl rfl]
 . rw [Pd c];unfold fq
   by_cases e:z.ed=hor z.s p (ts.map λt=>t.worth ns z.to p)
   . rw[Pe e];erw[tl,po,e0,e1,(λh=>by cases h),(λh=>by cases h),λh=>absurd h cl,.inr (.inr (.inr rfl))]
   . rw[Pd e];erw[tl,po,e0,e1,(λh=>by cases h),(λh=>by cases h),λh=>absurd h cl,.inr (.inr (.inl rfl))]
def Gd.hear_ne(k:GmK ns ts p)(h:Gd ns ts p z)(ok:HearOk ns p z xs):xs≠[]:=λe=>by
 let a:=ok.aw;rw[e,ni]at a;let t1:=k.t1;rcases h.he (by rw[a])with⟨_,w⟩ | ⟨_,_,w⟩
 . rw [w]at a
   have:=j3 (Prod.mk.inj a).2
   omega
 . rw [w]at a
   have:=j3 (Prod.mk.inj a).2
   have:=rY k (ns.getD z.to.length "")
   omega
def Gd.hear(k:GmK ns ts p)(h:Gd ns ts p z)(ok:HearOk ns p z xs):Gd ns ts p (du ns ts p xs z)/\(du ns ts p xs z).cl≠[]:=by
 let p2:=k.p2;let b:=h.hear_ne k ok;let a1:z.aw.1="hear":=by rw[ok.aw]
 unfold du
 by_cases c:z.cl=[]
 . rw [Pe c];unfold jz
   by_cases d:ts.length=1
   . rw [Pe d];unfold zo;let hr:=rR (s:=0) (p:=p) #[0] xs;erw[Gd.goOn h.tl h.po hr.1 hr.2 b,6];unfold Mine.goOn fq
     split <;> exact b
   . rw[Pd d];erw[%[h.tl,h.po,h.e0,h.e1,(λz=>by cases z),λ_=>%[b|λe=>absurd (h.h0 c) e],λe=>absurd e b|.inr (.inl rfl)],b]
 . rw [Pd c];unfold dY;let tl:z.to.length<ns.length:=by
    rcases h.he a1 with⟨e,_⟩ | ⟨_,t,_⟩
    . exact absurd e c
    . exact t
   by_cases e:(val p xs 0+val p xs 1) % p=z.ed
   . rw[Pe e];erw[%[h.tl,h.po,h.e0,h.e1,(λz=>by cases z),λ_=>%[c|λ_=>%[ok.ro c|tl]],λe=>absurd e c|.inr (.inl rfl)],c]
   . rw[Pd e];erw[%[h.tl,h.po,h.e0,h.e1,(λz=>by cases z),(λz=>by cases z),λe=>absurd e c|.inr (.inr (.inl rfl))],c]
def Gd.toss(k:GmK ns ts p)(h:Gd ns ts p z)(ok:TossOk ns p z r):Gd ns ts p (eg ns ts p r z)/\(eg ns ts p r z).cl≠[]:=by
 let p2:=k.p2;let%[cl|ro]:=h.co ok.aw;unfold eg
 by_cases c:z.he=[]
 . rw [Pe c];unfold zo;let hr:=rR (s:=r) (p:=p) #[0] z.cl;erw[Gd.goOn h.tl h.po hr.1 hr.2 cl,6];unfold Mine.goOn fq
   split <;> exact cl
 . rw [Pd c];let hr:=Bg (p:=p) #[0] z.he r;erw[Gd.goOn ?_ (λx b=>?_) hr.1 hr.2 cl,6]
   . show (z.to++[r]).length<=_;rw[fm,nm]
     have:=(ro c).2
     omega
   . rcases qO0 b with h' | h'
     . exact h.po x h'
     . rw[Pn h'];erw[ok.r0,ok.r1]
   . unfold Mine.goOn fq
     split <;> exact cl
end
end
structure Tk where
 z:Db
 bx:Str->Int
 nr:Int
def awN(z:Db):Int:=z.aw.2.getD 0
def Tk.ak(ns:List Str)(ts:List Tr)(p:Int)(t:Tk):Ak:=%[ns,ts,p,t.nr,awN t.z,t.z.ed,t.z.s|t.z.to]
def Tk.run(ns:List Str)(ts:List Tr)(p:Int)(rows:List Hr)(t:Tk):MS:=jQ (t.ak ns ts p) rows 200 %[(0),t.bx|[]]
def Tk.said(ns:List Str)(ts:List Tr)(p:Int)(rows:List Hr)(t:Tk):List Int:=qx (awN t.z) (t.run ns ts p rows).sd
def Tk.ask(ns:List Str)(ts:List Tr)(p:Int)(rows:List Hr)(t:Tk):Tk:=%[du ns ts p (t.said ns ts p rows) t.z,(t.run ns ts p rows).bx|t.nr+1]
def Tk.toss(ns:List Str)(ts:List Tr)(p r:Int)(t:Tk):Tk:=%[eg ns ts p r t.z,t.bx|t.nr]
def Tk.new(ts:List Tr):Tk:=%[Db.new ts,λ_=>0|(0)]
def bQ(ns:List Str)(z:Db):Nat:=if z.aw.1="hear" then 2*(ns.length-z.to.length)else if z.aw.1="coin" then(if z.he=[]then 2*ns.length+1 else 2*(ns.length-z.to.length)-1)else 0
def bZ(ns:List Str)(z:Db):Nat:=if z.aw.1="hear" then ns.length-z.to.length else if z.aw.1="coin" then(if z.he=[]then ns.length+1 else ns.length-z.to.length)else 0
structure TkOk(ns:List Str)(ts:List Tr)(p:Int)(t:Tk):Prop where
 gd:Gd ns ts p t.z
 cl:t.z.cl≠[]
 s0:0<=t.z.s
 s1:t.z.s<p
 bo:mx p t.bx
 nr:1<=t.nr
 fi:t.z.aw.1="coin" -> t.z.he=[]->t.z.to=[]
section
variable {ns:List Str}{ts:List Tr}{p:Int}{t:Tk}{rows:List Hr}
def jf:¬ (("coin":Str)="hear"):=by decide
def yz:¬ (("caught":Str)="hear"):=by decide
def JS:¬ (("caught":Str)="coin"):=by decide
def FW:¬ (("believed":Str)="coin"):=by decide
def xC(z:Db):(goOn ns ts p z).s=z.s/\(goOn ns ts p z).to=z.to/\(goOn ns ts p z).he=z.he/\(goOn ns ts p z).cl=z.cl:=by
 unfold goOn fq
 split <;> erw[1,1,1,1]
def jA(z:Db):¬ (goOn ns ts p z).aw.1="coin":=by
 unfold goOn fq
 split
 . exact λh=>jf h.symm
 . show ¬ (if _ then _ else _:Str×Option Int).1="coin"
   split
   . exact FW
   . exact JS
def jV(z:Db):bQ ns (goOn ns ts p z)<=2*(ns.length-z.to.length)/\bZ ns (goOn ns ts p z)<=ns.length-z.to.length:=by
 let%[_,e|_]:=xC (ns:=ns) (ts:=ts) (p:=p) z;let no:=jA (ns:=ns) (ts:=ts) (p:=p) z;unfold bQ bZ;rw[e,Pd no,Pd no]
 constructor <;> split <;> omega
def TkOk.ak(k:GmK ns ts p)(n6:ns.length<=6)(h:TkOk ns ts p t)(hw:t.z.aw.1="hear"):AkOk (t.ak ns ts p)/\0<=awN t.z/\awN t.z<=500/\t.z.to.length<ns.length/\t.z.aw=(("hear":Str),some (awN t.z))/\awN t.z=bj ts (ns.getD t.z.to.length "")+1:=by
 rcases h.gd.he hw with⟨e,_⟩ | ⟨_,tl,aw⟩
 . exact absurd e h.cl
 let b:awN t.z=bj ts (ns.getD t.z.to.length "")+1:=by unfold awN;rw[aw];rfl
 let%[c|d4]:=rY k (ns.getD t.z.to.length "");let nr:=h.nr;erw[%[k,n6,by show 0<=t.nr;omega,λ_=>tl,h.gd.po,h.s0,h.s1,h.gd.e0,h.gd.e1|by show t.z.to.length<=100;omega],3,3,tl,by rw[b];exact aw,b]
def TkOk.hear(k:GmK ns ts p)(n6:ns.length<=6)(h:TkOk ns ts p t)(hw:t.z.aw.1="hear"):HearOk ns p t.z (t.said ns ts p rows):=by
 let%[ok,c,a5,tl,aw|m]:=h.ak k n6 hw;let p2:=k.p2;let p9:=k.p9;let%[_,d|e]:=pk (rows:=rows) ok 200 %[(0),t.bx|[]] h.bo (λx b=>by cases b) c;let xo:cv (t.said ns ts p rows) p:=Bw d (by show 0<p;omega);let g:((t.said ns ts p rows).length:Int)=awN t.z:=yi e;let b:ns.getD t.z.to.length ""∈ns:=by
  rw[m9,fz tl];exact o4 tl
 let%[n|d1]:=k.deg _ b;let%[_|d4]:=rY k (ns.getD t.z.to.length "");erw[by rw[g];exact aw,xo,3,λ_=>%[3,3,3|λj=>?_],h.gd.tl,h.gd.po]
 have:=ma xo #[0] j
 omega
def AQ(z:Db)(xs:List Int)(b:xs≠[]):bQ ns (dY p xs z)<=2*(ns.length-z.to.length)-1/\bZ ns (dY p xs z)<=ns.length-z.to.length:=by
 let h1:(dY p xs z).to=z.to:=rfl;let h2:(dY p xs z).he=xs:=rfl;unfold bQ bZ;rw[h1,h2,Pd b,Pd b];let c:¬ (dY p xs z).aw.1="hear":=by
  unfold dY;show ¬ (if _ then _ else _:Str×Option Int).1="hear"
  split
  . exact jf
  . exact yz
 rw[Pd c,Pd c]
 constructor <;> split <;> omega
def TkOk.ask(k:GmK ns ts p)(n6:ns.length<=6)(h:TkOk ns ts p t)(hw:t.z.aw.1="hear"):TkOk ns ts p (t.ask ns ts p rows)/\bQ ns (t.ask ns ts p rows).z<bQ ns t.z/\bZ ns (t.ask ns ts p rows).z<=bZ ns t.z/\¬ (t.ask ns ts p rows).z.aw.1="hear":=by
 let%[ok,d,a5,tl,aw|r]:=h.ak k n6 hw;let b:=h.hear (rows:=rows) k n6 hw;let%[r1,_|_]:=pk (rows:=rows) ok 200 %[(0),t.bx|[]] h.bo (λx g=>by cases g) d;let%[g1|j]:=h.gd.hear k b;let c:=h.gd.hear_ne k b;let e:du ns ts p (t.said ns ts p rows) t.z=dY p (t.said ns ts p rows) { t.z with pl:=t.z.pl+((t.said ns ts p rows).length:Int) }:=Pd h.cl;let nr:=h.nr;let%[m|n]:=AQ (ns:=ns) (p:=p) { t.z with pl:=t.z.pl+((t.said ns ts p rows).length:Int) } _ c;let s1:bQ ns t.z=2*(ns.length-t.z.to.length):=Pe hw;let o:bZ ns t.z=ns.length-t.z.to.length:=Pe hw;erw[%[g1,j,6,6,r1,by show 1<=t.nr+1;omega|λ_ he=>?_],6,6,6]
 . show 0<=(du ns ts p _ t.z).s;rw[e];exact h.s0
 . show(du ns ts p _ t.z).s<p;rw[e];exact h.s1
 . have:(du ns ts p (t.said ns ts p rows) t.z).he=[]:=he
   rw[e]at this;exact absurd this c
 . show bQ ns (du ns ts p _ t.z)<_;rw[e,s1];let q:bQ ns (dY p (t.said ns ts p rows) { t.z with pl:=t.z.pl+((t.said ns ts p rows).length:Int) })<=2*(ns.length-t.z.to.length)-1:=m;omega
 . show bZ ns (du ns ts p _ t.z)<=_;rw[e,o];exact n
 . show ¬ (du ns ts p _ t.z).aw.1="hear";rw[e];unfold dY;show ¬ (if _ then _ else _:Str×Option Int).1="hear"
   split
   . exact jf
   . exact yz
def TkOk.tossOk(h:TkOk ns ts p t)(hw:t.z.aw.1="coin"){r:Int}(r0:0<=r)(r1:r<p):TossOk ns p t.z r:=%[hw,r0,r1,h.gd.tl,(h.gd.co hw).2|h.gd.po]
def TkOk.toss(k:GmK ns ts p)(h:TkOk ns ts p t)(hw:t.z.aw.1="coin"){r:Int}(r0:0<=r)(r1:r<p):TkOk ns ts p (t.toss ns ts p r)/\bQ ns (t.toss ns ts p r).z<bQ ns t.z/\bZ ns (t.toss ns ts p r).z+1<=bZ ns t.z/\¬ (t.toss ns ts p r).z.aw.1="coin"/\(t.z.he=[]->(t.toss ns ts p r).z.s=r/\(t.toss ns ts p r).z.to=[])/\(t.z.he≠[]->(t.toss ns ts p r).z.s=t.z.s/\(t.toss ns ts p r).z.to=t.z.to++[r]):=by
 let ok:=h.tossOk hw r0 r1;let%[g1|g]:=h.gd.toss k ok;let j:¬ t.z.aw.1="hear":=by rw[hw];exact jf
 let s1:bQ ns t.z=if t.z.he=[]then 2*ns.length+1 else 2*(ns.length-t.z.to.length)-1:=by unfold bQ;rw[Pd j,Pe hw]
 let m:bZ ns t.z=if t.z.he=[]then ns.length+1 else ns.length-t.z.to.length:=by unfold bZ;rw[Pd j,Pe hw]
 let nr:=h.nr
 by_cases c:t.z.he=[]
 . let q:=h.fi hw c;let e:eg ns ts p r t.z=goOn ns ts p { t.z with pl:=t.z.pl+1,s:=r,ed:=hor r p t.z.cl }:=Pe c;let d:=xC (ns:=ns) (ts:=ts) (p:=p) { t.z with pl:=t.z.pl+1,s:=r,ed:=hor r p t.z.cl };let ll:=jV (ns:=ns) (ts:=ts) (p:=p) { t.z with pl:=t.z.pl+1,s:=r,ed:=hor r p t.z.cl };let b:=jA (ns:=ns) (ts:=ts) (p:=p) { t.z with pl:=t.z.pl+1,s:=r,ed:=hor r p t.z.cl };rw[←e]at d ll b;erw[w1,w2,w3,u]at d;let n:bQ ns (eg ns ts p r t.z)<=2*(ns.length-t.z.to.length):=ll.1;let o:bZ ns (eg ns ts p r t.z)<=ns.length-t.z.to.length:=ll.2;rw[Pe c]at s1 m;erw[%[g1,g,6,6,h.bo,nr|λa=>absurd a b],6,6,b,λ_=>%[w1|w2.trans q],λz=>absurd c z]
   . show 0<=(eg ns ts p r t.z).s;rw[w1];exact r0
   . show(eg ns ts p r t.z).s<p;rw[w1];exact r1
   . show bQ ns (eg ns ts p r t.z)<_;omega
   . show bZ ns (eg ns ts p r t.z)+1<=_;omega
 . let tl:=((h.gd.co hw).2 c).2;let e:eg ns ts p r t.z=goOn ns ts p { t.z with pl:=t.z.pl+1,ed:=val p t.z.he r,to:=t.z.to++[r] }:=Pd c;let d:=xC (ns:=ns) (ts:=ts) (p:=p) { t.z with pl:=t.z.pl+1,ed:=val p t.z.he r,to:=t.z.to++[r] };let ll:=jV (ns:=ns) (ts:=ts) (p:=p) { t.z with pl:=t.z.pl+1,ed:=val p t.z.he r,to:=t.z.to++[r] };let b:=jA (ns:=ns) (ts:=ts) (p:=p) { t.z with pl:=t.z.pl+1,ed:=val p t.z.he r,to:=t.z.to++[r] };rw[←e]at d ll b;erw[w1,w2,w3,u]at d;let v:(t.z.to++[r]).length=t.z.to.length+1:=by rw[fm];rfl
   let n:bQ ns (eg ns ts p r t.z)<=2*(ns.length-(t.z.to++[r]).length):=ll.1;let o:bZ ns (eg ns ts p r t.z)<=ns.length-(t.z.to++[r]).length:=ll.2;rw[v]at n o;rw[Pd c]at s1 m;erw[%[g1,g,6,6,h.bo,nr|λa=>absurd a b],6,6,b,λz=>absurd z c,λ_=>%[w1|w2]]
   . show 0<=(eg ns ts p r t.z).s;rw[w1];exact h.s0
   . show(eg ns ts p r t.z).s<p;rw[w1];exact h.s1
   . show bQ ns (eg ns ts p r t.z)<_;omega
   . show bZ ns (eg ns ts p r t.z)+1<=_;omega
def Ar(k:GmK ns ts p)(n6:ns.length<=6):AkOk ((Tk.new ts).ak ns ts p)/\awN (Tk.new ts).z=(ts.length:Int)/\HearOk ns p (Db.new ts) ‹Tk.s›/\mx p (Tk.new ts).bx:=by
 let p2:=k.p2;let t1:=k.t1;let t10:=k.t10;let c:mx p (Tk.new ts).bx:=λx=>by show(0:Int)<=0/\(0:Int)<p;omega
 let ok:AkOk ((Tk.new ts).ak ns ts p):=%[k,n6,qq 0,λz=>absurd z (by show ¬ (0:Int)<0;omega),(λx b=>by cases b),qq 0,(by show(0:Int)<p;omega),qq 0,(by show(0:Int)<p;omega)|i1 _]
 let%[_,d|e]:=pk (rows:=rows) ok 200 %[(0),(Tk.new ts).bx|[]] c (λx b=>by cases b) (by show(0:Int)<=(ts.length:Int);omega);let g:(‹Tk.s›.length:Int)=(ts.length:Int):=yi e;erw[ok,1,%[6,Bw d (by show 0<p;omega),3,λz=>absurd rfl z,i1 _|λx b=>by cases b],c];rw[g];rfl
def kX(k:GmK ns ts p)(n6:ns.length<=6):TkOk ns ts p ‹Tk.a›/\bQ ns ‹Tk.a›.z<=2*ns.length+1/\bZ ns ‹Tk.a›.z<=ns.length+(if 1<ts.length then 1 else 0)/\(1<ts.length->‹Tk.a›.z.aw=(("coin":Str),none)/\‹Tk.a›.z.he=[]/\‹Tk.a›.z.to=[])/\(¬ 1<ts.length->¬ ‹Tk.a›.z.aw.1="coin"/\‹Tk.a›.z.s=0/\‹Tk.a›.z.to=[]):=by
 let p2:=k.p2;let t1:=k.t1;let%[ok,_,m|n]:=Ar (rows:=rows) k n6;let%[r1,_|_]:=pk (rows:=rows) ok 200 %[(0),(Tk.new ts).bx|[]] n (λx o=>by cases o) (by show(0:Int)<=(ts.length:Int);omega);let%[g1|g]:=(Gd.new k).hear k m;let e0:du ns ts p ‹Tk.s› (Db.new ts)=jz ns ts p ‹Tk.s› { Db.new ts with pl:=(Db.new ts).pl+(‹Tk.s›.length:Int) }:=Pe rfl
 by_cases c:ts.length=1
 . let e:du ns ts p ‹Tk.s› (Db.new ts)=goOn ns ts p { Db.new ts with pl:=(Db.new ts).pl+(‹Tk.s›.length:Int),cl:=‹Tk.s›,s:=0,ed:=hor 0 p ‹Tk.s› }:=by
    rw[e0];exact Pe c
   let j:=xC (ns:=ns) (ts:=ts) (p:=p) { Db.new ts with pl:=(Db.new ts).pl+(‹Tk.s›.length:Int),cl:=‹Tk.s›,s:=0,ed:=hor 0 p ‹Tk.s› };let ll:=jV (ns:=ns) (ts:=ts) (p:=p) { Db.new ts with pl:=(Db.new ts).pl+(‹Tk.s›.length:Int),cl:=‹Tk.s›,s:=0,ed:=hor 0 p ‹Tk.s› };let d:=jA (ns:=ns) (ts:=ts) (p:=p) { Db.new ts with pl:=(Db.new ts).pl+(‹Tk.s›.length:Int),cl:=‹Tk.s›,s:=0,ed:=hor 0 p ‹Tk.s› };rw[←e]at j ll d;erw[w1,w2,w3,q]at j;let r:bQ ns (du ns ts p ‹Tk.s› (Db.new ts))<=2*(ns.length-0):=ll.1;let u:bZ ns (du ns ts p ‹Tk.s› (Db.new ts))<=ns.length-0:=ll.2;erw[%[g1,g,6,6,r1,by show(1:Int)<=0+1;decide|λa=>absurd a d],6,6,λz=>#[0],λ_=>%[d,w1|w2]]
   . show 0<=(du ns ts p _ (Db.new ts)).s;rw[w1];exact qq 0
   . show(du ns ts p _ (Db.new ts)).s<p;rw[w1];show(0:Int)<p;omega
   . show bQ ns (du ns ts p _ (Db.new ts))<=_;omega
   . show bZ ns (du ns ts p _ (Db.new ts))<=_;rw[Pd #[0]];omega
 . let e:du ns ts p ‹Tk.s› (Db.new ts)={ Db.new ts with pl:=(Db.new ts).pl+(‹Tk.s›.length:Int),cl:=‹Tk.s›,aw:=("coin",none) }:=by
    rw[e0];exact Pd c
   let b:‹Tk.a›.z={ Db.new ts with pl:=(Db.new ts).pl+(‹Tk.s›.length:Int),cl:=‹Tk.s›,aw:=("coin",none) }:=e;erw[%[g1,g,6,6,r1,by show(1:Int)<=0+1;decide|λ_ _=>?_],6,6,λ_=>%[6,6|6],λz=>#[0]]
   . rw[b];exact qq 0
   . rw[b];show(0:Int)<p;omega
   . rw[b];rfl
   . rw[b];show(if(("coin":Str)="hear")then _ else if(("coin":Str)="coin")then(if([]:List Int)=[]then 2*ns.length+1 else _)else 0)<=_;rw[Pd jf,Pe rfl,Pe rfl];exact eS _
   . rw[b];show(if(("coin":Str)="hear")then _ else if(("coin":Str)="coin")then(if([]:List Int)=[]then ns.length+1 else _)else 0)<=_;rw[Pd jf,Pe rfl,Pe rfl,Pe #[0]];exact eS _
   . rw[b]
   . rw[b];rfl
   . rw[b];rfl
end
inductive TR where
 |claims (xs:List Int) | say (xs:List Int) | coin (r:Int)
def cK(ns:List Str)(ts:List Tr)(p:Int)(rows:List Hr):List Int->Nat->Tk->List TR×Tk
 |_,0,t=>([],t)
 | cs,n+1,t=>if t.z.aw.1="hear" then(.say (t.said ns ts p rows)::(cK ns ts p rows cs n (t.ask ns ts p rows)).1,(cK ns ts p rows cs n (t.ask ns ts p rows)).2)
   else if t.z.aw.1="coin" then(.coin (cs.headD 0)::(cK ns ts p rows cs.tail n (t.toss ns ts p (cs.headD 0))).1,(cK ns ts p rows cs.tail n (t.toss ns ts p (cs.headD 0))).2)
   else([],t)
def eP(ns:List Str)(ts:List Tr)(p:Int)(rows:List Hr)(cs:List Int):List TR×Tk:=(.claims ‹Tk.s›::(cK ns ts p rows cs 20 ‹Tk.a›).1,(cK ns ts p rows cs 20 ‹Tk.a›).2)
def eA{t:Tk}(h1:¬ t.z.aw.1="hear")(h2:¬ t.z.aw.1="coin"):∀n,cK ns ts p rows cs n t=([],t)
 |0=>rfl
 |n+1=>by
   show(if _ then _ else _)=_;rw[Pd h1,Pd h2]
def settle(ns:List Str)(ts:List Tr)(p:Int)(rows:List Hr):Nat->Tk->Tk
 |0,t=>t
 |n+1,t=>if t.z.aw.1="hear" then settle ns ts p rows n (t.ask ns ts p rows)else t
def jW(f:Int->Int×Option (List Int)):Nat->Int×Option (List Int)
 |0=>(0,none)
 |k+1=>((jW f k).1+(f (k:Int)).1,(jW f k).2.or (f (k:Int)).2)
def gg(ns:List Str)(ts:List Tr)(p:Int)(rows:List Hr)(b:Nat):Nat->Tk->List Int->Int×Option (List Int)
 |0,_,_=>(0,none)
 | d+1,t,cs=>if(settle ns ts p rows 2 t).z.aw.1="believed" then(1,none)else if(settle ns ts p rows 2 t).z.aw.1="caught" then(0,some (cs++List.replicate (b-cs.length) 0))
   else jW (λr=>gg ns ts p rows b d ((settle ns ts p rows 2 t).toss ns ts p r) (cs++[r])) p.toNat
def Beg(ns:List Str)(ts:List Tr)(p:Int)(t:Tk):Prop:=t=Tk.new ts∨TkOk ns ts p t
section
variable {ns:List Str}{ts:List Tr}{p:Int}{t:Tk}{rows:List Hr}
def dC(h:¬ t.z.aw.1="hear"):∀n,settle ns ts p rows n t=t
 |0=>rfl
 |n+1=>Pd h
def mJ(k:GmK ns ts p)(n6:ns.length<=6)(h:TkOk ns ts p t):TkOk ns ts p (settle ns ts p rows 2 t)/\bZ ns (settle ns ts p rows 2 t).z<=bZ ns t.z/\¬ (settle ns ts p rows 2 t).z.aw.1="hear":=by
 by_cases c:t.z.aw.1="hear"
 . let%[d,_,g|b]:=h.ask (rows:=rows) k n6 c;let e:settle ns ts p rows 2 t=t.ask ns ts p rows:=(Pe c).trans (dC b 1);rw[e];erw[d,g,b]
 . rw[dC c];erw[h,eS _,c]
def kx(k:GmK ns ts p)(n6:ns.length<=6):TkOk ns ts p (settle ns ts p rows 2 (Tk.new ts))/\bZ ns (settle ns ts p rows 2 (Tk.new ts)).z<=ns.length+(if 1<ts.length then 1 else 0)/\¬ (settle ns ts p rows 2 (Tk.new ts)).z.aw.1="hear":=by
 let%[b,_,d,_|_]:=kX (rows:=rows) k n6;let e:settle ns ts p rows 2 (Tk.new ts)=settle ns ts p rows 1 ‹Tk.a›:=Pe rfl;rw[e]
 by_cases c:‹Tk.a›.z.aw.1="hear"
 . let%[g,_,j|m]:=b.ask (rows:=rows) k n6 c;let e:settle ns ts p rows 1 ‹Tk.a›=‹Tk.a›.ask ns ts p rows:=Pe c;rw[e];erw[g,hE j d,m]
 . rw[dC c];erw[b,d,c]
def Beg.settle(k:GmK ns ts p)(n6:ns.length<=6)(h:Beg ns ts p t):TkOk ns ts p (settle ns ts p rows 2 t)/\¬ (settle ns ts p rows 2 t).z.aw.1="hear":=by
 rcases h with rfl | h
 . erw[(kx k n6).1,(kx k n6).2.2]
 . erw[(mJ k n6 h).1,(mJ k n6 h).2.2]
def zq(h:TkOk ns ts p t)(b:¬ t.z.aw.1="hear")(h1:¬ t.z.aw.1="believed")(h2:¬ t.z.aw.1="caught"):t.z.aw.1="coin":=by
 rcases h.gd.ww with e | e | e | e
 . exact absurd e b
 . exact e
 . exact absurd e h2
 . exact absurd e h1
structure AskOk(ns:List Str)(ts:List Tr)(p:Int)(rows:List Hr)(t:Tk):Prop where
 ak:AkOk (t.ak ns ts p)
 bo:mx p t.bx
 aw:t.z.aw=(("hear":Str),some (awN t.z))
 a0:0<=awN t.z
 a5:awN t.z<=500
 ho:HearOk ns p t.z (t.said ns ts p rows)
def Beg.ask(k:GmK ns ts p)(n6:ns.length<=6)(h:Beg ns ts p t)(hw:t.z.aw.1="hear"):AskOk ns ts p rows t:=by
 rcases h with rfl | h
 . let%[c,b,d|e]:=Ar (rows:=rows) k n6;let t1:=k.t1;let t10:=k.t10;erw[c,e,1,by rw[b];omega,by rw[b];omega,d]
 . let%[ak,g,a5,tl,aw|j]:=h.ak k n6 hw;erw[ak,h.bo,aw,g,a5,h.hear (rows:=rows) k n6 hw]
def Beg.asked(k:GmK ns ts p)(n6:ns.length<=6)(h:Beg ns ts p t)(hw:t.z.aw.1="hear"):TkOk ns ts p (t.ask ns ts p rows):=by
 rcases h with rfl | h
 . exact(kX (rows:=rows) k n6).1
 . exact(h.ask (rows:=rows) k n6 hw).1
end
section
variable {C CM CA CG:Addr}
structure TalkAt(C CM CG:Addr)(H:Hp)(D M g h b:Addr)(rows:List Hr)(ns:List Str)(ts:List Tr)(p:Int)(t:Tk)(m:Nat):Prop where
 DA:DbAt C H D g t.z
 G:Gm CG H g ns ts p
 hM:∃dm,H M=some (.ins CM dm (ml g h t.nr b))
 hh:∃rv,H h=some (.tup rv)/\RowsAt H rv rows
 BX:BxAt H b t.bx m
 ne:D≠M
def TalkAt.same(w:TalkAt C CM CG H D M g h b rows ns ts p t m)(s:Same H c):TalkAt C CM CG c D M g h b rows ns ts p t m:=by
 erw[DA,G,%[dm|hM],%[d,hh|R],B,ne]at w;erw[DA.same s,G.same s,%[dm|s _ _ hM],%[d,s _ _ hh|R.mono (bc s)],B.keep λo e=>s _ _ e,ne]
def DbAt.but2{j dm:Addr}{fs:List (Str×V)}{m:List (Key×V)}(h:DbAt C H D g z)(s:JF M b H d)(hM:H M=some (.ins j dm fs))(hb:H b=some (.dK m))(ne:D≠M):DbAt C d D g z:=by
 erw[n,o,q,r,t,R]at h;let c:cZ H d:=λa xs e=>s _ _ (bO e hM nofun) (bO e hb nofun) e
 erw[n,o,q,r,t,s _ _ ne (bO R.hD hb nofun) R.hD,c _ _ R.hA,c _ _ R.hC,c _ _ R.hH,c _ _ R.hT]
def Gm.but2{dm:Addr}{m:List (Key×V)}(G:Gm CG H g ns ts p)(s:JF M b H j)(hM:H M=some (.ins CM dm (ml g' h r b')))(hb:H b=some (.dK m)):Gm CG j g ns ts p:=by
 erw[a,n,d,o,%[q|hg],h2,h3,h4,h5]at G;let c:cZ H j:=λa xs e=>s _ _ (bO e hM nofun) (bO e hb nofun) e
 let t:g≠M:=λe=>by
  rw[e,hM]at hg;cases hg
 erw[a,n,d,o,%[q|s _ _ t (bO hg hb nofun) hg],c _ _ h2,c _ _ h3,h4.mono c,s _ _ (bO h5 hM nofun) (bO h5 hb nofun) h5]
def TalkAt.doub(w:TalkAt C CM CG H D M g h b rows ns ts p t m)(s:SameBut D H d)(DA:DbAt C d D g q):TalkAt C CM CG d D M g h b rows ns ts p %[q,t.bx|t.nr] m:=by
 erw[j,G,%[dm|hM],%[r,hh|R],B,ne]at w;erw[u,v,x,y,z,c]at j;let n:cZ H d:=λa xs e=>s _ _ (bO e c.hD nofun) e
 let%[J,hb|_]:=id B;erw[DA,G.but c.hD (G.ne c.hD jZ) s,%[dm|s _ _ ne.symm hM],%[r,n _ _ hh|R.mono n],B.keep λo e=>s _ _ (bO hb c.hD nofun) e,ne]
instance spAsked(C CM CG:Addr):∀(D M g h b:Addr) (rows:List Hr) (ns:List Str) (ts:List Tr) (p:Int) (t:Tk) (m:Nat),vs=[.ref M,.ref D]->TalkAt C CM CG H D M g h b rows ns ts p t m->GmK ns ts p->(∀r∈rows,r.good)->AkOk (t.ak ns ts p)->mx p t.bx->t.z.aw=(("hear":Str),some (awN t.z))->0<=awN t.z->awN t.z<=500->HearOk ns p t.z (t.said ns ts p rows)->m<=5000->(∀(a:Addr) (H':Hp),H a=none->H' a=some (.tup ((t.said ns ts p rows).map V.int))->TalkAt C CM CG H' D M g h b rows ns ts p (t.ask ns ts p rows) (m+200)->But3 D M b H H'->Q (.ref a) H'):=1
def qZ:FnScope ["machine","doubter","values"] Wg (aj kN):=%[|5]
structure Ways(P:Program)(w:World)(K:W.Frag)(mg:#[9])(base:Heap)(C CM CG fW fU fH fT fS:Addr)(fdW fdU fdH fdT fdS:FuncData):Prop where
 mW:Meth K C "waits" fW
 GW:#[1,fW,fdW,WA,spOf C λz v H=>∃a,v=.ref a/\H a=some (.tup (awV z.aw))]
 bW:Binds K fdW WA []
 mU:Meth K C "due" fU
 GU:#[1,fU,fdU,WA,spOf C λz v _=>v=.int z.ed]
 bU:Binds K fdU WA []
 mH:Meth K C "hear" fH
 GH:#[18,fH,fdH,WF,spHear C CG]
 bH:Binds K fdH WF []
 mT:Meth K C "toss" fT
 GT:#[17,fT,fdT,Wb,spToss C CG]
 bT:Binds K fdT Wb []
 mS:Meth K CM "say" fS
 GS:#[25,fS,fdS,Ws,spSay CM CG]
 bS:Binds K fdS Ws []
def TalkAt.asked{dm:Addr}{n1:Int}(w:TalkAt C CM CG H D M g h b rows ns ts p t m)(hM:H M=some (.ins CM dm (ml g h t.nr b)))(o:BxAt c b (t.run ns ts p rows).bx (m+200))(d:c M=some (.ins CM dm (ml g h (t.nr+1) b)))(s1:JF M b H c)(e1:n1=t.nr+1):TalkAt C CM CG c D M g h b rows ns ts p %[t.z,(t.run ns ts p rows).bx|n1] (m+200):=by
 erw[j,G,_,%[q,hh|R],B,ne]at w;let%[r,hb|_]:=id B;let n:cZ H c:=λa xs e=>s1 _ _ (bO e hM nofun) (bO e hb nofun) e
 subst e1;erw[j.but2 s1 hM hb ne,G.but2 s1 hM hb,%[dm|d],%[q,n _ _ hh|R.mono n],o,ne]
def uS(F:#["asked_once",kN])(B:Bl mg)(T:DTxt K mg C)(TM:MTxt K mg CM)(Y:Ways P w K mg base C CM CG fW fU fH fT fS as aK aL aP a7):#[26,f,fd,Wg,spAsked C CM CG]:=by
 exists qZ
 erw[D,M,g,h,b,rows,ns,ts,p,t,m,1,W,k,rg,ok,bo,aw,a0,a5,d,mm,q]at h;let Pp:Room 1 _:=hr.mono ⋯;let j:Room 18 _:=hr.mono ⋯;let n:Room 25 _:=hr.mono ⋯;refine⟨_,(ad #[am,2,qZ,cq (pv 0) TM.cl Y.mS Y.GS n Y.bS .nil bd %[aO ix_tup (bt (pv 1) T.cl Y.mW Y.GW Pp Y.bW .nil bd) ag #[1],bt (pv 1) T.cl Y.mU Y.GU Pp Y.bU .nil bd,aB (pv 1) rfl,aX de rfl B.list dU %[aB (pv 1) rfl|ae]|ae]]
  (ad (bh (cq (pv 1) T.cl Y.mH Y.GH j Y.bH .nil bd %[2|ae]))
  (af (au (aX bq rfl B.tuple cw %[2|ae]))))),?_⟩
 erw[dm,hM]at W.hM;let DA:=W.DA;let%[u,aA,aC,aH,aT|R]:=id DA;erw[0,M,dm,0,hM,ml_n2,0,D,u,0,R.hD,rj,D,g,t.z,1,DA,λv N=>?_];erw[av,1,r]at N;rw[aw]at r;erw[av,_,(1),.int (awN t.z),1,1,dV r,1,0,D,u,0,R.hD,dl_n2,D,g,t.z,1,DA,λv N=>?_];subst N;erw[0,D,C,u,_,0,R.hD,9,T.nS,Lg,0,D,C,u,_,0,R.hD,9,T.nT,AU,aT,0,.inr (dV R.hT),λl hl=>?_];let I:=ej hl (.lst (t.z.to.map V.int));let g1:upd H l (.lst (t.z.to.map V.int)) l=some (.lst (t.z.to.map V.int)):=ah;generalize upd H l (.lst (t.z.to.map V.int))=H1 at I g1;let x:=W.same I;erw[rv,hh,RW]at x.hh;erw[M,g,h,b,dm,l,rv,t.ak ns ts p,rows,t.bx,m,1,I _ _ hM,hh,RW,rg,x.BX,bo,mm,x.G,ok,.inl g1,a0,a5,λO H2 a8 U B2 ab S2=>?_];let hs:H2 O=some (.lst ((t.said ns ts p rows).map V.int)):=U;let y:=x.asked (n1:=t.nr+1) (I _ _ hM) B2 ab S2 rfl;let%[Po,_,_,_,_|R2]:=id y.DA;erw[0,D,Po,0,R2.hD,dl_n4,0,D,g,O,t.z,t.said ns ts p rows,ns,ts,p,1,y.DA,y.G,k,hs,d.aw,d.xo,d.x5,d.ro,d.tl,d.po,λH3 S3 ac=>?_];let L:=y.doub S3 ac;let an:=S3 _ _ (bO hs R2.hD nofun) hs;erw[0,O,0,.inl %[eH an|λa ha=>?_]];let J:=ej ha (.tup ((t.said ns ts p rows).map V.int));let fr:But3 D M b H H3:=λc o h1 h2 h3 e=>S3 _ _ h1 (S2 _ _ h2 h3 (I _ _ e))
 apply q a _ ?_ ah (L.same J) (λc o h1 h2 h3 e=>J _ _ (fr c o h1 h2 h3 e));cases e:H a with
 |none=>rfl
 |some o=>
   erw[a9,_,_,_,_,R3]at L.DA;erw[bb,ap]at L.hM;erw[Ph,ar,_]at L.BX;let n1:a≠D:=λz=>by rw[z,R3.hD]at ha;cases ha
   let n2:a≠M:=λz=>by rw[z,ap]at ha;cases ha
   let n3:a≠b:=λz=>by rw[z,ar]at ha;cases ha
   rw[fr a o n1 n2 n3 e]at ha;cases ha
end
section
variable {C CM CA CG:Addr}
inductive TRAt(H:Hp):V->TR->Prop
 |claims {a b:Addr} {xs:List Int}:H a=some (.tup [.str "claims",.ref b])->H b=some (.tup (xs.map V.int))->TRAt H (.ref a) (.claims xs)
 |say {a b:Addr} {xs:List Int}:H a=some (.tup [.str "say",.ref b])->H b=some (.tup (xs.map V.int))->TRAt H (.ref a) (.say xs)
 |coin {a:Addr} {r:Int}:H a=some (.tup [.str "coin",.int r])->TRAt H (.ref a) (.coin r)
def TRAt.mono(k:cZ H b)(h:TRAt H v r):TRAt b v r:=by
 cases h with
 |claims e f=>exact .claims (k _ _ e) (k _ _ f)
 |say e f=>exact .say (k _ _ e) (k _ _ f)
 |coin e=>exact .coin (k _ _ e)
def TRsAt(H:Hp):List V->List TR->Prop
 | [],[]=>True
 |v::vs,r::rs=>TRAt H v r/\TRsAt H vs rs
 |_,_=>False
def TRsAt.mono(k:cZ H b):∀{vs:List V}{rs:List TR},TRsAt H vs rs->TRsAt b vs rs
 | [],[],_=>trivial
 |_::_,_::_,h=>%[h.1.mono k|TRsAt.mono k h.2]
 | [],_::_,h=>h.elim
 |_::_,[],h=>h.elim
def TRsAt.snoc(hr:TRAt H v r):∀{vs:List V}{rs:List TR},TRsAt H vs rs->TRsAt H (vs++[v]) (rs++[r])
 | [],[],_=>%[hr|trivial]
 |_::_,_::_,h=>%[h.1|TRsAt.snoc hr h.2]
 | [],_::_,h=>h.elim
 |_::_,[],h=>h.elim
structure Told(H:Hp)(a:Addr)(x:List TR×Tk):Prop where
 ex:∃(b c:Addr)(vs:List V),H a=some (.tup [.ref b,.ref c])/\H b=some (.tup vs)/\TRsAt H vs x.1/\H c=some (.tup (awV x.2.z.aw))
def hc_in(o:Str):inV (.str o) [.str "hear",.str "coin"]=(decide (o="hear")||decide (o="coin")):=by
 show (("hear"==o)||(("coin"==o)||false))=_;rw[Rc];let e:∀z:Str,(z==o)=decide (o=z):=λz=>by
  by_cases c:o=z
  . subst c;simp
  . rw[fw c];simpa using λh=>c h.symm
 rw[e,e]
instance spTalked(C CM CG:Addr):∀(g h c:Addr)(rv:List V)(rows:List Hr)(ns:List Str)(ts:List Tr)(p:Int)(cs:List Int),vs=[.ref g,.ref h,.ref c]->Gm CG H g ns ts p->GmK ns ts p->ns.length<=6->H h=some (.tup rv)->RowsAt H rv rows->(∀r∈rows,r.good)->IntsAt H c cs->cv cs p->ns.length+(if 1<ts.length then 1 else 0)<=cs.length->cs.length<=100->(∀(a:Addr)(H':Hp),Same H H'->Told H' a (eP ns ts p rows cs)->Q (.ref a) H'):=1
def iJ:FnScope ["game","helper","coins","machine","doubter","talk","tossed"] Ww (aj sO):=%[|5]
def Ed(a:Str×Option Int):atI (awV a) 0=some (.str a.1):=cX (j:=0) (JZ a)
def fe{n:Nat}{t:Tk}(h:t.z.aw.1="hear"):cK ns ts p rows cs (n+1) t=(.say (t.said ns ts p rows)::(cK ns ts p rows cs n (t.ask ns ts p rows)).1,(cK ns ts p rows cs n (t.ask ns ts p rows)).2):=Pe h
def dN{n:Nat}{t:Tk}(h:t.z.aw.1="coin"):cK ns ts p rows cs (n+1) t=(.coin (cs.headD 0)::(cK ns ts p rows cs.tail n (t.toss ns ts p (cs.headD 0))).1,(cK ns ts p rows cs.tail n (t.toss ns ts p (cs.headD 0))).2):=by
 show(if _ then _ else if _ then _ else _)=_;rw[Pd (by rw[h];exact jf),Pe h]
def eT(h:TkOk ns ts p t)(hw:t.z.aw.1="hear"∨t.z.aw.1="coin"):1<=bQ ns t.z/\(t.z.aw.1="coin" -> 1<=bZ ns t.z):=by
 rcases hw with hw | hw
 . let tl:t.z.to.length<ns.length:=by
    rcases h.gd.he hw with⟨e,_⟩ | ⟨_,tl,_⟩
    . exact absurd e h.cl
    . exact tl
   erw[6,λz=>absurd (z.symm.trans hw) jf]
   have:bQ ns t.z=2*(ns.length-t.z.to.length):=Pe hw
   omega
 . let b:¬ t.z.aw.1="hear":=by rw[hw];exact jf
   let s1:bQ ns t.z=if t.z.he=[]then 2*ns.length+1 else 2*(ns.length-t.z.to.length)-1:=by unfold bQ;rw[Pd b,Pe hw]
   let d:bZ ns t.z=if t.z.he=[]then ns.length+1 else ns.length-t.z.to.length:=by unfold bZ;rw[Pd b,Pe hw]
   by_cases c:t.z.he=[]
   . rw[Pe c]at s1 d;erw[3,λ_=>#[0]]
   . let tl:=((h.gd.co hw).2 c).2;rw[Pd c]at s1 d;erw[3,λ_=>#[0]]
def DU{cs:List Int}{u:Nat}(h:u<cs.length):(cs.drop u).headD 0=cs.getD u 0/\(cs.drop u).tail=cs.drop (u+1):=by
 rw[Rr h,m9,fz h];erw[1,1]
def BI{K:W.Frag}{u:Nat}{Q:VK}(h:IntsAt H c cs)(b:u<cs.length)(q:Q (.int (cs.getD u 0)) H):rIx K (.ref c) (.int (u:Int)) H Q:=
 h.elim (λe=>.inl %[c,_,2,eH e,pO b|q]) (λe=>.inr (.inl %[c,_,2,dV e,pO b|q]))
def TalkAt.put{L:Addr}{ys zs:List V}(w:TalkAt C CM CG H D M g h b rows ns ts p t m)(j:H L=some (.lst ys))(G:Gm CG (upd H L (.lst zs)) g ns ts p):TalkAt C CM CG (upd H L (.lst zs)) D M g h b rows ns ts p t m:=by
 erw[%[q,r,u,v,x|R],_,%[dm|hM],%[y,hh|RR],B,ne]at w;let d:cZ H (upd H L (.lst zs)):=eU j;let U:∀{c:Addr}{o:HO},c≠L->H c=some o->upd H L (.lst zs) c=some o:=λn e=>by rw[az n];exact e
 let%[z,hb|_]:=id B;erw[%[q,r,u,v,x,U (bO R.hD j nofun) R.hD,d _ _ R.hA,d _ _ R.hC,d _ _ R.hH|d _ _ R.hT],G,%[dm|U (bO hM j nofun) hM],%[y,d _ _ hh|RR.mono d],B.keep λo e=>U (bO hb j nofun) e,ne]
def TRsAt.len:∀{vs:List V}{rs:List TR},TRsAt H vs rs->vs.length=rs.length
 | [],[],_=>rfl
 |_::_,_::_,h=>congrArg (·+1) (TRsAt.len h.2)
 | [],_::_,h=>h.elim
 |_::_,[],h=>h.elim
instance ITk(C CM CG:Addr)(H:Hp)(D M g h c L b:Addr)(rows:List Hr)(ns:List Str)(ts:List Tr)(p:Int)(cs:List Int)(mm:Nat)(σ:St)(H':Hp):∀(t:Tk)(n u m:Nat)(rs:List TR)(vs:List V),σ=[some (.ref g),some (.ref h),some (.ref c),some (.ref M),some (.ref D),some (.ref L),some (.int (u:Int))]->mm=n->bQ ns t.z<=n->n<=20->TalkAt C CM CG H' D M g h b rows ns ts p t m->TkOk ns ts p t->H' L=some (.lst vs)->TRsAt H' vs rs->(rs++(cK ns ts p rows (cs.drop u) n t).1,(cK ns ts p rows (cs.drop u) n t).2)=eP ns ts p rows cs->bZ ns t.z+u<=cs.length->m+200*n<=4200->rs.length+n<=21->Same H H':=0
def CY(F:#["talked",sO])(B:Bl mg)(T:DTxt K mg C)(TM:MTxt K mg CM)(Y:Ways P w K mg base C CM CG fW fU fH fT fS ci cj ck cm cr)
 (MD:Mk K C fI)(GD:#[1,fI,bR,WI,spDInit C CG])(bD:Binds K bR WI [])(MM:Mk K CM fM)(GM:#[1,fM,bS,WJ,spMInit CM])(bM:Binds K bS WJ [])
 (b7:#[26,"asked_once",Wg,spAsked C CM CG]):#[27,f,fd,Ww,spTalked C CM CG]:=by
 exists iJ
 erw[g,h,c,rv,rows,ns,ts,p,cs,1,G,k,n6,hh,RW,rg,hc,co,cl,cg,q]at h;let Pp:Room 1 _:=hr.mono ⋯;let bb:Room (1+1) _:=hr.mono ⋯;let be:Room 17 _:=hr.mono ⋯;refine⟨_,(ad #[am,3,iJ,iN MM GM bb rfl TM.mgC bM .nil bd %[0,1|ae]]
  (ad #[am,4,iJ,iN MD GD bb rfl T.mgC bD .nil bd %[0|ae]]
  (ad #[am,5,iJ,bY %[aR %[aI,aq b7 hr ⋯ rfl %[3,4|ae]|ae]|ae]]
  (ad #[am,6,iJ,ag]
  (ad (iq ks (ai fK (aO ix_tup (bt (pv 4) T.cl Y.mW Y.GW Pp Y.bW .nil bd) ag #[1]) (aR %[aI,aI|ae]) (by rfl')) (af (aJ (ai aS (aO ix_tup (bt (pv 4) T.cl Y.mW Y.GW Pp Y.bW .nil bd) ag #[1]) aI (ax _)) (af (bh (iH qs Gp G0 eE (pv 5) %[aR %[aI,aq b7 hr ⋯ rfl %[3,4|ae]|ae]|ae]))) (ad (bh (cq (pv 4) T.cl Y.mT Y.GT be Y.bT .nil bd %[aO GQ (pv 2) (pv 6) #[1]|ae]))
   (ad (bh (iH qs Gp G0 eE (pv 5) %[aR %[aI,aO GQ (pv 2) (pv 6) #[1]|ae]|ae]))
   (af #[am,6,iJ,ao aV (pv 6) ag]))))))
  (af (au (aR %[aX bq rfl B.tuple cw %[5|ae],bt (pv 4) T.cl Y.mW Y.GW Pp Y.bW .nil bd|ae])))))))),?_⟩
 erw[0,0,λM dm ab bf nM=>?_];let K1:Same H (upd (upd H dm (.own M)) M (.ins CM dm [])):=λa o e=>by
  rw[az (aN e ab),az (aN e bf)];exact e
 erw[M,g,h,dm,1,ah,λb H2 b0 ar bg S2=>%[1|6]];let T2:Same H H2:=Same.but K1 ab S2;let bn:H b=none:=K1.free b0;clear K1 S2 b0;erw[0,λD dd J br nD=>?_];let K3:Same H2 (upd (upd H2 dd (.own D)) D (.ins C dd [])):=λa o e=>by
  rw[az (aN e J),az (aN e br)];exact e
 let G2:=G.same T2;let gD:g≠D:=by
  erw[_,_,_,_,%[dg|hg],_]at G2;exact aN hg J
 erw[D,g,dd,ns,ts,p,1,ah,G2.same K3,gD,λH4 S4 bv=>%[1|6]];let ac:Same H2 H4:=Same.but K3 J S4;let T4:Same H H4:=T2.trans ac;let as:H D=none:=T2.free J;let bU:D≠M:=(aN ar J).symm;let W4:TalkAt C CM CG H4 D M g h b rows ns ts p (Tk.new ts) 0:=⟨bv,G.same T4,⟨dm,ac _ _ ar⟩,⟨rv,T4 _ _ hh,RW.mono (bc T4)⟩,⟨[],ac _ _ bg,eS _,λ_=>rfl⟩,bU⟩
 clear K3 S4 bv ac ar bg G2 T2;let%[bx,aK,bA|bB]:=Ar (rows:=rows) k n6;let t1:=k.t1;let t10:=k.t10;erw[0,0,D,M,g,h,b,rows,ns,ts,p,Tk.new ts,(0),1,W4,k,rg,bx,bB,1,by rw[aK];omega,by rw[aK];omega,bA,4,λa5 H5 ct bC W5 S5=>?_];let T5:Same H H5:=λa o e=>S5 _ _ (aN e as) (aN e ab) (aN e bn) (T4 _ _ e)
 erw[y2S,λt6 h6=>%[y1S|λL hL=>?_]];let I6:=ej h6 (.tup [.str "claims",.ref a5]);let d:=ej hL (.lst [.ref t6]);let R7:TRsAt (upd (upd H5 t6 (.tup [.str "claims",.ref a5])) L (.lst [.ref t6])) [.ref t6] [.claims ‹Tk.s›]:=%[.claims (d _ _ ah) (d _ _ (I6 _ _ bC))|trivial]
 let g7:upd (upd H5 t6 (.tup [.str "claims",.ref a5])) L (.lst [.ref t6]) L=some (.lst [.ref t6]):=ah;let J7:=I6.trans d;let bE:H L=none:=(T5.trans I6).free hL;generalize upd (upd H5 t6 (.tup [.str "claims",.ref a5])) L (.lst [.ref t6])=H7 at R7 g7 J7;let%[bF,b1,b2|_]:=kX (rows:=rows) k n6;let W7:=W5.same J7;let T7:=T5.trans J7;clear I6 d J7 S5 T5 W5 W4 T4 bC h6 hL;erw[ITk C CM CG H D M g h c L b rows ns ts p cs,%[(20),‹Tk.a›,(20),(0),(200),2,3,eS _,W7,bF,g7,R7,1,3,4,(by show 1+20<=21;decide)|T7],6]
 clear b1 b2 bF W7 T7 R7 g7 bx aK bA bB;rintro mm σ H' ⟨t,n,u,m,rs,vs,rfl,rfl,sn,cy,W,ok,hL,TR,eq,cn,mn,rn,S⟩;let DA:=W.DA;let%[dx,aA,aC,aH,aT|R]:=id DA;let p2:=k.p2;let vl:=TR.len;erw[0,D,dx,0,R.hD,rj,D,g,t.z,1,DA,λv hv=>?_];erw[av,1,bG]at hv;erw[av,_,(0),0,1,dV bG,Ed _,y2S,λc1 b3=>?_];let I1:=ej b3 (.tup [.str "hear",.str "coin"]);erw[c1,0,.inr (dV ah),1,1,0,6];generalize upd H' c1 (.tup [.str "hear",.str "coin"])=H1 at I1;let W1:=W.same I1;let N:=W1.DA;let j:=I1 _ _ hL;let aL:=TR.mono (bc I1);let S1:=S.trans I1;let%[aP,cA,cB,cC,cD|R1]:=id N;show if inV (.str t.z.aw.1) [.str "hear",.str "coin"]=true then _ else _
 rw[hc_in];clear W DA R hL TR S bG I1
 by_cases ch:t.z.aw.1="hear"
 . rw [ft ch,Bool.true_or];apply eF ?_;erw[_,λ_ _ h=>h,6];erw[0,D,aP,0,R1.hD,rj,D,g,t.z,1,N,λv hv=>?_];erw[y,1,r]at hv;erw[y,_,(0),0,1,dV r,Ed _,1,0,aZ (congrArg V.str ch) ?_];let sp:=(eT ok (.inl ch)).1;obtain⟨O,rfl⟩:∃O,mm=O+1:=⟨mm-1,#[0]⟩
   let%[ak,a0,a5,tl,aw|ea]:=ok.ak k n6 ch;let ho:=ok.hear (rows:=rows) k n6 ch;let%[a7,b4,b5|_]:=ok.ask (rows:=rows) k n6 ch;erw[0,.inl %[1,_|eH j],0,0,D,M,g,h,b,rows,ns,ts,p,t,m,1,W1,k,rg,ak,ok.bo,aw,a0,a5,ho,3,λa6 H6 cE b6 W6 S6=>?_];erw[cF,bH]at W1.hM;erw[cL,bI,_]at W1.BX;let a8:cZ H1 H6:=λa xs e=>S6 _ _ (bO e R1.hD nofun) (bO e bH nofun) (bO e bI nofun) e
   let an:=S6 _ _ (bO j R1.hD nofun) (bO j bH nofun) (bO j bI nofun) j;let ap:Same H H6:=λa o e=>S6 _ _ (aN e as) (aN e ab) (aN e bn) (S1 _ _ e)
   erw[y2S,λU h7=>?_];let d:=ej h7 (.tup [.str "say",.ref a6]);let R7:TRAt (upd H6 U (.tup [.str "say",.ref a6])) (.ref U) (.say (t.said ns ts p rows)):=.say ah (d _ _ b6);generalize upd H6 U (.tup [.str "say",.ref a6])=H7 at d R7;let x:=d _ _ an;erw[L,2,x,aM #[0],6];let k8:cZ H7 (upd H7 L (.lst (vs++[.ref U]))):=eU x;let S8:Same H (upd H7 L (.lst (vs++[.ref U]))):=λa o e=>by
    rw[az (aN e bE)];exact d _ _ (ap _ _ e)
   erw[O,Px _,t.ask ns ts p rows,O,u,m+200,rs++[.say (t.said ns ts p rows)],0,1,3,3,(W6.same d).put x (G.same S8),a7,ah,((aL.mono (λa xs e=>k8 _ _ (d _ _ (a8 _ _ e)))).snoc (R7.mono k8)),6,3,3,by rw[fm];show rs.length+1+O<=21;omega,S8];rw[←eq,fe ch,Qd];rfl
 . rw [fw ch,Bool.false_or]
   by_cases cc:t.z.aw.1="coin"
   . rw [ft cc];apply eF ?_;erw[_,λ_ _ h=>h,6];erw[0,D,aP,0,R1.hD,rj,D,g,t.z,1,N,λv hv=>?_];erw[y,1,r]at hv;erw[y,_,(0),0,1,dV r,Ed _,1,0,aF (neS ch) ?_];let%[sp|cp]:=eT ok (.inr cc);let cp:=cp cc;obtain⟨O,rfl⟩:∃O,mm=O+1:=⟨mm-1,#[0]⟩
     let hu:u<cs.length:=#[0]
     let%[dh|dt]:=DU hu;let rr:=ma co #[0] u;let%[a7,b4,b5|_]:=ok.toss k cc rr.1 rr.2;let to:=ok.tossOk cc rr.1 rr.2;erw[0,D,aP,0,R1.hD,JX,0,0,BI (hc.same S1) hu ?_];erw[D,g,t.z,cs.getD u 0,ns,ts,p,1,N,W1.G,k,to.aw,to.r0,to.r1,to.tl,to.ro,to.po,λH6 S6 b9=>?_];let W6:=W1.doub S6 b9;let a8:cZ H1 H6:=λa xs e=>S6 _ _ (bO e R1.hD nofun) e
     let an:=S6 _ _ (bO j R1.hD nofun) j;let ap:Same H H6:=λa o e=>S6 _ _ (aN e as) (S1 _ _ e)
     erw[0,.inl %[1,_|eH an],0,0,BI (hc.same ap) hu ?_];erw[y2S,λU h7=>?_];let d:=ej h7 (.tup [.str "coin",.int (cs.getD u 0)]);let R7:TRAt (upd H6 U (.tup [.str "coin",.int (cs.getD u 0)])) (.ref U) (.coin (cs.getD u 0)):=.coin ah;generalize upd H6 U (.tup [.str "coin",.int (cs.getD u 0)])=H7 at d R7;let x:=d _ _ an;erw[L,2,x,aM #[0],6];let k8:cZ H7 (upd H7 L (.lst (vs++[.ref U]))):=eU x;let S8:Same H (upd H7 L (.lst (vs++[.ref U]))):=λa o e=>by
      rw[az (aN e bE)];exact d _ _ (ap _ _ e)
     erw[0,2,6];erw[O,Px _,t.toss ns ts p (cs.getD u 0),O,u+1,m,rs++[.coin (cs.getD u 0)],0,1,3,3,(W6.same d).put x (G.same S8),a7,ah,((aL.mono (λa xs e=>k8 _ _ (d _ _ (a8 _ _ e)))).snoc (R7.mono k8)),6,3,3,by rw[fm];show rs.length+1+O<=21;omega,S8];rw[←eq,dN cc,dh,dt,Qd];rfl
   . rw [fw cc];apply cQ ?_;rw[eA ch cc,q9]at eq;erw[0,L,0,.inl %[eH j|λb8 ca=>?_]];let I8:=ej ca (.tup vs);let g8:upd H1 b8 (.tup vs) b8=some (.tup vs):=ah;generalize upd H1 b8 (.tup vs)=H8 at I8 g8;let bP:=N.same I8;let%[cb,_,_,_,_|R8]:=id bP;erw[0,D,cb,0,R8.hD,rj,D,g,t.z,1,bP,λv hv=>?_];erw[y,1,r]at hv;erw[y2S,λa9 ce=>?_];let I9:=ej ce (.tup [.ref b8,.ref y]);apply q a9 _ (S1.trans (I8.trans I9)) %[b8,y,vs,ah,I9 _ _ g8,6|6]
     . rw[←eq];exact aL.mono (bc (I8.trans I9))
     . rw[←eq];exact I9 _ _ r
end
section
variable {C CG:Addr}
abbrev wx:Stmt:=bp eB 11
instance spTwin(C CG:Addr):∀(D g:Addr)(z:Db)(ns:List Str)(ts:List Tr)(p:Int),vs=[.ref D]->DbAt C H D g z->Gm CG H g ns ts p->(∀(D2:Addr)(H':Hp),H D2=none->Same H H'->DbAt C H' D2 g z->Q (.ref D2) H'):=1
def LS:FnScope ["self","other"] WA (aj wx):=%[|5]
def FL(F:#["twin","Doubter.twin",wx])(T:DTxt K mg C)(MD:Mk K C fD)(GD:#[1,fD,aw,WI,spDInit C CG])(bD:Binds K aw WI []):#[3,f,fd,WA,spTwin C CG]:=by
 exists LS
 erw[D,g,z,ns,ts,p,1,%[M,t,u,x,B|R],G,q]at h;let aK:Room (1+1) _:=hr.mono ⋯;refine⟨_,(ad #[am,1,LS,iN MD GD aK rfl T.mgC bD .nil bd %[aB (pv 0) rfl|ae]]
  (ad (aQ (pv 1) (aB (pv 0) rfl) rfl)
  (ad (aQ (pv 1) (aB (pv 0) rfl) rfl)
  (ad (aQ (pv 1) (aB (pv 0) rfl) rfl)
  (ad (aQ (pv 1) (aB (pv 0) rfl) rfl)
  (ad (aQ (pv 1) (aB (pv 0) rfl) rfl)
  (ad (aQ (pv 1) (aB (pv 0) rfl) rfl)
  (ad (aQ (pv 1) (aB (pv 0) rfl) rfl)
  (af (au (pv 1))))))))))),?_⟩
 erw[0,D,C,M,_,0,R.hD,9,T.nG,jZ,λc dD nD aL a0=>?_];let ar:Same H (upd (upd H dD (.own c)) c (.ins C dD [])):=λb o e=>by
  rw[az (aN e nD),az (aN e aL)];exact e
 let gD:g≠c:=by
  let%[a,b,d,tv,%[dg|hg]|_]:=id G;exact aN hg nD
 erw[c,g,dD,ns,ts,p,1,ah,G.same ar,gD,λH0 S0 D0=>%[1|6]];let as:Same H H0:=λb o e=>S0 b o (aN e nD) (ar b o e)
 let y:D≠c:=aN R.hD nD;erw[n,a7,L,v,r,R2]at D0;let h0:=R2.hD;generalize (Db.new ts).s=N,(Db.new ts).ed=m,(Db.new ts).pl=j at h0;let av:=as _ _ R.hD;erw[0,D,C,M,_,0,av,9,T.nA,Hq,0,c,C,n,0,h0,9,T.nA,dw,6];rw[tu];let U0:SameBut c H0 (upd H0 c (.ins C n (dl g t L N v r m j))):=SameBut.upd _;let h1:upd H0 c (.ins C n (dl g t L N v r m j)) c=some (.ins C n (dl g t L N v r m j)):=ah;let O:=U0 _ _ y av;generalize upd H0 c (.ins C n (dl g t L N v r m j))=H1 at U0 h1 O;erw[0,D,C,M,_,0,O,9,T.nC,Lk,0,c,C,n,0,h1,9,T.nC,dw,6];rw[JL];let U1:SameBut c H1 (upd H1 c (.ins C n (dl g t u N v r m j))):=SameBut.upd _;let h2:upd H1 c (.ins C n (dl g t u N v r m j)) c=some (.ins C n (dl g t u N v r m j)):=ah;let Y:=U1 _ _ y O;generalize upd H1 c (.ins C n (dl g t u N v r m j))=H2 at U1 h2 Y;erw[0,D,C,M,_,0,Y,9,T.nS,Lg,0,c,C,n,0,h2,9,T.nS,dw,6];rw[JJ];let U2:SameBut c H2 (upd H2 c (.ins C n (dl g t u z.s v r m j))):=SameBut.upd _;let h3:upd H2 c (.ins C n (dl g t u z.s v r m j)) c=some (.ins C n (dl g t u z.s v r m j)):=ah;let ab:=U2 _ _ y Y;generalize upd H2 c (.ins C n (dl g t u z.s v r m j))=H3 at U2 h3 ab;erw[0,D,C,M,_,0,ab,9,T.nH,Lj,0,c,C,n,0,h3,9,T.nH,dw,6];rw[JK];let U3:SameBut c H3 (upd H3 c (.ins C n (dl g t u z.s x r m j))):=SameBut.upd _;let h4:upd H3 c (.ins C n (dl g t u z.s x r m j)) c=some (.ins C n (dl g t u z.s x r m j)):=ah;let ac:=U3 _ _ y ab;generalize upd H3 c (.ins C n (dl g t u z.s x r m j))=H4 at U3 h4 ac;erw[0,D,C,M,_,0,ac,9,T.nT,AU,0,c,C,n,0,h4,9,T.nT,dw,6];rw[Fg];let U4:SameBut c H4 (upd H4 c (.ins C n (dl g t u z.s x B m j))):=SameBut.upd _;let h5:upd H4 c (.ins C n (dl g t u z.s x B m j)) c=some (.ins C n (dl g t u z.s x B m j)):=ah;let an:=U4 _ _ y ac;generalize upd H4 c (.ins C n (dl g t u z.s x B m j))=H5 at U4 h5 an;erw[0,D,C,M,_,0,an,9,T.nE,BY,0,c,C,n,0,h5,9,T.nE,dw,6];rw[zX];let U5:SameBut c H5 (upd H5 c (.ins C n (dl g t u z.s x B z.ed j))):=SameBut.upd _;let h6:upd H5 c (.ins C n (dl g t u z.s x B z.ed j)) c=some (.ins C n (dl g t u z.s x B z.ed j)):=ah;let ap:=U5 _ _ y an;generalize upd H5 c (.ins C n (dl g t u z.s x B z.ed j))=H6 at U5 h6 ap;erw[0,D,C,M,_,0,ap,9,T.nP,BW,0,c,C,n,0,h6,9,T.nP,dw,6];rw[wI];let U6:SameBut c H6 (upd H6 c (.ins C n (dl g t u z.s x B z.ed z.pl))):=SameBut.upd _;let h7:upd H6 c (.ins C n (dl g t u z.s x B z.ed z.pl)) c=some (.ins C n (dl g t u z.s x B z.ed z.pl)):=ah;let aP:=U6 _ _ y ap;generalize upd H6 c (.ins C n (dl g t u z.s x B z.ed z.pl))=H7 at U6 h7 aP;let U:SameBut c H0 H7:=U0.trans (U1.trans (U2.trans (U3.trans (U4.trans (U5.trans U6)))));let J:Same H H7:=λb o e=>U b o (aN e nD) (as b o e)
 erw[0,q c H7 nD J %[n,t,u,x,B,h7,J _ _ R.hA,J _ _ R.hC,J _ _ R.hH|J _ _ R.hT]]
end
section
variable {CM CA CG:Addr}
abbrev wo:Stmt:=bp mL 4
def ml_n4:(ml g h r b).lookup ("twin":Str)=none:=by rfl'
def Ja{b':Addr}:cf "boxes" (.ref b') (ml g h r b)=ml g h r b':=by rfl'
instance spMTwin(CM:Addr):∀(M g h b dm:Addr)(r:Int)(bx:Str->Int)(m:Nat),vs=[.ref M]->H M=some (.ins CM dm (ml g h r b))->BxAt H b bx m->(∀(M' dm' b':Addr)(H':Hp),H M'=none->H b'=none->H' M'=some (.ins CM dm' (ml g h r b'))->BxAt H' b' bx m->Same H H'->Q (.ref M') H'):=1
def LT:FnScope ["self","other"] WA (aj wo):=%[|5]
def FI(F:#["twin","Machine.twin",wo])(B:Bl mg)(T:MTxt K mg CM)(MM:Mk K CM fI)(GI:#[1,fI,y,WJ,spMInit CM])(bI:Binds K y WJ []):#[3,f,fd,WA,spMTwin CM]:=by
 exists LT
 erw[M,g,h,b,dm,r,bx,m,1,hM,BX,q]at h;let z:Room (1+1) _:=hr.mono ⋯;refine⟨_,(ad #[am,1,LT,iN MM GI z rfl T.mgC bI .nil bd %[aB (pv 0) rfl,aB (pv 0) rfl|ae]]
  (ad (aQ (pv 1) (aB (pv 0) rfl) rfl)
  (ad (aQ (pv 1) (aX AY rfl B.dict AZ %[aB (pv 0) rfl|ae]) rfl)
  (af (au (pv 1)))))),?_⟩
 erw[0,M,CM,dm,_,0,hM,9,T.nG,ml_g,0,M,CM,dm,_,0,hM,9,T.nH,Jb,λN d t C nN=>?_];let L:Same H (upd (upd H d (.own N)) N (.ins CM d [])):=λa o e=>by
  rw[az (aN e t),az (aN e C)];exact e
 let g1:upd (upd H d (.own N)) N (.ins CM d []) N=some (.ins CM d []):=ah;generalize upd (upd H d (.own N)) N (.ins CM d [])=H1 at L g1;erw[N,g,h,d,1,g1,λx u ab D _ S2=>%[1|6]];let v:Same H u:=Same.but L t S2;let J:=v _ _ hM;let ac:M≠N:=aN hM t;erw[0,M,CM,dm,_,0,J,9,T.nR,KF,0,N,CM,d,0,D,9,T.nR,Ay,6];rw[Gj];let O:SameBut N u (upd u N (.ins CM d (ml g h r x))):=SameBut.upd _;let n:upd u N (.ins CM d (ml g h r x)) N=some (.ins CM d (ml g h r x)):=ah;generalize upd u N (.ins CM d (ml g h r x))=H3 at O n;let j:Same H H3:=Same.but v t O;erw[U,eb,lb,hx]at BX;erw[0,M,CM,dm,_,0,j _ _ hM,9,T.nB,Gk,b,U,1,j _ _ eb,λc hc=>?_];let Y:c≠N:=(aN n hc).symm;let c0:H c=none:=j.free hc;erw[0,N,CM,d,0,by rw[az Y.symm];exact n,T.cl,T.nB,Ay,6];rw[Ja];erw[0,q N d c _ t c0 ah %[U,by rw[az Y];exact ah,lb|hx] λa o e=>?_];rw[az (aN e t),az (aN e c0)];exact j _ _ e
end
instance spPow:∀(x k:Int),vs=[.int x,.int k]->0<=k->k<=100->0<x->x<2 ^ 40->Q (.int (x ^ k.toNat)) H:=1
def o5:FnScope ["number","times","told","step"] Wt (aj wn):=%[|5]
def FG(F:#["power",wn])(B:Bl mg):#[1,f,fd,Wt,spPow]:=by
 exists o5
 erw[x,k,1,e,g,j,m,q]at h;refine⟨_,(ad #[am,2,o5,ag]
  (ad (cR ks rfl (bK rfl B.range %[1|ae]) (ba (i:=3) o5.nd rfl (.inl rfl)) (af #[am,2,o5,ao bN (pv 2) (pv 0)]))
  (af (au (pv 2))))),?_⟩
 erw[0,k,1,3,3,eV (n:=k.toNat) (λi σ c=>∃b:Option V,σ=[some (.int x),some (.int k),some (.int (x ^ i)),b]/\c=H) %[none,by rw[QD];rfl|1] ?_ ?_]
 . rintro i σ d o ⟨b,rfl,rfl⟩;erw[0,0,2,.inr %[3|3],6];erw[some (.int (0+(i:Int))),6,1];rw[rc];rfl
 . rintro σ d ⟨b,rfl,rfl⟩;erw[0,q]
section
variable {C CM CA CG:Addr}
def Lh:(dl g b c s d e ed pl).lookup ("twin":Str)=none:=by rfl'
def OptAt(H:Hp)(v:V):Option (List Int)->Prop
 |none=>v=.non
 |some cs=>∃b,v=.ref b/\H b=some (.tup (cs.map V.int))
def OptAt.mono{x:Option (List Int)}(h:OptAt H v x)(k:cZ H c):OptAt c v x:=by
 cases x with
 |none=>exact h
 |some cs=>erw[b,e,hb]at h;erw[b,e,k _ _ hb]
def xL(H:Hp)(a:Addr)(x:Int×Option (List Int)):Prop:=∃v,H a=some (.tup [.int x.1,v])/\OptAt H v x.2
def bm(ns:List Str)(ts:List Tr):Nat:=if ts.length=1 then ns.length else ns.length+1
def kc{ns:List Str}(h:ns.length<=6):bm ns ts<=7:=by unfold bm;split <;> omega
instance spFirst(CG:Addr):∀(g c:Addr)(ns:List Str)(ts:List Tr)(p:Int)(cs:List Int),vs=[.ref g,.ref c]->Gm CG H g ns ts p->ns.length<=6->H c=some (.tup (cs.map V.int))->cs.length<=bm ns ts->(∀(a:Addr)(H':Hp),Same H H'->H' a=some (.tup ((cs++List.replicate (bm ns ts-cs.length) 0).map V.int))->Q (.ref a) H'):=1
def vS:FnScope Wh Wh (aj lK):=%[|5]
def wV(F:#["first_row",lK])(B:Bl mg)(TG:GTxt K mg CG)(mC:Meth K CG "coins" L)(GC:#[1,L,n,WA,spCoins CG])(bC:Binds K n WA []):#[2,f,fd,Wh,spFirst CG]:=by
 exists vS
 erw[g,c,ns,ts,p,cs,1,G,n6,hc,cl,q]at h;let M:Room 1 _:=hr.mono ⋯;erw[_,(af (au (ao (pF K) (pv 1) (ao (Fx K) (aR %[ag|ae]) (ao bi (bt (pv 0) TG.cl mC GC M bC .nil bd) (aG aD rfl B.len fx %[1|ae])))))),6];erw[0,y1S,λz N=>?_];let I:=ej N (.tup [.int 0]);let o:upd H z (.tup [.int 0]) z=some (.tup [.int 0]):=ah;generalize upd H z (.tup [.int 0])=r at I o;let%[a,b,d,u,%[D|hg],ha,hb,TS|hd]:=G.same I;let O:=TS.length;let v:(gf a b p d).lookup ("coins":Str)=none:=oa _ _ _ _ ⋯ ⋯ ⋯ ⋯;erw[0,g,D,0,hg,v,g,a,b,d,ns,u,p,1,%[D|hg],ha,hb,6];let j:=I _ _ hc;erw[0,c,0,.inr (dV j),2,6];let U:(if u.length=1 then(ns.length:Int)else(ns.length:Int)+1)-((cs.map V.int).length:Int)=((bm ns ts-cs.length:Nat):Int):=by
  rw[d8,O];unfold bm at cl ⊢
  split <;> rename_i h <;> (first | rw[Pe h]at cl | rw[Pd h]at cl) <;> omega
 show rRepT K (.ref z) (.int ((if u.length=1 then(ns.length:Int)else(ns.length:Int)+1)-((cs.map V.int).length:Int))) r _;rw[U];let c7:=kc (ts:=ts) n6;let fin:∀(y:Addr)(m:Hp),Same r m->m y=some (.tup ((List.replicate (bm ns ts-cs.length) (0:Int)).map V.int))->rCatT K (.ref c) (.ref y) m Q∨rCatT0 K (.ref c) (.ref y) m Q:=λy m J x=>
  sj (J _ _ j) x (by rw[O3];omega) λt Y S3 h3=>q t Y (I.trans (J.trans S3)) h3
 erw[z,.int 0,((bm ns ts-cs.length:Nat):Int),1,1,dV o,3,3,λe=>fin z r (Same.refl _) ?_,λ_ y x=>fin y _ (ej x _) ?_]
 . let e1:bm ns ts-cs.length=1:=#[0]
   rw[e1];exact o
 . rw[ah,List.map_replicate,pu]
instance spRowsC(CG:Addr):∀(g:Addr)(ns:List Str)(ts:List Tr)(p:Int),vs=[.ref g]->Gm CG H g ns ts p->ns.length<=6->0<p->p<2 ^ 40->Q (.int (p ^ bm ns ts)) H:=1
def qc:FnScope WC WC (aj iC):=%[|5]
def qz(F:#["rows_of_coins",iC])(T:GTxt K mg CG)(mC:Meth K CG "coins" r)(GC:#[1,r,c,WA,spCoins CG])(bC:Binds K c WA [])(t:#[1,"power",Wt,spPow]):#[2,f,fd,WC,spRowsC CG]:=by
 exists qc
 erw[g,ns,ts,p,1,%[a,b,d,o,%[j|hg],ha,hb,TS|hd],nl,p0,m,q]at h;let u:Room 1 _:=hr.mono ⋯;erw[_,(af (au (aq t hr ⋯ rfl %[aB (pv 0) rfl,bt (pv 0) T.cl mC GC u bC .nil bd|ae]))),6];let n:(gf a b p d).lookup ("coins":Str)=none:=oa _ _ _ _ ⋯ ⋯ ⋯ ⋯;let v:=TS.length;erw[0,g,CG,j,_,0,hg,9,T.nF,fN ..,0,g,j,0,hg,n,g,a,b,d,ns,o,p,1,%[j|hg],ha,hb,p,0,6,6,p0,m,6]
 . split <;> omega
 . split <;> omega
 . let e:(if o.length=1 then(ns.length:Int)else(ns.length:Int)+1).toNat=bm ns ts:=by
    rw[v];unfold bm
    split <;> omega
   rw[e];exact q
structure Twins(P:Program)(w:World)(K:W.Frag)(mg:#[9])(base:Heap)(C CM CG fD fM:Addr)(fdD fdM:FuncData):Prop where
 mD:Meth K C "twin" fD
 GD:#[3,fD,fdD,WA,spTwin C CG]
 bD:Binds K fdD WA []
 mM:Meth K CM "twin" fM
 GM:#[3,fM,fdM,WA,spMTwin CM]
 bM:Binds K fdM WA []
instance spWB(C CM CG:Addr)(d:Nat):∀(D M g h b c:Addr)(rows:List Hr)(ns:List Str)(ts:List Tr)(p:Int)(t:Tk)(m:Nat)(cs:List Int),vs=[.ref M,.ref D,.ref c]->TalkAt C CM CG H D M g h b rows ns ts p t m->GmK ns ts p->ns.length<=6->(∀r∈rows,r.good)->Beg ns ts p t->bZ ns (settle ns ts p rows 2 t).z<d->H c=some (.tup (cs.map V.int))->cs.length+bZ ns (settle ns ts p rows 2 t).z<=bm ns ts->m+400*d<=5000->(∀(a:Addr)(H':Hp),xL H' a (gg ns ts p rows (bm ns ts) d t cs)->But3 D M b H H'->Q (.ref a) H'):=1
def bX:FnScope ["machine","doubter","coins","number","row","coin","behind","told"] WX (aj fJ):=%[|5]
def Ie:#[27,f,fd,WX,spWB C CM CG 0]:=by
 let no:∀vs H Q E,¬ spWB C CM CG 0 vs H Q E:=λvs H Q E h=>by
  erw[D,M,g,h,b,c,rows,ns,ts,p,t,m,cs,_,_,_,_,_,_,h1,_]at h;exact absurd h1 (Nat.not_lt_zero _)
 exists 3
def TalkAt.twins{M2 c:Addr}(w:TalkAt C CM CG H D M g h b rows ns ts p t m)(s:Same H d)(DA:DbAt C d e g z)(hM:d M2=some (.ins CM c (ml g h t.nr j)))(B:BxAt d j t.bx m)(ne:e≠M2):TalkAt C CM CG d e M2 g h j rows ns ts p %[z,t.bx|t.nr] m:=by
 let%[_,G,_,%[n,hh|R],_|_]:=w.same s;erw[DA,G,%[c|hM],%[n,hh|R],B,ne]
instance IWb(C CM CG:Addr)(H:Hp)(D M g h b c:Addr)(rows:List Hr)(ns:List Str)(ts:List Tr)(p:Int)(u:Tk)(m:Nat)(mm:Nat)(σ:St)(H':Hp):∀(t':Tk) (j m':Nat),σ=[some (.ref M),some (.ref D),some (.ref c),none,none,none,none,none]->mm=j->j<=2->Beg ns ts p t'->(j<=1->TkOk ns ts p t')->(j=0->¬ t'.z.aw.1="hear")->settle ns ts p rows j t'=u->TalkAt C CM CG H' D M g h b rows ns ts p t' m'->m'+200*j<=m+400->But3 D M b H H':=0
def Ig{n:Nat}(F:#["weighed_behind",fJ])(B:Bl mg)(T:DTxt K mg C)(TM:MTxt K mg CM)(TG:GTxt K mg CG)(Y:Ways P w K mg base C CM CG fW fU fH fT fS b9 ca ce cg ci)(Z:Twins P w K mg base C CM CG cj ck b6 b8)
 (b7:#[26,"asked_once",Wg,spAsked C CM CG])(gJ:#[2,"first_row",Wh,spFirst CG])(fh:#[n+27,"weighed_behind",WX,spWB C CM CG n]):#[n+28,f,fd,WX,spWB C CM CG (n+1)]:=by
 exists bX
 erw[D,M,g,h,b,c,rows,ns,ts,p,t,m,cs,1,W,k,n6,rg,bg,cd,hc,cl,mm,q]at h;let Pp:Room 1 _:=hr.mono #[0];let ar:Room 3 _:=hr.mono #[0];let as:Room 17 _:=hr.mono #[0];refine⟨_,(ad (iq ks (ai aS (aO ix_tup (bt (pv 1) T.cl Y.mW Y.GW Pp Y.bW .nil bd) ag #[1]) aI (ax _)) (af (bh (aq b7 hr #[0] rfl %[0,1|ae]))))
  (ad (aJ (ai aS (aO ix_tup (bt (pv 1) T.cl Y.mW Y.GW Pp Y.bW .nil bd) ag #[1]) aI (ax _)) (af (au (aR %[ag,kR|ae]))) aE)
  (ad (aJ (ai aS (aO ix_tup (bt (pv 1) T.cl Y.mW Y.GW Pp Y.bW .nil bd) ag #[1]) aI (ax _)) (af (au (aR %[ag,aq gJ hr #[0] rfl %[aB (pv 1) rfl,2|ae]|ae]))) aE)
  (ad #[am,3,bX,ag]
  (ad #[am,4,bX,kR]
  (ad (cR ks rfl (bK rfl B.range %[aB (aB (pv 1) rfl) rfl|ae]) (ba (i:=5) bX.nd rfl (.inl rfl)) (ad #[am,6,bX,bt (pv 1) T.cl Z.mD Z.GD ar Z.bD .nil bd]
   (ad (bh (cq (pv 6) T.cl Y.mT Y.GT as Y.bT .nil bd %[5|ae]))
   (ad #[am,7,bX,aq fh hr #[0] rfl %[bt (pv 0) TM.cl Z.mM Z.GM ar Z.bM .nil bd,6,ao (pF K) (pv 2) (aR %[5|ae])|ae]]
   (ad #[am,3,bX,ao aV (pv 3) (aO ix_tup (pv 7) ag #[1])]
   (af (aJ (ai wP (pv 4) kR (ax _)) (af #[am,4,bX,aO ix_tup (pv 7) ag #[1]]) aE)))))))
  (af (au (aR %[3,4|ae]))))))))),?_⟩
 let p2:=k.p2;let p9:=k.p9;let%[y|aK]:=bg.settle (rows:=rows) k n6;let aL:settle ns ts p rows 2 t=settle ns ts p rows 2 t:=rfl;generalize eu:settle ns ts p rows 2 t=u at y aK cd cl;clear aL;let c7:=kc (ts:=ts) n6;erw[IWb C CM CG H D M g h b c rows ns ts p u m,%[(2),t,(2),m,1,1,eS _,bg,λz=>absurd z ⋯,λz=>absurd z ⋯,eu,W,eS _|λ_ _ _ _ _ e=>e],6]
 rintro U σ H1 ⟨t',j,m',rfl,rfl,j2,ab,aP,a7,es,W1,m1,S1⟩;let DA:=W1.DA;let%[dx,aA,aC,aH,aT|R]:=id DA;erw[0,D,dx,0,R.hD,rj,D,g,t'.z,1,DA,λv hv=>?_];erw[av,1,d]at hv;erw[av,_,(0),0,1,dV d,Ed _,1,0,6]
 by_cases ch:t'.z.aw.1="hear"
 . apply aZ (congrArg V.str ch) %[_,λ_ _ h=>h|6];obtain⟨i,rfl⟩:∃i,U=i+1:=⟨U-1,by have:U≠0:=λz=>a7 z ch;omega⟩
   let%[ak,bo,aw,a0,a5|ho]:=ab.ask (rows:=rows) k n6 ch;erw[0,0,D,M,g,h,b,rows,ns,ts,p,t',m',1,W1,k,rg,ak,bo,aw,a0,a5,ho,3,λa6 H6 _ _ W6 S6=>?_];let a9:=ab.asked (rows:=rows) k n6 ch;erw[i,Px _,t'.ask ns ts p rows,i,m'+200,1,1,3,.inr a9,λ_=>a9,λz=>?_,6,W6,3,λa o h1 h2 h3 e=>S6 _ _ h1 h2 h3 (S1 _ _ h1 h2 h3 e)]
   . subst z;exact((aP (eS _)).ask (rows:=rows) k n6 ch).2.2.2
   . rw[←es];exact(Pe ch).symm
 apply aF (neS ch) ?_;rw[dC ch]at es;subst es;clear ab aP a7 d;erw[0,D,dx,0,R.hD,rj,D,g,t'.z,1,DA,λv hv=>?_];erw[av,1,d]at hv;erw[av,_,(0),0,1,dV d,Ed _,1,0,6]
 by_cases cb:t'.z.aw.1="believed"
 . apply aZ (congrArg V.str cb) %[y2S|λa ha=>?_];let I:=ej ha (.tup [.int 1,.non]);apply q a _ ?_ (λx o h1 h2 h3 e=>I _ _ (S1 _ _ h1 h2 h3 e));let e:gg ns ts p rows (bm ns ts) (n+1) t cs=(1,none):=by
    show(if(settle ns ts p rows 2 t).z.aw.1="believed" then _ else _)=_;rw[eu,Pe cb]
   rw[e];erw[.non,ah,1]
 apply aF (neS cb) ?_;clear d;erw[0,D,dx,0,R.hD,rj,D,g,t'.z,1,DA,λv hv=>?_];erw[av,1,d]at hv;erw[av,_,(0),0,1,dV d,Ed _,1,0,6];let ac:c≠D/\c≠M/\c≠b:=by
  erw[cm,_,_,_,_,R0]at W.DA;erw[cn,bP]at W.hM;erw[cr,bR,_]at W.BX;erw[bO hc R0.hD nofun,bO hc bP nofun,bO hc bR nofun]
 let bb:=S1 _ _ ac.1 ac.2.1 ac.2.2 hc
 by_cases cc:t'.z.aw.1="caught"
 . apply aZ (congrArg V.str cc) %[0,D,C,dx,_,0,R.hD,T.cl,T.nG,jZ,0,g,c,ns,ts,p,cs,1,W1.G,n6,bb,3|λa2 H2 N h2=>?_];erw[y2S,λa ha=>?_];let I:=ej ha (.tup [.int 0,.ref a2]);apply q a _ ?_ (λx o h1 h2 h3 e=>I _ _ (N _ _ (S1 _ _ h1 h2 h3 e)));let e:gg ns ts p rows (bm ns ts) (n+1) t cs=(0,some (cs++List.replicate (bm ns ts-cs.length) 0)):=by
    show(if(settle ns ts p rows 2 t).z.aw.1="believed" then _ else if(settle ns ts p rows 2 t).z.aw.1="caught" then _ else _)=_;rw[eu,Pd cb,Pe cc]
   rw[e];erw[.ref a2,ah,a2,1,I _ _ h2]
 apply aF (neS cc) ?_;let co:=zq y aK cb cc;let e:gg ns ts p rows (bm ns ts) (n+1) t cs=jW (λr=>gg ns ts p rows (bm ns ts) n (t'.toss ns ts p r) (cs++[r])) p.toNat:=by
  show(if(settle ns ts p rows 2 t).z.aw.1="believed" then _ else if(settle ns ts p rows 2 t).z.aw.1="caught" then _ else _)=_;rw[eu,Pd cb,Pd cc]
 rw[e]at q;clear e d eu bg W hc;let cp:=(eT y (.inr co)).2 co;generalize ef:(λr=>gg ns ts p rows (bm ns ts) n (t'.toss ns ts p r) (cs++[r]))=J at q;erw[ga,gb,gd,tv,%[dg|hg],_]at W1.G;erw[0,D,C,dx,_,0,R.hD,9,T.nG,jZ,g,CG,dg,_,0,hg,TG.cl,TG.nF,fN ..,p,1,3,3,eV (n:=p.toNat) (λi σ H'=>∃(v:V)(x5 x6 x7:Option V),σ=[some (.ref M),some (.ref D),some (.ref c),some (.int (jW J i).1),some v,x5,x6,x7]/\OptAt H' v (jW J i).2/\Same H1 H') %[.non,none,none,none,1,1|Same.refl _] ?_ ?_]
 . rintro i σ H2 hi ⟨v,x5,x6,x7,rfl,O,N⟩;rw[vu];let W2:=W1.same N;let be:=W2.DA;let%[Po,_,_,_,_|R2]:=id be;erw[0,D,Po,0,R2.hD,Lh,D,g,t'.z,ns,ts,p,1,be,W2.G,λD3 H3 bf S3 bn=>?_];let%[bS,_,_,_,_|R3]:=id bn;let to:=y.tossOk co (r:=(i:Int)) #[0] #[0];erw[0,D3,bS,0,R3.hD,JX,0,D3,g,t'.z,(i:Int),ns,ts,p,1,bn,W2.G.same S3,k,to.aw,to.r0,to.r1,to.tl,to.ro,to.po,λH4 S4 br=>?_];let L:Same H2 H4:=Same.but S3 bf S4;let W4:=W2.same L;erw[bA,bB]at W4.hM;erw[0,M,bA,0,bB,ml_n4,M,g,h,b,bA,t'.nr,t'.bx,m',1,bB,W4.BX,λM5 ct b5 H5 bC bU b0 b1 S5=>?_];erw[0,0,0,y1S,λz hz=>?_];let I6:=ej hz (.tup [.int (i:Int)]);let g6:upd H5 z (.tup [.int (i:Int)]) z=some (.tup ([(i:Int)].map V.int)):=ah;generalize upd H5 z (.tup [.int (i:Int)])=H6 at I6 g6;let bE:Same H2 H6:=L.trans (S5.trans I6);apply sj (bE _ _ (N _ _ bb)) g6 (by rw[nm];omega) λc7 H7 S7 h7=>?_
   let bF:Same H4 H7:=S5.trans (I6.trans S7);let bG:Same H5 H7:=I6.trans S7;let%[bH,cy,cA|_]:=y.toss k co to.r0 to.r1;let%[_,cB|_]:=mJ (rows:=rows) k n6 bH;let el:(cs++[(i:Int)]).length=cs.length+1:=by rw[fm];rfl
   let bI:D3≠M5:=by
    erw[_,_,_,_,_,R4]at br;exact aN R4.hD bC
   let W7:TalkAt C CM CG H7 D3 M5 g h b5 rows ns ts p (t'.toss ns ts p (i:Int)) m':=W4.twins bF (br.same bF) (bG _ _ b0) (b1.keep λo e=>bG _ _ e) bI;erw[D3,M5,g,h,b5,c7,rows,ns,ts,p,t'.toss ns ts p (i:Int),m',cs++[(i:Int)],1,W7,k,n6,rg,.inr bH,3,h7,3,3,λa8 H8 w8 S8=>?_];let an:Same H2 H8:=λa o e=>S8 _ _ (aN e bf) (aN (L _ _ e) bC) (aN (L _ _ e) bU) (bE.trans S7 _ _ e)
   erw[v8,ap,o8]at w8;let b2:gg ns ts p rows (bm ns ts) n (t'.toss ns ts p (i:Int)) (cs++[(i:Int)])=J (i:Int):=by rw[←ef]
   rw[b2]at ap o8;erw[0,0,a8,_,(0),0,1,dV ap,at0 _ _,2,6];erw[0,1,0,6];cases eo:(jW J i).2 with
   |none=>
     rw[eo]at O;let O:v=.non:=O;subst O;apply aZ rfl %[0,a8,_,(1),0,1,dV ap,cX (j:=1) rfl|6];erw[v8,_,_,0,6,N.trans an];show OptAt H8 v8 ((jW J i).2.or (J (i:Int)).2);rw[eo];exact o8
   |some rr=>
     rw[eo]at O;let b3:=O;erw[bv,1,b4]at b3;apply aF nofun ?_;erw[.ref bv,_,_,0,6,N.trans an];show OptAt H8 (.ref bv) ((jW J i).2.or (J (i:Int)).2);rw[eo];erw[bv,1,an _ _ b4]
 . rintro σ H2 ⟨v,x5,x6,x7,rfl,O,N⟩;erw[0,0,y2S,λa ha=>?_];let I:=ej ha (.tup [.int (jW J p.toNat).1,v]);exact q a _ %[v,ah|O.mono (bc I)] (λx o h1 h2 h3 e=>I _ _ (N _ _ (S1 _ _ h1 h2 h3 e)))
def jx(F:#["weighed_behind",fJ])(m:mg "weighed_behind"=some (.ref f))(B:Bl mg)(T:DTxt K mg C)(b:MTxt K mg CM)(TG:GTxt K mg CG)(Y:Ways P w K mg base C CM CG x y z D J j o q r t)(Z:Twins P w K mg base C CM CG u v c d)
 (e:#[26,"asked_once",Wg,spAsked C CM CG])(g:#[2,"first_row",Wh,spFirst CG]):∀n:Nat,#[n+27,f,fd,WX,spWB C CM CG n]
 |0=>Ie
 |n+1=>Ig F B T b TG Y Z e g (Cal.of F (jx F m B T b TG Y Z e g n) m (λ_ _ _ _ _ _ us hl=>by let%[L,M,N|1]:=Jj hl;rfl))
end
section
variable {C CM CA CG:Addr}
instance spWeighed(C CM CG:Addr):∀(g h:Addr)(rv:List V)(rows:List Hr)(ns:List Str)(ts:List Tr)(p:Int),vs=[.ref g,.ref h]->Gm CG H g ns ts p->GmK ns ts p->ns.length<=6->H h=some (.tup rv)->RowsAt H rv rows->(∀r∈rows,r.good)->p ^ bm ns ts<=4000->(∀(a:Addr)(H':Hp),Same H H'->xL H' a (gg ns ts p rows (bm ns ts) 8 (Tk.new ts) [])->Q (.ref a) H'):=1
def C4:FnScope ["game","helper","rows"] ["game","helper"] (aj qf):=%[|5]
def Af(F:#["weighed",qf])(T:DTxt K mg C)(TM:MTxt K mg CM)(j:∃t,mg "MOST_ROWS_weighing"=some (.int 4000 t))
 (MD:Mk K C fI)(GD:#[1,fI,N,WI,spDInit C CG])(bD:Binds K N WI [])(MM:Mk K CM fM)(GM:#[1,fM,O,WJ,spMInit CM])(bM:Binds K O WJ [])
 (dO:#[2,"rows_of_coins",WC,spRowsC CG])(fh:#[35,"weighed_behind",WX,spWB C CM CG 8]):#[36,f,fd,["game","helper"],spWeighed C CM CG]:=by
 exists C4
 erw[g,h,rv,rows,ns,ts,p,1,G,k,n6,hh,RW,rg,p4,q]at h;erw[te,ge]at j;let r:Room (1+1) _:=hr.mono ⋯;refine⟨_,(ad #[am,2,C4,aq dO hr ⋯ rfl %[0|ae]]
  (ad (aJ (ai gq (pv 2) (dI (v:=.int 4000) rfl ge %[|0]) (ax _)) bJ aE)
  (af (au (aq fh hr ⋯ rfl %[iN MM GM r rfl TM.mgC bM .nil bd %[0,1|ae],iN MD GD r rfl T.mgC bD .nil bd %[0|ae],aR ae|ae]))))),?_⟩
 let p2:=k.p2;let p9:=k.p9;erw[0,g,ns,ts,p,1,G,n6,3,3,6];erw[0,2,0,aF #[0] ?_];erw[0,0,λM dm m u nM=>?_];let U:Same H (upd (upd H dm (.own M)) M (.ins CM dm [])):=λa o e=>by
  rw[az (aN e m),az (aN e u)];exact e
 erw[M,g,h,dm,1,ah,λb J b0 y Y S2=>%[1|6]];let T2:Same H J:=Same.but U m S2;let ab:H b=none:=U.free b0;clear U S2 b0;erw[0,λD dd d z nD=>?_];let K3:Same J (upd (upd J dd (.own D)) D (.ins C dd [])):=λa o e=>by
  rw[az (aN e d),az (aN e z)];exact e
 let G2:=G.same T2;let gD:g≠D:=by
  erw[_,_,_,_,%[dg|hg],_]at G2;exact aN hg d
 erw[D,g,dd,ns,ts,p,1,ah,G2.same K3,gD,λB S4 ac=>%[1|6]];let n:Same J B:=Same.but K3 d S4;let L:Same H B:=T2.trans n;let an:H D=none:=T2.free d;let ap:D≠M:=(aN y d).symm;let W4:TalkAt C CM CG B D M g h b rows ns ts p (Tk.new ts) 0:=⟨ac,G.same L,⟨dm,n _ _ y⟩,⟨rv,L _ _ hh,RW.mono (bc L)⟩,⟨[],n _ _ Y,eS _,λ_=>rfl⟩,ap⟩
 erw[y0S,λc hc=>?_];let I:=ej hc (.tup []);let gc:upd B c (.tup []) c=some (.tup (([]:List Int).map V.int)):=ah;generalize upd B c (.tup [])=H5 at I gc;let%[_,c1|_]:=kx (rows:=rows) k n6;let c2:ns.length+(if 1<ts.length then 1 else 0)<=bm ns ts:=by
  unfold bm
  split <;> split <;> omega
 let c7:=kc (ts:=ts) n6;erw[D,M,g,h,b,c,rows,ns,ts,p,Tk.new ts,(0),[],1,W4.same I,k,n6,rg,.inl rfl,3,gc,(by show 0+_<=_;omega),4,λa H6 w6 S6=>q a H6 (λx o e=>?_) w6];exact S6 _ _ (aN e an) (aN e m) (aN e ab) (I _ _ (L _ _ e))
end
def cO(p:Nat):Nat->List (List Int)
 |0=>[[]]
 |k+1=>(List.range p).flatMap λr:Nat=>(cO p k).map ((r:Int)::·)
def iw:∀(k:Nat)(c:List Int),c∈cO p k->c.length=k/\cv c (p:Int)
 |0,c,h=>by
   let e:c=[]:=by simpa [cO]using h
   subst e;erw[1,λx b=>by cases b]
 |k+1,c,h=>by
   unfold cO at h;let%[r,hr|h]:=List.mem_flatMap.mp h;let%[g,d|1]:=List.mem_map.mp h;let hr:=List.mem_range.mp hr;let%[l|o]:=iw k g d;erw[by rw[f5,l],λx b=>?_];rcases qA0 b with e | e
   . subst e;omega
   . exact o x e
def vI{p:Nat}(b:0<p):∀k,(cO p k).head?=some (List.replicate k 0)
 |0=>rfl
 |k+1=>by
   obtain⟨q,rfl⟩:∃q,p=q+1:=%[p-1|3]
   unfold cO;rw[List.range_succ_eq_map,Qr,List.head?_append,List.head?_map,vI b k];rfl
def jj:∀k,(cO p k).length=p ^ k
 |0=>rfl
 |k+1=>by
   unfold cO;rw[RJ]
   have:((List.range p).map λa:Nat=>((cO p k).map ((a:Int)::·)).length)=List.replicate p (p ^ k):=by
    rw[List.eq_replicate_iff];erw[by simp,λb hb=>?_];let%[a,_|1]:=List.mem_map.mp hb;rw[d8,jj k]
   rw[this,List.sum_replicate_nat,QB,Nat.mul_comm]
def gU(L:List (List Int))(b:List Int->Bool)(cs:List Int):Int×Option (List Int):=(((L.filter b).length:Int),((L.filter λc=>!b c).head?).map (cs++·))
def iZ{L:List (List Int)}{b b':List Int->Bool}(h:∀c∈L,b c=b' c):gU L b cs=gU L b' cs:=by
 unfold gU;let e1:L.filter b=L.filter b':=Qe h;let e2:(L.filter λc=>!b c)=L.filter λc=>!b' c:=Qe λc hc=>by rw[h c hc]
 rw[e1,e2]
def yb{L M:List (List Int)}:gU (L++M) b cs=((gU L b cs).1+(gU M b cs).1,(gU L b cs).2.or (gU M b cs).2):=by
 unfold gU;rw[PK,PK,fm,List.head?_append,Qi]
 congr 1
 cases(List.filter (λc=>!b c) L).head? <;> rfl
def Fc{L:List (List Int)}{r:Int}:gU (L.map (r::·)) b cs=gU L (λc=>b (r::c)) (cs++[r]):=by
 unfold gU;rw[Q8,Q8,d8,List.head?_map]
 congr 1
 show Option.map _ (Option.map _ _)=_;rw[Option.map_map]
 congr 1
 funext c
 show cs++(r::c)=(cs++[r])++c;rw[Qd];rfl
def vw{p j:Nat}{f:Int->Int×Option (List Int)}{b:List Int->Bool}{cs:List Int}(h:∀r:Nat,r<p->f (r:Int)=gU (cO p j) (λc=>b ((r:Int)::c)) (cs++[(r:Int)])):∀k,k<=p->jW f k=gU ((List.range k).flatMap λr:Nat=>(cO p j).map ((r:Int)::·)) b cs
 |0,_=>rfl
 |k+1,d=>by
   show((jW f k).1+(f (k:Int)).1,(jW f k).2.or (f (k:Int)).2)=_;rw[vw h k #[0],h k #[0],ss,RI,yb,List.flatMap_singleton,Fc]
section
variable {ns:List Str}{ts:List Tr}{p:Int}{t:Tk}{rows:List Hr}
def EB(z:Db):bQ ns z<=2*ns.length+1:=by
 unfold bQ
 split
 . omega
 . split
   . split <;> omega
   . omega
def jU(h:cv cs p)(p0:0<p):0<=cs.headD 0/\cs.headD 0<p:=by
 cases cs with
 |nil=>erw[qq 0,p0]
 |cons a r=>exact h a (kb ..)
def oR(h:cv cs p):cv cs.tail p:=λx b=>h x (List.mem_of_mem_tail b)
def ot(k:GmK ns ts p)(n6:ns.length<=6):∀(n:Nat)(t:Tk)(cs:List Int),TkOk ns ts p t->cv cs p->bQ ns t.z<=n->(cK ns ts p rows cs (n+1) t).2=(cK ns ts p rows cs n t).2
 |0,t,cs,h,hc,c=>by
   let h1:¬ t.z.aw.1="hear":=λz=>by have:=(eT h (.inl z)).1;omega
   let h2:¬ t.z.aw.1="coin":=λz=>by have:=(eT h (.inr z)).1;omega
   rw[eA h1 h2,eA h1 h2]
 |n+1,t,cs,h,hc,c=>by
   let p2:=k.p2
   by_cases ch:t.z.aw.1="hear"
   . rw[fe ch,fe ch];let%[o,s|_]:=h.ask (rows:=rows) k n6 ch;exact ot k n6 n _ cs o hc #[0]
   . by_cases b:t.z.aw.1="coin"
     . rw[dN b,dN b];let%[r0|r1]:=jU hc #[0];let%[o,s|_]:=h.toss k b r0 r1;exact ot k n6 n _ cs.tail o (oR hc) #[0]
     . rw[eA ch b,eA ch b]
def sy(k:GmK ns ts p)(n6:ns.length<=6)(h:TkOk ns ts p t)(hc:cv cs p){n:Nat}(b:bQ ns t.z<=n):∀m,(cK ns ts p rows cs (n+m) t).2=(cK ns ts p rows cs n t).2
 |0=>rfl
 |m+1=>by rw[←Nat.add_assoc,ot k n6 _ _ _ h hc #[0],sy k n6 h hc b m]
def xP(k:GmK ns ts p)(n6:ns.length<=6)(h:TkOk ns ts p t)(hc:cv cs p){n m:Nat}(c:13<=n)(d:13<=m):(cK ns ts p rows cs n t).2=(cK ns ts p rows cs m t).2:=by
 have:=EB (ns:=ns) t.z
 obtain⟨a,rfl⟩:∃a,n=13+a:=%[n-13|3]
 obtain⟨b,rfl⟩:∃b,m=13+b:=%[m-13|3]
 rw[sy k n6 h hc #[0],sy k n6 h hc #[0]]
def oQ(k:GmK ns ts p)(n6:ns.length<=6)(h:TkOk ns ts p t)(hc:cv cs p){n m:Nat}(c:14<=n)(d:14<=m):(cK ns ts p rows cs n t).2=(cK ns ts p rows cs m (settle ns ts p rows 2 t)).2:=by
 by_cases ch:t.z.aw.1="hear"
 . let%[o,s,_|b]:=h.ask (rows:=rows) k n6 ch;let e:settle ns ts p rows 2 t=t.ask ns ts p rows:=(Pe ch).trans (dC b 1);rw[e];obtain⟨a,rfl⟩:∃a,n=a+1:=%[n-1|3]
   rw[fe ch];exact xP k n6 o hc #[0] #[0]
 . rw[dC ch];exact xP k n6 h hc #[0] #[0]
structure Lf(ns:List Str)(t:Tk)(j:Nat):Prop where
 hc:t.z.aw.1="hear"∨t.z.aw.1="coin" -> bZ ns t.z=j
 be:t.z.aw.1="believed" -> j=0
def JR:¬ (("believed":Str)="hear"):=by decide
def BC:¬ (("coin":Str)="believed"):=by decide
def yy:¬ (("caught":Str)="believed"):=by decide
def JQ:¬ (("hear":Str)="believed"):=by decide
def FV:¬ (("caught":Str)="coin"):=by decide
def xD(z:Db)(tl:z.to.length<=ns.length)(bx:Str->Int)(nr:Int):Lf ns %[goOn ns ts p z,bx|nr] (ns.length-z.to.length):=by
 unfold goOn
 by_cases c:z.to.length<ns.length
 . rw[Pe c];erw[λ_=>Pe rfl,λh=>absurd h JQ]
 . rw [Pd c];unfold fq
   by_cases e:z.ed=hor z.s p (ts.map λt=>t.worth ns z.to p)
   . rw[Pe e];erw[λh=>h.elim (λh=>absurd h JR) (λh=>absurd h FW),λ_=>(by show ns.length-z.to.length=0;omega)]
   . rw[Pd e];erw[λh=>h.elim (λh=>absurd h yz) (λh=>absurd h FV),λh=>absurd h yy]
def Lf.ask(k:GmK ns ts p)(n6:ns.length<=6){j:Nat}(h:TkOk ns ts p t)(l:Lf ns t j)(hw:t.z.aw.1="hear"):Lf ns (t.ask ns ts p rows) j:=by
 let d:=h.hear (rows:=rows) k n6 hw;let g:=h.gd.hear_ne k d;let e:du ns ts p (t.said ns ts p rows) t.z=dY p (t.said ns ts p rows) { t.z with pl:=t.z.pl+((t.said ns ts p rows).length:Int) }:=Pd h.cl;let m:=l.hc (.inl hw);let n:bZ ns t.z=ns.length-t.z.to.length:=Pe hw;let b:(t.ask ns ts p rows).z=dY p (t.said ns ts p rows) { t.z with pl:=t.z.pl+((t.said ns ts p rows).length:Int) }:=e;erw[λhh=>?_,λhh=>?_]
 . rw [b]at hh ⊢;unfold dY at hh ⊢
   by_cases c:(val p (t.said ns ts p rows) 0+val p (t.said ns ts p rows) 1) % p=t.z.ed
   . rw[Pe c];show(if(("coin":Str)="hear")then _ else if(("coin":Str)="coin")then(if t.said ns ts p rows=[]then _ else _)else _)=j;rw[Pd jf,Pe rfl,Pd g];show ns.length-t.z.to.length=j;omega
   . rw[Pd c]at hh;exact hh.elim (λh=>absurd h yz) (λh=>absurd h FV)
 . rw [b]at hh;unfold dY at hh
   by_cases c:(val p (t.said ns ts p rows) 0+val p (t.said ns ts p rows) 1) % p=t.z.ed
   . rw[Pe c]at hh;exact absurd hh BC
   . rw[Pd c]at hh;exact absurd hh yy
def Lf.settle(k:GmK ns ts p)(n6:ns.length<=6)(h:TkOk ns ts p t)(l:Lf ns t j):Lf ns (settle ns ts p rows 2 t) j:=by
 by_cases ch:t.z.aw.1="hear"
 . let%[o,s,_|b]:=h.ask (rows:=rows) k n6 ch;let e:Mine.settle ns ts p rows 2 t=t.ask ns ts p rows:=(Pe ch).trans (dC b 1);rw[e];exact l.ask k n6 h ch
 . rw[dC ch];exact l
def Lf.toss(h:TkOk ns ts p t){j:Nat}(l:Lf ns t (j+1))(hw:t.z.aw.1="coin")(r:Int):Lf ns (t.toss ns ts p r) j:=by
 let g:¬ t.z.aw.1="hear":=by rw[hw];exact jf
 let d:bZ ns t.z=if t.z.he=[]then ns.length+1 else ns.length-t.z.to.length:=by unfold bZ;rw[Pd g,Pe hw]
 let n:=l.hc (.inr hw)
 by_cases c:t.z.he=[]
 . let m:=h.fi hw c;rw[Pe c]at d;let e:t.toss ns ts p r=%[goOn ns ts p { t.z with pl:=t.z.pl+1,s:=r,ed:=hor r p t.z.cl },t.bx|t.nr]:=by
    unfold Tk.toss eg zo;rw[Pe c]
   rw[e]
   have:=xD (ns:=ns) (ts:=ts) (p:=p) { t.z with pl:=t.z.pl+1,s:=r,ed:=hor r p t.z.cl } h.gd.tl t.bx t.nr
   let b:ns.length-t.z.to.length=j:=by rw[m,ni];omega
   rw[←b];exact this
 . let tl:=((h.gd.co hw).2 c).2;rw[Pd c]at d;let e:t.toss ns ts p r=%[goOn ns ts p { t.z with pl:=t.z.pl+1,ed:=val p t.z.he r,to:=t.z.to++[r] },t.bx|t.nr]:=by
    unfold Tk.toss eg;rw[Pd c]
   rw[e];let o:(t.z.to++[r]).length=t.z.to.length+1:=by rw[fm];rfl
   have:=xD (ns:=ns) (ts:=ts) (p:=p) { t.z with pl:=t.z.pl+1,ed:=val p t.z.he r,to:=t.z.to++[r] } (by show(t.z.to++[r]).length<=_;omega) t.bx t.nr
   let b:ns.length-(t.z.to++[r]).length=j:=#[0]
   rw[←b];exact this
def Lf.new(k:GmK ns ts p):Lf ns ‹Tk.a› (bm ns ts):=by
 let e0:du ns ts p ‹Tk.s› (Db.new ts)=jz ns ts p ‹Tk.s› { Db.new ts with pl:=(Db.new ts).pl+(‹Tk.s›.length:Int) }:=Pe rfl
 by_cases c:ts.length=1
 . let e:(Tk.new ts).ask ns ts p rows=%[goOn ns ts p { Db.new ts with pl:=(Db.new ts).pl+(‹Tk.s›.length:Int),cl:=‹Tk.s›,s:=0,ed:=hor 0 p ‹Tk.s› },((Tk.new ts).run ns ts p rows).bx|(Tk.new ts).nr+1]:=by
    unfold Tk.ask
    congr 1
    exact e0.trans (Pe c)
   rw[e];let b:bm ns ts=ns.length-([]:List Int).length:=Pe c;rw[b];exact xD _ (i1 _) _ _
 . let d:‹Tk.a›.z={ Db.new ts with pl:=(Db.new ts).pl+(‹Tk.s›.length:Int),cl:=‹Tk.s›,aw:=("coin",none) }:=e0.trans (Pd c);let b:bm ns ts=ns.length+1:=Pd c;erw[λ_=>?_,λh=>?_]
   . rw[d,b];show(if(("coin":Str)="hear")then _ else if(("coin":Str)="coin")then(if([]:List Int)=[]then ns.length+1 else _)else 0)=_;rw[Pd jf,Pe rfl,Pe rfl]
   . rw[d]at h;exact absurd h BC
def Ba(ns:List Str)(ts:List Tr)(p:Int)(rows:List Hr)(t:Tk)(c:List Int):Bool:=decide ((cK ns ts p rows c 20 t).2.z.aw.1="believed")
def uX(k:GmK ns ts p)(n6:ns.length<=6){g:Nat}:∀(d j:Nat) (t:Tk) (cs:List Int),TkOk ns ts p (settle ns ts p rows 2 t)->¬ (settle ns ts p rows 2 t).z.aw.1="hear" -> Lf ns (settle ns ts p rows 2 t) j->j<d->cs.length+j=g ->
 gg ns ts p rows g d t cs=gU (cO p.toNat j) (Ba ns ts p rows (settle ns ts p rows 2 t)) cs
 |0,j,_,_,_,_,_,hd,_=>absurd hd (Nat.not_lt_zero _)
 |d+1,j,t,cs,ok,no,lf,hd,hl=>by
   let p2:=k.p2;let q:(p.toNat:Int)=p:=#[0]
   show(if(settle ns ts p rows 2 t).z.aw.1="believed" then _ else if(settle ns ts p rows 2 t).z.aw.1="caught" then _ else _)=_;generalize settle ns ts p rows 2 t=u at ok no lf
   by_cases b:u.z.aw.1="believed"
   . rw [Pe b];let e0:=lf.be b;subst e0;let e1:Ba ns ts p rows u []=true:=by
      unfold Ba;rw[eA no (by rw[b];exact FW)];exact ft b
     unfold gU cO;rw[List.filter_cons_of_pos e1,List.filter_cons_of_neg (by rw[e1];decide)];rfl
   . rw [Pd b]
     by_cases m:u.z.aw.1="caught"
     . rw [Pe m];let e1:∀c∈cO p.toNat j,Ba ns ts p rows u c=false:=λc _=>by
        unfold Ba;rw[eA no (by rw[m];exact FV)];exact fw b
       rw[iZ (b':=λ_=>false) e1];unfold gU;let e2:(cO p.toNat j).filter (λ_=>false)=[]:=List.filter_eq_nil_iff.mpr λ_ _=>by decide
       let e3:(cO p.toNat j).filter (λc=>!((λ_=>false) c))=cO p.toNat j:=List.filter_eq_self.mpr λ_ _=>rfl
       rw[e2,e3,vI #[0]];show(0,some (cs++List.replicate (g-cs.length) 0))=((([]:List (List Int)).length:Int),some (cs++List.replicate j 0))
       rw[show g-cs.length=j by omega];rfl
     . rw [Pd m];let co:=zq ok no b m;let v:=(eT ok (.inr co)).2 co;obtain⟨i,rfl⟩:∃i,j=i+1:=%[j-1|by have:=lf.hc (.inr co);omega]
       apply vw (p:=p.toNat) (j:=i) (λr hr=>?_) p.toNat (eS _);let r0:(0:Int)<=(r:Int):=RN r;let r1:(r:Int)<p:=#[0]
       let%[e|_]:=ok.toss k co r0 r1;let%[o,_|no4]:=mJ (rows:=rows) k n6 e;rw[uX k n6 d i _ (cs++[(r:Int)]) o no4 ((lf.toss ok co (r:Int)).settle k n6 e) #[0] (by rw[fm,nm];omega)];apply iZ λc hc=>?_
       let po:cv c p:=by
        have:=(iw _ _ hc).2
        rwa [q]at this
       unfold Ba;rw[←oQ (n:=19) k n6 e po ⋯ ⋯,dN (n:=19) co];rfl
def my(k:GmK ns ts p)(n6:ns.length<=6):gg ns ts p rows (bm ns ts) 8 (Tk.new ts) []=gU (cO p.toNat (bm ns ts)) (λc=>decide ((eP ns ts p rows c).2.z.aw.1="believed")) []:=by
 let%[g,_|no1]:=kx (rows:=rows) k n6;let%[b|_]:=kX (rows:=rows) k n6;let m:=kc (ts:=ts) n6;let j:(p.toNat:Int)=p:=by have:=k.p2;omega
 let e:settle ns ts p rows 2 (Tk.new ts)=settle ns ts p rows 1 ‹Tk.a›:=Pe rfl;let e2:settle ns ts p rows 2 (Tk.new ts)=settle ns ts p rows 2 ‹Tk.a›:=by
  rw[e]
  by_cases c:‹Tk.a›.z.aw.1="hear"
  . let d:=(b.ask (rows:=rows) k n6 c).2.2.2;show(if _ then _ else _)=(if _ then _ else _)
    rw[Pe c,Pe c,dC d,dC d]
  . rw[dC c,dC c]
 let lf:=(Lf.new (rows:=rows) k).settle (rows:=rows) k n6 b;rw[←e2]at lf;rw[uX k n6 8 (bm ns ts) (Tk.new ts) [] g no1 lf #[0] (Rl _)];apply iZ λc hc=>?_
 let po:cv c p:=by
  have:=(iw _ _ hc).2
  rwa [j]at this
 unfold Ba;rw[e2,←oQ (n:=20) k n6 b po ⋯ ⋯];rfl
end
def DD{p x y:Int}(d:1<p)(bx c:Bool)(e:x=if bx then 1 else 0)(g:y=if c then 1 else 0):fV p o x y=if gV o bx c then 1 else 0:=by
 let j:(0:Int) % p=0:=PP p;let m1:(1:Int) % p=1:=nh ⋯ d;subst e g;unfold fV gV;cases bx <;> cases c <;> (repeat' split) <;> simp_all
def jo{ns:List Str}{st:List Int}{p:Int}(c:1<p)(h:∀x∈st,x=0∨x=1)(hl:st.length=ns.length):∀t:Tr,t.ok ns->t.worth ns st p=if t.holds ns st then 1 else 0
 |.is x,ok=>by
   let%[j,d|q]:=hZ ok;show(match fL x ns with | some j=>st.getD j 0 | none=>0)=if(match fL x ns with | some j=>decide (st.getD j 0=1) | none=>false)=true then 1 else 0
   rw[d];show st.getD j 0=if decide (st.getD j 0=1)=true then 1 else 0
   rw[uq #[0]];rcases h _ (o4 (show j<st.length by omega))with e | e <;> rw[e] <;> rfl
 |.yes,_=>rfl
 |.no,_=>rfl
 |.not a,ok=>by
   let g:(0:Int) % p=0:=PP p;let m1:(1:Int) % p=1:=nh ⋯ c;show(1-a.worth ns st p) % p=if(!a.holds ns st)=true then 1 else 0
   rw[jo c h hl a ok];cases a.holds ns st
   . exact m1
   . exact g
 |.bin o a b,⟨_,m,n⟩=>DD c _ _ (jo c h hl a m) (jo c h hl b n)
def nd_at{ns:List Str}(nd:ns.Nodup){i j:Nat}{z:Str}(b:ns[i]?=some z)(c:ns[j]?=some z):i=j:=by
 let%[h1|e1]:=Pl b;let%[h2|e2]:=Pl c;rcases Nat.lt_trichotomy i j with h | h | h
 . exact absurd (e1.trans e2.symm) (List.pairwise_iff_getElem.mp nd i j h1 h2 h)
 . exact h
 . exact absurd (e2.trans e1.symm) (List.pairwise_iff_getElem.mp nd j i h2 h1 h)
def EL{pt:List Int}{j i:Nat}{x:Int}(b:j<pt.length):(pt.set j x).getD i 0=if i=j then x else pt.getD i 0:=by
 rw[m9,m9,List.getElem?_set]
 by_cases c:j=i
 . subst c
   simp [b]
 . rw[Pd c,Pd (Ne.symm c)]
def kj{ns:List Str}{pt:List Int}{p:Int}{j:Nat}{y:Str}(q:ns[j]?=some y)(hl:pt.length=ns.length)(nd:ns.Nodup):∀t:Tr,t.ok ns->∃f:Int->Int,IsPoly (t.names.count y+1) f/\∀x:Int,p ∣ t.worth ns (pt.set j x) p-f x
 |.is z,ok=>by
   let jl:j<ns.length:=(Pl q).1;let%[i,D|il]:=hZ ok;let J:=(tH D).1;let e:∀x,(Tr.is z).worth ns (pt.set j x) p=if i=j then x else pt.getD i 0:=λx=>by
    show(match fL z ns with | some N=>(pt.set j x).getD N 0 | none=>0)=_;rw[D];exact EL #[0]
   by_cases c:i=j
   . subst c;let L:z=y:=j3 (J.symm.trans q);subst L;erw[λx=>x,6,λx=>%[(0)|by rw[e x,Pe rfl];simp]]
     have:(Tr.is z).names.count z=1:=by simp [Tr.names]
     rw[this];exact IsPoly.self
   . let L:z≠y:=λh=>c (by
      subst h;exact nd_at nd J q)
     erw[λ_=>pt.getD i 0,6,λx=>%[(0)|by rw[e x,Pd c];simp]];exact IsPoly.const _ _
 |.yes,_=>%[λ_=>1,IsPoly.const _ _|λx=>%[(0)|by show(1:Int)-1=_;simp]]
 |.no,_=>%[λ_=>0,IsPoly.const _ _|λx=>%[(0)|by show(0:Int)-0=_;simp]]
 |.not a,ok=>by
   let%[f,hf|h]:=kj (p:=p) q hl nd a ok;erw[λx=>1+(-1)*f x,(IsPoly.const 1 _).add (hf.mul (-1)),λx=>?_];let%[k|O]:=h x;let%[m|U]:=ut p (1-a.worth ns (pt.set j x) p);show p ∣ (1-a.worth ns (pt.set j x) p) % p-_;erw[m-k,by grind]
 |.bin o a b,⟨_,B,C⟩=>by
   let%[f,hf|h]:=kj (p:=p) q hl nd a B;let%[g,hg|h']:=kj (p:=p) q hl nd b C;let Y:(Tr.bin o a b).names.count y+1=a.names.count y+b.names.count y+1:=by
    show(a.names++b.names).count y+1=_;rw[List.count_append]
   rw [Y];let hF:IsPoly (a.names.count y+b.names.count y+1) f:=hf.upTo _ #[0];let hG:IsPoly (a.names.count y+b.names.count y+1) g:=hg.upTo _ #[0];let hP:=hf.prod hg;let fin:∀(r d n:Int),(∀u v:Int,fV p o u v=(r+d*(u+v)+n*(u*v)) % p)->∃F:Int->Int,IsPoly (a.names.count y+b.names.count y+1) F/\∀x:Int,p ∣ (Tr.bin o a b).worth ns (pt.set j x) p-F x:=λr d n hJ=>by
    erw[λx=>r+d*(f x+g x)+n*(f x*g x),((IsPoly.const r _).add ((hF.add hG).mul d)).add (hP.mul n),λx=>?_];let%[k|O]:=h x;let%[l|hl]:=h' x;show p ∣ fV p o (a.worth ns (pt.set j x) p) (b.worth ns (pt.set j x) p)-_;rw[hJ];generalize a.worth ns (pt.set j x) p=u at *
    generalize b.worth ns (pt.set j x) p=v at *
    let%[m|U]:=ut p (r+d*(u+v)+n*(u*v));erw[m+d*(k+l)+n*(k*v+f x*l),by grind]
   by_cases d:o="and"
   . exact fin 0 0 1 λu v=>by unfold fV;rw[Pe d];congr 1;grind
   by_cases n:o="or"
   . exact fin 0 1 (-1) λu v=>by unfold fV;rw[Pd d,Pe n];congr 1;grind
   by_cases M:o="odd"
   . exact fin 0 1 (-2) λu v=>by unfold fV;rw[Pd d,Pd n,Pe M];congr 1;grind
   . exact fin 1 (-1) 2 λu v=>by unfold fV;rw[Pd d,Pd n,Pd M];congr 1;grind
def yB{ns:List Str}{pt:List Int}{p:Int}{j D:Nat}{y:Str}(b:ns[j]?=some y)(hl:pt.length=ns.length)(nd:ns.Nodup):∀ts:List Tr,(∀t∈ts,t.ok ns/\t.names.count y<=D)->∃f:Int->Int,IsPoly (D+1) f/\∀x:Int,p ∣ gI s (ts.map λt=>t.worth ns (pt.set j x) p)-f x
 | [],_=>%[λ_=>0,IsPoly.const _ _|λx=>%[(0)|by simp [gI]]]
 |t::ts,h=>by
   let%[f,hf|h1]:=kj (p:=p) b hl nd t (h t kb).1;let%[g,hg|h2]:=yB (p:=p) (s:=s) b hl nd ts λu c=>h u (mj _ c)
   let hd:=(h t kb).2;erw[λx=>f x+s*g x,(hf.upTo _ #[0]).add (hg.mul s),λx=>?_];let%[k|d]:=h1 x;let%[l|hl]:=h2 x;show p ∣ t.worth ns (pt.set j x) p+s*gI s (ts.map λt=>t.worth ns (pt.set j x) p)-_;erw[k+s*l,by grind]
def Ek(b:Pm p){xs:List Int}{f:Int->Int}(c:(xs.length:Int)<=p)(hf:IsPoly xs.length f)(h:∀k,k<xs.length->p ∣ xs.getD k 0-f k)(r:Int):val p xs r=f r % p:=
 md (yI b c (vK b c) hf h r)
def Ll{ts:List Tr}{x:Str}:∀t∈ts,t.names.count x<=(bj ts x).toNat:=λt b=>by
 have:=xj (d:=0) (List.mem_map.mpr %[t,b|1]:((t.names.count x:Nat):Int)∈ts.map λt=>(t.names.count x:Int))
 unfold bj;omega
def Bq:∀(cs st:List Int)(x z:Int),(cs++[z]++st).set cs.length x=cs++[x]++st
 | [],_,_,_=>rfl
 |a::cs,st,x,z=>congrArg (a::·) (Bq cs st x z)
def xQ{ns:List Str}{cs:List Int}{p:Int}{D:Nat}{y:Str}{ts:List Tr}(b:ns[cs.length]?=some y)(nd:ns.Nodup)(h:∀t∈ts,t.ok ns/\t.names.count y<=D):∀l:List (List Int),(∀st∈l,cs.length+1+st.length=ns.length) ->
 ∃f:Int->Int,IsPoly (D+1) f/\∀x:Int,p ∣ (l.map λst=>gI s (ts.map λt=>t.worth ns (cs++[x]++st) p)).sum-f x
 | [],_=>%[λ_=>0,IsPoly.const _ _|λx=>%[(0)|by simp]]
 |st::l,c=>by
   let%[f,hf|h1]:=yB (p:=p) (s:=s) (pt:=cs++[0]++st) b (by rw[fm,fm,nm];exact c st kb) nd ts h;let%[g,hg|h2]:=xQ (p:=p) (s:=s) b nd h l λu d=>c u (mj _ d)
   erw[λx=>f x+g x,hf.add hg,λx=>?_];let%[k|e]:=h1 x;rw[Bq]at e;let%[m|j]:=h2 x;erw[k+m,6];simp only[lw,rb];rw[Qm];omega
def iO:∀(n:Nat)(s:List Int),s∈cU n->s.length=n
 |0,s,h=>by rw[Pn h];rfl
 |n+1,s,h=>by
   let%[t,b|h]:=List.mem_flatMap.mp h
   have:=iO n t b
   rcases qA0 h with h | h
   . rw[h,fm,this];rfl
   . rw[Pn h,fm,this];rfl
def Bf{ns:List Str}{ts:List Tr}{cs:List Int}{y:Str}(m:Pm p)(g:ns[cs.length]?=some y)(nd:ns.Nodup)(ok:∀t∈ts,t.ok ns)(c:ts≠[])(dp:bj ts y<p)(r:Int):
 val p (eJ ns ts s p cs (bj ts y+1).toNat) r=di ns ts s p (cs++[r]):=by
 let cl:cs.length<ns.length:=(Pl g).1;let n:=yV (x:=y) c;let%[f,hf|h]:=xQ (p:=p) (s:=s) g nd (λt j=>%[ok t j|Ll t j]) (cU (ns.length-(cs.length+1))) λst Pi=>by
  have:=iO _ _ Pi
  omega
 let ll:(eJ ns ts s p cs (bj ts y+1).toNat).length=(bj ts y).toNat+1:=by
  unfold eJ;rw[d8,o0];omega
 let eq:∀x:Int,di ns ts s p (cs++[x])=((cU (ns.length-(cs.length+1))).map λst=>gI s (ts.map λt=>t.worth ns (cs++[x]++st) p)).sum % p:=λx=>by
  unfold di;rw[fm,nm]
 rw [Ek m (f:=f) (by rw[ll];omega) (by rw[ll];exact hf) (λk d=>by
  let e:(eJ ns ts s p cs (bj ts y+1).toNat).getD k 0=di ns ts s p (cs++[(k:Int)]):=by
   unfold eJ at d ⊢;rw[d8,o0]at d;rw[m9,hI,Qq d];rfl
  rw[e,eq];let%[a|ha]:=h k;let%[b|hb]:=ut p ((cU (ns.length-(cs.length+1))).map λst=>gI s (ts.map λt=>t.worth ns (cs++[(k:Int)]++st) p)).sum;erw[a+b,by grind]) r,eq]
 let%[a|ha]:=h r;exact md %[-a|by grind]
def Bj{α:Type}(F:List α->Int)(G:List α->Int):∀l:List (List α),(l.map λs=>F s+G s).sum=(l.map F).sum+(l.map G).sum
 | []=>rfl
 |a::l=>by
   simp only[lw,rb,Bj F G l];omega
def sB(F:List Int->Int):∀l:List (List Int),((l.flatMap λs=>[s++[0],s++[1]]).map F).sum=(l.map λs=>F (s++[0])+F (s++[1])).sum
 | []=>rfl
 |a::l=>by
   rw[Qr,fj,Qu,sB F l]
   simp
def qQ:∀(n:Nat)(F:List Int->Int),((cU (n+1)).map F).sum=((cU n).map λs=>F (0::s)+F (1::s)).sum
 |0,F=>by simp [cU]
 |n+1,F=>by
   let e1:((cU (n+1+1)).map F).sum=((cU (n+1)).map λs=>F (s++[0])+F (s++[1])).sum:=sB F _;rw[e1,qQ n λs=>F (s++[0])+F (s++[1])];let e2:((cU (n+1)).map λs=>F (0::s)+F (1::s)).sum=((cU n).map λs=>(F (0::(s++[0]))+F (1::(s++[0])))+(F (0::(s++[1]))+F (1::(s++[1])))).sum:=sB (λs=>F (0::s)+F (1::s)) _;rw[e2]
   congr 1
   apply P9 λs _=>?_
   show F (0::s++[0])+F (0::s++[1])+(F (1::s++[0])+F (1::s++[1]))=_;simp only[List.cons_append];omega
def mO{ns:List Str}{cs:List Int}(cl:cs.length<ns.length):(di ns ts s p (cs++[0])+di ns ts s p (cs++[1])) % p=di ns ts s p cs:=by
 let eq:∀x:Int,di ns ts s p (cs++[x])=((cU (ns.length-(cs.length+1))).map λst=>gI s (ts.map λt=>t.worth ns (cs++[x]++st) p)).sum % p:=λx=>by
  unfold di;rw[fm,nm]
 let e0:di ns ts s p cs=((cU (ns.length-(cs.length+1)+1)).map λst=>gI s (ts.map λt=>t.worth ns (cs++st) p)).sum % p:=by
  unfold di;rw[show ns.length-cs.length=ns.length-(cs.length+1)+1 by omega]
 rw [e0,qQ,eq,eq];let e1:((cU (ns.length-(cs.length+1))).map λst=>gI s (ts.map λt=>t.worth ns (cs++0::st) p)+gI s (ts.map λt=>t.worth ns (cs++1::st) p)).sum
  = ((cU (ns.length-(cs.length+1))).map λst=>gI s (ts.map λt=>t.worth ns (cs++[0]++st) p)).sum+((cU (ns.length-(cs.length+1))).map λst=>gI s (ts.map λt=>t.worth ns (cs++[1]++st) p)).sum:=by
  rw[←Bj]
  congr 1
  apply P9 λst _=>?_
  simp only[Qd,List.singleton_append]
 rw[e1,←w4]
def tI(s:Int){α:Type}(F:Tr->α->Int)(l:List α):∀ts:List Tr,gI s (ts.map λt=>(l.map (F t)).sum)=(l.map λa=>gI s (ts.map λt=>F t a)).sum
 | []=>by
   simp only[Ri,gI]
   induction l with
   |nil=>rfl
   |cons a l b=>simpa using b
 |t::ts=>by
   show(l.map (F t)).sum+s*gI s (ts.map λt=>(l.map (F t)).sum)=_;rw[tI s F l ts];clear tI
   induction l with
   |nil=>simp
   |cons a l b=>
     simp only[lw,rb,gI]at b ⊢
     grind
def Bs{ns:List Str}{cs:List Int}(cl:cs.length=ns.length):di ns ts s p cs=hor s p (ts.map λt=>t.worth ns cs p):=by
 rw[lY];unfold di;rw[cl,Rm]
 simp [cU]
def AW{X:Cx}(K:W.Frag)(hc:X.calm=true)(h:X.K=K:=by rfl):jm X (.builtin "max") (rMax1 K):=by subst h;exact kg hc
def SeqB(d:Bool)(H:Hp)(b:Addr)(c:List V):Prop:=if d=true then H b=some (.lst c)else H b=some (.tup c)
def SeqB.same(h:SeqB c H b d)(s:Same H e):SeqB c e b d:=by
 cases c with
 |true=>exact s _ _ h
 |false=>exact s _ _ h
def SeqB.sq{K:W.Frag}(h:SeqB c H b d):SqB K c H b d:=by
 cases c with
 |true=>exact eH h
 |false=>exact dV h
def II(K:W.Frag)(hl:PE X l tl)(h:X.K=K:=by rfl):PI X b l (iAny K tl):=by subst h;exact Fo hl
instance spLDeg:∀(ca cb:Bool)(a b:Addr)(ns:List Str)(tv:List V)(ts:List Tr),vs=[.ref a,.ref b]->SeqB ca H a (ns.map V.str)->SeqB cb H b tv->TreesAt H tv ts->ns.length<=10->1<=ts.length->ts.length<=10->(∀t∈ts,t.wf/\t.depth<=10/\t.size<=400)->(∀(l:Addr)(H':Hp),H l=none->Same H H'->H' l=some (.lst ((ns.map (bj ts)).map V.int))->Q (.ref l) H'):=1
def vQ:FnScope Wi Wi (aj lI):=%[|5]
def wT(F:#["_law_degrees",lI])(B:Bl mg)(gN:#[12,"_law_names_of",WP,spNO 10]):#[13,f,fd,Wi,spLDeg]:=by
 exists vQ
 erw[C,J,a,b,ns,L,ts,1,ha,hb,TS,n10,t1,t10,tok,q]at h;refine⟨_,(af (au (Fr (N:=["_law_trees"]) (ix:=[1]) rfl
  (CompScopeO.one (by rfl') (λ_ _=>%[by rfl'|by rfl']) rfl ⋯ (by rfl') ⋯ (by rfl') (by rfl') (by rfl') rfl rfl) rfl
  (Fo (pv 0))
  (λ_ _ _=>cu (aG (AW K rfl) rfl B.max Qo (aa (bL (N:=["_law_name"]) (ix:=[0]) rfl
   (CompScope.one (by rfl') ⋯ rfl ⋯ rfl ⋯ (by rfl') (by rfl') (by rfl') (by rfl') (by rfl')) rfl
   (II K (pv 1))
   (λ_ _ _=>cu (Fv K qs PySem.F.slot_list_count PySem.F.type_list_count (vo K) (aq gN hr ⋯ rfl %[0|ae]) %[1|ae]))) ae)))))),?_⟩
 let vl:=TS.length;let t0:ts≠[]:=λz=>by rw[z]at t1;cases t1
 erw[0,C,a,1,%[_|ha.sq],λD hD=>?_];apply yX (K:=K) (c:=C) (xs:=ns.map V.str) (λi e=>e D=some (.lst (((ns.take i).map (bj ts)).map V.int))/\Same H e) %[by rw[ah];rfl|ej hD _] (λi e _ h=>(ha.same h.2).sq) ?_ ?_
 . rintro i z v y ⟨hl,g⟩;let hi:i<(ns.map V.str).length:=(Pl y).1;rw[hI]at y;let%[x,hx|1]:=oe y;erw[0,J,b,1,%[_|(hb.same g).sq],λM m=>?_];apply yX (K:=K) (c:=J) (xs:=L) (λj e=>e M=some (.lst (((ts.take j).map λt=>(t.names.count x:Int)).map V.int))/\Same v e) %[by rw[ah];rfl|ej m _] (λj e _ h=>((hb.same g).same h.2).sq) ?_ ?_
   . rintro j u H3 O ⟨d,n⟩;let%[t,U|Tt]:=TS.get O;let%[tw,td|tz]:=tok t (ms U);let hj:j<L.length:=(Pl O).1;erw[0,u,t,1,Tt.mono (bc (g.trans n)),tw,3,tz,λl H4 l0 Y o=>?_];erw[.inl %[1,_|eH o],0,l,2,eH o,ia _,1,6];rw[uu];erw[_,Y _ _ d,6,Nx.of hj %[6|λb' o' r=>?_]]
     . rw[d8,d8,kr];exact aM #[0]
     . rw[ah,ih,U,fj,fj];rfl
     . rw[az (aN r m)];exact Y _ _ (n _ _ r)
   . rintro H3 ⟨d,n⟩;rw[vl,i0]at d;erw[M,0,eH d,by simpa using t0,6];erw[_,n _ _ hl,6,Nx.of hi %[6|λb' o' r=>?_]]
     . rw[d8,d8,kr];exact aM #[0]
     . rw[ah,ih,hx,fj,fj];rfl
     . rw[az (aN r hD)];exact n _ _ (g _ _ r)
 . rintro v ⟨hl,g⟩;rw[d8,i0]at hl;exact q D v hD g hl
instance spPr54:∀n:Int,vs=[.int n]->2<n->n<=999983->(∀b:Bool,(b=true↔Pr n)->Q (.bl b) H):=1
def q0:FnScope ["_law_number","_law_k"] ["_law_number"] (aj kG):=%[|5]
def uN(F:#["_law_is_prime",kG])(B:Bl mg):#[1,f,fd,["_law_number"],spPr54]:=by
 exists q0
 erw[n,1,o,v,q]at h;refine⟨_,(ad (cR ks rfl (CW rfl B.range %[ag,0|ae]) (ba (i:=1) q0.nd rfl (.inl rfl)) (af (aJ (ai aS (ao aY (pv 0) (pv 1)) ag (ax _)) (af (au je)) aE)))
  (af (au (cJ gq (pv 0) ag (ax _))))),?_⟩
 erw[0,(2),n,1,%[4,4,3|3],eV (n:=(n-2).toNat) (λi σ c=>∃x,σ=[some (.int n),x]/\c=H/\∀k:Int,2<=k->k<2+(i:Int)->n % k≠0) %[0,1|λk a b=>#[0]] ?_ ?_]
 . rintro i σ c r ⟨x,rfl,rfl,u⟩;let t:i<(n-2).toNat:=r;erw[0,0,2,(show(0:Int)<2+(i:Int) by omega),1,0,6];apply AL (λd=>?_) (λd=>?_)
   . let g:=V.int.inj (y3 d);exact q false %[λz=>(nomatch z)|λz=>(Fk z #[0] #[0] #[0] (L1 g)).elim]
   . let g:=of_decide_eq_false (Bool.eq_false_iff.mpr d);erw[0,1,λk a b=>?_]
     by_cases e:k=2+(i:Int)
     . subst e;exact λz=>g (congrArg V.int z)
     . exact u k a #[0]
 . rintro σ c ⟨x,rfl,rfl,u⟩;erw[0,2,6];show Q (.bl (decide (2<n))) c;rw[show decide (2<n)=true from ft o];apply q true ⟨λ_=>%[3|λj m y C=>?_],λ_=>rfl⟩;let jn:j<n:=by
    have:2*j<=j*j:=Rp m #[0]
    omega
   exact u j m #[0]
instance spFd54:∀m:Int,vs=[.int m]->2<=m->m<=900000->(∀p:Int,Pr p->m<p->(∀c:Int,Pr c->m<c->p<=c)->Q (.int p) H):=1
def o7:FnScope ["_law_need","_law_number"] ["_law_need"] (aj qk):=%[|5]
def Al(F:#["_law_field",qk])(o:#[1,"_law_is_prime",["_law_number"],spPr54]):#[2,f,fd,["_law_need"],spFd54]:=by
 exists o7
 erw[m,1,m2,v,q]at h;refine⟨_,(ad #[am,1,o7,ao aV (pv 0) ag]
  (ad (iq ks (iE (dP (aq o hr ⋯ rfl %[1|ae]))) (af #[am,1,o7,ao aV (pv 1) ag]))
  (af (au (pv 1))))),?_⟩
 erw[0,2,6];erw[λg σ j=>∃n:Int,σ=[some (.int m),some (.int n)]/\j=H/\m<n/\(∀c:Int,Pr c->m<c->n<=c)/\g=(999983-n).toNat,%[_,m+1,1,1,3,λc _ h=>by omega|1],6];rintro g σ j ⟨n,rfl,rfl,r,e,rfl⟩;let t:=e 999983 vf #[0];erw[0,n,1,3,t,λb hb=>%[b,1|6]];cases b with
 |true=>
   apply cQ ?_;erw[0,q n (hb.mp rfl) r e]
 |false=>
   apply eF ?_;erw[_,λ_ _ h=>h,6];let ne:∀c:Int,Pr c->n≠c:=λc d z=>by
    subst z;exact nomatch hb.mpr d
   let u:=ne _ vf;erw[0,2,6];erw[_,3,n+1,1,1,3,λc d h=>by have:=e c d h;have:=ne c d;omega,1]
def i4:FnScope ["_law_field_here","_law_coins","_law_many","_law_k"] WO (aj lH):=%[|5]
def wS(F:#["_law_rows_in",lH])(B:Bl mg):#[1,f,fd,WO,spPow]:=by
 exists i4
 erw[x,k,1,e,g,j,m,q]at h;refine⟨_,(ad #[am,2,i4,ag]
  (ad (cR ks rfl (bK rfl B.range %[1|ae]) (ba (i:=3) i4.nd rfl (.inl rfl)) (af #[am,2,i4,ao bN (pv 2) (pv 0)]))
  (af (au (pv 2))))),?_⟩
 erw[0,k,1,3,3,eV (n:=k.toNat) (λi σ c=>∃b:Option V,σ=[some (.int x),some (.int k),some (.int (x ^ i)),b]/\c=H) %[none,by rw[QD];rfl|1] ?_ ?_]
 . rintro i σ d o ⟨b,rfl,rfl⟩;erw[0,0,2,.inr %[3|3],6];erw[some (.int (0+(i:Int))),6,1];rw[rc];rfl
 . rintro σ d ⟨b,rfl,rfl⟩;erw[0,q]
def zx:List Str:=["not","and","or","odd","same"]
def yK{o:Str}(h:o∈joinW):o∈zx:=mj _ h
def Tr.without(x:Str):Tr->Tr
 |.is y=>if y=x then .no else .is y
 |.yes=>.yes
 |.no=>.no
 |.not a=>.not (a.without x)
 |.bin w a b=>.bin w (a.without x) (b.without x)
def rK(x:Str):∀t:Tr,(t.without x).size=t.size
 |.is y=>by unfold Tr.without;split <;> rfl
 |.yes=>rfl
 |.no=>rfl
 |.not a=>by show(a.without x).size+1=a.size+1;rw[rK x a]
 |.bin w a b=>by show(a.without x).size+(b.without x).size+1=_;rw[rK x a,rK x b];rfl
def oO(x:Str):∀t:Tr,(t.without x).depth=t.depth
 |.is y=>by unfold Tr.without;split <;> rfl
 |.yes=>rfl
 |.no=>rfl
 |.not a=>by show(a.without x).depth+1=a.depth+1;rw[oO x a]
 |.bin w a b=>by show max (a.without x).depth (b.without x).depth+1=_;rw[oO x a,oO x b];rfl
def Be{ns:List Str}{x:Str}:∀t:Tr,t.ok (ns++[x])->(t.without x).ok ns
 |.is y,h=>by
   unfold Tr.without
   split
   . trivial
   . rename_i c;let h:y∈ns++[x]:=h;rcases qO0 h with h | h
     . exact h
     . exact absurd (Pn h) c
 |.yes,_=>trivial
 |.no,_=>trivial
 |.not a,h=>Be a h
 |.bin w a b,⟨h1,h2,h3⟩=>%[h1,Be a h2|Be b h3]
def xw(o:Str):inV (.str o) [.str "yes",.str "no",.str "is"]=(decide (o="yes")||(decide (o="no")||decide (o="is"))):=by
 show (("yes"==o)||(("no"==o)||(("is"==o)||false)))=_;rw[Rc];let e:∀z:Str,(z==o)=decide (o=z):=λz=>by
  by_cases c:o=z
  . subst c;simp
  . rw[fw c];simpa using λh=>c h.symm
 rw[e,e,e]
def Jm{o:Str}(h:o∈zx):inV (.str o) [.str "yes",.str "no",.str "is"]=false:=by
 rw[xw,fw,fw,fw]
 . rfl
 . intro z;subst z;revert h;decide
 . intro z;subst z;revert h;decide
 . intro z;subst z;revert h;decide
def isD(x:Str):Tr->Bool
 |.is y=>decide (y=x)
 |_=>false
def Lc(t:Tr)(x:Str)(w:t.wf):PyData.eqv t.data (.tuple [.str "is",.str x])=isD x t:=by
 cases t with
 |is y=>
   simp only[Tr.data,PyData.eqv,PyData.eqvAll,isD,Bool.and_true]
   by_cases c:y=x
   . subst c;simp
   . simp [c]
 |yes=>simp [Tr.data,PyData.eqv,PyData.eqvAll,isD]
 |no=>simp [Tr.data,PyData.eqv,PyData.eqvAll,isD]
 |not a=>
   have:(("not":Str)=="is")=false:=by decide
   simp only[Tr.data,PyData.eqv,PyData.eqvAll,isD,this,Bool.false_and]
 |bin o a b=>simp [Tr.data,PyData.eqv,PyData.eqvAll,isD]
def qP{t:Tr}(w:t.wf)(d:t.depth<=20):SeqAt.shaped t.data=true:=by
 let h:=rZ t w;simp only[SeqAt.shaped,h.1,Bool.true_and];exact ft #[0]
def zK(h:qJ x):SeqAt.shaped (.tuple [.str "is",.str x])=true:=qP (t:=.is x) h (by show 1<=20;decide)
instance spWo(n:Nat):∀(v:V)(t:Tr)(x:Str),vs=[v,.str x]->TreeAt H v t->t.wf->qJ x->t.depth<=n->t.depth<=10->(∀(v':V)(H':Hp),Same H H'->TreeAt H' v' (t.without x)->Q v' H'):=1
def vP:FnScope WS WS (aj ju):=%[|5]
def Hy(o:V):∀us:List V,us≠[]->nK (o::us) none (some 1)=[o]/\¬ (HT.sIx (o::us).length 0 none=0/\HT.sIx (o::us).length (o::us).length (some 1)=(o::us).length)
 | [],h=>absurd rfl h
 |u::us,_=>by
   let e:HT.sIx (o::u::us).length (o::u::us).length (some 1)=1:=by
    let h:=HT.sIx_nat (o::u::us).length (o::u::us).length 1;rw[f5,f5,Nat.min_eq_left #[0]]at h;exact h
   erw[6,λz=>?_]
   . unfold nK;rw[HT.sIx_none,e];rfl
   . rw[e,f5,f5]at z;omega
def Ic{H:Hp}{a:Addr}{o:Str}{t:Tr}{us:List V}(h:∃xs,t.parts.length=xs/\1<=xs)(c:(∃r,t=.not r/\o="not")∨∃r b,t=.bin o r b)(ha:H a=some (.tup (.str o::us)))(TS:TreesAt H us (t.parts.map (Tr.without x))):TreeAt H (.ref a) (t.without x):=by
 rcases c with⟨r,rfl,rfl⟩ | ⟨r,b,rfl⟩
 . cases TS with
   |cons g r=>cases r;exact .not ha g
 . cases TS with
   | cons g r=>cases r with
     |cons d r=>cases r;exact .bin ha g d
def Ib{n:Nat}(F:#["_law_without",ju])(B:Bl mg)(ib:#[n+2,"_law_without",WS,spWo n]):#[n+3,f,fd,WS,spWo (n+1)]:=by
 exists vP
 erw[v,t,x,1,T,wf,nx,dn,aw,q]at h;refine⟨_,(ad (aJ (ai (oI hr.units) (pv 0) (aR %[aI,1|ae]) (ax _)) (af (au (aR %[aI|ae]))) aE)
  (ad (aJ (ai fK (aO ix_tup (pv 0) ag #[1]) (aR %[aI,aI,aI|ae]) (by rfl')) (af (au (pv 0))) aE)
  (af (au (ao op_catT (gn sJ (pv 0) kQ (gl ag)) (aX bq rfl B.tuple cw (aa (bL (N:=["_law_name"]) (ix:=[1]) rfl
   #[3] rfl
   (iF (gn sJ (pv 0) (gl ag) kQ)) (λ_ _ _=>cu (aq ib hr (eS _) rfl %[0,1|ae]))) ae))))))),?_⟩
 erw[0,0,y2S,λc hc=>?_];let C:=ej hc (.tup [.str "is",.str x]);let g1:upd H c (.tup [.str "is",.str x]) c=some (.tup [.str "is",.str x]):=ah;generalize upd H c (.tup [.str "is",.str x])=O at C g1;let T1:=T.mono (bc C);erw[t.data,.tuple [.str "is",.str x],Fd T1,.tup (dV g1) (.cons (.str _) (.cons (.str _) .nil)),qP wf #[0],zK nx,0,6];rw[Lc t x wf];let cs:t=.is x∨(∃(a:Addr) (o:Str) (us:List V),v=.ref a/\O a=some (.tup (.str o::us))/\inV (.str o) [.str "yes",.str "no",.str "is"]=true/\t.without x=t/\isD x t=false)∨(∃(a:Addr) (o:Str) (us:List V),v=.ref a/\O a=some (.tup (.str o::us))/\o∈zx/\us.length<=2/\us≠[]/\TreesAt O us t.parts/\((∃r,t=.not r/\o="not")∨∃r r2,t=.bin o r r2)/\isD x t=false):=by
  cases id T1 with
  | @is a y e=>
    by_cases c:y=x
    . exact .inl (by rw[c])
    . exact .inr (.inl %[a,"is",0,e,by rw[xw];decide,Pd c|fw c])
  | @yes a e=>exact .inr (.inl %[a,"yes",0,e,by rw[xw];decide,1|1])
  | @no a e=>exact .inr (.inl %[a,"no",0,e,by rw[xw];decide,1|1])
  | @not a u r e g=>exact .inr (.inr %[a,"not",[u],1,e,4,(by show 1<=2;decide),by simp,.cons g .nil,.inl %[r,1|1]|1])
  | @bin a o u u2 r r2 e g g2=>exact .inr (.inr %[a,o,[u,u2],1,e,yK wf.1,(by show 2<=2;decide),by simp,.cons g (.cons g2 .nil),.inr %[r,r2|1]|1])
 rcases cs with rfl | ⟨a,o,us,rfl,e2,e3,e4,eD⟩ | ⟨a,o,us,rfl,e2,om,ul,U,ab,nt,eD⟩
 . rw[show isD x (.is x)=true from ft rfl];apply eF %[y1S|λz Y=>q (.ref z) _ (C.trans (ej Y _)) ?_];rw[show(Tr.is x).without x=.no from Pe rfl];exact .no ah
 . rw [eD];apply cQ ?_;erw[0,a,_,(0),.str o,1,1,dV e2,at0 ..,y3S,λc2 d=>?_];let m:=ej d (.tup [.str "yes",.str "no",.str "is"]);erw[c2,0,.inr (dV ah),1,1,0,6];show if inV (.str o) [.str "yes",.str "no",.str "is"]=true then _ else _
   rw[e3];apply eF %[0|q _ _ (C.trans m) ?_];rw[e4];exact T1.mono (bc m)
 . rw [eD];apply cQ ?_;erw[0,a,_,(0),.str o,1,1,dV e2,at0 ..,y3S,λc2 d=>?_];let m:=ej d (.tup [.str "yes",.str "no",.str "is"]);erw[c2,0,.inr (dV ah),1,1,0,6];show if inV (.str o) [.str "yes",.str "no",.str "is"]=true then _ else _
   rw[Jm om];apply cQ ?_;generalize upd O c2 (.tup [.str "yes",.str "no",.str "is"])=H2 at m;erw[0,(1),1,a,0,dV (m _ _ e2),(Hy (.str o) us U).2,λc3 ac=>?_];rw[(Hy (.str o) us U).1];let I3:=ej ac (.tup [.str o]);let g3:upd H2 c3 (.tup [.str o]) c3=some (.tup [.str o]):=ah;generalize upd H2 c3 (.tup [.str o])=H3 at I3 g3;let j:=m.trans I3;let%[w1|w2]:=Ln (.str o) us ul;erw[0,(1),1,a,0,dV (j _ _ e2),w2,λc4 an=>?_];rw[w1];let I4:=ej an (.tup us);let g4:upd H3 c4 (.tup us) c4=some (.tup us):=ah;generalize upd H3 c4 (.tup us)=H4 at I4 g4;let ap:=j.trans I4;let TS:=ab.mono (bc ap);let xl:=TS.length;erw[c4,1,%[_|dV g4],λD hD=>?_];apply gy (K:=K) (xs:=us) (λi H'=>∃vs:List V,H' D=some (.lst vs)/\vs.length=i/\TreesAt H' vs ((t.parts.take i).map (Tr.without x))/\Same H4 H') %[[],by rw[ah],1,.nil|ej hD _] (λi H' _ Pi=>by erw[_,_,_,_,h]at Pi;exact dV (h _ _ g4)) ?_ ?_
   . rintro i z H5 Y ⟨vs,hl,vl,TV,J⟩;let%[u,L|Tu]:=TS.get Y;let um:=ms L;let%[uw,ud|aA]:=Tr.parts_mem um wf;let hi:i<us.length:=(Pl Y).1;erw[0,0,z,u,x,1,Tu.mono (bc J),uw,nx,3,3,λv' H6 S6 T6=>?_];let M:=S6 _ _ hl;let k7:=eU (H:=H6) (b:=D) (ys:=vs) (zs:=vs++[v']) M;erw[_,M,aM #[0],Nx.of hi ⟨vs++[v'],ah,by rw[fm,vl];rfl,?_,λb' o' e'=>?_⟩]
     . rw[ih,L,fj];exact((TV.mono (bc S6)).mono k7).append (.cons (T6.mono k7) .nil)
     . rw[az (aN e' hD)];exact S6 _ _ (J _ _ e')
   . rintro H5 ⟨vs,hl,vl,TV,J⟩;rw[xl,i0]at TV;erw[D,0,.inl %[eH hl|λc6 ar=>?_]];let I6:=ej ar (.tup vs);let g6:upd H5 c6 (.tup vs) c6=some (.tup vs):=ah;generalize upd H5 c6 (.tup vs)=H6 at I6 g6;let v0:vs≠[]:=λz=>by
      rw[z]at vl;exact U (List.eq_nil_of_length_eq_zero vl.symm)
     let as:Same H3 H6:=I4.trans (J.trans I6);erw[c3,c6,2,dV (as _ _ g3),dV g6,by simp,cx (by show 1+vs.length<=1000;omega),λz=>absurd z v0,λ_ t7 av=>?_];let I7:=ej av (.tup ([.str o]++vs));apply q (.ref t7) _ (C.trans (j.trans (I4.trans (J.trans (I6.trans I7))))) ?_;exact Ic ⟨_,rfl,by rw[←xl];cases us with | nil=>exact absurd rfl U | cons _ _=>exact nw (i1 _)⟩ nt (by rw[ah];rfl) ((TV.mono (bc I6)).mono (bc I7))
def Ia:#[2,f,fd,WS,spWo 0]:=by
 let no:∀vs H Q E,¬ spWo 0 vs H Q E:=λvs H Q E h=>by
  erw[v,t,x,_,_,_,_,h1,_]at h
  have:=t.depth_pos
  omega
 exists 3
def pI(F:#["_law_without",ju])(m:mg "_law_without"=some (.ref f))(B:Bl mg):
 ∀n:Nat,#[n+2,f,fd,WS,spWo n]
 |0=>Ia
 |n+1=>Ib F B (Cal.of F (pI F m B n) m (λ_ _ _ _ _ _ us hl=>by let%[b,c|1]:=GE hl;rfl))
structure SmallG(ns:List Str)(ts:List Tr)(p:Int):Prop where
 nl:ns.length<=3
 nok:∀x∈ns,qJ x
 nd:ns.Nodup
 t1:1<=ts.length
 t4:ts.length<=3
 tok:∀t∈ts,t.ok ns/\t.depth<=9/\t.size<=8
 pp:Pr p
 p2:2<p
 p9:p<=61
 tp:(ts.length:Int)<=p
 tc:∀t∈ts,∀x∈ns,(t.names.count x:Int)<p
def SmallG.wf{ns:List Str}{ts:List Tr}(nok:∀x∈ns,qJ x)(tok:∀t∈ts,t.ok ns/\t.depth<=9/\t.size<=8):∀t∈ts,t.wf/\t.depth<=10/\t.size<=400:=λt b=>%[Tr.ok_wf nok t (tok t b).1,by have:=(tok t b).2.1;omega|by have:=(tok t b).2.2;omega]
def Kf{ns:List Str}{x:Str}{ts:List Tr}(tok:∀t∈ts,t.ok (ns++[x])/\t.depth<=9/\t.size<=8):∀t∈ts.map (Tr.without x),t.ok ns/\t.depth<=9/\t.size<=8:=λt b=>by
 let%[u,c|1]:=List.mem_map.mp b;let%[h1,h2|h3]:=tok u c;erw[Be u h1,by rw[oO];exact h2,by rw[rK];exact h3]
def Hx(xs:List V)(a:V):nK (xs++[a]) none (some (-1))=xs:=by
 simp only[nK,HT.sIx,fm,f5,ni];let e:(-1+(((xs.length+(0+1):Nat)):Int)).toNat=xs.length:=#[0]
 simp
 let e2:(-1+((xs.length:Int)+1)).toNat=xs.length:=#[0]
 rw[e2]
 simp
def Jz(xs:List V)(a:V):atI (xs++[a]) (-1)=some a:=by
 unfold atI ixN;rw[fm,nm];let e2:(-1+(((xs.length+1:Nat)):Int)).toNat=xs.length:=#[0]
 rw[Pd ⋯,Pe #[0],e2];show(xs++[a])[xs.length]?=some a
 simp
def BB{ns:List Str}{ts:List Tr}{m:Int}(t1:1<=ts.length)(o:ts.length<=3)(tok:∀t∈ts,t.ok ns/\t.depth<=9/\t.size<=8)(e:Az (ns.map (bj ts)++[2,(ts.length:Int)-1]) 0=m):2<=m/\m<=8/\(ns=[]->m=2)/\(ts.length:Int)<=m+1/\∀t∈ts,∀x∈ns,(t.names.count x:Int)<=m:=by
 let d:ts≠[]:=λz=>by rw[z]at t1;cases t1
 let g:∀x,bj ts x<9:=λx=>mf d λt b=>by
  let h1:=QS (a:=x) (l:=t.names);let h2:=t.names_len;let h3:=(tok t b).2.2;omega
 let ge:∀z∈ns.map (bj ts)++[2,(ts.length:Int)-1],z<=m:=λz j=>by rw[←e];exact xj j
 let c:=jS (ns:=ns.map (bj ts)++[2,(ts.length:Int)-1]) #[2];rw[e]at c;let m2:=ge 2 #[2];let ml:=ge ((ts.length:Int)-1) #[2];erw[m2,6,λz=>?_,3,λt b x n=>?_]
 . rcases qO0 c with h | h
   . let%[x,_|1]:=List.mem_map.mp h
     have:=g x
     omega
   . simp only[E2,zi,Fj]at h;omega
 . subst z;simp only[Ri,Q2,E2,zi,Fj]at c;omega
 . let h1:=ge (bj ts x) (QO _ (List.mem_map.mpr %[x,n|1]));let h2:(t.names.count x:Int)<=bj ts x:=xj (List.mem_map.mpr ⟨t,b,rfl⟩);omega
def pr_3:Pr 3:=mV ⋯
def pr_5:Pr 5:=mV ⋯
def pr_7:Pr 7:=mV ⋯
def JN:Pr 11:=mV ⋯
def JM:Pr 61:=mV ⋯
instance spSmall:∀(f:Addr)(most:Int),vs=[.ref f,.int most]->FeedAt H f->20<=most->most<=60->(∀(g a b:Addr)(ns:List Str)(tv:List V)(ts:List Tr)(p:Int)(H':Hp),H' g=some (.tup [.ref a,.ref b,.int p])->H' a=some (.tup (ns.map V.str))->H' b=some (.tup tv)->TreesAt H' tv ts->SmallG ns ts p->p ^ bm ns ts<=60->SameBut f H H'->Q (.ref g) H'):=1
def dZ:FnScope ["_law_feed_here","_law_most_here","_law_names_here","_law_trees","_law_field_here","_law_k"] Wx (aj qi):=%[|5]
instance tS54(K:W.Frag)(Dn:Ends)(σ:St)(H:Hp):∀(f na ta:Addr)(most p:Int)(ns:List Str)(tv:List V)(ts:List Tr)(x5:Option V)(H0:Hp),σ=[some (.ref f),some (.int most),some (.ref na),some (.ref ta),some (.int p),x5]->FeedAt H f->20<=most->most<=60->H na=some (.lst (ns.map V.str))->H ta=some (.lst tv)->na≠f->ta≠f->TreesAt H tv ts->SmallG ns ts p->p<=11->(ns=[]->p<=3)->SameBut f H0 H->(∀(g a b:Addr)(ns:List Str)(tv:List V)(ts:List Tr)(p:Int)(H':Hp),H' g=some (.tup [.ref a,.ref b,.int p])->H' a=some (.tup (ns.map V.str))->H' b=some (.tup tv)->TreesAt H' tv ts->SmallG ns ts p->p ^ bm ns ts<=60->SameBut f H0 H'->Dn.rt (.ref g) H'):=0
def uy{ns:List Str}{ts:List Tr}{b:List V}(t1:1<=ts.length)(d:b.length=ts.length):(((ns.map V.str).length:Nat):Int)+(if decide ((b.length:Int)>1)=true then 1 else 0)=(bm ns ts:Int):=by
 rw[d8,d];unfold bm
 by_cases c:ts.length=1
 . rw[Pe c,Pd (by rw[fw #[0]];decide)];omega
 . rw[Pd c,Pe (ft #[0])];omega
inductive ISm(f:Addr)(most:Int)(x5:Option V)(H0:Hp)(mm:Nat)(σ:St)(M:Hp):Prop where|mk:∀(na ta:Addr)(p:Int)(ns:List Str)(m:List V)(ts:List Tr),(σ=[some (.ref f),some (.int most),some (.ref na),some (.ref ta),some (.int p),x5])->(FeedAt M f)->(M na=some (.lst (ns.map V.str)))->(M ta=some (.lst m))->(na≠f)->(ta≠f)->(TreesAt M m ts)->(SmallG ns ts p)->(p<=11)->((ns=[]->p<=3))->(SameBut f H0 M)->(mm=ns.length)->ISm f most x5 H0 mm σ M
inductive ISn(f na ta:Addr)(most:Int)(ns:List Str)(ts:List Tr)(H2:Hp)(i:Nat)(σ:St)(M:Hp):Prop where|mk:∀(p:Int)(x5:Option V),(σ=[some (.ref f),some (.int most),some (.ref na),some (.ref ta),some (.int p),x5])->(M=H2)->(SmallG ns ts p)->(p ^ bm ns ts<=most)->((bm ns ts=0->p<=3+2*(i:Int)))->ISn f na ta most ns ts H2 i σ M
inductive ISo(f D:Addr)(ns:List Str)(H3:Hp)(i:Nat)(M:Hp):Prop where|mk:∀(m:List V)(ts:List Tr),(M D=some (.lst m))->(TreesAt M m ts)->(ts.length=i)->((∀t∈ts,t.ok ns/\t.depth<=9/\t.size<=8))->(FeedAt M f)->(SameBut f H3 M)->ISo f D ns H3 i M
def Ah(F:#["_law_small",qi])(B:Bl mg)(aP:#[1,"_law_take",WH,spTake])(sN:#[2,"_law_names",WH,spNamesN])
 (iy:#[12,"_law_tree",WT,spTree 10])(gi:#[13,"_law_degrees",Wi,spLDeg])(iK:#[2,"_law_field",["_law_need"],spFd54])(b9:#[1,"_law_rows_in",WO,spPow])(ib:#[12,"_law_without",WS,spWo 10]):#[14,f,fd,Wx,spSmall]:=by
 exists dZ
 erw[f,most,1,hF,bn,bo,q]at h;let s2:2<=sizeLine:=by decide
 refine⟨_,(ad (am (i:=2) dZ.nd rfl (Or.inr rfl) (aq sN hr ⋯ rfl %[0,aq aP hr ⋯ rfl %[0,ag|ae]|ae]))
  (ad (kP (i:=3) (N:=["_law_names_here","_law_feed_here"]) (ix:=[2,0]) dZ.nd rfl (.inl rfl) rfl
   #[4] rfl
   (bK rfl B.range %[aO ix_list (bY %[ag,ag,ag,ag|ae]) (aq aP hr ⋯ rfl %[0,ag|ae]) #[1]|ae])
   (λ_ _ _=>cu (aq iy hr ⋯ rfl %[2,1,ao aV ag (aq aP hr ⋯ rfl %[2,ag|ae]),ag|ae])))
  (ad #[am,4,dZ,aq iK hr ⋯ rfl %[aG (kg rfl) rfl B.max Qo %[ao jI (aq gi hr ⋯ rfl %[2,3|ae]) (bY %[ag,ao bi (aG aD rfl B.len fx %[3|ae]) ag|ae])|ae]|ae]]
  (ig (t':=tS54 K) (ad (iq ks (ai gq (aq b9 hr ⋯ rfl %[4,ao aV (aG aD rfl B.len fx %[2|ae]) (aX qH rfl B.int iS %[cJ gq (aG aD rfl B.len fx %[3|ae]) ag (ax _)|ae])|ae]) (pv 1) (ax _)) (ad (kP (i:=3) (N:=["_law_names_here"]) (ix:=[2]) dZ.nd rfl (.inl rfl) rfl
   #[3] rfl
   (cI (pv 3)) (λ_ _ _=>cu (aq ib hr ⋯ rfl %[0,aO (yL K) (pv 1) (ye su ag) #[1]|ae])))
   (ad (am (i:=2) dZ.nd rfl (Or.inr rfl) (gn Ix (pv 2) kQ (gl (ye su ag))))
   (af #[am,4,dZ,aq iK hr ⋯ rfl %[aG (kg rfl) rfl B.max Qo %[ao jI (aq gi hr ⋯ rfl %[2,3|ae]) (bY %[ag,ao bi (aG aD rfl B.len fx %[3|ae]) ag|ae])|ae]|ae]]))))
  (ad (cR ks rfl (bK rfl B.range %[aq aP hr ⋯ rfl %[0,ag|ae]|ae]) (ba (i:=5) dZ.nd rfl (.inl rfl)) (af (aJ (ai vj (aq b9 hr ⋯ rfl %[aq iK hr ⋯ rfl %[4|ae],ao aV (aG aD rfl B.len fx %[2|ae]) (aX qH rfl B.int iS %[cJ gq (aG aD rfl B.len fx %[3|ae]) ag (ax _)|ae])|ae]) (pv 1) (ax _)) (af #[am,4,dZ,aq iK hr ⋯ rfl %[4|ae]]) aE)))
  (af (au (aR %[aX bq rfl B.tuple cw %[2|ae],aX bq rfl B.tuple cw %[3|ae],4|ae]))))) ?cS)))),?_⟩
 case cS =>
  rintro Dn σ H ⟨f,na,ta,most,p,ns,m,ts,x5,H0,rfl,FH,bn,bo,J,L,aH,aK,TS,SG,C,p3,S0,q⟩;erw[ISm f most x5 H0,%[_,na,ta,p,ns,m,ts,1,FH,J,L,aH,aK,TS,SG,C,p3,S0|1],6];clear J L aH aK TS SG C p3 S0 FH;rintro mm σ M ⟨na,ta,p,ns,m,ts,rfl,FH,J,L,aH,aK,TS,SG,C,p3,S0,rfl⟩;let p2:=SG.p2;let t1:=SG.t1;let t4:=SG.t4;let n5:=SG.nl;let vl:=TS.length;let cn:bm ns ts<=4:=by unfold bm;split <;> omega
  erw[0,0,na,0,.inl (eH J),0,ta,0,.inl (eH L),2,.inr %[0,2,p,(bm ns ts:Int),by rw[←uy t1 vl];rfl,3,3,3,3|6]];rw[pu];erw[0,2,0,6]
  by_cases c1:p ^ bm ns ts>most
  . apply aZ c1 ?_;erw[_,λ_ _ h=>h,6];let nz:ns≠[]:=λz=>by
     have:=p3 z
     let e:bm ns ts=0∨bm ns ts=1:=by unfold bm;rw[z];split;exact .inl rfl;exact .inr rfl
     rcases e with e | e
     . rw[e,QD]at c1;omega
     . rw[e,rc,QD]at c1;omega
    obtain⟨c,x,rfl⟩:∃c x,ns=c++[x]:=%[ns.dropLast,ns.getLast nz|(List.dropLast_concat_getLast nz).symm]
    let aT:∀y∈c,qJ y:=λy hy=>SG.nok y (QO _ hy)
    let nx:qJ x:=SG.nok x (xn _ (List.mem_singleton.mpr rfl));let bH:=SmallG.wf SG.nok SG.tok;erw[0,ta,1,%[_|eH L],λD hD=>?_];apply cW (K:=K) (xs:=m) (λu H2=>∃vs:List V,H2 D=some (.lst vs)/\TreesAt H2 vs ((ts.take u).map (Tr.without x))/\vs.length=u/\Same M H2) %[[],ah,.nil,1|ej hD _] (λu M _ Pi=>by erw[_,_,_,_,h]at Pi;exact eH (h _ _ L)) ?_ ?_
    . rintro u y H7 hy ⟨vs,a8,TV,br,S7⟩;let%[t,ht|Tt]:=TS.get hy;let tm:=ms ht;let%[tw,td|_]:=bH t tm;let hu:u<m.length:=(Pl hy).1;erw[0,0,(1),1,na,_,(-1),0,1,eH (S7 _ _ J),6,y,t,x,1,Tt.mono (bc S7),tw,nx,td,td,λv' H8 S8 T8=>?_]
      . rw[fj];exact Jz _ _
      let Y:=S8 _ _ a8;let k9:=eU (H:=H8) (b:=D) (ys:=vs) (zs:=vs++[v']) Y;erw[_,Y,aM #[0],Nx.of hu ⟨vs++[v'],ah,?_,by rw[fm,br];rfl,λb' o' e'=>?_⟩]
      . rw[ih,ht,fj];exact((TV.mono (bc S8)).mono k9).append (.cons (T8.mono k9) .nil)
      . rw[az (aN e' hD)];exact S8 _ _ (S7 _ _ e')
    rintro H7 ⟨vs,a8,TV,br,S7⟩;rw[vl,i0]at TV;erw[0,(1),1,(-1),1,na,0,eH (S7 _ _ J),λnb bv=>?_];rw[fj,List.map_singleton,Hx];let I8:=ej bv (.lst (c.map V.str));let g8:upd H7 nb (.lst (c.map V.str)) nb=some (.lst (c.map V.str)):=ah;let bI:=(FH.same S7).ne bv;generalize upd H7 nb (.lst (c.map V.str))=H8 at I8 g8;let Df:=FH.ne hD;let ab:=Kf SG.tok;let ci:(ts.map (Tr.without x)).length=ts.length:=d8 _;let bM:(c++[x]).length=c.length+1:=by rw[fm,nm]
    let Y:=I8 _ _ a8;let a9:=TV.mono (bc I8);erw[0,0,true,true,nb,D,c,vs,(ts.map (Tr.without x)),1,g8,Y,a9,3,3,3,(SmallG.wf aT ab),λl1 G1 bP ac bb=>?_];erw[0,D,0,.inl (eH (ac _ _ Y)),2,s2,λl2 be=>?_];let O:=ej be (.lst [.int 2,.int ((vs.length:Nat)-1:Int)]);let an:upd G1 l2 (.lst [.int 2,.int ((vs.length:Nat)-1:Int)]) l2=_:=ah;generalize upd G1 l2 (.lst [.int 2,.int ((vs.length:Nat)-1:Int)])=G2 at O an;erw[l1,l2,2,O _ _ bb,an,6,λl3 ap=>?_]
    . rw[d8,d8];exact cx (by show c.length+2<=1000;omega)
    let ar:=ej ap (.lst ((c.map (bj (ts.map (Tr.without x)))).map V.int++[.int 2,.int ((vs.length:Nat)-1:Int)]));let as:upd G2 l3 (.lst ((c.map (bj (ts.map (Tr.without x)))).map V.int++[.int 2,.int ((vs.length:Nat)-1:Int)])) l3=some (.lst ((c.map (bj (ts.map (Tr.without x)))++[2,((ts.map (Tr.without x)).length:Int)-1]).map V.int)):=by
     rw[ah,fj,a9.length];rfl
    generalize upd G2 l3 (.lst ((c.map (bj (ts.map (Tr.without x)))).map V.int++[.int 2,.int ((vs.length:Nat)-1:Int)]))=G3 at ar as;let r:=ac.trans (O.trans ar);erw[l3,0,eH as,by simp,6];let%[m2,m8,me,mt|mc]:=BB #[0] #[0] ab rfl;erw[0,m2,3,λp pp mp pc=>?_];let C:=pc 11 JN #[0];let bR:=I8.trans r;let bx:=S7.trans bR;erw[_,by rw[bM];omega,nb,D,p,c,vs,ts.map (Tr.without x),1,FH.same bx,r _ _ g8,r _ _ Y,bI,Df,a9.mono (bc r),%[3,aT,(List.nodup_append.mp SG.nd).1,3,3,ab,pp,3,3,3|λt ht y hy=>by have:=mc t ht y hy;omega],C,λe=>pc 3 pr_3 (by have:=me e;omega),S0.trans (fy bx),1]
  . apply aF c1 ?_;erw[0,f,(3),1,FH,4,4,λd H2 d0 d3 F2 B2=>?_];let a0:=B2 _ _ aH J;let a7:=B2 _ _ aK L;let bS:=TS.mono (ji FH B2);let bf:=S0.trans B2;erw[d,1,3,3,eV (ISn f na ta most ns ts H2) %[p,0,1,SG,3|λe=>?_] ?_ ?_]
    . have:ns=[]:=by
       unfold bm at e
       split at e
       . exact List.length_eq_zero_iff.mp e
       . omega
      have:=p3 this
      omega
    . clear p2 C p3 SG c1;rintro i σ H3 hi ⟨p,x5,rfl,rfl,SG,c1,ce⟩;let bT:i<d.toNat:=hi;let cj:d<3:=d3;let p2:=SG.p2;let p9:=SG.p9;erw[0,p,1,3,3,λp' bA bU av=>?_];let bW:1<=bm ns ts->p<=60:=λh=>by
       obtain⟨n,e⟩:∃n,bm ns ts=n+1:=%[bm ns ts-1|3]
       rw[e,rc]at c1;let h1:0<p ^ n:=Int.pow_pos #[0];let h2:=Rp (show 1<=p ^ n by omega) (show 0<=p by omega);omega
      let b0:p'<=61:=by
       by_cases c0:bm ns ts=0
       . have:=ce c0
         have:=av 61 JM #[0]
         omega
       . have:=bW #[0]
         exact av 61 JM #[0]
      erw[0,na,0,.inl (eH a0),0,ta,0,.inl (eH a7),2,.inr %[0,2,p',(bm ns ts:Int),by rw[←uy t1 vl];rfl,3,3,3,3|6]];rw[pu];erw[0,2,0,6]
      by_cases c2:p' ^ bm ns ts<=most
      . apply aZ c2 ?_;erw[0,p,1,3,3,λaL bB bC bD=>?_];let e:aL=p':=by
         have:=bD p' bA bU
         have:=av aL bB bC
         omega
        subst e;let b1:bm ns ts=0->aL<=3+2*((i+1:Nat):Int):=λc0=>by
         have:=ce c0
         by_cases c3:p<=3
         . have:=av 5 pr_5 #[0]
           omega
         . have:=av 7 pr_7 #[0]
           omega
        erw[aL,0,1,%[SG.nl,SG.nok,SG.nd,SG.t1,SG.t4,SG.tok,bA,3,b0,by have:=SG.tp;omega|λt ht y hy=>by have:=SG.tc t ht y hy;omega],c2,b1]
      . exact aF c2 %[p,0,1,SG,c1|λc0=>by have:=ce c0;omega]
    . rintro σ H3 ⟨p,x5,rfl,rfl,SG,c1,_⟩;erw[0,na,0,.inl %[eH a0|λa ha=>?_]];let Ga:=ej ha (.tup (ns.map V.str));erw[0,ta,0,.inl %[eH (Ga _ _ a7)|λb hb=>?_]];let Gb:=ej hb (.tup m);erw[0,y3S,λg hg=>?_];let Gg:=ej hg (.tup [.ref a,.ref b,.int p]);exact q g a b ns m ts p _ ah (Gg _ _ (Gb _ _ ah)) (Gg _ _ ah) (bS.mono (bc (Ga.trans (Gb.trans Gg)))) SG #[0] (bf.trans (fy (Ga.trans (Gb.trans Gg))))
 erw[0,0,f,(4),1,hF,4,4,λmk H1 k0 k7 F1 S1=>?_];erw[f,mk,1,F1,k0,3,λnl ns H2 ck aw b2 cm nok b3 F2 S2=>?_];let bf:=S1.trans S2;let b4:ns.length<=3:=by have:mk<4:=k7;omega
 erw[y4S,λl hl=>?_];let lf:=F2.ne hl;let G2:=ej hl (.lst [.int 1,.int 1,.int 2,.int 3]);erw[0,f,(4),1,F2.same G2,4,4,λj H3 j0 j6 F3 S3=>?_];let ap:=S3 l _ lf ah;let%[x,hx|xm]:=vH (l:=[V.int 1,V.int 1,V.int 2,V.int 3]) (i:=j) j0 (by show j<4;omega);obtain⟨z,rfl,z0,z4⟩:∃z:Int,x=.int z/\1<=z/\z<=3:=by
  simp only[E2,zi,Fj]at xm;rcases xm with h | h | h | h <;> erw[_,h,4,4]
 erw[l,_,2,eH ap,hx,6];let bE:SameBut f H2 H3:=(fy G2).trans S3;let aA:=bE nl _ aw b2;let b5:=bf.trans bE;erw[z,1,3,3,λD hD=>?_];let Df:=F3.ne hD;let nD:nl≠D:=aN aA hD;let GD:=ej hD (.lst []);apply dR (ISo f D ns H3) %[[],[],ah,.nil,1,(λt ht=>by cases ht),F3.same GD|fy GD] ?_ ?_
 . rintro i H4 hi ⟨m,ts,aC,TS,tl,tok,F4,S4⟩;let bT:i<z.toNat:=hi;let U:=S4 nl _ aw aA;erw[0,0,0,f,(7),1,F4,4,4,λe H5 e0 e1 F5 S5=>?_];let bF:=S5 nl _ aw U;let e8:e<7:=e1;erw[2,f,nl,_,_,ns,1,F5,.inl bF,3,3,3,4,4,λv t H6 F6 S6 T6 b6 b7 b8=>?_];let bg:=S5.trans S6;let bG:=bg D _ Df aC;let ca:=ji F4 bg;let vl:=TS.length;erw[_,bG,aM #[0],Nx.of hi ⟨m++[v],ts++[t],ah,?_,?_,?_,jX F6 Df,?_⟩]
   . let k:=eU (H:=H6) (b:=D) (ys:=m) (zs:=m++[v]) bG;exact((TS.mono ca).mono k).append (.cons (T6.mono k) .nil)
   . rw[fm,nm,tl]
   . intro u hu;rcases qO0 hu with h | h
     . exact tok u h
     . rw[Pn h];let d9:(t.depth:Int)<=6:=b8;let s9:(t.size:Int)<=1+e:=b7;erw[b6,3,3]
   . intro b o hb eb;rw[az (aN eb hD)];exact bg b o hb (S4 b o hb eb)
 rintro H4 ⟨m,ts,aC,TS,tl,tok,F4,S4⟩;let U:=S4 nl _ aw aA;let co:ts.length=z.toNat:=tl;let cb:1<=ts.length:=#[0]
 let cc:ts.length<=3:=#[0]
 let cg:=b5.trans S4;erw[0,0,true,true,nl,D,ns,m,ts,1,U,aC,TS,3,3,3,(SmallG.wf nok tok),λl1 G1 bP ac bb=>?_];erw[0,D,0,.inl (eH (ac _ _ aC)),2,s2,λl2 be=>?_];let O:=ej be (.lst [.int 2,.int ((m.length:Nat)-1:Int)]);let an:upd G1 l2 (.lst [.int 2,.int ((m.length:Nat)-1:Int)]) l2=_:=ah;generalize upd G1 l2 (.lst [.int 2,.int ((m.length:Nat)-1:Int)])=G2 at O an;erw[l1,l2,2,O _ _ bb,an,6,λl3 ap=>?_]
 . rw[d8,d8];exact cx (by show ns.length+2<=1000;omega)
 let ar:=ej ap (.lst ((ns.map (bj ts)).map V.int++[.int 2,.int ((m.length:Nat)-1:Int)]));let as:upd G2 l3 (.lst ((ns.map (bj ts)).map V.int++[.int 2,.int ((m.length:Nat)-1:Int)])) l3=some (.lst ((ns.map (bj ts)++[2,(ts.length:Int)-1]).map V.int)):=by
  rw[ah,fj,TS.length];rfl
 generalize upd G2 l3 (.lst ((ns.map (bj ts)).map V.int++[.int 2,.int ((m.length:Nat)-1:Int)]))=G3 at ar as;let r:=ac.trans (O.trans ar);erw[l3,0,eH as,by simp,6];let%[m2,m8,me,mt|mc]:=BB #[0] #[0] tok rfl;erw[0,m2,3,λp pp mp pc=>?_];let C:=pc 11 JN #[0];erw[f,nl,D,most,p,ns,m,ts,_,H,1,F4.same r,bn,bo,r _ _ U,r _ _ aC,aw,Df,TS.mono (bc r),%[b4,nok,b3,cb,cc,tok,pp,3,3,3|λt ht y hy=>by have:=mc t ht y hy;omega],C,λe=>pc 3 pr_3 (by have:=me e;omega),cg.trans (fy r),q]
def Tr.hOn(c:List Str):Tr->Bool
 |.is x=>decide (x∈c)
 |.yes=>true
 |.no=>false
 |.not a=>!a.hOn c
 |.bin o a b=>gV o (a.hOn c) (b.hOn c)
def lm:List Str->List Int->List Str
 |x::ns,b::st=>if b=1 then x::lm ns st else lm ns st
 |_,_=>[]
def tQ{x:Str}:∀{ns:List Str}{st:List Int},x∈lm ns st->x∈ns
 |y::ns,b::st,h=>by
   unfold lm at h
   split at h
   . rcases qA0 h with e | h
     . rw[e];exact kb
     . exact mj _ (tQ h)
   . exact mj _ (tQ h)
 | [],_,h=>by cases h
 |_::_,[],h=>by cases h
def qy(x:Str)(b:Int):∀{ns:List Str}{st:List Int},st.length=ns.length->lm (ns++[x]) (st++[b])=lm ns st++(if b=1 then [x]else [])
 | [],[],_=>by
   show(if b=1 then [x]else [])=_;rfl
 |y::ns,c::st,h=>by
   let d:=qy x b (ns:=ns) (st:=st) #[h,0];show(if c=1 then y::lm (ns++[x]) (st++[b])else lm (ns++[x]) (st++[b]))=(if c=1 then y::lm ns st else lm ns st)++_;rw[d]
   split <;> rfl
 | [],_::_,h=>by simp at h
 |_::_,[],h=>by simp at h
def FB:∀{ns:List Str}{st:List Int}{j:Nat},ns.Nodup->st.length=ns.length->fL x ns=some j->decide (x∈lm ns st)=decide (st.getD j 0=1)
 | [],_,_,_,_,h=>by cases h
 |_::_,[],_,_,h,_=>by simp at h
 |y::ns,b::st,j,nd,hl,h=>by
   let%[n1|n]:=List.nodup_cons.mp nd;let g:st.length=ns.length:=#[hl,0]
   unfold fL at h;let e0:lm (y::ns) (b::st)=if b=1 then y::lm ns st else lm ns st:=rfl
   by_cases c:y=x
   . subst c;rw[Pe rfl]at h;cases h;rw[e0]
     by_cases d:b=1
     . rw[Pe d,ft kb];exact(ft d).symm
     . rw[Pd d,fw λz=>n1 (tQ z)];exact(fw d).symm
   . rw [Pd c]at h;let%[m,o|1]:=oe h;let q:=FB n g o;rw[show(b::st).getD (m+1) 0=st.getD m 0 from rfl,←q,e0]
     by_cases d:b=1
     . rw [Pe d]
       have:(x∈y::lm ns st)↔(x∈lm ns st):=%[λz=>(qA0 z).resolve_left λe=>c e.symm|mj _]
       exact decide_eq_decide.mpr this
     . rw[Pd d]
def nu{ns:List Str}{st:List Int}(nd:ns.Nodup)(hl:st.length=ns.length):∀t:Tr,t.ok ns->t.hOn (lm ns st)=t.holds ns st
 |.is x,h=>by
   let%[j,c|_]:=hZ h;show decide _=(match fL x ns with | some j=>decide (st.getD j 0=1) | none=>false)
   rw[c];exact FB nd hl c
 |.yes,_=>rfl
 |.no,_=>rfl
 |.not a,h=>congrArg (!·) (nu nd hl a h)
 |.bin o a b,h=>by
   show gV o (a.hOn _) (b.hOn _)=gV o (a.holds ns st) (b.holds ns st);rw[nu nd hl a h.2.1,nu nd hl b h.2.2]
def lx(ns:List Str):List (List Str):=ns.foldl (λS x=>S++S.map (·++[x])) [[]]
def mz(ns:List Str)(x:Str):lx (ns++[x])=lx ns++(lx ns).map (·++[x]):=by
 unfold lx;rw[List.foldl_append];rfl
def sC(ns:List Str):∀i,(lx (ns.take i)).length<=2 ^ i
 |0=>by rw[Qw];exact eS _
 |i+1=>by
   let b:=sC ns i;rw[ih];cases h:ns[i]? with
   |none=>
     show(lx (ns.take i++[])).length<=_;rw[q9,QB];omega
   |some x=>
     show(lx (ns.take i++[x])).length<=_;rw[mz,fm,d8,QB];omega
def yR(g:List Int->Bool):∀l:List (List Int),(l.flatMap λs=>[s++[0],s++[1]]).countP g=l.countP (λs=>g (s++[0]))+l.countP (λs=>g (s++[1]))
 | []=>rfl
 |a::l=>by
   rw[Qr,List.countP_append,yR g l,Qf,Qf,Qf,Qf,List.countP_nil];omega
def sD(ns:List Str):∀(i:Nat)(g:List Str->Bool),i<=ns.length->(lx (ns.take i)).countP g=(cU i).countP λst=>g (lm (ns.take i) st)
 |0,g,_=>by rw[Qw];rfl
 |i+1,g,c=>by
   let ex:ns.take (i+1)=ns.take i++[ns[i]]:=by rw[ih,fz #[0]];rfl
   let tl:(ns.take i).length=i:=by rw[kr];omega
   rw[ex,mz,List.countP_append,List.countP_map,sD ns i g #[0],sD ns i _ #[0]];show _=((cU i).flatMap λs=>[s++[0],s++[1]]).countP _;rw[yR]
   congr 1
   . apply RV λs b=>?_
     rw[qy _ _ (by rw[iO _ _ b,tl]),Pd ⋯,q9]
   . apply RV λs b=>?_
     rw[qy _ _ (by rw[iO _ _ b,tl]),Pe rfl];rfl
def zC{ns:List Str}{t:Tr}(nd:ns.Nodup)(ok:t.ok ns):((lx ns).filter λb=>t.hOn b).length=cnt t ns:=by
 unfold cnt;rw[←List.countP_eq_length_filter,←List.countP_eq_length_filter]
 have:=sD ns ns.length (λb=>t.hOn b) (eS _)
 rw[i0]at this;rw[this];exact RV λs c=>by rw[nu nd (iO _ _ c) t ok]
instance spLO(n:Nat):∀(v:V)(t:Tr)(l:Addr)(on:List Str),vs=[v,.ref l]->TreeAt H v t->t.wf->t.depth<=n->H l=some (.lst (on.map V.str))->(∀H',Same H H'->Q (.bl (t.hOn on)) H'):=1
def rJ(o:Str):inV (.str o) [.str "yes",.str "no"]=(decide (o="yes")||decide (o="no")):=by
 show (("yes"==o)||(("no"==o)||false))=_;rw[Rc];let e:∀z:Str,(z==o)=decide (o=z):=λz=>by
  by_cases c:o=z
  . subst c;simp
  . rw[fw c];simpa using λh=>c h.symm
 rw[e,e]
instance tLO82(n:Nat)(Dn:Ends)(σ:St)(H:Hp):∀(q l:Addr) (x2 x3:Option V) (o:Str) (v1:V) (vr:List V) (t:Tr) (on:List Str),σ=[some (.ref q),some (.ref l),x2,x3]->H q=some (.tup (.str o::v1::vr))->H l=some (.lst (on.map V.str))->(∃a,o="not"/\vr=[]/\t=.not a/\TreeAt H v1 a/\a.wf/\a.depth<=n)∨(∃a b v2,o∈joinW/\vr=[v2]/\t=.bin o a b/\TreeAt H v1 a/\TreeAt H v2 b/\a.wf/\b.wf/\a.depth<=n/\b.depth<=n)->(∀H',Same H H'->Dn.rt (.bl (t.hOn on)) H'):=0
def o9:FnScope ["_law_tree_here","_law_on","_law_one","_law_other"] WY (aj mN):=%[|5]
def rP{o x:Str}(h:o∈joinW)(b:x∉joinW):¬ V.str o=V.str x:=λz=>b (by rw[←V.str.inj z];exact h)
def bl_ne(a b:Bool):(!decide (V.bl a=V.bl b))=(a != b):=by cases a <;> cases b <;> rfl
def Je{n:Nat}(F:#["_law_holds",mN])(iP:#[n+2,"_law_holds",WY,spLO n]):#[n+3,f,fd,WY,spLO (n+1)]:=by
 exists o9
 erw[v,t,l,d,1,T,wf,dn,hl,k]at h;refine⟨_,(ad (aJ (ai aS (aO ix_tup (pv 0) ag #[1]) aI (ax _)) (af (au (cJ fK (aO ix_tup (pv 0) ag #[1]) (pv 1) (by rfl')))) aE)
  (ad (aJ (ai fK (aO ix_tup (pv 0) ag #[1]) (aR %[aI,aI|ae]) (by rfl')) (af (au (cJ aS (aO ix_tup (pv 0) ag #[1]) aI (ax _)))) aE)
  (ig (t':=tLO82 n) (ad #[am,2,o9,aq iP hr (eS _) rfl %[aO ix_tup (pv 0) ag #[1],1|ae]]
  (ad (aJ (ai aS (aO ix_tup (pv 0) ag #[1]) aI (ax _)) (af (au (Ac (pv 2)))) aE)
  (ad #[am,3,o9,aq iP hr (eS _) rfl %[aO ix_tup (pv 0) ag #[1],1|ae]]
  (ad (aJ (ai aS (aO ix_tup (pv 0) ag #[1]) aI (ax _)) (af (au (tN (pv 2) (qw (pv 3))))) aE)
  (ad (aJ (ai aS (aO ix_tup (pv 0) ag #[1]) aI (ax _)) (af (au (JO (pv 2) (qw (pv 3))))) aE)
  (af (au (cJ aS (cJ jw (pv 2) (pv 3) (ax _)) (cJ aS (aO ix_tup (pv 0) ag #[1]) aI (ax _)) (ax _))))))))) ?cA))),?_⟩
 case cA=>
  rintro Dn σ H ⟨q,l,x2,x3,o,u,vr,t,d,rfl,J,hl,ht,k⟩;rcases ht with⟨a,rfl,rfl,rfl,g,B,O⟩ | ⟨a,b,L,y,rfl,rfl,g,U,B,Y,O,db⟩
  . erw[0,q,_,(1),0,1,dV J,1,0,u,a,l,d,1,g,B,O,hl,λH1 j=>?_];erw[0,q,_,(0),0,1,dV (j _ _ J),1,1,0,aZ rfl ?_];erw[0,0,k _ j]
  . erw[0,q,_,(1),0,1,dV J,1,0,u,a,l,d,1,g,B,O,hl,λH1 j=>?_];let m:=j _ _ J;erw[0,q,_,(0),0,1,dV m,1,1,0,aF (λz=>rP y ⋯ z) ?_];erw[0,q,_,(2),0,1,dV m,1,0,L,b,l,d,1,U.mono (bc j),Y,db,j _ _ hl,λH2 S2=>?_];let r:=S2 _ _ m;let C:∀c:Bool,c=(Tr.bin o a b).hOn d->Dn.rt (.bl c) H2:=λc e=>by rw[e];exact k _ (j.trans S2)
    let e0:(Tr.bin o a b).hOn d=gV o (a.hOn d) (b.hOn d):=rfl;erw[0,q,_,(0),0,1,dV r,1,1,0,6]
    by_cases D:o="and"
    . apply aZ (congrArg V.str D) ?_;erw[0,0,6];let e1:(Tr.bin o a b).hOn d=(a.hOn d&&b.hOn d):=by rw[e0];exact Pe D
      cases h:a.hOn d with
      |false=>exact cQ (C _ (by rw[e1,h];rfl))
      |true=>exact eF %[0|C _ (by rw[e1,h];rfl)]
    apply aF (λz=>D (V.str.inj z)) ?_;erw[0,q,_,(0),0,1,dV r,1,1,0,6]
    by_cases M:o="or"
    . apply aZ (congrArg V.str M) ?_;erw[0,0,6];let e1:(Tr.bin o a b).hOn d=(a.hOn d||b.hOn d):=by rw[e0];unfold gV;rw[Pd D,Pe M]
      cases h:a.hOn d with
      |true=>exact eF (C _ (by rw[e1,h];rfl))
      |false=>exact cQ %[0|C _ (by rw[e1,h];rfl)]
    apply aF (λz=>M (V.str.inj z)) ?_;erw[0,0,1,0,q,_,(0),0,1,dV r,1,1,1,C _ ?_];rw[e0];unfold gV;rw[Pd D,Pd M,bl_ne]
    by_cases N:o="odd"
    . rw[Pe N,ft (congrArg V.str N)];cases a.hOn d <;> cases b.hOn d <;> rfl
    . rw[Pd N,fw (λz=>N (V.str.inj z))];cases a.hOn d <;> cases b.hOn d <;> rfl
 cases T with
 | @is q x e=>
   erw[0,q,_,(0),0,1,dV e,1,1,0,aZ rfl ?_];erw[0,q,_,(1),0,1,dV e,1,0,l,0,.inl (eH hl),1,ia _,6];rw[jy];exact k _ (Same.refl H)
 | @yes q e=>
   erw[0,q,_,(0),0,1,dV e,1,1,0,aF (λz=>absurd (V.str.inj z) ⋯) ?_];erw[0,q,_,(0),0,1,dV e,1,y2S,λc hc=>?_];let G:=ej hc (.tup [.str "yes",.str "no"]);erw[c,0,.inr (dV ah),1,1,0,6];rw[rJ];exact eF ⟨_,rfl,q,_,0,_,rfl,rfl,dV (G _ _ e),rfl,rfl,k _ G⟩
 | @no q e=>
   erw[0,q,_,(0),0,1,dV e,1,1,0,aF (λz=>absurd (V.str.inj z) ⋯) ?_];erw[0,q,_,(0),0,1,dV e,1,y2S,λc hc=>?_];let G:=ej hc (.tup [.str "yes",.str "no"]);erw[c,0,.inr (dV ah),1,1,0,6];rw[rJ];apply eF ⟨_,rfl,q,_,0,_,rfl,rfl,dV (G _ _ e),rfl,rfl,?_⟩;let e1:decide (V.str "no"=V.str "yes")=false:=by decide
   show Q (.bl (decide (V.str "no"=V.str "yes"))) _;rw[e1];exact k _ G
 | @not q u a e g=>
   erw[0,q,_,(0),0,1,dV e,1,1,0,aF (λz=>absurd (V.str.inj z) ⋯) ?_];erw[0,q,_,(0),0,1,dV e,1,y2S,λc hc=>?_];let G:=ej hc (.tup [.str "yes",.str "no"]);erw[c,0,.inr (dV ah),1,1,0,6];rw[rJ];exact cQ ⟨q,l,_,_,"not",u,[],.not a,d,rfl,G _ _ e,G _ _ hl,.inl ⟨a,rfl,rfl,rfl,g.mono (bc G),wf,Nat.le_of_succ_le_succ dn⟩,λH' S'=>k _ (G.trans S')⟩
 | @bin q o u L a b e g U=>
   erw[y,B,Y]at wf;let dm:max a.depth b.depth+1<=n+1:=dn;erw[0,q,_,(0),0,1,dV e,1,1,0,aF (λz=>rP y ⋯ z) ?_];erw[0,q,_,(0),0,1,dV e,1,y2S,λc hc=>?_];let G:=ej hc (.tup [.str "yes",.str "no"]);erw[c,0,.inr (dV ah),1,1,0,6];rw[rJ,fw (λz=>rP y ⋯ (congrArg V.str z)),fw (λz=>rP y ⋯ (congrArg V.str z))];exact cQ %[q,l,_,_,o,u,[L],.bin o a b,d,1,G _ _ e,G _ _ hl,.inr %[a,b,L,y,1,1,g.mono (bc G),U.mono (bc G),B,Y,3|3]|λH' S'=>k _ (G.trans S')]
def Jd:#[2,f,fd,WY,spLO 0]:=by
 let no:∀vs H Q E,¬ spLO 0 vs H Q E:=by
  rintro vs H Q E ⟨v,t,l,b,_,_,_,d,_⟩;cases t <;> exact absurd d (Nat.not_succ_le_zero _)
 exists 3
def tT(F:#["_law_holds",mN])(m:mg "_law_holds"=some (.ref f)):
 ∀n:Nat,#[n+2,f,fd,WY,spLO n]
 |0=>Jd
 |n+1=>Je F (Cal.of F (tT F m n) m (λ_ _ _ _ _ _ us hl=>by let%[b,c|1]:=GE hl;rfl))
instance spLMx:∀(l:Addr)(xs:List Int)(s p:Int),vs=[.ref l,.int s,.int p]->H l=some (.lst (xs.map V.int))->(∀x∈xs,-(2 ^ 62)<x/\x<2 ^ 62)->-(2 ^ 62)<s->s<2 ^ 62->0<p->Q (.int (hor s p xs)) H:=1
def gR:FnScope ["_law_numbers","_law_s","_law_field_here","_law_found","_law_share","_law_number"] Wj (aj qj):=%[|5]
def Aj(F:#["_law_mixed",qj]):#[1,f,fd,Wj,spLMx]:=by
 exists gR
 erw[l,xs,s,p,1,hl,e,s0,s1,p0,q]at h;refine⟨_,(ad #[am,3,gR,ag]
  (ad #[am,4,gR,ag]
  (ad (cR ks rfl (cI (pv 0)) (ba (i:=5) gR.nd rfl (.inl rfl)) (ad #[am,3,gR,ao aV (pv 3) (ao bN (pv 4) (pv 5))] (af #[am,4,gR,ao bN (pv 4) (pv 1)])))
  (af (au (ao aY (pv 3) (pv 2))))))),?_⟩
 erw[0,l,1,%[_|eH hl],gu (K:=K) (xs:=xs.map V.int) (λi σ c=>∃x5:Option V,σ=[some (.ref l),some (.int s),some (.int p),some (.int (gI s (xs.take i))),some (.int (s ^ i)),x5]/\c=H) %[none,by rw[Qw,QD];rfl|1] (λi σ c _ Pi=>by erw[_,_,h]at Pi;subst h;exact eH hl) ?_ ?_]
 . rintro i z σ g b ⟨x5,rfl,rfl⟩;let j:=(Pl b).1;rw[d8]at j;rw[hI]at b;let%[x,d|1]:=oe b;let%[m|n]:=e x (ms d);erw[0,0,0,2,.inr %[3|3],2,6];erw[0,0,2,.inr %[3|3],6];let e1:gI s (xs.take (i+1))=gI s (xs.take i)+s ^ i*x:=by
    rw[ih,d];show gI s (xs.take i++[x])=_;rw[vg,kr,Nat.min_eq_left #[0],ti]
   erw[_,by rw[e1,rc];rfl,1]
 . rintro σ g ⟨x5,rfl,rfl⟩;rw[d8,i0];erw[0,0,2,p0,6];rw[←lY];exact q
def OnsB(D:Addr)(H:Hp):List V->List (List Str)->Prop
 | [],[]=>True
 |v::vs,s::b=>(∃a,v=.ref a/\a≠D/\H a=some (.lst (s.map V.str)))/\OnsB D H vs b
 |_,_=>False
def OnsB.imp{D b:Addr}{H c:Hp}(k:∀a xs,a≠D->H a=some (.lst xs)->a≠b/\c a=some (.lst xs)):∀{vs:List V}{d:List (List Str)},OnsB D H vs d->OnsB b c vs d
 | [],[],_=>trivial
 |_::_,_::_,⟨⟨a,e,n,h⟩,r⟩=>%[%[a,e|k _ _ n h]|OnsB.imp k r]
 | [],_::_,h=>h.elim
 |_::_,[],h=>h.elim
def OnsB.app:∀{vs us:List V}{b rs:List (List Str)},OnsB D H vs b->OnsB D H us rs->OnsB D H (vs++us) (b++rs)
 | [],_,[],_,_,h=>h
 |_::_,_,_::_,_,h,h2=>%[h.1|OnsB.app h.2 h2]
 | [],_,_::_,_,h,_=>h.elim
 |_::_,_,[],_,h,_=>h.elim
def OnsB.len:∀{vs:List V}{b:List (List Str)},OnsB D H vs b->vs.length=b.length
 | [],[],_=>rfl
 |_::_,_::_,h=>congrArg (·+1) (OnsB.len h.2)
 | [],_::_,h=>h.elim
 |_::_,[],h=>h.elim
def OnsB.nth:∀{vs:List V}{b:List (List Str)}{i:Nat}{v:V},OnsB D H vs b->vs[i]?=some v->∃s a,b[i]?=some s/\v=.ref a/\a≠D/\H a=some (.lst (s.map V.str))
 | [],[],i,v,_,h=>by rw[List.getElem?_nil]at h;cases h
 |c::vs,s::b,0,v,h,e=>by
   rw[List.getElem?_cons_zero]at e;cases e;let h2:=h.1;erw[a,e,n,h]at h2;erw[s,a,1,e,n,h]
 |c::vs,s::b,i+1,v,h,e=>OnsB.nth (i:=i) h.2 (by rw[List.getElem?_cons_succ]at e;exact e)
 | [],_::_,_,_,h,_=>h.elim
 |_::_,[],_,_,h,_=>h.elim
def oS(ns:List Str):∀(i:Nat)(s:List Str),s∈lx (ns.take i)->s.length<=i
 |0,s,h=>by
   rw[Qw]at h;rw[Pn h];exact eS _
 |i+1,s,h=>by
   rw[ih]at h;cases e:ns[i]? with
   |none=>
     rw[e]at h;let h':s∈lx (ns.take i++[]):=h;rw[q9]at h'
     have:=oS ns i s h'
     omega
   |some x=>
     rw[e]at h;let h':s∈lx (ns.take i++[x]):=h;rw[mz]at h';rcases qO0 h' with h | h
     . have:=oS ns i s h
       omega
     . let%[r,hr|1]:=List.mem_map.mp h
       have:=oS ns i r hr
       rw[fm,nm];omega
instance spLCt:∀(v:V)(t:Tr)(a:Addr)(ns:List Str),vs=[v,.ref a]->TreeAt H v t->t.wf->t.ok ns->t.depth<=10->H a=some (.tup (ns.map V.str))->ns.Nodup->ns.length<=6->(∀H',Same H H'->Q (.int (cnt t ns:Int)) H'):=1
def j9:FnScope ["_law_tree_here","_law_names_here","_law_sets","_law_name"] Wy (aj ql):=%[|5]
def Am(F:#["_law_count",ql])(B:Bl mg)(iP:#[12,"_law_holds",WY,spLO 10]):#[13,f,fd,Wy,spLCt]:=by
 exists j9
 erw[v,t,a,ns,1,T,wf,ok,dp,ha,nd,n6,q]at h;refine⟨_,(ad #[am,2,j9,bY %[bY ae|ae]]
  (ad (cR ks rfl (iF (pv 1)) (ba (i:=3) j9.nd rfl (Or.inr rfl)) (af (am (i:=2) j9.nd rfl (.inl rfl) (ao jI (pv 2) (bL (N:=["_law_name"]) (ix:=[3]) rfl
   #[3] rfl
   (cI (pv 2)) (λ_ _ _=>cu (ao jI (pv 0) (bY %[1|ae]))))))))
  (af (au (aG aD rfl B.len fx (aa (bL (N:=WP) (ix:=[0]) rfl
   #[3] rfl
   (cI (pv 2)) (λ_ _ _=>yh (dP (aq iP hr ⋯ rfl %[1,0|ae])) (pv 0))) ae)))))),?_⟩
 erw[i1 _,λe he=>%[y1S|λL hL=>?_]];let I1:=ej he (.lst []);let I2:=ej hL (.lst [.ref e]);let ne:e≠L:=aN ah hL;let J:=I1.trans I2;let e1:=I2 _ _ (ah (a:=e));let e2:upd (upd H e (.lst [])) L (.lst [.ref e]) L=_:=ah;generalize upd (upd H e (.lst [])) L (.lst [.ref e])=H1 at J e1 e2;erw[0,a,1,%[_|dV (J _ _ ha)],rV (K:=K) (xs:=ns.map V.str) (λi σ m=>∃(L:Addr)(vs:List V)(x3:Option V),σ=[some v,some (.ref a),some (.ref L),x3]/\m L=some (.lst vs)/\OnsB L m vs (lx (ns.take i))/\Same H m) %[L,_,0,e2,%[%[e,1,ne|e1]|trivial]|J] (λi σ m _ Pi=>by erw[_,_,_,_,_,_,h]at Pi;exact dV (h _ _ ha)) ?_ ?_]
 . rintro i y σ H2 hy ⟨L,vs,x3,rfl,g,O,S2⟩;let hi:=(Pl hy).1;rw[d8]at hi;rw[hI]at hy;let%[x,hx|1]:=oe hy;let vl:=O.len;let sl:=sC ns i;let p6:2 ^ i<=2 ^ 5:=Qp ⋯ #[0];let ac:(2:Nat) ^ 5=32:=by decide
   erw[0,0,L,1,%[_|eH g],λD hD=>?_];let an:L≠D:=aN g hD;apply cW (K:=K) (xs:=vs) (λj m=>∃ws,m D=some (.lst ws)/\OnsB D m ws (((lx (ns.take i)).take j).map (·++[x]))/\Same H2 m) %[[],ah,trivial|ej hD _] (λj m _ Pi=>by erw[_,_,_,h]at Pi;exact eH (h _ _ g)) ?_ ?_
   . rintro j z U hz ⟨ws,d,Y,r⟩;let hj:=(Pl hz).1;let%[s,c,es,1,nc|hc]:=O.nth hz;let ab:=r _ _ hc;let C:=Y.len;rw[d8,kr]at C;erw[0,0,y1S,λl1 h1=>?_];let K1:=ej h1 (.lst [.str x]);erw[c,l1,2,K1 _ _ ab,ah,6,λo ho=>?_]
     . have:=oS ns i s (ms es)
       rw[d8];exact cx (by show s.length+1<=1000;omega)
     let K2:=ej ho (.lst (s.map V.str++[.str x]));let u:=K1.trans K2;let eo:upd (upd U l1 (.lst [.str x])) o (.lst (s.map V.str++[.str x])) o=some (.lst ((s++[x]).map V.str)):=by rw[ah,fj];rfl
     let no:o≠D:=λz=>by
      have:=K1 _ _ d
      rw[←z,ho]at this;cases this
     generalize upd (upd U l1 (.lst [.str x])) o (.lst (s.map V.str++[.str x]))=H4 at u eo;erw[_,u _ _ d,aM #[0],Nx.of hj ⟨ws++[.ref o],ah,?_,λb o' e'=>?_⟩]
     . rw [ih,es,fj];apply OnsB.app (Y.imp λa xs n h=>%[n|6]) ⟨⟨o,rfl,no,?_⟩,trivial⟩
       . rw[az n];exact u _ _ h
       . rw[az no];exact eo
     . rw[az (aN e' hD)];exact u _ _ (r _ _ e')
   . rintro U ⟨ws,d,Y,r⟩;rw[vl,i0]at Y;let C:=Y.len;rw[d8]at C;erw[L,D,2,r _ _ g,d,cx #[0],λo ho=>?_];let K2:=ej ho (.lst (vs++ws));let M:∀(D:Addr)(a:Addr)(xs:List V),a≠D->U a=some (.lst xs)->a≠o/\upd U o (.lst (vs++ws)) a=some (.lst xs):=λ_ a xs _ h=>%[aN h ho|K2 _ _ h]
     erw[o,_,0,ah,6,S2.trans (r.trans K2)];rw[ih,hx];show OnsB o _ _ (lx (ns.take i++[x]));rw[mz];exact OnsB.app (O.imp λa xs n h=>M L a xs n (r _ _ h)) (Y.imp λa xs n h=>M D a xs n h)
 . rintro σ H2 ⟨L,vs,x3,rfl,g,O,S2⟩;rw[d8,i0]at O;let vl:=O.len;let sl:=sC ns ns.length;rw[i0]at sl;let p6:2 ^ ns.length<=2 ^ 6:=Qp ⋯ #[0];let ap:(2:Nat) ^ 6=64:=by decide
   erw[0,L,1,%[_|eH g],λD hD=>?_];apply cW (K:=K) (xs:=vs) (λj m=>∃ws,m D=some (.lst ws)/\ws.length=(((lx ns).take j).filter λon=>t.hOn on).length/\ws.length<=j/\Same H2 m) %[[],ah,1,eS _|ej hD _] (λj m _ Pi=>by erw[_,_,_,_,h]at Pi;exact eH (h _ _ g)) ?_ ?_
   . rintro j z U hz ⟨ws,d,C,wj,r⟩;let hj:=(Pl hz).1;let%[s,c,es,1,nc|hc]:=O.nth hz;let et:(((lx ns).take (j+1)).filter λon=>t.hOn on).length=ws.length+(if t.hOn s=true then 1 else 0):=by
      rw[ih,es,PK,fm,C]
      congr 1
      cases h:t.hOn s <;> simp [h]
     erw[0,0,v,t,c,s,1,T.mono (bc (S2.trans r)),wf,dp,r _ _ hc,λH4 S4=>%[0|6]];cases h:t.hOn s with
     |true=>
       rw[h,Pe rfl]at et;apply eF %[0,_,S4 _ _ d,aM #[0]|Nx.of hj ⟨_,ah,by rw[fm,et];rfl,by rw[fm];show ws.length+1<=_;omega,λb o' e'=>?_⟩];rw[az (aN e' hD)];exact S4 _ _ (r _ _ e')
     |false=>
       rw[h,Pd ⋯]at et;exact cQ (Nx.of hj %[ws,S4 _ _ d,by rw[et];rfl,3|r.trans S4])
   . rintro U ⟨ws,d,C,_,r⟩;rw[vl,i0,zC nd ok]at C;erw[D,0,.inl (eH d),6];rw[C];exact q _ (S2.trans r)
def TupsAt.app{us:List V}{b:List (List Int)}(h2:TupsAt H us b):∀{rs:List V}{cs:List (List Int)},TupsAt H rs cs->TupsAt H (rs++us) (cs++b)
 |_,_,.nil=>h2
 |_,_,.cons h t=>.cons h (TupsAt.app h2 t)
def lg(p:Nat)(c:List Int):List (List Int):=(List.range p).map λr:Nat=>c++[(r:Int)]
def zG(p:Nat)(a:Int)(c:List Int):lg p (a::c)=(lg p c).map (a::·):=by
 unfold lg;rw[List.map_map];rfl
def vJ(p:Nat):∀k,(cO p k).flatMap (lg p)=cO p (k+1)
 |0=>by
   unfold cO lg;rw[List.flatMap_singleton];show _=(List.range p).flatMap λr:Nat=>[[(r:Int)]]
   rw[List.map_eq_flatMap];rfl
 |k+1=>by
   show((List.range p).flatMap λr:Nat=>(cO p k).map ((r:Int)::·)).flatMap (lg p)=(List.range p).flatMap λr:Nat=>(cO p (k+1)).map ((r:Int)::·)
   rw[List.flatMap_assoc]
   congr 1
   funext r
   rw[←vJ p k,List.map_flatMap,List.flatMap_map]
   congr 1
   funext c
   exact zG p _ c
instance spAllC:∀(p many:Int),vs=[.int p,.int many]->0<p->p<=999983->0<=many->many<=7->p ^ many.toNat<=200->(∀(r:Addr)(H':Hp),H r=none->Same H H'->xM H' r (cO p.toNat many.toNat)->Q (.ref r) H'):=1
def dX:FnScope ["_law_field_here","_law_coins","_law_rows","_law_k","_law_longer","_law_row"] WO (aj kH):=%[|5]
def IF{p i m:Nat}(b:0<p)(h:p ^ m<=200)(c:i<=m):p ^ i<=200:=hE (Qp b c) h
def Ct{L:List (List Int)}{j:Nat}{c:List Int}(h:L[j]?=some c):(L.take (j+1)).flatMap (lg p)=(L.take j).flatMap (lg p)++lg p c:=by
 rw[ih,h,RI]
 simp
def yQ:∀L:List (List Int),(L.flatMap (lg p)).length=L.length*p
 | []=>by simp
 |a::r=>by
   rw[Qr,fm,yQ r,f5,Rh];unfold lg;rw[d8,o0,Nat.add_comm]
def uO(F:#["_law_all_rows",kH])(B:Bl mg):#[1,f,fd,WO,spAllC]:=by
 exists dX
 erw[p,d,1,p0,p9,m0,m7,pm,q]at h;refine⟨_,(ad #[am,2,dX,bY %[aR ae|ae]]
  (ad (cR ks rfl (bK rfl B.range %[1|ae]) (ba (i:=3) dX.nd rfl (.inl rfl)) (ad #[am,4,dX,bY ae]
   (ad (cR ks rfl (cI (pv 2)) (ba (i:=5) dX.nd rfl (Or.inr rfl)) (af (am (i:=4) dX.nd rfl (.inl rfl) (ao jI (pv 4) (bL (N:=["_law_row"]) (ix:=[5]) rfl
    #[3] rfl
    (bK rfl B.range %[0|ae]) (λ_ _ _=>cu (ao (pF K) (pv 1) (aR %[0|ae]))))))))
   (af #[am,2,dX,pv 4]))))
  (af (au (pv 2))))),?_⟩
 obtain⟨pn,rfl⟩:∃pn:Nat,p=(pn:Int):=%[p.toNat|3]
 obtain⟨mn,rfl⟩:∃mn:Nat,d=(mn:Int):=%[d.toNat|3]
 rw [pu]at pm q;rw[pu]at q;let an:pn ^ mn<=200:=by
  have:((pn ^ mn:Nat):Int)<=200:=by rw[Qv];exact pm
  omega
 let ap:0<pn:=#[0]
 erw[y0S,λt0 O=>?_];erw[y1S,λa ha=>?_];let np:t0≠a:=λz=>by
  subst z;rw[ah]at ha;cases ha
 let ar:H a=none:=(ej O _).free ha;refine⟨_,rfl,(mn:Int),rfl,#[0],#[0],eV (n:=mn) (λi σ g=>∃(a:Addr)(x3 x4 x5:Option V),σ=[some (.int (pn:Int)),some (.int (mn:Int)),some (.ref a),x3,x4,x5]/\H a=none/\Same H g/\xM g a (cO pn i))
  %[a,_,_,0,ar,(ej O _).trans (ej ha _),[.ref t0],ah|.cons ⟨t0,rfl,by rw[az np,ah];rfl⟩ .nil] ?_ ?_⟩
 . rintro i σ H1 hi ⟨a,x3,x4,x5,rfl,a0,s0,rs,v,T⟩;let al:=jj (p:=pn) i;let p1:=IF ap an (show i+1<=mn from hi);rw[QB]at p1;erw[y0S,λb hb=>?_];let ab:a≠b:=aN v hb;let rl:=T.length;refine⟨_,rfl,a,rfl,%[_|eH (by rw[az ab];exact v)],gu (K:=K) (xs:=rs) (λj σ m=>∃(x5:Option V)(b:Addr)(bs:List V),σ=[some (.int (pn:Int)),some (.int (mn:Int)),some (.ref a),some (.int (0+(i:Int))),some (.ref b),x5]/\Same H1 m/\H1 b=none/\m b=some (.lst bs)/\TupsAt m bs (((cO pn i).take j).flatMap (lg pn)))
    %[_,b,[],1,ej hb _,hb,ah|.nil] (λj σ m _ Pi=>by erw[_,_,_,_,L,_]at Pi;exact eH (L a _ v)) ?_ ?_⟩
   . clear hb ab;rintro j y σ m hj ⟨x5,b,bs,rfl,L,hb,x,U⟩;let jl:j<rs.length:=(Pl hj).1;let T2:TupsAt m rs (cO pn i):=T.mono (bc L);let%[c,Y,t,1|ht]:=T2.get hj;let cl:=(iw i c (ms Y)).1;let as:=U.length;rw[yQ,kr]at as;let b1:bs.length+pn<=200:=by
      let e1:min j (cO pn i).length<=j:=Nat.min_le_left _ _;let e2:(j+1)*pn<=pn ^ i*pn:=RE _ #[0];let e3:min j (cO pn i).length*pn<=j*pn:=RE _ e1;rw[Rh]at e2;omega
     erw[0,0,(pn:Int),1,3,3,λD hD=>?_];apply dR (n:=pn) (λu g=>∃vs:List V,g D=some (.lst vs)/\TupsAt g vs ((List.range u).map λr:Nat=>c++[(r:Int)])/\Same m g) %[[],ah,.nil|ej hD _] ?_ ?_
     . rintro u H3 hu ⟨vs,C,T3,M⟩;let vl:=T3.length;rw[d8,o0]at vl;let av:u<pn:=hu;erw[0,0,y1S,λz hz=>?_];rw[vu];let I4:=ej hz (.tup [.int (u:Int)]);let g4:upd H3 z (.tup [.int (u:Int)]) z=some (.tup [.int (u:Int)]):=ah;generalize upd H3 z (.tup [.int (u:Int)])=H4 at I4 g4;apply uz (s:=c) (z:=(u:Int)) (I4 _ _ (M _ _ ht)) g4 #[0] λt5 H5 S5 h5=>?_
       let J:=I4.trans S5;let ac:=J _ _ C;let k6:=eU (H:=H5) (b:=D) (ys:=vs) (zs:=vs++[.ref t5]) ac;erw[_,ac,aM #[0],Nx.of hu ⟨vs++[.ref t5],ah,?_,λa' o e=>?_⟩]
       . rw[ss,fj];exact TupsAt.app (.cons %[t5,1|k6 _ _ h5] .nil) ((T3.mono (bc J)).mono k6)
       . rw[az (aN e hD)];exact J _ _ (M _ _ e)
     . rintro H3 ⟨vs,C,T3,M⟩;let vl:=T3.length;rw[d8,o0]at vl;erw[b,D,bs,vs,1,1,M _ _ x,C,cx #[0],λe he=>?_];let k4:=ej he (.lst (bs++vs));let S4:=L.trans M;erw[_,e,bs++vs,1,S4.trans k4,S4.free he,ah,6];rw[Ct Y];exact TupsAt.app (T3.mono (bc k4)) ((U.mono (bc M)).mono (bc k4))
   . rintro σ m ⟨x5,b,bs,rfl,L,hb,x,U⟩;rw[rl,i0,vJ]at U;erw[0,b,_,_,0,s0.free hb,s0.trans L,bs,x,U]
 . rintro σ g ⟨a,x3,x4,x5,rfl,a0,s0,S⟩;erw[0,q a g a0 s0 S]
section
variable {C CM CA CG:Addr}{ns:List Str}{ts:List Tr}{p:Int}{rows:List Hr}
def EdW(a:Str×Option Int):Prop:=a.1="believed" -> a=(("believed":Str),none)
def xE(z:Db):EdW (goOn ns ts p z).aw:=by
 unfold goOn fq EdW
 split
 . exact λh=>absurd h JQ
 . show (if _ then _ else _:Str×Option Int).1="believed" -> (if _ then _ else _:Str×Option Int)=_
   split
   . exact λ_=>rfl
   . exact λh=>absurd h yy
def sA(k:GmK ns ts p)(n6:ns.length<=6):∀(n:Nat)(cs:List Int)(t:Tk),TkOk ns ts p t->cv cs p->EdW t.z.aw->EdW (cK ns ts p rows cs n t).2.z.aw/\AwW (cK ns ts p rows cs n t).2.z.aw.1
 |0,_,_,h,_,e=>%[e|h.gd.ww]
 |n+1,cs,t,h,co,e=>by
   let p2:=k.p2
   by_cases ch:t.z.aw.1="hear"
   . rw [fe ch];apply sA k n6 n cs _ (h.ask k n6 ch).1 co ?_;rw[show(t.ask ns ts p rows).z=dY p (t.said ns ts p rows) { t.z with pl:=t.z.pl+((t.said ns ts p rows).length:Int) }from Pd h.cl];unfold dY EdW;show(if _ then _ else _:Str×Option Int).1="believed" -> _
     split
     . exact λz=>absurd z BC
     . exact λz=>absurd z yy
   . by_cases b:t.z.aw.1="coin"
     . rw [dN b];let%[r0|r1]:=jU co #[0];apply sA k n6 n cs.tail _ (h.toss k b r0 r1).1 (oR co) ?_;show EdW (eg ns ts p (cs.headD 0) t.z).aw;unfold eg
       split
       . exact xE _
       . exact xE _
     . rw[eA ch b];erw[e,h.gd.ww]
def Et(k:GmK ns ts p)(n6:ns.length<=6)(co:cv cs p):EdW (eP ns ts p rows cs).2.z.aw/\AwW (eP ns ts p rows cs).2.z.aw.1:=by
 apply sA k n6 20 cs _ (kX k n6).1 co ?_;let e0:du ns ts p ‹Tk.s› (Db.new ts)=jz ns ts p ‹Tk.s› { Db.new ts with pl:=(Db.new ts).pl+(‹Tk.s›.length:Int) }:=Pe rfl;show EdW (du ns ts p ‹Tk.s› (Db.new ts)).aw;rw[e0];unfold jz
 split
 . exact xE _
 . exact λz=>absurd z BC
def CT{L:List (List Int)}{j:Nat}{c:List Int}(h:L[j]?=some c)(b:List Int->Bool):gU (L.take (j+1)) b []=((gU (L.take j) b []).1+(if b c=true then 1 else 0),(gU (L.take j) b []).2.or (if b c=true then none else some c)):=by
 rw[ih,h];show gU (L.take j++[c]) b []=_;rw[yb];unfold gU;cases e:b c <;> simp [e]
abbrev uK(ns:List Str)(ts:List Tr)(p:Int)(rows:List Hr)(j:Nat):Int×Option (List Int):=gU ((cO p.toNat (bm ns ts)).take j) (λc=>decide ((eP ns ts p rows c).2.z.aw.1="believed")) []
instance spPlay82(CG:Addr):∀(g h:Addr)(rv:List V)(rows:List Hr)(ns:List Str)(ts:List Tr)(p:Int),vs=[.ref g,.ref h]->Gm CG H g ns ts p->GmK ns ts p->ns.length<=6->H h=some (.tup rv)->RowsAt H rv rows->(∀r∈rows,r.good)->p ^ bm ns ts<=200->(∀(a:Addr)(H':Hp),Same H H'->xL H' a (gg ns ts p rows (bm ns ts) 8 (Tk.new ts) [])->Q (.ref a) H'):=1
instance IPl82(g h:Addr)(H2:Hp)(rows:List Hr)(ns:List Str)(ts:List Tr)(p:Int)(j:Nat)(σ:St)(H':Hp):∀(fv:V)(x4 x5 x6:Option V),σ=[some (.ref g),some (.ref h),some (.int (uK ns ts p rows j).1),some fv,x4,x5,x6]->OptAt H' fv (uK ns ts p rows j).2->Same H2 H':=0
def eG:FnScope ["_law_game","_law_helper","_law_good","_law_first","_law_row","_law_talk","_law_end"] Wz (aj oC):=%[|5]
def yp(F:#["_law_played",oC])(B:Bl mg)(TG:GTxt K mg CG)(mC:Meth K CG "coins" fC)(GC:#[1,fC,N,WA,spCoins CG])(bC:Binds K N WA [])(kz:#[1,"_law_all_rows",WO,spAllC])
 (C0:#[27,"talked",Ww,spTalked C CM CG]):#[28,f,fd,Wz,spPlay82 CG]:=by
 exists eG
 erw[g,h,rv,rows,ns,ts,p,1,G,k,n6,hh,RW,gd,pw,q]at h;let Pp:Room 1 _:=hr.mono ⋯;refine⟨_,(ad #[am,2,eG,ag]
  (ad #[am,3,eG,kR]
  (ad (cR ks rfl (cI (aq kz hr ⋯ rfl %[aB (pv 0) rfl,bt (pv 0) TG.cl mC GC Pp bC .nil bd|ae])) (ba (i:=4) eG.nd rfl (.inl rfl)) (ad (qt (aq C0 hr ⋯ rfl %[0,1,aX de rfl B.list dU %[4|ae]|ae]) (tM rfl (fo (ba (i:=5) eG.nd rfl (.inl rfl)) (fo (ba (i:=6) eG.nd rfl (.inl rfl)) pC))))
   (af (aJ (ai (oI hr.units) (pv 6) (aR %[aI|ae]) (ax _)) (af #[am,2,eG,ao aV (pv 2) ag]) (af (aJ (ai wP (pv 3) kR (ax _)) (af #[am,3,eG,pv 4]) aE))))))
  (af (au (aR %[2,3|ae])))))),?_⟩
 let p2:=k.p2;let p9:=k.p9;let cn:=kc (ts:=ts) n6;rw[my k n6]at q;let%[ga,gb,O,tv,GA,ha,hb,TS|hd]:=id G;let%[dx|hg]:=id GA;erw[0,g,CG,dx,_,0,hg,TG.cl,TG.nF,fN ..,0,g,dx,0,hg,oa _ _ _ _ ⋯ ⋯ ⋯ ⋯,g,ga,gb,O,ns,tv,p,1,GA,ha,hb,6];rw[show(if tv.length=1 then(ns.length:Int)else(ns.length:Int)+1)=((bm ns ts:Nat):Int) by rw[TS.length];unfold bm;split <;> rfl];erw[p,0,3,p9,3,3,by rw[pu];exact pw,λr H2 r0 S2 ST=>?_];rw[pu]at ST;erw[rs,o,TT]at ST;let rl:=TT.length;erw[r,1,%[_|eH o],gu (K:=K) (xs:=rs) (IPl82 g h H2 rows ns ts p) ⟨.non,_,_,_,rfl,rfl,Same.refl _⟩ (λj σ H' _ Pi=>by erw[_,_,_,_,_,_,sb]at Pi;exact eH (sb _ _ o)) ?_ ?_]
 . rintro j y σ U hj ⟨v,x4,x5,x6,rfl,M,x⟩;let%[c,D,t,1|ht]:=(TT.mono (bc x)).get hj;let%[cl|co]:=iw _ _ (ms D);rw[show(p.toNat:Int)=p by omega]at co;erw[0,0,0,t,0,.inr (dV ht),λL hL=>?_];let Y:=ej hL (.lst (c.map V.int));let e4:upd U L (.lst (c.map V.int)) L=_:=ah;generalize upd U L (.lst (c.map V.int))=H4 at Y e4;let S4:=x.trans Y;let J4:Same H H4:=S2.trans S4;erw[g,h,L,rv,rows,ns,ts,p,c,1,G.same J4,k,n6,J4 _ _ hh,RW.mono (bc J4),gd,.inl e4,co,6,3,λa H6 S6 Td=>?_]
   . rw [cl];unfold bm
     split <;> split <;> omega
   erw[tb,tc,us,h1,h2,h3,h4]at Td.ex;erw[a,0,dV h1,1,_,0,2,6];erw[0,y1S,λu hu=>?_];let I7:=ej hu (.tup [.str "believed"]);let e7:upd H6 u (.tup [.str "believed"]) u=_:=ah;generalize upd H6 u (.tup [.str "believed"])=H7 at I7 e7;let%[be|ww]:=Et (rows:=rows) k n6 co;erw[_,awD (("believed":Str),none),Kw (I7 _ _ h4),.tup (dV e7) (.cons (.str _) .nil),vd ww,vd (.inr (.inr (.inr rfl))),0,6];rw[Ld];let e:=Y.trans (S6.trans I7);let b:=M.mono (bc e);let S7:=x.trans e;let m:uK ns ts p rows (j+1)=_:=CT D (λc=>decide ((eP ns ts p rows c).2.z.aw.1="believed"))
   by_cases n:(eP ns ts p rows c).2.z.aw.1="believed"
   . rw[Pe (ft n),Pe (ft n),Option.or_none]at m;apply aZ (be n) ?_;erw[0,2,v,_,_,_,by rw[m];rfl,by rw[m];exact b,S7]
   . apply aF (λz=>n (congrArg Prod.fst z)) ?_;rw[Pd (by rw[fw n];decide),Pd (by rw[fw n];decide),QC]at m;let J:(uK ns ts p rows (j+1)).1=(uK ns ts p rows j).1:=by rw[m]
     let d:(uK ns ts p rows (j+1)).2=(uK ns ts p rows j).2.or (some c):=by rw[m]
     cases eo:(uK ns ts p rows j).2 with
     |none=>
       rw[eo]at b d
       have:v=.non:=b
       subst this;erw[0,1,0,aZ rfl ?_];erw[0,.ref t,_,_,_,by rw[J];rfl,by rw[d];exact⟨t,rfl,e _ _ ht⟩,S7]
     |some c0=>
       rw[eo]at b d;let%[b0,1|ab]:=id b;erw[0,1,0,aF nofun ?_];erw[.ref b0,_,_,_,by rw[J];rfl,by rw[d];exact b,S7]
 . rintro σ U ⟨v,x4,x5,x6,rfl,M,x⟩;let er:uK ns ts p rows rs.length=gU (cO p.toNat (bm ns ts)) (λc=>decide ((eP ns ts p rows c).2.z.aw.1="believed")) []:=by
    unfold uK;rw[rl,i0]
   rw[er]at M ⊢;erw[0,0,y2S,λa ha=>?_];let I:=ej ha (.tup [.int (gU (cO p.toNat (bm ns ts)) (λc=>decide ((eP ns ts p rows c).2.z.aw.1="believed")) []).1,v]);exact q a _ (S2.trans (x.trans I)) %[v,ah|M.mono (bc I)]
end
def JA{ns:List Int}{k:Int}(h0:0<=k)(h:k<(ns.length:Int)):∃v:Int,atI (ns.map V.int) k=some (.int v)/\v∈ns:=by
 let b:k.toNat<ns.length:=#[0]
 let q:atI (ns.map V.int) ((k.toNat:Nat):Int)=some (.int ns[k.toNat]):=cX (by rw[hI,fz b] <;> rfl);let c:((k.toNat:Nat):Int)=k:=#[0]
 rw[c]at q;erw[_,q,o4 b]
instance spClm82:∀(f c:Addr)(cs:List Int)(p:Int),vs=[.ref f,.ref c,.int p]->FeedAt H f->H c=some (.lst (cs.map V.int))->c≠f->1<=cs.length->cs.length<=10->(∀x∈cs,0<=x/\x<=100)->0<p->p<1000000->(∀(D:Addr)(xs:List Int)(H':Hp),H D=none->H' D=some (.lst (xs.map V.int))->xs.length=cs.length->(∀x∈xs,0<=x/\x<1000000000000)->FeedAt H' f->SameBut f H H'->Q (.ref D) H'):=1
def gK:FnScope ["_law_feed_here","_law_counts","_law_field_here","_law_claims_here","_law_count_here","_law_form","_law_s","_law_gap"] W0 (aj oF):=%[|5]
inductive ISr(f c D:Addr)(p:Int)(H:Hp)(i:Nat)(σ:St)(H':Hp):Prop where|mk:∀(x4 x5:Option V)(xs:List Int),(σ=[some (.ref f),some (.ref c),some (.int p),some (.ref D),x4,x5,none,none])->(H' D=some (.lst (xs.map V.int)))->(xs.length=i)->((∀x∈xs,0<=x/\x<1000000000000))->(FeedAt H' f)->(SameBut f H H')->ISr f c D p H i σ H'
def yr(F:#["_law_claims",oF])(B:Bl mg)(N:#[1,"_law_take",WH,spTake])(c9:#[1,"_law_mixed",Wj,spLMx]):#[2,f,fd,W0,spClm82]:=by
 exists gK
 erw[f,c,cs,p,1,F0,hc,m,c1,as,cr,p0,av,q]at h;refine⟨_,(ad #[am,3,gK,bY ae]
  (ad (cR ks rfl (cI (pv 1)) (ba (i:=4) gK.nd rfl (.inl rfl)) (ad #[am,5,gK,aq N hr ⋯ rfl %[0,ag|ae]]
   (af (bh (iH qs Gp G0 eE (pv 3) %[aO ix_list (bY %[4,ao aV (pv 4) (ao bN (pv 2) (aq N hr ⋯ rfl %[0,ag|ae])),aq N hr ⋯ rfl %[0,ag|ae],aq N hr ⋯ rfl %[0,ao Fy ag ag|ae]|ae]) (pv 5) #[1]|ae])))))
  (ad (aJ (PW.pt (jH (ai gq (aG aD rfl B.len fx %[1|ae]) ag (ax _)) (iM (ai aS (aq N hr ⋯ rfl %[0,ag|ae]) ag (ax _)))))
   (ad #[am,6,gK,aq N hr ⋯ rfl %[0,2|ae]]
   (ad #[am,7,gK,ao bi (aq c9 hr ⋯ rfl %[3,6,2|ae]) (aq c9 hr ⋯ rfl %[1,6,2|ae])]
   (af (qt (ao aY (ao bi (aO ix_list (pv 3) ag #[1]) (pv 7)) (pv 2)) (wJ (pv 3) ag oW))))) aE)
  (af (au (pv 3)))))),?_⟩
 let y:(10:Int) ^ (9:Int).toNat=1000000000:=by decide
 erw[y0S,λD hD=>?_];let GD:=ej hD (.lst []);let aw:c≠D:=aN hc hD;let g:=F0.ne hD;refine⟨_,rfl,c,rfl,%[_|eH (GD _ _ hc)],gu (K:=K) (xs:=cs.map V.int) (ISr f c D p H)
  %[_,_,[],1,ah,1,(λx t=>by cases t),F0.same GD|fy GD] (λi σ H' _ Pi=>by erw[_,_,_,_,_,_,_,_,h]at Pi;exact eH (h _ _ m hc)) ?_ ?_⟩
 . rintro i z σ H1 hz ⟨x4,x5,xs,rfl,j,C,O,F1,U⟩;let hi:=(Pl hz).1;rw[d8]at hi;rw[hI]at hz;let%[n,hn|1]:=oe hz;let nr:=cr n (ms hn);erw[0,f,(4),1,F1,4,4,λd0 H2 a0 a1 F2 u=>?_];let ab:=u _ _ g j;erw[0,.inl %[1,_|eH ab],0,0,0,0,f,(5),1,F2,4,4,λd1 H3 b0 b1 F3 Y=>?_];erw[2,.inl %[3|3],2,6];erw[0,f,(40),1,F3,4,4,λd2 H4 e0 e1 F4 S4=>?_];erw[0,2,%[4,4|4],f,0,F4,(by show(0:Int)<10 ^ (9:Int).toNat;rw[y];decide),(by show(10:Int) ^ (9:Int).toNat<2 ^ 63;rw[y];decide),λd3 H5 g0 g1 F5 S5=>?_];rw[y]at g1;let m0:0<=p*d1:=Int.mul_nonneg #[0] b0;let m1:p*d1<=p*5:=wa #[0] #[0];generalize p*d1=pd at m0 m1;erw[y4S,λL hL=>?_];let GL:=ej hL (.lst ([n,n+pd,d2,d3].map V.int));let aA:=F5.ne hL;let an:upd H5 L (.lst ([n,n+pd,d2,d3].map V.int)) L=some (.lst ([n,n+pd,d2,d3].map V.int)):=ah;let F6:=F5.same GL;let ap:=GL _ _ (S5 _ _ g (S4 _ _ g (Y _ _ g ab)));let S6:SameBut f H (upd H5 L (.lst ([n,n+pd,d2,d3].map V.int))):=(U.trans (u.trans (Y.trans (S4.trans S5)))).trans (fy GL);let%[v,hv|vm]:=JA (ns:=[n,n+pd,d2,d3]) a0 a1;let vr:0<=v/\v<1000000000000:=by
    simp only[E2,zi,Fj]at vm;omega
   erw[0,L,_,2,eH an,hv,D,2,ap,6,6]
   . rw[d8];exact aM #[0]
   erw[_,_,xs++[v],1,6,6,6,jX F6 g,λb o hb e=>?_]
   . rw[ah,fj];rfl
   . rw[fm,nm,C]
   . intro x t;rcases qO0 t with h | h
     . exact O x h
     . rw[Pn h];exact vr
   . rw[az (aN e hD)];exact S6 b o hb e
 . rintro σ H1 ⟨x4,x5,xs,rfl,j,C,O,F1,U⟩;rw[d8]at C;let ac:=U _ _ m hc;erw[0,c,0,.inl (eH ac),2,0,6]
   by_cases cg:((cs.map V.int).length:Int)>1
   . apply aZ cg ?_;erw[0,f,(2),1,F1,4,4,λd H2 d0 d1 F2 u=>?_];erw[1,0,6]
     by_cases ce:d=0
     . apply aZ (congrArg V.int ce) ?_;erw[0,0,f,p,1,F2,p0,3,λs H3 s0 s1 F3 Y=>?_];let J:=Y _ _ g (u _ _ g j);let ar:=Y _ _ m (u _ _ m ac);erw[0,0,0,D,xs,s,p,1,J,(λx t=>by have:=O x t;omega),3,3,p0,6];erw[0,0,0,c,cs,s,p,1,ar,(λx t=>by have:=cr x t;omega),3,3,p0,6];erw[2,6];obtain⟨x0,xq,rfl⟩:∃x0 xq,xs=x0::xq:=by
        cases xs with
        |nil=>rw[ni]at C;omega
        |cons a r=>erw[a,r,1]
       generalize hor s p (x0::xq)-hor s p cs=M;erw[0,D,_,(0),0,1,eH J,at0 _ _,0,2,0,2,p0,6];erw[0,D,_,(0),(0),1,1,J,(by unfold ixN;rw[Pe ⋯,Pe (by rw[d8,f5];omega)];rfl),6];let y0:0<=(x0-M) % p/\(x0-M) % p<p:=⟨lz _ #[0],mu _ p0⟩
       erw[0,6];apply q D ((x0-M) % p::xq) _ hD ah C (λx t=>?_) (jX F3 g) (λb o hb e=>?_)
       . rcases qA0 t with h | h
         . rw[h];omega
         . exact O x (mj _ h)
       . rw[az (aN e hD)];exact Y b o hb (u b o hb (U b o hb e))
     . apply aF (λe=>ce (V.int.inj e)) ?_;erw[0,q D xs H2 hD (u _ _ g j) C O F2 (U.trans u)]
   . apply aF cg ?_;erw[0,q D xs H1 hD j C O F1 U]
def aU(ts:List Tr)(ns:List Str):List Int:=ts.map λt=>(cnt t ns:Int)
def eQ(ts:List Tr)(ns:List Str):(aU ts ns).length=ts.length:=d8 _
def GameOk(C:Addr)(H:Hp)(g:Addr)(ns:List Str)(ts:List Tr)(p:Int):Prop:=∃(a b d:Addr)(c:List V),GameAt C H g a b d p/\H a=some (.tup (ns.map V.str))/\ns.length<=6/\H b=some (.tup c)/\TreesAt H c ts/\ts.length<=10/\(∀t∈ts,t.ok ns/\t.depth<=12)
def GameOk.same(h:GameOk C H g ns ts p)(s:Same H c):GameOk C c g ns ts p:=by
 erw[a,b,d,e,h1,h2,h3,h4,h5,h6]at h;erw[a,b,d,e,h1.same s,s _ _ h2,h3,s _ _ h4,h5.mono (bc s),h6]
def rT(s p:Int):∀c:List Int,hor s p c=evl s c % p
 | []=>(PP p).symm
 |a::r=>by
   show(hor s p r*s+a) % p=(a+s*evl s r) % p;rw[rT s p r,w4,wb,Int.emod_emod_of_dvd _ (Rj p),←wb,←w4,ti,Rn]
instance spDiff(C:Addr):∀(g l:Addr)(ns:List Str)(ts:List Tr)(xs:List Int)(p:Int),vs=[.ref g,.ref l]->GameOk C H g ns ts p->0<p->H l=some (.lst (xs.map V.int))->xs.length=ts.length->(∀(D:Addr)(H':Hp),H D=none->Same H H'->H' D=some (.lst (((ovr xs (aU ts ns)).map (· % p)).map V.int))->Q (.ref D) H'):=1
def sM:FnScope WD WD (aj jE):=%[|5]
def tU(F:#["differences",jE])(B:Bl mg)(T:GTxt K mg C)(gH:#[16,"counts_of",WC,spCounts C]):#[17,f,fd,WD,spDiff C]:=by
 exists sM
 erw[g,l,ns,ts,xs,p,1,G,p0,hl,J,q]at h;refine⟨_,(af (au (Fs (N:=WC) (ix:=[0]) rfl
  #[3] rfl ⋯ rfl
  (Kx rfl B.zip %[1,aq gH hr ⋯ rfl %[0|ae]|ae])
  (λ_ _ _=>cu (ao aY (ao bi (pv 0) (pv 1)) (kU K (pv 2))))))),?_⟩
 erw[a,b,d,tv,L,ha,nl,hb,TS,t10,tok]at G;erw[0,0,g,a,b,d,ns,tv,ts,p,1,L,ha,nl,hb,TS,t10,tok,λc H1 c0 n hc=>?_];let j:=n _ _ hl;let cl:(aU ts ns).length=ts.length:=eQ ts ns;let ol:(ovr xs (aU ts ns)).length=xs.length:=ii (J.trans cl.symm);erw[dx,hg]at L;erw[l,c,true,true,1,%[_|eH j],%[_|eH hc],λD hD=>?_];apply HA (K:=K) (c:=true) (d:=true) (xs:=xs.map V.int) (ys:=(aU ts ns).map V.int) (by rw[d8,d8,cl,J]) (λi o=>o D=some (.lst ((((ovr xs (aU ts ns)).take i).map (· % p)).map V.int))/\Same H1 o) %[by rw[ah];rfl|ej hD _] (λi o _ h=>%[eH (h.2 _ _ j)|eH (h.2 _ _ hc)]) ?_ ?_
 . rintro i x y t M r O ⟨e,u⟩ ht;let hi:=(Pl r).1;rw[hI]at r O;let%[x',v|1]:=oe r;let%[y',z|1]:=oe O;let U:=ej ht (.tup [.int x',.int y']);let m:=u.trans U;erw[0,0,2,0,g,C,dx,_,0,m _ _ (n _ _ hg),9,T.nF,fN ..,2,p0,6];erw[_,U _ _ e,6,Nx.of hi %[6|λb' o' Y=>?_]]
   . rw[d8,d8,kr];exact aM #[0]
   . rw[ah,Fw v z,fj,fj];rfl
   . rw[az (aN Y hD)];exact m _ _ Y
 . rintro M ⟨e,u⟩;rw[d8,←ol,i0]at e;exact q D M (n.free hD) (n.trans u) e
instance spAre(C:Addr):∀(g l:Addr)(ns:List Str)(ts:List Tr)(xs:List Int)(p:Int),vs=[.ref g,.ref l]->GameOk C H g ns ts p->0<p->H l=some (.lst (xs.map V.int))->xs.length=ts.length->(∀(H':Hp),Same H H'->Q (.bl (wrg p (ovr xs (aU ts ns)))) H'):=1
def vX:FnScope WD WD (aj lS):=%[|5]
def xa(F:#["are_wrong",lS])(B:Bl mg)(t:#[17,"differences",WD,spDiff C]):#[18,f,fd,WD,spAre C]:=by
 exists vX
 erw[g,l,ns,ts,xs,p,1,G,p0,hl,m,q]at h;refine⟨_,(af (au (aG (HE rfl) rfl B.any Ec (aa (bL (N:=[]) (ix:=[]) (cl:=[]) rfl #[5] rfl
  (cI (aq t hr ⋯ rfl %[0,1|ae])) (λ_ _ _=>cu (cJ jw (pv 0) ag (ax _)))) ae)))),?_⟩
 let t10:ts.length<=10:=by erw[_,_,_,_,_,_,_,_,_,h,_]at G;exact h
 let J:(ovr xs (aU ts ns)).length=xs.length:=ii (m.trans (eQ ts ns).symm);erw[0,0,g,l,ns,ts,xs,p,1,G,p0,hl,m,λc u L v hc=>?_];erw[c,1,%[_|eH hc],λD hD=>?_];apply cW (K:=K) (xs:=((ovr xs (aU ts ns)).map (· % p)).map V.int) (λi d=>d D=some (.lst (((((ovr xs (aU ts ns)).map (· % p)).take i).map λn=>!decide (n=0)).map V.bl))/\Same u d) %[by rw[ah];rfl|ej hD _] (λi d _ h=>eH (h.2 _ _ hc)) ?_ ?_
 . rintro i z o e ⟨b,j⟩;let x:=(Pl e).1;rw[hI]at e;let%[n,y|1]:=oe e;erw[0,1,6];erw[_,b,6,Nx.of x %[6|λb' M r=>?_]]
   . rw[d8,d8,kr,d8];exact aM #[0]
   . let e1:decide (V.int n=V.int 0)=decide (n=0):=by
      by_cases c:n=0
      . subst c;simp
      . rw[fw c,fw λz=>c (V.int.inj z)]
     rw[ah,ih,y,fj,fj];show some (HO.lst (_++[V.bl (!decide (V.int n=V.int 0))]))=_;rw[e1];rfl
   . rw[az (aN r hD)];exact j _ _ r
 . rintro o ⟨b,j⟩;rw[d8,i0]at b;erw[D,0,eH b,6];rw[HP];exact q o (v.trans j)
instance spBlind(C:Addr):∀(g l:Addr)(ns:List Str)(ts:List Tr)(xs:List Int)(p:Int),vs=[.ref g,.ref l]->GameOk C H g ns ts p->0<p->p<1500->H l=some (.lst (xs.map V.int))->xs.length=ts.length->(∀(D:Addr)(H':Hp),H D=none->Same H H'->H' D=some (.lst ((gC p (ovr xs (aU ts ns))).map V.int))->Q (.ref D) H'):=1
def pZ{n:Nat}(h:n<=1500):n<sizeLine:=pb h ⋯
def nU:FnScope ["game","claims","above"] WD (aj jG):=%[|5]
def tW(F:#["blind_spots",jG])(B:Bl mg)(T:GTxt K mg C)
 (mM:Meth K C "mix" L)(GM:#[1,L,r,WM,spMix C])(bM:Binds K r WM [])(M:#[17,"differences",WD,spDiff C]):#[18,f,fd,WD,spBlind C]:=by
 exists nU
 erw[g,l,ns,ts,xs,p,1,G,p0,O,hl,U,q]at h;let Y:Room 1 _:=hr.mono ⋯;refine⟨_,(ad (am (i:=2) nU.nd rfl (Or.inr rfl) (aq M hr ⋯ rfl %[0,1|ae]))
  (af (au (bL (N:=["game","above"]) (ix:=[0,2]) rfl
   #[4] rfl
   (bK rfl B.range %[aB (pv 0) rfl|ae]) (λ_ _ _=>yh (ai aS (cq (pv 1) T.cl mM GM Y bM .nil bd %[2,0|ae]) ag (ax _)) (pv 0)))))),?_⟩
 erw[0,0,g,l,ns,ts,xs,p,1,G,p0,hl,U,λc H1 c0 t hc=>?_];let G1:=G.same t;erw[a,b,d,tv,%[u|hg],_]at G1;let m:(gf a b p d).lookup ("mix":Str)=none:=oa _ _ _ _ ⋯ ⋯ ⋯ ⋯;erw[0,g,C,u,_,0,hg,9,T.nF,fN ..,p,1,3,3,λD hD=>?_];apply dR (n:=p.toNat) (λi v=>v D=some (.lst ((fnd (λs=>decide (evl (s:Int) (ovr xs (aU ts ns)) % p=0)) i).map V.int))/\Same H1 v) %[by rw[ah];rfl|ej hD _] ?_ ?_
 . rintro i x y ⟨j,o⟩;erw[0,g,u,0,o _ _ hg,m,6];erw[0,0,g,a,b,d,c,_,0+(i:Int),p,1,%[u|o _ _ hg],p0,3,.inl (o _ _ hc),6];erw[1,0,6];let ei:hor (0+(i:Int)) p ((ovr xs (aU ts ns)).map (· % p))=evl (i:Int) (ovr xs (aU ts ns)) % p:=by rw[rT,BQ,vu]
   rw[ei]
   by_cases e:evl (i:Int) (ovr xs (aU ts ns)) % p=0
   . apply aZ (by rw[e]) ?_;erw[0,_,j,6,Nx.of y %[6|λb' o' J=>?_]]
     . rw [d8]
       have:=rW (λs=>decide (evl (s:Int) (ovr xs (aU ts ns)) % p=0)) i
       exact pZ #[0]
     . rw[ah,iu,ft e,Pe rfl,fj,vu];rfl
     . rw[az (aN J hD)];exact o _ _ J
   . apply aF (λz=>e (V.int.inj z)) ?_;apply Nx.of y %[6|o];rw[iu,fw e,Pd ln,q9];exact j
 . rintro x ⟨j,o⟩;exact q D x (t.free hD) (t.trans o) j
def GameD(C:Addr)(H:Hp)(g d:Addr)(ns:List Str)(ts:List Tr)(p:Int):Prop:=∃(a b:Addr)(c:List V),GameAt C H g a b d p/\H a=some (.tup (ns.map V.str))/\ns.length<=6/\H b=some (.tup c)/\TreesAt H c ts/\ts.length<=10/\(∀t∈ts,t.ok ns/\t.depth<=12)/\H d=some (.lst ((ns.map (bj ts)).map V.int))/\(∀x∈ns,-(2 ^ 40)<bj ts x/\bj ts x<p)
def GameD.ok(h:GameD C H g d ns ts p):GameOk C H g ns ts p:=by
 erw[a,b,c,h1,h2,h3,h4,h5,h6,h7,_]at h;erw[a,b,d,c,h1,h2,h3,h4,h5,h6,h7]
def GameD.same(h:GameD C H g d ns ts p)(s:Same H c):GameD C c g d ns ts p:=by
 erw[a,b,e,h1,h2,h3,h4,h5,h6,h7,h8,h9]at h;erw[a,b,e,h1.same s,s _ _ h2,h3,s _ _ h4,h5.mono (bc s),h6,h7,s _ _ h8,h9]
def GameD.gm(h:GameD C H g d ns ts p):Gm C H g ns ts p/\ns.length<=6:=by
 erw[a,b,c,h1,h2,h3,h4,h5,_,_,h8,_]at h;erw[%[a,b,d,c,h1,h2,h4,h5|h8],h3]
instance spCaught(C:Addr):∀(g d:Addr)(ns:List Str)(ts:List Tr)(p:Int),vs=[.ref g]->GameD C H g d ns ts p->0<p->p<1500->Q (.int (cgt p (ns.map (bj ts)))) H:=1
def gZ:FnScope ["game","told","degree"] WC (aj jF):=%[|5]
def tV(F:#["caught_rows",jF])(T:GTxt K mg C):#[1,f,fd,WC,spCaught C]:=by
 exists gZ
 erw[g,d,ns,ts,p,1,%[a,b,B,%[e|hg],ha,nl,hb,TS,t10,tok,hd|r],p0,t,q]at h;refine⟨_,(ad #[am,1,gZ,ag]
  (ad (cR ks rfl (cI (aB (pv 0) rfl)) (ba (i:=2) gZ.nd rfl (.inl rfl)) (af #[am,1,gZ,ao bN (pv 1) (ao bi (aB (pv 0) rfl) (pv 2))]))
  (af (au (pv 1))))),?_⟩
 erw[0,g,C,e,_,0,hg,9,T.nD,BK ..,d,1,%[_|eH hd],gu (K:=K) (xs:=(ns.map (bj ts)).map V.int) (λi σ j=>∃c:Option V,σ=[some (.ref g),some (.int (cgt p ((ns.map (bj ts)).take i))),c]/\j=H) %[0|1] (λi σ j _ Pi=>by erw[_,_,h]at Pi;subst h;exact eH hd) ?_ ?_]
 . rintro i z σ u m ⟨c,rfl,rfl⟩;rw[hI]at m;let%[n,o|1]:=oe m;let nr:-(2 ^ 40)<n/\n<p:=by
    let%[x,v|1]:=List.mem_map.mp (ms o);exact r x v
   let y:cgt p ((ns.map (bj ts)).take (i+1))=cgt p ((ns.map (bj ts)).take i)*(p-n):=by
    rw[ih,o];exact zh p _ n
   erw[0,0,g,C,e,_,0,hg,9,T.nF,fN ..,0,2,2,.inr %[3|3],6];erw[some (.int n),6,1];rw[y];rfl
 . rintro σ u ⟨c,rfl,rfl⟩;rw[d8,i0];erw[0,q]
instance spLet(C:Addr):∀(g d l:Addr)(ns:List Str)(ts:List Tr)(xs:List Int)(p:Int),vs=[.ref g,.ref l]->GameD C H g d ns ts p->0<p->p<1500->H l=some (.lst (xs.map V.int))->xs.length=ts.length->(∀(H':Hp),Same H H'->Q (.int (lW p ns.length ts.length (cgt p (ns.map (bj ts))) (ovr xs (aU ts ns)))) H'):=1
def gr:FnScope ["game","claims","rows","by_chance","blind"] WD (aj hU):=%[|5]
def pH(F:#["let_by_at_most",hU])(B:Bl mg)(T:GTxt K mg C)(x:#[1,"power",Wt,spPow])(y:#[2,"rows_of_coins",WC,spRowsC C])(J:#[1,"caught_rows",WC,spCaught C])
 (L:#[18,"are_wrong",WD,spAre C])(M:#[18,"blind_spots",WD,spBlind C]):#[19,f,fd,WD,spLet C]:=by
 exists gr
 erw[g,d,l,ns,ts,xs,p,1,G,p0,j,hl,u,q]at h;refine⟨_,(ad (aJ (iE (dP (aq L hr ⋯ rfl %[0,1|ae]))) (af (au (aq y hr ⋯ rfl %[0|ae]))) aE)
  (ad #[am,2,gr,aq x hr ⋯ rfl %[aB (pv 0) rfl,aG aD rfl B.len fx %[aB (pv 0) rfl|ae]|ae]]
  (ad #[am,3,gr,ao bi (pv 2) (aq J hr ⋯ rfl %[0|ae])]
  (ad (aJ (ai aS (aG aD rfl B.len fx %[aB (pv 0) rfl|ae]) ag (ax _)) (af (au (pv 3))) aE)
  (ad #[am,4,gr,aG aD rfl B.len fx %[aq M hr ⋯ rfl %[0,1|ae]|ae]]
  (af (au (ao aV (ao bN (pv 4) (pv 2)) (ao bN (ao bi (aB (pv 0) rfl) (pv 4)) (pv 3)))))))))),?_⟩
 erw[0,0,g,l,ns,ts,xs,p,1,G.ok,p0,hl,u,λN n=>%[0|6]];let m:=G.same n;let e:=q N n;unfold lW at e;cases W:wrg p (ovr xs (aU ts ns))with
 |false=>
   rw[W,Pd ln]at e;apply eF ?_;erw[0,g,ns,ts,p,1,m.gm.1,m.gm.2,p0,3,e]
 |true=>
   rw[W,Pe rfl]at e;apply cQ ?_;let%[a,b,O,%[o|hg],ha,nl,hb,TS,t10,tok,hd|dr]:=id m;let U:=TS.length;erw[0,g,C,o,_,0,hg,9,T.nF,fN ..,0,g,C,o,_,0,hg,9,T.nS,pR ..,a,0,.inr (dV ha),p,0,3,by rw[d8];omega,p0,3,6];let en:(((ns.map V.str).length:Nat):Int).toNat=ns.length:=by rw[d8];omega
   rw[en];erw[0,0,g,d,ns,ts,p,1,m,p0,j,2,6];erw[0,g,C,o,_,0,hg,9,T.nT,nZ ..,b,0,.inr (dV hb),1,0,6]
   by_cases c:V.int (O.length:Int)=V.int 1
   . apply aZ c ?_;let r:ts.length=1:=by have:=V.int.inj c;omega
     rw[Pe r]at e;erw[0,e]
   . apply aF c ?_;let r:¬ ts.length=1:=λz=>c (by rw[U,z];rfl)
     erw[0,0,g,l,ns,ts,xs,p,1,m.ok,p0,j,n _ _ hl,u,λD Y D0 v hD=>?_];let t:=q Y (n.trans v);unfold lW at t;rw[W,Pe rfl,Pd r]at t;let bl:=rW (λs=>decide (evl (s:Int) (ovr xs (aU ts ns)) % p=0)) p.toNat;let ab:(gC p (ovr xs (aU ts ns))).length<=p.toNat:=bl;erw[D,0,.inl (eH hD),6];rw[d8];erw[0,0,2,.inl %[3|3],0,g,C,o,_,0,v _ _ hg,T.cl,T.nF,fN ..,0,2,0,2,.inl %[3|3],2,t]
def nY(p:Int)(n m:Nat)(c:Bool)(b:Nat)(g:Int):Int:=
 if c=true then(if m=1 then p ^ n-g else(b:Int)*p ^ n+(p-(b:Int))*(p ^ n-g))else p ^ (if m=1 then n else n+1)
def jR(p:Int)(n m:Nat)(g:Int)(c:List Int):lW p n m g c=nY p n m (wrg p c) (gC p c).length g:=rfl
instance spMost82:∀(a b l:Addr)(ns:List Str)(tv bv:List V)(ts:List Tr)(p:Int)(wr:Bool),vs=[.ref a,.ref b,.int p,.bl wr,.ref l]->H a=some (.tup (ns.map V.str))->H b=some (.tup tv)->TreesAt H tv ts->H l=some (.lst bv)->bv.length<=1500->ns.length<=10->1<=ts.length->ts.length<=10->(∀t∈ts,t.wf/\t.depth<=10/\t.size<=400)->0<p->p<1500->(∀x∈ns,-(2 ^ 40)<bj ts x/\bj ts x<p)->(∀(H':Hp),Same H H'->Q (.int (nY p ns.length ts.length wr bv.length (cgt p (ns.map (bj ts))))) H'):=1
def jP:FnScope ["_law_names_here","_law_trees","_law_field_here","_law_wrong","_law_blind","_law_whole","_law_caught","_law_degree"] W9 (aj sR):=%[|5]
def Dc(F:#["_law_most",sR])(B:Bl mg)(r:#[1,"_law_rows_in",WO,spPow])(L:#[13,"_law_degrees",Wi,spLDeg]):#[14,f,fd,W9,spMost82]:=by
 exists jP
 erw[a,b,l,ns,t,bv,ts,p,M,1,ha,hb,TS,hl,u,n10,t1,t10,N,p0,O,U,q]at h;refine⟨_,(ad #[am,5,jP,aq r hr ⋯ rfl %[2,aG aD rfl B.len fx %[0|ae]|ae]]
  (ad (aJ (iE (dP (pv 3))) (af (au (aq r hr ⋯ rfl %[2,ao aV (aG aD rfl B.len fx %[0|ae]) (aX qH rfl B.int iS %[cJ gq (aG aD rfl B.len fx %[1|ae]) ag (ax _)|ae])|ae]))) aE)
  (ad #[am,6,jP,ag]
  (ad (cR ks rfl (cI (aq L hr ⋯ rfl %[0,1|ae])) (ba (i:=7) jP.nd rfl (.inl rfl)) (af #[am,6,jP,ao bN (pv 6) (ao bi (pv 2) (pv 7))]))
  (ad (aJ (ai aS (aG aD rfl B.len fx %[1|ae]) ag (ax _)) (af (au (ao bi (pv 5) (pv 6)))) aE)
  (af (au (ao aV (ao bN (aG aD rfl B.len fx %[4|ae]) (pv 5)) (ao bN (ao bi (pv 2) (aG aD rfl B.len fx %[4|ae])) (ao bi (pv 5) (pv 6))))))))))),?_⟩
 let v:=TS.length;let en:(((ns.map V.str).length:Nat):Int).toNat=ns.length:=by rw[d8];omega
 erw[0,0,a,0,.inr (dV ha),p,0,3,by rw[d8];omega,p0,3,6];rw[en];erw[0,0,6];cases M with
 |false=>
   apply eF ?_;erw[0,0,a,0,.inr (dV ha),0,b,0,.inr (dV hb),2,.inr %[0,2,p,(bm ns ts:Int),by rw[←uy t1 v];rfl,3,by unfold bm;split <;> omega,p0,3|6]];let e:((bm ns ts:Nat):Int).toNat=(if ts.length=1 then ns.length else ns.length+1):=by
    unfold bm
    split <;> omega
   let g:=q H (Same.refl H);unfold nY at g;rw[Pd ln,←e]at g;exact g
 |true =>
   apply cQ ?_;erw[0,0,false,false,a,b,ns,t,ts,1,ha,hb,TS,n10,t1,t10,N,λd y d0 j hd=>?_];let g:=q y j;unfold nY at g;rw[Pe rfl]at g;erw[d,1,%[_|eH hd],gu (K:=K) (xs:=(ns.map (bj ts)).map V.int) (λi σ C=>∃m:Option V,σ=[some (.ref a),some (.ref b),some (.int p),some (.bl true),some (.ref l),some (.int (p ^ ns.length)),some (.int (cgt p ((ns.map (bj ts)).take i))),m]/\C=y) %[0|1] (λi σ C _ Pi=>by erw[_,_,h]at Pi;subst h;exact eH hd) ?_ ?_]
   . rintro i z σ Y D ⟨m,rfl,rfl⟩;rw[hI]at D;let%[n,J|1]:=oe D;let nr:-(2 ^ 40)<n/\n<p:=by
      let%[x,hx|1]:=List.mem_map.mp (ms J);exact U x hx
     let et:cgt p ((ns.map (bj ts)).take (i+1))=cgt p ((ns.map (bj ts)).take i)*(p-n):=by
      rw[ih,J];exact zh p _ n
     erw[0,0,0,2,2,.inr %[3|3],6];erw[some (.int n),6,1];rw[et];rfl
   . rintro σ Y ⟨m,rfl,rfl⟩;rw[d8,i0];erw[0,b,0,.inr (dV (j _ _ hb)),1,0,6]
     by_cases c:V.int (t.length:Int)=V.int 1
     . apply aZ c ?_;let o:ts.length=1:=by have:=V.int.inj c;omega
       rw[Pe o]at g;erw[0,0,2,g]
     . apply aF c ?_;let o:¬ ts.length=1:=λz=>c (by rw[v,z];rfl)
       rw[Pd o]at g;erw[0,l,0,.inl (eH (j _ _ hl)),0,2,.inl %[3|3],0,0,l,0,.inl (eH (j _ _ hl)),2,0,0,2,2,.inl %[3|3],2,g]
def vy(s:Int):∀(xs cs:List Int),xs.length=cs.length->evl s (ovr xs cs)=evl s xs-evl s cs
 | [],[],_=>rfl
 |x::xs,c::cs,h=>by
   show(x-c)+s*evl s (ovr xs cs)=(x+s*evl s xs)-(c+s*evl s cs)
   rw[vy s xs cs (Nat.succ.inj h),P6];omega
 | [],_::_,h=>nomatch h
 |_::_,[],h=>nomatch h
def nq{xs cs:List Int}(h:xs.length=cs.length):hor s p xs=hor s p cs↔evl s (ovr xs cs) % p=0:=by
 rw[rT,rT,vy s xs cs h];exact Ro
def oJ{p:Int}:∀(xs cs:List Int),xs.length=cs.length->decide (xs.map (· % p)=cs.map (· % p))=!wrg p (ovr xs cs)
 | [],[],_=>rfl
 |x::xs,c::cs,h=>by
   let b:=oJ (p:=p) xs cs (Nat.succ.inj h);show decide (x % p::xs.map (· % p)=c % p::cs.map (· % p))=!((!decide ((x-c) % p=0))||wrg p (ovr xs cs));let e:(x % p=c % p)↔((x-c) % p=0):=Ro;rw[Bool.not_or,Bool.not_not,←b,←Bool.decide_and];exact decide_eq_decide.mpr (by rw[List.cons.injEq,e])
 | [],_::_,h=>nomatch h
 |_::_,[],h=>nomatch h
instance spOth82(C:Addr):∀(g c l:Addr)(ns:List Str)(ts:List Tr)(xs:List Int)(p:Int),vs=[.ref g,.ref c,.ref l]->GameOk C H g ns ts p->0<p->p<1500->H c=some (.lst ((aU ts ns).map V.int))->(∀x∈aU ts ns,-(2 ^ 62)<x/\x<2 ^ 62)->H l=some (.lst (xs.map V.int))->(∀x∈xs,-(2 ^ 62)<x/\x<2 ^ 62)->xs.length=ts.length->1<=ts.length->ts.length<=10->(∀(H':Hp),Same H H'->Q (.bl true) H'):=1
def jr:FnScope ["_law_game","_law_counts","_law_claims_here","_law_p","_law_some"] VA (aj oE):=%[|5]
def vx{g:Nat->Bool}:∀i,(∀k,g k=false)->fnd g i=[]
 |0,_=>rfl
 |i+1,h=>by
   rw[iu,vx i h,h i,Pd ln];rfl
def qO{xs cs:List Int}(h:xs.length<=1)(e:xs.length=cs.length)(W:wrg p (ovr xs cs)=true):gC p (ovr xs cs)=[]:=by
 match xs,cs,h,e,W with
 | [],[],_,_,W=>exact Bool.noConfusion (show false=true from W)
 | [x],[c],_,_,W=>
   apply vx _ λk=>fw λz=>?_
   let b:(x-c+(k:Int)*0) % p=0:=z;rw[Int.mul_zero,QC]at b;let d:((!decide ((x-c) % p=0))||false)=true:=W;rw[b,ft rfl]at d;cases d
def yq(F:#["_law_others",oE])(B:Bl mg)(T:GTxt K mg C)(c9:#[1,"_law_mixed",Wj,spLMx])(cP:#[18,"are_wrong",WD,spAre C])(b6:#[18,"blind_spots",WD,spBlind C]):#[19,f,fd,VA,spOth82 C]:=by
 exists jr
 erw[g,c,l,ns,ts,xs,p,1,G,p0,ab,hc,cr,hl,xr,xl,t1,t10,q]at h;refine⟨_,(ad (am (i:=3) jr.nd rfl (Or.inr rfl) (aB (pv 0) rfl))
  (ad (aJ (ai (oI hr.units) (bL (N:=["_law_p"]) (ix:=[3]) rfl
   #[3] rfl
   (cI (pv 2)) (λ_ _ _=>cu (ao aY (pv 0) (pv 1))))
   (bL (N:=["_law_p"]) (ix:=[3]) rfl
   #[3] rfl
   (cI (pv 1)) (λ_ _ _=>cu (ao aY (pv 0) (pv 1)))) (ax _)) (af (au (cJ Fz (aq cP hr ⋯ rfl %[0,2|ae]) je (ax _)))) aE)
  (ad #[am,4,jr,bY ae]
  (ad (aJ (ai gq (aG aD rfl B.len fx %[1|ae]) ag (ax _))
   (af (kP (i:=4) (N:=["_law_p","_law_counts","_law_claims_here"]) (ix:=[3,1,2]) jr.nd rfl (.inl rfl) rfl
    (CompScope.three (by rfl') ⋯ rfl ⋯ rfl ⋯ rfl (by rfl') (by rfl') (by rfl') (by rfl') (by rfl') rfl rfl (by rfl') rfl rfl (by rfl') rfl rfl) rfl
    (bK rfl B.range %[3|ae]) (λ_ _ _=>yh (ai aS (aq c9 hr ⋯ rfl %[3,0,1|ae]) (aq c9 hr ⋯ rfl %[2,0,1|ae]) (ax _)) (pv 0)))) aE)
  (af (au (tN (cJ (oI hr.units) (aq b6 hr ⋯ rfl %[0,2|ae]) (pv 4) (ax _)) (qw (cJ Fz (aq cP hr ⋯ rfl %[0,2|ae]) je (ax _)))))))))),?_⟩
 let cl:(aU ts ns).length=ts.length:=eQ ts ns;let xc:xs.length=(aU ts ns).length:=xl.trans cl.symm;let%[a,b,d,tv,%[dx|hg]|_]:=id G;erw[0,g,C,dx,_,0,hg,9,T.nF,fN ..,6];erw[0,l,1,%[_|eH hl],λD ac=>?_];apply cW (K:=K) (xs:=(xs).map V.int) (λi r=>r D=some (.lst ((((xs).take i).map (· % p)).map V.int))/\Same H r) %[ah|ej ac _] (λi r _ h=>eH (h.2 _ _ hl)) ?_ ?_
 . rintro i z H2 O ⟨U,S2⟩;let t:=(Pl O).1;let aw:i<(xs).length:=by rw[d8]at t;exact t
   rw[hI]at O;let%[x,hx|1]:=oe O;erw[0,0,2,p0,_,U,6,Nx.of t %[6|λb' o' y=>?_]]
   . rw[d8,d8,kr];exact aM #[0]
   . rw[ah,ih,hx];show some (HO.lst (_++[V.int (x % p)]))=some (HO.lst ((((xs).take i++[x]).map (· % p)).map V.int));rw[fj,fj];rfl
   . rw[az (aN y ac)];exact S2 _ _ y
 rintro H1 ⟨hD,S1⟩;rw[d8,i0]at hD;let an:=S1 _ _ hc;erw[0,c,1,%[_|eH an],λD3 J=>?_];apply cW (K:=K) (xs:=(aU ts ns).map V.int) (λi r=>r D3=some (.lst ((((aU ts ns).take i).map (· % p)).map V.int))/\Same H1 r) %[ah|ej J _] (λi r _ h=>eH (h.2 _ _ an)) ?_ ?_
 . rintro i z H2 O ⟨U,S2⟩;let t:=(Pl O).1;let aw:i<(aU ts ns).length:=by rw[d8]at t;exact t
   rw[hI]at O;let%[x,hx|1]:=oe O;erw[0,0,2,p0,_,U,6,Nx.of t %[6|λb' o' y=>?_]]
   . rw[d8,d8,kr];exact aM #[0]
   . rw[ah,ih,hx];show some (HO.lst (_++[V.int (x % p)]))=some (HO.lst ((((aU ts ns).take i++[x]).map (· % p)).map V.int));rw[fj,fj];rfl
   . rw[az (aN y J)];exact S2 _ _ y
 rintro H3 ⟨ap,S3⟩;rw[d8,i0]at ap;let m:=S1.trans S3;let G3:=G.same m;let aA:=m _ _ hl;let aK:=m _ _ hc;erw[_,_,.lst (eH (S3 _ _ hD)) (dq _),.lst (eH ap) (dq _),dB _,dB _,6];rw[qE,oJ xs (aU ts ns) xc];erw[0,6];cases W:wrg p (ovr xs (aU ts ns))with
 |false=>
   apply eF ?_;erw[0,0,g,l,ns,ts,xs,p,1,G3,p0,aA,xl,λH4 S4=>?_];rw[W];erw[2,q H4 (m.trans S4)]
 |true =>
   apply cQ ?_;erw[y0S,λL hL=>?_];let GL:=ej hL (.lst []);let ar:upd H3 L (.lst []) L=some (.lst []):=ah;let j:=m.trans GL;generalize upd H3 L (.lst [])=H4 at GL ar j;let aC:=j _ _ hl;let as:=j _ _ hc;erw[0,c,0,.inl (eH as),2,0,6]
   by_cases cg:(((aU ts ns).map V.int).length:Int)>1
   . apply aZ cg ?_;erw[0,p,1,3,3,λM hM=>?_];apply dR (n:=p.toNat) (λi r=>r M=some (.lst ((fnd (λs=>decide (evl (s:Int) (ovr xs (aU ts ns)) % p=0)) i).map V.int))/\Same H4 r) %[by rw[ah];rfl|ej hM _] ?_ ?_
     . rintro i H5 t ⟨u,S5⟩;erw[0,0,0,l,xs,0+(i:Int),p,1,S5 _ _ aC,xr,3,3,p0,6];erw[0,0,0,c,aU ts ns,0+(i:Int),p,1,S5 _ _ as,cr,3,3,p0,6];erw[1,0,6];rw[vu]
       by_cases e:evl (i:Int) (ovr xs (aU ts ns)) % p=0
       . apply aZ (congrArg V.int ((nq xc).mpr e)) ?_;erw[0,_,u,6,Nx.of t %[6|λb' o' y=>?_]]
         . rw [d8]
           have:=rW (λs=>decide (evl (s:Int) (ovr xs (aU ts ns)) % p=0)) i
           exact pZ #[0]
         . rw[ah,iu,ft e,Pe rfl,fj];rfl
         . rw[az (aN y hM)];exact S5 _ _ y
       . apply aF (λz=>e ((nq xc).mp (V.int.inj z))) ?_;apply Nx.of t %[6|S5];rw[iu,fw e,Pd ln,q9];exact u
     . rintro H5 ⟨u,S5⟩;let o:=j.trans S5;let av:H5 M=some (.lst ((gC p (ovr xs (aU ts ns))).map V.int)):=u;erw[0,0,g,l,ns,ts,xs,p,1,G.same o,p0,ab,o _ _ hl,xl,λD6 H6 d6 v Y=>?_];erw[0,_,_,.lst (eH Y) (dq _),.lst (eH (v _ _ av)) (dq _),dB _,dB _,6];rw[qE,ft rfl];erw[0,6];apply eF ?_;erw[0,0,g,l,ns,ts,xs,p,1,G.same (o.trans v),p0,(o.trans v) _ _ hl,xl,λH7 S7=>?_];rw[W];erw[2,q H7 ((o.trans v).trans S7)]
   . apply aF cg ?_;rw[d8]at cg;let aH:H4 L=some (.lst ((gC p (ovr xs (aU ts ns))).map V.int)):=by
      rw[qO (by rw[xc];omega) xc W];exact ar
     erw[0,0,g,l,ns,ts,xs,p,1,G.same j,p0,ab,j _ _ hl,xl,λD6 H6 d6 v Y=>?_];erw[0,_,_,.lst (eH Y) (dq _),.lst (eH (v _ _ aH)) (dq _),dB _,dB _,6];rw[qE,ft rfl];erw[0,6];apply eF ?_;erw[0,0,g,l,ns,ts,xs,p,1,G.same (j.trans v),p0,(j.trans v) _ _ hl,xl,λH7 S7=>?_];rw[W];erw[2,q H7 ((j.trans v).trans S7)]
def kept:List Str:=["yes","no","not","and","or","odd","same","round","due","asked","true","coin"]
def NmK(x:Str):Prop:=(∀c∈x.cps.toList,97<=c/\c<=122)/\1<=x.length/\x.length<=6/\x∉kept
def Tm.ok:Tm->Prop
 |.num n=>0<=n/\n<1000000000000 | .box x=>NmK x | .plain w=>w∈plainW | .ask w a=>w∈askW/\a.ok | .op s a b=>s∈signW/\a.ok/\b.ok
def Tm.fit(m:Nat)(t:Tm):Prop:=t.ok/\t.size<=m/\t.depth<=8
def Hr.ok(m:Nat):Hr->Prop
 |.fin=>True | .go n=>0<=n/\n<1000000000000 | .iff t n=>t.fit m/\0<=n/\n<1000000000000 | .set x t=>NmK x/\t.fit m | .say t=>t.fit m
def LET:Str:="abcdefghijklmnopqrstuvwxyz"
def ENDS:Str:=" ()"
def isIn(L:Str)(c:Nat):Bool:=!(Builtin.Str.occurrences L %[|#[c]] 0 L.length 1).isEmpty
def li(z:Str):Bool:=decide (1<=z.length)&&decide (z.length<=6)&&!inV (.str z) (kept.map V.str)&&z.cps.toList.all (isIn LET)
def FIG:Str:="0123456789"
def nJ(z:Str):Bool:=decide (1<=z.length)&&decide (z.length<=12)&&!(decide (1<z.length)&&Txt.startswith z "0")&&z.cps.toList.all (isIn FIG)
def xT{z:Str}{c:Nat}(h:z.cps.toList[0]?=some c):Txt.startswith z "0"=decide (V.str %[|#[c]]=V.str "0"):=by
 let q:=StrLaws.subAt_one z 48 0;let e0:("0":Str)=%[|#[48]]:=by decide
 unfold Txt.startswith;rw[e0]
 by_cases hc:c=48
 . subst hc
   have:=q.mpr h
   rw[show decide (V.str (%[|#[48]]:Str)=V.str ⟨#[48]⟩)=true from ft rfl];simp only[PL,RX];exact this
 . let b:¬ (V.str (%[|#[c]]:Str)=V.str ⟨#[48]⟩):=λe=>hc (by
    have:=V.str.inj e
    injection this with this
    simpa using this)
   rw[show decide (V.str (%[|#[c]]:Str)=V.str ⟨#[48]⟩)=false from fw b];rw[Bool.eq_false_iff];intro e;simp only[PL,RX]at e
   have:=q.mp e
   rw[h]at this;exact hc (j3 this)
instance spTxt(fB:Str->Bool):∀z:Str,vs=[.str z]->z.length<=1000->(∀H',Same H H'->Q (.bl (fB z)) H'):=1
structure Tx(K:W.Frag)(mg:#[9]):Prop where
 letters:∃t,mg "LETTERS"=some (.str LET t)
 longest:∃t,mg "LONGEST_NAME"=some (.int 6 t)
 keptW:∃a,mg "KEPT_WORDS"=some (.ref a)/\∀H,SqT K H a (kept.map V.str)
 ends:∃t,mg "WORD_ENDS"=some (.str ENDS t)
 within:∃t,mg "MOST_WITHIN"=some (.int 8 t)
 parts:∃t,mg "MOST_PARTS"=some (.int 20 t)
 figures:∃t,mg "FIGURES"=some (.str FIG t)
 most:∃t,mg "MOST_FIGURES"=some (.int 12 t)
 rows:∃t,mg "MOST_ROWS_helptexts"=some (.int 60 t)
 signs:∃a,mg "SIGNS"=some (.ref a)/\∀H,SqT K H a (signW.map V.str)
 asking:∃a,mg "ASKING_WORDS"=some (.ref a)/\∀H,SqT K H a (askW.map V.str)
 plain:∃a,mg "PLAIN_WORDS"=some (.ref a)/\∀H,SqT K H a (plainW.map V.str)
def ue(z:Str):z.cps.size=z.length:=rfl
def zO:FnScope WE WE (aj qm):=%[|5]
def An(F:#["is_name",qm])(B:Bl mg)(T:Tx K mg):#[1,f,fd,WE,spTxt li]:=by
 exists zO
 erw[z,1,j,q]at h;erw[t1,g1]at T.letters;erw[C,g3]at T.longest;erw[m,g5,x]at T.keptW;refine⟨_,(ad (aJ (PW.pt (ip (ai iI (aG dL rfl B.len fx %[0|ae]) ag (ax _)) (ip (ai gq (aG dL rfl B.len fx %[0|ae]) (dI (v:=.int 6) rfl g3 ⟨_,rfl⟩) (ax _)) (hV (ai fK (pv 0) (dI (v:=.ref m) rfl g5 rfl) (by rfl')))))) (af (au je)) aE)
  (af (au (aG (uB rfl) rfl B.all RB (aa (bL (N:=[]) (ix:=[]) (cl:=[]) rfl #[5] rfl (Fm (pv 0))
   (λ_ _ _=>cu (cJ vk (pv 0) (dI (v:=.str LET) rfl g1 %[|0]) (by rfl')))) ae))))),?_⟩
 let d:li z=false->Q (.bl false) H:=λe=>by
  have:=q H (Same.refl H)
  rw[e]at this;exact this
 erw[0,z,1,cx j,2,0,6]
 by_cases n:(z.length:Int)<1
 . apply aZ n (eF ?_);exact d (by unfold li;rw[fw (show ¬ 1<=z.length by omega)];rfl)
 apply aF n ?_;erw[0,z,1,cx j,2,0,6]
 by_cases r:(6:Int)<(z.length:Int)
 . apply aZ r (eF ?_);exact d (by unfold li;rw[fw (show ¬ z.length<=6 by omega)];simp)
 apply aF r ?_;erw[0,m,0,.inr (x _),1,⋯,0,6];cases t:inV (.str z) (kept.map V.str)with
 |true=>
   apply eF ?_;exact d (by unfold li;rw[t];simp)
 |false=>
   apply cQ ?_;erw[0,z,1,λD hD=>?_];apply uv (z:=z) (λi g=>g D=some (.lst (((z.cps.toList.take i).map (isIn LET)).map V.bl))/\Same H g) %[by rw[ah];rfl|ej hD _] ?_ ?_
   . rintro i c g hc ⟨hl,s0⟩;let u:i<z.cps.size:=(Array.getElem?_eq_some_iff.mp hc).1;rw[ue]at u;erw[0,2,_,hl,6,Nx.of u %[6|6]]
     . rw[d8,d8,kr];exact aM #[0]
     . rw [ah];let y:z.cps.toList[i]?=some c:=#[hc,0]
       rw[ih,y,fj,fj];rfl
     . intro b o e;rw[az (aN e hD)];exact s0 b o e
   . rintro g ⟨hl,s0⟩;rw[show z.cps.toList.take z.cps.size=z.cps.toList by rw[←Ps];exact i0]at hl;erw[D,0,eH hl,6];let e:li z=(z.cps.toList.map (isIn LET)).all id:=by
      unfold li;rw[t,ft (show 1<=z.length by omega),ft (show z.length<=6 by omega),List.all_map];rfl
     rw[←e];exact q g s0
def uJ:FnScope WE WE (aj kI):=%[|5]
def uP(F:#["is_figures",kI])(B:Bl mg)(T:Tx K mg):#[1,f,fd,WE,spTxt nJ]:=by
 exists uJ
 erw[z,1,m,q]at h;erw[t1,g1]at T.figures;erw[C,g3]at T.most;refine⟨_,(ad (aJ (PW.pt (ip (ai iI (aG dL rfl B.len fx %[0|ae]) ag (ax _)) (hV (ai gq (aG dL rfl B.len fx %[0|ae]) (dI (v:=.int 12) rfl g3 ⟨_,rfl⟩) (ax _))))) (af (au je)) aE)
  (ad (aJ (PW.pt (jH (ai gq (aG dL rfl B.len fx %[0|ae]) ag (ax _)) (iM (dP (iH QM PySem.F.slot_str_startswith PySem.F.type_str_startswith uU (pv 0) %[aI|ae]))))) (af (au je)) aE)
  (af (au (aG (uB rfl) rfl B.all RB (aa (bL (N:=[]) (ix:=[]) (cl:=[]) rfl #[5] rfl (Fm (pv 0))
   (λ_ _ _=>cu (cJ vk (pv 0) (dI (v:=.str FIG) rfl g1 %[|0]) (by rfl')))) ae)))))),?_⟩
 let g:nJ z=false->Q (.bl false) H:=λe=>by
  have:=q H (Same.refl H)
  rw[e]at this;exact this
 erw[0,z,1,cx m,2,0,6]
 by_cases t:(z.length:Int)<1
 . apply aZ t (eF ?_);exact g (by unfold nJ;rw[fw (show ¬ 1<=z.length by omega)];rfl)
 apply aF t ?_;erw[0,z,1,cx m,2,0,6]
 by_cases u:(12:Int)<(z.length:Int)
 . apply aZ u ?_;exact g (by unfold nJ;rw[fw (show ¬ z.length<=12 by omega)];simp)
 apply aF u ?_;erw[0,z,1,cx m,2,0,6]
 by_cases x:(1:Int)<(z.length:Int)
 . apply aZ x ?_;erw[0,1,z,0,1,0,6];cases y:Txt.startswith z "0" with
   |true=>
     apply eF ?_;exact g (by unfold nJ;rw[y,ft (show 1<z.length by omega)];simp)
   |false=>
     apply cQ ?_;let n:(decide (1<z.length)&&Txt.startswith z "0")=false:=by rw[y];simp
     erw[0,z,1,λD hD=>?_];apply uv (z:=z) (λi d=>d D=some (.lst (((z.cps.toList.take i).map (isIn FIG)).map V.bl))/\Same H d) %[by rw[ah];rfl|ej hD _] ?_ ?_
     . rintro i c d hc ⟨hl,s0⟩;let j:i<z.cps.size:=(Array.getElem?_eq_some_iff.mp hc).1;rw[ue]at j;erw[0,2,_,hl,6,Nx.of j %[6|6]]
       . rw[d8,d8,kr];exact aM #[0]
       . rw [ah];let r:z.cps.toList[i]?=some c:=#[hc,0]
         rw[ih,r,fj,fj];rfl
       . intro b o e;rw[az (aN e hD)];exact s0 b o e
     . rintro d ⟨hl,s0⟩;rw[show z.cps.toList.take z.cps.size=z.cps.toList by rw[←Ps];exact i0]at hl;erw[D,0,eH hl,6];let e:nJ z=(z.cps.toList.map (isIn FIG)).all id:=by
        unfold nJ;rw[n,ft (show 1<=z.length by omega),ft (show z.length<=12 by omega),List.all_map];rfl
       rw[←e];exact q d s0
 . apply aF x ?_;apply cQ ?_;let n:(decide (1<z.length)&&Txt.startswith z "0")=false:=by rw[fw (show ¬ 1<z.length by omega)];rfl
   erw[0,z,1,λD hD=>?_];apply uv (z:=z) (λi d=>d D=some (.lst (((z.cps.toList.take i).map (isIn FIG)).map V.bl))/\Same H d) %[by rw[ah];rfl|ej hD _] ?_ ?_
   . rintro i c d hc ⟨hl,s0⟩;let j:i<z.cps.size:=(Array.getElem?_eq_some_iff.mp hc).1;rw[ue]at j;erw[0,2,_,hl,6,Nx.of j %[6|6]]
     . rw[d8,d8,kr];exact aM #[0]
     . rw [ah];let r:z.cps.toList[i]?=some c:=#[hc,0]
       rw[ih,r,fj,fj];rfl
     . intro b o e;rw[az (aN e hD)];exact s0 b o e
   . rintro d ⟨hl,s0⟩;rw[show z.cps.toList.take z.cps.size=z.cps.toList by rw[←Ps];exact i0]at hl;erw[D,0,eH hl,6];let e:nJ z=(z.cps.toList.map (isIn FIG)).all id:=by
      unfold nJ;rw[n,ft (show 1<=z.length by omega),ft (show z.length<=12 by omega),List.all_map];rfl
     rw[←e];exact q d s0
def KI:∀c:Fin 26,isIn LET (97+c.val)=true:=by decide
def Jh:∀c:Fin 26,isIn ENDS (97+c.val)=false:=by decide
def ends_in:isIn ENDS 32=true/\isIn ENDS 40=true/\isIn ENDS 41=true:=by decide
def GX{c:Nat}(h:97<=c/\c<=122):isIn LET c=true:=by
 have:=KI %[c-97|3]
 rwa [show 97+(%[c-97|3]:Fin 26).val=c by show 97+(c-97)=c;omega]at this
def DG{c:Nat}(h:97<=c/\c<=122):isIn ENDS c=false:=by
 have:=Jh %[c-97|3]
 rwa [show 97+(%[c-97|3]:Fin 26).val=c by show 97+(c-97)=c;omega]at this
def BE(h:NmK x):li x=true:=by
 erw[hl,h1,h6,b]at h;unfold li;rw[jy,ft h1,ft h6,fw b];simp only[Bool.and_self,Bool.not_false,Bool.true_and];rw[QX];exact λc hc=>GX (hl c hc)
def stl(l:List Nat):Str:=%[|l.toArray]
def Iq{a b:Str}(h:a.cps.toList=b.cps.toList):a=b:=by
 cases a with
 |mk x=>
   cases b with
   |mk y=>
     have:x=y:=Array.toList_inj.mp h
     rw[this]
def ou(x:Str):stl x.cps.toList=x:=rfl
def Iv(l:List Nat):(stl l).length=l.length:=by
 show l.toArray.size=_
 simp
def kf(a b:Str):(a++b).cps.toList=a.cps.toList++b.cps.toList:=by simp [P1]
def xt:(("(":Str)).cps.toList=[40]:=by decide
def Gq:((")":Str)).cps.toList=[41]:=by decide
def oK:((" ":Str)).cps.toList=[32]:=by decide
def EA{a b:Str}(h:V.str a=V.str b):a=b:=V.str.inj h
def neStr{a b:Str}(h:a≠b):¬ V.str a=V.str b:=λz=>h (EA z)
def jn(c:Nat):List (List Nat)->List Nat
 | []=>[]
 | [a]=>a
 |a::b::r=>a++c::jn c (b::r)
def Hz{c:Nat}:∀{a b x y:List Nat},c∉a->c∉b->a++c::x=b++c::y->a=b/\x=y
 | [],[],_,_,_,_,h=>%[1|(List.cons.inj h).2]
 | [],d::b,x,y,_,hb,h=>by
   have:=(List.cons.inj h).1
   exact absurd (by rw[this];exact kb) hb
 |d::a,[],x,y,ha,_,h=>by
   have:=(List.cons.inj h).1
   exact absurd (by rw[←this];exact kb) ha
 |d::a,e::b,x,y,ha,hb,h=>by
   let h':=List.cons.inj h;let r:=Hz (λz=>ha (mj _ z)) (λz=>hb (mj _ z)) h'.2;erw[by rw[h'.1,r.1],r.2]
def GO{c:Nat}:∀{l m:List (List Nat)},l≠[]->m≠[]->(∀a∈l,c∉a)->(∀a∈m,c∉a)->jn c l=jn c m->l=m
 | [],_,h,_,_,_,_=>absurd rfl h
 |_::_,[],_,h,_,_,_=>absurd rfl h
 | [a],[b],_,_,_,_,h=>congrArg (λz=>[z]) h
 | [a],b::d::r,_,_,hl,_,h=>by
   have:c∈a:=by
    rw[show a=b++c::jn c (d::r)from h]
    simp
   exact absurd this (hl a kb)
 |a::d::r,[b],_,_,_,g,h=>by
   have:c∈b:=by
    rw[show b=a++c::jn c (d::r)from h.symm]
    simp
   exact absurd this (g b kb)
 |a::d::r,b::e::s,_,_,hl,g,h=>by
   let q:=Hz (hl a kb) (g b kb) (show a++c::jn c (d::r)=b++c::jn c (e::s)from h)
   have:=GO #[2] #[2] (λz j=>hl z (mj _ j)) (λz j=>g z (mj _ j)) q.2
   rw[q.1,this]
def cd(x:Str):List Nat:=x.cps.toList
def Ls(h:cd x=cd y):x=y:=by
 have:x.cps=y.cps:=Array.toList_inj.mp h
 cases x;cases y;exact congrArg Str.mk this
def vB(x y:Str):cd (x++y)=cd x++cd y:=by
 unfold cd;rw[P1]
 simp
def xI(c:Nat):∀ps:List Str,cd (Str.join %[|#[c]] ps)=jn c (ps.map cd)
 | []=>rfl
 | [a]=>rfl
 |a::b::r=>by
   show cd (a++%[|#[c]]++Str.join ⟨#[c]⟩ (b::r))=cd a++c::jn c ((b::r).map cd);rw[vB,vB,xI c (b::r)]
   simp [cd]
def Jl(b:Str):∀ps:List Str,Txt.join b ps=Str.join b ps
 | []=>rfl
 |a::r=>StrLaws.glued_cons b r a
def zD(x y:Str):Txt.split x y≠[]:=by
 unfold Txt.split
 split
 . exact List.cons_ne_nil _ _
 . split
   . exact List.cons_ne_nil _ _
   . intro h
     have:=length_partsBetween x (Builtin.Str.occurrences x y 0 x.length (x.length+1)) y.length
     rw[h]at this
     simp at this
def ub:∀{l m:List Str},l.map cd=m.map cd->l=m
 | [],[],_=>rfl
 | [],_::_,h=>by simp at h
 |_::_,[],h=>by simp at h
 |a::l,b::m,h=>by
   let h':=List.cons.inj h;rw[Ls h'.1,ub h'.2]
def zF{c:Nat}{ps:List Str}(h0:ps≠[])(hf:∀p∈ps,c∉cd p):Txt.split (Str.join %[|#[c]] ps) ⟨#[c]⟩=ps:=by
 apply ub ?_;apply GO (c:=c) (λh=>zD _ _ (List.map_eq_nil_iff.mp h)) (λh=>h0 (List.map_eq_nil_iff.mp h)) ?_ ?_ ?_
 . intro a ha;let%[p,b|1]:=List.mem_map.mp ha;exact StrLaws.split_free _ c p b
 . intro a ha;let%[p,b|1]:=List.mem_map.mp ha;exact hf p b
 . rw[←xI,←xI,StrLaws.join_split]
def cz(n:Int):Str:=toString n
def xh(m:Nat):cd (cz (m:Int))=(Nat.toDigits 10 m).map Char.toNat:=PySem.W.KIN.signs_num m
def mY{n:Int}(h0:0<=n):∀c∈cd (cz n),48<=c/\c<=57:=by
 let%[m|1]:=PJ h0;intro c hc;rw[xh]at hc;let%[ch,b|e]:=List.mem_map.mp hc;rw[←e];exact PyProof.Rows.digit_range (Nat.isDigit_of_mem_toDigits ⋯ ⋯ b)
def FT{n:Int}(h0:0<=n):cd (cz n)≠[]:=by
 let%[m|1]:=PJ h0;rw[xh];intro e;let h:=PySem.toDigits_len_ge 10 m;rw[List.map_eq_nil_iff.mp e]at h;exact absurd h ⋯
def kW{n:Int}(h0:0<=n)(h1:n<1000000000000):(cz n).length<=12:=PyProof.Rows.toString_length_le h0 ⋯ (by show n<10 ^ 12;omega)
def yv{n:Int}(h0:0<=n):1<=(cz n).length:=by
 let h:=FT h0;let e:(cd (cz n)).length=(cz n).length:=rfl;cases c:cd (cz n)with
 |nil=>exact absurd c h
 |cons a r=>rw[←e,c];simp
def Bz{n:Int}(h0:0<=n)(h1:n<1000000000000):PySem.intText? (cz n)=some n:=by
 let e:=intText_digits (x:=cz n) (mY h0) (FT h0) (hE (kW h0 h1) ⋯);let%[m|1]:=PJ h0;let e2:=xh m;unfold cd at e2;rw[e2,PySem.W.KIN.val_back]at e;exact e
def Jp(m:Nat)(h:0<m):∃d r,Nat.toDigits 10 m=d::r/\d.toNat≠48:=by
 induction m using Nat.strongRecOn with
 |_ m b=>
   by_cases c:m<10
   . erw[Nat.digitChar m,[],Nat.toDigits_of_lt_base c,6]
     have:∀d:Nat,d<10->0<d->(Nat.digitChar d).toNat≠48:=by decide
     exact this m c h
   . let g:m % 10<10:=Nat.mod_lt m ⋯;let t:Nat.toDigits 10 (m / 10)++Nat.toDigits 10 (m % 10)=Nat.toDigits 10 (10*(m / 10)+m % 10):=Nat.toDigits_append_toDigits ⋯ #[0] g;rw[Nat.div_add_mod]at t;let%[d,r,e|hd]:=b (m / 10) #[0] #[0];erw[d,r++Nat.toDigits 10 (m % 10),by rw[←t,e];rfl,hd]
def La:∀c:Nat,c<58->48<=c->isIn FIG c=true:=by decide
def BA{n:Int}(h0:0<=n)(h1:n<1000000000000):nJ (cz n)=true:=by
 unfold nJ;rw[ft (yv h0),ft (kW h0 h1)];let a:(cd (cz n)).all (isIn FIG)=true:=List.all_eq_true.mpr λc hc=>by
  have:=mY h0 c hc
  exact La c #[0] this.1
 let g:(cz n).cps.toList.all (isIn FIG)=true:=a;rw[g];let b:(decide (1<(cz n).length)&&Txt.startswith (cz n) "0")=false:=by
  by_cases c:1<(cz n).length
  . let%[m|1]:=PJ h0;let j:0<m:=by
     apply Nat.pos_of_ne_zero ?_;intro z;subst z
     revert c
     decide
    let%[d,r,e|hd]:=Jp m j;let e0:(cz (m:Int)).cps.toList[0]?=some d.toNat:=by
     have:=xh m
     unfold cd at this;rw[this,e];rfl
    let z:decide (V.str (%[|#[d.toNat]]:Str)=V.str "0")=false:=fw λz=>by
     have:=V.str.inj z
     let e1:("0":Str)=%[|#[48]]:=by decide
     rw[e1]at this;injection this with this
     have:=congrArg Array.toList this
     simp at this
     exact hd this
    rw[xT e0,z,Q9]
  . rw[fw c];rfl
 rw[b];rfl
def NL:Str:=%[|#[10]]
def nl_eq:("\n":Str)=NL:=by decide
def Ey{l:List Str}{b:Nat}(h:∀p∈l,p.length<=b):(l.map (·.length)).sum<=l.length*b:=by
 induction l with
 |nil=>simp
 |cons a r c=>
   let h1:=h a kb;let h2:=c λp d=>h p (mj _ d)
   simp only[lw,rb,f5];rw[Rh];omega
def Tm.txt:Tm->List Nat
 |.num n=>cd (cz n)
 |.box x=>cd x
 |.plain w=>cd w
 |.ask w a=>[40]++(cd w++([32]++(a.txt++[41])))
 |.op s a b=>[40]++(cd s++([32]++(a.txt++([32]++(b.txt++[41])))))
def Tm.str(t:Tm):Str:=stl t.txt
def pB:∀w∈plainW,w.length<=5/\1<=w.length/\(∀c∈w.cps.toList,97<=c/\c<=122)/\w≠"num"/\w≠"box"/\w≠"op":=by decide
def Bb:∀w∈askW,w.length<=4/\1<=w.length/\(∀c∈w.cps.toList,97<=c/\c<=122)/\w≠"num"/\w≠"box"/\w≠"op"/\w∉plainW:=by decide
def vN:∀w∈signW,w.length=1/\(∀c∈w.cps.toList,42<=c/\c<=61)/\w∉askW:=by decide
def eX(x:Str):(cd x).length=x.length:=by unfold cd;rw[Ps];rfl
def Tm.txt_len:∀t:Tm,t.ok->t.txt.length<=14*t.size
 |.num n,h=>by
   have:=kW h.1 h.2
   show(cd (cz n)).length<=14;rw[eX];omega
 |.box x,h=>by
   show(cd x).length<=14;rw[eX]
   have:=h.2.2.1
   omega
 |.plain w,h=>by
   show(cd w).length<=14;rw[eX]
   have:=(pB w h).1
   omega
 |.ask w a,⟨h,h1⟩=>by
   have:=Tm.txt_len a h1
   let c:=(Bb w h).1;show([40]++(cd w++([32]++(a.txt++[41])))).length<=14*(a.size+1)
   simp only[fm,f5,ni,eX];omega
 |.op o a b,⟨h,h1,h2⟩=>by
   let e1:=Tm.txt_len a h1;let e2:=Tm.txt_len b h2;let c:=(vN o h).1;show([40]++(cd o++([32]++(a.txt++([32]++(b.txt++[41])))))).length<=14*(a.size+b.size+1)
   simp only[fm,f5,ni,eX];omega
def Tm.str_len{t:Tm}(h:t.ok):t.str.length<=14*t.size:=by
 unfold Tm.str;rw[Iv];exact t.txt_len h
def Hr.ws:Hr->List Str
 |.fin=>["end"] | .go n=>["go",cz n] | .iff t n=>["if",t.str,cz n] | .set x t=>["set",x,t.str] | .say t=>["say",t.str]
def Hr.str(r:Hr):Str:=Txt.join (" ":Str) r.ws
def Ke{r:Hr}(h:r.ok 20):r.ws.length<=3/\∀z∈r.ws,z.length<=280:=by
 let b:∀z∈(Wu:List Str),z.length<=280:=by decide
 let d:∀{t:Tm},t.fit 20->t.str.length<=280:=fun{t} h=>by
  have:=Tm.str_len h.1
  have:=h.2.1
  omega
 cases r with
 |fin=>erw[4,λz c=>b z (by rw[Pn c];decide)]
 |go n=>
   erw[by show 2<=3;decide,λz c=>?_];rcases qA0 (show z∈[("go":Str),cz n]from c)with rfl | c
   . exact b _ ⋯
   . rw [Pn c]
     have:=kW h.1 h.2
     omega
 |iff t n=>
   erw[by show 3<=3;decide,λz c=>?_];rcases qA0 (show z∈[("if":Str),t.str,cz n]from c)with rfl | c
   . exact b _ ⋯
   rcases qA0 c with rfl | c
   . exact d h.1
   . rw [Pn c]
     have:=kW h.2.1 h.2.2
     omega
 |set x t=>
   erw[by show 3<=3;decide,λz c=>?_];rcases qA0 (show z∈[("set":Str),x,t.str]from c)with rfl | c
   . exact b _ ⋯
   rcases qA0 c with rfl | c
   . have:=h.1.2.2.1
     omega
   . rw[Pn c];exact d h.2
 |say t=>
   erw[by show 2<=3;decide,λz c=>?_];rcases qA0 (show z∈[("say":Str),t.str]from c)with rfl | c
   . exact b _ ⋯
   . rw[Pn c];exact d h
def yH(b:Str)(zs:List Str)(h:b.length=1):(Txt.join b zs).length<=(zs.map (·.length)).sum+zs.length:=by
 have:=size_glued b zs
 rw[h]at this;show(Builtin.Str.glued b zs).length<=_;omega
def Kd{r:Hr}(h:r.ok 20):(r.ws.map (·.length)).sum+r.ws.length<=900:=by
 let%[h1|h2]:=Ke h
 have:=Ey h2
 have:r.ws.length*280<=840:=#[0]
 omega
def Hr.str_len{r:Hr}(h:r.ok 20):r.str.length<=900:=hE (yH _ _ ⋯) (Kd h)
def GK{H:Hp}{b:Addr}{ys zs:List V}(h:H b=some (.lst ys)):cZ H (upd H b (.lst zs)):=λa xs e=>by
 rw[az (λz=>by rw[z,h]at e;cases e)];exact e
def RowsAt.nil:RowsAt H [] []:=%[1|λi v r h=>by simp at h]
def RowsAt.snoc(h:RowsAt H e rs)(a:HrAt H v r):RowsAt H (e++[v]) (rs++[r]):=by
 erw[by rw[fm,fm,h.1];rfl,λi u s b d=>?_];let hl:=h.1
 by_cases c:i<e.length
 . rw[PF c]at b;rw[PF #[0]]at d;exact h.2 i u s b d
 . rw [yl #[0]]at b;rw[yl #[0]]at d;let e1:i-e.length=0:=by
    have:=(Pl b).1
    rw[nm]at this;omega
   let e2:i-rs.length=0:=#[0]
   rw[e1]at b;rw[e2]at d;cases b;cases d;exact a
def uF(rs:List Hr):Prop:=rs.length<=60/\∀r∈rs,r.ok 20
def pP(rs:List Hr):Str:=Txt.join ("\n":Str) (rs.map Hr.str)
def Hb(g:uF rs):((rs.map Hr.str).map (·.length)).sum+(rs.map Hr.str).length<=60000:=by
 have:=Ey (l:=rs.map Hr.str) (b:=900) λp c=>by
  let%[r,hr|1]:=List.mem_map.mp c;exact Hr.str_len (g.2 r hr)
 rw[d8]at this ⊢;let h1:=g.1
 have:rs.length*900<=60*900:=RE _ h1
 omega
def Hc(g:uF rs):(pP rs).length<=60000:=hE (yH _ _ ⋯) (Hb g)
example:=[qh,14,wk,qh 0,sP,qh 1,we,qh 2,wc,qh 3,vZ,qh 4,qg,qh 5]
structure STxt(K:W.Frag)(mg:#[9])(C:Addr):Prop where
 cl:Cls K C
 nX:NoAttr K C "text"
 nR:NoAttr K C "row"
 nW:NoAttr K C "most_within"
 nP:NoAttr K C "most_parts"
 nL:NoAttr K C "place"
 nN:NoAttr K C "parts"
 mgC:mg "Scan"=some (.ref C)
def tD(f:Str)(v:V):∀(fs:List (Str×V))(u:V),fs.lookup f=some u->(cf f v fs).length=fs.length
 | [],u,h=>by cases h
 | (g,x)::r,u,h=>by
   unfold cf
   by_cases e:g=f
   . rw[Pe e];rfl
   . rw [Pd e];let b:(f==g)=false:=#[λz=>e z.symm,0]
     simp only[List.lookup,b]at h;rw[f5,f5,tD f v r u h]
def cH(f:Str)(v:V):∀fs:List (Str×V),(cf f v fs).length<=fs.length+1
 | []=>eS _
 | (g,u)::r=>by
   have:=cH f v r
   unfold cf
   split
   . simp
   . simp only[f5];omega
structure SF(T:Str)(p n:Nat)(fs:List (Str×V)):Prop where
 text:fs.lookup ("text":Str)=some (.str T)
 mw:fs.lookup ("most_within":Str)=some (.int 8)
 mp:fs.lookup ("most_parts":Str)=some (.int 20)
 place:fs.lookup ("place":Str)=some (.int (p:Int))
 parts:fs.lookup ("parts":Str)=some (.int (n:Int))
 no1:fs.lookup ("enter":Str)=none
 no2:fs.lookup ("sees":Str)=none
 no3:fs.lookup ("take":Str)=none
 no4:fs.lookup ("word":Str)=none
 no5:fs.lookup ("finish":Str)=none
 len:fs.length<=6
def SF.toPlace(h:SF T p n fs)(b:Nat):SF T b n (cf "place" (.int (b:Int)) fs):=by
 erw[6,6,6,6,6,6,6,6,6,6,6]
 . rw[ay,Pd ⋯];exact h.text
 . rw[ay,Pd ⋯];exact h.mw
 . rw[ay,Pd ⋯];exact h.mp
 . rw[ay,Pe rfl]
 . rw[ay,Pd ⋯];exact h.parts
 . rw[ay,Pd ⋯];exact h.no1
 . rw[ay,Pd ⋯];exact h.no2
 . rw[ay,Pd ⋯];exact h.no3
 . rw[ay,Pd ⋯];exact h.no4
 . rw[ay,Pd ⋯];exact h.no5
 . rw[tD _ _ _ _ h.place];exact h.len
def SF.toParts(h:SF T p n fs)(b:Nat):SF T p b (cf "parts" (.int (b:Int)) fs):=by
 erw[6,6,6,6,6,6,6,6,6,6,6]
 . rw[ay,Pd ⋯];exact h.text
 . rw[ay,Pd ⋯];exact h.mw
 . rw[ay,Pd ⋯];exact h.mp
 . rw[ay,Pd ⋯];exact h.place
 . rw[ay,Pe rfl]
 . rw[ay,Pd ⋯];exact h.no1
 . rw[ay,Pd ⋯];exact h.no2
 . rw[ay,Pd ⋯];exact h.no3
 . rw[ay,Pd ⋯];exact h.no4
 . rw[ay,Pd ⋯];exact h.no5
 . rw[tD _ _ _ _ h.parts];exact h.len
def sfs(T:Str)(k:Int):List (Str×V):=cf "parts" (.int 0) (cf "place" (.int 0) (cf "most_parts" (.int 20) (cf "most_within" (.int 8) (cf "row" (.int k) (cf "text" (.str T) [])))))
def Kp(T:Str)(k:Int):SF T 0 0 (sfs T k):=by
 let no:∀m:Str,m≠"parts" -> m≠"place" -> m≠"most_parts" -> m≠"most_within" -> m≠"row" -> m≠"text" -> (sfs T k).lookup m=none:=λm h1 h2 h3 h4 h5 h6=>by
  unfold sfs;rw[ay,Pd h1,ay,Pd h2,ay,Pd h3,ay,Pd h4,ay,Pd h5,ay,Pd h6];rfl
 erw[6,6,6,6,6,no _ ⋯ ⋯ ⋯ ⋯ ⋯ ⋯,no _ ⋯ ⋯ ⋯ ⋯ ⋯ ⋯,no _ ⋯ ⋯ ⋯ ⋯ ⋯ ⋯,no _ ⋯ ⋯ ⋯ ⋯ ⋯ ⋯,no _ ⋯ ⋯ ⋯ ⋯ ⋯ ⋯,6]
 . unfold sfs;rw[ay,Pd ⋯,ay,Pd ⋯,ay,Pd ⋯,ay,Pd ⋯,ay,Pd ⋯,ay,Pe rfl]
 . unfold sfs;rw[ay,Pd ⋯,ay,Pd ⋯,ay,Pd ⋯,ay,Pe rfl]
 . unfold sfs;rw[ay,Pd ⋯,ay,Pd ⋯,ay,Pe rfl]
 . unfold sfs;rw[ay,Pd ⋯,ay,Pe rfl];rfl
 . unfold sfs;rw[ay,Pe rfl];rfl
 . unfold sfs;apply hE (cH _ _ _) (nw (hE (cH _ _ _) (nw (hE (cH _ _ _) (nw (hE (cH _ _ _) (nw (hE (cH _ _ _) (nw (cH _ _ _))))))))))
def ScanAt(C:Addr)(H:Hp)(b:Addr)(T:Str)(p n:Nat):Prop:=∃c fs,H b=some (.ins C c fs)/\SF T p n fs
instance spSInit(C:Addr):∀(g dx:Addr)(T:Str)(k:Int),vs=[.ref g,.str T,.int k,.int 8,.int 20]->H g=some (.ins C dx [])->(∀H',ScanAt C H' g T 0 0->SameBut g H H'->Q .non H'):=1
def EO:FnScope Wk Wk (aj wk):=%[|5]
def FF(F:#["__init__","Scan.__init__",wk])(T:STxt K mg C):#[1,f,fd,Wk,spSInit C]:=by
 exists EO
 erw[g,b,Tx,c,1,hg,q]at h;erw[_,(ad (aQ (pv 0) (pv 1) rfl) (ad (aQ (pv 0) (pv 2) rfl) (ad (aQ (pv 0) (pv 3) rfl) (ad (aQ (pv 0) (pv 4) rfl) (ad (aQ (pv 0) ag rfl) (af (aQ (pv 0) ag rfl))))))),6];erw[0,0,g,C,b,[],1,hg,T.cl,T.nX,(by show 0<1000;decide),6];erw[0,0,g,C,b,0,ah,9,T.nR,(pb (cH _ _ _) (by show 1<1000;decide)),6];erw[0,0,g,C,b,0,ah,9,T.nW,(pb (cH _ _ _) (pb (nw (cH _ _ _)) (by show 2<1000;decide))),6];erw[0,0,g,C,b,0,ah,9,T.nP,(pb (cH _ _ _) (pb (nw (hE (cH _ _ _) (nw (cH _ _ _)))) (by show 3<1000;decide))),6];erw[0,g,C,b,0,ah,9,T.nL,(pb (cH _ _ _) (pb (nw (hE (cH _ _ _) (nw (hE (cH _ _ _) (nw (cH _ _ _)))))) (by show 4<1000;decide))),6];erw[0,g,C,b,0,ah,9,T.nN,(pb (cH _ _ _) (pb (nw (hE (cH _ _ _) (nw (hE (cH _ _ _) (nw (hE (cH _ _ _) (nw (cH _ _ _)))))))) (by show 5<1000;decide))),6];exact q _ ⟨b,sfs Tx c,ah,Kp Tx c⟩ ((SameBut.upd _).trans ((SameBut.upd _).trans ((SameBut.upd _).trans ((SameBut.upd _).trans ((SameBut.upd _).trans (SameBut.upd _))))))
def SF.size(h:SF T p n fs):fs.length<1000:=pb h.len ⋯
instance spEnter(C:Addr):∀(sc:Addr)(T:Str)(p n:Nat)(wi:Int),vs=[.ref sc,.int wi]->ScanAt C H sc T p n->wi<=8->n+1<=20->(∀H',ScanAt C H' sc T p (n+1)->SameBut sc H H'->Q .non H'):=1
def CB:FnScope Wl Wl (aj sP):=%[|5]
def CZ(F:#["enter","Scan.enter",sP])(T:STxt K mg C):#[1,f,fd,Wl,spEnter C]:=by
 exists CB
 erw[e,Tx,p,n,r,1,%[d,fs,j|g],m,o,q]at h;refine⟨_,(ad (aQ (pv 0) (ao aV (aB (pv 0) rfl) ag) rfl)
  (af (aJ (PW.pt (ip (ai gq (pv 1) (aB (pv 0) rfl) (ax _)) (hV (ai gq (aB (pv 0) rfl) (aB (pv 0) rfl) (ax _))))) bJ aE))),?_⟩
 let b:=g.toParts (n+1);erw[0,e,C,d,fs,0,j,9,T.nN,g.parts,2,0,e,C,d,fs,1,j,9,T.nN,g.size,6];let c:upd H e (.ins C d (cf "parts" (.int ((n:Int)+1)) fs)) e=some (.ins C d (cf "parts" (.int ((n+1:Nat):Int)) fs)):=ah;erw[0,0,e,C,d,_,0,c,9,T.nW,b.mw,2,0,6];apply aF #[0] ?_;erw[0,e,C,d,_,0,c,9,T.nN,b.parts,0,e,C,d,_,0,c,9,T.nP,b.mp,2,0,6];apply aF #[0] ?_;exact q _ ⟨d,_,c,b⟩ (SameBut.upd _)
instance spSees(C:Addr):∀(sc:Addr)(T u:Str)(p n:Nat),vs=[.ref sc,.str u]->ScanAt C H sc T p n->Q (.bl (io T u p)) H:=1
def EN:FnScope WG WG (aj we):=%[|5]
def FE(F:#["sees","Scan.sees",we])(T:STxt K mg C):#[1,f,fd,WG,spSees C]:=by
 exists EN
 erw[b,Tx,u,p,n,1,%[c,fs,d|e],q]at h;erw[_,(af (au (iH QM PySem.F.slot_str_startswith PySem.F.type_str_startswith yA (aB (pv 0) rfl) %[1,aB (pv 0) rfl|ae]))),6];erw[0,b,C,c,fs,0,d,9,T.nX,e.text,1,0,0,b,C,c,fs,0,d,9,T.nL,e.place,Tx,u,0,1,q]
instance spTake'(C:Addr):∀(sc:Addr)(T u:Str)(p n:Nat),vs=[.ref sc,.str u]->ScanAt C H sc T p n->io T u p=true->u.length<=10->(∀H',ScanAt C H' sc T (p+u.length) n->SameBut sc H H'->Q .non H'):=1
def EM:FnScope WG WG (aj wc):=%[|5]
def FD(F:#["take","Scan.take",wc])(B:Bl mg)(T:STxt K mg C)(mS:Meth K C "sees" m)(GS:#[1,m,e,WG,spSees C])(bS:Binds K e WG []):#[2,f,fd,WG,spTake' C]:=by
 exists EM
 erw[b,Tx,u,p,n,1,S,o,r,q]at h;let t:Room 1 _:=hr.mono ⋯;refine⟨_,(ad (aJ (iE (dP (cq (pv 0) T.cl mS GS t bS .nil bd %[1|ae]))) bJ aE)
  (af (aQ (pv 0) (ao aV (aB (pv 0) rfl) (aG dL rfl B.len fx %[1|ae])) rfl))),?_⟩
 let%[c,fs,g|d]:=id S;erw[0,b,c,fs,1,g,d.no2,0,b,Tx,u,p,n,1,S,0,6];rw[o];apply cQ ?_;erw[0,b,C,c,fs,0,g,9,T.nL,d.place,0,u,1,cx #[0],2,0,b,C,c,fs,1,g,T.cl,T.nL,d.size,6];let j:upd H b (.ins C c (cf "place" (.int ((p:Int)+(u.length:Int))) fs)) b=some (.ins C c (cf "place" (.int ((p+u.length:Nat):Int)) fs)):=by rw[ah,Qi]
 exact q _ %[c,_,j|d.toPlace _] (SameBut.upd _)
def zu(r:List Nat):Prop:=r=[]∨∃c b,r=c::b/\(c=32∨c=40∨c=41)
instance spWord(C:Addr):∀(sc:Addr)(T:Str)(p n:Nat)(x r:List Nat),vs=[.ref sc]->ScanAt C H sc T p n->T.length<=1000->p<=T.length->T.cps.toList.drop p=x++r->(∀c∈x,isIn ENDS c=false)->zu r->(∀H',ScanAt C H' sc T (p+x.length) n->SameBut sc H H'->Q (.str (stl x)) H'):=1
def LU:FnScope ["self","start"] WA (aj vZ):=%[|5]
def FC(F:#["word","Scan.word",vZ])(B:Bl mg)(X:Tx K mg)(T:STxt K mg C):#[1,f,fd,WA,spWord C]:=by
 exists LU
 erw[o,Tx,p,n,x,r,1,%[Y,fs,hs|sf],tl,pl,hd,xl,er,q]at h;erw[te,ge]at X.ends;refine⟨_,(ad #[am,1,LU,aB (pv 0) rfl]
  (ad (iq ks (PW.pt (jH (ai iI (aB (pv 0) rfl) (aG dL rfl B.len fx %[aB (pv 0) rfl|ae]) (ax _)) (iM (ai wM (aO xx (aB (pv 0) rfl) (aB (pv 0) rfl) #[1]) (dI (v:=.str ENDS) rfl ge %[|0]) (by rfl'))))) (af (aQ (pv 0) (ao aV (aB (pv 0) rfl) ag) rfl)))
  (af (au (gn zI (aB (pv 0) rfl) (gl (pv 1)) (gl (aB (pv 0) rfl))))))),?_⟩
 let L:Tx.cps.toList.length=Tx.length:=by rw[Ps];rfl
 let y:Tx.length=p+(x.length+r.length):=by
  have:=congrArg List.length hd
  rw[QW,fm,L]at this;omega
 erw[0,o,C,Y,fs,0,hs,9,T.nL,sf.place,6];erw[λm σ H'=>∃j:Nat,j<=x.length/\σ=[some (.ref o),some (.int (p:Int))]/\ScanAt C H' o Tx (p+j) n/\SameBut o H H'/\m=x.length-j,%[_,(0),i1 _,1,%[Y,fs,hs|sf],SameBut.refl _ _|1],6];rintro m σ D ⟨j,hj,rfl,⟨b,e,g,d⟩,J,rfl⟩;erw[0,o,C,b,e,0,g,9,T.nL,d.place,0,o,C,b,e,0,g,9,T.nX,d.text,Tx,1,cx tl,2,0,6];let sl:j=x.length->Txt.slice Tx (some (p:Int)) (some ((p+j:Nat):Int))=stl x:=λu=>by
  let es:Txt.slice Tx (some (p:Int)) (some ((p+j:Nat):Int))=_:=StrLaws.sliceText_plain (i:=(p:Int)) (j:=((p+j:Nat):Int)) %[3,3|by rw[L];omega];rw[es];apply Iq ?_;show(Tx.cps.toList.drop (p:Int).toNat).take (((p+j:Nat):Int)-(p:Int)).toNat=x;rw[show(p:Int).toNat=p by omega,show(((p+j:Nat):Int)-(p:Int)).toNat=x.length by omega,hd,List.take_left'];rfl
 by_cases c1:(((p+j:Nat):Int))<(Tx.length:Int)
 . apply aZ c1 ?_;let M:p+j<Tx.cps.toList.length:=by rw[L];omega
   let ha:atI Tx.cps.toList ((p+j:Nat):Int)=some Tx.cps.toList[p+j]:=cX (fz M);let z:Tx.cps.toList[p+j]?=(x++r)[j]?:=by rw[←hd,List.getElem?_drop]
   erw[0,o,C,b,e,0,g,9,T.nX,d.text,0,o,C,b,e,0,g,9,T.nL,d.place,Tx,2,cx tl,ha,2,0,6]
   by_cases N:j<x.length
   . let O:Tx.cps.toList[p+j]=x[j]:=by
      rw[fz M,PF N,fz N]at z;exact j3 z
     let en:(!isIn ENDS Tx.cps.toList[p+j])=true:=by rw[O,xl _ (o4 N)];rfl
     let t:(!(!(Builtin.Str.occurrences ENDS %[|#[Tx.cps.toList[p+j]]] 0 ENDS.length 1).isEmpty))=true:=en;rw[t];erw[_,λ_ _ h=>h,6];erw[0,o,C,b,e,0,g,9,T.nL,d.place,2,0,o,C,b,e,1,g,9,T.nL,d.size,6];let U:upd D o (.ins C b (cf "place" (.int (((p+j:Nat):Int)+1)) e)) o=some (.ins C b (cf "place" (.int ((p+(j+1):Nat):Int)) e)):=by
      rw[ah,show((p+j:Nat):Int)+1=((p+(j+1):Nat):Int) by omega]
     erw[_,3,j+1,3,1,%[b,_,U|d.toPlace _],J.trans (SameBut.upd _),1]
   . let u:j=x.length:=#[0]
     let en:(!isIn ENDS Tx.cps.toList[p+j])=false:=by
      rcases er with rfl | ⟨c,r',rfl,hc⟩
      . rw[ni]at y;omega
      . rw [fz M,yl #[0],show j-x.length=0 by omega]at z;let O:Tx.cps.toList[p+j]=c:=j3 z;rw[O];rcases hc with rfl | rfl | rfl
        . rw[ends_in.1];rfl
        . rw[ends_in.2.1];rfl
        . rw[ends_in.2.2];rfl
     let t:(!(!(Builtin.Str.occurrences ENDS %[|#[Tx.cps.toList[p+j]]] 0 ENDS.length 1).isEmpty))=false:=en;rw[t];erw[0,o,C,b,e,0,g,9,T.nX,d.text,0,0,0,o,C,b,e,0,g,9,T.nL,d.place,0,Tx,1,cx tl,6];rw[sl u];rw[u]at d;exact q D ⟨b,e,g,d⟩ J
 . apply aF c1 ?_;let u:j=x.length:=#[0]
   erw[0,o,C,b,e,0,g,9,T.nX,d.text,0,0,0,o,C,b,e,0,g,9,T.nL,d.place,0,Tx,1,cx tl,6];rw[sl u];rw[u]at d;exact q D ⟨b,e,g,d⟩ J
instance spFinish(C:Addr):∀(sc:Addr)(T:Str)(n:Nat),vs=[.ref sc]->ScanAt C H sc T T.length n->T.length<=1000->Q .non H:=1
def zN:FnScope WA WA (aj qg):=%[|5]
def Ag(F:#["finish","Scan.finish",qg])(B:Bl mg)(T:STxt K mg C):#[1,f,fd,WA,spFinish C]:=by
 exists zN
 erw[b,Tx,n,1,%[c,fs,d|e],tl,q]at h;erw[_,(af (aJ (ai jw (aB (pv 0) rfl) (aG dL rfl B.len fx %[aB (pv 0) rfl|ae]) (ax _)) bJ aE)),6];erw[0,b,C,c,fs,0,d,9,T.nL,e.place,0,b,C,c,fs,0,d,9,T.nX,e.text,Tx,1,cx tl,1,0,6];show if(!decide (V.int (Tx.length:Int)=V.int (Tx.length:Int)))=true then _ else _
 rw[ft rfl];exact cQ q
def Hj(n p:Nat):PySem.fromIndex n (p:Int)=p:=by
 unfold PySem.fromIndex;rw[Pd #[0]];omega
def Bn(T u:Str)(p:Nat):Builtin.Str.subAt T u p=decide ((T.cps.toList.drop p).take u.length=u.cps.toList):=by
 unfold Builtin.Str.subAt;let e:(T.cps.extract p (p+u.length)).toList=(T.cps.toList.drop p).take u.length:=by
  rw[Array.toList_extract,List.extract_eq_drop_take]
  congr 1
  omega
 by_cases c:(T.cps.toList.drop p).take u.length=u.cps.toList
 . rw [ft c]
   have:T.cps.extract p (p+u.length)=u.cps:=Array.toList_inj.mp (e.trans c)
   rw[this]
   simp
 . rw [fw c]
   have:¬ T.cps.extract p (p+u.length)=u.cps:=λz=>c (by rw[←e,z])
   simpa using this
def pM(T:Str):T.cps.toList.length=T.length:=by rw[Ps];rfl
def nn{T:Str}{p:Nat}{u v:List Nat}(h:T.cps.toList.drop p=u++v)(b:p<=T.length):p+u.length+v.length=T.length:=by
 have:=congrArg List.length h
 rw[QW,fm,pM]at this;omega
def cM{T:Str}{p:Nat}{u v:List Nat}(h:T.cps.toList.drop p=u++v):T.cps.toList.drop (p+u.length)=v:=by
 rw[←List.drop_drop,h,List.drop_left]
def fg{T u:Str}{p:Nat}{r:List Nat}(h:T.cps.toList.drop p=u.cps.toList++r)(b:p<=T.length):io T u (p:Int)=true:=by
 unfold io;let hl:=nn h b;rw[pM]at hl;rw[Hj,Bn,ft #[0],h,←pM u,List.take_left,ft rfl];rfl
def Cu{T:Str}{p:Nat}{c:Nat}{r:List Nat}(h:T.cps.toList.drop p=c::r)(hc:c≠40):io T ("(":Str) (p:Int)=false:=by
 unfold io;let b:(("(":Str)).length=1:=by decide
 rw[Hj,Bn,h,xt,b]
 have:¬ (c::r).take 1=[40]:=λz=>hc #[z,0]
 rw[fw this,Q9]
def dQ(S:ScanAt C H b T p n)(s:SameBut b H c):cZ H c:=λa xs h=>s a _ (λz=>by
 erw[d,fs,e,_]at S;rw[z,e]at h;cases h) h
def ScanAt.same(S:ScanAt C H b T p n)(s:Same H c):ScanAt C c b T p n:=by
 erw[d,fs,e,g]at S;erw[d,fs,s _ _ e,g]
structure Mths(P:Program)(w:World)(K:W.Frag)(mg:#[9])(base:Heap)(C fE fS fT fW fF:Addr)(dE dS dT dW dF:FuncData):Prop where
 mE:Meth K C "enter" fE
 gE:#[1,fE,dE,Wl,spEnter C]
 bE:Binds K dE Wl []
 mS:Meth K C "sees" fS
 gS:#[1,fS,dS,WG,spSees C]
 bS:Binds K dS WG []
 mT:Meth K C "take" fT
 gT:#[2,fT,dT,WG,spTake' C]
 bT:Binds K dT WG []
 mW:Meth K C "word" fW
 gW:#[1,fW,dW,WA,spWord C]
 bW:Binds K dW WA []
 mF:Meth K C "finish" fF
 gF:#[1,fF,dF,WA,spFinish C]
 bF:Binds K dF WA []
def Hm:∀c:Nat,c<62->42<=c->isIn ENDS c=false:=by decide
def KZ:∀c:Fin 26,isIn FIG (97+c.val)=false:=by decide
def GY{c:Nat}(h:97<=c/\c<=122):isIn FIG c=false:=by
 have:=KZ %[c-97|3]
 rwa [show 97+(%[c-97|3]:Fin 26).val=c by show 97+(c-97)=c;omega]at this
def DP(h:NmK x):nJ x=false:=by
 unfold nJ;erw[hl,h1,_,_]at h
 have:x.cps.toList.all (isIn FIG)=false:=by
  cases e:x.cps.toList with
  |nil=>
    have:=eX x
    unfold cd at this;rw[e]at this
    simp at this
    omega
  |cons c r=>
    have:=GY (hl c (by rw[e];exact kb))
    rw[Qy,this];rfl
 rw[this,Q9]
def qI(l:List Nat):Prop:=∀c∈l,isIn ENDS c=false
def eN{l:List Nat}(h:∀c∈l,97<=c/\c<=122):qI l:=λc hc=>DG (h c hc)
def tK{l:List Nat}(h:∀c∈l,42<=c/\c<=61):qI l:=λc hc=>Hm c (by have:=h c hc;omega) (h c hc).1
def tJ{n:Int}(h:0<=n):qI (cd (cz n)):=tK λc hc=>by have:=mY h c hc;omega
def CV(h:qI l)(h1:1<=l.length)(r:List Nat):∃c b,l++r=c::b/\c≠40:=by
 cases l with
 |nil=>cases h1
 |cons c d=>
   erw[c,d++r,1,λe=>?_]
   have:=h c kb
   rw[e,ends_in.2.1]at this;cases this
instance spNextT(C:Addr)(n:Nat):∀(sc:Addr)(wi:Int)(T:Str)(p k:Nat)(t:Tm)(r:List Nat),vs=[.ref sc,.int wi]->ScanAt C H sc T p k->T.length<=1000->p<=T.length->T.cps.toList.drop p=[32]++(t.txt++r)->zu r->t.ok->t.depth<=n->wi+(t.depth:Int)<=9->k+t.size<=20->(∀(v:V)(H':Hp),TmAt H' v t->ScanAt C H' sc T (p+1+t.txt.length) (k+t.size)->SameBut sc H H'->Q v H'):=1
instance spTB(C:Addr)(n:Nat):∀(sc:Addr)(wi:Int)(T:Str)(p k:Nat)(t:Tm)(r:List Nat),vs=[.ref sc,.int wi]->ScanAt C H sc T p (k+1)->T.length<=1000->p<=T.length->T.cps.toList.drop p=t.txt++r->t.ok->((∃w a,t=.ask w a)∨∃s a b,t=.op s a b)->t.depth<=n+1->wi+(t.depth:Int)<=9->k+t.size<=20->(∀(v:V)(H':Hp),TmAt H' v t->ScanAt C H' sc T (p+t.txt.length) (k+t.size)->SameBut sc H H'->Q v H'):=1
def dA:FnScope ["scan","within","word","first","term"] WK (aj eZ):=%[|5]
def Ii{n:Nat}(F:#["term_in_bracket",eZ])(X:Tx K mg)(T:STxt K mg C)(M:Mths P w K mg base C fE fS fT fW fF dE dS dT dW dF)(eI:#[2*n+3,"next_term",WK,spNextT C n]):#[2*n+4,f,fd,WK,spTB C n]:=by
 exists dA
 erw[g,wi,Tx,p,k,t,r,1,S0,tl,pl,hd,ok,kind,dn,wd,bo,q]at h;erw[ja,gj,hj]at X.asking;erw[sa,gs,hs]at X.signs;let Pp:Room 1 _:=hr.mono #[0];let an:Room 2 _:=hr.mono #[0];refine⟨_,(ad (bh (cq (pv 0) T.cl M.mT M.gT an M.bT .nil bd %[aI|ae]))
  (ad #[am,2,dA,bt (pv 0) T.cl M.mW M.gW Pp M.bW .nil bd]
  (ad #[am,3,dA,aq eI hr #[0] rfl %[0,ao aV (pv 1) ag|ae]]
  (ad (aJ (ai fK (pv 2) (dI (v:=.ref ja) rfl gj rfl) (by rfl')) (af #[am,4,dA,aR %[2,3|ae]]) (af (aJ (ai fK (pv 2) (dI (v:=.ref sa) rfl gs rfl) (by rfl')) (af #[am,4,dA,aR %[aI,2,3,aq eI hr #[0] rfl %[0,ao aV (pv 1) ag|ae]|ae]]) bJ)))
  (ad (bh (cq (pv 0) T.cl M.mT M.gT an M.bT .nil bd %[aI|ae]))
  (af (au (pv 4)))))))),?_⟩
 let l1:(("(":Str)).length=1:=by decide
 let l3:((")":Str)).length=1:=by decide
 let%[ap,ar,as|av]:=id S0;rcases kind with⟨d,a,rfl⟩ | ⟨o,a,b,rfl⟩
 . erw[aw,L]at ok;let%[_,w1,wl|_]:=Bb d aw;let da:a.depth<=n:=Nat.le_of_succ_le_succ dn;let ed:(((Tm.ask d a).depth:Nat):Int)=(a.depth:Int)+1:=by show((a.depth+1:Nat):Int)=_;omega
   let es:(Tm.ask d a).size=a.size+1:=rfl;let e:(cd d).length=d.length:=eX _;let j:Tx.cps.toList.drop p=[40]++(cd d++([32]++(a.txt++([41]++r)))):=by
    rw[hd];show([40]++(cd d++([32]++(a.txt++[41]))))++r=_
    simp
   let y:(Tm.ask d a).txt.length=1+(d.length+(1+(a.txt.length+1))):=by
    show([40]++(cd d++([32]++(a.txt++[41])))).length=_;simp only[fm,f5,ni,e]
   let N:=nn j pl;simp only[fm,f5,ni,e]at N;let m:=cM j;let u:=cM m;let z:=cM u;let x:=cM z;simp only[f5,ni,e]at m u z x;erw[0,g,ap,ar,1,as,av.no3,g,Tx,_,p,0,S0,fg (r:=cd d++([32]++(a.txt++([41]++r)))) (by rw[xt];exact j) pl,by rw[l1];decide,λH1 O B1=>?_];rw[l1]at O;let%[U,Y,ab|ac]:=id O;erw[0,g,U,Y,1,ab,ac.no4,g,Tx,_,_,cd d,0,O,tl,3,m,eN wl,.inr %[(32),0|.inl rfl],λH2 S2 B2=>?_];rw[e]at S2;erw[0,0,2,g,wi+1,Tx,_,_,a,0,S2,tl,3,u,.inr %[(41),r,1|.inr (.inr rfl)],L,da,3,3,λD H3 T3 S3 B3=>?_];erw[0,ja,0,.inr (hj _),1,⋯,0,6];let B:inV (.str (stl (cd d))) (askW.map V.str)=true:=by rw[show stl (cd d)=d from ou _,jy,ft aw]
   rw[B];apply eF ?_;erw[0,0,y2S,λc hc=>?_];let G:=ej hc (.tup [.str (stl (cd d)),D]);let S4:=S3.same G;let ec:upd H3 c (.tup [.str (stl (cd d)),D]) c=some (.tup [.str d,D]):=ah;let T4:=T3.mono (bc G);generalize upd H3 c (.tup [.str (stl (cd d)),D])=H4 at G S4 ec T4;let%[aT,a0,a7|a8]:=id S4;erw[0,g,aT,a0,1,a7,a8.no3,g,Tx,_,_,0,S4,fg (r:=r) (by rw[Gq,show p+1+d.length+1+a.txt.length=p+(0+1)+d.length+(0+1)+a.txt.length by omega];exact x) #[0],by rw[l3];decide,λH5 J B5=>?_];rw[l3]at J;let k5:=dQ S4 B5;erw[0,6];rw[show p+1+d.length+1+a.txt.length+1=p+(Tm.ask d a).txt.length by rw[y];omega,show k+1+a.size=k+(Tm.ask d a).size by rw[es];omega]at J;exact q _ _ (.ask (k5 _ _ ec) (T4.mono k5)) J (B1.trans (B2.trans (B3.trans ((fy G).trans B5))))
 . erw[aA,L,a9]at ok;let%[o1,ol|no]:=vN o aA;let dd:a.depth<=n/\b.depth<=n/\wi+(a.depth:Int)<=8/\wi+(b.depth:Int)<=8:=by
    let e1:(Tm.op o a b).depth=max a.depth b.depth+1:=rfl;rw[e1]at dn wd;omega
   let es:(Tm.op o a b).size=a.size+b.size+1:=rfl;let e:(cd o).length=o.length:=eX _;let j:Tx.cps.toList.drop p=[40]++(cd o++([32]++(a.txt++([32]++(b.txt++([41]++r)))))):=by
    rw[hd];show([40]++(cd o++([32]++(a.txt++([32]++(b.txt++[41]))))))++r=_
    simp
   let y:(Tm.op o a b).txt.length=1+(o.length+(1+(a.txt.length+(1+(b.txt.length+1))))):=by
    show([40]++(cd o++([32]++(a.txt++([32]++(b.txt++[41])))))).length=_;simp only[fm,f5,ni,e]
   let N:=nn j pl;simp only[fm,f5,ni,e]at N;let m:=cM j;let u:=cM m;let z:=cM u;let x:=cM z;let aC:=cM x;let aH:=cM aC;simp only[f5,ni,e]at m u z x aC aH;erw[0,g,ap,ar,1,as,av.no3,g,Tx,_,p,0,S0,fg (r:=cd o++([32]++(a.txt++([32]++(b.txt++([41]++r)))))) (by rw[xt];exact j) pl,by rw[l1];decide,λH1 O B1=>?_];rw[l1]at O;let%[U,Y,ab|ac]:=id O;erw[0,g,U,Y,1,ab,ac.no4,g,Tx,_,_,cd o,0,O,tl,3,m,tK ol,.inr %[(32),0|.inl rfl],λH2 S2 B2=>?_];rw[e]at S2;erw[0,0,2,g,wi+1,Tx,_,_,a,0,S2,tl,3,u,.inr %[(32),0|.inl rfl],L,dd.1,3,3,λD H3 T3 S3 B3=>?_];erw[0,ja,0,.inr (hj _),1,⋯,0,6];let B:inV (.str (stl (cd o))) (askW.map V.str)=false:=by rw[show stl (cd o)=o from ou _,jy,fw no]
   rw[B];apply cQ ?_;erw[0,sa,0,.inr (hs _),1,⋯,0,6];let aK:inV (.str (stl (cd o))) (signW.map V.str)=true:=by rw[show stl (cd o)=o from ou _,jy,ft aA]
   rw [aK];apply eF ?_;let aL:Tx.cps.toList.drop (p+1+o.length+1+a.txt.length)=[32]++(b.txt++([41]++r)):=by
    rw[show p+1+o.length+1+a.txt.length=p+(0+1)+o.length+(0+1)+a.txt.length by omega];exact x
   erw[0,0,0,0,2,g,wi+1,Tx,_,_,b,0,S3,tl,3,aL,.inr %[(41),r,1|.inr (.inr rfl)],a9,dd.2.1,3,3,λv2 H4 T4 S4 B4=>?_];let bb:=T3.mono (dQ S3 B4);erw[y4S,λc hc=>?_];let G:=ej hc (.tup [.str "op",.str (stl (cd o)),D,v2]);let J:=S4.same G;let ec:upd H4 c (.tup [.str "op",.str (stl (cd o)),D,v2]) c=some (.tup [.str "op",.str o,D,v2]):=ah;let T5:=T4.mono (bc G);let aP:=bb.mono (bc G);generalize upd H4 c (.tup [.str "op",.str (stl (cd o)),D,v2])=H5 at G J ec T5 aP;let%[be,bf,bg|bn]:=id J;erw[0,g,be,bf,1,bg,bn.no3,g,Tx,_,_,0,J,fg (r:=r) (by rw[Gq,show p+1+o.length+1+a.txt.length+1+b.txt.length=p+(0+1)+o.length+(0+1)+a.txt.length+(0+1)+b.txt.length by omega];exact aH) #[0],by rw[l3];decide,λH6 S6 B6=>?_];rw[l3]at S6;let k6:=dQ J B6;erw[0,6];rw[show p+1+o.length+1+a.txt.length+1+b.txt.length+1=p+(Tm.op o a b).txt.length by rw[y];omega,show k+1+a.size+b.size=k+(Tm.op o a b).size by rw[es];omega]at S6;exact q _ _ (.op (k6 _ _ ec) (aP.mono k6) (T5.mono k6)) S6 (B1.trans (B2.trans (B3.trans (B4.trans ((fy G).trans B6)))))
def t8:FnScope ["scan","within","word"] WK (aj jt):=%[|5]
def xg{n:Int}(h:0<=n):cz n∉plainW:=λb=>by
 let%[_,w1,d|_]:=pB _ b;cases e:cd (cz n)with
 |nil=>
   have:=eX (cz n)
   rw[e]at this
   simp at this
   omega
 |cons c r=>
   let h1:=mY h c (by rw[e];exact kb);let h2:=d c (by show c∈cd (cz n);rw[e];exact kb);omega
def zZ:∀w∈plainW,w∈kept:=by decide
def IW{n:Nat}(F:#["next_term",jt])(B:Bl mg)(X:Tx K mg)(T:STxt K mg C)(M:Mths P w K mg base C fE fS fT fW fF dE dS dT dW dF)(f9:#[1,"is_name",WE,spTxt li])(c8:#[1,"is_figures",WE,spTxt nJ])(v9:#[2*n+4,"term_in_bracket",WK,spTB C n]):#[2*(n+1)+3,f,fd,WK,spNextT C (n+1)]:=by
 exists t8
 erw[e,wi,Tx,p,k,t,r,1,S0,tl,pl,hd,er,ok,dn,wd,Y,q]at h;erw[ja,gj,hj]at X.plain;let Pp:Room 1 _:=hr.mono #[0];let ab:Room 2 _:=hr.mono #[0];refine⟨_,(ad (bh (cq (pv 0) T.cl M.mT M.gT ab M.bT .nil bd %[aI|ae]))
  (ad (bh (cq (pv 0) T.cl M.mE M.gE Pp M.bE .nil bd %[1|ae]))
  (ad (aJ (dP (cq (pv 0) T.cl M.mS M.gS Pp M.bS .nil bd %[aI|ae])) (af (au (aq v9 hr #[0] rfl %[0,1|ae]))) aE)
  (ad #[am,2,t8,bt (pv 0) T.cl M.mW M.gW Pp M.bW .nil bd]
  (ad (aJ (ai fK (pv 2) (dI (v:=.ref ja) rfl gj rfl) (by rfl')) (af (au (aR %[2|ae]))) aE)
  (ad (aJ (dP (aq c8 hr #[0] rfl %[2|ae])) (af (au (aR %[aI,aX oh rfl B.int iS %[2|ae]|ae]))) aE)
  (ad (aJ (iE (dP (aq f9 hr #[0] rfl %[2|ae]))) bJ aE)
  (af (au (aR %[aI,2|ae])))))))))),?_⟩
 let l2:((" ":Str)).length=1:=by decide
 let dp:=t.depth_pos;let sp:=t.size_pos;let ac:=nn hd pl;let g:=cM hd;simp only[fm,f5,ni]at ac g;let%[an,ap,ar|as]:=id S0;erw[0,e,an,ap,1,ar,as.no3,e,Tx,_,p,0,S0,fg (r:=t.txt++r) (by rw[oK];exact hd) pl,by rw[l2];decide,λH1 S1 B1=>?_];rw[l2]at S1;let%[av,aw,aA|aC]:=id S1;erw[0,e,av,aw,1,aA,aC.no1,0,e,Tx,_,k,wi,1,S1,3,3,λH2 O B2=>?_];let%[Po,u,y|D]:=id O;erw[0,e,Po,u,1,y,D.no2,e,Tx,_,_,0,O,0,6];let j:(((∃w a,t=.ask w a)∨∃s a b,t=.op s a b)/\∃z,t.txt=40::z)∨∃x:Str,t.txt=cd x/\qI (cd x)/\1<=x.length/\t.size=1/\((t=.plain x/\x∈plainW)∨(∃m,t=.num m/\x=cz m/\0<=m/\m<1000000000000)∨(t=.box x/\NmK x)):=by
  cases t with
  |ask w a=>exact .inl %[.inl %[w,a|1]|0]
  |op s a b=>exact .inl %[.inr %[s,a,b|1]|0]
  |plain x=>
    let d:x∈plainW:=ok;let%[_,w1,wl|_]:=pB x d;exact .inr %[x,1,eN wl,w1,1|.inl %[1|d]]
  |num m=>exact .inr %[cz m,1,tJ ok.1,yv ok.1,1|.inr (.inl %[m,1,1,ok.1|ok.2])]
  |box x=>
    let d:NmK x:=ok;exact .inr %[x,1,eN d.1,d.2.1,1|.inr (.inr %[1|d])]
 rcases j with⟨kind,z,ez⟩ | ⟨x,et,pc,x1,s1,kd⟩
 . let hs:io Tx ("(":Str) ((p+1:Nat):Int)=true:=fg (r:=z++r) (by rw[xt];show _=40::(z++r);rw[g,ez];rfl) #[0];rw[hs];apply eF ?_;erw[0,0,e,wi,Tx,p+1,k,t,r,1,O,tl,3,g,ok,kind,dn,wd,Y,λv H3 T3 o J=>?_];exact q v H3 T3 o (B1.trans (B2.trans J))
 let%[c,r',hc|aH]:=CV pc (by rw[eX];exact x1) r;let L:Tx.cps.toList.drop (p+1)=cd x++r:=by rw[g,et]
 rw[Cu (L.trans hc) aH];apply cQ ?_;erw[0,e,Po,u,1,y,D.no4,e,Tx,_,_,cd x,r,1,O,tl,3,L,pc,er,λH3 o aK=>?_];rw[show stl (cd x)=x from ou _];rw[←et,←s1]at o;let J:SameBut e H H3:=B1.trans (B2.trans aK);erw[0,ja,0,.inr (hj _),1,⋯,0,6];show if inV (.str x) (plainW.map V.str)=true then _ else _
 rw[jy];rcases kd with⟨rfl,d⟩ | ⟨m,rfl,rfl,U,m1⟩ | ⟨rfl,d⟩
 . apply aZ d ?_;erw[0,y1S,λc hc=>?_];let G:=ej hc (.tup [.str x]);exact q _ _ (.plain ah) (o.same G) (J.trans (fy G))
 . apply aF (xg U) ?_;let nl:=kW U m1;erw[0,cz m,1,3,λH4 N=>%[0|6]];rw[BA U m1];apply eF ?_;erw[0,cz m,m,1,Bz U m1,3,y2S,λc hc=>?_];let G:=ej hc (.tup [.str "num",.int m]);exact q _ _ (.num ah) ((o.same N).same G) (J.trans (fy (N.trans G)))
 . let%[xl,_,x6|xk]:=id d;apply aF (λh=>xk (zZ x h)) ?_;erw[0,x,1,3,λH4 N=>%[0|6]];rw[DP d];apply cQ ?_;erw[0,x,1,3,λH5 S5=>%[0|6]];rw[BE d];apply cQ ?_;erw[0,y2S,λc hc=>?_];let G:=ej hc (.tup [.str "box",.str x]);exact q _ _ (.box ah) (((o.same N).same S5).same G) (J.trans (fy (N.trans (S5.trans G))))
def IV:#[3,f,fd,WK,spNextT C 0]:=by
 let no:∀vs H Q E,¬ spNextT C 0 vs H Q E:=λvs H Q E h=>by
  erw[_,_,_,_,_,t,_,_,_,_,_,_,_,_,h1,_]at h
  have:=t.depth_pos
  omega
 exists 3
def pG(F:#["next_term",jt])(m:mg "next_term"=some (.ref f))(b:Fun K "term_in_bracket" "term_in_bracket" eZ g j)(c:mg "term_in_bracket"=some (.ref g))(B:Bl mg)(X:Tx K mg)(T:STxt K mg C)(M:Mths P w K mg base C t u v x y z D dT J L)(d:#[1,"is_name",WE,spTxt li])(e:#[1,"is_figures",WE,spTxt nJ]):
 ∀n:Nat,#[2*n+3,f,fd,WK,spNextT C n]
 |0=>IV
 |n+1=>
   let o:=Cal.of F (pG F m b c B X T M d e n) m (λ_ _ _ _ _ _ us hl=>by let%[q,r|1]:=GE hl;rfl)
   IW F B X T M d e (Cal.of b (Ii b X T M o) c (λ_ _ _ _ _ _ us hl=>by let%[q,r|1]:=GE hl;rfl))
instance spNextN(C:Addr):∀(sc:Addr)(T:Str)(p k:Nat)(x:Str)(r:List Nat),vs=[.ref sc]->ScanAt C H sc T p k->T.length<=1000->p<=T.length->T.cps.toList.drop p=[32]++(cd x++r)->zu r->NmK x->(∀H',ScanAt C H' sc T (p+1+x.length) k->SameBut sc H H'->Q (.str x) H'):=1
def t9:FnScope ["scan","word"] ["scan"] (aj lF):=%[|5]
def wQ(F:#["next_name",lF])(T:STxt K mg C)(M:Mths P w K mg base C fE fS fT fW fF dE dS dT dW dF)(L:#[1,"is_name",WE,spTxt li]):#[3,f,fd,["scan"],spNextN C]:=by
 exists t9
 erw[c,Tx,p,k,x,r,1,z,tl,pl,hd,N,ok,q]at h;let O:Room 1 _:=hr.mono #[0];let d:Room 2 _:=hr.mono #[0];refine⟨_,(ad (bh (cq (pv 0) T.cl M.mT M.gT d M.bT .nil bd %[aI|ae]))
  (ad #[am,1,t9,bt (pv 0) T.cl M.mW M.gW O M.bW .nil bd]
  (ad (aJ (iE (dP (aq L hr #[0] rfl %[1|ae]))) bJ aE)
  (af (au (pv 1)))))),?_⟩
 let B:((" ":Str)).length=1:=by decide
 let e:=nn hd pl;let b:=cM hd;simp only[fm,f5,ni]at e b;let%[g,j,m|n]:=id z;erw[0,c,g,j,1,m,n.no3,c,Tx,_,p,0,z,fg (r:=cd x++r) (by rw[oK];exact hd) pl,by rw[B];decide,λH1 o U=>?_];rw[B]at o;let%[t,u,v|y]:=id o;erw[0,c,t,u,1,v,y.no4,c,Tx,_,_,cd x,r,1,o,tl,3,b,eN ok.1,N,λH2 D Y=>?_];rw[show stl (cd x)=x from ou _];rw[eX]at D;let x6:=ok.2.2.1;erw[0,x,1,3,λH3 J=>%[0|6]];rw[BE ok];apply cQ ?_;erw[0,q H3 (D.same J) (U.trans (Y.trans (fy J)))]
instance spNextF(C:Addr):∀(sc:Addr)(T:Str)(p k:Nat)(m:Int)(r:List Nat),vs=[.ref sc]->ScanAt C H sc T p k->T.length<=1000->p<=T.length->T.cps.toList.drop p=[32]++(cd (cz m)++r)->zu r->0<=m->m<1000000000000->(∀H',ScanAt C H' sc T (p+1+(cz m).length) k->SameBut sc H H'->Q (.int m) H'):=1
def lC:FnScope ["scan","word"] ["scan"] (aj iW):=%[|5]
def rC(F:#["next_figures",iW])(B:Bl mg)(T:STxt K mg C)(M:Mths P w K mg base C fE fS fT fW fF dE dS dT dW dF)(O:#[1,"is_figures",WE,spTxt nJ]):#[3,f,fd,["scan"],spNextF C]:=by
 exists lC
 erw[c,Tx,p,k,m,r,1,D,tl,pl,hd,U,d,m1,q]at h;let Y:Room 1 _:=hr.mono #[0];let e:Room 2 _:=hr.mono #[0];refine⟨_,(ad (bh (cq (pv 0) T.cl M.mT M.gT e M.bT .nil bd %[aI|ae]))
  (ad #[am,1,lC,bt (pv 0) T.cl M.mW M.gW Y M.bW .nil bd]
  (ad (aJ (iE (dP (aq O hr #[0] rfl %[1|ae]))) bJ aE)
  (af (au (aX oh rfl B.int iS %[1|ae])))))),?_⟩
 let J:((" ":Str)).length=1:=by decide
 let g:=nn hd pl;let b:=cM hd;simp only[fm,f5,ni]at g b;let nl:=kW d m1;let%[j,n,o|t]:=id D;erw[0,c,j,n,1,o,t.no3,c,Tx,_,p,0,D,fg (r:=cd (cz m)++r) (by rw[oK];exact hd) pl,by rw[J];decide,λH1 u B1=>?_];rw[J]at u;let%[v,x,y|z]:=id u;erw[0,c,v,x,1,y,z.no4,c,Tx,_,_,cd (cz m),r,1,u,tl,3,b,tJ d,U,λH2 L B2=>?_];rw[show stl (cd (cz m))=cz m from ou _];rw[eX]at L;erw[0,cz m,1,3,λH3 N=>%[0|6]];rw[BA d m1];apply cQ ?_;erw[0,cz m,m,1,Bz d m1,3,q H3 (L.same N) (B1.trans (B2.trans (fy N)))]
def iteNT{c A B:Prop}[Decidable c](hc:c)(h:B):if(!decide c)=true then A else B:=by
 rw[ft hc];exact cQ h
def Hr.wd:Hr->Str
 |.fin=>"end" | .go _=>"go" | .iff _ _=>"if" | .set _ _=>"set" | .say _=>"say"
def Hr.rest:Hr->List Nat
 |.fin=>[] | .go n=>[32]++cd (cz n) | .iff t n=>[32]++(t.txt++([32]++cd (cz n))) | .set x t=>[32]++(cd x++([32]++t.txt)) | .say t=>[32]++t.txt
def Hr.codes(r:Hr):r.str.cps.toList=cd r.wd++r.rest:=by
 cases r with
 |fin=>decide
 |go n=>
   rw[show(Hr.go n).str=(("go":Str)++(" ":Str))++cz n from rfl,kf,kf,oK];show(cd "go"++[32])++cd (cz n)=cd "go"++([32]++cd (cz n))
   simp
 |iff t n=>
   rw[show(Hr.iff t n).str=(((("if":Str)++(" ":Str))++t.str)++(" ":Str))++cz n from rfl];simp only[kf,oK];show(((cd "if"++[32])++t.txt)++[32])++cd (cz n)=cd "if"++([32]++(t.txt++([32]++cd (cz n))))
   simp
 |set x t=>
   rw[show(Hr.set x t).str=(((("set":Str)++(" ":Str))++x)++(" ":Str))++t.str from rfl];simp only[kf,oK];show(((cd "set"++[32])++cd x)++[32])++t.txt=cd "set"++([32]++(cd x++([32]++t.txt)))
   simp
 |say t=>
   rw[show(Hr.say t).str=(("say":Str)++(" ":Str))++t.str from rfl,kf,kf,oK];show(cd "say"++[32])++t.txt=cd "say"++([32]++t.txt)
   simp
def ny:∀x∈(Wu:List Str),∀c∈x.cps.toList,97<=c/\c<=122:=by decide
def Hr.wd_ok(r:Hr):qI (cd r.wd):=by
 cases r with
 |fin=>exact eN (ny "end" ⋯)
 |go n=>exact eN (ny "go" ⋯)
 |iff t n=>exact eN (ny "if" ⋯)
 |set x t=>exact eN (ny "set" ⋯)
 |say t=>exact eN (ny "say" ⋯)
def Hr.rest_ok(r:Hr):zu r.rest:=by
 cases r with
 |fin=>exact .inl rfl
 |go n=>exact .inr %[(32),0|.inl rfl]
 |iff t n=>exact .inr %[(32),0|.inl rfl]
 |set x t=>exact .inr %[(32),0|.inl rfl]
 |say t=>exact .inr %[(32),0|.inl rfl]
instance spHRw:∀(r:Hr)(k:Int),vs=[.str r.str,.int k]->r.ok 20->(∀(v:V)(H':Hp),HrAt H' v r->Same H H'->Q v H'):=1
def df:FnScope ["text","number","scan","word","row"] ["text","number"] (aj kM):=%[|5]
def uR(F:#["helper_row",kM])(X:Tx K mg)(T:STxt K mg C)(M:Mths P w K mg base C fE fS fT fW fF dE dS dT dW dF)(MK:Mk K C fI)(GI:#[1,fI,aL,Wk,spSInit C])(bI:Binds K aL Wk [])
 (nQ:#[3,"next_name",["scan"],spNextN C])(g9:#[3,"next_figures",["scan"],spNextF C])(eI:#[19,"next_term",WK,spNextT C 8]):#[20,f,fd,["text","number"],spHRw]:=by
 exists df
 erw[r,k,1,ok,q]at h;erw[tw,gw]at X.within;erw[tp,gp]at X.parts;let Pp:Room 1 _:=hr.mono ⋯;let aP:Room 2 _:=hr.mono ⋯;refine⟨_,(ad #[am,2,df,iN MK GI aP rfl T.mgC bI .nil bd %[0,1,dI (v:=.int 8) rfl gw %[|0],dI (v:=.int 20) rfl gp ⟨_,rfl⟩|ae]]
  (ad #[am,3,df,bt (pv 2) T.cl M.mW M.gW Pp M.bW .nil bd]
  (ad #[am,4,df,aR %[3|ae]]
  (ad (aJ (ai aS (pv 3) aI (ax _)) (af #[am,4,df,ao op_catT (pv 4) (aR %[aq nQ hr ⋯ rfl %[2|ae],aq eI hr ⋯ rfl %[2,ag|ae]|ae])]) (af (aJ (ai aS (pv 3) aI (ax _)) (af #[am,4,df,ao op_catT (pv 4) (aR %[aq eI hr ⋯ rfl %[2,ag|ae]|ae])]) (af (aJ (ai aS (pv 3) aI (ax _)) (af #[am,4,df,ao op_catT (pv 4) (aR %[aq eI hr ⋯ rfl %[2,ag|ae],aq g9 hr ⋯ rfl %[2|ae]|ae])]) (af (aJ (ai aS (pv 3) aI (ax _)) (af #[am,4,df,ao op_catT (pv 4) (aR %[aq g9 hr ⋯ rfl %[2|ae]|ae])]) (af (aJ (ai jw (pv 3) aI (ax _)) bJ aE)))))))))
  (ad (bh (bt (pv 2) T.cl M.mF M.gF Pp M.bF .nil bd))
  (af (au (pv 4)))))))),?_⟩
 erw[0,0,λg dx nx aT bo=>?_];let s3:Same H (upd (upd H dx (.own g)) g (.ins C dx [])):=λb o e=>by
  rw[az (aN e nx),az (aN e aT)];exact e
 erw[g,dx,r.str,k,1,ah,λH1 S1 B1=>%[1|6]];let N1:Same H H1:=λb o e=>B1 b o (aN e nx) (s3 b o e)
 let tl:r.str.length<=1000:=hE (Hr.str_len ok) ⋯;let hc:=r.codes;let aH:r.str.length=r.wd.length+r.rest.length:=by
  have:=congrArg List.length hc
  rw[pM,fm,eX]at this;exact this
 let aK:r.str.cps.toList.drop 0=cd r.wd++r.rest:=by rw[Qx];exact hc
 let%[a0,a7,a8|a9]:=id S1;erw[0,g,a0,a7,1,a8,a9.no4,g,r.str,(0),(0),cd r.wd,r.rest,1,S1,tl,i1 _,aK,r.wd_ok,r.rest_ok,λH2 S2 B2=>?_];rw[show stl (cd r.wd)=r.wd from ou _];let J:=cM aK;rw[eX]at S2 J;let N2:Same H H2:=λb o e=>B2 b o (aN e nx) (N1 b o e)
 erw[0,y1S,λa ha=>?_];let Ga:=ej ha (.tup [.str r.wd]);let ea:upd H2 a (.tup [.str r.wd]) a=some (.tup [.str r.wd]):=ah;let D:=S2.same Ga;generalize upd H2 a (.tup [.str r.wd])=H3 at Ga ea D;let N3:=N2.trans Ga;let j:∀{x y:Str},x≠y->¬ V.str x=V.str y:=λh=>neStr h
 cases r with
 |fin=>
   erw[0,1,0,6];apply aF (j (x:="end") ⋯) ?_;erw[0,1,0,6];apply aF (j (x:="end") ⋯) ?_;erw[0,1,0,6];apply aF (j (x:="end") ⋯) ?_;erw[0,1,0,6];apply aF (j (x:="end") ⋯) ?_;erw[0,1,0,6];apply iteNT rfl ?_;let%[bb,be,bf|bg]:=id D;let el:0+(Hr.fin).wd.length=(Hr.fin).str.length:=by rw[aH];show 0+_=_+0;omega
   rw[el]at D;erw[0,g,bb,be,1,bf,bg.no5,g,_,0,D,tl,6];erw[0,q _ H3 (.fin ea) N3]
 |go n=>
   erw[0,1,0,6];apply aF (j (x:="go") ⋯) ?_;erw[0,1,0,6];apply aF (j (x:="go") ⋯) ?_;erw[0,1,0,6];apply aF (j (x:="go") ⋯) ?_;erw[0,1,0,6];apply aZ rfl ?_;let ab:(Hr.go n).rest.length=1+(cz n).length:=by
    show([32]++cd (cz n)).length=_;rw[fm,eX];rfl
   erw[0,0,g,_,_,_,n,[],1,D,tl,3,by rw[J];show [32]++cd (cz n)=[32]++(cd (cz n)++[]);rw[q9],.inl rfl,ok.1,ok.2,λH4 S4 L=>?_];let m:=dQ D L _ _ ea;erw[y1S,λb hb=>?_];let u:=ej hb (.tup [.int n]);erw[a,b,2,dV (u _ _ m),dV ah,by simp,y2S,λz=>(by cases z),λ_ p hp=>?_];let N:=ej hp (.tup ([V.str (Hr.go n).wd]++[V.int n]));let B:=(S4.same u).same N;let O:upd (upd H4 b (.tup [.int n])) p (.tup ([V.str (Hr.go n).wd]++[V.int n])) p=some (.tup [.str "go",.int n]):=ah;let N5:=u.trans N;generalize upd (upd H4 b (.tup [.int n])) p (.tup ([V.str (Hr.go n).wd]++[V.int n]))=H5 at B O N5;rw[show 0+(Hr.go n).wd.length+1+(cz n).length=(Hr.go n).str.length by omega]at B;let%[ac,an,ap|ar]:=id B;erw[0,g,ac,an,1,ap,ar.no5,g,_,0,B,tl,6];erw[0,q _ H5 (.go O) λc o e=>N5 _ _ (L c o (aN e nx) (N3 c o e))]
 |say t=>
   erw[0,1,0,6];apply aF (j (x:="say") ⋯) ?_;erw[0,1,0,6];apply aZ rfl ?_;let ab:(Hr.say t).rest.length=1+t.txt.length:=by
    show([32]++t.txt).length=_;rw[fm];rfl
   let d:t.fit 20:=ok;erw[0,0,g,(1),_,_,_,t,[],1,D,tl,3,by rw[J];show [32]++t.txt=[32]++(t.txt++[]);rw[q9],.inl rfl,d.1,d.2.2,by have:=d.2.2;omega,by have:=d.2.1;omega,λv H4 T4 S4 L=>?_];let m:=dQ D L _ _ ea;erw[y1S,λb hb=>?_];let u:=ej hb (.tup [v]);erw[a,b,2,dV (u _ _ m),dV ah,by simp,y2S,λz=>(by cases z),λ_ p hp=>?_];let N:=ej hp (.tup ([V.str (Hr.say t).wd]++[v]));let B:=(S4.same u).same N;let O:upd (upd H4 b (.tup [v])) p (.tup ([V.str (Hr.say t).wd]++[v])) p=some (.tup [.str "say",v]):=ah;let N5:=u.trans N;generalize upd (upd H4 b (.tup [v])) p (.tup ([V.str (Hr.say t).wd]++[v]))=H5 at B O N5;rw[show 0+(Hr.say t).wd.length+1+t.txt.length=(Hr.say t).str.length by omega]at B;let%[ac,an,ap|ar]:=id B;erw[0,g,ac,an,1,ap,ar.no5,g,_,0,B,tl,6];erw[0,q _ H5 (.say O (T4.mono (bc N5))) λc o e=>N5 _ _ (L c o (aN e nx) (N3 c o e))]
 |iff t n=>
   erw[0,1,0,6];apply aF (j (x:="if") ⋯) ?_;erw[0,1,0,6];apply aF (j (x:="if") ⋯) ?_;erw[0,1,0,6];apply aZ rfl ?_;let ab:(Hr.iff t n).rest.length=1+(t.txt.length+(1+(cz n).length)):=by
    show([32]++(t.txt++([32]++cd (cz n)))).length=_;simp only[fm,f5,ni,eX]
   erw[d,n0,n1]at ok;let U:(Hr.iff t n).str.cps.toList.drop (0+(Hr.iff t n).wd.length)=[32]++(t.txt++([32]++(cd (cz n)++[]))):=by rw[J,q9];rfl
   let Y:=cM (cM U);simp only[f5,ni]at Y;erw[0,0,g,(1),_,_,_,t,0,D,tl,3,U,.inr %[(32),0|.inl rfl],d.1,d.2.2,by have:=d.2.2;omega,by have:=d.2.1;omega,λv H4 T4 S4 L=>?_];let m:=dQ D L _ _ ea;erw[0,g,_,_,_,n,[],1,S4,tl,3,Y,.inl rfl,n0,n1,λH5 B B5=>?_];let as:=dQ S4 B5 _ _ m;let T5:=T4.mono (dQ S4 B5);erw[y2S,λb hb=>?_];let u:=ej hb (.tup [v,.int n]);erw[a,b,2,dV (u _ _ as),dV ah,by simp,y3S,λz=>(by cases z),λ_ p hp=>?_];let N:=ej hp (.tup ([V.str (Hr.iff t n).wd]++[v,V.int n]));let S6:=(B.same u).same N;let O:upd (upd H5 b (.tup [v,.int n])) p (.tup ([V.str (Hr.iff t n).wd]++[v,V.int n])) p=some (.tup [.str "if",v,.int n]):=ah;let N6:=u.trans N;generalize upd (upd H5 b (.tup [v,.int n])) p (.tup ([V.str (Hr.iff t n).wd]++[v,V.int n]))=H6 at S6 O N6;rw[show 0+(Hr.iff t n).wd.length+1+t.txt.length+1+(cz n).length=(Hr.iff t n).str.length by omega]at S6;let%[av,aw,aA|aC]:=id S6;erw[0,g,av,aw,1,aA,aC.no5,g,_,0,S6,tl,6];erw[0,q _ H6 (.iff O (T5.mono (bc N6))) λc o e=>N6 _ _ (B5 c o (aN e nx) (L c o (aN e nx) (N3 c o e)))]
 |set x t=>
   erw[0,1,0,6];apply aZ rfl ?_;let ab:(Hr.set x t).rest.length=1+(x.length+(1+t.txt.length)):=by
    show([32]++(cd x++([32]++t.txt))).length=_;simp only[fm,f5,ni,eX]
   erw[bn,d]at ok;let U:(Hr.set x t).str.cps.toList.drop (0+(Hr.set x t).wd.length)=[32]++(cd x++([32]++(t.txt++[]))):=by rw[J,q9];rfl
   let Y:=cM (cM U);simp only[f5,ni,eX]at Y;erw[0,0,g,_,_,_,x,0,D,tl,3,U,.inr %[(32),0|.inl rfl],bn,λH4 S4 L=>?_];let m:=dQ D L _ _ ea;erw[0,g,(1),_,_,_,t,[],1,S4,tl,3,Y,.inl rfl,d.1,d.2.2,by have:=d.2.2;omega,by have:=d.2.1;omega,λv H5 T5 B B5=>?_];let as:=dQ S4 B5 _ _ m;erw[y2S,λb hb=>?_];let u:=ej hb (.tup [.str x,v]);erw[a,b,2,dV (u _ _ as),dV ah,by simp,y3S,λz=>(by cases z),λ_ p hp=>?_];let N:=ej hp (.tup ([V.str (Hr.set x t).wd]++[.str x,v]));let S6:=(B.same u).same N;let O:upd (upd H5 b (.tup [.str x,v])) p (.tup ([V.str (Hr.set x t).wd]++[.str x,v])) p=some (.tup [.str "set",.str x,v]):=ah;let N6:=u.trans N;generalize upd (upd H5 b (.tup [.str x,v])) p (.tup ([V.str (Hr.set x t).wd]++[.str x,v]))=H6 at S6 O N6;rw[show 0+(Hr.set x t).wd.length+1+x.length+1+t.txt.length=(Hr.set x t).str.length by omega]at S6;let%[av,aw,aA|aC]:=id S6;erw[0,g,av,aw,1,aA,aC.no5,g,_,0,S6,tl,6];erw[0,q _ H6 (.set O (T5.mono (bc N6))) λc o e=>N6 _ _ (B5 c o (aN e nx) (L c o (aN e nx) (N3 c o e)))]
def Tm.txt_hi:∀t:Tm,t.ok->∀c∈t.txt,32<=c
 |.num n,h,c,hc=>by have:=mY h.1 c hc;omega
 |.box x,h,c,hc=>by have:=h.1 c hc;omega
 |.plain w,h,c,hc=>by have:=(pB w h).2.2.1 c hc;omega
 |.ask w a,⟨h,h1⟩,c,hc=>by
   let d:c∈[40]++(cd w++([32]++(a.txt++[41]))):=hc;simp only[List.mem_append,Qb]at d;rcases d with e | e | e | e | e
   . omega
   . have:=(Bb w h).2.2.1 c e;omega
   . omega
   . exact Tm.txt_hi a h1 c e
   . omega
 |.op o a b,⟨h,h1,h2⟩,c,hc=>by
   let d:c∈[40]++(cd o++([32]++(a.txt++([32]++(b.txt++[41]))))):=hc;simp only[List.mem_append,Qb]at d;rcases d with e | e | e | e | e | e | e
   . omega
   . have:=(vN o h).2.1 c e;omega
   . omega
   . exact Tm.txt_hi a h1 c e
   . omega
   . exact Tm.txt_hi b h2 c e
   . omega
def Kv{r:Hr}(ok:r.ok 20):∀c∈cd r.str,32<=c:=by
 intro c hc;let b:c∈cd r.wd++r.rest:=by rw[←r.codes];exact hc
 let d:∀{n:Int},0<=n->c∈cd (cz n)->32<=c:=λh0 h=>by have:=mY h0 c h;omega
 rcases qO0 b with h | h
 . have:=r.wd_ok
   let h5:∀x∈(Wu:List Str),c∈cd x->32<=c:=λx g hc=>by have:=ny x g c hc;omega
   cases r with
   |fin=>exact h5 "end" ⋯ h
   |go n=>exact h5 "go" ⋯ h
   |iff t n=>exact h5 "if" ⋯ h
   |set x t=>exact h5 "set" ⋯ h
   |say t=>exact h5 "say" ⋯ h
 . cases r with
   |fin=>cases h
   |go n=>
     let h':c∈[32]++cd (cz n):=h;simp only[List.mem_append,Qb]at h';rcases h' with e | e
     . omega
     . exact d ok.1 e
   |iff t n=>
     let h':c∈[32]++(t.txt++([32]++cd (cz n))):=h;simp only[List.mem_append,Qb]at h';rcases h' with e | e | e | e
     . omega
     . exact Tm.txt_hi t ok.1.1 c e
     . omega
     . exact d ok.2.1 e
   |set x t=>
     let h':c∈[32]++(cd x++([32]++t.txt)):=h;simp only[List.mem_append,Qb]at h';rcases h' with e | e | e | e
     . omega
     . have:=ok.1.1 c e;omega
     . omega
     . exact Tm.txt_hi t ok.2.1 c e
   |say t=>
     let h':c∈[32]++t.txt:=h;simp only[List.mem_append,Qb]at h';rcases h' with e | e
     . omega
     . exact Tm.txt_hi t (show t.fit 20 from ok).1 c e
def uk(g:uF rs)(h0:rs≠[]):Txt.split (pP rs) ("\n":Str)=rs.map Hr.str:=by
 unfold pP;rw[nl_eq,Jl];apply zF (c:=10) (λz=>h0 (List.map_eq_nil_iff.mp z)) λp b hc=>?_
 let%[r,hr|1]:=List.mem_map.mp b
 have:=Kv (g.2 r hr) 10 hc
 omega
def DL(g:uF rs)(h0:rs≠[]):pP rs≠"":=λe=>by
 let h1:=uk g h0;rw[e,show Txt.split ("":Str) ("\n":Str)=[("":Str)]from by decide]at h1;cases rs with
 |nil=>exact h0 rfl
 |cons r l=>
   let h2:=(List.cons.inj h1).1;let h3:=r.codes;rw[←h2]at h3;let h4:cd r.wd=[]:=(List.append_eq_nil_iff.mp h3.symm).1;let h5:∀x∈(Wu:List Str),cd x≠[]:=by decide
   cases r with
   |fin=>exact h5 "end" ⋯ h4
   |go n=>exact h5 "go" ⋯ h4
   |iff t n=>exact h5 "if" ⋯ h4
   |set x t=>exact h5 "set" ⋯ h4
   |say t=>exact h5 "say" ⋯ h4
instance spReadH:∀rs:List Hr,vs=[.str (pP rs)]->uF rs->(∀(a:Addr)(tv:List V)(H':Hp),H' a=some (.tup tv)->RowsAt H' tv rs->Same H H'->Q (.ref a) H'):=1
def hR:FnScope ["text","helper","number","row"] WE (aj jD):=%[|5]
def tS(F:#["read_helper",jD])(B:Bl mg)(X:Tx K mg)(lh:#[20,"helper_row",["text","number"],spHRw]):#[21,f,fd,WE,spReadH]:=by
 exists hR
 erw[rs,1,g,q]at h;erw[tm,gm]at X.rows;refine⟨_,(ad (aJ (ai aS (pv 0) aI (ax _)) (af (au (aR ae))) aE)
  (ad #[am,1,hR,bY ae]
  (ad (cR ks rfl (IH rfl B.enumerate (iH QM PySem.F.slot_str_split PySem.F.type_str_split Gh (pv 0) %[aI|ae])) (tM rfl (fo (ba (i:=2) hR.nd rfl (.inl rfl)) (fo (ba (i:=3) hR.nd rfl (.inl rfl)) pC))) (ad (aJ (ai aS (pv 2) (dI (v:=.int 60) rfl gm ⟨_,rfl⟩) (ax _)) bJ aE)
   (af (bh (iH qs Gp G0 eE (pv 1) %[aq lh hr ⋯ rfl %[3,2|ae]|ae])))))
  (af (au (aX bq rfl B.tuple cw %[1|ae])))))),?_⟩
 let tl:=Hc g;let an:=g.1;erw[0,1,0,6]
 by_cases C:rs=[]
 . subst C;apply aZ (by show V.str (pP [])=V.str "";decide) ?_;erw[i1 _,λt m=>?_];exact q t [] _ ah RowsAt.nil (ej m _)
 apply aF (λz=>DL g C (EA z)) ?_;erw[i1 _,λL hL=>?_];let GL:=ej hL (.lst []);let D:upd H L (.lst []) L=some (.lst []):=ah;generalize upd H L (.lst [])=H1 at GL D;let ts:=uk g C;erw[0,1,2,⋯,3,by rw[ts,d8];omega,λa ha=>?_];rw[ts];let J:=ej ha (.lst ((rs.map Hr.str).map V.str));let M:upd H1 a (.lst ((rs.map Hr.str).map V.str)) a=some (.lst ((rs.map Hr.str).map V.str)):=ah;let aL:a≠L:=λz=>by rw[z,D]at ha;cases ha
 generalize upd H1 a (.lst ((rs.map Hr.str).map V.str))=H2 at J M;let N:=J _ _ D;refine⟨a,rfl,%[_|eH M],Hh (K:=K) (xs:=(rs.map Hr.str).map V.str) (λi σ y=>∃(O U:Option V)(d:List V),σ=[some (.str (pP rs)),some (.ref L),O,U]/\y L=some (.lst d)/\RowsAt y d (rs.take i)/\SameBut L H2 y)
  %[_,_,[],1,N,RowsAt.nil|SameBut.refl _ _] (λi σ y _ Pi=>by erw[_,_,_,_,_,_,h]at Pi;exact eH (h _ _ aL M)) ?_ ?_⟩
 . rintro i z σ Y t hz ⟨O,U,d,rfl,c,n,S3⟩ m;let hi:=(Pl hz).1;rw[d8,d8]at hi;rw[hI,hI,Option.map_map]at hz;let%[r,u|1]:=oe hz;let Gt:=ej m (.tup [.int (i:Int),.str r.str]);let ab:=Gt _ _ c;let vl:=n.1;rw[kr]at vl;erw[t,0,dV ah,1,_,0,2,6];erw[0,1,0,6];apply aF (λz=>by have:=V.int.inj z;omega) ?_;erw[0,.inl %[1,_|eH ab],0,0,r,0,g.2 r (ms u),λv H4 ra S4=>?_];let j:Same Y H4:=Gt.trans S4;let x:=j _ _ c;let kp:cZ H4 (upd H4 L (.lst (d++[v]))):=GK x;erw[L,2,x,aM #[0],6];erw[_,_,d++[v],1,ah,6,6]
   . rw[ih,u];exact((n.mono (bc j)).mono kp).snoc (ra.mono kp)
   . exact S3.trans ((fy j).trans (SameBut.upd _))
 . rintro σ Y ⟨O,U,d,rfl,c,n,S3⟩;rw[d8,d8,i0]at n;erw[0,L,0,.inl %[eH c|λt m=>?_]];let ac:Same H Y:=λb o e=>S3 b o (aN e hL) (J _ _ (GL _ _ e))
   exact q t d _ ah (n.mono (bc (ej m _))) (ac.trans (ej m _))
def Ep(k:AkOk z)(nd:z.ns.Nodup)(i:Int)(h:0<z.nr):eK z i=di z.ns z.ts z.s z.p (z.to++[i]):=by
 let%[x,b,ex,g,d1|d4]:=k.deg h;unfold eK;rw[Pe h];let e:z.tru=eJ z.ns z.ts z.s z.p z.to (bj z.ts x+1).toNat:=by
  unfold Ak.tru;rw[Pd #[0],ex]
 let c:z.ts≠[]:=λe=>by have:=k.gk.t1;rw[e]at this;cases this
 rw[e];exact Bf (jv k.gk.pr (by have:=k.gk.p9;omega)) b nd (λt d=>(k.gk.tok t d).1) c d1 i
def Er{z:Ak}(h:z.nr=0)(i:Nat){t:Tr}(b:z.ts[i]?=some t):eK z (i:Int)=(cnt t z.ns:Int) % z.p:=by
 let hl:=(Pl b).1;unfold eK;let e:z.tru=z.ts.map (λt=>(cnt t z.ns:Int)):=by
  unfold Ak.tru;rw[Pe h]
 rw[Pd #[0],e,d8,Pe #[0],pu,m9,hI,b];rfl
def Ju{ns:List Str}{p:Int}(c:1<p){t:Tr}(ok:t.ok ns):(cnt t ns:Int)=((cU ns.length).map λst=>t.worth ns st p).sum:=by
 unfold cnt;let h:∀st∈cU ns.length,t.worth ns st p=if t.holds ns st then 1 else 0:=λst Pi=>jo c (oV _ _ Pi) (iO _ _ Pi) t ok
 generalize cU ns.length=l at h
 induction l with
 |nil=>rfl
 |cons a l b=>
   let b:=b λst Pi=>h st (mj _ Pi)
   rw[lw,rb,←b,h a kb,List.filter_cons];cases t.holds ns a
   . simp
   . simp only[PD,f5];omega
def tZ{ns:List Str}{ts:List Tr}{p:Int}(b:1<p)(ok:∀t∈ts,t.ok ns):hor s p (ts.map λt=>(cnt t ns:Int))=di ns ts s p []:=by
 rw[lY];unfold di;let e:(ts.map λt=>(cnt t ns:Int))=ts.map λt=>((cU ns.length).map λst=>t.worth ns st p).sum:=P9 λt c=>Ju b (ok t c)
 rw[e,tI s (λt st=>t.worth ns st p)];rfl
def rS(s p:Int):∀xs:List Int,hor s p (xs.map (· % p))=hor s p xs
 | []=>rfl
 |a::r=>by
   show(hor s p (r.map (· % p))*s+a % p) % p=(hor s p r*s+a) % p;rw[rS s p r,RY]
section
variable {ns:List Str}{ts:List Tr}{p:Int}{t:Tk}{rows:List Hr}
def yC(k:GmK ns ts p)(s:Int):hor s p (ts.map λu=>(cnt u ns:Int) % p)=di ns ts s p []:=by
 let p2:=k.p2;rw[←tZ (s:=s) (p:=p) #[0] (λu b=>(k.tok u b).1),←rS s p (ts.map λt=>(cnt t ns:Int)),List.map_map];rfl
def pQ(z:Db)(tl:z.to.length<=ns.length)(e:z.ed=di ns ts z.s p z.to):((goOn ns ts p z).aw.1="hear" -> (goOn ns ts p z).ed=di ns ts (goOn ns ts p z).s p (goOn ns ts p z).to)/\(¬ (goOn ns ts p z).aw.1="hear" -> (goOn ns ts p z).aw=(("believed":Str),none)):=by
 unfold goOn
 by_cases c:z.to.length<ns.length
 . rw[Pe c];erw[λ_=>e,λh=>absurd rfl h]
 . rw [Pd c];unfold fq;let e2:z.ed=hor z.s p (ts.map λt=>t.worth ns z.to p):=by rw[e,Bs #[0]]
   rw[Pe e2];erw[λh=>absurd h JR,λ_=>rfl]
structure Tru(ns:List Str)(ts:List Tr)(p:Int)(t:Tk):Prop where
 he:t.z.aw.1="hear" -> t.z.ed=di ns ts t.z.s p t.z.to
 co:t.z.aw.1="coin" -> t.z.he≠[]->t.z.he=eJ ns ts t.z.s p t.z.to (bj ts (ns.getD t.z.to.length "")+1).toNat
 cm:t.z.aw.1="coin" -> t.z.he=[]->t.z.cl=ts.map (λu=>(cnt u ns:Int) % p)/\t.z.to=[]
 en:¬ t.z.aw.1="hear" -> ¬ t.z.aw.1="coin" -> t.z.aw=(("believed":Str),none)
structure Hon(ns:List Str)(ts:List Tr)(p:Int)(rows:List Hr):Prop where
 cl:(Tk.new ts).said ns ts p rows=ts.map (λu=>(cnt u ns:Int) % p)
 ro:∀t,TkOk ns ts p t->t.z.aw.1="hear" -> t.said ns ts p rows=eJ ns ts t.z.s p t.z.to (awN t.z).toNat
def im(k:GmK ns ts p)(nd:ns.Nodup){cs:List Int}(tl:cs.length<ns.length)(r:Int):val p (eJ ns ts s p cs (bj ts (ns.getD cs.length "")+1).toNat) r=di ns ts s p (cs++[r]):=by
 let b:ns[cs.length]?=some (ns.getD cs.length ""):=by
  rw[m9,fz tl];rfl
 let c:ns.getD cs.length ""∈ns:=ms b;let d:ts≠[]:=λe=>by have:=k.t1;rw[e]at this;cases this
 exact Bf (jv k.pr (by have:=k.p9;omega)) b nd (λu g=>(k.tok u g).1) d (k.deg _ c).2 r
def Tru.ask(k:GmK ns ts p)(n6:ns.length<=6)(nd:ns.Nodup)(g:Hon ns ts p rows)(h:TkOk ns ts p t)(d:Tru ns ts p t)(hw:t.z.aw.1="hear"):Tru ns ts p (t.ask ns ts p rows)/\(t.ask ns ts p rows).z.aw=(("coin":Str),none):=by
 let%[_,_,_,tl,aw|j]:=h.ak k n6 hw;let m:=h.gd.hear_ne k (h.hear (rows:=rows) k n6 hw);let e:(t.ask ns ts p rows).z=dY p (t.said ns ts p rows) { t.z with pl:=t.z.pl+((t.said ns ts p rows).length:Int) }:=Pd h.cl;let c:t.said ns ts p rows=eJ ns ts t.z.s p t.z.to (bj ts (ns.getD t.z.to.length "")+1).toNat:=by rw[g.ro t h hw,j]
 let b:(t.ask ns ts p rows).z.aw=(("coin":Str),none):=by
  rw[e];unfold dY;rw[Pe];show(val p (t.said ns ts p rows) 0+val p (t.said ns ts p rows) 1) % p=t.z.ed;rw[c,im k nd tl,im k nd tl,mO tl,d.he hw]
 erw[%[λz=>?_,λ_ _=>?_,λ_ z=>?_|λ_ z=>?_],b]
 . rw[b]at z;exact absurd z jf
 . rw[e];exact c
 . rw[e]at z;exact absurd z m
 . rw[b]at z;exact absurd rfl z
def Tru.toss(k:GmK ns ts p)(nd:ns.Nodup)(h:TkOk ns ts p t)(d:Tru ns ts p t)(hw:t.z.aw.1="coin")(r:Int):Tru ns ts p (t.toss ns ts p r):=by
 let fin:∀z:Db,z.to.length<=ns.length->z.ed=di ns ts z.s p z.to->(t.toss ns ts p r).z=goOn ns ts p z->Tru ns ts p (t.toss ns ts p r):=λz tl e g=>by
  let%[f1|b]:=pQ (ns:=ns) (ts:=ts) (p:=p) z tl e;let no:=jA (ns:=ns) (ts:=ts) (p:=p) z;rw[←g]at f1 b no;erw[f1,λz=>absurd z no,λz=>absurd z no,λz _=>b z]
 by_cases c:t.z.he=[]
 . let%[j|m]:=d.cm hw c;apply fin { t.z with pl:=t.z.pl+1,s:=r,ed:=hor r p t.z.cl } h.gd.tl ?_ (Pe c);show hor r p t.z.cl=di ns ts r p t.z.to;rw[j,m,yC k]
 . let tl:=((h.gd.co hw).2 c).2;apply fin { t.z with pl:=t.z.pl+1,ed:=val p t.z.he r,to:=t.z.to++[r] } (by show(t.z.to++[r]).length<=_;rw[fm,nm];omega) ?_ (Pd c);show val p t.z.he r=di ns ts t.z.s p (t.z.to++[r]);rw[d.co hw c,im k nd tl]
def lZ(k:GmK ns ts p)(n6:ns.length<=6)(nd:ns.Nodup)(c:Hon ns ts p rows):∀(n:Nat) (t:Tk) (cs:List Int),TkOk ns ts p t->Tru ns ts p t->cv cs p->bQ ns t.z<=n->(cK ns ts p rows cs n t).2.z.aw=(("believed":Str),none)
 |0,t,cs,h,d,hc,e=>d.en (λz=>by have:=(eT h (.inl z)).1;omega) (λz=>by have:=(eT h (.inr z)).1;omega)
 |n+1,t,cs,h,d,hc,e=>by
   let p2:=k.p2
   by_cases ch:t.z.aw.1="hear"
   . rw[fe ch];let%[o,s|_]:=h.ask (rows:=rows) k n6 ch;exact lZ k n6 nd c n _ cs o (d.ask k n6 nd c h ch).1 hc #[0]
   . by_cases b:t.z.aw.1="coin"
     . rw[dN b];let%[r0|r1]:=jU hc #[0];let%[o,s|_]:=h.toss k b r0 r1;exact lZ k n6 nd c n _ cs.tail o (d.toss k nd h b _) (oR hc) #[0]
     . rw[eA ch b];exact d.en ch b
def Tru.new(k:GmK ns ts p)(d:Hon ns ts p rows):Tru ns ts p ‹Tk.a›:=by
 let e0:du ns ts p ‹Tk.s› (Db.new ts)=jz ns ts p ‹Tk.s› { Db.new ts with pl:=(Db.new ts).pl+(‹Tk.s›.length:Int) }:=Pe rfl
 by_cases c:ts.length=1
 . let e:‹Tk.a›.z=goOn ns ts p { Db.new ts with pl:=(Db.new ts).pl+(‹Tk.s›.length:Int),cl:=‹Tk.s›,s:=0,ed:=hor 0 p ‹Tk.s› }:=e0.trans (Pe c);let%[f1|g]:=pQ (ns:=ns) (ts:=ts) (p:=p) { Db.new ts with pl:=(Db.new ts).pl+(‹Tk.s›.length:Int),cl:=‹Tk.s›,s:=0,ed:=hor 0 p ‹Tk.s› } (i1 _) (by
    show hor 0 p ‹Tk.s›=di ns ts 0 p [];rw[d.cl,yC k])
   let no:=jA (ns:=ns) (ts:=ts) (p:=p) { Db.new ts with pl:=(Db.new ts).pl+(‹Tk.s›.length:Int),cl:=‹Tk.s›,s:=0,ed:=hor 0 p ‹Tk.s› };rw[←e]at f1 g no;erw[f1,λz=>absurd z no,λz=>absurd z no,λz _=>g z]
 . let b:‹Tk.a›.z={ Db.new ts with pl:=(Db.new ts).pl+(‹Tk.s›.length:Int),cl:=‹Tk.s›,aw:=("coin",none) }:=e0.trans (Pd c);erw[λz=>?_,λ_ z=>?_,λ_ _=>?_,λ_ z=>?_]
   . rw[b]at z;exact absurd z jf
   . rw[b]at z;exact absurd rfl z
   . rw[b];erw[d.cl,1]
   . rw[b]at z;exact absurd rfl z
def AM(k:GmK ns ts p)(n6:ns.length<=6)(nd:ns.Nodup)(b:Hon ns ts p rows)(hc:cv c p):(eP ns ts p rows c).2.z.aw=(("believed":Str),none):=by
 let%[o,st|_]:=kX (rows:=rows) k n6;exact lZ k n6 nd b 20 _ c o (Tru.new k b) hc #[0]
def xz(k:GmK ns ts p)(n6:ns.length<=6)(nd:ns.Nodup)(d:Hon ns ts p rows):gg ns ts p rows (bm ns ts) 8 (Tk.new ts) []=(p ^ bm ns ts,none):=by
 let p2:=k.p2;let b:(p.toNat:Int)=p:=#[0]
 let e1:∀c∈cO p.toNat (bm ns ts),decide ((eP ns ts p rows c).2.z.aw.1="believed")=true:=λc hc=>by
  let%[_|co]:=iw _ _ hc;rw[b]at co;rw[AM k n6 nd d co];exact ft rfl
 rw[my k n6,iZ (b':=λ_=>true) e1];unfold gU;let e2:(cO p.toNat (bm ns ts)).filter (λ_=>true)=cO p.toNat (bm ns ts):=List.filter_eq_self.mpr λ_ _=>rfl
 let e3:(cO p.toNat (bm ns ts)).filter (λc=>!((λ_=>true) c))=[]:=List.filter_eq_nil_iff.mpr λ_ _=>by simp
 rw[e2,e3,jj,Qv,b];rfl
end
section
variable {ns:List Str}{ts:List Tr}{p:Int}{t:Tk}{rows:List Hr}
def dH(z:Ak)(n:Nat):List Int:=(List.range n).map λk:Nat=>eK z ((k:Int) % z.p)
def gX(z:Ak)(n:Nat):(dH z n).length=n:=by unfold dH;rw[d8,o0]
def ku(z:Ak)(n:Nat):dH z (n+1)=dH z n++[eK z ((n:Int) % z.p)]:=by
 unfold dH;rw[ss,fj];rfl
def tO(z:Ak){n:Nat}(h:z.mn=(n:Int)):qx z.mn (dH z n)=dH z n:=by
 unfold qx;rw[gX,h,Rk];exact q9 _
def vb(k:GmK ns ts p)(n6:ns.length<=6)(nd:ns.Nodup)(h:TkOk ns ts p t)(hw:t.z.aw.1="hear"):dH (t.ak ns ts p) (awN t.z).toNat=eJ ns ts t.z.s p t.z.to (awN t.z).toNat:=by
 let%[ok,d,a5,tl,aw|g]:=h.ak k n6 hw;let nr:=h.nr;let c:ns.getD t.z.to.length ""∈ns:=by
  rw[m9,fz tl];exact o4 tl
 let dp:=(k.deg _ c).2;unfold dH eJ;apply P9 λj b=>?_
 let b:=List.mem_range.mp b;let e:(j:Int) % (t.ak ns ts p).p=(j:Int):=nh #[0] (by show(j:Int)<p;omega);rw[e];exact Ep ok nd (j:Int) (by show 0<t.nr;omega)
def Co(k:GmK ns ts p):dH ((Tk.new ts).ak ns ts p) ts.length=ts.map λu=>(cnt u ns:Int) % p:=by
 let tp:=k.tp;apply List.ext_getElem? λj=>?_
 unfold dH;rw[hI,hI]
 by_cases c:j<ts.length
 . rw[Qq c,fz c];show some (eK ((Tk.new ts).ak ns ts p) ((j:Int) % ((Tk.new ts).ak ns ts p).p))=_;let e:(j:Int) % ((Tk.new ts).ak ns ts p).p=(j:Int):=nh #[0] (by show(j:Int)<p;omega);rw[e,Er (z:=(Tk.new ts).ak ns ts p) rfl j (fz c)];rfl
 . rw[List.getElem?_eq_none (by rw[o0];omega),List.getElem?_eq_none #[0]];rfl
def Hon.of(k:GmK ns ts p)(n6:ns.length<=6)(nd:ns.Nodup)(h:∀(z:Ak) (bx:Str->Int) (n:Nat),z.p=p->z.mn=(n:Int)->1<=n->(n=ts.length∨∃x∈ns,(n:Int)=bj ts x+1)->(jQ z rows 200 %[(0),bx|[]]).sd=dH z n):Hon ns ts p rows:=by
 erw[6,λt b hw=>?_]
 . let e:=h ((Tk.new ts).ak ns ts p) (Tk.new ts).bx ts.length rfl rfl k.t1 (.inl rfl);unfold Tk.said Tk.run;rw[e];exact(tO ((Tk.new ts).ak ns ts p) rfl).trans (Co k)
 . let%[ok,d,a5,tl,aw|g]:=b.ak k n6 hw;let c:ns.getD t.z.to.length ""∈ns:=by
    rw[m9,fz tl];exact o4 tl
   let j:=(rY k (ns.getD t.z.to.length "")).1;let en:awN t.z=((awN t.z).toNat:Int):=#[0]
   let e:=h (t.ak ns ts p) t.bx (awN t.z).toNat rfl en #[0] (.inr %[_,c|3]);unfold Tk.said Tk.run;rw[e];exact(tO (t.ak ns ts p) en).trans (vb k n6 nd b hw)
def BD:¬ (("true":Str)="coin"):=by decide
def hB(x:Str):List Hr:=[.set x (.num 0),.say (.ask "true" (.box x)),.set x (.op "+" (.box x) (.num 1)),.go 1]
def fQ{z:Ak}{rows:List Hr}{n:Nat}{s:MS}(h1:s.pl<(rows.length:Int))(h2:(s.sd.length:Int)<z.mn):jQ z rows (n+1) s=jQ z rows n (cV z rows s):=Pe %[h1|h2]
def kO{z:Ak}{rows:List Hr}{s:MS}(h:¬ (s.pl<(rows.length:Int)/\(s.sd.length:Int)<z.mn)):∀n,jQ z rows n s=s
 |0=>rfl
 |n+1=>Pd h
def runB{z:Ak}{x:Str}(p0:0<z.p):∀(m j b:Nat)(bx:Str->Int),z.mn=((j+m:Nat):Int)->3*m<=b->bx x=(j:Int) % z.p->(jQ z (hB x) b %[(1),bx|dH z j]).sd=dH z (j+m)
 |0,j,b,bx,d,hf,hb=>by
   rw[kO (λc=>absurd c.2 (by show ¬ ((dH z j).length:Int)<z.mn;rw[gX,d];omega))];rfl
 |m+1,j,b,bx,d,hf,hb=>by
   obtain⟨e,rfl⟩:∃e,b=e+3:=%[b-3|3]
   let e1:cV z (hB x) %[(1),bx|dH z j]=⟨2,bx,dH z (j+1)⟩:=by
    show(%[1+1,bx|dH z j++[if("true":Str)="coin" then jB z (bx x)else eK z (bx x)]]:MS)=_;rw[Pd BD,hb,ku];rfl
   rw[fQ (by show(1:Int)<4;decide) (by show((dH z j).length:Int)<z.mn;rw[gX,d];omega),e1];cases m with
   |zero=>
     rw[kO (λc=>absurd c.2 (by show ¬ ((dH z (j+1)).length:Int)<z.mn;rw[gX,d];omega))]
   |succ m=>
     let hl:((dH z (j+1)).length:Int)<z.mn:=by rw[gX,d];omega
     let e2:cV z (hB x) %[(2),bx|dH z (j+1)]=⟨3,eR bx x (opV z.p "+" (bx x) (1 % z.p)),dH z (j+1)⟩:=rfl;let e3:cV z (hB x) ⟨3,eR bx x (opV z.p "+" (bx x) (1 % z.p)),dH z (j+1)⟩=⟨1,eR bx x (opV z.p "+" (bx x) (1 % z.p)),dH z (j+1)⟩:=rfl;rw[fQ (by show(2:Int)<4;decide) hl,e2,fQ (by show(3:Int)<4;decide) hl,e3];let g:eR bx x (opV z.p "+" (bx x) (1 % z.p)) x=((j+1:Nat):Int) % z.p:=by
      unfold eR;rw[Pe rfl];show(bx x+1 % z.p) % z.p=_;rw[hb,Qs,RY];rfl
     have:=runB p0 (m+1) (j+1) e _ (by rw[d];omega) #[0] g
     rw[this]
     congr 1
     omega
def hon_B(k:GmK ns ts p)(n6:ns.length<=6)(nd:ns.Nodup)(d60:∀y∈ns,bj ts y<=60):Hon ns ts p (hB x):=Hon.of k n6 nd λz bx n e b n1 h=>by
 let p2:=k.p2;let t10:=k.t10;let c:n<=66:=by
  rcases h with h | ⟨y,d,h⟩
  . omega
  . have:=d60 y d
    omega
 let e1:cV z (hB x) %[(0),bx|[]]=⟨1,eR bx x (0 % z.p),dH z 0⟩:=rfl;rw[fQ (by show(0:Int)<4;decide) (by rw[b];show(0:Int)<(n:Int);omega),e1,runB #[0] n 0 199 _ (by rw[b,Rl]) #[0] (by unfold eR;rw[Pe rfl];rfl),Rl]
end
def bmp(p:Int)(l:List Int)(a:Nat)(m:Int):List Int:=l.set a ((l.getD a 0+m) % p)
def pX(p:Int)(l:List Int)(a:Nat)(m:Int):(bmp p l a m).length=l.length:=L5
def HL{l:List Int}{a:Nat}(h:a<l.length):(bmp p l a m).getD a 0=(l.getD a 0+m) % p:=by
 unfold bmp;rw[m9,QK h];rfl
def HI{a k:Nat}(h:k≠a):(bmp p l a m).getD k 0=l.getD k 0:=by
 unfold bmp;rw[m9,QP (Ne.symm h),←m9]
def HH{l:List Int}{a:Nat}{r:Int}(b:Pm p)(c:(l.length:Int)<=p)(r0:0<=r)(d:r<l.length)(e:r≠(a:Int)):val p (bmp p l a m) r=val p l r:=by
 let%[k|1]:=PJ r0;rw[kq b (by rw[pX];exact c) (by rw[pX];omega),kq b c #[0],HI #[0]]
def HJ{l:List Int}{a:Nat}(b:Pm p)(c:(l.length:Int)<=p)(al:a<l.length):val p (bmp p l a m) a=(val p l a+m) % p:=by
 rw[kq b (by rw[pX];exact c) (by rw[pX];omega),kq b c al,HL al,Pz,Qs]
def Ly{p x m:Int}(b:¬ p ∣ m)(c:0<=x)(d:x<p):(x+m) % p≠x:=λe=>b (by
 let h:(x+m) % p=x % p:=by rw[e,nh c d]
 have:=Int.emod_eq_emod_iff_emod_sub_eq_zero.mp h
 rw[show x+m-x=m by omega]at this;exact L1 this)
def HK{l:List Int}{a:Nat}{m r:Int}(u:Pm p)(L:(l.length:Int)<=p)(al:a<l.length)(M:¬ p ∣ m)(r1:r<p)(rl:(l.length:Int)<=r):val p (bmp p l a m) r≠val p l r:=λe=>by
 let t:=vK u L;let nl:=pX p l a m;let N:p ∣ lag (λi=>(bmp p l a m).getD i 0) (wt p l.length) l.length r-lag (λi=>l.getD i 0) (wt p l.length) l.length r:=by
  apply L1 (Int.emod_eq_emod_iff_emod_sub_eq_zero.mp ?_);let h:=e;unfold val at h;rw[nl]at h;exact h
 let b:IsPoly l.length λx=>lag (λi=>(bmp p l a m).getD i 0) (wt p l.length) l.length x+(-1)*lag (λi=>l.getD i 0) (wt p l.length) l.length x:=(pN _ _ _).add ((pN _ _ _).mul (-1))
 let z:=IsPoly.roots u ((List.range l.length).map λi:Nat=>if i=a then r else(i:Int)) b (by rw[d8,o0]) ?_ ?_ (a:Int)
 . let z1:=oM (v:=λi=>(bmp p l a m).getD i 0) t al;let z2:=oM (v:=λi=>l.getD i 0) t al;let y:p ∣ lag (λi=>(bmp p l a m).getD i 0) (wt p l.length) l.length a-(l.getD a 0+m) % p:=by
    let h:=z1;rw[HL al]at h;exact h
   let z3:p ∣ (l.getD a 0+m) % p-(l.getD a 0+m):=L1 (Int.emod_eq_emod_iff_emod_sub_eq_zero.mp (Pz ..));erw[c,hc]at z;erw[O,h1]at y;erw[U,h2]at z2;erw[Y,h3]at z3;apply M %[c-O+U-Y|6];rw[P6,Qm,P6];omega
 . apply List.pairwise_map.mpr (List.Pairwise.imp_of_mem ?_ List.pairwise_lt_range);intro i j g D ij hd;let g:=List.mem_range.mp g;let D:=List.mem_range.mp D;erw[c,hc]at hd;let p1:=u.1;let o:∀d:Int,d=p*c->0<d->d<p->False:=λd hd h0 h1=>by
    rcases P4 c 1 with h | h
    . have:p*c<=0:=Sc #[0] #[0]
      omega
    . have:p*1<=p*c:=wa h #[0]
      omega
   let q:∀d:Int,d=p*c->-p<d->d<0->False:=λd hd h0 h1=>by
    rcases P4 c 0 with h | h
    . have:p*c<=p*(-1):=wa #[0] #[0]
      omega
    . have:0<=p*c:=Int.mul_nonneg #[0] h
      omega
   by_cases n:i=a
   . rw[Pe n,Pd #[0]]at hc;exact q _ hc #[0] #[0]
   . rw [Pd n]at hc
     by_cases J:j=a
     . rw[Pe J]at hc;exact o _ hc #[0] #[0]
     . rw[Pd J]at hc;exact o _ hc #[0] #[0]
 . intro x hx;let%[i,g|1]:=List.mem_map.mp hx;let g:=List.mem_range.mp g
   by_cases n:i=a
   . rw [Pe n]
     simpa [Int.sub_eq_add_neg]using N
   . rw [Pd n];let z1:=oM (v:=λi=>(bmp p l a m).getD i 0) t g;let z2:=oM (v:=λi=>l.getD i 0) t g
     have:=Int.dvd_sub z1 z2
     simp only[HI n]at this;rw[show ∀A B C:Int,A-C-(B-C)=A+-1*B by intro A B C;omega]at this;exact this
section
def qL{p:Int}(b:1<p)(x r:Int):val p [x] r=x % p:=by
 unfold val;let e:∀r:Int,lag (λi=>[x].getD i 0) (wt p 1) 1 r=lag (λi=>[x].getD i 0) (wt p 1) 1 0:=λ_=>rfl
 show lag (λi=>[x].getD i 0) (wt p 1) 1 r % p=_;rw[e];show(0+x*1*wt p 1 0) % p=_;let e1:wt p 1 0=1:=by
  show((1:Int) % p) ^ (p-2).toNat=1;rw[nh ⋯ b,Int.one_pow]
 rw[e1,vu,PC,PC]
def JP(b:Pm p)(p2:2<p):p % 2=1:=by
 let%[f,c|hc]:=b.2 2 (fun⟨c,hc⟩=>by
  rcases P4 c 1 with h | h
  . have:p*c<=0:=Sc #[0] #[0]
    omega
  . have:p*1<=p*c:=wa h #[0]
    omega)
 rcases Int.emod_two_eq p with h | h
 . obtain ⟨q,rfl⟩:∃q,p=2*q:=%[p / 2|3]
   rw[Qz]at hc;generalize q*c=m at hc;omega
 . exact h
def xB{e:Int}(b:Pm p)(p2:2<p)(e0:0<=e)(e1:e<p):0<=pT p e 2/\pT p e 2<p/\(pT p e 2+pT p e 2) % p=e:=by
 let o:=JP b p2;let c:Jn p 2=(p+1) / 2:=BJ #[0] #[0] (by
  rw[show(p+1) / 2*2=1+p by omega,Int.add_emod_right];exact nh ⋯ #[0])
 unfold pT;rw[Pd ⋯,c];erw[lz _ #[0],mu _ #[0],6];let h2:e*((p+1) / 2)+e*((p+1) / 2)=e+e*p:=by
  rw[←Qm,show(p+1) / 2+(p+1) / 2=1+p by omega,Qm,PC]
 rw[←w4,h2,Int.add_mul_emod_self_right,nh e0 e1]
def Hd{x y:Int}(b:Pm p)(p2:2<p)(d:0<=x)(e:x<p)(g:0<=y)(j:y<p)(h:(x+x) % p=(y+y) % p):x=y:=by
 let o:=JP b p2;let%[c|hc]:=L1 (Int.emod_eq_emod_iff_emod_sub_eq_zero.mp h);rcases P4 c (-1)with h1 | h1
 . have:p*c<=p*(-2):=wa #[0] #[0]
   omega
 . rcases P4 1 c with h2 | h2
   . have:p*2<=p*c:=wa #[0] #[0]
     omega
   . have:c=-1∨c=0∨c=1:=#[0]
     rcases this with rfl | rfl | rfl <;> omega
def nI(p e:Int)(L:List Int):List Int:=if L.length=1 then [pT p e 2]else L.set 1 ((e-L.getD 0 0) % p)
variable {p e:Int}{L:List Int}
def Gw:(nI p e L).length=L.length:=by
 unfold nI
 split
 . next c=>rw[c];rfl
 . exact L5
def Kr(x:Int):(L.set 1 x).getD 0 0=L.getD 0 0:=by
 rw[m9,QP ⋯,←m9]
def Kq{x:Int}(h:1<L.length):(L.set 1 x).getD 1 0=x:=by
 rw[m9,QK h];rfl
def Gv(b:Pm p)(p2:2<p)(e0:0<=e)(e1:e<p)(n:1<=L.length)(d:(L.length:Int)<=p):(val p (nI p e L) 0+val p (nI p e L) 1) % p=e:=by
 unfold nI
 by_cases c:L.length=1
 . let%[h0,h1|h2]:=xB b p2 e0 e1;rw[Pe c,qL #[0],qL #[0],nh h0 h1];exact h2
 . rw [Pd c];let g:=kq (xs:=L.set 1 ((e-L.getD 0 0) % p)) (k:=0) b (by rw[L5];exact d) (by rw[L5];omega);let a1:=kq (xs:=L.set 1 ((e-L.getD 0 0) % p)) (k:=1) b (by rw[L5];exact d) (by rw[L5];omega);let j:val p (L.set 1 ((e-L.getD 0 0) % p)) 0=L.getD 0 0 % p:=Eq.trans g (by rw[Kr]);let m:val p (L.set 1 ((e-L.getD 0 0) % p)) 1=(e-L.getD 0 0) % p:=by
    apply Eq.trans a1 ?_;rw[Kq #[0],Pz]
   rw[j,m,←w4,show L.getD 0 0+(e-L.getD 0 0)=e by omega,nh e0 e1]
def BV(b:Pm p)(c:(L.length:Int)<=p)(g:2<=L.length):(val p L 0+val p L 1) % p=(L.getD 0 0+L.getD 1 0) % p:=by
 let d:val p L 0=_:=kq (xs:=L) (k:=0) b c #[0];let a1:val p L 1=_:=kq (xs:=L) (k:=1) b c #[0];rw[d,a1,←w4]
def Gs(b:Pm p)(p2:2<p)(ok:cv L p)(n:1<=L.length)(m:(L.length:Int)<=p)(h:(val p L 0+val p L 1) % p=e):nI p e L=L:=by
 let e0:0<=e:=by rw[←h];exact lz _ #[0]
 let e1:e<p:=by rw[←h];exact mu _ #[0]
 unfold nI
 by_cases c:L.length=1
 . let%[h0,h1|h2]:=xB b p2 e0 e1;rw[Pe c];let%[x|1]:=List.length_eq_one_iff.mp c;let%[d|g]:=ok x (List.mem_singleton.mpr rfl);rw[qL #[0],qL #[0],nh d g]at h;rw[Hd b p2 h0 h1 d g (h2.trans h.symm)]
 . rw [Pd c];let j:1<L.length:=#[0]
   rw [BV b m #[0]]at h;let r1:=ma ok #[0] 1;let e2:(e-L.getD 0 0) % p=L[1]:=by
    rw[←h,Int.emod_sub_emod,show L.getD 0 0+L.getD 1 0-L.getD 0 0=L.getD 1 0 by omega,nh r1.1 r1.2,m9,fz j];rfl
   rw[e2];exact List.set_getElem_self j
def Dv(d:Pm p)(p2:2<p)(ok:cv L p)(e0:0<=e)(e1:e<p)(u:1<=L.length)(g:(L.length:Int)<=p)(h:¬ (val p L 0+val p L 1) % p=e){r:Int}(r0:0<=r)(rp:r<p):val p (nI p e L) r=val p L r↔(L.length≠1/\r<(L.length:Int)/\r≠1):=by
 by_cases c:L.length=1
 . let%[h0,h1|h2]:=xB d p2 e0 e1;let%[x|1]:=List.length_eq_one_iff.mp c;let%[j|m]:=ok x (List.mem_singleton.mpr rfl);rw[qL #[0],qL #[0],nh j m]at h;unfold nI;rw[Pe c,qL #[0],qL #[0],nh j m,nh h0 h1]
   constructor
   . intro z;rw[z]at h2;exact absurd h2 h
   . intro z;exact absurd c z.1
 . rw [BV d g #[0]]at h;let n:¬ p ∣ e-(L.getD 0 0+L.getD 1 0):=λz=>h (by
    have:=Int.emod_eq_emod_iff_emod_sub_eq_zero.mpr (QJ z)
    rw[←this,nh e0 e1])
   let t:nI p e L=bmp p L 1 (e-(L.getD 0 0+L.getD 1 0)):=by
    unfold nI bmp;rw[Pd c]
    congr 2
    omega
   rw[t];let o:=Bg (p:=p) #[0] L 1
   constructor
   . intro z;erw[c,6,λr1=>?_]
     . rcases P4 r (L.length:Int)with q | q
       . exact q
       . exact absurd z (HK d g #[0] n rp q)
     . subst r1;let b:val p (bmp p L 1 (e-(L.getD 0 0+L.getD 1 0))) 1=(val p L 1+(e-(L.getD 0 0+L.getD 1 0))) % p:=HJ (a:=1) d g #[0];exact Ly n o.1 o.2 (b.symm.trans z)
   . rintro⟨_,q,v⟩;exact HH d g r0 q #[0]
end
section
variable {ns:List Str}{ts:List Tr}{p:Int}{t:Tk}{rows:List Hr}{cl:List Int}
structure Lia(ns:List Str)(ts:List Tr)(p:Int)(rows:List Hr)(cl:List Int):Prop where
 cl:(Tk.new ts).said ns ts p rows=cl.map (· % p)
 l0:((Tk.new ts).run ns ts p rows).bx "lied"=1
 ro:∀t,TkOk ns ts p t->t.z.aw.1="hear" -> t.bx "lied"=1->t.said ns ts p rows=nI p t.z.ed (eJ ns ts t.z.s p t.z.to (awN t.z).toNat)/\(t.run ns ts p rows).bx "lied"=1
def Bt(p0:0<p)(s:Int)(cs:List Int)(n:Nat):cv (eJ ns ts s p cs n) p:=λx b=>by
 unfold eJ at b;let%[j,_|1]:=List.mem_map.mp b;erw[lz _ #[0],mu _ p0]
def HN(h:TkOk ns ts p t):(t.ask ns ts p rows).z=dY p (t.said ns ts p rows) { t.z with pl:=t.z.pl+((t.said ns ts p rows).length:Int) }:=Pd h.cl
def Tru.ask2(k:GmK ns ts p)(n6:ns.length<=6)(nd:ns.Nodup)(g:t.said ns ts p rows=eJ ns ts t.z.s p t.z.to (awN t.z).toNat)(h:TkOk ns ts p t)(d:Tru ns ts p t)(hw:t.z.aw.1="hear"):Tru ns ts p (t.ask ns ts p rows):=by
 let%[_,_,_,tl,aw|j]:=h.ak k n6 hw;let m:=h.gd.hear_ne k (h.hear (rows:=rows) k n6 hw);let e:=HN (rows:=rows) h;let b:t.said ns ts p rows=eJ ns ts t.z.s p t.z.to (bj ts (ns.getD t.z.to.length "")+1).toNat:=by rw[g,j]
 let c:(t.ask ns ts p rows).z.aw=(("coin":Str),none):=by
  rw[e];unfold dY;rw[Pe];show(val p (t.said ns ts p rows) 0+val p (t.said ns ts p rows) 1) % p=t.z.ed;rw[b,im k nd tl,im k nd tl,mO tl,d.he hw]
 erw[λz=>?_,λ_ _=>?_,λ_ z=>?_,λ_ z=>?_]
 . rw[c]at z;exact absurd z jf
 . rw[e];exact b
 . rw[e]at z;exact absurd z m
 . rw[c]at z;exact absurd rfl z
def BG(k:GmK ns ts p)(n6:ns.length<=6)(h:TkOk ns ts p t)(ch:t.z.aw.1="hear"):Pm p/\2<p/\1<=(eJ ns ts t.z.s p t.z.to (awN t.z).toNat).length/\((eJ ns ts t.z.s p t.z.to (awN t.z).toNat).length:Int)=bj ts (ns.getD t.z.to.length "")+1/\((eJ ns ts t.z.s p t.z.to (awN t.z).toNat).length:Int)<=p/\0<=t.z.ed/\t.z.ed<p:=by
 let%[_,c,_,tl,_|d]:=h.ak k n6 ch;let b:ns.getD t.z.to.length ""∈ns:=by
  rw[m9,fz tl];exact o4 tl
 let%[e|d1]:=k.deg _ b;rw[lV];erw[jv k.pr (by have:=k.p9;omega),k.p2,3,3,3,h.gd.e0,h.gd.e1]
def pK(k:GmK ns ts p)(n6:ns.length<=6)(nd:ns.Nodup)(e:Lia ns ts p rows cl):∀(n:Nat) (t:Tk) (cs:List Int),TkOk ns ts p t->Tru ns ts p t->t.bx "lied"=1->cv cs p->bQ ns t.z<=n->(cK ns ts p rows cs n t).2.z.aw=(("believed":Str),none)
 |0,t,cs,h,d,hb,hc,j=>d.en (λz=>by have:=(eT h (.inl z)).1;omega) (λz=>by have:=(eT h (.inr z)).1;omega)
 |n+1,t,cs,h,d,hb,hc,j=>by
   let p2:=k.p2
   by_cases ch:t.z.aw.1="hear"
   . rw[fe ch];let%[o,s|_]:=h.ask (rows:=rows) k n6 ch;let%[m,_,q,le,r,e0|e1]:=BG k n6 h ch;let%[b|g]:=e.ro t h ch hb;let%[_,_,_,tl,aw|u]:=h.ak k n6 ch;rw[Gs m p2 (Bt #[0] _ _ _) q r (by rw[u,im k nd tl,im k nd tl,mO tl,d.he ch])]at b;exact pK k n6 nd e n _ cs o (d.ask2 k n6 nd b h ch) g hc #[0]
   . by_cases c:t.z.aw.1="coin"
     . rw[dN c];let%[r0|r1]:=jU hc #[0];let%[o,s|_]:=h.toss k c r0 r1;exact pK k n6 nd e n _ cs.tail o (d.toss k nd h c _) hb (oR hc) #[0]
     . rw[eA ch c];exact d.en ch c
def lieB:List Int->List Int->Bool
 |d::b,r::cs=>decide (d≠0/\r<=d/\r≠1)||lieB b cs
 |_,_=>false
def Gx(b:List Int):lieB b []=false:=by cases b <;> rfl
def Dw(k:GmK ns ts p)(n6:ns.length<=6)(j:Lia ns ts p rows cl){r:Int}{cs:List Int}{f:Nat}(h:TkOk ns ts p t)(hb:t.bx "lied"=1)(ch:t.z.aw.1="hear")(r0:0<=r)(r1:r<p):
 (∃b z2,(cK ns ts p rows (r::cs) (f+2) t)=(.say (t.said ns ts p rows)::.coin r::(cK ns ts p rows cs f b).1,(cK ns ts p rows cs f b).2)/\TkOk ns ts p b/\b.bx "lied"=1/\b.z=goOn ns ts p z2/\z2.s=t.z.s/\z2.to=t.z.to++[r]/\z2.ed=val p (t.said ns ts p rows) r):=by
 let%[m,p2,n,le,q,e0|e1]:=BG k n6 h ch;let%[d|e]:=j.ro t h ch hb;let%[o,s|_]:=h.ask (rows:=rows) k n6 ch;let u:=h.gd.hear_ne k (h.hear (rows:=rows) k n6 ch);let c:=HN (rows:=rows) h;let v:(t.ask ns ts p rows).z.aw=(("coin":Str),none):=by
  rw[c];unfold dY;rw[Pe];show(val p (t.said ns ts p rows) 0+val p (t.said ns ts p rows) 1) % p=t.z.ed;rw[d];exact Gv m p2 e0 e1 n q
 let g:(t.ask ns ts p rows).z.aw.1="coin":=by rw[v]
 let he:(t.ask ns ts p rows).z.he≠[]:=by rw[c];exact u
 let%[x|_]:=o.toss k g r0 r1;erw[(t.ask ns ts p rows).toss ns ts p r,{ (t.ask ns ts p rows).z with pl:=(t.ask ns ts p rows).z.pl+1,ed:=val p (t.ask ns ts p rows).z.he r,to:=(t.ask ns ts p rows).z.to++[r] },6,x,e,Pd he,6,6,6]
 . rw[fe ch,dN g];rfl
 . rw[c];rfl
 . rw[c];rfl
 . rw[c];rfl
def DN(b:t.z=goOn ns ts p z)(c:z.to.length<ns.length):t.z.aw.1="hear"/\t.z.to=z.to/\t.z.ed=z.ed/\t.z.s=z.s:=by
 let e:t.z={ z with aw:=("hear",some (bj ts (ns.getD z.to.length "")+1)) }:=b.trans (Pe c);rw[e];erw[1,1,1,1]
def BF(k:GmK ns ts p)(n6:ns.length<=6)(nd:ns.Nodup)(B:Lia ns ts p rows cl):∀(cs:List Int) (f:Nat) (t:Tk) (z:Db),TkOk ns ts p t->t.bx "lied"=1->t.z=goOn ns ts p z->z.ed≠di ns ts z.s p z.to->z.to.length+cs.length=ns.length->cv cs p->2*cs.length<=f->decide ((cK ns ts p rows cs f t).2.z.aw.1="believed")=lieB ((ns.drop z.to.length).map (bj ts)) cs
 | [],f,t,z,h,hb,C,e,hl,hc,hf=>by
   rw [ni]at hl;let n:t.z.aw=(("caught":Str),some ((z.to.length:Int)+1)):=by
    rw[C];unfold goOn;rw[Pd #[0]];unfold fq;rw[Pd];rw[←Bs #[0]];exact e
   rw[eA (by rw[n];exact yz) (by rw[n];exact JS),Gx,n];exact fw yy
 |r::cs,f,t,z,h,hb,C,e,hl,hc,hf=>by
   rw[f5]at hl hf;obtain⟨f,rfl⟩:∃m,f=m+2:=%[f-2|3]
   let c:z.to.length<ns.length:=#[0]
   let%[ch,d,ee|o]:=DN C c;let%[r0|r1]:=hc r kb;let u:cv cs p:=λx hx=>hc x (mj _ hx)
   let%[hp,p2,l1,le,lp,e0|e1]:=BG k n6 h ch;let%[D|_]:=B.ro t h ch hb;let%[_,_,_,tl,_|n]:=h.ak k n6 ch;let%[v,z2,e2,O,y,g,U,b|J]:=Dw (cs:=cs) (f:=f) k n6 B h hb ch r0 r1;let L:∀x,val p (eJ ns ts t.z.s p t.z.to (awN t.z).toNat) x=di ns ts t.z.s p (t.z.to++[x]):=λx=>by rw[n];exact im k nd tl x
   let M:¬ (val p (eJ ns ts t.z.s p t.z.to (awN t.z).toNat) 0+val p (eJ ns ts t.z.s p t.z.to (awN t.z).toNat) 1) % p=t.z.ed:=by
    rw[L,L,mO tl,ee,d,o];exact Ne.symm e
   let ro:=Dv hp p2 (Bt #[0] _ _ _) e0 e1 l1 lp M r0 r1;rw[←D,L,←J,le,d,o]at ro;rw[d,o]at le;let N:z2.to.length<=ns.length:=by rw[b,d,fm,nm];omega
   let dr:(ns.drop z.to.length).map (bj ts)=bj ts (ns.getD z.to.length "")::(ns.drop (z.to.length+1)).map (bj ts):=by
    rw[Rr c,lw,m9,fz c];rfl
   let l2:z2.to.length=z.to.length+1:=by rw[b,d,fm,nm]
   rw[e2,dr];show decide ((cK ns ts p rows cs f v).2.z.aw.1="believed")=(decide _||lieB _ cs)
   by_cases j:z2.ed=di ns ts t.z.s p (t.z.to++[r])
   . let d2:Tru ns ts p v:=by
      let%[f1|Y]:=pQ (ns:=ns) (ts:=ts) (p:=p) z2 N (by rw[j,U,b]);let no:=jA (ns:=ns) (ts:=ts) (p:=p) z2;rw[←g]at f1 Y no;erw[f1,λz=>absurd z no,λz=>absurd z no,λz _=>Y z]
     let st:bQ ns v.z<=f:=by
      have:=(jV (ns:=ns) (ts:=ts) (p:=p) z2).1
      rw[←g]at this;omega
     rw[pK k n6 nd B f v cs O d2 y u st];rw[d,o]at j;let%[q1,q2|q3]:=ro.mp j;rw[ft rfl,ft (%[3,3|q3]:bj ts (ns.getD z.to.length "")≠0/\r<=bj ts (ns.getD z.to.length "")/\r≠1)];rfl
   . rw[BF k n6 nd B cs f v z2 O y g (by rw[U,b];exact j) #[0] u #[0],l2];rw[d,o]at j;rw[fw (λq:bj ts (ns.getD z.to.length "")≠0/\r<=bj ts (ns.getD z.to.length "")/\r≠1=>j (ro.mpr %[3,3|q.2.2]))];rfl
def lieT(ns:List Str)(ts:List Tr)(p s:Int):Int->List Int->List Int->List TR
 |_,_,[]=>[]
 |e,pre,r::cs=>.say (nI p e (eJ ns ts s p pre (bj ts (ns.getD pre.length "")+1).toNat))::.coin r::lieT ns ts p s (val p (nI p e (eJ ns ts s p pre (bj ts (ns.getD pre.length "")+1).toNat)) r) (pre++[r]) cs
def sOf(ts:List Tr)(c:List Int):Int:=if ts.length=1 then 0 else c.headD 0
def lU(ts:List Tr)(c:List Int):List Int:=if ts.length=1 then c else c.tail
def Dx(k:GmK ns ts p)(n6:ns.length<=6)(d:Lia ns ts p rows cl)(hc:cv c p)(hl:c.length=bm ns ts):
 ∃t z f,TkOk ns ts p t/\t.bx "lied"=1/\t.z=goOn ns ts p z/\z.to=[]/\z.s=sOf ts c/\z.ed=hor (sOf ts c) p cl/\(lU ts c).length=ns.length/\cv (lU ts c) p/\2*ns.length<=f/\(eP ns ts p rows c).2=(cK ns ts p rows (lU ts c) f t).2/\(eP ns ts p rows c).1=.claims (cl.map (· % p))::((if ts.length=1 then []else [.coin (sOf ts c)])++(cK ns ts p rows (lU ts c) f t).1):=by
 let p2:=k.p2;let%[o,_,_|_]:=kX (rows:=rows) k n6;let e0:du ns ts p ‹Tk.s› (Db.new ts)=jz ns ts p ‹Tk.s› { Db.new ts with pl:=(Db.new ts).pl+(‹Tk.s›.length:Int) }:=Pe rfl;unfold bm at hl
 by_cases b:ts.length=1
 . rw [Pe b]at hl;let g:sOf ts c=0:=Pe b;let j:lU ts c=c:=Pe b;rw[g,j];erw[‹Tk.a›,{ Db.new ts with pl:=(Db.new ts).pl+(‹Tk.s›.length:Int),cl:=‹Tk.s›,s:=0,ed:=hor 0 p ‹Tk.s› },(20),o,d.l0,e0.trans (Pe b),1,1,6,hl,hc,3,1,6]
   . show hor 0 p ‹Tk.s›=_;rw[d.cl,rS]
   . rw[Pe b];unfold eP;rw[d.cl];rfl
 . rw [Pd b]at hl;let g:sOf ts c=c.headD 0:=Pd b;let j:lU ts c=c.tail:=Pd b;let e:‹Tk.a›.z={ Db.new ts with pl:=(Db.new ts).pl+(‹Tk.s›.length:Int),cl:=‹Tk.s›,aw:=("coin",none) }:=e0.trans (Pd b);let m:‹Tk.a›.z.aw.1="coin":=by rw[e]
   let he:‹Tk.a›.z.he=[]:=by rw[e];rfl
   let%[r0|r1]:=jU hc #[0];let%[n|_]:=o.toss k m r0 r1;rw[g,j];erw[‹Tk.a›.toss ns ts p (c.headD 0),{ ‹Tk.a›.z with pl:=‹Tk.a›.z.pl+1,s:=c.headD 0,ed:=hor (c.headD 0) p ‹Tk.a›.z.cl },(19),n,d.l0,Pe he,6,1,6,by rw[List.length_tail];omega,oR hc,3,6,6]
   . rw[e];rfl
   . show hor (c.headD 0) p ‹Tk.a›.z.cl=_;rw[e];show hor (c.headD 0) p ‹Tk.s›=_;rw[d.cl,rS]
   . show(cK ns ts p rows c (19+1) ‹Tk.a›).2=_;rw[dN m]
   . rw[Pd b];show TR.claims ‹Tk.s›::(cK ns ts p rows c (19+1) ‹Tk.a›).1=_;rw[dN m,d.cl];rfl
def uc(ns:List Str)(ts:List Tr)(p:Int)(cl c:List Int):Bool:=decide (evl (sOf ts c) (ovr cl (ts.map λt=>(cnt t ns:Int))) % p=0)||lieB (ns.map (bj ts)) (lU ts c)
def uj(s p:Int):∀c:List Int,hor s p c=evl s c % p
 | []=>rfl
 |a::r=>by
   show(hor s p r*s+a) % p=(a+s*evl s r) % p;rw[uj s p r,←Qs,wb,Pz,←wb,Qs,ti,Rn]
def BP(s:Int):∀(xs cs:List Int),xs.length=cs.length->evl s (ovr xs cs)=evl s xs-evl s cs
 | [],[],_=>rfl
 |x::xs,c::cs,h=>by
   let b:=BP s xs cs (Nat.succ.inj h);show(x-c)+s*evl s (ovr xs cs)=(x+s*evl s xs)-(c+s*evl s cs)
   rw[b,P6];omega
def Jg(k:GmK ns ts p)(n6:ns.length<=6)(nd:ns.Nodup)(e:Lia ns ts p rows cl)(ll:cl.length=ts.length)(hc:cv c p)(hl:c.length=bm ns ts):decide ((eP ns ts p rows c).2.z.aw.1="believed")=uc ns ts p cl c:=by
 let p2:=k.p2;let%[t,z,f,o,hb,g,b,j,m,y,n,hf,e2|_]:=Dx k n6 e hc hl;let r:hor (sOf ts c) p cl=di ns ts (sOf ts c) p []↔evl (sOf ts c) (ovr cl (ts.map λt=>(cnt t ns:Int))) % p=0:=by
  rw[←tZ #[0] (λu x=>(k.tok u x).1),uj,uj,BP _ _ _ (by rw[ll,d8])];exact Ro
 rw[e2];unfold uc
 by_cases d:evl (sOf ts c) (ovr cl (ts.map λt=>(cnt t ns:Int))) % p=0
 . let d2:Tru ns ts p t:=by
    let%[f1|v]:=pQ (ns:=ns) (ts:=ts) (p:=p) z (by rw[b];exact i1 _) (by rw[m,j,b];exact r.mpr d);let no:=jA (ns:=ns) (ts:=ts) (p:=p) z;rw[←g]at f1 v no;erw[f1,λz=>absurd z no,λz=>absurd z no,λz _=>v z]
   let st:bQ ns t.z<=f:=by
    have:=(jV (ns:=ns) (ts:=ts) (p:=p) z).1
    rw[←g]at this;omega
   rw[pK k n6 nd e f t (lU ts c) o d2 hb n st,ft rfl,ft d];rfl
 . rw[BF k n6 nd e (lU ts c) f t z o hb g (by rw[m,j,b];exact λq=>d (r.mp q)) (by rw[b,ni];omega) n #[0],fw d,b];rfl
end
section
def Ip{P:Nat}(q:Nat->Bool)(v:Nat):(((List.range P).map λr=>if q r=true then v else 0).sum:Nat)=v*((List.range P).filter q).length:=by
 induction P with
 |zero=>rfl
 |succ P b=>
   rw[ss,fj,Qu,PK,fm,b,Nat.mul_add]
   congr 1
   by_cases c:q P=true
   . simp [c]
   . simp [c]
def Io{P:Nat}(q:Nat->Bool)(a b:Nat):(((List.range P).map λr=>if q r=true then a else b).sum:Nat)+b*((List.range P).filter q).length=a*((List.range P).filter q).length+b*P:=by
 induction P with
 |zero=>rfl
 |succ P d=>
   rw[ss,fj,Qu,PK,fm,Nat.mul_add,Nat.mul_add,Nat.mul_add]
   by_cases c:q P=true
   . simp [c]
     omega
   . simp [c]
     omega
def pS{α:Type}(f:α->Bool):∀L:List α,(L.filter f).length+(L.filter λc=>!f c).length=L.length
 | []=>rfl
 |a::r=>by
   let b:=pS f r;cases e:f a <;> simp [e] <;> omega
def HD{d:Nat}:∀P:Nat,((List.range P).filter λx:Nat=>decide ((d:Int)≠0/\(x:Int)<=(d:Int)/\(x:Int)≠1)).length=if d=0 then 0 else min P (d+1)-(if 1<min P (d+1)then 1 else 0)
 |0=>by simp
 |P+1=>by
   rw[ss,PK,fm,HD P]
   by_cases c:(d:Int)≠0/\(P:Int)<=(d:Int)/\(P:Int)≠1
   . let hd:¬ d=0:=#[0]
     rw[List.filter_cons_of_pos #[c,0],Pd hd,Pd hd];show _+1=_
     split <;> split <;> omega
   . rw [List.filter_cons_of_neg #[c,0]];show _+0=_
     by_cases b:d=0
     . rw[Pe b,Pe b]
     . rw [Pd b,Pd b]
       split <;> split <;> omega
def Lq{d:Int}{P:Nat}(c:0<=d)(dp:d<P):((List.range P).filter λx:Nat=>!decide (d≠0/\(x:Int)<=d/\(x:Int)≠1)).length=P-d.toNat:=by
 let%[n|1]:=PJ c;let h:=pS (λx:Nat=>decide ((n:Int)≠0/\(x:Int)<=(n:Int)/\(x:Int)≠1)) (List.range P);rw[HD,o0]at h
 by_cases b:n=0
 . rw[Pe b]at h;omega
 . rw [Pd b]at h
   split at h <;> omega
def cgr(p:Int):List Int->Int
 | []=>1
 |d::b=>(p-d)*cgr p b
def zj(p:Int):∀(b:List Int)(a:Int),b.foldl (λa d=>a*(p-d)) a=a*cgr p b
 | [],a=>(PC a).symm
 |d::b,a=>by
   show b.foldl _ (a*(p-d))=a*((p-d)*cgr p b)
   rw[zj p b,Qz]
def Jw(p:Int)(b:List Int):cgt p b=cgr p b:=by
 unfold cgt;rw[zj,Int.one_mul]
def Cf{P:Nat}:∀(b:List Int),(∀d∈b,0<=d/\d<(P:Int))->(((cO P b.length).filter λc=>!lieB b c).length:Int)=cgr P b
 | [],_=>rfl
 |d::b,h=>by
   let g:=Cf b λx j=>h x (mj _ j)
   let%[m|dp]:=h d kb;show(((List.filter (λc=>!lieB (d::b) c) ((List.range P).flatMap λr:Nat=>(cO P b.length).map ((r:Int)::·))).length:Nat):Int)=(P-d)*cgr P b;rw[List.filter_flatMap,RJ];let e:((List.range P).map λa:Nat=>(((cO P b.length).map ((a:Int)::·)).filter λc=>!lieB (d::b) c).length)=(List.range P).map λr:Nat=>if(!decide (d≠0/\(r:Int)<=d/\(r:Int)≠1))=true then((cO P b.length).filter λc=>!lieB b c).length else 0:=P9 λr _=>by
    rw[Q8,d8]
    by_cases c:d≠0/\(r:Int)<=d/\(r:Int)≠1
    . rw [Pd (by rw[ft c];decide),List.length_eq_zero_iff];apply List.filter_eq_nil_iff.mpr λx _=>?_
      show ¬ (!(decide (d≠0/\(r:Int)<=d/\(r:Int)≠1)||lieB b x))=true;rw[ft c]
      simp
    . rw [Pe (by rw[fw c];rfl)]
      congr 1
      apply Qe λx _=>?_
      show(!(decide (d≠0/\(r:Int)<=d/\(r:Int)≠1)||lieB b x))=_;rw[fw c];rfl
   rw[e,Ip (λr:Nat=>!decide (d≠0/\(r:Int)<=d/\(r:Int)≠1)),Lq m dp,Int.natCast_mul,g,ti]
   congr 1
   omega
variable {ns:List Str}{ts:List Tr}{p:Int}{rows:List Hr}{cl:List Int}
def HC(k:GmK ns ts p):(((cO p.toNat ns.length).filter λc=>lieB (ns.map (bj ts)) c).length:Int)=p ^ ns.length-cgt p (ns.map (bj ts)):=by
 let p2:=k.p2;let b:(p.toNat:Int)=p:=#[0]
 let h:=Cf (P:=p.toNat) (ns.map (bj ts)) (λd hd=>by
  let%[x,e|1]:=List.mem_map.mp hd;rw[b];exact k.deg x e)
 rw[d8,b,←Jw]at h;let g:=pS (λc=>lieB (ns.map (bj ts)) c) (cO p.toNat ns.length);rw[jj]at g;let j:((p.toNat ^ ns.length:Nat):Int)=p ^ ns.length:=by rw[Qv,b]
 omega
def Jf(k:GmK ns ts p)(ll:cl.length=ts.length):(((cO p.toNat (bm ns ts)).filter (uc ns ts p cl)).length:Int)=Js p ns.length ts.length (cgt p (ns.map (bj ts))) (ovr cl (ts.map λt=>(cnt t ns:Int))):=by
 let p2:=k.p2;let o:(p.toNat:Int)=p:=#[0]
 let hB:=HC k;let q:((p.toNat ^ ns.length:Nat):Int)=p ^ ns.length:=by rw[Qv,o]
 let u:(ovr cl (ts.map λt=>(cnt t ns:Int))).length=ts.length:=by rw[ii (by rw[ll,d8]),ll]
 unfold Js bm;generalize m:ovr cl (ts.map λt=>(cnt t ns:Int))=j at u
 by_cases d:ts.length=1
 . rw [Pe d,Pe d];let%[a|1]:=List.length_eq_one_iff.mp (u.trans d);let n:∀c∈cO p.toNat ns.length,uc ns ts p cl c=(decide (a % p=0)||lieB (ns.map (bj ts)) c):=λc _=>by
    unfold uc sOf lU;rw[m,Pe d,Pe d,jY,Int.zero_mul,QC]
   rw[Qe n];show _=if a % p=0 then _ else _
   by_cases c:a % p=0
   . rw[Pe c,List.filter_eq_self.mpr (λx _=>by rw[ft c];rfl),jj,q]
   . rw [Pd c,←hB]
     congr 2
     apply Qe λx _=>?_
     rw[fw c];rfl
 . rw [Pd d,Pd d];show(((List.filter (uc ns ts p cl) ((List.range p.toNat).flatMap λr:Nat=>(cO p.toNat ns.length).map ((r:Int)::·))).length:Nat):Int)=_;rw[List.filter_flatMap,RJ];let e:((List.range p.toNat).map λa:Nat=>(((cO p.toNat ns.length).map ((a:Int)::·)).filter (uc ns ts p cl)).length)=(List.range p.toNat).map λr:Nat=>if decide (evl (r:Int) j % p=0)=true then p.toNat ^ ns.length else((cO p.toNat ns.length).filter λc=>lieB (ns.map (bj ts)) c).length:=P9 λr _=>by
    rw [Q8,d8];let n:∀c,(uc ns ts p cl ∘ λx=>(r:Int)::x) c=(decide (evl (r:Int) j % p=0)||lieB (ns.map (bj ts)) c):=λc=>by
     show uc ns ts p cl ((r:Int)::c)=_;unfold uc sOf lU;rw[m,Pd d,Pd d];rfl
    by_cases c:evl (r:Int) j % p=0
    . rw [Pe (ft c),←jj (p:=p.toNat) ns.length]
      congr 1
      exact List.filter_eq_self.mpr (λx _=>by rw[n,ft c];rfl)
    . rw [Pd (by rw[fw c];decide)]
      congr 1
      apply Qe λx _=>?_
      rw[n,fw c];rfl
   rw [e];let h:=Io (P:=p.toNat) (λr:Nat=>decide (evl (r:Int) j % p=0)) (p.toNat ^ ns.length) (((cO p.toNat ns.length).filter λc=>lieB (ns.map (bj ts)) c).length);let v:(gC p j).length=((List.range p.toNat).filter λr:Nat=>decide (evl (r:Int) j % p=0)).length:=by
    unfold gC fnd;rw[d8]
   rw[v];generalize ((List.range p.toNat).filter λr:Nat=>decide (evl (r:Int) j % p=0)).length=b at h ⊢;generalize (((List.range p.toNat).map λr:Nat=>if decide (evl (r:Int) j % p=0)=true then p.toNat ^ ns.length else((cO p.toNat ns.length).filter λc=>lieB (ns.map (bj ts)) c).length).sum:Nat)=S at h ⊢;let h':=congrArg (Nat.cast (R:=Int)) h;simp only[Qi,Int.natCast_mul]at h';rw[q,hB,o]at h';generalize p ^ ns.length=A at h' ⊢;generalize cgt p (ns.map (bj ts))=g at h' ⊢
   have:(b:Int)*A+(p-b)*(A-g)=A*b+(A-g)*p-(A-g)*b:=by grind
   omega
end
section
variable {ns:List Str}{ts:List Tr}{p:Int}{t:Tk}{cl:List Int}{z:Ak}{bx:Str->Int}{sd:List Int}
def liars:List Hr:=[.iff (.op "=" (.box "lied") (.num 0)) 9,.iff (.op "=" (.plain "asked") (.num 1)) 8,.say (.ask "true" (.num 0)),.say (.op "-" (.plain "due") (.ask "true" (.num 0))),.set "i" (.num 2),.say (.ask "true" (.box "i")),.set "i" (.op "+" (.box "i") (.num 1)),.go 5,.say (.op "/" (.plain "due") (.num 2)),.set "lied" (.num 1)]
def bz(cl:List Int):List Hr:=liars++cl.map λc=>.say (.num c)
def ng(cl:List Int):((bz cl).length:Int)=10+(cl.length:Int):=by
 unfold bz;rw[fm,d8];show((10+cl.length:Nat):Int)=_;omega
def ls0:cV z (bz cl) %[(0),bx|sd]=⟨if opV z.p "=" (bx "lied") (0 % z.p)=0 then 1 else 9,bx,sd⟩:=rfl
def ls1:cV z (bz cl) %[(1),bx|sd]=⟨if opV z.p "=" (z.mn % z.p) (1 % z.p)=0 then 2 else 8,bx,sd⟩:=rfl
def ls2:cV z (bz cl) %[(2),bx|sd]=⟨3,bx,sd++[if("true":Str)="coin" then jB z (0 % z.p)else eK z (0 % z.p)]⟩:=rfl
def ls3:cV z (bz cl) %[(3),bx|sd]=⟨4,bx,sd++[opV z.p "-" z.hd (if("true":Str)="coin" then jB z (0 % z.p)else eK z (0 % z.p))]⟩:=rfl
def ls4:cV z (bz cl) %[(4),bx|sd]=⟨5,eR bx "i" (2 % z.p),sd⟩:=rfl
def ls5:cV z (bz cl) %[(5),bx|sd]=⟨6,bx,sd++[if("true":Str)="coin" then jB z (bx "i")else eK z (bx "i")]⟩:=rfl
def ls6:cV z (bz cl) %[(6),bx|sd]=⟨7,eR bx "i" (opV z.p "+" (bx "i") (1 % z.p)),sd⟩:=rfl
def ls7:cV z (bz cl) %[(7),bx|sd]=⟨5,bx,sd⟩:=rfl
def ls8:cV z (bz cl) %[(8),bx|sd]=⟨9,bx,sd++[opV z.p "/" z.hd (2 % z.p)]⟩:=rfl
def ls9:cV z (bz cl) %[(9),bx|sd]=⟨10,eR bx "lied" (1 % z.p),sd⟩:=rfl
def lsC{j:Nat}{c:Int}(h:cl[j]?=some c):cV z (bz cl) %[10+(j:Int),bx|sd]=⟨10+((j+1:Nat):Int),bx,sd++[c % z.p]⟩:=by
 let e:(bz cl)[(10+(j:Int)).toNat]?=some (.say (.num c)):=by
  rw[show(10+(j:Int)).toNat=liars.length+j by show _=10+j;omega];unfold bz;rw[yl #[0],Nat.add_sub_cancel_left,hI,h];rfl
 unfold cV;show(match(bz cl)[(10+(j:Int)).toNat]? with | some r=>EC z (bz cl).length %[10+(j:Int),bx|sd] r | none=>%[10+(j:Int),bx|sd])=_;rw[e];show(⟨10+(j:Int)+1,bx,sd++[c % z.p]⟩:MS)=_
 congr 1
def vi{mn:Int}(h:(sd.length:Int)=mn):qx mn sd=sd:=by
 unfold qx;rw[h,Rk];exact q9 _
def EZ:∀(m j b:Nat),j+m=cl.length->z.mn=(cl.length:Int)->m<=b->jQ z (bz cl) b %[10+(j:Int),bx|(cl.take j).map (· % z.p)]=⟨10+(cl.length:Int),bx,cl.map (· % z.p)⟩
 |0,j,b,o,g,hf=>by
   let q:j=cl.length:=#[0]
   subst q;rw[i0,kO (λc=>absurd c.2 (by show ¬ (((cl.map (· % z.p)).length:Nat):Int)<z.mn;rw[d8,g];omega))]
 |m+1,j,b,o,g,hf=>by
   obtain⟨n,rfl⟩:∃n,b=n+1:=%[b-1|3]
   let d:j<cl.length:=#[0]
   let lt:((cl.take j).map (· % z.p)).length=j:=by rw[d8,kr];omega
   rw [fQ (by show 10+(j:Int)<((bz cl).length:Int);rw[ng];omega) (by show(((cl.take j).map (· % z.p)).length:Int)<z.mn;rw[lt,g];omega),lsC (fz d)];let e:(cl.take j).map (· % z.p)++[cl[j] % z.p]=(cl.take (j+1)).map (· % z.p):=by
    rw[ih,fz d,fj];rfl
   rw[e];exact EZ m (j+1) n #[0] g #[0]
def liL(z:Ak)(j:Nat):List Int:=(dH z j).set 1 ((z.hd-eK z 0) % z.p)
def nj(z:Ak)(j:Nat):(liL z j).length=j:=by unfold liL;rw[L5,gX]
def Gz(z:Ak){j:Nat}(h:2<=j):liL z (j+1)=liL z j++[eK z ((j:Int) % z.p)]:=by
 unfold liL;rw[ku,List.set_append_left 1 _ (by rw[gX];omega)]
def JT:¬ (("lied":Str)="i"):=by decide
def Ku(p0:0<z.p)(m:Nat):∀(j b:Nat) (bx:Str->Int),2<=j->z.mn=((j+m:Nat):Int)->3*m<=b->bx "i"=(j:Int) % z.p->(jQ z (bz cl) b %[(5),bx|liL z j]).sd=liL z (j+m)/\(jQ z (bz cl) b ⟨5,bx,liL z j⟩).bx "lied"=bx "lied":=by
 induction m with
 |zero=>
   intro j b bx n d hf hb;rw[kO (λc=>absurd c.2 (by show ¬ ((liL z j).length:Int)<z.mn;rw[nj,d];omega))];erw[1,1]
 |succ m o=>
   intro j b bx n d hf hb;obtain⟨e,rfl⟩:∃e,b=e+3:=%[b-3|3]
   let le:∀x:Int,x<10->x<((bz cl).length:Int):=λx r=>by rw[ng];omega
   let e1:cV z (bz cl) %[(5),bx|liL z j]=⟨6,bx,liL z (j+1)⟩:=by
    rw[ls5,Pd BD,hb,Gz z n]
   rw[fQ (le 5 ⋯) (by show((liL z j).length:Int)<z.mn;rw[nj,d];omega),e1];cases m with
   |zero=>
     rw[kO (λc=>absurd c.2 (by show ¬ ((liL z (j+1)).length:Int)<z.mn;rw[nj,d];omega))];erw[1,1]
   |succ m=>
     let hl:((liL z (j+1)).length:Int)<z.mn:=by rw[nj,d];omega
     rw [fQ (le 6 ⋯) hl,ls6,fQ (le 7 ⋯) hl,ls7];let g:eR bx "i" (opV z.p "+" (bx "i") (1 % z.p)) "i"=((j+1:Nat):Int) % z.p:=by
      unfold eR;rw[Pe rfl];show(bx "i" + 1 % z.p) % z.p=_;rw[hb,Qs,RY];rfl
     let%[r1|q]:=o (j+1) e _ #[0] (by rw[d];omega) #[0] g;erw[r1.trans (by congr 1;omega),q.trans ?_];unfold eR;rw[Pd JT]
def wL(q x y:Int):opV q "=" x y=if x=y then 1 else 0:=rfl
def Kt(p2:2<z.p){n:Nat}(b:z.mn=(n:Int))(n1:1<=n)(d:n<=61)(m:(n:Int)<=z.p)(hb:bx "lied"=1):(jQ z (bz cl) 200 %[(0),bx|[]]).sd=(if n=1 then [pT z.p z.hd 2]else liL z n)/\(jQ z (bz cl) 200 ⟨0,bx,[]⟩).bx "lied"=1:=by
 let le:∀x:Int,x<10->x<((bz cl).length:Int):=λx o=>by rw[ng];omega
 let s0:cV z (bz cl) %[(0),bx|[]]=⟨1,bx,[]⟩:=by
  rw[ls0,wL,hb,PP,Pd (show ¬ (1:Int)=0 by decide),Pe rfl]
 let e1:(1:Int) % z.p=1:=nh ⋯ #[0];let e2:(2:Int) % z.p=2:=nh ⋯ #[0];let e0:(0:Int) % z.p=0:=PP _;let h0:(([]:List Int).length:Int)<z.mn:=by rw[b];show(0:Int)<n;omega
 rw[fQ (le 0 ⋯) h0,s0,fQ (le 1 ⋯) h0,ls1,wL,e1,b]
 by_cases c:n=1
 . subst c;rw[Pe (show((1:Nat):Int) % z.p=1 from e1),Pd ⋯,Pe rfl,fQ (le 8 ⋯) h0,ls8,e2,kO (λc=>absurd c.2 (by show ¬ ((1:Nat):Int)<z.mn;rw[b];omega))];erw[1,hb]
 . let en:¬ (n:Int) % z.p=1:=by
    rcases P4 (n:Int) z.p with q | q
    . rw[nh #[0] q];omega
    . rw[show(n:Int)=z.p by omega,Int.emod_self];decide
   rw [Pd en,Pe rfl,Pd c,fQ (le 2 ⋯) h0,ls2,Pd BD,e0,fQ (le 3 ⋯) (by rw[b];show((1:Nat):Int)<n;omega),ls3,Pd BD,e0];let e:([]:List Int)++[eK z 0]++[opV z.p "-" z.hd (eK z 0)]=liL z 2:=by
    unfold liL;rw[show(2:Nat)=0+1+1 from rfl,ku,ku];show [eK z 0,(z.hd-eK z 0) % z.p]=[eK z (((0:Nat):Int) % z.p),(z.hd-eK z 0) % z.p]
    rw[show((0:Nat):Int) % z.p=0 from e0]
   rw[e]
   by_cases g:n=2
   . subst g;rw[kO (λc=>absurd c.2 (by show ¬ ((liL z 2).length:Int)<z.mn;rw[nj,b];omega))];erw[1,hb]
   . rw[fQ (le 4 ⋯) (by show((liL z 2).length:Int)<z.mn;rw[nj,b];omega),ls4];let%[r1|j]:=Ku (cl:=cl) (z:=z) #[0] (n-2) 2 195 (eR bx "i" (2 % z.p)) #[0] (by rw[b];omega) #[0] (by unfold eR;rw[Pe rfl];rfl);erw[r1.trans (by congr 1;omega),j.trans ?_];unfold eR;rw[Pd JT];exact hb
def KH(k:GmK ns ts p)(n6:ns.length<=6)(nd:ns.Nodup)(d60:∀y∈ns,bj ts y<=60)(ll:cl.length=ts.length):Lia ns ts p (bz cl) cl:=by
 let p2:=k.p2;let t1:=k.t1;let t10:=k.t10;let hr:(Tk.new ts).run ns ts p (bz cl)=%[10+(cl.length:Int),eR (Tk.new ts).bx "lied" (1 % p)|cl.map (· % p)]:=by
  unfold Tk.run;let le:∀x:Int,x<10->x<((bz cl).length:Int):=λx d=>by rw[ng];omega
  let h0:(([]:List Int).length:Int)<((Tk.new ts).ak ns ts p).mn:=by show(0:Int)<(ts.length:Int);omega
  let s0:cV ((Tk.new ts).ak ns ts p) (bz cl) %[(0),(Tk.new ts).bx|[]]=⟨9,(Tk.new ts).bx,[]⟩:=by
   rw[ls0,wL,PP];rfl
  rw[fQ (le 0 ⋯) h0,s0,fQ (le 9 ⋯) h0,ls9];exact EZ (z:=(Tk.new ts).ak ns ts p) (bx:=eR (Tk.new ts).bx "lied" (1 % p)) cl.length 0 198 #[0] (by show(ts.length:Int)=_;omega) #[0]
 erw[6,6,λt b hw hb=>?_]
 . unfold Tk.said;rw[hr];exact vi (by show(((cl.map (· % p)).length:Nat):Int)=(ts.length:Int);rw[d8,ll])
 . rw[hr];show eR (Tk.new ts).bx "lied" (1 % p) "lied"=1;unfold eR;rw[Pe rfl];exact nh ⋯ #[0]
 . let%[o,_,e,le,g,e0|e1]:=BG k n6 b hw;let%[ok,q,a5,tl,aw|r]:=b.ak k n6 hw;let d:ns.getD t.z.to.length ""∈ns:=by
    rw[m9,fz tl];exact o4 tl
   let d6:=d60 _ d;rw[lV]at e le g;let j:=vb k n6 nd b hw;let%[r1|m]:=Kt (cl:=cl) (z:=t.ak ns ts p) (bx:=t.bx) (n:=(awN t.z).toNat) (by show 2<p;omega) (by show awN t.z=_;omega) e #[0] g hb;erw[6,m];unfold Tk.said;let e3:(t.run ns ts p (bz cl)).sd=nI p t.z.ed (eJ ns ts t.z.s p t.z.to (awN t.z).toNat):=by
    apply Eq.trans r1 ?_;unfold nI;rw[lV]
    by_cases c:(awN t.z).toNat=1
    . rw[Pe c,Pe c];rfl
    . rw [Pd c,Pd c];unfold liL;rw[j]
      congr 3
      let h:=congrArg (λl=>l.getD 0 0) j;rw[←show(dH (t.ak ns ts p) (awN t.z).toNat).getD 0 0=(eJ ns ts t.z.s p t.z.to (awN t.z).toNat).getD 0 0 from h];unfold dH;rw[m9,hI,Qq #[0]];show eK (t.ak ns ts p) 0=eK (t.ak ns ts p) (((0:Nat):Int) % p);rw[show((0:Nat):Int) % p=0 from PP _]
   rw[e3];exact vi (by rw[Gw,lV];omega)
end
def RowsAt.app(h:RowsAt H a r)(k:RowsAt H b s):RowsAt H (a++b) (r++s):=by
 erw[by rw[fm,fm,h.1,k.1],λi v x e1 e2=>?_]
 by_cases c:i<a.length
 . rw[PF c]at e1;rw[PF (by rw[←h.1];exact c)]at e2;exact h.2 i v x e1 e2
 . rw[yl #[0]]at e1;rw[yl (by rw[←h.1];omega),←h.1]at e2;exact k.2 _ v x e1 e2
abbrev LB:Str:="if (= lied 0) 9\nif (= asked 1) 8\nsay (true 0)\nsay (- due (true 0))\nset i 2\nsay (true i)\nset i (+ i 1)\ngo 5\nsay (/ due 2)\nset lied 1"
def AG:pP liars=LB:=by decide
def AH:uF liars:=by
 erw[4,λr hr=>?_];unfold liars at hr;simp only[E2,zi,Fj]at hr;let b:NmK "i":=by unfold NmK;decide
 let nl:NmK "lied":=by unfold NmK;decide
 rcases hr with rfl | rfl | rfl | rfl | rfl | rfl | rfl | rfl | rfl | rfl
 . erw[%[%[4,nl,4|4],4|4],4,4]
 . erw[%[%[4,(by decide:("asked":Str)∈plainW),4|4],4|4],4,4]
 . erw[%[4,4|4],4,4]
 . erw[%[4,(by decide:("due":Str)∈plainW),4,4|4],4,4]
 . erw[b,%[4|4],4,4]
 . erw[%[4|b],4,4]
 . erw[b,%[4,b,4|4],4,4]
 . erw[4,4]
 . erw[%[4,(by decide:("due":Str)∈plainW),4|4],4,4]
 . erw[nl,%[4|4],4,4]
def Gy:∀r∈liars,r.good:=by
 intro r hr;unfold liars at hr;simp only[E2,zi,Fj]at hr;rcases hr with rfl | rfl | rfl | rfl | rfl | rfl | rfl | rfl | rfl | rfl
 . erw[%[4,trivial|trivial],4,4]
 . erw[%[4,(by decide:("asked":Str)∈plainW)|trivial],4,4]
 . erw[%[4|trivial],4]
 . erw[%[4,(by decide:("due":Str)∈plainW),4|trivial],4]
 . erw[trivial,4]
 . erw[%[4|trivial],4]
 . erw[%[4,trivial|trivial],4]
 . exact(by decide:(0:Int)<=5)
 . erw[%[4,(by decide:("due":Str)∈plainW)|trivial],4]
 . erw[trivial,4]
instance spBest:∀(l:Addr)(cl:List Int),vs=[.ref l]->H l=some (.lst (cl.map V.int))->1<=cl.length->cl.length<=10->(∀(a:Addr)(rv:List V)(H':Hp),H' a=some (.tup rv)->RowsAt H' rv (bz cl)->(∀r∈bz cl,r.good)->Same H H'->Q (.ref a) H'):=1
def vW:FnScope ["claims"] ["claims"] (aj lQ):=%[|5]
def wZ(F:#["best_liar",lQ])(B:Bl mg)(X:∃t,mg "LIAR_ROWS"=some (.str LB t))(f6:#[21,"read_helper",WE,spReadH]):#[22,f,fd,["claims"],spBest]:=by
 exists vW
 erw[l,cl,1,hl,c1,ac,q]at h;erw[t,gx]at X;refine⟨_,(af (au (ao op_catT (aq f6 hr ⋯ rfl %[dI (v:=.str LB) rfl gx %[|0]|ae]) (aX bq rfl B.tuple cw (aa (bL (N:=[]) (ix:=[]) (cl:=[]) rfl
  #[5] rfl
  (cI (pv 0)) (λ_ _ _=>cu (aR %[aI,aR %[aI,0|ae]|ae]))) ae))))),?_⟩
 erw[liars,by rw[AG];rfl,AH,λa C H1 ha R1 S1=>?_];let m:=S1 _ _ hl;erw[0,l,1,%[_|eH m],λD hD=>?_];apply cW (K:=K) (xs:=cl.map V.int) (λi y=>∃(us:List V),y D=some (.lst us)/\RowsAt y us ((cl.take i).map λc=>.say (.num c))/\us.length=i/\Same H1 y) %[[],ah,RowsAt.nil,1|ej hD _] (λi y _ Pi=>by erw[_,_,_,_,h]at Pi;exact eH (h _ _ m)) ?_ ?_
 . rintro i z n J ⟨us,e,R2,o,L⟩;let M:i<(cl.map V.int).length:=(Pl J).1;let u:i<cl.length:=by rw[d8]at M;exact M
   let ez:z=.int cl[i]:=by
    rw[hI,fz u]at J;exact(j3 J).symm
   subst ez;erw[0,y2S,λb hb=>%[y2S|λd hd=>?_]];let g:=ej hb (.tup [.str "num",.int cl[i]]);let e3:upd n b (.tup [.str "num",.int cl[i]]) b=_:=ah;generalize upd n b (.tup [.str "num",.int cl[i]])=O at hd g e3;let j:=ej hd (.tup [.str "say",.ref b]);let e4:upd O d (.tup [.str "say",.ref b]) d=_:=ah;generalize upd O d (.tup [.str "say",.ref b])=H4 at j e4;let U:=g.trans j;let x:=U _ _ e;let Y:=eU (H:=H4) (b:=D) (ys:=us) (zs:=us++[.ref d]) x;erw[_,x,aM #[0],Nx.of M ⟨us++[.ref d],ah,?_,by rw[fm,o];rfl,λb' o' e'=>?_⟩]
   . rw[ih,fz u,fj];exact((R2.mono (bc U)).mono Y).snoc (.say (Y _ _ e4) (.num (Y _ _ (j _ _ e3))))
   . rw[az (aN e' hD)];exact U _ _ (L _ _ e')
 . rintro n ⟨us,e,R2,o,L⟩;rw[d8]at o;rw[d8,i0]at R2;erw[D,0,.inl %[eH e|λb hb=>?_]];let g:=ej hb (.tup us);let e3:upd n b (.tup us) b=_:=ah;generalize upd n b (.tup us)=O at g e3;let J3:=L.trans g;let tl:=R1.1;let un:us≠[]:=λz=>by rw[z]at o;rw[ni]at o;omega
   let tn:C≠[]:=λz=>by rw[z]at tl;cases tl
   let t10:C.length=10:=tl;erw[a,b,2,dV (J3 _ _ ha),dV e3,tn,cx #[0],λz=>absurd z un,λ_ c' ab=>?_];let j:=ej ab (.tup (C++us));apply q c' _ _ ah (((R1.mono (bc J3)).app (R2.mono (bc g))).mono (bc j)) (λr hr=>?_) (S1.trans (J3.trans j));unfold bz at hr;rcases qO0 hr with h | h
   . exact Gy r h
   . let%[c,_|1]:=List.mem_map.mp h;erw[trivial,by show 1<=5;decide]
def yO:List Hr:=hB "i"
def DJ:uF yO:=by
 erw[4,λr hr=>?_];unfold yO hB at hr;simp only[E2,zi,Fj]at hr;let b:NmK "i":=by unfold NmK;decide
 rcases hr with rfl | rfl | rfl | rfl
 . erw[b,%[4|4],4,4]
 . erw[%[4|b],4,4]
 . erw[b,%[4,b,4|4],4,4]
 . erw[4,4]
def DI:pP yO="set i 0\nsay (true i)\nset i (+ i 1)\ngo 1":=by decide
instance spHonest:vs=[]->(∀(a:Addr)(tv:List V)(H':Hp),H' a=some (.tup tv)->RowsAt H' tv yO->Same H H'->Q (.ref a) H'):=1
def CD:FnScope [] [] (aj sU):=%[|5]
def Dg(F:#["honest",sU])(X:∃t,mg "HONEST_ROWS"=some (.str ("set i 0\nsay (true i)\nset i (+ i 1)\ngo 1":Str) t))(b:#[21,"read_helper",WE,spReadH]):#[22,f,fd,[],spHonest]:=by
 exists CD
 erw[1,q]at h;erw[t,c]at X;erw[_,(af (au (aq b hr ⋯ rfl %[dI (v:=.str ("set i 0\nsay (true i)\nset i (+ i 1)\ngo 1":Str)) rfl c %[|0]|ae]))),6];erw[yO,by rw[DI];rfl,DJ,q]
def Jo:∀r∈yO,r.good:=by
 intro r hr;unfold yO hB at hr;simp only[E2,zi,Fj]at hr;rcases hr with rfl | rfl | rfl | rfl
 . erw[trivial,4]
 . erw[%[4|trivial],4]
 . erw[%[4,trivial|trivial],4]
 . exact(by decide:(0:Int)<=1)
section
variable {C CM CA CG:Addr}
def SmallG.gm(h:SmallG ns ts p):GmK ns ts p:=by
 let t4:=h.t4;let nl:=h.nl;erw[h.pp,h.p2,by have:=h.p9;omega,3,h.t1,3,λt b=>%[(h.tok t b).1,Tr.ok_wf h.nok t (h.tok t b).1,by have:=(h.tok t b).2.1;omega|by have:=(h.tok t b).2.2;omega],h.tp,h.tc]
def SmallG.d60(h:SmallG ns ts p):∀y∈ns,bj ts y<=60:=λy _=>by
 let b:ts≠[]:=λz=>by have:=h.t1;rw[z]at this;cases this
 have:bj ts y<9:=mf b λt c=>by
  let h1:=QS (a:=y) (l:=t.names);let h2:=t.names_len;let h3:=(h.tok t c).2.2;omega
 omega
def Ce{ns:List Str}(h:ns.length<=6):(0:Int)<=(cnt t ns:Int)/\(cnt t ns:Int)<=100:=by
 let h1:cnt t ns<=(cU ns.length).length:=Ry _ _;rw[jN]at h1
 have:=Qp (n:=2) ⋯ h
 let e:(2:Nat) ^ 6=64:=by decide
 omega
abbrev rG(ns:List Str)(ts:List Tr)(p:Int)(cl:List Int):Int×Option (List Int):=gU (cO p.toNat (bm ns ts)) (λc=>decide ((eP ns ts p (bz cl) c).2.z.aw.1="believed")) []
def iR{cl:List Int}(k:GmK ns ts p)(n6:ns.length<=6)(nd:ns.Nodup)(d60:∀y∈ns,bj ts y<=60)(ll:cl.length=ts.length):(rG ns ts p cl).1=lW p ns.length ts.length (cgt p (ns.map (bj ts))) (ovr cl (aU ts ns))/\((rG ns ts p cl).2=none->wrg p (ovr cl (aU ts ns))=false)/\(∀c,(rG ns ts p cl).2=some c->wrg p (ovr cl (aU ts ns))=true/\c.length=bm ns ts/\cv c p/\¬ (eP ns ts p (bz cl) c).2.z.aw.1="believed"):=by
 let p2:=k.p2;let g:(p.toNat:Int)=p:=#[0]
 let lia:=KH k n6 nd d60 ll;let q:=eQ ts ns;let o:(ovr cl (aU ts ns)).length=ts.length:=(ii (ll.trans q.symm)).trans ll;let e1:(rG ns ts p cl).1=lW p ns.length ts.length (cgt p (ns.map (bj ts))) (ovr cl (aU ts ns)):=by
  rw [Ji #[0] o];unfold rG;rw[iZ (b':=uc ns ts p cl) (λc hc=>by
   let%[j|b]:=iw _ _ hc;rw[g]at b;exact Jg k n6 nd lia ll b j)]
  exact Jf k ll
 let t:0<cgt p (ns.map (bj ts)):=Ch λd hd=>by
  let%[x,u|1]:=List.mem_map.mp hd;exact(k.deg x u).2
 let less:=yG (jv k.pr (by have:=k.p9;omega)) (n:=ns.length) k.t1 o k.tp t;let e:((p.toNat ^ bm ns ts:Nat):Int)=p ^ (ns.length+if 1<ts.length then 1 else 0):=by
  rw[Qv,g]
  congr 1
  have:=k.t1
  unfold bm
  split <;> split <;> omega
 let m:=pS (λc=>decide ((eP ns ts p (bz cl) c).2.z.aw.1="believed")) (cO p.toNat (bm ns ts));rw[jj]at m;let e0:(rG ns ts p cl).1=(((cO p.toNat (bm ns ts)).filter λc=>decide ((eP ns ts p (bz cl) c).2.z.aw.1="believed")).length:Int):=rfl;let e2:(rG ns ts p cl).2=(((cO p.toNat (bm ns ts)).filter λc=>!decide ((eP ns ts p (bz cl) c).2.z.aw.1="believed")).head?).map ([]++·):=rfl;erw[e1,λz=>?_,λc z=>?_]
 . rw [e2]at z;cases e3:(cO p.toNat (bm ns ts)).filter λc=>!decide ((eP ns ts p (bz cl) c).2.z.aw.1="believed")with
   |nil=>
     rw[e3,ni]at m;rw[←less];exact fw (by rw[←e,←e1,e0];omega)
   |cons a r=>
     rw[e3]at z;cases z
 . rw [e2]at z;cases e3:(cO p.toNat (bm ns ts)).filter λc=>!decide ((eP ns ts p (bz cl) c).2.z.aw.1="believed")with
   |nil=>
     rw[e3]at z;cases z
   |cons a r=>
     rw[e3]at z;cases z;rw[e3,f5]at m;let v:a∈(cO p.toNat (bm ns ts)).filter λc=>!decide ((eP ns ts p (bz cl) c).2.z.aw.1="believed"):=by rw[e3];exact kb
     let%[m1|m2]:=List.mem_filter.mp v;let%[j|b]:=iw _ _ m1;rw[g]at b;erw[6,j,b,λy=>?_]
     . rw[←less];exact ft (by rw[←e,←e1,e0];omega)
     . let B:(eP ns ts p (bz cl) a).2.z.aw.1="believed":=y;rw[ft B]at m2;cases m2
end
def Ae:Option (List Int)->PyData
 |none=>.none
 |some c=>.tuple (c.map PyData.int)
def wtD(x:Int×Option (List Int)):PyData:=.tuple [.int x.1,Ae x.2]
def OptAt.rep{K:W.Frag}{x:Option (List Int)}(h:OptAt H v x):Rep K H v (Ae x):=by
 cases x with
 |none=>rw[show v=.non from h];exact .non
 |some c=>erw[b,1,hb]at h;exact .tup (dV hb) (dq _)
def KA(x:Option (List Int)):(Ae x).canLay0=true/\(Ae x).depth<=1:=by
 cases x with
 |none=>simp [Ae,PyData.canLay0,PyData.depth]
 |some c=>simp [Ae,PyData.canLay0,PyData.depth,W.ke_canLayAll0,W.ke_depthAll]
def jL(x:Int×Option (List Int)):SeqAt.shaped (wtD x)=true:=by
 let h:=KA x.2;let hc:(wtD x).canLay0=true:=by simp [wtD,PyData.canLay0,PyData.canLayAll0,h.1]
 let hd:(wtD x).depth<=10:=by
  show max 0 (max (Ae x.2).depth 0)+1<=10;omega
 unfold SeqAt.shaped;rw[hc,Bool.true_and,RX];omega
def Eg(x:Int×Option (List Int)):PyData.eqv (wtD x) (wtD x)=true:=PySem.SeqAt.eqv_refl _ (SeqAt.canLay_of_shaped (jL x))
section
variable {C CM CG:Addr}
def uW(h:xL H a x)(k:cZ H b):xL b a x:=by
 erw[v,h1,h2]at h;erw[v,k _ _ h1,h2.mono k]
def sk{K:W.Frag}(h:xL H a x):Rep K H (.ref a) (wtD x):=by
 erw[v,h1,h2]at h;exact .tup (dV h1) (.cons (.int _) (.cons h2.rep .nil))
def fX:FnScope ["_law_script","_law_names_here","_law_trees","_law_field_here","_law_game","_law_counts","_law_claims_here","_law_wrong","_law_blind","_law_found","_law_most_here","_law_rows","_law_others_here","_law_due"] ["_law_script"] (aj pf):=%[|5]
structure L82At(CG:Addr)(H:Hp)(g na ta ct ca bl:Addr)(ns:List Str)(ts:List Tr)(p:Int)(cl bs:List Int):Prop where
 G:∃d,GameD CG H g d ns ts p
 SG:SmallG ns ts p
 pw:p ^ bm ns ts<=60
 ha:H na=some (.tup (ns.map V.str))
 hb:∃tv,H ta=some (.tup tv)/\TreesAt H tv ts
 hc:H ct=some (.lst ((aU ts ns).map V.int))
 hl:H ca=some (.lst (cl.map V.int))
 ll:cl.length=ts.length
 lr:∀x∈cl,0<=x/\x<1000000000000
 hB:H bl=some (.lst (bs.map V.int))
 bb:bs=if wrg p (ovr cl (aU ts ns))=true then gC p (ovr cl (aU ts ns))else []
def L82At.same(x:L82At CG H g b c ct e bl ns ts p cl bs)(s:Same H j):L82At CG j g b c ct e bl ns ts p cl bs:=by
 erw[m,h1,h2]at x.hb;erw[d,h5]at x.G;erw[%[d|h5.same s],x.SG,x.pw,s _ _ x.ha,%[m,s _ _ h1|h2.mono (bc s)],s _ _ x.hc,s _ _ x.hl,x.ll,x.lr,s _ _ x.hB,x.bb]
instance tA82(CG:Addr)(Dn:Ends)(σ:St)(H:Hp):∀(x0 x9 x10 x11 x12 x13:Option V)(g na ta ct ca bl:Addr)(ns:List Str)(ts:List Tr)(p:Int)(cl bs:List Int),σ=[x0,some (.ref na),some (.ref ta),some (.int p),some (.ref g),some (.ref ct),some (.ref ca),some (.bl (wrg p (ovr cl (aU ts ns)))),some (.ref bl),x9,x10,x11,x12,x13]->L82At CG H g na ta ct ca bl ns ts p cl bs->(∀H',Dn.rt (.bl true) H'):=0
instance tC82(CG:Addr)(Dn:Ends)(σ:St)(H:Hp):∀(x0 x9 x12 x13:Option V)(g na ta ct ca bl:Addr)(ns:List Str)(ts:List Tr)(p:Int)(cl bs:List Int),σ=[x0,some (.ref na),some (.ref ta),some (.int p),some (.ref g),some (.ref ct),some (.ref ca),some (.bl (wrg p (ovr cl (aU ts ns)))),some (.ref bl),x9,some (.int (lW p ns.length ts.length (cgt p (ns.map (bj ts))) (ovr cl (aU ts ns)))),some (.int (p ^ bm ns ts)),x12,x13]->L82At CG H g na ta ct ca bl ns ts p cl bs->(∀H',Dn.rt (.bl true) H'):=0
def KC(F:#["law",pf])(B:Bl mg)(TG:GTxt K mg CG)(M:Mk K CG fI)(GI:#[14,fI,b4,WZ,spGInit CG])(bI:Binds K b4 WZ [])(mC:Meth K CG "coins" fC)(GC:#[1,fC,b5,WA,spCoins CG])(bC:Binds K b5 WA [])
 (pe:#[1,"_law_feed",Wv,spFeed K])(uE:#[14,"_law_small",Wx,spSmall])(uV:#[13,"_law_count",Wy,spLCt])(pj:#[2,"_law_claims",W0,spClm82])(c9:#[1,"_law_mixed",Wj,spLMx])
 (C1:#[14,"_law_most",W9,spMost82])(b9:#[1,"_law_rows_in",WO,spPow])(qe:#[19,"_law_others",VA,spOth82 CG])(qR:#[28,"_law_played",Wz,spPlay82 CG])
 (jC:#[22,"best_liar",["claims"],spBest])(C2:#[22,"honest",[],spHonest])(iA:#[19,"let_by_at_most",WD,spLet CG])(cP:#[18,"are_wrong",WD,spAre CG])(b6:#[18,"blind_spots",WD,spBlind CG])
 (lD:#[36,"weighed",["game","helper"],spWeighed C CM CG]):#[37,f,fd,["_law_script"],spLaw K]:=by
 exists fX
 erw[a,sn,1,hS,h63,q]at h;let Pp:Room 1 _:=hr.mono ⋯;let bD:Room 15 _:=hr.mono ⋯;refine⟨_,(ad (qt (aq uE hr ⋯ rfl %[aq pe hr ⋯ rfl %[0,ag|ae],ag|ae]) (tM rfl (fo (ba (i:=1) fX.nd rfl (Or.inr rfl)) (fo (ba (i:=2) fX.nd rfl (.inl rfl)) (fo (ba (i:=3) fX.nd rfl (Or.inr rfl)) pC)))))
  (ad #[am,4,fX,iN M GI bD rfl TG.mgC bI .nil bd %[1,2,3|ae]]
  (ad (am (i:=5) fX.nd rfl (Or.inr rfl) (bL (N:=["_law_names_here"]) (ix:=[1]) rfl
   #[3] rfl
   (iF (pv 2)) (λ_ _ _=>cu (aq uV hr ⋯ rfl %[0,1|ae]))))
  (ad (am (i:=6) fX.nd rfl (Or.inr rfl) (aq pj hr ⋯ rfl %[aq pe hr ⋯ rfl %[0,ag|ae],5,3|ae]))
  (ad (am (i:=7) fX.nd rfl (.inl rfl) (cJ (wO hr.units) (bL (N:=["_law_field_here"]) (ix:=[3]) rfl
   #[3] rfl
   (cI (pv 6)) (λ_ _ _=>cu (ao aY (pv 0) (pv 1))))
   (bL (N:=["_law_field_here"]) (ix:=[3]) rfl
   #[3] rfl
   (cI (pv 5)) (λ_ _ _=>cu (ao aY (pv 0) (pv 1)))) (ax _)))
  (ad #[am,8,fX,bY ae]
  (ad (aJ (PW.pt (jH (dP (pv 7)) (iM (ai gq (aG aD rfl B.len fx %[2|ae]) ag (ax _)))))
   (af (kP (i:=8) (N:=["_law_field_here","_law_counts","_law_claims_here"]) (ix:=[3,5,6]) fX.nd rfl (.inl rfl) rfl
    (CompScope.three (by rfl') ⋯ rfl ⋯ rfl ⋯ rfl (by rfl') (by rfl') (by rfl') (by rfl') (by rfl') rfl rfl (by rfl') rfl rfl (by rfl') rfl rfl) rfl
    (bK rfl B.range %[3|ae]) (λ_ _ _=>yh (ai aS (aq c9 hr ⋯ rfl %[3,0,1|ae]) (aq c9 hr ⋯ rfl %[2,0,1|ae]) (ax _)) (pv 0)))) aE)
  (ig (t':=tA82 CG) (ad #[am,9,fX,aq cP hr ⋯ rfl %[4,aX de rfl B.list dU %[6|ae]|ae]]
  (ad (aJ (PW.pt (ip (iE (dP (aG mi rfl B.isinstance Rq %[9,wK (v:=V.ty "bool") rfl B.bool uD rfl|ae]))) (ip (ai jw (pv 9) (pv 7) (ax _)) (hV (ai Bx (aG aD rfl B.len fx %[8|ae]) (aG aD rfl B.len fx %[2|ae]) (ax _)))))) (af (au je)) aE)
  (ad (aJ (PW.pt (jH (dP (pv 7)) (iM (ai (wO hr.units) (aq b6 hr ⋯ rfl %[4,aX de rfl B.list dU %[6|ae]|ae]) (pv 8) (ax _))))) (af (au je)) aE)
  (ig (t':=tA82 CG) (ad #[am,10,fX,aq C1 hr ⋯ rfl %[1,2,3,7,8|ae]]
  (ad #[am,11,fX,aq b9 hr ⋯ rfl %[3,bt (pv 4) TG.cl mC GC Pp bC .nil bd|ae]]
  (ig (t':=tC82 CG) (ad (aJ (PW.pt (ip (ai jw (aq iA hr ⋯ rfl %[4,aX de rfl B.list dU %[6|ae]|ae]) (pv 10) (ax _)) (hV (PW.pt (jH (dP (pv 7)) (iM (ai Bx (pv 10) (pv 11) (ax _)))))))) (af (au je)) aE)
  (ig (t':=tC82 CG) (ad (kP (i:=12) (N:=[]) (ix:=[]) fX.nd rfl (.inl rfl) rfl
   #[5] rfl
   (cI (pv 6)) (λ_ _ _=>cu (ao aV (pv 0) ag)))
  (ad (aJ (iE (dP (aq qe hr ⋯ rfl %[4,5,12|ae]))) (af (au je)) aE)
  (ig (t':=tC82 CG) (ad (aJ (PW.pt (ip (ai jw (aq cP hr ⋯ rfl %[4,aX de rfl B.list dU %[6|ae]|ae]) (pv 7) (ax _)) (hV (PW.pt (jH (dP (pv 7)) (iM (ai (wO hr.units) (aq b6 hr ⋯ rfl %[4,aX de rfl B.list dU %[6|ae]|ae]) (pv 8) (ax _)))))))) (af (au je)) aE)
  (ig (t':=tC82 CG) (ad #[am,13,fX,aq qR hr ⋯ rfl %[4,aq jC hr ⋯ rfl %[aX de rfl B.list dU %[6|ae]|ae]|ae]]
  (ad (aJ (PW.pt (ip (ai jw (aO ix_tup (pv 13) ag #[1]) (pv 10) (ax _)) (ip (ai aS (cJ wP (aO ix_tup (pv 13) ag #[1]) kR (ax _)) (pv 7) (ax _)) (hV (ai (wO hr.units) (aq lD hr ⋯ rfl %[4,aq jC hr ⋯ rfl %[aX de rfl B.list dU %[6|ae]|ae]|ae]) (pv 13) (ax _)))))) (af (au je)) aE)
  (af (au (cJ (oI hr.units) (aq lD hr ⋯ rfl %[4,IK C2 hr ⋯ rfl|ae]) (aR %[11,kR|ae]) (ax _)))))) ?cF)) ?cE))) ?cD)) ?cC))) ?cB)))) ?cA)))))))),?_⟩
 case cA=>
  rintro Dn σ H ⟨x0,x9,bE,bF,ap,ar,g,na,ta,ct,m,bl,ns,ts,p,cl,bs,rfl,Z,q⟩;let k:=Z.SG.gm;let nl:=Z.SG.nl;let n6:ns.length<=6:=#[0]
  let p2:=k.p2;let p9:=Z.SG.p9;let t1:=k.t1;let t4:=Z.SG.t4;let p0:0<p:=#[0]
  let ll:=Z.ll;let cn:=eQ ts ns;let ol:(ovr cl (aU ts ns)).length=ts.length:=(ii (ll.trans cn.symm)).trans ll;let%[w1,w2|w3]:=iR k n6 Z.SG.nd Z.SG.d60 Z.ll;let few:bs.length<ts.length:=by
   let e:=Z.bb
   split at e
   . rename_i W
     have:=gY (jv k.pr (by have:=k.p9;omega)) (c:=ovr cl (aU ts ns)) (by rw[ol];exact k.tp) (wrg_iff.mp W)
     rw[e];omega
   . rw[e];exact t1
  let O:wrg p (ovr cl (aU ts ns))=true->bs=gC p (ovr cl (aU ts ns)):=λW=>by
   let e:=Z.bb;rw[Pe W]at e;exact e
  let eM:nY p ns.length ts.length (wrg p (ovr cl (aU ts ns))) bs.length (cgt p (ns.map (bj ts)))=lW p ns.length ts.length (cgt p (ns.map (bj ts))) (ovr cl (aU ts ns)):=by
   rw[jR];cases W:wrg p (ovr cl (aU ts ns))with
   |true=>rw[O W]
   |false=>rfl
  generalize eW:wrg p (ovr cl (aU ts ns))=W at *
  erw[0,0,m,0,.inl (eH Z.hl),λY ac=>?_];let I1:=ej ac (.lst (cl.map V.int));let e1:upd H Y (.lst (cl.map V.int)) Y=some (.lst (cl.map V.int)):=ah;generalize upd H Y (.lst (cl.map V.int))=H1 at I1 e1;let%[d|ab]:=(Z.same I1).G;erw[g,Y,ns,ts,cl,p,1,ab.ok,p0,e1,ll,λH2 S2=>?_];rw[eW];let Z2:=(Z.same I1).same S2;clear Z I1 e1 ab;erw[tv,hb,TS]at Z2.hb;let vl:=TS.length;erw[0,_,_,"bool",true,1,TyOf.bl _,yJ _ _,0,cQ ?_];erw[0,0,1,0,6];rw[ft rfl];apply cQ ?_;erw[0,bl,0,.inl (eH Z2.hB),0,ta,0,.inr (dV hb),2,0,6];apply aF (by rw[d8];omega) ?_;let fin:tA82 CG Dn [x0,some (.ref na),some (.ref ta),some (.int p),some (.ref g),some (.ref ct),some (.ref m),some (.bl W),some (.ref bl),some (.bl W),bE,bF,ap,ar] H2->True:=λ_=>trivial
  clear fin;erw[0,0,6];cases W with
  |false=>
    apply cQ ?_;erw[_,_,_,_,_,_,g,na,ta,ct,m,bl,ns,ts,p,cl,bs,by rw[eW];rfl,Z2,q]
  |true=>
    apply eF ?_;erw[0,0,m,0,.inl (eH Z2.hl),λl3 bo=>?_];let I3:=ej bo (.lst (cl.map V.int));let e3:upd H2 l3 (.lst (cl.map V.int)) l3=some (.lst (cl.map V.int)):=ah;generalize upd H2 l3 (.lst (cl.map V.int))=H3 at I3 e3;let%[d3|as]:=(Z2.same I3).G;erw[g,l3,ns,ts,cl,p,1,as.ok,p0,3,e3,ll,λD4 H4 d4 S4 av=>?_];let Z4:=(Z2.same I3).same S4;let aw:=Z4.hB;rw[O rfl]at aw;erw[0,_,_,.lst (eH av) (dq _),.lst (eH aw) (dq _),dB _,dB _,0,6];rw[qE,ft rfl];apply cQ ?_;erw[_,_,_,_,_,_,g,na,ta,ct,m,bl,ns,ts,p,cl,bs,by rw[eW];rfl,Z4,q]
 case cB=>
  rintro Dn σ H ⟨x0,x9,bE,bF,ap,ar,g,na,ta,ct,m,bl,ns,ts,p,cl,bs,rfl,Z,q⟩;let k:=Z.SG.gm;let nl:=Z.SG.nl;let n6:ns.length<=6:=#[0]
  let p2:=k.p2;let p9:=Z.SG.p9;let t1:=k.t1;let t4:=Z.SG.t4;let p0:0<p:=#[0]
  let ll:=Z.ll;let cn:=eQ ts ns;let ol:(ovr cl (aU ts ns)).length=ts.length:=(ii (ll.trans cn.symm)).trans ll;let%[w1,w2|w3]:=iR k n6 Z.SG.nd Z.SG.d60 Z.ll;let few:bs.length<ts.length:=by
   let e:=Z.bb
   split at e
   . rename_i W
     have:=gY (jv k.pr (by have:=k.p9;omega)) (c:=ovr cl (aU ts ns)) (by rw[ol];exact k.tp) (wrg_iff.mp W)
     rw[e];omega
   . rw[e];exact t1
  let O:wrg p (ovr cl (aU ts ns))=true->bs=gC p (ovr cl (aU ts ns)):=λW=>by
   let e:=Z.bb;rw[Pe W]at e;exact e
  let eM:nY p ns.length ts.length (wrg p (ovr cl (aU ts ns))) bs.length (cgt p (ns.map (bj ts)))=lW p ns.length ts.length (cgt p (ns.map (bj ts))) (ovr cl (aU ts ns)):=by
   rw[jR];cases W:wrg p (ovr cl (aU ts ns))with
   |true=>rw[O W]
   |false=>rfl
  erw[d,GD]at Z.G;erw[tv,hb,TS]at Z.hb;erw[0,0,0,0,0,na,ta,bl,ns,tv,bs.map V.int,ts,p,0,Z.ha,hb,TS,Z.hB,by rw[d8];omega,3,t1,3,SmallG.wf Z.SG.nok Z.SG.tok,p0,3,(λx U=>by have:=k.deg x U;omega),λH1 S1=>?_];rw[d8,eM];let Z1:=Z.same S1;let%[ga,gb,bG,GA,b7,da,b8,cb|_]:=id (GD.same S1);let db:=kc (ts:=ts) n6;let%[dx|hg]:=id GA;erw[0,0,g,dx,0,hg,oa _ _ _ _ ⋯ ⋯ ⋯ ⋯,g,ga,gb,d,ns,bG,p,1,GA,b7,b8,6];rw[show(if bG.length=1 then(ns.length:Int)else(ns.length:Int)+1)=((bm ns ts:Nat):Int) by rw[cb.length];unfold bm;split <;> rfl];erw[p,0,3,3,p0,3,6];rw[pu];erw[_,_,_,_,g,na,ta,ct,m,bl,ns,ts,p,cl,bs,1,Z1,q]
 case cC=>
  rintro Dn σ H ⟨x0,x9,ap,ar,g,na,ta,ct,m,bl,ns,ts,p,cl,bs,rfl,Z,q⟩;let k:=Z.SG.gm;let nl:=Z.SG.nl;let n6:ns.length<=6:=#[0]
  let p2:=k.p2;let p9:=Z.SG.p9;let t1:=k.t1;let t4:=Z.SG.t4;let p0:0<p:=#[0]
  let ll:=Z.ll;let cn:=eQ ts ns;let ol:(ovr cl (aU ts ns)).length=ts.length:=(ii (ll.trans cn.symm)).trans ll;let%[w1,w2|w3]:=iR k n6 Z.SG.nd Z.SG.d60 Z.ll;let few:bs.length<ts.length:=by
   let e:=Z.bb
   split at e
   . rename_i W
     have:=gY (jv k.pr (by have:=k.p9;omega)) (c:=ovr cl (aU ts ns)) (by rw[ol];exact k.tp) (wrg_iff.mp W)
     rw[e];omega
   . rw[e];exact t1
  let O:wrg p (ovr cl (aU ts ns))=true->bs=gC p (ovr cl (aU ts ns)):=λW=>by
   let e:=Z.bb;rw[Pe W]at e;exact e
  let eM:nY p ns.length ts.length (wrg p (ovr cl (aU ts ns))) bs.length (cgt p (ns.map (bj ts)))=lW p ns.length ts.length (cgt p (ns.map (bj ts))) (ovr cl (aU ts ns)):=by
   rw[jR];cases W:wrg p (ovr cl (aU ts ns))with
   |true=>rw[O W]
   |false=>rfl
  erw[0,0,m,0,.inl (eH Z.hl),λY ac=>?_];let I1:=ej ac (.lst (cl.map V.int));let e1:upd H Y (.lst (cl.map V.int)) Y=some (.lst (cl.map V.int)):=ah;generalize upd H Y (.lst (cl.map V.int))=H1 at I1 e1;let%[d|ab]:=(Z.same I1).G;erw[g,d,Y,ns,ts,cl,p,1,ab,p0,3,e1,ll,λH2 S2=>?_];let Z2:=(Z.same I1).same S2;erw[0,1,0,6];rw[ft rfl];apply cQ ?_;let g0:0<cgt p (ns.map (bj ts)):=Ch λd hd=>by
   let%[x,U|1]:=List.mem_map.mp hd;exact(k.deg x U).2
  let less:=yG (jv k.pr (by have:=k.p9;omega)) (n:=ns.length) k.t1 ol k.tp g0;let ec:(ns.length+if 1<ts.length then 1 else 0)=bm ns ts:=by
   unfold bm
   split <;> split <;> omega
  rw[ec]at less;erw[0,0,6];cases W:wrg p (ovr cl (aU ts ns))with
  |false=>
    apply cQ ?_;erw[_,_,_,_,g,na,ta,ct,m,bl,ns,ts,p,cl,bs,by rw[W],Z2,q]
  |true=>
    apply eF ?_;rw[W]at less;erw[0,0,2,0,6];apply aF (λz=>absurd (y3 less) (Int.not_lt.mpr z)) ?_;erw[_,_,_,_,g,na,ta,ct,m,bl,ns,ts,p,cl,bs,by rw[W],Z2,q]
 case cD=>
  rintro Dn σ H ⟨x0,x9,ap,ar,g,na,ta,ct,m,bl,ns,ts,p,cl,bs,rfl,Z,q⟩;let k:=Z.SG.gm;let nl:=Z.SG.nl;let n6:ns.length<=6:=#[0]
  let p2:=k.p2;let p9:=Z.SG.p9;let t1:=k.t1;let t4:=Z.SG.t4;let p0:0<p:=#[0]
  let ll:=Z.ll;let cn:=eQ ts ns;let ol:(ovr cl (aU ts ns)).length=ts.length:=(ii (ll.trans cn.symm)).trans ll;let%[w1,w2|w3]:=iR k n6 Z.SG.nd Z.SG.d60 Z.ll;let few:bs.length<ts.length:=by
   let e:=Z.bb
   split at e
   . rename_i W
     have:=gY (jv k.pr (by have:=k.p9;omega)) (c:=ovr cl (aU ts ns)) (by rw[ol];exact k.tp) (wrg_iff.mp W)
     rw[e];omega
   . rw[e];exact t1
  let O:wrg p (ovr cl (aU ts ns))=true->bs=gC p (ovr cl (aU ts ns)):=λW=>by
   let e:=Z.bb;rw[Pe W]at e;exact e
  let eM:nY p ns.length ts.length (wrg p (ovr cl (aU ts ns))) bs.length (cgt p (ns.map (bj ts)))=lW p ns.length ts.length (cgt p (ns.map (bj ts))) (ovr cl (aU ts ns)):=by
   rw[jR];cases W:wrg p (ovr cl (aU ts ns))with
   |true=>rw[O W]
   |false=>rfl
  erw[0,m,1,%[_|eH Z.hl],λD hD=>?_];apply cW (K:=K) (xs:=cl.map V.int) (λi r=>r D=some (.lst (((cl.take i).map (·+1)).map V.int))/\Same H r) %[ah|ej hD _] (λi r _ h=>eH (h.2 _ _ Z.hl)) ?_ ?_
  . rintro i z H2 hz ⟨aA,S2⟩;let hi:=(Pl hz).1;let bH:i<cl.length:=by rw[d8]at hi;exact hi
    rw[hI]at hz;let%[x,U|1]:=oe hz;erw[0,2,_,aA,6,Nx.of hi %[6|λb' o' e'=>?_]]
    . rw[d8,d8,kr];exact aM #[0]
    . rw[ah,ih,U];show some (HO.lst (_++[V.int (x+1)]))=some (HO.lst (((cl.take i++[x]).map (·+1)).map V.int));rw[fj,fj];rfl
    . rw[az (aN e' hD)];exact S2 _ _ e'
  rintro H1 ⟨bM,S1⟩;rw[d8,i0]at bM;let Z1:=Z.same S1;erw[d,ab]at Z1.G;let cr:∀x∈aU ts ns,-(2 ^ 62)<x/\x<2 ^ 62:=λx U=>by
   let%[t,_|1]:=List.mem_map.mp U
   have:=Ce (t:=t) n6
   omega
  let xr:∀x∈cl.map (·+1),-(2 ^ 62)<x/\x<2 ^ 62:=λx U=>by
   let%[y,hy|1]:=List.mem_map.mp U
   have:=Z.lr y hy
   show -(2 ^ 62)<y+1/\y+1<2 ^ 62;omega
  erw[0,0,0,g,ct,D,ns,ts,cl.map (·+1),p,1,ab.ok,p0,3,Z1.hc,cr,bM,xr,by rw[d8];exact ll,t1,3,λH2 S2=>?_];erw[true,1,cQ ?_];erw[_,_,_,_,g,na,ta,ct,m,bl,ns,ts,p,cl,bs,1,Z1.same S2,q]
 case cE=>
  rintro Dn σ H ⟨x0,x9,ap,ar,g,na,ta,ct,m,bl,ns,ts,p,cl,bs,rfl,Z,q⟩;let k:=Z.SG.gm;let nl:=Z.SG.nl;let n6:ns.length<=6:=#[0]
  let p2:=k.p2;let p9:=Z.SG.p9;let t1:=k.t1;let t4:=Z.SG.t4;let p0:0<p:=#[0]
  let ll:=Z.ll;let cn:=eQ ts ns;let ol:(ovr cl (aU ts ns)).length=ts.length:=(ii (ll.trans cn.symm)).trans ll;let%[w1,w2|w3]:=iR k n6 Z.SG.nd Z.SG.d60 Z.ll;let few:bs.length<ts.length:=by
   let e:=Z.bb
   split at e
   . rename_i W
     have:=gY (jv k.pr (by have:=k.p9;omega)) (c:=ovr cl (aU ts ns)) (by rw[ol];exact k.tp) (wrg_iff.mp W)
     rw[e];omega
   . rw[e];exact t1
  let O:wrg p (ovr cl (aU ts ns))=true->bs=gC p (ovr cl (aU ts ns)):=λW=>by
   let e:=Z.bb;rw[Pe W]at e;exact e
  let eM:nY p ns.length ts.length (wrg p (ovr cl (aU ts ns))) bs.length (cgt p (ns.map (bj ts)))=lW p ns.length ts.length (cgt p (ns.map (bj ts))) (ovr cl (aU ts ns)):=by
   rw[jR];cases W:wrg p (ovr cl (aU ts ns))with
   |true=>rw[O W]
   |false=>rfl
  erw[0,0,m,0,.inl (eH Z.hl),λY ac=>?_];let I1:=ej ac (.lst (cl.map V.int));let e1:upd H Y (.lst (cl.map V.int)) Y=some (.lst (cl.map V.int)):=ah;generalize upd H Y (.lst (cl.map V.int))=H1 at I1 e1;let%[d|ab]:=(Z.same I1).G;erw[g,Y,ns,ts,cl,p,1,ab.ok,p0,e1,ll,λH2 S2=>?_];let Z2:=(Z.same I1).same S2;erw[0,1,0,6];rw[ft rfl];apply cQ ?_;erw[0,0,6];cases W:wrg p (ovr cl (aU ts ns))with
  |false=>
    apply cQ ?_;erw[_,_,_,_,g,na,ta,ct,m,bl,ns,ts,p,cl,bs,by rw[W],Z2,q]
  |true=>
    apply eF ?_;erw[0,0,m,0,.inl (eH Z2.hl),λl3 bo=>?_];let I3:=ej bo (.lst (cl.map V.int));let e3:upd H2 l3 (.lst (cl.map V.int)) l3=some (.lst (cl.map V.int)):=ah;generalize upd H2 l3 (.lst (cl.map V.int))=H3 at I3 e3;let%[d3|as]:=(Z2.same I3).G;erw[g,l3,ns,ts,cl,p,1,as.ok,p0,3,e3,ll,λD4 H4 d4 S4 av=>?_];let Z4:=(Z2.same I3).same S4;let aw:=Z4.hB;rw[O W]at aw;erw[0,_,_,.lst (eH av) (dq _),.lst (eH aw) (dq _),dB _,dB _,0,6];rw[qE,ft rfl];apply cQ ?_;erw[_,_,_,_,g,na,ta,ct,m,bl,ns,ts,p,cl,bs,by rw[W],Z4,q]
 case cF=>
  rintro Dn σ H ⟨x0,x9,ap,ar,g,na,ta,ct,m,bl,ns,ts,p,cl,bs,rfl,Z,q⟩;let k:=Z.SG.gm;let nl:=Z.SG.nl;let n6:ns.length<=6:=#[0]
  let p2:=k.p2;let p9:=Z.SG.p9;let t1:=k.t1;let t4:=Z.SG.t4;let p0:0<p:=#[0]
  let ll:=Z.ll;let cn:=eQ ts ns;let ol:(ovr cl (aU ts ns)).length=ts.length:=(ii (ll.trans cn.symm)).trans ll;let%[w1,w2|w3]:=iR k n6 Z.SG.nd Z.SG.d60 Z.ll;let few:bs.length<ts.length:=by
   let e:=Z.bb
   split at e
   . rename_i W
     have:=gY (jv k.pr (by have:=k.p9;omega)) (c:=ovr cl (aU ts ns)) (by rw[ol];exact k.tp) (wrg_iff.mp W)
     rw[e];omega
   . rw[e];exact t1
  let O:wrg p (ovr cl (aU ts ns))=true->bs=gC p (ovr cl (aU ts ns)):=λW=>by
   let e:=Z.bb;rw[Pe W]at e;exact e
  let eM:nY p ns.length ts.length (wrg p (ovr cl (aU ts ns))) bs.length (cgt p (ns.map (bj ts)))=lW p ns.length ts.length (cgt p (ns.map (bj ts))) (ovr cl (aU ts ns)):=by
   rw[jR];cases W:wrg p (ovr cl (aU ts ns))with
   |true=>rw[O W]
   |false=>rfl
  erw[0,0,m,0,.inl (eH Z.hl),λY ac=>?_];let I1:=ej ac (.lst (cl.map V.int));let e1:upd H Y (.lst (cl.map V.int)) Y=some (.lst (cl.map V.int)):=ah;generalize upd H Y (.lst (cl.map V.int))=H1 at I1 e1;erw[Y,cl,1,e1,3,3,λh rv H2 hh RW gd S2=>?_];let%[d|cc]:=((Z.same I1).same S2).G;erw[g,h,rv,bz cl,ns,ts,p,1,cc.gm.1,k,n6,hh,RW,gd,by have:=Z.pw;omega,λo H3 S3 W3=>?_];rw[my k n6]at W3;let W3:xL H3 o (rG ns ts p cl):=W3;let Z3:=((Z.same I1).same S2).same S3;let%[v,h3|o3]:=id W3;erw[0,o,_,(0),0,1,dV h3,cX (j:=0) rfl,0,1,0,6];rw[ft (congrArg V.int w1)];apply cQ ?_;erw[0,o,_,(1),v,1,1,dV h3,cX (j:=1) rfl,1,0,1,0,6];let ce:¬ (V.bl (decide (v=V.non))=V.bl (wrg p (ovr cl (aU ts ns)))):=by
   cases eo:(rG ns ts p cl).2 with
   |none=>
     rw[eo]at o3
     have:v=.non:=o3
     subst this;rw[w2 eo,ft rfl];intro z;cases z
   |some c=>
     rw[eo]at o3;erw[b,1,hb]at o3;rw[(w3 c eo).1];intro z;cases z
  apply aF ce ?_;erw[0,0,m,0,.inl (eH Z3.hl),λl4 ci=>?_];let I4:=ej ci (.lst (cl.map V.int));let e4:upd H3 l4 (.lst (cl.map V.int)) l4=some (.lst (cl.map V.int)):=ah;generalize upd H3 l4 (.lst (cl.map V.int))=H4 at I4 e4;erw[l4,cl,1,e4,3,3,λh5 cj H5 ck cm co S5=>?_];let%[d5|cp]:=((Z3.same I4).same S5).G;erw[g,h5,cj,bz cl,ns,ts,p,1,cp.gm.1,k,n6,ck,cm,co,by have:=Z.pw;omega,λo6 H6 S6 W6=>?_];rw[my k n6]at W6;let W6:xL H6 o6 (rG ns ts p cl):=W6;let J:=(I4.trans S5).trans S6;erw[0,wtD (rG ns ts p cl),wtD (rG ns ts p cl),sk W6,sk (uW W3 (bc J)),jL _,jL _,0,6];rw[Eg];apply cQ ?_;erw[0,1,λho cs H7 cy cL S7=>?_];let%[d7|cN]:=((Z3.same J).same S7).G;erw[g,ho,cs,yO,ns,ts,p,1,cN.gm.1,k,n6,cy,cL,Jo,by have:=Z.pw;omega,λo8 H8 S8 W8=>?_];let W8:xL H8 o8 (gg ns ts p (hB "i") (bm ns ts) 8 (Tk.new ts) []):=W8;rw[xz k n6 Z.SG.nd (hon_B (x:="i") k n6 Z.SG.nd Z.SG.d60)]at W8;erw[0,y2S,λu hu=>?_];let I9:=ej hu (.tup [.int (p ^ bm ns ts),.non]);let e9:upd H8 u (.tup [.int (p ^ bm ns ts),.non]) u=_:=ah;generalize upd H8 u (.tup [.int (p ^ bm ns ts),.non])=H9 at I9 e9;erw[wtD (p ^ bm ns ts,none),wtD (p ^ bm ns ts,none),sk (uW W8 (bc I9)),.tup (dV e9) (.cons (.int _) (.cons .non .nil)),jL _,jL _,6];rw[Eg];exact q _
 erw[0,a,sn,0,hS,h63,4,4,λf0 H1 cS s1 F1=>?_];erw[f0,(60),1,F1,4,4,λgt sa sb ns tv ts p H2 bP br bv TS SG pw S2=>?_];let bR:Same H H2:=s1.but cS S2;erw[gt,0,dV bP,1,_,0,_,0,2,6];let k:=SG.gm;let nl:=SG.nl;let p2:=SG.p2;let p9:=SG.p9;let t1:=SG.t1;let t4:=SG.t4;let p0:0<p:=#[0]
 erw[0,0,0,λg dx nx bS cT=>?_];let s3:Same H2 (upd (upd H2 dx (.own g)) g (.ins CG dx [])):=λb o e=>by
  rw[az (aN e nx),az (aN e bS)];exact e
 erw[g,dx,sa,sb,ns,tv,ts,p,1,ah,s3 _ _ br,SG.nd,3,s3 _ _ bv,TS.mono (bc s3),t1,3,k.tok,k.pr,p2,k.p9,k.tp,k.tc,λd H3 d0 GA hd S3=>%[1|6]];let aC:Same H2 H3:=λb o e=>S3 b o (aN e nx) (s3 b o e)
 let aH:=aC _ _ br;let an:=aC _ _ bv;let aP:=TS.mono (bc aC);let c0:=bR.trans aC;let as:GameD CG H3 g d ns ts p:=%[sa,sb,tv,GA,aH,3,an,aP,3,λt ht=>%[(k.tok t ht).1|by have:=(k.tok t ht).2.2.1;omega],hd|λx U=>by have:=k.deg x U;omega]
 clear s3 S3 nx bS cT bP br bv TS S2 F1 s1 aC d0 bR;erw[0,sb,1,%[_|dV an],λct bT=>?_];let vl:=aP.length;apply gy (K:=K) (xs:=tv) (λi r=>r ct=some (.lst ((aU (ts.take i) ns).map V.int))/\Same H3 r) %[by rw[ah];rfl|ej bT _] (λi r _ h=>dV (h.2 _ _ an)) ?_ ?_
 . rintro i z H4 hz ⟨av,S4⟩;let hi:=(Pl hz).1;let%[t,ht|ta]:=aP.get hz;let kt:=k.tok t (ms ht);erw[0,0,z,t,sa,ns,1,ta.mono (bc S4),kt.2.1,kt.1,by have:=kt.2.2.1;omega,S4 _ _ aH,SG.nd,3,λH5 S5=>?_];erw[_,S5 _ _ av,6,Nx.of hi %[6|λb' o' e'=>?_]]
   . rw[d8,eQ,kr];exact aM #[0]
   . rw[ah,ih,ht];show some (HO.lst (_++[V.int _]))=some (HO.lst ((aU (ts.take i++[t]) ns).map V.int));unfold aU;rw[fj,fj];rfl
   . rw[az (aN e' bT)];exact S5 _ _ (S4 _ _ e')
 rintro H4 ⟨aT,S4⟩;rw[vl,i0]at aT;let bU:=c0.trans S4;let cr:∀x∈aU ts ns,0<=x/\x<=100:=λx U=>by
  let%[t,_|1]:=List.mem_map.mp U;exact Ce #[0]
 let cn:=eQ ts ns;erw[0,a,sn,0,bU.seq hS,h63,4,4,λf1 H5 bW s5 F5=>?_];let a9:=s5 _ _ aT;let c1:ct≠f1:=aN aT bW;erw[0,0,f1,ct,_,p,1,F5,a9,c1,3,3,cr,p0,3,λm cl H6 c2 a0 bx b0 F6 S6=>?_];rw[cn]at bx;let bA:Same H4 H6:=s5.but bW S6;let aK:=S4.trans bA;let c3:=as.same aK;let b1:=aK _ _ aH;let be:=aK _ _ an;let c4:=aP.mono (bc aK);let aL:=bA _ _ aT;let xc:cl.length=(aU ts ns).length:=bx.trans cn.symm;clear bU S6 s5 F5 F6 a9 c2 bA aK;erw[0,m,1,%[_|eH a0],λD7 bf=>?_];apply cW (K:=K) (xs:=(cl).map V.int) (λi r=>r D7=some (.lst ((((cl).take i).map (· % p)).map V.int))/\Same H6 r) %[ah|ej bf _] (λi r _ h=>eH (h.2 _ _ a0)) ?_ ?_
 . rintro i z c5 hz ⟨aA,S2⟩;let hi:=(Pl hz).1;let bH:i<(cl).length:=by rw[d8]at hi;exact hi
   rw[hI]at hz;let%[x,U|1]:=oe hz;erw[0,0,2,p0,_,aA,6,Nx.of hi %[6|λb' o' e'=>?_]]
   . rw[d8,d8,kr];exact aM #[0]
   . rw[ah,ih,U];show some (HO.lst (_++[V.int (x % p)]))=some (HO.lst ((((cl).take i++[x]).map (· % p)).map V.int));rw[fj,fj];rfl
   . rw[az (aN e' bf)];exact S2 _ _ e'
 rintro H7 ⟨b2,S7⟩;rw[d8,i0]at b2;let bg:=S7 _ _ aL;erw[0,ct,1,%[_|eH bg],λD8 bn=>?_];apply cW (K:=K) (xs:=(aU ts ns).map V.int) (λi r=>r D8=some (.lst ((((aU ts ns).take i).map (· % p)).map V.int))/\Same H7 r) %[ah|ej bn _] (λi r _ h=>eH (h.2 _ _ bg)) ?_ ?_
 . rintro i z c5 hz ⟨aA,S2⟩;let hi:=(Pl hz).1;let bH:i<(aU ts ns).length:=by rw[d8]at hi;exact hi
   rw[hI]at hz;let%[x,U|1]:=oe hz;erw[0,0,2,p0,_,aA,6,Nx.of hi %[6|λb' o' e'=>?_]]
   . rw[d8,d8,kr];exact aM #[0]
   . rw[ah,ih,U];show some (HO.lst (_++[V.int (x % p)]))=some (HO.lst ((((aU ts ns).take i++[x]).map (· % p)).map V.int));rw[fj,fj];rfl
   . rw[az (aN e' bn)];exact S2 _ _ e'
 rintro H8 ⟨b3,S8⟩;rw[d8,i0]at b3;let c6:=S7.trans S8;erw[_,_,.lst (eH (S8 _ _ b2)) (dq _),.lst (eH b3) (dq _),dB _,dB _,6];rw[qE,oJ cl (aU ts ns) xc,Bool.not_not];erw[y0S,λL hL=>?_];let GL:=ej hL (.lst []);let bB:upd H8 L (.lst []) L=some (.lst []):=ah;generalize upd H8 L (.lst [])=H9 at GL bB;let a7:=c6.trans GL;let c7:=a7 _ _ a0;let c8:=a7 _ _ aL;let Z9:∀(M:Addr)(bs:List Int)(r:Hp),Same H9 r->r M=some (.lst (bs.map V.int))->bs=(if wrg p (ovr cl (aU ts ns))=true then gC p (ovr cl (aU ts ns))else [])->L82At CG r g sa sb ct m M ns ts p cl bs:=λM bs r S' hM e=>
  let S:=a7.trans S'
  %[%[d|c3.same S],SG,pw,S _ _ b1,%[tv,S _ _ be|c4.mono (bc S)],S _ _ aL,S _ _ a0,bx,b0,hM|e]
 erw[0,0,6];cases W:wrg p (ovr cl (aU ts ns))with
 |false=>
   apply cQ ?_;erw[_,_,_,_,_,_,g,sa,sb,ct,m,L,ns,ts,p,cl,[],by rw[W];rfl,Z9 L [] H9 (Same.refl _) bB (by rw[W];rfl),λr=>q r]
 |true =>
   apply eF ?_;erw[0,sb,0,.inr (dV (a7 _ _ be)),2,0,6]
   by_cases cg:(tv.length:Int)>1
   . apply aZ cg ?_;erw[0,p,1,3,3,λM hM=>?_];apply dR (n:=p.toNat) (λi r=>r M=some (.lst ((fnd (λs=>decide (evl (s:Int) (ovr cl (aU ts ns)) % p=0)) i).map V.int))/\Same H9 r) %[by rw[ah];rfl|ej hM _] ?_ ?_
     . rintro i H5 hi ⟨a8,S5⟩;erw[0,0,0,m,cl,0+(i:Int),p,1,S5 _ _ c7,(λx U=>by have:=b0 x U;omega),3,3,p0,6];erw[0,0,0,ct,aU ts ns,0+(i:Int),p,1,S5 _ _ c8,(λx U=>by have:=cr x U;omega),3,3,p0,6];erw[1,0,6];rw[vu]
       by_cases e:evl (i:Int) (ovr cl (aU ts ns)) % p=0
       . apply aZ (congrArg V.int ((nq xc).mpr e)) ?_;erw[0,_,a8,6,Nx.of hi %[6|λb' o' e'=>?_]]
         . rw [d8]
           have:=rW (λs=>decide (evl (s:Int) (ovr cl (aU ts ns)) % p=0)) i
           exact pZ #[0]
         . rw[ah,iu,ft e,Pe rfl,fj];rfl
         . rw[az (aN e' hM)];exact S5 _ _ e'
       . apply aF (λz=>e ((nq xc).mp (V.int.inj z))) ?_;apply Nx.of hi %[6|S5];rw[iu,fw e,Pd ln,q9];exact a8
     . rintro H5 ⟨a8,S5⟩;erw[_,_,_,_,_,_,g,sa,sb,ct,m,M,ns,ts,p,cl,gC p (ovr cl (aU ts ns)),by rw[W];rfl,Z9 M _ H5 S5 a8 (by rw[W];rfl),λr=>q r]
   . apply aF cg ?_;let e0:=qO #[0] xc W;erw[_,_,_,_,_,_,g,sa,sb,ct,m,L,ns,ts,p,cl,[],by rw[W];rfl,Z9 L [] H9 (Same.refl _) bB (by rw[W,e0];rfl),λr=>q r]
end
def kept_vals{a b c d e f g h i j k l:Tok}:Vals (kept.map V.str) [.str "yes" a,.str "no" b,.str "not" c,.str "and" d,.str "or" e,.str "odd" f,.str "same" g,.str "round" h,.str "due" i,.str "asked" j,.str "true" k,.str "coin" l]:=
 .cons %[|0] (.cons ⟨_,rfl⟩ (.cons ⟨_,rfl⟩ (.cons ⟨_,rfl⟩ (.cons ⟨_,rfl⟩ (.cons ⟨_,rfl⟩ (.cons ⟨_,rfl⟩ (.cons ⟨_,rfl⟩ (.cons ⟨_,rfl⟩ (.cons ⟨_,rfl⟩ (.cons ⟨_,rfl⟩ (.cons ⟨_,rfl⟩ .nil)))))))))))
def sign_vals{a b c d e f:Tok}:Vals (signW.map V.str) [.str "+" a,.str "-" b,.str "*" c,.str "/" d,.str "=" e,.str "<" f]:=
 .cons %[|0] (.cons ⟨_,rfl⟩ (.cons ⟨_,rfl⟩ (.cons ⟨_,rfl⟩ (.cons ⟨_,rfl⟩ (.cons ⟨_,rfl⟩ .nil)))))
def ask_vals{a b:Tok}:Vals (askW.map V.str) [.str "coin" a,.str "true" b]:=.cons %[|0] (.cons ⟨_,rfl⟩ .nil)
def plain_vals{a b c:Tok}:Vals (plainW.map V.str) [.str "round" a,.str "due" b,.str "asked" c]:=.cons %[|0] (.cons ⟨_,rfl⟩ (.cons ⟨_,rfl⟩ .nil))
end
abbrev FH(K:W.Frag)(x:Str)(s:Stmt):Prop:=∃f,W.nsIn K mainGlobals x=some (some (.ref f))/\∃fd,Fun K x x s f fd
abbrev MH(K:W.Frag)(C:Addr)(x y:Str)(s:Stmt):Prop:=∃g,W.findIn K (.ref C) x=some (some (.ref g))/\W.isFn K (.ref g)=true/\∃fd,Fun K x y s g fd
abbrev CH(K:W.Frag)(x:Str)(C:Addr):Prop:=W.nsIn K mainGlobals x=some (some (.ref C))/\W.plainGet K C Str.empty=true/\W.hasDictIn K C=true/\W.plainOver K C=true/\W.findIn K (.ref C) "__setattr__"=some (some (.builtin "object.__setattr__"))/\W.makesIn K C=true/\W.keepIn K (.ref C)=true
abbrev HF(K:W.Frag)(C:Addr)(x:Str):Prop:=W.findIn K (.ref C) x=some none
abbrev HZ(K:W.Frag)(x:Str):Prop:=W.nsIn K mainGlobals x=some none
def aW{K:W.Frag}{h:Heap}{mg:#[9]}(X:K.In h)(G:h.Ns mainGlobals mg)(z:FH K x s):∃f fd,Fun K x x s f fd/\mg x=some (.ref f):=by
 erw[f,a,fd,F]at z;erw[f,fd,F,n7 X G a]
def dz{K:W.Frag}(z:MH K C x y s):∃f fd,Fun K x y s f fd/\Meth K C x f:=by
 erw[f,a,i,fd,F]at z;erw[f,fd,F,a,i,F.kp]
def all_mk{l:PySem.W.OpenLaw}{w:World}{K:W.Frag}{h:Heap}{mg:#[9]}{fa fl g C c q d:Addr}(X:K.In h)(G:h.Ns mainGlobals mg)(bC:mg "law"=some (.ref fa))
 {od an:Option Addr}{sl:Array (Option Value)}{oc kV dc pm cd ct:Value}
 {t1 t3 t4 t5 t6 u1 u2 u3 uh:Tok}{ka ja qa pa:Addr}{kd jd qd pd:Option Addr}{j m n o:Array Value}{kn jn qn pn:Nat}{bD bE bF bG:Array (Option Value)}
 {te tm tr vh:Tok}
 (aL:W.nsIn K mainGlobals "law"=some (some (.ref fl)))(lL:K.lookup fl=some %[oc,od,.func (W.fnOf "law" "law" (lc pf) (ik pf) (aj pf) .none kV dc pm an cd ct)|sl])(cL:W.codeIn K cd "law"=true)(kL:W.keepIn K (.ref fl)=true)
 (h0:FH K "is_name" qm)
 (h1:FH K "is_figures" kI)
 (h2:FH K "read_helper" jD)
 (h3:FH K "helper_row" kM)
 (h4:FH K "next_name" lF)
 (h5:FH K "next_figures" iW)
 (h6:FH K "next_term" jt)
 (h7:FH K "term_in_bracket" eZ)
 (h8:FH K "power" wn)
 (h9:FH K "rows_of_coins" iC)
 (h10:FH K "all_settings" iY)
 (h11:FH K "holds_at" kK)
 (h12:FH K "joined" sT)
 (h13:FH K "count_of" oH)
 (h14:FH K "trees_within" iV)
 (h15:FH K "size_of" mK)
 (h16:FH K "names_in" kD)
 (h17:FH K "counts_of" lO)
 (h18:FH K "true_row" oz)
 (h19:FH K "honest" sU)
 (h20:FH K "best_liar" lQ)
 (h21:FH K "differences" jE)
 (h22:FH K "are_wrong" lS)
 (h23:FH K "blind_spots" jG)
 (h24:FH K "let_by_at_most" hU)
 (h25:FH K "caught_rows" jF)
 (h26:FH K "is_field" oG)
 (h27:FH K "inverse_of" kJ)
 (h28:FH K "is_number" lJ)
 (h29:FH K "worth_of" kA)
 (h30:FH K "joined_worth" iX)
 (h31:FH K "degree_of" lN)
 (h32:FH K "look_switches" iD)
 (h33:FH K "look_names" kE)
 (h34:FH K "look_field" kF)
 (h35:FH K "look_size" lG)
 (h36:FH K "value_at" oy)
 (h37:FH K "both_ends" lP)
 (h38:FH K "value_behind" iU)
 (h39:FH K "products" oA)
 (h40:FH K "inverse_factorials" fk)
 (h41:FH K "all_sizes" lT)
 (h42:FH K "value_of" kC)
 (h43:FH K "op_value" oB)
 (h44:FH K "divided" qo)
 (h45:FH K "asked_once" kN)
 (h46:FH K "talked" sO)
 (h47:FH K "weighed" qf)
 (h48:FH K "weighed_behind" fJ)
 (h49:FH K "first_row" lK)
 (h50:FH K "_law_feed" sS)
 (h51:FH K "_law_take" sQ)
 (h52:FH K "_law_names" cG)
 (h53:FH K "_law_tree" ph)
 (h54:FH K "_law_names_of" iL)
 (h55:FH K "_law_degrees" lI)
 (h56:FH K "_law_is_prime" kG)
 (h57:FH K "_law_field" qk)
 (h58:FH K "_law_rows_in" lH)
 (h59:FH K "_law_without" ju)
 (h60:FH K "_law_small" qi)
 (h61:FH K "_law_holds" mN)
 (h62:FH K "_law_count" ql)
 (h63:FH K "_law_mixed" qj)
 (h64:FH K "_law_claims" oF)
 (h65:FH K "_law_most" sR)
 (h66:FH K "_law_all_rows" kH)
 (h67:FH K "_law_played" oC)
 (h68:FH K "_law_others" oE)
 (gmc:CH K "Game" g)
 (dbc:CH K "Doubter" C)
 (asc:CH K "Asking" c)
 (mcc:CH K "Machine" q)
 (scc:CH K "Scan" d)
 (NZ:MH K g "__init__" "Game.__init__" wu)
 (gmmM:MH K g "mix" "Game.mix" zU)
 (gmmW:MH K g "worth_at" "Game.worth_at" sV)
 (gmmC:MH K g "coins" "Game.coins" sW)
 (dbmI:MH K C "__init__" "Doubter.__init__" wz)
 (dbmW:MH K C "waits" "Doubter.waits" sX)
 (dbmU:MH K C "due" "Doubter.due" zW)
 (dbmH:MH K C "hear" "Doubter.hear" wA)
 (dbmT:MH K C "toss" "Doubter.toss" wy)
 (dbmC:MH K C "hear_claims" "Doubter.hear_claims" qp)
 (dbmB:MH K C "begin_rounds" "Doubter.begin_rounds" sZ)
 (dbmR:MH K C "hear_row" "Doubter.hear_row" zV)
 (dbmG:MH K C "go_on" "Doubter.go_on" EX)
 (dbmE:MH K C "look_at_trees" "Doubter.look_at_trees" sY)
 (dbmN:MH K C "twin" "Doubter.twin" wx)
 (asmI:MH K c "__init__" "Asking.__init__" wC)
 (asmP:MH K c "plain_value" "Asking.plain_value" tf)
 (asmC:MH K c "coin_at" "Asking.coin_at" wD)
 (asmN:MH K c "true_numbers" "Asking.true_numbers" qr)
 (asmR:MH K c "true_at" "Asking.true_at" wB)
 (mcmI:MH K q "__init__" "Machine.__init__" wp)
 (mcmS:MH K q "say" "Machine.say" zS)
 (mcmR:MH K q "do_row" "Machine.do_row" zT)
 (mcmN:MH K q "twin" "Machine.twin" wo)
 (scmI:MH K d "__init__" "Scan.__init__" wk)
 (scmE:MH K d "enter" "Scan.enter" sP)
 (scmS:MH K d "sees" "Scan.sees" we)
 (scmT:MH K d "take" "Scan.take" wc)
 (scmW:MH K d "word" "Scan.word" vZ)
 (scmF:MH K d "finish" "Scan.finish" qg)
 (u4:HF K g "switches")
 (gmn_trees:HF K g "trees")
 (gmn_field:HF K g "field")
 (gmn_degrees:HF K g "degrees")
 (dbn_game:HF K C "game")
 (dbn_awaited:HF K C "awaited")
 (dbn_claims:HF K C "claims")
 (dbn_s:HF K C "s")
 (dbn_heard:HF K C "heard")
 (dbn_tossed:HF K C "tossed")
 (dbn_held:HF K C "held")
 (dbn_places:HF K C "places")
 (asn_game:HF K c "game")
 (asn_number:HF K c "number")
 (asn_many:HF K c "many")
 (asn_held:HF K c "held")
 (asn_s:HF K c "s")
 (asn_tossed:HF K c "tossed")
 (asn_truths:HF K c "truths")
 (mcn_game:HF K q "game")
 (mcn_helper:HF K q "helper")
 (mcn_next_round:HF K q "next_round")
 (mcn_boxes:HF K q "boxes")
 (scn_text:HF K d "text")
 (scn_row:HF K d "row")
 (scn_most_within:HF K d "most_within")
 (scn_most_parts:HF K d "most_parts")
 (scn_place:HF K d "place")
 (scn_parts:HF K d "parts")
 (g1:W.nsIn K mainGlobals "LETTERS"=some (some (.str LET t1)))
 (g3:W.nsIn K mainGlobals "LONGEST_NAME"=some (some (.int 6 t3)))
 (g5:W.nsIn K mainGlobals "KEPT_WORDS"=some (some (.ref ka)))
 (g6:K.lookup ka=some %[.type "tuple",kd,.seq j kn|bD])
 (g7:j.size<=100)
 (g8:Vals (kept.map V.str) j.toList)
 (e1:W.nsIn K mainGlobals "WORD_ENDS"=some (some (.str ENDS t4)))
 (e2:W.nsIn K mainGlobals "MOST_WITHIN"=some (some (.int 8 t5)))
 (e3:W.nsIn K mainGlobals "MOST_PARTS"=some (some (.int 20 t6)))
 (w1:W.nsIn K mainGlobals "FIGURES"=some (some (.str FIG u1)))
 (w2:W.nsIn K mainGlobals "MOST_FIGURES"=some (some (.int 12 u2)))
 (w3:W.nsIn K mainGlobals "MOST_ROWS_helptexts"=some (some (.int 60 u3)))
 (j5:W.nsIn K mainGlobals "SIGNS"=some (some (.ref ja)))
 (j6:K.lookup ja=some %[.type "tuple",jd,.seq m jn|bE])
 (j7:m.size<=100)
 (j8:Vals (signW.map V.str) m.toList)
 (q5:W.nsIn K mainGlobals "ASKING_WORDS"=some (some (.ref qa)))
 (q6:K.lookup qa=some %[.type "tuple",qd,.seq n qn|bF])
 (q7:n.size<=100)
 (q8:Vals (askW.map V.str) n.toList)
 (p5:W.nsIn K mainGlobals "PLAIN_WORDS"=some (some (.ref pa)))
 (p6:K.lookup pa=some %[.type "tuple",pd,.seq o pn|bG])
 (p7:o.size<=100)
 (p8:Vals (plainW.map V.str) o.toList)
 (wh:W.nsIn K mainGlobals "LIAR_ROWS"=some (some (.str ("if (= lied 0) 9\nif (= asked 1) 8\nsay (true 0)\nsay (- due (true 0))\nset i 2\nsay (true i)\nset i (+ i 1)\ngo 5\nsay (/ due 2)\nset lied 1":Str) uh)))
 (wg:W.nsIn K mainGlobals "HONEST_ROWS"=some (some (.str ("set i 0\nsay (true i)\nset i (+ i 1)\ngo 1":Str) vh)))
 (xmr:W.nsIn K mainGlobals "MOST_ROWS_weighing"=some (some (.int 4000 tr)))
 (ge:W.nsIn K mainGlobals "FIELDS_END"=some (some (.int 1000000 te)))
 (xmo:W.nsIn K mainGlobals "MOST_ROWS_DONE"=some (some (.int 200 tm)))
 (z0:HZ K "len")(z1:HZ K "range")(z2:HZ K "isinstance")(z3:HZ K "int")(z4:HZ K "bool")(z5:HZ K "list")(z6:HZ K "tuple")(z7:HZ K "max")(z8:HZ K "reversed")(z9:HZ K "enumerate")(z10:HZ K "sum")(z11:HZ K "all")(z12:HZ K "zip")(z13:HZ K "dict")(z14:HZ K "any"):
 ∃fd:FuncData,(∀(s:Shared) (v:Value),BindsTo s fd %[[v]|[]] [("_law_script",v)])/\∀base:Heap,K.In base->base.Ns mainGlobals mg->FnOk l.prog w K mg base CX0 37 fa fd ["_law_script"] (spLaw K):=by
 let e:=bC.symm.trans (n7 X G aL);cases e;refine (?_:∀GG:Prop,(_->GG)->GG) _ id;intro GG kG;let N0:=KY (st:=pf) lL cL kL;exists 1,J9,MQ,h0,u5,LV,h1,rH,LK,h2,u6,LW,h3,y4,Mf,h4,n8,J1,h5,y6,y8,h6,xW,xY,h7,Ms,NY,h8,lE,C5,h9,oo,J2,h10,C6,C7,h11,LX,MZ,h12,C8,Mt,h13,ow,J5,h14,K5,K7,h15,C9,D1,h16,y9,Mg,h17,EV,Mu,h18,LY,M1,h19,A0,Mh,h20,rM,LL,h21,A3,Mi,h22,rX,LM,h23,ly,C3,h24,r6,LN,h25,E1,Mv,h26,u7,LZ,h27,A4,Mj,h28,E3,E4,h29,ox,J6,h30,A5,Ml,h31,l6,E5,h32,u8,L3,h33,u9,L4,h34,A7,Mm,h35,E6,Mw,h36,A8,Mn,h37,oU,J8,h38,E7,Mx,h39,i7,qS,h40,A9,Mo,h41,E8,E9,h42,G7,Mz,h43,K8,MR,h44,vO,L6,h45,L7,M3,h46,K9,MT,h47,lA,lB,h48,Bd,Mp,h49,L8,M4,h50,L9,M6,h51,LD,MU,h52,Ma,Mb,h53,v3,v4,h54,BL,Mq,h55,v5,Mc,h56,LE,MV,h57,B0,Mr,h58,B7,B8,h59,LF,MW,h60,LG,LH,h61,LI,MX,h62,LJ,MY,h63,G9,MB,h64,Md,M7,h65,v6,Me,h66,HV,MC,h67,HW,ME,h68;erw[be,bf,t,u,x,y,z]at gmc;erw[bg,bn,D,J,L,N,O]at dbc;erw[bo,br,U,ab,ac,ap,ar]at asc;erw[bv,bx,as,av,aw,aA,aC]at mcc;erw[bA,bB,aH,aK,aT,a0,a8]at scc;exists 2,M8,M9,NZ,Na,MF,gmmM,Nb,Nc,gmmW,Nd,LO,gmmC,Nf,Ng,dbmI,Nh,N4,dbmW,Ni,N7,dbmU,Nj,N8,dbmH,Nk,N9,dbmT,Nl,Oa,dbmC,Nm,Nn,dbmB,No,Ob,dbmR,Np,Nq,dbmG,Nr,Oc,dbmE,Nt,Od,dbmN,Nu,Nv,asmI,Nw,Oe,asmP,Ny,Of,asmC,Nz,Og,asmN,NA,Oh,asmR,NB,NC,mcmI,ND,Oi,mcmS,NE,Oj,mcmR,NF,Ol,mcmN,NG,NH,scmI,NI,Om,scmE,NJ,NK,scmS,NM,On,scmT,NN,Oo,scmW,NO,Op,scmF;let B:Bl mg:=%[rd X G z0,rd X G z1,rd X G z2,rd X G z3,rd X G z4,rd X G z5,rd X G z6,rd X G z7,rd X G z8,rd X G z9,rd X G z10,rd X G z11,rd X G z12,rd X G z13|rd X G z14]
 refine kG ?_;erw[W.fnOf "law" "law" (lc pf) (ik pf) (aj pf) .none kV dc pm an cd ct,λs v=>.of_eq rfl,λbase _ _=>?_];let b:=@Cal.of l.prog w K mg base;let TG:GTxt K mg g:=%[%[bf,t,u|x],u4,gmn_trees,gmn_field,gmn_degrees|n7 X G be]
 let T:DTxt K mg C:=%[%[bn,D,J|L],dbn_game,dbn_awaited,dbn_claims,dbn_s,dbn_heard,dbn_tossed,dbn_held,dbn_places|n7 X G bg]
 let TA:ATxt K mg c:=%[%[br,U,ab|ac],asn_game,asn_number,asn_many,asn_held,asn_s,asn_tossed,asn_truths|n7 X G bo]
 let r:MTxt K mg q:=%[%[bx,as,av|aw],mcn_game,mcn_helper,mcn_next_round,mcn_boxes|n7 X G bv]
 let TS:STxt K mg d:=%[%[bB,aH,aK|aT],scn_text,scn_row,scn_most_within,scn_most_parts,scn_place,scn_parts|n7 X G bA]
 let TX:Tx K mg:=%[%[t1|n7 X G g1],%[t3|n7 X G g3],%[ka,n7 X G g5|λ_=>.inr %[_,j,kn,g6,1,1,hE g7 (cx ⋯)|g8]],%[t4|n7 X G e1],%[t5|n7 X G e2],%[t6|n7 X G e3],%[u1|n7 X G w1],%[u2|n7 X G w2],%[u3|n7 X G w3],%[ja,n7 X G j5|λ_=>.inr %[_,m,jn,j6,1,1,hE j7 (cx ⋯)|j8]],%[qa,n7 X G q5|λ_=>.inr %[_,n,qn,q6,1,1,hE q7 (cx ⋯)|q8]]|%[pa,n7 X G p5|λ_=>.inr %[_,o,pn,p6,1,1,hE p7 (cx ⋯)|p8]]]
 let Oq:=M8.binds (ps:=["self","switches","trees","field"]) ‹X.a›;let MG:=Na.binds (ps:=["self","numbers","s"]) ‹X.a›;let NQ:=Nb.binds (ps:=["self","point","s"]) ‹X.a›;let LP:=Nd.binds (ps:=["self"]) ‹X.a›;let MI:=Nf.binds (ps:=["self","game"]) ‹X.a›;let Os:=Nh.binds (ps:=["self"]) ‹X.a›;let Ot:=Ni.binds (ps:=["self"]) ‹X.a›;let Ou:=Nj.binds (ps:=["self","values"]) ‹X.a›;let Ov:=Nk.binds (ps:=["self","r"]) ‹X.a›;let Ow:=Nl.binds (ps:=["self","values"]) ‹X.a›;let NR:=Nm.binds (ps:=["self","s"]) ‹X.a›;let Ox:=No.binds (ps:=["self","values"]) ‹X.a›;let NS:=Np.binds (ps:=["self"]) ‹X.a›;let Oy:=Nr.binds (ps:=["self"]) ‹X.a›;let Oz:=Nt.binds (ps:=["self"]) ‹X.a›;let OB:=Nu.binds (ps:=["self","game","number","many","due","s","coins"]) ‹X.a›;let OC:=Nw.binds (ps:=["self","word"]) ‹X.a›;let OD:=Ny.binds (ps:=["self","place"]) ‹X.a›;let OE:=Nz.binds (ps:=["self"]) ‹X.a›;let OF:=NA.binds (ps:=["self","place"]) ‹X.a›;let MJ:=NB.binds (ps:=["self","game","helper"]) ‹X.a›;let OG:=ND.binds (ps:=["self","many","due","s","coins"]) ‹X.a›;let OH:=NE.binds (ps:=["self","place","said","asking"]) ‹X.a›;let OI:=NF.binds (ps:=["self"]) ‹X.a›;let OJ:=NG.binds (ps:=["self","text","row","most_within","most_parts"]) ‹X.a›;let OK:=NI.binds (ps:=["self","within"]) ‹X.a›;let NT:=NJ.binds (ps:=["self","signs"]) ‹X.a›;let OL:=NM.binds (ps:=["self","signs"]) ‹X.a›;let OM:=NN.binds (ps:=["self"]) ‹X.a›;let ON:=NO.binds (ps:=["self"]) ‹X.a›;let pe:=b L8 (Dd L8 B.len) M4 ‹X.a›;let aP:=b L9 (Da L9 ) M6 ‹X.a›;let oX:=b E1 (yt E1 ) Mv ‹X.a›;let gA:=b u7 (uQ u7 ) LZ ‹X.a›;let gG:=b A4 (wU A4 B) Mj ‹X.a›;let f8:=b E7 (ym E7 ) Mx ‹X.a›;let gB:=b i7 (lq i7 B f8 gA) qS ‹X.a›;let i8:=b oU (rA oU B f8 gB) J8 ‹X.a›;let dj:=b E6 (yj E6 B i8) Mw ‹X.a›;let m5:=b A8 (wY A8 dj) Mn ‹X.a›;let a7:=b ow (rB ow ) J5 ‹X.a›;let jO:=b K5 (tR K5 B K7 a7 10) K7 ‹X.a›;let f7:=b C9 (qW C9 D1 a7 10) D1 ‹X.a›;let eY:=b ox (rD ox ) J6 ‹X.a›;let gO:=b E3 (qU E3 E4 eY 10) E4 ‹X.a›;let mq:=b A5 (wW A5 B.max f7) Ml ‹X.a›;let i3:=b l6 (qA l6 B.enumerate) E5 ‹X.a›;let ki:=b u8 (uL u8 f7) L3 ‹X.a›;let km:=b u9 (uM u9 %[te|n7 X G ge] oX) L4 ‹X.a›;let mr:=b A7 (wR A7 B.max) Mm ‹X.a›;let sN:=b LD (Ai LD B.range aP) MU ‹X.a›;let iy:=b Ma (vn Ma B.len Mb aP 10) Mb ‹X.a›;let gN:=b v3 (nV v3 v4 10) v4 ‹X.a›;let gi:=b BL (wT BL B gN) Mq ‹X.a›;let ky:=b v5 (uN v5 B) Mc ‹X.a›;let iK:=b LE (Al LE ky) MV ‹X.a›;let b9:=b B0 (wS B0 B) Mr ‹X.a›;let ib:=b B7 (pI B7 B8 B 10) B8 ‹X.a›;let uE:=b LF (Ah LF B aP sN iy gi iK b9 ib) MW ‹X.a›;let iP:=b LG (tT LG LH 10) LH ‹X.a›;let c9:=b LJ (Aj LJ ) MY ‹X.a›;let uV:=b LI (Am LI B iP) MX ‹X.a›;let kz:=b v6 (uO v6 B) Me ‹X.a›;let pj:=b G9 (yr G9 B aP c9) MB ‹X.a›;let C1:=b Md (Dc Md B b9 gi) M7 ‹X.a›;let m4:=b A9 (xf A9 B TG jO) Mo ‹X.a›;let OO:=‹FK.p› M8 TG B.tuple B.len mq i3 ki km mr;let ML:=‹IR.p› Na TG B.reversed;let NU:=‹Dh.p› Nb TG MF ML MG gO;let LQ:=‹Di.p› Nd TG B.len;let OP:=‹Dk.p› Nr B T TG Nc NU NQ m4;let NV:=‹KD.p› Np B T TG Oc OP Oy;let NW:=‹Dl.p› Nm T TG MF ML MG Nq NV NS;let OQ:=‹Ap.p› Nl B T TG Nn NW NR;let OR:=‹IS.p› No B T TG m5;let OS:=‹FO.p› Nj B T TG gG Oa OQ Ow Ob OR Ox;let OT:=‹FM.p› Nk B T TG gG dj Nn NW NR Nq NV NS;let MN:=‹FN.p› Nf B T TG;let OU:=‹Dj.p› Nh T;let OV:=‹IT.p› Ni T;let e6:=b oo (rE oo B.range) J2 ‹X.a›;let i9:=b LX (De LX ) MZ ‹X.a›;let gP:=b C6 (qX C6 C7 i9 12) C7 ‹X.a›;let oY:=b C8 (yu C8 B.len e6 gP) Mt ‹X.a›;let gH:=b y9 (wX y9 TG oY) Mg ‹X.a›;let oZ:=b EV (yk EV B TG Nc NU NQ e6) Mu ‹X.a›;let sL:=b K8 (Ao K8 gA) MR ‹X.a›;let gQ:=b G7 (yo G7 sL) Mz ‹X.a›;let OW:=‹FQ.p› Nu B TA;let OX:=‹Dm.p› Nw TA TG;let OY:=‹FR.p› Ny B TA TG;let OZ:=‹Aq.p› Nz TA gH oZ;let O0:=‹FP.p› NA B TA TG Og OZ OE dj;let AF:AskF l.prog w K mg base c g _ _ _ _ _ _:=⟨Oe,OX,OC,Of,OY,OD,Oh,O0,OF⟩
 let dy:=b E8 (qV E8 E9 TA TG AF gQ 5) E9 ‹X.a›;let MO:=‹FJ.p› NB r;let O1:=‹IQ.p› NE B r dy;let O4:=‹IP.p› ND B r TA %[tm|n7 X G xmo] ⟨ap,Nv.1,Nv.2,ar⟩ OW OB Oj O1 OH;let Y:Ways l.prog w K mg base C q g _ _ _ _ _ _ _ _ _ _:=⟨N4,OU,Os,N7,OV,Ot,N8,OS,Ou,N9,OT,Ov,Oi,O4,OG⟩
 let a9:Mk K C _:=%[N,Ng.1,Ng.2|O]
 let bb:Mk K q _:=%[aA,NC.1,NC.2|aC]
 let O5:=‹FL.p› Nt T a9 MN MI;let O6:=‹FI.p› NF B r bb MO MJ;let Z:Twins l.prog w K mg base C q g _ _ _ _:=%[Od,O5,Oz,Ol,O6|OI]
 let b7:=b vO (uS vO B T r Y) L6 ‹X.a›;let C0:=b L7 (CY L7 B T r Y a9 MN MI bb MO MJ b7) M3 ‹X.a›;let kh:=b Ms (FG Ms B) NY ‹X.a›;let dO:=b lE (qz lE TG LO LQ LP kh) C5 ‹X.a›;let gJ:=b Bd (wV Bd B TG LO LQ LP) Mp ‹X.a›;let fh:=b lA (jx lA lB B T r TG Y Z b7 gJ 8) lB ‹X.a›;let lD:=b K9 (Af K9 T r %[tr|n7 X G xmr] a9 MN MI bb MO MJ dO fh) MT ‹X.a›;let O7:=‹FF.p› NG TS;let O8:=‹CZ.p› NI TS;let NX:=‹FE.p› NJ TS;let O9:=‹FD.p› NM B TS NK NX NT;let Pa:=‹FC.p› NN B TX TS;let Pb:=‹Ag.p› NO B TS;let M:Mths l.prog w K mg base d _ _ _ _ _ _ _ _ _ _:=⟨Om,O8,OK,NK,NX,NT,On,O9,OL,Oo,Pa,OM,Op,Pb,ON⟩
 let f9:=b J9 (An J9 B TX) MQ ‹X.a›;let c8:=b u5 (uP u5 B TX) LV ‹X.a›;let eI:=b y6 (pG y6 y8 xW xY B TX TS M f9 c8 8) y8 ‹X.a›;let nQ:=b y4 (wQ y4 TS M f9) Mf ‹X.a›;let g9:=b n8 (rC n8 B TS M c8) J1 ‹X.a›;let lh:=b u6 (uR u6 TX TS M %[a0,NH.1,NH.2|a8] O7 OJ nQ g9 eI) LW ‹X.a›;let f6:=b rH (tS rH B TX lh) LK ‹X.a›;let jC:=b A0 (wZ A0 B ⟨uh,n7 X G wh⟩ f6) Mh ‹X.a›;let C2:=b LY (Dg LY ⟨vh,n7 X G wg⟩ f6) M1 ‹X.a›;let fY:=b rM (tU rM B TG gH) LL ‹X.a›;let cP:=b A3 (xa A3 B fY) Mi ‹X.a›;let b6:=b rX (tW rX B TG MF ML MG fY) LM ‹X.a›;let j4:=b r6 (tV r6 TG) LN ‹X.a›;let iA:=b ly (pH ly B TG kh dO j4 cP b6) C3 ‹X.a›;let qR:=b HV (yp HV B TG LO LQ LP kz C0) MC ‹X.a›;let qe:=b HW (yq HW B TG c9 cP b6) ME ‹X.a›;let bH:Mk K g _:=⟨y,M9.1,M9.2,z⟩
 exact KC N0 B TG bH OO Oq LO LQ LP pe uE uV pj c9 C1 b9 qe qR jC C2 iA cP b6 lD
def walk{l:PySem.W.OpenLaw}{q:Program}{loose:List Str}{e:(#[9])->Heap->Prop}{c:World->Heap->Prop}{d:DefRec}{K:Params->PySem.W.Frag}(g:l.most=some 63)(b:d.params.defaults=[])
 (j:∀(w:World)(h:Heap),c w h->(K w.params).In h)
 (F:∀(w:World)(mg:#[9])(fa:Addr)(h:Heap),(K w.params).In h->h.Ns mainGlobals mg->mg d.name=some (.ref fa) ->
  ∃fd:FuncData,(∀(s:Shared) (u:Value),BindsTo s fd %[[u]|[]] [("_law_script",u)])/\∀base:Heap,(K w.params).In base->base.Ns mainGlobals mg->FnOk l.prog w (K w.params) mg base CX0 37 fa fd ["_law_script"] (spLaw (K w.params))) :
 PySem.W.WalkO q loose e c l.row.toRowW d [] (λf vs=>PySem.call f vs):=
 L2.walk_of (n:=63) (k:=37) (x:="_law_script") (CX:=λ_=>CX0) (sp:=λw=>spLaw (K w.params)) g ⋯ b %[1,1,4|4] j F (λ_ _ a ns hl _ m=>%[a,ns,1,m,hl|λ_=>rfl]) λ_ _ _ _ _ z=>z
end Mine
namespace PySem.W.Fast
example:="019ubDImlLq5GYgNUs1ZGzKBqcvfDMvJOIN2ykNOz8fZHg4aSTI0zsa31Vs226WI057Ftz6ruDyD41Dr2mndrPFyHARUl4WIoFT6vvBeCZ1Pf25mgdecZgV1N8sq6HPKYxJl9eIu1SjyEKQFl3DPYtpx6F8EqWJZQ1ioe9GVxVbohC5N1DY7gVdYaotIAooUEHfnHWKwnZfwg3tNoB7LEFjuEJfv06OfCxo4bIY1UIU2KjwO19K6rMgvgCy5fArlXA8KpzrWL9MdWPja7nk0rZD3hLXIzF9DXrmL5iRGwIdYuXAhK00BIDR7p8GSSeUDmLvnYqJ006J8aE8h9Bi9nFOGrjUyqmn8JC7rhhFnYLGIBnJjNVgtEHKk0vRtlp1xhK60mQODG6nL8ROCtpTNPHXCaEuh2lpvqeHxOMvVGchXn6LrlhIAPi1nIwMMHzlsGa68CHHeRW9fqbJnvCqdgN1bqAcqT52KrZJy6Gw8M7BOVA5ATSqSotkD1fEa2CulmgagPBWkhzNkEgrS9exy1VA3pKEHOphxkUgbpEEGFVQ5EZF13JqT0cSFpnXd9pJ9jVImtU71oiZvWZjdfK9ckaoWrAgXS6YaolxMKsKK8ry9otdNb7jIwS2dbJO7PU86rzODjtK6MCVRc5tajSzXJalonLPaX2H64BsUIwn5R1ADSJNN6T0Cs3tehmmsSElXFNzVqcdanJp3dwaaw5THUi2kiB8JLqIf5Lo65ImuSEs4E5qdQC5bEQ280onzGgAWW38QjoE9okxrj1PWUUjjZ35HEhyaDTTHlZL5oLCAqRtVIP7OJfO9kF58LFLlXkuba5EQKDKisjowwfL5iqSDav8uXWLTbPv9tl5ld9euh3Lqq5mR03jAxzc1SBG9nU8KZZWSsw3zmADIGtMIFLXhn0CUjtzeAcjRtMvkZJJImmVaci4pBQC7IZMosyiuk6BIgMxvYIvoHDaVIqhQHc0GW1Njz5TnYT1R8HAiYulyR4Bd4H45nPNS36LcqSvWNWo6NScF7xhJvpGWSMoaQ7v7i15yY46gz1kh1jKMp329dsJ40NrwE9KS7Q4Uk8YInOCEzJLTLK7KxoKyE9qx2uu4FfEKoqfjCYOXOVBwmXp8VCVVG89ERbvuTNqJBcquUoV4xcjKa9003MVVFWGxBicl2kls4BEwU2wDsEpN4Le2iDu9DyIHalh5wPNXOC5DHLI5EDmQU0p2QmZtOPN65zlAhqTph5PHEuMct0PyAV6Ea8Ig4Dio10TmP9LBp356IgYRZlHTvrVJJYjYwg4S3sFR4orYtw1qu9kvgM1Egd7V3YVpXxjP0Ts3CTQOLjkDeV7LDtlrbvNxUCOfD92tUjaPHJdDuhXfSlZ2e0KpD3lrYw4LNP73qVE3g3xOcoVZDFlz0QwmJRo70JzIkD55sSf4NcJ9PnMctT7mmKfaqP6hBF2tID2cq573Pa66O9TLTBKwGy2IZDrKA2hlr4WzoFRmFc0SCVSLOs8VMwOJNQH9MATCnKFdxpzHRQnRm2T2BqmiAdE48day1y7nfAlJrK7Dl5ikHuH8tn58vzsl10Ahbtgk7mwY4UVD6PBKqO16c0q4BLJzmP5wXdHHBzNEP504mH3dtL3YDzKOvpYhaUt5egDcWKRd6BJpzkuAe1hqwHNJNUmNvTlJHGrhsVbxBRALF2K7zEeH2X8hTQasQpNBeFB3GS9FH9Ya5oMZBnQvG2B3fQzuXl64bkFZbu6dTszV8LVFAqzgh4naFa4c0SFM7bgAwB2PPyzYeDIjl59HDkCyF4sxab0cOWMh4zhhM0PhbwA49uSCejIezIEFuLYdgdXZA9zajO7ccEC25bt2IhKOUOO2LBZlaNx0PxL4z85MtcTG20fssw6uaM6bBmLCbx4Yj2l4Ti0mKW5BOfH5PJm4Qtsl07cyjzsUPlNlBPtoKcyxR9FFgyOOH4Ptdm5DjAvRzoEJy3XEOk52iksxINdZqlbrQg32eiV7hQ8gNgG7Pk8LtXB2tL9HK3pqzV417bzevvZnhWdD9DWFpL6zNq5t0iibeOlxCAMBWcJKi4pv99ATO6s23KH1wjH4kJdPPtHed26fL7EBK3Tb4t1KF2sp3qMQhTvf7Ay2L2uIqsNND37dOr92MYa543HCU4kejiGnEXH9tWrN1CtGaFCZGmYw6G0H9TgEn4trJ10rI3L1x9QH54Ra3teY7QbCANweUfvqFN4XnXroJ0uhx06CKHdW0ZP8LDdrKyZjghjKDvmGtlj8H8HXJWqKyrHde0j0saIzrz8WHpj5UVw6mFO6hDEQ5cJW9VIs3WDJ5PMzY7RsZjQHDyzk9ojwA0bKDZw9Ztdb1Ieo9BHj3lOyHJ3d1721zQqLt9r5FkhvOiSgBRACMQ8HvfU0HQJVL3ltgZh5d6yWIhIDObdi8Fs8GvMSbE2LxVVbbxUlYPG9qLeZOj6EM4fZBye6zCdv604mtF4V2xR7JKzQIRop2rIx2xdACO2JzBfSOvT7GeGOJXTDuXbKO26CmlyYPUiKg13OaUoV0ZuDF00XcJjF477nGdu69ETiwdKCYylVKTOgkwD016DdViLGhAeiUymlvt0VCwvGzmyZmbdEqTj9eT5D5jKiL14Wnw4lpCGoV8j1ddBOD9veUsilzSmLRxTkJyBhjp8hU4aZzSq9Y7KvkfnepKC0KGYBwjExhbqGWXnUn27ged8HlARmp6mLP9Zw64yzUSojESpv9BEzLSx4tR3HcJ0K7w1lfUU0aWXtQGGHueQwCVgQ92pdEprPfmm04BnLVcaCja8EIXOliLVhsCJ6vKFoMECy3NnATA5Uo7h192kWDPdyXkDgr1WFjpkl6IXwswHFUkq21aSRkRCvfJm0wEc51a8ty26qnKktOYzN58EenvKka2pB844twRiKqBr7gptNCzd2Xb5wSAQkWyOEV55oHJWpN9HW0SmijiHNReBBRurlTV4tCvJpqeg9m14n7Lnil3MZDs1DDzHTZbgfTo90cJiYZR4TQqLKoz5PmZ2tCGk135YIHHNfFu9hwUoBn14EFrqKjTTUbH8Uf3x50SL249xjPs6xPbKcFizaOTdN955FSQ3LAHsXdk6um7CMusYeiGmSL587avtT0AdfBrdrJ023nOPEDy4Zhc56J5h58TQwIAAf7Tathukv8Ohsw98cPTzIaF3Dw5Z1GA3VrZ5LnLqIP9ZKfQTF7gaHF209cL9trk57z3alt6mhpNApGCgGJTTE0E8d0nkEPmBl5p6nzWShG26CVdfsDzuOSdHpLcBKEwoSqHjIOZLw1AQFJycTJ0sCc9fEfTK19d1oNt4uiLjnxZ6PaIuvwZlh4NDP6iV0jlyMetu5iJogpG3HXN3DEHrvXaaUlLgp6ddx4W4aCa0NXZlhsQL9737s35W8L3EnGe6lDkoktGRcsX5CeftM62wwtx70yCu3Ij8xaRCSiHKaK3ZDx3UyV6vZO7mBHbgqKo2gSOIet96I48vTR7SPwY5FtooxFN50oJRwayECHTS6BRxlLHfjhJM4YOgkw8Iypw9fervtjVZzBDfWWwCrxQvBBEQrI0O4mM3FMjzBhXYk86EF1ImMUH9V8AvcRZ9sd5nDC0RULrmxn0T2CqjmizHiB1BcLPra7stk15QUSj3BQfWr6rJF0AwghWbCVOrjpcdUyNBNtq16MozBfKU73ufVp0m3HrsUwKIGJ8kK2ze7ACNYRk3n3D3LmYvxa2K8eI1VtSXH7GwztsUOxIsI1PzPzO9jSLFJFgn3jFafrLcjCktWPIiXFAOUVbEn7sa5BOUw7OVnp4H0YgGhd8sqH6NhHv9WypFr8DdE86syG928TbJVQJydiu3daF6ajZC61FwbrT3oi1a1AQNnieRRLFIC1xidxdTLKv0BSlAU0IY8m4eXBdcvwWIzEEyV1I8kXVlDA6KX0KMqeM9TtBAWhoG7W3maWMmDXiy86HwQDbROBcQ9jokZYb2OgO4fClT4mVFp5DVCN1DPDaFN8gaE7jwXHXwCaobM7DL1u4LnpDa6leOq98RCtzVZzZdzBlvFfmjznKHAyq2OLv9xrf9ZJQY1E1aX7I48GZfP4a6XBYLUO3D0d1Y2EPShaeF4VQCwU0AI0bsGN0DLT8wQI8Kh0jziGKxy2RABLHhEaNElHxD1YZkDBP2V8JILxCIqAx4o1j6c1izMK3n51PBMPIGMpIHnvBGalWKh8ATIcCMAGQlF633RNtLsGyaCOXGJyK5aISCURJeCzNUKF8y759txJZ9LGZnEyj90UuA6Wuv1fTCljtCn2nkTUp9AyKH5cAnLFwjV93CjP6hEDJ9673JckA8NG2ByWdxRnNcWz2MOad3cglYC6LzisLC8eKxKo2G4JwwxDy0hLCLWmHdsuLyGyg7bzXFIHgsJjRQOgvX9qOObPJXu4xCsZYB2VwKDrKazR8vpz0tuBhHuO9WYW4NEBYxeU02695IXy6NUT2pnr1wd0cjPJfkA8jAJAkeSPeOH2K2FrsU0kuHSJCG3pvHN86igShIrV6h6HHHimk28YYJDB9a4eScGLUEit0CQphbGKILYcVdTmrKuFBWsEdNoxJ16I6cftCQz3QA4ag8ut6Uka63tM0qWjTgx4QbXKuvty03Guq6b9dUhdEJ0Pcny2luXLCCRcUC1aD4dIU7J2GB4ph7LE24CXuhiGaK9fKW6TjsRrD4rp33wwUrDIcO9G832YcK5sRfEmuKCzdA7xc8Ubjoej5JL0roR50joFawQcHuTGtN7TMOnhytnXE2qp8n8XVnjeHwLvWtat11C6gspS3KIHSOK3uTjrgxgu4AQ6cJ9IwDjuKlkKDKcFzsBCTfd8M7ky8iJq6HkaAKv91HwP8mONt2OJEvUkmSyOhI637MNW74MzrbJDCEEYiESwG3x3bu3iRwoZI2tWFc6CVs41ccdA0jky9y3WtD5xE0r3V9PyOHRM7AFk9oL3q3BYvTmARBZOVfYoMXJKUOjt2irP9DxSh2BbIeL47hC979zajf9Lv7F2tYDPIzG45R8ico7ISI4gMmf3OZhrE0HC4Bnfi8y5ruwVGujgo2GQ8TzShRyTZBHlkbl7giu20S3IF7d2Eci4CWobLdvkt60cxdARkQte35NPBBRgC9jrLHpCOebsJwbEzu7LR5H8HDHVjyvB4MiiKIXQ0OWfVDu25r6B37NHD3fIywhgVTSRgPL04seZr9ejL5g1spDhcDsxCGTQIhqt928FmJOEbVBgac4Z4uEnV7PapDjdqukFIKefB7zcNi3BtzF5PksIfkF3T4IdPtMyNvasgAGWV5x96kCJ1JkoXk5dRYi4QwsLjNhzxCEounW1hZeVdBdBCinbtwtaE3C5bO2zsXa5Qq50wEPGaI003UySBKc4H2P5sZF2VmGf0HuoAtkTMR29DrTjqPDio5HxWFSprsyNyG9kVuF0fa28KPq9FoE9AjaCNf0HSB9YWhH2WtS6AJe4UG7rl3stbKKYGtG1xHByTfSJuKELaBT94N0EZowVHBtga2ODaVAUuJ9T7pNlwLIvTI1E4iATon9h7kCnybDVh4zs4Bfuh47Cgwxl5J1OLBenLB87R41YwQPIZL3mCkHdstqz2L1fanJiCrY1EdJ7K50QzR046WYSXpVg7i3g9gEDso9wDCqYmG7nTVe20aSChHQhCnYAAdo6Mo3q1ZFnnzuVW6D9SEFluF9WKHuM237N7bT3vy9DN0RqQUWikE6xJS7TscM3tEobQJfYVBKgKyVyxcyTr136CvD8VVdV2vAMgyLKRmRmzH2GDXiD630o3Um2urKoZvm8HMBqpbKk8n5SbMdaWbcnCFi7sd2cgtbX998Srv4AZiu1UQYPK9gl9yAQ4IaOFRGkhD2g0sOdspkPLoRS1pQKQveHhzUZRwVsOH2M4NRIxyy0GHrfmpE4hBnz9aMBD1ckbkUIKngDMMa2ojJk4kM92eCE3H9Z245YBtdgCoJPH6KUXAeB10XMOaCVv5EoOhezymD4aDR6zpPiRWixH6SXk3ppgkdIrRTm6QitaR5ust6MSBAGJ1TE0uE4cTwbCwyu9QOEEnaDJUZK8wlQyZ7lEzM3JjTFqGP1Otx4JsJo28eVJzpgicf2TLHxA99raE6to8BvDJn2cCdufZ7ucNdpGoKk8GhYHOgBqgEouFdHs1EfPfvfbl95sEqMxz7TlaqO8vaaeYE9OMUHKrmUoUMdqQ1zTSBG83SpVA9ZNzZEMSBrF5iUUY2LATf4q1oce4Aepa12OxtFiAOFf2SYYlWfYclDCnAycuShux3LqrtnHc0ZnW2ybpKHLDJsWEocWkq2tE0oE2lTZtc8h8t1Y339Me3xGuEJtStY2aZYGCnT62T4w78i9MOZxlel8xPHny8XnlOaFh0gzSnffpHQRIgeVxmEANzVB5AcmJEvWYPAO3vOX4OY040bmh54cFvDYJKPRkKp1sVsDl4X20TGF236gBjQZ0vAi5BV5gtnGS9WX15UUGTUdOBu0Soonyznwfz3RwHbb4Wgtm5jB9ZtsyJSM02bQPoUyFppJYfryeDXFpZCmCVSUNtnw3HQre0Cv4uzCHwcYUxeuYIiKVSYUhBX5eC"
end PySem.W.Fast
open PySem PySem.W PyProof.Rows
set_option maxRecDepth 100000 in
set_option maxHeartbeats 0 in
theorem PySem.Challenge.cw_asktally_k82_whole_best_liar_just_at_mos_holds : PySem.Challenge.rw_asktally_k82_whole_best_liar_just_at_mos.Holds := by
 w_on; o_law; k_head; (case hw=>w_witness2)
 k_fill
 apply Mine.walk (l:=PySem.Challenge.rw_asktally_k82_whole_best_liar_just_at_mos) rfl rfl (λw h Y=>PySem.W.kIn_of Y) ?F
 case F =>
  intro w mg fa h KX G hmg
  refine' Mine.all_mk KX G hmg ?aL ?lL ?cL ?kL ?h0 ?h1 ?h2 ?h3 ?h4 ?h5 ?h6 ?h7 ?h8 ?h9 ?h10 ?h11 ?h12 ?h13 ?h14 ?h15 ?h16 ?h17 ?h18 ?h19 ?h20 ?h21 ?h22 ?h23 ?h24 ?h25 ?h26 ?h27 ?h28 ?h29 ?h30 ?h31 ?h32 ?h33 ?h34 ?h35 ?h36 ?h37 ?h38 ?h39 ?h40 ?h41 ?h42 ?h43 ?h44 ?h45 ?h46 ?h47 ?h48 ?h49 ?h50 ?h51 ?h52 ?h53 ?h54 ?h55 ?h56 ?h57 ?h58 ?h59 ?h60 ?h61 ?h62 ?h63 ?h64 ?h65 ?h66 ?h67 ?h68 ?gmc ?dbc ?asc ?mcc ?scc ?NZ ?gmmM ?gmmW ?gmmC ?dbmI ?dbmW ?dbmU ?dbmH ?dbmT ?dbmC ?dbmB ?dbmR ?dbmG ?dbmE ?dbmN ?asmI ?asmP ?asmC ?asmN ?asmR ?mcmI ?mcmS ?mcmR ?mcmN ?scmI ?scmE ?scmS ?scmT ?scmW ?scmF ?u4 ?gmn_trees ?gmn_field ?gmn_degrees ?dbn_game ?dbn_awaited ?dbn_claims ?dbn_s ?dbn_heard ?dbn_tossed ?dbn_held ?dbn_places ?asn_game ?asn_number ?asn_many ?asn_held ?asn_s ?asn_tossed ?asn_truths ?mcn_game ?mcn_helper ?mcn_next_round ?mcn_boxes ?scn_text ?scn_row ?scn_most_within ?scn_most_parts ?scn_place ?scn_parts ?g1 ?g3 ?g5 ?g6 ?g7 ?g8 ?e1 ?e2 ?e3 ?w1 ?w2 ?w3 ?j5 ?j6 ?j7 ?j8 ?q5 ?q6 ?q7 ?q8 ?p5 ?p6 ?p7 ?p8 ?wh ?wg ?xmr ?ge ?xmo ?z0 ?z1 ?z2 ?z3 ?z4 ?z5 ?z6 ?z7 ?z8 ?z9 ?z10 ?z11 ?z12 ?z13 ?z14
  case aL|lL|cL|kL=>k_is
  case h0|h1|h2|h3|h4|h5|h6|h7|h8|h9|h10|h11|h12|h13|h14|h15|h16|h17|h18|h19|h20|h21|h22|h23|h24|h25|h26|h27|h28|h29|h30|h31|h32|h33|h34|h35|h36|h37|h38|h39|h40|h41|h42|h43|h44|h45|h46|h47|h48|h49|h50|h51|h52|h53|h54|h55|h56|h57|h58|h59|h60|h61|h62|h63|h64|h65|h66|h67|h68=>exact%[_,by k_is,_,%[_,_,_,_,_,_,_,_,0,by k_is|by k_is]|by k_is]
  case gmc|dbc|asc|mcc|scc=>exact%[by k_is,by k_is,by k_is,by k_is,by k_is,by k_is|by k_is]
  case NZ|gmmM|gmmW|gmmC|dbmI|dbmW|dbmU|dbmH|dbmT|dbmC|dbmB|dbmR|dbmG|dbmE|dbmN|asmI|asmP|asmC|asmN|asmR|mcmI|mcmS|mcmR|mcmN|scmI|scmE|scmS|scmT|scmW|scmF=>exact%[_,by k_is,by k_is,_,%[_,_,_,_,_,_,_,_,0,by k_is|by k_is]|by k_is]
  case u4|gmn_trees|gmn_field|gmn_degrees|dbn_game|dbn_awaited|dbn_claims|dbn_s|dbn_heard|dbn_tossed|dbn_held|dbn_places|asn_game|asn_number|asn_many|asn_held|asn_s|asn_tossed|asn_truths|mcn_game|mcn_helper|mcn_next_round|mcn_boxes|scn_text|scn_row|scn_most_within|scn_most_parts|scn_place|scn_parts=>delta Mine.HF; k_is
  case g1|g3|g5|g6|e1|e2|e3|w1|w2|w3|j5|j6|q5|q6|p5|p6|wh|wg|xmr|ge|xmo=>k_is
  case g7|j7|q7|p7=>decide
  case g8=>exact Mine.kept_vals
  case j8=>exact Mine.sign_vals
  case q8=>exact Mine.ask_vals
  case p8=>exact Mine.plain_vals
  case z0|z1|z2|z3|z4|z5|z6|z7|z8|z9|z10|z11|z12|z13|z14=>delta Mine.HZ; k_is
