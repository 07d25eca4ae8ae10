import PyProof.Rows.All
import Wide.All
import OpenK.AllK
import Wide.FinOn
import Lean
import PyProof.EqAt
import PyProof.EqKinds
import PyProof.TupleCall
import PySem.Challenge.RW_asktally_k32_the_first_row_that_is_none
set_option Elab.async false
set_option linter.all false
set_option maxRecDepth 100000
namespace L2
open PySem PySem.Spec PyProof.Rows
abbrev Key:=Sum Int Str
def keyIs:Key→Value→Bool
  | .inl k,v=>Value.isInt k v
  | .inr x,v=>Value.isStrOf x v
def keyH (w:World):Key→Int
  | .inl k=>hashInt k
  | .inr x=>hashStr w x
theorem keyIs_shape:∀ {k:Key} {v:Value},keyIs k v=true→(∃ i t,k=Sum.inl i∧v=Value.int i t)∨(∃ x t,k=Sum.inr x∧v=Value.str x t)
  | .inl i,v,h=>by
    obtain ⟨t,e⟩:=Value.isInt_shape (k:=i) (v:=v) h
    exact .inl ⟨i,t,rfl,e⟩
  | .inr x,v,h=>by
    obtain ⟨t,e⟩:=Value.isStrOf_shape (x:=x) (v:=v) h
    exact .inr ⟨x,t,rfl,e⟩
theorem key_ll (a b:Int):decide ((Sum.inl a:Key)=Sum.inl b)=(a == b):=by
  by_cases e:a=b
  · subst e; simp
  · have h:¬ (Sum.inl a:Key)=Sum.inl b:=fun q=>e (Sum.inl.inj q)
    rw [decide_eq_false h]
    exact (beq_eq_false_iff_ne.mpr e).symm
theorem key_rr (a b:Str):decide ((Sum.inr a:Key)=Sum.inr b)=decide (a=b):=by
  by_cases e:a=b
  · subst e; simp
  · have h:¬ (Sum.inr a:Key)=Sum.inr b:=fun q=>e (Sum.inr.inj q)
    rw [decide_eq_false h,decide_eq_false e]
theorem key_lr (a:Int) (b:Str):decide ((Sum.inl a:Key)=Sum.inr b)=false:=decide_eq_false (fun q=>nomatch q)
theorem key_rl (a:Str) (b:Int):decide ((Sum.inr a:Key)=Sum.inl b)=false:=decide_eq_false (fun q=>nomatch q)
def mixKind (prog:Program) (w:World):PySem.KeyKind prog w Key where
  is:=keyIs
  hash:=keyH w
  inj:=fun v a b ha hb=>by
    rcases keyIs_shape ha with ⟨i,t,rfl,rfl⟩ | ⟨x,t,rfl,rfl⟩
    · rcases keyIs_shape hb with ⟨j,u,rfl,e⟩ | ⟨y,u,rfl,e⟩
      · injection e with e1 _; rw [e1]
      · exact nomatch e
    · rcases keyIs_shape hb with ⟨j,u,rfl,e⟩ | ⟨y,u,rfl,e⟩
      · exact nomatch e
      · injection e with e1 _; rw [e1]
  byValue:=fun k v h=>by
    rcases keyIs_shape h with ⟨i,t,rfl,rfl⟩ | ⟨x,t,rfl,rfl⟩ <;> rfl
  pyHash:=fun hv h=>by
    rcases keyIs_shape hv with ⟨i,t,rfl,rfl⟩ | ⟨x,t,rfl,rfl⟩
    · exact wpAny_pyHash_int h
    · exact wpAny_pyHash_str h
  eqBool:=fun hu hv h=>by
    rcases keyIs_shape hu with ⟨i,t,rfl,rfl⟩ | ⟨x,t,rfl,rfl⟩
    · rcases keyIs_shape hv with ⟨j,u,rfl,rfl⟩ | ⟨y,u,rfl,rfl⟩
      · rw [key_ll] at h; exact wpAny_eqBool_int h
      · rw [key_lr] at h; exact SeqAt.EqAt.int_str i t y u _ _ _ _ h
    · rcases keyIs_shape hv with ⟨j,u,rfl,rfl⟩ | ⟨y,u,rfl,rfl⟩
      · rw [key_rl] at h; exact SeqAt.EqAt.str_int x t j u _ _ _ _ h
      · rw [key_rr] at h; exact wpAny_eqBool_str h
  «strs»:=fun k x t v h=>by
    rcases keyIs_shape h with ⟨i,u,rfl,e⟩ | ⟨y,u,rfl,e⟩
    · exact nomatch e
    · injection e with e1 _
      subst e1
      cases v <;> rfl
end L2
namespace L2
open PySem PySem.Spec PyProof.Rows
inductive V where
  | non | bl (b:Bool) | int (i:Int) | str (x:Str) | byt (b:Array UInt8) | flt (b:UInt64) | ref (a:Addr) | ty (n:String)
  deriving DecidableEq
def RelV:V→Value→Prop
  | .non,u=>u=Value.none
  | .bl b,u=>u=Value.bool b
  | .int i,u=>∃ t,u=Value.int i t
  | .str x,u=>∃ t,u=Value.str x (t+1)
  | .byt b,u=>∃ t,u=Value.bytes b t
  | .flt b,u=>∃ t,u=Value.float b t
  | .ref a,u=>u=Value.ref a
  | .ty n,u=>u=Value.type n
abbrev Vals:List V→List Value→Prop:=Paired RelV
theorem Vals.length {xs:List V} {us:List Value} (r:Vals xs us):xs.length=us.length:=Paired.length r
theorem Vals.get:∀ {xs:List V} {us:List Value} {i:Nat} {x:V},Vals xs us→xs[i]?=some x→∃ u,us[i]?=some u∧RelV x u
  | _,_,_,_,.nil,e=>by simp at e
  | _,_,0,_,.cons r _,e=>by simp at e; subst e; exact ⟨_,rfl,r⟩
  | _,_,i+1,x,.cons _ t,e=>by
    obtain ⟨u,h1,h2⟩:=Vals.get (i:=i) (x:=x) t (by simpa using e)
    exact ⟨u,by simpa using h1,h2⟩
theorem Vals.set {x:V} {u:Value} (r:RelV x u):∀ {xs:List V} {us:List Value} (i:Nat),Vals xs us→Vals (xs.set i x) (us.set i u)
  | _,_,_,.nil=>.nil
  | _,_,0,.cons _ t=>.cons r t
  | _,_,i+1,.cons q t=>.cons q (Vals.set r i t)
theorem Vals.append:∀ {xs ys:List V} {us ws:List Value},Vals xs us→Vals ys ws→Vals (xs++ys) (us++ws)
  | _,_,_,_,.nil,s=>s
  | _,_,_,_,.cons r t,s=>.cons r (Vals.append t s)
theorem Vals.take:∀ {xs:List V} {us:List Value} (n:Nat),Vals xs us→Vals (xs.take n) (us.take n)
  | _,_,0,_=>.nil
  | _,_,_+1,.nil=>.nil
  | _,_,n+1,.cons r t=>.cons r (Vals.take n t)
theorem Vals.drop:∀ {xs:List V} {us:List Value} (n:Nat),Vals xs us→Vals (xs.drop n) (us.drop n)
  | _,_,0,r=>r
  | _,_,_+1,.nil=>.nil
  | _,_,n+1,.cons _ t=>Vals.drop n t
def RelO:Option V→Option Value→Prop
  | some v,some u=>RelV v u
  | none,none=>True
  | _,_=>False
def KV {κ:Type}:List (κ × V)→List (κ × Value)→Prop:=Paired fun (p:κ × V) (q:κ × Value)=>p.1=q.1∧RelV p.2 q.2
def kV:Key→V
  | .inl i=>.int i
  | .inr x=>.str x
inductive HO where
    | lst (xs:List V)
    | tup (xs:List V)
    | dK (kvs:List (Key × V)) | dT (kvs:List (List Key × V))
    | set (S:Int→Bool) (n:Nat)
    | ins (C dx:Addr) (fs:List (Str × V))
    | own (x:Addr)
    | xd (fs:List (Str × V))
    | met (f x:Addr)
    | rng (lo hi:Int)
    | frz (o:Obj) (u:HO)
    | tbl (ps:Array Value)
    | ext (φ:Heap→Prop)
abbrev Hp:=Addr→Option HO
def upd (H:Hp) (a:Addr) (o:HO):Hp:=fun b=>if b=a then some o else H b
theorem upd_same {H:Hp} {a:Addr} {o:HO}:upd H a o a=some o:=by unfold upd; rw [if_pos rfl]
theorem upd_ne {H:Hp} {a b:Addr} {o:HO} (h:b ≠ a):upd H a o b=H b:=by unfold upd; rw [if_neg h]
theorem ne_of_none {H:Hp} {a b:Addr} {o:HO} (h:H a=some o) (h':H b=none):a ≠ b:=by
  intro e; subst e; rw [h] at h'; cases h'
section
variable (P:Program) (w:World)
def ObjOk (H:Hp) (h:Heap) (a:Addr):HO→Prop
  | .lst xs=>xs.length≤sizeLine∧∃ (its:List Value) (n:Nat),Vals xs its∧h.get? a=some { cls:=.type "list", data:=.seq its.toArray n }
  | .tup xs=>xs.length≤sizeLine∧∃ its:List Value,Vals xs its∧IsTup h a its.toArray∧∃ o,h.get? a=some o∧o.dict=none
  | .dK kvs=>kvs.length≤sizeLine∧(a == sysModules)=false∧∃ vs,KV kvs vs∧h.DictOf (mixKind P w) a vs
  | .dT kvs=>kvs.length≤sizeLine∧(a == sysModules)=false∧∃ xs:List (List Key × Addr × Value),
      Paired (fun (p:List Key × V) (q:List Key × Addr × Value)=>p.1=q.1∧H q.2.1=some (.tup (p.1.map kV))∧RelV p.2 q.2.2) kvs xs ∧
      ∃ o es ep,h.get? a=some o∧o.ExactDict∧o.data=.dict es ep∧es.toList=xs.map (entryOfKey (tupleKind (mixKind P w)))∧(xs.map (·.1)).Nodup
  | .set S n=>h.SetOf (intKind P w) a S n
  | .ins C dx fs=>H dx=some (.own a)∧fs.length≤1000∧dx ≠ a∧h.get? a=some (PySem.W.instObj C dx) ∧
      ∃ mA,h.Ns1 dx mA∧(∀ f,RelO (fs.lookup f) (mA f))∧PySem.Within mA (fs.map (·.1))
  | .own _=>∃ o,h.get? a=some o
  | .xd fs=>∃ mA,h.Ns1 a mA∧∀ f,RelO (fs.lookup f) (mA f)
  | .rng lo hi=>∃ t u v,h.get? a=some { cls:=.type "range", data:=.fields #[.int lo t,.int hi u,.int 1 v] }
  | .frz o u=>h.get? a=some o∧ObjOk H h a u
  | .tbl ps=>h.get? a=some { cls:=.none,data:=.fields ps }
  | .met f x=>h.get? a=some (PySem.W.methodObj (.ref f) (.ref x))
  | .ext φ=>φ h∧(∃ o,h.get? a=some o)∧∀ h1 h2:Heap,φ h1→(∀ o,h1.get? a=some o→h2.get? a=some o)→φ h2
def HOk (H:Hp) (h:Heap):Prop:=∀ a o,H a=some o→ObjOk P w H h a o
end
section
variable {P:Program} {w:World} {H H':Hp} {h h':Heap} {a:Addr} {o:HO}
theorem ObjOk.lt (x:ObjOk P w H h a o):a < h.objs.size:=by
  cases o with
  | lst xs=>obtain ⟨_,_,_,_,e⟩:=x; exact Heap.lt_size e
  | tup xs=>obtain ⟨_,_,_,p,_⟩:=x; exact p.lt
  | dK kvs=>obtain ⟨_,_,_,_,o,_,_,e,_⟩:=x; exact Heap.lt_size e
  | dT kvs=>obtain ⟨_,_,_,_,o,_,_,e,_⟩:=x; exact Heap.lt_size e
  | set S n=>obtain ⟨o,_,_,_,e,_⟩:=x; exact Heap.lt_size e
  | ins C dx fs=>obtain ⟨_,_,_,e,_⟩:=x; exact Heap.lt_size e
  | own y=>obtain ⟨_,e⟩:=x; exact Heap.lt_size e
  | xd fs=>obtain ⟨_,⟨_,_,_,e,_⟩,_⟩:=x; exact Heap.lt_size e
  | rng lo hi=>obtain ⟨_,_,_,e⟩:=x; exact Heap.lt_size e
  | frz ob u=>obtain ⟨e,_⟩:=x; exact Heap.lt_size e
  | tbl ps=>exact Heap.lt_size (show h.get? a=some _ from x)
  | met f y=>exact Heap.lt_size (show h.get? a=some _ from x)
  | ext φ=>obtain ⟨_,⟨_,e⟩,_⟩:=x; exact Heap.lt_size e
theorem Paired.mapP {α β:Type} {F G:α→β→Prop}:∀ {l₁:List α} {l₂:List β},Paired F l₁ l₂→(∀ a b,F a b→G a b)→Paired G l₁ l₂
  | _,_,.nil,_=>.nil
  | _,_,.cons r t,f=>.cons (f _ _ r) (Paired.mapP t f)
theorem ObjOk.stay (x:ObjOk P w H h a o) (k:∀ b u,(b=a∨H b=some (.own a))→h.get? b=some u→h'.get? b=some u)
    (ho:∀ b,H b=some (.own a)→H' b=some (.own a)) (ht:∀ b xs,H b=some (.tup xs)→H' b=some (.tup xs)):ObjOk P w H' h' a o:=by
  induction o with
  | lst xs=>obtain ⟨z,its,n,r,e⟩:=x; exact ⟨z,its,n,r,k _ _ (.inl rfl) e⟩
  | tup xs=>obtain ⟨z,its,r,⟨ob,e,c⟩,od,e2,d⟩:=x; exact ⟨z,its,r,⟨ob,k _ _ (.inl rfl) e,c⟩,od,k _ _ (.inl rfl) e2,d⟩
  | dK kvs=>obtain ⟨z,y,vs,r,ob,es,ep,e,c⟩:=x; exact ⟨z,y,vs,r,ob,es,ep,k _ _ (.inl rfl) e,c⟩
  | dT kvs =>
    obtain ⟨z,y,xs,r,ob,es,ep,e,c⟩:=x
    exact ⟨z,y,xs,Paired.mapP r fun p q z=>⟨z.1,ht _ _ z.2.1,z.2.2⟩,ob,es,ep,k _ _ (.inl rfl) e,c⟩
  | set S n=>obtain ⟨ob,es,ep,t,e,c⟩:=x; exact ⟨ob,es,ep,t,k _ _ (.inl rfl) e,c⟩
  | ins C dx fs =>
    obtain ⟨d,z,ne,e,mA,⟨od,es,ep,e2,c⟩,r⟩:=x
    exact ⟨ho _ d,z,ne,k _ _ (.inl rfl) e,mA,⟨od,es,ep,k _ _ (.inr d) e2,c⟩,r⟩
  | own y=>obtain ⟨ob,e⟩:=x; exact ⟨ob,k _ _ (.inl rfl) e⟩
  | xd fs=>obtain ⟨mA,⟨od,es,ep,e,c⟩,r⟩:=x; exact ⟨mA,⟨od,es,ep,k _ _ (.inl rfl) e,c⟩,r⟩
  | rng lo hi=>obtain ⟨t,u,v,e⟩:=x; exact ⟨t,u,v,k _ _ (.inl rfl) e⟩
  | frz ob u ih=>obtain ⟨e,q⟩:=x; exact ⟨k _ _ (.inl rfl) e,ih q⟩
  | tbl ps =>
    have e:h.get? a=some { cls:=.none,data:=.fields ps }:=x
    show h'.get? a=some { cls:=.none,data:=.fields ps }
    exact k a _ (.inl rfl) e
  | met f y =>
    have e:h.get? a=some (PySem.W.methodObj (.ref f) (.ref y)):=x
    show h'.get? a=some (PySem.W.methodObj (.ref f) (.ref y))
    exact k a _ (.inl rfl) e
  | ext φ=>obtain ⟨p,⟨o,e⟩,st⟩:=x; exact ⟨st _ _ p fun o q=>k _ _ (.inl rfl) q,⟨o,k _ _ (.inl rfl) e⟩,st⟩
theorem HOk.lt (x:HOk P w H h) (e:H a=some o):a < h.objs.size:=(x a o e).lt
theorem HOk.fresh (x:HOk P w H h) (e:h.objs.size≤a):H a=none:=by
  cases q:H a with
  | none=>rfl
  | some u=>exact absurd (Nat.lt_of_lt_of_le (x.lt q) e) (Nat.lt_irrefl _)
theorem HOk.kept (x:HOk P w H h) (k:∀ b u,h.get? b=some u→h'.get? b=some u):HOk P w H h':=fun a o e =>
  (x a o e).stay (fun b u _ q=>k b u q) (fun _ q=>q) fun _ _ q=>q
theorem HOk.laid (x:HOk P w H h) (k:∀ b u,h.get? b=some u→h'.get? b=some u) (hp:h.objs.size≤a) (new:ObjOk P w (upd H a o) h' a o):HOk P w (upd H a o) h':=fun b u e=>by
  have hn:=x.fresh hp
  by_cases hb:b=a
  · subst hb; rw [upd_same] at e; cases e; exact new
  · rw [upd_ne hb] at e
    exact (x b u e).stay (fun c v _ q=>k c v q) (fun c q=>by rw [upd_ne (ne_of_none q hn)]; exact q) fun c xs q=>by rw [upd_ne (ne_of_none q hn)]; exact q
end
def Rd (H:Hp) (a:Addr) (u:HO):Prop:=H a=some u∨∃ o,H a=some (.frz o u)
theorem Rd.ok {P:Program} {w:World} {H:Hp} {h:Heap} {a:Addr} {u:HO} (r:Rd H a u) (x:HOk P w H h):ObjOk P w H h a u:=by
  rcases r with r | ⟨o,r⟩
  · exact x a u r
  · obtain ⟨_,q⟩:=x a _ r
    exact q
def Mut:Option HO→Prop
  | some (.lst _)=>True
  | some (.dK _)=>True
  | some (.dT _)=>True
  | some (.set _ _)=>True
  | some (.ins _ _ _)=>True
  | some (.ext _)=>True
  | _=>False
section
variable {P:Program} {w:World} {H:Hp} {h h':Heap} {x e:Addr} {o':HO}
theorem HOk.write (ok:HOk P w H h) (mu:Mut (H x)) (he:e=x∨H e=some (.own x)) (k:∀ b u,b ≠ e→h.get? b=some u→h'.get? b=some u) (heo:∃ u,h'.get? e=some u)
    (new:ObjOk P w (upd H x o') h' x o'):HOk P w (upd H x o') h':=fun b u q=>by
  have nown:∀ c y,H c=some (.own y)→c ≠ x:=fun c y r z=>by subst z; rw [r] at mu; exact mu
  have ntup:∀ c xs,H c=some (.tup xs)→c ≠ x:=fun c xs r z=>by subst z; rw [r] at mu; exact mu
  by_cases hb:b=x
  · subst hb; rw [upd_same] at q; cases q; exact new
  · rw [upd_ne hb] at q
    by_cases hbe:b=e
    · have q':H b=some (.own x):=by
        rcases he with z | z
        · exact absurd (hbe.trans z) hb
        · rw [hbe]; exact z
      rw [q] at q'; cases q'
      obtain ⟨v,hv⟩:=heo
      exact ⟨v,by rw [hbe]; exact hv⟩
    · refine (ok b u q).stay (fun c v hc r=>k c v ?_ r) (fun c r=>by rw [upd_ne (nown c b r)]; exact r) fun c xs r=>by rw [upd_ne (ntup c xs r)]; exact r
      rcases hc with rfl | hc
      · exact hbe
      · rintro rfl
        rcases he with z | z
        · exact nown c b hc z
        · rw [hc] at z; cases z; exact hb rfl
end
structure Un (fs ex:List Addr) (H H':Hp) (h h':Heap):Prop where
  keep:∀ b o,h.get? b=some o→H b=none→b ∉ fs→b ∉ ex→h'.get? b=some o
  slot:∀ b o,h.get? b=some o→H b=none→b ∈ fs→b ∉ ex→∃ sl,h'.get? b=some { o with slots:=sl }
  free:∀ b o,h.get? b=some o→H b=none→b ∉ ex→H' b=none
  there:∀ b o,h.get? b=some o→b ∉ ex→∃ o',h'.get? b=some o'
  tups:∀ b xs,H b=some (.tup xs)→H' b=some (.tup xs)
  frzs:∀ b o u,H b=some (.frz o u)→H' b=some (.frz o u)
  tbls:∀ b ps,H b=some (.tbl ps)→∃ more,H' b=some (.tbl (ps++more))
section
variable {fs fs' ex ex':List Addr} {H H1 H2:Hp} {h h1 h2 h':Heap} {a x e:Addr} {o:HO}
theorem Un.any (u:Un fs ex H H1 h h1) {b:Addr} {ob:Obj} (q:h.get? b=some ob) (n:H b=none) (hx:b ∉ ex):∃ sl,h1.get? b=some { ob with slots:=sl }:=by
  by_cases hb:b ∈ fs
  · exact u.slot b ob q n hb hx
  · exact ⟨ob.slots,u.keep b ob q n hb hx⟩
theorem Un.trans (a:Un fs ex H H1 h h1) (b:Un fs ex H1 H2 h1 h2):Un fs ex H H2 h h2 where
  keep:=fun c ob q n hc hx=>b.keep c ob (a.keep c ob q n hc hx) (a.free c ob q n hx) hc hx
  slot:=fun c ob q n hc hx=>by
    obtain ⟨sl,e1⟩:=a.slot c ob q n hc hx
    obtain ⟨sl',e2⟩:=b.slot c _ e1 (a.free c ob q n hx) hc hx
    exact ⟨sl',e2⟩
  free:=fun c ob q n hx=>by
    obtain ⟨o',e1⟩:=a.there c ob q hx
    exact b.free c o' e1 (a.free c ob q n hx) hx
  there:=fun c ob q hx=>by
    obtain ⟨o',e1⟩:=a.there c ob q hx
    exact b.there c o' e1 hx
  tups:=fun c xs q=>b.tups c xs (a.tups c xs q)
  frzs:=fun c ob xs q=>b.frzs c ob xs (a.frzs c ob xs q)
  tbls:=fun c ps q=>by
    obtain ⟨m1,e1⟩:=a.tbls c ps q
    obtain ⟨m2,e2⟩:=b.tbls c _ e1
    exact ⟨m1++m2,by rw [e2,Array.append_assoc]⟩
theorem Un.kept (k:∀ b u,h.get? b=some u→h'.get? b=some u):Un fs ex H H h h' :=
  ⟨fun b ob q _ _ _=>k b ob q,fun b ob q _ _ _=>⟨ob.slots,k b ob q⟩,fun _ _ _ n _=>n,fun b ob q _=>⟨ob,k b ob q⟩,fun _ _ q=>q,fun _ _ _ q=>q,fun _ ps q=>⟨#[],by rw [q]; simp⟩⟩
theorem Un.refl:Un fs ex H H h h:=Un.kept fun _ _ q=>q
theorem Un.laid (k:∀ b u,h.get? b=some u→h'.get? b=some u) (hp:h.objs.size≤a) (hn:H a=none):Un fs ex H (upd H a o) h h' where
  keep:=fun b u q _ _ _=>k b u q
  slot:=fun b u q _ _ _=>⟨u.slots,k b u q⟩
  free:=fun b u q n _=>by rw [upd_ne (Nat.ne_of_lt (Nat.lt_of_lt_of_le (Heap.lt_size q) hp))]; exact n
  there:=fun b u q _=>⟨u,k b u q⟩
  tups:=fun b xs q=>by rw [upd_ne (ne_of_none q hn)]; exact q
  frzs:=fun b u xs q=>by rw [upd_ne (ne_of_none q hn)]; exact q
  tbls:=fun b ps q=>⟨#[],by rw [upd_ne (ne_of_none q hn),q]; simp⟩
theorem Un.write (mu:Mut (H x)) (he:e=x∨H e=some (.own x)) (k:∀ b u,b ≠ e→h.get? b=some u→h'.get? b=some u) (heo:∃ u,h'.get? e=some u):Un fs ex H (upd H x o) h h':=by
  have hx:∀ b,H b=none→b ≠ x:=fun b n z=>by subst z; rw [n] at mu; exact mu
  have hb:∀ b,H b=none→b ≠ e:=fun b n z=>by
    subst z
    rcases he with r | r
    · exact hx b n r
    · rw [n] at r; cases r
  have hm:∀ b u,H b=some u→¬ Mut (some u)→b ≠ x:=fun b u q nm z=>by subst z; rw [q] at mu; exact nm mu
  refine ⟨fun b u q n _ _=>k b u (hb b n) q,fun b u q n _ _=>⟨u.slots,k b u (hb b n) q⟩,fun b u q n _=>by rw [upd_ne (hx b n)]; exact n,fun b u q _=>?_,
    fun b xs q=>by rw [upd_ne (hm b _ q fun z=>z)]; exact q,fun b u xs q=>by rw [upd_ne (hm b _ q fun z=>z)]; exact q,fun b ps q=>⟨#[],by rw [upd_ne (hm b _ q fun z=>z),q]; simp⟩⟩
  by_cases hbe:b=e
  · subst hbe; exact heo
  · exact ⟨u,k b u hbe q⟩
theorem Un.mono (u:Un fs ex H H1 h h1) (hs:∀ b ∈ fs,b ∈ fs') (hx:∀ b ∈ ex,b ∈ ex'):Un fs' ex' H H1 h h1 :=
  ⟨fun b ob q n hb he=>u.keep b ob q n (fun z=>hb (hs b z)) fun z=>he (hx b z),fun _ _ q n _ he=>u.any q n fun z=>he (hx _ z),fun b ob q n he=>u.free b ob q n fun z=>he (hx b z),fun b ob q he=>u.there b ob q fun z=>he (hx b z),u.tups,u.frzs,u.tbls⟩
end
def trk (h:Heap) (H:Hp):List Addr:=(List.range h.objs.size).filter fun a=>(H a).isSome
def hidT (h:Heap) (H:Hp):Heap:=PySem.W.hideAll h (trk h H)
theorem hidT_size (h:Heap) (H:Hp):(hidT h H).objs.size=h.objs.size:=PySem.W.hideAll_size _ _
theorem hidT_get {h:Heap} {H:Hp} {b:Addr} {o:Obj} (e:h.get? b=some o) (n:H b=none):(hidT h H).get? b=some o :=
  PySem.W.hideAll_get _ e fun hm=>by
    have q:(H b).isSome=true:=(List.mem_filter.mp hm).2
    rw [n] at q; simp at q
theorem of_hidT {h:Heap} {H:Hp} {b:Addr} {o:Obj} (e:(hidT h H).get? b=some o):h.get? b=some o∧H b=none:=by
  have e':h.get? b=some o:=PySem.W.of_hideAll (trk h H) e
  refine ⟨e',?_⟩
  cases q:H b with
  | none=>rfl
  | some x =>
    have hm:b ∈ trk h H:=List.mem_filter.mpr ⟨List.mem_range.mpr (Heap.lt_size e'),by simp [q]⟩
    have z:(hidT h H).get? b=none:=PySem.W.hideAll_none (trk h H) hm
    rw [z] at e; cases e
def allNews (g h:Heap) (L:Addr):List (Addr × Obj):=(List.range h.objs.size).filterMap fun a=>if a=L∨(g.get? a).isSome=true then none else (h.get? a).map fun o=>(a,o)
def rest (g h:Heap) (L d:Addr):List (Addr × Obj):=(allNews g h L).filter fun p=>decide (p.1 ≠ d)
end L2
namespace L2
open PySem PySem.Spec PyProof.Rows
structure Mod (K:PySem.W.Frag) (mg:Str→Option Value) (base:Heap):Prop where
  kin:K.In base
  glob:base.Ns mainGlobals mg
  blt:∃ mb,base.Ns builtinsNs mb∧∀ x:Str,x ≠ "__name__" → mb x=bootBuiltins x
  nolimit:base.NoLimit
structure Cx where
  prog:Program
  w:World
  K:PySem.W.Frag
  mg:Str→Option Value
  base:Heap
  A:Around
  N:List Str
  s₀:Shared
  H₀:Hp
  env:Env
  outer:List Env
  stack:List Env
  ex:List Addr
  fn:Str→Bool
  calm:Bool
  pn:List (Addr × Obj)
  xe:Value→Shared→Prop
def frs (l:List Env):List Addr:=l.filterMap (·.frame)
abbrev Cx.fs (X:Cx):List Addr:=frs X.outer
def Vis (sc:Scope) (x:Str):Prop:=sc.names.lookup x=some .local∨sc.names.lookup x=some .cell∨sc.names.lookup x=some .free
def Loc (sc:Scope) (x:Str):Prop:=sc.names.lookup x=some .local∨sc.names.lookup x=some .cell
def Look (env:Env) (h:Heap) (m:Str→Option Value) (x:Str) (u:Value):Prop :=
  (env.kindOf x=some .local∧m x=some u)∨((env.kindOf x=some .cell∨env.kindOf x=some .free)∧∃ c,env.cells.lookup x=some c∧h.IsCell c (some u))
structure Cx.Ok (X:Cx):Prop where
  mod:Mod X.K X.mg X.base
  kind:X.env.scope.kind=.function
  glob:X.env.globals=mainGlobals
  blt:X.env.builtins=builtinsNs
  above:X.s₀.heap.objs.size≤X.env.locals
  inj:∀ x y c,X.env.cells.lookup x=some c→X.env.cells.lookup y=some c→x=y
  has:∀ x,(X.env.kindOf x=some .cell∨X.env.kindOf x=some .free)→∃ c,X.env.cells.lookup x=some c
  cab:∀ x c,X.fn x=true→X.env.cells.lookup x=some c→X.s₀.heap.objs.size≤c
  hd:X.calm=true→X.A.handled=none
  frames:X.A.frames=some X.stack
  stk:X.stack=X.outer∨(X.stack=X.env::X.outer∧X.env.frame=some X.env.locals)
  exf:∀ b ∈ X.ex,b ≠ X.env.locals∧∀ x c,X.env.cells.lookup x=some c→c ≠ b
  bs:∀ b o,X.base.get? b=some o→X.s₀.heap.get? b=some o∧X.H₀ b=none
  bsz:X.base.objs.size≤X.s₀.heap.objs.size
  noex:∀ b o,X.base.get? b=some o→b ∉ X.ex
  exfs:∀ b ∈ X.ex,b ∉ X.fs
  funs:X.s₀.heap.FunFrames X.base X.outer
  frf:∀ b ∈ X.fs,X.H₀ b=none
structure Inv (X:Cx) (pins:List (Addr × Obj)) (σ:List (Option V)) (H:Hp) (s:Shared):Prop where
  ok:X.Ok
  os:s.os=X.s₀.os
  bare:AllBare s.gens
  base:Un X.fs X.ex X.H₀ H X.s₀.heap s.heap
  loc:∃ m,s.heap.Ns X.env.locals m∧∀ (i:Nat) (x:Str) (v:V),X.N[i]?=some x→σ[i]?=some (some v)→Vis X.env.scope x→∃ u,RelV v u∧Look X.env s.heap m x u
  cell:∀ x c,X.env.cells.lookup x=some c→∃ v,s.heap.IsCell c v
  free:H X.env.locals=none
  freeC:∀ x c,X.env.cells.lookup x=some c→H c=none
  pin:∀ p ∈ X.pn++pins,s.heap.get? p.1=some p.2∧H p.1=none∧p.1 ≠ X.env.locals∧p.1 ∉ X.fs∧∀ v,p.2.data ≠ .cell v
  hok:HOk X.prog X.w H s.heap
  len:σ.length=X.N.length
  tk:1≤s.toks
theorem relS {x:Str} {n:Nat} (h:1≤n):RelV (.str x) (.str x n):=⟨n - 1,by rw [Nat.sub_add_cancel h]⟩
section
variable {X:Cx} {pins:List (Addr × Obj)} {σ:List (Option V)} {H H':Hp} {s:Shared} {h':Heap}
theorem Cx.Ok.nofr (ok:X.Ok) {b:Addr} {o:Obj} (e:X.base.get? b=some o):b ∉ X.fs:=fun hb=>by
  have:=(ok.funs.mem hb).1
  rw [e] at this; cases this
theorem Inv.bs (I:Inv X pins σ H s):∀ b o,X.base.get? b=some o→s.heap.get? b=some o∧H b=none:=fun b o e =>
  ⟨I.base.keep b o (I.ok.bs b o e).1 (I.ok.bs b o e).2 (I.ok.nofr e) (I.ok.noex b o e),I.base.free b o (I.ok.bs b o e).1 (I.ok.bs b o e).2 (I.ok.noex b o e)⟩
theorem Inv.bk (I:Inv X pins σ H s):∀ b o,X.base.get? b=some o→s.heap.get? b=some o:=fun b o e=>(I.bs b o e).1
theorem Inv.mod (I:Inv X pins σ H s):Mod X.K X.mg X.base:=I.ok.mod
theorem Inv.kIn (I:Inv X pins σ H s):X.K.In s.heap:=I.ok.mod.kin.keeps I.bk
theorem Inv.nolimit (I:Inv X pins σ H s):s.heap.NoLimit:=I.ok.mod.nolimit.keeps I.bk
theorem Inv.lt (I:Inv X pins σ H s):X.env.locals < s.heap.objs.size:=let ⟨_,hn,_⟩:=I.loc; hn.lt
theorem Inv.sz (I:Inv X pins σ H s):X.s₀.heap.objs.size≤s.heap.objs.size:=Nat.le_trans I.ok.above (Nat.le_of_lt I.lt)
theorem Inv.nofs (I:Inv X pins σ H s) {a:Addr} (h:s.heap.objs.size≤a):a ∉ X.fs:=fun hb=>by
  obtain ⟨_,o,ho,_⟩:=I.ok.funs.mem hb
  exact absurd (Nat.lt_of_lt_of_le (Heap.lt_size ho) (Nat.le_trans I.sz h)) (Nat.lt_irrefl _)
theorem Inv.cne (I:Inv X pins σ H s):∀ x c,X.env.cells.lookup x=some c→c ≠ X.env.locals:=fun x c e z=>by
  obtain ⟨v,o,ho,hd⟩:=I.cell x c e
  obtain ⟨m,⟨o',es,ep,ho',hd',_⟩,_⟩:=I.loc
  rw [z,ho'] at ho; cases ho; rw [hd'] at hd; cases hd
theorem Inv.funs (I:Inv X pins σ H s):s.heap.FunFrames X.base X.outer:=by
  have all:∀ (l:List Env),(∀ b ∈ frs l,b ∈ X.fs)→X.s₀.heap.FunFrames X.base l→s.heap.FunFrames X.base l:=by
    intro l
    induction l with
    | nil=>intro _ _; trivial
    | cons env r ih =>
      intro hs hl
      obtain ⟨hk,⟨L,o,hf,hn,ho,hd⟩,hr⟩:=hl
      have hL:L ∈ X.fs:=hs L (by unfold frs; rw [List.filterMap_cons,hf]; exact List.mem_cons_self)
      obtain ⟨sl,e⟩:=I.base.slot L o ho (I.ok.frf L hL) hL fun z=>I.ok.exfs L z hL
      exact ⟨hk,⟨L,_,hf,hn,e,hd⟩,ih (fun b hb=>hs b (by unfold frs; rw [List.filterMap_cons,hf]; exact List.mem_cons_of_mem _ hb)) hr⟩
  exact all X.outer (fun _ hb=>hb) I.ok.funs
theorem Inv.stack (I:Inv X pins σ H s):s.heap.FunFrames X.base X.stack:=by
  rcases I.ok.stk with e | ⟨e,hf⟩
  · rw [e]; exact I.funs
  · rw [e]
    obtain ⟨m,hn,_⟩:=I.loc
    refine .cons (by rw [I.ok.kind]; decide) hf hn ?_ I.funs
    exact Heap.get?_none_of_le (Nat.le_trans I.ok.bsz I.ok.above)
theorem Inv.stkSub (I:Inv X pins σ H s):∀ b ∈ frs X.stack,b ∈ X.env.locals::X.fs:=fun b hb=>by
  rcases I.ok.stk with e | ⟨e,hf⟩
  · rw [e] at hb; exact List.mem_cons_of_mem _ hb
  · rw [e] at hb
    unfold frs at hb
    rw [List.filterMap_cons,hf] at hb
    exact hb
theorem Inv.stkFree (I:Inv X pins σ H s):∀ b ∈ frs X.stack,H b=none:=fun b hb=>by
  rcases List.mem_cons.mp (I.stkSub b hb) with e | hb
  · rw [e]; exact I.free
  · obtain ⟨_,o,ho,_⟩:=I.ok.funs.mem hb
    exact I.base.free b o ho (I.ok.frf b hb) fun z=>I.ok.exfs b z hb
theorem Inv.step {g':Array GenState} {t':Nat} {d':Drawn} {ch:List Addr} (I:Inv X pins σ H s)
    (hch:∀ b ∈ ch,(b ∈ X.ex∨X.s₀.heap.objs.size≤b)∧b ≠ X.env.locals∧(∀ x c,X.env.cells.lookup x=some c→c ≠ b)∧∀ p ∈ X.pn++pins,p.1 ≠ b)
    (keep:∀ b o,b ≠ X.env.locals→b ∉ X.fs→b ∉ ch→s.heap.get? b=some o→H b=none→h'.get? b=some o)
    (slot:∀ b o,b ≠ X.env.locals→b ∈ X.fs→b ∉ ch→s.heap.get? b=some o→H b=none→∃ sl,h'.get? b=some { o with slots:=sl }) (free:∀ b o,b ∉ ch→s.heap.get? b=some o→H b=none→H' b=none)
    (there:∀ b o,b ∉ ch→s.heap.get? b=some o→∃ o',h'.get? b=some o')
    (tups:∀ b xs,H b=some (.tup xs)→H' b=some (.tup xs)) (frzs:∀ b o u,H b=some (.frz o u)→H' b=some (.frz o u)) (tbls:∀ b ps,H b=some (.tbl ps)→∃ more,H' b=some (.tbl (ps++more)))
    (ns:∀ m,s.heap.Ns X.env.locals m→h'.Ns X.env.locals m) (hok:HOk X.prog X.w H' h') (hg:AllBare g') (ht:1≤t':=by first | exact Nat.le_add_left 1 _ | exact Inv.tk (by assumption) | assumption | omega) :
    Inv X pins σ H' { s with heap:=h',gens:=g',drawn:=d',toks:=t' }:=by
  have neL:∀ b o,X.s₀.heap.get? b=some o→b ≠ X.env.locals:=fun b o e=>Nat.ne_of_lt (Nat.lt_of_lt_of_le (Heap.lt_size e) I.ok.above)
  have neC:∀ b o,X.s₀.heap.get? b=some o→b ∉ X.ex→b ∉ ch:=fun b o e hx hb=>by
    rcases (hch b hb).1 with z | z
    · exact hx z
    · exact absurd (Nat.lt_of_lt_of_le (Heap.lt_size e) z) (Nat.lt_irrefl _)
  have cellK:∀ x c,X.env.cells.lookup x=some c→∀ v,s.heap.IsCell c v→h'.IsCell c v:=fun x c e v ⟨o,ho,hd⟩=>by
    have nch:c ∉ ch:=fun z=>(hch c z).2.2.1 x c e rfl
    by_cases hc:c ∈ X.fs
    · obtain ⟨sl,q⟩:=slot c o (I.cne x c e) hc nch ho (I.freeC x c e)
      exact ⟨_,q,hd⟩
    · exact ⟨o,keep c o (I.cne x c e) hc nch ho (I.freeC x c e),hd⟩
  refine ⟨I.ok,I.os,hg,⟨fun b o e n hb hx=>?_,fun b o e n hb hx=>?_,fun b o e n hx=>?_,fun b o e hx=>?_,fun b xs e=>tups b xs (I.base.tups b xs e),fun b o xs e=>frzs b o xs (I.base.frzs b o xs e),fun b ps e=>?_⟩,?_,fun x c e=>?_,?_,fun x c e=>?_,fun p hp=>?_,hok,I.len,ht⟩
  · exact keep b o (neL b o e) hb (neC b o e hx) (I.base.keep b o e n hb hx) (I.base.free b o e n hx)
  · obtain ⟨sl,e1⟩:=I.base.slot b o e n hb hx
    obtain ⟨sl',e2⟩:=slot b _ (neL b o e) hb (neC b o e hx) e1 (I.base.free b o e n hx)
    exact ⟨sl',e2⟩
  · obtain ⟨o',e1⟩:=I.base.there b o e hx
    exact free b o' (neC b o e hx) e1 (I.base.free b o e n hx)
  · obtain ⟨o',e1⟩:=I.base.there b o e hx
    exact there b o' (neC b o e hx) e1
  · obtain ⟨m1,e1⟩:=I.base.tbls b ps e
    obtain ⟨m2,e2⟩:=tbls b _ e1
    exact ⟨m1++m2,by rw [e2,Array.append_assoc]⟩
  · obtain ⟨m,hn,hl⟩:=I.loc
    refine ⟨m,ns m hn,fun i x v e1 e2 e3=>?_⟩
    obtain ⟨u,r,l⟩:=hl i x v e1 e2 e3
    refine ⟨u,r,?_⟩
    rcases l with l | ⟨k,c,e,z⟩
    · exact .inl l
    · exact .inr ⟨k,c,e,cellK x c e _ z⟩
  · obtain ⟨v,z⟩:=I.cell x c e
    exact ⟨v,cellK x c e v z⟩
  · obtain ⟨m,⟨o,_,_,ho,_⟩,_⟩:=I.loc
    exact free _ o (fun z=>(hch _ z).2.1 rfl) ho I.free
  · obtain ⟨v,o,ho,hd⟩:=I.cell x c e
    exact free c o (fun z=>(hch c z).2.2.1 x c e rfl) ho (I.freeC x c e)
  · obtain ⟨e,n,ne,nf,d⟩:=I.pin p hp
    have nch:p.1 ∉ ch:=fun z=>(hch p.1 z).2.2.2 p hp rfl
    exact ⟨keep p.1 p.2 ne nf nch e n,free p.1 p.2 nch e n,ne,nf,d⟩
theorem Inv.un {t':Nat} (I:Inv X pins σ H s) (u:Un X.fs [] H H' s.heap h') (hok:HOk X.prog X.w H' h') (ht:1≤t':=by first | exact Nat.le_add_left 1 _ | exact Inv.tk (by assumption) | assumption | omega):Inv X pins σ H' { s with heap:=h',toks:=t' }:=by
  obtain ⟨m,⟨o,es,ep,ho,r⟩,_⟩:=id I.loc
  obtain ⟨sl,hL⟩:=u.any ho I.free (by simp)
  exact I.step (g':=s.gens) (d':=s.drawn) (ch:=[]) (fun _ z=>nomatch z) (fun b o _ hb _ e n=>u.keep b o e n hb (by simp)) (fun b o _ hb _ e n=>u.slot b o e n hb (by simp)) (fun b o _ e n=>u.free b o e n (by simp)) (fun b o _ e=>u.there b o e (by simp)) u.tups u.frzs u.tbls (fun m' hm=>by
    obtain ⟨o',es',ep',ho',r'⟩:=hm
    rw [ho] at ho'; cases ho'
    exact ⟨_,es',ep',hL,r'⟩) hok I.bare ht
theorem Inv.call {g':Array GenState} {t':Nat} {d':Drawn} {ch:List Addr} (I:Inv X pins σ H s) (u:Un (frs X.stack) ch H H' s.heap h') (hok:HOk X.prog X.w H' h') (hg:AllBare g')
    (hch:∀ b ∈ ch,(b ∈ X.ex∨X.s₀.heap.objs.size≤b)∧b ≠ X.env.locals∧(∀ x c,X.env.cells.lookup x=some c→c ≠ b)∧∀ p ∈ X.pn++pins,p.1 ≠ b) (ht:1≤t':=by first | exact Nat.le_add_left 1 _ | exact Inv.tk (by assumption) | assumption | omega) :
    Inv X pins σ H' { s with heap:=h',gens:=g',drawn:=d',toks:=t' }:=by
  obtain ⟨m,⟨o,es,ep,ho,r⟩,_⟩:=id I.loc
  obtain ⟨sl,hL⟩:=u.any ho I.free fun z=>(hch _ z).2.1 rfl
  exact I.step (ch:=ch) hch (fun b o hL hb hc e n=>u.keep b o e n (fun z=>(List.mem_cons.mp (I.stkSub b z)).elim hL hb) hc) (fun b o _ _ hc e n=>u.any e n hc) (fun b o hc e n=>u.free b o e n hc) (fun b o hc e=>u.there b o e hc) u.tups u.frzs u.tbls (fun m' hm=>by
    obtain ⟨o',es',ep',ho',r'⟩:=hm
    rw [ho] at ho'; cases ho'
    exact ⟨_,es',ep',hL,r'⟩) hok hg ht
theorem Inv.turned {t':Nat} {it:Addr} (I:Inv X pins σ H s) (k:∀ b o,b ≠ it→s.heap.get? b=some o→h'.get? b=some o) (hn:H it=none) (hL:it ≠ X.env.locals)
    (h1:it ∈ X.ex∨X.s₀.heap.objs.size≤it) (h2:∀ x c,X.env.cells.lookup x=some c→c ≠ it) (h3:∀ p ∈ X.pn++pins,p.1 ≠ it) (ht:1≤t':=by first | exact Nat.le_add_left 1 _ | exact Inv.tk (by assumption) | assumption | omega):Inv X pins σ H { s with heap:=h',toks:=t' }:=by
  have nit:∀ b u,H b=some u→b ≠ it:=fun b u e z=>by rw [z,hn] at e; cases e
  refine I.step (g':=s.gens) (d':=s.drawn) (ch:=[it]) (fun b hb=>?_) (fun b o _ _ hc e _=>k b o (fun z=>hc (by simp [z])) e) (fun b o _ _ hc e _=>⟨o.slots,k b o (fun z=>hc (by simp [z])) e⟩) (fun _ _ _ _ n=>n)
    (fun b o hc e=>⟨o,k b o (fun z=>hc (by simp [z])) e⟩) (fun _ _ e=>e) (fun _ _ _ e=>e) (fun b ps e=>⟨#[],by rw [e]; simp⟩) (fun m hm=>?_) (fun b u e=>?_) I.bare ht
  · have e:b=it:=by simpa using hb
    subst e
    exact ⟨h1,hL,h2,h3⟩
  · obtain ⟨o,es,ep,ho,r⟩:=hm
    exact ⟨o,es,ep,k _ o (Ne.symm hL) ho,r⟩
  · refine (I.hok b u e).stay (fun c v hc q=>k c v ?_ q) (fun _ q=>q) fun _ _ q=>q
    rcases hc with z | z
    · rw [z]; exact nit b u e
    · exact nit c _ z
theorem Inv.tok (I:Inv X pins σ H s) (t:Nat) (ht:1≤t:=by first | exact Nat.le_add_left 1 _ | exact Inv.tk (by assumption) | assumption | omega):Inv X pins σ H { s with toks:=t }:=I.un (h':=s.heap) (t':=t) Un.refl I.hok ht
theorem Inv.kept {t':Nat} (I:Inv X pins σ H s) (k:∀ b u,s.heap.get? b=some u→h'.get? b=some u) (ht:1≤t':=by first | exact Nat.le_add_left 1 _ | exact Inv.tk (by assumption) | assumption | omega):Inv X pins σ H { s with heap:=h',toks:=t' }:=I.un (Un.kept k) (I.hok.kept k) ht
theorem Inv.laid {a:Addr} {o:HO} {t':Nat} (I:Inv X pins σ H s) (k:∀ b u,s.heap.get? b=some u→h'.get? b=some u) (hp:s.heap.objs.size≤a) (new:ObjOk X.prog X.w (upd H a o) h' a o) (ht:1≤t':=by first | exact Nat.le_add_left 1 _ | exact Inv.tk (by assumption) | assumption | omega) :
    Inv X pins σ (upd H a o) { s with heap:=h',toks:=t' }:=I.un (Un.laid k hp (I.hok.fresh hp)) (I.hok.laid k hp new) ht
theorem Inv.write {x e:Addr} {o:HO} {t':Nat} (I:Inv X pins σ H s) (mu:Mut (H x)) (he:e=x∨H e=some (.own x)) (k:∀ b u,b ≠ e→s.heap.get? b=some u→h'.get? b=some u) (heo:∃ u,h'.get? e=some u)
    (new:ObjOk X.prog X.w (upd H x o) h' x o) (ht:1≤t':=by first | exact Nat.le_add_left 1 _ | exact Inv.tk (by assumption) | assumption | omega):Inv X pins σ (upd H x o) { s with heap:=h',toks:=t' }:=I.un (Un.write mu he k heo) (I.hok.write mu he k heo new) ht
theorem Inv.pins_of {pins':List (Addr × Obj)} (I:Inv X pins σ H s) (h:∀ p ∈ pins',s.heap.get? p.1=some p.2∧H p.1=none∧p.1 ≠ X.env.locals∧p.1 ∉ X.fs∧∀ v,p.2.data ≠ .cell v):Inv X pins' σ H s :=
  ⟨I.ok,I.os,I.bare,I.base,I.loc,I.cell,I.free,I.freeC,fun p hp=>(List.mem_append.mp hp).elim (fun z=>I.pin p (List.mem_append_left _ z)) (h p),I.hok,I.len,I.tk⟩
theorem nodup_ix {N:List Str} (hN:N.Nodup) {i j:Nat} {x:Str} (a:N[i]?=some x) (b:N[j]?=some x):i=j:=by
  obtain ⟨h1,e1⟩:=List.getElem?_eq_some_iff.mp a
  obtain ⟨h2,e2⟩:=List.getElem?_eq_some_iff.mp b
  exact (List.getElem_inj hN).mp (e1.trans e2.symm)
theorem store_ok2 {M:Model} {A:Around} {E:Value→Shared→Prop} {i:Nat} {x:Str} {v:V} {u:Value} {Q:Unit→Shared→Prop} (I:Inv X pins σ H s) (hN:X.N.Nodup) (hi:X.N[i]?=some x) (hx:Loc X.env.scope x) (r:RelV v u)
    (h:∀ s',Inv X pins (σ.set i (some v)) H s'→(∃ a,Heap.SameBut a s.heap s'.heap∧(a=X.env.locals∨X.env.cells.lookup x=some a))→Q () s') (hf:X.fn x=true∨X.env.scope.names.lookup x=some .local:=by first | exact .inl rfl | exact .inr rfl | assumption):wpAny M A (storeName X.env x u) Q E s:=by
  obtain ⟨m,hn,hl⟩:=id I.loc
  have hcls:(X.env.scope.kind == .class || (X.env.scope.kind == .module && X.env.locals != X.env.globals))=false:=by rw [I.ok.kind]; rfl
  have hiσ:i < σ.length:=by rw [I.len]; exact (List.getElem?_eq_some_iff.mp hi).1
  have cne:=I.cne
  have tracked:∀ {a:Addr} {h':Heap},(∃ o,s.heap.get? a=some o∧H a=none)→Heap.SameBut a s.heap h'→HOk X.prog X.w H h':=fun {a h'} ha hs b ob e=>by
    obtain ⟨_,_,hfree⟩:=ha
    refine (I.hok b ob e).stay (fun c w' hc q=>(hs.2 c ?_).trans q) (fun _ q=>q) fun _ _ q=>q
    rintro rfl
    rcases hc with rfl | hc
    · rw [hfree] at e; cases e
    · rw [hfree] at hc; cases hc
  rcases hx with hk | hk
  · refine wpAny_storeName_local hk hn (fun h' hn' hs=>?_) hcls
    obtain ⟨oL,_,_,hoL,_⟩:=id hn
    refine h _ ⟨I.ok,I.os,I.bare,⟨fun b o e n hb hx=>?_,fun b o e n hb hx=>?_,I.base.free,fun b o e hx=>?_,I.base.tups,I.base.frzs,I.base.tbls⟩,⟨_,hn',fun j y v' e1 e2 e3=>?_⟩,fun y c e=>?_,I.free,I.freeC,fun p hp=>?_,tracked ⟨oL,hoL,I.free⟩ hs,by simpa using I.len,Nat.le_add_left 1 _⟩ ⟨_,hs,.inl rfl⟩
    · exact (hs.2 b (Nat.ne_of_lt (Nat.lt_of_lt_of_le (Heap.lt_size e) I.ok.above))).trans (I.base.keep b o e n hb hx)
    · obtain ⟨sl,e1⟩:=I.base.slot b o e n hb hx
      exact ⟨sl,(hs.2 b (Nat.ne_of_lt (Nat.lt_of_lt_of_le (Heap.lt_size e) I.ok.above))).trans e1⟩
    · obtain ⟨o',e1⟩:=I.base.there b o e hx
      exact ⟨o',(hs.2 b (Nat.ne_of_lt (Nat.lt_of_lt_of_le (Heap.lt_size e) I.ok.above))).trans e1⟩
    · by_cases hj:j=i
      · subst hj
        rw [hi] at e1; cases e1
        rw [List.getElem?_set_self hiσ] at e2
        cases e2
        exact ⟨u,r,.inl ⟨hk,by simp⟩⟩
      · rw [List.getElem?_set_ne (Ne.symm hj)] at e2
        obtain ⟨u',r',q⟩:=hl j y v' e1 e2 e3
        refine ⟨u',r',?_⟩
        rcases q with ⟨k,e⟩ | ⟨k,c,e,z⟩
        · refine .inl ⟨k,?_⟩
          have:y ≠ x:=fun e=>hj (nodup_ix hN e1 (e ▸ hi))
          simp [this,e]
        · exact .inr ⟨k,c,e,z.sameBut hs (cne y c e)⟩
    · obtain ⟨w',z⟩:=I.cell y c e
      exact ⟨w',z.sameBut hs (cne y c e)⟩
    · obtain ⟨e,n,ne,nf,d⟩:=I.pin p hp
      exact ⟨(hs.2 p.1 ne).trans e,n,ne,nf,d⟩
  · have hfn:X.fn x=true:=by
      rcases hf with z | z
      · exact z
      · rw [z] at hk; cases hk
    obtain ⟨c,hc⟩:=I.ok.has x (.inl hk)
    obtain ⟨w',z⟩:=I.cell x c hc
    refine wpAny_storeName_cell I.ok.kind hk hc z (fun h' hc' hs=>?_)
    obtain ⟨oc,hoc,hocd⟩:=id z
    refine h { s with heap:=h' } ⟨I.ok,I.os,I.bare,⟨fun b o e n hb hx=>?_,fun b o e n hb hx=>?_,I.base.free,fun b o e hx=>?_,I.base.tups,I.base.frzs,I.base.tbls⟩,⟨m,hn.sameBut hs (Ne.symm (cne x c hc)),fun j y v' e1 e2 e3=>?_⟩,fun y c' e=>?_,I.free,I.freeC,fun p hp=>?_,tracked ⟨oc,hoc,I.freeC x c hc⟩ hs,by simpa using I.len,I.tk⟩ ⟨c,hs,.inr hc⟩
    · exact (hs.2 b (Nat.ne_of_lt (Nat.lt_of_lt_of_le (Heap.lt_size e) (I.ok.cab x c hfn hc)))).trans (I.base.keep b o e n hb hx)
    · obtain ⟨sl,e1⟩:=I.base.slot b o e n hb hx
      exact ⟨sl,(hs.2 b (Nat.ne_of_lt (Nat.lt_of_lt_of_le (Heap.lt_size e) (I.ok.cab x c hfn hc)))).trans e1⟩
    · obtain ⟨o',e1⟩:=I.base.there b o e hx
      exact ⟨o',(hs.2 b (Nat.ne_of_lt (Nat.lt_of_lt_of_le (Heap.lt_size e) (I.ok.cab x c hfn hc)))).trans e1⟩
    · by_cases hj:j=i
      · subst hj
        rw [hi] at e1; cases e1
        rw [List.getElem?_set_self hiσ] at e2
        cases e2
        exact ⟨u,r,.inr ⟨.inl hk,c,hc,hc'⟩⟩
      · rw [List.getElem?_set_ne (Ne.symm hj)] at e2
        obtain ⟨u',r',q⟩:=hl j y v' e1 e2 e3
        refine ⟨u',r',?_⟩
        rcases q with q | ⟨k,c',e,z'⟩
        · exact .inl q
        · refine .inr ⟨k,c',e,z'.sameBut hs ?_⟩
          rintro rfl
          exact hj (nodup_ix hN e1 (I.ok.inj _ _ _ e hc ▸ hi))
    · by_cases hcc:c'=c
      · subst hcc; exact ⟨_,hc'⟩
      · obtain ⟨w2,z2⟩:=I.cell y c' e
        exact ⟨w2,z2.sameBut hs hcc⟩
    · obtain ⟨e,n,ne,nf,d⟩:=I.pin p hp
      refine ⟨(hs.2 p.1 ?_).trans e,n,ne,nf,d⟩
      intro q
      rw [q,hoc] at e
      have q':oc=p.2:=Option.some.inj e
      exact d w' (by rw [← q']; exact hocd)
theorem store_ok {M:Model} {A:Around} {E:Value→Shared→Prop} {i:Nat} {x:Str} {v:V} {u:Value} {Q:Unit→Shared→Prop} (I:Inv X pins σ H s) (hN:X.N.Nodup) (hi:X.N[i]?=some x) (hx:Loc X.env.scope x) (r:RelV v u)
    (h:∀ s',Inv X pins (σ.set i (some v)) H s'→Q () s') (hf:X.fn x=true∨X.env.scope.names.lookup x=some .local:=by first | exact .inl rfl | exact .inr rfl | assumption):wpAny M A (storeName X.env x u) Q E s :=
  store_ok2 I hN hi hx r (fun s' I' _=>h s' I') hf
theorem Inv.call' {s':Shared} {ch:List Addr} (I:Inv X pins σ H s) (ho:s'.os=s.os) (u:Un (frs X.stack) ch H H' s.heap s'.heap) (hok:HOk X.prog X.w H' s'.heap) (hg:AllBare s'.gens) (ht:1≤s'.toks)
    (hch:∀ b ∈ ch,(b ∈ X.ex∨X.s₀.heap.objs.size≤b)∧b ≠ X.env.locals∧(∀ x c,X.env.cells.lookup x=some c→c ≠ b)∧∀ p ∈ X.pn++pins,p.1 ≠ b):Inv X pins σ H' s':=by
  obtain ⟨h',g',d',t',o'⟩:=s'
  have e:o'=s.os:=ho
  subst e
  exact I.call (g':=g') (t':=t') (d':=d') u hok hg hch ht
end
abbrev XK:=Value→Option Addr→Hp→Prop
abbrev St:=List (Option V)
abbrev VK:=V→Hp→Prop
abbrev TE:=St→Hp→VK→Prop
abbrev TT:=St→Hp→(Bool→Hp→Prop)→Prop
abbrev TA:=St→Hp→(List V→Hp→Prop)→Prop
structure Ends where
  nx:St→Hp→Prop
  rt:VK
  bk:St→Hp→Prop:=fun _ _=>False
  ct:St→Hp→Prop:=fun _ _=>False
abbrev TS:=Ends→St→Hp→Prop
inductive EP (X:Cx) (pins:List (Addr × Obj)) (σ:St) (Q:VK) (u:Value) (s':Shared):Prop where
  | mk:∀ v H',Inv X pins σ H' s'→RelV v u→Q v H'→EP X pins σ Q u s'
inductive TP (X:Cx) (pins:List (Addr × Obj)) (σ:St) (Q:Bool→Hp→Prop) (b:Bool) (s':Shared):Prop where
  | mk:∀ H',Inv X pins σ H' s'→Q b H'→TP X pins σ Q b s'
inductive AP (X:Cx) (pins:List (Addr × Obj)) (σ:St) (Q:List V→Hp→Prop) (us:List Value) (s':Shared):Prop where
  | mk:∀ vs H',Inv X pins σ H' s'→Vals vs us→Q vs H'→AP X pins σ Q us s'
inductive NP (X:Cx) (pins:List (Addr × Obj)) (N:St→Hp→Prop) (s':Shared):Prop where
  | mk:∀ σ' H',Inv X pins σ' H' s'→N σ' H'→NP X pins N s'
inductive RP (X:Cx) (pins:List (Addr × Obj)) (Q:VK) (u:Value) (s':Shared):Prop where
  | mk:∀ v σ' H',Inv X pins σ' H' s'→RelV v u→Q v H'→RP X pins Q u s'
inductive HQ (X:Cx) (pins:List (Addr × Obj)) (σ:St) (Q:Hp→Prop) (s':Shared):Prop where
  | mk:∀ H',Inv X pins σ H' s'→Q H'→HQ X pins σ Q s'
def SP (X:Cx) (pins:List (Addr × Obj)) (D:Ends) (f:Flow) (s':Shared):Prop :=
  match f with
  | .next=>NP X pins D.nx s'
  | .brk=>NP X pins D.bk s'
  | .cont=>NP X pins D.ct s'
  | .ret u=>RP X pins D.rt u s'
def PE (X:Cx) (e:Expr) (t:TE):Prop :=
  ∀ (pins:List (Addr × Obj)) (s:Shared) (σ:St) (H:Hp) (Q:VK),Inv X pins σ H s→t σ H Q→wpAny (model X.prog X.w) X.A (eval e X.env) (EP X pins σ Q) X.xe s
def PT (X:Cx) (e:Expr) (t:TT):Prop :=
  ∀ (pins:List (Addr × Obj)) (s:Shared) (σ:St) (H:Hp) (Q:Bool→Hp→Prop),Inv X pins σ H s→t σ H Q→wpAny (model X.prog X.w) X.A (isTrue e X.env (eval e X.env)) (TP X pins σ Q) X.xe s
def PW (X:Cx) (e:Expr) (t:TT):Prop :=
  ∀ (whole:Sem Value) (pins:List (Addr × Obj)) (s:Shared) (σ:St) (H:Hp) (Q:Bool→Hp→Prop),Inv X pins σ H s→t σ H Q→wpAny (model X.prog X.w) X.A (isTrue e X.env whole) (TP X pins σ Q) X.xe s
theorem PW.pt {X:Cx} {e:Expr} {t:TT} (h:PW X e t):PT X e t:=h _
def PA (X:Cx) (es:List Expr) (t:TA):Prop :=
  ∀ (pos:Pos) (pins:List (Addr × Obj)) (s:Shared) (σ:St) (H:Hp) (Q:List V→Hp→Prop),Inv X pins σ H s→t σ H Q→wpAny (model X.prog X.w) X.A (spliced (backTo pos (starEach es X.env))) (AP X pins σ Q) X.xe s
def PS (X:Cx) (st:Stmt) (t:TS):Prop :=
  ∀ (pins:List (Addr × Obj)) (s:Shared) (σ:St) (H:Hp) (D:Ends),Inv X pins σ H s→t D σ H→wpAny (model X.prog X.w) X.A (exec st X.env) (SP X pins D) X.xe s
def PSs (X:Cx) (st:List Stmt) (t:TS):Prop :=
  ∀ (pins:List (Addr × Obj)) (s:Shared) (σ:St) (H:Hp) (D:Ends),Inv X pins σ H s→t D σ H→wpAny (model X.prog X.w) X.A (execs st X.env) (SP X pins D) X.xe s
theorem thn {α:Type} {t:Sem α} {Q Q':α→Shared→Prop} {M:Model} {A:Around} {E:Value→Shared→Prop} {s:Shared} (h:wpAny M A t Q E s) (hQ:∀ a s,Q a s→Q' a s):wpAny M A t Q' E s:=wpAny_mono h hQ fun _ _ x=>x
end L2
namespace L2
open PySem PySem.Spec PyProof.Rows
section
variable {X:Cx}
inductive tVar (i:Nat) (σ:St) (H:Hp) (Q:VK):Prop where
  | mk:∀ v,(σ[i]?=some (some v))→(Q v H)→tVar i σ H Q
def tC (v:V):TE:=fun _ H Q=>Q v H
theorem pe_var {i:Nat} {x:Str} {pos:Pos} (hN:X.N[i]?=some x) (hv:Vis X.env.scope x) (hd:(x == ("__debug__" : Str))=false:=by decide) (hcd:(x == ("__classdict__" : Str))=false:=by decide):PE X (.Name x pos) (tVar i):=by
  intro pins s σ H Q I h
  obtain ⟨v,e,h⟩:=h
  obtain ⟨m,hn,hl⟩:=I.loc
  obtain ⟨u,r,l⟩:=hl i x v hN e hv
  have fin:EP X pins σ Q u s:=⟨v,H,I,r,h⟩
  rcases l with ⟨hk,hm⟩ | ⟨hk,c,hc,hcell⟩
  · exact wpAny_Name (wpAny_loadName_local I.ok.kind hk hn hm fin) hd
  · rcases hk with hk | hk
    · exact wpAny_Name (wpAny_loadName_cell I.ok.kind hk hc hcell fin) hd
    · exact wpAny_Name (wpAny_loadName_free I.ok.kind hk hc hcell fin hcd) hd
theorem pe_int {i j pos}:PE X (.Constant (.int i) j pos) (tC (.int i)):=fun _ _ _ H _ I h=>wpAny_Constant_int ⟨.int i,H,I.tok _,⟨_,rfl⟩,h⟩
theorem pe_bl {b j pos}:PE X (.Constant (.bool b) j pos) (tC (.bl b)):=fun _ _ _ H _ I h=>Constant_bool ⟨.bl b,H,I,rfl,h⟩
theorem pe_non {j pos}:PE X (.Constant .none j pos) (tC .non):=fun _ _ _ H _ I h=>Constant_none ⟨.non,H,I,rfl,h⟩
theorem pe_str {x j pos}:PE X (.Constant (.str x) j pos) (tC (.str x)):=fun _ _ _ H _ I h=>Calls.Constant_str ⟨.str x,H,I.tok _,relS I.tk,h⟩
def Gl (X:Cx) (x:Str):Prop:=X.env.kindOf x=some .globalImplicit
theorem ld_glob {E:Value→Shared→Prop} {pins:List (Addr × Obj)} {s:Shared} {σ:St} {H:Hp} {x:Str} {u:Value} {pos:Pos} {Q:Value→Shared→Prop} (I:Inv X pins σ H s) (hg:Gl X x) (hm:X.mg x=some u) (h:Q u s)
    (hd:(x == ("__debug__" : Str))=false:=by decide):wpAny (model X.prog X.w) X.A (eval (.Name x pos) X.env) Q E s :=
  Calls.Name_function_global I.ok.kind hg (Calls.loadGlobal_global (by rw [I.ok.glob]; exact I.mod.glob.keeps I.bk) hm h) hd
theorem ld_blt {E:Value→Shared→Prop} {pins:List (Addr × Obj)} {s:Shared} {σ:St} {H:Hp} {x:Str} {u:Value} {pos:Pos} {Q:Value→Shared→Prop} (I:Inv X pins σ H s) (hg:Gl X x) (hm:X.mg x=none) (hv:bootBuiltins x=some u) (h:Q u s)
    (hn:x ≠ "__name__" := by decide) (hd:(x == ("__debug__" : Str))=false:=by decide):wpAny (model X.prog X.w) X.A (eval (.Name x pos) X.env) Q E s:=by
  obtain ⟨mb,h1,h2⟩:=I.mod.blt
  exact Calls.Name_function_global I.ok.kind hg (Calls.loadGlobal_builtin (by rw [I.ok.glob]; exact I.mod.glob.keeps I.bk) hm (by rw [I.ok.blt]; exact h1.keeps I.bk) ((h2 x hn).trans hv) h) hd
theorem pe_glob {x:Str} {v:V} {u:Value} {pos:Pos} (hg:Gl X x) (hm:X.mg x=some u) (r:RelV v u) (hd:(x == ("__debug__" : Str))=false:=by decide):PE X (.Name x pos) (tC v) :=
  fun _ _ _ H _ I h=>ld_glob I hg hm ⟨v,H,I,r,h⟩ hd
theorem pe_bltn {x:Str} {v:V} {u:Value} {pos:Pos} (hg:Gl X x) (hm:X.mg x=none) (hv:bootBuiltins x=some u) (r:RelV v u) (hn:x ≠ "__name__" := by decide) (hd:(x == ("__debug__" : Str))=false:=by decide):PE X (.Name x pos) (tC v) :=
  fun _ _ _ H _ I h=>ld_blt I hg hm hv ⟨v,H,I,r,h⟩ hn hd
inductive Zt2I (k:Int→Int→Hp→Prop) (x:V) (y:V) (H2:Hp):Prop where
  | mk:∀ i j,(x=.int i)→(y=.int j)→(k i j H2)→Zt2I k x y H2
def t2I (ta tb:TE) (k:Int→Int→Hp→Prop):St→Hp→Prop:=fun σ H=>ta σ H fun x H1=>tb σ H1 fun y H2=>Zt2I k x y H2
def tAdd (ta tb:TE):TE:=fun σ H Q=>t2I ta tb (fun i j H2=>Q (.int (i+j)) H2) σ H
def tSub (ta tb:TE):TE:=fun σ H Q=>t2I ta tb (fun i j H2=>Q (.int (i - j)) H2) σ H
def tMul (ta tb:TE):TE:=fun σ H Q=>t2I ta tb (fun i j H2=>(-(2 ^ 64) < i∧i < 2 ^ 64)∧Q (.int (i*j)) H2) σ H
variable {a b:Expr} {ta tb:TE} {pos:Pos}
def PC (X:Cx) (op:CmpOp) (a b:Expr) (t:TE):Prop :=
  ∀ (pins:List (Addr × Obj)) (s:Shared) (σ:St) (H:Hp) (Q:VK),Inv X pins σ H s→t σ H Q →
    wpAny (model X.prog X.w) X.A (eval a X.env) (fun v s₁=>wpAny (model X.prog X.w) X.A (eval b X.env) (fun u s₂=>wpAny (model X.prog X.w) X.A (compareOp op v u) (EP X pins σ Q) X.xe s₂) X.xe s₁) X.xe s
def tCmp (p:Int→Int→Bool) (ta tb:TE):TE:=fun σ H Q=>t2I ta tb (fun i j H2=>Q (.bl (p i j)) H2) σ H
abbrev tLt:TE→TE→TE:=tCmp fun i j=>decide (i < j)
abbrev tLe:TE→TE→TE:=tCmp fun i j=>decide (i≤j)
abbrev tGt:TE→TE→TE:=tCmp fun i j=>decide (j < i)
abbrev tGe:TE→TE→TE:=tCmp fun i j=>decide (j≤i)
abbrev tEqI:TE→TE→TE:=tCmp fun i j=>decide (i=j)
abbrev tNeI:TE→TE→TE:=tCmp fun i j=>!decide (i=j)
def tIsN (ta:TE):TE:=fun σ H Q=>ta σ H fun x H1=>Q (.bl (decide (x=.non))) H1
def tNotN (ta:TE):TE:=fun σ H Q=>ta σ H fun x H1=>Q (.bl (!decide (x=.non))) H1
inductive ZtB (Q:(Bool→Hp→Prop)) (x:V) (H1:Hp):Prop where
  | mk:∀ c,(x=.bl c)→(Q c H1)→ZtB Q x H1
def tB (t:TE):TT:=fun σ H Q=>t σ H fun x H1=>ZtB Q x H1
theorem pt_val {e:Expr} {t:TE} (h:PE X e t) (he:∀ whole,isTrue e X.env whole=(do let v ← whole; standAt e.pos; holding [v] (truthy v)):=by intro _; rfl):PT X e (tB t):=by
  intro pins s σ H Q I hw
  refine isTrue_plain (thn (h pins s σ H _ I hw) fun v s1 ⟨x,H1,I1,r1,q1⟩=>?_) (he _)
  obtain ⟨d,rfl,q⟩:=q1
  cases r1
  exact wpAny_truthy_bool ⟨H1,I1,q⟩
variable {tA tB':TT} {rest:List Expr}
def tAnd (t u:TT):TT:=fun σ H Q=>t σ H fun c H1=>if c=true then u σ H1 Q else Q false H1
def tOr (t u:TT):TT:=fun σ H Q=>t σ H fun c H1=>if c=true then Q true H1 else u σ H1 Q
def tNot (t:TT):TT:=fun σ H Q=>t σ H fun c H1=>Q (!c) H1
theorem pw_and1 (ha:PT X a tA):PW X (.BoolOp .And [a] pos) tA:=by
  intro wh pins s σ H Q I h
  refine isTrue_and (thn (ha pins s σ H Q I h) fun c s1 e=>?_)
  cases c with
  | true=>exact isTrue_and_nil e
  | false=>exact e
theorem pw_or1 (ha:PT X a tA):PW X (.BoolOp .Or [a] pos) tA:=by
  intro wh pins s σ H Q I h
  refine isTrue_or (thn (ha pins s σ H Q I h) fun c s1 e=>?_)
  cases c with
  | false=>exact isTrue_or_nil e
  | true=>exact e
theorem pw_and (ha:PT X a tA) (hb:PW X (.BoolOp .And (b::rest) pos) tB'):PW X (.BoolOp .And (a::b::rest) pos) (tAnd tA tB'):=by
  intro wh pins s σ H Q I h
  refine isTrue_and (thn (ha pins s σ H _ I h) fun c s1 ⟨H1,I1,q1⟩=>?_)
  cases c with
  | true=>exact hb wh pins s1 σ H1 Q I1 q1
  | false=>exact ⟨H1,I1,q1⟩
theorem pw_or (ha:PT X a tA) (hb:PW X (.BoolOp .Or (b::rest) pos) tB'):PW X (.BoolOp .Or (a::b::rest) pos) (tOr tA tB'):=by
  intro wh pins s σ H Q I h
  refine isTrue_or (thn (ha pins s σ H _ I h) fun c s1 ⟨H1,I1,q1⟩=>?_)
  cases c with
  | true=>exact ⟨H1,I1,q1⟩
  | false=>exact hb wh pins s1 σ H1 Q I1 q1
theorem pt_not (ha:PT X a tA):PT X (.UnaryOp .Not a pos) (tNot tA):=by
  intro pins s σ H Q I h
  exact isTrue_not (thn (ha pins s σ H (fun c H1=>Q (!c) H1) I h) fun _ _ ⟨a,b,c⟩=>⟨a,b,c⟩)
inductive ZtAndV (tb:TE) (σ:St) (Q:VK) (x:V) (H1:Hp):Prop where
  | mk:∀ c,(x=.bl c)→(if c=true then tb σ H1 Q else Q (.bl false) H1)→ZtAndV tb σ Q x H1
def tAndV (ta tb:TE):TE:=fun σ H Q=>ta σ H fun x H1=>ZtAndV tb σ Q x H1
inductive ZtOrV (tb:TE) (σ:St) (Q:VK) (x:V) (H1:Hp):Prop where
  | mk:∀ c,(x=.bl c)→(if c=true then Q (.bl true) H1 else tb σ H1 Q)→ZtOrV tb σ Q x H1
def tOrV (ta tb:TE):TE:=fun σ H Q=>ta σ H fun x H1=>ZtOrV tb σ Q x H1
inductive ZtNotV (Q:VK) (x:V) (H1:Hp):Prop where
  | mk:∀ c,(x=.bl c)→(Q (.bl (!c)) H1)→ZtNotV Q x H1
def tNotV (ta:TE):TE:=fun σ H Q=>ta σ H fun x H1=>ZtNotV Q x H1
theorem pe_one {op} {t:TE} (h:PE X a t):PE X (.BoolOp op [a] pos) t:=fun pins s σ H Q I hw=>BoolOp_one (h pins s σ H Q I hw)
theorem pe_and (ha:PE X a ta) (hb:PE X (.BoolOp .And (b::rest) pos) tb):PE X (.BoolOp .And (a::b::rest) pos) (tAndV ta tb):=by
  intro pins s σ H Q I h
  refine BoolOp_and (thn (ha pins s σ H _ I h) fun v s1 ⟨x,H1,I1,r1,q1⟩=>?_)
  obtain ⟨c,rfl,q1⟩:=q1
  cases r1
  refine wpAny_truthy_bool ?_
  cases c with
  | true=>exact hb pins s1 σ H1 Q I1 q1
  | false=>exact ⟨.bl false,H1,I1,rfl,q1⟩
theorem pe_or (ha:PE X a ta) (hb:PE X (.BoolOp .Or (b::rest) pos) tb):PE X (.BoolOp .Or (a::b::rest) pos) (tOrV ta tb):=by
  intro pins s σ H Q I h
  refine BoolOp_or (thn (ha pins s σ H _ I h) fun v s1 ⟨x,H1,I1,r1,q1⟩=>?_)
  obtain ⟨c,rfl,q1⟩:=q1
  cases r1
  refine wpAny_truthy_bool ?_
  cases c with
  | false=>exact hb pins s1 σ H1 Q I1 q1
  | true=>exact ⟨.bl true,H1,I1,rfl,q1⟩
def tIf (t:TT) (ta tb:TE):TE:=fun σ H Q=>t σ H fun c H1=>if c=true then ta σ H1 Q else tb σ H1 Q
theorem pe_ifExp {c:Expr} (hc:PT X c tA) (ha:PE X a ta) (hb:PE X b tb):PE X (.IfExp c a b pos) (tIf tA ta tb):=by
  intro pins s σ H Q I h
  refine wpAny_IfExp (thn (hc pins s σ H _ I h) fun d s1 ⟨H1,I1,q1⟩=>?_)
  cases d with
  | true=>exact ha pins s1 σ H1 Q I1 q1
  | false=>exact hb pins s1 σ H1 Q I1 q1
end
end L2
namespace L2
open PySem PySem.Spec PyProof.Rows
def SqL (K:PySem.W.Frag) (H:Hp) (a:Addr) (xs:List V):Prop :=
  Rd H a (.lst xs) ∨
    ∃ (o:Obj) (its:Array Value) (n:Nat),K.lookup a=some o∧o.cls=.type "list" ∧ o.dict=none∧o.data=.seq its n∧its.size≤sizeLine∧Vals xs its.toList
def SqT (K:PySem.W.Frag) (H:Hp) (a:Addr) (xs:List V):Prop :=
  Rd H a (.tup xs) ∨
    ∃ (o:Obj) (its:Array Value) (n:Nat),K.lookup a=some o∧o.cls=.type "tuple" ∧ o.data=.seq its n∧its.size≤sizeLine∧Vals xs its.toList
def absV:Value→Option V
  | .none=>some .non
  | .bool b=>some (.bl b)
  | .int i _=>some (.int i)
  | .str x _=>some (.str x)
  | .bytes b _=>some (.byt b)
  | .float b _=>some (.flt b)
  | .ref a=>some (.ref a)
  | .type n=>some (.ty n)
  | _=>none
theorem RelV.abs {x:V} {u:Value} (r:RelV x u):absV u=some x:=by
  cases x with
  | non=>cases r; rfl
  | bl _=>cases r; rfl
  | int _=>obtain ⟨t,rfl⟩:=r; rfl
  | str _=>obtain ⟨t,rfl⟩:=r; rfl
  | byt _=>obtain ⟨t,rfl⟩:=r; rfl
  | flt _=>obtain ⟨t,rfl⟩:=r; rfl
  | ref _=>cases r; rfl
  | ty _=>cases r; rfl
theorem RelV.inj {x y:V} {u:Value} (r:RelV x u) (q:RelV y u):x=y:=Option.some.inj (r.abs.symm.trans q.abs)
theorem Vals.inj:∀ {xs ys:List V} {us:List Value},Vals xs us→Vals ys us→xs=ys
  | _,_,_,.nil,.nil=>rfl
  | _,_,_,.cons r t,.cons r' t'=>by rw [r.inj r',Vals.inj t t']
section
variable {X:Cx} {pins:List (Addr × Obj)} {σ:St} {H:Hp} {s:Shared} {a:Addr} {xs ys:List V}
theorem SqL.of {K:PySem.W.Frag} (h:H a=some (.lst xs)):SqL K H a xs:=.inl (.inl h)
theorem SqT.of {K:PySem.W.Frag} (h:H a=some (.tup xs)):SqT K H a xs:=.inl (.inl h)
theorem Inv.list (I:Inv X pins σ H s) (h:SqL X.K H a xs):∃ its:List Value,Vals xs its∧PlainL s.heap a its.toArray∧xs.length≤sizeLine:=by
  rcases h with h | ⟨o,its,n,hk,hc,hd,hs,hz,r⟩
  · obtain ⟨z,its,n,r,e⟩:=h.ok I.hok
    exact ⟨its,r,⟨_,n,e,rfl,rfl,rfl⟩,z⟩
  · refine ⟨its.toList,r,⟨o,n,I.kIn a o hk,hc,hd,by simpa using hs⟩,?_⟩
    have e:=r.length
    simp only [Array.length_toList] at e
    omega
theorem Inv.tuple (I:Inv X pins σ H s) (h:SqT X.K H a xs):∃ its:List Value,Vals xs its∧IsTup s.heap a its.toArray∧xs.length≤sizeLine:=by
  rcases h with h | ⟨o,its,n,hk,hc,hs,hz,r⟩
  · obtain ⟨z,its,r,p,_⟩:=h.ok I.hok
    exact ⟨its,r,p,z⟩
  · refine ⟨its.toList,r,⟨o,I.kIn a o hk,hc,n,by simpa using hs⟩,?_⟩
    have e:=r.length
    simp only [Array.length_toList] at e
    omega
theorem Inv.list_inj (I:Inv X pins σ H s) (h:SqL X.K H a xs) (h':SqL X.K H a ys):xs=ys:=by
  obtain ⟨its,r,⟨o,n,e,_,_,d⟩,_⟩:=I.list h
  obtain ⟨its',r',⟨o',n',e',_,_,d'⟩,_⟩:=I.list h'
  rw [e] at e'; cases e'
  rw [d] at d'
  injection d' with d1 _
  have:its=its':=by simpa using congrArg Array.toList d1
  subst this
  exact r.inj r'
theorem Inv.tuple_inj (I:Inv X pins σ H s) (h:SqT X.K H a xs) (h':SqT X.K H a ys):xs=ys:=by
  obtain ⟨its,r,⟨o,e,_,n,d⟩,_⟩:=I.tuple h
  obtain ⟨its',r',⟨o',e',_,n',d'⟩,_⟩:=I.tuple h'
  rw [e] at e'; cases e'
  rw [d] at d'
  injection d' with d1 _
  have:its=its':=by simpa using congrArg Array.toList d1
  subst this
  exact r.inj r'
end
abbrev Cx.wish (X:Cx) (E:Value→Shared→Prop):Cx:={ X with xe:=E }
abbrev Cx.nox (X:Cx):Cx:=X.wish fun _ _=>False
theorem Cx.Ok.wish {X:Cx} (ok:X.Ok) (E:Value→Shared→Prop):(X.wish E).Ok :=
  ⟨ok.mod,ok.kind,ok.glob,ok.blt,ok.above,ok.inj,ok.has,ok.cab,ok.hd,ok.frames,ok.stk,ok.exf,ok.bs,ok.bsz,ok.noex,ok.exfs,ok.funs,ok.frf⟩
theorem Cx.Ok.unwish {X:Cx} {E:Value→Shared→Prop} (ok:(X.wish E).Ok):X.Ok :=
  ⟨ok.mod,ok.kind,ok.glob,ok.blt,ok.above,ok.inj,ok.has,ok.cab,ok.hd,ok.frames,ok.stk,ok.exf,ok.bs,ok.bsz,ok.noex,ok.exfs,ok.funs,ok.frf⟩
section
variable {X:Cx} {pins:List (Addr × Obj)} {σ:St} {H:Hp} {s:Shared} {E:Value→Shared→Prop}
theorem Inv.wish (I:Inv X pins σ H s) (E:Value→Shared→Prop):Inv (X.wish E) pins σ H s:=⟨I.ok.wish E,I.os,I.bare,I.base,I.loc,I.cell,I.free,I.freeC,I.pin,I.hok,I.len,I.tk⟩
theorem Inv.unwish (I:Inv (X.wish E) pins σ H s):Inv X pins σ H s:=⟨I.ok.unwish,I.os,I.bare,I.base,I.loc,I.cell,I.free,I.freeC,I.pin,I.hok,I.len,I.tk⟩
theorem SP.unwish {D:Ends} {f:Flow} {s':Shared} (h:SP (X.wish E) pins D f s'):SP X pins D f s':=by
  cases f with
  | next=>obtain ⟨σ',H',I,q⟩:=h; exact ⟨σ',H',I.unwish,q⟩
  | brk=>obtain ⟨σ',H',I,q⟩:=h; exact ⟨σ',H',I.unwish,q⟩
  | cont=>obtain ⟨σ',H',I,q⟩:=h; exact ⟨σ',H',I.unwish,q⟩
  | ret u=>obtain ⟨v,σ',H',I,r,q⟩:=h; exact ⟨v,σ',H',I.unwish,r,q⟩
theorem PSs.nox {st:List Stmt} {t:TS} (h:PSs X.nox st t):PSs X st t:=fun pins s σ H D I hw =>
  wpAny_mono (h pins s σ H D (I.wish _) hw) (fun _ _ q=>q.unwish) fun _ _ z=>False.elim z
end
section
variable {X:Cx} {st:Stmt} {rest:List Stmt} {t u:TS} {e:Expr} {te:TE} {pos:Pos}
def tNext:TS:=fun D σ H=>D.nx σ H
def tSeq (t u:TS):TS:=fun D σ H=>t { D with nx:=u D } σ H
theorem pss_nil:PSs X [] tNext:=fun _ _ σ H _ I h=>wpAny_execs_nil ⟨σ,H,I,h⟩
theorem pss_cons (h1:PS X st t) (h2:PSs X rest u):PSs X (st::rest) (tSeq t u):=by
  intro pins s σ H D I h
  refine wpAny_execs_cons (thn (h1 pins s σ H { D with nx:=u D } I h) fun f s1 q=>?_)
  cases f with
  | next =>
    obtain ⟨σ',H',I',q⟩:=q
    exact h2 pins s1 σ' H' D I' q
  | ret v=>exact q
  | brk=>exact q
  | cont=>exact q
theorem pss_one (h1:PS X st t):PSs X [st] t:=by
  intro pins s σ H D I h
  refine wpAny_execs_cons (thn (h1 pins s σ H D I h) fun f s1 q=>?_)
  cases f with
  | next=>exact wpAny_execs_nil q
  | ret v=>exact q
  | brk=>exact q
  | cont=>exact q
def tBreak:TS:=fun D σ H=>D.bk σ H
def tCont:TS:=fun D σ H=>D.ct σ H
theorem Inv.quiet {pins:List (Addr × Obj)} {σ:St} {H:Hp} {s:Shared} (I:Inv X pins σ H s):interactive X.env=false:=by simp [interactive,I.ok.kind]
def tDrop (te:TE):TS:=fun D σ H=>te σ H fun _ H1=>D.nx σ H1
theorem ps_expr (he:PE X e te) (hs:swapsWith e none pos.line X.env=pure false:=by rfl):PS X (.Expr e pos) (tDrop te):=by
  intro pins s σ H D I h
  exact wpAny_Expr_any (thn (he pins s σ H _ I h) fun v s1 ⟨x,H1,I1,r1,q1⟩=>⟨σ,H1,I1,q1⟩) I.quiet hs
def tRet (te:TE):TS:=fun D σ H=>te σ H D.rt
theorem ps_ret (he:PE X e te):PS X (.Return (some e) pos) (tRet te):=by
  intro pins s σ H D I h
  exact wpAny_Return_some (thn (he pins s σ H _ I h) fun v s1 ⟨x,H1,I1,r1,q1⟩=>⟨x,σ,H1,I1,r1,q1⟩)
def tRetN:TS:=fun D _ H=>D.rt .non H
def tIfS (c:TT) (t u:TS):TS:=fun D σ H=>c σ H fun b H1=>if b=true then t D σ H1 else u D σ H1
theorem ps_if {c:Expr} {a b:List Stmt} {tc:TT} (hc:PT X c tc) (ha:PSs X a t) (hb:PSs X b u):PS X (.If c a b pos) (tIfS tc t u):=by
  intro pins s σ H D I h
  refine wpAny_If (thn (hc pins s σ H _ I h) fun d s1 ⟨H1,I1,q1⟩=>?_)
  cases d with
  | true=>exact ha pins s1 σ H1 D I1 q1
  | false=>exact hb pins s1 σ H1 D I1 q1
def tNever:TS:=fun _ _ _=>False
theorem pss_never {sts:List Stmt}:PSs X sts tNever:=fun _ _ _ _ _ _ h=>h.elim
end
abbrev TG:=V→St→Hp→(St→Hp→Prop)→Prop
abbrev TGs:=List V→St→Hp→(St→Hp→Prop)→Prop
def PG (X:Cx) (target:Expr) (t:TG):Prop :=
  ∀ (pins:List (Addr × Obj)) (s:Shared) (σ:St) (H:Hp) (v:V) (u:Value) (Q:St→Hp→Prop),Inv X pins σ H s→RelV v u→t v σ H Q →
    wpAny (model X.prog X.w) X.A (assign target X.env u) (fun _ s'=>NP X pins Q s') X.xe s
def PGs (X:Cx) (ts:List Expr) (t:TGs):Prop :=
  ∀ (pins:List (Addr × Obj)) (s:Shared) (σ:St) (H:Hp) (vs:List V) (us:List Value) (Q:St→Hp→Prop),Inv X pins σ H s→Vals vs us→t vs σ H Q →
    wpAny (model X.prog X.w) X.A (assignInOrder ((assignEach ts X.env).map (·.2)) us) (fun _ s'=>NP X pins Q s') X.xe s
abbrev TSet:=V→V→V→Hp→(Hp→Prop)→Prop
def PSet (X:Cx) (t:TSet):Prop :=
  ∀ (pins:List (Addr × Obj)) (s:Shared) (σ:St) (H:Hp) (o i v:V) (ov iv u:Value) (Q:Hp→Prop),Inv X pins σ H s→RelV o ov→RelV i iv→RelV v u→t o i v H Q →
    wpAny (model X.prog X.w) X.A (setItem ov iv u) (fun _ s'=>HQ X pins σ Q s') X.xe s
abbrev TIp:=V→V→Hp→VK→Prop
def PIp (X:Cx) (op:Operator) (t:TIp):Prop :=
  ∀ (pins:List (Addr × Obj)) (s:Shared) (σ:St) (H:Hp) (x y:V) (v u:Value) (Q:VK),Inv X pins σ H s→RelV x v→RelV y u→t x y H Q →
    wpAny (model X.prog X.w) X.A (inplaceOp op v u) (EP X pins σ Q) X.xe s
section
variable {X:Cx} {pos:Pos}
def gName (i:Nat):TG:=fun v σ H Q=>Q (σ.set i (some v)) H
theorem pg_name {i:Nat} {x:Str} (hN:X.N.Nodup) (hi:X.N[i]?=some x) (hx:Loc X.env.scope x) (hf:X.fn x=true∨X.env.scope.names.lookup x=some .local:=by first | exact .inl rfl | exact .inr rfl | assumption):PG X (.Name x pos) (gName i):=by
  intro pins s σ H v u Q I r h
  exact wpAny_assign_Name (store_ok I hN hi hx r (fun s' I'=>⟨_,H,I',h⟩) hf)
inductive gNil (vs:List V) (σ:St) (H:Hp) (Q:(St→Hp→Prop)):Prop where
  | mk:(vs=[])→(Q σ H)→gNil vs σ H Q
inductive gCons (t:TG) (u:TGs) (vs:List V) (σ:St) (H:Hp) (Q:(St→Hp→Prop)):Prop where
  | mk:∀ v r,(vs=v::r)→(t v σ H fun σ' H'=>u r σ' H' Q)→gCons t u vs σ H Q
theorem pgs_nil:PGs X [] gNil:=by
  intro pins s σ H vs us Q I r h
  obtain ⟨e,h⟩:=h
  subst e
  cases r
  exact assignInOrder_nil ⟨σ,H,I,h⟩
theorem pgs_cons {e:Expr} {es:List Expr} {t:TG} {u:TGs} (h1:PG X e t) (h2:PGs X es u)
    (hs:(assignEach (e::es) X.env).map (·.2)=assign e X.env::(assignEach es X.env).map (·.2):=by rfl):PGs X (e::es) (gCons t u):=by
  intro pins s σ H vs us Q I r h
  obtain ⟨v,vr,e1,h⟩:=h
  subst e1
  cases r with
  | cons r rr =>
    rw [hs]
    refine assignInOrder_cons (thn (h1 pins s σ H _ _ _ I r h) fun _ s1 ⟨σ1,H1,I1,q1⟩=>?_)
    exact h2 pins s1 σ1 H1 _ _ Q I1 rr q1
inductive gTup (K:PySem.W.Frag) (n:Nat) (t:TGs) (v:V) (σ:St) (H:Hp) (Q:(St→Hp→Prop)):Prop where
  | mk:∀ a xs,(v=.ref a)→(SqT K H a xs)→(xs.length=n)→(t xs σ H Q)→gTup K n t v σ H Q
theorem pg_tup {es:List Expr} {k:Nat} {t:TGs} {n:Nat} (hc:X.calm=true) (h:PGs X es t)
    (hn:(assignEach es X.env).length=n:=by rfl) (hst:(assignEach es X.env).findIdx? (·.1)=none:=by rfl):PG X (.Tuple es k pos) (gTup X.K n t):=by
  intro pins s σ H v u Q I r hw
  obtain ⟨a,xs,e1,hq,hl,hw⟩:=hw
  subst e1
  cases r
  obtain ⟨its,rv,ht,hz⟩:=I.tuple hq
  refine assign_Tuple_tuple (I.ok.hd hc) ht (by simp [hn,← hl,rv.length]) hst fun h' hx=>?_
  have I1:Inv X pins σ H { s with heap:=h' }:=I.kept (t':=s.toks) fun b o e=>hx b o (Nat.ne_of_lt (Heap.lt_size e)) e
  exact h pins _ σ H xs _ Q I1 (by simpa using rv) hw
def gSub (to ti:TE) (t:TSet):TG:=fun v σ H Q=>to σ H fun o H1=>ti σ H1 fun i H2=>t o i v H2 fun H3=>Q σ H3
theorem pg_sub {o i:Expr} {to ti:TE} {t:TSet} (ho:PE X o to) (hi:PE X i ti) (hs:PSet X t)
    (ha:∀ v,assign (.Subscript o i pos) X.env v=(do
      let ov ← holding [v] (eval o X.env)
      let iv ← holding [v,ov] (eval i X.env)
      standAt pos
      holding [v,ov,iv] (setItem ov iv v)
      release [v,ov,iv] []):=by intro _; rfl):PG X (.Subscript o i pos) (gSub to ti t):=by
  intro pins s σ H v u Q I r h
  rw [ha]
  refine wpAny_bind (wpAny_holding (thn (ho pins s σ H _ I h) fun ov s1 ⟨x,H1,I1,r1,q1⟩=>?_))
  refine wpAny_bind (wpAny_holding (thn (hi pins s1 σ H1 _ I1 q1) fun iv s2 ⟨y,H2,I2,r2,q2⟩=>?_))
  refine wpAny_bind (wpAny_standAt (wpAny_bind (wpAny_holding (thn (hs pins s2 σ H2 x y v ov iv u _ I2 r1 r2 r q2) fun _ s3 ⟨H3,I3,q3⟩=>?_))))
  exact wpAny_release ⟨σ,H3,I3,q3⟩
def tAsg (te:TE) (g:TG):TS:=fun D σ H=>te σ H fun x H1=>g x σ H1 D.nx
theorem ps_asg {tg e:Expr} {te:TE} {g:TG} (he:PE X e te) (hg:PG X tg g) (hs:swapsWithSole [tg] e pos.line X.env=pure false:=by rfl) (hw:swappedStores [tg] e X.env=pure none:=by rfl)
    (h1:(assignEach [tg] X.env).map (·.2)=[assign tg X.env]:=by rfl):PS X (.Assign [tg] e pos) (tAsg te g):=by
  intro pins s σ H D I h
  refine wpAny_Assign_stores (thn (he pins s σ H _ I h) fun v s1 ⟨x,H1,I1,r1,q1⟩=>?_) hs hw
  rw [h1]
  exact thn (hg pins s1 σ H1 x v _ I1 r1 q1) fun _ s2 q=>q
theorem ps_set {i:Nat} {x:Str} {e:Expr} {te:TE} {pos':Pos} (hN:X.N.Nodup) (hi:X.N[i]?=some x) (hx:Loc X.env.scope x) (he:PE X e te) (hs:swapsWith e (some (.Name x pos')) pos.line X.env=pure false:=by rfl) (hf:X.fn x=true∨X.env.scope.names.lookup x=some .local:=by first | exact .inl rfl | exact .inr rfl | assumption) :
    PS X (.Assign [.Name x pos'] e pos) (tAsg te (gName i)):=by
  intro pins s σ H D I h
  refine wpAny_Assign_Name (thn (he pins s σ H _ I h) fun v s1 ⟨y,H1,I1,r1,q1⟩=>?_) hs
  exact store_ok I1 hN hi hx r1 (fun s2 I2=>⟨_,H1,I2,q1⟩) hf
inductive ZtPar (i:Nat) (j:Nat) (D:Ends) (σ:St) (vs:(List V)) (H1:Hp):Prop where
  | mk:∀ v w,(vs=[v,w])→(D.nx ((σ.set i (some v)).set j (some w)) H1)→ZtPar i j D σ vs H1
def tPar (i j:Nat) (ta:TA):TS:=fun D σ H=>ta σ H fun vs H1=>ZtPar i j D σ vs H1
inductive tAug (i:Nat) (te:TE) (ti:TIp) (D:Ends) (σ:St) (H:Hp):Prop where
  | mk:∀ x,(σ[i]?=some (some x))→(te σ H fun y H1=>ti x y H1 fun z H2=>D.nx (σ.set i (some z)) H2)→tAug i te ti D σ H
def tAugS (to ti te:TE) (tget:V→V→Hp→VK→Prop) (tip:TIp) (tset:TSet):TS:=fun D σ H=>to σ H fun o H1=>ti σ H1 fun i H2=>tget o i H2 fun x H3=>te σ H3 fun y H4=>tip x y H4 fun z H5=>tset o i z H5 fun H6=>D.nx σ H6
def PGet (X:Cx) (t:V→V→Hp→VK→Prop):Prop :=
  ∀ (pins:List (Addr × Obj)) (s:Shared) (σ:St) (H:Hp) (o i:V) (ov iv:Value) (Q:VK),Inv X pins σ H s→RelV o ov→RelV i iv→t o i H Q →
    wpAny (model X.prog X.w) X.A (getItem ov iv) (EP X pins σ Q) X.xe s
inductive ipI (f:Int→Int→Int) (x:V) (y:V) (H:Hp) (Q:VK):Prop where
  | mk:∀ i j,(x=.int i)→(y=.int j)→(Q (.int (f i j)) H)→ipI f x y H Q
end
section
variable {X:Cx} {pos:Pos}
def tWhile (c:TT) (tb:TS):TS:=fun D σ H=>∃ W:Nat→St→Hp→Prop,(∃ m,W m σ H)∧∀ m σ H,W m σ H →
  c σ H fun b H1=>if b=true then ∃ N:St→Hp→Prop,(∀ σ' H',N σ' H'→∃ m',m' < m∧W m' σ' H')∧tb { D with nx:=N,ct:=N,bk:=D.nx } σ H1 else D.nx σ H1
theorem ps_while {c:Expr} {body:List Stmt} {tc:TT} {tb:TS} (hp:PassesOwn (model X.prog X.w) X.A X.env X.xe) (hc:PT X c tc) (hb:PSs X body tb):PS X (.While c body [] pos) (tWhile tc tb):=by
  intro pins s σ H D I h
  obtain ⟨W,⟨m0,w0⟩,turn⟩:=h
  refine wpAny_While (codeAny_whileLoop (fun n s'=>NP X pins (W n) s') ?_ m0 ⟨σ,H,I,w0⟩)
  rintro n s1 ⟨σ1,H1,I1,w1⟩
  refine wpAny_passesOwn hp (thn (hc pins s1 σ1 H1 _ I1 (turn n σ1 H1 w1)) fun b s2 ⟨H2,I2,q2⟩=>?_)
  cases b with
  | true =>
    obtain ⟨N,hN,q2⟩:=q2
    rw [if_pos rfl]
    refine wpAny_passesOwn hp (thn (hb pins s2 σ1 H2 _ I2 q2) fun f s3 q3=>?_)
    cases f with
    | next =>
      obtain ⟨σ3,H3,I3,n3⟩:=q3
      obtain ⟨m',hm,w3⟩:=hN σ3 H3 n3
      exact ⟨m',hm,σ3,H3,I3,w3⟩
    | cont =>
      obtain ⟨σ3,H3,I3,n3⟩:=q3
      obtain ⟨m',hm,w3⟩:=hN σ3 H3 n3
      exact ⟨m',hm,σ3,H3,I3,w3⟩
    | brk=>exact q3
    | ret v=>exact q3
  | false =>
    rw [if_neg Bool.false_ne_true]
    exact wpAny_execs_nil ⟨σ1,H2,I2,q2⟩
end
structure It where
  go:Nat→Hp→Prop
  yld:Nat→Hp→V→Hp→Prop
  stop:Nat→Hp→Prop
def FpOk (X:Cx) (pins:List (Addr × Obj)) (H:Hp) (b:Addr):Prop :=
  H b=none∧b ≠ X.env.locals∧b ∉ X.fs∧(b ∈ X.ex∨X.s₀.heap.objs.size≤b)∧(∀ x c,X.env.cells.lookup x=some c→c ≠ b)∧∀ p ∈ X.pn++pins,p.1 ≠ b
theorem Inv.fpOk {X:Cx} {pins:List (Addr × Obj)} {σ:St} {H H':Hp} {s:Shared} {b:Addr} (I:Inv X pins σ H s) (hb:s.heap.objs.size≤b) (hn:H' b=none):FpOk X pins H' b:=by
  refine ⟨hn,Nat.ne_of_gt (Nat.lt_of_lt_of_le I.lt hb),I.nofs hb,.inr (Nat.le_trans I.sz hb),fun x c e z=>?_,fun p hp z=>?_⟩
  · obtain ⟨v,q⟩:=I.cell x c e
    exact absurd (Nat.lt_of_lt_of_le q.lt (by rw [z]; exact hb)) (Nat.lt_irrefl _)
  · exact absurd (Nat.lt_of_lt_of_le (Heap.lt_size (I.pin p hp).1) (by rw [z]; exact hb)) (Nat.lt_irrefl _)
structure Turn (P:Program) (w:World) (K:PySem.W.Frag) (tg:Expr) (J:It) (fp:List Addr) (it:Addr) (tn:Nat→Heap→Prop):Prop where
  mem:it ∈ fp
  obj:∀ i h,tn i h→∀ b ∈ fp,∃ o,h.get? b=some o∧∀ v,o.data ≠ .cell v
  keep:∀ i h h',tn i h→(∀ b ∈ fp,∀ o,h.get? b=some o→h'.get? b=some o)→tn i h'
  item:∀ (X:Cx),X.prog=P→X.w=w→X.K=K→X.calm=true→∀ (i:Nat) (pins:List (Addr × Obj)) (s:Shared) (σ:St) (H:Hp) (E:Value→Shared→Prop),Inv X pins σ H s→(∀ b ∈ fp,FpOk X pins H b)→tn i s.heap→J.go i H →
    wpAny (model P w) X.A (pyNext (.ref it)) (fun r s1=>∃ u,r=some u ∧
      wpAny (model P w) X.A (letOwnedTupleGo tg (.ref it) u) (fun _ s2=>∃ x H',Inv X pins σ H' s2∧RelV x u∧J.yld i H x H'∧tn (i+1) s2.heap∧∀ b ∈ fp,H' b=none) E s1) E s
  done:∀ (X:Cx),X.prog=P→X.w=w→X.K=K→X.calm=true→∀ (i:Nat) (pins:List (Addr × Obj)) (s:Shared) (σ:St) (H:Hp) (E:Value→Shared→Prop),Inv X pins σ H s→(∀ b ∈ fp,FpOk X pins H b)→tn i s.heap→J.stop i H →
    wpAny (model P w) X.A (pyNext (.ref it)) (fun r s1=>r=none∧Inv X pins σ H s1) E s
  self:∀ (A:Around) (i:Nat) (s:Shared) (Q:Value→Shared→Prop) (E:Value→Shared→Prop),tn i s.heap→Q (.ref it) s→wpAny (model P w) A (pyIter (.ref it)) Q E s
abbrev TI:=St→Hp→(It→Hp→Prop)→Prop
def PIE (X:Cx) (pins:List (Addr × Obj)) (σ:St) (tg:Expr) (R:It→Hp→Prop) (itv:Value) (s2:Shared):Prop :=
  ∃ (it:Addr) (fp:List Addr) (tn:Nat→Heap→Prop) (J:It) (H':Hp),itv=.ref it∧Inv X pins σ H' s2∧Turn X.prog X.w X.K tg J fp it tn∧tn 0 s2.heap∧(∀ b ∈ fp,FpOk X pins H' b)∧R J H'
def PI (X:Cx) (tg iter:Expr) (wi:TI):Prop :=
  ∀ (pins:List (Addr × Obj)) (s:Shared) (σ:St) (H:Hp) (R:It→Hp→Prop),Inv X pins σ H s→wi σ H R →
    wpAny (model X.prog X.w) X.A (eval iter X.env) (fun v s1=>wpAny (model X.prog X.w) X.A (pyIter v) (PIE X pins σ tg R) X.xe s1) X.xe s
theorem go_of {M:Model} {A:Around} {E:Value→Shared→Prop} {s:Shared} {tg:Expr} {it:Addr} {u:Value} {o:Obj} {n:String} {vs:Array Value} {Q:Unit→Shared→Prop} (ho:s.heap.get? it=some o) (hc:o.cls=.type n) (hd:o.data=.fields vs)
    (hn:["enumerate", "zip", "dict_itemiterator", "dict_reverseitemiterator", "odict_iterator", "itertools.zip_longest", "itertools.pairwise"].contains n=false) (hQ:Q () s):wpAny M A (letOwnedTupleGo tg (.ref it) u) Q E s:=by
  unfold letOwnedTupleGo
  cases tg <;> first
    | exact wpAny_pure hQ
    | (cases u <;> first
        | exact wpAny_pure hQ
        | (refine wpAny_bind (wpAny_load ho ?_)
           rw [hc,hd]
           show wpAny M A (if (["enumerate", "zip", "dict_itemiterator", "dict_reverseitemiterator", "odict_iterator", "itertools.zip_longest", "itertools.pairwise"].contains n && vs[0]? == some (rawInt _))=true then _ else _) Q E s
           rw [if_neg (by intro h; rw [hn,Bool.false_and] at h; cases h)]
           exact wpAny_pure hQ))
def Itl (K:PySem.W.Frag) (a:Addr):It :=
  ⟨fun i H=>∃ xs x,SqL K H a xs∧xs[i]?=some x,fun i H x H'=>H'=H∧∀ xs,SqL K H a xs→xs[i]?=some x,fun i H=>∃ xs,SqL K H a xs∧xs.length≤i⟩
def Itt (K:PySem.W.Frag) (a:Addr):It :=
  ⟨fun i H=>∃ xs x,SqT K H a xs∧xs[i]?=some x,fun i H x H'=>H'=H∧∀ xs,SqT K H a xs→xs[i]?=some x,fun i H=>∃ xs,SqT K H a xs∧xs.length≤i⟩
def Itr (lo:Int) (n:Nat):It:=⟨fun i _=>i < n,fun i H x H'=>H'=H∧x=.int (lo+i),fun i _=>n≤i⟩
theorem turn_list {P:Program} {w:World} {K:PySem.W.Frag} {tg:Expr} (a it:Addr):Turn P w K tg (Itl K a) [it] it (fun i h=>h.IsListIter it a i) where
  mem:=by simp
  obj:=fun i h st b hb=>by
    have e:b=it:=by simpa using hb
    subst e
    obtain ⟨o,e,c,d⟩:=st
    exact ⟨o,e,fun v z=>by rw [d] at z; cases z⟩
  keep:=fun i h h' st k=>st.at fun o e=>k it (by simp) o e
  item:=by
    intro X hP hw hK hc i pins s σ H E I hf st hg
    subst hP hw hK
    obtain ⟨xs,x,hq,hx⟩:=hg
    obtain ⟨its,rv,p,hz⟩:=I.list hq
    obtain ⟨u,hu,ru⟩:=rv.get hx
    obtain ⟨f0,f1,f2,f3,f4,f5⟩:=hf it (by simp)
    refine wpAny_pyNext_list_item st p.isList (x:=u) (by simpa using hu) fun h' st' sb=>?_
    have I1:Inv X pins σ H { s with heap:=h' }:=I.turned (t':=s.toks) (fun b o hb e=>(sb.2 b hb).trans e) f0 f1 f3 f4 f5
    obtain ⟨o,e,c,d⟩:=id st'
    exact ⟨u,rfl,go_of (s:={ s with heap:=h' }) e c d (by decide) ⟨x,H,I1,ru,⟨rfl,fun ys hy=>by rw [I.list_inj hy hq]; exact hx⟩,st',fun b hb=>(hf b hb).1⟩⟩
  done:=by
    intro X hP hw hK hc i pins s σ H E I hf st hg
    subst hP hw hK
    obtain ⟨xs,hq,hx⟩:=hg
    obtain ⟨its,rv,p,hz⟩:=I.list hq
    obtain ⟨f0,f1,f2,f3,f4,f5⟩:=hf it (by simp)
    have hl:=rv.length
    exact wpAny_pyNext_list_end (I.ok.hd hc) st p.isList (by simp; omega) fun h' eb=>⟨rfl,I.turned (t':=s.toks) (fun b o hb e=>eb b o hb e) f0 f1 f3 f4 f5⟩
  self:=fun _ _ _ _ _ st h=>wpAny_pyIter_listiter st h
theorem turn_tuple {P:Program} {w:World} {K:PySem.W.Frag} {tg:Expr} (a it:Addr):Turn P w K tg (Itt K a) [it] it (fun i h=>h.IsTupleIter it a i) where
  mem:=by simp
  obj:=fun i h st b hb=>by
    have e:b=it:=by simpa using hb
    subst e
    obtain ⟨o,e,c,d⟩:=st
    exact ⟨o,e,fun v z=>by rw [d] at z; cases z⟩
  keep:=fun i h h' st k=>st.at fun o e=>k it (by simp) o e
  item:=by
    intro X hP hw hK hc i pins s σ H E I hf st hg
    subst hP hw hK
    obtain ⟨xs,x,hq,hx⟩:=hg
    obtain ⟨its,rv,p,hz⟩:=I.tuple hq
    obtain ⟨u,hu,ru⟩:=rv.get hx
    obtain ⟨f0,f1,f2,f3,f4,f5⟩:=hf it (by simp)
    refine wpAny_pyNext_tuple_item st (show s.heap.IsTuple a its.toArray from p) (x:=u) (by simpa using hu) fun h' st' sb=>?_
    have I1:Inv X pins σ H { s with heap:=h' }:=I.turned (t':=s.toks) (fun b o hb e=>(sb.2 b hb).trans e) f0 f1 f3 f4 f5
    obtain ⟨o,e,c,d⟩:=id st'
    exact ⟨u,rfl,go_of (s:={ s with heap:=h' }) e c d (by decide) ⟨x,H,I1,ru,⟨rfl,fun ys hy=>by rw [I.tuple_inj hy hq]; exact hx⟩,st',fun b hb=>(hf b hb).1⟩⟩
  done:=by
    intro X hP hw hK hc i pins s σ H E I hf st hg
    subst hP hw hK
    obtain ⟨xs,hq,hx⟩:=hg
    obtain ⟨its,rv,p,hz⟩:=I.tuple hq
    obtain ⟨f0,f1,f2,f3,f4,f5⟩:=hf it (by simp)
    have hl:=rv.length
    exact wpAny_pyNext_tuple_end (I.ok.hd hc) st (show s.heap.IsTuple a its.toArray from p) (by simp; omega) fun h' eb=>⟨rfl,I.turned (t':=s.toks) (fun b o hb e=>eb b o hb e) f0 f1 f3 f4 f5⟩
  self:=fun _ _ _ _ _ st h=>wpAny_pyIter_tupleiter st h
theorem turn_range {P:Program} {w:World} {K:PySem.W.Frag} {tg:Expr} (it:Addr) (lo:Int) (n:Nat):Turn P w K tg (Itr lo n) [it] it (fun i h=>IsRangeIter h it (lo+(i:Nat)*1) ((n:Int) - (i:Nat)) 1) where
  mem:=by simp
  obj:=fun i h st b hb=>by
    have e:b=it:=by simpa using hb
    subst e
    exact ⟨_,st,fun v z=>by
      have z':Data.fields _=Data.cell v:=z
      cases z'⟩
  keep:=fun i h h' st k=>k it (by simp) _ st
  item:=by
    intro X hP hw hK hc i pins s σ H E I hf st hg
    subst hP hw hK
    obtain ⟨f0,f1,f2,f3,f4,f5⟩:=hf it (by simp)
    have W:=Walks.range (prog:=X.prog) (w:=X.w) (I.ok.hd hc) it lo 1 n
    refine wpAny_with_toks I.tk (W.item i s _ _ hg st fun v h' tk hv st' kk le=>?_)
    have le:1≤tk:=le
    obtain ⟨t,rfl⟩:=hv
    have I1:Inv X pins σ H { s with heap:=h',toks:=tk }:=I.turned (fun b o hb e=>kk b o (by simpa using hb) e) f0 f1 f3 f4 f5
    refine ⟨_,rfl,go_of (s:={ s with heap:=h',toks:=tk }) (n := "range_iterator") st' rfl rfl (by decide) ⟨.int (lo+i),H,I1,⟨t,?_⟩,⟨rfl,rfl⟩,st',fun b hb=>(hf b hb).1⟩⟩
    rw [Int.mul_one]
  done:=by
    intro X hP hw hK hc i pins s σ H E I hf st hg
    subst hP hw hK
    obtain ⟨f0,f1,f2,f3,f4,f5⟩:=hf it (by simp)
    exact wpAny_pyNext_range_end (I.ok.hd hc) st (by have:n≤i:=hg; omega) fun h' eb=>⟨rfl,I.turned (t':=s.toks) (fun b o hb e=>eb b o hb e) f0 f1 f3 f4 f5⟩
  self:=fun _ _ _ _ _ st h=>wpAny_pyIter_rangeiter st h
end L2
namespace L2
open PySem PySem.Spec PyProof.Rows
section
variable {X:Cx} {tg:Expr}
inductive ZiList (K:PySem.W.Frag) (R:(It→Hp→Prop)) (x:V) (H1:Hp):Prop where
  | mk:∀ a,(x=.ref a)→((∃ xs,SqL K H1 a xs))→(R (Itl K a) H1)→ZiList K R x H1
def iList (K:PySem.W.Frag) (tl:TE):TI:=fun σ H R=>tl σ H fun x H1=>ZiList K R x H1
inductive ZiTup (K:PySem.W.Frag) (R:(It→Hp→Prop)) (x:V) (H1:Hp):Prop where
  | mk:∀ a,(x=.ref a)→((∃ xs,SqT K H1 a xs))→(R (Itt K a) H1)→ZiTup K R x H1
def iTup (K:PySem.W.Frag) (tl:TE):TI:=fun σ H R=>tl σ H fun x H1=>ZiTup K R x H1
theorem pi_list {l:Expr} {tl:TE} (hl:PE X l tl):PI X tg l (iList X.K tl):=by
  intro pins s σ H R I h
  refine thn (hl pins s σ H _ I h) fun v s1 ⟨x,H1,I1,r1,q1⟩=>?_
  obtain ⟨a,e,⟨xs,hq⟩,q⟩:=q1
  subst e
  cases r1
  obtain ⟨its,rv,p,hz⟩:=I1.list hq
  refine wpAny_pyIter_list p.isList ?_
  refine ⟨s1.heap.objs.size,[s1.heap.objs.size],_,_,H1,rfl,I1.kept (t':=s1.toks) fun b o e=>Heap.get?_push_of_some _ e,turn_list a _,⟨_,Heap.get?_push_size _ rfl,rfl,rfl⟩,fun b hb=>?_,q⟩
  have e:b=s1.heap.objs.size:=by simpa using hb
  subst e
  exact I1.fpOk (Nat.le_refl _) (I1.hok.fresh (Nat.le_refl _))
theorem pi_tup {l:Expr} {tl:TE} (hl:PE X l tl):PI X tg l (iTup X.K tl):=by
  intro pins s σ H R I h
  refine thn (hl pins s σ H _ I h) fun v s1 ⟨x,H1,I1,r1,q1⟩=>?_
  obtain ⟨a,e,⟨xs,hq⟩,q⟩:=q1
  subst e
  cases r1
  obtain ⟨its,rv,p,hz⟩:=I1.tuple hq
  refine wpAny_pyIter_tuple (show s1.heap.IsTuple a its.toArray from p) ?_
  refine ⟨s1.heap.objs.size,[s1.heap.objs.size],_,_,H1,rfl,I1.kept (t':=s1.toks) fun b o e=>Heap.get?_push_of_some _ e,turn_tuple a _,⟨_,Heap.get?_push_size _ rfl,rfl,rfl⟩,fun b hb=>?_,q⟩
  have e:b=s1.heap.objs.size:=by simpa using hb
  subst e
  exact I1.fpOk (Nat.le_refl _) (I1.hok.fresh (Nat.le_refl _))
theorem range_it {pins:List (Addr × Obj)} {σ:St} {H:Hp} {s:Shared} {R:It→Hp→Prop} {E:Value→Shared→Prop} {lo hi:Int} {t u v:Tok} {tk:Nat} (I:Inv X pins σ H s) (ht:1≤tk) (h1:-(2 ^ 62)≤lo) (h2:lo < 2 ^ 62) (h3:-(2 ^ 62)≤hi) (h4:hi < 2 ^ 62)
    (q:R (Itr lo (hi - lo).toNat) H):wpAny (model X.prog X.w) X.A (pyIter (.ref s.heap.objs.size)) (PIE X pins σ tg R) E { s with heap:=s.heap.push { cls:=.type "range", data:=.fields #[.int lo t,.int hi u,.int 1 v] },toks:=tk }:=by
  refine wpAny_pyIter_range (IsRange.new ..) (small_one h1 h2 h3 h4) ?_
  have I1:Inv X pins σ H { s with heap:=s.heap.push { cls:=.type "range", data:=.fields #[.int lo t,.int hi u,.int 1 v] },toks:=tk }:=I.kept fun b o e=>Heap.get?_push_of_some _ e
  refine ⟨(s.heap.push { cls:=.type "range", data:=.fields #[.int lo t,.int hi u,.int 1 v] }).objs.size,[(s.heap.push { cls:=.type "range", data:=.fields #[.int lo t,.int hi u,.int 1 v] }).objs.size],_,_,H,rfl,
    I1.kept (t':=tk) fun b o e=>Heap.get?_push_of_some _ e,turn_range _ lo (hi - lo).toNat,?_,fun b hb=>?_,q⟩
  · have e1:lo+((0:Nat):Int)*1=lo:=by simp
    have e2:(((hi - lo).toNat:Nat):Int) - ((0:Nat):Int)=Builtin.Range.rangeSize lo hi 1:=by rw [rangeSize_one]; split <;> omega
    show IsRangeIter _ _ (lo+((0:Nat):Int)*1) ((((hi - lo).toNat:Nat):Int) - ((0:Nat):Int)) 1
    rw [e1,e2]
    exact Heap.get?_push_size _ rfl
  · have e:b=(s.heap.push { cls:=.type "range", data:=.fields #[.int lo t,.int hi u,.int 1 v] }).objs.size:=by simpa using hb
    subst e
    exact I1.fpOk (Nat.le_refl _) (I1.hok.fresh (Nat.le_refl _))
inductive ZiRng1 (R:(It→Hp→Prop)) (vs:(List V)) (H1:Hp):Prop where
  | mk:∀ j:Int,(vs=[.int j])→(-(2 ^ 62)≤j)→(j < 2 ^ 62)→(R (Itr 0 j.toNat) H1)→ZiRng1 R vs H1
def iRng1 (ta:TA):TI:=fun σ H R=>ta σ H fun vs H1=>ZiRng1 R vs H1
inductive ZiRng2 (R:(It→Hp→Prop)) (vs:(List V)) (H1:Hp):Prop where
  | mk:∀ i j:Int,(vs=[.int i,.int j])→((-(2 ^ 62)≤i∧i < 2 ^ 62∧-(2 ^ 62)≤j∧j < 2 ^ 62))→(R (Itr i (j - i).toNat) H1)→ZiRng2 R vs H1
def iRng2 (ta:TA):TI:=fun σ H R=>ta σ H fun vs H1=>ZiRng2 R vs H1
theorem pi_range1 {a:Expr} {ta:TA} {p pos:Pos} (hg:Gl X "range") (hm:X.mg "range" = none) (ha:PA X [a] ta) (hs:starEach [a] X.env=[(false,eval a X.env)]:=by rfl):PI X tg (.Call (.Name "range" p) [a] [] pos) (iRng1 ta):=by
  intro pins s σ H R I h
  refine Call_ (ld_blt I hg hm boot_range (PyProof.Rows.callWith_type1 (thn (ha pos pins s σ H _ I h) fun us s1 ⟨vs,H1,I1,r1,q1⟩=>?_) hs rfl))
  obtain ⟨j,e,q1,q2,q⟩:=q1
  subst e
  cases r1 with
  | cons r rr =>
    cases rr
    obtain ⟨t,rfl⟩:=r
    exact call_range_1 (range_it I1 (by first | exact Nat.le_add_left 1 _ | exact I1.tk) (by omega) (by omega) q1 q2 (by simpa using q))
def tFor (wi:TI) (g:TG) (tb:TS):TS:=fun D σ H=>wi σ H fun J H1=>∃ W:Nat→Nat→St→Hp→Prop,(∃ m,W 0 m σ H1)∧∀ i m σ H,W i m σ H →
  (J.stop i H∧D.nx σ H)∨(J.go i H∧∃ N:St→Hp→Prop,(∀ σ' H',N σ' H'→∃ m',m' < m∧W (i+1) m' σ' H')∧∀ x H',J.yld i H x H'→g x σ H' fun σ2 H2=>tb { D with nx:=N,ct:=N,bk:=D.nx } σ2 H2)
def pinsAt (fp:List Addr) (h:Heap):List (Addr × Obj):=fp.filterMap fun b=>(h.get? b).map fun o=>(b,o)
theorem mem_pinsAt {fp:List Addr} {h:Heap} {b:Addr} {o:Obj} (hb:b ∈ fp) (e:h.get? b=some o):(b,o) ∈ pinsAt fp h:=List.mem_filterMap.mpr ⟨b,hb,by rw [e]; rfl⟩
theorem of_pinsAt {fp:List Addr} {h:Heap} {p:Addr × Obj} (hp:p ∈ pinsAt fp h):p.1 ∈ fp∧h.get? p.1=some p.2:=by
  obtain ⟨b,hb,e⟩:=List.mem_filterMap.mp hp
  cases q:h.get? b with
  | none=>rw [q] at e; cases e
  | some o =>
    rw [q] at e
    have e':(b,o)=p:=Option.some.inj e
    subst e'
    exact ⟨hb,q⟩
theorem Inv.pinned {pins:List (Addr × Obj)} {σ:St} {H:Hp} {s:Shared} {fp:List Addr} (I:Inv X pins σ H s) (hf:∀ b ∈ fp,FpOk X pins H b) (ho:∀ b ∈ fp,∃ o,s.heap.get? b=some o∧∀ v,o.data ≠ .cell v):Inv X (pins++pinsAt fp s.heap) σ H s :=
  I.pins_of fun p hp=>(List.mem_append.mp hp).elim (fun z=>I.pin p (List.mem_append_right _ z)) fun z=>by
    obtain ⟨hb,e⟩:=of_pinsAt z
    obtain ⟨f0,f1,f2,_⟩:=hf p.1 hb
    obtain ⟨o,e',d⟩:=ho p.1 hb
    rw [e] at e'; cases e'
    exact ⟨e,f0,f1,f2,d⟩
theorem Inv.unpinned {pins pl:List (Addr × Obj)} {σ:St} {H:Hp} {s:Shared} (I:Inv X (pins++pl) σ H s):Inv X pins σ H s:=I.pins_of fun p hp=>I.pin p (List.mem_append_right _ (List.mem_append_left _ hp))
theorem ps_for {iter:Expr} {body:List Stmt} {wi:TI} {g:TG} {tb:TS} {pos:Pos} (hp:PassesOwn (model X.prog X.w) X.A X.env X.xe) (hc:X.calm=true) (hi:PI X tg iter wi) (hg:PG X tg g) (hb:PSs X body tb)
    (hs:∀ x,foldedSetIterable iter X.env x=pure x:=by intro _; rfl):PS X (.For tg iter body [] pos) (tFor wi g tb):=by
  intro pins s σ H D I h
  refine wpAny_For (thn (hi pins s σ H _ I h) fun v s1 h1=>thn h1 fun itv s2 h2=>?_) hs
  obtain ⟨it,fp,tn,J,H2,e,I2,T,st2,f2,W,⟨m0,w0⟩,turn⟩:=h2
  subst e
  have stat:∀ {H':Hp},(∀ b ∈ fp,H' b=none)→∀ b ∈ fp,FpOk X pins H' b:=fun hn b hb=>⟨hn b hb,(f2 b hb).2⟩
  refine codeAny_forLoop_any (fun n s'=>∃ i σ' H',Inv X pins σ' H' s'∧tn i s'.heap∧(∀ b ∈ fp,H' b=none)∧W i n σ' H') ?_ m0 ⟨0,σ,H2,I2,st2,fun b hb=>(f2 b hb).1,w0⟩
  rintro n s3 ⟨i,σ3,H3,I3,st3,fr3,w3⟩
  rcases turn i n σ3 H3 w3 with ⟨stop,qn⟩ | ⟨go,N,hN,step⟩
  · refine wpAny_passesOwn hp (thn (T.done X rfl rfl rfl hc i pins s3 σ3 H3 X.xe I3 (stat fr3) st3 stop) fun r s4 ⟨hr,I4⟩=>?_)
    subst hr
    exact wpAny_execs_nil ⟨σ3,H3,I4,qn⟩
  · refine wpAny_passesOwn hp (thn (T.item X rfl rfl rfl hc i pins s3 σ3 H3 X.xe I3 (stat fr3) st3 go) fun r s4 ⟨u,hr,h4⟩=>?_)
    subst hr
    refine wpAny_passesOwn hp (thn h4 fun _ s5 ⟨x,H5,I5,r5,y5,st5,fr5⟩=>?_)
    have I5':=I5.pinned (stat fr5) (T.obj _ _ st5)
    refine wpAny_passesOwn hp (thn (hg _ s5 σ3 H5 x u _ I5' r5 (step x H5 y5)) fun _ s6 ⟨σ6,H6,I6,q6⟩=>?_)
    refine wpAny_passesOwn hp (thn (hb _ s6 σ6 H6 _ I6 q6) fun f s7 q7=>?_)
    have again:∀ {σ7:St} {H7:Hp},Inv X (pins++pinsAt fp s5.heap) σ7 H7 s7→N σ7 H7→∃ m,m < n∧∃ i σ' H',Inv X pins σ' H' s7∧tn i s7.heap∧(∀ b ∈ fp,H' b=none)∧W i m σ' H':=fun {σ7 H7} I7 n7=>by
      obtain ⟨m',hm,w7⟩:=hN σ7 H7 n7
      refine ⟨m',hm,i+1,σ7,H7,I7.unpinned,T.keep _ _ _ st5 fun b hb o e=>(I7.pin (b,o) (List.mem_append_right _ (List.mem_append_right _ (mem_pinsAt hb e)))).1,fun b hb=>?_,w7⟩
      obtain ⟨o,e,d⟩:=T.obj _ _ st5 b hb
      exact (I7.pin (b,o) (List.mem_append_right _ (List.mem_append_right _ (mem_pinsAt hb e)))).2.1
    cases f with
    | next=>obtain ⟨σ7,H7,I7,n7⟩:=q7; exact again I7 n7
    | cont=>obtain ⟨σ7,H7,I7,n7⟩:=q7; exact again I7 n7
    | brk=>obtain ⟨σ7,H7,I7,q7⟩:=q7; exact ⟨σ7,H7,I7.unpinned,q7⟩
    | ret v=>obtain ⟨x7,σ7,H7,I7,r7,q7⟩:=q7; exact ⟨x7,σ7,H7,I7.unpinned,r7,q7⟩
end
theorem for_tup {K:PySem.W.Frag} {a:Addr} {xs:List V} {g:TG} {tb:TS} {D:Ends} {σ:St} {H:Hp} (Pv:Nat→St→Hp→Prop) (h0:Pv 0 σ H) (hl:∀ i σ H,i≤xs.length→Pv i σ H→SqT K H a xs)
    (hs:∀ i x σ H,xs[i]?=some x→Pv i σ H→g x σ H fun σ2 H2=>tb { D with nx:=Pv (i+1),ct:=Pv (i+1),bk:=D.nx } σ2 H2) (hd:∀ σ H,Pv xs.length σ H→D.nx σ H) :
    ∃ W:Nat→Nat→St→Hp→Prop,(∃ m,W 0 m σ H)∧∀ i m σ H,W i m σ H →
      ((Itt K a).stop i H∧D.nx σ H)∨((Itt K a).go i H∧∃ N:St→Hp→Prop,(∀ σ' H',N σ' H'→∃ m',m' < m∧W (i+1) m' σ' H')∧∀ x H',(Itt K a).yld i H x H'→g x σ H' fun σ2 H2=>tb { D with nx:=N,ct:=N,bk:=D.nx } σ2 H2):=by
  refine ⟨fun i m σ H=>m=xs.length - i∧i≤xs.length∧Pv i σ H,⟨xs.length,by simp,Nat.zero_le _,h0⟩,?_⟩
  rintro i m σ H ⟨rfl,hi,p⟩
  have q:=hl i σ H hi p
  by_cases hlt:i < xs.length
  · refine .inr ⟨⟨xs,xs[i],q,by simp [hlt]⟩,Pv (i+1),fun σ' H' p'=>⟨xs.length - (i+1),by omega,rfl,hlt,p'⟩,fun x H' y=>?_⟩
    obtain ⟨e,y⟩:=y
    subst e
    exact hs i x σ _ (y xs q) p
  · have e:i=xs.length:=by omega
    subst e
    exact .inl ⟨⟨xs,q,Nat.le_refl _⟩,hd σ H p⟩
theorem for_range {lo:Int} {n:Nat} {g:TG} {tb:TS} {D:Ends} {σ:St} {H:Hp} (Pv:Nat→St→Hp→Prop) (h0:Pv 0 σ H)
    (hs:∀ i σ H,i < n→Pv i σ H→g (.int (lo+i)) σ H fun σ2 H2=>tb { D with nx:=Pv (i+1),ct:=Pv (i+1),bk:=D.nx } σ2 H2) (hd:∀ σ H,Pv n σ H→D.nx σ H) :
    ∃ W:Nat→Nat→St→Hp→Prop,(∃ m,W 0 m σ H)∧∀ i m σ H,W i m σ H →
      ((Itr lo n).stop i H∧D.nx σ H)∨((Itr lo n).go i H∧∃ N:St→Hp→Prop,(∀ σ' H',N σ' H'→∃ m',m' < m∧W (i+1) m' σ' H')∧∀ x H',(Itr lo n).yld i H x H'→g x σ H' fun σ2 H2=>tb { D with nx:=N,ct:=N,bk:=D.nx } σ2 H2):=by
  refine ⟨fun i m σ H=>m=n - i∧i≤n∧Pv i σ H,⟨n,by simp,Nat.zero_le _,h0⟩,?_⟩
  rintro i m σ H ⟨rfl,hi,p⟩
  by_cases hlt:i < n
  · refine .inr ⟨hlt,Pv (i+1),fun σ' H' p'=>⟨n - (i+1),by omega,rfl,hlt,p'⟩,fun x H' y=>?_⟩
    obtain ⟨e,y⟩:=y
    subst e y
    exact hs i σ _ hlt p
  · have e:i=n:=by omega
    subst e
    exact .inl ⟨Nat.le_refl _,hd σ H p⟩
end L2
namespace L2
open PySem PySem.Spec PyProof.Rows
abbrev R2:=V→V→Hp→VK→Prop
def OpR (X:Cx) (f:Value→Value→Sem Value) (r:R2):Prop :=
  ∀ (pins:List (Addr × Obj)) (s:Shared) (σ:St) (H:Hp) (x y:V) (v u:Value) (Q:VK),Inv X pins σ H s→RelV x v→RelV y u→r x y H Q →
    wpAny (model X.prog X.w) X.A (f v u) (EP X pins σ Q) X.xe s
def UnR (X:Cx) (f:Value→Sem Value) (r:V→Hp→VK→Prop):Prop :=
  ∀ (pins:List (Addr × Obj)) (s:Shared) (σ:St) (H:Hp) (x:V) (v:Value) (Q:VK),Inv X pins σ H s→RelV x v→r x H Q →
    wpAny (model X.prog X.w) X.A (f v) (EP X pins σ Q) X.xe s
def CallR (X:Cx) (f:Value) (r:List V→Hp→VK→Prop):Prop :=
  ∀ (pins:List (Addr × Obj)) (s:Shared) (σ:St) (H:Hp) (xs:List V) (us:List Value) (Q:VK),Inv X pins σ H s→Vals xs us→r xs H Q →
    wpAny (model X.prog X.w) X.A (call f us) (EP X pins σ Q) X.xe s
def TruR (X:Cx) (r:V→Hp→(Bool→Hp→Prop)→Prop):Prop :=
  ∀ (pins:List (Addr × Obj)) (s:Shared) (σ:St) (H:Hp) (x:V) (v:Value) (Q:Bool→Hp→Prop),Inv X pins σ H s→RelV x v→r x H Q →
    wpAny (model X.prog X.w) X.A (truthy v) (TP X pins σ Q) X.xe s
def tOp (r:R2) (ta tb:TE):TE:=fun σ H Q=>ta σ H fun x H1=>tb σ H1 fun y H2=>r x y H2 Q
def tUn (r:V→Hp→VK→Prop) (ta:TE):TE:=fun σ H Q=>ta σ H fun x H1=>r x H1 Q
inductive rI (C:Int→Int→Prop) (g:Int→Int→V) (x:V) (y:V) (H:Hp) (Q:VK):Prop where
  | mk:∀ i j,(x=.int i)→(y=.int j)→(C i j)→(Q (g i j) H)→rI C g x y H Q
inductive rI0 (g:Int→Int→V) (x:V) (y:V) (H:Hp) (Q:VK):Prop where
  | mk:∀ i j,(x=.int i)→(y=.int j)→(Q (g i j) H)→rI0 g x y H Q
inductive rU (g:Int→V) (x:V) (H:Hp) (Q:VK):Prop where
  | mk:∀ i,(x=.int i)→(Q (g i) H)→rU g x H Q
section
variable {X:Cx} {a b c:Expr} {ta tb tc:TE} {pos:Pos}
theorem binT (ha:PE X a ta) (hb:PE X b tb) {pins:List (Addr × Obj)} {s:Shared} {σ:St} {H:Hp} {R:V→V→Hp→Prop} (I:Inv X pins σ H s)
    (h:ta σ H fun x H1=>tb σ H1 fun y H2=>R x y H2) {Q:Value→Shared→Prop} {f:Value→Value→Sem Value}
    (hf:∀ v u s2 x y H2,Inv X pins σ H2 s2→RelV x v→RelV y u→R x y H2→wpAny (model X.prog X.w) X.A (f v u) Q X.xe s2) :
    wpAny (model X.prog X.w) X.A (eval a X.env) (fun v s₁=>wpAny (model X.prog X.w) X.A (eval b X.env) (fun u s₂=>wpAny (model X.prog X.w) X.A (f v u) Q X.xe s₂) X.xe s₁) X.xe s:=by
  refine thn (ha pins s σ H _ I h) fun v s1 ⟨x,H1,I1,r1,q1⟩=>?_
  refine thn (hb pins s1 σ H1 _ I1 q1) fun u s2 ⟨y,H2,I2,r2,q2⟩=>?_
  exact hf v u s2 x y H2 I2 r1 r2 q2
theorem pe_op {op:Operator} {r:R2} (ho:OpR X (binaryOp op) r) (ha:PE X a ta) (hb:PE X b tb):PE X (.BinOp a op b pos) (tOp r ta tb):=by
  intro pins s σ H Q I h
  exact wpAny_BinOp (binT ha hb I h fun v u s2 x y H2 I2 rx ry q=>ho pins s2 σ H2 x y v u Q I2 rx ry q)
theorem pe_un {op:UnaryOp} {r:V→Hp→VK→Prop} (ho:UnR X (unaryOp op) r) (ha:PE X a ta):PE X (.UnaryOp op a pos) (tUn r ta):=by
  intro pins s σ H Q I h
  exact UnaryOp_ (thn (ha pins s σ H _ I h) fun v s1 ⟨x,H1,I1,r1,q1⟩=>ho pins s1 σ H1 x v Q I1 r1 q1)
theorem opI {f:Value→Value→Sem Value} {C:Int→Int→Prop} {g:Int→Int→Int}
    (rule:∀ (i j:Int) (t u:Tok) (s:Shared) (Q:Value→Shared→Prop) (E:Value→Shared→Prop),C i j→Q (.int (g i j) s.toks) { s with toks:=s.toks+1 }→wpAny (model X.prog X.w) X.A (f (.int i t) (.int j u)) Q E s) :
    OpR X f (rI C fun i j=>.int (g i j)):=by
  intro pins s σ H x y v u Q I rx ry h
  obtain ⟨i,j,rfl,rfl,hc,q⟩:=h
  obtain ⟨t,rfl⟩:=rx
  obtain ⟨t',rfl⟩:=ry
  exact rule i j t t' s _ _ hc ⟨.int (g i j),H,I.tok _,⟨_,rfl⟩,q⟩
theorem opI0 {f:Value→Value→Sem Value} {g:Int→Int→Int}
    (rule:∀ (i j:Int) (t u:Tok) (s:Shared) (Q:Value→Shared→Prop) (E:Value→Shared→Prop),Q (.int (g i j) s.toks) { s with toks:=s.toks+1 }→wpAny (model X.prog X.w) X.A (f (.int i t) (.int j u)) Q E s) :
    OpR X f (rI0 fun i j=>.int (g i j)):=by
  intro pins s σ H x y v u Q I rx ry h
  obtain ⟨i,j,rfl,rfl,q⟩:=h
  obtain ⟨t,rfl⟩:=rx
  obtain ⟨t',rfl⟩:=ry
  exact rule i j t t' s _ _ ⟨.int (g i j),H,I.tok _,⟨_,rfl⟩,q⟩
theorem opB0 {f:Value→Value→Sem Value} {g:Int→Int→Bool}
    (rule:∀ (i j:Int) (t u:Tok) (s:Shared) (Q:Value→Shared→Prop) (E:Value→Shared→Prop),Q (.bool (g i j)) s→wpAny (model X.prog X.w) X.A (f (.int i t) (.int j u)) Q E s) :
    OpR X f (rI0 fun i j=>.bl (g i j)):=by
  intro pins s σ H x y v u Q I rx ry h
  obtain ⟨i,j,rfl,rfl,q⟩:=h
  obtain ⟨t,rfl⟩:=rx
  obtain ⟨t',rfl⟩:=ry
  exact rule i j t t' s _ _ ⟨.bl (g i j),H,I,rfl,q⟩
def CDiv (i j:Int):Prop:=0 < j∧j < 1073741824
def CDivN (i j:Int):Prop:=j ≠ 0∧j.natAbs < 1073741824
def CPow (i j:Int):Prop:=0≤j∧j≤1000000∧i.natAbs < 2 ^ 64
def CMul (i j:Int):Prop:=(-(2 ^ 64) < i∧i < 2 ^ 64)∨(-(2 ^ 64) < j∧j < 2 ^ 64)
theorem CMul.ok {i j:Int} (h:CMul i j):IntMulOk i j:=by
  rcases h with ⟨h1,h2⟩ | ⟨h1,h2⟩
  · exact .of_left (intBits_le_64 h1 h2)
  · exact .of_right (intBits_le_64 h1 h2)
theorem op_add:OpR X (binaryOp .Add) (rI0 fun i j=>.int (i+j)):=opI0 fun _ _ _ _ _ _ _ q=>add_int q
theorem op_sub:OpR X (binaryOp .Sub) (rI0 fun i j=>.int (i - j)):=opI0 fun _ _ _ _ _ _ _ q=>sub_int q
theorem op_mul:OpR X (binaryOp .Mult) (rI CMul fun i j=>.int (i*j)):=opI fun _ _ _ _ _ _ _ hc q=>mul_int q hc.ok
theorem op_fdiv:OpR X (binaryOp .FloorDiv) (rI CDiv fun i j=>.int (i / j)):=opI fun i j _ _ _ _ _ hc q=>by
  have h1:(0:Int) < j:=hc.1
  have h2:j < 1073741824:=hc.2
  exact floordiv_int (by omega) (by rw [Int.fdiv_eq_ediv_of_nonneg i (by omega)]; exact q) (.inl (PyProof.noPylong_small (by omega)))
theorem op_mod:OpR X (binaryOp .Mod) (rI (fun _ j=>0 < j) fun i j=>.int (i % j)):=opI fun i j _ _ _ _ _ hc q=>by
  have h1:(0:Int) < j:=hc
  exact mod_int' (by omega) (by rw [Int.fmod_eq_emod_of_nonneg i (by omega)]; exact q)
theorem op_pow:OpR X (binaryOp .Pow) (rI CPow fun i j=>.int (i ^ j.toNat)):=opI fun _ _ _ _ _ _ _ hc q=>pow_int_small hc.1 hc.2.1 hc.2.2 q
theorem unI {f:Value→Sem Value} {g:Int→Int}
    (rule:∀ (i:Int) (t:Tok) (s:Shared) (Q:Value→Shared→Prop) (E:Value→Shared→Prop),Q (.int (g i) s.toks) { s with toks:=s.toks+1 }→wpAny (model X.prog X.w) X.A (f (.int i t)) Q E s) :
    UnR X f (rU fun i=>.int (g i)):=by
  intro pins s σ H x v Q I rx h
  obtain ⟨i,rfl,q⟩:=h
  obtain ⟨t,rfl⟩:=rx
  exact rule i t s _ _ ⟨.int (g i),H,I.tok _,⟨_,rfl⟩,q⟩
theorem un_neg:UnR X (unaryOp .USub) (rU fun i=>.int (-i)):=unI fun _ _ _ _ _ q=>neg_int q
end
def scal:V→V→Bool
  | .non,.non=>true | .non,.int _=>true | .int _,.non=>true | .non,.bl _=>true | .bl _,.non=>true | .non,.str _=>true | .str _,.non=>true
  | .int _,.int _=>true | .bl _,.bl _=>true | .str _,.str _=>true | .byt _,.byt _=>true
  | .int _,.str _=>true | .str _,.int _=>true | .bl _,.str _=>true | .str _,.bl _=>true
  | _,_=>false
inductive rEq (x:V) (y:V) (H:Hp) (Q:VK):Prop where
  | mk:(scal x y=true)→(Q (.bl (decide (x=y))) H)→rEq x y H Q
inductive rNe (x:V) (y:V) (H:Hp) (Q:VK):Prop where
  | mk:(scal x y=true)→(Q (.bl (!decide (x=y))) H)→rNe x y H Q
theorem dec_int {i j:Int}:decide (V.int i=V.int j)=(i == j):=by
  rw [Bool.eq_iff_iff]
  simp
theorem dec_bl {i j:Bool}:decide (V.bl i=V.bl j)=(i == j):=by
  rw [Bool.eq_iff_iff]
  simp
theorem dec_str {i j:Str}:decide (V.str i=V.str j)=(i == j):=by
  rw [Bool.eq_iff_iff]
  simp
theorem dec_byt {i j:Array UInt8}:decide (V.byt i=V.byt j)=(i.toList == j.toList):=by
  rw [Bool.eq_iff_iff]
  cases i
  cases j
  simp
section
variable {X:Cx} {a b c:Expr} {ta tb tc:TE} {pos:Pos}
theorem fin_bl {pins:List (Addr × Obj)} {σ:St} {H:Hp} {s:Shared} {Q:VK} {k k':Bool} (I:Inv X pins σ H s) (q:Q (.bl k) H) (e:k=k'):EP X pins σ Q (.bool k') s:=by
  subst e
  exact ⟨.bl k,H,I,rfl,q⟩
theorem op_eq:OpR X (compareOp .Eq) rEq:=by
  intro pins s σ H x y v u Q I rx ry h
  obtain ⟨hs,q⟩:=h
  cases x with
  | non =>
    cases rx
    cases y with
    | non=>cases ry; exact PySem.EqNone.eq_none_none (fin_bl I q (by simp))
    | bl j=>cases ry; exact PySem.EqNone.eq_none_bool (fin_bl I q (by simp))
    | int j=>obtain ⟨t',rfl⟩:=ry; exact PySem.EqNone.eq_none_int (fin_bl I q (by simp))
    | str j=>obtain ⟨t',rfl⟩:=ry; exact PySem.EqNone.eq_none_str (fin_bl I q (by simp))
    | _=>exact absurd (show false=true from hs) Bool.false_ne_true
  | bl i =>
    cases rx
    cases y with
    | non=>cases ry; exact PySem.EqNone.eq_bool_none (fin_bl I q (by simp))
    | bl j=>cases ry; exact eq_bool (fin_bl I q dec_bl)
    | str j=>obtain ⟨t',rfl⟩:=ry; exact PySem.EqMixed.eq_bool_str (fin_bl I q (by simp))
    | _=>exact absurd (show false=true from hs) Bool.false_ne_true
  | int i =>
    obtain ⟨t,rfl⟩:=rx
    cases y with
    | non=>cases ry; exact PySem.EqNone.eq_int_none (fin_bl I q (by simp))
    | int j=>obtain ⟨t',rfl⟩:=ry; exact eq_int (fin_bl I q dec_int)
    | str j=>obtain ⟨t',rfl⟩:=ry; exact PySem.EqMixed.eq_int_str (fin_bl I q (by simp))
    | _=>exact absurd (show false=true from hs) Bool.false_ne_true
  | str i =>
    obtain ⟨t,rfl⟩:=rx
    cases y with
    | non=>cases ry; exact PySem.EqNone.eq_str_none (fin_bl I q (by simp))
    | bl j=>cases ry; exact PySem.EqMixed.eq_str_bool (fin_bl I q (by simp))
    | int j=>obtain ⟨t',rfl⟩:=ry; exact PySem.EqMixed.eq_str_int (fin_bl I q (by simp))
    | str j=>obtain ⟨t',rfl⟩:=ry; exact eq_str (fin_bl I q dec_str)
    | _=>exact absurd (show false=true from hs) Bool.false_ne_true
  | byt i =>
    obtain ⟨t,rfl⟩:=rx
    cases y with
    | byt j=>obtain ⟨t',rfl⟩:=ry; exact PySem.W.eq_bytes (fin_bl I q dec_byt)
    | _=>exact absurd (show false=true from hs) Bool.false_ne_true
  | _=>cases y <;> exact absurd (show false=true from hs) Bool.false_ne_true
theorem op_ne:OpR X (compareOp .NotEq) rNe:=by
  intro pins s σ H x y v u Q I rx ry h
  obtain ⟨hs,q⟩:=h
  cases x with
  | non =>
    cases rx
    cases y with
    | non=>cases ry; exact PySem.EqNone.ne_none_none (fin_bl I q (by simp))
    | bl j=>cases ry; exact PySem.EqNone.ne_none_bool (fin_bl I q (by simp))
    | int j=>obtain ⟨t',rfl⟩:=ry; exact PySem.EqNone.ne_none_int (fin_bl I q (by simp))
    | str j=>obtain ⟨t',rfl⟩:=ry; exact PySem.EqNone.ne_none_str (fin_bl I q (by simp))
    | _=>exact absurd (show false=true from hs) Bool.false_ne_true
  | bl i =>
    cases rx
    cases y with
    | non=>cases ry; exact PySem.EqNone.ne_bool_none (fin_bl I q (by simp))
    | bl j=>cases ry; exact ne_bool (fin_bl I q (congrArg not dec_bl))
    | str j=>obtain ⟨t',rfl⟩:=ry; exact PySem.EqMixed.ne_bool_str (fin_bl I q (by simp))
    | _=>exact absurd (show false=true from hs) Bool.false_ne_true
  | int i =>
    obtain ⟨t,rfl⟩:=rx
    cases y with
    | non=>cases ry; exact PySem.EqNone.ne_int_none (fin_bl I q (by simp))
    | int j=>obtain ⟨t',rfl⟩:=ry; exact ne_int (fin_bl I q (congrArg not dec_int))
    | str j=>obtain ⟨t',rfl⟩:=ry; exact PySem.EqMixed.ne_int_str (fin_bl I q (by simp))
    | _=>exact absurd (show false=true from hs) Bool.false_ne_true
  | str i =>
    obtain ⟨t,rfl⟩:=rx
    cases y with
    | non=>cases ry; exact PySem.EqNone.ne_str_none (fin_bl I q (by simp))
    | bl j=>cases ry; exact PySem.EqMixed.ne_str_bool (fin_bl I q (by simp))
    | int j=>obtain ⟨t',rfl⟩:=ry; exact PySem.EqMixed.ne_str_int (fin_bl I q (by simp))
    | str j=>obtain ⟨t',rfl⟩:=ry; exact ne_str (fin_bl I q (congrArg not dec_str))
    | _=>exact absurd (show false=true from hs) Bool.false_ne_true
  | byt i =>
    obtain ⟨t,rfl⟩:=rx
    cases y with
    | byt j=>obtain ⟨t',rfl⟩:=ry; exact PySem.W.ne_bytes (fin_bl I q (congrArg not dec_byt))
    | _=>exact absurd (show false=true from hs) Bool.false_ne_true
  | _=>cases y <;> exact absurd (show false=true from hs) Bool.false_ne_true
theorem op_lt:OpR X (compareOp .Lt) (rI0 fun i j=>.bl (decide (i < j))):=opB0 fun _ _ _ _ _ _ _ q=>lt_int q
theorem op_gt:OpR X (compareOp .Gt) (rI0 fun i j=>.bl (decide (j < i))):=opB0 fun _ _ _ _ _ _ _ q=>gt_int q
theorem op_ge:OpR X (compareOp .GtE) (rI0 fun i j=>.bl (decide (j≤i))):=opB0 fun _ _ _ _ _ _ _ q=>ge_int q
theorem op_in_str:OpR X (compareOp .In) (fun x y H Q=>∃ i j,x=.str i∧y=.str j∧Q (.bl (!(Builtin.Str.occurrences j i 0 j.length 1).isEmpty)) H):=by
  intro pins s σ H x y v u Q I rx ry h
  obtain ⟨i,j,rfl,rfl,q⟩:=h
  obtain ⟨t,rfl⟩:=rx
  obtain ⟨t',rfl⟩:=ry
  exact in_str (fin_bl I q rfl)
theorem op_isN:OpR X (compareOp .Is) (fun x y H Q=>y=.non∧Q (.bl (decide (x=.non))) H):=by
  intro pins s σ H x y v u Q I rx ry h
  obtain ⟨rfl,q⟩:=h
  cases ry
  refine is_none_gen (fin_bl I q ?_)
  cases x <;> first
    | (cases rx; rfl)
    | (obtain ⟨t,rfl⟩:=rx; rfl)
theorem op_notN:OpR X (compareOp .IsNot) (fun x y H Q=>y=.non∧Q (.bl (!decide (x=.non))) H):=by
  intro pins s σ H x y v u Q I rx ry h
  obtain ⟨rfl,q⟩:=h
  cases ry
  refine isnot_none_gen (fin_bl I q ?_)
  cases x <;> first
    | (cases rx; rfl)
    | (obtain ⟨t,rfl⟩:=rx; rfl)
def isObj:HO→Bool
  | .lst _=>true
  | .ins _ _ _=>true
  | _=>false
theorem nomark (b:Expr) {op:CmpOp} (h:op ≠ .In:=by decide) (h2:op ≠ .NotIn:=by decide):behindInMarks op b=false:=by
  have e1:(op == CmpOp.In)=false:=by cases op <;> first | rfl | exact absurd rfl h
  have e2:(op == CmpOp.NotIn)=false:=by cases op <;> first | rfl | exact absurd rfl h2
  cases b <;> simp [behindInMarks,e1,e2]
theorem pe_cmpR {op:CmpOp} {r:R2} (ho:OpR X (compareOp op) r) (ha:PE X a ta) (hb:PE X b tb) (hm:behindInMarks op b=false):PE X (.Compare a [op] [b] pos) (tOp r ta tb):=by
  intro pins s σ H Q I h
  exact wpAny_Compare1 (binT ha hb I h fun v u s2 x y H2 I2 rx ry q=>ho pins s2 σ H2 x y v u Q I2 rx ry q) hm
inductive ZtTest (Q:(Bool→Hp→Prop)) (x:V) (H':Hp):Prop where
  | mk:∀ k,(x=.bl k)→(Q k H')→ZtTest Q x H'
def tTest (t:TE):TT:=fun σ H Q=>t σ H fun x H'=>ZtTest Q x H'
theorem pt_cmpR {op:CmpOp} {r:R2} (ho:OpR X (compareOp op) r) (ha:PE X a ta) (hb:PE X b tb) (hm:behindInMarks op b=false):PT X (.Compare a [op] [b] pos) (tTest (tOp r ta tb)):=by
  intro pins s σ H Q I h
  refine wpAny_isTrue_Compare1 (thn (ha pins s σ H _ I h) fun v s1 ⟨x,H1,I1,r1,q1⟩=>thn (hb pins s1 σ H1 _ I1 q1) fun u s2 ⟨y,H2,I2,r2,q2⟩ =>
    thn (ho pins s2 σ H2 x y v u _ I2 r1 r2 q2) fun c s3 ⟨z,H3,I3,r3,k,e,q3⟩=>?_) hm
  subst e
  cases r3
  exact wpAny_truthy_bool ⟨H3,I3,q3⟩
inductive ZtChain (r':R2) (tc:TE) (σ:St) (Q:VK) (y:V) (z:V) (H3:Hp):Prop where
  | mk:∀ k,(z=.bl k)→((if k=true then tc σ H3 fun w' H4=>r' y w' H4 Q else Q (.bl false) H3))→ZtChain r' tc σ Q y z H3
def tChain (r r':R2) (ta tb tc:TE):TE:=fun σ H Q=>ta σ H fun x H1=>tb σ H1 fun y H2=>r x y H2 fun z H3=>ZtChain r' tc σ Q y z H3
def TruV (K:PySem.W.Frag) (x:V) (H:Hp) (k:Bool):Prop :=
  match x with
  | .non=>k=false
  | .bl b=>k=b
  | .int i=>k=(i != 0)
  | .str y=>y.length≤sizeLine∧k=((y.length:Int) != 0)
  | .byt y=>y.size≤sizeLine∧k=((y.size:Int) != 0)
  | .ref p=>(∃ xs,SqL K H p xs∧k=!xs.isEmpty)∨(∃ xs,SqT K H p xs∧k=!xs.isEmpty)∨∃ kvs,H p=some (.dK kvs)∧k=!kvs.isEmpty
  | _=>False
theorem line63:(sizeLine:Nat) < 2 ^ 63:=by rw [sizeLine_eq]; decide
theorem append_none {x y:Str} (h:(y.length == 0)=true):x++y=x:=by
  have h0:y.cps=#[]:=Array.eq_empty_of_size_eq_zero (by simpa [Str.length] using h)
  show Str.append x y=x
  cases x; simp [Str.append,h0]
theorem none_append {x y:Str} (h:(x.length == 0)=true):x++y=y:=by
  have h0:x.cps=#[]:=Array.eq_empty_of_size_eq_zero (by simpa [Str.length] using h)
  show Str.append x y=y
  cases y; simp [Str.append,h0]
theorem add_post {x y:Str} {t u:Nat} {s:Shared} {Q:Value→Shared→Prop} (hz:x.length+y.length≤sizeLine) (hs:1≤s.toks) (h:∀ t' tk,1≤tk→RelV (.str (x++y)) t'→Q t' { s with toks:=tk }) :
    (if x.length == 0 then Made.val (.str y (u+1)) else if y.length == 0 then Made.val (.str x (t+1)) else Made.str (x++y)).post Q s:=by
  cases hx:x.length == 0
  · cases hy:y.length == 0
    · exact ⟨by show (x++y).length≤_; rw [strLen_append]; exact hz,h _ _ (Nat.le_add_left 1 _) (relS hs)⟩
    · have:=h (.str x (t+1)) s.toks hs (by rw [append_none hy]; exact ⟨_,rfl⟩)
      exact this
  · have:=h (.str y (u+1)) s.toks hs (by rw [none_append hx]; exact ⟨_,rfl⟩)
    exact this
theorem op_add_str:OpR X (binaryOp .Add) (fun x y H Q=>∃ i j,x=.str i∧y=.str j∧i.length+j.length≤sizeLine∧Q (.str (i++j)) H):=by
  intro pins s σ H x y v u Q I rx ry h
  obtain ⟨i,j,rfl,rfl,hz,q⟩:=h
  obtain ⟨t,rfl⟩:=rx
  obtain ⟨t',rfl⟩:=ry
  exact PySem.P.add_str (add_post hz I.tk fun u tk le r=>⟨.str (i++j),H,I.tok _,r,q⟩)
def PlainIxT (b:Expr):Prop:=∀ o i,subscripted b false o i=operate [o,i] (getItem o i)
theorem vals1 {x:V} {us:List Value} (r:Vals [x] us):∃ u,us=[u]∧RelV x u:=by
  cases r with
  | cons r1 r2=>cases r2; exact ⟨_,rfl,r1⟩
theorem vals2 {x y:V} {us:List Value} (r:Vals [x,y] us):∃ u w',us=[u,w']∧RelV x u∧RelV y w':=by
  cases r with
  | cons r1 r2 =>
    cases r2 with
    | cons r3 r4=>cases r4; exact ⟨_,_,rfl,r1,r3⟩
theorem call_max2 (hc:X.calm=true):CallR X (.builtin "max") (fun xs H Q=>∃ i j,xs=[.int i,.int j]∧Q (.int (if j > i then j else i)) H):=by
  intro pins s σ H xs us Q I r h
  obtain ⟨i,j,rfl,q⟩:=h
  obtain ⟨u,w',rfl,⟨t,rfl⟩,⟨t',rfl⟩⟩:=vals2 r
  refine wpAny_with_toks I.tk (max_two_ints (I.ok.hd hc) fun h' tk k le=>⟨_,H,I.kept k le,?_,q⟩)
  by_cases hj:j > i
  · rw [if_pos hj,if_pos hj]; exact ⟨_,rfl⟩
  · rw [if_neg hj,if_neg hj]; exact ⟨_,rfl⟩
theorem call_int1:CallR X (.type "int") (fun xs H Q=>(∃ i,xs=[.int i]∧Q (.int i) H)∨∃ k,xs=[.bl k]∧Q (.int (if k then 1 else 0)) H):=by
  intro pins s σ H xs us Q I r h
  rcases h with ⟨i,rfl,q⟩ | ⟨k,rfl,q⟩
  · obtain ⟨u,rfl,t,rfl⟩:=vals1 r
    exact call_int_int ⟨.int i,H,I,⟨_,rfl⟩,q⟩
  · obtain ⟨u,rfl,r1⟩:=vals1 r
    cases r1
    exact call_int_bool ⟨.int (if k then 1 else 0),H,I.tok _,⟨_,rfl⟩,q⟩
theorem call_str_int:CallR X (.type "str") (fun xs H Q=>∃ i,xs=[.int i]∧i.natAbs.log2 < 1920∧Q (.str (toString i)) H):=by
  intro pins s σ H xs us Q I r h
  obtain ⟨i,rfl,hz,q⟩:=h
  obtain ⟨u,rfl,t,rfl⟩:=vals1 r
  exact PySem.P.str_of_int hz ⟨.str _,H,I.tok _,relS I.tk,q⟩
def LenV (K:PySem.W.Frag) (x:V) (H:Hp) (n:Nat):Prop :=
  match x with
  | .str y=>y.length≤sizeLine∧n=y.length
  | .byt y=>y.size≤sizeLine∧n=y.size
  | .ref p=>(∃ xs,SqL K H p xs∧n=xs.length)∨∃ xs,SqT K H p xs∧n=xs.length
  | _=>False
end
end L2
namespace L2
open PySem PySem.Spec PyProof.Rows
structure ObjM (h:Heap) (x dx C:Addr) (mA:Str→Option Value):Prop where
  obj:h.get? x=some (PySem.W.instObj C dx)
  ns:h.Ns1 dx mA
  ne:dx ≠ x
theorem lookIn_ns {h:Heap} {dx:Addr} {mA:Str→Option Value} (n:h.Ns1 dx mA):∃ od,h.get? dx=some od∧∀ name,PySem.W.lookIn name od=some (mA name):=by
  obtain ⟨o,es,ep,ho,hd,hk,_,hm⟩:=n
  refine ⟨o,ho,fun name=>?_⟩
  have e:=hm name
  unfold nsFind findBy at e
  rw [← Array.find?_toList] at e
  unfold PySem.W.lookIn
  rw [hd]
  dsimp only
  split
  · rename_i y q
    rw [q] at e
    exact congrArg some e
  · rename_i q
    rw [q] at e
    have a:es.toList.any (·.refKey)=false:=by
      rw [List.any_eq_false]
      intro y hy
      obtain ⟨z,t,hkey⟩:=hk y (Array.mem_toList_iff.mp hy)
      simp [DictEntry.refKey,hkey]
    have a':¬ es.toList.any (·.refKey)=true:=by rw [a]; exact Bool.false_ne_true
    rw [if_neg a']
    exact congrArg some e
theorem ObjM.look {h:Heap} {x dx C:Addr} {mA:Str→Option Value} (I:ObjM h x dx C mA):∃ od,PySem.W.InstAt h x (PySem.W.instObj C dx) C (some od)∧∀ name,PySem.W.lookIn name od=some (mA name) :=
  let ⟨od,ho,hl⟩:=lookIn_ns I.ns
  ⟨od,⟨I.obj,rfl,rfl,ho⟩,hl⟩
section
variable {prog:Program} {w:World} {A:Around} {E:Value→Shared→Prop} {s:Shared} {K:PySem.W.Frag} {x dx C f:Addr} {mA:Str→Option Value} {name:Str} {v:Value}
theorem get_map {expr:Bool} {Q:Value→Shared→Prop} (X:K.In s.heap) (I:ObjM s.heap x dx C mA) (hg:PySem.W.plainGet K C name=true) (hh:PySem.W.hasDictIn K C=true)
    (ha:PySem.W.findIn K (.ref C) name=some none) (hv:mA name=some v) (hv':PySem.W.handedIn v=true) (h:Q v { s with toks:=s.toks+1 }) :
    wpAny (model prog w) A (getAttr (.ref x) name expr) Q E s:=by
  obtain ⟨od,J,hl⟩:=I.look
  exact PySem.W.get_value X J (PySem.W.plainGet_of hg).1 (PySem.W.findObj_own hh ha rfl (by rw [hl,hv])) hv' h
theorem get_meth {pl:Sem Bool} {Q:Value × List Value→Shared→Prop} (X:K.In s.heap) (I:ObjM s.heap x dx C mA) (hg:PySem.W.plainGet K C name=true)
    (hf:PySem.W.findIn K (.ref C) name=some (some (.ref f))) (ht:PySem.W.isFn K (.ref f)=true) (hv:mA name=none) (h:Q (.ref f,[.ref x]) s) :
    wpAny (model prog w) A (getMethod (.ref x) name pl) Q E s:=by
  obtain ⟨od,J,hl⟩:=I.look
  exact PySem.W.method_fn X J (PySem.W.plainGet_of hg).1 (PySem.W.plainGet_of hg).2 hf (beq_iff_eq.mp ht) (by show (PySem.W.lookIn name od).map (·.isSome)=some false; rw [hl,hv]; rfl) h
theorem set_map {ns:List Str} {Q:Unit→Shared→Prop} (X:K.In s.heap) (I:ObjM s.heap x dx C mA)
    (hs:PySem.W.findIn K (.ref C) "__setattr__" = some (some (.builtin "object.__setattr__"))) (hp:PySem.W.plainOver K C=true) (ht:PySem.W.takerIn K C name=some none) (hh:PySem.W.hasDictIn K C=true)
    (hw:PySem.Within mA ns) (hsz:ns.length≤sizeLine)
    (h:∀ h',ObjM h' x dx C (fun y=>if y=name then some v else mA y)→Heap.SameBut dx s.heap h'→Q () { s with heap:=h',toks:=s.toks+2 }) :
    wpAny (model prog w) A (setAttr (.ref x) name v) Q E s:=by
  obtain ⟨od,J,hl⟩:=I.look
  refine PySem.W.set_plain X J hs (PySem.W.osa_open (s:={ s with toks:=s.toks+1 }) (r:=none) X J hp ht fun b=>?_)
  obtain ⟨cd,hc,hd'⟩:=PySem.W.any_some hh
  have hx:s.heap.get? x=some ⟨.ref C,some dx,.plain,#[]⟩:=I.obj
  refine wpAny_bind (wpAny_pure (wpAny_bind (wpAny_bind (wpAny_loadPart hx (wpAny_bind (PySem.W.Looks.here (s:={ s with toks:=s.toks+1 }) (PySem.W.looks_clsIn X hc) ?_))))))
  rw [hd']
  refine wpAny_pure (a:=some dx) (wpAny_bind (wpAny_pure (wpAny_bind ?_)))
  refine wpAny_nsSet1 (s:={ s with toks:=s.toks+1 }) I.ns fun h' hn2 hs2=>?_
  obtain ⟨oD,esD,epD,hoD,hdD,hcD⟩:=hn2.count (PySem.Within.cons name v hw)
  refine wpAny_bind (wpAny_lookBehind hoD (by rw [hdD]; exact pastItsLine_dict (Nat.le_trans hcD (by rw [List.length_cons]; omega))) ?_)
  exact wpAny_pure (h _ ⟨(hs2.2 _ (Ne.symm I.ne)).trans I.obj,hn2,I.ne⟩ hs2)
theorem make_map {R:Result→Shared→Prop} {vs:List Value} {kw:List (Str × Value)} (X:K.In s.heap) (hm:PySem.W.makesIn K C=true)
    (hi:PySem.W.findIn K (.ref C) "__init__" = some (some (.ref f))) (hf:PySem.W.typeIn K (.ref f)=some (.type "function"))
    (h:codeAny (model prog w) (A.under (.builtin "type.__call__" ⟨.ref C::vs,kw⟩)) (.call (.ref f) ⟨.ref (s.heap.objs.size+1)::vs,kw⟩) (PySem.W.InitBack (s.heap.objs.size+1) R)
      { s with heap:=(s.heap.push PySem.W.emptyDict).push (PySem.W.instObj C s.heap.objs.size) }) :
    codeAny (model prog w) A (.call (.ref C) ⟨vs,kw⟩) R s:=by
  obtain ⟨hh,g,d,t,os⟩:=s
  exact PySem.W.make_core (PySem.W.makes_of X hm) (PySem.W.looks_findIn X hi) (fun self=>PySem.W.bind_fn X self hf) (.inl rfl) h
end
def putF (f:Str) (v:V):List (Str × V)→List (Str × V)
  | []=>[(f,v)]
  | (g,x)::r=>if g=f then (g,v)::r else (g,x)::putF f v r
theorem lookup_putF (f g:Str) (v:V):∀ fs:List (Str × V),(putF f v fs).lookup g=if g=f then some v else fs.lookup g
  | []=>by
    show List.lookup g [(f,v)]=_
    by_cases h:g=f
    · have hb:(g == f)=true:=beq_iff_eq.mpr h
      simp only [List.lookup,hb,if_pos h]
    · have hb:(g == f)=false:=beq_eq_false_iff_ne.mpr h
      simp only [List.lookup,hb,if_neg h]
  | (k,x)::r=>by
    have ih:=lookup_putF f g v r
    rw [show putF f v ((k,x)::r)=(if k=f then (k,v)::r else (k,x)::putF f v r) from rfl]
    by_cases hk:k=f
    · rw [if_pos hk]
      by_cases h:g=k
      · have hb:(g == k)=true:=beq_iff_eq.mpr h
        simp only [List.lookup,hb,if_pos (h.trans hk)]
      · have hb:(g == k)=false:=beq_eq_false_iff_ne.mpr h
        simp only [List.lookup,hb,if_neg (fun e:g=f=>h (e.trans hk.symm))]
    · rw [if_neg hk]
      by_cases h:g=k
      · have hb:(g == k)=true:=beq_iff_eq.mpr h
        simp only [List.lookup,hb,if_neg (fun e:g=f=>hk (h.symm.trans e))]
      · have hb:(g == k)=false:=beq_eq_false_iff_ne.mpr h
        simp only [List.lookup,hb]
        exact ih
theorem keys_putF (f:Str) (v:V):∀ fs:List (Str × V),f ∈ (putF f v fs).map (·.1)∧∀ g,g ∈ fs.map (·.1)→g ∈ (putF f v fs).map (·.1)
  | []=>⟨by simp [putF],fun g h=>by simp at h⟩
  | (k,x)::r=>by
    obtain ⟨i1,i2⟩:=keys_putF f v r
    rw [show putF f v ((k,x)::r)=(if k=f then (k,v)::r else (k,x)::putF f v r) from rfl]
    by_cases hk:k=f
    · rw [if_pos hk]
      subst hk
      exact ⟨by simp,fun g h=>by simpa using h⟩
    · rw [if_neg hk]
      refine ⟨?_,fun g h=>?_⟩
      · rw [List.map_cons]
        exact List.mem_cons_of_mem _ i1
      · rw [List.map_cons] at h ⊢
        rcases List.mem_cons.mp h with e | e
        · exact List.mem_cons.mpr (.inl e)
        · exact List.mem_cons_of_mem _ (i2 g e)
theorem length_putF (f:Str) (v:V):∀ fs:List (Str × V),(putF f v fs).length≤fs.length+1
  | []=>by simp [putF]
  | (k,x)::r=>by
    have ih:=length_putF f v r
    rw [show putF f v ((k,x)::r)=(if k=f then (k,v)::r else (k,x)::putF f v r) from rfl]
    by_cases hk:k=f
    · rw [if_pos hk,List.length_cons,List.length_cons]; omega
    · rw [if_neg hk,List.length_cons,List.length_cons]; omega
theorem RelO.some_of {v:V} {o:Option Value} (r:RelO (some v) o):∃ u,o=some u∧RelV v u:=by
  cases o with
  | none=>exact (show False from r).elim
  | some u=>exact ⟨u,rfl,r⟩
theorem RelO.none_of {o:Option Value} (r:RelO none o):o=none:=by
  cases o with
  | none=>rfl
  | some u=>exact (show False from r).elim
theorem handed_of {v:V} {u:Value} (r:RelV v u):PySem.W.handedIn u=true:=by
  cases v with
  | non=>cases (show u=Value.none from r); rfl
  | bl b=>cases (show u=Value.bool b from r); rfl
  | int i=>obtain ⟨t,e⟩:=(show ∃ t,u=Value.int i t from r); cases e; rfl
  | str x=>obtain ⟨t,e⟩:=(show ∃ t,u=Value.str x (t+1) from r); cases e; rfl
  | byt b=>obtain ⟨t,e⟩:=(show ∃ t,u=Value.bytes b t from r); cases e; rfl
  | flt b=>obtain ⟨t,e⟩:=(show ∃ t,u=Value.float b t from r); cases e; rfl
  | ref a=>cases (show u=Value.ref a from r); rfl
  | ty n=>cases (show u=Value.type n from r); rfl
section
variable {P:Program} {w:World} {H H':Hp} {h h':Heap} {a C dx:Addr} {fs fs':List (Str × V)}
theorem ins_get (hok:HOk P w H h) (e:H a=some (.ins C dx fs)):∃ mA,ObjM h a dx C mA∧(∀ f,RelO (fs.lookup f) (mA f))∧PySem.Within mA (fs.map (·.1))∧fs.length≤1000∧H dx=some (.own a):=by
  obtain ⟨d,z,ne,ob,mA,n,r,q⟩:=(show ObjOk P w H h a (.ins C dx fs) from hok a _ e)
  exact ⟨mA,⟨ob,n,ne⟩,r,q,z,d⟩
end
structure Cls (K:PySem.W.Frag) (C:Addr):Prop where
  pg:PySem.W.plainGet K C Str.empty=true
  hd:PySem.W.hasDictIn K C=true
  po:PySem.W.plainOver K C=true
  sa:PySem.W.findIn K (.ref C) "__setattr__" = some (some (.builtin "object.__setattr__"))
theorem Cls.get {K:PySem.W.Frag} {C:Addr} (c:Cls K C) (f:Str):PySem.W.plainGet K C f=true:=c.pg
def NoAttr (K:PySem.W.Frag) (C:Addr) (f:Str):Prop:=PySem.W.findIn K (.ref C) f=some none
theorem NoAttr.taker {K:PySem.W.Frag} {C:Addr} {f:Str} (n:NoAttr K C f):PySem.W.takerIn K C f=some none:=by
  unfold PySem.W.takerIn
  rw [show PySem.W.findIn K (.ref C) f=some none from n]
  rfl
structure Con (K:PySem.W.Frag) (C:Addr) (f:Str) (v:V) (u:Value):Prop where
  at_:PySem.W.findIn K (.ref C) f=some (some u)
  rel:RelV v u
  get:PySem.W.specialIn K u "__get__" = some none
  cp:PySem.W.copiedNames.contains f=false
structure Meth (K:PySem.W.Frag) (C:Addr) (m:Str) (f:Addr):Prop where
  at_:PySem.W.findIn K (.ref C) m=some (some (.ref f))
  fn:PySem.W.isFn K (.ref f)=true
  kp:PySem.W.keepIn K (.ref f)=true
section
variable {X:Cx} {pins:List (Addr × Obj)} {σ:St} {H:Hp} {s:Shared} {a C dx:Addr} {fs:List (Str × V)} {f:Str} {v:V} {A:Around} {E:Value→Shared→Prop}
theorem getattr_ok {b:Bool} {Q:Value→Shared→Prop} (I:Inv X pins σ H s) (e:H a=some (.ins C dx fs)) (c:Cls X.K C) (n:NoAttr X.K C f) (l:fs.lookup f=some v)
    (h:∀ u s',Inv X pins σ H s'→RelV v u→Q u s'):wpAny (model X.prog X.w) A (getAttr (.ref a) f b) Q E s:=by
  obtain ⟨mA,O,r,_,_,_⟩:=ins_get I.hok e
  obtain ⟨u,hu,ru⟩:=RelO.some_of (v:=v) (o:=mA f) (by rw [← l]; exact r f)
  exact get_map I.kIn O (c.get f) c.hd n hu (handed_of ru) (h u _ (I.tok _) ru)
theorem getmeth_ok {m:Str} {g:Addr} {pl:Sem Bool} {Q:Value × List Value→Shared→Prop} (I:Inv X pins σ H s) (e:H a=some (.ins C dx fs)) (c:Cls X.K C) (k:Meth X.K C m g) (l:fs.lookup m=none)
    (h:Q (.ref g,[.ref a]) s):wpAny (model X.prog X.w) A (getMethod (.ref a) m pl) Q E s:=by
  obtain ⟨mA,O,r,_,_,_⟩:=ins_get I.hok e
  have hn:mA m=none:=RelO.none_of (by rw [← l]; exact r m)
  exact get_meth I.kIn O (c.get m) k.at_ k.fn hn h
theorem setattr_ok {y:V} {u:Value} {Q:Unit→Shared→Prop} (I:Inv X pins σ H s) (e:H a=some (.ins C dx fs)) (c:Cls X.K C) (n:NoAttr X.K C f) (hl:fs.length < 1000) (ry:RelV y u)
    (h:∀ s',Inv X pins σ (upd H a (.ins C dx (putF f y fs))) s'→Q () s'):wpAny (model X.prog X.w) A (setAttr (.ref a) f u) Q E s:=by
  obtain ⟨mA,O,r,wi,_,ho⟩:=ins_get I.hok e
  have hz:(fs.map (·.1)).length≤sizeLine:=by rw [List.length_map,sizeLine_eq]; omega
  refine set_map I.kIn O c.sa c.po n.taker c.hd wi hz fun h' O' sb=>h _ ?_
  have hd:∃ o,h'.get? dx=some o:=let ⟨o,_,_,e',_⟩:=O'.ns; ⟨o,e'⟩
  refine I.write (x:=a) (e:=dx) (by rw [e]; exact True.intro) (.inr ho) (fun b q hb z=>(sb.2 b hb).trans z) hd ?_
  refine ⟨by rw [upd_ne O.ne]; exact ho,?_,O.ne,O'.obj,_,O'.ns,fun g=>?_,fun g hg=>?_⟩
  · have:=length_putF f y fs; omega
  · show RelO ((putF f y fs).lookup g) (if g=f then some u else mA g)
    rw [lookup_putF]
    by_cases q:g=f
    · rw [if_pos q,if_pos q]; exact ry
    · rw [if_neg q,if_neg q]; exact r g
  · by_cases q:g=f
    · rw [q]; exact (keys_putF f y fs).1
    · refine (keys_putF f y fs).2 g (wi g fun z=>hg ?_)
      show (if g=f then some u else mA g)=none
      rw [if_neg q]; exact z
theorem Inv.made (I:Inv X pins σ H s):Inv X pins σ (upd (upd H s.heap.objs.size (.own (s.heap.objs.size+1))) (s.heap.objs.size+1) (.ins C s.heap.objs.size []))
    { s with heap:=(s.heap.push PySem.W.emptyDict).push (PySem.W.instObj C s.heap.objs.size) }:=by
  have e1:(s.heap.push PySem.W.emptyDict).get? s.heap.objs.size=some PySem.W.emptyDict:=Heap.get?_push_size s.heap rfl
  have e2:((s.heap.push PySem.W.emptyDict).push (PySem.W.instObj C s.heap.objs.size)).get? (s.heap.objs.size+1)=some (PySem.W.instObj C s.heap.objs.size):=by
    have:=Heap.get?_push_size (s.heap.push PySem.W.emptyDict) (o:=PySem.W.instObj C s.heap.objs.size) rfl
    rwa [Heap.size_push] at this
  have e3:(s.heap.push PySem.W.emptyDict).Ns s.heap.objs.size (fun _=>none):=⟨PySem.W.emptyDict,#[],_,e1,rfl,(fun e he=>absurd he (by simp)),fun _=>rfl⟩
  have I1:=I.laid (a:=s.heap.objs.size) (o:=.own (s.heap.objs.size+1)) (h':=s.heap.push PySem.W.emptyDict) (t':=s.toks) (fun b u q=>Heap.get?_push_of_some _ q) (Nat.le_refl _) ⟨_,e1⟩
  refine I1.laid (a:=s.heap.objs.size+1) (o:=.ins C s.heap.objs.size []) (t':=s.toks) (fun b u q=>Heap.get?_push_of_some _ q) (Nat.le_of_eq (Heap.size_push _ _)) ?_
  have ne:s.heap.objs.size ≠ s.heap.objs.size+1:=Nat.ne_of_lt (Nat.lt_succ_self _)
  refine ⟨by rw [upd_ne ne,upd_same],Nat.zero_le _,ne,e2,fun _=>none,(Heap.Ns1.of_empty e3).at fun o q=>Heap.get?_push_of_some _ q,fun _=>True.intro,fun y hy=>absurd rfl hy⟩
theorem attr_of {prog:Program} {w:World} {env:Env} {e:Expr} {f:Str} {pos:Pos} {s:Shared} {Q:Value→Shared→Prop} (hb:attributeBase e f env (eval e env)=eval e env)
    (h:wpAny (model prog w) A (eval e env) (fun o s₁=>wpAny (model prog w) A (getAttr o f true) Q E s₁) E s):wpAny (model prog w) A (eval (.Attribute e f pos) env) Q E s :=
  Attribute_any_ h (by rw [arm_eval_Attribute,hb])
end
inductive ZtFld (K:PySem.W.Frag) (f:Str) (Q:VK) (x:V) (H1:Hp):Prop where
  | mk:∀ a C dx fs v,(x=.ref a)→(H1 a=some (.ins C dx fs))→(Cls K C)→(NoAttr K C f)→(fs.lookup f=some v)→(Q v H1)→ZtFld K f Q x H1
def tFld (K:PySem.W.Frag) (ta:TE) (f:Str):TE:=fun σ H Q=>ta σ H fun x H1=>ZtFld K f Q x H1
inductive ZtCon (K:PySem.W.Frag) (f:Str) (Q:VK) (x:V) (H1:Hp):Prop where
  | mk:∀ a C dx fs v u,(x=.ref a)→(H1 a=some (.ins C dx fs))→(Cls K C)→(Con K C f v u)→(fs.lookup f=none)→(Q v H1)→ZtCon K f Q x H1
def tCon (K:PySem.W.Frag) (ta:TE) (f:Str):TE:=fun σ H Q=>ta σ H fun x H1=>ZtCon K f Q x H1
inductive ZsFld (K:PySem.W.Frag) (f:Str) (D:Ends) (σ:St) (y:V) (x:V) (H2:Hp):Prop where
  | mk:∀ a C dx fs,(x=.ref a)→(H2 a=some (.ins C dx fs))→(Cls K C)→(NoAttr K C f)→(fs.length < 1000)→(D.nx σ (upd H2 a (.ins C dx (putF f y fs))))→ZsFld K f D σ y x H2
def sFld (K:PySem.W.Frag) (ta tv:TE) (f:Str):TS:=fun D σ H=>tv σ H fun y H1=>ta σ H1 fun x H2=>ZsFld K f D σ y x H2
def InOp (X:Cx) (op:Operator) (rd:V→V→Hp→VK→Prop):Prop :=
  ∀ (pins:List (Addr × Obj)) (s:Shared) (σ:St) (H:Hp) (x y:V) (u v:Value) (Q:VK),Inv X pins σ H s→RelV x u→RelV y v→rd x y H Q→wpAny (model X.prog X.w) X.A (inplaceOp op u v) (EP X pins σ Q) X.xe s
inductive ZsFldAug (K:PySem.W.Frag) (tv:TE) (rd:V→V→Hp→VK→Prop) (f:Str) (D:Ends) (σ:St) (x:V) (H1:Hp):Prop where
  | mk:∀ a C dx fs v,(x=.ref a)→(H1 a=some (.ins C dx fs))→(Cls K C)→(NoAttr K C f)→(fs.lookup f=some v)→(tv σ H1 fun y H2=>rd v y H2 fun z H3=>∃ dx' fs',H3 a=some (.ins C dx' fs')∧fs'.length < 1000∧D.nx σ (upd H3 a (.ins C dx' (putF f z fs'))))→ZsFldAug K tv rd f D σ x H1
def sFldAug (K:PySem.W.Frag) (ta tv:TE) (rd:V→V→Hp→VK→Prop) (f:Str):TS:=fun D σ H=>ta σ H fun x H1=>ZsFldAug K tv rd f D σ x H1
section
variable {X:Cx} {o e value:Expr} {f:Str} {pos pos' tpos:Pos} {ta tv:TE}
theorem pe_fld (he:PE X e ta) (hb:attributeBase e f X.env (eval e X.env)=eval e X.env):PE X (.Attribute e f pos) (tFld X.K ta f):=by
  intro pins s σ H Q I h
  refine attr_of hb (thn (he pins s σ H _ I h) fun u s1 ⟨x,H1,I1,rx,a,C,dx,fs,v,ex,ea,c,n,l,q⟩=>?_)
  subst ex
  obtain rfl:u=Value.ref a:=rx
  exact getattr_ok I1 ea c n l fun u' s2 I2 ru=>⟨v,H1,I2,ru,q⟩
theorem ps_fld (ha:PE X o ta) (hv:PE X value tv) (hs:swapsWith value (some (.Attribute o f pos')) pos.line X.env=pure false):PS X (.Assign [.Attribute o f pos'] value pos) (sFld X.K ta tv f):=by
  intro pins s σ H D I h
  refine plainObj_wpAny_Assign_Attribute (thn (hv pins s σ H _ I h) fun u s1 ⟨y,H1,I1,ry,q⟩=>thn (ha pins s1 σ H1 _ I1 q) fun ov s2 ⟨x,H2,I2,rx,a,C,dx,fs,ex,ea,c,n,l,q2⟩=>?_) hs
  subst ex
  obtain rfl:ov=Value.ref a:=rx
  exact setattr_ok I2 ea c n l ry fun s3 I3=>⟨σ,_,I3,q2⟩
inductive rAdd (x:V) (y:V) (H:Hp) (Q:VK):Prop where
  | mk:∀ i j,(x=.int i)→(y=.int j)→(Q (.int (i+j)) H)→rAdd x y H Q
inductive rSub (x:V) (y:V) (H:Hp) (Q:VK):Prop where
  | mk:∀ i j,(x=.int i)→(y=.int j)→(Q (.int (i - j)) H)→rSub x y H Q
end
section
variable {X:Cx} {pins:List (Addr × Obj)} {σ:St} {H:Hp} {s:Shared} {A:Around} {E:Value→Shared→Prop} {Q:Value→Shared→Prop} {c:Value} {b:Bool}
inductive TyOf (K:PySem.W.Frag) (H:Hp):V→Value→Prop where
  | non:TyOf K H .non (.type "NoneType")
  | bl (x:Bool):TyOf K H (.bl x) (.type "bool")
  | int (i:Int):TyOf K H (.int i) (.type "int")
  | str (x:Str):TyOf K H (.str x) (.type "str")
  | flt (x:UInt64):TyOf K H (.flt x) (.type "float")
  | lst {a:Addr} {xs:List V} (e:H a=some (.lst xs)):TyOf K H (.ref a) (.type "list")
  | frz {a:Addr} {o:Obj} {xs:List V} (e:H a=some (.frz o (.lst xs))):TyOf K H (.ref a) (.type "list")
  | tup {a:Addr} {xs:List V} (e:H a=some (.tup xs)):TyOf K H (.ref a) (.type "tuple")
  | dK {a:Addr} {kvs:List (Key × V)} (e:H a=some (.dK kvs)):TyOf K H (.ref a) (.type "dict")
  | dT {a:Addr} {kvs:List (List Key × V)} (e:H a=some (.dT kvs)):TyOf K H (.ref a) (.type "dict")
  | ins {a C dx:Addr} {fs:List (Str × V)} (e:H a=some (.ins C dx fs)) (cl:Cls K C) (ha:PySem.W.findIn K (.ref C) "__class__" = some (some (.builtin "object.__class__")))
      (hn:PySem.W.specialIn K (.builtin "object.__class__") "__get__" = some (some (.builtin "getset_descriptor.__get__"))) (htk:PySem.W.takesIn K (.builtin "object.__class__")=some true)
      (hm:PySem.W.mroIn K C (.type "object")=some true):TyOf K H (.ref a) (.ref C)
theorem isinst_ok {x:V} {u t:Value} (I:Inv X pins σ H s) (rx:RelV x u) (ty:TyOf X.K H x t) (e:PySem.W.kitOne X.K t c=some b) (h:∀ tk,Q (.bool b) { s with toks:=tk }) :
    wpAny (model X.prog X.w) A (call (.builtin "isinstance") [u,c]) Q E s:=by
  cases ty with
  | non=>cases (show u=Value.none from rx); exact PySem.W.kia_one PySem.W.kitx_none I.kIn True.intro e (fun z=>nomatch z) h
  | bl y=>cases (show u=Value.bool y from rx); exact PySem.W.kia_one PySem.W.kitx_bool I.kIn True.intro e (fun z=>nomatch z) h
  | int i=>obtain ⟨t,q⟩:=(show ∃ t,u=Value.int i t from rx); cases q; exact PySem.W.kia_one PySem.W.kitx_int I.kIn True.intro e (fun z=>nomatch z) h
  | str y=>obtain ⟨t,q⟩:=(show ∃ t,u=Value.str y (t+1) from rx); cases q; exact PySem.W.kia_one PySem.W.kitx_str I.kIn True.intro e (fun z=>nomatch z) h
  | flt y=>obtain ⟨t,q⟩:=(show ∃ t,u=Value.float y t from rx); cases q; exact PySem.W.kia_one PySem.W.kitx_float I.kIn True.intro e (fun z=>nomatch z) h
  | @lst a xs ea =>
    cases (show u=Value.ref a from rx)
    obtain ⟨_,_,n,_,h1⟩:=(show ObjOk X.prog X.w H s.heap a (.lst xs) from I.hok a _ ea)
    exact PySem.W.kia_one PySem.W.kitx_list I.kIn ⟨_,h1,rfl⟩ e (fun z=>nomatch z) h
  | @frz a ob xs ea =>
    cases (show u=Value.ref a from rx)
    obtain ⟨_,_,_,n,_,h1⟩:=(show ObjOk X.prog X.w H s.heap a (.frz ob (.lst xs)) from I.hok a _ ea)
    exact PySem.W.kia_one PySem.W.kitx_list I.kIn ⟨_,h1,rfl⟩ e (fun z=>nomatch z) h
  | @tup a xs ea =>
    cases (show u=Value.ref a from rx)
    obtain ⟨_,_,_,p,_⟩:=(show ObjOk X.prog X.w H s.heap a (.tup xs) from I.hok a _ ea)
    obtain ⟨o,h1,h2,_⟩:=p
    exact PySem.W.kia_one PySem.W.kitx_tuple I.kIn ⟨o,h1,h2⟩ e (fun z=>nomatch z) h
  | @dK a kvs ea =>
    cases (show u=Value.ref a from rx)
    obtain ⟨_,_,vs,_,p⟩:=(show ObjOk X.prog X.w H s.heap a (.dK kvs) from I.hok a _ ea)
    obtain ⟨o,es,ep,h1,h2,_⟩:=p
    exact PySem.W.kia_one PySem.W.kitx_dict I.kIn ⟨o,h1,h2.1⟩ e (fun z=>nomatch z) h
  | @dT a kvs ea =>
    cases (show u=Value.ref a from rx)
    obtain ⟨_,_,xs,_,o,es,ep,h1,h2,_⟩:=(show ObjOk X.prog X.w H s.heap a (.dT kvs) from I.hok a _ ea)
    exact PySem.W.kia_one PySem.W.kitx_dict I.kIn ⟨o,h1,h2.1⟩ e (fun z=>nomatch z) h
  | @ins a C dx fs ea cl ha hn htk hm =>
    cases (show u=Value.ref a from rx)
    obtain ⟨mA,O,_⟩:=ins_get I.hok ea
    obtain ⟨od,J,_⟩:=O.look
    exact PySem.W.kia_one (PySem.W.kitx_own (cl.get _) cl.hd ha hn htk hm) I.kIn J e (fun z=>nomatch z) h
end
end L2
namespace L2
open PySem PySem.Spec PyProof.Rows
structure Room (k:Nat) (A:Around):Prop where
  hd:A.handled=none
  gd:A.guards=some []
  dp:A.depth+3*k+5 < recursionLimit
  un:A.units+16*k+200 < cLine
theorem Room.mono {j k:Nat} {A:Around} (r:Room k A) (h:j≤k):Room j A:=⟨r.hd,r.gd,by have:=r.dp; omega,by have:=r.un; omega⟩
theorem Room.deeper {k:Nat} {A:Around} (r:Room (k+1) A) (env:Env):Room k (A.deeper env) :=
  ⟨r.hd,r.gd,by have:=r.dp; show A.depth+1+3*k+5 < _; omega,by have:=r.un; show A.units+3+16*k+200 < _; omega⟩
theorem make_depth {A:Around} {C:Addr} {us:List Value} {kw:List (Str × Value)}:(A.under (.builtin "type.__call__" ⟨.ref C::us,kw⟩)).depth=A.depth+1:=by
  first | rfl | simp [Around.under,Code.weight,Code.isCreation,Code.isGuard,Code.isCaller,Code.frames,Code.isFrame,guardIds]
theorem make_units {A:Around} {C:Addr} {us:List Value} {kw:List (Str × Value)}:(A.under (.builtin "type.__call__" ⟨.ref C::us,kw⟩)).units=A.units+1:=by
  first | rfl | simp [Around.under,Code.cUnits,Code.frames,Code.isFrame]
theorem Room.make {k:Nat} {A:Around} (r:Room (k+1) A) (C:Addr) (us:List Value) (kw:List (Str × Value)):Room k (A.under (.builtin "type.__call__" ⟨.ref C::us,kw⟩)) :=
  ⟨r.hd,by simp [Around.under,Code.guards,Code.isGuard,guardIds,pushGuards,r.gd],by have:=r.dp; rw [make_depth]; omega,by have:=r.un; rw [make_units]; omega⟩
theorem Room.depth {k:Nat} {A:Around} (r:Room k A):A.depth < recursionLimit:=by have:=r.dp; omega
theorem Room.units {k:Nat} {A:Around} (r:Room k A):A.units+64 < cLine:=by have:=r.un; omega
theorem Room.units0 {k:Nat} {A:Around} (r:Room k A):A.units < cLine:=by have:=r.un; omega
def tNil:TA:=fun _ H Q=>Q [] H
def tCons (ta:TE) (tr:TA):TA:=fun σ H Q=>ta σ H fun x H1=>tr σ H1 fun xs H2=>Q (x::xs) H2
section
variable {X:Cx} {e:Expr} {es:List Expr} {te:TE} {t:TA} {pos:Pos}
theorem pa_nil:PA X [] tNil:=fun _ _ _ _ H Q I h=>Calls.spliced_nil ⟨[],H,I,.nil,h⟩
theorem pa_cons (ha:PE X e te) (hr:PA X es t) (hs:starEach (e::es) X.env=(false,eval e X.env)::starEach es X.env:=by rfl):PA X (e::es) (tCons te t):=by
  intro pos pins s σ H Q I h
  rw [hs]
  show wpAny _ _ (spliced ((false,eval e X.env)::backTo pos (starEach es X.env))) _ _ s
  refine Calls.spliced_cons (thn (ha pins s σ H _ I h) fun u s1 ⟨x,H1,I1,r1,q1⟩=>?_)
  exact thn (hr pos pins s1 σ H1 _ I1 q1) fun us s2 ⟨xs,H2,I2,r2,q2⟩=>⟨x::xs,H2,I2,.cons r1 r2,q2⟩
inductive ZtTup (Q:VK) (xs:(List V)) (H1:Hp):Prop where
  | mk:(xs.length≤sizeLine)→(∀ p,H1 p=none→Q (.ref p) (upd H1 p (.tup xs)))→ZtTup Q xs H1
def tTup (t:TA):TE:=fun σ H Q=>t σ H fun xs H1=>ZtTup Q xs H1
inductive ZtLst (Q:VK) (xs:(List V)) (H1:Hp):Prop where
  | mk:(xs.length≤sizeLine)→(∀ p,H1 p=none→Q (.ref p) (upd H1 p (.lst xs)))→ZtLst Q xs H1
def tLst (t:TA):TE:=fun σ H Q=>t σ H fun xs H1=>ZtLst Q xs H1
theorem pe_tup {x1} (h:PA X es t):PE X (.Tuple es x1 pos) (tTup t):=by
  intro pins s σ H Q I hq
  refine wpAny_Tuple_spliced (thn (h pos pins s σ H _ I hq) fun us s1 ⟨xs,H1,I1,r,z,q⟩=>⟨by rw [← r.length]; exact z,?_⟩)
  have hf:H1 s1.heap.objs.size=none:=I1.hok.fresh (Nat.le_refl _)
  refine ⟨.ref s1.heap.objs.size,upd H1 s1.heap.objs.size (.tup xs),I1.laid (t':=s1.toks) (fun b u e=>Heap.get?_push_of_some _ e) (Nat.le_refl _) ?_,rfl,q _ hf⟩
  exact ⟨z,us,r,⟨_,Heap.get?_push_size _ rfl,rfl,_,rfl⟩,_,Heap.get?_push_size _ rfl,rfl⟩
theorem pe_lst (h:PA X es t):PE X (.List es pos) (tLst t):=by
  intro pins s σ H Q I hq
  refine wpAny_List_spliced (thn (h pos pins s σ H _ I hq) fun us s1 ⟨xs,H1,I1,r,z,q⟩=>⟨by rw [← r.length]; exact z,?_⟩)
  have hf:H1 s1.heap.objs.size=none:=I1.hok.fresh (Nat.le_refl _)
  refine ⟨.ref s1.heap.objs.size,upd H1 s1.heap.objs.size (.lst xs),I1.laid (t':=s1.toks) (fun b u e=>Heap.get?_push_of_some _ e) (Nat.le_refl _) ?_,rfl,q _ hf⟩
  exact ⟨z,us,0,r,Heap.get?_push_size _ rfl⟩
end
abbrev Sp:=List V→Hp→VK→XK→Prop
abbrev CXT:=List Env→Hp→Shared→XK→Value→Shared→Prop
structure Env0 (P:Program) (w:World) (K:PySem.W.Frag) (mg:Str→Option Value) (base:Heap) (A:Around) (outer:List Env) (s:Shared) (H:Hp):Prop where
  frames:A.frames=some outer
  mod:Mod K mg base
  bs:∀ b o,base.get? b=some o→s.heap.get? b=some o∧H b=none
  bsz:base.objs.size≤s.heap.objs.size
  funs:s.heap.FunFrames base outer
  frf:∀ b ∈ frs outer,H b=none
  hok:HOk P w H s.heap
  bare:AllBare s.gens
  tk:1≤s.toks
def CE (outer:List Env) (P:Program) (w:World) (H:Hp) (s:Shared) (Q:VK) (u:Value) (s':Shared):Prop :=
  ∃ v H',1≤s'.toks∧s'.os=s.os∧AllBare s'.gens∧Un (frs outer) [] H H' s.heap s'.heap∧HOk P w H' s'.heap∧RelV v u∧Q v H'
def CR (CX:CXT) (outer:List Env) (P:Program) (w:World) (H:Hp) (s:Shared) (Q:VK) (E:XK) (r:Result) (s':Shared):Prop :=
  match r with
  | .ok (.ret u)=>CE outer P w H s Q u s'
  | .ok _=>False
  | .error e=>CX outer H s E e s'
structure FnOk (P:Program) (w:World) (K:PySem.W.Frag) (mg:Str→Option Value) (base:Heap) (CX:CXT) (k:Nat) (f:Addr) (fd:FuncData) (ps:List Str) (sp:Sp):Prop where
  len:∀ vs H Q E,sp vs H Q E→vs.length=ps.length
  run:∀ (A:Around) (outer:List Env) (s:Shared) (H:Hp) (args:Args) (us:List Value) (vs:List V) (Q:VK) (E:XK),Room k A→Env0 P w K mg base A outer s H→BindsTo s fd args (ps.zip us)→Vals vs us→sp vs H Q E →
    codeAny (model P w) A (.call (.ref f) args) (CR CX outer P w H s Q E) s
theorem Env0.make {P:Program} {w:World} {K:PySem.W.Frag} {mg:Str→Option Value} {base:Heap} {A:Around} {outer:List Env} {s:Shared} {H:Hp} (e:Env0 P w K mg base A outer s H) (C:Addr) (us:List Value) (kw:List (Str × Value)) :
    Env0 P w K mg base (A.under (.builtin "type.__call__" ⟨.ref C::us,kw⟩)) outer s H:=⟨by first | exact e.frames | (simpa [Around.under,Code.envs,Code.isFrame,pushEnvs] using e.frames),e.mod,e.bs,e.bsz,e.funs,e.frf,e.hok,e.bare,e.tk⟩
section
variable {X:Cx} {pins:List (Addr × Obj)} {σ:St} {H:Hp} {s s':Shared}
theorem Inv.env0 (I:Inv X pins σ H s):Env0 X.prog X.w X.K X.mg X.base X.A X.stack s H :=
  ⟨I.ok.frames,I.ok.mod,I.bs,Nat.le_trans I.ok.bsz I.sz,I.stack,I.stkFree,I.hok,I.bare,I.tk⟩
theorem Inv.after {Q:VK} {u:Value} (I:Inv X pins σ H s) (h:CE X.stack X.prog X.w H s Q u s'):EP X pins σ Q u s':=by
  obtain ⟨v,H',ht,os,bare,un,hok,r,q⟩:=h
  obtain ⟨hh,g,d,t,os'⟩:=s'
  obtain rfl:os'=s.os:=os
  exact ⟨v,H',I.call (h':=hh) (g':=g) (d':=d) (t':=t) (ch:=[]) un hok bare (fun b z=>absurd z (by simp)) ht,r,q⟩
end
def tCall (sp:Sp) (dvs:List V) (E:XK) (t:TA):TE:=fun σ H Q=>t σ H fun vs H1=>sp (vs++dvs) H1 Q E
inductive ZtMeth (C:Addr) (m:Str) (sp:Sp) (dvs:List V) (E:XK) (t:TA) (σ:St) (Q:VK) (x:V) (H1:Hp):Prop where
  | mk:∀ a dx fs,(x=.ref a)→(H1 a=some (.ins C dx fs))→(fs.lookup m=none)→(t σ H1 fun vs H2=>sp (x::(vs++dvs)) H2 Q E)→ZtMeth C m sp dvs E t σ Q x H1
def tMeth (C:Addr) (m:Str) (sp:Sp) (dvs:List V) (E:XK) (ta:TE) (t:TA):TE:=fun σ H Q=>ta σ H fun x H1=>ZtMeth C m sp dvs E t σ Q x H1
def tMake (C:Addr) (sp:Sp) (dvs:List V) (E:XK) (t:TA):TE:=fun σ H Q=>t σ H fun vs H1=>∀ x dx,H1 x=none→H1 dx=none→dx ≠ x →
  sp (.ref x::(vs++dvs)) (upd (upd H1 dx (.own x)) x (.ins C dx [])) (fun v H2=>v=.non∧Q (.ref x) H2) E
def Binds (K:PySem.W.Frag) (fd:FuncData) (ps:List Str) (ds:List Value):Prop :=
  ∀ (s:Shared) (us:List Value),K.In s.heap→(us++ds).length=ps.length→BindsTo s fd ⟨us,[]⟩ (ps.zip (us++ds))
theorem Binds.all {K:PySem.W.Frag} {fd:FuncData} {ps:List Str} (h:∀ us:List Value,us.length=ps.length→bindArgs fd ⟨us,[]⟩=pure (ps.zip us)):Binds K fd ps []:=fun s us _ hl=>by
  rw [List.append_nil] at hl ⊢
  exact .of_eq (h us hl)
def Passes (CX:CXT) (X:Cx) (E:XK):Prop:=∀ (pins:List (Addr × Obj)) (σ:St) (H:Hp) (s:Shared) (e:Value) (s':Shared),Inv X pins σ H s→CX X.stack H s E e s'→X.xe e s'
section
variable {X:Cx} {CX:CXT} {k:Nat} {f C:Addr} {fd:FuncData} {ps:List Str} {sp:Sp} {dvs:List V} {ds:List Value} {E:XK} {x m:Str} {p pos apos:Pos} {e o:Expr} {es:List Expr} {ta:TE} {t:TA}
theorem run_fn {pins:List (Addr × Obj)} {σ:St} {H:Hp} {s:Shared} {Q:VK} {us:List Value} {vs:List V} (F:FnOk X.prog X.w X.K X.mg X.base CX k f fd ps sp) (hr:Room k X.A) (hb:Binds X.K fd ps ds) (hd:Vals dvs ds) (hx:Passes CX X E)
    (I:Inv X pins σ H s) (r:Vals vs us) (h:sp (vs++dvs) H Q E):wpAny (model X.prog X.w) X.A (call (.ref f) us) (EP X pins σ Q) X.xe s:=by
  have r2:Vals (vs++dvs) (us++ds):=r.append hd
  have hl:(us++ds).length=ps.length:=by rw [← r2.length]; exact F.len _ _ _ _ h
  refine wpAny_call (codeAny_mono (F.run X.A X.stack s H ⟨us,[]⟩ (us++ds) (vs++dvs) Q E hr I.env0 (hb s us I.kIn hl) r2 h) fun r s' hq=>?_)
  cases r with
  | error e=>exact hx pins σ H s e s' I hq
  | ok fl =>
    cases fl with
    | ret u=>exact I.after hq
    | next=>exact False.elim hq
    | brk=>exact False.elim hq
    | cont=>exact False.elim hq
theorem pe_call (F:FnOk X.prog X.w X.K X.mg X.base CX k f fd ps sp) (hr:Room k X.A) (hg:Gl X x) (hm:X.mg x=some (.ref f)) (hk:PySem.W.keepIn X.K (.ref f)=true) (hb:Binds X.K fd ps ds) (hd:Vals dvs ds) (hx:Passes CX X E)
    (ha:PA X (e::es) t) (hdb:(x == ("__debug__" : Str))=false:=by decide) (he:starEach (e::es) X.env=(false,eval e X.env)::starEach es X.env:=by rfl) (hpl:(backTo pos (starEach es X.env)).any (·.1)=false:=by rfl) :
    PE X (.Call (.Name x p) (e::es) [] pos) (tCall sp dvs E t):=by
  intro pins s σ H Q I h
  refine wpAny_Call_Name_kw (ld_glob I hg hm ?_ hdb)
  refine PySem.W.callWith_K (h₀:=X.base) I.ok.mod.kin hk (thn (ha pos pins s σ H _ I h) fun us s1 ⟨vs,H1,I1,r,q⟩=>⟨I1.kIn,?_⟩) he hpl
  exact run_fn F hr hb hd hx I1 r q
theorem pe_meth {pl:Sem Bool} (he:PE X o ta) (c:Cls X.K C) (hm:Meth X.K C m f) (F:FnOk X.prog X.w X.K X.mg X.base CX k f fd ps sp) (hr:Room k X.A) (hb:Binds X.K fd ps ds) (hd:Vals dvs ds) (hx:Passes CX X E) (ha:PA X (e::es) t)
    (hst:starEach (e::es) X.env=(false,eval e X.env)::starEach es X.env:=by rfl) (hpl:(backTo pos (starEach es X.env)).any (·.1)=false:=by rfl)
    (ht:eval (.Call (.Attribute o m apos) (e::es) [] pos) X.env=(do
      let ov ← eval o X.env
      standAt apos.atName
      let (f,first) ← holding [ov] (getMethod ov m pl)
      callWith pos f first (backTo pos (starEach (e::es) X.env)) (backToKw pos (keywordEach [] X.env))):=by rfl) :
    PE X (.Call (.Attribute o m apos) (e::es) [] pos) (tMeth C m sp dvs E ta t):=by
  intro pins s σ H Q I h
  refine PySem.W.methodCall_KW (pl:=pl) (thn (he pins s σ H _ I h) fun u s1 ⟨x,H1,I1,rx,a,dx,fs,ex,ea,l,q⟩=>?_) ht
  subst ex
  obtain rfl:u=Value.ref a:=rx
  refine getmeth_ok I1 ea c hm l ?_
  refine PySem.W.callWith_K (first:=[.ref a]) (h₀:=X.base) I.ok.mod.kin hm.kp (thn (ha pos pins s1 σ H1 _ I1 q) fun us s2 ⟨vs,H2,I2,r,q2⟩=>⟨I2.kIn,?_⟩) hst hpl
  exact run_fn (us:=.ref a::us) (vs:=.ref a::vs) F hr hb hd hx I2 (.cons rfl r) q2
theorem pe_meth0 {pl:Sem Bool} (he:PE X o ta) (c:Cls X.K C) (hm:Meth X.K C m f) (F:FnOk X.prog X.w X.K X.mg X.base CX k f fd ps sp) (hr:Room k X.A) (hb:Binds X.K fd ps ds) (hd:Vals dvs ds) (hx:Passes CX X E)
    (ht:eval (.Call (.Attribute o m apos) [] [] pos) X.env=(do
      let ov ← eval o X.env
      standAt apos.atName
      let (f,first) ← holding [ov] (getMethod ov m pl)
      callWith pos f first (backTo pos (starEach [] X.env)) (backToKw pos (keywordEach [] X.env))):=by rfl) :
    PE X (.Call (.Attribute o m apos) [] [] pos) (tMeth C m sp dvs E ta tNil):=by
  intro pins s σ H Q I h
  refine PySem.W.methodCall_KW (pl:=pl) (thn (he pins s σ H _ I h) fun u s1 ⟨x,H1,I1,rx,a,dx,fs,ex,ea,l,q⟩=>?_) ht
  subst ex
  obtain rfl:u=Value.ref a:=rx
  refine getmeth_ok I1 ea c hm l ?_
  exact PySem.W.callWith_K0 (first:=[.ref a]) I1.kIn hm.kp (run_fn (us:=[.ref a]) (vs:=[.ref a]) F hr hb hd hx I1 (.cons rfl .nil) q)
structure Mk (K:PySem.W.Frag) (C f:Addr):Prop where
  makes:PySem.W.makesIn K C=true
  init:PySem.W.findIn K (.ref C) "__init__" = some (some (.ref f))
  fn:PySem.W.isFn K (.ref f)=true
  kp:PySem.W.keepIn K (.ref C)=true
theorem run_make {pins:List (Addr × Obj)} {σ:St} {H:Hp} {s:Shared} {Q:VK} {us:List Value} {vs:List V} (M:Mk X.K C f) (F:FnOk X.prog X.w X.K X.mg X.base CX k f fd ps sp) (hr:Room (k+1) X.A) (hb:Binds X.K fd ps ds) (hd:Vals dvs ds)
    (hx:Passes CX X E) (I:Inv X pins σ H s) (r:Vals vs us)
    (h:∀ x dx,H x=none→H dx=none→dx ≠ x→sp (.ref x::(vs++dvs)) (upd (upd H dx (.own x)) x (.ins C dx [])) (fun v H2=>v=.non∧Q (.ref x) H2) E) :
    wpAny (model X.prog X.w) X.A (call (.ref C) us) (EP X pins σ Q) X.xe s:=by
  have hq:=h (s.heap.objs.size+1) s.heap.objs.size (I.hok.fresh (Nat.le_succ _)) (I.hok.fresh (Nat.le_refl _)) (Nat.ne_of_lt (Nat.lt_succ_self _))
  have I2:=Inv.made (C:=C) I
  have r2:Vals (V.ref (s.heap.objs.size+1)::(vs++dvs)) (Value.ref (s.heap.objs.size+1)::(us++ds)):=.cons rfl (r.append hd)
  have hl:(Value.ref (s.heap.objs.size+1)::us++ds).length=ps.length:=by
    have e:=r2.length
    rw [F.len _ _ _ _ hq] at e
    exact e.symm
  refine wpAny_call (make_map (f:=f) I.kIn M.makes M.init (beq_iff_eq.mp M.fn) (codeAny_mono (F.run _ X.stack _ _ ⟨Value.ref (s.heap.objs.size+1)::us,[]⟩ (Value.ref (s.heap.objs.size+1)::(us++ds)) _ _ E (hr.make C us [])
    (I2.env0.make C us []) (hb _ (Value.ref (s.heap.objs.size+1)::us) I2.kIn hl) r2 hq) fun r s' hq'=>?_))
  cases r with
  | error e=>exact hx pins σ _ _ e s' I2 hq'
  | ok fl =>
    cases fl with
    | ret u =>
      obtain ⟨v,H',I3,rv,ev,q3⟩:=I2.after hq'
      subst ev
      exact ⟨rv,⟨V.ref (s.heap.objs.size+1),H',I3,rfl,q3⟩⟩
    | next=>exact False.elim hq'
    | brk=>exact False.elim hq'
    | cont=>exact False.elim hq'
theorem pe_make (M:Mk X.K C f) (F:FnOk X.prog X.w X.K X.mg X.base CX k f fd ps sp) (hr:Room (k+1) X.A) (hg:Gl X x) (hm:X.mg x=some (.ref C)) (hb:Binds X.K fd ps ds) (hd:Vals dvs ds) (hx:Passes CX X E)
    (ha:PA X (e::es) t) (hdb:(x == ("__debug__" : Str))=false:=by decide) (he:starEach (e::es) X.env=(false,eval e X.env)::starEach es X.env:=by rfl) (hpl:(backTo pos (starEach es X.env)).any (·.1)=false:=by rfl) :
    PE X (.Call (.Name x p) (e::es) [] pos) (tMake C sp dvs E t):=by
  intro pins s σ H Q I h
  refine wpAny_Call_Name_kw (ld_glob I hg hm ?_ hdb)
  refine PySem.W.callWith_K (h₀:=X.base) I.ok.mod.kin M.kp (thn (ha pos pins s σ H _ I h) fun us s1 ⟨vs,H1,I1,r,q⟩=>⟨I1.kIn,?_⟩) he hpl
  exact run_make M F hr hb hd hx I1 r q
end
def PK (X:Cx) (kws:List Keyword) (t:TA):Prop :=
  ∀ (pos:Pos) (pins:List (Addr × Obj)) (s:Shared) (σ:St) (H:Hp) (Q:List V→Hp→Prop),Inv X pins σ H s→t σ H Q→wpAny (model X.prog X.w) X.A (evalAll ((backToKw pos (keywordEach kws X.env)).map (·.2))) (AP X pins σ Q) X.xe s
section
variable {X:Cx} {CX:CXT} {k:Nat} {f C:Addr} {fd:FuncData} {ps ks:List Str} {sp:Sp} {E:XK} {x m:Str} {p pos apos kpos:Pos} {e o:Expr} {es:List Expr} {kws:List Keyword} {te ta:TE} {t tk:TA} {nm:Option Str}
structure KBinds (K:PySem.W.Frag) (fd:FuncData) (ps ks:List Str) (g:List Value→List Value→List Value) (gV:List V→List V→List V):Prop where
  to:∀ (s:Shared) (us ws:List Value),K.In s.heap→(g us ws).length=ps.length→BindsTo s fd ⟨us,ks.zip ws⟩ (ps.zip (g us ws))
  rel:∀ {vs:List V} {us:List Value} {zs:List V} {ws:List Value},Vals vs us→Vals zs ws→Vals (gV vs zs) (g us ws)
def tCallK (sp:Sp) (gV:List V→List V→List V) (E:XK) (t tk:TA):TE:=fun σ H Q=>t σ H fun vs H1=>tk σ H1 fun zs H2=>sp (gV vs zs) H2 Q E
variable {g:List Value→List Value→List Value} {gV:List V→List V→List V}
end
structure FnScope (N P:List Str) (sc:Scope):Prop where
  kind:sc.kind=.function
  co:sc.isCoroutine=false
  gen:sc.isGenerator=false
  nd:N.Nodup
  pre:N.take P.length=P
  par:∀ x ∈ P,sc.names.lookup x=some .local∨sc.names.lookup x=some .cell
  nofree:∀ y ∈ sc.names,y.2 ≠ .free
theorem bindL_out {kindOf:Str→Option NameKind} {x:Str}:∀ {binds:List (Str × Value)} {m:Str→Option Value},(∀ v,(x,v) ∉ binds)→bindL kindOf binds m x=m x
  | [],_,_=>rfl
  | (n,v)::r,m,h=>by
    unfold bindL
    rw [bindL_out fun w hw=>h w (List.mem_cons_of_mem _ hw)]
    split
    · have:x ≠ n:=by rintro rfl; exact h v List.mem_cons_self
      simp [this]
    · rfl
theorem bindC_out {kindOf:Str→Option NameKind} {x:Str}:∀ {binds:List (Str × Value)} {m:Str→Option Value},(∀ v,(x,v) ∉ binds)→bindC kindOf binds m x=m x
  | [],_,_=>rfl
  | (n,v)::r,m,h=>by
    unfold bindC
    rw [bindC_out fun w hw=>h w (List.mem_cons_of_mem _ hw)]
    split
    · rfl
    · have:x ≠ n:=by rintro rfl; exact h v List.mem_cons_self
      simp [this]
theorem bindL_get {kindOf:Str→Option NameKind} {x:Str} {v:Value}:∀ {P:List Str} {vs:List Value} {i:Nat} {m:Str→Option Value},P.Nodup→P[i]?=some x→vs[i]?=some v→kindOf x=some .local →
    bindL kindOf (P.zip vs) m x=some v
  | [],_,_,_,_,h,_,_=>by simp at h
  | _::_,[],_,_,_,_,h,_=>by simp at h
  | p::P,w::vs,0,m,nd,h1,h2,hk=>by
    simp at h1 h2; subst h1; subst h2
    show bindL kindOf ((p,w)::P.zip vs) m p=_
    unfold bindL
    rw [bindL_out fun v hv=>(List.nodup_cons.mp nd).1 (List.of_mem_zip hv).1,if_pos hk]
    simp
  | p::P,w::vs,i+1,m,nd,h1,h2,hk=>by
    show bindL kindOf ((p,w)::P.zip vs) m x=_
    unfold bindL
    exact bindL_get (i:=i) (List.nodup_cons.mp nd).2 (by simpa using h1) (by simpa using h2) hk
theorem bindC_get {kindOf:Str→Option NameKind} {x:Str} {v:Value}:∀ {P:List Str} {vs:List Value} {i:Nat} {m:Str→Option Value},P.Nodup→P[i]?=some x→vs[i]?=some v→kindOf x ≠ some .local →
    bindC kindOf (P.zip vs) m x=some v
  | [],_,_,_,_,h,_,_=>by simp at h
  | _::_,[],_,_,_,_,h,_=>by simp at h
  | p::P,w::vs,0,m,nd,h1,h2,hk=>by
    simp at h1 h2; subst h1; subst h2
    show bindC kindOf ((p,w)::P.zip vs) m p=_
    unfold bindC
    rw [bindC_out fun v hv=>(List.nodup_cons.mp nd).1 (List.of_mem_zip hv).1,if_neg hk]
    simp
  | p::P,w::vs,i+1,m,nd,h1,h2,hk=>by
    show bindC kindOf ((p,w)::P.zip vs) m x=_
    unfold bindC
    exact bindC_get (i:=i) (List.nodup_cons.mp nd).2 (by simpa using h1) (by simpa using h2) hk
def start (N:List Str) (vs:List V):St:=vs.map some++List.replicate (N.length - vs.length) none
def cxOf (CX:CXT) (P:Program) (w:World) (K:PySem.W.Frag) (mg:Str→Option Value) (base:Heap) (N:List Str) (qual:Str) (scope:Scope) (f:Addr) (cd:Value) (A:Around) (outer:List Env) (s:Shared) (H:Hp) (E:XK):Cx where
  prog:=P
  w:=w
  K:=K
  mg:=mg
  base:=base
  A:=A.deeper (envOfC qual scope s.heap.objs.size f cd)
  N:=N
  s₀:=s
  H₀:=H
  env:=envOfC qual scope s.heap.objs.size f cd
  outer:=outer
  stack:=envOfC qual scope s.heap.objs.size f cd::outer
  ex:=[]
  calm:=true
  fn:=fun _=>true
  pn:=[]
  xe:=fun e s'=>wpAny (model P w) (A.deeper (envOfC qual scope s.heap.objs.size f cd)) (leaving (envOfC qual scope s.heap.objs.size f cd) e) (fun _ s''=>CX outer H s E e s'') (fun e' s''=>CX outer H s E e' s'') s'
theorem cell_has {sc:Scope} {n:Nat} {x:Str} (h:sc.names.lookup x=some .cell):∃ c,(cellsFrom n sc.names []).lookup x=some c:=by
  have q:=PySem.W.cellsFrom_some sc.names n [] (.inl h)
  exact Option.isSome_iff_exists.mp q
theorem inv_startG {n m:Nat} {CX:CXT} {P:Program} {w:World} {K:PySem.W.Frag} {mg:Str→Option Value} {base:Heap} {N ps:List Str} {qual:Str} {scope:Scope} {f:Addr} {cd:Value} {A:Around} {outer:List Env} {s s1:Shared} {H:Hp} {E:XK} {us:List Value} {vs:List V}
    (S:FnScope N ps scope) (hd:A.handled=none) (e0:Env0 P w K mg base A outer { s with toks:=n } H) (hl:vs.length=ps.length) (r:Vals vs us)
    (x:InCallC s s.heap.objs.size (bindL (envOfC qual scope s.heap.objs.size f cd).kindOf (ps.zip us) fun _=>none) (cellsFrom (s.heap.objs.size+1) scope.names []) (bindC (envOfC qual scope s.heap.objs.size f cd).kindOf (ps.zip us) fun _=>none) s1) (ht:1≤m) :
    Inv (cxOf CX P w K mg base N qual scope f cd A outer s H E) [] (start N vs) H { s1 with toks:=m }:=by
  have hpl:ps.length≤N.length:=by have:=congrArg List.length S.pre; rw [List.length_take] at this; omega
  obtain ⟨h1,tk,rfl,hk⟩:=x.done
  have noA:∀ b:Addr,b ∉ (cxOf CX P w K mg base N qual scope f cd A outer s H E).ex:=fun b z=>absurd (show b ∈ ([]:List Addr) from z) (by simp)
  refine ⟨⟨e0.mod,S.kind,rfl,rfl,Nat.le_refl _,fun y z c h1 h2=>?_,fun y hy=>?_,fun y c _ h=>?_,fun _=>hd,Around.frames_deeper e0.frames,.inr ⟨rfl,rfl⟩,fun b z=>absurd z (noA b),e0.bs,e0.bsz,fun b _ _=>noA b,fun b z=>absurd z (noA b),e0.funs,e0.frf⟩,
    rfl,e0.bare,Un.kept hk,⟨_,x.toInCall.ns,fun i y v h1 h2 h3=>?_⟩,fun y c h=>⟨_,x.cell y c h⟩,e0.hok.fresh (Nat.le_refl _),fun y c h=>?_,fun p hp=>absurd (show p ∈ ([]:List (Addr × Obj)) from hp) (by simp),e0.hok.kept hk,?_,ht⟩
  · exact name_of_addr x.apart (PySem.mem_of_lookup h1) (PySem.mem_of_lookup h2)
  · have hy:scope.names.lookup y=some .cell∨scope.names.lookup y=some .free:=hy
    rcases hy with hy | hy
    · exact cell_has hy
    · exact absurd rfl (S.nofree _ (PySem.mem_of_lookup hy))
  · exact Nat.le_of_lt (x.above y c (PySem.mem_of_lookup h))
  · have hi:i < vs.length:=by
      unfold start at h2
      by_cases hi:i < vs.length
      · exact hi
      · rw [List.getElem?_append_right (by simpa using hi)] at h2
        rw [List.getElem?_replicate] at h2
        split at h2 <;> cases h2
    have ha:vs[i]?=some v:=by
      unfold start at h2
      rw [List.getElem?_append_left (by simpa using hi),List.getElem?_map] at h2
      cases e:vs[i]? with
      | none=>rw [e] at h2; cases h2
      | some a=>rw [e] at h2; cases h2; rfl
    obtain ⟨u,hu,rv⟩:=r.get ha
    have hp:ps[i]?=some y:=by
      rw [← S.pre,List.getElem?_take_of_lt (by omega)]; exact h1
    have ndP:ps.Nodup:=by rw [← S.pre]; exact S.nd.sublist (List.take_sublist _ _)
    refine ⟨u,rv,?_⟩
    rcases S.par y (List.mem_of_getElem? hp) with k | k
    · exact .inl ⟨k,bindL_get ndP hp hu k⟩
    · obtain ⟨c,e⟩:=cell_has (n:=s.heap.objs.size+1) k
      refine .inr ⟨.inl k,c,e,?_⟩
      have q:=x.cell y c e
      rw [bindC_get ndP hp hu (by show scope.names.lookup y ≠ _; rw [k]; decide)] at q
      exact q
  · exact e0.hok.fresh (Nat.le_of_lt (x.above y c (PySem.mem_of_lookup h)))
  · unfold start
    show _=N.length
    rw [List.length_append,List.length_map,List.length_replicate]
    omega
theorem inv_start {CX:CXT} {P:Program} {w:World} {K:PySem.W.Frag} {mg:Str→Option Value} {base:Heap} {N ps:List Str} {qual:Str} {scope:Scope} {f:Addr} {cd:Value} {A:Around} {outer:List Env} {s s1:Shared} {H:Hp} {E:XK} {us:List Value} {vs:List V}
    (S:FnScope N ps scope) (hd:A.handled=none) (e0:Env0 P w K mg base A outer s H) (hl:vs.length=ps.length) (r:Vals vs us)
    (x:InCallC s s.heap.objs.size (bindL (envOfC qual scope s.heap.objs.size f cd).kindOf (ps.zip us) fun _=>none) (cellsFrom (s.heap.objs.size+1) scope.names []) (bindC (envOfC qual scope s.heap.objs.size f cd).kindOf (ps.zip us) fun _=>none) s1) (ht:1≤s1.toks) :
    Inv (cxOf CX P w K mg base N qual scope f cd A outer s H E) [] (start N vs) H s1 :=
  inv_startG (n:=s.toks) (m:=s1.toks) S hd e0 hl r x ht
theorem fn_of {CX:CXT} {P:Program} {w:World} {K:PySem.W.Frag} {mg:Str→Option Value} {base:Heap} {k:Nat} {f:Addr} {name qual:Str} {params:Arguments} {body:List Stmt} {scope:Scope} {dV kV doc pm cdv ct oc:Value} {an od:Option Addr}
    {osl:Array (Option Value)} {N ps:List Str} {sp:Sp} (lk:K.lookup f=some ⟨oc,od,.func (PySem.W.fnOf name qual params body scope dV kV doc pm an cdv ct),osl⟩) (hcd:PySem.W.codeIn K cdv qual=true) (S:FnScope N ps scope)
    (len:∀ vs H Q E,sp vs H Q E→vs.length=ps.length)
    (hbody:∀ (A:Around) (outer:List Env) (s:Shared) (H:Hp) (vs:List V) (Q:VK) (E:XK),Room k (A.deeper (envOfC qual scope s.heap.objs.size f cdv))→sp vs H Q E →
      ∃ t,PSs (cxOf CX P w K mg base N qual scope f cdv A outer s H E) body t∧t { nx:=fun _ H'=>Q .non H',rt:=Q } (start N vs) H) :
    FnOk P w K mg base CX (k+1) f (PySem.W.fnOf name qual params body scope dV kV doc pm an cdv ct) ps sp:=by
  refine ⟨len,fun A outer s H args us vs Q E hr e0 hb r hsp=>?_⟩
  have hl:=len _ _ _ _ hsp
  have KX:K.In s.heap:=e0.mod.kin.keeps fun b o e=>(e0.bs b o e).1
  have lim:s.heap.NoLimit:=e0.mod.nolimit.keeps fun b o e=>(e0.bs b o e).1
  have hkind:∀ y ∈ ps.zip us,scope.names.lookup y.1=some .local∨(scope.names.lookup y.1=some .cell∧((cellsFrom (s.heap.objs.size+1) scope.names []).lookup y.1).isSome=true):=fun ⟨n,v⟩ hy=>by
    rcases S.par n (List.of_mem_zip hy).1 with q | q
    · exact .inl q
    · exact .inr ⟨q,PySem.W.cellsFrom_some _ _ _ (.inl q)⟩
  refine codeAny_call_function hr.depth (KX _ _ lk) rfl S.co S.gen rfl (PySem.W.codeRec_of KX hcd) (hb _ _ _ _ ?_)
  refine wpAny_with_toks e0.tk (wpAny_newFunctionEnv_cells S.kind hkind fun env he s1 x le=>?_)
  subst he
  refine ⟨lim.keeps x.toInCall.keep,codeAny_func ?_⟩
  obtain ⟨t,ht,hq⟩:=hbody A outer s H vs Q E (hr.deeper _) hsp
  have I:Inv (cxOf CX P w K mg base N qual scope f cdv A outer s H E) [] (start N vs) H s1:=inv_start S hr.hd e0 hl r x le
  refine wpAny_mono (ht [] s1 (start N vs) H _ I hq) (fun fl s' hs=>?_) fun e s' hs=>hs
  have fin:∀ {σ':St} {H':Hp} {v:V} {u:Value},Inv (cxOf CX P w K mg base N qual scope f cdv A outer s H E) [] σ' H' s'→RelV v u→Q v H'→CE outer P w H s Q u s' :=
    fun {σ' H' v u} J rv q=>⟨v,H',J.tk,J.os,J.bare,J.base,J.hok,rv,q⟩
  cases fl with
  | ret u =>
    obtain ⟨v,σ',H',J,rv,q⟩:=hs
    exact fin J rv q
  | next =>
    obtain ⟨σ',H',J,q⟩:=hs
    exact fin (v:=V.non) (u:=Value.none) J rfl q
  | brk =>
    obtain ⟨_,_,_,q⟩:=hs
    exact False.elim q
  | cont =>
    obtain ⟨_,_,_,q⟩:=hs
    exact False.elim q
end L2
namespace L2
open PySem PySem.Spec PyProof.Rows
section
variable {X:Cx} {x:Str} {p pos:Pos} {e:Expr} {es:List Expr} {t:TA} {id T:String} {r:List V→Hp→VK→Prop}
def tCB (r:List V→Hp→VK→Prop) (t:TA):TE:=fun σ H Q=>t σ H fun vs H1=>r vs H1 Q
theorem pe_callB (hc:CallR X (.builtin id) r) (hg:Gl X x) (hm:X.mg x=none) (hv:bootBuiltins x=some (.builtin id)) (ha:PA X (e::es) t) (hn:x ≠ "__name__" := by decide) (hdb:(x == ("__debug__" : Str))=false:=by decide)
    (he:starEach (e::es) X.env=(false,eval e X.env)::starEach es X.env:=by rfl) (hpl:(backTo pos (starEach es X.env)).any (·.1)=false:=by rfl):PE X (.Call (.Name x p) (e::es) [] pos) (tCB r t):=by
  intro pins s σ H Q I h
  refine wpAny_Call_Name_kw (ld_blt I hg hm hv ?_ hn hdb)
  exact PyProof.Rows.callWith_builtin1 (thn (ha pos pins s σ H _ I h) fun us s1 ⟨vs,H1,I1,r1,q1⟩=>hc pins s1 σ H1 vs us Q I1 r1 q1) he hpl
theorem pe_callTy (hc:CallR X (.type T) r) (hg:Gl X x) (hm:X.mg x=none) (hv:bootBuiltins x=some (.type T)) (ha:PA X (e::es) t) (hn:x ≠ "__name__" := by decide) (hdb:(x == ("__debug__" : Str))=false:=by decide)
    (he:starEach (e::es) X.env=(false,eval e X.env)::starEach es X.env:=by rfl) (hpl:(backTo pos (starEach es X.env)).any (·.1)=false:=by rfl):PE X (.Call (.Name x p) (e::es) [] pos) (tCB r t):=by
  intro pins s σ H Q I h
  refine wpAny_Call_Name_kw (ld_blt I hg hm hv ?_ hn hdb)
  exact PyProof.Rows.callWith_type1 (thn (ha pos pins s σ H _ I h) fun us s1 ⟨vs,H1,I1,r1,q1⟩=>hc pins s1 σ H1 vs us Q I1 r1 q1) he hpl
end
end L2
namespace HT
open PySem PyProof.Rows
def lexLt:List Int→List Int→Bool
  | [],[]=>false
  | [],_::_=>true
  | _::_,[]=>false
  | x::xs,y::ys=>if x=y then lexLt xs ys else decide (x < y)
section
open PySem.SeqAt
open PySem.AutoSeq1 (wpAny_loadPart')
open PySem.MeetsSeq PySem.MeetsSeq2 PySem.MeetsSeq3
end
section
variable {prog:Program} {w:World} {A:Around} {E:Value→Shared→Prop} {s:Shared}
theorem cat_tup {t b:Addr} {vs ws:List Value} {Q:Value→Shared→Prop} (ht:IsTup s.heap t vs.toArray) (hb:IsTup s.heap b ws.toArray) (hv:vs ≠ [])
    (h1:ws=[]→Q (.ref t) s) (h2:ws ≠ []→Q (.ref s.heap.objs.size) { s with heap:=s.heap.push { cls:=.type "tuple", data:=.seq (vs++ws).toArray } })
    (hsz:vs.length+ws.length≤sizeLine):wpAny (model prog w) A (binaryOp .Add (.ref t) (.ref b)) Q E s:=by
  obtain ⟨⟨cls,dd,data,sl⟩,ho,hc,n,hd⟩:=id ht
  obtain ⟨⟨cls2,dd2,data2,sl2⟩,ho2,hc2,n2,hd2⟩:=id hb
  simp only at hc hd hc2 hd2
  subst hc hd hc2 hd2
  have e:vs.toArray++ws.toArray=(vs++ws).toArray:=by simp
  by_cases hw:ws=[]
  · exact concat_meets ⟨_,ho,rfl⟩ ⟨_,ho2,rfl⟩ noFill_tuple_add seq_tuple_add PySem.F.slot_tuple_add PySem.F.entry_tuple_add (PySem.F.args_tuple_add_2 _ _)
      (tuple_addW1 t b vs.toArray ws.toArray n n2 dd dd2 sl sl2 (by simpa using hv) (by simp [hw])) ⟨ho,ho2,h1 hw⟩
  · refine concat_meets ⟨_,ho,rfl⟩ ⟨_,ho2,rfl⟩ noFill_tuple_add seq_tuple_add PySem.F.slot_tuple_add PySem.F.entry_tuple_add (PySem.F.args_tuple_add_2 _ _)
      (tuple_addW2 t b vs.toArray ws.toArray n n2 dd dd2 sl sl2 (by simpa using hv) (by simpa using hw) (by rw [List.size_toArray,List.size_toArray]; exact hsz)) ⟨ho,ho2,?_⟩
    rw [e]
    exact h2 hw
def sIx (n d:Nat):Option Int→Nat
  | none=>d
  | some v=>if v < 0 then (v+(n:Int)).toNat else min v.toNat n
theorem sIx_none (n d:Nat):sIx n d none=d:=rfl
theorem sIx_nat (n d k:Nat):sIx n d (some (k:Int))=min k n:=by
  show (if (k:Int) < 0 then ((k:Int)+(n:Int)).toNat else min (k:Int).toNat n)=min k n
  rw [if_neg (by omega),Int.toNat_natCast]
theorem sIx_le (n d:Nat) (hd:d≤n) (o:Option Int):sIx n d o≤n:=by
  cases o with
  | none=>exact hd
  | some v =>
    show (if v < 0 then (v+(n:Int)).toNat else min v.toNat n)≤n
    by_cases hv:v < 0
    · rw [if_pos hv]; omega
    · rw [if_neg hv]; exact Nat.min_le_right _ _
theorem clip_eq (v:Int) (n d:Nat):(if v < 0 then max (v+(n:Int)) 0 else min v (n:Int))=((sIx n d (some v):Nat):Int):=by
  show (if v < 0 then max (v+(n:Int)) 0 else min v (n:Int))=(((if v < 0 then (v+(n:Int)).toNat else min v.toNat n):Nat):Int)
  by_cases hv:v < 0
  · simp only [if_pos hv]; omega
  · simp only [if_neg hv]; omega
theorem adjust_gen (lo hi:Option Int) (n:Nat):Builtin.Slice.sliceAdjust lo hi 1 (n:Int)=(((sIx n 0 lo:Nat):Int),((sIx n n hi:Nat):Int)):=by
  have h1:¬ ((1:Int) < 0):=by omega
  unfold Builtin.Slice.sliceAdjust
  simp only [h1,if_false]
  refine Prod.ext ?_ ?_
  · cases lo with
    | none=>rfl
    | some v=>exact clip_eq v n 0
  · cases hi with
    | none=>rfl
    | some v=>exact clip_eq v n n
theorem places_gen (i j:Nat):Builtin.Slice.slicePlaces (i:Int) (j:Int) 1=j - i:=by
  unfold Builtin.Slice.slicePlaces
  have h1:(1:Int) > 0:=by omega
  simp only [h1,if_true,Int.ediv_one]
  split <;> omega
theorem slicePart_ {v:Value} {o:Option Int} {Q:Option Int→Shared→Prop} (p:IsPart v o) (h:Q o s):wpAny (model prog w) A (Builtin.Slice.slicePartIndex v) Q E s:=by
  cases p with
  | none=>exact slicePart_none h
  | int i t=>exact slicePart_int h
theorem sliceApplied_gen {sl:Addr} {vl vu:Value} {lo hi:Option Int} {n:Nat} {Q:Int × Int × Nat→Shared→Prop} (hs:s.heap.IsSliceOf sl vl vu .none) (pl:IsPart vl lo) (pu:IsPart vu hi)
    (h:Q (((sIx n 0 lo:Nat):Int),1,sIx n n hi - sIx n 0 lo) s):wpAny (model prog w) A (Builtin.Slice.sliceApplied (.ref sl) (pure (n:Int))) Q E s:=by
  obtain ⟨os,hos,hcs,hds⟩:=id hs
  unfold Builtin.Slice.sliceApplied Builtin.Slice.sliceFields
  refine wpAny_bind (wpAny_bind (wpAny_field hos hds (x:=vl) rfl (wpAny_bind (wpAny_field hos hds (x:=vu) rfl (wpAny_bind (wpAny_field hos hds (x:=.none) rfl (wpAny_pure ?_)))))))
  refine wpAny_bind (slicePart_none ?_)
  show wpAny _ _ (if ((1:Int) == 0)=true then _ else _) _ _ s
  rw [if_neg (by decide)]
  refine wpAny_bind (slicePart_ pl (wpAny_bind (slicePart_ pu (wpAny_bind (wpAny_pure ?_)))))
  show wpAny _ _ (match Builtin.Slice.sliceAdjust lo hi 1 (n:Int) with | (lo,hi)=>pure (lo,(1:Int),Builtin.Slice.slicePlaces lo hi 1)) _ _ s
  rw [adjust_gen lo hi n]
  show wpAny _ _ (pure (((sIx n 0 lo:Nat):Int),(1:Int),Builtin.Slice.slicePlaces ((sIx n 0 lo:Nat):Int) ((sIx n n hi:Nat):Int) 1)) _ _ s
  rw [places_gen]
  exact wpAny_pure h
theorem pick_gen (xs:Array Value) (i k:Nat):((List.range k).filterMap fun (m:Nat)=>xs[((i:Int)+(m:Int)*1).toNat]?).toArray=((xs.toList.drop i).take k).toArray:=by
  have e:(fun (m:Nat)=>xs[((i:Int)+(m:Int)*1).toNat]?)=fun m=>xs[i+m]?:=by
    funext m
    have:((i:Int)+(m:Int)*1).toNat=i+m:=by omega
    rw [this]
  rw [e]
  have:=pick_run xs i k
  rw [List.filterMap_map] at this
  have e2:((fun x=>xs[x]?) ∘ fun x=>i+x)=fun m=>xs[i+m]?:=rfl
  rw [e2] at this
  rw [this]
theorem getItem_tuple_cut {t sl:Addr} {items:Array Value} {vl vu:Value} {lo hi:Option Int} {Q:Value→Shared→Prop} (ht:IsTup s.heap t items) (hs:s.heap.IsSliceOf sl vl vu .none) (pl:IsPart vl lo) (pu:IsPart vu hi)
    (hw:¬ (sIx items.size 0 lo=0∧sIx items.size items.size hi=items.size))
    (h:Q (.ref s.heap.objs.size) { s with heap:=s.heap.push { cls:=.type "tuple", data:=.seq ((items.toList.drop (sIx items.size 0 lo)).take (sIx items.size items.size hi - sIx items.size 0 lo)).toArray } })
    (hsz:items.size≤sizeLine):wpAny (model prog w) A (getItem (.ref t) (.ref sl)) Q E s:=by
  have htake:sizeOk (.seq ((items.toList.drop (sIx items.size 0 lo)).take (sIx items.size items.size hi - sIx items.size 0 lo)).toArray):=by
    show ((items.toList.drop (sIx items.size 0 lo)).take (sIx items.size items.size hi - sIx items.size 0 lo)).toArray.size≤sizeLine
    rw [List.size_toArray,List.length_take,List.length_drop,Array.length_toList]
    omega
  have hj:sIx items.size items.size hi≤items.size:=sIx_le _ _ (Nat.le_refl _) hi
  obtain ⟨os,hos,hcs,hds⟩:=id hs
  have hTs:s.TypeIs (.ref sl) "slice" := ⟨os,hos,hcs⟩
  unfold getItem
  try with_reducible refine wpAny_holding ?_
  first | refine wpAny_bind (wpAny_pure ?_) | skip
  refine wpAny_bind (wpAny_sequenceKey ht.typeIs (by decide) ?_)
  refine wpAny_bind (wpAny_callSpecial?_slot (name:=Str.ofString "__getitem__") ht.typeIs PyProof.Rows.slot_tuple_getitem
    (wpAny_call_entry PyProof.Rows.slot_tuple_getitem ht.typeIs entry_tuple_getitem ?_ (args_tuple_getitem _ _)))
  show wpAny _ _ (Builtin.Tuple.tupleItemsOf (.ref t) >>= _) _ _ s
  refine wpAny_bind (tupleItemsOf_ ht ?_)
  refine wpAny_bind (wpAny_typeOf hTs ?_)
  rw [if_pos (by decide)]
  refine wpAny_bind (sliceApplied_gen hs pl pu ?_)
  have hno:¬ ((((sIx items.size 0 lo:Nat):Int) == 0 && (1:Int) == 1 && (sIx items.size items.size hi - sIx items.size 0 lo) == items.size)=true):=by
    intro q
    rw [Bool.and_eq_true,Bool.and_eq_true] at q
    have q1:((sIx items.size 0 lo:Nat):Int)=0:=eq_of_beq q.1.1
    have q2:sIx items.size items.size hi - sIx items.size 0 lo=items.size:=eq_of_beq q.2
    exact hw ⟨by omega,by omega⟩
  show wpAny _ _ (if (((sIx items.size 0 lo:Nat):Int) == 0 && (1:Int) == 1 && (sIx items.size items.size hi - sIx items.size 0 lo) == items.size)=true then _ else _) _ _ s
  rw [if_neg hno,pick_gen]
  first
    | exact wpAny_bind (m:=Builtin.Tuple.tupleExact _) (wpAny_newObj_type (wpAny_pure ⟨_,rfl,wpAny_pure h⟩) htake)
    | exact wpAny_bind (m:=Builtin.Tuple.tupleExact _) (wpAny_newObj_type (wpAny_bind (wpAny_pure (wpAny_pure ⟨_,rfl,wpAny_pure h⟩))) htake)
    | exact wpAny_bind (wpAny_bind (m:=Builtin.Tuple.tupleExact _) (wpAny_newObj_type (wpAny_pure (wpAny_pure ⟨_,rfl,wpAny_pure h⟩)) htake))
    | exact wpAny_bind (wpAny_bind (m:=Builtin.Tuple.tupleExact _) (wpAny_newObj_type (wpAny_pure ⟨_,rfl,wpAny_pure h⟩) htake))
end
end HT
namespace L2
open PySem PySem.Spec PyProof.Rows
abbrev TO:=St→Hp→(Option Int→Hp→Prop)→Prop
def PO (X:Cx) (e:Option Expr) (t:TO):Prop :=
  ∀ (pins:List (Addr × Obj)) (s:Shared) (σ:St) (H:Hp) (Q:Option Int→Hp→Prop),Inv X pins σ H s→t σ H Q →
    wpAny (model X.prog X.w) X.A (evalPart e X.env) (fun u s'=>∃ o H',Inv X pins σ H' s'∧IsPart u o∧Q o H') X.xe s
def tNoPart:TO:=fun _ H Q=>Q none H
inductive ZtPart (Q:(Option Int→Hp→Prop)) (x:V) (H1:Hp):Prop where
  | mk:∀ i,(x=.int i)→(Q (some i) H1)→ZtPart Q x H1
def tPart (t:TE):TO:=fun σ H Q=>t σ H fun x H1=>ZtPart Q x H1
section
variable {X:Cx} {e:Expr} {te:TE} {lo hi:Option Expr} {tl th:TO} {pos p2:Pos}
theorem po_none:PO X none tNoPart:=by
  intro pins s σ H Q I h
  rw [evalPart_none]
  exact wpAny_pure ⟨none,H,I,.none,h⟩
theorem po_some (h:PE X e te):PO X (some e) (tPart te):=by
  intro pins s σ H Q I hw
  rw [evalPart_some]
  refine thn (h pins s σ H _ I hw) fun u s1 ⟨x,H1,I1,r1,q1⟩=>?_
  obtain ⟨i,rfl,q⟩:=q1
  obtain ⟨t,rfl⟩:=r1
  exact ⟨some i,H1,I1,.int i t,q⟩
def SlR (X:Cx) (r:V→Option Int→Option Int→Hp→VK→Prop):Prop :=
  ∀ (pins:List (Addr × Obj)) (s:Shared) (σ:St) (H:Hp) (x:V) (v vl vu:Value) (lo hi:Option Int) (sl:Addr) (Q:VK),Inv X pins σ H s→RelV x v→s.heap.IsSliceOf sl vl vu .none→IsPart vl lo→IsPart vu hi→r x lo hi H Q →
    ∃ T id,typeLookup (.type T) "__getitem__" = pure (some (.builtin id))∧s.TypeIs v T∧wpAny (model X.prog X.w) X.A (getItem v (.ref sl)) (EP X pins σ Q) X.xe s
def tSl (r:V→Option Int→Option Int→Hp→VK→Prop) (te:TE) (tl th:TO):TE:=fun σ H Q=>te σ H fun x H1=>tl σ H1 fun l H2=>th σ H2 fun u H3=>r x l u H3 Q
theorem pe_slice {r:V→Option Int→Option Int→Hp→VK→Prop} (hr:SlR X r) (he:PE X e te) (hl:PO X lo tl) (hu:PO X hi th):PE X (.Subscript e (.Slice lo hi none p2) pos) (tSl r te tl th):=by
  intro pins s σ H Q I h
  refine Subscript_ (thn (he pins s σ H _ I h) fun v s1 ⟨x,H1,I1,r1,q1⟩=>?_)
  refine wpAny_Slice (thn (hl pins s1 σ H1 _ I1 q1) fun vl s2 ⟨l,H2,I2,pl,q2⟩=>thn (hu pins s2 σ H2 _ I2 q2) fun vu s3 ⟨u,H3,I3,pu,q3⟩=>?_)
  rw [evalPart_none]
  refine wpAny_pure ?_
  have I4:Inv X pins σ H3 { s3 with heap:=s3.heap.push { cls:=.type "slice", data:=.fields #[vl,vu,.none] } }:=I3.kept (t':=s3.toks) fun b ob q=>Heap.get?_push_of_some _ q
  obtain ⟨T,id,hT,ht,hg⟩:=hr pins { s3 with heap:=s3.heap.push { cls:=.type "slice", data:=.fields #[vl,vu,.none] } } σ H3 x v vl vu l u s3.heap.objs.size Q I4 r1 (Heap.IsSliceOf.new ..) pl pu q3
  show wpAny (model X.prog X.w) X.A (subscriptTail e (.Slice lo hi none p2) v (.ref s3.heap.objs.size)) (EP X pins σ Q) X.xe { s3 with heap:=s3.heap.push { cls:=.type "slice", data:=.fields #[vl,vu,.none] } }
  exact tail_any (ops:=[.ref s3.heap.objs.size,v]) ht hT hg (by with_unfolding_all rfl)
def cutV (xs:List V) (lo hi:Option Int):List V:=(xs.drop (HT.sIx xs.length 0 lo)).take (HT.sIx xs.length xs.length hi - HT.sIx xs.length 0 lo)
theorem cutV_length (xs:List V) (lo hi:Option Int):(cutV xs lo hi).length≤xs.length:=by
  unfold cutV
  rw [List.length_take,List.length_drop]
  omega
inductive rSlT (K:PySem.W.Frag) (x:V) (lo:Option Int) (hi:Option Int) (H:Hp) (Q:VK):Prop where
  | mk:∀ a xs,(x=.ref a)→(SqT K H a xs)→(¬ (HT.sIx xs.length 0 lo=0∧HT.sIx xs.length xs.length hi=xs.length))→(∀ p,H p=none→Q (.ref p) (upd H p (.tup (cutV xs lo hi))))→rSlT K x lo hi H Q
theorem sl_tup:SlR X (rSlT X.K):=by
  intro pins s σ H x v vl vu lo hi sl Q I rx hs pl pu h
  obtain ⟨a,xs,rfl,hx,hw,q⟩:=h
  cases rx
  obtain ⟨its,r,ht,hz⟩:=I.tuple hx
  have hlen:its.toArray.size=xs.length:=by rw [List.size_toArray]; exact r.length.symm
  refine ⟨"tuple", _,PyProof.Rows.slot_tuple_getitem.lookup,ht.typeIs,?_⟩
  refine HT.getItem_tuple_cut ht hs pl pu (by rw [hlen]; exact hw) ?_ (by rw [hlen]; exact hz)
  rw [hlen]
  refine ⟨.ref s.heap.objs.size,_,I.laid (t':=s.toks) (o:=.tup (cutV xs lo hi)) (fun b ob q=>Heap.get?_push_of_some _ q) (Nat.le_refl _) ?_,rfl,q _ (I.hok.fresh (Nat.le_refl _))⟩
  exact ⟨Nat.le_trans (cutV_length xs lo hi) hz,_,(r.drop (HT.sIx xs.length 0 lo)).take (HT.sIx xs.length xs.length hi - HT.sIx xs.length 0 lo),IsTup.new _ _,_,Heap.get?_push_size _ rfl,rfl⟩
inductive rLtT (K:PySem.W.Frag) (x:V) (y:V) (H:Hp) (Q:VK):Prop where
  | mk:∀ a b ns ms,(x=.ref a)→(y=.ref b)→(SqT K H a (ns.map V.int))→(SqT K H b (ms.map V.int))→(Q (.bl (HT.lexLt ns ms)) H)→rLtT K x y H Q
inductive rCatT (K:PySem.W.Frag) (x:V) (y:V) (H:Hp) (Q:VK):Prop where
  | mk:∀ a b xs ys,(x=.ref a)→(y=.ref b)→(SqT K H a xs)→(SqT K H b ys)→(xs ≠ [])→(xs.length+ys.length≤sizeLine)→((ys=[]→Q (.ref a) H))→((ys ≠ []→∀ p,H p=none→Q (.ref p) (upd H p (.tup (xs++ys)))))→rCatT K x y H Q
theorem Vals.nil_iff {xs:List V} {us:List Value} (r:Vals xs us):us=[]↔xs=[]:=by
  cases r with
  | nil=>simp
  | cons _ _=>simp
theorem op_catT:OpR X (binaryOp .Add) (rCatT X.K):=by
  intro pins s σ H x y v u Q I rx ry h
  obtain ⟨a,b,xs,ys,rfl,rfl,ha,hb,hx,hz,q1,q2⟩:=h
  cases rx
  cases ry
  obtain ⟨its,r1,p1,_⟩:=I.tuple ha
  obtain ⟨its2,r2,p2,_⟩:=I.tuple hb
  refine HT.cat_tup p1 p2 (fun z=>hx (r1.nil_iff.mp z)) (fun z=>⟨.ref a,H,I,rfl,q1 (r2.nil_iff.mp z)⟩) (fun z=>?_) (by rw [← r1.length,← r2.length]; exact hz)
  refine ⟨.ref s.heap.objs.size,_,I.laid (t':=s.toks) (o:=.tup (xs++ys)) (fun b ob q=>Heap.get?_push_of_some _ q) (Nat.le_refl _) ?_,rfl,q2 (fun w=>z (r2.nil_iff.mpr w)) _ (I.hok.fresh (Nat.le_refl _))⟩
  exact ⟨by rw [List.length_append]; exact hz,_,r1.append r2,IsTup.new _ _,_,Heap.get?_push_size _ rfl,rfl⟩
end
end L2
namespace L2
open PySem PySem.Spec PyProof.Rows
def ixN (n:Nat) (i:Int):Option Nat:=if 0≤i then (if i < n then some i.toNat else none) else if -(n:Int)≤i then some (i+n).toNat else none
def atI {α:Type} (xs:List α) (i:Int):Option α:=(ixN xs.length i).bind fun j=>xs[j]?
theorem ixN_seq {n:Nat} {i:Int} {j:Nat} (h:ixN n i=some j):seqIndex? i n=some j∧j < n∧-(n:Int)≤i∧i < n:=by
  unfold ixN at h
  by_cases h0:0≤i
  · rw [if_pos h0] at h
    by_cases h1:i < n
    · rw [if_pos h1] at h
      have e:i.toNat=j:=Option.some.inj h
      exact ⟨by rw [seqIndex_of h0 h1,e],by omega,by omega,h1⟩
    · rw [if_neg h1] at h; cases h
  · rw [if_neg h0] at h
    by_cases h1:-(n:Int)≤i
    · rw [if_pos h1] at h
      have e:(i+n).toNat=j:=Option.some.inj h
      exact ⟨by rw [seqIndex_neg (by omega) h1,e],by omega,h1,by omega⟩
    · rw [if_neg h1] at h; cases h
theorem atI_get {α:Type} {xs:List α} {i:Int} {v:α} (h:atI xs i=some v):∃ j,seqIndex? i xs.length=some j∧xs[j]?=some v∧j < xs.length∧-(xs.length:Int)≤i∧i < xs.length:=by
  unfold atI at h
  cases e:ixN xs.length i with
  | none=>rw [e] at h; cases h
  | some j =>
    rw [e] at h
    obtain ⟨h1,h2,h3,h4⟩:=ixN_seq e
    exact ⟨j,h1,h,h2,h3,h4⟩
theorem atI_nat {α:Type} {xs:List α} {j:Nat} {v:α} (h:xs[j]?=some v):atI xs (j:Int)=some v:=by
  have hj:j < xs.length:=(List.getElem?_eq_some_iff.mp h).1
  have e:ixN xs.length (j:Int)=some j:=by
    unfold ixN
    rw [if_pos (by omega),if_pos (by omega)]; simp
  unfold atI; rw [e]; exact h
theorem atI_last {α:Type} (xs:List α) (v:α):atI (xs++[v]) (-1)=some v:=by
  have hl:(xs++[v]).length=xs.length+1:=by simp
  have e:ixN (xs++[v]).length (-1)=some xs.length:=by
    unfold ixN
    rw [hl,if_neg (by decide),if_pos (by omega)]
    congr 1
    omega
  unfold atI
  rw [e]
  show (xs++[v])[xs.length]?=some v
  simp
def PlainIx (b:Expr):Prop:=∀ o i,subscripted b false o i=operate [o,i] (getItem o i)
def IxR (X:Cx) (r:R2):Prop :=
  ∀ (value slice:Expr) (pins:List (Addr × Obj)) (s:Shared) (σ:St) (H:Hp) (x y:V) (v u:Value) (Q:VK),Inv X pins σ H s→RelV x v→RelV y u→r x y H Q →
    subscripted slice false v u=operate [v,u] (getItem v u)→wpAny (model X.prog X.w) X.A (subscriptTail value slice v u) (EP X pins σ Q) X.xe s
def MtR (X:Cx) (id:String) (r:V→List V→Hp→VK→Prop):Prop :=
  ∀ (pins:List (Addr × Obj)) (s:Shared) (σ:St) (H:Hp) (x:V) (xs:List V) (v:Value) (us:List Value) (Q:VK),Inv X pins σ H s→RelV x v→Vals xs us→r x xs H Q →
    wpAny (model X.prog X.w) X.A (call (.builtin id) (v::us)) (EP X pins σ Q) X.xe s
section
variable {X:Cx} {a b:Expr} {ta tb:TE} {pos:Pos}
theorem pe_ix {r:R2} (hr:IxR X r) (ha:PE X a ta) (hb:PE X b tb) (hs:PlainIx b):PE X (.Subscript a b pos) (tOp r ta tb):=by
  intro pins s σ H Q I h
  exact Subscript_ (binT ha hb I h fun v u s2 x y H2 I2 rx ry q=>hr a b pins s2 σ H2 x y v u Q I2 rx ry q (hs _ _))
inductive rIxL (K:PySem.W.Frag) (x:V) (y:V) (H:Hp) (Q:VK):Prop where
  | mk:∀ p xs i v,(x=.ref p)→(y=.int i)→(SqL K H p xs)→(atI xs i=some v)→(Q v H)→rIxL K x y H Q
inductive rIxT (K:PySem.W.Frag) (x:V) (y:V) (H:Hp) (Q:VK):Prop where
  | mk:∀ p xs i v,(x=.ref p)→(y=.int i)→(SqT K H p xs)→(atI xs i=some v)→(Q v H)→rIxT K x y H Q
inductive rIxS (x:V) (y:V) (H:Hp) (Q:VK):Prop where
  | mk:∀ z i c,(x=.str z)→(y=.int i)→(z.length≤sizeLine)→(atI z.cps.toList i=some c)→(Q (.str ⟨#[c]⟩) H)→rIxS x y H Q
theorem ix_list:IxR X (rIxL X.K):=by
  intro value slice pins s σ H x y v u Q I rx ry h hs
  obtain ⟨p,xs,i,z,rfl,rfl,hq,he,q⟩:=h
  cases rx
  obtain ⟨t,rfl⟩:=ry
  obtain ⟨its,r,pl,hz⟩:=I.list hq
  obtain ⟨j,h1,h2,h3,h4,h5⟩:=atI_get he
  obtain ⟨w,ew,rw'⟩:=r.get h2
  have hl:=r.length
  have hn:=line63
  have fin:EP X pins σ Q w s:=⟨z,H,I,rw',q⟩
  by_cases h0:0≤i
  · have hj:i.toNat=j:=by
      rw [seqIndex_of h0 h5] at h1
      exact Option.some.inj h1
    exact item_listR pl.isList h0 (by omega) (by rw [hj]; simpa using ew) fin hs
  · have hj:(i+(its.toArray.size:Int)).toNat=j:=by
      rw [seqIndex_neg (by omega) h4] at h1
      rw [List.size_toArray,← hl]
      exact Option.some.inj h1
    exact subscriptTail_builtinR (x:=w) pl.isList.typeIs slot_list_getitem.lookup
      (wpAny_getItem_list_neg (Q:=fun r s'=>r=w∧EP X pins σ Q r s') pl.isList (by omega) (by rw [List.size_toArray] <;> omega) (by omega) (by rw [hj]; simpa using ew) ⟨rfl,fin⟩) hs
theorem ix_tup:IxR X (rIxT X.K):=by
  intro value slice pins s σ H x y v u Q I rx ry h hs
  obtain ⟨p,xs,i,z,rfl,rfl,hq,he,q⟩:=h
  cases rx
  obtain ⟨t,rfl⟩:=ry
  obtain ⟨its,r,pl,hz⟩:=I.tuple hq
  obtain ⟨j,h1,h2,h3,h4,h5⟩:=atI_get he
  obtain ⟨w,ew,rw'⟩:=r.get h2
  have hl:=r.length
  have hn:=line63
  have fin:EP X pins σ Q w s:=⟨z,H,I,rw',q⟩
  exact subscriptTail_builtinR (x:=w) pl.typeIs slot_tuple_getitem.lookup
    (getItem_tuple (j:=j) (Q:=fun r s'=>r=w∧EP X pins σ Q r s') pl (by omega) (by omega) (by rw [List.size_toArray,← hl]; exact h1) (by simpa using ew) ⟨rfl,fin⟩) hs
theorem ix_str:IxR X rIxS:=by
  intro value slice pins s σ H x y v u Q I rx ry h hs
  obtain ⟨z,i,c,rfl,rfl,hz,he,q⟩:=h
  obtain ⟨t,rfl⟩:=rx
  obtain ⟨t',rfl⟩:=ry
  obtain ⟨j,h1,h2,h3,h4,h5⟩:=atI_get he
  have hl:z.cps.toList.length=z.length:=by simp [Str.length]
  rw [hl] at h1 h4 h5
  have hn:=line63
  exact tail_any (typeIs_str s z t) slot_str_getitem.lookup (getItem_str (c:=c) (by
    have e1:decide (i < -(2 ^ 63:Int))=false:=decide_eq_false (by omega)
    have e2:decide (i ≥ 2 ^ 63)=false:=decide_eq_false (by omega)
    rw [e1,e2,Bool.or_false]) (by rw [h1]; simpa using h2) ⟨.str ⟨#[c]⟩,H,I.tok _,relS I.tk,q⟩) hs
def rIx (K:PySem.W.Frag):R2:=fun x y H Q=>rIxL K x y H Q∨rIxT K x y H Q∨rIxS x y H Q
theorem mapSeq_set (its:List Value) (n j:Nat) (u:Value):Obj.mapSeq (·.setIfInBounds j u) { cls:=.type "list", data:=.seq its.toArray n }={ cls:=.type "list", data:=.seq (its.set j u).toArray n }:=by
  simp [Obj.mapSeq]
theorem Inv.lst {pins:List (Addr × Obj)} {σ:St} {H:Hp} {s:Shared} {p:Addr} {xs:List V} (I:Inv X pins σ H s) (h:H p=some (.lst xs)) :
    ∃ (its:List Value) (n:Nat),Vals xs its∧s.heap.get? p=some { cls:=.type "list", data:=.seq its.toArray n }∧xs.length≤sizeLine:=by
  obtain ⟨z,its,n,r,e⟩:=I.hok p _ h
  exact ⟨its,n,r,e,z⟩
theorem Inv.lstUpd {pins:List (Addr × Obj)} {σ:St} {H:Hp} {s:Shared} {p:Addr} {xs ys:List V} {its its':List Value} {n n':Nat} {f:Obj→Obj} (I:Inv X pins σ H s) (h:H p=some (.lst xs))
    (ho:s.heap.get? p=some { cls:=.type "list", data:=.seq its.toArray n }) (hf:f { cls:=.type "list", data:=.seq its.toArray n }={ cls:=.type "list", data:=.seq its'.toArray n' }) (r:Vals ys its') (hz:ys.length≤sizeLine) (t:Nat) (ht:1≤t:=by first | exact Nat.le_add_left 1 _ | exact Inv.tk (by assumption) | assumption | omega) :
    Inv X pins σ (upd H p (.lst ys)) { s with heap:=s.heap.update p f,toks:=t }:=by
  have e:(s.heap.update p f).get? p=some { cls:=.type "list", data:=.seq its'.toArray n' }:=by
    rw [Heap.get?_update_self f ho (by rw [hf] <;> rfl),hf]
  refine I.write (x:=p) (e:=p) (by rw [h]; trivial) (.inl rfl) (fun b u hb q=>(Heap.get?_update_other _ _ (Ne.symm hb)).trans q) ⟨_,e⟩ ?_
  exact ⟨hz,its',n',r,e⟩
inductive rSetL (o:V) (i:V) (v:V) (H:Hp) (Q:(Hp→Prop)):Prop where
  | mk:∀ p xs k j,(o=.ref p)→(i=.int k)→(H p=some (.lst xs))→(ixN xs.length k=some j)→(Q (upd H p (.lst (xs.set j v))))→rSetL o i v H Q
theorem set_list:PSet X rSetL:=by
  intro pins s σ H o i v ov iv u Q I ro ri rv h
  obtain ⟨p,xs,k,j,rfl,rfl,hp,hj,q⟩:=h
  cases ro
  obtain ⟨t,rfl⟩:=ri
  obtain ⟨its,n,r,ho,hz⟩:=I.lst hp
  obtain ⟨h1,h2,h3,h4⟩:=ixN_seq hj
  have hl:=r.length
  have hn:=line63
  have I':Inv X pins σ (upd H p (.lst (xs.set j v))) { s with heap:=s.heap.update p (Obj.mapSeq (·.setIfInBounds j u)) } :=
    I.lstUpd hp ho (mapSeq_set its n j u) (r.set rv j) (by rw [List.length_set]; exact hz) s.toks
  by_cases h0:0≤k
  · have hk:k.toNat=j:=by
      rw [seqIndex_of h0 h4] at h1
      exact Option.some.inj h1
    exact PySem.W.ki_setAt ho h0 (by omega) (by rw [List.size_toArray,← hl]; exact h4) (by rw [hk]; exact ⟨_,I',q⟩)
  · have hk:(k+(its.toArray.size:Int)).toNat=j:=by
      rw [seqIndex_neg (by omega) h3] at h1
      rw [List.size_toArray,← hl]
      exact Option.some.inj h1
    exact PySem.W.ki_setBack ho (by omega) (by rw [List.size_toArray,← hl]; exact h3) (by omega) (by rw [hk]; exact ⟨_,I',q⟩)
theorem slice_bounds (lo hi:Option Int) (n:Nat):(sliceBounds lo hi none n).1=((HT.sIx n 0 lo:Nat):Int)∧(sliceBounds lo hi none n).2.1=((HT.sIx n n hi:Nat):Int)∧(sliceBounds lo hi none n).2.2=1:=by
  refine ⟨?_,?_,rfl⟩
  · cases lo with
    | none=>simp [sliceBounds,HT.sIx]
    | some i =>
      simp only [sliceBounds,HT.sIx,Option.getD_none,show (1:Int) > 0 by decide,if_true]
      by_cases h:i < 0
      · simp only [h,if_true] <;> omega
      · simp only [h,if_false] <;> omega
  · cases hi with
    | none=>simp [sliceBounds,HT.sIx]
    | some i =>
      simp only [sliceBounds,HT.sIx,Option.getD_none,show (1:Int) > 0 by decide,if_true]
      by_cases h:i < 0
      · simp only [h,if_true] <;> omega
      · simp only [h,if_false] <;> omega
theorem slicePick_cut (its:List Value) (lo hi:Option Int):slicePick its.toArray lo hi none=((its.drop (HT.sIx its.length 0 lo)).take (HT.sIx its.length its.length hi - HT.sIx its.length 0 lo)).toArray:=by
  obtain ⟨h1,h2,h3⟩:=slice_bounds lo hi its.toArray.size
  unfold slicePick
  rw [h1,h2,h3]
  simp only [sliceRange_one,pick_run,List.size_toArray] <;> rfl
inductive rSlL (K:PySem.W.Frag) (x:V) (lo:Option Int) (hi:Option Int) (H:Hp) (Q:VK):Prop where
  | mk:∀ a xs,(x=.ref a)→(SqL K H a xs)→(∀ p,H p=none→Q (.ref p) (upd H p (.lst (cutV xs lo hi))))→rSlL K x lo hi H Q
theorem sl_list:SlR X (rSlL X.K):=by
  intro pins s σ H x v vl vu lo hi sl Q I rx hs pl pu h
  obtain ⟨a,xs,rfl,hx,q⟩:=h
  cases rx
  obtain ⟨its,r,ht,hz⟩:=I.list hx
  have hlen:=r.length
  refine ⟨"list", _,slot_list_getitem.lookup,ht.isList.typeIs,?_⟩
  refine wpAny_getItem_list_slice ht.isList hs pl pu .none (by simp) ?_ (by rw [List.size_toArray] <;> omega)
  rw [slicePick_cut,← hlen]
  refine ⟨.ref s.heap.objs.size,_,I.laid (t':=s.toks) (o:=.lst (cutV xs lo hi)) (fun b ob q=>Heap.get?_push_of_some _ q) (Nat.le_refl _) ?_,rfl,q _ (I.hok.fresh (Nat.le_refl _))⟩
  exact ⟨Nat.le_trans (cutV_length xs lo hi) hz,_,0,(r.drop (HT.sIx xs.length 0 lo)).take (HT.sIx xs.length xs.length hi - HT.sIx xs.length 0 lo),Heap.get?_push_size _ rfl⟩
def flatV:V→Bool
  | .non=>true
  | .bl _=>true
  | .int _=>true
  | .str _=>true
  | _=>false
def eqV:V→V→Bool
  | .non,.non=>true
  | .bl a,.bl b=>a == b
  | .bl a,.int b=>(if a then 1 else 0) == b
  | .int a,.bl b=>a == (if b then 1 else 0)
  | .int a,.int b=>a == b
  | .str a,.str b=>a == b
  | _,_=>false
theorem eqAt_V {A:Around} {s:Shared} {y x:V} {u v:Value} (ry:RelV y u) (rx:RelV x v) (fy:flatV y=true) (fx:flatV x=true):SeqAt.EqAt A s u v (eqV y x):=by
  cases y with
  | non =>
    cases ry
    cases x with
    | non=>cases rx; exact SeqAt.EqAt.same _
    | bl b=>cases rx; exact SeqAt.EqAt.none_bool b
    | int b=>obtain ⟨t,rfl⟩:=rx; exact SeqAt.EqAt.none_int b t
    | str b=>obtain ⟨t,rfl⟩:=rx; exact SeqAt.EqAt.none_str b _
    | _=>exact absurd (show false=true from fx) Bool.false_ne_true
  | bl a =>
    cases ry
    cases x with
    | non=>cases rx; exact SeqAt.EqAt.bool_none a
    | bl b=>cases rx; exact SeqAt.EqAt.bool_bool a b
    | int b=>obtain ⟨t,rfl⟩:=rx; exact SeqAt.EqAt.bool_int a b t
    | str b=>obtain ⟨t,rfl⟩:=rx; exact SeqAt.EqAt.bool_str a b _
    | _=>exact absurd (show false=true from fx) Bool.false_ne_true
  | int a =>
    obtain ⟨t',rfl⟩:=ry
    cases x with
    | non=>cases rx; exact SeqAt.EqAt.int_none a t'
    | bl b=>cases rx; exact SeqAt.EqAt.int_bool a t' b
    | int b=>obtain ⟨t,rfl⟩:=rx; exact SeqAt.EqAt.int_int a t' b t
    | str b=>obtain ⟨t,rfl⟩:=rx; exact SeqAt.EqAt.int_str a t' b _
    | _=>exact absurd (show false=true from fx) Bool.false_ne_true
  | str a =>
    obtain ⟨t',rfl⟩:=ry
    cases x with
    | non=>cases rx; exact SeqAt.EqAt.str_none a _
    | bl b=>cases rx; exact SeqAt.EqAt.str_bool a _ b
    | int b=>obtain ⟨t,rfl⟩:=rx; exact SeqAt.EqAt.str_int a _ b t
    | str b=>obtain ⟨t,rfl⟩:=rx; exact SeqAt.EqAt.str_str a _ b _
    | _=>exact absurd (show false=true from fx) Bool.false_ne_true
  | _=>exact absurd (show false=true from fy) Bool.false_ne_true
def eqU (x:V) (u:Value):Bool:=match u with
  | .none=>eqV .non x
  | .bool b=>eqV (.bl b) x
  | .int i _=>eqV (.int i) x
  | .str z _=>eqV (.str z) x
  | _=>false
theorem eqU_of {x y:V} {u:Value} (r:RelV y u) (f:flatV y=true):eqU x u=eqV y x:=by
  cases y with
  | non=>cases r; rfl
  | bl b=>cases r; rfl
  | int i=>obtain ⟨t,rfl⟩:=r; rfl
  | str z=>obtain ⟨t,rfl⟩:=r; rfl
  | _=>exact absurd (show false=true from f) Bool.false_ne_true
theorem any_eqU {x:V}:∀ {xs:List V} {us:List Value},Vals xs us→xs.all flatV=true→us.any (eqU x)=xs.any fun y=>eqV y x
  | _,_,.nil,_=>rfl
  | y::xs,u::us,.cons r t,f=>by
    rw [List.all_cons,Bool.and_eq_true] at f
    rw [List.any_cons,List.any_cons,eqU_of r f.1,any_eqU t f.2]
theorem mem_eqAt {A:Around} {s:Shared} {x:V} {v:Value} (rx:RelV x v) (fx:flatV x=true):∀ {xs:List V} {us:List Value},Vals xs us→xs.all flatV=true→∀ u ∈ us,SeqAt.EqAt A s u v (eqU x u)
  | _,_,.nil,_=>fun u hu=>by cases hu
  | y::xs,u::us,.cons r t,f=>fun u' hu=>by
    rw [List.all_cons,Bool.and_eq_true] at f
    rcases List.mem_cons.mp hu with rfl | hu
    · rw [eqU_of r f.1]; exact eqAt_V r rx f.1 fx
    · exact mem_eqAt rx fx t f.2 u' hu
def inV (x:V) (xs:List V):Bool:=xs.any fun y=>eqV y x
inductive rIn (K:PySem.W.Frag) (neg:Bool) (x:V) (y:V) (H:Hp) (Q:VK):Prop where
  | mk:∀ p xs,(y=.ref p)→((SqL K H p xs∨SqT K H p xs))→(flatV x=true)→(xs.all flatV=true)→(Q (.bl (if neg then !inV x xs else inV x xs)) H)→rIn K neg x y H Q
theorem op_in_seq:OpR X (compareOp .In) (rIn X.K false):=by
  intro pins s σ H x y v u Q I rx ry h
  obtain ⟨p,xs,rfl,hq,fx,fs,q⟩:=h
  cases ry
  rcases hq with hq | hq
  · obtain ⟨its,r,pl,hz⟩:=I.list hq
    refine SeqAt.in_listAt (eqU x) pl.isList (fun w hw=>mem_eqAt rx fx r fs w (by simpa using hw)) ⟨.bl _,H,I,rfl,?_⟩
    rw [show its.toArray.any (eqU x)=its.any (eqU x) by simp,any_eqU r fs]
    exact q
  · obtain ⟨its,r,pl,hz⟩:=I.tuple hq
    refine SeqAt.in_tupleAt (eqU x) pl (fun w hw=>mem_eqAt rx fx r fs w (by simpa using hw)) ⟨.bl _,H,I,rfl,?_⟩
    rw [show its.toArray.any (eqU x)=its.any (eqU x) by simp,any_eqU r fs]
    exact q
theorem op_notIn_seq:OpR X (compareOp .NotIn) (rIn X.K true):=by
  intro pins s σ H x y v u Q I rx ry h
  obtain ⟨p,xs,rfl,hq,fx,fs,q⟩:=h
  cases ry
  rcases hq with hq | hq
  · obtain ⟨its,r,pl,hz⟩:=I.list hq
    refine SeqAt.notIn_listAt (eqU x) pl.isList (fun w hw=>mem_eqAt rx fx r fs w (by simpa using hw)) ⟨.bl _,H,I,rfl,?_⟩
    rw [show its.toArray.any (eqU x)=its.any (eqU x) by simp,any_eqU r fs]
    exact q
  · obtain ⟨its,r,pl,hz⟩:=I.tuple hq
    refine SeqAt.notIn_tupleAt (eqU x) pl (fun w hw=>mem_eqAt rx fx r fs w (by simpa using hw)) ⟨.bl _,H,I,rfl,?_⟩
    rw [show its.toArray.any (eqU x)=its.any (eqU x) by simp,any_eqU r fs]
    exact q
theorem op_notIn_str:OpR X (compareOp .NotIn) (fun x y H Q=>∃ i j,x=.str i∧y=.str j∧Q (.bl (!(!(Builtin.Str.occurrences j i 0 j.length 1).isEmpty))) H):=by
  intro pins s σ H x y v u Q I rx ry h
  obtain ⟨i,j,rfl,rfl,q⟩:=h
  obtain ⟨t,rfl⟩:=rx
  obtain ⟨t',rfl⟩:=ry
  exact notIn_str ⟨.bl _,H,I,rfl,q⟩
inductive rLen (K:PySem.W.Frag) (xs:List V) (H:Hp) (Q:VK):Prop where
  | mk:∀ p ys,(xs=[.ref p])→((SqL K H p ys∨SqT K H p ys))→(Q (.int ys.length) H)→rLen K xs H Q
theorem call_len_seq:CallR X (.builtin "len") (rLen X.K):=by
  intro pins s σ H xs us Q I r h
  obtain ⟨p,ys,rfl,hq,q⟩:=h
  obtain ⟨u,rfl,rx⟩:=vals1 r
  cases rx
  have hn:=line63
  rcases hq with hq | hq
  · obtain ⟨its,r',pl,hz⟩:=I.list hq
    have hlen:=r'.length
    exact Calls.call_len_list pl.isList (by simp only [List.size_toArray] <;> omega) ⟨.int ys.length,H,I.tok _,⟨s.toks+1,by rw [List.size_toArray,hlen]⟩,q⟩
  · obtain ⟨its,r',pl,hz⟩:=I.tuple hq
    have hlen:=r'.length
    exact len_tuple pl (by simp only [List.size_toArray] <;> omega) ⟨.int ys.length,H,I.tok _,⟨s.toks+1,by rw [List.size_toArray,hlen]⟩,q⟩
theorem call_len_str:CallR X (.builtin "len") (fun xs H Q=>∃ z,xs=[.str z]∧z.length≤sizeLine∧Q (.int z.length) H):=by
  intro pins s σ H xs us Q I r h
  obtain ⟨z,rfl,hz,q⟩:=h
  obtain ⟨u,rfl,t,rfl⟩:=vals1 r
  have hn:=line63
  exact len_str (by omega) ⟨.int z.length,H,I.tok _,⟨_,rfl⟩,q⟩
inductive rListOf (K:PySem.W.Frag) (xs:List V) (H:Hp) (Q:VK):Prop where
  | mk:∀ p ys,(xs=[.ref p])→((SqL K H p ys∨SqT K H p ys))→(∀ l,H l=none→Q (.ref l) (upd H l (.lst ys)))→rListOf K xs H Q
inductive rTupOf (K:PySem.W.Frag) (xs:List V) (H:Hp) (Q:VK):Prop where
  | mk:∀ p ys,(xs=[.ref p])→(((SqL K H p ys∧∀ l,H l=none→Q (.ref l) (upd H l (.tup ys)))∨(SqT K H p ys∧Q (.ref p) H)))→rTupOf K xs H Q
theorem call_tuple_of:CallR X (.type "tuple") (rTupOf X.K):=by
  intro pins s σ H xs us Q I r h
  obtain ⟨p,ys,rfl,h⟩:=h
  obtain ⟨u,rfl,rx⟩:=vals1 r
  cases rx
  rcases h with ⟨hq,q⟩ | ⟨hq,q⟩
  · obtain ⟨its,r',pl,hz⟩:=I.list hq
    have hlen:=r'.length
    refine call_tuple_list pl.isList (fun h' kp=>?_) (by simp only [List.size_toArray] <;> omega)
    have I1:Inv X pins σ H { s with heap:=h' }:=I.kept (t':=s.toks) kp
    have I2:Inv X pins σ (upd H h'.objs.size (.tup ys)) { s with heap:=h'.push { cls:=.type "tuple", data:=.seq its.toArray } } :=
      I1.laid (t':=s.toks) (fun b o e=>Heap.get?_push_of_some _ e) (Nat.le_refl _) (show ObjOk X.prog X.w _ _ _ (.tup ys) from ⟨hz,its,r',IsTup.new _ _,_,Heap.get?_push_size _ rfl,rfl⟩)
    exact ⟨.ref h'.objs.size,_,I2,rfl,q _ (I1.hok.fresh (Nat.le_refl _))⟩
  · obtain ⟨its,r',pl,hz⟩:=I.tuple hq
    exact call_tuple_same pl ⟨.ref p,H,I,rfl,q⟩
def tyV (K:PySem.W.Frag) (T:String) (x:V) (H:Hp):Prop:=match x with
  | .str _=>T = "str"
  | .int _=>T = "int"
  | .ref p=>(T = "list" ∧ ∃ xs,SqL K H p xs)∨(T = "tuple" ∧ ∃ o,K.lookup p=some o∧o.cls=.type "tuple" ∧ o.dict=none) ∨
      (T = "dict" ∧ ((∃ kvs,H p=some (.dK kvs))∨∃ kvs,H p=some (.dT kvs)))∨(T = "set" ∧ ∃ S n,H p=some (.set S n))
  | _=>False
theorem tyV_is {pins:List (Addr × Obj)} {σ:St} {H:Hp} {s:Shared} {T:String} {x:V} {v:Value} (I:Inv X pins σ H s) (r:RelV x v) (ty:tyV X.K T x H) :
    s.TypeIs v T∧∀ a,v=.ref a→∃ ob,s.heap.get? a=some ob∧ob.dict=none:=by
  cases x with
  | str z =>
    obtain ⟨t,rfl⟩:=r
    cases (show T = "str" from ty)
    exact ⟨typeIs_str s z t,fun _ e=>nomatch e⟩
  | int i =>
    obtain ⟨t,rfl⟩:=r
    cases (show T = "int" from ty)
    exact ⟨typeIs_int s i t,fun _ e=>nomatch e⟩
  | ref p =>
    cases r
    rcases ty with ⟨rfl,xs,hq⟩ | ⟨rfl,o,hk,hc,hd⟩ | ⟨rfl,hk⟩ | ⟨rfl,S,n,hk⟩
    · obtain ⟨its,_,pl,_⟩:=I.list hq
      refine ⟨pl.isList.typeIs,fun a e=>?_⟩
      cases e
      obtain ⟨o,n,e,c,hd,_⟩:=pl
      exact ⟨o,e,hd⟩
    · refine ⟨⟨o,I.kIn p o hk,hc⟩,fun a e=>?_⟩
      cases e
      exact ⟨o,I.kIn _ o hk,hd⟩
    · have z:∃ o,s.heap.get? p=some o∧o.ExactDict:=by
        rcases hk with ⟨kvs,hk⟩ | ⟨kvs,hk⟩
        · obtain ⟨_,_,_,_,o,_,_,e,ex,_⟩:=I.hok p _ hk
          exact ⟨o,e,ex⟩
        · obtain ⟨_,_,_,_,o,_,_,e,ex,_⟩:=I.hok p _ hk
          exact ⟨o,e,ex⟩
      obtain ⟨o,e,ex⟩:=z
      refine ⟨⟨o,e,ex.1⟩,fun a e2=>?_⟩
      cases e2
      exact ⟨o,e,ex.2.1⟩
    · obtain ⟨o,_,_,_,e,ex,_⟩:=I.hok p _ hk
      refine ⟨⟨o,e,ex.1⟩,fun a e2=>?_⟩
      cases e2
      exact ⟨o,e,ex.2.1⟩
  | _=>exact False.elim ty
inductive ZtBM0 (K:PySem.W.Frag) (T:String) (r:V→List V→Hp→VK→Prop) (Q:VK) (x:V) (H1:Hp):Prop where
  | mk:(tyV K T x H1)→(r x [] H1 Q)→ZtBM0 K T r Q x H1
def tBM0 (K:PySem.W.Frag) (T:String) (r:V→List V→Hp→VK→Prop) (to:TE):TE:=fun σ H Q=>to σ H fun x H1=>ZtBM0 K T r Q x H1
inductive ZtBM (K:PySem.W.Frag) (T:String) (r:V→List V→Hp→VK→Prop) (t:TA) (σ:St) (Q:VK) (x:V) (H1:Hp):Prop where
  | mk:(tyV K T x H1)→(t σ H1 fun xs H2=>r x xs H2 Q)→ZtBM K T r t σ Q x H1
def tBM (K:PySem.W.Frag) (T:String) (r:V→List V→Hp→VK→Prop) (to:TE) (t:TA):TE:=fun σ H Q=>to σ H fun x H1=>ZtBM K T r t σ Q x H1
variable {o e:Expr} {es:List Expr} {to:TE} {t:TA} {name:Str} {apos cpos:Pos} {T id:String} {r:V→List V→Hp→VK→Prop}
theorem pe_bm (pa:PlainAttrs T) (slot:Slot T name id) (hty:typeOf (.builtin id)=pure (.type "method_descriptor")) (hm:MtR X id r) (ho:PE X o to) (ha:PA X (e::es) t)
    (hbase:attributeBase o name X.env (eval o X.env)=eval o X.env:=by rfl)
    (hfew:((backTo cpos (starEach (e::es) X.env)).all (fun x=>!x.1) && (backToKw cpos (keywordEach [] X.env)).all (fun x=>x.1.isSome)
      && decide ((e::es).length+([]:List Keyword).length+(if ([]:List Keyword).isEmpty then 0 else 1) < 30))=true:=by rfl)
    (hline:(apos.endLine == cpos.line)=true:=by rfl) (hs:starEach (e::es) X.env=(false,eval e X.env)::starEach es X.env:=by rfl) (hplain:(backTo cpos (starEach es X.env)).any (·.1)=false:=by rfl) :
    PE X (.Call (.Attribute o name apos) (e::es) [] cpos) (tBM X.K T r to t):=by
  intro pins s σ H Q I h
  refine wpAny_Call_method_late hbase hfew hline rfl (thn (ho pins s σ H _ I h) fun v s1 ⟨x,H1,I1,r1,ty,q1⟩=>?_)
  obtain ⟨h1,h2⟩:=tyV_is I1 r1 ty
  refine ⟨T,id,pa,slot,hty,h1,h2,?_⟩
  have hA:=ha cpos pins s1 σ H1 _ I1 q1
  rw [hs] at hA ⊢
  refine Calls.callWith_builtin (by show (false || (backTo cpos (starEach es X.env)).any (·.1))=false; rw [hplain] <;> rfl) (Calls.evalArgs_plain ?_)
  exact thn hA fun us s2 ⟨vs,H2,I2,r2,q2⟩=>hm pins s2 σ H2 x vs v us Q I2 r1 r2 q2
/- xs.append(e),list.index on a module's tuple .. are MtR facts of 06m -/
end
end L2
namespace L2
open PySem PySem.Spec PyProof.Rows
def MtM (X:Cx) (id:String) (r:V→List V→Hp→VK→Prop):Prop :=
  ∀ (pins:List (Addr × Obj)) (s:Shared) (σ:St) (H:Hp) (x:V) (xs:List V) (v:Value) (us:List Value) (Q:VK),Inv X pins σ H s→RelV x v→Vals xs us→r x xs H Q →
    wpAny (model X.prog X.w) X.A (call (.builtin id) (v::us)) (EP X pins σ Q) X.xe s
theorem Vals.one:∀ {x:V} {us:List Value},Vals [x] us→∃ u,us=[u]∧RelV x u
  | _,_,.cons r .nil=>⟨_,rfl,r⟩
theorem Vals.rep {xs:List V} {us:List Value} (h:Vals xs us):∀ k:Nat,Vals (List.replicate k xs).flatten (List.replicate k us).flatten
  | 0=>.nil
  | k+1=>by
    rw [List.replicate_succ,List.replicate_succ,List.flatten_cons,List.flatten_cons]
    exact Vals.append h (Vals.rep h k)
theorem foldl_rep (its:List Value):∀ (k:Nat) (acc:List Value),
    List.foldl (fun x1 x2=>x1++x2) acc.toArray (List.replicate k its.toArray)=(acc++(List.replicate k its).flatten).toArray
  | 0,acc=>by simp
  | k+1,acc=>by
    have e:acc.toArray++its.toArray=(acc++its).toArray:=by simp
    have e2:(acc++its)++(List.replicate k its).flatten=acc++(List.replicate (k+1) its).flatten:=by
      rw [List.replicate_succ,List.flatten_cons,List.append_assoc]
    rw [← e2,← foldl_rep its k (acc++its),← e,List.replicate_succ,List.foldl_cons]
section
variable {X:Cx} {pins:List (Addr × Obj)} {σ:St} {H:Hp} {s:Shared} {l b:Addr} {xs ys zs:List V}
theorem Inv.lset {its its':List Value} {n:Nat} {f:Array Value→Array Value} {t':Nat} (I:Inv X pins σ H s) (hH:H l=some (.lst xs))
    (e:s.heap.get? l=some { cls:=.type "list", data:=.seq its.toArray n }) (hf:f its.toArray=its'.toArray) (hv:Vals ys its') (hz:ys.length≤sizeLine) (ht:1≤t':=by first | exact Nat.le_add_left 1 _ | exact Inv.tk (by assumption) | assumption | omega) :
    Inv X pins σ (upd H l (.lst ys)) { s with heap:=s.heap.update l (Obj.mapSeq f),toks:=t' }:=by
  have q:=PySem.IsL.update e f
  rw [hf] at q
  refine I.write (x:=l) (e:=l) (by rw [hH]; exact trivial) (.inl rfl) (fun b' u hb hu=>(Heap.get?_update_other s.heap (Obj.mapSeq f) (Ne.symm hb)).trans hu) ⟨_,q⟩ ?_
  exact ⟨hz,its',_,hv,q⟩
theorem Inv.lnew {its:List Value} {t':Nat} (I:Inv X pins σ H s) (hv:Vals ys its) (hz:ys.length≤sizeLine) (ht:1≤t':=by first | exact Nat.le_add_left 1 _ | exact Inv.tk (by assumption) | assumption | omega) :
    Inv X pins σ (upd H s.heap.objs.size (.lst ys)) { s with heap:=s.heap.push { cls:=.type "list", data:=.seq its.toArray },toks:=t' } :=
  I.laid (fun _ _ q=>Heap.get?_push_of_some _ q) (Nat.le_refl _) ⟨hz,its,0,hv,Heap.get?_push_size _ rfl⟩
theorem Inv.fresh (I:Inv X pins σ H s):H s.heap.objs.size=none:=I.hok.fresh (Nat.le_refl _)
theorem Inv.lstM (I:Inv X pins σ H s) (hH:H l=some (.lst xs)):xs.length≤sizeLine∧∃ (its:List Value) (n:Nat),Vals xs its∧xs.length=its.length∧s.heap.get? l=some { cls:=.type "list", data:=.seq its.toArray n }:=by
  obtain ⟨z,its,n,r,e⟩:=I.hok l _ hH
  exact ⟨z,its,n,r,r.length,e⟩
theorem notLongL {n:Nat} (h:n≤sizeLine):Builtin.List.listTooLong n=false:=by
  unfold Builtin.List.listTooLong
  exact decide_eq_false (by omega)
end
section
variable {X:Cx}
inductive rAppend (x:V) (vs:List V) (H:Hp) (Q:VK):Prop where
  | mk:∀ l xs y,(x=.ref l)→(vs=[y])→(H l=some (.lst xs))→(xs.length < sizeLine)→(Q .non (upd H l (.lst (xs++[y]))))→rAppend x vs H Q
theorem mt_append:MtM X "list.append" rAppend:=by
  intro pins s σ H x vs v us Q I rx rv h
  obtain ⟨l,xs,y,rfl,rfl,hH,hz,q⟩:=h
  cases rx
  obtain ⟨u,rfl,ru⟩:=rv.one
  obtain ⟨z,its,n,r,hl,e⟩:=I.lstM hH
  refine call_meets F.slot_list_append ⟨_,e,rfl⟩ F.entry_list_append (F.args_list_append_2 _ _) (PySem.list_append l its.toArray n u (by rw [List.size_toArray]; omega)) ⟨e,?_⟩
  refine ⟨.non,_,I.lset (its':=its++[u]) hH e (by simp) (r.append (.cons ru .nil)) ?_,rfl,q⟩
  rw [List.length_append,List.length_singleton]
  omega
inductive rExtend (x:V) (vs:List V) (H:Hp) (Q:VK):Prop where
  | mk:∀ l b xs zs,(x=.ref l)→(vs=[.ref b])→(H l=some (.lst xs))→(H b=some (.lst zs))→(xs.length+zs.length≤sizeLine)→(Q .non (upd H l (.lst (xs++zs))))→rExtend x vs H Q
inductive rPop (x:V) (vs:List V) (H:Hp) (Q:VK):Prop where
  | mk:∀ l xs y,(x=.ref l)→(vs=[])→(H l=some (.lst xs))→(xs[xs.length - 1]?=some y)→(Q y (upd H l (.lst xs.dropLast)))→rPop x vs H Q
inductive rPopAt (x:V) (vs:List V) (H:Hp) (Q:VK):Prop where
  | mk:∀ l xs i k y,(x=.ref l)→(vs=[.int i])→(H l=some (.lst xs))→(-(2 ^ 63)≤i)→(i < 2 ^ 63)→(seqIndex? i xs.length=some k)→(xs[k]?=some y)→(Q y (upd H l (.lst (xs.eraseIdx k))))→rPopAt x vs H Q
inductive rReverse (x:V) (vs:List V) (H:Hp) (Q:VK):Prop where
  | mk:∀ l xs,(x=.ref l)→(vs=[])→(H l=some (.lst xs))→(Q .non (upd H l (.lst xs.reverse)))→rReverse x vs H Q
inductive rClear (x:V) (vs:List V) (H:Hp) (Q:VK):Prop where
  | mk:∀ l xs,(x=.ref l)→(vs=[])→(H l=some (.lst xs))→(Q .non (upd H l (.lst [])))→rClear x vs H Q
inductive rCat (x:V) (y:V) (H:Hp) (Q:VK):Prop where
  | mk:∀ l b xs zs,(x=.ref l)→(y=.ref b)→(H l=some (.lst xs))→(H b=some (.lst zs))→(xs.length+zs.length≤sizeLine)→(∀ p,H p=none→Q (.ref p) (upd H p (.lst (xs++zs))))→rCat x y H Q
theorem op_cat:OpR X (binaryOp .Add) rCat:=by
  intro pins s σ H x y v u Q I rx ry h
  obtain ⟨l,b,xs,zs,rfl,rfl,hH,hB,hz,q⟩:=h
  cases rx
  cases ry
  obtain ⟨z,its,n,r,hl,e⟩:=I.lstM hH
  obtain ⟨z2,its2,n2,r2,hl2,e2⟩:=I.lstM hB
  refine PySem.P.add_list e e2 ?_ (by rw [List.size_toArray,List.size_toArray]; omega)
  have ea:its.toArray++its2.toArray=(its++its2).toArray:=by simp
  rw [ea]
  exact ⟨.ref _,_,I.lnew (t':=s.toks) (r.append r2) (by rw [List.length_append]; omega),rfl,q _ I.fresh⟩
inductive rRep (x:V) (y:V) (H:Hp) (Q:VK):Prop where
  | mk:∀ l k xs,(x=.ref l)→(y=.int k)→(H l=some (.lst xs))→(-(2 ^ 63)≤k)→(k < 2 ^ 63)→(xs.length*k.toNat≤sizeLine)→(∀ p,H p=none→Q (.ref p) (upd H p (.lst (List.replicate k.toNat xs).flatten)))→rRep x y H Q
theorem len_rep {α:Type} (xs:List α) (k:Nat):(List.replicate k xs).flatten.length=k*xs.length:=by
  induction k with
  | zero=>simp
  | succ k ih=>rw [List.replicate_succ,List.flatten_cons,List.length_append,ih,Nat.succ_mul,Nat.add_comm]
theorem op_rep:OpR X (binaryOp .Mult) rRep:=by
  intro pins s σ H x y v u Q I rx ry h
  obtain ⟨l,k,xs,rfl,rfl,hH,h1,h2,hz,q⟩:=h
  cases rx
  obtain ⟨t,rfl⟩:=ry
  obtain ⟨z,its,n,r,hl,e⟩:=I.lstM hH
  have hlen:its.toArray.size*k.toNat≤sizeLine:=by rw [List.size_toArray,← hl]; exact hz
  have hcap:¬ its.toArray.size*k.toNat > (2 ^ 63 - 1) / 8:=by
    have:(sizeLine:Nat)≤(2 ^ 63 - 1) / 8:=by decide
    omega
  have hfit:¬ (!Builtin.List.listFitsIndex k)=true:=by
    rw [fitsIndex_both h1 h2]
    exact Bool.false_ne_true
  have hlong:¬ Builtin.List.listTooLong (its.toArray.size*k.toNat)=true:=by
    rw [notLongL hlen]
    exact Bool.false_ne_true
  have hnew:List.foldl (fun x1 x2=>x1++x2) #[] (List.replicate (if its.toArray.isEmpty=true then 0 else k.toNat) its.toArray)=(List.replicate k.toNat its).flatten.toArray:=by
    have f0:∀ m:Nat,List.foldl (fun x1 x2=>x1++x2) #[] (List.replicate m its.toArray)=(List.replicate m its).flatten.toArray:=fun m=>by
      have:=foldl_rep its m []
      rw [List.nil_append] at this
      exact this
    rw [f0]
    cases its with
    | nil=>simp
    | cons a r'=>rw [if_neg (by simp)]
  refine wpAny_binaryOp_repeat_ref (T := "list") (U := "int") (by decide) ⟨_,e,rfl⟩ (fun s'=>typeIs_int s' k t) noFill_list_mul F.fills_int_mul F.slot_int_rmul repeat_list F.slot_int_index.lookup
    (call_meets F.slot_int_rmul (typeIs_int s k t) F.entry_int_rmul (F.args_int_rmul_2 _ _) (int___rmul___int_list k t l its.toArray n)
      ⟨e,rfl,⟨_,e,rfl⟩,call_meets F.slot_list_mul ⟨_,e,rfl⟩ F.entry_list_mul (F.args_list_mul_2 _ _) (AutoListH.list___mul___list_int_3 l its.toArray n k t hfit hcap hlong) ⟨e,?_⟩⟩)
  rw [hnew]
  exact ⟨.ref _,_,I.lnew (t':=s.toks) (r.rep k.toNat) (by rw [len_rep,Nat.mul_comm]; exact hz),rfl,q _ I.fresh⟩
end
section
variable {prog:Program} {w:World} {A:Around} {E:Value→Shared→Prop} {s:Shared}
end
section
variable {X:Cx}
end
end L2
namespace Att
open PySem PySem.W PySem.Calls PyProof.Rows
theorem ints_of_wellAll {P:Params} {h:Heap}:∀ (ns:List Int) (vs:List Value),WellAll P h vs (ns.map WData.int)→IntsAre vs ns:=by
  intro ns
  induction ns with
  | nil =>
    intro vs w
    rw [List.map_nil] at w
    cases w
    exact .nil
  | cons n ns ih =>
    intro vs w
    rw [List.map_cons] at w
    cases w with
    | cons a b =>
      cases a
      exact .cons _ _ (ih _ b)
theorem script_of {l:OpenLaw} {n:Nat} (hn:l.most=some n) {P:Params} {h:Heap} {args:List WData} {vals:List Value}
    (hpre:l.row.toRowW.claim.pre args=true) (hwl:WellAll P h vals args) :
    ∃ a vs ns,vals=[Value.ref a]∧args=[WData.list (ns.map WData.int)]∧h.get? a=some { cls:=.type "list", data:=.seq vs.toArray }∧IntsAre vs ns∧ns.length≤n:=by
  have hsh:WShape.hasAll [] args [.list .int]=true:=(pre_splitW hpre).1
  have hc:l.pre.holds [] { args:=args }=true:=(pre_splitW hpre).2
  obtain ⟨d,r,rfl,h1,h2⟩:=hasAllW_cons hsh
  obtain rfl:=hasAllW_nil h2
  obtain ⟨xs,rfl,h3⟩:=hasW_list h1
  obtain ⟨ns,rfl⟩:=items_int h3
  have hlen:ns.length≤n:=by
    unfold OpenLaw.pre at hc
    have h4:(WTm.not (.lt (.lit (.int (n:Int))) (.len (.arg 0)))).holds [] { args:=[.list (ns.map .int)] }=true:=by
      have h4:=(holds_andW hc).1
      rw [hn] at h4
      exact h4
    have h5:=condW_of h4 (w_not (w_lt w_lit (w_len_list (w_arg rfl))))
    rw [List.length_map] at h5
    refine Nat.le_of_not_lt fun q=>?_
    have q':(n:Int) < ((ns.length:Nat):Int):=by omega
    first
      | (rw [decide_eq_true q'] at h5; exact absurd h5 (by decide))
      | (simp at h5; omega)
  cases hwl with
  | cons w1 w2 =>
    cases w2
    cases w1 with
    | list ho hall=>exact ⟨_,_,ns,rfl,rfl,ho,ints_of_wellAll ns _ hall,hlen⟩
theorem post_true (l:OpenLaw) (args:List WData):l.row.toRowW.claim.post args (.bool true) args=true :=
  postW_of (r:=l.row.toRowW) (X:=(true == true))
    (show WShape.has [] (.bool true) .bool=true by first | rfl | decide | simp [WShape.has,WShape.arms,WShape.armsAll])
    (show (WTm.eq .res (.lit (.bool true))).value [] { args:=args,res:=some (.bool true),after:=args }=some (.bool (true == true)) from w_eq_bool (w_res rfl) w_lit) rfl
theorem attach_call {l:OpenLaw} {n:Nat} {q:Program} {loose:List Str} {XP:(Str→Option Value)→Heap→Prop} {YP:World→Heap→Prop} {d:DefRec}
    (hn:l.most=some n) (hdf:d.params.defaults=[])
    (call:∀ (w:World) (s₀ s₁:Shared) (mg mb:Str→Option Value) (fa:Addr) (o:Obj) (pm cd doc:Value) (a:Addr) (vs:List Value) (ns:List Int),
      Ground q loose [] XP w s₀ mg mb s₁.heap→YP w s₁.heap →
      s₁.heap.get? fa=some o→o.data=.func (docDef d.name d.params d.body d.scope pm cd doc)→s₁.heap.CodeRec cd d.name→mg d.name=some (.ref fa) →
      s₁.heap.get? a=some { cls:=.type "list", data:=.seq vs.toArray }→IntsAre vs ns→ns.length≤n→s₁.gens=#[] →
      codeAny (model l.prog w) callerA (.call (.ref fa) ⟨[.ref a],[]⟩) (fun r s'=>r=.ok (.ret (.bool true))∧OldK s₁.heap s'.heap∧s'.os=s₁.os∧AllBare s'.gens) s₁) :
    WalkO q loose XP YP l.row.toRowW d [] (fun f vs=>PySem.call f vs):=by
  intro w s₀ s₁ mg mb G Y fa o pm cd doc dV kV ho hd hcd hD hmg hg args vals as hpre hlay hrd hwl hlo
  obtain rfl:dV=.none:=Dflts.none hD hdf
  obtain rfl:kV=.none:=Dflts.noKw hD
  obtain ⟨a,vs,ns,rfl,rfl,hobj,hints,hlen⟩:=script_of hn hpre hwl
  refine enter_call (codeAny_mono (call w s₀ s₁ mg mb fa o pm cd doc a vs ns G Y ho (fd_plain hd) hcd hmg hobj hints hlen hg) fun r s' hq=>?_)
  obtain ⟨rfl,h2,h3,h4⟩:=hq
  exact ⟨.inl ⟨.bool true,.bool true,[],rfl,fun _=>rfl,.bool true,post_true l _,fun _=>⟨List.Pairwise.nil,fun _ hm=>(nomatch hm)⟩⟩,h2,h3,h4⟩
section
variable {prog:Program} {w:World} {A:Around} {E:Value→Shared→Prop} {s:Shared} {K:Frag}
def noObjs (h:Heap):Heap:={ h with objs:=#[] }
def ledger (h:Heap) (L d:Addr):List (Addr × Obj):=(List.range h.objs.size).filterMap fun a=>if a=L∨a=d then none else (h.get? a).map fun o=>(a,o)
end
end Att
namespace L2
open PySem PySem.Spec PyProof.Rows
theorem vals_ints:∀ {vs:List Value} {ns:List Int},IntsAre vs ns→Vals (ns.map V.int) vs
  | _,_,.nil=>.nil
  | _,_,.cons n t h=>.cons ⟨t,rfl⟩ (vals_ints h)
structure LawOk (P:Program) (w:World) (K:PySem.W.Frag) (mg:Str→Option Value) (base:Heap) (CX:CXT) (k:Nat) (f:Addr) (fd:FuncData) (ps:List Str) (sp:Sp):Prop where
  len:∀ vs H Q E,sp vs H Q E→vs.length=ps.length
  run:∀ (A:Around) (outer:List Env) (s:Shared) (H:Hp) (args:Args) (us:List Value) (vs:List V) (Q:VK) (E:XK),Room k A→Env0 P w K mg base A outer { s with toks:=s.toks+1 } H→BindsTo s fd args (ps.zip us)→Vals vs us→sp vs H Q E →
    codeAny (model P w) A (.call (.ref f) args) (CR CX outer P w H s Q E) s
def Only (H:Hp):Prop:=∀ b,H b=none∨∃ o xs,H b=some (.frz o (.lst xs))
theorem law_call {P:Program} {w:World} {K:PySem.W.Frag} {mg mb:Str→Option Value} {CX:CXT} {k:Nat} {fa a:Addr} {fd:FuncData} {x:Str} {sp:Sp} {s₁:Shared} {vs:List Value} {ns:List Int}
    (KX:K.In s₁.heap) (hns:s₁.heap.Ns mainGlobals mg) (hb:s₁.heap.Ns builtinsNs mb) (hbb:∀ x:Str,x ≠ "__name__" → mb x=bootBuiltins x) (hlim:s₁.heap.NoLimit) (hg:s₁.gens=#[])
    (ha:s₁.heap.get? a=some { cls:=.type "list", data:=.seq vs.toArray }) (hi:IntsAre vs ns) (hl:ns.length≤sizeLine) (hr:Room k callerA)
    (F:∀ base:Heap,K.In base→base.Ns mainGlobals mg→LawOk P w K mg base CX k fa fd [x] sp) (hbind:∀ (s:Shared) (u:Value),BindsTo s fd ⟨[u],[]⟩ [(x,u)])
    (hsp:∀ H:Hp,Only H→SqL K H a (ns.map V.int)→sp [.ref a] H (fun v _=>v=.bl true) fun _ _ _=>False)
    (hCX:∀ H e s',CX [] H s₁ (fun _ _ _=>False) e s'→False) :
    codeAny (model P w) callerA (.call (.ref fa) ⟨[.ref a],[]⟩) (fun r s'=>r=.ok (.ret (.bool true))∧OldK s₁.heap s'.heap∧s'.os=s₁.os∧AllBare s'.gens) s₁:=by
  have rv:=vals_ints hi
  have lenV:=hi.length
  have core:∀ H:Hp,Only H→SqL K H a (ns.map V.int)→HOk P w H s₁.heap→(∀ b,H b ≠ none→b=a)→(H a ≠ none→K.lookup a=none) →
      codeAny (model P w) callerA (.call (.ref fa) ⟨[.ref a],[]⟩) (fun r s'=>r=.ok (.ret (.bool true))∧OldK s₁.heap s'.heap∧s'.os=s₁.os∧AllBare s'.gens) s₁:=by
    intro H hO hS hok hA hK
    have base_of:∀ {b:Addr} {o:Obj},s₁.heap.get? b=some o→H b=none→(hidT s₁.heap H).get? b=some o:=fun e n=>hidT_get e n
    have noA:∀ {b:Addr} {o:Obj} {es:Array DictEntry} {ep:Nat},s₁.heap.get? b=some o→o.data=.dict es ep→H b=none:=fun {b o es ep} e d=>by
      cases q:H b with
      | none=>rfl
      | some u =>
        have e':b=a:=hA b (by rw [q]; simp)
        subst e'
        rw [ha] at e; cases e
        have d':Data.seq vs.toArray _=Data.dict es ep:=d
        cases d'
    have nsK:∀ {b:Addr} {m:Str→Option Value},s₁.heap.Ns b m→(hidT s₁.heap H).Ns b m:=fun {b m} ⟨o,es,ep,e,d,r⟩=>⟨o,es,ep,base_of e (noA e d),d,r⟩
    have hKb:K.In (hidT s₁.heap H):=fun b o e=>base_of (KX b o e) (by
      cases q:H b with
      | none=>rfl
      | some u =>
        have e':b=a:=hA b (by rw [q]; simp)
        subst e'
        rw [hK (by rw [q]; simp)] at e; cases e)
    have hM:Mod K mg (hidT s₁.heap H):=⟨hKb,nsK hns,⟨mb,nsK hb,hbb⟩,let ⟨mc,h1,h2⟩:=hlim; ⟨mc,nsK h1,h2⟩⟩
    have e0:Env0 P w K mg (hidT s₁.heap H) callerA [] { s₁ with toks:=s₁.toks+1 } H:=⟨rfl,hM,fun b o e=>of_hidT e,Nat.le_of_eq (hidT_size _ _),trivial,fun b hb=>absurd (show b ∈ ([]:List Addr) from hb) (by simp),hok,.of_eq hg,Nat.le_add_left 1 _⟩
    refine codeAny_mono ((F _ hKb (nsK hns)).run callerA [] s₁ H ⟨[.ref a],[]⟩ [.ref a] [.ref a] _ _ hr e0 (hbind s₁ (.ref a)) (.cons rfl .nil) (hsp H hO hS)) fun r s' h=>?_
    cases r with
    | error e=>exact (hCX H e s' h).elim
    | ok fl =>
      cases fl with
      | next=>exact False.elim h
      | brk=>exact False.elim h
      | cont=>exact False.elim h
      | ret u =>
        obtain ⟨v,H',ht,os,bare,un,hok',r',q⟩:=h
        have q':v=.bl true:=q
        subst q'
        obtain rfl:u=Value.bool true:=r'
        refine ⟨rfl,OldK.of_keep fun b o e=>?_,os,bare⟩
        cases q:H b with
        | none=>exact un.keep b o e q (by intro z; exact absurd (show b ∈ ([]:List Addr) from z) (by simp)) (by simp)
        | some u =>
          rcases hO b with z | ⟨ob,xs,z⟩
          · rw [q] at z; cases z
          · have z2:=un.frzs b ob _ z
            obtain ⟨e1,_⟩:=hok b _ z
            obtain ⟨e2,_⟩:=hok' b _ z2
            rw [e] at e1; cases e1
            exact e2
  cases hk:K.lookup a with
  | some o =>
    have e:=KX a o hk
    rw [ha] at e
    cases e
    refine core (fun _=>none) (fun _=>.inl rfl) (.inr ⟨_,vs.toArray,_,hk,rfl,rfl,rfl,by rw [List.size_toArray,lenV]; exact hl,by simpa using rv⟩) (fun b u z=>by have z':(none:Option HO)=some u:=z; cases z') (fun b z=>absurd rfl z) fun z=>absurd rfl z
  | none =>
    refine core (fun b=>if b=a then some (.frz { cls:=.type "list", data:=.seq vs.toArray } (.lst (ns.map V.int))) else none) (fun b=>?_) (.inl (.inr ⟨{ cls:=.type "list", data:=.seq vs.toArray },if_pos rfl⟩)) (fun b u z=>?_) (fun b z=>?_) fun _=>hk
    · by_cases hb:b=a
      · exact .inr ⟨_,_,if_pos hb⟩
      · exact .inl (if_neg hb)
    · by_cases hb:b=a
      · have z':=(if_pos hb).symm.trans z
        cases z'
        subst hb
        exact ⟨ha,by rw [List.length_map]; exact hl,vs,_,rv,ha⟩
      · have z':=(if_neg hb).symm.trans z
        cases z'
    · by_cases hb:b=a
      · exact hb
      · exact absurd (if_neg hb) z
end L2
namespace L2
open PySem PySem.Spec PyProof.Rows
abbrev KOf {K:PySem.W.Frag} {h:Heap} (_:K.In h):PySem.W.Frag:=K
theorem walk_of {l:PySem.W.OpenLaw} {n k:Nat} {q:Program} {loose:List Str} {XP:(Str→Option Value)→Heap→Prop} {YP:World→Heap→Prop} {d:DefRec} {K:Params→PySem.W.Frag} {CX:World→CXT} {sp:World→Sp} {x:Str}
    (hn:l.most=some n) (hn2:n≤sizeLine) (hdf:d.params.defaults=[]) (hr:Room k callerA)
    (hY:∀ (w:World) (h:Heap),YP w h→(K w.params).In h)
    (F:∀ (w:World) (mg:Str→Option Value) (fa:Addr) (h:Heap),(K w.params).In h→h.Ns mainGlobals mg→mg d.name=some (.ref fa) →
      ∃ fd:FuncData,(∀ (s:Shared) (u:Value),BindsTo s fd ⟨[u],[]⟩ [(x,u)]) ∧
        ∀ base:Heap,(K w.params).In base→base.Ns mainGlobals mg→LawOk l.prog w (K w.params) mg base (CX w) k fa fd [x] (sp w))
    (hsp:∀ (w:World) (H:Hp) (a:Addr) (ns:List Int),ns.length≤n→Only H→SqL (K w.params) H a (ns.map V.int)→sp w [.ref a] H (fun v _=>v=.bl true) fun _ _ _=>False)
    (hCX:∀ (w:World) (H:Hp) (s:Shared) (e:Value) (s':Shared),CX w [] H s (fun _ _ _=>False) e s'→False) :
    PySem.W.WalkO q loose XP YP l.row.toRowW d [] (fun f vs=>PySem.call f vs):=by
  refine Att.attach_call hn hdf fun w s₀ s₁ mg mb fa o pm cd doc a vs ns G Y ho hd hcd hmg hobj hints hlen hg=>?_
  have KX:=hY w _ Y
  obtain ⟨fd,hb,hF⟩:=F w mg fa _ KX G.T.g hmg
  exact law_call KX G.T.g G.T.b G.T.builtins G.T.nolimit hg hobj hints (Nat.le_trans hlen hn2) hr hF hb (fun H hO hS=>hsp w H a ns hlen hO hS) fun H e s'=>hCX w H s₁ e s'
end L2
/- THE LAST THEOREM (shape; LID,My.* are yours):
   My.Adr: a structure of the addresses that your layer names (classes,functions); My.Txt K t: a structure (Prop) of the equations over K;
   My.txt_mk:{K} {implicit addresses ..} (e1:nsIn K mainGlobals "law" = some (some (.ref f))) (e2:K.lookup f=some ⟨oc,od,.func (fnOf "law" "law" params body scope dV kV doc pm an cdv ct),sl⟩) (e3:codeIn K cdv "law" = true) ..:∃ t,My.Txt K t
set_option maxRecDepth 100000 in
set_option maxHeartbeats 0 in
theorem PySem.Challenge.cw_LID_holds : PySem.Challenge.rw_LID.Holds := by
  w_on; o_law; k_head; (case hw=>w_witness2)
  k_fill
  refine L2.walk_of (l:=PySem.Challenge.rw_LID) (n:=63) (k:=40) (x := "script") (CX:=fun w=>..) (sp:=fun _=>My.sp_law) rfl (by decide) rfl ⟨rfl,by decide,by decide⟩ (fun w h Y=>PySem.W.kIn_of Y) ?F ?S ?C
  case F =>
    intro w mg fa h KX G hmg
    have T:∃ t,My.Txt (L2.KOf KX) t:=by
      dsimp only [L2.KOf]                          -- K must stand as «<heap const> w.params» for k_is
      refine' My.txt_mk ?e1 ?e2 ?e3 ..
      (case e1=>PySem.W.k_is)                    -- in the order: a name -> its address -> its object -> its parts
      (case e2=>PySem.W.k_is)
      ..
    obtain ⟨t,T⟩:=T
    have e0:=hmg.symm.trans (PySem.W.mg_of KX G T.law)
    cases e0                                       -- fa is the law's own address
    exact ⟨_,fun s u=>.of_eq rfl,fun base kb nb=>My.law_fn T kb nb⟩     -- if «.of_eq rfl» comes too early: refine' ⟨_,?b,fun base kb nb=>My.law_fn T kb nb⟩; exact fun s u=>.of_eq rfl
  case S=>exact fun w H a ns hl hO hS=>..
  case C=>exact ..
(the tactic k_is has no namespace: write k_is) -/
namespace L2
open PySem PySem.Spec PyProof.Rows
def inClass (s:Stmt) (j:Nat):Stmt:=match s with
  | .ClassDef _ _ _ body _ _ _ _ _ _ _=>body.getD j (.Pass ⟨0,0,0,0⟩)
  | _=>.Pass ⟨0,0,0,0⟩
def defArgs (s:Stmt):Arguments:=match s with
  | .FunctionDef _ a _ _ _ _ _ _ _ _=>a
  | _=>{ posonlyargs:=[],args:=[],vararg:=none,kwonlyargs:=[],kw_defaults:=[],kwarg:=none,defaults:=[] }
def defBody (s:Stmt):List Stmt:=match s with
  | .FunctionDef _ _ b _ _ _ _ _ _ _=>b
  | _=>[]
def defScope (s:Stmt):Scope:=match s with
  | .FunctionDef _ _ _ _ _ _ sc _ _ _=>sc
  | _=>{ kind:=.function,names:=[],isGenerator:=false,isCoroutine:=false }
abbrev CX0:CXT:=fun _ _ _ _ _ _=>False
abbrev E0:XK:=fun _ _ _=>False
theorem pass0 {X:Cx}:Passes CX0 X E0:=fun _ _ _ _ _ _ _ h=>h.elim
structure Fun (K:PySem.W.Frag) (x qual:Str) (st:Stmt) (f:Addr) (fd:FuncData):Prop where
  ex:∃ (oc:Value) (od:Option Addr) (kV doc pm:Value) (an:Option Addr) (cdv ct:Value) (osl:Array (Option Value)),
    fd=PySem.W.fnOf x qual (defArgs st) (defBody st) (defScope st) .none kV doc pm an cdv ct∧K.lookup f=some ⟨oc,od,.func fd,osl⟩∧PySem.W.codeIn K cdv qual=true
  kp:PySem.W.keepIn K (.ref f)=true
section
variable {P:Program} {w:World} {K:PySem.W.Frag} {mg:Str→Option Value} {base:Heap}
theorem Fun.ok {x qual:Str} {st:Stmt} {f:Addr} {fd:FuncData} {N ps:List Str} {k:Nat} {sp:Sp} (F:Fun K x qual st f fd) (S:FnScope N ps (defScope st)) (len:∀ vs H Q E,sp vs H Q E→vs.length=ps.length)
    (hbody:∀ (cdv:Value) (A:Around) (outer:List Env) (s:Shared) (H:Hp) (vs:List V) (Q:VK) (E:XK),Room k (A.deeper (envOfC qual (defScope st) s.heap.objs.size f cdv))→sp vs H Q E →
      ∃ t,PSs (cxOf CX0 P w K mg base N qual (defScope st) f cdv A outer s H E).nox (defBody st) t∧t { nx:=fun _ H'=>Q .non H',rt:=Q } (start N vs) H):FnOk P w K mg base CX0 (k+1) f fd ps sp:=by
  obtain ⟨oc,od,kV,doc,pm,an,cdv,ct,osl,rfl,lk,hcd⟩:=F.ex
  refine fn_of lk hcd S len fun A outer s H vs Q E hr hsp=>?_
  obtain ⟨t,h,q⟩:=hbody cdv A outer s H vs Q E hr hsp
  exact ⟨t,h.nox,q⟩
theorem Fun.binds {x qual:Str} {st:Stmt} {f:Addr} {fd:FuncData} {ps:List Str} (F:Fun K x qual st f fd)
    (h:∀ (kV doc pm:Value) (an:Option Addr) (cdv ct:Value) (us:List Value),us.length=ps.length→bindArgs (PySem.W.fnOf x qual (defArgs st) (defBody st) (defScope st) .none kV doc pm an cdv ct) ⟨us,[]⟩=pure (ps.zip us)):Binds K fd ps []:=by
  obtain ⟨oc,od,kV,doc,pm,an,cdv,ct,osl,rfl,lk,hcd⟩:=F.ex
  exact .all (h kV doc pm an cdv ct)
theorem fun_mk {x qual:Str} {st:Stmt} {f:Addr} {oc:Value} {od an:Option Addr} {osl:Array (Option Value)} {kV doc pm cdv ct:Value} (l:K.lookup f=some ⟨oc,od,.func (PySem.W.fnOf x qual (defArgs st) (defBody st) (defScope st) .none kV doc pm an cdv ct),osl⟩)
    (c:PySem.W.codeIn K cdv qual=true) (k:PySem.W.keepIn K (.ref f)=true):Fun K x qual st f (PySem.W.fnOf x qual (defArgs st) (defBody st) (defScope st) .none kV doc pm an cdv ct):=⟨⟨oc,od,kV,doc,pm,an,cdv,ct,osl,rfl,l,c⟩,k⟩
end
theorem small1000 {n:Nat} (h:n≤1000):n < sizeLine:=Nat.lt_of_le_of_lt h (by decide)
section
variable {X:Cx}
theorem pv (i:Nat) {x:Str} {pos:Pos} (hN:X.N[i]?=some x:=by rfl) (hv:Vis X.env.scope x:=by first | exact Or.inl rfl | exact Or.inr (Or.inl rfl) | exact Or.inr (Or.inr rfl)) (hd:(x == ("__debug__" : Str))=false:=by decide)
    (hcd:(x == ("__classdict__" : Str))=false:=by decide):PE X (.Name x pos) (tVar i):=pe_var hN hv hd hcd
end
theorem iteF {A B:Prop} (h:B):if false=true then A else B:=by
  rw [if_neg Bool.false_ne_true]
  exact h
theorem iteT {A B:Prop} (h:A):if true=true then A else B:=by
  rw [if_pos rfl]
  exact h
theorem ite2 {c A B:Prop} [Decidable c] (h1:c→A) (h2:¬ c→B):if c then A else B:=by
  by_cases h:c
  · rw [if_pos h]
    exact h1 h
  · rw [if_neg h]
    exact h2 h
def Same (H H':Hp):Prop:=∀ b o,H b=some o→H' b=some o
theorem Same.refl (H:Hp):Same H H:=fun _ _ h=>h
theorem Same.trans {H H1 H2:Hp} (a:Same H H1) (b:Same H1 H2):Same H H2:=fun c o h=>b c o (a c o h)
theorem Same.free {H H':Hp} (e:Same H H') {l:Addr} (h:H' l=Option.none):H l=Option.none:=by
  cases q:H l with
  | none=>rfl
  | some o =>
    rw [e l o q] at h
    cases h
theorem Same.seq {K:PySem.W.Frag} {H H':Hp} {a:Addr} {xs:List V} (e:Same H H') (h:SqL K H a xs):SqL K H' a xs:=by
  rcases h with (h | ⟨o,h⟩) | h
  · exact .inl (.inl (e _ _ h))
  · exact .inl (.inr ⟨o,e _ _ h⟩)
  · exact .inr h
end L2
set_option maxHeartbeats 4000000
namespace L2
open PySem PySem.Spec PyProof.Rows
section
variable {X:Cx}
inductive rIsi (K:PySem.W.Frag) (xs:List V) (H:Hp) (Q:VK):Prop where
  | mk:∀ x t n b,(xs=[x,.ty n])→(TyOf K H x t)→(PySem.W.kitOne K t (.type n)=some b)→(Q (.bl b) H)→rIsi K xs H Q
theorem call_isinst:CallR X (.builtin "isinstance") (rIsi X.K):=by
  intro pins s σ H xs us Q I r h
  obtain ⟨x,t,n,b,rfl,ty,e,q⟩:=h
  obtain ⟨u,w',rfl,r1,r2⟩:=vals2 r
  cases r2
  exact wpAny_with_toks I.tk (isinst_ok I r1 ty e (fun tk le=>⟨.bl b,H,I.tok tk le,rfl,q⟩))
theorem kit_self (K:PySem.W.Frag) (n:String):PySem.W.kitOne K (.type n) (.type n)=some true:=by
  unfold PySem.W.kitOne
  rw [if_pos (by simp)]
theorem kit_int_bool (K:PySem.W.Frag):PySem.W.kitOne K (.type "int") (.type "bool")=some false:=by
  show (if ((Value.type "int" == Value.type "bool")=true) then some true else if PySem.W.kitMeta "bool" = true then ((fastBuiltinMro "int").map (·.contains (.type "bool"))) else none)=some false
  decide +kernel
def CDivL (_ j:Int):Prop:=0 < j∧j < 2 ^ 63
theorem op_fdivL:OpR X (binaryOp .FloorDiv) (rI CDivL fun i j=>.int (i / j)):=opI fun i j _ _ _ _ _ hc q=>by
  have e:Int.fdiv i j=i / j:=Int.fdiv_eq_ediv_of_nonneg i (Int.le_of_lt hc.1)
  rw [← e] at q
  refine floordiv_int (by have:=hc.1; omega) q (.inl (PyProof.noPylong_of_log2 ?_))
  have h1:=hc.1
  have h2:=hc.2
  have h3:j.natAbs < 2 ^ 63:=by omega
  have h4:=(Nat.log2_lt (n:=j.natAbs) (k:=63) (by omega)).mpr h3
  omega
end
theorem boot_int':bootBuiltins "int" = some (.type "int"):=by decide +kernel
theorem boot_bool':bootBuiltins "bool" = some (.type "bool"):=by decide +kernel
theorem boot_tuple':bootBuiltins "tuple" = some (.type "tuple"):=by decide +kernel
structure Cal (P:Program) (w:World) (K:PySem.W.Frag) (mg:Str→Option Value) (base:Heap) (n:Nat) (x:Str) (ps:List Str) (sp:Sp):Prop where
  ex:∃ (f:Addr) (fd:FuncData),FnOk P w K mg base CX0 n f fd ps sp∧Binds K fd ps []∧PySem.W.keepIn K (.ref f)=true∧mg x=some (.ref f)
theorem pe_cal {X:Cx} {n k:Nat} {x:Str} {ps:List Str} {sp:Sp} {e:Expr} {es:List Expr} {t:TA} {p pos:Pos} (C:Cal X.prog X.w X.K X.mg X.base n x ps sp) (hr:Room k X.A) (hk:n≤k) (hg:Gl X x)
    (ha:PA X (e::es) t) (hdb:(x == ("__debug__" : Str))=false:=by decide) (he:starEach (e::es) X.env=(false,eval e X.env)::starEach es X.env:=by rfl) (hpl:(backTo pos (starEach es X.env)).any (·.1)=false:=by rfl) :
    PE X (.Call (.Name x p) (e::es) [] pos) (tCall sp [] E0 t):=by
  obtain ⟨f,fd,F,b,kp,m⟩:=C.ex
  exact pe_call F (hr.mono hk) hg m kp b .nil pass0 ha hdb he hpl
theorem Cal.of {P:Program} {w:World} {K:PySem.W.Frag} {mg:Str→Option Value} {base:Heap} {n:Nat} {x qual:Str} {ps:List Str} {sp:Sp} {st:Stmt} {f:Addr} {fd:FuncData} (F:Fun K x qual st f fd) (O:FnOk P w K mg base CX0 n f fd ps sp) (m:mg x=some (.ref f))
    (h:∀ (kV doc pm:Value) (an:Option Addr) (cdv ct:Value) (us:List Value),us.length=ps.length→bindArgs (PySem.W.fnOf x qual (defArgs st) (defBody st) (defScope st) .none kV doc pm an cdv ct) ⟨us,[]⟩=pure (ps.zip us)):Cal P w K mg base n x ps sp :=
  ⟨f,fd,O,F.binds h,F.kp,m⟩
theorem iteD {c A B:Prop} [Decidable c] (hc:c) (h:A):if decide c=true then A else B:=by
  rw [decide_eq_true hc]
  exact iteT h
theorem iteDF {c A B:Prop} [Decidable c] (hc:¬ c) (h:B):if decide c=true then A else B:=by
  rw [decide_eq_false hc]
  exact iteF h
def SameBut (f:Addr) (H H':Hp):Prop:=∀ b o,b ≠ f→H b=some o→H' b=some o
theorem SameBut.trans {f:Addr} {H H1 H2:Hp} (a:SameBut f H H1) (b:SameBut f H1 H2):SameBut f H H2:=fun c o h e=>b c o h (a c o h e)
theorem SameBut.refl (f:Addr) (H:Hp):SameBut f H H:=fun _ _ _ h=>h
theorem SameBut.of {f:Addr} {H H':Hp} (h:Same H H'):SameBut f H H':=fun b o _ e=>h b o e
theorem SameBut.upd {f:Addr} {H:Hp} (o:HO):SameBut f H (upd H f o):=fun b u h e=>by rw [upd_ne h]; exact e
theorem Same.new {H:Hp} {p:Addr} (h:H p=none) (o:HO):Same H (upd H p o):=fun b u q=>by rw [upd_ne (ne_of_none q h)]; exact q
theorem Same.but {f:Addr} {H0 H H':Hp} (a:Same H0 H) (n:H0 f=none) (b:SameBut f H H'):Same H0 H':=fun c o e=>b c o (ne_of_none e n) (a c o e)
def FeedAt (H:Hp) (f:Addr):Prop:=∃ own st:Int,H f=some (.lst [.int own,.int st])∧0≤own∧0≤st∧st≤2147483646
theorem FeedAt.ne {H:Hp} {f b:Addr} (F:FeedAt H f) (h:H b=none):b ≠ f:=by
  obtain ⟨o,s,e,_⟩:=F
  intro z
  subst z
  rw [h] at e
  cases e
theorem FeedAt.same {H H':Hp} {f:Addr} (F:FeedAt H f) (s:Same H H'):FeedAt H' f:=by
  obtain ⟨o,t,e,h⟩:=F
  exact ⟨o,t,s _ _ e,h⟩
inductive spTake (vs:List V) (H:Hp) (Q:VK) (u_3:XK):Prop where
  | mk:∀ (f:Addr) (m:Int),(vs=[.ref f,.int m])→(FeedAt H f)→(0 < m)→(m < 2 ^ 63)→(∀ (d:Int) (H':Hp),0≤d→d < m→FeedAt H' f→SameBut f H H'→Q (.int d) H')→spTake vs H Q u_3
inductive spFeed (K:PySem.W.Frag) (vs:List V) (H:Hp) (Q:VK) (u_3:XK):Prop where
  | mk:∀ (a:Addr) (ns:List Int) (k:Int),(vs=[.ref a,.int k])→(SqL K H a (ns.map V.int))→(ns.length≤63)→(0≤k)→(k < 1000000)→(∀ (p:Addr) (H':Hp),H p=none→Same H H'→FeedAt H' p→Q (.ref p) H')→spFeed K vs H Q u_3
inductive spLaw (K:PySem.W.Frag) (vs:List V) (H:Hp) (Q:VK) (u_3:XK):Prop where
  | mk:∀ (a:Addr) (ns:List Int),(vs=[.ref a])→(SqL K H a (ns.map V.int))→(ns.length≤63)→(∀ H',Q (.bl true) H')→spLaw K vs H Q u_3
theorem small {n:Nat} (h:n≤1000):n≤sizeLine:=Nat.le_of_lt (small1000 h)
theorem at_int {ns:List Int} {k:Int} (h0:0≤k) (h:k < (ns.length:Int)):∃ v:Int,atI (ns.map V.int) k=some (.int v):=by
  have hk:k.toNat < ns.length:=by omega
  have q:atI (ns.map V.int) ((k.toNat:Nat):Int)=some (.int ns[k.toNat]):=atI_nat (by rw [List.getElem?_map,List.getElem?_eq_getElem hk] <;> rfl)
  have ek:((k.toNat:Nat):Int)=k:=by omega
  rw [ek] at q
  exact ⟨_,q⟩
end L2
namespace L2
open PySem PySem.Spec PyProof.Rows
@[reducible] def cxComp (X:Cx) (N:List Str) (scope:Scope) (cl:List (Str × Addr)) (s:Shared) (H:Hp) (fp:List Addr):Cx where
  prog:=X.prog
  w:=X.w
  K:=X.K
  mg:=X.mg
  base:=X.base
  A:=X.A
  N:=N
  s₀:=s
  H₀:=H
  env:=compEnvC scope cl s.heap.objs.size X.env
  outer:=X.stack
  stack:=X.stack
  ex:=fp
  fn:=fun _=>false
  calm:=X.calm
  pn:=[]
  xe:=fun _ _=>False
structure CompScope (X:Cx) (x:Str) (N:List Str) (ix:List Nat) (scope:Scope) (cl:List (Str × Addr)):Prop where
  clos:closureFor scope X.env=pure cl
  nocell:∀ y ∈ scope.names,y.2 ≠ .cell
  kind:scope.kind=.function
  names:∀ y ∈ scope.names,y.2=.local→scope.names.lookup y.1=some .local
  own:scope.names.lookup x=some .local
  nd:(x::N).Nodup
  sub:∀ p ∈ cl,X.env.cells.lookup p.1=some p.2
  has:((relabel scope X.env).names.all fun p=>!(p.2 == .cell || p.2 == .free) || (cl.lookup p.1).isSome)=true
  outs:∀ (j:Nat) (y:Str),N[j]?=some y→(relabel scope X.env).names.lookup y=some .cell∧∃ k c,ix[j]?=some k∧X.N[k]?=some y∧cl.lookup y=some c∧X.env.scope.names.lookup y=some .cell
def outs (ix:List Nat) (σ:St):St:=ix.map fun k=>(σ[k]?).join
section
variable {X:Cx} {pins:List (Addr × Obj)} {σ:St} {x:Str} {N:List Str} {ix:List Nat} {scope:Scope} {cl:List (Str × Addr)} {fp:List Addr} {H3:Hp} {s3:Shared}
theorem CompScope.cells (S:CompScope X x N ix scope cl) {y:Str} {c:Addr} (h:cl.lookup y=some c):X.env.cells.lookup y=some c:=S.sub _ (PySem.mem_of_lookup h)
theorem comp_cx {M:List Str} (S:CompScope X x N ix scope cl) (I3:Inv X pins σ H3 s3) (hf:∀ b ∈ fp,FpOk X pins H3 b) (hlt:∀ b ∈ fp,b < s3.heap.objs.size):(cxComp X M scope cl s3 H3 fp).Ok where
  mod:=I3.ok.mod
  kind:=S.kind
  glob:=I3.ok.glob
  blt:=I3.ok.blt
  above:=Nat.le_refl _
  inj:=fun y z c h1 h2=>I3.ok.inj y z c (S.cells h1) (S.cells h2)
  has:=fun y hy=>by
    have q:=List.all_eq_true.mp S.has
    have hy:(relabel scope X.env).names.lookup y=some .cell∨(relabel scope X.env).names.lookup y=some .free:=hy
    have z:∀ k:NameKind,(k == .cell || k == .free)=true→(relabel scope X.env).names.lookup y=some k→∃ c,cl.lookup y=some c:=fun k hk e=>by
      have r:=q _ (PySem.mem_of_lookup e)
      rw [hk] at r
      exact Option.isSome_iff_exists.mp (by simpa using r)
    rcases hy with e | e
    · exact z _ (by rfl) e
    · exact z _ (by rfl) e
  cab:=fun _ _ h _=>nomatch h
  hd:=I3.ok.hd
  frames:=I3.ok.frames
  stk:=.inl rfl
  exf:=fun b hb=>⟨Nat.ne_of_lt (hlt b hb),fun y c e=>(hf b hb).2.2.2.2.1 y c (S.cells e)⟩
  bs:=fun b o e=>I3.bs b o e
  bsz:=Nat.le_trans I3.ok.bsz I3.sz
  noex:=fun b o e hb=>by
    rcases (hf b hb).2.2.2.1 with z | z
    · exact I3.ok.noex b o e z
    · exact absurd (Nat.lt_of_lt_of_le (Heap.lt_size e) (Nat.le_trans I3.ok.bsz z)) (Nat.lt_irrefl _)
  exfs:=fun b hb z=>by
    rcases List.mem_cons.mp (I3.stkSub b z) with e | e
    · exact (hf b hb).2.1 e
    · exact (hf b hb).2.2.1 e
  funs:=I3.stack
  frf:=I3.stkFree
theorem comp_start (pre:List Str) (S:CompScope X x N ix scope cl) (I3:Inv X pins σ H3 s3) (hf:∀ b ∈ fp,FpOk X pins H3 b) (hlt:∀ b ∈ fp,b < s3.heap.objs.size) (hix:ix.length=N.length) {h1:Heap} {t':Nat} {m:Str→Option Value}
    (hn:h1.Ns s3.heap.objs.size m) (hk:∀ b o,s3.heap.get? b=some o→h1.get? b=some o) (ht:1≤t':=by first | exact Nat.le_add_left 1 _ | exact Inv.tk (by assumption) | assumption | omega):Inv (cxComp X (pre++N) scope cl s3 H3 fp) [] (List.replicate pre.length none++outs ix σ) H3 { s3 with heap:=h1,toks:=t' } where
  ok:=comp_cx S I3 hf hlt
  os:=rfl
  bare:=I3.bare
  base:=Un.kept hk
  loc:=by
    refine ⟨m,hn,fun i y v h1' h2 h3=>?_⟩
    have h1'':(pre++N)[i]?=some y:=h1'
    have h2':(List.replicate pre.length none++outs ix σ)[i]?=some (some v):=h2
    by_cases hi:i < pre.length
    · rw [List.getElem?_append_left (by rw [List.length_replicate]; exact hi),List.getElem?_replicate,if_pos hi] at h2'
      cases h2'
    · have hj:=Nat.le_of_not_lt hi
      rw [List.getElem?_append_right hj] at h1''
      rw [List.getElem?_append_right (by rw [List.length_replicate]; exact hj),List.length_replicate] at h2'
      generalize i - pre.length=j at h1'' h2'
      obtain ⟨hr,k,c,e1,e2,e3,e4⟩:=S.outs j y h1''
      unfold outs at h2'
      rw [List.getElem?_map,e1] at h2'
      have h2'':(σ[k]?).join=some v:=Option.some.inj h2'
      have e5:σ[k]?=some (some v):=by
        cases q:σ[k]? with
        | none=>rw [q] at h2''; cases h2''
        | some o=>rw [q] at h2''; exact congrArg some h2''
      obtain ⟨m0,_,hl⟩:=I3.loc
      obtain ⟨u,r,l⟩:=hl k y v e2 e5 (.inr (.inl e4))
      refine ⟨u,r,.inr ⟨.inl hr,c,e3,?_⟩⟩
      rcases l with ⟨kk,_⟩ | ⟨_,c',ec,z⟩
      · have kk':X.env.scope.names.lookup y=some .local:=kk
        rw [e4] at kk'; cases kk'
      · rw [S.cells e3] at ec
        cases ec
        obtain ⟨o,ho,hd⟩:=z
        exact ⟨o,hk _ _ ho,hd⟩
  cell:=fun y c e=>by
    obtain ⟨v,o,ho,hd⟩:=I3.cell y c (S.cells e)
    exact ⟨v,o,hk _ _ ho,hd⟩
  free:=I3.hok.fresh (Nat.le_refl _)
  freeC:=fun y c e=>I3.freeC y c (S.cells e)
  pin:=fun p hp=>absurd (show p ∈ ([]:List (Addr × Obj)) from hp) (by simp)
  hok:=I3.hok.kept hk
  len:=by
    show (List.replicate pre.length (none:Option V)++outs ix σ).length=(pre++N).length
    simp [outs,hix]
  tk:=ht
theorem comp_back (I3:Inv X pins σ H3 s3) (hf:∀ b ∈ fp,FpOk X pins H3 b) {σ':St} {H':Hp} {s':Shared} {h'':Heap} {N':List Str} (J:Inv (cxComp X N' scope cl s3 H3 fp) [] σ' H' s') (hb:Heap.SameBut s3.heap.objs.size s'.heap h'') :
    Inv X pins σ H' { s' with heap:=h'' }:=by
  have ne:∀ b o,s3.heap.get? b=some o→b ≠ s3.heap.objs.size:=fun b o e=>Nat.ne_of_lt (Heap.lt_size e)
  have B:Un (frs X.stack) fp H3 H' s3.heap s'.heap:=J.base
  refine I3.call' (s':={ s' with heap:=h'' }) (ch:=fp) J.os ⟨fun b o e n h1 h2=>(hb.2 b (ne b o e)).trans (B.keep b o e n h1 h2),fun b o e n h1 h2=>?_,B.free,fun b o e h2=>?_,B.tups,B.frzs,B.tbls⟩ (fun b ob e=>?_) J.bare J.tk (fun b z=>?_)
  · obtain ⟨sl,q⟩:=B.slot b o e n h1 h2
    exact ⟨sl,(hb.2 b (ne b o e)).trans q⟩
  · obtain ⟨o',q⟩:=B.there b o e h2
    exact ⟨o',(hb.2 b (ne b o e)).trans q⟩
  · have fr:H' s3.heap.objs.size=none:=J.free
    refine (J.hok b ob e).stay (fun c w' hc q=>(hb.2 c ?_).trans q) (fun _ q=>q) fun _ _ q=>q
    rintro rfl
    rcases hc with rfl | hc
    · rw [fr] at e; cases e
    · rw [fr] at hc; cases hc
  · obtain ⟨_,h2,_,h4,h5,h6⟩:=hf b z
    exact ⟨h4,h2,h5,h6⟩
end
abbrev TBl:=St→Hp→(Hp→Prop)→VK→Prop
def PB (X:Cx) (ifs:List Expr) (elt:Expr) (tb:TBl):Prop :=
  ∀ (pins:List (Addr × Obj)) (s:Shared) (σ:St) (H:Hp) (skip:Hp→Prop) (keep:VK),Inv X pins σ H s→tb σ H skip keep →
    wpAny (model X.prog X.w) X.A (forIn ifs true fun c r=>if r=true then do let ok ← isTrue c X.env (eval c X.env); pure (ForInStep.yield ok) else pure (ForInStep.yield r))
      (fun ok s3=>if ok=true then wpAny (model X.prog X.w) X.A (eval elt X.env) (EP X pins σ keep) X.xe s3 else ∃ H',Inv X pins σ H' s3∧skip H') X.xe s
def tB0 (te:TE):TBl:=fun σ H _ keep=>te σ H keep
def tB1 (tc:TT) (te:TE):TBl:=fun σ H skip keep=>tc σ H fun b H1=>if b=true then te σ H1 keep else skip H1
theorem pb_all {X:Cx} {elt:Expr} {te:TE} (he:PE X elt te):PB X [] elt (tB0 te):=by
  intro pins s σ H skip keep I h
  refine wpAny_tests_nil ?_
  rw [if_pos rfl]
  exact he pins s σ H keep I h
theorem pb_if {X:Cx} {c elt:Expr} {tc:TT} {te:TE} (hc:PT X c tc) (he:PE X elt te):PB X [c] elt (tB1 tc te):=by
  intro pins s σ H skip keep I h
  refine wpAny_tests_one (thn (hc pins s σ H _ I h) fun b s1 ⟨H1,I1,q1⟩=>?_)
  cases b with
  | true =>
    rw [if_pos rfl] at q1 ⊢
    exact he pins s1 σ H1 keep I1 q1
  | false =>
    rw [if_neg (by decide)] at q1 ⊢
    exact ⟨H1,I1,q1⟩
def CompEx (J:It) (D:Addr) (ix:List Nat) (tb:TBl) (σ:St) (H:Hp) (Q:VK):Prop:=∃ W:Nat→Nat→Hp→Prop,(∃ m,W 0 m (upd H D (.lst [])))∧∀ i m H2,W i m H2 →
  (J.stop i H2∧Q (.ref D) H2)∨(J.go i H2∧∀ y H3,J.yld i H2 y H3→tb (some y::outs ix σ) H3 (fun H4=>∃ m',m' < m∧W (i+1) m' H4)
    fun z H4=>∃ ys,H4 D=some (.lst ys)∧ys.length < sizeLine∧∃ m',m' < m∧W (i+1) m' (upd H4 D (.lst (ys++[z]))))
def tCompR (wi:TI) (ix:List Nat) (tb:TBl):TE:=fun σ H Q=>wi σ H fun J H1=>∀ D,H1 D=none→CompEx J D ix tb σ H1 Q
section
variable {prog:Program} {w:World} {A:Around} {E:Value→Shared→Prop} {R:Result→Shared→Prop} {s:Shared}
theorem compLoop_go {elt target iter:Expr} {ifs:List Expr} {scope:Scope} {pos:Pos} {it acc:Value} {env:Env} (I:Nat→Shared→Prop)
    (turn:∀ n s,I n s→wpAny (model prog w) A (pyNext it) (fun r s1=>match r with
      | none=>R (.ok .next) s1
      | some v=>wpAny (model prog w) A (letOwnedTupleGo target it v) (fun _ s1'=>wpAny (model prog w) A (assign target env v) (fun _ s2 =>
          wpAny (model prog w) A (forIn ifs true fun c r=>if r=true then do let ok ← isTrue c env (eval c env); pure (ForInStep.yield ok) else pure (ForInStep.yield r)) (fun ok s3 =>
            if ok=true then wpAny (model prog w) A (eval elt env) (fun x s4 =>
              wpAny (model prog w) A (call (.builtin "list.append") [acc,x]) (fun _ s5=>∃ m,m < n∧I m s5) (fun _ _=>False) s4) (fun _ _=>False) s3
            else ∃ m,m < n∧I m s3) (fun _ _=>False) s2) (fun _ _=>False) s1') (fun _ _=>False) s1) (fun _ _=>False) s)
    (n:Nat) (h:I n s) :
    codeAny (model prog w) A (.compLoop (.ListComp elt [⟨target,iter,ifs,0⟩] scope pos) 0 it acc env) R s:=by
  have up:∀ {α:Type} {t:Sem α} {Q Q':α→Shared→Prop} {E':Value→Shared→Prop} {s:Shared},wpAny (model prog w) A t Q (fun _ _=>False) s→(∀ a s,Q a s→Q' a s)→wpAny (model prog w) A t Q' E' s :=
    fun h q=>wpAny_mono h q fun _ _ f=>f.elim
  refine codeAny_loop rfl I (fun n s hI=>?_) n h
  show wpAny _ A ((compTurn (.ListComp elt [⟨target,iter,ifs,0⟩] scope pos) 0 it acc env).onRaise (fun x=>do noteFrame x env; theTreesLotGoes x)) _ _ s
  refine wpAny_noted ?_
  rw [compTurn_list]
  refine wpAny_bind (wpAny_standAt (wpAny_bind (up (turn n s hI) fun r s1 h1=>?_)))
  cases r with
  | none=>exact wpAny_pure h1
  | some v =>
    refine wpAny_bind (up h1 fun _ s1' h1'=>?_)
    refine wpAny_bind (up h1' fun _ s2 h2=>wpAny_bind (up h2 fun ok s3 h3=>?_))
    cases ok with
    | false=>exact wpAny_pure ⟨rfl,h3⟩
    | true =>
      exact wpAny_bind (wpAny_bind (up h3 fun x s4 h4=>wpAny_bind (up h4 fun _ s5 h5=>wpAny_pure (wpAny_pure ⟨rfl,h5⟩))))
end
theorem comp_loop {Y:Cx} {tgt elt iter:Expr} {ifs:List Expr} {scope:Scope} {pos:Pos} {tb:TBl} {g:TG} {J:It} {fp:List Addr} {it D:Addr} {tn:Nat→Heap→Prop} {R:Result→Shared→Prop} {Pf:St→Prop} {W:Nat→Nat→Hp→Prop} {σ0:St} {H0:Hp} {s0:Shared} {m0:Nat}
    (hc:Y.calm=true) (hx:∀ v s,Y.xe v s→False) (T:Turn Y.prog Y.w Y.K tgt J fp it tn) (hg:PG Y tgt g) (hb:PB Y ifs elt tb) (stat:∀ {H':Hp},(∀ b ∈ fp,H' b=none)→∀ b ∈ fp,FpOk Y [] H' b)
    (turn:∀ i m H2,W i m H2→(J.stop i H2∧∀ σ' s',Pf σ'→Inv Y [] σ' H2 s'→R (.ok .next) s')∨(J.go i H2∧∀ y H3,J.yld i H2 y H3→∀ σ',Pf σ'→g y σ' H3 fun σ8 H8=>Pf σ8∧tb σ8 H8 (fun H4=>∃ m',m' < m∧W (i+1) m' H4)
      fun z H4=>∃ ys,H4 D=some (.lst ys)∧ys.length < sizeLine∧∃ m',m' < m∧W (i+1) m' (upd H4 D (.lst (ys++[z])))))
    (p0:Pf σ0) (I0:Inv Y [] σ0 H0 s0) (st0:tn 0 s0.heap) (f0:∀ b ∈ fp,H0 b=none) (w0:W 0 m0 H0) :
    codeAny (model Y.prog Y.w) Y.A (.compLoop (.ListComp elt [⟨tgt,iter,ifs,0⟩] scope pos) 0 (.ref it) (.ref D) Y.env) R s0:=by
  refine compLoop_go (fun n s'=>∃ i σ' H',Pf σ'∧Inv Y [] σ' H' s'∧tn i s'.heap∧(∀ b ∈ fp,H' b=none)∧W i n H') ?_ m0 ⟨0,_,_,p0,I0,st0,f0,w0⟩
  rintro n s5 ⟨i,σ5,H5,p5,I5,st5,fr5,w5⟩
  rcases turn i n H5 w5 with ⟨stop,qn⟩ | ⟨go,step⟩
  · refine thn (T.done Y rfl rfl rfl hc i [] s5 _ H5 _ I5 (stat fr5) st5 stop) fun r s6 ⟨hr,I6⟩=>?_
    subst hr
    exact qn _ _ p5 I6
  · refine thn (T.item Y rfl rfl rfl hc i [] s5 _ H5 _ I5 (stat fr5) st5 go) fun r s6 ⟨u,hr,h6⟩=>?_
    subst hr
    refine thn h6 fun _ s7 ⟨y,H7,I7,r7,y7,st7,fr7⟩=>?_
    refine wpAny_mono (hg _ s7 _ H7 y u _ (I7.pinned (stat fr7) (T.obj _ _ st7)) r7 (step y H7 y7 _ p5)) (fun _ s8 ⟨σ8,H8,I8,p8,q8⟩=>?_) hx
    have again:∀ {H9:Hp} {s9:Shared},Inv Y ([]++pinsAt fp s7.heap) σ8 H9 s9→(∃ m',m' < n∧W (i+1) m' H9) →
        ∃ m,m < n∧∃ i σ' H',Pf σ'∧Inv Y [] σ' H' s9∧tn i s9.heap∧(∀ b ∈ fp,H' b=none)∧W i m H':=fun {H9 s9} I9 ⟨m',hm,w9⟩=>by
      refine ⟨m',hm,i+1,_,H9,p8,I9.unpinned,T.keep _ _ _ st7 fun b hb o e=>(I9.pin (b,o) (List.mem_append_right _ (List.mem_append_right _ (mem_pinsAt hb e)))).1,fun b hb=>?_,w9⟩
      obtain ⟨o,e,d⟩:=T.obj _ _ st7 b hb
      exact (I9.pin (b,o) (List.mem_append_right _ (List.mem_append_right _ (mem_pinsAt hb e)))).2.1
    refine wpAny_mono (hb _ s8 _ _ _ _ I8 q8) (fun ok s9 q9=>?_) hx
    cases ok with
    | false =>
      rw [if_neg (by decide)] at q9 ⊢
      obtain ⟨H9,I9,q9⟩:=q9
      exact again I9 q9
    | true =>
      rw [if_pos rfl] at q9 ⊢
      refine wpAny_mono q9 (fun u s10 ⟨z,H10,I10,r10,ys,hy,hz,q10⟩=>?_) hx
      refine wpAny_mono (mt_append _ s10 _ H10 (.ref D) [z] (.ref D) [u] (fun _ H'=>∃ m',m' < n∧W (i+1) m' H') I10 rfl (.cons r10 .nil) ⟨_,ys,z,rfl,rfl,hy,hz,q10⟩) (fun _ s11 ⟨_,H11,I11,_,q11⟩=>?_) hx
      exact again I11 q11
structure Apart (X:Cx) (pins:List (Addr × Obj)) (H:Hp) (C:Addr):Prop where
  fr:H C=none
  lo:C ≠ X.env.locals
  sz:X.s₀.heap.objs.size≤C
  ce:∀ y c,X.env.cells.lookup y=some c→c ≠ C
  pi:∀ p ∈ X.pn++pins,p.1 ≠ C
theorem Apart.turn {X:Cx} {pins:List (Addr × Obj)} {σ:St} {H:Hp} {C:Addr} {s:Shared} {h':Heap} (a:Apart X pins H C) (I:Inv X pins σ H s) (hs:Heap.SameBut C s.heap h'):Inv X pins σ H { s with heap:=h' } :=
  I.turned (t':=s.toks) (fun b o ne e=>(hs.2 b ne).trans e) a.fr a.lo (.inr a.sz) a.ce a.pi
section
variable {X:Cx} {x:Str} {N:List Str} {ix:List Nat} {scope:Scope} {cl:List (Str × Addr)} {elt iter:Expr} {ifs:List Expr} {px pos:Pos} {wi:TI} {tb:TBl}
theorem comp_run (hc:X.calm=true) (S:CompScope X x N ix scope cl) (hix:ix.length=N.length) (hb:∀ s3 H3 fp,PB (cxComp X (x::N) scope cl s3 H3 fp) ifs elt tb)
    {pins:List (Addr × Obj)} {s2:Shared} {σ:St} {H2:Hp} {Q:VK} {it:Addr} {fp:List Addr} {tn:Nat→Heap→Prop} {J:It} {RR:Value→Addr→Result→Shared→Prop} {E:Value→Shared→Prop}
    (I2:Inv X pins σ H2 s2) (T:Turn X.prog X.w X.K (.Name x px) J fp it tn) (st2:tn 0 s2.heap) (f2:∀ b ∈ fp,FpOk X pins H2 b)
    (h:∀ D,H2 D=none→∃ W:Nat→Nat→Hp→Prop,(∃ m,W 0 m (upd H2 D (.lst [])))∧∀ i m H3,W i m H3 →
      (J.stop i H3∧Q (.ref D) H3)∨(J.go i H3∧∀ y H4,J.yld i H3 y H4→tb (some y::outs ix σ) H4 (fun H5=>∃ m',m' < m∧W (i+1) m' H5)
        fun z H5=>∃ ys,H5 D=some (.lst ys)∧ys.length < sizeLine∧∃ m',m' < m∧W (i+1) m' (upd H5 D (.lst (ys++[z])))))
    (hRR:∀ (D C:Addr) (H':Hp) (s':Shared) (m:Str→Option Value),s'.heap.Ns C m→Apart X pins H' C→Inv X pins σ H' s'→Q (.ref D) H'→RR (.ref D) C (.ok .next) s') :
    wpAny (model X.prog X.w) X.A (newList []) (fun acc s3=>wpAny (model X.prog X.w) X.A (newFunctionEnv scope X.env.globals cl [] X.env.qual none .none (some X.env)) (fun cenv s4 =>
      codeAny (model X.prog X.w) X.A (.compStart (.ListComp elt [⟨.Name x px,iter,ifs,0⟩] scope pos) 0 (.ref it) acc { cenv with scope:=relabel scope X.env }) (RR acc cenv.locals) s4) E s3) E s2:=by
  refine wpAny_newObj_type (wpAny_newFunctionEnv S.nocell (by intro y hy; simp at hy) (fun h1 hns1 hsb1=>?_) S.kind)
  dsimp only at hns1 hsb1 ⊢
  have I3:Inv X pins σ (upd H2 s2.heap.objs.size (.lst [])) { s2 with heap:=s2.heap.push { cls:=.type "list", dict:=none,data:=.seq ([]:List Value).toArray } }:=I2.lnew (its:=[]) (ys:=[]) (t':=s2.toks) .nil (Nat.zero_le _)
  have hD:H2 s2.heap.objs.size=none:=I2.fresh
  obtain ⟨W,⟨m0,w0⟩,turn⟩:=h s2.heap.objs.size hD
  have hltF:∀ b ∈ fp,b < s2.heap.objs.size:=fun b hb=>by
    obtain ⟨o,e,_⟩:=T.obj 0 _ st2 b hb
    exact Heap.lt_size e
  generalize hs3:({ s2 with heap:=s2.heap.push { cls:=.type "list", dict:=none,data:=.seq ([]:List Value).toArray } }:Shared)=s3 at I3
  have eh:s2.heap.push { cls:=.type "list", dict:=none,data:=.seq ([]:List Value).toArray }=s3.heap:=by rw [← hs3]
  have et:s2.toks=s3.toks:=by rw [← hs3]
  rw [eh] at hns1 hsb1 ⊢
  have sz3:s3.heap.objs.size=s2.heap.objs.size+1:=by rw [← eh,Heap.size_push]
  have hlt3:∀ b ∈ fp,b < s3.heap.objs.size:=fun b hb=>Nat.lt_of_lt_of_le (hltF b hb) (by rw [sz3]; exact Nat.le_succ _)
  have f3:∀ b ∈ fp,FpOk X pins (upd H2 s2.heap.objs.size (.lst [])) b:=fun b hb=>by
    obtain ⟨q1,q2⟩:=f2 b hb
    exact ⟨by rw [upd_ne (Nat.ne_of_lt (hltF b hb))]; exact q1,q2⟩
  have up:∀ b o,s3.heap.get? b=some o→h1.get? b=some o:=fun b o e=>hsb1.extBut b o (Nat.ne_of_lt (Heap.lt_size e)) (Heap.get?_push_of_some _ e)
  have old:∀ b o,s2.heap.get? b=some o→h1.get? b=some o:=fun b o e=>up b o (by rw [← eh]; exact Heap.get?_push_of_some _ e)
  have es:({ s2 with heap:=h1,toks:=s2.toks+([]:List (Str × Value)).length }:Shared)={ s3 with heap:=h1,toks:=s2.toks+([]:List (Str × Value)).length }:=by rw [← hs3]
  rw [es]
  have I4:Inv (cxComp X (x::N) scope cl s3 (upd H2 s2.heap.objs.size (.lst [])) fp) [] (none::outs ix σ) (upd H2 s2.heap.objs.size (.lst [])) { s3 with heap:=h1,toks:=s2.toks+([]:List (Str × Value)).length } :=
    comp_start [x] S I3 f3 hlt3 hix hns1 up
  have st4:tn 0 h1:=T.keep 0 _ _ st2 fun b _ o e=>old b o e
  have loop:codeAny (model X.prog X.w) X.A (.compLoop (.ListComp elt [⟨.Name x px,iter,ifs,0⟩] scope pos) 0 (.ref it) (.ref s2.heap.objs.size) (compEnvC scope cl s3.heap.objs.size X.env)) (RR (.ref s2.heap.objs.size) s3.heap.objs.size)
      { s3 with heap:=h1,toks:=s2.toks+([]:List (Str × Value)).length }:=by
    have k:=comp_cx (M:=x::N) S I3 f3 hlt3
    refine comp_loop (Y:=cxComp X (x::N) scope cl s3 (upd H2 s2.heap.objs.size (.lst [])) fp) (Pf:=fun σ'=>∃ v0,σ'=v0::outs ix σ) hc (fun _ _ z=>z) T (pg_name (i:=0) S.nd rfl (.inl (lookup_relabel_local S.own)) (.inr (lookup_relabel_local S.own))) (hb _ _ _) (fun hn b hb=>⟨hn b hb,(k.exf b hb).1,k.exfs b hb,.inl hb,(k.exf b hb).2,fun p hp=>absurd (show p ∈ ([]:List (Addr × Obj)) from hp) (by simp)⟩) (fun i m H5 w5=>(turn i m H5 w5).imp (fun ⟨stop,qn⟩=>⟨stop,fun σ' s6 _ I6=>?_⟩) (fun ⟨go,step⟩=>⟨go,fun y H3 y7 σ' ⟨v0,e⟩=>by
        subst e
        exact ⟨⟨_,rfl⟩,step y H3 y7⟩⟩)) ⟨none,rfl⟩ I4 st4 (fun b hb=>(f3 b hb).1) w0
    obtain ⟨m6,hn6,_⟩:=I6.loc
    exact hRR _ _ H5 s6 m6 hn6 ⟨I6.free,Ne.symm (Nat.ne_of_lt I3.lt),I3.sz,fun y c e z=>by
      obtain ⟨v,q⟩:=I3.cell y c e
      exact absurd q.lt (by rw [z]; exact Nat.lt_irrefl _),fun p hp z=>absurd (Heap.lt_size (I3.pin p hp).1) (by rw [z]; exact Nat.lt_irrefl _)⟩ (comp_back I3 f3 I6 (Heap.SameBut.refl _ _)) qn
  exact codeAny_compStart_list loop (T.self _ 0 _ _ _ st4 loop)
theorem pe_comp (hc:X.calm=true) (S:CompScope X x N ix scope cl) (hix:ix.length=N.length) (hi:PI X (.Name x px) iter wi) (hb:∀ s3 H3 fp,PB (cxComp X (x::N) scope cl s3 H3 fp) ifs elt tb)
    (hs:∀ x,foldedSetIterable iter X.env x=pure x:=by intro _; rfl):PE X (.ListComp elt [⟨.Name x px,iter,ifs,0⟩] scope pos) (tCompR wi ix tb):=by
  intro pins s σ H Q I h
  rw [eval_ListComp]
  refine wpAny_comprehension_free (use:=none) rfl hs S.clos S.kind S.names (thn (hi pins s σ H _ I h) fun xv s1 h1=>thn h1 fun itv s2 h2=>?_)
  obtain ⟨it,fp,tn,J,H2,rfl,I2,T,st2,f2,R⟩:=h2
  refine comp_run hc S hix hb (RR:=fun acc C=>compPost (model X.prog X.w) X.A X.xe none (EP X pins σ Q) acc C) I2 T st2 f2 R ?_
  intro D C H' s' m hn ap I' q
  exact ⟨m,hn,fun h'' hb''=>⟨.ref D,H',ap.turn I' hb'',rfl,q⟩⟩
theorem ps_comp {i:Nat} {y:Str} {py spos:Pos} (hN:X.N.Nodup) (hi0:X.N[i]?=some y) (hx:Loc X.env.scope y) (hc:X.calm=true) (S:CompScope X x N ix scope cl) (hix:ix.length=N.length) (hi:PI X (.Name x px) iter wi) (hb:∀ s3 H3 fp,PB (cxComp X (x::N) scope cl s3 H3 fp) ifs elt tb)
    (hsw:swapsWith (.ListComp elt [⟨.Name x px,iter,ifs,0⟩] scope pos) (some (.Name y py)) spos.line X.env=pure true:=by with_unfolding_all rfl)
    (hs:∀ x,foldedSetIterable iter X.env x=pure x:=by intro _; rfl) (hf:X.fn y=true∨X.env.scope.names.lookup y=some .local:=by first | exact .inl rfl | exact .inr rfl | assumption) :
    PS X (.Assign [.Name y py] (.ListComp elt [⟨.Name x px,iter,ifs,0⟩] scope pos) spos) (fun D σ H=>tCompR wi ix tb σ H fun v H'=>D.nx (σ.set i (some v)) H'):=by
  intro pins s σ H Dn I h
  rw [exec_Assign_Name_used _ _ _ _ hsw]
  refine wpAny_bind (wpAny_standAt (wpAny_bind ?_))
  show wpAny _ X.A (do let _ ← comprehension (.ListComp elt [⟨.Name x px,iter,ifs,0⟩] scope pos) scope X.env _ (newList []) false (eval iter X.env) (some (assign (.Name y py) X.env))) _ _ s
  refine wpAny_bind (wpAny_mono (wpAny_comprehension_free (use:=some (assign (.Name y py) X.env)) (Q:=fun _ s'=>SP X pins Dn .next s') rfl hs S.clos S.kind S.names
    (thn (hi pins s σ H _ I h) fun xv s1 h1=>thn h1 fun itv s2 h2=>?_)) (fun _ s' hq=>wpAny_pure (wpAny_pure hq)) fun _ _ e=>e)
  obtain ⟨it,fp,tn,J,H2,rfl,I2,T,st2,f2,R⟩:=h2
  refine comp_run hc S hix hb (RR:=fun acc C=>compPost (model X.prog X.w) X.A X.xe (some (assign (.Name y py) X.env)) (fun _ s'=>SP X pins Dn .next s') acc C) (Q:=fun v H'=>Dn.nx (σ.set i (some v)) H') I2 T st2 f2 R ?_
  intro D C H' s' m hn ap I' q
  show wpAny _ X.A (assign (.Name y py) X.env (.ref D)) _ _ _
  refine wpAny_assign_Name (store_ok2 I' hN hi0 hx (v:=.ref D) rfl (fun s'' I'' hsb=>?_) hf)
  obtain ⟨a,hsb,ha⟩:=hsb
  have ne:C ≠ a:=by
    rcases ha with z | z
    · rw [z]; exact ap.lo
    · exact Ne.symm (ap.ce y a z)
  exact ⟨m,hn.sameBut hsb ne,fun h'' hb''=>⟨_,H',ap.turn I'' hb'',q⟩⟩
end
end L2
namespace L2
open PySem PySem.Spec PyProof.Rows
section
variable {X:Cx} {pins:List (Addr × Obj)} {σ:St} {H:Hp} {s:Shared} {h':Heap}
theorem Inv.turnedNew {t':Nat} {ch:List Addr} {T:Addr} {o:HO} (I:Inv X pins σ H s) (k:∀ b u,b ∉ ch→s.heap.get? b=some u→h'.get? b=some u) (hf:∀ b ∈ ch,FpOk X pins H b) (hT:s.heap.objs.size≤T)
    (new:ObjOk X.prog X.w (upd H T o) h' T o) (ht:1≤t':=by first | exact Nat.le_add_left 1 _ | exact Inv.tk (by assumption) | assumption | omega):Inv X pins σ (upd H T o) { s with heap:=h',toks:=t' }:=by
  have nit:∀ b u,H b=some u→b ∉ ch:=fun b u e z=>by rw [(hf b z).1] at e; cases e
  have hn:H T=none:=I.hok.fresh hT
  have lt:∀ b u,s.heap.get? b=some u→b ≠ T:=fun b u e=>Nat.ne_of_lt (Nat.lt_of_lt_of_le (Heap.lt_size e) hT)
  refine I.step (g':=s.gens) (d':=s.drawn) (ch:=ch) (fun b hb=>?_) (fun b u _ _ hc e _=>k b u hc e) (fun b u _ _ hc e _=>⟨u.slots,k b u hc e⟩) (fun b u _ e n=>by rw [upd_ne (lt b u e)]; exact n) (fun b u hc e=>⟨u,k b u hc e⟩)
    (fun b xs e=>by rw [upd_ne (ne_of_none e hn)]; exact e) (fun b ob u e=>by rw [upd_ne (ne_of_none e hn)]; exact e) (fun b ps e=>⟨#[],by rw [upd_ne (ne_of_none e hn),e]; simp⟩) (fun m hm=>?_) (fun b u e=>?_) I.bare ht
  · obtain ⟨_,h2,_,h4,h5,h6⟩:=hf b hb
    exact ⟨h4,h2,h5,h6⟩
  · obtain ⟨ob,es,ep,ho,r⟩:=hm
    exact ⟨ob,es,ep,k _ ob (fun z=>(hf _ z).2.1 rfl) ho,r⟩
  · by_cases hb:b=T
    · subst hb
      rw [upd_same] at e
      cases e
      exact new
    · rw [upd_ne hb] at e
      refine (I.hok b u e).stay (fun c v hc q=>k c v ?_ q) (fun c q=>by rw [upd_ne (ne_of_none q hn)]; exact q) fun c xs q=>by rw [upd_ne (ne_of_none q hn)]; exact q
      rcases hc with z | z
      · rw [z]; exact nit b u e
      · exact nit c _ z
theorem Inv.turnedL {t':Nat} {ch:List Addr} (I:Inv X pins σ H s) (k:∀ b u,b ∉ ch→s.heap.get? b=some u→h'.get? b=some u) (hf:∀ b ∈ ch,FpOk X pins H b) (ht:1≤t':=by first | exact Nat.le_add_left 1 _ | exact Inv.tk (by assumption) | assumption | omega):Inv X pins σ H { s with heap:=h',toks:=t' }:=by
  have nit:∀ b u,H b=some u→b ∉ ch:=fun b u e z=>by rw [(hf b z).1] at e; cases e
  refine I.step (g':=s.gens) (d':=s.drawn) (ch:=ch) (fun b hb=>?_) (fun b u _ _ hc e _=>k b u hc e) (fun b u _ _ hc e _=>⟨u.slots,k b u hc e⟩) (fun _ _ _ _ n=>n) (fun b u hc e=>⟨u,k b u hc e⟩)
    (fun _ _ e=>e) (fun _ _ _ e=>e) (fun b ps e=>⟨#[],by rw [e]; simp⟩) (fun m hm=>?_) (fun b u e=>?_) I.bare ht
  · obtain ⟨_,h2,_,h4,h5,h6⟩:=hf b hb
    exact ⟨h4,h2,h5,h6⟩
  · obtain ⟨ob,es,ep,ho,r⟩:=hm
    exact ⟨ob,es,ep,k _ ob (fun z=>(hf _ z).2.1 rfl) ho,r⟩
  · refine (I.hok b u e).stay (fun c v hc q=>k c v ?_ q) (fun _ q=>q) fun _ _ q=>q
    rcases hc with z | z
    · rw [z]; exact nit b u e
    · exact nit c _ z
end
def Ite (K:PySem.W.Frag) (a:Addr):It :=
  ⟨fun i H=>∃ xs x,SqL K H a xs∧xs[i]?=some x,fun i H y H'=>∃ t,y=.ref t∧H t=none∧∀ xs x,SqL K H a xs→xs[i]?=some x→H'=upd H t (.tup [.int i,x]),fun i H=>∃ xs,SqL K H a xs∧xs.length≤i⟩
theorem turn_enum {P:Program} {w:World} {K:PySem.W.Frag} {elts:List Expr} {k:Nat} {pos:Pos} (a e it:Addr) (hei:e ≠ it) :
    Turn P w K (.Tuple elts k pos) (Ite K a) [e,it] e (fun i h=>(∃ old,IsEnum h e it i old)∧h.IsListIter it a i) where
  mem:=by simp
  obj:=fun i h st b hb=>by
    obtain ⟨⟨old,he⟩,o,e2,c,d⟩:=st
    rcases List.mem_cons.mp hb with z | z
    · subst z
      exact ⟨_,he,fun v z=>nomatch z⟩
    · have z':=List.mem_singleton.mp z
      subst z'
      exact ⟨o,e2,fun v z=>by rw [d] at z; cases z⟩
  keep:=fun i h h' st k=>by
    obtain ⟨⟨old,he⟩,hit⟩:=st
    exact ⟨⟨old,k e (by simp) _ he⟩,hit.at fun o x=>k it (by simp) o x⟩
  item:=by
    intro X hP hw hK hc i pins s σ H E I hf st hg
    subst hP hw hK
    obtain ⟨xs,x,hq,hx⟩:=hg
    obtain ⟨its,rv,p,hz⟩:=I.list hq
    obtain ⟨u,hu,ru⟩:=rv.get hx
    obtain ⟨⟨old,he⟩,hit⟩:=st
    refine wpAny_pyNext_enum_item he hit p.isList (x:=u) (by simpa using hu) hei fun h1 ho hit1 hT hsz hk=>?_
    refine ⟨_,rfl,wpAny_letOwnedTupleGo_enum ho fun h2 he2 hs2=>?_⟩
    have elt:e < s.heap.objs.size:=Heap.lt_size he
    have hT2:h2.get? s.heap.objs.size=some { cls:=.type "tuple", data:=.seq #[.int i s.toks,u] }:=(hs2.2 _ (Ne.symm (Nat.ne_of_lt elt))).trans hT
    have I2:Inv X pins σ (upd H s.heap.objs.size (.tup [.int i,x])) { s with heap:=h2,toks:=s.toks+1 }:=by
      refine I.turnedNew (ch:=[e,it]) (fun b ob hb eb=>?_) hf (Nat.le_refl _) ⟨by show 2≤sizeLine; decide,[.int i s.toks,u],.cons ⟨_,rfl⟩ (.cons ru .nil),⟨_,hT2,rfl,_,rfl⟩,_,hT2,rfl⟩
      have b1:b ≠ e:=fun z=>hb (by simp [z])
      have b2:b ≠ it:=fun z=>hb (by simp [z])
      exact (hs2.2 b b1).trans (hk b ob b1 b2 eb)
    refine ⟨.ref s.heap.objs.size,_,I2,rfl,⟨_,rfl,I.hok.fresh (Nat.le_refl _),fun ys y hy hyi=>?_⟩,⟨⟨u,by simpa using he2⟩,hit1.at fun o z=>(hs2.2 it (Ne.symm hei)).trans z⟩,fun b hb=>?_⟩
    · have e1:=I.list_inj hy hq
      subst e1
      rw [hx] at hyi
      cases hyi
      rfl
    · have z:=hf b hb
      have hlt:b < s.heap.objs.size:=by
        rcases List.mem_cons.mp hb with y | y
        · rw [y]; exact elt
        · rw [List.mem_singleton.mp y]
          obtain ⟨o,e2,_⟩:=hit
          exact Heap.lt_size e2
      rw [upd_ne (Nat.ne_of_lt hlt)]
      exact z.1
  done:=by
    intro X hP hw hK hc i pins s σ H E I hf st hg
    subst hP hw hK
    obtain ⟨xs,hq,hx⟩:=hg
    obtain ⟨its,rv,p,hz⟩:=I.list hq
    obtain ⟨⟨old,he⟩,hit⟩:=st
    have hl:=rv.length
    exact wpAny_pyNext_enum_end (I.ok.hd hc) he hit p.isList (Array.getElem?_eq_none (by simp; omega)) fun h' eb=>⟨rfl,I.turnedL (t':=s.toks) (ch:=[e,it]) (fun b o hb eo=>eb b o (fun z=>hb (by simp [z])) eo) hf⟩
  self:=fun _ _ _ _ _ st h=>by
    obtain ⟨⟨old,he⟩,_⟩:=st
    exact wpAny_pyIter_enum he h
section
variable {X:Cx} {elts:List Expr} {k:Nat} {tpos:Pos}
inductive ZiEnum (K:PySem.W.Frag) (R:(It→Hp→Prop)) (x:V) (H1:Hp):Prop where
  | mk:∀ a,(x=.ref a)→((∃ xs,SqL K H1 a xs))→(R (Ite K a) H1)→ZiEnum K R x H1
def iEnum (K:PySem.W.Frag) (tl:TE):TI:=fun σ H R=>tl σ H fun x H1=>ZiEnum K R x H1
theorem pi_enum {l:Expr} {tl:TE} {p pos:Pos} (hg:Gl X "enumerate") (hm:X.mg "enumerate" = none) (hl:PE X l tl) (hs:starEach [l] X.env=[(false,eval l X.env)]:=by rfl) :
    PI X (.Tuple elts k tpos) (.Call (.Name "enumerate" p) [l] [] pos) (iEnum X.K tl):=by
  intro pins s σ H R I h
  refine Call_ (ld_blt I hg hm boot_enumerate (PyProof.Rows.callWith_type1 ?_ hs rfl))
  rw [hs]
  show wpAny _ _ (spliced ((false,eval l X.env)::backTo pos (starEach [] X.env))) _ _ s
  refine Calls.spliced_cons (thn (hl pins s σ H _ I h) fun u s1 ⟨x,H1,I1,r1,a,ex,⟨xs,hq⟩,q⟩=>?_)
  subst ex
  cases r1
  obtain ⟨its,rv,p,hz⟩:=I1.list hq
  refine Calls.spliced_nil ?_
  refine call_enumerate_list p.isList fun h' he hit hsz hk=>?_
  refine wpAny_pyIter_enum he ?_
  have I2:Inv X pins σ H1 { s1 with heap:=h' }:=I1.kept (t':=s1.toks) hk
  refine ⟨s1.heap.objs.size+1,[s1.heap.objs.size+1,s1.heap.objs.size],_,_,H1,rfl,I2,turn_enum a _ _ (Nat.ne_of_gt (Nat.lt_succ_self _)),⟨⟨_,he⟩,hit⟩,fun b hb=>?_,q⟩
  rcases List.mem_cons.mp hb with z | z
  · rw [z]
    exact I1.fpOk (Nat.le_succ _) (I1.hok.fresh (Nat.le_succ _))
  · rw [List.mem_singleton.mp z]
    exact I1.fpOk (Nat.le_refl _) (I1.hok.fresh (Nat.le_refl _))
end
theorem for_enum {K:PySem.W.Frag} {a:Addr} {xs:List V} {g:TG} {tb:TS} {D:Ends} {σ:St} {H:Hp} (Pv:Nat→St→Hp→Prop) (h0:Pv 0 σ H) (hl:∀ i σ H,i≤xs.length→Pv i σ H→SqL K H a xs)
    (hs:∀ i x σ H t,xs[i]?=some x→Pv i σ H→H t=none→g (.ref t) σ (upd H t (.tup [.int i,x])) fun σ2 H2=>tb { D with nx:=Pv (i+1),ct:=Pv (i+1),bk:=D.nx } σ2 H2) (hd:∀ σ H,Pv xs.length σ H→D.nx σ H) :
    ∃ W:Nat→Nat→St→Hp→Prop,(∃ m,W 0 m σ H)∧∀ i m σ H,W i m σ H →
      ((Ite K a).stop i H∧D.nx σ H)∨((Ite K a).go i H∧∃ N:St→Hp→Prop,(∀ σ' H',N σ' H'→∃ m',m' < m∧W (i+1) m' σ' H')∧∀ x H',(Ite K a).yld i H x H'→g x σ H' fun σ2 H2=>tb { D with nx:=N,ct:=N,bk:=D.nx } σ2 H2):=by
  refine ⟨fun i m σ H=>m=xs.length - i∧i≤xs.length∧Pv i σ H,⟨xs.length,by simp,Nat.zero_le _,h0⟩,?_⟩
  rintro i m σ H ⟨rfl,hi,p⟩
  have q:=hl i σ H hi p
  by_cases hlt:i < xs.length
  · refine .inr ⟨⟨xs,xs[i],q,by simp [hlt]⟩,Pv (i+1),fun σ' H' p'=>⟨xs.length - (i+1),by omega,rfl,hlt,p'⟩,fun x H' y=>?_⟩
    obtain ⟨t,rfl,ht,e⟩:=y
    have e':=e xs xs[i] q (by simp [hlt])
    subst e'
    exact hs i xs[i] σ H t (by simp [hlt]) p ht
  · have e:i=xs.length:=by omega
    subst e
    exact .inl ⟨⟨xs,q,Nat.le_refl _⟩,hd σ H p⟩
end L2
namespace L2
open PySem PySem.Spec PyProof.Rows
mutual
inductive Rep (K:PySem.W.Frag) (H:Hp):V→PyData→Prop
  | non:Rep K H .non .none
  | bl (b:Bool):Rep K H (.bl b) (.bool b)
  | int (i:Int):Rep K H (.int i) (.int i)
  | str (x:Str):Rep K H (.str x) (.str x)
  | tup {a:Addr} {xs:List V} {ds:List PyData}:SqT K H a xs→RepAll K H xs ds→Rep K H (.ref a) (.tuple ds)
  | lst {a:Addr} {xs:List V} {ds:List PyData}:SqL K H a xs→RepAll K H xs ds→Rep K H (.ref a) (.list ds)
inductive RepAll (K:PySem.W.Frag) (H:Hp):List V→List PyData→Prop
  | nil:RepAll K H [] []
  | cons {x:V} {d:PyData} {xs:List V} {ds:List PyData}:Rep K H x d→RepAll K H xs ds→RepAll K H (x::xs) (d::ds)
end
section
variable {X:Cx} {pins:List (Addr × Obj)} {σ:St} {H:Hp} {s:Shared}
mutual
theorem Rep.reads (I:Inv X pins σ H s):∀ {x:V} {d:PyData} {v:Value},Rep X.K H x d→RelV x v→∃ as,Reads s.heap v d as
  | _,_,v,.non,r=>by cases (show v=Value.none from r); exact ⟨_,Reads.none⟩
  | _,_,v,.bl b,r=>by cases (show v=Value.bool b from r); exact ⟨_,Reads.bool b⟩
  | _,_,v,.int i,r=>by obtain ⟨t,e⟩:=(show ∃ t,v=Value.int i t from r); cases e; exact ⟨_,Reads.int i t⟩
  | _,_,v,.str x,r=>by obtain ⟨t,e⟩:=(show ∃ t,v=Value.str x (t+1) from r); cases e; exact ⟨_,Reads.str x (t+1)⟩
  | _,_,v,.tup (a:=a) h q,r=>by
    cases (show v=Value.ref a from r)
    obtain ⟨its,rv,⟨o,ho,hc,n,hd⟩,_⟩:=I.tuple h
    obtain ⟨as,z⟩:=RepAll.reads I q rv
    exact ⟨_,reads_tuple_at ho hc hd (by simpa using z)⟩
  | _,_,v,.lst (a:=a) h q,r=>by
    cases (show v=Value.ref a from r)
    obtain ⟨its,rv,⟨o,n,ho,hc,_,hd⟩,_⟩:=I.list h
    obtain ⟨as,z⟩:=RepAll.reads I q rv
    exact ⟨_,reads_list_at ho hc hd (by simpa using z)⟩
theorem RepAll.reads (I:Inv X pins σ H s):∀ {xs:List V} {ds:List PyData} {vs:List Value},RepAll X.K H xs ds→Vals xs vs→∃ as,ReadsAll s.heap vs ds as
  | _,_,_,.nil,.nil=>⟨_,ReadsAll.nil⟩
  | _,_,_,.cons h q,.cons r rs=>by
    obtain ⟨as,z⟩:=Rep.reads I h r
    obtain ⟨bs,y⟩:=RepAll.reads I q rs
    exact ⟨_,ReadsAll.cons z y⟩
end
end
section
variable {X:Cx}
inductive rEqD (K:PySem.W.Frag) (x:V) (y:V) (H:Hp) (Q:VK):Prop where
  | mk:∀ d e,(Rep K H x d)→(Rep K H y e)→(SeqAt.shaped d=true)→(SeqAt.shaped e=true)→(Q (.bl (PyData.eqv d e)) H)→rEqD K x y H Q
inductive rNeD (K:PySem.W.Frag) (x:V) (y:V) (H:Hp) (Q:VK):Prop where
  | mk:∀ d e,(Rep K H x d)→(Rep K H y e)→(SeqAt.shaped d=true)→(SeqAt.shaped e=true)→(Q (.bl (!PyData.eqv d e)) H)→rNeD K x y H Q
theorem op_eqD (hu:X.A.units+64 < cLine):OpR X (compareOp .Eq) (rEqD X.K):=by
  intro pins s σ H x y v u Q I rx ry h
  obtain ⟨d,e,hd,he,sd,se,q⟩:=h
  obtain ⟨as,r1⟩:=Rep.reads I hd rx
  obtain ⟨bs,r2⟩:=Rep.reads I he ry
  exact eq_dataH r1 r2 sd se hu ⟨.bl _,H,I,rfl,q⟩
inductive rCatT0 (K:PySem.W.Frag) (x:V) (y:V) (H:Hp) (Q:VK):Prop where
  | mk:∀ a b ys,(x=.ref a)→(y=.ref b)→(SqT K H a [])→(SqT K H b ys)→(Q (.ref b) H)→rCatT0 K x y H Q
end
end L2
namespace L2
open PySem PySem.Spec PyProof.Rows
section
variable {prog:Program} {w:World} {A:Around} {E:Value→Shared→Prop} {s:Shared} {R:Result→Shared→Prop}
end
section
variable {X:Cx}
inductive ZtListRev (K:PySem.W.Frag) (Q:VK) (x:V) (H1:Hp):Prop where
  | mk:∀ l ys,(x=.ref l)→(SqL K H1 l ys)→(∀ p,H1 p=none→Q (.ref p) (upd H1 p (.lst ys.reverse)))→ZtListRev K Q x H1
def tListRev (K:PySem.W.Frag) (te:TE):TE:=fun σ H Q=>te σ H fun x H1=>ZtListRev K Q x H1
end
end L2
namespace L2
open PySem PySem.Spec PyProof.Rows
def Nx (n i:Nat) (Pv:Nat→Hp→Prop) (H:Hp):Prop:=∃ m',m' < n - i∧(m'=n - (i+1)∧i+1≤n∧Pv (i+1) H)
theorem Nx.of {n i:Nat} {Pv:Nat→Hp→Prop} {H:Hp} (h:i < n) (p:Pv (i+1) H):Nx n i Pv H:=⟨n - (i+1),by omega,rfl,h,p⟩
theorem comp_tup {K:PySem.W.Frag} {a D:Addr} {xs:List V} {ix:List Nat} {tb:TBl} {σ:St} {H:Hp} {Q:VK} (Pv:Nat→Hp→Prop) (h0:Pv 0 (upd H D (.lst []))) (hl:∀ i H,i≤xs.length→Pv i H→SqT K H a xs)
    (hs:∀ i x H,xs[i]?=some x→Pv i H→tb (some x::outs ix σ) H (Nx xs.length i Pv) fun z H'=>∃ ys,H' D=some (.lst ys)∧ys.length < sizeLine∧Nx xs.length i Pv (upd H' D (.lst (ys++[z])))) (hd:∀ H,Pv xs.length H→Q (.ref D) H) :
    CompEx (Itt K a) D ix tb σ H Q:=by
  refine ⟨fun i m H=>m=xs.length - i∧i≤xs.length∧Pv i H,⟨xs.length,by simp,Nat.zero_le _,h0⟩,?_⟩
  rintro i m H ⟨rfl,hi,p⟩
  have q:=hl i H hi p
  by_cases hlt:i < xs.length
  · refine .inr ⟨⟨xs,xs[i],q,by simp [hlt]⟩,fun x H' y=>?_⟩
    obtain ⟨e,y⟩:=y
    subst e
    exact hs i x _ (y xs q) p
  · have e:i=xs.length:=by omega
    subst e
    exact .inl ⟨⟨xs,q,Nat.le_refl _⟩,hd H p⟩
theorem comp_list {K:PySem.W.Frag} {a D:Addr} {xs:List V} {ix:List Nat} {tb:TBl} {σ:St} {H:Hp} {Q:VK} (Pv:Nat→Hp→Prop) (h0:Pv 0 (upd H D (.lst []))) (hl:∀ i H,i≤xs.length→Pv i H→SqL K H a xs)
    (hs:∀ i x H,xs[i]?=some x→Pv i H→tb (some x::outs ix σ) H (Nx xs.length i Pv) fun z H'=>∃ ys,H' D=some (.lst ys)∧ys.length < sizeLine∧Nx xs.length i Pv (upd H' D (.lst (ys++[z])))) (hd:∀ H,Pv xs.length H→Q (.ref D) H) :
    CompEx (Itl K a) D ix tb σ H Q:=by
  refine ⟨fun i m H=>m=xs.length - i∧i≤xs.length∧Pv i H,⟨xs.length,by simp,Nat.zero_le _,h0⟩,?_⟩
  rintro i m H ⟨rfl,hi,p⟩
  have q:=hl i H hi p
  by_cases hlt:i < xs.length
  · refine .inr ⟨⟨xs,xs[i],q,by simp [hlt]⟩,fun x H' y=>?_⟩
    obtain ⟨e,y⟩:=y
    subst e
    exact hs i x _ (y xs q) p
  · have e:i=xs.length:=by omega
    subst e
    exact .inl ⟨⟨xs,q,Nat.le_refl _⟩,hd H p⟩
theorem comp_range {lo:Int} {n:Nat} {D:Addr} {ix:List Nat} {tb:TBl} {σ:St} {H:Hp} {Q:VK} (Pv:Nat→Hp→Prop) (h0:Pv 0 (upd H D (.lst [])))
    (hs:∀ i H,i < n→Pv i H→tb (some (.int (lo+i))::outs ix σ) H (Nx n i Pv) fun z H'=>∃ ys,H' D=some (.lst ys)∧ys.length < sizeLine∧Nx n i Pv (upd H' D (.lst (ys++[z])))) (hd:∀ H,Pv n H→Q (.ref D) H) :
    CompEx (Itr lo n) D ix tb σ H Q:=by
  refine ⟨fun i m H=>m=n - i∧i≤n∧Pv i H,⟨n,by simp,Nat.zero_le _,h0⟩,?_⟩
  rintro i m H ⟨rfl,hi,p⟩
  by_cases hlt:i < n
  · refine .inr ⟨hlt,fun x H' y=>?_⟩
    obtain ⟨e,y⟩:=y
    subst e y
    exact hs i _ hlt p
  · have e:i=n:=by omega
    subst e
    exact .inl ⟨Nat.le_refl _,hd H p⟩
theorem CompScope.closed {X:Cx} {x:Str} {scope:Scope} (c1:closureFor scope X.env=pure []) (c2:∀ y ∈ scope.names,y.2 ≠ .cell) (c3:scope.kind=.function) (c4:∀ y ∈ scope.names,y.2=.local→scope.names.lookup y.1=some .local)
    (c5:scope.names.lookup x=some .local) (c6:((relabel scope X.env).names.all fun p=>!(p.2 == .cell || p.2 == .free) || ((([]:List (Str × Addr))).lookup p.1).isSome)=true):CompScope X x [] [] scope [] where
  clos:=c1
  nocell:=c2
  kind:=c3
  names:=c4
  own:=c5
  nd:=by simp
  sub:=fun p hp=>absurd hp (by simp)
  has:=c6
  outs:=fun j y h=>by simp at h
end L2
namespace L2
open PySem PySem.Spec PyProof.Rows
section
variable {X:Cx}
theorem ix_tupK (K:PySem.W.Frag) (hK:X.K=K:=by rfl):IxR X (rIxT K):=by subst hK; exact ix_tup
end
end L2
namespace L2
open PySem PySem.Spec PyProof.Rows
def Its (z:Str):It:=⟨fun i _=>i < z.cps.size,fun i H x H'=>H'=H∧∃ c,z.cps[i]?=some c∧x=.str ⟨#[c]⟩,fun i _=>z.cps.size≤i⟩
theorem walks_strU {prog:Program} {w:World} {A:Around} (hh:A.handled=none) (I:Addr) (x:Str) (t:Tok):Walks prog w A I [I] [I] x.cps.size (SignAt x) (fun i h=>h.IsStrIter I (strIterType x) x t i):=by
  unfold strIterType
  split
  · exact Walks.strAscii hh I x t
  · exact Walks.strWide hh I x t
theorem strU_item {prog:Program} {w:World} {A:Around} {I:Addr} {x:Str} {t:Tok} {i:Nat} {s:Shared} {Q:Option Value→Shared→Prop} {E:Value→Shared→Prop} (st:s.heap.IsStrIter I (strIterType x) x t i) (hi:i < x.cps.size)
    (hQ:∀ c h',x.cps[i]?=some c→h'.IsStrIter I (strIterType x) x t (i+1)→(∀ b o,b ∉ [I]→s.heap.get? b=some o→h'.get? b=some o)→Q (some (.str ⟨#[c]⟩ s.toks)) { s with heap:=h',toks:=s.toks+1 }):wpAny (model prog w) A (pyNext (.ref I)) Q E s:=by
  have hx:x.cps[i]?=some x.cps[i]:=by simp [hi]
  unfold strIterType at st hQ
  split at st
  · rename_i e
    refine wpAny_pyNext_ascii_item st hx fun h' hit' hs'=>hQ _ h' hx (by rw [if_pos e]; exact hit') fun b o hb e=>hs'.extBut b o (fun h=>hb (by simp [h])) e
  · rename_i e
    refine wpAny_pyNext_wide_item st hx fun h' hit' hs'=>hQ _ h' hx (by rw [if_neg e]; exact hit') fun b o hb e=>hs'.extBut b o (fun h=>hb (by simp [h])) e
theorem turn_str {P:Program} {w:World} {K:PySem.W.Frag} {y:Str} {py:Pos} (z:Str) (t:Tok) (it:Addr):Turn P w K (.Name y py) (Its z) [it] it (fun i h=>i≤z.cps.size∧h.IsStrIter it (strIterType z) z t i) where
  mem:=by simp
  obj:=fun i h st b hb=>by
    have e:b=it:=by simpa using hb
    subst e
    obtain ⟨_,o,e,c,d⟩:=st
    exact ⟨o,e,fun v z=>by rw [d] at z; cases z⟩
  keep:=fun i h h' st k=>by
    obtain ⟨hi,o,e,r⟩:=st
    exact ⟨hi,o,k it (by simp) o e,r⟩
  item:=by
    intro X hP hw hK hc i pins s σ H E I hf st hg
    subst hP hw hK
    obtain ⟨f0,f1,f2,f3,f4,f5⟩:=hf it (by simp)
    refine strU_item st.2 hg fun c h' hcx hst hk=>?_
    have I1:Inv X pins σ H { s with heap:=h',toks:=s.toks+1 }:=I.turned (fun b o hb e=>hk b o (by simpa using hb) e) f0 f1 f3 f4 f5
    exact ⟨_,rfl,wpAny_of_eq (a:=()) rfl ⟨.str ⟨#[c]⟩,H,I1,relS I.tk,⟨rfl,c,hcx,rfl⟩,⟨hg,hst⟩,fun b hb=>(hf b hb).1⟩⟩
  done:=by
    intro X hP hw hK hc i pins s σ H E I hf st hg
    subst hP hw hK
    obtain ⟨f0,f1,f2,f3,f4,f5⟩:=hf it (by simp)
    have e:i=z.cps.size:=Nat.le_antisymm st.1 hg
    subst e
    refine wpAny_with_toks I.tk ((walks_strU (I.ok.hd hc) it z t).done s _ _ st.2 fun h' tk hk le=>?_)
    exact ⟨rfl,I.turned (fun b o hb e=>hk b o (by simpa using hb) e) f0 f1 f3 f4 f5 le⟩
  self:=fun A i s Q E st h=>by
    obtain ⟨_,st⟩:=st
    unfold strIterType at st
    split at st
    · exact wpAny_pyIter_striter_ascii st h
    · exact wpAny_pyIter_striter_wide st h
section
variable {X:Cx} {y:Str} {py:Pos}
inductive ZiStr (R:(It→Hp→Prop)) (x:V) (H1:Hp):Prop where
  | mk:∀ z,(x=.str z)→(R (Its z) H1)→ZiStr R x H1
def iStr (tl:TE):TI:=fun σ H R=>tl σ H fun x H1=>ZiStr R x H1
theorem pi_str {l:Expr} {tl:TE} (hl:PE X l tl):PI X (.Name y py) l (iStr tl):=by
  intro pins s σ H R I h
  refine thn (hl pins s σ H _ I h) fun v s1 ⟨x,H1,I1,r1,q1⟩=>?_
  obtain ⟨z,e,q⟩:=q1
  subst e
  obtain ⟨t,rfl⟩:=r1
  refine wpAny_pyIter_strU ?_
  refine ⟨s1.heap.objs.size,[s1.heap.objs.size],_,_,H1,rfl,I1.kept (t':=s1.toks) fun b o e=>Heap.get?_push_of_some _ e,turn_str z _ _,⟨Nat.zero_le _,_,Heap.get?_push_size _ rfl,rfl,rfl⟩,fun b hb=>?_,q⟩
  have e:b=s1.heap.objs.size:=by simpa using hb
  subst e
  exact I1.fpOk (Nat.le_refl _) (I1.hok.fresh (Nat.le_refl _))
end
theorem for_str {z:Str} {g:TG} {tb:TS} {D:Ends} {σ:St} {H:Hp} (Pv:Nat→St→Hp→Prop) (h0:Pv 0 σ H)
    (hs:∀ i c σ H,z.cps[i]?=some c→Pv i σ H→g (.str ⟨#[c]⟩) σ H fun σ2 H2=>tb { D with nx:=Pv (i+1),ct:=Pv (i+1),bk:=D.nx } σ2 H2) (hd:∀ σ H,Pv z.cps.size σ H→D.nx σ H) :
    ∃ W:Nat→Nat→St→Hp→Prop,(∃ m,W 0 m σ H)∧∀ i m σ H,W i m σ H →
      ((Its z).stop i H∧D.nx σ H)∨((Its z).go i H∧∃ N:St→Hp→Prop,(∀ σ' H',N σ' H'→∃ m',m' < m∧W (i+1) m' σ' H')∧∀ x H',(Its z).yld i H x H'→g x σ H' fun σ2 H2=>tb { D with nx:=N,ct:=N,bk:=D.nx } σ2 H2):=by
  refine ⟨fun i m σ H=>m=z.cps.size - i∧i≤z.cps.size∧Pv i σ H,⟨z.cps.size,by simp,Nat.zero_le _,h0⟩,?_⟩
  rintro i m σ H ⟨rfl,hi,p⟩
  by_cases hlt:i < z.cps.size
  · refine .inr ⟨hlt,Pv (i+1),fun σ' H' p'=>⟨z.cps.size - (i+1),by omega,rfl,hlt,p'⟩,fun x H' y=>?_⟩
    obtain ⟨e,c,hc,rfl⟩:=y
    subst e
    exact hs i c σ _ hc p
  · have e:i=z.cps.size:=by omega
    subst e
    exact .inl ⟨Nat.le_refl _,hd σ H p⟩
theorem comp_str {z:Str} {D:Addr} {ix:List Nat} {tb:TBl} {σ:St} {H:Hp} {Q:VK} (Pv:Nat→Hp→Prop) (h0:Pv 0 (upd H D (.lst [])))
    (hs:∀ i c H,z.cps[i]?=some c→Pv i H→tb (some (.str ⟨#[c]⟩)::outs ix σ) H (Nx z.cps.size i Pv) fun u H'=>∃ ys,H' D=some (.lst ys)∧ys.length < sizeLine∧Nx z.cps.size i Pv (upd H' D (.lst (ys++[u])))) (hd:∀ H,Pv z.cps.size H→Q (.ref D) H) :
    CompEx (Its z) D ix tb σ H Q:=by
  refine ⟨fun i m H=>m=z.cps.size - i∧i≤z.cps.size∧Pv i H,⟨z.cps.size,by simp,Nat.zero_le _,h0⟩,?_⟩
  rintro i m H ⟨rfl,hi,p⟩
  by_cases hlt:i < z.cps.size
  · refine .inr ⟨hlt,fun x H' y=>?_⟩
    obtain ⟨e,c,hc,rfl⟩:=y
    subst e
    exact hs i c _ hc p
  · have e:i=z.cps.size:=by omega
    subst e
    exact .inl ⟨Nat.le_refl _,hd H p⟩
section
variable {X:Cx}
theorem len_else {c:Prop} [Decidable c] {y z:Str} {n:Nat} (hc:¬ c) (h:(if c then y else z).length≤n):z.length≤n:=by rw [if_neg hc] at h; exact h
theorem post_val_or_strT {s:Shared} {c:Prop} [Decidable c] {y z:Str} {t:Nat} {Q:Value→Shared→Prop} (hs:1≤s.toks) (hl:¬ c→z.length≤sizeLine) (h:∀ u k,1≤k→RelV (.str (if c then y else z)) u→Q u { s with toks:=k }) :
    (if c then Made.val (.str y (t+1)) else Made.str z).post Q s:=by
  by_cases hc:c
  · rw [if_pos hc]
    have h':=h (.str y (t+1)) s.toks hs (by rw [if_pos hc]; exact ⟨_,rfl⟩)
    exact h'
  · rw [if_neg hc]
    have h':=h (.str z s.toks) (s.toks+1) (Nat.le_add_left 1 _) (by rw [if_neg hc]; exact relS hs)
    exact ⟨hl hc,h'⟩
inductive rSlS (x:V) (lo:Option Int) (hi:Option Int) (H:Hp) (Q:VK):Prop where
  | mk:∀ z,(x=.str z)→(z.length≤sizeLine)→(Q (.str (Txt.slice z lo hi)) H)→rSlS x lo hi H Q
theorem sl_str:SlR X rSlS:=by
  intro pins s σ H x v vl vu lo hi sl Q I rx hs pl pu h
  obtain ⟨z,rfl,hz,q⟩:=h
  obtain ⟨t,rfl⟩:=rx
  refine ⟨"str", _,F.slot_str_getitem.lookup,typeIs_str _ _ _,?_⟩
  have fin:∀ u k,1≤k→RelV (.str (Txt.slice z lo hi)) u→EP X pins σ Q u { s with toks:=k }:=fun u k le r=>⟨.str _,H,I.tok k le,r,q⟩
  obtain ⟨o,ho,hc,hd⟩:=hs
  cases pl with
  | none =>
    cases pu with
    | none=>exact wpAny_getItem_str_slice (l:=none) (u:=none) (st:=none) ⟨o,ho,hc,hd⟩ rfl (post_val_or_strT I.tk (fun hc=>len_else hc (Nat.le_trans (Txt.slice_le z _ _) hz)) fin)
    | int j u=>exact wpAny_getItem_str_slice (l:=none) (u:=some (j,u)) (st:=none) ⟨o,ho,hc,hd⟩ rfl (post_val_or_strT I.tk (fun hc=>len_else hc (Nat.le_trans (Txt.slice_le z _ _) hz)) fin)
  | int i u' =>
    cases pu with
    | none=>exact wpAny_getItem_str_slice (l:=some (i,u')) (u:=none) (st:=none) ⟨o,ho,hc,hd⟩ rfl (post_val_or_strT I.tk (fun hc=>len_else hc (Nat.le_trans (Txt.slice_le z _ _) hz)) fin)
    | int j u=>exact wpAny_getItem_str_slice (l:=some (i,u')) (u:=some (j,u)) (st:=none) ⟨o,ho,hc,hd⟩ rfl (post_val_or_strT I.tk (fun hc=>len_else hc (Nat.le_trans (Txt.slice_le z _ _) hz)) fin)
inductive rStarts (x:V) (vs:List V) (H:Hp) (Q:VK):Prop where
  | mk:∀ z u,(x=.str z)→(vs=[.str u])→(Q (.bl (Txt.startswith z u)) H)→rStarts x vs H Q
theorem mt_startswith:MtR X "str.startswith" rStarts:=by
  intro pins s σ H x vs v us Q I rx rv h
  obtain ⟨z,u,rfl,rfl,q⟩:=h
  obtain ⟨t,rfl⟩:=rx
  obtain ⟨w',rfl,t',rfl⟩:=rv.one
  exact SC.startswith ⟨.bl _,H,I,rfl,q⟩
theorem strVals_of:∀ {zs:List Str} {us:List Value},Vals (zs.map V.str) us→∃ l:List (Str × Tok),us=strValues l∧l.map (·.1)=zs∧∀ p ∈ l,1≤p.2
  | [],_,.nil=>⟨[],rfl,rfl,fun p h=>nomatch h⟩
  | z::_,_,.cons ⟨t,e⟩ r=>by
    obtain ⟨l,e2,e3,h⟩:=strVals_of r
    subst e e2
    exact ⟨(z,t+1)::l,rfl,by rw [List.map_cons,e3],fun p hp=>(List.mem_cons.mp hp).elim (fun z=>by rw [z]; exact Nat.le_add_left 1 t) (h p)⟩
theorem post_joinT {s:Shared} {sep:Str} {Q:Value→Shared→Prop} (hs:1≤s.toks):∀ l:List (Str × Tok),(∀ p ∈ l,1≤p.2)→(Txt.join sep (l.map (·.1))).length≤sizeLine→(∀ u k,1≤k→RelV (.str (Txt.join sep (l.map (·.1)))) u→Q u { s with toks:=k })→(joinMade sep l).post Q s
  | [],_,hl,h=>⟨hl,h _ _ (Nat.le_add_left 1 _) (relS hs)⟩
  | [p],hp,_,h=>h (.str p.1 p.2) s.toks hs (relS (hp p (List.mem_singleton.mpr rfl)))
  | _::_::_,_,hl,h=>⟨hl,h _ _ (Nat.le_add_left 1 _) (relS hs)⟩
theorem joinT {prog:Program} {w:World} {A:Around} {E:Value→Shared→Prop} {s:Shared} {x:Str} {t:Tok} {Q:Value→Shared→Prop} {D:Addr} {l:List (Str × Tok)} {texts:List Str} (hl:s.heap.IsList D (strValues l).toArray) (ht:l.map (·.1)=texts) (hp:∀ p ∈ l,1≤p.2) (hok:JoinOk x texts=true) (hs:1≤s.toks)
    (hq:∀ u k,1≤k→RelV (.str (Txt.join x texts)) u→Q u { s with toks:=k }):wpAny (model prog w) A (call (.builtin "str.join") [.str x t,.ref D]) Q E s:=by
  subst ht
  unfold JoinOk at hok
  rw [Bool.not_eq_true'] at hok
  exact call_meets F.slot_str_join (typeIs_str _ _ _) F.entry_str_join (F.args_str_join_2 _ _) (meets_str_join_list x t D l hok) ⟨hl,post_joinT hs l hp (joinFit_length hok) hq⟩
inductive rJoin (K:PySem.W.Frag) (x:V) (vs:List V) (H:Hp) (Q:VK):Prop where
  | mk:∀ z a ys,(x=.str z)→(vs=[.ref a])→(SqL K H a (ys.map V.str))→(z.length≤16)→((ys.map (·.length)).sum+ys.length≤1048576)→(Q (.str (Txt.join z ys)) H)→rJoin K x vs H Q
theorem mt_join:MtR X "str.join" (rJoin X.K):=by
  intro pins s σ H x vs v us Q I rx rv h
  obtain ⟨z,a,ys,rfl,rfl,hq,hz,hw,q⟩:=h
  obtain ⟨t,rfl⟩:=rx
  obtain ⟨w',rfl,ra⟩:=rv.one
  cases ra
  obtain ⟨its,r',p,_⟩:=I.list hq
  obtain ⟨l,e,ht,hp⟩:=strVals_of r'
  subst e
  exact joinT p.isList ht hp (joinOk_of (total_of_weight hw hz)) I.tk fun u k le ru=>⟨.str _,H,I.tok k le,ru,q⟩
inductive rMulS (x:V) (y:V) (H:Hp) (Q:VK):Prop where
  | mk:∀ z n,(x=.str z)→(y=.int n)→(MulOk z n)→(Q (.str (Txt.mul z n)) H)→rMulS x y H Q
theorem op_mulS:OpR X (binaryOp .Mult) rMulS:=by
  intro pins s σ H x y v u Q I rx ry h
  obtain ⟨z,n,rfl,rfl,hok,q⟩:=h
  obtain ⟨t,rfl⟩:=rx
  obtain ⟨t',rfl⟩:=ry
  refine P.mul_str hok.1 hok.2.1 hok.2.2 ?_
  by_cases h1:n < 1
  · have e:Txt.mul z n=Str.empty:=if_pos h1
    rw [if_pos h1]
    exact ⟨by decide,.str _,H,I.tok _,relS I.tk,by rw [← e]; exact q⟩
  · have e:Txt.mul z n=if (n == 1 || z.length == 0)=true then z else ⟨(List.replicate n.toNat z.cps).foldl (·++·) #[]⟩:=if_neg h1
    rw [if_neg h1]
    exact post_val_or_strT I.tk (fun hc=>fits_reps (hok.2.2 h1 (by simpa using hc))) fun u k le ru=>⟨.str _,H,I.tok k le,ru,by rw [← e]; exact q⟩
inductive rAll (K:PySem.W.Frag) (xs:List V) (H:Hp) (Q:VK):Prop where
  | mk:∀ (a:Addr) (bs:List Bool),(xs=[.ref a])→(SqL K H a (bs.map V.bl))→(Q (.bl (bs.all id)) H)→rAll K xs H Q
theorem bools_get:∀ {bs:List Bool} {us:List Value} {i:Nat} {v:Value},Vals (bs.map V.bl) us→us[i]?=some v→∃ b,bs[i]?=some b∧v=.bool b
  | [],_,_,_,.nil,h=>by simp at h
  | b::_,_,0,_,.cons r _,h=>by
    simp at h
    subst h
    exact ⟨b,rfl,r⟩
  | _::_,_,i+1,_,.cons _ t,h=>by
    obtain ⟨b,h1,h2⟩:=bools_get (i:=i) t (by simpa using h)
    exact ⟨b,by simpa using h1,h2⟩
theorem call_all (hc:X.calm=true):CallR X (.builtin "all") (rAll X.K):=by
  intro pins s σ H xs us Q I r h
  obtain ⟨a,bs,rfl,hq,q⟩:=h
  obtain ⟨u,rfl,ru⟩:=vals1 r
  cases ru
  obtain ⟨its,r',p,hz⟩:=I.list hq
  have hl:=r'.length
  rw [List.length_map] at hl
  have hlt:a < s.heap.objs.size:=by obtain ⟨o,n,e,_⟩:=p; exact Heap.lt_size e
  refine wpAny_with_toks I.tk (call_all_walk (wpAny_pyIter_list p.isList ?_))
  refine ⟨s.heap.objs.size,_,_,_,_,_,fun i=>bs[i]?.getD true,rfl,Walks.list (A:=X.A.in1) (I.ok.hd hc) s.heap.objs.size a (Nat.ne_of_lt hlt) its.toArray,⟨⟨_,Heap.get?_push_size _ rfl,rfl,rfl⟩,p.isList.push _⟩,?_,?_⟩
  · intro i v s' Q' E' hP hQ
    obtain ⟨b,hb,rfl⟩:=bools_get r' (i:=i) (v:=v) (by simpa using hP)
    have hQ':Q' b s':=by simpa [hb] using hQ
    exact wpAny_truthy_bool hQ'
  · intro h' tk hk le
    have le:1≤tk:=le
    have e:(List.range its.toArray.size).all (fun i=>bs[i]?.getD true)=bs.all id:=by
      rw [List.size_toArray,← hl]
      rw [Bool.eq_iff_iff,List.all_eq_true,List.all_eq_true]
      constructor
      · intro h b hb
        obtain ⟨i,hi,e⟩:=List.getElem_of_mem hb
        have:=h i (List.mem_range.mpr hi)
        rw [List.getElem?_eq_getElem hi] at this
        simpa [e] using this
      · intro h i hi
        have hi':=List.mem_range.mp hi
        rw [List.getElem?_eq_getElem hi']
        exact h _ (List.getElem_mem hi')
    rw [e]
    refine ⟨.bl _,H,?_,rfl,q⟩
    have I1:Inv X pins σ H { s with heap:=s.heap.push { cls:=.type "list_iterator", data:=.fields #[.ref a,.int 0 0] } }:=I.kept (t':=s.toks) fun b o e=>Heap.get?_push_of_some _ e
    refine I1.turnedL (t':=tk) (ch:=[s.heap.objs.size]) (fun b o hb e=>hk b o (by simpa using hb) e) fun b hb=>?_
    rw [List.mem_singleton.mp hb]
    exact I.fpOk (Nat.le_refl _) (I.hok.fresh (Nat.le_refl _))
end
end L2
namespace L2
open PySem PySem.Spec PyProof.Rows
inductive Consts:List Expr→List Str→Prop
  | nil:Consts [] []
  | cons {x:Str} {j:Nat} {pos:Pos} {es:List Expr} {zs:List Str}:Consts es zs→Consts (.Constant (.str x) j pos::es) (x::zs)
theorem pa_consts {X:Cx}:∀ {es:List Expr} {zs:List Str},Consts es zs→PA X es (fun _ H Q=>Q (zs.map V.str) H)
  | _,_,.nil=>pa_nil
  | _,_,.cons h=>fun pos pins s σ H Q I q=>pa_cons pe_str (pa_consts h) (by rfl) pos pins s σ H Q I q
theorem CompScope.one {X:Cx} {x y:Str} {scope:Scope} {k:Nat} {c:Addr} (c1:closureFor scope X.env=pure [(y,c)]) (c2:∀ y ∈ scope.names,y.2 ≠ .cell) (c3:scope.kind=.function) (c4:∀ y ∈ scope.names,y.2=.local→scope.names.lookup y.1=some .local)
    (c5:scope.names.lookup x=some .local) (nd:[x,y].Nodup) (hc:X.env.cells.lookup y=some c) (c6:((relabel scope X.env).names.all fun p=>!(p.2 == .cell || p.2 == .free) || (([(y,c)]:List (Str × Addr)).lookup p.1).isSome)=true)
    (hr:(relabel scope X.env).names.lookup y=some .cell) (hk:X.N[k]?=some y) (hs:X.env.scope.names.lookup y=some .cell):CompScope X x [y] [k] scope [(y,c)] where
  clos:=c1
  nocell:=c2
  kind:=c3
  names:=c4
  own:=c5
  nd:=nd
  sub:=fun p hp=>by
    rw [List.mem_singleton.mp hp]
    exact hc
  has:=c6
  outs:=fun j z h=>by
    cases j with
    | zero =>
      have e:y=z:=Option.some.inj h
      subst e
      exact ⟨hr,k,c,rfl,hk,by simp [List.lookup],hs⟩
    | succ j=>simp at h
theorem CompScope.two {X:Cx} {x y z:Str} {scope:Scope} {k l:Nat} {c d:Addr} {cl:List (Str × Addr)} (c1:closureFor scope X.env=pure cl) (c2:∀ y ∈ scope.names,y.2 ≠ .cell) (c3:scope.kind=.function) (c4:∀ y ∈ scope.names,y.2=.local→scope.names.lookup y.1=some .local)
    (c5:scope.names.lookup x=some .local) (nd:[x,y,z].Nodup) (hcl:cl=[(z,d),(y,c)]∨cl=[(y,c),(z,d)]) (hc:X.env.cells.lookup y=some c) (hd:X.env.cells.lookup z=some d) (c6:((relabel scope X.env).names.all fun p=>!(p.2 == .cell || p.2 == .free) || (cl.lookup p.1).isSome)=true)
    (hr:(relabel scope X.env).names.lookup y=some .cell) (hk:X.N[k]?=some y) (hs:X.env.scope.names.lookup y=some .cell)
    (hr2:(relabel scope X.env).names.lookup z=some .cell) (hk2:X.N[l]?=some z) (hs2:X.env.scope.names.lookup z=some .cell):CompScope X x [y,z] [k,l] scope cl where
  clos:=c1
  nocell:=c2
  kind:=c3
  names:=c4
  own:=c5
  nd:=nd
  sub:=fun p hp=>by
    rcases hcl with rfl | rfl
    all_goals
      rcases List.mem_cons.mp hp with e | e
      · rw [e]; assumption
      · rw [List.mem_singleton.mp e]; assumption
  has:=c6
  outs:=fun j w h=>by
    have nyz:y ≠ z:=fun e=>by simp [e] at nd
    match j,h with
    | 0,h =>
      have e:y=w:=Option.some.inj h
      subst e
      refine ⟨hr,k,c,rfl,hk,?_,hs⟩
      rcases hcl with rfl | rfl
      · have:(y == z)=false:=by simpa using nyz
        simp [List.lookup,this]
      · simp [List.lookup]
    | 1,h =>
      have e:z=w:=Option.some.inj h
      subst e
      refine ⟨hr2,l,d,rfl,hk2,?_,hs2⟩
      rcases hcl with rfl | rfl
      · simp [List.lookup]
      · have:(z == y)=false:=by simpa using Ne.symm nyz
        simp [List.lookup,this]
    | j+2,h=>simp at h
end L2
namespace Mine
open PySem L2
def NmOk (x:Str):Prop:=x.length≤20∧(∀ c ∈ x.cps.toList,97≤c∧c≤122)∧x ≠ "aa"
theorem mem_join0 {zs:List Str} {c:Nat} (h:c ∈ (Txt.join "" zs).cps.toList):∃ z ∈ zs,c ∈ z.cps.toList:=by
  have e:Txt.join "" zs=Str.join "" zs:=by
    cases zs with
    | nil=>rfl
    | cons a r=>exact StrLaws.glued_cons "" r a
  rw [e] at h
  rcases (PyProof.Rows.mem_join "" c zs).mp h with h | ⟨_,h⟩
  · exact h
  · have e0:(("" : Str)).cps.toList=[]:=by decide +kernel
    rw [e0] at h
    cases h
inductive Tr where
  | is (x:Str) | yes | no | not (a:Tr) | bin (w:Str) (a b:Tr)
def Tr.size:Tr→Nat
  | .is _=>1 | .yes=>1 | .no=>1 | .not a=>a.size+1 | .bin _ a b=>a.size+b.size+1
def Tr.depth:Tr→Nat
  | .is _=>1 | .yes=>1 | .no=>1 | .not a=>a.depth+1 | .bin _ a b=>max a.depth b.depth+1
def Tr.names:Tr→List Str
  | .is x=>[x] | .yes=>[] | .no=>[] | .not a=>a.names | .bin _ a b=>a.names++b.names
def joinW:List Str:=["and", "or", "odd", "same"]
def Tr.ok (ns:List Str):Tr→Prop
  | .is x=>x ∈ ns | .yes=>True | .no=>True | .not a=>a.ok ns | .bin w a b=>w ∈ joinW∧a.ok ns∧b.ok ns
inductive TreeAt (H:Hp):V→Tr→Prop
  | is {a:Addr} {x:Str}:H a=some (.tup [.str "is", .str x])→TreeAt H (.ref a) (.is x)
  | yes {a:Addr}:H a=some (.tup [.str "yes"])→TreeAt H (.ref a) .yes
  | no {a:Addr}:H a=some (.tup [.str "no"])→TreeAt H (.ref a) .no
  | not {a:Addr} {v:V} {t:Tr}:H a=some (.tup [.str "not", v])→TreeAt H v t→TreeAt H (.ref a) (.not t)
  | bin {a:Addr} {w:Str} {v u:V} {t r:Tr}:H a=some (.tup [.str w,v,u])→TreeAt H v t→TreeAt H u r→TreeAt H (.ref a) (.bin w t r)
abbrev KeepT (H H':Hp):Prop:=∀ a xs,H a=some (.tup xs)→H' a=some (.tup xs)
theorem keepT_same {H H':Hp} (s:Same H H'):KeepT H H':=fun a _ h=>s a _ h
theorem keepT_feed {H H':Hp} {f:Addr} (F:FeedAt H f) (s:SameBut f H H'):KeepT H H':=fun a xs h=>s a _ (fun z=>by
  obtain ⟨o,t,e,_⟩:=F
  rw [z,e] at h
  cases h) h
def NamesAt (H:Hp) (a:Addr) (ns:List Str):Prop:=H a=some (.lst (ns.map V.str))∨H a=some (.tup (ns.map V.str))
inductive spNames (vs:List V) (H:Hp) (Q:VK) (u_3:XK):Prop where
  | mk:∀ (f:Addr) (m:Int),(vs=[.ref f,.int m])→(FeedAt H f)→(0≤m)→(m≤6)→(∀ (l:Addr) (ns:List Str) (H':Hp),H l=none→l ≠ f→H' l=some (.lst (ns.map V.str))→ns.length=m.toNat→(∀ x ∈ ns,NmOk x)→FeedAt H' f→SameBut f H H'→Q (.ref l) H')→spNames vs H Q u_3
inductive spTree (n:Nat) (vs:List V) (H:Hp) (Q:VK) (u_3:XK):Prop where
  | mk:∀ (f a:Addr) (room deep:Int) (ns:List Str),(vs=[.ref f,.ref a,.int room,.int deep])→(FeedAt H f)→(NamesAt H a ns)→(ns.length≤6)→(1≤room)→(room≤100)→(1≤deep)→(deep+1≤(n:Int)+1)→(∀ (v:V) (t:Tr) (H':Hp),FeedAt H' f→SameBut f H H'→TreeAt H' v t→t.ok ns→(t.size:Int)≤room→(t.depth:Int)≤deep→Q v H')→spTree n vs H Q u_3
theorem at_in {α:Type} {l:List α} {i:Int} (h0:0≤i) (h:i < (l.length:Int)):∃ v,atI l i=some v∧v ∈ l:=by
  have hk:i.toNat < l.length:=by omega
  have q:atI l ((i.toNat:Nat):Int)=some l[i.toNat]:=atI_nat (List.getElem?_eq_getElem hk)
  have ek:((i.toNat:Nat):Int)=i:=by omega
  rw [ek] at q
  exact ⟨_,q,List.getElem_mem hk⟩
end Mine
namespace L2
open PySem PySem.Spec PyProof.Rows
section
variable {X:Cx}
def rngV (lo:Int) (n:Nat):List Int:=(List.range n).map fun i:Nat=>lo+(i:Int)
inductive ZtListRng (Q:VK) (vs:(List V)) (H1:Hp):Prop where
  | mk:∀ i j:Int,(vs=[.int i,.int j])→((-(2 ^ 62)≤i∧i < 2 ^ 62∧-(2 ^ 62)≤j∧j < 2 ^ 62))→(j - i≤1000)→(∀ p,H1 p=none→Q (.ref p) (upd H1 p (.lst ((rngV i (j - i).toNat).map V.int))))→ZtListRng Q vs H1
def tListRng (ta:TA):TE:=fun σ H Q=>ta σ H fun vs H1=>ZtListRng Q vs H1
inductive rSum (K:PySem.W.Frag) (xs:List V) (H:Hp) (Q:VK):Prop where
  | mk:∀ (a:Addr) (ns:List Int),(xs=[.ref a])→(SqL K H a (ns.map V.int))→((∀ n ∈ ns,0≤n))→(ns.sum < 2 ^ 63)→(Q (.int ns.sum) H)→rSum K xs H Q
theorem ints_get:∀ {bs:List Int} {us:List Value} {i:Nat} {v:Value},Vals (bs.map V.int) us→us[i]?=some v→∃ b t,bs[i]?=some b∧v=.int b t
  | [],_,_,_,.nil,h=>by simp at h
  | b::_,_,0,_,.cons r _,h=>by
    simp at h
    subst h
    obtain ⟨t,e⟩:=r
    exact ⟨b,t,rfl,e⟩
  | _::_,_,i+1,_,.cons _ t,h=>by
    obtain ⟨b,t,h1,h2⟩:=ints_get (i:=i) t (by simpa using h)
    exact ⟨b,t,by simpa using h1,h2⟩
theorem sum_take_le {ns:List Int} (h:∀ n ∈ ns,0≤n) (j:Nat):0≤(ns.take j).sum∧(ns.take j).sum≤ns.sum:=by
  induction ns generalizing j with
  | nil=>simp
  | cons a r ih =>
    cases j with
    | zero =>
      have:=ih (fun n hn=>h n (List.mem_cons_of_mem _ hn)) r.length
      rw [List.take_length] at this
      have a0:=h a List.mem_cons_self
      simp only [List.take_zero,List.sum_nil,List.sum_cons]
      omega
    | succ j =>
      have:=ih (fun n hn=>h n (List.mem_cons_of_mem _ hn)) j
      have a0:=h a List.mem_cons_self
      simp only [List.take_succ_cons,List.sum_cons]
      omega
theorem preSum_take (ns:List Int) (j:Nat):preSum (fun i=>ns[i]?.getD 0) j=(ns.take j).sum:=by
  induction j with
  | zero=>simp; rfl
  | succ j ih =>
    show preSum (fun i=>ns[i]?.getD 0) j+(fun i=>ns[i]?.getD 0) j=_
    rw [ih,List.take_add_one,List.sum_append]
    cases e:ns[j]? with
    | none=>simp [e]
    | some x=>simp [e]
theorem call_sum (hc:X.calm=true):CallR X (.builtin "sum") (rSum X.K):=by
  intro pins s σ H xs us Q I r h
  obtain ⟨a,ns,rfl,hq,n0,nb,q⟩:=h
  obtain ⟨u,rfl,ru⟩:=vals1 r
  cases ru
  obtain ⟨its,r',p,hz⟩:=I.list hq
  have hl:=r'.length
  rw [List.length_map] at hl
  have hlt:a < s.heap.objs.size:=by obtain ⟨o,n,e,_⟩:=p; exact Heap.lt_size e
  refine wpAny_with_toks I.tk (call_sum_walk (wpAny_pyIter_list p.isList ?_))
  refine ⟨s.heap.objs.size,_,_,_,_,_,fun i=>ns[i]?.getD 0,rfl,Walks.list (A:=X.A.in1) (I.ok.hd hc) s.heap.objs.size a (Nat.ne_of_lt hlt) its.toArray,⟨⟨_,Heap.get?_push_size _ rfl,rfl,rfl⟩,p.isList.push _⟩,?_,?_,?_,?_⟩
  · intro b hb
    have hpz:∀ o:Obj,(s.heap.push o).objs.size=s.heap.objs.size+1:=fun o=>by simp [Heap.push]
    show b < (s.heap.push _).objs.size
    rw [hpz]
    rcases List.mem_cons.mp hb with e | e
    · rw [e]; exact Nat.lt_succ_self _
    · rw [List.mem_singleton.mp e]; exact Nat.lt_succ_of_lt hlt
  · intro i v hP
    obtain ⟨b,t,hb,rfl⟩:=ints_get r' (i:=i) (v:=v) (by simpa using hP)
    exact ⟨t,by simp [hb]⟩
  · intro j hj
    have hj':j < ns.length:=by rw [hl]; simpa using hj
    have s1:=sum_take_le n0 (j+1)
    rw [preSum_take]
    refine ⟨?_,by unfold InLong; omega⟩
    have s2:=sum_take_le n0 j
    have e:(ns.take (j+1)).sum=(ns.take j).sum+ns[j]:=by rw [List.take_add_one,List.sum_append,List.getElem?_eq_getElem hj']; simp
    have n1:=n0 _ (List.getElem_mem hj')
    show InLong (ns[j]?.getD 0)
    rw [List.getElem?_eq_getElem hj']
    show InLong ns[j]
    unfold InLong
    omega
  · intro h' tk t' hk le
    have le:1≤tk:=le
    rw [preSum_take,List.size_toArray,← hl,List.take_length]
    refine ⟨.int _,H,?_,⟨_,rfl⟩,q⟩
    have I1:Inv X pins σ H { s with heap:=s.heap.push { cls:=.type "list_iterator", data:=.fields #[.ref a,.int 0 0] } }:=I.kept (t':=s.toks) fun b o e=>Heap.get?_push_of_some _ e
    refine I1.turnedL (t':=tk) (ch:=[s.heap.objs.size]) (fun b o hb e=>hk b o (by simpa using hb) e) fun b hb=>?_
    rw [List.mem_singleton.mp hb]
    exact I.fpOk (Nat.le_refl _) (I.hok.fresh (Nat.le_refl _))
end
end L2
namespace L2
open PySem PySem.Spec PyProof.Rows
def RevT (h:Heap) (it t:Addr) (i:Int):Prop:=h.get? it=some { cls:=.type "reversed", data:=.fields #[.ref t,rawInt i] }
section
variable {prog:Program} {w:World} {A:Around} {E:Value→Shared→Prop} {s:Shared} {R:Result→Shared→Prop} {it t:Addr}
end
section
variable {X:Cx}
inductive ZtListRevT (K:PySem.W.Frag) (Q:VK) (x:V) (H1:Hp):Prop where
  | mk:∀ l ys,(x=.ref l)→(SqT K H1 l ys)→(∀ p,H1 p=none→Q (.ref p) (upd H1 p (.lst ys.reverse)))→ZtListRevT K Q x H1
def tListRevT (K:PySem.W.Frag) (te:TE):TE:=fun σ H Q=>te σ H fun x H1=>ZtListRevT K Q x H1
end
end L2
namespace Mine
open PySem L2
def Tr.wf:Tr→Prop
  | .is x=>NmOk x | .yes=>True | .no=>True | .not a=>a.wf | .bin w a b=>w ∈ joinW∧a.wf∧b.wf
def Tr.parts:Tr→List Tr
  | .is _=>[] | .yes=>[] | .no=>[] | .not a=>[a] | .bin _ a b=>[a,b]
def sizes (ts:List Tr):Nat:=(ts.map Tr.size).sum
def namesL (ts:List Tr):List Str:=(ts.map Tr.names).flatten
inductive TreesAt (H:Hp):List V→List Tr→Prop
  | nil:TreesAt H [] []
  | cons {v:V} {t:Tr} {vs:List V} {ts:List Tr}:TreeAt H v t→TreesAt H vs ts→TreesAt H (v::vs) (t::ts)
def Tr.data:Tr→PyData
  | .is x=>.tuple [.str "is", .str x] | .yes=>.tuple [.str "yes"] | .no=>.tuple [.str "no"] | .not a=>.tuple [.str "not", a.data] | .bin w a b=>.tuple [.str w,a.data,b.data]
end Mine
namespace L2
open PySem PySem.Spec PyProof.Rows
section
variable {prog:Program} {w:World} {A:Around} {E:Value→Shared→Prop} {s:Shared}
def idxF (xs:Array Value) (x:Value):Nat→Option PySem.Fin × Unit→Sem (ForInStep (Option PySem.Fin × Unit)):=fun i _=>match xs[i]? with
  | some y=>do
    let b ← eqBool y x
    if b=true then do
        let r ← retInt (i:Int)
        pure (ForInStep.done (some r,()))
      else pure (ForInStep.yield (none,()))
  | _=>pure (ForInStep.yield (none,()))
end
section
variable {X:Cx}
def posOf (z:Str):List Str→Option Nat
  | []=>none
  | a::r=>if a=z then some 0 else (posOf z r).map (·+1)
inductive rIndexT (K:PySem.W.Frag) (x:V) (vs:List V) (H:Hp) (Q:VK):Prop where
  | mk:∀ (a:Addr) (ns:List Str) (z:Str) (j:Nat),(x=.ref a)→(vs=[.str z])→(SqT K H a (ns.map V.str))→(posOf z ns=some j)→(Q (.int (j:Int)) H)→rIndexT K x vs H Q
inductive rIndexL (K:PySem.W.Frag) (x:V) (vs:List V) (H:Hp) (Q:VK):Prop where
  | mk:∀ (a:Addr) (ns:List Str) (z:Str) (j:Nat),(x=.ref a)→(vs=[.str z])→(SqL K H a (ns.map V.str))→(posOf z ns=some j)→(Q (.int (j:Int)) H)→rIndexL K x vs H Q
end
end L2
namespace L2
open PySem PySem.Spec PyProof.Rows
section
variable {κ:Type} [DecidableEq κ]
def valV (kvs:List (κ × V)) (k:κ):Option V:=(kvs.find? fun kv=>decide (kv.1=k)).map (·.2)
def putK (kvs:List (κ × V)) (k:κ) (v:V):List (κ × V) :=
  if (kvs.any fun kv=>decide (kv.1=k))=true then kvs.map (fun kv=>if kv.1=k then (kv.1,v) else kv) else kvs++[(k,v)]
def dropK (kvs:List (κ × V)) (k:κ):List (κ × V):=kvs.filter fun kv=>decide (kv.1 ≠ k)
end
abbrev KT (H:Hp):List (List Key × V)→List (List Key × Addr × Value)→Prop:=Paired fun p q=>p.1=q.1∧H q.2.1=some (.tup (p.1.map kV))∧RelV p.2 q.2.2
section
variable {P:Program} {w:World} {H:Hp} {h:Heap} {a:Addr}
end
def DGet (H:Hp) (a:Addr) (y:V) (r:Option V):Prop :=
  (∃ kvs k,Rd H a (.dK kvs)∧y=kV k∧r=valV kvs k)∨∃ kvs k b,Rd H a (.dT kvs)∧y=.ref b∧H b=some (.tup (k.map kV))∧r=valV kvs k
def DPut (H:Hp) (a:Addr) (y v:V) (H':Hp):Prop :=
  (∃ kvs k,H a=some (.dK kvs)∧y=kV k∧kvs.length < sizeLine∧H'=upd H a (.dK (putK kvs k v))) ∨
  ∃ kvs k b,H a=some (.dT kvs)∧y=.ref b∧H b=some (.tup (k.map kV))∧kvs.length < sizeLine∧H'=upd H a (.dT (putK kvs k v))
section
variable {X:Cx} {pins:List (Addr × Obj)} {σ:St} {H:Hp} {s:Shared} {a:Addr} {y v:V} {u r:Value} {o:Option V} {A:Around} {E:Value→Shared→Prop}
end
section
variable {X:Cx} {pins:List (Addr × Obj)} {σ:St} {H:Hp} {s:Shared} {a:Addr} {kvs:List (Key × V)} {k:Key} {u:Value} {A:Around} {E:Value→Shared→Prop}
end
def NoSl (i:Expr):Prop:=∀ ov iv,subscripted i false ov iv=operate [ov,iv] (getItem ov iv)
inductive ZtDGet (Q:VK) (x:V) (y:V) (H2:Hp):Prop where
  | mk:∀ a v,(x=.ref a)→(DGet H2 a y (some v))→(Q v H2)→ZtDGet Q x y H2
def tDGet (td ty:TE):TE:=fun σ H Q=>td σ H fun x H1=>ty σ H1 fun y H2=>ZtDGet Q x y H2
inductive ZtDIn (Q:VK) (y:V) (x:V) (H2:Hp):Prop where
  | mk:∀ a o,(x=.ref a)→(DGet H2 a y o)→(Q (.bl o.isSome) H2)→ZtDIn Q y x H2
def tDIn (ty td:TE):TE:=fun σ H Q=>ty σ H fun y H1=>td σ H1 fun x H2=>ZtDIn Q y x H2
inductive ZtDNotIn (Q:VK) (y:V) (x:V) (H2:Hp):Prop where
  | mk:∀ a o,(x=.ref a)→(DGet H2 a y o)→(Q (.bl (!o.isSome)) H2)→ZtDNotIn Q y x H2
def tDNotIn (ty td:TE):TE:=fun σ H Q=>ty σ H fun y H1=>td σ H1 fun x H2=>ZtDNotIn Q y x H2
inductive ZsDPut (D:Ends) (σ:St) (v:V) (x:V) (y:V) (H3:Hp):Prop where
  | mk:∀ a H4,(x=.ref a)→(DPut H3 a y v H4)→(D.nx σ H4)→ZsDPut D σ v x y H3
def sDPut (td ty tv:TE):TS:=fun D σ H=>tv σ H fun v H1=>td σ H1 fun x H2=>ty σ H2 fun y H3=>ZsDPut D σ v x y H3
inductive ZsDAug (tv:TE) (rd:V→V→Hp→VK→Prop) (D:Ends) (σ:St) (x:V) (y:V) (H2:Hp):Prop where
  | mk:∀ a v,(x=.ref a)→(DGet H2 a y (some v))→(tv σ H2 fun y2 H3=>rd v y2 H3 fun z H4=>∃ H5,DPut H4 a y z H5∧D.nx σ H5)→ZsDAug tv rd D σ x y H2
def sDAug (td ty tv:TE) (rd:V→V→Hp→VK→Prop):TS:=fun D σ H=>td σ H fun x H1=>ty σ H1 fun y H2=>ZsDAug tv rd D σ x y H2
inductive ZsDDel (D:Ends) (σ:St) (x:V) (y:V) (H2:Hp):Prop where
  | mk:∀ a kvs k,(x=.ref a)→(H2 a=some (.dK kvs))→(y=kV k)→((valV kvs k).isSome=true)→(D.nx σ (upd H2 a (.dK (dropK kvs k))))→ZsDDel D σ x y H2
def sDDel (td ty:TE):TS:=fun D σ H=>td σ H fun x H1=>ty σ H1 fun y H2=>ZsDDel D σ x y H2
section
variable {X:Cx} {o i e value:Expr} {pos pos' tpos:Pos} {td ty tv:TE}
end
def tDNewK:TE:=fun _ H Q=>∀ p,H p=none→Q (.ref p) (upd H p (.dK []))
def tDNewT:TE:=fun _ H Q=>∀ p,H p=none→Q (.ref p) (upd H p (.dT []))
section
variable {X:Cx} {pos:Pos}
end
def tPairs:List (TE × TE)→St→Hp→(List (V × V)→Hp→Prop)→Prop
  | [],_,H,Q=>Q [] H
  | (tk,tv)::r,σ,H,Q=>tk σ H fun x H1=>tv σ H1 fun y H2=>tPairs r σ H2 fun ps H3=>Q ((x,y)::ps) H3
abbrev VV:List (V × V)→List (Value × Value)→Prop:=Paired fun p q=>RelV p.1 q.1∧RelV p.2 q.2
def PPs (X:Cx) (pos:Pos) (keys:List (Option Expr)) (values:List Expr) (trs:List (TE × TE)):Prop :=
  ∀ (pins:List (Addr × Obj)) (s:Shared) (σ:St) (H:Hp) (Q:List (V × V)→Hp→Prop),Inv X pins σ H s→tPairs trs σ H Q →
    wpAny (model X.prog X.w) X.A (evalPairs (pairTrees keys values X.env pos)) (fun vs s'=>∃ ps H',Inv X pins σ H' s'∧VV ps vs∧Q ps H') X.xe s
def mergeK (kvs more:List (Key × V)):List (Key × V):=more.foldl (fun acc kv=>putK acc kv.1 kv.2) kvs
def tDisp (trs:List (TE × TE)):TE:=fun σ H Q=>∀ p,H p=none→tPairs trs σ (upd H p (.dK [])) fun ps H2=>H2 p=some (.dK [])∧∃ kvs:List (Key × V),ps=kvs.map (fun kv=>(kV kv.1,kv.2))∧kvs.length≤15∧Q (.ref p) (upd H2 p (.dK (mergeK [] kvs)))
structure M1 (X:Cx) (o:Expr) (m:Str) (apos:Pos) (e:Expr) (cpos:Pos):Prop where
  base:attributeBase o m X.env (eval o X.env)=eval o X.env
  few:((backTo cpos (starEach [e] X.env)).all (fun x=>!x.1) && (backToKw cpos (keywordEach [] X.env)).all (fun x=>x.1.isSome)
    && decide (([e]:List Expr).length+([]:List Keyword).length+(if ([]:List Keyword).isEmpty then 0 else 1) < 30))=true
  line:(apos.endLine == cpos.line)=true
  trees:backTo cpos (starEach [e] X.env)=[(false,eval e X.env)]
structure M2 (X:Cx) (o:Expr) (m:Str) (apos:Pos) (e f:Expr) (cpos:Pos):Prop where
  base:attributeBase o m X.env (eval o X.env)=eval o X.env
  few:((backTo cpos (starEach [e,f] X.env)).all (fun x=>!x.1) && (backToKw cpos (keywordEach [] X.env)).all (fun x=>x.1.isSome)
    && decide (([e,f]:List Expr).length+([]:List Keyword).length+(if ([]:List Keyword).isEmpty then 0 else 1) < 30))=true
  line:(apos.endLine == cpos.line)=true
  trees:backTo cpos (starEach [e,f] X.env)=[(false,eval e X.env),(false,eval f X.env)]
def IsD (H:Hp) (a:Addr):Prop:=(∃ kvs,Rd H a (.dK kvs))∨∃ kvs,Rd H a (.dT kvs)
section
variable {X:Cx} {pins:List (Addr × Obj)} {σ:St} {H:Hp} {s:Shared} {a:Addr} {y d:V} {u r:Value} {o:Option V} {A:Around} {E:Value→Shared→Prop}
end
inductive ZtDGet1 (ty:TE) (σ:St) (Q:VK) (x:V) (H1:Hp):Prop where
  | mk:∀ a,(x=.ref a)→(IsD H1 a)→(ty σ H1 fun y H2=>∃ o,DGet H2 a y o∧Q (o.getD .non) H2)→ZtDGet1 ty σ Q x H1
def tDGet1 (td ty:TE):TE:=fun σ H Q=>td σ H fun x H1=>ZtDGet1 ty σ Q x H1
inductive ZtDGet2 (ty:TE) (tx:TE) (σ:St) (Q:VK) (x:V) (H1:Hp):Prop where
  | mk:∀ a,(x=.ref a)→(IsD H1 a)→(ty σ H1 fun y H2=>tx σ H2 fun z H3=>∃ o,DGet H3 a y o∧Q (o.getD z) H3)→ZtDGet2 ty tx σ Q x H1
def tDGet2 (td ty tx:TE):TE:=fun σ H Q=>td σ H fun x H1=>ZtDGet2 ty tx σ Q x H1
inductive ZtDPop1 (ty:TE) (σ:St) (Q:VK) (x:V) (H1:Hp):Prop where
  | mk:∀ a,(x=.ref a)→(IsD H1 a)→(ty σ H1 fun y H2=>∃ kvs k v,H2 a=some (.dK kvs)∧y=kV k∧valV kvs k=some v∧Q v (upd H2 a (.dK (dropK kvs k))))→ZtDPop1 ty σ Q x H1
def tDPop1 (td ty:TE):TE:=fun σ H Q=>td σ H fun x H1=>ZtDPop1 ty σ Q x H1
inductive ZtDPop2 (ty:TE) (tx:TE) (σ:St) (Q:VK) (x:V) (H1:Hp):Prop where
  | mk:∀ a,(x=.ref a)→(IsD H1 a)→(ty σ H1 fun y H2=>tx σ H2 fun z H3=>∃ kvs k,H3 a=some (.dK kvs)∧y=kV k ∧
  (∀ v,valV kvs k=some v→Q v (upd H3 a (.dK (dropK kvs k))))∧(valV kvs k=none→Q z H3))→ZtDPop2 ty tx σ Q x H1
def tDPop2 (td ty tx:TE):TE:=fun σ H Q=>td σ H fun x H1=>ZtDPop2 ty tx σ Q x H1
section
variable {X:Cx} {o e f:Expr} {apos cpos:Pos} {td ty tx:TE}
end
section
variable {X:Cx} {pins:List (Addr × Obj)} {σ:St} {H:Hp} {s:Shared} {a:Addr} {kvs:List (Key × V)} {A:Around} {E:Value→Shared→Prop}
end
section
variable {X:Cx} {pins:List (Addr × Obj)} {σ:St} {H:Hp} {s:Shared} {a:Addr} {y:V} {u:Value} {A:Around} {E:Value→Shared→Prop}
end
end L2
namespace L2
open PySem PySem.Spec PyProof.Rows
section
variable {X:Cx}
inductive ZtIndex (t:TA) (σ:St) (Q:VK) (x:V) (H1:Hp):Prop where
  | mk:∀ (a:Addr) (ns:List Str),(x=.ref a)→((H1 a=some (.lst (ns.map V.str))∨H1 a=some (.tup (ns.map V.str))))→(t σ H1 fun vs H2=>(H2 a=H1 a)∧∃ (z:Str) (j:Nat),vs=[.str z]∧posOf z ns=some j∧Q (.int (j:Int)) H2)→ZtIndex t σ Q x H1
def tIndex (K:PySem.W.Frag) (to:TE) (t:TA):TE:=fun σ H Q=>to σ H fun x H1=>ZtIndex t σ Q x H1
variable {o e:Expr} {es:List Expr} {to:TE} {t:TA} {apos cpos:Pos}
end
end L2
namespace L2
open PySem PySem.Spec PyProof.Rows
end L2
namespace L2
open PySem PySem.Spec PyProof.Rows
section
variable {X:Cx}
inductive rCountL (K:PySem.W.Frag) (x:V) (vs:List V) (H:Hp) (Q:VK):Prop where
  | mk:∀ (a:Addr) (xs:List V) (z:V),(x=.ref a)→(vs=[z])→(SqL K H a xs)→(xs.all flatV=true)→(flatV z=true)→(Q (.int ((xs.countP fun y=>eqV y z:Nat):Int)) H)→rCountL K x vs H Q
end
section
variable {prog:Program} {w:World} {A:Around} {E:Value→Shared→Prop} {s:Shared}
end
section
variable {X:Cx} {e k:Expr} {te tk:TE} {pos p2:Pos}
def tRev (K:PySem.W.Frag) (te tk:TE):TE:=fun σ H Q=>te σ H fun x H1=>tk σ H1 fun y H2=>y=.int (-1)∧∃ a xs,x=.ref a ∧
  ((SqL K H2 a xs∧∀ p,H2 p=none→Q (.ref p) (upd H2 p (.lst xs.reverse)))∨(SqT K H2 a xs∧∀ p,H2 p=none→Q (.ref p) (upd H2 p (.tup xs.reverse))))
end
def bestI (g:Nat→Int):Nat→Int
  | 0=>g 0
  | k+1=>if bestI g k < g (k+1) then g (k+1) else bestI g k
def maxD (ns:List Int) (d:Int):Int:=match ns with | []=>d | _::_=>bestI (fun i=>ns[i]?.getD 0) (ns.length - 1)
section
variable {prog:Program} {w:World} {A:Around} {R:Result→Shared→Prop} {I S:Addr} {fp wr:List Addr} {n:Nat} {P:Nat→Value→Prop} {St:Nat→Heap→Prop} {g:Nat→Int} {kw:List (Str × Value)}
theorem mx_name:(toString "max" ++ toString ".loop" : String) = "max.loop" := by decide
theorem mx_turns (W:Walks prog w A.in1 I fp wr n P St) (gv:∀ i v,P i v→∃ t,v=Value.int (g i) t) (nS:S ∉ fp):∀ (k j:Nat) (s:Shared) (t:Tok) (c:Nat),j+1+k=n→St (j+1) s.heap →
    s.heap.get? S=some { cls:=.type "list", dict:=none,data:=.seq #[.int (bestI g j) t,.int (bestI g j) t] c,slots:=#[] } →
    (∀ t' h' tk,(∀ b o,b ∉ wr→b ≠ S→s.heap.get? b=some o→h'.get? b=some o)→R (.ok (.ret (.int (bestI g (n - 1)) t'))) { s with heap:=h',toks:=tk }) →
    codeAny (model prog w) A (.builtin "max.loop" ⟨[.ref I,.none,.ref S],kw⟩) R s:=by
  have nw:S ∉ wr:=fun z=>nS (W.sub _ z)
  intro k
  induction k with
  | zero =>
    intro j s t c ek st eS q
    refine codeAny_builtin F.entry_max_loop ?_; rw [Around.under_plainId F.plain_max_loop _]
    show wpAny _ A.in1 (seqItems? (.ref S) >>= _) _ _ s; refine wpAny_bind (wpAny_seqItems eS rfl ?_)
    show wpAny _ A.in1 (tryCatch (pyNext (.ref I)) _ >>= _) _ _ s; refine wpAny_bind (wpAny_tryCatch (W.done s _ _ (by rw [← ek]; exact st) fun h' tk kp=>?_))
    show wpAny _ A.in1 (updateSeq S (fun _=>#[]) >>= _) _ _ _; refine wpAny_bind ?_
    refine wpAny_updateSeq (kp S _ nw eS) rfl (wpAny_bind (wpAny_letGo (wpAny_pure ?_)))
    have e:n - 1=j:=by omega
    rw [e] at q
    exact q t _ tk fun b o h1 h2 eb=>(Heap.get?_update_other _ _ (Ne.symm h2)).trans (kp b o h1 eb)
  | succ k ih =>
    intro j s t c ek st eS q
    refine codeAny_builtin F.entry_max_loop ?_; rw [Around.under_plainId F.plain_max_loop _]
    show wpAny _ A.in1 (seqItems? (.ref S) >>= _) _ _ s; refine wpAny_bind (wpAny_seqItems eS rfl ?_)
    show wpAny _ A.in1 (tryCatch (pyNext (.ref I)) _ >>= _) _ _ s; refine wpAny_bind (wpAny_tryCatch (W.item (j+1) s _ _ (by omega) st fun v h' tk pv st' kp=>?_))
    obtain ⟨tv,rfl⟩:=gv _ _ pv
    have eS':=kp S _ nw eS
    show wpAny _ A.in1 (tryCatch (holding [Value.int (g (j+1)) tv,Value.int (g (j+1)) tv] (richCompare .Gt (Value.int (g (j+1)) tv) (Value.int (bestI g j) t) >>= _)) _ >>= _) _ _ _
    refine wpAny_bind (wpAny_tryCatch (wpAny_holding (wpAny_bind (CmpOf.ints_gt (prog:=prog) (w:=w) (A:=A.in1) (P:=fun i v=>∃ t,v=Value.int (if i=0 then bestI g j else g (j+1)) t) (fun i=>if i=0 then bestI g j else g (j+1)) (fun i v h=>h) 1 0 _ _ _ _ _ ⟨tv,rfl⟩ ⟨t,rfl⟩ ?_))))
    refine wpAny_bind (wpAny_holding (wpAny_truthy_bool ?_)); refine wpAny_bind (wpAny_letGo (wpAny_pure ?_))
    by_cases c1:bestI g j < g (j+1)
    · have e1:bestI g (j+1)=g (j+1):=by unfold bestI; rw [if_pos c1]
      refine wpAny_ite_split (fun _=>?_) (fun hab=>absurd (decide_eq_true c1) hab)
      refine wpAny_bind ?_
      refine wpAny_updateSeq eS' rfl (wpAny_bind (wpAny_letGo ?_)); rw [mx_name]
      refine wpAny_pure ⟨plainId_quiet F.plain_max_loop _,ih (j+1) _ tv _ (by omega) (W.frame _ _ _ st' fun b hb o eb=>?_) (by rw [e1]; exact Heap.get?_update_self _ eS' rfl) fun t' h2 tk2 kp2=>?_⟩
      · exact (Heap.get?_update_other _ _ (fun z:S=b=>nS (by rw [z]; exact hb))).trans eb
      · exact q t' h2 tk2 fun b o h1 h3 eb=>kp2 b o h1 h3 ((Heap.get?_update_other _ _ (Ne.symm h3)).trans (kp b o h1 eb))
    · have e1:bestI g (j+1)=bestI g j:=by unfold bestI; rw [if_neg c1]; cases j <;> rfl
      refine wpAny_ite_split (fun hab=>absurd (of_decide_eq_true hab) c1) (fun _=>?_)
      refine wpAny_bind (wpAny_letGo ?_); rw [mx_name]
      refine wpAny_pure ⟨plainId_quiet F.plain_max_loop _,ih (j+1) _ t c (by omega) st' (by rw [e1]; exact eS') fun t' h2 tk2 kp2=>?_⟩
      exact q t' h2 tk2 fun b o h1 h3 eb=>kp2 b o h1 h3 (kp b o h1 eb)
theorem mx_first (W:Walks prog w A.in1 I fp wr n P St) (gv:∀ i v,P i v→∃ t,v=Value.int (g i) t) (nS:S ∉ fp) (hn:0 < n) {s:Shared} {c:Nat} (st:St 0 s.heap) (eS:s.heap.get? S=some { cls:=.type "list", dict:=none,data:=.seq #[] c,slots:=#[] })
    (q:∀ t' h' tk,(∀ b o,b ∉ wr→b ≠ S→s.heap.get? b=some o→h'.get? b=some o)→R (.ok (.ret (.int (bestI g (n - 1)) t'))) { s with heap:=h',toks:=tk }) :
    codeAny (model prog w) A (.builtin "max.loop" ⟨[.ref I,.none,.ref S],kw⟩) R s:=by
  have nw:S ∉ wr:=fun z=>nS (W.sub _ z)
  refine codeAny_builtin F.entry_max_loop ?_; rw [Around.under_plainId F.plain_max_loop _]
  show wpAny _ A.in1 (seqItems? (.ref S) >>= _) _ _ s; refine wpAny_bind (wpAny_seqItems eS rfl ?_)
  show wpAny _ A.in1 (tryCatch (pyNext (.ref I)) _ >>= _) _ _ s; refine wpAny_bind (wpAny_tryCatch (W.item 0 s _ _ hn st fun v h' tk pv st' kp=>?_))
  obtain ⟨tv,rfl⟩:=gv _ _ pv
  have eS':=kp S _ nw eS
  show wpAny _ A.in1 (updateSeq S (fun _=>#[Value.int (g 0) tv,Value.int (g 0) tv]) >>= _) _ _ _; refine wpAny_bind ?_
  refine wpAny_updateSeq eS' rfl ?_; rw [mx_name]
  refine wpAny_pure ⟨plainId_quiet F.plain_max_loop _,mx_turns W gv nS (n - 1) 0 _ tv _ (by omega) (W.frame _ _ _ st' fun b hb o eb=>?_) (Heap.get?_update_self _ eS' rfl) fun t' h2 tk2 kp2=>?_⟩
  · exact (Heap.get?_update_other _ _ (fun z:S=b=>nS (by rw [z]; exact hb))).trans eb
  · exact q t' h2 tk2 fun b o h1 h3 eb=>kp2 b o h1 h3 ((Heap.get?_update_other _ _ (Ne.symm h3)).trans (kp b o h1 eb))
end
section
variable {X:Cx} {e k:Expr} {te tk:TE} {pos p1 kp:Pos}
inductive ZtMaxD (K:PySem.W.Frag) (Q:VK) (x:V) (y:V) (H2:Hp):Prop where
  | mk:∀ a ns d,(x=.ref a)→(y=.int d)→(SqT K H2 a (ns.map V.int))→(Q (.int (maxD ns d)) H2)→ZtMaxD K Q x y H2
def tMaxD (K:PySem.W.Frag) (te tk:TE):TE:=fun σ H Q=>te σ H fun x H1=>tk σ H1 fun y H2=>ZtMaxD K Q x y H2
inductive rMax1 (K:PySem.W.Frag) (xs:List V) (H:Hp) (Q:VK):Prop where
  | mk:∀ a ns,(xs=[.ref a])→(SqL K H a (ns.map V.int))→(ns ≠ [])→(Q (.int (maxD ns 0)) H)→rMax1 K xs H Q
theorem call_max1 (hc:X.calm=true):CallR X (.builtin "max") (rMax1 X.K):=by
  intro pins s2 σ H2 xs us Q I2 r h
  obtain ⟨a,ns,rfl,hq,hn,q⟩:=h
  obtain ⟨u,rfl,ru⟩:=vals1 r
  cases ru
  obtain ⟨its,r',p,hz⟩:=I2.list hq
  have hl:=r'.length
  rw [List.length_map] at hl
  have hlt:a < s2.heap.objs.size:=by obtain ⟨o,n,e,_⟩:=p; exact Heap.lt_size e
  refine wpAny_with_toks I2.tk (call_function_tree F.kind_max F.plain_max F.entry_max (F.args_max1 _) ?_)
  show wpAny _ X.A.in1 (Builtin.Builtins.bindParams "max" ["key", "default"] 0 ⟨[],[]⟩ >>= fun _=>_) _ _ s2
  refine wpAny_bind (wpAny_of_eq (a:=[none,none]) rfl ?_)
  refine wpAny_bind (wpAny_pure ?_)
  refine wpAny_bind (wpAny_pyIter_list p.isList ?_)
  refine wpAny_bind (wpAny_newObj_type ?_); rw [mx_name]
  have hne:a ≠ s2.heap.objs.size:=Nat.ne_of_lt hlt
  have W:=Walks.list (prog:=X.prog) (w:=X.w) (A:=X.A.in1) (I2.ok.hd hc) s2.heap.objs.size a hne its.toArray
  have I3:Inv X pins σ H2 { s2 with heap:=s2.heap.push { cls:=.type "list_iterator", data:=.fields #[.ref a,.int 0 0] } }:=I2.kept (t':=s2.toks) fun b o eb=>Heap.get?_push_of_some _ eb
  have I4:Inv X pins σ H2 { s2 with heap:=(s2.heap.push { cls:=.type "list_iterator", data:=.fields #[.ref a,.int 0 0] }).push { cls:=.type "list", data:=.seq #[] } }:=I3.kept (t':=s2.toks) fun b o eb=>Heap.get?_push_of_some _ eb
  have hz1:∀ o:Obj,(s2.heap.push o).objs.size=s2.heap.objs.size+1:=fun o=>by simp [Heap.push]
  have nS:(s2.heap.push { cls:=.type "list_iterator", data:=.fields #[.ref a,.int 0 0] }).objs.size ∉ [s2.heap.objs.size,a]:=by
    intro hm
    rcases List.mem_cons.mp hm with z | z
    · rw [hz1] at z
      exact absurd z (Nat.succ_ne_self _)
    · have z:=List.mem_singleton.mp z
      rw [hz1] at z
      exact absurd z (Nat.ne_of_gt (Nat.lt_succ_of_lt hlt))
  have gv:∀ i v,its.toArray[i]?=some v→∃ t,v=Value.int (ns[i]?.getD 0) t:=fun i v hv=>by
    obtain ⟨b,t,hb,rfl⟩:=ints_get r' (i:=i) (v:=v) (by first | exact hv | simpa using hv | (rw [List.getElem?_toArray] at hv; exact hv))
    exact ⟨t,by rw [hb]; rfl⟩
  have n0:0 < ns.length:=List.length_pos_iff.mpr hn
  refine wpAny_pure ⟨plainId_quiet F.plain_max_loop _,mx_first (g:=fun i=>ns[i]?.getD 0) W gv nS (by rw [List.size_toArray,← hl]; exact n0) ⟨⟨_,Heap.get?_push_of_some _ (Heap.get?_push_size _ rfl),rfl,rfl⟩,(p.isList.push _).push _⟩ (Heap.get?_push_size _ rfl) fun t' h' tk kp le=>?_⟩
  have le:1≤tk:=le
  rw [List.size_toArray,← hl]
  have em:bestI (fun i=>ns[i]?.getD 0) (ns.length - 1)=maxD ns 0:=by
    cases ns with
    | nil=>exact absurd rfl hn
    | cons _ _=>rfl
  rw [em]
  refine ⟨.int _,H2,?_,⟨_,rfl⟩,q⟩
  have J:=Inv.turnedL (h':=h') (t':=tk) (ch:=[s2.heap.objs.size,s2.heap.objs.size+1]) I4 (fun b o hb eb=>kp b o (fun z=>hb (by rw [List.mem_singleton.mp z]; exact List.mem_cons_self)) (fun z=>hb (by rw [z,hz1]; exact List.mem_cons_of_mem _ List.mem_cons_self)) eb)
  refine J fun b hb=>?_
  rcases List.mem_cons.mp hb with h | h
  · rw [h]
    exact I2.fpOk (Nat.le_refl _) (I2.hok.fresh (Nat.le_refl _))
  · rw [List.mem_singleton.mp h]
    exact I2.fpOk (Nat.le_succ _) (I2.hok.fresh (Nat.le_succ _))
end
end L2
namespace L2
open PySem PySem.Spec PyProof.Rows
section
variable {prog:Program} {w:World} {A:Around} {E:Value→Shared→Prop} {s:Shared}
end
open AutoSeq1 (wpAny_loadPart') in
section
variable {prog:Program} {w:World} {A:Around} {E:Value→Shared→Prop} {s:Shared}
end
def IteT (K:PySem.W.Frag) (a:Addr):It :=
  ⟨fun i H=>∃ xs x,SqT K H a xs∧xs[i]?=some x,fun i H y H'=>∃ t,y=.ref t∧H t=none∧∀ xs x,SqT K H a xs→xs[i]?=some x→H'=upd H t (.tup [.int i,x]),fun i H=>∃ xs,SqT K H a xs∧xs.length≤i⟩
section
variable {X:Cx} {elts:List Expr} {k:Nat} {tpos:Pos}
inductive ZiEnumT (K:PySem.W.Frag) (R:(It→Hp→Prop)) (x:V) (H1:Hp):Prop where
  | mk:∀ a,(x=.ref a)→((∃ xs,SqT K H1 a xs))→(R (IteT K a) H1)→ZiEnumT K R x H1
def iEnumT (K:PySem.W.Frag) (tl:TE):TI:=fun σ H R=>tl σ H fun x H1=>ZiEnumT K R x H1
end
end L2
namespace L2
open PySem PySem.Spec PyProof.Rows
def ItV (K:PySem.W.Frag) (a:Addr) (xs:List V):It:=⟨fun i H=>SqL K H a xs∧i < xs.length,fun i H y H'=>H'=H∧xs.reverse[i]?=some y,fun i _=>xs.length≤i⟩
section
variable {X:Cx} {tg:Expr}
inductive ZiRevL (K:PySem.W.Frag) (R:(It→Hp→Prop)) (x:V) (H1:Hp):Prop where
  | mk:∀ a xs,(x=.ref a)→(SqL K H1 a xs)→(R (ItV K a xs) H1)→ZiRevL K R x H1
def iRevL (K:PySem.W.Frag) (tl:TE):TI:=fun σ H R=>tl σ H fun x H1=>ZiRevL K R x H1
end
end L2
namespace L2
open PySem PySem.Spec PyProof.Rows
section
variable {X:Cx} {o e:Expr} {es:List Expr} {to ta:TE} {t:TA} {T id:String} {name f:Str} {r:V→List V→Hp→VK→Prop} {apos cpos pos:Pos}
end
end L2
namespace L2
open PySem PySem.Spec PyProof.Rows
@[reducible] def cxCompO (X:Cx) (x:Str) (N:List Str) (scope:Scope) (cl:List (Str × Addr)) (s:Shared) (H:Hp) (fp:List Addr):Cx where
  prog:=X.prog
  w:=X.w
  K:=X.K
  mg:=X.mg
  base:=X.base
  A:=X.A
  N:=x::N
  s₀:=s
  H₀:=H
  env:=compEnvC scope ((x,s.heap.objs.size+1)::cl) s.heap.objs.size X.env
  outer:=X.stack
  stack:=X.stack
  ex:=fp
  fn:=fun y=>y == x
  calm:=X.calm
  pn:=[]
  xe:=fun _ _=>False
structure CompScopeO (X:Cx) (x:Str) (N:List Str) (ix:List Nat) (scope:Scope) (cl:List (Str × Addr)):Prop where
  clos:closureFor scope X.env=pure cl
  lay:∀ (n:Addr) (h:Heap),cellsFrom n scope.names cl=(x,n)::cl∧pushCells h scope.names=h.push { cls:=.type "cell", data:=.cell none }
  kind:scope.kind=.function
  names:∀ y ∈ scope.names,y.2=.local→scope.names.lookup y.1=some .local
  own:(relabel scope X.env).names.lookup x=some .cell
  nd:(x::N).Nodup
  sub:∀ p ∈ cl,X.env.cells.lookup p.1=some p.2
  has:((relabel scope X.env).names.all fun p=>!(p.2 == .cell || p.2 == .free) || (p.1 == x || (cl.lookup p.1).isSome))=true
  outs:∀ (j:Nat) (y:Str),N[j]?=some y→(relabel scope X.env).names.lookup y=some .cell∧∃ k c,ix[j]?=some k∧X.N[k]?=some y∧cl.lookup y=some c∧X.env.scope.names.lookup y=some .cell
section
variable {X:Cx} {pins:List (Addr × Obj)} {σ:St} {x:Str} {N:List Str} {ix:List Nat} {scope:Scope} {cl:List (Str × Addr)} {fp:List Addr} {H3:Hp} {s3:Shared}
end
section
variable {M:Model} {A:Around} {E:Value→Shared→Prop} {s:Shared}
end
section
variable {X:Cx} {x:Str} {N:List Str} {ix:List Nat} {scope:Scope} {cl:List (Str × Addr)} {elt iter:Expr} {ifs:List Expr} {px pos:Pos} {wi:TI} {tb:TBl}
end
end L2
namespace L2
open PySem PySem.Spec PyProof.Rows
end L2
namespace L2
open PySem PySem.Spec PyProof.Rows
def ItrS (lo c:Int) (n:Nat):It:=⟨fun i _=>i < n,fun i H x H'=>H'=H∧x=.int (lo+i*c),fun i _=>n≤i⟩
section
variable {X:Cx} {tg:Expr}
inductive ZiRng3 (R:(It→Hp→Prop)) (vs:(List V)) (H1:Hp):Prop where
  | mk:∀ i j c:Int,(vs=[.int i,.int j,.int c])→(0 < c)→(c < 1000000)→(Builtin.Range.small i j c=true)→(R (ItrS i c (Builtin.Range.rangeSize i j c).toNat) H1)→ZiRng3 R vs H1
def iRng3 (ta:TA):TI:=fun σ H R=>ta σ H fun vs H1=>ZiRng3 R vs H1
end
end L2
namespace L2
open PySem PySem.Spec PyProof.Rows
section
variable {X:Cx}
inductive ZtListRng1 (Q:VK) (vs:(List V)) (H1:Hp):Prop where
  | mk:∀ j:Int,(vs=[.int j])→(0≤j)→(j≤1000)→(∀ p,H1 p=none→Q (.ref p) (upd H1 p (.lst ((rngV 0 j.toNat).map V.int))))→ZtListRng1 Q vs H1
def tListRng1 (ta:TA):TE:=fun σ H Q=>ta σ H fun vs H1=>ZtListRng1 Q vs H1
inductive rSorted (K:PySem.W.Frag) (xs:List V) (H:Hp) (Q:VK):Prop where
  | mk:∀ a ns,(xs=[.ref a])→(SqL K H a (ns.map V.int))→(ns.length < 64)→(∀ p ms,H p=none→List.Perm ms ns→ms.Pairwise (·≤·)→Q (.ref p) (upd H p (.lst (ms.map V.int))))→rSorted K xs H Q
end
end L2
namespace L2
open PySem PySem.Spec PyProof.Rows PySem.Builtin PySem.Builtin.Str
section
variable {prog:Program} {w:World} {A:Around} {E:Value→Shared→Prop} {s:Shared} {Q:Value→Shared→Prop} {x:PySem.Str} {t:Tok}
theorem numbered_le:∀ (xs:List PySem.Str) (n:Nat),∀ p ∈ numbered n xs,n≤p.2
  | [],_,p,h=>nomatch h
  | x::r,n,p,h=>by
    rcases List.mem_cons.mp h with z | z
    · rw [z]; exact Nat.le_refl _
    · exact Nat.le_of_succ_le (numbered_le r (n+1) p z)
theorem split_push {y:PySem.Str} {u:Tok} (hy:(y.length == 0)=false)
    (hs:1≤s.toks) (ht:1≤t) (h:∀ l k,1≤k→(∀ p ∈ l,1≤p.2)→l.map (·.1)=Txt.split x y→Q (.ref s.heap.objs.size) { s with heap:=s.heap.push { cls:=.type "list", data:=.seq (strValues l).toArray },toks:=k })
    (hsz:x.length+2≤sizeLine):wpAny (model prog w) A (call (.builtin "str.split") [.str x t,.str y u]) Q E s:=by
  have hn:(partsBetween x (occurrences x y 0 x.length (x.length+1)) y.length).length≤sizeLine:=by
    have e1:=StrLaws.occ_length_le x y 0 x.length (x.length+1)
    rw [length_partsBetween]; omega
  cases h1:(decide (x.length < y.length) || decide (strKind x < strKind y))
  · cases hf:(occurrences x y 0 x.length (x.length+1)).isEmpty
    · refine call_meets F.slot_str_split (typeIs_str _ _ _) F.entry_str_split (F.args_str_split_2 _ _) (meets_str_split_sep x y t u h1 hy hf (by omega) hn) ?_
      show wants Q E _ { s with toks:=_,heap:=s.heap.push { cls:=.type "list", data:=.seq (strsFrom s.toks (partsBetween x (occurrences x y 0 x.length (x.length+1)) y.length)).toArray } }
      rw [strsFrom_eq]
      exact h (numbered s.toks _) _ (Nat.le_trans hs (Nat.le_add_right _ _)) (fun p hp=>Nat.le_trans hs (numbered_le _ _ p hp)) ((numbered_texts _ _).trans ((if_neg (ne_true_of_eq_false h1)).trans (if_neg (ne_true_of_eq_false hf))).symm)
    · exact call_meets F.slot_str_split (typeIs_str _ _ _) F.entry_str_split (F.args_str_split_2 _ _) (meets_str_split_not_found x y t u h1 hy hf)
        (h [(x,t)] s.toks hs (fun p hp=>by rw [List.mem_singleton.mp hp]; exact ht) ((if_neg (ne_true_of_eq_false h1)).trans (if_pos hf)).symm)
  · exact call_meets F.slot_str_split (typeIs_str _ _ _) F.entry_str_split (F.args_str_split_2 _ _) (meets_str_split_cannot_occur x y t u h1)
      (h [(x,t)] s.toks hs (fun p hp=>by rw [List.mem_singleton.mp hp]; exact ht) (if_pos h1).symm)
end
theorem strVals:∀ l:List (PySem.Str × Tok),(∀ p ∈ l,1≤p.2)→Vals ((l.map (·.1)).map V.str) (strValues l)
  | [],_=>.nil
  | (x,t)::r,h=>.cons (relS (h (x,t) List.mem_cons_self)) (strVals r fun p hp=>h p (List.mem_cons_of_mem _ hp))
section
variable {X:Cx}
inductive rSplit (x:V) (vs:List V) (H:Hp) (Q:VK):Prop where
  | mk:∀ z u,(x=.str z)→(vs=[.str u])→(0 < u.length)→(z.length≤100000)→((Txt.split z u).length≤100000)→(∀ p,H p=none→Q (.ref p) (upd H p (.lst ((Txt.split z u).map V.str))))→rSplit x vs H Q
theorem mt_split:MtR X "str.split" rSplit:=by
  intro pins s σ H x vs v us Q I rx rv h
  obtain ⟨z,u,rfl,rfl,hu,hz,hl,q⟩:=h
  obtain ⟨t,rfl⟩:=rx
  obtain ⟨w',rfl,t',rfl⟩:=rv.one
  have sl:sizeLine=16777216:=sizeLine_eq
  refine split_push (by rw [beq_eq_false_iff_ne]; omega) I.tk (Nat.le_add_left 1 _) (fun l k hk hp e=>?_) (by omega)
  have r:=strVals l hp
  rw [e] at r
  exact ⟨.ref _,_,I.lnew (t':=k) r (by rw [List.length_map]; omega),rfl,q _ I.fresh⟩
theorem call_int_text:CallR X (.type "int") (fun xs H Q=>∃ x n,xs=[.str x]∧PySem.intText? x=some n∧x.length≤640∧Q (.int n) H):=by
  intro pins s σ H xs us Q I r h
  obtain ⟨x,n,rfl,e,hl,q⟩:=h
  obtain ⟨u,rfl,t,rfl⟩:=vals1 r
  exact PySem.W.KIN.call_text e hl ⟨.int n,H,I.tok _,⟨_,rfl⟩,q⟩
end
end L2
namespace L2
open PySem PySem.Spec PyProof.Rows
section
variable {X:Cx} {e:Expr} {te:TE} {p pos pos1:Pos}
inductive ZtIsiT (Q:VK) (x:V) (H1:Hp):Prop where
  | mk:∀ a xs,(x=.ref a)→((H1 a=some (.lst xs)∨H1 a=some (.tup xs)))→(Q (.bl true) H1)→ZtIsiT Q x H1
def tIsiT (te:TE):TE:=fun σ H Q=>te σ H fun x H1=>ZtIsiT Q x H1
end
end L2
namespace HT
open PySem PyProof.Rows
section
variable {prog:Program} {w:World} {A:Around} {E:Value→Shared→Prop} {s:Shared}
theorem getItem_tuple_whole {t sl:Addr} {items:Array Value} {vl vu:Value} {lo hi:Option Int} {Q:Value→Shared→Prop} (ht:IsTup s.heap t items) (hs:s.heap.IsSliceOf sl vl vu .none) (pl:IsPart vl lo) (pu:IsPart vu hi)
    (hw:sIx items.size 0 lo=0∧sIx items.size items.size hi=items.size) (h:Q (.ref t) s):wpAny (model prog w) A (getItem (.ref t) (.ref sl)) Q E s:=by
  obtain ⟨os,hos,hcs,hds⟩:=id hs
  have hTs:s.TypeIs (.ref sl) "slice" := ⟨os,hos,hcs⟩
  unfold getItem
  try with_reducible refine wpAny_holding ?_
  first | refine wpAny_bind (wpAny_pure ?_) | skip
  refine wpAny_bind (wpAny_sequenceKey ht.typeIs (by decide) ?_)
  refine wpAny_bind (wpAny_callSpecial?_slot (name:=Str.ofString "__getitem__") ht.typeIs PyProof.Rows.slot_tuple_getitem
    (wpAny_call_entry PyProof.Rows.slot_tuple_getitem ht.typeIs entry_tuple_getitem ?_ (args_tuple_getitem _ _)))
  show wpAny _ _ (Builtin.Tuple.tupleItemsOf (.ref t) >>= _) _ _ s
  refine wpAny_bind (tupleItemsOf_ ht ?_)
  refine wpAny_bind (wpAny_typeOf hTs ?_)
  rw [if_pos (by decide)]
  refine wpAny_bind (sliceApplied_gen hs pl pu ?_)
  have hyes:(((sIx items.size 0 lo:Nat):Int) == 0 && (1:Int) == 1 && (sIx items.size items.size hi - sIx items.size 0 lo) == items.size)=true:=by
    rw [hw.1,hw.2,Nat.sub_zero]
    simp
  show wpAny _ _ (if (((sIx items.size 0 lo:Nat):Int) == 0 && (1:Int) == 1 && (sIx items.size items.size hi - sIx items.size 0 lo) == items.size)=true then _ else _) _ _ s
  rw [if_pos hyes]
  refine wpAny_bind ?_
  unfold Builtin.Tuple.tupleIsExact
  refine wpAny_bind (wpAny_typeOf ht.typeIs (wpAny_pure ?_))
  rw [if_pos (by decide)]
  first
    | exact wpAny_bind (wpAny_rule (wpAny_pure ⟨_,rfl,wpAny_pure h⟩))
    | (refine wpAny_pure ?_; exact ⟨_,rfl,wpAny_pure h⟩)
    | (refine wpAny_bind (wpAny_pure ?_); refine wpAny_pure ?_; exact ⟨_,rfl,wpAny_pure h⟩)
    | (refine wpAny_bind (wpAny_pure ?_); refine wpAny_bind (wpAny_pure ?_); refine wpAny_pure ?_; exact ⟨_,rfl,wpAny_pure h⟩)
    | (refine wpAny_bind (wpAny_bind (wpAny_pure ?_)); refine wpAny_pure ?_; exact ⟨_,rfl,wpAny_pure h⟩)
end
end HT
namespace L2
open PySem PySem.Spec PyProof.Rows
section
variable {X:Cx}
inductive rSlTW (K:PySem.W.Frag) (x:V) (lo:Option Int) (hi:Option Int) (H:Hp) (Q:VK):Prop where
  | mk:∀ a xs,(x=.ref a)→(SqT K H a xs)→((HT.sIx xs.length 0 lo=0∧HT.sIx xs.length xs.length hi=xs.length))→(Q (.ref a) H)→rSlTW K x lo hi H Q
theorem sl_tupW:SlR X (rSlTW X.K):=by
  intro pins s σ H x v vl vu lo hi sl Q I rx hs pl pu h
  obtain ⟨a,xs,rfl,hx,hw,q⟩:=h
  cases rx
  obtain ⟨its,r,ht,hz⟩:=I.tuple hx
  have hlen:its.toArray.size=xs.length:=by rw [List.size_toArray]; exact r.length.symm
  refine ⟨"tuple", _,PyProof.Rows.slot_tuple_getitem.lookup,ht.typeIs,?_⟩
  exact HT.getItem_tuple_whole ht hs pl pu (by rw [hlen]; exact hw) ⟨.ref a,H,I,rfl,q⟩
theorem cutV_whole {xs:List V} {lo hi:Option Int} (hw:HT.sIx xs.length 0 lo=0∧HT.sIx xs.length xs.length hi=xs.length):cutV xs lo hi=xs:=by
  unfold cutV
  rw [hw.1,hw.2,List.drop_zero,Nat.sub_zero,List.take_length]
inductive rSlTA (K:PySem.W.Frag) (x:V) (lo:Option Int) (hi:Option Int) (H:Hp) (Q:VK):Prop where
  | mk:∀ a xs,(x=.ref a)→(SqT K H a xs)→(H a=some (.tup xs))→(∀ p H',Same H H'→H' p=some (.tup (cutV xs lo hi))→Q (.ref p) H')→rSlTA K x lo hi H Q
theorem sl_tupA:SlR X (rSlTA X.K):=by
  intro pins s σ H x v vl vu lo hi sl Q I rx hs pl pu h
  obtain ⟨a,xs,rfl,hx,ha,q⟩:=h
  by_cases hw:HT.sIx xs.length 0 lo=0∧HT.sIx xs.length xs.length hi=xs.length
  · exact sl_tupW pins s σ H _ v vl vu lo hi sl Q I rx hs pl pu ⟨a,xs,rfl,hx,hw,q a H (Same.refl _) (by rw [cutV_whole hw]; exact ha)⟩
  · exact sl_tup pins s σ H _ v vl vu lo hi sl Q I rx hs pl pu ⟨a,xs,rfl,hx,hw,fun p hp=>q p _ (Same.new hp _) upd_same⟩
end
end L2
namespace L2
open PySem PySem.Spec PyProof.Rows
def SqIt (h:Heap) (i l:Addr) (k:Nat) (xs:Array Value):Prop:=(h.IsListIter i l k∧h.IsList l xs)∨(h.IsTupleIter i l k∧h.IsTuple l xs)
section
variable {prog:Program} {w:World} {A:Around} {E:Value→Shared→Prop} {s:Shared}
end
def itO (b:Bool) (l:Addr):Obj:={ cls:=.type (if b=true then "list_iterator" else "tuple_iterator"),data:=.fields #[.ref l,.int 0 0] }
def SqO (b:Bool) (h:Heap) (l:Addr) (xs:Array Value):Prop:=if b=true then h.IsList l xs else h.IsTuple l xs
abbrev zqH (h:Heap) (b1 b2:Bool) (l1 l2:Addr):Heap:=((((h.push (itO b1 l1)).push (itO b2 l2)).push { cls:=.type "tuple", data:=.seq #[.ref h.objs.size,.ref (h.push (itO b1 l1)).objs.size] }).push { cls:=.type "tuple", data:=.seq #[.none,.none] }).push
  { cls:=.type "zip", data:=.fields #[.none,.bool false,.bool false,.ref ((h.push (itO b1 l1)).push (itO b2 l2)).objs.size,.ref (((h.push (itO b1 l1)).push (itO b2 l2)).push { cls:=.type "tuple", data:=.seq #[.ref h.objs.size,.ref (h.push (itO b1 l1)).objs.size] }).objs.size] }
abbrev zqA (h:Heap) (b1 b2:Bool) (l1 l2:Addr):Addr:=((((h.push (itO b1 l1)).push (itO b2 l2)).push { cls:=.type "tuple", data:=.seq #[.ref h.objs.size,.ref (h.push (itO b1 l1)).objs.size] }).push { cls:=.type "tuple", data:=.seq #[.none,.none] }).objs.size
end L2
namespace L2
open PySem PySem.Spec PyProof.Rows
section
variable {prog:Program} {w:World} {A:Around} {E:Value→Shared→Prop} {s:Shared}
end
def SqB (K:PySem.W.Frag) (b:Bool) (H:Hp) (a:Addr) (xs:List V):Prop:=if b=true then SqL K H a xs else SqT K H a xs
def Itz (K:PySem.W.Frag) (c d:Bool) (a b:Addr):It :=
  ⟨fun i H=>∃ xs ys x y,SqB K c H a xs∧SqB K d H b ys∧xs[i]?=some x∧ys[i]?=some y,fun i H v H'=>∃ t,v=.ref t∧H t=none∧∀ xs ys x y,SqB K c H a xs→SqB K d H b ys→xs[i]?=some x→ys[i]?=some y→H'=upd H t (.tup [x,y]),
    fun i H=>∃ xs ys,SqB K c H a xs∧SqB K d H b ys∧(xs.length≤i∨ys.length≤i)⟩
end L2
namespace L2
open PySem PySem.Spec PyProof.Rows
section
variable {X:Cx} {elts:List Expr} {k:Nat} {tpos:Pos}
inductive ZiZip (K:PySem.W.Frag) (R:(It→Hp→Prop)) (vs:(List V)) (H1:Hp):Prop where
  | mk:∀ a b c d,(vs=[.ref a,.ref b])→((∃ xs,SqB K c H1 a xs))→((∃ ys,SqB K d H1 b ys))→(R (Itz K c d a b) H1)→ZiZip K R vs H1
def iZip (K:PySem.W.Frag) (tl:TA):TI:=fun σ H R=>tl σ H fun vs H1=>ZiZip K R vs H1
end
end L2
namespace L2
open PySem PySem.Spec PyProof.Rows
section
variable {X:Cx} {x y2:Str} {N:List Str} {ix:List Nat} {scope:Scope} {cl:List (Str × Addr)} {elt iter:Expr} {ifs:List Expr} {px py pt pos:Pos} {kt:Nat} {wi:TI} {tb:TBl}
def CompEx2 (K:PySem.W.Frag) (J:It) (D:Addr) (ix:List Nat) (tb:TBl) (σ:St) (H:Hp) (Q:VK):Prop:=∃ W:Nat→Nat→Hp→Prop,(∃ m,W 0 m (upd H D (.lst [])))∧∀ i m H2,W i m H2 →
  (J.stop i H2∧Q (.ref D) H2)∨(J.go i H2∧∀ y H3,J.yld i H2 y H3→∃ t v1 v2,y=.ref t∧SqT K H3 t [v1,v2]∧tb (some v1::some v2::outs ix σ) H3 (fun H4=>∃ m',m' < m∧W (i+1) m' H4)
    fun z H4=>∃ ys,H4 D=some (.lst ys)∧ys.length < sizeLine∧∃ m',m' < m∧W (i+1) m' (upd H4 D (.lst (ys++[z]))))
def tCompR2 (K:PySem.W.Frag) (wi:TI) (ix:List Nat) (tb:TBl):TE:=fun σ H Q=>wi σ H fun J H1=>∀ D,H1 D=none→CompEx2 K J D ix tb σ H1 Q
end
end L2
namespace L2
open PySem PyProof.Rows HT
section
variable {X:Cx}
inductive rAny (K:PySem.W.Frag) (xs:List V) (H:Hp) (Q:VK):Prop where
  | mk:∀ (a:Addr) (bs:List Bool),(xs=[.ref a])→(SqL K H a (bs.map V.bl))→(Q (.bl (bs.any id)) H)→rAny K xs H Q
end
end L2
namespace L2
open PySem PySem.Spec PyProof.Rows
section
variable {X:Cx}
def startsAt (z u:Str) (i:Int):Bool:=decide (PySem.fromIndex z.length i+u.length≤z.length) && Builtin.Str.subAt z u (PySem.fromIndex z.length i)
inductive rStartsAt (x:V) (vs:List V) (H:Hp) (Q:VK):Prop where
  | mk:∀ z u i,(x=.str z)→(vs=[.str u,.int i])→(Q (.bl (startsAt z u i)) H)→rStartsAt x vs H Q
theorem mt_startsAt:MtR X "str.startswith" rStartsAt:=by
  intro pins s σ H x vs v us Q I rx rv h
  obtain ⟨z,u,i,rfl,rfl,q⟩:=h
  obtain ⟨t,rfl⟩:=rx
  cases rv with
  | cons r1 rv1 =>
    cases rv1 with
    | cons r2 rv2 =>
      cases rv2
      obtain ⟨t1,rfl⟩:=r1
      obtain ⟨t2,rfl⟩:=r2
      exact call_gives F.slot_str_startswith (typeIs_str _ _ _) F.entry_str_startswith (F.args_str_startswith_3 _ _ _) (gives_str_startswith_from z u i t t1 t2) ⟨.bl _,H,I,rfl,q⟩
abbrev TJ:=St→Hp→Str→VK→Prop
def PJ (X:Cx) (es:List Expr) (t:TJ):Prop :=
  ∀ (pins:List (Addr × Obj)) (s:Shared) (σ:St) (H:Hp) (out:Str) (Q:VK),Inv X pins σ H s→t σ H out Q→wpAny (model X.prog X.w) X.A (joinParts out (evalEach es X.env)) (EP X pins σ Q) X.xe s
theorem pj_nil:PJ X [] (fun _ H out Q=>out.length≤sizeLine∧Q (.str out) H):=by
  intro pins s σ H out Q I h
  exact joinParts_nil ⟨.str out,H,I.tok _,relS I.tk,h.2⟩ h.1
theorem pj_cons {e:Expr} {es:List Expr} {te:TE} {t:TJ} (he:PE X e te) (ht:PJ X es t):PJ X (e::es) (fun σ H out Q=>te σ H fun v H1=>∃ y,v=.str y∧(out++y).length≤sizeLine∧t σ H1 (out++y) Q):=by
  intro pins s σ H out Q I h
  show wpAny _ _ (joinParts out (eval e X.env::evalEach es X.env)) _ _ s
  refine joinParts_cons (thn (he pins s σ H _ I h) fun v s1 ⟨x,H1,I1,r1,y,ex,hz,q⟩=>?_)
  subst ex
  obtain ⟨t',rfl⟩:=r1
  exact ⟨hz,ht pins s1 σ H1 _ Q I1 q⟩
theorem pe_fstr {e1 e2:Expr} {es:List Expr} {t:TJ} {pos:Pos} (h:PJ X (e1::e2::es) t):PE X (.JoinedStr (e1::e2::es) pos) (fun σ H Q=>t σ H Str.empty Q) :=
  fun pins s σ H Q I k=>JoinedStr_many (h pins s σ H Str.empty Q I k)
theorem pe_fmt {e:Expr} {te:TE} {pos:Pos} (he:PE X e te):PE X (.FormattedValue e (-1) none pos) (fun σ H Q=>te σ H fun v H1=>∃ y,v=.str y∧y.length≤sizeLine∧Q (.str y) H1):=by
  intro pins s σ H Q I h
  refine FormattedValue_plain (thn (he pins s σ H _ I h) fun v s1 ⟨x,H1,I1,r1,y,ex,hz,q⟩=>?_)
  subst ex
  obtain ⟨t',rfl⟩:=r1
  exact wpAny_formatField_str ⟨.str y,H1,I1,⟨_,rfl⟩,q⟩ ⟨.str y,H1,I1.tok _,relS I1.tk,q⟩ hz
end
end L2
namespace L2
open PySem PySem.Spec PyProof.Rows
section
variable {X:Cx}
end
end L2
namespace L2
open PySem PySem.Spec PyProof.Rows
abbrev IsZipB (h:Heap) (z TI TO:Addr) (f0:Value) (b:Bool):Prop :=
  h.get? z=some { cls:=.type "zip", dict:=none,data:=.fields #[f0,.bool b,.bool false,.ref TI,.ref TO],slots:=#[] }
section
variable {prog:Program} {w:World} {A:Around} {E:Value→Shared→Prop} {s:Shared}
end
end L2
namespace L2
open PySem PySem.Spec PyProof.Rows
def ItK (c:Bool) (h:Heap) (i1 a:Addr) (k:Nat):Prop:=∃ o,h.get? i1=some o∧o.cls=.type (if c=true then "list_iterator" else "tuple_iterator")∧o.data=.fields #[.ref a,.int k 0]
def ZSt (c d:Bool) (a b z TI TO i1 i2:Addr) (cs:List Addr) (i:Nat) (h:Heap):Prop :=
  ((i=0∧IsZip h z TI TO .none)∨∃ (t:Addr) (f:Bool),cs[0]?=some t∧IsZipB h z TI TO (rawInt t) f)∧IsPair h TI (.ref i1) (.ref i2)∧(∃ p q,IsPair h TO p q)∧ItK c h i1 a i∧ItK d h i2 b i
def PairsAt (H:Hp) (cs:List Addr) (xs ys:List V):Prop:=∀ (j:Nat) (t:Addr) (x y:V),cs[j]?=some t→xs[j]?=some x→ys[j]?=some y→H t=some (.tup [x,y])
section
variable {X:Cx} {pins:List (Addr × Obj)} {σ:St}
end
end L2
namespace L2
open PySem PySem.Spec PyProof.Rows
section
variable {X:Cx} {pins:List (Addr × Obj)} {σ:St}
inductive ZtListZip (K:PySem.W.Frag) (t:TA) (Q:VK) (vs:(List V)) (H1:Hp):Prop where
  | mk:∀ a b c d xs ys,(vs=[.ref a,.ref b])→(SqB K c H1 a xs)→(SqB K d H1 b ys)→(xs.length=ys.length)→(xs.length≤sizeLine)→(∀ S cs H2,H1 S=none→H2 S=some (.lst (cs.map V.ref))→cs.length=xs.length→PairsAt H2 cs xs ys→(∀ t ∈ cs,H1 t=none∧t ≠ S)→Same H1 H2→Q (.ref S) H2)→ZtListZip K t Q vs H1
def tListZip (K:PySem.W.Frag) (t:TA):TE:=fun σ H Q=>t σ H fun vs H1=>ZtListZip K t Q vs H1
inductive rNeNil (K:PySem.W.Frag) (x:V) (y:V) (H:Hp) (Q:VK):Prop where
  | mk:∀ a b xs,(x=.ref a)→(y=.ref b)→(SqL K H a xs)→(SqL K H b [])→(Q (.bl (!xs.isEmpty)) H)→rNeNil K x y H Q
theorem op_neNil (hu:X.A.units < cLine):OpR X (compareOp .NotEq) (rNeNil X.K):=by
  intro pins s σ H x y v u Q I rx ry h
  obtain ⟨a,b,xs,rfl,rfl,ha,hb,q⟩:=h
  cases rx
  cases ry
  obtain ⟨its,r1,p1,_⟩:=I.list ha
  obtain ⟨its2,r2,p2,_⟩:=I.list hb
  have e2:its2=[]:=r2.nil_iff.mpr rfl
  subst e2
  cases xs with
  | nil =>
    have e1:its=[]:=r1.nil_iff.mpr rfl
    subst e1
    exact (SeqAt.RcNeAt.lists (e:=fun _=>true) p1.isList p2.isList rfl hu fun j h1=>absurd h1 (by simp)) X.prog X.w X.xe _ ⟨.bl false,H,I,rfl,q⟩
  | cons z r =>
    have l1:=r1.length
    exact (SeqAt.RcNeAt.lists_lengths p1.isList p2.isList (by simp at l1 ⊢; intro e; rw [e] at l1; simp at l1) hu) X.prog X.w X.xe _ ⟨.bl true,H,I,rfl,q⟩
end
end L2
namespace L2
open PySem PySem.Spec PyProof.Rows
section
variable {X:Cx}
theorem call_strV:CallR X (.type "str") (fun xs H Q=>(∃ i,xs=[.int i]∧i.natAbs.log2 < 1920∧Q (.str (toString i)) H)∨∃ x,xs=[.str x]∧Q (.str x) H):=by
  intro pins s σ H xs us Q I r h
  rcases h with ⟨i,rfl,hz,q⟩ | ⟨x,rfl,q⟩
  · obtain ⟨u,rfl,t,rfl⟩:=vals1 r
    exact PySem.P.str_of_int hz ⟨.str _,H,I.tok _,relS I.tk,q⟩
  · obtain ⟨u,rfl,t,rfl⟩:=vals1 r
    exact PySem.P.str_of_str ⟨.str x,H,I,⟨_,rfl⟩,q⟩
end
end L2
namespace L2
open PySem
section
variable {M:Model} {A:Around} {E:Value→Shared→Prop} {h:Heap} {g:Array GenState} {d:Drawn} {t:Nat} {os:OsState}
variable {nm q:Str} {C N:Addr} {bs bm:List Value} {hdct:Bool} {sn:List Str} {sub:List Value} {ab:Bool} {col:Option Bool} {dd:Option Addr} {k0 k1 k2 k3 k5:Option Value} {Bn newId inN:String} {bmN:List Value}
theorem check_newX (Fn:ExcBaseFacts Bn newId inN bmN) (hcont:(Value.ref C::bm).contains (.type Bn)=true) {rest:List Value} {Q:Unit→Shared→Prop} (hC:h.get? C=some (excClassObj nm q C N bs bm hdct sn sub ab col dd k0 k1 k2 k3 k5 newId))
    (hq:Q () ⟨h,g,d,t,os⟩):wpAny M A (checkBuiltinCall newId ⟨.ref C::rest,[]⟩) Q E ⟨h,g,d,t,os⟩:=by
  have hstar:=Fn.noStar
  simp only [checkBuiltinCall,Fn.newKind,Fn.newSplit,Fn.newRow]
  repeat (first | refine wpAny_loadPart_at hC ?_ | (refine wpAny_isSubtype_exc hC ?_; rw [hcont]) | refine wpAny_staticBase_exc hC ?_ | refine wpAny_madeBy_exc hC ?_ | simp only [bne_self_eq_false,Bool.false_eq_true,if_false] | wp_step)
  exact hq
end
section
variable {prog:Program} {w:World} {A:Around} {R:Result→Shared→Prop} {h:Heap} {g:Array GenState} {d:Drawn} {t:Nat} {os:OsState}
variable {nm q:Str} {C N:Addr} {bs bm:List Value} {hdct:Bool} {sn:List Str} {sub:List Value} {ab:Bool} {col:Option Bool} {dd:Option Addr} {k0 k1 k2 k3 k5:Option Value} {Bn newId inN:String} {bmN:List Value}
theorem exc_newX (Fn:ExcBaseFacts Bn newId inN bmN) (hcB:(Value.ref C::bm).contains (.type Bn)=true) (hcA:(Value.ref C::bm).contains (.type "AttributeError")=false) (hcN:(Value.ref C::bm).contains (.type "NameError")=false) {rest:List Value} (hC:h.get? C=some (excClassObj nm q C N bs bm hdct sn sub ab col dd k0 k1 k2 k3 k5 newId))
    (hq:R (.ok (.ret (.ref (h.objs.size+1)))) ⟨(h.push { cls:=.type "tuple", data:=.seq rest.toArray }).push
      { cls:=.ref C,data:=.fields #[.ref h.objs.size,.none,.none,.none,.bool false,.none] },g,d,t,os⟩) (hrest:rest.length≤sizeLine:=by size_fits) :
    codeAny (model prog w) A (.builtin newId ⟨.ref C::rest,[]⟩) R ⟨h,g,d,t,os⟩:=by
  have hends:=Fn.ends
  refine codeAny_builtinAt Fn.entry ?_
  unfold Builtin.«BaseException.__new__»
  refine wpAt_bind ?_
  show wpAt _ _ _ (stack >>= _) _ _ _
  refine wpAt_bind (wpAt_stack fun p below=>wpAt_of_wpAny ?_)
  wp_walk
  refine wpAt_of_wpAny ?_
  rw [Fn.owner]
  repeat (first | with_reducible refine wpAny_madeHere_exc Fn.canon hC ?_ | with_reducible refine wpAny_loadPart_at hC ?_ | (with_reducible refine wpAny_isSubtype_exc hC ?_; first | rw [hcB] | rw [hcA] | rw [hcN]) | wp_step)
  show R _ _
  rw [Heap.size_push]
  exact hq
end
section
variable {prog:Program} {w:World} {A:Around} {E:Value→Shared→Prop} {h:Heap} {g:Array GenState} {d:Drawn} {t:Nat} {os:OsState}
variable {nm q:Str} {C N:Addr} {bs bm:List Value} {hdct:Bool} {sn:List Str} {sub:List Value} {ab:Bool} {col:Option Bool} {dd:Option Addr} {k0 k1 k2 k3 k5:Option Value} {Bn newId inN:String} {bmN:List Value}
abbrev excObj (C:Addr) (dx:Option Addr) (vs:Array Value):Obj:={ cls:=.ref C,dict:=dx,data:=.fields vs }
abbrev excNew (C a:Addr):Obj:=excObj C none #[.ref a,.none,.none,.none,.bool false,.none]
theorem type_call_initX (Fn:ExcBaseFacts Bn newId inN bmN) (hcB:(Value.ref C::bm).contains (.type Bn)=true) (hcA:(Value.ref C::bm).contains (.type "AttributeError")=false) (hcN:(Value.ref C::bm).contains (.type "NameError")=false) {rest:List Value} {fI:Addr} {oI:Obj} {Q:Fin→Shared→Prop}
    (hC:h.get? C=some (excClassObj nm q C N bs bm hdct sn sub ab col dd k0 k1 k2 k3 k5 newId)) (hi:PySem.W.Looks (model prog w) h (typeLookup (.ref C) "__init__") (some (.ref fI)))
    (hfI:h.get? fI=some oI) (hfc:oI.cls=.type "function")
    (hq:wpAny (model prog w) A (call (.ref fI) (.ref (h.objs.size+1)::rest)) (fun r s'=>r=.none∧Q (.done (.ret (.ref (h.objs.size+1)))) s') E ⟨(h.push { cls:=.type "tuple", data:=.seq rest.toArray }).push (excNew C h.objs.size),g,d,t,os⟩) (hrest:rest.length≤sizeLine:=by size_fits) :
    wpAny (model prog w) A (Builtin.«type.__call__» ⟨.ref C::rest,[]⟩) Q E ⟨h,g,d,t,os⟩:=by
  repeat (first | with_reducible refine wpAny_loadPart_at hC ?_ | with_reducible refine wpAny_madeBy_exc hC ?_ | wp_step)
  refine codeAny_call_builtin_code (Code.quiet_builtin _ Fn.quiet) (check_newX Fn hcB hC ?_)
  refine exc_newX Fn hcB hcA hcN hC ?_ hrest
  show wpAny _ _ _ _ _ _
  have hC₁:=Heap.get?_push_of_some (excNew C h.objs.size) (Heap.get?_push_of_some { cls:=.type "tuple", data:=.seq rest.toArray } hC)
  have hfI₁:=Heap.get?_push_of_some (excNew C h.objs.size) (Heap.get?_push_of_some { cls:=.type "tuple", data:=.seq rest.toArray } hfI)
  have hget:((h.push { cls:=.type "tuple", data:=.seq rest.toArray }).push (excNew C h.objs.size)).get? (h.objs.size+1)=some (excNew C h.objs.size):=by heap_get
  have hcC:(Value.ref C::bm).contains (.ref C)=true:=by simp
  unfold isInstance
  repeat (first | with_reducible refine wpAny_loadPart_at hget ?_ | (with_reducible refine wpAny_isSubtype_exc hC₁ ?_; rw [hcC]) | wp_step)
  show wpAny _ _ (typeLookup (.ref C) _) _ _ _
  refine hi _ _ _ _ (fun b o e=>Heap.get?_push_of_some _ (Heap.get?_push_of_some _ e)) ?_
  refine wpAny_holding (wpAny_bind ?_)
  unfold bindSpecial
  refine wpAny_bind (wpAny_typeOf (T := "function") ⟨_,hfI₁,hfc⟩ ?_)
  rw [if_pos (by decide)]
  refine wpAny_pure (wpAny_bind (wpAny_mono hq (fun r s' hr=>?_) fun _ _ x=>x))
  obtain ⟨rfl,hQ⟩:=hr
  wp_walk
  exact hQ
theorem call_exc_initX (Fn:ExcBaseFacts Bn newId inN bmN) (hcB:(Value.ref C::bm).contains (.type Bn)=true) (hcA:(Value.ref C::bm).contains (.type "AttributeError")=false) (hcN:(Value.ref C::bm).contains (.type "NameError")=false) {rest:List Value} {fI:Addr} {oI:Obj} {Q:Value→Shared→Prop}
    (hC:h.get? C=some (excClassObj nm q C N bs bm hdct sn sub ab col dd k0 k1 k2 k3 k5 newId)) (hi:PySem.W.Looks (model prog w) h (typeLookup (.ref C) "__init__") (some (.ref fI)))
    (hfI:h.get? fI=some oI) (hfc:oI.cls=.type "function")
    (hq:wpAny (model prog w) (A.under (.builtin "type.__call__" ⟨.ref C::rest,[]⟩)) (call (.ref fI) (.ref (h.objs.size+1)::rest)) (fun r s'=>r=.none∧Q (.ref (h.objs.size+1)) s') E ⟨(h.push { cls:=.type "tuple", data:=.seq rest.toArray }).push (excNew C h.objs.size),g,d,t,os⟩) (hrest:rest.length≤sizeLine:=by size_fits) :
    wpAny (model prog w) A (call (.ref C) rest) Q E ⟨h,g,d,t,os⟩:=by
  have f1:=tc_lookup
  have f2:=tc_bind (.ref C)
  have hT:(⟨h,g,d,t,os⟩:Shared).TypeIs (.ref C) "type" := ⟨_,hC,rfl⟩
  refine wpAny_call (codeAny_of_tree ?_)
  show wpAny _ _ (callAny (.ref C) _) _ _ _
  repeat (any_goals (first | assumption | with_reducible refine wpAny_loadPart_at hC ?_ | wp_step))
  refine ⟨rfl,?_⟩
  refine codeAny_call_builtin_at (Code.quiet_builtin _ (by decide +kernel)) entry_typeCall (wpAny_check_type_call_sub hC (type_call_initX (hrest:=hrest) Fn hcB hcA hcN hC hi hfI hfc ?_))
  exact hq
end
end L2
namespace L2
open PySem PySem.Spec PyProof.Rows
def ObP (e:Addr) (p:Obj→Prop):HO:=.ext fun h=>∃ o,h.get? e=some o∧p o
theorem ObP.ok {P:Program} {w:World} {H:Hp} {h:Heap} {e:Addr} {p:Obj→Prop} {o:Obj} (ho:h.get? e=some o) (hp:p o):ObjOk P w H h e (ObP e p) :=
  ⟨⟨o,ho,hp⟩,⟨o,ho⟩,fun _ _ ⟨o,ho,hp⟩ k=>⟨o,k o ho,hp⟩⟩
theorem ObP.get {P:Program} {w:World} {H:Hp} {h:Heap} {e:Addr} {p:Obj→Prop} (x:HOk P w H h) (he:H e=some (ObP e p)):∃ o,h.get? e=some o∧p o:=(x e _ he).1
abbrev vs6 (a:Addr):Array Value:=#[.ref a,.none,.none,.none,.bool false,.none]
def ExcN (C e:Addr):HO:=ObP e fun o=>∃ a,o=excObj C none (vs6 a)
def ExcD (C e dx:Addr):HO:=ObP e fun o=>∃ a,o=excObj C (some dx) (vs6 a)
def ExcT (C e dx:Addr):HO:=ObP e fun o=>∃ vs,o=excObj C (some dx) vs∧vs.size=6∧vs[2]?=some Value.none
structure MkX (K:PySem.W.Frag) (C f:Addr):Prop where
  obj:∃ (nm q:Str) (N:Addr) (bs bm:List Value) (hdct:Bool) (sn:List Str) (sub:List Value) (ab:Bool) (col:Option Bool) (dd:Option Addr) (k0 k1 k2 k3 k5:Option Value),K.lookup C=some (excClassObj nm q C N bs bm hdct sn sub ab col dd k0 k1 k2 k3 k5 "ValueError.__new__") ∧
    (Value.ref C::bm).contains (.type "ValueError")=true∧(Value.ref C::bm).contains (.type "AttributeError")=false∧(Value.ref C::bm).contains (.type "NameError")=false
  init:PySem.W.findIn K (.ref C) "__init__" = some (some (.ref f))
  fn:∃ o,K.lookup f=some o∧o.cls=.type "function"
  kp:PySem.W.keepIn K (.ref C)=true
section
variable {X:Cx} {CX:CXT} {k:Nat} {f C:Addr} {fd:FuncData} {ps:List Str} {sp:Sp} {dvs:List V} {ds:List Value} {E:XK} {x m:Str} {p pos apos:Pos} {e o:Expr} {es:List Expr} {ta:TE} {t:TA}
theorem run_makeX {pins:List (Addr × Obj)} {σ:St} {H:Hp} {s:Shared} {Q:VK} {us:List Value} {vs:List V} (M:MkX X.K C f) (Fo:FnOk X.prog X.w X.K X.mg X.base CX k f fd ps sp) (hr:Room (k+1) X.A) (hb:Binds X.K fd ps ds) (hd:Vals dvs ds)
    (hx:Passes CX X E) (I:Inv X pins σ H s) (r:Vals vs us) (hz:vs.length≤sizeLine)
    (h:∀ e,H e=none→sp (.ref e::(vs++dvs)) (upd H e (ExcN C e)) (fun v H2=>v=.non∧Q (.ref e) H2) E) :
    wpAny (model X.prog X.w) X.A (call (.ref C) us) (EP X pins σ Q) X.xe s:=by
  have hf:H (s.heap.objs.size+1)=none:=I.hok.fresh (Nat.le_succ _)
  have hq:=h (s.heap.objs.size+1) hf
  obtain ⟨nm,q,N,bs,bm,hdct,sn,sub,ab,col,dd,k0,k1,k2,k3,k5,lk,c1,c2,c3⟩:=M.obj
  obtain ⟨oI,lf,hfc⟩:=M.fn
  obtain ⟨hh,g,d,tk,os⟩:=s
  have I1:Inv X pins σ H { heap:=hh.push { cls:=.type "tuple", data:=.seq us.toArray },gens:=g,drawn:=d,toks:=tk,os:=os }:=I.kept (t':=tk) fun b o e=>Heap.get?_push_of_some _ e
  have sz1:(hh.push { cls:=.type "tuple", data:=.seq us.toArray }).objs.size=hh.objs.size+1:=Heap.size_push ..
  have I2:Inv X pins σ (upd H (hh.objs.size+1) (ExcN C (hh.objs.size+1))) { heap:=(hh.push { cls:=.type "tuple", data:=.seq us.toArray }).push (excNew C hh.objs.size),gens:=g,drawn:=d,toks:=tk,os:=os } :=
    I1.laid (t':=tk) (fun b o e=>Heap.get?_push_of_some _ e) (Nat.le_of_eq sz1) (ObP.ok (o:=excNew C hh.objs.size) (by rw [← sz1]; exact Heap.get?_push_size _ rfl) ⟨_,rfl⟩)
  have r2:Vals (V.ref (hh.objs.size+1)::(vs++dvs)) (Value.ref (hh.objs.size+1)::(us++ds)):=.cons rfl (r.append hd)
  have hl:(Value.ref (hh.objs.size+1)::us++ds).length=ps.length:=by
    have e:=r2.length
    rw [Fo.len _ _ _ _ hq] at e
    exact e.symm
  refine call_exc_initX PySem.F.excBase_ValueError c1 c2 c3 (I.kIn _ _ lk) (PySem.W.looks_findIn I.kIn M.init) (I.kIn _ _ lf) hfc ?_ (by rw [← r.length]; exact hz)
  refine wpAny_call (codeAny_mono (Fo.run _ X.stack _ _ ⟨Value.ref (hh.objs.size+1)::us,[]⟩ (Value.ref (hh.objs.size+1)::(us++ds)) _ _ E (hr.make C us []) (I2.env0.make C us []) (hb _ (Value.ref (hh.objs.size+1)::us) I2.kIn hl) r2 hq) fun r s' hq'=>?_)
  cases r with
  | error e=>exact hx pins σ _ _ e s' I2 hq'
  | ok fl =>
    cases fl with
    | ret u =>
      obtain ⟨v,H',I3,rv,ev,q3⟩:=I2.after hq'
      subst ev
      exact ⟨rv,⟨V.ref (hh.objs.size+1),H',I3,rfl,q3⟩⟩
    | next=>exact False.elim hq'
    | brk=>exact False.elim hq'
    | cont=>exact False.elim hq'
inductive ZtMakeX (C:Addr) (sp:Sp) (dvs:List V) (E:XK) (Q:VK) (vs:(List V)) (H1:Hp):Prop where
  | mk:(vs.length≤sizeLine)→(∀ e,H1 e=none →
  sp (.ref e::(vs++dvs)) (upd H1 e (ExcN C e)) (fun v H2=>v=.non∧Q (.ref e) H2) E)→ZtMakeX C sp dvs E Q vs H1
def tMakeX (C:Addr) (sp:Sp) (dvs:List V) (E:XK) (t:TA):TE:=fun σ H Q=>t σ H fun vs H1=>ZtMakeX C sp dvs E Q vs H1
theorem pe_makeX (M:MkX X.K C f) (F:FnOk X.prog X.w X.K X.mg X.base CX k f fd ps sp) (hr:Room (k+1) X.A) (hg:Gl X x) (hm:X.mg x=some (.ref C)) (hb:Binds X.K fd ps ds) (hd:Vals dvs ds) (hx:Passes CX X E)
    (ha:PA X (e::es) t) (hdb:(x == ("__debug__" : Str))=false:=by decide) (he:starEach (e::es) X.env=(false,eval e X.env)::starEach es X.env:=by rfl) (hpl:(backTo pos (starEach es X.env)).any (·.1)=false:=by rfl) :
    PE X (.Call (.Name x p) (e::es) [] pos) (tMakeX C sp dvs E t):=by
  intro pins s σ H Q I h
  refine wpAny_Call_Name_kw (ld_glob I hg hm ?_ hdb)
  refine PySem.W.callWith_K (h₀:=X.base) I.ok.mod.kin M.kp (thn (ha pos pins s σ H _ I h) fun us s1 ⟨vs,H1,I1,r,z,q⟩=>⟨I1.kIn,?_⟩) he hpl
  exact run_makeX M F hr hb hd hx I1 r z q
end
end L2
namespace L2
open PySem PySem.Spec PyProof.Rows
structure ClsFn (K:PySem.W.Frag) (C f:Addr) (name:Str):Prop where
  ga:PySem.W.specialIn K (.ref C) "__getattribute__" = some (some (.builtin "type.__getattribute__"))
  rd:PySem.W.readsIn K C (.type "type")=true
  fc:(match PySem.W.findCls K (.ref C) (.type "type") name with | some (.val v)=>some v | _=>none)=some (.ref f)
  kp:PySem.W.keepIn K (.ref f)=true
theorem ClsFn.find {K:PySem.W.Frag} {C f:Addr} {name:Str} (c:ClsFn K C f name):PySem.W.findCls K (.ref C) (.type "type") name=some (.val (.ref f)):=by
  have h:=c.fc
  split at h
  · rename_i v e
    cases h
    exact e
  · cases h
section
variable {X:Cx} {CX:CXT} {k:Nat} {f C:Addr} {fd:FuncData} {ps:List Str} {sp:Sp} {dvs:List V} {ds:List Value} {E:XK} {x m:Str} {p pos apos:Pos} {e o:Expr} {es:List Expr} {ta:TE} {t:TA}
theorem pe_clscall {pl:Sem Bool} (hg:Gl X x) (hm:X.mg x=some (.ref C)) (c:ClsFn X.K C f m) (Fo:FnOk X.prog X.w X.K X.mg X.base CX k f fd ps sp) (hr:Room k X.A) (hb:Binds X.K fd ps ds) (hd:Vals dvs ds) (hx:Passes CX X E) (ha:PA X (e::es) t) (hdb:(x == ("__debug__" : Str))=false:=by decide)
    (hst:starEach (e::es) X.env=(false,eval e X.env)::starEach es X.env:=by rfl) (hpl:(backTo pos (starEach es X.env)).any (·.1)=false:=by rfl)
    (ht:eval (.Call (.Attribute (.Name x p) m apos) (e::es) [] pos) X.env=(do
      let ov ← eval (.Name x p) X.env
      standAt apos.atName
      let (f,first) ← holding [ov] (getMethod ov m pl)
      callWith pos f first (backTo pos (starEach (e::es) X.env)) (backToKw pos (keywordEach [] X.env))):=by rfl) :
    PE X (.Call (.Attribute (.Name x p) m apos) (e::es) [] pos) (tCall sp dvs E t):=by
  intro pins s σ H Q I h
  refine PySem.W.methodCall_KW (pl:=pl) ?_ ht
  refine thn (pe_glob (v:=.ref C) hg hm rfl hdb pins s σ H (fun v H'=>v=.ref C∧H'=H) I ⟨rfl,rfl⟩) fun u s1 ⟨v,H1,I1,r1,ev,eH⟩=>?_
  subst ev eH
  cases r1
  refine PySem.W.method_cls I1.kIn c.ga (PySem.W.cls_value I1.kIn c.rd c.find rfl ?_)
  have I2:=I1.tok (s1.toks+1)
  refine PySem.W.callWith_K (first:=[]) (h₀:=X.base) I2.ok.mod.kin c.kp (thn (ha pos pins _ σ H1 _ I2 h) fun us s2 ⟨vs,H2,I3,r,q⟩=>⟨I3.kIn,?_⟩) hst hpl
  exact run_fn Fo hr hb hd hx I3 r q
end
section
variable {prog:Program} {w:World} {A:Around} {E:Value→Shared→Prop} {h:Heap} {g:Array GenState} {d:Drawn} {t:Nat} {os:OsState}
variable {nm q:Str} {C N:Addr} {bs bm:List Value} {hdct:Bool} {sn:List Str} {sub:List Value} {ab:Bool} {col:Option Bool} {dd:Option Addr} {k0 k1 k2 k3 k5:Option Value} {B newId nid initId inN:String} {bmN bmB:List Value}
theorem check_initX (Fb:ExcBaseFacts B nid initId bmB) (hcB:(Value.ref C::bm).contains (.type B)=true) {M:Model} {e:Addr} {oe:Obj} {rest:List Value} {Q:Unit→Shared→Prop}
    (hC:h.get? C=some (excClassObj nm q C N bs bm hdct sn sub ab col dd k0 k1 k2 k3 k5 newId)) (he:h.get? e=some oe) (hcls:oe.cls=.ref C) (hq:Q () ⟨h,g,d,t,os⟩) :
    wpAny M A (checkBuiltinCall initId ⟨.ref e::rest,[]⟩) Q E ⟨h,g,d,t,os⟩:=by
  have hshort:=Fb.noStar
  simp only [checkBuiltinCall,Fb.initKind,Fb.initSplit,Fb.initRow]
  repeat (first | (with_reducible refine wpAny_loadPart_at he ?_; rw [hcls]) | with_reducible refine wpAny_loadPart_at hC ?_ | (with_reducible refine wpAny_isSubtype_exc hC ?_; rw [hcB]) | wp_step)
  refine wpAny_onRaise ?_
  rw [show ∀ (a b:String) (n:Nat),Bind.check ⟨.positional, "*", B,.self,[⟨"args", .varPos,false⟩]⟩ a b n (List.map (fun x=>x.fst) ({ pos:=Value.ref e::rest }:Args).kw)=pure () from
    fun a b n=>check_star_args _ _ _ _ _ _]
  exact wpAny_pure hq
theorem exc_initX (Fb:ExcBaseFacts B nid initId bmB) (hcB:(Value.ref C::bm).contains (.type B)=true) {e a:Addr} {dx:Option Addr} {rest:List Value} {Q:Value→Shared→Prop}
    (hC:h.get? C=some (excClassObj nm q C N bs bm hdct sn sub ab col dd k0 k1 k2 k3 k5 newId)) (he:h.get? e=some (excObj C dx (vs6 a))) (hrest:rest.length≤sizeLine)
    (hq:Q .none ⟨(h.push { cls:=.type "tuple", data:=.seq rest.toArray }).update e (Obj.mapFields (·.setIfInBounds 0 (.ref h.objs.size))),g,d,t,os⟩) :
    wpAny (model prog w) A (call (.builtin initId) (.ref e::rest)) Q E ⟨h,g,d,t,os⟩:=by
  refine wpAny_call (codeAny_call_builtin Fb.init.plain Fb.initEntry (check_initX Fb hcB hC he rfl ?_))
  wp_walk
  exact hq
end
end L2
namespace L2
open PySem PySem.Spec PyProof.Rows
theorem val_find {K:PySem.W.Frag}:PySem.W.findCls K (.type "ValueError") (.type "type") "__init__" = some (.val (.builtin "ValueError.__init__")):=by
  with_unfolding_all rfl
theorem val_type:typeOf (.type "ValueError")=pure (.type "type"):=by
  kernel_rfl
theorem upd_id {H:Hp} {e:Addr} {o:HO} (h:H e=some o):upd H e o=H:=by
  funext b
  unfold upd
  split
  · rename_i z
    rw [z,h]
  · rfl
section
variable {prog:Program} {w:World} {A:Around} {E:Value→Shared→Prop} {s:Shared} {K:PySem.W.Frag} {name:Str}
theorem method_typeX {T:String} {v:Value} {pl:Sem Bool} {Q:Value × List Value→Shared→Prop} (X:K.In s.heap) (ht:typeOf (.type T)=pure (.type "type")) (hs:Manifest.isStub T=false)
    (e:PySem.W.findCls K (.type T) (.type "type") name=some (.val v)) (hh:PySem.W.handedIn v=true) (h:Q (v,[]) { s with toks:=s.toks+1 }):wpAny (model prog w) A (getMethod (.type T) name pl) Q E s:=by
  have hstub:opaqueClassAbove (.type T)=pure none:=by unfold opaqueClassAbove; dsimp only; rw [hs]; rfl
  have L0:PySem.W.Looks (model prog w) s.heap (typeOf (.type T)) (.type "type"):=PySem.W.Looks.of_pure ht
  have hg:PySem.W.findIn K (.type "type") "__getattribute__" = some (some (.builtin "type.__getattribute__")):=PySem.W.type_tga
  unfold getMethod specialOf
  refine wpAny_bind (wpAny_bind (L0.here ((PySem.W.looks_findIn X hg).here ?_)))
  dsimp only
  rw [if_pos PySem.W.canon_tga]
  refine wpAny_bind (wpAny_mono (Q:=fun v=>Q (v,[])) (E:=E) ?_ (fun _ _ z=>wpAny_pure z) fun _ _ z=>z)
  have LO:PySem.W.Looks (model prog w) s.heap (opaqueClassAbove (.type T)) none:=PySem.W.Looks.of_pure hstub
  refine PySem.W.cls_open X LO L0 hg (PySem.W.looks_hook X (r:=none) (by rfl)) (by show PySem.W.subIn K _ _=_; rfl) e
    (wpAny_pure (by show wpAny _ _ (PySem.handedOut v) _ _ _; rw [PySem.W.handedOut_of hh]; exact wpAny_pure h))
end
section
variable {X:Cx} {p pos apos:Pos} {e1 e2:Expr} {t:TA}
theorem boot_val:bootBuiltins ("ValueError" : Str)=some (.type "ValueError"):=by decide +kernel
theorem pe_valinit {pl:Sem Bool} (hg:Gl X "ValueError") (hm:X.mg "ValueError" = none) (ha:PA X [e1,e2] t)
    (hst:starEach [e1,e2] X.env=(false,eval e1 X.env)::starEach [e2] X.env:=by rfl) (hpl:(backTo pos (starEach [e2] X.env)).any (·.1)=false:=by rfl)
    (ht:eval (.Call (.Attribute (.Name "ValueError" p) "__init__" apos) [e1,e2] [] pos) X.env=(do
      let ov ← eval (.Name "ValueError" p) X.env
      standAt apos.atName
      let (f,first) ← holding [ov] (getMethod ov "__init__" pl)
      callWith pos f first (backTo pos (starEach [e1,e2] X.env)) (backToKw pos (keywordEach [] X.env))):=by rfl) :
    PE X (.Call (.Attribute (.Name "ValueError" p) "__init__" apos) [e1,e2] [] pos) (fun σ H Q=>t σ H fun vs H1=>∃ e C f x,vs=[.ref e,x]∧H1 e=some (ExcN C e)∧MkX X.K C f∧Q .non H1):=by
  intro pins s σ H Q I h
  refine PySem.W.methodCall_KW (pl:=pl) ?_ ht
  have hP:PE X (.Name "ValueError" p) (tC (V.ty "ValueError")):=pe_bltn hg hm boot_val rfl
  refine thn (hP pins s σ H (fun v H'=>v=.ty "ValueError" ∧ H'=H) I ⟨rfl,rfl⟩) fun u s1 ⟨v,H1,I1,r1,ev,eH⟩=>?_
  subst ev eH
  cases r1
  refine method_typeX I1.kIn val_type (by decide +kernel) val_find rfl ?_
  have I2:=I1.tok (s1.toks+1)
  have hA:=ha pos pins _ σ H1 _ I2 h
  rw [hst] at hA ⊢
  refine Calls.callWith_builtin (by show (false || (backTo pos (starEach [e2] X.env)).any (·.1))=false; rw [hpl] <;> rfl) (Calls.evalArgs_plain ?_)
  refine thn hA fun us s2 ⟨vs,H2,I3,r2,e,C,f,x,ev,he,M,q⟩=>?_
  subst ev
  cases r2 with
  | cons r rr =>
    cases rr with
    | @cons _ u2 _ _ r' rr =>
      cases rr
      cases r
      obtain ⟨nm,qn,N,bs,bm,hdct,sn,sub,ab,col,dd,k0,k1,k2,k3,k5,lk,c1,c2,c3⟩:=M.obj
      obtain ⟨o,ho,a,rfl⟩:=ObP.get I3.hok he
      obtain ⟨hh,g,d,tk,os⟩:=s2
      show wpAny _ _ (call (.builtin "ValueError.__init__") (.ref e::[u2])) _ _ _
      refine exc_initX PySem.F.excBase_ValueError c1 (I3.kIn _ _ lk) ho (by show 1≤sizeLine; decide) ?_
      have I4:Inv X pins σ H2 { heap:=hh.push { cls:=.type "tuple", data:=.seq [u2].toArray },gens:=g,drawn:=d,toks:=tk,os:=os }:=I3.kept (t':=tk) fun b o e=>Heap.get?_push_of_some _ e
      have ho4:=Heap.get?_push_of_some { cls:=.type "tuple", data:=.seq [u2].toArray } ho
      have hu:=Heap.get?_update_self (Obj.mapFields (·.setIfInBounds 0 (Value.ref hh.objs.size))) ho4 rfl
      have I5:Inv X pins σ (upd H2 e (ExcN C e)) { heap:=(hh.push { cls:=.type "tuple", data:=.seq [u2].toArray }).update e (Obj.mapFields (·.setIfInBounds 0 (Value.ref hh.objs.size))),gens:=g,drawn:=d,toks:=tk,os:=os } :=
        I4.write (x:=e) (e:=e) (t':=tk) (by rw [he]; exact trivial) (.inl rfl) (fun b u hb hu=>(Heap.get?_update_other _ _ (Ne.symm hb)).trans hu) ⟨_,hu⟩ (ObP.ok hu ⟨hh.objs.size,rfl⟩)
      rw [upd_id he] at I5
      exact ⟨.non,H2,I5,rfl,q⟩
end
end L2
namespace L2
open PySem Builtin Builtin.ObjectAttr
section
variable {prog:Program} {w:World} {A:Around} {E:Value→Shared→Prop} {h:Heap} {g:Array GenState} {d:Drawn} {t:Nat} {os:OsState}
variable {nm q:Str} {C N x:Addr} {bs bm:List Value} {sn:List Str} {sub:List Value} {ab:Bool} {col:Option Bool} {dd:Option Addr} {k0 k1 k2 k3 k5:Option Value} {newId:String} {name:Str} {v:Value} {vs:Array Value}
theorem check_saX {M:Model} {B sa owner:String} {bmB:List Value} {o:Obj} {nameV:Value} {Q:Unit→Shared→Prop} (SF:StoreFacts B bmB sa owner) (hcB:(Value.ref C::bm).contains (.type owner)=true)
    (hC:h.get? C=some (excClassObj nm q C N bs bm true sn sub ab col dd k0 k1 k2 k3 k5 newId)) (hx:h.get? x=some o) (hc:o.cls=.ref C) (hq:Q () ⟨h,g,d,t,os⟩) :
    wpAny M A (checkBuiltinCall sa ⟨[.ref x,nameV,v],[]⟩) Q E ⟨h,g,d,t,os⟩:=by
  have ha:=SF.args (.ref x) nameV v
  simp only [checkBuiltinCall,SF.kind,SF.split]
  refine wpAny_bind ?_
  · unfold isInstance
    repeat (first | (with_reducible refine wpAny_loadPart_at hx ?_; rw [hc]) | (with_reducible refine wpAny_isSubtype_exc hC ?_; rw [hcB]) | wp_step)
    cases hsig:Manifest.signature? sa with
    | none=>exact wpAny_pure hq
    | some sig =>
      simp only [argsOk,hsig] at ha
      have h2:Bind.checkArgs sa sig ⟨[.ref x,nameV,v],[]⟩=pure ():=ha
      show wpAny M A (Bind.checkArgs sa sig ⟨[.ref x,nameV,v],[]⟩) Q E _
      rw [h2]; exact wpAny_pure hq
theorem store_entryX {tk:Tok} {Q:Fin→Shared→Prop} (hpass:refuseLoop (.ref x) "__setattr__" (.ref C::bm)=pure ())
    (hC:h.get? C=some (excClassObj nm q C N bs bm true sn sub ab col dd k0 k1 k2 k3 k5 newId)) (hL:PySem.W.Looks (model prog w) h (typeLookup (.ref C) name) none) {o:Obj} (hx:h.get? x=some o) (hc:o.cls=.ref C) (hdn:o.dict=none) (hnc:∀ c,o.data ≠ .cls c)
    (hq:∀ h' tk',h'.get? x=some { cls:=o.cls,dict:=some h.objs.size,data:=o.data,slots:=o.slots }→h'.Ns1 h.objs.size (fun y=>if y=name then some v else none)→(∀ b o,b ≠ x→h.get? b=some o→h'.get? b=some o)→Q (.done (.ret .none)) ⟨h',g,d,tk',os⟩) :
    wpAny (model prog w) A (Builtin.«object.__setattr__» ⟨[.ref x,.str name tk,v],[]⟩) Q E ⟨h,g,d,t,os⟩:=by
  have hL':∀ {A':Around} {E':Value→Shared→Prop} {Q':Option Value→Shared→Prop} {t':Nat},Q' none ⟨h,g,d,t',os⟩→wpAny (model prog w) A' (typeLookup (.ref C) name) Q' E' ⟨h,g,d,t',os⟩:=fun q'=>hL _ _ _ _ (fun _ _ e=>e) q'
  unfold Builtin.«object.__setattr__»
  repeat (first | rw [refuse_eq] | (rw [hpass]) | (with_reducible refine wpAny_loadPart_at hx ?_; rw [hc]) | with_reducible refine wpAny_mroOf_exc hC ?_ | (with_reducible refine hL' ?_) | wp_step)
  rw [hdn,if_neg (by simp [typeHasDict])]
  split
  · rename_i hcd
    cases hcd
  split
  · rename_i c hcd
    exact absurd hcd (hnc c)
  · have hx₁:(h.push { cls:=.type "dict", data:=.dict #[] }).get? x=some o:=Heap.get?_push_of_some _ hx
    have hxs:x ≠ h.objs.size:=Nat.ne_of_lt (Heap.lt_size hx)
    refine wpAny_bind (wpAny_alloc' ?_)
    refine wpAny_bind (wpAny_update' hx₁ ?_)
    refine wpAny_pure ?_
    have hgd:((h.push { cls:=.type "dict", data:=.dict #[] }).update x fun o=>{ cls:=o.cls,dict:=some h.objs.size,data:=o.data,slots:=o.slots }).get? h.objs.size
        = some { cls:=.type "dict", data:=.dict #[] } :=
      (Heap.get?_update_ne _ _ _ _ hxs.symm).trans (Heap.get?_push_at rfl rfl)
    have hnd:((h.push { cls:=.type "dict", data:=.dict #[] }).update x fun o=>{ cls:=o.cls,dict:=some h.objs.size,data:=o.data,slots:=o.slots }).Ns h.objs.size (fun _=>none) :=
      ⟨_,#[],_,hgd,rfl,fun e he=>absurd he (by simp),fun _=>rfl⟩
    show wpAny _ _ (storeInDict h.objs.size (.str name tk) name v) _ _ _
    unfold storeInDict newKeyGuard
    refine wpAny_bind (wpAny_pure (wpAny_bind (wpAny_nsSet1 (Heap.Ns1.of_empty hnd) fun h' hn' hs=>?_)))
    obtain ⟨oD,esD,epD,hoD,hdD,hcD⟩:=hn'.count (Within.cons name v Within.nil)
    refine wpAny_bind (wpAny_lookBehind hoD (by rw [hdD]; exact pastItsLine_dict (Nat.le_trans hcD (by rw [List.length_cons,List.length_nil,sizeLine_eq]; omega))) ?_)
    wp_walk
    refine hq h' _ ?_ hn' fun b ob hbx hb=>?_
    · refine (hs.2 x hxs).trans (Heap.get?_update_self _ hx₁ ?_)
      have hfr:=(Heap.get?_some_iff.mp hx).2
      obtain ⟨oc,od,odt,osl⟩:=o
      cases odt <;> first | rfl | exact hfr
    · exact (hs.2 b (Nat.ne_of_lt (Heap.lt_size hb))).trans ((Heap.get?_update_ne _ _ _ _ hbx).trans (Heap.get?_push_of_some _ hb))
theorem store_attrX {B sa owner:String} {bmB:List Value} {Q:Unit→Shared→Prop} (SF:StoreFacts B bmB sa owner) (hcO:(Value.ref C::bm).contains (.type owner)=true) (hpass:refuseLoop (.ref x) "__setattr__" (.ref C::bm)=pure ())
    (hC:h.get? C=some (excClassObj nm q C N bs bm true sn sub ab col dd k0 k1 k2 k3 k5 newId)) (hS:PySem.W.Looks (model prog w) h (typeLookup (.ref C) "__setattr__") (some (.builtin sa)))
    (hL:PySem.W.Looks (model prog w) h (typeLookup (.ref C) name) none) {o:Obj} (hx:h.get? x=some o) (hc:o.cls=.ref C) (hdn:o.dict=none) (hnc:∀ c,o.data ≠ .cls c)
    (hq:∀ h' tk',h'.get? x=some { cls:=o.cls,dict:=some h.objs.size,data:=o.data,slots:=o.slots }→h'.Ns1 h.objs.size (fun y=>if y=name then some v else none)→(∀ b o,b ≠ x→h.get? b=some o→h'.get? b=some o)→Q () ⟨h',g,d,tk',os⟩) :
    wpAny (model prog w) A (setAttr (.ref x) name v) Q E ⟨h,g,d,t,os⟩:=by
  have f3:=SF.slot.bind (.ref x)
  have hS':∀ {A':Around} {E':Value→Shared→Prop} {Q':Option Value→Shared→Prop} {t':Nat},Q' (some (.builtin sa)) ⟨h,g,d,t',os⟩→wpAny (model prog w) A' (typeLookup (.ref C) "__setattr__") Q' E' ⟨h,g,d,t',os⟩:=fun q'=>hS _ _ _ _ (fun _ _ e=>e) q'
  unfold setAttr callSpecial? specialOf
  repeat (any_goals (first | assumption | (with_reducible refine wpAny_loadPart_at hx ?_; rw [hc]) | (with_reducible refine hS' ?_) | wp_step))
  refine codeAny_call_builtin SF.slot.plain SF.entry (check_saX SF hcO hC hx hc (store_entryX hpass hC hL hx hc hdn hnc fun h' tk' i1 i2 i3=>?_))
  repeat (any_goals (first | assumption | wp_step))
  exact hq h' tk' i1 i2 i3
end
end L2
namespace L2
open PySem Builtin Builtin.ObjectAttr
section
variable {prog:Program} {w:World} {A:Around} {E:Value→Shared→Prop} {h:Heap} {g:Array GenState} {d:Drawn} {t:Nat} {os:OsState} {a dx:Addr} {o:Obj} {v:Value}
  {nm q:Str} {C N:Addr} {bs bm:List Value} {sn:List Str} {sub:List Value} {ab:Bool} {col:Option Bool} {dd:Option Addr} {k0 k1 k2 k3 k5:Option Value} {newId:String} {mA:Str→Option Value} {name:Str}
theorem check_gaX {M:Model} {nameV:Value} {Q:Unit→Shared→Prop} (hC:h.get? C=some (excClassObj nm q C N bs bm true sn sub ab col dd k0 k1 k2 k3 k5 newId)) (hcB:(Value.ref C::bm).contains (.type "BaseException")=true)
    (hx:h.get? a=some o) (hc:o.cls=.ref C) (hq:Q () ⟨h,g,d,t,os⟩):wpAny M A (checkBuiltinCall "BaseException.__getattribute__" ⟨[.ref a,nameV],[]⟩) Q E ⟨h,g,d,t,os⟩:=by
  have hk:builtinKind "BaseException.__getattribute__" = some .slot:=by decide +kernel
  have hsplit:splitId "BaseException.__getattribute__" = some ("BaseException", "__getattribute__"):=by decide +kernel
  have ha:=F.args_bexc_ga (.ref a) nameV
  simp only [checkBuiltinCall,hk,hsplit]
  refine wpAny_bind ?_
  · unfold isInstance
    repeat (first | (with_reducible refine wpAny_loadPart_at hx ?_; rw [hc]) | (with_reducible refine wpAny_isSubtype_exc hC ?_; rw [hcB]) | wp_step)
    exact hq
theorem load_entryX {tk:Tok} {Q:Fin→Shared→Prop} (hC:h.get? C=some (excClassObj nm q C N bs bm true sn sub ab col dd k0 k1 k2 k3 k5 newId)) (hL:PySem.W.Looks (model prog w) h (typeLookup (.ref C) name) none)
    (hx:h.get? a=some o) (hc:o.cls=.ref C) (hdx:o.dict=some dx) (hnc:∀ c,o.data ≠ .cls c) (hns:h.Ns dx mA) (hv:mA name=some v) (hq:Q (.done (.ret v)) ⟨h,g,d,t,os⟩) :
    wpAny (model prog w) A (Builtin.«object.__getattribute__» ⟨[.ref a,.str name tk],[]⟩) Q E ⟨h,g,d,t,os⟩:=by
  have hL':∀ {A':Around} {E':Value→Shared→Prop} {Q':Option Value→Shared→Prop} {t':Nat},Q' none ⟨h,g,d,t',os⟩→wpAny (model prog w) A' (typeLookup (.ref C) name) Q' E' ⟨h,g,d,t',os⟩:=fun q'=>hL _ _ _ _ (fun _ _ e=>e) q'
  unfold Builtin.«object.__getattribute__»
  repeat (first | (with_reducible refine wpAny_loadPart_at hx ?_; rw [hc]) | (with_reducible refine hL' ?_) | wp_step)
  split
  · rename_i c hcd
    exact absurd hcd (hnc c)
  · repeat (first | (with_reducible refine wpAny_loadPart_at hx ?_; rw [hc]) | wp_step)
    rw [hdx]
    repeat (first | (with_reducible refine wpAny_nsGet hns ?_; rw [hv]) | wp_step)
    exact hq
end
end L2
namespace L2
open PySem Builtin Builtin.ObjectAttr
section
variable {prog:Program} {w:World} {A:Around} {E:Value→Shared→Prop} {h:Heap} {g:Array GenState} {d:Drawn} {t:Nat} {os:OsState} {a dx:Addr} {o:Obj} {v:Value}
  {nm q:Str} {C N:Addr} {bs bm:List Value} {sn:List Str} {sub:List Value} {ab:Bool} {col:Option Bool} {dd:Option Addr} {k0 k1 k2 k3 k5:Option Value} {newId:String} {mA:Str→Option Value} {name:Str}
theorem load_byX {tk:Tok} {fill expr:Bool} {Q:Value→Shared→Prop} (hC:h.get? C=some (excClassObj nm q C N bs bm true sn sub ab col dd k0 k1 k2 k3 k5 newId)) (hcB:(Value.ref C::bm).contains (.type "BaseException")=true)
    (hG:PySem.W.Looks (model prog w) h (typeLookup (.ref C) "__getattribute__") (some (.builtin "BaseException.__getattribute__"))) (hA:PySem.W.Looks (model prog w) h (typeLookup (.ref C) "__getattr__") none) (hL:PySem.W.Looks (model prog w) h (typeLookup (.ref C) name) none)
    (hx:h.get? a=some o) (hc:o.cls=.ref C) (hdx:o.dict=some dx) (hnc:∀ c,o.data ≠ .cls c) (hns:h.Ns dx mA) (hv:mA name=some v) (hh:PySem.W.handedIn v=true) (hq:Q v ⟨h,g,d,t,os⟩) :
    wpAny (model prog w) A (getAttrBy (.ref a) (.str name tk) fill expr) Q E ⟨h,g,d,t,os⟩:=by
  have FB:=F.attrBase_ValueError
  have f3:=FB.ga.bind (.ref a)
  have hx0:(expr && onTheHeap (Value.builtin "BaseException.__getattribute__"))=false:=by cases expr <;> rfl
  have hx2:(Value.builtin "BaseException.__getattribute__" == Value.builtin "object.__getattribute__")=false:=by decide +kernel
  have hx1:(onTheHeap (Value.ref C) && Value.builtin "BaseException.__getattribute__" == Value.builtin "object.__getattribute__")=false:=by rw [hx2]; rfl
  have hG':∀ {A':Around} {E':Value→Shared→Prop} {Q':Option Value→Shared→Prop} {t':Nat},Q' (some (.builtin "BaseException.__getattribute__")) ⟨h,g,d,t',os⟩→wpAny (model prog w) A' (typeLookup (.ref C) "__getattribute__") Q' E' ⟨h,g,d,t',os⟩:=fun q'=>hG _ _ _ _ (fun _ _ e=>e) q'
  have hA':∀ {A':Around} {E':Value→Shared→Prop} {Q':Option Value→Shared→Prop} {t':Nat},Q' none ⟨h,g,d,t',os⟩→wpAny (model prog w) A' (typeLookup (.ref C) "__getattr__") Q' E' ⟨h,g,d,t',os⟩:=fun q'=>hA _ _ _ _ (fun _ _ e=>e) q'
  repeat (any_goals (first | assumption | (with_reducible refine wpAny_loadPart_at hx ?_; rw [hc]) | with_reducible refine hG' ?_ | with_reducible refine hA' ?_ | wp_step))
  refine codeAny_call_builtin FB.ga.plain F.entry_bexc_ga (check_gaX hC hcB hx hc (load_entryX hC hL hx hc hdx hnc hns hv ?_))
  show wpAny _ _ (handedOut v) _ _ _
  rw [PySem.W.handedOut_of hh]
  exact wpAny_pure hq
end
end L2
namespace L2
open PySem Builtin Builtin.ObjectAttr
section
variable {prog:Program} {w:World} {A:Around} {E:Value→Shared→Prop} {h:Heap} {g:Array GenState} {d:Drawn} {t:Nat} {os:OsState} {a:Addr} {o:Obj}
  {nm q:Str} {C N:Addr} {bs bm:List Value} {sn:List Str} {sub:List Value} {ab:Bool} {col:Option Bool} {dd:Option Addr} {k0 k1 k2 k3 k5:Option Value} {newId:String}
theorem class_getX {R:Result→Shared→Prop} (hC:h.get? C=some (excClassObj nm q C N bs bm true sn sub ab col dd k0 k1 k2 k3 k5 newId)) (hcO:(Value.ref C::bm).contains (.type "object")=true)
    (hx:h.get? a=some o) (hc:o.cls=.ref C) (hq:R (.ok (.ret (.ref C))) ⟨h,g,d,t,os⟩) :
    codeAny (model prog w) A (.call (.builtin "getset_descriptor.__get__") ⟨[.builtin "object.__class__", .ref a,.ref C],[]⟩) R ⟨h,g,d,t,os⟩:=by
  have hT5:(⟨h,g,d,t,os⟩:Shared).TypeIs (.builtin "object.__class__") "getset_descriptor" := F.typeOf_object_class
  have hcB:(Value.ref C::bm).contains (.type (".".intercalate ("object.__class__".cutAt '.').dropLast))=true:=by rw [F.owner_object_class]; exact hcO
  refine codeAny_call_builtin F.slot_gs_get.plain F.entry_gs_get (F.slot_gs_get.check _ _ _ _ _ _ _ _ hT5 (F.args_gs_get _ _ _) ?_)
  repeat (any_goals (first | assumption | (with_reducible refine wpAny_loadPart_at hx ?_; rw [hc]) | (with_reducible refine wpAny_isSubtype_exc hC ?_; rw [hcB]) | wp_step))
  refine ⟨Code.quiet_builtin _ (by decide +kernel),codeAny_builtin F.entry_object_class ?_⟩
  repeat (any_goals (first | assumption | (with_reducible refine wpAny_loadPart_at hx ?_; rw [hc]) | wp_step))
theorem class_entryX {tk:Tok} {Q:Fin→Shared→Prop} (hC:h.get? C=some (excClassObj nm q C N bs bm true sn sub ab col dd k0 k1 k2 k3 k5 newId)) (hcO:(Value.ref C::bm).contains (.type "object")=true)
    (hK:PySem.W.Looks (model prog w) h (typeLookup (.ref C) "__class__") (some (.builtin "object.__class__"))) (hx:h.get? a=some o) (hc:o.cls=.ref C) (hq:Q (.done (.ret (.ref C))) ⟨h,g,d,t,os⟩) :
    wpAny (model prog w) A (Builtin.«object.__getattribute__» ⟨[.ref a,.str "__class__" tk],[]⟩) Q E ⟨h,g,d,t,os⟩:=by
  have hT5:(⟨h,g,d,t,os⟩:Shared).TypeIs (.builtin "object.__class__") "getset_descriptor" := F.typeOf_object_class
  have f5:=F.typeOf_object_class
  have f6:=F.slot_gs_get.lookup
  have f7:=F.slot_gs_set.lookup
  have hK':∀ {A':Around} {E':Value→Shared→Prop} {Q':Option Value→Shared→Prop} {t':Nat},Q' (some (.builtin "object.__class__")) ⟨h,g,d,t',os⟩→wpAny (model prog w) A' (typeLookup (.ref C) "__class__") Q' E' ⟨h,g,d,t',os⟩:=fun q'=>hK _ _ _ _ (fun _ _ e=>e) q'
  repeat (any_goals (first | assumption | (with_reducible refine wpAny_loadPart_at hx ?_; rw [hc]) | with_reducible refine hK' ?_ | wp_step))
  refine class_getX hC hcO hx hc ?_
  repeat (any_goals (first | assumption | wp_step))
theorem class_byX {tk:Tok} {Q:Value→Shared→Prop} (hC:h.get? C=some (excClassObj nm q C N bs bm true sn sub ab col dd k0 k1 k2 k3 k5 newId)) (hcB:(Value.ref C::bm).contains (.type "BaseException")=true) (hcO:(Value.ref C::bm).contains (.type "object")=true)
    (hG:PySem.W.Looks (model prog w) h (typeLookup (.ref C) "__getattribute__") (some (.builtin "BaseException.__getattribute__"))) (hA:PySem.W.Looks (model prog w) h (typeLookup (.ref C) "__getattr__") none)
    (hK:PySem.W.Looks (model prog w) h (typeLookup (.ref C) "__class__") (some (.builtin "object.__class__"))) (hx:h.get? a=some o) (hc:o.cls=.ref C) (hq:Q (.ref C) ⟨h,g,d,t,os⟩) :
    wpAny (model prog w) A (getAttrBy (.ref a) (.str "__class__" tk) false) Q E ⟨h,g,d,t,os⟩:=by
  have FB:=F.attrBase_ValueError
  have f3:=FB.ga.bind (.ref a)
  have hx2:(Value.builtin "BaseException.__getattribute__" == Value.builtin "object.__getattribute__")=false:=by decide +kernel
  have hx1:(onTheHeap (Value.ref C) && Value.builtin "BaseException.__getattribute__" == Value.builtin "object.__getattribute__")=false:=by rw [hx2]; rfl
  have hG':∀ {A':Around} {E':Value→Shared→Prop} {Q':Option Value→Shared→Prop} {t':Nat},Q' (some (.builtin "BaseException.__getattribute__")) ⟨h,g,d,t',os⟩→wpAny (model prog w) A' (typeLookup (.ref C) "__getattribute__") Q' E' ⟨h,g,d,t',os⟩:=fun q'=>hG _ _ _ _ (fun _ _ e=>e) q'
  have hA':∀ {A':Around} {E':Value→Shared→Prop} {Q':Option Value→Shared→Prop} {t':Nat},Q' none ⟨h,g,d,t',os⟩→wpAny (model prog w) A' (typeLookup (.ref C) "__getattr__") Q' E' ⟨h,g,d,t',os⟩:=fun q'=>hA _ _ _ _ (fun _ _ e=>e) q'
  repeat (any_goals (first | assumption | (with_reducible refine wpAny_loadPart_at hx ?_; rw [hc]) | with_reducible refine hG' ?_ | with_reducible refine hA' ?_ | wp_step))
  refine codeAny_call_builtin FB.ga.plain F.entry_bexc_ga (check_gaX hC hcB hx hc (class_entryX hC hcO hK hx hc ?_))
  repeat (any_goals (first | assumption | wp_step))
theorem class_attrX {Q:Option Value→Shared→Prop} (hC:h.get? C=some (excClassObj nm q C N bs bm true sn sub ab col dd k0 k1 k2 k3 k5 newId)) (hcB:(Value.ref C::bm).contains (.type "BaseException")=true) (hcO:(Value.ref C::bm).contains (.type "object")=true)
    (hG:PySem.W.Looks (model prog w) h (typeLookup (.ref C) "__getattribute__") (some (.builtin "BaseException.__getattribute__"))) (hA:PySem.W.Looks (model prog w) h (typeLookup (.ref C) "__getattr__") none)
    (hK:PySem.W.Looks (model prog w) h (typeLookup (.ref C) "__class__") (some (.builtin "object.__class__"))) (hx:h.get? a=some o) (hc:o.cls=.ref C) (hq:Q (some (.ref C)) ⟨h,g,d,t+1,os⟩) :
    wpAny (model prog w) A (getAttr? (.ref a) "__class__") Q E ⟨h,g,d,t,os⟩:=by
  unfold getAttr? getAttrBy?
  repeat (any_goals (first | assumption | with_reducible apply class_byX hC hcB hcO hG hA hK hx hc | wp_step))
end
end L2
namespace L2
open PySem PySem.Spec PyProof.Rows
abbrev bmV:List Value:=[.type "ValueError", .type "Exception", .type "BaseException", .type "object"]
structure ClsX (K:PySem.W.Frag) (C CA:Addr):Prop where
  obj:∃ (nm q:Str) (N:Addr) (bs:List Value) (sn:List Str) (sub:List Value) (ab:Bool) (col:Option Bool) (dd:Option Addr) (k0 k1 k2 k3 k5:Option Value),K.lookup C=some (excClassObj nm q C N bs (.ref CA::bmV) true sn sub ab col dd k0 k1 k2 k3 k5 "ValueError.__new__")
  set:PySem.W.findIn K (.ref C) "__setattr__" = some (some (.builtin "object.__setattr__"))
  ga:PySem.W.findIn K (.ref C) "__getattribute__" = some (some (.builtin "BaseException.__getattribute__"))
  gt:PySem.W.findIn K (.ref C) "__getattr__" = some none
  cl:PySem.W.findIn K (.ref C) "__class__" = some (some (.builtin "object.__class__"))
section
variable {C CA:Addr}
theorem cX_val:(Value.ref C::.ref CA::bmV).contains (.type "ValueError")=true:=by simp [bmV]
theorem cX_base:(Value.ref C::.ref CA::bmV).contains (.type "BaseException")=true:=by simp [bmV]
theorem cX_obj:(Value.ref C::.ref CA::bmV).contains (.type "object")=true:=by simp [bmV]
theorem cX_attr:(Value.ref C::.ref CA::bmV).contains (.type "AttributeError")=false:=by
  rw [List.contains_cons,List.contains_cons]
  rfl
theorem cX_name:(Value.ref C::.ref CA::bmV).contains (.type "NameError")=false:=by
  rw [List.contains_cons,List.contains_cons]
  rfl
theorem pass_X (self:Value):refuseLoop self "__setattr__" (.ref C::.ref CA::bmV)=pure ():=by
  rw [refuseLoop_ref,refuseLoop_ref]
  exact PySem.F.store_ValueError.passes self
theorem ClsX.mk' {K:PySem.W.Frag} {f:Addr} (c:ClsX K C CA) (init:PySem.W.findIn K (.ref C) "__init__" = some (some (.ref f))) (fn:∃ o,K.lookup f=some o∧o.cls=.type "function") (kp:PySem.W.keepIn K (.ref C)=true):MkX K C f:=by
  obtain ⟨nm,q,N,bs,sn,sub,ab,col,dd,k0,k1,k2,k3,k5,lk⟩:=c.obj
  exact ⟨⟨nm,q,N,bs,_,_,sn,sub,ab,col,dd,k0,k1,k2,k3,k5,lk,cX_val,cX_attr,cX_name⟩,init,fn,kp⟩
end
def XAt (H:Hp) (e C dx:Addr):Prop:=H e=some (ExcD C e dx)∨H e=some (ExcT C e dx)
theorem XAt.get {P:Program} {w:World} {H:Hp} {h:Heap} {e C dx:Addr} (x:HOk P w H h) (he:XAt H e C dx):∃ vs,h.get? e=some (excObj C (some dx) vs):=by
  rcases he with he | he
  · obtain ⟨o,ho,a,rfl⟩:=ObP.get x he
    exact ⟨_,ho⟩
  · obtain ⟨o,ho,vs,rfl,_⟩:=ObP.get x he
    exact ⟨_,ho⟩
section
variable {X:Cx} {pins:List (Addr × Obj)} {σ:St} {H:Hp} {s:Shared} {h':Heap} {e dx:Addr} {φ:Heap→Prop} {o1 o2:HO}
theorem Inv.ext2 {t':Nat} (I:Inv X pins σ H s) (he:H e=some (.ext φ)) (hp:s.heap.objs.size≤dx) (k:∀ b u,b ≠ e→s.heap.get? b=some u→h'.get? b=some u) (heo:∃ u,h'.get? e=some u)
    (n1:ObjOk X.prog X.w (upd (upd H dx o1) e o2) h' dx o1) (n2:ObjOk X.prog X.w (upd (upd H dx o1) e o2) h' e o2) (ht:1≤t':=by first | exact Nat.le_add_left 1 _ | exact Inv.tk (by assumption) | assumption | omega):Inv X pins σ (upd (upd H dx o1) e o2) { s with heap:=h',toks:=t' }:=by
  have hdn:H dx=none:=I.hok.fresh hp
  have ne:∀ b u,H b=some u→(∀ ψ,u ≠ .ext ψ)→b ≠ e∧b ≠ dx:=fun b u hb hu=>⟨fun z=>by rw [z,he] at hb; cases hb; exact hu _ rfl,ne_of_none hb hdn⟩
  have old:∀ b,b ≠ e→b ≠ dx→upd (upd H dx o1) e o2 b=H b:=fun b h1 h2=>by rw [upd_ne h1,upd_ne h2]
  have fr:∀ b u,s.heap.get? b=some u→b ≠ dx:=fun b u q=>Nat.ne_of_lt (Nat.lt_of_lt_of_le (Heap.lt_size q) hp)
  have nn:∀ b,H b=none→b ≠ e:=fun b n z=>by rw [z,he] at n; cases n
  refine I.un ⟨fun b u q n _ _=>k b u (nn b n) q,fun b u q n _ _=>⟨u.slots,k b u (nn b n) q⟩,fun b u q n _=>?_,fun b u q _=>?_,fun b xs q=>?_,fun b u xs q=>?_,fun b ps q=>⟨#[],?_⟩⟩ fun b u q=>?_
  · rw [old b (nn b n) (fr b u q)]
    exact n
  · by_cases hb:b=e
    · rw [hb]; exact heo
    · exact ⟨u,k b u hb q⟩
  · obtain ⟨h1,h2⟩:=ne b _ q (fun ψ z=>by cases z)
    rw [old b h1 h2]
    exact q
  · obtain ⟨h1,h2⟩:=ne b _ q (fun ψ z=>by cases z)
    rw [old b h1 h2]
    exact q
  · obtain ⟨h1,h2⟩:=ne b _ q (fun ψ z=>by cases z)
    rw [old b h1 h2,q]
    simp
  · by_cases hb:b=e
    · subst hb
      rw [upd_same] at q
      cases q
      exact n2
    · by_cases hb2:b=dx
      · subst hb2
        rw [upd_ne hb,upd_same] at q
        cases q
        exact n1
      · rw [old b hb hb2] at q
        refine (I.hok b u q).stay (fun c v hc r=>k c v ?_ r) (fun c r=>?_) fun c xs r=>?_
        · rcases hc with rfl | hc
          · exact hb
          · exact (ne c _ hc (fun ψ z=>by cases z)).1
        · obtain ⟨h1,h2⟩:=ne c _ r (fun ψ z=>by cases z)
          rw [old c h1 h2]
          exact r
        · obtain ⟨h1,h2⟩:=ne c _ r (fun ψ z=>by cases z)
          rw [old c h1 h2]
          exact r
end
section
variable {X:Cx} {o e value:Expr} {f:Str} {pos pos' tpos:Pos} {ta tv:TE}
theorem ps_fldX (ha:PE X o ta) (hv:PE X value tv) (hs:swapsWith value (some (.Attribute o f pos')) pos.line X.env=pure false) :
    PS X (.Assign [.Attribute o f pos'] value pos) (fun D σ H=>tv σ H fun y H1=>ta σ H1 fun x H2=>∃ e C CA,x=.ref e∧H2 e=some (ExcN C e)∧ClsX X.K C CA∧NoAttr X.K C f∧∀ dx,H2 dx=none→dx ≠ e→D.nx σ (upd (upd H2 dx (.xd [(f,y)])) e (ExcD C e dx))):=by
  intro pins s σ H D I h
  refine plainObj_wpAny_Assign_Attribute (thn (hv pins s σ H _ I h) fun u s1 ⟨y,H1,I1,ry,q⟩=>thn (ha pins s1 σ H1 _ I1 q) fun ov s2 ⟨x,H2,I2,rx,e,C,CA,ex,he,c,n,q2⟩=>?_) hs
  subst ex
  obtain rfl:ov=Value.ref e:=rx
  obtain ⟨nm,qn,N,bs,sn,sub,ab,col,dd,k0,k1,k2,k3,k5,lk⟩:=c.obj
  obtain ⟨ob,ho,a,rfl⟩:=ObP.get I2.hok he
  obtain ⟨hh,g,d,tk,os⟩:=s2
  refine wpAny_with_toks I2.tk (store_attrX PySem.F.store_ValueError cX_obj (pass_X _) (I2.kIn _ _ lk) (PySem.W.looks_findIn I2.kIn c.set) (PySem.W.looks_findIn I2.kIn n) ho rfl rfl (fun _ z=>by cases z) fun h' tk' i1 i2 i3 le=>?_)
  have le:1≤tk':=le
  have hd:H2 hh.objs.size=none:=I2.hok.fresh (Nat.le_refl _)
  have hde:hh.objs.size ≠ e:=fun z=>by rw [z,he] at hd; cases hd
  refine ⟨σ,_,I2.ext2 (t':=tk') (dx:=hh.objs.size) (e:=e) (o1:=.xd [(f,y)]) (o2:=ExcD C e hh.objs.size) he (Nat.le_refl _) (fun b u hb q=>i3 b u hb q) ⟨_,i1⟩ ⟨_,i2,fun z=>?_⟩ (ObP.ok i1 ⟨a,rfl⟩),q2 _ hd hde⟩
  by_cases hz:z=f
  · subst hz
    rw [if_pos rfl,show ([(z,y)]:List (Str × V)).lookup z=some y by simp [List.lookup]]
    exact ry
  · rw [if_neg hz]
    have:([(f,y)]:List (Str × V)).lookup z=none:=by
      have hb:(z == f)=false:=beq_eq_false_iff_ne.mpr hz
      simp only [List.lookup,hb]
    rw [this]
    trivial
theorem pe_fldX (he:PE X e ta) (hb:attributeBase e f X.env (eval e X.env)=eval e X.env):PE X (.Attribute e f pos) (fun σ H Q=>ta σ H fun x H1=>∃ a C CA dx fs v,x=.ref a∧XAt H1 a C dx∧H1 dx=some (.xd fs)∧fs.lookup f=some v∧ClsX X.K C CA∧NoAttr X.K C f∧Q v H1):=by
  intro pins s σ H Q I h
  refine attr_of hb (thn (he pins s σ H _ I h) fun u s1 ⟨x,H1,I1,rx,a,C,CA,dx,fs,v,ex,ea,ed,l,c,n,q⟩=>?_)
  subst ex
  obtain rfl:u=Value.ref a:=rx
  obtain ⟨nm,qn,N,bs,sn,sub,ab,col,dd,k0,k1,k2,k3,k5,lk⟩:=c.obj
  obtain ⟨vs,ho⟩:=XAt.get I1.hok ea
  obtain ⟨mA,hn,r⟩:=I1.hok dx _ ed
  obtain ⟨u,hu,ru⟩:=RelO.some_of (v:=v) (o:=mA f) (by rw [← l]; exact r f)
  obtain ⟨hh,g,d,tk,os⟩:=s1
  unfold getAttr
  refine wpAny_bind (wpAny_mkText ?_)
  exact load_byX (I1.kIn _ _ lk) cX_base (PySem.W.looks_findIn I1.kIn c.ga) (PySem.W.looks_findIn I1.kIn c.gt) (PySem.W.looks_findIn I1.kIn n) ho rfl rfl (fun _ z=>by cases z) hn.ns hu (handed_of ru) ⟨v,H1,I1.tok _,ru,q⟩
end
end L2
namespace L2
open PySem PySem.Spec PyProof.Rows
theorem kitxX {K:PySem.W.Frag} {e C CA dx:Addr} (c:ClsX K C CA):PySem.W.KitX K (.ref e) (.ref C) (fun h=>∃ vs,h.get? e=some (excObj C (some dx) vs)) where
  ty:=fun M h _ ⟨vs,hx⟩=>(PySem.W.Looks.ld hx).andThen .now
  it:=fun M h X _=>by
    obtain ⟨nm,q,N,bs,sn,sub,ab,col,dd,k0,k1,k2,k3,k5,lk⟩:=c.obj
    intro A' Q' E' s' k q
    unfold isType loadHead
    exact wpAny_bind (wpAny_loadPart (k _ _ (X _ _ lk)) (wpAny_pure q))
  ne:=fun h tp dd' its n sl X htp=>by
    obtain ⟨nm,q,N,bs,sn,sub,ab,col,dd,k0,k1,k2,k3,k5,lk⟩:=c.obj
    refine Bool.eq_false_iff.mpr fun z=>?_
    have e:C=tp:=Value.ref.inj (beq_iff_eq.mp z)
    subst e
    have z:=congrArg Obj.data (Option.some.inj ((X _ _ lk).symm.trans htp))
    exact Data.noConfusion z
  ca:=fun {prog w A E Q s} X ⟨vs,hx⟩ k=>by
    obtain ⟨nm,q,N,bs,sn,sub,ab,col,dd,k0,k1,k2,k3,k5,lk⟩:=c.obj
    obtain ⟨hh,g,d,tk,os⟩:=s
    exact class_attrX (X _ _ lk) cX_base cX_obj (PySem.W.looks_findIn X c.ga) (PySem.W.looks_findIn X c.gt) (PySem.W.looks_findIn X c.cl) hx rfl k
section
variable {X:Cx}
inductive rIsiX (K:PySem.W.Frag) (xs:List V) (H:Hp) (Q:VK):Prop where
  | mk:∀ e C CA dx c b,(xs=[.ref e,c])→(XAt H e C dx)→(ClsX K C CA)→(((∃ D,c=.ref D∧PySem.W.kitOne K (.ref C) (.ref D)=some b)∨(∃ T,c=.ty T∧PySem.W.kitOne K (.ref C) (.type T)=some b)∨∃ (tp:Addr) (Ds:List Addr),c=.ref tp∧H tp=some (.tup (Ds.map V.ref))∧PySem.W.kitAny K (.ref C) (Ds.map Value.ref)=some b))→(Q (.bl b) H)→rIsiX K xs H Q
theorem vals_refsX {cs:List Addr} {us:List Value} (h:Vals (cs.map V.ref) us):us=cs.map Value.ref:=by
  induction cs generalizing us with
  | nil=>cases h; rfl
  | cons a r ih =>
    cases h with
    | cons r1 r2 =>
      cases r1
      rw [ih r2]
      rfl
theorem call_isiX:CallR X (.builtin "isinstance") (rIsiX X.K):=by
  intro pins s σ H xs us Q I r h
  obtain ⟨e,C,CA,dx,c,b,rfl,ea,cl,hk,q⟩:=h
  cases r with
  | cons r rr =>
    cases rr with
    | cons r' rr =>
      cases rr
      cases r
      have ho:=XAt.get I.hok ea
      have fin:∀ tk,1≤tk→EP X pins σ Q (.bool b) { s with toks:=tk }:=fun tk le=>⟨.bl b,H,I.tok _ le,rfl,q⟩
      rcases hk with ⟨D,rfl,hk⟩ | ⟨T,rfl,hk⟩ | ⟨tp,Ds,rfl,ht,hk⟩
      · cases r'
        exact wpAny_with_toks I.tk (PySem.W.kia_one (kitxX cl) I.kIn ho hk (fun z=>nomatch z) fin)
      · cases r'
        exact wpAny_with_toks I.tk (PySem.W.kia_one (kitxX cl) I.kIn ho hk (fun z=>nomatch z) fin)
      · cases r'
        obtain ⟨_,its,rv,⟨⟨cls,dd,data,sl⟩,h1,h2,n,h3⟩,_⟩:=I.hok tp _ ht
        simp only at h2 h3
        subst h2 h3
        have:=vals_refsX rv
        subst this
        exact wpAny_with_toks I.tk (PySem.W.kia_tup (kitxX cl) I.kIn ho h1 hk (fun z=>nomatch z) fin)
end
end L2
namespace L2
open PySem PySem.Spec PyProof.Rows
section
variable {X:Cx}
def FmV (v:V) (y:Str):Prop:=(∃ i:Int,v=.int i∧i.natAbs.log2 < 1920∧y=toString i)∨v=.str y∨(v=.non∧y = "None")
theorem pe_fmtV {e:Expr} {te:TE} {pos:Pos} (he:PE X e te):PE X (.FormattedValue e (-1) none pos) (fun σ H Q=>te σ H fun v H1=>∃ y,FmV v y∧y.length≤sizeLine∧Q (.str y) H1):=by
  intro pins s σ H Q I h
  refine FormattedValue_plain (thn (he pins s σ H _ I h) fun v s1 ⟨x,H1,I1,r1,y,ex,hz,q⟩=>?_)
  rcases ex with ⟨i,rfl,hl,rfl⟩ | rfl | ⟨rfl,rfl⟩
  · obtain ⟨t',rfl⟩:=r1
    exact formatField_int_small hl ⟨.str (toString i),H1,I1.tok _,⟨_,rfl⟩,q⟩
  · obtain ⟨t',rfl⟩:=r1
    exact wpAny_formatField_str ⟨.str y,H1,I1,⟨_,rfl⟩,q⟩ ⟨.str y,H1,I1.tok _,relS I1.tk,q⟩ hz
  · obtain rfl:v=Value.none:=r1
    exact PySem.wpAny_formatField_none ⟨.str "None", H1,I1.tok _,⟨_,rfl⟩,q⟩
end
structure FunD (K:PySem.W.Frag) (x qual:Str) (st:Stmt) (f:Addr) (fd:FuncData) (dV:Value):Prop where
  ex:∃ (oc:Value) (od:Option Addr) (kV doc pm:Value) (an:Option Addr) (cdv ct:Value) (osl:Array (Option Value)),
    fd=PySem.W.fnOf x qual (defArgs st) (defBody st) (defScope st) dV kV doc pm an cdv ct∧K.lookup f=some ⟨oc,od,.func fd,osl⟩∧PySem.W.codeIn K cdv qual=true
  kp:PySem.W.keepIn K (.ref f)=true
section
variable {P:Program} {w:World} {K:PySem.W.Frag} {mg:Str→Option Value} {base:Heap} {dV:Value}
theorem FunD.ok {x qual:Str} {st:Stmt} {f:Addr} {fd:FuncData} {N ps:List Str} {k:Nat} {sp:Sp} (F:FunD K x qual st f fd dV) (S:FnScope N ps (defScope st)) (len:∀ vs H Q E,sp vs H Q E→vs.length=ps.length)
    (hbody:∀ (cdv:Value) (A:Around) (outer:List Env) (s:Shared) (H:Hp) (vs:List V) (Q:VK) (E:XK),Room k (A.deeper (envOfC qual (defScope st) s.heap.objs.size f cdv))→sp vs H Q E →
      ∃ t,PSs (cxOf CX0 P w K mg base N qual (defScope st) f cdv A outer s H E).nox (defBody st) t∧t { nx:=fun _ H'=>Q .non H',rt:=Q } (start N vs) H):FnOk P w K mg base CX0 (k+1) f fd ps sp:=by
  obtain ⟨oc,od,kV,doc,pm,an,cdv,ct,osl,rfl,lk,hcd⟩:=F.ex
  refine fn_of lk hcd S len fun A outer s H vs Q E hr hsp=>?_
  obtain ⟨t,h,q⟩:=hbody cdv A outer s H vs Q E hr hsp
  exact ⟨t,h.nox,q⟩
theorem funD_mk {x qual:Str} {st:Stmt} {f:Addr} {oc:Value} {od an:Option Addr} {osl:Array (Option Value)} {kV doc pm cdv ct:Value} (l:K.lookup f=some ⟨oc,od,.func (PySem.W.fnOf x qual (defArgs st) (defBody st) (defScope st) dV kV doc pm an cdv ct),osl⟩)
    (c:PySem.W.codeIn K cdv qual=true) (k:PySem.W.keepIn K (.ref f)=true):FunD K x qual st f (PySem.W.fnOf x qual (defArgs st) (defBody st) (defScope st) dV kV doc pm an cdv ct) dV:=⟨⟨oc,od,kV,doc,pm,an,cdv,ct,osl,rfl,l,c⟩,k⟩
theorem Fun.toD {x qual:Str} {st:Stmt} {f:Addr} {fd:FuncData} (F:Fun K x qual st f fd):FunD K x qual st f fd .none:=⟨F.ex,F.kp⟩
end
section
variable {K:PySem.W.Frag} {C D CA:Addr}
theorem ClsX.isCls (d:ClsX K D CA):((PySem.W.clsIn K D).isSome && PySem.W.typeIn K (.ref D) == some (.type "type"))=true:=by
  obtain ⟨nm,q,N,bs,sn,sub,ab,col,dd,k0,k1,k2,k3,k5,lk⟩:=d.obj
  unfold PySem.W.clsIn PySem.W.typeIn
  rw [lk]
  simp
  exact ⟨_,lk,rfl⟩
theorem ClsX.sub (c:ClsX K C CA) (b:Value):PySem.W.subIn K (.ref C) b=some ((Value.ref C::.ref CA::bmV).contains b):=by
  obtain ⟨nm,q,N,bs,sn,sub,ab,col,dd,k0,k1,k2,k3,k5,lk⟩:=c.obj
  show PySem.W.mroIn K C b=_
  unfold PySem.W.mroIn PySem.W.clsIn
  rw [lk]
  rfl
theorem kit_is (c:ClsX K C CA) (d:ClsX K D CA) (hA:D ≠ CA):PySem.W.kitOne K (.ref C) (.ref D)=some (D == C):=by
  unfold PySem.W.kitOne
  by_cases e:D=C
  · subst e
    rw [if_pos (by simp)]
    simp
  · rw [if_neg (by simpa using fun z=>e z.symm)]
    show (if _ then PySem.W.subIn K (.ref C) (.ref D) else none)=_
    rw [if_pos d.isCls,c.sub]
    simp [bmV,e,hA]
theorem kit_val (c:ClsX K C CA):PySem.W.kitOne K (.ref C) (.type "ValueError")=some true:=by
  unfold PySem.W.kitOne
  rw [if_neg (by simp)]
  show (if PySem.W.kitMeta "ValueError" = true then PySem.W.subIn K (.ref C) (.type "ValueError") else none)=_
  rw [if_pos (by decide +kernel),c.sub]
  simp [bmV]
end
def Ex (H:Hp) (e C:Addr) (f:Str) (v:V):Prop:=∃ dx,H e=some (ExcD C e dx)∧H dx=some (.xd [(f,v)])
end L2
namespace L2
open PySem PySem.Spec PyProof.Rows
def Fly (h:Heap) (e C dx:Addr):Prop:=∃ vs,h.get? e=some (excObj C (some dx) vs)∧vs.size=6∧vs[2]?=some Value.none∧(vs[1]?=some .none∨∃ T oT ts,vs[1]?=some (.ref T)∧T ≠ e∧h.get? T=some oT∧oT.data=.fields ts∧ts[3]?=some .none)
structure Lft (fs:List Addr) (e:Addr) (h h':Heap):Prop where
  keep:∀ b o,h.get? b=some o→b ∉ fs→b ≠ e→h'.get? b=some o
  slot:∀ b o,h.get? b=some o→b ≠ e→∃ sl,h'.get? b=some { o with slots:=sl }
section
variable {M:Model} {A:Around} {E:Value→Shared→Prop} {s:Shared}
theorem newEntryX {base:Heap} {env:Env} {outer:List Env} {L e C dx:Addr} {vs:Array Value} {head:Value} {hadNext:Bool} {Q:Unit→Shared→Prop}
    (hfr:A.frames=some (env::outer)) (hl:s.heap.FunFrames base (env::outer)) (hf:env.frame=some L)
    (he:s.heap.get? e=some (excObj C (some dx) vs)) (hsz:vs.size=6) (hs2:vs[2]?=some Value.none)
    (h:∀ h',Lft ((env::outer).filterMap (·.frame)) e s.heap h'→Fly h' e C dx→Q () { s with heap:=h' }) :
    wpAny M A (do let a ← frameOf env; let pl ← entryPlaceOf L hadNext; let b ← EntryCells.newEntry head a .none (rawInt L) .none pl; setField (.ref e) 1 b) (fun _ s'=>wpAny M A (setFlight (.ref e) none) Q E s') E s:=by
  have hd:(excObj C (some dx) vs).data=.fields vs:=rfl
  have hs1:1 < vs.size:=by omega
  have hene:e ∉ (env::outer).filterMap (·.frame):=fun hm=>by
    obtain ⟨_,o,ho,hnf⟩:=hl.mem hm
    rw [he] at ho; injection ho with ho; subst ho; exact hnf vs hd
  refine wpAny_bind (wpAny_frameOf_fun hfr hl hf fun h₁ hs₁=>?_)
  refine wpAny_bind (wpAny_entryPlaceOf fun pl hpl=>?_)
  unfold EntryCells.newEntry newFields
  refine wpAny_bind (wpAny_newObj_type ?_ (hpl.sizeOk5 _ _ _ _ _))
  have he₁:h₁.get? e=some (excObj C (some dx) vs):=(hs₁.2.1 e hene).trans he
  have he₂:=Heap.get?_push_of_some (h:=h₁) { cls:=.type "traceback", dict:=none,data:=.fields ([head,.ref L,.none,rawInt L,.none]++(if pl.isEmpty then List.replicate 6 Value.none else pl)).toArray } he₁
  refine wpAny_setField he₂ hd hs1 ?_
  have hTe:h₁.objs.size ≠ e:=Nat.ne_of_gt (Heap.lt_size he₁)
  have hd₃:=Obj.data_mapFields hd (·.setIfInBounds 1 (Value.ref h₁.objs.size))
  have he₃:=Heap.get?_update_self (Obj.mapFields (·.setIfInBounds 1 (Value.ref h₁.objs.size))) he₂ (Obj.isFreed_of_fields hd₃)
  have hT₃:=(Heap.get?_update_other (h₁.push { cls:=.type "traceback", dict:=none,data:=.fields ([head,.ref L,.none,rawInt L,.none]++(if pl.isEmpty then List.replicate 6 Value.none else pl)).toArray })
    (Obj.mapFields (·.setIfInBounds 1 (Value.ref h₁.objs.size))) (Ne.symm hTe)).trans (Heap.get?_push_size h₁ rfl)
  unfold setFlight
  refine wpAny_bind (wpAny_field he₃ hd₃ (x:=.ref h₁.objs.size) (by simp [hs1]) ?_)
  rw [if_pos (show (Value.ref h₁.objs.size != Value.none)=true from by simp)]
  refine wpAny_setField hT₃ rfl (by simp only [List.size_toArray,List.length_append,List.length_cons,List.length_nil] <;> omega) ?_
  have keep:∀ b o,b ≠ e→h₁.get? b=some o →
      (((h₁.push { cls:=.type "traceback", dict:=none,data:=.fields ([head,.ref L,.none,rawInt L,.none]++(if pl.isEmpty then List.replicate 6 Value.none else pl)).toArray }).update e (Obj.mapFields (·.setIfInBounds 1 (Value.ref h₁.objs.size)))).update h₁.objs.size
        (Obj.mapFields (·.setIfInBounds 3 ((none:Option Addr).elim Value.none fun f=>rawInt f)))).get? b=some o:=fun b o hbe hb=>by
    have hbT:h₁.objs.size ≠ b:=Nat.ne_of_gt (Heap.lt_size hb)
    rw [Heap.get?_update_other _ _ hbT,Heap.get?_update_other _ _ (Ne.symm hbe)]
    exact Heap.get?_push_of_some _ hb
  refine h _ ⟨fun b o hb hn hbe=>keep b o hbe ((hs₁.2.1 b hn).trans hb),fun b o hb hbe=>?_⟩ ⟨vs.setIfInBounds 1 (.ref h₁.objs.size),?_,?_,?_,.inr ⟨h₁.objs.size,_,_,?_,hTe,Heap.get?_update_self _ hT₃ (Obj.isFreed_of_fields (Obj.data_mapFields rfl _)),Obj.data_mapFields rfl _,?_⟩⟩
  · obtain ⟨sl,hs⟩:=hs₁.2.2 b o hb
    exact ⟨sl,keep b _ hbe hs⟩
  · rw [Heap.get?_update_other _ _ hTe]
    exact he₃
  · simp [hsz]
  · rw [Array.getElem?_setIfInBounds_ne (by decide)]; exact hs2
  · simp [hs1]
  · first | (simp; done) | (rcases hpl with rfl | ⟨_,_,_,_,_,_,_,rfl⟩ <;> simp)
theorem set_same {ts:Array Value} {i:Nat} {v:Value} (h:ts[i]?=some v):ts.setIfInBounds i v=ts:=by
  obtain ⟨hi,e⟩:=Array.getElem?_eq_some_iff.mp h
  refine Array.ext (by simp) fun j h1 h2=>?_
  rw [Array.getElem_setIfInBounds]
  · by_cases hj:i=j
    · subst hj
      rw [if_pos rfl,← e]
    · rw [if_neg hj]
theorem note_run {base:Heap} {env:Env} {outer:List Env} {L e C dx:Addr} {Q:Unit→Shared→Prop}
    (hfr:A.frames=some (env::outer)) (hl:s.heap.FunFrames base (env::outer)) (hf:env.frame=some L) (he:Fly s.heap e C dx)
    (h:∀ h',Lft ((env::outer).filterMap (·.frame)) e s.heap h'→Fly h' e C dx→Q () { s with heap:=h' }) :
    wpAny M A (noteFrame (.ref e) env) (fun _ s'=>wpAny M A (setFlight (.ref e) none) Q E s') E s:=by
  obtain ⟨vs,he,hz,hz2,hv⟩:=he
  have hd:(excObj C (some dx) vs).data=.fields vs:=rfl
  unfold noteFrame
  simp only [hf]
  rcases hv with h1 | ⟨T,oT,ts,h1,hTe,hT,hdT,h3⟩
  · refine wpAny_bind (wpAny_field he hd h1 ?_)
    rw [if_neg (by decide)]
    exact newEntryX hfr hl hf he hz hz2 h
  · refine wpAny_bind (wpAny_field he hd h1 ?_)
    rw [if_pos (show (Value.ref T != Value.none)=true from by simp)]
    refine wpAny_bind (wpAny_field hT hdT h3 ?_)
    rw [if_neg (show ¬ ((Value.none == rawInt L)=true) from by simp [rawInt])]
    refine wpAny_bind (wpAny_setField hT hdT (Array.getElem?_eq_some_iff.mp h3).1 ?_)
    have id:∀ b o,s.heap.get? b=some o→(s.heap.update T (Obj.mapFields (·.setIfInBounds 3 Value.none))).get? b=some o:=fun b o hb=>by
      by_cases hbT:b=T
      · subst hbT
        rw [hT] at hb
        cases hb
        have hm:Obj.mapFields (·.setIfInBounds 3 Value.none) oT=oT:=by
          obtain ⟨c,d,dt,sl⟩:=oT
          cases hdT
          show ({ cls:=c,dict:=d,data:=.fields (ts.setIfInBounds 3 Value.none),slots:=sl }:Obj)=_
          rw [set_same h3]
        have:=Heap.get?_update_self (Obj.mapFields (·.setIfInBounds 3 Value.none)) hT (by rw [hm]; exact (Heap.get?_some_iff.mp hT).2)
        rw [this,hm]
      · rw [Heap.get?_update_other _ _ (Ne.symm hbT)]
        exact hb
    refine newEntryX (s:={ s with heap:=_ }) hfr (hl.of_keeps fun b o hb _=>⟨o,id b o hb,rfl⟩) hf (id _ _ he) hz hz2 fun h' x1 x2=>h h' ⟨fun b o hb hn hbe=>x1.keep b o (id b o hb) hn hbe,fun b o hb hbe=>x1.slot b o (id b o hb) hbe⟩ x2
theorem leave_run {base:Heap} {env:Env} {outer:List Env} {L e C dx:Addr} {Q:Unit→Shared→Prop}
    (hfr:A.frames=some (env::outer)) (hl:s.heap.FunFrames base (env::outer)) (hf:env.frame=some L) (he:Fly s.heap e C dx)
    (h:∀ h',Lft ((env::outer).filterMap (·.frame)) e s.heap h'→Fly h' e C dx→Q () { s with heap:=h' }):wpAny M A (leaving env (.ref e)) Q E s:=by
  unfold leaving
  exact wpAny_bind (note_run hfr hl hf he h)
theorem flight_run {e C dx:Addr} {Q:Unit→Shared→Prop} (he:Fly s.heap e C dx) (h:∀ h',(∀ b o,s.heap.get? b=some o→h'.get? b=some o)→Q () { s with heap:=h' }):wpAny M A (setFlight (.ref e) none) Q E s:=by
  obtain ⟨vs,he,hz,hz2,hv⟩:=he
  have hd:(excObj C (some dx) vs).data=.fields vs:=rfl
  unfold setFlight
  rcases hv with h1 | ⟨T,oT,ts,h1,hTe,hT,hdT,h3⟩
  · refine wpAny_bind (wpAny_field he hd h1 ?_)
    rw [if_neg (by decide)]
    exact wpAny_pure (h s.heap fun _ _ q=>q)
  · refine wpAny_bind (wpAny_field he hd h1 ?_)
    rw [if_pos (show (Value.ref T != Value.none)=true from by simp)]
    refine wpAny_setField hT hdT (Array.getElem?_eq_some_iff.mp h3).1 (h _ fun b o hb=>?_)
    show (s.heap.update T (Obj.mapFields (·.setIfInBounds 3 Value.none))).get? b=some o
    by_cases hbT:b=T
    · subst hbT
      rw [hT] at hb
      cases hb
      have hm:Obj.mapFields (·.setIfInBounds 3 Value.none) oT=oT:=by
        obtain ⟨c,d,dt,sl⟩:=oT
        cases hdT
        show ({ cls:=c,dict:=d,data:=.fields (ts.setIfInBounds 3 Value.none),slots:=sl }:Obj)=_
        rw [set_same h3]
      have:=Heap.get?_update_self (Obj.mapFields (·.setIfInBounds 3 Value.none)) hT (by rw [hm]; exact (Heap.get?_some_iff.mp hT).2)
      rw [this,hm]
    · rw [Heap.get?_update_other _ _ (Ne.symm hbT)]
      exact hb
end
end L2
namespace L2
open PySem PySem.Spec PyProof.Rows
section
variable {P:Program} {w:World} {H:Hp} {h h':Heap} {fs:List Addr} {e C dx:Addr} {φ:Heap→Prop}
theorem Fly.ofD (x:HOk P w H h) (he:H e=some (ExcD C e dx)):Fly h e C dx:=by
  obtain ⟨o,ho,a,rfl⟩:=ObP.get x he
  exact ⟨_,ho,rfl,rfl,.inl rfl⟩
theorem lft_un (l:Lft fs e h h') (he:H e=some (.ext φ)) (fl:Fly h' e C dx):Un fs [] H (upd H e (ExcT C e dx)) h h':=by
  have nn:∀ b,H b=none→b ≠ e:=fun b n z=>by rw [z,he] at n; cases n
  have ne:∀ b u,H b=some u→(∀ ψ,u ≠ .ext ψ)→b ≠ e:=fun b u hb hu z=>by rw [z,he] at hb; cases hb; exact hu _ rfl
  refine ⟨fun b o q n hb _=>l.keep b o q hb (nn b n),fun b o q n _ _=>l.slot b o q (nn b n),fun b o _ n _=>by rw [upd_ne (nn b n)]; exact n,fun b o q _=>?_,fun b xs q=>?_,fun b o u q=>?_,fun b ps q=>⟨#[],?_⟩⟩
  · by_cases hb:b=e
    · obtain ⟨vs,h1,_⟩:=fl
      exact ⟨_,by rw [hb]; exact h1⟩
    · obtain ⟨sl,h1⟩:=l.slot b o q hb
      exact ⟨_,h1⟩
  · rw [upd_ne (ne b _ q fun ψ z=>by cases z)]
    exact q
  · rw [upd_ne (ne b _ q fun ψ z=>by cases z)]
    exact q
  · rw [upd_ne (ne b _ q fun ψ z=>by cases z),q]
    simp
theorem lft_hok (x:HOk P w H h) (l:Lft fs e h h') (hfs:∀ b ∈ fs,H b=none) (he:H e=some (.ext φ)) (fl:Fly h' e C dx):HOk P w (upd H e (ExcT C e dx)) h':=by
  have ne:∀ b u,H b=some u→(∀ ψ,u ≠ .ext ψ)→b ≠ e:=fun b u hb hu z=>by rw [z,he] at hb; cases hb; exact hu _ rfl
  have nf:∀ b u,H b=some u→b ∉ fs:=fun b u hb z=>by rw [hfs b z] at hb; cases hb
  intro b u q
  by_cases hb:b=e
  · subst hb
    rw [upd_same] at q
    cases q
    obtain ⟨vs,h1,h2,h3,_⟩:=fl
    exact ObP.ok h1 ⟨vs,rfl,h2,h3⟩
  · rw [upd_ne hb] at q
    refine (x b u q).stay (fun c v hc r=>?_) (fun c r=>?_) fun c xs r=>?_
    · rcases hc with rfl | hc
      · exact l.keep _ _ r (nf _ _ q) hb
      · exact l.keep _ _ r (nf _ _ hc) (ne _ _ hc fun ψ z=>by cases z)
    · rw [upd_ne (ne _ _ r fun ψ z=>by cases z)]
      exact r
    · rw [upd_ne (ne _ _ r fun ψ z=>by cases z)]
      exact r
end
def CXr (P:Program) (w:World):CXT:=fun outer H s E e s'=>∃ e0 C dx H',1≤s'.toks∧e=.ref e0∧s'.os=s.os∧AllBare s'.gens∧Un (frs outer) [] H H' s.heap s'.heap∧HOk P w H' s'.heap∧H' e0=some (ExcT C e0 dx)∧Fly s'.heap e0 C dx∧E (.ref e0) (some dx) H'
section
variable {P:Program} {w:World} {K:PySem.W.Frag} {mg:Str→Option Value} {base:Heap} {N:List Str} {qual:Str} {scope:Scope} {f:Addr} {cd:Value} {A:Around} {outer:List Env} {s s1:Shared} {H H1:Hp} {E:XK} {pins:List (Addr × Obj)} {σ:St} {e C dx:Addr} {φ:Heap→Prop}
theorem xe_fly (I:Inv (cxOf (CXr P w) P w K mg base N qual scope f cd A outer s H E) pins σ H1 s1) (he:H1 e=some (.ext φ)) (fl:Fly s1.heap e C dx) (q:E (.ref e) (some dx) (upd H1 e (ExcT C e dx))) :
    (cxOf (CXr P w) P w K mg base N qual scope f cd A outer s H E).xe (.ref e) s1:=by
  show wpAny _ _ (leaving _ (.ref e)) _ _ s1
  refine leave_run (base:=base) I.ok.frames I.stack rfl fl fun h' l fl'=>?_
  have u1:=lft_un (H:=H1) l he fl'
  have k1:=lft_hok I.hok l I.stkFree he fl'
  have b0:Un (frs outer) [] H H1 s.heap s1.heap:=I.base
  have above:s.heap.objs.size≤(cxOf (CXr P w) P w K mg base N qual scope f cd A outer s H E).env.locals:=I.ok.above
  have sub:∀ b o,s.heap.get? b=some o→b ∉ frs outer→b ∉ frs (cxOf (CXr P w) P w K mg base N qual scope f cd A outer s H E).stack:=fun b o q hb z=>by
    rcases List.mem_cons.mp (I.stkSub b z) with z | z
    · have:=Heap.lt_size q
      rw [z] at this
      exact absurd above (Nat.not_le.mpr this)
    · exact hb z
  have u2:=(b0.mono (fs':=frs (cxOf (CXr P w) P w K mg base N qual scope f cd A outer s H E).stack) (ex':=[]) (fun b hb=>by
    show b ∈ List.filterMap _ (_::outer)
    rw [List.filterMap_cons]
    exact List.mem_cons_of_mem _ hb) fun _ z=>z).trans u1
  refine ⟨e,C,dx,_,I.tk,rfl,I.os,I.bare,⟨fun b o q n hb hx=>u2.keep b o q n (sub b o q hb) hx,fun b o q n _ hx=>u2.any q n hx,u2.free,u2.there,u2.tups,u2.frzs,u2.tbls⟩,k1,upd_same,fl',q⟩
end
section
variable {X:Cx} {x:Expr} {te:TE} {pos:Pos}
end
end L2
namespace L2
open PySem PySem.Spec PyProof.Rows
theorem raise_objX2 {M:Model} {A:Around} {E:Value→Shared→Prop} {s:Shared} {env:Env} {K:PySem.W.Frag} {x:Sem Value} {Q:Flow→Shared→Prop} (hh:A.handled=none)
    (h:wpAny M A x (fun v s₁=>∃ e dx a C CA,v=.ref e∧ClsX K C CA∧K.In s₁.heap∧s₁.heap.get? e=some (excObj C (some dx) (vs6 a))∧E (.ref e) s₁) E s):wpAny M A (raiseStmt env (some x) none) Q E s:=by
  unfold raiseStmt
  refine wpAny_bind (wpAny_mono h (fun v s₁ h₁=>?_) fun _ _ x=>x)
  obtain ⟨e,dx,a,C,CA,rfl,c,KX,he,hE⟩:=h₁
  obtain ⟨nm,q,N,bs,sn,sub,ab,col,dd,k0,k1,k2,k3,k5,lk⟩:=c.obj
  have hcB:=cX_base (C:=C) (CA:=CA)
  have hC:=KX _ _ lk
  obtain ⟨hp,g,d,tk,os⟩:=s₁
  repeat (first | with_reducible refine wpAny_loadPart_at he ?_ | with_reducible refine wpAny_loadPart_at hC ?_ | (with_reducible refine wpAny_isSubtype_exc hC ?_; rw [hcB]) | wp_step)
  exact wpAny_raiseNew_none hh hE
section
variable {P:Program} {w:World} {K:PySem.W.Frag} {mg:Str→Option Value} {base:Heap} {N:List Str} {qual:Str} {scope:Scope} {f:Addr} {cd:Value} {A:Around} {outer:List Env} {s:Shared} {H:Hp} {E:XK}
theorem ps_raise {x:Expr} {te:TE} {pos:Pos} (he:PE (cxOf (CXr P w) P w K mg base N qual scope f cd A outer s H E) x te) :
    PS (cxOf (CXr P w) P w K mg base N qual scope f cd A outer s H E) (.Raise (some x) none pos) (fun _ σ H1=>te σ H1 fun v H2=>∃ e C CA dx,v=.ref e∧H2 e=some (ExcD C e dx)∧ClsX K C CA∧E (.ref e) (some dx) (upd H2 e (ExcT C e dx))):=by
  intro pins s1 σ H1 D I h
  rw [arm_exec_Raise]
  refine wpAny_bind (wpAny_standAt (raise_objX2 (K:=K) (I.ok.hd rfl) ?_))
  refine wpAny_bind (thn (he pins s1 σ H1 _ I h) fun u s2 ⟨v,H2,I2,r,e,C,CA,dx,ev,e2,c,q⟩=>wpAny_bind (wpAny_standAt (wpAny_pure ?_)))
  subst ev
  obtain rfl:u=Value.ref e:=r
  obtain ⟨o,ho,a,rfl⟩:=ObP.get I2.hok e2
  exact ⟨e,dx,a,C,CA,rfl,c,I2.kIn,ho,xe_fly I2 e2 (Fly.ofD I2.hok e2) q⟩
theorem passX:Passes (CXr P w) (cxOf (CXr P w) P w K mg base N qual scope f cd A outer s H E) E:=by
  rintro pins σ H1 s1 _ s2 I ⟨e0,C,dx,H',ht,rfl,os,bare,un,hok,he,fl,q⟩
  have I2:=I.call' (ch:=[]) os un hok bare ht (fun b z=>absurd z (by simp))
  refine xe_fly I2 he fl ?_
  rw [upd_id he]
  exact q
theorem ownX:PassesOwn (model P w) (cxOf (CXr P w) P w K mg base N qual scope f cd A outer s H E).A (cxOf (CXr P w) P w K mg base N qual scope f cd A outer s H E).env (cxOf (CXr P w) P w K mg base N qual scope f cd A outer s H E).xe:=PassesOwn.leaving
end
section
variable {P:Program} {w:World} {K:PySem.W.Frag} {mg:Str→Option Value} {base:Heap} {dV:Value}
theorem FunD.okX {x qual:Str} {st:Stmt} {f:Addr} {fd:FuncData} {N ps:List Str} {k:Nat} {sp:Sp} (F:FunD K x qual st f fd dV) (S:FnScope N ps (defScope st)) (len:∀ vs H Q E,sp vs H Q E→vs.length=ps.length)
    (hbody:∀ (cdv:Value) (A:Around) (outer:List Env) (s:Shared) (H:Hp) (vs:List V) (Q:VK) (E:XK),Room k (A.deeper (envOfC qual (defScope st) s.heap.objs.size f cdv))→sp vs H Q E →
      ∃ t,PSs (cxOf (CXr P w) P w K mg base N qual (defScope st) f cdv A outer s H E) (defBody st) t∧t { nx:=fun _ H'=>Q .non H',rt:=Q } (start N vs) H):FnOk P w K mg base (CXr P w) (k+1) f fd ps sp:=by
  obtain ⟨oc,od,kV,doc,pm,an,cdv,ct,osl,rfl,lk,hcd⟩:=F.ex
  exact fn_of lk hcd S len fun A outer s H vs Q E hr hsp=>hbody cdv A outer s H vs Q E hr hsp
theorem Fun.okX {x qual:Str} {st:Stmt} {f:Addr} {fd:FuncData} {N ps:List Str} {k:Nat} {sp:Sp} (F:Fun K x qual st f fd) (S:FnScope N ps (defScope st)) (len:∀ vs H Q E,sp vs H Q E→vs.length=ps.length)
    (hbody:∀ (cdv:Value) (A:Around) (outer:List Env) (s:Shared) (H:Hp) (vs:List V) (Q:VK) (E:XK),Room k (A.deeper (envOfC qual (defScope st) s.heap.objs.size f cdv))→sp vs H Q E →
      ∃ t,PSs (cxOf (CXr P w) P w K mg base N qual (defScope st) f cdv A outer s H E) (defBody st) t∧t { nx:=fun _ H'=>Q .non H',rt:=Q } (start N vs) H):FnOk P w K mg base (CXr P w) (k+1) f fd ps sp:=F.toD.okX S len hbody
structure CalR (P:Program) (w:World) (K:PySem.W.Frag) (mg:Str→Option Value) (base:Heap) (n:Nat) (x:Str) (ps:List Str) (sp:Sp):Prop where
  ex:∃ (f:Addr) (fd:FuncData),FnOk P w K mg base (CXr P w) n f fd ps sp∧Binds K fd ps []∧PySem.W.keepIn K (.ref f)=true∧mg x=some (.ref f)
theorem CalR.of {n:Nat} {x qual:Str} {ps:List Str} {sp:Sp} {st:Stmt} {f:Addr} {fd:FuncData} (F:Fun K x qual st f fd) (O:FnOk P w K mg base (CXr P w) n f fd ps sp) (m:mg x=some (.ref f))
    (h:∀ (kV doc pm:Value) (an:Option Addr) (cdv ct:Value) (us:List Value),us.length=ps.length→bindArgs (PySem.W.fnOf x qual (defArgs st) (defBody st) (defScope st) .none kV doc pm an cdv ct) ⟨us,[]⟩=pure (ps.zip us)):CalR P w K mg base n x ps sp :=
  ⟨f,fd,O,F.binds h,F.kp,m⟩
theorem pe_calR {X:Cx} {n k:Nat} {x:Str} {ps:List Str} {sp:Sp} {e:Expr} {es:List Expr} {t:TA} {p pos:Pos} {E:XK} (C:CalR X.prog X.w X.K X.mg X.base n x ps sp) (hr:Room k X.A) (hk:n≤k) (hg:Gl X x) (hx:Passes (CXr X.prog X.w) X E)
    (ha:PA X (e::es) t) (hdb:(x == ("__debug__" : Str))=false:=by decide) (he:starEach (e::es) X.env=(false,eval e X.env)::starEach es X.env:=by rfl) (hpl:(backTo pos (starEach es X.env)).any (·.1)=false:=by rfl) :
    PE X (.Call (.Name x p) (e::es) [] pos) (tCall sp [] E t):=by
  obtain ⟨f,fd,F,b,kp,m⟩:=C.ex
  exact pe_call F (hr.mono hk) hg m kp b .nil hx ha hdb he hpl
theorem noRaise {X:Cx}:Passes (CXr X.prog X.w) X E0:=by
  rintro pins σ H1 s1 _ s2 I ⟨e0,C,dx,H',ht,rfl,os,bare,un,hok,he,fl,q⟩
  exact q.elim
end
end L2
namespace L2
open PySem PySem.Spec PyProof.Rows
section
variable {M:Model} {A:Around} {E:Value→Shared→Prop}
theorem excMatches_up {K:PySem.W.Frag} {C CA:Addr} {s:Shared} {e:Addr} {oe:Obj} {Q:Bool→Shared→Prop} (c:ClsX K C CA) (X:K.In s.heap) (he:s.heap.get? e=some oe) (hcls:oe.cls=.ref C)
    (hA:∃ (nm q:Str) (N:Addr) (bs:List Value) (sn:List Str) (sub:List Value) (ab:Bool) (col:Option Bool) (dd:Option Addr) (k0 k1 k2 k3 k5:Option Value),K.lookup CA=some (excClassObj nm q CA N bs bmV true sn sub ab col dd k0 k1 k2 k3 k5 "ValueError.__new__"))
    (hq:Q true s):wpAny M A (excMatches (.ref e) (.ref CA)) Q E s:=by
  obtain ⟨nm,q,N,bs,sn,sub,ab,col,dd,k0,k1,k2,k3,k5,lk⟩:=c.obj
  obtain ⟨nm',q',N',bs',sn',sub',ab',col',dd',k0',k1',k2',k3',k5',lk'⟩:=hA
  have hC:=X _ _ lk
  have hA:=X _ _ lk'
  obtain ⟨h,g,d,t,os⟩:=s
  have hcB:(Value.ref CA::bmV).contains (.type "BaseException")=true:=by simp [bmV]
  have hcC:(Value.ref C::.ref CA::bmV).contains (.ref CA)=true:=by simp
  have f:=tc_notTuple
  unfold excMatches
  repeat (first | (with_reducible refine wpAny_loadPart_at he ?_; rw [hcls]) | with_reducible refine wpAny_loadPart_at hA ?_ | (with_reducible refine wpAny_isSubtype_exc hA ?_; rw [hcB]) | (with_reducible refine wpAny_isSubtype_exc hC ?_; rw [hcC]) | wp_step)
  exact hq
end
section
variable {prog:Program} {w:World} {A:Around} {s:Shared} {env:Env} {R:Result→Shared→Prop}
theorem handlers_named {e:Value} {n:Str} {b₀:Stmt} {body:List Stmt} {pos:Pos}
    (h:wpAny (model prog w) A (setFlight e none) (fun _ s1=>wpAny (model prog w) A (bindName env n e) (fun _ s2=>wpAny (model prog w) A (execs (b₀::body) env) (fun f s3=>R (.ok f) s3) (fun _ _=>False) s2) (fun _ _=>False) s1) (fun _ _=>False) s) :
    codeAny (model prog w) A (.handlers e [.ExceptHandler none (some n) (b₀::body) pos] env) R s:=by
  refine codeAny_of_tree ?_
  show wpAny _ A (do return Fin.done (← (handleWith e env [.ExceptHandler none (some n) (b₀::body) pos]).onRaise (fun x=>do noteFrame x env; theTreesLotGoes x))) _ _ s
  refine wpAny_bind (wpAny_noted ?_)
  unfold handleWith
  exact wpAny_bind (wpAny_standAt (wpAny_bind (wpAny_mono h (fun _ s₁ h₁=>wpAny_bind (wpAny_mono h₁ (fun _ s2 h2=>wpAny_bind (wpAny_attempt (wpAny_mono h2 (fun f s3 h3=>wpAny_pure (wpAny_pure h3)) fun _ _ z=>z.elim))) fun _ _ z=>z.elim)) fun _ _ z=>z.elim)))
end
abbrev Cx.marked (X:Cx) (e:Addr):Cx:={ X with A:=X.A.mark (some (.ref e)),calm:=false,xe:=fun _ _=>False }
section
variable {X:Cx} {pins:List (Addr × Obj)} {σ:St} {H:Hp} {s:Shared} {e:Addr}
theorem Inv.marked (I:Inv X pins σ H s):Inv (X.marked e) pins σ H s :=
  ⟨⟨I.ok.mod,I.ok.kind,I.ok.glob,I.ok.blt,I.ok.above,I.ok.inj,I.ok.has,I.ok.cab,(fun z=>by cases z),I.ok.frames,I.ok.stk,I.ok.exf,I.ok.bs,I.ok.bsz,I.ok.noex,I.ok.exfs,I.ok.funs,I.ok.frf⟩,I.os,I.bare,I.base,I.loc,I.cell,I.free,I.freeC,I.pin,I.hok,I.len,I.tk⟩
theorem Inv.unmarked (ok:X.Ok) (I:Inv (X.marked e) pins σ H s):Inv X pins σ H s:=⟨ok,I.os,I.bare,I.base,I.loc,I.cell,I.free,I.freeC,I.pin,I.hok,I.len,I.tk⟩
theorem SP.unmarked {D:Ends} {f:Flow} {s':Shared} (ok:X.Ok) (h:SP (X.marked e) pins D f s'):SP X pins D f s':=by
  cases f with
  | next=>obtain ⟨σ',H',I,q⟩:=h; exact ⟨σ',H',I.unmarked ok,q⟩
  | brk=>obtain ⟨σ',H',I,q⟩:=h; exact ⟨σ',H',I.unmarked ok,q⟩
  | cont=>obtain ⟨σ',H',I,q⟩:=h; exact ⟨σ',H',I.unmarked ok,q⟩
  | ret u=>obtain ⟨v,σ',H',I,r,q⟩:=h; exact ⟨v,σ',H',I.unmarked ok,r,q⟩
theorem del_ok {M:Model} {A:Around} {E:Value→Shared→Prop} {i:Nat} {x:Str} {v:V} {pos:Pos} {Q:Unit→Shared→Prop} (I:Inv X pins σ H s) (hN:X.N.Nodup) (hi:X.N[i]?=some x) (hk:X.env.kindOf x=some .local) (hv:σ[i]?=some (some v))
    (h:∀ s',Inv X pins (σ.set i none) H s'→Q () s'):wpAny M A (unbindBehindTheSuite X.env x pos) Q E s:=by
  obtain ⟨m,hn,hl⟩:=id I.loc
  have hcls:(X.env.scope.kind == .class || (X.env.scope.kind == .module && X.env.locals != X.env.globals))=false:=by rw [I.ok.kind]; rfl
  have hiσ:i < σ.length:=by rw [I.len]; exact (List.getElem?_eq_some_iff.mp hi).1
  have cne:=I.cne
  obtain ⟨u0,_,lk⟩:=hl i x v hi hv (.inl hk)
  have hm:(m x).isSome=true:=by
    rcases lk with ⟨_,q⟩ | ⟨q,_⟩
    · rw [q]; rfl
    · rcases q with q | q <;> (rw [hk] at q; cases q)
  unfold unbindBehindTheSuite unbindName deleteName
  refine wpAny_onRaise (wpAny_bind (wpAny_point (wpAny_bind ?_)))
  simp only [hk,hcls,Bool.false_eq_true,if_false]
  refine wpAny_bind (wpAny_nsDel_keeps hn fun h' v' hn' hs=>?_)
  rw [hm]
  refine wpAny_pure (wpAny_point ?_)
  obtain ⟨oL,_,_,hoL,_⟩:=id hn
  refine h _ ⟨I.ok,I.os,I.bare,⟨fun b o e n hb hx=>?_,fun b o e n hb hx=>?_,I.base.free,fun b o e hx=>?_,I.base.tups,I.base.frzs,I.base.tbls⟩,⟨_,hn',fun j y v' e1 e2 e3=>?_⟩,fun y c e=>?_,I.free,I.freeC,fun p hp=>?_,fun b ob e=>?_,by simpa using I.len,I.tk⟩
  · exact (hs.2 b (Nat.ne_of_lt (Nat.lt_of_lt_of_le (Heap.lt_size e) I.ok.above))).trans (I.base.keep b o e n hb hx)
  · obtain ⟨sl,e1⟩:=I.base.slot b o e n hb hx
    exact ⟨sl,(hs.2 b (Nat.ne_of_lt (Nat.lt_of_lt_of_le (Heap.lt_size e) I.ok.above))).trans e1⟩
  · obtain ⟨o',e1⟩:=I.base.there b o e hx
    exact ⟨o',(hs.2 b (Nat.ne_of_lt (Nat.lt_of_lt_of_le (Heap.lt_size e) I.ok.above))).trans e1⟩
  · by_cases hj:j=i
    · subst hj
      rw [List.getElem?_set_self hiσ] at e2
      cases e2
    · rw [List.getElem?_set_ne (Ne.symm hj)] at e2
      obtain ⟨u',r',q⟩:=hl j y v' e1 e2 e3
      refine ⟨u',r',?_⟩
      rcases q with ⟨k,e⟩ | ⟨k,c,e,z⟩
      · refine .inl ⟨k,?_⟩
        have:y ≠ x:=fun e=>hj (nodup_ix hN e1 (e ▸ hi))
        simp [this,e]
      · exact .inr ⟨k,c,e,z.sameBut hs (cne y c e)⟩
  · obtain ⟨w',z⟩:=I.cell y c e
    exact ⟨w',z.sameBut hs (cne y c e)⟩
  · obtain ⟨e,n,ne,nf,d⟩:=I.pin p hp
    exact ⟨(hs.2 p.1 ne).trans e,n,ne,nf,d⟩
  · refine (I.hok b ob e).stay (fun c w' hc q=>(hs.2 c ?_).trans q) (fun _ q=>q) fun _ _ q=>q
    rintro rfl
    rcases hc with rfl | hc
    · rw [I.free] at e; cases e
    · rw [I.free] at hc; cases hc
end
end L2
namespace L2
open PySem PySem.Spec PyProof.Rows
def PSw (X:Cx) (EE:Ends→St→XK) (st:List Stmt) (t:TS):Prop :=
  ∀ (W:Value→Shared→Prop) (pins:List (Addr × Obj)) (s:Shared) (σ:St) (H:Hp) (D:Ends),(∀ H1 s1 ev s2,Inv X pins σ H1 s1→CXr X.prog X.w X.stack H1 s1 (EE D σ) ev s2→W ev s2)→Inv X pins σ H s→t D σ H →
    wpAny (model X.prog X.w) X.A (execs st X.env) (SP X pins D) W s
section
variable {X:Cx} {EE:Ends→St→XK} {n k:Nat} {x:Str} {ps:List Str} {sp:Sp} {e:Expr} {es:List Expr} {ta:TA} {p pos:Pos}
theorem callW {W:Value→Shared→Prop} {E:XK} {pins:List (Addr × Obj)} {s:Shared} {σ:St} {H:Hp} {Q:VK} (C:CalR X.prog X.w X.K X.mg X.base n x ps sp) (hr:Room k X.A) (hk:n≤k) (hg:Gl X x) (ha:PA (X.wish W) (e::es) ta)
    (hW:∀ H1 s1 ev s2,Inv X pins σ H1 s1→CXr X.prog X.w X.stack H1 s1 E ev s2→W ev s2) (I:Inv X pins σ H s) (h:tCall sp [] E ta σ H Q)
    (hdb:(x == ("__debug__" : Str))=false:=by decide) (he:starEach (e::es) X.env=(false,eval e X.env)::starEach es X.env:=by rfl) (hpl:(backTo pos (starEach es X.env)).any (·.1)=false:=by rfl) :
    wpAny (model X.prog X.w) X.A (eval (.Call (.Name x p) (e::es) [] pos) X.env) (EP X pins σ Q) W s:=by
  obtain ⟨f,fd,F,b,kp,m⟩:=C.ex
  refine wpAny_Call_Name_kw (ld_glob I hg m ?_ hdb)
  refine PySem.W.callWith_K (h₀:=X.base) I.ok.mod.kin kp (thn (ha pos pins s σ H _ (I.wish W) h) fun us s1 ⟨vs,H1,I1,r,q⟩=>⟨I1.kIn,?_⟩) he hpl
  have I1':=I1.unwish
  have r2:Vals (vs++[]) (us++[]):=r.append .nil
  have hl:(us++[]).length=ps.length:=by rw [← r2.length]; exact F.len _ _ _ _ q
  refine wpAny_call (codeAny_mono (F.run X.A X.stack s1 H1 ⟨us,[]⟩ (us++[]) (vs++[]) Q E (hr.mono hk) I1'.env0 (b s1 us I1'.kIn hl) r2 q) fun r s' hq=>?_)
  cases r with
  | error ev=>exact hW H1 s1 ev s' I1' hq
  | ok fl =>
    cases fl with
    | ret u=>exact I1'.after hq
    | next=>exact False.elim hq
    | brk=>exact False.elim hq
    | cont=>exact False.elim hq
theorem psw_expr {p1:Pos} (C:CalR X.prog X.w X.K X.mg X.base n x ps sp) (hr:Room k X.A) (hk:n≤k) (hg:Gl X x) (ha:∀ W,PA (X.wish W) (e::es) ta)
    (hs:swapsWith (.Call (.Name x p) (e::es) [] pos) none p1.line X.env=pure false:=by rfl)
    (hdb:(x == ("__debug__" : Str))=false:=by decide) (he:starEach (e::es) X.env=(false,eval e X.env)::starEach es X.env:=by rfl) (hpl:(backTo pos (starEach es X.env)).any (·.1)=false:=by rfl) :
    PSw X EE [.Expr (.Call (.Name x p) (e::es) [] pos) p1] (fun D σ H=>tCall sp [] (EE D σ) ta σ H fun _ H1=>D.nx σ H1):=by
  intro W pins s σ H D hW I h
  refine wpAny_execs_cons (wpAny_Expr_any (thn (callW C hr hk hg (ha W) hW I h hdb he hpl) fun v s1 ⟨z,H1,I1,r1,q1⟩=>wpAny_execs_nil ⟨σ,H1,I1,q1⟩) I.quiet hs)
def Ends.un (D:Ends) (i:Nat):Ends:={ nx:=fun σ H=>D.nx (σ.set i none) H,rt:=D.rt,bk:=fun σ H=>D.bk (σ.set i none) H,ct:=fun σ H=>D.ct (σ.set i none) H }
def isBaseX (K:PySem.W.Frag) (CA:Addr):Prop:=∃ (nm q:Str) (N:Addr) (bs:List Value) (sn:List Str) (sub:List Value) (ab:Bool) (col:Option Bool) (dd:Option Addr) (k0 k1 k2 k3 k5:Option Value),K.lookup CA=some (excClassObj nm q CA N bs bmV true sn sub ab col dd k0 k1 k2 k3 k5 "ValueError.__new__")
theorem ps_try {c m:Str} {CA:Addr} {i:Nat} {st body:List Stmt} {b₀:Stmt} {pc ph:Pos} {t tb:TS} (hN:X.N.Nodup) (hi:X.N[i]?=some m) (hk:X.env.kindOf m=some .local) (hg:Gl X c) (hm:X.mg c=some (.ref CA)) (hA:isBaseX X.K CA)
    (hb:PSw X (fun D σ ev dxo H'=>∃ e C dx,ev=.ref e∧dxo=some dx∧H' e=some (ExcT C e dx)∧ClsX X.K C CA∧tb (D.un i) (σ.set i (some (.ref e))) H') st t) (hh:∀ e,PSs (X.marked e) (b₀::body) tb)
    (hst:X.stack=X.env::X.outer:=by rfl) (hfr:X.env.frame=some X.env.locals:=by rfl) (hdb:(c == ("__debug__" : Str))=false:=by decide) :
    PS X (.Try st [.ExceptHandler (some (.Name c pc)) (some m) (b₀::body) ph] [] [] pos) t:=by
  intro pins s σ H D I h
  refine wpAny_Try_except (wpAny_mono (hb _ pins s σ H D ?_ I h) (fun f s1 q=>?_) fun _ _ z=>z)
  · rintro H1 s1 _ s2 I1 ⟨e,C0,dx0,H2,ht,rfl,os,bare,un,hok,he0,fl,e',C,dx,ee,ed,he,cls,q⟩
    cases ee
    cases ed
    have I2:=I1.call' (ch:=[]) os un hok bare ht (fun b z=>absurd z (by simp))
    refine note_run (base:=X.base) (env:=X.env) (outer:=X.outer) (by rw [← hst]; exact I2.ok.frames) (by rw [← hst]; exact I2.stack) hfr fl fun h' l fl'=>?_
    have u:=lft_un (H:=H2) l he0 fl'
    have kk:=lft_hok I2.hok l (by
      have z:=I2.stkFree
      rw [hst] at z
      exact z) he0 fl'
    rw [upd_id he0] at u kk
    have I3:Inv X pins σ H2 { s2 with heap:=h' }:=I2.call' (ch:=[]) rfl (by rw [hst]; exact u) kk I2.bare I2.tk (fun b z=>absurd z (by simp))
    refine wpAny_handleBy_cons (codeAny_handlers_test (ld_glob (X:=X.marked e) (I3.marked (e:=e)) hg hm ?_ hdb)) (by intro z; cases z)
    obtain ⟨o,ho,vs,rfl,_⟩:=ObP.get I3.hok he
    refine excMatches_up cls I3.kIn ho rfl hA ?_
    refine handlers_named ?_
    refine flight_run fl' fun h'' kp=>?_
    have I4:Inv X pins σ H2 { s2 with heap:=h'' }:=I3.kept (t':=s2.toks) kp
    refine wpAny_bindName (store_ok (X:=X.marked e) (v:=.ref e) (I4.marked (e:=e)) hN hi (.inl hk) rfl (fun s5 I5=>?_) (.inr hk))
    refine wpAny_mono (hh e pins s5 _ H2 (D.un i) I5 q) (fun f s6 q6=>?_) fun _ _ z=>z
    have q7:=SP.unmarked I.ok q6
    have fin:∀ {σ' H'} {G:Shared→Prop},Inv X pins σ' H' s6→(∀ s8,Inv X pins (σ'.set i none) H' s8→G s8)→wpAny (model X.prog X.w) X.A (do bindName X.env m .none; unbindBehindTheSuite X.env m ph) (fun _ s3=>G s3) X.xe s6:=fun {σ' H' G} I6 g=>by
      refine wpAny_bind (wpAny_bindName (store_ok (v:=.non) I6 hN hi (.inl hk) rfl (fun s7 I7=>?_) (.inr hk)))
      have hl:i < σ'.length:=by rw [I6.len]; exact (List.getElem?_eq_some_iff.mp hi).1
      refine del_ok (v:=.non) I7 hN hi hk (List.getElem?_set_self hl) fun s8 I8=>?_
      rw [List.set_set] at I8
      exact g s8 I8
    cases f with
    | next=>obtain ⟨σ',H',I',q⟩:=q7; exact fin I' fun s8 I8=>⟨_,H',I8,q⟩
    | brk=>obtain ⟨σ',H',I',q⟩:=q7; exact fin I' fun s8 I8=>⟨_,H',I8,q⟩
    | cont=>obtain ⟨σ',H',I',q⟩:=q7; exact fin I' fun s8 I8=>⟨_,H',I8,q⟩
    | ret v=>obtain ⟨z,σ',H',I',r,q⟩:=q7; exact fin I' fun s8 I8=>⟨z,_,H',I8,r,q⟩
  · cases f with
    | next=>exact wpAny_execs_nil q
    | brk=>exact q
    | cont=>exact q
    | ret v=>exact q
end
end L2
namespace L2
open PySem PySem.Spec PyProof.Rows
section
variable {X:Cx} {e:Expr} {f:Str} {pos:Pos} {ta:TE}
theorem call_isiXK (K:PySem.W.Frag) (hK:X.K=K:=by rfl):CallR X (.builtin "isinstance") (rIsiX K):=by subst hK; exact call_isiX
theorem pe_fldXK (K:PySem.W.Frag) (he:PE X e ta) (hb:attributeBase e f X.env (eval e X.env)=eval e X.env) (hK:X.K=K:=by rfl) :
    PE X (.Attribute e f pos) (fun σ H Q=>ta σ H fun x H1=>∃ a C CA dx fs v,x=.ref a∧XAt H1 a C dx∧H1 dx=some (.xd fs)∧fs.lookup f=some v∧ClsX K C CA∧NoAttr K C f∧Q v H1):=by subst hK; exact pe_fldX he hb
end
end L2
namespace L2
open PySem PySem.Spec PyProof.Rows
def ItVT (K:PySem.W.Frag) (a:Addr) (xs:List V):It:=⟨fun i H=>SqT K H a xs∧i < xs.length,fun i H y H'=>H'=H∧xs.reverse[i]?=some y,fun i _=>xs.length≤i⟩
def ItVB (K:PySem.W.Frag) (c:Bool) (a:Addr) (xs:List V):It:=if c=true then ItV K a xs else ItVT K a xs
section
variable {X:Cx} {tg:Expr}
inductive ZiRevB (K:PySem.W.Frag) (R:(It→Hp→Prop)) (x:V) (H1:Hp):Prop where
  | mk:∀ c a xs,(x=.ref a)→(SqB K c H1 a xs)→(R (ItVB K c a xs) H1)→ZiRevB K R x H1
def iRevB (K:PySem.W.Frag) (tl:TE):TI:=fun σ H R=>tl σ H fun x H1=>ZiRevB K R x H1
end
end L2
namespace L2
open PySem PySem.Spec PyProof.Rows
set_option maxRecDepth 100000
section
variable {X:Cx}
inductive rRepT (K:PySem.W.Frag) (x:V) (y:V) (H:Hp) (Q:VK):Prop where
  | mk:∀ a v k,(x=.ref a)→(y=.int k)→(SqT K H a [v])→(0≤k)→(k≤1000)→((k=1→Q (.ref a) H))→((k ≠ 1→∀ p,H p=none→Q (.ref p) (upd H p (.tup (List.replicate k.toNat v)))))→rRepT K x y H Q
end
end L2
namespace L2
open PySem PySem.Spec PyProof.Rows
end L2
namespace L2
open PySem PySem.Spec PyProof.Rows
section
variable {M:Model} {A:Around} {E:Value→Shared→Prop}
end
section
variable {X:Cx} {EE:Ends→St→XK} {k:Nat} {m:Str} {ps:List Str} {sp:Sp} {e o:Expr} {es:List Expr} {ta:TE} {t:TA} {f C:Addr} {fd:FuncData} {apos pos:Pos}
end
end L2
namespace L2
open PySem PySem.Spec PyProof.Rows
def ItB (K:PySem.W.Frag) (c:Bool) (a:Addr):It:=if c=true then Itl K a else Itt K a
section
variable {X:Cx} {tg:Expr}
inductive ZiAny (K:PySem.W.Frag) (R:(It→Hp→Prop)) (x:V) (H1:Hp):Prop where
  | mk:∀ c a,(x=.ref a)→((∃ xs,SqB K c H1 a xs))→(R (ItB K c a) H1)→ZiAny K R x H1
def iAny (K:PySem.W.Frag) (tl:TE):TI:=fun σ H R=>tl σ H fun x H1=>ZiAny K R x H1
end
end L2
namespace L2
open PySem PySem.Spec PyProof.Rows
section
variable {X:Cx} {EE:Ends→St→XK} {pos:Pos}
end
end L2
namespace L2
open PySem PySem.Spec PyProof.Rows
abbrev TV:=Ends→TS
def PSv (X:Cx) (EE:Ends→St→XK) (st:List Stmt) (t:TV):Prop :=
  ∀ (W:Value→Shared→Prop) (pins:List (Addr × Obj)) (s:Shared) (σ:St) (H:Hp) (DT D:Ends),(∀ σ' H1 s1 ev s2,Inv X pins σ' H1 s1→CXr X.prog X.w X.stack H1 s1 (EE DT σ') ev s2→W ev s2)→Inv X pins σ H s→t DT D σ H →
    wpAny (model X.prog X.w) X.A (execs st X.env) (SP X pins D) W s
section
variable {X:Cx} {EE:Ends→St→XK} {k:Nat} {x:Str} {ps:List Str} {sp:Sp} {e:Expr} {es:List Expr} {ta:TA} {p pos:Pos} {f C:Addr} {fd:FuncData} {st:Stmt} {rest:List Stmt} {t:TS} {u:TV}
end
section
variable {X:Cx}
inductive rInsert (x:V) (vs:List V) (H:Hp) (Q:VK):Prop where
  | mk:∀ l xs i y,(x=.ref l)→(vs=[.int i,y])→(H l=some (.lst xs))→(xs.length < sizeLine)→(0≤i)→(i < 2 ^ 62)→(Q .non (upd H l (.lst (xs.take i.toNat++y::xs.drop i.toNat))))→rInsert x vs H Q
end
end L2
namespace L2
open PySem PySem.Spec PyProof.Rows
section
variable {X:Cx} {pos:Pos}
end
end L2
namespace L2
open PySem PySem.Spec PyProof.Rows
inductive ConstsI:List Expr→List Int→Prop
  | nil:ConstsI [] []
  | cons {n:Int} {j:Nat} {pos:Pos} {es:List Expr} {zs:List Int}:ConstsI es zs→ConstsI (.Constant (.int n) j pos::es) (n::zs)
section
variable {X:Cx}
inductive rPopA (x:V) (vs:List V) (H:Hp) (Q:VK):Prop where
  | mk:∀ l xs i j v,(x=.ref l)→(vs=[.int i])→(H l=some (.lst xs))→(0≤i)→(i < 2 ^ 62)→(i=((j:Nat):Int))→(xs[j]?=some v)→(Q v (upd H l (.lst (xs.eraseIdx j))))→rPopA x vs H Q
end
theorem mul_ok {x:Str} {n:Int} (hx:x.length≤20) (h0:0≤n) (h1:n≤20):MulOk x n:=by
  refine ⟨by simp; omega,fun hn _=>?_,fun hn _=>?_⟩
  · have:n=1∨n=2∨n=3∨n=4∨n=5∨n=6∨n=7∨n=8∨n=9∨n=10∨n=11∨n=12∨n=13∨n=14∨n=15∨n=16∨n=17∨n=18∨n=19∨n=20:=by omega
    rcases this with rfl | rfl | rfl | rfl | rfl | rfl | rfl | rfl | rfl | rfl | rfl | rfl | rfl | rfl | rfl | rfl | rfl | rfl | rfl | rfl <;> omega
  · unfold Builtin.Str.tooLong
    have h:x.length*n.toNat≤20*20:=Nat.mul_le_mul hx (by omega)
    have sl:sizeLine=16777216:=sizeLine_eq
    simp
    omega
end L2
namespace L2
open PySem PySem.Spec PyProof.Rows PySem.Builtin PySem.Builtin.Str
theorem none_booked {K:PySem.W.Frag} {h:Heap} (X:K.In h) (L:h.NoLimit) (e:PySem.W.nsIn K cStatics sharingNotToldKey=some none):NoneBooked h:=by
  obtain ⟨mc,hn,_⟩:=L
  refine ⟨mc,hn,?_⟩
  obtain ⟨o,es,ep,ho,hd,_,hf⟩:=hn
  unfold PySem.W.nsIn at e
  split at e
  · rename_i c d es' n' sl q
    have:=X _ _ q
    rw [ho] at this
    cases this
    cases hd
    split at e
    · cases e
    · rename_i he
      rw [← hf]
      unfold nsFind findBy
      rw [← Array.find?_toList,he]
      rfl
  · cases e
theorem givesAt_rep1 (x y z:Str) (t u v k:Tok) (h0:(u == 0 || v == 0)=false) (hl:tooLong (x.length+(occurrences x y 0 x.length 1).length*z.length)=false) :
    GivesAt (fun s=>NoneBooked s.heap) («str.replace» ⟨[.str x t,.str y u,.str z v,.int 1 k],[]⟩) (.either (.val (.str x t)) (.str (glued z (partsBetween x (occurrences x y 0 x.length 1) y.length)))):=by
  show GivesAt _ (if ((occurrences x y 0 x.length 1).isEmpty || (y.length == 0 && z.length == 0))=true then (do rule "str.replace.nothing"; ret (.str x t)) else
          (do let same ← isSame (.str y u) (.str z v)
              if same=true then (do rule "str.replace.old-is-new"; ret (.str x t)) else
              if tooLong (x.length+(occurrences x y 0 x.length 1).length*z.length)=true then unsupported "str.replace:memory" else
              retStr (glued z (partsBetween x (occurrences x y 0 x.length 1) y.length)))) _
  intro prog w A R s hb hq
  cases hc:((occurrences x y 0 x.length 1).isEmpty || (y.length == 0 && z.length == 0))
  · show wpAny _ _ (isSame (.str y u) (.str z v) >>= _) _ _ _
    refine wpAny_bind (wpAny_isSame_str h0 hb fun b=>?_)
    cases b
    · show wpAny _ _ (if tooLong (x.length+(occurrences x y 0 x.length 1).length*z.length)=true then _ else retStr (glued z (partsBetween x (occurrences x y 0 x.length 1) y.length))) _ _ _
      rw [hl]
      exact wpAny_bind (wpAny_mkStr (wpAny_pure hq.2.2) hq.2.1)
    · exact wpAny_bind (wpAny_rule (wpAny_pure hq.1))
  · exact wpAny_bind (wpAny_rule (wpAny_pure hq.1))
theorem givesAt_rep (x y z:Str) (t u v:Tok) (h0:(u == 0 || v == 0)=false) (hl:tooLong (x.length+(occurrences x y 0 x.length (x.length+1)).length*z.length)=false) :
    GivesAt (fun s=>NoneBooked s.heap) («str.replace» ⟨[.str x t,.str y u,.str z v],[]⟩) (.either (.val (.str x t)) (.str (glued z (partsBetween x (occurrences x y 0 x.length (x.length+1)) y.length)))):=by
  show GivesAt _ (if ((occurrences x y 0 x.length (x.length+1)).isEmpty || (y.length == 0 && z.length == 0))=true then (do rule "str.replace.nothing"; ret (.str x t)) else
          (do let same ← isSame (.str y u) (.str z v)
              if same=true then (do rule "str.replace.old-is-new"; ret (.str x t)) else
              if tooLong (x.length+(occurrences x y 0 x.length (x.length+1)).length*z.length)=true then unsupported "str.replace:memory" else
              retStr (glued z (partsBetween x (occurrences x y 0 x.length (x.length+1)) y.length)))) _
  intro prog w A R s hb hq
  cases hc:((occurrences x y 0 x.length (x.length+1)).isEmpty || (y.length == 0 && z.length == 0))
  · show wpAny _ _ (isSame (.str y u) (.str z v) >>= _) _ _ _
    refine wpAny_bind (wpAny_isSame_str h0 hb fun b=>?_)
    cases b
    · show wpAny _ _ (if tooLong (x.length+(occurrences x y 0 x.length (x.length+1)).length*z.length)=true then _ else retStr (glued z (partsBetween x (occurrences x y 0 x.length (x.length+1)) y.length))) _ _ _
      rw [hl]
      exact wpAny_bind (wpAny_mkStr (wpAny_pure hq.2.2) hq.2.1)
    · exact wpAny_bind (wpAny_rule (wpAny_pure hq.1))
  · exact wpAny_bind (wpAny_rule (wpAny_pure hq.1))
theorem glued_le (x y z:Str) (n:Nat):(glued z (partsBetween x (occurrences x y 0 x.length n) y.length)).length≤x.length+n*z.length:=by
  have h1:=StrLaws.occ_length_le x y 0 x.length n
  have hy:(glued y (partsBetween x (occurrences x y 0 x.length n) y.length)).length=x.length:=by rw [StrLaws.glued_between_self]
  rw [size_glued,length_partsBetween,Nat.add_sub_cancel] at hy
  rw [size_glued,length_partsBetween,Nat.add_sub_cancel]
  have h2:(occurrences x y 0 x.length n).length*z.length≤n*z.length:=Nat.mul_le_mul_right _ h1
  omega
section
variable {X:Cx}
inductive rRpl (x:V) (vs:List V) (H:Hp) (Q:VK):Prop where
  | mk:∀ a y z:Str,(x=.str a)→(vs=[.str y,.str z])→(a.length≤10000)→(z.length≤100)→(∀ b:Str,b.length≤a.length+(a.length+1)*z.length→Q (.str b) H)→rRpl x vs H Q
theorem mt_replace (nb:PySem.W.nsIn X.K cStatics sharingNotToldKey=some none):MtR X "str.replace" rRpl:=by
  intro pins s σ H x vs v us Q I rx rv h
  obtain ⟨a,y,z,rfl,rfl,ha,hz,q⟩:=h
  obtain ⟨t,rfl⟩:=rx
  cases rv with
  | cons r1 rv1 =>
    cases rv1 with
    | cons r2 rv2 =>
      cases rv2
      obtain ⟨t1,rfl⟩:=r1
      obtain ⟨t2,rfl⟩:=r2
      have gl:=glued_le a y z (a.length+1)
      have m1:(a.length+1)*z.length≤10001*100:=Nat.mul_le_mul (by omega) hz
      have h1:=StrLaws.occ_length_le a y 0 a.length (a.length+1)
      have h2:(occurrences a y 0 a.length (a.length+1)).length*z.length≤(a.length+1)*z.length:=Nat.mul_le_mul_right _ h1
      have sl:sizeLine=16777216:=sizeLine_eq
      refine call_givesAt F.slot_str_replace (typeIs_str _ _ _) F.entry_str_replace (F.args_str_replace_3 _ _ _) (givesAt_rep a y z (t+1) (t1+1) (t2+1) rfl (decide_eq_false (by omega))) (none_booked I.kIn I.nolimit nb) ?_
      exact ⟨⟨.str a,H,I,⟨_,rfl⟩,q a (by omega)⟩,by omega,.str _,H,I.tok _,relS I.tk,q _ gl⟩
inductive rRpl1 (x:V) (vs:List V) (H:Hp) (Q:VK):Prop where
  | mk:∀ a y z:Str,(x=.str a)→(vs=[.str y,.str z,.int 1])→(a.length≤10000)→(z.length≤100)→(Q (.str a) H)→(∀ i j:Nat,i≤j→Q (.str (⟨a.cps.extract 0 i++z.cps++a.cps.extract j a.length⟩:Str)) H)→rRpl1 x vs H Q
theorem mt_replace1 (nb:PySem.W.nsIn X.K cStatics sharingNotToldKey=some none):MtR X "str.replace" rRpl1:=by
  intro pins s σ H x vs v us Q I rx rv h
  obtain ⟨a,y,z,rfl,rfl,ha,hz,q1,q2⟩:=h
  obtain ⟨t,rfl⟩:=rx
  cases rv with
  | cons r1 rv1 =>
    cases rv1 with
    | cons r2 rv2 =>
      cases rv2 with
      | cons r3 rv3 =>
        cases rv3
        obtain ⟨t1,rfl⟩:=r1
        obtain ⟨t2,rfl⟩:=r2
        obtain ⟨t3,rfl⟩:=r3
        have gl:=glued_le a y z 1
        have h1:=StrLaws.occ_length_le a y 0 a.length 1
        have h2:(occurrences a y 0 a.length 1).length*z.length≤1*z.length:=Nat.mul_le_mul_right _ h1
        have sl:sizeLine=16777216:=sizeLine_eq
        refine call_givesAt F.slot_str_replace (typeIs_str _ _ _) F.entry_str_replace (F.args_str_replace_4 _ _ _ _) (givesAt_rep1 a y z (t+1) (t1+1) (t2+1) t3 rfl (decide_eq_false (by omega))) (none_booked I.kIn I.nolimit nb) ?_
        refine ⟨⟨.str a,H,I,⟨_,rfl⟩,q1⟩,by omega,.str _,H,I.tok _,relS I.tk,?_⟩
        match hc:occurrences a y 0 a.length 1,h1 with
        | [],_ =>
          have e:glued z (partsBetween a [] y.length)=a:=by
            show (⟨(strSub a 0 a.length).cps⟩:Str)=a
            rw [show strSub a 0 a.length=a from StrLaws.sub_whole a]
          rw [e]; exact q1
        | [c],_=>exact q2 c (c+y.length) (Nat.le_add_right _ _)
end
end L2
namespace L2
open PySem PySem.Spec PyProof.Rows
def PSs0 (X:Cx) (st:List Stmt) (t:TS):Prop :=
  ∀ (pins:List (Addr × Obj)) (s:Shared) (σ:St) (H:Hp) (D:Ends),Inv X pins σ H { s with toks:=s.toks+1 }→t D σ H→wpAny (model X.prog X.w) X.A (execs st X.env) (SP X pins D) X.xe s
section
variable {X:Cx} {CX:CXT} {k:Nat} {f:Addr} {fd:FuncData} {ps:List Str} {sp:Sp} {E:XK} {g y x:Str} {u:TS} {rest:List Stmt}
theorem pss0_call {i j:Nat} {n:Int} {kk:Nat} {p0 p1 p2 pos pos' pos2:Pos} (F:FnOk X.prog X.w X.K X.mg X.base CX k f fd ps sp) (hr:Room k X.A) (hg:Gl X g) (hm:X.mg g=some (.ref f)) (hk:PySem.W.keepIn X.K (.ref f)=true) (hb:Binds X.K fd ps []) (hx:Passes CX X E)
    (hN:X.N.Nodup) (hi:X.N[i]?=some y) (hv:Vis X.env.scope y) (hj:X.N[j]?=some x) (hl:Loc X.env.scope x) (hrest:PSs X rest u)
    (hs:swapsWith (.Call (.Name g p0) [.Name y p1,.Constant (.int n) kk p2] [] pos) (some (.Name x pos')) pos2.line X.env=pure false:=by rfl) (hf:X.fn x=true∨X.env.scope.names.lookup x=some .local:=by first | exact .inl rfl | exact .inr rfl | assumption)
    (hd:(g == ("__debug__" : Str))=false:=by decide) (hd2:(y == ("__debug__" : Str))=false:=by decide) (hcd:(y == ("__classdict__" : Str))=false:=by decide)
    (he:starEach [.Name y p1,.Constant (.int n) kk p2] X.env=(false,eval (.Name y p1) X.env)::starEach [.Constant (.int n) kk p2] X.env:=by rfl) (he2:starEach [.Constant (.int n) kk p2] X.env=(false,eval (.Constant (.int n) kk p2) X.env)::starEach [] X.env:=by rfl)
    (hpl:(backTo pos (starEach [.Constant (.int n) kk p2] X.env)).any (·.1)=false:=by rfl) :
    PSs0 X (.Assign [.Name x pos'] (.Call (.Name g p0) [.Name y p1,.Constant (.int n) kk p2] [] pos) pos2::rest) (tSeq (tAsg (tCall sp [] E (tCons (tVar i) (tCons (tC (.int n)) tNil))) (gName j)) u):=by
  intro pins s σ H D I h
  have kIn:X.K.In s.heap:=I.kIn
  have glob:=I.mod.glob.keeps I.bk
  obtain ⟨v,ev,q⟩:=h
  obtain ⟨m,hn,hlk⟩:=I.loc
  obtain ⟨uy,ry,ly⟩:=hlk i y v hi ev hv
  have nm:∀ Q:Value→Shared→Prop,Q uy s→wpAny (model X.prog X.w) X.A (eval (.Name y p1) X.env) Q X.xe s:=fun Q fin=>by
    rcases ly with ⟨hk,hm⟩ | ⟨hk,c,hc,hcell⟩
    · exact wpAny_Name (wpAny_loadName_local I.ok.kind hk hn hm fin) hd2
    · rcases hk with hk | hk
      · exact wpAny_Name (wpAny_loadName_cell I.ok.kind hk hc hcell fin) hd2
      · exact wpAny_Name (wpAny_loadName_free I.ok.kind hk hc hcell fin hcd) hd2
  refine wpAny_execs_cons ?_
  have I1:∀ t:Nat,1≤t→Inv X pins σ H { s with toks:=t }:=fun t ht=>I.tok t ht
  refine wpAny_Assign_Name ?_ hs
  refine wpAny_Call_Name_kw (Calls.Name_function_global I.ok.kind hg (Calls.loadGlobal_global (by rw [I.ok.glob]; exact glob) hm ?_) hd)
  refine PySem.W.callWith_K (h₀:=X.base) I.ok.mod.kin hk ?_ he hpl
  rw [he]
  show wpAny _ _ (spliced ((false,eval (.Name y p1) X.env)::backTo pos (starEach [.Constant (.int n) kk p2] X.env))) _ _ s
  refine Calls.spliced_cons (nm _ ?_)
  rw [he2]
  show wpAny _ _ (spliced ((false,eval (.Constant (.int n) kk p2) X.env)::backTo pos (starEach [] X.env))) _ _ s
  refine Calls.spliced_cons (wpAny_Constant_int (Calls.spliced_nil ⟨kIn,?_⟩))
  have I2:=I1 (s.toks+1) (Nat.le_add_left 1 _)
  refine thn (run_fn F hr hb .nil hx I2 (.cons ry (.cons (show RelV (.int n) _ from ⟨_,rfl⟩) .nil)) q) fun w s1 ⟨z,H1,I3,rz,q3⟩=>?_
  refine store_ok I3 hN hj hl rz (fun s2 I4=>?_) hf
  exact hrest pins s2 _ H1 D I4 q3
end
theorem Fun.ok0 {P:Program} {w:World} {K:PySem.W.Frag} {mg:Str→Option Value} {base:Heap} {x qual:Str} {st:Stmt} {f:Addr} {fd:FuncData} {N ps:List Str} {k:Nat} {sp:Sp} (F:Fun K x qual st f fd) (S:FnScope N ps (defScope st)) (len:∀ vs H Q E,sp vs H Q E→vs.length=ps.length)
    (hbody:∀ (cdv:Value) (A:Around) (outer:List Env) (s:Shared) (H:Hp) (vs:List V) (Q:VK) (E:XK),Room k (A.deeper (envOfC qual (defScope st) s.heap.objs.size f cdv))→sp vs H Q E →
      ∃ t,PSs0 (cxOf CX0 P w K mg base N qual (defScope st) f cdv A outer s H E) (defBody st) t∧t { nx:=fun _ H'=>Q .non H',rt:=Q } (start N vs) H):LawOk P w K mg base CX0 (k+1) f fd ps sp:=by
  obtain ⟨oc,od,kV,doc,pm,an,cdv,ct,osl,rfl,lk,hcd⟩:=F.ex
  refine ⟨len,fun A outer s H args us vs Q E hr e0 hb r hsp=>?_⟩
  have hl:=len _ _ _ _ hsp
  have KX:K.In s.heap:=e0.mod.kin.keeps fun b o e=>(e0.bs b o e).1
  have lim:s.heap.NoLimit:=e0.mod.nolimit.keeps fun b o e=>(e0.bs b o e).1
  have hkind:∀ y ∈ ps.zip us,(defScope st).names.lookup y.1=some .local∨((defScope st).names.lookup y.1=some .cell∧((cellsFrom (s.heap.objs.size+1) (defScope st).names []).lookup y.1).isSome=true):=fun ⟨n,v⟩ hy=>by
    rcases S.par n (List.of_mem_zip hy).1 with q | q
    · exact .inl q
    · exact .inr ⟨q,PySem.W.cellsFrom_some _ _ _ (.inl q)⟩
  refine codeAny_call_function hr.depth (KX _ _ lk) rfl S.co S.gen rfl (PySem.W.codeRec_of KX hcd) (hb _ _ _ _ ?_)
  refine wpAny_newFunctionEnv_cells S.kind hkind fun env he s1 x=>?_
  subst he
  refine ⟨lim.keeps x.toInCall.keep,codeAny_func ?_⟩
  obtain ⟨t,ht,hq⟩:=hbody cdv A outer s H vs Q E (hr.deeper _) hsp
  have I:Inv (cxOf CX0 P w K mg base N qual (defScope st) f cdv A outer s H E) [] (start N vs) H { s1 with toks:=s1.toks+1 }:=inv_startG S hr.hd e0 hl r x (Nat.le_add_left 1 _)
  refine wpAny_mono (ht [] s1 (start N vs) H _ I hq) (fun fl s' hs=>?_) fun e s' hs=>hs
  have fin:∀ {σ':St} {H':Hp} {v:V} {u:Value},Inv (cxOf CX0 P w K mg base N qual (defScope st) f cdv A outer s H E) [] σ' H' s'→RelV v u→Q v H'→CE outer P w H s Q u s' :=
    fun {σ' H' v u} J rv q=>⟨v,H',J.tk,J.os,J.bare,J.base,J.hok,rv,q⟩
  cases fl with
  | ret u =>
    obtain ⟨v,σ',H',J,rv,q⟩:=hs
    exact fin J rv q
  | next =>
    obtain ⟨σ',H',J,q⟩:=hs
    exact fin (v:=V.non) (u:=Value.none) J rfl q
  | brk =>
    obtain ⟨_,_,_,q⟩:=hs
    exact False.elim q
  | cont =>
    obtain ⟨_,_,_,q⟩:=hs
    exact False.elim q
end L2
namespace Mine
open PySem L2
theorem len1 {us:List Value} (h:us.length=1):∃ a,us=[a]:=by
  cases us with
  | nil=>cases h
  | cons a r =>
    cases r with
    | nil=>exact ⟨a,rfl⟩
    | cons _ _=>cases h
theorem lenS {us:List Value} {n:Nat} (h:us.length=n+1):∃ a r,us=a::r∧r.length=n:=by
  cases us with
  | nil=>cases h
  | cons a r=>exact ⟨a,r,rfl,Nat.succ.inj h⟩
theorem len2 {us:List Value} (h:us.length=2):∃ a b,us=[a,b]:=by
  obtain ⟨a,r,rfl,h1⟩:=lenS h
  obtain ⟨b,rfl⟩:=len1 h1
  exact ⟨a,b,rfl⟩
theorem len3 {us:List Value} (h:us.length=3):∃ a b c,us=[a,b,c]:=by
  obtain ⟨a,r,rfl,h1⟩:=lenS h
  obtain ⟨b,c,rfl⟩:=len2 h1
  exact ⟨a,b,c,rfl⟩
theorem len4 {us:List Value} (h:us.length=4):∃ a b c d,us=[a,b,c,d]:=by
  obtain ⟨a,r,rfl,h1⟩:=lenS h
  obtain ⟨b,c,d,rfl⟩:=len3 h1
  exact ⟨a,b,c,d,rfl⟩
theorem len5 {us:List Value} (h:us.length=5):∃ a b c d e,us=[a,b,c,d,e]:=by
  obtain ⟨a,r,rfl,h1⟩:=lenS h
  obtain ⟨b,c,d,e,rfl⟩:=len4 h1
  exact ⟨a,b,c,d,e,rfl⟩
theorem len6 {us:List Value} (h:us.length=6):∃ a b c d e f,us=[a,b,c,d,e,f]:=by
  obtain ⟨a,r,rfl,h1⟩:=lenS h
  obtain ⟨b,c,d,e,f,rfl⟩:=len5 h1
  exact ⟨a,b,c,d,e,f,rfl⟩
theorem len7 {us:List Value} (h:us.length=7):∃ a b c d e f g,us=[a,b,c,d,e,f,g]:=by
  obtain ⟨a,r,rfl,h1⟩:=lenS h
  obtain ⟨b,c,d,e,f,g,rfl⟩:=len6 h1
  exact ⟨a,b,c,d,e,f,g,rfl⟩
def top (i:Nat):Stmt:=PySem.Challenge.pw_asktally_k32_the_first_row_that_is_none.main.body.getD i (.Pass ⟨0,0,0,0⟩)
abbrev s_is_name:Stmt:=top 21
abbrev s_is_figures:Stmt:=top 22
abbrev s_read_helper:Stmt:=top 30
abbrev s_helper_row:Stmt:=top 31
abbrev s_next_name:Stmt:=top 32
abbrev s_next_figures:Stmt:=top 33
abbrev s_next_term:Stmt:=top 34
abbrev s_term_in_bracket:Stmt:=top 35
abbrev s_helper_text:Stmt:=top 36
abbrev s_row_text:Stmt:=top 37
abbrev s_term_text:Stmt:=top 38
abbrev s_in_bracket:Stmt:=top 39
abbrev s_l_feed:Stmt:=top 41
abbrev s_l_take:Stmt:=top 42
abbrev s_l_name:Stmt:=top 43
abbrev s_l_some:Stmt:=top 44
abbrev s_l_whole:Stmt:=top 45
abbrev s_l_any_term:Stmt:=top 46
abbrev s_l_any_row:Stmt:=top 47
abbrev s_l_text:Stmt:=top 48
abbrev s_l_line:Stmt:=top 49
abbrev s_l_words_of:Stmt:=top 50
abbrev s_l_all_of:Stmt:=top 51
abbrev s_l_is_name:Stmt:=top 52
abbrev s_l_is_figures:Stmt:=top 53
abbrev s_l_sized:Stmt:=top 54
abbrev s_l_is_term:Stmt:=top 55
abbrev s_l_is_line:Stmt:=top 56
abbrev s_l_first_wrong:Stmt:=top 57
abbrev s_l_odd:Stmt:=top 58
abbrev s_l_sign:Stmt:=top 59
abbrev s_l_other_line:Stmt:=top 60
abbrev s_l_deep_line:Stmt:=top 61
abbrev s_l_spoilt:Stmt:=top 62
abbrev s_l_told_row:Stmt:=top 63
abbrev s_l_right:Stmt:=top 64
abbrev s_law:Stmt:=top 65
section
variable {P:Program} {w:World} {K:PySem.W.Frag} {mg:Str→Option Value} {base:Heap}
theorem feedB (z:Int):0≤z % 2147483646+1∧z % 2147483646+1≤2147483646:=by omega
theorem sc_l_feed:FnScope ["_law_script", "_law_k", "_law_cell", "_law_own"] ["_law_script", "_law_k"] (defScope s_l_feed):=⟨rfl,rfl,rfl,by decide +kernel,rfl,by decide +kernel,by decide +kernel⟩
theorem ok_l_feed {f:Addr} {fd:FuncData} (F:Fun K "_law_feed" "_law_feed" s_l_feed f fd) (hlen:mg "len" = none):FnOk P w K mg base CX0 1 f fd ["_law_script", "_law_k"] (spFeed K):=by
  refine F.ok sc_l_feed (fun vs H Q E h=>?_) (fun cdv A outer s H vs Q E hr h=>?_)
  · obtain ⟨a,ns,k,rfl,_⟩:=h
    rfl
  obtain ⟨a,ns,k,rfl,hS,h63,k0,k1,q⟩:=h
  refine ⟨_,(pss_cons (ps_set (i:=2) sc_l_feed.nd rfl (Or.inl rfl) (pe_op op_add (pe_op op_mul pe_int (pv 1)) pe_int))
      (pss_cons (ps_if (pt_cmpR op_lt (pv 1) (pe_callB call_len_seq rfl hlen PySem.boot_len (pa_cons (pv 0) pa_nil)) (nomark _)) (pss_one (ps_set (i:=2) sc_l_feed.nd rfl (Or.inl rfl) (pe_ix ix_list (pv 0) (pv 1) (fun _ _=>rfl)))) (pss_one (ps_if (pt_cmpR op_gt (pe_callB call_len_seq rfl hlen PySem.boot_len (pa_cons (pv 0) pa_nil)) pe_int (nomark _)) (pss_one (ps_set (i:=2) sc_l_feed.nd rfl (Or.inl rfl) (pe_op op_add (pe_op op_mul (pe_op op_mod (pe_ix ix_list (pv 0) (pe_op op_mod (pv 1) (pe_callB call_len_seq rfl hlen PySem.boot_len (pa_cons (pv 0) pa_nil))) (fun _ _=>rfl)) pe_int) pe_int) (pe_op op_mul pe_int (pv 1))))) pss_nil)))
      (pss_cons (ps_set (i:=3) sc_l_feed.nd rfl (Or.inl rfl) pe_int)
      (pss_cons (ps_if (pt_cmpR op_ge (pv 2) (pe_op op_pow pe_int pe_int) (nomark _)) (pss_one (ps_set (i:=3) sc_l_feed.nd rfl (Or.inl rfl) (pv 2))) pss_nil)
      (pss_one (ps_ret (pe_lst (pa_cons (pv 3) (pa_cons (pe_op op_add (pe_op op_mod (pe_op op_add (pe_op op_mul (pe_op op_mod (pv 2) pe_int) pe_int) (pe_op op_mul pe_int (pv 1))) pe_int) pe_int) pa_nil))))))))),?_⟩
  have hl:(ns.map V.int).length=ns.length:=List.length_map _
  have hp:(10:Int) ^ (18:Int).toNat=1000000000000000000:=by decide
  refine ⟨_,rfl,_,_,rfl,rfl,.inl ⟨by decide,by decide⟩,_,_,rfl,rfl,?_⟩
  refine ⟨_,rfl,_,rfl,a,_,rfl,.inl hS,_,_,rfl,rfl,_,rfl,?_⟩
  refine ite2 (fun c=>?b1) (fun c=>?b2)
  case' b1 =>
    have c':k < (((ns.map V.int).length:Nat):Int):=of_decide_eq_true c
    rw [hl] at c'
    obtain ⟨v,hv⟩:=at_int (ns:=ns) k0 c'
    refine ⟨_,rfl,_,rfl,a,_,_,_,rfl,rfl,hS,hv,?_⟩
  case' b2 =>
    refine ⟨_,rfl,a,_,rfl,.inl hS,_,_,rfl,rfl,_,rfl,?_⟩
    refine ite2 (fun c2=>?b3) (fun c2=>?b4)
    case' b3 =>
      have c':(0:Int) < (((ns.map V.int).length:Nat):Int):=of_decide_eq_true c2
      have m0:=Int.emod_nonneg k (b:=(((ns.map V.int).length:Nat):Int)) (by omega)
      have m1:=Int.emod_lt_of_pos k c'
      obtain ⟨v,hv⟩:=at_int (ns:=ns) m0 (by rw [hl] at m1 ⊢; exact m1)
      have n0:=Int.emod_nonneg v (b:=2147483629) (by decide)
      have n1:=Int.emod_lt_of_pos v (b:=2147483629) (by decide)
      refine ⟨_,rfl,_,rfl,_,rfl,a,_,rfl,.inl hS,_,_,rfl,rfl,c',a,_,_,_,rfl,rfl,hS,hv,_,_,rfl,rfl,(by show (0:Int) < _; decide),_,_,rfl,rfl,.inr ⟨by decide,by decide⟩,_,rfl,_,_,rfl,rfl,.inl ⟨by decide,by decide⟩,_,_,rfl,rfl,?_⟩
  all_goals
    refine ⟨_,rfl,_,_,rfl,rfl,⟨by decide,by decide,by decide⟩,_,_,rfl,rfl,_,rfl,?_⟩
    refine ite2 (fun c3=>?_) (fun c3=>?_)
    · have c4:=of_decide_eq_true c3
      rw [hp] at c4
      refine ⟨_,rfl,_,rfl,_,rfl,_,_,rfl,rfl,(by show (0:Int) < _; decide),_,_,rfl,rfl,.inr ⟨by decide,by decide⟩,_,rfl,_,_,rfl,rfl,.inl ⟨by decide,by decide⟩,_,_,rfl,rfl,_,_,rfl,rfl,(by show (0:Int) < _; decide),_,_,rfl,rfl,(by show 2≤sizeLine; decide),fun p hp=>?_⟩
      refine q p _ hp (Same.new hp _) ⟨_,_,upd_same,Int.le_trans (by decide) c4,(feedB _).1,(feedB _).2⟩
    · refine ⟨_,rfl,_,rfl,_,_,rfl,rfl,(by show (0:Int) < _; decide),_,_,rfl,rfl,.inr ⟨by decide,by decide⟩,_,rfl,_,_,rfl,rfl,.inl ⟨by decide,by decide⟩,_,_,rfl,rfl,_,_,rfl,rfl,(by show (0:Int) < _; decide),_,_,rfl,rfl,(by show 2≤sizeLine; decide),fun p hp=>?_⟩
      refine q p _ hp (Same.new hp _) ⟨_,_,upd_same,Int.le_refl 0,(feedB _).1,(feedB _).2⟩
theorem sc_l_take:FnScope ["_law_feed_here", "_law_many", "_law_digit", "_law_one"] ["_law_feed_here", "_law_many"] (defScope s_l_take):=⟨rfl,rfl,rfl,by decide +kernel,rfl,by decide +kernel,by decide +kernel⟩
theorem ok_l_take {f:Addr} {fd:FuncData} (F:Fun K "_law_take" "_law_take" s_l_take f fd):FnOk P w K mg base CX0 1 f fd ["_law_feed_here", "_law_many"] spTake:=by
  refine F.ok sc_l_take (fun vs H Q E h=>?_) (fun cdv A outer s H vs Q E hr h=>?_)
  · obtain ⟨f,m,rfl,_⟩:=h
    rfl
  obtain ⟨f,m,rfl,⟨own,st,hf,o0,s0,s1⟩,m0,m1,q⟩:=h
  refine ⟨_,(pss_cons (ps_if (pt_cmpR op_gt (pe_ix ix_list (pv 0) pe_int (fun _ _=>rfl)) pe_int (nomark _)) (pss_cons (ps_set (i:=2) sc_l_take.nd rfl (Or.inl rfl) (pe_op op_mod (pe_ix ix_list (pv 0) pe_int (fun _ _=>rfl)) (pv 1)))
        (pss_cons (ps_asg (pe_op op_fdivL (pe_ix ix_list (pv 0) pe_int (fun _ _=>rfl)) (pv 1)) (pg_sub (pv 0) pe_int set_list))
        (pss_one (ps_ret (pv 2))))) pss_nil)
      (pss_cons (ps_set (i:=3) sc_l_take.nd rfl (Or.inl rfl) (pe_op op_mod (pe_op op_mul (pe_ix ix_list (pv 0) pe_int (fun _ _=>rfl)) pe_int) pe_int))
      (pss_cons (ps_asg (pe_op op_add (pe_op op_mod (pe_op op_add (pe_op op_mul (pv 3) pe_int) pe_int) pe_int) pe_int) (pg_sub (pv 0) pe_int set_list))
      (pss_one (ps_ret (pe_op op_mod (pe_op op_fdiv (pe_op op_add (pe_op op_mul (pv 3) pe_int) (pe_ix ix_list (pv 0) pe_int (fun _ _=>rfl))) pe_int) (pv 1))))))),?_⟩
  refine ⟨_,rfl,f,_,0,_,rfl,rfl,SqL.of hf,rfl,_,_,rfl,rfl,_,rfl,?_⟩
  refine ite2 (fun c=>?_) (fun c=>?_)
  · refine ⟨_,rfl,f,_,0,_,rfl,rfl,SqL.of hf,rfl,_,rfl,_,_,rfl,rfl,m0,?_⟩
    refine ⟨_,rfl,f,_,0,_,rfl,rfl,SqL.of hf,rfl,_,rfl,_,_,rfl,rfl,⟨m0,m1⟩,_,rfl,f,_,0,0,rfl,rfl,hf,rfl,?_⟩
    refine ⟨_,rfl,?_⟩
    exact q _ _ (Int.emod_nonneg _ (by omega)) (Int.emod_lt_of_pos _ m0) ⟨_,_,upd_same,Int.ediv_nonneg o0 (by omega),s0,s1⟩ (SameBut.upd _)
  · have a0:=Int.emod_nonneg (st*69621) (b:=2147483647) (by decide)
    have a1:=Int.emod_lt_of_pos (st*69621) (b:=2147483647) (by decide)
    refine ⟨_,rfl,f,_,1,_,rfl,rfl,SqL.of hf,rfl,_,_,rfl,rfl,.inr ⟨by decide,by decide⟩,_,_,rfl,rfl,(by show (0:Int) < _; decide),?_⟩
    refine ⟨_,rfl,_,_,rfl,rfl,.inr ⟨by decide,by decide⟩,_,_,rfl,rfl,_,_,rfl,rfl,(by show (0:Int) < _; decide),_,_,rfl,rfl,_,rfl,f,_,1,1,rfl,rfl,hf,rfl,?_⟩
    have b0:=Int.emod_nonneg (st*69621 % 2147483647*48271+30103) (b:=2147483646) (by decide)
    have b1:=Int.emod_lt_of_pos (st*69621 % 2147483647*48271+30103) (b:=2147483646) (by decide)
    refine ⟨_,rfl,_,_,rfl,rfl,.inr ⟨by decide,by decide⟩,_,rfl,f,_,1,_,rfl,rfl,SqL.of upd_same,rfl,_,_,rfl,rfl,_,_,rfl,rfl,⟨by decide,by decide⟩,_,rfl,_,_,rfl,rfl,m0,?_⟩
    exact q _ _ (Int.emod_nonneg _ (by omega)) (Int.emod_lt_of_pos _ m0) ⟨_,_,upd_same,o0,by omega,by omega⟩ (SameBut.upd _)
def kept:List Str:=["yes", "no", "not", "and", "or", "odd", "same", "round", "due", "asked", "true", "coin"]
def NmK (x:Str):Prop:=(∀ c ∈ x.cps.toList,97≤c∧c≤122)∧1≤x.length∧x.length≤6∧x ∉ kept
theorem feed_upd {H:Hp} {f p:Addr} {o:HO} (F:FeedAt H f) (h:p ≠ f):FeedAt (upd H p o) f:=by
  obtain ⟨x,t,e,r⟩:=F
  exact ⟨x,t,by rw [upd_ne (Ne.symm h)]; exact e,r⟩
theorem at0 (x:V) (xs:List V):atI (x::xs) 0=some x:=atI_nat (j:=0) rfl
theorem at1 (x y:V) (xs:List V):atI (x::y::xs) 1=some y:=atI_nat (j:=1) rfl
theorem at2 (x y z:V) (xs:List V):atI (x::y::z::xs) 2=some z:=atI_nat (j:=2) rfl
inductive Tm where
  | num (n:Int) | box (x:Str) | plain (w:Str) | ask (w:Str) (a:Tm) | op (s:Str) (a b:Tm)
def Tm.size:Tm→Nat
  | .num _=>1 | .box _=>1 | .plain _=>1 | .ask _ a=>a.size+1 | .op _ a b=>a.size+b.size+1
def Tm.depth:Tm→Nat
  | .num _=>1 | .box _=>1 | .plain _=>1 | .ask _ a=>a.depth+1 | .op _ a b=>max a.depth b.depth+1
theorem Tm.depth_pos:∀ t:Tm,1≤t.depth
  | .num _=>Nat.le_refl _ | .box _=>Nat.le_refl _ | .plain _=>Nat.le_refl _ | .ask _ a=>Nat.le_add_left .. | .op _ a b=>Nat.le_add_left ..
theorem Tm.size_pos:∀ t:Tm,1≤t.size
  | .num _=>Nat.le_refl _ | .box _=>Nat.le_refl _ | .plain _=>Nat.le_refl _ | .ask _ a=>Nat.le_add_left .. | .op _ a b=>Nat.le_add_left ..
def plainW:List Str:=["round", "due", "asked"]
def askW:List Str:=["coin", "true"]
def signW:List Str:=["+", "-", "*", "/", "=", "<"]
def Tm.ok:Tm→Prop
  | .num n=>0≤n∧n < 1000000000000 | .box x=>NmK x | .plain w=>w ∈ plainW | .ask w a=>w ∈ askW∧a.ok | .op s a b=>s ∈ signW∧a.ok∧b.ok
inductive TmAt (H:Hp):V→Tm→Prop
  | num {a:Addr} {n:Int}:H a=some (.tup [.str "num", .int n])→TmAt H (.ref a) (.num n)
  | box {a:Addr} {x:Str}:H a=some (.tup [.str "box", .str x])→TmAt H (.ref a) (.box x)
  | plain {a:Addr} {w:Str}:H a=some (.tup [.str w])→TmAt H (.ref a) (.plain w)
  | ask {a:Addr} {w:Str} {v:V} {t:Tm}:H a=some (.tup [.str w,v])→TmAt H v t→TmAt H (.ref a) (.ask w t)
  | op {a:Addr} {s:Str} {v u:V} {t r:Tm}:H a=some (.tup [.str "op", .str s,v,u])→TmAt H v t→TmAt H u r→TmAt H (.ref a) (.op s t r)
theorem TmAt.mono {H H':Hp} (k:KeepT H H') {v:V} {t:Tm} (h:TmAt H v t):TmAt H' v t:=by
  induction h with
  | num e=>exact .num (k _ _ e)
  | box e=>exact .box (k _ _ e)
  | plain e=>exact .plain (k _ _ e)
  | ask e _ ih=>exact .ask (k _ _ e) ih
  | op e _ _ i1 i2=>exact .op (k _ _ e) i1 i2
structure Bl (mg:Str→Option Value):Prop where
  len:mg "len" = none
  range:mg "range" = none
  isinstance:mg "isinstance" = none
  int:mg "int" = none
  bool:mg "bool" = none
  list:mg "list" = none
  tuple:mg "tuple" = none
  str:mg "str" = none
  all:mg "all" = none
  zip:mg "zip" = none
  enumerate:mg "enumerate" = none
theorem atI_mem {ns:List Int} {k:Int} (h0:0≤k) (h:k < (ns.length:Int)):∃ v:Int,atI (ns.map V.int) k=some (.int v)∧v ∈ ns:=by
  have hk:k.toNat < ns.length:=by omega
  have q:atI (ns.map V.int) ((k.toNat:Nat):Int)=some (.int ns[k.toNat]):=atI_nat (by rw [List.getElem?_map,List.getElem?_eq_getElem hk] <;> rfl)
  have ek:((k.toNat:Nat):Int)=k:=by omega
  rw [ek] at q
  exact ⟨_,q,List.getElem_mem hk⟩
inductive spSome (vs:List V) (H:Hp) (Q:VK) (u_3:XK):Prop where
  | mk:∀ (f b:Addr) (bs:List Str),(vs=[.ref f,.ref b])→(FeedAt H f)→(H b=some (.lst (bs.map V.str)))→(b ≠ f)→(1≤bs.length)→(bs.length≤9000)→(∀ (x:Str) (H':Hp),x ∈ bs→FeedAt H' f→SameBut f H H'→Q (.str x) H')→spSome vs H Q u_3
theorem sc_l_some:FnScope ["_law_feed_here", "_law_pool"] ["_law_feed_here", "_law_pool"] (defScope s_l_some):=⟨rfl,rfl,rfl,by decide +kernel,rfl,by decide +kernel,by decide +kernel⟩
theorem ok_l_some {f:Addr} {fd:FuncData} (F:Fun K "_law_some" "_law_some" s_l_some f fd) (B:Bl mg) (C_l_take:Cal P w K mg base 1 "_law_take" ["_law_feed_here", "_law_many"] spTake):FnOk P w K mg base CX0 2 f fd ["_law_feed_here", "_law_pool"] spSome:=by
  refine F.ok sc_l_some (fun vs H Q E h=>?_) (fun cdv A outer s H vs Q E hr h=>?_)
  · obtain ⟨f,b,bs,rfl,_⟩:=h
    rfl
  obtain ⟨f,b,bs,rfl,F0,hb,nb,b1,b2,q⟩:=h
  refine ⟨_,(pss_one (ps_ret (pe_ix ix_list (pv 1) (pe_cal C_l_take hr (by decide) rfl (pa_cons (pv 0) (pa_cons (pe_callB call_len_seq rfl B.len PySem.boot_len (pa_cons (pv 1) pa_nil)) pa_nil))) (fun _ _=>rfl)))),?_⟩
  have bl:(bs.map V.str).length=bs.length:=List.length_map _
  refine ⟨_,rfl,_,rfl,_,rfl,b,_,rfl,.inl (SqL.of hb),f,_,rfl,F0,by omega,by omega,fun d H1 d0 d1 F1 B1=>?_⟩
  rw [bl] at d1
  obtain ⟨v,hv,vm⟩:=at_in (l:=bs.map V.str) (i:=d) d0 (by rw [bl]; exact d1)
  obtain ⟨x,hx,rfl⟩:=List.mem_map.mp vm
  exact ⟨b,_,_,_,rfl,rfl,SqL.of (B1 _ _ nb hb),hv,q x H1 hx F1 B1⟩
inductive spWhole (vs:List V) (H:Hp) (Q:VK) (u_3:XK):Prop where
  | mk:∀ (f:Addr),(vs=[.ref f])→(FeedAt H f)→(∀ (n:Int) (H':Hp),0≤n→n < 1000000000000→FeedAt H' f→SameBut f H H'→Q (.int n) H')→spWhole vs H Q u_3
theorem sc_l_whole:FnScope ["_law_feed_here", "_law_form", "_law_some_here"] ["_law_feed_here"] (defScope s_l_whole):=⟨rfl,rfl,rfl,by decide +kernel,rfl,by decide +kernel,by decide +kernel⟩
theorem ok_l_whole {f:Addr} {fd:FuncData} (F:Fun K "_law_whole" "_law_whole" s_l_whole f fd) (C_l_take:Cal P w K mg base 1 "_law_take" ["_law_feed_here", "_law_many"] spTake):FnOk P w K mg base CX0 2 f fd ["_law_feed_here"] spWhole:=by
  refine F.ok sc_l_whole (fun vs H Q E h=>?_) (fun cdv A outer s H vs Q E hr h=>?_)
  · obtain ⟨f,rfl,_⟩:=h
    rfl
  obtain ⟨f,rfl,F0,q⟩:=h
  refine ⟨_,(pss_cons (ps_set (i:=1) sc_l_whole.nd rfl (Or.inl rfl) (pe_cal C_l_take hr (by decide) rfl (pa_cons (pv 0) (pa_cons pe_int pa_nil))))
      (pss_cons (ps_set (i:=2) sc_l_whole.nd rfl (Or.inl rfl) (pe_lst (pa_cons (pe_cal C_l_take hr (by decide) rfl (pa_cons (pv 0) (pa_cons pe_int pa_nil))) (pa_cons (pe_op op_sub (pe_op op_sub (pe_op op_pow pe_int pe_int) pe_int) (pe_cal C_l_take hr (by decide) rfl (pa_cons (pv 0) (pa_cons pe_int pa_nil)))) (pa_cons (pe_cal C_l_take hr (by decide) rfl (pa_cons (pv 0) (pa_cons (pe_op op_pow pe_int pe_int) pa_nil))) pa_nil)))))
      (pss_one (ps_ret (pe_ix ix_list (pe_op op_cat (pv 2) (pe_lst (pa_cons (pe_cal C_l_take hr (by decide) rfl (pa_cons (pv 0) (pa_cons pe_int pa_nil))) pa_nil))) (pv 1) (fun _ _=>rfl)))))),?_⟩
  have hp12:(10:Int) ^ (12:Int).toNat=1000000000000:=by decide
  refine ⟨_,rfl,f,4,rfl,F0,by decide,by decide,fun fm H1 m0 m1 F1 B1=>?_⟩
  refine ⟨_,rfl,f,12,rfl,F1,by decide,by decide,fun d1 H2 a0 a1 F2 B2=>?_⟩
  refine ⟨_,_,rfl,rfl,⟨by decide,by decide,by decide⟩,_,_,rfl,rfl,_,rfl,f,5,rfl,F2,by decide,by decide,fun d2 H3 b0 b1 F3 B3=>?_⟩
  refine ⟨_,_,rfl,rfl,_,rfl,_,_,rfl,rfl,⟨by decide,by decide,by decide⟩,f,_,rfl,F3,(by show (0:Int) < 10 ^ (12:Int).toNat; rw [hp12]; decide),(by show (10:Int) ^ (12:Int).toNat < 2 ^ 63; rw [hp12]; decide),fun d3 H4 c0 c1 F4 B4=>?_⟩
  rw [hp12] at c1
  refine ⟨(by show 3≤sizeLine; decide),fun L hL=>?_⟩
  have GL:=Same.new hL (.lst ([d1,(10:Int) ^ (12:Int).toNat - 1 - d2,d3].map V.int))
  have eL:upd H4 L (.lst ([d1,(10:Int) ^ (12:Int).toNat - 1 - d2,d3].map V.int)) L=some (.lst ([d1,(10:Int) ^ (12:Int).toNat - 1 - d2,d3].map V.int)):=upd_same
  have Lf:=F4.ne hL
  refine ⟨_,rfl,_,rfl,f,999,rfl,F4.same GL,by decide,by decide,fun d4 H5 e0 e1 F5 B5=>?_⟩
  have eL5:=B5 _ _ Lf eL
  refine ⟨(by show 1≤sizeLine; decide),fun L1 hL1=>?_⟩
  have G1:=Same.new hL1 (.lst [.int d4])
  refine ⟨L,L1,_,_,rfl,rfl,G1 _ _ eL5,upd_same,(by show 4≤sizeLine; decide),fun L2 hL2=>?_⟩
  have G2:=Same.new hL2 (.lst ([d1,(10:Int) ^ (12:Int).toNat - 1 - d2,d3].map V.int++[.int d4]))
  have e2:upd (upd H5 L1 (.lst [.int d4])) L2 (.lst ([d1,(10:Int) ^ (12:Int).toNat - 1 - d2,d3].map V.int++[.int d4])) L2=some (.lst ([d1,(10:Int) ^ (12:Int).toNat - 1 - d2,d3,d4].map V.int)):=upd_same
  obtain ⟨v,hv,vm⟩:=atI_mem (ns:=[d1,(10:Int) ^ (12:Int).toNat - 1 - d2,d3,d4]) m0 m1
  have vr:0≤v∧v < 1000000000000:=by
    rw [hp12] at vm
    simp only [List.mem_cons,List.not_mem_nil,or_false] at vm
    omega
  refine ⟨_,rfl,L2,_,_,_,rfl,rfl,SqL.of e2,hv,?_⟩
  exact q v _ vr.1 vr.2 (F5.same (G1.trans G2)) (B1.trans (B2.trans (B3.trans (B4.trans ((SameBut.of GL).trans (B5.trans (SameBut.of (G1.trans G2))))))))
def Boxes (bs:List Str):Prop:=1≤bs.length∧bs.length≤100∧∀ x ∈ bs,NmK x
inductive spTerm (n:Nat) (vs:List V) (H:Hp) (Q:VK) (u_3:XK):Prop where
  | mk:∀ (f b:Addr) (bs:List Str) (room deep:Int),(vs=[.ref f,.ref b,.int room,.int deep])→(FeedAt H f)→(H b=some (.lst (bs.map V.str)))→(b ≠ f)→(Boxes bs)→(1≤room)→(room≤100)→(1≤deep)→(deep≤(n:Int))→(∀ (v:V) (t:Tm) (H':Hp),TmAt H' v t→t.ok→(t.size:Int)≤room→(t.depth:Int)≤deep→FeedAt H' f→SameBut f H H'→Q v H')→spTerm n vs H Q u_3
theorem sc_l_any_term:FnScope ["_law_feed_here", "_law_boxes", "_law_room", "_law_deep", "_law_form", "_law_plain", "_law_more", "_law_one"] ["_law_feed_here", "_law_boxes", "_law_room", "_law_deep"] (defScope s_l_any_term):=⟨rfl,rfl,rfl,by decide +kernel,rfl,by decide +kernel,by decide +kernel⟩
theorem sign_of:∀ c ∈ (("+-*/=<" : Str)).cps.toList,(⟨#[c]⟩:Str) ∈ signW:=by decide +kernel
theorem sign_len:(("+-*/=<" : Str)).cps.toList.length=6:=by decide +kernel
theorem at_three {a b c:V} {i:Int} (h0:0≤i) (h:i < 3):(i=0∧atI [a,b,c] i=some a)∨(i=1∧atI [a,b,c] i=some b)∨(i=2∧atI [a,b,c] i=some c):=by
  have:i=0∨i=1∨i=2:=by omega
  rcases this with rfl | rfl | rfl
  · exact .inl ⟨rfl,at0 ..⟩
  · exact .inr (.inl ⟨rfl,at1 ..⟩)
  · exact .inr (.inr ⟨rfl,at2 ..⟩)
theorem SameBut.new {H H':Hp} {f p:Addr} {o:HO} (s:SameBut f H H') (h:H' p=none):SameBut f H (upd H' p o):=s.trans (SameBut.of (Same.new h o))
theorem an_step {n:Nat} {f:Addr} {fd:FuncData} (F:Fun K "_law_any_term" "_law_any_term" s_l_any_term f fd) (C_l_take:Cal P w K mg base 1 "_law_take" ["_law_feed_here", "_law_many"] spTake) (C_l_some:Cal P w K mg base 2 "_law_some" ["_law_feed_here", "_law_pool"] spSome) (C_l_whole:Cal P w K mg base 2 "_law_whole" ["_law_feed_here"] spWhole) (C_l_any_term:Cal P w K mg base (n+3) "_law_any_term" ["_law_feed_here", "_law_boxes", "_law_room", "_law_deep"] (spTerm n)):FnOk P w K mg base CX0 (n+4) f fd ["_law_feed_here", "_law_boxes", "_law_room", "_law_deep"] (spTerm (n+1)):=by
  refine F.ok sc_l_any_term (fun vs H Q E h=>?_) (fun cdv A outer s H vs Q E hr h=>?_)
  · obtain ⟨f,b,bs,room,deep,rfl,_⟩:=h
    rfl
  obtain ⟨f,b,bs,room,deep,rfl,F0,hb,nb,bx,r1,r2,d1,d2,q⟩:=h
  refine ⟨_,(pss_cons (ps_set (i:=4) sc_l_any_term.nd rfl (Or.inl rfl) (pe_cal C_l_take hr (by omega) rfl (pa_cons (pv 0) (pa_cons pe_int pa_nil))))
      (pss_cons (ps_if (PW.pt (pw_or (pt_cmpR op_lt (pv 2) pe_int (nomark _)) (pw_or (pt_cmpR op_lt (pv 3) pe_int (nomark _)) (pw_or1 (pt_cmpR op_lt (pv 4) pe_int (nomark _)))))) (pss_cons (ps_set (i:=5) sc_l_any_term.nd rfl (Or.inl rfl) (pe_ix ix_list (pe_lst (pa_cons (pe_tup (pa_cons pe_str pa_nil)) (pa_cons (pe_tup (pa_cons pe_str pa_nil)) (pa_cons (pe_tup (pa_cons pe_str pa_nil)) pa_nil)))) (pe_cal C_l_take hr (by omega) rfl (pa_cons (pv 0) (pa_cons pe_int pa_nil))) (fun _ _=>rfl)))
        (pss_one (ps_ret (pe_ix ix_list (pe_lst (pa_cons (pe_tup (pa_cons pe_str (pa_cons (pe_cal C_l_whole hr (by omega) rfl (pa_cons (pv 0) pa_nil)) pa_nil))) (pa_cons (pe_tup (pa_cons pe_str (pa_cons (pe_cal C_l_some hr (by omega) rfl (pa_cons (pv 0) (pa_cons (pv 1) pa_nil))) pa_nil))) (pa_cons (pv 5) pa_nil)))) (pe_op op_mod (pv 4) pe_int) (fun _ _=>rfl))))) pss_nil)
      (pss_cons (ps_if (PW.pt (pw_or (pt_cmpR op_lt (pv 4) pe_int (nomark _)) (pw_or1 (pt_cmpR op_lt (pv 2) pe_int (nomark _))))) (pss_one (ps_ret (pe_tup (pa_cons (pe_ix ix_list (pe_lst (pa_cons pe_str (pa_cons pe_str pa_nil))) (pe_op op_mod (pv 4) pe_int) (fun _ _=>rfl)) (pa_cons (pe_cal C_l_any_term hr (Nat.le_refl _) rfl (pa_cons (pv 0) (pa_cons (pv 1) (pa_cons (pe_op op_sub (pv 2) pe_int) (pa_cons (pe_op op_sub (pv 3) pe_int) pa_nil))))) pa_nil))))) pss_nil)
      (pss_cons (ps_set (i:=6) sc_l_any_term.nd rfl (Or.inl rfl) (pe_op op_add pe_int (pe_cal C_l_take hr (by omega) rfl (pa_cons (pv 0) (pa_cons (pe_op op_sub (pv 2) pe_int) pa_nil)))))
      (pss_cons (ps_set (i:=7) sc_l_any_term.nd rfl (Or.inl rfl) (pe_cal C_l_any_term hr (Nat.le_refl _) rfl (pa_cons (pv 0) (pa_cons (pv 1) (pa_cons (pv 6) (pa_cons (pe_op op_sub (pv 3) pe_int) pa_nil))))))
      (pss_one (ps_ret (pe_tup (pa_cons pe_str (pa_cons (pe_ix ix_str pe_str (pe_cal C_l_take hr (by omega) rfl (pa_cons (pv 0) (pa_cons pe_int pa_nil))) (fun _ _=>rfl)) (pa_cons (pv 7) (pa_cons (pe_cal C_l_any_term hr (Nat.le_refl _) rfl (pa_cons (pv 0) (pa_cons (pv 1) (pa_cons (pe_op op_sub (pe_op op_sub (pv 2) pe_int) (pv 6)) (pa_cons (pe_op op_sub (pv 3) pe_int) pa_nil))))) pa_nil)))))))))))),?_⟩
  refine ⟨_,rfl,f,9,rfl,F0,by decide,by decide,fun fm H1 m0 m9 F1 B1=>?_⟩
  have hb1:=B1 _ _ nb hb
  by_cases cc:room < 2∨deep < 2∨fm < 3
  · -- a leaf
    refine ⟨_,rfl,_,_,rfl,rfl,_,rfl,?_⟩
    refine ite2 (fun _=>?b1) (fun c1=>?b2)
    case' b2 =>
      have c1':¬ room < 2:=by simpa using c1
      refine ⟨_,rfl,_,_,rfl,rfl,_,rfl,?_⟩
      refine ite2 (fun _=>?b3) (fun c2=>?b4)
      case' b4 =>
        have c2':¬ deep < 2:=by simpa using c2
        refine ⟨_,rfl,_,_,rfl,rfl,_,rfl,?_⟩
        refine iteD (by omega) ?_
    all_goals
      try refine iteT ?_
      refine ⟨(by show 1≤sizeLine; decide),fun p1 hp1=>?_⟩
      have g1:=Same.new hp1 (.tup [.str "round"])
      have e1:upd H1 p1 (.tup [.str "round"]) p1=some (.tup [.str "round"]):=upd_same
      refine ⟨(by show 1≤sizeLine; decide),fun p2 hp2=>?_⟩
      have g2:=Same.new hp2 (.tup [.str "due"])
      have e2:upd (upd H1 p1 (.tup [.str "round"])) p2 (.tup [.str "due"]) p2=some (.tup [.str "due"]):=upd_same
      refine ⟨(by show 1≤sizeLine; decide),fun p3 hp3=>?_⟩
      have g3:=Same.new hp3 (.tup [.str "asked"])
      have e3:upd (upd (upd H1 p1 (.tup [.str "round"])) p2 (.tup [.str "due"])) p3 (.tup [.str "asked"]) p3=some (.tup [.str "asked"]):=upd_same
      have S13:=g1.trans (g2.trans g3)
      have e1':=g3 _ _ (g2 _ _ e1)
      have e2':=g3 _ _ e2
      generalize upd (upd (upd H1 p1 (.tup [.str "round"])) p2 (.tup [.str "due"])) p3 (.tup [.str "asked"])=H2 at S13 e1' e2' e3
      refine ⟨(by show 3≤sizeLine; decide),fun L hL=>?_⟩
      have gL:=Same.new hL (.lst [.ref p1,.ref p2,.ref p3])
      have eL:upd H2 L (.lst [.ref p1,.ref p2,.ref p3]) L=some (.lst [.ref p1,.ref p2,.ref p3]):=upd_same
      have S14:=S13.trans gL
      have F3:=F1.same S14
      have Lf:L ≠ f:=(F1.same S13).ne hL
      refine ⟨_,rfl,f,3,rfl,F3,by decide,by decide,fun d3 H4 a0 a3 F4 B4=>?_⟩
      have eL4:=B4 _ _ Lf eL
      have pl:∃ (p:Addr) (w:Str),w ∈ plainW∧atI [V.ref p1,.ref p2,.ref p3] d3=some (.ref p)∧H4 p=some (.tup [.str w]):=by
        have kf:=keepT_feed F3 B4
        rcases at_three (a:=V.ref p1) (b:=.ref p2) (c:=.ref p3) a0 a3 with ⟨_,h⟩ | ⟨_,h⟩ | ⟨_,h⟩
        · exact ⟨p1, "round", by decide +kernel,h,kf _ _ (gL _ _ e1')⟩
        · exact ⟨p2, "due", by decide +kernel,h,kf _ _ (gL _ _ e2')⟩
        · exact ⟨p3, "asked", by decide +kernel,h,kf _ _ (gL _ _ e3)⟩
      obtain ⟨p,pw,pwm,hp,ep⟩:=pl
      refine ⟨L,_,_,_,rfl,rfl,SqL.of eL4,hp,?_⟩
      have B14:SameBut f H H4:=B1.trans ((SameBut.of S14).trans B4)
      refine ⟨_,rfl,f,rfl,F4,fun wn H5 w0 w1 F5 B5=>?_⟩
      have ep5:=keepT_feed F4 B5 _ _ ep
      refine ⟨(by show 2≤sizeLine; decide),fun t1 ht1=>?_⟩
      have gt1:=Same.new ht1 (.tup [.str "num", .int wn])
      have et1:upd H5 t1 (.tup [.str "num", .int wn]) t1=some (.tup [.str "num", .int wn]):=upd_same
      have hb5:=gt1 _ _ (B5 _ _ nb (B14 _ _ nb hb))
      refine ⟨_,rfl,_,rfl,f,b,bs,rfl,F5.same gt1,hb5,nb,bx.1,Nat.le_trans bx.2.1 (by decide),fun x H6 xm F6 B6=>?_⟩
      have k6:=keepT_feed (F5.same gt1) B6
      refine ⟨(by show 2≤sizeLine; decide),fun t2 ht2=>?_⟩
      have gt2:=Same.new ht2 (.tup [.str "box", .str x])
      have et2:upd H6 t2 (.tup [.str "box", .str x]) t2=some (.tup [.str "box", .str x]):=upd_same
      refine ⟨_,rfl,(by show 3≤sizeLine; decide),fun L2 hL2=>?_⟩
      have gL2:=Same.new hL2 (.lst [.ref t1,.ref t2,.ref p])
      have B16:SameBut f H (upd (upd H6 t2 (.tup [.str "box", .str x])) L2 (.lst [.ref t1,.ref t2,.ref p])):=B14.trans (B5.trans ((SameBut.of gt1).trans (B6.trans (SameBut.of (gt2.trans gL2)))))
      have F16:=F6.same (gt2.trans gL2)
      refine ⟨_,rfl,_,_,rfl,rfl,(by show (0:Int) < 3; decide),?_⟩
      have m3:=Int.emod_nonneg fm (show (3:Int) ≠ 0 by decide)
      have m4:=Int.emod_lt_of_pos fm (show (0:Int) < 3 by decide)
      have one:((1:Nat):Int)≤room∧((1:Nat):Int)≤deep:=⟨by omega,by omega⟩
      rcases at_three (a:=V.ref t1) (b:=.ref t2) (c:=.ref p) m3 m4 with ⟨_,h⟩ | ⟨_,h⟩ | ⟨_,h⟩
      · exact ⟨L2,_,_,_,rfl,rfl,SqL.of upd_same,h,q _ (.num wn) _ (.num (gL2 _ _ (gt2 _ _ (k6 _ _ et1)))) ⟨w0,w1⟩ one.1 one.2 F16 B16⟩
      · exact ⟨L2,_,_,_,rfl,rfl,SqL.of upd_same,h,q _ (.box x) _ (.box (gL2 _ _ et2)) (bx.2.2 x xm) one.1 one.2 F16 B16⟩
      · exact ⟨L2,_,_,_,rfl,rfl,SqL.of upd_same,h,q _ (.plain pw) _ (.plain (gL2 _ _ (gt2 _ _ (k6 _ _ (gt1 _ _ ep5))))) pwm one.1 one.2 F16 B16⟩
  · have c1:¬ room < 2:=fun z=>cc (.inl z)
    have c2:¬ deep < 2:=fun z=>cc (.inr (.inl z))
    have c3:¬ fm < 3:=fun z=>cc (.inr (.inr z))
    refine ⟨_,rfl,_,_,rfl,rfl,_,rfl,?_⟩
    refine iteDF c1 ?_
    refine ⟨_,rfl,_,_,rfl,rfl,_,rfl,?_⟩
    refine iteDF c2 ?_
    refine ⟨_,rfl,_,_,rfl,rfl,_,rfl,?_⟩
    refine iteDF c3 ?_
    by_cases cd:fm < 5∨room < 3
    · refine ⟨_,rfl,_,_,rfl,rfl,_,rfl,?_⟩
      refine ite2 (fun _=>?k1) (fun e1=>?k2)
      case' k2 =>
        have e1':¬ fm < 5:=by simpa using e1
        refine ⟨_,rfl,_,_,rfl,rfl,_,rfl,?_⟩
        refine iteD (by omega) ?_
      all_goals
        try refine iteT ?_
        refine ⟨(by show 2≤sizeLine; decide),fun L hL=>?_⟩
        have gL:=Same.new hL (.lst [.str "coin", .str "true"])
        have F2:=F1.same gL
        have m3:=Int.emod_nonneg fm (show (2:Int) ≠ 0 by decide)
        have m4:=Int.emod_lt_of_pos fm (show (0:Int) < 2 by decide)
        have aw:∃ aw:Str,aw ∈ askW∧atI [V.str "coin", .str "true"] (fm % 2)=some (.str aw):=by
          have:fm % 2=0∨fm % 2=1:=by omega
          rcases this with h | h
          · exact ⟨"coin", by decide +kernel,by rw [h]; exact at0 ..⟩
          · exact ⟨"true", by decide +kernel,by rw [h]; exact at1 ..⟩
        obtain ⟨aw,awm,haw⟩:=aw
        refine ⟨_,rfl,_,_,rfl,rfl,(by show (0:Int) < 2; decide),L,_,_,_,rfl,rfl,SqL.of upd_same,haw,?_⟩
        refine ⟨_,rfl,_,rfl,_,rfl,_,_,rfl,rfl,_,rfl,_,_,rfl,rfl,f,b,bs,room - 1,deep - 1,rfl,F2,gL _ _ hb1,nb,bx,by omega,by omega,by omega,by omega,fun v t H3 T3 ok3 sz3 dp3 F3 B3=>?_⟩
        refine ⟨(by show 2≤sizeLine; decide),fun p hp=>?_⟩
        have gp:=Same.new hp (.tup [.str aw,v])
        have es:((Tm.ask aw t).size:Int)=(t.size:Int)+1:=by show ((t.size+1:Nat):Int)=_; omega
        have ed:((Tm.ask aw t).depth:Int)=(t.depth:Int)+1:=by show ((t.depth+1:Nat):Int)=_; omega
        exact q _ (.ask aw t) _ (.ask upd_same (T3.mono (keepT_same gp))) ⟨awm,ok3⟩ (by omega) (by omega) (F3.same gp) (B1.trans ((SameBut.of gL).trans (B3.trans (SameBut.of gp))))
    · have f5:¬ fm < 5:=fun z=>cd (.inl z)
      have r3:¬ room < 3:=fun z=>cd (.inr z)
      refine ⟨_,rfl,_,_,rfl,rfl,_,rfl,?_⟩
      refine iteDF f5 ?_
      refine ⟨_,rfl,_,_,rfl,rfl,_,rfl,?_⟩
      refine iteDF r3 ?_
      refine ⟨_,rfl,_,rfl,_,_,rfl,rfl,f,room - 2,rfl,F1,by omega,by omega,fun d3 H2 a0 a1 F2 B2=>?_⟩
      refine ⟨_,_,rfl,rfl,?_⟩
      have hb2:=B2 _ _ nb hb1
      refine ⟨_,rfl,_,rfl,_,rfl,_,rfl,_,_,rfl,rfl,f,b,bs,1+d3,deep - 1,rfl,F2,hb2,nb,bx,by omega,by omega,by omega,by omega,fun v1 t1 H3 T1 ok1 sz1 dp1 F3 B3=>?_⟩
      have hb3:=B3 _ _ nb hb2
      refine ⟨_,rfl,f,6,rfl,F3,by decide,by decide,fun d4 H4 g0 g1 F4 B4=>?_⟩
      obtain ⟨c,hc,hm⟩:=at_in (l:=(("+-*/=<" : Str)).cps.toList) (i:=d4) g0 (by rw [sign_len]; exact g1)
      have hb4:=B4 _ _ nb hb3
      refine ⟨_,_,_,rfl,rfl,small (by decide +kernel),hc,_,rfl,?_⟩
      refine ⟨_,rfl,_,rfl,_,rfl,_,_,rfl,rfl,_,rfl,_,_,rfl,rfl,_,rfl,_,_,rfl,rfl,f,b,bs,room - 1 - (1+d3),deep - 1,rfl,F4,hb4,nb,bx,by omega,by omega,by omega,by omega,fun v2 t2 H5 T2 ok2 sz2 dp2 F5 B5=>?_⟩
      have k35:KeepT H3 H5:=fun a ys e=>keepT_feed F4 B5 _ _ (keepT_feed F3 B4 _ _ e)
      refine ⟨(by show 4≤sizeLine; decide),fun p hp=>?_⟩
      have gp:=Same.new hp (.tup [.str "op", .str ⟨#[c]⟩,v1,v2])
      have es:((Tm.op ⟨#[c]⟩ t1 t2).size:Int)=(t1.size:Int)+(t2.size:Int)+1:=by show ((t1.size+t2.size+1:Nat):Int)=_; omega
      have ed:((Tm.op ⟨#[c]⟩ t1 t2).depth:Int)≤deep:=by
        show ((max t1.depth t2.depth+1:Nat):Int)≤deep
        omega
      exact q _ (.op ⟨#[c]⟩ t1 t2) _ (.op upd_same ((T1.mono k35).mono (keepT_same gp)) (T2.mono (keepT_same gp))) ⟨sign_of c hm,ok1,ok2⟩ (by omega) ed (F5.same gp) (B1.trans (B2.trans (B3.trans (B4.trans (B5.trans (SameBut.of gp))))))
theorem an_zero {f:Addr} {fd:FuncData}:FnOk P w K mg base CX0 3 f fd ["_law_feed_here", "_law_boxes", "_law_room", "_law_deep"] (spTerm 0):=by
  have no:∀ vs H Q E,¬ spTerm 0 vs H Q E:=fun vs H Q E h=>by
    obtain ⟨_,_,_,_,_,_,_,_,_,_,_,_,h1,h2,_⟩:=h
    omega
  exact ⟨fun vs H Q E h=>absurd h (no vs H Q E),fun A outer s H args us vs Q E _ _ _ _ h=>absurd h (no vs H Q E)⟩
theorem ok_l_any_term {f:Addr} {fd:FuncData} (F:Fun K "_law_any_term" "_law_any_term" s_l_any_term f fd) (m:mg "_law_any_term" = some (.ref f)) (C_l_take:Cal P w K mg base 1 "_law_take" ["_law_feed_here", "_law_many"] spTake) (C_l_some:Cal P w K mg base 2 "_law_some" ["_law_feed_here", "_law_pool"] spSome) (C_l_whole:Cal P w K mg base 2 "_law_whole" ["_law_feed_here"] spWhole) :
    ∀ n:Nat,FnOk P w K mg base CX0 (n+3) f fd ["_law_feed_here", "_law_boxes", "_law_room", "_law_deep"] (spTerm n)
  | 0=>an_zero
  | n+1=>an_step F C_l_take C_l_some C_l_whole (Cal.of F (ok_l_any_term F m C_l_take C_l_some C_l_whole n) m (fun _ _ _ _ _ _ us hl=>by obtain ⟨u0,u1,u2,u3,rfl⟩:=len4 hl; rfl))
inductive Hr where
  | fin | go (n:Int) | iff (t:Tm) (n:Int) | set (x:Str) (t:Tm) | say (t:Tm)
def Tm.fit (m:Nat) (t:Tm):Prop:=t.ok∧t.size≤m∧t.depth≤8
def Hr.ok (m:Nat):Hr→Prop
  | .fin=>True | .go n=>0≤n∧n < 1000000000000 | .iff t n=>t.fit m∧0≤n∧n < 1000000000000 | .set x t=>NmK x∧t.fit m | .say t=>t.fit m
inductive HrAt (H:Hp):V→Hr→Prop
  | fin {a:Addr}:H a=some (.tup [.str "end"])→HrAt H (.ref a) .fin
  | go {a:Addr} {n:Int}:H a=some (.tup [.str "go", .int n])→HrAt H (.ref a) (.go n)
  | iff {a:Addr} {v:V} {t:Tm} {n:Int}:H a=some (.tup [.str "if", v,.int n])→TmAt H v t→HrAt H (.ref a) (.iff t n)
  | set {a:Addr} {x:Str} {v:V} {t:Tm}:H a=some (.tup [.str "set", .str x,v])→TmAt H v t→HrAt H (.ref a) (.set x t)
  | say {a:Addr} {v:V} {t:Tm}:H a=some (.tup [.str "say", v])→TmAt H v t→HrAt H (.ref a) (.say t)
theorem HrAt.mono {H H':Hp} (k:KeepT H H') {v:V} {r:Hr} (h:HrAt H v r):HrAt H' v r:=by
  cases h with
  | fin e=>exact .fin (k _ _ e)
  | go e=>exact .go (k _ _ e)
  | iff e t=>exact .iff (k _ _ e) (t.mono k)
  | set e t=>exact .set (k _ _ e) (t.mono k)
  | say e t=>exact .say (k _ _ e) (t.mono k)
inductive spRow (vs:List V) (H:Hp) (Q:VK) (u_3:XK):Prop where
  | mk:∀ (f b:Addr) (bs:List Str) (room:Nat),(vs=[.ref f,.ref b,.int (room:Int)])→(FeedAt H f)→(H b=some (.lst (bs.map V.str)))→(b ≠ f)→(Boxes bs)→(4≤room)→(room≤100)→(∀ (v:V) (r:Hr) (H':Hp),HrAt H' v r→r.ok room→FeedAt H' f→SameBut f H H'→Q v H')→spRow vs H Q u_3
theorem sc_l_any_row:FnScope ["_law_feed_here", "_law_boxes", "_law_room", "_law_form", "_law_term"] ["_law_feed_here", "_law_boxes", "_law_room"] (defScope s_l_any_row):=⟨rfl,rfl,rfl,by decide +kernel,rfl,by decide +kernel,by decide +kernel⟩
theorem ok_l_any_row {f:Addr} {fd:FuncData} (F:Fun K "_law_any_row" "_law_any_row" s_l_any_row f fd) (C_l_take:Cal P w K mg base 1 "_law_take" ["_law_feed_here", "_law_many"] spTake) (C_l_some:Cal P w K mg base 2 "_law_some" ["_law_feed_here", "_law_pool"] spSome) (C_l_whole:Cal P w K mg base 2 "_law_whole" ["_law_feed_here"] spWhole) (C_l_any_term:Cal P w K mg base 11 "_law_any_term" ["_law_feed_here", "_law_boxes", "_law_room", "_law_deep"] (spTerm 8)):FnOk P w K mg base CX0 12 f fd ["_law_feed_here", "_law_boxes", "_law_room"] spRow:=by
  refine F.ok sc_l_any_row (fun vs H Q E h=>?_) (fun cdv A outer s H vs Q E hr h=>?_)
  · obtain ⟨f,b,bs,room,rfl,_⟩:=h
    rfl
  obtain ⟨f,b,bs,room,rfl,F0,hb,nb,bx,r1,r2,q⟩:=h
  refine ⟨_,(pss_cons (ps_set (i:=3) sc_l_any_row.nd rfl (Or.inl rfl) (pe_cal C_l_take hr (by decide) rfl (pa_cons (pv 0) (pa_cons pe_int pa_nil))))
      (pss_cons (ps_if (pt_cmpR op_eq (pv 3) pe_int (nomark _)) (pss_one (ps_ret (pe_tup (pa_cons pe_str pa_nil)))) pss_nil)
      (pss_cons (ps_if (pt_cmpR op_eq (pv 3) pe_int (nomark _)) (pss_one (ps_ret (pe_tup (pa_cons pe_str (pa_cons (pe_cal C_l_whole hr (by decide) rfl (pa_cons (pv 0) pa_nil)) pa_nil))))) pss_nil)
      (pss_cons (ps_set (i:=4) sc_l_any_row.nd rfl (Or.inl rfl) (pe_cal C_l_any_term hr (by decide) rfl (pa_cons (pv 0) (pa_cons (pv 1) (pa_cons (pe_ix ix_list (pe_lst (pa_cons pe_int (pa_cons pe_int (pa_cons (pv 2) pa_nil)))) (pe_cal C_l_take hr (by decide) rfl (pa_cons (pv 0) (pa_cons pe_int pa_nil))) (fun _ _=>rfl)) (pa_cons pe_int pa_nil))))))
      (pss_cons (ps_if (pt_cmpR op_eq (pv 3) pe_int (nomark _)) (pss_one (ps_ret (pe_tup (pa_cons pe_str (pa_cons (pv 4) (pa_cons (pe_cal C_l_whole hr (by decide) rfl (pa_cons (pv 0) pa_nil)) pa_nil)))))) pss_nil)
      (pss_one (ps_ret (pe_ix ix_list (pe_lst (pa_cons (pe_tup (pa_cons pe_str (pa_cons (pe_cal C_l_some hr (by decide) rfl (pa_cons (pv 0) (pa_cons (pv 1) pa_nil))) (pa_cons (pv 4) pa_nil)))) (pa_cons (pe_tup (pa_cons pe_str (pa_cons (pv 4) pa_nil))) pa_nil))) (pe_op op_mod (pv 3) pe_int) (fun _ _=>rfl))))))))),?_⟩
  refine ⟨_,rfl,f,6,rfl,F0,by decide,by decide,fun fm H1 m0 m1 F1 B1=>?_⟩
  have hb1:=B1 _ _ nb hb
  refine ⟨_,rfl,rfl,_,rfl,?_⟩
  refine ite2 (fun _=>?_) (fun _=>?_)
  · refine ⟨(by show 1≤sizeLine; decide),fun p hp=>?_⟩
    exact q _ .fin _ (.fin upd_same) trivial (F1.same (Same.new hp _)) (SameBut.new B1 hp)
  refine ⟨_,rfl,rfl,_,rfl,?_⟩
  refine ite2 (fun _=>?_) (fun _=>?_)
  · refine ⟨_,rfl,f,rfl,F1,fun n H2 n0 n1 F2 B2=>⟨(by show 2≤sizeLine; decide),fun p hp=>?_⟩⟩
    exact q _ (.go n) _ (.go upd_same) ⟨n0,n1⟩ (F2.same (Same.new hp _)) (SameBut.new (B1.trans B2) hp)
  refine ⟨_,rfl,_,rfl,_,rfl,(by show 3≤sizeLine; decide),fun L hL=>?_⟩
  have gL:=Same.new hL (.lst ([1,4,(room:Int)].map V.int))
  have eL:upd H1 L (.lst ([1,4,(room:Int)].map V.int)) L=some (.lst ([1,4,(room:Int)].map V.int)):=upd_same
  have Lf:L ≠ f:=F1.ne hL
  refine ⟨_,rfl,f,3,rfl,F1.same gL,by decide,by decide,fun d H2 a0 a1 F2 B2=>?_⟩
  obtain ⟨rm,hrm,mm⟩:=atI_mem (ns:=[1,4,(room:Int)]) a0 a1
  have mr:1≤rm∧rm≤(room:Int):=by
    simp only [List.mem_cons,List.not_mem_nil,or_false] at mm
    omega
  have hb2:=B2 _ _ nb (gL _ _ hb1)
  refine ⟨L,_,_,_,rfl,rfl,SqL.of (B2 _ _ Lf eL),hrm,f,b,bs,rm,8,rfl,F2,hb2,nb,bx,mr.1,by omega,by decide,by decide,fun v t H3 T3 ok3 sz3 dp3 F3 B3=>?_⟩
  have B13:SameBut f H H3:=B1.trans ((SameBut.of gL).trans (B2.trans B3))
  have tf:t.fit room:=⟨ok3,by omega,by omega⟩
  refine ⟨_,rfl,rfl,_,rfl,?_⟩
  refine ite2 (fun _=>?_) (fun _=>?_)
  · refine ⟨_,rfl,_,rfl,f,rfl,F3,fun n H4 n0 n1 F4 B4=>⟨(by show 3≤sizeLine; decide),fun p hp=>?_⟩⟩
    have gp:=Same.new hp (.tup [.str "if", v,.int n])
    exact q _ (.iff t n) _ (.iff upd_same ((T3.mono (keepT_feed F3 B4)).mono (keepT_same gp))) ⟨tf,n0,n1⟩ (F4.same gp) (SameBut.new (B13.trans B4) hp)
  have hb3:=B3 _ _ nb hb2
  refine ⟨_,rfl,_,rfl,f,b,bs,rfl,F3,hb3,nb,bx.1,Nat.le_trans bx.2.1 (by decide),fun x H4 xm F4 B4=>?_⟩
  have T4:=T3.mono (keepT_feed F3 B4)
  refine ⟨_,rfl,(by show 3≤sizeLine; decide),fun p hp=>?_⟩
  have gp:=Same.new hp (.tup [.str "set", .str x,v])
  refine ⟨_,rfl,(by show 2≤sizeLine; decide),fun p2 hp2=>?_⟩
  have gp2:=Same.new hp2 (.tup [.str "say", v])
  refine ⟨(by show 2≤sizeLine; decide),fun L2 hL2=>?_⟩
  have gL2:=Same.new hL2 (.lst [.ref p,.ref p2])
  have e1:upd (upd (upd H4 p (.tup [.str "set", .str x,v])) p2 (.tup [.str "say", v])) L2 (.lst [.ref p,.ref p2]) p=some (.tup [.str "set", .str x,v]):=gL2 _ _ (gp2 _ _ upd_same)
  have e2:upd (upd (upd H4 p (.tup [.str "set", .str x,v])) p2 (.tup [.str "say", v])) L2 (.lst [.ref p,.ref p2]) p2=some (.tup [.str "say", v]):=gL2 _ _ upd_same
  have S4:=gp.trans (gp2.trans gL2)
  have T5:=T4.mono (keepT_same S4)
  refine ⟨_,rfl,_,_,rfl,rfl,(by show (0:Int) < 2; decide),?_⟩
  have m3:=Int.emod_nonneg fm (show (2:Int) ≠ 0 by decide)
  have m4:=Int.emod_lt_of_pos fm (show (0:Int) < 2 by decide)
  have:fm % 2=0∨fm % 2=1:=by omega
  rcases this with h | h
  · refine ⟨L2,_,_,.ref p,rfl,rfl,SqL.of upd_same,by rw [h]; exact at0 ..,?_⟩
    exact q _ (.set x t) _ (.set e1 T5) ⟨bx.2.2 x xm,tf⟩ (F4.same S4) (B13.trans (B4.trans (SameBut.of S4)))
  · refine ⟨L2,_,_,.ref p2,rfl,rfl,SqL.of upd_same,by rw [h]; exact at1 ..,?_⟩
    exact q _ (.say t) _ (.say e2 T5) tf (F4.same S4) (B13.trans (B4.trans (SameBut.of S4)))
def ifBody:Stmt→List Stmt
  | .If _ b _ _=>b
  | _=>[]
def ifTest:Stmt→Expr
  | .If c _ _ _=>c
  | _=>.Constant .none 0 ⟨0,0,0,0⟩
def valOf:Stmt→Expr
  | .Assign _ v _=>v
  | .Return (some v) _=>v
  | _=>.Constant .none 0 ⟨0,0,0,0⟩
def eltsOf:Expr→List Expr
  | .List es _=>es
  | .Subscript (.BinOp _ _ (.List es _) _) _ _=>es
  | _=>[]
def ixOf:Expr→Expr
  | .Subscript _ i _=>i
  | _=>.Constant .none 0 ⟨0,0,0,0⟩
abbrev stm (s:Stmt) (i:Nat):Stmt:=(defBody s).getD i (.Pass ⟨0,0,0,0⟩)
abbrev stmI (s:Stmt) (i j:Nat):Stmt:=(ifBody (stm s i)).getD j (.Pass ⟨0,0,0,0⟩)
def wordsA:List Str:=["set", "say", "if", "go", "end", "num", "box", "op", "is", "rounds", "duex", "askedx", "coins"]
def wordsB:List Str:=["trues", "sets", "sayx", "iff", "gox", "ends"]
@[irreducible] def namesK:List Expr:=eltsOf (valOf (stm s_l_name 1))
@[irreducible] def namesA:List Expr:=eltsOf (valOf (stmI s_l_name 2 0))
@[irreducible] def namesB:List Expr:=eltsOf (valOf (stmI s_l_name 2 1))
theorem namesK_w:Consts namesK kept:=by
  unfold namesK
  exact .cons (.cons (.cons (.cons (.cons (.cons (.cons (.cons (.cons (.cons (.cons (.cons .nil)))))))))))
theorem namesA_w:Consts namesA wordsA:=by
  unfold namesA
  exact .cons (.cons (.cons (.cons (.cons (.cons (.cons (.cons (.cons (.cons (.cons (.cons (.cons .nil))))))))))))
theorem namesB_w:Consts namesB wordsB:=by
  unfold namesB
  exact .cons (.cons (.cons (.cons (.cons (.cons .nil)))))
theorem name_body:∃ p1 p2 p3 p4 p5 p6 p7 p8 p9 q1 q2 q3,defBody s_l_name=[stm s_l_name 0,.Assign [.Name "_law_taken" p1] (.List namesK p2) p3,
    .If (ifTest (stm s_l_name 2)) [.Assign [.Name "_law_some_here" p4] (.List namesA p5) p6,.Return (some (.Subscript (.BinOp (.Name "_law_some_here" p7) .Add (.List namesB p8) p9) (ixOf (valOf (stmI s_l_name 2 1))) q1)) q2] [] q3,stm s_l_name 3,stm s_l_name 4,stm s_l_name 5] :=
  ⟨_,_,_,_,_,_,_,_,_,_,_,_,by with_unfolding_all rfl⟩
def LTR:Str := "abcdefghijklmnopqrstuvwxyz"
theorem ltr_ok:∀ c ∈ LTR.cps.toList,97≤c∧c≤122:=by decide +kernel
def NmD (x:Str):Prop:=(∀ c ∈ x.cps.toList,97≤c∧c≤122)∧1≤x.length∧x.length≤6∧x ∉ kept
theorem words_ok0:∀ x ∈ wordsA++wordsB,(∀ c ∈ x.cps.toList,97≤c∧c≤122)∧1≤x.length∧x.length≤6∧x ∉ kept:=by decide +kernel
theorem words_ok (x:Str) (h:x ∈ wordsA++wordsB):NmK x:=words_ok0 x h
theorem kept_s0:∀ x ∈ kept,(∀ c ∈ (x++("s" : Str)).cps.toList,97≤c∧c≤122)∧1≤(x++("s" : Str)).length∧(x++("s" : Str)).length≤6∧(x++("s" : Str)) ∉ kept:=by decide +kernel
theorem kept_s (x:Str) (h:x ∈ kept):NmK (x++("s" : Str)):=kept_s0 x h
theorem sum_ones {zs:List Str} (h:∀ z ∈ zs,z.length=1∧∀ c ∈ z.cps.toList,c ∈ LTR.cps.toList):(zs.map (·.length)).sum=zs.length:=by
  induction zs with
  | nil=>rfl
  | cons a r ih =>
    rw [List.map_cons,List.sum_cons,ih fun z hz=>h z (List.mem_cons_of_mem _ hz),(h a List.mem_cons_self).1,List.length_cons]
    omega
theorem in_strs (x:Str) (ns:List Str):inV (.str x) (ns.map V.str)=decide (x ∈ ns):=by
  unfold inV
  induction ns with
  | nil=>rfl
  | cons a r ih =>
    rw [List.map_cons,List.any_cons,ih]
    have e:eqV (.str a) (.str x)=decide (x=a):=by
      show (a == x)=_
      by_cases c:x=a
      · subst c; simp
      · rw [decide_eq_false c]; simpa using fun h=>c h.symm
    rw [e]
    by_cases c1:x=a <;> by_cases c2:x ∈ r <;> simp [c1,c2]
inductive spName (vs:List V) (H:Hp) (Q:VK) (u_3:XK):Prop where
  | mk:∀ f:Addr,(vs=[.ref f])→(FeedAt H f)→(∀ (x:Str) (H':Hp),NmK x→FeedAt H' f→SameBut f H H'→Q (.str x) H')→spName vs H Q u_3
theorem sc_l_name:FnScope ["_law_feed_here", "_law_letters", "_law_taken", "_law_some_here", "_law_name_here"] ["_law_feed_here"] (defScope s_l_name):=⟨rfl,rfl,rfl,by decide +kernel,rfl,by decide +kernel,by decide +kernel⟩
theorem ok_l_name {f:Addr} {fd:FuncData} (F:Fun K "_law_name" "_law_name" s_l_name f fd) (B:Bl mg) (C_l_take:Cal P w K mg base 1 "_law_take" ["_law_feed_here", "_law_many"] spTake):FnOk P w K mg base CX0 2 f fd ["_law_feed_here"] spName:=by
  refine F.ok sc_l_name (fun vs H Q E h=>?_) (fun cdv A outer s H vs Q E hr h=>?_)
  · obtain ⟨f,rfl,_⟩:=h
    rfl
  obtain ⟨f,rfl,hF,q⟩:=h
  obtain ⟨p1,p2,p3,p4,p5,p6,p7,p8,p9,q1,q2,q3,ebody⟩:=name_body
  rw [ebody]
  refine ⟨_,(pss_cons (ps_set (i:=1) sc_l_name.nd rfl (Or.inr rfl) pe_str)
      (pss_cons (ps_set (i:=2) sc_l_name.nd rfl (Or.inl rfl) (pe_lst (pa_consts namesK_w)))
      (pss_cons (ps_if (pt_cmpR op_eq (pe_cal C_l_take hr (by decide) rfl (pa_cons (pv 0) (pa_cons pe_int pa_nil))) pe_int (nomark _)) (pss_cons (ps_set (i:=3) sc_l_name.nd rfl (Or.inl rfl) (pe_lst (pa_consts namesA_w)))
        (pss_one (ps_ret (pe_ix ix_list (pe_op op_cat (pv 3) (pe_lst (pa_consts namesB_w))) (pe_cal C_l_take hr (by decide) rfl (pa_cons (pv 0) (pa_cons pe_int pa_nil))) (fun _ _=>rfl))))) pss_nil)
      (pss_cons (ps_set (i:=4) sc_l_name.nd rfl (Or.inl rfl) (pe_bm PySem.F.plainAttrs_str PySem.F.slot_str_join PySem.F.type_str_join mt_join pe_str (pa_cons (pe_comp (N:=["_law_letters", "_law_feed_here"]) (ix:=[1,0]) rfl
          (CompScope.two (by with_unfolding_all rfl) (by decide) rfl (by decide) rfl (by decide +kernel) (by first | exact Or.inl rfl | exact Or.inr rfl) (by with_unfolding_all rfl) (by with_unfolding_all rfl) (by with_unfolding_all rfl) (by with_unfolding_all rfl) rfl rfl (by with_unfolding_all rfl) rfl rfl) rfl
          (pi_range1 rfl B.range (pa_cons (pe_op op_add pe_int (pe_cal C_l_take hr (by decide) rfl (pa_cons (pv 0) (pa_cons pe_int pa_nil)))) pa_nil))
          (fun _ _ _=>pb_all (pe_ix ix_str (pv 1) (pe_cal C_l_take hr (by decide) rfl (pa_cons (pv 2) (pa_cons pe_int pa_nil))) (fun _ _=>rfl)))) pa_nil)))
      (pss_cons (ps_if (pt_cmpR op_in_seq (pv 4) (pv 2) (by with_unfolding_all rfl)) (pss_one (ps_ret (pe_op op_add_str (pv 4) pe_str))) pss_nil)
      (pss_one (ps_ret (pv 4)))))))),?_⟩
  refine ⟨(by show 12≤sizeLine; decide),fun k1 h1=>?_⟩
  have G1:=Same.new h1 (.lst (kept.map V.str))
  have e1:upd H k1 (.lst (kept.map V.str)) k1=some (.lst (kept.map V.str)):=upd_same
  have F1:=hF.same G1
  have k1f:k1 ≠ f:=hF.ne h1
  generalize upd H k1 (.lst (kept.map V.str))=H1 at G1 e1 F1
  refine ⟨_,rfl,f,6,rfl,F1,by decide,by decide,fun d1 H2 a0 a1 F2 B2=>?_⟩
  have B12:SameBut f H H2:=(SameBut.of G1).trans B2
  have e2:=B2 _ _ k1f e1
  refine ⟨rfl,_,rfl,?_⟩
  refine ite2 (fun _=>?_) (fun _=>?_)
  · refine ⟨(by show 13≤sizeLine; decide),fun l1 g1=>?_⟩
    refine ⟨_,rfl,(by show 6≤sizeLine; decide),fun l2 g2=>?_⟩
    refine ⟨l1,l2,wordsA.map V.str,wordsB.map V.str,rfl,rfl,Same.new g2 _ _ _ upd_same,upd_same,(by show 19≤sizeLine; decide),fun l3 g3=>?_⟩
    have G:=(Same.new g1 (.lst (wordsA.map V.str))).trans ((Same.new g2 (.lst (wordsB.map V.str))).trans (Same.new g3 (.lst (wordsA.map V.str++wordsB.map V.str))))
    have F3:=F2.same G
    have n3:=(F2.same ((Same.new g1 (.lst (wordsA.map V.str))).trans (Same.new g2 (.lst (wordsB.map V.str))))).ne g3
    refine ⟨_,rfl,f,19,rfl,F3,by decide,by decide,fun e H9 e0 e1 F9 S9=>?_⟩
    obtain ⟨v,hv,vm⟩:=at_in (l:=wordsA.map V.str++wordsB.map V.str) (i:=e) e0 (by
      have:(wordsA.map V.str++wordsB.map V.str).length=19:=by rfl
      omega)
    rw [← List.map_append] at vm
    obtain ⟨x,hx,rfl⟩:=List.mem_map.mp vm
    exact ⟨l3,_,e,_,rfl,rfl,SqL.of (S9 l3 _ n3 upd_same),hv,q x H9 (words_ok x hx) F9 (B12.trans ((SameBut.of G).trans S9))⟩
  refine ⟨rfl,_,rfl,f,6,rfl,F2,by decide,by decide,fun d2 H3 b0 b1 F3 B3=>?_⟩
  have B13:SameBut f H H3:=B12.trans B3
  have e3:=B3 _ _ k1f e2
  refine ⟨_,_,rfl,rfl,_,rfl,by omega,by omega,fun D hD=>?_⟩
  have Df:=F3.ne hD
  have L26:LTR.cps.toList.length=26:=by decide +kernel
  refine comp_range (n:=(1+d2).toNat) (fun i H'=>∃ zs:List Str,H' D=some (.lst (zs.map V.str))∧zs.length=i∧(∀ z ∈ zs,z.length=1∧∀ c ∈ z.cps.toList,c ∈ LTR.cps.toList)∧FeedAt H' f∧SameBut f H3 H') ⟨[],by rw [upd_same]; rfl,rfl,by simp,F3.same (Same.new hD _),SameBut.of (Same.new hD _)⟩ ?_ ?_
  · rintro i H4 hi ⟨zs,hl,zl,z1,F4,S4⟩
    refine ⟨_,rfl,_,rfl,f,26,rfl,F4,by decide,by decide,fun d H5 d0 d26 F5 S5=>?_⟩
    obtain ⟨c,hc,hm⟩:=at_in (l:=LTR.cps.toList) (i:=d) d0 (by rw [L26]; exact d26)
    have hD5:H5 D=some (.lst (zs.map V.str)):=S5 D _ Df hl
    refine ⟨_,d,c,rfl,rfl,small (by decide +kernel),hc,_,hD5,?_,Nx.of hi ⟨zs++[⟨#[c]⟩],?_,?_,?_,feed_upd F5 Df,?_⟩⟩
    · rw [List.length_map,zl]
      exact small1000 (by omega)
    · rw [upd_same,List.map_append]
      rfl
    · rw [List.length_append,List.length_singleton,zl]
    · intro z hz
      rcases List.mem_append.mp hz with h | h
      · exact z1 z h
      · rw [List.mem_singleton.mp h]
        refine ⟨rfl,fun c' hc'=>?_⟩
        have:c'=c:=by simpa using hc'
        subst this
        exact hm
    · intro b o hb e
      rw [upd_ne (ne_of_none e hD)]
      exact S5 b o hb (S4 b o hb e)
  rintro H4 ⟨zs,hl,zl,z1,F4,S4⟩
  have sl:=sum_ones z1
  refine ⟨_,D,zs,rfl,rfl,SqL.of hl,(by decide +kernel),by omega,?_⟩
  have jl:(Txt.join "" zs).length=(1+d2).toNat:=by
    have:=size_glued "" zs
    have e0:(("" : Str)).length=0:=by decide +kernel
    rw [e0,Nat.mul_zero] at this
    show (Builtin.Str.glued "" zs).length=_
    omega
  have jc:∀ c ∈ (Txt.join "" zs).cps.toList,97≤c∧c≤122:=fun c hc=>by
    obtain ⟨z,hz,h⟩:=mem_join0 hc
    exact ltr_ok c ((z1 z hz).2 c h)
  generalize Txt.join "" zs=nm at jl jc
  have B14:=B13.trans S4
  refine ⟨_,rfl,_,rfl,k1,_,rfl,.inl (SqL.of (S4 _ _ k1f e3)),rfl,(by decide),_,rfl,?_⟩
  show if inV (.str nm) (kept.map V.str)=true then _ else _
  rw [in_strs]
  by_cases ck:nm ∈ kept
  · refine iteD ck ?_
    have l1:(("s" : Str)).length=1:=by decide +kernel
    refine ⟨_,rfl,_,_,rfl,rfl,small (by rw [l1]; omega),?_⟩
    exact q _ H4 (kept_s nm ck) F4 B14
  · refine iteDF ck ?_
    exact ⟨_,rfl,q _ H4 ⟨jc,by omega,by omega,ck⟩ F4 B14⟩
theorem smallT {n:Nat} (h:n≤60000):n≤sizeLine:=Nat.le_trans h (by decide)
def LET:Str := "abcdefghijklmnopqrstuvwxyz"
def ENDS:Str := " ()"
def isIn (L:Str) (c:Nat):Bool:=!(Builtin.Str.occurrences L ⟨#[c]⟩ 0 L.length 1).isEmpty
def nameB (z:Str):Bool:=decide (1≤z.length) && decide (z.length≤6) && !inV (.str z) (kept.map V.str) && z.cps.toList.all (isIn LET)
def FIG:Str := "0123456789"
def figB (z:Str):Bool:=decide (1≤z.length) && decide (z.length≤12) && !(decide (1 < z.length) && Txt.startswith z "0") && z.cps.toList.all (isIn FIG)
theorem starts_zero {z:Str} {c:Nat} (h:z.cps.toList[0]?=some c):Txt.startswith z "0" = decide (V.str ⟨#[c]⟩=V.str "0"):=by
  have q:=StrLaws.subAt_one z 48 0
  have e0:("0" : Str)=⟨#[48]⟩:=by decide +kernel
  unfold Txt.startswith
  rw [e0]
  by_cases hc:c=48
  · subst hc
    have:=q.mpr h
    rw [show decide (V.str (⟨#[48]⟩:Str)=V.str ⟨#[48]⟩)=true from decide_eq_true rfl]
    simp only [Bool.and_eq_true,decide_eq_true_eq]
    exact this
  · have hne:¬ (V.str (⟨#[c]⟩:Str)=V.str ⟨#[48]⟩):=fun e=>hc (by
      have:=V.str.inj e
      injection this with this
      simpa using this)
    rw [show decide (V.str (⟨#[c]⟩:Str)=V.str ⟨#[48]⟩)=false from decide_eq_false hne]
    rw [Bool.eq_false_iff]
    intro e
    simp only [Bool.and_eq_true,decide_eq_true_eq] at e
    have:=q.mp e
    rw [h] at this
    exact hc (Option.some.inj this)
inductive spTxt (fB:Str→Bool) (vs:List V) (H:Hp) (Q:VK) (u_3:XK):Prop where
  | mk:∀ z:Str,(vs=[.str z])→(z.length≤60000)→(∀ H',Same H H'→Q (.bl (fB z)) H')→spTxt fB vs H Q u_3
structure Tx (K:PySem.W.Frag) (mg:Str→Option Value):Prop where
  letters:∃ t,mg "LETTERS" = some (.str LET (t+1))
  longest:∃ t,mg "LONGEST_NAME" = some (.int 6 t)
  keptW:∃ a,mg "KEPT_WORDS" = some (.ref a)∧∀ H,SqT K H a (kept.map V.str)
  ends:∃ t,mg "WORD_ENDS" = some (.str ENDS (t+1))
  within:∃ t,mg "MOST_WITHIN" = some (.int 8 t)
  parts:∃ t,mg "MOST_PARTS" = some (.int 20 t)
  figures:∃ t,mg "FIGURES" = some (.str FIG (t+1))
  most:∃ t,mg "MOST_FIGURES" = some (.int 12 t)
  rows:∃ t,mg "MOST_ROWS" = some (.int 60 t)
  signs:∃ a,mg "SIGNS" = some (.ref a)∧∀ H,SqT K H a (signW.map V.str)
  asking:∃ a,mg "ASKING_WORDS" = some (.ref a)∧∀ H,SqT K H a (askW.map V.str)
  plain:∃ a,mg "PLAIN_WORDS" = some (.ref a)∧∀ H,SqT K H a (plainW.map V.str)
theorem len_size (z:Str):z.cps.size=z.length:=rfl
theorem boot_str':bootBuiltins "str" = some (.type "str"):=by decide +kernel
theorem sc_is_name:FnScope ["text"] ["text"] (defScope s_is_name):=⟨rfl,rfl,rfl,by decide +kernel,rfl,by decide +kernel,by decide +kernel⟩
theorem ok_is_name {f:Addr} {fd:FuncData} (F:Fun K "is_name" "is_name" s_is_name f fd) (B:Bl mg) (T:Tx K mg):FnOk P w K mg base CX0 1 f fd ["text"] (spTxt nameB):=by
  refine F.ok sc_is_name (fun vs H Q E h=>?_) (fun cdv A outer s H vs Q E hr h=>?_)
  · obtain ⟨z,rfl,_⟩:=h
    rfl
  obtain ⟨z,rfl,hz,q⟩:=h
  obtain ⟨t1,g1⟩:=T.letters
  obtain ⟨t3,g3⟩:=T.longest
  obtain ⟨ka,g5,hk⟩:=T.keptW
  refine ⟨_,(pss_cons (ps_if (PW.pt (pw_or (pt_cmpR op_lt (pe_callB call_len_str rfl B.len PySem.boot_len (pa_cons (pv 0) pa_nil)) pe_int (nomark _)) (pw_or (pt_cmpR op_gt (pe_callB call_len_str rfl B.len PySem.boot_len (pa_cons (pv 0) pa_nil)) (pe_glob (v:=.int 6) rfl g3 ⟨_,rfl⟩) (nomark _)) (pw_or1 (pt_cmpR op_in_seq (pv 0) (pe_glob (v:=.ref ka) rfl g5 rfl) (by with_unfolding_all rfl)))))) (pss_one (ps_ret pe_bl)) pss_nil)
      (pss_one (ps_ret (pe_callB (call_all rfl) rfl B.all PyProof.Rows.boot_all (pa_cons (pe_comp (N:=[]) (ix:=[]) (cl:=[]) rfl (CompScope.closed (by with_unfolding_all rfl) (by decide) rfl (by decide) rfl (by with_unfolding_all rfl)) rfl (pi_str (pv 0))
        (fun _ _ _=>pb_all (pe_cmpR op_in_str (pv 0) (pe_glob (v:=.str LET) rfl g1 ⟨_,rfl⟩) (by with_unfolding_all rfl)))) pa_nil))))),?_⟩
  have fls:nameB z=false→Q (.bl false) H:=fun e=>by
    have:=q H (Same.refl H)
    rw [e] at this
    exact this
  refine ⟨_,rfl,z,rfl,smallT hz,_,_,rfl,rfl,_,rfl,?_⟩
  by_cases c1:(z.length:Int) < 1
  · refine iteD c1 (iteT ?_)
    exact fls (by unfold nameB; rw [decide_eq_false (show ¬ 1≤z.length by omega)]; rfl)
  refine iteDF c1 ?_
  refine ⟨_,rfl,z,rfl,smallT hz,_,_,rfl,rfl,_,rfl,?_⟩
  by_cases c2:(6:Int) < (z.length:Int)
  · refine iteD c2 (iteT ?_)
    exact fls (by unfold nameB; rw [decide_eq_false (show ¬ z.length≤6 by omega)]; simp)
  refine iteDF c2 ?_
  refine ⟨_,rfl,ka,_,rfl,.inr (hk _),rfl,(by decide),_,rfl,?_⟩
  cases c3:inV (.str z) (kept.map V.str) with
  | true =>
    refine iteT ?_
    exact fls (by unfold nameB; rw [c3]; simp)
  | false =>
    refine iteF ?_
    refine ⟨_,rfl,z,rfl,fun D hD=>?_⟩
    refine comp_str (z:=z) (fun i H'=>H' D=some (.lst (((z.cps.toList.take i).map (isIn LET)).map V.bl))∧Same H H') ⟨by rw [upd_same]; rfl,Same.new hD _⟩ ?_ ?_
    · rintro i c H' hc ⟨hl,s0⟩
      have hi:i < z.cps.size:=(Array.getElem?_eq_some_iff.mp hc).1
      rw [len_size] at hi
      refine ⟨_,rfl,_,_,rfl,rfl,_,hl,?_,Nx.of hi ⟨?_,?_⟩⟩
      · rw [List.length_map,List.length_map,List.length_take]
        exact small1000 (by omega)
      · rw [upd_same]
        have ec:z.cps.toList[i]?=some c:=by simpa using hc
        rw [List.take_add_one,ec,List.map_append,List.map_append]
        rfl
      · intro b o e
        rw [upd_ne (ne_of_none e hD)]
        exact s0 b o e
    · rintro H' ⟨hl,s0⟩
      rw [show z.cps.toList.take z.cps.size=z.cps.toList by rw [← Array.length_toList]; exact List.take_length] at hl
      refine ⟨D,_,rfl,SqL.of hl,?_⟩
      have e:nameB z=(z.cps.toList.map (isIn LET)).all id:=by
        unfold nameB
        rw [c3,decide_eq_true (show 1≤z.length by omega),decide_eq_true (show z.length≤6 by omega),List.all_map]
        rfl
      rw [← e]
      exact q H' s0
theorem sc_is_figures:FnScope ["text"] ["text"] (defScope s_is_figures):=⟨rfl,rfl,rfl,by decide +kernel,rfl,by decide +kernel,by decide +kernel⟩
theorem ok_is_figures {f:Addr} {fd:FuncData} (F:Fun K "is_figures" "is_figures" s_is_figures f fd) (B:Bl mg) (T:Tx K mg):FnOk P w K mg base CX0 1 f fd ["text"] (spTxt figB):=by
  refine F.ok sc_is_figures (fun vs H Q E h=>?_) (fun cdv A outer s H vs Q E hr h=>?_)
  · obtain ⟨z,rfl,_⟩:=h
    rfl
  obtain ⟨z,rfl,hz,q⟩:=h
  obtain ⟨t1,g1⟩:=T.figures
  obtain ⟨t3,g3⟩:=T.most
  refine ⟨_,(pss_cons (ps_if (PW.pt (pw_or (pt_cmpR op_lt (pe_callB call_len_str rfl B.len PySem.boot_len (pa_cons (pv 0) pa_nil)) pe_int (nomark _)) (pw_or1 (pt_cmpR op_gt (pe_callB call_len_str rfl B.len PySem.boot_len (pa_cons (pv 0) pa_nil)) (pe_glob (v:=.int 12) rfl g3 ⟨_,rfl⟩) (nomark _))))) (pss_one (ps_ret pe_bl)) pss_nil)
      (pss_cons (ps_if (PW.pt (pw_and (pt_cmpR op_gt (pe_callB call_len_str rfl B.len PySem.boot_len (pa_cons (pv 0) pa_nil)) pe_int (nomark _)) (pw_and1 (pt_val (pe_bm PySem.F.plainAttrs_str PySem.F.slot_str_startswith PySem.F.type_str_startswith mt_startswith (pv 0) (pa_cons pe_str pa_nil)))))) (pss_one (ps_ret pe_bl)) pss_nil)
      (pss_one (ps_ret (pe_callB (call_all rfl) rfl B.all PyProof.Rows.boot_all (pa_cons (pe_comp (N:=[]) (ix:=[]) (cl:=[]) rfl (CompScope.closed (by with_unfolding_all rfl) (by decide) rfl (by decide) rfl (by with_unfolding_all rfl)) rfl (pi_str (pv 0))
        (fun _ _ _=>pb_all (pe_cmpR op_in_str (pv 0) (pe_glob (v:=.str FIG) rfl g1 ⟨_,rfl⟩) (by with_unfolding_all rfl)))) pa_nil)))))),?_⟩
  have fls:figB z=false→Q (.bl false) H:=fun e=>by
    have:=q H (Same.refl H)
    rw [e] at this
    exact this
  refine ⟨_,rfl,z,rfl,smallT hz,_,_,rfl,rfl,_,rfl,?_⟩
  by_cases c1:(z.length:Int) < 1
  · refine iteD c1 (iteT ?_)
    exact fls (by unfold figB; rw [decide_eq_false (show ¬ 1≤z.length by omega)]; rfl)
  refine iteDF c1 ?_
  refine ⟨_,rfl,z,rfl,smallT hz,_,_,rfl,rfl,_,rfl,?_⟩
  by_cases c2:(12:Int) < (z.length:Int)
  · refine iteD c2 ?_
    exact fls (by unfold figB; rw [decide_eq_false (show ¬ z.length≤12 by omega)]; simp)
  refine iteDF c2 ?_
  refine ⟨_,rfl,z,rfl,smallT hz,_,_,rfl,rfl,_,rfl,?_⟩
  by_cases c4:(1:Int) < (z.length:Int)
  · refine iteD c4 ?_
    refine ⟨_,rfl,rfl,z,_,rfl,rfl,_,rfl,?_⟩
    cases c5:Txt.startswith z "0" with
    | true =>
      refine iteT ?_
      exact fls (by unfold figB; rw [c5,decide_eq_true (show 1 < z.length by omega)]; simp)
    | false =>
      refine iteF ?_
      have c3:(decide (1 < z.length) && Txt.startswith z "0")=false:=by rw [c5]; simp
      refine ⟨_,rfl,z,rfl,fun D hD=>?_⟩
      refine comp_str (z:=z) (fun i H'=>H' D=some (.lst (((z.cps.toList.take i).map (isIn FIG)).map V.bl))∧Same H H') ⟨by rw [upd_same]; rfl,Same.new hD _⟩ ?_ ?_
      · rintro i c H' hc ⟨hl,s0⟩
        have hi:i < z.cps.size:=(Array.getElem?_eq_some_iff.mp hc).1
        rw [len_size] at hi
        refine ⟨_,rfl,_,_,rfl,rfl,_,hl,?_,Nx.of hi ⟨?_,?_⟩⟩
        · rw [List.length_map,List.length_map,List.length_take]
          exact small1000 (by omega)
        · rw [upd_same]
          have ec:z.cps.toList[i]?=some c:=by simpa using hc
          rw [List.take_add_one,ec,List.map_append,List.map_append]
          rfl
        · intro b o e
          rw [upd_ne (ne_of_none e hD)]
          exact s0 b o e
      · rintro H' ⟨hl,s0⟩
        rw [show z.cps.toList.take z.cps.size=z.cps.toList by rw [← Array.length_toList]; exact List.take_length] at hl
        refine ⟨D,_,rfl,SqL.of hl,?_⟩
        have e:figB z=(z.cps.toList.map (isIn FIG)).all id:=by
          unfold figB
          rw [c3,decide_eq_true (show 1≤z.length by omega),decide_eq_true (show z.length≤12 by omega),List.all_map]
          rfl
        rw [← e]
        exact q H' s0
  · refine iteDF c4 ?_
    refine iteF ?_
    have c3:(decide (1 < z.length) && Txt.startswith z "0")=false:=by rw [decide_eq_false (show ¬ 1 < z.length by omega)]; rfl
    refine ⟨_,rfl,z,rfl,fun D hD=>?_⟩
    refine comp_str (z:=z) (fun i H'=>H' D=some (.lst (((z.cps.toList.take i).map (isIn FIG)).map V.bl))∧Same H H') ⟨by rw [upd_same]; rfl,Same.new hD _⟩ ?_ ?_
    · rintro i c H' hc ⟨hl,s0⟩
      have hi:i < z.cps.size:=(Array.getElem?_eq_some_iff.mp hc).1
      rw [len_size] at hi
      refine ⟨_,rfl,_,_,rfl,rfl,_,hl,?_,Nx.of hi ⟨?_,?_⟩⟩
      · rw [List.length_map,List.length_map,List.length_take]
        exact small1000 (by omega)
      · rw [upd_same]
        have ec:z.cps.toList[i]?=some c:=by simpa using hc
        rw [List.take_add_one,ec,List.map_append,List.map_append]
        rfl
      · intro b o e
        rw [upd_ne (ne_of_none e hD)]
        exact s0 b o e
    · rintro H' ⟨hl,s0⟩
      rw [show z.cps.toList.take z.cps.size=z.cps.toList by rw [← Array.length_toList]; exact List.take_length] at hl
      refine ⟨D,_,rfl,SqL.of hl,?_⟩
      have e:figB z=(z.cps.toList.map (isIn FIG)).all id:=by
        unfold figB
        rw [c3,decide_eq_true (show 1≤z.length by omega),decide_eq_true (show z.length≤12 by omega),List.all_map]
        rfl
      rw [← e]
      exact q H' s0
theorem let_in:∀ c:Fin 26,isIn LET (97+c.val)=true:=by decide +kernel
theorem let_out:∀ c:Fin 26,isIn ENDS (97+c.val)=false:=by decide +kernel
theorem isIn_let {c:Nat} (h:97≤c∧c≤122):isIn LET c=true:=by
  have:=let_in ⟨c - 97,by omega⟩
  rwa [show 97+(⟨c - 97,by omega⟩:Fin 26).val=c by show 97+(c - 97)=c; omega] at this
theorem isIn_ends {c:Nat} (h:97≤c∧c≤122):isIn ENDS c=false:=by
  have:=let_out ⟨c - 97,by omega⟩
  rwa [show 97+(⟨c - 97,by omega⟩:Fin 26).val=c by show 97+(c - 97)=c; omega] at this
theorem nameB_K {x:Str} (h:NmK x):nameB x=true:=by
  obtain ⟨hl,h1,h6,hk⟩:=h
  unfold nameB
  rw [in_strs,decide_eq_true h1,decide_eq_true h6,decide_eq_false hk]
  simp only [Bool.and_self,Bool.not_false,Bool.true_and]
  rw [List.all_eq_true]
  exact fun c hc=>isIn_let (hl c hc)
def stl (l:List Nat):Str:=⟨l.toArray⟩
theorem str_ext {a b:Str} (h:a.cps.toList=b.cps.toList):a=b:=by
  cases a with
  | mk x =>
    cases b with
    | mk y =>
      have:x=y:=Array.toList_inj.mp h
      rw [this]
theorem stl_of (x:Str):stl x.cps.toList=x:=rfl
theorem stl_len (l:List Nat):(stl l).length=l.length:=by
  show l.toArray.size=_
  simp
theorem cat_list (a b:Str):(a++b).cps.toList=a.cps.toList++b.cps.toList:=by simp [Str.cps_append]
theorem lit_po:(("(" : Str)).cps.toList=[40]:=by decide +kernel
theorem lit_pc:((")" : Str)).cps.toList=[41]:=by decide +kernel
theorem lit_sp:((" " : Str)).cps.toList=[32]:=by decide +kernel
theorem str_inj {a b:Str} (h:V.str a=V.str b):a=b:=V.str.inj h
theorem ne_str {a b:Str} (h:a ≠ b):¬ V.str a=V.str b:=fun z=>h (str_inj z)
def jn (c:Nat):List (List Nat)→List Nat
  | []=>[]
  | [a]=>a
  | a::b::r=>a++c::jn c (b::r)
theorem cut_at {c:Nat}:∀ {a b x y:List Nat},c ∉ a→c ∉ b→a++c::x=b++c::y→a=b∧x=y
  | [],[],_,_,_,_,h=>⟨rfl,(List.cons.inj h).2⟩
  | [],d::b,x,y,_,hb,h=>by
    have:=(List.cons.inj h).1
    exact absurd (by rw [this]; exact List.mem_cons_self) hb
  | d::a,[],x,y,ha,_,h=>by
    have:=(List.cons.inj h).1
    exact absurd (by rw [← this]; exact List.mem_cons_self) ha
  | d::a,e::b,x,y,ha,hb,h=>by
    have h':=List.cons.inj h
    have r:=cut_at (fun z=>ha (List.mem_cons_of_mem _ z)) (fun z=>hb (List.mem_cons_of_mem _ z)) h'.2
    exact ⟨by rw [h'.1,r.1],r.2⟩
theorem jn_inj {c:Nat}:∀ {l m:List (List Nat)},l ≠ []→m ≠ []→(∀ a ∈ l,c ∉ a)→(∀ a ∈ m,c ∉ a)→jn c l=jn c m→l=m
  | [],_,h,_,_,_,_=>absurd rfl h
  | _::_,[],_,h,_,_,_=>absurd rfl h
  | [a],[b],_,_,_,_,h=>congrArg (fun z=>[z]) h
  | [a],b::d::r,_,_,hl,_,h=>by
    have:c ∈ a:=by
      rw [show a=b++c::jn c (d::r) from h]
      simp
    exact absurd this (hl a List.mem_cons_self)
  | a::d::r,[b],_,_,_,hm,h=>by
    have:c ∈ b:=by
      rw [show b=a++c::jn c (d::r) from h.symm]
      simp
    exact absurd this (hm b List.mem_cons_self)
  | a::d::r,b::e::s,_,_,hl,hm,h=>by
    have q:=cut_at (hl a List.mem_cons_self) (hm b List.mem_cons_self) (show a++c::jn c (d::r)=b++c::jn c (e::s) from h)
    have:=jn_inj (by simp) (by simp) (fun z hz=>hl z (List.mem_cons_of_mem _ hz)) (fun z hz=>hm z (List.mem_cons_of_mem _ hz)) q.2
    rw [q.1,this]
def cd (x:Str):List Nat:=x.cps.toList
theorem cd_inj {x y:Str} (h:cd x=cd y):x=y:=by
  have:x.cps=y.cps:=Array.toList_inj.mp h
  cases x
  cases y
  exact congrArg Str.mk this
theorem cd_append (x y:Str):cd (x++y)=cd x++cd y:=by
  unfold cd
  rw [Str.cps_append]
  simp
theorem cd_join (c:Nat):∀ ps:List Str,cd (Str.join ⟨#[c]⟩ ps)=jn c (ps.map cd)
  | []=>rfl
  | [a]=>rfl
  | a::b::r=>by
    show cd (a++⟨#[c]⟩++Str.join ⟨#[c]⟩ (b::r))=cd a++c::jn c ((b::r).map cd)
    rw [cd_append,cd_append,cd_join c (b::r)]
    simp [cd]
theorem join_tx (sep:Str):∀ ps:List Str,Txt.join sep ps=Str.join sep ps
  | []=>rfl
  | a::r=>StrLaws.glued_cons sep r a
theorem split_some (x y:Str):Txt.split x y ≠ []:=by
  unfold Txt.split
  split
  · exact List.cons_ne_nil _ _
  · split
    · exact List.cons_ne_nil _ _
    · intro h
      have:=length_partsBetween x (Builtin.Str.occurrences x y 0 x.length (x.length+1)) y.length
      rw [h] at this
      simp at this
theorem map_cd_inj:∀ {l m:List Str},l.map cd=m.map cd→l=m
  | [],[],_=>rfl
  | [],_::_,h=>by simp at h
  | _::_,[],h=>by simp at h
  | a::l,b::m,h=>by
    have h':=List.cons.inj h
    rw [cd_inj h'.1,map_cd_inj h'.2]
theorem split_join {c:Nat} {ps:List Str} (h0:ps ≠ []) (hf:∀ p ∈ ps,c ∉ cd p):Txt.split (Str.join ⟨#[c]⟩ ps) ⟨#[c]⟩=ps:=by
  apply map_cd_inj
  refine jn_inj (c:=c) (fun h=>split_some _ _ (List.map_eq_nil_iff.mp h)) (fun h=>h0 (List.map_eq_nil_iff.mp h)) ?_ ?_ ?_
  · intro a ha
    obtain ⟨p,hp,rfl⟩:=List.mem_map.mp ha
    exact StrLaws.split_free _ c p hp
  · intro a ha
    obtain ⟨p,hp,rfl⟩:=List.mem_map.mp ha
    exact hf p hp
  · rw [← cd_join,← cd_join,StrLaws.join_split]
def numT (n:Int):Str:=toString n
theorem num_cd (m:Nat):cd (numT (m:Int))=(Nat.toDigits 10 m).map Char.toNat:=PySem.W.KIN.signs_num m
theorem num_dig {n:Int} (h0:0≤n):∀ c ∈ cd (numT n),48≤c∧c≤57:=by
  obtain ⟨m,rfl⟩:=Int.eq_ofNat_of_zero_le h0
  intro c hc
  rw [num_cd] at hc
  obtain ⟨ch,hch,e⟩:=List.mem_map.mp hc
  rw [← e]
  exact PyProof.Rows.digit_range (Nat.isDigit_of_mem_toDigits (by decide) (by decide) hch)
theorem num_ne {n:Int} (h0:0≤n):cd (numT n) ≠ []:=by
  obtain ⟨m,rfl⟩:=Int.eq_ofNat_of_zero_le h0
  rw [num_cd]
  intro e
  have h:=PySem.toDigits_len_ge 10 m
  rw [List.map_eq_nil_iff.mp e] at h
  exact absurd h (by decide)
theorem num_len {n:Int} (h0:0≤n) (h1:n < 1000000000000):(numT n).length≤12:=PyProof.Rows.toString_length_le h0 (by decide) (by show n < 10 ^ 12; omega)
theorem num_len1 {n:Int} (h0:0≤n):1≤(numT n).length:=by
  have h:=num_ne h0
  have e:(cd (numT n)).length=(numT n).length:=rfl
  cases c:cd (numT n) with
  | nil=>exact absurd c h
  | cons a r=>rw [← e,c]; simp
theorem num_int {n:Int} (h0:0≤n) (h1:n < 1000000000000):PySem.intText? (numT n)=some n:=by
  have e:=intText_digits (x:=numT n) (num_dig h0) (num_ne h0) (Nat.le_trans (num_len h0 h1) (by decide))
  obtain ⟨m,rfl⟩:=Int.eq_ofNat_of_zero_le h0
  have e2:=num_cd m
  unfold cd at e2
  rw [e2,PySem.W.KIN.val_back] at e
  exact e
theorem head_ne (m:Nat) (h:0 < m):∃ d r,Nat.toDigits 10 m=d::r∧d.toNat ≠ 48:=by
  induction m using Nat.strongRecOn with
  | _ m ih =>
    by_cases c:m < 10
    · refine ⟨Nat.digitChar m,[],Nat.toDigits_of_lt_base c,?_⟩
      have:∀ d:Nat,d < 10→0 < d→(Nat.digitChar d).toNat ≠ 48:=by decide
      exact this m c h
    · have hm:m % 10 < 10:=Nat.mod_lt m (by decide)
      have t:Nat.toDigits 10 (m / 10)++Nat.toDigits 10 (m % 10)=Nat.toDigits 10 (10*(m / 10)+m % 10):=Nat.toDigits_append_toDigits (by decide) (by omega) hm
      rw [Nat.div_add_mod] at t
      obtain ⟨d,r,e,hd⟩:=ih (m / 10) (by omega) (by omega)
      exact ⟨d,r++Nat.toDigits 10 (m % 10),by rw [← t,e]; rfl,hd⟩
theorem fig_in:∀ c:Nat,c < 58→48≤c→isIn FIG c=true:=by decide +kernel
theorem num_fig {n:Int} (h0:0≤n) (h1:n < 1000000000000):figB (numT n)=true:=by
  unfold figB
  rw [decide_eq_true (num_len1 h0),decide_eq_true (num_len h0 h1)]
  have a:(cd (numT n)).all (isIn FIG)=true:=List.all_eq_true.mpr fun c hc=>by
    have:=num_dig h0 c hc
    exact fig_in c (by omega) this.1
  have a':(numT n).cps.toList.all (isIn FIG)=true:=a
  rw [a']
  have b:(decide (1 < (numT n).length) && Txt.startswith (numT n) "0")=false:=by
    by_cases c:1 < (numT n).length
    · obtain ⟨m,rfl⟩:=Int.eq_ofNat_of_zero_le h0
      have hm:0 < m:=by
        apply Nat.pos_of_ne_zero
        intro z
        subst z
        revert c
        decide +kernel
      obtain ⟨d,r,e,hd⟩:=head_ne m hm
      have e0:(numT (m:Int)).cps.toList[0]?=some d.toNat:=by
        have:=num_cd m
        unfold cd at this
        rw [this,e]
        rfl
      have z:decide (V.str (⟨#[d.toNat]⟩:Str)=V.str "0")=false:=decide_eq_false fun z=>by
        have:=V.str.inj z
        have e1:("0" : Str)=⟨#[48]⟩:=by decide +kernel
        rw [e1] at this
        injection this with this
        have:=congrArg Array.toList this
        simp at this
        exact hd this
      rw [starts_zero e0,z,Bool.and_false]
    · rw [decide_eq_false c]
      rfl
  rw [b]
  rfl
def SP:Str:=⟨#[32]⟩
def NL:Str:=⟨#[10]⟩
theorem sp_eq:(" " : Str)=SP:=by decide +kernel
theorem nl_eq:("\n" : Str)=NL:=by decide +kernel
theorem mem_jn {c x:Nat}:∀ {l:List (List Nat)},x ∈ jn c l→x=c∨∃ a ∈ l,x ∈ a
  | [],h=>by cases h
  | [a],h=>.inr ⟨a,List.mem_cons_self,h⟩
  | a::b::r,h=>by
    rcases List.mem_append.mp (show x ∈ a++c::jn c (b::r) from h) with h | h
    · exact .inr ⟨a,List.mem_cons_self,h⟩
    · rcases List.mem_cons.mp h with h | h
      · exact .inl h
      · rcases mem_jn h with h | ⟨d,hd,h⟩
        · exact .inl h
        · exact .inr ⟨d,List.mem_cons_of_mem _ hd,h⟩
theorem sum_le {l:List Str} {b:Nat} (h:∀ p ∈ l,p.length≤b):(l.map (·.length)).sum≤l.length*b:=by
  induction l with
  | nil=>simp
  | cons a r ih =>
    have h1:=h a List.mem_cons_self
    have h2:=ih fun p hp=>h p (List.mem_cons_of_mem _ hp)
    simp only [List.map_cons,List.sum_cons,List.length_cons]
    rw [Nat.succ_mul]
    omega
theorem log_small {n:Int} (h0:0≤n) (h1:n < 1000000000000):n.natAbs.log2 < 1920:=by
  have h2:n.natAbs < 2 ^ 40:=by omega
  by_cases c:n.natAbs=0
  · rw [c]
    decide
  · have:=(Nat.log2_lt c).mpr h2
    omega
theorem cut_from {xs:List V} {k:Nat} (hk:k≤xs.length):cutV xs (some (k:Int)) none=xs.drop k:=by
  unfold cutV
  rw [HT.sIx_none,HT.sIx_nat,Nat.min_eq_left hk]
  exact List.take_of_length_le (by rw [List.length_drop]; exact Nat.le_refl _)
def Tm.txt:Tm→List Nat
  | .num n=>cd (numT n)
  | .box x=>cd x
  | .plain w=>cd w
  | .ask w a=>[40]++(cd w++([32]++(a.txt++[41])))
  | .op s a b=>[40]++(cd s++([32]++(a.txt++([32]++(b.txt++[41])))))
def Tm.str (t:Tm):Str:=stl t.txt
theorem plain_ok:∀ w ∈ plainW,w.length≤5∧1≤w.length∧(∀ c ∈ w.cps.toList,97≤c∧c≤122)∧w ≠ "num" ∧ w ≠ "box" ∧ w ≠ "op" := by decide +kernel
theorem ask_ok:∀ w ∈ askW,w.length≤4∧1≤w.length∧(∀ c ∈ w.cps.toList,97≤c∧c≤122)∧w ≠ "num" ∧ w ≠ "box" ∧ w ≠ "op" ∧ w ∉ plainW:=by decide +kernel
theorem sign_ok:∀ w ∈ signW,w.length=1∧(∀ c ∈ w.cps.toList,42≤c∧c≤61)∧w ∉ askW:=by decide +kernel
theorem cd_len (x:Str):(cd x).length=x.length:=by unfold cd; rw [Array.length_toList]; rfl
theorem Tm.txt_len:∀ t:Tm,t.ok→t.txt.length≤14*t.size
  | .num n,h=>by
    have:=num_len h.1 h.2
    show (cd (numT n)).length≤14
    rw [cd_len]
    omega
  | .box x,h=>by
    show (cd x).length≤14
    rw [cd_len]
    have:=h.2.2.1
    omega
  | .plain w,h=>by
    show (cd w).length≤14
    rw [cd_len]
    have:=(plain_ok w h).1
    omega
  | .ask w a,⟨h,h1⟩=>by
    have:=Tm.txt_len a h1
    have e4:=(ask_ok w h).1
    show ([40]++(cd w++([32]++(a.txt++[41])))).length≤14*(a.size+1)
    simp only [List.length_append,List.length_cons,List.length_nil,cd_len]
    omega
  | .op o a b,⟨h,h1,h2⟩=>by
    have e1:=Tm.txt_len a h1
    have e2:=Tm.txt_len b h2
    have e4:=(sign_ok o h).1
    show ([40]++(cd o++([32]++(a.txt++([32]++(b.txt++[41])))))).length≤14*(a.size+b.size+1)
    simp only [List.length_append,List.length_cons,List.length_nil,cd_len]
    omega
theorem Tm.str_len {t:Tm} (h:t.ok):t.str.length≤14*t.size:=by
  unfold Tm.str
  rw [stl_len]
  exact t.txt_len h
theorem str_num (n:Int):(Tm.num n).str=numT n:=stl_of _
theorem str_box (x:Str):(Tm.box x).str=x:=stl_of _
theorem str_plain (x:Str):(Tm.plain x).str=x:=stl_of _
def brT (wd:Str) (ts:List Tm):Str:=((Str.empty++("(" : Str))++Txt.join (" " : Str) (wd::ts.map Tm.str))++(")" : Str)
theorem br_ask (wd:Str) (a:Tm):brT wd [a]=(Tm.ask wd a).str:=by
  refine str_ext ?_
  unfold brT
  rw [show Txt.join (" " : Str) (wd::[a].map Tm.str)=(wd++(" " : Str))++a.str from rfl]
  simp only [cat_list,lit_po,lit_sp,lit_pc]
  show ((([]:List Nat)++[40])++((cd wd++[32])++a.txt))++[41]=[40]++(cd wd++([32]++(a.txt++[41])))
  simp
theorem br_op (wd:Str) (a b:Tm):brT wd [a,b]=(Tm.op wd a b).str:=by
  refine str_ext ?_
  unfold brT
  rw [show Txt.join (" " : Str) (wd::[a,b].map Tm.str)=(((wd++(" " : Str))++a.str)++(" " : Str))++b.str from rfl]
  simp only [cat_list,lit_po,lit_sp,lit_pc]
  show ((([]:List Nat)++[40])++((((cd wd++[32])++a.txt)++[32])++b.txt))++[41]=[40]++(cd wd++([32]++(a.txt++([32]++(b.txt++[41])))))
  simp
theorem law_ask (wd:Str) (a:Tm):((((("(" : Str)++wd)++(" " : Str))++a.str)++(")" : Str))=(Tm.ask wd a).str:=by
  refine str_ext ?_
  simp only [cat_list,lit_po,lit_sp,lit_pc]
  show ((([40]++cd wd)++[32])++a.txt)++[41]=[40]++(cd wd++([32]++(a.txt++[41])))
  simp
theorem law_op (wd:Str) (a b:Tm):((((((("(" : Str)++wd)++(" " : Str))++a.str)++(" " : Str))++b.str)++(")" : Str))=(Tm.op wd a b).str:=by
  refine str_ext ?_
  simp only [cat_list,lit_po,lit_sp,lit_pc]
  show ((((([40]++cd wd)++[32])++a.txt)++[32])++b.txt)++[41]=[40]++(cd wd++([32]++(a.txt++([32]++(b.txt++[41])))))
  simp
def TmsAt (H:Hp) (tv:List V) (ts:List Tm):Prop:=tv.length=ts.length∧∀ (i:Nat) (v:V) (t:Tm),tv[i]?=some v→ts[i]?=some t→TmAt H v t
theorem TmsAt.one {H:Hp} {v:V} {t:Tm} (h:TmAt H v t):TmsAt H [v] [t]:=⟨rfl,fun i a b ha hb=>by
  match i,ha,hb with
  | 0,ha,hb=>cases ha; cases hb; exact h
  | i+1,ha,_=>simp at ha⟩
theorem TmsAt.two {H:Hp} {v u:V} {t r:Tm} (h:TmAt H v t) (h2:TmAt H u r):TmsAt H [v,u] [t,r]:=⟨rfl,fun i a b ha hb=>by
  match i,ha,hb with
  | 0,ha,hb=>cases ha; cases hb; exact h
  | 1,ha,hb=>cases ha; cases hb; exact h2
  | i+2,ha,_=>simp at ha⟩
inductive spTTm (n:Nat) (vs:List V) (H:Hp) (Q:VK) (u_3:XK):Prop where
  | mk:∀ (v:V) (t:Tm),(vs=[v])→(TmAt H v t)→(t.ok)→(t.depth≤n)→(t.size≤40)→(∀ H',Same H H'→Q (.str t.str) H')→spTTm n vs H Q u_3
inductive spIB (n:Nat) (vs:List V) (H:Hp) (Q:VK) (u_3:XK):Prop where
  | mk:∀ (wd:Str) (a:Addr) (tv:List V) (ts:List Tm),(vs=[.str wd,.ref a])→(H a=some (.tup tv))→(TmsAt H tv ts)→(ts.length≤2)→(wd.length≤10)→((∀ t ∈ ts,t.ok∧t.depth≤n∧t.size≤40))→(∀ H',Same H H'→Q (.str (brT wd ts)) H')→spIB n vs H Q u_3
theorem sc_in_bracket:FnScope ["word", "terms", "inside"] ["word", "terms"] (defScope s_in_bracket):=⟨rfl,rfl,rfl,by decide +kernel,rfl,by decide +kernel,by decide +kernel⟩
theorem ok_in_bracket {n:Nat} {f:Addr} {fd:FuncData} (F:Fun K "in_bracket" "in_bracket" s_in_bracket f fd) (C_term_text:Cal P w K mg base (2*n+1) "term_text" ["term"] (spTTm n)):FnOk P w K mg base CX0 (2*n+2) f fd ["word", "terms"] (spIB n):=by
  refine F.ok sc_in_bracket (fun vs H Q E h=>?_) (fun cdv A outer s H vs Q E hr h=>?_)
  · obtain ⟨wd,a,tv,ts,rfl,_⟩:=h
    rfl
  obtain ⟨wd,a,tv,ts,rfl,ha,TA,tl,wl,tk,k⟩:=h
  refine ⟨_,(pss_cons (ps_set (i:=2) sc_in_bracket.nd rfl (Or.inl rfl) (pe_bm PySem.F.plainAttrs_str PySem.F.slot_str_join PySem.F.type_str_join mt_join pe_str (pa_cons (pe_op op_cat (pe_lst (pa_cons (pv 0) pa_nil)) (pe_comp (N:=[]) (ix:=[]) (cl:=[]) rfl (CompScope.closed (by with_unfolding_all rfl) (by decide) rfl (by decide) rfl (by with_unfolding_all rfl)) rfl (pi_tup (pv 1))
          (fun _ _ _=>pb_all (pe_cal C_term_text hr (by omega) rfl (pa_cons (pv 0) pa_nil))))) pa_nil)))
      (pss_one (ps_ret (pe_fstr (pj_cons pe_str (pj_cons (pe_fmt (pv 2)) (pj_cons pe_str pj_nil))))))),?_⟩
  have ttl:=TA.1
  refine ⟨rfl,_,rfl,(by show 1≤sizeLine; decide),fun L hL=>?_⟩
  have GL:=Same.new hL (.lst [.str wd])
  have eL:upd H L (.lst [.str wd]) L=some (.lst [.str wd]):=upd_same
  generalize upd H L (.lst [.str wd])=H1 at GL eL
  have ha1:=GL _ _ ha
  refine ⟨_,rfl,a,rfl,⟨_,SqT.of ha1⟩,fun D hD=>?_⟩
  have LD:L ≠ D:=ne_of_none eL hD
  refine comp_tup (K:=K) (xs:=tv) (fun i H'=>H' D=some (.lst (((ts.take i).map Tm.str).map V.str))∧Same H1 H') ⟨by rw [upd_same]; rfl,Same.new hD _⟩ (fun i H' _ h=>SqT.of (h.2 _ _ ha1)) ?_ ?_
  · rintro i z H2 hz ⟨hD2,S2⟩
    have hi:=(List.getElem?_eq_some_iff.mp hz).1
    have ht:ts[i]?=some (ts[i]'(by omega)):=List.getElem?_eq_getElem (by omega)
    obtain ⟨tok,td,tz⟩:=tk _ (List.mem_of_getElem? ht)
    refine ⟨_,rfl,z,_,rfl,(TA.2 i z _ hz ht).mono (keepT_same (GL.trans S2)),tok,td,tz,fun H3 S3=>?_⟩
    refine ⟨_,S3 _ _ hD2,?_,Nx.of hi ⟨?_,fun b' o' e'=>?_⟩⟩
    · rw [List.length_map,List.length_map,List.length_take]
      exact small1000 (by omega)
    · rw [upd_same,List.take_add_one,ht,List.map_append,List.map_append]
      rfl
    · rw [upd_ne (ne_of_none e' hD)]
      exact S3 _ _ (S2 _ _ e')
  rintro H2 ⟨hD2,S2⟩
  rw [show tv.length=ts.length from ttl,List.take_length] at hD2
  refine ⟨L,D,_,_,rfl,rfl,S2 _ _ eL,hD2,small (by rw [List.length_map,List.length_map,List.length_singleton]; omega),fun M hM=>?_⟩
  have GM:=Same.new hM (.lst ([.str wd]++(ts.map Tm.str).map V.str))
  have eM:upd H2 M (.lst ([.str wd]++(ts.map Tm.str).map V.str)) M=some (.lst ((wd::ts.map Tm.str).map V.str)):=upd_same
  have sl:=sum_le (l:=ts.map Tm.str) (b:=560) fun p hp=>by
    obtain ⟨t,ht,rfl⟩:=List.mem_map.mp hp
    have:=Tm.str_len (tk t ht).1
    have:=(tk t ht).2.2
    omega
  rw [List.length_map] at sl
  have sl2:ts.length*560≤1120:=by omega
  have lsp:((" " : Str)).length=1:=by decide +kernel
  refine ⟨_,M,_,rfl,rfl,SqL.of eM,by rw [lsp]; decide,?_,?_⟩
  · rw [List.map_cons,List.sum_cons,List.length_cons,List.length_map]
    omega
  have jlen:(Txt.join (" " : Str) (wd::ts.map Tm.str)).length≤2000:=by
    have:=size_glued (" " : Str) (wd::ts.map Tm.str)
    rw [lsp,List.map_cons,List.sum_cons,List.length_cons,List.length_map] at this
    show (Builtin.Str.glued (" " : Str) (wd::ts.map Tm.str)).length≤2000
    omega
  have z0:(Str.empty).length=0:=by decide +kernel
  have l1:(("(" : Str)).length=1:=by decide +kernel
  have l3:((")" : Str)).length=1:=by decide +kernel
  have big:∀ {m:Nat},m≤3000→m≤sizeLine:=fun h=>Nat.le_trans h (by decide)
  refine ⟨_,rfl,small (by rw [Str.length_append,z0,l1]; omega),_,rfl,_,rfl,big (by omega),_,rfl,big (by rw [Str.length_append,Str.length_append,z0,l1]; omega),_,rfl,big (by rw [Str.length_append,Str.length_append,Str.length_append,z0,l1,l3]; omega),big (by rw [Str.length_append,Str.length_append,Str.length_append,z0,l1,l3]; omega),?_⟩
  exact k _ (GL.trans (S2.trans GM))
theorem sc_term_text:FnScope ["term", "word"] ["term"] (defScope s_term_text):=⟨rfl,rfl,rfl,by decide +kernel,rfl,by decide +kernel,by decide +kernel⟩
theorem str_is (n:Int):toString n=numT n:=rfl
theorem ct1 (x:V) (xs:List V):cutV (x::xs) (some 1) none=xs:=cut_from (xs:=x::xs) (k:=1) (by simp)
theorem ct2 (x y:V) (xs:List V):cutV (x::y::xs) (some 2) none=xs:=cut_from (xs:=x::y::xs) (k:=2) (by simp)
theorem tm_step {n:Nat} {f:Addr} {fd:FuncData} (F:Fun K "term_text" "term_text" s_term_text f fd) (B:Bl mg) (X:Tx K mg) (C_in_bracket:Cal P w K mg base (2*n+2) "in_bracket" ["word", "terms"] (spIB n)):FnOk P w K mg base CX0 (2*(n+1)+1) f fd ["term"] (spTTm (n+1)):=by
  refine F.ok sc_term_text (fun vs H Q E h=>?_) (fun cdv A outer s H vs Q E hr h=>?_)
  · obtain ⟨v,t,rfl,_⟩:=h
    rfl
  obtain ⟨v,t,rfl,T,ok,dn,sz,k⟩:=h
  obtain ⟨pa',gp,hp⟩:=X.plain
  refine ⟨_,(pss_cons (ps_set (i:=1) sc_term_text.nd rfl (Or.inl rfl) (pe_ix ix_tup (pv 0) pe_int (fun _ _=>rfl)))
      (pss_cons (ps_if (pt_cmpR op_eq (pv 1) pe_str (nomark _)) (pss_one (ps_ret (pe_callTy call_str_int rfl B.str boot_str' (pa_cons (pe_ix ix_tup (pv 0) pe_int (fun _ _=>rfl)) pa_nil)))) pss_nil)
      (pss_cons (ps_if (pt_cmpR op_eq (pv 1) pe_str (nomark _)) (pss_one (ps_ret (pe_ix ix_tup (pv 0) pe_int (fun _ _=>rfl)))) pss_nil)
      (pss_cons (ps_if (pt_cmpR op_in_seq (pv 1) (pe_glob (v:=.ref pa') rfl gp rfl) (by with_unfolding_all rfl)) (pss_one (ps_ret (pv 1))) pss_nil)
      (pss_cons (ps_if (pt_cmpR op_eq (pv 1) pe_str (nomark _)) (pss_one (ps_ret (pe_cal C_in_bracket hr (by omega) rfl (pa_cons (pe_ix ix_tup (pv 0) pe_int (fun _ _=>rfl)) (pa_cons (pe_slice sl_tupA (pv 0) (po_some pe_int) po_none) pa_nil))))) pss_nil)
      (pss_one (ps_ret (pe_cal C_in_bracket hr (by omega) rfl (pa_cons (pv 1) (pa_cons (pe_slice sl_tupA (pv 0) (po_some pe_int) po_none) pa_nil)))))))))),?_⟩
  cases T with
  | @num a m e =>
    refine ⟨_,rfl,a,_,0,_,rfl,rfl,SqT.of e,at0 ..,?_⟩
    refine ⟨_,rfl,rfl,_,rfl,?_⟩
    refine iteD rfl ?_
    refine ⟨_,rfl,a,_,1,_,rfl,rfl,SqT.of e,at1 ..,m,rfl,log_small ok.1 ok.2,?_⟩
    have k':=k H (Same.refl H)
    rw [str_num] at k'
    exact k'
  | @box a x e =>
    refine ⟨_,rfl,a,_,0,_,rfl,rfl,SqT.of e,at0 ..,?_⟩
    refine ⟨_,rfl,rfl,_,rfl,?_⟩
    refine iteDF (ne_str (by decide +kernel)) ?_
    refine ⟨_,rfl,rfl,_,rfl,?_⟩
    refine iteD rfl ?_
    have k':=k H (Same.refl H)
    rw [str_box] at k'
    exact ⟨_,rfl,a,_,1,_,rfl,rfl,SqT.of e,at1 ..,k'⟩
  | @plain a x e =>
    obtain ⟨_,_,_,n1,n2,n3⟩:=plain_ok x ok
    refine ⟨_,rfl,a,_,0,.str x,rfl,rfl,SqT.of e,at0 ..,?_⟩
    refine ⟨_,rfl,rfl,_,rfl,?_⟩
    refine iteDF (ne_str n1) ?_
    refine ⟨_,rfl,rfl,_,rfl,?_⟩
    refine iteDF (ne_str n2) ?_
    refine ⟨_,rfl,pa',_,rfl,.inr (hp _),rfl,(by decide),_,rfl,?_⟩
    have ein:inV (.str x) (plainW.map V.str)=true:=by rw [in_strs,decide_eq_true (show x ∈ plainW from ok)]
    rw [ein]
    refine iteT ?_
    have k':=k H (Same.refl H)
    rw [str_plain] at k'
    exact ⟨_,rfl,k'⟩
  | @ask a x u r e g =>
    obtain ⟨okw,ok1⟩:=ok
    obtain ⟨l4,_,_,n1,n2,n3,n4⟩:=ask_ok x okw
    have dr:r.depth≤n:=Nat.le_of_succ_le_succ dn
    have sr:r.size+1≤40:=sz
    refine ⟨_,rfl,a,_,0,.str x,rfl,rfl,SqT.of e,at0 ..,?_⟩
    refine ⟨_,rfl,rfl,_,rfl,?_⟩
    refine iteDF (ne_str n1) ?_
    refine ⟨_,rfl,rfl,_,rfl,?_⟩
    refine iteDF (ne_str n2) ?_
    refine ⟨_,rfl,pa',_,rfl,.inr (hp _),rfl,(by decide),_,rfl,?_⟩
    have ein:inV (.str x) (plainW.map V.str)=false:=by rw [in_strs,decide_eq_false n4]
    rw [ein]
    refine iteF ?_
    refine ⟨_,rfl,rfl,_,rfl,?_⟩
    refine iteDF (ne_str n3) ?_
    refine ⟨_,rfl,_,rfl,1,rfl,a,_,rfl,SqT.of e,e,fun p H1 S1 e1=>?_⟩
    rw [ct1] at e1
    refine ⟨x,p,_,[r],rfl,e1,TmsAt.one (g.mono (keepT_same S1)),by simp,by omega,fun t ht=>by rw [List.mem_singleton.mp ht]; exact ⟨ok1,dr,by omega⟩,fun H2 S2=>?_⟩
    rw [br_ask]
    exact k H2 (S1.trans S2)
  | @op a x u u2 r r2 e g g2 =>
    obtain ⟨okw,ok1,ok2⟩:=ok
    obtain ⟨l4,_,_⟩:=sign_ok x okw
    have dd:r.depth≤n∧r2.depth≤n:=by
      have:max r.depth r2.depth+1≤n+1:=dn
      omega
    have sr:r.size+r2.size+1≤40:=sz
    refine ⟨_,rfl,a,_,0,.str "op", rfl,rfl,SqT.of e,at0 ..,?_⟩
    refine ⟨_,rfl,rfl,_,rfl,?_⟩
    refine iteDF (ne_str (by decide +kernel)) ?_
    refine ⟨_,rfl,rfl,_,rfl,?_⟩
    refine iteDF (ne_str (by decide +kernel)) ?_
    refine ⟨_,rfl,pa',_,rfl,.inr (hp _),rfl,(by decide),_,rfl,?_⟩
    have ein:inV (.str "op") (plainW.map V.str)=false:=by rw [in_strs,decide_eq_false (by decide +kernel)]
    rw [ein]
    refine iteF ?_
    refine ⟨_,rfl,rfl,_,rfl,?_⟩
    refine iteD rfl ?_
    refine ⟨_,rfl,a,_,1,.str x,rfl,rfl,SqT.of e,at1 ..,_,rfl,2,rfl,a,_,rfl,SqT.of e,e,fun p H1 S1 e1=>?_⟩
    rw [ct2] at e1
    refine ⟨x,p,_,[r,r2],rfl,e1,TmsAt.two (g.mono (keepT_same S1)) (g2.mono (keepT_same S1)),by simp,by omega,fun t ht=>?_,fun H2 S2=>?_⟩
    · rcases List.mem_cons.mp ht with rfl | ht
      · exact ⟨ok1,dd.1,by omega⟩
      · rw [List.mem_singleton.mp ht]
        exact ⟨ok2,dd.2,by omega⟩
    rw [br_op]
    exact k H2 (S1.trans S2)
theorem tm_zero {f:Addr} {fd:FuncData}:FnOk P w K mg base CX0 1 f fd ["term"] (spTTm 0):=by
  have no:∀ vs H Q E,¬ spTTm 0 vs H Q E:=fun vs H Q E h=>by
    obtain ⟨v,t,_,_,_,h1,_⟩:=h
    have:=t.depth_pos
    omega
  exact ⟨fun vs H Q E h=>absurd h (no vs H Q E),fun A outer s H args us vs Q E _ _ _ _ h=>absurd h (no vs H Q E)⟩
theorem ok_term_text {f f2:Addr} {fd fd2:FuncData} (F:Fun K "term_text" "term_text" s_term_text f fd) (F2:Fun K "in_bracket" "in_bracket" s_in_bracket f2 fd2) (B:Bl mg) (X:Tx K mg) (m:mg "term_text" = some (.ref f)) (m2:mg "in_bracket" = some (.ref f2)) :
    ∀ n:Nat,FnOk P w K mg base CX0 (2*n+1) f fd ["term"] (spTTm n)
  | 0=>tm_zero
  | n+1=>tm_step F B X (Cal.of F2 (ok_in_bracket F2 (Cal.of F (ok_term_text F F2 B X m m2 n) m (fun _ _ _ _ _ _ us hl=>by obtain ⟨u0,rfl⟩:=len1 hl; rfl))) m2 (fun _ _ _ _ _ _ us hl=>by obtain ⟨u0,u1,rfl⟩:=len2 hl; rfl))
theorem at3 (x y z u:V) (xs:List V):atI (x::y::z::u::xs) 3=some u:=atI_nat (j:=3) rfl
theorem sc_l_text:FnScope ["_law_term"] ["_law_term"] (defScope s_l_text):=⟨rfl,rfl,rfl,by decide +kernel,rfl,by decide +kernel,by decide +kernel⟩
theorem lt_step {n:Nat} {f:Addr} {fd:FuncData} (F:Fun K "_law_text" "_law_text" s_l_text f fd) (B:Bl mg) (C_l_text:Cal P w K mg base (n+1) "_law_text" ["_law_term"] (spTTm n)):FnOk P w K mg base CX0 (n+2) f fd ["_law_term"] (spTTm (n+1)):=by
  refine F.ok sc_l_text (fun vs H Q E h=>?_) (fun cdv A outer s H vs Q E hr h=>?_)
  · obtain ⟨v,t,rfl,_⟩:=h
    rfl
  obtain ⟨v,t,rfl,T,ok,dn,sz,k⟩:=h
  refine ⟨_,(pss_cons (ps_if (PW.pt (pw_or (pt_cmpR op_eq (pe_ix ix_tup (pv 0) pe_int (fun _ _=>rfl)) pe_str (nomark _)) (pw_or1 (pt_cmpR op_eq (pe_ix ix_tup (pv 0) pe_int (fun _ _=>rfl)) pe_str (nomark _))))) (pss_one (ps_ret (pe_callTy call_strV rfl B.str boot_str' (pa_cons (pe_ix ix_tup (pv 0) pe_int (fun _ _=>rfl)) pa_nil)))) pss_nil)
      (pss_cons (ps_if (pt_cmpR op_eq (pe_ix ix_tup (pv 0) pe_int (fun _ _=>rfl)) pe_str (nomark _)) (pss_one (ps_ret (pe_op op_add_str (pe_op op_add_str (pe_op op_add_str (pe_op op_add_str (pe_op op_add_str (pe_op op_add_str pe_str (pe_ix ix_tup (pv 0) pe_int (fun _ _=>rfl))) pe_str) (pe_cal C_l_text hr (Nat.le_refl _) rfl (pa_cons (pe_ix ix_tup (pv 0) pe_int (fun _ _=>rfl)) pa_nil))) pe_str) (pe_cal C_l_text hr (Nat.le_refl _) rfl (pa_cons (pe_ix ix_tup (pv 0) pe_int (fun _ _=>rfl)) pa_nil))) pe_str))) pss_nil)
      (pss_cons (ps_if (pt_cmpR op_eq (pe_callB call_len_seq rfl B.len PySem.boot_len (pa_cons (pv 0) pa_nil)) pe_int (nomark _)) (pss_one (ps_ret (pe_op op_add_str (pe_op op_add_str (pe_op op_add_str (pe_op op_add_str pe_str (pe_ix ix_tup (pv 0) pe_int (fun _ _=>rfl))) pe_str) (pe_cal C_l_text hr (Nat.le_refl _) rfl (pa_cons (pe_ix ix_tup (pv 0) pe_int (fun _ _=>rfl)) pa_nil))) pe_str))) pss_nil)
      (pss_one (ps_ret (pe_ix ix_tup (pv 0) pe_int (fun _ _=>rfl))))))),?_⟩
  have l1:(("(" : Str)).length=1:=by decide +kernel
  have l2:((" " : Str)).length=1:=by decide +kernel
  have l3:((")" : Str)).length=1:=by decide +kernel
  cases T with
  | @num a m e =>
    refine ⟨_,rfl,a,_,0,_,rfl,rfl,SqT.of e,at0 ..,rfl,_,rfl,?_⟩
    refine iteD rfl ?_
    refine iteT ?_
    refine ⟨_,rfl,a,_,1,_,rfl,rfl,SqT.of e,at1 ..,.inl ⟨m,rfl,log_small ok.1 ok.2,?_⟩⟩
    have k':=k H (Same.refl H)
    rw [str_num] at k'
    exact k'
  | @box a x e =>
    refine ⟨_,rfl,a,_,0,_,rfl,rfl,SqT.of e,at0 ..,rfl,_,rfl,?_⟩
    refine iteDF (ne_str (by decide +kernel)) ?_
    refine ⟨_,rfl,a,_,0,_,rfl,rfl,SqT.of e,at0 ..,rfl,_,rfl,?_⟩
    refine iteD rfl ?_
    refine ⟨_,rfl,a,_,1,_,rfl,rfl,SqT.of e,at1 ..,.inr ⟨x,rfl,?_⟩⟩
    have k':=k H (Same.refl H)
    rw [str_box] at k'
    exact k'
  | @plain a x e =>
    obtain ⟨_,_,_,n1,n2,n3⟩:=plain_ok x ok
    refine ⟨_,rfl,a,_,0,.str x,rfl,rfl,SqT.of e,at0 ..,rfl,_,rfl,?_⟩
    refine iteDF (ne_str n1) ?_
    refine ⟨_,rfl,a,_,0,.str x,rfl,rfl,SqT.of e,at0 ..,rfl,_,rfl,?_⟩
    refine iteDF (ne_str n2) ?_
    refine ⟨_,rfl,a,_,0,.str x,rfl,rfl,SqT.of e,at0 ..,rfl,_,rfl,?_⟩
    refine iteDF (ne_str n3) ?_
    refine ⟨_,rfl,a,_,rfl,.inr (SqT.of e),rfl,_,rfl,?_⟩
    refine iteDF (fun z=>by have:=V.int.inj z; simp at this) ?_
    have k':=k H (Same.refl H)
    rw [str_plain] at k'
    exact ⟨_,rfl,a,_,0,.str x,rfl,rfl,SqT.of e,at0 ..,k'⟩
  | @ask a x u r e g =>
    obtain ⟨okw,ok1⟩:=ok
    obtain ⟨l4,_,_,n1,n2,n3,n4⟩:=ask_ok x okw
    have dr:r.depth≤n:=Nat.le_of_succ_le_succ dn
    have sr:r.size+1≤40:=sz
    have lr:=Tm.str_len (t:=r) ok1
    refine ⟨_,rfl,a,_,0,.str x,rfl,rfl,SqT.of e,at0 ..,rfl,_,rfl,?_⟩
    refine iteDF (ne_str n1) ?_
    refine ⟨_,rfl,a,_,0,.str x,rfl,rfl,SqT.of e,at0 ..,rfl,_,rfl,?_⟩
    refine iteDF (ne_str n2) ?_
    refine ⟨_,rfl,a,_,0,.str x,rfl,rfl,SqT.of e,at0 ..,rfl,_,rfl,?_⟩
    refine iteDF (ne_str n3) ?_
    refine ⟨_,rfl,a,_,rfl,.inr (SqT.of e),rfl,_,rfl,?_⟩
    refine iteD rfl ?_
    refine ⟨_,rfl,a,_,0,.str x,rfl,rfl,SqT.of e,at0 ..,_,_,rfl,rfl,small (by rw [l1]; omega),_,_,rfl,rfl,small (by rw [Str.length_append,l1,l2]; omega),?_⟩
    refine ⟨_,rfl,a,_,1,u,rfl,rfl,SqT.of e,at1 ..,u,r,rfl,g,ok1,dr,by omega,fun H1 S1=>?_⟩
    refine ⟨_,_,rfl,rfl,small (by simp only [Str.length_append,l1,l2]; omega),_,_,rfl,rfl,small (by simp only [Str.length_append,l1,l2,l3]; omega),?_⟩
    rw [law_ask]
    exact k H1 S1
  | @op a x u u2 r r2 e g g2 =>
    obtain ⟨okw,ok1,ok2⟩:=ok
    obtain ⟨l4,_,_⟩:=sign_ok x okw
    have dd:r.depth≤n∧r2.depth≤n:=by
      have:max r.depth r2.depth+1≤n+1:=dn
      omega
    have sr:r.size+r2.size+1≤40:=sz
    have lr:=Tm.str_len (t:=r) ok1
    have lr2:=Tm.str_len (t:=r2) ok2
    refine ⟨_,rfl,a,_,0,.str "op", rfl,rfl,SqT.of e,at0 ..,rfl,_,rfl,?_⟩
    refine iteDF (ne_str (by decide +kernel)) ?_
    refine ⟨_,rfl,a,_,0,.str "op", rfl,rfl,SqT.of e,at0 ..,rfl,_,rfl,?_⟩
    refine iteDF (ne_str (by decide +kernel)) ?_
    refine ⟨_,rfl,a,_,0,.str "op", rfl,rfl,SqT.of e,at0 ..,rfl,_,rfl,?_⟩
    refine iteD rfl ?_
    refine ⟨_,rfl,a,_,1,.str x,rfl,rfl,SqT.of e,at1 ..,_,_,rfl,rfl,small (by rw [l1]; omega),_,_,rfl,rfl,small (by rw [Str.length_append,l1,l2]; omega),?_⟩
    refine ⟨_,rfl,a,_,2,u,rfl,rfl,SqT.of e,at2 ..,u,r,rfl,g,ok1,dd.1,by omega,fun H1 S1=>?_⟩
    refine ⟨_,_,rfl,rfl,small (by simp only [Str.length_append,l1,l2]; omega),_,_,rfl,rfl,small (by simp only [Str.length_append,l1,l2]; omega),?_⟩
    refine ⟨_,rfl,a,_,3,u2,rfl,rfl,SqT.of (S1 _ _ e),at3 ..,u2,r2,rfl,g2.mono (keepT_same S1),ok2,dd.2,by omega,fun H2 S2=>?_⟩
    refine ⟨_,_,rfl,rfl,small (by simp only [Str.length_append,l1,l2]; omega),_,_,rfl,rfl,small (by simp only [Str.length_append,l1,l2,l3]; omega),?_⟩
    rw [law_op]
    exact k H2 (S1.trans S2)
theorem lt_zero {f:Addr} {fd:FuncData}:FnOk P w K mg base CX0 1 f fd ["_law_term"] (spTTm 0):=by
  have no:∀ vs H Q E,¬ spTTm 0 vs H Q E:=fun vs H Q E h=>by
    obtain ⟨v,t,_,_,_,h1,_⟩:=h
    have:=t.depth_pos
    omega
  exact ⟨fun vs H Q E h=>absurd h (no vs H Q E),fun A outer s H args us vs Q E _ _ _ _ h=>absurd h (no vs H Q E)⟩
theorem ok_l_text {f:Addr} {fd:FuncData} (F:Fun K "_law_text" "_law_text" s_l_text f fd) (B:Bl mg) (m:mg "_law_text" = some (.ref f)) :
    ∀ n:Nat,FnOk P w K mg base CX0 (n+1) f fd ["_law_term"] (spTTm n)
  | 0=>lt_zero
  | n+1=>lt_step F B (Cal.of F (ok_l_text F B m n) m (fun _ _ _ _ _ _ us hl=>by obtain ⟨u0,rfl⟩:=len1 hl; rfl))
def Hr.ws:Hr→List Str
  | .fin=>["end"] | .go n=>["go", numT n] | .iff t n=>["if", t.str,numT n] | .set x t=>["set", x,t.str] | .say t=>["say", t.str]
def Hr.str (r:Hr):Str:=Txt.join (" " : Str) r.ws
theorem str_fin:Hr.fin.str = "end" := by decide +kernel
theorem ws_len {r:Hr} (h:r.ok 20):r.ws.length≤3∧∀ z ∈ r.ws,z.length≤280:=by
  have fixed:∀ z ∈ (["end", "go", "if", "set", "say"]:List Str),z.length≤280:=by decide +kernel
  have ft:∀ {t:Tm},t.fit 20→t.str.length≤280:=fun {t} h=>by
    have:=Tm.str_len h.1
    have:=h.2.1
    omega
  cases r with
  | fin=>exact ⟨by decide,fun z hz=>fixed z (by rw [List.mem_singleton.mp hz]; decide +kernel)⟩
  | go n =>
    refine ⟨by show 2≤3; decide,fun z hz=>?_⟩
    rcases List.mem_cons.mp (show z ∈ [("go" : Str),numT n] from hz) with rfl | hz
    · exact fixed _ (by decide +kernel)
    · rw [List.mem_singleton.mp hz]
      have:=num_len h.1 h.2
      omega
  | iff t n =>
    refine ⟨by show 3≤3; decide,fun z hz=>?_⟩
    rcases List.mem_cons.mp (show z ∈ [("if" : Str),t.str,numT n] from hz) with rfl | hz
    · exact fixed _ (by decide +kernel)
    rcases List.mem_cons.mp hz with rfl | hz
    · exact ft h.1
    · rw [List.mem_singleton.mp hz]
      have:=num_len h.2.1 h.2.2
      omega
  | set x t =>
    refine ⟨by show 3≤3; decide,fun z hz=>?_⟩
    rcases List.mem_cons.mp (show z ∈ [("set" : Str),x,t.str] from hz) with rfl | hz
    · exact fixed _ (by decide +kernel)
    rcases List.mem_cons.mp hz with rfl | hz
    · have:=h.1.2.2.1
      omega
    · rw [List.mem_singleton.mp hz]
      exact ft h.2
  | say t =>
    refine ⟨by show 2≤3; decide,fun z hz=>?_⟩
    rcases List.mem_cons.mp (show z ∈ [("say" : Str),t.str] from hz) with rfl | hz
    · exact fixed _ (by decide +kernel)
    · rw [List.mem_singleton.mp hz]
      exact ft h
theorem len_join (sep:Str) (zs:List Str) (h:sep.length=1):(Txt.join sep zs).length≤(zs.map (·.length)).sum+zs.length:=by
  have:=size_glued sep zs
  rw [h] at this
  show (Builtin.Str.glued sep zs).length≤_
  omega
theorem ws_sum {r:Hr} (h:r.ok 20):(r.ws.map (·.length)).sum+r.ws.length≤900:=by
  obtain ⟨h1,h2⟩:=ws_len h
  have:=sum_le h2
  have:r.ws.length*280≤840:=by omega
  omega
theorem Hr.str_len {r:Hr} (h:r.ok 20):r.str.length≤900:=Nat.le_trans (len_join _ _ (by decide +kernel)) (ws_sum h)
inductive spRT (vs:List V) (H:Hp) (Q:VK) (u_3:XK):Prop where
  | mk:∀ (v:V) (r:Hr),(vs=[v])→(HrAt H v r)→(r.ok 20)→(∀ H',Same H H'→Q (.str r.str) H')→spRT vs H Q u_3
theorem sc_row_text:FnScope ["row", "word"] ["row"] (defScope s_row_text):=⟨rfl,rfl,rfl,by decide +kernel,rfl,by decide +kernel,by decide +kernel⟩
theorem ok_row_text {f:Addr} {fd:FuncData} (F:Fun K "row_text" "row_text" s_row_text f fd) (B:Bl mg) (C_term_text:Cal P w K mg base 17 "term_text" ["term"] (spTTm 8)):FnOk P w K mg base CX0 18 f fd ["row"] spRT:=by
  refine F.ok sc_row_text (fun vs H Q E h=>?_) (fun cdv A outer s H vs Q E hr h=>?_)
  · obtain ⟨v,r,rfl,_⟩:=h
    rfl
  obtain ⟨v,r,rfl,T,ok,k⟩:=h
  refine ⟨_,(pss_cons (ps_set (i:=1) sc_row_text.nd rfl (Or.inl rfl) (pe_ix ix_tup (pv 0) pe_int (fun _ _=>rfl)))
      (pss_cons (ps_if (pt_cmpR op_eq (pv 1) pe_str (nomark _)) (pss_one (ps_ret (pe_bm PySem.F.plainAttrs_str PySem.F.slot_str_join PySem.F.type_str_join mt_join pe_str (pa_cons (pe_lst (pa_cons (pv 1) (pa_cons (pe_ix ix_tup (pv 0) pe_int (fun _ _=>rfl)) (pa_cons (pe_cal C_term_text hr (by decide) rfl (pa_cons (pe_ix ix_tup (pv 0) pe_int (fun _ _=>rfl)) pa_nil)) pa_nil)))) pa_nil)))) pss_nil)
      (pss_cons (ps_if (pt_cmpR op_eq (pv 1) pe_str (nomark _)) (pss_one (ps_ret (pe_bm PySem.F.plainAttrs_str PySem.F.slot_str_join PySem.F.type_str_join mt_join pe_str (pa_cons (pe_lst (pa_cons (pv 1) (pa_cons (pe_cal C_term_text hr (by decide) rfl (pa_cons (pe_ix ix_tup (pv 0) pe_int (fun _ _=>rfl)) pa_nil)) pa_nil))) pa_nil)))) pss_nil)
      (pss_cons (ps_if (pt_cmpR op_eq (pv 1) pe_str (nomark _)) (pss_one (ps_ret (pe_bm PySem.F.plainAttrs_str PySem.F.slot_str_join PySem.F.type_str_join mt_join pe_str (pa_cons (pe_lst (pa_cons (pv 1) (pa_cons (pe_cal C_term_text hr (by decide) rfl (pa_cons (pe_ix ix_tup (pv 0) pe_int (fun _ _=>rfl)) pa_nil)) (pa_cons (pe_callTy call_str_int rfl B.str boot_str' (pa_cons (pe_ix ix_tup (pv 0) pe_int (fun _ _=>rfl)) pa_nil)) pa_nil)))) pa_nil)))) pss_nil)
      (pss_cons (ps_if (pt_cmpR op_eq (pv 1) pe_str (nomark _)) (pss_one (ps_ret (pe_bm PySem.F.plainAttrs_str PySem.F.slot_str_join PySem.F.type_str_join mt_join pe_str (pa_cons (pe_lst (pa_cons (pv 1) (pa_cons (pe_callTy call_str_int rfl B.str boot_str' (pa_cons (pe_ix ix_tup (pv 0) pe_int (fun _ _=>rfl)) pa_nil)) pa_nil))) pa_nil)))) pss_nil)
      (pss_one (ps_ret (pv 1)))))))),?_⟩
  have l2:((" " : Str)).length≤16:=by decide +kernel
  have big:∀ {m:Nat},m≤900→m≤1048576:=fun h=>Nat.le_trans h (by decide)
  have wsum:=ws_sum ok
  cases T with
  | @fin a e =>
    refine ⟨_,rfl,a,_,0,.str "end", rfl,rfl,SqT.of e,at0 ..,?_⟩
    refine ⟨_,rfl,rfl,_,rfl,?_⟩
    refine iteDF (ne_str (by decide +kernel)) ?_
    refine ⟨_,rfl,rfl,_,rfl,?_⟩
    refine iteDF (ne_str (by decide +kernel)) ?_
    refine ⟨_,rfl,rfl,_,rfl,?_⟩
    refine iteDF (ne_str (by decide +kernel)) ?_
    refine ⟨_,rfl,rfl,_,rfl,?_⟩
    refine iteDF (ne_str (by decide +kernel)) ?_
    have k':=k H (Same.refl H)
    rw [str_fin] at k'
    exact ⟨_,rfl,k'⟩
  | @go a n e =>
    refine ⟨_,rfl,a,_,0,.str "go", rfl,rfl,SqT.of e,at0 ..,?_⟩
    refine ⟨_,rfl,rfl,_,rfl,?_⟩
    refine iteDF (ne_str (by decide +kernel)) ?_
    refine ⟨_,rfl,rfl,_,rfl,?_⟩
    refine iteDF (ne_str (by decide +kernel)) ?_
    refine ⟨_,rfl,rfl,_,rfl,?_⟩
    refine iteDF (ne_str (by decide +kernel)) ?_
    refine ⟨_,rfl,rfl,_,rfl,?_⟩
    refine iteD rfl ?_
    refine ⟨rfl,_,rfl,_,rfl,a,_,1,_,rfl,rfl,SqT.of e,at1 ..,n,rfl,log_small ok.1 ok.2,(by show 2≤sizeLine; decide),fun L hL=>?_⟩
    have eL:upd H L (.lst [.str "go", .str (toString n)]) L=some (.lst ((Hr.go n).ws.map V.str)):=upd_same
    exact ⟨_,L,_,rfl,rfl,SqL.of eL,l2,big wsum,k _ (Same.new hL _)⟩
  | @iff a v t n e g =>
    refine ⟨_,rfl,a,_,0,.str "if", rfl,rfl,SqT.of e,at0 ..,?_⟩
    refine ⟨_,rfl,rfl,_,rfl,?_⟩
    refine iteDF (ne_str (by decide +kernel)) ?_
    refine ⟨_,rfl,rfl,_,rfl,?_⟩
    refine iteDF (ne_str (by decide +kernel)) ?_
    refine ⟨_,rfl,rfl,_,rfl,?_⟩
    refine iteD rfl ?_
    refine ⟨rfl,_,rfl,_,rfl,a,_,1,_,rfl,rfl,SqT.of e,at1 ..,v,t,rfl,g,ok.1.1,ok.1.2.2,by have:=ok.1.2.1; omega,fun H1 S1=>?_⟩
    refine ⟨_,rfl,a,_,2,_,rfl,rfl,SqT.of (S1 _ _ e),at2 ..,n,rfl,log_small ok.2.1 ok.2.2,(by show 3≤sizeLine; decide),fun L hL=>?_⟩
    have eL:upd H1 L (.lst [.str "if", .str t.str,.str (toString n)]) L=some (.lst ((Hr.iff t n).ws.map V.str)):=upd_same
    exact ⟨_,L,_,rfl,rfl,SqL.of eL,l2,big wsum,k _ (S1.trans (Same.new hL _))⟩
  | @set a x v t e g =>
    refine ⟨_,rfl,a,_,0,.str "set", rfl,rfl,SqT.of e,at0 ..,?_⟩
    refine ⟨_,rfl,rfl,_,rfl,?_⟩
    refine iteD rfl ?_
    refine ⟨rfl,_,rfl,_,rfl,a,_,1,.str x,rfl,rfl,SqT.of e,at1 ..,_,rfl,a,_,2,v,rfl,rfl,SqT.of e,at2 ..,v,t,rfl,g,ok.2.1,ok.2.2.2,by have:=ok.2.2.1; omega,fun H1 S1=>?_⟩
    refine ⟨(by show 3≤sizeLine; decide),fun L hL=>?_⟩
    have eL:upd H1 L (.lst [.str "set", .str x,.str t.str]) L=some (.lst ((Hr.set x t).ws.map V.str)):=upd_same
    exact ⟨_,L,_,rfl,rfl,SqL.of eL,l2,big wsum,k _ (S1.trans (Same.new hL _))⟩
  | @say a v t e g =>
    refine ⟨_,rfl,a,_,0,.str "say", rfl,rfl,SqT.of e,at0 ..,?_⟩
    refine ⟨_,rfl,rfl,_,rfl,?_⟩
    refine iteDF (ne_str (by decide +kernel)) ?_
    refine ⟨_,rfl,rfl,_,rfl,?_⟩
    refine iteD rfl ?_
    refine ⟨rfl,_,rfl,_,rfl,a,_,1,v,rfl,rfl,SqT.of e,at1 ..,v,t,rfl,g,ok.1,ok.2.2,by have:=ok.2.1; omega,fun H1 S1=>?_⟩
    refine ⟨(by show 2≤sizeLine; decide),fun L hL=>?_⟩
    have eL:upd H1 L (.lst [.str "say", .str t.str]) L=some (.lst ((Hr.say t).ws.map V.str)):=upd_same
    exact ⟨_,L,_,rfl,rfl,SqL.of eL,l2,big wsum,k _ (S1.trans (Same.new hL _))⟩
theorem kit_int_tup (K:PySem.W.Frag):PySem.W.kitOne K (.type "int") (.type "tuple")=some false:=by
  show (if ((Value.type "int" == Value.type "tuple")=true) then some true else if PySem.W.kitMeta "tuple" = true then ((fastBuiltinMro "int").map (·.contains (.type "tuple"))) else none)=some false
  decide +kernel
theorem kit_str_tup (K:PySem.W.Frag):PySem.W.kitOne K (.type "str") (.type "tuple")=some false:=by
  show (if ((Value.type "str" == Value.type "tuple")=true) then some true else if PySem.W.kitMeta "tuple" = true then ((fastBuiltinMro "str").map (·.contains (.type "tuple"))) else none)=some false
  decide +kernel
def PtAt (H:Hp) (v:V) (z:Str):Prop:=(∃ (a:Addr) (xs:List V) (t:Tm),v=.ref a∧H a=some (.tup xs)∧TmAt H v t∧t.fit 20∧z=t.str)∨(∃ n:Int,v=.int n∧0≤n∧n < 1000000000000∧z=numT n)∨(v=.str z)
theorem TmAt.is_tup {H:Hp} {v:V} {t:Tm} (h:TmAt H v t):∃ (a:Addr) (xs:List V),v=.ref a∧H a=some (.tup xs):=by
  cases h with
  | num e=>exact ⟨_,_,rfl,e⟩
  | box e=>exact ⟨_,_,rfl,e⟩
  | plain e=>exact ⟨_,_,rfl,e⟩
  | ask e _=>exact ⟨_,_,rfl,e⟩
  | op e _ _=>exact ⟨_,_,rfl,e⟩
theorem PtAt.tm {H:Hp} {v:V} {t:Tm} (h:TmAt H v t) (f:t.fit 20):PtAt H v t.str:=by
  obtain ⟨a,xs,e,h'⟩:=h.is_tup
  exact .inl ⟨a,xs,t,e,h',h,f,rfl⟩
theorem PtAt.mono {H H':Hp} (k:KeepT H H') {v:V} {z:Str} (h:PtAt H v z):PtAt H' v z:=by
  rcases h with ⟨a,xs,t,e,h1,h2,h3,h4⟩ | h | h
  · exact .inl ⟨a,xs,t,e,k _ _ h1,h2.mono k,h3,h4⟩
  · exact .inr (.inl h)
  · exact .inr (.inr h)
theorem HrAt.parts {H:Hp} {v:V} {r:Hr} (h:HrAt H v r) (ok:r.ok 20):∃ (a:Addr) (wd:Str) (tv:List V) (zs:List Str),v=.ref a∧H a=some (.tup (.str wd::tv))∧r.ws=wd::zs∧tv.length=zs.length∧tv.length≤2∧∀ (i:Nat) (u:V) (z:Str),tv[i]?=some u→zs[i]?=some z→PtAt H u z:=by
  have one:∀ {x:V} {y:Str},PtAt H x y→∀ (i:Nat) (u:V) (z:Str),[x][i]?=some u→[y][i]?=some z→PtAt H u z:=fun {x y} h i u z hu hz=>by
    match i,hu,hz with
    | 0,hu,hz=>cases hu; cases hz; exact h
    | i+1,hu,_=>simp at hu
  have two:∀ {x x2:V} {y y2:Str},PtAt H x y→PtAt H x2 y2→∀ (i:Nat) (u:V) (z:Str),[x,x2][i]?=some u→[y,y2][i]?=some z→PtAt H u z:=fun {x x2 y y2} h h2 i u z hu hz=>by
    match i,hu,hz with
    | 0,hu,hz=>cases hu; cases hz; exact h
    | 1,hu,hz=>cases hu; cases hz; exact h2
    | i+2,hu,_=>simp at hu
  cases h with
  | @fin a e=>exact ⟨a, "end", [],[],rfl,e,rfl,rfl,by simp,fun i u z hu=>by simp at hu⟩
  | @go a n e=>exact ⟨a, "go", [.int n],[numT n],rfl,e,rfl,rfl,by simp,one (.inr (.inl ⟨n,rfl,ok.1,ok.2,rfl⟩))⟩
  | @iff a u t n e g=>exact ⟨a, "if", [u,.int n],[t.str,numT n],rfl,e,rfl,rfl,by simp,two (PtAt.tm g ok.1) (.inr (.inl ⟨n,rfl,ok.2.1,ok.2.2,rfl⟩))⟩
  | @set a x u t e g=>exact ⟨a, "set", [.str x,u],[x,t.str],rfl,e,rfl,rfl,by simp,two (.inr (.inr rfl)) (PtAt.tm g ok.2)⟩
  | @say a u t e g=>exact ⟨a, "say", [u],[t.str],rfl,e,rfl,rfl,by simp,one (PtAt.tm g ok)⟩
theorem keepT_lst {H:Hp} {b:Addr} {ys zs:List V} (h:H b=some (.lst ys)):KeepT H (upd H b (.lst zs)):=fun a xs e=>by
  rw [upd_ne (fun z=>by rw [z,h] at e; cases e)]
  exact e
theorem sc_l_line:FnScope ["_law_row", "_law_words", "_law_part"] ["_law_row"] (defScope s_l_line):=⟨rfl,rfl,rfl,by decide +kernel,rfl,by decide +kernel,by decide +kernel⟩
theorem ok_l_line {f:Addr} {fd:FuncData} (F:Fun K "_law_line" "_law_line" s_l_line f fd) (B:Bl mg) (C_l_text:Cal P w K mg base 9 "_law_text" ["_law_term"] (spTTm 8)):FnOk P w K mg base CX0 10 f fd ["_law_row"] spRT:=by
  refine F.ok sc_l_line (fun vs H Q E h=>?_) (fun cdv A outer s H vs Q E hr h=>?_)
  · obtain ⟨v,r,rfl,_⟩:=h
    rfl
  obtain ⟨v,r,rfl,T,ok,k⟩:=h
  refine ⟨_,(pss_cons (ps_set (i:=1) sc_l_line.nd rfl (Or.inl rfl) (pe_lst (pa_cons (pe_ix ix_tup (pv 0) pe_int (fun _ _=>rfl)) pa_nil)))
      (pss_cons (ps_for PassesOwn.never rfl (pi_tup (pe_slice sl_tupA (pv 0) (po_some pe_int) po_none)) (pg_name (i:=2) sc_l_line.nd rfl (Or.inl rfl)) (pss_one (ps_expr (pe_bm PySem.F.plainAttrs_list PySem.F.slot_list_append PySem.F.type_list_append mt_append (pv 1) (pa_cons (pe_ifExp (pt_val (pe_callB call_isinst rfl B.isinstance PyProof.Rows.boot_isinstance (pa_cons (pv 2) (pa_cons (pe_bltn (v:=V.ty "tuple") rfl B.tuple boot_tuple' rfl) pa_nil)))) (pe_cal C_l_text hr (by decide) rfl (pa_cons (pv 2) pa_nil)) (pe_callTy call_strV rfl B.str boot_str' (pa_cons (pv 2) pa_nil))) pa_nil)))))
      (pss_one (ps_ret (pe_bm PySem.F.plainAttrs_str PySem.F.slot_str_join PySem.F.type_str_join mt_join pe_str (pa_cons (pv 1) pa_nil)))))),?_⟩
  obtain ⟨a,wd,tv,zs,rfl,e,ews,tz,t2,pts⟩:=T.parts ok
  refine ⟨_,rfl,a,_,0,.str wd,rfl,rfl,SqT.of e,at0 ..,(by show 1≤sizeLine; decide),fun L hL=>?_⟩
  have GL:=Same.new hL (.lst [.str wd])
  have eL:upd H L (.lst [.str wd]) L=some (.lst [.str wd]):=upd_same
  generalize upd H L (.lst [.str wd])=H1 at GL eL
  refine ⟨_,rfl,1,rfl,a,_,rfl,SqT.of (GL _ _ e),GL _ _ e,fun p H2 S2 ep=>?_⟩
  rw [ct1] at ep
  have eL2:=S2 _ _ eL
  have S02:=GL.trans S2
  have pL:p ≠ L:=fun z=>by rw [z,eL2] at ep; cases ep
  refine ⟨p,rfl,⟨_,SqT.of ep⟩,for_tup (K:=K) (xs:=tv) (fun i σ H'=>∃ x2:Option V,σ=[some (.ref a),some (.ref L),x2]∧H' L=some (.lst ((wd::zs.take i).map V.str))∧SameBut L H2 H') ⟨_,rfl,eL2,SameBut.refl _ _⟩ (fun i σ H' _ hst=>by obtain ⟨_,_,_,h⟩:=hst; exact SqT.of (h _ _ pL ep)) ?_ ?_⟩
  · rintro i u σ H3 hu ⟨x2,rfl,hL3,B3⟩
    have hi:=(List.getElem?_eq_some_iff.mp hu).1
    have hz:zs[i]?=some (zs[i]'(by omega)):=List.getElem?_eq_getElem (by omega)
    have k3:KeepT H H3:=fun c xs h=>B3 _ _ (ne_of_none h hL) (S02 _ _ h)
    have pt:=(pts i u _ hu hz).mono k3
    have fin:∀ H4,Same H3 H4→(∃ l xs y,V.ref L=.ref l∧[V.str (zs[i]'(by omega))]=[y]∧H4 l=some (.lst xs)∧xs.length < sizeLine∧(∃ x2:Option V,[some (V.ref a),some (V.ref L),some u]=[some (.ref a),some (.ref L),x2]∧upd H4 l (.lst (xs++[y])) L=some (.lst ((wd::zs.take (i+1)).map V.str))∧SameBut L H2 (upd H4 l (.lst (xs++[y]))))):=fun H4 S4=>by
      refine ⟨L,_,_,rfl,rfl,S4 _ _ hL3,small1000 (by rw [List.length_map,List.length_cons,List.length_take]; omega),_,rfl,?_,fun b o hb eb=>?_⟩
      · rw [upd_same,show wd::zs.take (i+1)=(wd::zs.take i)++[zs[i]'(by omega)] from by rw [List.take_add_one,hz]; rfl,List.map_append]
        rfl
      · rw [upd_ne hb]
        exact S4 _ _ (B3 b o hb eb)
    rcases pt with ⟨c,xs,t,rfl,hc,ht,tf,ez⟩ | ⟨n,rfl,n0,n1,ez⟩ | rfl
    · refine ⟨_,rfl,.inl ⟨rfl,_,SqL.of hL3⟩,_,rfl,_,_, "tuple", true,rfl,TyOf.tup hc,kit_self _ _,_,rfl,?_⟩
      refine iteT ?_
      refine ⟨_,rfl,_,t,rfl,ht,tf.1,tf.2.2,by have:=tf.2.1; omega,fun H4 S4=>?_⟩
      rw [← ez]
      obtain ⟨l,xs,y,h1,h2,h3,h4,h5⟩:=fin H4 S4; exact ⟨l,xs,y,h1,h2,h3,h4,h5⟩
    · refine ⟨_,rfl,.inl ⟨rfl,_,SqL.of hL3⟩,_,rfl,_,_, "tuple", false,rfl,TyOf.int _,kit_int_tup _,_,rfl,?_⟩
      refine iteF ?_
      refine ⟨_,rfl,.inl ⟨n,rfl,log_small n0 n1,?_⟩⟩
      rw [str_is,← ez]
      obtain ⟨l,xs,y,h1,h2,h3,h4,h5⟩:=fin H3 (Same.refl _); exact ⟨l,xs,y,h1,h2,h3,h4,h5⟩
    · refine ⟨_,rfl,.inl ⟨rfl,_,SqL.of hL3⟩,_,rfl,_,_, "tuple", false,rfl,TyOf.str _,kit_str_tup _,_,rfl,?_⟩
      refine iteF ?_
      refine ⟨_,rfl,.inr ⟨_,rfl,?_⟩⟩
      obtain ⟨l,xs,y,h1,h2,h3,h4,h5⟩:=fin H3 (Same.refl _); exact ⟨l,xs,y,h1,h2,h3,h4,h5⟩
  · rintro σ H3 ⟨x2,rfl,hL3,B3⟩
    rw [tz,List.take_length,← ews] at hL3
    refine ⟨rfl,_,rfl,_,L,_,rfl,rfl,SqL.of hL3,(by decide +kernel),Nat.le_trans (ws_sum ok) (by decide),?_⟩
    exact k H3 fun b o h=>B3 _ _ (ne_of_none h hL) (S02 _ _ h)
def RsAt (H:Hp) (tv:List V) (rs:List Hr):Prop:=tv.length=rs.length∧∀ (i:Nat) (v:V) (r:Hr),tv[i]?=some v→rs[i]?=some r→HrAt H v r
theorem RsAt.mono {H H':Hp} {tv:List V} {rs:List Hr} (h:RsAt H tv rs) (k:KeepT H H'):RsAt H' tv rs:=⟨h.1,fun i v r hv hr=>(h.2 i v r hv hr).mono k⟩
theorem RsAt.nil {H:Hp}:RsAt H [] []:=⟨rfl,fun i v r h=>by simp at h⟩
theorem RsAt.snoc {H:Hp} {tv:List V} {rs:List Hr} {v:V} {r:Hr} (h:RsAt H tv rs) (a:HrAt H v r):RsAt H (tv++[v]) (rs++[r]):=by
  refine ⟨by rw [List.length_append,List.length_append,h.1]; rfl,fun i u s hu hs=>?_⟩
  have hl:=h.1
  by_cases c:i < tv.length
  · rw [List.getElem?_append_left c] at hu
    rw [List.getElem?_append_left (by omega)] at hs
    exact h.2 i u s hu hs
  · rw [List.getElem?_append_right (by omega)] at hu
    rw [List.getElem?_append_right (by omega)] at hs
    have e1:i - tv.length=0:=by
      have:=(List.getElem?_eq_some_iff.mp hu).1
      rw [List.length_singleton] at this
      omega
    have e2:i - rs.length=0:=by omega
    rw [e1] at hu
    rw [e2] at hs
    cases hu
    cases hs
    exact a
def GoodR (rs:List Hr):Prop:=rs.length≤60∧∀ r ∈ rs,r.ok 20
def helpT (rs:List Hr):Str:=Txt.join ("\n" : Str) (rs.map Hr.str)
theorem help_sum {rs:List Hr} (g:GoodR rs):((rs.map Hr.str).map (·.length)).sum+(rs.map Hr.str).length≤60000:=by
  have:=sum_le (l:=rs.map Hr.str) (b:=900) fun p hp=>by
    obtain ⟨r,hr,rfl⟩:=List.mem_map.mp hp
    exact Hr.str_len (g.2 r hr)
  rw [List.length_map] at this ⊢
  have h1:=g.1
  have:rs.length*900≤60*900:=Nat.mul_le_mul_right _ h1
  omega
inductive spHT (vs:List V) (H:Hp) (Q:VK) (u_3:XK):Prop where
  | mk:∀ (a:Addr) (tv:List V) (rs:List Hr),(vs=[.ref a])→(H a=some (.tup tv))→(RsAt H tv rs)→(GoodR rs)→(∀ H',Same H H'→Q (.str (helpT rs)) H')→spHT vs H Q u_3
theorem sc_helper_text:FnScope ["helper"] ["helper"] (defScope s_helper_text):=⟨rfl,rfl,rfl,by decide +kernel,rfl,by decide +kernel,by decide +kernel⟩
theorem ok_helper_text {f:Addr} {fd:FuncData} (F:Fun K "helper_text" "helper_text" s_helper_text f fd) (C_row_text:Cal P w K mg base 18 "row_text" ["row"] spRT):FnOk P w K mg base CX0 19 f fd ["helper"] spHT:=by
  refine F.ok sc_helper_text (fun vs H Q E h=>?_) (fun cdv A outer s H vs Q E hr h=>?_)
  · obtain ⟨a,tv,rs,rfl,_⟩:=h
    rfl
  obtain ⟨a,tv,rs,rfl,ha,RA,gr,k⟩:=h
  refine ⟨_,(pss_one (ps_ret (pe_bm PySem.F.plainAttrs_str PySem.F.slot_str_join PySem.F.type_str_join mt_join pe_str (pa_cons (pe_comp (N:=[]) (ix:=[]) (cl:=[]) rfl (CompScope.closed (by with_unfolding_all rfl) (by decide) rfl (by decide) rfl (by with_unfolding_all rfl)) rfl (pi_tup (pv 0))
          (fun _ _ _=>pb_all (pe_cal C_row_text hr (by decide) rfl (pa_cons (pv 0) pa_nil)))) pa_nil)))),?_⟩
  have rl:=RA.1
  have r60:=gr.1
  refine ⟨rfl,_,rfl,a,rfl,⟨_,SqT.of ha⟩,fun D hD=>?_⟩
  refine comp_tup (K:=K) (xs:=tv) (fun i H'=>H' D=some (.lst (((rs.take i).map Hr.str).map V.str))∧Same H H') ⟨by rw [upd_same]; rfl,Same.new hD _⟩ (fun i H' _ h=>SqT.of (h.2 _ _ ha)) ?_ ?_
  · rintro i z H2 hz ⟨hD2,S2⟩
    have hi:=(List.getElem?_eq_some_iff.mp hz).1
    have ht:rs[i]?=some (rs[i]'(by omega)):=List.getElem?_eq_getElem (by omega)
    refine ⟨_,rfl,z,_,rfl,(RA.2 i z _ hz ht).mono (keepT_same S2),gr.2 _ (List.mem_of_getElem? ht),fun H3 S3=>?_⟩
    refine ⟨_,S3 _ _ hD2,?_,Nx.of hi ⟨?_,fun b' o' e'=>?_⟩⟩
    · rw [List.length_map,List.length_map,List.length_take]
      exact small1000 (by omega)
    · rw [upd_same,List.take_add_one,ht,List.map_append,List.map_append]
      rfl
    · rw [upd_ne (ne_of_none e' hD)]
      exact S3 _ _ (S2 _ _ e')
  rintro H2 ⟨hD2,S2⟩
  rw [rl,List.take_length] at hD2
  exact ⟨_,D,_,rfl,rfl,SqL.of hD2,(by decide +kernel),Nat.le_trans (help_sum gr) (by decide),k H2 S2⟩
theorem isIn_iff (L:Str) (c:Nat):isIn L c=true↔c ∈ L.cps.toList:=by
  unfold isIn
  constructor
  · intro h
    cases e:Builtin.Str.occurrences L ⟨#[c]⟩ 0 L.length 1 with
    | nil=>rw [e] at h; cases h
    | cons i r =>
      have s:=StrLaws.occ_spec L ⟨#[c]⟩ 0 L.length 1 i (by rw [e]; exact List.mem_cons_self)
      exact List.mem_of_getElem? ((StrLaws.subAt_one L c i).mp s)
  · intro h
    obtain ⟨i,hi⟩:=List.mem_iff_getElem?.mp h
    have s:=(StrLaws.subAt_one L c i).mpr hi
    rcases StrLaws.occ_head L ⟨#[c]⟩ 1 (Nat.le_refl _) with ⟨_,no⟩ | ⟨j,r,e,_⟩
    · exact absurd s (no i)
    · rw [e]; rfl
def notE (c:Nat):Bool:=!isIn ENDS c
def wL (r:List Nat):List Nat:=r.takeWhile notE
def wR (r:List Nat):List Nat:=r.dropWhile notE
theorem wLR (r:List Nat):wL r++wR r=r:=List.takeWhile_append_dropWhile
theorem wL_no {r:List Nat}:∀ c ∈ wL r,isIn ENDS c=false:=fun c h=>by
  have:=List.all_eq_true.mp (List.all_takeWhile (p:=notE) (l:=r)) c h
  unfold notE at this
  simpa using this
def EndR (r:List Nat):Prop:=∀ c,r.head?=some c→isIn ENDS c=true
theorem wR_end (r:List Nat):EndR (wR r):=fun c h=>by
  have:=List.head?_dropWhile_not notE r
  unfold wR at h
  rw [h] at this
  unfold notE at this
  simpa using this
theorem wL_eq {x r:List Nat} (hx:∀ c ∈ x,isIn ENDS c=false) (hr:EndR r):wL (x++r)=x∧wR (x++r)=r:=by
  have hp:∀ c ∈ x,notE c=true:=fun c hc=>by unfold notE; rw [hx c hc]; rfl
  have h1:r.takeWhile notE=[]∧r.dropWhile notE=r:=by
    cases r with
    | nil=>exact ⟨rfl,rfl⟩
    | cons c t =>
      have e:notE c=false:=by unfold notE; rw [hr c rfl]; rfl
      rw [List.takeWhile_cons,List.dropWhile_cons,e]
      exact ⟨rfl,rfl⟩
  unfold wL wR
  rw [List.takeWhile_append_of_pos hp,List.dropWhile_append_of_pos hp,h1.1,h1.2,List.append_nil]
  exact ⟨rfl,rfl⟩
def valN (l:List Nat):Nat:=l.foldl (fun a c=>a*10+(c - 48)) 0
theorem valN_snoc (l:List Nat) (c:Nat):valN (l++[c])=valN l*10+(c - 48):=by
  unfold valN
  rw [List.foldl_append]
  rfl
theorem dig_one:∀ d:Nat,d < 10→(Nat.toDigits 10 d).map Char.toNat=[d+48]:=by decide +kernel
theorem dig_back:∀ (n:Nat) (l:List Nat),l.length=n+1→(∀ c ∈ l,48≤c∧c≤57)→(l.head? ≠ some 48→0 < valN l)∧(l.head? ≠ some 48∨n=0→(Nat.toDigits 10 (valN l)).map Char.toNat=l)
  | 0,l,hl,hc=>by
    match l,hl with
    | [c],_ =>
      have:=hc c List.mem_cons_self
      have e:valN [c]=c - 48:=by show 0*10+(c - 48)=_; omega
      rw [e]
      refine ⟨fun h=>?_,fun _=>?_⟩
      · have:c ≠ 48:=fun z=>h (by rw [z]; rfl)
        omega
      · rw [dig_one _ (by omega),show c - 48+48=c by omega]
  | n+1,l,hl,hc=>by
    obtain ⟨r,c,rfl⟩:∃ r c,l=r++[c]:=by
      rcases List.eq_nil_or_concat l with e | ⟨r,c,e⟩
      · rw [e] at hl; cases hl
      · exact ⟨r,c,by rw [e,List.concat_eq_append]⟩
    rw [List.length_append] at hl
    have hr:r.length=n+1:=by simpa using hl
    have hh:(r++[c]).head?=r.head?:=by
      cases r with
      | nil=>cases hr
      | cons a t=>rfl
    rw [hh,valN_snoc]
    have cc:=hc c (List.mem_append_right _ List.mem_cons_self)
    obtain ⟨i1,i2⟩:=dig_back n r hr fun x hx=>hc x (List.mem_append_left _ hx)
    refine ⟨fun h=>?_,fun h=>?_⟩
    · have:=i1 h
      omega
    · have h:r.head? ≠ some 48:=by rcases h with h | h; exact h; cases h
      have p:=i1 h
      have t:Nat.toDigits 10 (valN r)++Nat.toDigits 10 (c - 48)=Nat.toDigits 10 (10*valN r+(c - 48)):=Nat.toDigits_append_toDigits (by decide) p (by omega)
      rw [Nat.mul_comm,← t,List.map_append,i2 (.inl h),dig_one _ (by omega),show c - 48+48=c by omega]
theorem valN_lt:∀ (n:Nat) (l:List Nat),l.length=n→(∀ c ∈ l,48≤c∧c≤57)→valN l < 10 ^ n
  | 0,l,hl,_=>by rw [List.length_eq_zero_iff.mp hl]; decide
  | n+1,l,hl,hc=>by
    obtain ⟨r,c,rfl⟩:∃ r c,l=r++[c]:=by
      rcases List.eq_nil_or_concat l with e | ⟨r,c,e⟩
      · rw [e] at hl; cases hl
      · exact ⟨r,c,by rw [e,List.concat_eq_append]⟩
    rw [List.length_append] at hl
    have i:=valN_lt n r (by simpa using hl) fun x hx=>hc x (List.mem_append_left _ hx)
    have cc:=hc c (List.mem_append_right _ List.mem_cons_self)
    rw [valN_snoc,Nat.pow_succ]
    omega
theorem fig_rng {c:Nat} (h:isIn FIG c=true):48≤c∧c≤57:=(by decide +kernel:∀ c ∈ FIG.cps.toList,48≤c∧c≤57) c ((isIn_iff FIG c).mp h)
theorem let_rng {c:Nat} (h:isIn LET c=true):97≤c∧c≤122:=(by decide +kernel:∀ c ∈ LET.cps.toList,97≤c∧c≤122) c ((isIn_iff LET c).mp h)
theorem nameB_nm {x:Str} (h:nameB x=true):NmK x:=by
  unfold nameB at h
  simp only [Bool.and_eq_true,decide_eq_true_eq,Bool.not_eq_true'] at h
  obtain ⟨⟨⟨h1,h2⟩,h3⟩,h4⟩:=h
  refine ⟨fun c hc=>let_rng (List.all_eq_true.mp h4 c hc),h1,h2,fun hm=>?_⟩
  rw [in_strs,decide_eq_true hm] at h3
  cases h3
theorem figB_num {x:Str} (h:figB x=true):∃ n:Int,0≤n∧n < 1000000000000∧x=numT n:=by
  unfold figB at h
  simp only [Bool.and_eq_true,decide_eq_true_eq,Bool.not_eq_true',Bool.and_eq_false_iff,decide_eq_false_iff_not] at h
  obtain ⟨⟨⟨h1,h2⟩,h3⟩,h4⟩:=h
  have hc:∀ c ∈ x.cps.toList,48≤c∧c≤57:=fun c hc=>fig_rng (List.all_eq_true.mp h4 c hc)
  have hl:x.cps.toList.length=x.length:=by rw [Array.length_toList]; rfl
  have hz:x.cps.toList.head? ≠ some 48∨x.length - 1=0:=by
    rcases h3 with h3 | h3
    · exact .inr (by omega)
    · refine .inl fun e=>?_
      have:Txt.startswith x "0" = true:=by
        cases q:x.cps.toList with
        | nil=>rw [q] at e; cases e
        | cons a t =>
          rw [q] at e
          cases e
          rw [starts_zero (c:=48) (by rw [q]; rfl)]
          decide +kernel
      rw [this] at h3
      cases h3
  have b:=(dig_back (x.length - 1) x.cps.toList (by omega) hc).2 hz
  refine ⟨(valN x.cps.toList:Nat),Int.natCast_nonneg _,?_,?_⟩
  · have:=valN_lt x.length _ hl hc
    have:=Nat.pow_le_pow_right (n:=10) (by decide) h2
    omega
  · refine str_ext ?_
    have e:=num_cd (valN x.cps.toList)
    unfold cd at e
    rw [e,b]
theorem ends_mid:∀ c:Nat,c < 62→42≤c→isIn ENDS c=false:=by decide +kernel
def PlainC (l:List Nat):Prop:=∀ c ∈ l,isIn ENDS c=false
theorem plainC_let {l:List Nat} (h:∀ c ∈ l,97≤c∧c≤122):PlainC l:=fun c hc=>isIn_ends (h c hc)
theorem plainC_mid {l:List Nat} (h:∀ c ∈ l,42≤c∧c≤61):PlainC l:=fun c hc=>ends_mid c (by have:=h c hc; omega) (h c hc).1
theorem plainC_num {n:Int} (h:0≤n):PlainC (cd (numT n)):=plainC_mid fun c hc=>by have:=num_dig h c hc; omega
theorem end_of {c:Nat} (h:c=32∨c=40∨c=41) (r:List Nat):EndR (c::r):=fun d hd=>by
  cases hd
  rcases h with rfl | rfl | rfl <;> decide +kernel
theorem end_nil:EndR []:=fun d hd=>by cases hd
theorem plain_nm {x:Str} (h:NmK x):figB x=false:=by
  cases e:figB x with
  | false=>rfl
  | true =>
    obtain ⟨n,h0,_,rfl⟩:=figB_num e
    cases q:cd (numT n) with
    | nil=>exact absurd q (num_ne h0)
    | cons c r =>
      have h1:=num_dig h0 c (by rw [q]; exact List.mem_cons_self)
      have h2:=h.1 c (by show c ∈ cd (numT n); rw [q]; exact List.mem_cons_self)
      omega
theorem plain_kept:∀ w ∈ plainW,w ∈ kept:=by decide +kernel
theorem num_notplain {n:Int} (h:0≤n):numT n ∉ plainW:=fun hm=>by
  obtain ⟨_,w1,wl,_⟩:=plain_ok _ hm
  cases e:cd (numT n) with
  | nil=>exact absurd e (num_ne h)
  | cons c r =>
    have h1:=num_dig h c (by rw [e]; exact List.mem_cons_self)
    have h2:=wl c (by show c ∈ cd (numT n); rw [e]; exact List.mem_cons_self)
    omega
inductive WdTm:Str→Tm→Prop
  | plain {x:Str}:x ∈ plainW→WdTm x (.plain x)
  | num {n:Int}:0≤n→n < 1000000000000→WdTm (numT n) (.num n)
  | box {x:Str}:NmK x→WdTm x (.box x)
theorem WdTm.ok {x:Str} {t:Tm} (h:WdTm x t):t.ok∧t.txt=cd x∧t.size=1∧t.depth=1:=by
  cases h with
  | plain h=>exact ⟨h,rfl,rfl,rfl⟩
  | num h0 h1=>exact ⟨⟨h0,h1⟩,rfl,rfl,rfl⟩
  | box h=>exact ⟨h,rfl,rfl,rfl⟩
theorem WdTm.plainC {x:Str} {t:Tm} (h:WdTm x t):PlainC (cd x)∧1≤x.length:=by
  cases h with
  | plain h=>exact ⟨plainC_let (plain_ok x h).2.2.1,(plain_ok x h).2.1⟩
  | num h0 h1=>exact ⟨plainC_num h0,num_len1 h0⟩
  | box h=>exact ⟨plainC_let h.1,h.2.1⟩
noncomputable def wdTm (x:Str):Option Tm:=if x ∈ plainW then some (.plain x) else if h:figB x=true then some (.num (figB_num h).choose) else if nameB x=true then some (.box x) else none
theorem wdTm_spec {x:Str} {t:Tm} (h:wdTm x=some t):WdTm x t:=by
  unfold wdTm at h
  by_cases c1:x ∈ plainW
  · rw [if_pos c1] at h
    cases h
    exact .plain c1
  rw [if_neg c1] at h
  by_cases c2:figB x=true
  · rw [dif_pos c2] at h
    obtain ⟨h0,h1,h2⟩:=(figB_num c2).choose_spec
    generalize (figB_num c2).choose=n at *
    subst h2
    cases h
    exact .num h0 h1
  rw [dif_neg c2] at h
  by_cases c3:nameB x=true
  · rw [if_pos c3] at h
    cases h
    exact .box (nameB_nm c3)
  · rw [if_neg c3] at h
    cases h
theorem WdTm.eq {x:Str} {t:Tm} (h:WdTm x t):wdTm x=some t:=by
  unfold wdTm
  cases h with
  | plain h=>rw [if_pos h]
  | num h0 h1 =>
    have c2:=num_fig h0 h1
    rw [if_neg (num_notplain h0),dif_pos c2]
    obtain ⟨g0,g1,g2⟩:=(figB_num c2).choose_spec
    generalize (figB_num c2).choose=n at *
    have e1:=num_int h0 h1
    rw [g2,num_int g0 g1] at e1
    cases e1
    rfl
  | box h=>rw [if_neg (fun z=>h.2.2.2 (plain_kept _ z)),dif_neg (by rw [plain_nm h]; decide),if_pos (nameB_K h)]
abbrev PT:=Option (Tm × List Nat)
noncomputable def pTW (r:List Nat):PT:=match wdTm (stl (wL r)) with | none=>none | some t=>some (t,wR r)
def pCl (t:Tm) (r:List Nat):PT:=if r.head?=some 41 then some (t,r.tail) else none
def pTB2 (f:List Nat→PT) (wd:Str) (a:Tm) (r2:List Nat):PT:=if wd ∈ askW then pCl (.ask wd a) r2 else if wd ∈ signW then (match f r2 with | none=>none | some (b,r3)=>pCl (.op wd a b) r3) else none
def pTB (f:List Nat→PT) (r:List Nat):PT:=match f (wR r) with | none=>none | some (a,r2)=>pTB2 f (stl (wL r)) a r2
noncomputable def pT:Nat→List Nat→PT
  | 0,_=>none
  | n+1,r=>if r.head?=some 32 then (if r.tail.head?=some 40 then pTB (pT n) r.tail.tail else pTW r.tail) else none
theorem hd_eq {r:List Nat} {c:Nat} (h:r.head?=some c):r=c::r.tail:=by
  cases r with
  | nil=>cases h
  | cons a t=>cases h; rfl
theorem pCl_some {t t':Tm} {r r':List Nat} (h:pCl t r=some (t',r')):t'=t∧r=41::r':=by
  unfold pCl at h
  by_cases c:r.head?=some 41
  · rw [if_pos c] at h
    cases h
    exact ⟨rfl,hd_eq c⟩
  · rw [if_neg c] at h
    cases h
theorem wL_cd (r:List Nat):cd (stl (wL r))++wR r=r:=wLR r
theorem ask_sign:∀ w ∈ signW,w ∉ askW:=fun w h=>(sign_ok w h).2.2
theorem pT_sound:∀ (n:Nat) {r r':List Nat} {t:Tm},pT n r=some (t,r')→t.ok∧t.depth≤n∧r=32::(t.txt++r')
  | 0,r,r',t,h=>by cases h
  | n+1,r,r',t,h=>by
    unfold pT at h
    by_cases c:r.head?=some 32
    rotate_left
    · rw [if_neg c] at h; cases h
    rw [if_pos c] at h
    rw [hd_eq c]
    generalize r.tail=q at h
    by_cases c2:q.head?=some 40
    rotate_left
    · rw [if_neg c2] at h
      unfold pTW at h
      cases e:wdTm (stl (wL q)) with
      | none=>rw [e] at h; cases h
      | some u =>
        rw [e] at h
        cases h
        obtain ⟨h1,h2,_,h4⟩:=(wdTm_spec e).ok
        refine ⟨h1,by omega,?_⟩
        rw [h2,wL_cd]
    rw [if_pos c2] at h
    rw [hd_eq c2]
    generalize q.tail=z at h
    unfold pTB at h
    cases e:pT n (wR z) with
    | none=>rw [e] at h; cases h
    | some u =>
      obtain ⟨a,r2⟩:=u
      rw [e] at h
      obtain ⟨a1,a2,a3⟩:=pT_sound n e
      have ez:=wL_cd z
      rw [a3] at ez
      dsimp only at h
      unfold pTB2 at h
      by_cases c3:stl (wL z) ∈ askW
      · rw [if_pos c3] at h
        obtain ⟨rfl,rfl⟩:=pCl_some h
        refine ⟨⟨c3,a1⟩,Nat.succ_le_succ a2,?_⟩
        refine (congrArg (fun q=>32::40::q) ez.symm).trans ?_
        show _=32::(([40]++(cd (stl (wL z))++([32]++(a.txt++[41]))))++r')
        simp
      rw [if_neg c3] at h
      by_cases c4:stl (wL z) ∈ signW
      · rw [if_pos c4] at h
        cases e2:pT n r2 with
        | none=>rw [e2] at h; cases h
        | some u2 =>
          obtain ⟨b,r3⟩:=u2
          rw [e2] at h
          obtain ⟨b1,b2,b3⟩:=pT_sound n e2
          obtain ⟨rfl,rfl⟩:=pCl_some h
          refine ⟨⟨c4,a1,b1⟩,by show max a.depth b.depth+1≤n+1; omega,?_⟩
          rw [b3] at ez
          refine (congrArg (fun q=>32::40::q) ez.symm).trans ?_
          show _=32::(([40]++(cd (stl (wL z))++([32]++(a.txt++([32]++(b.txt++[41]))))))++r')
          simp
      · rw [if_neg c4] at h
        cases h
theorem wd_no40 {x:List Nat} (h:PlainC x) (h1:x ≠ []) (r:List Nat):(x++r).head? ≠ some 40:=by
  cases x with
  | nil=>exact absurd rfl h1
  | cons c t =>
    intro e
    cases e
    have:=h 40 List.mem_cons_self
    revert this
    decide +kernel
theorem pT_full:∀ (t:Tm) (n:Nat) {r':List Nat},t.ok→t.depth≤n→EndR r'→pT n (32::(t.txt++r'))=some (t,r')
  | t,0,r',ok,dn,er=>by
    have:=t.depth_pos
    omega
  | .num m,n+1,r',ok,dn,er=>pT_wd (WdTm.num ok.1 ok.2) er
  | .box x,n+1,r',ok,dn,er=>pT_wd (WdTm.box ok) er
  | .plain x,n+1,r',ok,dn,er=>pT_wd (WdTm.plain ok) er
  | .ask w a,n+1,r',⟨ok,oka⟩,dn,er=>by
    have h:=pT_full a n (r':=41::r') oka (Nat.le_of_succ_le_succ dn) (end_of (.inr (.inr rfl)) _)
    have e:(Tm.ask w a).txt++r'=40::(cd w++(32::(a.txt++(41::r')))):=by
      show ([40]++(cd w++([32]++(a.txt++[41]))))++r'=_
      simp
    rw [e]
    have w1:=wL_eq (x:=cd w) (r:=32::(a.txt++(41::r'))) (plainC_let (ask_ok w ok).2.2.1) (end_of (.inl rfl) _)
    unfold pT
    rw [List.head?_cons,if_pos rfl,List.tail_cons,List.head?_cons,if_pos rfl,List.tail_cons]
    unfold pTB
    rw [w1.1,w1.2,h]
    show pTB2 _ w a _=_
    unfold pTB2
    rw [if_pos ok]
    rfl
  | .op s a b,n+1,r',⟨ok,oka,okb⟩,dn,er=>by
    have dd:max a.depth b.depth+1≤n+1:=dn
    have h2:=pT_full b n (r':=41::r') okb (by omega) (end_of (.inr (.inr rfl)) _)
    have h:=pT_full a n (r':=32::(b.txt++(41::r'))) oka (by omega) (end_of (.inl rfl) _)
    have e:(Tm.op s a b).txt++r'=40::(cd s++(32::(a.txt++(32::(b.txt++(41::r')))))):=by
      show ([40]++(cd s++([32]++(a.txt++([32]++(b.txt++[41]))))))++r'=_
      simp
    rw [e]
    have w1:=wL_eq (x:=cd s) (r:=32::(a.txt++(32::(b.txt++(41::r'))))) (plainC_mid (sign_ok s ok).2.1) (end_of (.inl rfl) _)
    unfold pT
    rw [List.head?_cons,if_pos rfl,List.tail_cons,List.head?_cons,if_pos rfl,List.tail_cons]
    unfold pTB
    rw [w1.1,w1.2,h]
    show pTB2 _ s a _=_
    unfold pTB2
    rw [if_neg (ask_sign s ok),if_pos ok,h2]
    rfl
where
  pT_wd {x:Str} {t:Tm} {n:Nat} {r':List Nat} (h:WdTm x t) (er:EndR r'):pT (n+1) (32::(t.txt++r'))=some (t,r'):=by
    obtain ⟨pc,x1⟩:=h.plainC
    obtain ⟨_,e,_,_⟩:=h.ok
    have ne:cd x ≠ []:=fun z=>by
      have:=cd_len x
      rw [z] at this
      simp at this
      omega
    rw [e]
    have w1:=wL_eq (x:=cd x) (r:=r') pc er
    unfold pT
    rw [List.head?_cons,if_pos rfl,List.tail_cons,if_neg (wd_no40 pc ne r')]
    unfold pTW
    rw [w1.1,w1.2,show stl (cd x)=x from stl_of _,h.eq]
def woF:List Nat→List Nat→Nat→Option (List (List Nat))
  | [],cur,d=>if d=0 then some [cur] else none
  | c::r,cur,d=>if c=41∧d=0 then none else
      if c=32∧d=0 then (woF r [] 0).map (cur::·) else woF r (cur++[c]) (if c=40 then d+1 else if c=41 then d - 1 else d)
def joC:List (List Nat)→List Nat
  | []=>[] | [a]=>a | a::b::t=>a++32::joC (b::t)
theorem wo_join:∀ (r cur:List Nat) (d:Nat) {ws:List (List Nat)},woF r cur d=some ws→ws ≠ []∧joC ws=cur++r
  | [],cur,d,ws,h=>by
    unfold woF at h
    by_cases c:d=0
    · rw [if_pos c] at h
      cases h
      exact ⟨by simp,by show cur=_; simp⟩
    · rw [if_neg c] at h
      cases h
  | c::r,cur,d,ws,h=>by
    unfold woF at h
    by_cases c1:c=41∧d=0
    · rw [if_pos c1] at h; cases h
    rw [if_neg c1] at h
    by_cases c2:c=32∧d=0
    · rw [if_pos c2] at h
      cases e:woF r [] 0 with
      | none=>rw [e] at h; cases h
      | some us =>
        rw [e] at h
        cases h
        obtain ⟨h1,h2⟩:=wo_join r [] 0 e
        refine ⟨by simp,?_⟩
        obtain ⟨rfl,_⟩:=c2
        match us,h1,h2 with
        | u::us,_,h2 =>
          show cur++32::joC (u::us)=_
          rw [h2]
          rfl
    · rw [if_neg c2] at h
      obtain ⟨h1,h2⟩:=wo_join r _ _ h
      exact ⟨h1,by rw [h2]; simp⟩
theorem plainC_ne3 {c:Nat} (h:isIn ENDS c=false):c ≠ 32∧c ≠ 40∧c ≠ 41:=by
  refine ⟨?_,?_,?_⟩ <;> rintro rfl <;> revert h <;> decide +kernel
theorem wo_plain:∀ (x r cur:List Nat) (d:Nat),PlainC x→woF (x++r) cur d=woF r (cur++x) d
  | [],r,cur,d,_=>by simp
  | c::x,r,cur,d,h=>by
    obtain ⟨h1,h2,h3⟩:=plainC_ne3 (h c List.mem_cons_self)
    rw [List.cons_append,woF,if_neg (fun z=>h3 z.1),if_neg (fun z=>h1 z.1),if_neg h2,if_neg h3,wo_plain x r _ d fun a ha=>h a (List.mem_cons_of_mem _ ha)]
    simp
theorem wo_in {c:Nat} (h:c=32) (r cur:List Nat) (d:Nat):woF (c::r) cur (d+1)=woF r (cur++[c]) (d+1):=by
  subst h
  rw [woF,if_neg (fun z=>by cases z.2),if_neg (fun z=>by cases z.2),if_neg (by decide),if_neg (by decide)]
theorem wo_open (r cur:List Nat) (d:Nat):woF (40::r) cur d=woF r (cur++[40]) (d+1):=by
  rw [woF,if_neg (fun z=>by cases z.1),if_neg (fun z=>by cases z.1),if_pos rfl]
theorem wo_shut (r cur:List Nat) (d:Nat):woF (41::r) cur (d+1)=woF r (cur++[41]) d:=by
  rw [woF,if_neg (fun z=>by cases z.2),if_neg (fun z=>by cases z.1),if_neg (by decide),if_pos rfl]
  rfl
theorem wo_bal:∀ (t:Tm) (r cur:List Nat) (d:Nat),t.ok→woF (t.txt++r) cur d=woF r (cur++t.txt) d
  | .num n,r,cur,d,ok=>wo_plain _ r cur d (plainC_num ok.1)
  | .box x,r,cur,d,ok=>wo_plain _ r cur d (plainC_let ok.1)
  | .plain x,r,cur,d,ok=>wo_plain _ r cur d (plainC_let (plain_ok x ok).2.2.1)
  | .ask w a,r,cur,d,⟨ok,oka⟩=>by
    have e:(Tm.ask w a).txt++r=40::(cd w++(32::(a.txt++(41::r)))):=by
      show ([40]++(cd w++([32]++(a.txt++[41]))))++r=_
      simp
    rw [e,wo_open,wo_plain (cd w) _ _ _ (plainC_let (ask_ok w ok).2.2.1),wo_in rfl,wo_bal a _ _ _ oka,wo_shut]
    congr 1
    show _=cur++([40]++(cd w++([32]++(a.txt++[41]))))
    simp
  | .op s a b,r,cur,d,⟨ok,oka,okb⟩=>by
    have e:(Tm.op s a b).txt++r=40::(cd s++(32::(a.txt++(32::(b.txt++(41::r)))))):=by
      show ([40]++(cd s++([32]++(a.txt++([32]++(b.txt++[41]))))))++r=_
      simp
    rw [e,wo_open,wo_plain (cd s) _ _ _ (plainC_mid (sign_ok s ok).2.1),wo_in rfl,wo_bal a _ _ _ oka,wo_in rfl,wo_bal b _ _ _ okb,wo_shut]
    congr 1
    show _=cur++([40]++(cd s++([32]++(a.txt++([32]++(b.txt++[41]))))))
    simp
def Whole (x:List Nat):Prop:=∀ r cur d,woF (x++r) cur d=woF r (cur++x) d
theorem whole_tm {t:Tm} (h:t.ok):Whole t.txt:=fun r cur d=>wo_bal t r cur d h
theorem whole_plain {x:List Nat} (h:PlainC x):Whole x:=fun r cur d=>wo_plain x r cur d h
theorem wo_last {x:List Nat} (h:Whole x):woF x [] 0=some [x]:=by
  have:=h [] [] 0
  rw [List.append_nil] at this
  rw [this]
  rfl
theorem wo_next {x r:List Nat} (h:Whole x):woF (x++32::r) [] 0=(woF r [] 0).map (x::·):=by
  rw [h,woF,if_neg (fun z=>by cases z.1),if_pos ⟨rfl,rfl⟩]
  rfl
theorem wo_two {x y:List Nat} (h:Whole x) (h2:Whole y):woF (x++32::y) [] 0=some [x,y]:=by rw [wo_next h,wo_last h2]; rfl
theorem wo_three {x y z:List Nat} (h:Whole x) (h2:Whole y) (h3:Whole z):woF (x++32::(y++32::z)) [] 0=some [x,y,z]:=by rw [wo_next h,wo_two h2 h3]; rfl
def wosL (x:List Nat):List (List Nat):=(woF x [] 0).getD [[]]
theorem wosL_some {x:List Nat} {ws:List (List Nat)} (h:woF x [] 0=some ws):wosL x=ws:=by unfold wosL; rw [h]; rfl
theorem wosL_join {x:List Nat} {ws:List (List Nat)} (h:wosL x=ws) (n:2≤ws.length):joC ws=x:=by
  unfold wosL at h
  cases e:woF x [] 0 with
  | none =>
    rw [e] at h
    subst h
    exact absurd n (by decide)
  | some us =>
    rw [e] at h
    obtain ⟨_,h2⟩:=wo_join x [] 0 e
    have:us=ws:=h
    rw [this] at h2
    exact h2
theorem joC_count {c:Nat} (hc:c ≠ 32):∀ ws:List (List Nat),∀ u ∈ ws,u.count c≤(joC ws).count c
  | [],u,h=>by cases h
  | [a],u,h=>by rw [List.mem_singleton.mp h]; exact Nat.le_refl _
  | a::b::t,u,h=>by
    show u.count c≤(a++32::joC (b::t)).count c
    rw [List.count_append,List.count_cons]
    rcases List.mem_cons.mp h with rfl | h
    · omega
    · have:=joC_count hc (b::t) u h
      omega
theorem joC_len:∀ ws:List (List Nat),∀ u ∈ ws,u.length≤(joC ws).length
  | [],u,h=>by cases h
  | [a],u,h=>by rw [List.mem_singleton.mp h]; exact Nat.le_refl _
  | a::b::t,u,h=>by
    show u.length≤(a++32::joC (b::t)).length
    rw [List.length_append,List.length_cons]
    rcases List.mem_cons.mp h with rfl | h
    · omega
    · have:=joC_len (b::t) u h
      omega
theorem wosL_len (x:List Nat):∀ u ∈ wosL x,u.length≤x.length∧∀ c,c ≠ 32→u.count c≤x.count c:=fun u hu=>by
  unfold wosL at hu
  cases e:woF x [] 0 with
  | none =>
    rw [e] at hu
    rw [List.mem_singleton.mp (show u ∈ [[]] from hu)]
    exact ⟨Nat.zero_le _,fun c _=>Nat.zero_le _⟩
  | some us =>
    rw [e] at hu
    obtain ⟨_,h2⟩:=wo_join x [] 0 e
    rw [List.nil_append] at h2
    rw [← h2]
    exact ⟨joC_len us u hu,fun c hc=>joC_count hc us u hu⟩
theorem tm_words {t:Tm} {m:List Nat} (ok:t.ok) (h:t.txt=40::(m++[41])):(∃ w a,t=.ask w a∧wosL m=[cd w,a.txt])∨∃ s a b,t=.op s a b∧wosL m=[cd s,a.txt,b.txt]:=by
  have no:∀ x:Str,PlainC (cd x)→cd x=40::(m++[41])→False:=fun x hx e=>by
    have:=hx 40 (by rw [e]; exact List.mem_cons_self)
    revert this
    decide +kernel
  cases t with
  | num n=>exact (no _ (plainC_num ok.1) h).elim
  | box x=>exact (no _ (plainC_let ok.1) h).elim
  | plain x=>exact (no _ (plainC_let (plain_ok x ok).2.2.1) h).elim
  | ask w a =>
    refine .inl ⟨w,a,rfl,?_⟩
    have e:40::((cd w++32::a.txt)++[41])=40::(m++[41]):=by
      rw [← h]
      show _=[40]++(cd w++([32]++(a.txt++[41])))
      simp
    have e2:=List.append_cancel_right (List.cons.inj e).2
    rw [← e2]
    exact wosL_some (wo_two (whole_plain (plainC_let (ask_ok w ok.1).2.2.1)) (whole_tm ok.2))
  | op s a b =>
    refine .inr ⟨s,a,b,rfl,?_⟩
    have e:40::((cd s++32::(a.txt++32::b.txt))++[41])=40::(m++[41]):=by
      rw [← h]
      show _=[40]++(cd s++([32]++(a.txt++([32]++(b.txt++[41])))))
      simp
    have e2:=List.append_cancel_right (List.cons.inj e).2
    rw [← e2]
    exact wosL_some (wo_three (whole_plain (plainC_mid (sign_ok s ok.1).2.1)) (whole_tm ok.2.1) (whole_tm ok.2.2))
theorem words_ask {m:List Nat} {w:Str} {a:Tm} (h:wosL m=[cd w,a.txt]):(Tm.ask w a).txt=40::(m++[41]):=by
  have:=wosL_join h (by show 2≤2; decide)
  rw [← this]
  show [40]++(cd w++([32]++(a.txt++[41])))=40::((cd w++32::a.txt)++[41])
  simp
theorem words_op {m:List Nat} {s:Str} {a b:Tm} (h:wosL m=[cd s,a.txt,b.txt]):(Tm.op s a b).txt=40::(m++[41]):=by
  have:=wosL_join h (by show 2≤3; decide)
  rw [← this]
  show [40]++(cd s++([32]++(a.txt++([32]++(b.txt++[41])))))=40::((cd s++32::(a.txt++32::b.txt))++[41])
  simp
def Hr.wd:Hr→Str
  | .fin => "end" | .go _ => "go" | .iff _ _ => "if" | .set _ _ => "set" | .say _ => "say"
def Hr.rest:Hr→List Nat
  | .fin=>[] | .go n=>[32]++cd (numT n) | .iff t n=>[32]++(t.txt++([32]++cd (numT n))) | .set x t=>[32]++(cd x++([32]++t.txt)) | .say t=>[32]++t.txt
theorem Hr.codes (r:Hr):r.str.cps.toList=cd r.wd++r.rest:=by
  cases r with
  | fin=>decide +kernel
  | go n =>
    rw [show (Hr.go n).str=(("go" : Str)++(" " : Str))++numT n from rfl,cat_list,cat_list,lit_sp]
    show (cd "go" ++ [32])++cd (numT n)=cd "go" ++ ([32]++cd (numT n))
    simp
  | iff t n =>
    rw [show (Hr.iff t n).str=(((("if" : Str)++(" " : Str))++t.str)++(" " : Str))++numT n from rfl]
    simp only [cat_list,lit_sp]
    show (((cd "if" ++ [32])++t.txt)++[32])++cd (numT n)=cd "if" ++ ([32]++(t.txt++([32]++cd (numT n))))
    simp
  | set x t =>
    rw [show (Hr.set x t).str=(((("set" : Str)++(" " : Str))++x)++(" " : Str))++t.str from rfl]
    simp only [cat_list,lit_sp]
    show (((cd "set" ++ [32])++cd x)++[32])++t.txt=cd "set" ++ ([32]++(cd x++([32]++t.txt)))
    simp
  | say t =>
    rw [show (Hr.say t).str=(("say" : Str)++(" " : Str))++t.str from rfl,cat_list,cat_list,lit_sp]
    show (cd "say" ++ [32])++t.txt=cd "say" ++ ([32]++t.txt)
    simp
theorem iteNT {c A B:Prop} [Decidable c] (hc:c) (h:B):if (!decide c)=true then A else B:=by
  rw [decide_eq_true hc]
  exact iteF h
theorem five_ok:∀ x ∈ (["end", "go", "if", "set", "say"]:List Str),∀ c ∈ x.cps.toList,97≤c∧c≤122:=by decide +kernel
theorem Hr.wd_ok (r:Hr):PlainC (cd r.wd):=by
  cases r with
  | fin=>exact plainC_let (five_ok "end" (by decide +kernel))
  | go n=>exact plainC_let (five_ok "go" (by decide +kernel))
  | iff t n=>exact plainC_let (five_ok "if" (by decide +kernel))
  | set x t=>exact plainC_let (five_ok "set" (by decide +kernel))
  | say t=>exact plainC_let (five_ok "say" (by decide +kernel))
theorem Hr.rest_end (r:Hr):EndR r.rest:=by
  cases r with
  | fin=>exact end_nil
  | go n=>exact end_of (.inl rfl) _
  | iff t n=>exact end_of (.inl rfl) _
  | set x t=>exact end_of (.inl rfl) _
  | say t=>exact end_of (.inl rfl) _
theorem hr_wd {x:Str} {h:Hr} (e:x=h.str):stl (wL (cd x))=h.wd∧wR (cd x)=h.rest:=by
  have c:cd x=cd h.wd++h.rest:=by rw [e]; exact h.codes
  have q:=wL_eq (x:=cd h.wd) h.wd_ok h.rest_end
  rw [c,q.1,q.2]
  exact ⟨stl_of _,rfl⟩
theorem hr_str {x:Str} {h:Hr} (e:stl (wL (cd x))=h.wd) (e2:wR (cd x)=h.rest):x=h.str:=by
  refine str_ext ?_
  have q:=wL_cd (cd x)
  rw [e,e2] at q
  rw [h.codes]
  exact q.symm
theorem uniq {y z r s:List Nat} (hy:PlainC y) (hz:PlainC z) (hr:EndR r) (hs:EndR s) (h:y++r=z++s):y=z∧r=s:=by
  have a:=wL_eq (x:=y) hy hr
  have b:=wL_eq (x:=z) hz hs
  rw [h] at a
  exact ⟨a.1.symm.trans b.1,a.2.symm.trans b.2⟩
section
variable {x:Str} {h:Hr}
theorem hs_set (w:stl (wL (cd x)) = "set") (ok:h.ok 20) (e:x=h.str):∃ (y:Str) (t:Tm),NmK y∧t.fit 20∧wR (cd x)=32::(cd y++32::t.txt):=by
  obtain ⟨e1,e2⟩:=hr_wd e
  rw [w] at e1
  cases h with
  | set y t=>exact ⟨y,t,ok.1,ok.2,e2⟩
  | _=>exact absurd e1 (show ¬ _ from by simp only [Hr.wd]; decide +kernel)
theorem hs_say (w:stl (wL (cd x)) = "say") (ok:h.ok 20) (e:x=h.str):∃ t:Tm,t.fit 20∧wR (cd x)=32::t.txt:=by
  obtain ⟨e1,e2⟩:=hr_wd e
  rw [w] at e1
  cases h with
  | say t=>exact ⟨t,ok,e2⟩
  | _=>exact absurd e1 (show ¬ _ from by simp only [Hr.wd]; decide +kernel)
theorem hs_iff (w:stl (wL (cd x)) = "if") (ok:h.ok 20) (e:x=h.str):∃ (t:Tm) (i:Int),t.fit 20∧0≤i∧i < 1000000000000∧wR (cd x)=32::(t.txt++32::cd (numT i)):=by
  obtain ⟨e1,e2⟩:=hr_wd e
  rw [w] at e1
  cases h with
  | iff t i=>exact ⟨t,i,ok.1,ok.2.1,ok.2.2,e2⟩
  | _=>exact absurd e1 (show ¬ _ from by simp only [Hr.wd]; decide +kernel)
theorem hs_go (w:stl (wL (cd x)) = "go") (ok:h.ok 20) (e:x=h.str):∃ i:Int,0≤i∧i < 1000000000000∧wR (cd x)=32::cd (numT i):=by
  obtain ⟨e1,e2⟩:=hr_wd e
  rw [w] at e1
  cases h with
  | go i=>exact ⟨i,ok.1,ok.2,e2⟩
  | _=>exact absurd e1 (show ¬ _ from by simp only [Hr.wd]; decide +kernel)
theorem hs_fin (w:stl (wL (cd x)) = "end") (e:x=h.str):wR (cd x)=[]:=by
  obtain ⟨e1,e2⟩:=hr_wd e
  rw [w] at e1
  cases h with
  | fin=>exact e2
  | _=>exact absurd e1 (show ¬ _ from by simp only [Hr.wd]; decide +kernel)
theorem hs_no (w1:stl (wL (cd x)) ≠ "set") (w2:stl (wL (cd x)) ≠ "say") (w3:stl (wL (cd x)) ≠ "if") (w4:stl (wL (cd x)) ≠ "go") (w5:stl (wL (cd x)) ≠ "end"):x ≠ h.str:=fun e=>by
  obtain ⟨e1,_⟩:=hr_wd e
  cases h with
  | fin=>exact w5 e1
  | go i=>exact w4 e1
  | iff t i=>exact w3 e1
  | set y t=>exact w1 e1
  | say t=>exact w2 e1
end
theorem pT_is {t:Tm} {r r':List Nat} (f:t.fit 20) (e:r=32::(t.txt++r')) (er:EndR r'):pT 8 r=some (t,r'):=by
  rw [e]
  exact pT_full t 8 f.1 f.2.2 er
theorem sl_neg_hi (x:Str) (l:Option Int) (h:1≤x.length):Txt.slice x l (some (-1))=Txt.slice x l (some ((x.length - 1:Nat):Int)):=by
  have e:Builtin.Str.strSliceIndices l (some (-1)) 1 x.length=Builtin.Str.strSliceIndices l (some ((x.length - 1:Nat):Int)) 1 x.length:=by
    have h1:¬ (((x.length - 1:Nat):Int) < 0):=by omega
    have h2:(-1:Int)+(x.length:Int)=((x.length - 1:Nat):Int):=by omega
    simp [Builtin.Str.strSliceIndices,h1,h2]
  unfold Txt.slice
  rw [e]
theorem sl_neg_lo (x:Str) (u:Option Int) (h:1≤x.length):Txt.slice x (some (-1)) u=Txt.slice x (some ((x.length - 1:Nat):Int)) u:=by
  have e:Builtin.Str.strSliceIndices (some (-1)) u 1 x.length=Builtin.Str.strSliceIndices (some ((x.length - 1:Nat):Int)) u 1 x.length:=by
    have h1:¬ (((x.length - 1:Nat):Int) < 0):=by omega
    have h2:(-1:Int)+(x.length:Int)=((x.length - 1:Nat):Int):=by omega
    simp [Builtin.Str.strSliceIndices,h1,h2]
  unfold Txt.slice
  rw [e]
theorem len_cd (x:Str):(cd x).length=x.length:=cd_len x
theorem sl_mid {x:Str} {m:List Nat} {a b:Nat} (h:cd x=a::(m++[b])):Txt.slice x (some 1) (some (-1))=stl m:=by
  have hl:=len_cd x
  rw [h] at hl
  simp only [List.length_cons,List.length_append,List.length_nil] at hl
  rw [sl_neg_hi x _ (by omega)]
  have e:Txt.slice x (some 1) (some ((x.length - 1:Nat):Int))=_:=StrLaws.sliceText_nat x (a:=1) (b:=x.length - 1) (by omega) (by omega)
  rw [e]
  refine str_ext ?_
  show ((cd x).drop 1).take (x.length - 1 - 1)=m
  rw [h,List.drop_succ_cons,List.drop_zero,show x.length - 1 - 1=m.length by omega,List.take_left]
theorem sl_fst (x:Str) (h:1≤x.length):cd (Txt.slice x none (some 1))=(cd x).take 1:=by
  have e:Txt.slice x none (some 1)=_:=StrLaws.sliceText_to (x:=x) (j:=1) ⟨by decide,by have:=len_cd x; unfold cd at this; omega⟩
  rw [e]
  show ((cd x).drop 0).take 1=_
  rw [List.drop_zero]
theorem sl_end (x:Str) (h:1≤x.length):cd (Txt.slice x (some (-1)) none)=(cd x).drop (x.length - 1):=by
  have hl:=len_cd x
  unfold cd at hl
  rw [sl_neg_lo x _ h]
  have e:Txt.slice x (some ((x.length - 1:Nat):Int)) none=_:=StrLaws.sliceText_from (x:=x) (i:=((x.length - 1:Nat):Int)) ⟨by omega,by omega⟩
  rw [e]
  show ((cd x).drop (x.length - 1)).take ((x.cps.toList.length:Int) - ((x.length - 1:Nat):Int)).toNat=_
  rw [List.take_of_length_le]
  rw [List.length_drop,len_cd]
  omega
theorem sl_empty:Txt.slice ("" : Str) none (some 1) ≠ "(" := by decide +kernel
theorem in_br {x:Str} (h1:Txt.slice x none (some 1) = "(") (h2:Txt.slice x (some (-1)) none = ")"):∃ m,cd x=40::(m++[41]):=by
  have l1:1≤x.length:=by
    apply Nat.pos_of_ne_zero
    intro z
    have:x = "" := str_ext (by
      have:x.cps.toList.length=0:=by rw [Array.length_toList]; exact z
      rw [List.length_eq_zero_iff.mp this]
      decide +kernel)
    rw [this] at h1
    exact sl_empty h1
  have e1:=sl_fst x l1
  have e2:=sl_end x l1
  rw [h1,show cd ("(" : Str)=[40] from lit_po] at e1
  rw [h2,show cd (")" : Str)=[41] from lit_pc] at e2
  have hl:=len_cd x
  generalize cd x=c at *
  cases c with
  | nil=>cases e1
  | cons a t =>
    have ha:a=40:=by simpa using e1.symm
    subst ha
    rw [List.length_cons] at hl
    rw [show x.length - 1=t.length by omega] at e2
    cases t with
    | nil=>cases e2
    | cons b r =>
      rw [List.length_cons,List.drop_succ_cons] at e2
      have:=List.take_append_drop r.length (b::r)
      rw [← e2] at this
      exact ⟨(b::r).take r.length,by rw [this]⟩
theorem br_sl {x:Str} {m:List Nat} (h:cd x=40::(m++[41])):Txt.slice x none (some 1) = "(" ∧ Txt.slice x (some (-1)) none = ")" := by
  have hl:=len_cd x
  rw [h] at hl
  simp only [List.length_cons,List.length_append,List.length_nil] at hl
  refine ⟨str_ext ?_,str_ext ?_⟩
  · rw [lit_po]
    show cd _=_
    rw [sl_fst x (by omega),h]
    rfl
  · rw [lit_pc]
    show cd _=_
    rw [sl_end x (by omega),h,show x.length - 1=m.length+1 by omega,List.drop_succ_cons,List.drop_left]
theorem Tm.size_len:∀ t:Tm,t.ok→t.size≤t.txt.length
  | .num n,h=>by
    have:=num_len1 h.1
    show 1≤(cd (numT n)).length
    rw [cd_len]
    exact this
  | .box x,h=>by
    show 1≤(cd x).length
    rw [cd_len]
    exact h.2.1
  | .plain w,h=>by
    show 1≤(cd w).length
    rw [cd_len]
    exact (plain_ok w h).2.1
  | .ask w a,⟨h,h1⟩=>by
    have:=Tm.size_len a h1
    show a.size+1≤([40]++(cd w++([32]++(a.txt++[41])))).length
    simp only [List.length_append,List.length_cons,List.length_nil]
    omega
  | .op o a b,⟨h,h1,h2⟩=>by
    have e1:=Tm.size_len a h1
    have e2:=Tm.size_len b h2
    show a.size+b.size+1≤([40]++(cd o++([32]++(a.txt++([32]++(b.txt++[41])))))).length
    simp only [List.length_append,List.length_cons,List.length_nil]
    omega
theorem wosL_ne (x:List Nat):wosL x ≠ []:=by
  unfold wosL
  cases e:woF x [] 0 with
  | none=>simp
  | some us=>exact (wo_join x [] 0 e).1
theorem askW_sign:∀ w ∈ askW,w ∉ signW:=by decide +kernel
def TmOf (x:Str):Option Tm→Prop
  | none=>∀ t:Tm,t.ok→x ≠ t.str
  | some t=>t.ok∧x=t.str
theorem tmOf_wd {x:Str} {t:Tm} (h:WdTm x t):TmOf x (some t):=⟨h.ok.1,str_ext (by
  show cd x=t.txt
  exact h.ok.2.1.symm)⟩
abbrev s_AskError:Stmt:=inClass (top 1) 0
abbrev s_NoText:Stmt:=inClass (top 2) 0
def FmOk (v:V):Prop:=(∃ i:Int,v=.int i∧0≤i∧i < 1000000000000)∨(∃ y:Str,v=.str y∧y.length≤20)∨v=.non
theorem FmOk.fm {v:V} (h:FmOk v):∃ y,FmV v y∧y.length≤60:=by
  rcases h with ⟨i,rfl,h0,h1⟩ | ⟨y,rfl,hy⟩ | rfl
  · exact ⟨_,.inl ⟨i,rfl,log_small h0 h1,rfl⟩,Nat.le_trans (PyProof.Rows.toString_length_le h0 (k:=12) (by decide) (by show i < 10 ^ 12; omega)) (by decide)⟩
  · exact ⟨y,.inr (.inl rfl),by omega⟩
  · exact ⟨_,.inr (.inr ⟨rfl,rfl⟩),by decide +kernel⟩
theorem fl1 {a:Str} (ha:a.length≤60):(Str.empty++a).length≤sizeLine:=by
  rw [Str.length_append]
  have:Str.empty.length=0:=rfl
  exact small (by omega)
theorem fl2 {a b:Str} (ha:a.length≤60) (hb:b.length≤60):((Str.empty++a)++b).length≤sizeLine:=by
  rw [Str.length_append,Str.length_append]
  have:Str.empty.length=0:=rfl
  exact small (by omega)
def spAI (K:PySem.W.Frag):Sp:=fun vs H Q _=>∃ (e C f:Addr) (x:V),vs=[.ref e,x]∧H e=some (ExcN C e)∧MkX K C f∧Q .non H
theorem sc_AskError:FnScope ["self", "words"] ["self", "words"] (defScope s_AskError):=⟨rfl,rfl,rfl,by decide +kernel,rfl,by decide +kernel,by decide +kernel⟩
theorem ok_AskError {f:Addr} {fd:FuncData} {dV:Value} (F:FunD K "__init__" "AskError.__init__" s_AskError f fd dV) (hV:mg "ValueError" = none):FnOk P w K mg base CX0 1 f fd ["self", "words"] (spAI K):=by
  refine F.ok sc_AskError (fun vs H Q E h=>?_) (fun cdv A outer s H vs Q E hr h=>?_)
  · obtain ⟨e,C,f,x,rfl,_⟩:=h
    rfl
  obtain ⟨e,C,f,x,rfl,he,M,q⟩:=h
  refine ⟨_,pss_one (ps_expr (pe_valinit rfl hV (pa_cons (pv 0) (pa_cons (pv 1) pa_nil)))),?_⟩
  exact ⟨_,rfl,_,rfl,e,C,f,x,rfl,he,M,q⟩
def spXI (C:Addr) (a:Str):Sp:=fun vs H Q _=>∃ (e:Addr) (v:V),vs=[.ref e,v]∧H e=some (ExcN C e)∧FmOk v∧∀ dx,H dx=none→dx ≠ e→Q .non (upd (upd H dx (.xd [(a,v)])) e (ExcD C e dx))
structure AskC (P:Program) (w:World) (K:PySem.W.Frag) (mg:Str→Option Value) (base:Heap) (CA fA:Addr) (fdA:FuncData):Prop where
  g:mg "AskError" = some (.ref CA)
  c:ClsFn K CA fA "__init__"
  ok:FnOk P w K mg base CX0 1 fA fdA ["self", "words"] (spAI K)
  b:Binds K fdA ["self", "words"] []
section
variable {CA fA:Addr} {fdA:FuncData}
theorem sc_NoText:FnScope ["self", "row"] ["self", "row"] (defScope s_NoText):=⟨rfl,rfl,rfl,by decide +kernel,rfl,by decide +kernel,by decide +kernel⟩
theorem ok_NoText {f C:Addr} {fd:FuncData} {dV:Value} (F:FunD K "__init__" "NoText.__init__" s_NoText f fd dV) (T:AskC P w K mg base CA fA fdA) (M:MkX K C f) (c:ClsX K C CA) (na:NoAttr K C "row"):FnOk P w K mg base CX0 2 f fd ["self", "row"] (spXI C "row"):=by
  refine F.ok sc_NoText (fun vs H Q E h=>?_) (fun cdv A outer s H vs Q E hr h=>?_)
  · obtain ⟨e,v,rfl,_⟩:=h
    rfl
  obtain ⟨e,v,rfl,he,hv,q⟩:=h
  refine ⟨_,pss_cons (ps_expr (pe_clscall rfl T.g T.c T.ok hr T.b .nil pass0 (pa_cons (pv 0) (pa_cons (pe_fstr (pj_cons pe_str (pj_cons (pe_fmtV (pv 1)) pj_nil))) pa_nil)))) (pss_one (ps_fldX (pv 0) (pv 1) rfl)),?_⟩
  obtain ⟨y,fy,hy⟩:=hv.fm
  refine ⟨_,rfl,_,rfl,fl1 (by decide +kernel),_,rfl,y,fy,Nat.le_trans hy (by decide),y,rfl,fl2 (by decide +kernel) hy,fl2 (by decide +kernel) hy,?_⟩
  refine ⟨e,C,f,_,rfl,he,M,?_⟩
  exact ⟨_,rfl,_,rfl,e,C,CA,rfl,he,c,na,q⟩
end
structure Mkr (P:Program) (w:World) (K:PySem.W.Frag) (mg:Str→Option Value) (base:Heap) (C:Addr) (a:Str) (f:Addr) (fd:FuncData):Prop where
  made:MkX K C f
  ok:FnOk P w K mg base CX0 2 f fd ["self", a] (spXI C a)
  b:Binds K fd ["self", a] []
  na:NoAttr K C a
theorem ex_made {H:Hp} {e dx C:Addr} {a:Str} {v:V} (h0:H e=none) (h1:upd H e (ExcN C e) dx=none) (h2:dx ≠ e):Same H (upd (upd (upd H e (ExcN C e)) dx (.xd [(a,v)])) e (ExcD C e dx))∧Ex (upd (upd (upd H e (ExcN C e)) dx (.xd [(a,v)])) e (ExcD C e dx)) e C a v:=by
  rw [upd_ne h2] at h1
  refine ⟨fun b o hb=>?_,dx,upd_same,?_⟩
  · rw [upd_ne (ne_of_none hb h0),upd_ne (ne_of_none hb h1),upd_ne (ne_of_none hb h0)]
    exact hb
  · rw [upd_ne h2,upd_same]
theorem mk_sp {H:Hp} {C e:Addr} {a:Str} {v:V} {Q:VK} {E:XK} (hv:FmOk v) (he:H e=none) (h:∀ H2,Same H H2→Ex H2 e C a v→Q .non H2):spXI C a [.ref e,v] (upd H e (ExcN C e)) Q E:=by
  refine ⟨e,v,rfl,upd_same,hv,fun dx h1 h2=>?_⟩
  obtain ⟨s,x⟩:=ex_made (a:=a) (v:=v) he h1 h2
  exact h _ s x
theorem lk1 (f:Str) (v:V):([(f,v)]:List (Str × V)).lookup f=some v:=by simp [List.lookup]
def RaisesRow (C:Addr) (k:Int) (H:Hp) (E:XK):Prop:=∀ (e dx:Addr) (H':Hp),Same H H'→H' e=some (ExcT C e dx)→H' dx=some (.xd [("row", .int k)])→E (.ref e) (some dx) H'
theorem raise_row {C CA:Addr} {K:PySem.W.Frag} {k:Int} {H H1:Hp} {E:XK} {e:Addr} {G:Hp} (c:ClsX K C CA) (r:RaisesRow C k H E) (S:Same H H1) (ze:H1 e=none) (s4:Same H1 G) (x4:Ex G e C "row" (.int k)) :
    ∃ e' C' CA dx,V.ref e=.ref e'∧G e'=some (ExcD C' e' dx)∧ClsX K C' CA∧E (.ref e') (some dx) (upd G e' (ExcT C' e' dx)):=by
  obtain ⟨dx,e1,e2⟩:=x4
  have hde:dx ≠ e:=fun z=>by
    rw [z,e1] at e2
    cases e2
  refine ⟨e,C,CA,dx,rfl,e1,c,r e dx _ (fun b o hb=>?_) upd_same (by rw [upd_ne hde]; exact e2)⟩
  have hb3:=S b o hb
  rw [upd_ne (ne_of_none hb3 ze)]
  exact s4 _ _ hb3
theorem RaisesRow.same {C:Addr} {k:Int} {H H1:Hp} {E:XK} (r:RaisesRow C k H E) (S:Same H H1):RaisesRow C k H1 E:=fun e dx H' s=>r e dx H' (S.trans s)
abbrev s_scan:Stmt:=top 14
abbrev s_sinit:Stmt:=inClass s_scan 0
abbrev s_senter:Stmt:=inClass s_scan 1
abbrev s_ssees:Stmt:=inClass s_scan 2
abbrev s_stake:Stmt:=inClass s_scan 3
abbrev s_sword:Stmt:=inClass s_scan 4
abbrev s_sfinish:Stmt:=inClass s_scan 5
structure STxt (K:PySem.W.Frag) (mg:Str→Option Value) (C:Addr):Prop where
  cl:Cls K C
  nX:NoAttr K C "text"
  nR:NoAttr K C "row"
  nW:NoAttr K C "most_within"
  nP:NoAttr K C "most_parts"
  nL:NoAttr K C "place"
  nN:NoAttr K C "parts"
  mgC:mg "Scan" = some (.ref C)
theorem putF_has (f:Str) (v:V):∀ (fs:List (Str × V)) (u:V),fs.lookup f=some u→(putF f v fs).length=fs.length
  | [],u,h=>by cases h
  | (g,x)::r,u,h=>by
    unfold putF
    by_cases e:g=f
    · rw [if_pos e]
      rfl
    · rw [if_neg e]
      have e':(f == g)=false:=by simpa using fun z=>e z.symm
      simp only [List.lookup,e'] at h
      rw [List.length_cons,List.length_cons,putF_has f v r u h]
theorem putF_len (f:Str) (v:V):∀ fs:List (Str × V),(putF f v fs).length≤fs.length+1
  | []=>Nat.le_refl _
  | (g,u)::r=>by
    have:=putF_len f v r
    unfold putF
    split
    · simp
    · simp only [List.length_cons]
      omega
structure SF (T:Str) (k:Int) (p n:Nat) (fs:List (Str × V)):Prop where
  text:fs.lookup ("text" : Str)=some (.str T)
  mw:fs.lookup ("most_within" : Str)=some (.int 8)
  mp:fs.lookup ("most_parts" : Str)=some (.int 20)
  place:fs.lookup ("place" : Str)=some (.int (p:Int))
  parts:fs.lookup ("parts" : Str)=some (.int (n:Int))
  no1:fs.lookup ("enter" : Str)=none
  no2:fs.lookup ("sees" : Str)=none
  no3:fs.lookup ("take" : Str)=none
  no4:fs.lookup ("word" : Str)=none
  no5:fs.lookup ("finish" : Str)=none
  len:fs.length≤6
  row:fs.lookup ("row" : Str)=some (.int k)
theorem SF.toPlace {T:Str} {k:Int} {p n:Nat} {fs:List (Str × V)} (h:SF T k p n fs) (p':Nat)   : SF T k p' n (putF "place" (.int (p':Int)) fs):=by
  refine ⟨?_,?_,?_,?_,?_,?_,?_,?_,?_,?_,?_,?_⟩
  · rw [lookup_putF,if_neg (by decide +kernel)]; exact h.text
  · rw [lookup_putF,if_neg (by decide +kernel)]; exact h.mw
  · rw [lookup_putF,if_neg (by decide +kernel)]; exact h.mp
  · rw [lookup_putF,if_pos rfl]
  · rw [lookup_putF,if_neg (by decide +kernel)]; exact h.parts
  · rw [lookup_putF,if_neg (by decide +kernel)]; exact h.no1
  · rw [lookup_putF,if_neg (by decide +kernel)]; exact h.no2
  · rw [lookup_putF,if_neg (by decide +kernel)]; exact h.no3
  · rw [lookup_putF,if_neg (by decide +kernel)]; exact h.no4
  · rw [lookup_putF,if_neg (by decide +kernel)]; exact h.no5
  · rw [putF_has _ _ _ _ h.place]; exact h.len
  · rw [lookup_putF,if_neg (by decide +kernel)]; exact h.row
theorem SF.toParts {T:Str} {k:Int} {p n:Nat} {fs:List (Str × V)} (h:SF T k p n fs) (n':Nat)  : SF T k p n' (putF "parts" (.int (n':Int)) fs):=by
  refine ⟨?_,?_,?_,?_,?_,?_,?_,?_,?_,?_,?_,?_⟩
  · rw [lookup_putF,if_neg (by decide +kernel)]; exact h.text
  · rw [lookup_putF,if_neg (by decide +kernel)]; exact h.mw
  · rw [lookup_putF,if_neg (by decide +kernel)]; exact h.mp
  · rw [lookup_putF,if_neg (by decide +kernel)]; exact h.place
  · rw [lookup_putF,if_pos rfl]
  · rw [lookup_putF,if_neg (by decide +kernel)]; exact h.no1
  · rw [lookup_putF,if_neg (by decide +kernel)]; exact h.no2
  · rw [lookup_putF,if_neg (by decide +kernel)]; exact h.no3
  · rw [lookup_putF,if_neg (by decide +kernel)]; exact h.no4
  · rw [lookup_putF,if_neg (by decide +kernel)]; exact h.no5
  · rw [putF_has _ _ _ _ h.parts]; exact h.len
  · rw [lookup_putF,if_neg (by decide +kernel)]; exact h.row
def sfs (T:Str) (k:Int):List (Str × V):=putF "parts" (.int 0) (putF "place" (.int 0) (putF "most_parts" (.int 20) (putF "most_within" (.int 8) (putF "row" (.int k) (putF "text" (.str T) [])))))
theorem sfs_ok (T:Str) (k:Int):SF T k 0 0 (sfs T k):=by
  have no:∀ m:Str,m ≠ "parts" → m ≠ "place" → m ≠ "most_parts" → m ≠ "most_within" → m ≠ "row" → m ≠ "text" → (sfs T k).lookup m=none:=fun m h1 h2 h3 h4 h5 h6=>by
    unfold sfs
    rw [lookup_putF,if_neg h1,lookup_putF,if_neg h2,lookup_putF,if_neg h3,lookup_putF,if_neg h4,lookup_putF,if_neg h5,lookup_putF,if_neg h6]
    rfl
  refine ⟨?_,?_,?_,?_,?_,no _ (by decide +kernel) (by decide +kernel) (by decide +kernel) (by decide +kernel) (by decide +kernel) (by decide +kernel),no _ (by decide +kernel) (by decide +kernel) (by decide +kernel) (by decide +kernel) (by decide +kernel) (by decide +kernel),no _ (by decide +kernel) (by decide +kernel) (by decide +kernel) (by decide +kernel) (by decide +kernel) (by decide +kernel),no _ (by decide +kernel) (by decide +kernel) (by decide +kernel) (by decide +kernel) (by decide +kernel) (by decide +kernel),no _ (by decide +kernel) (by decide +kernel) (by decide +kernel) (by decide +kernel) (by decide +kernel) (by decide +kernel),?_,?_⟩
  · unfold sfs
    rw [lookup_putF,if_neg (by decide +kernel),lookup_putF,if_neg (by decide +kernel),lookup_putF,if_neg (by decide +kernel),lookup_putF,if_neg (by decide +kernel),lookup_putF,if_neg (by decide +kernel),lookup_putF,if_pos rfl]
  · unfold sfs
    rw [lookup_putF,if_neg (by decide +kernel),lookup_putF,if_neg (by decide +kernel),lookup_putF,if_neg (by decide +kernel),lookup_putF,if_pos rfl]
  · unfold sfs
    rw [lookup_putF,if_neg (by decide +kernel),lookup_putF,if_neg (by decide +kernel),lookup_putF,if_pos rfl]
  · unfold sfs
    rw [lookup_putF,if_neg (by decide +kernel),lookup_putF,if_pos rfl]
    rfl
  · unfold sfs
    rw [lookup_putF,if_pos rfl]
    rfl
  · unfold sfs
    refine Nat.le_trans (putF_len _ _ _) (Nat.succ_le_succ (Nat.le_trans (putF_len _ _ _) (Nat.succ_le_succ (Nat.le_trans (putF_len _ _ _) (Nat.succ_le_succ (Nat.le_trans (putF_len _ _ _) (Nat.succ_le_succ (Nat.le_trans (putF_len _ _ _) (Nat.succ_le_succ (putF_len _ _ _))))))))))
  · unfold sfs
    rw [lookup_putF,if_neg (by decide +kernel),lookup_putF,if_neg (by decide +kernel),lookup_putF,if_neg (by decide +kernel),lookup_putF,if_neg (by decide +kernel),lookup_putF,if_pos rfl]
def ScanAt (C:Addr) (H:Hp) (sc:Addr) (T:Str) (k:Int) (p n:Nat):Prop:=∃ dx fs,H sc=some (.ins C dx fs)∧SF T k p n fs
def spSInit (C:Addr):Sp:=fun vs H Q _=>∃ (g dx:Addr) (T:Str) (k:Int),vs=[.ref g,.str T,.int k,.int 8,.int 20]∧H g=some (.ins C dx [])∧∀ H',ScanAt C H' g T k 0 0→SameBut g H H'→Q .non H'
theorem sc_sinit:FnScope ["self", "text", "row", "most_within", "most_parts"] ["self", "text", "row", "most_within", "most_parts"] (defScope s_sinit):=⟨rfl,rfl,rfl,by decide +kernel,rfl,by decide +kernel,by decide +kernel⟩
theorem ok_sinit {f C:Addr} {fd:FuncData} (F:Fun K "__init__" "Scan.__init__" s_sinit f fd) (T:STxt K mg C):FnOk P w K mg base CX0 1 f fd ["self", "text", "row", "most_within", "most_parts"] (spSInit C):=by
  refine F.ok sc_sinit (fun vs H Q E h=>?_) (fun cdv A outer s H vs Q E hr h=>?_)
  · obtain ⟨g,dx,Tx,kr,rfl,_⟩:=h
    rfl
  obtain ⟨g,dx,Tx,kr,rfl,hg,q⟩:=h
  refine ⟨_,(pss_cons (ps_fld (pv 0) (pv 1) rfl) (pss_cons (ps_fld (pv 0) (pv 2) rfl) (pss_cons (ps_fld (pv 0) (pv 3) rfl) (pss_cons (ps_fld (pv 0) (pv 4) rfl) (pss_cons (ps_fld (pv 0) pe_int rfl) (pss_one (ps_fld (pv 0) pe_int rfl))))))),?_⟩
  refine ⟨_,rfl,_,rfl,g,C,dx,[],rfl,hg,T.cl,T.nX,(by show 0 < 1000; decide),?_⟩
  refine ⟨_,rfl,_,rfl,g,C,dx,_,rfl,upd_same,T.cl,T.nR,(Nat.lt_of_le_of_lt (putF_len _ _ _) (by show 1 < 1000; decide)),?_⟩
  refine ⟨_,rfl,_,rfl,g,C,dx,_,rfl,upd_same,T.cl,T.nW,(Nat.lt_of_le_of_lt (putF_len _ _ _) (Nat.lt_of_le_of_lt (Nat.succ_le_succ (putF_len _ _ _)) (by show 2 < 1000; decide))),?_⟩
  refine ⟨_,rfl,_,rfl,g,C,dx,_,rfl,upd_same,T.cl,T.nP,(Nat.lt_of_le_of_lt (putF_len _ _ _) (Nat.lt_of_le_of_lt (Nat.succ_le_succ (Nat.le_trans (putF_len _ _ _) (Nat.succ_le_succ (putF_len _ _ _)))) (by show 3 < 1000; decide))),?_⟩
  refine ⟨_,rfl,g,C,dx,_,rfl,upd_same,T.cl,T.nL,(Nat.lt_of_le_of_lt (putF_len _ _ _) (Nat.lt_of_le_of_lt (Nat.succ_le_succ (Nat.le_trans (putF_len _ _ _) (Nat.succ_le_succ (Nat.le_trans (putF_len _ _ _) (Nat.succ_le_succ (putF_len _ _ _)))))) (by show 4 < 1000; decide))),?_⟩
  refine ⟨_,rfl,g,C,dx,_,rfl,upd_same,T.cl,T.nN,(Nat.lt_of_le_of_lt (putF_len _ _ _) (Nat.lt_of_le_of_lt (Nat.succ_le_succ (Nat.le_trans (putF_len _ _ _) (Nat.succ_le_succ (Nat.le_trans (putF_len _ _ _) (Nat.succ_le_succ (Nat.le_trans (putF_len _ _ _) (Nat.succ_le_succ (putF_len _ _ _)))))))) (by show 5 < 1000; decide))),?_⟩
  exact q _ ⟨dx,sfs Tx kr,upd_same,sfs_ok Tx kr⟩ ((SameBut.upd _).trans ((SameBut.upd _).trans ((SameBut.upd _).trans ((SameBut.upd _).trans ((SameBut.upd _).trans (SameBut.upd _))))))
theorem SF.size {T:Str} {k:Int} {p n:Nat} {fs:List (Str × V)} (h:SF T k p n fs):fs.length < 1000:=Nat.lt_of_le_of_lt h.len (by decide)
theorem fi_nat (n p:Nat):PySem.fromIndex n (p:Int)=p:=by
  unfold PySem.fromIndex
  rw [if_neg (by omega)]
  omega
theorem sub_iff (T u:Str) (p:Nat):Builtin.Str.subAt T u p=decide ((T.cps.toList.drop p).take u.length=u.cps.toList):=by
  unfold Builtin.Str.subAt
  have e:(T.cps.extract p (p+u.length)).toList=(T.cps.toList.drop p).take u.length:=by
    rw [Array.toList_extract,List.extract_eq_drop_take]
    congr 1
    omega
  by_cases c:(T.cps.toList.drop p).take u.length=u.cps.toList
  · rw [decide_eq_true c]
    have:T.cps.extract p (p+u.length)=u.cps:=Array.toList_inj.mp (e.trans c)
    rw [this]
    simp
  · rw [decide_eq_false c]
    have:¬ T.cps.extract p (p+u.length)=u.cps:=fun z=>c (by rw [← e,z])
    simpa using this
theorem len_list (T:Str):T.cps.toList.length=T.length:=by rw [Array.length_toList]; rfl
theorem drop_app {T:Str} {p:Nat} {u v:List Nat} (h:T.cps.toList.drop p=u++v):T.cps.toList.drop (p+u.length)=v:=by
  rw [← List.drop_drop,h,List.drop_left]
def RaisesBut (sc C:Addr) (k:Int) (H:Hp) (E:XK):Prop:=∀ (e dx:Addr) (H':Hp),SameBut sc H H'→H' e=some (ExcT C e dx)→H' dx=some (.xd [("row", .int k)])→E (.ref e) (some dx) H'
theorem RaisesBut.but {sc C:Addr} {k:Int} {H H1:Hp} {E:XK} (r:RaisesBut sc C k H E) (S:SameBut sc H H1):RaisesBut sc C k H1 E:=fun e dx H' s=>r e dx H' (S.trans s)
theorem raise_but {sc C CA:Addr} {K:PySem.W.Frag} {k:Int} {H H1:Hp} {E:XK} {e:Addr} {G:Hp} (c:ClsX K C CA) (r:RaisesBut sc C k H E) (S:SameBut sc H H1) (ze:H1 e=none) (s4:Same H1 G) (x4:Ex G e C "row" (.int k)) :
    ∃ e' C' CA dx,V.ref e=.ref e'∧G e'=some (ExcD C' e' dx)∧ClsX K C' CA∧E (.ref e') (some dx) (upd G e' (ExcT C' e' dx)):=by
  obtain ⟨dx,e1,e2⟩:=x4
  have hde:dx ≠ e:=fun z=>by
    rw [z,e1] at e2
    cases e2
  refine ⟨e,C,CA,dx,rfl,e1,c,r e dx _ (fun b o hn hb=>?_) upd_same (by rw [upd_ne hde]; exact e2)⟩
  have hb3:=S b o hn hb
  rw [upd_ne (ne_of_none hb3 ze)]
  exact s4 _ _ hb3
def KOk (k:Int):Prop:=0≤k∧k≤100000
theorem KOk.fm {k:Int} (h:KOk k):FmOk (.int k):=.inl ⟨_,rfl,h.1,by have:=h.2; omega⟩
theorem ScanAt.same {C:Addr} {H H':Hp} {sc:Addr} {T:Str} {k:Int} {p n:Nat} (S:ScanAt C H sc T k p n) (s:Same H H'):ScanAt C H' sc T k p n:=by
  obtain ⟨dx,fs,h1,h2⟩:=S
  exact ⟨dx,fs,s _ _ h1,h2⟩
theorem keepT_scan {C:Addr} {H H':Hp} {sc:Addr} {T:Str} {k:Int} {p n:Nat} (S:ScanAt C H sc T k p n) (s:SameBut sc H H'):KeepT H H':=fun a xs h=>s a _ (fun z=>by
  obtain ⟨dx,fs,e,_⟩:=S
  rw [z,e] at h
  cases h) h
def dr (T:Str) (p:Nat):List Nat:=T.cps.toList.drop p
section
variable {C CN CA f0:Addr} {fd0:FuncData}
def spEnterR (C CN:Addr):Sp:=fun vs H Q E=>∃ (sc:Addr) (T:Str) (k:Int) (p n:Nat) (wi:Int),vs=[.ref sc,.int wi]∧ScanAt C H sc T k p n∧KOk k∧((wi≤8∧n+1≤20∧∀ H',ScanAt C H' sc T k p (n+1)→SameBut sc H H'→Q .non H')∨(¬ (wi≤8∧n+1≤20)∧RaisesBut sc CN k H E))
theorem sc_senter:FnScope ["self", "within"] ["self", "within"] (defScope s_senter):=⟨rfl,rfl,rfl,by decide +kernel,rfl,by decide +kernel,by decide +kernel⟩
theorem ok_senter {f:Addr} {fd:FuncData} (F:Fun K "enter" "Scan.enter" s_senter f fd) (T:STxt K mg C) (g0:mg "NoText" = some (.ref CN)) (cl:ClsX K CN CA) (M0:Mkr P w K mg base CN "row" f0 fd0):FnOk P w K mg base (CXr P w) 4 f fd ["self", "within"] (spEnterR C CN):=by
  refine F.okX sc_senter (fun vs H Q E h=>?_) (fun cdv A outer s H vs Q E hr h=>?_)
  · obtain ⟨sc,Tx,k,p,n,wi,rfl,_⟩:=h
    rfl
  obtain ⟨sc,Tx,k,p,n,wi,rfl,⟨dx,fs,hs,sf⟩,kk,q⟩:=h
  refine ⟨_,(pss_cons (ps_fld (pv 0) (pe_op op_add (pe_fld (pv 0) rfl) pe_int) rfl)
      (pss_one (ps_if (PW.pt (pw_or (pt_cmpR op_gt (pv 1) (pe_fld (pv 0) rfl) (nomark _)) (pw_or1 (pt_cmpR op_gt (pe_fld (pv 0) rfl) (pe_fld (pv 0) rfl) (nomark _))))) (pss_one (ps_raise (pe_makeX M0.made M0.ok hr rfl g0 M0.b .nil pass0 (pa_cons (pe_fld (pv 0) rfl) pa_nil)))) pss_nil))),?_⟩
  have sf':=sf.toParts (n+1)
  refine ⟨_,rfl,sc,C,dx,fs,_,rfl,hs,T.cl,T.nN,sf.parts,_,_,rfl,rfl,_,rfl,sc,C,dx,fs,rfl,hs,T.cl,T.nN,sf.size,?_⟩
  have hs':upd H sc (.ins C dx (putF "parts" (.int ((n:Int)+1)) fs)) sc=some (.ins C dx (putF "parts" (.int ((n+1:Nat):Int)) fs)):=upd_same
  have S1:SameBut sc H (upd H sc (.ins C dx (putF "parts" (.int ((n:Int)+1)) fs))):=SameBut.upd _
  refine ⟨_,rfl,_,rfl,sc,C,dx,_,_,rfl,hs',T.cl,T.nW,sf'.mw,_,_,rfl,rfl,_,rfl,?_⟩
  by_cases c1:(8:Int) < wi
  · rcases q with ⟨w10,_⟩ | ⟨_,rr⟩
    · omega
    refine iteD c1 (iteT ?_)
    exact ⟨_,rfl,sc,C,dx,_,_,rfl,hs',T.cl,T.nR,sf'.row,(by show 1≤sizeLine; decide),fun e ze=>mk_sp kk.fm ze fun G4 s4 x4=>⟨rfl,raise_but cl rr S1 ze s4 x4⟩⟩
  refine iteDF c1 ?_
  refine ⟨_,rfl,sc,C,dx,_,_,rfl,hs',T.cl,T.nN,sf'.parts,_,rfl,sc,C,dx,_,_,rfl,hs',T.cl,T.nP,sf'.mp,_,_,rfl,rfl,_,rfl,?_⟩
  by_cases c2:(20:Int) < ((n+1:Nat):Int)
  · rcases q with ⟨_,n30,_⟩ | ⟨_,rr⟩
    · omega
    refine iteD c2 ?_
    exact ⟨_,rfl,sc,C,dx,_,_,rfl,hs',T.cl,T.nR,sf'.row,(by show 1≤sizeLine; decide),fun e ze=>mk_sp kk.fm ze fun G4 s4 x4=>⟨rfl,raise_but cl rr S1 ze s4 x4⟩⟩
  refine iteDF c2 ?_
  rcases q with ⟨_,_,q⟩ | ⟨no,_⟩
  · exact q _ ⟨dx,_,hs',sf'⟩ S1
  · exact absurd ⟨by omega,by omega⟩ no
theorem starts_hd {T u:Str} {p c:Nat} (hu:u.cps.toList=[c]) (hp:p≤T.length):startsAt T u (p:Int)=decide ((dr T p).head?=some c):=by
  have ul:u.length=1:=by rw [← len_list,hu]; rfl
  unfold startsAt dr
  rw [fi_nat,sub_iff,ul,hu]
  have L:=len_list T
  cases e:T.cps.toList.drop p with
  | nil =>
    have:T.cps.toList.length≤p:=List.drop_eq_nil_iff.mp e
    simp
  | cons a r =>
    have:p < T.cps.toList.length:=by
      by_cases z:p < T.cps.toList.length
      · exact z
      · rw [List.drop_eq_nil_of_le (by omega)] at e; cases e
    have h1:p+1≤T.length:=by omega
    simp only [List.take_succ_cons,List.take_zero,List.head?_cons]
    by_cases z:a=c
    · subst z; simp; omega
    · have:¬ ([a]:List Nat)=[c]:=fun h=>z (List.cons.inj h).1
      simp [z]
def spSees (C:Addr):Sp:=fun vs H Q _=>∃ (sc:Addr) (T u:Str) (k:Int) (p n:Nat),vs=[.ref sc,.str u]∧ScanAt C H sc T k p n∧Q (.bl (startsAt T u p)) H
theorem sc_ssees:FnScope ["self", "signs"] ["self", "signs"] (defScope s_ssees):=⟨rfl,rfl,rfl,by decide +kernel,rfl,by decide +kernel,by decide +kernel⟩
theorem ok_ssees {f:Addr} {fd:FuncData} (F:Fun K "sees" "Scan.sees" s_ssees f fd) (T:STxt K mg C):FnOk P w K mg base CX0 1 f fd ["self", "signs"] (spSees C):=by
  refine F.ok sc_ssees (fun vs H Q E h=>?_) (fun cdv A outer s H vs Q E hr h=>?_)
  · obtain ⟨sc,Tx,u,k,p,n,rfl,_⟩:=h
    rfl
  obtain ⟨sc,Tx,u,k,p,n,rfl,⟨dx,fs,hs,sf⟩,q⟩:=h
  refine ⟨_,(pss_one (ps_ret (pe_bm PySem.F.plainAttrs_str PySem.F.slot_str_startswith PySem.F.type_str_startswith mt_startsAt (pe_fld (pv 0) rfl) (pa_cons (pv 1) (pa_cons (pe_fld (pv 0) rfl) pa_nil))))),?_⟩
  exact ⟨_,rfl,sc,C,dx,fs,_,rfl,hs,T.cl,T.nX,sf.text,rfl,_,rfl,_,rfl,sc,C,dx,fs,_,rfl,hs,T.cl,T.nL,sf.place,Tx,u,_,rfl,rfl,q⟩
def spTakeR (C CN:Addr):Sp:=fun vs H Q E=>∃ (sc:Addr) (T u:Str) (k:Int) (p n c:Nat),vs=[.ref sc,.str u]∧ScanAt C H sc T k p n∧KOk k∧u.cps.toList=[c]∧p≤T.length∧(((dr T p).head?=some c∧∀ H',ScanAt C H' sc T k (p+1) n→SameBut sc H H'→Q .non H')∨(¬ (dr T p).head?=some c∧RaisesBut sc CN k H E))
theorem sc_stake:FnScope ["self", "signs"] ["self", "signs"] (defScope s_stake):=⟨rfl,rfl,rfl,by decide +kernel,rfl,by decide +kernel,by decide +kernel⟩
theorem ok_stake {f fS:Addr} {fd fdS:FuncData} (F:Fun K "take" "Scan.take" s_stake f fd) (B:Bl mg) (T:STxt K mg C) (g0:mg "NoText" = some (.ref CN)) (cl:ClsX K CN CA) (M0:Mkr P w K mg base CN "row" f0 fd0) (mS:Meth K C "sees" fS) (GS:FnOk P w K mg base CX0 1 fS fdS ["self", "signs"] (spSees C)) (bS:Binds K fdS ["self", "signs"] []):FnOk P w K mg base (CXr P w) 4 f fd ["self", "signs"] (spTakeR C CN):=by
  refine F.okX sc_stake (fun vs H Q E h=>?_) (fun cdv A outer s H vs Q E hr h=>?_)
  · obtain ⟨sc,Tx,u,k,p,n,c,rfl,_⟩:=h
    rfl
  obtain ⟨sc,Tx,u,k,p,n,c,rfl,S,kk,hu,pl,q⟩:=h
  have hr1:Room 1 _:=hr.mono (by decide)
  refine ⟨_,(pss_cons (ps_if (pt_not (pt_val (pe_meth (pv 0) T.cl mS GS hr1 bS .nil pass0 (pa_cons (pv 1) pa_nil)))) (pss_one (ps_raise (pe_makeX M0.made M0.ok hr rfl g0 M0.b .nil pass0 (pa_cons (pe_fld (pv 0) rfl) pa_nil)))) pss_nil)
      (pss_one (ps_fld (pv 0) (pe_op op_add (pe_fld (pv 0) rfl) (pe_callB call_len_str rfl B.len PySem.boot_len (pa_cons (pv 1) pa_nil))) rfl))),?_⟩
  have ul:u.length=1:=by rw [← len_list,hu]; rfl
  obtain ⟨dx,fs,hs,sf⟩:=id S
  refine ⟨_,rfl,sc,dx,fs,rfl,hs,sf.no2,_,rfl,sc,Tx,u,k,p,n,rfl,S,_,rfl,?_⟩
  rw [starts_hd hu pl]
  rcases q with ⟨hc,q⟩ | ⟨hc,rr⟩
  · rw [decide_eq_true hc]
    refine iteF ?_
    refine ⟨_,rfl,sc,C,dx,fs,_,rfl,hs,T.cl,T.nL,sf.place,_,rfl,u,rfl,small (by omega),_,_,rfl,rfl,_,rfl,sc,C,dx,fs,rfl,hs,T.cl,T.nL,sf.size,?_⟩
    have hs':upd H sc (.ins C dx (putF "place" (.int ((p:Int)+(u.length:Int))) fs)) sc=some (.ins C dx (putF "place" (.int ((p+1:Nat):Int)) fs)):=by rw [upd_same,ul,Int.natCast_add]
    exact q _ ⟨dx,_,hs',sf.toPlace _⟩ (SameBut.upd _)
  · rw [decide_eq_false hc]
    refine iteT ?_
    exact ⟨_,rfl,sc,C,dx,_,_,rfl,hs,T.cl,T.nR,sf.row,(by show 1≤sizeLine; decide),fun e ze=>mk_sp kk.fm ze fun G4 s4 x4=>⟨rfl,raise_but cl rr (SameBut.refl _ _) ze s4 x4⟩⟩
def spWordR (C:Addr):Sp:=fun vs H Q _=>∃ (sc:Addr) (T:Str) (k:Int) (p n:Nat),vs=[.ref sc]∧ScanAt C H sc T k p n∧T.length≤60000∧p≤T.length∧∀ H' p',ScanAt C H' sc T k p' n→dr T p'=wR (dr T p)→p'≤T.length→SameBut sc H H'→Q (.str (stl (wL (dr T p)))) H'
theorem sc_sword:FnScope ["self", "start"] ["self"] (defScope s_sword):=⟨rfl,rfl,rfl,by decide +kernel,rfl,by decide +kernel,by decide +kernel⟩
theorem ok_sword {f:Addr} {fd:FuncData} (F:Fun K "word" "Scan.word" s_sword f fd) (B:Bl mg) (X:Tx K mg) (T:STxt K mg C):FnOk P w K mg base CX0 1 f fd ["self"] (spWordR C):=by
  refine F.ok sc_sword (fun vs H Q E h=>?_) (fun cdv A outer s H vs Q E hr h=>?_)
  · obtain ⟨sc,Tx,k,p,n,rfl,_⟩:=h
    rfl
  obtain ⟨sc,Tx,k,p,n,rfl,⟨dx,fs,hs,sf⟩,tl,pl,q⟩:=h
  have hd:Tx.cps.toList.drop p=wL (dr Tx p)++wR (dr Tx p):=(wLR (dr Tx p)).symm
  have xl:=wL_no (r:=dr Tx p)
  have er:=wR_end (dr Tx p)
  generalize wL (dr Tx p)=x at hd xl q
  generalize wR (dr Tx p)=r at hd er q
  obtain ⟨te,ge⟩:=X.ends
  refine ⟨_,(pss_cons (ps_set (i:=1) sc_sword.nd rfl (Or.inl rfl) (pe_fld (pv 0) rfl))
      (pss_cons (ps_while PassesOwn.never (PW.pt (pw_and (pt_cmpR op_lt (pe_fld (pv 0) rfl) (pe_callB call_len_str rfl B.len PySem.boot_len (pa_cons (pe_fld (pv 0) rfl) pa_nil)) (nomark _)) (pw_and1 (pt_cmpR op_notIn_str (pe_ix ix_str (pe_fld (pv 0) rfl) (pe_fld (pv 0) rfl) (fun _ _=>rfl)) (pe_glob (v:=.str ENDS) rfl ge ⟨_,rfl⟩) (by with_unfolding_all rfl))))) (pss_one (ps_fld (pv 0) (pe_op op_add (pe_fld (pv 0) rfl) pe_int) rfl)))
      (pss_one (ps_ret (pe_slice sl_str (pe_fld (pv 0) rfl) (po_some (pv 1)) (po_some (pe_fld (pv 0) rfl))))))),?_⟩
  have L:Tx.cps.toList.length=Tx.length:=by rw [Array.length_toList]; rfl
  have hlen:Tx.length=p+(x.length+r.length):=by
    have:=congrArg List.length hd
    rw [List.length_drop,List.length_append,L] at this
    omega
  refine ⟨_,rfl,sc,C,dx,fs,_,rfl,hs,T.cl,T.nL,sf.place,?_⟩
  refine ⟨fun m σ H'=>∃ j:Nat,j≤x.length∧σ=[some (.ref sc),some (.int (p:Int))]∧ScanAt C H' sc Tx k (p+j) n∧SameBut sc H H'∧m=x.length - j,⟨_,0,Nat.zero_le _,rfl,⟨dx,fs,hs,sf⟩,SameBut.refl _ _,rfl⟩,?_⟩
  rintro m σ H1 ⟨j,hj,rfl,⟨dx1,fs1,hs1,sf1⟩,S1,rfl⟩
  refine ⟨_,rfl,sc,C,dx1,fs1,_,rfl,hs1,T.cl,T.nL,sf1.place,_,rfl,sc,C,dx1,fs1,_,rfl,hs1,T.cl,T.nX,sf1.text,Tx,rfl,smallT tl,_,_,rfl,rfl,_,rfl,?_⟩
  have sl:j=x.length→Txt.slice Tx (some (p:Int)) (some ((p+j:Nat):Int))=stl x:=fun ej=>by
    have es:Txt.slice Tx (some (p:Int)) (some ((p+j:Nat):Int))=_:=StrLaws.sliceText_plain (i:=(p:Int)) (j:=((p+j:Nat):Int)) ⟨by omega,by omega,by rw [L]; omega⟩
    rw [es]
    refine str_ext ?_
    show (Tx.cps.toList.drop (p:Int).toNat).take (((p+j:Nat):Int) - (p:Int)).toNat=x
    rw [show (p:Int).toNat=p by omega,show (((p+j:Nat):Int) - (p:Int)).toNat=x.length by omega,hd,List.take_left']
    rfl
  by_cases c1:(((p+j:Nat):Int)) < (Tx.length:Int)
  · refine iteD c1 ?_
    have hk:p+j < Tx.cps.toList.length:=by rw [L]; omega
    have ha:atI Tx.cps.toList ((p+j:Nat):Int)=some Tx.cps.toList[p+j]:=atI_nat (List.getElem?_eq_getElem hk)
    have hx:Tx.cps.toList[p+j]?=(x++r)[j]?:=by rw [← hd,List.getElem?_drop]
    refine ⟨_,rfl,sc,C,dx1,fs1,_,rfl,hs1,T.cl,T.nX,sf1.text,_,rfl,sc,C,dx1,fs1,_,rfl,hs1,T.cl,T.nL,sf1.place,Tx,_,_,rfl,rfl,smallT tl,ha,_,_,rfl,rfl,_,rfl,?_⟩
    by_cases c2:j < x.length
    · have ec:Tx.cps.toList[p+j]=x[j]:=by
        rw [List.getElem?_eq_getElem hk,List.getElem?_append_left c2,List.getElem?_eq_getElem c2] at hx
        exact Option.some.inj hx
      have en:(!isIn ENDS Tx.cps.toList[p+j])=true:=by rw [ec,xl _ (List.getElem_mem c2)]; rfl
      have en':(!(!(Builtin.Str.occurrences ENDS ⟨#[Tx.cps.toList[p+j]]⟩ 0 ENDS.length 1).isEmpty))=true:=en
      rw [en']
      refine ⟨_,fun _ _ h=>h,?_⟩
      refine ⟨_,rfl,sc,C,dx1,fs1,_,rfl,hs1,T.cl,T.nL,sf1.place,_,_,rfl,rfl,_,rfl,sc,C,dx1,fs1,rfl,hs1,T.cl,T.nL,sf1.size,?_⟩
      have hs':upd H1 sc (.ins C dx1 (putF "place" (.int (((p+j:Nat):Int)+1)) fs1)) sc=some (.ins C dx1 (putF "place" (.int ((p+(j+1):Nat):Int)) fs1)):=by
        rw [upd_same,show ((p+j:Nat):Int)+1=((p+(j+1):Nat):Int) by omega]
      exact ⟨_,by omega,j+1,by omega,rfl,⟨dx1,_,hs',sf1.toPlace _⟩,S1.trans (SameBut.upd _),rfl⟩
    · have ej:j=x.length:=by omega
      have en:(!isIn ENDS Tx.cps.toList[p+j])=false:=by
        cases r with
        | nil =>
          rw [List.length_nil] at hlen
          omega
        | cons c r' =>
          rw [List.getElem?_eq_getElem hk,List.getElem?_append_right (by omega),show j - x.length=0 by omega] at hx
          have ec:Tx.cps.toList[p+j]=c:=Option.some.inj hx
          rw [ec,er c rfl]
          rfl
      have en':(!(!(Builtin.Str.occurrences ENDS ⟨#[Tx.cps.toList[p+j]]⟩ 0 ENDS.length 1).isEmpty))=false:=en
      rw [en']
      refine ⟨_,rfl,sc,C,dx1,fs1,_,rfl,hs1,T.cl,T.nX,sf1.text,_,rfl,_,rfl,_,rfl,sc,C,dx1,fs1,_,rfl,hs1,T.cl,T.nL,sf1.place,_,rfl,Tx,rfl,smallT tl,?_⟩
      rw [sl ej]
      rw [ej] at sf1
      exact q H1 (p+x.length) ⟨dx1,fs1,hs1,sf1⟩ (drop_app hd) (by omega) S1
  · refine iteDF c1 ?_
    have ej:j=x.length:=by omega
    refine ⟨_,rfl,sc,C,dx1,fs1,_,rfl,hs1,T.cl,T.nX,sf1.text,_,rfl,_,rfl,_,rfl,sc,C,dx1,fs1,_,rfl,hs1,T.cl,T.nL,sf1.place,_,rfl,Tx,rfl,smallT tl,?_⟩
    rw [sl ej]
    rw [ej] at sf1
    exact q H1 (p+x.length) ⟨dx1,fs1,hs1,sf1⟩ (drop_app hd) (by omega) S1
def spFinishR (C CN:Addr):Sp:=fun vs H Q E=>∃ (sc:Addr) (T:Str) (k:Int) (p n:Nat),vs=[.ref sc]∧ScanAt C H sc T k p n∧KOk k∧T.length≤60000∧p≤T.length∧((dr T p=[]∧Q .non H)∨(¬ dr T p=[]∧RaisesBut sc CN k H E))
theorem sc_sfinish:FnScope ["self"] ["self"] (defScope s_sfinish):=⟨rfl,rfl,rfl,by decide +kernel,rfl,by decide +kernel,by decide +kernel⟩
theorem dr_nil {T:Str} {p:Nat} (hp:p≤T.length):dr T p=[]↔p=T.length:=by
  have L:=len_list T
  unfold dr
  rw [List.drop_eq_nil_iff]
  omega
theorem ok_sfinish {f:Addr} {fd:FuncData} (F:Fun K "finish" "Scan.finish" s_sfinish f fd) (B:Bl mg) (T:STxt K mg C) (g0:mg "NoText" = some (.ref CN)) (cl:ClsX K CN CA) (M0:Mkr P w K mg base CN "row" f0 fd0):FnOk P w K mg base (CXr P w) 4 f fd ["self"] (spFinishR C CN):=by
  refine F.okX sc_sfinish (fun vs H Q E h=>?_) (fun cdv A outer s H vs Q E hr h=>?_)
  · obtain ⟨sc,Tx,k,p,n,rfl,_⟩:=h
    rfl
  obtain ⟨sc,Tx,k,p,n,rfl,⟨dx,fs,hs,sf⟩,kk,tl,pl,q⟩:=h
  refine ⟨_,(pss_one (ps_if (pt_cmpR op_ne (pe_fld (pv 0) rfl) (pe_callB call_len_str rfl B.len PySem.boot_len (pa_cons (pe_fld (pv 0) rfl) pa_nil)) (nomark _)) (pss_one (ps_raise (pe_makeX M0.made M0.ok hr rfl g0 M0.b .nil pass0 (pa_cons (pe_fld (pv 0) rfl) pa_nil)))) pss_nil)),?_⟩
  refine ⟨_,rfl,sc,C,dx,fs,_,rfl,hs,T.cl,T.nL,sf.place,_,rfl,sc,C,dx,fs,_,rfl,hs,T.cl,T.nX,sf.text,Tx,rfl,smallT tl,rfl,_,rfl,?_⟩
  show if (!decide (V.int (p:Int)=V.int (Tx.length:Int)))=true then _ else _
  rcases q with ⟨e,q⟩ | ⟨e,rr⟩
  · rw [(dr_nil pl).mp e,decide_eq_true rfl]
    exact iteF q
  · have ne:¬ V.int (p:Int)=V.int (Tx.length:Int):=fun z=>e ((dr_nil pl).mpr (by have:=V.int.inj z; omega))
    rw [decide_eq_false ne]
    refine iteT ?_
    exact ⟨_,rfl,sc,C,dx,_,_,rfl,hs,T.cl,T.nR,sf.row,(by show 1≤sizeLine; decide),fun e ze=>mk_sp kk.fm ze fun G4 s4 x4=>⟨rfl,raise_but cl rr (SameBut.refl _ _) ze s4 x4⟩⟩
end
structure MthsR (P:Program) (w:World) (K:PySem.W.Frag) (mg:Str→Option Value) (base:Heap) (C CN fE fS fT fW fF:Addr) (dE dS dT dW dF:FuncData):Prop where
  mE:Meth K C "enter" fE
  gE:FnOk P w K mg base (CXr P w) 4 fE dE ["self", "within"] (spEnterR C CN)
  bE:Binds K dE ["self", "within"] []
  mS:Meth K C "sees" fS
  gS:FnOk P w K mg base CX0 1 fS dS ["self", "signs"] (spSees C)
  bS:Binds K dS ["self", "signs"] []
  mT:Meth K C "take" fT
  gT:FnOk P w K mg base (CXr P w) 4 fT dT ["self", "signs"] (spTakeR C CN)
  bT:Binds K dT ["self", "signs"] []
  mW:Meth K C "word" fW
  gW:FnOk P w K mg base CX0 1 fW dW ["self"] (spWordR C)
  bW:Binds K dW ["self"] []
  mF:Meth K C "finish" fF
  gF:FnOk P w K mg base (CXr P w) 4 fF dF ["self"] (spFinishR C CN)
  bF:Binds K dF ["self"] []
def WishR (C CN sc:Addr) (T:Str) (k:Int) (m:Nat) (R:PT) (H:Hp) (Q:VK) (E:XK):Prop :=
  (∀ (t:Tm) (r':List Nat) (p':Nat) (v:V) (H':Hp),R=some (t,r')→m+t.size≤20→TmAt H' v t→ScanAt C H' sc T k p' (m+t.size)→dr T p'=r'→p'≤T.length→SameBut sc H H'→Q v H') ∧
  ((∀ t r',R=some (t,r')→20 < m+t.size)→RaisesBut sc CN k H E)
def spNextR (C CN:Addr) (n:Nat):Sp:=fun vs H Q E=>∃ (sc:Addr) (wi:Int) (T:Str) (k:Int) (p m:Nat),vs=[.ref sc,.int wi]∧ScanAt C H sc T k p m∧KOk k∧T.length≤60000∧p≤T.length∧wi+(n:Int)=9∧m≤20∧WishR C CN sc T k m (pT n (dr T p)) H Q E
def spTBR (C CN:Addr) (n:Nat):Sp:=fun vs H Q E=>∃ (sc:Addr) (wi:Int) (T:Str) (k:Int) (p m:Nat),vs=[.ref sc,.int wi]∧ScanAt C H sc T k p (m+1)∧KOk k∧T.length≤60000∧p≤T.length∧wi+(n:Int)=8∧m+1≤20∧(dr T p).head?=some 40∧WishR C CN sc T k m (pTB (pT n) (dr T p).tail) H Q E
theorem dr_tail {T:Str} {p c:Nat} (h:(dr T p).head?=some c):dr T (p+1)=(dr T p).tail∧p+1≤T.length:=by
  have L:=len_list T
  constructor
  · unfold dr
    rw [List.tail_drop]
  · have:p < T.cps.toList.length:=by
      by_cases z:p < T.cps.toList.length
      · exact z
      · unfold dr at h
        rw [List.drop_eq_nil_of_le (by omega)] at h
        cases h
    omega
theorem pTB_some {f:List Nat→PT} {z r':List Nat} {t:Tm} (h:pTB f z=some (t,r')):∃ a r2,f (wR z)=some (a,r2)∧pTB2 f (stl (wL z)) a r2=some (t,r')∧a.size+1≤t.size:=by
  unfold pTB at h
  cases e:f (wR z) with
  | none=>rw [e] at h; cases h
  | some u =>
    obtain ⟨a,r2⟩:=u
    rw [e] at h
    refine ⟨a,r2,rfl,h,?_⟩
    dsimp only at h
    unfold pTB2 at h
    by_cases c3:stl (wL z) ∈ askW
    · rw [if_pos c3] at h
      obtain ⟨rfl,_⟩:=pCl_some h
      exact Nat.le_refl _
    rw [if_neg c3] at h
    by_cases c4:stl (wL z) ∈ signW
    · rw [if_pos c4] at h
      cases e2:f r2 with
      | none=>rw [e2] at h; cases h
      | some u2 =>
        obtain ⟨b,r3⟩:=u2
        rw [e2] at h
        obtain ⟨rfl,_⟩:=pCl_some h
        show a.size+1≤a.size+b.size+1
        omega
    · rw [if_neg c4] at h
      cases h
theorem pTB_of {f:List Nat→PT} {z r2:List Nat} {a:Tm} (h:f (wR z)=some (a,r2)):pTB f z=pTB2 f (stl (wL z)) a r2:=by
  unfold pTB
  rw [h]
section
variable {C CN CA f0 fE fS fT fW fF:Addr} {fd0 dE dS dT dW dF:FuncData}
theorem sc_term_in_bracket:FnScope ["scan", "within", "word", "first", "term"] ["scan", "within"] (defScope s_term_in_bracket):=⟨rfl,rfl,rfl,by decide +kernel,rfl,by decide +kernel,by decide +kernel⟩
theorem lit1:(("(" : Str)).cps.toList=[40]∧((" " : Str)).cps.toList=[32]∧((")" : Str)).cps.toList=[41]:=⟨lit_po,lit_sp,lit_pc⟩
theorem tb_step {n:Nat} {f:Addr} {fd:FuncData} (F:Fun K "term_in_bracket" "term_in_bracket" s_term_in_bracket f fd) (X:Tx K mg) (T:STxt K mg C) (g0:mg "NoText" = some (.ref CN)) (cl:ClsX K CN CA) (M0:Mkr P w K mg base CN "row" f0 fd0) (M:MthsR P w K mg base C CN fE fS fT fW fF dE dS dT dW dF) (C_next_term:CalR P w K mg base (2*n+6) "next_term" ["scan", "within"] (spNextR C CN n)):FnOk P w K mg base (CXr P w) (2*n+7) f fd ["scan", "within"] (spTBR C CN n):=by
  refine F.okX sc_term_in_bracket (fun vs H Q E h=>?_) (fun cdv A outer s H vs Q E hr h=>?_)
  · obtain ⟨sc,wi,Tx,k,p,m,rfl,_⟩:=h
    rfl
  obtain ⟨sc,wi,Tx,k,p,m,rfl,S0,kk,tl,pl,wn,m20,h40,qs,qr⟩:=h
  obtain ⟨ja,gj,hj⟩:=X.asking
  obtain ⟨sa,gs,hsn⟩:=X.signs
  have hr1:Room 1 _:=hr.mono (by omega)
  have hr3:Room 3 _:=hr.mono (by omega)
  have hr4:Room 4 _:=hr.mono (by omega)
  refine ⟨_,(pss_cons (ps_expr (pe_meth (pv 0) T.cl M.mT M.gT hr4 M.bT .nil passX (pa_cons pe_str pa_nil)))
      (pss_cons (ps_set (i:=2) sc_term_in_bracket.nd rfl (Or.inl rfl) (pe_meth0 (pv 0) T.cl M.mW M.gW hr1 M.bW .nil pass0))
      (pss_cons (ps_set (i:=3) sc_term_in_bracket.nd rfl (Or.inl rfl) (pe_calR C_next_term hr (by omega) rfl passX (pa_cons (pv 0) (pa_cons (pe_op op_add (pv 1) pe_int) pa_nil))))
      (pss_cons (ps_if (pt_cmpR op_in_seq (pv 2) (pe_glob (v:=.ref ja) rfl gj rfl) (by with_unfolding_all rfl)) (pss_one (ps_set (i:=4) sc_term_in_bracket.nd rfl (Or.inl rfl) (pe_tup (pa_cons (pv 2) (pa_cons (pv 3) pa_nil))))) (pss_one (ps_if (pt_cmpR op_in_seq (pv 2) (pe_glob (v:=.ref sa) rfl gs rfl) (by with_unfolding_all rfl)) (pss_one (ps_set (i:=4) sc_term_in_bracket.nd rfl (Or.inl rfl) (pe_tup (pa_cons pe_str (pa_cons (pv 2) (pa_cons (pv 3) (pa_cons (pe_calR C_next_term hr (by omega) rfl passX (pa_cons (pv 0) (pa_cons (pe_op op_add (pv 1) pe_int) pa_nil))) pa_nil))))))) (pss_one (ps_raise (pe_makeX M0.made M0.ok hr3 rfl g0 M0.b .nil pass0 (pa_cons (pe_fld (pv 0) rfl) pa_nil)))))))
      (pss_cons (ps_expr (pe_meth (pv 0) T.cl M.mT M.gT hr4 M.bT .nil passX (pa_cons pe_str pa_nil)))
      (pss_one (ps_ret (pv 4)))))))),?_⟩
  obtain ⟨dx0,fs0,hs0,sf0⟩:=id S0
  refine ⟨_,rfl,sc,dx0,fs0,rfl,hs0,sf0.no3,sc,Tx,_,k,p,m+1,40,rfl,S0,kk,lit1.1,pl,.inl ⟨h40,fun H1 S1 B1=>?_⟩⟩
  obtain ⟨d1,p1⟩:=dr_tail h40
  obtain ⟨dx1,fs1,hs1,sf1⟩:=id S1
  refine ⟨_,rfl,sc,dx1,fs1,rfl,hs1,sf1.no4,sc,Tx,k,p+1,_,rfl,S1,tl,p1,fun H2 p2 S2 d2 pl2 B2=>?_⟩
  rw [d1] at d2 ⊢
  generalize (dr Tx p).tail=z at qs qr d2 ⊢
  have B02:=B1.trans B2
  refine ⟨_,rfl,_,rfl,_,_,rfl,rfl,sc,_,Tx,k,p2,m+1,rfl,S2,kk,tl,pl2,by omega,m20,⟨fun a r2 p3 v1 H3 e1 s1 T1 S3 d3 pl3 B3=>?_,fun bad=>?_⟩⟩
  rotate_left
  · refine (qr fun t r' e=>?_).but B02
    obtain ⟨a,r2,ea,_,sz⟩:=pTB_some e
    rw [← d2] at ea
    have:=bad a r2 ea
    omega
  rw [d2] at e1
  have eB:=pTB_of e1
  rw [eB] at qs qr
  have B03:=B02.trans B3
  obtain ⟨dx3,fs3,hs3,sf3⟩:=id S3
  have shut:∀ {t:Tm} {v:V} {r4:List Nat} {p4:Nat} {H4:Hp},pTB2 (pT n) (stl (wL z)) a r2=pCl t r4→m+t.size≤20→TmAt H4 v t→ScanAt C H4 sc Tx k p4 (m+t.size)→dr Tx p4=r4→p4≤Tx.length→SameBut sc H H4→∃ dx fs,H4 sc=some (.ins C dx fs)∧fs.lookup ("take" : Str)=none∧(((dr Tx p4).head?=some 41∧∀ H',ScanAt C H' sc Tx k (p4+1) (m+t.size)→SameBut sc H4 H'→Q v H')∨(¬ (dr Tx p4).head?=some 41∧RaisesBut sc CN k H4 E)):=fun {t v r4 p4 H4} e sz TT SS dd pp BB=>by
    obtain ⟨dx4,fs4,hs4,sf4⟩:=id SS
    refine ⟨dx4,fs4,hs4,sf4.no3,?_⟩
    by_cases c:(dr Tx p4).head?=some 41
    · refine .inl ⟨c,fun H5 S5 B5=>?_⟩
      obtain ⟨d5,p5⟩:=dr_tail c
      refine qs t r4.tail (p4+1) v H5 ?_ sz (TT.mono (keepT_scan SS B5)) S5 (by rw [d5,dd]) p5 (BB.trans B5)
      rw [e]
      unfold pCl
      rw [if_pos (by rw [← dd]; exact c)]
    · refine .inr ⟨c,(qr fun t' r' e'=>?_).but BB⟩
      rw [e] at e'
      unfold pCl at e'
      rw [if_neg (by rw [← dd]; exact c)] at e'
      cases e'
  refine ⟨_,rfl,ja,_,rfl,.inr (hj _),rfl,(by decide),_,rfl,?_⟩
  have ej:inV (.str (stl (wL z))) (askW.map V.str)=decide (stl (wL z) ∈ askW):=in_strs _ _
  show if inV (.str (stl (wL z))) (askW.map V.str)=true then _ else _
  rw [ej]
  by_cases c3:stl (wL z) ∈ askW
  · refine iteD c3 ?_
    refine ⟨_,rfl,_,rfl,(by show 2≤sizeLine; decide),fun q hq=>?_⟩
    have G4:=Same.new hq (.tup [.str (stl (wL z)),v1])
    have e2:pTB2 (pT n) (stl (wL z)) a r2=pCl (.ask (stl (wL z)) a) r2:=by
      unfold pTB2
      rw [if_pos c3]
    have esz:m+(Tm.ask (stl (wL z)) a).size=m+1+a.size:=by show m+(a.size+1)=_; omega
    obtain ⟨dx4,fs4,hs4,no4,fin⟩:=shut (v:=.ref q) e2 (by rw [esz]; exact s1) (.ask upd_same (T1.mono (keepT_same G4))) (by rw [esz]; exact S3.same G4) d3 pl3 (B03.trans (SameBut.of G4))
    refine ⟨_,rfl,sc,dx4,fs4,rfl,hs4,no4,sc,Tx,_,k,p3,m+(Tm.ask (stl (wL z)) a).size,41,rfl,by rw [esz]; exact S3.same G4,kk,lit1.2.2,pl3,?_⟩
    rcases fin with ⟨c,fin⟩ | ⟨c,fin⟩
    · exact .inl ⟨c,fun H5 S5 B5=>⟨_,rfl,fin H5 S5 B5⟩⟩
    · exact .inr ⟨c,fin⟩
  refine iteDF c3 ?_
  refine ⟨_,rfl,sa,_,rfl,.inr (hsn _),rfl,(by decide),_,rfl,?_⟩
  have es:inV (.str (stl (wL z))) (signW.map V.str)=decide (stl (wL z) ∈ signW):=in_strs _ _
  show if inV (.str (stl (wL z))) (signW.map V.str)=true then _ else _
  rw [es]
  by_cases c4:stl (wL z) ∈ signW
  rotate_left
  · refine iteDF c4 ?_
    have rr:=qr fun t r' e=>by
      unfold pTB2 at e
      rw [if_neg c3,if_neg c4] at e
      cases e
    exact ⟨_,rfl,sc,C,dx3,_,_,rfl,hs3,T.cl,T.nR,sf3.row,(by show 1≤sizeLine; decide),fun e ze=>mk_sp kk.fm ze fun G4 s4 x4=>⟨rfl,raise_but cl rr B03 ze s4 x4⟩⟩
  refine iteD c4 ?_
  have e2:pTB2 (pT n) (stl (wL z)) a r2=match pT n r2 with | none=>none | some (b,r3)=>pCl (.op (stl (wL z)) a b) r3:=by
    unfold pTB2
    rw [if_neg c3,if_pos c4]
    all_goals rfl
  refine ⟨_,rfl,_,rfl,_,rfl,_,rfl,_,_,rfl,rfl,sc,_,Tx,k,p3,m+1+a.size,rfl,S3,kk,tl,pl3,by omega,s1,⟨fun b r3 p4 v2 H4 eb s2 T2 S4 d4 pl4 B4=>?_,fun bad=>?_⟩⟩
  rotate_left
  · refine (qr fun t r' e=>?_).but B03
    rw [e2,← d3] at e
    cases eb:pT n (dr Tx p3) with
    | none=>rw [eb] at e; cases e
    | some u =>
      obtain ⟨b,r3⟩:=u
      rw [eb] at e
      obtain ⟨rfl,_⟩:=pCl_some e
      have:=bad b r3 eb
      show 20 < m+(a.size+b.size+1)
      omega
  rw [d3] at eb
  rw [eb] at e2
  refine ⟨(by show 4≤sizeLine; decide),fun q hq=>?_⟩
  have G5:=Same.new hq (.tup [.str "op", .str (stl (wL z)),v1,v2])
  have esz:m+(Tm.op (stl (wL z)) a b).size=m+1+a.size+b.size:=by show m+(a.size+b.size+1)=_; omega
  obtain ⟨dx4,fs4,hs4,no4,fin⟩:=shut (v:=.ref q) e2 (by rw [esz]; exact s2) (.op upd_same ((T1.mono (keepT_scan S3 B4)).mono (keepT_same G5)) (T2.mono (keepT_same G5))) (by rw [esz]; exact S4.same G5) d4 pl4 (B03.trans (B4.trans (SameBut.of G5)))
  refine ⟨_,rfl,sc,dx4,fs4,rfl,hs4,no4,sc,Tx,_,k,p4,m+(Tm.op (stl (wL z)) a b).size,41,rfl,by rw [esz]; exact S4.same G5,kk,lit1.2.2,pl4,?_⟩
  rcases fin with ⟨c,fin⟩ | ⟨c,fin⟩
  · exact .inl ⟨c,fun H6 S6 B6=>⟨_,rfl,fin H6 S6 B6⟩⟩
  · exact .inr ⟨c,fin⟩
end
section
variable {C CN CA f0 fE fS fT fW fF:Addr} {fd0 dE dS dT dW dF:FuncData}
theorem sc_next_term:FnScope ["scan", "within", "word"] ["scan", "within"] (defScope s_next_term):=⟨rfl,rfl,rfl,by decide +kernel,rfl,by decide +kernel,by decide +kernel⟩
theorem wl_len {T:Str} {p:Nat} (h:T.length≤60000):(stl (wL (dr T p))).length≤60000:=by
  rw [stl_len]
  have h1:(wL (dr T p)).length≤(dr T p).length:=by
    have:=congrArg List.length (wLR (dr T p))
    rw [List.length_append] at this
    omega
  have h2:(dr T p).length≤T.cps.toList.length:=by unfold dr; rw [List.length_drop]; omega
  have:=len_list T
  omega
theorem wd_num {x:Str} (c1:x ∉ plainW) (c2:figB x=true):∃ n:Int,0≤n∧n < 1000000000000∧x=numT n∧wdTm x=some (.num n):=by
  obtain ⟨h0,h1,h2⟩:=(figB_num c2).choose_spec
  refine ⟨_,h0,h1,h2,?_⟩
  unfold wdTm
  rw [if_neg c1,dif_pos c2]
theorem nt_step {n:Nat} {f:Addr} {fd:FuncData} (F:Fun K "next_term" "next_term" s_next_term f fd) (B:Bl mg) (X:Tx K mg) (T:STxt K mg C) (g0:mg "NoText" = some (.ref CN)) (cl:ClsX K CN CA) (M0:Mkr P w K mg base CN "row" f0 fd0) (M:MthsR P w K mg base C CN fE fS fT fW fF dE dS dT dW dF) (C_is_name:Cal P w K mg base 1 "is_name" ["text"] (spTxt nameB)) (C_is_figures:Cal P w K mg base 1 "is_figures" ["text"] (spTxt figB)) (C_term_in_bracket:CalR P w K mg base (2*n+7) "term_in_bracket" ["scan", "within"] (spTBR C CN n)):FnOk P w K mg base (CXr P w) (2*n+8) f fd ["scan", "within"] (spNextR C CN (n+1)):=by
  refine F.okX sc_next_term (fun vs H Q E h=>?_) (fun cdv A outer s H vs Q E hr h=>?_)
  · obtain ⟨sc,wi,Tx,k,p,m,rfl,_⟩:=h
    rfl
  obtain ⟨sc,wi,Tx,k,p,m,rfl,S0,kk,tl,pl,wn,m20,qs,qr⟩:=h
  obtain ⟨ja,gj,hj⟩:=X.plain
  have hr1:Room 1 _:=hr.mono (by omega)
  have hr3:Room 3 _:=hr.mono (by omega)
  have hr4:Room 4 _:=hr.mono (by omega)
  refine ⟨_,(pss_cons (ps_expr (pe_meth (pv 0) T.cl M.mT M.gT hr4 M.bT .nil passX (pa_cons pe_str pa_nil)))
      (pss_cons (ps_expr (pe_meth (pv 0) T.cl M.mE M.gE hr4 M.bE .nil passX (pa_cons (pv 1) pa_nil)))
      (pss_cons (ps_if (pt_val (pe_meth (pv 0) T.cl M.mS M.gS hr1 M.bS .nil pass0 (pa_cons pe_str pa_nil))) (pss_one (ps_ret (pe_calR C_term_in_bracket hr (by omega) rfl passX (pa_cons (pv 0) (pa_cons (pv 1) pa_nil))))) pss_nil)
      (pss_cons (ps_set (i:=2) sc_next_term.nd rfl (Or.inl rfl) (pe_meth0 (pv 0) T.cl M.mW M.gW hr1 M.bW .nil pass0))
      (pss_cons (ps_if (pt_cmpR op_in_seq (pv 2) (pe_glob (v:=.ref ja) rfl gj rfl) (by with_unfolding_all rfl)) (pss_one (ps_ret (pe_tup (pa_cons (pv 2) pa_nil)))) pss_nil)
      (pss_cons (ps_if (pt_val (pe_cal C_is_figures hr (by omega) rfl (pa_cons (pv 2) pa_nil))) (pss_one (ps_ret (pe_tup (pa_cons pe_str (pa_cons (pe_callTy call_int_text rfl B.int boot_int' (pa_cons (pv 2) pa_nil)) pa_nil))))) pss_nil)
      (pss_cons (ps_if (pt_not (pt_val (pe_cal C_is_name hr (by omega) rfl (pa_cons (pv 2) pa_nil)))) (pss_one (ps_raise (pe_makeX M0.made M0.ok hr3 rfl g0 M0.b .nil pass0 (pa_cons (pe_fld (pv 0) rfl) pa_nil)))) pss_nil)
      (pss_one (ps_ret (pe_tup (pa_cons pe_str (pa_cons (pv 2) pa_nil)))))))))))),?_⟩
  obtain ⟨dx0,fs0,hs0,sf0⟩:=id S0
  by_cases c0:(dr Tx p).head?=some 32
  rotate_left
  · refine ⟨_,rfl,sc,dx0,fs0,rfl,hs0,sf0.no3,sc,Tx,_,k,p,m,32,rfl,S0,kk,lit1.2.1,pl,.inr ⟨c0,qr fun t r' e=>?_⟩⟩
    unfold pT at e
    rw [if_neg c0] at e
    cases e
  refine ⟨_,rfl,sc,dx0,fs0,rfl,hs0,sf0.no3,sc,Tx,_,k,p,m,32,rfl,S0,kk,lit1.2.1,pl,.inl ⟨c0,fun H1 S1 B1=>?_⟩⟩
  obtain ⟨d1,p1⟩:=dr_tail c0
  obtain ⟨dx1,fs1,hs1,sf1⟩:=id S1
  have e0:pT (n+1) (dr Tx p)=if (dr Tx (p+1)).head?=some 40 then pTB (pT n) (dr Tx (p+1)).tail else pTW (dr Tx (p+1)):=by
    rw [d1]
    show (if (dr Tx p).head?=some 32 then _ else _)=_
    rw [if_pos c0]
  rw [e0] at qs qr
  by_cases cE:wi≤8∧m+1≤20
  rotate_left
  · refine ⟨_,rfl,sc,dx1,fs1,rfl,hs1,sf1.no1,_,rfl,sc,Tx,k,p+1,m,wi,rfl,S1,kk,.inr ⟨cE,(qr fun t r' _=>?_).but B1⟩⟩
    have:=t.size_pos
    omega
  refine ⟨_,rfl,sc,dx1,fs1,rfl,hs1,sf1.no1,_,rfl,sc,Tx,k,p+1,m,wi,rfl,S1,kk,.inl ⟨cE.1,cE.2,fun H2 S2 B2=>?_⟩⟩
  obtain ⟨dx2,fs2,hs2,sf2⟩:=id S2
  have B02:=B1.trans B2
  refine ⟨_,rfl,sc,dx2,fs2,rfl,hs2,sf2.no2,sc,Tx,_,k,p+1,_,rfl,S2,_,rfl,?_⟩
  rw [starts_hd lit1.1 p1]
  by_cases c1:(dr Tx (p+1)).head?=some 40
  · rw [decide_eq_true c1]
    refine iteT ?_
    rw [if_pos c1] at qs qr
    exact ⟨_,rfl,_,rfl,sc,wi,Tx,k,p+1,m,rfl,S2,kk,tl,p1,by omega,cE.2,c1,⟨fun t r' p' v H' e hm TT SS dd pp BB=>qs t r' p' v H' e hm TT SS dd pp (B02.trans BB),fun bad=>(qr bad).but B02⟩⟩
  rw [decide_eq_false c1]
  refine iteF ?_
  rw [if_neg c1] at qs qr
  refine ⟨_,rfl,sc,dx2,fs2,rfl,hs2,sf2.no4,sc,Tx,k,p+1,_,rfl,S2,tl,p1,fun H3 p3 S3 d3 pl3 B3=>?_⟩
  have B03:=B02.trans B3
  obtain ⟨dx3,fs3,hs3,sf3⟩:=id S3
  have wl:=wl_len (p:=p+1) tl
  unfold pTW at qs qr
  generalize stl (wL (dr Tx (p+1)))=x at qs qr wl ⊢
  have ok1:∀ {t:Tm} {v:V} {H':Hp},wdTm x=some t→TmAt H' v t→Same H3 H'→Q v H':=fun {t v H'} e TT SS=>by
    have ws:=(wdTm_spec e).ok.2.2.1
    refine qs t _ p3 v H' (by rw [e]) (by omega) TT (by rw [ws]; exact S3.same SS) d3 pl3 (B03.trans (SameBut.of SS))
  refine ⟨_,rfl,ja,_,rfl,.inr (hj _),rfl,(by decide),_,rfl,?_⟩
  show if inV (.str x) (plainW.map V.str)=true then _ else _
  rw [in_strs]
  by_cases cp:x ∈ plainW
  · refine iteD cp ?_
    refine ⟨_,rfl,(by show 1≤sizeLine; decide),fun c hc=>?_⟩
    exact ok1 (WdTm.plain cp).eq (.plain upd_same) (Same.new hc (.tup [.str x]))
  refine iteDF cp ?_
  refine ⟨_,rfl,x,rfl,wl,fun H4 S4=>⟨_,rfl,?_⟩⟩
  cases cf:figB x with
  | true =>
    refine iteT ?_
    obtain ⟨i,i0,i1,ex,ew⟩:=wd_num cp cf
    refine ⟨_,rfl,x,i,rfl,by rw [ex]; exact num_int i0 i1,by rw [ex]; have:=num_len i0 i1; omega,(by show 2≤sizeLine; decide),fun c hc=>?_⟩
    exact ok1 ew (.num upd_same) (S4.trans (Same.new hc (.tup [.str "num", .int i])))
  | false =>
    refine iteF ?_
    refine ⟨_,rfl,x,rfl,wl,fun H5 S5=>⟨_,rfl,?_⟩⟩
    cases cm:nameB x with
    | false =>
      refine iteT ?_
      have rr:=qr fun t r' e=>by
        have:wdTm x=none:=by
          unfold wdTm
          rw [if_neg cp,dif_neg (by rw [cf]; decide),if_neg (by rw [cm]; decide)]
        rw [this] at e
        cases e
      exact ⟨_,rfl,sc,C,dx3,_,_,rfl,S5 _ _ (S4 _ _ hs3),T.cl,T.nR,sf3.row,(by show 1≤sizeLine; decide),fun e ze=>mk_sp kk.fm ze fun G4 s4 x4=>⟨rfl,raise_but cl rr (B03.trans (SameBut.of (S4.trans S5))) ze s4 x4⟩⟩
    | true =>
      refine iteF ?_
      refine ⟨_,rfl,(by show 2≤sizeLine; decide),fun c hc=>?_⟩
      exact ok1 (WdTm.box (nameB_nm cm)).eq (.box upd_same) (S4.trans (S5.trans (Same.new hc (.tup [.str "box", .str x]))))
theorem nt_zero {f:Addr} {fd:FuncData} (F:Fun K "next_term" "next_term" s_next_term f fd) (T:STxt K mg C) (M:MthsR P w K mg base C CN fE fS fT fW fF dE dS dT dW dF):FnOk P w K mg base (CXr P w) 6 f fd ["scan", "within"] (spNextR C CN 0):=by
  refine F.okX sc_next_term (fun vs H Q E h=>?_) (fun cdv A outer s H vs Q E hr h=>?_)
  · obtain ⟨sc,wi,Tx,k,p,m,rfl,_⟩:=h
    rfl
  obtain ⟨sc,wi,Tx,k,p,m,rfl,S0,kk,tl,pl,wn,m20,qs,qr⟩:=h
  have hr4:Room 4 _:=hr.mono (by omega)
  have rr:=qr fun t r' e=>by cases e
  refine ⟨_,(pss_cons (ps_expr (pe_meth (pv 0) T.cl M.mT M.gT hr4 M.bT .nil passX (pa_cons pe_str pa_nil))) (pss_cons (ps_expr (pe_meth (pv 0) T.cl M.mE M.gE hr4 M.bE .nil passX (pa_cons (pv 1) pa_nil))) pss_never)),?_⟩
  obtain ⟨dx0,fs0,hs0,sf0⟩:=id S0
  by_cases c0:(dr Tx p).head?=some 32
  rotate_left
  · exact ⟨_,rfl,sc,dx0,fs0,rfl,hs0,sf0.no3,sc,Tx,_,k,p,m,32,rfl,S0,kk,lit1.2.1,pl,.inr ⟨c0,rr⟩⟩
  refine ⟨_,rfl,sc,dx0,fs0,rfl,hs0,sf0.no3,sc,Tx,_,k,p,m,32,rfl,S0,kk,lit1.2.1,pl,.inl ⟨c0,fun H1 S1 B1=>?_⟩⟩
  obtain ⟨dx1,fs1,hs1,sf1⟩:=id S1
  exact ⟨_,rfl,sc,dx1,fs1,rfl,hs1,sf1.no1,_,rfl,sc,Tx,k,p+1,m,wi,rfl,S1,kk,.inr ⟨fun z=>by have:=z.1; omega,rr.but B1⟩⟩
theorem ok_next_term {f fj:Addr} {fd fdj:FuncData} (F:Fun K "next_term" "next_term" s_next_term f fd) (m:mg "next_term" = some (.ref f)) (Fj:Fun K "term_in_bracket" "term_in_bracket" s_term_in_bracket fj fdj) (mj:mg "term_in_bracket" = some (.ref fj)) (B:Bl mg) (X:Tx K mg) (T:STxt K mg C) (g0:mg "NoText" = some (.ref CN)) (cl:ClsX K CN CA) (M0:Mkr P w K mg base CN "row" f0 fd0) (M:MthsR P w K mg base C CN fE fS fT fW fF dE dS dT dW dF) (C_is_name:Cal P w K mg base 1 "is_name" ["text"] (spTxt nameB)) (C_is_figures:Cal P w K mg base 1 "is_figures" ["text"] (spTxt figB)) :
    ∀ n:Nat,FnOk P w K mg base (CXr P w) (2*n+6) f fd ["scan", "within"] (spNextR C CN n)
  | 0=>nt_zero F T M
  | n+1=>by
    have b:=ok_next_term F m Fj mj B X T g0 cl M0 M C_is_name C_is_figures n
    have CN':=CalR.of F b m (fun _ _ _ _ _ _ us hl=>by obtain ⟨u0,u1,rfl⟩:=len2 hl; rfl)
    have CJ':=CalR.of Fj (tb_step Fj X T g0 cl M0 M CN') mj (fun _ _ _ _ _ _ us hl=>by obtain ⟨u0,u1,rfl⟩:=len2 hl; rfl)
    exact nt_step F B X T g0 cl M0 M C_is_name C_is_figures CJ'
end
section
variable {C CN CA f0 fE fS fT fW fF:Addr} {fd0 dE dS dT dW dF:FuncData}
def spNNR (C CN:Addr):Sp:=fun vs H Q E=>∃ (sc:Addr) (T:Str) (k:Int) (p m:Nat),vs=[.ref sc]∧ScanAt C H sc T k p m∧KOk k∧T.length≤60000∧p≤T.length ∧
  (∀ (y:Str) (p':Nat) (H':Hp),dr T p=32::(cd y++dr T p')→NmK y→EndR (dr T p')→ScanAt C H' sc T k p' m→p'≤T.length→SameBut sc H H'→Q (.str y) H') ∧
  ((∀ (y:Str) (r':List Nat),NmK y→EndR r'→dr T p ≠ 32::(cd y++r'))→RaisesBut sc CN k H E)
theorem sc_next_name:FnScope ["scan", "word"] ["scan"] (defScope s_next_name):=⟨rfl,rfl,rfl,by decide +kernel,rfl,by decide +kernel,by decide +kernel⟩
theorem ok_next_name {f:Addr} {fd:FuncData} (F:Fun K "next_name" "next_name" s_next_name f fd) (T:STxt K mg C) (g0:mg "NoText" = some (.ref CN)) (cl:ClsX K CN CA) (M0:Mkr P w K mg base CN "row" f0 fd0) (M:MthsR P w K mg base C CN fE fS fT fW fF dE dS dT dW dF) (C_is_name:Cal P w K mg base 1 "is_name" ["text"] (spTxt nameB)):FnOk P w K mg base (CXr P w) 5 f fd ["scan"] (spNNR C CN):=by
  refine F.okX sc_next_name (fun vs H Q E h=>?_) (fun cdv A outer s H vs Q E hr h=>?_)
  · obtain ⟨sc,Tx,k,p,m,rfl,_⟩:=h
    rfl
  obtain ⟨sc,Tx,k,p,m,rfl,S0,kk,tl,pl,qs,qr⟩:=h
  have hr1:Room 1 _:=hr.mono (by omega)
  have hr3:Room 3 _:=hr.mono (by omega)
  have hr4:Room 4 _:=hr.mono (by omega)
  refine ⟨_,(pss_cons (ps_expr (pe_meth (pv 0) T.cl M.mT M.gT hr4 M.bT .nil passX (pa_cons pe_str pa_nil)))
      (pss_cons (ps_set (i:=1) sc_next_name.nd rfl (Or.inl rfl) (pe_meth0 (pv 0) T.cl M.mW M.gW hr1 M.bW .nil pass0))
      (pss_cons (ps_if (pt_not (pt_val (pe_cal C_is_name hr (by omega) rfl (pa_cons (pv 1) pa_nil)))) (pss_one (ps_raise (pe_makeX M0.made M0.ok hr3 rfl g0 M0.b .nil pass0 (pa_cons (pe_fld (pv 0) rfl) pa_nil)))) pss_nil)
      (pss_one (ps_ret (pv 1)))))),?_⟩
  obtain ⟨dx0,fs0,hs0,sf0⟩:=id S0
  by_cases c0:(dr Tx p).head?=some 32
  rotate_left
  · exact ⟨_,rfl,sc,dx0,fs0,rfl,hs0,sf0.no3,sc,Tx,_,k,p,m,32,rfl,S0,kk,lit1.2.1,pl,.inr ⟨c0,qr fun y r' _ _ e=>c0 (by rw [e]; rfl)⟩⟩
  refine ⟨_,rfl,sc,dx0,fs0,rfl,hs0,sf0.no3,sc,Tx,_,k,p,m,32,rfl,S0,kk,lit1.2.1,pl,.inl ⟨c0,fun H1 S1 B1=>?_⟩⟩
  obtain ⟨d1,p1⟩:=dr_tail c0
  have d0:=hd_eq c0
  rw [← d1] at d0
  obtain ⟨dx1,fs1,hs1,sf1⟩:=id S1
  refine ⟨_,rfl,sc,dx1,fs1,rfl,hs1,sf1.no4,sc,Tx,k,p+1,_,rfl,S1,tl,p1,fun H2 p2 S2 d2 pl2 B2=>?_⟩
  have B02:=B1.trans B2
  obtain ⟨dx2,fs2,hs2,sf2⟩:=id S2
  have wl:=wl_len (p:=p+1) tl
  have e1:dr Tx p=32::(cd (stl (wL (dr Tx (p+1))))++dr Tx p2):=by rw [d2,wL_cd]; exact d0
  have er:EndR (dr Tx p2):=by rw [d2]; exact wR_end _
  have px:PlainC (cd (stl (wL (dr Tx (p+1))))):=wL_no
  generalize stl (wL (dr Tx (p+1)))=x at wl e1 px ⊢
  refine ⟨_,rfl,x,rfl,wl,fun H3 S3=>⟨_,rfl,?_⟩⟩
  cases cm:nameB x with
  | false =>
    refine iteT ?_
    have rr:=qr fun y r' hy hr' e=>by
      rw [e1] at e
      have u:=(uniq px (plainC_let hy.1) er hr' (List.cons.inj e).2).1
      have:x=y:=str_ext u
      rw [this,nameB_K hy] at cm
      cases cm
    exact ⟨_,rfl,sc,C,dx2,_,_,rfl,S3 _ _ hs2,T.cl,T.nR,sf2.row,(by show 1≤sizeLine; decide),fun e ze=>mk_sp kk.fm ze fun G4 s4 x4=>⟨rfl,raise_but cl rr (B02.trans (SameBut.of S3)) ze s4 x4⟩⟩
  | true =>
    refine iteF ?_
    exact ⟨_,rfl,qs x p2 H3 e1 (nameB_nm cm) er (S2.same S3) pl2 (B02.trans (SameBut.of S3))⟩
def spNFR (C CN:Addr):Sp:=fun vs H Q E=>∃ (sc:Addr) (T:Str) (k:Int) (p m:Nat),vs=[.ref sc]∧ScanAt C H sc T k p m∧KOk k∧T.length≤60000∧p≤T.length ∧
  (∀ (i:Int) (p':Nat) (H':Hp),dr T p=32::(cd (numT i)++dr T p')→0≤i→i < 1000000000000→EndR (dr T p')→ScanAt C H' sc T k p' m→p'≤T.length→SameBut sc H H'→Q (.int i) H') ∧
  ((∀ (i:Int) (r':List Nat),0≤i→i < 1000000000000→EndR r'→dr T p ≠ 32::(cd (numT i)++r'))→RaisesBut sc CN k H E)
theorem sc_next_figures:FnScope ["scan", "word"] ["scan"] (defScope s_next_figures):=⟨rfl,rfl,rfl,by decide +kernel,rfl,by decide +kernel,by decide +kernel⟩
theorem ok_next_figures {f:Addr} {fd:FuncData} (F:Fun K "next_figures" "next_figures" s_next_figures f fd) (B:Bl mg) (T:STxt K mg C) (g0:mg "NoText" = some (.ref CN)) (cl:ClsX K CN CA) (M0:Mkr P w K mg base CN "row" f0 fd0) (M:MthsR P w K mg base C CN fE fS fT fW fF dE dS dT dW dF) (C_is_figures:Cal P w K mg base 1 "is_figures" ["text"] (spTxt figB)):FnOk P w K mg base (CXr P w) 5 f fd ["scan"] (spNFR C CN):=by
  refine F.okX sc_next_figures (fun vs H Q E h=>?_) (fun cdv A outer s H vs Q E hr h=>?_)
  · obtain ⟨sc,Tx,k,p,m,rfl,_⟩:=h
    rfl
  obtain ⟨sc,Tx,k,p,m,rfl,S0,kk,tl,pl,qs,qr⟩:=h
  have hr1:Room 1 _:=hr.mono (by omega)
  have hr3:Room 3 _:=hr.mono (by omega)
  have hr4:Room 4 _:=hr.mono (by omega)
  refine ⟨_,(pss_cons (ps_expr (pe_meth (pv 0) T.cl M.mT M.gT hr4 M.bT .nil passX (pa_cons pe_str pa_nil)))
      (pss_cons (ps_set (i:=1) sc_next_figures.nd rfl (Or.inl rfl) (pe_meth0 (pv 0) T.cl M.mW M.gW hr1 M.bW .nil pass0))
      (pss_cons (ps_if (pt_not (pt_val (pe_cal C_is_figures hr (by omega) rfl (pa_cons (pv 1) pa_nil)))) (pss_one (ps_raise (pe_makeX M0.made M0.ok hr3 rfl g0 M0.b .nil pass0 (pa_cons (pe_fld (pv 0) rfl) pa_nil)))) pss_nil)
      (pss_one (ps_ret (pe_callTy call_int_text rfl B.int boot_int' (pa_cons (pv 1) pa_nil))))))),?_⟩
  obtain ⟨dx0,fs0,hs0,sf0⟩:=id S0
  by_cases c0:(dr Tx p).head?=some 32
  rotate_left
  · exact ⟨_,rfl,sc,dx0,fs0,rfl,hs0,sf0.no3,sc,Tx,_,k,p,m,32,rfl,S0,kk,lit1.2.1,pl,.inr ⟨c0,qr fun y r' _ _ _ e=>c0 (by rw [e]; rfl)⟩⟩
  refine ⟨_,rfl,sc,dx0,fs0,rfl,hs0,sf0.no3,sc,Tx,_,k,p,m,32,rfl,S0,kk,lit1.2.1,pl,.inl ⟨c0,fun H1 S1 B1=>?_⟩⟩
  obtain ⟨d1,p1⟩:=dr_tail c0
  have d0:=hd_eq c0
  rw [← d1] at d0
  obtain ⟨dx1,fs1,hs1,sf1⟩:=id S1
  refine ⟨_,rfl,sc,dx1,fs1,rfl,hs1,sf1.no4,sc,Tx,k,p+1,_,rfl,S1,tl,p1,fun H2 p2 S2 d2 pl2 B2=>?_⟩
  have B02:=B1.trans B2
  obtain ⟨dx2,fs2,hs2,sf2⟩:=id S2
  have wl:=wl_len (p:=p+1) tl
  have e1:dr Tx p=32::(cd (stl (wL (dr Tx (p+1))))++dr Tx p2):=by rw [d2,wL_cd]; exact d0
  have er:EndR (dr Tx p2):=by rw [d2]; exact wR_end _
  have px:PlainC (cd (stl (wL (dr Tx (p+1))))):=wL_no
  generalize stl (wL (dr Tx (p+1)))=x at wl e1 px ⊢
  refine ⟨_,rfl,x,rfl,wl,fun H3 S3=>⟨_,rfl,?_⟩⟩
  cases cm:figB x with
  | false =>
    refine iteT ?_
    have rr:=qr fun i r' i0 i1 hr' e=>by
      rw [e1] at e
      have u:=(uniq px (plainC_num i0) er hr' (List.cons.inj e).2).1
      have:x=numT i:=str_ext u
      rw [this,num_fig i0 i1] at cm
      cases cm
    exact ⟨_,rfl,sc,C,dx2,_,_,rfl,S3 _ _ hs2,T.cl,T.nR,sf2.row,(by show 1≤sizeLine; decide),fun e ze=>mk_sp kk.fm ze fun G4 s4 x4=>⟨rfl,raise_but cl rr (B02.trans (SameBut.of S3)) ze s4 x4⟩⟩
  | true =>
    refine iteF ?_
    obtain ⟨i,i0,i1,ex⟩:=figB_num cm
    refine ⟨_,rfl,x,i,rfl,by rw [ex]; exact num_int i0 i1,by rw [ex]; have:=num_len i0 i1; omega,?_⟩
    exact qs i p2 H3 (by rw [← ex]; exact e1) i0 i1 er (S2.same S3) pl2 (B02.trans (SameBut.of S3))
end
section
variable {C CN CA f0 fE fS fT fW fF:Addr} {fd0 dE dS dT dW dF:FuncData}
theorem iteNF {c A B:Prop} [Decidable c] (hc:¬ c) (h:A):if (!decide c)=true then A else B:=by
  rw [decide_eq_false hc]
  exact iteT h
def NoHr (x:Str):Prop:=∀ h:Hr,h.ok 20→x ≠ h.str
def spHRowR (CN:Addr):Sp:=fun vs H Q E=>∃ (x:Str) (k:Int),vs=[.str x,.int k]∧KOk k∧x.length≤60000∧(∀ (h:Hr) (v:V) (H':Hp),x=h.str→h.ok 20→HrAt H' v h→Same H H'→Q v H')∧(NoHr x→RaisesRow CN k H E)
theorem sc_helper_row:FnScope ["text", "number", "scan", "word", "row"] ["text", "number"] (defScope s_helper_row):=⟨rfl,rfl,rfl,by decide +kernel,rfl,by decide +kernel,by decide +kernel⟩
theorem ok_helper_row {f fI:Addr} {fd fdI:FuncData} (F:Fun K "helper_row" "helper_row" s_helper_row f fd) (X:Tx K mg) (T:STxt K mg C) (g0:mg "NoText" = some (.ref CN)) (cl:ClsX K CN CA) (M0:Mkr P w K mg base CN "row" f0 fd0) (M:MthsR P w K mg base C CN fE fS fT fW fF dE dS dT dW dF) (MK:Mk K C fI) (GI:FnOk P w K mg base CX0 1 fI fdI ["self", "text", "row", "most_within", "most_parts"] (spSInit C)) (bI:Binds K fdI ["self", "text", "row", "most_within", "most_parts"] [])
    (C_next_name:CalR P w K mg base 5 "next_name" ["scan"] (spNNR C CN)) (C_next_figures:CalR P w K mg base 5 "next_figures" ["scan"] (spNFR C CN)) (C_next_term:CalR P w K mg base 22 "next_term" ["scan", "within"] (spNextR C CN 8)):FnOk P w K mg base (CXr P w) 23 f fd ["text", "number"] (spHRowR CN):=by
  refine F.okX sc_helper_row (fun vs H Q E h=>?_) (fun cdv A outer s H vs Q E hr h=>?_)
  · obtain ⟨x,k,rfl,_⟩:=h
    rfl
  obtain ⟨x,k,rfl,kk,xl,qs,qr⟩:=h
  obtain ⟨tw,gw⟩:=X.within
  obtain ⟨tp,gp⟩:=X.parts
  have hr1:Room 1 _:=hr.mono (by decide)
  have hr2:Room 2 _:=hr.mono (by decide)
  have hr3:Room 3 _:=hr.mono (by decide)
  have hr4:Room 4 _:=hr.mono (by decide)
  refine ⟨_,(pss_cons (ps_set (i:=2) sc_helper_row.nd rfl (Or.inl rfl) (pe_make MK GI hr2 rfl T.mgC bI .nil pass0 (pa_cons (pv 0) (pa_cons (pv 1) (pa_cons (pe_glob (v:=.int 8) rfl gw ⟨_,rfl⟩) (pa_cons (pe_glob (v:=.int 20) rfl gp ⟨_,rfl⟩) pa_nil))))))
      (pss_cons (ps_set (i:=3) sc_helper_row.nd rfl (Or.inl rfl) (pe_meth0 (pv 2) T.cl M.mW M.gW hr1 M.bW .nil pass0))
      (pss_cons (ps_set (i:=4) sc_helper_row.nd rfl (Or.inl rfl) (pe_tup (pa_cons (pv 3) pa_nil)))
      (pss_cons (ps_if (pt_cmpR op_eq (pv 3) pe_str (nomark _)) (pss_one (ps_set (i:=4) sc_helper_row.nd rfl (Or.inl rfl) (pe_op op_catT (pv 4) (pe_tup (pa_cons (pe_calR C_next_name hr (by decide) rfl passX (pa_cons (pv 2) pa_nil)) (pa_cons (pe_calR C_next_term hr (by decide) rfl passX (pa_cons (pv 2) (pa_cons pe_int pa_nil))) pa_nil)))))) (pss_one (ps_if (pt_cmpR op_eq (pv 3) pe_str (nomark _)) (pss_one (ps_set (i:=4) sc_helper_row.nd rfl (Or.inl rfl) (pe_op op_catT (pv 4) (pe_tup (pa_cons (pe_calR C_next_term hr (by decide) rfl passX (pa_cons (pv 2) (pa_cons pe_int pa_nil))) pa_nil))))) (pss_one (ps_if (pt_cmpR op_eq (pv 3) pe_str (nomark _)) (pss_one (ps_set (i:=4) sc_helper_row.nd rfl (Or.inl rfl) (pe_op op_catT (pv 4) (pe_tup (pa_cons (pe_calR C_next_term hr (by decide) rfl passX (pa_cons (pv 2) (pa_cons pe_int pa_nil))) (pa_cons (pe_calR C_next_figures hr (by decide) rfl passX (pa_cons (pv 2) pa_nil)) pa_nil)))))) (pss_one (ps_if (pt_cmpR op_eq (pv 3) pe_str (nomark _)) (pss_one (ps_set (i:=4) sc_helper_row.nd rfl (Or.inl rfl) (pe_op op_catT (pv 4) (pe_tup (pa_cons (pe_calR C_next_figures hr (by decide) rfl passX (pa_cons (pv 2) pa_nil)) pa_nil))))) (pss_one (ps_if (pt_cmpR op_ne (pv 3) pe_str (nomark _)) (pss_one (ps_raise (pe_makeX M0.made M0.ok hr3 rfl g0 M0.b .nil pass0 (pa_cons (pv 1) pa_nil)))) pss_nil)))))))))
      (pss_cons (ps_expr (pe_meth0 (pv 2) T.cl M.mF M.gF hr4 M.bF .nil passX))
      (pss_one (ps_ret (pv 4)))))))),?_⟩
  refine ⟨_,rfl,_,rfl,fun g dx nx ndx nex=>?_⟩
  refine ⟨g,dx,x,k,rfl,upd_same,fun H1 S1 B1=>⟨rfl,?_⟩⟩
  have G1:Same H H1:=fun b o e=>B1 b o (ne_of_none e nx) (by rw [upd_ne (ne_of_none e nx),upd_ne (ne_of_none e ndx)]; exact e)
  have lift:∀ {H':Hp},SameBut g H1 H'→Same H H':=fun {H'} B=>G1.but nx B
  have rais:NoHr x→RaisesBut g CN k H1 E:=fun e e' dx' H' B h1 h2=>qr e e' dx' H' (lift B) h1 h2
  obtain ⟨dx1,fs1,hs1,sf1⟩:=id S1
  refine ⟨_,rfl,g,dx1,fs1,rfl,hs1,sf1.no4,g,x,k,0,_,rfl,S1,xl,Nat.zero_le _,fun H2 p2 S2 d2 pl2 B2=>?_⟩
  rw [show dr x 0=cd x from rfl] at d2 ⊢
  generalize hW:stl (wL (cd x))=W
  refine ⟨_,rfl,(by show 1≤sizeLine; decide),fun a ha=>?_⟩
  have Ga:=Same.new ha (.tup [.str W])
  have ea:upd H2 a (.tup [.str W]) a=some (.tup [.str W]):=upd_same
  have S3:=S2.same Ga
  generalize upd H2 a (.tup [.str W])=H3 at Ga ea S3
  have B3:SameBut g H1 H3:=B2.trans (SameBut.of Ga)
  have fin:∀ (h:Hr) (v:V) (H5:Hp) (p5 m5:Nat),ScanAt C H5 g x k p5 m5→SameBut g H1 H5→HrAt H5 v h→(dr x p5=[]→x=h.str∧h.ok 20)→(dr x p5 ≠ []→NoHr x)→∃ dx fs,H5 g=some (.ins C dx fs)∧fs.lookup ("finish" : Str)=none∧((dr x p5=[]∧Q v H5)∨(¬ dr x p5=[]∧RaisesBut g CN k H5 E)):=fun h v H5 p5 m5 S5 B5 T5 y n=>by
    obtain ⟨dx5,fs5,hs5,sf5⟩:=id S5
    refine ⟨dx5,fs5,hs5,sf5.no5,?_⟩
    by_cases c:dr x p5=[]
    · exact .inl ⟨c,qs h v H5 (y c).1 (y c).2 T5 (lift B5)⟩
    · exact .inr ⟨c,(rais (n c)).but B5⟩
  have isF:∀ {x y:Str},x ≠ y→¬ V.str x=V.str y:=fun h=>ne_str h
  by_cases w1:W = "set"
  · subst w1
    refine ⟨_,rfl,rfl,_,rfl,?_⟩
    refine iteD rfl ?_
    refine ⟨_,rfl,_,rfl,g,x,k,p2,0,rfl,S3,kk,xl,pl2,fun y p4 H4 e1 ny er4 S4 pl4 B4=>?_,fun bad=>?_⟩
    rotate_left
    · refine (rais fun h ok e=>?_).but B3
      obtain ⟨y,t,ny,ft,er⟩:=hs_set hW ok e
      rw [← d2] at er
      exact bad y _ ny (end_of (.inl rfl) _) er
    have B04:=B3.trans B4
    have ea4:=keepT_scan S3 B4 _ _ ea
    have sh:∀ h:Hr,h.ok 20→x=h.str→∃ t':Tm,t'.fit 20∧h=.set y t'∧dr x p4=32::t'.txt:=fun h ok e=>by
      obtain ⟨y',t',ny',ft,er⟩:=hs_set hW ok e
      rw [← d2,e1] at er
      obtain ⟨u1,u2⟩:=uniq (plainC_let ny.1) (plainC_let ny'.1) er4 (end_of (.inl rfl) _) (List.cons.inj er).2
      have ey:y=y':=str_ext u1
      subst ey
      have e2:x=(Hr.set y t').str:=hr_str hW (by rw [← d2,e1,u2]; rfl)
      refine ⟨t',ft,?_,u2⟩
      obtain ⟨q1,q2⟩:=hr_wd e
      rw [hW] at q1
      cases h with
      | set y2 t2 =>
        rw [← d2,e1] at q2
        obtain ⟨v1,v2⟩:=uniq (plainC_let ny.1) (plainC_let ok.1.1) er4 (end_of (.inl rfl) _) (List.cons.inj q2).2
        have:y=y2:=str_ext v1
        subst this
        rw [u2] at v2
        have tx:t'.txt=t2.txt:=(List.cons.inj v2).2
        have a1:=pT_is (r':=[]) ft (by rw [List.append_nil]) end_nil
        have a2:=pT_is (r':=[]) ok.2 (by rw [List.append_nil]) end_nil
        rw [tx,a2] at a1
        cases a1
        rfl
      | _=>simp only [Hr.wd] at q1; exact absurd q1 (by decide +kernel)
    refine ⟨_,rfl,g,1,x,k,p4,0,rfl,S4,kk,xl,pl4,by decide,by decide,⟨fun t r' p5 v H5 e5 hm T5 S5 d5 pl5 B5=>?_,fun bad=>?_⟩⟩
    rotate_left
    · refine (rais fun h ok e=>?_).but B04
      obtain ⟨t',ft,_,er⟩:=sh h ok e
      have ep:=pT_is (r:=dr x p4) (r':=[]) ft (by rw [er,List.append_nil]) end_nil
      have:=bad t' [] ep
      have:=ft.2.1
      omega
    have ea5:=keepT_scan S4 B5 _ _ ea4
    obtain ⟨t1,t2,t3⟩:=pT_sound 8 e5
    refine ⟨(by show 2≤sizeLine; decide),fun b hb=>?_⟩
    have Gb:=Same.new hb (.tup [.str y,v])
    refine ⟨a,b,_,_,rfl,rfl,SqT.of (Gb _ _ ea5),SqT.of upd_same,by simp,(by show 3≤sizeLine; decide),fun z=>(by cases z),fun _ p hp=>?_⟩
    have Gp:=Same.new hp (.tup ([V.str "set"]++[.str y,v]))
    have S6:=(S5.same Gb).same Gp
    have ep:upd (upd H5 b (.tup [.str y,v])) p (.tup ([V.str "set"]++[.str y,v])) p=some (.tup [.str "set", .str y,v]):=upd_same
    have N6:=Gb.trans Gp
    generalize upd (upd H5 b (.tup [.str y,v])) p (.tup ([V.str "set"]++[.str y,v]))=H6 at S6 ep N6
    obtain ⟨dx6,fs6,hs6,no6,fn⟩:=fin (.set y t) (.ref p) H6 p5 _ S6 (B04.trans (B5.trans (SameBut.of N6))) (.set ep (T5.mono (keepT_same N6))) (fun c=>by
      rw [d5] at c
      subst c
      refine ⟨hr_str hW ?_,ny,t1,by omega,t2⟩
      rw [← d2,e1,t3,List.append_nil]
      rfl) (fun c h ok e=>by
      obtain ⟨t',ft,_,er⟩:=sh h ok e
      have:=pT_is (r':=[]) ft (er.trans (by rw [List.append_nil])) end_nil
      rw [e5] at this
      cases this
      exact c d5)
    refine ⟨_,rfl,g,dx6,fs6,rfl,hs6,no6,g,x,k,p5,_,rfl,S6,kk,xl,pl5,?_⟩
    rcases fn with ⟨c,fn⟩ | ⟨c,fn⟩
    · exact .inl ⟨c,_,rfl,fn⟩
    · exact .inr ⟨c,fn⟩
  refine ⟨_,rfl,rfl,_,rfl,?_⟩
  refine iteDF (isF w1) ?_
  by_cases w2:W = "say"
  · subst w2
    refine ⟨_,rfl,rfl,_,rfl,?_⟩
    refine iteD rfl ?_
    refine ⟨_,rfl,_,rfl,g,1,x,k,p2,0,rfl,S3,kk,xl,pl2,by decide,by decide,⟨fun t r' p5 v H5 e5 hm T5 S5 d5 pl5 B5=>?_,fun bad=>?_⟩⟩
    rotate_left
    · refine (rais fun h ok e=>?_).but B3
      obtain ⟨t',ft,er⟩:=hs_say hW ok e
      rw [← d2] at er
      have ep:=pT_is (r:=dr x p2) (r':=[]) ft (by rw [er,List.append_nil]) end_nil
      have:=bad t' [] ep
      have:=ft.2.1
      omega
    have ea5:=keepT_scan S3 B5 _ _ ea
    obtain ⟨t1,t2,t3⟩:=pT_sound 8 e5
    refine ⟨(by show 1≤sizeLine; decide),fun b hb=>?_⟩
    have Gb:=Same.new hb (.tup [v])
    refine ⟨a,b,_,_,rfl,rfl,SqT.of (Gb _ _ ea5),SqT.of upd_same,by simp,(by show 2≤sizeLine; decide),fun z=>(by cases z),fun _ p hp=>?_⟩
    have Gp:=Same.new hp (.tup ([V.str "say"]++[v]))
    have S6:=(S5.same Gb).same Gp
    have ep:upd (upd H5 b (.tup [v])) p (.tup ([V.str "say"]++[v])) p=some (.tup [.str "say", v]):=upd_same
    have N6:=Gb.trans Gp
    generalize upd (upd H5 b (.tup [v])) p (.tup ([V.str "say"]++[v]))=H6 at S6 ep N6
    obtain ⟨dx6,fs6,hs6,no6,fn⟩:=fin (.say t) (.ref p) H6 p5 _ S6 (B3.trans (B5.trans (SameBut.of N6))) (.say ep (T5.mono (keepT_same N6))) (fun c=>by
      rw [d5] at c
      subst c
      refine ⟨hr_str hW ?_,t1,by omega,t2⟩
      rw [← d2,t3,List.append_nil]
      rfl) (fun c h ok e=>by
      obtain ⟨t',ft,er⟩:=hs_say hW ok e
      rw [← d2] at er
      have:=pT_is (r':=[]) ft (er.trans (by rw [List.append_nil])) end_nil
      rw [e5] at this
      cases this
      exact c d5)
    refine ⟨_,rfl,g,dx6,fs6,rfl,hs6,no6,g,x,k,p5,_,rfl,S6,kk,xl,pl5,?_⟩
    rcases fn with ⟨c,fn⟩ | ⟨c,fn⟩
    · exact .inl ⟨c,_,rfl,fn⟩
    · exact .inr ⟨c,fn⟩
  refine ⟨_,rfl,rfl,_,rfl,?_⟩
  refine iteDF (isF w2) ?_
  by_cases w3:W = "if"
  · subst w3
    refine ⟨_,rfl,rfl,_,rfl,?_⟩
    refine iteD rfl ?_
    refine ⟨_,rfl,_,rfl,g,1,x,k,p2,0,rfl,S3,kk,xl,pl2,by decide,by decide,⟨fun t r' p4 v H4 e4 hm T4 S4 d4 pl4 B4=>?_,fun bad=>?_⟩⟩
    rotate_left
    · refine (rais fun h ok e=>?_).but B3
      obtain ⟨t',i',ft,_,_,er⟩:=hs_iff hW ok e
      rw [← d2] at er
      have:=bad t' _ (pT_is ft er (end_of (.inl rfl) _))
      have:=ft.2.1
      omega
    have B04:=B3.trans B4
    have ea4:=keepT_scan S3 B4 _ _ ea
    obtain ⟨t1,t2,t3⟩:=pT_sound 8 e4
    have sh:∀ h:Hr,h.ok 20→x=h.str→∃ i:Int,0≤i∧i < 1000000000000∧dr x p4=32::(cd (numT i)++[]):=fun h ok e=>by
      obtain ⟨t',i',ft,i0,i1,er⟩:=hs_iff hW ok e
      rw [← d2] at er
      have:=pT_is ft er (end_of (.inl rfl) _)
      rw [e4] at this
      cases this
      exact ⟨i',i0,i1,by rw [d4,List.append_nil]⟩
    refine ⟨_,rfl,g,x,k,p4,_,rfl,S4,kk,xl,pl4,fun i p5 H5 e5 i0 i1 er5 S5 pl5 B5=>?_,fun bad=>?_⟩
    rotate_left
    · refine (rais fun h ok e=>?_).but B04
      obtain ⟨i,i0,i1,er⟩:=sh h ok e
      exact bad i [] i0 i1 end_nil er
    have ea5:=keepT_scan S4 B5 _ _ ea4
    have T5:=T4.mono (keepT_scan S4 B5)
    refine ⟨(by show 2≤sizeLine; decide),fun b hb=>?_⟩
    have Gb:=Same.new hb (.tup [v,.int i])
    refine ⟨a,b,_,_,rfl,rfl,SqT.of (Gb _ _ ea5),SqT.of upd_same,by simp,(by show 3≤sizeLine; decide),fun z=>(by cases z),fun _ p hp=>?_⟩
    have Gp:=Same.new hp (.tup ([V.str "if"]++[v,V.int i]))
    have S6:=(S5.same Gb).same Gp
    have ep:upd (upd H5 b (.tup [v,.int i])) p (.tup ([V.str "if"]++[v,V.int i])) p=some (.tup [.str "if", v,.int i]):=upd_same
    have N6:=Gb.trans Gp
    generalize upd (upd H5 b (.tup [v,.int i])) p (.tup ([V.str "if"]++[v,V.int i]))=H6 at S6 ep N6
    obtain ⟨dx6,fs6,hs6,no6,fn⟩:=fin (.iff t i) (.ref p) H6 p5 _ S6 (B04.trans (B5.trans (SameBut.of N6))) (.iff ep (T5.mono (keepT_same N6))) (fun c=>by
      rw [c,List.append_nil,d4] at e5
      subst e5
      refine ⟨hr_str hW ?_,⟨t1,by omega,t2⟩,i0,i1⟩
      rw [← d2,t3]
      rfl) (fun c h ok e=>by
      obtain ⟨i',j0,j1,er⟩:=sh h ok e
      rw [e5] at er
      exact c (uniq (plainC_num i0) (plainC_num j0) er5 end_nil (List.cons.inj er).2).2)
    refine ⟨_,rfl,g,dx6,fs6,rfl,hs6,no6,g,x,k,p5,_,rfl,S6,kk,xl,pl5,?_⟩
    rcases fn with ⟨c,fn⟩ | ⟨c,fn⟩
    · exact .inl ⟨c,_,rfl,fn⟩
    · exact .inr ⟨c,fn⟩
  refine ⟨_,rfl,rfl,_,rfl,?_⟩
  refine iteDF (isF w3) ?_
  by_cases w4:W = "go"
  · subst w4
    refine ⟨_,rfl,rfl,_,rfl,?_⟩
    refine iteD rfl ?_
    refine ⟨_,rfl,_,rfl,g,x,k,p2,_,rfl,S3,kk,xl,pl2,fun i p5 H5 e5 i0 i1 er5 S5 pl5 B5=>?_,fun bad=>?_⟩
    rotate_left
    · refine (rais fun h ok e=>?_).but B3
      obtain ⟨i,i0,i1,er⟩:=hs_go hW ok e
      rw [← d2] at er
      exact bad i [] i0 i1 end_nil (by rw [er,List.append_nil])
    have ea5:=keepT_scan S3 B5 _ _ ea
    refine ⟨(by show 1≤sizeLine; decide),fun b hb=>?_⟩
    have Gb:=Same.new hb (.tup [.int i])
    refine ⟨a,b,_,_,rfl,rfl,SqT.of (Gb _ _ ea5),SqT.of upd_same,by simp,(by show 2≤sizeLine; decide),fun z=>(by cases z),fun _ p hp=>?_⟩
    have Gp:=Same.new hp (.tup ([V.str "go"]++[V.int i]))
    have S6:=(S5.same Gb).same Gp
    have ep:upd (upd H5 b (.tup [.int i])) p (.tup ([V.str "go"]++[V.int i])) p=some (.tup [.str "go", .int i]):=upd_same
    have N6:=Gb.trans Gp
    generalize upd (upd H5 b (.tup [.int i])) p (.tup ([V.str "go"]++[V.int i]))=H6 at S6 ep N6
    obtain ⟨dx6,fs6,hs6,no6,fn⟩:=fin (.go i) (.ref p) H6 p5 _ S6 (B3.trans (B5.trans (SameBut.of N6))) (.go ep) (fun c=>by
      rw [c,List.append_nil] at e5
      refine ⟨hr_str hW ?_,i0,i1⟩
      rw [← d2,e5]
      rfl) (fun c h ok e=>by
      obtain ⟨i',j0,j1,er⟩:=hs_go hW ok e
      rw [← d2,e5] at er
      exact c (uniq (plainC_num i0) (plainC_num j0) er5 end_nil (by rw [List.append_nil]; exact (List.cons.inj er).2)).2)
    refine ⟨_,rfl,g,dx6,fs6,rfl,hs6,no6,g,x,k,p5,_,rfl,S6,kk,xl,pl5,?_⟩
    rcases fn with ⟨c,fn⟩ | ⟨c,fn⟩
    · exact .inl ⟨c,_,rfl,fn⟩
    · exact .inr ⟨c,fn⟩
  refine ⟨_,rfl,rfl,_,rfl,?_⟩
  refine iteDF (isF w4) ?_
  refine ⟨_,rfl,rfl,_,rfl,?_⟩
  by_cases w5:W = "end"
  rotate_left
  · refine iteNF (isF w5) ?_
    have rr:=rais fun h _=>hs_no (h:=h) (by rw [hW]; exact w1) (by rw [hW]; exact w2) (by rw [hW]; exact w3) (by rw [hW]; exact w4) (by rw [hW]; exact w5)
    exact ⟨_,rfl,(by show 1≤sizeLine; decide),fun e ze=>mk_sp kk.fm ze fun G4 s4 x4=>⟨rfl,raise_but cl rr B3 ze s4 x4⟩⟩
  subst w5
  refine iteNT rfl ?_
  obtain ⟨dx6,fs6,hs6,no6,fn⟩:=fin .fin (.ref a) H3 p2 _ S3 B3 (.fin ea) (fun c=>⟨hr_str hW (by rw [← d2,c]; rfl),trivial⟩) (fun c h ok e=>c (by rw [d2]; exact hs_fin hW e))
  refine ⟨_,rfl,g,dx6,fs6,rfl,hs6,no6,g,x,k,p2,_,rfl,S3,kk,xl,pl2,?_⟩
  rcases fn with ⟨c,fn⟩ | ⟨c,fn⟩
  · exact .inl ⟨c,_,rfl,fn⟩
  · exact .inr ⟨c,fn⟩
end
section
variable {C CN CA f0 fE fS fT fW fF:Addr} {fd0 dE dS dT dW dF:FuncData}
def BadAt (ls:List Str) (i:Nat):Prop:=i < ls.length∧i≤60∧(∀ (j:Nat) (y:Str),j < i→ls[j]?=some y→∃ h:Hr,h.ok 20∧y=h.str)∧(i=60∨∀ y,ls[i]?=some y→NoHr y)
def spReadR (CN:Addr):Sp:=fun vs H Q E=>∃ (x:Str),vs=[.str x]∧x.length≤100000∧(x = "" → ∀ (a:Addr) (H':Hp),H' a=some (.tup [])→Same H H'→Q (.ref a) H') ∧
  (x ≠ "" → (Txt.split x ("\n" : Str)).length≤1000∧(∀ y ∈ Txt.split x ("\n" : Str),y.length≤60000)∧(∀ (rs:List Hr) (a:Addr) (tv:List V) (H':Hp),Txt.split x ("\n" : Str)=rs.map Hr.str→GoodR rs→H' a=some (.tup tv)→RsAt H' tv rs→Same H H'→Q (.ref a) H')∧(∀ i:Nat,BadAt (Txt.split x ("\n" : Str)) i→RaisesRow CN (i:Int) H E))
theorem sc_read_helper:FnScope ["text", "helper", "number", "row"] ["text"] (defScope s_read_helper):=⟨rfl,rfl,rfl,by decide +kernel,rfl,by decide +kernel,by decide +kernel⟩
theorem ok_read_helper {f:Addr} {fd:FuncData} (F:Fun K "read_helper" "read_helper" s_read_helper f fd) (B:Bl mg) (X:Tx K mg) (g0:mg "NoText" = some (.ref CN)) (cl:ClsX K CN CA) (M0:Mkr P w K mg base CN "row" f0 fd0) (C_helper_row:CalR P w K mg base 23 "helper_row" ["text", "number"] (spHRowR CN)):FnOk P w K mg base (CXr P w) 24 f fd ["text"] (spReadR CN):=by
  refine F.okX sc_read_helper (fun vs H Q E h=>?_) (fun cdv A outer s H vs Q E hr h=>?_)
  · obtain ⟨x,rfl,_⟩:=h
    rfl
  obtain ⟨x,rfl,xl,q0,q⟩:=h
  obtain ⟨tm,gm⟩:=X.rows
  have hr3:Room 3 _:=hr.mono (by decide)
  refine ⟨_,(pss_cons (ps_if (pt_cmpR op_eq (pv 0) pe_str (nomark _)) (pss_one (ps_ret (pe_tup pa_nil))) pss_nil)
      (pss_cons (ps_set (i:=1) sc_read_helper.nd rfl (Or.inl rfl) (pe_lst pa_nil))
      (pss_cons (ps_for ownX rfl (pi_enum rfl B.enumerate (pe_bm PySem.F.plainAttrs_str PySem.F.slot_str_split PySem.F.type_str_split mt_split (pv 0) (pa_cons pe_str pa_nil))) (pg_tup rfl (pgs_cons (pg_name (i:=2) sc_read_helper.nd rfl (Or.inl rfl)) (pgs_cons (pg_name (i:=3) sc_read_helper.nd rfl (Or.inl rfl)) pgs_nil))) (pss_cons (ps_if (pt_cmpR op_eq (pv 2) (pe_glob (v:=.int 60) rfl gm ⟨_,rfl⟩) (nomark _)) (pss_one (ps_raise (pe_makeX M0.made M0.ok hr3 rfl g0 M0.b .nil pass0 (pa_cons (pv 2) pa_nil)))) pss_nil)
        (pss_one (ps_expr (pe_bm PySem.F.plainAttrs_list PySem.F.slot_list_append PySem.F.type_list_append mt_append (pv 1) (pa_cons (pe_calR C_helper_row hr (by decide) rfl passX (pa_cons (pv 3) (pa_cons (pv 2) pa_nil))) pa_nil))))))
      (pss_one (ps_ret (pe_callTy call_tuple_of rfl B.tuple boot_tuple' (pa_cons (pv 1) pa_nil))))))),?_⟩
  refine ⟨_,rfl,rfl,_,rfl,?_⟩
  by_cases c0:x = ""
  · refine iteD (by rw [c0]) ?_
    refine ⟨Nat.zero_le _,fun t ht=>?_⟩
    exact q0 c0 t _ upd_same (Same.new ht _)
  refine iteDF (fun z=>c0 (str_inj z)) ?_
  obtain ⟨l1000,l60,qs,qr⟩:=q c0
  generalize hls:Txt.split x ("\n" : Str)=ls at l1000 l60 qs qr
  refine ⟨Nat.zero_le _,fun L hL=>?_⟩
  have GL:=Same.new hL (.lst [])
  have gL:upd H L (.lst []) L=some (.lst []):=upd_same
  generalize upd H L (.lst [])=H1 at GL gL
  refine ⟨_,rfl,rfl,_,_,rfl,rfl,(by decide +kernel),xl,by rw [hls]; omega,fun a ha=>?_⟩
  rw [hls]
  have Ga:=Same.new ha (.lst (ls.map V.str))
  have ga:upd H1 a (.lst (ls.map V.str)) a=some (.lst (ls.map V.str)):=upd_same
  have aL:a ≠ L:=fun z=>by rw [z,gL] at ha; cases ha
  generalize upd H1 a (.lst (ls.map V.str))=H2 at Ga ga
  have gL2:=Ga _ _ gL
  refine ⟨a,rfl,⟨_,SqL.of ga⟩,for_enum (K:=K) (xs:=ls.map V.str) (fun i σ H'=>∃ (x2 x3:Option V) (tv:List V) (rs:List Hr),σ=[some (.str x),some (.ref L),x2,x3]∧H' L=some (.lst tv)∧RsAt H' tv rs∧ls.take i=rs.map Hr.str∧(∀ r ∈ rs,r.ok 20)∧rs.length≤60∧SameBut L H2 H')
    ⟨_,_,[],[],rfl,gL2,RsAt.nil,rfl,(fun r hr=>by cases hr),Nat.zero_le _,SameBut.refl _ _⟩ (fun i σ H' _ hst=>by obtain ⟨_,_,_,_,_,_,_,_,_,_,h⟩:=hst; exact SqL.of (h _ _ aL ga)) ?_ ?_⟩
  · rintro i z σ H3 t hz ⟨x2,x3,tv,rs,rfl,hL3,R3,et,rok,r60,S3⟩ ht
    have hi:=(List.getElem?_eq_some_iff.mp hz).1
    rw [List.length_map] at hi
    rw [List.getElem?_map] at hz
    obtain ⟨y,hy,rfl⟩:=Option.map_eq_some_iff.mp hz
    have Gt:=Same.new ht (.tup [.int (i:Int),.str y])
    have hL4:=Gt _ _ hL3
    have vl:=R3.1
    have il:rs.length=i:=by
      have:=congrArg List.length et
      rw [List.length_take,List.length_map] at this
      omega
    have S03:Same H H3:=fun b o e=>S3 b o (ne_of_none e hL) (Ga _ _ (GL _ _ e))
    have all:∀ (j:Nat) (u:Str),j < i→ls[j]?=some u→∃ h:Hr,h.ok 20∧u=h.str:=fun j u hj hu=>by
      have h1:(ls.take i)[j]?=some u:=by rw [List.getElem?_take,if_pos hj]; exact hu
      rw [et,List.getElem?_map] at h1
      obtain ⟨r,hr,e⟩:=Option.map_eq_some_iff.mp h1
      exact ⟨r,rok r (List.mem_of_getElem? hr),e.symm⟩
    have kk:KOk (i:Int):=⟨Int.natCast_nonneg _,by omega⟩
    refine ⟨t,_,rfl,SqT.of upd_same,rfl,_,_,rfl,_,_,rfl,rfl,?_⟩
    refine ⟨_,rfl,rfl,_,rfl,?_⟩
    by_cases c60:i=60
    · refine iteD (by rw [c60]; rfl) ?_
      have rr:=qr i ⟨hi,by omega,all,.inl c60⟩
      exact ⟨_,rfl,(by show 1≤sizeLine; decide),fun e ze=>mk_sp kk.fm ze fun G4 s4 x4=>⟨rfl,raise_row cl rr (S03.trans Gt) ze s4 x4⟩⟩
    refine iteDF (fun z=>by have:=V.int.inj z; omega) ?_
    refine ⟨_,rfl,.inl ⟨rfl,_,SqL.of hL4⟩,_,rfl,_,rfl,y,_,rfl,kk,l60 y (List.mem_of_getElem? hy),fun h v H4 eh ok ra S4=>?_,fun bad=>?_⟩
    rotate_left
    · exact (qr i ⟨hi,by omega,all,.inr fun u hu=>by rw [hy] at hu; cases hu; exact bad⟩).same (S03.trans Gt)
    have S34:Same H3 H4:=Gt.trans S4
    have hL5:=S34 _ _ hL3
    have kp:KeepT H4 (upd H4 L (.lst (tv++[v]))):=keepT_lst hL5
    refine ⟨L,_,_,rfl,rfl,hL5,small1000 (by omega),?_⟩
    refine ⟨_,_,tv++[v],rs++[h],rfl,upd_same,((R3.mono (keepT_same S34)).mono kp).snoc (ra.mono kp),?_,?_,?_,?_⟩
    · rw [List.take_add_one,hy,List.map_append,et,eh]
      rfl
    · intro r hr
      rcases List.mem_append.mp hr with hr | hr
      · exact rok r hr
      · rw [List.mem_singleton.mp hr]
        exact ok
    · rw [List.length_append,il]
      show i+1≤60
      omega
    · exact S3.trans ((SameBut.of S34).trans (SameBut.upd _))
  · rintro σ H3 ⟨x2,x3,tv,rs,rfl,hL3,R3,et,rok,r60,S3⟩
    rw [List.length_map,List.take_length] at et
    refine ⟨_,rfl,L,_,rfl,.inl ⟨SqL.of hL3,fun t ht=>?_⟩⟩
    have S03:Same H H3:=fun b o e=>S3 b o (ne_of_none e hL) (Ga _ _ (GL _ _ e))
    exact qs rs t tv _ et ⟨r60,rok⟩ upd_same (R3.mono (keepT_same (Same.new ht _))) (S03.trans (Same.new ht _))
end
def wstr (ws:List (List Nat)):List V:=ws.map fun u=>V.str (stl u)
inductive spWds (vs:List V) (H:Hp) (Q:VK) (u_3:XK):Prop where
  | mk:∀ x:Str,(vs=[.str x])→(x.length≤60000)→(∀ (a:Addr) (H':Hp),H' a=some (.lst (wstr (wosL (cd x))))→Same H H'→Q (.ref a) H')→spWds vs H Q u_3
theorem sc_l_words_of:FnScope ["_law_text_here", "_law_found", "_law_deep", "_law_sign_here"] ["_law_text_here"] (defScope s_l_words_of):=⟨rfl,rfl,rfl,by decide +kernel,rfl,by decide +kernel,by decide +kernel⟩
theorem one_eq {c:Nat} {y:Str} (d:Nat) (h:y.cps.toList=[d]):decide (V.str (⟨#[c]⟩:Str)=V.str y)=decide (c=d):=by
  by_cases e:c=d
  · subst e
    have:(⟨#[c]⟩:Str)=y:=str_ext h.symm
    rw [this,decide_eq_true rfl,decide_eq_true rfl]
  · have:¬ V.str (⟨#[c]⟩:Str)=V.str y:=fun z=>e (by
      have:=congrArg (fun w:Str=>w.cps.toList) (V.str.inj z)
      rw [h] at this
      exact (List.cons.inj this).1)
    rw [decide_eq_false this,decide_eq_false e]
theorem ixN_neg1 (n:Nat):ixN (n+1) (-1)=some n:=by
  unfold ixN
  rw [if_neg (by decide),if_pos (by omega)]
  congr 1
  omega
theorem set_last {α:Type} (xs:List α) (v u:α):(xs++[v]).set xs.length u=xs++[u]:=by
  rw [List.set_append_right _ _ (Nat.le_refl _),Nat.sub_self]
  rfl
theorem ok_l_words_of {f:Addr} {fd:FuncData} (F:Fun K "_law_words_of" "_law_words_of" s_l_words_of f fd) (B:Bl mg):FnOk P w K mg base CX0 1 f fd ["_law_text_here"] spWds:=by
  refine F.ok sc_l_words_of (fun vs H Q E h=>?_) (fun cdv A outer s H vs Q E hr h=>?_)
  · obtain ⟨x,rfl,_⟩:=h
    rfl
  obtain ⟨x,rfl,xl,q⟩:=h
  refine ⟨_,(pss_cons (ps_set (i:=1) sc_l_words_of.nd rfl (Or.inl rfl) (pe_lst (pa_cons pe_str pa_nil)))
      (pss_cons (ps_set (i:=2) sc_l_words_of.nd rfl (Or.inl rfl) pe_int)
      (pss_cons (ps_for PassesOwn.never rfl (pi_str (pv 0)) (pg_name (i:=3) sc_l_words_of.nd rfl (Or.inl rfl))
        (pss_cons (ps_set (i:=2) sc_l_words_of.nd rfl (Or.inl rfl) (pe_op op_sub (pe_op op_add (pv 2) (pe_callTy call_int1 rfl B.int boot_int' (pa_cons (pe_cmpR op_eq (pv 3) pe_str (nomark _)) pa_nil))) (pe_callTy call_int1 rfl B.int boot_int' (pa_cons (pe_cmpR op_eq (pv 3) pe_str (nomark _)) pa_nil))))
        (pss_cons (ps_if (pt_cmpR op_lt (pv 2) pe_int (nomark _)) (pss_one (ps_ret (pe_lst (pa_cons pe_str pa_nil)))) pss_nil)
        (pss_one (ps_if (PW.pt (pw_and (pt_cmpR op_eq (pv 3) pe_str (nomark _)) (pw_and1 (pt_cmpR op_eq (pv 2) pe_int (nomark _)))))
          (pss_one (ps_expr (pe_bm PySem.F.plainAttrs_list PySem.F.slot_list_append PySem.F.type_list_append mt_append (pv 1) (pa_cons pe_str pa_nil))))
          (pss_one (ps_asg (pe_op op_add_str (pe_ix ix_list (pv 1) (pe_un un_neg pe_int) (fun _ _=>rfl)) (pv 3)) (pg_sub (pv 1) (pe_un un_neg pe_int) set_list))))))))
      (pss_cons (ps_if (pt_cmpR op_gt (pv 2) pe_int (nomark _)) (pss_one (ps_ret (pe_lst (pa_cons pe_str pa_nil)))) pss_nil)
      (pss_one (ps_ret (pv 1))))))),?_⟩
  refine ⟨(by show 1≤sizeLine; decide),fun L hL=>?_⟩
  have GL:=Same.new hL (.lst [.str ""])
  have gL:upd H L (.lst [.str ""]) L=some (.lst [.str ""]):=upd_same
  generalize upd H L (.lst [.str ""])=H1 at GL gL
  have es:stl []=("" : Str):=by decide +kernel
  have none_ret:woF (cd x) [] 0=none→∀ {H2:Hp},SameBut L H1 H2→∀ a,H2 a=none→Q (.ref a) (upd H2 a (.lst [.str ""])):=fun hn H2 S2 a ha=>by
    refine q a _ ?_ ?_
    · rw [upd_same]
      unfold wosL
      rw [hn]
      show _=some (HO.lst [V.str (stl [])])
      rw [es]
    · have N:Same H H2:=fun b o e=>S2 b o (ne_of_none e hL) (GL _ _ e)
      exact N.trans (Same.new ha _)
  refine ⟨_,rfl,x,rfl,for_str (z:=x) (fun i σ H'=>∃ (x3:Option V) (dn:List (List Nat)) (cur:List Nat) (d:Nat),σ=[some (.str x),some (.ref L),some (.int (d:Int)),x3]∧H' L=some (.lst (wstr (dn++[cur])))∧woF (cd x) [] 0=(woF ((cd x).drop i) cur d).map (dn++·)∧SameBut L H1 H'∧dn.length+cur.length≤i∧d≤i) ?_ ?_ ?_⟩
  · refine ⟨_,[],[],0,rfl,?_,?_,SameBut.refl _ _,Nat.le_refl _,Nat.le_refl _⟩
    · rw [gL,← es]
      rfl
    · rw [List.drop_zero]
      cases woF (cd x) [] 0 <;> rfl
  · rintro i c σ H2 hc ⟨x3,dn,cur,d,rfl,hL2,ew,S2,sz,dl⟩
    have hi:i < x.length:=(Array.getElem?_eq_some_iff.mp hc).1
    have hd:(cd x).drop i=c::(cd x).drop (i+1):=by
      have h1:(cd x)[i]?=some c:=by unfold cd; rw [Array.getElem?_toList]; exact hc
      obtain ⟨h2,h3⟩:=List.getElem?_eq_some_iff.mp h1
      rw [List.drop_eq_getElem_cons h2,h3]
    rw [hd] at ew
    refine ⟨_,rfl,_,rfl,rfl,.inr ⟨_,rfl,_,_,rfl,rfl,_,rfl,rfl,.inr ⟨_,rfl,_,_,rfl,rfl,?_⟩⟩⟩
    rw [one_eq 40 lit_po,one_eq 41 lit_pc]
    generalize hv:((d:Int)+(if decide (c=40)=true then 1 else 0) - (if decide (c=41)=true then 1 else 0))=v
    have lw:(wstr (dn++[cur])).length≤i+1:=by
      unfold wstr
      rw [List.length_map,List.length_append,List.length_singleton]
      omega
    by_cases k1:c=41∧d=0
    · obtain ⟨rfl,rfl⟩:=k1
      have:v=-1:=by rw [← hv]; rfl
      subst this
      refine ⟨_,rfl,_,_,rfl,rfl,_,rfl,?_⟩
      refine iteD (by decide) ?_
      refine ⟨(by show 1≤sizeLine; decide),fun a ha=>?_⟩
      refine none_ret ?_ S2 a ha
      rw [ew,woF,if_pos ⟨rfl,rfl⟩]
      rfl
    rw [woF,if_neg k1] at ew
    have hv2:v=((if c=40 then d+1 else if c=41 then d - 1 else d:Nat):Int):=by
      rw [← hv]
      by_cases a1:c=40
      · subst a1
        rfl
      by_cases a2:c=41
      · subst a2
        have:d ≠ 0:=fun z=>k1 ⟨rfl,z⟩
        show (d:Int)+0 - 1=((d - 1:Nat):Int)
        omega
      · rw [decide_eq_false a1,decide_eq_false a2,if_neg a1,if_neg a2]
        show (d:Int)+0 - 0=d
        omega
    have hi2:(if c=40 then d+1 else if c=41 then d - 1 else d:Nat)≤i+1:=by
      split
      · omega
      · split <;> omega
    have he:c=32→(if c=40 then d+1 else if c=41 then d - 1 else d:Nat)=d:=fun h=>by rw [if_neg (by omega),if_neg (by omega)]
    generalize (if c=40 then d+1 else if c=41 then d - 1 else d:Nat)=e at ew hv2 hi2 he
    subst hv2
    refine ⟨_,rfl,_,_,rfl,rfl,_,rfl,?_⟩
    refine iteDF (by omega) ?_
    have asg:¬ (c=32∧d=0)→∃ (x3:Option V) (dn2:List (List Nat)) (cur2:List Nat) (d2:Nat),([some (V.str x),some (V.ref L),some (V.int (e:Int)),some (V.str (⟨#[c]⟩:Str))]:St)=[some (.str x),some (.ref L),some (.int (d2:Int)),x3]∧(upd H2 L (.lst ((wstr (dn++[cur])).set dn.length (.str (stl cur++(⟨#[c]⟩:Str)))))) L=some (.lst (wstr (dn2++[cur2])))∧woF (cd x) [] 0=(woF ((cd x).drop (i+1)) cur2 d2).map (dn2++·)∧SameBut L H1 (upd H2 L (.lst ((wstr (dn++[cur])).set dn.length (.str (stl cur++(⟨#[c]⟩:Str))))))∧dn2.length+cur2.length≤i+1∧d2≤i+1:=fun hn=>by
      rw [if_neg hn] at ew
      refine ⟨_,dn,cur++[c],e,rfl,?_,ew,S2.trans (SameBut.upd _),?_,hi2⟩
      · rw [upd_same]
        have h1:stl cur++(⟨#[c]⟩:Str)=stl (cur++[c]):=str_ext (by rw [cat_list]; rfl)
        rw [h1]
        unfold wstr
        rw [List.map_append,List.map_append]
        have h2:dn.length=(dn.map fun u=>V.str (stl u)).length:=by rw [List.length_map]
        rw [h2]
        show some (HO.lst (((dn.map fun u=>V.str (stl u))++[V.str (stl cur)]).set _ _))=_
        rw [set_last]
        rfl
      · rw [List.length_append,List.length_singleton]
        omega
    have lst:atI (wstr (dn++[cur])) (-1)=some (.str (stl cur)):=by
      unfold wstr
      rw [List.map_append]
      exact atI_last _ _
    have ixl:ixN (wstr (dn++[cur])).length (-1)=some dn.length:=by
      have:(wstr (dn++[cur])).length=dn.length+1:=by
        unfold wstr
        rw [List.length_map,List.length_append,List.length_singleton]
      rw [this]
      exact ixN_neg1 _
    refine ⟨_,rfl,rfl,_,rfl,?_⟩
    rw [one_eq 32 lit_sp]
    by_cases c32:c=32
    · subst c32
      refine iteD rfl ?_
      refine ⟨_,rfl,rfl,_,rfl,?_⟩
      by_cases e0:e=0
      · subst e0
        refine iteD rfl ?_
        have d0:d=0:=(he rfl).symm
        rw [if_pos ⟨rfl,d0⟩] at ew
        refine ⟨_,rfl,.inl ⟨rfl,_,SqL.of hL2⟩,L,_,_,rfl,rfl,hL2,Nat.lt_of_le_of_lt lw (by show i+1 < 2 ^ 24; omega),_,dn++[cur],[],0,rfl,?_,?_,S2.trans (SameBut.upd _),?_,Nat.zero_le _⟩
        · rw [upd_same,← es]
          unfold wstr
          rw [List.map_append (l₁:=dn++[cur])]
          rfl
        · rw [ew,Option.map_map]
          congr 1
          funext ws
          show dn++cur::ws=dn++[cur]++ws
          simp
        · rw [List.length_append,List.length_singleton,List.length_nil]
          omega
      · refine iteDF (fun z=>e0 (by have:=V.int.inj z; omega)) ?_
        refine ⟨_,rfl,_,rfl,L,_,-1,_,rfl,rfl,SqL.of hL2,lst,_,rfl,_,_,rfl,rfl,?_,_,rfl,_,rfl,L,_,-1,dn.length,rfl,rfl,hL2,ixl,asg (fun z=>e0 (by rw [he rfl]; exact z.2))⟩
        rw [stl_len]
        show cur.length+1≤2 ^ 24
        omega
    · refine iteDF c32 ?_
      refine ⟨_,rfl,_,rfl,L,_,-1,_,rfl,rfl,SqL.of hL2,lst,_,rfl,_,_,rfl,rfl,?_,_,rfl,_,rfl,L,_,-1,dn.length,rfl,rfl,hL2,ixl,asg (fun z=>c32 z.1)⟩
      rw [stl_len]
      show cur.length+1≤2 ^ 24
      omega
  · rintro σ H2 ⟨x3,dn,cur,d,rfl,hL2,ew,S2,sz,dl⟩
    have hn:(cd x).drop x.cps.size=[]:=List.drop_eq_nil_of_le (by unfold cd; rw [Array.length_toList]; exact Nat.le_refl _)
    rw [hn] at ew
    refine ⟨_,rfl,_,_,rfl,rfl,_,rfl,?_⟩
    by_cases c:(0:Int) < (d:Int)
    · refine iteD c ?_
      refine ⟨(by show 1≤sizeLine; decide),fun a ha=>?_⟩
      refine none_ret ?_ S2 a ha
      rw [ew]
      unfold woF
      rw [if_neg (by omega)]
      rfl
    · refine iteDF c ?_
      have N:Same H H2:=fun b o e=>S2 b o (ne_of_none e hL) (GL _ _ e)
      refine ⟨_,rfl,q L _ ?_ N⟩
      rw [hL2]
      unfold wosL
      rw [ew]
      unfold woF
      rw [if_pos (by omega)]
      rfl
def allB (x s:Str):Bool:=!decide (x = "") && x.cps.toList.all (isIn s)
def sgn (l:List Nat):List V:=(l.map fun c=>(⟨#[c]⟩:Str)).map V.str
inductive spAll (vs:List V) (H:Hp) (Q:VK) (u_3:XK):Prop where
  | mk:∀ x s:Str,(vs=[.str x,.str s])→(x.length≤60000)→(∀ H',Same H H'→Q (.bl (allB x s)) H')→spAll vs H Q u_3
inductive rEqNil (K:PySem.W.Frag) (x:V) (y:V) (H:Hp) (Q:VK):Prop where
  | mk:∀ a b xs,(x=.ref a)→(y=.ref b)→(SqL K H a xs)→(SqL K H b [])→(Q (.bl xs.isEmpty) H)→rEqNil K x y H Q
theorem op_eqNil {X:Cx} (hu:X.A.units < cLine):OpR X (compareOp .Eq) (rEqNil X.K):=by
  intro pins s σ H x y v u Q I rx ry h
  obtain ⟨a,b,xs,rfl,rfl,ha,hb,q⟩:=h
  cases rx
  cases ry
  obtain ⟨its,r1,p1,_⟩:=I.list ha
  obtain ⟨its2,r2,p2,_⟩:=I.list hb
  have e2:its2=[]:=r2.nil_iff.mpr rfl
  subst e2
  cases xs with
  | nil =>
    have e1:its=[]:=r1.nil_iff.mpr rfl
    subst e1
    exact (SeqAt.RcAt.lists (e:=fun _=>true) p1.isList p2.isList rfl hu fun j h1=>absurd h1 (by simp)) X.prog X.w X.xe _ ⟨.bl true,H,I,rfl,q⟩
  | cons z r =>
    have l1:=r1.length
    exact (SeqAt.RcAt.lists_lengths p1.isList p2.isList (by simp at l1 ⊢; intro e; rw [e] at l1; simp at l1) hu) X.prog X.w X.xe _ ⟨.bl false,H,I,rfl,q⟩
theorem sc_l_all_of:FnScope ["_law_text_here", "_law_signs"] ["_law_text_here", "_law_signs"] (defScope s_l_all_of):=⟨rfl,rfl,rfl,by decide +kernel,rfl,by decide +kernel,by decide +kernel⟩
theorem ok_l_all_of {f:Addr} {fd:FuncData} (F:Fun K "_law_all_of" "_law_all_of" s_l_all_of f fd):FnOk P w K mg base CX0 1 f fd ["_law_text_here", "_law_signs"] spAll:=by
  refine F.ok sc_l_all_of (fun vs H Q E h=>?_) (fun cdv A outer s H vs Q E hr h=>?_)
  · obtain ⟨x,s,rfl,_⟩:=h
    rfl
  obtain ⟨x,t,rfl,xl,q⟩:=h
  refine ⟨_,(pss_one (ps_ret (pe_and (pe_cmpR op_ne (pv 0) pe_str (nomark _)) (pe_one (pe_cmpR (op_eqNil hr.units0) (pe_comp (N:=["_law_signs"]) (ix:=[1]) rfl
          (CompScope.one (by with_unfolding_all rfl) (by decide) rfl (by decide) rfl (by decide +kernel) (by with_unfolding_all rfl) (by with_unfolding_all rfl) (by with_unfolding_all rfl) rfl rfl) rfl
          (pi_str (pv 0)) (fun _ _ _=>pb_if (pt_cmpR op_notIn_str (pv 0) (pv 1) (by with_unfolding_all rfl)) (pv 0))) (pe_lst pa_nil) (nomark _)))))),?_⟩
  have fl:allB x t=false→Q (.bl false) H:=fun e=>by
    have:=q H (Same.refl H)
    rw [e] at this
    exact this
  refine ⟨_,rfl,rfl,_,rfl,?_⟩
  by_cases c0:x = ""
  · refine iteNT (by rw [c0]) ?_
    exact fl (by unfold allB; rw [decide_eq_true c0]; rfl)
  refine iteNF (fun z=>c0 (V.str.inj z)) ?_
  refine ⟨_,rfl,x,rfl,fun D hD=>?_⟩
  refine comp_str (z:=x) (fun i H'=>H' D=some (.lst (sgn (((cd x).take i).filter fun c=>!isIn t c)))∧Same H H') ⟨by rw [upd_same]; rfl,Same.new hD _⟩ ?_ ?_
  · rintro i c H' hc ⟨hl,s0⟩
    have hi:i < x.length:=(Array.getElem?_eq_some_iff.mp hc).1
    have ec:(cd x)[i]?=some c:=by unfold cd; rw [Array.getElem?_toList]; exact hc
    have et:((cd x).take (i+1)).filter (fun c=>!isIn t c)=((cd x).take i).filter (fun c=>!isIn t c)++(if isIn t c=true then [] else [c]):=by
      rw [List.take_add_one,ec,List.filter_append]
      congr 1
      show [c].filter _=_
      cases h:isIn t c <;> simp [h]
    refine ⟨_,rfl,_,rfl,_,_,rfl,rfl,_,rfl,?_⟩
    cases hin:isIn t c with
    | true =>
      unfold isIn at hin
      rw [hin]
      refine iteF (Nx.of hi ⟨?_,s0⟩)
      rw [et]
      unfold isIn
      rw [hin,if_pos rfl,List.append_nil]
      exact hl
    | false =>
      unfold isIn at hin
      rw [hin]
      refine iteT ?_
      refine ⟨_,rfl,_,hl,?_,Nx.of hi ⟨?_,fun b o e=>?_⟩⟩
      · have h1:(((cd x).take i).filter fun c=>!isIn t c).length≤i:=Nat.le_trans (List.length_filter_le _ _) (by rw [List.length_take]; omega)
        unfold sgn
        rw [List.length_map,List.length_map]
        show _ < 2 ^ 24
        omega
      · rw [upd_same,et]
        have hin':isIn t c=false:=hin
        rw [hin',if_neg (by decide)]
        unfold sgn
        rw [List.map_append,List.map_append]
        rfl
      · rw [upd_ne (ne_of_none e hD)]
        exact s0 b o e
  · rintro H' ⟨hl,s0⟩
    have ht:(cd x).take x.cps.size=cd x:=by unfold cd; rw [← Array.length_toList]; exact List.take_length
    rw [ht] at hl
    refine ⟨Nat.zero_le _,fun p hp=>?_⟩
    have Gp:=Same.new hp (.lst [])
    have fin:=q _ (s0.trans Gp)
    generalize hz:((cd x).filter fun c=>!isIn t c)=zs at hl
    have ea:allB x t=(sgn zs).isEmpty:=by
      unfold allB sgn
      rw [decide_eq_false c0,← hz]
      show (true && (cd x).all (isIn t))=_
      rw [Bool.true_and]
      cases h:(cd x).all (isIn t) with
      | true =>
        have:(cd x).filter (fun c=>!isIn t c)=[]:=List.filter_eq_nil_iff.mpr fun c hc=>by
          rw [List.all_eq_true.mp h c hc]
          decide
        rw [this]
        rfl
      | false =>
        obtain ⟨c,hc,hn⟩:=List.all_eq_false.mp h
        have:c ∈ (cd x).filter (fun c=>!isIn t c):=List.mem_filter.mpr ⟨hc,by
          cases h2:isIn t c with
          | true=>exact absurd h2 hn
          | false=>rfl⟩
        generalize (cd x).filter (fun c=>!isIn t c)=ws at this
        cases ws with
        | nil=>cases this
        | cons a r=>rfl
    rw [ea] at fin
    exact ⟨_,_,_,rfl,rfl,SqL.of (Gp _ _ hl),SqL.of upd_same,fin⟩
theorem allB_iff {x s:Str}:allB x s=(decide (1≤x.length) && x.cps.toList.all (isIn s)):=by
  unfold allB
  congr 1
  by_cases c:x = ""
  · subst c
    decide +kernel
  · rw [decide_eq_false c]
    have:1≤x.length:=by
      apply Nat.pos_of_ne_zero
      intro z
      apply c
      refine str_ext ?_
      have h:x.cps.toList.length=0:=by rw [Array.length_toList]; exact z
      rw [List.length_eq_zero_iff.mp h]
      decide +kernel
    rw [decide_eq_true this]
    rfl
theorem sc_l_is_name:FnScope ["_law_text_here"] ["_law_text_here"] (defScope s_l_is_name):=⟨rfl,rfl,rfl,by decide +kernel,rfl,by decide +kernel,by decide +kernel⟩
theorem ok_l_is_name {f:Addr} {fd:FuncData} (F:Fun K "_law_is_name" "_law_is_name" s_l_is_name f fd) (B:Bl mg) (C_l_all_of:Cal P w K mg base 1 "_law_all_of" ["_law_text_here", "_law_signs"] spAll):FnOk P w K mg base CX0 2 f fd ["_law_text_here"] (spTxt nameB):=by
  refine F.ok sc_l_is_name (fun vs H Q E h=>?_) (fun cdv A outer s H vs Q E hr h=>?_)
  · obtain ⟨z,rfl,_⟩:=h
    rfl
  obtain ⟨z,rfl,zl,q⟩:=h
  refine ⟨_,(pss_cons (ps_if (PW.pt (pw_or (pt_not (pt_val (pe_cal C_l_all_of hr (by decide) rfl (pa_cons (pv 0) (pa_cons pe_str pa_nil))))) (pw_or1 (pt_cmpR op_gt (pe_callB call_len_str rfl B.len PySem.boot_len (pa_cons (pv 0) pa_nil)) pe_int (nomark _))))) (pss_one (ps_ret pe_bl)) pss_nil)
      (pss_one (ps_ret (pe_cmpR op_notIn_seq (pv 0) (pe_lst (pa_cons pe_str (pa_cons pe_str (pa_cons pe_str (pa_cons pe_str (pa_cons pe_str (pa_cons pe_str (pa_cons pe_str (pa_cons pe_str (pa_cons pe_str (pa_cons pe_str (pa_cons pe_str (pa_cons pe_str pa_nil))))))))))))) (by with_unfolding_all rfl))))),?_⟩
  refine ⟨_,rfl,z,LET,rfl,zl,fun H1 S1=>⟨_,rfl,?_⟩⟩
  have ea:=allB_iff (x:=z) (s:=LET)
  have en:∀ b:Bool,nameB z=b→Q (.bl b) H1:=fun b e=>by
    have:=q H1 S1
    rw [e] at this
    exact this
  cases ha:allB z LET with
  | false =>
    refine iteT (iteT ?_)
    refine en false ?_
    rw [ha] at ea
    unfold nameB
    cases h1:decide (1≤z.length) with
    | false=>rfl
    | true =>
      rw [h1,Bool.true_and] at ea
      rw [← ea,Bool.and_false]
  | true =>
    refine iteF ?_
    rw [ha] at ea
    obtain ⟨a1,a2⟩:=Bool.and_eq_true_iff.mp ea.symm
    refine ⟨_,rfl,z,rfl,smallT zl,_,_,rfl,rfl,_,rfl,?_⟩
    by_cases c6:(6:Int) < (z.length:Int)
    · refine iteD c6 ?_
      refine en false ?_
      unfold nameB
      rw [decide_eq_false (show ¬ z.length≤6 by omega)]
      simp
    refine iteDF c6 ?_
    refine ⟨_,rfl,(by show 12≤sizeLine; decide),fun p hp=>?_⟩
    have Gp:=Same.new hp (.lst (kept.map V.str))
    refine ⟨p,kept.map V.str,rfl,.inl (SqL.of upd_same),rfl,(by decide),?_⟩
    have e2:nameB z=!inV (.str z) (kept.map V.str):=by
      unfold nameB
      rw [a1,a2,decide_eq_true (show z.length≤6 by omega)]
      simp
    have:=q _ (S1.trans Gp)
    rw [e2] at this
    exact this
theorem sc_l_is_figures:FnScope ["_law_text_here"] ["_law_text_here"] (defScope s_l_is_figures):=⟨rfl,rfl,rfl,by decide +kernel,rfl,by decide +kernel,by decide +kernel⟩
theorem ok_l_is_figures {f:Addr} {fd:FuncData} (F:Fun K "_law_is_figures" "_law_is_figures" s_l_is_figures f fd) (B:Bl mg) (C_l_all_of:Cal P w K mg base 1 "_law_all_of" ["_law_text_here", "_law_signs"] spAll):FnOk P w K mg base CX0 2 f fd ["_law_text_here"] (spTxt figB):=by
  refine F.ok sc_l_is_figures (fun vs H Q E h=>?_) (fun cdv A outer s H vs Q E hr h=>?_)
  · obtain ⟨z,rfl,_⟩:=h
    rfl
  obtain ⟨z,rfl,zl,q⟩:=h
  refine ⟨_,(pss_one (ps_ret (pe_and (pe_cal C_l_all_of hr (by decide) rfl (pa_cons (pv 0) (pa_cons pe_str pa_nil))) (pe_and (pe_cmpR op_lt (pe_callB call_len_str rfl B.len PySem.boot_len (pa_cons (pv 0) pa_nil)) pe_int (nomark _)) (pe_one (pe_or (pe_cmpR op_ne (pe_ix ix_str (pv 0) pe_int (fun _ _=>rfl)) pe_str (nomark _)) (pe_one (pe_cmpR op_eq (pv 0) pe_str (nomark _))))))))),?_⟩
  refine ⟨_,rfl,z,FIG,rfl,zl,fun H1 S1=>⟨_,rfl,?_⟩⟩
  have ea:=allB_iff (x:=z) (s:=FIG)
  have en:∀ b:Bool,figB z=b→Q (.bl b) H1:=fun b e=>by
    have:=q H1 S1
    rw [e] at this
    exact this
  cases ha:allB z FIG with
  | false =>
    refine iteF ?_
    refine en false ?_
    rw [ha] at ea
    unfold figB
    cases h1:decide (1≤z.length) with
    | false=>rfl
    | true =>
      rw [h1,Bool.true_and] at ea
      rw [← ea,Bool.and_false]
  | true =>
    refine iteT ?_
    rw [ha] at ea
    obtain ⟨a1,a2⟩:=Bool.and_eq_true_iff.mp ea.symm
    refine ⟨_,rfl,z,rfl,smallT zl,_,_,rfl,rfl,_,rfl,?_⟩
    by_cases c13:(z.length:Int) < 13
    rotate_left
    · refine iteDF c13 ?_
      refine en false ?_
      unfold figB
      rw [decide_eq_false (show ¬ z.length≤12 by omega)]
      simp
    refine iteD c13 ?_
    have l1:1≤z.length:=of_decide_eq_true a1
    cases q0:z.cps.toList with
    | nil =>
      have:z.cps.toList.length=0:=by rw [q0]; rfl
      rw [Array.length_toList] at this
      exact absurd this (by show ¬ z.length=0; omega)
    | cons c r =>
      have g0:z.cps.toList[0]?=some c:=by rw [q0]; rfl
      have st:=starts_zero g0
      have at0':atI z.cps.toList 0=some c:=by rw [q0]; exact atI_nat (j:=0) rfl
      refine ⟨_,rfl,z,0,c,rfl,rfl,smallT zl,at0',rfl,_,rfl,?_⟩
      have fg:figB z=!(decide (1 < z.length) && Txt.startswith z "0"):=by
        unfold figB
        rw [a1,a2,decide_eq_true (show z.length≤12 by omega)]
        simp
      rw [st] at fg
      by_cases c0:V.str (⟨#[c]⟩:Str)=V.str "0"
      · refine iteNT c0 ?_
        rw [decide_eq_true c0,Bool.and_true] at fg
        refine ⟨_,rfl,rfl,en _ ?_⟩
        rw [fg]
        by_cases l2:1 < z.length
        · have:¬ V.str z=V.str "0" := fun e=>by
            have e1:=V.str.inj e
            rw [e1] at l2
            revert l2
            decide +kernel
          rw [decide_eq_true l2,decide_eq_false this]
          rfl
        · have hl:z.cps.toList.length=1:=by rw [Array.length_toList]; show z.length=1; omega
          rw [q0] at hl
          have hr:r=[]:=List.eq_nil_of_length_eq_zero (by simpa using hl)
          have e1:z=(⟨#[c]⟩:Str):=str_ext (by rw [q0,hr])
          rw [decide_eq_false l2,e1,decide_eq_true c0]
          rfl
      · refine iteNF c0 ?_
        refine en true ?_
        rw [fg,decide_eq_false c0,Bool.and_false]
        rfl
inductive rInN (K:PySem.W.Frag) (x:V) (y:V) (H:Hp) (Q:VK):Prop where
  | mk:∀ p xs ds,(x=.non)→(y=.ref p)→(SqL K H p xs)→(RepAll K H xs ds)→(PyData.canLayAll0 ds=true)→(Q (.bl (ds.any fun y=>PyData.eqv y .none)) H)→rInN K x y H Q
theorem op_inNone {X:Cx} (hu:X.A.units+64 < cLine):OpR X (compareOp .In) (rInN X.K):=by
  intro pins s σ H x y v u Q I rx ry h
  obtain ⟨p,xs,ds,rfl,rfl,hp,hr,hl,q⟩:=h
  cases (show v=Value.none from rx)
  obtain ⟨as,rc⟩:=Rep.reads I (.lst hp hr) ry
  refine SeqAt.in_list_reads rc Reads.none hl rfl ?_ ⟨.bl _,H,I,rfl,q⟩
  have:min (PyData.depthAll ds) PyData.none.depth≤PyData.none.depth:=Nat.min_le_right _ _
  have e0:PyData.none.depth=0:=rfl
  omega
def szD:Option Tm→PyData
  | none=>.none
  | some t=>.tuple [.int (t.size:Int),.int (t.depth:Int)]
inductive SzAt (H:Hp):V→Option Tm→Prop
  | no:SzAt H .non none
  | ok {a:Addr} {t:Tm}:H a=some (.tup [.int (t.size:Int),.int (t.depth:Int)])→SzAt H (.ref a) (some t)
theorem SzAt.same {H H':Hp} {v:V} {o:Option Tm} (s:Same H H') (h:SzAt H v o):SzAt H' v o:=by
  cases h with
  | no=>exact .no
  | ok e=>exact .ok (s _ _ e)
theorem SzAt.rep {K:PySem.W.Frag} {H:Hp} {v:V} {o:Option Tm} (h:SzAt H v o):Rep K H v (szD o):=by
  cases h with
  | no=>exact .non
  | ok e=>exact .tup (SqT.of e) (.cons (.int _) (.cons (.int _) .nil))
theorem sz_lay:∀ os:List (Option Tm),PyData.canLayAll0 (os.map szD)=true
  | []=>by simp [PyData.canLayAll0]
  | none::r=>by rw [List.map_cons,PyData.canLayAll0,sz_lay r]; rfl
  | some t::r=>by
    rw [List.map_cons,PyData.canLayAll0,sz_lay r,Bool.and_true]
    show PyData.canLay0 (.tuple [.int _,.int _])=true
    simp [PyData.canLay0,PyData.canLayAll0]
theorem sz_none:∀ os:List (Option Tm),((os.map szD).any fun y=>PyData.eqv y .none)=os.any (fun o=>o.isNone)
  | []=>rfl
  | none::r=>by simp [szD,PyData.eqv]
  | some t::r=>by
    have:=sz_none r
    simp only [List.map_cons,List.any_cons] at this ⊢
    rw [this]
    simp [szD,PyData.eqv]
inductive Two {α β:Type} (R:α→β→Prop):List α→List β→Prop
  | nil:Two R [] []
  | cons {a:α} {b:β} {as:List α} {bs:List β}:R a b→Two R as bs→Two R (a::as) (b::bs)
theorem Two.snoc {α β:Type} {R:α→β→Prop} {as:List α} {bs:List β} {a:α} {b:β} (h:Two R as bs) (r:R a b):Two R (as++[a]) (bs++[b]):=by
  induction h with
  | nil=>exact .cons r .nil
  | cons x _ ih=>exact .cons x ih
theorem Two.imp {α β:Type} {R S:α→β→Prop} {as:List α} {bs:List β} (h:Two R as bs) (f:∀ a b,R a b→S a b):Two S as bs:=by
  induction h with
  | nil=>exact .nil
  | cons x _ ih=>exact .cons (f _ _ x) ih
theorem Two.len {α β:Type} {R:α→β→Prop} {as:List α} {bs:List β} (h:Two R as bs):as.length=bs.length:=by
  induction h with
  | nil=>rfl
  | cons _ _ ih=>rw [List.length_cons,List.length_cons,ih]
theorem Two.at {α β:Type} {R:α→β→Prop} {as:List α} {bs:List β} (h:Two R as bs):∀ (i:Nat) (a:α),as[i]?=some a→∃ b,bs[i]?=some b∧R a b:=by
  induction h with
  | nil=>intro i a e; cases e
  | cons x _ ih =>
    intro i a e
    cases i with
    | zero=>cases e; exact ⟨_,rfl,x⟩
    | succ i=>exact ih i a e
theorem Two.rep {K:PySem.W.Frag} {H:Hp} {vs:List V} {os:List (Option Tm)} (h:Two (SzAt H) vs os):RepAll K H vs (os.map szD):=by
  induction h with
  | nil=>exact .nil
  | cons x _ ih=>exact .cons x.rep ih
inductive spSz (n:Nat) (vs:List V) (H:Hp) (Q:VK) (u_3:XK):Prop where
  | mk:∀ x:Str,(vs=[.str x])→(x.length≤60000)→((cd x).count 40 < n)→(∀ (o:Option Tm) (v:V) (H':Hp),TmOf x o→SzAt H' v o→Same H H'→Q v H')→spSz n vs H Q u_3
theorem stl_inj' {u:List Nat} {a:Tm} (h:stl u=a.str):u=a.txt:=by
  have:=congrArg (fun z:Str=>z.cps.toList) h
  exact this
theorem all_some:∀ os:List (Option Tm),os.any (fun o=>o.isNone)=false→∃ ts:List Tm,os=ts.map some
  | [],_=>⟨[],rfl⟩
  | none::r,h=>by cases h
  | some t::r,h=>by
    obtain ⟨ts,e⟩:=all_some r (by simpa using h)
    exact ⟨t::ts,by rw [e]; rfl⟩
theorem sz_fin {x:Str} {m w0:List Nat} {us:List (List Nat)} {ts:List Tm} (em:cd x=40::(m++[41])) (hws:wosL m=w0::us) (kind:(stl w0 ∈ askW∧us.length=1)∨(stl w0 ∈ signW∧us.length=2)) (so:Two (fun u o=>TmOf (stl u) o) us (ts.map some)) :
    ∃ t:Tm,TmOf x (some t)∧1+(ts.map fun t=>(t.size:Int)).sum=(t.size:Int)∧1+maxD (ts.map fun t=>(t.depth:Int)) 0=(t.depth:Int)∧ts ≠ []∧ts.length≤2∧(t.size≤x.length):=by
  have hl:=so.len
  rw [List.length_map] at hl
  have cw:cd (stl w0)=w0:=rfl
  have tx:∀ {u:List Nat} {a:Tm},stl u=a.str→u=a.txt:=fun h=>stl_inj' h
  rcases kind with ⟨hw,h1⟩ | ⟨hs,h2⟩
  · match us,ts,so,hl,h1 with
    | [u],[a],.cons ⟨oa,ea⟩ .nil,_,_ =>
      have eu:=tx ea
      subst eu
      have ot:(Tm.ask (stl w0) a).ok:=⟨hw,oa⟩
      have e:=words_ask (m:=m) (w:=stl w0) (a:=a) hws
      have tof:TmOf x (some (Tm.ask (stl w0) a)):=⟨ot,str_ext (by show cd x=_; rw [em,← e]; rfl)⟩
      refine ⟨_,tof,?_,?_,by simp,by simp,?_⟩
      · show 1+((a.size:Int)+0)=((a.size+1:Nat):Int)
        omega
      · show 1+maxD [(a.depth:Int)] 0=((a.depth+1:Nat):Int)
        have:maxD [(a.depth:Int)] 0=(a.depth:Int):=rfl
        rw [this]
        omega
      · have:=Tm.size_len _ ot
        rw [e,← em,len_cd] at this
        exact this
  · match us,ts,so,hl,h2 with
    | [u,v],[a,b],.cons ⟨oa,ea⟩ (.cons ⟨ob,eb⟩ .nil),_,_ =>
      have eu:=tx ea
      have ev:=tx eb
      subst eu
      subst ev
      have ot:(Tm.op (stl w0) a b).ok:=⟨hs,oa,ob⟩
      have e:=words_op (m:=m) (s:=stl w0) (a:=a) (b:=b) hws
      have tof:TmOf x (some (Tm.op (stl w0) a b)):=⟨ot,str_ext (by show cd x=_; rw [em,← e]; rfl)⟩
      refine ⟨_,tof,?_,?_,by simp,by simp,?_⟩
      · show 1+((a.size:Int)+((b.size:Int)+0))=((a.size+b.size+1:Nat):Int)
        omega
      · show 1+maxD [(a.depth:Int),(b.depth:Int)] 0=((max a.depth b.depth+1:Nat):Int)
        have:maxD [(a.depth:Int),(b.depth:Int)] 0=max (a.depth:Int) (b.depth:Int):=by
          simp [maxD,bestI]
          omega
        rw [this]
        omega
      · have:=Tm.size_len _ ot
        rw [e,← em,len_cd] at this
        exact this
theorem sc_l_sized:FnScope ["_law_text_here", "_law_words", "_law_some_here"] ["_law_text_here"] (defScope s_l_sized):=⟨rfl,rfl,rfl,by decide +kernel,rfl,by decide +kernel,by decide +kernel⟩
theorem sz_step {n:Nat} {f:Addr} {fd:FuncData} (F:Fun K "_law_sized" "_law_sized" s_l_sized f fd) (B:Bl mg) (hsum:mg "sum" = none) (hmax:mg "max" = none) (C_l_words_of:Cal P w K mg base 1 "_law_words_of" ["_law_text_here"] spWds) (C_l_is_name:Cal P w K mg base 2 "_law_is_name" ["_law_text_here"] (spTxt nameB)) (C_l_is_figures:Cal P w K mg base 2 "_law_is_figures" ["_law_text_here"] (spTxt figB)) (C_l_sized:Cal P w K mg base (n+2) "_law_sized" ["_law_text_here"] (spSz n)):FnOk P w K mg base CX0 (n+3) f fd ["_law_text_here"] (spSz (n+1)):=by
  refine F.ok sc_l_sized (fun vs H Q E h=>?_) (fun cdv A outer s H vs Q E hr h=>?_)
  · obtain ⟨x,rfl,_⟩:=h
    rfl
  obtain ⟨x,rfl,xl,xn,q⟩:=h
  have hr0:Room 1 _:=hr.mono (by omega)
  refine ⟨_,(pss_cons (ps_if (PW.pt (pw_or (pt_cmpR op_in_seq (pv 0) (pe_lst (pa_cons pe_str (pa_cons pe_str (pa_cons pe_str pa_nil)))) (by with_unfolding_all rfl)) (pw_or (pt_val (pe_cal C_l_is_name hr (by omega) rfl (pa_cons (pv 0) pa_nil))) (pw_or1 (pt_val (pe_cal C_l_is_figures hr (by omega) rfl (pa_cons (pv 0) pa_nil))))))) (pss_one (ps_ret (pe_tup (pa_cons pe_int (pa_cons pe_int pa_nil))))) pss_nil)
      (pss_cons (ps_set (i:=1) sc_l_sized.nd rfl (Or.inl rfl) (pe_cal C_l_words_of hr (by omega) rfl (pa_cons (pe_slice sl_str (pv 0) (po_some pe_int) (po_some (pe_un un_neg pe_int))) pa_nil)))
      (pss_cons (ps_if (PW.pt (pw_or (pt_cmpR op_ne (pe_slice sl_str (pv 0) po_none (po_some pe_int)) pe_str (nomark _)) (pw_or1 (pt_cmpR op_ne (pe_slice sl_str (pv 0) (po_some (pe_un un_neg pe_int)) po_none) pe_str (nomark _))))) (pss_one (ps_ret pe_non)) pss_nil)
      (pss_cons (ps_if (pt_cmpR op_ne (pe_callB call_len_seq rfl B.len PySem.boot_len (pa_cons (pv 1) pa_nil)) (pe_op op_add pe_int (pe_callTy call_int1 rfl B.int boot_int' (pa_cons (pe_cmpR op_in_seq (pe_ix ix_list (pv 1) pe_int (fun _ _=>rfl)) (pe_lst (pa_cons pe_str (pa_cons pe_str (pa_cons pe_str (pa_cons pe_str (pa_cons pe_str (pa_cons pe_str pa_nil))))))) (by with_unfolding_all rfl)) pa_nil))) (nomark _)) (pss_one (ps_ret pe_non)) pss_nil)
      (pss_cons (ps_if (PW.pt (pw_and (pt_cmpR op_eq (pe_callB call_len_seq rfl B.len PySem.boot_len (pa_cons (pv 1) pa_nil)) pe_int (nomark _)) (pw_and1 (pt_cmpR op_notIn_seq (pe_ix ix_list (pv 1) pe_int (fun _ _=>rfl)) (pe_lst (pa_cons pe_str (pa_cons pe_str pa_nil))) (by with_unfolding_all rfl))))) (pss_one (ps_ret pe_non)) pss_nil)
      (pss_cons (ps_comp (i:=2) (N:=[]) (ix:=[]) (cl:=[]) sc_l_sized.nd rfl (Or.inl rfl) rfl (CompScope.closed (by with_unfolding_all rfl) (by decide) rfl (by decide) rfl (by with_unfolding_all rfl)) rfl (pi_list (pe_slice sl_list (pv 1) (po_some pe_int) po_none)) (fun _ _ _=>pb_all (pe_cal C_l_sized hr (by omega) rfl (pa_cons (pv 0) pa_nil))))
      (pss_cons (ps_if (pt_cmpR (op_inNone hr.units) pe_non (pv 2) (by with_unfolding_all rfl)) (pss_one (ps_ret pe_non)) pss_nil)
      (pss_one (ps_ret (pe_tup (pa_cons (pe_op op_add pe_int (pe_callB (call_sum rfl) rfl hsum PyProof.Rows.boot_sum (pa_cons (pe_comp (N:=[]) (ix:=[]) (cl:=[]) rfl (CompScope.closed (by with_unfolding_all rfl) (by decide) rfl (by decide) rfl (by with_unfolding_all rfl)) rfl (pi_list (pv 2)) (fun _ _ _=>pb_all (pe_ix (ix_tupK K) (pv 0) pe_int (fun _ _=>rfl)))) pa_nil))) (pa_cons (pe_op op_add pe_int (pe_callB (call_max1 rfl) rfl hmax PyProof.Rows.boot_max (pa_cons (pe_comp (N:=[]) (ix:=[]) (cl:=[]) rfl (CompScope.closed (by with_unfolding_all rfl) (by decide) rfl (by decide) rfl (by with_unfolding_all rfl)) rfl (pi_list (pv 2)) (fun _ _ _=>pb_all (pe_ix (ix_tupK K) (pv 0) pe_int (fun _ _=>rfl)))) pa_nil))) pa_nil)))))))))))),?_⟩
  have one:∀ {H1:Hp} {t:Tm},Same H H1→WdTm x t→∀ a,H1 a=none→Q (.ref a) (upd H1 a (.tup [.int 1,.int 1])):=fun {H1 t} S1 wd a ha=>by
    refine q (some t) (.ref a) _ (tmOf_wd wd) (.ok ?_) (S1.trans (Same.new ha _))
    obtain ⟨_,_,e1,e2⟩:=wd.ok
    rw [upd_same,e1,e2]
    rfl
  refine ⟨_,rfl,(by show 3≤sizeLine; decide),fun p0 hp0=>?_⟩
  have S0:=Same.new hp0 (.lst (plainW.map V.str))
  refine ⟨p0,plainW.map V.str,rfl,.inl (SqL.of upd_same),rfl,(by decide),_,rfl,?_⟩
  show if inV (.str x) (plainW.map V.str)=true then _ else _
  rw [in_strs]
  change ∀ b o,H b=some o→upd H p0 (.lst (plainW.map V.str)) b=some o at S0
  by_cases c1:x ∈ plainW
  · refine iteD c1 (iteT ?_)
    exact ⟨(by show 2≤sizeLine; decide),fun a ha=>one S0 (.plain c1) a ha⟩
  refine iteDF c1 ?_
  refine ⟨_,rfl,x,rfl,xl,fun H1 S1=>⟨_,rfl,?_⟩⟩
  have S01:Same H H1:=Same.trans S0 S1
  cases c2:nameB x with
  | true =>
    refine iteT (iteT ?_)
    exact ⟨(by show 2≤sizeLine; decide),fun a ha=>one S01 (.box (nameB_nm c2)) a ha⟩
  | false =>
  refine iteF ?_
  refine ⟨_,rfl,x,rfl,xl,fun H2 S2=>⟨_,rfl,?_⟩⟩
  have S02:Same H H2:=S01.trans S2
  cases c3:figB x with
  | true =>
    refine iteT ?_
    obtain ⟨i,i0,i1,ex⟩:=figB_num c3
    exact ⟨(by show 2≤sizeLine; decide),fun a ha=>one S02 (by rw [ex]; exact .num i0 i1) a ha⟩
  | false =>
  refine iteF ?_
  have nw:∀ t:Tm,t.ok→x=t.str→∃ m,cd x=40::(m++[41])∧((∃ w a,t=.ask w a∧wosL m=[cd w,a.txt])∨∃ s a b,t=.op s a b∧wosL m=[cd s,a.txt,b.txt]):=fun t ok e=>by
    have no:∀ u,WdTm x u→False:=fun u wd=>by
      cases wd with
      | plain h=>exact c1 h
      | num h0 h1=>rw [num_fig h0 h1] at c3; cases c3
      | box h=>rw [nameB_K h] at c2; cases c2
    have sh:∃ m,t.txt=40::(m++[41]):=by
      cases t with
      | num i=>exact (no (.num i) (by rw [e,str_num]; exact .num ok.1 ok.2)).elim
      | box y=>exact (no (.box y) (by rw [e,str_box]; exact .box ok)).elim
      | plain y=>exact (no (.plain y) (by rw [e,str_plain]; exact .plain ok)).elim
      | ask w a =>
        refine ⟨cd w++([32]++a.txt),?_⟩
        show [40]++(cd w++([32]++(a.txt++[41])))=_
        simp
      | op s a b =>
        refine ⟨cd s++([32]++(a.txt++([32]++b.txt))),?_⟩
        show [40]++(cd s++([32]++(a.txt++([32]++(b.txt++[41])))))=_
        simp
    obtain ⟨m,em⟩:=sh
    exact ⟨m,by rw [e]; exact em,tm_words ok em⟩
  have non:(∀ t:Tm,t.ok→x ≠ t.str)→∀ {H':Hp},Same H H'→Q .non H':=fun h H' S=>q none .non H' h .no S
  refine ⟨_,rfl,1,rfl,_,rfl,-1,rfl,x,rfl,smallT xl,_,rfl,Nat.le_trans (Txt.slice_le _ _ _) xl,fun W H3 eW S3=>?_⟩
  have S03:Same H H3:=S02.trans S3
  have nbr:∀ {A:Prop},(Txt.slice x none (some 1) = "(" → Txt.slice x (some (-1)) none = ")" → A)→∀ t:Tm,t.ok→x=t.str→A:=fun h t ok e=>by
    obtain ⟨m,em,_⟩:=nw t ok e
    exact h (br_sl em).1 (br_sl em).2
  refine ⟨_,rfl,1,rfl,x,rfl,smallT xl,rfl,_,rfl,?_⟩
  by_cases b1:Txt.slice x none (some 1) = "("
  rotate_left
  · refine iteNF (fun z=>b1 (V.str.inj z)) (iteT ?_)
    exact non (fun t ok e=>nbr (fun h _=>b1 h) t ok e) S03
  refine iteNT (by rw [b1]) ?_
  refine ⟨_,rfl,_,rfl,-1,rfl,x,rfl,smallT xl,rfl,_,rfl,?_⟩
  by_cases b2:Txt.slice x (some (-1)) none = ")"
  rotate_left
  · refine iteNF (fun z=>b2 (V.str.inj z)) ?_
    exact non (fun t ok e=>nbr (fun _ h=>b2 h) t ok e) S03
  refine iteNT (by rw [b2]) ?_
  obtain ⟨m,em⟩:=in_br b1 b2
  rw [sl_mid em,show cd (stl m)=m from rfl] at eW
  have nm:∀ t:Tm,t.ok→x=t.str→(∃ w a,w ∈ askW∧a.ok∧t=.ask w a∧wosL m=[cd w,a.txt])∨∃ s a b,s ∈ signW∧a.ok∧b.ok∧t=.op s a b∧wosL m=[cd s,a.txt,b.txt]:=fun t ok e=>by
    obtain ⟨m',em',h⟩:=nw t ok e
    rw [em] at em'
    have:m=m':=List.append_cancel_right (List.cons.inj em').2
    subst this
    rcases h with ⟨w,a,rfl,h⟩ | ⟨s,a,b,rfl,h⟩
    · exact .inl ⟨w,a,ok.1,ok.2,rfl,h⟩
    · exact .inr ⟨s,a,b,ok.1,ok.2.1,ok.2.2,rfl,h⟩
  have wlen:=wosL_len m
  have wne:=wosL_ne m
  generalize hws:wosL m=ws at eW nm wlen wne
  cases ws with
  | nil=>exact absurd rfl wne
  | cons w0 us =>
  have at0w:atI (wstr (w0::us)) 0=some (.str (stl w0)):=at0 _ _
  have nt:∀ t:Tm,t.ok→x=t.str→(stl w0 ∈ askW∧stl w0 ∉ signW∧∃ a:Tm,us=[a.txt]∧a.ok∧t=.ask (stl w0) a)∨(stl w0 ∈ signW∧∃ a b:Tm,us=[a.txt,b.txt]∧a.ok∧b.ok∧t=.op (stl w0) a b):=fun t ok e=>by
    rcases nm t ok e with ⟨w,a,hw,oa,rfl,h⟩ | ⟨s,a,b,hs,oa,ob,rfl,h⟩
    · cases h
      exact .inl ⟨hw,askW_sign w hw,a,rfl,oa,rfl⟩
    · cases h
      exact .inr ⟨hs,a,b,rfl,oa,ob,rfl⟩
  have wl:(wstr (w0::us)).length=us.length+1:=by unfold wstr; rw [List.length_map,List.length_cons]
  refine ⟨_,rfl,W,_,rfl,.inl (SqL.of eW),_,rfl,W,_,0,_,rfl,rfl,SqL.of eW,at0w,(by show 6≤sizeLine; decide),fun p1 hp1=>?_⟩
  generalize hH4:upd H3 p1 (.lst [V.str "+", V.str "-", V.str "*", V.str "/", V.str "=", V.str "<"])=H4
  have S4:Same H3 H4:=by rw [← hH4]; exact Same.new hp1 _
  have e41:H4 p1=some (.lst (signW.map V.str)):=by rw [← hH4]; exact upd_same
  have S04:=S03.trans S4
  have eW4:=S4 _ _ eW
  refine ⟨p1,signW.map V.str,rfl,.inl (SqL.of e41),rfl,(by decide),.inr ⟨_,rfl,_,_,rfl,rfl,rfl,_,rfl,?_⟩⟩
  have es:inV (.str (stl w0)) (signW.map V.str)=decide (stl w0 ∈ signW):=in_strs _ _
  show if (!decide (V.int ((wstr (w0::us)).length:Int)=V.int (2+if inV (.str (stl w0)) (signW.map V.str)=true then 1 else 0)))=true then _ else _
  rw [es,wl]
  by_cases t3:us.length+1=2+(if stl w0 ∈ signW then 1 else 0)
  rotate_left
  · refine iteNF (fun z=>t3 ?_) ?_
    · have:=V.int.inj z
      by_cases c:stl w0 ∈ signW
      · rw [decide_eq_true c] at this
        rw [if_pos c]
        simp only [if_true] at this
        omega
      · rw [decide_eq_false c] at this
        rw [if_neg c]
        simp only [Bool.false_eq_true,if_false] at this
        omega
    · refine non (fun t ok e=>t3 ?_) S04
      rcases nt t ok e with ⟨_,hn,a,hu,_⟩ | ⟨hs,a,b,hu,_⟩
      · rw [if_neg hn,hu]; rfl
      · rw [if_pos hs,hu]; rfl
  refine iteNT (congrArg V.int ?_) ?_
  · by_cases c:stl w0 ∈ signW
    · rw [if_pos c] at t3
      rw [decide_eq_true c]
      simp only [if_true]
      omega
    · rw [if_neg c] at t3
      rw [decide_eq_false c]
      simp only [Bool.false_eq_true,if_false]
      omega
  refine ⟨_,rfl,W,_,rfl,.inl (SqL.of eW4),rfl,_,rfl,?_⟩
  rw [wl]
  have sh:stl w0 ∈ signW∨us.length=1:=by
    by_cases c:stl w0 ∈ signW
    · exact .inl c
    · rw [if_neg c] at t3
      exact .inr (by omega)
  have xm:m.count 40 < n:=by
    rw [em] at xn
    rw [List.count_cons,List.count_append] at xn
    simp at xn
    omega
  by_cases t4:us.length=1
  · refine iteD (by rw [t4]; rfl) ?_
    refine ⟨_,rfl,W,_,0,_,rfl,rfl,SqL.of eW4,at0w,(by show 2≤sizeLine; decide),fun p2 hp2=>?_⟩
    generalize hH5:upd H4 p2 (.lst [V.str "coin", V.str "true"])=H5
    have S5:Same H4 H5:=by rw [← hH5]; exact Same.new hp2 _
    have e51:H5 p2=some (.lst (askW.map V.str)):=by rw [← hH5]; exact upd_same
    refine ⟨p2,askW.map V.str,rfl,.inl (SqL.of e51),rfl,(by decide),_,rfl,?_⟩
    have ea:inV (.str (stl w0)) (askW.map V.str)=decide (stl w0 ∈ askW):=in_strs _ _
    show if (!inV (.str (stl w0)) (askW.map V.str))=true then _ else _
    rw [ea]
    by_cases ca:stl w0 ∈ askW
    rotate_left
    · rw [decide_eq_false ca]
      refine iteT ?_
      refine non (fun t ok e=>?_) (S04.trans S5)
      rcases nt t ok e with ⟨hw,_⟩ | ⟨_,a,b,hu,_⟩
      · exact ca hw
      · rw [hu] at t4; cases t4
    rw [decide_eq_true ca]
    refine iteF ?_
    have S05:=S04.trans S5
    have e5:=S5 _ _ eW4
    have kind:(stl w0 ∈ askW∧us.length=1)∨(stl w0 ∈ signW∧us.length=2):=.inl ⟨ca,t4⟩
    refine ⟨_,rfl,1,rfl,W,_,rfl,SqL.of e5,fun p3 hp3=>?_⟩
    have S6:=Same.new hp3 (.lst (cutV (wstr (w0::us)) (some 1) none))
    have e6:upd H5 p3 (.lst (cutV (wstr (w0::us)) (some 1) none)) p3=some (.lst (wstr us)):=by
      rw [upd_same]
      exact congrArg (fun l=>some (HO.lst l)) (ct1 _ _)
    generalize upd H5 p3 (.lst (cutV (wstr (w0::us)) (some 1) none))=H6 at S6 e6
    have S06:=S05.trans S6
    refine ⟨p3,rfl,⟨_,SqL.of e6⟩,fun D hD=>?_⟩
    refine comp_list (K:=K) (xs:=wstr us) (fun i H'=>∃ (vs:List V) (os:List (Option Tm)),H' D=some (.lst vs)∧Two (SzAt H') vs os∧Two (fun u o=>TmOf (stl u) o) (us.take i) os∧Same H6 H') ⟨[],[],upd_same,.nil,.nil,Same.new hD _⟩ (fun i H' _ hst=>by obtain ⟨_,_,_,_,_,h⟩:=hst; exact SqL.of (h _ _ e6)) ?_ ?_
    · rintro i z H7 hz ⟨vs,os,hD7,sv,so,S7⟩
      have hi:=(List.getElem?_eq_some_iff.mp hz).1
      unfold wstr at hz hi
      rw [List.length_map] at hi
      rw [List.getElem?_map] at hz
      obtain ⟨u,hu,rfl⟩:=Option.map_eq_some_iff.mp hz
      obtain ⟨ul,uc⟩:=wlen u (List.mem_cons_of_mem _ (List.mem_of_getElem? hu))
      have ml:m.length≤60000:=by
        have:=len_cd x
        rw [em,List.length_cons,List.length_append] at this
        omega
      have vl:vs.length=i:=by
        have h1:=sv.len
        have h2:=so.len
        rw [List.length_take] at h2
        omega
      have ul2:us.length≤2:=by rcases kind with ⟨_,h⟩ | ⟨_,h⟩ <;> omega
      refine ⟨_,rfl,stl u,rfl,by rw [stl_len]; omega,by have:=uc 40 (by decide); show (u.count 40) < n; omega,fun o v H8 to sz S8=>?_⟩
      refine ⟨vs,S8 _ _ hD7,small1000 (by omega),Nx.of (by unfold wstr; rw [List.length_map]; exact hi) ⟨vs++[v],os++[o],upd_same,?_,?_,fun b o' e'=>?_⟩⟩
      · refine Two.snoc (sv.imp fun a b h=>?_) ?_
        · cases h.same S8 with
          | no=>exact .no
          | ok e=>exact .ok (by rw [upd_ne (fun z=>by rw [z,S8 _ _ hD7] at e; cases e)]; exact e)
        · cases sz with
          | no=>exact .no
          | ok e=>exact .ok (by rw [upd_ne (fun z=>by rw [z,S8 _ _ hD7] at e; cases e)]; exact e)
      · rw [List.take_add_one,hu]
        exact so.snoc to
      · rw [upd_ne (ne_of_none e' hD)]
        exact S8 _ _ (S7 _ _ e')
    rintro H7 ⟨vs,os,hD7,sv,so,S7⟩
    have S07:=S06.trans S7
    have tk:us.take (wstr us).length=us:=by unfold wstr; rw [List.length_map]; exact List.take_length
    rw [tk] at so
    refine ⟨_,rfl,D,vs,os.map szD,rfl,rfl,SqL.of hD7,sv.rep,sz_lay os,_,rfl,?_⟩
    rw [sz_none]
    cases hn:os.any (fun o=>o.isNone) with
    | true =>
      refine iteT ?_
      refine non (fun t ok e=>?_) S07
      obtain ⟨o,ho,on⟩:=List.any_eq_true.mp hn
      have key:∀ (i:Nat) (u:List Nat) (a:Tm),us[i]?=some u→u=a.txt→a.ok→∃ b,os[i]?=some b∧b.isNone=false:=fun i u a hu e oa=>by
        obtain ⟨b,hb,tb⟩:=so.at i u hu
        refine ⟨b,hb,?_⟩
        cases b with
        | none=>exact absurd (by rw [e]; rfl) (tb a oa)
        | some _=>rfl
      obtain ⟨i,hi,eo⟩:=List.getElem_of_mem ho
      have hl:=so.len
      rcases nt t ok e with ⟨_,_,a,hu,oa,_⟩ | ⟨_,a,b,hu,oa,ob,_⟩
      · rw [hu] at hl
        have i0:i=0:=by simp at hl; omega
        subst i0
        obtain ⟨c,hc,hcn⟩:=key 0 a.txt a (by rw [hu]; rfl) rfl oa
        rw [List.getElem?_eq_getElem hi,eo] at hc
        cases hc
        rw [hcn] at on
        cases on
      · rw [hu] at hl
        have i0:i=0∨i=1:=by simp at hl; omega
        rcases i0 with rfl | rfl
        · obtain ⟨c,hc,hcn⟩:=key 0 a.txt a (by rw [hu]; rfl) rfl oa
          rw [List.getElem?_eq_getElem hi,eo] at hc
          cases hc
          rw [hcn] at on
          cases on
        · obtain ⟨c,hc,hcn⟩:=key 1 b.txt b (by rw [hu]; rfl) rfl ob
          rw [List.getElem?_eq_getElem hi,eo] at hc
          cases hc
          rw [hcn] at on
          cases on
    | false =>
    refine iteF ?_
    obtain ⟨ts,rfl⟩:=all_some os hn
    obtain ⟨t,tof,e1,e2,tne,tl2,tsz⟩:=sz_fin em hws kind so
    have vt:=sv.len
    rw [List.length_map] at vt
    have vat:∀ (i:Nat) (v:V),vs[i]?=some v→∃ a tt,v=.ref a∧ts[i]?=some tt∧H7 a=some (.tup [.int (tt.size:Int),.int (tt.depth:Int)]):=fun i v hv=>by
      obtain ⟨o,ho,z⟩:=sv.at i v hv
      rw [List.getElem?_map] at ho
      obtain ⟨tt,ht,rfl⟩:=Option.map_eq_some_iff.mp ho
      cases z with
      | ok e=>exact ⟨_,tt,rfl,ht,e⟩
    refine ⟨_,rfl,D,rfl,⟨_,SqL.of hD7⟩,fun D2 hD2=>?_⟩
    refine comp_list (K:=K) (xs:=vs) (fun i H'=>H' D2=some (.lst ((ts.take i).map fun t=>V.int (t.size:Int)))∧Same H7 H') ⟨upd_same,Same.new hD2 _⟩ (fun i H' _ h=>SqL.of (h.2 _ _ hD7)) ?_ ?_
    · rintro i z H8 hz ⟨h8,S8⟩
      have hi:=(List.getElem?_eq_some_iff.mp hz).1
      obtain ⟨a,tt,rfl,ht,ea⟩:=vat i z hz
      refine ⟨_,rfl,a,_,0,_,rfl,rfl,SqT.of (S8 _ _ ea),at0 ..,_,h8,small1000 (by rw [List.length_map,List.length_take]; omega),Nx.of hi ⟨?_,fun b o e=>?_⟩⟩
      · rw [upd_same,List.take_add_one,ht,List.map_append]
        rfl
      · rw [upd_ne (ne_of_none e hD2)]
        exact S8 _ _ e
    rintro H8 ⟨h8,S8⟩
    rw [vt,List.take_length] at h8
    have en:(ts.map fun t=>V.int (t.size:Int))=(ts.map fun t=>(t.size:Int)).map V.int:=by rw [List.map_map]; rfl
    rw [en] at h8
    refine ⟨D2,_,rfl,SqL.of h8,fun k hk=>?_,by omega,_,_,rfl,rfl,_,rfl,D,rfl,⟨_,SqL.of (S8 _ _ hD7)⟩,fun D3 hD3=>?_⟩
    · obtain ⟨tt,_,rfl⟩:=List.mem_map.mp hk
      exact Int.natCast_nonneg _
    refine comp_list (K:=K) (xs:=vs) (fun i H'=>H' D3=some (.lst ((ts.take i).map fun t=>V.int (t.depth:Int)))∧Same H8 H') ⟨upd_same,Same.new hD3 _⟩ (fun i H' _ h=>SqL.of (h.2 _ _ (S8 _ _ hD7))) ?_ ?_
    · rintro i z H9 hz ⟨h9,S9⟩
      have hi:=(List.getElem?_eq_some_iff.mp hz).1
      obtain ⟨a,tt,rfl,ht,ea⟩:=vat i z hz
      refine ⟨_,rfl,a,_,1,_,rfl,rfl,SqT.of (S9 _ _ (S8 _ _ ea)),at1 ..,_,h9,small1000 (by rw [List.length_map,List.length_take]; omega),Nx.of hi ⟨?_,fun b o e=>?_⟩⟩
      · rw [upd_same,List.take_add_one,ht,List.map_append]
        rfl
      · rw [upd_ne (ne_of_none e hD3)]
        exact S9 _ _ e
    rintro H9 ⟨h9,S9⟩
    rw [vt,List.take_length] at h9
    have ed:(ts.map fun t=>V.int (t.depth:Int))=(ts.map fun t=>(t.depth:Int)).map V.int:=by rw [List.map_map]; rfl
    rw [ed] at h9
    refine ⟨D3,_,rfl,SqL.of h9,fun z=>tne (List.map_eq_nil_iff.mp z),_,_,rfl,rfl,(by show 2≤sizeLine; decide),fun a ha=>?_⟩
    exact q (some t) (.ref a) _ tof (.ok (by rw [upd_same,e1,e2])) (S07.trans (S8.trans (S9.trans (Same.new ha _))))
  · refine iteDF (fun z=>t4 (by have:=V.int.inj z; omega)) (iteF ?_)
    have cs:stl w0 ∈ signW:=sh.resolve_right t4
    obtain ⟨H5,hH5⟩:∃ H5,H5=H4:=⟨_,rfl⟩
    rw [← hH5]
    have S05:Same H H5:=by rw [hH5]; exact S04
    have e5:H5 W=some (.lst (wstr (w0::us))):=by rw [hH5]; exact eW4
    have kind:(stl w0 ∈ askW∧us.length=1)∨(stl w0 ∈ signW∧us.length=2):=.inr ⟨cs,by rw [if_pos cs] at t3; omega⟩
    refine ⟨_,rfl,1,rfl,W,_,rfl,SqL.of e5,fun p3 hp3=>?_⟩
    have S6:=Same.new hp3 (.lst (cutV (wstr (w0::us)) (some 1) none))
    have e6:upd H5 p3 (.lst (cutV (wstr (w0::us)) (some 1) none)) p3=some (.lst (wstr us)):=by
      rw [upd_same]
      exact congrArg (fun l=>some (HO.lst l)) (ct1 _ _)
    generalize upd H5 p3 (.lst (cutV (wstr (w0::us)) (some 1) none))=H6 at S6 e6
    have S06:=S05.trans S6
    refine ⟨p3,rfl,⟨_,SqL.of e6⟩,fun D hD=>?_⟩
    refine comp_list (K:=K) (xs:=wstr us) (fun i H'=>∃ (vs:List V) (os:List (Option Tm)),H' D=some (.lst vs)∧Two (SzAt H') vs os∧Two (fun u o=>TmOf (stl u) o) (us.take i) os∧Same H6 H') ⟨[],[],upd_same,.nil,.nil,Same.new hD _⟩ (fun i H' _ hst=>by obtain ⟨_,_,_,_,_,h⟩:=hst; exact SqL.of (h _ _ e6)) ?_ ?_
    · rintro i z H7 hz ⟨vs,os,hD7,sv,so,S7⟩
      have hi:=(List.getElem?_eq_some_iff.mp hz).1
      unfold wstr at hz hi
      rw [List.length_map] at hi
      rw [List.getElem?_map] at hz
      obtain ⟨u,hu,rfl⟩:=Option.map_eq_some_iff.mp hz
      obtain ⟨ul,uc⟩:=wlen u (List.mem_cons_of_mem _ (List.mem_of_getElem? hu))
      have ml:m.length≤60000:=by
        have:=len_cd x
        rw [em,List.length_cons,List.length_append] at this
        omega
      have vl:vs.length=i:=by
        have h1:=sv.len
        have h2:=so.len
        rw [List.length_take] at h2
        omega
      have ul2:us.length≤2:=by rcases kind with ⟨_,h⟩ | ⟨_,h⟩ <;> omega
      refine ⟨_,rfl,stl u,rfl,by rw [stl_len]; omega,by have:=uc 40 (by decide); show (u.count 40) < n; omega,fun o v H8 to sz S8=>?_⟩
      refine ⟨vs,S8 _ _ hD7,small1000 (by omega),Nx.of (by unfold wstr; rw [List.length_map]; exact hi) ⟨vs++[v],os++[o],upd_same,?_,?_,fun b o' e'=>?_⟩⟩
      · refine Two.snoc (sv.imp fun a b h=>?_) ?_
        · cases h.same S8 with
          | no=>exact .no
          | ok e=>exact .ok (by rw [upd_ne (fun z=>by rw [z,S8 _ _ hD7] at e; cases e)]; exact e)
        · cases sz with
          | no=>exact .no
          | ok e=>exact .ok (by rw [upd_ne (fun z=>by rw [z,S8 _ _ hD7] at e; cases e)]; exact e)
      · rw [List.take_add_one,hu]
        exact so.snoc to
      · rw [upd_ne (ne_of_none e' hD)]
        exact S8 _ _ (S7 _ _ e')
    rintro H7 ⟨vs,os,hD7,sv,so,S7⟩
    have S07:=S06.trans S7
    have tk:us.take (wstr us).length=us:=by unfold wstr; rw [List.length_map]; exact List.take_length
    rw [tk] at so
    refine ⟨_,rfl,D,vs,os.map szD,rfl,rfl,SqL.of hD7,sv.rep,sz_lay os,_,rfl,?_⟩
    rw [sz_none]
    cases hn:os.any (fun o=>o.isNone) with
    | true =>
      refine iteT ?_
      refine non (fun t ok e=>?_) S07
      obtain ⟨o,ho,on⟩:=List.any_eq_true.mp hn
      have key:∀ (i:Nat) (u:List Nat) (a:Tm),us[i]?=some u→u=a.txt→a.ok→∃ b,os[i]?=some b∧b.isNone=false:=fun i u a hu e oa=>by
        obtain ⟨b,hb,tb⟩:=so.at i u hu
        refine ⟨b,hb,?_⟩
        cases b with
        | none=>exact absurd (by rw [e]; rfl) (tb a oa)
        | some _=>rfl
      obtain ⟨i,hi,eo⟩:=List.getElem_of_mem ho
      have hl:=so.len
      rcases nt t ok e with ⟨_,_,a,hu,oa,_⟩ | ⟨_,a,b,hu,oa,ob,_⟩
      · rw [hu] at hl
        have i0:i=0:=by simp at hl; omega
        subst i0
        obtain ⟨c,hc,hcn⟩:=key 0 a.txt a (by rw [hu]; rfl) rfl oa
        rw [List.getElem?_eq_getElem hi,eo] at hc
        cases hc
        rw [hcn] at on
        cases on
      · rw [hu] at hl
        have i0:i=0∨i=1:=by simp at hl; omega
        rcases i0 with rfl | rfl
        · obtain ⟨c,hc,hcn⟩:=key 0 a.txt a (by rw [hu]; rfl) rfl oa
          rw [List.getElem?_eq_getElem hi,eo] at hc
          cases hc
          rw [hcn] at on
          cases on
        · obtain ⟨c,hc,hcn⟩:=key 1 b.txt b (by rw [hu]; rfl) rfl ob
          rw [List.getElem?_eq_getElem hi,eo] at hc
          cases hc
          rw [hcn] at on
          cases on
    | false =>
    refine iteF ?_
    obtain ⟨ts,rfl⟩:=all_some os hn
    obtain ⟨t,tof,e1,e2,tne,tl2,tsz⟩:=sz_fin em hws kind so
    have vt:=sv.len
    rw [List.length_map] at vt
    have vat:∀ (i:Nat) (v:V),vs[i]?=some v→∃ a tt,v=.ref a∧ts[i]?=some tt∧H7 a=some (.tup [.int (tt.size:Int),.int (tt.depth:Int)]):=fun i v hv=>by
      obtain ⟨o,ho,z⟩:=sv.at i v hv
      rw [List.getElem?_map] at ho
      obtain ⟨tt,ht,rfl⟩:=Option.map_eq_some_iff.mp ho
      cases z with
      | ok e=>exact ⟨_,tt,rfl,ht,e⟩
    refine ⟨_,rfl,D,rfl,⟨_,SqL.of hD7⟩,fun D2 hD2=>?_⟩
    refine comp_list (K:=K) (xs:=vs) (fun i H'=>H' D2=some (.lst ((ts.take i).map fun t=>V.int (t.size:Int)))∧Same H7 H') ⟨upd_same,Same.new hD2 _⟩ (fun i H' _ h=>SqL.of (h.2 _ _ hD7)) ?_ ?_
    · rintro i z H8 hz ⟨h8,S8⟩
      have hi:=(List.getElem?_eq_some_iff.mp hz).1
      obtain ⟨a,tt,rfl,ht,ea⟩:=vat i z hz
      refine ⟨_,rfl,a,_,0,_,rfl,rfl,SqT.of (S8 _ _ ea),at0 ..,_,h8,small1000 (by rw [List.length_map,List.length_take]; omega),Nx.of hi ⟨?_,fun b o e=>?_⟩⟩
      · rw [upd_same,List.take_add_one,ht,List.map_append]
        rfl
      · rw [upd_ne (ne_of_none e hD2)]
        exact S8 _ _ e
    rintro H8 ⟨h8,S8⟩
    rw [vt,List.take_length] at h8
    have en:(ts.map fun t=>V.int (t.size:Int))=(ts.map fun t=>(t.size:Int)).map V.int:=by rw [List.map_map]; rfl
    rw [en] at h8
    refine ⟨D2,_,rfl,SqL.of h8,fun k hk=>?_,by omega,_,_,rfl,rfl,_,rfl,D,rfl,⟨_,SqL.of (S8 _ _ hD7)⟩,fun D3 hD3=>?_⟩
    · obtain ⟨tt,_,rfl⟩:=List.mem_map.mp hk
      exact Int.natCast_nonneg _
    refine comp_list (K:=K) (xs:=vs) (fun i H'=>H' D3=some (.lst ((ts.take i).map fun t=>V.int (t.depth:Int)))∧Same H8 H') ⟨upd_same,Same.new hD3 _⟩ (fun i H' _ h=>SqL.of (h.2 _ _ (S8 _ _ hD7))) ?_ ?_
    · rintro i z H9 hz ⟨h9,S9⟩
      have hi:=(List.getElem?_eq_some_iff.mp hz).1
      obtain ⟨a,tt,rfl,ht,ea⟩:=vat i z hz
      refine ⟨_,rfl,a,_,1,_,rfl,rfl,SqT.of (S9 _ _ (S8 _ _ ea)),at1 ..,_,h9,small1000 (by rw [List.length_map,List.length_take]; omega),Nx.of hi ⟨?_,fun b o e=>?_⟩⟩
      · rw [upd_same,List.take_add_one,ht,List.map_append]
        rfl
      · rw [upd_ne (ne_of_none e hD3)]
        exact S9 _ _ e
    rintro H9 ⟨h9,S9⟩
    rw [vt,List.take_length] at h9
    have ed:(ts.map fun t=>V.int (t.depth:Int))=(ts.map fun t=>(t.depth:Int)).map V.int:=by rw [List.map_map]; rfl
    rw [ed] at h9
    refine ⟨D3,_,rfl,SqL.of h9,fun z=>tne (List.map_eq_nil_iff.mp z),_,_,rfl,rfl,(by show 2≤sizeLine; decide),fun a ha=>?_⟩
    exact q (some t) (.ref a) _ tof (.ok (by rw [upd_same,e1,e2])) (S07.trans (S8.trans (S9.trans (Same.new ha _))))
theorem sz_zero {f:Addr} {fd:FuncData}:FnOk P w K mg base CX0 2 f fd ["_law_text_here"] (spSz 0):=by
  have no:∀ vs H Q E,¬ spSz 0 vs H Q E:=fun vs H Q E h=>by
    obtain ⟨x,_,_,h1,_⟩:=h
    omega
  exact ⟨fun vs H Q E h=>absurd h (no vs H Q E),fun A outer s H args us vs Q E _ _ _ _ h=>absurd h (no vs H Q E)⟩
theorem ok_l_sized {f:Addr} {fd:FuncData} (F:Fun K "_law_sized" "_law_sized" s_l_sized f fd) (m:mg "_law_sized" = some (.ref f)) (B:Bl mg) (hsum:mg "sum" = none) (hmax:mg "max" = none) (C_l_words_of:Cal P w K mg base 1 "_law_words_of" ["_law_text_here"] spWds) (C_l_is_name:Cal P w K mg base 2 "_law_is_name" ["_law_text_here"] (spTxt nameB)) (C_l_is_figures:Cal P w K mg base 2 "_law_is_figures" ["_law_text_here"] (spTxt figB)) :
    ∀ n:Nat,FnOk P w K mg base CX0 (n+2) f fd ["_law_text_here"] (spSz n)
  | 0=>sz_zero
  | n+1=>sz_step F B hsum hmax C_l_words_of C_l_is_name C_l_is_figures (Cal.of F (ok_l_sized F m B hsum hmax C_l_words_of C_l_is_name C_l_is_figures n) m (fun _ _ _ _ _ _ us hl=>by obtain ⟨u0,rfl⟩:=len1 hl; rfl))
inductive spIsT (n:Nat) (vs:List V) (H:Hp) (Q:VK) (u_3:XK):Prop where
  | mk:∀ x:Str,(vs=[.str x])→(x.length≤60000)→((cd x).count 40 < n)→(∀ (b:Bool) (H':Hp),(b=true↔∃ t:Tm,t.fit 20∧x=t.str)→Same H H'→Q (.bl b) H')→spIsT n vs H Q u_3
theorem Tm.str_inj {t u:Tm} (ht:t.ok) (hu:u.ok) (h:t.str=u.str):t=u:=by
  have e:t.txt=u.txt:=congrArg (fun z:Str=>z.cps.toList) h
  have h1:=pT_full t (max t.depth u.depth) (r':=[]) ht (Nat.le_max_left _ _) end_nil
  have h2:=pT_full u (max t.depth u.depth) (r':=[]) hu (Nat.le_max_right _ _) end_nil
  rw [e,h2] at h1
  cases h1
  rfl
theorem sc_l_is_term:FnScope ["_law_text_here", "_law_size"] ["_law_text_here"] (defScope s_l_is_term):=⟨rfl,rfl,rfl,by decide +kernel,rfl,by decide +kernel,by decide +kernel⟩
theorem ok_l_is_term {n:Nat} {f:Addr} {fd:FuncData} (F:Fun K "_law_is_term" "_law_is_term" s_l_is_term f fd) (C_l_sized:Cal P w K mg base (n+2) "_law_sized" ["_law_text_here"] (spSz n)):FnOk P w K mg base CX0 (n+3) f fd ["_law_text_here"] (spIsT n):=by
  refine F.ok sc_l_is_term (fun vs H Q E h=>?_) (fun cdv A outer s H vs Q E hr h=>?_)
  · obtain ⟨x,rfl,_⟩:=h
    rfl
  obtain ⟨x,rfl,xl,xn,q⟩:=h
  refine ⟨_,(pss_cons (ps_set (i:=1) sc_l_is_term.nd rfl (Or.inl rfl) (pe_cal C_l_sized hr (by omega) rfl (pa_cons (pv 0) pa_nil)))
      (pss_one (ps_ret (pe_and (pe_cmpR op_notN (pv 1) pe_non (nomark _)) (pe_and (pe_cmpR op_lt (pe_ix ix_tup (pv 1) pe_int (fun _ _=>rfl)) pe_int (nomark _)) (pe_one (pe_cmpR op_lt (pe_ix ix_tup (pv 1) pe_int (fun _ _=>rfl)) pe_int (nomark _)))))))),?_⟩
  refine ⟨_,rfl,x,rfl,xl,xn,fun o v H1 to sz S1=>?_⟩
  cases sz with
  | no =>
    refine ⟨_,rfl,rfl,_,rfl,?_⟩
    refine iteNT rfl ?_
    exact q false H1 ⟨fun h=>(by cases h),fun ⟨t,ft,e⟩=>absurd e (to t ft.1)⟩ S1
  | @ok a t e =>
    obtain ⟨ot,ex⟩:=to
    have un:∀ u:Tm,u.fit 20→x=u.str→u=t:=fun u fu eu=>Tm.str_inj fu.1 ot (by rw [← eu,ex])
    refine ⟨_,rfl,rfl,_,rfl,?_⟩
    refine iteNF (fun z=>by cases z) ?_
    refine ⟨_,rfl,a,_,0,_,rfl,rfl,SqT.of e,at0 ..,_,_,rfl,rfl,_,rfl,?_⟩
    by_cases c1:(t.size:Int) < 21
    rotate_left
    · refine iteDF c1 ?_
      exact q false H1 ⟨fun h=>(by cases h),fun ⟨u,fu,eu⟩=>by
        have:=un u fu eu
        subst this
        have:=fu.2.1
        omega⟩ S1
    refine iteD c1 ?_
    refine ⟨_,rfl,a,_,1,_,rfl,rfl,SqT.of e,at1 ..,_,_,rfl,rfl,?_⟩
    refine q _ H1 ?_ S1
    rw [decide_eq_true_iff]
    refine ⟨fun h=>⟨t,⟨ot,by omega,by omega⟩,ex⟩,fun ⟨u,fu,eu⟩=>?_⟩
    have:=un u fu eu
    subst this
    have:=fu.2.2
    omega
theorem wosL_back {x:List Nat} {ws:List (List Nat)} (h:wosL x=ws) (n:ws ≠ [[]]):joC ws=x:=by
  unfold wosL at h
  cases e:woF x [] 0 with
  | none =>
    rw [e] at h
    exact absurd h.symm n
  | some us =>
    rw [e] at h
    obtain ⟨_,h2⟩:=wo_join x [] 0 e
    have:us=ws:=h
    rw [this] at h2
    exact h2
theorem row_words {h:Hr} (ok:h.ok 20):wosL (cd h.str)=h.ws.map cd:=by
  have e:cd h.str=cd h.wd++h.rest:=h.codes
  rw [e]
  have wp:=whole_plain h.wd_ok
  cases h with
  | fin=>exact wosL_some (by show woF (cd "end" ++ []) [] 0=_; rw [List.append_nil]; exact wo_last wp)
  | go i=>exact wosL_some (wo_two wp (whole_plain (plainC_num ok.1)))
  | iff t i=>exact wosL_some (wo_three wp (whole_tm ok.1.1) (whole_plain (plainC_num ok.2.1)))
  | set y t=>exact wosL_some (wo_three wp (whole_plain (plainC_let ok.1.1)) (whole_tm ok.2.1))
  | say t=>exact wosL_some (wo_two wp (whole_tm ok.1))
theorem words_row {h:Hr} {x:Str} (e:wosL (cd x)=h.ws.map cd):x=h.str:=by
  refine str_ext ?_
  have hn:h.ws.map cd ≠ [[]]:=by
    cases h with
    | fin=>decide +kernel
    | go i=>exact fun z=>by cases z
    | iff t i=>exact fun z=>by cases z
    | set y t=>exact fun z=>by cases z
    | say t=>exact fun z=>by cases z
  have:=wosL_back e hn
  rw [h.codes]
  show cd x=_
  rw [← this]
  cases h <;> rfl
inductive rEqOne (K:PySem.W.Frag) (x:V) (y:V) (H:Hp) (Q:VK):Prop where
  | mk:∀ a b zs z,(x=.ref a)→(y=.ref b)→(SqL K H a (zs.map V.str))→(SqL K H b [V.str z])→(Q (.bl (decide (zs=[z]))) H)→rEqOne K x y H Q
theorem op_eqOne {X:Cx} (hu:X.A.units < cLine):OpR X (compareOp .Eq) (rEqOne X.K):=by
  intro pins s σ H x y v u Q I rx ry h
  obtain ⟨a,b,zs,z,rfl,rfl,ha,hb,q⟩:=h
  cases rx
  cases ry
  obtain ⟨its,r1,p1,_⟩:=I.list ha
  obtain ⟨its2,r2,p2,_⟩:=I.list hb
  obtain ⟨u2,e2,ru⟩:=vals1 r2
  subst e2
  obtain ⟨t2,rfl⟩:=ru
  by_cases c:zs.length=1
  · match zs,c with
    | [w],_ =>
      obtain ⟨u1,e1,r⟩:=vals1 r1
      subst e1
      obtain ⟨t1,rfl⟩:=r
      have ee:decide ([w]=[z])=(w == z):=by
        by_cases h:w=z
        · subst h; simp
        · rw [decide_eq_false (fun e=>h (List.cons.inj e).1)]
          simpa using h
      rw [ee] at q
      refine (SeqAt.RcAt.lists (e:=fun _=>(w == z)) p1.isList p2.isList rfl hu fun j h1 h2=>?_) X.prog X.w X.xe _ ⟨.bl (w == z),H,I,?_,q⟩
      · have j0:j=0:=by simp at h1; omega
        subst j0
        exact SeqAt.EqAt.str_str w _ z _
      · show Value.bool ((List.range 1).all fun _=>w == z)=Value.bool (w == z)
        simp
  · have l1:=r1.length
    rw [List.length_map] at l1
    have e:decide (zs=[z])=false:=decide_eq_false fun e=>c (by rw [e]; rfl)
    rw [e] at q
    exact (SeqAt.RcAt.lists_lengths p1.isList p2.isList (by simp; omega) hu) X.prog X.w X.xe _ ⟨.bl false,H,I,rfl,q⟩
inductive spIsL (n:Nat) (vs:List V) (H:Hp) (Q:VK) (u_3:XK):Prop where
  | mk:∀ x:Str,(vs=[.str x])→(x.length≤60000)→((cd x).count 40 < n)→(∀ (b:Bool) (H':Hp),(b=true↔∃ h:Hr,h.ok 20∧x=h.str)→Same H H'→Q (.bl b) H')→spIsL n vs H Q u_3
theorem sc_l_is_line:FnScope ["_law_line_here", "_law_words"] ["_law_line_here"] (defScope s_l_is_line):=⟨rfl,rfl,rfl,by decide +kernel,rfl,by decide +kernel,by decide +kernel⟩
theorem ok_l_is_line {n:Nat} {f:Addr} {fd:FuncData} (F:Fun K "_law_is_line" "_law_is_line" s_l_is_line f fd) (B:Bl mg) (C_l_words_of:Cal P w K mg base 1 "_law_words_of" ["_law_text_here"] spWds) (C_l_is_name:Cal P w K mg base 2 "_law_is_name" ["_law_text_here"] (spTxt nameB)) (C_l_is_figures:Cal P w K mg base 2 "_law_is_figures" ["_law_text_here"] (spTxt figB)) (C_l_is_term:Cal P w K mg base (n+3) "_law_is_term" ["_law_text_here"] (spIsT n)):FnOk P w K mg base CX0 (n+4) f fd ["_law_line_here"] (spIsL n):=by
  refine F.ok sc_l_is_line (fun vs H Q E h=>?_) (fun cdv A outer s H vs Q E hr h=>?_)
  · obtain ⟨x,rfl,_⟩:=h
    rfl
  obtain ⟨x,rfl,xl,xn,q⟩:=h
  refine ⟨_,(pss_cons (ps_set (i:=1) sc_l_is_line.nd rfl (Or.inl rfl) (pe_cal C_l_words_of hr (by omega) rfl (pa_cons (pv 0) pa_nil)))
      (pss_cons (ps_if (pt_cmpR op_eq (pe_ix ix_list (pv 1) pe_int (fun _ _=>rfl)) pe_str (nomark _)) (pss_one (ps_ret (pe_and (pe_cmpR op_eq (pe_callB call_len_seq rfl B.len PySem.boot_len (pa_cons (pv 1) pa_nil)) pe_int (nomark _)) (pe_and (pe_cal C_l_is_name hr (by omega) rfl (pa_cons (pe_ix ix_list (pv 1) pe_int (fun _ _=>rfl)) pa_nil)) (pe_one (pe_cal C_l_is_term hr (by omega) rfl (pa_cons (pe_ix ix_list (pv 1) pe_int (fun _ _=>rfl)) pa_nil))))))) pss_nil)
      (pss_cons (ps_if (pt_cmpR op_eq (pe_ix ix_list (pv 1) pe_int (fun _ _=>rfl)) pe_str (nomark _)) (pss_one (ps_ret (pe_and (pe_cmpR op_eq (pe_callB call_len_seq rfl B.len PySem.boot_len (pa_cons (pv 1) pa_nil)) pe_int (nomark _)) (pe_one (pe_cal C_l_is_term hr (by omega) rfl (pa_cons (pe_ix ix_list (pv 1) pe_int (fun _ _=>rfl)) pa_nil)))))) pss_nil)
      (pss_cons (ps_if (pt_cmpR op_eq (pe_ix ix_list (pv 1) pe_int (fun _ _=>rfl)) pe_str (nomark _)) (pss_one (ps_ret (pe_and (pe_cmpR op_eq (pe_callB call_len_seq rfl B.len PySem.boot_len (pa_cons (pv 1) pa_nil)) pe_int (nomark _)) (pe_and (pe_cal C_l_is_term hr (by omega) rfl (pa_cons (pe_ix ix_list (pv 1) pe_int (fun _ _=>rfl)) pa_nil)) (pe_one (pe_cal C_l_is_figures hr (by omega) rfl (pa_cons (pe_ix ix_list (pv 1) pe_int (fun _ _=>rfl)) pa_nil))))))) pss_nil)
      (pss_cons (ps_if (pt_cmpR op_eq (pe_ix ix_list (pv 1) pe_int (fun _ _=>rfl)) pe_str (nomark _)) (pss_one (ps_ret (pe_and (pe_cmpR op_eq (pe_callB call_len_seq rfl B.len PySem.boot_len (pa_cons (pv 1) pa_nil)) pe_int (nomark _)) (pe_one (pe_cal C_l_is_figures hr (by omega) rfl (pa_cons (pe_ix ix_list (pv 1) pe_int (fun _ _=>rfl)) pa_nil)))))) pss_nil)
      (pss_one (ps_ret (pe_cmpR (op_eqOne hr.units0) (pv 1) (pe_lst (pa_cons pe_str pa_nil)) (nomark _))))))))),?_⟩
  refine ⟨_,rfl,x,rfl,xl,fun W H1 eW S1=>?_⟩
  have wlen:=wosL_len (cd x)
  have wne:=wosL_ne (cd x)
  have fw:∀ h:Hr,h.ok 20→x=h.str→wosL (cd x)=h.ws.map cd:=fun h ok e=>by rw [e]; exact row_words ok
  have bw:∀ h:Hr,wosL (cd x)=h.ws.map cd→x=h.str:=fun h e=>words_row e
  generalize wosL (cd x)=ws at eW wlen wne fw bw
  cases ws with
  | nil=>exact absurd rfl wne
  | cons w0 us =>
  have at0w:atI (wstr (w0::us)) 0=some (.str (stl w0)):=at0 _ _
  have wl:(wstr (w0::us)).length=us.length+1:=by unfold wstr; rw [List.length_map,List.length_cons]
  have bad:(∀ h:Hr,h.ok 20→x=h.str→False)→∀ {H':Hp},Same H H'→Q (.bl false) H':=fun no H' S=>q false H' ⟨fun h=>(by cases h),fun ⟨h,ok,e⟩=>(no h ok e).elim⟩ S
  have hd:∀ h:Hr,h.ok 20→x=h.str→stl w0=h.wd∧us.length+1=h.ws.length:=fun h ok e=>by
    have e2:=fw h ok e
    have l2:=congrArg List.length e2
    rw [List.length_map,List.length_cons] at l2
    refine ⟨?_,l2⟩
    cases h <;> (have:=(List.cons.inj e2).1; rw [this]; rfl)
  have w0c:w0=cd (stl w0):=rfl
  have hset:∀ h:Hr,h.ok 20→x=h.str→stl w0 = "set" → ∃ (y:Str) (t:Tm),NmK y∧t.fit 20∧us=[cd y,cd t.str]:=fun h ok e w=>by
    have e1:=(hd h ok e).1
    have e2:=fw h ok e
    rw [w] at e1
    cases h with
    | set y t=>exact ⟨y,t,ok.1,ok.2,(List.cons.inj e2).2⟩
    | _=>simp only [Hr.wd] at e1; exact absurd e1 (by decide +kernel)
  have hsay:∀ h:Hr,h.ok 20→x=h.str→stl w0 = "say" → ∃ t:Tm,t.fit 20∧us=[cd t.str]:=fun h ok e w=>by
    have e1:=(hd h ok e).1
    have e2:=fw h ok e
    rw [w] at e1
    cases h with
    | say t=>exact ⟨t,ok,(List.cons.inj e2).2⟩
    | _=>simp only [Hr.wd] at e1; exact absurd e1 (by decide +kernel)
  have hif:∀ h:Hr,h.ok 20→x=h.str→stl w0 = "if" → ∃ (t:Tm) (i:Int),t.fit 20∧0≤i∧i < 1000000000000∧us=[cd t.str,cd (numT i)]:=fun h ok e w=>by
    have e1:=(hd h ok e).1
    have e2:=fw h ok e
    rw [w] at e1
    cases h with
    | iff t i=>exact ⟨t,i,ok.1,ok.2.1,ok.2.2,(List.cons.inj e2).2⟩
    | _=>simp only [Hr.wd] at e1; exact absurd e1 (by decide +kernel)
  have hgo:∀ h:Hr,h.ok 20→x=h.str→stl w0 = "go" → ∃ i:Int,0≤i∧i < 1000000000000∧us=[cd (numT i)]:=fun h ok e w=>by
    have e1:=(hd h ok e).1
    have e2:=fw h ok e
    rw [w] at e1
    cases h with
    | go i=>exact ⟨i,ok.1,ok.2,(List.cons.inj e2).2⟩
    | _=>simp only [Hr.wd] at e1; exact absurd e1 (by decide +kernel)
  have cb:∀ {a b:Str},cd a=cd b→a=b:=fun h=>str_ext h
  have len1:∀ u:List Nat,u ∈ us→(stl u).length≤60000∧(cd (stl u)).count 40 < n:=fun u hu=>by
    obtain ⟨h1,h2⟩:=wlen u (List.mem_cons_of_mem _ hu)
    have h3:=len_cd x
    refine ⟨by rw [stl_len]; omega,?_⟩
    have:=h2 40 (by decide)
    show u.count 40 < n
    omega
  refine ⟨_,rfl,W,_,0,_,rfl,rfl,SqL.of eW,at0w,rfl,_,rfl,?_⟩
  by_cases s1:stl w0 = "set"
  · refine iteD (by rw [s1]) ?_
    refine ⟨_,rfl,W,_,rfl,.inl (SqL.of eW),rfl,_,rfl,?_⟩
    rw [wl]
    by_cases l3:us.length=2
    rotate_left
    · refine iteDF (fun z=>l3 (by have:=V.int.inj z; omega)) ?_
      exact bad (fun h ok e=>by obtain ⟨y,t,_,_,hu⟩:=hset h ok e s1; rw [hu] at l3; exact l3 rfl) S1
    refine iteD (by rw [l3]; rfl) ?_
    match us,l3,hset,len1,eW,bw with
    | [u,v],_,hset,len1,eW,bw =>
    refine ⟨_,rfl,W,_,1,_,rfl,rfl,SqL.of eW,at1 ..,stl u,rfl,(len1 _ (by simp)).1,fun H2 S2=>⟨_,rfl,?_⟩⟩
    cases cn:nameB (stl u) with
    | false =>
      refine iteF ?_
      refine bad (fun h ok e=>?_) (S1.trans S2)
      obtain ⟨y,t,ny,_,hu⟩:=hset h ok e s1
      have:stl u=y:=by cases hu; rfl
      rw [this,nameB_K ny] at cn
      cases cn
    | true =>
      refine iteT ?_
      refine ⟨_,rfl,W,_,2,_,rfl,rfl,SqL.of (S2 _ _ eW),at2 ..,stl v,rfl,(len1 _ (by simp)).1,(len1 _ (by simp)).2,fun b H3 hb S3=>?_⟩
      refine q b H3 (hb.trans ⟨fun ⟨t,ft,e⟩=>⟨.set (stl u) t,⟨nameB_nm cn,ft⟩,bw (.set (stl u) t) ?_⟩,fun ⟨h,ok,e⟩=>?_⟩) (S1.trans (S2.trans S3))
      · show [w0,u,v]=[cd "set", cd (stl u),cd t.str]
        rw [← e,← s1]
        rfl
      · obtain ⟨y,t,_,ft,hu⟩:=hset h ok e s1
        exact ⟨t,ft,by cases hu; rfl⟩
  refine iteDF (fun z=>s1 (V.str.inj z)) ?_
  refine ⟨_,rfl,W,_,0,_,rfl,rfl,SqL.of eW,at0w,rfl,_,rfl,?_⟩
  by_cases s2:stl w0 = "say"
  · refine iteD (by rw [s2]) ?_
    refine ⟨_,rfl,W,_,rfl,.inl (SqL.of eW),rfl,_,rfl,?_⟩
    rw [wl]
    by_cases l3:us.length=1
    rotate_left
    · refine iteDF (fun z=>l3 (by have:=V.int.inj z; omega)) ?_
      exact bad (fun h ok e=>by obtain ⟨t,_,hu⟩:=hsay h ok e s2; rw [hu] at l3; exact l3 rfl) S1
    refine iteD (by rw [l3]; rfl) ?_
    match us,l3,hsay,len1,eW,bw with
    | [v],_,hsay,len1,eW,bw =>
    refine ⟨_,rfl,W,_,1,_,rfl,rfl,SqL.of eW,at1 ..,stl v,rfl,(len1 _ (by simp)).1,(len1 _ (by simp)).2,fun b H3 hb S3=>?_⟩
    refine q b H3 (hb.trans ⟨fun ⟨t,ft,e⟩=>⟨.say t,ft,bw (.say t) ?_⟩,fun ⟨h,ok,e⟩=>?_⟩) (S1.trans S3)
    · show [w0,v]=[cd "say", cd t.str]
      rw [← e,← s2]
      rfl
    · obtain ⟨t,ft,hu⟩:=hsay h ok e s2
      exact ⟨t,ft,by cases hu; rfl⟩
  refine iteDF (fun z=>s2 (V.str.inj z)) ?_
  refine ⟨_,rfl,W,_,0,_,rfl,rfl,SqL.of eW,at0w,rfl,_,rfl,?_⟩
  by_cases s3:stl w0 = "if"
  · refine iteD (by rw [s3]) ?_
    refine ⟨_,rfl,W,_,rfl,.inl (SqL.of eW),rfl,_,rfl,?_⟩
    rw [wl]
    by_cases l3:us.length=2
    rotate_left
    · refine iteDF (fun z=>l3 (by have:=V.int.inj z; omega)) ?_
      exact bad (fun h ok e=>by obtain ⟨t,i,_,_,_,hu⟩:=hif h ok e s3; rw [hu] at l3; exact l3 rfl) S1
    refine iteD (by rw [l3]; rfl) ?_
    match us,l3,hif,len1,eW,bw with
    | [u,v],_,hif,len1,eW,bw =>
    refine ⟨_,rfl,W,_,1,_,rfl,rfl,SqL.of eW,at1 ..,stl u,rfl,(len1 _ (by simp)).1,(len1 _ (by simp)).2,fun b H2 hb S2=>⟨_,rfl,?_⟩⟩
    cases b with
    | false =>
      refine iteF ?_
      refine bad (fun h ok e=>?_) (S1.trans S2)
      obtain ⟨t,i,ft,_,_,hu⟩:=hif h ok e s3
      have:=hb.mpr ⟨t,ft,by cases hu; rfl⟩
      cases this
    | true =>
      refine iteT ?_
      obtain ⟨t,ft,et⟩:=hb.mp rfl
      refine ⟨_,rfl,W,_,2,_,rfl,rfl,SqL.of (S2 _ _ eW),at2 ..,stl v,rfl,(len1 _ (by simp)).1,fun H3 S3=>?_⟩
      refine q _ H3 ⟨fun cf=>?_,fun ⟨h,ok,e⟩=>?_⟩ (S1.trans (S2.trans S3))
      · obtain ⟨i,i0,i1,ei⟩:=figB_num cf
        refine ⟨.iff t i,⟨ft,i0,i1⟩,bw (.iff t i) ?_⟩
        show [w0,u,v]=[cd "if", cd t.str,cd (numT i)]
        rw [← et,← s3,← ei]
        rfl
      · obtain ⟨t',i,_,i0,i1,hu⟩:=hif h ok e s3
        have:stl v=numT i:=by cases hu; rfl
        rw [this]
        exact num_fig i0 i1
  refine iteDF (fun z=>s3 (V.str.inj z)) ?_
  refine ⟨_,rfl,W,_,0,_,rfl,rfl,SqL.of eW,at0w,rfl,_,rfl,?_⟩
  by_cases s4:stl w0 = "go"
  · refine iteD (by rw [s4]) ?_
    refine ⟨_,rfl,W,_,rfl,.inl (SqL.of eW),rfl,_,rfl,?_⟩
    rw [wl]
    by_cases l3:us.length=1
    rotate_left
    · refine iteDF (fun z=>l3 (by have:=V.int.inj z; omega)) ?_
      exact bad (fun h ok e=>by obtain ⟨i,_,_,hu⟩:=hgo h ok e s4; rw [hu] at l3; exact l3 rfl) S1
    refine iteD (by rw [l3]; rfl) ?_
    match us,l3,hgo,len1,eW,bw with
    | [v],_,hgo,len1,eW,bw =>
    refine ⟨_,rfl,W,_,1,_,rfl,rfl,SqL.of eW,at1 ..,stl v,rfl,(len1 _ (by simp)).1,fun H3 S3=>?_⟩
    refine q _ H3 ⟨fun cf=>?_,fun ⟨h,ok,e⟩=>?_⟩ (S1.trans S3)
    · obtain ⟨i,i0,i1,ei⟩:=figB_num cf
      refine ⟨.go i,⟨i0,i1⟩,bw (.go i) ?_⟩
      show [w0,v]=[cd "go", cd (numT i)]
      rw [← s4,← ei]
      rfl
    · obtain ⟨i,i0,i1,hu⟩:=hgo h ok e s4
      have:stl v=numT i:=by cases hu; rfl
      rw [this]
      exact num_fig i0 i1
  refine iteDF (fun z=>s4 (V.str.inj z)) ?_
  refine ⟨_,rfl,(by show 1≤sizeLine; decide),fun p hp=>?_⟩
  have Gp:=Same.new hp (.lst [.str "end"])
  have ews:wstr (w0::us)=((w0::us).map stl).map V.str:=by unfold wstr; rw [List.map_map]; rfl
  have eW2:=Gp _ _ eW
  rw [ews] at eW2
  refine ⟨W,p,_, "end", rfl,rfl,SqL.of eW2,SqL.of upd_same,?_⟩
  refine q _ _ ?_ (S1.trans Gp)
  rw [decide_eq_true_iff]
  refine ⟨fun e=>⟨.fin,trivial,bw .fin ?_⟩,fun ⟨h,ok,e⟩=>?_⟩
  · rw [List.map_cons] at e
    obtain ⟨e1,e2⟩:=List.cons.inj e
    rw [List.map_eq_nil_iff.mp e2]
    show [w0]=[cd "end"]
    rw [← e1]
    rfl
  · have e1:=(hd h ok e).1
    have e2:=fw h ok e
    cases h with
    | fin =>
      rw [e2]
      rfl
    | go i=>exact absurd e1 s4
    | iff t i=>exact absurd e1 s3
    | set y t=>exact absurd e1 s1
    | say t=>exact absurd e1 s2
inductive spFW (n:Nat) (vs:List V) (H:Hp) (Q:VK) (u_3:XK):Prop where
  | mk:∀ (a:Addr) (ls:List Str),(vs=[.ref a])→(H a=some (.lst (ls.map V.str)))→(ls.length≤1000)→(∀ x ∈ ls,x.length≤60000∧(cd x).count 40 < n)→(∀ (i:Nat) (H':Hp),BadAt ls i→Same H H'→Q (.int (i:Int)) H')→(∀ (rs:List Hr) (H':Hp),ls=rs.map Hr.str→GoodR rs→Same H H'→Q .non H')→spFW n vs H Q u_3
theorem sc_l_first_wrong:FnScope ["_law_lines", "_law_at", "_law_line_here"] ["_law_lines"] (defScope s_l_first_wrong):=⟨rfl,rfl,rfl,by decide +kernel,rfl,by decide +kernel,by decide +kernel⟩
theorem ok_l_first_wrong {n:Nat} {f:Addr} {fd:FuncData} (F:Fun K "_law_first_wrong" "_law_first_wrong" s_l_first_wrong f fd) (B:Bl mg) (C_l_is_line:Cal P w K mg base (n+4) "_law_is_line" ["_law_line_here"] (spIsL n)):FnOk P w K mg base CX0 (n+5) f fd ["_law_lines"] (spFW n):=by
  refine F.ok sc_l_first_wrong (fun vs H Q E h=>?_) (fun cdv A outer s H vs Q E hr h=>?_)
  · obtain ⟨a,ls,rfl,_⟩:=h
    rfl
  obtain ⟨a,ls,rfl,ga,ll,lok,qb,qg⟩:=h
  refine ⟨_,(pss_cons (ps_for PassesOwn.never rfl (pi_enum rfl B.enumerate (pv 0)) (pg_tup rfl (pgs_cons (pg_name (i:=1) sc_l_first_wrong.nd rfl (Or.inl rfl)) (pgs_cons (pg_name (i:=2) sc_l_first_wrong.nd rfl (Or.inl rfl)) pgs_nil)))
        (pss_one (ps_if (PW.pt (pw_or (pt_cmpR op_gt (pv 1) pe_int (nomark _)) (pw_or1 (pt_not (pt_val (pe_cal C_l_is_line hr (by omega) rfl (pa_cons (pv 2) pa_nil))))))) (pss_one (ps_ret (pv 1))) pss_nil)))
      (pss_one (ps_ret pe_non))),?_⟩
  refine ⟨_,rfl,a,rfl,⟨_,SqL.of ga⟩,for_enum (K:=K) (xs:=ls.map V.str) (fun i σ H'=>∃ (x2 x3:Option V) (rs:List Hr),σ=[some (.ref a),x2,x3]∧ls.take i=rs.map Hr.str∧(∀ r ∈ rs,r.ok 20)∧rs.length≤60∧Same H H')
    ⟨_,_,[],rfl,rfl,(fun r hr=>by cases hr),Nat.zero_le _,Same.refl _⟩ (fun i σ H' _ hst=>by obtain ⟨_,_,_,_,_,_,_,h⟩:=hst; exact SqL.of (h _ _ ga)) ?_ ?_⟩
  · rintro i z σ H3 t hz ⟨x2,x3,rs,rfl,et,rok,r60,S3⟩ ht
    have hi:=(List.getElem?_eq_some_iff.mp hz).1
    rw [List.length_map] at hi
    rw [List.getElem?_map] at hz
    obtain ⟨y,hy,rfl⟩:=Option.map_eq_some_iff.mp hz
    have Gt:=Same.new ht (.tup [.int (i:Int),.str y])
    have il:rs.length=i:=by
      have:=congrArg List.length et
      rw [List.length_take,List.length_map] at this
      omega
    have all:∀ (j:Nat) (u:Str),j < i→ls[j]?=some u→∃ h:Hr,h.ok 20∧u=h.str:=fun j u hj hu=>by
      have h1:(ls.take i)[j]?=some u:=by rw [List.getElem?_take,if_pos hj]; exact hu
      rw [et,List.getElem?_map] at h1
      obtain ⟨r,hr,e⟩:=Option.map_eq_some_iff.mp h1
      exact ⟨r,rok r (List.mem_of_getElem? hr),e.symm⟩
    refine ⟨t,_,rfl,SqT.of upd_same,rfl,_,_,rfl,_,_,rfl,rfl,?_⟩
    refine ⟨_,rfl,_,_,rfl,rfl,_,rfl,?_⟩
    by_cases c60:(59:Int) < (i:Int)
    · refine iteD c60 (iteT ?_)
      exact ⟨_,rfl,qb i _ ⟨hi,by omega,all,.inl (by omega)⟩ (S3.trans Gt)⟩
    refine iteDF c60 ?_
    obtain ⟨yl,yc⟩:=lok y (List.mem_of_getElem? hy)
    refine ⟨_,rfl,y,rfl,yl,yc,fun b H4 hb S4=>⟨_,rfl,?_⟩⟩
    have S34:Same H H4:=S3.trans (Gt.trans S4)
    cases b with
    | false =>
      refine iteT ?_
      refine ⟨_,rfl,qb i _ ⟨hi,by omega,all,.inr fun u hu h ok e=>?_⟩ S34⟩
      rw [hy] at hu
      cases hu
      have:=hb.mpr ⟨h,ok,e⟩
      cases this
    | true =>
      refine iteF ?_
      obtain ⟨h,ok,e⟩:=hb.mp rfl
      refine ⟨_,_,rs++[h],rfl,?_,?_,?_,S34⟩
      · rw [List.take_add_one,hy,List.map_append,et,e]
        rfl
      · intro r hr
        rcases List.mem_append.mp hr with hr | hr
        · exact rok r hr
        · rw [List.mem_singleton.mp hr]
          exact ok
      · rw [List.length_append,il]
        show i+1≤60
        omega
  · rintro σ H3 ⟨x2,x3,rs,rfl,et,rok,r60,S3⟩
    rw [List.length_map,List.take_length] at et
    exact qg rs H3 et ⟨r60,rok⟩ S3
structure Exs (K:PySem.W.Frag) (mg:Str→Option Value) (CA c0 c1 c2 c3 c4 c5 c6 c7 c8 c9:Addr):Prop where
  g0:mg "NoText" = some (.ref c0)
  x0:ClsX K c0 CA
  n0:c0 ≠ CA
  g1:mg "Twice" = some (.ref c1)
  x1:ClsX K c1 CA
  n1:c1 ≠ CA
  g2:mg "NoName" = some (.ref c2)
  x2:ClsX K c2 CA
  n2:c2 ≠ CA
  g3:mg "NoField" = some (.ref c3)
  x3:ClsX K c3 CA
  n3:c3 ≠ CA
  g4:mg "SmallField" = some (.ref c4)
  x4:ClsX K c4 CA
  n4:c4 ≠ CA
  g5:mg "NoRow" = some (.ref c5)
  x5:ClsX K c5 CA
  n5:c5 ≠ CA
  g6:mg "NoTurn" = some (.ref c6)
  x6:ClsX K c6 CA
  n6:c6 ≠ CA
  g7:mg "NoCount" = some (.ref c7)
  x7:ClsX K c7 CA
  n7:c7 ≠ CA
  g8:mg "NoNumber" = some (.ref c8)
  x8:ClsX K c8 CA
  n8:c8 ≠ CA
  g9:mg "TooMany" = some (.ref c9)
  x9:ClsX K c9 CA
  n9:c9 ≠ CA
  gA:mg "AskError" = some (.ref CA)
  iA:isBaseX K CA
  nd:[c0,c1,c2,c3,c4,c5,c6,c7,c8,c9].Nodup
theorem kit_same {K:PySem.W.Frag} {C:Addr}:PySem.W.kitOne K (.ref C) (.ref C)=some true:=by
  unfold PySem.W.kitOne
  rw [if_pos (by simp)]
theorem kitAny_no {K:PySem.W.Frag} {t:Value} {Ds:List Addr} (h:∀ D ∈ Ds,PySem.W.kitOne K t (.ref D)=some false):PySem.W.kitAny K t (Ds.map Value.ref)=some false:=by
  induction Ds with
  | nil=>rfl
  | cons D r ih =>
    show (match PySem.W.kitOne K t (.ref D) with | some true=>some true | some false=>PySem.W.kitAny K t (r.map Value.ref) | none=>none)=_
    rw [h D List.mem_cons_self]
    exact ih fun D' hD=>h D' (List.mem_cons_of_mem _ hD)
section
variable {CA c0 c1 c2 c3 c4 c5 c6 c7 c8 c9:Addr}
inductive spToldR (vs:List V) (H:Hp) (Q:VK) (u_3:XK):Prop where
  | mk:∀ (x:Str) (i:Nat),(vs=[.str x])→(x.length≤100000)→(x ≠ "")→((Txt.split x ("\n" : Str)).length≤1000)→(∀ y ∈ Txt.split x ("\n" : Str),y.length≤60000)→(BadAt (Txt.split x ("\n" : Str)) i)→(∀ H',Same H H'→Q (.int (i:Int)) H')→spToldR vs H Q u_3
theorem bad_good {ls:List Str} {i:Nat} {rs:List Hr} (b:BadAt ls i) (e:ls=rs.map Hr.str) (g:GoodR rs):False:=by
  obtain ⟨h1,h2,_,h4⟩:=b
  rw [e,List.length_map] at h1
  have h6:=g.1
  rcases h4 with h4 | h4
  · omega
  · refine h4 (rs[i]'h1).str ?_ (rs[i]'h1) (g.2 _ (List.getElem_mem h1)) rfl
    rw [e,List.getElem?_map,List.getElem?_eq_getElem h1]
    rfl
theorem bad_uniq {ls:List Str} {i j:Nat} (a:BadAt ls i) (b:BadAt ls j):i=j:=by
  have lt:∀ {i j:Nat},BadAt ls i→BadAt ls j→i < j→False:=fun {i j} a b h=>by
    obtain ⟨a1,a2,a3,a4⟩:=a
    obtain ⟨b1,b2,b3,b4⟩:=b
    rcases a4 with a4 | a4
    · omega
    · have hi:ls[i]?=some (ls[i]'a1):=List.getElem?_eq_getElem a1
      obtain ⟨h',ok,e⟩:=b3 i _ h hi
      exact a4 _ hi h' ok e
  rcases Nat.lt_trichotomy i j with h | h | h
  · exact (lt a b h).elim
  · exact h
  · exact (lt b a h).elim
theorem sc_l_told_row:FnScope ["_law_text_here", "_law_caught", "e"] ["_law_text_here"] (defScope s_l_told_row):=⟨rfl,rfl,rfl,by decide +kernel,rfl,by decide +kernel,by decide +kernel⟩
theorem ok_l_told_row {f:Addr} {fd:FuncData} (F:Fun K "_law_told_row" "_law_told_row" s_l_told_row f fd) (B:Bl mg) (hV:mg "ValueError" = none) (T:Exs K mg CA c0 c1 c2 c3 c4 c5 c6 c7 c8 c9) (n0:NoAttr K c0 "row") (C_read_helper:CalR P w K mg base 24 "read_helper" ["text"] (spReadR c0)):FnOk P w K mg base CX0 25 f fd ["_law_text_here"] spToldR:=by
  refine F.ok sc_l_told_row (fun vs H Q E h=>?_) (fun cdv A outer s H vs Q E hr h=>?_)
  · obtain ⟨x,i,rfl,_⟩:=h
    rfl
  obtain ⟨x,i,rfl,xl,xne,sl,sok,bd,q⟩:=h
  refine ⟨_,(pss_cons (ps_set (i:=1) sc_l_told_row.nd rfl (Or.inl rfl) pe_non)
      (pss_cons (ps_try (i:=2) (CA:=CA) sc_l_told_row.nd rfl rfl rfl T.gA T.iA (psw_expr C_read_helper hr (by decide) rfl (fun W=>pa_cons (pv 0) pa_nil)) (fun e=>pss_one (ps_set (i:=1) sc_l_told_row.nd rfl (Or.inl rfl) (pv 2))))
      (pss_cons (ps_if (PW.pt (pw_or (pt_not (pt_val (pe_callB (call_isiXK K) rfl B.isinstance PyProof.Rows.boot_isinstance (pa_cons (pv 1) (pa_cons (pe_glob (v:=.ref c0) rfl T.g0 rfl) pa_nil))))) (pw_or1 (pt_not (pt_val (pe_callB (call_isiXK K) rfl B.isinstance PyProof.Rows.boot_isinstance (pa_cons (pv 1) (pa_cons (pe_bltn (v:=V.ty "ValueError") rfl hV boot_val rfl) pa_nil)))))))) (pss_one (ps_ret pe_non)) pss_nil)
      (pss_cons (ps_if (pt_val (pe_callB (call_isiXK K) rfl B.isinstance PyProof.Rows.boot_isinstance (pa_cons (pv 1) (pa_cons (pe_tup (pa_cons (pe_glob (v:=.ref c7) rfl T.g7 rfl) (pa_cons (pe_glob (v:=.ref c3) rfl T.g3 rfl) (pa_cons (pe_glob (v:=.ref c2) rfl T.g2 rfl) (pa_cons (pe_glob (v:=.ref c8) rfl T.g8 rfl) (pa_cons (pe_glob (v:=.ref c5) rfl T.g5 rfl) (pa_cons (pe_glob (v:=.ref c6) rfl T.g6 rfl) (pa_cons (pe_glob (v:=.ref c4) rfl T.g4 rfl) (pa_cons (pe_glob (v:=.ref c9) rfl T.g9 rfl) (pa_cons (pe_glob (v:=.ref c1) rfl T.g1 rfl) pa_nil)))))))))) pa_nil)))) (pss_one (ps_ret pe_non)) pss_nil)
      (pss_cons (ps_if (PW.pt (pw_or (pt_not (pt_val (pe_callB call_isinst rfl B.isinstance PyProof.Rows.boot_isinstance (pa_cons (pe_fldXK K (pv 1) rfl) (pa_cons (pe_bltn (v:=V.ty "int") rfl B.int boot_int' rfl) pa_nil))))) (pw_or1 (pt_val (pe_callB call_isinst rfl B.isinstance PyProof.Rows.boot_isinstance (pa_cons (pe_fldXK K (pv 1) rfl) (pa_cons (pe_bltn (v:=V.ty "bool") rfl B.bool boot_bool' rfl) pa_nil))))))) (pss_one (ps_ret pe_non)) pss_nil)
      (pss_one (ps_ret (pe_fldXK K (pv 1) rfl)))))))),?_⟩
  refine ⟨_,rfl,x,rfl,xl,fun z=>absurd z xne,fun _=>⟨sl,sok,fun rs a tv H' e g _ _ _=>(bad_good bd e g).elim,fun j bj=>?_⟩⟩
  have ij:=bad_uniq bd bj
  subst ij
  intro e dx H2 S2 he hd
  refine ⟨e,c0,dx,rfl,rfl,he,T.x0,?_⟩
  refine ⟨_,rfl,?_⟩
  refine ⟨_,rfl,e,c0,CA,dx,_,_,rfl,.inr he,T.x0,.inl ⟨_,rfl,kit_same⟩,_,rfl,?_⟩
  refine iteF ?_
  refine ⟨_,rfl,e,c0,CA,dx,_,_,rfl,.inr he,T.x0,.inr (.inl ⟨_,rfl,kit_val T.x0⟩),_,rfl,?_⟩
  refine iteF ?_
  refine ⟨_,rfl,(by show 9≤sizeLine; decide),fun tp htp=>?_⟩
  have S3:=Same.new htp (.tup [.ref c7,.ref c3,.ref c2,.ref c8,.ref c5,.ref c6,.ref c4,.ref c9,.ref c1])
  have nds:=T.nd
  have ka:PySem.W.kitAny K (.ref c0) ([c7,c3,c2,c8,c5,c6,c4,c9,c1].map Value.ref)=some false:=kitAny_no fun D hD=>by
    simp only [List.nodup_cons,List.mem_cons,List.not_mem_nil,or_false,not_or] at nds
    simp only [List.mem_cons,List.not_mem_nil,or_false] at hD
    rcases hD with rfl | rfl | rfl | rfl | rfl | rfl | rfl | rfl | rfl
    · rw [kit_is T.x0 T.x7 T.n7,beq_eq_false_iff_ne.mpr (by grind)]
    · rw [kit_is T.x0 T.x3 T.n3,beq_eq_false_iff_ne.mpr (by grind)]
    · rw [kit_is T.x0 T.x2 T.n2,beq_eq_false_iff_ne.mpr (by grind)]
    · rw [kit_is T.x0 T.x8 T.n8,beq_eq_false_iff_ne.mpr (by grind)]
    · rw [kit_is T.x0 T.x5 T.n5,beq_eq_false_iff_ne.mpr (by grind)]
    · rw [kit_is T.x0 T.x6 T.n6,beq_eq_false_iff_ne.mpr (by grind)]
    · rw [kit_is T.x0 T.x4 T.n4,beq_eq_false_iff_ne.mpr (by grind)]
    · rw [kit_is T.x0 T.x9 T.n9,beq_eq_false_iff_ne.mpr (by grind)]
    · rw [kit_is T.x0 T.x1 T.n1,beq_eq_false_iff_ne.mpr (by grind)]
  refine ⟨e,c0,CA,dx,_,_,rfl,.inr (S3 _ _ he),T.x0,.inr (.inr ⟨tp,[c7,c3,c2,c8,c5,c6,c4,c9,c1],rfl,upd_same,ka⟩),_,rfl,?_⟩
  refine iteF ?_
  have he3:=S3 _ _ he
  have hd3:=S3 _ _ hd
  refine ⟨_,rfl,e,c0,CA,dx,_,_,rfl,.inr he3,hd3,lk1 _ _,T.x0,n0,?_⟩
  refine ⟨_,_, "int", true,rfl,TyOf.int _,kit_self _ _,_,rfl,?_⟩
  refine iteF ?_
  refine ⟨_,rfl,e,c0,CA,dx,_,_,rfl,.inr he3,hd3,lk1 _ _,T.x0,n0,?_⟩
  refine ⟨_,_, "bool", false,rfl,TyOf.int _,kit_int_bool _,_,rfl,?_⟩
  refine iteF ?_
  refine ⟨_,rfl,e,c0,CA,dx,_,_,rfl,.inr he3,hd3,lk1 _ _,T.x0,n0,?_⟩
  exact q _ (S2.trans S3)
end
def Lns (n:Nat) (ls:List Str):Prop:=ls.length≤70∧∀ x ∈ ls,x.length≤1300∧(cd x).count 40 < n∧∀ c ∈ cd x,10 < c
def joT (ls:List Str):Str:=Txt.join ("\n" : Str) ls
theorem joT_len {n:Nat} {ls:List Str} (h:Lns n ls):(joT ls).length≤100000:=by
  have s:=sum_le (l:=ls) (b:=1300) fun p hp=>(h.2 p hp).1
  have:=len_join ("\n" : Str) ls (by decide +kernel)
  have:=h.1
  unfold joT
  omega
theorem joT_split {n:Nat} {ls:List Str} (h:Lns n ls) (h0:ls ≠ []):Txt.split (joT ls) ("\n" : Str)=ls:=by
  unfold joT
  rw [nl_eq,join_tx]
  exact split_join (c:=10) h0 fun p hp hc=>by
    have:=(h.2 p hp).2.2 10 hc
    omega
inductive spRight (n:Nat) (vs:List V) (H:Hp) (Q:VK) (u_3:XK):Prop where
  | mk:∀ (a:Addr) (ls:List Str),(vs=[.ref a])→(H a=some (.lst (ls.map V.str)))→(Lns n ls)→(∀ H',Same H H'→Q (.bl true) H')→spRight n vs H Q u_3
section
variable {c0:Addr}
theorem sc_l_right:FnScope ["_law_lines", "_law_text_here", "_law_due"] ["_law_lines"] (defScope s_l_right):=⟨rfl,rfl,rfl,by decide +kernel,rfl,by decide +kernel,by decide +kernel⟩
theorem ok_l_right {n:Nat} {f:Addr} {fd:FuncData} (F:Fun K "_law_right" "_law_right" s_l_right f fd) (hn:25≤n+5) (C_l_first_wrong:Cal P w K mg base (n+5) "_law_first_wrong" ["_law_lines"] (spFW n)) (C_l_told_row:Cal P w K mg base 25 "_law_told_row" ["_law_text_here"] spToldR) (C_read_helper:CalR P w K mg base 24 "read_helper" ["text"] (spReadR c0)) (C_helper_text:Cal P w K mg base 19 "helper_text" ["helper"] spHT):FnOk P w K mg base CX0 (n+6) f fd ["_law_lines"] (spRight n):=by
  refine F.ok sc_l_right (fun vs H Q E h=>?_) (fun cdv A outer s H vs Q E hr h=>?_)
  · obtain ⟨a,ls,rfl,_⟩:=h
    rfl
  obtain ⟨a,ls,rfl,ga,lo,q⟩:=h
  refine ⟨_,(pss_cons (ps_set (i:=1) sc_l_right.nd rfl (Or.inl rfl) (pe_bm PySem.F.plainAttrs_str PySem.F.slot_str_join PySem.F.type_str_join mt_join pe_str (pa_cons (pv 0) pa_nil)))
      (pss_cons (ps_set (i:=2) sc_l_right.nd rfl (Or.inl rfl) (pe_cal C_l_first_wrong hr (by omega) rfl (pa_cons (pv 0) pa_nil)))
      (pss_cons (ps_if (pt_cmpR op_eq (pv 1) pe_str (nomark _)) (pss_one (ps_ret (pe_cmpR (op_eqD hr.units) (pe_calR C_read_helper hr (by omega) rfl noRaise (pa_cons (pv 1) pa_nil)) (pe_tup pa_nil) (nomark _)))) pss_nil)
      (pss_cons (ps_if (pt_cmpR op_isN (pv 2) pe_non (nomark _)) (pss_one (ps_ret (pe_cmpR op_eq (pe_cal C_helper_text hr (by omega) rfl (pa_cons (pe_calR C_read_helper hr (by omega) rfl noRaise (pa_cons (pv 1) pa_nil)) pa_nil)) (pv 1) (nomark _)))) pss_nil)
      (pss_one (ps_ret (pe_cmpR op_eq (pe_cal C_l_told_row hr (by omega) rfl (pa_cons (pv 1) pa_nil)) (pv 2) (nomark _)))))))),?_⟩
  have xl:=joT_len lo
  have ssum:=sum_le (l:=ls) (b:=1300) fun p hp=>(lo.2 p hp).1
  have l70:=lo.1
  have b91:ls.length*1300≤91000:=by omega
  refine ⟨rfl,_,rfl,_,a,_,rfl,rfl,SqL.of ga,(by decide +kernel),by omega,?_⟩
  have tru:∀ {b:Bool} {H':Hp},b=true→Same H H'→Q (.bl b) H':=fun {b H'} e S=>by rw [e]; exact q H' S
  have lsne:joT ls ≠ "" → ls ≠ []:=fun h e=>h (by rw [e]; decide +kernel)
  refine ⟨_,rfl,a,ls,rfl,ga,by omega,fun x hx=>⟨by have:=(lo.2 x hx).1; omega,(lo.2 x hx).2.1⟩,fun i H1 bd S1=>?_,fun rs H1 e g S1=>?_⟩
  · refine ⟨_,rfl,rfl,_,rfl,?_⟩
    by_cases c:joT ls = ""
    · refine iteD (congrArg V.str c) ?_
      refine ⟨_,rfl,joT ls,rfl,xl,fun _ a2 H2 e2 S2=>?_,fun z=>absurd c z⟩
      refine ⟨Nat.zero_le _,fun p hp=>?_⟩
      have Gp:=Same.new hp (.tup [])
      refine ⟨_,_,.tup (SqT.of (Gp _ _ e2)) .nil,.tup (SqT.of upd_same) .nil,rfl,rfl,?_⟩
      exact tru rfl (S1.trans (S2.trans Gp))
    refine iteDF (fun z=>c (V.str.inj z)) ?_
    have sp:=joT_split lo (lsne c)
    refine ⟨_,rfl,rfl,_,rfl,?_⟩
    refine iteDF (fun z=>by cases z) ?_
    refine ⟨_,rfl,joT ls,i,rfl,xl,c,by rw [sp]; omega,fun y hy=>by rw [sp] at hy; have:=(lo.2 y hy).1; omega,by rw [sp]; exact bd,fun H2 S2=>?_⟩
    exact ⟨_,rfl,rfl,tru (decide_eq_true rfl) (S1.trans S2)⟩
  · refine ⟨_,rfl,rfl,_,rfl,?_⟩
    by_cases c:joT ls = ""
    · refine iteD (congrArg V.str c) ?_
      refine ⟨_,rfl,joT ls,rfl,xl,fun _ a2 H2 e2 S2=>?_,fun z=>absurd c z⟩
      refine ⟨Nat.zero_le _,fun p hp=>?_⟩
      have Gp:=Same.new hp (.tup [])
      refine ⟨_,_,.tup (SqT.of (Gp _ _ e2)) .nil,.tup (SqT.of upd_same) .nil,rfl,rfl,?_⟩
      exact tru rfl (S1.trans (S2.trans Gp))
    refine iteDF (fun z=>c (V.str.inj z)) ?_
    have sp:=joT_split lo (lsne c)
    refine ⟨_,rfl,rfl,_,rfl,?_⟩
    refine iteD rfl ?_
    refine ⟨_,rfl,joT ls,rfl,xl,fun z=>absurd z c,fun _=>⟨by rw [sp]; omega,fun y hy=>by rw [sp] at hy; have:=(lo.2 y hy).1; omega,fun rs2 a2 tv H2 e2 g2 ea ra S2=>?_,fun i b=>(bad_good b (by rw [sp]; exact e) g).elim⟩⟩
    refine ⟨a2,tv,rs2,rfl,ea,ra,g2,fun H3 S3=>?_⟩
    refine ⟨_,rfl,rfl,tru (decide_eq_true ?_) (S1.trans (S2.trans S3))⟩
    rw [sp] at e2
    show V.str (helpT rs2)=V.str (joT ls)
    unfold helpT joT
    rw [e2]
end
def oddA:List Str:=["round", "due", "asked", "coin", "true", "yes", "abcdefg", "", "+1", "1_0", "-0", "01", "0"]
def oddB:List Str:=["1234567890123", "123456789012", "A", "(", ")", "+-", "=<", "set", "end", "x", "()"]
def oddC:List Str:=["(coin 1)", "(x 1)"]
def oddW:List Str:=(oddA++oddB)++oddC
theorem odd_ok:∀ x ∈ oddW,x.length≤13∧(cd x).count 40≤1∧∀ c ∈ cd x,10 < c:=by decide +kernel
def eltsB:Expr→List Expr
  | .BinOp _ _ (.List es _) _=>es
  | _=>[]
@[irreducible] def oddEA:List Expr:=eltsOf (valOf (stm s_l_odd 0))
@[irreducible] def oddEB:List Expr:=eltsB (valOf (stm s_l_odd 1))
theorem oddEA_w:Consts oddEA oddA:=by
  unfold oddEA
  exact .cons (.cons (.cons (.cons (.cons (.cons (.cons (.cons (.cons (.cons (.cons (.cons (.cons .nil))))))))))))
theorem oddEB_w:Consts oddEB oddB:=by
  unfold oddEB
  exact .cons (.cons (.cons (.cons (.cons (.cons (.cons (.cons (.cons (.cons (.cons .nil))))))))))
theorem odd_body:∃ p1 p2 p3 p4 p5 p6 p7 p8,defBody s_l_odd=[.Assign [.Name "_law_some_here" p1] (.List oddEA p2) p3,.Assign [.Name "_law_some_here" p4] (.BinOp (.Name "_law_some_here" p5) .Add (.List oddEB p6) p7) p8,stm s_l_odd 2] :=
  ⟨_,_,_,_,_,_,_,_,by with_unfolding_all rfl⟩
inductive spOdd (vs:List V) (H:Hp) (Q:VK) (u_3:XK):Prop where
  | mk:∀ f:Addr,(vs=[.ref f])→(FeedAt H f)→(∀ (x:Str) (H':Hp),x ∈ oddW→FeedAt H' f→SameBut f H H'→Q (.str x) H')→spOdd vs H Q u_3
theorem sc_l_odd:FnScope ["_law_feed_here", "_law_some_here"] ["_law_feed_here"] (defScope s_l_odd):=⟨rfl,rfl,rfl,by decide +kernel,rfl,by decide +kernel,by decide +kernel⟩
theorem ok_l_odd {f:Addr} {fd:FuncData} (F:Fun K "_law_odd" "_law_odd" s_l_odd f fd) (C_l_some:Cal P w K mg base 2 "_law_some" ["_law_feed_here", "_law_pool"] spSome):FnOk P w K mg base CX0 3 f fd ["_law_feed_here"] spOdd:=by
  refine F.ok sc_l_odd (fun vs H Q E h=>?_) (fun cdv A outer s H vs Q E hr h=>?_)
  · obtain ⟨f,rfl,_⟩:=h
    rfl
  obtain ⟨f,rfl,F0,q⟩:=h
  obtain ⟨p1,p2,p3,p4,p5,p6,p7,p8,eb⟩:=odd_body
  rw [eb]
  refine ⟨_,(pss_cons (ps_set (i:=1) sc_l_odd.nd rfl (Or.inl rfl) (pe_lst (pa_consts oddEA_w)))
      (pss_cons (ps_set (i:=1) sc_l_odd.nd rfl (Or.inl rfl) (pe_op op_cat (pv 1) (pe_lst (pa_consts oddEB_w))))
      (pss_one (ps_ret (pe_cal C_l_some hr (by decide) rfl (pa_cons (pv 0) (pa_cons (pe_op op_cat (pv 1) (pe_lst (pa_cons pe_str (pa_cons pe_str pa_nil)))) pa_nil))))))),?_⟩
  refine ⟨(by show 13≤sizeLine; decide),fun k1 h1=>?_⟩
  generalize hA:upd H k1 _=H1
  have G1:Same H H1:=by rw [← hA]; exact Same.new h1 _
  have e1:H1 k1=some (.lst (oddA.map V.str)):=by rw [← hA]; exact upd_same
  refine ⟨_,rfl,(by show 11≤sizeLine; decide),fun k2 h2=>?_⟩
  generalize hB:upd H1 k2 _=H2
  have G2:Same H1 H2:=by rw [← hB]; exact Same.new h2 _
  have e2:H2 k2=some (.lst (oddB.map V.str)):=by rw [← hB]; exact upd_same
  refine ⟨k1,k2,oddA.map V.str,oddB.map V.str,rfl,rfl,G2 _ _ e1,e2,(by show 24≤sizeLine; decide),fun k3 h3=>?_⟩
  generalize hC:upd H2 k3 _=H3
  have G3:Same H2 H3:=by rw [← hC]; exact Same.new h3 _
  have e3:H3 k3=some (.lst ((oddA++oddB).map V.str)):=by rw [← hC,List.map_append]; exact upd_same
  refine ⟨_,rfl,_,rfl,(by show 2≤sizeLine; decide),fun k4 h4=>?_⟩
  generalize hD:upd H3 k4 _=H4
  have G4:Same H3 H4:=by rw [← hD]; exact Same.new h4 _
  have e4:H4 k4=some (.lst (oddC.map V.str)):=by rw [← hD]; exact upd_same
  refine ⟨k3,k4,(oddA++oddB).map V.str,oddC.map V.str,rfl,rfl,G4 _ _ e3,e4,(by show 26≤sizeLine; decide),fun k5 h5=>?_⟩
  have G5:=Same.new h5 (.lst ((oddA++oddB).map V.str++oddC.map V.str))
  have e5:upd H4 k5 (.lst ((oddA++oddB).map V.str++oddC.map V.str)) k5=some (.lst (oddW.map V.str)):=by rw [upd_same]; unfold oddW; simp only [List.map_append]
  have G:=G1.trans (G2.trans (G3.trans (G4.trans G5)))
  refine ⟨f,k5,oddW,rfl,F0.same G,e5,((F0.same (G1.trans (G2.trans (G3.trans G4)))).ne h5),by decide,by decide,fun x H6 hx F6 B6=>?_⟩
  exact q x H6 hx F6 ((SameBut.of G).trans B6)
def signsA:Str := " !\"#$&'()*+,-./0123456789:;<=>?@ABCDEFGHIJKLMNOPQRSTUVWXYZ[\\]^_`abcdefghijklmnopqrstuvwxyz{|}~"
def signsB:Str := " ()()a0x9+"
theorem signs_ok:(∀ c ∈ signsA.cps.toList,10 < c)∧(∀ c ∈ signsB.cps.toList,10 < c)∧1≤signsA.length∧signsA.length≤100∧1≤signsB.length∧signsB.length≤100:=by decide +kernel
inductive spSgn (vs:List V) (H:Hp) (Q:VK) (u_3:XK):Prop where
  | mk:∀ f:Addr,(vs=[.ref f])→(FeedAt H f)→(∀ (c:Nat) (H':Hp),10 < c→FeedAt H' f→SameBut f H H'→Q (.str ⟨#[c]⟩) H')→spSgn vs H Q u_3
theorem sc_l_sign:FnScope ["_law_feed_here", "_law_signs"] ["_law_feed_here"] (defScope s_l_sign):=⟨rfl,rfl,rfl,by decide +kernel,rfl,by decide +kernel,by decide +kernel⟩
theorem ok_l_sign {f:Addr} {fd:FuncData} (F:Fun K "_law_sign" "_law_sign" s_l_sign f fd) (B:Bl mg) (C_l_take:Cal P w K mg base 1 "_law_take" ["_law_feed_here", "_law_many"] spTake):FnOk P w K mg base CX0 2 f fd ["_law_feed_here"] spSgn:=by
  refine F.ok sc_l_sign (fun vs H Q E h=>?_) (fun cdv A outer s H vs Q E hr h=>?_)
  · obtain ⟨f,rfl,_⟩:=h
    rfl
  obtain ⟨f,rfl,F0,q⟩:=h
  refine ⟨_,(pss_cons (ps_set (i:=1) sc_l_sign.nd rfl (Or.inl rfl) pe_str)
      (pss_cons (ps_if (pt_cmpR op_gt (pe_cal C_l_take hr (by decide) rfl (pa_cons (pv 0) (pa_cons pe_int pa_nil))) pe_int (nomark _)) (pss_one (ps_set (i:=1) sc_l_sign.nd rfl (Or.inl rfl) pe_str)) pss_nil)
      (pss_one (ps_ret (pe_ix ix_str (pv 1) (pe_cal C_l_take hr (by decide) rfl (pa_cons (pv 0) (pa_cons (pe_callB call_len_str rfl B.len PySem.boot_len (pa_cons (pv 1) pa_nil)) pa_nil))) (fun _ _=>rfl)))))),?_⟩
  obtain ⟨okA,okB,a1,a2,b1,b2⟩:=signs_ok
  refine ⟨_,rfl,f,3,rfl,F0,by decide,by decide,fun d1 H1 x0 x1 F1 B1=>?_⟩
  have fin:∀ z:Str,1≤z.length→z.length≤100→(∀ c ∈ z.cps.toList,10 < c)→∃ v,(some (V.str z):Option V)=some v∧True:=fun z _ _ _=>⟨_,rfl,trivial⟩
  have ixz:∀ (z:Str) (d:Int),0≤d→d < (z.length:Int)→∃ c,atI z.cps.toList d=some c∧c ∈ z.cps.toList:=fun z d d0 d1=>by
    have hl:z.cps.toList.length=z.length:=by rw [Array.length_toList]; rfl
    have hk:d.toNat < z.cps.toList.length:=by omega
    refine ⟨z.cps.toList[d.toNat],?_,List.getElem_mem hk⟩
    have q:atI z.cps.toList ((d.toNat:Nat):Int)=some z.cps.toList[d.toNat]:=atI_nat (List.getElem?_eq_getElem hk)
    have ek:((d.toNat:Nat):Int)=d:=by omega
    rw [ek] at q
    exact q
  refine ⟨_,_,rfl,rfl,_,rfl,?_⟩
  refine ite2 (fun _=>?_) (fun _=>?_)
  · refine ⟨_,rfl,_,rfl,_,rfl,signsB,rfl,small (by omega),f,signsB.length,rfl,F1,by omega,by omega,fun d2 H2 y0 y1 F2 B2=>?_⟩
    obtain ⟨c,hc,hm⟩:=ixz signsB d2 y0 y1
    exact ⟨signsB,d2,c,rfl,rfl,small (by omega),hc,q c H2 (okB c hm) F2 (B1.trans B2)⟩
  · refine ⟨_,rfl,_,rfl,_,rfl,signsA,rfl,small (by omega),f,signsA.length,rfl,F1,by omega,by omega,fun d2 H2 y0 y1 F2 B2=>?_⟩
    obtain ⟨c,hc,hm⟩:=ixz signsA d2 y0 y1
    exact ⟨signsA,d2,c,rfl,rfl,small (by omega),hc,q c H2 (okA c hm) F2 (B1.trans B2)⟩
def Bd (l k:Nat) (x:Str):Prop:=x.length≤l∧(cd x).count 40≤k∧∀ c ∈ cd x,10 < c
theorem Bd.app {l k l' k':Nat} {x y:Str} (h:Bd l k x) (g:Bd l' k' y):Bd (l+l') (k+k') (x++y):=by
  refine ⟨by rw [Str.length_append]; have:=h.1; have:=g.1; omega,?_,fun c hc=>?_⟩
  · have e:cd (x++y)=cd x++cd y:=cat_list x y
    rw [e,List.count_append]
    have:=h.2.1
    have:=g.2.1
    omega
  · have e:cd (x++y)=cd x++cd y:=cat_list x y
    rw [e] at hc
    rcases List.mem_append.mp hc with hc | hc
    · exact h.2.2 c hc
    · exact g.2.2 c hc
theorem Bd.mono {l k l' k':Nat} {x:Str} (h:Bd l k x) (hl:l≤l') (hk:k≤k'):Bd l' k' x:=⟨Nat.le_trans h.1 hl,Nat.le_trans h.2.1 hk,h.2.2⟩
theorem bd_lit:Bd 6 0 "set x " ∧ Bd 4 0 "say " ∧ Bd 3 0 "if " ∧ Bd 0 0 "" ∧ Bd 2 0 " 0" ∧ Bd 3 0 "due" ∧ Bd 7 1 "(+ x x)" ∧ Bd 3 1 "(- " ∧ Bd 3 0 " x)" ∧ Bd 3 1 "(* " ∧ Bd 17 3 " (+ (+ x x) (+ x " ∧ Bd 1 0 "x" ∧ Bd 8 1 "(coin x)" ∧ Bd 3 0 ")))" := by
  refine ⟨?_,?_,?_,?_,?_,?_,?_,?_,?_,?_,?_,?_,?_,?_⟩ <;> exact ⟨by decide +kernel,by decide +kernel,by decide +kernel⟩
theorem Bd.sub {l k:Nat} {x y:Str} (h:Bd l k x) (s:(cd y).Sublist (cd x)):Bd l k y:=by
  refine ⟨?_,Nat.le_trans (s.count_le _) h.2.1,fun c hc=>h.2.2 c (s.subset hc)⟩
  have:=s.length_le
  rw [cd_len,cd_len] at this
  exact Nat.le_trans this h.1
theorem bd_fold {l k:Nat} {x:Array Nat} (h:Bd l k ⟨x⟩):∀ (n:Nat) {la ka:Nat} {a:Array Nat},Bd la ka ⟨a⟩→Bd (la+n*l) (ka+n*k) ⟨(List.replicate n x).foldl (fun x1 x2=>x1++x2) a⟩
  | 0,_,_,_,g=>g.mono (Nat.le_add_right _ _) (Nat.le_add_right _ _)
  | n+1,la,ka,a,g=>by
    have g2:Bd (la+l) (ka+k) ⟨a++x⟩:=g.app h
    refine (bd_fold h n g2).mono ?_ ?_
    · rw [Nat.add_mul]; omega
    · rw [Nat.add_mul]; omega
theorem Bd.mul {l k:Nat} {x:Str} (h:Bd l k x) {n:Int} {m:Nat} (h1:n≤(m:Int)):Bd (m*l) (m*k) (Txt.mul x n):=by
  unfold Txt.mul
  have no:Bd 0 0 (Str.empty):=bd_lit.2.2.2.1
  by_cases c:n < 1
  · rw [if_pos c]
    exact no.mono (Nat.zero_le _) (Nat.zero_le _)
  · rw [if_neg c]
    have m1:1≤m:=by omega
    by_cases d:(n == 1 || x.length == 0)=true
    · rw [if_pos d]
      exact h.mono (Nat.le_mul_of_pos_left _ m1) (Nat.le_mul_of_pos_left _ m1)
    · rw [if_neg d]
      have nm:n.toNat≤m:=by omega
      refine (bd_fold h n.toNat (a:=#[]) no).mono ?_ ?_
      · rw [Nat.zero_add]; exact Nat.mul_le_mul_right _ nm
      · rw [Nat.zero_add]; exact Nat.mul_le_mul_right _ nm
inductive spDpL (vs:List V) (H:Hp) (Q:VK) (u_3:XK):Prop where
  | mk:∀ f:Addr,(vs=[.ref f])→(FeedAt H f)→(∀ (x:Str) (H':Hp),Bd 142 26 x→FeedAt H' f→SameBut f H H'→Q (.str x) H')→spDpL vs H Q u_3
theorem sc_l_deep_line:FnScope ["_law_feed_here", "_law_many", "_law_head", "_law_tail", "_law_pairs", "_law_term", "_law_k"] ["_law_feed_here"] (defScope s_l_deep_line):=⟨rfl,rfl,rfl,by decide +kernel,rfl,by decide +kernel,by decide +kernel⟩
theorem ok_l_deep_line {f:Addr} {fd:FuncData} (F:Fun K "_law_deep_line" "_law_deep_line" s_l_deep_line f fd) (B:Bl mg) (C_l_take:Cal P w K mg base 1 "_law_take" ["_law_feed_here", "_law_many"] spTake):FnOk P w K mg base CX0 2 f fd ["_law_feed_here"] spDpL:=by
  refine F.ok sc_l_deep_line (fun vs H Q E h=>?_) (fun cdv A outer s H vs Q E hr h=>?_)
  · obtain ⟨f,rfl,_⟩:=h
    rfl
  obtain ⟨f,rfl,F0,q⟩:=h
  refine ⟨_,(pss_cons (ps_set (i:=1) sc_l_deep_line.nd rfl (Or.inl rfl) (pe_op op_add pe_int (pe_cal C_l_take hr (by decide) rfl (pa_cons (pv 0) (pa_cons pe_int pa_nil)))))
      (pss_cons (ps_asg (pe_ix ix_list (pe_lst (pa_cons (pe_tup (pa_cons pe_str (pa_cons pe_str pa_nil))) (pa_cons (pe_tup (pa_cons pe_str (pa_cons pe_str pa_nil))) (pa_cons (pe_tup (pa_cons pe_str (pa_cons pe_str pa_nil))) pa_nil)))) (pe_cal C_l_take hr (by decide) rfl (pa_cons (pv 0) (pa_cons pe_int pa_nil))) (fun _ _=>rfl)) (pg_tup rfl (pgs_cons (pg_name (i:=2) sc_l_deep_line.nd rfl (Or.inl rfl)) (pgs_cons (pg_name (i:=3) sc_l_deep_line.nd rfl (Or.inl rfl)) pgs_nil))))
      (pss_cons (ps_if (pt_cmpR op_eq (pe_cal C_l_take hr (by decide) rfl (pa_cons (pv 0) (pa_cons pe_int pa_nil))) pe_int (nomark _)) (pss_one (ps_ret (pe_op op_add_str (pe_op op_add_str (pe_op op_add_str (pe_op op_add_str (pv 2) (pe_op op_mulS pe_str (pv 1))) pe_str) (pe_op op_mulS pe_str (pv 1))) (pv 3)))) pss_nil)
      (pss_cons (ps_set (i:=4) sc_l_deep_line.nd rfl (Or.inl rfl) (pe_op op_add pe_int (pe_cal C_l_take hr (by decide) rfl (pa_cons (pv 0) (pa_cons pe_int pa_nil)))))
      (pss_cons (ps_set (i:=5) sc_l_deep_line.nd rfl (Or.inl rfl) pe_str)
      (pss_cons (ps_for PassesOwn.never rfl (pi_range1 rfl B.range (pa_cons (pe_op op_sub (pv 4) pe_int) pa_nil)) (pg_name (i:=6) sc_l_deep_line.nd rfl (Or.inl rfl)) (pss_one (ps_set (i:=5) sc_l_deep_line.nd rfl (Or.inl rfl) (pe_op op_add_str (pe_op op_add_str pe_str (pv 5)) pe_str))))
      (pss_one (ps_ret (pe_op op_add_str (pe_op op_add_str (pe_op op_add_str (pe_op op_add_str (pe_op op_add_str (pe_op op_add_str (pv 2) pe_str) (pv 5)) pe_str) (pe_ix ix_list (pe_lst (pa_cons pe_str (pa_cons pe_str pa_nil))) (pe_op op_mod (pv 1) pe_int) (fun _ _=>rfl))) pe_str) (pv 3)))))))))),?_⟩
  obtain ⟨b1,b2,b3,b4,b5,b6,b7,b8,b9,b10,b11,b12,b13,b14⟩:=bd_lit
  have bt:Bd 6 1 "(true " := ⟨by decide +kernel,by decide +kernel,by decide +kernel⟩
  have bc:Bd 1 0 ")" := ⟨by decide +kernel,by decide +kernel,by decide +kernel⟩
  have s2:2≤sizeLine:=by decide
  have s3:3≤sizeLine:=by decide
  have fits:∀ {l k l' k':Nat} {x y:Str},Bd l k x→Bd l' k' y→l+l'≤1000→x.length+y.length≤sizeLine:=fun h g e=>by
    have:=h.1
    have:=g.1
    exact Nat.le_trans (by omega:_≤1000) (by decide)
  refine ⟨_,rfl,f,4,rfl,F0,by decide,by decide,fun z H1 z0 z1 F1 B1=>⟨_,_,rfl,rfl,?_⟩⟩
  refine ⟨s2,fun t1 h1=>⟨s2,fun t2 h2=>⟨s2,fun t3 h3=>⟨s3,fun l hl=>?_⟩⟩⟩⟩
  have I1:=Same.new h1 (.tup [.str "say ", .str ""])
  have I2:=Same.new h2 (.tup [.str "set x ", .str ""])
  have I3:=Same.new h3 (.tup [.str "if ", .str " 0"])
  have I4:=Same.new hl (.lst [.ref t1,.ref t2,.ref t3])
  have lf:=(F1.same (I1.trans (I2.trans I3))).ne hl
  have J3:=I3.trans I4
  have J2:=I2.trans J3
  have JJ:=I1.trans J2
  have e1:=J2 _ _ (upd_same (a:=t1))
  have e2:=J3 _ _ (upd_same (a:=t2))
  have e3:=I4 _ _ (upd_same (a:=t3))
  have e4:upd (upd (upd (upd H1 t1 (.tup [.str "say ", .str ""])) t2 (.tup [.str "set x ", .str ""])) t3 (.tup [.str "if ", .str " 0"])) l (.lst [.ref t1,.ref t2,.ref t3]) l=_:=upd_same
  generalize upd (upd (upd (upd H1 t1 (.tup [.str "say ", .str ""])) t2 (.tup [.str "set x ", .str ""])) t3 (.tup [.str "if ", .str " 0"])) l (.lst [.ref t1,.ref t2,.ref t3])=H2 at JJ e1 e2 e3 e4
  have F2:=F1.same JJ
  refine ⟨_,rfl,f,3,rfl,F2,by decide,by decide,fun y H3 y0 y1 F3 B3=>?_⟩
  have S3:SameBut f H H3:=B1.trans ((SameBut.of JJ).trans B3)
  have kf:=keepT_feed F2 B3
  obtain ⟨t,hd,tl,et,ht,bh,btl⟩:∃ (t:Addr) (hd tl:Str),atI [V.ref t1,V.ref t2,V.ref t3] y=some (.ref t)∧H3 t=some (.tup [.str hd,.str tl])∧Bd 6 0 hd∧Bd 2 0 tl:=by
    rcases at_three (a:=V.ref t1) (b:=.ref t2) (c:=.ref t3) y0 y1 with ⟨_,h⟩ | ⟨_,h⟩ | ⟨_,h⟩
    · exact ⟨t1,_,_,h,kf _ _ e1,b2.mono (by decide) (by decide),b4.mono (by decide) (by decide)⟩
    · exact ⟨t2,_,_,h,kf _ _ e2,b1,b4.mono (by decide) (by decide)⟩
    · exact ⟨t3,_,_,h,kf _ _ e3,b3.mono (by decide) (by decide),b5⟩
  refine ⟨l,_,_,_,rfl,rfl,SqL.of (B3 _ _ lf e4),et,?_⟩
  refine ⟨t,_,rfl,SqT.of ht,rfl,_,_,rfl,_,_,rfl,rfl,?_⟩
  refine ⟨_,rfl,f,2,rfl,F3,by decide,by decide,fun u H4 u0 u1 F4 B4=>?_⟩
  have S4:=S3.trans B4
  refine ⟨rfl,_,rfl,?_⟩
  refine ite2 (fun _=>?_) (fun _=>?_)
  · have m1:=bt.mul (n:=6+z) (m:=9) (by omega)
    have m2:=bc.mul (n:=6+z) (m:=9) (by omega)
    have c1:=bh.app m1
    have c2:=c1.app b6
    have c3:=c2.app m2
    have c4:=c3.app btl
    refine ⟨_,rfl,_,rfl,_,_,rfl,rfl,mul_ok (by decide) (by omega) (by omega),?_⟩
    refine ⟨_,_,rfl,rfl,fits bh m1 (by decide),?_⟩
    refine ⟨_,_,rfl,rfl,fits c1 b6 (by decide),?_⟩
    refine ⟨_,rfl,_,_,rfl,rfl,mul_ok (by decide) (by omega) (by omega),?_⟩
    refine ⟨_,_,rfl,rfl,fits c2 m2 (by decide),?_⟩
    refine ⟨_,rfl,_,_,rfl,rfl,fits c3 btl (by decide),?_⟩
    exact q _ H4 (c4.mono (by decide) (by decide)) F4 S4
  refine ⟨_,rfl,f,3,rfl,F4,by decide,by decide,fun v H5 v0 v1 F5 B5=>⟨_,_,rfl,rfl,?_⟩⟩
  have S5:=S4.trans B5
  refine ⟨_,rfl,_,_,rfl,rfl,_,rfl,by omega,by omega,?_⟩
  refine for_range (n:=(9+v - 6).toNat) (fun i σ H'=>∃ (x:Str) (x6:Option V),σ=[some (.ref f),some (.int (6+z)),some (.str hd),some (.str tl),some (.int (9+v)),some (.str x),x6]∧Bd (7+i*6) (1+i) x∧FeedAt H' f∧SameBut f H H') ⟨_,_,rfl,b7,F5,S5⟩ ?_ ?_
  · rintro i σ H6 hi ⟨x,x6,rfl,bx,F6,S6⟩
    have c1:=b8.app bx
    have c2:=c1.app b9
    have i5:i≤5:=by omega
    refine ⟨_,rfl,_,_,rfl,rfl,fits b8 bx (by omega),?_⟩
    refine ⟨_,_,rfl,rfl,fits c1 b9 (by omega),?_⟩
    refine ⟨_,_,rfl,c2.mono (by omega) (by omega),F6,S6⟩
  · rintro σ H6 ⟨x,x6,rfl,bx,F6,S6⟩
    have i5:(9+v - 6).toNat≤5:=by omega
    have bx:=bx.mono (l':=37) (k':=6) (by omega) (by omega)
    have c1:=bh.app b10
    have c2:=c1.app bx
    have c3:=c2.app b11
    refine ⟨_,rfl,_,_,rfl,rfl,fits bh b10 (by decide),?_⟩
    refine ⟨_,rfl,_,_,rfl,rfl,fits c1 bx (by decide),?_⟩
    refine ⟨_,_,rfl,rfl,fits c2 b11 (by decide),?_⟩
    refine ⟨s2,fun l2 hl2=>?_⟩
    have N:=Same.new hl2 (.lst [.str "x", .str "(coin x)"])
    refine ⟨_,rfl,_,_,rfl,rfl,(by show (0:Int) < 2; decide),?_⟩
    obtain ⟨w,hw,bw⟩:∃ w:Str,atI [V.str "x", V.str "(coin x)"] ((6+z) % 2)=some (.str w)∧Bd 8 1 w:=by
      have m0:=Int.emod_nonneg (6+z) (show (2:Int) ≠ 0 by decide)
      have m1:=Int.emod_lt_of_pos (6+z) (show (0:Int) < 2 by decide)
      generalize (6+z) % 2=r at m0 m1
      obtain rfl | rfl:r=0∨r=1:=by omega
      · exact ⟨_,at0 _ _,b12.mono (by decide) (by decide)⟩
      · exact ⟨_,at1 _ _ _,b13⟩
    refine ⟨l2,_,_,_,rfl,rfl,SqL.of upd_same,hw,?_⟩
    have c4:=c3.app bw
    have c5:=c4.app b14
    have c6:=c5.app btl
    refine ⟨_,_,rfl,rfl,fits c3 bw (by decide),?_⟩
    refine ⟨_,_,rfl,rfl,fits c4 b14 (by decide),?_⟩
    refine ⟨_,rfl,_,_,rfl,rfl,fits c5 btl (by decide),?_⟩
    exact q _ _ (c6.mono (by decide) (by decide)) (F6.same N) (S6.trans (SameBut.of N))
theorem fm_take (xs:Array Nat) (a:Int) (h:0≤a):∀ n:Nat,((List.range n).map fun (k:Nat)=>(a+1*(k:Int)).toNat).filterMap (xs[·]?)=(xs.toList.drop a.toNat).take n
  | 0=>by simp
  | n+1=>by
    rw [List.range_succ,List.map_append,List.filterMap_append,fm_take xs a h n,List.take_add_one]
    congr 1
    have e:(a+1*(n:Int)).toNat=a.toNat+n:=by omega
    rw [List.getElem?_drop,Array.getElem?_toList,List.map_singleton,e]
    cases h:xs[a.toNat+n]? <;> simp [h]
theorem slice_sub (x:Str) (lo hi:Option Int):(cd (Txt.slice x lo hi)).Sublist (cd x):=by
  unfold Txt.slice
  split
  · exact List.Sublist.refl _
  · show ((Builtin.Str.strSliceIndices lo hi 1 x.length).filterMap (x.cps[·]?)).Sublist _
    have:∃ (a:Int) (n:Nat),0≤a∧Builtin.Str.strSliceIndices lo hi 1 x.length=(List.range n).map fun (k:Nat)=>(a+1*(k:Int)).toNat:=by
      unfold Builtin.Str.strSliceIndices sliceRange
      refine ⟨_,_,?_,rfl⟩
      cases lo <;> simp <;> omega
    obtain ⟨a,n,h,e⟩:=this
    rw [e,fm_take _ _ h]
    exact (List.take_sublist _ _).trans (List.drop_sublist _ _)
theorem cutV_tk (xs:List V) (k:Nat):cutV xs none (some (k:Int))=xs.take k:=by
  unfold cutV
  rw [HT.sIx_none,HT.sIx_nat,List.drop_zero,Nat.sub_zero]
  rcases Nat.le_total k xs.length with h | h
  · rw [Nat.min_eq_left h]
  · rw [Nat.min_eq_right h,List.take_length,List.take_of_length_le h]
theorem cutV_dr (xs:List V) (k:Nat):cutV xs (some (k:Int)) none=xs.drop k:=by
  unfold cutV
  rw [HT.sIx_none,HT.sIx_nat]
  rcases Nat.le_total k xs.length with h | h
  · rw [Nat.min_eq_left h]
    exact List.take_of_length_le (by rw [List.length_drop]; exact Nat.le_refl _)
  · rw [Nat.min_eq_right h,List.drop_length,List.drop_of_length_le h,List.take_nil]
def wl (ws:List Str):Nat:=(ws.map fun z=>z.length+1).sum
def wk (ws:List Str):Nat:=(ws.map fun z=>(cd z).count 40).sum
theorem wl_app (a b:List Str):wl (a++b)=wl a+wl b:=by unfold wl; rw [List.map_append,List.sum_append]
theorem wk_app (a b:List Str):wk (a++b)=wk a+wk b:=by unfold wk; rw [List.map_append,List.sum_append]
theorem wl_one (z:Str):wl [z]=z.length+1:=by simp [wl]
theorem wk_one (z:Str):wk [z]=(cd z).count 40:=by simp [wk]
theorem wlS_len:∀ ws:List Str,ws.length≤wl ws
  | []=>Nat.zero_le _
  | z::r=>by
    have:=wlS_len r
    show r.length+1≤(z.length+1)+wl r
    omega
theorem join_wl:∀ ws:List Str,ws ≠ []→(Txt.join (" " : Str) ws).length+1=wl ws∧(cd (Txt.join (" " : Str) ws)).count 40=wk ws
  | [],h=>absurd rfl h
  | [a],_=>by
    rw [join_tx,wl_one,wk_one]
    exact ⟨rfl,rfl⟩
  | a::b::r,_=>by
    have ih:=join_wl (b::r) (List.cons_ne_nil _ _)
    rw [join_tx] at ih ⊢
    have e:Str.join (" " : Str) (a::b::r)=a++(" " : Str)++Str.join (" " : Str) (b::r):=rfl
    rw [e,Str.length_append,Str.length_append,cd_append,cd_append,List.count_append,List.count_append,ih.2]
    have h1:(" " : Str).length=1:=by decide +kernel
    have h2:(cd (" " : Str)).count 40=0:=by decide +kernel
    rw [h1,h2]
    show _=(a.length+1)+wl (b::r)∧_=(cd a).count 40+wk (b::r)
    omega
theorem jn_mem {c x:Nat}:∀ {l:List (List Nat)} {a:List Nat},a ∈ l→x ∈ a→x ∈ jn c l
  | [],_,h,_=>by cases h
  | [b],a,h,hx=>by rw [List.mem_singleton.mp h] at hx; exact hx
  | b::d::r,a,h,hx=>by
    show x ∈ b++c::jn c (d::r)
    rcases List.mem_cons.mp h with rfl | h
    · exact List.mem_append_left _ hx
    · exact List.mem_append_right _ (List.mem_cons_of_mem _ (jn_mem h hx))
def BdW (l k:Nat) (ws:List Str):Prop:=wl ws≤l+1∧wk ws≤k∧∀ z ∈ ws,∀ c ∈ cd z,10 < c
theorem BdW.join {l k:Nat} {ws:List Str} (h:BdW l k ws):Bd l k (Txt.join (" " : Str) ws):=by
  by_cases c:ws=[]
  · subst c
    have e:Txt.join (" " : Str) [] = "" := by decide +kernel
    rw [e]
    exact bd_lit.2.2.2.1.mono (Nat.zero_le _) (Nat.zero_le _)
  · obtain ⟨a,b⟩:=join_wl ws c
    refine ⟨by have:=h.1; omega,by rw [b]; exact h.2.1,fun x hx=>?_⟩
    rw [join_tx,sp_eq] at hx
    unfold SP at hx
    rw [cd_join] at hx
    rcases mem_jn hx with rfl | ⟨u,hu,hxu⟩
    · decide
    · obtain ⟨z,hz,rfl⟩:=List.mem_map.mp hu
      exact h.2.2 z hz x hxu
theorem Bd.split {l k:Nat} {x:Str} (h:Bd l k x):BdW l k (Txt.split x (" " : Str)):=by
  have ne:=split_some x (" " : Str)
  obtain ⟨a,b⟩:=join_wl _ ne
  have e:Txt.join (" " : Str) (Txt.split x (" " : Str))=x:=by rw [join_tx,StrLaws.join_split]
  rw [e] at a b
  refine ⟨by have:=h.1; omega,by rw [← b]; exact h.2.1,fun z hz c hc=>h.2.2 c ?_⟩
  rw [← e,join_tx,sp_eq]
  unfold SP
  rw [cd_join]
  exact jn_mem (List.mem_map.mpr ⟨z,by rw [← show SP=(⟨#[32]⟩:Str) from rfl,← sp_eq]; exact hz,rfl⟩) hc
theorem BdW.mem {l k:Nat} {ws:List Str} (h:BdW l k ws) {z:Str} (hz:z ∈ ws):Bd l k z:=by
  obtain ⟨a,b,rfl⟩:=List.append_of_mem hz
  have h1:=h.1
  have h2:=h.2.1
  rw [wl_app,show z::b=[z]++b from rfl,wl_app,wl_one] at h1
  rw [wk_app,show z::b=[z]++b from rfl,wk_app,wk_one] at h2
  exact ⟨by omega,by omega,h.2.2 z hz⟩
theorem BdW.mid {l k l' k':Nat} {ws vs:List Str} {i j:Nat} (h:BdW l k ws) (g:BdW l' k' vs) (ij:i≤j):BdW (l+l'+1) (k+k') ((ws.take i++vs)++ws.drop j):=by
  have e:ws=(ws.take i++(ws.drop i).take (j - i))++ws.drop j:=by
    rw [List.append_assoc]
    conv=>lhs; rw [← List.take_append_drop i ws]
    congr 1
    conv=>lhs; rw [← List.take_append_drop (j - i) (ws.drop i),List.drop_drop]
    congr 2
    omega
  have h1:=h.1
  have h2:=h.2.1
  rw [e,wl_app,wl_app] at h1
  rw [e,wk_app,wk_app] at h2
  have g1:=g.1
  have g2:=g.2.1
  refine ⟨by rw [wl_app,wl_app]; omega,by rw [wk_app,wk_app]; omega,fun z hz=>?_⟩
  rcases List.mem_append.mp hz with hz | hz
  · rcases List.mem_append.mp hz with hz | hz
    · exact h.2.2 z (List.mem_of_mem_take hz)
    · exact g.2.2 z hz
  · exact h.2.2 z (List.mem_of_mem_drop hz)
theorem BdW.two {l k:Nat} {ws:List Str} {i j:Nat} (h:BdW l k ws):BdW (l+l+1) (k+k) (ws.take i++ws.drop j):=by
  have t:∀ a b:List Str,ws=a++b→wl a≤wl ws∧wk a≤wk ws∧wl b≤wl ws∧wk b≤wk ws:=fun a b e=>by
    rw [e,wl_app,wk_app]
    omega
  have a:=t _ _ (List.take_append_drop i ws).symm
  have b:=t _ _ (List.take_append_drop j ws).symm
  have h1:=h.1
  have h2:=h.2.1
  refine ⟨by rw [wl_app]; omega,by rw [wk_app]; omega,fun z hz=>?_⟩
  rcases List.mem_append.mp hz with hz | hz
  · exact h.2.2 z (List.mem_of_mem_take hz)
  · exact h.2.2 z (List.mem_of_mem_drop hz)
theorem Bd.one {l k:Nat} {z:Str} (h:Bd l k z):BdW l k [z]:=⟨by rw [wl_one]; have:=h.1; omega,by rw [wk_one]; exact h.2.1,fun y hy=>by rw [List.mem_singleton.mp hy]; exact h.2.2⟩
theorem Bd.glue {l k l' k':Nat} {x z:Str} {i j:Nat} (h:Bd l k x) (g:Bd l' k' z) (ij:i≤j):Bd (l+l') (k+k') ⟨x.cps.extract 0 i++z.cps++x.cps.extract j x.length⟩:=by
  have e:cd ⟨x.cps.extract 0 i++z.cps++x.cps.extract j x.length⟩=((cd x).take i++cd z)++(cd x).drop j:=by
    unfold cd
    have h1:x.length=x.cps.size:=rfl
    rw [h1]
    simp [Array.toList_extract]
    simp [List.extract,List.take_of_length_le]
  have e2:cd x=((cd x).take i++((cd x).drop i).take (j - i))++(cd x).drop j:=by
    rw [List.append_assoc]
    conv=>lhs; rw [← List.take_append_drop i (cd x)]
    congr 1
    conv=>lhs; rw [← List.take_append_drop (j - i) ((cd x).drop i),List.drop_drop]
    congr 2
    omega
  have l1:(((cd x).take i++cd z)++(cd x).drop j).length≤l+l':=by
    have h1:=h.1
    have g1:=g.1
    rw [← cd_len] at h1 g1
    rw [e2] at h1
    simp only [List.length_append] at h1 ⊢
    omega
  refine ⟨by rw [← cd_len,e]; exact l1,?_,fun c hc=>?_⟩
  · rw [e]
    have h1:=h.2.1
    have g1:=g.2.1
    rw [e2] at h1
    simp only [List.count_append] at h1 ⊢
    omega
  · rw [e] at hc
    rcases List.mem_append.mp hc with hc | hc
    · rcases List.mem_append.mp hc with hc | hc
      · exact h.2.2 c (List.mem_of_mem_take hc)
      · exact g.2.2 c hc
    · exact h.2.2 c (List.mem_of_mem_drop hc)
theorem wl_sum:∀ zs:List Str,(zs.map (·.length)).sum+zs.length=wl zs
  | []=>rfl
  | z::r=>by
    have:=wl_sum r
    show (z.length+(r.map (·.length)).sum)+(r.length+1)=(z.length+1)+wl r
    omega
inductive spOther (l k:Nat) (vs:List V) (H:Hp) (Q:VK) (u_3:XK):Prop where
  | mk:∀ (f a:Addr) (ls:List Str) (x:Str),(vs=[.ref f,.ref a,.str x])→(FeedAt H f)→(H a=some (.lst (ls.map V.str)))→(a ≠ f)→(1≤ls.length)→(ls.length≤100)→(∀ y ∈ ls,Bd l k y)→(Bd l k x)→(∀ (y:Str) (H':Hp),Bd (2*l+13) (2*k+2) y→FeedAt H' f→SameBut f H H'→Q (.str y) H')→spOther l k vs H Q u_3
inductive spOtherA (vs:List V) (H:Hp) (Q:VK) (u_3:XK):Prop where
  | mk:∀ l k:Nat,1≤l→l≤700→spOther l k vs H Q u_3→spOtherA vs H Q u_3
theorem sc_l_other_line:FnScope ["_law_feed_here", "_law_lines", "_law_line_here", "_law_form", "_law_words", "_law_k", "_law_at", "_law_runs"] ["_law_feed_here", "_law_lines", "_law_line_here"] (defScope s_l_other_line):=⟨rfl,rfl,rfl,by decide +kernel,rfl,by decide +kernel,by decide +kernel⟩
theorem ok_l_other_line {f:Addr} {fd:FuncData} (F:Fun K "_law_other_line" "_law_other_line" s_l_other_line f fd) (B:Bl mg) (nb:PySem.W.nsIn K cStatics sharingNotToldKey=some none) (C_l_take:Cal P w K mg base 1 "_law_take" ["_law_feed_here", "_law_many"] spTake) (C_l_some:Cal P w K mg base 2 "_law_some" ["_law_feed_here", "_law_pool"] spSome) (C_l_odd:Cal P w K mg base 3 "_law_odd" ["_law_feed_here"] spOdd) (C_l_sign:Cal P w K mg base 2 "_law_sign" ["_law_feed_here"] spSgn):FnOk P w K mg base CX0 4 f fd ["_law_feed_here", "_law_lines", "_law_line_here"] spOtherA:=by
  refine F.ok sc_l_other_line (fun vs H Q E h=>?_) (fun cdv A outer s H vs Q E hr h=>?_)
  · obtain ⟨_,_,_,_,f,a,ls,x,rfl,_⟩:=h
    rfl
  obtain ⟨l,k,l0,l7,f,a,ls,x,rfl,F0,ha,na,ll,lh,lb,xb,q⟩:=h
  refine ⟨_,(pss_cons (ps_set (i:=3) sc_l_other_line.nd rfl (Or.inl rfl) (pe_cal C_l_take hr (by decide) rfl (pa_cons (pv 0) (pa_cons pe_int pa_nil))))
      (pss_cons (ps_set (i:=4) sc_l_other_line.nd rfl (Or.inl rfl) (pe_bm PySem.F.plainAttrs_str PySem.F.slot_str_split PySem.F.type_str_split mt_split (pv 2) (pa_cons pe_str pa_nil)))
      (pss_cons (ps_set (i:=5) sc_l_other_line.nd rfl (Or.inl rfl) (pe_cal C_l_take hr (by decide) rfl (pa_cons (pv 0) (pa_cons (pe_callB call_len_seq rfl B.len PySem.boot_len (pa_cons (pv 4) pa_nil)) pa_nil))))
      (pss_cons (ps_set (i:=6) sc_l_other_line.nd rfl (Or.inl rfl) (pe_cal C_l_take hr (by decide) rfl (pa_cons (pv 0) (pa_cons (pe_op op_add (pe_callB call_len_str rfl B.len PySem.boot_len (pa_cons (pv 2) pa_nil)) pe_int) pa_nil))))
      (pss_cons (ps_if (pt_cmpR op_lt (pv 3) pe_int (nomark _)) (pss_one (ps_ret (pe_bm PySem.F.plainAttrs_str PySem.F.slot_str_join PySem.F.type_str_join mt_join pe_str (pa_cons (pe_op op_cat (pe_slice sl_list (pv 4) po_none (po_some (pe_op op_add (pv 5) (pv 3)))) (pe_slice sl_list (pv 4) (po_some (pe_op op_sub (pe_op op_add (pv 5) pe_int) (pv 3))) po_none)) pa_nil)))) pss_nil)
      (pss_cons (ps_if (pt_cmpR op_eq (pv 3) pe_int (nomark _)) (pss_one (ps_ret (pe_bm PySem.F.plainAttrs_str PySem.F.slot_str_join PySem.F.type_str_join mt_join pe_str (pa_cons (pe_op op_cat (pe_op op_cat (pe_slice sl_list (pv 4) po_none (po_some (pv 5))) (pe_lst (pa_cons (pe_cal C_l_some hr (by decide) rfl (pa_cons (pv 0) (pa_cons (pe_bm PySem.F.plainAttrs_str PySem.F.slot_str_split PySem.F.type_str_split mt_split (pe_cal C_l_some hr (by decide) rfl (pa_cons (pv 0) (pa_cons (pv 1) pa_nil))) (pa_cons pe_str pa_nil)) pa_nil))) pa_nil))) (pe_slice sl_list (pv 4) (po_some (pe_op op_add (pv 5) pe_int)) po_none)) pa_nil)))) pss_nil)
      (pss_cons (ps_if (pt_cmpR op_eq (pv 3) pe_int (nomark _)) (pss_one (ps_ret (pe_bm PySem.F.plainAttrs_str PySem.F.slot_str_join PySem.F.type_str_join mt_join pe_str (pa_cons (pe_op op_cat (pe_op op_cat (pe_slice sl_list (pv 4) po_none (po_some (pv 5))) (pe_lst (pa_cons (pe_cal C_l_odd hr (by decide) rfl (pa_cons (pv 0) pa_nil)) pa_nil))) (pe_slice sl_list (pv 4) (po_some (pe_op op_add (pv 5) pe_int)) po_none)) pa_nil)))) pss_nil)
      (pss_cons (ps_if (pt_cmpR op_eq (pv 3) pe_int (nomark _)) (pss_one (ps_ret (pe_op op_add_str (pe_slice sl_str (pv 2) po_none (po_some (pv 6))) (pe_slice sl_str (pv 2) (po_some (pe_op op_add (pv 6) pe_int)) po_none)))) pss_nil)
      (pss_cons (ps_comp (i:=7) (N:=[]) (ix:=[]) (cl:=[]) sc_l_other_line.nd rfl (Or.inl rfl) rfl (CompScope.closed (by with_unfolding_all rfl) (by decide) rfl (by decide) rfl (by with_unfolding_all rfl)) rfl (pi_list (pe_bm PySem.F.plainAttrs_str PySem.F.slot_str_split PySem.F.type_str_split mt_split (pe_bm PySem.F.plainAttrs_str PySem.F.slot_str_replace PySem.F.type_str_replace (mt_replace nb) (pe_bm PySem.F.plainAttrs_str PySem.F.slot_str_replace PySem.F.type_str_replace (mt_replace nb) (pv 2) (pa_cons pe_str (pa_cons pe_str pa_nil))) (pa_cons pe_str (pa_cons pe_str pa_nil))) (pa_cons pe_str pa_nil))) (fun _ _ _=>pb_if (pt_cmpR op_ne (pv 0) pe_str (nomark _)) (pv 0)))
      (pss_cons (ps_if (PW.pt (pw_and (pt_cmpR op_eq (pv 3) pe_int (nomark _)) (pw_and1 (pt_cmpR (op_neNil hr.units0) (pv 7) (pe_lst pa_nil) (nomark _))))) (pss_one (ps_ret (pe_bm PySem.F.plainAttrs_str PySem.F.slot_str_replace PySem.F.type_str_replace (mt_replace1 nb) (pv 2) (pa_cons (pe_cal C_l_some hr (by decide) rfl (pa_cons (pv 0) (pa_cons (pv 7) pa_nil))) (pa_cons (pe_cal C_l_odd hr (by decide) rfl (pa_cons (pv 0) pa_nil)) (pa_cons pe_int pa_nil)))))) pss_nil)
      (pss_one (ps_ret (pe_op op_add_str (pe_op op_add_str (pe_slice sl_str (pv 2) po_none (po_some (pv 6))) (pe_cal C_l_sign hr (by decide) rfl (pa_cons (pv 0) pa_nil))) (pe_slice sl_str (pv 2) (po_some (pe_op op_add (pv 6) (pe_op op_fdiv (pv 3) pe_int))) po_none)))))))))))))),?_⟩
  have wb:=xb.split
  have wne:=split_some x (" " : Str)
  have xl:=xb.1
  have wlen:=wlS_len (Txt.split x (" " : Str))
  have wl1:=wb.1
  have wn:1≤(Txt.split x (" " : Str)).length:=by
    cases h:Txt.split x (" " : Str) with
    | nil=>exact absurd h wne
    | cons a r=>exact Nat.succ_le_succ (Nat.zero_le _)
  refine ⟨_,rfl,f,8,rfl,F0,by decide,by decide,fun fm H1 m0 m1 F1 B1=>?_⟩
  refine ⟨_,rfl,rfl,x,_,rfl,rfl,by decide +kernel,by omega,by omega,fun p hp=>?_⟩
  have N:=Same.new hp (.lst ((Txt.split x (" " : Str)).map V.str))
  have e2:upd H1 p (.lst ((Txt.split x (" " : Str)).map V.str)) p=_:=upd_same
  have F2:=F1.same N
  have pf:=F1.ne hp
  have S2:SameBut f H (upd H1 p (.lst ((Txt.split x (" " : Str)).map V.str))):=B1.trans (SameBut.of N)
  generalize upd H1 p (.lst ((Txt.split x (" " : Str)).map V.str))=H2 at e2 F2 S2
  generalize hW:Txt.split x (" " : Str)=W at e2 wb wne wlen wl1 wn
  have wml:(W.map V.str).length=W.length:=List.length_map _
  refine ⟨_,rfl,_,rfl,p,_,rfl,.inl (SqL.of e2),f,_,rfl,F2,by omega,by omega,fun kk H3 k0 k1 F3 B3=>?_⟩
  refine ⟨_,rfl,_,rfl,x,rfl,small (by omega),_,_,rfl,rfl,f,_,rfl,F3,by omega,by omega,fun at_ H4 a0 a1 F4 B4=>?_⟩
  have e4:=B4 _ _ pf (B3 _ _ pf e2)
  have S4:SameBut f H H4:=S2.trans (B3.trans B4)
  have ha4:=S4 _ _ na ha
  obtain ⟨kn,rfl⟩:=Int.eq_ofNat_of_zero_le k0
  obtain ⟨an,rfl⟩:=Int.eq_ofNat_of_zero_le a0
  rw [wml] at k1
  refine ⟨_,rfl,_,_,rfl,rfl,_,rfl,?_⟩
  have jo:∀ {l' k':Nat} {zs:List Str},BdW l' k' zs→l'≤2*l+13→k'≤2*k+2→(zs.map (·.length)).sum+zs.length≤1048576∧Bd (2*l+13) (2*k+2) (Txt.join (" " : Str) zs):=fun h h1 h2=>⟨by rw [wl_sum]; have:=h.1; omega,h.join.mono h1 h2⟩
  have small2:∀ {n:Nat},n≤5000→n≤sizeLine:=fun h=>Nat.le_trans h (by decide)
  have mj:∀ (i j:Nat),(W.map V.str).take i++(W.map V.str).drop j=(W.take i++W.drop j).map V.str:=fun i j=>by rw [List.map_append,List.map_take,List.map_drop]
  have mm:∀ (i j:Nat) (z:Str),((W.map V.str).take i++[V.str z])++(W.map V.str).drop j=((W.take i++[z])++W.drop j).map V.str:=fun i j z=>by rw [List.map_append,List.map_append,List.map_take,List.map_drop]; rfl
  have tkl:∀ i:Nat,((W.map V.str).take i).length≤1000:=fun i=>by rw [List.length_take,wml]; omega
  have drl:∀ i:Nat,((W.map V.str).drop i).length≤1000:=fun i=>by rw [List.length_drop,wml]; omega
  by_cases c2:fm < 2
  · refine iteD c2 ?_
    obtain ⟨fn,rfl⟩:=Int.eq_ofNat_of_zero_le m0
    have fk:(kn:Int)+1 - fn=((kn+1 - fn:Nat):Int):=by omega
    refine ⟨rfl,_,rfl,_,rfl,_,rfl,_,_,rfl,rfl,_,rfl,p,_,rfl,SqL.of e4,fun p1 h1=>?_⟩
    rw [← Int.natCast_add,cutV_tk]
    have N1:=Same.new h1 (.lst ((W.map V.str).take (kn+fn)))
    have i1:upd H4 p1 (.lst ((W.map V.str).take (kn+fn))) p1=_:=upd_same
    generalize upd H4 p1 (.lst ((W.map V.str).take (kn+fn)))=H5 at N1 i1
    refine ⟨_,rfl,_,rfl,_,_,rfl,rfl,_,rfl,_,_,rfl,rfl,_,rfl,p,_,rfl,SqL.of (N1 _ _ e4),fun p2 h2=>?_⟩
    rw [fk,cutV_dr]
    have N2:=Same.new h2 (.lst ((W.map V.str).drop (kn+1 - fn)))
    have i2:upd H5 p2 (.lst ((W.map V.str).drop (kn+1 - fn))) p2=_:=upd_same
    generalize upd H5 p2 (.lst ((W.map V.str).drop (kn+1 - fn)))=H6 at N2 i2
    refine ⟨p1,p2,_,_,rfl,rfl,N2 _ _ i1,i2,small2 (by have:=tkl (kn+fn); have:=drl (kn+1 - fn); omega),fun p3 h3=>?_⟩
    rw [mj]
    have N:=N1.trans (N2.trans (Same.new h3 (.lst ((W.take (kn+fn)++W.drop (kn+1 - fn)).map V.str))))
    obtain ⟨j1,j2⟩:=jo (wb.two (i:=kn+fn) (j:=kn+1 - fn)) (by omega) (by omega)
    exact ⟨_,p3,_,rfl,rfl,SqL.of upd_same,by decide +kernel,j1,q _ _ j2 (F4.same N) (S4.trans (SameBut.of N))⟩
  refine iteDF c2 ?_
  refine ⟨_,rfl,rfl,_,rfl,?_⟩
  by_cases c3:fm=2
  · refine iteD (congrArg V.int c3) ?_
    refine ⟨rfl,_,rfl,_,rfl,_,rfl,p,_,rfl,SqL.of e4,fun p1 h1=>?_⟩
    rw [cutV_tk]
    have N1:=Same.new h1 (.lst ((W.map V.str).take kn))
    have i1:upd H4 p1 (.lst ((W.map V.str).take kn)) p1=_:=upd_same
    have n1:=F4.ne h1
    generalize upd H4 p1 (.lst ((W.map V.str).take kn))=H5 at N1 i1
    have F5:=F4.same N1
    refine ⟨_,rfl,_,rfl,_,rfl,f,a,ls,rfl,F5,N1 _ _ ha4,na,ll,by omega,fun y H6 hy F6 B6=>?_⟩
    have yb:=lb y hy
    have yl:=yb.1
    have yw:=yb.split
    have yne:=split_some y (" " : Str)
    have ylen:=wlS_len (Txt.split y (" " : Str))
    have yw1:=yw.1
    refine ⟨rfl,y,_,rfl,rfl,by decide +kernel,by omega,by omega,fun p2 h2=>?_⟩
    have N2:=Same.new h2 (.lst ((Txt.split y (" " : Str)).map V.str))
    have i2:upd H6 p2 (.lst ((Txt.split y (" " : Str)).map V.str)) p2=_:=upd_same
    have n2:=F6.ne h2
    generalize upd H6 p2 (.lst ((Txt.split y (" " : Str)).map V.str))=H7 at N2 i2
    have F7:=F6.same N2
    refine ⟨f,p2,_,rfl,F7,i2,n2,by
      cases h:Txt.split y (" " : Str) with
      | nil=>exact absurd h yne
      | cons a r=>exact Nat.succ_le_succ (Nat.zero_le _),by omega,fun z H8 hz F8 B8=>?_⟩
    have zb:=yw.mem hz
    refine ⟨(by show 1≤sizeLine; decide),fun p4 h4=>?_⟩
    have N4:=Same.new h4 (.lst [.str z])
    have i4:upd H8 p4 (.lst [.str z]) p4=_:=upd_same
    generalize upd H8 p4 (.lst [.str z])=H9 at N4 i4
    have S8:SameBut f H5 H8:=B6.trans ((SameBut.of N2).trans B8)
    have i18:=S8 _ _ n1 i1
    have e8:=S8 _ _ pf (N1 _ _ e4)
    refine ⟨p1,p4,_,_,rfl,rfl,N4 _ _ i18,i4,small2 (by have:=tkl kn; show _+1≤5000; omega),fun p5 h5=>?_⟩
    have N5:=Same.new h5 (.lst ((W.map V.str).take kn++[V.str z]))
    have i5:upd H9 p5 (.lst ((W.map V.str).take kn++[V.str z])) p5=_:=upd_same
    generalize upd H9 p5 (.lst ((W.map V.str).take kn++[V.str z]))=H10 at N5 i5
    refine ⟨_,rfl,_,rfl,_,_,rfl,rfl,_,rfl,p,_,rfl,SqL.of (N5 _ _ (N4 _ _ e8)),fun p6 h6=>?_⟩
    have k1e:(kn:Int)+1=((kn+1:Nat):Int):=rfl
    rw [k1e,cutV_dr]
    have N6:=Same.new h6 (.lst ((W.map V.str).drop (kn+1)))
    have i6:upd H10 p6 (.lst ((W.map V.str).drop (kn+1))) p6=_:=upd_same
    generalize upd H10 p6 (.lst ((W.map V.str).drop (kn+1)))=H11 at N6 i6
    refine ⟨p5,p6,_,_,rfl,rfl,N6 _ _ i5,i6,small2 (by rw [List.length_append]; have:=tkl kn; have:=drl (kn+1); show _+1+_≤5000; omega),fun p7 h7=>?_⟩
    rw [mm]
    have N:=N4.trans (N5.trans (N6.trans (Same.new h7 (.lst (((W.take kn++[z])++W.drop (kn+1)).map V.str)))))
    obtain ⟨j1,j2⟩:=jo (wb.mid (i:=kn) (j:=kn+1) zb.one (Nat.le_succ _)) (by omega) (by omega)
    exact ⟨_,p7,_,rfl,rfl,SqL.of upd_same,by decide +kernel,j1,q _ _ j2 (F8.same N) (S4.trans ((SameBut.of N1).trans (S8.trans (SameBut.of N))))⟩
  refine iteDF (fun z=>c3 (V.int.inj z)) ?_
  refine ⟨_,rfl,rfl,_,rfl,?_⟩
  by_cases c4:fm=3
  · refine iteD (congrArg V.int c4) ?_
    refine ⟨rfl,_,rfl,_,rfl,_,rfl,p,_,rfl,SqL.of e4,fun p1 h1=>?_⟩
    rw [cutV_tk]
    have N1:=Same.new h1 (.lst ((W.map V.str).take kn))
    have i1:upd H4 p1 (.lst ((W.map V.str).take kn)) p1=_:=upd_same
    have n1:=F4.ne h1
    generalize upd H4 p1 (.lst ((W.map V.str).take kn))=H5 at N1 i1
    have F5:=F4.same N1
    refine ⟨_,rfl,f,rfl,F5,fun z H8 hz F8 B8=>?_⟩
    have zb:Bd 13 1 z:=odd_ok z hz
    refine ⟨(by show 1≤sizeLine; decide),fun p4 h4=>?_⟩
    have N4:=Same.new h4 (.lst [.str z])
    have i4:upd H8 p4 (.lst [.str z]) p4=_:=upd_same
    generalize upd H8 p4 (.lst [.str z])=H9 at N4 i4
    have i18:=B8 _ _ n1 i1
    have e8:=B8 _ _ pf (N1 _ _ e4)
    refine ⟨p1,p4,_,_,rfl,rfl,N4 _ _ i18,i4,small2 (by have:=tkl kn; show _+1≤5000; omega),fun p5 h5=>?_⟩
    have N5:=Same.new h5 (.lst ((W.map V.str).take kn++[V.str z]))
    have i5:upd H9 p5 (.lst ((W.map V.str).take kn++[V.str z])) p5=_:=upd_same
    generalize upd H9 p5 (.lst ((W.map V.str).take kn++[V.str z]))=H10 at N5 i5
    refine ⟨_,rfl,_,rfl,_,_,rfl,rfl,_,rfl,p,_,rfl,SqL.of (N5 _ _ (N4 _ _ e8)),fun p6 h6=>?_⟩
    have k1e:(kn:Int)+1=((kn+1:Nat):Int):=rfl
    rw [k1e,cutV_dr]
    have N6:=Same.new h6 (.lst ((W.map V.str).drop (kn+1)))
    have i6:upd H10 p6 (.lst ((W.map V.str).drop (kn+1))) p6=_:=upd_same
    generalize upd H10 p6 (.lst ((W.map V.str).drop (kn+1)))=H11 at N6 i6
    refine ⟨p5,p6,_,_,rfl,rfl,N6 _ _ i5,i6,small2 (by rw [List.length_append]; have:=tkl kn; have:=drl (kn+1); show _+1+_≤5000; omega),fun p7 h7=>?_⟩
    rw [mm]
    have N:=N4.trans (N5.trans (N6.trans (Same.new h7 (.lst (((W.take kn++[z])++W.drop (kn+1)).map V.str)))))
    obtain ⟨j1,j2⟩:=jo (wb.mid (i:=kn) (j:=kn+1) zb.one (Nat.le_succ _)) (by omega) (by omega)
    exact ⟨_,p7,_,rfl,rfl,SqL.of upd_same,by decide +kernel,j1,q _ _ j2 (F8.same N) (S4.trans ((SameBut.of N1).trans (B8.trans (SameBut.of N))))⟩
  refine iteDF (fun z=>c4 (V.int.inj z)) ?_
  refine ⟨_,rfl,rfl,_,rfl,?_⟩
  have cutb:∀ lo hi:Option Int,Bd l k (Txt.slice x lo hi):=fun lo hi=>xb.sub (slice_sub x lo hi)
  by_cases c5:fm=4
  · refine iteD (congrArg V.int c5) ?_
    refine ⟨_,rfl,_,rfl,_,rfl,x,rfl,small2 (by omega),?_⟩
    refine ⟨_,rfl,_,rfl,_,_,rfl,rfl,_,rfl,x,rfl,small2 (by omega),?_⟩
    have cb:=(cutb none (some (an:Int))).app (cutb (some ((an:Int)+1)) none)
    refine ⟨_,_,rfl,rfl,small2 (by have h1:=(cutb none (some (an:Int))).1; have h2:=(cutb (some ((an:Int)+1)) none).1; omega),?_⟩
    exact q _ H4 (cb.mono (by omega) (by omega)) F4 S4
  refine iteDF (fun z=>c5 (V.int.inj z)) ?_
  refine ⟨_,rfl,rfl,x, "(", " ", rfl,rfl,by omega,by decide +kernel,fun b1 hb1=>?_⟩
  have sl1:(" " : Str).length=1:=by decide +kernel
  rw [sl1] at hb1
  refine ⟨rfl,b1, ")", " ", rfl,rfl,by omega,by decide +kernel,fun b2 hb2=>?_⟩
  rw [sl1] at hb2
  have b2w:(Txt.split b2 (" " : Str)).length≤b2.length+1:=by
    have h1:=wlS_len (Txt.split b2 (" " : Str))
    have h2:=(join_wl _ (split_some b2 (" " : Str))).1
    rw [join_tx,StrLaws.join_split] at h2
    omega
  refine ⟨rfl,b2,_,rfl,rfl,by decide +kernel,by omega,by omega,fun p1 h1=>?_⟩
  generalize Txt.split b2 (" " : Str)=bs at b2w
  have N1:=Same.new h1 (.lst (bs.map V.str))
  have i1:upd H4 p1 (.lst (bs.map V.str)) p1=_:=upd_same
  generalize upd H4 p1 (.lst (bs.map V.str))=H5 at N1 i1
  have F5:=F4.same N1
  refine ⟨p1,rfl,⟨_,SqL.of i1⟩,fun D hD=>?_⟩
  have nD:=F5.ne hD
  refine comp_list (K:=K) (xs:=bs.map V.str) (fun i H'=>H' D=some (.lst (((bs.take i).filter fun w:Str=>!decide (w = "")).map V.str))∧Same H5 H') ⟨upd_same,Same.new hD _⟩ (fun i H' _ h=>SqL.of (h.2 _ _ i1)) ?_ ?_
  · rintro i z H7 hz ⟨h7,S7⟩
    have hi:=(List.getElem?_eq_some_iff.mp hz).1
    rw [List.getElem?_map] at hz
    obtain ⟨u,hu,rfl⟩:=Option.map_eq_some_iff.mp hz
    have et:(bs.take (i+1)).filter (fun w:Str=>!decide (w = ""))=(bs.take i).filter (fun w:Str=>!decide (w = ""))++(if u = "" then [] else [u]):=by
      rw [List.take_add_one,hu,List.filter_append]
      congr 1
      show [u].filter _=_
      by_cases h:u = "" <;> simp [h]
    refine ⟨_,rfl,rfl,_,rfl,?_⟩
    by_cases h:u = ""
    · refine iteNT (by rw [h]) ?_
      refine Nx.of hi ⟨?_,S7⟩
      rw [et,if_pos h,List.append_nil]
      exact h7
    · refine iteNF (fun z=>h (V.str.inj z)) ?_
      refine ⟨_,rfl,_,h7,?_,Nx.of hi ⟨?_,fun b o e=>?_⟩⟩
      · have h1:((bs.take i).filter fun w:Str=>!decide (w = "")).length≤i:=Nat.le_trans (List.length_filter_le _ _) (by rw [List.length_take]; omega)
        rw [List.length_map] at hi ⊢
        show _ < 2 ^ 24
        omega
      · rw [upd_same,et,if_neg h,List.map_append]
        rfl
      · rw [upd_ne (ne_of_none e hD)]
        exact S7 _ _ e
  rintro H7 ⟨h7,S7⟩
  rw [List.length_map,List.take_length] at h7
  have rl:(bs.filter fun w:Str=>!decide (w = "")).length≤bs.length:=List.length_filter_le _ _
  generalize bs.filter (fun w:Str=>!decide (w = ""))=rs at h7 rl
  have N7:=N1.trans S7
  have F7:=F4.same N7
  have S47:=S4.trans (SameBut.of N7)
  have fin8:∀ {c:Nat} {o:Option Int},10 < c→(Txt.slice x none (some (an:Int))).length+(⟨#[c]⟩:Str).length≤sizeLine∧(Txt.slice x none (some (an:Int))++(⟨#[c]⟩:Str)).length+(Txt.slice x o none).length≤sizeLine∧Bd (2*l+13) (2*k+2) (Txt.slice x none (some (an:Int))++(⟨#[c]⟩:Str)++Txt.slice x o none):=fun {c o} hc=>by
    have cb:Bd 1 1 (⟨#[c]⟩:Str):=⟨Nat.le_refl _,by show ([c]:List Nat).count 40≤1; exact List.count_le_length,fun d hd=>by rw [List.mem_singleton.mp (show d ∈ [c] from hd)]; exact hc⟩
    have h1:=(cutb none (some (an:Int))).app cb
    have h2:=h1.app (cutb o none)
    have l1:=h1.1
    have l2:=h2.1
    rw [Str.length_append] at l1 l2
    exact ⟨small2 (by omega),small2 (by omega),h2.mono (by omega) (by omega)⟩
  refine ⟨_,rfl,rfl,_,rfl,?_⟩
  by_cases c6:fm=5
  · refine iteD (congrArg V.int c6) ?_
    refine ⟨_,rfl,(by show 0≤sizeLine; decide),fun p2 h2=>?_⟩
    have N2:=Same.new h2 (.lst [])
    have i2:upd H7 p2 (.lst []) p2=_:=upd_same
    have i7:=N2 _ _ h7
    generalize upd H7 p2 (.lst [])=H8 at N2 i2 i7
    have F8:=F7.same N2
    have S8:=S47.trans (SameBut.of N2)
    refine ⟨D,p2,_,rfl,rfl,SqL.of i7,SqL.of i2,_,rfl,?_⟩
    cases rs with
    | nil =>
      refine iteF ?_
      refine ⟨_,rfl,_,rfl,_,rfl,x,rfl,small2 (by omega),_,rfl,f,rfl,F8,fun c H9 hc F9 B9=>?_⟩
      refine ⟨_,_,rfl,rfl,(fin8 (o:=none) hc).1,_,rfl,_,rfl,_,rfl,_,_,rfl,rfl,⟨by decide,by decide⟩,_,_,rfl,rfl,_,rfl,x,rfl,small2 (by omega),?_⟩
      exact ⟨_,_,rfl,rfl,(fin8 hc).2.1,q _ H9 (fin8 hc).2.2 F9 (S8.trans B9)⟩
    | cons r0 rs =>
      refine iteT ?_
      have dD:D ≠ f:=nD
      refine ⟨_,rfl,rfl,_,rfl,_,rfl,f,D,_,rfl,F8,i7,dD,Nat.succ_le_succ (Nat.zero_le _),by omega,fun y H9 hy F9 B9=>?_⟩
      refine ⟨_,rfl,f,rfl,F9,fun z H10 hz F10 B10=>?_⟩
      have zb:Bd 13 1 z:=odd_ok z hz
      have S10:=S8.trans (B9.trans B10)
      refine ⟨x,y,z,rfl,rfl,by omega,Nat.le_trans zb.1 (by decide),q _ H10 (xb.mono (by omega) (by omega)) F10 S10,fun i j ij=>q _ H10 ((xb.glue zb ij).mono (by omega) (by omega)) F10 S10⟩
  refine iteDF (fun z=>c6 (V.int.inj z)) ?_
  refine ⟨_,rfl,_,rfl,_,rfl,x,rfl,small2 (by omega),_,rfl,f,rfl,F7,fun c H9 hc F9 B9=>?_⟩
  refine ⟨_,_,rfl,rfl,(fin8 (o:=none) hc).1,_,rfl,_,rfl,_,rfl,_,_,rfl,rfl,⟨by decide,by decide⟩,_,_,rfl,rfl,_,rfl,x,rfl,small2 (by omega),?_⟩
  exact ⟨_,_,rfl,rfl,(fin8 hc).2.1,q _ H9 (fin8 hc).2.2 F9 (S47.trans B9)⟩
def splW:List Str:=["", " ", "say", "go", "go x", "go -1", "if 1", "if 1 1 1", "end end", "End", "set x", "set 1 x"]
theorem spl_ok:∀ x ∈ splW,Bd 8 0 x:=fun x hx=>by
  have:∀ x ∈ splW,x.length≤8∧(cd x).count 40≤0∧∀ c ∈ cd x,10 < c:=by decide +kernel
  exact this x hx
@[irreducible] def splE:List Expr:=eltsOf (valOf (stmI s_l_spoilt 8 0))
theorem splE_w:Consts splE splW:=by
  unfold splE
  exact .cons (.cons (.cons (.cons (.cons (.cons (.cons (.cons (.cons (.cons (.cons (.cons .nil)))))))))))
theorem spl_body:∃ p1 p2 p3 p4,defBody s_l_spoilt=[stm s_l_spoilt 0,stm s_l_spoilt 1,stm s_l_spoilt 2,stm s_l_spoilt 3,stm s_l_spoilt 4,stm s_l_spoilt 5,stm s_l_spoilt 6,stm s_l_spoilt 7,.If (ifTest (stm s_l_spoilt 8)) [.Assign [.Name "_law_odd_here" p1] (.List splE p2) p3,stmI s_l_spoilt 8 1] [] p4,stm s_l_spoilt 9,stm s_l_spoilt 10,stm s_l_spoilt 11,stm s_l_spoilt 12] :=
  ⟨_,_,_,_,by with_unfolding_all rfl⟩
inductive spSpl (l k m:Nat) (vs:List V) (H:Hp) (Q:VK) (u_3:XK):Prop where
  | mk:∀ (f a:Addr) (ls:List Str),(vs=[.ref f,.ref a])→(FeedAt H f)→(H a=some (.lst (ls.map V.str)))→(a ≠ f)→(ls.length≤m)→(∀ y ∈ ls,Bd l k y)→(∀ (c:Addr) (zs:List Str) (H':Hp),H' c=some (.lst (zs.map V.str))→c ≠ f→zs.length≤m+1→(∀ y ∈ zs,Bd (2*l+13) (2*k+2) y)→FeedAt H' f→SameBut f H H'→Q (.ref c) H')→spSpl l k m vs H Q u_3
inductive spSplA (vs:List V) (H:Hp) (Q:VK) (u_3:XK):Prop where
  | mk:∀ l k m:Nat,65≤l→l≤700→12≤k→60≤m→m≤65→spSpl l k m vs H Q u_3→spSplA vs H Q u_3
inductive tSpl (l k m:Nat) (D:Ends) (σ:St) (H:Hp):Prop where
  | mk:∀ (f b:Addr) (ls:List Str) (fm:Int),(σ=[some (.ref f),some (.ref b),some (.int fm),none,none,none,none])→(0≤fm)→(fm < 10)→(H b=some (.lst (ls.map V.str)))→(b ≠ f)→(1≤ls.length)→(ls.length≤m)→(∀ y ∈ ls,Bd l k y)→(FeedAt H f)→(∀ (c:Addr) (zs:List Str) (H':Hp),H' c=some (.lst (zs.map V.str))→c ≠ f→zs.length≤m+1→(∀ y ∈ zs,Bd (2*l+13) (2*k+2) y)→FeedAt H' f→SameBut f H H'→D.rt (.ref c) H')→tSpl l k m D σ H
theorem cut32 {X:Cx} {ss:List Stmt} {t t':TS} (h:PSs X ss t) (hw:∀ D σ H,t' D σ H→t D σ H):PSs X ss t':=fun pins s σ H D I k=>h pins s σ H D I (hw _ _ _ k)
theorem mmL (ys:List Str) (z:Str) (i j:Nat):((ys.map V.str).take i++[V.str z])++(ys.map V.str).drop j=((ys.take i++[z])++ys.drop j).map V.str:=by rw [List.map_append,List.map_append,List.map_take,List.map_drop]; rfl
theorem insL {ys:List Str} {z:Str} {i j m:Nat} (h:ys.length≤m) (ij:i≤j):((ys.take i++[z])++ys.drop j).length≤m+1:=by
  rw [List.length_append,List.length_append,List.length_take,List.length_drop]
  show min i ys.length+1+_≤_
  omega
theorem insB {ys:List Str} {z:Str} {i j l k:Nat} (h:∀ y ∈ ys,Bd l k y) (g:Bd l k z):∀ y ∈ ((ys.take i++[z])++ys.drop j),Bd l k y:=fun y hy=>by
  rcases List.mem_append.mp hy with hy | hy
  · rcases List.mem_append.mp hy with hy | hy
    · exact h y (List.mem_of_mem_take hy)
    · rw [List.mem_singleton.mp hy]; exact g
  · exact h y (List.mem_of_mem_drop hy)
theorem sc_l_spoilt:FnScope ["_law_feed_here", "_law_lines", "_law_form", "_law_at", "_law_to", "_law_rest", "_law_odd_here"] ["_law_feed_here", "_law_lines"] (defScope s_l_spoilt):=⟨rfl,rfl,rfl,by decide +kernel,rfl,by decide +kernel,by decide +kernel⟩
theorem ok_l_spoilt {f:Addr} {fd:FuncData} (F:Fun K "_law_spoilt" "_law_spoilt" s_l_spoilt f fd) (B:Bl mg) (hmax:mg "max" = none) (C_l_take:Cal P w K mg base 1 "_law_take" ["_law_feed_here", "_law_many"] spTake) (C_l_some:Cal P w K mg base 2 "_law_some" ["_law_feed_here", "_law_pool"] spSome) (C_l_deep_line:Cal P w K mg base 2 "_law_deep_line" ["_law_feed_here"] spDpL) (C_l_other_line:Cal P w K mg base 4 "_law_other_line" ["_law_feed_here", "_law_lines", "_law_line_here"] spOtherA):FnOk P w K mg base CX0 5 f fd ["_law_feed_here", "_law_lines"] spSplA:=by
  refine F.ok sc_l_spoilt (fun vs H Q E h=>?_) (fun cdv A outer s H vs Q E hr h=>?_)
  · obtain ⟨_,_,_,_,_,_,_,_,f,a,ls,rfl,_⟩:=h
    rfl
  obtain ⟨l,k,m,l0,l7,k0,mm0,m7,f,a,ls,rfl,F0,ha,na,lm,lb,q⟩:=h
  obtain ⟨p1,p2,p3,p4,eb⟩:=spl_body
  rw [eb]
  have small2:∀ {n:Nat},n≤5000→n≤sizeLine:=fun h=>Nat.le_trans h (by decide)
  refine ⟨_,(pss_cons (ps_set (i:=2) sc_l_spoilt.nd rfl (Or.inl rfl) (pe_cal C_l_take hr (by decide) rfl (pa_cons (pv 0) (pa_cons pe_int pa_nil))))
      (pss_cons (ps_if (pt_cmpR (op_eqNil hr.units0) (pv 1) (pe_lst pa_nil) (nomark _)) (pss_one (ps_set (i:=1) sc_l_spoilt.nd rfl (Or.inl rfl) (pe_lst (pa_cons pe_str pa_nil)))) pss_nil)
      (cut32 (t':=tSpl l k m) (pss_cons (ps_set (i:=3) sc_l_spoilt.nd rfl (Or.inl rfl) (pe_cal C_l_take hr (by decide) rfl (pa_cons (pv 0) (pa_cons (pe_callB call_len_seq rfl B.len PySem.boot_len (pa_cons (pv 1) pa_nil)) pa_nil))))
      (pss_cons (ps_set (i:=4) sc_l_spoilt.nd rfl (Or.inl rfl) (pe_cal C_l_take hr (by decide) rfl (pa_cons (pv 0) (pa_cons (pe_op op_add (pe_callB call_len_seq rfl B.len PySem.boot_len (pa_cons (pv 1) pa_nil)) pe_int) pa_nil))))
      (pss_cons (ps_set (i:=5) sc_l_spoilt.nd rfl (Or.inl rfl) (pe_op op_cat (pe_slice sl_list (pv 1) po_none (po_some (pv 3))) (pe_slice sl_list (pv 1) (po_some (pe_op op_add (pv 3) pe_int)) po_none)))
      (pss_cons (ps_if (pt_cmpR op_eq (pv 2) pe_int (nomark _)) (pss_one (ps_ret (pv 5))) pss_nil)
      (pss_cons (ps_if (pt_cmpR op_eq (pv 2) pe_int (nomark _)) (pss_one (ps_ret (pe_op op_cat (pe_op op_cat (pe_slice sl_list (pv 1) po_none (po_some (pv 4))) (pe_lst (pa_cons (pe_ix ix_list (pv 1) (pv 3) (fun _ _=>rfl)) pa_nil))) (pe_slice sl_list (pv 1) (po_some (pv 4)) po_none)))) pss_nil)
      (pss_cons (ps_if (pt_cmpR op_eq (pv 2) pe_int (nomark _)) (pss_one (ps_ret (pe_op op_cat (pe_op op_cat (pe_slice sl_list (pv 5) po_none (po_some (pv 4))) (pe_lst (pa_cons (pe_ix ix_list (pv 1) (pv 3) (fun _ _=>rfl)) pa_nil))) (pe_slice sl_list (pv 5) (po_some (pv 4)) po_none)))) pss_nil)
      (pss_cons (ps_if (pt_cmpR op_eq (pv 2) pe_int (nomark _)) (pss_cons (ps_set (i:=6) sc_l_spoilt.nd rfl (Or.inl rfl) (pe_lst (pa_consts splE_w)))
        (pss_one (ps_ret (pe_op op_cat (pe_op op_cat (pe_slice sl_list (pv 1) po_none (po_some (pv 4))) (pe_lst (pa_cons (pe_cal C_l_some hr (by decide) rfl (pa_cons (pv 0) (pa_cons (pv 6) pa_nil))) pa_nil))) (pe_slice sl_list (pv 1) (po_some (pv 4)) po_none))))) pss_nil)
      (pss_cons (ps_if (pt_cmpR op_eq (pv 2) pe_int (nomark _)) (pss_one (ps_ret (pe_op op_cat (pe_op op_cat (pe_slice sl_list (pv 5) po_none (po_some (pv 4))) (pe_lst (pa_cons (pe_ix ix_list (pe_lst (pa_cons (pe_op op_add_str pe_str (pe_ix ix_list (pv 1) (pv 3) (fun _ _=>rfl))) (pa_cons (pe_op op_add_str (pe_ix ix_list (pv 1) (pv 3) (fun _ _=>rfl)) pe_str) pa_nil))) (pe_cal C_l_take hr (by decide) rfl (pa_cons (pv 0) (pa_cons pe_int pa_nil))) (fun _ _=>rfl)) pa_nil))) (pe_slice sl_list (pv 5) (po_some (pv 4)) po_none)))) pss_nil)
      (pss_cons (ps_if (pt_cmpR op_eq (pv 2) pe_int (nomark _)) (pss_one (ps_ret (pe_op op_cat (pe_op op_cat (pe_slice sl_list (pv 1) po_none (po_some (pv 4))) (pe_lst (pa_cons (pe_cal C_l_deep_line hr (by decide) rfl (pa_cons (pv 0) pa_nil)) pa_nil))) (pe_slice sl_list (pv 1) (po_some (pv 4)) po_none)))) pss_nil)
      (pss_cons (ps_if (pt_cmpR op_eq (pv 2) pe_int (nomark _)) (pss_one (ps_ret (pe_op op_cat (pv 1) (pe_op op_rep (pe_lst (pa_cons (pe_ix ix_list (pv 1) (pe_un un_neg pe_int) (fun _ _=>rfl)) pa_nil)) (pe_callB (call_max2 rfl) rfl hmax PyProof.Rows.boot_max (pa_cons pe_int (pa_cons (pe_op op_sub (pe_op op_add pe_int (pe_cal C_l_take hr (by decide) rfl (pa_cons (pv 0) (pa_cons pe_int pa_nil)))) (pe_callB call_len_seq rfl B.len PySem.boot_len (pa_cons (pv 1) pa_nil))) pa_nil))))))) pss_nil)
      (pss_one (ps_ret (pe_op op_cat (pe_op op_cat (pe_slice sl_list (pv 1) po_none (po_some (pv 3))) (pe_lst (pa_cons (pe_cal C_l_other_line hr (by decide) rfl (pa_cons (pv 0) (pa_cons (pv 1) (pa_cons (pe_ix ix_list (pv 1) (pv 3) (fun _ _=>rfl)) pa_nil)))) pa_nil))) (pe_slice sl_list (pv 1) (po_some (pe_op op_add (pv 3) pe_int)) po_none)))))))))))))) ?_))),?_⟩
  rotate_left
  · refine ⟨_,rfl,f,10,rfl,F0,by decide,by decide,fun fm H1 m0 m1 F1 B1=>?_⟩
    have ha1:=B1 _ _ na ha
    refine ⟨_,rfl,(by show 0≤sizeLine; decide),fun p5 h5=>?_⟩
    have N5:=Same.new h5 (.lst [])
    have i5:upd H1 p5 (.lst []) p5=_:=upd_same
    have ha5:=N5 _ _ ha1
    generalize upd H1 p5 (.lst [])=H2 at N5 i5 ha5
    have F2:=F1.same N5
    have S2:=B1.trans (SameBut.of N5)
    refine ⟨a,p5,_,rfl,rfl,SqL.of ha5,SqL.of i5,_,rfl,?_⟩
    cases ls with
    | nil =>
      refine iteT ?_
      refine ⟨(by show 1≤sizeLine; decide),fun b hb=>?_⟩
      have N:=Same.new hb (.lst [.str ""])
      exact ⟨f,b,[""],fm,rfl,m0,m1,upd_same,F2.ne hb,Nat.le_refl _,by show 1≤m; omega,fun y hy=>by rw [List.mem_singleton.mp hy]; exact bd_lit.2.2.2.1.mono (Nat.zero_le _) (Nat.zero_le _),F2.same N,fun c zs H' e nc lz bz F' S'=>q c zs H' e nc lz bz F' (S2.trans ((SameBut.of N).trans S'))⟩
    | cons x r =>
      refine iteF ?_
      exact ⟨f,a,x::r,fm,rfl,m0,m1,ha5,na,Nat.succ_le_succ (Nat.zero_le _),lm,lb,F2,fun c zs H' e nc lz bz F' S'=>q c zs H' e nc lz bz F' (S2.trans S')⟩
  clear q lb lm ha na F0 ls
  rintro D σ H1 ⟨f,b,ls,fm,rfl,m0,m1,hb,nb,l1,lm,lb,F1,q⟩
  have lml:(ls.map V.str).length=ls.length:=List.length_map _
  have up:∀ {y:Str},Bd l k y→Bd (2*l+13) (2*k+2) y:=fun h=>h.mono (by omega) (by omega)
  refine ⟨_,rfl,_,rfl,b,_,rfl,.inl (SqL.of hb),f,_,rfl,F1,by omega,by omega,fun at_ H2 a0 a1 F2 B2=>?_⟩
  refine ⟨_,rfl,_,rfl,b,_,rfl,.inl (SqL.of (B2 _ _ nb hb)),_,_,rfl,rfl,f,_,rfl,F2,by omega,by omega,fun to_ H3 b0 b1 F3 B3=>?_⟩
  have S3:=B2.trans B3
  have e3:=S3 _ _ nb hb
  rw [lml] at a1 b1
  obtain ⟨an,rfl⟩:=Int.eq_ofNat_of_zero_le a0
  obtain ⟨tn,rfl⟩:=Int.eq_ofNat_of_zero_le b0
  have al:an < ls.length:=by omega
  refine ⟨_,rfl,_,rfl,_,rfl,b,_,rfl,SqL.of e3,fun p1 h1=>?_⟩
  rw [cutV_tk]
  have N1:=Same.new h1 (.lst ((ls.map V.str).take an))
  have i1:upd H3 p1 (.lst ((ls.map V.str).take an)) p1=_:=upd_same
  generalize upd H3 p1 (.lst ((ls.map V.str).take an))=H3a at N1 i1
  refine ⟨_,rfl,_,rfl,_,_,rfl,rfl,_,rfl,b,_,rfl,SqL.of (N1 _ _ e3),fun p2 h2=>?_⟩
  have k1e:(an:Int)+1=((an+1:Nat):Int):=rfl
  rw [k1e,cutV_dr]
  have N2:=Same.new h2 (.lst ((ls.map V.str).drop (an+1)))
  have i2:upd H3a p2 (.lst ((ls.map V.str).drop (an+1))) p2=_:=upd_same
  generalize upd H3a p2 (.lst ((ls.map V.str).drop (an+1)))=H3b at N2 i2
  refine ⟨p1,p2,_,_,rfl,rfl,N2 _ _ i1,i2,small2 (by rw [List.length_take,List.length_drop,lml]; omega),fun r hr'=>?_⟩
  have N3:=Same.new hr' (.lst ((ls.map V.str).take an++(ls.map V.str).drop (an+1)))
  have N13:=N1.trans (N2.trans N3)
  have e4:=N13 _ _ e3
  have e4r:upd H3b r (.lst ((ls.map V.str).take an++(ls.map V.str).drop (an+1))) r=some (.lst ((ls.take an++ls.drop (an+1)).map V.str)):=by rw [upd_same,List.map_append,List.map_take,List.map_drop]
  have nr:=(F3.same (N1.trans N2)).ne hr'
  generalize upd H3b r (.lst ((ls.map V.str).take an++(ls.map V.str).drop (an+1)))=H4 at N13 e4 e4r
  have F4:=F3.same N13
  have S4:=S3.trans (SameBut.of N13)
  obtain ⟨R,hR⟩:∃ R,R=ls.take an++ls.drop (an+1):=⟨_,rfl⟩
  have Rm:R.length≤m:=by rw [hR,List.length_append,List.length_take,List.length_drop]; omega
  have Rb:∀ y ∈ R,Bd l k y:=fun y hy=>by
    rw [hR] at hy
    rcases List.mem_append.mp hy with hy | hy
    · exact lb y (List.mem_of_mem_take hy)
    · exact lb y (List.mem_of_mem_drop hy)
  rw [← hR] at e4r
  obtain ⟨x,hx⟩:∃ x,ls[an]?=some x:=⟨_,List.getElem?_eq_getElem al⟩
  have xb:=lb x (List.mem_of_getElem? hx)
  have hat:atI (ls.map V.str) (an:Int)=some (.str x):=atI_nat (by rw [List.getElem?_map,hx]; rfl)
  obtain ⟨xl,hlast,xlb⟩:∃ xl,atI (ls.map V.str) (-1)=some (.str xl)∧Bd l k xl:=by
    obtain ⟨i,e,rfl⟩:∃ i e,ls=i++[e]:=⟨ls.dropLast,ls.getLast (by intro z; rw [z] at l1; cases l1),(List.dropLast_concat_getLast _).symm⟩
    refine ⟨e,?_,lb e (List.mem_append_right _ List.mem_cons_self)⟩
    rw [List.map_append]
    exact atI_last _ _
  refine ⟨_,rfl,rfl,_,rfl,?_⟩
  by_cases c0:fm=0
  · refine iteD (congrArg V.int c0) ?_
    exact ⟨_,rfl,q r R _ e4r nr (by omega) (fun y hy=>up (Rb y hy)) F4 S4⟩
  refine iteDF (fun z=>c0 (V.int.inj z)) ?_
  refine ⟨_,rfl,rfl,_,rfl,?_⟩
  by_cases c1:fm=1
  · refine iteD (congrArg V.int c1) ?_
    refine ⟨_,rfl,_,rfl,_,rfl,b,_,rfl,SqL.of e4,fun p1 h1=>?_⟩
    rw [cutV_tk]
    have N1:=Same.new h1 (.lst ((ls.map V.str).take tn))
    have i1:upd H4 p1 (.lst ((ls.map V.str).take tn)) p1=_:=upd_same
    have n1:=F4.ne h1
    generalize upd H4 p1 (.lst ((ls.map V.str).take tn))=H5 at N1 i1
    have F5:=F4.same N1
    have hb5:=N1 _ _ e4
    refine ⟨_,rfl,_,rfl,b,_,_,_,rfl,rfl,SqL.of hb5,hat,(by show 1≤sizeLine; decide),fun p7 h7=>?_⟩
    obtain ⟨H6,e6⟩:∃ H6,H6=H5:=⟨_,rfl⟩
    rw [← e6] at h7 ⊢
    have F6:FeedAt H6 f:=e6 ▸ F5
    have B6:SameBut f H5 H6:=e6 ▸ SameBut.refl _ _
    obtain ⟨z,ez⟩:∃ z,z=x:=⟨_,rfl⟩
    have zb:Bd (2*l+13) (2*k+2) z:=ez ▸ up xb
    rw [← ez]
    have N7:=Same.new h7 (.lst [.str z])
    have i7:upd H6 p7 (.lst [.str z]) p7=_:=upd_same
    generalize upd H6 p7 (.lst [.str z])=H7 at N7 i7
    have i17:=N7 _ _ (B6 _ _ n1 i1)
    have e7:=N7 _ _ (B6 _ _ nb (N1 _ _ e4))
    have tl:((ls.map V.str).take tn).length≤100:=by rw [List.length_take,List.length_map]; omega
    have dl:((ls.map V.str).drop tn).length≤100:=by rw [List.length_drop,List.length_map]; omega
    refine ⟨p1,p7,_,_,rfl,rfl,i17,i7,small2 (by show _+1≤5000; omega),fun p8 h8=>?_⟩
    have N8:=Same.new h8 (.lst ((ls.map V.str).take tn++[V.str z]))
    have i8:upd H7 p8 (.lst ((ls.map V.str).take tn++[V.str z])) p8=_:=upd_same
    generalize upd H7 p8 (.lst ((ls.map V.str).take tn++[V.str z]))=H8 at N8 i8
    refine ⟨_,rfl,_,rfl,_,rfl,b,_,rfl,SqL.of (N8 _ _ e7),fun p9 h9=>?_⟩
    rw [cutV_dr]
    have N9:=Same.new h9 (.lst ((ls.map V.str).drop tn))
    have i9:upd H8 p9 (.lst ((ls.map V.str).drop tn)) p9=_:=upd_same
    generalize upd H8 p9 (.lst ((ls.map V.str).drop tn))=H9 at N9 i9
    refine ⟨p8,p9,_,_,rfl,rfl,N9 _ _ i8,i9,small2 (by rw [List.length_append]; show _+1+_≤5000; omega),fun pa ha=>?_⟩
    rw [mmL]
    have N:=N7.trans (N8.trans (N9.trans (Same.new ha (.lst (((ls.take tn++[z])++ls.drop tn).map V.str)))))
    exact q pa _ _ upd_same ((F6.same (N7.trans (N8.trans N9))).ne ha) (insL lm (Nat.le_refl _)) (insB (fun y hy=>up (lb y hy)) zb) (F6.same N) (S4.trans ((SameBut.of N1).trans (B6.trans (SameBut.of N))))
  refine iteDF (fun z=>c1 (V.int.inj z)) ?_
  refine ⟨_,rfl,rfl,_,rfl,?_⟩
  by_cases c2:fm=2
  · refine iteD (congrArg V.int c2) ?_
    refine ⟨_,rfl,_,rfl,_,rfl,r,_,rfl,SqL.of e4r,fun p1 h1=>?_⟩
    rw [cutV_tk]
    have N1:=Same.new h1 (.lst ((R.map V.str).take tn))
    have i1:upd H4 p1 (.lst ((R.map V.str).take tn)) p1=_:=upd_same
    have n1:=F4.ne h1
    generalize upd H4 p1 (.lst ((R.map V.str).take tn))=H5 at N1 i1
    have F5:=F4.same N1
    have hb5:=N1 _ _ e4
    refine ⟨_,rfl,_,rfl,b,_,_,_,rfl,rfl,SqL.of hb5,hat,(by show 1≤sizeLine; decide),fun p7 h7=>?_⟩
    obtain ⟨H6,e6⟩:∃ H6,H6=H5:=⟨_,rfl⟩
    rw [← e6] at h7 ⊢
    have F6:FeedAt H6 f:=e6 ▸ F5
    have B6:SameBut f H5 H6:=e6 ▸ SameBut.refl _ _
    obtain ⟨z,ez⟩:∃ z,z=x:=⟨_,rfl⟩
    have zb:Bd (2*l+13) (2*k+2) z:=ez ▸ up xb
    rw [← ez]
    have N7:=Same.new h7 (.lst [.str z])
    have i7:upd H6 p7 (.lst [.str z]) p7=_:=upd_same
    generalize upd H6 p7 (.lst [.str z])=H7 at N7 i7
    have i17:=N7 _ _ (B6 _ _ n1 i1)
    have e7:=N7 _ _ (B6 _ _ nr (N1 _ _ e4r))
    have tl:((R.map V.str).take tn).length≤100:=by rw [List.length_take,List.length_map]; omega
    have dl:((R.map V.str).drop tn).length≤100:=by rw [List.length_drop,List.length_map]; omega
    refine ⟨p1,p7,_,_,rfl,rfl,i17,i7,small2 (by show _+1≤5000; omega),fun p8 h8=>?_⟩
    have N8:=Same.new h8 (.lst ((R.map V.str).take tn++[V.str z]))
    have i8:upd H7 p8 (.lst ((R.map V.str).take tn++[V.str z])) p8=_:=upd_same
    generalize upd H7 p8 (.lst ((R.map V.str).take tn++[V.str z]))=H8 at N8 i8
    refine ⟨_,rfl,_,rfl,_,rfl,r,_,rfl,SqL.of (N8 _ _ e7),fun p9 h9=>?_⟩
    rw [cutV_dr]
    have N9:=Same.new h9 (.lst ((R.map V.str).drop tn))
    have i9:upd H8 p9 (.lst ((R.map V.str).drop tn)) p9=_:=upd_same
    generalize upd H8 p9 (.lst ((R.map V.str).drop tn))=H9 at N9 i9
    refine ⟨p8,p9,_,_,rfl,rfl,N9 _ _ i8,i9,small2 (by rw [List.length_append]; show _+1+_≤5000; omega),fun pa ha=>?_⟩
    rw [mmL]
    have N:=N7.trans (N8.trans (N9.trans (Same.new ha (.lst (((R.take tn++[z])++R.drop tn).map V.str)))))
    exact q pa _ _ upd_same ((F6.same (N7.trans (N8.trans N9))).ne ha) (insL Rm (Nat.le_refl _)) (insB (fun y hy=>up (Rb y hy)) zb) (F6.same N) (S4.trans ((SameBut.of N1).trans (B6.trans (SameBut.of N))))
  refine iteDF (fun z=>c2 (V.int.inj z)) ?_
  refine ⟨_,rfl,rfl,_,rfl,?_⟩
  by_cases c3:fm=3
  · refine iteD (congrArg V.int c3) ?_
    refine ⟨(by show 12≤sizeLine; decide),fun ko hko=>?_⟩
    have No:=Same.new hko (.lst (splW.map V.str))
    have eo:upd H4 ko (.lst (splW.map V.str)) ko=some (.lst (splW.map V.str)):=upd_same
    have nko:=F4.ne hko
    generalize upd H4 ko (.lst (splW.map V.str))=Ho at No eo
    have Fo:=F4.same No
    have eb4:=No _ _ e4
    have So:=S4.trans (SameBut.of No)
    refine ⟨_,rfl,_,rfl,_,rfl,b,_,rfl,SqL.of eb4,fun p1 h1=>?_⟩
    rw [cutV_tk]
    have N1:=Same.new h1 (.lst ((ls.map V.str).take tn))
    have i1:upd Ho p1 (.lst ((ls.map V.str).take tn)) p1=_:=upd_same
    have n1:=Fo.ne h1
    generalize upd Ho p1 (.lst ((ls.map V.str).take tn))=H5 at N1 i1
    have F5:=Fo.same N1
    have hb5:=N1 _ _ eb4
    refine ⟨_,rfl,_,rfl,f,ko,splW,rfl,F5,N1 _ _ eo,nko,by decide,by decide,fun z H6 hz F6 B6=>?_⟩
    have zb:Bd (2*l+13) (2*k+2) z:=(spl_ok z hz).mono (by omega) (by omega)
    refine ⟨(by show 1≤sizeLine; decide),fun p7 h7=>?_⟩
    have N7:=Same.new h7 (.lst [.str z])
    have i7:upd H6 p7 (.lst [.str z]) p7=_:=upd_same
    generalize upd H6 p7 (.lst [.str z])=H7 at N7 i7
    have i17:=N7 _ _ (B6 _ _ n1 i1)
    have e7:=N7 _ _ (B6 _ _ nb (N1 _ _ eb4))
    have tl:((ls.map V.str).take tn).length≤100:=by rw [List.length_take,List.length_map]; omega
    have dl:((ls.map V.str).drop tn).length≤100:=by rw [List.length_drop,List.length_map]; omega
    refine ⟨p1,p7,_,_,rfl,rfl,i17,i7,small2 (by show _+1≤5000; omega),fun p8 h8=>?_⟩
    have N8:=Same.new h8 (.lst ((ls.map V.str).take tn++[V.str z]))
    have i8:upd H7 p8 (.lst ((ls.map V.str).take tn++[V.str z])) p8=_:=upd_same
    generalize upd H7 p8 (.lst ((ls.map V.str).take tn++[V.str z]))=H8 at N8 i8
    refine ⟨_,rfl,_,rfl,_,rfl,b,_,rfl,SqL.of (N8 _ _ e7),fun p9 h9=>?_⟩
    rw [cutV_dr]
    have N9:=Same.new h9 (.lst ((ls.map V.str).drop tn))
    have i9:upd H8 p9 (.lst ((ls.map V.str).drop tn)) p9=_:=upd_same
    generalize upd H8 p9 (.lst ((ls.map V.str).drop tn))=H9 at N9 i9
    refine ⟨p8,p9,_,_,rfl,rfl,N9 _ _ i8,i9,small2 (by rw [List.length_append]; show _+1+_≤5000; omega),fun pa ha=>?_⟩
    rw [mmL]
    have N:=N7.trans (N8.trans (N9.trans (Same.new ha (.lst (((ls.take tn++[z])++ls.drop tn).map V.str)))))
    exact q pa _ _ upd_same ((F6.same (N7.trans (N8.trans N9))).ne ha) (insL lm (Nat.le_refl _)) (insB (fun y hy=>up (lb y hy)) zb) (F6.same N) (So.trans ((SameBut.of N1).trans (B6.trans (SameBut.of N))))
  refine iteDF (fun z=>c3 (V.int.inj z)) ?_
  refine ⟨_,rfl,rfl,_,rfl,?_⟩
  by_cases c4:fm=4
  · refine iteD (congrArg V.int c4) ?_
    refine ⟨_,rfl,_,rfl,_,rfl,r,_,rfl,SqL.of e4r,fun p1 h1=>?_⟩
    rw [cutV_tk]
    have N1:=Same.new h1 (.lst ((R.map V.str).take tn))
    have i1:upd H4 p1 (.lst ((R.map V.str).take tn)) p1=_:=upd_same
    have n1:=F4.ne h1
    generalize upd H4 p1 (.lst ((R.map V.str).take tn))=H5 at N1 i1
    have F5:=F4.same N1
    have hb5:=N1 _ _ e4
    have sx:=xb.1
    have sp1:Bd 1 0 (" " : Str):=⟨by decide +kernel,by decide +kernel,by decide +kernel⟩
    have c1:=sp1.app xb
    have c2:=xb.app sp1
    have sl1:(" " : Str).length=1:=by decide +kernel
    refine ⟨_,rfl,_,rfl,b,_,_,_,rfl,rfl,SqL.of hb5,hat,_,_,rfl,rfl,small2 (by rw [sl1]; omega),?_⟩
    refine ⟨_,rfl,_,rfl,b,_,_,_,rfl,rfl,SqL.of hb5,hat,_,_,rfl,rfl,small2 (by rw [sl1]; omega),?_⟩
    refine ⟨(by show 2≤sizeLine; decide),fun p3 h3=>?_⟩
    have N3:=Same.new h3 (.lst [.str ((" " : Str)++x),.str (x++(" " : Str))])
    have i3:upd H5 p3 (.lst [.str ((" " : Str)++x),.str (x++(" " : Str))]) p3=_:=upd_same
    have n3:=F5.ne h3
    generalize upd H5 p3 (.lst [.str ((" " : Str)++x),.str (x++(" " : Str))])=H5' at N3 i3
    refine ⟨_,rfl,f,2,rfl,F5.same N3,by decide,by decide,fun d H6 d0 d1 F6 B6'=>?_⟩
    have B6:SameBut f H5 H6:=(SameBut.of N3).trans B6'
    obtain ⟨z,hz,zb⟩:∃ z:Str,atI [V.str ((" " : Str)++x),V.str (x++(" " : Str))] d=some (.str z)∧Bd (2*l+13) (2*k+2) z:=by
      obtain rfl | rfl:d=0∨d=1:=by omega
      · exact ⟨_,at0 _ _,c1.mono (by omega) (by omega)⟩
      · exact ⟨_,at1 _ _ _,c2.mono (by omega) (by omega)⟩
    refine ⟨p3,_,_,_,rfl,rfl,SqL.of (B6' _ _ n3 i3),hz,(by show 1≤sizeLine; decide),fun p7 h7=>?_⟩
    have N7:=Same.new h7 (.lst [.str z])
    have i7:upd H6 p7 (.lst [.str z]) p7=_:=upd_same
    generalize upd H6 p7 (.lst [.str z])=H7 at N7 i7
    have i17:=N7 _ _ (B6 _ _ n1 i1)
    have e7:=N7 _ _ (B6 _ _ nr (N1 _ _ e4r))
    have tl:((R.map V.str).take tn).length≤100:=by rw [List.length_take,List.length_map]; omega
    have dl:((R.map V.str).drop tn).length≤100:=by rw [List.length_drop,List.length_map]; omega
    refine ⟨p1,p7,_,_,rfl,rfl,i17,i7,small2 (by show _+1≤5000; omega),fun p8 h8=>?_⟩
    have N8:=Same.new h8 (.lst ((R.map V.str).take tn++[V.str z]))
    have i8:upd H7 p8 (.lst ((R.map V.str).take tn++[V.str z])) p8=_:=upd_same
    generalize upd H7 p8 (.lst ((R.map V.str).take tn++[V.str z]))=H8 at N8 i8
    refine ⟨_,rfl,_,rfl,_,rfl,r,_,rfl,SqL.of (N8 _ _ e7),fun p9 h9=>?_⟩
    rw [cutV_dr]
    have N9:=Same.new h9 (.lst ((R.map V.str).drop tn))
    have i9:upd H8 p9 (.lst ((R.map V.str).drop tn)) p9=_:=upd_same
    generalize upd H8 p9 (.lst ((R.map V.str).drop tn))=H9 at N9 i9
    refine ⟨p8,p9,_,_,rfl,rfl,N9 _ _ i8,i9,small2 (by rw [List.length_append]; show _+1+_≤5000; omega),fun pa ha=>?_⟩
    rw [mmL]
    have N:=N7.trans (N8.trans (N9.trans (Same.new ha (.lst (((R.take tn++[z])++R.drop tn).map V.str)))))
    exact q pa _ _ upd_same ((F6.same (N7.trans (N8.trans N9))).ne ha) (insL Rm (Nat.le_refl _)) (insB (fun y hy=>up (Rb y hy)) zb) (F6.same N) (S4.trans ((SameBut.of N1).trans (B6.trans (SameBut.of N))))
  refine iteDF (fun z=>c4 (V.int.inj z)) ?_
  refine ⟨_,rfl,rfl,_,rfl,?_⟩
  by_cases c5:fm=5
  · refine iteD (congrArg V.int c5) ?_
    refine ⟨_,rfl,_,rfl,_,rfl,b,_,rfl,SqL.of e4,fun p1 h1=>?_⟩
    rw [cutV_tk]
    have N1:=Same.new h1 (.lst ((ls.map V.str).take tn))
    have i1:upd H4 p1 (.lst ((ls.map V.str).take tn)) p1=_:=upd_same
    have n1:=F4.ne h1
    generalize upd H4 p1 (.lst ((ls.map V.str).take tn))=H5 at N1 i1
    have F5:=F4.same N1
    have hb5:=N1 _ _ e4
    refine ⟨_,rfl,f,rfl,F5,fun z H6 zb0 F6 B6=>?_⟩
    have zb:Bd (2*l+13) (2*k+2) z:=zb0.mono (by omega) (by omega)
    refine ⟨(by show 1≤sizeLine; decide),fun p7 h7=>?_⟩
    have N7:=Same.new h7 (.lst [.str z])
    have i7:upd H6 p7 (.lst [.str z]) p7=_:=upd_same
    generalize upd H6 p7 (.lst [.str z])=H7 at N7 i7
    have i17:=N7 _ _ (B6 _ _ n1 i1)
    have e7:=N7 _ _ (B6 _ _ nb (N1 _ _ e4))
    have tl:((ls.map V.str).take tn).length≤100:=by rw [List.length_take,List.length_map]; omega
    have dl:((ls.map V.str).drop tn).length≤100:=by rw [List.length_drop,List.length_map]; omega
    refine ⟨p1,p7,_,_,rfl,rfl,i17,i7,small2 (by show _+1≤5000; omega),fun p8 h8=>?_⟩
    have N8:=Same.new h8 (.lst ((ls.map V.str).take tn++[V.str z]))
    have i8:upd H7 p8 (.lst ((ls.map V.str).take tn++[V.str z])) p8=_:=upd_same
    generalize upd H7 p8 (.lst ((ls.map V.str).take tn++[V.str z]))=H8 at N8 i8
    refine ⟨_,rfl,_,rfl,_,rfl,b,_,rfl,SqL.of (N8 _ _ e7),fun p9 h9=>?_⟩
    rw [cutV_dr]
    have N9:=Same.new h9 (.lst ((ls.map V.str).drop tn))
    have i9:upd H8 p9 (.lst ((ls.map V.str).drop tn)) p9=_:=upd_same
    generalize upd H8 p9 (.lst ((ls.map V.str).drop tn))=H9 at N9 i9
    refine ⟨p8,p9,_,_,rfl,rfl,N9 _ _ i8,i9,small2 (by rw [List.length_append]; show _+1+_≤5000; omega),fun pa ha=>?_⟩
    rw [mmL]
    have N:=N7.trans (N8.trans (N9.trans (Same.new ha (.lst (((ls.take tn++[z])++ls.drop tn).map V.str)))))
    exact q pa _ _ upd_same ((F6.same (N7.trans (N8.trans N9))).ne ha) (insL lm (Nat.le_refl _)) (insB (fun y hy=>up (lb y hy)) zb) (F6.same N) (S4.trans ((SameBut.of N1).trans (B6.trans (SameBut.of N))))
  refine iteDF (fun z=>c5 (V.int.inj z)) ?_
  refine ⟨_,rfl,rfl,_,rfl,?_⟩
  by_cases c6:fm=6
  · refine iteD (congrArg V.int c6) ?_
    refine ⟨_,rfl,_,rfl,_,rfl,b,_,_,_,rfl,rfl,SqL.of e4,hlast,(by show 1≤sizeLine; decide),fun p7 h7=>?_⟩
    have N7:=Same.new h7 (.lst [.str xl])
    have i7:upd H4 p7 (.lst [.str xl]) p7=_:=upd_same
    have n7:=F4.ne h7
    generalize upd H4 p7 (.lst [.str xl])=H7 at N7 i7
    refine ⟨_,rfl,f,2,rfl,F4.same N7,by decide,by decide,fun d H8 d0 d1 F8 B8=>?_⟩
    have e8:=B8 _ _ nb (N7 _ _ e4)
    have i8:=B8 _ _ n7 i7
    refine ⟨_,_,rfl,rfl,_,rfl,b,_,rfl,.inl (SqL.of e8),_,_,rfl,rfl,_,_,rfl,?_⟩
    rw [lml]
    generalize hk:(if (60+d - (ls.length:Int)) > 0 then 60+d - (ls.length:Int) else 0)=kk
    have k0:0≤kk∧kk.toNat+ls.length≤m+1:=by
      rw [← hk]
      split <;> omega
    have kl:kk.toNat≤100:=by omega
    refine ⟨p7,_,_,rfl,rfl,i8,by omega,by omega,small2 (by show 1*kk.toNat≤5000; omega),fun p8 h8=>?_⟩
    have er:(List.replicate kk.toNat [V.str xl]).flatten=(List.replicate kk.toNat xl).map V.str:=by
      rw [List.map_replicate]
      induction kk.toNat with
      | zero=>rfl
      | succ n ih=>rw [List.replicate_succ,List.flatten_cons,ih,List.replicate_succ]; rfl
    rw [er]
    have N8:=Same.new h8 (.lst ((List.replicate kk.toNat xl).map V.str))
    have i9:upd H8 p8 (.lst ((List.replicate kk.toNat xl).map V.str)) p8=_:=upd_same
    generalize upd H8 p8 (.lst ((List.replicate kk.toNat xl).map V.str))=H9 at N8 i9
    refine ⟨b,p8,_,_,rfl,rfl,N8 _ _ e8,i9,small2 (by rw [List.length_map,List.length_map,List.length_replicate]; omega),fun pa ha=>?_⟩
    rw [← List.map_append]
    have N:=N8.trans (Same.new ha (.lst ((ls++List.replicate kk.toNat xl).map V.str)))
    refine q pa _ _ upd_same ((F8.same N8).ne ha) (by rw [List.length_append,List.length_replicate]; omega) (fun y hy=>?_) (F8.same N) (S4.trans ((SameBut.of N7).trans (B8.trans (SameBut.of N))))
    rcases List.mem_append.mp hy with hy | hy
    · exact up (lb y hy)
    · rw [(List.mem_replicate.mp hy).2]
      exact up xlb
  refine iteDF (fun z=>c6 (V.int.inj z)) ?_
  refine ⟨_,rfl,_,rfl,_,rfl,b,_,rfl,SqL.of e4,fun p1 h1=>?_⟩
  rw [cutV_tk]
  have N1:=Same.new h1 (.lst ((ls.map V.str).take an))
  have i1:upd H4 p1 (.lst ((ls.map V.str).take an)) p1=_:=upd_same
  have n1:=F4.ne h1
  generalize upd H4 p1 (.lst ((ls.map V.str).take an))=H5 at N1 i1
  have F5:=F4.same N1
  have hb5:=N1 _ _ e4
  refine ⟨_,rfl,_,rfl,_,rfl,_,rfl,b,_,_,_,rfl,rfl,SqL.of hb5,hat,l,k,by omega,l7,f,b,ls,x,rfl,F5,hb5,nb,l1,by omega,lb,xb,fun z H6 zb F6 B6=>?_⟩
  refine ⟨(by show 1≤sizeLine; decide),fun p7 h7=>?_⟩
  have N7:=Same.new h7 (.lst [.str z])
  have i7:upd H6 p7 (.lst [.str z]) p7=_:=upd_same
  generalize upd H6 p7 (.lst [.str z])=H7 at N7 i7
  have i17:=N7 _ _ (B6 _ _ n1 i1)
  have e7:=N7 _ _ (B6 _ _ nb (N1 _ _ e4))
  have tl:((ls.map V.str).take an).length≤100:=by rw [List.length_take,List.length_map]; omega
  have dl:((ls.map V.str).drop (an+1)).length≤100:=by rw [List.length_drop,List.length_map]; omega
  refine ⟨p1,p7,_,_,rfl,rfl,i17,i7,small2 (by show _+1≤5000; omega),fun p8 h8=>?_⟩
  have N8:=Same.new h8 (.lst ((ls.map V.str).take an++[V.str z]))
  have i8:upd H7 p8 (.lst ((ls.map V.str).take an++[V.str z])) p8=_:=upd_same
  generalize upd H7 p8 (.lst ((ls.map V.str).take an++[V.str z]))=H8 at N8 i8
  refine ⟨_,rfl,_,rfl,_,_,rfl,rfl,_,rfl,b,_,rfl,SqL.of (N8 _ _ e7),fun p9 h9=>?_⟩
  have k1e:(an:Int)+1=((an+1:Nat):Int):=rfl
  rw [k1e,cutV_dr]
  have N9:=Same.new h9 (.lst ((ls.map V.str).drop (an+1)))
  have i9:upd H8 p9 (.lst ((ls.map V.str).drop (an+1))) p9=_:=upd_same
  generalize upd H8 p9 (.lst ((ls.map V.str).drop (an+1)))=H9 at N9 i9
  refine ⟨p8,p9,_,_,rfl,rfl,N9 _ _ i8,i9,small2 (by rw [List.length_append]; show _+1+_≤5000; omega),fun pa ha=>?_⟩
  rw [mmL]
  have N:=N7.trans (N8.trans (N9.trans (Same.new ha (.lst (((ls.take an++[z])++ls.drop (an+1)).map V.str)))))
  exact q pa _ _ upd_same ((F6.same (N7.trans (N8.trans N9))).ne ha) (insL lm (Nat.le_succ _)) (insB (fun y hy=>up (lb y hy)) zb) (F6.same N) (S4.trans ((SameBut.of N1).trans (B6.trans (SameBut.of N))))
theorem tm_cnt:∀ t:Tm,t.ok→t.txt.count 40≤t.size∧∀ c ∈ t.txt,10 < c
  | .num n,h=>by
    refine ⟨?_,fun c hc=>by have:=num_dig h.1 c hc; omega⟩
    show (cd (numT n)).count 40≤1
    rw [List.count_eq_zero.mpr fun hc=>by have:=num_dig h.1 40 hc; omega]
    exact Nat.zero_le _
  | .box x,h=>by
    refine ⟨?_,fun c hc=>by have:=h.1 c hc; omega⟩
    show (cd x).count 40≤1
    rw [List.count_eq_zero.mpr fun hc=>by have:=h.1 40 hc; omega]
    exact Nat.zero_le _
  | .plain w,h=>by
    have p:=(plain_ok w h).2.2.1
    refine ⟨?_,fun c hc=>by have:=p c hc; omega⟩
    show (cd w).count 40≤1
    rw [List.count_eq_zero.mpr fun hc=>by have:=p 40 hc; omega]
    exact Nat.zero_le _
  | .ask w a,⟨h,h1⟩=>by
    obtain ⟨e1,e2⟩:=tm_cnt a h1
    have p:=(ask_ok w h).2.2.1
    have z:(cd w).count 40=0:=List.count_eq_zero.mpr fun hc=>by have:=p 40 hc; omega
    refine ⟨?_,fun c hc=>?_⟩
    · show ([40]++(cd w++([32]++(a.txt++[41])))).count 40≤a.size+1
      simp only [List.count_append,z]
      show 1+(0+(0+(a.txt.count 40+0)))≤_
      omega
    · simp only [Tm.txt,List.mem_append,List.mem_singleton] at hc
      rcases hc with rfl | hc | rfl | hc | rfl
      · decide
      · have:=p c hc; omega
      · decide
      · exact e2 c hc
      · decide
  | .op o a b,⟨h,h1,h2⟩=>by
    obtain ⟨e1,e2⟩:=tm_cnt a h1
    obtain ⟨e3,e4⟩:=tm_cnt b h2
    have p:=(sign_ok o h).2.1
    have z:(cd o).count 40=0:=List.count_eq_zero.mpr fun hc=>by have:=p 40 hc; omega
    refine ⟨?_,fun c hc=>?_⟩
    · show ([40]++(cd o++([32]++(a.txt++([32]++(b.txt++[41])))))).count 40≤a.size+b.size+1
      simp only [List.count_append,z]
      show 1+(0+(0+(a.txt.count 40+(0+(b.txt.count 40+0)))))≤_
      omega
    · simp only [Tm.txt,List.mem_append,List.mem_singleton] at hc
      rcases hc with rfl | hc | rfl | hc | rfl | hc | rfl
      · decide
      · have:=p c hc; omega
      · decide
      · exact e2 c hc
      · decide
      · exact e4 c hc
      · decide
theorem hr_bd {r:Hr} (h:r.ok 9):Bd 142 12 r.str:=by
  have tm:∀ {t:Tm},t.fit 9→Bd 126 9 t.str:=fun {t} ⟨h1,h2,_⟩=>by
    have a:=t.str_len h1
    obtain ⟨b,c⟩:=tm_cnt t h1
    exact ⟨by omega,by show t.txt.count 40≤9; omega,c⟩
  have nm:∀ {x:Str},NmK x→Bd 6 0 x:=fun {x} h=>⟨h.2.2.1,Nat.le_of_eq (List.count_eq_zero.mpr fun hc=>by have:=h.1 40 hc; omega),fun c hc=>by have:=h.1 c hc; omega⟩
  have nu:∀ {n:Int},0≤n→n < 1000000000000→Bd 12 0 (numT n):=fun {n} h0 h1=>⟨num_len h0 h1,Nat.le_of_eq (List.count_eq_zero.mpr fun hc=>by have:=num_dig h0 40 hc; omega),fun c hc=>by have:=num_dig h0 c hc; omega⟩
  have wd:Bd 3 0 "end" ∧ Bd 2 0 "go" ∧ Bd 2 0 "if" ∧ Bd 3 0 "set" ∧ Bd 3 0 "say" := by
    refine ⟨?_,?_,?_,?_,?_⟩ <;> exact ⟨by decide +kernel,by decide +kernel,by decide +kernel⟩
  have c2:∀ {a b:Str} {l k l' k':Nat},Bd l k a→Bd l' k' b→l+l'+1≤142→k+k'≤12→Bd 142 12 (Txt.join (" " : Str) [a,b]):=fun {a b l k l' k'} h g e1 e2=>by
    refine BdW.join ⟨?_,?_,fun z hz=>?_⟩
    · have:=h.1; have:=g.1
      show (a.length+1)+((b.length+1)+0)≤_
      omega
    · have:=h.2.1; have:=g.2.1
      show (cd a).count 40+((cd b).count 40+0)≤_
      omega
    · simp only [List.mem_cons,List.not_mem_nil,or_false] at hz
      rcases hz with rfl | rfl
      · exact h.2.2
      · exact g.2.2
  have c3:∀ {a b c:Str} {l k l' k' l2 k2:Nat},Bd l k a→Bd l' k' b→Bd l2 k2 c→l+l'+l2+2≤142→k+k'+k2≤12→Bd 142 12 (Txt.join (" " : Str) [a,b,c]):=fun {a b c l k l' k' l2 k2} h g f e1 e2=>by
    refine BdW.join ⟨?_,?_,fun z hz=>?_⟩
    · have:=h.1; have:=g.1; have:=f.1
      show (a.length+1)+((b.length+1)+((c.length+1)+0))≤_
      omega
    · have:=h.2.1; have:=g.2.1; have:=f.2.1
      show (cd a).count 40+((cd b).count 40+((cd c).count 40+0))≤_
      omega
    · simp only [List.mem_cons,List.not_mem_nil,or_false] at hz
      rcases hz with rfl | rfl | rfl
      · exact h.2.2
      · exact g.2.2
      · exact f.2.2
  cases r with
  | fin=>rw [str_fin]; exact wd.1.mono (by decide) (by decide)
  | go n=>exact c2 wd.2.1 (nu h.1 h.2) (by decide) (by decide)
  | iff t n=>exact c3 wd.2.2.1 (tm h.1) (nu h.2.1 h.2.2) (by decide) (by decide)
  | set x t=>exact c3 wd.2.2.2.1 (nm h.1) (tm h.2) (by decide) (by decide)
  | say t=>exact c2 wd.2.2.2.2 (tm h) (by decide) (by decide)
theorem Hr.ok_up {r:Hr} (h:r.ok 9):r.ok 20:=by
  have t2:∀ {t:Tm},t.fit 9→t.fit 20:=fun h=>⟨h.1,Nat.le_trans h.2.1 (by decide),h.2.2⟩
  cases r with
  | fin=>trivial
  | go n=>exact h
  | iff t n=>exact ⟨t2 h.1,h.2⟩
  | set x t=>exact ⟨h.1,t2 h.2⟩
  | say t=>exact t2 h
def LST:Str := "qxzjb"
theorem lst_ok:∀ c ∈ LST.cps.toList,97≤c∧c≤122:=by decide +kernel
theorem lst_len:LST.cps.toList.length=5:=by decide +kernel
theorem lst_not:∀ x ∈ kept,∀ c ∈ LST.cps.toList,x.cps.toList.getLast? ≠ some c:=by decide +kernel
theorem new_name {x:Str} {c:Nat} (h:NmK x) (hc:c ∈ LST.cps.toList):NmK (Txt.slice x none (some 5)++⟨#[c]⟩):=by
  have zl:((⟨#[c]⟩:Str)).length=1:=rfl
  have e5:(Txt.slice x none (some 5)).length≤5:=by
    by_cases c5:(5:Int)≤(x.cps.toList.length:Int)
    · have es:Txt.slice x none (some 5)=⟨((x.cps.toList.drop 0).take ((5:Int) - 0).toNat).toArray⟩:=StrLaws.sliceText_to ⟨by decide,c5⟩
      rw [es]
      show (List.toArray _).size≤5
      simp only [List.size_toArray,List.length_take]
      omega
    · have:=Txt.slice_le x none (some 5)
      have:=cd_len x
      unfold cd at this
      omega
  refine ⟨fun d hd=>?_,by rw [Str.length_append,zl]; omega,by rw [Str.length_append,zl]; omega,fun hk=>?_⟩
  · rcases List.mem_append.mp (show d ∈ cd (Txt.slice x none (some 5))++cd (⟨#[c]⟩:Str) from by rw [← cd_append]; exact hd) with h' | h'
    · exact h.1 d ((slice_sub x none (some 5)).subset h')
    · have:d=c:=List.mem_singleton.mp (show d ∈ [c] from h')
      rw [this]
      exact lst_ok c hc
  · refine lst_not _ hk c hc ?_
    rw [Str.cps_append]
    simp
def lI:Nat→Nat | 0=>142 | 1=>297 | 2=>607 | _=>1227
def kI:Nat→Nat | 0=>12 | 1=>26 | 2=>54 | _=>110
inductive tL32 (K:PySem.W.Frag) (D:Ends) (σ:St) (H:Hp):Prop where
  | mk:∀ (a b f:Addr) (ns:List Int) (bs:List Str),(σ=[some (.ref a),some (.ref f),some (.ref b),none,none,none,none])→(SqL K H a (ns.map V.int))→(ns.length≤63)→(H b=some (.lst (bs.map V.str)))→(Boxes bs)→(∀ H',D.rt (.bl true) H')→tL32 K D σ H
theorem sc_law:FnScope ["_law_script", "_law_feed_here", "_law_boxes", "_law_many", "_law_lines", "_law_spoilt_here", "_law_k"] ["_law_script"] (defScope s_law):=⟨rfl,rfl,rfl,by decide +kernel,rfl,by decide +kernel,by decide +kernel⟩
theorem ok_law {f:Addr} {fd:FuncData} (F:Fun K "law" "law" s_law f fd) (B:Bl mg) (C_l_feed:Cal P w K mg base 1 "_law_feed" ["_law_script", "_law_k"] (spFeed K)) (C_l_take:Cal P w K mg base 1 "_law_take" ["_law_feed_here", "_law_many"] spTake) (C_l_name:Cal P w K mg base 2 "_law_name" ["_law_feed_here"] spName) (C_l_any_row:Cal P w K mg base 12 "_law_any_row" ["_law_feed_here", "_law_boxes", "_law_room"] spRow) (C_l_line:Cal P w K mg base 10 "_law_line" ["_law_row"] spRT) (C_l_spoilt:Cal P w K mg base 5 "_law_spoilt" ["_law_feed_here", "_law_lines"] spSplA) (C_l_right:Cal P w K mg base 117 "_law_right" ["_law_lines"] (spRight 111)):LawOk P w K mg base CX0 118 f fd ["_law_script"] (spLaw K):=by
  refine F.ok0 (k:=117) sc_law (fun vs H Q E h=>?_) (fun cdv A outer s H vs Q E hr h=>?_)
  · obtain ⟨a,ns,rfl,_⟩:=h
    rfl
  obtain ⟨a,ns,rfl,hS,h63,q⟩:=h
  obtain ⟨ff,ffd,FF,bF,kF,mF⟩:=C_l_feed.ex
  refine ⟨_,(pss0_call (i:=0) (j:=1) FF (hr.mono (by decide)) rfl mF kF bF pass0 sc_law.nd rfl (Or.inl rfl) rfl (Or.inr rfl)
      (PSs.nox (pss_cons (ps_set (i:=2) sc_law.nd rfl (Or.inr rfl) (pe_comp (N:=["_law_feed_here"]) (ix:=[1]) rfl
        (CompScope.one (by with_unfolding_all rfl) (by decide) rfl (by decide) rfl (by decide +kernel) (by with_unfolding_all rfl) (by with_unfolding_all rfl) (by with_unfolding_all rfl) rfl rfl) rfl
        (pi_range1 rfl B.range (pa_cons pe_int pa_nil))
        (fun _ _ _=>pb_all (pe_cal C_l_name hr (by decide) rfl (pa_cons (pv 1) pa_nil)))))
      (pss_cons (ps_if (pt_cmpR op_eq (pe_cal C_l_take hr (by decide) rfl (pa_cons (pv 1) (pa_cons pe_int pa_nil))) pe_int (nomark _)) (pss_one (ps_asg (pe_op op_add_str (pe_slice sl_str (pe_ix ix_list (pv 2) pe_int (fun _ _=>rfl)) po_none (po_some pe_int)) (pe_ix ix_str pe_str (pe_cal C_l_take hr (by decide) rfl (pa_cons (pv 1) (pa_cons pe_int pa_nil))) (fun _ _=>rfl))) (pg_sub (pv 2) pe_int set_list))) pss_nil)
      (cut32 (t':=tL32 K) (pss_cons (ps_set (i:=1) sc_law.nd rfl (Or.inr rfl) (pe_cal C_l_feed hr (by decide) rfl (pa_cons (pv 0) (pa_cons pe_int pa_nil))))
      (pss_cons (ps_set (i:=3) sc_law.nd rfl (Or.inl rfl) (pe_ix ix_list (pe_lst (pa_cons (pe_cal C_l_take hr (by decide) rfl (pa_cons (pv 1) (pa_cons pe_int pa_nil))) (pa_cons (pe_cal C_l_take hr (by decide) rfl (pa_cons (pv 1) (pa_cons pe_int pa_nil))) pa_nil))) (pe_op op_fdiv (pe_cal C_l_take hr (by decide) rfl (pa_cons (pv 1) (pa_cons pe_int pa_nil))) pe_int) (fun _ _=>rfl)))
      (pss_cons (ps_comp (i:=4) (N:=["_law_feed_here", "_law_boxes"]) (ix:=[1,2]) sc_law.nd rfl (Or.inl rfl) rfl
          (CompScope.two (by with_unfolding_all rfl) (by decide) rfl (by decide) rfl (by decide +kernel) (by first | exact Or.inl rfl | exact Or.inr rfl) (by with_unfolding_all rfl) (by with_unfolding_all rfl) (by with_unfolding_all rfl) (by with_unfolding_all rfl) rfl rfl (by with_unfolding_all rfl) rfl rfl) rfl
          (pi_range1 rfl B.range (pa_cons (pv 3) pa_nil))
          (fun _ _ _=>pb_all (pe_cal C_l_line hr (by decide) rfl (pa_cons (pe_cal C_l_any_row hr (by decide) rfl (pa_cons (pv 1) (pa_cons (pv 2) (pa_cons pe_int pa_nil)))) pa_nil))))
      (pss_cons (ps_set (i:=1) sc_law.nd rfl (Or.inr rfl) (pe_cal C_l_feed hr (by decide) rfl (pa_cons (pv 0) (pa_cons pe_int pa_nil))))
      (pss_cons (ps_set (i:=5) sc_law.nd rfl (Or.inl rfl) (pv 4))
      (pss_cons (ps_for PassesOwn.never rfl (pi_range1 rfl B.range (pa_cons (pe_cal C_l_take hr (by decide) rfl (pa_cons (pv 1) (pa_cons pe_int pa_nil))) pa_nil)) (pg_name (i:=6) sc_law.nd rfl (Or.inl rfl)) (pss_one (ps_set (i:=5) sc_law.nd rfl (Or.inl rfl) (pe_cal C_l_spoilt hr (by decide) rfl (pa_cons (pv 1) (pa_cons (pv 5) pa_nil))))))
      (pss_one (ps_ret (pe_and (pe_cal C_l_right hr (by decide) rfl (pa_cons (pv 5) pa_nil)) (pe_and (pe_cal C_l_right hr (by decide) rfl (pa_cons (pv 4) pa_nil)) (pe_and (pe_cal C_l_right hr (by decide) rfl (pa_cons (pe_op op_cat (pv 4) (pe_lst (pa_cons pe_str pa_nil))) pa_nil)) (pe_one (pe_cal C_l_right hr (by decide) rfl (pa_cons (pv 5) pa_nil)))))))))))))) ?_))))),?_⟩
  rotate_left
  · refine ⟨_,rfl,a,ns,1,rfl,hS,h63,by decide,by decide,fun f0 H1 f00 s1 F1=>?_⟩
    refine ⟨5,rfl,by decide,by decide,fun D hD=>?_⟩
    have Df:=F1.ne hD
    refine comp_range (n:=5) (fun i H'=>∃ bs:List Str,H' D=some (.lst (bs.map V.str))∧bs.length=i∧(∀ x ∈ bs,NmK x)∧FeedAt H' f0∧SameBut f0 H1 H') ⟨[],by rw [upd_same]; rfl,rfl,(fun x hx=>by cases hx),F1.same (Same.new hD _),SameBut.of (Same.new hD _)⟩ ?_ ?_
    · rintro i H2 hi ⟨bs,hD2,bl,bk,F2,B2⟩
      refine ⟨_,rfl,f0,rfl,F2,fun x H3 xk F3 B3=>?_⟩
      have hD3:=B3 _ _ Df hD2
      refine ⟨_,hD3,small1000 (by rw [List.length_map]; omega),Nx.of hi ⟨bs++[x],?_,?_,?_,feed_upd F3 Df,fun c o hc e=>?_⟩⟩
      · rw [upd_same,List.map_append]
        rfl
      · rw [List.length_append,List.length_singleton,bl]
      · intro y hy
        rcases List.mem_append.mp hy with h | h
        · exact bk y h
        · rw [List.mem_singleton.mp h]
          exact xk
      · rw [upd_ne (ne_of_none e hD)]
        exact B3 c o hc (B2 c o hc e)
    rintro H2 ⟨bs,hD2,bl,bk,F2,B2⟩
    have S2:Same H H2:=fun b o e=>B2 b o (ne_of_none e f00) (s1 b o e)
    have D0:H D=none:=s1.free hD
    refine ⟨_,rfl,f0,2,rfl,F2,by decide,by decide,fun d1 H3 a0 a1 F3 B3=>?_⟩
    have hD3:=B3 _ _ Df hD2
    have S3:Same H H3:=fun b o e=>B3 b o (ne_of_none e f00) (S2 b o e)
    refine ⟨rfl,_,rfl,?_⟩
    refine ite2 (fun _=>?_) (fun _=>?_)
    · obtain ⟨b0,b1,bs',rfl⟩:∃ b0 b1 bs',bs=b0::b1::bs':=by
        match bs,bl with
        | b0::b1::bs',_=>exact ⟨b0,b1,bs',rfl⟩
      have nb0:=bk b0 List.mem_cons_self
      refine ⟨_,rfl,D,_,0,.str b0,rfl,rfl,SqL.of hD3,at0 ..,5,rfl,b0,rfl,small (by have:=nb0.2.2.1; omega),?_⟩
      refine ⟨_,rfl,f0,5,rfl,F3,by decide,by decide,fun d2 H3' c0 c1 F3' B3'=>?_⟩
      obtain ⟨c,hc,hm⟩:=at_in (l:=LST.cps.toList) (i:=d2) c0 (by rw [lst_len]; exact c1)
      have hD3':=B3' _ _ Df hD3
      have sl5:(Txt.slice b0 none (some 5)).length≤b0.length:=Txt.slice_le b0 none (some 5)
      refine ⟨_,_,c,rfl,rfl,small (by decide +kernel),hc,_,_,rfl,rfl,small (by have:=nb0.2.2.1; show _+1≤_; omega),?_⟩
      have ix1:ixN (List.map V.str (b0::b1::bs')).length 1=some 1:=by
        unfold ixN
        rw [if_pos (by decide),if_pos (by rw [List.length_map,List.length_cons,List.length_cons]; omega)]
        rfl
      refine ⟨_,rfl,D,_,1,1,rfl,rfl,hD3',ix1,?_⟩
      have S4:Same H (upd H3' D (.lst ((((b0::b1::bs').map V.str)).set 1 (.str (Txt.slice b0 none (some 5)++⟨#[c]⟩))))):=fun b o e=>by
        rw [upd_ne (ne_of_none e D0)]
        exact B3' b o (ne_of_none e f00) (S3 b o e)
      refine ⟨a,D,f0,ns,b0::(Txt.slice b0 none (some 5)++⟨#[c]⟩)::bs',rfl,S4.seq hS,h63,upd_same,⟨?_,?_,fun x hx=>?_⟩,q⟩
      · simp
      · rw [List.length_cons,List.length_cons] at bl ⊢
        omega
      · rcases List.mem_cons.mp hx with rfl | hx
        · exact nb0
        rcases List.mem_cons.mp hx with rfl | hx
        · exact new_name nb0 hm
        · exact bk x (List.mem_cons_of_mem _ (List.mem_cons_of_mem _ hx))
    · exact ⟨a,D,f0,ns,bs,rfl,S3.seq hS,h63,hD3,⟨by omega,by omega,bk⟩,q⟩
  clear q hS h63 ns a
  rintro De σ H0 ⟨a,b,f0,ns,bs,rfl,hS,h63,hb,bx,q⟩
  refine ⟨_,rfl,a,ns,2,rfl,hS,h63,by decide,by decide,fun f2 H1 f20 s1 F1=>?_⟩
  have b2:b ≠ f2:=ne_of_none hb f20
  refine ⟨_,rfl,f2,9,rfl,F1,by decide,by decide,fun m1 H2 a0 a1 F2 B2=>?_⟩
  refine ⟨_,rfl,f2,61,rfl,F2,by decide,by decide,fun m2 H3 c0 c1 F3 B3=>?_⟩
  refine ⟨(by show 2≤sizeLine; decide),fun L hL=>?_⟩
  have NL:=Same.new hL (.lst [.int m1,.int m2])
  have eL:upd H3 L (.lst [.int m1,.int m2]) L=_:=upd_same
  have L2:=F3.ne hL
  generalize upd H3 L (.lst [.int m1,.int m2])=H4 at NL eL
  have F4:=F3.same NL
  refine ⟨_,rfl,f2,8,rfl,F4,by decide,by decide,fun d H5 d0 d1 F5 B5=>⟨_,_,rfl,rfl,⟨by decide,by decide⟩,?_⟩⟩
  obtain ⟨mm,hmm,mm0,mm61⟩:∃ mm:Int,atI [V.int m1,V.int m2] (d / 7)=some (.int mm)∧0≤mm∧mm < 61:=by
    obtain h | h:d / 7=0∨d / 7=1:=by omega
    · rw [h]; exact ⟨m1,at0 _ _,a0,by omega⟩
    · rw [h]; exact ⟨m2,at1 _ _ _,c0,c1⟩
  refine ⟨L,_,_,_,rfl,rfl,SqL.of (B5 _ _ L2 eL),hmm,?_⟩
  have S5:SameBut f2 H1 H5:=B2.trans (B3.trans ((SameBut.of NL).trans B5))
  have hb5:=S5 _ _ b2 (s1 _ _ hb)
  refine ⟨_,rfl,_,rfl,by omega,by omega,fun D hD=>?_⟩
  have Df:=F5.ne hD
  refine comp_range (n:=mm.toNat) (fun i H'=>∃ zs:List Str,H' D=some (.lst (zs.map V.str))∧zs.length=i∧(∀ x ∈ zs,Bd 142 12 x)∧FeedAt H' f2∧SameBut f2 H5 H') ⟨[],by rw [upd_same]; rfl,rfl,(fun x hx=>by cases hx),F5.same (Same.new hD _),SameBut.of (Same.new hD _)⟩ ?_ ?_
  · rintro i H6 hi ⟨zs,hD6,zl,zb,F6,B6⟩
    refine ⟨_,rfl,_,rfl,f2,b,bs,9,rfl,F6,B6 _ _ b2 hb5,b2,bx,by decide,by decide,fun v r H7 hr7 ok7 F7 B7=>?_⟩
    refine ⟨v,r,rfl,hr7,Hr.ok_up ok7,fun H8 S8=>?_⟩
    have hD8:=S8 _ _ (B7 _ _ Df hD6)
    refine ⟨_,hD8,small1000 (by rw [List.length_map]; omega),Nx.of hi ⟨zs++[r.str],?_,?_,?_,feed_upd (F7.same S8) Df,fun c o hc e=>?_⟩⟩
    · rw [upd_same,List.map_append]
      rfl
    · rw [List.length_append,List.length_singleton,zl]
    · intro y hy
      rcases List.mem_append.mp hy with h | h
      · exact zb y h
      · rw [List.mem_singleton.mp h]
        exact hr_bd ok7
    · rw [upd_ne (ne_of_none e hD)]
      exact S8 _ _ (B7 c o hc (B6 c o hc e))
  rintro H6 ⟨zs,hD6,zl,zb,F6,B6⟩
  have S6:Same H0 H6:=fun c o e=>B6 c o (ne_of_none e f20) (S5 c o (ne_of_none e f20) (s1 c o e))
  refine ⟨_,rfl,a,ns,3,rfl,S6.seq hS,h63,by decide,by decide,fun f3 H7 f30 s7 F7=>?_⟩
  have D3:D ≠ f3:=ne_of_none hD6 f30
  have hD7:=s7 _ _ hD6
  refine ⟨_,rfl,?_⟩
  refine ⟨_,rfl,f3,4,rfl,F7,by decide,by decide,fun n H8 n0 n4 F8 B8=>?_⟩
  have hD8:=B8 _ _ D3 hD7
  have z60:zs.length≤60:=by omega
  refine ⟨n,rfl,by omega,by omega,?_⟩
  refine for_range (n:=n.toNat) (fun i σ H'=>∃ (c:Addr) (ys:List Str) (x6:Option V),σ=[some (.ref a),some (.ref f3),some (.ref b),some (.int mm),some (.ref D),some (.ref c),x6]∧H' c=some (.lst (ys.map V.str))∧c ≠ f3∧ys.length≤60+i∧(∀ y ∈ ys,Bd (lI i) (kI i) y)∧H' D=some (.lst (zs.map V.str))∧FeedAt H' f3) ⟨D,zs,_,rfl,hD8,D3,z60,zb,hD8,F8⟩ ?_ ?_
  · rintro i σ H9 hi ⟨c,ys,x6,rfl,hc,cf,yl,yb,hD9,F9⟩
    have i3:i=0∨i=1∨i=2:=by omega
    refine ⟨_,rfl,_,rfl,lI i,kI i,60+i,?_,?_,?_,by omega,by omega,f3,c,ys,rfl,F9,hc,cf,yl,yb,fun c2 xs H10 hc2 cf2 xl xb F10 S10=>?_⟩
    · rcases i3 with rfl | rfl | rfl <;> decide
    · rcases i3 with rfl | rfl | rfl <;> decide
    · rcases i3 with rfl | rfl | rfl <;> decide
    refine ⟨c2,xs,_,rfl,hc2,cf2,by omega,fun y hy=>(xb y hy).mono ?_ ?_,S10 _ _ D3 hD9,F10⟩
    · rcases i3 with rfl | rfl | rfl <;> decide
    · rcases i3 with rfl | rfl | rfl <;> decide
  rintro σ H9 ⟨c,ys,x6,rfl,hc,cf,yl,yb,hD9,F9⟩
  have ln:∀ {l k:Nat} {xs:List Str},xs.length≤70→(∀ y ∈ xs,Bd l k y)→l≤1300→k < 111→Lns 111 xs:=fun h1 h2 h3 h4=>⟨h1,fun x hx=>⟨Nat.le_trans (h2 x hx).1 h3,Nat.lt_of_le_of_lt (h2 x hx).2.1 h4,(h2 x hx).2.2⟩⟩
  have i3:n.toNat=0∨n.toNat=1∨n.toNat=2∨n.toNat=3:=by omega
  have ly:Lns 111 ys:=ln (by omega) yb (by rcases i3 with h | h | h | h <;> rw [h] <;> decide) (by rcases i3 with h | h | h | h <;> rw [h] <;> decide)
  have lz:Lns 111 zs:=ln (by omega) zb (by decide) (by decide)
  have lz2:Lns 111 (zs++[("" : Str)]):=ln (l:=142) (k:=12) (by rw [List.length_append]; show _+1≤70; omega) (fun y hy=>by
    rcases List.mem_append.mp hy with hy | hy
    · exact zb y hy
    · rw [List.mem_singleton.mp hy]; exact bd_lit.2.2.2.1.mono (Nat.zero_le _) (Nat.zero_le _)) (by decide) (by decide)
  refine ⟨_,rfl,c,ys,rfl,hc,ly,fun H10 S10=>?_⟩
  refine ⟨_,rfl,iteT ?_⟩
  refine ⟨_,rfl,D,zs,rfl,S10 _ _ hD9,lz,fun H11 S11=>?_⟩
  refine ⟨_,rfl,iteT ?_⟩
  have S911:=S10.trans S11
  refine ⟨_,rfl,(by show 1≤sizeLine; decide),fun p1 h1=>?_⟩
  have N1:=Same.new h1 (.lst [.str ""])
  refine ⟨D,p1,_,_,rfl,rfl,N1 _ _ (S911 _ _ hD9),upd_same,(by rw [List.length_map]; exact Nat.le_trans (by show zs.length+1≤100; omega) (by decide)),fun p2 h2=>?_⟩
  have N:=N1.trans (Same.new h2 (.lst (zs.map V.str++[.str ""])))
  refine ⟨p2,zs++[("" : Str)],rfl,by rw [upd_same,List.map_append]; rfl,lz2,fun H12 S12=>?_⟩
  refine ⟨_,rfl,iteT ?_⟩
  have S912:=S911.trans (N.trans S12)
  exact ⟨_,rfl,c,ys,rfl,S912 _ _ hc,ly,fun H13 S13=>q H13⟩
theorem kept_vals {a b c d e f g h i j k l:Tok}:Vals (kept.map V.str) [.str "yes" (a+1),.str "no" (b+1),.str "not" (c+1),.str "and" (d+1),.str "or" (e+1),.str "odd" (f+1),.str "same" (g+1),.str "round" (h+1),.str "due" (i+1),.str "asked" (j+1),.str "true" (k+1),.str "coin" (l+1)] :=
  .cons ⟨_,rfl⟩ (.cons ⟨_,rfl⟩ (.cons ⟨_,rfl⟩ (.cons ⟨_,rfl⟩ (.cons ⟨_,rfl⟩ (.cons ⟨_,rfl⟩ (.cons ⟨_,rfl⟩ (.cons ⟨_,rfl⟩ (.cons ⟨_,rfl⟩ (.cons ⟨_,rfl⟩ (.cons ⟨_,rfl⟩ (.cons ⟨_,rfl⟩ .nil)))))))))))
theorem sign_vals {a b c d e f:Tok}:Vals (signW.map V.str) [.str "+" (a+1),.str "-" (b+1),.str "*" (c+1),.str "/" (d+1),.str "=" (e+1),.str "<" (f+1)] :=
  .cons ⟨_,rfl⟩ (.cons ⟨_,rfl⟩ (.cons ⟨_,rfl⟩ (.cons ⟨_,rfl⟩ (.cons ⟨_,rfl⟩ (.cons ⟨_,rfl⟩ .nil)))))
theorem ask_vals {a b:Tok}:Vals (askW.map V.str) [.str "coin" (a+1),.str "true" (b+1)]:=.cons ⟨_,rfl⟩ (.cons ⟨_,rfl⟩ .nil)
theorem plain_vals {a b c:Tok}:Vals (plainW.map V.str) [.str "round" (a+1),.str "due" (b+1),.str "asked" (c+1)]:=.cons ⟨_,rfl⟩ (.cons ⟨_,rfl⟩ (.cons ⟨_,rfl⟩ .nil))
theorem clsfc {K:PySem.W.Frag} {C g:Addr} {m:Str} (h:PySem.W.findCls K (.ref C) (.type "type") m=some (.val (.ref g))):(match PySem.W.findCls K (.ref C) (.type "type") m with | some (.val v)=>some v | _=>none)=some (.ref g):=by
  rw [h]
end
theorem all_mk {l:PySem.W.OpenLaw} {w:World} {K:PySem.W.Frag} {h:Heap} {mg:Str→Option Value} {fa f0 f1 f2 f3 f4 f5 f6 f7 f8 f9 f10 f11 f12 f13 f14 f15 f16 f17 f18 f19 f20 f21 f22 f23 f24 f25 f26 f27 f28 f29 f30 f31 f32 f33 f34 f35 f36:Addr} (X:K.In h) (G:h.Ns mainGlobals mg) (hfa:mg "law" = some (.ref fa))
    {od0 an0 od1 an1 od2 an2 od3 an3 od4 an4 od5 an5 od6 an6 od7 an7 od8 an8 od9 an9 od10 an10 od11 an11 od12 an12 od13 an13 od14 an14 od15 an15 od16 an16 od17 an17 od18 an18 od19 an19 od20 an20 od21 an21 od22 an22 od23 an23 od24 an24 od25 an25 od26 an26 od27 an27 od28 an28 od29 an29 od30 an30 od31 an31 od32 an32 od33 an33 od34 an34 od35 an35 od36 an36:Option Addr} {sl0 sl1 sl2 sl3 sl4 sl5 sl6 sl7 sl8 sl9 sl10 sl11 sl12 sl13 sl14 sl15 sl16 sl17 sl18 sl19 sl20 sl21 sl22 sl23 sl24 sl25 sl26 sl27 sl28 sl29 sl30 sl31 sl32 sl33 sl34 sl35 sl36:Array (Option Value)} {oc0 kV0 dc0 pm0 cd0 ct0 oc1 kV1 dc1 pm1 cd1 ct1 oc2 kV2 dc2 pm2 cd2 ct2 oc3 kV3 dc3 pm3 cd3 ct3 oc4 kV4 dc4 pm4 cd4 ct4 oc5 kV5 dc5 pm5 cd5 ct5 oc6 kV6 dc6 pm6 cd6 ct6 oc7 kV7 dc7 pm7 cd7 ct7 oc8 kV8 dc8 pm8 cd8 ct8 oc9 kV9 dc9 pm9 cd9 ct9 oc10 kV10 dc10 pm10 cd10 ct10 oc11 kV11 dc11 pm11 cd11 ct11 oc12 kV12 dc12 pm12 cd12 ct12 oc13 kV13 dc13 pm13 cd13 ct13 oc14 kV14 dc14 pm14 cd14 ct14 oc15 kV15 dc15 pm15 cd15 ct15 oc16 kV16 dc16 pm16 cd16 ct16 oc17 kV17 dc17 pm17 cd17 ct17 oc18 kV18 dc18 pm18 cd18 ct18 oc19 kV19 dc19 pm19 cd19 ct19 oc20 kV20 dc20 pm20 cd20 ct20 oc21 kV21 dc21 pm21 cd21 ct21 oc22 kV22 dc22 pm22 cd22 ct22 oc23 kV23 dc23 pm23 cd23 ct23 oc24 kV24 dc24 pm24 cd24 ct24 oc25 kV25 dc25 pm25 cd25 ct25 oc26 kV26 dc26 pm26 cd26 ct26 oc27 kV27 dc27 pm27 cd27 ct27 oc28 kV28 dc28 pm28 cd28 ct28 oc29 kV29 dc29 pm29 cd29 ct29 oc30 kV30 dc30 pm30 cd30 ct30 oc31 kV31 dc31 pm31 cd31 ct31 oc32 kV32 dc32 pm32 cd32 ct32 oc33 kV33 dc33 pm33 cd33 ct33 oc34 kV34 dc34 pm34 cd34 ct34 oc35 kV35 dc35 pm35 cd35 ct35 oc36 kV36 dc36 pm36 cd36 ct36:Value}
    (a0:PySem.W.nsIn K mainGlobals "is_name" = some (some (.ref f0))) (l0:K.lookup f0=some ⟨oc0,od0,.func (PySem.W.fnOf "is_name" "is_name" (defArgs s_is_name) (defBody s_is_name) (defScope s_is_name) .none kV0 dc0 pm0 an0 cd0 ct0),sl0⟩) (c0:PySem.W.codeIn K cd0 "is_name" = true) (k0:PySem.W.keepIn K (.ref f0)=true)
    (a1:PySem.W.nsIn K mainGlobals "is_figures" = some (some (.ref f1))) (l1:K.lookup f1=some ⟨oc1,od1,.func (PySem.W.fnOf "is_figures" "is_figures" (defArgs s_is_figures) (defBody s_is_figures) (defScope s_is_figures) .none kV1 dc1 pm1 an1 cd1 ct1),sl1⟩) (c1:PySem.W.codeIn K cd1 "is_figures" = true) (k1:PySem.W.keepIn K (.ref f1)=true)
    (a2:PySem.W.nsIn K mainGlobals "read_helper" = some (some (.ref f2))) (l2:K.lookup f2=some ⟨oc2,od2,.func (PySem.W.fnOf "read_helper" "read_helper" (defArgs s_read_helper) (defBody s_read_helper) (defScope s_read_helper) .none kV2 dc2 pm2 an2 cd2 ct2),sl2⟩) (c2:PySem.W.codeIn K cd2 "read_helper" = true) (k2:PySem.W.keepIn K (.ref f2)=true)
    (a3:PySem.W.nsIn K mainGlobals "helper_row" = some (some (.ref f3))) (l3:K.lookup f3=some ⟨oc3,od3,.func (PySem.W.fnOf "helper_row" "helper_row" (defArgs s_helper_row) (defBody s_helper_row) (defScope s_helper_row) .none kV3 dc3 pm3 an3 cd3 ct3),sl3⟩) (c3:PySem.W.codeIn K cd3 "helper_row" = true) (k3:PySem.W.keepIn K (.ref f3)=true)
    (a4:PySem.W.nsIn K mainGlobals "next_name" = some (some (.ref f4))) (l4:K.lookup f4=some ⟨oc4,od4,.func (PySem.W.fnOf "next_name" "next_name" (defArgs s_next_name) (defBody s_next_name) (defScope s_next_name) .none kV4 dc4 pm4 an4 cd4 ct4),sl4⟩) (c4:PySem.W.codeIn K cd4 "next_name" = true) (k4:PySem.W.keepIn K (.ref f4)=true)
    (a5:PySem.W.nsIn K mainGlobals "next_figures" = some (some (.ref f5))) (l5:K.lookup f5=some ⟨oc5,od5,.func (PySem.W.fnOf "next_figures" "next_figures" (defArgs s_next_figures) (defBody s_next_figures) (defScope s_next_figures) .none kV5 dc5 pm5 an5 cd5 ct5),sl5⟩) (c5:PySem.W.codeIn K cd5 "next_figures" = true) (k5:PySem.W.keepIn K (.ref f5)=true)
    (a6:PySem.W.nsIn K mainGlobals "next_term" = some (some (.ref f6))) (l6:K.lookup f6=some ⟨oc6,od6,.func (PySem.W.fnOf "next_term" "next_term" (defArgs s_next_term) (defBody s_next_term) (defScope s_next_term) .none kV6 dc6 pm6 an6 cd6 ct6),sl6⟩) (c6:PySem.W.codeIn K cd6 "next_term" = true) (k6:PySem.W.keepIn K (.ref f6)=true)
    (a7:PySem.W.nsIn K mainGlobals "term_in_bracket" = some (some (.ref f7))) (l7:K.lookup f7=some ⟨oc7,od7,.func (PySem.W.fnOf "term_in_bracket" "term_in_bracket" (defArgs s_term_in_bracket) (defBody s_term_in_bracket) (defScope s_term_in_bracket) .none kV7 dc7 pm7 an7 cd7 ct7),sl7⟩) (c7:PySem.W.codeIn K cd7 "term_in_bracket" = true) (k7:PySem.W.keepIn K (.ref f7)=true)
    (a8:PySem.W.nsIn K mainGlobals "helper_text" = some (some (.ref f8))) (l8:K.lookup f8=some ⟨oc8,od8,.func (PySem.W.fnOf "helper_text" "helper_text" (defArgs s_helper_text) (defBody s_helper_text) (defScope s_helper_text) .none kV8 dc8 pm8 an8 cd8 ct8),sl8⟩) (c8:PySem.W.codeIn K cd8 "helper_text" = true) (k8:PySem.W.keepIn K (.ref f8)=true)
    (a9:PySem.W.nsIn K mainGlobals "row_text" = some (some (.ref f9))) (l9:K.lookup f9=some ⟨oc9,od9,.func (PySem.W.fnOf "row_text" "row_text" (defArgs s_row_text) (defBody s_row_text) (defScope s_row_text) .none kV9 dc9 pm9 an9 cd9 ct9),sl9⟩) (c9:PySem.W.codeIn K cd9 "row_text" = true) (k9:PySem.W.keepIn K (.ref f9)=true)
    (a10:PySem.W.nsIn K mainGlobals "term_text" = some (some (.ref f10))) (l10:K.lookup f10=some ⟨oc10,od10,.func (PySem.W.fnOf "term_text" "term_text" (defArgs s_term_text) (defBody s_term_text) (defScope s_term_text) .none kV10 dc10 pm10 an10 cd10 ct10),sl10⟩) (c10:PySem.W.codeIn K cd10 "term_text" = true) (k10:PySem.W.keepIn K (.ref f10)=true)
    (a11:PySem.W.nsIn K mainGlobals "in_bracket" = some (some (.ref f11))) (l11:K.lookup f11=some ⟨oc11,od11,.func (PySem.W.fnOf "in_bracket" "in_bracket" (defArgs s_in_bracket) (defBody s_in_bracket) (defScope s_in_bracket) .none kV11 dc11 pm11 an11 cd11 ct11),sl11⟩) (c11:PySem.W.codeIn K cd11 "in_bracket" = true) (k11:PySem.W.keepIn K (.ref f11)=true)
    (a12:PySem.W.nsIn K mainGlobals "_law_feed" = some (some (.ref f12))) (l12:K.lookup f12=some ⟨oc12,od12,.func (PySem.W.fnOf "_law_feed" "_law_feed" (defArgs s_l_feed) (defBody s_l_feed) (defScope s_l_feed) .none kV12 dc12 pm12 an12 cd12 ct12),sl12⟩) (c12:PySem.W.codeIn K cd12 "_law_feed" = true) (k12:PySem.W.keepIn K (.ref f12)=true)
    (a13:PySem.W.nsIn K mainGlobals "_law_take" = some (some (.ref f13))) (l13:K.lookup f13=some ⟨oc13,od13,.func (PySem.W.fnOf "_law_take" "_law_take" (defArgs s_l_take) (defBody s_l_take) (defScope s_l_take) .none kV13 dc13 pm13 an13 cd13 ct13),sl13⟩) (c13:PySem.W.codeIn K cd13 "_law_take" = true) (k13:PySem.W.keepIn K (.ref f13)=true)
    (a14:PySem.W.nsIn K mainGlobals "_law_name" = some (some (.ref f14))) (l14:K.lookup f14=some ⟨oc14,od14,.func (PySem.W.fnOf "_law_name" "_law_name" (defArgs s_l_name) (defBody s_l_name) (defScope s_l_name) .none kV14 dc14 pm14 an14 cd14 ct14),sl14⟩) (c14:PySem.W.codeIn K cd14 "_law_name" = true) (k14:PySem.W.keepIn K (.ref f14)=true)
    (a15:PySem.W.nsIn K mainGlobals "_law_some" = some (some (.ref f15))) (l15:K.lookup f15=some ⟨oc15,od15,.func (PySem.W.fnOf "_law_some" "_law_some" (defArgs s_l_some) (defBody s_l_some) (defScope s_l_some) .none kV15 dc15 pm15 an15 cd15 ct15),sl15⟩) (c15:PySem.W.codeIn K cd15 "_law_some" = true) (k15:PySem.W.keepIn K (.ref f15)=true)
    (a16:PySem.W.nsIn K mainGlobals "_law_whole" = some (some (.ref f16))) (l16:K.lookup f16=some ⟨oc16,od16,.func (PySem.W.fnOf "_law_whole" "_law_whole" (defArgs s_l_whole) (defBody s_l_whole) (defScope s_l_whole) .none kV16 dc16 pm16 an16 cd16 ct16),sl16⟩) (c16:PySem.W.codeIn K cd16 "_law_whole" = true) (k16:PySem.W.keepIn K (.ref f16)=true)
    (a17:PySem.W.nsIn K mainGlobals "_law_any_term" = some (some (.ref f17))) (l17:K.lookup f17=some ⟨oc17,od17,.func (PySem.W.fnOf "_law_any_term" "_law_any_term" (defArgs s_l_any_term) (defBody s_l_any_term) (defScope s_l_any_term) .none kV17 dc17 pm17 an17 cd17 ct17),sl17⟩) (c17:PySem.W.codeIn K cd17 "_law_any_term" = true) (k17:PySem.W.keepIn K (.ref f17)=true)
    (a18:PySem.W.nsIn K mainGlobals "_law_any_row" = some (some (.ref f18))) (l18:K.lookup f18=some ⟨oc18,od18,.func (PySem.W.fnOf "_law_any_row" "_law_any_row" (defArgs s_l_any_row) (defBody s_l_any_row) (defScope s_l_any_row) .none kV18 dc18 pm18 an18 cd18 ct18),sl18⟩) (c18:PySem.W.codeIn K cd18 "_law_any_row" = true) (k18:PySem.W.keepIn K (.ref f18)=true)
    (a19:PySem.W.nsIn K mainGlobals "_law_text" = some (some (.ref f19))) (l19:K.lookup f19=some ⟨oc19,od19,.func (PySem.W.fnOf "_law_text" "_law_text" (defArgs s_l_text) (defBody s_l_text) (defScope s_l_text) .none kV19 dc19 pm19 an19 cd19 ct19),sl19⟩) (c19:PySem.W.codeIn K cd19 "_law_text" = true) (k19:PySem.W.keepIn K (.ref f19)=true)
    (a20:PySem.W.nsIn K mainGlobals "_law_line" = some (some (.ref f20))) (l20:K.lookup f20=some ⟨oc20,od20,.func (PySem.W.fnOf "_law_line" "_law_line" (defArgs s_l_line) (defBody s_l_line) (defScope s_l_line) .none kV20 dc20 pm20 an20 cd20 ct20),sl20⟩) (c20:PySem.W.codeIn K cd20 "_law_line" = true) (k20:PySem.W.keepIn K (.ref f20)=true)
    (a21:PySem.W.nsIn K mainGlobals "_law_words_of" = some (some (.ref f21))) (l21:K.lookup f21=some ⟨oc21,od21,.func (PySem.W.fnOf "_law_words_of" "_law_words_of" (defArgs s_l_words_of) (defBody s_l_words_of) (defScope s_l_words_of) .none kV21 dc21 pm21 an21 cd21 ct21),sl21⟩) (c21:PySem.W.codeIn K cd21 "_law_words_of" = true) (k21:PySem.W.keepIn K (.ref f21)=true)
    (a22:PySem.W.nsIn K mainGlobals "_law_all_of" = some (some (.ref f22))) (l22:K.lookup f22=some ⟨oc22,od22,.func (PySem.W.fnOf "_law_all_of" "_law_all_of" (defArgs s_l_all_of) (defBody s_l_all_of) (defScope s_l_all_of) .none kV22 dc22 pm22 an22 cd22 ct22),sl22⟩) (c22:PySem.W.codeIn K cd22 "_law_all_of" = true) (k22:PySem.W.keepIn K (.ref f22)=true)
    (a23:PySem.W.nsIn K mainGlobals "_law_is_name" = some (some (.ref f23))) (l23:K.lookup f23=some ⟨oc23,od23,.func (PySem.W.fnOf "_law_is_name" "_law_is_name" (defArgs s_l_is_name) (defBody s_l_is_name) (defScope s_l_is_name) .none kV23 dc23 pm23 an23 cd23 ct23),sl23⟩) (c23:PySem.W.codeIn K cd23 "_law_is_name" = true) (k23:PySem.W.keepIn K (.ref f23)=true)
    (a24:PySem.W.nsIn K mainGlobals "_law_is_figures" = some (some (.ref f24))) (l24:K.lookup f24=some ⟨oc24,od24,.func (PySem.W.fnOf "_law_is_figures" "_law_is_figures" (defArgs s_l_is_figures) (defBody s_l_is_figures) (defScope s_l_is_figures) .none kV24 dc24 pm24 an24 cd24 ct24),sl24⟩) (c24:PySem.W.codeIn K cd24 "_law_is_figures" = true) (k24:PySem.W.keepIn K (.ref f24)=true)
    (a25:PySem.W.nsIn K mainGlobals "_law_sized" = some (some (.ref f25))) (l25:K.lookup f25=some ⟨oc25,od25,.func (PySem.W.fnOf "_law_sized" "_law_sized" (defArgs s_l_sized) (defBody s_l_sized) (defScope s_l_sized) .none kV25 dc25 pm25 an25 cd25 ct25),sl25⟩) (c25:PySem.W.codeIn K cd25 "_law_sized" = true) (k25:PySem.W.keepIn K (.ref f25)=true)
    (a26:PySem.W.nsIn K mainGlobals "_law_is_term" = some (some (.ref f26))) (l26:K.lookup f26=some ⟨oc26,od26,.func (PySem.W.fnOf "_law_is_term" "_law_is_term" (defArgs s_l_is_term) (defBody s_l_is_term) (defScope s_l_is_term) .none kV26 dc26 pm26 an26 cd26 ct26),sl26⟩) (c26:PySem.W.codeIn K cd26 "_law_is_term" = true) (k26:PySem.W.keepIn K (.ref f26)=true)
    (a27:PySem.W.nsIn K mainGlobals "_law_is_line" = some (some (.ref f27))) (l27:K.lookup f27=some ⟨oc27,od27,.func (PySem.W.fnOf "_law_is_line" "_law_is_line" (defArgs s_l_is_line) (defBody s_l_is_line) (defScope s_l_is_line) .none kV27 dc27 pm27 an27 cd27 ct27),sl27⟩) (c27:PySem.W.codeIn K cd27 "_law_is_line" = true) (k27:PySem.W.keepIn K (.ref f27)=true)
    (a28:PySem.W.nsIn K mainGlobals "_law_first_wrong" = some (some (.ref f28))) (l28:K.lookup f28=some ⟨oc28,od28,.func (PySem.W.fnOf "_law_first_wrong" "_law_first_wrong" (defArgs s_l_first_wrong) (defBody s_l_first_wrong) (defScope s_l_first_wrong) .none kV28 dc28 pm28 an28 cd28 ct28),sl28⟩) (c28:PySem.W.codeIn K cd28 "_law_first_wrong" = true) (k28:PySem.W.keepIn K (.ref f28)=true)
    (a29:PySem.W.nsIn K mainGlobals "_law_odd" = some (some (.ref f29))) (l29:K.lookup f29=some ⟨oc29,od29,.func (PySem.W.fnOf "_law_odd" "_law_odd" (defArgs s_l_odd) (defBody s_l_odd) (defScope s_l_odd) .none kV29 dc29 pm29 an29 cd29 ct29),sl29⟩) (c29:PySem.W.codeIn K cd29 "_law_odd" = true) (k29:PySem.W.keepIn K (.ref f29)=true)
    (a30:PySem.W.nsIn K mainGlobals "_law_sign" = some (some (.ref f30))) (l30:K.lookup f30=some ⟨oc30,od30,.func (PySem.W.fnOf "_law_sign" "_law_sign" (defArgs s_l_sign) (defBody s_l_sign) (defScope s_l_sign) .none kV30 dc30 pm30 an30 cd30 ct30),sl30⟩) (c30:PySem.W.codeIn K cd30 "_law_sign" = true) (k30:PySem.W.keepIn K (.ref f30)=true)
    (a31:PySem.W.nsIn K mainGlobals "_law_other_line" = some (some (.ref f31))) (l31:K.lookup f31=some ⟨oc31,od31,.func (PySem.W.fnOf "_law_other_line" "_law_other_line" (defArgs s_l_other_line) (defBody s_l_other_line) (defScope s_l_other_line) .none kV31 dc31 pm31 an31 cd31 ct31),sl31⟩) (c31:PySem.W.codeIn K cd31 "_law_other_line" = true) (k31:PySem.W.keepIn K (.ref f31)=true)
    (a32:PySem.W.nsIn K mainGlobals "_law_deep_line" = some (some (.ref f32))) (l32:K.lookup f32=some ⟨oc32,od32,.func (PySem.W.fnOf "_law_deep_line" "_law_deep_line" (defArgs s_l_deep_line) (defBody s_l_deep_line) (defScope s_l_deep_line) .none kV32 dc32 pm32 an32 cd32 ct32),sl32⟩) (c32:PySem.W.codeIn K cd32 "_law_deep_line" = true) (k32:PySem.W.keepIn K (.ref f32)=true)
    (a33:PySem.W.nsIn K mainGlobals "_law_spoilt" = some (some (.ref f33))) (l33:K.lookup f33=some ⟨oc33,od33,.func (PySem.W.fnOf "_law_spoilt" "_law_spoilt" (defArgs s_l_spoilt) (defBody s_l_spoilt) (defScope s_l_spoilt) .none kV33 dc33 pm33 an33 cd33 ct33),sl33⟩) (c33:PySem.W.codeIn K cd33 "_law_spoilt" = true) (k33:PySem.W.keepIn K (.ref f33)=true)
    (a34:PySem.W.nsIn K mainGlobals "_law_told_row" = some (some (.ref f34))) (l34:K.lookup f34=some ⟨oc34,od34,.func (PySem.W.fnOf "_law_told_row" "_law_told_row" (defArgs s_l_told_row) (defBody s_l_told_row) (defScope s_l_told_row) .none kV34 dc34 pm34 an34 cd34 ct34),sl34⟩) (c34:PySem.W.codeIn K cd34 "_law_told_row" = true) (k34:PySem.W.keepIn K (.ref f34)=true)
    (a35:PySem.W.nsIn K mainGlobals "_law_right" = some (some (.ref f35))) (l35:K.lookup f35=some ⟨oc35,od35,.func (PySem.W.fnOf "_law_right" "_law_right" (defArgs s_l_right) (defBody s_l_right) (defScope s_l_right) .none kV35 dc35 pm35 an35 cd35 ct35),sl35⟩) (c35:PySem.W.codeIn K cd35 "_law_right" = true) (k35:PySem.W.keepIn K (.ref f35)=true)
    (a36:PySem.W.nsIn K mainGlobals "law" = some (some (.ref f36))) (l36:K.lookup f36=some ⟨oc36,od36,.func (PySem.W.fnOf "law" "law" (defArgs s_law) (defBody s_law) (defScope s_law) .none kV36 dc36 pm36 an36 cd36 ct36),sl36⟩) (c36:PySem.W.codeIn K cd36 "law" = true) (k36:PySem.W.keepIn K (.ref f36)=true)
    {CA gA TA NA gx0 cc0 N0 cc1 N1 cc2 N2 cc3 N3 cc4 N4 cc5 N5 cc6 N6 cc7 N7 cc8 N8 cc9 N9:Addr} {odA anA tdA ddA ox0 ax0 dd0 dd1 dd2 dd3 dd4 dd5 dd6 dd7 dd8 dd9:Option Addr} {slA tslA sx0:Array (Option Value)} {ocA kVA dcA pmA cdA ctA kx0 dx0 px0 ex0 tx0:Value} {tkA:Tok} {tnA:Nat} {nm0 qn0 nm1 qn1 nm2 qn2 nm3 qn3 nm4 qn4 nm5 qn5 nm6 qn6 nm7 qn7 nm8 qn8 nm9 qn9 nmA qnA:Str} {bs0 sub0 bs1 sub1 bs2 sub2 bs3 sub3 bs4 sub4 bs5 sub5 bs6 sub6 bs7 sub7 bs8 sub8 bs9 sub9 bsA subA:List Value} {sn0 sn1 sn2 sn3 sn4 sn5 sn6 sn7 sn8 sn9 snA:List Str} {ab0 ab1 ab2 ab3 ab4 ab5 ab6 ab7 ab8 ab9 abA:Bool} {col0 col1 col2 col3 col4 col5 col6 col7 col8 col9 colA:Option Bool} {q00 q10 q20 q30 q50 q01 q11 q21 q31 q51 q02 q12 q22 q32 q52 q03 q13 q23 q33 q53 q04 q14 q24 q34 q54 q05 q15 q25 q35 q55 q06 q16 q26 q36 q56 q07 q17 q27 q37 q57 q08 q18 q28 q38 q58 q09 q19 q29 q39 q59 q0A q1A q2A q3A q5A:Option Value} {C gI gE gS gT gW gF:Addr} {odI anI odE anE odS anS odT anT odW anW odF anF:Option Addr} {slI slE slS slT slW slF:Array (Option Value)} {ocI kVI dcI pmI cdI ctI ocE kVE dcE pmE cdE ctE ocS kVS dcS pmS cdS ctS ocT kVT dcT pmT cdT ctT ocW kVW dcW pmW cdW ctW ocF kVF dcF pmF cdF ctF:Value} {t1 t3 t4 t5 t6 u1 u2 u3:Tok} {ka ja qa pa:Addr} {kd jd qd pd:Option Addr} {kits jits qits pits:Array Value} {kn jn qn pn:Nat} {ksl jsl qsl psl:Array (Option Value)}
    (gAs:PySem.W.nsIn K mainGlobals "AskError" = some (some (.ref CA)))
    (iAs0:K.lookup CA=some (excClassObj nmA qnA CA NA bsA bmV true snA subA abA colA ddA q0A q1A q2A q3A q5A "ValueError.__new__"))
    (xga:PySem.W.specialIn K (.ref CA) "__getattribute__" = some (some (.builtin "type.__getattribute__")))
    (xrd:PySem.W.readsIn K CA (.type "type")=true)
    (xfc0:PySem.W.findCls K (.ref CA) (.type "type") "__init__" = some (.val (.ref gA)))
    (xlk:K.lookup gA=some ⟨ocA,odA,.func (PySem.W.fnOf "__init__" "AskError.__init__" (defArgs s_AskError) (defBody s_AskError) (defScope s_AskError) (.ref TA) kVA dcA pmA anA cdA ctA),slA⟩)
    (xtp:K.lookup TA=some ⟨.type "tuple", tdA,.seq #[.str "" tkA] tnA,tslA⟩)
    (xcd:PySem.W.codeIn K cdA "AskError.__init__" = true)
    (xkp:PySem.W.keepIn K (.ref gA)=true)
    (xtk:1≤tkA)
    (yg0:PySem.W.nsIn K mainGlobals "NoText" = some (some (.ref cc0)))
    (yo0:K.lookup cc0=some (excClassObj nm0 qn0 cc0 N0 bs0 (.ref CA::bmV) true sn0 sub0 ab0 col0 dd0 q00 q10 q20 q30 q50 "ValueError.__new__"))
    (ys0:PySem.W.findIn K (.ref cc0) "__setattr__" = some (some (.builtin "object.__setattr__")))
    (ya0:PySem.W.findIn K (.ref cc0) "__getattribute__" = some (some (.builtin "BaseException.__getattribute__")))
    (yt0:PySem.W.findIn K (.ref cc0) "__getattr__" = some none)
    (yc0:PySem.W.findIn K (.ref cc0) "__class__" = some (some (.builtin "object.__class__")))
    (ye0:cc0 ≠ CA)
    (yg1:PySem.W.nsIn K mainGlobals "Twice" = some (some (.ref cc1)))
    (yo1:K.lookup cc1=some (excClassObj nm1 qn1 cc1 N1 bs1 (.ref CA::bmV) true sn1 sub1 ab1 col1 dd1 q01 q11 q21 q31 q51 "ValueError.__new__"))
    (ys1:PySem.W.findIn K (.ref cc1) "__setattr__" = some (some (.builtin "object.__setattr__")))
    (ya1:PySem.W.findIn K (.ref cc1) "__getattribute__" = some (some (.builtin "BaseException.__getattribute__")))
    (yt1:PySem.W.findIn K (.ref cc1) "__getattr__" = some none)
    (yc1:PySem.W.findIn K (.ref cc1) "__class__" = some (some (.builtin "object.__class__")))
    (ye1:cc1 ≠ CA)
    (yg2:PySem.W.nsIn K mainGlobals "NoName" = some (some (.ref cc2)))
    (yo2:K.lookup cc2=some (excClassObj nm2 qn2 cc2 N2 bs2 (.ref CA::bmV) true sn2 sub2 ab2 col2 dd2 q02 q12 q22 q32 q52 "ValueError.__new__"))
    (ys2:PySem.W.findIn K (.ref cc2) "__setattr__" = some (some (.builtin "object.__setattr__")))
    (ya2:PySem.W.findIn K (.ref cc2) "__getattribute__" = some (some (.builtin "BaseException.__getattribute__")))
    (yt2:PySem.W.findIn K (.ref cc2) "__getattr__" = some none)
    (yc2:PySem.W.findIn K (.ref cc2) "__class__" = some (some (.builtin "object.__class__")))
    (ye2:cc2 ≠ CA)
    (yg3:PySem.W.nsIn K mainGlobals "NoField" = some (some (.ref cc3)))
    (yo3:K.lookup cc3=some (excClassObj nm3 qn3 cc3 N3 bs3 (.ref CA::bmV) true sn3 sub3 ab3 col3 dd3 q03 q13 q23 q33 q53 "ValueError.__new__"))
    (ys3:PySem.W.findIn K (.ref cc3) "__setattr__" = some (some (.builtin "object.__setattr__")))
    (ya3:PySem.W.findIn K (.ref cc3) "__getattribute__" = some (some (.builtin "BaseException.__getattribute__")))
    (yt3:PySem.W.findIn K (.ref cc3) "__getattr__" = some none)
    (yc3:PySem.W.findIn K (.ref cc3) "__class__" = some (some (.builtin "object.__class__")))
    (ye3:cc3 ≠ CA)
    (yg4:PySem.W.nsIn K mainGlobals "SmallField" = some (some (.ref cc4)))
    (yo4:K.lookup cc4=some (excClassObj nm4 qn4 cc4 N4 bs4 (.ref CA::bmV) true sn4 sub4 ab4 col4 dd4 q04 q14 q24 q34 q54 "ValueError.__new__"))
    (ys4:PySem.W.findIn K (.ref cc4) "__setattr__" = some (some (.builtin "object.__setattr__")))
    (ya4:PySem.W.findIn K (.ref cc4) "__getattribute__" = some (some (.builtin "BaseException.__getattribute__")))
    (yt4:PySem.W.findIn K (.ref cc4) "__getattr__" = some none)
    (yc4:PySem.W.findIn K (.ref cc4) "__class__" = some (some (.builtin "object.__class__")))
    (ye4:cc4 ≠ CA)
    (yg5:PySem.W.nsIn K mainGlobals "NoRow" = some (some (.ref cc5)))
    (yo5:K.lookup cc5=some (excClassObj nm5 qn5 cc5 N5 bs5 (.ref CA::bmV) true sn5 sub5 ab5 col5 dd5 q05 q15 q25 q35 q55 "ValueError.__new__"))
    (ys5:PySem.W.findIn K (.ref cc5) "__setattr__" = some (some (.builtin "object.__setattr__")))
    (ya5:PySem.W.findIn K (.ref cc5) "__getattribute__" = some (some (.builtin "BaseException.__getattribute__")))
    (yt5:PySem.W.findIn K (.ref cc5) "__getattr__" = some none)
    (yc5:PySem.W.findIn K (.ref cc5) "__class__" = some (some (.builtin "object.__class__")))
    (ye5:cc5 ≠ CA)
    (yg6:PySem.W.nsIn K mainGlobals "NoTurn" = some (some (.ref cc6)))
    (yo6:K.lookup cc6=some (excClassObj nm6 qn6 cc6 N6 bs6 (.ref CA::bmV) true sn6 sub6 ab6 col6 dd6 q06 q16 q26 q36 q56 "ValueError.__new__"))
    (ys6:PySem.W.findIn K (.ref cc6) "__setattr__" = some (some (.builtin "object.__setattr__")))
    (ya6:PySem.W.findIn K (.ref cc6) "__getattribute__" = some (some (.builtin "BaseException.__getattribute__")))
    (yt6:PySem.W.findIn K (.ref cc6) "__getattr__" = some none)
    (yc6:PySem.W.findIn K (.ref cc6) "__class__" = some (some (.builtin "object.__class__")))
    (ye6:cc6 ≠ CA)
    (yg7:PySem.W.nsIn K mainGlobals "NoCount" = some (some (.ref cc7)))
    (yo7:K.lookup cc7=some (excClassObj nm7 qn7 cc7 N7 bs7 (.ref CA::bmV) true sn7 sub7 ab7 col7 dd7 q07 q17 q27 q37 q57 "ValueError.__new__"))
    (ys7:PySem.W.findIn K (.ref cc7) "__setattr__" = some (some (.builtin "object.__setattr__")))
    (ya7:PySem.W.findIn K (.ref cc7) "__getattribute__" = some (some (.builtin "BaseException.__getattribute__")))
    (yt7:PySem.W.findIn K (.ref cc7) "__getattr__" = some none)
    (yc7:PySem.W.findIn K (.ref cc7) "__class__" = some (some (.builtin "object.__class__")))
    (ye7:cc7 ≠ CA)
    (yg8:PySem.W.nsIn K mainGlobals "NoNumber" = some (some (.ref cc8)))
    (yo8:K.lookup cc8=some (excClassObj nm8 qn8 cc8 N8 bs8 (.ref CA::bmV) true sn8 sub8 ab8 col8 dd8 q08 q18 q28 q38 q58 "ValueError.__new__"))
    (ys8:PySem.W.findIn K (.ref cc8) "__setattr__" = some (some (.builtin "object.__setattr__")))
    (ya8:PySem.W.findIn K (.ref cc8) "__getattribute__" = some (some (.builtin "BaseException.__getattribute__")))
    (yt8:PySem.W.findIn K (.ref cc8) "__getattr__" = some none)
    (yc8:PySem.W.findIn K (.ref cc8) "__class__" = some (some (.builtin "object.__class__")))
    (ye8:cc8 ≠ CA)
    (yg9:PySem.W.nsIn K mainGlobals "TooMany" = some (some (.ref cc9)))
    (yo9:K.lookup cc9=some (excClassObj nm9 qn9 cc9 N9 bs9 (.ref CA::bmV) true sn9 sub9 ab9 col9 dd9 q09 q19 q29 q39 q59 "ValueError.__new__"))
    (ys9:PySem.W.findIn K (.ref cc9) "__setattr__" = some (some (.builtin "object.__setattr__")))
    (ya9:PySem.W.findIn K (.ref cc9) "__getattribute__" = some (some (.builtin "BaseException.__getattribute__")))
    (yt9:PySem.W.findIn K (.ref cc9) "__getattr__" = some none)
    (yc9:PySem.W.findIn K (.ref cc9) "__class__" = some (some (.builtin "object.__class__")))
    (ye9:cc9 ≠ CA)
    (yi0:PySem.W.findIn K (.ref cc0) "__init__" = some (some (.ref gx0)))
    (yl0:K.lookup gx0=some ⟨.type "function", ox0,.func (PySem.W.fnOf "__init__" "NoText.__init__" (defArgs s_NoText) (defBody s_NoText) (defScope s_NoText) .none kx0 dx0 px0 ax0 ex0 tx0),sx0⟩)
    (yk0:PySem.W.codeIn K ex0 "NoText.__init__" = true)
    (yp0:PySem.W.keepIn K (.ref gx0)=true)
    (yq0:PySem.W.keepIn K (.ref cc0)=true)
    (yn0:PySem.W.findIn K (.ref cc0) "row" = some none)
    (hV0:PySem.W.nsIn K mainGlobals "ValueError" = some none)
    (hS0:PySem.W.nsIn K mainGlobals "sum" = some none)
    (hM0:PySem.W.nsIn K mainGlobals "max" = some none)
    (nb:PySem.W.nsIn K cStatics sharingNotToldKey=some none)
    (ynd:[cc0,cc1,cc2,cc3,cc4,cc5,cc6,cc7,cc8,cc9].Nodup)
    (gg:PySem.W.nsIn K mainGlobals "Scan" = some (some (.ref C)))
    (aI:PySem.W.findIn K (.ref C) "__init__" = some (some (.ref gI)))
    (iI:PySem.W.isFn K (.ref gI)=true)
    (lI:K.lookup gI=some ⟨ocI,odI,.func (PySem.W.fnOf "__init__" "Scan.__init__" (defArgs s_sinit) (defBody s_sinit) (defScope s_sinit) .none kVI dcI pmI anI cdI ctI),slI⟩)
    (cI:PySem.W.codeIn K cdI "Scan.__init__" = true)
    (kI:PySem.W.keepIn K (.ref gI)=true)
    (aE:PySem.W.findIn K (.ref C) "enter" = some (some (.ref gE)))
    (iE:PySem.W.isFn K (.ref gE)=true)
    (lE:K.lookup gE=some ⟨ocE,odE,.func (PySem.W.fnOf "enter" "Scan.enter" (defArgs s_senter) (defBody s_senter) (defScope s_senter) .none kVE dcE pmE anE cdE ctE),slE⟩)
    (cE:PySem.W.codeIn K cdE "Scan.enter" = true)
    (kE:PySem.W.keepIn K (.ref gE)=true)
    (aS:PySem.W.findIn K (.ref C) "sees" = some (some (.ref gS)))
    (iS:PySem.W.isFn K (.ref gS)=true)
    (lS:K.lookup gS=some ⟨ocS,odS,.func (PySem.W.fnOf "sees" "Scan.sees" (defArgs s_ssees) (defBody s_ssees) (defScope s_ssees) .none kVS dcS pmS anS cdS ctS),slS⟩)
    (cS:PySem.W.codeIn K cdS "Scan.sees" = true)
    (kS:PySem.W.keepIn K (.ref gS)=true)
    (aT:PySem.W.findIn K (.ref C) "take" = some (some (.ref gT)))
    (iT:PySem.W.isFn K (.ref gT)=true)
    (lT:K.lookup gT=some ⟨ocT,odT,.func (PySem.W.fnOf "take" "Scan.take" (defArgs s_stake) (defBody s_stake) (defScope s_stake) .none kVT dcT pmT anT cdT ctT),slT⟩)
    (cT:PySem.W.codeIn K cdT "Scan.take" = true)
    (kT:PySem.W.keepIn K (.ref gT)=true)
    (aW:PySem.W.findIn K (.ref C) "word" = some (some (.ref gW)))
    (iW:PySem.W.isFn K (.ref gW)=true)
    (lW:K.lookup gW=some ⟨ocW,odW,.func (PySem.W.fnOf "word" "Scan.word" (defArgs s_sword) (defBody s_sword) (defScope s_sword) .none kVW dcW pmW anW cdW ctW),slW⟩)
    (cW:PySem.W.codeIn K cdW "Scan.word" = true)
    (kW:PySem.W.keepIn K (.ref gW)=true)
    (aF:PySem.W.findIn K (.ref C) "finish" = some (some (.ref gF)))
    (iF:PySem.W.isFn K (.ref gF)=true)
    (lF:K.lookup gF=some ⟨ocF,odF,.func (PySem.W.fnOf "finish" "Scan.finish" (defArgs s_sfinish) (defBody s_sfinish) (defScope s_sfinish) .none kVF dcF pmF anF cdF ctF),slF⟩)
    (cF:PySem.W.codeIn K cdF "Scan.finish" = true)
    (kF:PySem.W.keepIn K (.ref gF)=true)
    (pg:PySem.W.plainGet K C Str.empty=true)
    (hdi:PySem.W.hasDictIn K C=true)
    (pov:PySem.W.plainOver K C=true)
    (sat:PySem.W.findIn K (.ref C) "__setattr__" = some (some (.builtin "object.__setattr__")))
    (mki:PySem.W.makesIn K C=true)
    (kcl:PySem.W.keepIn K (.ref C)=true)
    (nX:PySem.W.findIn K (.ref C) "text" = some none)
    (nR:PySem.W.findIn K (.ref C) "row" = some none)
    (nW:PySem.W.findIn K (.ref C) "most_within" = some none)
    (nP:PySem.W.findIn K (.ref C) "most_parts" = some none)
    (nL:PySem.W.findIn K (.ref C) "place" = some none)
    (nN:PySem.W.findIn K (.ref C) "parts" = some none)
    (g1:PySem.W.nsIn K mainGlobals "LETTERS" = some (some (.str LET t1)))
    (g3:PySem.W.nsIn K mainGlobals "LONGEST_NAME" = some (some (.int 6 t3)))
    (g5:PySem.W.nsIn K mainGlobals "KEPT_WORDS" = some (some (.ref ka)))
    (g6:K.lookup ka=some ⟨.type "tuple", kd,.seq kits kn,ksl⟩)
    (g7:kits.size≤100)
    (g8:Vals (kept.map V.str) kits.toList)
    (e1:PySem.W.nsIn K mainGlobals "WORD_ENDS" = some (some (.str ENDS t4)))
    (e2:PySem.W.nsIn K mainGlobals "MOST_WITHIN" = some (some (.int 8 t5)))
    (e3:PySem.W.nsIn K mainGlobals "MOST_PARTS" = some (some (.int 20 t6)))
    (w1:PySem.W.nsIn K mainGlobals "FIGURES" = some (some (.str FIG u1)))
    (w2:PySem.W.nsIn K mainGlobals "MOST_FIGURES" = some (some (.int 12 u2)))
    (w3:PySem.W.nsIn K mainGlobals "MOST_ROWS" = some (some (.int 60 u3)))
    (j5:PySem.W.nsIn K mainGlobals "SIGNS" = some (some (.ref ja)))
    (j6:K.lookup ja=some ⟨.type "tuple", jd,.seq jits jn,jsl⟩)
    (j7:jits.size≤100)
    (j8:Vals (signW.map V.str) jits.toList)
    (q5:PySem.W.nsIn K mainGlobals "ASKING_WORDS" = some (some (.ref qa)))
    (q6:K.lookup qa=some ⟨.type "tuple", qd,.seq qits qn,qsl⟩)
    (q7:qits.size≤100)
    (q8:Vals (askW.map V.str) qits.toList)
    (p5:PySem.W.nsIn K mainGlobals "PLAIN_WORDS" = some (some (.ref pa)))
    (p6:K.lookup pa=some ⟨.type "tuple", pd,.seq pits pn,psl⟩)
    (p7:pits.size≤100)
    (p8:Vals (plainW.map V.str) pits.toList)
    (tk1:1≤t1)
    (tk4:1≤t4)
    (tk6:1≤u1)
    (z0:PySem.W.nsIn K mainGlobals "len" = some none) (z1:PySem.W.nsIn K mainGlobals "range" = some none) (z2:PySem.W.nsIn K mainGlobals "isinstance" = some none) (z3:PySem.W.nsIn K mainGlobals "int" = some none) (z4:PySem.W.nsIn K mainGlobals "bool" = some none) (z5:PySem.W.nsIn K mainGlobals "list" = some none) (z6:PySem.W.nsIn K mainGlobals "tuple" = some none) (z7:PySem.W.nsIn K mainGlobals "str" = some none) (z8:PySem.W.nsIn K mainGlobals "all" = some none) (z9:PySem.W.nsIn K mainGlobals "zip" = some none) (z10:PySem.W.nsIn K mainGlobals "enumerate" = some none) :
    ∃ fd:FuncData,(∀ (s:Shared) (v:Value),BindsTo s fd ⟨[v],[]⟩ [("_law_script", v)])∧∀ base:Heap,K.In base→base.Ns mainGlobals mg→LawOk l.prog w K mg base CX0 118 fa fd ["_law_script"] (spLaw K):=by
  have e:=hfa.symm.trans (PySem.W.mg_of X G a36)
  cases e
  have F_is_name:=fun_mk (st:=s_is_name) l0 c0 k0
  have m_is_name:=PySem.W.mg_of X G a0
  have F_is_figures:=fun_mk (st:=s_is_figures) l1 c1 k1
  have m_is_figures:=PySem.W.mg_of X G a1
  have F_read_helper:=fun_mk (st:=s_read_helper) l2 c2 k2
  have m_read_helper:=PySem.W.mg_of X G a2
  have F_helper_row:=fun_mk (st:=s_helper_row) l3 c3 k3
  have m_helper_row:=PySem.W.mg_of X G a3
  have F_next_name:=fun_mk (st:=s_next_name) l4 c4 k4
  have m_next_name:=PySem.W.mg_of X G a4
  have F_next_figures:=fun_mk (st:=s_next_figures) l5 c5 k5
  have m_next_figures:=PySem.W.mg_of X G a5
  have F_next_term:=fun_mk (st:=s_next_term) l6 c6 k6
  have m_next_term:=PySem.W.mg_of X G a6
  have F_term_in_bracket:=fun_mk (st:=s_term_in_bracket) l7 c7 k7
  have m_term_in_bracket:=PySem.W.mg_of X G a7
  have F_helper_text:=fun_mk (st:=s_helper_text) l8 c8 k8
  have m_helper_text:=PySem.W.mg_of X G a8
  have F_row_text:=fun_mk (st:=s_row_text) l9 c9 k9
  have m_row_text:=PySem.W.mg_of X G a9
  have F_term_text:=fun_mk (st:=s_term_text) l10 c10 k10
  have m_term_text:=PySem.W.mg_of X G a10
  have F_in_bracket:=fun_mk (st:=s_in_bracket) l11 c11 k11
  have m_in_bracket:=PySem.W.mg_of X G a11
  have F_l_feed:=fun_mk (st:=s_l_feed) l12 c12 k12
  have m_l_feed:=PySem.W.mg_of X G a12
  have F_l_take:=fun_mk (st:=s_l_take) l13 c13 k13
  have m_l_take:=PySem.W.mg_of X G a13
  have F_l_name:=fun_mk (st:=s_l_name) l14 c14 k14
  have m_l_name:=PySem.W.mg_of X G a14
  have F_l_some:=fun_mk (st:=s_l_some) l15 c15 k15
  have m_l_some:=PySem.W.mg_of X G a15
  have F_l_whole:=fun_mk (st:=s_l_whole) l16 c16 k16
  have m_l_whole:=PySem.W.mg_of X G a16
  have F_l_any_term:=fun_mk (st:=s_l_any_term) l17 c17 k17
  have m_l_any_term:=PySem.W.mg_of X G a17
  have F_l_any_row:=fun_mk (st:=s_l_any_row) l18 c18 k18
  have m_l_any_row:=PySem.W.mg_of X G a18
  have F_l_text:=fun_mk (st:=s_l_text) l19 c19 k19
  have m_l_text:=PySem.W.mg_of X G a19
  have F_l_line:=fun_mk (st:=s_l_line) l20 c20 k20
  have m_l_line:=PySem.W.mg_of X G a20
  have F_l_words_of:=fun_mk (st:=s_l_words_of) l21 c21 k21
  have m_l_words_of:=PySem.W.mg_of X G a21
  have F_l_all_of:=fun_mk (st:=s_l_all_of) l22 c22 k22
  have m_l_all_of:=PySem.W.mg_of X G a22
  have F_l_is_name:=fun_mk (st:=s_l_is_name) l23 c23 k23
  have m_l_is_name:=PySem.W.mg_of X G a23
  have F_l_is_figures:=fun_mk (st:=s_l_is_figures) l24 c24 k24
  have m_l_is_figures:=PySem.W.mg_of X G a24
  have F_l_sized:=fun_mk (st:=s_l_sized) l25 c25 k25
  have m_l_sized:=PySem.W.mg_of X G a25
  have F_l_is_term:=fun_mk (st:=s_l_is_term) l26 c26 k26
  have m_l_is_term:=PySem.W.mg_of X G a26
  have F_l_is_line:=fun_mk (st:=s_l_is_line) l27 c27 k27
  have m_l_is_line:=PySem.W.mg_of X G a27
  have F_l_first_wrong:=fun_mk (st:=s_l_first_wrong) l28 c28 k28
  have m_l_first_wrong:=PySem.W.mg_of X G a28
  have F_l_odd:=fun_mk (st:=s_l_odd) l29 c29 k29
  have m_l_odd:=PySem.W.mg_of X G a29
  have F_l_sign:=fun_mk (st:=s_l_sign) l30 c30 k30
  have m_l_sign:=PySem.W.mg_of X G a30
  have F_l_other_line:=fun_mk (st:=s_l_other_line) l31 c31 k31
  have m_l_other_line:=PySem.W.mg_of X G a31
  have F_l_deep_line:=fun_mk (st:=s_l_deep_line) l32 c32 k32
  have m_l_deep_line:=PySem.W.mg_of X G a32
  have F_l_spoilt:=fun_mk (st:=s_l_spoilt) l33 c33 k33
  have m_l_spoilt:=PySem.W.mg_of X G a33
  have F_l_told_row:=fun_mk (st:=s_l_told_row) l34 c34 k34
  have m_l_told_row:=PySem.W.mg_of X G a34
  have F_l_right:=fun_mk (st:=s_l_right) l35 c35 k35
  have m_l_right:=PySem.W.mg_of X G a35
  have F_law:=fun_mk (st:=s_law) l36 c36 k36
  have B:Bl mg:=⟨PySem.W.mg_none_of X G z0,PySem.W.mg_none_of X G z1,PySem.W.mg_none_of X G z2,PySem.W.mg_none_of X G z3,PySem.W.mg_none_of X G z4,PySem.W.mg_none_of X G z5,PySem.W.mg_none_of X G z6,PySem.W.mg_none_of X G z7,PySem.W.mg_none_of X G z8,PySem.W.mg_none_of X G z9,PySem.W.mg_none_of X G z10⟩
  refine ⟨PySem.W.fnOf "law" "law" (defArgs s_law) (defBody s_law) (defScope s_law) .none kV36 dc36 pm36 an36 cd36 ct36,fun s v=>.of_eq rfl,fun base _ _=>?_⟩
  have iAs:isBaseX K CA:=⟨_,_,_,_,_,_,_,_,_,_,_,_,_,_,iAs0⟩
  have xfc:=clsfc xfc0
  have hV:=PySem.W.mg_none_of X G hV0
  have F_A:=funD_mk (st:=s_AskError) xlk xcd xkp
  have xtp2:K.lookup TA=some ⟨.type "tuple", tdA,.seq #[.str "" (tkA - 1+1)] tnA,tslA⟩:=by rw [Nat.sub_add_cancel xtk]; exact xtp
  have K_A:AskC l.prog w K mg base CA gA _:=⟨PySem.W.mg_of X G gAs,⟨xga,xrd,xfc,xkp⟩,ok_AskError (P:=l.prog) (w:=w) (base:=base) F_A hV,fun s us KX hl=>match us,hl with | [_,_],_=>PySem.W.binds_K KX rfl xtp rfl rfl rfl⟩
  have L_0:ClsX K cc0 CA:=⟨⟨_,_,_,_,_,_,_,_,_,_,_,_,_,_,yo0⟩,ys0,ya0,yt0,yc0⟩
  have L_1:ClsX K cc1 CA:=⟨⟨_,_,_,_,_,_,_,_,_,_,_,_,_,_,yo1⟩,ys1,ya1,yt1,yc1⟩
  have L_2:ClsX K cc2 CA:=⟨⟨_,_,_,_,_,_,_,_,_,_,_,_,_,_,yo2⟩,ys2,ya2,yt2,yc2⟩
  have L_3:ClsX K cc3 CA:=⟨⟨_,_,_,_,_,_,_,_,_,_,_,_,_,_,yo3⟩,ys3,ya3,yt3,yc3⟩
  have L_4:ClsX K cc4 CA:=⟨⟨_,_,_,_,_,_,_,_,_,_,_,_,_,_,yo4⟩,ys4,ya4,yt4,yc4⟩
  have L_5:ClsX K cc5 CA:=⟨⟨_,_,_,_,_,_,_,_,_,_,_,_,_,_,yo5⟩,ys5,ya5,yt5,yc5⟩
  have L_6:ClsX K cc6 CA:=⟨⟨_,_,_,_,_,_,_,_,_,_,_,_,_,_,yo6⟩,ys6,ya6,yt6,yc6⟩
  have L_7:ClsX K cc7 CA:=⟨⟨_,_,_,_,_,_,_,_,_,_,_,_,_,_,yo7⟩,ys7,ya7,yt7,yc7⟩
  have L_8:ClsX K cc8 CA:=⟨⟨_,_,_,_,_,_,_,_,_,_,_,_,_,_,yo8⟩,ys8,ya8,yt8,yc8⟩
  have L_9:ClsX K cc9 CA:=⟨⟨_,_,_,_,_,_,_,_,_,_,_,_,_,_,yo9⟩,ys9,ya9,yt9,yc9⟩
  have J_0:MkX K cc0 gx0:=L_0.mk' yi0 ⟨_,yl0,rfl⟩ yq0
  have F_0:=funD_mk (st:=s_NoText) yl0 yk0 yp0
  have M_0:Mkr l.prog w K mg base cc0 "row" gx0 _:=⟨J_0,ok_NoText (P:=l.prog) (w:=w) (base:=base) F_0 K_A J_0 L_0 yn0,.all fun us hl=>by obtain ⟨u0,u1,rfl⟩:=len2 hl; rfl,yn0⟩
  have TT:Exs K mg CA cc0 cc1 cc2 cc3 cc4 cc5 cc6 cc7 cc8 cc9:=⟨PySem.W.mg_of X G yg0,L_0,ye0,PySem.W.mg_of X G yg1,L_1,ye1,PySem.W.mg_of X G yg2,L_2,ye2,PySem.W.mg_of X G yg3,L_3,ye3,PySem.W.mg_of X G yg4,L_4,ye4,PySem.W.mg_of X G yg5,L_5,ye5,PySem.W.mg_of X G yg6,L_6,ye6,PySem.W.mg_of X G yg7,L_7,ye7,PySem.W.mg_of X G yg8,L_8,ye8,PySem.W.mg_of X G yg9,L_9,ye9,PySem.W.mg_of X G gAs,iAs,ynd⟩
  have GN:=PySem.W.mg_of X G yg0
  have T:STxt K mg C:=⟨⟨pg,hdi,pov,sat⟩,nX,nR,nW,nP,nL,nN,PySem.W.mg_of X G gg⟩
  have TX:Tx K mg:=⟨⟨t1 - 1,by rw [Nat.sub_add_cancel tk1]; exact PySem.W.mg_of X G g1⟩,⟨t3,PySem.W.mg_of X G g3⟩,⟨ka,PySem.W.mg_of X G g5,fun _=>.inr ⟨_,kits,kn,g6,rfl,rfl,Nat.le_trans g7 (small (by decide)),g8⟩⟩,⟨t4 - 1,by rw [Nat.sub_add_cancel tk4]; exact PySem.W.mg_of X G e1⟩,⟨t5,PySem.W.mg_of X G e2⟩,⟨t6,PySem.W.mg_of X G e3⟩,⟨u1 - 1,by rw [Nat.sub_add_cancel tk6]; exact PySem.W.mg_of X G w1⟩,⟨u2,PySem.W.mg_of X G w2⟩,⟨u3,PySem.W.mg_of X G w3⟩,⟨ja,PySem.W.mg_of X G j5,fun _=>.inr ⟨_,jits,jn,j6,rfl,rfl,Nat.le_trans j7 (small (by decide)),j8⟩⟩,⟨qa,PySem.W.mg_of X G q5,fun _=>.inr ⟨_,qits,qn,q6,rfl,rfl,Nat.le_trans q7 (small (by decide)),q8⟩⟩,⟨pa,PySem.W.mg_of X G p5,fun _=>.inr ⟨_,pits,pn,p6,rfl,rfl,Nat.le_trans p7 (small (by decide)),p8⟩⟩⟩
  have F_gI:=fun_mk (st:=s_sinit) lI cI kI
  have b_gI:=F_gI.binds (ps:=["self", "text", "row", "most_within", "most_parts"]) fun _ _ _ _ _ _ us hl=>by obtain ⟨u0,u1,u2,u3,u4,rfl⟩:=len5 hl; rfl
  have F_gE:=fun_mk (st:=s_senter) lE cE kE
  have b_gE:=F_gE.binds (ps:=["self", "within"]) fun _ _ _ _ _ _ us hl=>by obtain ⟨u0,u1,rfl⟩:=len2 hl; rfl
  have F_gS:=fun_mk (st:=s_ssees) lS cS kS
  have b_gS:=F_gS.binds (ps:=["self", "signs"]) fun _ _ _ _ _ _ us hl=>by obtain ⟨u0,u1,rfl⟩:=len2 hl; rfl
  have F_gT:=fun_mk (st:=s_stake) lT cT kT
  have b_gT:=F_gT.binds (ps:=["self", "signs"]) fun _ _ _ _ _ _ us hl=>by obtain ⟨u0,u1,rfl⟩:=len2 hl; rfl
  have F_gW:=fun_mk (st:=s_sword) lW cW kW
  have b_gW:=F_gW.binds (ps:=["self"]) fun _ _ _ _ _ _ us hl=>by obtain ⟨u0,rfl⟩:=len1 hl; rfl
  have F_gF:=fun_mk (st:=s_sfinish) lF cF kF
  have b_gF:=F_gF.binds (ps:=["self"]) fun _ _ _ _ _ _ us hl=>by obtain ⟨u0,rfl⟩:=len1 hl; rfl
  have G_gI:=ok_sinit (P:=l.prog) (w:=w) (base:=base) F_gI T
  have G_gE:=ok_senter (P:=l.prog) (w:=w) (base:=base) F_gE T GN L_0 M_0
  have G_gS:=ok_ssees (P:=l.prog) (w:=w) (base:=base) F_gS T
  have G_gT:=ok_stake (P:=l.prog) (w:=w) (base:=base) F_gT B T GN L_0 M_0 ⟨aS,iS,kS⟩ G_gS b_gS
  have G_gW:=ok_sword (P:=l.prog) (w:=w) (base:=base) F_gW B TX T
  have G_gF:=ok_sfinish (P:=l.prog) (w:=w) (base:=base) F_gF B T GN L_0 M_0
  have M:MthsR l.prog w K mg base C cc0 gE gS gT gW gF _ _ _ _ _:=⟨⟨aE,iE,kE⟩,G_gE,b_gE,⟨aS,iS,kS⟩,G_gS,b_gS,⟨aT,iT,kT⟩,G_gT,b_gT,⟨aW,iW,kW⟩,G_gW,b_gW,⟨aF,iF,kF⟩,G_gF,b_gF⟩
  have C_l_feed:=Cal.of (P:=l.prog) (w:=w) (base:=base) F_l_feed (ok_l_feed F_l_feed B.len) m_l_feed (fun _ _ _ _ _ _ us hl=>by obtain ⟨u0,u1,rfl⟩:=len2 hl; rfl)
  have C_l_take:=Cal.of (P:=l.prog) (w:=w) (base:=base) F_l_take (ok_l_take F_l_take ) m_l_take (fun _ _ _ _ _ _ us hl=>by obtain ⟨u0,u1,rfl⟩:=len2 hl; rfl)
  have C_l_name:=Cal.of (P:=l.prog) (w:=w) (base:=base) F_l_name (ok_l_name F_l_name B C_l_take) m_l_name (fun _ _ _ _ _ _ us hl=>by obtain ⟨u0,rfl⟩:=len1 hl; rfl)
  have C_l_some:=Cal.of (P:=l.prog) (w:=w) (base:=base) F_l_some (ok_l_some F_l_some B C_l_take) m_l_some (fun _ _ _ _ _ _ us hl=>by obtain ⟨u0,u1,rfl⟩:=len2 hl; rfl)
  have C_l_whole:=Cal.of (P:=l.prog) (w:=w) (base:=base) F_l_whole (ok_l_whole F_l_whole C_l_take) m_l_whole (fun _ _ _ _ _ _ us hl=>by obtain ⟨u0,rfl⟩:=len1 hl; rfl)
  have C_l_any_term:=Cal.of (P:=l.prog) (w:=w) (base:=base) F_l_any_term (ok_l_any_term F_l_any_term m_l_any_term C_l_take C_l_some C_l_whole 8) m_l_any_term (fun _ _ _ _ _ _ us hl=>by obtain ⟨u0,u1,u2,u3,rfl⟩:=len4 hl; rfl)
  have C_l_any_row:=Cal.of (P:=l.prog) (w:=w) (base:=base) F_l_any_row (ok_l_any_row F_l_any_row C_l_take C_l_some C_l_whole C_l_any_term) m_l_any_row (fun _ _ _ _ _ _ us hl=>by obtain ⟨u0,u1,u2,rfl⟩:=len3 hl; rfl)
  have C_is_name:=Cal.of (P:=l.prog) (w:=w) (base:=base) F_is_name (ok_is_name F_is_name B TX) m_is_name (fun _ _ _ _ _ _ us hl=>by obtain ⟨u0,rfl⟩:=len1 hl; rfl)
  have C_is_figures:=Cal.of (P:=l.prog) (w:=w) (base:=base) F_is_figures (ok_is_figures F_is_figures B TX) m_is_figures (fun _ _ _ _ _ _ us hl=>by obtain ⟨u0,rfl⟩:=len1 hl; rfl)
  have C_term_text:=Cal.of (P:=l.prog) (w:=w) (base:=base) F_term_text (ok_term_text F_term_text F_in_bracket B TX m_term_text m_in_bracket 8) m_term_text (fun _ _ _ _ _ _ us hl=>by obtain ⟨u0,rfl⟩:=len1 hl; rfl)
  have C_l_text:=Cal.of (P:=l.prog) (w:=w) (base:=base) F_l_text (ok_l_text F_l_text B m_l_text 8) m_l_text (fun _ _ _ _ _ _ us hl=>by obtain ⟨u0,rfl⟩:=len1 hl; rfl)
  have C_row_text:=Cal.of (P:=l.prog) (w:=w) (base:=base) F_row_text (ok_row_text F_row_text B C_term_text) m_row_text (fun _ _ _ _ _ _ us hl=>by obtain ⟨u0,rfl⟩:=len1 hl; rfl)
  have C_helper_text:=Cal.of (P:=l.prog) (w:=w) (base:=base) F_helper_text (ok_helper_text F_helper_text C_row_text) m_helper_text (fun _ _ _ _ _ _ us hl=>by obtain ⟨u0,rfl⟩:=len1 hl; rfl)
  have C_l_line:=Cal.of (P:=l.prog) (w:=w) (base:=base) F_l_line (ok_l_line F_l_line B C_l_text) m_l_line (fun _ _ _ _ _ _ us hl=>by obtain ⟨u0,rfl⟩:=len1 hl; rfl)
  have C_next_term:=CalR.of (P:=l.prog) (w:=w) (base:=base) F_next_term (ok_next_term F_next_term m_next_term F_term_in_bracket m_term_in_bracket B TX T GN L_0 M_0 M C_is_name C_is_figures 8) m_next_term (fun _ _ _ _ _ _ us hl=>by obtain ⟨u0,u1,rfl⟩:=len2 hl; rfl)
  have C_next_name:=CalR.of (P:=l.prog) (w:=w) (base:=base) F_next_name (ok_next_name F_next_name T GN L_0 M_0 M C_is_name) m_next_name (fun _ _ _ _ _ _ us hl=>by obtain ⟨u0,rfl⟩:=len1 hl; rfl)
  have C_next_figures:=CalR.of (P:=l.prog) (w:=w) (base:=base) F_next_figures (ok_next_figures F_next_figures B T GN L_0 M_0 M C_is_figures) m_next_figures (fun _ _ _ _ _ _ us hl=>by obtain ⟨u0,rfl⟩:=len1 hl; rfl)
  have C_helper_row:=CalR.of (P:=l.prog) (w:=w) (base:=base) F_helper_row (ok_helper_row F_helper_row TX T GN L_0 M_0 M ⟨mki,aI,iI,kcl⟩ G_gI b_gI C_next_name C_next_figures C_next_term) m_helper_row (fun _ _ _ _ _ _ us hl=>by obtain ⟨u0,u1,rfl⟩:=len2 hl; rfl)
  have C_read_helper:=CalR.of (P:=l.prog) (w:=w) (base:=base) F_read_helper (ok_read_helper F_read_helper B TX GN L_0 M_0 C_helper_row) m_read_helper (fun _ _ _ _ _ _ us hl=>by obtain ⟨u0,rfl⟩:=len1 hl; rfl)
  have C_l_words_of:=Cal.of (P:=l.prog) (w:=w) (base:=base) F_l_words_of (ok_l_words_of F_l_words_of B) m_l_words_of (fun _ _ _ _ _ _ us hl=>by obtain ⟨u0,rfl⟩:=len1 hl; rfl)
  have C_l_all_of:=Cal.of (P:=l.prog) (w:=w) (base:=base) F_l_all_of (ok_l_all_of F_l_all_of ) m_l_all_of (fun _ _ _ _ _ _ us hl=>by obtain ⟨u0,u1,rfl⟩:=len2 hl; rfl)
  have C_l_is_name:=Cal.of (P:=l.prog) (w:=w) (base:=base) F_l_is_name (ok_l_is_name F_l_is_name B C_l_all_of) m_l_is_name (fun _ _ _ _ _ _ us hl=>by obtain ⟨u0,rfl⟩:=len1 hl; rfl)
  have C_l_is_figures:=Cal.of (P:=l.prog) (w:=w) (base:=base) F_l_is_figures (ok_l_is_figures F_l_is_figures B C_l_all_of) m_l_is_figures (fun _ _ _ _ _ _ us hl=>by obtain ⟨u0,rfl⟩:=len1 hl; rfl)
  have hsum:=PySem.W.mg_none_of X G hS0
  have hmax:=PySem.W.mg_none_of X G hM0
  have C_l_sized:=Cal.of (P:=l.prog) (w:=w) (base:=base) F_l_sized (ok_l_sized F_l_sized m_l_sized B hsum hmax C_l_words_of C_l_is_name C_l_is_figures 111) m_l_sized (fun _ _ _ _ _ _ us hl=>by obtain ⟨u0,rfl⟩:=len1 hl; rfl)
  have C_l_is_term:=Cal.of (P:=l.prog) (w:=w) (base:=base) F_l_is_term (ok_l_is_term F_l_is_term C_l_sized) m_l_is_term (fun _ _ _ _ _ _ us hl=>by obtain ⟨u0,rfl⟩:=len1 hl; rfl)
  have C_l_is_line:=Cal.of (P:=l.prog) (w:=w) (base:=base) F_l_is_line (ok_l_is_line F_l_is_line B C_l_words_of C_l_is_name C_l_is_figures C_l_is_term) m_l_is_line (fun _ _ _ _ _ _ us hl=>by obtain ⟨u0,rfl⟩:=len1 hl; rfl)
  have C_l_first_wrong:=Cal.of (P:=l.prog) (w:=w) (base:=base) F_l_first_wrong (ok_l_first_wrong F_l_first_wrong B C_l_is_line) m_l_first_wrong (fun _ _ _ _ _ _ us hl=>by obtain ⟨u0,rfl⟩:=len1 hl; rfl)
  have C_l_odd:=Cal.of (P:=l.prog) (w:=w) (base:=base) F_l_odd (ok_l_odd F_l_odd C_l_some) m_l_odd (fun _ _ _ _ _ _ us hl=>by obtain ⟨u0,rfl⟩:=len1 hl; rfl)
  have C_l_sign:=Cal.of (P:=l.prog) (w:=w) (base:=base) F_l_sign (ok_l_sign F_l_sign B C_l_take) m_l_sign (fun _ _ _ _ _ _ us hl=>by obtain ⟨u0,rfl⟩:=len1 hl; rfl)
  have C_l_deep_line:=Cal.of (P:=l.prog) (w:=w) (base:=base) F_l_deep_line (ok_l_deep_line F_l_deep_line B C_l_take) m_l_deep_line (fun _ _ _ _ _ _ us hl=>by obtain ⟨u0,rfl⟩:=len1 hl; rfl)
  have C_l_other_line:=Cal.of (P:=l.prog) (w:=w) (base:=base) F_l_other_line (ok_l_other_line F_l_other_line B nb C_l_take C_l_some C_l_odd C_l_sign) m_l_other_line (fun _ _ _ _ _ _ us hl=>by obtain ⟨u0,u1,u2,rfl⟩:=len3 hl; rfl)
  have C_l_spoilt:=Cal.of (P:=l.prog) (w:=w) (base:=base) F_l_spoilt (ok_l_spoilt F_l_spoilt B hmax C_l_take C_l_some C_l_deep_line C_l_other_line) m_l_spoilt (fun _ _ _ _ _ _ us hl=>by obtain ⟨u0,u1,rfl⟩:=len2 hl; rfl)
  have C_l_told_row:=Cal.of (P:=l.prog) (w:=w) (base:=base) F_l_told_row (ok_l_told_row F_l_told_row B hV TT yn0 C_read_helper) m_l_told_row (fun _ _ _ _ _ _ us hl=>by obtain ⟨u0,rfl⟩:=len1 hl; rfl)
  have C_l_right:=Cal.of (P:=l.prog) (w:=w) (base:=base) F_l_right (ok_l_right F_l_right (by decide) C_l_first_wrong C_l_told_row C_read_helper C_helper_text) m_l_right (fun _ _ _ _ _ _ us hl=>by obtain ⟨u0,rfl⟩:=len1 hl; rfl)
  exact ok_law F_law B C_l_feed C_l_take C_l_name C_l_any_row C_l_line C_l_spoilt C_l_right
theorem walk {l:PySem.W.OpenLaw} {q:Program} {loose:List Str} {XP:(Str→Option Value)→Heap→Prop} {YP:World→Heap→Prop} {d:DefRec} {K:Params→PySem.W.Frag} (hn:l.most=some 63) (hdf:d.params.defaults=[])
    (hY:∀ (w:World) (h:Heap),YP w h→(K w.params).In h)
    (F:∀ (w:World) (mg:Str→Option Value) (fa:Addr) (h:Heap),(K w.params).In h→h.Ns mainGlobals mg→mg d.name=some (.ref fa) →
      ∃ fd:FuncData,(∀ (s:Shared) (u:Value),BindsTo s fd ⟨[u],[]⟩ [("_law_script", u)])∧∀ base:Heap,(K w.params).In base→base.Ns mainGlobals mg→LawOk l.prog w (K w.params) mg base CX0 118 fa fd ["_law_script"] (spLaw (K w.params))) :
    PySem.W.WalkO q loose XP YP l.row.toRowW d [] (fun f vs=>PySem.call f vs) :=
  L2.walk_of (n:=63) (k:=118) (x := "_law_script") (CX:=fun _=>CX0) (sp:=fun w=>spLaw (K w.params)) hn (by decide) hdf ⟨rfl,rfl,by decide,by decide⟩ hY F (fun _ _ a ns hl _ hS=>⟨a,ns,rfl,hS,hl,fun _=>rfl⟩) fun _ _ _ _ _ z=>z
end Mine
local macro_rules|`(command|example:=($a,$xs,*))=>Lean.withRef .missing do
 let q:=`PySem.Challenge;let i:="asktally_k32_the_first_row_that_is_none";let p:=q++.mkSimple s!"cw_{i}_holds"
 let n:Array Lean.Name:=#[q.str s!"pw_{i}",q.str s!"rw_{i}",p.str "tree_47",p.str "tree_605",p.str "sts_49",p.str "heap_39",p.str "heap_46",p.str "heap_606",p.str "env_41",p.str "view_39"]++((Array.range 563).map fun k=>p.str s!"o_{k+43}")++xs.getElems.flatMap fun (x:Lean.Term)=>let x:=x.raw.isNatLit?.getD 0;#[p.str s!"tree_{x}",p.str s!"sts_{x+1}"]
 return Lean.mkNullNode (←n.mapM fun k=>`(command|theorem $(Lean.mkIdent (.mkSimple s!"tw{k.hash}")):ident:True:=⟨⟩))
namespace PySem.W.Fast
example:=(0,71,93,115,137,159,181,203,226,249,272,294,352,410,490,577)
end PySem.W.Fast
open PySem PySem.W PyProof.Rows
set_option maxRecDepth 100000 in
set_option maxHeartbeats 0 in
theorem PySem.Challenge.cw_asktally_k32_the_first_row_that_is_none_holds : PySem.Challenge.rw_asktally_k32_the_first_row_that_is_none.Holds := by
  w_on; o_law; k_head; (case hw=>w_witness2)
  k_fill
  refine Mine.walk (l:=PySem.Challenge.rw_asktally_k32_the_first_row_that_is_none) rfl rfl (fun w h Y=>PySem.W.kIn_of Y) ?F
  case F =>
    intro w mg fa h KX G hmg
    refine' Mine.all_mk KX G hmg ?a0 ?l0 ?c0 ?k0 ?a1 ?l1 ?c1 ?k1 ?a2 ?l2 ?c2 ?k2 ?a3 ?l3 ?c3 ?k3 ?a4 ?l4 ?c4 ?k4 ?a5 ?l5 ?c5 ?k5 ?a6 ?l6 ?c6 ?k6 ?a7 ?l7 ?c7 ?k7 ?a8 ?l8 ?c8 ?k8 ?a9 ?l9 ?c9 ?k9 ?a10 ?l10 ?c10 ?k10 ?a11 ?l11 ?c11 ?k11 ?a12 ?l12 ?c12 ?k12 ?a13 ?l13 ?c13 ?k13 ?a14 ?l14 ?c14 ?k14 ?a15 ?l15 ?c15 ?k15 ?a16 ?l16 ?c16 ?k16 ?a17 ?l17 ?c17 ?k17 ?a18 ?l18 ?c18 ?k18 ?a19 ?l19 ?c19 ?k19 ?a20 ?l20 ?c20 ?k20 ?a21 ?l21 ?c21 ?k21 ?a22 ?l22 ?c22 ?k22 ?a23 ?l23 ?c23 ?k23 ?a24 ?l24 ?c24 ?k24 ?a25 ?l25 ?c25 ?k25 ?a26 ?l26 ?c26 ?k26 ?a27 ?l27 ?c27 ?k27 ?a28 ?l28 ?c28 ?k28 ?a29 ?l29 ?c29 ?k29 ?a30 ?l30 ?c30 ?k30 ?a31 ?l31 ?c31 ?k31 ?a32 ?l32 ?c32 ?k32 ?a33 ?l33 ?c33 ?k33 ?a34 ?l34 ?c34 ?k34 ?a35 ?l35 ?c35 ?k35 ?a36 ?l36 ?c36 ?k36 ?gAs ?iAs0 ?xga ?xrd ?xfc0 ?xlk ?xtp ?xcd ?xkp ?xtk ?yg0 ?yo0 ?ys0 ?ya0 ?yt0 ?yc0 ?ye0 ?yg1 ?yo1 ?ys1 ?ya1 ?yt1 ?yc1 ?ye1 ?yg2 ?yo2 ?ys2 ?ya2 ?yt2 ?yc2 ?ye2 ?yg3 ?yo3 ?ys3 ?ya3 ?yt3 ?yc3 ?ye3 ?yg4 ?yo4 ?ys4 ?ya4 ?yt4 ?yc4 ?ye4 ?yg5 ?yo5 ?ys5 ?ya5 ?yt5 ?yc5 ?ye5 ?yg6 ?yo6 ?ys6 ?ya6 ?yt6 ?yc6 ?ye6 ?yg7 ?yo7 ?ys7 ?ya7 ?yt7 ?yc7 ?ye7 ?yg8 ?yo8 ?ys8 ?ya8 ?yt8 ?yc8 ?ye8 ?yg9 ?yo9 ?ys9 ?ya9 ?yt9 ?yc9 ?ye9 ?yi0 ?yl0 ?yk0 ?yp0 ?yq0 ?yn0 ?hV0 ?hS0 ?hM0 ?nb ?ynd ?gg ?aI ?iI ?lI ?cI ?kI ?aE ?iE ?lE ?cE ?kE ?aS ?iS ?lS ?cS ?kS ?aT ?iT ?lT ?cT ?kT ?aW ?iW ?lW ?cW ?kW ?aF ?iF ?lF ?cF ?kF ?pg ?hdi ?pov ?sat ?mki ?kcl ?nX ?nR ?nW ?nP ?nL ?nN ?g1 ?g3 ?g5 ?g6 ?g7 ?g8 ?e1 ?e2 ?e3 ?w1 ?w2 ?w3 ?j5 ?j6 ?j7 ?j8 ?q5 ?q6 ?q7 ?q8 ?p5 ?p6 ?p7 ?p8 ?tk1 ?tk4 ?tk6 ?z0 ?z1 ?z2 ?z3 ?z4 ?z5 ?z6 ?z7 ?z8 ?z9 ?z10
    (case a0=>k_is); (case l0=>k_is); (case c0=>k_is); (case k0=>k_is)
    (case a1=>k_is); (case l1=>k_is); (case c1=>k_is); (case k1=>k_is)
    (case a2=>k_is); (case l2=>k_is); (case c2=>k_is); (case k2=>k_is)
    (case a3=>k_is); (case l3=>k_is); (case c3=>k_is); (case k3=>k_is)
    (case a4=>k_is); (case l4=>k_is); (case c4=>k_is); (case k4=>k_is)
    (case a5=>k_is); (case l5=>k_is); (case c5=>k_is); (case k5=>k_is)
    (case a6=>k_is); (case l6=>k_is); (case c6=>k_is); (case k6=>k_is)
    (case a7=>k_is); (case l7=>k_is); (case c7=>k_is); (case k7=>k_is)
    (case a8=>k_is); (case l8=>k_is); (case c8=>k_is); (case k8=>k_is)
    (case a9=>k_is); (case l9=>k_is); (case c9=>k_is); (case k9=>k_is)
    (case a10=>k_is); (case l10=>k_is); (case c10=>k_is); (case k10=>k_is)
    (case a11=>k_is); (case l11=>k_is); (case c11=>k_is); (case k11=>k_is)
    (case a12=>k_is); (case l12=>k_is); (case c12=>k_is); (case k12=>k_is)
    (case a13=>k_is); (case l13=>k_is); (case c13=>k_is); (case k13=>k_is)
    (case a14=>k_is); (case l14=>k_is); (case c14=>k_is); (case k14=>k_is)
    (case a15=>k_is); (case l15=>k_is); (case c15=>k_is); (case k15=>k_is)
    (case a16=>k_is); (case l16=>k_is); (case c16=>k_is); (case k16=>k_is)
    (case a17=>k_is); (case l17=>k_is); (case c17=>k_is); (case k17=>k_is)
    (case a18=>k_is); (case l18=>k_is); (case c18=>k_is); (case k18=>k_is)
    (case a19=>k_is); (case l19=>k_is); (case c19=>k_is); (case k19=>k_is)
    (case a20=>k_is); (case l20=>k_is); (case c20=>k_is); (case k20=>k_is)
    (case a21=>k_is); (case l21=>k_is); (case c21=>k_is); (case k21=>k_is)
    (case a22=>k_is); (case l22=>k_is); (case c22=>k_is); (case k22=>k_is)
    (case a23=>k_is); (case l23=>k_is); (case c23=>k_is); (case k23=>k_is)
    (case a24=>k_is); (case l24=>k_is); (case c24=>k_is); (case k24=>k_is)
    (case a25=>k_is); (case l25=>k_is); (case c25=>k_is); (case k25=>k_is)
    (case a26=>k_is); (case l26=>k_is); (case c26=>k_is); (case k26=>k_is)
    (case a27=>k_is); (case l27=>k_is); (case c27=>k_is); (case k27=>k_is)
    (case a28=>k_is); (case l28=>k_is); (case c28=>k_is); (case k28=>k_is)
    (case a29=>k_is); (case l29=>k_is); (case c29=>k_is); (case k29=>k_is)
    (case a30=>k_is); (case l30=>k_is); (case c30=>k_is); (case k30=>k_is)
    (case a31=>k_is); (case l31=>k_is); (case c31=>k_is); (case k31=>k_is)
    (case a32=>k_is); (case l32=>k_is); (case c32=>k_is); (case k32=>k_is)
    (case a33=>k_is); (case l33=>k_is); (case c33=>k_is); (case k33=>k_is)
    (case a34=>k_is); (case l34=>k_is); (case c34=>k_is); (case k34=>k_is)
    (case a35=>k_is); (case l35=>k_is); (case c35=>k_is); (case k35=>k_is)
    (case a36=>k_is); (case l36=>k_is); (case c36=>k_is); (case k36=>k_is)
    (case gAs=>k_is)
    (case iAs0=>k_is)
    (case xga=>k_is)
    (case xrd=>k_is)
    (case xfc0=>k_is)
    (case xlk=>k_is)
    (case xtp=>k_is)
    (case xcd=>k_is)
    (case xkp=>k_is)
    (case xtk=>decide)
    (case yg0=>k_is)
    (case yo0=>k_is)
    (case ys0=>k_is)
    (case ya0=>k_is)
    (case yt0=>k_is)
    (case yc0=>k_is)
    (case ye0=>decide)
    (case yg1=>k_is)
    (case yo1=>k_is)
    (case ys1=>k_is)
    (case ya1=>k_is)
    (case yt1=>k_is)
    (case yc1=>k_is)
    (case ye1=>decide)
    (case yg2=>k_is)
    (case yo2=>k_is)
    (case ys2=>k_is)
    (case ya2=>k_is)
    (case yt2=>k_is)
    (case yc2=>k_is)
    (case ye2=>decide)
    (case yg3=>k_is)
    (case yo3=>k_is)
    (case ys3=>k_is)
    (case ya3=>k_is)
    (case yt3=>k_is)
    (case yc3=>k_is)
    (case ye3=>decide)
    (case yg4=>k_is)
    (case yo4=>k_is)
    (case ys4=>k_is)
    (case ya4=>k_is)
    (case yt4=>k_is)
    (case yc4=>k_is)
    (case ye4=>decide)
    (case yg5=>k_is)
    (case yo5=>k_is)
    (case ys5=>k_is)
    (case ya5=>k_is)
    (case yt5=>k_is)
    (case yc5=>k_is)
    (case ye5=>decide)
    (case yg6=>k_is)
    (case yo6=>k_is)
    (case ys6=>k_is)
    (case ya6=>k_is)
    (case yt6=>k_is)
    (case yc6=>k_is)
    (case ye6=>decide)
    (case yg7=>k_is)
    (case yo7=>k_is)
    (case ys7=>k_is)
    (case ya7=>k_is)
    (case yt7=>k_is)
    (case yc7=>k_is)
    (case ye7=>decide)
    (case yg8=>k_is)
    (case yo8=>k_is)
    (case ys8=>k_is)
    (case ya8=>k_is)
    (case yt8=>k_is)
    (case yc8=>k_is)
    (case ye8=>decide)
    (case yg9=>k_is)
    (case yo9=>k_is)
    (case ys9=>k_is)
    (case ya9=>k_is)
    (case yt9=>k_is)
    (case yc9=>k_is)
    (case ye9=>decide)
    (case yi0=>k_is)
    (case yl0=>k_is)
    (case yk0=>k_is)
    (case yp0=>k_is)
    (case yq0=>k_is)
    (case yn0=>k_is)
    (case hV0=>k_is)
    (case hS0=>k_is)
    (case hM0=>k_is)
    (case nb=>k_is)
    (case ynd=>decide)
    (case gg=>k_is)
    (case aI=>k_is)
    (case iI=>k_is)
    (case lI=>k_is)
    (case cI=>k_is)
    (case kI=>k_is)
    (case aE=>k_is)
    (case iE=>k_is)
    (case lE=>k_is)
    (case cE=>k_is)
    (case kE=>k_is)
    (case aS=>k_is)
    (case iS=>k_is)
    (case lS=>k_is)
    (case cS=>k_is)
    (case kS=>k_is)
    (case aT=>k_is)
    (case iT=>k_is)
    (case lT=>k_is)
    (case cT=>k_is)
    (case kT=>k_is)
    (case aW=>k_is)
    (case iW=>k_is)
    (case lW=>k_is)
    (case cW=>k_is)
    (case kW=>k_is)
    (case aF=>k_is)
    (case iF=>k_is)
    (case lF=>k_is)
    (case cF=>k_is)
    (case kF=>k_is)
    (case pg=>k_is)
    (case hdi=>k_is)
    (case pov=>k_is)
    (case sat=>k_is)
    (case mki=>k_is)
    (case kcl=>k_is)
    (case nX=>k_is)
    (case nR=>k_is)
    (case nW=>k_is)
    (case nP=>k_is)
    (case nL=>k_is)
    (case nN=>k_is)
    (case g1=>k_is)
    (case g3=>k_is)
    (case g5=>k_is)
    (case g6=>k_is)
    (case g7=>decide)
    (case g8=>exact Mine.kept_vals)
    (case e1=>k_is)
    (case e2=>k_is)
    (case e3=>k_is)
    (case w1=>k_is)
    (case w2=>k_is)
    (case w3=>k_is)
    (case j5=>k_is)
    (case j6=>k_is)
    (case j7=>decide)
    (case j8=>exact Mine.sign_vals)
    (case q5=>k_is)
    (case q6=>k_is)
    (case q7=>decide)
    (case q8=>exact Mine.ask_vals)
    (case p5=>k_is)
    (case p6=>k_is)
    (case p7=>decide)
    (case p8=>exact Mine.plain_vals)
    (case tk1=>decide)
    (case tk4=>decide)
    (case tk6=>decide)
    (case z0=>k_is)
    (case z1=>k_is)
    (case z2=>k_is)
    (case z3=>k_is)
    (case z4=>k_is)
    (case z5=>k_is)
    (case z6=>k_is)
    (case z7=>k_is)
    (case z8=>k_is)
    (case z9=>k_is)
    (case z10=>k_is)
